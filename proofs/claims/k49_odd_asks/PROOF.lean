import PyProof.Rows.All
import Wide.All
import OpenK.AllK
import Wide.FinOn
import Lean
import PyProof.EqAt
import PyProof.EqKinds
import PyProof.TupleCall
import PyProof.IsiH_tuple
import PyProof.NsDelKeeps
import PyProof.FString4
import PyProof.ExcBaseAll.ValueError
import PyProof.ForAny
import KE.KIsAll
import KE.KSortTup
import KE.KLam
import KE.KNestM
import PyProof.StrWalks
import PyProof.SliceStr2
import PyProof.StrBlockI
import KE.KIntText
import PyProof.StrCalls2
import PyProof.StrLawsTight
import PyProof.Rows.FStrParts
import PyProof.Rows.StrInSeq3
import PyProof.TupleKey
import PyProof.IsRules
import PyProof.SumWalkG
import PyProof.EnumFor
import PyProof.EnumStmt
import PyProof.EnumMake
import PyProof.StrBlock2
import PyProof.ZipIter
import PyProof.ListNew
import PyProof.DictIter
import PyProof.DictFindH
import PyProof.ListRange
import PyProof.TupleOfGen
import PyProof.LongRange
import PyProof.DictValues
import KE.KDictList
import KE.KEqDict
import PyProof.P3In
import PyProof.TupleIter
import PyProof.WalksMore
import PySem.Challenge.RW_heldwhen_k49_odd_asks
local macro_rules | `(tactic| exists $t) => `(tactic| with_unfolding_all exact $t)
local macro_rules | `(tactic| decide) => `(tactic| decide +kernel)
local macro_rules | `(tactic| ac_rfl) => `(tactic| (constructor <;> first | rfl | decide +kernel))
local macro_rules | `({$x:term,$xs:term,*}) => `(⟨$x,$xs,*⟩)
local macro_rules | `(∅) => `(by first|omega|decide +kernel|simp)
local macro_rules | `(‹$x›) => `(by simpa using $x)
local macro_rules | `(tactic| let ⟨$xs,*⟩ := $e) => do
  let rec go (n : Nat) (s : Lean.Syntax) : Lean.MacroM (Lean.TSyntax `rcasesPat) := match n with
    | 0 => Lean.Macro.throwUnsupported
    | n+1 => match s with
      | `(term| ⟨$ys,*⟩) => do
        let zs ← ys.getElems.mapM fun y => do let z ← go n y.raw; `(Lean.Parser.Tactic.rcasesPatLo| $z:rcasesPat)
        `(rcasesPat| ⟨$zs,*⟩)
      | `(term| _) => `(rcasesPat| _)
      | s => `(rcasesPat| $(⟨s⟩):ident)
  let zs ← xs.getElems.mapM fun y => do let z ← go 9 y.raw; `(Lean.Parser.Tactic.rcasesPatLo| $z:rcasesPat)
  `(tactic| obtain ⟨$zs,*⟩ := $e)
local macro_rules | `(tactic| rwa [$rs,*] $[$l:location]?) => do
  let ys ← rs.getElems.mapM fun r => `(Lean.Parser.Tactic.simpLemma| $(⟨r.raw[1]⟩):term)
  `(tactic| simp only [$ys,*] $[$l]?)
set_option Elab.async false
set_option linter.all false
set_option genSizeOf false
set_option genInjectivity false
set_option maxRecDepth 100000
noncomputable section
open PySem PySem.Spec
abbrev UO.{u}:=@Option.{u}
abbrev A0.{u}:=@List.{u}
abbrev A2:=Shared
abbrev A4:=Addr
abbrev A6:=Value
abbrev A7:=Program
abbrev A9:=Bool
abbrev AD:=Expr
abbrev AF:=World
abbrev AG:=Heap
abbrev AI:=Around
abbrev AN:=Stmt
abbrev AW.{u}:=@Array.{u}
def A8:=@if_pos
def AE:=@if_neg
def AH:=@absurd
def AQ:=@congrArg
namespace Y0
open PyProof.Rows
def AO:=@Option.bind_eq_some_iff
abbrev AJ:=PySem.W.Frag
def AY:=@wpAny_bind
def AZ:=@Option.bind_some
def BI:=@List.length_map
def BA:=@List.map_cons
def Bn:=@List.getElem?_eq_some_iff
def BJ:=@List.mem_cons
def Bb:=@List.mem_append_right
def Bl:=@Heap.get?_push_of_some
def BH:=@Nat.le_refl
def Bk:=@List.mem_cons_of_mem
def BG:=@wpAny_pure
def BR:=@List.size_toArray
def Be:=@Nat.lt_of_lt_of_le
def Bi:=@List.mem_singleton
def C0:=@List.getElem?_append_left
def BO:=@Heap.lt_size
def BK:=@wpAny_mono
def Bg:=@List.length_cons
def Bf:=@decide_eq_false
def Bw:=@List.mem_cons_self
def Bx:=@List.length_append
def Ba:=@Nat.ne_of_lt
def Bq:=@decide_eq_true
def Bv:=@List.map_append
def DG:=@Option.map_eq_some_iff
def Cw:=@Heap.get?_push_size
def DZ:=@List.getElem?_set_self
def Dw:=@List.getElem?_append_right
def C2:=@List.mem_append
def DE:=@List.mem_of_getElem?
def Br:=@Nat.le_trans
def DA:=@List.getElem?_map
def EF:=@List.getElem?_eq_getElem
def D8:=@List.lookup_cons
def DY:=@Bool.false_eq_true
def Ey:=@Array.getElem?_eq_some_iff
def CP:=@List.any_cons
def CN:=@PySem.W.mg_of
def Cg:=@Nat.lt_irrefl
def DX:=@Bool.and_eq_true
def Ds:=@PySem.W.mg_none_of
def DV:=@Option.map_some
def DU:=@PySem.W.kia_one
def Ej:=@List.getElem?_set_ne
def EE:=@wpAny_Call_Name_kw
def EB:=@Int.toNat_natCast
def DS:=@Bool.not_true
def DC:=@List.map_nil
def Dr:=@List.append_nil
def EA:=@Option.bind_none
def F1:=@List.append_assoc
def F8:=@Bool.false_ne_true
def Dl:=@Nat.lt_trans
def F0:=@List.all_eq_true
def Ez:=@List.not_mem_nil
def Dg:=@wpAny_field
def EH:=@Bool.not_false
def za7:=@List.filterMap_cons
def F7:=@Nat.lt_succ_self
def za9:=@List.drop_eq_getElem_cons
def zba:=@List.getElem?_eq_none_iff
def zbb:=@List.mem_append_left
def F6:=@List.find?_cons
def E9:=@List.map_map
def zbe:=@wpAny_newObj_type
def zbf:=@List.length_take
def E8:=@Nat.zero_le
def zbh:=@List.take_of_length_le
def Eh:=@codeAny_mono
def zbj:=@PySem.W.callWith_K
def zbk:=@Option.map_none
def zbl:=@wpAny_truthy_bool
def zbm:=@Bool.false_and
def zbn:=@Heap.size_push
def zbo:=@wpAny_execs_cons
def zbp:=@wpAny_comprehension_free
def zbq:=@beq_self_eq_true
def zbr:=@List.getElem?_replicate
def zbs:=@wpAny_holding
def zbt:=@List.all_cons
def zbu:=@List.length_nil
def zbv:=@wpAny_setField_rec
def zbw:=@List.set_cons_zero
def zbx:=@PySem.W.cellsFrom_some
def zby:=@List.filter_eq_nil_iff
def zbz:=@List.eq_nil_of_length_eq_zero
def zbA:=@List.flatMap_cons
def zbB:=@List.length_replicate
def zbC:=@List.mem_map
def zbD:=@PySem.W.looks_findIn
def zbE:=@List.mem_of_mem_take
def zbF:=@List.length_pos_iff
def zbG:=@wpAny_execs_nil
def zbH:=@wpAny_passesOwn
def zbI:=@Nat.le_of_lt
def zbJ:=@List.contains_cons
def zbK:=@Nat.mul_le_mul
def zbL:=@List.getElem?_cons_zero
def zbM:=@wpAny_loadPart_at
def zbN:=@Bool.and_self
def zbO:=@List.length_drop
def zbP:=@Option.getD_none
def zbQ:=@List.filter_cons
def zbR:=@Array.toList_inj
def zbS:=@List.length_singleton
def zbT:=@List.getElem?_eq_none
def zbU:=@List.mem_filter
def zbV:=@Heap.get?_none_of_le
def zbW:=@List.nodup_cons
def zbX:=@Bool.or_eq_false_iff
def zbY:=@List.mem_of_mem_drop
def zbZ:=@Array.length_toList
def zb0:=@PySem.W.plainGet_of
def zb1:=@List.replicate_succ
def zb2:=@List.mem_range
def zb3:=@List.eraseIdx_length_sub_one
def zb4:=@Array.append_assoc
def zb5:=@Int.natAbs_natCast
def zb6:=@wpAny_standAt
def zb7:=@Bool.true_and
def zb8:=@List.map_take
def zb9:=@wpAny_Return_some
def zca:=@PySem.W.kitx_list
def zcb:=@PySem.W.kitx_dict
def zcc:=@wpAny_call
def zcd:=@wpAny_call_entry
def zce:=@PySem.W.any_some
def zcf:=@List.cons_append
def zcg:=@List.getElem_mem
def zch:=@List.drop_length
def zci:=@Nat.zero_add
def zcj:=@wpAny_specialOf
def zck:=@List.of_mem_zip
def zcl:=@Bool.eq_iff_iff
def zcm:=@List.nil_append
def zcn:=@Bool.or_eq_true
def zco:=@List.foldl_cons
def zcp:=@sizeLine_eq
def zcq:=@Nat.le_succ
end Y0
open Y0
namespace Y1z
abbrev Ta:=A0 (A0 Int)
abbrev Tc:=A6->A2->Prop
abbrev Td:=A0 (A4×Obj)
abbrev Te:=Str->UO A6
abbrev Tf:=A0 A6
abbrev Tg:=A0 A4
abbrev Ti:=UO A6
abbrev Tj:=A0 Int
abbrev Tk:=AW A6
abbrev Tl:=A0 AD
abbrev Tn:=A0 AN
abbrev To:=A0 Str
end Y1z
open Y1z
namespace L2
open PyProof.Rows
section
variable {prog:A7}{w:AF}{A:AI}{E:Tc}{s:A2}
def pA {Q:Int->A2->Prop}(h:Q 0xFCA86420 {s with toks:=s.toks+1}):wpAny (model prog w) A (pyHash .none) Q E s:=by
 have hT:s.TypeIs .none "NoneType":=rfl
 show wpAny _ _ (pyHashByItsType .none) _ _ s
 unfold pyHashByItsType;refine AY (wpAny_cRoomFor_byValue rfl ?_);refine AY (zcj hT F.slot_NoneType_hash.lookup ?_);rw[AE ∅];refine AY (zcj hT F.slot_NoneType_hash.lookup ?_);rw[AE ∅]
 show wpAny _ _ (callSpecialIfBoundUnlessNone? .none "__hash__" _ >>= _) Q E s
 refine AY (wpAny_callSpecialIfBoundUnlessNone?_slot hT F.slot_NoneType_hash
  (zcd F.slot_NoneType_hash hT F.entry_NoneType_hash
   (show wpAny _ _ (do ret (←mkInt 0xFCA86420)) _ _ s from wpAny_ret_mkInt ?_) (F.args_NoneType_hash_1 _)))
 show wpAny _ _ (if (decide (-(2:Int) ^ 63<=0xFCA86420)&&decide ((0xFCA86420:Int)<2 ^ 63))=true then _ else _) Q E _
 rw[A8 ∅];exact BG h
def pB {Q:A9->A2->Prop}(h:Q true s):wpAny (model prog w) A (eqBool .none .none) Q E s:=by unfold eqBool;refine zbs ?_;rw[A8 ∅];exact AY (wpAny_rule (BG h))
end
abbrev cQ:=Sum Int (UO Str)
noncomputable def qN:cQ->A6->A9
 |.inl k,v=>Value.isInt k v
 |.inr (some x),v=>Value.isStrOf x v
 |.inr none,v=>v == .none
noncomputable def RP (w:AF):cQ->Int
 |.inl k=>hashInt k
 |.inr (some x)=>hashStr w x
 |.inr none=>0xFCA86420
theorem c8:∀{k:cQ} {v:A6},qN k v=true->(∃i t,k=Sum.inl i/\v=Value.int i t)\/(∃x t,k=Sum.inr (some x)/\v=Value.str x t)\/(k=Sum.inr none/\v=Value.none)
 |.inl i,v,h=>by let⟨t,e⟩:=Value.isInt_shape (k:=i) (v:=v) h;exact .inl {i,t,rfl,e}
 |.inr (some x),v,h=>by let⟨t,e⟩:=Value.isStrOf_shape (x:=x) (v:=v) h;exact .inr (.inl {x,t,rfl,e})
 |.inr none,v,h=>.inr (.inr {rfl,eq_of_beq h})
def JBn (i:Int)(t:Tok):qN (.inl i) (.int i t)=true:=by simp[qN,Value.isInt]
def JBl (x:Str)(t:Tok):qN (.inr (some x)) (.str x t)=true:=by simp[qN,Value.isStrOf]
def JBm:qN (.inr none) .none=true:=by simp[qN]
def L1 (a b:Int):decide ((Sum.inl a:cQ)=Sum.inl b)=(a == b):=by
 by_cases e:a=b
 ·subst e;simp
 ·have h:¬ (Sum.inl a:cQ)=Sum.inl b:=λq=>e (Sum.inl.inj q);rw[Bf h];exact(beq_eq_false_iff_ne.mpr e).symm
def LZ (a b:Str):decide ((Sum.inr (some a):cQ)=Sum.inr (some b))=decide (a=b):=by
 by_cases e:a=b
 ·subst e;simp
 ·have h:¬ (Sum.inr (some a):cQ)=Sum.inr (some b):=λq=>e (Option.some.inj (Sum.inr.inj q));rw[Bf h,Bf e]
noncomputable def df (prog:A7)(w:AF):PySem.KeyKind prog w cQ where
 is:=qN
 hash:=RP w
 inj:=λv a b ha hb=>by
  rcases c8 ha with⟨i,t,rfl,rfl⟩|⟨x,t,rfl,rfl⟩|⟨rfl,rfl⟩
  ·rcases c8 hb with⟨j,u,rfl,e⟩|⟨y,u,rfl,e⟩|⟨rfl,e⟩
   ·injection e with e1 _;rw[e1]
   ·exact nomatch e
   ·exact nomatch e
  ·rcases c8 hb with⟨j,u,rfl,e⟩|⟨y,u,rfl,e⟩|⟨rfl,e⟩
   ·exact nomatch e
   ·injection e with e1 _;rw[e1]
   ·exact nomatch e
  ·rcases c8 hb with⟨j,u,rfl,e⟩|⟨y,u,rfl,e⟩|⟨rfl,e⟩
   ·exact nomatch e
   ·exact nomatch e
   ·rfl
 byValue:=λk v h=>by
  rcases c8 h with⟨i,t,rfl,rfl⟩|⟨x,t,rfl,rfl⟩|⟨rfl,rfl⟩ <;> rfl
 pyHash:=λhv h=>by
  rcases c8 hv with⟨i,t,rfl,rfl⟩|⟨x,t,rfl,rfl⟩|⟨rfl,rfl⟩
  ·exact wpAny_pyHash_int h
  ·exact wpAny_pyHash_str h
  ·exact pA h
 eqBool:=λhu hv h=>by
  rcases c8 hu with⟨i,t,rfl,rfl⟩|⟨x,t,rfl,rfl⟩|⟨rfl,rfl⟩
  ·rcases c8 hv with⟨j,u,rfl,rfl⟩|⟨y,u,rfl,rfl⟩|⟨rfl,rfl⟩
   ·rw[L1] at h;exact wpAny_eqBool_int h
   ·exact SeqAt.EqAt.int_str i t y u _ _ _ _ ‹h›
   ·exact SeqAt.EqAt.int_none i t _ _ _ _ ‹h›
  ·rcases c8 hv with⟨j,u,rfl,rfl⟩|⟨y,u,rfl,rfl⟩|⟨rfl,rfl⟩
   ·exact SeqAt.EqAt.str_int x t j u _ _ _ _ ‹h›
   ·rw[LZ] at h;exact wpAny_eqBool_str h
   ·exact SeqAt.EqAt.str_none x t _ _ _ _ ‹h›
  ·rcases c8 hv with⟨j,u,rfl,rfl⟩|⟨y,u,rfl,rfl⟩|⟨rfl,rfl⟩
   ·exact SeqAt.EqAt.none_int j u _ _ _ _ ‹h›
   ·exact SeqAt.EqAt.none_str y u _ _ _ _ ‹h›
   ·exact pB ‹h›
 «strs»:=λk x t v h=>by
  rcases c8 h with⟨i,u,rfl,e⟩|⟨y,u,rfl,e⟩|⟨rfl,e⟩
  ·exact nomatch e
  ·injection e with e1 _
   subst e1;cases v <;> rfl
  ·exact nomatch e
def wV (prog:A7)(w:AF)(i:Int)(t:Tok):(df prog w).is (.inl i) (.int i t)=true:=JBn i t
def wU (prog:A7)(w:AF)(x:Str)(t:Tok):(df prog w).is (.inr (some x)) (.str x t)=true:=JBl x t
set_option genInjectivity true in
inductive V where
 |non|bl (b:Bool)|int (i:Int)|str (x:Str)|byt (b:Array UInt8)|flt (b:UInt64)|ref (a:Addr)|ty (n:String)
 deriving DecidableEq
def bQ:V->A6->Prop
 |.non,u=>u=Value.none
 |.bl b,u=>u=Value.bool b
 |.int i,u=>∃t,u=Value.int i t
 |.str x,u=>∃t,u=Value.str x t
 |.byt b,u=>∃t,u=Value.bytes b t
 |.flt b,u=>∃t,u=Value.float b t
 |.ref a,u=>u=Value.ref a
 |.ty n,u=>u=Value.type n
abbrev bO:A0 V->A0 A6->Prop:=Paired bQ
def bO.length {xs:A0 V}{us:Tf}(r:bO xs us):xs.length=us.length:=Paired.length r
theorem bO.get:∀{xs:A0 V} {us:Tf} {i:Nat} {x:V},bO xs us->xs[i]?=some x->∃u,us[i]?=some u/\bQ x u
 |_,_,_,_,.nil,e=>by simp at e
 |_,_,0,_,.cons r _,e=>by simp at e;subst e;exact{_,rfl,r}
 |_,_,i+1,x,.cons _ t,e=>by let⟨u,h1,h2⟩:=bO.get (i:=i) (x:=x) t ‹e›;exact{u,by simpa using h1,h2}
theorem bO.set {x:V}{u:A6}(r:bQ x u):∀{xs:A0 V} {us:Tf} (i:Nat),bO xs us->bO (xs.set i x) (us.set i u)
 |_,_,_,.nil=>.nil
 |_,_,0,.cons _ t=>.cons r t
 |_,_,i+1,.cons q t=>.cons q (bO.set r i t)
theorem bO.append:∀{xs ys:A0 V} {us ws:Tf},bO xs us->bO ys ws->bO (xs++ys) (us++ws)
 |_,_,_,_,.nil,s=>s
 |_,_,_,_,.cons r t,s=>.cons r (bO.append t s)
theorem bO.take:∀{xs:A0 V} {us:Tf} (n:Nat),bO xs us->bO (xs.take n) (us.take n)
 |_,_,0,_=>.nil
 |_,_,_+1,.nil=>.nil
 |_,_,n+1,.cons r t=>.cons r (bO.take n t)
theorem bO.drop:∀{xs:A0 V} {us:Tf} (n:Nat),bO xs us->bO (xs.drop n) (us.drop n)
 |_,_,0,r=>r
 |_,_,_+1,.nil=>.nil
 |_,_,n+1,.cons _ t=>bO.drop n t
def oq:UO V->UO A6->Prop
 |some v,some u=>bQ v u
 |none,none=>True
 |_,_=>False
def KV {κ:Type}:A0 (κ×V)->A0 (κ×A6)->Prop:=Paired λ(p:κ×V) (q:κ×A6)=>p.1=q.1/\bQ p.2 q.2
noncomputable def kV:cQ->V
 |.inl i=>.int i
 |.inr (some x)=>.str x
 |.inr none=>.non
inductive HO where
 |lst (xs:List V)
 |tup (xs:List V)
 |dK (kvs:List (cQ×V))|dT (kvs:List (List cQ×V))
 |set (S:Int->Bool) (n:Nat)
 |ins (C dx:Addr) (fs:List (Str×V))
 |own (x:Addr)
 |xd (fs:List (Str×V))
 |met (f x:Addr)
 |rng (lo hi:Int)
 |frz (o:Obj) (u:HO)
 |tbl (ps:Tk)
 |ext (φ:Heap->Prop)
abbrev Hp:=A4->UO HO
noncomputable def upd (H:Hp)(a:A4)(o:HO):Hp:=λb=>if b=a then some o else H b
def fX {H:Hp}{a:A4}{o:HO}:upd H a o a=some o:=by unfold upd;rw[A8 rfl]
def aT {H:Hp}{a b:A4}{o:HO}(h:b≠a):upd H a o b=H b:=by unfold upd;rw[AE h]
def O3 {H:Hp}{a b:A4}{o u:HO}(h:H a=some o)(h':H b=some u)(d:o≠u):a≠b:=by intro e;subst e;rw[h] at h';exact d (Option.some.inj h')
def jX {H:Hp}{a b:A4}{o:HO}(h:H a=some o)(h':H b=none):a≠b:=by intro e;subst e;rw[h] at h';cases h'
def nM (h:AG)(a:A4)(items:Tk):Prop:=IsTup h a items/\∀o,h.get? a=some o->o.dict=none
def nM.new (h:AG)(items:Tk):nM (h.push {cls:=.type "tuple",data:=.seq items}) h.objs.size items:={IsTup.new _ _,λo e=>by rw[Cw _ rfl] at e;cases e;rfl}
section
variable (P:A7)(w:AF)
def eY (H:Hp)(h:AG)(a:A4):HO->Prop
 |.lst xs=>xs.length<=sizeLine/\∃(its:Tf) (n:Nat),bO xs its/\h.get? a=some {cls:=.type "list",data:=.seq its.toArray n}
 |.tup xs=>xs.length<=sizeLine/\∃its:Tf,bO xs its/\nM h a its.toArray
 |.dK kvs=>kvs.length<=sizeLine/\(a == sysModules)=false/\∃vs,KV kvs vs/\h.DictOf (df P w) a vs
 |.dT kvs=>kvs.length<=sizeLine/\(a == sysModules)=false/\∃xs:A0 (A0 cQ×A4×A6),
   Paired (λ(p:A0 cQ×V) (q:A0 cQ×A4×A6)=>p.1=q.1/\H q.2.1=some (.tup (p.1.map kV))/\bQ p.2 q.2.2) kvs xs /\
   ∃o es ep,h.get? a=some o/\o.ExactDict/\o.data=.dict es ep/\es.toList=xs.map (entryOfKey (tupleKind (df P w)))/\(xs.map (·.1)).Nodup
 |.set S n=>h.SetOf (intKind P w) a S n
 |.ins C dx fs=>H dx=some (.own a)/\fs.length<=1000/\dx≠a/\h.get? a=some (PySem.W.instObj C dx) /\
   ∃mA,h.Ns1 dx mA/\(∀f,oq (fs.lookup f) (mA f))/\PySem.Within mA (fs.map (·.1))
 |.own _=>∃o,h.get? a=some o
 |.xd fs=>∃mA,h.Ns1 a mA/\∀f,oq (fs.lookup f) (mA f)
 |.rng lo hi=>∃t u v,h.get? a=some {cls:=.type "range",data:=.fields #[.int lo t,.int hi u,.int 1 v]}
 |.frz o u=>h.get? a=some o/\eY H h a u
 |.tbl ps=>h.get? a=some {cls:=.none,data:=.fields ps}
 |.met f x=>h.get? a=some (PySem.W.methodObj (.ref f) (.ref x))
 |.ext φ=>φ h/\(∃o,h.get? a=some o)/\∀h1 h2:AG,φ h1->(∀o,h1.get? a=some o->h2.get? a=some o)->φ h2
def kz (H:Hp)(h:AG):Prop:=∀a o,H a=some o->eY P w H h a o
end
section
variable {P:A7}{w:AF}{H H':Hp}{h h':AG}{a:A4}{o:HO}
theorem eY.lt (x:eY P w H h a o):a<h.objs.size:=by
 cases o with
 |lst xs=>let⟨_,_,_,_,e⟩:=x;exact BO e
 |tup xs=>let⟨_,_,_,p⟩:=x;exact p.1.lt
 |dK kvs=>let⟨_,_,_,_,o,_,_,e,_⟩:=x;exact BO e
 |dT kvs=>let⟨_,_,_,_,o,_,_,e,_⟩:=x;exact BO e
 |set S n=>let⟨o,_,_,_,e,_⟩:=x;exact BO e
 |ins C dx fs=>let⟨_,_,_,e,_⟩:=x;exact BO e
 |own y=>let⟨_,e⟩:=x;exact BO e
 |xd fs=>let⟨_,⟨_,_,_,e,_⟩,_⟩:=x;exact BO e
 |rng lo hi=>let⟨_,_,_,e⟩:=x;exact BO e
 |frz ob u=>let⟨e,_⟩:=x;exact BO e
 |tbl ps=>exact BO (show h.get? a=some _ from x)
 |met f y=>exact BO (show h.get? a=some _ from x)
 |ext φ=>let⟨_,⟨_,e⟩,_⟩:=x;exact BO e
theorem Paired.mapP {Z β:Type}{F G:Z->β->Prop}{l₁:A0 Z}{l₂:A0 β}(h:Paired F l₁ l₂)(f:∀a b,F a b->G a b):Paired G l₁ l₂:=by
 induction h with
 |nil=>exact .nil
 |cons r t ih=>exact .cons (f _ _ r) ih
theorem eY.stay (x:eY P w H h a o)(k:∀b u,(b=a\/H b=some (.own a))->h.get? b=some u->h'.get? b=some u)
  (ho:∀b,H b=some (.own a)->H' b=some (.own a)) (ht:∀b xs,H b=some (.tup xs)->H' b=some (.tup xs)):eY P w H' h' a o:=by
 induction o with
 |lst xs=>let⟨z,its,n,r,e⟩:=x;exact{z,its,n,r,k _ _ (.inl rfl) e}
 |tup xs=>let⟨z,its,r,⟨ob,e,c⟩,dn⟩:=x;exact{z,its,r,{ob,k _ _ (.inl rfl) e,c},λo q=>by rw[k _ _ (.inl rfl) e] at q;cases q;exact dn _ e}
 |dK kvs=>let⟨z,y,vs,r,ob,es,ep,e,c⟩:=x;exact{z,y,vs,r,ob,es,ep,k _ _ (.inl rfl) e,c}
 |dT kvs=>
  let⟨z,y,xs,r,ob,es,ep,e,c⟩:=x;exact{z,y,xs,Paired.mapP r λp q z=>{z.1,ht _ _ z.2.1,z.2.2},ob,es,ep,k _ _ (.inl rfl) e,c}
 |set S n=>let⟨ob,es,ep,t,e,c⟩:=x;exact{ob,es,ep,t,k _ _ (.inl rfl) e,c}
 |ins C dx fs=>
  let⟨d,z,ne,e,mA,⟨od,es,ep,e2,c⟩,r⟩:=x;exact{ho _ d,z,ne,k _ _ (.inl rfl) e,mA,{od,es,ep,k _ _ (.inr d) e2,c},r}
 |own y=>let⟨ob,e⟩:=x;exact{ob,k _ _ (.inl rfl) e}
 |xd fs=>let⟨mA,⟨od,es,ep,e,c⟩,r⟩:=x;exact{mA,{od,es,ep,k _ _ (.inl rfl) e,c},r}
 |rng lo hi=>let⟨t,u,v,e⟩:=x;exact{t,u,v,k _ _ (.inl rfl) e}
 |frz ob u ih=>let⟨e,q⟩:=x;exact{k _ _ (.inl rfl) e,ih q}
 |tbl ps=>
  have e:h.get? a=some {cls:=.none,data:=.fields ps}:=x
  show h'.get? a=some {cls:=.none,data:=.fields ps}
  exact k a _ (.inl rfl) e
 |met f y=>
  have e:h.get? a=some (PySem.W.methodObj (.ref f) (.ref y)):=x
  show h'.get? a=some (PySem.W.methodObj (.ref f) (.ref y))
  exact k a _ (.inl rfl) e
 |ext φ=>let⟨p,⟨o,e⟩,st⟩:=x;exact{st _ _ p λo q=>k _ _ (.inl rfl) q,{o,k _ _ (.inl rfl) e},st}
def kz.lt (x:kz P w H h)(e:H a=some o):a<h.objs.size:=(x a o e).lt
theorem kz.fresh (x:kz P w H h)(e:h.objs.size<=a):H a=none:=by
 cases q:H a with
 |none=>rfl
 |some u=>exact AH (Be (x.lt q) e) (Cg _)
def kz.kept (x:kz P w H h)(k:∀b u,h.get? b=some u->h'.get? b=some u):kz P w H h':=λa o e=>
 (x a o e).stay (λb u _ q=>k b u q) (λ_ q=>q) λ_ _ q=>q
def kz.laid (x:kz P w H h)(k:∀b u,h.get? b=some u->h'.get? b=some u)(hp:h.objs.size<=a)(new:eY P w (upd H a o) h' a o):kz P w (upd H a o) h':=λb u e=>by
 have hn:=x.fresh hp;by_cases hb:b=a
 ·subst hb;rw[fX] at e;cases e;exact new
 ·rw[aT hb] at e;exact(x b u e).stay (λc v _ q=>k c v q) (λc q=>by rw[aT (jX q hn)];exact q) λc xs q=>by rw[aT (jX q hn)];exact q
end
def Rd (H:Hp)(a:A4)(u:HO):Prop:=H a=some u\/∃o,H a=some (.frz o u)
def Rd.ok {H:Hp}{h:AG}{a:A4}{u:HO}(r:Rd H a u)(x:kz P w H h):eY P w H h a u:=by
 rcases r with r|⟨o,r⟩
 ·exact x a u r
 ·let⟨_,q⟩:=x a _ r;exact q
def Qm:UO HO->Prop
 |some (.lst _)=>True
 |some (.dK _)=>True
 |some (.dT _)=>True
 |some (.set _ _)=>True
 |some (.ins _ _ _)=>True
 |some (.ext _)=>True
 |_=>False
section
variable {P:A7}{w:AF}{H:Hp}{h h':AG}{x e:A4}{o':HO}
def kz.write (ok:kz P w H h)(mu:Qm (H x))(he:e=x\/H e=some (.own x))(k:∀b u,b≠e->h.get? b=some u->h'.get? b=some u)(heo:∃u,h'.get? e=some u)
  (new:eY P w (upd H x o') h' x o'):kz P w (upd H x o') h':=λb u q=>by
 have nown:∀c y,H c=some (.own y)->c≠x:=λc y r z=>by subst z;rw[r] at mu;exact mu
 have ntup:∀c xs,H c=some (.tup xs)->c≠x:=λc xs r z=>by subst z;rw[r] at mu;exact mu
 by_cases hb:b=x
 ·subst hb;rw[fX] at q;cases q;exact new
 ·rw[aT hb] at q
  by_cases Fd:b=e
  ·have q':H b=some (.own x):=by
    rcases he with z|z
    ·exact AH (Fd.trans z) hb
    ·rw[Fd];exact z
   rw[q] at q';cases q';let⟨v,hv⟩:=heo;exact{v,by rw[Fd];exact hv}
  ·refine(ok b u q).stay (λc v hc r=>k c v ?_ r) (λc r=>by rw[aT (nown c b r)];exact r) λc xs r=>by rw[aT (ntup c xs r)];exact r
   rcases hc with rfl|hc
   ·exact Fd
   ·rintro rfl
    rcases he with z|z
    ·exact nown c b hc z
    ·rw[hc] at z;cases z;exact hb rfl
end
structure Un (fs ex:Tg)(H H':Hp)(h h':Heap):Prop where
 keep:∀b o,h.get? b=some o->H b=none->b∉fs->b∉ex->h'.get? b=some o
 slot:∀b o,h.get? b=some o->H b=none->b∈fs->b∉ex->∃sl,h'.get? b=some {o with slots:=sl}
 free:∀b o,h.get? b=some o->H b=none->b∉ex->H' b=none
 there:∀b o,h.get? b=some o->b∉ex->∃o',h'.get? b=some o'
 tups:∀b xs,H b=some (.tup xs)->H' b=some (.tup xs)
 frzs:∀b o u,H b=some (.frz o u)->H' b=some (.frz o u)
 tbls:∀b ps,H b=some (.tbl ps)->∃more,H' b=some (.tbl (ps++more))
section
variable {fs ex:Tg}{H H1:Hp}{h h1 h':AG}{a x e:A4}{o:HO}
def Un.any (u:Un fs ex H H1 h h1){b:A4}{ob:Obj}(q:h.get? b=some ob)(n:H b=none)(hx:b∉ex):∃sl,h1.get? b=some {ob with slots:=sl}:=by
 by_cases hb:b∈fs
 ·exact u.slot b ob q n hb hx
 ·exact{ob.slots,u.keep b ob q n hb hx}
def Un.kept (k:∀b u,h.get? b=some u->h'.get? b=some u):Un fs ex H H h h' :=
 {λb ob q _ _ _=>k b ob q,λb ob q _ _ _=>{ob.slots,k b ob q},λ_ _ _ n _=>n,λb ob q _=>{ob,k b ob q},λ_ _ q=>q,λ_ _ _ q=>q,λ_ ps q=>{#[],by rw[q];simp}}
def Un.refl:Un fs ex H H h h:=Un.kept λ_ _ q=>q
def Un.laid (k:∀b u,h.get? b=some u->h'.get? b=some u)(hp:h.objs.size<=a)(hn:H a=none):Un fs ex H (upd H a o) h h' where
 keep:=λb u q _ _ _=>k b u q
 slot:=λb u q _ _ _=>{u.slots,k b u q}
 free:=λb u q n _=>by rw[aT (Ba (Be (BO q) hp))];exact n
 there:=λb u q _=>{u,k b u q}
 tups:=λb xs q=>by rw[aT (jX q hn)];exact q
 frzs:=λb u xs q=>by rw[aT (jX q hn)];exact q
 tbls:=λb ps q=>{#[],by rw[aT (jX q hn),q];simp}
def Un.write (mu:Qm (H x))(he:e=x\/H e=some (.own x))(k:∀b u,b≠e->h.get? b=some u->h'.get? b=some u)(heo:∃u,h'.get? e=some u):Un fs ex H (upd H x o) h h':=by
 have hx:∀b,H b=none->b≠x:=λb n z=>by subst z;rw[n] at mu;exact mu
 have hb:∀b,H b=none->b≠e:=λb n z=>by
  subst z;rcases he with r|r
  ·exact hx b n r
  ·rw[n] at r;cases r
 have hm:∀b u,H b=some u->¬ Qm (some u)->b≠x:=λb u q nm z=>by subst z;rw[q] at mu;exact nm mu
 refine{λb u q n _ _=>k b u (hb b n) q,λb u q n _ _=>{u.slots,k b u (hb b n) q},λb u q n _=>by rw[aT (hx b n)];exact n,λb u q _=>?_,
  λb xs q=>by rw[aT (hm b _ q λz=>z)];exact q,λb u xs q=>by rw[aT (hm b _ q λz=>z)];exact q,λb ps q=>{#[],by rw[aT (hm b _ q λz=>z),q];simp}}
 by_cases Fd:b=e
 ·subst Fd;exact heo
 ·exact{u,k b u Fd q}
end
noncomputable def Qw (h:AG)(H:Hp):Tg:=(List.range h.objs.size).filter λa=>(H a).isSome
noncomputable def vN (h:AG)(H:Hp):AG:=PySem.W.hideAll h (Qw h H)
def JBx (h:AG)(H:Hp):(vN h H).objs.size=h.objs.size:=PySem.W.hideAll_size _ _
def JDq {h:AG}{H:Hp}{b:A4}{o:Obj}(e:h.get? b=some o)(n:H b=none):(vN h H).get? b=some o :=
 PySem.W.hideAll_get _ e λhm=>by have q:(H b).isSome=true:=(zbU.mp hm).2;rw[n] at q;simp at q
theorem Gw {h:AG}{H:Hp}{b:A4}{o:Obj}(e:(vN h H).get? b=some o):h.get? b=some o/\H b=none:=by
 have e':h.get? b=some o:=PySem.W.of_hideAll (Qw h H) e;refine{e',?_}
 cases q:H b with
 |none=>rfl
 |some x=>
  have hm:b∈Qw h H:=zbU.mpr {zb2.mpr (BO e'),by simp[q]};have z:(vN h H).get? b=none:=PySem.W.hideAll_none (Qw h H) hm;rw[z] at e;cases e
noncomputable def Hm (g h:AG)(L:A4):Td:=(List.range h.objs.size).filterMap λa=>if a=L\/(g.get? a).isSome=true then none else (h.get? a).map λo=>(a,o)
noncomputable def rest (g h:AG)(L d:A4):Td:=(Hm g h L).filter λp=>decide (p.1≠d)
structure Mod (K:AJ)(mg:Te)(base:Heap):Prop where
 kin:K.In base
 glob:base.Ns mainGlobals mg
 blt:∃mb,base.Ns builtinsNs mb/\∀x:Str,x≠"__name__"->mb x=bootBuiltins x
 nolimit:base.NoLimit
structure Cx where
 prog:Program
 w:World
 K:AJ
 mg:Te
 base:Heap
 A:Around
 N:To
 s₀:Shared
 H₀:Hp
 env:Env
 outer:List Env
 stack:List Env
 ex:Tg
 fn:Str->Bool
 calm:Bool
 pn:Td
 xe:Tc
noncomputable def j6 (l:A0 Env):Tg:=l.filterMap (·.frame)
abbrev Cx.fs (X:Cx):Tg:=j6 X.outer
def M8 (sc:Scope)(x:Str):Prop:=sc.names.lookup x=some .local\/sc.names.lookup x=some .cell\/sc.names.lookup x=some .free
def Hw (sc:Scope)(x:Str):Prop:=sc.names.lookup x=some .local\/sc.names.lookup x=some .cell
def Qo (env:Env)(h:AG)(m:Te)(x:Str)(u:A6):Prop :=
 (env.kindOf x=some .local/\m x=some u)\/((env.kindOf x=some .cell\/env.kindOf x=some .free)/\∃c,env.cells.lookup x=some c/\h.IsCell c (some u))
structure Cx.Ok (X:Cx):Prop where
 mod:Mod X.K X.mg X.base
 kind:X.env.scope.kind=.function
 glob:X.env.globals=mainGlobals
 blt:X.env.builtins=builtinsNs
 above:X.s₀.heap.objs.size<=X.env.locals
 inj:∀x y c,X.env.cells.lookup x=some c->X.env.cells.lookup y=some c->x=y
 has:∀x,(X.env.kindOf x=some .cell\/X.env.kindOf x=some .free)->∃c,X.env.cells.lookup x=some c
 cab:∀x c,X.fn x=true->X.env.cells.lookup x=some c->X.s₀.heap.objs.size<=c
 hd:X.calm=true->X.A.handled=none
 frames:X.A.frames=some X.stack
 stk:X.stack=X.outer\/(X.stack=X.env::X.outer/\X.env.frame=some X.env.locals)
 exf:∀b∈X.ex,b≠X.env.locals/\∀x c,X.env.cells.lookup x=some c->c≠b
 bs:∀b o,X.base.get? b=some o->X.s₀.heap.get? b=some o/\X.H₀ b=none
 bsz:X.base.objs.size<=X.s₀.heap.objs.size
 noex:∀b o,X.base.get? b=some o->b∉X.ex
 exfs:∀b∈X.ex,b∉X.fs
 funs:X.s₀.heap.FunFrames X.base X.outer
 frf:∀b∈X.fs,X.H₀ b=none
structure aS (X:Cx)(A1:Td)(Y:List (Option V))(H:Hp)(s:Shared):Prop where
 ok:X.Ok
 os:s.os=X.s₀.os
 bare:AllBare s.gens
 base:Un X.fs X.ex X.H₀ H X.s₀.heap s.heap
 loc:∃m,s.heap.Ns X.env.locals m/\∀(i:Nat) (x:Str) (v:V),X.N[i]?=some x->Y[i]?=some (some v)->M8 X.env.scope x->∃u,bQ v u/\Qo X.env s.heap m x u
 cell:∀x c,X.env.cells.lookup x=some c->∃v,s.heap.IsCell c v
 free:H X.env.locals=none
 freeC:∀x c,X.env.cells.lookup x=some c->H c=none
 pin:∀p∈X.pn++A1,s.heap.get? p.1=some p.2/\H p.1=none/\p.1≠X.env.locals/\p.1∉X.fs/\∀v,p.2.data≠.cell v
 hok:kz X.prog X.w H s.heap
 len:Y.length=X.N.length
section
variable {X:Cx}{A1:Td}{Y:A0 (UO V)}{H H':Hp}{s:A2}{h':AG}
def Cx.Ok.nofr (ok:X.Ok){b:A4}{o:Obj}(e:X.base.get? b=some o):b∉X.fs:=λhb=>by have:=(ok.funs.mem hb).1;rw[e] at this;cases this
def aS.bs (I:aS X A1 Y H s):∀b o,X.base.get? b=some o->s.heap.get? b=some o/\H b=none:=λb o e=>
 {I.base.keep b o (I.ok.bs b o e).1 (I.ok.bs b o e).2 (I.ok.nofr e) (I.ok.noex b o e),I.base.free b o (I.ok.bs b o e).1 (I.ok.bs b o e).2 (I.ok.noex b o e)}
def aS.bk (I:aS X A1 Y H s):∀b o,X.base.get? b=some o->s.heap.get? b=some o:=λb o e=>(I.bs b o e).1
def aS.mod (I:aS X A1 Y H s):Mod X.K X.mg X.base:=I.ok.mod
def aS.kIn (I:aS X A1 Y H s):X.K.In s.heap:=I.ok.mod.kin.keeps I.bk
def aS.lt (I:aS X A1 Y H s):X.env.locals<s.heap.objs.size:=let ⟨_,hn,_⟩:=I.loc;hn.lt
def aS.sz (I:aS X A1 Y H s):X.s₀.heap.objs.size<=s.heap.objs.size:=Br I.ok.above (zbI I.lt)
def aS.nofs (I:aS X A1 Y H s){a:A4}(h:s.heap.objs.size<=a):a∉X.fs:=λhb=>by let⟨_,o,ho,_⟩:=I.ok.funs.mem hb;exact AH (Be (BO ho) (Br I.sz h)) (Cg _)
def aS.cne (I:aS X A1 Y H s):∀x c,X.env.cells.lookup x=some c->c≠X.env.locals:=λx c e z=>by let⟨v,o,ho,hd⟩:=I.cell x c e;let⟨m,⟨o',es,ep,F4,hd',_⟩,_⟩:=I.loc;rw[z,F4] at ho;cases ho;rw[hd'] at hd;cases hd
def aS.funs (I:aS X A1 Y H s):s.heap.FunFrames X.base X.outer:=by
 have all:∀(l:A0 Env),(∀b∈j6 l,b∈X.fs)->X.s₀.heap.FunFrames X.base l->s.heap.FunFrames X.base l:=by
  intro l;induction l with
  |nil=>intro _ _;trivial
  |cons env r ih=>
   intro hs hl;let⟨hk,⟨L,o,hf,hn,ho,hd⟩,hr⟩:=hl;have hL:L∈X.fs:=hs L (by unfold j6;rw[za7,hf];exact Bw);let⟨sl,e⟩:=I.base.slot L o ho (I.ok.frf L hL) hL λz=>I.ok.exfs L z hL;exact{hk,{L,_,hf,hn,e,hd},ih (λb hb=>hs b (by unfold j6;rw[za7,hf];exact Bk _ hb)) hr}
 exact all X.outer (λ_ hb=>hb) I.ok.funs
def aS.stack (I:aS X A1 Y H s):s.heap.FunFrames X.base X.stack:=by
 rcases I.ok.stk with e|⟨e,hf⟩
 ·rw[e];exact I.funs
 ·rw[e];let⟨m,hn,_⟩:=I.loc;refine .cons (by rw[I.ok.kind];decide) hf hn ?_ I.funs;exact zbV (Br I.ok.bsz I.ok.above)
def aS.stkSub (I:aS X A1 Y H s):∀b∈j6 X.stack,b∈X.env.locals::X.fs:=λb hb=>by
 rcases I.ok.stk with e|⟨e,hf⟩
 ·rw[e] at hb;exact Bk _ hb
 ·rw[e] at hb;unfold j6 at hb;rw[za7,hf] at hb;exact hb
def aS.stkFree (I:aS X A1 Y H s):∀b∈j6 X.stack,H b=none:=λb hb=>by
 rcases BJ.mp (I.stkSub b hb) with e|hb
 ·rw[e];exact I.free
 ·let⟨_,o,ho,_⟩:=I.ok.funs.mem hb;exact I.base.free b o ho (I.ok.frf b hb) λz=>I.ok.exfs b z hb
def aS.step {g':AW GenState}{t':Nat}{d':Drawn}{ch:Tg}(I:aS X A1 Y H s)
  (Dn:∀b∈ch,(b∈X.ex\/X.s₀.heap.objs.size<=b)/\b≠X.env.locals/\(∀x c,X.env.cells.lookup x=some c->c≠b)/\∀p∈X.pn++A1,p.1≠b)
  (keep:∀b o,b≠X.env.locals->b∉X.fs->b∉ch->s.heap.get? b=some o->H b=none->h'.get? b=some o)
  (slot:∀b o,b≠X.env.locals->b∈X.fs->b∉ch->s.heap.get? b=some o->H b=none->∃sl,h'.get? b=some {o with slots:=sl}) (free:∀b o,b∉ch->s.heap.get? b=some o->H b=none->H' b=none)
  (there:∀b o,b∉ch->s.heap.get? b=some o->∃o',h'.get? b=some o')
  (tups:∀b xs,H b=some (.tup xs)->H' b=some (.tup xs)) (frzs:∀b o u,H b=some (.frz o u)->H' b=some (.frz o u)) (tbls:∀b ps,H b=some (.tbl ps)->∃more,H' b=some (.tbl (ps++more)))
  (ns:∀m,s.heap.Ns X.env.locals m->h'.Ns X.env.locals m) (hok:kz X.prog X.w H' h') (hg:AllBare g') :
  aS X A1 Y H' {s with heap:=h',gens:=g',drawn:=d',toks:=t'}:=by
 have neL:∀b o,X.s₀.heap.get? b=some o->b≠X.env.locals:=λb o e=>Ba (Be (BO e) I.ok.above)
 have neC:∀b o,X.s₀.heap.get? b=some o->b∉X.ex->b∉ch:=λb o e hx hb=>by
  rcases (Dn b hb).1 with z|z
  ·exact hx z
  ·exact AH (Be (BO e) z) (Cg _)
 have cellK:∀x c,X.env.cells.lookup x=some c->∀v,s.heap.IsCell c v->h'.IsCell c v:=λx c e v ⟨o,ho,hd⟩=>by
  have nch:c∉ch:=λz=>(Dn c z).2.2.1 x c e rfl
  by_cases hc:c∈X.fs
  ·let⟨sl,q⟩:=slot c o (I.cne x c e) hc nch ho (I.freeC x c e)
   exact{_,q,hd}
  ·exact{o,keep c o (I.cne x c e) hc nch ho (I.freeC x c e),hd}
 refine{I.ok,I.os,hg,{λb o e n hb hx=>?_,λb o e n hb hx=>?_,λb o e n hx=>?_,λb o e hx=>?_,λb xs e=>tups b xs (I.base.tups b xs e),λb o xs e=>frzs b o xs (I.base.frzs b o xs e),λb ps e=>?_},?_,λx c e=>?_,?_,λx c e=>?_,λp hp=>?_,hok,I.len}
 ·exact keep b o (neL b o e) hb (neC b o e hx) (I.base.keep b o e n hb hx) (I.base.free b o e n hx)
 ·let⟨sl,e1⟩:=I.base.slot b o e n hb hx
  let⟨Di,e2⟩:=slot b _ (neL b o e) hb (neC b o e hx) e1 (I.base.free b o e n hx);exact{Di,e2}
 ·let⟨o',e1⟩:=I.base.there b o e hx
  exact free b o' (neC b o e hx) e1 (I.base.free b o e n hx)
 ·let⟨o',e1⟩:=I.base.there b o e hx
  exact there b o' (neC b o e hx) e1
 ·let⟨m1,e1⟩:=I.base.tbls b ps e
  let⟨m2,e2⟩:=tbls b _ e1;exact{m1++m2,by rw[e2,zb4]}
 ·let⟨m,hn,hl⟩:=I.loc
  refine{m,ns m hn,λi x v e1 e2 e3=>?_};let⟨u,r,l⟩:=hl i x v e1 e2 e3;refine{u,r,?_};rcases l with l|⟨k,c,e,z⟩
  ·exact .inl l
  ·exact .inr {k,c,e,cellK x c e _ z}
 ·let⟨v,z⟩:=I.cell x c e
  exact{v,cellK x c e v z}
 ·let⟨m,⟨o,_,_,ho,_⟩,_⟩:=I.loc
  exact free _ o (λz=>(Dn _ z).2.1 rfl) ho I.free
 ·let⟨v,o,ho,hd⟩:=I.cell x c e
  exact free c o (λz=>(Dn c z).2.2.1 x c e rfl) ho (I.freeC x c e)
 ·let⟨e,n,ne,nf,d⟩:=I.pin p hp
  have nch:p.1∉ch:=λz=>(Dn p.1 z).2.2.2 p hp rfl;exact{keep p.1 p.2 ne nf nch e n,free p.1 p.2 nch e n,ne,nf,d}
def aS.un {t':Nat}(I:aS X A1 Y H s)(u:Un X.fs [] H H' s.heap h')(hok:kz X.prog X.w H' h'):aS X A1 Y H' {s with heap:=h',toks:=t'}:=by let⟨m,⟨o,es,ep,ho,r⟩,_⟩:=id I.loc;let⟨sl,hL⟩:=u.any ho I.free ∅;exact I.step (g':=s.gens) (d':=s.drawn) (ch:=[]) (λ_ z=>nomatch z) (λb o _ hb _ e n=>u.keep b o e n hb ∅) (λb o _ hb _ e n=>u.slot b o e n hb ∅) (λb o _ e n=>u.free b o e n ∅) (λb o _ e=>u.there b o e ∅) u.tups u.frzs u.tbls (λm' hm=>by let⟨o',Bz,ep',F4,r'⟩:=hm;rw[ho] at F4;cases F4;exact{_,Bz,ep',hL,r'}) hok I.bare
def aS.call {g':AW GenState}{t':Nat}{d':Drawn}{ch:Tg}(I:aS X A1 Y H s)(u:Un (j6 X.stack) ch H H' s.heap h')(hok:kz X.prog X.w H' h')(hg:AllBare g')
  (Dn:∀b∈ch,(b∈X.ex\/X.s₀.heap.objs.size<=b)/\b≠X.env.locals/\(∀x c,X.env.cells.lookup x=some c->c≠b)/\∀p∈X.pn++A1,p.1≠b) :
  aS X A1 Y H' {s with heap:=h',gens:=g',drawn:=d',toks:=t'}:=by
 let⟨m,⟨o,es,ep,ho,r⟩,_⟩:=id I.loc;let⟨sl,hL⟩:=u.any ho I.free λz=>(Dn _ z).2.1 rfl
 exact I.step (ch:=ch) Dn (λb o hL hb hc e n=>u.keep b o e n (λz=>(BJ.mp (I.stkSub b z)).elim hL hb) hc) (λb o _ _ hc e n=>u.any e n hc) (λb o hc e n=>u.free b o e n hc) (λb o hc e=>u.there b o e hc) u.tups u.frzs u.tbls (λm' hm=>by
  let⟨o',Bz,ep',F4,r'⟩:=hm;rw[ho] at F4;cases F4
  exact{_,Bz,ep',hL,r'}) hok hg
def aS.turned {t':Nat}{it:A4}(I:aS X A1 Y H s)(k:∀b o,b≠it->s.heap.get? b=some o->h'.get? b=some o)(hn:H it=none)(hL:it≠X.env.locals)
  (h1:it∈X.ex\/X.s₀.heap.objs.size<=it) (h2:∀x c,X.env.cells.lookup x=some c->c≠it) (h3:∀p∈X.pn++A1,p.1≠it):aS X A1 Y H {s with heap:=h',toks:=t'}:=by
 have nit:∀b u,H b=some u->b≠it:=λb u e z=>by rw[z,hn] at e;cases e
 refine I.step (g':=s.gens) (d':=s.drawn) (ch:=[it]) (λb hb=>?_) (λb o _ _ hc e _=>k b o (λz=>hc (by simp[z])) e) (λb o _ _ hc e _=>{o.slots,k b o (λz=>hc (by simp[z])) e}) (λ_ _ _ _ n=>n)
  (λb o hc e=>{o,k b o (λz=>hc (by simp[z])) e}) (λ_ _ e=>e) (λ_ _ _ e=>e) (λb ps e=>{#[],by rw[e];simp}) (λm hm=>?_) (λb u e=>?_) I.bare
 ·have e:b=it:=by simpa using hb
  subst e;exact{h1,hL,h2,h3}
 ·let⟨o,es,ep,ho,r⟩:=hm
  exact{o,es,ep,k _ o (Ne.symm hL) ho,r}
 ·refine(I.hok b u e).stay (λc v hc q=>k c v ?_ q) (λ_ q=>q) λ_ _ q=>q
  rcases hc with z|z
  ·rw[z];exact nit b u e
  ·exact nit c _ z
def aS.tok (I:aS X A1 Y H s)(t:Nat):aS X A1 Y H {s with toks:=t}:=I.un (h':=s.heap) (t':=t) Un.refl I.hok
def aS.kept {t':Nat}(I:aS X A1 Y H s)(k:∀b u,s.heap.get? b=some u->h'.get? b=some u):aS X A1 Y H {s with heap:=h',toks:=t'}:=I.un (Un.kept k) (I.hok.kept k)
def aS.laid {a:A4}{o:HO}{t':Nat}(I:aS X A1 Y H s)(k:∀b u,s.heap.get? b=some u->h'.get? b=some u)(hp:s.heap.objs.size<=a)(new:eY X.prog X.w (upd H a o) h' a o) :
  aS X A1 Y (upd H a o) {s with heap:=h',toks:=t'}:=I.un (Un.laid k hp (I.hok.fresh hp)) (I.hok.laid k hp new)
def aS.write {x e:A4}{o:HO}{t':Nat}(I:aS X A1 Y H s)(mu:Qm (H x))(he:e=x\/H e=some (.own x))(k:∀b u,b≠e->s.heap.get? b=some u->h'.get? b=some u)(heo:∃u,h'.get? e=some u)
  (new:eY X.prog X.w (upd H x o) h' x o):aS X A1 Y (upd H x o) {s with heap:=h',toks:=t'}:=I.un (Un.write mu he k heo) (I.hok.write mu he k heo new)
def aS.pins_of {CR:Td}(I:aS X A1 Y H s)(h:∀p∈CR,s.heap.get? p.1=some p.2/\H p.1=none/\p.1≠X.env.locals/\p.1∉X.fs/\∀v,p.2.data≠.cell v):aS X CR Y H s :=
 {I.ok,I.os,I.bare,I.base,I.loc,I.cell,I.free,I.freeC,λp hp=>(C2.mp hp).elim (λz=>I.pin p (zbb _ z)) (h p),I.hok,I.len}
def sx {N:To}(hN:N.Nodup){i j:Nat}{x:Str}(a:N[i]?=some x)(b:N[j]?=some x):i=j:=by let⟨h1,e1⟩:=Bn.mp a;let⟨h2,e2⟩:=Bn.mp b;exact(List.getElem_inj hN).mp (e1.trans e2.symm)
def uo {M:Model}{A:AI}{E:Tc}{i:Nat}{x:Str}{v:V}{u:A6}{Q:Unit->A2->Prop}(I:aS X A1 Y H s)(hN:X.N.Nodup)(hi:X.N[i]?=some x)(hx:Hw X.env.scope x)(r:bQ v u)
  (h:∀s',aS X A1 (Y.set i (some v)) H s'->(∃a,Heap.SameBut a s.heap s'.heap/\(a=X.env.locals\/X.env.cells.lookup x=some a))->Q () s') (hf:X.fn x=true\/X.env.scope.names.lookup x=some .local:=by first|exact .inl rfl|exact .inr rfl|assumption):wpAny M A (storeName X.env x u) Q E s:=by
 let⟨m,hn,hl⟩:=id I.loc
 have Fb:(X.env.scope.kind == .class || (X.env.scope.kind == .module&&X.env.locals != X.env.globals))=false:=by rw[I.ok.kind];rfl
 have hiY:i<Y.length:=by rw[I.len];exact(Bn.mp hi).1
 have cne:=I.cne
 have tracked:∀{a:A4} {h':AG},(∃o,s.heap.get? a=some o/\H a=none)->Heap.SameBut a s.heap h'->kz X.prog X.w H h':=λ{a h'} ha hs b ob e=>by
  let⟨_,_,FC⟩:=ha;refine(I.hok b ob e).stay (λc w' hc q=>(hs.2 c ?_).trans q) (λ_ q=>q) λ_ _ q=>q;rintro rfl;rcases hc with rfl|hc
  ·rw[FC] at e;cases e
  ·rw[FC] at hc;cases hc
 rcases hx with hk|hk
 ·refine wpAny_storeName_local hk hn (λh' Cb hs=>?_) Fb
  let⟨oL,_,_,hoL,_⟩:=id hn;refine h _ {I.ok,I.os,I.bare,{λb o e n hb hx=>?_,λb o e n hb hx=>?_,I.base.free,λb o e hx=>?_,I.base.tups,I.base.frzs,I.base.tbls},{_,Cb,λj y v' e1 e2 e3=>?_},λy c e=>?_,I.free,I.freeC,λp hp=>?_,tracked {oL,hoL,I.free} hs,by simpa using I.len} {_,hs,.inl rfl}
  ·exact(hs.2 b (Ba (Be (BO e) I.ok.above))).trans (I.base.keep b o e n hb hx)
  ·let⟨sl,e1⟩:=I.base.slot b o e n hb hx
   exact{sl,(hs.2 b (Ba (Be (BO e) I.ok.above))).trans e1}
  ·let⟨o',e1⟩:=I.base.there b o e hx
   exact{o',(hs.2 b (Ba (Be (BO e) I.ok.above))).trans e1}
  ·by_cases hj:j=i
   ·subst hj
    rw[hi] at e1;cases e1;rw[DZ hiY] at e2;cases e2;exact{u,r,.inl {hk,by simp}}
   ·rw[Ej (Ne.symm hj)] at e2
    let⟨u',r',q⟩:=hl j y v' e1 e2 e3;refine{u',r',?_};rcases q with⟨k,e⟩|⟨k,c,e,z⟩
    ·refine .inl {k,?_}
     have:y≠x:=λe=>hj (sx hN e1 (e ▸ hi));simp[this,e]
    ·exact .inr {k,c,e,z.sameBut hs (cne y c e)}
  ·let⟨w',z⟩:=I.cell y c e
   exact{w',z.sameBut hs (cne y c e)}
  ·let⟨e,n,ne,nf,d⟩:=I.pin p hp
   exact{(hs.2 p.1 ne).trans e,n,ne,nf,d}
 ·have hfn:X.fn x=true:=by
   rcases hf with z|z
   ·exact z
   ·rw[z] at hk;cases hk
  let⟨c,hc⟩:=I.ok.has x (.inl hk);let⟨w',z⟩:=I.cell x c hc;refine wpAny_storeName_cell I.ok.kind hk hc z (λh' EJ hs=>?_);let⟨oc,hoc,hocd⟩:=id z;refine h {s with heap:=h'} {I.ok,I.os,I.bare,{λb o e n hb hx=>?_,λb o e n hb hx=>?_,I.base.free,λb o e hx=>?_,I.base.tups,I.base.frzs,I.base.tbls},{m,hn.sameBut hs (Ne.symm (cne x c hc)),λj y v' e1 e2 e3=>?_},λy c' e=>?_,I.free,I.freeC,λp hp=>?_,tracked {oc,hoc,I.freeC x c hc} hs,by simpa using I.len} {c,hs,.inr hc}
  ·exact(hs.2 b (Ba (Be (BO e) (I.ok.cab x c hfn hc)))).trans (I.base.keep b o e n hb hx)
  ·let⟨sl,e1⟩:=I.base.slot b o e n hb hx
   exact{sl,(hs.2 b (Ba (Be (BO e) (I.ok.cab x c hfn hc)))).trans e1}
  ·let⟨o',e1⟩:=I.base.there b o e hx
   exact{o',(hs.2 b (Ba (Be (BO e) (I.ok.cab x c hfn hc)))).trans e1}
  ·by_cases hj:j=i
   ·subst hj
    rw[hi] at e1;cases e1;rw[DZ hiY] at e2;cases e2;exact{u,r,.inr {.inl hk,c,hc,EJ}}
   ·rw[Ej (Ne.symm hj)] at e2
    let⟨u',r',q⟩:=hl j y v' e1 e2 e3;refine{u',r',?_};rcases q with q|⟨k,c',e,z'⟩
    ·exact .inl q
    ·refine .inr {k,c',e,z'.sameBut hs ?_}
     rintro rfl;exact hj (sx hN e1 (I.ok.inj _ _ _ e hc ▸ hi))
  ·by_cases hcc:c'=c
   ·subst hcc;exact{_,EJ}
   ·let⟨w2,z2⟩:=I.cell y c' e
    exact{w2,z2.sameBut hs hcc}
  ·let⟨e,n,ne,nf,d⟩:=I.pin p hp
   refine{(hs.2 p.1 ?_).trans e,n,ne,nf,d};intro q;rw[q,hoc] at e;have q':oc=p.2:=Option.some.inj e;exact d w' (by rw[←q'];exact hocd)
def mM {M:Model}{A:AI}{E:Tc}{i:Nat}{x:Str}{v:V}{u:A6}{Q:Unit->A2->Prop}(I:aS X A1 Y H s)(hN:X.N.Nodup)(hi:X.N[i]?=some x)(hx:Hw X.env.scope x)(r:bQ v u)
  (h:∀s',aS X A1 (Y.set i (some v)) H s'->Q () s') (hf:X.fn x=true\/X.env.scope.names.lookup x=some .local:=by first|exact .inl rfl|exact .inr rfl|assumption):wpAny M A (storeName X.env x u) Q E s :=
 uo I hN hi hx r (λs' I' _=>h s' I') hf
def aS.call' {s':A2}{ch:Tg}(I:aS X A1 Y H s)(ho:s'.os=s.os)(u:Un (j6 X.stack) ch H H' s.heap s'.heap)(hok:kz X.prog X.w H' s'.heap)(hg:AllBare s'.gens)
  (Dn:∀b∈ch,(b∈X.ex\/X.s₀.heap.objs.size<=b)/\b≠X.env.locals/\(∀x c,X.env.cells.lookup x=some c->c≠b)/\∀p∈X.pn++A1,p.1≠b):aS X A1 Y H' s':=by
 let⟨h',g',d',t',o'⟩:=s';have e:o'=s.os:=ho;subst e;exact I.call (g':=g') (t':=t') (d':=d') u hok hg Dn
end
abbrev XK:=A6->UO A4->Hp->Prop
abbrev St:=A0 (UO V)
abbrev VK:=V->Hp->Prop
abbrev TE:=St->Hp->VK->Prop
abbrev TT:=St->Hp->(A9->Hp->Prop)->Prop
abbrev TA:=St->Hp->(A0 V->Hp->Prop)->Prop
structure jp where
 nx:St->Hp->Prop
 rt:VK
 bk:St->Hp->Prop:=λ_ _=>False
 ct:St->Hp->Prop:=λ_ _=>False
abbrev TS:=jp->St->Hp->Prop
def EP (X:Cx)(A1:Td)(Y:St)(Q:VK)(u:A6)(s':A2):Prop:=∃v H',aS X A1 Y H' s'/\bQ v u/\Q v H'
def TP (X:Cx)(A1:Td)(Y:St)(Q:A9->Hp->Prop)(b:A9)(s':A2):Prop:=∃H',aS X A1 Y H' s'/\Q b H'
def JAs (X:Cx)(A1:Td)(Y:St)(Q:A0 V->Hp->Prop)(us:Tf)(s':A2):Prop:=∃vs H',aS X A1 Y H' s'/\bO vs us/\Q vs H'
def SP (X:Cx)(A1:Td)(D:jp)(f:Flow)(s':A2):Prop :=
 match f with
 |.next=>∃Y' H',aS X A1 Y' H' s'/\D.nx Y' H'
 |.brk=>∃Y' H',aS X A1 Y' H' s'/\D.bk Y' H'
 |.cont=>∃Y' H',aS X A1 Y' H' s'/\D.ct Y' H'
 |.ret u=>∃v Y' H',aS X A1 Y' H' s'/\bQ v u/\D.rt v H'
def PE (X:Cx)(e:AD)(t:TE):Prop :=
 ∀(A1:Td) (s:A2) (Y:St) (H:Hp) (Q:VK),aS X A1 Y H s->t Y H Q->wpAny (model X.prog X.w) X.A (eval e X.env) (EP X A1 Y Q) X.xe s
def PT (X:Cx)(e:AD)(t:TT):Prop :=
 ∀(A1:Td) (s:A2) (Y:St) (H:Hp) (Q:A9->Hp->Prop),aS X A1 Y H s->t Y H Q->wpAny (model X.prog X.w) X.A (isTrue e X.env (eval e X.env)) (TP X A1 Y Q) X.xe s
def PW (X:Cx)(e:AD)(t:TT):Prop :=
 ∀(whole:Sem A6) (A1:Td) (s:A2) (Y:St) (H:Hp) (Q:A9->Hp->Prop),aS X A1 Y H s->t Y H Q->wpAny (model X.prog X.w) X.A (isTrue e X.env whole) (TP X A1 Y Q) X.xe s
def PW.pt {t:TT}(h:PW X e t):PT X e t:=h _
def PA (X:Cx)(es:Tl)(t:TA):Prop :=
 ∀(pos:Pos) (A1:Td) (s:A2) (Y:St) (H:Hp) (Q:A0 V->Hp->Prop),aS X A1 Y H s->t Y H Q->wpAny (model X.prog X.w) X.A (spliced (backTo pos (starEach es X.env))) (JAs X A1 Y Q) X.xe s
def PS (X:Cx)(st:AN)(t:TS):Prop :=
 ∀(A1:Td) (s:A2) (Y:St) (H:Hp) (D:jp),aS X A1 Y H s->t D Y H->wpAny (model X.prog X.w) X.A (exec st X.env) (SP X A1 D) X.xe s
def qF (X:Cx)(st:Tn)(t:TS):Prop :=
 ∀(A1:Td) (s:A2) (Y:St) (H:Hp) (D:jp),aS X A1 Y H s->t D Y H->wpAny (model X.prog X.w) X.A (execs st X.env) (SP X A1 D) X.xe s
def dk {Z:Type}{t:Sem Z}{Q Q':Z->A2->Prop}{M:Model}{E:Tc}{s:A2}(h:wpAny M A t Q E s)(hQ:∀a s,Q a s->Q' a s):wpAny M A t Q' E s:=BK h hQ λ_ _ x=>x
section
variable {X:Cx}
def xU (i:Nat):TE:=λY H Q=>∃v,Y[i]?=some (some v)/\Q v H
def tC (v:V):TE:=λ_ H Q=>Q v H
def Dt {i:Nat}{x:Str}(hN:X.N[i]?=some x)(hv:M8 X.env.scope x)(hd:(x == ("__debug__" : Str))=false:=by decide)(Bp:(x == ("__classdict__" : Str))=false:=by decide):PE X (.Name x pos) (xU i):=by
 intro A1 s Y H Q I h;let⟨v,e,h⟩:=h;let⟨m,hn,hl⟩:=I.loc;let⟨u,r,l⟩:=hl i x v hN e hv;have fin:EP X A1 Y Q u s:={v,H,I,r,h};rcases l with⟨hk,hm⟩|⟨hk,c,hc,FD⟩
 ·exact wpAny_Name (wpAny_loadName_local I.ok.kind hk hn hm fin) hd
 ·rcases hk with hk|hk
  ·exact wpAny_Name (wpAny_loadName_cell I.ok.kind hk hc FD fin) hd
  ·exact wpAny_Name (wpAny_loadName_free I.ok.kind hk hc FD fin Bp) hd
def Lm {i j pos}:PE X (.Constant (.int i) j pos) (tC (.int i)):=λ_ _ _ H _ I h=>wpAny_Constant_int {.int i,H,I.tok _,{_,rfl},h}
def OR {b j pos}:PE X (.Constant (.bool b) j pos) (tC (.bl b)):=λ_ _ _ H _ I h=>Constant_bool {.bl b,H,I,rfl,h}
def Dv {j pos}:PE X (.Constant .none j pos) (tC .non):=λ_ _ _ H _ I h=>Constant_none {.non,H,I,rfl,h}
def vh {x j pos}:PE X (.Constant (.str x) j pos) (tC (.str x)):=λ_ _ _ H _ I h=>Calls.Constant_str {.str x,H,I.tok _,{_,rfl},h}
def Gl (X:Cx)(x:Str):Prop:=X.env.kindOf x=some .globalImplicit
def jA {E:Tc}{s:A2}{H:Hp}{x:Str}{u:A6}{pos:Pos}{Q:Tc}(I:aS X A1 Y H s)(hg:Gl X x)(hm:X.mg x=some u)(h:Q u s)
  (hd:(x == ("__debug__" : Str))=false:=by decide):wpAny (model X.prog X.w) X.A (eval (.Name x pos) X.env) Q E s :=
 Calls.Name_function_global I.ok.kind hg (Calls.loadGlobal_global (by rw[I.ok.glob];exact I.mod.glob.keeps I.bk) hm h) hd
def o8 {E:Tc}{s:A2}{H:Hp}{x:Str}{u:A6}{pos:Pos}{Q:Tc}(I:aS X A1 Y H s)(hg:Gl X x)(hm:X.mg x=none)(hv:bootBuiltins x=some u)(h:Q u s)
  (hn:x≠"__name__":=by decide) (hd:(x == ("__debug__" : Str))=false:=by decide):wpAny (model X.prog X.w) X.A (eval (.Name x pos) X.env) Q E s:=by
 let⟨mb,h1,h2⟩:=I.mod.blt;exact Calls.Name_function_global I.ok.kind hg (Calls.loadGlobal_builtin (by rw[I.ok.glob];exact I.mod.glob.keeps I.bk) hm (by rw[I.ok.blt];exact h1.keeps I.bk) ((h2 x hn).trans hv) h) hd
def vj {x:Str}{v:V}{u:A6}(hg:Gl X x)(hm:X.mg x=some u)(r:bQ v u)(hd:(x == ("__debug__" : Str))=false:=by decide):PE X (.Name x pos) (tC v) :=
 λ_ _ _ H _ I h=>jA I hg hm {v,H,I,r,h} hd
def zM {x:Str}{v:V}{u:A6}(hg:Gl X x)(hm:X.mg x=none)(hv:bootBuiltins x=some u)(r:bQ v u)(hn:x≠"__name__":=by decide)(hd:(x == ("__debug__" : Str))=false:=by decide):PE X (.Name x pos) (tC v) :=
 λ_ _ _ H _ I h=>o8 I hg hm hv {v,H,I,r,h} hn hd
variable {a b:AD}{ta tb:TE}{pos:Pos}
def tB (t:TE):TT:=λY H Q=>t Y H λx H1=>∃c,x=.bl c/\Q c H1
variable {tA tB':TT}{rest:Tl}
def NX (t u:TT):TT:=λY H Q=>t Y H λc H1=>if c=true then u Y H1 Q else Q false H1
def TY (t u:TT):TT:=λY H Q=>t Y H λc H1=>if c=true then Q true H1 else u Y H1 Q
def NR (t:TT):TT:=λY H Q=>t Y H λc H1=>Q (!c) H1
theorem JDx (ha:PT X a tA):PW X (.BoolOp .And [a] pos) tA:=by
 intro wh A1 s Y H Q I h;refine isTrue_and (dk (ha A1 s Y H Q I h) λc s1 e=>?_)
 cases c with
 |true=>exact isTrue_and_nil e
 |false=>exact e
theorem K4 (ha:PT X a tA):PW X (.BoolOp .Or [a] pos) tA:=by
 intro wh A1 s Y H Q I h;refine isTrue_or (dk (ha A1 s Y H Q I h) λc s1 e=>?_)
 cases c with
 |false=>exact isTrue_or_nil e
 |true=>exact e
theorem K5 (ha:PT X a tA)(hb:PW X (.BoolOp .And (b::rest) pos) tB'):PW X (.BoolOp .And (a::b::rest) pos) (NX tA tB'):=by
 intro wh A1 s Y H Q I h;refine isTrue_and (dk (ha A1 s Y H _ I h) λc s1 hh=>?_);let⟨H1,I1,q1⟩:=hh
 cases c with
 |true=>exact hb wh A1 s1 Y H1 Q I1 q1
 |false=>exact{H1,I1,q1}
theorem OJ (ha:PT X a tA)(hb:PW X (.BoolOp .Or (b::rest) pos) tB'):PW X (.BoolOp .Or (a::b::rest) pos) (TY tA tB'):=by
 intro wh A1 s Y H Q I h;refine isTrue_or (dk (ha A1 s Y H _ I h) λc s1 hh=>?_);let⟨H1,I1,q1⟩:=hh
 cases c with
 |true=>exact{H1,I1,q1}
 |false=>exact hb wh A1 s1 Y H1 Q I1 q1
def K7 (ha:PT X a tA):PT X (.UnaryOp .Not a pos) (NR tA):=by intro A1 s Y H Q I h;exact isTrue_not (ha A1 s Y H (λc H1=>Q (!c) H1) I h)
def IH (ta tb:TE):TE:=λY H Q=>ta Y H λx H1=>∃c,x=.bl c/\if c=true then tb Y H1 Q else Q (.bl false) H1
def Iz (ta:TE):TE:=λY H Q=>ta Y H λx H1=>∃c,x=.bl c/\Q (.bl (!c)) H1
def Lk {op}{t:TE}(h:PE X a t):PE X (.BoolOp op [a] pos) t:=λA1 s Y H Q I hw=>BoolOp_one (h A1 s Y H Q I hw)
theorem Lq (ha:PE X a ta)(hb:PE X (.BoolOp .And (b::rest) pos) tb):PE X (.BoolOp .And (a::b::rest) pos) (IH ta tb):=by
 intro A1 s Y H Q I h;refine BoolOp_and (dk (ha A1 s Y H _ I h) λv s1 hh=>?_);let⟨x,H1,I1,r1,q1⟩:=hh;let⟨c,rfl,q1⟩:=q1;cases r1;refine zbl ?_
 cases c with
 |true=>exact hb A1 s1 Y H1 Q I1 q1
 |false=>exact{.bl false,H1,I1,rfl,q1}
def Ll (ha:PE X a ta):PE X (.UnaryOp .Not a pos) (Iz ta):=by intro A1 s Y H Q I h;refine UnaryOp_ (dk (ha A1 s Y H _ I h) λv s1 hh=>?_);let⟨x,H1,I1,r1,q1⟩:=hh;let⟨c,rfl,q1⟩:=q1;cases r1;exact not_of (zbl {.bl (!c),H1,I1,rfl,q1})
def T3 (t:TT)(ta tb:TE):TE:=λY H Q=>t Y H λc H1=>if c=true then ta Y H1 Q else tb Y H1 Q
theorem JDb {c:AD}(hc:PT X c tA)(ha:PE X a ta)(hb:PE X b tb):PE X (.IfExp c a b pos) (T3 tA ta tb):=by
 intro A1 s Y H Q I h;refine wpAny_IfExp (dk (hc A1 s Y H _ I h) λd s1 hh=>?_);let⟨H1,I1,q1⟩:=hh
 cases d with
 |true=>exact ha A1 s1 Y H1 Q I1 q1
 |false=>exact hb A1 s1 Y H1 Q I1 q1
end
def nK (K:AJ)(H:Hp)(a:A4)(xs:A0 V):Prop :=
 Rd H a (.lst xs) \/
  ∃(o:Obj) (its:Tk) (n:Nat),K.lookup a=some o/\o.cls=.type "list"/\(o.dict=none/\o.slots = #[])/\o.data=.seq its n/\its.size<=sizeLine/\bO xs its.toList
def oa (K:AJ)(H:Hp)(a:A4)(xs:A0 V):Prop :=
 Rd H a (.tup xs) \/
  ∃(o:Obj) (its:Tk) (n:Nat),K.lookup a=some o/\o.cls=.type "tuple"/\o.dict=none/\o.data=.seq its n/\its.size<=sizeLine/\bO xs its.toList
noncomputable def S9:A6->UO V
 |.none=>some .non
 |.bool b=>some (.bl b)
 |.int i _=>some (.int i)
 |.str x _=>some (.str x)
 |.bytes b _=>some (.byt b)
 |.float b _=>some (.flt b)
 |.ref a=>some (.ref a)
 |.type n=>some (.ty n)
 |_=>none
theorem bQ.abs {x:V}{u:A6}(r:bQ x u):S9 u=some x:=by
 cases x with
 |non=>cases r;rfl
 |bl _=>cases r;rfl
 |int _=>let⟨t,rfl⟩:=r;rfl
 |str _=>let⟨t,rfl⟩:=r;rfl
 |byt _=>let⟨t,rfl⟩:=r;rfl
 |flt _=>let⟨t,rfl⟩:=r;rfl
 |ref _=>cases r;rfl
 |ty _=>cases r;rfl
def bQ.inj {x y:V}{u:A6}(r:bQ x u)(q:bQ y u):x=y:=Option.some.inj (r.abs.symm.trans q.abs)
theorem bO.inj {xs ys:A0 V}{us:Tf}(h:bO xs us):bO ys us->xs=ys:=by
 induction h generalizing ys with
 |nil=>intro q;cases q;rfl
 |cons r t ih=>intro q;cases q with|cons r' t'=>rw[r.inj r',ih t']
section
variable {X:Cx}{A1:Td}{Y:St}{H:Hp}{s:A2}{a:A4}{xs ys:A0 V}
def nK.of {K:AJ}(h:H a=some (.lst xs)):nK K H a xs:=.inl (.inl h)
def aS.list (I:aS X A1 Y H s)(h:nK X.K H a xs):∃its:Tf,bO xs its/\PlainL s.heap a its.toArray/\xs.length<=sizeLine:=by
 rcases h with h|⟨o,its,n,hk,hc,hd,hs,hz,r⟩
 ·let⟨z,its,n,r,e⟩:=h.ok I.hok;exact{its,r,{_,n,e,rfl,rfl,rfl},z}
 ·refine{its.toList,r,{o,n,I.kIn a o hk,hc,hd.1,by simpa using hs},?_};have e:=r.length;rwa[zbZ] at e;omega
def aS.tuple (I:aS X A1 Y H s)(h:oa X.K H a xs):∃its:Tf,bO xs its/\IsTup s.heap a its.toArray/\xs.length<=sizeLine:=by
 rcases h with h|⟨o,its,n,hk,hc,hn,hs,hz,r⟩
 ·let⟨z,its,r,p⟩:=h.ok I.hok;exact{its,r,p.1,z}
 ·refine{its.toList,r,{o,I.kIn a o hk,hc,n,by simpa using hs},?_};have e:=r.length;rwa[zbZ] at e;omega
def aS.tupleD (I:aS X A1 Y H s)(h:oa X.K H a xs):∃its:Tf,bO xs its/\nM s.heap a its.toArray/\xs.length<=sizeLine:=by
 let⟨its,r,p,z⟩:=I.tuple h;refine{its,r,{p,λo e=>?_},z};rcases h with h|⟨o',its',n,hk,hc,hn,hs,hz,r'⟩
 ·let⟨_,_,_,q⟩:=h.ok I.hok;exact q.2 o e
 ·have:=I.kIn a o' hk;rw[this] at e;cases e;exact hn
def aS.list_inj (I:aS X A1 Y H s)(h:nK X.K H a xs)(h':nK X.K H a ys):xs=ys:=by
 let⟨its,r,⟨o,n,e,_,_,d⟩,_⟩:=I.list h;let⟨its',r',⟨o',n',e',_,_,d'⟩,_⟩:=I.list h';rw[e] at e';cases e';rw[d] at d';injection d' with d1 _
 have:its=its':=by simpa using AQ Array.toList d1
 subst this;exact r.inj r'
def aS.tuple_inj (I:aS X A1 Y H s)(h:oa X.K H a xs)(h':oa X.K H a ys):xs=ys:=by
 let⟨its,r,⟨o,e,_,n,d⟩,_⟩:=I.tuple h;let⟨its',r',⟨o',e',_,n',d'⟩,_⟩:=I.tuple h';rw[e] at e';cases e';rw[d] at d';injection d' with d1 _
 have:its=its':=by simpa using AQ Array.toList d1
 subst this;exact r.inj r'
end
abbrev Cx.wish (X:Cx)(E:Tc):Cx:={X with xe:=E}
abbrev Cx.nox (X:Cx):Cx:=X.wish λ_ _=>False
def Cx.Ok.wish {X:Cx}(ok:X.Ok)(E:Tc):(X.wish E).Ok :=
 {ok.mod,ok.kind,ok.glob,ok.blt,ok.above,ok.inj,ok.has,ok.cab,ok.hd,ok.frames,ok.stk,ok.exf,ok.bs,ok.bsz,ok.noex,ok.exfs,ok.funs,ok.frf}
def Cx.Ok.unwish {X:Cx}{E:Tc}(ok:(X.wish E).Ok):X.Ok :=
 {ok.mod,ok.kind,ok.glob,ok.blt,ok.above,ok.inj,ok.has,ok.cab,ok.hd,ok.frames,ok.stk,ok.exf,ok.bs,ok.bsz,ok.noex,ok.exfs,ok.funs,ok.frf}
section
variable {X:Cx}{A1:Td}{Y:St}{H:Hp}{s:A2}{E:Tc}
def aS.wish (I:aS X A1 Y H s)(E:Tc):aS (X.wish E) A1 Y H s:={I.ok.wish E,I.os,I.bare,I.base,I.loc,I.cell,I.free,I.freeC,I.pin,I.hok,I.len}
def aS.unwish (I:aS (X.wish E) A1 Y H s):aS X A1 Y H s:={I.ok.unwish,I.os,I.bare,I.base,I.loc,I.cell,I.free,I.freeC,I.pin,I.hok,I.len}
theorem SP.unwish {D:jp}{f:Flow}{s':A2}(h:SP (X.wish E) A1 D f s'):SP X A1 D f s':=by
 cases f with
 |next=>let⟨Y',H',I,q⟩:=h;exact{Y',H',I.unwish,q}
 |brk=>let⟨Y',H',I,q⟩:=h;exact{Y',H',I.unwish,q}
 |cont=>let⟨Y',H',I,q⟩:=h;exact{Y',H',I.unwish,q}
 |ret u=>let⟨v,Y',H',I,r,q⟩:=h;exact{v,Y',H',I.unwish,r,q}
def qF.nox {st:Tn}{t:TS}(h:qF X.nox st t):qF X st t:=λA1 s Y H D I hw=>
 BK (h A1 s Y H D (I.wish _) hw) (λ_ _ q=>q.unwish) λ_ _ z=>False.elim z
end
section
variable {X:Cx}{st:AN}{rest:Tn}{t u:TS}{e:AD}{te:TE}{pos:Pos}
def IA:TS:=λD Y H=>D.nx Y H
def NP (t u:TS):TS:=λD Y H=>t {D with nx:=u D} Y H
def JDz:qF X [] IA:=λ_ _ Y H _ I h=>zbG {Y,H,I,h}
theorem JC5 (h1:PS X st t)(h2:qF X rest u):qF X (st::rest) (NP t u):=by
 intro A1 s Y H D I h;refine zbo (dk (h1 A1 s Y H {D with nx:=u D} I h) λf s1 q=>?_)
 cases f with
 |next=>
  let⟨Y',H',I',q⟩:=q;exact h2 A1 s1 Y' H' D I' q
 |ret v=>exact q
 |brk=>exact q
 |cont=>exact q
theorem JDy (h1:PS X st t):qF X [st] t:=by
 intro A1 s Y H D I h;refine zbo (dk (h1 A1 s Y H D I h) λf s1 q=>?_)
 cases f with
 |next=>exact zbG q
 |ret v=>exact q
 |brk=>exact q
 |cont=>exact q
def aS.quiet {H:Hp}{s:A2}(I:aS X A1 Y H s):interactive X.env=false:=by simp[interactive,I.ok.kind]
def ID (te:TE):TS:=λD Y H=>te Y H λ_ H1=>D.nx Y H1
def JD0 (he:PE X e te)(hs:swapsWith e none pos.line X.env=pure false:=by rfl):PS X (.Expr e pos) (ID te):=by intro A1 s Y H D I h;exact wpAny_Expr_any (dk (he A1 s Y H _ I h) λv s1 ⟨x,H1,I1,r1,q1⟩=>{Y,H1,I1,q1}) I.quiet hs
def NQ (te:TE):TS:=λD Y H=>te Y H D.rt
def K9 (he:PE X e te):PS X (.Return (some e) pos) (NQ te):=by intro A1 s Y H D I h;exact zb9 (dk (he A1 s Y H _ I h) λv s1 ⟨x,H1,I1,r1,q1⟩=>{x,Y,H1,I1,r1,q1})
def NU (c:TT)(t u:TS):TS:=λD Y H=>c Y H λb H1=>if b=true then t D Y H1 else u D Y H1
theorem OL {c:AD}{a b:Tn}{tc:TT}(hc:PT X c tc)(ha:qF X a t)(hb:qF X b u):PS X (.If c a b pos) (NU tc t u):=by
 intro A1 s Y H D I h;refine wpAny_If (dk (hc A1 s Y H _ I h) λd s1 hh=>?_);let⟨H1,I1,q1⟩:=hh
 cases d with
 |true=>exact ha A1 s1 Y H1 D I1 q1
 |false=>exact hb A1 s1 Y H1 D I1 q1
end
abbrev TG:=V->St->Hp->(St->Hp->Prop)->Prop
def PG (X:Cx)(target:AD)(t:TG):Prop :=
 ∀(A1:Td) (s:A2) (Y:St) (H:Hp) (v:V) (u:A6) (Q:St->Hp->Prop),aS X A1 Y H s->bQ v u->t v Y H Q ->
  wpAny (model X.prog X.w) X.A (assign target X.env u) (λ_ s'=>∃Y' H',aS X A1 Y' H' s'/\Q Y' H') X.xe s
abbrev Hv:=V->V->V->Hp->(Hp->Prop)->Prop
def xB (X:Cx)(t:Hv):Prop :=
 ∀(A1:Td) (s:A2) (Y:St) (H:Hp) (o i v:V) (ov iv u:A6) (Q:Hp->Prop),aS X A1 Y H s->bQ o ov->bQ i iv->bQ v u->t o i v H Q ->
  wpAny (model X.prog X.w) X.A (setItem ov iv u) (λ_ s'=>∃H',aS X A1 Y H' s'/\Q H') X.xe s
section
variable {X:Cx}{pos:Pos}
def uJ (i:Nat):TG:=λv Y H Q=>Q (Y.set i (some v)) H
def Gd {i:Nat}{x:Str}(hN:X.N.Nodup)(hi:X.N[i]?=some x)(hx:Hw X.env.scope x)(hf:X.fn x=true\/X.env.scope.names.lookup x=some .local:=by first|exact .inl rfl|exact .inr rfl|assumption):PG X (.Name x pos) (uJ i):=by intro A1 s Y H v u Q I r h;exact wpAny_assign_Name (mM I hN hi hx r (λs' I'=>{_,H,I',h}) hf)
def nD (to ti:TE)(t:Hv):TG:=λv Y H Q=>to Y H λo H1=>ti Y H1 λi H2=>t o i v H2 λH3=>Q Y H3
def Lj {o i:AD}{to ti:TE}{t:Hv}(ho:PE X o to)(hi:PE X i ti)(hs:xB X t)
  (ha:∀v,assign (.Subscript o i pos) X.env v=(do
   let ov ←holding [v] (eval o X.env)
   let iv ←holding [v,ov] (eval i X.env)
   standAt pos
   holding [v,ov,iv] (setItem ov iv v)
   release [v,ov,iv] []):=by intro _;rfl):PG X (.Subscript o i pos) (nD to ti t):=by
 intro A1 s Y H v u Q I r h;rw[ha];refine AY (zbs (dk (ho A1 s Y H _ I h) λov s1 hh=>?_));let⟨x,H1,I1,r1,q1⟩:=hh;refine AY (zbs (dk (hi A1 s1 Y H1 _ I1 q1) λiv s2 hh=>?_));let⟨y,H2,I2,r2,q2⟩:=hh;refine AY (zb6 (AY (zbs (dk (hs A1 s2 Y H2 x y v ov iv u _ I2 r1 r2 r q2) λ_ s3 hh=>?_))));let⟨H3,I3,q3⟩:=hh;exact wpAny_release {Y,H3,I3,q3}
def CG (te:TE)(g:TG):TS:=λD Y H=>te Y H λx H1=>g x Y H1 D.nx
def Lc {tg e:AD}{te:TE}{g:TG}(he:PE X e te)(hg:PG X tg g)(hs:swapsWithSole [tg] e pos.line X.env=pure false:=by rfl)(hw:swappedStores [tg] e X.env=pure none:=by rfl)
  (h1:(assignEach [tg] X.env).map (·.2)=[assign tg X.env]:=by rfl):PS X (.Assign [tg] e pos) (CG te g):=by
 intro A1 s Y H D I h;refine wpAny_Assign_stores (dk (he A1 s Y H _ I h) λv s1 hh=>?_) hs hw;let⟨x,H1,I1,r1,q1⟩:=hh;rw[h1];exact dk (hg A1 s1 Y H1 x v _ I1 r1 q1) λ_ s2 q=>q
def K8 {i:Nat}{x:Str}{te:TE}{pos':Pos}(hN:X.N.Nodup)(hi:X.N[i]?=some x)(hx:Hw X.env.scope x)(he:PE X e te)(hs:swapsWith e (some (.Name x pos')) pos.line X.env=pure false:=by rfl)(hf:X.fn x=true\/X.env.scope.names.lookup x=some .local:=by first|exact .inl rfl|exact .inr rfl|assumption) :
  PS X (.Assign [.Name x pos'] e pos) (CG te (uJ i)):=by
 intro A1 s Y H D I h;refine wpAny_Assign_Name (dk (he A1 s Y H _ I h) λv s1 hh=>?_) hs;let⟨y,H1,I1,r1,q1⟩:=hh;exact mM I1 hN hi hx r1 (λs2 I2=>{_,H1,I2,q1}) hf
end
structure It where
 go:Nat->Hp->Prop
 yld:Nat->Hp->V->Hp->Prop
 stop:Nat->Hp->Prop
def ot (X:Cx)(A1:Td)(H:Hp)(b:A4):Prop :=
 H b=none/\b≠X.env.locals/\b∉X.fs/\(b∈X.ex\/X.s₀.heap.objs.size<=b)/\(∀x c,X.env.cells.lookup x=some c->c≠b)/\∀p∈X.pn++A1,p.1≠b
def aS.fpOk {H H':Hp}{s:A2}{b:A4}(I:aS X A1 Y H s)(hb:s.heap.objs.size<=b)(hn:H' b=none):ot X A1 H' b:=by
 refine{hn,Nat.ne_of_gt (Be I.lt hb),I.nofs hb,.inr (Br I.sz hb),λx c e z=>?_,λp hp z=>?_}
 ·let⟨v,q⟩:=I.cell x c e;exact AH (Be q.lt (by rw[z];exact hb)) (Cg _)
 ·exact AH (Be (BO (I.pin p hp).1) (by rw[z];exact hb)) (Cg _)
structure v7 (P:Program)(w:World)(K:AJ)(tg:Expr)(J:It)(fp:Tg)(it:Addr)(tn:Nat->Heap->Prop):Prop where
 mem:it∈fp
 obj:∀i h,tn i h->∀b∈fp,∃o,h.get? b=some o/\∀v,o.data≠.cell v
 keep:∀i h h',tn i h->(∀b∈fp,∀o,h.get? b=some o->h'.get? b=some o)->tn i h'
 item:∀(X:Cx),X.prog=P->X.w=w->X.K=K->X.calm=true->∀(i:Nat) (A1:Td) (s:Shared) (Y:St) (H:Hp) (E:Tc),aS X A1 Y H s->(∀b∈fp,ot X A1 H b)->tn i s.heap->J.go i H ->
  wpAny (model P w) X.A (pyNext (.ref it)) (λr s1=>∃u,r=some u /\
   wpAny (model P w) X.A (letOwnedTupleGo tg (.ref it) u) (λ_ s2=>∃x H',aS X A1 Y H' s2/\bQ x u/\J.yld i H x H'/\tn (i+1) s2.heap/\∀b∈fp,H' b=none) E s1) E s
 done:∀(X:Cx),X.prog=P->X.w=w->X.K=K->X.calm=true->∀(i:Nat) (A1:Td) (s:Shared) (Y:St) (H:Hp) (E:Tc),aS X A1 Y H s->(∀b∈fp,ot X A1 H b)->tn i s.heap->J.stop i H ->
  wpAny (model P w) X.A (pyNext (.ref it)) (λr s1=>r=none/\aS X A1 Y H s1) E s
 self:∀(A:Around) (i:Nat) (s:Shared) (Q:Tc) (E:Tc),tn i s.heap->Q (.ref it) s->wpAny (model P w) A (pyIter (.ref it)) Q E s
abbrev TI:=St->Hp->(It->Hp->Prop)->Prop
def Ro (X:Cx)(A1:Td)(Y:St)(tg:AD)(R:It->Hp->Prop)(itv:A6)(s2:A2):Prop :=
 ∃(it:A4) (fp:Tg) (tn:Nat->AG->Prop) (J:It) (H':Hp),itv=.ref it/\aS X A1 Y H' s2/\v7 X.prog X.w X.K tg J fp it tn/\tn 0 s2.heap/\(∀b∈fp,ot X A1 H' b)/\R J H'
def PI (X:Cx)(tg iter:AD)(wi:TI):Prop :=
 ∀(A1:Td) (s:A2) (Y:St) (H:Hp) (R:It->Hp->Prop),aS X A1 Y H s->wi Y H R ->
  wpAny (model X.prog X.w) X.A (eval iter X.env) (λv s1=>wpAny (model X.prog X.w) X.A (pyIter v) (Ro X A1 Y tg R) X.xe s1) X.xe s
def uI {M : Model} {A : AI} {E : Tc} {s : A2} {tg : AD} {it : A4} {u : A6} {o : Obj} {n : String} {vs : Tk} {Q : Unit -> A2 -> Prop} (ho : s.heap.get? it = some o) (hc : o.cls = .type n) (hd : o.data = .fields vs)
    (hn : ["enumerate", "zip", "dict_itemiterator", "dict_reverseitemiterator", "odict_iterator", "itertools.zip_longest", "itertools.pairwise"].contains n = false) (hQ : Q () s) : wpAny M A (letOwnedTupleGo tg (.ref it) u) Q E s := by
  unfold letOwnedTupleGo
  cases tg <;> first
    | exact BG hQ
    | (cases u <;> first
        | exact BG hQ
        | (refine AY (wpAny_load ho ?_)
           rw[hc, hd]
           show wpAny M A (if (["enumerate", "zip", "dict_itemiterator", "dict_reverseitemiterator", "odict_iterator", "itertools.zip_longest", "itertools.pairwise"].contains n&&vs[0]? == some (rawInt _)) = true then _ else _) Q E s
           rw[AE (by intro h; rw[hn, zbm] at h; cases h)]
           exact BG hQ))
def TD (K:AJ)(a:A4):It :=
 {λi H=>∃xs x,nK K H a xs/\xs[i]?=some x,λi H x H'=>H'=H/\∀xs,nK K H a xs->xs[i]?=some x,λi H=>∃xs,nK K H a xs/\xs.length<=i}
def TB (K:AJ)(a:A4):It :=
 {λi H=>∃xs x,oa K H a xs/\xs[i]?=some x,λi H x H'=>H'=H/\∀xs,oa K H a xs->xs[i]?=some x,λi H=>∃xs,oa K H a xs/\xs.length<=i}
def Rp (lo:Int)(n:Nat):It:={λi _=>i<n,λi H x H'=>H'=H/\x=.int (lo+i),λi _=>n<=i}
def JAp {K:AJ}{tg:AD}(a it:A4):v7 P w K tg (TD K a) [it] it (λi h=>h.IsListIter it a i) where
 mem:=by simp
 obj:=λi h st b hb=>by
  have e:b=it:=by simpa using hb
  subst e;let⟨o,e,c,d⟩:=st;exact{o,e,λv z=>by rw[d] at z;cases z}
 keep:=λi h h' st k=>st.at λo e=>k it ∅ o e
 item:=by intro X hP hw hK hc i A1 s Y H E I hf st hg;subst hP hw hK;let⟨xs,x,hq,hx⟩:=hg;let⟨its,rv,p,hz⟩:=I.list hq;let⟨u,hu,ru⟩:=rv.get hx;let⟨f0,f1,f2,f3,f4,f5⟩:=hf it ∅;refine wpAny_pyNext_list_item st p.isList (x:=u) ‹hu› λh' Bo sb=>?_;have I1:aS X A1 Y H {s with heap:=h'}:=I.turned (t':=s.toks) (λb o hb e=>(sb.2 b hb).trans e) f0 f1 f3 f4 f5;let⟨o,e,c,d⟩:=id Bo;exact{u,rfl,uI (s:={s with heap:=h'}) e c d ∅ {x,H,I1,ru,{rfl,λys hy=>by rw[I.list_inj hy hq];exact hx},Bo,λb hb=>(hf b hb).1}}
 done:=by intro X hP hw hK hc i A1 s Y H E I hf st hg;subst hP hw hK;let⟨xs,hq,hx⟩:=hg;let⟨its,rv,p,hz⟩:=I.list hq;let⟨f0,f1,f2,f3,f4,f5⟩:=hf it ∅;have hl:=rv.length;exact wpAny_pyNext_list_end (I.ok.hd hc) st p.isList (by simp;omega) λh' eb=>{rfl,I.turned (t':=s.toks) (λb o hb e=>eb b o hb e) f0 f1 f3 f4 f5}
 self:=λ_ _ _ _ _ st h=>wpAny_pyIter_listiter st h
def xP {K:AJ}{tg:AD}(a it:A4):v7 P w K tg (TB K a) [it] it (λi h=>h.IsTupleIter it a i) where
 mem:=by simp
 obj:=λi h st b hb=>by
  have e:b=it:=by simpa using hb
  subst e;let⟨o,e,c,d⟩:=st;exact{o,e,λv z=>by rw[d] at z;cases z}
 keep:=λi h h' st k=>st.at λo e=>k it ∅ o e
 item:=by intro X hP hw hK hc i A1 s Y H E I hf st hg;subst hP hw hK;let⟨xs,x,hq,hx⟩:=hg;let⟨its,rv,p,hz⟩:=I.tuple hq;let⟨u,hu,ru⟩:=rv.get hx;let⟨f0,f1,f2,f3,f4,f5⟩:=hf it ∅;refine wpAny_pyNext_tuple_item st (show s.heap.IsTuple a its.toArray from p) (x:=u) ‹hu› λh' Bo sb=>?_;have I1:aS X A1 Y H {s with heap:=h'}:=I.turned (t':=s.toks) (λb o hb e=>(sb.2 b hb).trans e) f0 f1 f3 f4 f5;let⟨o,e,c,d⟩:=id Bo;exact{u,rfl,uI (s:={s with heap:=h'}) e c d ∅ {x,H,I1,ru,{rfl,λys hy=>by rw[I.tuple_inj hy hq];exact hx},Bo,λb hb=>(hf b hb).1}}
 done:=by intro X hP hw hK hc i A1 s Y H E I hf st hg;subst hP hw hK;let⟨xs,hq,hx⟩:=hg;let⟨its,rv,p,hz⟩:=I.tuple hq;let⟨f0,f1,f2,f3,f4,f5⟩:=hf it ∅;have hl:=rv.length;exact wpAny_pyNext_tuple_end (I.ok.hd hc) st (show s.heap.IsTuple a its.toArray from p) (by simp;omega) λh' eb=>{rfl,I.turned (t':=s.toks) (λb o hb e=>eb b o hb e) f0 f1 f3 f4 f5}
 self:=λ_ _ _ _ _ st h=>wpAny_pyIter_tupleiter st h
def xQ {w:AF}{K:AJ}{tg:AD}(it:A4)(lo:Int)(n:Nat):v7 P w K tg (Rp lo n) [it] it (λi h=>IsRangeIter h it (lo+(i:Nat)*1) ((n:Int)-(i:Nat)) 1) where
 mem:=by simp
 obj:=λi h st b hb=>by
  have e:b=it:=by simpa using hb
  subst e;exact{_,st,λv z=>by
   have z':Data.fields _=Data.cell v:=z
   cases z'}
 keep:=λi h h' st k=>k it ∅ _ st
 item:=by intro X hP hw hK hc i A1 s Y H E I hf st hg;subst hP hw hK;obtain⟨f0,f1,f2,f3,f4,f5⟩:=hf it ∅;have W:=Walks.range (prog:=X.prog) (w:=X.w) (I.ok.hd hc) it lo 1 n;refine W.item i s _ _ hg st λv h' tk hv Bo kk=>?_;obtain⟨t,rfl⟩:=hv;have I1:aS X A1 Y H {s with heap:=h',toks:=tk}:=I.turned (λb o hb e=>kk b o ‹hb› e) f0 f1 f3 f4 f5;refine{_,rfl,uI (s:={s with heap:=h',toks:=tk}) (n:="range_iterator") Bo rfl rfl ∅ {.int (lo+i),H,I1,{t,?_},{rfl,rfl},Bo,λb hb=>(hf b hb).1}};rw[Int.mul_one]
 done:=by intro X hP hw hK hc i A1 s Y H E I hf st hg;subst hP hw hK;let⟨f0,f1,f2,f3,f4,f5⟩:=hf it ∅;exact wpAny_pyNext_range_end (I.ok.hd hc) st (by have:n<=i:=hg;omega) λh' eb=>{rfl,I.turned (t':=s.toks) (λb o hb e=>eb b o hb e) f0 f1 f3 f4 f5}
 self:=λ_ _ _ _ _ st h=>wpAny_pyIter_rangeiter st h
section
variable {X:Cx}{tg:AD}
def JB4 {H:Hp}{s:A2}{R:It->Hp->Prop}{E:Tc}{lo hi:Int}{t u v:Tok}{tk:Nat}(I:aS X A1 Y H s)(h1 : -(2 ^ 62)<=lo)(h2:lo<2 ^ 62)(h3 : -(2 ^ 62)<=hi)(h4:hi<2 ^ 62)
  (q:R (Rp lo (hi-lo).toNat) H):wpAny (model X.prog X.w) X.A (pyIter (.ref s.heap.objs.size)) (Ro X A1 Y tg R) E {s with heap:=s.heap.push {cls:=.type "range",data:=.fields #[.int lo t,.int hi u,.int 1 v]},toks:=tk}:=by
 refine wpAny_pyIter_range (IsRange.new ..) (small_one h1 h2 h3 h4) ?_;have I1:aS X A1 Y H {s with heap:=s.heap.push {cls:=.type "range",data:=.fields #[.int lo t,.int hi u,.int 1 v]},toks:=tk}:=I.kept λb o e=>Bl _ e
 refine{(s.heap.push {cls:=.type "range",data:=.fields #[.int lo t,.int hi u,.int 1 v]}).objs.size,[(s.heap.push {cls:=.type "range",data:=.fields #[.int lo t,.int hi u,.int 1 v]}).objs.size],_,_,H,rfl,
  I1.kept (t':=tk) λb o e=>Bl _ e,xQ _ lo (hi-lo).toNat,?_,λb hb=>?_,q}
 ·have e1:lo+((0:Nat):Int)*1=lo:=by simp
  have e2:(((hi-lo).toNat:Nat):Int)-((0:Nat):Int)=Builtin.Range.rangeSize lo hi 1:=by rw[rangeSize_one];split <;> omega
  show IsRangeIter _ _ (lo+((0:Nat):Int)*1) ((((hi-lo).toNat:Nat):Int)-((0:Nat):Int)) 1
  rw[e1,e2];exact Cw _ rfl
 ·have e:b=(s.heap.push {cls:=.type "range",data:=.fields #[.int lo t,.int hi u,.int 1 v]}).objs.size:=by simpa using hb
  subst e;exact I1.fpOk (BH _) (I1.hok.fresh (BH _))
def Jw (ta:TA):TI:=λY H R=>ta Y H λvs H1=>∃j:Int,vs=[.int j]/\-(2 ^ 62)<=j/\j<2 ^ 62/\R (Rp 0 j.toNat) H1
theorem JAg {a:AD}{ta:TA}{p pos:Pos}(hg:Gl X "range")(hm:X.mg "range" = none)(ha:PA X [a] ta)(hs:starEach [a] X.env=[(false,eval a X.env)]:=by rfl):PI X tg (.Call (.Name "range" p) [a] [] pos) (Jw ta):=by
 intro A1 s Y H R I h;refine Call_ (o8 I hg hm boot_range (PyProof.Rows.callWith_type1 (dk (ha pos A1 s Y H _ I h) λus s1 hh=>?_) hs rfl));let⟨vs,H1,I1,r1,q1⟩:=hh;let⟨j,e,q1,q2,q⟩:=q1;subst e
 cases r1 with
 |cons r rr=>
  cases rr;let⟨t,rfl⟩:=r;exact call_range_1 (JB4 I1 ∅ ∅ q1 q2 ‹q›)
def J9 (wi:TI)(g:TG)(tb:TS):TS:=λD Y H=>wi Y H λJ H1=>∃W:Nat->Nat->St->Hp->Prop,(∃m,W 0 m Y H1)/\∀i m Y H,W i m Y H ->
 (J.stop i H/\D.nx Y H)\/(J.go i H/\∃N:St->Hp->Prop,(∀Y' H',N Y' H'->∃m',m'<m/\W (i+1) m' Y' H')/\∀x H',J.yld i H x H'->g x Y H' λY2 H2=>tb {D with nx:=N,ct:=N,bk:=D.nx} Y2 H2)
noncomputable def kI (fp:Tg)(h:AG):Td:=fp.filterMap λb=>(h.get? b).map λo=>(b,o)
def eu {fp:Tg}{h:AG}{b:A4}{o:Obj}(hb:b∈fp)(e:h.get? b=some o):(b,o)∈kI fp h:=List.mem_filterMap.mpr {b,hb,by rw[e];rfl}
theorem qj {fp:Tg}{h:AG}{p:A4×Obj}(hp:p∈kI fp h):p.1∈fp/\h.get? p.1=some p.2:=by
 let⟨b,hb,e⟩:=List.mem_filterMap.mp hp
 cases q:h.get? b with
 |none=>rw[q] at e;cases e
 |some o=>
  rw[q] at e;have e':(b,o)=p:=Option.some.inj e;subst e';exact{hb,q}
def aS.pinned {H:Hp}{s:A2}{fp:Tg}(I:aS X A1 Y H s)(hf:∀b∈fp,ot X A1 H b)(ho:∀b∈fp,∃o,s.heap.get? b=some o/\∀v,o.data≠.cell v):aS X (A1++kI fp s.heap) Y H s :=
 I.pins_of λp hp=>(C2.mp hp).elim (λz=>I.pin p (Bb _ z)) λz=>by let⟨hb,e⟩:=qj z;let⟨f0,f1,f2,_⟩:=hf p.1 hb;let⟨o,e',d⟩:=ho p.1 hb;rw[e] at e';cases e';exact{e,f0,f1,f2,d}
def aS.unpinned {A1 pl:Td}{H:Hp}{s:A2}(I:aS X (A1++pl) Y H s):aS X A1 Y H s:=I.pins_of λp hp=>I.pin p (Bb _ (zbb _ hp))
def La {iter:AD}{body:Tn}{wi:TI}{g:TG}{tb:TS}{pos:Pos}(hp:PassesOwn (model X.prog X.w) X.A X.env X.xe)(hc:X.calm=true)(hi:PI X tg iter wi)(hg:PG X tg g)(hb:qF X body tb)
  (hs:∀x,foldedSetIterable iter X.env x=pure x:=by intro _;rfl):PS X (.For tg iter body [] pos) (J9 wi g tb):=by
 intro A1 s Y H D I h;refine wpAny_For (dk (hi A1 s Y H _ I h) λv s1 h1=>dk h1 λitv s2 h2=>?_) hs;let⟨it,fp,tn,J,H2,e,I2,T,FP,f2,W,⟨m0,w0⟩,turn⟩:=h2;subst e;have stat:∀{H':Hp},(∀b∈fp,H' b=none)->∀b∈fp,ot X A1 H' b:=λhn b hb=>{hn b hb,(f2 b hb).2};refine codeAny_forLoop_any (λn s'=>∃i Y' H',aS X A1 Y' H' s'/\tn i s'.heap/\(∀b∈fp,H' b=none)/\W i n Y' H') ?_ m0 {0,Y,H2,I2,FP,λb hb=>(f2 b hb).1,w0};rintro n s3 ⟨i,Y3,H3,I3,FN,Fp,w3⟩;rcases turn i n Y3 H3 w3 with⟨stop,qn⟩|⟨go,N,hN,step⟩
 ·refine zbH hp (dk (T.done X rfl rfl rfl hc i A1 s3 Y3 H3 X.xe I3 (stat Fp) FN stop) λr s4 hh=>?_)
  let⟨hr,I4⟩:=hh;subst hr;exact zbG {Y3,H3,I4,qn}
 ·refine zbH hp (dk (T.item X rfl rfl rfl hc i A1 s3 Y3 H3 X.xe I3 (stat Fp) FN go) λr s4 hh=>?_)
  let⟨u,hr,h4⟩:=hh;subst hr;refine zbH hp (dk h4 λ_ s5 hh=>?_);let⟨x,H5,I5,r5,y5,DB,fr5⟩:=hh;have I5':=I5.pinned (stat fr5) (T.obj _ _ DB);refine zbH hp (dk (hg _ s5 Y3 H5 x u _ I5' r5 (step x H5 y5)) λ_ s6 hh=>?_);let⟨Y6,H6,I6,q6⟩:=hh;refine zbH hp (dk (hb _ s6 Y6 H6 _ I6 q6) λf s7 q7=>?_)
  have again:∀{Y7:St} {H7:Hp},aS X (A1++kI fp s5.heap) Y7 H7 s7->N Y7 H7->∃m,m<n/\∃i Y' H',aS X A1 Y' H' s7/\tn i s7.heap/\(∀b∈fp,H' b=none)/\W i m Y' H':=λ{Y7 H7} I7 n7=>by
   let⟨m',hm,w7⟩:=hN Y7 H7 n7;refine{m',hm,i+1,Y7,H7,I7.unpinned,T.keep _ _ _ DB λb hb o e=>(I7.pin (b,o) (Bb _ (Bb _ (eu hb e)))).1,λb hb=>?_,w7};let⟨o,e,d⟩:=T.obj _ _ DB b hb;exact(I7.pin (b,o) (Bb _ (Bb _ (eu hb e)))).2.1
  cases f with
  |next=>let⟨Y7,H7,I7,n7⟩:=q7;exact again I7 n7
  |cont=>let⟨Y7,H7,I7,n7⟩:=q7;exact again I7 n7
  |brk=>let⟨Y7,H7,I7,q7⟩:=q7;exact{Y7,H7,I7.unpinned,q7}
  |ret v=>let⟨x7,Y7,H7,I7,r7,q7⟩:=q7;exact{x7,Y7,H7,I7.unpinned,r7,q7}
end
abbrev R2:=V->V->Hp->VK->Prop
def l8 (X:Cx)(f:A6->A6->Sem A6)(r:R2):Prop :=
 ∀(A1:Td) (s:A2) (Y:St) (H:Hp) (x y:V) (v u:A6) (Q:VK),aS X A1 Y H s->bQ x v->bQ y u->r x y H Q ->
  wpAny (model X.prog X.w) X.A (f v u) (EP X A1 Y Q) X.xe s
def Tq (X:Cx)(f:A6->Sem A6)(r:V->Hp->VK->Prop):Prop :=
 ∀(A1:Td) (s:A2) (Y:St) (H:Hp) (x:V) (v:A6) (Q:VK),aS X A1 Y H s->bQ x v->r x H Q ->
  wpAny (model X.prog X.w) X.A (f v) (EP X A1 Y Q) X.xe s
def kA (X:Cx)(f:A6)(r:A0 V->Hp->VK->Prop):Prop :=
 ∀(A1:Td) (s:A2) (Y:St) (H:Hp) (xs:A0 V) (us:Tf) (Q:VK),aS X A1 Y H s->bO xs us->r xs H Q ->
  wpAny (model X.prog X.w) X.A (call f us) (EP X A1 Y Q) X.xe s
def Tr (X:Cx)(r:V->Hp->(A9->Hp->Prop)->Prop):Prop :=
 ∀(A1:Td) (s:A2) (Y:St) (H:Hp) (x:V) (v:A6) (Q:A9->Hp->Prop),aS X A1 Y H s->bQ x v->r x H Q ->
  wpAny (model X.prog X.w) X.A (truthy v) (TP X A1 Y Q) X.xe s
def J7 (r:R2)(ta tb:TE):TE:=λY H Q=>ta Y H λx H1=>tb Y H1 λy H2=>r x y H2 Q
def TX (r:V->Hp->VK->Prop)(ta:TE):TE:=λY H Q=>ta Y H λx H1=>r x H1 Q
def rI (C:Int->Int->Prop)(g:Int->Int->V):R2:=λx y H Q=>∃i j,x=.int i/\y=.int j/\C i j/\Q (g i j) H
def yg (g:Int->Int->V):R2:=λx y H Q=>∃i j,x=.int i/\y=.int j/\Q (g i j) H
def rU (g:Int->V):V->Hp->VK->Prop:=λx H Q=>∃i,x=.int i/\Q (g i) H
section
variable {X:Cx}{a b:AD}{ta tb:TE}{pos:Pos}
def Hb (ha:PE X a ta)(hb:PE X b tb){s:A2}{H:Hp}{R:V->V->Hp->Prop}(I:aS X A1 Y H s)
  (h:ta Y H λx H1=>tb Y H1 λy H2=>R x y H2) {Q:Tc} {f:A6->A6->Sem A6}
  (hf:∀v u s2 x y H2,aS X A1 Y H2 s2->bQ x v->bQ y u->R x y H2->wpAny (model X.prog X.w) X.A (f v u) Q X.xe s2) :
  wpAny (model X.prog X.w) X.A (eval a X.env) (λv s₁=>wpAny (model X.prog X.w) X.A (eval b X.env) (λu s₂=>wpAny (model X.prog X.w) X.A (f v u) Q X.xe s₂) X.xe s₁) X.xe s:=by
 refine dk (ha A1 s Y H _ I h) λv s1 hh=>?_;let⟨x,H1,I1,r1,q1⟩:=hh;refine dk (hb A1 s1 Y H1 _ I1 q1) λu s2 hh=>?_;let⟨y,H2,I2,r2,q2⟩:=hh;exact hf v u s2 x y H2 I2 r1 r2 q2
def qK {op:Operator}{r:R2}(ho:l8 X (binaryOp op) r)(ha:PE X a ta)(hb:PE X b tb):PE X (.BinOp a op b pos) (J7 r ta tb):=by intro A1 s Y H Q I h;exact wpAny_BinOp (Hb ha hb I h λv u s2 x y H2 I2 rx ry q=>ho A1 s2 Y H2 x y v u Q I2 rx ry q)
def OP {op:UnaryOp}{r:V->Hp->VK->Prop}(ho:Tq X (unaryOp op) r)(ha:PE X a ta):PE X (.UnaryOp op a pos) (TX r ta):=by intro A1 s Y H Q I h;exact UnaryOp_ (dk (ha A1 s Y H _ I h) λv s1 ⟨x,H1,I1,r1,q1⟩=>ho A1 s1 Y H1 x v Q I1 r1 q1)
def QC {f:A6->A6->Sem A6}{C:Int->Int->Prop}{g:Int->Int->Int}
  (rule:∀(i j:Int) (t u:Tok) (s:A2) (Q:Tc) (E:Tc),C i j->Q (.int (g i j) s.toks) {s with toks:=s.toks+1}->wpAny (model X.prog X.w) X.A (f (.int i t) (.int j u)) Q E s) :
  l8 X f (rI C λi j=>.int (g i j)):=by
 intro A1 s Y H x y v u Q I rx ry h;let⟨i,j,rfl,rfl,hc,q⟩:=h;let⟨t,rfl⟩:=rx;let⟨t',rfl⟩:=ry;exact rule i j t t' s _ _ hc {.int (g i j),H,I.tok _,{_,rfl},q}
def OW {f:A6->A6->Sem A6}{g:Int->Int->Int}
  (rule:∀(i j:Int) (t u:Tok) (s:A2) (Q:Tc) (E:Tc),Q (.int (g i j) s.toks) {s with toks:=s.toks+1}->wpAny (model X.prog X.w) X.A (f (.int i t) (.int j u)) Q E s) :
  l8 X f (yg λi j=>.int (g i j)):=by
 intro A1 s Y H x y v u Q I rx ry h;let⟨i,j,rfl,rfl,q⟩:=h;let⟨t,rfl⟩:=rx;let⟨t',rfl⟩:=ry;exact rule i j t t' s _ _ {.int (g i j),H,I.tok _,{_,rfl},q}
def Gr {f:A6->A6->Sem A6}{g:Int->Int->A9}
  (rule:∀(i j:Int) (t u:Tok) (s:A2) (Q:Tc) (E:Tc),Q (.bool (g i j)) s->wpAny (model X.prog X.w) X.A (f (.int i t) (.int j u)) Q E s) :
  l8 X f (yg λi j=>.bl (g i j)):=by
 intro A1 s Y H x y v u Q I rx ry h;let⟨i,j,rfl,rfl,q⟩:=h;let⟨t,rfl⟩:=rx;let⟨t',rfl⟩:=ry;exact rule i j t t' s _ _ {.bl (g i j),H,I,rfl,q}
def M0 (i j:Int):Prop:=0<j/\j<1073741824
def MZ (i j:Int):Prop:=0<=j/\j<=1000000/\i.natAbs<2 ^ 64
def EU (i j:Int):Prop:=(-(2 ^ 64)<i/\i<2 ^ 64)\/(-(2 ^ 64)<j/\j<2 ^ 64)
def EU.ok {i j:Int}(h:EU i j):IntMulOk i j:=by
 rcases h with⟨h1,h2⟩|⟨h1,h2⟩
 ·exact .of_left (intBits_le_64 h1 h2)
 ·exact .of_right (intBits_le_64 h1 h2)
def Lz:l8 X (binaryOp .Add) (yg λi j=>.int (i+j)):=OW λ_ _ _ _ _ _ _ q=>add_int q
def Lr:l8 X (binaryOp .Sub) (yg λi j=>.int (i-j)):=OW λ_ _ _ _ _ _ _ q=>sub_int q
def Lv:l8 X (binaryOp .Mult) (rI EU λi j=>.int (i*j)):=QC λ_ _ _ _ _ _ _ hc q=>mul_int q hc.ok
def Gn:l8 X (binaryOp .FloorDiv) (rI M0 λi j=>.int (i / j)):=QC λi j _ _ _ _ _ hc q=>by have h1:(0:Int)<j:=hc.1;have h2:j<1073741824:=hc.2;exact floordiv_int ∅ (by rw[Int.fdiv_eq_ediv_of_nonneg i ∅];exact q) (.inl (PyProof.noPylong_small ∅))
def Lw:l8 X (binaryOp .Mod) (rI (λ_ j=>0<j) λi j=>.int (i%j)):=QC λi j _ _ _ _ _ hc q=>by have h1:(0:Int)<j:=hc;exact mod_int' ∅ (by rw[Int.fmod_eq_emod_of_nonneg i ∅];exact q)
def Ls:l8 X (binaryOp .Pow) (rI MZ λi j=>.int (i ^ j.toNat)):=QC λ_ _ _ _ _ _ _ hc q=>pow_int_small hc.1 hc.2.1 hc.2.2 q
def UR {f:A6->Sem A6}{g:Int->Int}
  (rule:∀(i:Int) (t:Tok) (s:A2) (Q:Tc) (E:Tc),Q (.int (g i) s.toks) {s with toks:=s.toks+1}->wpAny (model X.prog X.w) X.A (f (.int i t)) Q E s) :
  Tq X f (rU λi=>.int (g i)):=by
 intro A1 s Y H x v Q I rx h;let⟨i,rfl,q⟩:=h;let⟨t,rfl⟩:=rx;exact rule i t s _ _ {.int (g i),H,I.tok _,{_,rfl},q}
def JQ:Tq X (unaryOp .USub) (rU λi=>.int (-i)):=UR λ_ _ _ _ _ q=>neg_int q
end
section
variable {X:Cx}{a b c:AD}{ta tb tc:TE}{pos:Pos}
def yP {H:Hp}{s:A2}{Q:VK}{k k':A9}(I:aS X A1 Y H s)(q:Q (.bl k) H)(e:k=k'):EP X A1 Y Q (.bool k') s:=by subst e;exact{.bl k,H,I,rfl,q}
def OT:l8 X (compareOp .Lt) (yg λi j=>.bl (decide (i<j))):=Gr λ_ _ _ _ _ _ _ q=>lt_int q
def Jk:l8 X (compareOp .LtE) (yg λi j=>.bl (decide (i<=j))):=Gr λ_ _ _ _ _ _ _ q=>le_int q
def OU:l8 X (compareOp .Gt) (yg λi j=>.bl (decide (j<i))):=Gr λ_ _ _ _ _ _ _ q=>gt_int q
def OV:l8 X (compareOp .GtE) (yg λi j=>.bl (decide (j<=i))):=Gr λ_ _ _ _ _ _ _ q=>ge_int q
def JAi:l8 X (compareOp .In) (λx y H Q=>∃i j,x=.str i/\y=.str j/\Q (.bl (!(Builtin.Str.occurrences j i 0 j.length 1).isEmpty)) H):=by intro A1 s Y H x y v u Q I rx ry h;let⟨i,j,rfl,rfl,q⟩:=h;let⟨t,rfl⟩:=rx;let⟨t',rfl⟩:=ry;exact in_str (yP I q rfl)
def Lx:l8 X (compareOp .Is) (λx y H Q=>y=.non/\Q (.bl (decide (x=.non))) H):=by
 intro A1 s Y H x y v u Q I rx ry h;let⟨rfl,q⟩:=h;cases ry;refine is_none_gen (yP I q ?_)
 cases x <;> first
  |(cases rx;rfl)
  |(let⟨t,rfl⟩:=rx;rfl)
def vq:l8 X (compareOp .NotIn) (λx y H Q=>∃i j,x=.str i/\y=.str j/\Q (.bl (!(!(Builtin.Str.occurrences j i 0 j.length 1).isEmpty))) H):=by intro A1 s Y H x y v u Q I rx ry h;let⟨i,j,rfl,rfl,q⟩:=h;let⟨t,rfl⟩:=rx;let⟨t',rfl⟩:=ry;exact notIn_str (yP I q rfl)
def l8.or {f:A6->A6->Sem A6}{r r':R2}(h:l8 X f r)(h':l8 X f r'):l8 X f (λx y H Q=>r x y H Q\/r' x y H Q):=by
 intro A1 s Y H x y v u Q I rx ry q;rcases q with q|q
 ·exact h A1 s Y H x y v u Q I rx ry q
 ·exact h' A1 s Y H x y v u Q I rx ry q
def o6 (b:AD){op:CmpOp}(h:op≠.In:=by decide)(h2:op≠.NotIn:=by decide):behindInMarks op b=false:=by
 have e1:(op == CmpOp.In)=false:=by cases op <;> first|rfl|exact AH rfl h
 have e2:(op == CmpOp.NotIn)=false:=by cases op <;> first|rfl|exact AH rfl h2
 cases b <;> simp[behindInMarks,e1,e2]
def vm {op:CmpOp}{r:R2}(ho:l8 X (compareOp op) r)(ha:PE X a ta)(hb:PE X b tb)(hm:behindInMarks op b=false):PE X (.Compare a [op] [b] pos) (J7 r ta tb):=by intro A1 s Y H Q I h;exact wpAny_Compare1 (Hb ha hb I h λv u s2 x y H2 I2 rx ry q=>ho A1 s2 Y H2 x y v u Q I2 rx ry q) hm
def Ix (t:TE):TT:=λY H Q=>t Y H λx H'=>∃k,x=.bl k/\Q k H'
def zK {op:CmpOp}{r:R2}(ho:l8 X (compareOp op) r)(ha:PE X a ta)(hb:PE X b tb)(hm:behindInMarks op b=false):PT X (.Compare a [op] [b] pos) (Ix (J7 r ta tb)):=by intro A1 s Y H Q I h;refine wpAny_isTrue_Compare1 (dk (ha A1 s Y H _ I h) λv s1 hh=>?_) hm;let⟨x,H1,I1,r1,q1⟩:=hh;refine dk (hb A1 s1 Y H1 _ I1 q1) λu s2 hh=>?_;let⟨y,H2,I2,r2,q2⟩:=hh;refine dk (ho A1 s2 Y H2 x y v u _ I2 r1 r2 q2) λc s3 hh=>?_;let⟨z,H3,I3,r3,k,e,q3⟩:=hh;subst e;cases r3;exact zbl {H3,I3,q3}
def CD (r r':R2)(ta tb tc:TE):TE:=λY H Q=>ta Y H λx H1=>tb Y H1 λy H2=>r x y H2 λz H3=>∃k,z=.bl k /\
 (if k=true then tc Y H3 λw' H4=>r' y w' H4 Q else Q (.bl false) H3)
theorem JCn {op op':CmpOp}{r r':R2}(ho:l8 X (compareOp op) r)(F4:l8 X (compareOp op') r')(ha:PE X a ta)(hb:PE X b tb)(hc:PE X c tc)
  (hm:lastMarks [op,op'] [b,c]=false:=by with_unfolding_all rfl):PE X (.Compare a [op,op'] [b,c] pos) (CD r r' ta tb tc):=by
 intro A1 s Y H Q I h;refine Compare_chain (dk (ha A1 s Y H _ I h) λv s1 hh=>?_) hm;let⟨x,H1,I1,r1,q1⟩:=hh;refine chain_link (dk (hb A1 s1 Y H1 _ I1 q1) λu s2 hh=>?_);let⟨y,H2,I2,r2,q2⟩:=hh;refine dk (ho A1 s2 Y H2 x y v u _ I2 r1 r2 q2) λd s3 hh=>?_;let⟨z,H3,I3,r3,k,e,q3⟩:=hh;subst e;cases r3;refine zbl ?_
 cases k with
 |false=>exact ite_ff {.bl false,H3,I3,rfl,q3}
 |true=>exact ite_tt (chain_last (dk (hc A1 s3 Y H3 _ I3 q3) λw' s4 ⟨z',H4,I4,r4,q4⟩=>F4 A1 s4 Y H4 y z' u w' Q I4 r2 r4 q4))
def Hu (K:AJ)(x:V)(H:Hp)(k:A9):Prop :=
 match x with
 |.non=>k=false
 |.bl b=>k=b
 |.int i=>k=(i != 0)
 |.str y=>y.length<=sizeLine/\k=((y.length:Int) != 0)
 |.byt y=>y.size<=sizeLine/\k=((y.size:Int) != 0)
 |.ref p=>(∃xs,nK K H p xs/\k = !xs.isEmpty)\/(∃xs,oa K H p xs/\k = !xs.isEmpty)\/∃kvs,H p=some (.dK kvs)/\k = !kvs.isEmpty
 |_=>False
def yM {κ:Type}{kvs:A0 (κ×V)}{vs:A0 (κ×A6)}(r:KV kvs vs):(!vs.isEmpty) = !kvs.isEmpty:=by cases r <;> rfl
def sK {xs:A0 V}{its:Tf}(r:bO xs its):(!its.toArray.isEmpty) = !xs.isEmpty:=by cases r <;> simp
def o7:(sizeLine:Nat)<2 ^ 63:=by rw[zcp];decide
theorem xR:Tr X (λx H Q=>∃k,Hu X.K x H k/\Q k H):=by
 intro A1 s Y H x v Q I rx h;let⟨k,e,q⟩:=h;have hl:=o7;have hs:sizeLine=16777216:=zcp
 cases x with
 |non=>
  cases rx;have e':k=false:=e;subst e';exact truthy_none {H,I,q}
 |bl b=>
  cases rx;have e':k=b:=e;subst e';exact zbl {H,I,q}
 |int i=>
  let⟨t,rfl⟩:=rx;have e':k=(i != 0):=e;subst e';exact PySem.P.truthy_int {H,I,q}
 |str y=>
  let⟨t,rfl⟩:=rx;obtain⟨hy,e'⟩:y.length<=sizeLine/\k=((y.length:Int) != 0):=e;subst e';exact PySem.P.truthy_str ∅ {H,I.tok _,q}
 |byt y=>
  let⟨t,rfl⟩:=rx;obtain⟨hy,e'⟩:y.size<=sizeLine/\k=((y.size:Int) != 0):=e;subst e';exact PySem.W.truthy_bytes ∅ {H,I.tok _,q}
 |ref p=>
  cases rx;have e':(∃xs,nK X.K H p xs/\k = !xs.isEmpty)\/(∃xs,oa X.K H p xs/\k = !xs.isEmpty)\/∃kvs,H p=some (.dK kvs)/\k = !kvs.isEmpty:=e;rcases e' with⟨xs,hx,e'⟩|⟨xs,hx,e'⟩|⟨kvs,hx,e'⟩
  ·subst e';let⟨its,r,pl,hz⟩:=I.list hx;have hlen:=r.length;exact wpAny_truthy_list pl.isList (by rwa[BR];omega) {H,I.tok _,by rw[sK r];exact q}
  ·subst e';let⟨its,r,pl,hz⟩:=I.tuple hx;have hlen:=r.length;exact truthy_tuple pl (by rwa[BR];omega) {H,I.tok _,by rw[sK r];exact q}
  ·subst e';obtain⟨hz,hS,vs,r,m⟩:kvs.length<=sizeLine/\(p == sysModules)=false/\∃vs,KV kvs vs/\s.heap.DictOf (df X.prog X.w) p vs:=I.hok p _ hx;have hlen:kvs.length=vs.length:=Paired.length r;exact wpAny_truthy_dict hS m ∅ {H,I.tok _,by rw[yM r];exact q}
 |_=>exact(show False from e).elim
def JC4 (ha:PE X a ta)(he:∀whole,isTrue a X.env whole=(do let v ←whole;standAt a.pos;holding [v] (truthy v))) :
  PT X a (λY H Q=>ta Y H λx H'=>∃k,Hu X.K x H' k/\Q k H'):=by
 intro A1 s Y H Q I h;exact isTrue_plain (dk (ha A1 s Y H _ I h) λv s1 ⟨x,H1,I1,r1,q1⟩=>xR A1 s1 Y H1 x v Q I1 r1 q1) (he _)
def yq:l8 X (binaryOp .Add) (λx y H Q=>∃i j,x=.str i/\y=.str j/\i.length+j.length<=sizeLine/\Q (.str (i++j)) H):=by intro A1 s Y H x y v u Q I rx ry h;let⟨i,j,rfl,rfl,hz,q⟩:=h;let⟨t,rfl⟩:=rx;let⟨t',rfl⟩:=ry;exact add_str (λt' tk=>{.str (i++j),H,I.tok _,{_,rfl},q}) hz
def xA (b:AD):Prop:=∀o i,subscripted b false o i=operate [o,i] (getItem o i)
def wM (ha:PE X a ta)(hb:PE X b tb)(hs:xA b) :
  PE X (.Subscript a b pos) (J7 (λx y H Q=>∃z i c,x=.str z/\y=.int i/\0<=i/\i<2 ^ 63/\i<z.length/\z.cps[i.toNat]?=some c/\Q (.str ⟨#[c]⟩) H) ta tb):=by
 intro A1 s Y H Q I h;refine Subscript_ (Hb ha hb I h λv u s2 x y H2 I2 rx ry q=>?_);let⟨z,i,c,rfl,rfl,h0,h63,h1,hc,q⟩:=q;let⟨t,rfl⟩:=rx;let⟨t',rfl⟩:=ry;have e:seqIndex? i z.length=some i.toNat:=PySem.StrLaws.seqIndex_nonneg h0 h1
 exact tail_any (typeIs_str s2 z t) slot_str_getitem.lookup (getItem_str (c:=c) (by
  have e1:decide (i < -(2 ^ 63:Int))=false:=Bf ∅;have e2:decide (i >= 2 ^ 63)=false:=Bf ∅
  rw[e1,e2] <;> rfl) (by rw[e];exact hc) {.str ⟨#[c]⟩,H2,I2.tok _,{_,rfl},q}) (hs _ _)
theorem oy {x:V}{us:Tf}(r:bO [x] us):∃u,us=[u]/\bQ x u:=by
 cases r with
 |cons r1 r2=>cases r2;exact{_,rfl,r1}
theorem HF {x y:V}{us:Tf}(r:bO [x,y] us):∃u w',us=[u,w']/\bQ x u/\bQ y w':=by
 cases r with
 |cons r1 r2=>
  cases r2 with
  |cons r3 r4=>cases r4;exact{_,_,rfl,r1,r3}
def JA7 (hc:X.calm=true):kA X (.builtin "max") (λxs H Q=>∃i j,xs=[.int i,.int j]/\Q (.int (if j>i then j else i)) H):=by
 intro A1 s Y H xs us Q I r h;let⟨i,j,rfl,q⟩:=h;let⟨u,w',rfl,⟨t,rfl⟩,⟨t',rfl⟩⟩:=HF r;refine max_two_ints (I.ok.hd hc) λh' tk k=>{_,H,I.kept k,?_,q};by_cases hj:j>i
 ·rw[A8 hj,A8 hj];exact{_,rfl}
 ·rw[AE hj,AE hj];exact{_,rfl}
def JA6 (hc:X.calm=true):kA X (.builtin "min") (λxs H Q=>∃i j,xs=[.int i,.int j]/\Q (.int (if j<i then j else i)) H):=by
 intro A1 s Y H xs us Q I r h;let⟨i,j,rfl,q⟩:=h;let⟨u,w',rfl,⟨t,rfl⟩,⟨t',rfl⟩⟩:=HF r;refine min_two_ints (I.ok.hd hc) λh' tk k=>{_,H,I.kept k,?_,q};by_cases hj:j<i
 ·rw[A8 hj,A8 hj];exact{_,rfl}
 ·rw[AE hj,AE hj];exact{_,rfl}
def JBa:kA X (.type "int") (λxs H Q=>(∃i,xs=[.int i]/\Q (.int i) H)\/∃k,xs=[.bl k]/\Q (.int (if k then 1 else 0)) H):=by
 intro A1 s Y H xs us Q I r h;rcases h with⟨i,rfl,q⟩|⟨k,rfl,q⟩
 ·let⟨u,rfl,t,rfl⟩:=oy r;exact call_int_int {.int i,H,I,{_,rfl},q}
 ·let⟨u,rfl,r1⟩:=oy r
  cases r1;exact call_int_bool {.int (if k then 1 else 0),H,I.tok _,{_,rfl},q}
def vY:kA X (.type "str") (λxs H Q=>∃i,xs=[.int i]/\i.natAbs.log2<1920/\Q (.str (toString i)) H):=by intro A1 s Y H xs us Q I r h;obtain⟨i,rfl,hz,q⟩:=h;obtain⟨u,rfl,t,rfl⟩:=oy r;exact PySem.P.str_of_int hz {.str _,H,I.tok _,{_,rfl},q}
end
structure zc (h:Heap)(x dx C:Addr)(mA:Te):Prop where
 obj:h.get? x=some (PySem.W.instObj C dx)
 ns:h.Ns1 dx mA
 ne:dx≠x
def JBj {h:AG}{dx:A4}{mA:Te}(n:h.Ns1 dx mA):∃od,h.get? dx=some od/\∀name,PySem.W.lookIn name od=some (mA name):=by
 let⟨o,es,ep,ho,hd,hk,_,hm⟩:=n;refine{o,ho,λname=>?_};have e:=hm name;unfold nsFind findBy at e;rw[←Array.find?_toList] at e;unfold PySem.W.lookIn;rw[hd];dsimp only;split
 ·rename_i y q;rw[q] at e;exact AQ some e
 ·rename_i q;rw[q] at e;have a:es.toList.any (·.refKey)=false:=by rw[List.any_eq_false];intro y hy;let⟨z,t,hkey⟩:=hk y (Array.mem_toList_iff.mp hy);simp[DictEntry.refKey,hkey]
  have a':¬ es.toList.any (·.refKey)=true:=by rw[a];exact F8
  rw[AE a'];exact AQ some e
def zc.look {h:AG}{x dx C:A4}{mA:Te}(I:zc h x dx C mA):∃od,PySem.W.InstAt h x (PySem.W.instObj C dx) C (some od)/\∀name,PySem.W.lookIn name od=some (mA name) :=
 let ⟨od,ho,hl⟩:=JBj I.ns
 {od,{I.obj,rfl,rfl,ho},hl}
section
variable {prog:A7}{w:AF}{A:AI}{E:Tc}{s:A2}{K:AJ}{x dx C f:A4}{mA:Te}{name:Str}{v:A6}
def GR {expr:A9}{Q:Tc}(X:K.In s.heap)(I:zc s.heap x dx C mA)(hg:PySem.W.plainGet K C name=true)(hh:PySem.W.hasDictIn K C=true)
  (ha:PySem.W.findIn K (.ref C) name=some none) (hv:mA name=some v) (hv':PySem.W.handedIn v=true) (h:Q v {s with toks:=s.toks+1}) :
  wpAny (model prog w) A (getAttr (.ref x) name expr) Q E s:=by
 let⟨od,J,hl⟩:=I.look;exact PySem.W.get_value X J (zb0 hg).1 (PySem.W.findObj_own hh ha rfl (by rw[hl,hv])) hv' h
def JDr {pl:Sem A9}{Q:A6×A0 A6->A2->Prop}(X:K.In s.heap)(I:zc s.heap x dx C mA)(hg:PySem.W.plainGet K C name=true)
  (hf:PySem.W.findIn K (.ref C) name=some (some (.ref f))) (ht:PySem.W.isFn K (.ref f)=true) (hv:mA name=none) (h:Q (.ref f,[.ref x]) s) :
  wpAny (model prog w) A (getMethod (.ref x) name pl) Q E s:=by
 let⟨od,J,hl⟩:=I.look;exact PySem.W.method_fn X J (zb0 hg).1 (zb0 hg).2 hf (beq_iff_eq.mp ht) (by show(PySem.W.lookIn name od).map (·.isSome)=some false;rw[hl,hv];rfl) h
def JEr {ns:To}{Q:Unit->A2->Prop}(X:K.In s.heap)(I:zc s.heap x dx C mA)
  (hs:PySem.W.findIn K (.ref C) "__setattr__" = some (some (.builtin "object.__setattr__"))) (hp:PySem.W.plainOver K C=true) (ht:PySem.W.takerIn K C name=some none) (hh:PySem.W.hasDictIn K C=true)
  (hw:PySem.Within mA ns) (hsz:ns.length<=sizeLine)
  (h:∀h',zc h' x dx C (λy=>if y=name then some v else mA y)->Heap.SameBut dx s.heap h'->Q () {s with heap:=h',toks:=s.toks+2}) :
  wpAny (model prog w) A (setAttr (.ref x) name v) Q E s:=by
 let⟨od,J,hl⟩:=I.look;refine PySem.W.set_plain X J hs (PySem.W.osa_open (s:={s with toks:=s.toks+1}) (r:=none) X J hp ht λb=>?_);let⟨cd,hc,hd'⟩:=zce hh;have hx:s.heap.get? x=some {.ref C,some dx,.plain,#[]}:=I.obj;refine AY (BG (AY (AY (wpAny_loadPart hx (AY (PySem.W.Looks.here (s:={s with toks:=s.toks+1}) (PySem.W.looks_clsIn X hc) ?_))))));rw[hd'];refine BG (a:=some dx) (AY (BG (AY ?_)));refine wpAny_nsSet1 (s:={s with toks:=s.toks+1}) I.ns λh' Dm F9=>?_;let⟨oD,esD,epD,hoD,hdD,hcD⟩:=Dm.count (PySem.Within.cons name v hw);refine AY (wpAny_lookBehind hoD (by rw[hdD];exact pastItsLine_dict (Br hcD (by rw[Bg];omega))) ?_);exact BG (h _ {(F9.2 _ (Ne.symm I.ne)).trans I.obj,Dm,I.ne} F9)
def wW {R:Result->A2->Prop}{vs:Tf}{kw:A0 (Str×A6)}(X:K.In s.heap)(hm:PySem.W.makesIn K C=true)
  (hi:PySem.W.findIn K (.ref C) "__init__" = some (some (.ref f))) (hf:PySem.W.typeIn K (.ref f)=some (.type "function"))
  (h:codeAny (model prog w) (A.under (.builtin "type.__call__" {.ref C::vs,kw})) (.call (.ref f) {.ref (s.heap.objs.size+1)::vs,kw}) (PySem.W.InitBack (s.heap.objs.size+1) R)
   {s with heap:=(s.heap.push PySem.W.emptyDict).push (PySem.W.instObj C s.heap.objs.size)}) :
  codeAny (model prog w) A (.call (.ref C) {vs,kw}) R s:=by
 let⟨hh,g,d,t,os⟩:=s;exact PySem.W.make_core (PySem.W.makes_of X hm) (zbD X hi) (λself=>PySem.W.bind_fn X self hf) (.inl rfl) h
end
noncomputable def kH (f:Str)(v:V):A0 (Str×V)->A0 (Str×V)
 |[]=>[(f,v)]
 |(g,x)::r=>if g=f then (g,v)::r else (g,x)::kH f v r
theorem qL (f g:Str)(v:V):∀fs:A0 (Str×V),(kH f v fs).lookup g=if g=f then some v else fs.lookup g
 |[]=>by
  show List.lookup g [(f,v)]=_
  by_cases h:g=f
  ·have hb:(g == f)=true:=beq_iff_eq.mpr h;rwa[List.lookup,hb,A8 h]
  ·have hb:(g == f)=false:=beq_eq_false_iff_ne.mpr h;rwa[List.lookup,hb,AE h]
 |(k,x)::r=>by
  have ih:=qL f g v r;rw[show kH f v ((k,x)::r)=(if k=f then (k,v)::r else (k,x)::kH f v r) from rfl];by_cases hk:k=f
  ·rw[A8 hk];by_cases h:g=k
   ·have hb:(g == k)=true:=beq_iff_eq.mpr h;rwa[List.lookup,hb,A8 (h.trans hk)]
   ·have hb:(g == k)=false:=beq_eq_false_iff_ne.mpr h;rwa[List.lookup,hb,AE (λe:g=f=>h (e.trans hk.symm))]
  ·rw[AE hk];by_cases h:g=k
   ·have hb:(g == k)=true:=beq_iff_eq.mpr h;rwa[List.lookup,hb,AE (λe:g=f=>hk (h.symm.trans e))]
   ·have hb:(g == k)=false:=beq_eq_false_iff_ne.mpr h;rwa[List.lookup,hb];exact ih
theorem qt (f:Str)(v:V):∀fs:A0 (Str×V),f∈(kH f v fs).map (·.1)/\∀g,g∈fs.map (·.1)->g∈(kH f v fs).map (·.1)
 |[]=>{by simp[kH],λg h=>by simp at h}
 |(k,x)::r=>by
  let⟨i1,i2⟩:=qt f v r;rw[show kH f v ((k,x)::r)=(if k=f then (k,v)::r else (k,x)::kH f v r) from rfl];by_cases hk:k=f
  ·rw[A8 hk];subst hk;exact{by simp,λg h=>by simpa using h}
  ·rw[AE hk];refine{?_,λg h=>?_}
   ·rw[BA];exact Bk _ i1
   ·rw[BA] at h ⊢;rcases BJ.mp h with e|e
    ·exact BJ.mpr (.inl e)
    ·exact Bk _ (i2 g e)
theorem qM (f:Str)(v:V):∀fs:A0 (Str×V),(kH f v fs).length<=fs.length+1
 |[]=>by simp[kH]
 |(k,x)::r=>by
  have ih:=qM f v r;rw[show kH f v ((k,x)::r)=(if k=f then (k,v)::r else (k,x)::kH f v r) from rfl];by_cases hk:k=f
  ·rw[A8 hk,Bg,Bg];omega
  ·rw[AE hk,Bg,Bg];omega
theorem oq.some_of {v:V}{o:Ti}(r:oq (some v) o):∃u,o=some u/\bQ v u:=by
 cases o with
 |none=>exact(show False from r).elim
 |some u=>exact{u,rfl,r}
theorem oq.none_of {o:Ti}(r:oq none o):o=none:=by
 cases o with
 |none=>rfl
 |some u=>exact(show False from r).elim
theorem JAz {v:V}{u:A6}(r:bQ v u):PySem.W.handedIn u=true:=by
 cases v with
 |non=>cases(show u=Value.none from r);rfl
 |bl b=>cases(show u=Value.bool b from r);rfl
 |int i=>let⟨t,e⟩:=(show ∃t,u=Value.int i t from r);cases e;rfl
 |str x=>let⟨t,e⟩:=(show ∃t,u=Value.str x t from r);cases e;rfl
 |byt b=>let⟨t,e⟩:=(show ∃t,u=Value.bytes b t from r);cases e;rfl
 |flt b=>let⟨t,e⟩:=(show ∃t,u=Value.float b t from r);cases e;rfl
 |ref a=>cases(show u=Value.ref a from r);rfl
 |ty n=>cases(show u=Value.type n from r);rfl
section
variable {P:A7}{w:AF}{H:Hp}{h:AG}{a C dx:A4}{fs:A0 (Str×V)}
def vM (hok:kz P w H h)(e:H a=some (.ins C dx fs)):∃mA,zc h a dx C mA/\(∀f,oq (fs.lookup f) (mA f))/\PySem.Within mA (fs.map (·.1))/\fs.length<=1000/\H dx=some (.own a):=by let⟨d,z,ne,ob,mA,n,r,q⟩:=(show eY P w H h a (.ins C dx fs) from hok a _ e);exact{mA,{ob,n,ne},r,q,z,d}
end
structure E1 (K:AJ)(C:Addr):Prop where
 pg:PySem.W.plainGet K C Str.empty=true
 hd:PySem.W.hasDictIn K C=true
 po:PySem.W.plainOver K C=true
 sa:PySem.W.findIn K (.ref C) "__setattr__" = some (some (.builtin "object.__setattr__"))
def E1.get {K:AJ}{C:A4}(c:E1 K C)(f:Str):PySem.W.plainGet K C f=true:=c.pg
def g6 (K:AJ)(C:A4)(f:Str):Prop:=PySem.W.findIn K (.ref C) f=some none
def g6.taker {K:AJ}{C:A4}{f:Str}(n:g6 K C f):PySem.W.takerIn K C f=some none:=by unfold PySem.W.takerIn;rw[show PySem.W.findIn K (.ref C) f=some none from n];rfl
structure BV (K:AJ)(C:Addr)(m:Str)(f:Addr):Prop where
 at_:PySem.W.findIn K (.ref C) m=some (some (.ref f))
 fn:PySem.W.isFn K (.ref f)=true
 kp:PySem.W.keepIn K (.ref f)=true
section
variable {X:Cx}{A1:Td}{Y:St}{H:Hp}{s:A2}{a C dx:A4}{fs:A0 (Str×V)}{f:Str}{v:V}{A:AI}{E:Tc}
def sN {b:A9}{Q:Tc}(I:aS X A1 Y H s)(e:H a=some (.ins C dx fs))(c:E1 X.K C)(n:g6 X.K C f)(l:fs.lookup f=some v)
  (h:∀u s',aS X A1 Y H s'->bQ v u->Q u s'):wpAny (model X.prog X.w) A (getAttr (.ref a) f b) Q E s:=by
 let⟨mA,Ozz,r,_,_,_⟩:=vM I.hok e;let⟨u,hu,ru⟩:=oq.some_of (v:=v) (o:=mA f) (by rw[←l];exact r f);exact GR I.kIn Ozz (c.get f) c.hd n hu (JAz ru) (h u _ (I.tok _) ru)
def sM {m:Str}{g:A4}{pl:Sem A9}{Q:A6×A0 A6->A2->Prop}(I:aS X A1 Y H s)(e:H a=some (.ins C dx fs))(c:E1 X.K C)(k:BV X.K C m g)(l:fs.lookup m=none)
  (h:Q (.ref g,[.ref a]) s):wpAny (model X.prog X.w) A (getMethod (.ref a) m pl) Q E s:=by
 let⟨mA,Ozz,r,_,_,_⟩:=vM I.hok e;have hn:mA m=none:=oq.none_of (by rw[←l];exact r m);exact JDr I.kIn Ozz (c.get m) k.at_ k.fn hn h
def rW {y:V}{u:A6}{Q:Unit->A2->Prop}(I:aS X A1 Y H s)(e:H a=some (.ins C dx fs))(c:E1 X.K C)(n:g6 X.K C f)(hl:fs.length<1000)(ry:bQ y u)
  (h:∀s',aS X A1 Y (upd H a (.ins C dx (kH f y fs))) s'->Q () s'):wpAny (model X.prog X.w) A (setAttr (.ref a) f u) Q E s:=by
 let⟨mA,Ozz,r,wi,_,ho⟩:=vM I.hok e
 have hz:(fs.map (·.1)).length<=sizeLine:=by rw[BI,zcp];omega
 refine JEr I.kIn Ozz c.sa c.po n.taker c.hd wi hz λh' O'z sb=>h _ ?_;have hd:∃o,h'.get? dx=some o:=let ⟨o,_,_,e',_⟩:=O'z.ns;{o,e'};refine I.write (x:=a) (e:=dx) (by rw[e];exact True.intro) (.inr ho) (λb q hb z=>(sb.2 b hb).trans z) hd ?_;refine{by rw[aT Ozz.ne];exact ho,?_,Ozz.ne,O'z.obj,_,O'z.ns,λg=>?_,λg hg=>?_}
 ·have:=qM f y fs;omega
 ·show oq ((kH f y fs).lookup g) (if g=f then some u else mA g)
  rw[qL]
  by_cases q:g=f
  ·rw[A8 q,A8 q];exact ry
  ·rw[AE q,AE q];exact r g
 ·by_cases q:g=f
  ·rw[q];exact(qt f y fs).1
  ·refine(qt f y fs).2 g (wi g λz=>hg ?_)
   show(if g=f then some u else mA g)=none
   rw[AE q];exact z
def aS.made (I:aS X A1 Y H s):aS X A1 Y (upd (upd H s.heap.objs.size (.own (s.heap.objs.size+1))) (s.heap.objs.size+1) (.ins C s.heap.objs.size []))
  {s with heap:=(s.heap.push PySem.W.emptyDict).push (PySem.W.instObj C s.heap.objs.size)}:=by
 have e1:(s.heap.push PySem.W.emptyDict).get? s.heap.objs.size=some PySem.W.emptyDict:=Cw s.heap rfl
 have e2:((s.heap.push PySem.W.emptyDict).push (PySem.W.instObj C s.heap.objs.size)).get? (s.heap.objs.size+1)=some (PySem.W.instObj C s.heap.objs.size):=by
  have:=Cw (s.heap.push PySem.W.emptyDict) (o:=PySem.W.instObj C s.heap.objs.size) rfl
  (rw[zbn] at this;assumption)
 have e3:(s.heap.push PySem.W.emptyDict).Ns s.heap.objs.size (λ_=>none):={PySem.W.emptyDict,#[],_,e1,rfl,(λe he=>AH he ∅),λ_=>rfl};have I1:=I.laid (a:=s.heap.objs.size) (o:=.own (s.heap.objs.size+1)) (h':=s.heap.push PySem.W.emptyDict) (t':=s.toks) (λb u q=>Bl _ q) (BH _) {_,e1};refine I1.laid (a:=s.heap.objs.size+1) (o:=.ins C s.heap.objs.size []) (t':=s.toks) (λb u q=>Bl _ q) (Nat.le_of_eq (zbn _ _)) ?_;have ne:s.heap.objs.size≠s.heap.objs.size+1:=Ba (F7 _);refine{by rw[aT ne,fX],E8 _,ne,e2,λ_=>none,(Heap.Ns1.of_empty e3).at λo q=>Bl _ q,λ_=>True.intro,λy hy=>AH rfl hy}
def Hc {prog:A7}{w:AF}{env:Env}{e:AD}{f:Str}{pos:Pos}{s:A2}{Q:Tc}(hb:attributeBase e f env (eval e env)=eval e env)
  (h:wpAny (model prog w) A (eval e env) (λo s₁=>wpAny (model prog w) A (getAttr o f true) Q E s₁) E s):wpAny (model prog w) A (eval (.Attribute e f pos) env) Q E s :=
 Attribute_any_ h (by rw[arm_eval_Attribute,hb])
end
def NV (K:AJ)(ta:TE)(f:Str):TE:=λY H Q=>ta Y H λx H1=>∃a C dx fs v,x=.ref a/\H1 a=some (.ins C dx fs)/\E1 K C/\g6 K C f/\fs.lookup f=some v/\Q v H1
def N6 (K:AJ)(ta tv:TE)(f:Str):TS:=λD Y H=>tv Y H λy H1=>ta Y H1 λx H2=>∃a C dx fs,x=.ref a/\H2 a=some (.ins C dx fs)/\E1 K C/\g6 K C f/\fs.length<1000 /\
 D.nx Y (upd H2 a (.ins C dx (kH f y fs)))
def Qr (X:Cx)(op:Operator)(rd:V->V->Hp->VK->Prop):Prop :=
 ∀(A1:Td) (s:A2) (Y:St) (H:Hp) (x y:V) (u v:A6) (Q:VK),aS X A1 Y H s->bQ x u->bQ y v->rd x y H Q->wpAny (model X.prog X.w) X.A (inplaceOp op u v) (EP X A1 Y Q) X.xe s
def zC (K:AJ)(ta tv:TE)(rd:V->V->Hp->VK->Prop)(f:Str):TS:=λD Y H=>ta Y H λx H1=>∃a C dx fs v,x=.ref a/\H1 a=some (.ins C dx fs)/\E1 K C/\g6 K C f/\fs.lookup f=some v /\
 tv Y H1 λy H2=>rd v y H2 λz H3=>∃Fs Eb,H3 a=some (.ins C Fs Eb)/\Eb.length<1000/\D.nx Y (upd H3 a (.ins C Fs (kH f z Eb)))
section
variable {X:Cx}{o e value:AD}{f:Str}{pos pos' tpos:Pos}{ta tv:TE}
def Ln (he:PE X e ta)(hb:attributeBase e f X.env (eval e X.env)=eval e X.env):PE X (.Attribute e f pos) (NV X.K ta f):=by intro A1 s Y H Q I h;refine Hc hb (dk (he A1 s Y H _ I h) λu s1 hh=>?_);let⟨x,H1,I1,rx,a,C,dx,fs,v,ex,ea,c,n,l,q⟩:=hh;subst ex;obtain rfl:u=Value.ref a:=rx;exact sN I1 ea c n l λu' s2 I2 ru=>{v,H1,I2,ru,q}
def Lb (ha:PE X o ta)(hv:PE X value tv)(hs:swapsWith value (some (.Attribute o f pos')) pos.line X.env=pure false):PS X (.Assign [.Attribute o f pos'] value pos) (N6 X.K ta tv f):=by intro A1 s Y H D I h;refine plainObj_wpAny_Assign_Attribute (dk (hv A1 s Y H _ I h) λu s1 hh=>?_) hs;let⟨y,H1,I1,ry,q⟩:=hh;refine dk (ha A1 s1 Y H1 _ I1 q) λov s2 hh=>?_;let⟨x,H2,I2,rx,a,C,dx,fs,ex,ea,c,n,l,q2⟩:=hh;subst ex;obtain rfl:ov=Value.ref a:=rx;exact rW I2 ea c n l ry λs3 I3=>{Y,_,I3,q2}
def JAd {op:Operator}{rd:V->V->Hp->VK->Prop}(ha:PE X o ta)(hv:PE X value tv)(hop:Qr X op rd):PS X (.AugAssign (.Attribute o f tpos) op value pos) (zC X.K ta tv rd f):=by intro A1 s Y H D I h;refine wpAny_AugAssign_AttributeAny (dk (ha A1 s Y H _ I h) λov s1 hh=>?_);let⟨x,H1,I1,rx,a,C,dx,fs,v,ex,ea,c,n,l,q⟩:=hh;subst ex;obtain rfl:ov=Value.ref a:=rx;refine sN I1 ea c n l λu s2 I2 ru=>dk (hv A1 s2 Y H1 _ I2 q) λw3 s3 hh=>?_;let⟨y,H2,I3,ry,q3⟩:=hh;refine dk (hop A1 s3 Y H2 v y u w3 _ I3 ru ry q3) λw4 s4 hh=>?_;let⟨z,H3,I4,rz,Fs,Eb,ea',l',q4⟩:=hh;exact rW I4 ea' c n l' rz λs5 I5=>{Y,_,I5,q4}
def Ow:V->V->Hp->VK->Prop:=λx y H Q=>∃i j,x=.int i/\y=.int j/\Q (.int (i+j)) H
def Md:Qr X .Add Ow:=by rintro A1 s Y H x y u v Q I rx ry ⟨i,j,rfl,rfl,q⟩;let⟨t,rfl⟩:=(show ∃t,u=Value.int i t from rx);let⟨t',rfl⟩:=(show ∃t',v=Value.int j t' from ry);exact PyProof.Rows.iadd_int {.int (i+j),H,I.tok _,{_,rfl},q}
end
structure cr (k:Nat)(A:Around):Prop where
 hd:A.handled=none
 dp:A.depth+3*k+5<recursionLimit
 un:A.units+16*k+200<cLine
def cr.mono {j k:Nat}(r:cr k A)(h:j<=k):cr j A:={r.hd,by have:=r.dp;omega,by have:=r.un;omega}
def cr.deeper {k:Nat}{A:AI}(r:cr (k+1) A)(env:Env):cr k (A.deeper env) :=
 {r.hd,by have:=r.dp;show A.depth+1+3*k+5<_;omega,by have:=r.un;show A.units+3+16*k+200<_;omega}
def yx {A:AI}{C:A4}{us:Tf}{kw:A0 (Str×A6)}:(A.under (.builtin "type.__call__" {.ref C::us,kw})).depth=A.depth+1:=by first|rfl|simp[Around.under,Code.weight,Code.isCreation,Code.isGuard,Code.isCaller,Code.frames,Code.isFrame,guardIds]
def yw {A:AI}{C:A4}{us:Tf}{kw:A0 (Str×A6)}:(A.under (.builtin "type.__call__" {.ref C::us,kw})).units=A.units+1:=by first|rfl|simp[Around.under,Code.cUnits,Code.frames,Code.isFrame]
def cr.make {k:Nat}{A:AI}(r:cr (k+1) A)(C:A4)(us:Tf)(kw:A0 (Str×A6)):cr k (A.under (.builtin "type.__call__" {.ref C::us,kw})) :=
 {r.hd,by have:=r.dp;rw[yx];omega,by have:=r.un;rw[yw];omega}
def cr.depth {k:Nat}{A:AI}(r:cr k A):A.depth<recursionLimit:=by have:=r.dp;omega
def cr.units {k:Nat}{A:AI}(r:cr k A):A.units+64<cLine:=by have:=r.un;omega
def u5:TA:=λ_ H Q=>Q [] H
def mL (ta:TE)(tr:TA):TA:=λY H Q=>ta Y H λx H1=>tr Y H1 λxs H2=>Q (x::xs) H2
section
variable {X:Cx}{e:AD}{es:Tl}{te:TE}{t:TA}{pos:Pos}
def lJ:PA X [] u5:=λ_ _ _ _ H Q I h=>Calls.spliced_nil {[],H,I,.nil,h}
def gX (ha:PE X e te)(hr:PA X es t)(hs:starEach (e::es) X.env=(false,eval e X.env)::starEach es X.env:=by rfl):PA X (e::es) (mL te t):=by
 intro pos A1 s Y H Q I h;rw[hs]
 show wpAny _ _ (spliced ((false,eval e X.env)::backTo pos (starEach es X.env))) _ _ s
 refine Calls.spliced_cons (dk (ha A1 s Y H _ I h) λu s1 hh=>?_);let⟨x,H1,I1,r1,q1⟩:=hh;exact dk (hr pos A1 s1 Y H1 _ I1 q1) λus s2 ⟨xs,H2,I2,r2,q2⟩=>{x::xs,H2,I2,.cons r1 r2,q2}
def J6 (t:TA):TE:=λY H Q=>t Y H λxs H1=>xs.length<=sizeLine/\∀p,H1 p=none->Q (.ref p) (upd H1 p (.tup xs))
def J8 (t:TA):TE:=λY H Q=>t Y H λxs H1=>xs.length<=sizeLine/\∀p,H1 p=none->Q (.ref p) (upd H1 p (.lst xs))
def Du {x1}(h:PA X es t):PE X (.Tuple es x1 pos) (J6 t):=by intro A1 s Y H Q I hq;refine wpAny_Tuple_spliced (dk (h pos A1 s Y H _ I hq) λus s1 hh=>?_);let⟨xs,H1,I1,r,z,q⟩:=hh;refine{by rw[←r.length];exact z,?_};have hf:H1 s1.heap.objs.size=none:=I1.hok.fresh (BH _);refine{.ref s1.heap.objs.size,upd H1 s1.heap.objs.size (.tup xs),I1.laid (t':=s1.toks) (λb u e=>Bl _ e) (BH _) ?_,rfl,q _ hf};exact{z,us,r,nM.new _ _}
def Dx (h:PA X es t):PE X (.List es pos) (J8 t):=by intro A1 s Y H Q I hq;refine wpAny_List_spliced (dk (h pos A1 s Y H _ I hq) λus s1 hh=>?_);let⟨xs,H1,I1,r,z,q⟩:=hh;refine{by rw[←r.length];exact z,?_};have hf:H1 s1.heap.objs.size=none:=I1.hok.fresh (BH _);refine{.ref s1.heap.objs.size,upd H1 s1.heap.objs.size (.lst xs),I1.laid (t':=s1.toks) (λb u e=>Bl _ e) (BH _) ?_,rfl,q _ hf};exact{z,us,0,r,Cw _ rfl}
end
abbrev Sp:=A0 V->Hp->VK->XK->Prop
abbrev ze:=A0 Env->Hp->A2->XK->Tc
structure zd (P:Program)(w:World)(K:AJ)(mg:Te)(base:Heap)(A:Around)(outer:List Env)(s:Shared)(H:Hp):Prop where
 frames:A.frames=some outer
 mod:Mod K mg base
 bs:∀b o,base.get? b=some o->s.heap.get? b=some o/\H b=none
 bsz:base.objs.size<=s.heap.objs.size
 funs:s.heap.FunFrames base outer
 frf:∀b∈j6 outer,H b=none
 hok:kz P w H s.heap
 bare:AllBare s.gens
def CE (outer:A0 Env)(P:A7)(w:AF)(H:Hp)(s:A2)(Q:VK)(u:A6)(s':A2):Prop :=
 ∃v H',s'.os=s.os/\AllBare s'.gens/\Un (j6 outer) [] H H' s.heap s'.heap/\kz P w H' s'.heap/\bQ v u/\Q v H'
def JCa (CX:ze)(outer:A0 Env)(P:A7)(w:AF)(H:Hp)(s:A2)(Q:VK)(E:XK)(r:Result)(s':A2):Prop :=
 match r with
 |.ok (.ret u)=>CE outer P w H s Q u s'
 |.ok _=>False
 |.error e=>CX outer H s E e s'
structure dF (P:Program)(w:World)(K:AJ)(mg:Te)(base:Heap)(CX:ze)(k:Nat)(f:Addr)(fd:FuncData)(ps:To)(sp:Sp):Prop where
 len:∀vs H Q E,sp vs H Q E->vs.length=ps.length
 run:∀(A:Around) (outer:List Env) (s:Shared) (H:Hp) (args:Args) (us:Tf) (vs:List V) (Q:VK) (E:XK),cr k A->zd P w K mg base A outer s H->BindsTo s fd args (ps.zip us)->bO vs us->sp vs H Q E ->
  codeAny (model P w) A (.call (.ref f) args) (JCa CX outer P w H s Q E) s
def dF.imp {P:A7}{w:AF}{K:AJ}{mg:Te}{base:AG}{CX:ze}{k:Nat}{f:A4}{fd:FuncData}{ps:To}{sp sp':Sp}(F:dF P w K mg base CX k f fd ps sp)
  (h:∀vs H Q E,sp' vs H Q E->sp vs H Q E):dF P w K mg base CX k f fd ps sp' :=
 {λvs H Q E q=>F.len vs H Q E (h _ _ _ _ q),λA outer s H args us vs Q E hr he hb hv hs=>F.run A outer s H args us vs Q E hr he hb hv (h _ _ _ _ hs)}
def zd.make {K:AJ}{mg:Te}{base:AG}{outer:A0 Env}{s:A2}{H:Hp}(e:zd P w K mg base A outer s H)(C:A4)(us:Tf)(kw:A0 (Str×A6)) :
  zd P w K mg base (A.under (.builtin "type.__call__" {.ref C::us,kw})) outer s H:={by first|exact e.frames|(simpa[Around.under,Code.envs,Code.isFrame,pushEnvs] using e.frames),e.mod,e.bs,e.bsz,e.funs,e.frf,e.hok,e.bare}
section
variable {X:Cx}{A1:Td}{Y:St}{H:Hp}{s s':A2}
def aS.env0 (I:aS X A1 Y H s):zd X.prog X.w X.K X.mg X.base X.A X.stack s H :=
 {I.ok.frames,I.ok.mod,I.bs,Br I.ok.bsz I.sz,I.stack,I.stkFree,I.hok,I.bare}
def aS.after {Q:VK}{u:A6}(I:aS X A1 Y H s)(h:CE X.stack X.prog X.w H s Q u s'):EP X A1 Y Q u s':=by let⟨v,H',os,bare,un,hok,r,q⟩:=h;let⟨hh,g,d,t,os'⟩:=s';obtain rfl:os'=s.os:=os;exact{v,H',I.call (h':=hh) (g':=g) (d':=d) (t':=t) (ch:=[]) un hok bare (λb z=>AH z ∅),r,q}
end
def zq (sp:Sp)(CK:A0 V)(E:XK)(t:TA):TE:=λY H Q=>t Y H λvs H1=>sp (vs++CK) H1 Q E
def IB (C:A4)(m:Str)(sp:Sp)(CK:A0 V)(E:XK)(ta:TE)(t:TA):TE:=λY H Q=>ta Y H λx H1=>∃a dx fs,x=.ref a/\H1 a=some (.ins C dx fs)/\fs.lookup m=none /\
 t Y H1 λvs H2=>sp (x::(vs++CK)) H2 Q E
def IC (C:A4)(sp:Sp)(CK:A0 V)(E:XK)(t:TA):TE:=λY H Q=>t Y H λvs H1=>∀x dx,H1 x=none->H1 dx=none->dx≠x ->
 sp (.ref x::(vs++CK)) (upd (upd H1 dx (.own x)) x (.ins C dx [])) (λv H2=>v=.non/\Q (.ref x) H2) E
def fH (K:AJ)(fd:FuncData)(ps:To)(ds:Tf):Prop :=
 ∀(s:A2) (us:Tf),K.In s.heap->(us++ds).length=ps.length->BindsTo s fd {us,[]} (ps.zip (us++ds))
def fH.all {K:AJ}{ps:To}(h:∀us:Tf,us.length=ps.length->bindArgs fd {us,[]}=pure (ps.zip us)):fH K fd ps []:=λs us _ hl=>by rw[Dr] at hl ⊢;exact .of_eq (h us hl)
def l6 (CX:ze)(X:Cx)(E:XK):Prop:=∀(A1:Td) (Y:St) (H:Hp) (s:A2) (e:A6) (s':A2),aS X A1 Y H s->CX X.stack H s E e s'->X.xe e s'
section
variable {X:Cx}{CX:ze}{k:Nat}{f C:A4}{fd:FuncData}{ps:To}{sp:Sp}{CK:A0 V}{ds:Tf}{E:XK}{x m:Str}{p pos apos:Pos}{e o:AD}{es:Tl}{ta:TE}{t:TA}
theorem CU {A1:Td}{Y:St}{H:Hp}{s:A2}{Q:VK}{us:Tf}{vs:A0 V}(F:dF X.prog X.w X.K X.mg X.base CX k f fd ps sp)(hr:cr k X.A)(hb:fH X.K fd ps ds)(hd:bO CK ds)(hx:l6 CX X E)
  (I:aS X A1 Y H s) (r:bO vs us) (h:sp (vs++CK) H Q E):wpAny (model X.prog X.w) X.A (call (.ref f) us) (EP X A1 Y Q) X.xe s:=by
 have r2:bO (vs++CK) (us++ds):=r.append hd
 have hl:(us++ds).length=ps.length:=by rw[←r2.length];exact F.len _ _ _ _ h
 refine zcc (Eh (F.run X.A X.stack s H {us,[]} (us++ds) (vs++CK) Q E hr I.env0 (hb s us I.kIn hl) r2 h) λr s' hq=>?_)
 cases r with
 |error e=>exact hx A1 Y H s e s' I hq
 |ok fl=>
  cases fl with
  |ret u=>exact I.after hq
  |next=>exact False.elim hq
  |brk=>exact False.elim hq
  |cont=>exact False.elim hq
def vn (F:dF X.prog X.w X.K X.mg X.base CX k f fd ps sp)(hr:cr k X.A)(hg:Gl X x)(hm:X.mg x=some (.ref f))(hk:PySem.W.keepIn X.K (.ref f)=true)(hb:fH X.K fd ps ds)(hd:bO CK ds)(hx:l6 CX X E)
  (ha:PA X (e::es) t) (BB:(x == ("__debug__" : Str))=false:=by decide) (he:starEach (e::es) X.env=(false,eval e X.env)::starEach es X.env:=by rfl) (hpl:(backTo pos (starEach es X.env)).any (·.1)=false:=by rfl) :
  PE X (.Call (.Name x p) (e::es) [] pos) (zq sp CK E t):=by
 intro A1 s Y H Q I h;refine EE (jA I hg hm ?_ BB);refine zbj (h₀:=X.base) I.ok.mod.kin hk (dk (ha pos A1 s Y H _ I h) λus s1 hh=>?_) he hpl;let⟨vs,H1,I1,r,q⟩:=hh;refine{I1.kIn,?_};exact CU F hr hb hd hx I1 r q
def JDa {pl:Sem A9}(he:PE X o ta)(c:E1 X.K C)(hm:BV X.K C m f)(F:dF X.prog X.w X.K X.mg X.base CX k f fd ps sp)(hr:cr k X.A)(hb:fH X.K fd ps ds)(hd:bO CK ds)(hx:l6 CX X E)
  (ht:eval (.Call (.Attribute o m apos) [] [] pos) X.env=(do
   let ov ←eval o X.env
   standAt apos.atName
   let (f,first) ←holding [ov] (getMethod ov m pl)
   callWith pos f first (backTo pos (starEach [] X.env)) (backToKw pos (keywordEach [] X.env))):=by rfl) :
  PE X (.Call (.Attribute o m apos) [] [] pos) (IB C m sp CK E ta u5):=by
 intro A1 s Y H Q I h;refine PySem.W.methodCall_KW (pl:=pl) (dk (he A1 s Y H _ I h) λu s1 hh=>?_) ht;let⟨x,H1,I1,rx,a,dx,fs,ex,ea,l,q⟩:=hh;subst ex;obtain rfl:u=Value.ref a:=rx;refine sM I1 ea c hm l ?_;exact PySem.W.callWith_K0 (first:=[.ref a]) I1.kIn hm.kp (CU (us:=[.ref a]) (vs:=[.ref a]) F hr hb hd hx I1 (.cons rfl .nil) q)
structure Mk (K:AJ)(C f:Addr):Prop where
 makes:PySem.W.makesIn K C=true
 init:PySem.W.findIn K (.ref C) "__init__" = some (some (.ref f))
 fn:PySem.W.isFn K (.ref f)=true
 kp:PySem.W.keepIn K (.ref C)=true
theorem JCb {A1:Td}{Y:St}{H:Hp}{s:A2}{Q:VK}{us:Tf}{vs:A0 V}(M:Mk X.K C f)(F:dF X.prog X.w X.K X.mg X.base CX k f fd ps sp)(hr:cr (k+1) X.A)(hb:fH X.K fd ps ds)(hd:bO CK ds)
  (hx:l6 CX X E) (I:aS X A1 Y H s) (r:bO vs us)
  (h:∀x dx,H x=none->H dx=none->dx≠x->sp (.ref x::(vs++CK)) (upd (upd H dx (.own x)) x (.ins C dx [])) (λv H2=>v=.non/\Q (.ref x) H2) E) :
  wpAny (model X.prog X.w) X.A (call (.ref C) us) (EP X A1 Y Q) X.xe s:=by
 have hq:=h (s.heap.objs.size+1) s.heap.objs.size (I.hok.fresh (zcq _)) (I.hok.fresh (BH _)) (Ba (F7 _));have I2:=aS.made (C:=C) I;have r2:bO (V.ref (s.heap.objs.size+1)::(vs++CK)) (Value.ref (s.heap.objs.size+1)::(us++ds)):=.cons rfl (r.append hd)
 have hl:(Value.ref (s.heap.objs.size+1)::us++ds).length=ps.length:=by
  have e:=r2.length;rw[F.len _ _ _ _ hq] at e;exact e.symm
 refine zcc (wW (f:=f) I.kIn M.makes M.init (beq_iff_eq.mp M.fn) (Eh (F.run _ X.stack _ _ {Value.ref (s.heap.objs.size+1)::us,[]} (Value.ref (s.heap.objs.size+1)::(us++ds)) _ _ E (hr.make C us [])
  (I2.env0.make C us []) (hb _ (Value.ref (s.heap.objs.size+1)::us) I2.kIn hl) r2 hq) λr s' E4=>?_))
 cases r with
 |error e=>exact hx A1 Y _ _ e s' I2 E4
 |ok fl=>
  cases fl with
  |ret u=>
   let⟨v,H',I3,rv,ev,q3⟩:=I2.after E4;subst ev;exact{rv,{V.ref (s.heap.objs.size+1),H',I3,rfl,q3}}
  |next=>exact False.elim E4
  |brk=>exact False.elim E4
  |cont=>exact False.elim E4
def Ge (M:Mk X.K C f)(F:dF X.prog X.w X.K X.mg X.base CX k f fd ps sp)(hr:cr (k+1) X.A)(hg:Gl X x)(hm:X.mg x=some (.ref C))(hb:fH X.K fd ps ds)(hd:bO CK ds)(hx:l6 CX X E)
  (ha:PA X (e::es) t) (BB:(x == ("__debug__" : Str))=false:=by decide) (he:starEach (e::es) X.env=(false,eval e X.env)::starEach es X.env:=by rfl) (hpl:(backTo pos (starEach es X.env)).any (·.1)=false:=by rfl) :
  PE X (.Call (.Name x p) (e::es) [] pos) (IC C sp CK E t):=by
 intro A1 s Y H Q I h;refine EE (jA I hg hm ?_ BB);refine zbj (h₀:=X.base) I.ok.mod.kin M.kp (dk (ha pos A1 s Y H _ I h) λus s1 hh=>?_) he hpl;let⟨vs,H1,I1,r,q⟩:=hh;refine{I1.kIn,?_};exact JCb M F hr hb hd hx I1 r q
end
structure aK (N P:To)(sc:Scope):Prop where
 kind:sc.kind=.function
 co:sc.isCoroutine=false
 gen:sc.isGenerator=false
 nd:N.Nodup
 pre:N.take P.length=P
 par:∀x∈P,sc.names.lookup x=some .local\/sc.names.lookup x=some .cell
 nofree:∀y∈sc.names,y.2≠.free
theorem uU {kindOf:Str->UO NameKind}{x:Str}:∀{binds:A0 (Str×A6)} {m:Te},(∀v,(x,v)∉binds)->bindL kindOf binds m x=m x
 |[],_,_=>rfl
 |(n,v)::r,m,h=>by
  unfold bindL;rw[uU λw hw=>h w (Bk _ hw)];split
  ·have:x≠n:=by rintro rfl;exact h v Bw
   simp[this]
  ·rfl
theorem uW {kindOf:Str->UO NameKind}{x:Str}:∀{binds:A0 (Str×A6)} {m:Te},(∀v,(x,v)∉binds)->bindC kindOf binds m x=m x
 |[],_,_=>rfl
 |(n,v)::r,m,h=>by
  unfold bindC;rw[uW λw hw=>h w (Bk _ hw)];split
  ·rfl
  ·have:x≠n:=by rintro rfl;exact h v Bw
   simp[this]
theorem uV {kindOf:Str->UO NameKind}{x:Str}{v:A6}:∀{P:To} {vs:Tf} {i:Nat} {m:Te},P.Nodup->P[i]?=some x->vs[i]?=some v->kindOf x=some .local ->
  bindL kindOf (P.zip vs) m x=some v
 |[],_,_,_,_,h,_,_=>by simp at h
 |_::_,[],_,_,_,_,h,_=>by simp at h
 |p::P,w::vs,0,m,nd,h1,h2,hk=>by
  simp at h1 h2;subst h1;subst h2
  show bindL kindOf ((p,w)::P.zip vs) m p=_
  unfold bindL;rw[uU λv hv=>(zbW.mp nd).1 (zck hv).1,A8 hk];simp
 |p::P,w::vs,i+1,m,nd,h1,h2,hk=>by
  show bindL kindOf ((p,w)::P.zip vs) m x=_
  unfold bindL;exact uV (i:=i) (zbW.mp nd).2 ‹h1› ‹h2› hk
theorem uX {kindOf:Str->UO NameKind}{x:Str}{v:A6}:∀{P:To} {vs:Tf} {i:Nat} {m:Te},P.Nodup->P[i]?=some x->vs[i]?=some v->kindOf x≠some .local ->
  bindC kindOf (P.zip vs) m x=some v
 |[],_,_,_,_,h,_,_=>by simp at h
 |_::_,[],_,_,_,_,h,_=>by simp at h
 |p::P,w::vs,0,m,nd,h1,h2,hk=>by
  simp at h1 h2;subst h1;subst h2
  show bindC kindOf ((p,w)::P.zip vs) m p=_
  unfold bindC;rw[uW λv hv=>(zbW.mp nd).1 (zck hv).1,AE hk];simp
 |p::P,w::vs,i+1,m,nd,h1,h2,hk=>by
  show bindC kindOf ((p,w)::P.zip vs) m x=_
  unfold bindC;exact uX (i:=i) (zbW.mp nd).2 ‹h1› ‹h2› hk
noncomputable def jh (N:To)(vs:A0 V):St:=vs.map some++List.replicate (N.length-vs.length) none
noncomputable def gR (CX:ze)(P:A7)(w:AF)(K:AJ)(mg:Te)(base:AG)(N:To)(qual:Str)(scope:Scope)(f:A4)(cd:A6)(A:AI)(outer:A0 Env)(s:A2)(H:Hp)(E:XK):Cx where
 prog:=P
 w:=w
 K:=K
 mg:=mg
 base:=base
 A:=A.deeper (envOfC qual scope s.heap.objs.size f cd)
 N:=N
 s₀:=s
 H₀:=H
 env:=envOfC qual scope s.heap.objs.size f cd
 outer:=outer
 stack:=envOfC qual scope s.heap.objs.size f cd::outer
 ex:=[]
 calm:=true
 fn:=λ_=>true
 pn:=[]
 xe:=λe s'=>wpAny (model P w) (A.deeper (envOfC qual scope s.heap.objs.size f cd)) (leaving (envOfC qual scope s.heap.objs.size f cd) e) (λ_ s''=>CX outer H s E e s'') (λe' s''=>CX outer H s E e' s'') s'
def xy {sc:Scope}{n:Nat}{x:Str}(h:sc.names.lookup x=some .cell):∃c,(cellsFrom n sc.names []).lookup x=some c:=by have q:=zbx sc.names n [] (.inl h);exact Option.isSome_iff_exists.mp q
def JBw {CX:ze}{P:A7}{w:AF}{K:AJ}{mg:Te}{base:AG}{N ps:To}{qual:Str}{scope:Scope}{f:A4}{cd:A6}{A:AI}{outer:A0 Env}{s s1:A2}{H:Hp}{E:XK}{us:Tf}{vs:A0 V}
  (S:aK N ps scope) (hd:A.handled=none) (e0:zd P w K mg base A outer s H) (hl:vs.length=ps.length) (r:bO vs us)
  (x:InCallC s s.heap.objs.size (bindL (envOfC qual scope s.heap.objs.size f cd).kindOf (ps.zip us) λ_=>none) (cellsFrom (s.heap.objs.size+1) scope.names []) (bindC (envOfC qual scope s.heap.objs.size f cd).kindOf (ps.zip us) λ_=>none) s1) :
  aS (gR CX P w K mg base N qual scope f cd A outer s H E) [] (jh N vs) H s1:=by
 have hpl:ps.length<=N.length:=by have:=AQ List.length S.pre;rw[zbf] at this;omega
 let⟨h1,tk,rfl,hk⟩:=x.done;have noA:∀b:A4,b∉(gR CX P w K mg base N qual scope f cd A outer s H E).ex:=λb z=>AH (show b∈([]:Tg) from z) ∅
 refine{{e0.mod,S.kind,rfl,rfl,BH _,λy z c h1 h2=>?_,λy hy=>?_,λy c _ h=>?_,λ_=>hd,Around.frames_deeper e0.frames,.inr {rfl,rfl},λb z=>AH z (noA b),e0.bs,e0.bsz,λb _ _=>noA b,λb z=>AH z (noA b),e0.funs,e0.frf},
  rfl,e0.bare,Un.kept hk,{_,x.toInCall.ns,λi y v h1 h2 h3=>?_},λy c h=>{_,x.cell y c h},e0.hok.fresh (BH _),λy c h=>?_,λp hp=>AH (show p∈([]:Td) from hp) ∅,e0.hok.kept hk,?_}
 ·exact name_of_addr x.apart (PySem.mem_of_lookup h1) (PySem.mem_of_lookup h2)
 ·have hy:scope.names.lookup y=some .cell\/scope.names.lookup y=some .free:=hy
  rcases hy with hy|hy
  ·exact xy hy
  ·exact AH rfl (S.nofree _ (PySem.mem_of_lookup hy))
 ·exact zbI (x.above y c (PySem.mem_of_lookup h))
 ·have hi:i<vs.length:=by
   unfold jh at h2
   by_cases hi:i<vs.length
   ·exact hi
   ·rw[Dw ‹hi›] at h2
    rw[zbr] at h2;split at h2 <;> cases h2
  have ha:vs[i]?=some v:=by
   unfold jh at h2;rw[C0 ‹hi›,DA] at h2
   cases e:vs[i]? with
   |none=>rw[e] at h2;cases h2
   |some a=>rw[e] at h2;cases h2;rfl
  let⟨u,hu,rv⟩:=r.get ha
  have hp:ps[i]?=some y:=by
   rw[←S.pre,List.getElem?_take_of_lt ∅];exact h1
  have ndP:ps.Nodup:=by rw[←S.pre];exact S.nd.sublist (List.take_sublist _ _)
  refine{u,rv,?_};rcases S.par y (DE hp) with k|k
  ·exact .inl {k,uV ndP hp hu k}
  ·let⟨c,e⟩:=xy (n:=s.heap.objs.size+1) k
   refine .inr {.inl k,c,e,?_};have q:=x.cell y c e;rw[uX ndP hp hu (by show scope.names.lookup y≠_;rw[k];decide)] at q;exact q
 ·exact e0.hok.fresh (zbI (x.above y c (PySem.mem_of_lookup h)))
 ·unfold jh
  show _=N.length
  rw[Bx,BI,zbB];omega
theorem Ef {CX:ze}{P:A7}{w:AF}{K:AJ}{mg:Te}{base:AG}{k:Nat}{f:A4}{name qual:Str}{params:Arguments}{body:Tn}{scope:Scope}{dV kV doc pm AP ct oc:A6}{an od:UO A4}
  {Dj:AW (Ti)} {N ps:To} {sp:Sp} (lk:K.lookup f=some {oc,od,.func (PySem.W.fnOf name qual params body scope dV kV doc pm an AP ct),Dj}) (Bp:PySem.W.codeIn K AP qual=true) (S:aK N ps scope)
  (len:∀vs H Q E,sp vs H Q E->vs.length=ps.length)
  (AR:∀(A:AI) (outer:A0 Env) (s:A2) (H:Hp) (vs:A0 V) (Q:VK) (E:XK),cr k (A.deeper (envOfC qual scope s.heap.objs.size f AP))->sp vs H Q E ->
   ∃t,qF (gR CX P w K mg base N qual scope f AP A outer s H E) body t/\t {nx:=λ_ H'=>Q .non H',rt:=Q} (jh N vs) H) :
  dF P w K mg base CX (k+1) f (PySem.W.fnOf name qual params body scope dV kV doc pm an AP ct) ps sp:=by
 refine{len,λA outer s H args us vs Q E hr e0 hb r D6=>?_};have hl:=len _ _ _ _ D6;have KX:K.In s.heap:=e0.mod.kin.keeps λb o e=>(e0.bs b o e).1;have lim:s.heap.NoLimit:=e0.mod.nolimit.keeps λb o e=>(e0.bs b o e).1
 have hkind:∀y∈ps.zip us,scope.names.lookup y.1=some .local\/(scope.names.lookup y.1=some .cell/\((cellsFrom (s.heap.objs.size+1) scope.names []).lookup y.1).isSome=true):=λ⟨n,v⟩ hy=>by
  rcases S.par n (zck hy).1 with q|q
  ·exact .inl q
  ·exact .inr {q,zbx _ _ _ (.inl q)}
 refine codeAny_call_function hr.depth (KX _ _ lk) rfl S.co S.gen rfl (PySem.W.codeRec_of KX Bp) (hb _ _ _ _ ?_);refine wpAny_newFunctionEnv_cells S.kind hkind λenv he s1 x=>?_;subst he;refine{lim.keeps x.toInCall.keep,codeAny_func ?_};let⟨t,ht,hq⟩:=AR A outer s H vs Q E (hr.deeper _) D6;have I:aS (gR CX P w K mg base N qual scope f AP A outer s H E) [] (jh N vs) H s1:=JBw S hr.hd e0 hl r x;refine BK (ht [] s1 (jh N vs) H _ I hq) (λfl s' hs=>?_) λe s' hs=>hs
 have fin:∀{Y':St} {H':Hp} {v:V} {u:A6},aS (gR CX P w K mg base N qual scope f AP A outer s H E) [] Y' H' s'->bQ v u->Q v H'->CE outer P w H s Q u s' :=
  λ{Y' H' v u} J rv q=>{v,H',J.os,J.bare,J.base,J.hok,rv,q}
 cases fl with
 |ret u=>
  let⟨v,Y',H',J,rv,q⟩:=hs;exact fin J rv q
 |next=>
  let⟨Y',H',J,q⟩:=hs;exact fin (v:=V.non) (u:=Value.none) J rfl q
 |brk=>
  let⟨_,_,_,q⟩:=hs;exact False.elim q
 |cont=>
  let⟨_,_,_,q⟩:=hs;exact False.elim q
section
variable {X:Cx}{x:Str}{p pos:Pos}{e:AD}{es:Tl}{t:TA}{id T:String}{r:A0 V->Hp->VK->Prop}
def M2 (r:A0 V->Hp->VK->Prop)(t:TA):TE:=λY H Q=>t Y H λvs H1=>r vs H1 Q
def jk (hc:kA X (.builtin id) r)(hg:Gl X x)(hm:X.mg x=none)(hv:bootBuiltins x=some (.builtin id))(ha:PA X (e::es) t)(hn:x≠"__name__":=by decide)(BB:(x == ("__debug__" : Str))=false:=by decide)
  (he:starEach (e::es) X.env=(false,eval e X.env)::starEach es X.env:=by rfl) (hpl:(backTo pos (starEach es X.env)).any (·.1)=false:=by rfl):PE X (.Call (.Name x p) (e::es) [] pos) (M2 r t):=by
 intro A1 s Y H Q I h;refine EE (o8 I hg hm hv ?_ hn BB);exact PyProof.Rows.callWith_builtin1 (dk (ha pos A1 s Y H _ I h) λus s1 ⟨vs,H1,I1,r1,q1⟩=>hc A1 s1 Y H1 vs us Q I1 r1 q1) he hpl
def nU (hc:kA X (.type T) r)(hg:Gl X x)(hm:X.mg x=none)(hv:bootBuiltins x=some (.type T))(ha:PA X (e::es) t)(hn:x≠"__name__":=by decide)(BB:(x == ("__debug__" : Str))=false:=by decide)
  (he:starEach (e::es) X.env=(false,eval e X.env)::starEach es X.env:=by rfl) (hpl:(backTo pos (starEach es X.env)).any (·.1)=false:=by rfl):PE X (.Call (.Name x p) (e::es) [] pos) (M2 r t):=by
 intro A1 s Y H Q I h;refine EE (o8 I hg hm hv ?_ hn BB);exact PyProof.Rows.callWith_type1 (dk (ha pos A1 s Y H _ I h) λus s1 ⟨vs,H1,I1,r1,q1⟩=>hc A1 s1 Y H1 vs us Q I1 r1 q1) he hpl
end
end L2
namespace HT
open PyProof.Rows
section
variable {prog:A7}{w:AF}{A:AI}{E:Tc}{s:A2}
def Ha {t b:A4}{vs ws:Tf}{Q:Tc}(ht:IsTup s.heap t vs.toArray)(hb:IsTup s.heap b ws.toArray)(hv:vs≠[])
  (h1:ws=[]->Q (.ref t) s) (h2:ws≠[]->Q (.ref s.heap.objs.size) {s with heap:=s.heap.push {cls:=.type "tuple",data:=.seq (vs++ws).toArray}})
  (hsz:vs.length+ws.length<=sizeLine):wpAny (model prog w) A (binaryOp .Add (.ref t) (.ref b)) Q E s:=by
 let⟨⟨cls,dd,data,sl⟩,ho,hc,n,hd⟩:=id ht;let⟨⟨cls2,dd2,data2,sl2⟩,FX,FF,n2,hd2⟩:=id hb;simp only at hc hd FF hd2;subst hc hd FF hd2
 have e:vs.toArray++ws.toArray=(vs++ws).toArray:=by simp
 by_cases hw:ws=[]
 ·exact concat_meets {_,ho,rfl} {_,FX,rfl} noFill_tuple_add seq_tuple_add PySem.F.slot_tuple_add PySem.F.entry_tuple_add (PySem.F.args_tuple_add_2 _ _)
   (tuple_addW1 t b vs.toArray ws.toArray n n2 dd dd2 sl sl2 ‹hv› (by simp[hw])) {ho,FX,h1 hw}
 ·refine concat_meets {_,ho,rfl} {_,FX,rfl} noFill_tuple_add seq_tuple_add PySem.F.slot_tuple_add PySem.F.entry_tuple_add (PySem.F.args_tuple_add_2 _ _)
   (tuple_addW2 t b vs.toArray ws.toArray n n2 dd dd2 sl sl2 ‹hv› ‹hw› (by rw[BR,BR];exact hsz)) {ho,FX,?_}
  rw[e];exact h2 hw
noncomputable def e7 (n d:Nat):UO Int->Nat
 |none=>d
 |some v=>if v<0 then (v+(n:Int)).toNat else min v.toNat n
def nQ (n d k:Nat):e7 n d (some (k:Int))=min k n:=by
 show(if (k:Int)<0 then ((k:Int)+(n:Int)).toNat else min (k:Int).toNat n)=min k n
 rw[AE ∅,EB]
theorem Km (n d:Nat)(hd:d<=n)(o:UO Int):e7 n d o<=n:=by
 cases o with
 |none=>exact hd
 |some v=>
  show(if v<0 then (v+(n:Int)).toNat else min v.toNat n)<=n
  by_cases hv:v<0
  ·rw[A8 hv];omega
  ·rw[AE hv];exact Nat.min_le_right _ _
def Av (v:Int)(n d:Nat):(if v<0 then max (v+(n:Int)) 0 else min v (n:Int))=((e7 n d (some v):Nat):Int):=by
 show(if v<0 then max (v+(n:Int)) 0 else min v (n:Int))=(((if v<0 then (v+(n:Int)).toNat else min v.toNat n):Nat):Int)
 by_cases hv:v<0
 ·rwa[A8 hv];omega
 ·rwa[AE hv];omega
def zb (lo hi:UO Int)(n:Nat):Builtin.Slice.sliceAdjust lo hi 1 (n:Int)=(((e7 n 0 lo:Nat):Int),((e7 n n hi:Nat):Int)):=by
 have h1:¬ ((1:Int)<0):=by omega
 unfold Builtin.Slice.sliceAdjust;rwa[h1,if_false];refine Prod.ext ?_ ?_
 ·cases lo with
  |none=>rfl
  |some v=>exact Av v n 0
 ·cases hi with
  |none=>rfl
  |some v=>exact Av v n n
def yn (i j:Nat):Builtin.Slice.slicePlaces (i:Int) (j:Int) 1=j-i:=by
 unfold Builtin.Slice.slicePlaces;have h1:(1:Int)>0:=by omega
 rwa[h1,if_true,Int.ediv_one];split <;> omega
theorem rV {v:A6}{o:UO Int}{Q:UO Int->A2->Prop}(p:IsPart v o)(h:Q o s):wpAny (model prog w) A (Builtin.Slice.slicePartIndex v) Q E s:=by
 cases p with
 |none=>exact slicePart_none h
 |int i t=>exact slicePart_int h
def lf {sl:A4}{vl vu:A6}{lo hi:UO Int}{n:Nat}{Q:Int×Int×Nat->A2->Prop}(hs:s.heap.IsSliceOf sl vl vu .none)(pl:IsPart vl lo)(pu:IsPart vu hi)
  (h:Q (((e7 n 0 lo:Nat):Int),1,e7 n n hi-e7 n 0 lo) s):wpAny (model prog w) A (Builtin.Slice.sliceApplied (.ref sl) (pure (n:Int))) Q E s:=by
 let⟨os,FU,CL,hds⟩:=id hs;unfold Builtin.Slice.sliceApplied Builtin.Slice.sliceFields;refine AY (AY (Dg FU hds (x:=vl) rfl (AY (Dg FU hds (x:=vu) rfl (AY (Dg FU hds (x:=.none) rfl (BG ?_)))))));refine AY (slicePart_none ?_)
 show wpAny _ _ (if ((1:Int) == 0)=true then _ else _) _ _ s
 rw[AE ∅];refine AY (rV pl (AY (rV pu (AY (BG ?_)))))
 show wpAny _ _ (match Builtin.Slice.sliceAdjust lo hi 1 (n:Int) with|(lo,hi)=>pure (lo,(1:Int),Builtin.Slice.slicePlaces lo hi 1)) _ _ s
 rw[zb lo hi n]
 show wpAny _ _ (pure (((e7 n 0 lo:Nat):Int),(1:Int),Builtin.Slice.slicePlaces ((e7 n 0 lo:Nat):Int) ((e7 n n hi:Nat):Int) 1)) _ _ s
 rw[yn];exact BG h
def JC9 (xs:Tk)(i k:Nat):((List.range k).filterMap λ(m:Nat)=>xs[((i:Int)+(m:Int)*1).toNat]?).toArray=((xs.toList.drop i).take k).toArray:=by
 have e:(λ(m:Nat)=>xs[((i:Int)+(m:Int)*1).toNat]?)=λm=>xs[i+m]?:=by
  funext m;have:((i:Int)+(m:Int)*1).toNat=i+m:=by omega
  rw[this]
 rw[e];have:=pick_run xs i k;rw[List.filterMap_map] at this
 have e2:((λx=>xs[x]?) ∘ λx=>i+x)=λm=>xs[i+m]?:=rfl;rw[e2] at this
 rw[this]
def pU {t sl:A4}{items:Tk}{vl vu:A6}{lo hi:UO Int}{Q:Tc}(ht:IsTup s.heap t items)(hs:s.heap.IsSliceOf sl vl vu .none)(pl:IsPart vl lo)(pu:IsPart vu hi)
  (hw:¬ (e7 items.size 0 lo=0/\e7 items.size items.size hi=items.size))
  (h:Q (.ref s.heap.objs.size) {s with heap:=s.heap.push {cls:=.type "tuple",data:=.seq ((items.toList.drop (e7 items.size 0 lo)).take (e7 items.size items.size hi-e7 items.size 0 lo)).toArray}})
  (hsz:items.size<=sizeLine):wpAny (model prog w) A (getItem (.ref t) (.ref sl)) Q E s:=by
 have DO:sizeOk (.seq ((items.toList.drop (e7 items.size 0 lo)).take (e7 items.size items.size hi-e7 items.size 0 lo)).toArray):=by
  show((items.toList.drop (e7 items.size 0 lo)).take (e7 items.size items.size hi-e7 items.size 0 lo)).toArray.size<=sizeLine
  rw[BR,zbf,zbO,zbZ];omega
 have hj:e7 items.size items.size hi<=items.size:=Km _ _ (BH _) hi;obtain⟨os,FU,CL,hds⟩:=id hs;have hTs:s.TypeIs (.ref sl) "slice":={os,FU,CL};unfold getItem
 try with_reducible refine zbs ?_
 first|refine AY (BG ?_)|skip
 refine AY (wpAny_sequenceKey ht.typeIs ∅ ?_)
 refine AY (wpAny_callSpecial?_slot (name:=Str.ofString "__getitem__") ht.typeIs PyProof.Rows.slot_tuple_getitem
  (zcd PyProof.Rows.slot_tuple_getitem ht.typeIs entry_tuple_getitem ?_ (args_tuple_getitem _ _)))
 show wpAny _ _ (Builtin.Tuple.tupleItemsOf (.ref t) >>= _) _ _ s
 refine AY (tupleItemsOf_ ht ?_);refine AY (wpAny_typeOf hTs ?_);rw[A8 ∅];refine AY (lf hs pl pu ?_)
 have FY:¬ ((((e7 items.size 0 lo:Nat):Int) == 0&&(1:Int) == 1&&(e7 items.size items.size hi-e7 items.size 0 lo) == items.size)=true):=by
  intro q;rw[DX,DX] at q;have q1:((e7 items.size 0 lo:Nat):Int)=0:=eq_of_beq q.1.1;have q2:e7 items.size items.size hi-e7 items.size 0 lo=items.size:=eq_of_beq q.2;exact hw {by omega,by omega}
 show wpAny _ _ (if (((e7 items.size 0 lo:Nat):Int) == 0&&(1:Int) == 1&&(e7 items.size items.size hi-e7 items.size 0 lo) == items.size)=true then _ else _) _ _ s
 rw[AE FY,JC9]
 first
  |exact AY (m:=Builtin.Tuple.tupleExact _) (zbe (BG {_,rfl,BG h}) DO)
  |exact AY (m:=Builtin.Tuple.tupleExact _) (zbe (AY (BG (BG {_,rfl,BG h}))) DO)
  |exact AY (AY (m:=Builtin.Tuple.tupleExact _) (zbe (BG (BG {_,rfl,BG h})) DO))
  |exact AY (AY (m:=Builtin.Tuple.tupleExact _) (zbe (BG {_,rfl,BG h}) DO))
end
end HT
namespace L2
open PyProof.Rows
abbrev TO:=St->Hp->(UO Int->Hp->Prop)->Prop
def PO (X:Cx)(e:UO AD)(t:TO):Prop :=
 ∀(A1:Td) (s:A2) (Y:St) (H:Hp) (Q:UO Int->Hp->Prop),aS X A1 Y H s->t Y H Q ->
  wpAny (model X.prog X.w) X.A (evalPart e X.env) (λu s'=>∃o H',aS X A1 Y H' s'/\IsPart u o/\Q o H') X.xe s
def zo:TO:=λ_ H Q=>Q none H
def Iy (t:TE):TO:=λY H Q=>t Y H λx H1=>∃i,x=.int i/\Q (some i) H1
section
variable {X:Cx}{e:AD}{te:TE}{lo hi:UO AD}{tl th:TO}{pos p2:Pos}
def JD5:PO X none zo:=by intro A1 s Y H Q I h;rw[evalPart_none];exact BG {none,H,I,.none,h}
def JD4 (h:PE X e te):PO X (some e) (Iy te):=by intro A1 s Y H Q I hw;rw[evalPart_some];refine dk (h A1 s Y H _ I hw) λu s1 hh=>?_;let⟨x,H1,I1,r1,q1⟩:=hh;let⟨i,rfl,q⟩:=q1;let⟨t,rfl⟩:=r1;exact{some i,H1,I1,.int i t,q}
def BZ (X:Cx)(r:V->UO Int->UO Int->Hp->VK->Prop):Prop :=
 ∀(A1:Td) (s:A2) (Y:St) (H:Hp) (x:V) (v vl vu:A6) (lo hi:UO Int) (sl:A4) (Q:VK),aS X A1 Y H s->bQ x v->s.heap.IsSliceOf sl vl vu .none->IsPart vl lo->IsPart vu hi->r x lo hi H Q ->
  ∃T id,typeLookup (.type T) "__getitem__" = pure (some (.builtin id))/\s.TypeIs v T/\wpAny (model X.prog X.w) X.A (getItem v (.ref sl)) (EP X A1 Y Q) X.xe s
def BZ.or {r r':V->UO Int->UO Int->Hp->VK->Prop}(h:BZ X r)(h':BZ X r'):BZ X (λx lo hi H Q=>r x lo hi H Q\/r' x lo hi H Q):=by
 intro A1 s Y H x v vl vu lo hi sl Q I rx hs pl pu q;rcases q with q|q
 ·exact h A1 s Y H x v vl vu lo hi sl Q I rx hs pl pu q
 ·exact h' A1 s Y H x v vl vu lo hi sl Q I rx hs pl pu q
def Rw (r:V->UO Int->UO Int->Hp->VK->Prop)(te:TE)(tl th:TO):TE:=λY H Q=>te Y H λx H1=>tl Y H1 λl H2=>th Y H2 λu H3=>r x l u H3 Q
def wL {r:V->UO Int->UO Int->Hp->VK->Prop}(hr:BZ X r)(he:PE X e te)(hl:PO X lo tl)(hu:PO X hi th):PE X (.Subscript e (.Slice lo hi none p2) pos) (Rw r te tl th):=by
 intro A1 s Y H Q I h;refine Subscript_ (dk (he A1 s Y H _ I h) λv s1 hh=>?_);obtain⟨x,H1,I1,r1,q1⟩:=hh;refine wpAny_Slice (dk (hl A1 s1 Y H1 _ I1 q1) λvl s2 hh=>?_);obtain⟨l,H2,I2,pl,q2⟩:=hh;refine dk (hu A1 s2 Y H2 _ I2 q2) λvu s3 hh=>?_;obtain⟨u,H3,I3,pu,q3⟩:=hh;rw[evalPart_none];refine BG ?_;have I4:aS X A1 Y H3 {s3 with heap:=s3.heap.push {cls:=.type "slice",data:=.fields #[vl,vu,.none]}}:=I3.kept (t':=s3.toks) λb ob q=>Bl _ q;obtain⟨T,id,hT,ht,hg⟩:=hr A1 {s3 with heap:=s3.heap.push {cls:=.type "slice",data:=.fields #[vl,vu,.none]}} Y H3 x v vl vu l u s3.heap.objs.size Q I4 r1 (Heap.IsSliceOf.new ..) pl pu q3
 show wpAny (model X.prog X.w) X.A (subscriptTail e (.Slice lo hi none p2) v (.ref s3.heap.objs.size)) (EP X A1 Y Q) X.xe {s3 with heap:=s3.heap.push {cls:=.type "slice",data:=.fields #[vl,vu,.none]}}
 exact tail_any (ops:=[.ref s3.heap.objs.size,v]) ht hT hg (by with_unfolding_all rfl)
noncomputable def vV (xs:A0 V)(lo hi:UO Int):A0 V:=(xs.drop (HT.e7 xs.length 0 lo)).take (HT.e7 xs.length xs.length hi-HT.e7 xs.length 0 lo)
def qS (xs:A0 V)(lo hi:UO Int):(vV xs lo hi).length<=xs.length:=by unfold vV;rw[zbf,zbO];omega
def Oh (K:AJ):V->UO Int->UO Int->Hp->VK->Prop:=λx lo hi H Q=>∃a xs,x=.ref a/\oa K H a xs /\
 ¬ (HT.e7 xs.length 0 lo=0/\HT.e7 xs.length xs.length hi=xs.length)/\∀p,H p=none->Q (.ref p) (upd H p (.tup (vV xs lo hi)))
def Kf:BZ X (Oh X.K):=by
 intro A1 s Y H x v vl vu lo hi sl Q I rx hs pl pu h;let⟨a,xs,rfl,hx,hw,q⟩:=h;cases rx;let⟨its,r,ht,hz⟩:=I.tuple hx;have hlen:its.toArray.size=xs.length:=by rw[BR];exact r.length.symm
 refine{"tuple",_,PyProof.Rows.slot_tuple_getitem.lookup,ht.typeIs,?_};refine HT.pU ht hs pl pu (by rw[hlen];exact hw) ?_ (by rw[hlen];exact hz);rw[hlen];refine{.ref s.heap.objs.size,_,I.laid (t':=s.toks) (o:=.tup (vV xs lo hi)) (λb ob q=>Bl _ q) (BH _) ?_,rfl,q _ (I.hok.fresh (BH _))};exact{Br (qS xs lo hi) hz,_,(r.drop (HT.e7 xs.length 0 lo)).take (HT.e7 xs.length xs.length hi-HT.e7 xs.length 0 lo),nM.new _ _}
def IW (K:AJ):R2:=λx y H Q=>∃a b xs ys,x=.ref a/\y=.ref b/\oa K H a xs/\oa K H b ys/\xs≠[]/\xs.length+ys.length<=sizeLine /\
 (ys=[]->Q (.ref a) H)/\(ys≠[]->∀p,H p=none->Q (.ref p) (upd H p (.tup (xs++ys))))
theorem bO.nil_iff {xs:A0 V}{us:Tf}(r:bO xs us):us=[] ↔ xs=[]:=by
 cases r with
 |nil=>simp
 |cons _ _=>simp
def Go:l8 X (binaryOp .Add) (IW X.K):=by intro A1 s Y H x y v u Q I rx ry h;let⟨a,b,xs,ys,rfl,rfl,ha,hb,hx,hz,q1,q2⟩:=h;cases rx;cases ry;let⟨its,r1,p1,_⟩:=I.tuple ha;let⟨CT,r2,p2,_⟩:=I.tuple hb;refine HT.Ha p1 p2 (λz=>hx (r1.nil_iff.mp z)) (λz=>{.ref a,H,I,rfl,q1 (r2.nil_iff.mp z)}) (λz=>?_) (by rw[←r1.length,←r2.length];exact hz);refine{.ref s.heap.objs.size,_,I.laid (t':=s.toks) (o:=.tup (xs++ys)) (λb ob q=>Bl _ q) (BH _) ?_,rfl,q2 (λw=>z (r2.nil_iff.mpr w)) _ (I.hok.fresh (BH _))};exact{by rw[Bx];exact hz,_,r1.append r2,nM.new _ _}
end
noncomputable def Bu (n:Nat)(i:Int):UO Nat:=if 0<=i then (if i<n then some i.toNat else none) else if -(n:Int)<=i then some (i+n).toNat else none
noncomputable def n9 {Z:Type}(xs:A0 Z)(i:Int):UO Z:=(Bu xs.length i).bind λj=>xs[j]?
def zZ {n:Nat}{i:Int}{j:Nat}(h:Bu n i=some j):seqIndex? i n=some j/\j<n/\-(n:Int)<=i/\i<n:=by
 unfold Bu at h;by_cases h0:0<=i
 ·rw[A8 h0] at h;by_cases h1:i<n
  ·rw[A8 h1] at h;have e:i.toNat=j:=Option.some.inj h;exact{by rw[seqIndex_of h0 h1,e],by omega,by omega,h1}
  ·rw[AE h1] at h;cases h
 ·rw[AE h0] at h;by_cases h1 : -(n:Int)<=i
  ·rw[A8 h1] at h;have e:(i+n).toNat=j:=Option.some.inj h;exact{by rw[seqIndex_neg ∅ h1,e],by omega,h1,by omega}
  ·rw[AE h1] at h;cases h
theorem v6 {Z:Type}{xs:A0 Z}{i:Int}{v:Z}(h:n9 xs i=some v):∃j,seqIndex? i xs.length=some j/\xs[j]?=some v/\j<xs.length/\-(xs.length:Int)<=i/\i<xs.length:=by
 unfold n9 at h
 cases e:Bu xs.length i with
 |none=>rw[e] at h;cases h
 |some j=>
  rw[e] at h;let⟨h1,h2,h3,h4⟩:=zZ e;exact{j,h1,h,h2,h3,h4}
def v8 (b:AD):Prop:=∀o i,subscripted b false o i=operate [o,i] (getItem o i)
def Hy (X:Cx)(r:R2):Prop :=
 ∀(value slice:AD) (A1:Td) (s:A2) (Y:St) (H:Hp) (x y:V) (v u:A6) (Q:VK),aS X A1 Y H s->bQ x v->bQ y u->r x y H Q ->
  subscripted slice false v u=operate [v,u] (getItem v u)->wpAny (model X.prog X.w) X.A (subscriptTail value slice v u) (EP X A1 Y Q) X.xe s
def Qn (X:Cx)(id:String)(r:V->A0 V->Hp->VK->Prop):Prop :=
 ∀(A1:Td) (s:A2) (Y:St) (H:Hp) (x:V) (xs:A0 V) (v:A6) (us:Tf) (Q:VK),aS X A1 Y H s->bQ x v->bO xs us->r x xs H Q ->
  wpAny (model X.prog X.w) X.A (call (.builtin id) (v::us)) (EP X A1 Y Q) X.xe s
section
variable {X:Cx}{a b:AD}{ta tb:TE}{pos:Pos}
def Hy.or {r r':R2}(h:Hy X r)(h':Hy X r'):Hy X (λx y H Q=>r x y H Q\/r' x y H Q):=by
 intro value slice A1 s Y H x y v u Q I rx ry q hs;rcases q with q|q
 ·exact h value slice A1 s Y H x y v u Q I rx ry q hs
 ·exact h' value slice A1 s Y H x y v u Q I rx ry q hs
def Jj {r:R2}(hr:Hy X r)(ha:PE X a ta)(hb:PE X b tb)(hs:v8 b):PE X (.Subscript a b pos) (J7 r ta tb):=by intro A1 s Y H Q I h;exact Subscript_ (Hb ha hb I h λv u s2 x y H2 I2 rx ry q=>hr a b A1 s2 Y H2 x y v u Q I2 rx ry q (hs _ _))
def Op (K:AJ):R2:=λx y H Q=>∃p xs i v,x=.ref p/\y=.int i/\nK K H p xs/\n9 xs i=some v/\Q v H
def On (K:AJ):R2:=λx y H Q=>∃p xs i v,x=.ref p/\y=.int i/\oa K H p xs/\n9 xs i=some v/\Q v H
def Oo:R2:=λx y H Q=>∃z i c,x=.str z/\y=.int i/\z.length<=sizeLine/\n9 z.cps.toList i=some c/\Q (.str ⟨#[c]⟩) H
def GM:Hy X (Op X.K):=by
 intro value slice A1 s Y H x y v u Q I rx ry h hs;let⟨p,xs,i,z,rfl,rfl,hq,he,q⟩:=h;cases rx;let⟨t,rfl⟩:=ry;let⟨its,r,pl,hz⟩:=I.list hq;let⟨j,h1,h2,h3,h4,h5⟩:=v6 he;let⟨w,ew,Dy⟩:=r.get h2;have hl:=r.length;have hn:=o7;have fin:EP X A1 Y Q w s:={z,H,I,Dy,q};by_cases h0:0<=i
 ·have hj:i.toNat=j:=by
   rw[seqIndex_of h0 h5] at h1;exact Option.some.inj h1
  exact item_listR pl.isList h0 ∅ (by rw[hj];simpa using ew) fin hs
 ·have hj:(i+(its.toArray.size:Int)).toNat=j:=by
   rw[seqIndex_neg ∅ h4] at h1;rw[BR,←hl];exact Option.some.inj h1
  exact subscriptTail_builtinR (x:=w) pl.isList.typeIs slot_list_getitem.lookup
   (wpAny_getItem_list_neg (Q:=λr s'=>r=w/\EP X A1 Y Q r s') pl.isList ∅ (by rw[BR] <;> omega) ∅ (by rw[hj];simpa using ew) {rfl,fin}) hs
def L5:Hy X (On X.K):=by
 intro value slice A1 s Y H x y v u Q I rx ry h hs;let⟨p,xs,i,z,rfl,rfl,hq,he,q⟩:=h;cases rx;let⟨t,rfl⟩:=ry;let⟨its,r,pl,hz⟩:=I.tuple hq;let⟨j,h1,h2,h3,h4,h5⟩:=v6 he;let⟨w,ew,Dy⟩:=r.get h2;have hl:=r.length;have hn:=o7;have fin:EP X A1 Y Q w s:={z,H,I,Dy,q};exact subscriptTail_builtinR (x:=w) pl.typeIs slot_tuple_getitem.lookup
  (getItem_tuple (j:=j) (Q:=λr s'=>r=w/\EP X A1 Y Q r s') pl ∅ ∅ (by rw[BR,←hl];exact h1) ‹ew› {rfl,fin}) hs
def L6:Hy X Oo:=by
 intro value slice A1 s Y H x y v u Q I rx ry h hs;let⟨z,i,c,rfl,rfl,hz,he,q⟩:=h;let⟨t,rfl⟩:=rx;let⟨t',rfl⟩:=ry;let⟨j,h1,h2,h3,h4,h5⟩:=v6 he;have hl:z.cps.toList.length=z.length:=by simp[Str.length]
 rw[hl] at h1 h4 h5;have hn:=o7;exact tail_any (typeIs_str s z t) slot_str_getitem.lookup (getItem_str (c:=c) (by have e1:decide (i < -(2 ^ 63:Int))=false:=Bf ∅;have e2:decide (i >= 2 ^ 63)=false:=Bf ∅;rw[e1,e2,Bool.or_false]) (by rw[h1];simpa using h2) {.str ⟨#[c]⟩,H,I.tok _,{_,rfl},q}) hs
def RD (K:AJ):R2:=λx y H Q=>Op K x y H Q\/On K x y H Q\/Oo x y H Q
def D3:Hy X (RD X.K):=GM.or (L5.or L6)
def yv (its:Tf)(n j:Nat)(u:A6):Obj.mapSeq (·.setIfInBounds j u) {cls:=.type "list",data:=.seq its.toArray n}={cls:=.type "list",data:=.seq (its.set j u).toArray n}:=by simp[Obj.mapSeq]
def aS.lst {H:Hp}{s:A2}{p:A4}{xs:A0 V}(I:aS X A1 Y H s)(h:H p=some (.lst xs)) :
  ∃(its:Tf) (n:Nat),bO xs its/\s.heap.get? p=some {cls:=.type "list",data:=.seq its.toArray n}/\xs.length<=sizeLine:=by
 let⟨z,its,n,r,e⟩:=I.hok p _ h;exact{its,n,r,e,z}
def aS.lstUpd {H:Hp}{s:A2}{p:A4}{xs ys:A0 V}{its its':Tf}{n n':Nat}{f:Obj->Obj}(I:aS X A1 Y H s)(h:H p=some (.lst xs))
  (ho:s.heap.get? p=some {cls:=.type "list",data:=.seq its.toArray n}) (hf:f {cls:=.type "list",data:=.seq its.toArray n}={cls:=.type "list",data:=.seq its'.toArray n'}) (r:bO ys its') (hz:ys.length<=sizeLine) (t:Nat) :
  aS X A1 Y (upd H p (.lst ys)) {s with heap:=s.heap.update p f,toks:=t}:=by
 have e:(s.heap.update p f).get? p=some {cls:=.type "list",data:=.seq its'.toArray n'}:=by
  rw[Heap.get?_update_self f ho (by rw[hf] <;> rfl),hf]
 refine I.write (x:=p) (e:=p) (by rw[h];trivial) (.inl rfl) (λb u hb q=>(Heap.get?_update_other _ _ (Ne.symm hb)).trans q) {_,e} ?_;exact{hz,its',n',r,e}
def Da:V->V->V->Hp->(Hp->Prop)->Prop:=λo i v H Q=>∃p xs k j,o=.ref p/\i=.int k/\H p=some (.lst xs)/\Bu xs.length k=some j/\Q (upd H p (.lst (xs.set j v)))
def JB8:xB X Da:=by
 intro A1 s Y H o i v ov iv u Q I ro ri rv h;let⟨p,xs,k,j,rfl,rfl,hp,hj,q⟩:=h;cases ro;let⟨t,rfl⟩:=ri;let⟨its,n,r,ho,hz⟩:=I.lst hp;let⟨h1,h2,h3,h4⟩:=zZ hj;have hl:=r.length;have hn:=o7;have I':aS X A1 Y (upd H p (.lst (xs.set j v))) {s with heap:=s.heap.update p (Obj.mapSeq (·.setIfInBounds j u))} :=
  I.lstUpd hp ho (yv its n j u) (r.set rv j) (by rw[List.length_set];exact hz) s.toks
 by_cases h0:0<=k
 ·have hk:k.toNat=j:=by
   rw[seqIndex_of h0 h4] at h1;exact Option.some.inj h1
  exact PySem.W.ki_setAt ho h0 ∅ (by rw[BR,←hl];exact h4) (by rw[hk];exact{_,I',q})
 ·have hk:(k+(its.toArray.size:Int)).toNat=j:=by
   rw[seqIndex_neg ∅ h3] at h1;rw[BR,←hl];exact Option.some.inj h1
  exact PySem.W.ki_setBack ho ∅ (by rw[BR,←hl];exact h3) ∅ (by rw[hk];exact{_,I',q})
def vb (lo hi:UO Int)(n:Nat):(sliceBounds lo hi none n).1=((HT.e7 n 0 lo:Nat):Int)/\(sliceBounds lo hi none n).2.1=((HT.e7 n n hi:Nat):Int)/\(sliceBounds lo hi none n).2.2=1:=by
 refine{?_,?_,rfl}
 ·cases lo with
  |none=>simp[sliceBounds,HT.e7]
  |some i=>
   rwa[sliceBounds,HT.e7,zbP,show(1:Int)>0 by decide,if_true];by_cases h:i<0
   ·rwa[h,if_true] <;> omega
   ·rwa[h,if_false] <;> omega
 ·cases hi with
  |none=>simp[sliceBounds,HT.e7]
  |some i=>
   rwa[sliceBounds,HT.e7,zbP,show(1:Int)>0 by decide,if_true];by_cases h:i<0
   ·rwa[h,if_true] <;> omega
   ·rwa[h,if_false] <;> omega
def tM (its:Tf)(lo hi:UO Int):slicePick its.toArray lo hi none=((its.drop (HT.e7 its.length 0 lo)).take (HT.e7 its.length its.length hi-HT.e7 its.length 0 lo)).toArray:=by let⟨h1,h2,h3⟩:=vb lo hi its.toArray.size;unfold slicePick;rw[h1,h2,h3];rwa[sliceRange_one,pick_run,BR] <;> rfl
def Oj (K:AJ):V->UO Int->UO Int->Hp->VK->Prop:=λx lo hi H Q=>∃a xs,x=.ref a/\nK K H a xs/\∀p,H p=none->Q (.ref p) (upd H p (.lst (vV xs lo hi)))
def JEp:BZ X (Oj X.K):=by intro A1 s Y H x v vl vu lo hi sl Q I rx hs pl pu h;obtain⟨a,xs,rfl,hx,q⟩:=h;cases rx;obtain⟨its,r,ht,hz⟩:=I.list hx;have hlen:=r.length;refine{"list",_,slot_list_getitem.lookup,ht.isList.typeIs,?_};refine wpAny_getItem_list_slice ht.isList hs pl pu .none ∅ ?_ (by rw[BR] <;> omega);rw[tM,←hlen];refine{.ref s.heap.objs.size,_,I.laid (t':=s.toks) (o:=.lst (vV xs lo hi)) (λb ob q=>Bl _ q) (BH _) ?_,rfl,q _ (I.hok.fresh (BH _))};exact{Br (qS xs lo hi) hz,_,0,(r.drop (HT.e7 xs.length 0 lo)).take (HT.e7 xs.length xs.length hi-HT.e7 xs.length 0 lo),Cw _ rfl}
noncomputable def nE:V->A9
 |.non=>true
 |.bl _=>true
 |.int _=>true
 |.str _=>true
 |_=>false
noncomputable def Ep:V->V->A9
 |.non,.non=>true
 |.bl a,.bl b=>a == b
 |.bl a,.int b=>(if a then 1 else 0) == b
 |.int a,.bl b=>a == (if b then 1 else 0)
 |.int a,.int b=>a == b
 |.str a,.str b=>a == b
 |_,_=>false
theorem MH {s:A2}{y x:V}{u v:A6}(ry:bQ y u)(rx:bQ x v)(fy:nE y=true)(fx:nE x=true):SeqAt.EqAt A s u v (Ep y x):=by
 cases y with
 |non=>
  cases ry
  cases x with
  |non=>cases rx;exact SeqAt.EqAt.same _
  |bl b=>cases rx;exact SeqAt.EqAt.none_bool b
  |int b=>let⟨t,rfl⟩:=rx;exact SeqAt.EqAt.none_int b t
  |str b=>let⟨t,rfl⟩:=rx;exact SeqAt.EqAt.none_str b t
  |_=>exact AH (show false=true from fx) F8
 |bl a=>
  cases ry
  cases x with
  |non=>cases rx;exact SeqAt.EqAt.bool_none a
  |bl b=>cases rx;exact SeqAt.EqAt.bool_bool a b
  |int b=>let⟨t,rfl⟩:=rx;exact SeqAt.EqAt.bool_int a b t
  |str b=>let⟨t,rfl⟩:=rx;exact SeqAt.EqAt.bool_str a b t
  |_=>exact AH (show false=true from fx) F8
 |int a=>
  let⟨t',rfl⟩:=ry
  cases x with
  |non=>cases rx;exact SeqAt.EqAt.int_none a t'
  |bl b=>cases rx;exact SeqAt.EqAt.int_bool a t' b
  |int b=>let⟨t,rfl⟩:=rx;exact SeqAt.EqAt.int_int a t' b t
  |str b=>let⟨t,rfl⟩:=rx;exact SeqAt.EqAt.int_str a t' b t
  |_=>exact AH (show false=true from fx) F8
 |str a=>
  let⟨t',rfl⟩:=ry
  cases x with
  |non=>cases rx;exact SeqAt.EqAt.str_none a t'
  |bl b=>cases rx;exact SeqAt.EqAt.str_bool a t' b
  |int b=>let⟨t,rfl⟩:=rx;exact SeqAt.EqAt.str_int a t' b t
  |str b=>let⟨t,rfl⟩:=rx;exact SeqAt.EqAt.str_str a t' b t
  |_=>exact AH (show false=true from fx) F8
 |_=>exact AH (show false=true from fy) F8
noncomputable def yV (x:V)(u:A6):A9:=match u with
 |.none=>Ep .non x
 |.bool b=>Ep (.bl b) x
 |.int i _=>Ep (.int i) x
 |.str z _=>Ep (.str z) x
 |_=>false
theorem Er {x y:V}{u:A6}(r:bQ y u)(f:nE y=true):yV x u=Ep y x:=by
 cases y with
 |non=>cases r;rfl
 |bl b=>cases r;rfl
 |int i=>let⟨t,rfl⟩:=r;rfl
 |str z=>let⟨t,rfl⟩:=r;rfl
 |_=>exact AH (show false=true from f) F8
theorem pY {x:V}:∀{xs:A0 V} {us:Tf},bO xs us->xs.all nE=true->us.any (yV x)=xs.any λy=>Ep y x
 |_,_,.nil,_=>rfl
 |y::xs,u::us,.cons r t,f=>by rw[zbt,DX] at f;rw[CP,CP,Er r f.1,pY t f.2]
theorem nr {s:A2}{x:V}{v:A6}(rx:bQ x v)(fx:nE x=true):∀{xs:A0 V} {us:Tf},bO xs us->xs.all nE=true->∀u∈us,SeqAt.EqAt A s u v (yV x u)
 |_,_,.nil,_=>λu hu=>by cases hu
 |y::xs,u::us,.cons r t,f=>λu' hu=>by
  rw[zbt,DX] at f;rcases BJ.mp hu with rfl|hu
  ·rw[Er r f.1];exact MH r rx f.1 fx
  ·exact nr rx fx t f.2 u' hu
noncomputable def EW (x:V)(xs:A0 V):A9:=xs.any λy=>Ep y x
def KP (K:AJ)(neg:A9):R2:=λx y H Q=>∃p xs,y=.ref p/\(nK K H p xs\/oa K H p xs)/\nE x=true/\xs.all nE=true/\Q (.bl (if neg then !EW x xs else EW x xs)) H
def nV:l8 X (compareOp .In) (KP X.K false):=by
 intro A1 s Y H x y v u Q I rx ry h;let⟨p,xs,rfl,hq,fx,fs,q⟩:=h;cases ry;rcases hq with hq|hq
 ·let⟨its,r,pl,hz⟩:=I.list hq;refine SeqAt.in_listAt (yV x) pl.isList (λw hw=>nr rx fx r fs w ‹hw›) {.bl _,H,I,rfl,?_};rw[show its.toArray.any (yV x)=its.any (yV x) by simp,pY r fs];exact q
 ·let⟨its,r,pl,hz⟩:=I.tuple hq;refine SeqAt.in_tupleAt (yV x) pl (λw hw=>nr rx fx r fs w ‹hw›) {.bl _,H,I,rfl,?_};rw[show its.toArray.any (yV x)=its.any (yV x) by simp,pY r fs];exact q
def vt:l8 X (compareOp .NotIn) (KP X.K true):=by
 intro A1 s Y H x y v u Q I rx ry h;let⟨p,xs,rfl,hq,fx,fs,q⟩:=h;cases ry;rcases hq with hq|hq
 ·let⟨its,r,pl,hz⟩:=I.list hq;refine SeqAt.notIn_listAt (yV x) pl.isList (λw hw=>nr rx fx r fs w ‹hw›) {.bl _,H,I,rfl,?_};rw[show its.toArray.any (yV x)=its.any (yV x) by simp,pY r fs];exact q
 ·let⟨its,r,pl,hz⟩:=I.tuple hq;refine SeqAt.notIn_tupleAt (yV x) pl (λw hw=>nr rx fx r fs w ‹hw›) {.bl _,H,I,rfl,?_};rw[show its.toArray.any (yV x)=its.any (yV x) by simp,pY r fs];exact q
def v4:kA X (.builtin "len") (λxs H Q=>∃p ys,xs=[.ref p]/\(nK X.K H p ys\/oa X.K H p ys)/\Q (.int ys.length) H):=by
 intro A1 s Y H xs us Q I r h;let⟨p,ys,rfl,hq,q⟩:=h;let⟨u,rfl,rx⟩:=oy r;cases rx;have hn:=o7;rcases hq with hq|hq
 ·let⟨its,r',pl,hz⟩:=I.list hq;have hlen:=r'.length;exact Calls.call_len_list pl.isList (by rwa[BR] <;> omega) {.int ys.length,H,I.tok _,{s.toks+1,by rw[BR,hlen]},q}
 ·let⟨its,r',pl,hz⟩:=I.tuple hq;have hlen:=r'.length;exact len_tuple pl (by rwa[BR] <;> omega) {.int ys.length,H,I.tok _,{s.toks+1,by rw[BR,hlen]},q}
def vZ:kA X (.builtin "len") (λxs H Q=>∃z,xs=[.str z]/\z.length<=sizeLine/\Q (.int z.length) H):=by intro A1 s Y H xs us Q I r h;obtain⟨z,rfl,hz,q⟩:=h;obtain⟨u,rfl,t,rfl⟩:=oy r;have hn:=o7;exact len_str ∅ {.int z.length,H,I.tok _,{_,rfl},q}
def uk:kA X (.type "tuple") (λxs H Q=>∃p ys,xs=[.ref p]/\((nK X.K H p ys/\∀l,H l=none->Q (.ref l) (upd H l (.tup ys)))\/(oa X.K H p ys/\Q (.ref p) H))):=by
 intro A1 s Y H xs us Q I r h;let⟨p,ys,rfl,h⟩:=h;let⟨u,rfl,rx⟩:=oy r;cases rx;rcases h with⟨hq,q⟩|⟨hq,q⟩
 ·obtain⟨its,r',pl,hz⟩:=I.list hq;have hlen:=r'.length;refine call_tuple_list pl.isList (λh' kp=>?_) (by rwa[BR] <;> omega);have I1:aS X A1 Y H {s with heap:=h'}:=I.kept (t':=s.toks) kp;have I2:aS X A1 Y (upd H h'.objs.size (.tup ys)) {s with heap:=h'.push {cls:=.type "tuple",data:=.seq its.toArray}} :=
   I1.laid (t':=s.toks) (λb o e=>Bl _ e) (BH _) (show eY X.prog X.w _ _ _ (.tup ys) from{hz,its,r',nM.new _ _})
  exact{.ref h'.objs.size,_,I2,rfl,q _ (I1.hok.fresh (BH _))}
 ·let⟨its,r',pl,hz⟩:=I.tuple hq;exact call_tuple_same pl {.ref p,H,I,rfl,q}
def Qu (K:AJ)(T:String)(x:V)(H:Hp):Prop:=match x with
 |.str _=>T = "str"
 |.int _=>T = "int"
 |.ref p=>(T = "list"/\∃xs,nK K H p xs)\/(T = "tuple"/\∃o,K.lookup p=some o/\o.cls=.type "tuple"/\o.dict=none) \/
   (T = "dict"/\((∃kvs,H p=some (.dK kvs))\/∃kvs,H p=some (.dT kvs)))\/(T = "set"/\∃S n,H p=some (.set S n))
 |_=>False
theorem B7 {H:Hp}{s:A2}{T:String}{x:V}{v:A6}(I:aS X A1 Y H s)(r:bQ x v)(ty:Qu X.K T x H) :
  s.TypeIs v T/\∀a,v=.ref a->∃ob,s.heap.get? a=some ob/\ob.dict=none:=by
 cases x with
 |str z=>
  obtain⟨t,rfl⟩:=r;cases(show T = "str" from ty);exact{typeIs_str s z t,λ_ e=>nomatch e}
 |int i=>
  obtain⟨t,rfl⟩:=r;cases(show T = "int" from ty);exact{typeIs_int s i t,λ_ e=>nomatch e}
 |ref p=>
  cases r;rcases ty with⟨rfl,xs,hq⟩|⟨rfl,o,hk,hc,hd⟩|⟨rfl,hk⟩|⟨rfl,S,n,hk⟩
  ·let⟨its,_,pl,_⟩:=I.list hq
   refine{pl.isList.typeIs,λa e=>?_};cases e;let⟨o,n,e,c,hd,_⟩:=pl;exact{o,e,hd}
  ·refine{{o,I.kIn p o hk,hc},λa e=>?_}
   cases e;exact{o,I.kIn _ o hk,hd}
  ·have z:∃o,s.heap.get? p=some o/\o.ExactDict:=by
    rcases hk with⟨kvs,hk⟩|⟨kvs,hk⟩
    ·let⟨_,_,_,_,o,_,_,e,ex,_⟩:=I.hok p _ hk
     exact{o,e,ex}
    ·let⟨_,_,_,_,o,_,_,e,ex,_⟩:=I.hok p _ hk
     exact{o,e,ex}
   let⟨o,e,ex⟩:=z;refine{{o,e,ex.1},λa e2=>?_};cases e2;exact{o,e,ex.2.1}
  ·let⟨o,_,_,_,e,ex,_⟩:=I.hok p _ hk
   refine{{o,e,ex.1},λa e2=>?_};cases e2;exact{o,e,ex.2.1}
 |_=>exact False.elim ty
def NW (K:AJ)(T:String)(r:V->A0 V->Hp->VK->Prop)(to:TE):TE:=λY H Q=>to Y H λx H1=>Qu K T x H1/\r x [] H1 Q
def Qy (K:AJ)(T:String)(r:V->A0 V->Hp->VK->Prop)(to:TE)(t:TA):TE:=λY H Q=>to Y H λx H1=>Qu K T x H1/\t Y H1 λxs H2=>r x xs H2 Q
variable {o e:AD}{es:Tl}{to:TE}{t:TA}{name:Str}{apos AX:Pos}{T id:String}{r:V->A0 V->Hp->VK->Prop}
def Lp (pa:PlainAttrs T)(slot:Slot T name id)(hty:typeOf (.builtin id)=pure (.type "method_descriptor"))(hm:Qn X id r)(ho:PE X o to)
  (BM:attributeBase o name X.env (eval o X.env)=eval o X.env:=by rfl) (BL:(apos.endLine == AX.line)=true:=by rfl):PE X (.Call (.Attribute o name apos) [] [] AX) (NW X.K T r to):=by
 intro A1 s Y H Q I h;refine wpAny_Call_method0_late BM BL (dk (ho A1 s Y H _ I h) λv s1 hh=>?_);let⟨x,H1,I1,r1,ty,q1⟩:=hh;let⟨h1,h2⟩:=B7 I1 r1 ty;exact{T,id,pa,slot,hty,h1,h2,Calls.callWith_builtin rfl (PySem.evalArgs_none (hm A1 s1 Y H1 x [] v [] Q I1 r1 .nil q1))}
def zL (pa:PlainAttrs T)(slot:Slot T name id)(hty:typeOf (.builtin id)=pure (.type "method_descriptor"))(hm:Qn X id r)(ho:PE X o to)(ha:PA X (e::es) t)
  (BM:attributeBase o name X.env (eval o X.env)=eval o X.env:=by rfl)
  (C7:((backTo AX (starEach (e::es) X.env)).all (λx=>!x.1)&&(backToKw AX (keywordEach [] X.env)).all (λx=>x.1.isSome)
   && decide ((e::es).length+([]:A0 Keyword).length+(if ([]:A0 Keyword).isEmpty then 0 else 1)<30))=true:=by rfl)
  (BL:(apos.endLine == AX.line)=true:=by rfl) (hs:starEach (e::es) X.env=(false,eval e X.env)::starEach es X.env:=by rfl) (BN:(backTo AX (starEach es X.env)).any (·.1)=false:=by rfl) :
  PE X (.Call (.Attribute o name apos) (e::es) [] AX) (Qy X.K T r to t):=by
 intro A1 s Y H Q I h;refine wpAny_Call_method_late BM C7 BL rfl (dk (ho A1 s Y H _ I h) λv s1 hh=>?_);let⟨x,H1,I1,r1,ty,q1⟩:=hh;let⟨h1,h2⟩:=B7 I1 r1 ty;refine{T,id,pa,slot,hty,h1,h2,?_};have hA:=ha AX A1 s1 Y H1 _ I1 q1;rw[hs] at hA ⊢;refine Calls.callWith_builtin (by show(false || (backTo AX (starEach es X.env)).any (·.1))=false;rw[BN] <;> rfl) (Calls.evalArgs_plain ?_);exact dk hA λus s2 ⟨vs,H2,I2,r2,q2⟩=>hm A1 s2 Y H2 x vs v us Q I2 r1 r2 q2
end
def UL (X:Cx)(id:String)(r:V->A0 V->Hp->VK->Prop):Prop :=
 ∀(A1:Td) (s:A2) (Y:St) (H:Hp) (x:V) (xs:A0 V) (v:A6) (us:Tf) (Q:VK),aS X A1 Y H s->bQ x v->bO xs us->r x xs H Q ->
  wpAny (model X.prog X.w) X.A (call (.builtin id) (v::us)) (EP X A1 Y Q) X.xe s
def bO.one {x:V}{us:Tf}(h:bO [x] us):∃u,us=[u]/\bQ x u:=by cases h with|cons r t=>cases t;exact{_,rfl,r}
theorem bO.zero:∀{us:Tf},bO [] us->us=[]
 |_,.nil=>rfl
theorem bO.dropLast {xs:A0 V}{us:Tf}(h:bO xs us):bO xs.dropLast us.dropLast:=by
 induction h with
 |nil=>exact .nil
 |cons r t ih=>
  cases t with
  |nil=>exact .nil
  |cons q t'=>exact .cons r ih
theorem yU {Z:Type}(l:A0 Z):l.eraseIdx (l.length-1)=l.dropLast:=by
 induction l with
 |nil=>rfl
 |cons a r ih=>
  cases r with
  |nil=>rfl
  |cons b r=>
   have e:(a::b::r).length-1=((b::r).length-1)+1:=by have h1:(a::b::r).length=r.length+2:=rfl;have h2:(b::r).length=r.length+1:=rfl;omega
   rw[e,List.eraseIdx_cons_succ,ih]
   all_goals rfl
section
variable {X:Cx}{A1:Td}{Y:St}{H:Hp}{s:A2}{l:A4}{xs ys:A0 V}
def aS.lset {its its':Tf}{n:Nat}{f:AW A6->Tk}{t':Nat}(I:aS X A1 Y H s)(hH:H l=some (.lst xs))
  (e:s.heap.get? l=some {cls:=.type "list",data:=.seq its.toArray n}) (hf:f its.toArray=its'.toArray) (hv:bO ys its') (hz:ys.length<=sizeLine) :
  aS X A1 Y (upd H l (.lst ys)) {s with heap:=s.heap.update l (Obj.mapSeq f),toks:=t'}:=by
 have q:=PySem.IsL.update e f;rw[hf] at q;refine I.write (x:=l) (e:=l) (by rw[hH];exact trivial) (.inl rfl) (λb' u hb hu=>(Heap.get?_update_other s.heap (Obj.mapSeq f) (Ne.symm hb)).trans hu) {_,q} ?_;exact{hz,its',_,hv,q}
def aS.lnew {its:Tf}{t':Nat}(I:aS X A1 Y H s)(hv:bO ys its)(hz:ys.length<=sizeLine) :
  aS X A1 Y (upd H s.heap.objs.size (.lst ys)) {s with heap:=s.heap.push {cls:=.type "list",data:=.seq its.toArray},toks:=t'} :=
 I.laid (λ_ _ q=>Bl _ q) (BH _) {hz,its,0,hv,Cw _ rfl}
def aS.fresh (I:aS X A1 Y H s):H s.heap.objs.size=none:=I.hok.fresh (BH _)
def aS.lstM (I:aS X A1 Y H s)(hH:H l=some (.lst xs)):xs.length<=sizeLine/\∃(its:Tf) (n:Nat),bO xs its/\xs.length=its.length/\s.heap.get? l=some {cls:=.type "list",data:=.seq its.toArray n}:=by obtain⟨z,its,n,r,e⟩:=I.hok l _ hH;exact{z,its,n,r,r.length,e}
end
section
variable {X:Cx}
def zF:V->A0 V->Hp->VK->Prop:=λx vs H Q=>∃l xs y,x=.ref l/\vs=[y]/\H l=some (.lst xs)/\xs.length<sizeLine/\Q .non (upd H l (.lst (xs++[y])))
def JBf:UL X "list.append" zF:=by intro A1 s Y H x vs v us Q I rx rv h;obtain⟨l,xs,y,rfl,rfl,hH,hz,q⟩:=h;cases rx;obtain⟨u,rfl,ru⟩:=rv.one;obtain⟨z,its,n,r,hl,e⟩:=I.lstM hH;refine call_meets F.slot_list_append {_,e,rfl} F.entry_list_append (F.args_list_append_2 _ _) (PySem.list_append l its.toArray n u (by rw[BR];omega)) {e,?_};refine{.non,_,I.lset (its':=its++[u]) hH e ∅ (r.append (.cons ru .nil)) ?_,rfl,q};rw[Bx,zbS];omega
def Om:V->A0 V->Hp->VK->Prop:=λx vs H Q=>∃l xs y,x=.ref l/\vs=[]/\H l=some (.lst xs)/\xs[xs.length-1]?=some y/\Q y (upd H l (.lst xs.dropLast))
def LP:UL X "list.pop" Om:=by
 intro A1 s Y H x vs v us Q I rx rv h;let⟨l,xs,y,rfl,rfl,hH,hy,q⟩:=h;cases rx;have hus:=rv.zero;subst hus;let⟨z,its,n,r,hl,e⟩:=I.lstM hH;let⟨u,hu,ru⟩:=r.get hy;have hy':its.toArray[its.toArray.size-1]?=some u:=by
  show its.toArray[its.length-1]?=some u
  rw[←Array.getElem?_toList,←hl];exact hu
 refine call_meets F.slot_list_pop {_,e,rfl} F.entry_list_pop (F.args_list_pop_1 _) (MeetsSeq.list_pop_last l its.toArray n u hy' (by rw[BR];omega)) {e,?_};refine{y,_,I.lset (its':=its.dropLast) hH e ?_ r.dropLast ?_,ru,q}
 ·show its.toArray.eraseIdxIfInBounds (its.toArray.size-1)=its.dropLast.toArray
  rw[BR,List.eraseIdxIfInBounds_toArray,yU]
 ·rw[List.length_dropLast];omega
def Ot:R2:=λx y H Q=>∃l b xs zs,x=.ref l/\y=.ref b/\H l=some (.lst xs)/\H b=some (.lst zs)/\xs.length+zs.length<=sizeLine/\∀p,H p=none->Q (.ref p) (upd H p (.lst (xs++zs)))
def Ly:l8 X (binaryOp .Add) Ot:=by
 intro A1 s Y H x y v u Q I rx ry h;let⟨l,b,xs,zs,rfl,rfl,hH,hB,hz,q⟩:=h;cases rx;cases ry;let⟨z,its,n,r,hl,e⟩:=I.lstM hH;let⟨z2,CT,n2,r2,hl2,e2⟩:=I.lstM hB;refine PySem.P.add_list e e2 ?_ (by rw[BR,BR];omega);have ea:its.toArray++CT.toArray=(its++CT).toArray:=by simp
 rw[ea];exact{.ref _,_,I.lnew (t':=s.toks) (r.append r2) (by rw[Bx];omega),rfl,q _ I.fresh}
end
section
variable {κ:Type}[DecidableEq κ]
noncomputable def kY (kvs:A0 (κ×V))(k:κ):UO V:=(kvs.find? λkv=>decide (kv.1=k)).map (·.2)
noncomputable def ll (kvs:A0 (κ×V))(k:κ)(v:V):A0 (κ×V) :=
 if (kvs.any λkv=>decide (kv.1=k))=true then kvs.map (λkv=>if kv.1=k then (kv.1,v) else kv) else kvs++[(k,v)]
def rK {p:κ×V}{r:A0 (κ×V)}{k:κ}(e:p.1=k):kY (p::r) k=some p.2:=by simp[kY,F6,e]
def pD {p:κ×V}{r:A0 (κ×V)}{k:κ}(e:¬ p.1=k):kY (p::r) k=kY r k:=by simp[kY,F6,e]
theorem wm (k:κ):∀kvs:A0 (κ×V),(kvs.any λkv=>decide (kv.1=k))=(kY kvs k).isSome
 |[]=>rfl
 |p::r=>by
  rw[CP];by_cases e:p.1=k
  ·rwa[rK e,Bq e,Bool.true_or,Option.isSome_some]
  ·rw[pD e,Bf e,Bool.false_or];exact wm k r
def ny (kvs:A0 (κ×V))(k:κ)(v:V):(ll kvs k v).length<=kvs.length+1:=by
 unfold ll;split
 ·rw[BI];omega
 ·rw[Bx,Bg,zbu];omega
theorem oq.isSome_eq {o:UO V}{u:Ti}(r:oq o u):o.isSome=u.isSome:=by
 cases o with
 |none=>cases u with
  |none=>rfl
  |some _=>exact(show False from r).elim
 |some _=>cases u with
  |none=>exact(show False from r).elim
  |some _=>rfl
theorem KV.val {kvs:A0 (κ×V)}{vs:A0 (κ×A6)}(r:KV kvs vs)(k:κ):oq (kY kvs k) (valueAt vs k):=by
 unfold KV at r;induction r with
 |nil=>exact True.intro
 | @cons p q ps qs h t ih=>
  let⟨h1,h2⟩:=h;by_cases e:p.1=k
  ·have e':q.1=k:=h1.symm.trans e;have b:valueAt (q::qs) k=some q.2:=(by simp[valueAt,F6,e']);rw[rK e,b];exact h2
  ·have e':¬ q.1=k:=λz=>e (h1.trans z);have b:valueAt (q::qs) k=valueAt qs k:=(by simp[valueAt,F6,e']);rw[pD e,b];exact ih
theorem KV.any {kvs:A0 (κ×V)}{vs:A0 (κ×A6)}(r:KV kvs vs)(k:κ):(kvs.any λkv=>decide (kv.1=k))=vs.any λkv=>decide (kv.1=k):=by
 unfold KV at r;induction r with
 |nil=>rfl
 |cons h t ih=>rw[CP,CP,ih,h.1]
theorem KV.repl {kvs:A0 (κ×V)}{vs:A0 (κ×A6)}(r:KV kvs vs)(k:κ){y:V}{u:A6}(ry:bQ y u) :
  KV (kvs.map λkv=>if kv.1=k then (kv.1,y) else kv) (vs.map λkv=>if kv.1=k then (kv.1,u) else kv):=by
 unfold KV at r ⊢
 induction r with
 |nil=>exact .nil
 | @cons p q ps qs h t ih=>
  rw[BA,BA];refine .cons ?_ ih;let⟨h1,h2⟩:=h
  by_cases e:p.1=k
  ·rw[A8 e,A8 (h1.symm.trans e)];exact{h1,ry}
  ·rw[AE e,AE (λz=>e (h1.trans z))];exact{h1,h2}
def KV.put {kvs:A0 (κ×V)}{vs:A0 (κ×A6)}(r:KV kvs vs)(k:κ){y:V}{u:A6}(ry:bQ y u):KV (ll kvs k y) (stored vs k u):=by
 unfold ll stored;rw[r.any k];by_cases e:(vs.any λkv=>decide (kv.1=k))=true
 ·rw[A8 e,A8 e];exact r.repl k ry
 ·rw[AE e,AE e];exact Paired.snoc r {rfl,ry}
def KV.length {kvs:A0 (κ×V)}{vs:A0 (κ×A6)}(r:KV kvs vs):kvs.length=vs.length:=Paired.length r
end
theorem qP {k:cQ}{u:A6}(r:bQ (kV k) u):(df P w).is k u=true:=by
 cases k with
 |inl i=>let⟨t,e⟩:=(show ∃t,u=Value.int i t from r);subst e;exact wV P w i t
 |inr o=>cases o with
  |some x=>let⟨t,e⟩:=(show ∃t,u=Value.str x t from r);subst e;exact wU P w x t
  |none=>have e:u=Value.none:=r;subst e;exact JBm
theorem uE :∀{ks:A0 cQ} {us:Tf},bO (ks.map kV) us->ItemsAre (df P w) ks us
 |[],_,r=>by rw[DC] at r;cases r;exact .nil
 |k::ks,_,r=>by
  rw[BA] at r
  cases r with
  |cons h t=>exact .cons (qP h) (uE t)
abbrev KT (H:Hp):A0 (A0 cQ×V)->A0 (A0 cQ×A4×A6)->Prop:=Paired λp q=>p.1=q.1/\H q.2.1=some (.tup (p.1.map kV))/\bQ p.2 q.2.2
theorem KT.val {H:Hp}{kvs:A0 (A0 cQ×V)}{xs:A0 (A0 cQ×A4×A6)}(r:KT H kvs xs)(k:A0 cQ):oq (kY kvs k) ((atKey xs k).map (·.2)):=by
 induction r with
 |nil=>exact True.intro
 | @cons p q ps qs h t ih=>
  let⟨h1,_,h2⟩:=h;by_cases e:p.1=k
  ·have e':q.1=k:=h1.symm.trans e;have b:atKey (q::qs) k=some q.2:=(by simp[atKey,F6,e']);rw[rK e,b];exact h2
  ·have e':¬ q.1=k:=λz=>e (h1.trans z);have b:atKey (q::qs) k=atKey qs k:=(by simp[atKey,F6,e']);rw[pD e,b];exact ih
theorem KT.repl {H:Hp}{kvs:A0 (A0 cQ×V)}{xs:A0 (A0 cQ×A4×A6)}(r:KT H kvs xs)(k:A0 cQ){y:V}{u:A6}(ry:bQ y u) :
  KT H (kvs.map λkv=>if kv.1=k then (kv.1,y) else kv) (xs.map (putAt k u)):=by
 induction r with
 |nil=>exact .nil
 | @cons p q ps qs h t ih=>
  rw[BA,BA];refine .cons ?_ ih;let⟨h1,h2,h3⟩:=h;unfold putAt
  by_cases e:p.1=k
  ·rw[A8 e,A8 (h1.symm.trans e)];exact{h1,h2,ry}
  ·rw[AE e,AE (λz=>e (h1.trans z))];exact{h1,h2,h3}
def KT.put {H:Hp}{kvs:A0 (A0 cQ×V)}{xs:A0 (A0 cQ×A4×A6)}(r:KT H kvs xs)(k:A0 cQ){b:A4}{y:V}{u:A6}(hb:H b=some (.tup (k.map kV)))(ry:bQ y u) :
  KT H (ll kvs k y) (storedH xs k b u):=by
 have e:(kvs.any λkv=>decide (kv.1=k))=(atKey xs k).isSome:=by
  rw[wm,(r.val k).isSome_eq,Option.isSome_map]
 unfold ll storedH;rw[e]
 by_cases q:(atKey xs k).isSome=true
 ·rw[A8 q,A8 q];exact r.repl k ry
 ·rw[AE q,AE q];exact Paired.snoc r {rfl,hb,ry}
def KT.keeps {H H':Hp}{kvs:A0 (A0 cQ×V)}{xs:A0 (A0 cQ×A4×A6)}(r:KT H kvs xs)(ht:∀b ys,H b=some (.tup ys)->H' b=some (.tup ys)):KT H' kvs xs :=
 Paired.mapP r λ_ _ z=>{z.1,ht _ _ z.2.1,z.2.2}
section
variable {P:A7}{w:AF}{H:Hp}{h:AG}{a:A4}
def IQ {u:HO}(ok:kz P w H h)(e:Rd H a u):eY P w H h a u:=e.ok ok
def Au {kvs:A0 (cQ×V)}(ok:kz P w H h)(e:Rd H a (.dK kvs)):kvs.length<=sizeLine/\(a == sysModules)=false/\∃vs,KV kvs vs/\h.DictOf (df P w) a vs :=
 show eY P w H h a (.dK kvs) from IQ ok e
def JD {kvs:A0 (cQ×V)}(ok:kz P w H h)(e:H a=some (.dK kvs)):kvs.length<=sizeLine/\(a == sysModules)=false/\∃vs,KV kvs vs/\h.DictOf (df P w) a vs:=Au ok (.inl e)
def vG {ks:A0 cQ}(ok:kz P w H h)(e:H a=some (.tup (ks.map kV))):(tupleKind (df P w)).is h ks a:=by let⟨_,its,r,⟨o,h1,h2,n,h3⟩,_⟩:=(show eY P w H h a (.tup (ks.map kV)) from ok a _ e);exact{o,its.toArray,n,h1,h2,h3,by simpa using uE r}
def At {kvs:A0 (A0 cQ×V)}(ok:kz P w H h)(e:Rd H a (.dT kvs)):kvs.length<=sizeLine/\(a == sysModules)=false /\
  ∃xs,KT H kvs xs/\h.DictOfH (tupleKind (df P w)) a xs:=by
 let⟨z,y,xs,r,o,es,ep,h1,h2,h3,h4,h5⟩:=(show eY P w H h a (.dT kvs) from IQ ok e);refine{z,y,xs,r,o,es,ep,h1,h2,h3,h4,λx hx=>?_,h5}
 have all:∀{l:A0 (A0 cQ×V)} {m:A0 (A0 cQ×A4×A6)},KT H l m->∀x∈m,(tupleKind (df P w)).is h x.1 x.2.1:=by
  intro l m q
  induction q with
  |nil=>intro x hx;exact nomatch hx
  | @cons p q ps qs hq t ih=>
   intro x hx;rcases BJ.mp hx with e|hx
   ·subst e
    exact vG ok (by rw[←hq.1];exact hq.2.1)
   ·exact ih x hx
 exact all r x hx
def Qd {kvs:A0 (A0 cQ×V)}(ok:kz P w H h)(e:H a=some (.dT kvs)):kvs.length<=sizeLine/\(a == sysModules)=false /\
  ∃xs,KT H kvs xs/\h.DictOfH (tupleKind (df P w)) a xs:=At ok (.inl e)
end
def HB (H:Hp)(a:A4)(y:V)(r:UO V):Prop :=
 (∃kvs k,Rd H a (.dK kvs)/\y=kV k/\r=kY kvs k)\/∃kvs k b,Rd H a (.dT kvs)/\y=.ref b/\H b=some (.tup (k.map kV))/\r=kY kvs k
def HA (H:Hp)(a:A4)(y v:V)(H':Hp):Prop :=
 (∃kvs k,H a=some (.dK kvs)/\y=kV k/\kvs.length<sizeLine/\H'=upd H a (.dK (ll kvs k v))) \/
 ∃kvs k b,H a=some (.dT kvs)/\y=.ref b/\H b=some (.tup (k.map kV))/\kvs.length<sizeLine/\H'=upd H a (.dT (ll kvs k v))
def HA.k {H:Hp}{a:A4}{kvs:A0 (cQ×V)}{k:cQ}{v:V}(e:H a=some (.dK kvs))(hl:kvs.length<sizeLine):HA H a (kV k) v (upd H a (.dK (ll kvs k v))):=.inl {kvs,k,e,rfl,hl,rfl}
section
variable {X:Cx}{A1:Td}{Y:St}{H:Hp}{s:A2}{a:A4}{y v:V}{u r:A6}{o:UO V}{A:AI}{E:Tc}
def aS.big (I:aS X A1 Y H s):sysModules<s.heap.objs.size:=by have h:mainGlobals<s.heap.objs.size:=(I.mod.glob.keeps I.bk).lt;exact Dl ∅ h
def JA4 {Q:Tc}(hu:A.units+1<cLine)(I:aS X A1 Y H s)(g:HB H a y (some v))(ry:bQ y u)(h:∀w' s',aS X A1 Y H s'->bQ v w'->Q w' s') :
  wpAny (model X.prog X.w) A (getItem (.ref a) u) Q E s:=by
 rcases g with⟨kvs,k,e,ey,l⟩|⟨kvs,k,b,e,ey,eb,l⟩
 ·subst ey
  let⟨z,hd,vs,rel,dd⟩:=Au I.hok e;let⟨w',hw,Dy⟩:=oq.some_of (v:=v) (o:=valueAt vs k) (by rw[l];exact rel.val k);exact wpAny_getItem_of (qP ry) dd.mapOf hw (h w' _ (I.tok _) Dy)
 ·subst ey
  cases(show u=Value.ref b from ry);let⟨z,hd,xs,rel,dd⟩:=At I.hok e;let⟨w',hw,Dy⟩:=oq.some_of (v:=v) (o:=(atKey xs k).map (·.2)) (by rw[l];exact rel.val k);let⟨p,hp,hp2⟩:=DG.mp hw;refine wpAny_getItem_heap (tupleKind_room_in1 hu) (vG I.hok eb) dd hp ?_;rw[hp2];exact h w' _ (I.tok _) Dy
def S4 {Q:Tc}(hu:A.units+1<cLine)(I:aS X A1 Y H s)(g:HB H a y o)(ry:bQ y u)(h:∀s',aS X A1 Y H s'->Q (.bool o.isSome) s') :
  wpAny (model X.prog X.w) A (compareOp .In u (.ref a)) Q E s:=by
 rcases g with⟨kvs,k,e,ey,l⟩|⟨kvs,k,b,e,ey,eb,l⟩
 ·subst ey
  let⟨z,hd,vs,rel,dd⟩:=Au I.hok e;refine wpAny_in_of (qP ry) hd dd.mapOf ?_;rw[←(rel.val k).isSome_eq,←l];exact h _ (I.tok _)
 ·subst ey
  cases(show u=Value.ref b from ry);let⟨z,hd,xs,rel,dd⟩:=At I.hok e;refine wpAny_in_heap (tupleKind_room_in1 hu) (vG I.hok eb) hd dd ?_;have q:=(rel.val k).isSome_eq;rw[Option.isSome_map] at q;rw[←q,←l];exact h _ (I.tok _)
def vU {h':AG}{t':Nat}{ob:HO}(I:aS X A1 Y H s)(mu:Qm (H a))(hs:Heap.SameBut a s.heap h')(he:∃q,h'.get? a=some q)(new:eY X.prog X.w (upd H a ob) h' a ob) :
  aS X A1 Y (upd H a ob) {s with heap:=h',toks:=t'} :=
 I.write (x:=a) (e:=a) mu (.inl rfl) (λb q hb z=>(hs.2 b hb).trans z) he new
def Eu {H':Hp}{h':AG}{kvs:A0 (cQ×V)}{vs:A0 (cQ×A6)}(z:kvs.length<=sizeLine)(hd:(a == sysModules)=false)(rel:KV kvs vs)(dd:h'.DictOf (df P w) a vs) :
  eY P w H' h' a (.dK kvs):={z,hd,vs,rel,dd}
def JA3 {H':Hp}{Q:Unit->A2->Prop}(hu:A.units+1<cLine)(I:aS X A1 Y H s)(g:HA H a y v H')(ry:bQ y u)(rv:bQ v r)(h:∀s',aS X A1 Y H' s'->Q () s') :
  wpAny (model X.prog X.w) A (setItem (.ref a) u r) Q E s:=by
 rcases g with⟨kvs,k,e,ey,l,eH⟩|⟨kvs,k,b,e,ey,eb,l,eH⟩
 ·subst ey eH
  let⟨z,hd,vs,rel,dd⟩:=JD I.hok e
  have hz:vs.length<=sizeLine:=by rw[←rel.length];exact z
  have hl:(ll kvs k v).length<=sizeLine:=by have:=ny kvs k v;omega
  refine wpAny_setItem_pairs (hsz:=hz) (qP ry) dd λh' FH hs=>h _ ?_;have he:∃q,h'.get? a=some q:=let ⟨q,_,_,hq,_⟩:=FH;{q,hq};exact vU I (by rw[e];exact True.intro) hs he (Eu hl hd (rel.put k rv) FH)
 ·subst ey eH
  cases(show u=Value.ref b from ry);let⟨z,hd,xs,rel,dd⟩:=Qd I.hok e
  have hz:xs.length<=sizeLine:=by rw[←Paired.length rel];exact z
  have hl:(ll kvs k v).length<=sizeLine:=by have:=ny kvs k v;omega
  refine wpAny_setItem_heap (hsz:=hz) (tupleKind_room_in1 hu) (vG I.hok eb) dd λh' FH hs=>h _ ?_;let⟨q,es,ep,hq,h2,h3,h4,_,h5⟩:=FH;refine vU I (by rw[e];exact True.intro) hs {q,hq} {hl,hd,_,(rel.put k eb rv).keeps λc ys ec=>?_,q,es,ep,hq,h2,h3,h4,h5};rw[aT (O3 ec e (λz=>nomatch z))];exact ec
end
def MV (i:AD):Prop:=∀ov iv,subscripted i false ov iv=operate [ov,iv] (getItem ov iv)
def JEl {prog:A7}{w:AF}{A:AI}{E:Tc}{s:A2}{env:Env}{value slice:AD}{pos:Pos}{T id:String}{Q:Tc}
  (hl:typeLookup (.type T) "__getitem__" = pure (some (.builtin id))) (hs:MV slice)
  (h:wpAny (model prog w) A (eval value env) (λo s₁=>wpAny (model prog w) A (eval slice env) (λi s₂=>s₂.TypeIs o T/\wpAny (model prog w) A (getItem o i) Q E s₂) E s₁) E s) :
  wpAny (model prog w) A (eval (.Subscript value slice pos) env) Q E s:=by
 refine Subscript_ (BK h (λo s₁ h₁=>BK h₁ (λi s₂ h₂=>?_) λ_ _ x=>x) λ_ _ x=>x);let⟨hT,h₂⟩:=h₂;unfold subscriptTail;refine AY ?_;rw[getitemInPython_of_ne hT.not_modules];refine AY (zcj hT hl ?_)
 have fin:wpAny (model prog w) A (subscripted slice false o i) (λr s₃=>wpAny (model prog w) A (letTemporaryGo value o r >>=λ_=>pure r) Q E s₃) E s₂:=by
  rw[hs o i];exact wpAny_operating (BK h₂ (λr s₃ h₃=>AY (wpAny_letTemporaryGo (BG h₃))) λ_ _ x=>x)
 first
  |exact BG (AY fin)
  |exact AY (BG (AY fin))
  |exact AY fin
def xw {H:Hp}{s:A2}{a:A4}{y:V}{o:UO V}(I:aS X A1 Y H s)(g:HB H a y o):s.TypeIs (.ref a) "dict":=by
 rcases g with⟨kvs,k,e,_,_⟩|⟨kvs,k,b,e,_,_,_⟩
 ·let⟨_,_,vs,_,dd⟩:=Au I.hok e;exact dd.typeIs
 ·let⟨_,_,xs,_,dd⟩:=At I.hok e;exact dd.typeIs
def IF (td ty:TE):TE:=λY H Q=>td Y H λx H1=>ty Y H1 λy H2=>∃a v,x=.ref a/\HB H2 a y (some v)/\Q v H2
section
variable {X:Cx}{o i:AD}{pos:Pos}{td ty:TE}
def Gg (hu:X.A.units+1<cLine)(ho:PE X o td)(hi:PE X i ty)(hs:MV i):PE X (.Subscript o i pos) (IF td ty):=by intro A1 s Y H Q I h;refine JEl PySem.F.slot_dict_getitem.lookup hs (dk (ho A1 s Y H _ I h) λu s1 hh=>?_);let⟨x,H1,I1,rx,q1⟩:=hh;refine dk (hi A1 s1 Y H1 _ I1 q1) λiv s2 hh=>?_;let⟨y,H2,I2,ry,a,v,ex,g,q2⟩:=hh;subst ex;obtain rfl:u=Value.ref a:=rx;exact{xw I2 g,JA4 hu I2 g ry λw' s3 I3 Dy=>{v,H2,I3,Dy,q2}}
end
def xv {H:Hp}(h:AG)(hb:sysModules<h.objs.size):eY P w H (h.push {cls:=.type "dict",data:=.dict #[]}) h.objs.size (.dK []) :=
 {E8 _,beq_eq_false_iff_ne.mpr (Ne.symm (Ba hb)),[],.nil,Heap.DictOf.new h}
def CA:TE:=λ_ H Q=>∀p,H p=none->Q (.ref p) (upd H p (.dK []))
section
variable {X:Cx}{pos:Pos}
def JCl:PE X (.Dict [] [] pos) CA:=λA1 s Y H Q I h=>
 wpAny_Dict_empty {.ref s.heap.objs.size,_,I.laid (a:=s.heap.objs.size) (o:=.dK []) (t':=s.toks) (λ_ _ q=>Bl _ q) (BH _) (xv s.heap I.big),rfl,h _ (I.hok.fresh (BH _))}
end
def u4:A0 (TE×TE)->St->Hp->(A0 (V×V)->Hp->Prop)->Prop
 |[],_,H,Q=>Q [] H
 |(tk,tv)::r,Y,H,Q=>tk Y H λx H1=>tv Y H1 λy H2=>u4 r Y H2 λps H3=>Q ((x,y)::ps) H3
abbrev VV:A0 (V×V)->A0 (A6×A6)->Prop:=Paired λp q=>bQ p.1 q.1/\bQ p.2 q.2
def Rn (X:Cx)(pos:Pos)(keys:A0 (UO AD))(values:Tl)(trs:A0 (TE×TE)):Prop :=
 ∀(A1:Td) (s:A2) (Y:St) (H:Hp) (Q:A0 (V×V)->Hp->Prop),aS X A1 Y H s->u4 trs Y H Q ->
  wpAny (model X.prog X.w) X.A (evalPairs (pairTrees keys values X.env pos)) (λvs s'=>∃ps H',aS X A1 Y H' s'/\VV ps vs/\Q ps H') X.xe s
def JD1 :Rn X pos [] [] []:=λA1 s Y H Q I h=>pairTrees_nil_walk {[],H,I,.nil,h}
def sk {k v:AD}{ks:A0 (UO AD)}{vs:Tl}{tk tv:TE}{trs:A0 (TE×TE)}(hk:PE X k tk)(hv:PE X v tv)(hr:Rn X pos ks vs trs) :
  Rn X pos (some k::ks) (v::vs) ((tk,tv)::trs):=λA1 s Y H Q I h=>
 pairTrees_cons_walk (dk (hk A1 s Y H _ I h) λu s1 ⟨x,H1,I1,rx,q1⟩=>dk (hv A1 s1 Y H1 _ I1 q1) λw2 s2 ⟨y,H2,I2,ry,q2⟩=>
  dk (hr A1 s2 Y H2 _ I2 q2) λws s3 ⟨ps,H3,I3,rel,q3⟩=>{(x,y)::ps,H3,I3,.cons {rx,ry} rel,q3})
noncomputable def sy (kvs more:A0 (cQ×V)):A0 (cQ×V):=more.foldl (λacc kv=>ll acc kv.1 kv.2) kvs
theorem KV.merge:∀{more:A0 (cQ×V)} {rs:A0 (cQ×A6)} {kvs:A0 (cQ×V)} {vs:A0 (cQ×A6)},KV more rs->KV kvs vs->KV (sy kvs more) (merged vs rs):=by
 intro more rs kvs vs r;unfold KV at r;induction r generalizing kvs vs with
 |nil=>intro q;exact q
 | @cons p q ps qs h t ih=>
  intro r0;have e:KV (ll kvs p.1 p.2) (stored vs q.1 q.2):=by have:=r0.put p.1 h.2;rw[←h.1];exact this
  exact ih e
theorem oI:∀(more kvs:A0 (cQ×V)),(sy kvs more).length<=kvs.length+more.length
 |[],kvs=>by show kvs.length<=kvs.length+0;omega
 |p::r,kvs=>by
  have h1:=oI r (ll kvs p.1 p.2);have h2:=ny kvs p.1 p.2
  show(sy (ll kvs p.1 p.2) r).length<=_
  rw[Bg];omega
theorem sW {P:A7}{w:AF}:∀{kvs:A0 (cQ×V)} {ws:A0 (A6×A6)},VV (kvs.map λkv=>(kV kv.1,kv.2)) ws->∃rs,Carries (df P w) ws rs/\KV kvs rs
 |[],_,r=>by rw[DC] at r;cases r;exact{[],True.intro,.nil}
 |p::kvs,_,r=>by
  rw[BA] at r
  cases r with
  | @cons a b as bs h t=>
   let⟨rs,c,q⟩:=sW (P:=P) (w:=w) t;let⟨b1,b2⟩:=b;exact{(p.1,b2)::rs,{qP h.1,rfl,c},.cons {rfl,h.2} q}
def IE (trs:A0 (TE×TE)):TE:=λY H Q=>∀p,H p=none->u4 trs Y (upd H p (.dK [])) λps H2=>H2 p=some (.dK [])/\∃kvs:A0 (cQ×V),ps=kvs.map (λkv=>(kV kv.1,kv.2))/\kvs.length<=15/\Q (.ref p) (upd H2 p (.dK (sy [] kvs)))
def Gf {pos:Pos}{keys:A0 (UO AD)}{values:Tl}{trs:A0 (TE×TE)}(h:Rn X pos keys values trs)(Fh:keys.all (·.isSome)=true)(hl:keys.length=values.length)(h0:keys≠[])
  (h15:keys.length<=15):PE X (.Dict keys values pos) (IE trs):=by
 intro A1 s Y H Q I q;have hn:=I.hok.fresh (BH s.heap.objs.size);have I1:=I.laid (a:=s.heap.objs.size) (o:=.dK []) (h':=s.heap.push {cls:=.type "dict",data:=.dict #[]}) (t':=s.toks) (λ_ _ q=>Bl _ q) (BH _) (xv s.heap I.big);refine wpAny_Dict_walk (knd:=df X.prog X.w) Fh hl h0 h15 (dk (h A1 _ Y _ _ I1 (q _ hn)) λws s2 hh=>?_);obtain⟨ps,H2,I2,rel,e,kvs,ep,lk,q2⟩:=hh;subst ep;obtain⟨rs,c,rk⟩:=sW (P:=X.prog) (w:=X.w) rel;obtain⟨z,hd,vs0,r0,dd⟩:=JD I2.hok e;cases r0;refine{rs,c,dd,λh' FH hs=>{.ref s.heap.objs.size,_,?_,rfl,q2}}
 have hz:(sy [] kvs).length<=sizeLine:=by
  have h1:=oI kvs [];rw[zbu] at h1;rw[zcp];omega
 have he:∃q,h'.get? s.heap.objs.size=some q:=let ⟨q,_,_,hq,_⟩:=FH;{q,hq};exact vU I2 (by rw[e];exact True.intro) hs he (Eu hz hd (rk.merge .nil) FH)
structure M1 (X:Cx)(o:Expr)(m:Str)(apos:Pos)(e:Expr)(AX:Pos):Prop where
 base:attributeBase o m X.env (eval o X.env)=eval o X.env
 few:((backTo AX (starEach [e] X.env)).all (λx=>!x.1)&&(backToKw AX (keywordEach [] X.env)).all (λx=>x.1.isSome)
  && decide (([e]:Tl).length+([]:List Keyword).length+(if ([]:List Keyword).isEmpty then 0 else 1)<30))=true
 line:(apos.endLine == AX.line)=true
 trees:backTo AX (starEach [e] X.env)=[(false,eval e X.env)]
end L2
namespace Att
open PySem.W PySem.Calls PyProof.Rows
theorem rc {P:Params}{h:AG}:∀(ns:Tj) (vs:Tf),WellAll P h vs (ns.map WData.int)->IntsAre vs ns:=by
 intro ns;induction ns with
 |nil=>
  intro vs w;rw[DC] at w;cases w;exact .nil
 |cons n ns ih=>
  intro vs w;rw[BA] at w
  cases w with
  |cons a b=>
   cases a;exact .cons _ _ (ih _ b)
theorem JAr {l:OpenLaw}{n:Nat}(hn:l.most=some n){P:Params}{h:AG}{args:A0 WData}{vals:Tf}
  (F3:l.row.toRowW.claim.pre args=true) (hwl:WellAll P h vals args) :
  ∃a vs ns,vals=[Value.ref a]/\args=[WData.list (ns.map WData.int)]/\h.get? a=some {cls:=.type "list",data:=.seq vs.toArray}/\IntsAre vs ns/\ns.length<=n:=by
 have hsh:WShape.hasAll [] args [.list .int]=true:=(pre_splitW F3).1;have hc:l.pre.holds [] {args:=args}=true:=(pre_splitW F3).2;let⟨d,r,rfl,h1,h2⟩:=hasAllW_cons hsh;obtain rfl:=hasAllW_nil h2;let⟨xs,rfl,h3⟩:=hasW_list h1;let⟨ns,rfl⟩:=items_int h3
 have hlen:ns.length<=n:=by
  unfold OpenLaw.pre at hc
  have h4:(WTm.not (.lt (.lit (.int (n:Int))) (.len (.arg 0)))).holds [] {args:=[.list (ns.map .int)]}=true:=by
   have h4:=(holds_andW hc).1;rw[hn] at h4;exact h4
  have h5:=condW_of h4 (w_not (w_lt w_lit (w_len_list (w_arg rfl))));rw[BI] at h5;refine Nat.le_of_not_lt λq=>?_
  have q':(n:Int)<((ns.length:Nat):Int):=by omega
  first
   |(rw[Bq q'] at h5;exact AH h5 ∅)
   |(simp at h5;omega)
 cases hwl with
 |cons w1 w2=>
  cases w2
  cases w1 with
  |list ho Fh=>exact{_,_,ns,rfl,rfl,ho,rc ns _ Fh,hlen}
def JAe (l:OpenLaw)(args:A0 WData):l.row.toRowW.claim.post args (.bool true) args=true :=
 postW_of (r:=l.row.toRowW) (X:=(true == true))
  (show WShape.has [] (.bool true) .bool=true by first|rfl|decide|simp[WShape.has,WShape.arms,WShape.armsAll])
  (show(WTm.eq .res (.lit (.bool true))).value [] {args:=args,res:=some (.bool true),after:=args}=some (.bool (true == true)) from w_eq_bool (w_res rfl) w_lit) rfl
def attach_call {l:OpenLaw}{n:Nat}{q:A7}{loose:To}{XP:(Te)->AG->Prop}{YP:AF->AG->Prop}{d:DefRec}
  (hn:l.most=some n) (hdf:d.params.defaults=[])
  (call:∀(w:AF) (s₀ s₁:A2) (mg mb:Te) (fa:A4) (o:Obj) (pm cd doc:A6) (a:A4) (vs:Tf) (ns:Tj),
   Ground q loose [] XP w s₀ mg mb s₁.heap->YP w s₁.heap ->
   s₁.heap.get? fa=some o->o.data=.func (docDef d.name d.params d.body d.scope pm cd doc)->s₁.heap.CodeRec cd d.name->mg d.name=some (.ref fa) ->
   s₁.heap.get? a=some {cls:=.type "list",data:=.seq vs.toArray}->IntsAre vs ns->ns.length<=n->s₁.gens = #[] ->
   codeAny (model l.prog w) callerA (.call (.ref fa) {[.ref a],[]}) (λr s'=>r=.ok (.ret (.bool true))/\OldK s₁.heap s'.heap/\s'.os=s₁.os/\AllBare s'.gens) s₁) :
  WalkO q loose XP YP l.row.toRowW d [] (λf vs=>PySem.call f vs):=by
 intro w s₀ s₁ mg mb G Yz fa o pm cd doc dV kV ho hd Bp hD hmg hg args vals as F3 hlay hrd hwl DR;obtain rfl:dV=.none:=Dflts.none hD hdf;obtain rfl:kV=.none:=Dflts.noKw hD;let⟨a,vs,ns,rfl,rfl,FV,hints,hlen⟩:=JAr hn F3 hwl;refine enter_call (Eh (call w s₀ s₁ mg mb fa o pm cd doc a vs ns G Yz ho (fd_plain hd) Bp hmg FV hints hlen hg) λr s' hq=>?_);let⟨rfl,h2,h3,h4⟩:=hq;exact{.inl {.bool true,.bool true,[],rfl,λ_=>rfl,.bool true,JAe l _,λ_=>{List.Pairwise.nil,λ_ hm=>(nomatch hm)}},h2,h3,h4}
end Att
namespace L2
open PyProof.Rows
theorem nO:∀{vs:Tf} {ns:Tj},IntsAre vs ns->bO (ns.map V.int) vs
 |_,_,.nil=>.nil
 |_,_,.cons n t h=>.cons {t,rfl} (nO h)
def EQ (H:Hp):Prop:=∀b,H b=none\/∃o xs,H b=some (.frz o (.lst xs))
theorem JCt {P:A7}{w:AF}{K:AJ}{mg mb:Te}{CX:ze}{k:Nat}{fa a:A4}{fd:FuncData}{x:Str}{sp:Sp}{s₁:A2}{vs:Tf}{ns:Tj}
  (KX:K.In s₁.heap) (hns:s₁.heap.Ns mainGlobals mg) (hb:s₁.heap.Ns builtinsNs mb) (hbb:∀x:Str,x≠"__name__"->mb x=bootBuiltins x) (hlim:s₁.heap.NoLimit) (hg:s₁.gens = #[])
  (ha:s₁.heap.get? a=some {cls:=.type "list",data:=.seq vs.toArray}) (hi:IntsAre vs ns) (hl:ns.length<=sizeLine) (hr:cr k callerA)
  (F:∀base:AG,K.In base->base.Ns mainGlobals mg->dF P w K mg base CX k fa fd [x] sp) (hbind:∀(s:A2) (u:A6),BindsTo s fd {[u],[]} [(x,u)])
  (D6:∀H:Hp,EQ H->nK K H a (ns.map V.int)->sp [.ref a] H (λv _=>v=.bl true) λ_ _ _=>False)
  (hCX:∀H e s',CX [] H s₁ (λ_ _ _=>False) e s'->False) :
  codeAny (model P w) callerA (.call (.ref fa) {[.ref a],[]}) (λr s'=>r=.ok (.ret (.bool true))/\OldK s₁.heap s'.heap/\s'.os=s₁.os/\AllBare s'.gens) s₁:=by
 have rv:=nO hi;have lenV:=hi.length
 have core:∀H:Hp,EQ H->nK K H a (ns.map V.int)->kz P w H s₁.heap->(∀b,H b≠none->b=a)->(H a≠none->K.lookup a=none) ->
   codeAny (model P w) callerA (.call (.ref fa) {[.ref a],[]}) (λr s'=>r=.ok (.ret (.bool true))/\OldK s₁.heap s'.heap/\s'.os=s₁.os/\AllBare s'.gens) s₁:=by
  intro H hO hS hok hA hK;have base_of:∀{b:A4} {o:Obj},s₁.heap.get? b=some o->H b=none->(vN s₁.heap H).get? b=some o:=λe n=>JDq e n
  have noA:∀{b:A4} {o:Obj} {es:AW DictEntry} {ep:Nat},s₁.heap.get? b=some o->o.data=.dict es ep->H b=none:=λ{b o es ep} e d=>by
   cases q:H b with
   |none=>rfl
   |some u=>
    have e':b=a:=hA b (by rw[q];simp);subst e';rw[ha] at e;cases e;have d':Data.seq vs.toArray _=Data.dict es ep:=d;cases d'
  have nsK:∀{b:A4} {m:Te},s₁.heap.Ns b m->(vN s₁.heap H).Ns b m:=λ{b m} ⟨o,es,ep,e,d,r⟩=>{o,es,ep,base_of e (noA e d),d,r}
  have hKb:K.In (vN s₁.heap H):=λb o e=>base_of (KX b o e) (by
   cases q:H b with
   |none=>rfl
   |some u=>
    have e':b=a:=hA b (by rw[q];simp);subst e'
    rw[hK (by rw[q];simp)] at e;cases e)
  have hM:Mod K mg (vN s₁.heap H):={hKb,nsK hns,{mb,nsK hb,hbb},let ⟨mc,h1,h2⟩:=hlim;{mc,nsK h1,h2}};have e0:zd P w K mg (vN s₁.heap H) callerA [] s₁ H:={rfl,hM,λb o e=>Gw e,Nat.le_of_eq (JBx _ _),trivial,λb hb=>AH (show b∈([]:Tg) from hb) ∅,hok,.of_eq hg};refine Eh ((F _ hKb (nsK hns)).run callerA [] s₁ H {[.ref a],[]} [.ref a] [.ref a] _ _ hr e0 (hbind s₁ (.ref a)) (.cons rfl .nil) (D6 H hO hS)) λr s' h=>?_
  cases r with
  |error e=>exact(hCX H e s' h).elim
  |ok fl=>
   cases fl with
   |next=>exact False.elim h
   |brk=>exact False.elim h
   |cont=>exact False.elim h
   |ret u=>
    let⟨v,H',os,bare,un,hok',r',q⟩:=h;have q':v=.bl true:=q;subst q';obtain rfl:u=Value.bool true:=r';refine{rfl,OldK.of_keep λb o e=>?_,os,bare}
    cases q:H b with
    |none=>exact un.keep b o e q (by intro z;exact AH (show b∈([]:Tg) from z) ∅) ∅
    |some u=>
     rcases hO b with z|⟨ob,xs,z⟩
     ·rw[q] at z;cases z
     ·have z2:=un.frzs b ob _ z
      let⟨e1,_⟩:=hok b _ z;let⟨e2,_⟩:=hok' b _ z2;rw[e] at e1;cases e1;exact e2
 cases hk:K.lookup a with
 |some o=>
  have e:=KX a o hk;rw[ha] at e;cases e;refine core (λ_=>none) (λ_=>.inl rfl) (.inr {_,vs.toArray,_,hk,rfl,{rfl,rfl},rfl,by rw[BR,lenV];exact hl,by simpa using rv}) (λb u z=>by have z':(none:UO HO)=some u:=z;cases z') (λb z=>AH rfl z) λz=>AH rfl z
 |none=>
  refine core (λb=>if b=a then some (.frz {cls:=.type "list",data:=.seq vs.toArray} (.lst (ns.map V.int))) else none) (λb=>?_) (.inl (.inr {{cls:=.type "list",data:=.seq vs.toArray},A8 rfl})) (λb u z=>?_) (λb z=>?_) λ_=>hk
  ·by_cases hb:b=a
   ·exact .inr {_,_,A8 hb}
   ·exact .inl (AE hb)
  ·by_cases hb:b=a
   ·have z':=(A8 hb).symm.trans z
    cases z';subst hb;exact{ha,by rw[BI];exact hl,vs,_,rv,ha}
   ·have z':=(AE hb).symm.trans z
    cases z'
  ·by_cases hb:b=a
   ·exact hb
   ·exact AH (AE hb) z
def JDj {l:PySem.W.OpenLaw}{n k:Nat}{q:A7}{loose:To}{XP:(Te)->AG->Prop}{YP:AF->AG->Prop}{d:DefRec}{K:Params->AJ}{CX:AF->ze}{sp:AF->Sp}{x:Str}
  (hn:l.most=some n) (Dm:n<=sizeLine) (hdf:d.params.defaults=[]) (hr:cr k callerA)
  (hY:∀(w:AF) (h:AG),YP w h->(K w.params).In h)
  (F:∀(w:AF) (mg:Te) (fa:A4) (h:AG),(K w.params).In h->h.Ns mainGlobals mg->mg d.name=some (.ref fa) ->
   ∃fd:FuncData,(∀(s:A2) (u:A6),BindsTo s fd {[u],[]} [(x,u)]) /\
    ∀base:AG,(K w.params).In base->base.Ns mainGlobals mg->dF l.prog w (K w.params) mg base (CX w) k fa fd [x] (sp w))
  (D6:∀(w:AF) (H:Hp) (a:A4) (ns:Tj),ns.length<=n->EQ H->nK (K w.params) H a (ns.map V.int)->sp w [.ref a] H (λv _=>v=.bl true) λ_ _ _=>False)
  (hCX:∀(w:AF) (H:Hp) (s:A2) (e:A6) (s':A2),CX w [] H s (λ_ _ _=>False) e s'->False) :
  PySem.W.WalkO q loose XP YP l.row.toRowW d [] (λf vs=>PySem.call f vs):=by
 refine Att.attach_call hn hdf λw s₀ s₁ mg mb fa o pm cd doc a vs ns G Yz ho hd Bp hmg FV hints hlen hg=>?_;have KX:=hY w _ Yz;let⟨fd,hb,hF⟩:=F w mg fa _ KX G.T.g hmg;exact JCt KX G.T.g G.T.b G.T.builtins G.T.nolimit hg FV hints (Br hlen Dm) hr hF hb (λH hO hS=>D6 w H a ns hlen hO hS) λH e s'=>hCX w H s₁ e s'
def B4 {l:PySem.W.OpenLaw}{n k:Nat}{q:A7}{loose:To}{XP:(Te)->AG->Prop}{YP:AF->AG->Prop}{d:DefRec}{K:Params->AJ}{CX:ze}{sp:AJ->Sp}{x:Str}
  (hn:l.most=some n) (Dm:n<=sizeLine) (hdf:d.params.defaults=[]) (hr:cr k callerA)
  (hY:∀(w:AF) (h:AG),YP w h->(K w.params).In h)
  (F:∀(w:AF) (mg:Te) (fa:A4) (h:AG),(K w.params).In h->h.Ns mainGlobals mg->mg d.name=some (.ref fa) ->
   ∃fd:FuncData,(∀(s:A2) (u:A6),BindsTo s fd {[u],[]} [(x,u)]) /\
    ∀base:AG,(K w.params).In base->base.Ns mainGlobals mg->dF l.prog w (K w.params) mg base CX k fa fd [x] (sp (K w.params)))
  (D6:∀(K:AJ) (H:Hp) (a:A4) (ns:Tj),ns.length<=n->EQ H->nK K H a (ns.map V.int)->sp K [.ref a] H (λv _=>v=.bl true) λ_ _ _=>False)
  (hCX:∀(H:Hp) (s:A2) (e:A6) (s':A2),CX [] H s (λ_ _ _=>False) e s'->False) :
  PySem.W.WalkO q loose XP YP l.row.toRowW d [] (λf vs=>PySem.call f vs) :=
 JDj (K:=K) (CX:=λ_=>CX) (sp:=λw=>sp (K w.params)) hn Dm hdf hr hY F (λw H a ns h1 h2 h3=>D6 (K w.params) H a ns h1 h2 h3) λ_ H s e s'=>hCX H s e s'
noncomputable def lP (s:AN)(j:Nat):AN:=match s with
 |.ClassDef _ _ _ body _ _ _ _ _ _ _=>body.getD j (.Pass {0,0,0,0})
 |_=>.Pass {0,0,0,0}
noncomputable def jC (s:AN):Arguments:=match s with
 |.FunctionDef _ a _ _ _ _ _ _ _ _=>a
 |_=>{posonlyargs:=[],args:=[],vararg:=none,kwonlyargs:=[],kw_defaults:=[],kwarg:=none,defaults:=[]}
noncomputable def b4 (s:AN):Tn:=match s with
 |.FunctionDef _ _ b _ _ _ _ _ _ _=>b
 |_=>[]
noncomputable def aj (s:AN):Scope:=match s with
 |.FunctionDef _ _ _ _ _ _ sc _ _ _=>sc
 |_=>{kind:=.function,names:=[],isGenerator:=false,isCoroutine:=false}
abbrev oh:ze:=λ_ _ _ _ _ _=>False
abbrev JDc:XK:=λ_ _ _=>False
def wO:l6 oh X JDc:=λ_ _ _ _ _ _ _ h=>h.elim
structure pz (K:AJ)(x qual:Str)(st:Stmt)(f:Addr)(fd:FuncData):Prop where
 ex:∃(oc:Value) (od:Option Addr) (kV doc pm:Value) (an:Option Addr) (AP ct:Value) (Dj:Array (Ti)),
  fd=PySem.W.fnOf x qual (jC st) (b4 st) (aj st) .none kV doc pm an AP ct/\K.lookup f=some {oc,od,.func fd,Dj}/\PySem.W.codeIn K AP qual=true
 kp:PySem.W.keepIn K (.ref f)=true
section
variable {P:A7}{w:AF}{K:AJ}{mg:Te}{base:AG}
def pz.ok {x qual:Str}{st:AN}{f:A4}{fd:FuncData}{N ps:To}{k:Nat}{sp:Sp}(F:pz K x qual st f fd)(S:aK N ps (aj st))(len:∀vs H Q E,sp vs H Q E->vs.length=ps.length)
  (AR:∀(AP:A6) (A:AI) (outer:A0 Env) (s:A2) (H:Hp) (vs:A0 V) (Q:VK) (E:XK),cr k (A.deeper (envOfC qual (aj st) s.heap.objs.size f AP))->sp vs H Q E ->
   ∃t,qF (gR oh P w K mg base N qual (aj st) f AP A outer s H E).nox (b4 st) t/\t {nx:=λ_ H'=>Q .non H',rt:=Q} (jh N vs) H):dF P w K mg base oh (k+1) f fd ps sp:=by
 let⟨oc,od,kV,doc,pm,an,AP,ct,Dj,rfl,lk,Bp⟩:=F.ex;refine Ef lk Bp S len λA outer s H vs Q E hr D6=>?_;let⟨t,h,q⟩:=AR AP A outer s H vs Q E hr D6;exact{t,h.nox,q}
def pz.binds {x qual:Str}{st:AN}{f:A4}{fd:FuncData}{ps:To}(F:pz K x qual st f fd)
  (h:∀(kV doc pm:A6) (an:UO A4) (AP ct:A6) (us:Tf),us.length=ps.length->bindArgs (PySem.W.fnOf x qual (jC st) (b4 st) (aj st) .none kV doc pm an AP ct) {us,[]}=pure (ps.zip us)):fH K fd ps []:=by
 let⟨oc,od,kV,doc,pm,an,AP,ct,Dj,rfl,lk,Bp⟩:=F.ex;exact .all (h kV doc pm an AP ct)
def yN {x qual:Str}{st:AN}{f:A4}{oc:A6}{od an:UO A4}{Dj:AW (Ti)}{kV doc pm AP ct:A6}(l:K.lookup f=some {oc,od,.func (PySem.W.fnOf x qual (jC st) (b4 st) (aj st) .none kV doc pm an AP ct),Dj})
  (c:PySem.W.codeIn K AP qual=true) (k:PySem.W.keepIn K (.ref f)=true):pz K x qual st f (PySem.W.fnOf x qual (jC st) (b4 st) (aj st) .none kV doc pm an AP ct):={{oc,od,kV,doc,pm,an,AP,ct,Dj,rfl,l,c},k}
end
end L2
namespace HS
def JF (t:SetTable):Prop:=t.plain=true->t.place.toList.Pairwise (·<·)
open PyProof.Rows
noncomputable def val (e:Int×A6):Int:=match e.2 with|.int n _=>n|_=>0
def Vb (e:Int×A6):Prop:=∃n t,e=(hashInt n,.int n t)
structure Qk (led:Bool)(es:Array (Int×Value))(t:SetTable)(xs:Tj):Prop where
 el:∀e∈es.toList,Vb e
 pm:(es.toList.map val).Perm xs
 nd:xs.Nodup
 bd:es.size<scanBound
 ft:t.fits es.size=true
 rs:JF t
 ld:t.led=led
structure Ts (led:Bool)(es:Array (Int×Value))(t:SetTable):Prop where
 bd:es.size<scanBound
 ft:t.fits es.size=true
 rs:JF t
 ld:t.led=led
def Tu (led:A9)(o:Obj)(xs:Tj):Prop:=∃es ep t,o.ExactSet/\o.data=.set es ep t/\Qk led es t xs
section
variable {prog:A7}{w:AF}{A:AI}{E:Tc}{s:A2}
noncomputable def UW (xs:Tj)(k:Int):Tj:=if k∈xs then xs else xs++[k]
def mM {a:A4}{o:Obj}{es Bz:AW (Int×A6)}{ep:Nat}{t t':SetTable}{Q:Unit->A2->Prop}(ho:s.heap.get? a=some o)(hx:o.ExactSet)(hd:o.data=.set es ep t)
  (hb:Bz.size<scanBound)
  (h:∀h',Heap.SameBut a s.heap h'->h'.get? a=some {o with data:=.set Bz (ep+1) t'}->Q () {s with heap:=h'}):wpAny (model prog w) A (storeSet a Bz t') Q E s:=by
 refine wpAny_storeSet_of ho hd (h _ (Heap.SameBut.update s.heap a _) ?_) (fits_of_scanBound hb);have q:=Heap.get?_update_self (Obj.putSet Bz t') ho (by rw[putSet_of Bz t' hd];rfl)
 (rw[putSet_of Bz t' hd] at q;assumption)
end
variable  {prog:A7}{w:AF}
noncomputable def O7:A0 Nat:=[7,15,31,63,127,255]
section
structure Tz (h:Heap)(v key val:Value):Prop where
 ex:∃a o c,v=.ref a/\h.get? a=some o/\o.cls=.type "tuple"/\o.data=.seq #[key,val] c
noncomputable def putAll {K:Type}[DecidableEq K](kvs:A0 (K×A6))(ps:A0 (K×A6)):A0 (K×A6):=ps.foldl (λa p=>stored a p.1 p.2) kvs
end
end HS
namespace L2
open PyProof.Rows
def pZ (H:Hp)(q:Str)(ps:Tk):Prop:=TriplesOk ps.toList/\∀pos cv,codeAmong pos ps.toList=some cv->∃c' oc vs t,cv=.ref c'/\H c'=some (.frz oc (.ext λ_=>True))/\oc.data=.fields vs/\vs[1]?=some (.str q t)
def pZ.mono {H H':Hp}{q:Str}{ps:Tk}(g:pZ H q ps)(k:∀b o u,H b=some (.frz o u)->H' b=some (.frz o u)):pZ H' q ps :=
 {g.1,λpos cv e=>let ⟨c',oc,vs,t,e1,e2,r⟩:=g.2 pos cv e;{c',oc,vs,t,e1,k _ _ _ e2,r}}
structure ER (x:Str)(caps:To)(sc:Scope)(cl:List (Str×Addr)):Prop where
 kind:sc.kind=.function
 co:sc.isCoroutine=false
 gen:sc.isGenerator=false
 nd:(x::caps).Nodup
 par:sc.names.lookup x=some .local
 nocell:∀y∈sc.names,y.2≠.cell
 free:∀y,sc.names.lookup y=some .free->∃c,cl.lookup y=some c
 inj:∀y z c,cl.lookup y=some c->cl.lookup z=some c->y=z
end L2
namespace HW
open L2
inductive D where
 |non|bl (b:Bool)|int (i:Int)|str (x:Str)
 |tup (xs:List D)|fl (xs:List D)|fd (ks:List cQ) (ds:List D)|key (ks:Tj)
structure Qp where
 qual:Str
 params:Arguments
 body:Expr
 scope:Scope
 x:Str
 caps:To
inductive R where
 |v (d:D)|p (n:Nat)|s (b:Bool) (xs:Tj)|x (c:Str)|f (L:Qp) (ds:List D)
inductive et where
 |lst (xs:List D)|fz (xs:List D)|dct (kvs:List (cQ×D))|fzd (kvs:List (cQ×D))|dr (kvs:List (cQ×R))|lr (xs:List R)|dt (kvs:List (Tj×D))|tb (P:Nat) (q:Str)|ob (c:Str) (fs:List (Str×R))|tr (xs:List R)|fzr (kvs:List (cQ×R))|dtr (kvs:List (Tj×R))|fzt (kvs:List (Tj×D))|hk (kvs:List (cQ×D))
abbrev ah:=A0 et
abbrev Lo:=A0 (UO R)
abbrev FE:=Lo->ah->UO (R×ah)
abbrev FT:=Lo->ah->UO (A9×ah)
abbrev FA:=Lo->ah->UO (A0 R×ah)
inductive oP where
 |nx (O:Lo) (U:ah)|rt (d:R) (U:ah)|bk (O:Lo) (U:ah)|ct (O:Lo) (U:ah)
abbrev FS:=Lo->ah->UO oP
def MY (K:AJ)(H:Hp)(a:A4)(vs:A0 V):Prop:=(∃o,H a=some (.frz o (.lst vs)))\/nK K (λ_=>none) a vs
mutual
def au (K:AJ)(H:Hp):D->V->Prop
 |.non,v=>v=.non
 |.bl b,v=>v=.bl b
 |.int i,v=>v=.int i
 |.str x,v=>v=.str x
 |.tup xs,v=>∃a vs,v=.ref a/\oa K H a vs/\RelDs K H xs vs
 |.fl xs,v=>∃a vs,v=.ref a/\MY K H a vs/\RelDs K H xs vs
 |.fd ks ds,v=>∃a o es,v=.ref a/\H a=some (.frz o (.dK es))/\es.map (·.1)=ks/\RelDs K H ds (es.map (·.2))
 |.key ks,v=>∃a,v=.ref a/\H a=some (.tup (ks.map V.int))
def RelDs (K:AJ)(H:Hp):A0 D->A0 V->Prop
 |[],vs=>vs=[]
 |x::xs,vs=>∃v r,vs=v::r/\au K H x v/\RelDs K H xs r
end
structure Hx (K:AJ)(H:Hp)(L:Qp)(ds:List D)(a:Addr)(cl:List (Str×Addr))(pm Ec:Value)(c':Addr):Prop where
 fn:H a=some (.frz (PySem.W.kla_obj "<lambda>" L.qual L.params L.body L.scope cl pm c' Ec) (.ext λ_=>True))
 code:∃oc vs t,H c'=some (.frz oc (.ext λ_=>True))/\oc.data=.fields vs/\vs[1]?=some (.str L.qual t)
 len:ds.length=L.caps.length
 cell:∀y c,cl.lookup y=some c->∃z o,H c=some (.frz o (.ext λ_=>True))/\o.data=.cell z
 cap:∀(i:Nat) y d,L.caps[i]?=some y->ds[i]?=some d->∃c o u vy,L.scope.names.lookup y=some .free/\cl.lookup y=some c/\H c=some (.frz o (.ext λ_=>True))/\o.data=.cell (some u)/\bQ vy u/\au K H d vy
 sc:ER L.x L.caps L.scope cl
def ay (K:AJ)(m:Tg)(H:Hp):R->V->Prop
 |.v d,v=>au K H d v
 |.p n,v=>∃a,v=.ref a/\m[n]?=some a
 |.s b xs,v=>∃a o,v=.ref a/\H a=some (.frz o (.ext λ_=>True))/\HS.Tu b o xs
 |.x c,v=>∃a vs C,v=.ref a/\H a=some (.frz {cls:=.ref C,dict:=none,data:=.fields vs,slots:=#[]} (.ext λ_=>True))/\PySem.W.nsIn K mainGlobals c=some (some (.ref C))
 |.f L ds,v=>∃a cl pm Ec c',v=.ref a/\Hx K H L ds a cl pm Ec c'
def bU (K:AJ)(m:Tg)(H:Hp):A0 R->A0 V->Prop
 |[],vs=>vs=[]
 |x::xs,vs=>∃v r,vs=v::r/\ay K m H x v/\bU K m H xs r
def mv (K:AJ)(m:Tg)(H:Hp):et->A4->Prop
 |.lst xs,a=>∃vs,H a=some (.lst vs)/\RelDs K H xs vs
 |.fz xs,a=>∃o vs,H a=some (.frz o (.lst vs))/\RelDs K H xs vs
 |.dct kvs,a=>∃es,H a=some (.dK es)/\es.map (·.1)=kvs.map (·.1)/\RelDs K H (kvs.map (·.2)) (es.map (·.2))
 |.fzd kvs,a=>∃o es,H a=some (.frz o (.dK es))/\es.map (·.1)=kvs.map (·.1)/\RelDs K H (kvs.map (·.2)) (es.map (·.2))
 |.dr kvs,a=>∃es,H a=some (.dK es)/\es.map (·.1)=kvs.map (·.1)/\bU K m H (kvs.map (·.2)) (es.map (·.2))
 |.lr xs,a=>∃vs,H a=some (.lst vs)/\bU K m H xs vs
 |.tb P q,a=>a=P/\∃ps,H P=some (.tbl ps)/\pZ H q ps
 |.ob c fs,a=>∃C dx es,PySem.W.nsIn K mainGlobals c=some (some (.ref C))/\H a=some (.ins C dx es)/\es.map (·.1)=fs.map (·.1)/\bU K m H (fs.map (·.2)) (es.map (·.2))
 |.tr xs,a=>∃vs,H a=some (.tup vs)/\bU K m H xs vs
 |.fzr kvs,a=>∃o es,H a=some (.frz o (.dK es))/\es.map (·.1)=kvs.map (·.1)/\bU K m H (kvs.map (·.2)) (es.map (·.2))
 |.dtr kvs,a=>∃es,H a=some (.dT es)/\es.map (·.1)=kvs.map (λp=>p.1.map Sum.inl)/\bU K m H (kvs.map (·.2)) (es.map (·.2))
 |.dt kvs,a=>∃es,H a=some (.dT es)/\es.map (·.1)=kvs.map (λp=>p.1.map Sum.inl)/\RelDs K H (kvs.map (·.2)) (es.map (·.2))
 |.fzt kvs,a=>∃o es,H a=some (.frz o (.dT es))/\es.map (·.1)=kvs.map (λp=>p.1.map Sum.inl)/\RelDs K H (kvs.map (·.2)) (es.map (·.2))
 |.hk kvs,a=>∃o es,H a=some (.frz o (.frz o (.dK es)))/\es.map (·.1)=kvs.map (·.1)/\RelDs K H (kvs.map (·.2)) (es.map (·.2))
structure bz (K:AJ)(m:Tg)(H:Hp)(U:ah):Prop where
 nd:m.Nodup
 len:m.length=U.length
 cell:∀(i:Nat) c a,U[i]?=some c->m[i]?=some a->mv K m H c a
structure TF (H H':Hp):Prop where
 tup:∀a xs,H a=some (.tup xs)->H' a=some (.tup xs)
 frz:∀a o u,H a=some (.frz o u)->H' a=some (.frz o u)
structure fM (m:Tg)(H:Hp)(m':Tg)(H':Hp):Prop where
 ext:∃e,m'=m++e/\∀a∈e,H a=none
 tf:TF H H'
 keep:∀a o,H a=some o->a∉m->H' a=some o
 live:∀a,H' a=none->H a=none
def eI (K:AJ)(m:Tg)(H:Hp)(O:Lo)(Y:St):Prop :=
 O.length=Y.length/\∀(i:Nat) d,O[i]?=some (some d)->∃v,Y[i]?=some (some v)/\ay K m H d v
section
variable {K:AJ}{H H' H1 H2:Hp}
def TF.refl:TF H H:={λ_ _ h=>h,λ_ _ _ h=>h}
def TF.trans (a:TF H H1)(b:TF H1 H2):TF H H2:={λ_ _ h=>b.tup _ _ (a.tup _ _ h),λ_ _ _ h=>b.frz _ _ _ (a.frz _ _ _ h)}
def TF.of (h:∀a o,H a=some o->H' a=some o):TF H H':={λ_ _ e=>h _ _ e,λ_ _ _ e=>h _ _ e}
def oa.tf {a vs}(t:TF H H')(h:oa K H a vs):oa K H' a vs:=by
 rcases h with(h|⟨o,h⟩)|h
 ·exact .inl (.inl (t.tup _ _ h))
 ·exact .inl (.inr {o,t.frz _ _ _ h})
 ·exact .inr h
def MY.tf {a vs}(t:TF H H')(h:MY K H a vs):MY K H' a vs:=by
 rcases h with⟨o,h⟩|h
 ·exact .inl {o,t.frz _ _ _ h}
 ·exact .inr h
def MY.sq {a vs}(h:MY K H a vs):nK K H a vs:=by
 rcases h with⟨o,h⟩|(h|⟨_,h⟩)|h
 ·exact .inl (.inr {o,h})
 ·cases h
 ·cases h
 ·exact .inr h
mutual
theorem au.tf (t:TF H H'):∀(d:D) (v:V),au K H d v->au K H' d v
 |.non,_,h=>by simpa only[au] using h
 |.bl _,_,h=>by simpa only[au] using h
 |.int _,_,h=>by simpa only[au] using h
 |.str _,_,h=>by simpa only[au] using h
 |.tup xs,v,h=>by rwa[au] at h ⊢;let⟨a,vs,e,s,r⟩:=h;exact{a,vs,e,oa.tf t s,RelDs.tf t xs vs r}
 |.fl xs,v,h=>by rwa[au] at h ⊢;let⟨a,vs,e,s,r⟩:=h;exact{a,vs,e,s.tf t,RelDs.tf t xs vs r}
 |.fd ks ds,v,h=>by rwa[au] at h ⊢;let⟨a,o,es,e,s,k,r⟩:=h;exact{a,o,es,e,t.frz _ _ _ s,k,RelDs.tf t ds _ r}
 |.key ks,v,h=>by rwa[au] at h ⊢;let⟨a,e,q⟩:=h;exact{a,e,t.tup _ _ q}
theorem RelDs.tf (t:TF H H'):∀(ds:A0 D) (vs:A0 V),RelDs K H ds vs->RelDs K H' ds vs
 |[],_,h=>by simpa only[RelDs] using h
 |d::ds,vs,h=>by rwa[RelDs] at h ⊢;let⟨v,r,e,h1,h2⟩:=h;exact{v,r,e,au.tf t d v h1,RelDs.tf t ds r h2}
end
def Hx.tf {L ds a cl pm Ec c'}(t:TF H H')(h:Hx K H L ds a cl pm Ec c'):Hx K H' L ds a cl pm Ec c':=by
 refine{t.frz _ _ _ h.fn,?_,h.len,λy c e=>?_,λi y d e1 e2=>?_,h.sc}
 ·let⟨oc,vs,u,e,r⟩:=h.code;exact{oc,vs,u,t.frz _ _ _ e,r}
 ·let⟨z,o,q,r⟩:=h.cell y c e;exact{z,o,t.frz _ _ _ q,r}
 ·let⟨c,o,u,vy,k1,k2,k3,k4,k5,k6⟩:=h.cap i y d e1 e2;exact{c,o,u,vy,k1,k2,t.frz _ _ _ k3,k4,k5,au.tf t _ _ k6}
def fM.refl:fM m H m H:={{[],by simp},.refl,λ_ _ h _=>h,λ_ h=>h}
def fM.trans (x:fM m H m1 H1)(y:fM m1 H1 m2 H2):fM m H m2 H2:=by
 let⟨e1,rfl,f1⟩:=x.ext;let⟨e2,rfl,f2⟩:=y.ext;refine{{e1++e2,by simp,λa ha=>?_},x.tf.trans y.tf,λa o h n=>?_,λa h=>x.live a (y.live a h)}
 ·rcases C2.mp ha with h|h
  ·exact f1 a h
  ·exact x.live a (f2 a h)
 ·refine y.keep a o (x.keep a o h n) λz=>?_;rcases C2.mp z with z|z
  ·exact n z
  ·rw[f1 a z] at h;cases h
theorem ay.ext (x:fM m H m' H'){d:R}{v:V}(h:ay K m H d v):ay K m' H' d v:=by
 cases d with
 |v d=>exact au.tf x.tf d v h
 |p n=>
  let⟨a,e,q⟩:=h;let⟨e1,rfl,_⟩:=x.ext;refine{a,e,?_};let⟨hl,hq⟩:=Bn.mp q;rw[C0 hl];exact q
 |s b xs=>
  let⟨a,o,e,q,r⟩:=h;exact{a,o,e,x.tf.frz _ _ _ q,r}
 |x c=>
  let⟨a,vs,C,e,q,r⟩:=h;exact{a,vs,C,e,x.tf.frz _ _ _ q,r}
 |f L ds=>
  let⟨a,cl,pm,Ec,c',e,q⟩:=h;exact{a,cl,pm,Ec,c',e,q.tf x.tf}
theorem bU.ext (x:fM m H m' H'):∀{ds:A0 R} {vs:A0 V},bU K m H ds vs->bU K m' H' ds vs
 |[],_,h=>h
 |_::_,_,⟨v,r,e,h1,h2⟩=>{v,r,e,h1.ext x,bU.ext x h2}
def eI.ext (x:fM m H m' H')(h:eI K m H O Y):eI K m' H' O Y :=
 {h.1,λi d e=>let ⟨v,q,r⟩:=h.2 i d e;{v,q,r.ext x}}
theorem ay.tfm (t:TF H H')(y:∃e,m'=m++e){d:R}{v:V}(h:ay K m H d v):ay K m' H' d v:=by
 cases d with
 |v d=>exact au.tf t d v h
 |p n=>
  let⟨a,e,q⟩:=h;let⟨e1,rfl⟩:=y;refine{a,e,?_};let⟨hl,hq⟩:=Bn.mp q;rw[C0 hl];exact q
 |s b xs=>
  let⟨a,o,e,q,r⟩:=h;exact{a,o,e,t.frz _ _ _ q,r}
 |x c=>
  let⟨a,vs,C,e,q,r⟩:=h;exact{a,vs,C,e,t.frz _ _ _ q,r}
 |f L ds=>
  let⟨a,cl,pm,Ec,c',e,q⟩:=h;exact{a,cl,pm,Ec,c',e,q.tf t}
theorem bU.tfm (t:TF H H')(y:∃e,m'=m++e):∀{ds:A0 R} {vs:A0 V},bU K m H ds vs->bU K m' H' ds vs
 |[],_,h=>h
 |_::_,_,⟨v,r,e,h1,h2⟩=>{v,r,e,h1.tfm t y,bU.tfm t y h2}
theorem mv.same (s:∀a o,H a=some o->H' a=some o)(y:∃e,m'=m++e){c:et}{a:A4}(h:mv K m H c a):mv K m' H' c a:=by
 cases c with
 |lst xs=>let⟨vs,e,r⟩:=h;exact{vs,s _ _ e,RelDs.tf (.of s) _ _ r}
 |fz xs=>let⟨o,vs,e,r⟩:=h;exact{o,vs,s _ _ e,RelDs.tf (.of s) _ _ r}
 |dct kvs=>let⟨es,e,k,r⟩:=h;exact{es,s _ _ e,k,RelDs.tf (.of s) _ _ r}
 |fzd kvs=>let⟨o,es,e,k,r⟩:=h;exact{o,es,s _ _ e,k,RelDs.tf (.of s) _ _ r}
 |fzt kvs=>let⟨o,es,e,k,r⟩:=h;exact{o,es,s _ _ e,k,RelDs.tf (.of s) _ _ r}
 |hk kvs=>let⟨o,es,e,k,r⟩:=h;exact{o,es,s _ _ e,k,RelDs.tf (.of s) _ _ r}
 |dr kvs=>let⟨es,e,k,r⟩:=h;exact{es,s _ _ e,k,bU.tfm (.of s) y r}
 |lr xs=>let⟨vs,e,r⟩:=h;exact{vs,s _ _ e,bU.tfm (.of s) y r}
 |dt kvs=>let⟨es,e,k,r⟩:=h;exact{es,s _ _ e,k,RelDs.tf (.of s) _ _ r}
 |tb P q=>let⟨e,ps,k,r⟩:=h;exact{e,ps,s _ _ k,r.mono λb o u g=>s _ _ g}
 |ob c fs=>let⟨C,dx,es,n,e,k,r⟩:=h;exact{C,dx,es,n,s _ _ e,k,bU.tfm (.of s) y r}
 |tr xs=>let⟨vs,e,r⟩:=h;exact{vs,s _ _ e,bU.tfm (.of s) y r}
 |fzr kvs=>let⟨o,es,e,k,r⟩:=h;exact{o,es,s _ _ e,k,bU.tfm (.of s) y r}
 |dtr kvs=>let⟨es,e,k,r⟩:=h;exact{es,s _ _ e,k,bU.tfm (.of s) y r}
theorem mv.some {c:et}{a:A4}(h:mv K m H c a):∃o,H a=some o:=by
 cases c with
 |lst xs=>let⟨vs,e,r⟩:=h;exact{_,e}
 |fz xs=>let⟨o,vs,e,r⟩:=h;exact{_,e}
 |dct kvs=>let⟨es,e,k,r⟩:=h;exact{_,e}
 |fzd kvs=>let⟨o,es,e,k,r⟩:=h;exact{_,e}
 |fzt kvs=>let⟨o,es,e,k,r⟩:=h;exact{_,e}
 |hk kvs=>let⟨o,es,e,k,r⟩:=h;exact{_,e}
 |dr kvs=>let⟨es,e,k,r⟩:=h;exact{_,e}
 |lr xs=>let⟨vs,e,r⟩:=h;exact{_,e}
 |dt kvs=>let⟨es,e,k,r⟩:=h;exact{_,e}
 |tb P q=>let⟨e,ps,k,r⟩:=h;exact{_,e ▸ k}
 |ob c fs=>let⟨C,dx,es,n,e,k,r⟩:=h;exact{_,e}
 |tr xs=>let⟨vs,e,r⟩:=h;exact{_,e}
 |fzr kvs=>let⟨o,es,e,k,r⟩:=h;exact{_,e}
 |dtr kvs=>let⟨es,e,k,r⟩:=h;exact{_,e}
def bz.same (h:bz K m H U)(s:∀a o,H a=some o->H' a=some o):bz K m H' U :=
 {h.nd,h.len,λi c a e1 e2=>(h.cell i c a e1 e2).same s {[],by simp}}
def bz.mem (h:bz K m H U){a:A4}(ha:a∈m):∃o,H a=some o:=by
 let⟨i,hi,e⟩:=List.getElem_of_mem ha;have Dk:i<U.length:=by rw[←h.len];exact hi
 exact(h.cell i U[i] a (EF Dk) (by rw[←e];exact EF hi)).some
def bz.fresh (h:bz K m H U){p:A4}(hp:H p=none):p∉m:=λz=>by let⟨o,e⟩:=h.mem z;rw[hp] at e;cases e
def bz.nil:bz K [] H []:={.nil,rfl,λi c a e=>by simp at e}
def eg {p:A4}{o:HO}(hp:H p=none):∀a u,H a=some u->upd H p o a=some u:=λa u e=>by unfold upd;rw[AE (λz=>by rw[z,hp] at e;cases e)];exact e
def rM {p:A4}{o:HO}{a:A4}(h:upd H p o a=none):H a=none:=by
 unfold upd at h;split at h
 ·cases h
 ·exact h
def eS {p:A4}{o:HO}:upd H p o p=some o:=by unfold upd;rw[A8 rfl]
def fM.new {p:A4}{o:HO}(hp:H p=none):fM m H m (upd H p o) :=
 {{[],by simp},.of (eg hp),λa u e _=>eg hp a u e,λ_ h=>rM h}
def fM.newH {p:A4}{o:HO}(hp:H p=none):fM m H (m++[p]) (upd H p o) :=
 {{[p],rfl,λa h=>by rw[Bi.mp h];exact hp},.of (eg hp),λa u e _=>eg hp a u e,λ_ h=>rM h}
def bz.newH {p:A4}{o:HO}{c:et}(h:bz K m H U)(hp:H p=none)(hc:mv K (m++[p]) (upd H p o) c p):bz K (m++[p]) (upd H p o) (U++[c]):=by
 refine{?_,by simp[h.len],λi c' a e1 e2=>?_}
 ·refine List.nodup_append.mpr {h.nd,by simp,λa ha b hb=>?_};rw[Bi.mp hb];rintro rfl;exact h.fresh hp ha
 ·by_cases hi:i<m.length
  ·rw[C0 hi] at e2;rw[C0 (by rw[←h.len];exact hi)] at e1;exact(h.cell i c' a e1 e2).same (eg hp) {[p],rfl}
  ·rw[Dw ∅] at e2;rw[Dw (by have:=h.len;omega)] at e1;have hl:=h.len;have:i-m.length=0:=by
    cases q:i-m.length with
    |zero=>rfl
    |succ k=>rw[q] at e2;simp at e2
   have e3:i-U.length=0:=∅;rw[this] at e2;rw[e3] at e1;simp at e1 e2;subst e1 e2;exact hc
def fM.put {a:A4}{o o':HO}(ha:a∈m)(e:H a=some o)(ho:∀xs,o≠.tup xs)(hf:∀x u,o≠.frz x u):fM m H m (upd H a o'):=by
 have ne:∀b u,H b=some u->u≠o->b≠a:=λb u q n z=>by rw[z,e] at q;exact n (Option.some.inj q).symm
 refine{{[],by simp},{λb xs q=>?_,λb x u q=>?_},λb u q n=>?_,λb h=>rM h}
 ·unfold upd;rw[AE (ne b _ q λz=>ho xs z.symm)];exact q
 ·unfold upd;rw[AE (ne b _ q λz=>hf x u z.symm)];exact q
 ·unfold upd;rw[AE (λz:b=a=>n (by rw[z];exact ha))];exact q
def bz.put {n:Nat}{a:A4}{o o':HO}{c:et}(h:bz K m H U)(hn:m[n]?=some a)(e:H a=some o)(ho:∀xs,o≠.tup xs)(hf:∀x u,o≠.frz x u)(hc:mv K m (upd H a o') c a):bz K m (upd H a o') (U.set n c):=by
 have ha:a∈m:=DE hn;have x:fM m H m (upd H a o'):=.put ha e ho hf;refine{h.nd,by simp[h.len],λi c' b e1 e2=>?_};by_cases hi:i=n
 ·subst hi;rw[hn] at e2;cases e2;rw[DZ (by have:=(Bn.mp hn).1;have:=h.len;omega)] at e1;cases e1;exact hc
 ·rw[Ej (Ne.symm hi)] at e1;have nb:b≠a:=by rintro rfl;let⟨h1,q1⟩:=Bn.mp e2;let⟨h2,q2⟩:=Bn.mp hn;exact hi ((List.getElem_inj h.nd).mp (q1.trans q2.symm))
  have at':∀u,H b=some u->upd H a o' b=some u:=λu q=>by unfold upd;rw[AE nb];exact q
  have z:=h.cell i c' b e1 e2
  cases c' with
  |lst xs=>let⟨vs,e,r⟩:=z;exact{vs,at' _ e,RelDs.tf x.tf _ _ r}
  |fz xs=>let⟨o,vs,e,r⟩:=z;exact{o,vs,at' _ e,RelDs.tf x.tf _ _ r}
  |dct kvs=>let⟨es,e,k,r⟩:=z;exact{es,at' _ e,k,RelDs.tf x.tf _ _ r}
  |fzd kvs=>let⟨o,es,e,k,r⟩:=z;exact{o,es,at' _ e,k,RelDs.tf x.tf _ _ r}
  |fzt kvs=>let⟨o,es,e,k,r⟩:=z;exact{o,es,at' _ e,k,RelDs.tf x.tf _ _ r}
  |hk kvs=>let⟨o,es,e,k,r⟩:=z;exact{o,es,at' _ e,k,RelDs.tf x.tf _ _ r}
  |dr kvs=>let⟨es,e,k,r⟩:=z;exact{es,at' _ e,k,bU.tfm x.tf {[],by simp} r}
  |lr xs=>let⟨vs,e,r⟩:=z;exact{vs,at' _ e,bU.tfm x.tf {[],by simp} r}
  |dt kvs=>let⟨es,e,k,r⟩:=z;exact{es,at' _ e,k,RelDs.tf x.tf _ _ r}
  |tb P q=>let⟨e,ps,k,r⟩:=z;subst e;exact{rfl,ps,at' _ k,r.mono x.tf.frz}
  |ob c fs=>let⟨C,dx,es,n,e,k,r⟩:=z;exact{C,dx,es,n,at' _ e,k,bU.tfm x.tf {[],by simp} r}
  |tr xs=>let⟨vs,e,r⟩:=z;exact{vs,at' _ e,bU.tfm x.tf {[],by simp} r}
  |fzr kvs=>let⟨o,es,e,k,r⟩:=z;exact{o,es,at' _ e,k,bU.tfm x.tf {[],by simp} r}
  |dtr kvs=>let⟨es,e,k,r⟩:=z;exact{es,at' _ e,k,bU.tfm x.tf {[],by simp} r}
end
def aN (K:AJ)(f:FE):TE:=λY H Q=>∃O U m d U',eI K m H O Y/\bz K m H U/\f O U=some (d,U') /\
 ∀v H' m',fM m H m' H'->bz K m' H' U'->ay K m' H' d v->Q v H'
def iP (K:AJ)(f:FT):TT:=λY H Q=>∃O U m b U',eI K m H O Y/\bz K m H U/\f O U=some (b,U') /\
 ∀H' m',fM m H m' H'->bz K m' H' U'->Q b H'
def js (K:AJ)(f:FA):TA:=λY H Q=>∃O U m ds U',eI K m H O Y/\bz K m H U/\f O U=some (ds,U') /\
 ∀vs H' m',fM m H m' H'->bz K m' H' U'->bU K m' H' ds vs->Q vs H'
def jp.of (K:AJ)(m:Tg)(H:Hp)(D:jp):oP->Prop
 |.nx O U=>∀Y H' m',fM m H m' H'->bz K m' H' U->eI K m' H' O Y->D.nx Y H'
 |.bk O U=>∀Y H' m',fM m H m' H'->bz K m' H' U->eI K m' H' O Y->D.bk Y H'
 |.ct O U=>∀Y H' m',fM m H m' H'->bz K m' H' U->eI K m' H' O Y->D.ct Y H'
 |.rt d U=>∀v H' m',fM m H m' H'->bz K m' H' U->ay K m' H' d v->D.rt v H'
def gL (K:AJ)(f:FS):TS:=λD Y H=>∃O U m out,eI K m H O Y/\bz K m H U/\f O U=some out/\jp.of K m H D out
noncomputable def af (i:Nat):FE:=λO U=>match O[i]? with|some (some d)=>some (d,U)|_=>none
noncomputable def fK (d:D):FE:=λ_ U=>some (.v d,U)
noncomputable def ax (g:R->R->ah->UO (R×ah))(fa fb:FE):FE:=λO U=>(fa O U).bind λa=>(fb O a.2).bind λb=>g a.1 b.1 b.2
noncomputable def fT (g:R->ah->UO (R×ah))(fa:FE):FE:=λO U=>(fa O U).bind λa=>g a.1 a.2
def px (K:AJ)(g:R->R->ah->UO (R×ah))(r:R2):Prop :=
 ∀m H U x y d U' v u Q,bz K m H U->ay K m H x v->ay K m H y u->g x y U=some (d,U')->(∀w H' m',fM m H m' H'->bz K m' H' U'->ay K m' H' d w->Q w H')->r v u H Q
def UN (K:AJ)(g:R->ah->UO (R×ah))(r:V->Hp->VK->Prop):Prop :=
 ∀m H U x d U' v Q,bz K m H U->ay K m H x v->g x U=some (d,U')->(∀w H' m',fM m H m' H'->bz K m' H' U'->ay K m' H' d w->Q w H')->r v H Q
def EZ (K:AJ)(g:A0 R->ah->UO (R×ah))(r:A0 V->Hp->VK->Prop):Prop :=
 ∀m H U xs d U' vs Q,bz K m H U->bU K m H xs vs->g xs U=some (d,U')->(∀w H' m',fM m H m' H'->bz K m' H' U'->ay K m' H' d w->Q w H')->r vs H Q
noncomputable def ai:FA:=λ_ U=>some ([],U)
noncomputable def ac (fa:FE)(fr:FA):FA:=λO U=>(fa O U).bind λa=>(fr O a.2).bind λr=>some (a.1::r.1,r.2)
noncomputable def fF (g:A0 R->ah->UO (R×ah))(fa:FA):FE:=λO U=>(fa O U).bind λa=>g a.1 a.2
section
variable {K:AJ}{Y:St}{H:Hp}{Q:VK}
def Kq {i:Nat}(h:aN K (af i) Y H Q):xU i Y H Q:=by
 let⟨O,U,m,d,U',hl,hs,e,k⟩:=h;unfold af at e;split at e
 ·rename_i d' q
  cases e;let⟨v,q1,q2⟩:=hl.2 i _ q;exact{v,q1,k v H m .refl hs q2}
 ·cases e
def m8 {d:D}{v:V}(hv:∀m H,ay K m H (.v d) v)(h:aN K (fK d) Y H Q):tC v Y H Q:=by let⟨O,U,m,d',U',hl,hs,e,k⟩:=h;cases e;exact k v H m .refl hs (hv _ _)
def jU {g r fa fb}(hg:px K g r)(h:aN K (ax g fa fb) Y H Q):J7 r (aN K fa) (aN K fb) Y H Q:=by let⟨O,U,m,d,U',hl,hs,e,k⟩:=h;let⟨⟨x,U1⟩,e1,e⟩:=AO.mp e;let⟨⟨y,U2⟩,e2,e⟩:=AO.mp e;refine{O,U,m,x,U1,hl,hs,e1,λv H1 m1 x1 s1 r1=>?_};refine{O,U1,m1,y,U2,hl.ext x1,s1,e2,λu H2 m2 x2 s2 r2=>?_};exact hg m2 H2 U2 x y d U' v u Q s2 (r1.ext x2) r2 e λw H3 m3 x3 s3 r3=>k w H3 m3 ((x1.trans x2).trans x3) s3 r3
def N8 {g r fa}(hg:UN K g r)(h:aN K (fT g fa) Y H Q):TX r (aN K fa) Y H Q:=by let⟨O,U,m,d,U',hl,hs,e,k⟩:=h;let⟨⟨x,U1⟩,e1,e⟩:=AO.mp e;refine{O,U,m,x,U1,hl,hs,e1,λv H1 m1 x1 s1 r1=>?_};exact hg m1 H1 U1 x d U' v Q s1 r1 e λw H3 m3 x3 s3 r3=>k w H3 m3 (x1.trans x3) s3 r3
def C1 {Q:A0 V->Hp->Prop}(h:js K ai Y H Q):u5 Y H Q:=by let⟨O,U,m,ds,U',hl,hs,e,k⟩:=h;cases e;exact k [] H m .refl hs rfl
def JEb {fa fr}{Q:A0 V->Hp->Prop}(h:js K (ac fa fr) Y H Q):mL (aN K fa) (js K fr) Y H Q:=by let⟨O,U,m,ds,U',hl,hs,e,k⟩:=h;let⟨⟨x,U1⟩,e1,e⟩:=AO.mp e;let⟨⟨xs,U2⟩,e2,e⟩:=AO.mp e;cases e;refine{O,U,m,x,U1,hl,hs,e1,λv H1 m1 x1 s1 r1=>?_};refine{O,U1,m1,xs,U2,hl.ext x1,s1,e2,λvs H2 m2 x2 s2 r2=>?_};exact k (v::vs) H2 m2 (x1.trans x2) s2 {v,vs,rfl,r1.ext x2,r2}
def pI {g r fa}(hg:EZ K g r)(h:aN K (fF g fa) Y H Q):M2 r (js K fa) Y H Q:=by let⟨O,U,m,d,U',hl,hs,e,k⟩:=h;let⟨⟨xs,U1⟩,e1,e⟩:=AO.mp e;refine{O,U,m,xs,U1,hl,hs,e1,λvs H1 m1 x1 s1 r1=>?_};exact hg m1 H1 U1 xs d U' vs Q s1 r1 e λw H3 m3 x3 s3 r3=>k w H3 m3 (x1.trans x3) s3 r3
end
noncomputable def fB (fa:FE):FT:=λO U=>(fa O U).bind λa=>match a.1 with|.v (.bl b)=>some (b,a.2)|_=>none
noncomputable def Cd:R->ah->UO A9
 |.v .non,_=>some false
 |.v (.bl b),_=>some b
 |.v (.int i),_=>some (i != 0)
 |.v (.str x),_=>if x.length<=sizeLine then some ((x.length:Int) != 0) else none
 |.v (.tup xs),_=>some (!xs.isEmpty)
 |.v (.fl xs),_=>some (!xs.isEmpty)
 |.v (.fd _ _),_=>none
 |.v (.key _),_=>none
 |.s _ _,_=>none
 |.x _,_=>none
 |.f _ _,_=>none
 |.p n,U=>match U[n]? with|some (.lst xs)=>some (!xs.isEmpty)|some (.fz xs)=>some (!xs.isEmpty)|some (.dct kvs)=>some (!kvs.isEmpty)|_=>none
noncomputable def gQ (fa:FE):FT:=λO U=>(fa O U).bind λa=>(Cd a.1 a.2).bind λb=>some (b,a.2)
noncomputable def jO (t u:FT):FT:=λO U=>(t O U).bind λc=>if c.1=true then u O c.2 else some (false,c.2)
noncomputable def kE (t u:FT):FT:=λO U=>(t O U).bind λc=>if c.1=true then some (true,c.2) else u O c.2
noncomputable def iu (t:FT):FT:=λO U=>(t O U).bind λc=>some (!c.1,c.2)
noncomputable def xt (fa fb:FE):FE:=λO U=>(fa O U).bind λa=>match a.1 with|.v (.bl c)=>if c=true then fb O a.2 else some (.v (.bl false),a.2)|_=>none
noncomputable def G3 (fa:FE):FE:=λO U=>(fa O U).bind λa=>match a.1 with|.v (.bl c)=>some (.v (.bl (!c)),a.2)|_=>none
noncomputable def Am (t:FT)(fa fb:FE):FE:=λO U=>(t O U).bind λc=>if c.1=true then fa O c.2 else fb O c.2
theorem RelDs.length {K:AJ}{H:Hp}:∀{ds:A0 D} {vs:A0 V},RelDs K H ds vs->ds.length=vs.length
 |[],_,h=>by rwa[RelDs] at h;subst h;rfl
 |_::_,_,h=>by rwa[RelDs] at h;let⟨v,r,rfl,_,h2⟩:=h;simp[RelDs.length h2]
def RelDs.empty {K:AJ}{H:Hp}{ds:A0 D}{vs:A0 V}(h:RelDs K H ds vs):ds.isEmpty=vs.isEmpty:=by have:=h.length;cases ds <;> cases vs <;> simp_all
section
variable {K:AJ}{Y:St}{H:Hp}{Q:VK}{B:A9->Hp->Prop}
def Rz {fa}(h:iP K (fB fa) Y H B):tB (aN K fa) Y H B:=by
 let⟨O,U,m,d,U',hl,hs,e,k⟩:=h;let⟨⟨x,U1⟩,e1,e⟩:=AO.mp e;split at e
 ·rename_i b q
  cases e;subst q;exact{O,U,m,_,U1,hl,hs,e1,λv H1 m1 x1 s1 r1=>{_,by simpa only[ay,au] using r1,k H1 m1 x1 s1}}
 ·cases e
def zE {fa}(h:iP K (fB fa) Y H B):Ix (aN K fa) Y H B:=Rz h
theorem xR {m:Tg}{U:ah}{x:R}{b:A9}{v:V}(s:bz K m H U)(r:ay K m H x v)(e:Cd x U=some b):Hu K v H b:=by
 cases x with
 |v d=>
  cases d with
  |non=>cases e;cases r;rfl
  |bl c=>cases e;rwa[ay,au] at r;subst r;rfl
  |int i=>cases e;rwa[ay,au] at r;subst r;rfl
  |str x=>
   rwa[ay,au] at r;subst r
   delta Cd at e
   dsimp only at e;split at e
   ·rename_i z;cases e;exact{z,rfl}
   ·cases e
  |tup xs=>
   cases e;rwa[ay,au] at r;let⟨a,vs,rfl,q,r⟩:=r;exact .inr (.inl {vs,q,by rw[r.empty]})
  |fl xs=>
   cases e;rwa[ay,au] at r;let⟨a,vs,rfl,q,r⟩:=r;exact .inl {vs,q.sq,by rw[r.empty]}
  |fd ks ds=>cases e
  |key ks=>cases e
 |s b xs=>cases e
 |x _=>cases e
 |f _ _=>cases e
 |p n=>
  let⟨a,rfl,ha⟩:=r
  delta Cd at e
  dsimp only at e;split at e
  ·rename_i xs q
   cases e;let⟨vs,e,r⟩:=s.cell n _ a q ha;exact .inl {vs,.inl (.inl e),by rw[r.empty]}
  ·rename_i xs q
   cases e;let⟨o,vs,e,r⟩:=s.cell n _ a q ha;exact .inl {vs,.inl (.inr {o,e}),by rw[r.empty]}
  ·rename_i kvs q
   cases e;let⟨es,e,k,r⟩:=s.cell n _ a q ha;refine .inr (.inr {es,e,?_});have:=AQ List.length k;cases es <;> cases kvs <;> simp_all
  ·cases e
def Ks {fa}(h:iP K (gQ fa) Y H B):(λY H (Q:A9->Hp->Prop)=>aN K fa Y H λx H1=>∃k,Hu K x H1 k/\Q k H1) Y H B:=by let⟨O,U,m,d,U',hl,hs,e,k⟩:=h;let⟨⟨x,U1⟩,e1,e⟩:=AO.mp e;let⟨b,e2,e⟩:=AO.mp e;cases e;exact{O,U,m,x,_,hl,hs,e1,λv H1 m1 x1 s1 r1=>{_,xR s1 r1 e2,k H1 m1 x1 s1}}
theorem Fu {t u}(h:iP K (jO t u) Y H B):NX (iP K t) (iP K u) Y H B:=by
 let⟨O,U,m,d,U',hl,hs,e,k⟩:=h;let⟨⟨c,U1⟩,e1,e⟩:=AO.mp e;refine{O,U,m,c,U1,hl,hs,e1,λH1 m1 x1 s1=>?_}
 cases c with
 |true=>exact{O,U1,m1,d,U',hl.ext x1,s1,e,λH2 m2 x2 s2=>k H2 m2 (x1.trans x2) s2}
 |false=>cases e;exact k H1 m1 x1 s1
theorem Kt {t u}(h:iP K (kE t u) Y H B):TY (iP K t) (iP K u) Y H B:=by
 let⟨O,U,m,d,U',hl,hs,e,k⟩:=h;let⟨⟨c,U1⟩,e1,e⟩:=AO.mp e;refine{O,U,m,c,U1,hl,hs,e1,λH1 m1 x1 s1=>?_}
 cases c with
 |false=>exact{O,U1,m1,d,U',hl.ext x1,s1,e,λH2 m2 x2 s2=>k H2 m2 (x1.trans x2) s2}
 |true=>cases e;exact k H1 m1 x1 s1
def Ft {t}(h:iP K (iu t) Y H B):NR (iP K t) Y H B:=by let⟨O,U,m,d,U',hl,hs,e,k⟩:=h;let⟨⟨c,U1⟩,e1,e⟩:=AO.mp e;cases e;exact{O,U,m,c,U1,hl,hs,e1,λH1 m1 x1 s1=>k H1 m1 x1 s1}
def KN {fa fb}(h:aN K (xt fa fb) Y H Q):IH (aN K fa) (aN K fb) Y H Q:=by
 let⟨O,U,m,d,U',hl,hs,e,k⟩:=h;let⟨⟨x,U1⟩,e1,e⟩:=AO.mp e;split at e
 ·rename_i c q;subst q;refine{O,U,m,_,U1,hl,hs,e1,λv H1 m1 x1 s1 r1=>{c,by simpa only[ay,au] using r1,?_}}
  cases c with
  |true=>exact{O,U1,m1,d,U',hl.ext x1,s1,e,λw H2 m2 x2 s2 r2=>k w H2 m2 (x1.trans x2) s2 r2}
  |false=>cases e;exact k _ H1 m1 x1 s1 (by rwa[ay,au])
 ·cases e
def Ky {fa}(h:aN K (G3 fa) Y H Q):Iz (aN K fa) Y H Q:=by
 let⟨O,U,m,d,U',hl,hs,e,k⟩:=h;let⟨⟨x,U1⟩,e1,e⟩:=AO.mp e;split at e
 ·rename_i c q
  cases e;subst q;exact{O,U,m,_,U1,hl,hs,e1,λv H1 m1 x1 s1 r1=>{c,by simpa only[ay,au] using r1,k _ H1 m1 x1 s1 (by rwa[ay,au])}}
 ·cases e
theorem Od {t fa fb}(h:aN K (Am t fa fb) Y H Q):T3 (iP K t) (aN K fa) (aN K fb) Y H Q:=by
 let⟨O,U,m,d,U',hl,hs,e,k⟩:=h;let⟨⟨c,U1⟩,e1,e⟩:=AO.mp e;refine{O,U,m,c,U1,hl,hs,e1,λH1 m1 x1 s1=>?_}
 cases c with
 |true=>exact{O,U1,m1,d,U',hl.ext x1,s1,e,λw H2 m2 x2 s2 r2=>k w H2 m2 (x1.trans x2) s2 r2}
 |false=>exact{O,U1,m1,d,U',hl.ext x1,s1,e,λw H2 m2 x2 s2 r2=>k w H2 m2 (x1.trans x2) s2 r2}
end
noncomputable def vals:A0 R->UO (A0 D)
 |[]=>some []
 |.v d::r=>(vals r).bind λds=>some (d::ds)
 |.p _::_=>none
 |.s _ _::_=>none
 |.x _::_=>none
 |.f _ _::_=>none
theorem mH {K:AJ}{m:Tg}{H:Hp}:∀{rs:A0 R} {ds:A0 D} {vs:A0 V},vals rs=some ds->bU K m H rs vs->RelDs K H ds vs
 |[],_,_,e,h=>by cases e;rwa[RelDs];exact h
 |.v d::r,_,_,e,⟨v,vs,rfl,h1,h2⟩=>by let⟨ds,e1,e⟩:=AO.mp e;cases e;rwa[RelDs];exact{v,vs,rfl,h1,mH e1 h2}
 |.p _::_,_,_,e,_=>by cases e
 |.s _ _::_,_,_,e,_=>by cases e
 |.x _::_,_,_,e,_=>by cases e
 |.f _ _::_,_,_,e,_=>by cases e
noncomputable def c9 (fa:FA):FE:=λO U=>(fa O U).bind λa=>(vals a.1).bind λds=>if ds.length<=sizeLine then some (.v (.tup ds),a.2) else none
noncomputable def eG (fa:FA):FE:=λO U=>(fa O U).bind λa=>(vals a.1).bind λds=>if ds.length<=sizeLine then some (.p a.2.length,a.2++[.lst ds]) else none
section
variable {K:AJ}{m:Tg}{Y:St}{H:Hp}{Q:VK}{U:ah}
def rq {ds:A0 D}{vs:A0 V}{p:A4}(s:bz K m H U)(r:RelDs K H ds vs)(hp:H p=none):fM m H m (upd H p (.tup vs))/\bz K m (upd H p (.tup vs)) U/\ay K m (upd H p (.tup vs)) (.v (.tup ds)) (.ref p):=by refine{.new hp,s.same (eg hp),?_};rwa[ay,au];exact{p,vs,rfl,.inl (.inl eS),RelDs.tf (.of (eg hp)) _ _ r}
def nX {ds:A0 D}{vs:A0 V}{p:A4}(s:bz K m H U)(r:RelDs K H ds vs)(hp:H p=none):fM m H (m++[p]) (upd H p (.lst vs))/\bz K (m++[p]) (upd H p (.lst vs)) (U++[.lst ds])/\ay K (m++[p]) (upd H p (.lst vs)) (.p U.length) (.ref p):=by refine{.newH hp,s.newH hp {vs,eS,RelDs.tf (.of (eg hp)) _ _ r},p,rfl,?_};rw[←s.len];simp
def Kr {fa}(h:aN K (c9 fa) Y H Q):J6 (js K fa) Y H Q:=by
 let⟨O,U,m,d,U',hl,hs,e,k⟩:=h;let⟨⟨xs,U1⟩,e1,e⟩:=AO.mp e;let⟨ds,e2,e⟩:=AO.mp e;split at e
 ·rename_i z
  cases e;refine{O,U,m,xs,_,hl,hs,e1,λvs H1 m1 x1 s1 r1=>?_};have r2:=mH e2 r1;refine{by rw[←r2.length];exact z,λp hp=>?_};let⟨a,b,c⟩:=rq s1 r2 hp;exact k _ _ _ (x1.trans a) b c
 ·cases e
def KA {fa}(h:aN K (eG fa) Y H Q):J8 (js K fa) Y H Q:=by
 let⟨O,U,m,d,U',hl,hs,e,k⟩:=h;let⟨⟨xs,U1⟩,e1,e⟩:=AO.mp e;let⟨ds,e2,e⟩:=AO.mp e;split at e
 ·rename_i z
  cases e;refine{O,U,m,xs,_,hl,hs,e1,λvs H1 m1 x1 s1 r1=>?_};have r2:=mH e2 r1;refine{by rw[←r2.length];exact z,λp hp=>?_};let⟨a,b,c⟩:=nX s1 r2 hp;exact k _ _ _ (x1.trans a) b c
 ·cases e
end
noncomputable def bo:FS:=λO U=>some (.nx O U)
noncomputable def aM (a b:FS):FS:=λO U=>(a O U).bind λo=>match o with|.nx O' U'=>b O' U'|o=>some o
noncomputable def iJ (f:FE):FS:=λO U=>(f O U).bind λa=>some (.nx O a.2)
noncomputable def bv (f:FE):FS:=λO U=>(f O U).bind λa=>some (.rt a.1 a.2)
noncomputable def fA (t:FT)(a b:FS):FS:=λO U=>(t O U).bind λc=>if c.1=true then a O c.2 else b O c.2
noncomputable def bD (i:Nat)(f:FE):FS:=λO U=>(f O U).bind λa=>some (.nx (O.set i (some a.1)) a.2)
section
variable {K:AJ}{m m' m1:Tg}{Y:St}{H H' H1:Hp}{D:jp}{U:ah}{O:Lo}
theorem jp.of_ext {o:oP}(x:fM m H m1 H1)(h:jp.of K m H D o):jp.of K m1 H1 D o:=by
 cases o with
 |nx O U=>exact λY H' m' y=>h Y H' m' (x.trans y)
 |bk O U=>exact λY H' m' y=>h Y H' m' (x.trans y)
 |ct O U=>exact λY H' m' y=>h Y H' m' (x.trans y)
 |rt d U=>exact λY H' m' y=>h Y H' m' (x.trans y)
def eI.set {d:R}{v:V}(h:eI K m H O Y)(r:ay K m H d v)(i:Nat):eI K m H (O.set i (some d)) (Y.set i (some v)):=by
 refine{by simp[h.1],λj d' e=>?_};by_cases hj:j=i
 ·subst hj;by_cases hi:j<O.length
  ·rw[DZ hi] at e
   cases e;exact{v,DZ (by rw[←h.1];exact hi),r}
  ·rw[zbT (by simp;omega)] at e
   cases e
 ·rw[Ej (Ne.symm hj)] at e;let⟨u,q1,q2⟩:=h.2 j d' e;exact{u,by rw[Ej (Ne.symm hj)];exact q1,q2}
def Fw (h:gL K bo D Y H):IA D Y H:=by let⟨O,U,m,o,hl,hs,e,k⟩:=h;cases e;exact k Y H m .refl hs hl
theorem Kv {a b}(h:gL K (aM a b) D Y H):NP (gL K a) (gL K b) D Y H:=by
 let⟨O,U,m,o,hl,hs,e,k⟩:=h;let⟨o1,e1,e⟩:=AO.mp e;refine{O,U,m,o1,hl,hs,e1,?_}
 cases o1 with
 |nx O1 U1=>exact λY1 H1 m1 x1 s1 l1=>{O1,U1,m1,o,l1,s1,e,jp.of_ext x1 k}
 |bk O1 U1=>cases e;exact k
 |ct O1 U1=>cases e;exact k
 |rt d U1=>cases e;exact k
def JD9 {f}(h:gL K (iJ f) D Y H):ID (aN K f) D Y H:=by let⟨O,U,m,o,hl,hs,e,k⟩:=h;let⟨⟨x,U1⟩,e1,e⟩:=AO.mp e;cases e;exact{O,U,m,x,U1,hl,hs,e1,λv H1 m1 x1 s1 r1=>k Y H1 m1 x1 s1 (hl.ext x1)}
def Kw {f}(h:gL K (bv f) D Y H):NQ (aN K f) D Y H:=by let⟨O,U,m,o,hl,hs,e,k⟩:=h;let⟨⟨x,U1⟩,e1,e⟩:=AO.mp e;cases e;exact{O,U,m,x,U1,hl,hs,e1,k}
theorem KF {t a b}(h:gL K (fA t a b) D Y H):NU (iP K t) (gL K a) (gL K b) D Y H:=by
 let⟨O,U,m,o,hl,hs,e,k⟩:=h;let⟨⟨c,U1⟩,e1,e⟩:=AO.mp e;refine{O,U,m,c,U1,hl,hs,e1,λH1 m1 x1 s1=>?_}
 cases c with
 |true=>exact{O,U1,m1,o,hl.ext x1,s1,e,jp.of_ext x1 k}
 |false=>exact{O,U1,m1,o,hl.ext x1,s1,e,jp.of_ext x1 k}
def CY {i f}(h:gL K (bD i f) D Y H):CG (aN K f) (uJ i) D Y H:=by let⟨O,U,m,o,hl,hs,e,k⟩:=h;let⟨⟨x,U1⟩,e1,e⟩:=AO.mp e;cases e;exact{O,U,m,x,U1,hl,hs,e1,λv H1 m1 x1 s1 r1=>k _ H1 m1 x1 s1 ((hl.ext x1).set r1 i)}
end
abbrev FG:=R->Lo->ah->UO (Lo×ah)
def wb (K:AJ)(g:FG):TG:=λv Y H Q=>∃O U m d O' U',eI K m H O Y/\bz K m H U/\ay K m H d v/\g d O U=some (O',U') /\
 ∀Y' H' m',fM m H m' H'->bz K m' H' U'->eI K m' H' O' Y'->Q Y' H'
abbrev JAa:=A0 R->Lo->ah->UO (Lo×ah)
noncomputable def gY (i:Nat):FG:=λd O U=>some (O.set i (some d),U)
noncomputable def qd (f:FE)(g:FG):FS:=λO U=>(f O U).bind λa=>(g a.1 O a.2).bind λb=>some (.nx b.1 b.2)
section
variable {K:AJ}{m m1:Tg}{Y:St}{H H1:Hp}{D:jp}{U:ah}{O:Lo}{v:V}{Q:St->Hp->Prop}
def KH {i}(h:wb K (gY i) v Y H Q):uJ i v Y H Q:=by let⟨O,U,m,d,O',U',hl,hs,r,e,k⟩:=h;cases e;exact k _ H m .refl hs (hl.set r i)
def KM {f g}(h:gL K (qd f g) D Y H):CG (aN K f) (wb K g) D Y H:=by let⟨O,U,m,o,hl,hs,e,k⟩:=h;let⟨⟨x,U1⟩,e1,e⟩:=AO.mp e;let⟨⟨O2,U2⟩,e2,e⟩:=AO.mp e;cases e;exact{O,U,m,x,U1,hl,hs,e1,λv H1 m1 x1 s1 r1=>{O,U1,m1,x,O2,U2,hl.ext x1,s1,r1,e2,λY2 H2 m2 x2 s2 l2=>k Y2 H2 m2 (x1.trans x2) s2 l2}}
end
def jE:HO->Prop
 |.lst _=>True
 |.set _ _=>True
 |.dK _=>True
 |.dT _=>True
 |_=>False
def Rx (t:TE):TE:=λY H Q=>t Y H λv H1=>Q v H1\/∃a u,H1 a=some u/\jE u/\∀o,Q v (upd H1 a (.frz o u))
noncomputable def Jz:R->ah->UO (D×ah)
 |.v d,U=>some (d,U)
 |.s _ _,_=>none
 |.x _,_=>none
 |.f _ _,_=>none
 |.p n,U=>match U[n]? with|some (.lst xs)=>some (.fl xs,U.set n (.fz xs))|some (.fz xs)=>some (.fl xs,U)|some (.dct kvs)=>some (.fd (kvs.map (·.1)) (kvs.map (·.2)),U.set n (.fzd kvs))|some (.fzd kvs)=>some (.fd (kvs.map (·.1)) (kvs.map (·.2)),U)|_=>none
noncomputable def br (f:FE):FE:=λO U=>(f O U).bind λa=>(Jz a.1 a.2).bind λb=>some (.v b.1,b.2)
section
variable {K:AJ}{m:Tg}{Y:St}{H:Hp}{U:ah}{Q:VK}
theorem Jy {x:R}{d:D}{U':ah}{v:V}{B:Hp->Prop}(hs:bz K m H U)(r:ay K m H x v)(e:Jz x U=some (d,U'))
  (k:∀H',fM m H m H'->bz K m H' U'->au K H' d v->B H'):B H\/∃a u,H a=some u/\jE u/\∀o,B (upd H a (.frz o u)):=by
 cases x with
 |v d'=>cases e;exact .inl (k H .refl hs r)
 |s b xs=>cases e
 |x _=>cases e
 |f _ _=>cases e
 |p n=>
  let⟨a,rfl,ha⟩:=r;rwa[Jz] at e;split at e
  ·rename_i xs q
   cases e;let⟨vs,ea,rr⟩:=hs.cell n _ a q ha;refine .inr {a,_,ea,trivial,λo=>?_};have x:fM m H m (upd H a (.frz o (.lst vs))):=.put (DE ha) ea ∅ ∅;refine k _ x (hs.put ha ea ∅ ∅ {o,vs,eS,RelDs.tf x.tf _ _ rr}) ?_;rwa[au];exact{a,vs,rfl,.inl {o,eS},RelDs.tf x.tf _ _ rr}
  ·rename_i xs q
   cases e;let⟨o,vs,ea,rr⟩:=hs.cell n _ a q ha;refine .inl (k H .refl hs ?_);rwa[au];exact{a,vs,rfl,.inl {o,ea},rr}
  ·rename_i kvs q
   cases e;let⟨es,ea,ke,rr⟩:=hs.cell n _ a q ha;refine .inr {a,_,ea,trivial,λo=>?_};have x:fM m H m (upd H a (.frz o (.dK es))):=.put (DE ha) ea ∅ ∅;refine k _ x (hs.put ha ea ∅ ∅ {o,es,eS,ke,RelDs.tf x.tf _ _ rr}) ?_;rwa[au];exact{a,o,es,rfl,eS,ke,RelDs.tf x.tf _ _ rr}
  ·rename_i kvs q
   cases e;let⟨o,es,ea,ke,rr⟩:=hs.cell n _ a q ha;refine .inl (k H .refl hs ?_);rwa[au];exact{a,o,es,rfl,ea,ke,rr}
  ·cases e
def IR {f}(h:aN K (br f) Y H Q):Rx (aN K f) Y H Q:=by let⟨O,U,m,d,U',hl,hs,e,k⟩:=h;let⟨⟨x,U1⟩,e1,e⟩:=AO.mp e;let⟨⟨d1,U2⟩,e2,e⟩:=AO.mp e;cases e;refine{O,U,m,x,U1,hl,hs,e1,λv H1 m1 x1 s1 r1=>?_};exact Jy (B:=λH'=>Q v H') s1 r1 e2 λH' y s2 r2=>k v H' m1 (x1.trans y) s2 r2
end
abbrev FI:=Lo->ah->UO (A0 D×ah)
structure BW (K:AJ)(J:It)(xs:List D)(P:Hp->Prop):Prop where
 st:∀H H',TF H H'->P H->P H'
 stop:∀i H,P H->xs.length<=i->J.stop i H
 go:∀(i:Nat) d H,xs[i]?=some d->P H->J.go i H
 yld:∀(i:Nat) d H x H',xs[i]?=some d->P H->J.yld i H x H'->H'=H/\au K H d x
def wa (K:AJ)(f:FI):TI:=λY H R=>∃O U m xs U',eI K m H O Y/\bz K m H U/\f O U=some (xs,U') /\
 ∀J P H' m',fM m H m' H'->bz K m' H' U'->BW K J xs P->P H'->R J H'
noncomputable def ig (g:FG)(b:FS):A0 D->Lo->ah->UO oP
 |[],O,U=>some (.nx O U)
 |x::xs,O,U=>(g (.v x) O U).bind λa=>(b a.1 a.2).bind λo=>match o with
  |.nx O' U'=>ig g b xs O' U'
  |.ct O' U'=>ig g b xs O' U'
  |.bk O' U'=>some (.nx O' U')
  |.rt d U'=>some (.rt d U')
noncomputable def qc (i:FI)(g:FG)(b:FS):FS:=λO U=>(i O U).bind λa=>ig g b a.1 O a.2
noncomputable def ky (f:FE):FI:=λO U=>(br f O U).bind λa=>match a.1 with|.v (.fl xs)=>some (xs,a.2)|.v (.tup xs)=>some (xs,a.2)|_=>none
def Pf (K:AJ)(tl:TE):TI:=λY H R=>tl Y H λx H1=>∃a,x=.ref a/\(((∃xs,nK K H1 a xs)/\R (TD K a) H1)\/((∃xs,oa K H1 a xs)/\R (TB K a) H1))
noncomputable def on (f:FE):FI:=λO U=>(f O U).bind λa=>match a.1 with|.v (.int j)=>if -(2 ^ 62)<=j/\j<2 ^ 62 then some ((List.range j.toNat).map λi=>.int (i:Nat),a.2) else none|_=>none
section
variable {K:AJ}{m:Tg}{Y:St}{H:Hp}{U:ah}{R:It->Hp->Prop}
theorem RelDs.get:∀{ds:A0 D} {vs:A0 V} {i:Nat} {d:D},RelDs K H ds vs->ds[i]?=some d->∃v,vs[i]?=some v/\au K H d v
 |[],_,_,_,_,e=>by simp at e
 |x::xs,vs,0,d,h,e=>by rwa[RelDs] at h;let⟨v,r,rfl,h1,h2⟩:=h;simp at e;subst e;exact{v,rfl,h1}
 |x::xs,vs,i+1,d,h,e=>by rwa[RelDs] at h;let⟨v,r,rfl,h1,h2⟩:=h;let⟨u,q1,q2⟩:=RelDs.get (i:=i) h2 ‹e›;exact{u,by simpa using q1,q2}
def Ma {a vs xs}(r0:RelDs K H xs vs):BW K (TD K a) xs (λH=>MY K H a vs/\RelDs K H xs vs) where
 st:=λH H' t ⟨f,r⟩=>{f.tf t,RelDs.tf t _ _ r}
 stop:=λi H ⟨f,r⟩ hi=>{vs,f.sq,by rw[←r.length];exact hi}
 go:=λi d H e ⟨f,r⟩=>let ⟨v,q,_⟩:=r.get e;{vs,v,f.sq,q}
 yld:=λi d H x H' e ⟨f,r⟩ ⟨e1,e2⟩=>by let⟨v,q,rv⟩:=r.get e;have:=e2 vs f.sq;rw[q] at this;cases this;exact{e1,rv}
def L7 {a vs xs}(r0:RelDs K H xs vs):BW K (TB K a) xs (λH=>oa K H a vs/\RelDs K H xs vs) where
 st:=λH H' t ⟨f,r⟩=>{oa.tf t f,RelDs.tf t _ _ r}
 stop:=λi H ⟨f,r⟩ hi=>{vs,f,by rw[←r.length];exact hi}
 go:=λi d H e ⟨f,r⟩=>let ⟨v,q,_⟩:=r.get e;{vs,v,f,q}
 yld:=λi d H x H' e ⟨f,r⟩ ⟨e1,e2⟩=>by let⟨v,q,rv⟩:=r.get e;have:=e2 vs f;rw[q] at this;cases this;exact{e1,rv}
def L9 (lo:Int)(n:Nat):BW K (Rp lo n) ((List.range n).map λk=>.int (lo+(k:Nat))) (λ_=>True) where
 st:=λ_ _ _ _=>trivial
 stop:=λi H _ hi=>by show n<=i;simpa using hi
 go:=λi d H e _=>by
  have:=(Bn.mp e).1
  show i<n;simpa using this
 yld:=λi d H x H' e _ ⟨e1,e2⟩=>by
  have hi:=(Bn.mp e).1;have Dk:i<n:=by simpa using hi
  refine{e1,?_};simp[Dk] at e;subst e e2;rwa[au]
def FB {f}(h:wa K (ky f) Y H R):Pf K (Rx (aN K f)) Y H R:=by
 let⟨O,U,m,xs,U',hl,hs,e,k⟩:=h;let⟨⟨x,U1⟩,e1,e⟩:=AO.mp e;refine IR {O,U,m,x,U1,hl,hs,e1,λv H1 m1 x1 s1 r1=>?_};split at e
 ·rename_i ys q
  cases e;simp only at q;subst q;rwa[ay,au] at r1;let⟨a,vs,rfl,f,r⟩:=r1;exact{a,rfl,.inl {{vs,f.sq},k _ _ H1 m1 x1 s1 (Ma r) {f,r}}}
 ·rename_i ys q
  cases e;simp only at q;subst q;rwa[ay,au] at r1;let⟨a,vs,rfl,f,r⟩:=r1;exact{a,rfl,.inr {{vs,f},k _ _ H1 m1 x1 s1 (L7 r) {f,r}}}
 ·cases e
def KG {f}(h:wa K (on f) Y H R):Jw (js K (ac f ai)) Y H R:=by
 let⟨O,U,m,xs,U',hl,hs,e,k⟩:=h;let⟨⟨x,U1⟩,e1,e⟩:=AO.mp e;refine{O,U,m,[x],U1,hl,hs,by simp[ac,ai,e1],λvs H1 m1 x1 s1 r1=>?_};split at e
 ·rename_i j q;split at e
  ·rename_i z
   cases e;simp only at q;subst q;let⟨v,r,rfl,r1,r2⟩:=r1;have r2:r=[]:=r2;rwa[ay,au] at r1;subst r1 r2;have:=L9 (K:=K) 0 j.toNat;rwa[Int.zero_add] at this
   exact{j,rfl,z.1,z.2,k _ _ H1 m1 x1 s1 this trivial}
  ·cases e
 ·cases e
end
end HW
namespace HW
variable {K:AJ}
open L2
abbrev MF:=A0 D->UO D
def xG (H H':Hp):Prop:=∀a o,H a=some o->H' a=some o
noncomputable def Fn (K:AJ)(n:Nat)(f:MF):Sp:=λvs H Q _=>∃ds d,ds.length=n/\RelDs K H ds vs/\f ds=some d/\∀v H',xG H H'->au K H' d v->Q v H'
noncomputable def fin:oP->UO D
 |.rt r U=>(Jz r U).bind λa=>some a.1
 |.nx _ _=>some .non
 |_=>none
noncomputable def gN (k:Nat)(b:FS):MF:=λds=>(b (ds.map (λd=>some (.v d))++List.replicate (k-ds.length) none) []).bind fin
noncomputable def aP (f:MF)(n:Nat)(fa:FA):FE:=λO U=>(fa O U).bind λa=>(vals a.1).bind λds=>if ds.length=n then (f ds).bind λd=>some (.v d,a.2) else none
section
variable {K:AJ}{m:Tg}{Y:St}{H H':Hp}{U:ah}{Q:VK}
theorem xG.ext (s:xG H H'):fM m H m H':={{[],by simp},.of s,λa o e _=>s a o e,λa h=>by
 cases q:H a with
 |none=>rfl
 |some o=>rw[s a o q] at h;cases h}
def JEd {f n fa}{E:XK}(h:aN K (aP f n fa) Y H Q):zq (Fn K n f) [] E (js K fa) Y H Q:=by
 let⟨O,U,m,d,U',hl,hs,e,k⟩:=h;let⟨⟨xs,U1⟩,e1,e⟩:=AO.mp e;let⟨ds,e2,e⟩:=AO.mp e;split at e
 ·rename_i hn;let⟨d1,e3,e⟩:=AO.mp e;cases e;refine{O,U,m,xs,_,hl,hs,e1,λvs H1 m1 x1 s1 r1=>?_};refine{ds,d1,hn,by simpa using mH e2 r1,e3,λv H2 z r2=>?_};exact k v H2 m1 (x1.trans z.ext) (s1.same z) r2
 ·cases e
def p9 {N:To}{ds:A0 D}{vs:A0 V}(r:RelDs K H ds vs):eI K [] H (ds.map (λd=>some (.v d))++List.replicate (N.length-ds.length) none) (L2.jh N vs):=by
 have hl:=r.length;unfold L2.jh;refine{by simp[hl],λi d e=>?_};by_cases hi:i<ds.length
 ·rw[C0 ‹hi›,DA] at e
  cases q:ds[i]? with
  |none=>rw[q] at e;cases e
  |some d'=>
   rw[q] at e;cases e;let⟨v,q1,q2⟩:=r.get q;exact{v,by rw[C0 (by simp;omega),DA,q1];rfl,q2}
 ·rw[Dw ‹hi›,zbr] at e;split at e <;> cases e
noncomputable def Gk (Q:VK):VK:=λv H=>Q v H\/∃a u,H a=some u/\jE u/\∀o,Q v (upd H a (.frz o u))
def fM.sam (x:fM [] H m H'):xG H H':=λa o e=>x.keep a o e ∅
theorem Kn {N:To}{b:FS}{ds:A0 D}{vs:A0 V}{d:D}{E:XK}(r:RelDs K H ds vs)(e:gN N.length b ds=some d)(k:∀v H',xG H H'->au K H' d v->Q v H') :
  gL K b {nx:=λ_ H'=>Gk Q .non H',rt:=Gk Q} (L2.jh N vs) H:=by
 let⟨o,e1,e⟩:=AO.mp e;refine{_,[],[],o,p9 r,.nil,e1,?_}
 cases o with
 |nx O U=>
  cases e;exact λY H' m' x _ _=>.inl (k _ _ x.sam (by rwa[au]))
 |bk O U=>cases e
 |ct O U=>cases e
 |rt q U=>
  let⟨⟨d1,U1⟩,e2,e⟩:=AO.mp e;cases e;intro v H' m' x s r';exact Jy (B:=λH'=>Q v H') s r' e2 λH2 y s2 r2=>k v H2 (x.trans y).sam r2
end
noncomputable def xF (C:Int->Int->A9)(f:Int->Int->D):R->R->ah->UO (R×ah)
 |.v (.int i),.v (.int j),U=>if C i j=true then some (.v (f i j),U) else none
 |_,_,_=>none
def gI {C:Int->Int->A9}{C':Int->Int->Prop}{f:Int->Int->D}{g:Int->Int->V}(hC:∀i j,C i j=true->C' i j)(hg:∀H i j,au K H (f i j) (g i j)):px K (xF C f) (rI C' g):=by
 intro m H U x y d U' v u Q s rx ry e k;unfold xF at e;split at e
 ·rename_i i j;split at e
  ·rename_i z
   cases e;rwa[ay,au] at rx ry;subst rx ry;exact{i,j,rfl,rfl,hC i j z,k _ H m .refl s (hg H i j)}
  ·cases e
 ·cases e
def PL {f:Int->Int->D}{g:Int->Int->V}(hg:∀H i j,au K H (f i j) (g i j)):px K (xF (λ_ _=>true) f) (yg g):=by
 intro m H U x y d U' v u Q s rx ry e k;unfold xF at e;split at e
 ·rename_i i j;split at e
  ·cases e;rwa[ay,au] at rx ry;subst rx ry;exact{i,j,rfl,rfl,k _ H m .refl s (hg H i j)}
  ·cases e
 ·cases e
abbrev u6:=xF (λ_ _=>true) λi j=>.int (i-j)
abbrev kJ:=xF (λi j=>decide (-(2 ^ 64)<i/\i<2 ^ 64) || decide (-(2 ^ 64)<j/\j<2 ^ 64)) λi j=>.int (i*j)
abbrev yX:=xF (λ_ j=>decide (0<j/\j<1073741824)) λi j=>.int (i / j)
abbrev qY:=xF (λ_ j=>decide (0<j)) λi j=>.int (i%j)
abbrev qh:=xF (λi j=>decide (0<=j/\j<=1000000/\i.natAbs<2 ^ 64)) λi j=>.int (i ^ j.toNat)
abbrev Bh:=xF (λ_ _=>true) λi j=>.bl (decide (i<j))
abbrev M4:=xF (λ_ _=>true) λi j=>.bl (decide (i<=j))
abbrev wf:=xF (λ_ _=>true) λi j=>.bl (decide (j<i))
abbrev Me:=xF (λ_ _=>true) λi j=>.bl (decide (j<=i))
noncomputable def iV:R->ah->UO (R×ah)
 |.v (.int i),U=>some (.v (.int (-i)),U)
 |_,_=>none
section
variable {K:AJ}
def Dc {H:Hp}{i:Int}:au K H (.int i) (.int i):=by rwa[au]
def QB {H:Hp}{i:A9}:au K H (.bl i) (.bl i):=by rwa[au]
def Ph:px K u6 (yg λi j=>.int (i-j)):=PL λ_ _ _=>Dc
def Po:px K kJ (rI EU λi j=>.int (i*j)):=gI (λi j h=>by simpa[EU] using h) λ_ _ _=>Dc
def PD:px K yX (rI M0 λi j=>.int (i / j)):=gI (λi j h=>by simpa[M0] using h) λ_ _ _=>Dc
def Pp:px K qY (rI (λ_ j=>0<j) λi j=>.int (i%j)):=gI (λi j h=>by simpa using h) λ_ _ _=>Dc
def Pk:px K qh (rI MZ λi j=>.int (i ^ j.toNat)):=gI (λi j h=>by simpa[MZ] using h) λ_ _ _=>Dc
def RU:px K Bh (yg λi j=>.bl (decide (i<j))):=PL λ_ _ _=>QB
def Pt:px K M4 (yg λi j=>.bl (decide (i<=j))):=PL λ_ _ _=>QB
def RW:px K wf (yg λi j=>.bl (decide (j<i))):=PL λ_ _ _=>QB
def RX:px K Me (yg λi j=>.bl (decide (j<=i))):=PL λ_ _ _=>QB
def Pn:UN K iV (rU λi=>.int (-i)):=by
 intro m H U x d U' v Q s rx e k;unfold iV at e;split at e
 ·rename_i i
  cases e;rwa[ay,au] at rx;subst rx;exact{i,rfl,k _ H m .refl s (by rwa[ay,au])}
 ·cases e
end
noncomputable def Hs:R->R->ah->UO (R×ah)
 |.v (.int i),.v (.int j),U=>some (.v (.int (i+j)),U)
 |.v (.str x),.v (.str y),U=>if x.length+y.length<=sizeLine then some (.v (.str (x++y)),U) else none
 |.v (.tup xs),.v (.tup ys),U=>if xs≠[]/\xs.length+ys.length<=sizeLine then some (.v (.tup (xs++ys)),U) else none
 |.p a,.p b,U=>match U[a]?,U[b]? with|some (.lst xs),some (.lst ys)=>if xs.length+ys.length<=sizeLine then some (.p U.length,U++[.lst (xs++ys)]) else none|_,_=>none
 |_,_,_=>none
def Ov:R2:=λx y H Q=>∃i j,x=.str i/\y=.str j/\i.length+j.length<=sizeLine/\Q (.str (i++j)) H
def RB (r r':R2):R2:=λx y H Q=>r x y H Q\/r' x y H Q
def Jc (K:AJ):R2:=RB (yg λi j=>.int (i+j)) (RB Ov (RB (IW K) Ot))
theorem RelDs.append {K:AJ}{H:Hp}:∀{xs ys:A0 D} {vs ws:A0 V},RelDs K H xs vs->RelDs K H ys ws->RelDs K H (xs++ys) (vs++ws)
 |[],_,_,_,h,h'=>by rwa[RelDs] at h;subst h;exact h'
 |x::xs,_,_,_,h,h'=>by
  rwa[RelDs] at h;let⟨v,r,rfl,h1,h2⟩:=h
  show RelDs K H (x::(xs++_)) _
  rwa[RelDs];exact{v,r++_,rfl,h1,RelDs.append h2 h'}
def RelDs.nil_iff {H:Hp}{xs:A0 D}{vs:A0 V}(h:RelDs K H xs vs):xs=[] ↔ vs=[]:=by have:=h.length;cases xs <;> cases vs <;> simp_all
def PK :px K Hs (Jc K):=by
 intro m H U x y d U' v u Q s rx ry e k;unfold Hs at e;split at e
 ·cases e;rwa[ay,au] at rx ry;subst rx ry;exact .inl {_,_,rfl,rfl,k _ H m .refl s (by rwa[ay,au])}
 ·split at e
  ·rename_i z
   cases e;rwa[ay,au] at rx ry;subst rx ry;exact .inr (.inl {_,_,rfl,rfl,z,k _ H m .refl s (by rwa[ay,au])})
  ·cases e
 ·split at e
  ·rename_i z
   cases e;rwa[ay,au] at rx ry;let⟨a,vs,rfl,qa,ra⟩:=rx;let⟨b,ws,rfl,qb,rb⟩:=ry;refine .inr (.inr (.inl {a,b,vs,ws,rfl,rfl,qa,qb,λh=>z.1 (ra.nil_iff.mpr h),by rw[←ra.length,←rb.length];exact z.2,λh=>?_,λh p hp=>?_}))
   ·refine k _ H m .refl s ?_;have:=rb.nil_iff.mpr h;subst this;rwa[ay,au,Dr];exact{a,vs,rfl,qa,ra}
   ·let⟨x1,x2,x3⟩:=rq s (ra.append rb) hp;exact k _ _ _ x1 x2 x3
  ·cases e
 ·split at e
  ·rename_i xs ys qa qb;split at e
   ·rename_i z
    cases e;let⟨a',rfl,ha⟩:=rx;let⟨b',rfl,hb⟩:=ry;let⟨vs,ea,ra⟩:=s.cell _ _ a' qa ha;let⟨ws,eb,rb⟩:=s.cell _ _ b' qb hb;refine .inr (.inr (.inr {a',b',vs,ws,rfl,rfl,ea,eb,by rw[←ra.length,←rb.length];exact z,λp hp=>?_}));let⟨x1,x2,x3⟩:=nX s (ra.append rb) hp;exact k _ _ _ x1 x2 x3
   ·cases e
  ·cases e
 ·cases e
noncomputable def iM:R->ah->UO (A0 D)
 |.v (.tup xs),_=>some xs
 |.v (.fl xs),_=>some xs
 |.p n,U=>match U[n]? with|some (.lst xs)=>some xs|some (.fz xs)=>some xs|_=>none
 |_,_=>none
noncomputable def lK:R->ah->UO (A0 D)
 |.v (.fl xs),_=>some xs
 |.p n,U=>match U[n]? with|some (.lst xs)=>some xs|some (.fz xs)=>some xs|_=>none
 |_,_=>none
section
variable {K:AJ}{m:Tg}{H:Hp}{U:ah}
def nu {x:R}{xs:A0 D}{v:V}(s:bz K m H U)(r:ay K m H x v)(e:lK x U=some xs):∃a vs,v=.ref a/\nK K H a vs/\RelDs K H xs vs:=by
 unfold lK at e;split at e
 ·cases e;rwa[ay,au] at r;let⟨a,vs,rfl,q,r⟩:=r;exact{a,vs,rfl,q.sq,r}
 ·let⟨a,rfl,ha⟩:=r;split at e
  ·rename_i q
   cases e;let⟨vs,e,r⟩:=s.cell _ _ a q ha;exact{a,vs,rfl,.inl (.inl e),r}
  ·rename_i q
   cases e;let⟨o,vs,e,r⟩:=s.cell _ _ a q ha;exact{a,vs,rfl,.inl (.inr {o,e}),r}
  ·cases e
 ·cases e
theorem lp {x:R}{xs:A0 D}{v:V}(s:bz K m H U)(r:ay K m H x v)(e:iM x U=some xs):∃a vs,v=.ref a/\(nK K H a vs\/oa K H a vs)/\RelDs K H xs vs:=by
 cases x with
 |v d=>
  cases d with
  |tup ys=>
   cases e;rwa[ay,au] at r;let⟨a,vs,rfl,q,r⟩:=r;exact{a,vs,rfl,.inr q,r}
  |fl ys=>let⟨a,vs,q1,q2,q3⟩:=nu s r (xs:=xs) e;exact{a,vs,q1,.inl q2,q3}
  |non=>cases e
  |bl _=>cases e
  |int _=>cases e
  |str _=>cases e
  |fd _ _=>cases e
  |key _=>cases e
 |p n=>let⟨a,vs,q1,q2,q3⟩:=nu s r (xs:=xs) e;exact{a,vs,q1,.inl q2,q3}
 |s _ _=>cases e
 |x _=>cases e
 |f _ _=>cases e
end
noncomputable def fq:R->R->ah->UO (R×ah)
 |x,.v (.int i),U=>(iM x U).bind λxs=>(n9 xs i).bind λd=>some (.v d,U)
 |_,_,_=>none
noncomputable def gJ:A0 R->ah->UO (R×ah)
 |[x],U=>(iM x U).bind λxs=>some (.v (.int xs.length),U)
 |_,_=>none
def Hd {H:Hp}{xs:A0 D}{vs:A0 V}{i:Int}{d:D}(r:RelDs K H xs vs)(e:n9 xs i=some d):∃v,n9 vs i=some v/\au K H d v:=by let⟨j,e1,e2⟩:=AO.mp e;let⟨v,q1,q2⟩:=r.get e2;exact{v,by unfold n9;rw[←r.length,e1];exact q1,q2}
def RV :px K fq (RD K):=by
 intro m H U x y d U' v u Q s rx ry e k;unfold fq at e;split at e
 ·rename_i i;let⟨xs,e1,e⟩:=AO.mp e;let⟨d1,e2,e⟩:=AO.mp e;cases e;rwa[ay,au] at ry;subst ry;let⟨a,vs,rfl,q,r⟩:=lp s rx e1;let⟨w,q1,q2⟩:=Hd r e2;rcases q with q|q
  ·exact .inl {a,vs,i,w,rfl,rfl,q,q1,k _ H m .refl s q2}
  ·exact .inr (.inl {a,vs,i,w,rfl,rfl,q,q1,k _ H m .refl s q2})
 ·cases e
def RC (K:AJ):A0 V->Hp->VK->Prop:=λxs H Q=>∃p ys,xs=[.ref p]/\(nK K H p ys\/oa K H p ys)/\Q (.int ys.length) H
def vc {m:Tg}{H:Hp}{x:R}{vs:A0 V}(r:bU K m H [x] vs):∃v,vs=[v]/\ay K m H x v:=by let⟨v,r,rfl,h1,h2⟩:=r;have h2:r=[]:=h2;subst h2;exact{v,rfl,h1}
def Ps :EZ K gJ (RC K):=by
 intro m H U xs d U' vs Q s r e k;unfold gJ at e;split at e
 ·rename_i x;let⟨ys,e1,e⟩:=AO.mp e;cases e;let⟨v,rfl,r1⟩:=vc r;let⟨a,ws,rfl,q,r⟩:=lp s r1 e1;exact{a,ws,rfl,q,k _ H m .refl s (by rwa[ay,au];rw[r.length])}
 ·cases e
noncomputable def oi:A0 R->ah->UO (R×ah)
 |[x],U=>(iM x U).bind λxs=>some (.v (.tup xs),U)
 |_,_=>none
def RA (K:AJ):A0 V->Hp->VK->Prop:=λxs H Q=>∃p ys,xs=[.ref p]/\((nK K H p ys/\∀l,H l=none->Q (.ref l) (upd H l (.tup ys)))\/(oa K H p ys/\Q (.ref p) H))
def Pg :EZ K oi (RA K):=by
 intro m H U xs d U' vs Q s r e k;unfold oi at e;split at e
 ·rename_i x;let⟨ys,e1,e⟩:=AO.mp e;cases e;let⟨v,rfl,r1⟩:=vc r;let⟨a,ws,rfl,q,r⟩:=lp s r1 e1;rcases q with q|q
  ·refine{a,ws,rfl,.inl {q,λp hp=>?_}};let⟨x1,x2,x3⟩:=rq s r hp;exact k _ _ _ x1 x2 x3
  ·refine{a,ws,rfl,.inr {q,k _ H m .refl s ?_}};rwa[ay,au];exact{a,ws,rfl,q,r}
 ·cases e
noncomputable def pq:R->A0 R->ah->UO (R×ah)
 |.p n,[.v d],U=>match U[n]? with|some (.lst xs)=>if xs.length<sizeLine then some (.v .non,U.set n (.lst (xs++[d]))) else none|_=>none
 |_,_,_=>none
def Rq (K:AJ)(g:R->A0 R->ah->UO (R×ah))(r:V->A0 V->Hp->VK->Prop):Prop :=
 ∀m H U x xs d U' v vs Q,bz K m H U->ay K m H x v->bU K m H xs vs->g x xs U=some (d,U')->(∀w H' m',fM m H m' H'->bz K m' H' U'->ay K m' H' d w->Q w H')->r v vs H Q
def PF :Rq K pq zF:=by
 intro m H U x xs d U' v vs Q s rx rs e k;unfold pq at e;split at e
 ·split at e
  ·rename_i ys q;split at e
   ·rename_i z
    cases e;let⟨a,rfl,ha⟩:=rx;let⟨w,rfl,Dy⟩:=vc rs;let⟨ws,ea,ra⟩:=s.cell _ _ a q ha;have x:fM m H m (upd H a (.lst (ws++[w]))):=.put (DE ha) ea ∅ ∅;refine{a,ws,w,rfl,rfl,ea,by rw[←ra.length];exact z,k _ _ m x (s.put ha ea ∅ ∅ {_,eS,?_}) (by rwa[ay,au])};refine RelDs.tf x.tf _ _ (ra.append ?_);rwa[RelDs];exact{w,[],rfl,Dy,rfl}
   ·cases e
  ·cases e
 ·cases e
noncomputable def ic (g:FG)(c:FT)(f:FE):A0 D->Lo->ah->UO (A0 D×ah)
 |[],_,U=>some ([],U)
 |x::xs,O,U=>(g (.v x) O U).bind λa=>(c a.1 a.2).bind λb=>if b.1=true then (f a.1 b.2).bind λy=>match y.1 with
   |.v d=>(ic g c f xs a.1 y.2).bind λr=>some (d::r.1,r.2)
   |_=>none
  else ic g c f xs a.1 b.2
noncomputable def fU (k:Nat)(ix:A0 Nat)(O:Lo):Lo:=List.replicate k none++ix.map λi=>(O[i]?).join
noncomputable def hZ (ix:A0 Nat)(k:Nat)(i:FI)(g:FG)(c:FT)(f:FE):FE:=λO U=>(i O U).bind λa=>if a.1.length<=sizeLine then
 (ic g c f a.1 (fU k ix O) a.2).bind λr=>some (.p r.2.length,r.2++[.lst r.1]) else none
noncomputable def gS:FT:=λ_ U=>some (true,U)
open PyProof.Rows
section
variable {X:Cx}
def PE.imp {t t':TE}(h:PE X e t)(k:∀{Y H Q},t' Y H Q->t Y H Q):PE X e t':=λA1 s Y H Q I q=>h A1 s Y H Q I (k q)
def PT.imp {t t':TT}(h:PT X e t)(k:∀{Y H Q},t' Y H Q->t Y H Q):PT X e t':=λA1 s Y H Q I q=>h A1 s Y H Q I (k q)
def PW.imp {t t':TT}(h:PW X e t)(k:∀{Y H Q},t' Y H Q->t Y H Q):PW X e t':=λwh A1 s Y H Q I q=>h wh A1 s Y H Q I (k q)
def PA.imp {e:Tl}{t t':TA}(h:PA X e t)(k:∀{Y H Q},t' Y H Q->t Y H Q):PA X e t':=λpos A1 s Y H Q I q=>h pos A1 s Y H Q I (k q)
def PS.imp {e:AN}{t t':TS}(h:PS X e t)(k:∀{D Y H},t' D Y H->t D Y H):PS X e t':=λA1 s Y H Q I q=>h A1 s Y H Q I (k q)
def qF.imp {e:Tn}{t t':TS}(h:qF X e t)(k:∀{D Y H},t' D Y H->t D Y H):qF X e t':=λA1 s Y H Q I q=>h A1 s Y H Q I (k q)
def PI.imp {tg e:AD}{t t':TI}(h:PI X tg e t)(k:∀{Y H R},t' Y H R->t Y H R):PI X tg e t':=λA1 s Y H R I q=>h A1 s Y H R I (k q)
def PG.imp {t t':TG}(h:PG X e t)(k:∀{v Y H Q},t' v Y H Q->t v Y H Q):PG X e t':=λA1 s Y H v u Q I r q=>h A1 s Y H v u Q I r (k q)
end
section
variable {P:A7}{w:AF}{H H0:Hp}{h h0:AG}{a:A4}{u:HO}{fs ex:Tg}
def jE.ne {b:A4}{v:HO}(e:H a=some u)(hu:jE u)(q:H b=some v)(n:¬ jE v):b≠a:=λz=>by rw[z,e] at q;cases q;exact n hu
def kz.frz (ok:kz P w H h)(e:H a=some u)(hu:jE u):∃o,kz P w (upd H a (.frz o u)) h:=by
 have ho:∃o,h.get? a=some o:=by
  have z:=ok a u e
  cases u with
  |lst xs=>let⟨_,_,_,_,q⟩:=z;exact{_,q}
  |set S n=>let⟨o,_,_,_,q,_⟩:=z;exact{_,q}
  |dK kvs=>let⟨_,_,_,_,o,_,_,q,_⟩:=z;exact{_,q}
  |dT kvs=>let⟨_,_,_,_,o,_,_,q,_⟩:=z;exact{_,q}
  |_=>exact hu.elim
 let⟨o,ho⟩:=ho;refine{o,λb v q=>?_};have own:∀c y,H c=some (.own y)->upd H a (.frz o u) c=some (.own y):=λc y r=>by rw[L2.aT (jE.ne e hu r λz=>z)];exact r
 have tup:∀c xs,H c=some (.tup xs)->upd H a (.frz o u) c=some (.tup xs):=λc xs r=>by rw[L2.aT (jE.ne e hu r λz=>z)];exact r
 by_cases hb:b=a
 ·subst hb;rw[L2.fX] at q;cases q;exact{ho,(ok b u e).stay (λc v _ q=>q) (λc r=>own c _ r) tup}
 ·rw[L2.aT hb] at q;exact(ok b v q).stay (λc v _ q=>q) (λc r=>own c _ r) tup
def Un.frz {o:Obj}(un:Un fs ex H0 H h0 h)(e:H a=some u)(hu:jE u):Un fs ex H0 (upd H a (.frz o u)) h0 h where
 keep:=un.keep
 slot:=un.slot
 free:=λb ob q n hx=>by have z:=un.free b ob q n hx;rw[L2.aT (λy=>by rw[y,e] at z;cases z)];exact z
 there:=un.there
 tups:=λb xs q=>by rw[L2.aT (jE.ne e hu (un.tups b xs q) λz=>z)];exact un.tups b xs q
 frzs:=λb ob v q=>by rw[L2.aT (jE.ne e hu (un.frzs b ob v q) λz=>z)];exact un.frzs b ob v q
 tbls:=λb ps q=>by let⟨more,r⟩:=un.tbls b ps q;exact{more,by rw[L2.aT (jE.ne e hu r λz=>z)];exact r}
def aS.frz {s:A2}(I:aS X A1 Y H s)(e:H a=some u)(hu:jE u):∃o,aS X A1 Y (upd H a (.frz o u)) s:=by
 let⟨o,ok⟩:=kz.frz I.hok e hu;have nn:∀b,H b=none->upd H a (.frz o u) b=none:=λb z=>by rw[L2.aT (λy=>by rw[y,e] at z;cases z)];exact z
 refine{o,I.ok,I.os,I.bare,Un.frz I.base e hu,I.loc,I.cell,nn _ I.free,λx c q=>nn _ (I.freeC x c q),λp hp=>?_,ok,I.len};let⟨q1,q2,q3⟩:=I.pin p hp;exact{q1,nn _ q2,q3}
end
def Dz {t:TE}(h:PE X e t):PE X e (Rx t):=λA1 s Y H Q I q=>by
 refine dk (h A1 s Y H _ I q) λv s1 hh=>?_;let⟨x,H1,I1,r1,q1⟩:=hh;rcases q1 with q1|⟨a,u,e,hu,q1⟩
 ·exact{x,H1,I1,r1,q1}
 ·let⟨o,I2⟩:=aS.frz I1 e hu;exact{x,_,I2,r1,q1 o}
theorem dF.fz {mg:Te}{base:AG}{CX:ze}{k:Nat}{f:A4}{ps:To}{sp:Sp}(F:dF P w K mg base CX k f fd ps sp) :
  dF P w K mg base CX k f fd ps (λvs H Q E=>sp vs H (Gk Q) E):=by
 refine{λvs H Q E h=>F.len vs H _ E h,λA outer s H args us vs Q E hr he hb hv hs=>?_};refine Eh (F.run A outer s H args us vs (Gk Q) E hr he hb hv hs) λr s' hq=>?_
 cases r with
 |error e=>exact hq
 |ok fl=>
  cases fl with
  |next=>exact hq
  |brk=>exact hq
  |cont=>exact hq
  |ret u=>
   let⟨v,H',os,bare,un,hok,rv,q⟩:=hq;rcases q with q|⟨a,u',e,hu,q⟩
   ·exact{v,H',os,bare,un,hok,rv,q}
   ·let⟨o,ok⟩:=kz.frz hok e hu
    exact{v,_,os,bare,Un.frz un e hu,ok,rv,q o}
def pz.okP {P:A7}{w:AF}{K:AJ}{mg:Te}{base:AG}{x qual:Str}{st:AN}{f:A4}{fd:FuncData}{N ps:To}{k:Nat}{b:FS}(F:pz K x qual st f fd)(S:aK N ps (aj st))
  (AR:∀(AP:A6) (A:AI) (outer:A0 Env) (s:A2) (H:Hp) (E:XK),cr k (A.deeper (envOfC qual (aj st) s.heap.objs.size f AP))->qF (gR oh P w K mg base N qual (aj st) f AP A outer s H E).nox (b4 st) (gL K b)) :
  dF P w K mg base oh (k+1) f fd ps (Fn K ps.length (gN N.length b)):=by
 have G:dF P w K mg base oh (k+1) f fd ps (λvs H Q _=>vs.length=ps.length/\gL K b {nx:=λ_ H'=>Q .non H',rt:=Q} (L2.jh N vs) H) :=
  L2.pz.ok F S (λvs H Q E h=>h.1) λAP A outer s H vs Q E hr h=>{_,AR AP A outer s H E hr,h.2}
 refine(dF.fz G).imp λvs H Q E ⟨ds,d,hn,r,e,k⟩=>{by rw[←r.length];exact hn,Kn (E:=E) r e k}
def Gc {X:Cx}{tg l:AD}{tl:TE}(hl:PE X l tl):PI X tg l (Pf X.K tl):=by
 intro A1 s Y H R I h;refine dk (hl A1 s Y H _ I h) λv s1 hh=>?_;let⟨x,H1,I1,r1,q1⟩:=hh;let⟨a,e,q1⟩:=q1;subst e;cases r1;rcases q1 with⟨⟨xs,hq⟩,q⟩|⟨⟨xs,hq⟩,q⟩
 ·let⟨its,rv,p,hz⟩:=I1.list hq;refine wpAny_pyIter_list p.isList ?_;refine{s1.heap.objs.size,[s1.heap.objs.size],_,_,H1,rfl,I1.kept (t':=s1.toks) λb o e=>Bl _ e,JAp a _,{_,Cw _ rfl,rfl,rfl},λb hb=>?_,q};have e:b=s1.heap.objs.size:=by simpa using hb
  subst e;exact I1.fpOk (BH _) (I1.hok.fresh (BH _))
 ·let⟨its,rv,p,hz⟩:=I1.tuple hq;refine wpAny_pyIter_tuple (show s1.heap.IsTuple a its.toArray from p) ?_;refine{s1.heap.objs.size,[s1.heap.objs.size],_,_,H1,rfl,I1.kept (t':=s1.toks) λb o e=>Bl _ e,xP a _,{_,Cw _ rfl,rfl,rfl},λb hb=>?_,q};have e:b=s1.heap.objs.size:=by simpa using hb
  subst e;exact I1.fpOk (BH _) (I1.hok.fresh (BH _))
theorem jT {env:Env}:∀{names:A0 (Str×NameKind)} {x:Str},
  (names.map λ(n,k)=>if (k == NameKind.free&&env.scope.kind == .function&&env.kindOf n == some .cell) then (n,NameKind.cell) else (n,k)).lookup x =
   (names.lookup x).map λk=>if (k == NameKind.free&&env.scope.kind == .function&&env.kindOf x == some .cell) then NameKind.cell else k
 |[],_=>rfl
 |(n,k)::r,x=>by
  have ih:=@jT env r x
  show List.lookup x ((if (k == NameKind.free&&env.scope.kind == .function&&env.kindOf n == some .cell)=true then (n,NameKind.cell) else (n,k))::_)=_
  cases hx:x == n with
  |true=>
   have:x=n:=eq_of_beq hx;subst this;rwa[D8,hx,DV]
   by_cases hc:(k == NameKind.free&&env.scope.kind == .function&&env.kindOf x == some .cell)=true
   ·simp[hc]
   ·simp[hc]
  |false=>
   by_cases hc:(k == NameKind.free&&env.scope.kind == .function&&env.kindOf n == some .cell)=true
   ·rw[A8 hc];rwa[D8,hx];exact ih
   ·rw[AE hc];rwa[D8,hx];exact ih
theorem lW {env:Env}:∀(names:A0 (Str×NameKind)) (acc:A0 (Str×A4)),(∀x c,acc.lookup x=some c->env.cells.lookup x=some c) ->
  (∀y∈names,y.2=.free->∃c,env.cells.lookup y.1=some c) ->
  ∃cl:A0 (Str×A4),(forIn names acc λ(x:Str×NameKind) (r:A0 (Str×A4))=>(if (x.2 == NameKind.free)=true then do let a ←cellOf env x.1;pure (ForInStep.yield ((x.1,a)::r)) else pure (ForInStep.yield r):Sem (ForInStep (A0 (Str×A4)))))=pure cl /\
   (∀x c,cl.lookup x=some c->env.cells.lookup x=some c)/\(∀x c,acc.lookup x=some c->∃c',cl.lookup x=some c')/\∀y∈names,y.2=.free->∃c,cl.lookup y.1=some c
 |[],acc,h1,_=>{acc,rfl,h1,λx c e=>{c,e},λy hy=>by simp at hy}
 |(n,k)::r,acc,h1,h2=>by
  by_cases hk:k=.free
  ·subst hk
   let⟨c,hc⟩:=h2 (n,.free) Bw rfl
   have step:∀x c',List.lookup x ((n,c)::acc)=some c'->env.cells.lookup x=some c':=λx c' e=>by
    rw[D8] at e
    cases hx:x == n with
    |true=>rw[hx] at e;have:x=n:=eq_of_beq hx;subst this;rw[hc];exact e
    |false=>rw[hx] at e;exact h1 x c' e
   let⟨cl,e,p1,p2,p3⟩:=lW r ((n,c)::acc) step λy hy=>h2 y (Bk _ hy);have hn:∃c',List.lookup n ((n,c)::acc)=some c':={c,by rw[D8];simp};refine{cl,?_,p1,λx c' e'=>?_,λy hy hf=>?_}
   ·rw[List.forIn_cons]
    show((cellOf env n >>=λa=>pure (ForInStep.yield ((n,a)::acc))) >>= _)=_
    unfold cellOf;rw[hc];exact e
   ·cases hx:x == n with
    |true=>have:x=n:=eq_of_beq hx;subst this;let⟨c'',q⟩:=hn;exact p2 _ _ q
    |false=>exact p2 x c' (by rw[D8,hx];exact e')
   ·rcases BJ.mp hy with rfl|hy
    ·let⟨c'',q⟩:=hn;exact p2 _ _ q
    ·exact p3 y hy hf
  ·let⟨cl,e,p1,p2,p3⟩:=lW r acc h1 λy hy=>h2 y (Bk _ hy)
   have hb:(k == NameKind.free)=false:=by simpa using hk
   refine{cl,?_,p1,p2,λy hy hf=>?_}
   ·rw[List.forIn_cons]
    rwa[hb,DY,if_false];exact e
   ·rcases BJ.mp hy with rfl|hy
    ·exact AH hf hk
    ·exact p3 y hy hf
def lV {env:Env}{scope:Scope}(h:∀y∈scope.names,y.2=.free->∃c,env.cells.lookup y.1=some c) :
  ∃cl,closureFor scope env=pure cl/\(∀x c,cl.lookup x=some c->env.cells.lookup x=some c)/\∀y∈scope.names,y.2=.free->∃c,cl.lookup y.1=some c:=by
 let⟨cl,e,p1,_,p3⟩:=lW (env:=env) scope.names [] (λx c e=>by simp at e) h;refine{cl,?_,p1,p3};unfold closureFor
 first
  |(show(forIn scope.names [] _ >>=λr=>pure r)=_;rw[e];rfl)
  |(rwa[bind_pure];exact e)
structure aV (osc scope:Scope)(own:To)(caps:To):Prop where
 kind:scope.kind=.function
 cell:∀y∈scope.names,y.2=.cell->scope.names.lookup y.1=some .cell
 loc:∀y∈scope.names,y.2=.local->scope.names.lookup y.1=some .local
 free:∀y∈scope.names,y.2=.free->osc.names.lookup y.1=some .cell\/osc.names.lookup y.1=some .free
 cap:∀y∈caps,(y,NameKind.free)∈scope.names/\scope.names.lookup y=some .free
 nd:(own++caps).Nodup
noncomputable def aQ (X:Cx)(scope:Scope)(cl:A0 (Str×A4))(C:A4)(s₂:A2)(H₂:Hp)(fp:Tg)(N:To):Cx :=
 {X with N:=N,s₀:=s₂,H₀:=H₂,env:=compEnvC scope cl C X.env,outer:=X.stack,stack:=X.stack,ex:=fp,fn:=λx=>scope.names.lookup x == some .cell,pn:=[],xe:=λ_ _=>False}
def sA {names:A0 (Str×NameKind)}{x:Str}{k:NameKind}(h:names.lookup x=some k):(x,k)∈names:=PySem.mem_of_lookup h
structure Qt (X:Cx)(scope:Scope)(lo:Nat)(cl:List (Str×Addr)):Prop where
 src:∀x c,cl.lookup x=some c->(X.env.cells.lookup x=some c/\scope.names.lookup x≠some .cell)\/lo<c
 inj:∀x y c,cl.lookup x=some c->cl.lookup y=some c->x=y
 has:∀y∈scope.names,y.2=.free\/y.2=.cell->∃c,cl.lookup y.1=some c
 fr:∀y,scope.names.lookup y=some .free->∃c,cl.lookup y=some c/\X.env.cells.lookup y=some c
theorem sX {X:Cx}{scope:Scope}{own caps:To}(n:aV X.env.scope scope own caps){cl:A0 (Str×A4)}{C:A4}{x:Str}{k:NameKind}(h:(compEnvC scope cl C X.env).kindOf x=some k)(hk:k=.cell\/k=.free) :
  ∃k,(x,k)∈scope.names/\(k=.free\/k=.cell):=by
 have h':(relabel scope X.env).names.lookup x=some k:=h;unfold relabel at h';rw[jT] at h'
 cases q:scope.names.lookup x with
 |none=>rw[q] at h';cases h'
 |some k0=>
  rw[q,DV] at h';have m:=sA q;have h2:=Option.some.inj h'
  by_cases hf:k0=.free
  ·subst hf;exact{_,m,.inl rfl}
  ·have hb:(k0 == NameKind.free)=false:=by simpa using hf
   rwa[hb,zbm,DY,if_false] at h2;rcases hk with hk|hk
   ·exact{_,m,.inr (h2.trans hk)}
   ·exact AH (h2.trans hk) hf
def za {X:Cx}{scope:Scope}{cl:A0 (Str×A4)}{C:A4}{x:Str}(h:scope.names.lookup x=some .free) :
  (compEnvC scope cl C X.env).kindOf x=some .cell\/(compEnvC scope cl C X.env).kindOf x=some .free:=by
 show(relabel scope X.env).names.lookup x=some .cell\/(relabel scope X.env).names.lookup x=some .free
 unfold relabel;rw[jT,h];rwa[DV];split
 ·exact .inl rfl
 ·exact .inr rfl
def Qt.ne {H:Hp}{lo b:Nat}{cl:A0 (Str×A4)}(B:Qt X scope lo cl)(f:ot X A1 H b)(hb:b<lo){x:Str}{c:A4}(e:cl.lookup x=some c):c≠b:=by
 rcases B.src x c e with⟨z,_⟩|z
 ·exact f.2.2.2.2.1 x c z
 ·exact Ne.symm (Ba (Dl hb z))
def JDl {X:Cx}{H₂:Hp}{s₂:A2}{scope:Scope}{own caps:To}{cl:A0 (Str×A4)}{C:A4}{fp:Tg}(I:aS X A1 Y H₂ s₂)(n:aV X.env.scope scope own caps)
  (B:Qt X scope s₂.heap.objs.size cl) (hC:s₂.heap.objs.size<=C) (hfs:∀b∈fp,b<s₂.heap.objs.size) (hf:∀b∈fp,ot X A1 H₂ b) :
  (aQ X scope cl C s₂ H₂ fp (own++caps)).Ok:=by
 refine{I.ok.mod,n.kind,I.ok.glob,I.ok.blt,hC,B.inj,λx hx=>?_,λx c h _=>?_,I.ok.hd,I.ok.frames,.inl rfl,λb hb=>{Ba (Be (hfs b hb) hC),λx c e=>B.ne (hf b hb) (hfs b hb) e},
  I.bs,Br I.ok.bsz I.sz,λb o e hb=>?_,λb hb z=>?_,I.stack,I.stkFree}
 ·rcases hx with hx|hx
  ·let⟨k,m,hk⟩:=sX n hx (.inl rfl);exact B.has _ m hk
  ·let⟨k,m,hk⟩:=sX n hx (.inr rfl);exact B.has _ m hk
 ·rcases B.src x c (by assumption) with⟨_,z⟩|z
  ·exact AH (eq_of_beq h) z
  ·exact zbI z
 ·rcases (hf b hb).2.2.2.1 with z|z
  ·exact I.ok.noex b o e z
  ·exact AH (Be (Be (BO e) I.ok.bsz) z) (Cg _)
 ·rcases BJ.mp (I.stkSub b z) with e|e
  ·exact(hf b hb).2.1 e
  ·exact(hf b hb).2.2.1 e
noncomputable def jf (own:L2.St)(ix:A0 Nat)(Y:L2.St):L2.St:=own++ix.map λi=>(Y[i]?).join
def qU {X:Cx}{H₂:Hp}{s₂:A2}{scope:Scope}{own caps:To}{ix:A0 Nat}{cl:A0 (Str×A4)}{C:A4}{fp:Tg}{h₁:AG}{tk:Nat}(I:aS X A1 Y H₂ s₂)(n:aV X.env.scope scope own caps)
  (B:Qt X scope s₂.heap.objs.size cl) (hC:s₂.heap.objs.size<=C) (hfs:∀b∈fp,b<s₂.heap.objs.size) (hf:∀b∈fp,ot X A1 H₂ b)
  (E5:∀x c,cl.lookup x=some c->s₂.heap.objs.size<c->h₁.IsCell c none) (BQ:ix.length=caps.length) (Bs:∀(j i:Nat) y,ix[j]?=some i->caps[j]?=some y->X.N[i]?=some y)
  (old:∀b o,s₂.heap.get? b=some o->h₁.get? b=some o) {m:Te} (hns:h₁.Ns C m) :
  aS (aQ X scope cl C s₂ H₂ fp (own++caps)) [] (jf (own.map λ_=>none) ix Y) H₂ {s₂ with heap:=h₁,toks:=tk}:=by
 refine{JDl I n B hC hfs hf,rfl,I.bare,Un.kept old,{m,hns,λi x v e1 e2 hv=>?_},λx c e=>?_,I.hok.fresh hC,λx c e=>(B.src x c e).elim (λz=>I.freeC x c z.1) λz=>I.hok.fresh (zbI z),λp hp=>?_,I.hok.kept old,?_}
 ·have e1:(own++caps)[i]?=some x:=e1
  unfold jf at e2
  by_cases hi:i<own.length
  ·rw[C0 ‹hi›,DA] at e2
   cases q:own[i]? with
   |none=>rw[q] at e2;cases e2
   |some y=>rw[q] at e2;cases e2
  ·rw[Dw ‹hi›] at e2
   rw[Dw ∅] at e1;rwa[BI] at e2;generalize i-own.length=j at e1 e2;rw[DA] at e2
   cases q:ix[j]? with
   |none=>rw[q] at e2;cases e2
   |some i'=>
    rw[q] at e2;have e3:(Y[i']?).join=some v:=Option.some.inj e2
    have e4:Y[i']?=some (some v):=by
     cases z:Y[i']? with
     |none=>rw[z] at e3;cases e3
     |some w'=>rw[z] at e3;cases w' with
      |none=>cases e3
      |some _=>cases e3;rfl
    have hN:=Bs j i' x q e1;let⟨mm,hl⟩:=n.cap x (DE e1);have hk:X.env.kindOf x=some .cell\/X.env.kindOf x=some .free:=n.free _ mm rfl;let⟨m0,hn0,hl0⟩:=I.loc
    have vis:M8 X.env.scope x:=by
     rcases hk with hk|hk
     ·exact .inr (.inl hk)
     ·exact .inr (.inr hk)
    let⟨u,r,l⟩:=hl0 i' x v hN e4 vis;refine{u,r,.inr {za hl,?_}};let⟨c,hc,hcx⟩:=B.fr x hl;rcases l with⟨l,_⟩|⟨_,c',EJ,z⟩
    ·exfalso
     rcases hk with hk|hk <;> rw[hk] at l <;> cases l
    ·rw[EJ] at hcx;cases hcx
     let⟨o,ho,hd⟩:=z;exact{_,hc,o,old _ _ ho,hd}
 ·rcases B.src x c e with⟨z,_⟩|z
  ·let⟨v,o,ho,hd⟩:=I.cell x c z
   exact{v,o,old _ _ ho,hd}
  ·exact{none,E5 x c e z}
 ·exact AH (show p∈([]:Td) from hp) ∅
 ·show(jf _ ix Y).length=(own++caps).length
  unfold jf;simp[BQ]
def pv (X:Cx)(ifs:Tl)(t:TT):Prop :=
 ∀(A1:Td) (s:A2) (Y:L2.St) (H:Hp) (Q:A9->Hp->Prop),aS X A1 Y H s->t Y H Q ->
  wpAny (model X.prog X.w) X.A (forIn ifs true λc r=>if r=true then do let ok ←isTrue c X.env (eval c X.env);pure (ForInStep.yield ok) else pure (ForInStep.yield r)) (TP X A1 Y Q) X.xe s
def NN:TT:=λ_ H Q=>Q true H
def JC8:pv X [] NN:=λA1 s Y H Q I h=>wpAny_tests_nil {H,I,h}
def JC7 {c:AD}{t:TT}(h:PT X c t):pv X [c] t:=λA1 s Y H Q I q=>wpAny_tests_one (h A1 s Y H Q I q)
theorem xx {prog:A7}{w:AF}{A:AI}{R:Result->A2->Prop}{s:A2}{elt target iter:AD}{ifs:Tl}{scope:Scope}{pos:Pos}{it acc:A6}{env:Env}(I:Nat->A2->Prop)
  (turn:∀n s,I n s->wpAny (model prog w) A (pyNext it) (λr s₁=>match r with
   |none=>R (.ok .next) s₁
   |some v=>wpAny (model prog w) A (letOwnedTupleGo target it v) (λ_ s₁'=>wpAny (model prog w) A (assign target env v) (λ_ s₂=>
     wpAny (model prog w) A (forIn ifs true λc r=>if r=true then do let ok ←isTrue c env (eval c env);pure (ForInStep.yield ok) else pure (ForInStep.yield r)) (λok s₃=>
      if ok=true then wpAny (model prog w) A (eval elt env) (λx s₄=>
       wpAny (model prog w) A (call (.builtin "list.append") [acc,x]) (λ_ s₅=>∃m,m<n/\I m s₅) (λ_ _=>False) s₄) (λ_ _=>False) s₃
      else ∃m,m<n/\I m s₃) (λ_ _=>False) s₂) (λ_ _=>False) s₁') (λ_ _=>False) s₁) (λ_ _=>False) s)
  (n:Nat) (h:I n s):codeAny (model prog w) A (.compLoop (.ListComp elt [{target,iter,ifs,0}] scope pos) 0 it acc env) R s:=by
 refine codeAny_loop rfl I (λn s hI=>?_) n h
 show wpAny _ A ((compTurn (.ListComp elt [{target,iter,ifs,0}] scope pos) 0 it acc env).onRaise (λx=>do noteFrame x env;theTreesLotGoes x)) _ _ s
 refine wpAny_noted ?_;rw[compTurn_list];refine AY (zb6 (AY (BK (turn n s hI) (λr s₁ h₁=>?_) λ_ _ h'=>h'.elim)))
 cases r with
 |none=>exact BG h₁
 |some v=>
  refine AY (BK h₁ (λ_ s₁' h₁'=>?_) λ_ _ h'=>h'.elim);refine AY (BK h₁' (λ_ s₂ h₂=>AY (BK h₂ (λok s₃ h₃=>?_) λ_ _ h'=>h'.elim)) λ_ _ h'=>h'.elim)
  cases ok with
  |false=>exact BG {rfl,h₃}
  |true=>
   exact AY (AY (BK h₃ (λx s₄ h₄=>AY (BK h₄ (λ_ s₅ h₅=>BG (BG {rfl,h₅})) λ_ _ h'=>h'.elim)) λ_ _ h'=>h'.elim))
def aS.adopt {X:Cx}{H:Hp}{s:A2}{a:A4}{o:HO}(I:aS X A1 Y H s)(f:ot X A1 H a)(hs:X.s₀.heap.objs.size<=a)(new:eY X.prog X.w (upd H a o) s.heap a o):aS X A1 Y (upd H a o) s:=by
 let⟨f0,f1,f2,f3,f4,f5⟩:=f;have ne:∀b u,H b=some u->b≠a:=λb u e z=>by rw[z,f0] at e;cases e
 refine{I.ok,I.os,I.bare,{I.base.keep,I.base.slot,λb ob q n hx'=>?_,I.base.there,λb xs q=>?_,λb ob u q=>?_,λb ps q=>?_},I.loc,I.cell,?_,λx c q=>?_,λp hp=>?_,λb u q=>?_,I.len}
 ·rw[L2.aT (Ba (Be (BO q) hs))];exact I.base.free b ob q n hx'
 ·rw[L2.aT (ne _ _ (I.base.tups b xs q))];exact I.base.tups b xs q
 ·rw[L2.aT (ne _ _ (I.base.frzs b ob u q))];exact I.base.frzs b ob u q
 ·let⟨more,r⟩:=I.base.tbls b ps q;exact{more,by rw[L2.aT (ne _ _ r)];exact r}
 ·rw[L2.aT (Ne.symm f1)];exact I.free
 ·rw[L2.aT (f4 x c q)];exact I.freeC x c q
 ·let⟨q1,q2,q3⟩:=I.pin p hp;exact{q1,by rw[L2.aT (f5 p hp)];exact q2,q3}
 ·by_cases hb:b=a
  ·subst hb;rw[L2.fX] at q;cases q;exact new
  ·rw[L2.aT hb] at q;exact(I.hok b u q).stay (λc v _ q=>q) (λc r=>by rw[L2.aT (ne _ _ r)];exact r) λc xs r=>by rw[L2.aT (ne _ _ r)];exact r
def zp (ix:A0 Nat)(own:To)(wi:TI)(g:TG)(tc:TT)(te:TE):TE:=λY H Q=>wi Y H λJ H1=>
 ∃W:Nat->Nat->A0 V->L2.St->Hp->Prop,(∃n,W 0 n [] (jf (own.map λ_=>none) ix Y) H1)/\∀i n ys τ H,W i n ys τ H ->
  (J.stop i H/\∀p,H p=none->Q (.ref p) (upd H p (.lst ys))) \/
  (J.go i H/\ys.length<sizeLine/\∀x H',J.yld i H x H'->g x τ H' λτ2 H2=>tc τ2 H2 λb H3=>if b=true then te τ2 H3 λy H4=>∃n',n'<n/\W (i+1) n' (ys++[y]) τ2 H4 else ∃n',n'<n/\W (i+1) n' ys τ2 H3)
theorem n4:∀(names:A0 (Str×NameKind)) (k:Nat) (acc:A0 (Str×A4)),cellsFrom k names acc=cellsFrom k names []++acc
 |[],_,_=>rfl
 |(x,d)::r,k,acc=>by
  unfold cellsFrom;split
  ·rw[n4 r (k+1) ((x,k)::acc),n4 r (k+1) [(x,k)],F1];rfl
  ·exact n4 r k acc
theorem sV {x:Str}{c:A4}:∀(names:A0 (Str×NameKind)) (k:Nat) (acc:A0 (Str×A4)),(x,c)∈cellsFrom k names acc->(x,c)∈acc\/(x,NameKind.cell)∈names
 |[],_,_,h=>.inl h
 |(y,d)::r,k,acc,h=>by
  unfold cellsFrom at h;split at h
  ·rename_i hk;rcases sV r (k+1) _ h with h|h
   ·rcases BJ.mp h with e|e
    ·cases e;rw[←eq_of_beq hk];exact .inr Bw
    ·exact .inl e
   ·exact .inr (Bk _ h)
  ·exact(sV r k acc h).imp id (Bk _)
theorem lM {x:Str}:∀(a b:A0 (Str×A4)),(a++b).lookup x=(a.lookup x).or (b.lookup x)
 |[],_=>rfl
 |(y,c)::a,b=>by
  rw[zcf,D8,D8];split
  ·rfl
  ·exact lM a b
def uT {X:Cx}{s₂ s₃:A2}{H₂:Hp}{E:Tc}{scope:Scope}{own caps:To}{cl:A0 (Str×A4)}{Q:Env->A2->Prop}(I:aS X A1 Y H₂ s₂)(n:aV X.env.scope scope own caps)(hs:s₂.heap.objs.size<s₃.heap.objs.size)
  (D7:∀x c,cl.lookup x=some c->X.env.cells.lookup x=some c) (Bm:∀y∈scope.names,y.2=.free->∃c,cl.lookup y.1=some c)
  (hQ:∀(h₁:AG) (cl':A0 (Str×A4)) (m:Te),(∀b o,s₃.heap.get? b=some o->h₁.get? b=some o)->h₁.Ns s₃.heap.objs.size m->Qt X scope s₂.heap.objs.size cl'->(∀x c,cl'.lookup x=some c->s₂.heap.objs.size<c->h₁.IsCell c none) ->
   Q {compEnvC scope cl' s₃.heap.objs.size X.env with scope:=scope} {s₃ with heap:=h₁}) :
  wpAny (model X.prog X.w) X.A (newFunctionEnv scope X.env.globals cl [] X.env.qual none .none (some X.env)) Q E s₃:=by
 rwa[newFunctionEnv,Option.isSome_some,if_true];refine AY (wpAny_alloc ?_);refine AY (wpAny_layCells _ (λname kind cells=>by cases hkc:kind == NameKind.cell <;> simp[hkc]) _ _ _ _ ?_);have ok:=cellsFrom_ok scope.names (s₃.heap.push {cls:=.type "dict",data:=.dict #[]}) (s₃.heap.objs.size+1) [] {λ_ _ hm=>(nomatch hm),List.Pairwise.nil} (by rw[zbn];exact BH _);have e1:=n4 scope.names (s₃.heap.push {cls:=.type "dict",data:=.dict #[]}).objs.size cl;refine BG (hQ _ _ _ (λb o e=>pushCells_keeps _ _ b o (Bl _ e)) ((Heap.Ns.new s₃.heap (.type "dict")).keeps (pushCells_keeps _ _)) ?_ ?_)
 all_goals
  rw[e1];generalize hO:cellsFrom (s₃.heap.push {cls:=.type "dict",data:=.dict #[]}).objs.size scope.names []=Ozz at ok e1;have own:∀{x c},Ozz.lookup x=some c->(pushCells (s₃.heap.push {cls:=.type "dict",data:=.dict #[]}) scope.names).IsCell c none/\s₂.heap.objs.size<c:=λ{x c} h=>{(ok.empty x c (PySem.mem_of_lookup h)).1,Dl hs (ok.empty x c (PySem.mem_of_lookup h)).2}
  have ol:∀{x c},cl.lookup x=some c->c<s₂.heap.objs.size:=λ{x c} h=>by
   let⟨v,o,q,_⟩:=I.cell x c (D7 x c h);exact BO q
  have spl:∀{x c},(Ozz++cl).lookup x=some c->Ozz.lookup x=some c\/(Ozz.lookup x=none/\cl.lookup x=some c):=λ{x c} h=>by
   rw[lM] at h
   cases q:Ozz.lookup x with
   |none=>rw[q] at h;exact .inr {rfl,h}
   |some d=>rw[q] at h;exact .inl h
 ·refine{λx c h=>?_,λx y c h1 h2=>?_,λy hy hk=>?_,λy hy=>?_}
  ·rcases spl h with h|⟨h1,h2⟩
   ·exact .inr (own h).2
   ·refine .inl {D7 x c h2,λz=>?_}
    have:=zbx scope.names (s₃.heap.push {cls:=.type "dict",data:=.dict #[]}).objs.size [] (.inl z);rw[hO,h1] at this;cases this
  ·rcases spl h1 with h1|⟨_,h1⟩ <;> rcases spl h2 with h2|⟨_,h2⟩
   ·exact PySem.name_of_addr ok.apart (PySem.mem_of_lookup h1) (PySem.mem_of_lookup h2)
   ·exact AH (Dl (own h1).2 (ol h2)) (Cg _)
   ·exact AH (Dl (own h2).2 (ol h1)) (Cg _)
   ·exact I.ok.inj x y c (D7 x c h1) (D7 y c h2)
  ·rw[lM]
   cases q:Ozz.lookup y.1 with
   |some d=>exact{d,rfl}
   |none=>
    rcases hk with hk|hk
    ·exact Bm y hy hk
    ·have:=zbx scope.names (s₃.heap.push {cls:=.type "dict",data:=.dict #[]}).objs.size [] (.inl (n.cell y hy hk))
     rw[hO,q] at this;cases this
  ·let⟨c,hc⟩:=Bm _ (sA hy) rfl
   refine{c,?_,D7 y c hc};rw[lM]
   cases q:Ozz.lookup y with
   |none=>exact hc
   |some d=>
    rw[←hO] at q;rcases sV _ _ _ (PySem.mem_of_lookup q) with z|z
    ·cases z
    ·have:=n.cell _ z rfl
     rw[hy] at this;cases this
 ·intro x c h hc
  rcases spl h with h|⟨_,h⟩
  ·exact(own h).1
  ·exact AH (Dl hc (ol h)) (Cg _)
def uR {X:Cx}{A1:Td}{Y:L2.St}{s₂:A2}{H₂:Hp}{E:Tc}{elt tg iter:AD}{ifs:Tl}{scope:Scope}{pos:Pos}{own caps:To}{ix:A0 Nat}{g:TG}{tc:TT}{te:TE}{Q:VK}{cl:A0 (Str×A4)}
  {it:A4} {fp:Tg} {tn:Nat->AG->Prop} {J:It} {RR:A6->A4->Result->A2->Prop}
  (hc:X.calm=true) (I:aS X A1 Y H₂ s₂) (T:v7 X.prog X.w X.K tg J fp it tn) (st:tn 0 s₂.heap) (hf:∀b∈fp,ot X A1 H₂ b) (n:aV X.env.scope scope own caps)
  (D7:∀x c,cl.lookup x=some c->X.env.cells.lookup x=some c) (Bm:∀y∈scope.names,y.2=.free->∃c,cl.lookup y.1=some c)
  (BQ:ix.length=caps.length) (Bs:∀(j i:Nat) y,ix[j]?=some i->caps[j]?=some y->X.N[i]?=some y)
  (hg:∀cl C,PG (aQ X scope cl C s₂ H₂ fp (own++caps)) tg g) (ht:∀cl C,pv (aQ X scope cl C s₂ H₂ fp (own++caps)) ifs tc) (he:∀cl C,PE (aQ X scope cl C s₂ H₂ fp (own++caps)) elt te)
  (W:Nat->Nat->A0 V->L2.St->Hp->Prop) (Fj:∃n,W 0 n [] (jf (own.map λ_=>none) ix Y) H₂)
  (hW:∀i n ys τ H,W i n ys τ H->(J.stop i H/\∀p,H p=none->Q (.ref p) (upd H p (.lst ys))) \/
   (J.go i H/\ys.length<sizeLine/\∀x H',J.yld i H x H'->g x τ H' λτ2 H2=>tc τ2 H2 λb H3=>if b=true then te τ2 H3 λy H4=>∃n',n'<n/\W (i+1) n' (ys++[y]) τ2 H4 else ∃n',n'<n/\W (i+1) n' ys τ2 H3))
  (hRR:∀(D C:A4) (s':A2) m H' ys,s'.heap.Ns C m->aS X A1 Y (upd H' D (.lst ys)) s'->ot X A1 (upd H' D (.lst ys)) C->Q (.ref D) (upd H' D (.lst ys))->RR (.ref D) C (.ok .next) s') :
  wpAny (model X.prog X.w) X.A (newList []) (λacc s₃=>wpAny (model X.prog X.w) X.A (newFunctionEnv scope X.env.globals cl [] X.env.qual none .none (some X.env)) (λcenv s₄=>
   codeAny (model X.prog X.w) X.A (.compStart (.ListComp elt [{tg,iter,ifs,0}] scope pos) 0 (.ref it) acc {cenv with scope:=relabel scope X.env}) (RR acc cenv.locals) s₄) E s₃) E s₂:=by
 refine zbe (uT (s₂:=s₂) I n (by show s₂.heap.objs.size<(s₂.heap.push _).objs.size;rw[zbn];exact F7 _) D7 Bm λh₁ cl m₁ E0 C4 B E5=>?_);dsimp only at C4 E0 ⊢;generalize Fm:s₂.heap.push {cls:=.type "list",dict:=none,data:=.seq ([]:Tf).toArray}=H2 at C4 E0 ⊢
 have hC:H2.objs.size=s₂.heap.objs.size+1:=by rw[←Fm,zbn]
 have below:∀b,b<s₂.heap.objs.size->b≠H2.objs.size/\b≠s₂.heap.objs.size:=λb hb=>{by rw[hC];exact Ba (Nat.lt_succ_of_lt hb),Ba hb}
 have hDC:s₂.heap.objs.size≠H2.objs.size:=by rw[hC];exact Ba (F7 _)
 have old:∀b o,s₂.heap.get? b=some o->h₁.get? b=some o:=λb o e=>E0 b o (Fm ▸ Bl _ e);have Fi:h₁.get? s₂.heap.objs.size=some {cls:=.type "list",data:=.seq ([]:Tf).toArray}:=E0 _ _ (Fm ▸ Cw _ rfl)
 have C8:∀b∈fp,b<s₂.heap.objs.size:=λb hb=>by let⟨o,e,_⟩:=T.obj _ _ st b hb;exact BO e
 have Cc:s₂.heap.objs.size<=H2.objs.size:=by rw[hC];exact zcq _
 have hfC:∀b∈fp,b<H2.objs.size:=λb hb=>Be (C8 b hb) Cc;have st1:tn 0 h₁:=T.keep 0 _ _ st λb _ o e=>old b o e;have I₀:=qU (tk:=s₂.toks) I n B Cc C8 hf E5 BQ Bs old C4;clear C4 E0
 have cellD:∀x c,cl.lookup x=some c->c≠s₂.heap.objs.size:=λx c e=>by
  rcases B.src x c e with⟨z,_⟩|z
  ·let⟨v,o,q,_⟩:=I.cell x c z;exact Ba (BO q)
  ·exact Ne.symm (Ba z)
 have stkD:∀b∈j6 X.stack,b<s₂.heap.objs.size:=λb hb=>by
  rcases BJ.mp (I.stkSub b hb) with e|e
  ·rw[e];exact I.lt
  ·let⟨_,o,q,_⟩:=I.funs.mem e;exact BO q
 have fpok:∀{ps:Td} {H:Hp},(∀b∈fp,H b=none)->(∀p∈ps,p.1∉fp)->∀b∈fp,ot (aQ X scope cl H2.objs.size s₂ H₂ fp (own++caps)) ps H b:=λ{ps H} hn hp b hb=>
  {hn b hb,Ba (hfC b hb),λz=>by
   rcases BJ.mp (I.stkSub b z) with e|e
   ·exact(hf b hb).2.1 e
   ·exact(hf b hb).2.2.1 e,.inl hb,λx c e=>B.ne (hf b hb) (C8 b hb) e,λp hp' z=>hp p (by simpa[aQ] using hp') (z ▸ hb)}
 have Dfp:s₂.heap.objs.size∉fp:=λz=>Cg _ (C8 _ z)
 have pinD:∀{H:Hp} {h:AG} {its:Tf} {k:Nat},H s₂.heap.objs.size=none->h.get? s₂.heap.objs.size=some {cls:=.type "list",data:=.seq its.toArray k} ->
   ∀p∈[((s₂.heap.objs.size,{cls:=.type "list",data:=.seq its.toArray k}):A4×Obj)],h.get? p.1=some p.2/\H p.1=none/\p.1≠H2.objs.size/\p.1∉j6 X.stack/\∀v,p.2.data≠.cell v:=λ{H h its k} hn e p hp=>by
  rw[Bi.mp hp];exact{e,hn,hDC,λz=>Cg _ (stkD _ z),λv z=>by cases z}
 have ig:∀s₃:A2,s₃={s₂ with heap:=h₁} ->
   codeAny (model X.prog X.w) X.A (.compLoop (.ListComp elt [{tg,iter,ifs,0}] scope pos) 0 (.ref it) (.ref s₂.heap.objs.size) (compEnvC scope cl H2.objs.size X.env)) (RR (.ref s₂.heap.objs.size) H2.objs.size) s₃:=by
  rintro s₃ rfl;let⟨n0,Fj⟩:=Fj
  refine xx (λn s'=>∃i ys its k τ H,aS (aQ X scope cl H2.objs.size s₂ H₂ fp (own++caps)) [(s₂.heap.objs.size,{cls:=.type "list",data:=.seq its.toArray k})] τ H s'/\tn i s'.heap/\(∀b∈fp,H b=none)/\bO ys its/\ys.length<=sizeLine/\W i n ys τ H) ?_ n0
   {0,[],[],0,_,H₂,I₀.pins_of (pinD (I.hok.fresh (BH _)) Fi),st1,λb hb=>(hf b hb).1,.nil,E8 _,Fj}
  rintro n s3 ⟨i,ys,its,k,τ,H,I3,FN,Fp,rv,hz,w3⟩;have hD3:=I3.pin _ (Bb _ Bw)
  have pfp:∀p∈[((s₂.heap.objs.size,{cls:=.type "list",data:=.seq its.toArray k}):A4×Obj)],p.1∉fp:=λp hp=>by rw[Bi.mp hp];exact Dfp
  rcases hW i n ys τ H w3 with⟨stop,q⟩|⟨go,BS,step⟩
  ·refine dk (T.done (aQ X scope cl H2.objs.size s₂ H₂ fp (own++caps)) rfl rfl rfl hc i _ s3 τ H (λ_ _=>False) I3 (fpok Fp pfp) FN stop) λr s4 hh=>?_
   let⟨hr,I4⟩:=hh;subst hr;have hD4:=I4.pin _ (Bb _ Bw);let⟨m,hm,_⟩:=id I4.loc;have IX:aS X A1 Y H s4:=I.call' (ch:=fp) I4.os I4.base I4.hok I4.bare λb hb=>{(hf b hb).2.2.2.1,(hf b hb).2.1,(hf b hb).2.2.2.2};have fD:ot X A1 H s₂.heap.objs.size:=I.fpOk (BH _) hD4.2.1;have IY:=aS.adopt (o:=.lst ys) IX fD I.sz {hz,its,k,rv,hD4.1};exact hRR _ _ s4 m H ys hm IY (I.fpOk Cc (by rw[L2.aT (Ne.symm hDC)];exact I4.free)) (q _ hD4.2.1)
  ·refine dk (T.item (aQ X scope cl H2.objs.size s₂ H₂ fp (own++caps)) rfl rfl rfl hc i _ s3 τ H (λ_ _=>False) I3 (fpok Fp pfp) FN go) λr s4 hh=>?_
   let⟨u,hr,h4⟩:=hh;subst hr;refine dk h4 λ_ s5 hh=>?_;let⟨x,H5,I5,r5,y5,DB,fr5⟩:=hh;have I5':=I5.pinned (fpok fr5 pfp) (T.obj _ _ DB);refine dk (hg _ _ _ s5 τ H5 x u _ I5' r5 (step x H5 y5)) λ_ s6 hh=>?_;let⟨Y6,H6,I6,q6⟩:=hh;refine dk (ht _ _ _ s6 Y6 H6 _ I6 q6) λok s7 hh=>?_;let⟨H7,I7,q7⟩:=hh;have memD:∀p∈kI fp s5.heap,p.1≠s₂.heap.objs.size:=λp hp z=>Dfp (z ▸ (qj hp).1)
   cases ok with
   |true=>
    refine dk (he _ _ _ s7 Y6 H7 _ I7 q7) λu8 s8 hh=>?_;let⟨y,H8,I8,r8,n',Cb,w8⟩:=hh;have Fo:=I8.pin (s₂.heap.objs.size,_) (Bb _ (zbb _ Bw));refine append_at (hsz:=by rw[BR,←rv.length];exact hz) Fo.1 λh9 sb hD9=>?_;have I8':aS (aQ X scope cl H2.objs.size s₂ H₂ fp (own++caps)) (kI fp s5.heap) Y6 H8 s8:=I8.pins_of λp hp=>I8.pin p (Bb _ (Bb _ hp))
    have I9:aS (aQ X scope cl H2.objs.size s₂ H₂ fp (own++caps)) (kI fp s5.heap) Y6 H8 {s8 with heap:=h9}:=I8'.turned (t':=s8.toks) (it:=s₂.heap.objs.size) (λb o hb e=>sb.extBut b o hb e) Fo.2.1 hDC (.inr (BH _))
     cellD λp hp=>memD p (by simpa[aQ] using hp)
    have e9:(its.toArray.push u8)=(its++[u8]).toArray:=by simp
    rw[e9] at hD9;refine{n',Cb,i+1,ys++[y],its++[u8],k+1,Y6,H8,I9.pins_of (pinD Fo.2.1 hD9),T.keep _ _ _ DB λb hb o e=>(I9.pin (b,o) (Bb _ (eu hb e))).1,λb hb=>?_,rv.append (.cons r8 .nil),by rw[Bx];exact BS,w8};let⟨o,e,d⟩:=T.obj _ _ DB b hb;exact(I9.pin (b,o) (Bb _ (eu hb e))).2.1
   |false=>
    let⟨n',Cb,w8⟩:=q7;have hD7:=I7.pin (s₂.heap.objs.size,_) (Bb _ (zbb _ Bw));refine{n',Cb,i+1,ys,its,k,Y6,H7,I7.pins_of (pinD hD7.2.1 hD7.1),T.keep _ _ _ DB λb hb o e=>(I7.pin (b,o) (Bb _ (Bb _ (eu hb e)))).1,λb hb=>?_,rv,hz,w8};let⟨o,e,d⟩:=T.obj _ _ DB b hb;exact(I7.pin (b,o) (Bb _ (Bb _ (eu hb e)))).2.1
 exact codeAny_compStart_list (ig _ rfl) (T.self _ 0 _ _ _ st1 (ig _ rfl))
def JCm {X:Cx}{elt tg iter:AD}{ifs:Tl}{scope:Scope}{pos:Pos}{own caps:To}{ix:A0 Nat}{wi:TI}{g:TG}{tc:TT}{te:TE}(hc:X.calm=true)(n:aV X.env.scope scope own caps)
  (BQ:ix.length=caps.length) (Bs:∀(j i:Nat) y,ix[j]?=some i->caps[j]?=some y->X.N[i]?=some y) (hi:PI X tg iter wi)
  (hb:∀cl C s₂ H₂ fp,PG (aQ X scope cl C s₂ H₂ fp (own++caps)) tg g/\pv (aQ X scope cl C s₂ H₂ fp (own++caps)) ifs tc/\PE (aQ X scope cl C s₂ H₂ fp (own++caps)) elt te)
  (hs:∀x,foldedSetIterable iter X.env x=pure x:=by intro _;rfl):PE X (.ListComp elt [{tg,iter,ifs,0}] scope pos) (zp ix own wi g tc te):=by
 intro A1 s Y H Q I h;let⟨cl,Bt,D7,Bm⟩:=lV (env:=X.env) (scope:=scope) λy hy hf=>I.ok.has y.1 (n.free y hy hf);rw[eval_ListComp];refine zbp (use:=none) rfl hs Bt n.kind n.loc (dk (hi A1 s Y H _ I h) λv s1 h1=>dk h1 λitv s2 h2=>?_);let⟨it,fp,tn,J,H2,e,I2,T,FP,f2,W,w0,turn⟩:=h2;subst e;refine uR (RR:=λacc C=>compPost (model X.prog X.w) X.A X.xe none (EP X A1 Y Q) acc C) hc I2 T FP f2 n D7 Bm BQ Bs (λcl C=>(hb cl C s2 H2 fp).1) (λcl C=>(hb cl C s2 H2 fp).2.1) (λcl C=>(hb cl C s2 H2 fp).2.2) W w0 turn ?_;intro D C s' m H' ys hm IY fC q;refine{m,hm,λh' sb=>{.ref D,_,IY.turned (t':=s'.toks) (it:=C) (λb o hb e=>sb.extBut b o hb e) fC.1 fC.2.1 fC.2.2.2.1 fC.2.2.2.2.1 fC.2.2.2.2.2,rfl,q}}
def JC6 {X:Cx}{elt tg iter:AD}{ifs:Tl}{scope:Scope}{pos CQ py:Pos}{own caps:To}{ix:A0 Nat}{wi:TI}{g:TG}{tc:TT}{te:TE}{i:Nat}{y:Str}(hc:X.calm=true)(n:aV X.env.scope scope own caps)
  (hN:X.N.Nodup) (hy:X.N[i]?=some y) (hyl:Hw X.env.scope y)
  (BQ:ix.length=caps.length) (Bs:∀(j i:Nat) y,ix[j]?=some i->caps[j]?=some y->X.N[i]?=some y) (hi:PI X tg iter wi)
  (hb:∀cl C s₂ H₂ fp,PG (aQ X scope cl C s₂ H₂ fp (own++caps)) tg g/\pv (aQ X scope cl C s₂ H₂ fp (own++caps)) ifs tc/\PE (aQ X scope cl C s₂ H₂ fp (own++caps)) elt te)
  (hsw:swapsWith (.ListComp elt [{tg,iter,ifs,0}] scope pos) (some (.Name y py)) CQ.line X.env=pure true)
  (hs:∀x,foldedSetIterable iter X.env x=pure x:=by intro _;rfl) (hf:X.fn y=true\/X.env.scope.names.lookup y=some .local:=by first|exact .inl rfl|exact .inr rfl|assumption) :
  PS X (.Assign [.Name y py] (.ListComp elt [{tg,iter,ifs,0}] scope pos) CQ) (CG (zp ix own wi g tc te) (uJ i)):=by
 intro A1 s Y H Zz I h;let⟨cl,Bt,D7,Bm⟩:=lV (env:=X.env) (scope:=scope) λy hy hf=>I.ok.has y.1 (n.free y hy hf);rw[exec_Assign_Name_used _ _ _ _ hsw];refine AY (zb6 (AY ?_))
 show wpAny _ X.A (do let _ ←comprehension (.ListComp elt [{tg,iter,ifs,0}] scope pos) scope X.env _ (newList []) false (eval iter X.env) (some (assign (.Name y py) X.env))) _ _ s
 refine AY (BK (zbp (use:=some (assign (.Name y py) X.env)) (Q:=λ_ s'=>SP X A1 Zz .next s') rfl hs Bt n.kind n.loc (dk (hi A1 s Y H _ I h) λv s1 h1=>dk h1 λitv s2 h2=>?_)) (λ_ s' hq=>BG (BG hq)) λ_ _ e=>e);let⟨it,fp,tn,J,H2,e,I2,T,FP,f2,W,w0,turn⟩:=h2;subst e;refine uR (Q:=λx H1=>uJ i x Y H1 Zz.nx) (RR:=λacc C=>compPost (model X.prog X.w) X.A X.xe (some (assign (.Name y py) X.env)) (λ_ s'=>SP X A1 Zz .next s') acc C) hc I2 T FP f2 n D7 Bm BQ Bs (λcl C=>(hb cl C s2 H2 fp).1) (λcl C=>(hb cl C s2 H2 fp).2.1) (λcl C=>(hb cl C s2 H2 fp).2.2) W w0 turn ?_;intro D C s' m H' ys hm IY fC q
 show wpAny _ X.A (assign (.Name y py) X.env (.ref D)) _ _ _
 refine wpAny_assign_Name (uo (v:=.ref D) IY hN hy hyl rfl (λs'' IZ hh=>?_) hf);let⟨a,sa,ha⟩:=hh
 have nC:C≠a:=by
  rcases ha with ha|ha
  ·rw[ha];exact fC.2.1
  ·exact Ne.symm (fC.2.2.2.2.1 _ _ ha)
 refine{m,hm.sameBut sa nC,λh' sb=>{_,_,IZ.turned (t':=s''.toks) (it:=C) (λb o hb e=>sb.extBut b o hb e) fC.1 fC.2.1 fC.2.2.2.1 fC.2.2.2.2.1 fC.2.2.2.2.2,q}}
section
variable {K:AJ}{m:Tg}{Y:L2.St}{H:Hp}{U:ah}
def Ko {B:A9->Hp->Prop}(h:iP K gS Y H B):NN Y H B:=by let⟨O,U,m,d,U',hl,hs,e,k⟩:=h;cases e;exact k H m .refl hs
def uS {O:Lo}{k:Nat}{ix:A0 Nat}{own:To}(hk:own.length=k)(h:eI K m H O Y):eI K m H (fU k ix O) (jf (own.map λ_=>none) ix Y):=by
 subst hk;unfold fU jf;refine{by simp,λi d e=>?_};by_cases hi:i<own.length
 ·rw[C0 ‹hi›,zbr] at e;split at e <;> cases e
 ·rw[Dw ‹hi›] at e;rw[Dw ‹hi›];rwa[zbB,BI] at e ⊢;generalize i-own.length=j at e ⊢;rw[DA] at e ⊢
  cases q:ix[j]? with
  |none=>rw[q] at e;cases e
  |some i'=>
   rw[q] at e;have e3:(O[i']?).join=some d:=Option.some.inj e;have e4:O[i']?=some (some d):=by
    cases z:O[i']? with
    |none=>rw[z] at e3;cases e3
    |some w'=>rw[z] at e3;cases w' with
     |none=>cases e3
     |some _=>cases e3;rfl
   let⟨v,q1,q2⟩:=h.2 i' d e4;exact{v,by simp[q1],q2}
end
mutual
noncomputable def pF:D->PyData
 |.non=>.none
 |.bl b=>.bool b
 |.int i=>.int i
 |.str x=>.str x
 |.tup xs=>.tuple (toPys xs)
 |.fl xs=>.list (toPys xs)
 |.fd _ _=>.none
 |.key _=>.none
noncomputable def toPys:A0 D->A0 PyData
 |[]=>[]
 |x::xs=>pF x::toPys xs
end
mutual
noncomputable def iK:Nat->D->A9
 |_,.non=>true
 |_,.bl _=>true
 |_,.int _=>true
 |_,.str x=>PyData.strOk x
 |_,.fd _ _=>false
 |_,.key _=>false
 |0,.tup _=>false
 |0,.fl _=>false
 |n+1,.tup xs=>okDs n xs
 |n+1,.fl xs=>okDs n xs
noncomputable def okDs:Nat->A0 D->A9
 |_,[]=>true
 |n,x::xs=>iK n x&&okDs n xs
end
mutual
noncomputable def j2:D->D->A9
 |.bl a,y=>match y with|.bl b=>a == b|.int j=>(if a then 1 else 0) == j|_=>false
 |.int i,y=>match y with|.bl b=>i == (if b then 1 else 0)|.int j=>i == j|_=>false
 |.str x,y=>match y with|.str z=>x == z|_=>false
 |.tup xs,y=>match y with|.tup ys=>eqDs xs ys|_=>false
 |.fl xs,y=>match y with|.fl ys=>eqDs xs ys|_=>false
 |_,y=>match y with|.non=>true|.fd _ _=>true|.key _=>true|_=>false
noncomputable def eqDs:A0 D->A0 D->A9
 |[],[]=>true
 |x::xs,y::ys=>j2 x y&&eqDs xs ys
 |_,_=>false
end
def JA2 (x y:D)(xs ys:A0 D):eqDs (x::xs) (y::ys)=(j2 x y&&eqDs xs ys):=rfl
mutual
theorem yW:∀a b:D,PyData.eqv (pF a) (pF b)=j2 a b
 |.non,b=>by cases b <;> rfl
 |.bl _,b=>by cases b <;> rfl
 |.int _,b=>by cases b <;> rfl
 |.str _,b=>by cases b <;> rfl
 |.tup xs,b=>by
  cases b with
  |tup ys=>exact eqDs_py xs ys
  |_=>rfl
 |.fl xs,b=>by
  cases b with
  |fl ys=>exact eqDs_py xs ys
  |_=>rfl
 |.fd _ _,b=>by cases b <;> rfl
 |.key _,b=>by cases b <;> rfl
theorem eqDs_py:∀a b:A0 D,PyData.eqvAll (toPys a) (toPys b)=eqDs a b
 |[],b=>by cases b <;> rfl
 |x::xs,b=>by
  cases b with
  |nil=>rfl
  |cons y ys=>rw[JA2,←yW x y,←eqDs_py xs ys];rfl
end
mutual
theorem DH:∀(n:Nat) (d:D),iK n d=true->(pF d).canLay0=true/\(pF d).depth<=n
 |_,.non,_=>by simp[pF,PyData.canLay0,PyData.depth]
 |_,.bl _,_=>by simp[pF,PyData.canLay0,PyData.depth]
 |_,.int _,_=>by simp[pF,PyData.canLay0,PyData.depth]
 |n,.str x,h=>by
  have h:PyData.strOk x=true:=by cases n <;> simpa[iK] using h
  simp[pF,PyData.canLay0,PyData.depth,h]
 |n,.fd _ _,h=>by cases n <;> simp[iK] at h
 |n,.key _,h=>by cases n <;> simp[iK] at h
 |0,.tup _,h=>by simp[iK] at h
 |0,.fl _,h=>by simp[iK] at h
 |n+1,.tup xs,h=>by let⟨a,b⟩:=okDs_py n xs (by simpa[iK] using h);rwa[pF,PyData.canLay0,PyData.depth];exact{a,by omega}
 |n+1,.fl xs,h=>by let⟨a,b⟩:=okDs_py n xs (by simpa[iK] using h);rwa[pF,PyData.canLay0,PyData.depth];exact{a,by omega}
theorem okDs_py:∀(n:Nat) (ds:A0 D),okDs n ds=true->PyData.canLayAll0 (toPys ds)=true/\PyData.depthAll (toPys ds)<=n
 |_,[],_=>by simp[toPys,PyData.canLayAll0,PyData.depthAll]
 |n,x::xs,h=>by
  have h':iK n x=true/\okDs n xs=true:=by cases n <;> simpa[okDs] using h
  let⟨a1,b1⟩:=DH n x h'.1;let⟨a2,b2⟩:=okDs_py n xs h'.2;rwa[toPys,PyData.canLayAll0,PyData.depthAll,a1,a2,zbN,true_and];omega
end
def nP {d:D}(h:iK 60 d=true):SeqAt.shaped (pF d)=true:=by let⟨a,b⟩:=DH 60 d h;unfold SeqAt.shaped;rw[a,zb7];exact Bq ∅
section
variable {X:Cx}{A1:Td}{Y:L2.St}{H:Hp}{s:A2}
mutual
theorem wG (I:aS X A1 Y H s):∀(k:Nat) (d:D) (v:V) (u:A6),iK k d=true->au X.K H d v->bQ v u->∃as,Reads s.heap u (pF d) as
 |_,.non,v,u,_,h,r=>by rwa[au] at h;subst h;cases r;exact{_,.none}
 |_,.bl b,v,u,_,h,r=>by rwa[au] at h;subst h;cases r;exact{_,.bool b}
 |_,.int i,v,u,_,h,r=>by rwa[au] at h;subst h;let⟨t,rfl⟩:=r;exact{_,.int i t}
 |_,.str x,v,u,_,h,r=>by rwa[au] at h;subst h;let⟨t,rfl⟩:=r;exact{_,.str x t}
 |_,.fd _ _,v,u,hk,h,r=>by simp[iK] at hk
 |_,.key _,v,u,hk,h,r=>by simp[iK] at hk
 |0,.tup xs,v,u,hk,h,r=>by simp[iK] at hk
 |0,.fl xs,v,u,hk,h,r=>by simp[iK] at hk
 |k+1,.tup xs,v,u,hk,h,r=>by rwa[au] at h;let⟨a,vs,rfl,q,h⟩:=h;cases r;let⟨its,rv,⟨o,e,c,n,hd⟩,_⟩:=I.tuple q;let⟨as,ra⟩:=readss_of I k xs vs its (by simpa[iK] using hk) h rv;exact{_,.tuple e c hd ‹ra›}
 |k+1,.fl xs,v,u,hk,h,r=>by rwa[au] at h;let⟨a,vs,rfl,q,h⟩:=h;cases r;let⟨its,rv,⟨o,n,e,c,_,hd⟩,_⟩:=I.list q.sq;let⟨as,ra⟩:=readss_of I k xs vs its (by simpa[iK] using hk) h rv;exact{_,.list e c hd ‹ra›}
theorem readss_of (I:aS X A1 Y H s):∀(k:Nat) (ds:A0 D) (vs:A0 V) (us:Tf),okDs k ds=true->RelDs X.K H ds vs->bO vs us->∃as,ReadsAll s.heap us (toPys ds) as
 |_,[],vs,us,_,h,r=>by rwa[RelDs] at h;subst h;cases r;exact{_,.nil}
 |k,d::ds,vs,us,hk,h,r=>by
  have hk:iK k d=true/\okDs k ds=true:=by cases k <;> simpa[okDs] using hk
  rwa[RelDs] at h;let⟨v,vr,rfl,h1,h2⟩:=h
  cases r with
  |cons r1 r2=>
   let⟨as,q1⟩:=wG I k d v _ hk.1 h1 r1;let⟨bs,q2⟩:=readss_of I k ds vr _ hk.2 h2 r2;exact{_,.cons q1 q2}
end
end
noncomputable def qH:R->ah->UO D
 |.v d,_=>some d
 |.p n,U=>match U[n]? with|some (.lst xs)=>some (.fl xs)|some (.fz xs)=>some (.fl xs)|_=>none
 |_,_=>none
noncomputable def gm (neg:A9):R->R->ah->UO (R×ah):=λx y U=>(qH x U).bind λa=>(qH y U).bind λb=>if (iK 60 a&&iK 60 b)=true then some (.v (.bl (if neg then !j2 a b else j2 a b)),U) else none
def KQ (K:AJ)(neg:A9):R2:=λv u H Q=>∃m U x y d,bz K m H U/\ay K m H x v/\ay K m H y u/\gm neg x y U=some (.v (.bl d),U)/\Q (.bl d) H
def Mo {neg:A9}:px K (gm neg) (KQ K neg):=by
 intro m H U x y d U' v u Q s rx ry e k;have e0:=e;unfold gm at e;let⟨a,e1,e⟩:=AO.mp e;let⟨b,e2,e⟩:=AO.mp e;split at e
 ·cases e;exact{m,U,x,y,_,s,rx,ry,e0,k _ H m .refl s (by rwa[ay,au])}
 ·cases e
theorem lB {X:Cx}{H:Hp}{s:A2}{m:Tg}{U:ah}{x:R}{d:D}{v:V}{u:A6}(I:aS X A1 Y H s)(S:bz X.K m H U)(r:ay X.K m H x v)(ru:bQ v u)(e:qH x U=some d)(hk:iK 60 d=true):∃as,Reads s.heap u (pF d) as:=by
 cases x with
 |v d'=>cases e;exact wG I 60 _ _ _ hk r ru
 |s _ _=>cases e
 |x _=>cases e
 |f _ _=>cases e
 |p n=>
  have hl:∃xs,d=.fl xs/\lK (.p n) U=some xs:=by
   rwa[qH] at e;split at e
   ·rename_i xs q;cases e;exact{xs,rfl,by simp[lK,q]}
   ·rename_i xs q;cases e;exact{xs,rfl,by simp[lK,q]}
   ·cases e
  let⟨xs,rfl,e2⟩:=hl;let⟨a,vs,rfl,q,rr⟩:=nu S r e2;cases ru;let⟨its,rv,⟨o,n',e,c,_,hd⟩,_⟩:=I.list q;let⟨as,ra⟩:=readss_of I 59 xs vs its (by simpa[iK] using hk) rr rv;exact{_,.list e c hd ‹ra›}
def DF {X:Cx}(hu:X.A.units+64<cLine):l8 X (compareOp .Eq) (KQ X.K false):=by
 intro A1 s Y H v u v' u' Q I rv ru q;let⟨m,U,x,y,d,S,rx,ry,e,q⟩:=q;unfold gm at e;let⟨a,e1,e⟩:=AO.mp e;let⟨b,e2,e⟩:=AO.mp e;split at e
 ·rename_i z;rw[DX] at z;cases e;let⟨as,r1⟩:=lB I S rx rv e1 z.1;let⟨bs,r2⟩:=lB I S ry ru e2 z.2;exact eq_dataH r1 r2 (nP z.1) (nP z.2) hu {_,H,I,by rw[yW];rfl,q}
 ·cases e
def Lu {X:Cx}(hu:X.A.units+64<cLine):l8 X (compareOp .NotEq) (KQ X.K true):=by
 intro A1 s Y H v u v' u' Q I rv ru q;let⟨m,U,x,y,d,S,rx,ry,e,q⟩:=q;unfold gm at e;let⟨a,e1,e⟩:=AO.mp e;let⟨b,e2,e⟩:=AO.mp e;split at e
 ·rename_i z;rw[DX] at z;cases e;let⟨as,r1⟩:=lB I S rx rv e1 z.1;let⟨bs,r2⟩:=lB I S ry ru e2 z.2;exact ne_dataH r1 r2 (nP z.1) (nP z.2) hu {_,H,I,by rw[yW];rfl,q}
 ·cases e
noncomputable def kx (neg:A9)(c:D):R->ah->UO (R×ah):=λx U=>match c,x with
 |.non,.v .non=>some (.v (.bl (!neg)),U)
 |.bl b,.v (.bl a)=>some (.v (.bl (if neg then !(a == b) else a == b)),U)
 |_,_=>some (.v (.bl neg),U)
def KO (neg:A9)(c:V):R2:=λx y H Q=>y=c/\Q (.bl (if neg then !decide (x=c) else decide (x=c))) H
section
variable {X:Cx}
def JCo:l8 X (compareOp .Is) (KO false .non):=Lx
end
def Mb {m:Tg}{H:Hp}{neg:A9}{c:D}{cv v:V}{x d:R}{U U':ah}(hc:(c=.non/\cv=.non)\/∃b,c=.bl b/\cv=.bl b)(r:ay K m H x v)(e:kx neg c x U=some (d,U')) :
  U'=U/\d=.v (.bl (if neg then !decide (v=cv) else decide (v=cv))):=by
 have fin:v≠cv->some (R.v (.bl neg),U)=some (d,U')->U'=U/\d=.v (.bl (if neg then !decide (v=cv) else decide (v=cv))):=λh e=>by
  cases e;cases neg <;> simp[h]
 have nn:∀d0,d0≠.non->au K H d0 v->v≠.non:=λd0 h1 h2 z=>by
  subst z;cases d0 <;> rwa[au] at h2 <;> first|exact h1 rfl|(let⟨_,_,_,h,_⟩:=h2;cases h;done)|(let⟨_,_,h,_⟩:=h2;cases h;done)|(let⟨_,h,_⟩:=h2;cases h;done)|cases h2
 have nb:∀d0 b,(∀a,d0≠.bl a)->au K H d0 v->v≠.bl b:=λd0 b h1 h2 z=>by
  subst z;cases d0 <;> rwa[au] at h2 <;> first|exact h1 _ rfl|(let⟨_,_,_,h,_⟩:=h2;cases h;done)|(let⟨_,_,h,_⟩:=h2;cases h;done)|(let⟨_,h,_⟩:=h2;cases h;done)|cases h2
 have np:∀n,ay K m H (.p n) v->v≠.non/\∀b,v≠.bl b:=λn ⟨a,e,_⟩=>{λz=>(by rw[e] at z;cases z),λb z=>(by rw[e] at z;cases z)};have ns:∀b' n,ay K m H (.s b' n) v->v≠.non/\∀b,v≠.bl b:=λb' n ⟨a,_,e,_⟩=>{λz=>(by rw[e] at z;cases z),λb z=>(by rw[e] at z;cases z)};have nx:∀c,ay K m H (.x c) v->v≠.non/\∀b,v≠.bl b:=λc ⟨a,_,_,e,_⟩=>{λz=>(by rw[e] at z;cases z),λb z=>(by rw[e] at z;cases z)};have nf:∀L ds,ay K m H (.f L ds) v->v≠.non/\∀b,v≠.bl b:=λL ds ⟨a,_,_,_,_,e,_⟩=>{λz=>(by rw[e] at z;cases z),λb z=>(by rw[e] at z;cases z)};rcases hc with⟨rfl,rfl⟩|⟨b,rfl,rfl⟩
 ·cases x with
  |v d0=>
   by_cases h0:d0=.non
   ·subst h0
    have r:v=.non:=by simpa only[ay,au] using r
    subst r;cases e;cases neg <;> simp
   ·have:=nn d0 h0 r
    cases d0 <;> first|exact AH rfl h0|exact fin this e
  |p n=>have:=(np n r).1;exact fin this e
  |s b' n=>have:=(ns b' n r).1;exact fin this e
  |x c=>have:=(nx c r).1;exact fin this e
  |f L ds=>have:=(nf L ds r).1;exact fin this e
 ·cases x with
  |v d0=>
   by_cases h0:∃a,d0=.bl a
   ·let⟨a,rfl⟩:=h0
    have r:v=.bl a:=by simpa only[ay,au] using r
    subst r;cases e;cases neg <;> cases a <;> cases b <;> simp
   ·have:=nb d0 b (λa z=>h0 {a,z}) r
    cases d0 <;> first|exact AH {_,rfl} h0|exact fin this e
  |p n=>have:=(np n r).2 b;exact fin this e
  |s b' n=>have:=(ns b' n r).2 b;exact fin this e
  |x c=>have:=(nx c r).2 b;exact fin this e
  |f L ds=>have:=(nf L ds r).2 b;exact fin this e
def Oc {H:Hp}{Q:VK}{fa:FE}{neg:A9}{c:D}{cv:V}(hc:(c=.non/\cv=.non)\/∃b,c=.bl b/\cv=.bl b)(h:aN K (fT (kx neg c) fa) Y H Q):J7 (KO neg cv) (aN K fa) (tC cv) Y H Q:=by let⟨O,U,m,d,U',hl,hs,e,k⟩:=h;let⟨⟨x,U1⟩,e1,e⟩:=AO.mp e;refine{O,U,m,x,U1,hl,hs,e1,λv H1 m1 x1 s1 r1=>{rfl,?_}};let⟨rfl,rfl⟩:=Mb hc r1 e;exact k _ H1 m1 x1 s1 (by rwa[ay,au])
noncomputable def TQ:R->ah->UO String
 |.v .non,_=>some "NoneType"
 |.v (.bl _),_=>some "bool"
 |.v (.int _),_=>some "int"
 |.v (.str _),_=>some "str"
 |.v (.tup _),_=>some "tuple"
 |.v (.fl _),_=>some "list"
 |.v (.fd _ _),_=>some "dict"
 |.v (.key _),_=>some "tuple"
 |.p n,U=>match U[n]? with|some (.lst _)=>some "list" | some (.fz _)=>some "list" | some (.dct _)=>some "dict" | some (.dr _)=>some "dict" | _=>none
 |.s _ _,_=>none
 |.x _,_=>none
 |.f _ _,_=>none
noncomputable def gi (T:String):R->ah->UO (R×ah):=λx U=>(TQ x U).bind λt=>some (.v (.bl (t == T || (t == "bool" && T == "int"))),U)
def sY (K:AJ)(T:String):Prop:=∀t∈["NoneType","bool","int","str","tuple","list","dict"],PySem.W.kitOne K (.type t) (.type T)=some (t == T || (t == "bool" && T == "int"))
def Os (K:AJ)(T:String):A0 V->Hp->VK->Prop:=λvs H Q=>∃m U x v d,vs=[v,.ty T]/\bz K m H U/\ay K m H x v/\gi T x U=some (.v (.bl d),U)/\Q (.bl d) H
def JDv {X : Cx} {T : String} (hT : sY X.K T) : kA X (.builtin "isinstance") (Os X.K T) := by
  intro A1 s Y H vs us Q I rv q
  obtain⟨m, U, x, v, d, rfl, S, rx, e, q⟩ := q
  obtain⟨t, e1, e⟩ := AO.mp e
  cases e
  cases rv with
  | cons r1 rr=>
    cases rr with
    | cons r2 rr=>
      cases rr
      cases r2
      have fin : ∀ tk, EP X A1 Y Q (.bool (t == T || (t == "bool" && T == "int"))) { s with toks := tk } :=λtk=> {.bl _, H, I.tok tk, rfl, q}
      cases x with
      | v d0=>
        cases d0 with
        | non => cases e1; have r : v = .non := by simpa only [ay, au] using rx
                 subst r; cases r1; exact DU PySem.W.kitx_none I.kIn True.intro (hT _ ∅) (λz=> nomatch z) fin
        | bl b => cases e1; have r : v = .bl b := by simpa only [ay, au] using rx
                  subst r; cases r1; exact DU PySem.W.kitx_bool I.kIn True.intro (hT _ ∅) (λz=> nomatch z) fin
        | int i => cases e1; have r : v = .int i := by simpa only [ay, au] using rx
                   subst r; obtain⟨t, rfl⟩ := r1; exact DU PySem.W.kitx_int I.kIn True.intro (hT _ ∅) (λz=> nomatch z) fin
        | str i => cases e1; have r : v = .str i := by simpa only [ay, au] using rx
                   subst r; obtain⟨t, rfl⟩ := r1; exact DU PySem.W.kitx_str I.kIn True.intro (hT _ ∅) (λz=> nomatch z) fin
        | tup xs=>
          cases e1
          rwa[ay, au] at rx
          obtain⟨a, ws, rfl, q', _⟩ := rx
          cases r1
          obtain⟨its, _, ⟨o, h1, h2, _⟩, _⟩ := I.tuple q'
          exact DU PySem.W.kitx_tuple I.kIn {o, h1, h2} (hT _ ∅) (λz=> nomatch z) fin
        | fl xs=>
          cases e1
          rwa[ay, au] at rx
          obtain⟨a, ws, rfl, q', _⟩ := rx
          cases r1
          obtain⟨its, _, ⟨o, n, h1, h2, _⟩, _⟩ := I.list q'.sq
          exact DU zca I.kIn {o, h1, h2} (hT _ ∅) (λz=> nomatch z) fin
        | fd ks ds=>
          cases e1
          rwa[ay, au] at rx
          obtain⟨a, o', es, rfl, q', _⟩ := rx
          cases r1
          obtain⟨_, _, _, vs, _, p⟩ := (show eY X.prog X.w H s.heap a (.frz o' (.dK es)) from I.hok a _ q')
          obtain⟨o, Bz, ep, h1, h2, _⟩ := p
          exact DU zcb I.kIn {o, h1, h2.1} (hT _ ∅) (λz=> nomatch z) fin
        | key ks=>
          cases e1
          rwa[ay, au] at rx
          obtain⟨a, rfl, q'⟩ := rx
          cases r1
          obtain⟨its, _, ⟨o, h1, h2, _⟩, _⟩ := I.tuple (.inl (.inl q'))
          exact DU PySem.W.kitx_tuple I.kIn {o, h1, h2} (hT _ ∅) (λz=> nomatch z) fin
      | s _ _=> cases e1
      | x _=> cases e1
      | f _ _=> cases e1
      | p n=>
        obtain⟨a, rfl, ha⟩ := rx
        cases r1
        delta TQ at e1
        dsimp only at e1
        split at e1
        · rename_i xs z
          cases e1
          obtain⟨ws, q', _⟩ := S.cell n _ a z ha
          obtain⟨its, _, ⟨o, n, h1, h2, _⟩, _⟩ := I.list (.inl (.inl q'))
          exact DU zca I.kIn {o, h1, h2} (hT _ ∅) (λz=> nomatch z) fin
        · rename_i xs z
          cases e1
          obtain⟨o', ws, q', _⟩ := S.cell n _ a z ha
          obtain⟨its, _, ⟨o, n, h1, h2, _⟩, _⟩ := I.list (.inl (.inr {o', q'}))
          exact DU zca I.kIn {o, h1, h2} (hT _ ∅) (λz=> nomatch z) fin
        · rename_i kvs z
          cases e1
          obtain⟨es, q', _⟩ := S.cell n _ a z ha
          obtain⟨_, _, vs, _, p⟩ := (show eY X.prog X.w H s.heap a (.dK es) from I.hok a _ q')
          obtain⟨o, Bz, ep, h1, h2, _⟩ := p
          exact DU zcb I.kIn {o, h1, h2.1} (hT _ ∅) (λz=> nomatch z) fin
        · rename_i kvs z
          cases e1
          obtain⟨es, q', _⟩ := S.cell n _ a z ha
          obtain⟨_, _, vs, _, p⟩ := (show eY X.prog X.w H s.heap a (.dK es) from I.hok a _ q')
          obtain⟨o, Bz, ep, h1, h2, _⟩ := p
          exact DU zcb I.kIn {o, h1, h2.1} (hT _ ∅) (λz=> nomatch z) fin
        · cases e1
def KE {H:Hp}{Q:VK}{fa:FE}{T:String}(h:aN K (fT (gi T) fa) Y H Q):M2 (Os K T) (mL (aN K fa) (mL (tC (.ty T)) u5)) Y H Q:=by let⟨O,U,m,d,U',hl,hs,e,k⟩:=h;let⟨⟨x,U1⟩,e1,e⟩:=AO.mp e;have e0:=e;let⟨t,e2,e⟩:=AO.mp e;cases e;exact{O,U,m,x,_,hl,hs,e1,λv H1 m1 x1 s1 r1=>{m1,_,x,v,_,rfl,s1,r1,e0,k _ H1 m1 x1 s1 (by rwa[ay,au])}}
noncomputable def lX:A0 D->UO (A0 A9)
 |[]=>some []
 |.bl b::r=>(lX r).bind λbs=>some (b::bs)
 |_::_=>none
noncomputable def EI (any:A9):A0 R->ah->UO (R×ah)
 |[x],U=>(lK x U).bind λxs=>(lX xs).bind λbs=>some (.v (.bl (if any then bs.any id else bs.all id)),U)
 |_,_=>none
def Ou (K:AJ)(any:A9):A0 V->Hp->VK->Prop:=λvs H Q=>∃(a:A4) (bs:A0 A9),vs=[.ref a]/\nK K H a (bs.map V.bl)/\Q (.bl (if any then bs.any id else bs.all id)) H
theorem uP {K:AJ}{H:Hp}:∀{ds:A0 D} {bs:A0 A9} {vs:A0 V},lX ds=some bs->RelDs K H ds vs->vs=bs.map V.bl
 |[],_,_,e,h=>by cases e;rwa[RelDs] at h;exact h
 |.bl b::r,_,_,e,h=>by let⟨bs,e1,e⟩:=AO.mp e;cases e;rwa[RelDs] at h;let⟨v,vr,rfl,h1,h2⟩:=h;rwa[au] at h1;subst h1;rw[uP e1 h2];rfl
 |.non::_,_,_,e,_=>by cases e
 |.int _::_,_,_,e,_=>by cases e
 |.str _::_,_,_,e,_=>by cases e
 |.tup _::_,_,_,e,_=>by cases e
 |.fl _::_,_,_,e,_=>by cases e
 |.fd _ _::_,_,_,e,_=>by cases e
 |.key _::_,_,_,e,_=>by cases e
def PH {any:A9}:EZ K (EI any) (Ou K any):=by
 intro m H U xs d U' vs Q s r e k;unfold EI at e;split at e
 ·rename_i x;let⟨ys,e1,e⟩:=AO.mp e;let⟨bs,e2,e⟩:=AO.mp e;cases e;let⟨v,rfl,r1⟩:=vc r;let⟨a,ws,rfl,q,r2⟩:=nu s r1 e1;rw[uP e2 r2] at q;exact{a,bs,rfl,q,k _ H m .refl s (by rwa[ay,au])}
 ·cases e
def JDk {bs:A0 A9}{its:Tf}(r:bO (bs.map V.bl) its):∀(i:Nat) v,its.toArray[i]?=some v->v=.bool (bs.getD i false)/\i<bs.length:=λi v e=>by
 have e:its[i]?=some v:=by simpa using e
 have hi:i<its.length:=(Bn.mp e).1;have hl:=r.length;rw[BI] at hl;have hb:i<bs.length:=by omega
 let⟨u,q1,q2⟩:=bO.get (i:=i) (x:=.bl bs[i]) r (by simp[hb]);rw[e] at q1;cases q1;cases q2;simp[hb]
def AT {bs:A0 A9}:((List.range bs.length).all λi=>bs.getD i false)=bs.all id:=by
 rw[zcl,F0,F0];constructor
 ·intro h x hx;let⟨i,hi,rfl⟩:=List.getElem_of_mem hx;have:=h i (zb2.mpr hi);simpa[hi] using this
 ·intro h i hi;have hi:=zb2.mp hi;have:=h bs[i] (zcg hi);simpa[hi] using this
theorem JBb {X:Cx}(hc:X.calm=true):kA X (.builtin "all") (Ou X.K false):=by
 intro A1 s Y H vs us Q I rv q;let⟨a,bs,rfl,q',q⟩:=q
 cases rv with
 |cons r1 rr=>
  cases rr;cases r1;let⟨its,rv,p,hz⟩:=I.list q';have BS:a<s.heap.objs.size:=by let⟨o,n,e,_⟩:=p;exact BO e
  refine call_all_walk (wpAny_pyIter_list p.isList ?_);refine{_,_,_,_,_,_,λi=>bs.getD i false,rfl,Walks.list (A:=X.A.in1) (show X.A.in1.handled=none from I.ok.hd hc) s.heap.objs.size a (Ba BS) its.toArray,{{_,Cw _ rfl,rfl,rfl},p.isList.push _},λi v s' Q' E' hv hq=>?_,λh' tk hk=>?_}
  ·rw[(JDk rv i v hv).1];exact zbl hq
  ·have hl:its.toArray.size=bs.length:=by have:=rv.length;rw[BI] at this;simp[this]
   rw[hl,AT];refine{.bl _,H,I.kept (t':=tk) λb o e=>hk b o ?_ (Bl _ e),rfl,q};intro z;rw[Bi.mp z] at e;exact AH (BO e) (Cg _)
end HW
namespace HW
variable {K:AJ}
open PyProof.Rows L2 HS
theorem nO:∀{ns:Tj} {its:Tf},bO (ns.map V.int) its->IntsAre its ns
 |[],its,h=>by cases h;exact .nil
 |n::ns,its,h=>by
  cases h with
  |cons r t=>let⟨tk,rfl⟩:=r;exact .cons n tk (nO t)
abbrev pT (o:Obj):HO:=.frz o (.ext λ_=>True)
noncomputable def Ad:A0 D->UO (Tj)
 |[]=>some []
 |.int n::r=>(Ad r).map (n :: ·)
 |_=>none
theorem xo:∀{ds:A0 D} {ns:Tj},Ad ds=some ns->ds=ns.map D.int
 |[],ns,e=>by cases e;rfl
 |d::r,ns,e=>by cases d <;> rwa[Ad] at e <;> first|cases e|skip;let⟨ms,e1,rfl⟩:=DG.mp e;rw[xo e1];rfl
theorem xn {K:AJ}{H:Hp}:∀{ns:Tj} {vs:A0 V},RelDs K H (ns.map D.int) vs->vs=ns.map V.int
 |[],vs,h=>h
 |n::ns,vs,h=>by
  let⟨v,r,rfl,h1,h2⟩:=h;have h1:v=.int n:=by simpa only[au] using h1
  rw[h1,xn h2];rfl
noncomputable def Bc:A0 R->ah->UO (R×ah)
 |[.v (.int i),.v (.int j)],U=>some (.v (.int (if j<i then j else i)),U)
 |_,_=>none
noncomputable def tU:A0 R->ah->UO (R×ah)
 |[.v (.int i),.v (.int j)],U=>some (.v (.int (if j>i then j else i)),U)
 |_,_=>none
def N7 {m:Tg}{H:Hp}{x y:R}{vs:A0 V}(r:bU K m H [x,y] vs):∃v w,vs=[v,w]/\ay K m H x v/\ay K m H y w:=by let⟨v,r,rfl,h1,h2⟩:=r;let⟨w,r,rfl,h2,h3⟩:=h2;have h3:r=[]:=h3;subst h3;exact{v,w,rfl,h1,h2}
def Pq :EZ K Bc (λxs H Q=>∃i j,xs=[.int i,.int j]/\Q (.int (if j<i then j else i)) H):=by
 intro m H U xs d U' vs Q s r e k;unfold Bc at e;split at e
 ·cases e;let⟨v,w,rfl,r1,r2⟩:=N7 r;rwa[ay,au] at r1 r2;subst r1;subst r2;exact{_,_,rfl,k _ H m .refl s (by rwa[ay,au])}
 ·cases e
def Pr :EZ K tU (λxs H Q=>∃i j,xs=[.int i,.int j]/\Q (.int (if j>i then j else i)) H):=by
 intro m H U xs d U' vs Q s r e k;unfold tU at e;split at e
 ·cases e;let⟨v,w,rfl,r1,r2⟩:=N7 r;rwa[ay,au] at r1 r2;subst r1;subst r2;exact{_,_,rfl,k _ H m .refl s (by rwa[ay,au])}
 ·cases e
noncomputable def QN (neg:A9):R->R->ah->UO (R×ah)
 |.v (.int i),y,U=>(iM y U).bind λds=>(Ad ds).bind λns=>some (.v (.bl (if neg then !ns.contains i else ns.contains i)),U)
 |_,_,_=>none
theorem xp {i:Int}:∀{ns:Tj},EW (.int i) (ns.map V.int)=ns.contains i
 |[]=>rfl
 |n::ns=>by
  have ih:=xp (i:=i) (ns:=ns);unfold EW at ih ⊢;rw[BA,CP,ih,zbJ]
  show(n == i || ns.contains i)=_
  rw[show(n == i)=(i == n) from zcl.mpr {λh=>beq_iff_eq.mpr (beq_iff_eq.mp h).symm,λh=>beq_iff_eq.mpr (beq_iff_eq.mp h).symm}]
theorem uK:∀{ns:Tj},(ns.map V.int).all nE=true
 |[]=>rfl
 |n::ns=>by rw[BA,zbt,uK];rfl
def PC {neg:A9}:px K (QN neg) (KP K neg):=by
 intro m H U x y d U' v u Q s rx ry e k;unfold QN at e;split at e
 ·let⟨ds,e0,e⟩:=AO.mp e;let⟨ns,e1,e⟩:=AO.mp e;cases e;rwa[ay,au] at rx;subst rx;let⟨a,ws,rfl,q,rr⟩:=lp s ry e0;rw[xo e1] at rr;rw[xn rr] at q;refine{a,ns.map V.int,rfl,q,rfl,uK,k _ H m .refl s ?_};rwa[ay,au,xp]
 ·cases e
noncomputable def OK (kvs ps:A0 (cQ×V)):A0 (cQ×V):=ps.foldl (λa p=>ll a p.1 p.2) kvs
noncomputable def wJ (kvs:A0 (cQ×D))(k:cQ)(v:D):A0 (cQ×D):=if (kvs.any λkv=>decide (kv.1=k))=true then kvs.map (λkv=>if kv.1=k then (kv.1,v) else kv) else kvs++[(k,v)]
noncomputable def zJ (kvs ps:A0 (cQ×D)):A0 (cQ×D):=ps.foldl (λa p=>wJ a p.1 p.2) kvs
def KD (K:AJ)(H:Hp)(kvs:A0 (cQ×D))(es:A0 (cQ×V)):Prop:=es.map (·.1)=kvs.map (·.1)/\RelDs K H (kvs.map (·.2)) (es.map (·.2))
def KD.nil {H:Hp}:KD K H [] []:={rfl,rfl}
def KD.any {H:Hp}{kvs:A0 (cQ×D)}{es:A0 (cQ×V)}(r:KD K H kvs es)(k:cQ):(es.any λkv=>decide (kv.1=k))=(kvs.any λkv=>decide (kv.1=k)):=by
 have h1:∀{β:Type} (l:A0 (cQ×β)),(l.any λkv=>decide (kv.1=k))=((l.map (·.1)).any λx=>decide (x=k)):=λl=>by rw[List.any_map];rfl
 rw[h1,h1,r.1]
def KD.cons {K:AJ}{H:Hp}{k k':cQ}{d:D}{v:V}{kvs:A0 (cQ×D)}{es:A0 (cQ×V)}:KD K H ((k,d)::kvs) ((k',v)::es) ↔ k'=k/\au K H d v/\KD K H kvs es:=by
 constructor
 ·rintro⟨h1,h2⟩;rwa[BA,List.cons.injEq] at h1;let⟨w,r,e,h3,h4⟩:=h2;rwa[BA,List.cons.injEq] at e;let⟨rfl,rfl⟩:=e;exact{h1.1,h3,h1.2,h4}
 ·rintro⟨rfl,h1,h2,h3⟩;exact{by simp[h2],{_,_,rfl,h1,h3}}
theorem KD.repl {K:AJ}{H:Hp}{k:cQ}{d:D}{v:V}(rd:au K H d v):∀{kvs:A0 (cQ×D)} {es:A0 (cQ×V)},KD K H kvs es->KD K H (kvs.map λkv=>if kv.1=k then (kv.1,d) else kv) (es.map λkv=>if kv.1=k then (kv.1,v) else kv)
 |[],[],_=>.nil
 |[],e::es,h=>by have:=h.1;simp at this
 |q::kvs,[],h=>by have:=h.1;simp at this
 |(a,x)::kvs,(b,y)::es,h=>by
  let⟨rfl,h1,h2⟩:=KD.cons.mp h;have ih:=KD.repl (k:=k) rd h2;rw[BA,BA];by_cases e:b=k
  ·rw[A8 e,A8 e];exact KD.cons.mpr {rfl,rd,ih}
  ·rw[AE e,AE e];exact KD.cons.mpr {rfl,h1,ih}
theorem KD.snoc {K:AJ}{H:Hp}{k:cQ}{d:D}{v:V}(rd:au K H d v):∀{kvs:A0 (cQ×D)} {es:A0 (cQ×V)},KD K H kvs es->KD K H (kvs++[(k,d)]) (es++[(k,v)])
 |[],[],_=>KD.cons.mpr {rfl,rd,.nil}
 |[],e::es,h=>by have:=h.1;simp at this
 |q::kvs,[],h=>by have:=h.1;simp at this
 |(a,x)::kvs,(b,y)::es,h=>by let⟨rfl,h1,h2⟩:=KD.cons.mp h;exact KD.cons.mpr {rfl,h1,KD.snoc rd h2}
def KD.put {H:Hp}{k:cQ}{d:D}{v:V}{kvs:A0 (cQ×D)}{es:A0 (cQ×V)}(r:KD K H kvs es)(rd:au K H d v):KD K H (wJ kvs k d) (ll es k v):=by
 unfold wJ ll;rw[r.any k];split
 ·exact r.repl rd
 ·exact r.snoc rd
theorem KD.putAll {K:AJ}{H:Hp}:∀{ps:A0 (cQ×D)} {qs:A0 (cQ×V)} {kvs:A0 (cQ×D)} {es:A0 (cQ×V)},KD K H kvs es->KD K H ps qs->KD K H (zJ kvs ps) (OK es qs)
 |[],[],_,_,r,_=>r
 |[],e::es,_,_,_,h=>by have:=h.1;simp at this
 |q::kvs,[],_,_,_,h=>by have:=h.1;simp at this
 |(a,x)::ps,(b,y)::qs,_,_,r,h=>by let⟨rfl,h1,h2⟩:=KD.cons.mp h;exact KD.putAll (ps:=ps) (qs:=qs) (r.put h1) h2
def vd (neg:A9):R2:=λx y H Q=>∃p kvs k,y=.ref p/\x=kV k/\Rd H p (.dK kvs)/\Q (.bl (if neg then !(kY kvs k).isSome else (kY kvs k).isSome)) H
def JBe {X:Cx}(hu:X.A.units+64<cLine):l8 X (compareOp .In) (vd false):=by intro A1 s Y H x y v u Q I rx ry h;let⟨p,kvs,k,rfl,rfl,hR,q⟩:=h;cases ry;exact S4 ∅ I (.inl {kvs,k,hR,rfl,rfl}) rx λs' I'=>{.bl _,H,I',rfl,q}
theorem kX (k:cQ):∀(es:A0 (cQ×V)),(kY es k).isSome=es.any λkv=>decide (kv.1=k)
 |[]=>rfl
 |(a,v)::es=>by
  have ih:=kX k es;unfold kY at ih ⊢;by_cases e:a=k
  ·simp[e]
  ·simpa[e] using ih
noncomputable def RQ (neg:A9):R->R->ah->UO (R×ah)
 |.v (.int i),.p n,U=>match U[n]? with
  |some (.dct kvs)=>some (.v (.bl (if neg then !(kvs.any λkv=>decide (kv.1=.inl i)) else kvs.any λkv=>decide (kv.1=.inl i))),U)
  |some (.fzd kvs)=>some (.v (.bl (if neg then !(kvs.any λkv=>decide (kv.1=.inl i)) else kvs.any λkv=>decide (kv.1=.inl i))),U)
  |_=>QN neg (.v (.int i)) (.p n) U
 |x,y,U=>QN neg x y U
def Py {K:AJ}{neg:A9}:px K (RQ neg) (λx y H Q=>KP K neg x y H Q\/vd neg x y H Q):=by
 intro m H U x y d U' v u Q s rx ry e k;unfold RQ at e;split at e
 ·rename_i i n;split at e
  ·rename_i kvs hn
   cases e;rwa[ay,au] at rx;subst rx;let⟨a,rfl,ha⟩:=ry;let⟨es,ea,e1,e2⟩:=s.cell _ _ a hn ha;refine .inr {a,es,.inl i,rfl,rfl,.inl ea,k _ H m .refl s ?_};have hv:=(kX (.inl i) es).trans (KD.any (K:=K) (H:=H) {e1,e2} (.inl i));rw[hv];rwa[ay,au]
  ·rename_i kvs hn
   cases e;rwa[ay,au] at rx;subst rx;let⟨a,rfl,ha⟩:=ry;let⟨o,es,ea,e1,e2⟩:=s.cell _ _ a hn ha;refine .inr {a,es,.inl i,rfl,rfl,.inr {o,ea},k _ H m .refl s ?_};have hv:=(kX (.inl i) es).trans (KD.any (K:=K) (H:=H) {e1,e2} (.inl i));rw[hv];rwa[ay,au]
  ·exact .inl (PC m H U _ _ d U' v u Q s rx ry e k)
 ·exact .inl (PC m H U _ _ d U' v u Q s rx ry e k)
theorem RelDs.erase {K:AJ}{H:Hp}:∀{ds:A0 D} {vs:A0 V} (k:Nat),RelDs K H ds vs->RelDs K H (ds.eraseIdx k) (vs.eraseIdx k)
 |[],vs,k,h=>by have h:vs=[]:=h;subst h;cases k <;> exact rfl
 |d::ds,vs,0,h=>by let⟨v,r,rfl,_,h2⟩:=h;exact h2
 |d::ds,vs,k+1,h=>by let⟨v,r,rfl,h1,h2⟩:=h;exact{v,r.eraseIdx k,rfl,h1,RelDs.erase k h2}
end HW
namespace HW
open PyProof.Rows L2
mutual
noncomputable def mj:D->A9
 |.tup xs=>flatDs xs
 |.fl _=>false
 |.fd _ _=>false
 |_=>true
noncomputable def flatDs:A0 D->A9
 |[]=>true
 |x::xs=>mj x&&flatDs xs
end
noncomputable def S8:R->ah->UO D
 |.v d,_=>some d
 |.p n,U=>match U[n]? with
  |some (.lst xs)=>some (.fl xs)|some (.fz xs)=>some (.fl xs)
  |some (.dct kvs)=>some (.fd (kvs.map (·.1)) (kvs.map (·.2)))|some (.fzd kvs)=>some (.fd (kvs.map (·.1)) (kvs.map (·.2)))
  |_=>none
 |.s _ _,_=>none
 |.x _,_=>none
 |.f _ _,_=>none
noncomputable def ou:A0 R->ah->UO (A0 D)
 |[],_=>some []
 |x::xs,U=>(S8 x U).bind λd=>(ou xs U).bind λds=>some (d::ds)
abbrev MC:=A0 D->UO et
noncomputable def uL:et->A9
 |.lst xs=>flatDs xs
 |.dct kvs=>flatDs (kvs.map (·.2))
 |_=>false
noncomputable def El:oP->UO et
 |.rt (.p n) U=>match U[n]? with|some (.lst xs)=>some (.lst xs)|some (.dct kvs)=>some (.dct kvs)|_=>none
 |_=>none
noncomputable def ye (k:Nat)(b:FS):MC:=λds=>(b (ds.map (λd=>some (.v d))++List.replicate (k-ds.length) none) []).bind El
noncomputable def ju (f:MC)(n:Nat)(fa:FA):FE:=λO U=>(fa O U).bind λa=>(ou a.1 a.2).bind λds=>if ds.length=n then (f ds).bind λc=>if uL c=true then some (.p a.2.length,a.2++[c]) else none else none
section
variable {P:A7}{w:AF}{H H0:Hp}{h h0:AG}{a:A4}{u:HO}{o:Obj}{fs ex:Tg}
def kz.thaw (ok:kz P w H h)(e:H a=some (.frz o u))(hu:jE u):kz P w (upd H a u) h:=by
 have ne:∀c v,H c=some v->v≠.frz o u->c≠a:=λc v q n z=>by rw[z,e] at q;exact n (Option.some.inj q).symm
 have own:∀c y,H c=some (.own y)->upd H a u c=some (.own y):=λc y r=>by rw[L2.aT (ne c _ r ∅)];exact r
 have tup:∀c xs,H c=some (.tup xs)->upd H a u c=some (.tup xs):=λc xs r=>by rw[L2.aT (ne c _ r ∅)];exact r
 intro b v q;by_cases hb:b=a
 ·subst hb;rw[L2.fX] at q;cases q;exact(ok b _ e).2.stay (λc v _ q=>q) (λc r=>own c _ r) tup
 ·rw[L2.aT hb] at q;exact(ok b v q).stay (λc v _ q=>q) (λc r=>own c _ r) tup
def Un.thaw (un:Un fs ex (upd H0 a (.frz o u)) H h0 h)(e:H0 a=some u)(hu:jE u):Un fs ex H0 (upd H a u) h0 h:=by
 have nn:∀b,H0 b=none->b≠a:=λb z y=>by rw[y,e] at z;cases z
 have nf:∀b v,H0 b=some v->¬ jE v->b≠a:=λb v q n=>jE.ne e hu q n;refine{λb ob q n hb hx=>un.keep b ob q (by rw[L2.aT (nn b n)];exact n) hb hx,λb ob q n hb hx=>un.slot b ob q (by rw[L2.aT (nn b n)];exact n) hb hx,λb ob q n hx=>?_,un.there,λb xs q=>?_,λb ob v q=>?_,λb ps q=>?_}
 ·rw[L2.aT (nn b n)];exact un.free b ob q (by rw[L2.aT (nn b n)];exact n) hx
 ·have hb:=nf b _ q λz=>z;rw[L2.aT hb];exact un.tups b xs (by rw[L2.aT hb];exact q)
 ·have hb:=nf b _ q λz=>z;rw[L2.aT hb];exact un.frzs b ob v (by rw[L2.aT hb];exact q)
 ·have hb:=nf b _ q λz=>z;let⟨more,r⟩:=un.tbls b ps (by rw[L2.aT hb];exact q);exact{more,by rw[L2.aT hb];exact r}
end
noncomputable def bor (sp:Sp):Sp:=λvs H Q E=>sp vs H Q E\/∃a u,H a=some u/\jE u/\∀o,sp vs (upd H a (.frz o u)) (λv H2=>Q v (upd H2 a u)) E
noncomputable def borN:Nat->Sp->Sp
 |0,sp=>sp
 |n+1,sp=>bor (borN n sp)
def dF.bor {K:AJ}{mg:Te}{base:AG}{k:Nat}{f:A4}{ps:To}{sp:Sp}(F:dF P w K mg base oh k f fd ps sp) :
  dF P w K mg base oh k f fd ps (HW.bor sp):=by
 refine{λvs H Q E h=>?_,λA outer s H args us vs Q E hr he hb hv hs=>?_}
 ·rcases h with h|⟨a,u,e,hu,h⟩
  ·exact F.len vs H Q E h
  ·exact F.len _ _ _ _ (h {cls:=.none,data:=.fields #[]})
 ·rcases hs with hs|⟨a,u,e,hu,hs⟩
  ·exact F.run A outer s H args us vs Q E hr he hb hv hs
  ·let⟨o,ok⟩:=kz.frz he.hok e hu
   have nn:∀b,H b=none->upd H a (.frz o u) b=none:=λb z=>by rw[L2.aT (λy=>by rw[y,e] at z;cases z)];exact z
   refine Eh (F.run A outer s (upd H a (.frz o u)) args us vs _ E hr {he.frames,he.mod,λb ob q=>{(he.bs b ob q).1,nn b (he.bs b ob q).2},he.bsz,he.funs,λb hb=>nn b (he.frf b hb),ok,he.bare} hb hv (hs o)) λr s' hq=>?_
   cases r with
   |error e=>exact hq
   |ok fl=>
    cases fl with
    |next=>exact hq
    |brk=>exact hq
    |cont=>exact hq
    |ret x=>
     let⟨v,H',os,bare,un,hok,rv,q⟩:=hq;exact{v,_,os,bare,Un.thaw un e hu,kz.thaw hok (un.frzs a o u L2.fX) hu,rv,q}
theorem dF.borN {K:AJ}{mg:Te}{base:AG}{k:Nat}{f:A4}{ps:To}{sp:Sp}(F:dF P w K mg base oh k f fd ps sp) :
  ∀n,dF P w K mg base oh k f fd ps (HW.borN n sp)
 |0=>F
 |n+1=>dF.bor (dF.borN F n)
noncomputable def tm (H H2:Hp):Hp:=λb=>match H b with|some u=>some u|none=>H2 b
def Cz (H H1:Hp):Prop:=∀b,H1 b=H b\/∃u o,H b=some u/\jE u/\H1 b=some (.frz o u)
section
variable {K:AJ}{H H1 H2:Hp}
def Cz.refl:Cz H H:=λ_=>.inl rfl
def Cz.upd {a:A4}{u:HO}{o:Obj}(c:Cz H H1)(e:H1 a=some u)(hu:jE u):Cz H (upd H1 a (.frz o u)):=λb=>by
 by_cases hb:b=a
 ·subst hb;rw[L2.fX];rcases c b with z|⟨u',o',_,_,z⟩
  ·exact .inr {u,o,by rw[←z,e],hu,rfl}
  ·rw[e] at z;cases z;exact hu.elim
 ·rw[L2.aT hb];exact c b
def Cz.trans (c:Cz H H1)(c':Cz H1 H2):Cz H H2:=λb=>by
 rcases c' b with z|⟨u,o,z1,z2,z3⟩
 ·rw[z];exact c b
 ·rcases c b with y|⟨u',o',_,_,y⟩
  ·exact .inr {u,o,by rw[←y,z1],z2,z3}
  ·rw[z1] at y;cases y;exact z2.elim
def Cz.tf (c:Cz H H1):TF H H1:=by
 refine{λa xs e=>?_,λa o u e=>?_}
 ·rcases c a with z|⟨u,o,z1,z2,z3⟩
  ·rw[z,e]
  ·rw[e] at z1;cases z1;exact z2.elim
 ·rcases c a with z|⟨u',o',z1,z2,z3⟩
  ·rw[z,e]
  ·rw[e] at z1;cases z1;exact z2.elim
theorem Gj (s:xG H H2):tm H H2=H2:=by
 funext b;unfold tm
 cases e:H b with
 |none=>rfl
 |some u=>exact(s b u e).symm
def zB:xG H (tm H H2):=λa o e=>by unfold tm;rw[e]
def Gi {a:A4}{u v:HO}(e:H a=some u):upd (tm (upd H a v) H2) a u=tm H H2:=by
 funext b;by_cases hb:b=a
 ·subst hb;rw[L2.fX];unfold tm;rw[e]
 ·rw[L2.aT hb];unfold tm;rw[L2.aT hb]
def Kx {a:A4}{xs:A0 V}(c:Cz H H1)(s:xG H1 H2)(h:oa K H2 a xs):oa K (tm H H2) a xs:=by
 have back:∀v,¬ jE v->(∀o u,v=.frz o u->¬ jE u)->H2 a=some v->tm H H2 a=some v:=λv nf nz e=>by
  unfold tm
  cases q:H a with
  |none=>exact e
  |some u=>
   rcases c a with z|⟨u',o',z1,z2,z3⟩
   ·rw[q] at z;rw[s a u z] at e;exact e
   ·rw[s a _ z3] at e
    cases e;exact AH z2 (nz o' u' rfl)
 rcases h with(h|⟨o,h⟩)|h
 ·exact .inl (.inl (back _ (λz=>z) (λ_ _ z=>by cases z) h))
 ·exact .inl (.inr {o,back _ (λz=>z) (λo u z=>by cases z;exact λz=>z) h})
 ·exact .inr h
theorem JEj {a:A4}{xs:A0 V}(c:Cz H H1)(s:xG H1 H2)(e:H2 a=some (.tup xs)):tm H H2 a=some (.tup xs):=by
 unfold tm
 cases q:H a with
 |none=>exact e
 |some u=>
  rcases c a with z|⟨u',o',z1,z2,z3⟩
  ·rw[q] at z;rw[s a u z] at e;exact e
  ·rw[s a _ z3] at e
   cases e
mutual
theorem JDs (c:Cz H H1)(s:xG H1 H2):∀(d:D) (v:V),mj d=true->au K H2 d v->au K (tm H H2) d v
 |.non,_,_,h=>by simpa only[au] using h
 |.bl _,_,_,h=>by simpa only[au] using h
 |.int _,_,_,h=>by simpa only[au] using h
 |.str _,_,_,h=>by simpa only[au] using h
 |.tup xs,v,f,h=>by rwa[au] at h ⊢;let⟨a,vs,e,q,r⟩:=h;exact{a,vs,e,Kx c s q,flats_ovr c s xs vs (by simpa only[mj] using f) r}
 |.fl _,_,f,_=>by simp[mj] at f
 |.fd _ _,_,f,_=>by simp[mj] at f
 |.key _,_,_,h=>by rwa[au] at h ⊢;let⟨a,e,q⟩:=h;exact{a,e,JEj c s q}
theorem flats_ovr (c:Cz H H1)(s:xG H1 H2):∀(ds:A0 D) (vs:A0 V),flatDs ds=true->RelDs K H2 ds vs->RelDs K (tm H H2) ds vs
 |[],_,_,h=>by simpa only[RelDs] using h
 |d::ds,vs,f,h=>by
  rwa[RelDs] at h ⊢;let⟨v,r,e,h1,h2⟩:=h;have f':mj d=true/\flatDs ds=true:=by simpa[flatDs] using f
  exact{v,r,e,JDs c s d v f'.1 h1,flats_ovr c s ds r f'.2 h2}
end
end
noncomputable def IL (K:AJ)(n:Nat)(f:A0 D->UO (Hp->V->Hp->Prop)):Sp:=λvs H Q _=>∃ds P,ds.length=n/\RelDs K H ds vs/\f ds=some P/\∀v H',xG H H'->P H v H'->Q v H'
section
variable {K:AJ}{m:Tg}{Y:L2.St}{H H0:Hp}{U:ah}{Q:VK}
theorem Pa {n:Nat}{f:A0 D->UO (Hp->V->Hp->Prop)}{P:Hp->V->Hp->Prop}{E:XK}(hs:bz K m H0 U):∀(rs:A0 R) (vs vsP:A0 V) (ds dsP:A0 D) (H1:Hp) (Q:VK),Cz H0 H1->RelDs K H1 dsP vsP->bU K m H0 rs vs->ou rs U=some ds ->
  f (dsP++ds)=some P->(dsP++ds).length=n->(∀v H2 Dq,Cz H1 Dq->xG Dq H2->P Dq v H2->Q v (tm H1 H2))->borN rs.length (IL K n f) (vsP++vs) H1 Q E
 |[],vs,vsP,ds,dsP,H1,Q,c,rp,rr,ev,ef,el,k=>by
  cases ev;have rr:vs=[]:=rr;subst rr;rw[Dr] at ef el ⊢;exact{dsP,P,el,rp,ef,λv H' s p=>by have:=k v H' H1 .refl s p;(rw[Gj s] at this;assumption)}
 |r::rs,vs,vsP,ds,dsP,H1,Q,c,rp,rr,ev,ef,el,k=>by
  let⟨v,ws,rfl,r1,r2⟩:=rr;let⟨d,e1,ev⟩:=AO.mp ev;let⟨es,e2,ev⟩:=AO.mp ev;cases ev
  have app:∀{Z:Type} (a:A0 Z) (x:Z) (b:A0 Z),a++x::b=a++[x]++b:=λa x b=>by simp
  rw[app] at ef el ⊢
  have go:∀(Dq:Hp) (Q':VK),Cz H1 Dq->au K Dq d v->(∀v H2 E7,Cz Dq E7->xG E7 H2->P E7 v H2->Q' v (tm Dq H2))->borN rs.length (IL K n f) (vsP++[v]++ws) Dq Q' E:=λDq Q' c' rd k'=>
   Pa hs rs ws (vsP++[v]) es (dsP++[d]) Dq Q' (c.trans c') (RelDs.append (RelDs.tf c'.tf _ _ rp) (by rwa[RelDs];exact{_,_,rfl,rd,rfl})) r2 e2 ef el k'
  cases r with
  |v d'=>
   cases e1;exact .inl (go H1 Q .refl (au.tf c.tf _ _ r1) k)
  |s _ _=>cases e1
  |x _=>cases e1
  |f _ _=>cases e1
  |p i=>
   let⟨a,rfl,ha⟩:=r1;have e1:(match U[i]? with|some (.lst xs)=>some (D.fl xs)|some (.fz xs)=>some (D.fl xs)|some (.dct kvs)=>some (D.fd (kvs.map (·.1)) (kvs.map (·.2)))|some (.fzd kvs)=>some (D.fd (kvs.map (·.1)) (kvs.map (·.2)))|_=>none)=some d:=e1
   have lent:∀u,jE u->H0 a=some u->(∀H3 o,H3 a=some (.frz o u)->TF H0 H3->au K H3 d (.ref a))->borN (rs.length+1) (IL K n f) (vsP++[V.ref a]++ws) H1 Q E:=λu hu e0 rd=>by
    rcases c a with z|⟨u',o',z1,z2,z3⟩
    ·rw[e0] at z
     refine .inr {a,u,z,hu,λo=>?_};have c1:Cz H1 (upd H1 a (.frz o u)):=Cz.refl.upd z hu
     exact go _ _ c1 (rd _ o L2.fX (c.tf.trans c1.tf)) λv H2 E7 c2 s2 p=>by
      rw[Gi z];exact k v H2 E7 (c1.trans c2) s2 p
    ·rw[e0] at z1;cases z1
     exact .inl (go H1 Q .refl (rd _ o' z3 c.tf) k)
   have known:∀o u,H0 a=some (.frz o u)->au K H1 d (.ref a)->borN (rs.length+1) (IL K n f) (vsP++[V.ref a]++ws) H1 Q E:=λo u e0 rd=>.inl (go H1 Q .refl rd k);split at e1
   ·rename_i xs q
    cases e1;let⟨ws',ea,ra⟩:=hs.cell _ _ a q ha
    exact lent (.lst ws') trivial ea λH3 o e3 t=>by rwa[au];exact{a,ws',rfl,.inl {o,e3},RelDs.tf t _ _ ra}
   ·rename_i xs q
    cases e1;let⟨o,ws',ea,ra⟩:=hs.cell _ _ a q ha;exact known o _ ea (by rwa[au];exact{a,ws',rfl,.inl {o,c.tf.frz _ _ _ ea},RelDs.tf c.tf _ _ ra})
   ·rename_i kvs q
    cases e1;let⟨Bz,ea,e1,e2⟩:=hs.cell _ _ a q ha
    exact lent (.dK Bz) trivial ea λH3 o e3 t=>by rwa[au];exact{a,o,Bz,rfl,e3,e1,RelDs.tf t _ _ e2}
   ·rename_i kvs q
    cases e1;let⟨o,Bz,ea,e1,e2⟩:=hs.cell _ _ a q ha;exact known o _ ea (by rwa[au];exact{a,o,Bz,rfl,c.tf.frz _ _ _ ea,e1,RelDs.tf c.tf _ _ e2})
   ·cases e1
noncomputable def cX (K:AJ)(f:MC):A0 D->UO (Hp->V->Hp->Prop):=λds=>(f ds).map λc H v H'=>∃a,v=.ref a/\H a=none/\mv K [] H' c a
theorem B5:∀{rs:A0 R} {ds:A0 D},ou rs U=some ds->rs.length=ds.length
 |[],_,h=>by cases h;rfl
 |r::rs,ds,h=>by let⟨d,_,h⟩:=AO.mp h;let⟨es,e2,h⟩:=AO.mp h;cases h;simp[B5 e2]
def JB2 {f n fa}{E:XK}(h:aN K (ju f n fa) Y H Q):zq (borN n (IL K n (cX K f))) [] E (js K fa) Y H Q:=by
 let⟨O,U,m,d,U',hl,hs,e,k⟩:=h;let⟨⟨xs,U1⟩,e1,e⟩:=AO.mp e;let⟨ds,e2,e⟩:=AO.mp e;split at e
 ·rename_i hn;let⟨c1,e3,e⟩:=AO.mp e;split at e
  ·rename_i hf
   cases e;refine{O,U,m,xs,_,hl,hs,e1,λvs H1 m1 x1 s1 r1=>?_};have hx:xs.length=n:=(B5 e2).trans hn
   show borN n (IL K n (cX K f)) (vs++[]) H1 Q E
   rw[Dr,←hx];refine Pa (dsP:=[]) (vsP:=[]) (P:=λH v H'=>∃a,v=.ref a/\H a=none/\mv K [] H' c1 a) s1 xs vs ds H1 Q .refl rfl r1 e2 ?_ (by simp[hn,hx]) λv H2 Dq c s p=>?_
   ·rw[zcm];unfold cX;rw[e3];rfl
   ·let⟨a,rfl,ha,hc⟩:=p;have h1a:H1 a=none:=by
     rcases c a with z|⟨u,o,_,_,z⟩
     ·rw[←z,ha]
     ·rw[ha] at z;cases z
    have at':∀u,H2 a=some u->tm H1 H2 a=some u:=λu q=>(by unfold tm;rw[h1a];exact q);have EJ:mv K (m1++[a]) (tm H1 H2) c1 a:=by
     cases c1 with
     |lst xs=>let⟨vs,q,r⟩:=hc;exact{vs,at' _ q,flats_ovr c s _ _ hf r}
     |dct kvs=>let⟨es,q,q2,r⟩:=hc;exact{es,at' _ q,q2,flats_ovr c s _ _ hf r}
     |fz xs=>cases hf
     |fzt kvs=>cases hf
     |hk kvs=>cases hf
     |fzd kvs=>cases hf
     |dr kvs=>cases hf
     |lr xs=>cases hf
     |dt kvs=>cases hf
     |tb _ _=>cases hf
     |ob _ _=>cases hf
     |tr _=>cases hf
     |fzr _=>cases hf
     |dtr _=>cases hf
    have Cb:a∉m1:=s1.fresh h1a;have ext:fM m1 H1 (m1++[a]) (tm H1 H2):=by have z:=xG.ext (m:=m1) (zB (H:=H1) (H2:=H2));exact{{[a],rfl,λb hb=>by rw[Bi.mp hb];exact h1a},z.tf,z.keep,z.live}
    have srel:bz K (m1++[a]) (tm H1 H2) (U1++[c1]):=by
     have DN:=s1.same (zB (H:=H1) (H2:=H2));refine{List.nodup_append.mpr {s1.nd,by simp,λb hb b' hb'=>?_},by simp[s1.len],λi c' b q1 q2=>?_}
     ·rw[Bi.mp hb'];rintro rfl;exact Cb hb
     ·by_cases hi:i<m1.length
      ·rw[C0 hi] at q2;rw[C0 (by rw[←s1.len];exact hi)] at q1;exact(DN.cell i c' b q1 q2).same (λ_ _ z=>z) {[a],rfl}
      ·have hl:=s1.len;rw[Dw ∅] at q2;rw[Dw ∅] at q1;have z:i-m1.length=0:=by
        cases q:i-m1.length with
        |zero=>rfl
        |succ k=>rw[q] at q2;simp at q2
       have z':i-U1.length=0:=∅;rw[z] at q2;rw[z'] at q1;simp at q1 q2;subst q1 q2;exact EJ
    exact k _ _ (m1++[a]) (x1.trans ext) srel {a,rfl,by rw[←s1.len];simp}
  ·cases e
 ·cases e
end
theorem pz.okN {P:A7}{w:AF}{K:AJ}{mg:Te}{base:AG}{x qual:Str}{st:AN}{f:A4}{fd:FuncData}{N ps:To}{k:Nat}{b:FS}(F:pz K x qual st f fd)(S:aK N ps (aj st))
  (AR:∀(AP:A6) (A:AI) (outer:A0 Env) (s:A2) (H:Hp) (E:XK),cr k (A.deeper (envOfC qual (aj st) s.heap.objs.size f AP))->qF (gR oh P w K mg base N qual (aj st) f AP A outer s H E).nox (b4 st) (gL K b)) :
  dF P w K mg base oh (k+1) f fd ps (IL K ps.length (cX K (ye N.length b))):=by
 have G:dF P w K mg base oh (k+1) f fd ps (λvs H Q _=>vs.length=ps.length/\gL K b {nx:=λ_ H'=>Q .non H',rt:=Q} (L2.jh N vs) H) :=
  L2.pz.ok F S (λvs H Q E h=>h.1) λAP A outer s H vs Q E hr h=>{_,AR AP A outer s H E hr,h.2}
 refine G.imp λvs H Q E hh=>?_;let⟨ds,P',hn,r,e,k⟩:=hh;refine{by rw[←r.length];exact hn,?_};let⟨c,ec,rfl⟩:=DG.mp e;let⟨o,e1,e2⟩:=AO.mp ec;refine{_,[],[],o,p9 r,.nil,e1,?_}
 cases o with
 |nx O U=>cases e2
 |bk O U=>cases e2
 |ct O U=>cases e2
 |rt d U=>
  cases d with
  |v d=>cases e2
  |s b xs=>cases e2
  |x _=>cases e2
  |f _ _=>cases e2
  |p n=>
   intro v H' m' x s' r';let⟨a,rfl,ha⟩:=r';unfold El at e2;have cell:∀c',U[n]?=some c'->mv K m' H' c' a:=λc' q=>s'.cell n c' a q ha
   have free:H a=none:=by
    let⟨e,rfl,f⟩:=x.ext;exact f a ‹DE ha›
   simp only at e2;split at e2
   ·rename_i xs q;cases e2;exact k _ _ x.sam {a,rfl,free,cell _ q}
   ·rename_i kvs q;cases e2;exact k _ _ x.sam {a,rfl,free,cell _ q}
   ·cases e2
end HW
namespace HW
variable {K:AJ}
open PyProof.Rows L2
def Jb (K:AJ):R2:=λx y H Q=>∃a b ys,x=.ref a/\y=.ref b/\oa K H a []/\oa K H b ys/\ys.length<=sizeLine/\Q (.ref b) H
def Gq {X:Cx}:l8 X (binaryOp .Add) (Jb X.K):=by
 intro A1 s Y H x y v u Q I rx ry h;let⟨a,b,ys,rfl,rfl,ha,hb,hz,q⟩:=h;cases rx;cases ry;let⟨its,r1,p1,_⟩:=I.tuple ha;let⟨CT,r2,p2,_⟩:=I.tuple hb;cases r1;let⟨⟨cls,dd,data,sl⟩,ho,hc,n,hd⟩:=id p1;let⟨⟨cls2,dd2,data2,sl2⟩,FX,FF,n2,hd2⟩:=id p2;simp only at hc hd FF hd2;subst hc hd FF hd2;exact concat_meets {_,ho,rfl} {_,FX,rfl} noFill_tuple_add seq_tuple_add PySem.F.slot_tuple_add PySem.F.entry_tuple_add (PySem.F.args_tuple_add_2 _ _)
  (tuple_addW0 a b #[] CT.toArray n n2 dd dd2 sl sl2 ∅) {ho,FX,{.ref b,H,I,rfl,q}}
noncomputable def bu:R->R->ah->UO (R×ah)
 |.v (.tup []),.v (.tup ys),U=>if ys.length<=sizeLine then some (.v (.tup ys),U) else none
 |x,y,U=>Hs x y U
def Mp :px K bu (λx y H Q=>Jc K x y H Q\/Jb K x y H Q):=by
 intro m H U x y d U' v u Q s rx ry e k;unfold bu at e;split at e
 ·split at e
  ·rename_i z
   cases e;have ry':=ry;rwa[ay,au] at rx ry;let⟨a,vs,rfl,qa,ra⟩:=rx;let⟨b,ws,rfl,qb,rb⟩:=ry;have ra:vs=[]:=(by simpa only[RelDs] using ra);subst ra;exact .inr {a,b,ws,rfl,rfl,qa,qb,by rw[←rb.length];exact z,k _ H m .refl s ry'}
  ·cases e
 ·exact .inl (PK m H U _ _ d U' v u Q s rx ry e k)
noncomputable def By:A0 R->ah->UO (R×ah)
 |[.v (.int i)],U=>some (.v (.int i),U)
 |[.v (.bl b)],U=>some (.v (.int (if b then 1 else 0)),U)
 |_,_=>none
def Pw :EZ K By (λxs H Q=>(∃i,xs=[.int i]/\Q (.int i) H)\/∃k,xs=[.bl k]/\Q (.int (if k then 1 else 0)) H):=by
 intro m H U xs d U' vs Q s r e k;unfold By at e;split at e
 ·cases e;let⟨v,rfl,r1⟩:=vc r;rwa[ay,au] at r1;subst r1;exact .inl {_,rfl,k _ H m .refl s (by rwa[ay,au])}
 ·cases e;let⟨v,rfl,r1⟩:=vc r;rwa[ay,au] at r1;subst r1;exact .inr {_,rfl,k _ H m .refl s (by rwa[ay,au])}
 ·cases e
noncomputable def u7:A0 R->ah->UO (R×ah)
 |[.v (.int i)],U=>if i.natAbs.log2<1920 then some (.v (.str (toString i)),U) else none
 |_,_=>none
def Pi :EZ K u7 (λxs H Q=>∃i,xs=[.int i]/\i.natAbs.log2<1920/\Q (.str (toString i)) H):=by
 intro m H U xs d U' vs Q s r e k;unfold u7 at e;split at e
 ·split at e
  ·rename_i z
   cases e;let⟨v,rfl,r1⟩:=vc r;rwa[ay,au] at r1;subst r1;exact{_,rfl,z,k _ H m .refl s (by rwa[ay,au])}
  ·cases e
 ·cases e
def Db:V->V->V->Hp->(Hp->Prop)->Prop:=λo i v H Q=>∃p kvs k,o=.ref p/\i=kV k/\H p=some (.dK kvs)/\kvs.length<sizeLine/\Q (upd H p (.dK (ll kvs k v)))
def JB9 {X:Cx}(hu:X.A.units+1<cLine):xB X Db:=by intro A1 s Y H o i v ov iv u Q I ro ri rv h;let⟨p,kvs,k,rfl,rfl,hp,hl,q⟩:=h;cases ro;exact JA3 hu I (HA.k hp hl) ri rv λs' I'=>{_,I',q}
def xB.or {t u:Hv}(h:xB X t)(h':xB X u):xB X (λo i v H Q=>t o i v H Q\/u o i v H Q):=λA1 s Y H o i v ov iv z Q I ro ri rv q=>by
 rcases q with q|q
 ·exact h A1 s Y H o i v ov iv z Q I ro ri rv q
 ·exact h' A1 s Y H o i v ov iv z Q I ro ri rv q
noncomputable def sH:R->UO cQ
 |.v (.int i)=>some (.inl i)
 |.v (.str x)=>some (.inr (some x))
 |.v .non=>some (.inr none)
 |_=>none
noncomputable def yk (o i:R)(dv:D)(U:ah):UO ah:=match o with
 |.p n=>match U[n]? with
  |some (.lst xs)=>(match i with|.v (.int k)=>(Bu xs.length k).bind λj=>some (U.set n (.lst (xs.set j dv)))|_=>none)
  |some (.dct kvs)=>if kvs.length<sizeLine then (sH i).bind λk=>some (U.set n (.dct (wJ kvs k dv))) else none
  |_=>none
 |_=>none
noncomputable def nD (fo fi:FE):FG:=λd O U=>match d with|.v dv=>(fo O U).bind λo=>(fi O o.2).bind λi=>(yk o.1 i.1 dv i.2).bind λU'=>some (O,U')|_=>none
theorem RelDs.setAt {K:AJ}{H:Hp}{d:D}{v:V}(h:au K H d v):∀{ds:A0 D} {vs:A0 V} (j:Nat),RelDs K H ds vs->RelDs K H (ds.set j d) (vs.set j v)
 |[],vs,j,r=>by have r:vs=[]:=r;subst r;exact rfl
 |_::_,_,0,⟨v',r,e,h1,h2⟩=>by subst e;exact{v,r,rfl,h,h2}
 |_::_,_,j+1,⟨v',r,e,h1,h2⟩=>by subst e;exact{v',_,rfl,h1,RelDs.setAt h j h2}
def vF {m:Tg}{H:Hp}{x:R}{v:V}{k:cQ}(r:ay K m H x v)(e:sH x=some k):v=kV k:=by
 unfold sH at e;split at e
 ·cases e;simpa only[ay,au,kV] using r
 ·cases e;simpa only[ay,au,kV] using r
 ·cases e;simpa only[ay,au,kV] using r
 ·cases e
def K6 {K:AJ}{m:Tg}{H:Hp}{U U':ah}{o i:R}{dv:D}{vo vi v:V}{Q:Hp->Prop}(s:bz K m H U)(ro:ay K m H o vo)(ri:ay K m H i vi)(rv:au K H dv v)(e:yk o i dv U=some U')
  (k:∀H',fM m H m H'->bz K m H' U'->Q H'):Da vo vi v H Q\/Db vo vi v H Q:=by
 unfold yk at e;split at e
 ·rename_i n
  split at e
  ·rename_i xs q
   split at e
   ·rename_i j
    let⟨w,e1,e⟩:=AO.mp e;cases e;let⟨a,rfl,ha⟩:=ro
    have ri:vi=.int j:=by simpa only[ay,au] using ri
    subst ri;let⟨ws,ea,ra⟩:=s.cell _ _ a q ha;have x:fM m H m (upd H a (.lst (ws.set w v))):=.put (DE ha) ea ∅ ∅;exact .inl {a,ws,j,w,rfl,rfl,ea,by rw[←ra.length];exact e1,k _ x (s.put ha ea ∅ ∅ {_,eS,RelDs.tf x.tf _ _ (RelDs.setAt rv w ra)})}
   ·cases e
  ·rename_i kvs q
   split at e
   ·rename_i hl
    let⟨w,e1,e⟩:=AO.mp e;cases e;let⟨a,rfl,ha⟩:=ro;let⟨es,ea,q1,q2⟩:=s.cell _ _ a q ha;have kd:KD K H kvs es:={q1,q2};have kd':=kd.put (k:=w) rv;have x:fM m H m (upd H a (.dK (ll es w v))):=.put (DE ha) ea ∅ ∅;exact .inr {a,es,w,rfl,vF ri e1,ea,by have:=AQ List.length q1;simp at this;omega,k _ x (s.put ha ea ∅ ∅ {_,eS,kd'.1,RelDs.tf x.tf _ _ kd'.2})}
   ·cases e
  ·cases e
 ·cases e
def JD7 {fo fi:FE}{v:V}{H:Hp}{Q:L2.St->Hp->Prop}(h:wb K (nD fo fi) v Y H Q):L2.nD (aN K fo) (aN K fi) (λo i v H Q=>Da o i v H Q\/Db o i v H Q) v Y H Q:=by
 let⟨O,U,m,d,O',U',hl,hs,r,e,k⟩:=h;unfold nD at e;split at e
 ·rename_i dv;let⟨⟨o,U1⟩,e1,e⟩:=AO.mp e;let⟨⟨i,U2⟩,e2,e⟩:=AO.mp e;let⟨U3,e3,e⟩:=AO.mp e;cases e;refine{O,U,m,o,U1,hl,hs,e1,λvo H1 m1 x1 s1 r1=>?_};refine{O,U1,m1,i,U2,hl.ext x1,s1,e2,λvi H2 m2 x2 s2 r2=>?_};exact K6 s2 (r1.ext x2) r2 (au.tf (x1.tf.trans x2.tf) _ _ r) e3 λH3 x3 s3=>k Y H3 m2 ((x1.trans x2).trans x3) s3 (hl.ext ((x1.trans x2).trans x3))
 ·cases e
noncomputable def S6 (lt:Int->Int->A9)(ns:Tj):Int:=ns.getD (argBest (λi j=>lt (ns.getD i 0) (ns.getD j 0)) (ns.length-1)) 0
end HW
namespace HS
open PyProof.Rows L2
end HS
namespace HW
open PyProof.Rows L2 HS
noncomputable def yS:A0 (FE×FE)->Lo->ah->UO (A0 (R×R)×ah)
 |[],_,U=>some ([],U)
 |(fk,fv)::r,O,U=>(fk O U).bind λa=>(fv O a.2).bind λb=>(yS r O b.2).bind λc=>some ((a.1,b.1)::c.1,c.2)
noncomputable def DT:A0 (R×R)->UO (A0 (cQ×D))
 |[]=>some []
 |(x,.v d)::r=>(sH x).bind λk=>(DT r).bind λkvs=>some ((k,d)::kvs)
 |_=>none
noncomputable def An (prs:A0 (FE×FE)):FE:=λO U=>(yS prs O (U++[.dct []])).bind λa=>(DT a.1).bind λkvs=>if kvs.length<=15 then
 (match a.2[U.length]? with|some (.dct [])=>some (.p U.length,a.2.set U.length (.dct (zJ [] kvs)))|_=>none) else none
section
variable {K:AJ}{Y:L2.St}
def EN (K:AJ)(m:Tg)(H:Hp):A0 (R×R)->A0 (V×V)->Prop
 |[],ps=>ps=[]
 |p::ps,qs=>∃x y r,qs=(x,y)::r/\ay K m H p.1 x/\ay K m H p.2 y/\EN K m H ps r
theorem wH:∀(prs:A0 (FE×FE)) {H:Hp} {Q:A0 (V×V)->Hp->Prop} {O:Lo} {U U':ah} {m:Tg} {rs:A0 (R×R)},eI K m H O Y->bz K m H U->yS prs O U=some (rs,U') ->
  (∀ps H' m',fM m H m' H'->bz K m' H' U'->EN K m' H' rs ps->Q ps H')->u4 (prs.map λp=>(aN K p.1,aN K p.2)) Y H Q
 |[],H,Q,O,U,U',m,rs,hl,hs,e,k=>by
  cases e;exact k [] H m .refl hs rfl
 |(fk,fv)::r,H,Q,O,U,U',m,rs,hl,hs,e,k=>by
  let⟨⟨a,U1⟩,e1,e⟩:=AO.mp e;let⟨⟨b,U2⟩,e2,e⟩:=AO.mp e;let⟨⟨cs,U3⟩,e3,e⟩:=AO.mp e;cases e;refine{O,U,m,a,U1,hl,hs,e1,λx H1 m1 x1 s1 r1=>?_};refine{O,U1,m1,b,U2,hl.ext x1,s1,e2,λy H2 m2 x2 s2 r2=>?_};exact wH r (hl.ext (x1.trans x2)) s2 e3 λps H3 m3 x3 s3 rp=>k _ H3 m3 ((x1.trans x2).trans x3) s3 {x,y,ps,rfl,r1.ext (x2.trans x3),r2.ext x3,rp}
theorem zV {m:Tg}{H:Hp}:∀{rs:A0 (R×R)} {ps:A0 (V×V)} {kvs:A0 (cQ×D)},EN K m H rs ps->DT rs=some kvs->∃qs:A0 (cQ×V),ps=qs.map (λkv=>(kV kv.1,kv.2))/\KD K H kvs qs
 |[],ps,kvs,r,e=>by cases e;have r:ps=[]:=r;subst r;exact{[],rfl,KD.nil}
 |(x,y)::rs,ps,kvs,r,e=>by
  let⟨vx,vy,ps',rfl,r1,r2,r3⟩:=r
  cases y with
  |v d=>
   let⟨k,e1,e⟩:=AO.mp (show(sH x).bind _=some kvs from e);let⟨kvs',e2,e⟩:=AO.mp e;cases e;let⟨qs,rfl,hq⟩:=zV r3 e2;refine{(k,vy)::qs,?_,KD.cons.mpr {rfl,r2,hq}};rw[vF r1 e1];rfl
  |p n=>cases e
  |s b xs=>cases e
  |x _=>cases e
  |f _ _=>cases e
def FM {prs:A0 (FE×FE)}{H:Hp}{Q:VK}(h:aN K (An prs) Y H Q):IE (prs.map λp=>(aN K p.1,aN K p.2)) Y H Q:=by
 let⟨O,U,m,d,U',hl,hs,e,k⟩:=h;let⟨⟨rs,U1⟩,e1,e⟩:=AO.mp e;let⟨kvs,e2,e⟩:=AO.mp e;split at e
 ·rename_i h15;split at e
  ·rename_i q
   cases e;intro p hp;have x0:fM m H (m++[p]) (upd H p (.dK [])):=.newH hp;have s0:bz K (m++[p]) (upd H p (.dK [])) (U++[.dct []]):=hs.newH hp {[],eS,rfl,by rwa[DC,RelDs]};refine wH prs (hl.ext x0) s0 e1 λps H2 m2 x2 s2 rp=>?_;have hm2:m2[U.length]?=some p:=by let⟨ex,rfl,_⟩:=x2.ext;rw[←hs.len,F1];simp
   let⟨es,ea,q1,q2⟩:=s2.cell _ _ p q hm2;have hes:es=[]:=‹q1›;subst hes;let⟨qs,rfl,hq⟩:=zV rp e2;refine{ea,qs,rfl,by have:=AQ List.length hq.1;simp at this;omega,?_};have kd:=KD.putAll (K:=K) (H:=H2) .nil hq;have x3:fM m2 H2 m2 (upd H2 p (.dK (OK [] qs))):=.put (DE hm2) ea ∅ ∅;refine k _ _ m2 (x0.trans (x2.trans x3)) (s2.put hm2 ea ∅ ∅ {_,eS,kd.1,RelDs.tf x3.tf _ _ kd.2}) {p,rfl,hm2}
  ·cases e
 ·cases e
end
end HW
namespace HW
variable {K:AJ}
open PyProof.Rows L2
def fP (K:AJ)(mg:Te)(x:Str)(d:D):Prop:=∃u v,mg x=some u/\bQ v u/\∀H,au K H d v
def BX (K:AJ)(d:D)(v:V)(u:A6):Prop:=bQ v u/\∀H,au K H d v
def AA (K:AJ)(ds:A0 D)(vs:A0 V)(us:Tf):Prop:=bO vs us/\∀H,RelDs K H ds vs
def jD :AA K [] [] []:={.nil,λ_=>rfl}
def b5 {d:D}{v:V}{u:A6}{ds:A0 D}{vs:A0 V}{us:Tf}(h:BX K d v u)(h':AA K ds vs us):AA K (d::ds) (v::vs) (u::us) :=
 {.cons h.1 h'.1,λH=>by rwa[RelDs];exact{_,_,rfl,h.2 H,h'.2 H}}
def yY {i:Int}{t:Tok}:BX K (.int i) (.int i) (.int i t):={{t,rfl},λH=>by rwa[au]}
def db {x:Str}{t:Tok}:BX K (.str x) (.str x) (.str x t):={{t,rfl},λH=>by rwa[au]}
def lU {K:AJ}{a:A4}{us:Tf}{n:Nat}{sl:AW (Ti)}{ds:A0 D}{vs:A0 V}(h:K.lookup a=some {.type "tuple",none,.seq us.toArray n,sl})(hz:us.length<=sizeLine)(r:AA K ds vs us):BX K (.tup ds) (.ref a) (.ref a) :=
 {rfl,λH=>by rwa[au];exact{a,vs,rfl,.inr {_,us.toArray,n,h,rfl,rfl,rfl,by simpa using hz,by simpa using r.1},r.2 H}}
def nG {mg:Te}{x:Str}{u:A6}{d:D}{v:V}(hm:mg x=some u)(r:BX K d v u):fP K mg x d:={u,v,hm,r.1,r.2}
def ES (lo c:Int)(n:Nat):It:={λi _=>i<n,λi H x H'=>H'=H/\x=.int (lo+i*c),λi _=>n<=i}
def JAn {w:AF}{tg:AD}(it:A4)(lo c:Int)(n:Nat):v7 P w K tg (ES lo c n) [it] it (λi h=>IsRangeIter h it (lo+(i:Nat)*c) ((n:Int)-(i:Nat)) c) where
 mem:=by simp
 obj:=λi h st b hb=>by
  have e:b=it:=by simpa using hb
  subst e;exact{_,st,λv z=>by
   have z':Data.fields _=Data.cell v:=z
   cases z'}
 keep:=λi h h' st k=>k it ∅ _ st
 item:=by intro X hP hw hK hc i A1 s Y H E I hf st hg;subst hP hw hK;obtain⟨f0,f1,f2,f3,f4,f5⟩:=hf it ∅;refine(Walks.range (prog:=X.prog) (w:=X.w) (I.ok.hd hc) it lo c n).item i s _ _ hg st λv h' tk hv Bo kk=>?_;obtain⟨t,rfl⟩:=hv;have I1:aS X A1 Y H {s with heap:=h',toks:=tk}:=I.turned (λb o hb e=>kk b o ‹hb› e) f0 f1 f3 f4 f5;exact{_,rfl,uI (s:={s with heap:=h',toks:=tk}) (n:="range_iterator") Bo rfl rfl ∅ {.int (lo+i*c),H,I1,{t,rfl},{rfl,rfl},Bo,λb hb=>(hf b hb).1}}
 done:=by intro X hP hw hK hc i A1 s Y H E I hf st hg;subst hP hw hK;let⟨f0,f1,f2,f3,f4,f5⟩:=hf it ∅;exact wpAny_pyNext_range_end (I.ok.hd hc) st (by have:n<=i:=hg;omega) λh' eb=>{rfl,I.turned (t':=s.toks) (λb o hb e=>eb b o hb e) f0 f1 f3 f4 f5}
 self:=λ_ _ _ _ _ st h=>wpAny_pyIter_rangeiter st h
def JAo {w:AF}{tg:AD}(it:A4)(lo c:Int)(n:Nat):v7 P w K tg (ES lo c n) [it] it (λi h=>IsLongIter h it (lo+(i:Nat)*c) ((n:Int)-(i:Nat)) c) where
 mem:=by simp
 obj:=λi h st b hb=>by
  have e:b=it:=by simpa using hb
  subst e;exact{_,st,λv z=>by
   have z':Data.fields _=Data.cell v:=z
   cases z'}
 keep:=λi h h' st k=>k it ∅ _ st
 item:=by intro X hP hw hK hc i A1 s Y H E I hf st hg;subst hP hw hK;obtain⟨f0,f1,f2,f3,f4,f5⟩:=hf it ∅;refine(Walks.longrange (prog:=X.prog) (w:=X.w) (I.ok.hd hc) it lo c n).item i s _ _ hg st λv h' tk hv Bo kk=>?_;obtain⟨t,rfl⟩:=hv;have I1:aS X A1 Y H {s with heap:=h',toks:=tk}:=I.turned (λb o hb e=>kk b o ‹hb› e) f0 f1 f3 f4 f5;exact{_,rfl,uI (s:={s with heap:=h',toks:=tk}) (n:="longrange_iterator") Bo rfl rfl ∅ {.int (lo+i*c),H,I1,{t,rfl},{rfl,rfl},Bo,λb hb=>(hf b hb).1}}
 done:=by intro X hP hw hK hc i A1 s Y H E I hf st hg;subst hP hw hK;let⟨f0,f1,f2,f3,f4,f5⟩:=hf it ∅;exact wpAny_pyNext_long_end (I.ok.hd hc) st (by have:n<=i:=hg;omega) λh' eb=>{rfl,I.turned (t':=s.toks) (λb o hb e=>eb b o hb e) f0 f1 f3 f4 f5}
 self:=λ_ _ _ _ _ st h=>wpAny_pyIter_longiter st h
abbrev mO (i j c:Int):Nat:=(Builtin.Range.rangeSize i j c).toNat
def CJ (i j c:Int):Prop:=c≠0/\-(2 ^ 30)<c/\c<2 ^ 30
instance {i j c:Int}:Decidable (CJ i j c):=by unfold CJ;infer_instance
section
variable {X:Cx}{tg:AD}
theorem Fk {H:Hp}{s:A2}{R:It->Hp->Prop}{E:Tc}{lo hi c:Int}{t u v:Tok}{tk:Nat}(I:aS X A1 Y H s)
  (q:R (ES lo c (mO lo hi c)) H):wpAny (model X.prog X.w) X.A (pyIter (.ref s.heap.objs.size)) (Ro X A1 Y tg R) E {s with heap:=s.heap.push {cls:=.type "range",data:=.fields #[.int lo t,.int hi u,.int c v]},toks:=tk}:=by
 have I1:aS X A1 Y H {s with heap:=s.heap.push {cls:=.type "range",data:=.fields #[.int lo t,.int hi u,.int c v]},toks:=tk}:=I.kept λb o e=>Bl _ e
 have e1:lo+((0:Nat):Int)*c=lo:=by simp
 have e2:((mO lo hi c:Nat):Int)-((0:Nat):Int)=Builtin.Range.rangeSize lo hi c:=by rw[rangeSize_toNat lo hi c];simp[mO]
 cases hs:Builtin.Range.small lo hi c with
 |true=>
  refine wpAny_pyIter_range (IsRange.new ..) hs ?_
  refine{_,[(s.heap.push {cls:=.type "range",data:=.fields #[.int lo t,.int hi u,.int c v]}).objs.size],_,_,H,rfl,
   I1.kept (t':=tk) λb o e=>Bl _ e,JAn _ lo c (mO lo hi c),?_,λb hb=>?_,q}
  ·show IsRangeIter _ _ (lo+((0:Nat):Int)*c) (((mO lo hi c:Nat):Int)-((0:Nat):Int)) c
   rw[e1,e2];exact Cw _ rfl
  ·have e:=Bi.mp hb
   subst e;exact I1.fpOk (BH _) (I1.hok.fresh (BH _))
 |false=>
  refine wpAny_pyIter_longrange (IsRange.new ..) hs ?_
  refine{_,[(s.heap.push {cls:=.type "range",data:=.fields #[.int lo t,.int hi u,.int c v]}).objs.size],_,_,H,rfl,
   I1.kept (t':=tk) λb o e=>Bl _ e,JAo _ lo c (mO lo hi c),?_,λb hb=>?_,q}
  ·show IsLongIter _ _ (lo+((0:Nat):Int)*c) (((mO lo hi c:Nat):Int)-((0:Nat):Int)) c
   rw[e1,e2];exact Cw _ rfl
  ·have e:=Bi.mp hb
   subst e;exact I1.fpOk (BH _) (I1.hok.fresh (BH _))
end
def GN (lo c:Int)(n:Nat):BW K (ES lo c n) ((List.range n).map λk=>.int (lo+(k:Nat)*c)) (λ_=>True) where
 st:=λ_ _ _ _=>trivial
 stop:=λi H _ hi=>by show n<=i;simpa using hi
 go:=λi d H e _=>by
  have:=(Bn.mp e).1
  show i<n;simpa using this
 yld:=λi d H x H' e _ ⟨e1,e2⟩=>by
  have hi:=(Bn.mp e).1;have Dk:i<n:=by simpa using hi
  refine{e1,?_};simp[Dk] at e;subst e e2;rwa[au]
end HW
namespace L2
open PyProof.Rows
end L2
namespace HW
open PyProof.Rows L2
structure Qq (K:AJ)(J:It)(xs:List D)(P:Hp->Prop):Prop where
 st:∀H H',TF H H'->P H->P H'
 stop:∀i H,P H->xs.length<=i->J.stop i H
 go:∀(i:Nat) d H,xs[i]?=some d->P H->J.go i H
 yld:∀(i:Nat) d H x H',xs[i]?=some d->P H->J.yld i H x H'->(∀a o,H a=some o->H' a=some o)/\au K H' d x
def Og (K:AJ)(f:FI):TI:=λY H R=>∃O U m xs U',eI K m H O Y/\bz K m H U/\f O U=some (xs,U') /\
 ∀J P H' m',fM m H m' H'->bz K m' H' U'->Qq K J xs P->P H'->R J H'
def xu {m:Tg}{H H':Hp}(s:∀a o,H a=some o->H' a=some o):fM m H m H' :=
 {{[],by simp,λ_ z=>nomatch z},{λa xs e=>s _ _ e,λa o x e=>s _ _ e},λa o e _=>s _ _ e,λa e=>by
  cases q:H a with
  |none=>rfl
  |some o=>rw[s _ _ q] at e;cases e}
section
variable {K:AJ}{m:Tg}{Y:L2.St}{H:Hp}{U:ah}{D:jp}
def JD8 {fi g b}(h:gL K (qc fi g b) D Y H):J9 (Og K fi) (wb K g) (gL K b) D Y H:=by
 let⟨O,U,m,o,hl,hs,e,k⟩:=h;let⟨⟨xs,U1⟩,e1,e⟩:=AO.mp e;refine{O,U,m,xs,U1,hl,hs,e1,λJ P H1 m1 x1 s1 ok p1=>?_};refine{λi n Y H=>n=xs.length-i/\i<=xs.length/\P H/\∃O U m,eI K m H O Y/\bz K m H U/\ig g b (xs.drop i) O U=some o/\jp.of K m H D o,
  {_,rfl,E8 _,p1,O,U1,m1,eI.ext x1 hl,s1,by simpa using e,jp.of_ext x1 k},?_}
 rintro i n Y H ⟨rfl,hi,p,O,U,m,hl,hs,e,k⟩;by_cases BS:i<xs.length
 ·have hx:xs[i]?=some xs[i]:=EF BS;rw[za9 BS,ig] at e;let⟨⟨O1,U1⟩,e1,e⟩:=AO.mp e;let⟨o1,e2,e⟩:=AO.mp e;refine .inr {ok.go i _ H hx p,λY H=>i+1<=xs.length/\P H/\∃O U m,eI K m H O Y/\bz K m H U/\ig g b (xs.drop (i+1)) O U=some o/\jp.of K m H D o,
   λY' H' z=>{xs.length-(i+1),by omega,rfl,z},λx H' y=>?_}
  let⟨xe,rx⟩:=ok.yld i _ H x H' hx p y;have x0:fM m H m H':=xu xe;refine{O,U,m,.v xs[i],O1,U1,eI.ext x0 hl,hs.same xe,rx,e1,λY1 H1 m1 x1 s1 l1=>?_};have x1:=x0.trans x1;refine{O1,U1,m1,o1,l1,s1,e2,?_}
  cases o1 with
  |nx O2 U2=>exact λY2 H2 m2 x2 s2 l2=>{BS,ok.st _ _ (x1.trans x2).tf p,O2,U2,m2,l2,s2,e,jp.of_ext (x1.trans x2) k}
  |ct O2 U2=>exact λY2 H2 m2 x2 s2 l2=>{BS,ok.st _ _ (x1.trans x2).tf p,O2,U2,m2,l2,s2,e,jp.of_ext (x1.trans x2) k}
  |bk O2 U2=>cases e;exact λY2 H2 m2 x2 s2 l2=>k Y2 H2 m2 (x1.trans x2) s2 l2
  |rt d U2=>cases e;exact λv H2 m2 x2 s2 l2=>k v H2 m2 (x1.trans x2) s2 l2
 ·have:i=xs.length:=by omega
  subst this;rw[zch,ig] at e;cases e;exact .inl {ok.stop _ H p (BH _),k Y H m .refl hs hl}
def KI {fi g b}(h:gL K (qc fi g b) D Y H):J9 (wa K fi) (wb K g) (gL K b) D Y H :=
 let ⟨O,U,m,xs,U',hl,hs,e,k⟩:=JD8 h
 {O,U,m,xs,U',hl,hs,e,λJ P H' m' x s ok p=>k J P H' m' x s {ok.st,ok.stop,ok.go,λi d H x H' e p y=>by let⟨rfl,r⟩:=ok.yld i d H x H' e p y;exact{λ_ _ z=>z,r}} p}
end
noncomputable def sR:A0 D->UO (A0 (UO Int))
 |[]=>some []
 |.non::r=>(sR r).bind λos=>some (none::os)
 |.int i::r=>(sR r).bind λos=>some (some i::os)
 |.str _::r=>(sR r).bind λos=>some (some 0::os)
 |_=>none
noncomputable def M5 (neg:A9):R->R->ah->UO (R×ah)
 |.v .non,y,U=>(iM y U).bind λds=>(sR ds).bind λos=>some (.v (.bl (if neg then !os.contains none else os.contains none)),U)
 |_,_,_=>none
theorem rD {K:AJ}{H:Hp}:∀{ds:A0 D} {os:A0 (UO Int)} {vs:A0 V},sR ds=some os->RelDs K H ds vs->vs.all nE=true/\EW .non vs=os.contains none
 |[],os,vs,e,r=>by cases e;rwa[RelDs] at r;subst r;exact{rfl,rfl}
 |d::ds,os,vs,e,r=>by
  rwa[RelDs] at r;let⟨v,r',rfl,r1,r2⟩:=r
  cases d with
  |non=>
   let⟨os',e1,e⟩:=AO.mp e;cases e;let⟨h1,h2⟩:=rD e1 r2;rwa[au] at r1;subst r1;refine{by rw[zbt,h1];rfl,?_};unfold EW;simp[Ep]
  |int i=>
   let⟨os',e1,e⟩:=AO.mp e;cases e;let⟨h1,h2⟩:=rD e1 r2;rwa[au] at r1;subst r1;refine{by rw[zbt,h1];rfl,?_};unfold EW at h2 ⊢;rw[CP,h2];simp[Ep]
  |str t=>
   let⟨os',e1,e⟩:=AO.mp e;cases e;let⟨h1,h2⟩:=rD e1 r2;rwa[au] at r1;subst r1;refine{by rw[zbt,h1];rfl,?_};unfold EW at h2 ⊢;rw[CP,h2];simp[Ep]
  |bl _=>cases e
  |tup _=>cases e
  |fl _=>cases e
  |fd _ _=>cases e
  |key _=>cases e
def Pz {K:AJ}{neg:A9}:px K (M5 neg) (KP K neg):=by
 intro m H U x y d U' v u Q s rx ry e k;unfold M5 at e;split at e
 ·let⟨ds,e0,e⟩:=AO.mp e;let⟨os,e1,e⟩:=AO.mp e;cases e;rwa[ay,au] at rx;subst rx;let⟨a,ws,rfl,q,rr⟩:=lp s ry e0;let⟨h1,h2⟩:=rD e1 rr;refine{a,ws,rfl,q,rfl,h1,k _ H m .refl s ?_};rwa[ay,au,h2]
 ·cases e
end HW
namespace HS
open PyProof.Rows
end HS
namespace HW
open PyProof.Rows L2 HS
end HW
namespace HS
open PyProof.Rows
end HS
namespace HW
open PyProof.Rows L2 HS
end HW
namespace HX
def Kp (G:A4->Prop)(S:Tg)(h h':AG):Prop:=∀b o,G b->h.get? b=some o->(b∉S->h'.get? b=some o)/\∃sl,h'.get? b=some {o with slots:=sl}
abbrev eO (C:A6)(vs:Tk):Obj:={cls:=C,dict:=none,data:=.fields vs,slots:=#[]}
structure Fl (G:Addr->Prop)(h:Heap)(e:Addr)(C fl:Value):Prop where
 is:∃vs T ts c,¬ G e/\¬ G T/\T≠e/\h.get? e=some (eO C vs)/\vs[1]?=some (.ref T)/\h.get? T=some (eO c ts)/\ts[3]?=some fl
 all:∀b,G b->∃o,h.get? b=some o
def Kp.refl {G S h}:Kp G S h h:=λb o _ q=>{λ_=>q,o.slots,q}
def Kp.trans {G S h h1 h2}(a:Kp G S h h1)(b:Kp G S h1 h2):Kp G S h h2:=λc o g q=>by let⟨a1,sl,a2⟩:=a c o g q;refine{λz=>(b c o g (a1 z)).1 z,?_};let⟨_,Di,b2⟩:=b c _ g a2;exact{Di,b2}
def Kp.mono {G S S' h h'}(a:Kp G S h h')(hs:∀b∈S,b∈S'):Kp G S' h h':=λb o g q=>{λz=>(a b o g q).1 λy=>z (hs b y),(a b o g q).2}
def Kp.but {G:A4->Prop}{S h h'}{a:A4}(n:¬ G a)(k:Heap.SameBut a h h'):Kp G S h h':=λb o g q=>by have e:h'.get? b=some o:=(k.2 b λz=>n (z ▸ g)).trans q;exact{λ_=>e,o.slots,e}
def Kp.keeps {G:A4->Prop}{S h h'}(k:∀b o,h.get? b=some o->h'.get? b=some o):Kp G S h h':=λb o g q=>{λ_=>k b o q,o.slots,k b o q}
def Kp.slots {G:A4->Prop}{S h h'}(k:Heap.SlotsOnly S h h'):Kp G S h h':=λb o g q=>{λz=>(k.2.1 b z).trans q,k.2.2 b o q}
def Kp.alive {G:A4->Prop}{S h h'}(k:Kp G S h h')(a:∀b,G b->∃o,h.get? b=some o):∀b,G b->∃o,h'.get? b=some o:=λb g=>by let⟨o,q⟩:=a b g;let⟨sl,z⟩:=(k b o g q).2;exact{_,z}
theorem Kp.funs {G:A4->Prop}{S h h' base}{l:A0 Env}(k:Kp G S h h')(g:∀b∈l.filterMap (·.frame),G b)(f:h.FunFrames base l):h'.FunFrames base l:=by
 induction l with
 |nil=>trivial
 |cons env r ih=>
  let⟨h1,⟨L,o,h2,h3,h4,h5⟩,h6⟩:=f;let⟨_,sl,z⟩:=k L o (g L (by rw[za7,h2];exact Bw)) h4;exact{h1,{L,_,h2,h3,z,h5},ih (λb hb=>g b (by rw[za7,h2];exact Bk _ hb)) h6}
section
variable {prog:A7}{w:AF}{A:AI}{E:Tc}{s:A2}{G:A4->Prop}{e:A4}{C fl:A6}{Q:Unit->A2->Prop}
def pW (x:Fl G s.heap e C fl)(hQ:∀h',Fl G h' e C .none->Kp G [] s.heap h'->Q () {s with heap:=h'}):wpAny (model prog w) A (setFlight (.ref e) none) Q E s:=by let⟨vs,T,ts,c,n1,n2,ne,he,h1,hT,h3⟩:=x.is;unfold setFlight;refine AY (Dg he rfl h1 ?_);rw[A8 ∅];refine zbv hT (Ey.mp h3).1 λh' hT' k=>?_;have kp:Kp G [] s.heap h':=.but n2 k;exact hQ h' {{vs,T,_,c,n1,n2,ne,(k.2 e ne.symm).trans he,h1,hT',by simp[(Ey.mp h3).1]},kp.alive x.all} kp
def sP {base:AG}{env:Env}{outer:A0 Env}{L:A4}{vs:Tk}{head:A6}{b:A9}(C5:A.frames=some (env::outer))(hl:s.heap.FunFrames base (env::outer))(hf:env.frame=some L)
  (he:s.heap.get? e=some (eO C vs)) (hz:1<vs.size) (ng:¬ G e) (al:∀b,G b->∃o,s.heap.get? b=some o)
  (hQ:∀h',Fl G h' e C (rawInt L)->Kp G ((env::outer).filterMap (·.frame)) s.heap h'->Q () {s with heap:=h'}) :
  wpAny (model prog w) A (do let x ←frameOf env;let pl ←entryPlaceOf L b;let y ←EntryCells.newEntry head x .none (rawInt L) .none pl;setField (.ref e) 1 y) Q E s:=by
 have nf:e∉(env::outer).filterMap (·.frame):=λhm=>by
  let⟨_,o,q,n⟩:=hl.mem hm;rw[he] at q;cases q;exact n vs rfl
 refine AY (wpAny_frameOf_fun C5 hl hf λh1 k1=>AY (wpAny_entryPlaceOf λpl hp=>?_));unfold EntryCells.newEntry;unfold newFields;refine AY (zbe ?_ (hp.sizeOk5 _ _ _ _ _));have he1:h1.get? e=some (eO C vs):=(k1.2.1 e nf).trans he;have neT:h1.objs.size≠e:=Nat.ne_of_gt (BO he1)
 have ngT:¬ G h1.objs.size:=λg=>by
  let⟨o,q⟩:=al _ g;have q2:=BO q;rw[k1.1] at q2;exact AH q2 (Cg _)
 refine zbv (s:={s with heap:=h1.push _}) (Bl _ he1) hz λh2 he2 k2=>?_;have kp:Kp G ((env::outer).filterMap (·.frame)) s.heap h2:=((Kp.slots k1).trans (.keeps λb o q=>Bl _ q)).trans (.but ng k2);refine hQ h2 {{_,h1.objs.size,_,_,ng,ngT,neT,he2,by simp[hz],(k2.2 _ neT).trans (Cw h1 rfl),?_},kp.alive al} kp;simp
def JDt {base:AG}{env:Env}{outer:A0 Env}{L:A4}{vs:Tk}(C5:A.frames=some (env::outer))(hl:s.heap.FunFrames base (env::outer))(hf:env.frame=some L)
  (he:s.heap.get? e=some (eO C vs)) (h1:vs[1]?=some .none) (ng:¬ G e) (al:∀b,G b->∃o,s.heap.get? b=some o)
  (hQ:∀h',Fl G h' e C (rawInt L)->Kp G ((env::outer).filterMap (·.frame)) s.heap h'->Q () {s with heap:=h'}):wpAny (model prog w) A (noteFrame (.ref e) env) Q E s:=by
 unfold noteFrame;rwa[hf];refine AY (Dg he rfl h1 ?_);rw[AE ∅];exact sP C5 hl hf he (Ey.mp h1).1 ng al hQ
def Ai {base:AG}{env:Env}{outer:A0 Env}{L:A4}(C5:A.frames=some (env::outer))(hl:s.heap.FunFrames base (env::outer))(hf:env.frame=some L)(gf:∀b∈(env::outer).filterMap (·.frame),G b)
  (x:Fl G s.heap e C .none)
  (hQ:∀h',Fl G h' e C (rawInt L)->Kp G ((env::outer).filterMap (·.frame)) s.heap h'->Q () {s with heap:=h'}):wpAny (model prog w) A (noteFrame (.ref e) env) Q E s:=by
 let⟨vs,T,ts,c,n1,n2,ne,he,h1,hT,h3⟩:=x.is;unfold noteFrame;rwa[hf];refine AY (Dg he rfl h1 ?_);rw[A8 ∅];refine AY (Dg hT rfl h3 ?_);rw[AE (by simp[rawInt])];refine AY (zbv hT (Ey.mp h3).1 λh' hT' k=>?_);have kp:Kp G ((env::outer).filterMap (·.frame)) s.heap h':=.but n2 k;refine sP (s:={s with heap:=h'}) C5 (kp.funs gf hl) hf ((k.2 e ne.symm).trans he) (Ey.mp h1).1 n1 (kp.alive x.all) λh2 f2 k2=>hQ h2 f2 (kp.trans k2)
def BD {base:AG}{env:Env}{outer:A0 Env}{L:A4}(C5:A.frames=some (env::outer))(hl:s.heap.FunFrames base (env::outer))(hf:env.frame=some L)(gf:∀b∈(env::outer).filterMap (·.frame),G b)
  (x:Fl G s.heap e C .none) (hQ:∀h',Fl G h' e C .none->Kp G ((env::outer).filterMap (·.frame)) s.heap h'->Q () {s with heap:=h'}):wpAny (model prog w) A (leaving env (.ref e)) Q E s:=by
 unfold leaving;exact AY (Ai C5 hl hf gf x λh1 f1 k1=>pW f1 λh2 f2 k2=>hQ h2 f2 (k1.trans (k2.mono λ_ z=>nomatch z)))
def BE {base:AG}{env:Env}{outer:A0 Env}{L:A4}{vs:Tk}(C5:A.frames=some (env::outer))(hl:s.heap.FunFrames base (env::outer))(hf:env.frame=some L)
  (he:s.heap.get? e=some (eO C vs)) (h1:vs[1]?=some .none) (ng:¬ G e) (al:∀b,G b->∃o,s.heap.get? b=some o)
  (hQ:∀h',Fl G h' e C .none->Kp G ((env::outer).filterMap (·.frame)) s.heap h'->Q () {s with heap:=h'}):wpAny (model prog w) A (leaving env (.ref e)) Q E s:=by
 unfold leaving;exact AY (JDt C5 hl hf he h1 ng al λh1 f1 k1=>pW f1 λh2 f2 k2=>hQ h2 f2 (k1.trans (k2.mono λ_ z=>nomatch z)))
end
end HX
namespace HW
variable {K:AJ}
open PyProof.Rows L2
abbrev eF (K:AJ)(c:Str)(C:A4):Prop:=PySem.W.nsIn K mainGlobals c=some (some (.ref C))
noncomputable def sZ (P:A7)(w:AF)(base:AG):ze:=λouter H s E e s'=>∃ea C G H',e=.ref ea/\s'.os=s.os/\AllBare s'.gens/\Un (j6 outer) [] H H' s.heap s'.heap/\kz P w H' s'.heap /\
 HX.Fl G s'.heap ea (.ref C) .none/\(∀b o,s.heap.get? b=some o->G b)/\(∀b u,H' b=some u->G b)/\s'.heap.FunFrames base outer/\(∀b∈j6 outer,H' b=none)/\E (.ref C) none H'
section
variable {P:A7}{w:AF}{H H0 H1:Hp}{h h0 h1 h2:AG}{a:A4}{o:HO}{fs Eb S:Tg}{G:A4->Prop}
theorem LL (x:eY P w H h a o):∃ob,h.get? a=some ob:=by
 cases o with
 |lst xs=>let⟨_,_,_,_,e⟩:=x;exact{_,e}
 |tup xs=>let⟨_,_,_,⟨_,e,_⟩,_⟩:=x;exact{_,e}
 |dK kvs=>let⟨_,_,_,_,o,_,_,e,_⟩:=x;exact{_,e}
 |dT kvs=>let⟨_,_,_,_,o,_,_,e,_⟩:=x;exact{_,e}
 |set S n=>let⟨o,_,_,_,e,_⟩:=x;exact{_,e}
 |ins C dx fs=>let⟨_,_,_,e,_⟩:=x;exact{_,e}
 |own y=>let⟨_,e⟩:=x;exact{_,e}
 |xd fs=>let⟨_,⟨_,_,_,e,_⟩,_⟩:=x;exact{_,e}
 |rng lo hi=>let⟨_,_,_,e⟩:=x;exact{_,e}
 |frz ob u=>let⟨e,_⟩:=x;exact{_,e}
 |tbl ps=>exact{_,show h.get? a=some _ from x}
 |met f y=>exact{_,show h.get? a=some _ from x}
 |ext φ=>let⟨_,⟨_,e⟩,_⟩:=x;exact{_,e}
def zh (u:Un fs [] H0 H h0 h)(k:HX.Kp G S h h2)(hs:∀b∈S,b∈fs\/h0.get? b=none)(hg:∀b o,h0.get? b=some o->G b):Un fs [] H0 H h0 h2 where
 keep:=λb o q n nb nx=>(k b o (hg b o q) (u.keep b o q n nb nx)).1 λz=>(hs b z).elim nb λy=>by rw[q] at y;cases y
 slot:=λb o q n nb nx=>by let⟨sl,e⟩:=u.slot b o q n nb nx;let⟨Di,e'⟩:=(k b _ (hg b o q) e).2;exact{Di,e'}
 free:=u.free
 there:=λb o q nx=>by let⟨o',e⟩:=u.there b o q nx;let⟨Di,e'⟩:=(k b _ (hg b o q) e).2;exact{_,e'}
 tups:=u.tups
 frzs:=u.frzs
 tbls:=u.tbls
def sL (x:kz P w H h)(k:HX.Kp G S h h2)(hg:∀b u,H b=some u->G b/\b∉S):kz P w H h2:=λa o e=>
 (x a o e).stay (λb u hb q=>by
  have:∃v,H b=some v:=by
   rcases hb with rfl|hb
   ·exact{_,e}
   ·exact{_,hb}
  let⟨v,hv⟩:=this;exact(k b u (hg b v hv).1 q).1 (hg b v hv).2) (λ_ q=>q) λ_ _ q=>q
def Nn (u:Un fs [] H0 H h0 h)(v:Un Eb [] H H1 h h1)(hs:∀b∈Eb,b∈fs\/h0.get? b=none):Un fs [] H0 H1 h0 h1 where
 keep:=λb o q n nb nx=>v.keep b o (u.keep b o q n nb nx) (u.free b o q n nx) (λz=>(hs b z).elim nb λy=>by rw[q] at y;cases y) nx
 slot:=λb o q n nb nx=>by let⟨sl,e⟩:=u.slot b o q n nb nx;let⟨Di,e'⟩:=v.any e (u.free b o q n nx) nx;exact{Di,e'}
 free:=λb o q n nx=>by let⟨o',e⟩:=u.there b o q nx;exact v.free b o' e (u.free b o q n nx) nx
 there:=λb o q nx=>by let⟨o',e⟩:=u.there b o q nx;exact v.there b o' e nx
 tups:=λb xs q=>v.tups b xs (u.tups b xs q)
 frzs:=λb ob xs q=>v.frzs b ob xs (u.frzs b ob xs q)
 tbls:=λb ps q=>by let⟨m1,e1⟩:=u.tbls b ps q;let⟨m2,e2⟩:=v.tbls b _ e1;exact{m1++m2,by rw[e2,zb4]}
end
section
variable {P:A7}{w:AF}{K:AJ}{mg:Te}{base:AG}{N:To}{qual:Str}{scope:Scope}{f:A4}{cd:A6}{A:AI}{outer:A0 Env}{s0:A2}{H0:Hp}{E:XK}
def pG {b:A4}(hb:b∈j6 (envOfC qual scope s0.heap.objs.size f cd::outer)):b∈j6 outer\/s0.heap.get? b=none:=by
 have:b=s0.heap.objs.size\/b∈j6 outer:=by unfold j6 at hb;rw[za7,show(envOfC qual scope s0.heap.objs.size f cd).frame=some s0.heap.objs.size from rfl] at hb;exact BJ.mp hb
 rcases this with rfl|h
 ·exact .inr (zbV (BH _))
 ·exact .inl h
def vP {b:A4}{env:Env}(hb:b∈j6 outer):b∈j6 (env::outer):=by
 unfold j6 at hb ⊢;rw[za7];split
 ·exact hb
 ·exact Bk _ hb
def jy {H:Hp}{s:A2}{h':AG}{e C:A4}{args:Tf}(I:aS (gR (sZ P w base) P w K mg base N qual scope f cd A outer s0 H0 E) A1 Y H s)
  (hm:Heap.MadeExcOf s.heap h' e (.ref C) args) (hE:E (.ref C) none H):(gR (sZ P w base) P w K mg base N qual scope f cd A outer s0 H0 E).xe (.ref e) {s with heap:=h'}:=by
 let⟨t,he,ht,_⟩:=hm.there;have gf:∀b∈j6 (envOfC qual scope s0.heap.objs.size f cd::outer),∃o,s.heap.get? b=some o:=λb hb=>let ⟨_,o,q,_⟩:=I.stack.mem hb;{o,q};have kp0:HX.Kp (λb=>∃o,s.heap.get? b=some o) (j6 (envOfC qual scope s0.heap.objs.size f cd::outer)) s.heap h':=.keeps hm.keeps
 refine HX.BE (s:={s with heap:=h'}) (G:=λb=>∃o,s.heap.get? b=some o) (base:=base) I.ok.frames (kp0.funs gf I.stack) rfl he rfl (λ⟨o,q⟩=>by rw[hm.new] at q;cases q)
  (λb ⟨o,q⟩=>{o,hm.keeps b o q}) λh2 f2 k2=>?_
 have kp:=kp0.trans k2;have nf:∀b u,H b=some u->(∃o,s.heap.get? b=some o)/\b∉j6 (envOfC qual scope s0.heap.objs.size f cd::outer):=λb u q=>{LL (I.hok b u q),λz=>by rw[I.stkFree b z] at q;cases q};have g0:∀b o,s0.heap.get? b=some o->∃o',s.heap.get? b=some o':=λb o q=>I.base.there b o q (by simp[gR]);exact{e,C,_,H,rfl,I.os,I.bare,zh (show Un (j6 outer) [] H0 H s0.heap s.heap from I.base) kp (λb hb=>pG hb) g0,sL I.hok kp nf,f2,g0,λb u q=>(nf b u q).1,(kp.funs gf I.stack).2.2,λb hb=>I.stkFree b (vP hb),hE}
def jW:l6 (sZ P w base) (gR (sZ P w base) P w K mg base N qual scope f cd A outer s0 H0 E) E:=by
 intro A1 Y H s e s' I h;let⟨ea,C,G,H',rfl,os,bare,un,hok,fl,g1,g2,ff,fn,hE⟩:=h;have gf:∀b∈j6 (envOfC qual scope s0.heap.objs.size f cd::outer),G b:=λb hb=>let ⟨_,o,q,_⟩:=I.stack.mem hb;g1 b o q;refine HX.BD (base:=base) I.ok.frames ff rfl gf fl λh2 f2 k2=>?_;have g0:∀b o,s0.heap.get? b=some o->G b:=λb o q=>by let⟨o',q'⟩:=I.base.there b o q (by simp[gR]);exact g1 b o' q'
 have u0:Un (j6 outer) [] H0 H s0.heap s.heap:=I.base;have u1:Un (j6 outer) [] H0 H' s0.heap s'.heap:=Nn u0 un λb hb=>pG hb;exact{ea,C,G,H',rfl,os.trans I.os,bare,zh u1 k2 (λb hb=>pG hb) g0,sL hok k2 (λb u q=>{g2 b u q,λz=>by rw[fn b z] at q;cases q}),f2,g0,g2,(k2.funs gf ff).2.2,λb hb=>fn b (vP hb),hE}
end
abbrev XB:=Lo->ah->UO (Str×ah)
def g7 (K:AJ)(E:XK)(x:XB)(Y:L2.St)(H:Hp):Prop:=∃O U m c U',eI K m H O Y/\bz K m H U/\x O U=some (c,U')/\∀C H' m',eF K c C->fM m H m' H'->bz K m' H' U'->E (.ref C) none H'
def PX (X:Cx)(E:XK)(sts:Tn)(x:XB):Prop:=∀A1 s Y H,aS X A1 Y H s->g7 X.K E x Y H->wpAny (model X.prog X.w) X.A (execs sts X.env) (λ_ _=>False) X.xe s
def M9 (X:Cx)(E:XK)(st:AN)(x:XB):Prop:=∀A1 s Y H,aS X A1 Y H s->g7 X.K E x Y H->wpAny (model X.prog X.w) X.A (exec st X.env) (λ_ _=>False) X.xe s
def E2 (X:Cx)(A1:Td)(Y:L2.St)(E:XK)(e:A6)(s':A2):Prop:=∃H1 s1,aS X A1 Y H1 s1/\sZ X.prog X.w X.base X.stack H1 s1 E e s'
def rE (X:Cx)(e:AD)(x:XB):Prop:=∀A1 s Y H E,aS X A1 Y H s->g7 X.K E x Y H->wpAny (model X.prog X.w) X.A (eval e X.env) (λ_ _=>False) (E2 X A1 Y E) s
def MU (X:Cx)(st:AN)(x:XB):Prop:=∀A1 s Y H E,aS X A1 Y H s->g7 X.K E x Y H->wpAny (model X.prog X.w) X.A (exec st X.env) (λ_ _=>False) (E2 X A1 Y E) s
noncomputable def wk:XB:=λ_ _=>none
noncomputable def jg (a:FS)(x:XB):XB:=λO U=>(a O U).bind λo=>match o with|.nx O' U'=>x O' U'|_=>none
noncomputable def nN (x y:XB):XB:=λO U=>match x O U with|some r=>some r|none=>y O U
noncomputable def xC (t:FT)(x y:XB):XB:=λO U=>(t O U).bind λc=>if c.1=true then x O c.2 else y O c.2
noncomputable def ma (xf:A0 D->UO Str)(n:Nat)(fa:FA):XB:=λO U=>(fa O U).bind λa=>(vals a.1).bind λds=>if ds.length=n then (xf ds).bind λc=>some (c,a.2) else none
noncomputable def wE (k:Nat)(x:XB):A0 D->UO Str:=λds=>(x (ds.map (λd=>some (.v d))++List.replicate (k-ds.length) none) []).bind λr=>some r.1
noncomputable def T6 (K:AJ)(n:Nat)(xf:A0 D->UO Str):Sp:=λvs H _ E=>∃ds c,ds.length=n/\RelDs K H ds vs/\xf ds=some c/\∀C H',eF K c C->xG H H'->E (.ref C) none H'
def fG (P:A7)(w:AF)(K:AJ)(mg:Te)(base:AG)(k:Nat)(x:Str)(ps:To)(xf:A0 D->UO Str):Prop :=
 ∃f fd,dF P w K mg base (sZ P w base) k f fd ps (T6 K ps.length xf)/\PySem.W.keepIn K (.ref f)=true/\fH K fd ps []/\mg x=some (.ref f)
abbrev U8:Tf:=[.type "ValueError",.type "Exception",.type "BaseException",.type "object"]
structure j7 (K:AJ)(C:Addr):Prop where
 ex:∃nm q N bs bm hdct sn sub ab col dd k0 k1 k2 k3 k5,K.lookup C=some (excClassObj nm q C N bs bm hdct sn sub ab col dd k0 k1 k2 k3 k5 "ValueError.__new__")/\PySem.W.tailIn K U8 bm=true/\PySem.W.nsOkIn K N=true/\PySem.W.nsIn K N "__init__" = some none
noncomputable def kK (K:AJ)(C CH:A4):A9:=match K.lookup C with|some ⟨_,_,.cls cd,_⟩=>cd.mro.contains (.ref CH)|_=>false
structure kW (K:AJ)(D:Addr):Prop where
 dc:PySem.W.hasDictIn K D=true
 ga:PySem.W.findIn K (.ref D) "__getattribute__" = some (some (.builtin "BaseException.__getattribute__"))
 gn:PySem.W.findIn K (.ref D) "__getattr__" = some none
 fi:PySem.W.findIn K (.ref D) "__class__" = some (some (.builtin "object.__class__"))
 mr:PySem.W.mroIn K D (.type "object")=some true
 mb:PySem.W.mroIn K D (.type "BaseException")=some true
 gt:PySem.W.specialIn K (.builtin "object.__class__") "__get__" = some (some (.builtin "getset_descriptor.__get__"))
 tk:PySem.W.takesIn K (.builtin "object.__class__")=some true
noncomputable def fN (c:Str)(ok:Lo->A9):XB:=λO U=>if ok O=true then some (c,U) else none
def qg {X:Cx}{E:XK}{c:Str}{C:A4}{arg:AD}{ta:TE}{ok:Lo->A9}{np AX pos:Pos}(hc:X.calm=true)(hm:X.mg c=some (.ref C))(hk:eF X.K c C)(Ozz:j7 X.K C)(hg:Gl X c)(ha:PE X arg ta)
  (hok:∀{O U m Y H},eI X.K m H O Y->bz X.K m H U->ok O=true->ta Y H λx H'=>[x].length=1/\H'=H)
  (hX:∀{A1 Y H s h' e args},aS X A1 Y H s->Heap.MadeExcOf s.heap h' e (.ref C) args->E (.ref C) none H->X.xe (.ref e) {s with heap:=h'})
  (hd:(c == ("__debug__" : Str))=false) (he:starEach [arg] X.env=(false,eval arg X.env)::starEach [] X.env):M9 X E (.Raise (some (.Call (.Name c np) [arg] [] AX)) none pos) (fN c ok):=by
 intro A1 s Y H I ⟨O,U,m,c',U',hl,hs,e,k⟩;unfold fN at e;split at e
 ·rename_i ho
  cases e;let⟨nm,q,N,bs,bm,hdct,sn,sub,ab,col,dd,k0,k1,k2,k3,k5,lk,tl,no,ni⟩:=Ozz.ex;have KB:X.K.In X.base:=I.ok.mod.kin;have T:=PySem.W.tail_of_in KB tl
  refine wpAny_Raise_call_subT (C:=C) (nm:=nm) (q:=q) (N:=N) (bs:=bs) (bm:=bm) (hdct:=hdct) (sn:=sn) (sub:=sub) (ab:=ab) (col:=col) (dd:=dd) (k0:=k0) (k1:=k1) (k2:=k2) (k3:=k3) (k5:=k5)
   F.excBase_ValueError (mN:=X.base.nsMap N) (T.hasType F.excBase_ValueError.hasBase) (I.ok.hd hc) (by rw[he];rfl) (PySem.W.nsMap_none_of_in KB no ni) (jA I hg hm {rfl,?_} hd)
  have hp:=gX ha lJ he AX A1 s Y H (λvs H'=>vs.length=1/\H'=H) I;rw[he] at hp ⊢;refine Calls.evalArgs_plain (BK (hp (hok hl hs ho)) (λvs s2 hh=>?_) λ_ _ y=>y);let⟨ws,H2,I2,r,q1,q2⟩:=hh;subst q2;refine{rfl,?_,I2.bk _ _ (KB _ _ lk),(Heap.Ns.of_isNs (PySem.W.isNs_of_in KB no)).keeps I2.bk,T.keeps I2.bk,λh' e hm'=>hX I2 hm' (k C H2 m hk .refl hs)}
  show vs.length<=sizeLine
  rw[←r.length,q1];decide
 ·cases e
def Ry (a:Str)(i:Nat):TE:=λY H Q=>∃y,Y[i]?=some (some (.str y))/\a.length+(reprText y).length<=sizeLine/\(reprText y).length<=sizeLine/\a.length<=sizeLine/\∀z,Q (.str z) H
def OQ {a:Str}{i:Nat}{x:Str}{j:Nat}{p1 p2 p3 pos:Pos}(hx:PE X (.Name x p2) (xU i)):PE X (.JoinedStr [.Constant (.str a) j p1,.FormattedValue (.Name x p2) 114 none p3] pos) (Ry a i):=by
 intro A1 s Y H Q I ⟨y,hy,z1,z2,z3,q⟩;refine JoinedStr_many (joinParts_cons ?_);refine dk (vh (X:=X) A1 s Y H (λv H'=>v=.str a/\H'=H) I {rfl,rfl}) λv s1 hh=>?_;let⟨v',H1,I1,r1,e1,e2⟩:=hh;subst e1 e2;let⟨t1,rfl⟩:=r1;have z0:(Str.empty++a).length<=sizeLine:=by rw[strLen_append];exact Br (by show 0+a.length<=a.length;omega) z3
 refine{z0,joinParts_cons (wpAny_FormattedValue_repr ?_)};refine dk (hx A1 s1 Y H1 (λv H'=>v=.str y/\H'=H1) I1 {_,hy,rfl,rfl}) λv s2 hh=>?_;let⟨v',H2,I2,r2,e1,e2⟩:=hh;subst e1 e2;let⟨t2,rfl⟩:=r2;refine wpAny_pyReprObj_str (formatField_str (λt' tk=>?_) z2) z2;have z4:(Str.empty++a++reprText y).length<=sizeLine:=by rw[strLen_append,strLen_append];exact Br (by show 0+a.length+(reprText y).length<=a.length+(reprText y).length;omega) z1
 refine{z4,joinParts_nil ?_ z4};exact{.str _,H2,I2.tok _,{_,rfl},q _}
noncomputable def qi (a:Str)(i:Nat):Lo->A9:=λO=>match O[i]? with|some (some (.v (.str y)))=>decide (a.length+(reprText y).length<=sizeLine)|_=>false
def Gv {a:Str}{i:Nat}{O:Lo}{U:ah}{m:Tg}{H:Hp}(hl:eI K m H O Y)(hs:bz K m H U)(h:qi a i O=true):Ry a i Y H λx H'=>[x].length=1/\H'=H:=by
 unfold qi at h;split at h
 ·rename_i y q;let⟨v,q1,q2⟩:=hl.2 i _ q;rwa[ay,au] at q2;subst q2;have z:=of_decide_eq_true h;exact{y,q1,z,by omega,by omega,λz=>{rfl,rfl}}
 ·cases h
noncomputable def xk (tbl:Str->UO A9):R->ah->UO (R×ah)
 |.x c,U=>(tbl c).bind λb=>some (.v (.bl b),U)
 |_,_=>none
def JA5 {K:AJ}{prog:A7}{w:AF}{A:AI}{E:Tc}{Q:UO A6->A2->Prop}{s:A2}{x D:A4}{ox:Obj}(Ozz:kW K D)(X:K.In s.heap)(I:PySem.W.InstAt s.heap x ox D none)(k:Q (some (.ref D)) {s with toks:=s.toks+1}) :
  wpAny (model prog w) A (getAttr? (.ref x) "__class__") Q E s:=by
 let⟨h,g,d,t,os⟩:=s;have L0:=I.type (M:=model prog w);have LG:=zbD (M:=model prog w) X Ozz.ga;have LA:=zbD (M:=model prog w) X Ozz.gn;have LC:=zbD (M:=model prog w) X Ozz.fi;have LB:=PySem.W.looks_mroIn (M:=model prog w) X Ozz.mb;have f3:=F.attr_ValueError.ga.bind (.ref x);unfold getAttr?;unfold getAttrBy?;unfold getAttrBy;refine AY (wpAny_mkText (AY (wpAny_attempt (zbs (AY (L0.at (AY (LG.at ?_))))))))
 show wpAny _ _ (if (onTheHeap (.ref D)&&(Value.builtin "BaseException.__getattribute__" == Value.builtin "object.__getattribute__"))=true then _ else _) _ _ _
 rw[AE (show ¬ (onTheHeap (.ref D)&&(Value.builtin "BaseException.__getattribute__" == Value.builtin "object.__getattribute__"))=true by rw[show(Value.builtin "BaseException.__getattribute__" == Value.builtin "object.__getattribute__")=false by decide];simp)];unfold getAttrByItsOwn;unfold hookBefore;rw[A8 (show onTheHeap (.ref D)=true from rfl)];refine AY (LA.at ?_)
 repeat (any_goals (first|assumption|wp_step))
 refine codeAny_call_builtin F.attr_ValueError.ga.plain F.entry_bexc_ga ?_;have hk:builtinKind "BaseException.__getattribute__" = some .slot:=∅;have hp:splitId "BaseException.__getattribute__" = some ("BaseException","__getattribute__"):=∅;have ha:=F.args_bexc_ga (.ref x) (.str "__class__" t);have LI:PySem.W.Looks (model prog w) h (isInstance (.ref x) (.type "BaseException")) true:=L0.andThen LB;obtain⟨cd,Bp,_⟩:=zce Ozz.dc
 have hf:PySem.W.findObj K D none "__class__" = some (.bind (.builtin "getset_descriptor.__get__") (.builtin "object.__class__")):=by
  unfold PySem.W.findObj;rw[Bp,AZ,Ozz.fi,AZ];simp[Ozz.gt,Ozz.tk]
 have LF:=PySem.W.looks_find (M:=model prog w) X I hf;have hx:=I.at_;have hc:=I.cls;rwa[checkBuiltinCall,hk,hp];refine AY (LI.at ?_)
 repeat (any_goals (first|assumption|(with_reducible refine zbM hx ?_;rw[hc])|with_reducible refine AY (LF.at ?_)|wp_step))
 exact PySem.W.class_get (s:={h,g,d,t+1,os}) X I Ozz.mr (BG (PySem.W.handed_on rfl (BG k)))
def xg {x D:A4}{vs:Tk}(Ozz:kW K D):PySem.W.KitX K (.ref x) (.ref D) (λh=>h.get? x=some (HX.eO (.ref D) vs)):=by
 have inst:∀h:AG,h.get? x=some (HX.eO (.ref D) vs)->PySem.W.InstAt h x (HX.eO (.ref D) vs) D none:=λh e=>{e,rfl,rfl,trivial};let⟨cd,Bp,_⟩:=zce Ozz.dc;refine{λM h X e=>(inst h e).type,λM h X e=>?_,λh tp dd its n sl X htp=>?_,λ{prog w A E Q s} X e k=>?_}
 ·unfold PySem.W.clsIn at Bp;split at Bp
  ·rename_i ho;intro A' Q' E' s' kk q;unfold isType loadHead;exact AY (wpAny_loadPart (kk _ _ (X _ _ ho)) (BG q))
  ·cases Bp
 ·refine Bool.eq_false_iff.mpr λq=>?_;have ee:D=tp:=Value.ref.inj (beq_iff_eq.mp q);subst ee;unfold PySem.W.clsIn at Bp;split at Bp
  ·rename_i ho;have z:=(X _ _ ho).symm.trans htp;cases z
  ·cases Bp
 ·exact JA5 Ozz X (inst _ e) k
def Oq (K:AJ)(tbl:Str->UO A9)(v:V):A0 V->Hp->VK->Prop:=λvs H Q=>∃m c b x,vs=[x,v]/\ay K m H (.x c) x/\tbl c=some b/\Q (.bl b) H
def IU (K:AJ)(tbl:Str->UO A9)(ws:A0 V):A0 V->Hp->VK->Prop:=λvs H Q=>∃m c b x p,vs=[x,.ref p]/\oa K H p ws/\ay K m H (.x c) x/\tbl c=some b/\Q (.bl b) H
theorem JDu {X:Cx}{tbl:Str->UO A9}{v:V}{u:A6}(hv:bQ v u)(hu:∀u',bQ v u'->u'=u)(hO:∀c C b,tbl c=some b->eF X.K c C->kW X.K C/\PySem.W.kitOne X.K (.ref C) u=some b):kA X (.builtin "isinstance") (Oq X.K tbl v):=by
 intro A1 s Y H vs us Q I rv q;let⟨m,c,b,x,rfl,rx,e,q⟩:=q;let⟨a,ws,C,rfl,hH,hc⟩:=rx
 cases rv with
 |cons r1 rr=>
  cases rr with
  |cons r2 rr=>
   cases rr;cases r1;have:=hu _ r2;subst this;let⟨Ozz,kt⟩:=hO c C b e hc;exact DU (xg Ozz) I.kIn (I.hok a _ hH).1 kt (λz=>nomatch z) λtk=>{.bl b,H,I.tok tk,rfl,q}
theorem JA8 {X:Cx}{tbl:Str->UO A9}{ws:A0 V}{us':Tf}(hu:∀us,bO ws us->us=us')(hO:∀c C b,tbl c=some b->eF X.K c C->kW X.K C/\PySem.W.kitAny X.K (.ref C) us'=some b):kA X (.builtin "isinstance") (IU X.K tbl ws):=by
 intro A1 s Y H vs us Q I rv q;let⟨m,c,b,x,p,rfl,hT,rx,e,q⟩:=q;let⟨a,vs',C,rfl,hH,hc⟩:=rx
 cases rv with
 |cons r1 rr=>
  cases rr with
  |cons r2 rr=>
   cases rr;cases r1;cases r2;obtain⟨Ozz,kt⟩:=hO c C b e hc;obtain⟨its,ri,⟨⟨o,h1,h2,n,h3⟩,h4⟩,_⟩:=I.tupleD hT;have:=hu _ ri;subst this;have ho:o={.type "tuple",none,.seq its.toArray n,o.slots}:=by have h5:=h4 o h1;obtain⟨oc,od,oda,Dj⟩:=o;simp only at h2 h3 h5;subst h2 h3 h5;rfl
   rw[ho] at h1;exact PySem.W.kia_tup (xg Ozz) I.kIn (I.hok a _ hH).1 h1 kt (λz=>nomatch z) λtk=>{.bl b,H,I.tok tk,rfl,q}
def Ka:A0 V->TA
 |[]=>u5
 |v::r=>mL (tC v) (Ka r)
theorem CB {H:Hp}:∀{vs:A0 V} {Q:A0 V->Hp->Prop},Q vs H->Ka vs Y H Q
 |[],_,h=>h
 |v::r,Q,h=>CB (vs:=r) (Q:=λxs H2=>Q (v::xs) H2) h
section
variable {K:AJ}{Y:L2.St}{H:Hp}{Q:VK}{fa:FE}{tbl:Str->UO A9}
theorem KC {v:V}(h:aN K (fT (xk tbl) fa) Y H Q):M2 (Oq K tbl v) (mL (aN K fa) (mL (tC v) u5)) Y H Q:=by
 let⟨O,U,m,d,U',hl,hs,e,k⟩:=h;let⟨⟨x,U1⟩,e1,e⟩:=AO.mp e
 cases x with
 |x c=>
  let⟨b,e2,e⟩:=AO.mp e;cases e;exact{O,U,m,.x c,_,hl,hs,e1,λv' H1 m1 x1 s1 r1=>{m1,c,b,v',rfl,r1,e2,k _ H1 m1 x1 s1 (by rwa[ay,au])}}
 |v _=>cases e
 |p _=>cases e
 |s _ _=>cases e
 |f _ _=>cases e
theorem Fy {ws:A0 V}(hw:ws.length<=sizeLine)(h:aN K (fT (xk tbl) fa) Y H Q):M2 (IU K tbl ws) (mL (aN K fa) (mL (J6 (Ka ws)) u5)) Y H Q:=by
 let⟨O,U,m,d,U',hl,hs,e,k⟩:=h;let⟨⟨x,U1⟩,e1,e⟩:=AO.mp e
 cases x with
 |x c=>
  let⟨b,e2,e⟩:=AO.mp e;cases e;refine{O,U,m,.x c,_,hl,hs,e1,λv' H1 m1 x1 s1 r1=>?_};refine CB {hw,λp hp=>?_};have x2:fM m1 H1 m1 (upd H1 p (.tup ws)):=.new hp;exact{m1,c,b,v',p,rfl,.inl (.inl eS),r1.ext x2,e2,k _ _ m1 (x1.trans x2) (s1.same (eg hp)) (by rwa[ay,au])}
 |v _=>cases e
 |p _=>cases e
 |s _ _=>cases e
 |f _ _=>cases e
end
abbrev inh (X:Cx)(ea:A4):Cx:={X with A:=X.A.mark (some (.ref ea)),calm:=false,xe:=λ_ _=>False}
section
variable {X:Cx}{A1:Td}{Y:L2.St}{H:Hp}{s:A2}{ea:A4}
def aS.inh (I:aS X A1 Y H s)(ea:A4):aS (HW.inh X ea) A1 Y H s :=
 {{I.ok.mod,I.ok.kind,I.ok.glob,I.ok.blt,I.ok.above,I.ok.inj,I.ok.has,I.ok.cab,(λz=>nomatch z),I.ok.frames,I.ok.stk,I.ok.exf,I.ok.bs,I.ok.bsz,I.ok.noex,I.ok.exfs,I.ok.funs,I.ok.frf},I.os,I.bare,I.base,I.loc,I.cell,I.free,I.freeC,I.pin,I.hok,I.len}
def aS.outh (ok:X.Ok)(I:aS (HW.inh X ea) A1 Y H s):aS X A1 Y H s:={ok,I.os,I.bare,I.base,I.loc,I.cell,I.free,I.freeC,I.pin,I.hok,I.len}
def aS.held {oe:Obj}(I:aS X A1 Y H s)(he:s.heap.get? ea=some oe)(n:H ea=none)(n0:X.s₀.heap.get? ea=none)(nl:X.env.locals≠ea)(nc:∀x c,X.env.cells.lookup x=some c->c≠ea)(np:∀p∈X.pn++A1,p.1≠ea) :
  aS X A1 Y (upd H ea (pT oe)) s:=by
 have ne:∀{b u},H b=some u->b≠ea:=λ{b u} q z=>by rw[z,n] at q;cases q
 refine{I.ok,I.os,I.bare,{I.base.keep,I.base.slot,λb o q nn nx=>?_,I.base.there,λb xs q=>?_,λb o u q=>?_,λb ps q=>?_},I.loc,I.cell,?_,λx c q=>?_,λp hp=>?_,λb u q=>?_,I.len}
 ·rw[L2.aT (λz=>by rw[z,n0] at q;cases q)];exact I.base.free b o q nn nx
 ·have z:=I.base.tups b xs q;rw[L2.aT (ne z)];exact z
 ·have z:=I.base.frzs b o u q;rw[L2.aT (ne z)];exact z
 ·let⟨more,z⟩:=I.base.tbls b ps q;exact{more,by rw[L2.aT (ne z)];exact z}
 ·rw[L2.aT nl];exact I.free
 ·rw[L2.aT (nc x c q)];exact I.freeC x c q
 ·let⟨a1,a2,a3⟩:=I.pin p hp
  exact{a1,by rw[L2.aT (np p hp)];exact a2,a3}
 ·by_cases hb:b=ea
  ·subst hb
   rw[L2.fX] at q;cases q;exact{he,trivial,{oe,he},λ_ _ _ _=>trivial}
  ·rw[L2.aT hb] at q
   exact(I.hok b u q).stay (λc v _ r=>r) (λc r=>by rw[L2.aT (ne r)];exact r) λc xs r=>by rw[L2.aT (ne r)];exact r
def aS.del {i t:Nat}{n:Str}{m:Te}{v:Ti}{h':AG}(I:aS X A1 Y H s)(hN:X.N.Nodup)(hi:X.N[i]?=some n)
  (hm:∀(j:Nat) (x:Str) (v:V),X.N[j]?=some x->Y[j]?=some (some v)->M8 X.env.scope x->∃u,bQ v u/\Qo X.env s.heap m x u)
  (hn:h'.Ns X.env.locals λx=>if x=n then v else m x) (hs:Heap.SameBut X.env.locals s.heap h'):aS X A1 (Y.set i none) H {s with heap:=h',toks:=t}:=by
 have neL:∀b o,X.s₀.heap.get? b=some o->b≠X.env.locals:=λb o e=>Ba (Be (BO e) I.ok.above);refine{I.ok,I.os,I.bare,{λb o e nn hb hx=>(hs.2 b (neL b o e)).trans (I.base.keep b o e nn hb hx),λb o e nn hb hx=>?_,I.base.free,λb o e hx=>?_,I.base.tups,I.base.frzs,I.base.tbls},{_,hn,λj y v' e1 e2 e3=>?_},λy c e=>?_,I.free,I.freeC,λp hp=>?_,λb u e=>?_,by simpa using I.len}
 ·let⟨sl,e1⟩:=I.base.slot b o e nn hb hx
  exact{sl,(hs.2 b (neL b o e)).trans e1}
 ·let⟨o',e1⟩:=I.base.there b o e hx
  exact{o',(hs.2 b (neL b o e)).trans e1}
 ·have hj:j≠i:=by
   rintro rfl
   by_cases hl:j<Y.length
   ·rw[DZ hl] at e2;cases e2
   ·rw[zbT (by simp;omega)] at e2;cases e2
  rw[Ej (Ne.symm hj)] at e2;let⟨u,r,q⟩:=hm j y v' e1 e2 e3;refine{u,r,?_};rcases q with⟨k,e⟩|⟨k,c,e,z⟩
  ·have:y≠n:=λz=>hj (sx hN e1 (z ▸ hi))
   exact .inl {k,by simp[this,e]}
  ·exact .inr {k,c,e,z.sameBut hs (I.cne y c e)}
 ·let⟨w',z⟩:=I.cell y c e
  exact{w',z.sameBut hs (I.cne y c e)}
 ·let⟨e,n,ne,nf,d⟩:=I.pin p hp
  exact{(hs.2 p.1 ne).trans e,n,ne,nf,d}
 ·refine(I.hok b u e).stay (λc v hc q=>(hs.2 c λz=>?_).trans q) (λ_ q=>q) λ_ _ q=>q
  have:H c≠none:=by
   rcases hc with rfl|hc
   ·rw[e];simp
   ·rw[hc];simp
  exact this (z ▸ I.free)
def AC {M:Model}{A:AI}{E:Tc}{i:Nat}{n:Str}{pos:Pos}{Q:Unit->A2->Prop}(I:aS X A1 Y H s)(hN:X.N.Nodup)(hi:X.N[i]?=some n)(hl:X.env.scope.names.lookup n=some .local)
  (h:∀s',aS X A1 (Y.set i none) H s'->Q () s'):wpAny M A (do bindName X.env n .none;unbindBehindTheSuite X.env n pos) Q E s:=by
 refine AY (wpAny_bindName (mM (v:=.non) (u:=.none) I hN hi (.inl hl) rfl (λs1 I1=>?_) (.inr hl)))
 have Fb:(X.env.scope.kind == .class || (X.env.scope.kind == .module&&X.env.locals != X.env.globals))=false:=by rw[I.ok.kind];rfl
 have hk:X.env.kindOf n=some .local:=hl
 have hiY:i<Y.length:=by rw[I.len];exact(Bn.mp hi).1
 let⟨m,hn,hm⟩:=id I1.loc
 have hs:(m n).isSome=true:=by
  let⟨u,_,q⟩:=hm i n .non hi (by rw[DZ hiY]) (.inl hl);rcases q with⟨_,e⟩|⟨k,_⟩
  ·rw[e];rfl
  ·rw[hk] at k;rcases k with k|k <;> cases k
 unfold unbindBehindTheSuite;refine wpAny_onRaise ?_;unfold unbindName;refine AY (wpAny_point (AY ?_));unfold deleteName;rwa[hk,Fb];rw[AE ∅];refine AY (wpAny_nsDel_keeps hn λh2 v Dm F9=>?_);rw[hs];have I2:=aS.del (t:=s1.toks) I1 hN hi hm Dm F9;rw[List.set_set] at I2
 first
  |exact BG (wpAny_point (h _ I2))
  |(rwa[DS,DY,if_false,if_true];exact BG (wpAny_point (h _ I2)))
end
def JA1 {M:Model}{A:AI}{E:Tc}{K:AJ}{s:A2}{e C CH:A4}{vs:Tk}{Q:A9->A2->Prop}(X:K.In s.heap)(Ozz:j7 K C)(OH:j7 K CH)(he:s.heap.get? e=some (HX.eO (.ref C) vs))(hin:kK K C CH=true)(hq:Q true s) :
  wpAny M A (excMatches (.ref e) (.ref CH)) Q E s:=by
 let⟨nm,q,N,bs,bm,hdct,sn,sub,ab,col,dd,k0,k1,k2,k3,k5,lk,tl,no,ni⟩:=Ozz.ex;let⟨nm',q',N',bs',bm',hdct',sn',sub',ab',col',FH,k0',k1',k2',k3',k5',lk',tl',no',ni'⟩:=OH.ex;have hC:=X _ _ lk;have hH:=X _ _ lk'
 have hb:(Value.ref CH::bm').contains (.type "BaseException")=true:=by rw[zbJ,(PySem.W.tail_of_in X tl').hasType F.excBase_ValueError.hasBase,Bool.or_true]
 have hm:(Value.ref C::bm).contains (.ref CH)=true:=by
  unfold kK at hin;rw[lk] at hin;exact hin
 have f:=tc_notTuple;let⟨h,g,d,t,os⟩:=s;unfold excMatches
 repeat (first|with_reducible refine zbM he ?_|with_reducible refine zbM hH ?_|with_reducible refine zbM hC ?_|(with_reducible refine wpAny_isSubtype_exc hH ?_;rw[hb])|(with_reducible refine wpAny_isSubtype_exc hC ?_;rw[hm])|wp_step)
 exact hq
noncomputable def HG (i:Nat):oP->UO oP
 |.nx O2 U2=>some (.nx (O2.set i none) U2)
 |_=>none
noncomputable def CS (cs:To)(xb:XB)(nb:FS)(i:Nat)(hb:FS):FS:=λO U=>match xb O U with
 |some (c,U1)=>if cs.contains c=true then (hb (O.set i (some (.x c))) U1).bind (HG i) else none
 |none=>nb O U
def eI.del {m:Tg}{H:Hp}{O:Lo}{Y:L2.St}(h:eI K m H O Y)(i:Nat):eI K m H (O.set i none) (Y.set i none):=by
 refine{by simp[h.1],λj d e=>?_};by_cases hj:j=i
 ·subst hj;by_cases hi:j<O.length
  ·rw[DZ hi] at e;cases e
  ·rw[zbT (by simp;omega)] at e;cases e
 ·rw[Ej (Ne.symm hj)] at e ⊢;exact h.2 j d e
def Kk {X:Cx}{st:AN}{cx n:Str}{CH:A4}{np FQ pos:Pos}{b₀:AN}{suite:Tn}{xb:XB}{nb hb:FS}{i:Nat}{cs:To}(CW:X.stack=X.env::X.outer)(C5:X.env.frame=some X.env.locals)(hex:X.ex=[])
  (hn:PS X.nox st (gL X.K nb)) (hx:MU X st xb) (hg:Gl X cx) (hm:X.mg cx=some (.ref CH)) (OH:j7 X.K CH)
  (hO:∀c C,cs.contains c=true->eF X.K c C->j7 X.K C/\kK X.K C CH=true) (hN:X.N.Nodup) (hi:X.N[i]?=some n) (hl:X.env.scope.names.lookup n=some .local)
  (hs:∀ea,qF (inh X ea) (b₀::suite) (gL X.K hb)) (hd:(cx == ("__debug__" : Str))=false:=by decide) :
  PS X (.Try [st] [.ExceptHandler (some (.Name cx np)) (some n) (b₀::suite) FQ] [] [] pos) (gL X.K (CS cs xb nb i hb)):=by
 intro A1 s Y H D I ⟨O,U,m,o,lr,sr,e,k⟩;refine wpAny_Try_except ?_;unfold CS at e;split at e
 ·rename_i c U1 ex
  split at e
  case isFalse=>cases e
  rename_i CL
  let⟨o1,e1,e⟩:=AO.mp e
  cases o1 with
  |bk O1 U2=>cases e
  |ct O1 U2=>cases e
  |rt d U2=>cases e
  |nx O2 U2=>
   cases e
   let E':XK:=λu _ H'=>(∃C,u=.ref C/\eF X.K c C)/\∃m',fM m H m' H'/\bz X.K m' H' U1
   have hd':g7 X.K E' xb Y H:={O,U,m,c,U1,lr,sr,ex,λC H' m' q y z=>{{C,rfl,q},m',y,z}};refine zbo (BK (hx A1 s Y H E' I hd') (λ_ _ z=>z.elim) λe' s1 hh=>?_);let⟨H1,s2,I1,hcx⟩:=hh;let⟨ea,C,G,H',rfl,os,bare,un,hok,fl,g1,g2,ff,fn,⟨C',eC,hC⟩,m',x',s'⟩:=hcx;cases eC;rw[CW] at un ff fn
   have gf:∀b∈j6 (X.env::X.outer),G b:=λb hb=>by
    have q:=I1.stack;rw[CW] at q;let⟨_,o,q,_⟩:=q.mem hb;exact g1 b o q
   have fr:X.A.frames=some (X.env::X.outer):=by rw[←CW];exact I.ok.frames
   refine HX.Ai (base:=X.base) fr ff C5 gf fl λh2 f2 k2=>HX.pW f2 λh3 f3 k3=>?_;have k3':=k2.trans (k3.mono λb z=>nomatch z);let⟨OC,mC⟩:=hO c C CL hC
   have inv:∀h4,HX.Kp G (j6 (X.env::X.outer)) s1.heap h4->aS X A1 Y H' {s1 with heap:=h4}:=λh4 kp=>
    I1.call' (s':={s1 with heap:=h4}) (ch:=[]) os (by rw[CW];exact zh un kp (λb hb=>.inl hb) g1) (sL hok kp λb u q=>{g2 b u q,λz=>by rw[fn b z] at q;cases q}) bare (λb z=>nomatch z)
   have I3:=inv h3 k3';refine wpAny_handleBy_cons (codeAny_handlers_test (jA (aS.inh I3 ea) hg hm ?_ hd)) (by intro q;cases q);let⟨vs,T,ts,cc,n1,n2,ne,he3,_⟩:=f3.is;refine JA1 (s:={s1 with heap:=h3}) I3.kIn OC OH he3 mC (codeAny_handlers_suite_as ?_);refine HX.pW (s:={s1 with heap:=h3}) f3 λh4 f4 k4=>?_;have I4:=inv h4 (k3'.trans (k4.mono λb z=>nomatch z));let⟨vs4,T4,ts4,cc4,n14,n24,ne4,he4,_⟩:=f4.is
   have nn:H' ea=none:=by
    cases q:H' ea with
    |none=>rfl
    |some u=>exact AH (g2 ea u q) n14
   have n0:s2.heap.get? ea=none:=by
    cases q:s2.heap.get? ea with
    |none=>rfl
    |some u=>exact AH (g1 ea u q) n14
   have n00:X.s₀.heap.get? ea=none:=by
    cases q:X.s₀.heap.get? ea with
    |none=>rfl
    |some u=>let⟨o',z⟩:=I1.base.there ea u q (by rw[hex];simp);rw[n0] at z;cases z
   have nl:X.env.locals≠ea:=λz=>by
    let⟨mm,⟨o,_,_,ho,_⟩,_⟩:=I1.loc;rw[z,n0] at ho;cases ho
   have nc:∀x c,X.env.cells.lookup x=some c->c≠ea:=λx c q z=>by
    let⟨v,o,ho,_⟩:=I1.cell x c q;rw[z,n0] at ho;cases ho
   have np':∀p∈X.pn++A1,p.1≠ea:=λp hp z=>by
    have q:=(I1.pin p hp).1;rw[z,n0] at q;cases q
   have I5:=aS.held I4 he4 nn n00 nl nc np';have x5:fM m' H' m' (upd H' ea (pT (HX.eO (.ref C) vs4))):=.new nn;have s5:bz X.K m' (upd H' ea (pT (HX.eO (.ref C) vs4))) U1:=s'.same (eg nn);have r5:ay X.K m' (upd H' ea (pT (HX.eO (.ref C) vs4))) (.x c) (.ref ea):={ea,vs4,C,rfl,eS,hC};have l5:=(lr.ext (x'.trans x5)).set r5 i;refine mM I5 hN hi (.inl hl) (show bQ (.ref ea) (.ref ea) from rfl) (λs6 I6=>?_) (.inr hl)
   let D':jp:={nx:=λY2 H2=>∃m2,fM m H m2 H2/\bz X.K m2 H2 U2/\eI X.K m2 H2 O2 Y2,rt:=λ_ _=>False}
   have hd6:gL X.K hb D' (Y.set i (some (.ref ea))) (upd H' ea (pT (HX.eO (.ref C) vs4))):={_,U1,m',_,l5,s5,e1,λY2 H2 m2 y z l=>{m2,(x'.trans x5).trans y,z,l}};refine BK (hs ea A1 s6 _ _ D' (aS.inh I6 ea) hd6) (λf s7 q=>?_) λ_ _ z=>z.elim
   cases f with
   |ret v=>let⟨_,_,_,_,_,z⟩:=q;exact z.elim
   |brk=>let⟨_,_,_,z⟩:=q;exact z.elim
   |cont=>let⟨_,_,_,z⟩:=q;exact z.elim
   |next=>
    let⟨Y7,H7,I7,m7,x7,s7',l7⟩:=q;exact AC (aS.outh I.ok I7) hN hi hl λs8 I8=>{_,H7,I8,k _ H7 m7 x7 s7' (eI.del l7 i)}
 ·refine zbo (BK (hn A1 s Y H D (I.wish _) {O,U,m,o,lr,sr,e,k}) (λf s1 q=>?_) λ_ _ z=>z.elim)
  have q:=SP.unwish q
  cases f with
  |next=>exact zbG (zbG q)
  |ret v=>exact q
  |brk=>exact q
  |cont=>exact q
end HW
namespace HW
open L2
structure ET (K:AJ)(mg:Te)(c:Str)(C:Addr):Prop where
 at_:eF K c C
 mg:mg c=some (.ref C)
 own:j7 K C
 cls:kW K C
noncomputable def AM (l:A0 (Str×A9)):Str->UO A9:=λc=>l.lookup c
section
variable {K:AJ}{mg:Te}{a:Str}{q CH:A4}{b:A9}{l:A0 (Str×A9)}{cs:To}{u:A6}{us:Tf}
def eF.fn {c:Str}{C C':A4}(h:eF K c C)(h':eF K c C'):C=C':=by have:=h.symm.trans h';cases this;rfl
def Aa:∀c C b,AM [] c=some b->eF K c C->kW K C/\PySem.W.kitOne K (.ref C) u=some b:=λ_ _ _ e=>by cases e
def xj (e:ET K mg a q)(k:PySem.W.kitOne K (.ref q) u=some b)(h:∀c C b,AM l c=some b->eF K c C->kW K C/\PySem.W.kitOne K (.ref C) u=some b) :
  ∀c C b',AM ((a,b)::l) c=some b'->eF K c C->kW K C/\PySem.W.kitOne K (.ref C) u=some b':=λc C b' z hc=>by
 unfold AM at z;rw[D8] at z;split at z
 ·rename_i q'
  cases z;have:=beq_iff_eq.mp q';subst this;have:=hc.fn e.at_;subst this;exact{e.cls,k}
 ·exact h c C b' z hc
def JCi:∀c C b,AM [] c=some b->eF K c C->kW K C/\PySem.W.kitAny K (.ref C) us=some b:=λ_ _ _ e=>by cases e
def JBu (e:ET K mg a q)(k:PySem.W.kitAny K (.ref q) us=some b)(h:∀c C b,AM l c=some b->eF K c C->kW K C/\PySem.W.kitAny K (.ref C) us=some b) :
  ∀c C b',AM ((a,b)::l) c=some b'->eF K c C->kW K C/\PySem.W.kitAny K (.ref C) us=some b':=λc C b' z hc=>by
 unfold AM at z;rw[D8] at z;split at z
 ·rename_i q'
  cases z;have:=beq_iff_eq.mp q';subst this;have:=hc.fn e.at_;subst this;exact{e.cls,k}
 ·exact h c C b' z hc
def JEk:∀c C,([]:To).contains c=true->eF K c C->j7 K C/\kK K C CH=true:=λ_ _ e=>by cases e
def JCf (e:ET K mg a q)(k:kK K q CH=true)(h:∀c C,cs.contains c=true->eF K c C->j7 K C/\kK K C CH=true) :
  ∀c C,(a::cs).contains c=true->eF K c C->j7 K C/\kK K C CH=true:=λc C z hc=>by
 rw[zbJ,zcn] at z;rcases z with z|z
 ·have:=beq_iff_eq.mp z
  subst this;have:=hc.fn e.at_;subst this;exact{e.own,k}
 ·exact h c C z hc
theorem um:∀(qs:Tg) (us:Tf),bO (qs.map V.ref) us->us=qs.map Value.ref
 |[],_,h=>by cases h;rfl
 |q::qs,_,h=>by
  cases h with
  |cons r t=>rw[um qs _ t];cases r;rfl
end
end HW
namespace HX
section
variable {prog:A7}{w:AF}{A:AI}{E:Tc}{s:A2}{G:A4->Prop}{e L:A4}{C fl:A6}{Q:Unit->A2->Prop}{env:Env}
def G0 (hf:env.frame=some L)(x:Fl G s.heap e C (rawInt L))(hQ:Q () s):wpAny (model prog w) A (noteFrame (.ref e) env) Q E s:=by let⟨vs,T,ts,c,n1,n2,ne,he,h1,hT,h3⟩:=x.is;unfold noteFrame;rwa[hf];refine AY (Dg he rfl h1 ?_);rw[A8 ∅];refine AY (Dg hT rfl h3 ?_);rw[A8 ∅];exact BG hQ
def Ah {base:AG}{outer:A0 Env}(C5:A.frames=some (env::outer))(hl:s.heap.FunFrames base (env::outer))(hf:env.frame=some L)(gf:∀b∈(env::outer).filterMap (·.frame),G b)
  (x:Fl G s.heap e C fl)
  (hQ:∀h',Fl G h' e C (rawInt L)->Kp G ((env::outer).filterMap (·.frame)) s.heap h'->Q () {s with heap:=h'}):wpAny (model prog w) A (noteFrame (.ref e) env) Q E s:=by
 by_cases hfl:fl=rawInt L
 ·subst hfl
  exact G0 hf x (hQ s.heap x .refl)
 let⟨vs,T,ts,c,n1,n2,ne,he,h1,hT,h3⟩:=x.is;unfold noteFrame;rwa[hf];refine AY (Dg he rfl h1 ?_);rw[A8 ∅];refine AY (Dg hT rfl h3 ?_);rw[AE ‹hfl›];refine AY (zbv hT (Ey.mp h3).1 λh' hT' k=>?_);have kp:Kp G ((env::outer).filterMap (·.frame)) s.heap h':=.but n2 k;refine sP (s:={s with heap:=h'}) C5 (kp.funs gf hl) hf ((k.2 e ne.symm).trans he) (Ey.mp h1).1 n1 (kp.alive x.all) λh2 f2 k2=>hQ h2 f2 (kp.trans k2)
def yO {base:AG}{outer:A0 Env}(C5:A.frames=some (env::outer))(hl:s.heap.FunFrames base (env::outer))(hf:env.frame=some L)(gf:∀b∈(env::outer).filterMap (·.frame),G b)
  (x:Fl G s.heap e C fl) (hQ:∀h',Fl G h' e C .none->Kp G ((env::outer).filterMap (·.frame)) s.heap h'->Q () {s with heap:=h'}):wpAny (model prog w) A (leaving env (.ref e)) Q E s:=by
 unfold leaving;exact AY (Ah C5 hl hf gf x λh1 f1 k1=>pW f1 λh2 f2 k2=>hQ h2 f2 (k1.trans (k2.mono λ_ z=>nomatch z)))
def Mv {fo:UO A4}(x:Fl G s.heap e C fl)(hQ:∀h',Fl G h' e C (fo.elim .none λf=>rawInt f)->Kp G [] s.heap h'->Q () {s with heap:=h'}):wpAny (model prog w) A (setFlight (.ref e) fo) Q E s:=by let⟨vs,T,ts,c,n1,n2,ne,he,h1,hT,h3⟩:=x.is;unfold setFlight;refine AY (Dg he rfl h1 ?_);rw[A8 ∅];refine zbv hT (Ey.mp h3).1 λh' hT' k=>?_;have kp:Kp G [] s.heap h':=.but n2 k;exact hQ h' {{vs,T,_,c,n1,n2,ne,(k.2 e ne.symm).trans he,h1,hT',by simp[(Ey.mp h3).1]},kp.alive x.all} kp
def BC {Z:Type}{R:Z->A2->Prop}{what:String}(x:Fl G s.heap e C fl)(hQ:∀h' fl',Fl G h' e C fl'->Kp G [] s.heap h'->E (.ref e) {s with heap:=h'}):wpAny (model prog w) A (passOn what (.ref e) env:Sem Z) R E s:=by let⟨vs,T,ts,c,n1,n2,ne,he,h1,hT,h3⟩:=id x.is;unfold passOn;refine AY (Dg he rfl h1 ?_);rw[AE ∅];exact AY (Mv x λh' f k=>wpAny_throw (hQ h' _ f k))
end
end HX
namespace HW
variable {K:AJ}
open PyProof.Rows L2
def JP {fs Eb ex:Tg}{H0 H H1:Hp}{h0 h h1:AG}(u:Un fs [] H0 H h0 h)(v:Un Eb ex H H1 h h1)(hs:∀b∈Eb,b∈fs\/h0.get? b=none)(hx:∀b∈ex,h0.get? b=none):Un fs [] H0 H1 h0 h1:=by
 have nx:∀b o,h0.get? b=some o->b∉ex:=λb o q z=>by rw[hx b z] at q;cases q
 exact{
  keep:=λb o q n nb _=>v.keep b o (u.keep b o q n nb ∅) (u.free b o q n ∅) (λz=>(hs b z).elim nb λy=>by rw[q] at y;cases y) (nx b o q)
  slot:=λb o q n nb _=>by let⟨sl,e⟩:=u.slot b o q n nb ∅;let⟨Di,e'⟩:=v.any e (u.free b o q n ∅) (nx b o q);exact{Di,e'}
  free:=λb o q n _=>by let⟨o',e⟩:=u.there b o q ∅;exact v.free b o' e (u.free b o q n ∅) (nx b o q)
  there:=λb o q _=>by let⟨o',e⟩:=u.there b o q ∅;exact v.there b o' e (nx b o q)
  tups:=λb xs q=>v.tups b xs (u.tups b xs q)
  frzs:=λb ob xs q=>v.frzs b ob xs (u.frzs b ob xs q)
  tbls:=λb ps q=>by let⟨m1,e1⟩:=u.tbls b ps q;let⟨m2,e2⟩:=v.tbls b _ e1;exact{m1++m2,by rw[e2,zb4]}}
def JR {fs S ex:Tg}{H0 H:Hp}{h0 h h2:AG}{G:A4->Prop}(u:Un fs [] H0 H h0 h)(k:HX.Kp G S h h2)(hs:∀b∈S,b∈fs)(hg:∀b o,h0.get? b=some o->b∉ex->G b):Un fs ex H0 H h0 h2 where
 keep:=λb o q n nb nx=>(k b o (hg b o q nx) (u.keep b o q n nb ∅)).1 λz=>nb (hs b z)
 slot:=λb o q n nb nx=>by let⟨sl,e⟩:=u.slot b o q n nb ∅;let⟨Di,e'⟩:=(k b _ (hg b o q nx) e).2;exact{Di,e'}
 free:=λb o q n _=>u.free b o q n ∅
 there:=λb o q nx=>by let⟨o',e⟩:=u.there b o q ∅;let⟨Di,e'⟩:=(k b _ (hg b o q nx) e).2;exact{_,e'}
 tups:=u.tups
 frzs:=u.frzs
 tbls:=u.tbls
def HC (X:Cx)(A1:Td)(Y:L2.St)(E:XK)(e:A6)(s':A2):Prop:=∃H s ea C fl G H' ex,aS X A1 Y H s/\(∀b∈ex,X.s₀.heap.get? b=none/\b∉j6 X.stack)/\e=.ref ea/\s'.os=s.os/\AllBare s'.gens /\
 Un (j6 X.stack) ex H H' s.heap s'.heap/\kz X.prog X.w H' s'.heap/\HX.Fl G s'.heap ea (.ref C) fl/\(∀b o,s.heap.get? b=some o->b∉ex->G b)/\(∀b u,H' b=some u->G b)/\s'.heap.FunFrames X.base X.stack/\(∀b∈j6 X.stack,H' b=none)/\E (.ref C) none H'
def B0 (X:Cx)(e:AD)(x:XB):Prop:=∀A1 s Y H E,aS X A1 Y H s->g7 X.K E x Y H->wpAny (model X.prog X.w) X.A (eval e X.env) (λ_ _=>False) (HC X A1 Y E) s
def v9 (X:Cx)(E:XK):Prop:=∀A1 Y e s',HC X A1 Y E e s'->X.xe e s'
section
variable {P:A7}{w:AF}{K:AJ}{mg:Te}{base:AG}{N:To}{qual:Str}{scope:Scope}{f:A4}{cd:A6}{A:AI}{outer:A0 Env}{s0:A2}{H0:Hp}{E:XK}
def DD:v9 (gR (sZ P w base) P w K mg base N qual scope f cd A outer s0 H0 E) E:=by
 intro A1 Y e s' h;let⟨H,s,ea,C,fl,G,H',ex,I,hx,rfl,os,bare,un,hok,fly,g1,g2,ff,fn,hE⟩:=h;have gf:∀b∈j6 (envOfC qual scope s0.heap.objs.size f cd::outer),G b:=λb hb=>let ⟨_,o,q,_⟩:=I.stack.mem hb;g1 b o q λz=>(hx b z).2 hb;refine HX.yO (base:=base) I.ok.frames ff rfl gf fly λh2 f2 k2=>?_;have g0:∀b o,s0.heap.get? b=some o->G b:=λb o q=>by let⟨o',q'⟩:=I.base.there b o q (by simp[gR]);exact g1 b o' q' λz=>by rw[show s0.heap.get? b=none from(hx b z).1] at q;cases q
 have u0:Un (j6 outer) [] H0 H s0.heap s.heap:=I.base;have u1:Un (j6 outer) [] H0 H' s0.heap s'.heap:=JP u0 un (λb hb=>pG hb) λb hb=>(hx b hb).1;exact{ea,C,G,H',rfl,os.trans I.os,bare,zh u1 k2 (λb hb=>pG hb) g0,sL hok k2 (λb u q=>{g2 b u q,λz=>by rw[fn b z] at q;cases q}),f2,g0,g2,(k2.funs gf ff).2.2,λb hb=>fn b (vP hb),hE}
end
theorem vX {prog:A7}{w:AF}{A:AI}{R:Result->A2->Prop}{s:A2}{elt target iter:AD}{ifs:Tl}{scope:Scope}{pos:Pos}{it acc:A6}{env:Env}(I:Nat->A2->Prop)
  (turn:∀n s,I n s->wpAny (model prog w) A (pyNext it) (λr s₁=>∃v,r=some v /\
   wpAny (model prog w) A (letOwnedTupleGo target it v) (λ_ s₁'=>wpAny (model prog w) A (assign target env v) (λ_ s₂=>
     wpAny (model prog w) A (forIn ifs true λc r=>if r=true then do let ok ←isTrue c env (eval c env);pure (ForInStep.yield ok) else pure (ForInStep.yield r)) (λok s₃=>
      if ok=true then wpAny (model prog w) A (eval elt env) (λx s₄=>
       wpAny (model prog w) A (call (.builtin "list.append") [acc,x]) (λ_ s₅=>∃m,m<n/\I m s₅) (λ_ _=>False) s₄) (notedBy (model prog w) A env λx s'=>R (.error x) s') s₃
      else ∃m,m<n/\I m s₃) (λ_ _=>False) s₂) (λ_ _=>False) s₁') (λ_ _=>False) s₁) (λ_ _=>False) s)
  (n:Nat) (h:I n s):codeAny (model prog w) A (.compLoop (.ListComp elt [{target,iter,ifs,0}] scope pos) 0 it acc env) R s:=by
 refine codeAny_loop rfl I (λn s hI=>?_) n h
 show wpAny _ A ((compTurn (.ListComp elt [{target,iter,ifs,0}] scope pos) 0 it acc env).onRaise (λx=>do noteFrame x env;theTreesLotGoes x)) _ _ s
 refine wpAny_noted ?_;rw[compTurn_list];refine AY (zb6 (AY (BK (turn n s hI) (λr s₁ h₁=>?_) λ_ _ h'=>h'.elim)));let⟨v,rfl,h₁⟩:=h₁;refine AY (BK h₁ (λ_ s₁' h₁'=>?_) λ_ _ h'=>h'.elim);refine AY (BK h₁' (λ_ s₂ h₂=>AY (BK h₂ (λok s₃ h₃=>?_) λ_ _ h'=>h'.elim)) λ_ _ h'=>h'.elim)
 cases ok with
 |false=>exact BG {rfl,h₃}
 |true=>
  exact AY (AY (BK h₃ (λx s₄ h₄=>AY (BK h₄ (λ_ s₅ h₅=>BG (BG {rfl,h₅})) λ_ _ h'=>h'.elim)) λ_ _ h'=>h'))
def CC (K:AJ)(E:XK)(ix:A0 Nat)(own:To)(wi:TI)(g:TG)(tc:TT)(te:TE)(xb:XB):L2.St->Hp->Prop:=λY H=>wi Y H λJ H1=>
 ∃W:Nat->Nat->A0 V->L2.St->Hp->Prop,(∃n,W 0 n [] (jf (own.map λ_=>none) ix Y) H1)/\∀i n ys τ H,W i n ys τ H ->
  (J.go i H/\ys.length<sizeLine/\∀x H',J.yld i H x H'->g x τ H' λτ2 H2=>tc τ2 H2 λb H3=>if b=true then g7 K E xb τ2 H3\/te τ2 H3 λy H4=>∃n',n'<n/\W (i+1) n' (ys++[y]) τ2 H4 else ∃n',n'<n/\W (i+1) n' ys τ2 H3)
def y3 {X:Cx}{A1:Td}{Y:L2.St}{s₂:A2}{H₂:Hp}{E:XK}{elt tg iter:AD}{ifs:Tl}{scope:Scope}{pos:Pos}{own caps:To}{ix:A0 Nat}{g:TG}{tc:TT}{te:TE}{xb:XB}{cl:A0 (Str×A4)}
  {it:A4} {fp:Tg} {tn:Nat->AG->Prop} {J:It} {Q:Tc} {L:A4} {outer:A0 Env} (CW:X.stack=X.env::outer) (hL:X.env.frame=some L)
  (hc:X.calm=true) (I:aS X A1 Y H₂ s₂) (T:v7 X.prog X.w X.K tg J fp it tn) (st:tn 0 s₂.heap) (hf:∀b∈fp,ot X A1 H₂ b) (n:aV X.env.scope scope own caps)
  (D7:∀x c,cl.lookup x=some c->X.env.cells.lookup x=some c) (Bm:∀y∈scope.names,y.2=.free->∃c,cl.lookup y.1=some c)
  (BQ:ix.length=caps.length) (Bs:∀(j i:Nat) y,ix[j]?=some i->caps[j]?=some y->X.N[i]?=some y)
  (hg:∀cl C,PG (aQ X scope cl C s₂ H₂ fp (own++caps)) tg g) (ht:∀cl C,pv (aQ X scope cl C s₂ H₂ fp (own++caps)) ifs tc) (he:∀cl C,PE (aQ X scope cl C s₂ H₂ fp (own++caps)) elt te) (hx:∀cl C,rE (aQ X scope cl C s₂ H₂ fp (own++caps)) elt xb)
  (W:Nat->Nat->A0 V->L2.St->Hp->Prop) (Fj:∃n,W 0 n [] (jf (own.map λ_=>none) ix Y) H₂)
  (hW:∀i n ys τ H,W i n ys τ H ->
   (J.go i H/\ys.length<sizeLine/\∀x H',J.yld i H x H'->g x τ H' λτ2 H2=>tc τ2 H2 λb H3=>if b=true then g7 X.K E xb τ2 H3\/te τ2 H3 λy H4=>∃n',n'<n/\W (i+1) n' (ys++[y]) τ2 H4 else ∃n',n'<n/\W (i+1) n' ys τ2 H3)) :
  wpAny (model X.prog X.w) X.A (newList []) (λacc s₃=>wpAny (model X.prog X.w) X.A (newFunctionEnv scope X.env.globals cl [] X.env.qual none .none (some X.env)) (λcenv s₄=>
   codeAny (model X.prog X.w) X.A (.compStart (.ListComp elt [{tg,iter,ifs,0}] scope pos) 0 (.ref it) acc {cenv with scope:=relabel scope X.env}) (compPost (model X.prog X.w) X.A (HC X A1 Y E) none Q acc cenv.locals) s₄) (HC X A1 Y E) s₃) (HC X A1 Y E) s₂:=by
 refine zbe (uT (s₂:=s₂) I n (by show s₂.heap.objs.size<(s₂.heap.push _).objs.size;rw[zbn];exact F7 _) D7 Bm λh₁ cl m₁ E0 C4 B E5=>?_);dsimp only at C4 E0 ⊢;generalize Fm:s₂.heap.push {cls:=.type "list",dict:=none,data:=.seq ([]:Tf).toArray}=H2 at C4 E0 ⊢
 have hC:H2.objs.size=s₂.heap.objs.size+1:=by rw[←Fm,zbn]
 have below:∀b,b<s₂.heap.objs.size->b≠H2.objs.size/\b≠s₂.heap.objs.size:=λb hb=>{by rw[hC];exact Ba (Nat.lt_succ_of_lt hb),Ba hb}
 have hDC:s₂.heap.objs.size≠H2.objs.size:=by rw[hC];exact Ba (F7 _)
 have old:∀b o,s₂.heap.get? b=some o->h₁.get? b=some o:=λb o e=>E0 b o (Fm ▸ Bl _ e);have Fi:h₁.get? s₂.heap.objs.size=some {cls:=.type "list",data:=.seq ([]:Tf).toArray}:=E0 _ _ (Fm ▸ Cw _ rfl)
 have C8:∀b∈fp,b<s₂.heap.objs.size:=λb hb=>by let⟨o,e,_⟩:=T.obj _ _ st b hb;exact BO e
 have Cc:s₂.heap.objs.size<=H2.objs.size:=by rw[hC];exact zcq _
 have hfC:∀b∈fp,b<H2.objs.size:=λb hb=>Be (C8 b hb) Cc;have st1:tn 0 h₁:=T.keep 0 _ _ st λb _ o e=>old b o e;have I₀:=qU (tk:=s₂.toks) I n B Cc C8 hf E5 BQ Bs old C4;clear C4 E0
 have cellD:∀x c,cl.lookup x=some c->c≠s₂.heap.objs.size:=λx c e=>by
  rcases B.src x c e with⟨z,_⟩|z
  ·let⟨v,o,q,_⟩:=I.cell x c z;exact Ba (BO q)
  ·exact Ne.symm (Ba z)
 have stkD:∀b∈j6 X.stack,b<s₂.heap.objs.size:=λb hb=>by
  rcases BJ.mp (I.stkSub b hb) with e|e
  ·rw[e];exact I.lt
  ·let⟨_,o,q,_⟩:=I.funs.mem e;exact BO q
 have fpok:∀{ps:Td} {H:Hp},(∀b∈fp,H b=none)->(∀p∈ps,p.1∉fp)->∀b∈fp,ot (aQ X scope cl H2.objs.size s₂ H₂ fp (own++caps)) ps H b:=λ{ps H} hn hp b hb=>
  {hn b hb,Ba (hfC b hb),λz=>by
   rcases BJ.mp (I.stkSub b z) with e|e
   ·exact(hf b hb).2.1 e
   ·exact(hf b hb).2.2.1 e,.inl hb,λx c e=>B.ne (hf b hb) (C8 b hb) e,λp hp' z=>hp p (by simpa[aQ] using hp') (z ▸ hb)}
 have Dfp:s₂.heap.objs.size∉fp:=λz=>Cg _ (C8 _ z)
 have pinD:∀{H:Hp} {h:AG} {its:Tf} {k:Nat},H s₂.heap.objs.size=none->h.get? s₂.heap.objs.size=some {cls:=.type "list",data:=.seq its.toArray k} ->
   ∀p∈[((s₂.heap.objs.size,{cls:=.type "list",data:=.seq its.toArray k}):A4×Obj)],h.get? p.1=some p.2/\H p.1=none/\p.1≠H2.objs.size/\p.1∉j6 X.stack/\∀v,p.2.data≠.cell v:=λ{H h its k} hn e p hp=>by
  rw[Bi.mp hp];exact{e,hn,hDC,λz=>Cg _ (stkD _ z),λv z=>by cases z}
 have ig:∀s₃:A2,s₃={s₂ with heap:=h₁} ->
   codeAny (model X.prog X.w) X.A (.compLoop (.ListComp elt [{tg,iter,ifs,0}] scope pos) 0 (.ref it) (.ref s₂.heap.objs.size) (compEnvC scope cl H2.objs.size X.env)) (compPost (model X.prog X.w) X.A (HC X A1 Y E) none Q (.ref s₂.heap.objs.size) H2.objs.size) s₃:=by
  rintro s₃ rfl;let⟨n0,Fj⟩:=Fj
  refine vX (λn s'=>∃i ys its k τ H,aS (aQ X scope cl H2.objs.size s₂ H₂ fp (own++caps)) [(s₂.heap.objs.size,{cls:=.type "list",data:=.seq its.toArray k})] τ H s'/\tn i s'.heap/\(∀b∈fp,H b=none)/\bO ys its/\ys.length<=sizeLine/\W i n ys τ H) ?_ n0
   {0,[],[],0,_,H₂,I₀.pins_of (pinD (I.hok.fresh (BH _)) Fi),st1,λb hb=>(hf b hb).1,.nil,E8 _,Fj}
  rintro n s3 ⟨i,ys,its,k,τ,H,I3,FN,Fp,rv,hz,w3⟩;have hD3:=I3.pin _ (Bb _ Bw)
  have pfp:∀p∈[((s₂.heap.objs.size,{cls:=.type "list",data:=.seq its.toArray k}):A4×Obj)],p.1∉fp:=λp hp=>by rw[Bi.mp hp];exact Dfp
  let⟨go,BS,step⟩:=hW i n ys τ H w3;refine dk (T.item (aQ X scope cl H2.objs.size s₂ H₂ fp (own++caps)) rfl rfl rfl hc i _ s3 τ H (λ_ _=>False) I3 (fpok Fp pfp) FN go) λr s4 hh=>?_;let⟨u,hr,h4⟩:=hh;refine{u,hr,?_};refine dk h4 λ_ s5 hh=>?_;let⟨x,H5,I5,r5,y5,DB,fr5⟩:=hh;have I5':=I5.pinned (fpok fr5 pfp) (T.obj _ _ DB);refine dk (hg _ _ _ s5 τ H5 x u _ I5' r5 (step x H5 y5)) λ_ s6 hh=>?_;let⟨Y6,H6,I6,q6⟩:=hh;refine dk (ht _ _ _ s6 Y6 H6 _ I6 q6) λok s7 hh=>?_;let⟨H7,I7,q7⟩:=hh;have memD:∀p∈kI fp s5.heap,p.1≠s₂.heap.objs.size:=λp hp z=>Dfp (z ▸ (qj hp).1)
  cases ok with
  |true=>
   rcases q7 with q7|q7
   ·
    refine BK (hx _ _ _ s7 Y6 H7 E I7 q7) (λ_ _ z=>z.elim) λe s8 hh=>?_;let⟨H9,s9,I9,ea,C,G,H',ee,os,bare,un,hok,fl,g1,g2,ff,fn,hE⟩:=hh;subst ee;have IX:aS X A1 Y H9 s9:=I.call' (ch:=fp) I9.os I9.base I9.hok I9.bare λb hb=>{(hf b hb).2.2.2.1,(hf b hb).2.1,(hf b hb).2.2.2.2};let⟨m,hm,_⟩:=id I9.loc;have freeC:H9 H2.objs.size=none:=I9.free;have nC:H2.objs.size∉j6 X.stack:=λz=>Cg _ (Be (stkD _ z) Cc);have un:Un (j6 X.stack) [] H9 H' s9.heap s8.heap:=un;have ff:s8.heap.FunFrames X.base X.stack:=ff;have gf:∀b∈j6 X.stack,G b:=λb hb=>let ⟨_,o,q,_⟩:=IX.stack.mem hb;g1 b o q;let⟨oC,es,ep,hoC,d1,d2,d3⟩:=id hm;have hm8:s8.heap.get? H2.objs.size=some oC:=un.keep _ oC hoC freeC nC ∅;have frC:H' H2.objs.size=none:=un.free _ oC hoC freeC ∅
    have C5:X.A.frames=some (X.env::outer):=by rw[←CW];exact IX.ok.frames
    show wpAny (model X.prog X.w) X.A (noteFrame (.ref ea) X.env) _ _ s8
    have ff':=ff;rw[CW] at ff';refine HX.Ah (base:=X.base) C5 ff' hL (by rw[CW] at gf;exact gf) fl λh2 f2 k2=>?_
    have k2:HX.Kp G (j6 X.stack) s8.heap h2:=by rw[CW];exact k2
    have nf:∀b u,H' b=some u->G b/\b∉j6 X.stack:=λb u q=>{g2 b u q,λz=>by rw[fn b z] at q;cases q};refine{m,{oC,es,ep,(k2 _ oC (g1 _ oC hoC) hm8).1 nC,d1,d2,d3},λh3 sb cenv hcenv=>?_}
    have k3:HX.Kp (λb=>G b/\b≠H2.objs.size) (j6 X.stack) s8.heap h3:=λb o g q=>by
     let⟨a1,sl,a2⟩:=k2 b o g.1 q;exact{λz=>(sb.2 b g.2).trans (a1 z),sl,(sb.2 b g.2).trans a2}
    have f3:HX.Fl (λb=>G b/\b≠H2.objs.size) h3 ea (.ref C) (rawInt L):=by
     let⟨vs,Tb,ts,c,n1,n2,ne,he,e1,hT,e3⟩:=f2.is;have ne1:ea≠H2.objs.size:=λz=>n1 (z ▸ g1 _ oC hoC);have ne2:Tb≠H2.objs.size:=λz=>n2 (z ▸ g1 _ oC hoC)
     exact{{vs,Tb,ts,c,λz=>n1 z.1,λz=>n2 z.1,ne,(sb.2 _ ne1).trans he,e1,(sb.2 _ ne2).trans hT,e3},λb g=>by
      let⟨o,q⟩:=f2.all b g.1
      exact{o,(sb.2 b g.2).trans q}}
    refine HX.BC f3 λh4 fl4 f4 k4=>?_;have k5:HX.Kp (λb=>G b/\b≠H2.objs.size) (j6 X.stack) s8.heap h4:=k3.trans (k4.mono λ_ z=>nomatch z);have s0C:X.s₀.heap.get? H2.objs.size=none:=zbV (Br I.sz Cc);refine{H9,s9,ea,C,fl4,_,H',[H2.objs.size],IX,λb hb=>?_,rfl,os,bare,JR un k5 (λb z=>z) (λb o q nx=>{g1 b o q,λz=>nx (by simp[z])}),sL hok k5 (λb u q=>{{(nf b u q).1,λz=>by rw[z,frC] at q;cases q},(nf b u q).2}),f4,λb o q nx=>{g1 b o q,λz=>nx (by simp[z])},λb u q=>{(nf b u q).1,λz=>by rw[z,frC] at q;cases q},?_,fn,hE}
    ·rw[Bi.mp hb];exact{s0C,nC}
    ·exact k5.funs (λb hb=>{gf b hb,λz=>nC (z ▸ hb)}) ff
   ·refine BK (he _ _ _ s7 Y6 H7 _ I7 q7) (λu8 s8 hh=>?_) λ_ _ z=>z.elim
    let⟨y,H8,I8,r8,n',Cb,w8⟩:=hh;have Fo:=I8.pin (s₂.heap.objs.size,_) (Bb _ (zbb _ Bw));refine append_at (hsz:=by rw[BR,←rv.length];exact hz) Fo.1 λh9 sb hD9=>?_;have I8':aS (aQ X scope cl H2.objs.size s₂ H₂ fp (own++caps)) (kI fp s5.heap) Y6 H8 s8:=I8.pins_of λp hp=>I8.pin p (Bb _ (Bb _ hp))
    have I9:aS (aQ X scope cl H2.objs.size s₂ H₂ fp (own++caps)) (kI fp s5.heap) Y6 H8 {s8 with heap:=h9}:=I8'.turned (t':=s8.toks) (it:=s₂.heap.objs.size) (λb o hb e=>sb.extBut b o hb e) Fo.2.1 hDC (.inr (BH _))
     cellD λp hp=>memD p (by simpa[aQ] using hp)
    have e9:(its.toArray.push u8)=(its++[u8]).toArray:=by simp
    rw[e9] at hD9;refine{n',Cb,i+1,ys++[y],its++[u8],k+1,Y6,H8,I9.pins_of (pinD Fo.2.1 hD9),T.keep _ _ _ DB λb hb o e=>(I9.pin (b,o) (Bb _ (eu hb e))).1,λb hb=>?_,rv.append (.cons r8 .nil),by rw[Bx];exact BS,w8};let⟨o,e,d⟩:=T.obj _ _ DB b hb;exact(I9.pin (b,o) (Bb _ (eu hb e))).2.1
  |false=>
   let⟨n',Cb,w8⟩:=q7;have hD7:=I7.pin (s₂.heap.objs.size,_) (Bb _ (zbb _ Bw));refine{n',Cb,i+1,ys,its,k,Y6,H7,I7.pins_of (pinD hD7.2.1 hD7.1),T.keep _ _ _ DB λb hb o e=>(I7.pin (b,o) (Bb _ (Bb _ (eu hb e)))).1,λb hb=>?_,rv,hz,w8};let⟨o,e,d⟩:=T.obj _ _ DB b hb;exact(I7.pin (b,o) (Bb _ (Bb _ (eu hb e)))).2.1
 exact codeAny_compStart_list (ig _ rfl) (T.self _ 0 _ _ _ st1 (ig _ rfl))
def JAw {X:Cx}{elt tg iter:AD}{ifs:Tl}{scope:Scope}{pos:Pos}{own caps:To}{ix:A0 Nat}{wi:TI}{g:TG}{tc:TT}{te:TE}{xb x:XB}{L:A4}{outer:A0 Env}(CW:X.stack=X.env::outer)(hL:X.env.frame=some L)(hc:X.calm=true)(n:aV X.env.scope scope own caps)
  (BQ:ix.length=caps.length) (Bs:∀(j i:Nat) y,ix[j]?=some i->caps[j]?=some y->X.N[i]?=some y) (hi:∀xe,PI (X.wish xe) tg iter wi)
  (hb:∀cl C s₂ H₂ fp,PG (aQ X scope cl C s₂ H₂ fp (own++caps)) tg g/\pv (aQ X scope cl C s₂ H₂ fp (own++caps)) ifs tc/\PE (aQ X scope cl C s₂ H₂ fp (own++caps)) elt te/\rE (aQ X scope cl C s₂ H₂ fp (own++caps)) elt xb)
  (hr:∀{E Y H},g7 X.K E x Y H->CC X.K E ix own wi g tc te xb Y H)
  (hs:∀x,foldedSetIterable iter X.env x=pure x:=by intro _;rfl):B0 X (.ListComp elt [{tg,iter,ifs,0}] scope pos) x:=by
 intro A1 s Y H E I d;have h:=hr d;let⟨cl,Bt,D7,Bm⟩:=lV (env:=X.env) (scope:=scope) λy hy hf=>I.ok.has y.1 (n.free y hy hf);rw[eval_ListComp];refine zbp (use:=none) rfl hs Bt n.kind n.loc (dk (hi (HC X A1 Y E) A1 s Y H _ (I.wish _) h) λv s1 h1=>dk h1 λitv s2 h2=>?_);let⟨it,fp,tn,J,H2,e,I2,T,FP,f2,W,w0,turn⟩:=h2;subst e;exact y3 (Q:=λ_ _=>False) CW hL hc I2.unwish T FP f2 n D7 Bm BQ Bs (λcl C=>(hb cl C s2 H2 fp).1) (λcl C=>(hb cl C s2 H2 fp).2.1) (λcl C=>(hb cl C s2 H2 fp).2.2.1) (λcl C=>(hb cl C s2 H2 fp).2.2.2) W w0 turn
noncomputable def j3 (g:FG)(c:FT)(f:FE)(xb:XB):A0 D->Lo->ah->UO (Str×ah)
 |[],_,_=>none
 |x::xs,O,U=>(g (.v x) O U).bind λa=>(c a.1 a.2).bind λb=>if b.1=true then (match xb a.1 b.2 with
   |some r=>some r
   |none=>(f a.1 b.2).bind λy=>match y.1 with
    |.v _=>j3 g c f xb xs a.1 y.2
    |_=>none)
  else j3 g c f xb xs a.1 b.2
def yi {X:Cx}{x:Str}{T:String}{e:AD}{p pos:Pos}{xb:XB}(h:B0 X e xb)(hg:Gl X x)(hm:X.mg x=none)(hv:bootBuiltins x=some (.type T))(hn:x≠"__name__")(BB:(x == ("__debug__" : Str))=false)
  (he:starEach [e] X.env=(false,eval e X.env)::starEach [] X.env) (hpl:(backTo pos (starEach [] X.env)).any (·.1)=false):B0 X (.Call (.Name x p) [e] [] pos) xb:=by
 intro A1 s Y H E I d;refine EE (o8 I hg hm hv ?_ hn BB);refine PyProof.Rows.callWith_type1 ?_ he hpl;rw[he]
 show wpAny _ _ (spliced ((false,eval e X.env)::backTo pos (starEach [] X.env))) _ _ s
 exact Calls.spliced_cons (BK (h A1 s Y H E I d) (λ_ _ z=>z.elim) λ_ _ z=>z)
def JDw {E:XK}{x:XB}(he:B0 X e x)(p:v9 X E):M9 X E (.Return (some e) pos) x:=λA1 s Y H I d=>
 zb9 (BK (he A1 s Y H E I d) (λ_ _ z=>z.elim) λe s' z=>p A1 Y e s' z)
def PJ (X:Cx)(e:AD)(ok:Lo->A9):Prop:=∀(O:Lo) (m:Tg) (A1:Td) (s:A2) (Y:L2.St) (H:Hp),aS X A1 Y H s->eI X.K m H O Y->ok O=true ->
 wpAny (model X.prog X.w) X.A (eval e X.env) (λv s1=>∃y t,v=.str y t/\y.length<=1048576/\aS X A1 Y H s1) X.xe s
inductive Na (X:Cx):List Expr->(Lo->Bool)->Prop
 |nil:Na X [] (λ_=>true)
 |cons {e es p q}:PJ X e p->Na X es q->Na X (e::es) (λO=>p O&&q O)
section
variable {X:Cx}{a x:Str}{i j:Nat}{p1 p2 p3 pos:Pos}
def Lg (h:a.length<=1048576):PJ X (.Constant (.str a) j p1) (λ_=>true):=λO m A1 s Y H I hl ho=>
 dk (vh (X:=X) A1 s Y H (λv H'=>v=.str a/\H'=H) I {rfl,rfl}) λv s1 ⟨v',H1,I1,r1,e1,e2⟩=>by subst e1 e2;let⟨t1,rfl⟩:=r1;exact{a,t1,rfl,h,I1}
noncomputable def su (i:Nat):Lo->A9:=λO=>match O[i]? with|some (some (.v (.int k)))=>decide (k.natAbs.log2<1920)|_=>false
def Lh (hx:PE X (.Name x p2) (xU i)):PJ X (.FormattedValue (.Name x p2) (-1) none p3) (su i):=λO m A1 s Y H I hl ho=>by
 unfold su at ho;split at ho
 ·rename_i k q;let⟨v,q1,q2⟩:=hl.2 i _ q;rwa[ay,au] at q2;subst q2;have z:=of_decide_eq_true ho;refine wpAny_FormattedValue_plain ?_;refine dk (hx A1 s Y H (λv H'=>v=.int k/\H'=H) I {_,q1,rfl,rfl}) λv s2 hh=>?_;let⟨v',H2,I2,r2,e1,e2⟩:=hh;subst e1 e2;let⟨t2,rfl⟩:=r2;refine formatField_int_small z {_,_,rfl,?_,I2.tok _};have e:=int_text_length_le (k:=1920) ∅ z;rw[PySem.ofString_length];omega
 ·cases ho
theorem JCy {ok:Lo->A9}{es:Tl}(h:Na X es ok):∀(O:Lo) (m:Tg) (A1:Td) (s:A2) (Y:L2.St) (H:Hp) (out:Str),aS X A1 Y H s->eI X.K m H O Y->ok O=true->out.length+es.length*1048576<=sizeLine ->
  wpAny (model X.prog X.w) X.A (joinParts out (evalEach es X.env)) (λv s1=>∃y t,v=.str y t/\aS X A1 Y H s1) X.xe s:=by
 induction h with
 |nil=>
  intro O m A1 s Y H out I hl ho hz;exact joinParts_nilE (joinParts_nil {_,_,rfl,I.tok _} ‹hz›)
 | @cons e0 es0 p0 q0 h1 h2 ih=>
  intro O m A1 s Y H out I hl ho hz;rwa[DX] at ho;rw[Bg,Nat.succ_mul] at hz;refine joinParts_consE (joinParts_cons (dk (h1 O m A1 s Y H I hl ho.1) λv s1 hh=>?_));let⟨y,t,e,hy,I1⟩:=hh;subst e
  have hz1:(out++y).length+es0.length*1048576<=sizeLine:=by rw[strLen_append];omega
  exact{Br (Nat.le_add_right _ _) hz1,ih O m A1 s1 Y H _ I1 hl ho.2 hz1}
def tJ (K:AJ)(ok:Lo->A9):TE:=λY H Q=>(∃O m,eI K m H O Y/\ok O=true)/\∀z,Q (.str z) H
def JAh {ok:Lo->A9}{v₁ v₂:AD}{rest:Tl}(h:Na X (v₁::v₂::rest) ok)(hn:(v₁::v₂::rest).length<=14):PE X (.JoinedStr (v₁::v₂::rest) pos) (tJ X.K ok):=by
 intro A1 s Y H Q I ⟨⟨O,m,hl,ho⟩,q⟩;refine JoinedStr_many ?_;have hz:Str.empty.length+(v₁::v₂::rest).length*1048576<=sizeLine:=by
  have e:Str.empty.length=0:=rfl;have e2:sizeLine=16777216:=by decide
  omega
 have:=JCy h O m A1 s Y H Str.empty I hl ho hz;exact dk this λv s1 ⟨y,t,e,I1⟩=>{.str y,H,I1,by subst e;exact{_,rfl},q y}
def NS {ok:Lo->A9}{O:Lo}{U:ah}{m:Tg}{H:Hp}(hl:eI K m H O Y)(hs:bz K m H U)(h:ok O=true):tJ K ok Y H λx H'=>[x].length=1/\H'=H:={{O,m,hl,h},λ_=>{rfl,rfl}}
end
def Oi:V->UO Int->UO Int->Hp->VK->Prop:=λx lo hi H Q=>∃z,x=.str z/\z.length<=sizeLine/\Q (.str (Txt.slice z lo hi)) H
theorem Kg:BZ X Oi:=by
 intro A1 s Y H x v vl vu lo hi sl Q I rx hs pl pu h;obtain⟨z,rfl,hz,q⟩:=h;obtain⟨t,rfl⟩:=rx;refine{"str",_,PySem.F.slot_str_getitem.lookup,typeIs_str _ _ _,?_};have fin:∀(l u:UO (Int×Tok)),lo=l.map (·.1)->hi=u.map (·.1)->s.heap.IsSlice sl l u none->wpAny (model X.prog X.w) X.A (getItem (.str z t) (.ref sl)) (EP X A1 Y Q) X.xe s:=λl u e1 e2 hS=>by subst e1 e2;refine wpAny_getItem_str_slice (l:=l) (u:=u) (st:=none) hS rfl ?_;exact post_val_or_str {Br (Txt.slice_le z _ _) hz,λt' k=>{.str _,H,I.tok k,{_,rfl},q}}
 cases pl with
 |none=>
  cases pu with
  |none=>exact fin none none rfl rfl hs
  |int j tj=>exact fin none (some (j,tj)) rfl rfl hs
 |int i ti=>
  cases pu with
  |none=>exact fin (some (i,ti)) none rfl rfl hs
  |int j tj=>exact fin (some (i,ti)) (some (j,tj)) rfl rfl hs
def TC (x:Str):It:={λi _=>i<x.cps.size,λi H v H'=>H'=H/\∃c,x.cps[i]?=some c/\v=.str ⟨#[c]⟩,λi _=>x.cps.size<=i}
def JCe {tg:AD}{T:String}(hT:T = "str_ascii_iterator"\/T = "str_iterator")(x:Str)(t:Tok)(it:A4):v7 P w K tg (TC x) [it] it (λi h=>h.IsStrIter it T x t i) where
 mem:=by simp
 obj:=λi h st b hb=>by
  have e:b=it:=by simpa using hb
  subst e;let⟨o,e,c,d⟩:=st;exact{o,e,λv z=>by rw[d] at z;cases z}
 keep:=λi h h' st k=>let ⟨o,e,r⟩:=st;{o,k it ∅ o e,r}
 item:=by
  intro X hP hw hK hc i A1 s Y H E I hf st hg;subst hP hw hK;let⟨f0,f1,f2,f3,f4,f5⟩:=hf it ∅;have W:Walks X.prog X.w X.A it [it] [it] x.cps.size (SignAt x) (λi h=>h.IsStrIter it T x t i):=by
   rcases hT with rfl|rfl
   ·exact Walks.strAscii (I.ok.hd hc) it x t
   ·exact Walks.strWide (I.ok.hd hc) it x t
  refine W.item i s _ _ hg st λv h' tk hv Bo kk=>?_;let⟨c,u,hx,rfl⟩:=hv;have I1:aS X A1 Y H {s with heap:=h',toks:=tk}:=I.turned (λb o hb e=>kk b o ‹hb› e) f0 f1 f3 f4 f5;let⟨o,e,c1,d⟩:=id Bo;exact{_,rfl,uI (s:={s with heap:=h',toks:=tk}) e c1 d (by rcases hT with rfl|rfl <;> decide) {.str ⟨#[c]⟩,H,I1,{u,rfl},{rfl,c,hx,rfl},Bo,λb hb=>(hf b hb).1}}
 done:=by
  intro X hP hw hK hc i A1 s Y H E I hf st hg;subst hP hw hK;let⟨f0,f1,f2,f3,f4,f5⟩:=hf it ∅;have hx:x.cps[i]?=none:=Array.getElem?_eq_none hg;rcases hT with rfl|rfl
  ·exact wpAny_pyNext_ascii_end (I.ok.hd hc) st hx λh' eb=>{rfl,I.turned (t':=s.toks) (λb o hb e=>eb b o hb e) f0 f1 f3 f4 f5}
  ·exact wpAny_pyNext_wide_end (I.ok.hd hc) st hx λh' eb=>{rfl,I.turned (t':=s.toks) (λb o hb e=>eb b o hb e) f0 f1 f3 f4 f5}
 self:=λ_ _ _ _ _ st h=>by
  rcases hT with rfl|rfl
  ·exact wpAny_pyIter_striter_ascii st h
  ·exact wpAny_pyIter_striter_wide st h
def Pe (tl:TE):TI:=λY H R=>tl Y H λx H1=>∃z,x=.str z/\R (TC z) H1
def Li {tg l:AD}{tl:TE}(hl:PE X l tl):PI X tg l (Pe tl):=by
 intro A1 s Y H R I h;refine dk (hl A1 s Y H _ I h) λv s1 hh=>?_;obtain⟨x,H1,I1,r1,q1⟩:=hh;obtain⟨z,rfl,q⟩:=q1;obtain⟨t,rfl⟩:=r1;have fin:∀T,(T = "str_ascii_iterator"\/T = "str_iterator")->Ro X A1 Y tg R (.ref s1.heap.objs.size) {s1 with heap:=s1.heap.push {cls:=.type T,data:=.fields #[.str z t,.int 0 0]}}:=λT hT=>by
  refine{s1.heap.objs.size,[s1.heap.objs.size],_,_,H1,rfl,I1.kept (t':=s1.toks) λb o e=>Bl _ e,JCe hT z t _,{_,Cw _ rfl,rfl,rfl},λb hb=>?_,q};have e:b=s1.heap.objs.size:=by simpa using hb
  subst e;exact I1.fpOk (BH _) (I1.hok.fresh (BH _))
 cases ha:z.cps.all (·<128)
 ·exact wpAny_pyIter_wide ha (fin _ (.inr rfl))
 ·exact wpAny_pyIter_ascii ha (fin _ (.inl rfl))
noncomputable def uq (x:Str):A0 D:=x.cps.toList.map λc=>D.str ⟨#[c]⟩
noncomputable def sQ (f:FE):FI:=λO U=>(f O U).bind λa=>match a.1 with|.v (.str x)=>some (uq x,a.2)|_=>none
def L8 (x:Str):BW K (TC x) (uq x) (λ_=>True) where
 st:=λ_ _ _ _=>trivial
 stop:=λi H _ hi=>by show x.cps.size<=i;simpa[uq] using hi
 go:=λi d H e _=>by
  have:=(Bn.mp e).1
  show i<x.cps.size;simpa[uq] using this
 yld:=λi d H v H' e _ ⟨e1,c,hc,e2⟩=>by
  refine{e1,?_};unfold uq at e;rw[DA] at e;have EJ:x.cps.toList[i]?=some c:=by simpa using hc
  rw[EJ] at e;cases e;rw[e2];rwa[au]
section
variable {K:AJ}{Y:L2.St}{H:Hp}{Q:VK}{RR:It->Hp->Prop}
def Fz {f}(h:wa K (sQ f) Y H RR):Pe (aN K f) Y H RR:=by
 let⟨O,U,m,xs,U',hl,hs,e,k⟩:=h;let⟨⟨x,U1⟩,e1,e⟩:=AO.mp e;split at e
 ·rename_i z q
  cases e;simp only at q;subst q;refine{O,U,m,_,_,hl,hs,e1,λv H1 m1 x1 s1 r1=>?_};rwa[ay,au] at r1;exact{z,r1,k _ _ H1 m1 x1 s1 (L8 z) trivial}
 ·cases e
noncomputable def yb (x:R)(lo hi:UO Int)(U:ah):UO (R×ah):=match x with
 |.v (.str z)=>if z.length<=sizeLine then some (.v (.str (Txt.slice z lo hi)),U) else none
 |_=>none
noncomputable def D5:R->R->ah->UO (R×ah)
 |.v (.str z),.v (.int i),U=>if 0<=i/\i<2 ^ 63/\i<z.length then (z.cps[i.toNat]?).bind λc=>some (.v (.str ⟨#[c]⟩),U) else none
 |_,_,_=>none
def Pu:px K D5 (λx y H Q=>∃z i c,x=.str z/\y=.int i/\0<=i/\i<2 ^ 63/\i<z.length/\z.cps[i.toNat]?=some c/\Q (.str ⟨#[c]⟩) H):=by
 intro m H U x y d U' v u Q s rx ry e k;unfold D5 at e;split at e
 ·rename_i z i;split at e
  ·rename_i c;let⟨c',e1,e⟩:=AO.mp e;cases e;rwa[ay,au] at rx ry;subst rx ry;exact{z,i,c',rfl,rfl,c.1,c.2.1,c.2.2,e1,k _ H m .refl s (by rwa[ay,au])}
  ·cases e
 ·cases e
noncomputable def qo:A0 R->ah->UO (R×ah)
 |[.v (.str z)],U=>if z.length<=sizeLine then some (.v (.int z.length),U) else none
 |_,_=>none
def Ml:EZ K qo (λxs H Q=>∃z,xs=[.str z]/\z.length<=sizeLine/\Q (.int z.length) H):=by
 intro m H U xs d U' vs Q s r e k;unfold qo at e;split at e
 ·rename_i z;split at e
  ·rename_i hz
   cases e;let⟨v,rfl,r1⟩:=vc r;rwa[ay,au] at r1;subst r1;exact{z,rfl,hz,k _ H m .refl s (by rwa[ay,au])}
  ·cases e
 ·cases e
noncomputable def vL:A0 R->ah->UO (R×ah)
 |[.v (.str z)],U=>if z.length<=640 then (PySem.intText? z).bind λn=>some (.v (.int n),U) else none
 |_,_=>none
def IV:A0 V->Hp->VK->Prop:=λxs H Q=>∃z n,xs=[.str z]/\z.length<=640/\PySem.intText? z=some n/\Q (.int n) H
def JA9:kA X (.type "int") IV:=by intro A1 s Y H vs us Q I r h;obtain⟨z,n,rfl,hz,hn,q⟩:=h;obtain⟨u,rfl,rx⟩:=oy r;obtain⟨t,rfl⟩:=rx;exact PySem.W.KIN.call_text hn hz {.int n,H,I.tok _,{_,rfl},q}
def Mn:EZ K vL IV:=by
 intro m H U xs d U' vs Q s r e k;unfold vL at e;split at e
 ·rename_i z;split at e
  ·rename_i hz;let⟨n,e1,e⟩:=AO.mp e;cases e;let⟨v,rfl,r1⟩:=vc r;rwa[ay,au] at r1;subst r1;exact{z,n,rfl,hz,e1,k _ H m .refl s (by rwa[ay,au])}
  ·cases e
 ·cases e
noncomputable def uH (neg:A9):R->R->ah->UO (R×ah)
 |.v (.str i),.v (.str j),U=>some (.v (.bl (if neg then !(!(Builtin.Str.occurrences j i 0 j.length 1).isEmpty) else !(Builtin.Str.occurrences j i 0 j.length 1).isEmpty)),U)
 |_,_,_=>none
def Px:px K (uH false) (λx y H Q=>∃i j,x=.str i/\y=.str j/\Q (.bl (!(Builtin.Str.occurrences j i 0 j.length 1).isEmpty)) H):=by
 intro m H U x y d U' v u Q s rx ry e k;unfold uH at e;split at e
 ·rename_i i j
  cases e;rwa[ay,au] at rx ry;subst rx ry;exact{i,j,rfl,rfl,k _ H m .refl s (by rwa[ay,au,DY,if_false])}
 ·cases e
def Mi:px K (uH true) (λx y H Q=>∃i j,x=.str i/\y=.str j/\Q (.bl (!(!(Builtin.Str.occurrences j i 0 j.length 1).isEmpty))) H):=by
 intro m H U x y d U' v u Q s rx ry e k;unfold uH at e;split at e
 ·rename_i i j
  cases e;rwa[ay,au] at rx ry;subst rx ry;exact{i,j,rfl,rfl,k _ H m .refl s (by rwa[ay,au,if_true])}
 ·cases e
noncomputable def QA:R->R->ah->UO (R×ah)
 |.v (.str a),.v (.str b),U=>some (.v (.bl (decide (0+b.length<=a.length)&&Builtin.Str.subAt a b 0)),U)
 |_,_,_=>none
abbrev M6 (fa fb:FE):FE:=ax QA fa fb
def T7:V->A0 V->Hp->VK->Prop:=λx ys H Q=>∃a b,x=.str a/\ys=[.str b]/\Q (.bl (decide (0+b.length<=a.length)&&Builtin.Str.subAt a b 0)) H
def O6:Qn X "str.startswith" T7:=by intro A1 s Y H x xs v us Q I rx rv h;obtain⟨a,b,rfl,rfl,q⟩:=h;obtain⟨t,rfl⟩:=rx;obtain⟨u,rfl,ru⟩:=oy rv;obtain⟨t',rfl⟩:=ru;exact call_gives PySem.F.slot_str_startswith (typeIs_str _ _ _) PySem.F.entry_str_startswith (PySem.F.args_str_startswith_2 _ _) (gives_str_startswith a b t t') {.bl _,H,I,rfl,q}
def N9 {fa fb}(h:aN K (M6 fa fb) Y H Q):Qy K "str" T7 (aN K fa) (mL (aN K fb) u5) Y H Q:=by
 let⟨O,U,m,d,U',hl,hs,e,k⟩:=h;let⟨⟨x,U1⟩,e1,e⟩:=AO.mp e;let⟨⟨y,U2⟩,e2,e⟩:=AO.mp e;unfold QA at e;split at e
 ·rename_i a b q1 q2;simp only at q1 q2;subst q1 q2;cases e;refine{O,U,m,_,U1,hl,hs,e1,λv H1 m1 x1 s1 r1=>?_};rwa[ay,au] at r1;subst r1;refine{rfl,O,U1,m1,_,_,hl.ext x1,s1,e2,λu H2 m2 x2 s2 r2=>?_};rwa[ay,au] at r2;subst r2;exact{a,b,rfl,rfl,k _ H2 m2 (x1.trans x2) s2 (by rwa[ay,au])}
 ·cases e
noncomputable def QO (g g':R->R->ah->UO (R×ah))(fa fb fc:FE):FE:=λO U=>(fa O U).bind λa=>(fb O a.2).bind λb=>(g a.1 b.1 b.2).bind λz=>match z.1 with
 |.v (.bl k)=>if k=true then (fc O z.2).bind λc=>g' b.1 c.1 c.2 else some (.v (.bl false),z.2)
 |_=>none
def Oe {g g' r r' fa fb fc}(hg:px K g r)(hg':px K g' r')(h:aN K (QO g g' fa fb fc) Y H Q):CD r r' (aN K fa) (aN K fb) (aN K fc) Y H Q:=by
 let⟨O,U,m,d,U',hl,hs,e,k⟩:=h;let⟨⟨x,U1⟩,e1,e⟩:=AO.mp e;let⟨⟨y,U2⟩,e2,e⟩:=AO.mp e;let⟨⟨z,U3⟩,e3,e⟩:=AO.mp e;split at e
 ·rename_i b q;simp only at q;subst q;refine{O,U,m,x,U1,hl,hs,e1,λv H1 m1 x1 s1 r1=>?_};refine{O,U1,m1,y,U2,hl.ext x1,s1,e2,λu H2 m2 x2 s2 r2=>?_};refine hg m2 H2 U2 x y _ U3 v u _ s2 (r1.ext x2) r2 e3 λw H3 m3 x3 s3 r3=>?_;rwa[ay,au] at r3;refine{b,r3,?_}
  cases b with
  |true=>
   rw[A8 rfl] at e ⊢;let⟨⟨c,U4⟩,e4,e⟩:=AO.mp e;refine{O,U3,m3,c,U4,hl.ext ((x1.trans x2).trans x3),s3,e4,λw' H4 m4 x4 s4 r4=>?_};exact hg' m4 H4 U4 y c d U' u w' Q s4 ((r2.ext x3).ext x4) r4 e λw5 H5 m5 x5 s5 r5=>k w5 H5 m5 ((((x1.trans x2).trans x3).trans x4).trans x5) s5 r5
  |false=>
   rw[AE F8] at e ⊢;cases e;exact k _ H3 m3 ((x1.trans x2).trans x3) s3 (by rwa[ay,au])
 ·cases e
end
theorem rQ:∀{its:Tf} {ts:To},bO (ts.map V.str) its->∃l:A0 (Str×Tok),its=strValues l/\l.map (·.1)=ts
 |its,[],r=>by
  have:=r.length
  cases its with
  |nil=>exact{[],rfl,rfl}
  |cons a b=>simp at this
 |its,x::ts,r=>by
  cases r with
  |cons r1 r2=>
   let⟨l,e1,e2⟩:=rQ r2;let⟨t,rfl⟩:=r1;exact{(x,t)::l,by rw[e1];rfl,by rw[BA,e2]}
theorem lC:∀(l:A0 (Str×Tok)),bO ((l.map (·.1)).map V.str) (strValues l)
 |[]=>.nil
 |(x,t)::l=>.cons {t,rfl} (lC l)
def IT (K:AJ):V->A0 V->Hp->VK->Prop:=λx ys H Q=>∃a p ts,x=.str a/\ys=[.ref p]/\nK K H p (ts.map V.str)/\JoinOk a ts=true/\Q (.str (Txt.join a ts)) H
def GB {X:Cx}:Qn X "str.join" (IT X.K):=by intro A1 s Y H x xs v us Q I rx rv h;obtain⟨a,p,ts,rfl,rfl,hq,hok,q⟩:=h;obtain⟨t,rfl⟩:=rx;obtain⟨u,rfl,ru⟩:=oy rv;cases ru;obtain⟨its,r',pl,hz⟩:=I.list hq;obtain⟨l,rfl,e2⟩:=rQ r';exact SC.join pl.isList e2 hok λt' k=>{.str _,H,I.tok k,{_,rfl},q}
def C9:V->A0 V->Hp->VK->Prop:=λx ys H Q=>∃a b,x=.str a/\ys=[.str b]/\(b.length == 0)=false/\a.length<1000000/\∀p,H p=none->Q (.ref p) (upd H p (.lst ((Txt.split a b).map V.str)))
def uy (a b:Str)(hb:(b.length == 0)=false):(Builtin.Str.partsBetween a (Builtin.Str.occurrences a b 0 a.length (a.length+1)) b.length).length<=a.length+2:=by
 have:=PySem.StrLaws.occ_length_le a b 0 a.length (a.length+1);have e:∀cuts:A0 Nat,(Builtin.Str.partsBetween a cuts b.length).length=cuts.length+1:=λcuts=>by simp[Builtin.Str.partsBetween]
 rw[e];omega
def JAq (a b:Str)(hb:(b.length == 0)=false):(Txt.split a b).length<=a.length+2:=by
 unfold Txt.split;split
 ·simp
 ·split
  ·simp
  ·exact uy a b hb
def JCq:Qn X "str.split" C9:=by
 intro A1 s Y H x xs v us Q I rx rv h;let⟨a,b,rfl,rfl,hb,hz,q⟩:=h;let⟨t,rfl⟩:=rx;let⟨u,rfl,ru⟩:=oy rv;let⟨t',rfl⟩:=ru;have h4:(1000000+2:Nat)<=sizeLine:=by decide
 have hp:=uy a b hb;have hs:=JAq a b hb;cases h1:(decide (a.length<b.length) || decide (Builtin.Str.strKind a<Builtin.Str.strKind b))
 ·cases hf:(Builtin.Str.occurrences a b 0 a.length (a.length+1)).isEmpty
  ·refine call_meets PySem.F.slot_str_split (typeIs_str _ _ _) PySem.F.entry_str_split (PySem.F.args_str_split_2 _ _) (meets_str_split_sep a b t t' h1 hb hf ∅ ∅) ?_;have e:Txt.split a b=Builtin.Str.partsBetween a (Builtin.Str.occurrences a b 0 a.length (a.length+1)) b.length:=by unfold Txt.split;rw[h1,hf];rfl
   rw[e] at q hs;rw[strsFrom_eq];have hv:=lC (numbered s.toks (Builtin.Str.partsBetween a (Builtin.Str.occurrences a b 0 a.length (a.length+1)) b.length));rw[numbered_texts] at hv;exact{.ref s.heap.objs.size,_,I.lnew hv (by rw[BI];omega),rfl,q _ I.fresh}
  ·have e:Txt.split a b=[a]:=by unfold Txt.split;rw[h1,hf];rfl
   rw[e] at q;exact call_meets PySem.F.slot_str_split (typeIs_str _ _ _) PySem.F.entry_str_split (PySem.F.args_str_split_2 _ _) (meets_str_split_not_found a b t t' h1 hb hf)
    {.ref s.heap.objs.size,_,I.lnew (its:=[.str a t]) (t':=s.toks) (lC [(a,t)]) (show 1<=sizeLine by decide),rfl,q _ I.fresh}
 ·have e:Txt.split a b=[a]:=by unfold Txt.split;rw[h1];rfl
  rw[e] at q;exact call_meets PySem.F.slot_str_split (typeIs_str _ _ _) PySem.F.entry_str_split (PySem.F.args_str_split_2 _ _) (meets_str_split_cannot_occur a b t t' h1)
   {.ref s.heap.objs.size,_,I.lnew (its:=[.str a t]) (t':=s.toks) (lC [(a,t)]) (show 1<=sizeLine by decide),rfl,q _ I.fresh}
structure TJ (K:AJ)(g:R->R->ah->Option (R×ah))(r:V->List V->Hp->VK->Prop):Prop where
 str:∀{x y U z},g x y U=some z->∃a,x=.v (.str a)
 go:∀{m H U x y d U' v u} {Q:VK},bz K m H U->ay K m H x v->ay K m H y u->g x y U=some (d,U')->(∀w H' m',fM m H m' H'->bz K m' H' U'->ay K m' H' d w->Q w H')->r v [u] H Q
section
variable {K:AJ}{Y:L2.St}{H:Hp}{Q:VK}
def C6 {g r fa fb}(hg:TJ K g r)(h:aN K (ax g fa fb) Y H Q):Qy K "str" r (aN K fa) (mL (aN K fb) u5) Y H Q:=by obtain⟨O,U,m,d,U',hl,hs,e,k⟩:=h;obtain⟨⟨x,U1⟩,e1,e⟩:=AO.mp e;obtain⟨⟨y,U2⟩,e2,e⟩:=AO.mp e;obtain⟨a,hx⟩:=hg.str e;simp only at hx;subst hx;refine{O,U,m,_,U1,hl,hs,e1,λv H1 m1 x1 s1 r1=>?_};have r1':=r1;rwa[ay,au] at r1';subst r1';refine{rfl,O,U1,m1,_,_,hl.ext x1,s1,e2,λu H2 m2 x2 s2 r2=>?_};exact hg.go s2 (r1.ext x2) r2 e λw H3 m3 x3 s3 r3=>k w H3 m3 ((x1.trans x2).trans x3) s3 r3
noncomputable def jN:A0 D->UO (To)
 |[]=>some []
 |.str x::r=>(jN r).bind λl=>some (x::l)
 |_=>none
theorem p8:∀{ds:A0 D} {ts:To} {vs:A0 V},jN ds=some ts->RelDs K H ds vs->vs=ts.map V.str
 |[],ts,vs,e,r=>by cases e;rwa[RelDs] at r;exact r
 |d::ds,ts,vs,e,r=>by
  cases d with
  |str x=>
   let⟨l,e1,e2⟩:=AO.mp e;cases e2;rwa[RelDs] at r;let⟨v,r',rfl,h1,h2⟩:=r;rwa[au] at h1;rw[h1,p8 e1 h2];rfl
  |non=>cases e
  |bl _=>cases e
  |int _=>cases e
  |tup _=>cases e
  |fl _=>cases e
  |fd _ _=>cases e
  |key _=>cases e
noncomputable def nB:R->R->ah->UO (R×ah)
 |.v (.str a),y,U=>(lK y U).bind λds=>(jN ds).bind λts=>if JoinOk a ts=true then some (.v (.str (Txt.join a ts)),U) else none
 |_,_,_=>none
def Mm:TJ K nB (IT K) where
 str:=λ{x y U z} e=>by
  unfold nB at e;split at e
  ·exact{_,rfl}
  ·cases e
 go:=λ{m H U x y d U' v u Q} s rx ry e k=>by
  unfold nB at e;split at e
  ·rename_i a;let⟨ds,e1,e⟩:=AO.mp e;let⟨ts,e2,e⟩:=AO.mp e;split at e
   ·rename_i hok
    cases e;rwa[ay,au] at rx;subst rx;let⟨p,vs,rfl,q,rr⟩:=nu s ry e1;rw[p8 e2 rr] at q;exact{a,p,ts,rfl,rfl,q,hok,k _ H m .refl s (by rwa[ay,au])}
   ·cases e
  ·cases e
noncomputable def u9:R->R->ah->UO (R×ah)
 |.v (.str a),.v (.str b),U=>if (b.length == 0)=false/\a.length<1000000 then some (.p U.length,U++[.lst ((Txt.split a b).map D.str)]) else none
 |_,_,_=>none
theorem ur:∀{ts:To},RelDs K H (ts.map D.str) (ts.map V.str)
 |[]=>by rwa[DC,RelDs]
 |t::ts=>by rwa[BA,RelDs];exact{_,_,rfl,by rwa[au],ur}
def Pj:TJ K u9 C9 where
 str:=λ{x y U z} e=>by
  unfold u9 at e;split at e
  ·exact{_,rfl}
  ·cases e
 go:=λ{m H U x y d U' v u Q} s rx ry e k=>by
  unfold u9 at e;split at e
  ·rename_i a b;split at e
   ·rename_i hc
    cases e;rwa[ay,au] at rx ry;subst rx ry;refine{a,b,rfl,rfl,hc.1,hc.2,λp hp=>?_};let⟨x1,x2,x3⟩:=nX s (ur (K:=K) (H:=H) (ts:=Txt.split a b)) hp;exact k _ _ _ x1 x2 x3
   ·cases e
  ·cases e
noncomputable def uF (neg:A9):R->R->ah->UO (R×ah)
 |.v (.str a),y,U=>(iM y U).bind λds=>(jN ds).bind λts=>some (.v (.bl (if neg then !(ts.any (· == a)) else ts.any (· == a))),U)
 |_,_,_=>none
theorem uG {a:Str}:∀{ts:To},EW (.str a) (ts.map V.str)=ts.any (· == a)
 |[]=>rfl
 |t::ts=>by have ih:=uG (a:=a) (ts:=ts);unfold EW at ih ⊢;rw[BA,CP,ih,CP];rfl
theorem sO:∀{ts:To},(ts.map V.str).all nE=true
 |[]=>rfl
 |t::ts=>by rw[BA,zbt,sO];rfl
def Ee {neg:A9}:px K (uF neg) (KP K neg):=by
 intro m H U x y d U' v u Q s rx ry e k;unfold uF at e;split at e
 ·let⟨ds,e0,e⟩:=AO.mp e;let⟨ts,e1,e⟩:=AO.mp e;cases e;rwa[ay,au] at rx;subst rx;let⟨a,ws,rfl,q,rr⟩:=lp s ry e0;rw[p8 e1 rr] at q;refine{a,ts.map V.str,rfl,q,rfl,sO,k _ H m .refl s ?_};rwa[ay,au,uG]
 ·cases e
end
end HW
namespace HS
open PyProof.Rows
def Rm (xs:AW Keyed)(lo hi:Nat):Prop:=∀i j,lo<=i->i<=j->j<hi->K xs i<=K xs j
def oP (lo hi:Nat)(xs ys:AW Keyed):Prop:=∀k,¬ (lo<=k/\k<hi)->ys[k]?=xs[k]?
structure SB (a₀:Array Keyed)(st:SortSt):Prop where
 perm:(arrOf st).Perm a₀
 kind:kindOf st=oneType'
 ok:failedOf st=none
structure Vg (a₀:Array Keyed)(lo hi:Nat)(st Bo:SortSt):Prop where
 b:SB a₀ Bo
 pend:pendingOf Bo=pendingOf st
 out:oP lo hi (arrOf st) (arrOf Bo)
section
def IK (xs:AW Keyed):Prop:=∀i,i<xs.size->∃t q,xs[i]?=some (.int (K xs i) t,q)
end
noncomputable def kk (p:Keyed):Int:=numOf p.1
def Le (x y:Keyed):Prop:=kk x<=kk y
structure Mg (A B Ozz:List Keyed)(ia ib:Nat):Prop where
 perm:(Ozz++A.drop ia++B.drop ib).Perm (A++B)
 srt:Ozz.Pairwise Le
 toA:∀x∈Ozz,∀y∈A.drop ia,Le x y
 toB:∀x∈Ozz,∀y∈B.drop ib,Le x y
 len:Ozz.length=ia+ib
structure UK (st Bo:SortSt):Prop where
 kind:kindOf Bo=kindOf st
 arr:arrOf Bo=arrOf st
 pend:pendingOf Bo=pendingOf st
 ok:failedOf Bo=failedOf st
section
structure Vh (a b:Array Keyed):Prop where
 ka:IK a
 kb:IK b
 sa:Rm a 0 a.size
 sb:Rm b 0 b.size
 na:0<a.size
 nb:0<b.size
end
structure Mh (A B Ozz:List Keyed)(na nb:Nat):Prop where
 perm:(A.take na++B.take nb++Ozz).Perm (A++B)
 srt:Ozz.Pairwise Le
 toA:∀x∈A.take na,∀y∈Ozz,Le x y
 toB:∀x∈B.take nb,∀y∈Ozz,Le x y
structure Wb (xs ys:Array Keyed)(lo hi:Nat):Prop where
 perm:ys.Perm xs
 out:oP lo hi xs ys
 src:∀q,lo<=q->q<hi->∃r,lo<=r/\r<hi/\K ys q=K xs r
 srt:Rm ys lo hi
def Ql (xs:AW Keyed):A0 (Nat×Nat×Nat)->Nat->Nat->Prop
 |[],b,e=>b=e
 |(a,n,_)::r,b,e=>a=b/\0<n/\Rm xs a (a+n)/\Ql xs r (b+n) e
structure Tv (a₀:Array Keyed)(st:SortSt)(lo:Nat):Prop where
 b:SB a₀ st
 r:Ql (arrOf st) (pendingOf st).toList 0 lo
open L2
end HS
namespace HW
open PyProof.Rows L2 HS
end HW
namespace HS
open PyProof.Rows
end HS
namespace HW
open PyProof.Rows L2 HS
end HW
namespace HW
open PyProof.Rows L2
def KR (K:AJ)(m:Tg)(H:Hp)(kvs:A0 (cQ×R))(es:A0 (cQ×V)):Prop:=es.map (·.1)=kvs.map (·.1)/\bU K m H (kvs.map (·.2)) (es.map (·.2))
noncomputable def xJ (kvs:A0 (cQ×R))(k:cQ):UO R:=(kvs.find? λkv=>decide (kv.1=k)).map (·.2)
section
variable {K:AJ}{m:Tg}{H:Hp}
def KR.cons {k k':cQ}{d:R}{v:V}{kvs:A0 (cQ×R)}{es:A0 (cQ×V)}:KR K m H ((k,d)::kvs) ((k',v)::es) ↔ k'=k/\ay K m H d v/\KR K m H kvs es:=by
 constructor
 ·rintro⟨h1,h2⟩;rwa[BA,List.cons.injEq] at h1;let⟨w,r,e,h3,h4⟩:=h2;rwa[BA,List.cons.injEq] at e;let⟨rfl,rfl⟩:=e;exact{h1.1,h3,h1.2,h4}
 ·rintro⟨rfl,h1,h2,h3⟩;exact{by simp[h2],{_,_,rfl,h1,h3}}
theorem KR.val:∀{kvs:A0 (cQ×R)} {es:A0 (cQ×V)} (k:cQ),KR K m H kvs es->(xJ kvs k=none/\kY es k=none)\/∃d v,xJ kvs k=some d/\kY es k=some v/\ay K m H d v
 |[],es,k,h=>by
  have:es=[]:=by simpa using h.1
  subst this;exact .inl {rfl,rfl}
 |(a,d)::kvs,[],k,h=>by have:=h.1;simp at this
 |(a,d)::kvs,(b,v)::es,k,h=>by
  let⟨rfl,h1,h2⟩:=KR.cons.mp h;by_cases e:b=k
  ·refine .inr {d,v,?_,?_,h1}
   ·simp[xJ,e]
   ·simp[kY,e]
  ·have ih:=KR.val k h2;have e1:xJ ((b,d)::kvs) k=xJ kvs k:=(by simp[xJ,e]);have e2:kY ((b,v)::es) k=kY es k:=pD e;rw[e1,e2];exact ih
end
noncomputable def LY (x:R)(U:ah):UO (A0 (cQ×R)):=match x with
 |.v (.fd ks ds)=>if ks.length=ds.length then some (ks.zip (ds.map R.v)) else none
 |.p n=>match U[n]? with|some (.dct kvs)=>some (kvs.map λp=>(p.1,R.v p.2))|some (.fzd kvs)=>some (kvs.map λp=>(p.1,R.v p.2))|some (.dr kvs)=>some kvs|some (.fzr kvs)=>some kvs|_=>none
 |_=>none
theorem rl {K:AJ}{m:Tg}{H:Hp}:∀{ds:A0 D} {vs:A0 V},RelDs K H ds vs->bU K m H (ds.map R.v) vs
 |[],_,h=>h
 |_::_,_,⟨v,r,e,h1,h2⟩=>{v,r,e,h1,rl h2}
def GK {K:AJ}{m:Tg}{H:Hp}{U:ah}{x:R}{v:V}{kvs:A0 (cQ×R)}(s:bz K m H U)(r:ay K m H x v)(e:LY x U=some kvs):∃a es,v=.ref a/\Rd H a (.dK es)/\KR K m H kvs es:=by
 unfold LY at e;split at e
 ·rename_i ks ds;split at e
  ·rename_i hl
   cases e;rwa[ay,au] at r;let⟨a,o,es,rfl,ea,e1,e2⟩:=r;refine{a,es,rfl,.inr {o,ea},?_,?_}
   ·rw[List.map_fst_zip (by simp[hl]),e1]
   ·rw[List.map_snd_zip (by simp[hl])];exact rl e2
  ·cases e
 ·rename_i n;let⟨a,rfl,ha⟩:=r;split at e
  ·rename_i kv q
   cases e;let⟨es,ea,e1,e2⟩:=s.cell _ _ a q ha;refine{a,es,rfl,.inl ea,by simp[e1,Function.comp_def],?_};have:=rl (m:=m) e2;simpa[Function.comp_def] using this
  ·rename_i kv q
   cases e;let⟨o,es,ea,e1,e2⟩:=s.cell _ _ a q ha;refine{a,es,rfl,.inr {o,ea},by simp[e1,Function.comp_def],?_};have:=rl (m:=m) e2;simpa[Function.comp_def] using this
  ·rename_i kv q
   cases e;let⟨es,ea,e1,e2⟩:=s.cell _ _ a q ha;exact{a,es,rfl,.inl ea,e1,e2}
  ·rename_i kv q
   cases e;let⟨o,es,ea,e1,e2⟩:=s.cell _ _ a q ha;exact{a,es,rfl,.inr {o,ea},e1,e2}
  ·cases e
 ·cases e
noncomputable def BF (fo fk:FE):FE:=λO U=>(fo O U).bind λo=>(fk O o.2).bind λk=>(LY o.1 k.2).bind λkvs=>(sH k.1).bind λkey=>(xJ kvs key).bind λr=>some (r,k.2)
def KL {K:AJ}{H:Hp}{Q:VK}{fo fk}(h:aN K (BF fo fk) Y H Q):IF (aN K fo) (aN K fk) Y H Q:=by
 let⟨O,U,m,d,U',hl,hs,e,kk⟩:=h;let⟨⟨o,U1⟩,e1,e⟩:=AO.mp e;let⟨⟨k,U2⟩,e2,e⟩:=AO.mp e;let⟨kvs,e4,e⟩:=AO.mp e;let⟨key,e5,e⟩:=AO.mp e;let⟨r,e6,e⟩:=AO.mp e;cases e;refine{O,U,m,o,U1,hl,hs,e1,λvo H1 m1 x1 s1 r1=>?_};refine{O,U1,m1,k,U2,hl.ext x1,s1,e2,λvk H2 m2 x2 s2 r2=>?_};let⟨a,es,rfl,hR,hK⟩:=GK s2 (r1.ext x2) e4;have hk:=vF r2 e5;rcases KR.val key hK with⟨n1,n2⟩|⟨dd,vv,n1,n2,n3⟩
 ·rw[n1] at e6;cases e6
 ·rw[n1] at e6;cases e6;exact{a,vv,rfl,.inl {es,key,hR,hk,n2.symm},kk _ H2 m2 (x1.trans x2) s2 n3}
end HW
namespace F5
open PySem.W PyProof.Rows
section
variable {r:Nat->Int}{n:Nat}{s:A2}{cmp:Nat->Nat->(A9->A2->Prop)->A2->Prop}
abbrev key (r:Nat->Int)(p:AW Nat)(k:Nat):Int:=r (p.getD k 0)
structure Pm (n:Nat)(p:Array Nat):Prop where
 pm:p.toList.Perm (List.range n)
structure Rk (r:Nat->Int)(n:Nat)(s:Shared)(cmp:Nat->Nat->(Bool->Shared->Prop)->Shared->Prop):Prop where
 inj:∀i j,i<n->j<n->r i=r j->i=j
 ask:∀i j,i<n->j<n->∀C:Bool->Shared->Prop,C (decide (r i<r j)) s->cmp i j C s
end
end F5
namespace HK
open PyProof.Rows L2
section
variable {prog:A7}{w:AF}{A:AI}{E:Tc}{s:A2}{it:A4}
noncomputable def nv:String->Builtin:=(show{f:String->Builtin // f "dict_keyiterator.__next__" = Builtin.«dict_keyiterator.__next__»} from{_,rfl}).1
def WK (prog:A7)(w:AF)(T id:String)(b:Nat):Prop:=Slot T (Str.ofString "__next__") id/\entryFor table id=some (nv id)/\(∀a,argsOk id {pos:=[a]})/\(if Builtin.Dict_items.ownsTuple T=true then 2 else 0)=b /\
 ∀(A:AI) (E:Tc) (s:A2) (it:A4),s.TypeIs (.ref it) T->(∀(Q:String->A2->Prop),Q T s->wpAny (model prog w) A (typeNameOfWhole (.ref it)) Q E s) /\
 ∀(l:A0 String) (Q:A9->A2->Prop),Q (l.any λt=>[Value.type T,.type "object"].contains (.type t)) s->wpAny (model prog w) A (Builtin.Dict_items.isOneOf (.ref it) l) Q E s
end
open F5
end HK
namespace HW
open PyProof.Rows L2 HS F5 HK
abbrev kk (k:Tj):A0 cQ:=k.map Sum.inl
def D9 {X:Cx}{H:Hp}{s:A2}(I:aS X A1 Y H s){b:A4}{zs:A0 V}(h:nK X.K H b zs):∃(its:Tf) (n:Nat),bO zs its/\s.heap.get? b=some {cls:=.type "list",data:=.seq its.toArray n}:=by
 rcases h with h|⟨o,its,n,hk,hc,hd,hs,hz,r⟩
 ·let⟨z,its,n,r,e⟩:=h.ok I.hok;exact{its,n,r,e}
 ·refine{its.toList,n,r,?_};have e:=I.kIn b o hk;let⟨c,d,dt,sl⟩:=o;simp only at hc hd hs;let⟨hd,hl⟩:=hd;subst hc hd hs hl;simpa using e
def Ja (K:AJ):R2:=λx y H Q=>∃l b xs zs,x=.ref l/\y=.ref b/\nK K H l xs/\nK K H b zs/\xs.length+zs.length<=sizeLine/\∀p,H p=none->Q (.ref p) (upd H p (.lst (xs++zs)))
def Gp {X:Cx}:l8 X (binaryOp .Add) (Ja X.K):=by intro A1 s Y H x y v u Q I rx ry h;let⟨l,b,xs,zs,rfl,rfl,hH,hB,hz,q⟩:=h;cases rx;cases ry;let⟨its,n,r,e⟩:=D9 I hH;let⟨CT,n2,r2,e2⟩:=D9 I hB;have l1:=r.length;have l2:=r2.length;refine PySem.P.add_list e e2 ?_ (by rw[BR,BR];omega);rw[show its.toArray++CT.toArray=(its++CT).toArray by simp];exact{.ref _,_,I.lnew (t':=s.toks) (r.append r2) (by rw[Bx];omega),rfl,q _ I.fresh}
noncomputable def o2:R->ah->UO (A0 D)
 |.p a,U=>(match U[a]? with|some (.lst xs)=>some xs|some (.fz xs)=>some xs|_=>none)
 |.v (.fl xs),_=>some xs
 |_,_=>none
theorem zx {K:AJ}{m:Tg}{H:Hp}{U:ah}(s:bz K m H U){x:R}{v:V}{xs:A0 D}(e:o2 x U=some xs)(r:ay K m H x v):∃a vs,v=.ref a/\nK K H a vs/\RelDs K H xs vs:=by
 refine nu s r ?_;rw[←e]
 cases x with
 |v d=>cases d <;> rfl
 |_=>rfl
noncomputable def re (x y:R)(U:ah):UO (R×ah):=(o2 x U).bind λxs=>(o2 y U).bind λys=>if xs.length+ys.length<=sizeLine then some (.p U.length,U++[.lst (xs++ys)]) else none
def Mq {K:AJ}:px K re (Ja K):=by
 intro m H U x y d U' v u Q s rx ry e k;unfold re at e;let⟨xs,e1,e⟩:=AO.mp e;let⟨ys,e2,e⟩:=AO.mp e;split at e
 ·rename_i hz
  cases e;let⟨b,vs,rfl,ea,r1⟩:=zx s e1 rx;let⟨c,ws,rfl,f,r2⟩:=zx s e2 ry;refine{b,c,vs,ws,rfl,rfl,ea,f,by rw[←r1.length,←r2.length];exact hz,λp hp=>?_};let⟨x1,x2,x3⟩:=nX s (r1.append r2) hp;exact k _ _ _ x1 x2 x3
 ·cases e
end HW
namespace PySem
end PySem
namespace HW
open PyProof.Rows L2
noncomputable def GQ (neg:A9):R->R->ah->UO (R×ah)
 |.v (.int i),.v (.fd ks ds),U=>some (.v (.bl (if neg then !(ks.any λk=>decide (k=.inl i)) else ks.any λk=>decide (k=.inl i))),U)
 |.v (.str t),.p n,U=>match U[n]? with
  |some (.dct kvs)=>some (.v (.bl (if neg then !(kvs.any λkv=>decide (kv.1=.inr t)) else kvs.any λkv=>decide (kv.1=.inr t))),U)
  |_=>none
 |x,y,U=>RQ neg x y U
def PB {K:AJ}{neg:A9}:px K (GQ neg) (λx y H Q=>KP K neg x y H Q\/vd neg x y H Q):=by
 intro m H U x y d U' v u Q s rx ry e k;unfold GQ at e;split at e
 ·rename_i i ks ds
  cases e;rwa[ay,au] at rx ry;subst rx;let⟨a,o,es,rfl,ea,e1,e2⟩:=ry;refine .inr {a,es,.inl i,rfl,rfl,.inr {o,ea},k _ H m .refl s ?_};have hv:(kY es (.inl i)).isSome=ks.any λk=>decide (k=.inl i):=by rw[kX,←e1,List.any_map];rfl
  rw[hv];rwa[ay,au]
 ·rename_i t n;split at e
  ·rename_i kvs hn
   cases e;rwa[ay,au] at rx;subst rx;let⟨a,rfl,ha⟩:=ry;let⟨es,ea,e1,e2⟩:=s.cell _ _ a hn ha;refine .inr {a,es,.inr t,rfl,rfl,.inl ea,k _ H m .refl s ?_};have hv:=(kX (.inr t) es).trans (KD.any (K:=K) (H:=H) {e1,e2} (.inr t));rw[hv];rwa[ay,au]
  ·cases e
 ·exact Py m H U _ _ d U' v u Q s rx ry e k
end HW
namespace L2
open PyProof.Rows
end L2
namespace HW
open PyProof.Rows L2
noncomputable def kD:cQ->D
 |.inl i=>.int i
 |.inr (some x)=>.str x
 |.inr none=>.non
end HW
namespace HW
def UJ (b:A9)(h:AG)(it l:A4)(k:Nat)(xs:Tk):Prop:=match b with
 |false=>h.IsListIter it l k/\h.IsList l xs
 |true=>h.IsTupleIter it l k/\h.IsTuple l xs
abbrev MX (h:AG)(z TI TO T:A4)(fl:A9):Prop :=
 h.get? z=some {cls:=.type "zip",dict:=none,data:=.fields #[rawInt T,.bool fl,.bool false,.ref TI,.ref TO],slots:=#[]}
open L2 PyProof.Rows
structure Vf (b1 b2:Bool)(h:Heap)(S z TI TO i1 i2 l1 l2:Addr)(xs ys:Tk)(k:Nat):Prop where
 st:(k=0/\IsZip h z TI TO .none/\IsPair h TO .none .none)\/∃T fl oT,MX h z TI TO T fl/\h.get? T=some oT/\T∉[S,z,TO,i1,i2]
 ti:IsPair h TI (.ref i1) (.ref i2)
 h1:UJ b1 h i1 l1 k xs
 h2:UJ b2 h i2 l2 k ys
 to:∃o,h.get? TO=some o
end HW
namespace HK
open PyProof.Rows L2
section
variable {prog:A7}{w:AF}
def wi:WK prog w "dict_itemiterator" "dict_itemiterator.__next__" 2:={F.slot_dict_itemiterator_next,F.entry_dict_itemiterator_next,F.args_dict_itemiterator_next_1,by decide,λ_ _ _ _ y=>{λ_=>wpAny_typeNameOfWhole_itemiter y,λ_ _=>wpAny_isOneOf_itemiter y}}
end
end HK
namespace L2
open PyProof.Rows HK
end L2
namespace HW
open PyProof.Rows L2
end HW
namespace HS
open PyProof.Rows
end HS
namespace HW
open PyProof.Rows L2 HS
end HW
namespace HS
open PyProof.Rows
noncomputable def MS (t:SetTable):Nat->SetTable.Probe->SetTable.Probe
 |0,p=>p
 |n+1,p=>MS t n (t.advance p)
noncomputable def fr (m i p:Nat):SetTable.Probe:={j:=i,more:=SetTable.runEnd m i-i,i:=i,perturb:=p,dummy:=none}
section
variable {prog:A7}{w:AF}
abbrev UM (prog:A7)(w:AF)(h:AG)(ks:Tj)(a:A4):Prop:=IsTupleKey (intKind prog w) h ks a
theorem items_int {prog:A7}{ks:Tj}{vs:Tf}(h:ItemsAre (intKind prog w) ks vs):∀v∈vs,∃n t,v=.int n t:=by
 induction h with
 |nil=>intro v hv;simp at hv
 | @cons k v' ks vs h1 _ ih=>
  intro v hv;rcases BJ.mp hv with rfl|hv
  ·cases v with
   |int n t=>exact{n,t,rfl}
   |_=>simp[intKind,Value.isInt] at h1
  ·exact ih v hv
structure Tt (prog:Program)(w:World)(led:Bool)(h:Heap)(es:Array (Int×Value))(t:SetTable)(vs:Tf):Prop where
 W:Ts led es t
 ms:t.mask∈O7
 dm:t.dummies = #[]
 pl:t.plain=true
 lo:t.place.size*5<t.mask*3
 pm:(es.toList.map (·.2)).Perm vs
 el:∀e∈es.toList,∃b ls,e.2=.ref b/\UM prog w h ls b
end
end HS
namespace HW
open PyProof.Rows L2 HS F5
end HW
namespace HK
open PyProof.Rows L2 HS F5
end HK
namespace HW
open PyProof.Rows L2 HS F5 HK
end HW
namespace HK
open PyProof.Rows L2 F5
section
variable {prog:A7}{w:AF}
def wv:WK prog w "dict_valueiterator" "dict_valueiterator.__next__" 0:={F.slot_dict_valueiterator_next,F.entry_dict_valueiterator_next,F.args_dict_valueiterator_next_1,by decide,λ_ _ _ _ y=>{λ_=>wpAny_typeNameOfWhole_valiter y,λ_ _=>wpAny_isOneOf_valiter y}}
end
end HK
namespace PySem
end PySem
namespace HW
open PyProof.Rows L2 HK F5
end HW
namespace HS
open PyProof.Rows
def Qs (t:SetTable)(h:Int)(j:Nat):Prop:=∃n,(MS t n (t.probeStart h)).j=j/\∀k<n,t.slot (MS t k (t.probeStart h)).j≠.empty
def TM (es:AW (Int×A6))(t:SetTable):Prop:=∀(i:Nat) (e:Int×A6) (j:Nat),es[i]?=some e->t.place[i]?=some j->Qs t e.1 j
section
variable {prog:A7}{w:AF}
structure U9 (prog:Program)(w:World)(TH:List Int->Int)(led:Bool)(h:Heap)(es:Array (Int×Value))(t:SetTable)(vs:Tf):Prop where
 T:Tt prog w led h es t vs
 ch:TM es t
 hh:∀e∈es.toList,∃b ls,e.2=.ref b/\UM prog w h ls b/\e.1=TH ls
end
end HS
namespace HW
open PyProof.Rows L2 HS F5
noncomputable def U6 (acc:Ta)(k:Tj):Ta:=if k∈acc then acc else acc++[k]
noncomputable def dd (L:Ta):Ta:=L.foldl U6 []
end HW
namespace HW
variable {K:AJ}
open PyProof.Rows L2
open Classical in
noncomputable def U1z (cl:A0 (Str×A4))(H:Hp):Hp:=λb=>if (∃y,cl.lookup y=some b) then none else H b
structure Va (P:Addr)(q:Str)(H H':Hp):Prop where
 keep:∀b o,b≠P->H b=some o->H' b=some o
 tab:∃ps,H' P=some (.tbl ps)/\pZ H' q ps
structure TK (K:AJ)(x:Str)(st:Stmt)(f:Addr)(fd:FuncData)(c:Addr):Prop where
 ex:∃(oc:Value) (od:Option Addr) (kV doc pm:Value) (an:Option Addr) (ct:Value) (Dj:Array (Ti)),
  fd=PySem.W.fnOf x x (jC st) (b4 st) (aj st) .none kV doc pm an (.ref c) ct/\K.lookup f=some {oc,od,.func fd,Dj}/\PySem.W.codeIn K (.ref c) x=true
 kp:PySem.W.keepIn K (.ref f)=true
section
variable {K:AJ}{m:Tg}{H:Hp}
theorem bU.length:∀{ds:A0 R} {vs:A0 V},bU K m H ds vs->ds.length=vs.length
 |[],_,h=>by cases(show _=[] from h);rfl
 |_::_,_,⟨v,r,e,h1,h2⟩=>by subst e;simp[bU.length h2]
theorem bU.get:∀{ds:A0 R} {vs:A0 V} {i:Nat} {d:R},bU K m H ds vs->ds[i]?=some d->∃v,vs[i]?=some v/\ay K m H d v
 |[],_,_,_,_,e=>by simp at e
 |_::_,_,0,_,⟨v,r,e,h1,h2⟩,q=>by subst e;simp at q;subst q;exact{v,rfl,h1}
 |_::_,_,i+1,_,⟨v,r,e,h1,h2⟩,q=>by subst e;simp at q;let⟨w,a,b⟩:=bU.get h2 q;exact{w,by simpa using a,b}
def JDm {xs:A0 R}{vs:A0 V}{i:Int}{d:R}(r:bU K m H xs vs)(e:n9 xs i=some d):∃v,n9 vs i=some v/\ay K m H d v:=by let⟨j,e1,e2⟩:=AO.mp e;let⟨v,q1,q2⟩:=r.get e2;exact{v,by unfold n9;rw[←r.length,e1];exact q1,q2}
end
noncomputable def LS (U:ah)(n:Nat):UO (A0 R):=match U[n]? with|some (.lr xs)=>some xs|_=>none
def O8 {m:Tg}{H:Hp}{U:ah}{n:Nat}{a:A4}{xs:A0 R}(s:bz K m H U)(ha:m[n]?=some a)(e:LS U n=some xs):∃vs,H a=some (.lst vs)/\bU K m H xs vs:=by
 unfold LS at e;split at e
 ·rename_i q;cases e;exact s.cell _ _ a q ha
 ·cases e
noncomputable def PP (fa:FA):FE:=λO U=>(fa O U).bind λa=>if a.1.length<=sizeLine then some (.p a.2.length,a.2++[.lr a.1]) else none
noncomputable def Jt:R->R->ah->UO (R×ah)
 |.p n,.v (.int i),U=>(LS U n).bind λxs=>(n9 xs i).bind λd=>some (d,U)
 |_,_,_=>none
section
variable {K:AJ}{m:Tg}{Y:L2.St}{H:Hp}{Q:VK}{U:ah}
def Of {fa}(h:aN K (PP fa) Y H Q):J8 (js K fa) Y H Q:=by
 let⟨O,U,m,d,U',hl,hs,e,k⟩:=h;let⟨⟨xs,U1⟩,e1,e⟩:=AO.mp e;split at e
 ·rename_i z
  cases e;refine{O,U,m,xs,_,hl,hs,e1,λvs H1 m1 x1 s1 r1=>?_};refine{by rw[←r1.length];exact z,λp hp=>?_};have x2:fM m1 H1 (m1++[p]) (upd H1 p (.lst vs)):=.newH hp;exact k _ _ _ (x1.trans x2) (s1.newH hp {vs,eS,r1.ext x2}) {p,rfl,by rw[←s1.len];simp}
 ·cases e
def Pv:px K Jt (RD K):=by
 intro m H U x y d U' v u Q s rx ry e k;unfold Jt at e;split at e
 ·rename_i n i;let⟨xs,e1,e⟩:=AO.mp e;let⟨d1,e2,e⟩:=AO.mp e;cases e;rwa[ay,au] at ry;subst ry;let⟨a,rfl,ha⟩:=rx;let⟨vs,ea,r⟩:=O8 s ha e1;let⟨w,q1,q2⟩:=JDm r e2;exact .inl {a,vs,i,w,rfl,rfl,nK.of ea,q1,k _ H m .refl s q2}
 ·cases e
end
abbrev MW:=A0 R->ah->UO (R×ah)
noncomputable def ui:oP->UO (R×ah)
 |.rt r U=>some (r,U)
 |.nx _ U=>some (.v .non,U)
 |_=>none
noncomputable def o5 (k:Nat)(b:FS):MW:=λrs U=>(b (rs.map some++List.replicate (k-rs.length) none) U).bind ui
noncomputable def M3 (K:AJ)(n:Nat)(f:MW):Sp:=λvs H Q _=>∃U m rs d U',rs.length=n/\bz K m H U/\bU K m H rs vs/\f rs U=some (d,U') /\
 ∀v H' m',fM m H m' H'->bz K m' H' U'->ay K m' H' d v->Q v H'
def wA {m:Tg}{H:Hp}{N:To}{rs:A0 R}{vs:A0 V}(r:bU K m H rs vs):eI K m H (rs.map some++List.replicate (N.length-rs.length) none) (L2.jh N vs):=by
 have hl:=r.length;refine{by simp[L2.jh,hl],λi d e=>?_};by_cases hi:i<rs.length
 ·rw[C0 ‹hi›,DA] at e
  cases q:rs[i]? with
  |none=>rw[q] at e;cases e
  |some x=>
   rw[q] at e;cases e;let⟨v,q1,q2⟩:=r.get q;refine{v,?_,q2};unfold L2.jh;rw[C0 (by simp;omega),DA,q1];rfl
 ·rw[Dw ‹hi›,zbr] at e;split at e <;> cases e
theorem pz.okW {P:A7}{w:AF}{K:AJ}{mg:Te}{base:AG}{x qual:Str}{st:AN}{f:A4}{fd:FuncData}{N ps:To}{k:Nat}{b:FS}(F:pz K x qual st f fd)(S:aK N ps (aj st))
  (AR:∀(AP:A6) (A:AI) (outer:A0 Env) (s:A2) (H:Hp) (E:XK),cr k (A.deeper (envOfC qual (aj st) s.heap.objs.size f AP))->qF (gR oh P w K mg base N qual (aj st) f AP A outer s H E).nox (b4 st) (gL K b)) :
  dF P w K mg base oh (k+1) f fd ps (M3 K ps.length (o5 N.length b)):=by
 have G:dF P w K mg base oh (k+1) f fd ps (λvs H Q _=>vs.length=ps.length/\gL K b {nx:=λ_ H'=>Q .non H',rt:=Q} (L2.jh N vs) H) :=
  L2.pz.ok F S (λvs H Q E h=>h.1) λAP A outer s H vs Q E hr h=>{_,AR AP A outer s H E hr,h.2}
 refine G.imp λvs H Q E hh=>?_;let⟨U,m,rs,d,U',hn,hs,r,e,k⟩:=hh;refine{by rw[←r.length];exact hn,?_};let⟨o,e1,e⟩:=AO.mp e;refine{_,U,m,o,wA r,hs,e1,?_}
 cases o with
 |nx O U1=>cases e;exact λY H' m' x1 s1 _=>k _ H' m' x1 s1 (by rwa[ay,au])
 |rt d U1=>cases e;exact λv H' m' x1 s1 r1=>k _ H' m' x1 s1 r1
 |bk O U1=>cases e
 |ct O U1=>cases e
noncomputable def gK (f:MW)(n:Nat)(fa:FA):FE:=λO U=>(fa O U).bind λa=>if a.1.length=n then f a.1 a.2 else none
structure lw (K:AJ)(mg:Te)(c:Str)(C:Addr):Prop where
 ns:PySem.W.nsIn K mainGlobals c=some (some (.ref C))
 mg:mg c=some (.ref C)
 cl:E1 K C
noncomputable def sv (c:Str)(U:ah)(x:R):UO (A0 (Str×R)):=match x with
 |.p n=>(match U[n]? with|some (.ob c' fs)=>if c'=c then some fs else none|_=>none)
 |_=>none
noncomputable def oH (f:Str)(v:R):A0 (Str×R)->A0 (Str×R)
 |[]=>[(f,v)]
 |(g,x)::r=>if g=f then (g,v)::r else (g,x)::oH f v r
def FR (K:AJ)(m:Tg)(H:Hp)(fs:A0 (Str×R))(es:A0 (Str×V)):Prop:=es.map (·.1)=fs.map (·.1)/\bU K m H (fs.map (·.2)) (es.map (·.2))
section
variable {K:AJ}{m m':Tg}{H H':Hp}
def FR.cons {k k':Str}{d:R}{v:V}{fs:A0 (Str×R)}{es:A0 (Str×V)}:FR K m H ((k,d)::fs) ((k',v)::es) ↔ k'=k/\ay K m H d v/\FR K m H fs es:=by
 constructor
 ·rintro⟨h1,h2⟩;rwa[BA,List.cons.injEq] at h1;let⟨w,r,e,h3,h4⟩:=h2;rwa[BA,List.cons.injEq] at e;let⟨rfl,rfl⟩:=e;exact{h1.1,h3,h1.2,h4}
 ·rintro⟨rfl,h1,h2,h3⟩;exact{by simp[h2],{_,_,rfl,h1,h3}}
theorem FR.look:∀{fs:A0 (Str×R)} {es:A0 (Str×V)} (f:Str),FR K m H fs es->(fs.lookup f=none/\es.lookup f=none)\/∃d v,fs.lookup f=some d/\es.lookup f=some v/\ay K m H d v
 |[],es,f,h=>by
  have:es=[]:=by simpa using h.1
  subst this;exact .inl {rfl,rfl}
 |(a,d)::fs,[],f,h=>by have:=h.1;simp at this
 |(a,d)::fs,(b,v)::es,f,h=>by
  let⟨rfl,h1,h2⟩:=FR.cons.mp h;rwa[D8]
  cases q:f == b with
  |true=>exact .inr {d,v,rfl,rfl,h1}
  |false=>exact FR.look f h2
theorem FR.put {f:Str}{d:R}{v:V}(rd:ay K m H d v):∀{fs:A0 (Str×R)} {es:A0 (Str×V)},FR K m H fs es->FR K m H (oH f d fs) (kH f v es)
 |[],es,h=>by
  have:es=[]:=by simpa using h.1
  subst this;exact FR.cons.mpr {rfl,rd,rfl,rfl}
 |(a,x)::fs,[],h=>by have:=h.1;simp at this
 |(a,x)::fs,(b,y)::es,h=>by
  let⟨rfl,h1,h2⟩:=FR.cons.mp h;unfold oH kH;by_cases q:b=f
  ·rw[A8 q,A8 q];exact FR.cons.mpr {rfl,rd,h2}
  ·rw[AE q,AE q];exact FR.cons.mpr {rfl,h1,FR.put rd h2}
def FR.ext (x:fM m H m' H'){fs:A0 (Str×R)}{es:A0 (Str×V)}(h:FR K m H fs es):FR K m' H' fs es:={h.1,bU.ext x h.2}
def FR.len {fs:A0 (Str×R)}{es:A0 (Str×V)}(h:FR K m H fs es):es.length=fs.length:=by simpa using AQ List.length h.1
def uz {mg:Te}{c:Str}{C:A4}{U:ah}{x:R}{v:V}{fs:A0 (Str×R)}(N:lw K mg c C)(s:bz K m H U)(r:ay K m H x v)(e:sv c U x=some fs) :
  ∃n a dx es,x=.p n/\m[n]?=some a/\v=.ref a/\H a=some (.ins C dx es)/\FR K m H fs es:=by
 unfold sv at e;split at e
 ·rename_i n
  split at e
  ·rename_i c' gs q
   split at e
   ·rename_i hc
    cases e;subst hc;let⟨a,rfl,ha⟩:=r;let⟨C',dx,es,h1,h2,h3,h4⟩:=s.cell _ _ a q ha;rw[N.ns] at h1;cases h1;exact{n,a,dx,es,rfl,ha,rfl,h2,h3,h4}
   ·cases e
  ·cases e
 ·cases e
end
noncomputable def oo (c f:Str)(fo:FE):FE:=λO U=>(fo O U).bind λo=>(sv c o.2 o.1).bind λfs=>(fs.lookup f).bind λd=>some (d,o.2)
noncomputable def r6 (c f:Str)(fo fv:FE):FS:=λO U=>(fv O U).bind λv=>(fo O v.2).bind λo=>(sv c o.2 o.1).bind λfs=>if fs.length<1000 then (match o.1 with|.p n=>some (.nx O (o.2.set n (.ob c (oH f v.1 fs))))|_=>none) else none
noncomputable def bT (c nm:Str)(f:MW)(n:Nat)(fo:FE)(fa:FA):FE:=λO U=>(fo O U).bind λo=>(sv c o.2 o.1).bind λfs=>if (fs.lookup nm).isNone=true then (fa O o.2).bind λa=>if a.1.length+1=n then f (o.1::a.1) a.2 else none else none
section
variable {K:AJ}{Y:L2.St}{H:Hp}{Q:VK}{mg:Te}{c:Str}{C:A4}
def JB1 {f:MW}{n:Nat}{fa}{E:XK}(h:aN K (gK f n fa) Y H Q):zq (M3 K n f) [] E (js K fa) Y H Q:=by
 let⟨O,U,m,d,U',hl,hs,e,k⟩:=h;let⟨⟨xs,U1⟩,e1,e⟩:=AO.mp e;split at e
 ·rename_i hn;refine{O,U,m,xs,U1,hl,hs,e1,λvs H1 m1 x1 s1 r1=>?_};exact{U1,m1,xs,d,U',hn,s1,by rw[Dr];exact r1,e,λv H' m' x2 s2 r2=>k v H' m' (x1.trans x2) s2 r2}
 ·cases e
def KJ {f:Str}{fo}(N:lw K mg c C)(hf:g6 K C f)(h:aN K (oo c f fo) Y H Q):NV K (aN K fo) f Y H Q:=by
 let⟨O,U,m,d,U',hl,hs,e,k⟩:=h;let⟨⟨o,U1⟩,e1,e⟩:=AO.mp e;let⟨fs,e2,e⟩:=AO.mp e;let⟨d',e3,e⟩:=AO.mp e;cases e;refine{O,U,m,o,U1,hl,hs,e1,λv H1 m1 x1 s1 r1=>?_};let⟨n,a,dx,es,rfl,ha,rfl,ea,fr⟩:=uz N s1 r1 e2;rcases fr.look f with⟨z,_⟩|⟨d0,v0,z1,z2,z3⟩
 ·rw[z] at e3;cases e3
 ·rw[z1] at e3;cases e3;exact{a,C,dx,es,v0,rfl,ea,N.cl,hf,z2,k _ H1 m1 x1 s1 z3}
def Fv {f:Str}{fo fv}{D:jp}(N:lw K mg c C)(hf:g6 K C f)(h:gL K (r6 c f fo fv) D Y H):N6 K (aN K fo) (aN K fv) f D Y H:=by
 let⟨O,U,m,o,hl,hs,e,k⟩:=h;let⟨⟨v,U1⟩,e1,e⟩:=AO.mp e;let⟨⟨ob,U2⟩,e2,e⟩:=AO.mp e;let⟨fs,e3,e⟩:=AO.mp e;split at e
 ·rename_i BS;refine{O,U,m,v,U1,hl,hs,e1,λy H1 m1 x1 s1 r1=>?_};refine{O,U1,m1,ob,U2,hl.ext x1,s1,e2,λvo H2 m2 x2 s2 r2=>?_};let⟨n,a,dx,es,rfl,ha,rfl,ea,fr⟩:=uz N s2 r2 e3;dsimp only at e;cases e;have x:fM m2 H2 m2 (upd H2 a (.ins C dx (kH f y es))):=.put (DE ha) ea ∅ ∅;refine{a,C,dx,es,rfl,ea,N.cl,hf,by rw[fr.len];exact BS,?_};have x3:=(x1.trans x2).trans x;have fr2:=(FR.put (f:=f) (r1.ext x2) fr).ext x;exact k _ _ m2 x3 (s2.put ha ea ∅ ∅ {C,dx,_,N.ns,eS,fr2.1,fr2.2}) (hl.ext x3)
 ·cases e
def Fx {nm:Str}{f:MW}{n:Nat}{fo fa}{E:XK}(N:lw K mg c C)(h:aN K (bT c nm f n fo fa) Y H Q):IB C nm (M3 K n f) [] E (aN K fo) (js K fa) Y H Q:=by
 let⟨O,U,m,d,U',hl,hs,e,k⟩:=h;let⟨⟨o,U1⟩,e1,e⟩:=AO.mp e;let⟨fs,e2,e⟩:=AO.mp e;split at e
 ·rename_i FY;let⟨⟨xs,U2⟩,e3,e⟩:=AO.mp e;split at e
  ·rename_i hn;refine{O,U,m,o,U1,hl,hs,e1,λv H1 m1 x1 s1 r1=>?_};let⟨i,a,dx,es,rfl,ha,rfl,ea,fr⟩:=uz N s1 r1 e2;have E6:es.lookup nm=none:=by
    rcases fr.look nm with⟨_,z⟩|⟨d0,v0,z1,z2,z3⟩
    ·exact z
    ·rw[z1] at FY;cases FY
   refine{a,dx,es,rfl,ea,E6,?_};refine{O,U1,m1,xs,U2,hl.ext x1,s1,e3,λvs H2 m2 x2 s2 r2=>?_};exact{U2,m2,.p i::xs,d,U',by simpa using hn,s2,{_,_,rfl,r1.ext x2,by rw[Dr];exact r2},e,λv H' m' x3 s3 r3=>k v H' m' ((x1.trans x2).trans x3) s3 r3}
  ·cases e
 ·cases e
end
def JB3 {f:FE}{H:Hp}{Q Q':VK}(h:aN K f Y H Q)(k:∀v H',Q v H'->Q' v H'):aN K f Y H Q' :=
 let ⟨O,U,m,d,U',hl,hs,e,q⟩:=h
 {O,U,m,d,U',hl,hs,e,λv H' m' x s r=>k v H' (q v H' m' x s r)}
open HS
noncomputable def qA (c:Str)(f:MW)(n:Nat)(fa:FA):FE:=λO U=>(fa O U).bind λa=>if a.1.length+1=n then (f (.p a.2.length::a.1) (a.2++[.ob c []])).bind λr=>match r.1 with|.v .non=>some (.p a.2.length,r.2)|_=>none else none
def JBz {mg:Te}{c:Str}{C:A4}{H:Hp}{Q:VK}{f:MW}{n:Nat}{fa:FA}{E:XK}(N:lw K mg c C)(h:aN K (qA c f n fa) Y H Q):IC C (M3 K n f) [] E (js K fa) Y H Q:=by
 let⟨O,U,m,d,U',hl,hs,e,k⟩:=h;let⟨⟨xs,U0⟩,e0,e⟩:=AO.mp e;dsimp only at e;split at e
 ·rename_i hn;let⟨⟨r,U1⟩,e1,e⟩:=AO.mp e;dsimp only at e;split at e
  ·cases e;refine{O,U,m,xs,U0,hl,hs,e0,λvs H1 m1 x1 s1 r1=>?_};intro x dx hx hdx CZ;have y1:fM m1 H1 m1 (upd H1 dx (.own x)):=.new hdx;have t1:=s1.same (eg hdx (o:=HO.own x));have hx1:upd H1 dx (.own x) x=none:=(by unfold upd;rw[AE (Ne.symm CZ)];exact hx);have y2:fM m1 (upd H1 dx (.own x)) (m1++[x]) (upd (upd H1 dx (.own x)) x (.ins C dx [])):=.newH hx1;have s2:=t1.newH (c:=.ob c []) hx1 {C,dx,[],N.ns,eS,rfl,rfl};have hp:(m1++[x])[U0.length]?=some x:=(by rw[←s1.len];simp);refine{_,_,.p U0.length::xs,_,_,by simpa using hn,s2,{_,_,rfl,{x,rfl,hp},by rw[Dr];exact r1.ext (y1.trans y2)},e1,λv H' m' x3 s3 r3=>?_};refine{by simpa only[ay,au] using r3,k _ H' m' ((x1.trans (y1.trans y2)).trans x3) s3 ?_};exact ay.ext x3 (show ay K (m1++[x]) _ (.p U0.length) (.ref x) from{x,rfl,hp})
  ·cases e
 ·cases e
end HW
namespace HW
variable {K:AJ}
open PyProof.Rows L2
noncomputable def qm:R->R->ah->UO (R×ah)
 |.v (.str x),.v (.int n),U=>if 0<=n/\n<1000/\x.length<1000 then some (.v (.str (Txt.mul x n)),U) else none
 |_,_,_=>none
def IS:R2:=λv u H Q=>∃x n,v=.str x/\u=.int n/\MulOk x n/\Q (.str (Txt.mul x n)) H
def Gm:l8 X (binaryOp .Mult) IS:=by intro A1 s Y H x y v u Q I rx ry q;let⟨z,n,rfl,rfl,hn,q⟩:=q;let⟨t,rfl⟩:=rx;let⟨t',rfl⟩:=ry;exact SB.mul hn λt2 k=>{.str (Txt.mul z n),H,I.tok k,{t2,rfl},q}
def LO {x:Str}{n:Int}(h:0<=n/\n<1000/\x.length<1000):MulOk x n:=by
 have hp:x.length*n.toNat<=1000*1000:=zbK ∅ ∅;refine{by simp;omega,λh1 _ h2=>?_,λ_ _=>?_}
 ·have:(x.length:Int)<=(2 ^ 63-1) / n:=Int.le_ediv_of_mul_le ∅ (by
   have e:(x.length:Int)*n=((x.length*n.toNat:Nat):Int):=by rw[Int.natCast_mul,Int.toNat_of_nonneg h.1]
   rw[e];omega)
  omega
 ·unfold Builtin.Str.tooLong;have h4:(1000*1000:Nat)<=sizeLine:=by decide
  exact Bf ∅
def Mj :px K qm IS:=by
 intro m H U x y d U' v u Q s rx ry e k;unfold qm at e;split at e
 ·rename_i z n;have rx:v=.str z:=by simpa only[ay,au] using rx
  have ry:u=.int n:=by simpa only[ay,au] using ry
  split at e
  ·rename_i h
   cases e;exact{z,n,rx,ry,LO h,k _ H m .refl s (by rwa[ay,au])}
  ·cases e
 ·cases e
abbrev og:=A0 R->ah->UO (Str×ah)
noncomputable def jS (k:Nat)(x:XB):og:=λrs U=>x (rs.map some++List.replicate (k-rs.length) none) U
noncomputable def va (K:AJ)(n:Nat)(xf:og):Sp:=λvs H _ E=>∃U m rs c U',rs.length=n/\bz K m H U/\bU K m H rs vs/\xf rs U=some (c,U') /\
 ∀C H' m',eF K c C->fM m H m' H'->bz K m' H' U'->E (.ref C) none H'
def pz.okXW {P:A7}{w:AF}{K:AJ}{mg:Te}{base:AG}{x qual:Str}{st:AN}{f:A4}{fd:FuncData}{N ps:To}{k:Nat}{b:XB}(F:pz K x qual st f fd)(S:aK N ps (aj st))
  (AR:∀(AP:A6) (A:AI) (outer:A0 Env) (s:A2) (H:Hp) (E:XK),cr k (A.deeper (envOfC qual (aj st) s.heap.objs.size f AP))->PX (gR (sZ P w base) P w K mg base N qual (aj st) f AP A outer s H E) E (b4 st) b) :
  dF P w K mg base (sZ P w base) (k+1) f fd ps (va K ps.length (jS N.length b)):=by
 let⟨oc,od,kV,doc,pm,an,AP,ct,Dj,rfl,lk,Bp⟩:=F.ex;refine Ef lk Bp S (λvs H Q E ⟨U,m,rs,c,U',hn,hs,r,_⟩=>by rw[←r.length];exact hn) λA outer s H vs Q E hr hh=>?_;let⟨U,m,rs,c,U',hn,hs,r,e,k⟩:=hh;refine{λ_ Y H=>g7 K E b Y H,λA1 s' Y H' D I d=>BK (AR AP A outer s H E hr A1 s' Y H' I d) (λ_ _ z=>z.elim) λ_ _ z=>z,?_};exact{_,U,m,c,U',wA r,hs,e,k}
noncomputable def ik (xf:og)(n:Nat)(fa:FA):XB:=λO U=>(fa O U).bind λa=>if a.1.length=n then xf a.1 a.2 else none
noncomputable def dH (c nm:Str)(xf:og)(n:Nat)(fo:FE)(fa:FA):XB:=λO U=>(fo O U).bind λo=>(sv c o.2 o.1).bind λfs=>if (fs.lookup nm).isNone=true then (fa O o.2).bind λa=>if a.1.length+1=n then xf (o.1::a.1) a.2 else none else none
noncomputable def rG (c:Str)(xf:og)(n:Nat)(fa:FA):XB:=λO U=>(fa O U).bind λa=>if a.1.length+1=n then xf (.p a.2.length::a.1) (a.2++[.ob c []]) else none
noncomputable def oS (fa:FE)(x:XB):XB:=λO U=>(fa O U).bind λr=>x O r.2
def EO (X:Cx)(es:Tl)(x:XB):Prop:=∀(pos:Pos) A1 s Y H E,aS X A1 Y H s->g7 X.K E x Y H->wpAny (model X.prog X.w) X.A (spliced (backTo pos (starEach es X.env))) (λ_ _=>False) (E2 X A1 Y E) s
def g7.after {E:XK}{fa:FE}{x:XB}{H:Hp}(h:g7 K E (oS fa x) Y H):aN K fa Y H λ_ H1=>g7 K E x Y H1:=by let⟨O,U,m,c,U',hl,hs,e,k⟩:=h;let⟨⟨r,U1⟩,e1,e⟩:=AO.mp e;exact{O,U,m,r,U1,hl,hs,e1,λv H1 m1 x1 s1 _=>{O,U1,m1,c,U',hl.ext x1,s1,e,λC H' m' q y z=>k C H' m' q (x1.trans y) z}}
section
variable {X:Cx}{x:XB}
def JC3 {es:Tl}(h:rE X e x)(hs:starEach (e::es) X.env=(false,eval e X.env)::starEach es X.env):EO X (e::es) x:=by
 intro pos A1 s Y H E I d;rw[hs]
 show wpAny _ _ (spliced ((false,eval e X.env)::backTo pos (starEach es X.env))) _ _ s
 exact Calls.spliced_cons (BK (h A1 s Y H E I d) (λ_ _ z=>z.elim) λ_ _ z=>z)
def JC2 {es:Tl}{fa:FE}(h:∀xe,PE (X.wish xe) e (aN X.K fa))(h':EO X es x)(hs:starEach (e::es) X.env=(false,eval e X.env)::starEach es X.env):EO X (e::es) (oS fa x):=by
 intro pos A1 s Y H E I d;rw[hs]
 show wpAny _ _ (spliced ((false,eval e X.env)::backTo pos (starEach es X.env))) _ _ s
 refine Calls.spliced_cons (dk (h (E2 X A1 Y E) A1 s Y H _ (I.wish _) d.after) λu s1 hh=>?_);let⟨v,H1,I1,_,d1⟩:=hh;exact BK (h' pos A1 s1 Y H1 E I1.unwish d1) (λ_ _ z=>z.elim) λ_ _ z=>z
def JEh {es:Tl}{x1}(h:EO X es x):rE X (.Tuple es x1 pos) x:=λA1 s Y H E I d=>
 wpAny_Tuple_spliced (BK (h pos A1 s Y H E I d) (λ_ _ z=>z.elim) λ_ _ z=>z)
def JCz {a b:AD}{op:Operator}{fa:FE}(ha:∀xe,PE (X.wish xe) a (aN X.K fa))(hb:B0 X b x):B0 X (.BinOp a op b pos) (oS fa x):=by intro A1 s Y H E I d;refine wpAny_BinOp (dk (ha (HC X A1 Y E) A1 s Y H _ (I.wish _) d.after) λu s1 hh=>?_);let⟨v,H1,I1,_,d1⟩:=hh;exact BK (hb A1 s1 Y H1 E I1.unwish d1) (λ_ _ z=>z.elim) λ_ _ z=>z
def yj {y:Str}{T:String}{e:AD}{es:Tl}{p pos:Pos}(h:EO X (e::es) x)(hg:Gl X y)(hm:X.mg y=none)(hv:bootBuiltins y=some (.type T))(hn:y≠"__name__")(BB:(y == ("__debug__" : Str))=false)
  (he:starEach (e::es) X.env=(false,eval e X.env)::starEach es X.env) (hpl:(backTo pos (starEach es X.env)).any (·.1)=false):rE X (.Call (.Name y p) (e::es) [] pos) x:=by
 intro A1 s Y H E I d;refine EE (o8 I hg hm hv ?_ hn BB);exact PyProof.Rows.callWith_type1 (BK (h pos A1 s Y H E I d) (λ_ _ z=>z.elim) λ_ _ z=>z) he hpl
def JAb {y:Str}{f:A4}{e:AD}{es:Tl}{p pos:Pos}(h:EO X (e::es) x)(hg:Gl X y)(hm:X.mg y=some (.ref f))(kp:PySem.W.keepIn X.K (.ref f)=true)(BB:(y == ("__debug__" : Str))=false)
  (he:starEach (e::es) X.env=(false,eval e X.env)::starEach es X.env) (hpl:(backTo pos (starEach es X.env)).any (·.1)=false):rE X (.Call (.Name y p) (e::es) [] pos) x:=by
 intro A1 s Y H E I d;refine EE (jA I hg hm ?_ BB);exact zbj (h₀:=X.base) I.ok.mod.kin kp (BK (h pos A1 s Y H E I d) (λ_ _ z=>z.elim) λ_ _ z=>z) he hpl
theorem CV {k n:Nat}{f:A4}{fd:FuncData}{ps:To}{xf:og}{A1:Td}{Y:L2.St}{H:Hp}{s:A2}{E:XK}{us:Tf}{vs:A0 V}(F:dF X.prog X.w X.K X.mg X.base (sZ X.prog X.w X.base) k f fd ps (va X.K n xf))(hr:cr k X.A)(hb:fH X.K fd ps [])
  (I:aS X A1 Y H s) (r:bO vs us) (h:va X.K n xf vs H (λ_ _=>False) E):wpAny (model X.prog X.w) X.A (call (.ref f) us) (λ_ _=>False) (E2 X A1 Y E) s:=by
 have hl:us.length=ps.length:=by rw[←r.length];exact F.len _ _ _ _ h
 refine zcc (Eh (F.run X.A X.stack s H {us,[]} us vs (λ_ _=>False) E hr I.env0 ‹hb s us I.kIn (by simpa using hl)› r h) λr s' hq=>?_)
 cases r with
 |error e=>exact{H,s,I,hq}
 |ok fl=>
  cases fl with
  |ret u=>let⟨_,_,_,_,_,_,_,q⟩:=hq;exact q.elim
  |next=>exact False.elim hq
  |brk=>exact False.elim hq
  |cont=>exact False.elim hq
def JAy {k n:Nat}{y:Str}{f:A4}{fd:FuncData}{ps:To}{xf:og}{e:AD}{es:Tl}{ga:FA}{p pos:Pos}(F:dF X.prog X.w X.K X.mg X.base (sZ X.prog X.w X.base) k f fd ps (va X.K n xf))(hr:cr k X.A)(hb:fH X.K fd ps [])(hm:X.mg y=some (.ref f))(kp:PySem.W.keepIn X.K (.ref f)=true)
  (ha:∀xe,PA (X.wish xe) (e::es) (js X.K ga)) (hg:Gl X y) (BB:(y == ("__debug__" : Str))=false) (he:starEach (e::es) X.env=(false,eval e X.env)::starEach es X.env) (hpl:(backTo pos (starEach es X.env)).any (·.1)=false) :
  rE X (.Call (.Name y p) (e::es) [] pos) (ik xf n ga):=by
 intro A1 s Y H E I ⟨O,U,m,c,U',hl,hs,ee,k⟩;let⟨⟨xs,U1⟩,e1,ee⟩:=AO.mp ee;split at ee
 ·rename_i hn
  refine EE (jA I hg hm ?_ BB);have hd:js X.K ga Y H (λvs H1=>∃m1,fM m H m1 H1/\bz X.K m1 H1 U1/\bU X.K m1 H1 xs vs):={O,U,m,xs,U1,hl,hs,e1,λvs H1 m1 x1 s1 r1=>{m1,x1,s1,r1}};refine zbj (h₀:=X.base) I.ok.mod.kin kp (dk (ha (E2 X A1 Y E) pos A1 s Y H _ (I.wish _) hd) λus s1 ⟨vs,H1,I1,r,m1,x1,DN,r1⟩=>{I1.kIn,?_}) he hpl;exact BK (CV F hr hb I1.unwish r {U1,m1,xs,c,U',hn,DN,r1,ee,λC H' m' q y z=>k C H' m' q (x1.trans y) z}) (λ_ _ z=>z.elim) λ_ _ z=>z
 ·cases ee
def JAx {k n:Nat}{c nm:Str}{C f:A4}{fd:FuncData}{ps:To}{xf:og}{o:AD}{fo:FE}{apos pos:Pos}{pl:Sem A9}(N:lw X.K X.mg c C)(F:dF X.prog X.w X.K X.mg X.base (sZ X.prog X.w X.base) k f fd ps (va X.K n xf))(hr:cr k X.A)(hb:fH X.K fd ps [])(hm:BV X.K C nm f)
  (ho:∀xe,PE (X.wish xe) o (aN X.K fo))
  (ht:eval (.Call (.Attribute o nm apos) [] [] pos) X.env=(do
   let ov ←eval o X.env
   standAt apos.atName
   let (f,first) ←holding [ov] (getMethod ov nm pl)
   callWith pos f first (backTo pos (starEach [] X.env)) (backToKw pos (keywordEach [] X.env)))) :
  rE X (.Call (.Attribute o nm apos) [] [] pos) (dH c nm xf n fo ai):=by
 intro A1 s Y H E I ⟨O,U,m,ce,U',hl,hs,ee,k⟩;let⟨⟨ov,U1⟩,e1,ee⟩:=AO.mp ee;let⟨fs,e2,ee⟩:=AO.mp ee;split at ee
 ·rename_i FY
  let⟨⟨xs,U2⟩,e3,ee⟩:=AO.mp ee;cases e3;split at ee
  ·rename_i hn
   have hd:aN X.K fo Y H (λv H1=>∃m1,fM m H m1 H1/\bz X.K m1 H1 U1/\ay X.K m1 H1 ov v):={O,U,m,ov,U1,hl,hs,e1,λv H1 m1 x1 s1 r1=>{m1,x1,s1,r1}};refine PySem.W.methodCall_KW (pl:=pl) (dk (ho (E2 X A1 Y E) A1 s Y H _ (I.wish _) hd) λu s1 hh=>?_) ht;let⟨v,H1,I1,rx,m1,x1,DN,r1⟩:=hh;let⟨i,a,dx,es,rfl,ha,rfl,ea,fr⟩:=uz N DN r1 e2;obtain rfl:u=Value.ref a:=rx
   have E6:es.lookup nm=none:=by
    rcases fr.look nm with⟨_,z⟩|⟨d0,v0,z1,z2,z3⟩
    ·exact z
    ·rw[z1] at FY;cases FY
   have I2:aS X A1 Y H1 s1:=I1.unwish;refine sM I2 ea N.cl hm E6 ?_;exact PySem.W.callWith_K0 (first:=[.ref a]) I2.kIn hm.kp (BK (CV F hr hb I2 (us:=[.ref a]) (vs:=[.ref a]) (.cons rfl .nil) {U1,m1,[.p i],ce,U',by simpa using hn,DN,{_,_,rfl,r1,rfl},ee,λC H' m' q y z=>k C H' m' q (x1.trans y) z}) (λ_ _ z=>z.elim) λ_ _ z=>z)
  ·cases ee
 ·cases ee
def JC0 {k n:Nat}{c:Str}{C f:A4}{fd:FuncData}{ps:To}{xf:og}{e:AD}{es:Tl}{ga:FA}{p pos:Pos}(N:lw X.K X.mg c C)(M:Mk X.K C f)(F:dF X.prog X.w X.K X.mg X.base (sZ X.prog X.w X.base) k f fd ps (va X.K n xf))(hr:cr (k+1) X.A)(hb:fH X.K fd ps [])
  (ha:∀xe,PA (X.wish xe) (e::es) (js X.K ga)) (hg:Gl X c) (BB:(c == ("__debug__" : Str))=false) (he:starEach (e::es) X.env=(false,eval e X.env)::starEach es X.env) (hpl:(backTo pos (starEach es X.env)).any (·.1)=false) :
  rE X (.Call (.Name c p) (e::es) [] pos) (rG c xf n ga):=by
 intro A1 s Y H E I ⟨O,U,m,ce,U',hl,hs,ee,k⟩;let⟨⟨xs,U1⟩,e1,ee⟩:=AO.mp ee;split at ee
 ·rename_i hn
  refine EE (jA I hg N.mg ?_ BB);have hd:js X.K ga Y H (λvs H1=>∃m1,fM m H m1 H1/\bz X.K m1 H1 U1/\bU X.K m1 H1 xs vs):={O,U,m,xs,U1,hl,hs,e1,λvs H1 m1 x1 s1 r1=>{m1,x1,s1,r1}};refine zbj (h₀:=X.base) I.ok.mod.kin M.kp (dk (ha (E2 X A1 Y E) pos A1 s Y H _ (I.wish _) hd) λus s1 ⟨vs,H1,I1,r,m1,x1,DN,r1⟩=>{I1.kIn,?_}) he hpl;have I0:aS X A1 Y H1 s1:=I1.unwish;have hx:H1 (s1.heap.objs.size+1)=none:=I0.hok.fresh (zcq _);have hdx:H1 s1.heap.objs.size=none:=I0.hok.fresh (BH _);have CZ:s1.heap.objs.size≠s1.heap.objs.size+1:=Ba (F7 _);have I2:=aS.made (C:=C) I0;have y1:fM m1 H1 m1 (upd H1 s1.heap.objs.size (.own (s1.heap.objs.size+1))):=.new hdx;have t1:=DN.same (eg hdx (o:=HO.own (s1.heap.objs.size+1)))
  have hx1:upd H1 s1.heap.objs.size (.own (s1.heap.objs.size+1)) (s1.heap.objs.size+1)=none:=by unfold upd;rw[AE (Ne.symm CZ)];exact hx
  have y2:fM m1 (upd H1 s1.heap.objs.size (.own (s1.heap.objs.size+1))) (m1++[s1.heap.objs.size+1]) (upd (upd H1 s1.heap.objs.size (.own (s1.heap.objs.size+1))) (s1.heap.objs.size+1) (.ins C s1.heap.objs.size [])):=.newH hx1;have s2:=t1.newH (c:=.ob c []) hx1 {C,s1.heap.objs.size,[],N.ns,eS,rfl,rfl}
  have hp:(m1++[s1.heap.objs.size+1])[U1.length]?=some (s1.heap.objs.size+1):=by rw[←DN.len];simp
  have D6:va X.K n xf (.ref (s1.heap.objs.size+1)::vs) (upd (upd H1 s1.heap.objs.size (.own (s1.heap.objs.size+1))) (s1.heap.objs.size+1) (.ins C s1.heap.objs.size [])) (λ_ _=>False) E :=
   {_,_,.p U1.length::xs,ce,U',by simpa using hn,s2,{_,_,rfl,{_,rfl,hp},r1.ext (y1.trans y2)},ee,λC' H' m' q y z=>k C' H' m' q ((x1.trans (y1.trans y2)).trans y) z}
  have r2:bO (V.ref (s1.heap.objs.size+1)::vs) (Value.ref (s1.heap.objs.size+1)::us):=.cons rfl r
  have hl2:(Value.ref (s1.heap.objs.size+1)::us).length=ps.length:=by
   have e:=r2.length;rw[F.len _ _ _ _ D6] at e;exact e.symm
  refine zcc (wW (f:=f) I0.kIn M.makes M.init (beq_iff_eq.mp M.fn) (Eh (F.run _ X.stack _ _ {Value.ref (s1.heap.objs.size+1)::us,[]} (Value.ref (s1.heap.objs.size+1)::us) _ (λ_ _=>False) E (hr.make C us [])
   (I2.env0.make C us []) ‹hb _ (Value.ref (s1.heap.objs.size+1)::us) I2.kIn (by simpa using hl2)› r2 D6) λr s' E4=>?_))
  cases r with
  |error e=>exact{_,_,I2,E4}
  |ok fl=>
   cases fl with
   |ret u=>let⟨_,_,_,_,_,_,_,q⟩:=E4;exact q.elim
   |next=>exact False.elim E4
   |brk=>exact False.elim E4
   |cont=>exact False.elim E4
 ·cases ee
def G9 {E:XK}{e:A6}{s':A2}(h:E2 X A1 Y E e s'):HC X A1 Y E e s':=by let⟨H1,s1,I1,ea,C,G,H',rfl,os,bare,un,hok,fl,g1,g2,ff,fn,hE⟩:=h;exact{H1,s1,ea,C,.none,G,H',[],I1,(λ_ h=>nomatch h),rfl,os,bare,un,hok,fl,λb o q _=>g1 b o q,g2,ff,fn,hE}
def JAv {elt tg iter:AD}{ifs:Tl}{scope:Scope}{own caps:To}(n:aV X.env.scope scope own caps)(h:rE X iter x)(hs:∀x,foldedSetIterable iter X.env x=pure x:=by intro _;rfl):B0 X (.ListComp elt [{tg,iter,ifs,0}] scope pos) x:=by intro A1 s Y H E I d;let⟨cl,Bt,D7,Bm⟩:=lV (env:=X.env) (scope:=scope) λy hy hf=>I.ok.has y.1 (n.free y hy hf);rw[eval_ListComp];exact zbp (use:=none) rfl hs Bt n.kind n.loc (BK (h A1 s Y H E I d) (λ_ _ z=>z.elim) λ_ _ z=>G9 z)
def JEi {o e:AD}{f:Str}{pos pos':Pos}(he:rE X e x)(hs:swapsWith e (some (.Attribute o f pos')) pos.line X.env=pure false:=by rfl):MU X (.Assign [.Attribute o f pos'] e pos) x:=λA1 s Y H E I d=>
 plainObj_wpAny_Assign_Attribute (BK (he A1 s Y H E I d) (λ_ _ z=>z.elim) λ_ _ z=>z) hs
def rF {E:XK}{y:XB}{H:Hp}(d:g7 K E (nN x y) Y H):g7 K E x Y H\/g7 K E y Y H:=by
 let⟨O,U,m,c,U',hl,hs,e,k⟩:=d;unfold nN at e;split at e
 ·rename_i r q
  cases e;exact .inl {O,U,m,c,U',hl,hs,q,k}
 ·exact .inr {O,U,m,c,U',hl,hs,e,k}
def K2 {y:XB}(h:rE X e x)(h':rE X e y):rE X e (nN x y):=λA1 s Y H E I d=>(rF d).elim (h A1 s Y H E I) (h' A1 s Y H E I)
def K1 {y:XB}(h:B0 X e x)(h':B0 X e y):B0 X e (nN x y):=λA1 s Y H E I d=>(rF d).elim (h A1 s Y H E I) (h' A1 s Y H E I)
def K3 {y:XB}{es:Tl}(h:EO X es x)(h':EO X es y):EO X es (nN x y):=λpos A1 s Y H E I d=>(rF d).elim (h pos A1 s Y H E I) (h' pos A1 s Y H E I)
end
def JEo (j:Int):mO 0 j 1=j.toNat:=by unfold mO Builtin.Range.rangeSize;simp;omega
def Jv (ta:TA):TI:=λY H R=>ta Y H λvs H1=>∃j:Int,vs=[.int j]/\R (ES 0 1 (mO 0 j 1)) H1
theorem JAf {X:Cx}{tg:AD}{a:AD}{ta:TA}{p pos:Pos}(hg:Gl X "range")(hm:X.mg "range" = none)(ha:PA X [a] ta)(hs:starEach [a] X.env=[(false,eval a X.env)]:=by rfl):PI X tg (.Call (.Name "range" p) [a] [] pos) (Jv ta):=by
 intro A1 s Y H R I h;refine Call_ (o8 I hg hm boot_range (PyProof.Rows.callWith_type1 (dk (ha pos A1 s Y H _ I h) λus s1 hh=>?_) hs rfl));let⟨vs,H1,I1,r1,q1⟩:=hh;let⟨j,e,q⟩:=q1;subst e
 cases r1 with
 |cons r rr=>
  cases rr;let⟨t,rfl⟩:=r;exact call_range_1 (Fk I1 q)
noncomputable def qR (f:FE):FI:=λO U=>(f O U).bind λa=>match a.1 with|.v (.int j)=>some ((List.range j.toNat).map λi=>.int (i:Nat),a.2)|_=>none
def JD6 {K:AJ}{H:Hp}{R:It->Hp->Prop}{f}(h:wa K (qR f) Y H R):Jv (js K (ac f ai)) Y H R:=by
 let⟨O,U,m,xs,U',hl,hs,e,k⟩:=h;let⟨⟨x,U1⟩,e1,e⟩:=AO.mp e;refine{O,U,m,[x],U1,hl,hs,by simp[ac,ai,e1],λvs H1 m1 x1 s1 r1=>?_};split at e
 ·rename_i j q
  cases e;simp only at q;subst q;let⟨v,r,rfl,r1,r4⟩:=r1;have r4:r=[]:=r4;rwa[ay,au] at r1;subst r1 r4;refine{j,rfl,k _ (λ_=>True) H1 m1 x1 s1 ?_ trivial};have:=GN (K:=K) 0 1 (mO 0 j 1);rw[JEo] at this ⊢;simpa using this
 ·cases e
noncomputable def jq (ix:A0 Nat)(k:Nat)(i:FI)(g:FG)(c:FT)(f:FE)(xb:XB):XB:=λO U=>(i O U).bind λa=>j3 g c f xb (a.1.take sizeLine) (fU k ix O) a.2
def JAu {H:Hp}{E:XK}{ix:A0 Nat}{k:Nat}{own:To}{fi:FI}{g:FG}{c:FT}{f:FE}{xb:XB}(hk:own.length=k)(h:g7 K E (jq ix k fi g c f xb) Y H):CC K E ix own (wa K fi) (wb K g) (iP K c) (aN K f) xb Y H:=by
 let⟨O,U,m,cs,U',hl,hs,e,kk⟩:=h;let⟨⟨xs,U1⟩,e1,e⟩:=AO.mp e;have hz:(xs.take sizeLine).length<=sizeLine:=by rw[zbf];exact Nat.min_le_left _ _
 ·refine{O,U,m,xs,U1,hl,hs,e1,λJ P H1 m1 x1 s1 ok p1=>?_};generalize hys:xs.take sizeLine=ys at e hz;have tk:∀(i:Nat) (h:i<ys.length),xs[i]?=some ys[i]:=λi h=>by subst hys;rw[←EF h];rw[zbf] at h;rw[List.getElem?_take_of_lt ∅]
  refine{λi n yl τ H=>n=ys.length-i/\i<=ys.length/\yl.length<=i/\P H/\∃O U m,eI K m H O τ/\bz K m H U/\j3 g c f xb (ys.drop i) O U=some (cs,U') /\
   ∀C H' m',eF K cs C->fM m H m' H'->bz K m' H' U'->E (.ref C) none H',
   {_,rfl,E8 _,BH _,p1,_,U1,m1,uS hk (hl.ext x1),s1,by simpa using e,λC H' m' q x2 s2=>kk C H' m' q (x1.trans x2) s2},?_}
  rintro i n yl τ H ⟨rfl,hi,hy,p,O,U,m,hl,hs,e,kk⟩;by_cases BS:i<ys.length
  ·have hx:xs[i]?=some ys[i]:=tk i BS;rw[za9 BS,j3] at e;let⟨⟨O1,U2⟩,q1,e⟩:=AO.mp e;let⟨⟨b,U3⟩,q2,e⟩:=AO.mp e;refine{ok.go i _ H hx p,Nat.lt_of_le_of_lt hy (Be BS hz),λx H' y=>?_};let⟨rfl,rx⟩:=ok.yld i _ H x H' hx p y;refine{O,U,m,.v ys[i],O1,U2,hl,hs,rx,q1,λY1 H1 m1 x1 s1 l1=>?_};refine{O1,U2,m1,b,U3,l1,s1,q2,λH2 m2 x2 s2=>?_}
   cases b with
   |true=>
    rwa[if_true] at e ⊢;split at e
    ·rename_i r qr
     cases e;exact .inl {O1,U3,m2,cs,U',l1.ext x2,s2,qr,λC H' m' q x5 s5=>kk C H' m' q ((x1.trans x2).trans x5) s5}
    ·refine .inr ?_;let⟨⟨y',U4⟩,q3,e⟩:=AO.mp e;refine{O1,U3,m2,y',U4,l1.ext x2,s2,q3,λw H3 m3 x3 s3 r3=>?_}
     cases y' with
     |p _=>cases e
     |s _ _=>cases e
     |x _=>cases e
     |f _ _=>cases e
     |v d1=>
      have x4:=(x1.trans x2).trans x3;exact{_,(by omega:ys.length-(i+1)<ys.length-i),rfl,BS,by rw[Bx];exact Nat.succ_le_succ hy,ok.st _ _ x4.tf p,O1,U4,m3,l1.ext (x2.trans x3),s3,e,λC H' m' q x5 s5=>kk C H' m' q (x4.trans x5) s5}
   |false=>
    rwa[DY,if_false] at e ⊢;have x4:=x1.trans x2;exact{_,(by omega:ys.length-(i+1)<ys.length-i),rfl,BS,Nat.le_succ_of_le hy,ok.st _ _ x4.tf p,O1,U3,m2,l1.ext x2,s2,e,λC H' m' q x5 s5=>kk C H' m' q (x4.trans x5) s5}
  ·have:i=ys.length:=by omega
   subst this;rw[zch,j3] at e;cases e
def l9 (P:A7)(w:AF)(K:AJ)(mg:Te)(base:AG)(k:Nat)(x:Str)(ps:To)(xf:og):Prop :=
 ∃f fd,dF P w K mg base (sZ P w base) k f fd ps (va K ps.length xf)/\PySem.W.keepIn K (.ref f)=true/\fH K fd ps []/\mg x=some (.ref f)
def b6 (P:A7)(w:AF)(K:AJ)(mg:Te)(base:AG)(k:Nat)(nm:Str)(C:A4)(ps:To)(xf:og):Prop :=
 ∃f fd,dF P w K mg base (sZ P w base) k f fd ps (va K ps.length xf)/\fH K fd ps []/\BV K C nm f
open HK
structure Tw (H H':Hp):Prop where
 tup:∀a xs,H a=some (.tup xs)->H' a=some (.tup xs)
 frz:∀a o u,(∀o' u',u≠.frz o' u')->H a=some (.frz o u)->H' a=some (.frz o u)
end HW
namespace L2
open PyProof.Rows HK HW
end L2
namespace HW
open PyProof.Rows L2
section
variable {K:AJ}{Y:L2.St}{H:Hp}{Q:VK}
def JB0 {ix:A0 Nat}{k:Nat}{own:To}{fi:FI}{g:FG}{c:FT}{f:FE}(hk:own.length=k)(h:aN K (hZ ix k fi g c f) Y H Q):zp ix own (Og K fi) (wb K g) (iP K c) (aN K f) Y H Q:=by
 let⟨O,U,m,d,U',hl,hs,e,kk⟩:=h;let⟨⟨xs,U1⟩,e1,e⟩:=AO.mp e;split at e
 ·rename_i hz;let⟨⟨r,Ur⟩,e2,e⟩:=AO.mp e;cases e;refine{O,U,m,xs,U1,hl,hs,e1,λJ P H1 m1 x1 s1 ok p1=>?_};refine{λi n ys τ H=>n=xs.length-i/\i<=xs.length/\ys.length<=i/\P H/\∃O U m ds r',eI K m H O τ/\bz K m H U/\RelDs K H ds ys/\ic g c f (xs.drop i) O U=some (r',Ur)/\r=ds++r' /\
   ∀v H' m',fM m H m' H'->bz K m' H' (Ur++[.lst r])->ay K m' H' (.p Ur.length) v->Q v H',
   {_,rfl,E8 _,BH _,p1,_,U1,m1,[],r,uS hk (hl.ext x1),s1,by rwa[RelDs],by simpa using e2,rfl,λv H' m' x2 s2 r2=>kk v H' m' (x1.trans x2) s2 r2},?_}
  rintro i n ys τ H ⟨rfl,hi,hy,p,O,U,m,ds,r',hl,hs,rs,e,er,kk⟩;by_cases BS:i<xs.length
  ·have hx:xs[i]?=some xs[i]:=EF BS;rw[za9 BS,ic] at e;let⟨⟨O1,U2⟩,q1,e⟩:=AO.mp e;let⟨⟨b,U3⟩,q2,e⟩:=AO.mp e;refine .inr {ok.go i _ H hx p,Nat.lt_of_le_of_lt hy (Be BS hz),λx H' y=>?_};let⟨xe,rx⟩:=ok.yld i _ H x H' hx p y;have x0:fM m H m H':=xu xe;refine{O,U,m,.v xs[i],O1,U2,eI.ext x0 hl,hs.same xe,rx,q1,λY1 H1 m1 x1 s1 l1=>?_};have x1:=x0.trans x1;refine{O1,U2,m1,b,U3,l1,s1,q2,λH2 m2 x2 s2=>?_}
   cases b with
   |true=>
    rwa[if_true] at e ⊢;let⟨⟨y',U4⟩,q3,e⟩:=AO.mp e;refine{O1,U3,m2,y',U4,l1.ext x2,s2,q3,λw H3 m3 x3 s3 r3=>?_}
    cases y' with
    |p _=>cases e
    |s _ _=>cases e
    |x _=>cases e
    |f _ _=>cases e
    |v d1=>
     let⟨⟨r1,U5⟩,q4,e⟩:=AO.mp e;cases e;have x4:=(x1.trans x2).trans x3;refine{_,(by omega:xs.length-(i+1)<xs.length-i),rfl,BS,by rw[Bx];exact Nat.succ_le_succ hy,ok.st _ _ x4.tf p,O1,U4,m3,ds++[d1],r1,l1.ext (x2.trans x3),s3,
      (RelDs.tf x4.tf _ _ rs).append (by rwa[RelDs];exact{w,[],rfl,r3,rfl}),q4,by rw[er,F1];rfl,λv H' m' x5 s5 r5=>kk v H' m' (x4.trans x5) s5 r5}
   |false=>
    rwa[DY,if_false] at e ⊢;have x4:=x1.trans x2;exact{_,(by omega:xs.length-(i+1)<xs.length-i),rfl,BS,Nat.le_succ_of_le hy,ok.st _ _ x4.tf p,O1,U3,m2,ds,r',l1.ext x2,s2,RelDs.tf x4.tf _ _ rs,e,er,λv H' m' x5 s5 r5=>kk v H' m' (x4.trans x5) s5 r5}
  ·have:i=xs.length:=by omega
   subst this;rw[zch,ic] at e;cases e;refine .inl {ok.stop _ H p (BH _),λp hp=>?_};let⟨a1,a2,a3⟩:=nX hs rs hp;rw[Dr] at er;subst er;exact kk _ _ _ a1 a2 a3
 ·cases e
def zD {ix:A0 Nat}{k:Nat}{own:To}{fi:FI}{g:FG}{c:FT}{f:FE}(hk:own.length=k)(h:aN K (hZ ix k fi g c f) Y H Q):zp ix own (wa K fi) (wb K g) (iP K c) (aN K f) Y H Q :=
 let ⟨O,U,m,xs,U',hl,hs,e,k⟩:=JB0 hk h
 {O,U,m,xs,U',hl,hs,e,λJ P H' m' x s ok p=>k J P H' m' x s {ok.st,ok.stop,ok.go,λi d H x H' e p y=>by let⟨rfl,r⟩:=ok.yld i d H x H' e p y;exact{λ_ _ z=>z,r}} p}
end
end HW
namespace L2
open PyProof.Rows
end L2
namespace HW
open PyProof.Rows L2
end HW
namespace L2
open PyProof.Rows HK
end L2
namespace HW
open PyProof.Rows L2
example (w:AF) (x:Str):hashStr w x=PyData.keyHash w.params x:=rfl
inductive BY (K:AJ) (w:World):List (Str×D)->List DictEntry->List V->Prop
 |nil:BY K w [] [] []
 |cons {x:Str} {d:D} {t:Tok} {u:Value} {v:V} {l es vs}:BX K d v u->BY K w l es vs->BY K w ((x,d)::l) ({hashStr w x,.str x t,u}::es) (v::vs)
def AB (K:AJ)(w:AF)(mg:Te)(x:Str)(l:A0 (Str×D)):Prop :=
 ∃a ep es vs,mg x=some (.ref a)/\K.lookup a=some {.type "dict",none,.dict (List.toArray es) ep,#[]}/\(a == sysModules)=false/\(l.map (·.1)).Nodup/\BY K w l es vs
noncomputable def vO (l:A0 (Str×D))(x:Str):D:=match l.find? λp=>decide (p.1=x) with|some p=>p.2|none=>.non
section
variable {X:Cx}{K:AJ}{w:AF}{l:A0 (Str×D)}{es:A0 DictEntry}{vs:A0 V}
theorem BY.keys (h:BY K w l es vs):KeysOf (df P w) es.toArray/\∃kvs:A0 (cQ×A6),Pairs (df P w) es kvs/\kvs.map (·.1)=l.map (λp=>.inr (some p.1))/\∀x,∃v,bQ v ((valueAt kvs (.inr (some x))).getD .none)/\∀H,au K H (vO l x) v:=by
 induction h with
 |nil=>exact{λe he=>by simp at he,[],.nil,rfl,λx=>{.non,rfl,λH=>by rwa[vO,List.find?_nil,au]}}
 | @cons x d t u v l es vs hr _ ih=>
  let⟨k1,kvs,p,hm,hv⟩:=ih;refine{λe he=>?_,(.inr (some x),u)::kvs,.cons (qP (k:=.inr (some x)) (show bQ (.str x) (.str x t) from{t,rfl})) rfl p,by rw[BA,BA,hm],λy=>?_}
  ·rcases BJ.mp ‹he› with rfl|he
   ·exact{.inr (some x),qP (k:=.inr (some x)) (show bQ (.str x) (.str x t) from{t,rfl}),rfl}
   ·exact k1 e ‹he›
  ·by_cases hxy:x=y
   ·subst hxy;refine{v,?_,λH=>?_}
    ·rw[valueAt,List.find?_cons_of_pos ∅];exact hr.1
    ·rw[vO,List.find?_cons_of_pos ∅];exact hr.2 H
   ·let⟨v',h1,h2⟩:=hv y;refine{v',?_,λH=>?_}
    ·rw[valueAt,List.find?_cons_of_neg ‹hxy›];exact h1
    ·rw[vO,List.find?_cons_of_neg ‹hxy›];exact h2 H
def IG (K:AJ)(l:A0 (Str×D))(ty:TE):TE:=λY H Q=>ty Y H λy H1=>∃x,y=.str x/\∀v,(∀H,au K H (vO l x) v)->Q v H1
def Gh {x:Str}{p apos AX:Pos}{ty:TE}(h:AB X.K X.w X.mg x l)(hg:Gl X x)(hd:(x == ("__debug__" : Str))=false)(he:PE X e ty)(m:M1 X (.Name x p) "get" apos e AX):PE X (.Call (.Attribute (.Name x p) "get" apos) [e] [] AX) (IG X.K l ty):=by
 intro A1 s Y H Q I q;let⟨a,ep,es,vs,hm,hk,hs,nd,ce⟩:=h;let⟨k1,kvs,pr,km,hv⟩:=ce.keys (P:=X.prog);have dd:∀{s':A2} {H':Hp} {Y':L2.St} {CR:Td},aS X CR Y' H' s'->s'.heap.DictOf (df X.prog X.w) a kvs:=λ{s' H' Y' CR} I'=>by
  refine{_,es.toArray,ep,I'.kIn a _ hk,{rfl,rfl,rfl},rfl,k1,by simpa using pr,?_};rw[km];have:(l.map λp=>(Sum.inr (some p.1):cQ))=(l.map (·.1)).map λx=>.inr (some x):=by rw[E9];rfl
  rw[this];exact List.Pairwise.map _ (λa b h e=>h ‹e›) nd
 refine wpAny_Call_method m.base m.few m.line PySem.F.plainAttrs_dict PySem.F.slot_dict_get PySem.F.type_dict_get (dk (vj (v:=.ref a) hg hm rfl hd A1 s Y H (λv H'=>v=.ref a/\ty Y H' λy H1=>∃x,y=.str x/\∀v,(∀H,au X.K H (vO l x) v)->Q v H1) I {rfl,q}) λu s1 hh=>?_);let⟨x1,H1,I1,rx,ex,q1⟩:=hh;subst ex;obtain rfl:u=Value.ref a:=rx;have d1:=dd I1;refine{d1.typeIs,λb e=>by cases e;exact{_,I1.kIn a _ hk,rfl},?_};rw[m.trees];refine Calls.callWith_builtin rfl (Calls.evalArgs_plain (Calls.spliced_cons (dk (he A1 s1 Y H1 _ I1 q1) λiv s2 hh=>?_)));let⟨y,H2,I2,ry,x,ey,q2⟩:=hh;subst ey;refine Calls.spliced_nil ?_;have d2:=dd I2;let⟨v,r1,r2⟩:=hv x;refine call_meetsIn PySem.F.slot_dict_get d2.typeIs PySem.F.entry_dict_get (PySem.F.args_dict_get_2 _ _) (meets_dict_get (df X.prog X.w) a (qP (k:=.inr (some x)) ry) hs) {_,d2.mapOf,{v,H2,I2.tok _,r1,q2 v r2}}
noncomputable def Em (l:A0 (Str×D))(fk:FE):FE:=λO U=>(fk O U).bind λk=>match k.1 with|.v (.str x)=>some (.v (vO l x),k.2)|_=>none
theorem JEc {H:Hp}{Q:VK}{fk}(h:aN K (Em l fk) Y H Q):IG K l (aN K fk) Y H Q:=by
 let⟨O,U,m,d,U',hl,hs,e,k⟩:=h;let⟨⟨x,U1⟩,e1,e⟩:=AO.mp e;refine{O,U,m,x,U1,hl,hs,e1,λv H1 m1 x1 s1 r1=>?_}
 cases x with
 |v d=>
  cases d with
  |str x=>
   cases e;exact{x,by simpa only[ay,au] using r1,λv hv=>k v H1 m1 x1 s1 (hv H1)}
  |_=>cases e
 |_=>cases e
end
end HW
namespace L2
open PyProof.Rows HW
end L2
namespace HW
variable {K:AJ}
open PyProof.Rows L2
noncomputable def nq:R->A0 R->ah->UO (R×ah)
 |.p n,[],U=>match U[n]? with
  |some (.lst xs)=>(xs[xs.length-1]?).bind λd=>some (.v d,U.set n (.lst xs.dropLast))
  |_=>none
 |_,_,_=>none
def Mf :Rq K nq Om:=by
 intro m H U x xs d U' v vs Q s rx rs e k;unfold nq at e;split at e
 ·rename_i n;split at e
  ·rename_i ys q;let⟨d1,e1,e⟩:=AO.mp e;cases e;let⟨a,rfl,ha⟩:=rx;have rs:vs=[]:=rs;subst rs;let⟨ws,ea,ra⟩:=s.cell _ _ a q ha;have hl:=ra.length;let⟨y,hy,ry⟩:=ra.get e1;have x:fM m H m (upd H a (.lst ws.dropLast)):=.put (DE ha) ea ∅ ∅;rw[hl] at hy;have dl:RelDs K H ys.dropLast ws.dropLast:=by rw[←zb3,←zb3,←hl];exact RelDs.erase _ ra
   exact{a,ws,y,rfl,rfl,ea,hy,k _ _ m x (s.put ha ea ∅ ∅ {_,eS,RelDs.tf x.tf _ _ dl}) (au.tf x.tf _ _ ry)}
  ·cases e
 ·cases e
noncomputable def wD (c f:Str)(fo:FE)(j:Int):FS:=λO U=>(fo O U).bind λo=>(sv c o.2 o.1).bind λfs=>match fs.lookup f with
 |some (.v (.int i))=>if fs.length<1000 then (match o.1 with|.p n=>some (.nx O (o.2.set n (.ob c (oH f (.v (.int (i+j))) fs))))|_=>none) else none
 |_=>none
def JEe {H:Hp}{mg:Te}{c:Str}{C:A4}{f:Str}{fo:FE}{j:Int}{D:jp}(N:lw K mg c C)(hf:g6 K C f)(h:gL K (wD c f fo j) D Y H) :
  zC K (aN K fo) (aN K (fK (.int j))) Ow f D Y H:=by
 let⟨O,U,m,o,hl,hs,e,k⟩:=h;let⟨⟨ob,U1⟩,e1,e⟩:=AO.mp e;let⟨fs,e2,e⟩:=AO.mp e;split at e
 ·rename_i i hi
  split at e
  ·rename_i BS
   refine{O,U,m,ob,U1,hl,hs,e1,λvo H1 m1 x1 s1 r1=>?_};let⟨n,a,dx,es,rfl,ha,rfl,ea,fr⟩:=uz N s1 r1 e2;dsimp only at e;cases e;rcases fr.look f with⟨z,_⟩|⟨d0,v0,z1,z2,z3⟩
   ·rw[z] at hi;cases hi
   ·rw[z1] at hi;cases hi
    rwa[ay,au] at z3;subst z3;refine{a,C,dx,es,_,rfl,ea,N.cl,hf,z2,O,U1,m1,_,_,hl.ext x1,s1,rfl,λy H2 m2 x2 s2 r2=>?_};rwa[ay,au] at r2;subst r2;let⟨n',a',Fs,Bz,hn,ha',hr,ea',fr'⟩:=uz N s2 (r1.ext x2) e2;cases hr;cases hn;refine{i,j,rfl,rfl,Fs,Bz,ea',by rw[fr'.len];exact BS,?_};have x:fM m2 H2 m2 (upd H2 a (.ins C Fs (kH f (.int (i+j)) Bz))):=.put (DE ha') ea' ∅ ∅;have x3:=(x1.trans x2).trans x;have fr2:=(FR.put (f:=f) (d:=.v (.int (i+j))) (v:=.int (i+j)) (by rwa[ay,au]) fr').ext x;exact k _ _ m2 x3 (s2.put ha' ea' ∅ ∅ {C,Fs,_,N.ns,eS,fr2.1,fr2.2}) (hl.ext x3)
  ·cases e
 ·cases e
abbrev oF (e:AD)(es:Tl)(X:Cx):Prop:=starEach (e::es) X.env=(false,eval e X.env)::starEach es X.env
noncomputable def yL:AD->A9
 |.Starred ..=>true
 |_=>false
def aH {es:Tl}{env:Env}(h:yL e=false):starEach (e::es) env=(false,eval e env)::starEach es env:=by cases e <;> first|rfl|(simp[yL] at h)
theorem bi {env:Env}{pos:Pos}:∀{es:Tl},es.any yL=false->(backTo pos (starEach es env)).any (·.1)=false
 |[],_=>rfl
 |e::es,h=>by rw[CP,zbX] at h;rw[aH h.1];have ih:=bi (env:=env) (pos:=pos) h.2;unfold backTo at ih ⊢;rw[BA,CP,ih];rfl
def om {prog:A7}{w:AF}{A:AI}{E:Tc}{s:A2}{t sl:A4}{items:Tk}{vl vu:A6}{lo hi:UO Int}{Q:Tc}(ht:IsTup s.heap t items)(hs:s.heap.IsSliceOf sl vl vu .none)(pl:IsPart vl lo)(pu:IsPart vu hi)
  (hw:HT.e7 items.size 0 lo=0/\HT.e7 items.size items.size hi=items.size)
  (h:Q (.ref t) s):wpAny (model prog w) A (getItem (.ref t) (.ref sl)) Q E s:=by
 obtain⟨os,FU,CL,hds⟩:=id hs;have hTs:s.TypeIs (.ref sl) "slice":={os,FU,CL};unfold getItem
 try with_reducible refine zbs ?_
 first|refine AY (BG ?_)|skip
 refine AY (wpAny_sequenceKey ht.typeIs ∅ ?_)
 refine AY (wpAny_callSpecial?_slot (name:=Str.ofString "__getitem__") ht.typeIs PyProof.Rows.slot_tuple_getitem
  (zcd PyProof.Rows.slot_tuple_getitem ht.typeIs entry_tuple_getitem ?_ (args_tuple_getitem _ _)))
 show wpAny _ _ (Builtin.Tuple.tupleItemsOf (.ref t) >>= _) _ _ s
 refine AY (tupleItemsOf_ ht ?_);refine AY (wpAny_typeOf hTs ?_);rw[A8 ∅];refine AY (HT.lf hs pl pu ?_)
 have hyes:((((HT.e7 items.size 0 lo:Nat):Int) == 0&&(1:Int) == 1&&(HT.e7 items.size items.size hi-HT.e7 items.size 0 lo) == items.size)=true):=by
  rw[hw.1,hw.2];simp
 show wpAny _ _ (if (((HT.e7 items.size 0 lo:Nat):Int) == 0&&(1:Int) == 1&&(HT.e7 items.size items.size hi-HT.e7 items.size 0 lo) == items.size)=true then _ else _) _ _ s
 rw[A8 hyes];refine AY (m:=Builtin.Tuple.tupleIsExact (.ref t)) (AY (wpAny_typeOf ht.typeIs (BG ?_)));rw[A8 ∅];refine AY (wpAny_rule ?_)
 first
  |exact BG {_,rfl,BG h}
  |exact AY (BG (BG {_,rfl,BG h}))
  |exact AY (BG {_,rfl,BG h})
noncomputable def lu (xs:A0 D)(lo hi:UO Int):A0 D:=(xs.drop (HT.e7 xs.length 0 lo)).take (HT.e7 xs.length xs.length hi-HT.e7 xs.length 0 lo)
def Ol (K:AJ):V->UO Int->UO Int->Hp->VK->Prop:=λx lo hi H Q=>Oj K x lo hi H Q\/Oh K x lo hi H Q \/
 ∃a xs,x=.ref a/\oa K H a xs/\(HT.e7 xs.length 0 lo=0/\HT.e7 xs.length xs.length hi=xs.length)/\Q (.ref a) H
def JB7 {X:Cx}:BZ X (λx lo hi H Q=>∃a xs,x=.ref a/\oa X.K H a xs/\(HT.e7 xs.length 0 lo=0/\HT.e7 xs.length xs.length hi=xs.length)/\Q (.ref a) H):=by
 intro A1 s Y H x v vl vu lo hi sl Q I rx hs pl pu h;let⟨a,xs,rfl,hx,hw,q⟩:=h;cases rx;let⟨its,r,ht,hz⟩:=I.tuple hx;have hlen:its.toArray.size=xs.length:=by rw[BR];exact r.length.symm
 refine{"tuple",_,PyProof.Rows.slot_tuple_getitem.lookup,ht.typeIs,?_};exact om ht hs pl pu (by rw[hlen];exact hw) {.ref a,H,I,rfl,q}
def Kh {X:Cx}:BZ X (Ol X.K):=BZ.or JEp (BZ.or Kf JB7)
abbrev FO:=Lo->ah->UO (UO Int×ah)
def AS (K:AJ)(f:FO):TO:=λY H Q=>∃O U m o U',eI K m H O Y/\bz K m H U/\f O U=some (o,U')/\∀H' m',fM m H m' H'->bz K m' H' U'->Q o H'
noncomputable def f9:FO:=λ_ U=>some (none,U)
noncomputable def eX (f:FE):FO:=λO U=>(f O U).bind λa=>match a.1 with|.v (.int i)=>some (some i,a.2)|_=>none
noncomputable def Fq (x:R)(lo hi:UO Int)(U:ah):UO (R×ah):=match x with
 |.v (.tup xs)=>some (.v (.tup (lu xs lo hi)),U)
 |x=>(lK x U).bind λxs=>some (.p U.length,U++[.lst (lu xs lo hi)])
noncomputable def Al (fa:FE)(fl fh:FO):FE:=λO U=>(fa O U).bind λa=>(fl O a.2).bind λl=>(fh O l.2).bind λh=>Fq a.1 l.1 h.1 h.2
theorem RelDs.drop {K:AJ}{H:Hp}:∀{xs:A0 D} {vs:A0 V} (n:Nat),RelDs K H xs vs->RelDs K H (xs.drop n) (vs.drop n)
 |_,_,0,h=>h
 |[],_,n+1,h=>by rwa[RelDs] at h;subst h;rwa[List.drop_nil,RelDs]
 |x::xs,_,n+1,h=>by rwa[RelDs] at h;let⟨v,r,rfl,_,h2⟩:=h;exact RelDs.drop n h2
theorem RelDs.take {K:AJ}{H:Hp}:∀{xs:A0 D} {vs:A0 V} (n:Nat),RelDs K H xs vs->RelDs K H (xs.take n) (vs.take n)
 |_,_,0,h=>by rwa[List.take_zero,RelDs]
 |[],_,n+1,h=>by rwa[RelDs] at h;subst h;rwa[List.take_nil,RelDs]
 |x::xs,_,n+1,h=>by rwa[RelDs] at h;let⟨v,r,rfl,h1,h2⟩:=h;rwa[List.take_succ_cons,RelDs];exact{v,_,rfl,h1,RelDs.take n h2}
def RelDs.cut {H:Hp}{xs:A0 D}{vs:A0 V}{lo hi:UO Int}(h:RelDs K H xs vs):RelDs K H (lu xs lo hi) (vV vs lo hi):=by unfold lu vV;rw[h.length];exact(h.drop _).take _
section
variable {K:AJ}{Y:L2.St}{H:Hp}{Q:VK}
def JBy {Q:UO Int->Hp->Prop}(h:AS K f9 Y H Q):zo Y H Q:=by let⟨O,U,m,o,U',hl,hs,e,k⟩:=h;cases e;exact k H m .refl hs
def JCd {f}{Q:UO Int->Hp->Prop}(h:AS K (eX f) Y H Q):Iy (aN K f) Y H Q:=by
 let⟨O,U,m,o,U',hl,hs,e,k⟩:=h;let⟨⟨x,U1⟩,e1,e⟩:=AO.mp e;split at e
 ·rename_i i q
  cases e;simp only at q;subst q;exact{O,U,m,_,U1,hl,hs,e1,λv H1 m1 x1 s1 r1=>{i,by simpa only[ay,au] using r1,k H1 m1 x1 s1}}
 ·cases e
theorem N2 {m:Tg}{U U':ah}{x d:R}{v:V}{lo hi:UO Int}(s:bz K m H U)(r:ay K m H x v)(e:Fq x lo hi U=some (d,U'))(k:∀w H' m',fM m H m' H'->bz K m' H' U'->ay K m' H' d w->Q w H'):Ol K v lo hi H Q:=by
 have lst:∀xs,lK x U=some xs->(some (R.p U.length,U++[et.lst (lu xs lo hi)]):UO (R×ah))=some (d,U')->Ol K v lo hi H Q:=λxs e1 e2=>by cases e2;let⟨a,vs,rfl,q,rr⟩:=nu s r e1;refine .inl {a,vs,rfl,q,λp hp=>?_};let⟨x1,x2,x3⟩:=nX s (rr.cut (lo:=lo) (hi:=hi)) hp;exact k _ _ _ x1 x2 x3
 have gen:(lK x U).bind (λxs=>some (R.p U.length,U++[et.lst (lu xs lo hi)]))=some (d,U')->Ol K v lo hi H Q:=λe=>by let⟨xs,e1,e⟩:=AO.mp e;exact lst xs e1 e
 cases x with
 |p n=>exact gen e
 |s _ n=>exact gen e
 |x n=>exact gen e
 |f L ds=>exact gen e
 |v d0=>
  cases d0 with
  |tup xs=>
   cases e;rwa[ay,au] at r;let⟨a,vs,rfl,q,rr⟩:=r;by_cases hw:HT.e7 vs.length 0 lo=0/\HT.e7 vs.length vs.length hi=vs.length
   ·refine .inr (.inr {a,vs,rfl,q,hw,k _ H m .refl s ?_});rwa[ay,au];refine{a,vs,rfl,q,?_};have:=rr.cut (lo:=lo) (hi:=hi);unfold vV at this
    rw[hw.1,hw.2] at this
    simpa using this
   ·refine .inr (.inl {a,vs,rfl,q,hw,λp hp=>?_});let⟨x1,x2,x3⟩:=rq s (rr.cut (lo:=lo) (hi:=hi)) hp;exact k _ _ _ x1 x2 x3
  |non=>exact gen e
  |bl _=>exact gen e
  |int _=>exact gen e
  |str _=>exact gen e
  |fl _=>exact gen e
  |fd _ _=>exact gen e
  |key _=>exact gen e
def Oa {fa fl fh}(h:aN K (Al fa fl fh) Y H Q):Rw (Ol K) (aN K fa) (AS K fl) (AS K fh) Y H Q:=by let⟨O,U,m,d,U',hl,hs,e,k⟩:=h;let⟨⟨x,U1⟩,e1,e⟩:=AO.mp e;let⟨⟨l,U2⟩,e2,e⟩:=AO.mp e;let⟨⟨u,U3⟩,e3,e⟩:=AO.mp e;refine{O,U,m,x,U1,hl,hs,e1,λv H1 m1 x1 s1 r1=>?_};refine{O,U1,m1,l,U2,hl.ext x1,s1,e2,λH2 m2 x2 s2=>?_};refine{O,U2,m2,u,U3,hl.ext (x1.trans x2),s2,e3,λH3 m3 x3 s3=>?_};exact N2 s3 (r1.ext (x2.trans x3)) e λw H4 m4 x4 s4 r4=>k w H4 m4 (((x1.trans x2).trans x3).trans x4) s4 r4
noncomputable def qz (fa:FE)(fl fh:FO):FE:=λO U=>(fa O U).bind λa=>(fl O a.2).bind λl=>(fh O l.2).bind λh=>yb a.1 l.1 h.1 h.2
def Kj {x:R}{lo hi:UO Int}{U U':ah}{d:R}(e:yb x lo hi U=some (d,U')):∃z,x=.v (.str z)/\z.length<=sizeLine/\d=.v (.str (Txt.slice z lo hi))/\U'=U:=by
 unfold yb at e;split at e
 ·split at e
  ·rename_i hz
   cases e;exact{_,rfl,hz,rfl,rfl}
  ·cases e
 ·cases e
def Ku {fa fl fh}(h:aN K (qz fa fl fh) Y H Q):Rw Oi (aN K fa) (AS K fl) (AS K fh) Y H Q:=by let⟨O,U,m,d,U',hl,hs,e,k⟩:=h;let⟨⟨x,U1⟩,e1,e⟩:=AO.mp e;let⟨⟨l,U2⟩,e2,e⟩:=AO.mp e;let⟨⟨u,U3⟩,e3,e⟩:=AO.mp e;refine{O,U,m,x,U1,hl,hs,e1,λv H1 m1 x1 s1 r1=>?_};refine{O,U1,m1,l,U2,hl.ext x1,s1,e2,λH2 m2 x2 s2=>?_};refine{O,U2,m2,u,U3,hl.ext (x1.trans x2),s2,e3,λH3 m3 x3 s3=>?_};let⟨z,rfl,hz,rfl,rfl⟩:=Kj e;rwa[ay,au] at r1;exact{z,r1,hz,k _ H3 m3 ((x1.trans x2).trans x3) s3 (by rwa[ay,au])}
end
def PO.imp {e:UO AD}{t t':TO}(h:PO X e t)(k:∀{Y H Q},t' Y H Q->t Y H Q):PO X e t':=λA1 s Y H Q I q=>h A1 s Y H Q I (k q)
noncomputable def xr:FE:=λ_ U=>some (.p U.length,U++[.dct []])
def JEa {H:Hp}{Q:VK}(h:aN K xr Y H Q):CA Y H Q:=by let⟨O,U,m,d,U',hl,hs,e,k⟩:=h;cases e;intro p hp;refine k _ _ (m++[p]) (.newH hp) (hs.newH hp {[],eS,rfl,by rwa[DC,RelDs]}) {p,rfl,?_};rw[←hs.len];simp
noncomputable def eU:FS:=λ_ _=>none
namespace R
section
variable {X:Cx}{a b e:AD}{es:Tl}{fa fb:FE}{ga:FA}{pos p:Pos}{x:Str}
def ap {i j}:PE X (.Constant (.int i) j pos) (aN X.K (fK (.int i))):=PE.imp Lm (m8 λ_ _=>by rwa[ay,au])
def lj (ha:PE X a (aN X.K fa)):PE X (.UnaryOp .USub a pos) (aN X.K (fT iV fa)):=PE.imp (OP JQ ha) (N8 Pn)
def nj (ha:PE X a (aN X.K fa)):PO X (some a) (AS X.K (eX fa)):=PO.imp (JD4 ha) JCd
def K0 {k:Nat}{f:A4}{fd:FuncData}{ps:To}{n:Nat}{mf:MF}(F:dF X.prog X.w X.K X.mg X.base oh k f fd ps (Fn X.K n mf))(hr:cr k X.A)(hg:Gl X x)(hm:X.mg x=some (.ref f))(hk:PySem.W.keepIn X.K (.ref f)=true)(hb:fH X.K fd ps [])
  (ha:PA X (e::es) (js X.K ga)) (BB:(x == ("__debug__" : Str))=false:=by decide) (he:oF e es X:=by exact aH rfl) (hpl:(backTo pos (starEach es X.env)).any (·.1)=false:=by exact bi rfl) :
  PE X (.Call (.Name x p) (e::es) [] pos) (aN X.K (aP mf n ga)):=PE.imp (vn F hr hg hm hk hb .nil wO ha BB he hpl) JEd
def fj {d:D}(h:fP X.K X.mg x d)(hg:Gl X x:=by rfl)(hd:(x == ("__debug__" : Str))=false:=by decide):PE X (.Name x pos) (aN X.K (fK d)):=by obtain⟨u,v,hm,r,rd⟩:=h;exact PE.imp (vj hg hm r hd) (m8 λ_ H=>rd H)
def oz {op:CmpOp}{r:R2}{g:R->R->ah->UO (R×ah)}(ho:l8 X (compareOp op) r)(hg:px X.K g r)(ha:PE X a (aN X.K fa))(hb:PE X b (aN X.K fb))(hm:behindInMarks op b=false):PT X (.Compare a [op] [b] pos) (iP X.K (fB (ax g fa fb))) :=
 PT.imp (zK ho ha hb hm) λh=>by let⟨O,U,m,d,U',hl,hs,e,k⟩:=zE h;exact jU hg {O,U,m,d,U',hl,hs,e,k}
def Rv {op:CmpOp}{neg:A9}{c:D}{cv:V}(hc:(c=.non/\cv=.non)\/∃b,c=.bl b/\cv=.bl b)(ho:l8 X (compareOp op) (KO neg cv))(ha:PE X a (aN X.K fa))(hb:PE X b (tC cv))(hm:behindInMarks op b=false):PT X (.Compare a [op] [b] pos) (iP X.K (fB (fT (kx neg c) fa))) :=
 PT.imp (zK ho ha hb hm) λh=>by let⟨O,U,m,d,U',hl,hs,e,k⟩:=zE h;exact Oc hc {O,U,m,d,U',hl,hs,e,k}
variable {ta:FT}
variable {st:AN}{c tg iter:AD}
def fR:PS X st (gL X.K eU):=λA1 s Y H D I h=>by let⟨O,U,m,out,hl,hs,e,k⟩:=h;cases e
variable {g:FG}{fi:FI}
def pv.imp {ifs:Tl}{t t':TT}(h:pv X ifs t)(k:∀{Y H Q},t' Y H Q->t Y H Q):pv X ifs t':=λA1 s Y H Q I q=>h A1 s Y H Q I (k q)
def jt {ifs:Tl}{scope:Scope}(ix:A0 Nat)(own caps:To)(hc:X.calm=true)(n:aV X.env.scope scope own caps)(hi:PI X tg iter (wa X.K fi))
  (hb:∀cl C s₂ H₂ fp,PG (aQ X scope cl C s₂ H₂ fp (own++caps)) tg (wb X.K g)/\pv (aQ X scope cl C s₂ H₂ fp (own++caps)) ifs (iP X.K ta)/\PE (aQ X scope cl C s₂ H₂ fp (own++caps)) e (aN X.K fa))
  (BQ:ix.map (λi=>X.N[i]?)=caps.map some:=by rfl)
  (hs:∀x,foldedSetIterable iter X.env x=pure x:=by intro _;rfl):PE X (.ListComp e [{tg,iter,ifs,0}] scope pos) (aN X.K (hZ ix own.length fi g ta fa)):=by
 refine PE.imp (JCm (ix:=ix) hc n ‹AQ List.length BQ› (λj i y h1 h2=>?_) hi hb hs) (zD rfl);have:=AQ (λl=>l[j]?) BQ
 rwa[DA,h1,h2,DV] at this
 exact Option.some.inj this
def yd (i:Nat){py CQ:Pos}{ifs:Tl}{scope:Scope}(ix:A0 Nat)(own caps:To)(hc:X.calm=true)(n:aV X.env.scope scope own caps)(hN:X.N.Nodup)(hi:PI X tg iter (wa X.K fi))
  (hb:∀cl C s₂ H₂ fp,PG (aQ X scope cl C s₂ H₂ fp (own++caps)) tg (wb X.K g)/\pv (aQ X scope cl C s₂ H₂ fp (own++caps)) ifs (iP X.K ta)/\PE (aQ X scope cl C s₂ H₂ fp (own++caps)) e (aN X.K fa))
  (hsw:swapsWith (.ListComp e [{tg,iter,ifs,0}] scope pos) (some (.Name x py)) CQ.line X.env=pure true:=by rfl)
  (hy:X.N[i]?=some x:=by rfl) (hyl:Hw X.env.scope x:=by first|exact Or.inl rfl|exact Or.inr rfl)
  (BQ:ix.map (λi=>X.N[i]?)=caps.map some:=by rfl)
  (hs:∀x,foldedSetIterable iter X.env x=pure x:=by intro _;rfl) (hf:X.fn x=true\/X.env.scope.names.lookup x=some .local:=by first|exact .inl rfl|exact .inr rfl) :
  PS X (.Assign [.Name x py] (.ListComp e [{tg,iter,ifs,0}] scope pos) CQ) (gL X.K (bD i (hZ ix own.length fi g ta fa))):=by
 refine PS.imp (JC6 (i:=i) (ix:=ix) hc n hN hy hyl ‹AQ List.length BQ› (λj i y h1 h2=>?_) hi hb hsw hs hf) λh=>?_
 ·have:=AQ (λl=>l[j]?) BQ
  rwa[DA,h1,h2,DV] at this
  exact Option.some.inj this
 ·have h':=CY h
  let⟨O,U,m,d,U',hl,hs,e,k⟩:=h';exact zD rfl {O,U,m,d,U',hl,hs,e,k}
end
end R
noncomputable def oJ (x:R)(U:ah):A9:=match x with|.v (.fl _)=>true|.p n=>(match U[n]? with|some (.lst _)=>true|some (.fz _)=>true|_=>false)|_=>false
noncomputable def uO (g:R->A0 R->ah->UO (R×ah))(fa:FE)(ga:FA):FE:=λO U=>(fa O U).bind λa=>if oJ a.1 a.2=true then (ga O a.2).bind λb=>g a.1 b.1 b.2 else none
def xl {m:Tg}{H:Hp}{U:ah}{x:R}{v:V}(s:bz K m H U)(r:ay K m H x v)(e:oJ x U=true):Qu K "list" v H:=by
 have:∃xs,lK x U=some xs:=by
  cases x with
  |v d=>cases d <;> simp_all[oJ,lK]
  |s _ _=>simp[oJ] at e
  |x _=>simp[oJ] at e
  |f _ _=>simp[oJ] at e
  |p n=>
   rwa[oJ] at e;rwa[lK];split at e
   ·rename_i xs q;exact{xs,by first|rfl|rw[q]}
   ·rename_i xs q;exact{xs,by first|rfl|rw[q]}
   ·cases e
 let⟨xs,e⟩:=this;let⟨a,vs,rfl,q,_⟩:=nu s r e;exact .inl {rfl,vs,q}
def Ob {H:Hp}{Q:VK}{g r fa ga}(hg:Rq K g r)(h:aN K (uO g fa ga) Y H Q):Qy K "list" r (aN K fa) (js K ga) Y H Q:=by
 let⟨O,U,m,d,U',hl,hs,e,k⟩:=h;let⟨⟨x,U1⟩,e1,e⟩:=AO.mp e;split at e
 ·rename_i hx;let⟨⟨ys,U2⟩,e2,e⟩:=AO.mp e;refine{O,U,m,x,U1,hl,hs,e1,λv H1 m1 x1 s1 r1=>{xl s1 r1 hx,?_}};refine{O,U1,m1,ys,U2,hl.ext x1,s1,e2,λvs H2 m2 x2 s2 r2=>?_};exact hg m2 H2 U2 x ys d U' v vs Q s2 (r1.ext x2) r2 e λw H3 m3 x3 s3 r3=>k w H3 m3 ((x1.trans x2).trans x3) s3 r3
 ·cases e
def Kz {H:Hp}{Q:VK}{g r fa}(hg:Rq K g r)(h:aN K (uO g fa ai) Y H Q):NW K "list" r (aN K fa) Y H Q:=by
 let⟨O,U,m,d,U',hl,hs,e,k⟩:=h;let⟨⟨x,U1⟩,e1,e⟩:=AO.mp e;split at e
 ·rename_i hx;exact{O,U,m,x,U1,hl,hs,e1,λv H1 m1 x1 s1 r1=>{xl s1 r1 hx,hg m1 H1 U1 x [] d U' v [] Q s1 r1 rfl e λw H3 m3 x3 s3 r3=>k w H3 m3 (x1.trans x3) s3 r3}}
 ·cases e
structure b7 (K:AJ)(mg:Te)(x:Str)(st:Stmt)(ps:To):Prop where
 ex:∃f fd,pz K x x st f fd/\fH K fd ps []/\mg x=some (.ref f)
structure TL (K:AJ)(mg:Te)(x:Str)(st:Stmt)(ps:To)(c:Addr):Prop where
 ex:∃f fd,TK K x st f fd c/\fH K fd ps []/\mg x=some (.ref f)
def bV (P:A7)(w:AF)(K:AJ)(mg:Te)(base:AG)(k:Nat)(x:Str)(ps:To)(mf:MF):Prop :=
 ∃f fd,dF P w K mg base oh k f fd ps (Fn K ps.length mf)/\PySem.W.keepIn K (.ref f)=true/\fH K fd ps []/\mg x=some (.ref f)
def nL (P:A7)(w:AF)(K:AJ)(mg:Te)(base:AG)(k:Nat)(x:Str)(ps:To)(mf:MC):Prop :=
 ∃f fd,dF P w K mg base oh k f fd ps (IL K ps.length (cX K mf))/\PySem.W.keepIn K (.ref f)=true/\fH K fd ps []/\mg x=some (.ref f)
def oQ (P:A7)(w:AF)(K:AJ)(mg:Te)(base:AG)(k:Nat)(x:Str)(ps:To)(mf:MW):Prop :=
 ∃f fd,dF P w K mg base oh k f fd ps (M3 K ps.length mf)/\PySem.W.keepIn K (.ref f)=true/\fH K fd ps []/\mg x=some (.ref f)
structure fw (K:AJ)(C:Addr)(nm qual:Str)(st:Stmt)(ps:To):Prop where
 ex:∃f fd,pz K nm qual st f fd/\fH K fd ps []/\BV K C nm f
def cq (P:A7)(w:AF)(K:AJ)(mg:Te)(base:AG)(k:Nat)(nm:Str)(C:A4)(ps:To)(mf:MW):Prop :=
 ∃f fd,dF P w K mg base oh k f fd ps (M3 K ps.length mf)/\fH K fd ps []/\BV K C nm f
namespace R
def okP {P:A7}{w:AF}{K:AJ}{mg:Te}{base:AG}{x:Str}{st:AN}{N ps:To}{k:Nat}{b:FS}(d:b7 K mg x st ps)(S:aK N ps (aj st))
  (AR:∀(f:A4) (AP:A6) (A:AI) (outer:A0 Env) (s:A2) (H:Hp) (E:XK),cr k (A.deeper (envOfC x (aj st) s.heap.objs.size f AP))->qF (gR oh P w K mg base N x (aj st) f AP A outer s H E).nox (b4 st) (gL K b)) :
  bV P w K mg base (k+1) x ps (gN N.length b):=by
 let⟨f,fd,F,B,M⟩:=d.ex;exact{f,fd,pz.okP F S (AR f),F.kp,B,M}
def aB {X:Cx}{k:Nat}{x:Str}{ps:To}{mf:MF}{e:AD}{es:Tl}{ga:FA}{p pos:Pos}{n:Nat}(F:bV X.prog X.w X.K X.mg X.base k x ps mf)(hr:cr k X.A)(ha:PA X (e::es) (js X.K ga))(hg:Gl X x:=by rfl)(hn:ps.length=n:=by rfl)
  (BB:(x == ("__debug__" : Str))=false:=by decide) (he:oF e es X:=by exact aH rfl) (hpl:(backTo pos (starEach es X.env)).any (·.1)=false:=by exact bi rfl) :
  PE X (.Call (.Name x p) (e::es) [] pos) (aN X.K (aP mf n ga)):=by
 subst hn;let⟨f,fd,F,kp,B,M⟩:=F;exact K0 F hr hg M kp B ha BB he hpl
def okN {P:A7}{w:AF}{K:AJ}{mg:Te}{base:AG}{x:Str}{st:AN}{N ps:To}{k:Nat}{b:FS}(d:b7 K mg x st ps)(S:aK N ps (aj st))
  (AR:∀(f:A4) (AP:A6) (A:AI) (outer:A0 Env) (s:A2) (H:Hp) (E:XK),cr k (A.deeper (envOfC x (aj st) s.heap.objs.size f AP))->qF (gR oh P w K mg base N x (aj st) f AP A outer s H E).nox (b4 st) (gL K b)) :
  nL P w K mg base (k+1) x ps (ye N.length b):=by
 let⟨f,fd,F,B,M⟩:=d.ex;exact{f,fd,pz.okN F S (AR f),F.kp,B,M}
def nR {X:Cx}{k:Nat}{x:Str}{ps:To}{mf:MC}{e:AD}{es:Tl}{ga:FA}{p pos:Pos}{n:Nat}(F:nL X.prog X.w X.K X.mg X.base k x ps mf)(hr:cr k X.A)(ha:PA X (e::es) (js X.K ga))(hg:Gl X x:=by rfl)(hn:ps.length=n:=by rfl)
  (BB:(x == ("__debug__" : Str))=false:=by decide) (he:oF e es X:=by exact aH rfl) (hpl:(backTo pos (starEach es X.env)).any (·.1)=false:=by exact bi rfl) :
  PE X (.Call (.Name x p) (e::es) [] pos) (aN X.K (ju mf n ga)):=by
 subst hn;let⟨f,fd,F,kp,B,M⟩:=F;exact PE.imp (vn (dF.borN F ps.length) hr hg M kp B .nil wO ha BB he hpl) JB2
def okW {P:A7}{w:AF}{K:AJ}{mg:Te}{base:AG}{x:Str}{st:AN}{N ps:To}{k:Nat}{b:FS}(d:b7 K mg x st ps)(S:aK N ps (aj st))
  (AR:∀(f:A4) (AP:A6) (A:AI) (outer:A0 Env) (s:A2) (H:Hp) (E:XK),cr k (A.deeper (envOfC x (aj st) s.heap.objs.size f AP))->qF (gR oh P w K mg base N x (aj st) f AP A outer s H E).nox (b4 st) (gL K b)) :
  oQ P w K mg base (k+1) x ps (o5 N.length b):=by
 let⟨f,fd,F,B,M⟩:=d.ex;exact{f,fd,pz.okW F S (AR f),F.kp,B,M}
def Gu {P:A7}{w:AF}{K:AJ}{mg:Te}{base:AG}{nm qual:Str}{C:A4}{st:AN}{N ps:To}{k:Nat}{b:FS}(d:fw K C nm qual st ps)(S:aK N ps (aj st))
  (AR:∀(f:A4) (AP:A6) (A:AI) (outer:A0 Env) (s:A2) (H:Hp) (E:XK),cr k (A.deeper (envOfC qual (aj st) s.heap.objs.size f AP))->qF (gR oh P w K mg base N qual (aj st) f AP A outer s H E).nox (b4 st) (gL K b)) :
  cq P w K mg base (k+1) nm C ps (o5 N.length b):=by
 let⟨f,fd,F,B,M⟩:=d.ex;exact{f,fd,pz.okW F S (AR f),B,M}
def kq {X:Cx}{k:Nat}{x:Str}{ps:To}{mf:MW}{e:AD}{es:Tl}{ga:FA}{p pos:Pos}{n:Nat}(F:oQ X.prog X.w X.K X.mg X.base k x ps mf)(hr:cr k X.A)(ha:PA X (e::es) (js X.K ga))(hg:Gl X x:=by rfl)(hn:ps.length=n:=by rfl)
  (BB:(x == ("__debug__" : Str))=false:=by decide) (he:oF e es X:=by exact aH rfl) (hpl:(backTo pos (starEach es X.env)).any (·.1)=false:=by exact bi rfl) :
  PE X (.Call (.Name x p) (e::es) [] pos) (aN X.K (gK mf n ga)):=by
 subst hn;let⟨f,fd,F,kp,B,M⟩:=F;exact PE.imp (vn F hr hg M kp B .nil wO ha BB he hpl) JB1
def bW {X:Cx}{k:Nat}{c nm:Str}{C:A4}{ps:To}{mf:MW}{o:AD}{fo:FE}{apos pos:Pos}{n:Nat}{pl:Sem A9}(N:lw X.K X.mg c C)(F:cq X.prog X.w X.K X.mg X.base k nm C ps mf)(hr:cr k X.A)(ho:PE X o (aN X.K fo))(hn:ps.length=n:=by rfl)
  (ht:eval (.Call (.Attribute o nm apos) [] [] pos) X.env=(do
   let ov ←eval o X.env
   standAt apos.atName
   let (mth,first) ←holding [ov] (getMethod ov nm pl)
   callWith pos mth first (backTo pos (starEach [] X.env)) (backToKw pos (keywordEach [] X.env))):=by rfl) :
  PE X (.Call (.Attribute o nm apos) [] [] pos) (aN X.K (bT c nm mf n fo ai)):=by
 subst hn;let⟨f,fd,F,B,M⟩:=F;exact PE.imp (JDa ho N.cl M F hr B .nil wO ht) λh=>JB3 (Fx N h) λx H1 ⟨a,dx,fs,e,ea,l,t⟩=>{a,dx,fs,e,ea,l,C1 t}
def rm {X:Cx}{k:Nat}{c:Str}{C:A4}{ps:To}{mf:MW}{e:AD}{es:Tl}{ga:FA}{p pos:Pos}{n:Nat}(N:lw X.K X.mg c C)(hk:PySem.W.makesIn X.K C=true)(hp:PySem.W.keepIn X.K (.ref C)=true)(F:cq X.prog X.w X.K X.mg X.base k "__init__" C ps mf)(hr:cr (k+1) X.A)(ha:PA X (e::es) (js X.K ga))(hg:Gl X c:=by rfl)(hn:ps.length=n:=by rfl)
  (BB:(c == ("__debug__" : Str))=false:=by decide) (he:oF e es X:=by exact aH rfl) (hpl:(backTo pos (starEach es X.env)).any (·.1)=false:=by exact bi rfl):PE X (.Call (.Name c p) (e::es) [] pos) (aN X.K (qA c mf n ga)):=by
 subst hn;let⟨f,fd,F,B,M⟩:=F;exact PE.imp (Ge {hk,M.at_,M.fn,hp} F hr hg N.mg B .nil wO ha BB he hpl) (JBz N)
def eM {E:XK}{sts:Tn}:PX X E sts wk:=λA1 s Y H I ⟨O,U,m,c,U',_,_,e,_⟩=>by cases e
def bj {E:XK}{st:AN}{sts:Tn}{x:XB}(h:M9 X E st x):PX X E (st::sts) x:=λA1 s Y H I d=>zbo (BK (h A1 s Y H I d) (λ_ _ z=>z.elim) λ_ _ z=>z)
def kr {E:XK}{sts:Tn}{x y:XB}(h:PX X E sts x)(h':PX X E sts y):PX X E sts (nN x y):=λA1 s Y H I ⟨O,U,m,c,U',hl,hs,e,k⟩=>by
 unfold nN at e;split at e
 ·rename_i r q
  cases e;exact h A1 s Y H I {O,U,m,c,U',hl,hs,q,k}
 ·exact h' A1 s Y H I {O,U,m,c,U',hl,hs,e,k}
theorem eL {X:Cx}{E:XK}{st:AN}{sts:Tn}{x:XB}{a:FS}(h:PS X st (gL X.K a))(h':PX X E sts x):PX X E (st::sts) (jg a x):=λA1 s Y H I ⟨O,U,m,c,U',hl,hs,e,k⟩=>by
 let⟨o,e1,e⟩:=AO.mp e;have hd:gL X.K a {nx:=λY' H'=>g7 X.K E x Y' H',rt:=λ_ _=>False} Y H:=by
  refine{O,U,m,o,hl,hs,e1,?_}
  cases o with
  |nx O1 U1=>exact λY1 H1 m1 x1 s1 l1=>{O1,U1,m1,c,U',l1,s1,e,λC H' m' q y z=>k C H' m' q (x1.trans y) z}
  |bk O1 U1=>cases e
  |ct O1 U1=>cases e
  |rt d U1=>cases e
 refine zbo (dk (h A1 s Y H _ I hd) λf s1 q=>?_)
 cases f with
 |next=>let⟨Y',H',I',q⟩:=q;exact h' A1 s1 Y' H' I' q
 |ret v=>let⟨_,_,_,_,_,q⟩:=q;exact q.elim
 |brk=>let⟨_,_,_,q⟩:=q;exact q.elim
 |cont=>let⟨_,_,_,q⟩:=q;exact q.elim
theorem jV {X:Cx}{E:XK}{aa bb:Tn}{x y:XB}{t:FT}{c:AD}(hc:PT X c (iP X.K t))(ha:PX X E aa x)(hb:PX X E bb y):M9 X E (.If c aa bb pos) (xC t x y):=λA1 s Y H I ⟨O,U,m,d,U',hl,hs,e,k⟩=>by
 let⟨⟨b,U1⟩,e1,e⟩:=AO.mp e;refine wpAny_If (dk (hc A1 s Y H (λb' H'=>b'=b/\∃m',fM m H m' H'/\bz X.K m' H' U1) I {O,U,m,b,U1,hl,hs,e1,λH' m' x1 s1=>{rfl,m',x1,s1}}) λb' s1 hh=>?_);let⟨H1,I1,hbb,m1,x1,DN⟩:=hh;subst hbb
 cases b' with
 |true=>exact ha A1 s1 Y H1 I1 {O,U1,m1,d,U',hl.ext x1,DN,e,λC H' m' q y z=>k C H' m' q (x1.trans y) z}
 |false=>exact hb A1 s1 Y H1 I1 {O,U1,m1,d,U',hl.ext x1,DN,e,λC H' m' q y z=>k C H' m' q (x1.trans y) z}
def ji {X:Cx}{E:XK}{st:AN}{x:XB}(h:MU X st x)(p:l6 (sZ X.prog X.w X.base) X E):M9 X E st x:=λA1 s Y H I d=>
 BK (h A1 s Y H E I d) (λ_ _ z=>z) λe s' ⟨H1,s1,I1,z⟩=>p A1 Y H1 s1 e s' I1 z
def gO {X:Cx}{k:Nat}{x:Str}{ps:To}{xf:A0 D->UO Str}{e:AD}{es:Tl}{ga:FA}{p pos:Pos}{n:Nat}(F:fG X.prog X.w X.K X.mg X.base k x ps xf)(hr:cr k X.A)(ha:∀xe,PA (X.wish xe) (e::es) (js X.K ga))(hg:Gl X x:=by rfl)(hn:ps.length=n:=by rfl)
  (BB:(x == ("__debug__" : Str))=false:=by decide) (he:oF e es X:=by exact aH rfl) (hpl:(backTo pos (starEach es X.env)).any (·.1)=false:=by exact bi rfl) :
  rE X (.Call (.Name x p) (e::es) [] pos) (ma xf n ga):=by
 subst hn;let⟨f,fd,F,kp,B,M⟩:=F;intro A1 s Y H E I ⟨O,U,m,c,U',hl,hs,ee,k⟩;let⟨⟨xs,U1⟩,e1,ee⟩:=AO.mp ee;let⟨ds,e2,ee⟩:=AO.mp ee;split at ee
 ·rename_i hn
  let⟨c',e3,ee⟩:=AO.mp ee;cases ee;refine EE (jA I hg M ?_ BB);have hd:js X.K ga Y H (λvs H1=>∃m1,fM m H m1 H1/\bz X.K m1 H1 U1/\RelDs X.K H1 ds vs):={O,U,m,xs,U1,hl,hs,e1,λvs H1 m1 x1 s1 r1=>{m1,x1,s1,mH e2 r1}};refine zbj (h₀:=X.base) I.ok.mod.kin kp (dk (ha (E2 X A1 Y E) pos A1 s Y H _ (I.wish _) hd) λus s1 ⟨vs,H1,I1,r,m1,x1,DN,r1⟩=>{I1.kIn,?_}) he hpl;have I2:aS X A1 Y H1 s1:=I1.unwish;have D6:T6 X.K ps.length xf vs H1 (λ_ _=>False) E:={ds,c,hn,r1,e3,λC H' q z=>k C H' m1 q (x1.trans z.ext) (DN.same z)}
  have hlen:us.length=ps.length:=by rw[←r.length];exact F.len _ _ _ _ D6
  refine zcc (Eh (F.run X.A X.stack s1 H1 {us,[]} us vs (λ_ _=>False) E hr I2.env0 ‹B s1 us I2.kIn (by simpa using hlen)› r D6) λr s' hq=>?_)
  cases r with
  |error e=>exact{H1,s1,I2,hq}
  |ok fl=>
   cases fl with
   |ret u=>let⟨_,_,_,_,_,_,_,q⟩:=hq;exact q.elim
   |next=>exact False.elim hq
   |brk=>exact False.elim hq
   |cont=>exact False.elim hq
 ·cases ee
def nk {X:Cx}{pos:Pos}{x:XB}(he:rE X e x)(hs:swapsWith e none pos.line X.env=pure false:=by rfl):MU X (.Expr e pos) x:=λA1 s Y H E I d=>
 wpAny_Expr_any (BK (he A1 s Y H E I d) (λ_ _ z=>z.elim) λ_ _ z=>z) I.quiet hs
def jz {x:XB}(he:rE X e x):MU X (.Return (some e) pos) x:=λA1 s Y H E I d=>
 zb9 (BK (he A1 s Y H E I d) (λ_ _ z=>z.elim) λ_ _ z=>z)
def lH {X:Cx}{pos:Pos}{x:XB}{y:Str}{pos':Pos}(he:rE X e x)(hs:swapsWith e (some (.Name y pos')) pos.line X.env=pure false:=by rfl):MU X (.Assign [.Name y pos'] e pos) x:=λA1 s Y H E I d=>
 wpAny_Assign_Name (BK (he A1 s Y H E I d) (λ_ _ z=>z.elim) λ_ _ z=>z) hs
def Jl {P:A7}{w:AF}{K:AJ}{mg:Te}{base:AG}{x:Str}{st:AN}{N ps:To}{k:Nat}{b:XB}{f:A4}{fd:FuncData}(F:pz K x x st f fd)(B:fH K fd ps [])(M:mg x=some (.ref f))(S:aK N ps (aj st))
  (AR:∀(AP:A6) (A:AI) (outer:A0 Env) (s:A2) (H:Hp) (E:XK),cr k (A.deeper (envOfC x (aj st) s.heap.objs.size f AP))->PX (gR (sZ P w base) P w K mg base N x (aj st) f AP A outer s H E) E (b4 st) b) :
  fG P w K mg base (k+1) x ps (wE N.length b):=by
 refine{f,fd,?_,F.kp,B,M};let⟨oc,od,kV,doc,pm,an,AP,ct,Dj,rfl,lk,Bp⟩:=F.ex;refine Ef lk Bp S (λvs H Q E ⟨ds,c,hn,r,_⟩=>by rw[←r.length];exact hn) λA outer s H vs Q E hr hh=>?_;let⟨ds,c,hn,r,e,k⟩:=hh;let⟨⟨c',U'⟩,e1,e⟩:=AO.mp e;cases e;refine{λ_ Y H=>g7 K E b Y H,λA1 s' Y H' D I d=>BK (AR AP A outer s H E hr A1 s' Y H' I d) (λ_ _ z=>z.elim) λ_ _ z=>z,?_};exact{_,[],[],_,U',p9 r,.nil,e1,λC H' m' q x _=>k C H' q x.sam}
def okXW {P:A7}{w:AF}{K:AJ}{mg:Te}{base:AG}{x:Str}{st:AN}{N ps:To}{k:Nat}{b:XB}(d:b7 K mg x st ps)(S:aK N ps (aj st))
  (AR:∀(f:A4) (AP:A6) (A:AI) (outer:A0 Env) (s:A2) (H:Hp) (E:XK),cr k (A.deeper (envOfC x (aj st) s.heap.objs.size f AP))->PX (gR (sZ P w base) P w K mg base N x (aj st) f AP A outer s H E) E (b4 st) b) :
  l9 P w K mg base (k+1) x ps (jS N.length b):=by
 let⟨f,fd,F,B,M⟩:=d.ex;exact{f,fd,pz.okXW F S (AR f),F.kp,B,M}
def vw {P:A7}{w:AF}{K:AJ}{mg:Te}{base:AG}{nm qual:Str}{C:A4}{st:AN}{N ps:To}{k:Nat}{b:XB}(d:fw K C nm qual st ps)(S:aK N ps (aj st))
  (AR:∀(f:A4) (AP:A6) (A:AI) (outer:A0 Env) (s:A2) (H:Hp) (E:XK),cr k (A.deeper (envOfC qual (aj st) s.heap.objs.size f AP))->PX (gR (sZ P w base) P w K mg base N qual (aj st) f AP A outer s H E) E (b4 st) b) :
  b6 P w K mg base (k+1) nm C ps (jS N.length b):=by
 let⟨f,fd,F,B,M⟩:=d.ex;exact{f,fd,pz.okXW F S (AR f),B,M}
def nh {X:Cx}{k:Nat}{x:Str}{ps:To}{xf:og}{e:AD}{es:Tl}{ga:FA}{p pos:Pos}{n:Nat}(F:l9 X.prog X.w X.K X.mg X.base k x ps xf)(hr:cr k X.A)(ha:∀xe,PA (X.wish xe) (e::es) (js X.K ga))(hg:Gl X x:=by rfl)(hn:ps.length=n:=by rfl)
  (BB:(x == ("__debug__" : Str))=false:=by decide) (he:oF e es X:=by exact aH rfl) (hpl:(backTo pos (starEach es X.env)).any (·.1)=false:=by exact bi rfl) :
  rE X (.Call (.Name x p) (e::es) [] pos) (ik xf n ga):=by
 subst hn;let⟨f,fd,F,kp,B,M⟩:=F;exact JAy F hr B M kp ha hg BB he hpl
def dJ {X:Cx}{k:Nat}{c nm:Str}{C:A4}{ps:To}{xf:og}{o:AD}{fo:FE}{apos pos:Pos}{n:Nat}{pl:Sem A9}(N:lw X.K X.mg c C)(F:b6 X.prog X.w X.K X.mg X.base k nm C ps xf)(hr:cr k X.A)(ho:∀xe,PE (X.wish xe) o (aN X.K fo))(hn:ps.length=n:=by rfl)
  (ht:eval (.Call (.Attribute o nm apos) [] [] pos) X.env=(do
   let ov ←eval o X.env
   standAt apos.atName
   let (mth,first) ←holding [ov] (getMethod ov nm pl)
   callWith pos mth first (backTo pos (starEach [] X.env)) (backToKw pos (keywordEach [] X.env))):=by rfl) :
  rE X (.Call (.Attribute o nm apos) [] [] pos) (dH c nm xf n fo ai):=by
 subst hn;let⟨f,fd,F,B,M⟩:=F;exact JAx N F hr B M ho ht
def sf {X:Cx}{k:Nat}{c:Str}{C:A4}{ps:To}{xf:og}{e:AD}{es:Tl}{ga:FA}{p pos:Pos}{n:Nat}(N:lw X.K X.mg c C)(hk:PySem.W.makesIn X.K C=true)(hp:PySem.W.keepIn X.K (.ref C)=true)(F:b6 X.prog X.w X.K X.mg X.base k "__init__" C ps xf)(hr:cr (k+1) X.A)(ha:∀xe,PA (X.wish xe) (e::es) (js X.K ga))(hg:Gl X c:=by rfl)(hn:ps.length=n:=by rfl)
  (BB:(c == ("__debug__" : Str))=false:=by decide) (he:oF e es X:=by exact aH rfl) (hpl:(backTo pos (starEach es X.env)).any (·.1)=false:=by exact bi rfl):rE X (.Call (.Name c p) (e::es) [] pos) (rG c xf n ga):=by
 subst hn;let⟨f,fd,F,B,M⟩:=F;exact JC0 N {hk,M.at_,M.fn,hp} F hr B ha hg BB he hpl
def pJ {X:Cx}{k:Nat}{y:Str}{ps:To}{mf:MF}{x:XB}{e:AD}{es:Tl}{p pos:Pos}(F:bV X.prog X.w X.K X.mg X.base k y ps mf)(h:EO X (e::es) x)(hg:Gl X y:=by rfl)(BB:(y == ("__debug__" : Str))=false:=by decide)
  (he:oF e es X:=by exact aH rfl) (hpl:(backTo pos (starEach es X.env)).any (·.1)=false:=by exact bi rfl):rE X (.Call (.Name y p) (e::es) [] pos) x:=by
 let⟨f,fd,F,kp,B,M⟩:=F;exact JAb h hg M kp BB he hpl
def mB {X:Cx}{elt tg iter:AD}{ifs:Tl}{scope:Scope}{pos:Pos}{fi:FI}{g:FG}{ta:FT}{fa:FE}{xb:XB}{L:A4}{outer:A0 Env}(ix:A0 Nat)(own caps:To)(CW:X.stack=X.env::outer)(hL:X.env.frame=some L)(hc:X.calm=true)(n:aV X.env.scope scope own caps)(hi:∀xe,PI (X.wish xe) tg iter (wa X.K fi))
  (hb:∀cl C s₂ H₂ fp,PG (aQ X scope cl C s₂ H₂ fp (own++caps)) tg (wb X.K g)/\pv (aQ X scope cl C s₂ H₂ fp (own++caps)) ifs (iP X.K ta)/\PE (aQ X scope cl C s₂ H₂ fp (own++caps)) elt (aN X.K fa)/\rE (aQ X scope cl C s₂ H₂ fp (own++caps)) elt xb)
  (BQ:ix.map (λi=>X.N[i]?)=caps.map some:=by rfl)
  (hs:∀x,foldedSetIterable iter X.env x=pure x:=by intro _;rfl):B0 X (.ListComp elt [{tg,iter,ifs,0}] scope pos) (jq ix own.length fi g ta fa xb):=by
 refine JAw (ix:=ix) CW hL hc n ‹AQ List.length BQ› (λj i y h1 h2=>?_) hi hb (JAu rfl) hs;have:=AQ (λl=>l[j]?) BQ
 rwa[DA,h1,h2,DV] at this
 exact Option.some.inj this
def lc {X:Cx}{b:Tn}:qF X b (gL X.K eU):=λA1 s Y H D I h=>by let⟨O,U,m,out,hl,hs,e,k⟩:=h;cases e
end R
def pQ {K:AJ}{T:String}(h1:PySem.W.kitOne K (.type "NoneType") (.type T)=some ("NoneType" == T || ("NoneType" == "bool" && T == "int")))
  (h2:PySem.W.kitOne K (.type "bool") (.type T)=some ("bool" == T || ("bool" == "bool" && T == "int"))) (h3:PySem.W.kitOne K (.type "int") (.type T)=some ("int" == T || ("int" == "bool" && T == "int")))
  (h4:PySem.W.kitOne K (.type "str") (.type T)=some ("str" == T || ("str" == "bool" && T == "int"))) (h5:PySem.W.kitOne K (.type "tuple") (.type T)=some ("tuple" == T || ("tuple" == "bool" && T == "int")))
  (h6:PySem.W.kitOne K (.type "list") (.type T)=some ("list" == T || ("list" == "bool" && T == "int"))) (h7:PySem.W.kitOne K (.type "dict") (.type T)=some ("dict" == T || ("dict" == "bool" && T == "int"))):sY K T:=λt ht=>by
 rwa[BJ,Ez,or_false] at ht;rcases ht with rfl|rfl|rfl|rfl|rfl|rfl|rfl <;> assumption
def JBk :sY K "int":=pQ rfl rfl rfl rfl rfl rfl rfl
def yC :sY K "bool":=pQ rfl rfl rfl rfl rfl rfl rfl
def jJ :sY K "str":=pQ rfl rfl rfl rfl rfl rfl rfl
def ku :sY K "tuple":=pQ rfl rfl rfl rfl rfl rfl rfl
def JBc:bootBuiltins "int" = some (.type "int"):=by decide
def y0:bootBuiltins "bool" = some (.type "bool"):=by decide
def jK:bootBuiltins "str" = some (.type "str"):=by decide
def gp:bootBuiltins "tuple" = some (.type "tuple"):=by decide
def LX {H:Hp}{a:A4}{ns:Tj}{mf:MF}(hO:EQ H)(hS:nK K H a (ns.map V.int))(h:mf [.fl (ns.map .int)]=some (.bl true)):Fn K 1 mf [.ref a] H (λv _=>v=.bl true) λ_ _ _=>False:=by
 refine{_,_,rfl,?_,h,λv H' _ r=>by simpa only[au] using r};have rInts:∀{ns:Tj},RelDs K H (ns.map .int) (ns.map V.int):=λ{ns}=>by
  induction ns with
  |nil=>rwa[DC,RelDs]
  |cons n ns ih=>rwa[BA,RelDs];exact{_,_,rfl,by rwa[au],ih}
 rwa[RelDs];refine{_,_,rfl,?_,rfl};rwa[au];refine{a,_,rfl,?_,rInts};rcases hS with(hS|⟨o,hS⟩)|hS
 ·rcases hO a with z|⟨o,xs,z⟩ <;> rw[hS] at z <;> cases z
 ·exact .inl {o,hS}
 ·exact .inr (.inr hS)
namespace R
end R
@[irreducible] def ZE (X:Cx)(e:AD)(t:TE):Prop:=L2.PE X e t
@[irreducible] def ZT (X:Cx)(e:AD)(t:TT):Prop:=L2.PT X e t
@[irreducible] def ZW (X:Cx)(e:AD)(t:TT):Prop:=L2.PW X e t
@[irreducible] def ZA (X:Cx)(e:Tl)(t:TA):Prop:=L2.PA X e t
@[irreducible] def ZS (X:Cx)(e:AN)(t:TS):Prop:=L2.PS X e t
@[irreducible] def Az (X:Cx)(e:Tn)(t:TS):Prop:=L2.qF X e t
@[irreducible] def ZG (X:Cx)(e:AD)(t:TG):Prop:=L2.PG X e t
@[irreducible] def ZO (X:Cx)(e:UO AD)(t:TO):Prop:=L2.PO X e t
@[irreducible] def EM (X:Cx)(e:Tl)(t:TT):Prop:=HW.pv X e t
@[irreducible] def ZI (X:Cx)(tg iter:AD)(t:TI):Prop:=L2.PI X tg iter t
@[irreducible] def ZX (X:Cx)(E:XK)(e:Tn)(t:XB):Prop:=HW.PX X E e t
@[irreducible] def MT (X:Cx)(E:XK)(e:AN)(t:XB):Prop:=HW.M9 X E e t
@[irreducible] def M7 (X:Cx)(e:AN)(t:XB):Prop:=HW.MU X e t
@[irreducible] def EY (X:Cx)(e:AD)(t:XB):Prop:=HW.B0 X e t
@[irreducible] def ZJ (X:Cx)(e:AD)(t:Lo->A9):Prop:=HW.PJ X e t
@[irreducible] def Rl (X:Cx)(e:Tl)(t:Lo->A9):Prop:=HW.Na X e t
@[irreducible] def Ht (X:Cx)(e:Tl)(t:XB):Prop:=HW.EO X e t
@[irreducible] def xz (X:Cx)(e:AD)(t:XB):Prop:=HW.rE X e t
section
variable {X:Cx}{a b e:AD}{es:Tl}{fa fb:FE}{ga:FA}{pos p p2:Pos}{x:Str}
def ag (i:Nat)(hN:X.N[i]?=some x:=by rfl)(hv:M8 X.env.scope x:=by first|exact Or.inl rfl|exact Or.inr (Or.inl rfl)|exact Or.inr (Or.inr rfl))(hd:(x == ("__debug__" : Str))=false:=by decide)
  (Bp:(x == ("__classdict__" : Str))=false:=by decide):ZE X (.Name x pos) (aN X.K (af i)):=by
 exists PE.imp (Dt hN hv hd Bp) Kq
def ap {i j}:ZE X (.Constant (.int i) j pos) (aN X.K (fK (.int i))):=by exists R.ap
def sj {i j}:ZE X (.Constant (.bool i) j pos) (aN X.K (fK (.bl i))):=by exists PE.imp OR (m8 λ_ _=>by rwa[ay,au])
def av {i j}:ZE X (.Constant (.str i) j pos) (aN X.K (fK (.str i))):=by exists PE.imp vh (m8 λ_ _=>by rwa[ay,au])
def f7 {j}:ZE X (.Constant .none j pos) (aN X.K (fK .non)):=by exists PE.imp Dv (m8 λ_ _=>by rwa[ay,au])
def aL (ha:ZE X a (aN X.K fa))(hb:ZE X b (aN X.K fb)):ZE X (.BinOp a .Add b pos) (aN X.K (ax bu fa fb)):=by exists PE.imp (qK ((Lz.or (yq.or (Go.or Ly))).or Gq) ha hb) (jU Mp)
def uu (ha:ZE X a (aN X.K fa))(hb:ZE X b (aN X.K fb)):ZE X (.BinOp a .Sub b pos) (aN X.K (ax u6 fa fb)):=by exists PE.imp (qK Lr ha hb) (jU Ph)
def mh (ha:ZE X a (aN X.K fa))(hb:ZE X b (aN X.K fb)):ZE X (.BinOp a .Mult b pos) (aN X.K (ax kJ fa fb)):=by exists PE.imp (qK Lv ha hb) (jU Po)
def Jf (ha:ZE X a (aN X.K fa))(hb:ZE X b (aN X.K fb)):ZE X (.BinOp a .FloorDiv b pos) (aN X.K (ax yX fa fb)):=by exists PE.imp (qK Gn ha hb) (jU PD)
def qJ (ha:ZE X a (aN X.K fa))(hb:ZE X b (aN X.K fb)):ZE X (.BinOp a .Mod b pos) (aN X.K (ax qY fa fb)):=by exists PE.imp (qK Lw ha hb) (jU Pp)
def uv (ha:ZE X a (aN X.K fa))(hb:ZE X b (aN X.K fb)):ZE X (.BinOp a .Pow b pos) (aN X.K (ax qh fa fb)):=by exists PE.imp (qK Ls ha hb) (jU Pk)
def lj (ha:ZE X a (aN X.K fa)):ZE X (.UnaryOp .USub a pos) (aN X.K (fT iV fa)):=by exists R.lj ha
def Oy (ha:ZE X a (aN X.K fa)):ZE X (.UnaryOp .Not a pos) (aN X.K (G3 fa)):=by exists PE.imp (Ll ha) Ky
def FW (hu:X.A.units+64<cLine)(ha:ZE X a (aN X.K fa))(hb:ZE X b (aN X.K fb)):ZE X (.Compare a [.Eq] [b] pos) (aN X.K (ax (gm false) fa fb)):=by exists PE.imp (vm (DF hu) ha hb (o6 _)) (jU Mo)
def wI {rest:Tl}(ha:ZE X a (aN X.K fa))(hb:ZE X (.BoolOp .And (b::rest) pos) (aN X.K fb)):ZE X (.BoolOp .And (a::b::rest) pos) (aN X.K (xt fa fb)):=by exists PE.imp (Lq ha hb) KN
def zH {op}(ha:ZE X a (aN X.K fa)):ZE X (.BoolOp op [a] pos) (aN X.K fa):=by exists Lk ha
def am:ZA X [] (js X.K ai):=by exists PA.imp lJ C1
def ae (ha:ZE X e (aN X.K fa))(hr:ZA X es (js X.K ga))(hs:oF e es X:=by exact aH rfl):ZA X (e::es) (js X.K (ac fa ga)):=by exists PA.imp (gX ha hr hs) JEb
def dP {x1}(h:ZA X es (js X.K ga)):ZE X (.Tuple es x1 pos) (aN X.K (c9 ga)):=by exists PE.imp (Du h) Kr
def ej (h:ZA X es (js X.K ga)):ZE X (.List es pos) (aN X.K (eG ga)):=by exists PE.imp (Dx h) KA
def KY:ZE X (.Dict [] [] pos) (aN X.K xr):=by exists PE.imp JCl JEa
def aJ (ha:ZE X a (aN X.K fa)):ZE X a (aN X.K (br fa)):=by exists PE.imp (Dz ha) IR
def dL (ha:ZE X a (aN X.K fa))(hb:ZE X b (aN X.K fb))(hs:v8 b:=by intro _ _;rfl):ZE X (.Subscript a b pos) (aN X.K (ax fq fa fb)):=by exists PE.imp (Jj D3 ha hb hs) (jU RV)
def qe:ZO X none (AS X.K f9):=by exists PO.imp JD5 JBy
def nj (ha:ZE X a (aN X.K fa)):ZO X (some a) (AS X.K (eX fa)):=by exists R.nj ha
def tR {lo hi:UO AD}{fl fh:FO}(ha:ZE X a (aN X.K fa))(hl:ZO X lo (AS X.K fl))(hh:ZO X hi (AS X.K fh)):ZE X (.Subscript a (.Slice lo hi none p2) pos) (aN X.K (Al fa fl fh)):=by exists PE.imp (wL Kh ha hl hh) Oa
def f8 (hg:Gl X "len")(hm:X.mg "len" = none)(ha:ZA X (e::es) (js X.K ga))(he:oF e es X:=by exact aH rfl)(hpl:(backTo pos (starEach es X.env)).any (·.1)=false:=by exact bi rfl) :
  ZE X (.Call (.Name "len" p) (e::es) [] pos) (aN X.K (fF gJ ga)):=by
 exists PE.imp (jk v4 hg hm PySem.boot_len ha (he:=he) (hpl:=hpl)) (pI Ps)
def Oz (hc:X.calm=true)(hg:Gl X "min")(hm:X.mg "min" = none)(ha:ZA X (e::es) (js X.K ga))(he:oF e es X:=by exact aH rfl)(hpl:(backTo pos (starEach es X.env)).any (·.1)=false:=by exact bi rfl) :
  ZE X (.Call (.Name "min" p) (e::es) [] pos) (aN X.K (fF Bc ga)):=by
 exists PE.imp (jk (JA6 hc) hg hm ∅ ha (he:=he) (hpl:=hpl)) (pI Pq)
def Jd (hc:X.calm=true)(hg:Gl X "max")(hm:X.mg "max" = none)(ha:ZA X (e::es) (js X.K ga))(he:oF e es X:=by exact aH rfl)(hpl:(backTo pos (starEach es X.env)).any (·.1)=false:=by exact bi rfl) :
  ZE X (.Call (.Name "max" p) (e::es) [] pos) (aN X.K (fF tU ga)):=by
 exists PE.imp (jk (JA7 hc) hg hm ∅ ha (he:=he) (hpl:=hpl)) (pI Pr)
def KW (hg:Gl X "int")(hm:X.mg "int" = none)(ha:ZA X (e::es) (js X.K ga))(he:oF e es X:=by exact aH rfl)(hpl:(backTo pos (starEach es X.env)).any (·.1)=false:=by exact bi rfl) :
  ZE X (.Call (.Name "int" p) (e::es) [] pos) (aN X.K (fF By ga)):=by
 exists PE.imp (nU JBa hg hm ∅ ha (he:=he) (hpl:=hpl)) (pI Pw)
def sg (hg:Gl X "str")(hm:X.mg "str" = none)(ha:ZA X (e::es) (js X.K ga))(he:oF e es X:=by exact aH rfl)(hpl:(backTo pos (starEach es X.env)).any (·.1)=false:=by exact bi rfl) :
  ZE X (.Call (.Name "str" p) (e::es) [] pos) (aN X.K (fF u7 ga)):=by
 exists PE.imp (nU vY hg hm ∅ ha (he:=he) (hpl:=hpl)) (pI Pi)
def JEg {k1 k2 k3 v1 v2 v3:AD}{f1 f2 f3 g1 g2 g3:FE}(hk1:ZE X k1 (aN X.K f1))(hv1:ZE X v1 (aN X.K g1))(hk2:ZE X k2 (aN X.K f2))(hv2:ZE X v2 (aN X.K g2))(hk3:ZE X k3 (aN X.K f3))(hv3:ZE X v3 (aN X.K g3)):ZE X (.Dict [some k1,some k2,some k3] [v1,v2,v3] pos) (aN X.K (An [(f1,g1),(f2,g2),(f3,g3)])):=by exists PE.imp (Gf (sk hk1 hv1 (sk hk2 hv2 (sk hk3 hv3 JD1))) rfl rfl ∅ ∅) FM
def fj {d:D}(h:fP X.K X.mg x d)(hg:Gl X x:=by rfl)(hd:(x == ("__debug__" : Str))=false:=by decide):ZE X (.Name x pos) (aN X.K (fK d)):=by exists R.fj h hg hd
def ja (hg:Gl X "tuple")(hm:X.mg "tuple" = none)(ha:ZA X (e::es) (js X.K ga))(he:oF e es X:=by exact aH rfl)(hpl:(backTo pos (starEach es X.env)).any (·.1)=false:=by exact bi rfl) :
  ZE X (.Call (.Name "tuple" p) (e::es) [] pos) (aN X.K (fF oi ga)):=by
 exists PE.imp (nU uk hg hm ∅ ha (he:=he) (hpl:=hpl)) (pI Pg)
def OI (hc:X.calm=true)(hg:Gl X "all")(hm:X.mg "all" = none)(ha:ZA X (e::es) (js X.K ga))(he:oF e es X:=by exact aH rfl)(hpl:(backTo pos (starEach es X.env)).any (·.1)=false:=by exact bi rfl) :
  ZE X (.Call (.Name "all" p) (e::es) [] pos) (aN X.K (fF (EI false) ga)):=by
 exists PE.imp (jk (JBb hc) hg hm PyProof.Rows.boot_all ha (he:=he) (hpl:=hpl)) (pI PH)
def mi {T:String}{y:Str}(hT:sY X.K T)(hg:Gl X "isinstance")(hm:X.mg "isinstance" = none)(hgT:Gl X y)(hmT:X.mg y=none)(hvT:bootBuiltins y=some (.type T))(ha:ZE X e (aN X.K fa))(hn:y≠"__name__":=by decide)(BB:(y == ("__debug__" : Str))=false:=by decide)
  (he:starEach (e::[.Name y p2]) X.env=(false,eval e X.env)::starEach [.Name y p2] X.env:=by exact aH rfl) (hpl:(backTo pos (starEach [.Name y p2] X.env)).any (·.1)=false:=by rfl) :
  ZE X (.Call (.Name "isinstance" p) [e,.Name y p2] [] pos) (aN X.K (fT (gi T) fa)):=by
 exists PE.imp (jk (JDv hT) hg hm ∅ (gX ha (gX (zM (v:=.ty T) hgT hmT hvT rfl hn BB) lJ rfl) he) (he:=he) (hpl:=hpl)) KE
def g8 (ha:ZE X a (aN X.K fa))(he:∀whole,isTrue a X.env whole=(do let v ←whole;standAt a.pos;holding [v] (truthy v)):=by intro _;rfl):ZT X a (iP X.K (gQ fa)):=by exists PT.imp (JC4 ha he) Ks
def wy (ha:ZE X a (aN X.K fa))(hb:ZE X b (aN X.K fb)):ZT X (.Compare a [.Lt] [b] pos) (iP X.K (fB (ax Bh fa fb))):=by exists R.oz OT RU ha hb (o6 _)
def tL (ha:ZE X a (aN X.K fa))(hb:ZE X b (aN X.K fb)):ZT X (.Compare a [.Gt] [b] pos) (iP X.K (fB (ax wf fa fb))):=by exists R.oz OU RW ha hb (o6 _)
def Fg (ha:ZE X a (aN X.K fa))(hb:ZE X b (aN X.K fb)):ZT X (.Compare a [.GtE] [b] pos) (iP X.K (fB (ax Me fa fb))):=by exists R.oz OV RX ha hb (o6 _)
def fO (hu:X.A.units+64<cLine)(ha:ZE X a (aN X.K fa))(hb:ZE X b (aN X.K fb)):ZT X (.Compare a [.Eq] [b] pos) (iP X.K (fB (ax (gm false) fa fb))):=by exists R.oz (DF hu) Mo ha hb (o6 _)
def tK (hu:X.A.units+64<cLine)(ha:ZE X a (aN X.K fa))(hb:ZE X b (aN X.K fb)):ZT X (.Compare a [.NotEq] [b] pos) (iP X.K (fB (ax (gm true) fa fb))):=by exists R.oz (Lu hu) Mo ha hb (o6 _)
def lb {j}(ha:ZE X a (aN X.K fa)):ZT X (.Compare a [.Is] [.Constant .none j p] pos) (iP X.K (fB (fT (kx false .non) fa))):=by exists R.Rv (.inl {rfl,rfl}) JCo ha Dv (o6 _)
variable {ta tb:FT}{rest:Tl}
def k9 (ha:ZT X a (iP X.K ta)):ZT X (.UnaryOp .Not a pos) (iP X.K (iu ta)):=by exists PT.imp (K7 ha) Ft
def ul (ha:ZT X a (iP X.K ta))(hb:ZW X (.BoolOp .And (b::rest) pos) (iP X.K tb)):ZW X (.BoolOp .And (a::b::rest) pos) (iP X.K (jO ta tb)):=by exists PW.imp (K5 ha hb) Fu
def pC (ha:ZT X a (iP X.K ta))(hb:ZW X (.BoolOp .Or (b::rest) pos) (iP X.K tb)):ZW X (.BoolOp .Or (a::b::rest) pos) (iP X.K (kE ta tb)):=by exists PW.imp (OJ ha hb) Kt
def rJ (ha:ZT X a (iP X.K ta)):ZW X (.BoolOp .And [a] pos) (iP X.K ta):=by exists JDx ha
def mF (ha:ZT X a (iP X.K ta)):ZW X (.BoolOp .Or [a] pos) (iP X.K ta):=by exists K4 ha
def xD (h:ZW X a (iP X.K ta)):ZT X a (iP X.K ta):=by exists h.pt
def AV {c:AD}(hc:ZT X c (iP X.K ta))(ha:ZE X a (aN X.K fa))(hb:ZE X b (aN X.K fb)):ZE X (.IfExp c a b pos) (aN X.K (Am ta fa fb)):=by exists PE.imp (JDb hc ha hb) Od
variable {st:AN}{sts aa bb:Tn}{sa sb:FS}{c tg iter:AD}
def bx:Az X [] (gL X.K bo):=by exists qF.imp JDz Fw
def ar (h1:ZS X st (gL X.K sa))(h2:Az X sts (gL X.K sb)):Az X (st::sts) (gL X.K (aM sa sb)):=by exists qF.imp (JC5 h1 h2) Kv
def aA (h1:ZS X st (gL X.K sa)):Az X [st] (gL X.K sa):=by exists JDy h1
def fR:ZS X st (gL X.K eU):=by exists R.fR
def iU (he:ZE X e (aN X.K fa))(hs:swapsWith e none pos.line X.env=pure false:=by rfl):ZS X (.Expr e pos) (gL X.K (iJ fa)):=by exists PS.imp (JD0 he hs) JD9
def aU (he:ZE X e (aN X.K fa)):ZS X (.Return (some e) pos) (gL X.K (bv fa)):=by exists PS.imp (K9 he) Kw
def cm (hc:ZT X c (iP X.K ta))(ha:Az X aa (gL X.K sa))(hb:Az X bb (gL X.K sb)):ZS X (.If c aa bb pos) (gL X.K (fA ta sa sb)):=by exists PS.imp (OL hc ha hb) KF
def bq (i:Nat){pos':Pos}(hN:X.N.Nodup)(he:ZE X e (aN X.K fa))(hi:X.N[i]?=some x:=by rfl)(hx:Hw X.env.scope x:=by first|exact Or.inl rfl|exact Or.inr rfl)(hs:swapsWith e (some (.Name x pos')) pos.line X.env=pure false:=by rfl)(hf:X.fn x=true\/X.env.scope.names.lookup x=some .local:=by first|exact .inl rfl|exact .inr rfl) :
  ZS X (.Assign [.Name x pos'] e pos) (gL X.K (bD i fa)):=by
 exists PS.imp (K8 hN hi hx he hs hf) CY
variable {g:FG}{fi:FI}
def j1 (i:Nat)(hN:X.N.Nodup)(hi:X.N[i]?=some x:=by rfl)(hx:Hw X.env.scope x:=by first|exact Or.inl rfl|exact Or.inr rfl)(hf:X.fn x=true\/X.env.scope.names.lookup x=some .local:=by first|exact .inl rfl|exact .inr rfl):ZG X (.Name x pos) (wb X.K (gY i)):=by exists PG.imp (Gd hN hi hx hf) KH
def Ed (hu : X.A.units + 64 < cLine) (ha : ZE X a (aN X.K fa)) (hb : ZE X b (aN X.K fb)) (hq : ∀ v, assign (.Subscript a b pos) X.env v = (do
      let ov ← holding [v] (eval a X.env)
      let iv ← holding [v, ov] (eval b X.env)
      standAt pos
      holding [v, ov, iv] (setItem ov iv v)
      release [v, ov, iv] []) := by intro _; rfl) : ZG X (.Subscript a b pos) (wb X.K (nD fa fb)) := by
  exists PG.imp (Lj ha hb (xB.or JB8 (JB9 ∅)) hq) JD7
def qQ (ha:ZE X a (aN X.K fa)):ZI X tg a (wa X.K (ky fa)):=by exists PI.imp (Gc (Dz ha)) FB
def uh (hg:Gl X "range")(hm:X.mg "range" = none)(ha:ZE X a (aN X.K fa))(hs:starEach [a] X.env=[(false,eval a X.env)]:=by exact aH rfl):ZI X tg (.Call (.Name "range" p) [a] [] pos) (wa X.K (on fa)):=by exists PI.imp (JAg hg hm (ae ha am hs) hs) KG
def pH (hc:X.calm=true)(hi:ZI X tg iter (wa X.K fi))(hg:ZG X tg (wb X.K g))(hb:Az X aa (gL X.K sa))(hp:PassesOwn (model X.prog X.w) X.A X.env X.xe)(hs:∀x,foldedSetIterable iter X.env x=pure x:=by intro _;rfl):ZS X (.For tg iter aa [] pos) (gL X.K (qc fi g sa)):=by exists PS.imp (La hp hc hi hg hb hs) KI
def wB (he:ZE X e (aN X.K fa))(hg:ZG X tg (wb X.K g))(hs:swapsWithSole [tg] e pos.line X.env=pure false:=by rfl)(hw:swappedStores [tg] e X.env=pure none:=by rfl)(h1:(assignEach [tg] X.env).map (·.2)=[assign tg X.env]:=by rfl):ZS X (.Assign [tg] e pos) (gL X.K (qd fa g)):=by exists PS.imp (Lc he hg hs hw h1) KM
def mq:EM X [] (iP X.K gS):=by exists R.pv.imp JC8 Ko
def JB (h:ZT X c (iP X.K ta)):EM X [c] (iP X.K ta):=by exists JC7 h
def jt {ifs:Tl}{scope:Scope}(ix:A0 Nat)(own caps:To)(hc:X.calm=true)(n:aV X.env.scope scope own caps)(hi:ZI X tg iter (wa X.K fi))
  (hb:∀cl C s₂ H₂ fp,ZG (aQ X scope cl C s₂ H₂ fp (own++caps)) tg (wb X.K g)/\EM (aQ X scope cl C s₂ H₂ fp (own++caps)) ifs (iP X.K ta)/\ZE (aQ X scope cl C s₂ H₂ fp (own++caps)) e (aN X.K fa))
  (BQ:ix.map (λi=>X.N[i]?)=caps.map some:=by rfl)
  (hs:∀x,foldedSetIterable iter X.env x=pure x:=by intro _;rfl):ZE X (.ListComp e [{tg,iter,ifs,0}] scope pos) (aN X.K (hZ ix own.length fi g ta fa)):=by
 exists R.jt ix own caps hc n hi hb BQ hs
def yd (i:Nat){py CQ:Pos}{ifs:Tl}{scope:Scope}(ix:A0 Nat)(own caps:To)(hc:X.calm=true)(n:aV X.env.scope scope own caps)(hN:X.N.Nodup)(hi:ZI X tg iter (wa X.K fi))
  (hb:∀cl C s₂ H₂ fp,ZG (aQ X scope cl C s₂ H₂ fp (own++caps)) tg (wb X.K g)/\EM (aQ X scope cl C s₂ H₂ fp (own++caps)) ifs (iP X.K ta)/\ZE (aQ X scope cl C s₂ H₂ fp (own++caps)) e (aN X.K fa))
  (hsw:swapsWith (.ListComp e [{tg,iter,ifs,0}] scope pos) (some (.Name x py)) CQ.line X.env=pure true:=by rfl)
  (hy:X.N[i]?=some x:=by rfl) (hyl:Hw X.env.scope x:=by first|exact Or.inl rfl|exact Or.inr rfl)
  (BQ:ix.map (λi=>X.N[i]?)=caps.map some:=by rfl)
  (hs:∀x,foldedSetIterable iter X.env x=pure x:=by intro _;rfl) (hf:X.fn x=true\/X.env.scope.names.lookup x=some .local:=by first|exact .inl rfl|exact .inr rfl) :
  ZS X (.Assign [.Name x py] (.ListComp e [{tg,iter,ifs,0}] scope pos) CQ) (gL X.K (bD i (hZ ix own.length fi g ta fa))):=by
 exists R.yd i ix own caps hc n hN hi hb hsw hy hyl BQ hs hf
end
def okP {P:A7}{w:AF}{K:AJ}{mg:Te}{base:AG}{x:Str}{st:AN}{N ps:To}{k:Nat}{b:FS}(d:b7 K mg x st ps)(S:aK N ps (aj st))
  (AR:∀(f:A4) (AP:A6) (A:AI) (outer:A0 Env) (s:A2) (H:Hp) (E:XK),cr k (A.deeper (envOfC x (aj st) s.heap.objs.size f AP))->Az (gR oh P w K mg base N x (aj st) f AP A outer s H E).nox (b4 st) (gL K b)) :
  bV P w K mg base (k+1) x ps (gN N.length b):=by
 exists R.okP d S AR
def aB {X:Cx}{k:Nat}{x:Str}{ps:To}{mf:MF}{e:AD}{es:Tl}{ga:FA}{p pos:Pos}{n:Nat}(F:bV X.prog X.w X.K X.mg X.base k x ps mf)(hr:cr k X.A)(ha:ZA X (e::es) (js X.K ga))(hg:Gl X x:=by rfl)(hn:ps.length=n:=by rfl)
  (BB:(x == ("__debug__" : Str))=false:=by decide) (he:oF e es X:=by exact aH rfl) (hpl:(backTo pos (starEach es X.env)).any (·.1)=false:=by exact bi rfl) :
  ZE X (.Call (.Name x p) (e::es) [] pos) (aN X.K (aP mf n ga)):=by
 exists R.aB F hr ha hg hn BB he hpl
def okN {P:A7}{w:AF}{K:AJ}{mg:Te}{base:AG}{x:Str}{st:AN}{N ps:To}{k:Nat}{b:FS}(d:b7 K mg x st ps)(S:aK N ps (aj st))
  (AR:∀(f:A4) (AP:A6) (A:AI) (outer:A0 Env) (s:A2) (H:Hp) (E:XK),cr k (A.deeper (envOfC x (aj st) s.heap.objs.size f AP))->Az (gR oh P w K mg base N x (aj st) f AP A outer s H E).nox (b4 st) (gL K b)) :
  nL P w K mg base (k+1) x ps (ye N.length b):=by
 exists R.okN d S AR
def nR {X:Cx}{k:Nat}{x:Str}{ps:To}{mf:MC}{e:AD}{es:Tl}{ga:FA}{p pos:Pos}{n:Nat}(F:nL X.prog X.w X.K X.mg X.base k x ps mf)(hr:cr k X.A)(ha:ZA X (e::es) (js X.K ga))(hg:Gl X x:=by rfl)(hn:ps.length=n:=by rfl)
  (BB:(x == ("__debug__" : Str))=false:=by decide) (he:oF e es X:=by exact aH rfl) (hpl:(backTo pos (starEach es X.env)).any (·.1)=false:=by exact bi rfl) :
  ZE X (.Call (.Name x p) (e::es) [] pos) (aN X.K (ju mf n ga)):=by
 exists R.nR F hr ha hg hn BB he hpl
def okW {P:A7}{w:AF}{K:AJ}{mg:Te}{base:AG}{x:Str}{st:AN}{N ps:To}{k:Nat}{b:FS}(d:b7 K mg x st ps)(S:aK N ps (aj st))
  (AR:∀(f:A4) (AP:A6) (A:AI) (outer:A0 Env) (s:A2) (H:Hp) (E:XK),cr k (A.deeper (envOfC x (aj st) s.heap.objs.size f AP))->Az (gR oh P w K mg base N x (aj st) f AP A outer s H E).nox (b4 st) (gL K b)) :
  oQ P w K mg base (k+1) x ps (o5 N.length b):=by
 exists R.okW d S AR
def Gu {P:A7}{w:AF}{K:AJ}{mg:Te}{base:AG}{nm qual:Str}{C:A4}{st:AN}{N ps:To}{k:Nat}{b:FS}(d:fw K C nm qual st ps)(S:aK N ps (aj st))
  (AR:∀(f:A4) (AP:A6) (A:AI) (outer:A0 Env) (s:A2) (H:Hp) (E:XK),cr k (A.deeper (envOfC qual (aj st) s.heap.objs.size f AP))->Az (gR oh P w K mg base N qual (aj st) f AP A outer s H E).nox (b4 st) (gL K b)) :
  cq P w K mg base (k+1) nm C ps (o5 N.length b):=by
 exists R.Gu d S AR
def kq {X:Cx}{k:Nat}{x:Str}{ps:To}{mf:MW}{e:AD}{es:Tl}{ga:FA}{p pos:Pos}{n:Nat}(F:oQ X.prog X.w X.K X.mg X.base k x ps mf)(hr:cr k X.A)(ha:ZA X (e::es) (js X.K ga))(hg:Gl X x:=by rfl)(hn:ps.length=n:=by rfl)
  (BB:(x == ("__debug__" : Str))=false:=by decide) (he:oF e es X:=by exact aH rfl) (hpl:(backTo pos (starEach es X.env)).any (·.1)=false:=by exact bi rfl) :
  ZE X (.Call (.Name x p) (e::es) [] pos) (aN X.K (gK mf n ga)):=by
 exists R.kq F hr ha hg hn BB he hpl
def bW {X:Cx}{k:Nat}{c nm:Str}{C:A4}{ps:To}{mf:MW}{o:AD}{fo:FE}{apos pos:Pos}{n:Nat}{pl:Sem A9}(N:lw X.K X.mg c C)(F:cq X.prog X.w X.K X.mg X.base k nm C ps mf)(hr:cr k X.A)(ho:ZE X o (aN X.K fo))(hn:ps.length=n:=by rfl)
  (ht:eval (.Call (.Attribute o nm apos) [] [] pos) X.env=(do
   let ov ←eval o X.env
   standAt apos.atName
   let (mth,first) ←holding [ov] (getMethod ov nm pl)
   callWith pos mth first (backTo pos (starEach [] X.env)) (backToKw pos (keywordEach [] X.env))):=by rfl) :
  ZE X (.Call (.Attribute o nm apos) [] [] pos) (aN X.K (bT c nm mf n fo ai)):=by
 exists R.bW N F hr ho hn ht
def rm {X:Cx}{k:Nat}{c:Str}{C:A4}{ps:To}{mf:MW}{e:AD}{es:Tl}{ga:FA}{p pos:Pos}{n:Nat}(N:lw X.K X.mg c C)(hk:PySem.W.makesIn X.K C=true)(hp:PySem.W.keepIn X.K (.ref C)=true)(F:cq X.prog X.w X.K X.mg X.base k "__init__" C ps mf)(hr:cr (k+1) X.A)(ha:ZA X (e::es) (js X.K ga))(hg:Gl X c:=by rfl)(hn:ps.length=n:=by rfl)
  (BB:(c == ("__debug__" : Str))=false:=by decide) (he:oF e es X:=by exact aH rfl) (hpl:(backTo pos (starEach es X.env)).any (·.1)=false:=by exact bi rfl):ZE X (.Call (.Name c p) (e::es) [] pos) (aN X.K (qA c mf n ga)):=by
 exists R.rm N hk hp F hr ha hg hn BB he hpl
def oG {X:Cx}{c f:Str}{C:A4}{o:AD}{fo:FE}(N:lw X.K X.mg c C)(hf:g6 X.K C f)(ho:ZE X o (aN X.K fo))(hb:attributeBase o f X.env (eval o X.env)=eval o X.env:=by rfl):ZE X (.Attribute o f pos) (aN X.K (oo c f fo)):=by exists PE.imp (Ln ho hb) (KJ N hf)
def IN {X:Cx}{c f:Str}{C:A4}{o e:AD}{fo fv:FE}{pos pos':Pos}(N:lw X.K X.mg c C)(hf:g6 X.K C f)(ho:ZE X o (aN X.K fo))(hv:ZE X e (aN X.K fv))(hs:swapsWith e (some (.Attribute o f pos')) pos.line X.env=pure false:=by rfl):ZS X (.Assign [.Attribute o f pos'] e pos) (gL X.K (r6 c f fo fv)):=by exists PS.imp (Lb ho hv hs) (Fv N hf)
def Kl {X:Cx}{c f:Str}{C:A4}{o:AD}{fo:FE}{j:Int}{kk}{q pos pos':Pos}(N:lw X.K X.mg c C)(hf:g6 X.K C f)(ho:ZE X o (aN X.K fo))(hv:ZE X (.Constant (.int j) kk q) (aN X.K (fK (.int j)))):ZS X (.AugAssign (.Attribute o f pos') .Add (.Constant (.int j) kk q) pos) (gL X.K (wD c f fo j)):=by exists PS.imp (JAd ho hv Md) (JEe N hf)
def RF {X:Cx}{es:Tl}{ga:FA}(h:ZA X es (js X.K ga)):ZE X (.List es pos) (aN X.K (PP ga)):=by exists PE.imp (Dx h) Of
def OA {X:Cx}{a b:AD}{fa fb:FE}(ha:ZE X a (aN X.K fa))(hb:ZE X b (aN X.K fb))(hs:v8 b:=by intro _ _;rfl):ZE X (.Subscript a b pos) (aN X.K (ax Jt fa fb)):=by exists PE.imp (Jj D3 ha hb hs) (jU Pv)
def vf {X:Cx}{a b:AD}{fa fb:FE}(ha:ZE X a (aN X.K fa))(hb:ZE X b (aN X.K fb)):ZE X (.BinOp a .Mult b pos) (aN X.K (ax qm fa fb)):=by exists PE.imp (qK Gm ha hb) (jU Mj)
def eM {E:XK}{sts:Tn}:ZX X E sts wk:=by exists R.eM
def bj {E:XK}{st:AN}{sts:Tn}{x:XB}(h:MT X E st x):ZX X E (st::sts) x:=by exists R.bj h
def kr {E:XK}{sts:Tn}{x y:XB}(h:ZX X E sts x)(h':ZX X E sts y):ZX X E sts (nN x y):=by exists R.kr h h'
def eL {X:Cx}{E:XK}{st:AN}{sts:Tn}{x:XB}{a:FS}(h:ZS X st (gL X.K a))(h':ZX X E sts x):ZX X E (st::sts) (jg a x):=by exists R.eL h h'
def jV {X:Cx}{E:XK}{aa bb:Tn}{x y:XB}{t:FT}{c:AD}(hc:ZT X c (iP X.K t))(ha:ZX X E aa x)(hb:ZX X E bb y):MT X E (.If c aa bb pos) (xC t x y):=by exists R.jV hc ha hb
def ji {X:Cx}{E:XK}{st:AN}{x:XB}(h:M7 X st x)(p:l6 (sZ X.prog X.w X.base) X E):MT X E st x:=by exists R.ji h p
def gO {X:Cx}{k:Nat}{x:Str}{ps:To}{xf:A0 D->UO Str}{e:AD}{es:Tl}{ga:FA}{p pos:Pos}{n:Nat}(F:fG X.prog X.w X.K X.mg X.base k x ps xf)(hr:cr k X.A)(ha:∀xe,ZA (X.wish xe) (e::es) (js X.K ga))(hg:Gl X x:=by rfl)(hn:ps.length=n:=by rfl)
  (BB:(x == ("__debug__" : Str))=false:=by decide) (he:oF e es X:=by exact aH rfl) (hpl:(backTo pos (starEach es X.env)).any (·.1)=false:=by exact bi rfl) :
  xz X (.Call (.Name x p) (e::es) [] pos) (ma xf n ga):=by
 exists R.gO F hr ha hg hn BB he hpl
def nk {X:Cx}{pos:Pos}{x:XB}(he:xz X e x)(hs:swapsWith e none pos.line X.env=pure false:=by rfl):M7 X (.Expr e pos) x:=by exists R.nk he hs
def jz {x:XB}(he:xz X e x):M7 X (.Return (some e) pos) x:=by exists R.jz he
def lH {X:Cx}{pos:Pos}{x:XB}{y:Str}{pos':Pos}(he:xz X e x)(hs:swapsWith e (some (.Name y pos')) pos.line X.env=pure false:=by rfl):M7 X (.Assign [.Name y pos'] e pos) x:=by exists R.lH he hs
def Jl {P:A7}{w:AF}{K:AJ}{mg:Te}{base:AG}{x:Str}{st:AN}{N ps:To}{k:Nat}{b:XB}{f:A4}{fd:FuncData}(F:pz K x x st f fd)(B:fH K fd ps [])(M:mg x=some (.ref f))(S:aK N ps (aj st))
  (AR:∀(AP:A6) (A:AI) (outer:A0 Env) (s:A2) (H:Hp) (E:XK),cr k (A.deeper (envOfC x (aj st) s.heap.objs.size f AP))->ZX (gR (sZ P w base) P w K mg base N x (aj st) f AP A outer s H E) E (b4 st) b) :
  fG P w K mg base (k+1) x ps (wE N.length b):=by
 exists R.Jl F B M S AR
def okXW {P:A7}{w:AF}{K:AJ}{mg:Te}{base:AG}{x:Str}{st:AN}{N ps:To}{k:Nat}{b:XB}(d:b7 K mg x st ps)(S:aK N ps (aj st))
  (AR:∀(f:A4) (AP:A6) (A:AI) (outer:A0 Env) (s:A2) (H:Hp) (E:XK),cr k (A.deeper (envOfC x (aj st) s.heap.objs.size f AP))->ZX (gR (sZ P w base) P w K mg base N x (aj st) f AP A outer s H E) E (b4 st) b) :
  l9 P w K mg base (k+1) x ps (jS N.length b):=by
 exists R.okXW d S AR
def vw {P:A7}{w:AF}{K:AJ}{mg:Te}{base:AG}{nm qual:Str}{C:A4}{st:AN}{N ps:To}{k:Nat}{b:XB}(d:fw K C nm qual st ps)(S:aK N ps (aj st))
  (AR:∀(f:A4) (AP:A6) (A:AI) (outer:A0 Env) (s:A2) (H:Hp) (E:XK),cr k (A.deeper (envOfC qual (aj st) s.heap.objs.size f AP))->ZX (gR (sZ P w base) P w K mg base N qual (aj st) f AP A outer s H E) E (b4 st) b) :
  b6 P w K mg base (k+1) nm C ps (jS N.length b):=by
 exists R.vw d S AR
def nh {X:Cx}{k:Nat}{x:Str}{ps:To}{xf:og}{e:AD}{es:Tl}{ga:FA}{p pos:Pos}{n:Nat}(F:l9 X.prog X.w X.K X.mg X.base k x ps xf)(hr:cr k X.A)(ha:∀xe,ZA (X.wish xe) (e::es) (js X.K ga))(hg:Gl X x:=by rfl)(hn:ps.length=n:=by rfl)
  (BB:(x == ("__debug__" : Str))=false:=by decide) (he:oF e es X:=by exact aH rfl) (hpl:(backTo pos (starEach es X.env)).any (·.1)=false:=by exact bi rfl) :
  xz X (.Call (.Name x p) (e::es) [] pos) (ik xf n ga):=by
 exists R.nh F hr ha hg hn BB he hpl
def dJ {X:Cx}{k:Nat}{c nm:Str}{C:A4}{ps:To}{xf:og}{o:AD}{fo:FE}{apos pos:Pos}{n:Nat}{pl:Sem A9}(N:lw X.K X.mg c C)(F:b6 X.prog X.w X.K X.mg X.base k nm C ps xf)(hr:cr k X.A)(ho:∀xe,ZE (X.wish xe) o (aN X.K fo))(hn:ps.length=n:=by rfl)
  (ht:eval (.Call (.Attribute o nm apos) [] [] pos) X.env=(do
   let ov ←eval o X.env
   standAt apos.atName
   let (mth,first) ←holding [ov] (getMethod ov nm pl)
   callWith pos mth first (backTo pos (starEach [] X.env)) (backToKw pos (keywordEach [] X.env))):=by rfl) :
  xz X (.Call (.Attribute o nm apos) [] [] pos) (dH c nm xf n fo ai):=by
 exists R.dJ N F hr ho hn ht
def sf {X:Cx}{k:Nat}{c:Str}{C:A4}{ps:To}{xf:og}{e:AD}{es:Tl}{ga:FA}{p pos:Pos}{n:Nat}(N:lw X.K X.mg c C)(hk:PySem.W.makesIn X.K C=true)(hp:PySem.W.keepIn X.K (.ref C)=true)(F:b6 X.prog X.w X.K X.mg X.base k "__init__" C ps xf)(hr:cr (k+1) X.A)(ha:∀xe,ZA (X.wish xe) (e::es) (js X.K ga))(hg:Gl X c:=by rfl)(hn:ps.length=n:=by rfl)
  (BB:(c == ("__debug__" : Str))=false:=by decide) (he:oF e es X:=by exact aH rfl) (hpl:(backTo pos (starEach es X.env)).any (·.1)=false:=by exact bi rfl):xz X (.Call (.Name c p) (e::es) [] pos) (rG c xf n ga):=by
 exists R.sf N hk hp F hr ha hg hn BB he hpl
def pJ {X:Cx}{k:Nat}{y:Str}{ps:To}{mf:MF}{x:XB}{e:AD}{es:Tl}{p pos:Pos}(F:bV X.prog X.w X.K X.mg X.base k y ps mf)(h:Ht X (e::es) x)(hg:Gl X y:=by rfl)(BB:(y == ("__debug__" : Str))=false:=by decide)
  (he:oF e es X:=by exact aH rfl) (hpl:(backTo pos (starEach es X.env)).any (·.1)=false:=by exact bi rfl):xz X (.Call (.Name y p) (e::es) [] pos) x:=by
 exists R.pJ F h hg BB he hpl
def ut {X:Cx}{y:Str}{T:String}{x:XB}{e:AD}{es:Tl}{p pos:Pos}(hg:Gl X y)(hm:X.mg y=none)(hv:bootBuiltins y=some (.type T))(h:Ht X (e::es) x)(hn:y≠"__name__":=by decide)(BB:(y == ("__debug__" : Str))=false:=by decide)
  (he:oF e es X:=by exact aH rfl) (hpl:(backTo pos (starEach es X.env)).any (·.1)=false:=by exact bi rfl):xz X (.Call (.Name y p) (e::es) [] pos) x:=by
 exists yj h hg hm hv hn BB he hpl
def lG {X:Cx}{x:XB}{es:Tl}(h:xz X e x)(hs:oF e es X:=by exact aH rfl):Ht X (e::es) x:=by exists JC3 h hs
def JEf {X:Cx}{x:XB}{es:Tl}{fa:FE}(h:∀xe,ZE (X.wish xe) e (aN X.K fa))(h':Ht X es x)(hs:oF e es X:=by exact aH rfl):Ht X (e::es) (oS fa x):=by exists JC2 h h' hs
def KS {x:XB}{es:Tl}{x1}(h:Ht X es x):xz X (.Tuple es x1 pos) x:=by exists JEh h
def JDd {X:Cx}{x:XB}{a b:AD}{op:Operator}{fa:FE}(ha:∀xe,ZE (X.wish xe) a (aN X.K fa))(hb:EY X b x):EY X (.BinOp a op b pos) (oS fa x):=by exists JCz ha hb
def Dd {x y:XB}(h:xz X e x)(h':xz X e y):xz X e (nN x y):=by exists K2 h h'
def HD {x y:XB}(h:EY X e x)(h':EY X e y):EY X e (nN x y):=by exists K1 h h'
def Nc {x y:XB}{es:Tl}(h:Ht X es x)(h':Ht X es y):Ht X es (nN x y):=by exists K3 h h'
def wj {X:Cx}{x:XB}{elt tg iter:AD}{ifs:Tl}(own caps:To)(n:aV X.env.scope scope own caps)(h:xz X iter x)(hs:∀x,foldedSetIterable iter X.env x=pure x:=by intro _;rfl):EY X (.ListComp elt [{tg,iter,ifs,0}] scope pos) x:=by exists JAv n h hs
def JC1 {X:Cx}{x:XB}{o e:AD}{f:Str}{pos pos':Pos}(he:xz X e x)(hs:swapsWith e (some (.Attribute o f pos')) pos.line X.env=pure false:=by rfl):M7 X (.Assign [.Attribute o f pos'] e pos) x:=by exists JEi he hs
def Je {X:Cx}{tbl:Str->UO A9}{v:V}{u:A6}{e c:AD}{fa:FE}{p pos:Pos}(hf:X.mg "isinstance" = none)(hc:ZE X c (tC v))(hv:bQ v u)(hu:∀u',bQ v u'->u'=u)(hO:∀c C b,tbl c=some b->eF X.K c C->kW X.K C/\PySem.W.kitOne X.K (.ref C) u=some b)(ha:ZE X e (aN X.K fa))
  (hg:Gl X "isinstance":=by rfl) (hs1:starEach [e,c] X.env=(false,eval e X.env)::starEach [c] X.env:=by exact aH rfl) (F9:starEach [c] X.env=(false,eval c X.env)::starEach [] X.env:=by exact aH rfl) (hpl:(backTo pos (starEach [c] X.env)).any (·.1)=false:=by exact bi rfl) :
  ZE X (.Call (.Name "isinstance" p) [e,c] [] pos) (aN X.K (fT (xk tbl) fa)):=by
 exists PE.imp (jk (JDu hv hu hO) hg hf ∅ (gX ha (gX hc lJ F9) hs1) ∅ ∅ hs1 hpl) KC
def KU {X:Cx}{tbl:Str->UO A9}{vs:A0 V}{us':Tf}{e:AD}{cs:Tl}{x1:Nat}{fa:FE}{p p2 pos:Pos}(hf:X.mg "isinstance" = none)(hc:ZA X cs (Ka vs))(hz:vs.length<=sizeLine)(hu:∀us,bO vs us->us=us')(hO:∀c C b,tbl c=some b->eF X.K c C->kW X.K C/\PySem.W.kitAny X.K (.ref C) us'=some b)(ha:ZE X e (aN X.K fa))
  (hg:Gl X "isinstance":=by rfl) (hs1:starEach [e,.Tuple cs x1 p2] X.env=(false,eval e X.env)::starEach [.Tuple cs x1 p2] X.env:=by exact aH rfl) (F9:starEach [.Tuple cs x1 p2] X.env=(false,eval (.Tuple cs x1 p2) X.env)::starEach [] X.env:=by exact aH rfl) (hpl:(backTo pos (starEach [.Tuple cs x1 p2] X.env)).any (·.1)=false:=by exact bi rfl) :
  ZE X (.Call (.Name "isinstance" p) [e,.Tuple cs x1 p2] [] pos) (aN X.K (fT (xk tbl) fa)):=by
 exists PE.imp (jk (JA8 hu hO) hg hf ∅ (gX ha (gX (Du hc) lJ F9) hs1) ∅ ∅ hs1 hpl) (Fy hz)
def si {X:Cx}{x:Str}{v:V}{u:A6}(hm:X.mg x=some u)(r:bQ v u)(hg:Gl X x:=by rfl)(hd:(x == ("__debug__" : Str))=false:=by decide):ZE X (.Name x pos) (tC v):=by exists vj hg hm r hd
def OG {X:Cx}{x:Str}{v:V}{u:A6}(hm:X.mg x=none)(hv:bootBuiltins x=some u)(r:bQ v u)(hg:Gl X x:=by rfl)(hn:x≠"__name__":=by decide)(hd:(x == ("__debug__" : Str))=false:=by decide):ZE X (.Name x pos) (tC v):=by exists zM hg hm hv r hn hd
def OF:ZA X [] (Ka []):=by exists lJ
def uw {X:Cx}{es:Tl}{v:V}{vs:A0 V}(h:ZE X e (tC v))(h':ZA X es (Ka vs))(hs:oF e es X:=by exact aH rfl):ZA X (e::es) (Ka (v::vs)):=by exists gX h h' hs
def N4 {X:Cx}{st:AN}{cx n:Str}{CH:A4}{np FQ pos:Pos}{b₀:AN}{suite:Tn}{xb:XB}{nb hb:FS}{i:Nat}{cs:To}(hN:X.N.Nodup)(hm:X.mg cx=some (.ref CH))(OH:j7 X.K CH)(hO:∀c C,cs.contains c=true->eF X.K c C->j7 X.K C/\kK X.K C CH=true)
  (hn:ZS X.nox st (gL X.K nb)) (hx:M7 X st xb) (hs:∀ea,Az (inh X ea) (b₀::suite) (gL X.K hb)) (CW:X.stack=X.env::X.outer:=by rfl) (C5:X.env.frame=some X.env.locals:=by rfl) (hex:X.ex=[]:=by rfl) (hg:Gl X cx:=by rfl)
  (hi:X.N[i]?=some n:=by rfl) (hl:X.env.scope.names.lookup n=some .local:=by rfl) (hd:(cx == ("__debug__" : Str))=false:=by decide) :
  ZS X (.Try [st] [.ExceptHandler (some (.Name cx np)) (some n) (b₀::suite) FQ] [] [] pos) (gL X.K (CS cs xb nb i hb)):=by
 exists Kk CW C5 hex hn hx hg hm OH hO hN hi hl hs hd
def nS {X:Cx}{E:XK}{c:Str}{C:A4}{a:Str}{j:Nat}{np p1 AX pos:Pos}(hm:X.mg c=some (.ref C))(hk:eF X.K c C)(Ozz:j7 X.K C)
  (hX:∀{A1 Y H s h' e args},aS X A1 Y H s->Heap.MadeExcOf s.heap h' e (.ref C) args->E (.ref C) none H->X.xe (.ref e) {s with heap:=h'}) (hc:X.calm=true:=by rfl) (hg:Gl X c:=by rfl) (hd:(c == ("__debug__" : Str))=false:=by decide)
  (he:starEach [.Constant (.str a) j p1] X.env=(false,eval (.Constant (.str a) j p1) X.env)::starEach [] X.env:=by exact aH rfl):MT X E (.Raise (some (.Call (.Name c np) [.Constant (.str a) j p1] [] AX)) none pos) (fN c λ_=>true):=by
 exists qg (ta:=tC (.str a)) hc hm hk Ozz hg vh (λ_ _ _=>{rfl,rfl}) hX hd he
def nT {X:Cx}{E:XK}{c:Str}{C:A4}{a x:Str}{i j:Nat}{np p1 p2 p3 p4 AX pos:Pos}(hm:X.mg c=some (.ref C))(hk:eF X.K c C)(Ozz:j7 X.K C)
  (hX:∀{A1 Y H s h' e args},aS X A1 Y H s->Heap.MadeExcOf s.heap h' e (.ref C) args->E (.ref C) none H->X.xe (.ref e) {s with heap:=h'}) (hx:ZE X (.Name x p2) (xU i)) (hc:X.calm=true:=by rfl) (hg:Gl X c:=by rfl) (hd:(c == ("__debug__" : Str))=false:=by decide)
  (he:starEach [.JoinedStr [.Constant (.str a) j p1,.FormattedValue (.Name x p2) 114 none p3] p4] X.env=(false,eval (.JoinedStr [.Constant (.str a) j p1,.FormattedValue (.Name x p2) 114 none p3] p4) X.env)::starEach [] X.env:=by exact aH rfl) :
  MT X E (.Raise (some (.Call (.Name c np) [.JoinedStr [.Constant (.str a) j p1,.FormattedValue (.Name x p2) 114 none p3] p4] [] AX)) none pos) (fN c (qi a i)):=by
 exists qg (ta:=Ry a i) hc hm hk Ozz hg (OQ hx) Gv hX hd he
def Pd:Rl X [] (λ_=>true):=by exists .nil
def vK {es:Tl}{p q:Lo->A9}(h1:ZJ X e p)(h2:Rl X es q):Rl X (e::es) (λO=>p O&&q O):=by exists .cons h1 h2
def Jr {a:Str}{j:Nat}{p1:Pos}(h:a.length<=1048576:=by decide):ZJ X (.Constant (.str a) j p1) (λ_=>true):=by exists Lg h
def Js {x:Str}{i:Nat}{p2 p3:Pos}(hx:ZE X (.Name x p2) (xU i)):ZJ X (.FormattedValue (.Name x p2) (-1) none p3) (su i):=by exists Lh hx
def JAc {X:Cx}{E:XK}{c:Str}{C:A4}{v₁ v₂:AD}{rest:Tl}{ok:Lo->A9}{np p4 AX pos:Pos}(hm:X.mg c=some (.ref C))(hk:eF X.K c C)(Ozz:j7 X.K C)
  (hX:∀{A1 Y H s h' e args},aS X A1 Y H s->Heap.MadeExcOf s.heap h' e (.ref C) args->E (.ref C) none H->X.xe (.ref e) {s with heap:=h'}) (h:Rl X (v₁::v₂::rest) ok) (hn:(v₁::v₂::rest).length<=14:=by decide) (hc:X.calm=true:=by rfl) (hg:Gl X c:=by rfl) (hd:(c == ("__debug__" : Str))=false:=by decide)
  (he:starEach [.JoinedStr (v₁::v₂::rest) p4] X.env=(false,eval (.JoinedStr (v₁::v₂::rest) p4) X.env)::starEach [] X.env:=by exact aH rfl) :
  MT X E (.Raise (some (.Call (.Name c np) [.JoinedStr (v₁::v₂::rest) p4] [] AX)) none pos) (fN c ok):=by
 exists qg (ta:=tJ X.K ok) hc hm hk Ozz hg (JAh h hn) NS hX hd he
def Ju {X:Cx}{tg a:AD}{fa:FE}{p pos:Pos}(hg:Gl X "range")(hm:X.mg "range" = none)(ha:ZE X a (aN X.K fa))(hs:starEach [a] X.env=[(false,eval a X.env)]:=by exact aH rfl):ZI X tg (.Call (.Name "range" p) [a] [] pos) (wa X.K (qR fa)):=by exists PI.imp (JAf hg hm (ae ha am hs) hs) JD6
def mB {X:Cx}{elt tg iter:AD}{ifs:Tl}{scope:Scope}{pos:Pos}{fi:FI}{g:FG}{ta:FT}{fa:FE}{xb:XB}{L:A4}{outer:A0 Env}(ix:A0 Nat)(own caps:To)(CW:X.stack=X.env::outer)(hL:X.env.frame=some L)(hc:X.calm=true)(n:aV X.env.scope scope own caps)(hi:∀xe,ZI (X.wish xe) tg iter (wa X.K fi))
  (hb:∀cl C s₂ H₂ fp,ZG (aQ X scope cl C s₂ H₂ fp (own++caps)) tg (wb X.K g)/\EM (aQ X scope cl C s₂ H₂ fp (own++caps)) ifs (iP X.K ta)/\ZE (aQ X scope cl C s₂ H₂ fp (own++caps)) elt (aN X.K fa)/\xz (aQ X scope cl C s₂ H₂ fp (own++caps)) elt xb)
  (BQ:ix.map (λi=>X.N[i]?)=caps.map some:=by rfl)
  (hs:∀x,foldedSetIterable iter X.env x=pure x:=by intro _;rfl):EY X (.ListComp elt [{tg,iter,ifs,0}] scope pos) (jq ix own.length fi g ta fa xb):=by
 exists R.mB ix own caps CW hL hc n hi hb BQ hs
def p5 {X:Cx}{x:Str}{T:String}{e:AD}{p pos:Pos}{xb:XB}(hg:Gl X x)(hm:X.mg x=none)(hv:bootBuiltins x=some (.type T))(h:EY X e xb)(hn:x≠"__name__":=by decide)(BB:(x == ("__debug__" : Str))=false:=by decide)
  (he:starEach [e] X.env=(false,eval e X.env)::starEach [] X.env:=by exact aH rfl) (hpl:(backTo pos (starEach [] X.env)).any (·.1)=false:=by exact bi rfl):EY X (.Call (.Name x p) [e] [] pos) xb:=by
 exists yi h hg hm hv hn BB he hpl
def xH {E:XK}{x:XB}(he:EY X e x)(p:v9 X E):MT X E (.Return (some e) pos) x:=by exists JDw he p
def AU {X:Cx}(i:Nat){x:Str}{pos:Pos}(hN:X.N[i]?=some x:=by rfl)(hv:M8 X.env.scope x:=by first|exact Or.inl rfl|exact Or.inr (Or.inl rfl)|exact Or.inr (Or.inr rfl))(hd:(x == ("__debug__" : Str))=false:=by decide)
  (Bp:(x == ("__classdict__" : Str))=false:=by decide):ZE X (.Name x pos) (xU i):=by
 exists Dt hN hv hd Bp
def zG {X:Cx}{a:AD}{fa:FE}{p2 pos:Pos}{lo hi:UO AD}{fl fh:FO}(ha:ZE X a (aN X.K fa))(hl:ZO X lo (AS X.K fl))(hh:ZO X hi (AS X.K fh)):ZE X (.Subscript a (.Slice lo hi none p2) pos) (aN X.K (qz fa fl fh)):=by exists PE.imp (wL Kg ha hl hh) Ku
def zI {X:Cx}{a b:AD}{fa fb:FE}(ha:ZE X a (aN X.K fa))(hb:ZE X b (aN X.K fb))(hs:xA b:=by intro _ _;rfl):ZE X (.Subscript a b pos) (aN X.K (ax D5 fa fb)):=by exists PE.imp (wM ha hb hs) (jU Pu)
def qf {X:Cx}{es:Tl}{ga:FA}{p pos:Pos}(hg:Gl X "len")(hm:X.mg "len" = none)(ha:ZA X (e::es) (js X.K ga))(he:oF e es X:=by exact aH rfl)(hpl:(backTo pos (starEach es X.env)).any (·.1)=false:=by exact bi rfl) :
  ZE X (.Call (.Name "len" p) (e::es) [] pos) (aN X.K (fF qo ga)):=by
 exists PE.imp (jk vZ hg hm PySem.boot_len ha (he:=he) (hpl:=hpl)) (pI Ml)
def Df {X:Cx}{es:Tl}{ga:FA}{p pos:Pos}(hg:Gl X "int")(hm:X.mg "int" = none)(ha:ZA X (e::es) (js X.K ga))(he:oF e es X:=by exact aH rfl)(hpl:(backTo pos (starEach es X.env)).any (·.1)=false:=by exact bi rfl) :
  ZE X (.Call (.Name "int" p) (e::es) [] pos) (aN X.K (fF vL ga)):=by
 exists PE.imp (nU JA9 hg hm ∅ ha (he:=he) (hpl:=hpl)) (pI Mn)
def OD {X:Cx}{a b:AD}{fa fb:FE}(ha:ZE X a (aN X.K fa))(hb:ZE X b (aN X.K fb))(hm:behindInMarks .In b=false:=by rfl):ZE X (.Compare a [.In] [b] pos) (aN X.K (ax (uH false) fa fb)):=by exists PE.imp (vm JAi ha hb hm) (jU Px)
def Cy {X:Cx}{a b:AD}{fa fb:FE}(ha:ZE X a (aN X.K fa))(hb:ZE X b (aN X.K fb))(hm:behindInMarks .NotIn b=false:=by rfl):ZT X (.Compare a [.NotIn] [b] pos) (iP X.K (fB (ax (uH true) fa fb))):=by exists R.oz vq Mi ha hb hm
def RE {X:Cx}{a b c:AD}{fa fb fc:FE}(ha:ZE X a (aN X.K fa))(hb:ZE X b (aN X.K fb))(hc:ZE X c (aN X.K fc))(hm:lastMarks [.LtE,.LtE] [b,c]=false:=by with_unfolding_all rfl):ZE X (.Compare a [.LtE,.LtE] [b,c] pos) (aN X.K (QO M4 M4 fa fb fc)):=by exists PE.imp (JCn Jk Jk ha hb hc hm) (Oe Pt Pt)
def Ea {X:Cx}{tg a:AD}{fa:FE}(ha:ZE X a (aN X.K fa)):ZI X tg a (wa X.K (sQ fa)):=by exists PI.imp (Li ha) Fz
def Ox {X:Cx}{e o:AD}{fa fb:FE}{apos AX:Pos}(ho:ZE X o (aN X.K fa))(hb:ZE X e (aN X.K fb))(BM:attributeBase o "startswith" X.env (eval o X.env)=eval o X.env:=by rfl)
  (C7:((backTo AX (starEach [e] X.env)).all (λx=>!x.1)&&(backToKw AX (keywordEach [] X.env)).all (λx=>x.1.isSome)
   && decide ([e].length+([]:A0 Keyword).length+(if ([]:A0 Keyword).isEmpty then 0 else 1)<30))=true:=by rfl)
  (BL:(apos.endLine == AX.line)=true:=by rfl) (hs:starEach [e] X.env=(false,eval e X.env)::starEach [] X.env:=by exact aH rfl) (BN:(backTo AX (starEach [] X.env)).any (·.1)=false:=by exact bi rfl) :
  ZE X (.Call (.Attribute o "startswith" apos) [e] [] AX) (aN X.K (M6 fa fb)):=by
 exists PE.imp (zL PySem.F.plainAttrs_str PySem.F.slot_str_startswith PySem.F.type_str_startswith O6 ho (gX hb lJ hs) BM C7 BL hs BN) N9
def sh {X:Cx}{e o:AD}{fa fb:FE}{apos AX:Pos}(ho:ZE X o (aN X.K fa))(hb:ZE X e (aN X.K fb))(BM:attributeBase o "join" X.env (eval o X.env)=eval o X.env:=by rfl)
  (C7:((backTo AX (starEach [e] X.env)).all (λx=>!x.1)&&(backToKw AX (keywordEach [] X.env)).all (λx=>x.1.isSome)
   && decide ([e].length+([]:A0 Keyword).length+(if ([]:A0 Keyword).isEmpty then 0 else 1)<30))=true:=by rfl)
  (BL:(apos.endLine == AX.line)=true:=by rfl) (hs:starEach [e] X.env=(false,eval e X.env)::starEach [] X.env:=by exact aH rfl) (BN:(backTo AX (starEach [] X.env)).any (·.1)=false:=by exact bi rfl) :
  ZE X (.Call (.Attribute o "join" apos) [e] [] AX) (aN X.K (ax nB fa fb)):=by
 exists PE.imp (zL PySem.F.plainAttrs_str PySem.F.slot_str_join PySem.F.type_str_join GB ho (gX hb lJ hs) BM C7 BL hs BN) (C6 Mm)
def ve {X:Cx}{e o:AD}{fa fb:FE}{apos AX:Pos}(ho:ZE X o (aN X.K fa))(hb:ZE X e (aN X.K fb))(BM:attributeBase o "split" X.env (eval o X.env)=eval o X.env:=by rfl)
  (C7:((backTo AX (starEach [e] X.env)).all (λx=>!x.1)&&(backToKw AX (keywordEach [] X.env)).all (λx=>x.1.isSome)
   && decide ([e].length+([]:A0 Keyword).length+(if ([]:A0 Keyword).isEmpty then 0 else 1)<30))=true:=by rfl)
  (BL:(apos.endLine == AX.line)=true:=by rfl) (hs:starEach [e] X.env=(false,eval e X.env)::starEach [] X.env:=by exact aH rfl) (BN:(backTo AX (starEach [] X.env)).any (·.1)=false:=by exact bi rfl) :
  ZE X (.Call (.Attribute o "split" apos) [e] [] AX) (aN X.K (ax u9 fa fb)):=by
 exists PE.imp (zL PySem.F.plainAttrs_str PySem.F.slot_str_split PySem.F.type_str_split JCq ho (gX hb lJ hs) BM C7 BL hs BN) (C6 Pj)
def OB {X:Cx}{a b:AD}{fa fb:FE}(ha:ZE X a (aN X.K fa))(hb:ZE X b (aN X.K fb))(hm:behindInMarks .In b=false:=by rfl):ZE X (.Compare a [.In] [b] pos) (aN X.K (ax (uF false) fa fb)):=by exists PE.imp (vm nV ha hb hm) (jU Ee)
def Iv {X:Cx}{a b:AD}{fa fb:FE}(ha:ZE X a (aN X.K fa))(hb:ZE X b (aN X.K fb))(hm:behindInMarks .In b=false:=by rfl):ZT X (.Compare a [.In] [b] pos) (iP X.K (fB (ax (uF false) fa fb))):=by exists R.oz nV Ee ha hb hm
def J5 {X:Cx}{a b:AD}{fa fb:FE}(ha:ZE X a (aN X.K fa))(hb:ZE X b (aN X.K fb))(hm:behindInMarks .NotIn b=false:=by rfl):ZT X (.Compare a [.NotIn] [b] pos) (iP X.K (fB (ax (uF true) fa fb))):=by exists R.oz vt Ee ha hb hm
def Iw {X:Cx}{a b:AD}{fa fb:FE}(ha:ZE X a (aN X.K fa))(hb:ZE X b (aN X.K fb))(hm:behindInMarks .In b=false:=by rfl):ZT X (.Compare a [.In] [b] pos) (iP X.K (fB (ax (M5 false) fa fb))):=by exists R.oz nV Pz ha hb hm
def OE {X:Cx}{a b:AD}{fa fb:FE}(hu:X.A.units+64<cLine)(ha:ZE X a (aN X.K fa))(hb:ZE X b (aN X.K fb))(hs:MV b:=by intro _ _;rfl):ZE X (.Subscript a b pos) (aN X.K (BF fa fb)):=by exists PE.imp (Gg ∅ ha hb hs) KL
def yh {X:Cx}{a b:AD}{fa fb:FE}(ha:ZE X a (aN X.K fa))(hb:ZE X b (aN X.K fb)):ZE X (.BinOp a .Add b pos) (aN X.K (ax re fa fb)):=by exists PE.imp (qK Gp ha hb) (jU Mq)
def NM {X:Cx}{a b:AD}{fa fb:FE}(hu:X.A.units+64<cLine)(ha:ZE X a (aN X.K fa))(hb:ZE X b (aN X.K fb))(hm:behindInMarks .In b=false:=by rfl):ZT X (.Compare a [.In] [b] pos) (iP X.K (fB (ax (GQ false) fa fb))):=by exists R.oz (nV.or (JBe hu)) PB ha hb hm
def KZ {X:Cx}{x:Str}{p apos AX:Pos}{fa:FE}{l:A0 (Str×D)}(h:AB X.K X.w X.mg x l)(he:ZE X e (aN X.K fa))(m:M1 X (.Name x p) "get" apos e AX:=by exact{rfl,rfl,rfl,rfl})(hg:Gl X x:=by rfl)(hd:(x == ("__debug__" : Str))=false:=by decide):ZE X (.Call (.Attribute (.Name x p) "get" apos) [e] [] AX) (aN X.K (Em l fa)):=by exists PE.imp (Gh h hg hd he m) JEc
def lc {X:Cx}{b:Tn}:Az X b (gL X.K eU):=by exists R.lc
section
variable {X:Cx}{e o:AD}{es:Tl}{fa:FE}{ga:FA}{apos AX:Pos}
def pK (ho:ZE X o (aN X.K fa))(ha:ZA X (e::es) (js X.K ga))(BM:attributeBase o "append" X.env (eval o X.env)=eval o X.env:=by rfl)
  (C7:((backTo AX (starEach (e::es) X.env)).all (λx=>!x.1)&&(backToKw AX (keywordEach [] X.env)).all (λx=>x.1.isSome)
   && decide ((e::es).length+([]:A0 Keyword).length+(if ([]:A0 Keyword).isEmpty then 0 else 1)<30))=true:=by rfl)
  (BL:(apos.endLine == AX.line)=true:=by rfl) (hs:oF e es X:=by exact aH rfl) (BN:(backTo AX (starEach es X.env)).any (·.1)=false:=by exact bi rfl) :
  ZE X (.Call (.Attribute o "append" apos) (e::es) [] AX) (aN X.K (uO pq fa ga)):=by
 exists PE.imp (zL PySem.F.plainAttrs_list PySem.F.slot_list_append PySem.F.type_list_append JBf ho ha BM C7 BL hs BN) (Ob PF)
def De (ho:ZE X o (aN X.K fa))(BM:attributeBase o "pop" X.env (eval o X.env)=eval o X.env:=by rfl)(BL:(apos.endLine == AX.line)=true:=by rfl) :
  ZE X (.Call (.Attribute o "pop" apos) [] [] AX) (aN X.K (uO nq fa ai)):=by
 exists PE.imp (Lp PySem.F.plainAttrs_list PySem.F.slot_list_pop PySem.F.type_list_pop LP ho BM BL) (Kz Mf)
end
def Mr {P:A7}{w:AF}{K:AJ}{mg:Te}{base:AG}{x qual:Str}{st:AN}{f:A4}{fd:FuncData}{N ps:To}{k:Nat}{b:FS}(F:pz K x qual st f fd)(S:aK N ps (aj st))
  (AR:∀(AP:A6) (A:AI) (outer:A0 Env) (s:A2) (H:Hp) (E:XK),cr k (A.deeper (envOfC qual (aj st) s.heap.objs.size f AP))->Az (gR oh P w K mg base N qual (aj st) f AP A outer s H E).nox (b4 st) (gL K b)) :
  dF P w K mg base oh (k+1) f fd ps (Fn K ps.length (gN N.length b)):=by
 exists pz.okP F S AR
def UQ {P:A0 A6->Prop}(h:P []):∀us:Tf,us.length=0->P us:=λus e=>by rw[List.length_eq_zero_iff.mp e];exact h
theorem Nl {P:A0 A6->Prop}{n:Nat}(h:∀a us,us.length=n->P (a::us)):∀us:Tf,us.length=n+1->P us:=λus e=>by
 cases us with
 |nil=>cases e
 |cons a us=>exact h a us (Nat.succ.inj e)
def wq {P:A0 A6->Prop}(h:∀a,P [a]):∀us:Tf,us.length=1->P us:=Nl λa=>UQ (P:=λus=>P (a::us)) (h a)
def B6 {P:A0 A6->Prop}(h:∀a b,P [a,b]):∀us:Tf,us.length=2->P us:=Nl λa=>wq (P:=λus=>P (a::us)) (h a)
def EV {P:A0 A6->Prop}(h:∀a b c,P [a,b,c]):∀us:Tf,us.length=3->P us:=Nl λa=>B6 (P:=λus=>P (a::us)) (h a)
def TN {P:A0 A6->Prop}(h:∀a b c d,P [a,b,c,d]):∀us:Tf,us.length=4->P us:=Nl λa=>EV (P:=λus=>P (a::us)) (h a)
def UP {P:A0 A6->Prop}(h:∀a b c d e,P [a,b,c,d,e]):∀us:Tf,us.length=5->P us:=Nl λa=>TN (P:=λus=>P (a::us)) (h a)
section
variable {K:AJ}{h:AG}{mg:Te}{x:Str}{st:AN}{ps:To}
def FK (K:AJ)(x:Str)(st:AN):Prop:=∃f:A4,PySem.W.nsIn K mainGlobals x=some (some (.ref f))/\∃(oc:A6) (od:UO A4) (kV dc pm:A6) (an:UO A4) (cd ct:A6) (sl:AW (Ti)),
 K.lookup f=some {oc,od,.func (PySem.W.fnOf x x (jC st) (b4 st) (aj st) .none kV dc pm an cd ct),sl}/\PySem.W.codeIn K cd x=true/\PySem.W.keepIn K (.ref f)=true
abbrev JG (x:Str)(st:AN)(ps:To):Prop:=∀(kV doc pm:A6) (an:UO A4) (AP ct:A6) (us:Tf),us.length=ps.length->bindArgs (PySem.W.fnOf x x (jC st) (b4 st) (aj st) .none kV doc pm an AP ct) {us,[]}=pure (ps.zip us)
def FK.at_ (a:FK K x st)(X:K.In h)(G:h.Ns mainGlobals mg)(hb:JG x st ps):b7 K mg x st ps:=by let⟨f,a,oc,od,kV,dc,pm,an,cd,ct,sl,l,c,k⟩:=a;have F:=yN l c k;exact{_,_,F,F.binds hb,CN X G a}
def Hz (K:AJ)(C:A4)(nm qual:Str)(st:AN):Prop:=∃f:A4,PySem.W.findIn K (.ref C) nm=some (some (.ref f))/\PySem.W.isFn K (.ref f)=true/\∃(oc:A6) (od:UO A4) (kV dc pm:A6) (an:UO A4) (cd ct:A6) (sl:AW (Ti)),
 K.lookup f=some {oc,od,.func (PySem.W.fnOf nm qual (jC st) (b4 st) (aj st) .none kV dc pm an cd ct),sl}/\PySem.W.codeIn K cd qual=true/\PySem.W.keepIn K (.ref f)=true
def Hz.at_ {C:A4}{nm qual:Str}(a:Hz K C nm qual st)(hb:∀(kV doc pm:A6) (an:UO A4) (AP ct:A6) (us:Tf),us.length=ps.length->bindArgs (PySem.W.fnOf nm qual (jC st) (b4 st) (aj st) .none kV doc pm an AP ct) {us,[]}=pure (ps.zip us)):fw K C nm qual st ps:=by let⟨f,a,i,oc,od,kV,dc,pm,an,cd,ct,sl,l,c,k⟩:=a;have F:=yN l c k;exact{_,_,F,F.binds hb,{a,i,k}}
def FK.law {fa:A4}(a:FK K x st)(X:K.In h)(G:h.Ns mainGlobals mg)(e:mg x=some (.ref fa))(hb:JG x st ps):∃fd,pz K x x st fa fd/\∀(s:A2) (us:Tf),us.length=ps.length->BindsTo s fd {us,[]} (ps.zip us):=by let⟨f,a,oc,od,kV,dc,pm,an,cd,ct,sl,l,c,k⟩:=a;have:=e.symm.trans (CN X G a);cases this;exact{_,yN l c k,λs us hl=>.of_eq (hb _ _ _ _ _ _ us hl)}
end
end HW
namespace HW
open L2
section
variable {O:Lo}{U:ah}{x y:R}{d:D}
def Ug {O:Lo}:af 0 (some x::O) U=some (x,U):=rfl
def Ue {i:Nat}{o:UO R}{O:Lo}:af (i+1) (o::O) U=af i O U:=by simp[af]
def U3z:fK d O U=some (.v d,U):=rfl
noncomputable def NC (o:UO (R×ah))(g:R->R->ah->UO (R×ah))(fb:FE)(O:Lo):UO (R×ah):=o.bind λa=>(fb O a.2).bind λb=>g a.1 b.1 b.2
noncomputable def Ic (x:R)(o:UO (R×ah))(g:R->R->ah->UO (R×ah)):UO (R×ah):=o.bind λb=>g x b.1 b.2
def PV {g fa fb}:ax g fa fb O U=NC (fa O U) g fb O:=rfl
def MD {g fb}:NC (some (x,U)) g fb O=Ic x (fb O U) g:=rfl
def MB {g}:Ic x (some (y,U)) g=g x y U:=rfl
noncomputable def Nu (o:UO (R×ah))(g:R->ah->UO (R×ah)):UO (R×ah):=o.bind λa=>g a.1 a.2
def Uh {g fa}:fT g fa O U=Nu (fa O U) g:=rfl
def R9 {g}:Nu (some (x,U)) g=g x U:=rfl
def Sq:ai O U=some ([],U):=rfl
noncomputable def Cq (o:UO (R×ah))(fr:FA)(O:Lo):UO (A0 R×ah):=o.bind λa=>(fr O a.2).bind λr=>some (a.1::r.1,r.2)
noncomputable def zi (x:R)(o:UO (A0 R×ah)):UO (A0 R×ah):=o.bind λr=>some (x::r.1,r.2)
def G6 {fa fr}:ac fa fr O U=Cq (fa O U) fr O:=rfl
def P5 {fr}:Cq (some (x,U)) fr O=zi x (fr O U):=rfl
def P4 {xs}:zi x (some (xs,U))=some (x::xs,U):=rfl
noncomputable def NK (o:UO (A0 R×ah))(g:A0 R->ah->UO (R×ah)):UO (R×ah):=o.bind λa=>g a.1 a.2
def UE {g fa}:fF g fa O U=NK (fa O U) g:=rfl
def SX {g xs}:NK (some (xs,U)) g=g xs U:=rfl
noncomputable def TW (o:UO (R×ah)):UO (A9×ah):=o.bind λa=>match a.1 with|.v (.bl b)=>some (b,a.2)|_=>none
def U5z {fa}:fB fa O U=TW (fa O U):=rfl
def UF {b}:TW (some (.v (.bl b),U))=some (b,U):=rfl
noncomputable def HN (o:UO (R×ah)):UO (A9×ah):=o.bind λa=>(Cd a.1 a.2).bind λb=>some (b,a.2)
def Mz {fa}:gQ fa O U=HN (fa O U):=rfl
def QP {b}:HN (some (.v (.bl b),U))=some (b,U):=rfl
noncomputable def Ir (o:UO (A9×ah))(u:FT)(O:Lo):UO (A9×ah):=o.bind λc=>if c.1=true then u O c.2 else some (false,c.2)
noncomputable def NB (o:UO (A9×ah))(u:FT)(O:Lo):UO (A9×ah):=o.bind λc=>if c.1=true then some (true,c.2) else u O c.2
noncomputable def Ie (o:UO (A9×ah)):UO (A9×ah):=o.bind λc=>some (!c.1,c.2)
def QR {t u}:jO t u O U=Ir (t O U) u O:=rfl
def PR {b u}:Ir (some (b,U)) u O=if b=true then u O U else some (false,U):=rfl
def Sd {t u}:kE t u O U=NB (t O U) u O:=rfl
def QQ {b u}:NB (some (b,U)) u O=if b=true then some (true,U) else u O U:=rfl
def G4 {t}:iu t O U=Ie (t O U):=rfl
def PQ {b}:Ie (some (b,U))=some (!b,U):=rfl
noncomputable def Cu (o:UO (R×ah))(fb:FE)(O:Lo):UO (R×ah):=o.bind λa=>match a.1 with|.v (.bl c)=>if c=true then fb O a.2 else some (.v (.bl false),a.2)|_=>none
noncomputable def Cn (o:UO (R×ah)):UO (R×ah):=o.bind λa=>match a.1 with|.v (.bl c)=>some (.v (.bl (!c)),a.2)|_=>none
def SY {fa fb}:xt fa fb O U=Cu (fa O U) fb O:=rfl
def Rc {c fb}:Cu (some (.v (.bl c),U)) fb O=if c=true then fb O U else some (.v (.bl false),U):=rfl
def So {fa}:G3 fa O U=Cn (fa O U):=rfl
def QZ {c}:Cn (some (.v (.bl c),U))=some (.v (.bl (!c)),U):=rfl
noncomputable def NG (o:UO (A9×ah))(fa fb:FE)(O:Lo):UO (R×ah):=o.bind λc=>if c.1=true then fa O c.2 else fb O c.2
def Uy {t fa fb}:Am t fa fb O U=NG (t O U) fa fb O:=rfl
def SH {c fa fb}:NG (some (c,U)) fa fb O=if c=true then fa O U else fb O U:=rfl
noncomputable def HM (o:UO (A0 R×ah)):UO (R×ah):=o.bind λa=>(vals a.1).bind λds=>if ds.length<=sizeLine then some (.v (.tup ds),a.2) else none
noncomputable def Ig (o:UO (A0 R×ah)):UO (R×ah):=o.bind λa=>(vals a.1).bind λds=>if ds.length<=sizeLine then some (.p a.2.length,a.2++[.lst ds]) else none
def Sb {fa}:c9 fa O U=HM (fa O U):=rfl
def Sx {fa}:eG fa O U=Ig (fa O U):=rfl
noncomputable def AL (o:UO (R×ah)):UO (R×ah):=o.bind λa=>(Jz a.1 a.2).bind λb=>some (.v b.1,b.2)
def P0 {fa}:br fa O U=AL (fa O U):=rfl
def SL:AL (some (.v d,U))=some (.v d,U):=rfl
noncomputable def Cs (o:UO (A0 R×ah))(f:MF)(n:Nat):UO (R×ah):=o.bind λa=>(vals a.1).bind λds=>if ds.length=n then (f ds).bind λd=>some (.v d,a.2) else none
def G7 {f n fa}:aP f n fa O U=Cs (fa O U) f n:=rfl
theorem lS:bo O U=some (.nx O U):=rfl
noncomputable def Fe (o:UO oP)(b:FS):UO oP:=o.bind λo=>match o with|.nx O' U'=>b O' U'|o=>some o
theorem gk {a b}:aM a b O U=Fe (a O U) b:=rfl
theorem gA {b}:Fe (some (.nx O U)) b=b O U:=rfl
theorem Aq {b}:Fe (some (.rt x U)) b=some (.rt x U):=rfl
theorem Ap {b}:Fe (some (.bk O U)) b=some (.bk O U):=rfl
theorem Ao {b}:Fe (some (.ct O U)) b=some (.ct O U):=rfl
noncomputable def Cp (o:UO (R×ah))(O:Lo):UO oP:=o.bind λa=>some (.nx O a.2)
def Q4 {f}:iJ f O U=Cp (f O U) O:=rfl
def P3:Cp (some (x,U)) O=some (.nx O U):=rfl
noncomputable def Ia (o:UO (R×ah)):UO oP:=o.bind λa=>some (.rt a.1 a.2)
def Sl {f}:bv f O U=Ia (f O U):=rfl
def QW:Ia (some (x,U))=some (.rt x U):=rfl
noncomputable def Co (o:UO (A9×ah))(a b:FS)(O:Lo):UO oP:=o.bind λc=>if c.1=true then a O c.2 else b O c.2
theorem cF {t a b}:fA t a b O U=Co (t O U) a b O:=rfl
theorem kO {a b}:Co (some (true,U)) a b O=a O U:=rfl
theorem eW {a b}:Co (some (false,U)) a b O=b O U:=rfl
noncomputable def HZ (o:UO (R×ah))(i:Nat)(O:Lo):UO oP:=o.bind λa=>some (.nx (O.set i (some a.1)) a.2)
def MA {i f}:bD i f O U=HZ (f O U) i O:=rfl
def G5 {i}:HZ (some (x,U)) i O=some (.nx (O.set i (some x)) U):=rfl
noncomputable def Ij (o:UO (A0 D×ah))(g:FG)(b:FS)(O:Lo):UO oP:=o.bind λa=>ig g b a.1 O a.2
def yT {i g b}:qc i g b O U=Ij (i O U) g b O:=Eq.trans rfl rfl
def vR {xs g b}:Ij (some (xs,U)) g b O=ig g b xs O U:=Eq.trans rfl rfl
noncomputable def Cm (o:UO (R×ah)):UO (A0 D×ah):=o.bind λa=>match a.1 with|.v (.fl xs)=>some (xs,a.2)|.v (.tup xs)=>some (xs,a.2)|_=>none
def Q2 {f}:ky f O U=Cm (AL (f O U)):=rfl
def PZ {xs}:Cm (some (.v (.fl xs),U))=some (xs,U):=rfl
def PY {xs}:Cm (some (.v (.tup xs),U))=some (xs,U):=rfl
noncomputable def NA (o:UO (R×ah)):UO (A0 D×ah):=o.bind λa=>match a.1 with|.v (.int j)=>if -(2 ^ 62)<=j/\j<2 ^ 62 then some ((List.range j.toNat).map λi=>.int (i:Nat),a.2) else none|_=>none
def Ul {f}:on f O U=NA (f O U):=Eq.trans rfl rfl
def kM {j:Int}(h : -(2 ^ 62)<=j/\j<2 ^ 62):NA (some (.v (.int j),U))=some ((List.range j.toNat).map λi=>.int (i:Nat),U):=by
 show(if -(2 ^ 62)<=j/\j<2 ^ 62 then _ else _)=_
 rw[A8 h]
noncomputable def Cr (o:UO (A0 D×ah))(ix:A0 Nat)(k:Nat)(g:FG)(c:FT)(f:FE)(O:Lo):UO (R×ah):=o.bind λa=>if a.1.length<=sizeLine then
 (ic g c f a.1 (fU k ix O) a.2).bind λr=>some (.p r.2.length,r.2++[.lst r.1]) else none
def Q5 {ix k i g c f}:hZ ix k i g c f O U=Cr (i O U) ix k g c f O:=Eq.trans rfl rfl
noncomputable def Nz (o:UO (R×ah))(fl fh:FO)(O:Lo):UO (R×ah):=o.bind λa=>(fl O a.2).bind λl=>(fh O l.2).bind λh=>Fq a.1 l.1 h.1 h.2
noncomputable def HY (x:R)(o:UO (UO Int×ah))(fh:FO)(O:Lo):UO (R×ah):=o.bind λl=>(fh O l.2).bind λh=>Fq x l.1 h.1 h.2
noncomputable def HV (x:R)(l:UO Int)(o:UO (UO Int×ah)):UO (R×ah):=o.bind λh=>Fq x l h.1 h.2
def Uk {fa fl fh}:Al fa fl fh O U=Nz (fa O U) fl fh O:=rfl
def Sk {fl fh}:Nz (some (x,U)) fl fh O=HY x (fl O U) fh O:=rfl
def Sj {l fh}:HY x (some (l,U)) fh O=HV x l (fh O U):=rfl
def Si {l h}:HV x l (some (h,U))=Fq x l h U:=rfl
def Sg {xs l h}:Fq (.v (.tup xs)) l h U=some (.v (.tup (lu xs l h)),U):=rfl
noncomputable def TR (o:UO (R×ah)):UO (UO Int×ah):=o.bind λa=>match a.1 with|.v (.int i)=>some (some i,a.2)|_=>none
def Uo:f9 O U=some (none,U):=rfl
def Um {f}:eX f O U=TR (f O U):=rfl
def Sn {i}:TR (some (.v (.int i),U))=some (some i,U):=rfl
noncomputable def Ff (o:UO (R×ah))(g:R->A0 R->ah->UO (R×ah))(ga:FA)(O:Lo):UO (R×ah):=o.bind λa=>if oJ a.1 a.2=true then (ga O a.2).bind λb=>g a.1 b.1 b.2 else none
noncomputable def wx (x:R)(o:UO (A0 R×ah))(g:R->A0 R->ah->UO (R×ah)):UO (R×ah):=o.bind λb=>g x b.1 b.2
def Us {g fa ga}:uO g fa ga O U=Ff (fa O U) g ga O:=rfl
def Sv {g xs}:wx x (some (xs,U)) g=g x xs U:=rfl
variable {i j:Int}{b c:A9}{xs:A0 D}
def Se:u6 (.v (.int i)) (.v (.int j)) U=some (.v (.int (i-j)),U):=rfl
def Uu:Bh (.v (.int i)) (.v (.int j)) U=some (.v (.bl (decide (i<j))),U):=rfl
def Uv:M4 (.v (.int i)) (.v (.int j)) U=some (.v (.bl (decide (i<=j))),U):=rfl
def Uz:wf (.v (.int i)) (.v (.int j)) U=some (.v (.bl (decide (j<i))),U):=rfl
def UA:Me (.v (.int i)) (.v (.int j)) U=some (.v (.bl (decide (j<=i))),U):=rfl
def nF (h:0<j):qY (.v (.int i)) (.v (.int j)) U=some (.v (.int (i%j)),U):=by simp[qY,xF,h]
def En (h:0<j)(h2:j<1073741824):yX (.v (.int i)) (.v (.int j)) U=some (.v (.int (i / j)),U):=by simp[yX,xF,h,h2]
def Ar (h : -(2 ^ 64)<j/\j<2 ^ 64):kJ (.v (.int i)) (.v (.int j)) U=some (.v (.int (i*j)),U):=by
 show(if (decide (-(2 ^ 64)<i/\i<2 ^ 64) || decide (-(2 ^ 64)<j/\j<2 ^ 64))=true then _ else _)=_
 rw[A8 (by rw[zcn];exact .inr (Bq h))]
def lT (h : -(2 ^ 64)<i/\i<2 ^ 64):kJ (.v (.int i)) (.v (.int j)) U=some (.v (.int (i*j)),U):=by
 show(if (decide (-(2 ^ 64)<i/\i<2 ^ 64) || decide (-(2 ^ 64)<j/\j<2 ^ 64))=true then _ else _)=_
 rw[A8 (by rw[zcn];exact .inl (Bq h))]
def vQ (h:0<=j/\j<=1000000/\i.natAbs<2 ^ 64):qh (.v (.int i)) (.v (.int j)) U=some (.v (.int (i ^ j.toNat)),U):=by simp[qh,xF,h]
def Sr:iV (.v (.int i)) U=some (.v (.int (-i)),U):=rfl
def uQ (bs:A0 A9):lX (bs.map D.bl)=some bs:=by induction bs <;> simp_all[lX]
def SI {k:Nat}:gY k x O U=some (O.set k (some x),U):=rfl
def qE {Z:Type}{xs:A0 Z}{i:Int}{a:Z}(h0:0<=i)(h:xs[i.toNat]?=some a):n9 xs i=some a:=by unfold n9 Bu;have hl:=(Bn.mp h).1;rw[A8 h0,A8 ∅];simpa using h
noncomputable def fV (o:UO oP):UO D:=o.bind fin
theorem vS:fV (some (.rt (.v d) U))=some d:=rfl
end
noncomputable def NH (o:UO (Lo×ah))(b:FS):UO oP:=o.bind λa=>b a.1 a.2
def U4z {O:Lo}{U:ah}{b:FS}:NH (some (O,U)) b=b O U:=rfl
def GG {g:FG}{b:FS}(I:Nat->Lo->ah->Prop){xs:A0 D}{O:Lo}{U:ah}(h0:I 0 O U)
  (hs:∀(i:Nat) x O U,xs[i]?=some x->I i O U->∃O' U',NH (g (.v x) O U) b=some (.nx O' U')/\I (i+1) O' U') :
  ∃O' U',ig g b xs O U=some (.nx O' U')/\I xs.length O' U':=by
 have key:∀(n:Nat) (ys:A0 D) (i:Nat) O U,ys.length=n->xs.drop i=ys->i<=xs.length->I i O U->∃O' U',ig g b ys O U=some (.nx O' U')/\I xs.length O' U':=by
  intro n
  induction n with
  |zero=>
   intro ys i O U hn hd hi h;have:ys=[]:=zbz hn;subst this
   have:i=xs.length:=by
    have:=AQ List.length hd;simp at this;omega
   subst this;exact{O,U,rfl,h}
  |succ n ih=>
   intro ys i O U hn hd hi h
   cases ys with
   |nil=>simp at hn
   |cons y ys=>
    have BS:i<xs.length:=by
     have:=AQ List.length hd;simp at this;omega
    have hc:=za9 BS;rw[hd] at hc
    injection hc with h1 h2
    let⟨O',U',e0,h'⟩:=hs i y O U (by rw[h1];exact EF BS) h;let⟨⟨O1,U1⟩,e1,e2⟩:=AO.mp e0;let⟨O2,U2,e3,h3⟩:=ih ys (i+1) O' U' ‹hn› h2.symm BS h';exact{O2,U2,by rwa[ig,e1,e2,AZ];exact e3,h3}
 exact key xs.length xs 0 O U rfl ∅ (E8 _) h0
section
variable {O:Lo}{U:ah}{x y:R}{d e:D}{n m:Nat}{xs ys:A0 D}{i j:Int}{b c:A9}
noncomputable def Rh (o:UO et)(n:Nat)(g:R->A0 R->ah->UO (R×ah))(ga:FA)(O:Lo)(U:ah):UO (R×ah):=match o with|some (.lst _)=>wx (.p n) (ga O U) g|some (.fz _)=>wx (.p n) (ga O U) g|_=>none
theorem Ss {g ga}:Ff (some (.p n,U)) g ga O=Rh U[n]? n g ga O U:=by
 cases h:U[n]? with
 |none=>simp[Ff,oJ,Rh,h]
 |some c=>cases c <;> simp[Ff,oJ,Rh,wx,h]
def Su {g ga}:Rh (some (.lst xs)) n g ga O U=wx (.p n) (ga O U) g:=rfl
noncomputable def Qg (o:UO et)(n:Nat)(d:D)(U:ah):UO (R×ah):=match o with|some (.lst xs)=>if xs.length<sizeLine then some (.v .non,U.set n (.lst (xs++[d]))) else none|_=>none
def Ra:pq (.p n) [.v d] U=Qg U[n]? n d U:=rfl
def Rb:Qg (some (.lst xs)) n d U=if xs.length<sizeLine then some (.v .non,U.set n (.lst (xs++[d]))) else none:=rfl
noncomputable def EX (o:UO et):UO (A0 D):=match o with|some (.lst xs)=>some xs|some (.fz xs)=>some xs|_=>none
def SE:iM (.v (.tup xs)) U=some xs:=rfl
def SF:iM (.v (.fl xs)) U=some xs:=rfl
def ME:iM (.p n) U=EX U[n]?:=rfl
def SG:EX (some (.lst xs))=some xs:=rfl
def SD:EX (some (.fz xs))=some xs:=rfl
noncomputable def NF (o:UO (A0 D))(i:Int)(U:ah):UO (R×ah):=o.bind λxs=>(n9 xs i).bind λd=>some (.v d,U)
noncomputable def Ii (o:UO D)(U:ah):UO (R×ah):=o.bind λd=>some (.v d,U)
def Ux:fq x (.v (.int i)) U=NF (iM x U) i U:=rfl
def SA:NF (some xs) i U=Ii (n9 xs i) U:=rfl
def Sz:Ii (some d) U=some (.v d,U):=rfl
def SU {a:D}{l:A0 D}:n9 (a::l) 0=some a:=qE ∅ rfl
def SS {a b:D}{l:A0 D}:n9 (a::b::l) 1=some b:=qE ∅ rfl
noncomputable def Ih (o:UO (A0 D))(U:ah):UO (R×ah):=o.bind λxs=>some (.v (.int xs.length),U)
def Sy:gJ [x] U=Ih (iM x U) U:=rfl
def Q1:Ih (some xs) U=some (.v (.int xs.length),U):=rfl
noncomputable def Nw (o:UO (A0 D))(U:ah):UO (R×ah):=o.bind λxs=>some (.v (.tup xs),U)
def Uj:oi [x] U=Nw (iM x U) U:=rfl
def Sc:Nw (some xs) U=some (.v (.tup xs),U):=rfl
noncomputable def UH (o:UO et):UO D:=match o with|some (.lst xs)=>some (.fl xs)|some (.fz xs)=>some (.fl xs)|_=>none
def RZ:qH (.v d) U=some d:=rfl
def R0:qH (.p n) U=UH U[n]?:=rfl
def R1:UH (some (.lst xs))=some (.fl xs):=rfl
noncomputable def J4 (o p:UO D)(neg:A9)(U:ah):UO (R×ah):=o.bind λa=>p.bind λb=>if (iK 60 a&&iK 60 b)=true then some (.v (.bl (if neg then !j2 a b else j2 a b)),U) else none
def SO:gm b x y U=J4 (qH x U) (qH y U) b U:=rfl
def SQ:J4 (some d) (some e) false U=if (iK 60 d&&iK 60 e)=true then some (.v (.bl (j2 d e)),U) else none:=rfl
def SN:J4 (some d) (some e) true U=if (iK 60 d&&iK 60 e)=true then some (.v (.bl (!j2 d e)),U) else none:=rfl
def RH:iK n (.int i)=true:=by cases n <;> rfl
def S0:j2 (.int i) (.int j)=(i == j):=rfl
def Q3:fV (some (.nx O U))=some .non:=rfl
noncomputable def Ri (o:UO et)(n:Nat)(U:ah):UO (R×ah):=match o with|some (.lst xs)=>some (.v (.fl xs),U.set n (.fz xs))|some (.fz xs)=>some (.v (.fl xs),U)|some (.dct kvs)=>some (.v (.fd (kvs.map (·.1)) (kvs.map (·.2))),U.set n (.fzd kvs))|some (.fzd kvs)=>some (.v (.fd (kvs.map (·.1)) (kvs.map (·.2))),U)|_=>none
theorem SJ:AL (some (.p n,U))=Ri U[n]? n U:=by
 cases h:U[n]? with
 |none=>simp[AL,Jz,Ri,h]
 |some c=>cases c <;> simp[AL,Jz,Ri,h]
def SK:Ri (some (.lst xs)) n U=some (.v (.fl xs),U.set n (.fz xs)):=rfl
noncomputable def NJ (o:UO D)(xs:A0 R)(U:ah):UO (A0 D):=o.bind λd=>(ou xs U).bind λds=>some (d::ds)
noncomputable def Iq (d:D)(o:UO (A0 D)):UO (A0 D):=o.bind λds=>some (d::ds)
def R8:ou [] U=some []:=rfl
def Uf {rs}:ou (x::rs) U=NJ (S8 x U) rs U:=rfl
def R7 {rs}:NJ (some d) rs U=Iq d (ou rs U):=rfl
def R6 {ds}:Iq d (some ds)=some (d::ds):=rfl
def SW:S8 (.v d) U=some d:=rfl
noncomputable def Nr (o:UO (A0 D))(f:MF)(n:Nat)(U:ah):UO (R×ah):=o.bind λds=>if ds.length=n then (f ds).bind λd=>some (.v d,U) else none
noncomputable def Nt (o:UO D)(U:ah):UO (R×ah):=o.bind λd=>some (.v d,U)
def UD {rs f n}:Cs (some (rs,U)) f n=Nr (vals rs) f n U:=rfl
def UC {f:MF}{ds:A0 D}:Nr (some ds) f n U=if ds.length=n then Nt (f ds) U else none:=rfl
def UB:Nt (some d) U=some (.v d,U):=rfl
noncomputable def J3 (d:D)(o:UO (A0 D)):UO (A0 D):=o.bind λds=>some (d::ds)
def R5:vals []=some []:=rfl
def R4 {rs}:vals (.v d::rs)=J3 d (vals rs):=by unfold J3;cases h:vals rs <;> simp[vals,h]
def R3 {ds}:J3 d (some ds)=some (d::ds):=rfl
noncomputable def Nv (o:UO (A0 D))(U:ah):UO (R×ah):=o.bind λds=>if ds.length<=sizeLine then some (.v (.tup ds),U) else none
def Ui {rs}:HM (some (rs,U))=Nv (vals rs) U:=rfl
def Sa {ds}:Nv (some ds) U=if ds.length<=sizeLine then some (.v (.tup ds),U) else none:=rfl
noncomputable def NE (o:UO (A0 D))(U:ah):UO (R×ah):=o.bind λds=>if ds.length<=sizeLine then some (.p U.length,U++[.lst ds]) else none
def Ut {rs}:Ig (some (rs,U))=NE (vals rs) U:=rfl
def Sw {ds}:NE (some ds) U=if ds.length<=sizeLine then some (.p U.length,U++[.lst ds]) else none:=rfl
noncomputable def Ip (o:UO (R×ah))(g:FG)(O:Lo):UO oP:=o.bind λa=>(g a.1 O a.2).bind λb=>some (.nx b.1 b.2)
noncomputable def Ct (o:UO (Lo×ah)):UO oP:=o.bind λb=>some (.nx b.1 b.2)
def SV {f g}:qd f g O U=Ip (f O U) g O:=rfl
def Q9 {g}:Ip (some (x,U)) g O=Ct (g x O U):=rfl
def Q8:Ct (some (O,U))=some (.nx O U):=rfl
def Sh {l h}:Fq (.v (.fl xs)) l h U=some (.p U.length,U++[.lst (lu xs l h)]):=rfl
def Qa:bu (.v (.int i)) (.v (.int j)) U=some (.v (.int (i+j)),U):=rfl
theorem P8:bu (.v (.tup xs)) (.v (.tup ys)) U=if xs.length+ys.length<=sizeLine then some (.v (.tup (xs++ys)),U) else none:=by
 cases xs with
 |nil=>simp[bu]
 |cons x xs=>simp[bu,Hs]
noncomputable def Qh (o p:UO et)(U:ah):UO (R×ah):=match o,p with|some (.lst xs),some (.lst ys)=>if xs.length+ys.length<=sizeLine then some (.p U.length,U++[.lst (xs++ys)]) else none|_,_=>none
def P9:bu (.p n) (.p m) U=Qh U[n]? U[m]? U:=rfl
def Rg:Qh (some (.lst xs)) (some (.lst ys)) U=if xs.length+ys.length<=sizeLine then some (.p U.length,U++[.lst (xs++ys)]) else none:=rfl
def As:By [.v (.bl b)] U=some (.v (.int (if b then 1 else 0)),U):=rfl
def Sf:u7 [.v (.int i)] U=if i.natAbs.log2<1920 then some (.v (.str (toString i)),U) else none:=rfl
noncomputable def HP (o:UO (R×ah))(fi:FE)(dv:D)(O:Lo):UO (Lo×ah):=o.bind λo=>(fi O o.2).bind λi=>(yk o.1 i.1 dv i.2).bind λU'=>some (O,U')
noncomputable def Ck (x:R)(o:UO (R×ah))(dv:D)(O:Lo):UO (Lo×ah):=o.bind λi=>(yk x i.1 dv i.2).bind λU'=>some (O,U')
noncomputable def Cj (o:UO ah)(O:Lo):UO (Lo×ah):=o.bind λU'=>some (O,U')
def QV {fo fi}:nD fo fi (.v d) O U=HP (fo O U) fi d O:=rfl
def QU {fi}:HP (some (x,U)) fi d O=Ck x (fi O U) d O:=rfl
def QT:Ck x (some (y,U)) d O=Cj (yk x y d U) O:=rfl
def QS:Cj (some U) O=some (O,U):=rfl
noncomputable def Qf (o:UO et)(n:Nat)(i:R)(dv:D)(U:ah):UO ah:=match o with
  |some (.lst xs)=>(match i with|.v (.int k)=>(Bu xs.length k).bind λj=>some (U.set n (.lst (xs.set j dv)))|_=>none)
  |some (.dct kvs)=>if kvs.length<sizeLine then (sH i).bind λk=>some (U.set n (.dct (wJ kvs k dv))) else none
  |_=>none
def QX:yk (.p n) x d U=Qf U[n]? n x d U:=rfl
noncomputable def Ib (o:UO Nat)(n:Nat)(xs:A0 D)(d:D)(U:ah):UO ah:=o.bind λj=>some (U.set n (.lst (xs.set j d)))
def QY:Qf (some (.lst xs)) n (.v (.int i)) d U=Ib (Bu xs.length i) n xs d U:=rfl
def PU {j:Nat}:Ib (some j) n xs d U=some (U.set n (.lst (xs.set j d))):=rfl
noncomputable def NI (o:UO (A0 D×ah)):UO (R×ah):=o.bind λr=>some (.p r.2.length,r.2++[.lst r.1])
def P6 {ix k g c f}:Cr (some (xs,U)) ix k g c f O=if xs.length<=sizeLine then NI (ic g c f xs (fU k ix O) U) else none:=Eq.trans rfl rfl
def SR {r:A0 D}:NI (some (r,U))=some (.p U.length,U++[.lst r]):=rfl
def Q7:fU 1 [] O=[none]:=rfl
def Q6 {i:Nat}:fU 1 [i] O=[none,(O[i]?).join]:=rfl
def Uw {x:UO R}:(some x).join=x:=rfl
noncomputable def Iu (o:UO (A0 D))(any:A9)(U:ah):UO (R×ah):=o.bind λxs=>(lX xs).bind λbs=>some (.v (.bl (if any then bs.any id else bs.all id)),U)
noncomputable def Cv (o:UO (A0 A9))(any:A9)(U:ah):UO (R×ah):=o.bind λbs=>some (.v (.bl (if any then bs.any id else bs.all id)),U)
def SZ:EI b [x] U=Iu (lK x U) b U:=rfl
def Rf:Iu (some xs) b U=Cv (lX xs) b U:=rfl
def Re {bs:A0 A9}:Cv (some bs) false U=some (.v (.bl (bs.all id)),U):=rfl
def Q0:lK (.p n) U=EX U[n]?:=rfl
noncomputable def zj (o:UO (A0 R×ah))(f:MC)(n:Nat):UO (R×ah):=o.bind λa=>(ou a.1 a.2).bind λds=>if ds.length=n then (f ds).bind λc=>if uL c=true then some (.p a.2.length,a.2++[c]) else none else none
noncomputable def HJ (o:UO (A0 D))(f:MC)(n:Nat)(U:ah):UO (R×ah):=o.bind λds=>if ds.length=n then (f ds).bind λc=>if uL c=true then some (.p U.length,U++[c]) else none else none
noncomputable def HL (o:UO et)(U:ah):UO (R×ah):=o.bind λc=>if uL c=true then some (.p U.length,U++[c]) else none
def P7 {f:MC}{fa}:ju f n fa O U=zj (fa O U) f n:=rfl
def Urz {f:MC}{rs}:zj (some (rs,U)) f n=HJ (ou rs U) f n U:=rfl
def Uq {f:MC}{ds:A0 D}:HJ (some ds) f n U=if ds.length=n then HL (f ds) U else none:=rfl
def Up {k:et}:HL (some k) U=if uL k=true then some (.p U.length,U++[k]) else none:=rfl
def SM:uL (.lst xs)=flatDs xs:=rfl
noncomputable def uN (o:UO oP):UO et:=o.bind El
noncomputable def Ax (o:UO et):UO et:=match o with|some (.lst xs)=>some (.lst xs)|some (.dct kvs)=>some (.dct kvs)|_=>none
theorem P1:uN (some (.rt (.p n) U))=Ax U[n]?:=by
 cases h:U[n]? with
 |none=>simp[uN,El,Ax,h]
 |some c=>cases c <;> simp[uN,El,Ax,h]
def P2:Ax (some (.lst xs))=some (.lst xs):=rfl
def Vd:2<=sizeLine:=by decide
def Ve:0<=sizeLine:=by decide
def Vc:3<=sizeLine:=by decide
def lF {n:Nat}(h:n<4000):n<sizeLine:=Be h ∅
def bK {n:Nat}(h:n<4000):n<=sizeLine:=zbI (lF h)
end
def QF {Z:Type}{x y:Z}{l:A0 Z}:(x::l).set 0 y=y::l:=rfl
def QE {Z:Type}{x y:Z}{l:A0 Z}{n:Nat}:(x::l).set (n+1) y=x::l.set n y:=rfl
def QL {Z:Type}{x:Z}{l:A0 Z}:(x::l)[0]?=some x:=rfl
def QK {Z:Type}{x:Z}{l:A0 Z}{n:Nat}:(x::l)[n+1]?=l[n]?:=rfl
def RM {Z:Type}{x:Z}{l:A0 Z}:(x::l).length=l.length+1:=rfl
def QJ {Z:Type}:([]:A0 Z).length=0:=rfl
def RO {Z:Type}{x:Z}{l r:A0 Z}:(x::l)++r=x::(l++r):=rfl
def QM {Z:Type}{r:A0 Z} : []++r=r:=rfl
def RL {Z β:Type}{f:Z->β}{x:Z}{l:A0 Z}:(x::l).map f=f x::l.map f:=rfl
def QI {Z β:Type}{f:Z->β}:([]:A0 Z).map f=[]:=rfl
def Ub {n:Nat}:0+n=n:=zci n
def QG:(!true)=false:=rfl
def QH:(!false)=true:=rfl
def RN {Z:Type}{a b:Z}:(if false=true then a else b)=b:=rfl
section
variable {g:FG}{b:FS}{O:Lo}{U:ah}
noncomputable def xT (o:UO oP)(g:FG)(b:FS)(xs:A0 D):UO oP:=o.bind λo=>match o with
  |.nx O' U'=>ig g b xs O' U'
  |.ct O' U'=>ig g b xs O' U'
  |.bk O' U'=>some (.nx O' U')
  |.rt d U'=>some (.rt d U')
def jI {x:D}{xs:A0 D}:ig g b (x::xs) O U=xT (NH (g (.v x) O U) b) g b xs:=by
 show(g (.v x) O U).bind _=_
 cases e:g (.v x) O U <;> rfl
def wZ:ig g b [] O U=some (.nx O U):=rfl
def zU {xs}:xT (some (.nx O U)) g b xs=ig g b xs O U:=rfl
theorem nw {Z Y:Type}(e:Z->D)(S:Y->Lo×ah)(P:Y->A0 Z->Prop):∀(as:A0 Z) (s:Y),P s as ->
  (∀s a r,P s (a::r)->∃s',NH (g (.v (e a)) (S s).1 (S s).2) b=some (.nx (S s').1 (S s').2)/\P s' r) ->
  ∃s',ig g b (as.map e) (S s).1 (S s).2=some (.nx (S s').1 (S s').2)/\P s' []
 |[],s,h,_=>{s,rfl,h}
 |a::as,s,h,k=>by
  let⟨s1,h1,h2⟩:=k s a as h;let⟨s2,h3,h4⟩:=nw e S P as s1 h2 k;exact{s2,by rw[BA,jI,h1,zU,h3],h4}
def lL (n:Nat)(I:Nat->Lo->ah->Prop)(h0:I 0 O U)
  (hs:∀i<n,∀O U,I i O U->∃O' U',NH (g (.v (.int (i:Int))) O U) b=some (.nx O' U')/\I (i+1) O' U') :
  ∃O' U',ig g b ((List.range n).map λi=>.int ((i:Nat):Int)) O U=some (.nx O' U')/\I n O' U':=by
 let⟨O',U',e,h⟩:=GG (g:=g) (b:=b) I (xs:=(List.range n).map λi=>D.int ((i:Nat):Int)) h0 λi x O U hx hI=>by
  rw[DA] at hx;let⟨k,hk,rfl⟩:=DG.mp hx;let⟨hl,hk⟩:=Bn.mp hk;rw[List.getElem_range] at hk;subst hk;exact hs i ‹hl› O U hI
 exact{O',U',e,by simpa using h}
end
theorem g4 {Z:Type}{f:FE}{U:ah}{rest:Lo}(e out:Z->D):∀(xs:A0 Z) (x0:UO R),(∀a∈xs,f (some (.v (e a))::rest) U=some (.v (out a),U))->ic (gY 0) gS f (xs.map e) (x0::rest) U=some (xs.map out,U)
 |[],_,_=>rfl
 |a::xs,x0,h=>by have h1:=h a Bw;have ih:=g4 e out xs (some (.v (e a))) λb hb=>h b (Bk _ hb);rwa[BA,ic,gY,zbw,AZ,gS,if_true,h1,ih]
end HW
namespace LW
open HW
abbrev de (i:Int):UO R:=some (.v (.int i))
abbrev dM (n:Nat):UO R:=some (.p n)
end LW
local macro_rules
 | `(tactic| push_cast [$xs,*] $[$loc]?) => do
  let ids : Array (Lean.TSyntax `term) := ("Vd Ve Vc QF QE QL QK RM QJ RO QM RL QI Ub QG QH RN wZ zU Ug Ue U3z PV MD MB Uh R9 Sq UE SX U5z UF Mz QP QR PR Sd QQ G4 PQ SY Rc So QZ Uy SH Sb Sx P0 SL G7 lS gk gA Aq Ap Ao Q4 P3 Sl QW cF kO eW yT vR Q2 PZ PY Ul Us Sv Se Uu Uv Uz UA Sr SI vS U4z Ss Su Ra Rb SE SF ME SG SD Ux SA Sz SU SS Sy Q1 Uj Sc RZ R0 R1 SO SQ SN RH S0 SJ SK R8 Uf R7 R6 SW UD UC UB R5 R4 R3 Ui Sa Ut Sw SV Q9 Q8 Qa P8 P9 Rg Q0 G6 P5 P4 MA G5 Q5 Uk Sk Sj Si Sg Uo Um Sn Q3 Sh As Sf QV QU QT QS QX QY PU P6 SR Q7 Q6 Uw SZ Rf Re P7 Urz Uq Up SM P1 P2".splitOn " ").toArray.map fun n => ⟨(Lean.mkIdent (String.toName ("HW." ++ n))).raw⟩
  `(tactic| simp -implicitDefEqProofs only [$xs,*, $[$ids:term],*, Nat.reduceAdd, if_true, zbN] $[$loc]?)
namespace LW
open PyProof.Rows L2 HW
noncomputable def my (i:Nat):AN:=PySem.Challenge.pw_heldwhen_k49_odd_asks.main.body.getD i (.Pass {0,0,0,0})
noncomputable section
def qT:bootBuiltins "range" = some (.type "range"):=by decide
abbrev iF:AN:=L2.lP (my 24) 0
def m6:aK ["self","text"] ["self","text"] (aj iF):=by ac_rfl
abbrev iD:AN:=L2.lP (my 24) 1
def mY:aK ["self"] ["self"] (aj iD):=by ac_rfl
abbrev fQ:AN:=L2.lP (my 24) 3
def ko:aK ["self"] ["self"] (aj fQ):=by ac_rfl
abbrev gu:AN:=L2.lP (my 24) 4
def lh:aK ["self"] ["self"] (aj gu):=by ac_rfl
abbrev iE:AN:=L2.lP (my 24) 5
def mZ:aK ["self"] ["self"] (aj iE):=by ac_rfl
abbrev cK:AN:=L2.lP (my 24) 6
def kj:aK ["self"] ["self"] (aj cK):=by ac_rfl
abbrev gv:AN:=L2.lP (my 24) 7
def li:aK ["self"] ["self"] (aj gv):=by ac_rfl
abbrev o0:AN:=my 12
def yc:aK ["word"] ["word"] (aj o0):=by ac_rfl
abbrev i9:AN:=my 18
def oE:aK ["thing"] ["thing"] (aj i9):=by ac_rfl
abbrev i8:AN:=my 19
def tO:aK ["text","signs","most"] ["text","signs","most"] (aj i8):=by ac_rfl
abbrev iw:AN:=my 20
def iG:aK ["text","figures"] ["text"] (aj iw):=by ac_rfl
abbrev eJ:AN:=my 21
def eK:aK ["text","least","number"] ["text","least"] (aj eJ):=by ac_rfl
abbrev gW:AN:=my 22
def me:aK ["text"] ["text"] (aj gW):=by ac_rfl
abbrev j9:AN:=my 23
def qI:aK ["text"] ["text"] (aj j9):=by ac_rfl
abbrev cG:AN:=my 27
def oA:aK ["reader","kind","deep"] ["reader","kind","deep"] (aj cG):=by ac_rfl
abbrev gr:AN:=my 28
def eh:aK ["reader","deep","word","form"] ["reader","deep"] (aj gr):=by ac_rfl
abbrev kf:AN:=my 29
def g9:aK ["text","reader","ask"] ["text"] (aj kf):=by ac_rfl
abbrev mS:AN:=my 31
def ki:aK ["script","k","many","cell","number"] ["script","k","many"] (aj mS):=by ac_rfl
abbrev oY:AN:=my 32
def rZ:aK ["script","k","number"] ["script","k"] (aj oY):=by ac_rfl
abbrev mQ:AN:=my 33
def kh:aK ["script","k","name","j"] ["script","k"] (aj mQ):=by ac_rfl
abbrev kF:AN:=my 34
def oB:aK ["script","k","way"] ["script","k"] (aj kF):=by ac_rfl
abbrev iC:AN:=my 35
def mW:aK ["script","k","many"] ["script","k"] (aj iC):=by ac_rfl
abbrev oX:AN:=my 36
def o3:aK ["script","k","kind","part","word"] ["script","k","kind","part"] (aj oX):=by ac_rfl
abbrev lE:AN:=my 37
def rX:aK ["script","k","kind","part","other","columns"] ["script","k","kind","part","other"] (aj lE):=by ac_rfl
abbrev mT:AN:=my 38
def ei:aK ["script","many","base","asks","deep","k","kinds","kind","at","other","more"] ["script","many","base"] (aj mT):=by ac_rfl
abbrev lD:AN:=my 39
def eZ:aK ["ask","words","part","one"] ["ask"] (aj lD):=by ac_rfl
abbrev mP:AN:=my 40
def mU:aK ["told","due","k"] ["told","due"] (aj mP):=by ac_rfl
abbrev kg:AN:=my 41
def mV:aK ["word","figures"] ["word"] (aj kg):=by ac_rfl
abbrev iz:AN:=my 42
def rY:aK ["words","at"] ["words","at"] (aj iz):=by ac_rfl
abbrev iA:AN:=my 43
def jR:aK ["words","at","by","many","numbers"] ["words","at","by"] (aj iA):=by ac_rfl
abbrev jP:AN:=my 44
def iH:aK ["words","at","shape","some","sort"] ["words","at","shape"] (aj jP):=by ac_rfl
abbrev iy:AN:=my 45
def eT:aK ["words","at","kind","shapes","some","half","more"] ["words","at","kind"] (aj iy):=by ac_rfl
abbrev kG:AN:=my 46
def cH:aK ["words","at","deep","kind","name","parts","j","some","tail"] ["words","at","deep"] (aj kG):=by ac_rfl
abbrev oZ:AN:=my 47
def o4:aK ["text","words","some"] ["text"] (aj oZ):=by ac_rfl
abbrev jQ:AN:=my 48
def dI:aK ["script","k","text","words","way","at","some","word"] ["script","k","text"] (aj jQ):=by ac_rfl
abbrev mR:AN:=my 49
def f6:aK ["text","due","kinds","told","e"] ["text","due"] (aj mR):=by ac_rfl
abbrev xW:AN:=my 50
def mX:aK ["script","many","text","ask","k","other"] ["script"] (aj xW):=by ac_rfl
noncomputable def nH:A0 (Str×D):=[("table",(.tup [(.str "name")])),("pick",(.tup [(.str "ask"),(.str "column"),(.str "word"),(.str "number")])),("twins",(.tup [(.str "ask"),(.str "column"),(.str "column")])),("columns",(.tup [(.str "ask"),(.str "columns")])),("joined",(.tup [(.str "ask"),(.str "ask"),(.str "word")])),("matched",(.tup [(.str "ask"),(.str "ask"),(.str "pairs")])),("counted",(.tup [(.str "ask"),(.str "columns")])),("summed",(.tup [(.str "ask"),(.str "columns"),(.str "column")])),("lifted",(.tup [(.str "ask"),(.str "word"),(.str "number")]))]
abbrev kS:FS:=(aM (fA (fB (ax (gm false) (oo "Reader" "place" (af 0)) (fF gJ (ac (oo "Reader" "words" (af 0)) ai))))
  eU
  bo)
  (aM (wD "Reader" "place" (af 0) 1)
  (bv (ax fq (oo "Reader" "words" (af 0)) (ax u6 (oo "Reader" "place" (af 0)) (fK (.int 1)))))))
noncomputable def aX:MW:=o5 1 (kS)
abbrev i6:XB:=(xC (fB (ax (gm false) (oo "Reader" "place" (af 0)) (fF gJ (ac (oo "Reader" "words" (af 0)) ai)))) (fN "NoText" λ_=>true) wk)
noncomputable def bg:og:=jS 1 (i6)
abbrev jw:FS:=(fA (fB (ax (gm true) (oo "Reader" "place" (af 0)) (fF gJ (ac (oo "Reader" "words" (af 0)) ai))))
  eU
  bo)
noncomputable def dh:MW:=o5 1 (jw)
abbrev gU:XB:=(xC (fB (ax (gm true) (oo "Reader" "place" (af 0)) (fF gJ (ac (oo "Reader" "words" (af 0)) ai)))) (fN "NoText" λ_=>true) wk)
noncomputable def cE:og:=jS 1 (gU)
abbrev JBd:FS:=(bv (Em nH (af 0)))
noncomputable def hG:MF:=gN 1 (JBd)
abbrev l4:FS:=(fA (iu (gQ (fT (gi "str") (af 0))))
  eU
  bo)
noncomputable def cL:MF:=gN 1 (l4)
abbrev ly:XB:=(xC (iu (gQ (fT (gi "str") (af 0)))) (fN "NoText" λ_=>true) wk)
noncomputable def cW:A0 D->UO Str:=wE 1 (ly)
abbrev eo:FS:=(bv (xt (QO M4 M4 (fK (.int 1)) (fF qo (ac (af 0) ai)) (af 2)) (fF (EI false) (ac (hZ [1] 1 (sQ (af 0)) (gY 0) gS (ax (uH false) (af 0) (af 1))) ai))))
noncomputable def b3:MF:=gN 3 (eo)
abbrev l0:FS:=(aM (fA (fB (ax (gm false) (fF gJ (ac (af 0) ai)) (fK (.int 0))))
  (bv (fK (.int 0)))
  bo)
  (aM (bD 3 (ax qY (ax fq (af 0) (ax qY (af 1) (fF gJ (ac (af 0) ai)))) (fK (.int 1000000007))))
  (aM (bD 4 (ax qY (ax kJ (ax bu (af 3) (fK (.int 5))) (ax bu (fK (.int 40692)) (ax kJ (fK (.int 977)) (af 1)))) (fK (.int 2147483629))))
  (aM (bD 4 (ax qY (ax kJ (ax bu (af 4) (af 1)) (ax bu (af 4) (fK (.int 3)))) (fK (.int 2147483647))))
  (bv (ax qY (ax yX (af 4) (fK (.int 13))) (af 2)))))))
noncomputable def aF:MF:=gN 5 (l0)
abbrev lY:FS:=(aM (bD 1 (af 0))
  (aM (fA (fB (ax (gm false) (qz (af 0) f9 (eX (fK (.int 1)))) (fK (.str "-"))))
  (bD 1 (qz (af 0) (eX (fK (.int 1))) f9))
  bo)
  (aM (fA (kE (fB (ax Bh (fF qo (ac (af 1) ai)) (fK (.int 1)))) (kE (fB (ax wf (fF qo (ac (af 1) ai)) (fK (.int 60)))) (fB (ax (gm true) (hZ [] 1 (sQ (af 1)) (gY 0) (fB (ax (uH true) (af 0) (fK (.str "0123456789")))) (af 0)) (eG ai)))))
  (bv (fK .non))
  bo)
  (aM (fA (jO (fB (ax (gm false) (ax D5 (af 1) (fK (.int 0))) (fK (.str "0")))) (fB (ax (gm true) (af 0) (fK (.str "0")))))
  (bv (fK .non))
  bo)
  (bv (fF vL (ac (af 0) ai)))))))
noncomputable def dj:MF:=gN 2 (lY)
abbrev cZ:FS:=(aM (fA (kE (fB (ax Me (af 1) (fF gJ (ac (af 0) ai)))) (kE (fB (ax Bh (fF qo (ac (ax fq (af 0) (af 1)) ai)) (fK (.int 1)))) (fB (ax wf (fF qo (ac (ax fq (af 0) (af 1)) ai)) (fK (.int 8))))))
  (bv (fK .non))
  bo)
  (aM (fA (fB (ax (gm true) (hZ [] 1 (sQ (ax fq (af 0) (af 1))) (gY 0) (fB (ax (uH true) (af 0) (fK (.str "abcdefghijklmnopqrstuvwxyz")))) (af 0)) (eG ai)))
  (bv (fK .non))
  bo)
  (bv (ax fq (af 0) (af 1)))))
noncomputable def ez:MF:=gN 2 (cZ)
abbrev kQ:FS:=(aM (iJ (aP cL 1 (ac (br (af 0)) ai)))
  (aM (bD 1 (Am (gQ (M6 (af 0) (fK (.str "-")))) (qz (af 0) (eX (fK (.int 1))) f9) (af 0)))
  (aM (fA (iu (gQ (aP b3 3 (ac (br (af 1)) (ac (br (fK (.str "0123456789"))) (ac (br (fK (.int (60)))) ai))))))
  eU
  bo)
  (aM (fA (jO (fB (ax (gm false) (ax D5 (af 1) (fK (.int 0))) (fK (.str "0")))) (fB (ax (gm true) (af 0) (fK (.str "0")))))
  eU
  bo)
  (bv (fF vL (ac (af 0) ai)))))))
noncomputable def cD:MF:=gN 2 (kQ)
abbrev gM:XB:=(nN (ma cW 1 (ac (br (af 0)) ai))
  (jg (iJ (aP cL 1 (ac (br (af 0)) ai)))
  (jg (bD 1 (Am (gQ (M6 (af 0) (fK (.str "-")))) (qz (af 0) (eX (fK (.int 1))) f9) (af 0)))
  (nN (xC (iu (gQ (aP b3 3 (ac (br (af 1)) (ac (br (fK (.str "0123456789"))) (ac (br (fK (.int (60)))) ai)))))) (fN "NoText" (qi "no number: " 0)) wk)
  (jg (fA (iu (gQ (aP b3 3 (ac (br (af 1)) (ac (br (fK (.str "0123456789"))) (ac (br (fK (.int (60)))) ai))))))
  eU
  bo)
  (xC (jO (fB (ax (gm false) (ax D5 (af 1) (fK (.int 0))) (fK (.str "0")))) (fB (ax (gm true) (af 0) (fK (.str "0"))))) (fN "NoText" (qi "a number with a 0 ahead, or below 0 without being so: " 0)) wk))))))
noncomputable def cb:A0 D->UO Str:=wE 2 (gM)
abbrev j4:FS:=(aM (fA (iu (gQ (aP b3 3 (ac (br (af 0)) (ac (br (fK (.str "abcdefghijklmnopqrstuvwxyz"))) (ac (br (fK (.int (8)))) ai))))))
  eU
  bo)
  (bv (af 0)))
noncomputable def dN:MF:=gN 1 (j4)
abbrev ij:XB:=(xC (iu (gQ (aP b3 3 (ac (br (af 0)) (ac (br (fK (.str "abcdefghijklmnopqrstuvwxyz"))) (ac (br (fK (.int (8)))) ai)))))) (fN "NoText" (qi "no word of one to eight small letters: " 0)) wk)
noncomputable def eR:A0 D->UO Str:=wE 1 (ij)
abbrev pe:FS:=(aM (iJ (aP cL 1 (ac (br (af 0)) ai)))
  (bv (ax u9 (af 0) (fK (.str " ")))))
noncomputable def gc:MC:=ye 1 (pe)
abbrev oR:XB:=(ma cW 1 (ac (br (af 0)) ai))
noncomputable def iQ:A0 D->UO Str:=wE 1 (oR)
abbrev n6:FS:=(aM (fA (fB (ax (gm false) (fF gJ (ac (af 0) ai)) (fK (.int 0))))
  (bv (fK (.int 0)))
  bo)
  (aM (bD 2 (ax bu (aP aF 3 (ac (br (af 0)) (ac (br (af 1)) (ac (fK (.int 100000000)) ai)))) (fK (.int 1))))
  (bv (ax qY (ax bu (ax kJ (ax qY (ax fq (af 0) (ax qY (af 1) (fF gJ (ac (af 0) ai)))) (ax qh (fK (.int 10)) (fK (.int 50)))) (af 2)) (ax qh (af 2) (fK (.int 5)))) (ax qh (fK (.int 10)) (fK (.int 50)))))))
noncomputable def lm:MF:=gN 3 (n6)
abbrev lO:FS:=(bD 2 (ax bu (af 2) (ax D5 (fK (.str "abcdefghijklmnopqrstuvwxyz")) (aP aF 3 (ac (br (af 0)) (ac (br (ax bu (ax bu (af 1) (fK (.int 1))) (af 3))) (ac (fK (.int 26)) ai)))))))
abbrev pi:FS:=(aM (bD 2 (fK (.str "")))
  (aM (qc (on (ax bu (fK (.int 1)) (aP aF 3 (ac (br (af 0)) (ac (br (af 1)) (ac (fK (.int 8)) ai)))))) (gY 3)
  lO)
  (bv (af 2))))
noncomputable def gh:MF:=gN 4 (pi)
abbrev kR:FS:=(aM (bD 2 (aP aF 3 (ac (br (af 0)) (ac (br (af 1)) (ac (fK (.int 4)) ai)))))
  (bv (fF oi (ac (hZ [0,1] 1 (on (af 2)) (gY 0) gS (aP aF 3 (ac (br (af 1)) (ac (br (ax bu (ax bu (af 2) (fK (.int 1))) (af 0))) (ac (fK (.int 9)) ai))))) ai))))
noncomputable def dB:MF:=gN 3 (kR)
abbrev dC:FS:=(aM (fA (fB (ax Me (af 1) (fF gJ (ac (af 0) ai))))
  (bv (fK .non))
  bo)
  (aM (bD 3 (aP dj 1 (ac (br (ax fq (af 0) (af 1))) ai)))
  (aM (fA (kE (fB (fT (kx false .non) (af 3))) (kE (fB (ax Bh (af 3) (fK (.int 0)))) (fB (ax wf (ax bu (ax bu (af 1) (fK (.int 1))) (ax kJ (af 2) (af 3))) (fF gJ (ac (af 0) ai))))))
  (bv (fK .non))
  bo)
  (aM (bD 4 (hZ [] 1 (ky (Al (af 0) (eX (ax bu (af 1) (fK (.int 1)))) (eX (ax bu (ax bu (af 1) (fK (.int 1))) (ax kJ (af 2) (af 3)))))) (gY 0) gS (aP dj 1 (ac (br (af 0)) ai))))
  (aM (fA (fB (ax (M5 false) (fK .non) (af 4)))
  (bv (fK .non))
  bo)
  (bv (c9 (ac (fF oi (ac (af 4) ai)) (ac (ax bu (ax bu (af 1) (fK (.int 1))) (ax kJ (af 2) (af 3))) ai)))))))))
noncomputable def bJ:MF:=gN 5 (dC)
abbrev bM:FS:=(aM (fA (fB (ax Me (af 1) (fF gJ (ac (af 0) ai))))
  (bv (fK .non))
  bo)
  (aM (fA (fB (ax (gm false) (af 4) (fK (.str "word"))))
  (iJ (uO pq (af 3) (ac (aP ez 2 (ac (br (af 0)) (ac (br (af 1)) ai))) ai)))
  (iJ (uO pq (af 3) (ac (aP dj 1 (ac (br (ax fq (af 0) (af 1))) ai)) ai))))
  (bD 1 (ax bu (af 1) (fK (.int 1))))))
abbrev gT:FS:=(aM (bD 3 (eG ai))
  (aM (qc (ky (af 2)) (gY 4)
  bM)
  (aM (fA (fB (ax (M5 false) (fK .non) (af 3)))
  (bv (fK .non))
  bo)
  (bv (c9 (ac (fF oi (ac (af 3) ai)) (ac (af 1) ai)))))))
noncomputable def cI:MF:=gN 5 (gT)
abbrev dE:FS:=(aM (bD 3 (ax u9 (af 2) (fK (.str " "))))
  (aM (bD 4 (aP aF 3 (ac (br (af 0)) (ac (br (af 1)) (ac (fK (.int 7)) ai)))))
  (aM (bD 5 (aP aF 3 (ac (br (af 0)) (ac (br (ax bu (af 1) (fK (.int 1)))) (ac (br (fF gJ (ac (af 3) ai))) ai)))))
  (aM (bD 6 (eG (ac (fK (.str "")) (ac (fK (.str "table")) (ac (fK (.str "pick")) (ac (fK (.str "joined")) (ac (fK (.str "columns")) (ac (fK (.str "twins")) (ac (fK (.str "ab")) (ac (fK (.str "Ab")) ai))))))))))
  (aM (bD 6 (ax bu (af 6) (eG (ac (fK (.str "abcdefghi")) (ac (fK (.str "0")) (ac (fK (.str "1")) (ac (fK (.str "2")) (ac (fK (.str "-1")) (ac (fK (.str "-")) (ac (fK (.str "01")) (ac (fK (.str "3 ")) (ac (fK (.str "+3")) (ac (fK (.str "1_0")) (ac (fK (.str "-0")) ai))))))))))))))
  (aM (bD 7 (ax fq (af 6) (aP aF 3 (ac (br (af 0)) (ac (br (ax bu (af 1) (fK (.int 2)))) (ac (fK (.int 19)) ai))))))
  (aM (fA (fB (ax Bh (af 4) (fK (.int 3))))
  (bv (ax nB (fK (.str " ")) (ax bu (ax bu (Al (af 3) f9 (eX (af 5))) (eG (ac (af 7) ai))) (Al (af 3) (eX (ax bu (af 5) (fK (.int 1)))) f9))))
  bo)
  (aM (fA (fB (ax (gm false) (af 4) (fK (.int 3))))
  (bv (ax nB (fK (.str " ")) (ax bu (ax bu (Al (af 3) f9 (eX (af 5))) (eG (ac (af 7) ai))) (Al (af 3) (eX (af 5)) f9))))
  bo)
  (aM (fA (fB (ax (gm false) (af 4) (fK (.int 4))))
  (bv (ax nB (fK (.str " ")) (ax bu (Al (af 3) f9 (eX (af 5))) (Al (af 3) (eX (ax bu (af 5) (fK (.int 1)))) f9))))
  bo)
  (aM (fA (fB (ax (gm false) (af 4) (fK (.int 5))))
  (bv (ax nB (fK (.str " ")) (Al (af 3) f9 (eX (af 5)))))
  bo)
  (bv (ax bu (ax bu (af 2) (fK (.str " "))) (af 7)))))))))))))
noncomputable def fL:MF:=gN 8 (dE)
abbrev kU:FS:=(aM (r6 "Reader" "words" (af 0) (ju gc 1 (ac (af 1) ai)))
  (r6 "Reader" "place" (af 0) (fK (.int 0))))
noncomputable def cY:MW:=o5 2 (kU)
abbrev kB:XB:=(ma iQ 1 (ac (br (af 1)) ai))
noncomputable def dz:og:=jS 2 (kB)
abbrev iZ:FS:=(bv (aP dN 1 (ac (br (bT "Reader" "word" aX 1 (af 0) ai)) ai)))
noncomputable def cj:MW:=o5 1 (iZ)
abbrev eQ:XB:=(nN (dH "Reader" "word" bg 1 (af 0) ai) (ma eR 1 (ac (br (bT "Reader" "word" aX 1 (af 0) ai)) ai)))
noncomputable def cT:og:=jS 1 (eQ)
abbrev jv:FS:=(bv (aP cD 1 (ac (br (bT "Reader" "word" aX 1 (af 0) ai)) ai)))
noncomputable def aq:MW:=o5 1 (jv)
abbrev fE:XB:=(nN (dH "Reader" "word" bg 1 (af 0) ai) (ma cb 1 (ac (br (bT "Reader" "word" aX 1 (af 0) ai)) ai)))
noncomputable def aE:og:=jS 1 (fE)
abbrev g5:FS:=(aM (bD 2 (aP cD 1 (ac (br (af 0)) ai)))
  (aM (fA (fB (ax Bh (af 2) (af 1)))
  eU
  bo)
  (bv (af 2))))
noncomputable def cU:MF:=gN 3 (g5)
abbrev dG:XB:=(nN (ma cb 1 (ac (br (af 0)) ai))
  (jg (bD 2 (aP cD 1 (ac (br (af 0)) ai)))
  (xC (fB (ax Bh (af 2) (af 1))) (fN "NoText" (λO=>(su 2) O&&(λO=>(λ_=>true) O&&(λO=>(su 1) O&&(λO=>(λ_=>true) O&&(λ_=>true) O) O) O) O)) wk)))
noncomputable def b8:A0 D->UO Str:=wE 3 (dG)
abbrev gB:FS:=(aM (bD 2 (aP aF 3 (ac (br (af 0)) (ac (br (af 1)) (ac (fK (.int 5)) ai)))))
  (aM (fA (fB (ax Bh (af 2) (fK (.int 2))))
  (bv (ax u6 (aP aF 3 (ac (br (af 0)) (ac (br (ax bu (af 1) (fK (.int 1)))) (ac (fK (.int 25)) ai)))) (fK (.int 12))))
  bo)
  (aM (fA (fB (ax (gm false) (af 2) (fK (.int 2))))
  (bv (ax u6 (ax u6 (ax qh (fK (.int 10)) (fK (.int 60))) (fK (.int 1))) (aP aF 3 (ac (br (af 0)) (ac (br (ax bu (af 1) (fK (.int 1)))) (ac (fK (.int 3)) ai))))))
  bo)
  (aM (fA (fB (ax (gm false) (af 2) (fK (.int 3))))
  (bv (ax bu (ax u6 (fK (.int 1)) (ax qh (fK (.int 10)) (fK (.int 60)))) (aP aF 3 (ac (br (af 0)) (ac (br (ax bu (af 1) (fK (.int 1)))) (ac (fK (.int 3)) ai))))))
  bo)
  (bv (ax u6 (aP lm 2 (ac (br (af 0)) (ac (br (ax bu (af 1) (fK (.int 1)))) ai))) (ax kJ (fK (.int 5)) (ax qh (fK (.int 10)) (fK (.int 49))))))))))
noncomputable def gx:MF:=gN 3 (gB)
abbrev n5:FS:=(aM (fA (fB (ax (gm false) (af 2) (fK (.str "joined"))))
  (bv (c9 (ac (af 2) (ac (af 3) (ac (af 4) (ac (ax fq (eG (ac (fK (.str "both")) (ac (fK (.str "either")) (ac (fK (.str "less")) (ac (fK (.str "just")) (ac (fK (.str "table")) ai)))))) (aP aF 3 (ac (br (af 0)) (ac (br (ax bu (af 1) (fK (.int 1)))) (ac (fK (.int 5)) ai))))) ai))))))
  bo)
  (aM (bD 5 (aP dB 2 (ac (br (af 0)) (ac (br (ax bu (af 1) (fK (.int 1)))) ai))))
  (bv (c9 (ac (af 2) (ac (af 3) (ac (af 4) (ac (fF oi (ac (hZ [0,1] 1 (ky (af 5)) (gY 0) gS (c9 (ac (af 0) (ac (aP aF 3 (ac (br (af 1)) (ac (br (ax bu (af 2) (fK (.int 6)))) (ac (fK (.int 9)) ai)))) ai)))) ai)) ai))))))))
noncomputable def jF:MF:=gN 6 (n5)
abbrev oO:FS:=(aM (bD 3 (An [((fK (.str "pick")),(br (eG (ac (fK (.str "number")) (ac (fK (.str "word")) (ac (fK (.str "number")) ai)))))),((fK (.str "twins")),(br (eG (ac (fK (.str "number")) (ac (fK (.str "number")) ai))))),((fK (.str "joined")),(br (eG (ac (fK (.str "word")) ai))))]))
  (aM (qd (br (eG (ac (fK (.str "word")) (ac (fK (.str "number")) ai)))) (nD (af 3) (fK (.str "lifted"))))
  (aM (fA (fB (ax (GQ false) (af 2) (af 3)))
  (bv (aP cI 3 (ac (br (af 0)) (ac (br (af 1)) (ac (br (BF (af 3) (af 2))) ai)))))
  bo)
  (aM (fA (fB (ax (gm false) (af 2) (fK (.str "matched"))))
  (aM (bD 4 (aP bJ 3 (ac (br (af 0)) (ac (br (af 1)) (ac (fK (.int 2)) ai)))))
  (aM (fA (fB (fT (kx false .non) (af 4)))
  (bv (fK .non))
  bo)
  (aM (bD 5 (ax yX (fF gJ (ac (ax fq (af 4) (fK (.int 0))) ai)) (fK (.int 2))))
  (bv (c9 (ac (c9 (ac (fF oi (ac (hZ [4] 1 (on (af 5)) (gY 0) gS (c9 (ac (ax fq (ax fq (af 1) (fK (.int 0))) (ax kJ (fK (.int 2)) (af 0))) (ac (ax fq (ax fq (af 1) (fK (.int 0))) (ax bu (ax kJ (fK (.int 2)) (af 0)) (fK (.int 1)))) ai)))) ai)) ai)) (ac (ax fq (af 4) (fK (.int 1))) ai)))))))
  bo)
  (aM (bD 4 (aP bJ 3 (ac (br (af 0)) (ac (br (af 1)) (ac (fK (.int 1)) ai)))))
  (aM (fA (kE (fB (fT (kx false .non) (af 4))) (fB (ax (gm true) (af 2) (fK (.str "summed")))))
  (bv (Am (fB (fT (kx false .non) (af 4))) (fK .non) (c9 (ac (c9 (ac (ax fq (af 4) (fK (.int 0))) ai)) (ac (ax fq (af 4) (fK (.int 1))) ai)))))
  bo)
  (aM (bD 6 (aP cI 3 (ac (br (af 0)) (ac (br (ax fq (af 4) (fK (.int 1)))) (ac (br (eG (ac (fK (.str "number")) ai))) ai)))))
  (bv (Am (fB (fT (kx false .non) (af 6))) (fK .non) (c9 (ac (c9 (ac (ax fq (af 4) (fK (.int 0))) (ac (ax fq (ax fq (af 6) (fK (.int 0))) (fK (.int 0))) ai))) (ac (ax fq (af 6) (fK (.int 1))) ai))))))))))))
noncomputable def bP:MF:=gN 7 (oO)
abbrev kT:FS:=(bv (aP cU 2 (ac (br (bT "Reader" "word" aX 1 (af 0) ai)) (ac (fK (.int 0)) ai))))
noncomputable def bp:MW:=o5 1 (kT)
abbrev fI:XB:=(nN (dH "Reader" "word" bg 1 (af 0) ai) (ma b8 2 (ac (br (bT "Reader" "word" aX 1 (af 0) ai)) (ac (fK (.int 0)) ai))))
noncomputable def cC:og:=jS 1 (fI)
abbrev ie:FS:=(aM (fA (fB (ax (gm false) (af 2) (fK (.str "pick"))))
  (aM (bD 4 (ax fq (eG (ac (fK (.str "is")) (ac (fK (.str "under")) (ac (fK (.str "over")) (ac (fK (.str "abcdefgh")) ai))))) (aP aF 3 (ac (br (af 0)) (ac (br (ax bu (af 1) (fK (.int 1)))) (ac (fK (.int 4)) ai))))))
  (bv (c9 (ac (af 2) (ac (af 3) (ac (aP aF 3 (ac (br (af 0)) (ac (br (ax bu (af 1) (fK (.int 2)))) (ac (fK (.int 9)) ai)))) (ac (af 4) (ac (aP gx 2 (ac (br (af 0)) (ac (br (ax bu (af 1) (fK (.int 3)))) ai))) ai))))))))
  bo)
  (aM (fA (fB (ax (gm false) (af 2) (fK (.str "twins"))))
  (bv (c9 (ac (af 2) (ac (af 3) (ac (aP aF 3 (ac (br (af 0)) (ac (br (ax bu (af 1) (fK (.int 1)))) (ac (fK (.int 9)) ai)))) (ac (aP aF 3 (ac (br (af 0)) (ac (br (ax bu (af 1) (fK (.int 2)))) (ac (fK (.int 9)) ai)))) ai))))))
  bo)
  (aM (fA (fB (ax (gm false) (af 2) (fK (.str "lifted"))))
  (aM (bD 4 (ax fq (eG (ac (fK (.str "moved")) (ac (fK (.str "ever")) (ac (fK (.str "always")) (ac (fK (.str "known")) (ac (fK (.str "asof")) (ac (fK (.str "from")) (ac (fK (.str "q")) ai)))))))) (aP aF 3 (ac (br (af 0)) (ac (br (ax bu (af 1) (fK (.int 1)))) (ac (fK (.int 7)) ai))))))
  (bv (c9 (ac (af 2) (ac (af 3) (ac (af 4) (ac (aP gx 2 (ac (br (af 0)) (ac (br (ax bu (af 1) (fK (.int 2)))) ai))) ai)))))))
  bo)
  (aM (fA (fB (ax (gm false) (af 2) (fK (.str "summed"))))
  (bv (c9 (ac (af 2) (ac (af 3) (ac (aP dB 2 (ac (br (af 0)) (ac (br (ax bu (af 1) (fK (.int 1)))) ai))) (ac (aP aF 3 (ac (br (af 0)) (ac (br (ax bu (af 1) (fK (.int 6)))) (ac (fK (.int 9)) ai)))) ai))))))
  bo)
  (bv (c9 (ac (af 2) (ac (af 3) (ac (aP dB 2 (ac (br (af 0)) (ac (br (ax bu (af 1) (fK (.int 1)))) ai))) ai)))))))))
noncomputable def jG:MF:=gN 5 (ie)
abbrev iY:FS:=(bv (fF oi (ac (hZ [0] 1 (on (bT "Reader" "many" bp 1 (af 0) ai)) (gY 0) gS (bT "Reader" "number" aq 1 (af 1) ai)) ai)))
noncomputable def bX:MW:=o5 1 (iY)
abbrev eP:XB:=(nN (dH "Reader" "many" cC 1 (af 0) ai) (jq [0] 1 (qR (bT "Reader" "many" bp 1 (af 0) ai)) (gY 0) gS (bT "Reader" "number" aq 1 (af 1) ai) (dH "Reader" "number" aE 1 (af 1) ai)))
noncomputable def cR:og:=jS 1 (eP)
abbrev gy:FS:=(aM (bD 6 (eG (ac (fK (.str "table")) (ac (fK (.str "pick")) (ac (fK (.str "twins")) (ac (fK (.str "columns")) (ac (fK (.str "counted")) (ac (fK (.str "summed")) (ac (fK (.str "lifted")) (ac (fK (.str "joined")) (ac (fK (.str "matched")) (ac (fK (.str "joined")) ai))))))))))))
  (aM (bD 7 (ax fq (af 6) (aP aF 3 (ac (br (af 0)) (ac (br (af 5)) (ac (fK (.int 10)) ai))))))
  (aM (bD 8 (ax bu (ax bu (af 2) (fK (.int 20))) (ax kJ (fK (.int 10)) (af 5))))
  (fA (jO (fB (ax (uF false) (af 7) (c9 (ac (fK (.str "joined")) (ac (fK (.str "matched")) ai))))) (jO (fB (ax wf (fF gJ (ac (af 3) ai)) (fK (.int 1)))) (fB (ax Bh (fF tU (ac (ax fq (af 4) (fT iV (fK (.int 1)))) (ac (ax fq (af 4) (fT iV (fK (.int 2)))) ai))) (fK (.int 20))))))
  (aM (bD 9 (uO nq (af 3) ai))
  (aM (bD 10 (uO nq (af 4) ai))
  (aM (qd (br (aP jF 5 (ac (br (af 0)) (ac (br (af 8)) (ac (br (af 7)) (ac (br (ax fq (af 3) (fT iV (fK (.int 1))))) (ac (br (af 9)) ai))))))) (nD (af 3) (fT iV (fK (.int 1)))))
  (qd (br (ax bu (fK (.int 1)) (fF tU (ac (ax fq (af 4) (fT iV (fK (.int 1)))) (ac (af 10) ai))))) (nD (af 4) (fT iV (fK (.int 1))))))))
  (fA (kE (fB (ax (uF false) (af 7) (c9 (ac (fK (.str "table")) (ac (fK (.str "joined")) (ac (fK (.str "matched")) ai)))))) (fB (ax wf (ax fq (af 4) (fT iV (fK (.int 1)))) (fK (.int 19)))))
  (aM (iJ (uO pq (af 3) (ac (c9 (ac (fK (.str "table")) (ac (aP gh 2 (ac (br (af 0)) (ac (br (af 8)) ai))) ai))) ai)))
  (iJ (uO pq (af 4) (ac (fK (.int 1)) ai))))
  (aM (qd (br (aP jG 4 (ac (br (af 0)) (ac (br (af 8)) (ac (br (af 7)) (ac (br (ax fq (af 3) (fT iV (fK (.int 1))))) ai)))))) (nD (af 3) (fT iV (fK (.int 1)))))
  (qd (br (ax bu (ax fq (af 4) (fT iV (fK (.int 1)))) (fK (.int 1)))) (nD (af 4) (fT iV (fK (.int 1)))))))))))
abbrev pj:FS:=(aM (bD 3 (eG (ac (c9 (ac (fK (.str "table")) (ac (aP gh 2 (ac (br (af 0)) (ac (br (af 2)) ai))) ai))) ai)))
  (aM (bD 4 (eG (ac (fK (.int 1)) ai)))
  (aM (qc (on (af 1)) (gY 5)
  gy)
  (bv (af 3)))))
noncomputable def iW:MC:=ye 11 (pj)
abbrev en (F:MW):FS:=(aM (fA (fB (ax (gm false) (af 1) (fK (.str "ask"))))
  (bv (gK F 2 (ac (af 0) (ac (ax bu (af 2) (fK (.int 1))) ai))))
  bo)
  (aM (fA (kE (fB (ax (gm false) (af 1) (fK (.str "column")))) (fB (ax (gm false) (af 1) (fK (.str "number")))))
  (bv (bT "Reader" "number" aq 1 (af 0) ai))
  bo)
  (aM (fA (fB (ax (gm false) (af 1) (fK (.str "columns"))))
  (bv (bT "Reader" "numbers" bX 1 (af 0) ai))
  bo)
  (aM (fA (fB (ax (gm false) (af 1) (fK (.str "pairs"))))
  (bv (fF oi (ac (hZ [0] 1 (on (bT "Reader" "many" bp 1 (af 0) ai)) (gY 0) gS (c9 (ac (bT "Reader" "number" aq 1 (af 1) ai) (ac (bT "Reader" "number" aq 1 (af 1) ai) ai)))) ai)))
  bo)
  (bv (bT "Reader" "letters" cj 1 (af 0) ai))))))
noncomputable def bS (F:MW):MW:=o5 3 (en F)
abbrev bR (F:MW)(XF:og):XB:=(nN (xC (fB (ax (gm false) (af 1) (fK (.str "ask")))) (ik XF 2 (ac (af 0) (ac (ax bu (af 2) (fK (.int 1))) ai))) wk)
  (jg (fA (fB (ax (gm false) (af 1) (fK (.str "ask"))))
  (bv (gK F 2 (ac (af 0) (ac (ax bu (af 2) (fK (.int 1))) ai))))
  bo)
  (nN (xC (kE (fB (ax (gm false) (af 1) (fK (.str "column")))) (fB (ax (gm false) (af 1) (fK (.str "number"))))) (dH "Reader" "number" aE 1 (af 0) ai) wk)
  (jg (fA (kE (fB (ax (gm false) (af 1) (fK (.str "column")))) (fB (ax (gm false) (af 1) (fK (.str "number")))))
  (bv (bT "Reader" "number" aq 1 (af 0) ai))
  bo)
  (nN (xC (fB (ax (gm false) (af 1) (fK (.str "columns")))) (dH "Reader" "numbers" cR 1 (af 0) ai) wk)
  (jg (fA (fB (ax (gm false) (af 1) (fK (.str "columns"))))
  (bv (bT "Reader" "numbers" bX 1 (af 0) ai))
  bo)
  (nN (xC (fB (ax (gm false) (af 1) (fK (.str "pairs")))) (nN (dH "Reader" "many" cC 1 (af 0) ai) (jq [0] 1 (qR (bT "Reader" "many" bp 1 (af 0) ai)) (gY 0) gS (c9 (ac (bT "Reader" "number" aq 1 (af 1) ai) (ac (bT "Reader" "number" aq 1 (af 1) ai) ai))) (nN (dH "Reader" "number" aE 1 (af 1) ai) (oS (bT "Reader" "number" aq 1 (af 1) ai) (dH "Reader" "number" aE 1 (af 1) ai))))) wk)
  (jg (fA (fB (ax (gm false) (af 1) (fK (.str "pairs"))))
  (bv (fF oi (ac (hZ [0] 1 (on (bT "Reader" "many" bp 1 (af 0) ai)) (gY 0) gS (c9 (ac (bT "Reader" "number" aq 1 (af 1) ai) (ac (bT "Reader" "number" aq 1 (af 1) ai) ai)))) ai)))
  bo)
  (dH "Reader" "letters" cT 1 (af 0) ai)))))))))
noncomputable def b0 (F:MW)(XF:og):og:=jS 3 (bR F XF)
abbrev gP (F:MC):FS:=(fA (gQ (fT (gi "tuple") (af 3)))
  (bD 1 (ax re (af 1) (eG (ac (fF u7 (ac (ax fq (af 3) (fK (.int 0))) ai)) (ac (fF u7 (ac (ax fq (af 3) (fK (.int 1))) ai)) ai)))))
  (iJ (uO pq (af 1) (ac (fF u7 (ac (af 3) ai)) ai))))
abbrev cJ (F:MC):FS:=(fA (gQ (fT (gi "str") (af 2)))
  (iJ (uO pq (af 1) (ac (af 2) ai)))
  (fA (iu (gQ (fT (gi "tuple") (af 2))))
  (iJ (uO pq (af 1) (ac (fF u7 (ac (af 2) ai)) ai)))
  (fA (jO (fB (ax wf (fF gJ (ac (af 2) ai)) (fK (.int 0)))) (gQ (fT (gi "str") (ax fq (af 2) (fK (.int 0))))))
  (bD 1 (ax re (af 1) (ju F 1 (ac (af 2) ai))))
  (aM (iJ (uO pq (af 1) (ac (fF u7 (ac (fF gJ (ac (af 2) ai)) ai)) ai)))
  (qc (ky (af 2)) (gY 3)
  (gP F))))))
abbrev nJ (F:MC):FS:=(aM (bD 1 (eG (ac (ax fq (af 0) (fK (.int 0))) ai)))
  (aM (qc (ky (Al (af 0) (eX (fK (.int 1))) f9)) (gY 2)
  (cJ F))
  (bv (af 1))))
noncomputable def dA:Nat->MC
 |0=>ye 4 eU
 |n+1=>ye 4 (nJ (dA n))
abbrev lN (F:MF):FS:=(fA (iu (gQ (aP F 2 (ac (br (ax fq (af 0) (af 2))) (ac (br (ax fq (af 1) (af 2))) ai)))))
  (bv (fK (.bl false)))
  bo)
abbrev j5 (F:MF):FS:=(aM (fA (gQ (fT (gi "tuple") (af 1)))
  (aM (fA (kE (iu (gQ (fT (gi "tuple") (af 0)))) (fB (ax (gm true) (fF gJ (ac (af 0) ai)) (fF gJ (ac (af 1) ai)))))
  (bv (fK (.bl false)))
  bo)
  (aM (qc (on (fF gJ (ac (af 1) ai))) (gY 2)
  (lN F))
  (bv (fK (.bl true)))))
  bo)
  (aM (fA (gQ (fT (gi "str") (af 1)))
  (bv (xt (fT (gi "str") (af 0)) (ax (gm false) (af 0) (af 1))))
  bo)
  (bv (xt (fT (gi "int") (af 0)) (xt (G3 (fT (gi "bool") (af 0))) (ax (gm false) (af 0) (af 1)))))))
noncomputable def gg:Nat->MF
 |0=>gN 3 eU
 |n+1=>gN 3 (j5 (gg n))
abbrev cM (F:MF):FS:=(aM (bD 7 (aP F 3 (ac (br (af 0)) (ac (br (af 1)) (ac (br (ax bu (af 2) (fK (.int 1)))) ai)))))
  (aM (fA (fB (fT (kx false .non) (af 7)))
  (bv (fK .non))
  bo)
  (aM (iJ (uO pq (af 5) (ac (ax fq (af 7) (fK (.int 0))) ai)))
  (bD 1 (ax fq (af 7) (fK (.int 1)))))))
abbrev fu (F:MF):FS:=(aM (fA (kE (fB (ax Me (af 1) (fF gJ (ac (af 0) ai)))) (fB (ax wf (af 2) (fK (.int 20)))))
  (bv (fK .non))
  bo)
  (aM (bD 3 (ax fq (af 0) (af 1)))
  (aM (fA (fB (ax (gm false) (af 3) (fK (.str "table"))))
  (aM (bD 4 (aP ez 2 (ac (br (af 0)) (ac (br (ax bu (af 1) (fK (.int 1)))) ai))))
  (bv (Am (fB (fT (kx false .non) (af 4))) (fK .non) (c9 (ac (c9 (ac (fK (.str "table")) (ac (af 4) ai))) (ac (ax bu (af 1) (fK (.int 2))) ai))))))
  bo)
  (aM (fA (fB (ax (uF true) (af 3) (c9 (ac (fK (.str "pick")) (ac (fK (.str "twins")) (ac (fK (.str "columns")) (ac (fK (.str "counted")) (ac (fK (.str "summed")) (ac (fK (.str "lifted")) (ac (fK (.str "joined")) (ac (fK (.str "matched")) ai)))))))))))
  (bv (fK .non))
  bo)
  (aM (bD 5 (eG (ac (af 3) ai)))
  (aM (bD 1 (ax bu (af 1) (fK (.int 1))))
  (aM (qc (on (ax bu (fK (.int 1)) (fF By (ac (ax (uF false) (af 3) (c9 (ac (fK (.str "joined")) (ac (fK (.str "matched")) ai)))) ai)))) (gY 6)
  (cM F))
  (aM (bD 8 (aP bP 3 (ac (br (af 0)) (ac (br (af 1)) (ac (br (af 3)) ai)))))
  (bv (Am (fB (fT (kx false .non) (af 8))) (fK .non) (c9 (ac (ax bu (fF oi (ac (af 5) ai)) (ax fq (af 8) (fK (.int 0)))) (ac (ax fq (af 8) (fK (.int 1))) ai)))))))))))))
noncomputable def bE:Nat->MF
 |0=>gN 9 eU
 |n+1=>gN 9 (fu (bE n))
abbrev lv:FS:=(aM (bD 1 (ax u9 (af 0) (fK (.str " "))))
  (aM (bD 2 (aP (bE 24) 3 (ac (br (af 1)) (ac (fK (.int 0)) (ac (fK (.int 1)) ai)))))
  (aM (fA (kE (fB (fT (kx false .non) (af 2))) (fB (ax (gm true) (ax fq (af 2) (fK (.int 1))) (fF gJ (ac (af 1) ai)))))
  (bv (fK .non))
  bo)
  (bv (ax fq (af 2) (fK (.int 0)))))))
noncomputable def jH:MF:=gN 3 (lv)
abbrev nI (F:MW):FS:=(aM (fA (fB (ax wf (af 1) (fK (.int (20)))))
  eU
  bo)
  (aM (bD 2 (bT "Reader" "word" aX 1 (af 0) ai))
  (aM (bD 3 (aP hG 1 (ac (br (af 2)) ai)))
  (aM (fA (fB (fT (kx false .non) (af 3)))
  eU
  bo)
  (bv (fF oi (ac (ax re (eG (ac (af 2) ai)) (hZ [0,1] 1 (ky (af 3)) (gY 0) gS (gK (bS F) 3 (ac (af 1) (ac (af 0) (ac (af 2) ai)))))) ai)))))))
noncomputable def bh:Nat->MW
 |0=>o5 4 eU
 |n+1=>o5 4 (nI (bh n))
abbrev fW (F:MW)(XF:og):XB:=(nN (xC (fB (ax wf (af 1) (fK (.int (20))))) (fN "NoText" λ_=>true) wk)
  (jg (fA (fB (ax wf (af 1) (fK (.int (20)))))
  eU
  bo)
  (nN (dH "Reader" "word" bg 1 (af 0) ai)
  (jg (bD 2 (bT "Reader" "word" aX 1 (af 0) ai))
  (jg (bD 3 (aP hG 1 (ac (br (af 2)) ai)))
  (nN (xC (fB (fT (kx false .non) (af 3))) (fN "NoText" (qi "no ask begins with " 2)) wk)
  (jg (fA (fB (fT (kx false .non) (af 3)))
  eU
  bo)
  (oS (eG (ac (af 2) ai)) (jq [0,1] 1 (ky (af 3)) (gY 0) gS (gK (bS F) 3 (ac (af 1) (ac (af 0) (ac (af 2) ai)))) (ik (b0 F XF) 3 (ac (af 1) (ac (af 0) (ac (af 2) ai)))))))))))))
noncomputable def bZ:Nat->og
 |0=>jS 4 wk
 |n+1=>jS 4 (fW (bh n) (bZ n))
abbrev ph:FS:=(aM (bD 1 (qA "Reader" cY 2 (ac (af 0) ai)))
  (aM (bD 2 (gK (bh 24) 2 (ac (af 1) (ac (fK (.int 1)) ai))))
  (aM (iJ (bT "Reader" "finish" dh 1 (af 1) ai))
  (bv (af 2)))))
noncomputable def iX:MF:=gN 3 (ph)
abbrev jL:XB:=(nN (rG "Reader" dz 2 (ac (af 0) ai))
  (jg (bD 1 (qA "Reader" cY 2 (ac (af 0) ai)))
  (nN (ik (bZ 24) 2 (ac (af 1) (ac (fK (.int 1)) ai)))
  (jg (bD 2 (gK (bh 24) 2 (ac (af 1) (ac (fK (.int 1)) ai))))
  (dH "Reader" "finish" cE 1 (af 1) ai)))))
noncomputable def b9:A0 D->UO Str:=wE 3 (jL)
abbrev lZ:FS:=(aM (bD 2 (eG ai))
  (aM (bD 3 (fK .non))
  (aM (CS ["NoText"] (ma b9 1 (ac (br (af 0)) ai)) (bD 3 (aP iX 1 (ac (br (af 0)) ai))) 4 (aM (bD 2 (eG (ac (fT (xk (AM [("NoText",true)])) (af 4)) (ac (fT (xk (AM [("NoText",true)])) (af 4)) ai))))
  (bD 2 (ax bu (af 2) (eG (ac (fT (xk (AM [("NoText",false)])) (af 4)) ai))))))
  (aM (fA (fB (fT (kx false .non) (af 1)))
  (bv (ax (gm false) (af 2) (eG (ac (fK (.bl true)) (ac (fK (.bl true)) (ac (fK (.bl false)) ai))))))
  bo)
  (bv (xt (ax (gm false) (af 2) (eG ai)) (aP (gg 24) 2 (ac (br (af 3)) (ac (br (af 1)) ai)))))))))
noncomputable def eA:MF:=gN 5 (lZ)
abbrev rB:FS:=(aM (bD 5 (aP fL 3 (ac (br (af 0)) (ac (br (ax bu (ax bu (fK (.int 903)) (ax kJ (fK (.int 5)) (af 4))) (fF qo (ac (af 2) ai)))) (ac (br (af 2)) ai)))))
  (fA (iu (gQ (aP eA 2 (ac (br (af 5)) (ac (br (aP jH 1 (ac (br (af 5)) ai))) ai)))))
  (bv (fK (.bl false)))
  bo))
abbrev rA:FS:=(aM (bD 2 (ax nB (fK (.str " ")) (ju (dA 24) 1 (ac (af 3) ai))))
  (qc (on (fK (.int 3))) (gY 4)
  rB))
abbrev JE:FS:=(aM (fA (iu (gQ (aP eA 2 (ac (br (ax Jt (PP (ac (fK .non) (ac (fK (.int 7)) (ac (fK (.bl true)) (ac (eG (ac (fK (.str "table a")) ai)) (ac (c9 (ac (fK (.str "table")) (ac (fK (.str "a")) ai))) (ac xr ai))))))) (aP aF 3 (ac (br (af 0)) (ac (fK (.int 900)) (ac (fK (.int 6)) ai)))))) (ac (fK .non) ai)))))
  (bv (fK (.bl false)))
  bo)
  (aM (bD 1 (ax bu (fK (.int 16)) (aP aF 3 (ac (br (af 0)) (ac (fK (.int 901)) (ac (fK (.int 8)) ai))))))
  (aM (bD 2 (ax bu (ax bu (ax qm (fK (.str "twins ")) (af 1)) (fK (.str "table a"))) (ax qm (fK (.str " 0 1")) (af 1))))
  (aM (fA (fB (ax (gm false) (aP aF 3 (ac (br (af 0)) (ac (fK (.int 902)) (ac (fK (.int 2)) ai)))) (fK (.int 1))))
  (bD 2 (ax bu (ax bu (ax qm (fK (.str "joined table b ")) (af 1)) (fK (.str "table a"))) (ax qm (fK (.str " both")) (af 1))))
  bo)
  (aM (fA (iu (gQ (aP eA 2 (ac (br (af 2)) (ac (br (aP jH 1 (ac (br (af 2)) ai))) ai)))))
  (bv (fK (.bl false)))
  bo)
  (aM (qc (ky (Al (ju iW 3 (ac (af 0) (ac (fF Bc (ac (fF gJ (ac (af 0) ai)) (ac (fK (.int 12)) ai))) (ac (fK (.int 63)) ai)))) f9 (eX (fK (.int 4))))) (gY 3)
  rA)
  (bv (fK (.bl true)))))))))
noncomputable def wX:MF:=gN 6 (JE)
noncomputable def zs:To:=["len","range","tuple","isinstance","str","all","int","max","bool","ValueError","min"]
def Rj (mg:Te)(l:To):Prop:=∀(i:Nat) (x:Str),l[i]?=some x->mg x=none
def JH {mg:Te}:Rj mg []:=λi x e=>by simp at e
theorem ii {mg:Te}{x:Str}{l:To}(h:mg x=none)(t:Rj mg l):Rj mg (x::l):=λi y e=>by
 cases i with
 |zero=>cases e;exact h
 |succ i=>exact t i y e
def Zs (mg:Te):Prop:=Rj mg zs
structure CF (K:AJ)(mg:Te)(C:Addr):Prop where
 n:lw K mg "Reader" C
 a_words:g6 K C "words"
 a_place:g6 K C "place"
 mks:PySem.W.makesIn K C=true
 kp:PySem.W.keepIn K (.ref C)=true
structure XF (K:AJ)(mg:Te)(q_NoText q_HeldError q_NoColumn q_NoStretch q_NoTable q_NoTurn q_NoWidth q_NoWord:Addr):Prop where
 e_NoText:ET K mg "NoText" q_NoText
 e_HeldError:ET K mg "HeldError" q_HeldError
 e_NoColumn:ET K mg "NoColumn" q_NoColumn
 e_NoStretch:ET K mg "NoStretch" q_NoStretch
 e_NoTable:ET K mg "NoTable" q_NoTable
 e_NoTurn:ET K mg "NoTurn" q_NoTurn
 e_NoWidth:ET K mg "NoWidth" q_NoWidth
 e_NoWord:ET K mg "NoWord" q_NoWord
 m_NoText:kK K q_NoText q_HeldError=true
 k_NoText_NoText:PySem.W.kitOne K (.ref q_NoText) (.ref q_NoText)=some true
 k_NoText_ValueError:PySem.W.kitOne K (.ref q_NoText) (.type "ValueError")=some true
 k_NoText_t2:PySem.W.kitAny K (.ref q_NoText) [.ref q_NoColumn,.ref q_NoStretch,.ref q_NoTable,.ref q_NoTurn,.ref q_NoWidth,.ref q_NoWord]=some false
section
variable {P:A7}{w:AF}{K:AJ}{mg:Te}{base:AG}{qC q_NoText q_HeldError q_NoColumn q_NoStretch q_NoTable q_NoTurn q_NoWidth q_NoWord:A4}(cf:CF K mg qC)(xf:XF K mg q_NoText q_HeldError q_NoColumn q_NoStretch q_NoTable q_NoTurn q_NoWidth q_NoWord)
include cf xf
set_option maxHeartbeats 4000000
theorem sG (z:Zs mg)(d:fw K qC "__init__" "Reader.__init__" iF ["self","text"])(jY:nL P w K mg base 2 "words_of" ["text"] gc)(hx_words_of:fG P w K mg base 2 "words_of" ["text"] iQ):b6 P w K mg base 3 "__init__" qC ["self","text"] dz :=
 vw (k:=2) d m6 λf AP A outer s H E hr=>
  (bj (ji (JC1 (gO hx_words_of (hr.mono ∅) (λxe=>(ae (aJ (ag 1)) am)))) jW))
theorem ug (z:Zs mg)(d:fw K qC "__init__" "Reader.__init__" iF ["self","text"])(jY:nL P w K mg base 2 "words_of" ["text"] gc)(hx_words_of:fG P w K mg base 2 "words_of" ["text"] iQ):cq P w K mg base 3 "__init__" qC ["self","text"] cY :=
 Gu (k:=2) d m6 λf AP A outer s H E hr=>
  (ar (IN cf.n cf.a_words (ag 0) (nR jY (hr.mono ∅) (ae (ag 1) am)))
  (aA (IN cf.n cf.a_place (ag 0) ap)))
theorem sE (z:Zs mg)(d:fw K qC "word" "Reader.word" iD ["self"])  : b6 P w K mg base 1 "word" qC ["self"] bg :=
 vw (k:=0) d mY λf AP A outer s H E hr=>
  (bj (jV (fO hr.units (oG cf.n cf.a_place (ag 0)) (f8 rfl (z 0 _ rfl) (ae (oG cf.n cf.a_words (ag 0)) am))) (bj (nS xf.e_NoText.mg xf.e_NoText.at_ xf.e_NoText.own (λI hm hE=>jy I hm hE))) eM))
theorem ue (z:Zs mg)(d:fw K qC "word" "Reader.word" iD ["self"])  : cq P w K mg base 1 "word" qC ["self"] aX :=
 Gu (k:=0) d mY λf AP A outer s H E hr=>
  (ar (cm (fO hr.units (oG cf.n cf.a_place (ag 0)) (f8 rfl (z 0 _ rfl) (ae (oG cf.n cf.a_words (ag 0)) am)))
  (aA fR)
  bx)
  (ar (Kl cf.n cf.a_place (ag 0) ap)
  (aA (aU (dL (oG cf.n cf.a_words (ag 0)) (uu (oG cf.n cf.a_place (ag 0)) ap))))))
theorem pP (z:Zs mg)(d:fw K qC "letters" "Reader.letters" fQ ["self"])(eV:bV P w K mg base 2 "read_letters" ["text"] dN)(Jab:cq P w K mg base 1 "word" qC ["self"] aX)(hx_read_letters:fG P w K mg base 2 "read_letters" ["text"] eR)(hx_Reader_word:b6 P w K mg base 1 "word" qC ["self"] bg):b6 P w K mg base 3 "letters" qC ["self"] cT :=
 vw (k:=2) d ko λf AP A outer s H E hr=>
  (bj (ji (jz (Dd (pJ eV (lG (dJ cf.n hx_Reader_word (hr.mono ∅) (λxe=>(ag 0))))) (gO hx_read_letters (hr.mono ∅) (λxe=>(ae (aJ (bW cf.n Jab (hr.mono ∅) (ag 0))) am))))) jW))
theorem qv (z:Zs mg)(d:fw K qC "letters" "Reader.letters" fQ ["self"])(eV:bV P w K mg base 2 "read_letters" ["text"] dN)(Jab:cq P w K mg base 1 "word" qC ["self"] aX)(hx_read_letters:fG P w K mg base 2 "read_letters" ["text"] eR)(hx_Reader_word:b6 P w K mg base 1 "word" qC ["self"] bg):cq P w K mg base 3 "letters" qC ["self"] cj :=
 Gu (k:=2) d ko λf AP A outer s H E hr=>
  (aA (aU (aB eV (hr.mono ∅) (ae (aJ (bW cf.n Jab (hr.mono ∅) (ag 0))) am))))
theorem qp (z:Zs mg)(d:fw K qC "number" "Reader.number" gu ["self"])(cg:bV P w K mg base 2 "read_number" ["text"] cD)(Jab:cq P w K mg base 1 "word" qC ["self"] aX)(hx_read_number:fG P w K mg base 2 "read_number" ["text"] cb)(hx_Reader_word:b6 P w K mg base 1 "word" qC ["self"] bg):b6 P w K mg base 3 "number" qC ["self"] aE :=
 vw (k:=2) d lh λf AP A outer s H E hr=>
  (bj (ji (jz (Dd (pJ cg (lG (dJ cf.n hx_Reader_word (hr.mono ∅) (λxe=>(ag 0))))) (gO hx_read_number (hr.mono ∅) (λxe=>(ae (aJ (bW cf.n Jab (hr.mono ∅) (ag 0))) am))))) jW))
theorem q8 (z:Zs mg)(d:fw K qC "number" "Reader.number" gu ["self"])(cg:bV P w K mg base 2 "read_number" ["text"] cD)(Jab:cq P w K mg base 1 "word" qC ["self"] aX)(hx_read_number:fG P w K mg base 2 "read_number" ["text"] cb)(hx_Reader_word:b6 P w K mg base 1 "word" qC ["self"] bg):cq P w K mg base 3 "number" qC ["self"] aq :=
 Gu (k:=2) d lh λf AP A outer s H E hr=>
  (aA (aU (aB cg (hr.mono ∅) (ae (aJ (bW cf.n Jab (hr.mono ∅) (ag 0))) am))))
theorem sF (z:Zs mg)(d:fw K qC "many" "Reader.many" iE ["self"])(cV:bV P w K mg base 3 "read_number_from" ["text","least"] cU)(Jab:cq P w K mg base 1 "word" qC ["self"] aX)(hx_read_number_from:fG P w K mg base 3 "read_number_from" ["text","least"] b8)(hx_Reader_word:b6 P w K mg base 1 "word" qC ["self"] bg):b6 P w K mg base 4 "many" qC ["self"] cC :=
 vw (k:=3) d mZ λf AP A outer s H E hr=>
  (bj (ji (jz (Dd (pJ cV (lG (dJ cf.n hx_Reader_word (hr.mono ∅) (λxe=>(ag 0))))) (gO hx_read_number_from (hr.mono ∅) (λxe=>(ae (aJ (bW cf.n Jab (hr.mono ∅) (ag 0))) (ae ap am)))))) jW))
theorem uf (z:Zs mg)(d:fw K qC "many" "Reader.many" iE ["self"])(cV:bV P w K mg base 3 "read_number_from" ["text","least"] cU)(Jab:cq P w K mg base 1 "word" qC ["self"] aX)(hx_read_number_from:fG P w K mg base 3 "read_number_from" ["text","least"] b8)(hx_Reader_word:b6 P w K mg base 1 "word" qC ["self"] bg):cq P w K mg base 4 "many" qC ["self"] bp :=
 Gu (k:=3) d mZ λf AP A outer s H E hr=>
  (aA (aU (aB cV (hr.mono ∅) (ae (aJ (bW cf.n Jab (hr.mono ∅) (ag 0))) (ae ap am)))))
theorem pO (z:Zs mg)(d:fw K qC "numbers" "Reader.numbers" cK ["self"])(Jaa:cq P w K mg base 3 "number" qC ["self"] aq)(Jac:cq P w K mg base 4 "many" qC ["self"] bp)(hx_Reader_number:b6 P w K mg base 3 "number" qC ["self"] aE)(hx_Reader_many:b6 P w K mg base 4 "many" qC ["self"] cC):b6 P w K mg base 5 "numbers" qC ["self"] cR :=
 vw (k:=4) d kj λf AP A outer s H E hr=>
  (bj (xH (p5 rfl (z 2 _ rfl) gp (HD (wj ["place"] ["self"] (show aV (aj cK) _ ["place"] ["self"] by ac_rfl) (ut rfl (z 1 _ rfl) qT (lG (dJ cf.n hx_Reader_many (hr.mono ∅) (λxe=>(ag 0)))))) (mB [0] ["place"] ["self"] rfl rfl rfl (show aV (aj cK) _ ["place"] ["self"] by ac_rfl) (λxe=>(Ju rfl (z 1 _ rfl) (bW cf.n Jac (hr.mono ∅) (ag 0)))) (λcl C s₂ H₂ fp=>{(j1 0 (show(["place","self"]:To).Nodup by decide)),mq,(bW cf.n Jaa (hr.mono ∅) (ag 1)),(dJ cf.n hx_Reader_number (hr.mono ∅) (λxe=>(ag 1)))})))) DD))
theorem qu (z:Zs mg)(d:fw K qC "numbers" "Reader.numbers" cK ["self"])(Jaa:cq P w K mg base 3 "number" qC ["self"] aq)(Jac:cq P w K mg base 4 "many" qC ["self"] bp)(hx_Reader_number:b6 P w K mg base 3 "number" qC ["self"] aE)(hx_Reader_many:b6 P w K mg base 4 "many" qC ["self"] cC):cq P w K mg base 5 "numbers" qC ["self"] bX :=
 Gu (k:=4) d kj λf AP A outer s H E hr=>
  (aA (aU (ja rfl (z 2 _ rfl) (ae (jt [0] ["place"] ["self"] rfl (show aV (aj cK) _ ["place"] ["self"] by ac_rfl) (uh rfl (z 1 _ rfl) (bW cf.n Jac (hr.mono ∅) (ag 0))) (λcl C s₂ H₂ fp=>{(j1 0 (show(["place","self"]:To).Nodup by decide)),mq,(bW cf.n Jaa (hr.mono ∅) (ag 1))})) am))))
theorem qq (z:Zs mg)(d:fw K qC "finish" "Reader.finish" gv ["self"])  : b6 P w K mg base 1 "finish" qC ["self"] cE :=
 vw (k:=0) d li λf AP A outer s H E hr=>
  (bj (jV (tK hr.units (oG cf.n cf.a_place (ag 0)) (f8 rfl (z 0 _ rfl) (ae (oG cf.n cf.a_words (ag 0)) am))) (bj (nS xf.e_NoText.mg xf.e_NoText.at_ xf.e_NoText.own (λI hm hE=>jy I hm hE))) eM))
theorem q9 (z:Zs mg)(d:fw K qC "finish" "Reader.finish" gv ["self"])  : cq P w K mg base 1 "finish" qC ["self"] dh :=
 Gu (k:=0) d li λf AP A outer s H E hr=>
  (aA (cm (tK hr.units (oG cf.n cf.a_place (ag 0)) (f8 rfl (z 0 _ rfl) (ae (oG cf.n cf.a_words (ag 0)) am)))
  (aA fR)
  bx))
theorem JBs (z:Zs mg)(d:b7 K mg "form_of" o0 ["word"])(Jbf:AB K w mg "FORMS" nH):bV P w K mg base 1 "form_of" ["word"] hG :=
 okP (k:=0) d yc λf AP A outer s H E hr=>
  (aA (aU (KZ Jbf (ag 0))))
theorem tW (z:Zs mg)(d:b7 K mg "check_text" i9 ["thing"])  : fG P w K mg base 1 "check_text" ["thing"] cW:=by
 let⟨f,fd,F,B,M⟩:=d.ex;exact Jl (k:=0) F B M oE λAP A outer s H E hr=>
  (bj (jV (k9 (g8 (mi jJ rfl (z 3 _ rfl) rfl (z 4 _ rfl) jK (ag 0)))) (bj (nS xf.e_NoText.mg xf.e_NoText.at_ xf.e_NoText.own (λI hm hE=>jy I hm hE))) eM))
theorem vJ (z:Zs mg)(d:b7 K mg "check_text" i9 ["thing"])  : bV P w K mg base 1 "check_text" ["thing"] cL :=
 okP (k:=0) d oE λf AP A outer s H E hr=>
  (aA (cm (k9 (g8 (mi jJ rfl (z 3 _ rfl) rfl (z 4 _ rfl) jK (ag 0))))
  (aA fR)
  bx))
theorem vI (z:Zs mg)(d:b7 K mg "is_made_of" i8 ["text","signs","most"])  : bV P w K mg base 1 "is_made_of" ["text","signs","most"] b3 :=
 okP (k:=0) d tO λf AP A outer s H E hr=>
  (aA (aU (wI (RE ap (qf rfl (z 0 _ rfl) (ae (ag 0) am)) (ag 2)) (zH (OI rfl rfl (z 5 _ rfl) (ae (jt [1] ["sign"] ["signs"] rfl (show aV (aj i8) _ ["sign"] ["signs"] by ac_rfl) (Ea (ag 0)) (λcl C s₂ H₂ fp=>{(j1 0 (show(["sign","signs"]:To).Nodup by decide)),mq,(OD (ag 0) (ag 1))})) am))))))
theorem sC (z:Zs mg)(d:b7 K mg "read_number" iw ["text"])(cN:bV P w K mg base 1 "check_text" ["thing"] cL)(cn:bV P w K mg base 1 "is_made_of" ["text","signs","most"] b3)(hx_check_text:fG P w K mg base 1 "check_text" ["thing"] cW)(Jam:fP K mg "FIGURES" (.str "0123456789"))(Jag:fP K mg "MOST_FIGURES" (.int (60))):fG P w K mg base 2 "read_number" ["text"] cb:=by
 let⟨f,fd,F,B,M⟩:=d.ex;exact Jl (k:=1) F B M iG λAP A outer s H E hr=>
  (kr (bj (ji (nk (gO hx_check_text (hr.mono ∅) (λxe=>(ae (aJ (ag 0)) am)))) jW))
  (eL (iU (aB cN (hr.mono ∅) (ae (aJ (ag 0)) am)))
  (eL (bq 1 iG.nd (AV (g8 (Ox (ag 0) av)) (zG (ag 0) (nj ap) qe) (ag 0)))
  (kr (bj (jV (k9 (g8 (aB cn (hr.mono ∅) (ae (aJ (ag 1)) (ae (aJ (fj Jam)) (ae (aJ (fj Jag)) am)))))) (bj (nT (i:=0) xf.e_NoText.mg xf.e_NoText.at_ xf.e_NoText.own (λI hm hE=>jy I hm hE) (AU 0))) eM))
  (eL (cm (k9 (g8 (aB cn (hr.mono ∅) (ae (aJ (ag 1)) (ae (aJ (fj Jam)) (ae (aJ (fj Jag)) am))))))
  (aA fR)
  bx)
  (bj (jV (xD (ul (fO hr.units (zI (ag 1) ap) av) (rJ (tK hr.units (ag 0) av)))) (bj (nT (i:=0) xf.e_NoText.mg xf.e_NoText.at_ xf.e_NoText.own (λI hm hE=>jy I hm hE) (AU 0))) eM)))))))
theorem tY (z:Zs mg)(d:b7 K mg "read_number" iw ["text"])(cN:bV P w K mg base 1 "check_text" ["thing"] cL)(cn:bV P w K mg base 1 "is_made_of" ["text","signs","most"] b3)(hx_check_text:fG P w K mg base 1 "check_text" ["thing"] cW)(Jam:fP K mg "FIGURES" (.str "0123456789"))(Jag:fP K mg "MOST_FIGURES" (.int (60))):bV P w K mg base 2 "read_number" ["text"] cD :=
 okP (k:=1) d iG λf AP A outer s H E hr=>
  (ar (iU (aB cN (hr.mono ∅) (ae (aJ (ag 0)) am)))
  (ar (bq 1 iG.nd (AV (g8 (Ox (ag 0) av)) (zG (ag 0) (nj ap) qe) (ag 0)))
  (ar (cm (k9 (g8 (aB cn (hr.mono ∅) (ae (aJ (ag 1)) (ae (aJ (fj Jam)) (ae (aJ (fj Jag)) am))))))
  (aA fR)
  bx)
  (ar (cm (xD (ul (fO hr.units (zI (ag 1) ap) av) (rJ (tK hr.units (ag 0) av))))
  (aA fR)
  bx)
  (aA (aU (Df rfl (z 6 _ rfl) (ae (ag 0) am))))))))
theorem oj (z:Zs mg)(d:b7 K mg "read_number_from" eJ ["text","least"])(cg:bV P w K mg base 2 "read_number" ["text"] cD)(hx_read_number:fG P w K mg base 2 "read_number" ["text"] cb):fG P w K mg base 3 "read_number_from" ["text","least"] b8:=by
 let⟨f,fd,F,B,M⟩:=d.ex;exact Jl (k:=2) F B M eK λAP A outer s H E hr=>
  (kr (bj (ji (lH (gO hx_read_number (hr.mono ∅) (λxe=>(ae (aJ (ag 0)) am)))) jW))
  (eL (bq 2 eK.nd (aB cg (hr.mono ∅) (ae (aJ (ag 0)) am)))
  (bj (jV (wy (ag 2) (ag 1)) (bj (JAc xf.e_NoText.mg xf.e_NoText.at_ xf.e_NoText.own (λI hm hE=>jy I hm hE) (vK (Js (AU 2)) (vK Jr (vK (Js (AU 1)) (vK Jr Pd)))))) eM))))
theorem o9 (z:Zs mg)(d:b7 K mg "read_number_from" eJ ["text","least"])(cg:bV P w K mg base 2 "read_number" ["text"] cD)(hx_read_number:fG P w K mg base 2 "read_number" ["text"] cb):bV P w K mg base 3 "read_number_from" ["text","least"] cU :=
 okP (k:=2) d eK λf AP A outer s H E hr=>
  (ar (bq 2 eK.nd (aB cg (hr.mono ∅) (ae (aJ (ag 0)) am)))
  (ar (cm (wy (ag 2) (ag 1))
  (aA fR)
  bx)
  (aA (aU (ag 2)))))
theorem qZ (z:Zs mg)(d:b7 K mg "read_letters" gW ["text"])(cn:bV P w K mg base 1 "is_made_of" ["text","signs","most"] b3)(Jah:fP K mg "SMALL_LETTERS" (.str "abcdefghijklmnopqrstuvwxyz"))(Jaj:fP K mg "MOST_LETTERS" (.int (8))):fG P w K mg base 2 "read_letters" ["text"] eR:=by
 let⟨f,fd,F,B,M⟩:=d.ex;exact Jl (k:=1) F B M me λAP A outer s H E hr=>
  (bj (jV (k9 (g8 (aB cn (hr.mono ∅) (ae (aJ (ag 0)) (ae (aJ (fj Jah)) (ae (aJ (fj Jaj)) am)))))) (bj (nT (i:=0) xf.e_NoText.mg xf.e_NoText.at_ xf.e_NoText.own (λI hm hE=>jy I hm hE) (AU 0))) eM))
theorem sI (z:Zs mg)(d:b7 K mg "read_letters" gW ["text"])(cn:bV P w K mg base 1 "is_made_of" ["text","signs","most"] b3)(Jah:fP K mg "SMALL_LETTERS" (.str "abcdefghijklmnopqrstuvwxyz"))(Jaj:fP K mg "MOST_LETTERS" (.int (8))):bV P w K mg base 2 "read_letters" ["text"] dN :=
 okP (k:=1) d me λf AP A outer s H E hr=>
  (ar (cm (k9 (g8 (aB cn (hr.mono ∅) (ae (aJ (ag 0)) (ae (aJ (fj Jah)) (ae (aJ (fj Jaj)) am))))))
  (aA fR)
  bx)
  (aA (aU (ag 0))))
theorem w6 (z:Zs mg)(d:b7 K mg "words_of" j9 ["text"])(cN:bV P w K mg base 1 "check_text" ["thing"] cL)(hx_check_text:fG P w K mg base 1 "check_text" ["thing"] cW):fG P w K mg base 2 "words_of" ["text"] iQ:=by
 let⟨f,fd,F,B,M⟩:=d.ex;exact Jl (k:=1) F B M qI λAP A outer s H E hr=>
  (bj (ji (nk (gO hx_check_text (hr.mono ∅) (λxe=>(ae (aJ (ag 0)) am)))) jW))
theorem yD (z:Zs mg)(d:b7 K mg "words_of" j9 ["text"])(cN:bV P w K mg base 1 "check_text" ["thing"] cL)(hx_check_text:fG P w K mg base 1 "check_text" ["thing"] cW):nL P w K mg base 2 "words_of" ["text"] gc :=
 okN (k:=1) d qI λf AP A outer s H E hr=>
  (ar (iU (aB cN (hr.mono ∅) (ae (aJ (ag 0)) am)))
  (aA (aU (ve (ag 0) av))))
theorem tV {F:MW}{XF:og}{L:Nat}(hL:6<=L)(z:Zs mg)(d:b7 K mg "read_thing" cG ["reader","kind","deep"])(Jae:cq P w K mg base 3 "letters" qC ["self"] cj)(Jaa:cq P w K mg base 3 "number" qC ["self"] aq)(Jad:cq P w K mg base 5 "numbers" qC ["self"] bX)(Jac:cq P w K mg base 4 "many" qC ["self"] bp)(hx_Reader_letters:b6 P w K mg base 3 "letters" qC ["self"] cT)(hx_Reader_number:b6 P w K mg base 3 "number" qC ["self"] aE)(hx_Reader_numbers:b6 P w K mg base 5 "numbers" qC ["self"] cR)(hx_Reader_many:b6 P w K mg base 4 "many" qC ["self"] cC)(ca:oQ P w K mg base L "read_part" ["reader","deep"] F)(hx_read_part:l9 P w K mg base L "read_part" ["reader","deep"] XF):l9 P w K mg base (L+1) "read_thing" ["reader","kind","deep"] (b0 F XF) :=
 okXW (k:=L) d oA λf AP A outer s H E hr=>
  (kr (bj (jV (fO hr.units (ag 1) av) (bj (ji (jz (nh hx_read_part (hr.mono ∅) (λxe=>(ae (ag 0) (ae (aL (ag 2) ap) am))))) jW)) eM))
  (eL (cm (fO hr.units (ag 1) av)
  (aA (aU (kq ca (hr.mono ∅) (ae (ag 0) (ae (aL (ag 2) ap) am)))))
  bx)
  (kr (bj (jV (xD (pC (fO hr.units (ag 1) av) (mF (fO hr.units (ag 1) av)))) (bj (ji (jz (dJ cf.n hx_Reader_number (hr.mono ∅) (λxe=>(ag 0)))) jW)) eM))
  (eL (cm (xD (pC (fO hr.units (ag 1) av) (mF (fO hr.units (ag 1) av))))
  (aA (aU (bW cf.n Jaa (hr.mono ∅) (ag 0))))
  bx)
  (kr (bj (jV (fO hr.units (ag 1) av) (bj (ji (jz (dJ cf.n hx_Reader_numbers (hr.mono ∅) (λxe=>(ag 0)))) jW)) eM))
  (eL (cm (fO hr.units (ag 1) av)
  (aA (aU (bW cf.n Jad (hr.mono ∅) (ag 0))))
  bx)
  (kr (bj (jV (fO hr.units (ag 1) av) (bj (xH (p5 rfl (z 2 _ rfl) gp (HD (wj ["place"] ["reader"] (show aV (aj cG) _ ["place"] ["reader"] by ac_rfl) (ut rfl (z 1 _ rfl) qT (lG (dJ cf.n hx_Reader_many (hr.mono ∅) (λxe=>(ag 0)))))) (mB [0] ["place"] ["reader"] rfl rfl rfl (show aV (aj cG) _ ["place"] ["reader"] by ac_rfl) (λxe=>(Ju rfl (z 1 _ rfl) (bW cf.n Jac (hr.mono ∅) (ag 0)))) (λcl C s₂ H₂ fp=>{(j1 0 (show(["place","reader"]:To).Nodup by decide)),mq,(dP (ae (bW cf.n Jaa (hr.mono ∅) (ag 1)) (ae (bW cf.n Jaa (hr.mono ∅) (ag 1)) am))),(KS (Nc (lG (dJ cf.n hx_Reader_number (hr.mono ∅) (λxe=>(ag 1)))) (JEf (λxe=>(bW cf.n Jaa (hr.mono ∅) (ag 1))) (lG (dJ cf.n hx_Reader_number (hr.mono ∅) (λxe=>(ag 1)))))))})))) DD)) eM))
  (eL (cm (fO hr.units (ag 1) av)
  (aA (aU (ja rfl (z 2 _ rfl) (ae (jt [0] ["place"] ["reader"] rfl (show aV (aj cG) _ ["place"] ["reader"] by ac_rfl) (uh rfl (z 1 _ rfl) (bW cf.n Jac (hr.mono ∅) (ag 0))) (λcl C s₂ H₂ fp=>{(j1 0 (show(["place","reader"]:To).Nodup by decide)),mq,(dP (ae (bW cf.n Jaa (hr.mono ∅) (ag 1)) (ae (bW cf.n Jaa (hr.mono ∅) (ag 1)) am)))})) am))))
  bx)
  (bj (ji (jz (dJ cf.n hx_Reader_letters (hr.mono ∅) (λxe=>(ag 0)))) jW))))))))))
theorem pR {F:MW}{L:Nat}(hL:6<=L)(z:Zs mg)(d:b7 K mg "read_thing" cG ["reader","kind","deep"])(Jae:cq P w K mg base 3 "letters" qC ["self"] cj)(Jaa:cq P w K mg base 3 "number" qC ["self"] aq)(Jad:cq P w K mg base 5 "numbers" qC ["self"] bX)(Jac:cq P w K mg base 4 "many" qC ["self"] bp)(ca:oQ P w K mg base L "read_part" ["reader","deep"] F):oQ P w K mg base (L+1) "read_thing" ["reader","kind","deep"] (bS F) :=
 okW (k:=L) d oA λf AP A outer s H E hr=>
  (ar (cm (fO hr.units (ag 1) av)
  (aA (aU (kq ca (hr.mono ∅) (ae (ag 0) (ae (aL (ag 2) ap) am)))))
  bx)
  (ar (cm (xD (pC (fO hr.units (ag 1) av) (mF (fO hr.units (ag 1) av))))
  (aA (aU (bW cf.n Jaa (hr.mono ∅) (ag 0))))
  bx)
  (ar (cm (fO hr.units (ag 1) av)
  (aA (aU (bW cf.n Jad (hr.mono ∅) (ag 0))))
  bx)
  (ar (cm (fO hr.units (ag 1) av)
  (aA (aU (ja rfl (z 2 _ rfl) (ae (jt [0] ["place"] ["reader"] rfl (show aV (aj cG) _ ["place"] ["reader"] by ac_rfl) (uh rfl (z 1 _ rfl) (bW cf.n Jac (hr.mono ∅) (ag 0))) (λcl C s₂ H₂ fp=>{(j1 0 (show(["place","reader"]:To).Nodup by decide)),mq,(dP (ae (bW cf.n Jaa (hr.mono ∅) (ag 1)) (ae (bW cf.n Jaa (hr.mono ∅) (ag 1)) am)))})) am))))
  bx)
  (aA (aU (bW cf.n Jae (hr.mono ∅) (ag 0))))))))
theorem nA (z:Zs mg)(d:b7 K mg "read_part" gr ["reader","deep"])(Jaf:b7 K mg "read_thing" cG ["reader","kind","deep"])(Jab:cq P w K mg base 1 "word" qC ["self"] aX)(gz:bV P w K mg base 1 "form_of" ["word"] hG)(Jai:fP K mg "DEEPEST" (.int (20)))(Jae:cq P w K mg base 3 "letters" qC ["self"] cj)(Jaa:cq P w K mg base 3 "number" qC ["self"] aq)(Jad:cq P w K mg base 5 "numbers" qC ["self"] bX)(Jac:cq P w K mg base 4 "many" qC ["self"] bp):∀n,oQ P w K mg base (7+2*n) "read_part" ["reader","deep"] (bh n)
 |0=>okW (k:=6) d eh λf AP A outer s H E hr=>lc
 |n+1=>by
  have ca:=nA z d Jaf Jab gz Jai Jae Jaa Jad Jac n;have lQ:=pR cf xf (L:=7+2*n) ∅ z Jaf Jae Jaa Jad Jac ca;exact okW (k:=7+2*n+1) d eh λf AP A outer s H E hr=>
  (ar (cm (tL (ag 1) (fj Jai))
  (aA fR)
  bx)
  (ar (bq 2 eh.nd (bW cf.n Jab (hr.mono ∅) (ag 0)))
  (ar (bq 3 eh.nd (aB gz (hr.mono ∅) (ae (aJ (ag 2)) am)))
  (ar (cm (lb (ag 3))
  (aA fR)
  bx)
  (aA (aU (ja rfl (z 2 _ rfl) (ae (yh (ej (ae (ag 2) am)) (jt [0,1] ["kind"] ["reader","deep"] rfl (show aV (aj gr) _ ["kind"] ["reader","deep"] by ac_rfl) (qQ (ag 3)) (λcl C s₂ H₂ fp=>{(j1 0 (show(["kind","reader","deep"]:To).Nodup by decide)),mq,(kq lQ (hr.mono ∅) (ae (ag 1) (ae (ag 0) (ae (ag 2) am))))}))) am))))))))
theorem pN (z:Zs mg)(d:b7 K mg "read_part" gr ["reader","deep"])(Jaf:b7 K mg "read_thing" cG ["reader","kind","deep"])(Jab:cq P w K mg base 1 "word" qC ["self"] aX)(gz:bV P w K mg base 1 "form_of" ["word"] hG)(Jai:fP K mg "DEEPEST" (.int (20)))(Jae:cq P w K mg base 3 "letters" qC ["self"] cj)(Jaa:cq P w K mg base 3 "number" qC ["self"] aq)(Jad:cq P w K mg base 5 "numbers" qC ["self"] bX)(Jac:cq P w K mg base 4 "many" qC ["self"] bp)(hx_Reader_word:b6 P w K mg base 1 "word" qC ["self"] bg)(hx_Reader_letters:b6 P w K mg base 3 "letters" qC ["self"] cT)(hx_Reader_number:b6 P w K mg base 3 "number" qC ["self"] aE)(hx_Reader_numbers:b6 P w K mg base 5 "numbers" qC ["self"] cR)(hx_Reader_many:b6 P w K mg base 4 "many" qC ["self"] cC):∀n,l9 P w K mg base (7+2*n) "read_part" ["reader","deep"] (bZ n)
 |0=>okXW (k:=6) d eh λf AP A outer s H E hr=>eM
 |n+1=>by
  have ca:=nA cf xf z d Jaf Jab gz Jai Jae Jaa Jad Jac n;have hx_read_part:=pN z d Jaf Jab gz Jai Jae Jaa Jad Jac hx_Reader_word hx_Reader_letters hx_Reader_number hx_Reader_numbers hx_Reader_many n;have lQ:=pR cf xf (L:=7+2*n) ∅ z Jaf Jae Jaa Jad Jac ca;have hx_read_thing:=tV cf xf (L:=7+2*n) ∅ z Jaf Jae Jaa Jad Jac hx_Reader_letters hx_Reader_number hx_Reader_numbers hx_Reader_many ca hx_read_part;exact okXW (k:=7+2*n+1) d eh λf AP A outer s H E hr=>
  (kr (bj (jV (tL (ag 1) (fj Jai)) (bj (nS xf.e_NoText.mg xf.e_NoText.at_ xf.e_NoText.own (λI hm hE=>jy I hm hE))) eM))
  (eL (cm (tL (ag 1) (fj Jai))
  (aA fR)
  bx)
  (kr (bj (ji (lH (dJ cf.n hx_Reader_word (hr.mono ∅) (λxe=>(ag 0)))) jW))
  (eL (bq 2 eh.nd (bW cf.n Jab (hr.mono ∅) (ag 0)))
  (eL (bq 3 eh.nd (aB gz (hr.mono ∅) (ae (aJ (ag 2)) am)))
  (kr (bj (jV (lb (ag 3)) (bj (nT (i:=2) xf.e_NoText.mg xf.e_NoText.at_ xf.e_NoText.own (λI hm hE=>jy I hm hE) (AU 2))) eM))
  (eL (cm (lb (ag 3))
  (aA fR)
  bx)
  (bj (xH (p5 rfl (z 2 _ rfl) gp (JDd (λxe=>(ej (ae (ag 2) am))) (mB [0,1] ["kind"] ["reader","deep"] rfl rfl rfl (show aV (aj gr) _ ["kind"] ["reader","deep"] by ac_rfl) (λxe=>(qQ (ag 3))) (λcl C s₂ H₂ fp=>{(j1 0 (show(["kind","reader","deep"]:To).Nodup by decide)),mq,(kq lQ (hr.mono ∅) (ae (ag 1) (ae (ag 0) (ae (ag 2) am)))),(nh hx_read_thing (hr.mono ∅) (λxe=>(ae (ag 1) (ae (ag 0) (ae (ag 2) am)))))})))) DD)))))))))
theorem w9 (z:Zs mg)(d:b7 K mg "read_ask" kf ["text"])(Jak:cq P w K mg base 3 "__init__" qC ["self","text"] cY)(ca:oQ P w K mg base 55 "read_part" ["reader","deep"] (bh 24))(Jal:cq P w K mg base 1 "finish" qC ["self"] dh)(hx_Reader_init:b6 P w K mg base 3 "__init__" qC ["self","text"] dz)(hx_read_part:l9 P w K mg base 55 "read_part" ["reader","deep"] (bZ 24))(hx_Reader_finish:b6 P w K mg base 1 "finish" qC ["self"] cE):fG P w K mg base 56 "read_ask" ["text"] b9:=by
 let⟨f,fd,F,B,M⟩:=d.ex;exact Jl (k:=55) F B M g9 λAP A outer s H E hr=>
  (kr (bj (ji (lH (sf cf.n cf.mks cf.kp hx_Reader_init (hr.mono ∅) (λxe=>(ae (ag 0) am)))) jW))
  (eL (bq 1 g9.nd (rm cf.n cf.mks cf.kp Jak (hr.mono ∅) (ae (ag 0) am)))
  (kr (bj (ji (lH (nh hx_read_part (hr.mono ∅) (λxe=>(ae (ag 1) (ae ap am))))) jW))
  (eL (bq 2 g9.nd (kq ca (hr.mono ∅) (ae (ag 1) (ae ap am))))
  (bj (ji (nk (dJ cf.n hx_Reader_finish (hr.mono ∅) (λxe=>(ag 1)))) jW))))))
theorem yE (z:Zs mg)(d:b7 K mg "read_ask" kf ["text"])(Jak:cq P w K mg base 3 "__init__" qC ["self","text"] cY)(ca:oQ P w K mg base 55 "read_part" ["reader","deep"] (bh 24))(Jal:cq P w K mg base 1 "finish" qC ["self"] dh)(hx_Reader_init:b6 P w K mg base 3 "__init__" qC ["self","text"] dz)(hx_read_part:l9 P w K mg base 55 "read_part" ["reader","deep"] (bZ 24))(hx_Reader_finish:b6 P w K mg base 1 "finish" qC ["self"] cE):bV P w K mg base 56 "read_ask" ["text"] iX :=
 okP (k:=55) d g9 λf AP A outer s H E hr=>
  (ar (bq 1 g9.nd (rm cf.n cf.mks cf.kp Jak (hr.mono ∅) (ae (ag 0) am)))
  (ar (bq 2 g9.nd (kq ca (hr.mono ∅) (ae (ag 1) (ae ap am))))
  (ar (iU (bW cf.n Jal (hr.mono ∅) (ag 1)))
  (aA (aU (ag 2))))))
theorem yI (z:Zs mg)(d:b7 K mg "_law_draw" mS ["script","k","many"])  : bV P w K mg base 1 "_law_draw" ["script","k","many"] aF :=
 okP (k:=0) d ki λf AP A outer s H E hr=>
  (ar (cm (fO hr.units (f8 rfl (z 0 _ rfl) (ae (ag 0) am)) ap)
  (aA (aU ap))
  bx)
  (ar (bq 3 ki.nd (qJ (dL (ag 0) (qJ (ag 1) (f8 rfl (z 0 _ rfl) (ae (ag 0) am)))) ap))
  (ar (bq 4 ki.nd (qJ (mh (aL (ag 3) ap) (aL ap (mh ap (ag 1)))) ap))
  (ar (bq 4 ki.nd (qJ (mh (aL (ag 4) (ag 1)) (aL (ag 4) ap)) ap))
  (aA (aU (qJ (Jf (ag 4) ap) (ag 2))))))))
theorem JBq (z:Zs mg)(d:b7 K mg "_law_far" oY ["script","k"])(aG:bV P w K mg base 1 "_law_draw" ["script","k","many"] aF):bV P w K mg base 2 "_law_far" ["script","k"] lm :=
 okP (k:=1) d rZ λf AP A outer s H E hr=>
  (ar (cm (fO hr.units (f8 rfl (z 0 _ rfl) (ae (ag 0) am)) ap)
  (aA (aU ap))
  bx)
  (ar (bq 2 rZ.nd (aL (aB aG (hr.mono ∅) (ae (aJ (ag 0)) (ae (aJ (ag 1)) (ae ap am)))) ap))
  (aA (aU (qJ (aL (mh (qJ (dL (ag 0) (qJ (ag 1) (f8 rfl (z 0 _ rfl) (ae (ag 0) am)))) (uv ap ap)) (ag 2)) (uv (ag 2) ap)) (uv ap ap))))))
theorem yG (z:Zs mg)(d:b7 K mg "_law_name" mQ ["script","k"])(aG:bV P w K mg base 1 "_law_draw" ["script","k","many"] aF):bV P w K mg base 2 "_law_name" ["script","k"] gh :=
 okP (k:=1) d kh λf AP A outer s H E hr=>
  (ar (bq 2 kh.nd av)
  (ar (pH rfl (uh rfl (z 1 _ rfl) (aL ap (aB aG (hr.mono ∅) (ae (aJ (ag 0)) (ae (aJ (ag 1)) (ae ap am)))))) (j1 3 kh.nd)
  (aA (bq 2 kh.nd (aL (ag 2) (zI av (aB aG (hr.mono ∅) (ae (aJ (ag 0)) (ae (aJ (aL (aL (ag 1) ap) (ag 3))) (ae ap am)))))))) PassesOwn.never)
  (aA (aU (ag 2)))))
theorem vH (z:Zs mg)(d:b7 K mg "_law_number" kF ["script","k"])(aG:bV P w K mg base 1 "_law_draw" ["script","k","many"] aF)(qy:bV P w K mg base 2 "_law_far" ["script","k"] lm):bV P w K mg base 3 "_law_number" ["script","k"] gx :=
 okP (k:=2) d oB λf AP A outer s H E hr=>
  (ar (bq 2 oB.nd (aB aG (hr.mono ∅) (ae (aJ (ag 0)) (ae (aJ (ag 1)) (ae ap am)))))
  (ar (cm (wy (ag 2) ap)
  (aA (aU (uu (aB aG (hr.mono ∅) (ae (aJ (ag 0)) (ae (aJ (aL (ag 1) ap)) (ae ap am)))) ap)))
  bx)
  (ar (cm (fO hr.units (ag 2) ap)
  (aA (aU (uu (uu (uv ap ap) ap) (aB aG (hr.mono ∅) (ae (aJ (ag 0)) (ae (aJ (aL (ag 1) ap)) (ae ap am)))))))
  bx)
  (ar (cm (fO hr.units (ag 2) ap)
  (aA (aU (aL (uu ap (uv ap ap)) (aB aG (hr.mono ∅) (ae (aJ (ag 0)) (ae (aJ (aL (ag 1) ap)) (ae ap am)))))))
  bx)
  (aA (aU (uu (aB qy (hr.mono ∅) (ae (aJ (ag 0)) (ae (aJ (aL (ag 1) ap)) am))) (mh ap (uv ap ap)))))))))
theorem uc (z:Zs mg)(d:b7 K mg "_law_columns" iC ["script","k"])(aG:bV P w K mg base 1 "_law_draw" ["script","k","many"] aF):bV P w K mg base 2 "_law_columns" ["script","k"] dB :=
 okP (k:=1) d mW λf AP A outer s H E hr=>
  (ar (bq 2 mW.nd (aB aG (hr.mono ∅) (ae (aJ (ag 0)) (ae (aJ (ag 1)) (ae ap am)))))
  (aA (aU (ja rfl (z 2 _ rfl) (ae (jt [0,1] ["j"] ["script","k"] rfl (show aV (aj iC) _ ["j"] ["script","k"] by ac_rfl) (uh rfl (z 1 _ rfl) (ag 2)) (λcl C s₂ H₂ fp=>{(j1 0 (show(["j","script","k"]:To).Nodup by decide)),mq,(aB aG (hr.mono ∅) (ae (aJ (ag 1)) (ae (aJ (aL (aL (ag 2) ap) (ag 0))) (ae ap am))))})) am)))))
theorem JBp (z:Zs mg)(d:b7 K mg "_law_one" oX ["script","k","kind","part"])(eE:bV P w K mg base 2 "_law_columns" ["script","k"] dB)(aG:bV P w K mg base 1 "_law_draw" ["script","k","many"] aF)(jB:bV P w K mg base 3 "_law_number" ["script","k"] gx):bV P w K mg base 4 "_law_one" ["script","k","kind","part"] jG :=
 okP (k:=3) d o3 λf AP A outer s H E hr=>
  (ar (cm (fO hr.units (ag 2) av)
  (ar (bq 4 o3.nd (dL (ej (ae av (ae av (ae av (ae av am))))) (aB aG (hr.mono ∅) (ae (aJ (ag 0)) (ae (aJ (aL (ag 1) ap)) (ae ap am))))))
  (aA (aU (dP (ae (ag 2) (ae (ag 3) (ae (aB aG (hr.mono ∅) (ae (aJ (ag 0)) (ae (aJ (aL (ag 1) ap)) (ae ap am)))) (ae (ag 4) (ae (aB jB (hr.mono ∅) (ae (aJ (ag 0)) (ae (aJ (aL (ag 1) ap)) am))) am)))))))))
  bx)
  (ar (cm (fO hr.units (ag 2) av)
  (aA (aU (dP (ae (ag 2) (ae (ag 3) (ae (aB aG (hr.mono ∅) (ae (aJ (ag 0)) (ae (aJ (aL (ag 1) ap)) (ae ap am)))) (ae (aB aG (hr.mono ∅) (ae (aJ (ag 0)) (ae (aJ (aL (ag 1) ap)) (ae ap am)))) am)))))))
  bx)
  (ar (cm (fO hr.units (ag 2) av)
  (ar (bq 4 o3.nd (dL (ej (ae av (ae av (ae av (ae av (ae av (ae av (ae av am)))))))) (aB aG (hr.mono ∅) (ae (aJ (ag 0)) (ae (aJ (aL (ag 1) ap)) (ae ap am))))))
  (aA (aU (dP (ae (ag 2) (ae (ag 3) (ae (ag 4) (ae (aB jB (hr.mono ∅) (ae (aJ (ag 0)) (ae (aJ (aL (ag 1) ap)) am))) am))))))))
  bx)
  (ar (cm (fO hr.units (ag 2) av)
  (aA (aU (dP (ae (ag 2) (ae (ag 3) (ae (aB eE (hr.mono ∅) (ae (aJ (ag 0)) (ae (aJ (aL (ag 1) ap)) am))) (ae (aB aG (hr.mono ∅) (ae (aJ (ag 0)) (ae (aJ (aL (ag 1) ap)) (ae ap am)))) am)))))))
  bx)
  (aA (aU (dP (ae (ag 2) (ae (ag 3) (ae (aB eE (hr.mono ∅) (ae (aJ (ag 0)) (ae (aJ (aL (ag 1) ap)) am))) am))))))))))
theorem JBo (z:Zs mg)(d:b7 K mg "_law_two" lE ["script","k","kind","part","other"])(eE:bV P w K mg base 2 "_law_columns" ["script","k"] dB)(aG:bV P w K mg base 1 "_law_draw" ["script","k","many"] aF):bV P w K mg base 3 "_law_two" ["script","k","kind","part","other"] jF :=
 okP (k:=2) d rX λf AP A outer s H E hr=>
  (ar (cm (fO hr.units (ag 2) av)
  (aA (aU (dP (ae (ag 2) (ae (ag 3) (ae (ag 4) (ae (dL (ej (ae av (ae av (ae av (ae av (ae av am)))))) (aB aG (hr.mono ∅) (ae (aJ (ag 0)) (ae (aJ (aL (ag 1) ap)) (ae ap am))))) am)))))))
  bx)
  (ar (bq 5 rX.nd (aB eE (hr.mono ∅) (ae (aJ (ag 0)) (ae (aJ (aL (ag 1) ap)) am))))
  (aA (aU (dP (ae (ag 2) (ae (ag 3) (ae (ag 4) (ae (ja rfl (z 2 _ rfl) (ae (jt [0,1] ["column"] ["script","k"] rfl (show aV (aj lE) _ ["column"] ["script","k"] by ac_rfl) (qQ (ag 5)) (λcl C s₂ H₂ fp=>{(j1 0 (show(["column","script","k"]:To).Nodup by decide)),mq,(dP (ae (ag 0) (ae (aB aG (hr.mono ∅) (ae (aJ (ag 1)) (ae (aJ (aL (ag 2) ap)) (ae ap am)))) am)))})) am)) am)))))))))
theorem yJ (z:Zs mg)(d:b7 K mg "_law_asks" mT ["script","many","base"])(lR:bV P w K mg base 2 "_law_name" ["script","k"] gh)(aG:bV P w K mg base 1 "_law_draw" ["script","k","many"] aF)(qw:bV P w K mg base 3 "_law_two" ["script","k","kind","part","other"] jF)(qx:bV P w K mg base 4 "_law_one" ["script","k","kind","part"] jG):nL P w K mg base 5 "_law_asks" ["script","many","base"] iW :=
 okN (k:=4) d ei λf AP A outer s H E hr=>
  (ar (bq 3 ei.nd (ej (ae (dP (ae av (ae (aB lR (hr.mono ∅) (ae (aJ (ag 0)) (ae (aJ (ag 2)) am))) am))) am)))
  (ar (bq 4 ei.nd (ej (ae ap am)))
  (ar (pH rfl (uh rfl (z 1 _ rfl) (ag 1)) (j1 5 ei.nd)
  (ar (bq 6 ei.nd (ej (ae av (ae av (ae av (ae av (ae av (ae av (ae av (ae av (ae av (ae av am))))))))))))
  (ar (bq 7 ei.nd (dL (ag 6) (aB aG (hr.mono ∅) (ae (aJ (ag 0)) (ae (aJ (ag 5)) (ae ap am))))))
  (ar (bq 8 ei.nd (aL (aL (ag 2) ap) (mh ap (ag 5))))
  (aA (cm (xD (ul (Iv (ag 7) (dP (ae av (ae av am)))) (ul (tL (f8 rfl (z 0 _ rfl) (ae (ag 3) am)) ap) (rJ (wy (Jd rfl rfl (z 7 _ rfl) (ae (dL (ag 4) (lj ap)) (ae (dL (ag 4) (lj ap)) am))) ap)))))
  (ar (bq 9 ei.nd (De (ag 3)))
  (ar (bq 10 ei.nd (De (ag 4)))
  (ar (wB (aJ (aB qw (hr.mono ∅) (ae (aJ (ag 0)) (ae (aJ (ag 8)) (ae (aJ (ag 7)) (ae (aJ (dL (ag 3) (lj ap))) (ae (aJ (ag 9)) am))))))) (Ed hr.units (ag 3) (lj ap)))
  (aA (wB (aJ (aL ap (Jd rfl rfl (z 7 _ rfl) (ae (dL (ag 4) (lj ap)) (ae (ag 10) am))))) (Ed hr.units (ag 4) (lj ap)))))))
  (aA (cm (xD (pC (Iv (ag 7) (dP (ae av (ae av (ae av am))))) (mF (tL (dL (ag 4) (lj ap)) ap))))
  (ar (iU (pK (ag 3) (ae (dP (ae av (ae (aB lR (hr.mono ∅) (ae (aJ (ag 0)) (ae (aJ (ag 8)) am))) am))) am)))
  (aA (iU (pK (ag 4) (ae ap am)))))
  (ar (wB (aJ (aB qx (hr.mono ∅) (ae (aJ (ag 0)) (ae (aJ (ag 8)) (ae (aJ (ag 7)) (ae (aJ (dL (ag 3) (lj ap))) am)))))) (Ed hr.units (ag 3) (lj ap)))
  (aA (wB (aJ (aL (dL (ag 4) (lj ap)) ap)) (Ed hr.units (ag 4) (lj ap)))))))))))) PassesOwn.never)
  (aA (aU (ag 3))))))
theorem qO (z:Zs mg)(d:b7 K mg "_law_words" lD ["ask"])   : ∀n,nL P w K mg base (2+1*n) "_law_words" ["ask"] (dA n)
 |0=>okN (k:=1) d eZ λf AP A outer s H E hr=>lc
 |n+1=>by
  have jl:=qO z d   n;exact okN (k:=2+1*n) d eZ λf AP A outer s H E hr=>
  (ar (bq 1 eZ.nd (ej (ae (dL (ag 0) ap) am)))
  (ar (pH rfl (qQ (tR (ag 0) (nj ap) qe)) (j1 2 eZ.nd)
  (aA (cm (g8 (mi jJ rfl (z 3 _ rfl) rfl (z 4 _ rfl) jK (ag 2)))
  (aA (iU (pK (ag 1) (ae (ag 2) am))))
  (aA (cm (k9 (g8 (mi ku rfl (z 3 _ rfl) rfl (z 2 _ rfl) gp (ag 2))))
  (aA (iU (pK (ag 1) (ae (sg rfl (z 4 _ rfl) (ae (ag 2) am)) am))))
  (aA (cm (xD (ul (tL (f8 rfl (z 0 _ rfl) (ae (ag 2) am)) ap) (rJ (g8 (mi jJ rfl (z 3 _ rfl) rfl (z 4 _ rfl) jK (dL (ag 2) ap))))))
  (aA (bq 1 eZ.nd (yh (ag 1) (nR jl (hr.mono ∅) (ae (ag 2) am)))))
  (ar (iU (pK (ag 1) (ae (sg rfl (z 4 _ rfl) (ae (f8 rfl (z 0 _ rfl) (ae (ag 2) am)) am)) am)))
  (aA (pH rfl (qQ (ag 2)) (j1 3 eZ.nd)
  (aA (cm (g8 (mi ku rfl (z 3 _ rfl) rfl (z 2 _ rfl) gp (ag 3)))
  (aA (bq 1 eZ.nd (yh (ag 1) (ej (ae (sg rfl (z 4 _ rfl) (ae (dL (ag 3) ap) am)) (ae (sg rfl (z 4 _ rfl) (ae (dL (ag 3) ap) am)) am))))))
  (aA (iU (pK (ag 1) (ae (sg rfl (z 4 _ rfl) (ae (ag 3) am)) am)))))) PassesOwn.never))))))))) PassesOwn.never)
  (aA (aU (ag 1)))))
theorem sJ (z:Zs mg)(d:b7 K mg "_law_same" mP ["told","due"])   : ∀n,bV P w K mg base (2+1*n) "_law_same" ["told","due"] (gg n)
 |0=>okP (k:=1) d mU λf AP A outer s H E hr=>lc
 |n+1=>by
  have jZ:=sJ z d   n;exact okP (k:=2+1*n) d mU λf AP A outer s H E hr=>
  (ar (cm (g8 (mi ku rfl (z 3 _ rfl) rfl (z 2 _ rfl) gp (ag 1)))
  (ar (cm (xD (pC (k9 (g8 (mi ku rfl (z 3 _ rfl) rfl (z 2 _ rfl) gp (ag 0)))) (mF (tK hr.units (f8 rfl (z 0 _ rfl) (ae (ag 0) am)) (f8 rfl (z 0 _ rfl) (ae (ag 1) am))))))
  (aA (aU sj))
  bx)
  (ar (pH rfl (uh rfl (z 1 _ rfl) (f8 rfl (z 0 _ rfl) (ae (ag 1) am))) (j1 2 mU.nd)
  (aA (cm (k9 (g8 (aB jZ (hr.mono ∅) (ae (aJ (dL (ag 0) (ag 2))) (ae (aJ (dL (ag 1) (ag 2))) am)))))
  (aA (aU sj))
  bx)) PassesOwn.never)
  (aA (aU sj))))
  bx)
  (ar (cm (g8 (mi jJ rfl (z 3 _ rfl) rfl (z 4 _ rfl) jK (ag 1)))
  (aA (aU (wI (mi jJ rfl (z 3 _ rfl) rfl (z 4 _ rfl) jK (ag 0)) (zH (FW hr.units (ag 0) (ag 1))))))
  bx)
  (aA (aU (wI (mi JBk rfl (z 3 _ rfl) rfl (z 6 _ rfl) JBc (ag 0)) (wI (Oy (mi yC rfl (z 3 _ rfl) rfl (z 8 _ rfl) y0 (ag 0))) (zH (FW hr.units (ag 0) (ag 1)))))))))
theorem yF (z:Zs mg)(d:b7 K mg "_law_read" kg ["word"])  : bV P w K mg base 1 "_law_read" ["word"] dj :=
 okP (k:=0) d mV λf AP A outer s H E hr=>
  (ar (bq 1 mV.nd (ag 0))
  (ar (cm (fO hr.units (zG (ag 0) qe (nj ap)) av)
  (aA (bq 1 mV.nd (zG (ag 0) (nj ap) qe)))
  bx)
  (ar (cm (xD (pC (wy (qf rfl (z 0 _ rfl) (ae (ag 1) am)) ap) (pC (tL (qf rfl (z 0 _ rfl) (ae (ag 1) am)) ap) (mF (tK hr.units (jt [] ["sign"] [] rfl (show aV (aj kg) _ ["sign"] [] by ac_rfl) (Ea (ag 1)) (λcl C s₂ H₂ fp=>{(j1 0 (show(["sign"]:To).Nodup by decide)),(JB (Cy (ag 0) av)),(ag 0)})) (ej am))))))
  (aA (aU f7))
  bx)
  (ar (cm (xD (ul (fO hr.units (zI (ag 1) ap) av) (rJ (tK hr.units (ag 0) av))))
  (aA (aU f7))
  bx)
  (aA (aU (Df rfl (z 6 _ rfl) (ae (ag 0) am))))))))
theorem ua (z:Zs mg)(d:b7 K mg "_law_name_of" iz ["words","at"])  : bV P w K mg base 1 "_law_name_of" ["words","at"] ez :=
 okP (k:=0) d rY λf AP A outer s H E hr=>
  (ar (cm (xD (pC (Fg (ag 1) (f8 rfl (z 0 _ rfl) (ae (ag 0) am))) (pC (wy (qf rfl (z 0 _ rfl) (ae (dL (ag 0) (ag 1)) am)) ap) (mF (tL (qf rfl (z 0 _ rfl) (ae (dL (ag 0) (ag 1)) am)) ap)))))
  (aA (aU f7))
  bx)
  (ar (cm (tK hr.units (jt [] ["sign"] [] rfl (show aV (aj iz) _ ["sign"] [] by ac_rfl) (Ea (dL (ag 0) (ag 1))) (λcl C s₂ H₂ fp=>{(j1 0 (show(["sign"]:To).Nodup by decide)),(JB (Cy (ag 0) av)),(ag 0)})) (ej am))
  (aA (aU f7))
  bx)
  (aA (aU (dL (ag 0) (ag 1))))))
theorem ub (z:Zs mg)(d:b7 K mg "_law_many_of" iA ["words","at","by"])(gZ:bV P w K mg base 1 "_law_read" ["word"] dj):bV P w K mg base 2 "_law_many_of" ["words","at","by"] bJ :=
 okP (k:=1) d jR λf AP A outer s H E hr=>
  (ar (cm (Fg (ag 1) (f8 rfl (z 0 _ rfl) (ae (ag 0) am)))
  (aA (aU f7))
  bx)
  (ar (bq 3 jR.nd (aB gZ (hr.mono ∅) (ae (aJ (dL (ag 0) (ag 1))) am)))
  (ar (cm (xD (pC (lb (ag 3)) (pC (wy (ag 3) ap) (mF (tL (aL (aL (ag 1) ap) (mh (ag 2) (ag 3))) (f8 rfl (z 0 _ rfl) (ae (ag 0) am)))))))
  (aA (aU f7))
  bx)
  (ar (yd 4 [] ["word"] [] rfl (show aV (aj iA) _ ["word"] [] by ac_rfl) jR.nd (qQ (tR (ag 0) (nj (aL (ag 1) ap)) (nj (aL (aL (ag 1) ap) (mh (ag 2) (ag 3)))))) (λcl C s₂ H₂ fp=>{(j1 0 (show(["word"]:To).Nodup by decide)),mq,(aB gZ (hr.mono ∅) (ae (aJ (ag 0)) am))}))
  (ar (cm (Iw f7 (ag 4))
  (aA (aU f7))
  bx)
  (aA (aU (dP (ae (ja rfl (z 2 _ rfl) (ae (ag 4) am)) (ae (aL (aL (ag 1) ap) (mh (ag 2) (ag 3))) am))))))))))
theorem t0 (z:Zs mg)(d:b7 K mg "_law_some_of" jP ["words","at","shape"])(eB:bV P w K mg base 1 "_law_name_of" ["words","at"] ez)(gZ:bV P w K mg base 1 "_law_read" ["word"] dj):bV P w K mg base 2 "_law_some_of" ["words","at","shape"] cI :=
 okP (k:=1) d iH λf AP A outer s H E hr=>
  (ar (bq 3 iH.nd (ej am))
  (ar (pH rfl (qQ (ag 2)) (j1 4 iH.nd)
  (ar (cm (Fg (ag 1) (f8 rfl (z 0 _ rfl) (ae (ag 0) am)))
  (aA (aU f7))
  bx)
  (ar (cm (fO hr.units (ag 4) av)
  (aA (iU (pK (ag 3) (ae (aB eB (hr.mono ∅) (ae (aJ (ag 0)) (ae (aJ (ag 1)) am))) am))))
  (aA (iU (pK (ag 3) (ae (aB gZ (hr.mono ∅) (ae (aJ (dL (ag 0) (ag 1))) am)) am)))))
  (aA (bq 1 iH.nd (aL (ag 1) ap))))) PassesOwn.never)
  (ar (cm (Iw f7 (ag 3))
  (aA (aU f7))
  bx)
  (aA (aU (dP (ae (ja rfl (z 2 _ rfl) (ae (ag 3) am)) (ae (ag 1) am))))))))
theorem tZ (z:Zs mg)(d:b7 K mg "_law_tail_of" iy ["words","at","kind"])(jd:bV P w K mg base 2 "_law_many_of" ["words","at","by"] bJ)(jc:bV P w K mg base 2 "_law_some_of" ["words","at","shape"] cI):bV P w K mg base 3 "_law_tail_of" ["words","at","kind"] bP :=
 okP (k:=2) d eT λf AP A outer s H E hr=>
  (ar (bq 3 eT.nd (JEg av (aJ (ej (ae av (ae av (ae av am))))) av (aJ (ej (ae av (ae av am)))) av (aJ (ej (ae av am)))))
  (ar (wB (aJ (ej (ae av (ae av am)))) (Ed hr.units (ag 3) av))
  (ar (cm (NM hr.units (ag 2) (ag 3))
  (aA (aU (aB jc (hr.mono ∅) (ae (aJ (ag 0)) (ae (aJ (ag 1)) (ae (aJ (OE hr.units (ag 3) (ag 2))) am))))))
  bx)
  (ar (cm (fO hr.units (ag 2) av)
  (ar (bq 4 eT.nd (aB jd (hr.mono ∅) (ae (aJ (ag 0)) (ae (aJ (ag 1)) (ae ap am)))))
  (ar (cm (lb (ag 4))
  (aA (aU f7))
  bx)
  (ar (bq 5 eT.nd (Jf (f8 rfl (z 0 _ rfl) (ae (dL (ag 4) ap) am)) ap))
  (aA (aU (dP (ae (dP (ae (ja rfl (z 2 _ rfl) (ae (jt [4] ["j"] ["some"] rfl (show aV (aj iy) _ ["j"] ["some"] by ac_rfl) (uh rfl (z 1 _ rfl) (ag 5)) (λcl C s₂ H₂ fp=>{(j1 0 (show(["j","some"]:To).Nodup by decide)),mq,(dP (ae (dL (dL (ag 1) ap) (mh ap (ag 0))) (ae (dL (dL (ag 1) ap) (aL (mh ap (ag 0)) ap)) am)))})) am)) am)) (ae (dL (ag 4) ap) am))))))))
  bx)
  (ar (bq 4 eT.nd (aB jd (hr.mono ∅) (ae (aJ (ag 0)) (ae (aJ (ag 1)) (ae ap am)))))
  (ar (cm (xD (pC (lb (ag 4)) (mF (tK hr.units (ag 2) av))))
  (aA (aU (AV (lb (ag 4)) f7 (dP (ae (dP (ae (dL (ag 4) ap) am)) (ae (dL (ag 4) ap) am))))))
  bx)
  (ar (bq 6 eT.nd (aB jc (hr.mono ∅) (ae (aJ (ag 0)) (ae (aJ (dL (ag 4) ap)) (ae (aJ (ej (ae av am))) am)))))
  (aA (aU (AV (lb (ag 6)) f7 (dP (ae (dP (ae (dL (ag 4) ap) (ae (dL (dL (ag 6) ap) ap) am))) (ae (dL (ag 6) ap) am)))))))))))))
theorem pS (z:Zs mg)(d:b7 K mg "_law_ask_of" kG ["words","at","deep"])(jb:bV P w K mg base 3 "_law_tail_of" ["words","at","kind"] bP)(eB:bV P w K mg base 1 "_law_name_of" ["words","at"] ez):∀n,bV P w K mg base (5+1*n) "_law_ask_of" ["words","at","deep"] (bE n)
 |0=>okP (k:=4) d cH λf AP A outer s H E hr=>lc
 |n+1=>by
  have iO:=pS z d  jb eB n;exact okP (k:=5+1*n) d cH λf AP A outer s H E hr=>
  (ar (cm (xD (pC (Fg (ag 1) (f8 rfl (z 0 _ rfl) (ae (ag 0) am))) (mF (tL (ag 2) ap))))
  (aA (aU f7))
  bx)
  (ar (bq 3 cH.nd (dL (ag 0) (ag 1)))
  (ar (cm (fO hr.units (ag 3) av)
  (ar (bq 4 cH.nd (aB eB (hr.mono ∅) (ae (aJ (ag 0)) (ae (aJ (aL (ag 1) ap)) am))))
  (aA (aU (AV (lb (ag 4)) f7 (dP (ae (dP (ae av (ae (ag 4) am))) (ae (aL (ag 1) ap) am)))))))
  bx)
  (ar (cm (J5 (ag 3) (dP (ae av (ae av (ae av (ae av (ae av (ae av (ae av (ae av am))))))))))
  (aA (aU f7))
  bx)
  (ar (bq 5 cH.nd (ej (ae (ag 3) am)))
  (ar (bq 1 cH.nd (aL (ag 1) ap))
  (ar (pH rfl (uh rfl (z 1 _ rfl) (aL ap (KW rfl (z 6 _ rfl) (ae (OB (ag 3) (dP (ae av (ae av am)))) am)))) (j1 6 cH.nd)
  (ar (bq 7 cH.nd (aB iO (hr.mono ∅) (ae (aJ (ag 0)) (ae (aJ (ag 1)) (ae (aJ (aL (ag 2) ap)) am)))))
  (ar (cm (lb (ag 7))
  (aA (aU f7))
  bx)
  (ar (iU (pK (ag 5) (ae (dL (ag 7) ap) am)))
  (aA (bq 1 cH.nd (dL (ag 7) ap)))))) PassesOwn.never)
  (ar (bq 8 cH.nd (aB jb (hr.mono ∅) (ae (aJ (ag 0)) (ae (aJ (ag 1)) (ae (aJ (ag 3)) am)))))
  (aA (aU (AV (lb (ag 8)) f7 (dP (ae (aL (ja rfl (z 2 _ rfl) (ae (ag 5) am)) (dL (ag 8) ap)) (ae (dL (ag 8) ap) am))))))))))))))
theorem JBr (z:Zs mg)(d:b7 K mg "_law_due" oZ ["text"])(iO:bV P w K mg base 29 "_law_ask_of" ["words","at","deep"] (bE 24)):bV P w K mg base 30 "_law_due" ["text"] jH :=
 okP (k:=29) d o4 λf AP A outer s H E hr=>
  (ar (bq 1 o4.nd (ve (ag 0) av))
  (ar (bq 2 o4.nd (aB iO (hr.mono ∅) (ae (aJ (ag 1)) (ae ap (ae ap am)))))
  (ar (cm (xD (pC (lb (ag 2)) (mF (tK hr.units (dL (ag 2) ap) (f8 rfl (z 0 _ rfl) (ae (ag 1) am))))))
  (aA (aU f7))
  bx)
  (aA (aU (dL (ag 2) ap))))))
theorem ud (z:Zs mg)(d:b7 K mg "_law_changed" jQ ["script","k","text"])(aG:bV P w K mg base 1 "_law_draw" ["script","k","many"] aF):bV P w K mg base 2 "_law_changed" ["script","k","text"] fL :=
 okP (k:=1) d dI λf AP A outer s H E hr=>
  (ar (bq 3 dI.nd (ve (ag 2) av))
  (ar (bq 4 dI.nd (aB aG (hr.mono ∅) (ae (aJ (ag 0)) (ae (aJ (ag 1)) (ae ap am)))))
  (ar (bq 5 dI.nd (aB aG (hr.mono ∅) (ae (aJ (ag 0)) (ae (aJ (aL (ag 1) ap)) (ae (aJ (f8 rfl (z 0 _ rfl) (ae (ag 3) am))) am)))))
  (ar (bq 6 dI.nd (ej (ae av (ae av (ae av (ae av (ae av (ae av (ae av (ae av am))))))))))
  (ar (bq 6 dI.nd (aL (ag 6) (ej (ae av (ae av (ae av (ae av (ae av (ae av (ae av (ae av (ae av (ae av (ae av am))))))))))))))
  (ar (bq 7 dI.nd (dL (ag 6) (aB aG (hr.mono ∅) (ae (aJ (ag 0)) (ae (aJ (aL (ag 1) ap)) (ae ap am))))))
  (ar (cm (wy (ag 4) ap)
  (aA (aU (sh av (aL (aL (tR (ag 3) qe (nj (ag 5))) (ej (ae (ag 7) am))) (tR (ag 3) (nj (aL (ag 5) ap)) qe)))))
  bx)
  (ar (cm (fO hr.units (ag 4) ap)
  (aA (aU (sh av (aL (aL (tR (ag 3) qe (nj (ag 5))) (ej (ae (ag 7) am))) (tR (ag 3) (nj (ag 5)) qe)))))
  bx)
  (ar (cm (fO hr.units (ag 4) ap)
  (aA (aU (sh av (aL (tR (ag 3) qe (nj (ag 5))) (tR (ag 3) (nj (aL (ag 5) ap)) qe)))))
  bx)
  (ar (cm (fO hr.units (ag 4) ap)
  (aA (aU (sh av (tR (ag 3) qe (nj (ag 5))))))
  bx)
  (aA (aU (aL (aL (ag 2) av) (ag 7))))))))))))))
theorem yH (z:Zs mg)(d:b7 K mg "_law_good" mR ["text","due"])(pb:bV P w K mg base 56 "read_ask" ["text"] iX)(jZ:bV P w K mg base 26 "_law_same" ["told","due"] (gg 24))(hx_read_ask:fG P w K mg base 56 "read_ask" ["text"] b9):bV P w K mg base 57 "_law_good" ["text","due"] eA :=
 okP (k:=56) d f6 λf AP A outer s H E hr=>
  (ar (bq 2 f6.nd (ej am))
  (ar (bq 3 f6.nd f7)
  (ar (N4 (i:=4) f6.nd xf.e_HeldError.mg xf.e_HeldError.own (JCf xf.e_NoText xf.m_NoText JEk) (bq 3 f6.nd (aB pb (hr.mono ∅) (ae (aJ (ag 0)) am))) (lH (gO hx_read_ask (hr.mono ∅) (λxe=>(ae (aJ (ag 0)) am)))) (λea=>(ar (bq 2 f6.nd (ej (ae (Je (z 3 _ rfl) (si (v:=.ref q_NoText) xf.e_NoText.mg rfl) rfl (λ_ h=>h) (xj xf.e_NoText xf.k_NoText_NoText Aa) (ag 4)) (ae (Je (z 3 _ rfl) (OG (v:=.ty "ValueError") (z 9 _ rfl) (by decide:bootBuiltins "ValueError" = some (.type "ValueError")) rfl) rfl (λ_ h=>h) (xj xf.e_NoText xf.k_NoText_ValueError Aa) (ag 4)) am))))
  (aA (bq 2 f6.nd (aL (ag 2) (ej (ae (KU (z 3 _ rfl) (uw (si (v:=.ref q_NoColumn) xf.e_NoColumn.mg rfl) (uw (si (v:=.ref q_NoStretch) xf.e_NoStretch.mg rfl) (uw (si (v:=.ref q_NoTable) xf.e_NoTable.mg rfl) (uw (si (v:=.ref q_NoTurn) xf.e_NoTurn.mg rfl) (uw (si (v:=.ref q_NoWidth) xf.e_NoWidth.mg rfl) (uw (si (v:=.ref q_NoWord) xf.e_NoWord.mg rfl) OF)))))) (show 6<=sizeLine by decide) (um [q_NoColumn,q_NoStretch,q_NoTable,q_NoTurn,q_NoWidth,q_NoWord]) (JBu xf.e_NoText xf.k_NoText_t2 JCi) (ag 4)) am))))))))
  (ar (cm (lb (ag 1))
  (aA (aU (FW hr.units (ag 2) (ej (ae sj (ae sj (ae sj am)))))))
  bx)
  (aA (aU (wI (FW hr.units (ag 2) (ej am)) (zH (aB jZ (hr.mono ∅) (ae (aJ (ag 3)) (ae (aJ (ag 1)) am)))))))))))
theorem Pb {f:A4}(z:Zs mg)(F:pz K "law" "law" xW f fd)(j0:bV P w K mg base 57 "_law_good" ["text","due"] eA)(aG:bV P w K mg base 1 "_law_draw" ["script","k","many"] aF)(pd:nL P w K mg base 5 "_law_asks" ["script","many","base"] iW)(nZ:bV P w K mg base 30 "_law_due" ["text"] jH)(jl:nL P w K mg base 26 "_law_words" ["ask"] (dA 24))(kL:bV P w K mg base 2 "_law_changed" ["script","k","text"] fL):dF P w K mg base oh 58 f fd ["script"] (Fn K 1 wX) :=
 Mr (k:=57) F mX λAP A outer s H E hr=>
  (ar (cm (k9 (g8 (aB j0 (hr.mono ∅) (ae (aJ (OA (RF (ae f7 (ae ap (ae sj (ae (ej (ae av am)) (ae (dP (ae av (ae av am))) (ae KY am))))))) (aB aG (hr.mono ∅) (ae (aJ (ag 0)) (ae ap (ae ap am)))))) (ae f7 am)))))
  (aA (aU sj))
  bx)
  (ar (bq 1 mX.nd (aL ap (aB aG (hr.mono ∅) (ae (aJ (ag 0)) (ae ap (ae ap am))))))
  (ar (bq 2 mX.nd (aL (aL (vf av (ag 1)) av) (vf av (ag 1))))
  (ar (cm (fO hr.units (aB aG (hr.mono ∅) (ae (aJ (ag 0)) (ae ap (ae ap am)))) ap)
  (aA (bq 2 mX.nd (aL (aL (vf av (ag 1)) av) (vf av (ag 1)))))
  bx)
  (ar (cm (k9 (g8 (aB j0 (hr.mono ∅) (ae (aJ (ag 2)) (ae (aJ (aB nZ (hr.mono ∅) (ae (aJ (ag 2)) am))) am)))))
  (aA (aU sj))
  bx)
  (ar (pH rfl (qQ (tR (nR pd (hr.mono ∅) (ae (ag 0) (ae (Oz rfl rfl (z 10 _ rfl) (ae (f8 rfl (z 0 _ rfl) (ae (ag 0) am)) (ae ap am))) (ae ap am)))) qe (nj ap))) (j1 3 mX.nd)
  (ar (bq 2 mX.nd (sh av (nR jl (hr.mono ∅) (ae (ag 3) am))))
  (aA (pH rfl (uh rfl (z 1 _ rfl) ap) (j1 4 mX.nd)
  (ar (bq 5 mX.nd (aB kL (hr.mono ∅) (ae (aJ (ag 0)) (ae (aJ (aL (aL ap (mh ap (ag 4))) (qf rfl (z 0 _ rfl) (ae (ag 2) am)))) (ae (aJ (ag 2)) am)))))
  (aA (cm (k9 (g8 (aB j0 (hr.mono ∅) (ae (aJ (ag 5)) (ae (aJ (aB nZ (hr.mono ∅) (ae (aJ (ag 5)) am))) am)))))
  (aA (aU sj))
  bx))) PassesOwn.never))) PassesOwn.never)
  (aA (aU sj))))))))
end
set_option maxHeartbeats 4000000 in
def MO {l:PySem.W.OpenLaw}{w:AF}{K:AJ}{h:AG}{mg:Te}{fa qC:A4}(X:K.In h)(G:h.Ns mainGlobals mg)(hfa:mg "law" = some (.ref fa))
  (aC:PySem.W.nsIn K mainGlobals "Reader" = some (some (.ref qC))) (pg:PySem.W.plainGet K qC Str.empty=true) (hd:PySem.W.hasDictIn K qC=true) (po:PySem.W.plainOver K qC=true) (sa:PySem.W.findIn K (.ref qC) "__setattr__" = some (some (.builtin "object.__setattr__"))) (mk:PySem.W.makesIn K qC=true) (kc:PySem.W.keepIn K (.ref qC)=true)
  (n_words:PySem.W.findIn K (.ref qC) "words" = some none)
  (n_place:PySem.W.findIn K (.ref qC) "place" = some none)
  (a0:Hz K qC "__init__" "Reader.__init__" iF)
  (a1:Hz K qC "word" "Reader.word" iD)
  (a2:Hz K qC "letters" "Reader.letters" fQ)
  (a3:Hz K qC "number" "Reader.number" gu)
  (a4:Hz K qC "many" "Reader.many" iE)
  (a5:Hz K qC "numbers" "Reader.numbers" cK)
  (a6:Hz K qC "finish" "Reader.finish" gv)
  (a7:FK K "form_of" o0)
  (a8:FK K "check_text" i9)
  (a9:FK K "is_made_of" i8)
  (a10:FK K "read_number" iw)
  (a11:FK K "read_number_from" eJ)
  (a12:FK K "read_letters" gW)
  (a13:FK K "words_of" j9)
  (a14:FK K "read_thing" cG)
  (a15:FK K "read_part" gr)
  (a16:FK K "read_ask" kf)
  (a17:FK K "_law_draw" mS)
  (a18:FK K "_law_far" oY)
  (a19:FK K "_law_name" mQ)
  (a20:FK K "_law_number" kF)
  (a21:FK K "_law_columns" iC)
  (a22:FK K "_law_one" oX)
  (a23:FK K "_law_two" lE)
  (a24:FK K "_law_asks" mT)
  (a25:FK K "_law_words" lD)
  (a26:FK K "_law_same" mP)
  (a27:FK K "_law_read" kg)
  (a28:FK K "_law_name_of" iz)
  (a29:FK K "_law_many_of" iA)
  (a30:FK K "_law_some_of" jP)
  (a31:FK K "_law_tail_of" iy)
  (a32:FK K "_law_ask_of" kG)
  (a33:FK K "_law_due" oZ)
  (a34:FK K "_law_changed" jQ)
  (a35:FK K "_law_good" mR)
  (a36:FK K "law" xW)
  {tkFIGURES:Tok} {tkMOST_FIGURES:Tok} {tkSMALL_LETTERS:Tok} {tkMOST_LETTERS:Tok} {tkDEEPEST:Tok} (Ja2:PySem.W.nsIn K mainGlobals "FIGURES" = some (some (.str "0123456789" tkFIGURES))) (Jap:PySem.W.nsIn K mainGlobals "MOST_FIGURES" = some (some (.int (60) tkMOST_FIGURES))) (Jan:PySem.W.nsIn K mainGlobals "SMALL_LETTERS" = some (some (.str "abcdefghijklmnopqrstuvwxyz" tkSMALL_LETTERS))) (Jaq:PySem.W.nsIn K mainGlobals "MOST_LETTERS" = some (some (.int (8) tkMOST_LETTERS))) (Ja3:PySem.W.nsIn K mainGlobals "DEEPEST" = some (some (.int (20) tkDEEPEST))) {Jbm:A4} {epFORMS:Nat} {Jbn:A4} {nFORMS_0:Nat} {sFORMS_0:AW (Ti)} {tkFORMS_0 tFORMS_0_0:Tok} {Jbo:A4} {nFORMS_1:Nat} {sFORMS_1:AW (Ti)} {tkFORMS_1 tFORMS_1_0 tFORMS_1_1 tFORMS_1_2 tFORMS_1_3:Tok} {Jbp:A4} {nFORMS_2:Nat} {sFORMS_2:AW (Ti)} {tkFORMS_2 tFORMS_2_0 tFORMS_2_1 tFORMS_2_2:Tok} {Jbq:A4} {nFORMS_3:Nat} {sFORMS_3:AW (Ti)} {tkFORMS_3 tFORMS_3_0 tFORMS_3_1:Tok} {Jbr:A4} {nFORMS_4:Nat} {sFORMS_4:AW (Ti)} {tkFORMS_4 tFORMS_4_0 tFORMS_4_1 tFORMS_4_2:Tok} {Jbs:A4} {nFORMS_5:Nat} {sFORMS_5:AW (Ti)} {tkFORMS_5 tFORMS_5_0 tFORMS_5_1 tFORMS_5_2:Tok} {Jbt:A4} {nFORMS_6:Nat} {sFORMS_6:AW (Ti)} {tkFORMS_6 tFORMS_6_0 tFORMS_6_1:Tok} {Jbu:A4} {nFORMS_7:Nat} {sFORMS_7:AW (Ti)} {tkFORMS_7 tFORMS_7_0 tFORMS_7_1 tFORMS_7_2:Tok} {Jbv:A4} {nFORMS_8:Nat} {sFORMS_8:AW (Ti)} {tkFORMS_8 tFORMS_8_0 tFORMS_8_1 tFORMS_8_2:Tok} (Jbw:PySem.W.nsIn K mainGlobals "FORMS" = some (some (.ref Jbm))) (Jbx:K.lookup Jbm=some {.type "dict",none,.dict (List.toArray [{hashStr w "table",.str "table" tkFORMS_0,.ref Jbn},{hashStr w "pick",.str "pick" tkFORMS_1,.ref Jbo},{hashStr w "twins",.str "twins" tkFORMS_2,.ref Jbp},{hashStr w "columns",.str "columns" tkFORMS_3,.ref Jbq},{hashStr w "joined",.str "joined" tkFORMS_4,.ref Jbr},{hashStr w "matched",.str "matched" tkFORMS_5,.ref Jbs},{hashStr w "counted",.str "counted" tkFORMS_6,.ref Jbt},{hashStr w "summed",.str "summed" tkFORMS_7,.ref Jbu},{hashStr w "lifted",.str "lifted" tkFORMS_8,.ref Jbv}]) epFORMS,#[]}) (Ja4:K.lookup Jbn=some {.type "tuple",none,.seq ([.str "name" tFORMS_0_0]:Tf).toArray nFORMS_0,sFORMS_0}) (Ja5:K.lookup Jbo=some {.type "tuple",none,.seq ([.str "ask" tFORMS_1_0,.str "column" tFORMS_1_1,.str "word" tFORMS_1_2,.str "number" tFORMS_1_3]:Tf).toArray nFORMS_1,sFORMS_1}) (Ja6:K.lookup Jbp=some {.type "tuple",none,.seq ([.str "ask" tFORMS_2_0,.str "column" tFORMS_2_1,.str "column" tFORMS_2_2]:Tf).toArray nFORMS_2,sFORMS_2}) (Ja7:K.lookup Jbq=some {.type "tuple",none,.seq ([.str "ask" tFORMS_3_0,.str "columns" tFORMS_3_1]:Tf).toArray nFORMS_3,sFORMS_3}) (Ja8:K.lookup Jbr=some {.type "tuple",none,.seq ([.str "ask" tFORMS_4_0,.str "ask" tFORMS_4_1,.str "word" tFORMS_4_2]:Tf).toArray nFORMS_4,sFORMS_4}) (Ja9:K.lookup Jbs=some {.type "tuple",none,.seq ([.str "ask" tFORMS_5_0,.str "ask" tFORMS_5_1,.str "pairs" tFORMS_5_2]:Tf).toArray nFORMS_5,sFORMS_5}) (Jba:K.lookup Jbt=some {.type "tuple",none,.seq ([.str "ask" tFORMS_6_0,.str "columns" tFORMS_6_1]:Tf).toArray nFORMS_6,sFORMS_6}) (Jbb:K.lookup Jbu=some {.type "tuple",none,.seq ([.str "ask" tFORMS_7_0,.str "columns" tFORMS_7_1,.str "column" tFORMS_7_2]:Tf).toArray nFORMS_7,sFORMS_7}) (Jbc:K.lookup Jbv=some {.type "tuple",none,.seq ([.str "ask" tFORMS_8_0,.str "word" tFORMS_8_1,.str "number" tFORMS_8_2]:Tf).toArray nFORMS_8,sFORMS_8}) (smFORMS:(Jbm == sysModules)=false) {q_NoText:A4} (gx_NoText:PySem.W.nsIn K mainGlobals "NoText" = some (some (.ref q_NoText))) (ox_NoText:j7 K q_NoText) (cx_NoText:kW K q_NoText) {q_HeldError:A4} (gx_HeldError:PySem.W.nsIn K mainGlobals "HeldError" = some (some (.ref q_HeldError))) (ox_HeldError:j7 K q_HeldError) (cx_HeldError:kW K q_HeldError) {q_NoColumn:A4} (gx_NoColumn:PySem.W.nsIn K mainGlobals "NoColumn" = some (some (.ref q_NoColumn))) (ox_NoColumn:j7 K q_NoColumn) (cx_NoColumn:kW K q_NoColumn) {q_NoStretch:A4} (gx_NoStretch:PySem.W.nsIn K mainGlobals "NoStretch" = some (some (.ref q_NoStretch))) (ox_NoStretch:j7 K q_NoStretch) (cx_NoStretch:kW K q_NoStretch) {q_NoTable:A4} (gx_NoTable:PySem.W.nsIn K mainGlobals "NoTable" = some (some (.ref q_NoTable))) (ox_NoTable:j7 K q_NoTable) (cx_NoTable:kW K q_NoTable) {q_NoTurn:A4} (gx_NoTurn:PySem.W.nsIn K mainGlobals "NoTurn" = some (some (.ref q_NoTurn))) (ox_NoTurn:j7 K q_NoTurn) (cx_NoTurn:kW K q_NoTurn) {q_NoWidth:A4} (gx_NoWidth:PySem.W.nsIn K mainGlobals "NoWidth" = some (some (.ref q_NoWidth))) (ox_NoWidth:j7 K q_NoWidth) (cx_NoWidth:kW K q_NoWidth) {q_NoWord:A4} (gx_NoWord:PySem.W.nsIn K mainGlobals "NoWord" = some (some (.ref q_NoWord))) (ox_NoWord:j7 K q_NoWord) (cx_NoWord:kW K q_NoWord) (m_NoText:kK K q_NoText q_HeldError=true) (k_NoText_NoText:PySem.W.kitOne K (.ref q_NoText) (.ref q_NoText)=some true) (k_NoText_ValueError:PySem.W.kitOne K (.ref q_NoText) (.type "ValueError")=some true) (k_NoText_t2:PySem.W.kitAny K (.ref q_NoText) [.ref q_NoColumn,.ref q_NoStretch,.ref q_NoTable,.ref q_NoTurn,.ref q_NoWidth,.ref q_NoWord]=some false) (z0:PySem.W.nsIn K mainGlobals "len" = some none) (z1:PySem.W.nsIn K mainGlobals "range" = some none) (z2:PySem.W.nsIn K mainGlobals "tuple" = some none) (z3:PySem.W.nsIn K mainGlobals "isinstance" = some none) (z4:PySem.W.nsIn K mainGlobals "str" = some none) (z5:PySem.W.nsIn K mainGlobals "all" = some none) (z6:PySem.W.nsIn K mainGlobals "int" = some none) (z7:PySem.W.nsIn K mainGlobals "max" = some none) (z8:PySem.W.nsIn K mainGlobals "bool" = some none) (z9:PySem.W.nsIn K mainGlobals "ValueError" = some none) (z10:PySem.W.nsIn K mainGlobals "min" = some none) :
  ∃fd:FuncData,(∀(s:A2) (v:A6),BindsTo s fd {[v],[]} [("script",v)])/\∀base:AG,K.In base->base.Ns mainGlobals mg->dF l.prog w K mg base oh 58 fa fd ["script"] (Fn K 1 wX):=by
 have z:Zs mg:=(ii (Ds X G z0) (ii (Ds X G z1) (ii (Ds X G z2) (ii (Ds X G z3) (ii (Ds X G z4) (ii (Ds X G z5) (ii (Ds X G z6) (ii (Ds X G z7) (ii (Ds X G z8) (ii (Ds X G z9) (ii (Ds X G z10) JH)))))))))));have Jam:fP K mg "FIGURES" (.str "0123456789"):=nG (CN X G Ja2) db;have Jag:fP K mg "MOST_FIGURES" (.int (60)):=nG (CN X G Jap) yY;have Jah:fP K mg "SMALL_LETTERS" (.str "abcdefghijklmnopqrstuvwxyz"):=nG (CN X G Jan) db;have Jaj:fP K mg "MOST_LETTERS" (.int (8)):=nG (CN X G Jaq) yY;have Jai:fP K mg "DEEPEST" (.int (20)):=nG (CN X G Ja3) yY;have Jbf:AB K w mg "FORMS" nH:={_,_,_,_,CN X G Jbw,Jbx,smFORMS,by decide,(.cons (lU Ja4 (show 1<=sizeLine by decide) (b5 db jD)) (.cons (lU Ja5 (show 4<=sizeLine by decide) (b5 db (b5 db (b5 db (b5 db jD))))) (.cons (lU Ja6 (show 3<=sizeLine by decide) (b5 db (b5 db (b5 db jD)))) (.cons (lU Ja7 (show 2<=sizeLine by decide) (b5 db (b5 db jD))) (.cons (lU Ja8 (show 3<=sizeLine by decide) (b5 db (b5 db (b5 db jD)))) (.cons (lU Ja9 (show 3<=sizeLine by decide) (b5 db (b5 db (b5 db jD)))) (.cons (lU Jba (show 2<=sizeLine by decide) (b5 db (b5 db jD))) (.cons (lU Jbb (show 3<=sizeLine by decide) (b5 db (b5 db (b5 db jD)))) (.cons (lU Jbc (show 3<=sizeLine by decide) (b5 db (b5 db (b5 db jD)))) .nil)))))))))};have cf:CF K mg qC:={{aC,CN X G aC,⟨pg,hd,po,sa⟩},n_words,n_place,mk,kc};have xf:XF K mg q_NoText q_HeldError q_NoColumn q_NoStretch q_NoTable q_NoTurn q_NoWidth q_NoWord:={{gx_NoText,CN X G gx_NoText,ox_NoText,cx_NoText},{gx_HeldError,CN X G gx_HeldError,ox_HeldError,cx_HeldError},{gx_NoColumn,CN X G gx_NoColumn,ox_NoColumn,cx_NoColumn},{gx_NoStretch,CN X G gx_NoStretch,ox_NoStretch,cx_NoStretch},{gx_NoTable,CN X G gx_NoTable,ox_NoTable,cx_NoTable},{gx_NoTurn,CN X G gx_NoTurn,ox_NoTurn,cx_NoTurn},{gx_NoWidth,CN X G gx_NoWidth,ox_NoWidth,cx_NoWidth},{gx_NoWord,CN X G gx_NoWord,ox_NoWord,cx_NoWord},m_NoText,k_NoText_NoText,k_NoText_ValueError,k_NoText_t2};have Jaw:=a0.at_ (ps:=["self","text"]) (λ_ _ _ _ _ _=>B6 λ_ _=>rfl);have Jax:=a1.at_ (ps:=["self"]) (λ_ _ _ _ _ _=>wq λ_=>rfl);have Jar:=a2.at_ (ps:=["self"]) (λ_ _ _ _ _ _=>wq λ_=>rfl);have Jat:=a3.at_ (ps:=["self"]) (λ_ _ _ _ _ _=>wq λ_=>rfl);have Jay:=a4.at_ (ps:=["self"]) (λ_ _ _ _ _ _=>wq λ_=>rfl);have Jas:=a5.at_ (ps:=["self"]) (λ_ _ _ _ _ _=>wq λ_=>rfl);have Jau:=a6.at_ (ps:=["self"]) (λ_ _ _ _ _ _=>wq λ_=>rfl);have Jb8:=a7.at_ (ps:=["word"]) X G (λ_ _ _ _ _ _=>wq λ_=>rfl);have Ja0:=a8.at_ (ps:=["thing"]) X G (λ_ _ _ _ _ _=>wq λ_=>rfl);have Jby:=a9.at_ (ps:=["text","signs","most"]) X G (λ_ _ _ _ _ _=>EV λ_ _ _=>rfl);have Jaz:=a10.at_ (ps:=["text"]) X G (λ_ _ _ _ _ _=>wq λ_=>rfl);have Jao:=a11.at_ (ps:=["text","least"]) X G (λ_ _ _ _ _ _=>B6 λ_ _=>rfl);have Jav:=a12.at_ (ps:=["text"]) X G (λ_ _ _ _ _ _=>wq λ_=>rfl);have Jbd:=a13.at_ (ps:=["text"]) X G (λ_ _ _ _ _ _=>wq λ_=>rfl);have Jaf:=a14.at_ (ps:=["reader","kind","deep"]) X G (λ_ _ _ _ _ _=>EV λ_ _ _=>rfl);have Ja1:=a15.at_ (ps:=["reader","deep"]) X G (λ_ _ _ _ _ _=>B6 λ_ _=>rfl);have Jbe:=a16.at_ (ps:=["text"]) X G (λ_ _ _ _ _ _=>wq λ_=>rfl);have Jb2:=a17.at_ (ps:=["script","k","many"]) X G (λ_ _ _ _ _ _=>EV λ_ _ _=>rfl);have Jb9:=a18.at_ (ps:=["script","k"]) X G (λ_ _ _ _ _ _=>B6 λ_ _=>rfl);have Jb3:=a19.at_ (ps:=["script","k"]) X G (λ_ _ _ _ _ _=>B6 λ_ _=>rfl);have Jbz:=a20.at_ (ps:=["script","k"]) X G (λ_ _ _ _ _ _=>B6 λ_ _=>rfl);have Jbg:=a21.at_ (ps:=["script","k"]) X G (λ_ _ _ _ _ _=>B6 λ_ _=>rfl);have Jca:=a22.at_ (ps:=["script","k","kind","part"]) X G (λ_ _ _ _ _ _=>TN λ_ _ _ _=>rfl);have Jcb:=a23.at_ (ps:=["script","k","kind","part","other"]) X G (λ_ _ _ _ _ _=>UP λ_ _ _ _ _=>rfl);have Jb4:=a24.at_ (ps:=["script","many","base"]) X G (λ_ _ _ _ _ _=>EV λ_ _ _=>rfl);have Jb1:=a25.at_ (ps:=["ask"]) X G (λ_ _ _ _ _ _=>wq λ_=>rfl);have Jb5:=a26.at_ (ps:=["told","due"]) X G (λ_ _ _ _ _ _=>B6 λ_ _=>rfl);have Jb6:=a27.at_ (ps:=["word"]) X G (λ_ _ _ _ _ _=>wq λ_=>rfl);have Jbh:=a28.at_ (ps:=["words","at"]) X G (λ_ _ _ _ _ _=>B6 λ_ _=>rfl);have Jbi:=a29.at_ (ps:=["words","at","by"]) X G (λ_ _ _ _ _ _=>EV λ_ _ _=>rfl);have Jbj:=a30.at_ (ps:=["words","at","shape"]) X G (λ_ _ _ _ _ _=>EV λ_ _ _=>rfl);have Jbk:=a31.at_ (ps:=["words","at","kind"]) X G (λ_ _ _ _ _ _=>EV λ_ _ _=>rfl);have Jb0:=a32.at_ (ps:=["words","at","deep"]) X G (λ_ _ _ _ _ _=>EV λ_ _ _=>rfl);have Jcc:=a33.at_ (ps:=["text"]) X G (λ_ _ _ _ _ _=>wq λ_=>rfl);have Jbl:=a34.at_ (ps:=["script","k","text"]) X G (λ_ _ _ _ _ _=>EV λ_ _ _=>rfl);have Jb7:=a35.at_ (ps:=["text","due"]) X G (λ_ _ _ _ _ _=>B6 λ_ _=>rfl);obtain⟨fdL,FL,bL⟩:=a36.law (ps:=["script"]) X G hfa (λ_ _ _ _ _ _=>wq λ_=>rfl);refine{fdL,λs v=>bL s [v] rfl,λbase _ _=>?_};have hx_Reader_word:=sE (P:=l.prog) (w:=w) (base:=base) cf xf z Jax;have Jab:=ue (P:=l.prog) (w:=w) (base:=base) cf xf z Jax;have hx_Reader_finish:=qq (P:=l.prog) (w:=w) (base:=base) cf xf z Jau;have Jal:=q9 (P:=l.prog) (w:=w) (base:=base) cf xf z Jau;have gz:=JBs (P:=l.prog) (w:=w) (base:=base) cf xf z Jb8 Jbf;have hx_check_text:=tW (P:=l.prog) (w:=w) (base:=base) cf xf z Ja0;have cN:=vJ (P:=l.prog) (w:=w) (base:=base) cf xf z Ja0;have cn:=vI (P:=l.prog) (w:=w) (base:=base) cf xf z Jby;have aG:=yI (P:=l.prog) (w:=w) (base:=base) cf xf z Jb2;have gZ:=yF (P:=l.prog) (w:=w) (base:=base) cf xf z Jb6;have eB:=ua (P:=l.prog) (w:=w) (base:=base) cf xf z Jbh;have hx_read_number:=sC (P:=l.prog) (w:=w) (base:=base) cf xf z Jaz cN cn hx_check_text Jam Jag;have cg:=tY (P:=l.prog) (w:=w) (base:=base) cf xf z Jaz cN cn hx_check_text Jam Jag;have hx_read_letters:=qZ (P:=l.prog) (w:=w) (base:=base) cf xf z Jav cn Jah Jaj;have eV:=sI (P:=l.prog) (w:=w) (base:=base) cf xf z Jav cn Jah Jaj;have hx_words_of:=w6 (P:=l.prog) (w:=w) (base:=base) cf xf z Jbd cN hx_check_text;have jY:=yD (P:=l.prog) (w:=w) (base:=base) cf xf z Jbd cN hx_check_text;have qy:=JBq (P:=l.prog) (w:=w) (base:=base) cf xf z Jb9 aG;have lR:=yG (P:=l.prog) (w:=w) (base:=base) cf xf z Jb3 aG;have eE:=uc (P:=l.prog) (w:=w) (base:=base) cf xf z Jbg aG;have jd:=ub (P:=l.prog) (w:=w) (base:=base) cf xf z Jbi gZ;have jc:=t0 (P:=l.prog) (w:=w) (base:=base) cf xf z Jbj eB gZ;have kL:=ud (P:=l.prog) (w:=w) (base:=base) cf xf z Jbl aG;have hx_Reader_init:=sG (P:=l.prog) (w:=w) (base:=base) cf xf z Jaw jY hx_words_of;have Jak:=ug (P:=l.prog) (w:=w) (base:=base) cf xf z Jaw jY hx_words_of;have hx_Reader_letters:=pP (P:=l.prog) (w:=w) (base:=base) cf xf z Jar eV Jab hx_read_letters hx_Reader_word;have Jae:=qv (P:=l.prog) (w:=w) (base:=base) cf xf z Jar eV Jab hx_read_letters hx_Reader_word;have hx_Reader_number:=qp (P:=l.prog) (w:=w) (base:=base) cf xf z Jat cg Jab hx_read_number hx_Reader_word;have Jaa:=q8 (P:=l.prog) (w:=w) (base:=base) cf xf z Jat cg Jab hx_read_number hx_Reader_word;have hx_read_number_from:=oj (P:=l.prog) (w:=w) (base:=base) cf xf z Jao cg hx_read_number;have cV:=o9 (P:=l.prog) (w:=w) (base:=base) cf xf z Jao cg hx_read_number;have jB:=vH (P:=l.prog) (w:=w) (base:=base) cf xf z Jbz aG qy;have qw:=JBo (P:=l.prog) (w:=w) (base:=base) cf xf z Jcb eE aG;have jb:=tZ (P:=l.prog) (w:=w) (base:=base) cf xf z Jbk jd jc;have hx_Reader_many:=sF (P:=l.prog) (w:=w) (base:=base) cf xf z Jay cV Jab hx_read_number_from hx_Reader_word;have Jac:=uf (P:=l.prog) (w:=w) (base:=base) cf xf z Jay cV Jab hx_read_number_from hx_Reader_word;have qx:=JBp (P:=l.prog) (w:=w) (base:=base) cf xf z Jca eE aG jB;have hx_Reader_numbers:=pO (P:=l.prog) (w:=w) (base:=base) cf xf z Jas Jaa Jac hx_Reader_number hx_Reader_many;have Jad:=qu (P:=l.prog) (w:=w) (base:=base) cf xf z Jas Jaa Jac hx_Reader_number hx_Reader_many;have pd:=yJ (P:=l.prog) (w:=w) (base:=base) cf xf z Jb4 lR aG qw qx;have jl:=qO (P:=l.prog) (w:=w) (base:=base) cf xf z Jb1   24;have jZ:=sJ (P:=l.prog) (w:=w) (base:=base) cf xf z Jb5   24;have iO:=pS (P:=l.prog) (w:=w) (base:=base) cf xf z Jb0  jb eB 24;have nZ:=JBr (P:=l.prog) (w:=w) (base:=base) cf xf z Jcc iO;have ca:=nA (P:=l.prog) (w:=w) (base:=base) cf xf z Ja1 Jaf Jab gz Jai Jae Jaa Jad Jac 24;have hx_read_part:=pN (P:=l.prog) (w:=w) (base:=base) cf xf z Ja1 Jaf Jab gz Jai Jae Jaa Jad Jac hx_Reader_word hx_Reader_letters hx_Reader_number hx_Reader_numbers hx_Reader_many 24;have hx_read_ask:=w9 (P:=l.prog) (w:=w) (base:=base) cf xf z Jbe Jak ca Jal hx_Reader_init hx_read_part hx_Reader_finish;have pb:=yE (P:=l.prog) (w:=w) (base:=base) cf xf z Jbe Jak ca Jal hx_Reader_init hx_read_part hx_Reader_finish;have j0:=yH (P:=l.prog) (w:=w) (base:=base) cf xf z Jb7 pb jZ hx_read_ask;exact Pb (P:=l.prog) (w:=w) (base:=base) cf xf z FL j0 aG pd nZ jl kL
end
end LW
namespace LW
open HW
def rL (a0 a1:R)(U:ah):dz [a0,a1] U=kB [some a0,some a1] U:=rfl
def tI (a0 a1:R)(U:ah):cY [a0,a1] U=(kU [some a0,some a1] U).bind ui:=rfl
def mK (a0:R)(U:ah):bg [a0] U=i6 [some a0] U:=rfl
def tG (a0:R)(U:ah):aX [a0] U=(kS [some a0] U).bind ui:=rfl
def iq (a0:R)(U:ah):cT [a0] U=eQ [some a0] U:=rfl
def p7 (a0:R)(U:ah):cj [a0] U=(iZ [some a0] U).bind ui:=rfl
def iR (a0:R)(U:ah):aE [a0] U=fE [some a0] U:=rfl
def qW (a0:R)(U:ah):aq [a0] U=(jv [some a0] U).bind ui:=rfl
def ip (a0:R)(U:ah):cC [a0] U=fI [some a0] U:=rfl
def tH (a0:R)(U:ah):bp [a0] U=(kT [some a0] U).bind ui:=rfl
def io (a0:R)(U:ah):cR [a0] U=eP [some a0] U:=rfl
def p6 (a0:R)(U:ah):bX [a0] U=(iY [some a0] U).bind ui:=rfl
def kZ (a0:R)(U:ah):cE [a0] U=gU [some a0] U:=rfl
def qX (a0:R)(U:ah):dh [a0] U=(jw [some a0] U).bind ui:=rfl
def tu (a0:D):cW [a0]=(ly [some (.v a0)] []).bind λr=>some r.1:=rfl
def u2 (a0:D):cL [a0]=fV (l4 [some (.v a0)] []):=rfl
def pE (a0 a1 a2:D):b3 [a0,a1,a2]=fV (eo [some (.v a0),some (.v a1),some (.v a2)] []):=rfl
def mI (a0:D):cb [a0]=(gM [some (.v a0),none] []).bind λr=>some r.1:=rfl
def tw (a0:D):cD [a0]=fV (kQ [some (.v a0),none] []):=rfl
def gH (a0 a1:D):b8 [a0,a1]=(dG [some (.v a0),some (.v a1),none] []).bind λr=>some r.1:=rfl
def oU (a0 a1:D):cU [a0,a1]=fV (g5 [some (.v a0),some (.v a1),none] []):=rfl
def qV (a0:D):eR [a0]=(ij [some (.v a0)] []).bind λr=>some r.1:=rfl
def rN (a0:D):dN [a0]=fV (j4 [some (.v a0)] []):=rfl
def wp (a0:D):iQ [a0]=(oR [some (.v a0)] []).bind λr=>some r.1:=rfl
def xK (a0:D):gc [a0]=uN (pe [some (.v a0)] []):=rfl
def bY (F:MW)(XF:og)(a0 a1 a2:R)(U:ah):b0 F XF [a0,a1,a2] U=bR F XF [some a0,some a1,some a2] U:=rfl
def gq (F:MW)(a0 a1 a2:R)(U:ah):bS F [a0,a1,a2] U=(en F [some a0,some a1,some a2] U).bind ui:=rfl
def im (n:Nat)(a0 a1:R)(U:ah):bZ (n+1) [a0,a1] U=fW (bh n) (bZ n) [some a0,some a1,none,none] U:=rfl
def wt (n:Nat)(a0 a1:R)(U:ah):bh (n+1) [a0,a1] U=(nI (bh n) [some a0,some a1,none,none] U).bind ui:=rfl
def mJ (a0:D):b9 [a0]=(jL [some (.v a0),none,none] []).bind λr=>some r.1:=rfl
def xL (a0:D):iX [a0]=fV (ph [some (.v a0),none,none] []):=rfl
def xN (a0 a1 a2:D):aF [a0,a1,a2]=fV (l0 [some (.v a0),some (.v a1),some (.v a2),none,none] []):=rfl
def JAl (a0 a1:D):lm [a0,a1]=fV (n6 [some (.v a0),some (.v a1),none] []):=rfl
def xM (a0 a1:D):gh [a0,a1]=fV (pi [some (.v a0),some (.v a1),none,none] []):=rfl
def uZ (a0 a1:D):gx [a0,a1]=fV (gB [some (.v a0),some (.v a1),none] []):=rfl
def tF (a0 a1:D):dB [a0,a1]=fV (kR [some (.v a0),some (.v a1),none] []):=rfl
def JAk (a0 a1 a2 a3:D):jG [a0,a1,a2,a3]=fV (ie [some (.v a0),some (.v a1),some (.v a2),some (.v a3),none] []):=rfl
def JAj (a0 a1 a2 a3 a4:D):jF [a0,a1,a2,a3,a4]=fV (n5 [some (.v a0),some (.v a1),some (.v a2),some (.v a3),some (.v a4),none] []):=rfl
def xO (a0 a1 a2:D):iW [a0,a1,a2]=uN (pj [some (.v a0),some (.v a1),some (.v a2),none,none,none,none,none,none,none,none] []):=rfl
def wu (n:Nat)(a0:D):dA (n+1) [a0]=uN (nJ (dA n) [some (.v a0),none,none,none] []):=rfl
def oV (n:Nat)(a0 a1:D):gg (n+1) [a0,a1]=fV (j5 (gg n) [some (.v a0),some (.v a1),none] []):=rfl
def rO (a0:D):dj [a0]=fV (lY [some (.v a0),none] []):=rfl
def tD (a0 a1:D):ez [a0,a1]=fV (cZ [some (.v a0),some (.v a1)] []):=rfl
def tE (a0 a1 a2:D):bJ [a0,a1,a2]=fV (dC [some (.v a0),some (.v a1),some (.v a2),none,none] []):=rfl
def tz (a0 a1 a2:D):cI [a0,a1,a2]=fV (gT [some (.v a0),some (.v a1),some (.v a2),none,none] []):=rfl
def i7 (a0 a1 a2:D):bP [a0,a1,a2]=fV (oO [some (.v a0),some (.v a1),some (.v a2),none,none,none,none] []):=rfl
def ir (n:Nat)(a0 a1 a2:D):bE (n+1) [a0,a1,a2]=fV (fu (bE n) [some (.v a0),some (.v a1),some (.v a2),none,none,none,none,none,none] []):=rfl
def JAm (a0:D):jH [a0]=fV (lv [some (.v a0),none,none] []):=rfl
def fJ (a0 a1 a2:D):fL [a0,a1,a2]=fV (dE [some (.v a0),some (.v a1),some (.v a2),none,none,none,none,none] []):=rfl
def rP (a0 a1:D):eA [a0,a1]=fV (lZ [some (.v a0),some (.v a1),none,none,none] []):=rfl
def No (a0:D):wX [a0]=fV (JE [some (.v a0),none,none,none,none,none] []):=rfl
end LW
namespace HW
noncomputable def Ru (o:UO oP)(x:XB):UO (Str×ah):=o.bind λo=>match o with|.nx O' U'=>x O' U'|_=>none
theorem aW {a:FS}{x:XB}{O:Lo}{U:ah}:jg a x O U=Ru (a O U) x:=rfl
theorem aO {x:XB}{O:Lo}{U:ah}:Ru (some (.nx O U)) x=x O U:=rfl
def aR {x:XB}{r:R}{U:ah}:Ru (some (.rt r U)) x=none:=rfl
noncomputable def RG (o:UO (Str×ah))(y:XB)(O:Lo)(U:ah):UO (Str×ah):=match o with|some r=>some r|none=>y O U
theorem bN {x y:XB}{O:Lo}{U:ah}:nN x y O U=RG (x O U) y O U:=rfl
theorem bA {y:XB}{r}{O:Lo}{U:ah}:RG (some r) y O U=some r:=rfl
theorem bt {y:XB}{O:Lo}{U:ah}:RG none y O U=y O U:=rfl
noncomputable def RT (o:UO (A9×ah))(x y:XB)(O:Lo):UO (Str×ah):=o.bind λc=>if c.1=true then x O c.2 else y O c.2
theorem ci {t:FT}{x y:XB}{O:Lo}{U:ah}:xC t x y O U=RT (t O U) x y O:=rfl
theorem bC {x y:XB}{O:Lo}{U:ah}:RT (some (true,U)) x y O=x O U:=rfl
theorem bB {x y:XB}{O:Lo}{U:ah}:RT (some (false,U)) x y O=y O U:=rfl
theorem cp {O:Lo}{U:ah}:wk O U=none:=rfl
noncomputable def tX (o:UO Str)(U:ah):UO (Str×ah):=o.bind λc=>some (c,U)
def cz {c:Str}{U:ah}:tX (some c) U=some (c,U):=rfl
def cy {U:ah}:tX none U=none:=rfl
noncomputable def J2 (o:UO (A0 R×ah))(xf:A0 D->UO Str)(n:Nat):UO (Str×ah):=o.bind λa=>(vals a.1).bind λds=>if ds.length=n then tX (xf ds) a.2 else none
def be {xf:A0 D->UO Str}{n:Nat}{fa:FA}{O:Lo}{U:ah}:ma xf n fa O U=J2 (fa O U) xf n:=rfl
def cB {xf:A0 D->UO Str}{a:D}{U:ah}:J2 (some ([.v a],U)) xf 1=tX (xf [a]) U:=rfl
def cA {xf:A0 D->UO Str}{a b:D}{U:ah}:J2 (some ([.v a,.v b],U)) xf 2=tX (xf [a,b]) U:=rfl
noncomputable def Ch (i:Nat)(o:UO oP):UO oP:=o.bind (HG i)
def cu {i:Nat}{O:Lo}{U:ah}:Ch i (some (.nx O U))=some (.nx (O.set i none) U):=rfl
noncomputable def Ci (o:UO (Str×ah))(cs:To)(nb:FS)(i:Nat)(hb:FS)(O:Lo)(U:ah):UO oP:=match o with
 |some (c,U1)=>if cs.contains c=true then Ch i (hb (O.set i (some (.x c))) U1) else none
 |none=>nb O U
def bF {cs:To}{xb:XB}{nb:FS}{i:Nat}{hb:FS}{O:Lo}{U:ah}:CS cs xb nb i hb O U=Ci (xb O U) cs nb i hb O U:=rfl
def aZ {cs:To}{nb:FS}{i:Nat}{hb:FS}{O:Lo}{U:ah}:Ci none cs nb i hb O U=nb O U:=rfl
def JDe {cs:To}{nb:FS}{i:Nat}{hb:FS}{O:Lo}{U U1:ah}{c:Str}(h:cs.contains c=true):Ci (some (c,U1)) cs nb i hb O U=Ch i (hb (O.set i (some (.x c))) U1):=by exact A8 h
noncomputable def T2 (o:UO A9)(U:ah):UO (R×ah):=o.bind λb=>some (.v (.bl b),U)
def bG {tbl:Str->UO A9}{c:Str}{U:ah}:xk tbl (.x c) U=T2 (tbl c) U:=rfl
def bH {b:A9}{U:ah}:T2 (some b) U=some (.v (.bl b),U):=rfl
def mD {c:Str}{ok:Lo->A9}{O:Lo}{U:ah}(h:ok O=true):fN c ok O U=some (c,U):=by unfold fN;rw[A8 h]
def aI {c:Str}{O:Lo}{U:ah}:fN c (λ_=>true) O U=some (c,U):=rfl
def bI {c:Str}{U:ah}:((some (c,U):UO (Str×ah)).bind λr=>some r.1)=some c:=rfl
theorem aY:((none:UO (Str×ah)).bind λr=>some r.1)=none:=rfl
open L2
abbrev Tx (l:A0 Nat):Str:=⟨l.toArray⟩
def c7 {l:A0 Nat}:(Tx l).length=l.length:=by simp[Str.length]
def HH {l r:A0 Nat}:(Tx l == Tx r)=(l == r):=by rw[zcl,beq_iff_eq,beq_iff_eq];exact{λe=>by injection e with e;injection e,λe=>by rw[e]}
def ww (x:Str):x=Tx x.cps.toList:=by cases x;simp[Tx]
def B9:(Str.ofString "0123456789")=Tx [48,49,50,51,52,53,54,55,56,57]:=by decide
def u3:(Str.ofString "-")=Tx [45]:=by decide
def Np:(Str.ofString "0")=Tx [48]:=by decide
def JS:(Str.ofString "")=Tx []:=by decide
section
variable {O:Lo}{U:ah}{a b l:A0 Nat}{c:Nat}{i:Int}{x y:R}
def di:bu (.v (.str (Tx a))) (.v (.str (Tx b))) U=if a.length+b.length<=sizeLine then some (.v (.str (Tx (a++b))),U) else none:=by
 show(if (Tx a).length+(Tx b).length<=sizeLine then some (R.v (.str (Tx a++Tx b)),U) else none)=_
 rw[c7,c7];have:Tx a++Tx b=Tx (a++b):=by show Str.append _ _=_;simp[Str.append]
 rw[this]
def IJ (h:0<=i)(hl:l.length<2 ^ 63)(hc:l[i.toNat]?=some c):D5 (.v (.str (Tx l))) (.v (.int i)) U=some (.v (.str (Tx [c])),U):=by
 have hi:=(Bn.mp hc).1;have e:(Tx l).cps[i.toNat]?=some c:=by simpa using hc
 unfold D5;dsimp only;rw[A8 {h,by omega,by rw[c7];omega},e];rfl
def fY (h:l.length<=sizeLine):qo [.v (.str (Tx l))] U=some (.v (.int l.length),U):=by unfold qo;dsimp only;rw[c7,A8 h]
def gF:uH false (.v (.str (Tx [c]))) (.v (.str (Tx l))) U=some (.v (.bl (decide (c∈l))),U):=by unfold uH;have:=PySem.StrLaws.found_one (Tx l) c;rwa[DY,if_false];rw[show(Tx [c])=⟨#[c]⟩ from rfl,this]
def dW:uH true (.v (.str (Tx [c]))) (.v (.str (Tx l))) U=some (.v (.bl (!decide (c∈l))),U):=by unfold uH;have:=PySem.StrLaws.found_one (Tx l) c;rwa[if_true];rw[show(Tx [c])=⟨#[c]⟩ from rfl,this]
theorem gC:QA (.v (.str (Tx l))) (.v (.str (Tx [c]))) U=some (.v (.bl (l.head? == some c)),U):=by
 unfold QA;dsimp only;rw[c7,c7]
 cases l with
 |nil=>rfl
 |cons d r=>
  have:Builtin.Str.subAt (Tx (d::r)) (Tx [c]) 0=(d == c):=by
   unfold Builtin.Str.subAt;rw[c7];by_cases h:d=c
   ·subst h;simp
   ·simp[h]
  rw[this];simp
noncomputable def Nx (o:UO (R×ah)):UO (A0 D×ah):=o.bind λa=>match a.1 with|.v (.str x)=>some (uq x,a.2)|_=>none
def gE {f:FE}:sQ f O U=Nx (f O U):=rfl
def dX:Nx (some (.v (.str (Tx l)),U))=some (l.map (λc=>D.str (Tx [c])),U):=rfl
noncomputable def Io (o:UO (R×ah))(g g':R->R->ah->UO (R×ah))(fb fc:FE)(O:Lo):UO (R×ah):=o.bind λa=>(fb O a.2).bind λb=>(g a.1 b.1 b.2).bind λz=>match z.1 with
 |.v (.bl k)=>if k=true then (fc O z.2).bind λc=>g' b.1 c.1 c.2 else some (.v (.bl false),z.2)
 |_=>none
noncomputable def Im (x:R)(o:UO (R×ah))(g g':R->R->ah->UO (R×ah))(fc:FE)(O:Lo):UO (R×ah):=o.bind λb=>(g x b.1 b.2).bind λz=>match z.1 with
 |.v (.bl k)=>if k=true then (fc O z.2).bind λc=>g' b.1 c.1 c.2 else some (.v (.bl false),z.2)
 |_=>none
noncomputable def Il (y:R)(o:UO (R×ah))(g':R->R->ah->UO (R×ah))(fc:FE)(O:Lo):UO (R×ah):=o.bind λz=>match z.1 with
 |.v (.bl k)=>if k=true then (fc O z.2).bind λc=>g' y c.1 c.2 else some (.v (.bl false),z.2)
 |_=>none
noncomputable def Ik (y:R)(o:UO (R×ah))(g':R->R->ah->UO (R×ah)):UO (R×ah):=o.bind λc=>g' y c.1 c.2
def gG {g g' fa fb fc}:QO g g' fa fb fc O U=Io (fa O U) g g' fb fc O:=rfl
def d8 {g g' fb fc}:Io (some (x,U)) g g' fb fc O=Im x (fb O U) g g' fc O:=rfl
def d6 {g g' fc}:Im x (some (y,U)) g g' fc O=Il y (g x y U) g' fc O:=rfl
def dZ {g' fc}{b:A9}:Il y (some (.v (.bl b),U)) g' fc O=if b=true then Ik y (fc O U) g' else some (.v (.bl false),U):=rfl
def dY {g'}:Ik y (some (x,U)) g'=g' y x U:=rfl
noncomputable def HU (o:UO (R×ah))(fl fh:FO)(O:Lo):UO (R×ah):=o.bind λa=>(fl O a.2).bind λl=>(fh O l.2).bind λh=>yb a.1 l.1 h.1 h.2
noncomputable def HR (x:R)(o:UO (UO Int×ah))(fh:FO)(O:Lo):UO (R×ah):=o.bind λl=>(fh O l.2).bind λh=>yb x l.1 h.1 h.2
noncomputable def HQ (x:R)(l:UO Int)(o:UO (UO Int×ah)):UO (R×ah):=o.bind λh=>yb x l h.1 h.2
def gD {fa fl fh}:qz fa fl fh O U=HU (fa O U) fl fh O:=rfl
def dU {fl fh}:HU (some (x,U)) fl fh O=HR x (fl O U) fh O:=rfl
def dR {fh}{l:UO Int}:HR x (some (l,U)) fh O=HQ x l (fh O U):=rfl
def dQ {l h:UO Int}:HQ x l (some (h,U))=yb x l h U:=rfl
def JEq (l:A0 Nat)(n:Nat)(h:n<=l.length):Txt.slice (Tx l) (some (n:Int)) none=Tx (l.drop n):=by have:=PySem.StrLaws.sliceText_from (x:=Tx l) (i:=n) ‹h›;refine Eq.trans (show Txt.slice (Tx l) (some (n:Int)) none=PySem.StrLaws.sliceText (Tx l) (some (n:Int)) none from rfl) (this.trans ?_);rwa[Tx,EB];congr 2;exact zbh ∅
def N1 (l:A0 Nat)(n:Nat)(h:n<=l.length):Txt.slice (Tx l) none (some (n:Int))=Tx (l.take n):=by have:=PySem.StrLaws.sliceText_to (x:=Tx l) (j:=n) ‹h›;refine Eq.trans (show Txt.slice (Tx l) none (some (n:Int))=PySem.StrLaws.sliceText (Tx l) none (some (n:Int)) from rfl) (this.trans ?_);simp[Tx]
def zr {n:Nat}(h:n<=l.length)(hl:l.length<=sizeLine):yb (.v (.str (Tx l))) (some (n:Int)) none U=some (.v (.str (Tx (l.drop n))),U):=by unfold yb;dsimp only;rw[c7,A8 hl,JEq l n h]
def NY {n:Nat}(h:n<=l.length)(hl:l.length<=sizeLine):yb (.v (.str (Tx l))) none (some (n:Int)) U=some (.v (.str (Tx (l.take n))),U):=by unfold yb;dsimp only;rw[c7,A8 hl,N1 l n h]
def CI {n:Int}(hl:l.length<=640)(h:PySem.intText? (Tx l)=some n):vL [.v (.str (Tx l))] U=some (.v (.int n),U):=by unfold vL;dsimp only;rw[c7,A8 hl,h];rfl
def II {n:Nat}(h:∀c∈l,c<1114112):iK n (.str (Tx l))=true:=by cases n <;> (show PyData.strOk (Tx l)=true;unfold PyData.strOk;simpa using h)
def fZ:j2 (.str (Tx a)) (.str (Tx b))=(a == b):=HH
end
end HW
namespace LW
open HW
def sS (i:Int){j:Int}(h:0<j):0<=i%j/\i%j<j:={Int.emod_nonneg _ ∅,Int.emod_lt_of_pos _ h}
def Aw (ns:Tj)(k:Int)(h:ns≠[]):∃c,L2.n9 (ns.map D.int) (k%(ns.length:Int))=some (.int c):=by
 have hl:0<ns.length:=zbF.mpr h;let⟨h1,h2⟩:=sS k (j:=(ns.length:Int)) ∅;have h3:(k%(ns.length:Int)).toNat<ns.length:=by omega
 exact{ns[(k%(ns.length:Int)).toNat],qE h1 (by rw[DA,EF h3];rfl)}
def cP (ns:Tj)(k many:Int)(hm:0<many):∃d,aF [.fl (ns.map .int),.int k,.int many]=some (.int d)/\0<=d/\d<many:=by
 rw[xN];by_cases h:ns=[]
 ·subst h;exact{0,by push_cast [l0,Int.natCast_zero,zbq],by omega,hm}
 ·have hl:0<ns.length:=zbF.mpr h;have e0:((ns.length:Int) == 0)=false:=by simp;omega
  let⟨c,hc⟩:=Aw ns k h;have b1:=sS c (j:=1000000007) ∅;have b2:=sS ((c%1000000007+5)*(40692+977*k)) (j:=2147483629) ∅;push_cast [l0,e0,BI,nF (i:=k) (j:=(ns.length:Int)) ∅,hc,nF (i:=c) (j:=1000000007) ∅,lT (i:=977) (j:=k) ∅,lT (i:=c%1000000007+5) (j:=40692+977*k) ∅,nF (j:=2147483629) ∅,Ar (j:=(c%1000000007+5)*(40692+977*k)%2147483629+3) ∅,nF (j:=2147483647) ∅,En (j:=13) ∅ ∅,nF (j:=many) hm];exact{_,rfl,sS _ hm}
open L2 PyProof.Rows PySem.NumText PySem.W
noncomputable def dg (m:Nat):A0 Nat:=(Nat.toDigits 10 m).map Char.toNat
def Ev (m:Nat):PySem.NumText.AllDigits (dg m):=by intro c hc;let⟨ch,Dn,e⟩:=zbC.mp hc;rw[←e];exact PyProof.Rows.digit_range (Nat.isDigit_of_mem_toDigits ∅ ∅ Dn)
def MI {m k:Nat}(hk:1<=k)(h:m<10 ^ k):(dg m).length<=k:=by unfold dg;rw[BI];exact toDigits_len_pow ∅ hk h
def JEm (m:Nat):Str.ofString (toString (m:Int))=Tx (dg m):=by rw[ww (Str.ofString (toString (m:Int))),PySem.W.KIN.signs_num];rfl
def JEn (m:Nat):Str.ofString (toString (-((m+1:Nat):Int)))=Tx (45::dg (m+1)):=by
 rw[ww (Str.ofString _),PyProof.Rows.signs_ofString];have:(toString (-((m+1:Nat):Int))).toList = '-'::Nat.toDigits 10 (m+1):=by
  show(Int.repr (Int.negSucc m)).toList=_
  show("-"++Nat.repr (m+1)).toList=_
  rw[String.toList_append,Nat.toList_repr];rfl
 rw[this];rfl
noncomputable def tn (n:Int):A0 Nat:=if n<0 then 45::dg n.natAbs else dg n.natAbs
def rR (n:Int):Str.ofString (toString n)=Tx (tn n):=by
 unfold tn;by_cases h:n<0
 ·rw[A8 h];obtain⟨m,rfl⟩:∃m:Nat,n = -((m+1:Nat):Int):={n.natAbs-1,by omega};rw[JEn];have:(-((m+1:Nat):Int)).natAbs=m+1:=by omega
  rw[this]
 ·rw[AE h];obtain⟨m,rfl⟩:∃m:Nat,n=(m:Int):={n.natAbs,by omega};rw[JEm];rfl
def xS {n:Int}{k:Nat}(hk:1<=k)(h:n.natAbs<10 ^ k):(tn n).length<=k+1:=by unfold tn;have:=MI hk h;split <;> simp <;> omega
def JW (n:Int):∀c∈tn n,c<1114112:=by
 intro c hc;have:c=45\/c∈dg n.natAbs:=by
  unfold tn at hc;split at hc
  ·simpa using hc
  ·exact .inr hc
 rcases this with rfl|h
 ·decide
 ·have:=Ev _ c h;omega
def LH {l:A0 Nat}(h:∀c∈l,c<1114112):iK 60 (.str (Tx l))=true:=II h
abbrev fg:A0 Nat:=[48,49,50,51,52,53,54,55,56,57]
def zQ {c:Nat}:c∈fg ↔ 48<=c/\c<=57:=by rwa[fg,BJ,Ez,or_false];omega
def P (s:Str)(k:Nat):Prop:=s.length<=k/\∀c∈s.cps.toList,c<1114112
noncomputable def fig (l:A0 Nat):A0 Nat:=if (l.head? == some 45)=true then l.drop 1 else l
def G2 (l:A0 Nat):(fig l).length<=l.length:=by unfold fig;split <;> simp
def G1 {l:A0 Nat}{c:Nat}(h:c∈fig l):c∈l:=by
 unfold fig at h;split at h
 ·exact zbY h
 ·exact h
noncomputable def dO (l:A0 Nat):A9:=decide (1<=(l.length:Int))&&(decide ((l.length:Int)<=60)&&(l.all λc=>decide (c∈fg)))
def GC (l:A0 Nat)(h1:l.length<4000):b3 [.str (Tx l),.str "0123456789",.int 60]=some (.bl (dO l)):=by
 rw[pE];have hz:l.length<=sizeLine:=bK h1;have hm:(l.map λc=>D.str (Tx [c])).length<=sizeLine:=by rw[BI];exact hz
 have hc:=g4 (f:=ax (uH false) (af 0) (af 1)) (U:=[]) (rest:=[some (.v (.str "0123456789"))]) (λc=>D.str (Tx [c])) (λc=>D.bl (decide (c∈fg))) l none
  (λc _=>by push_cast [B9,gE,dX,gG,d8,d6,dZ,dY,gD,dU,dR,dQ,di,gF,dW,gC,fZ])
 have hb:lX (l.map λc=>D.bl (decide (c∈fg)))=some (l.map λc=>decide (c∈fg)):=by
  have:=uQ (l.map λc=>decide (c∈fg))
  (rw[E9] at this;assumption)
 have ha:(l.map λc=>decide (c∈fg)).all id=l.all λc=>decide (c∈fg):=by rw[List.all_map];rfl
 unfold dO;by_cases a1:(1:Int)<=(l.length:Int)
 ·by_cases a2:(l.length:Int)<=60
  ·push_cast [eo,gE,dX,gG,d8,d6,dZ,dY,gD,dU,dR,dQ,di,gF,dW,gC,fZ,fY hz,a1,a2,decide_true,A8 hm,hc,hb,ha,zb7]
  ·push_cast [eo,gE,dX,gG,d8,d6,dZ,dY,gD,dU,dR,dQ,di,gF,dW,gC,fZ,fY hz,a1,a2,decide_true,decide_false,zbm,Bool.and_false]
 ·push_cast [eo,gE,dX,gG,d8,d6,dZ,dY,gD,dU,dR,dQ,di,gF,dW,gC,fZ,fY hz,a1,decide_false,zbm]
def hJ {l:A0 Nat}(h:dO l=true):1<=l.length/\l.length<=60/\AllDigits l:=by unfold dO at h;rwa[DX,decide_eq_true_eq,F0] at h;exact{by omega,by omega,λc hc=>zQ.mp (h.2.2 c hc)}
def JCj {l:A0 Nat}(h:dO l=false):(l.length:Int)<1\/60<(l.length:Int)\/(l.filter λc=>!decide (c∈fg))≠[]:=by
 by_cases a1:(l.length:Int)<1
 ·exact .inl a1
 by_cases a2:60<(l.length:Int)
 ·exact .inr (.inl a2)
 refine .inr (.inr λe=>?_);have:dO l=true:=by
  unfold dO;rwa[DX,decide_eq_true_eq,F0];refine{by omega,by omega,λc hc=>?_};rw[zby] at e;have:=e c hc
  cases hd:decide (c∈fg) with
  |true=>exact of_decide_eq_true hd
  |false=>rw[hd] at this;exact AH rfl this
 rw[this] at h;cases h
def JBv {l:A0 Nat}(h:dO l=true):(l.filter λc=>!decide (c∈fg))=[]:=by rw[zby];intro c hc;have:=(hJ h).2.2 c hc;simp[zQ.mpr this]
noncomputable def zz (l:A0 Nat):A9:=((fig l).take 1 == [48])&&!(l == [48])
def Mc {l:A0 Nat}(h:dO (fig l)=true):∃n,PySem.intText? (Tx l)=some n:=by
 let⟨h1,h2,h3⟩:=hJ h;have CZ:fig l≠[]:=λe=>by rw[e] at h1;simp at h1
 have hll:l.length<=61:=by
  have:l.length<=(fig l).length+1:=by unfold fig;split <;> simp <;> omega
  omega
 unfold fig at h3 CZ;split at h3
 ·rename_i q;rw[A8 q] at CZ
  cases l with
  |nil=>simp at q
  |cons c r=>
   have hc:c=45:=‹q›;subst hc;exact{_,intText_neg (x:=Tx (45::r)) (cs:=r) rfl ‹h3› ‹CZ› (by rw[c7];omega)}
 ·rename_i q;rw[AE q] at CZ;exact{_,intText_digits (x:=Tx l) h3 CZ (by rw[c7];omega)}
def UG (l:A0 Nat):cL [.str (Tx l)]=some .non:=by rw[u2];have:gi "str" (.v (.str (Tx l))) []=some (.v (.bl true),[]):=rfl;push_cast [l4,this]
def Nb (l:A0 Nat):cW [.str (Tx l)]=none:=by rw[tu];have:gi "str" (.v (.str (Tx l))) []=some (.v (.bl true),[]):=rfl;push_cast [ly,aW,aO,aR,bN,bA,bt,ci,bC,bB,cp,cz,cy,be,cB,cA,cu,bF,aZ,bG,bH,aI,bI,aY,this]
structure d9 (l:List Nat):Prop where
 len:l.length<=3999
 sig:∀c∈l,c<1114112
def vE {l:A0 Nat}(h:dO (fig l)=true):l.length<=640:=by
 have h1:=(hJ h).2.1;have:l.length<=(fig l).length+1:=by
  unfold fig;split
  ·rw[zbO];omega
  ·omega
 omega
theorem NL (l:A0 Nat):(l.take 1 == [45])=(l.head? == some 45):=by
 cases l with
 |nil=>rfl
 |cons c r=>simp
theorem DJ {l:A0 Nat}(h:(l.head? == some 45)=false):fig l=l:=by unfold fig;rw[h];rfl
def B1 {l:A0 Nat}(h:(l.head? == some 45)=true):fig l=l.drop 1:=by unfold fig;rw[h];rfl
theorem DP {l:A0 Nat}(h:(l.head? == some 45)=true):1<=l.length:=by
 cases l with
 |nil=>simp at h
 |cons c r=>simp
def d9.fig {l:A0 Nat}(g:d9 l):d9 (fig l):={Br (G2 l) g.len,λc hc=>g.sig c (G1 hc)}
def d9.take {l:A0 Nat}(g:d9 l)(n:Nat):d9 (l.take n):={by have:=g.len;simp;omega,λc hc=>g.sig c (zbE hc)}
def d9.ok {l:A0 Nat}(g:d9 l)(n:Nat):iK n (.str (Tx l))=true:=II g.sig
def d9.sz {l:A0 Nat}(g:d9 l):l.length<=sizeLine:=bK (by have:=g.len;omega)
def g1 {c:Nat}(h:c<1114112):d9 [c]:={by simp,by intro d hd;simp at hd;omega}
def JA {l:A0 Nat}(g:d9 l)(a:Str)(ha:a.length<=1000)(x:UO R):qi a 0 [some (.v (.str (Tx l))),x]=true:=by
 unfold qi;rwa[zbL];refine Bq ?_;have h:=PySem.StrLaws.reprText_len (Tx l) (λc hc=>Dl (g.sig c ‹hc›) ∅);have h':(reprText (Tx l)).length<=10*l.length+2:=by have q:=h;rw[c7] at q;exact q
 have:=g.len;exact Br (show _<=50000 by omega) ∅
theorem Ae {l:A0 Nat}(h:1<=l.length):∃c r,l=c::r:=by
 cases l with
 |nil=>simp at h
 |cons c r=>exact{c,r,rfl}
def RY {o:UO (Str×ah)}{c:Str}{U:ah}(h:o=some (c,U)):(o.bind λr=>some r.1)=some c:=by rw[h];rfl
theorem NZ {l:A0 Nat}(g:d9 l)(U:ah):Am (gQ (M6 (af 0) (fK (.str "-")))) (qz (af 0) (eX (fK (.int 1))) f9) (af 0) [some (.v (.str (Tx l))),none] U=some (.v (.str (Tx (fig l))),U):=by
 cases h:l.head? == some 45 with
 |true=>
  have e:∀U,yb (.v (.str (Tx l))) (some (1:Int)) none U=some (.v (.str (Tx (l.drop 1))),U):=λU=>zr (U:=U) (l:=l) (n:=1) (DP h) g.sz;push_cast [gE,dX,gG,d8,d6,dZ,dY,gD,dU,dR,dQ,di,gF,dW,gC,fZ,u3,h,e,B1 h]
 |false=>push_cast [gE,dX,gG,d8,d6,dZ,dY,gD,dU,dR,dQ,di,gF,dW,gC,fZ,u3,h,DJ h]
theorem Fc {l:A0 Nat}(g:d9 l)(c:Nat)(r:A0 Nat)(hf:fig l=c::r)(U:ah):jO (fB (ax (gm false) (ax D5 (af 1) (fK (.int 0))) (fK (.str "0")))) (fB (ax (gm true) (af 0) (fK (.str "0")))) [some (.v (.str (Tx l))),some (.v (.str (Tx (fig l))))] U=some (zz l,U):=by
 have gf:=g.fig;have hc:c<1114112:=gf.sig c (by rw[hf];simp);have k1:=(g1 hc).ok 60;have k0:=(g1 (c:=48) ∅).ok 60;have kl:=g.ok 60;have BQ:=λU=>IJ (U:=U) (i:=0) (l:=fig l) (c:=c) ∅ (by have:=gf.len;omega) (by rw[hf];rfl);have hz:zz l=(([c] == [48])&&!(l == [48])):=by unfold zz;rw[hf];rfl
 rw[hz]
 cases h1 : [c] == [48] with
 |true=>push_cast [gE,dX,gG,d8,d6,dZ,dY,gD,dU,dR,dQ,di,gF,dW,gC,fZ,Np,BQ,k1,k0,kl,h1,zb7]
 |false=>push_cast [gE,dX,gG,d8,d6,dZ,dY,gD,dU,dR,dQ,di,gF,dW,gC,fZ,Np,BQ,k1,k0,h1,zbm]
def JV {l:A0 Nat}(g:d9 l)(x:UO R)(U:ah):iu (gQ (aP b3 3 (ac (br (af 1)) (ac (br (fK (.str "0123456789"))) (ac (br (fK (.int (60)))) ai))))) [some (.v (.str (Tx l))),some (.v (.str (Tx (fig l))))] U=some (!dO (fig l),U):=by have h:=GC (fig l) (by have:=g.fig.len;omega);cases hn:dO (fig l) <;> push_cast [h,hn]
def hA (l:A0 Nat):ma cW 1 (ac (br (af 0)) ai) [some (.v (.str (Tx l))),none] []=none:=by push_cast [aW,aO,aR,bN,bA,bt,ci,bC,bB,cp,cz,cy,be,cB,cA,cu,bF,aZ,bG,bH,aI,bI,aY,Nb]
def hB (l:A0 Nat):iJ (aP cL 1 (ac (br (af 0)) ai)) [some (.v (.str (Tx l))),none] []=some (.nx [some (.v (.str (Tx l))),none] []):=by push_cast [UG]
theorem hC {l:A0 Nat}(g:d9 l):bD 1 (Am (gQ (M6 (af 0) (fK (.str "-")))) (qz (af 0) (eX (fK (.int 1))) f9) (af 0)) [some (.v (.str (Tx l))),none] []=some (.nx [some (.v (.str (Tx l))),some (.v (.str (Tx (fig l))))] []):=by rw[MA,NZ g,G5];rfl
theorem Nd {l:A0 Nat}(g:d9 l)(h:dO (fig l)=false\/zz l=true):cb [.str (Tx l)]=some (Str.ofString "NoText"):=by
 rw[mI];refine RY (U:=[]) ?_;have t1:=JV g none []
 cases hn:dO (fig l) with
 |false=>
  rw[hn] at t1;rwa[gM,bN,hA,bt,aW,hB,aO,hC g,ci,t1,EH,bC,mD (JA g "no number: " ∅ _),bA]
 |true=>
  have hz:zz l=true:=by rcases h with h|h;rw[hn] at h;cases h;exact h
  obtain⟨c,r,hf⟩:=Ae (hJ hn).1;have t2:=Fc g c r hf [];rw[hn] at t1;rw[hz] at t2;rwa[gM,bN,hA,bt,aW,hB,aO,hC g,ci,t1,DS,bB,cp,cF,eW,lS,t2,bC,mD (JA g "a number with a 0 ahead, or below 0 without being so: " ∅ _)]
def JI {l:A0 Nat}(g:d9 l)(h1:dO (fig l)=true)(h2:zz l=false):cb [.str (Tx l)]=none:=by rw[mI];have t1:=JV g none [];let⟨c,r,hf⟩:=Ae (hJ h1).1;have t2:=Fc g c r hf [];rw[h1] at t1;rw[h2] at t2;rwa[gM,bN,hA,bt,aW,hB,aO,hC g,ci,t1,DS,bB,cp,cF,eW,lS,t2,aY]
def LR {l:A0 Nat}(g:d9 l)(h1:dO (fig l)=true)(h2:zz l=false){n:Int}(hi:PySem.intText? (Tx l)=some n):cD [.str (Tx l)]=some (.int n):=by
 rw[tw];have t1:=JV g none [];let⟨c,r,hf⟩:=Ae (hJ h1).1;have t2:=Fc g c r hf [];rw[h1] at t1;rw[h2] at t2;have hr:bv (fF vL (ac (af 0) ai)) [some (.v (.str (Tx l))),some (.v (.str (Tx (fig l))))] []=some (.rt (.v (.int n)) []):=by push_cast [CI (vE h1) hi]
 rwa[kQ,gk,gA,hB,hC g,t1,DS,cF,eW,lS,t2,hr,vS]
theorem flt (l:A0 Nat)(x0:UO R)(U:ah):ic (gY 0) (fB (ax (uH true) (af 0) (fK (.str "0123456789")))) (af 0) (l.map λc=>D.str (Tx [c])) [x0] U=some ((l.filter λc=>!decide (c∈fg)).map (λc=>D.str (Tx [c])),U):=by
 induction l generalizing x0 with
 |nil=>rfl
 |cons c r ih=>
  have h1:fB (ax (uH true) (af 0) (fK (.str "0123456789"))) [some (.v (.str (Tx [c])))] U=some (!decide (c∈fg),U):=by push_cast [B9,gE,dX,gG,d8,d6,dZ,dY,gD,dU,dR,dQ,di,gF,dW,gC,fZ]
  have h2:af 0 [some (.v (.str (Tx [c])))] U=some (.v (.str (Tx [c])),U):=rfl
  cases hd:decide (c∈fg) with
  |true=>
   rw[hd] at h1;rwa[BA,ic,gY,zbw,AZ,h1,DS,DY,if_false,ih,zbQ,hd]
  |false=>
   rw[hd] at h1;rwa[BA,ic,gY,zbw,AZ,h1,h2,EH,if_true,ih,zbQ,hd]
theorem T8 {l:A0 Nat}(h:∀c∈l,c<1114112):okDs 59 (l.map λc=>D.str (Tx [c]))=true:=by
 induction l with
 |nil=>rfl
 |cons c r ih=>
  have hc:c<1114112:=h c ∅;rwa[BA,okDs,(g1 hc).ok,ih (λd hd=>h d (by simp[hd])),zbN]
theorem r1 {l:A0 Nat}(g:d9 l):fB (ax (gm false) (qz (af 0) f9 (eX (fK (.int 1)))) (fK (.str "-"))) [some (.v (.str (Tx l))),some (.v (.str (Tx l)))] []=some (l.head? == some 45,[]):=by
 have k0:=(g1 (c:=45) ∅).ok 60
 cases l with
 |nil=>
  have e:∀U:ah,yb (.v (.str (Tx []))) none (some (1:Int)) U=some (.v (.str (Tx [])),U):=λU=>rfl;have kn:=g.ok 60;push_cast [gE,dX,gG,d8,d6,dZ,dY,gD,dU,dR,dQ,di,gF,dW,gC,fZ,e,u3,kn,k0];rfl
 |cons c r=>
  have e:∀U:ah,yb (.v (.str (Tx (c::r)))) none (some (1:Int)) U=some (.v (.str (Tx ((c::r).take 1))),U):=λU=>NY (U:=U) (l:=c::r) (n:=1) ∅ g.sz;have kn:=(g.take 1).ok 60;push_cast [gE,dX,gG,d8,d6,dZ,dY,gD,dU,dR,dQ,di,gF,dW,gC,fZ,e,u3,kn,k0,NL]
def DM {d:D}{xs:A0 D}:eqDs (d::xs) []=false:=rfl
def OX {n:Nat}{xs:A0 D}(h:okDs n xs=true):iK (n+1) (.fl xs)=true:=h
def OY:iK 60 (.fl [])=true:=rfl
def MG {xs ys:A0 D}:j2 (.fl xs) (.fl ys)=eqDs xs ys:=rfl
theorem r2 {l:A0 Nat}(g:d9 l)(x:R):∃U,kE (fB (ax Bh (fF qo (ac (af 1) ai)) (fK (.int 1)))) (kE (fB (ax wf (fF qo (ac (af 1) ai)) (fK (.int 60)))) (fB (ax (gm true) (hZ [] 1 (sQ (af 1)) (gY 0) (fB (ax (uH true) (af 0) (fK (.str "0123456789")))) (af 0)) (eG ai)))) [some x,some (.v (.str (Tx l)))] []=some (!dO l,U):=by
 have hz:=g.sz;have hm:(l.map λc=>D.str (Tx [c])).length<=sizeLine:=by rw[BI];exact hz
 have hk:okDs 59 ((l.filter λc=>!decide (c∈fg)).map λc=>D.str (Tx [c]))=true:=T8 λc hc=>g.sig c ((zbU.mp hc).1);have FZ:=OX hk;by_cases a1:(l.length:Int)<1
 ·have:dO l=false:=by unfold dO;simp;omega
  rw[this];exact{[],by push_cast [fY hz,a1,decide_true,EH]}
 by_cases a2:60<(l.length:Int)
 ·have:dO l=false:=by unfold dO;simp;omega
  rw[this];exact{[],by push_cast [fY hz,a1,a2,decide_true,decide_false,EH]}
 have hf:=λx0=>flt l x0 []
 cases hn:dO l with
 |true=>
  have e:=JBv hn;refine{[.lst [],.lst []],?_};rw[e] at hf;push_cast [gE,dX,gG,d8,d6,dZ,dY,gD,dU,dR,dQ,di,gF,dW,gC,fZ,fY hz,a1,a2,decide_false,A8 hm,hf,OY,MG];rfl
 |false=>
  let⟨c,r,e⟩:=List.exists_cons_of_ne_nil ((JCj hn).resolve_left a1 |>.resolve_left a2);rw[e] at hf FZ;refine{[.lst ((c::r).map λc=>D.str (Tx [c])),.lst []],?_};rw[BA] at hf FZ ⊢;push_cast [gE,dX,gG,d8,d6,dZ,dY,gD,dU,dR,dQ,di,gF,dW,gC,fZ,fY hz,a1,a2,decide_false,A8 hm,hf,OY,FZ,MG,DM,EH]
theorem r0 {l:A0 Nat}(g:d9 l):aM (bD 1 (af 0)) (fA (fB (ax (gm false) (qz (af 0) f9 (eX (fK (.int 1)))) (fK (.str "-")))) (bD 1 (qz (af 0) (eX (fK (.int 1))) f9)) bo) [some (.v (.str (Tx l))),none] []=some (.nx [some (.v (.str (Tx l))),some (.v (.str (Tx (fig l))))] []):=by
 have h1:bD 1 (af 0) [some (.v (.str (Tx l))),none] []=some (.nx [some (.v (.str (Tx l))),some (.v (.str (Tx l)))] []):=rfl;have h:=r1 g
 cases hd:l.head? == some 45 with
 |true=>
  rw[hd] at h;have e:∀U,yb (.v (.str (Tx l))) (some (1:Int)) none U=some (.v (.str (Tx (l.drop 1))),U):=λU=>zr (U:=U) (l:=l) (n:=1) (DP hd) g.sz;have h2:bD 1 (qz (af 0) (eX (fK (.int 1))) f9) [some (.v (.str (Tx l))),some (.v (.str (Tx l)))] []=some (.nx [some (.v (.str (Tx l))),some (.v (.str (Tx (fig l))))] []):=by push_cast [gE,dX,gG,d8,d6,dZ,dY,gD,dU,dR,dQ,di,gF,dW,gC,fZ,e,B1 hd]
  rwa[gk,gA,h1,cF,h,kO,h2]
 |false=>
  rw[hd] at h;rwa[gk,gA,h1,cF,h,eW,lS,DJ hd]
theorem N3 {a b c:FS}{O O':Lo}{U U':ah}(h:aM a b O U=some (.nx O' U')):aM a (aM b c) O U=c O' U':=by
 rwa[gk] at h ⊢
 cases ha:a O U with
 |none=>rw[ha] at h;cases h
 |some o=>
  rw[ha] at h
  cases o with
  |nx O1 U1=>
   rwa[gA,gk] at h ⊢;rw[h,gA]
  |ct O1 U1=>cases h
  |bk O1 U1=>cases h
  |rt d U1=>cases h
def HI {l:A0 Nat}(g:d9 l)(h:dO (fig l)=true)(U:ah):jO (fB (ax (gm false) (ax D5 (af 1) (fK (.int 0))) (fK (.str "0")))) (fB (ax (gm true) (af 0) (fK (.str "0")))) [some (.v (.str (Tx l))),some (.v (.str (Tx (fig l))))] U=some (zz l,U):=by obtain⟨c,r,hf⟩:=Ae (hJ h).1;exact Fc g c r hf U
theorem JCc {l:A0 Nat}(g:d9 l)(h:dO (fig l)=false\/zz l=true):dj [.str (Tx l)]=some .non:=by
 rw[rO];let⟨U,t1⟩:=r2 g.fig (.v (.str (Tx l)));unfold lY;rw[N3 (r0 g)]
 cases hn:dO (fig l) with
 |false=>
  rw[hn] at t1;have hr:∀O U,bv (fK .non) O U=some (.rt (.v .non) U):=λ_ _=>rfl;rwa[gk,cF,t1,EH,kO,hr,Aq,Ap,Ao,vS]
 |true=>
  have hz:zz l=true:=by rcases h with h|h;rw[hn] at h;cases h;exact h
  rw[hn] at t1;have t2:=HI g hn U;rw[hz] at t2;have hr:∀O U,bv (fK .non) O U=some (.rt (.v .non) U):=λ_ _=>rfl;rwa[gk,cF,t1,DS,eW,lS,gA,t2,kO,hr,Aq,Ap,Ao,vS]
def JAt {l:A0 Nat}(g:d9 l)(h1:dO (fig l)=true)(h2:zz l=false){n:Int}(hi:PySem.intText? (Tx l)=some n):dj [.str (Tx l)]=some (.int n):=by
 rw[rO];let⟨U,t1⟩:=r2 g.fig (.v (.str (Tx l)));unfold lY;rw[N3 (r0 g)];rw[h1] at t1;have t2:=HI g h1 U;rw[h2] at t2;have hr:bv (fF vL (ac (af 0) ai)) [some (.v (.str (Tx l))),some (.v (.str (Tx (fig l))))] U=some (.rt (.v (.int n)) U):=by push_cast [CI (vE h1) hi]
 rwa[gk,cF,t1,DS,eW,lS,gA,t2,hr,vS]
theorem Ex {c:Nat}:∀{a b u v:A0 Nat},c∉a->c∉b->a++c::u=b++c::v->a=b/\u=v
 |[],[],u,v,_,_,h=>by injection h with _ h;exact{rfl,h}
 |[],y::b,u,v,_,hb,h=>by injection h with h _;exact AH (by rw[h];simp) hb
 |x::a,[],u,v,ha,_,h=>by injection h with h _;exact AH (by rw[h];simp) ha
 |x::a,y::b,u,v,ha,hb,h=>by
  injection h with h1 h2
  let⟨e1,e2⟩:=Ex (λq=>ha (by simp[q])) (λq=>hb (by simp[q])) h2;exact{by rw[h1,e1],e2}
theorem uD (c:Nat):∀{A B:To},A≠[]->B≠[]->(∀p∈A,c∉p.cps.toList)->(∀p∈B,c∉p.cps.toList)->Str.join ⟨#[c]⟩ A=Str.join ⟨#[c]⟩ B->A=B
 |[],_,h,_,_,_,_=>AH rfl h
 |_,[],_,h,_,_,_=>AH rfl h
 |[a],[b],_,_,_,_,h=>by have:a=b:=h;rw[this]
 |[a],b::b'::r,_,_,ha,hb,h=>by
  have e:a=b++⟨#[c]⟩++Str.join ⟨#[c]⟩ (b'::r):=h;refine AH ?_ (ha a ∅);rw[e]
  show c∈((b.cps++#[c])++(Str.join ⟨#[c]⟩ (b'::r)).cps).toList
  simp
 |a::a'::q,[b],_,_,ha,hb,h=>by
  have e:a++⟨#[c]⟩++Str.join ⟨#[c]⟩ (a'::q)=b:=h;refine AH ?_ (hb b ∅);rw[←e]
  show c∈((a.cps++#[c])++(Str.join ⟨#[c]⟩ (a'::q)).cps).toList
  simp
 |a::a'::q,b::b'::r,_,_,ha,hb,h=>by
  have e:a++⟨#[c]⟩++Str.join ⟨#[c]⟩ (a'::q)=b++⟨#[c]⟩++Str.join ⟨#[c]⟩ (b'::r):=h;have e1:a.cps.toList++c::(Str.join ⟨#[c]⟩ (a'::q)).cps.toList=b.cps.toList++c::(Str.join ⟨#[c]⟩ (b'::r)).cps.toList:=by
   have:=AQ (λs:Str=>s.cps.toList) e;rwa[Str.cps_append,Array.toList_append] at this
   simpa using this
  let⟨h1,h2⟩:=Ex (ha a ∅) (hb b ∅) e1;have h1':a=b:=Str.ext' (zbR.mp h1);have h2':Str.join ⟨#[c]⟩ (a'::q)=Str.join ⟨#[c]⟩ (b'::r):=Str.ext' (zbR.mp h2);rw[h1',uD c ∅ ∅ (λp hp=>ha p (Bk _ hp)) (λp hp=>hb p (Bk _ hp)) h2']
def JB6 (x y:Str):Txt.split x y≠[]:=by
 unfold Txt.split;split
 ·simp
 ·split
  ·simp
  ·unfold Builtin.Str.partsBetween
   cases Builtin.Str.occurrences x y 0 x.length (x.length+1) <;> simp
def xX (c:Nat)(ws:To)(h0:ws≠[])(hf:∀p∈ws,c∉p.cps.toList):Txt.split (Txt.join ⟨#[c]⟩ ws) ⟨#[c]⟩=ws:=by refine uD c (JB6 _ _) h0 (PySem.StrLaws.split_free _ c) hf ?_;rw[PySem.StrLaws.join_split];exact PySem.StrLaws.glued_eq_join _ _
def B8:(Str.ofString " ")=⟨#[32]⟩:=by decide
def My (ns:Tj)(k:Int):∃d,lm [.fl (ns.map .int),.int k]=some (.int d)/\0<=d/\d<10 ^ 50:=by
 rw[JAl];by_cases h:ns=[]
 ·subst h;exact{0,by push_cast [n6,Int.natCast_zero,zbq],by omega,by decide}
 ·have hl:0<ns.length:=zbF.mpr h;have e0:((ns.length:Int) == 0)=false:=by simp;omega
  let⟨c,hc⟩:=Aw ns k h;let⟨a,ea,ba⟩:=cP ns k 100000000 ∅;obtain⟨T,hT⟩:∃T:Int,T=10 ^ 50:={_,rfl};have T0:0<T:=by rw[hT];decide
  have p1:∀U:ah,qh (.v (.int 10)) (.v (.int 50)) U=some (.v (.int T),U):=λU=>by rw[hT];exact vQ ∅
  rw[←hT];push_cast [n6,e0,BI,ea,nF (i:=k) (j:=(ns.length:Int)) ∅,hc,p1,nF (i:=c) T0,Ar (i:=c%T) (j:=a+1) ∅,vQ (i:=a+1) (j:=5) ∅,nF (j:=T) T0];exact{_,rfl,sS _ T0}
abbrev az:A0 Nat:=[97,98,99,100,101,102,103,104,105,106,107,108,109,110,111,112,113,114,115,116,117,118,119,120,121,122]
def Ca:(Str.ofString "abcdefghijklmnopqrstuvwxyz")=Tx az:=by decide
def Qi:∀m:Nat,m<26->∃c,c∈az/\az[m]?=some c:=by decide
def S7:∀c∈az,97<=c/\c<=122:=by decide
def JCs (ns:Tj)(k:Int):∃l:A0 Nat,gh [.fl (ns.map .int),.int k]=some (.str (Tx l))/\1<=l.length/\l.length<=8/\∀c∈l,c∈az:=by
 rw[xM];let⟨d,ed,bd⟩:=cP ns k 8 ∅;obtain⟨n,hn⟩:∃n:Nat,1+d=(n:Int):={(1+d).toNat,by omega};have h62 : -(2 ^ 62:Int)<=(n:Int)/\(n:Int)<2 ^ 62:=by omega
 let⟨O',U',e,l,x3,rfl,rfl,hl,ha⟩:=lL (g:=gY 3) (b:=lO) (O:=[some (.v (.fl (ns.map .int))),de k,some (.v (.str (Tx []))),none]) (U:=[]) n
  (λi O U=>∃l x3,O=[some (.v (.fl (ns.map .int))),de k,some (.v (.str (Tx l))),x3]/\U=[]/\l.length=i/\∀c∈l,c∈az)
  {[],none,rfl,rfl,rfl,by simp} (by rintro i hi O U ⟨l,x3,rfl,rfl,hl,ha⟩;let⟨a,ea,ba⟩:=cP ns (k+1+i) 26 ∅;obtain⟨m,rfl⟩:∃m:Nat,a=(m:Int):={a.toNat,by omega};let⟨c,hc,ec⟩:=Qi m ∅;have hz:l.length+1<=sizeLine:=bK ∅;have BQ:=λU=>IJ (U:=U) (i:=(m:Int)) (l:=az) (c:=c) ∅ ∅ (by rw[EB];exact ec);push_cast [lO,ea,Ca,BQ,gE,dX,gG,d8,d6,dZ,dY,gD,dU,dR,dQ,di,gF,dW,gC,fZ,A8 hz];exact{_,_,rfl,l++[c],_,rfl,rfl,by simp;omega,by intro x hx;rcases C2.mp hx with h|h;exact ha x h;simp at h;rw[h];exact hc})
 refine{l,?_,by omega,by omega,ha};rw[←JS] at e;push_cast [pi,ed,hn,kM h62,EB,e]
noncomputable def eD:UO Int->D
 |none=>.non
 |some n=>.int n
def Sm (n:Int):Prop:=n.natAbs<10 ^ 60
def UX {T:Int}(hT:T=10 ^ 60)(U:ah):qh (.v (.int 10)) (.v (.int 60)) U=some (.v (.int T),U):=by rw[hT];exact vQ ∅
def N0 {n:Int}(h : -(10 ^ 60:Int)<n/\n<10 ^ 60):Sm n:=by
 unfold Sm;have:((10 ^ 60:Nat):Int)=10 ^ 60:=by decide
 omega
def sB (ns:Tj)(k:Int):∃n,gx [.fl (ns.map .int),.int k]=some (.int n)/\Sm n:=by
 rw[uZ];let⟨w,ew,bw⟩:=cP ns k 5 ∅;let⟨a,ea,ba⟩:=cP ns (k+1) 25 ∅;let⟨b,eb,bb⟩:=cP ns (k+1) 3 ∅;let⟨f,ef,bf⟩:=My ns (k+1);obtain⟨T,hT⟩:∃T:Int,T=10 ^ 60:={_,rfl};obtain⟨Uzz,hU⟩:∃Uzz:Int,Uzz=10 ^ 49:={_,rfl};have q60:=UX hT;have q49:∀U:ah,qh (.v (.int 10)) (.v (.int 49)) U=some (.v (.int Uzz),U):=λU=>by rw[hU];exact vQ ∅
 have hs:∀n:Int,-T<n/\n<T->Sm n:=λn h=>N0 (by rw[←hT];exact h);have T1:1000<T:=by rw[hT];decide
 have TU:10*Uzz<T/\0<Uzz:=by rw[hT,hU];decide
 have bf0:(10:Int)*Uzz=10 ^ 50:=by rw[hU];decide
 have bf':f<10*Uzz:=by rw[bf0];exact bf.2
 by_cases h1:w<2
 ·push_cast [gB,ew,ea,h1,decide_true];exact{_,rfl,hs _ ∅}
 by_cases h2:w=2
 ·subst h2;push_cast [gB,ew,eb,h1,decide_false,zbq,q60];exact{_,rfl,hs _ ∅}
 by_cases h3:w=3
 ·subst h3;push_cast [gB,ew,eb,h1,decide_false,zbq,q60,show((3:Int) == 2)=false from rfl];exact{_,rfl,hs _ ∅}
 ·have e2:(w == 2)=false:=by simp[h2]
  have e3:(w == 3)=false:=by simp[h3]
  push_cast [gB,ew,ef,h1,decide_false,e2,e3,q49,lT (i:=5) (j:=Uzz) ∅];exact{_,rfl,hs _ ∅}
abbrev sT (w:A0 Nat):D:=.str (Tx w)
noncomputable def sp:A0 Nat->A0 (A0 Nat)
 |[]=>[[]]
 |c::t=>if c=32 then []::sp t else match sp t with
  |[]=>[[c]]
  |w::ws=>(c::w)::ws
noncomputable def jn:A0 (A0 Nat)->A0 Nat
 |[]=>[]
 |[a]=>a
 |a::b::t=>a++32::jn (b::t)
theorem rS:∀l,sp l≠[]
 |[]=>by simp[sp]
 |c::t=>by
  unfold sp;split
  ·simp
  ·split <;> simp
theorem D0:∀l,jn (sp l)=l
 |[]=>rfl
 |c::t=>by
  have ih:=D0 t;have hn:=rS t;unfold sp
  cases h:sp t with
  |nil=>exact AH h hn
  |cons w ws=>
   rw[h] at ih;split
   ·rename_i hc;subst hc;simp[jn,ih]
   ·cases ws with
    |nil=>rwa[jn] at ih ⊢;rw[ih]
    |cons b u=>rwa[jn] at ih ⊢;rw[zcf,ih]
theorem zv:∀(l:A0 Nat),∀w∈sp l,32∉w
 |[],w,h=>by simp[sp] at h;subst h;simp
 |c::t,w,h=>by
  have ih:=zv t;unfold sp at h
  cases q:sp t with
  |nil=>exact AH q (rS t)
  |cons v ws=>
   rw[q] at ih h;split at h
   ·rcases BJ.mp h with rfl|h
    ·simp
    ·exact ih w h
   ·rename_i hc;rcases BJ.mp h with rfl|h
    ·intro z;rcases BJ.mp z with z|z
     ·exact hc z.symm
     ·exact ih v ∅ z
    ·exact ih w (by simp[h])
theorem xZ:∀(l:A0 Nat),∀w∈sp l,∀c∈w,c∈l
 |[],w,h=>by simp[sp] at h;subst h;simp
 |a::t,w,h=>by
  have ih:=xZ t;unfold sp at h
  cases q:sp t with
  |nil=>exact AH q (rS t)
  |cons v ws=>
   rw[q] at ih h;intro c hc;split at h
   ·rcases BJ.mp h with rfl|h
    ·simp at hc
    ·exact Bk _ (ih w h c hc)
   ·rcases BJ.mp h with rfl|h
    ·rcases BJ.mp hc with rfl|hc
     ·simp
     ·exact Bk _ (ih v ∅ c hc)
    ·exact Bk _ (ih w (by simp[h]) c hc)
theorem ya:∀(l:A0 Nat),(∀w∈sp l,w.length<=l.length)/\(sp l).length<=l.length+1
 |[]=>by simp[sp]
 |a::t=>by
  let⟨i1,i2⟩:=ya t;unfold sp
  cases q:sp t with
  |nil=>exact AH q (rS t)
  |cons v ws=>
   rw[q] at i1 i2;split
   ·refine{λw h=>?_,by simp at i2 ⊢;omega};rcases BJ.mp h with rfl|h
    ·simp
    ·have:=i1 w h;simp;omega
   ·refine{λw h=>?_,by simp at i2 ⊢;omega};rcases BJ.mp h with rfl|h
    ·have:=i1 v ∅;simp;omega
    ·have:=i1 w (by simp[h]);simp;omega
theorem xh:∀(ws:A0 (A0 Nat)),Str.join ⟨#[32]⟩ (ws.map Tx)=Tx (jn ws)
 |[]=>rfl
 |[a]=>by first|rfl|simp[Str.join,jn]
 |a::b::t=>by
  have ih:=xh (b::t);rwa[BA] at ih ⊢;rw[Str.join,ih,show jn (a::b::t)=a++32::jn (b::t) from rfl]
  ·exact Str.ext' (zbR.mp (by
    show((a.toArray++#[32])++(jn (b::t)).toArray).toList=_
    simp))
  all_goals simp
def zY (ws:A0 (A0 Nat)):Txt.join ⟨#[32]⟩ (ws.map Tx)=Tx (jn ws):=(PySem.StrLaws.glued_eq_join _ _).trans (xh ws)
def JB5 (l:A0 Nat):Txt.split (Tx l) ⟨#[32]⟩=(sp l).map Tx:=by
 have h:=xX 32 ((sp l).map Tx) ‹rS l› (by intro p hp;let⟨w,hw,rfl⟩:=zbC.mp hp;exact zv l w hw)
 rw[zY,D0] at h;exact h
noncomputable def nm (w:A0 Nat):UO Int:=if dO (fig w)=true/\zz w=false then PySem.intText? (Tx w) else none
def DL {w:A0 Nat}(h:nm w=none):dO (fig w)=false\/zz w=true:=by
 unfold nm at h;split at h
 ·rename_i q;let⟨n,hn⟩:=Mc q.1;rw[hn] at h;cases h
 ·rename_i q
  cases h1:dO (fig w) with
  |false=>exact .inl rfl
  |true=>
   cases h2:zz w with
   |true=>exact .inr rfl
   |false=>exact AH {h1,h2} q
def rn {w:A0 Nat}{n:Int}(h:nm w=some n):dO (fig w)=true/\zz w=false/\PySem.intText? (Tx w)=some n:=by
 unfold nm at h;split at h
 ·rename_i q;exact{q.1,q.2,h}
 ·cases h
theorem yu {w:A0 Nat}(g:d9 w):dj [sT w]=some (eD (nm w)):=by
 cases h:nm w with
 |none=>exact JCc g (DL h)
 |some n=>let⟨h1,h2,h3⟩:=rn h;exact JAt g h1 h2 h3
abbrev NT:Str:=Str.ofString "NoText"
def Jm {w:A0 Nat}(g:d9 w)(h:nm w=none):cb [sT w]=some NT:=Nd g (DL h)
def DK {w:A0 Nat}{n:Int}(g:d9 w)(h:nm w=some n):cb [sT w]=none:=by let⟨h1,h2,h3⟩:=rn h;exact JI g h1 h2
def Gy {w:A0 Nat}{n:Int}(g:d9 w)(h:nm w=some n):cD [sT w]=some (.int n):=by let⟨h1,h2,h3⟩:=rn h;exact LR g h1 h2 h3
def xY {l:A0 Nat}(hl:l.length<4000)(U:ah):u9 (.v (sT l)) (.v (.str " ")) U=some (.p U.length,U++[.lst ((sp l).map sT)]):=by unfold u9;dsimp only;rw[A8 {by decide,by rw[c7];omega},B8,JB5,E9];rfl
def JDf (l:A0 Nat):iQ [sT l]=none:=by rw[wp];push_cast [oR,aW,aO,aR,bN,bA,bt,ci,bC,bB,cp,cz,cy,be,cB,cA,cu,bF,aZ,bG,bH,aI,bI,aY,Nb]
def JDg {l:A0 Nat}(hl:l.length<4000):gc [sT l]=some (.lst ((sp l).map sT)):=by rw[xK];push_cast [pe,UG,xY hl]
noncomputable def mz (l:A0 Nat):A9:=decide (1<=(l.length:Int))&&(decide ((l.length:Int)<=8)&&(l.all λc=>decide (c∈az)))
def zT (l:A0 Nat)(h1:l.length<4000):b3 [sT l,.str "abcdefghijklmnopqrstuvwxyz",.int 8]=some (.bl (mz l)):=by
 rw[pE];have hz:l.length<=sizeLine:=bK h1;have hm:(l.map λc=>D.str (Tx [c])).length<=sizeLine:=by rw[BI];exact hz
 have hc:=g4 (f:=ax (uH false) (af 0) (af 1)) (U:=[]) (rest:=[some (.v (.str "abcdefghijklmnopqrstuvwxyz"))]) (λc=>D.str (Tx [c])) (λc=>D.bl (decide (c∈az))) l none
  (λc _=>by push_cast [Ca,gE,dX,gG,d8,d6,dZ,dY,gD,dU,dR,dQ,di,gF,dW,gC,fZ])
 have hb:lX (l.map λc=>D.bl (decide (c∈az)))=some (l.map λc=>decide (c∈az)):=by
  have:=uQ (l.map λc=>decide (c∈az))
  (rw[E9] at this;assumption)
 have ha:(l.map λc=>decide (c∈az)).all id=l.all λc=>decide (c∈az):=by rw[List.all_map];rfl
 unfold mz;by_cases a1:(1:Int)<=(l.length:Int)
 ·by_cases a2:(l.length:Int)<=8
  ·push_cast [eo,gE,dX,gG,d8,d6,dZ,dY,gD,dU,dR,dQ,di,gF,dW,gC,fZ,fY hz,a1,a2,decide_true,A8 hm,hc,hb,ha,zb7]
  ·push_cast [eo,gE,dX,gG,d8,d6,dZ,dY,gD,dU,dR,dQ,di,gF,dW,gC,fZ,fY hz,a1,a2,decide_true,decide_false,zbm,Bool.and_false]
 ·push_cast [eo,gE,dX,gG,d8,d6,dZ,dY,gD,dU,dR,dQ,di,gF,dW,gC,fZ,fY hz,a1,decide_false,zbm]
theorem O9 {w:A0 Nat}(g:d9 w):eR [sT w]=if mz w=true then none else some NT:=by
 rw[qV];have h:=zT w (by have:=g.len;omega);have hf:qi "no word of one to eight small letters: " 0 [some (.v (sT w))]=true:=by
  unfold qi;rwa[zbL];refine Bq ?_;have h:=PySem.StrLaws.reprText_len (Tx w) (λc hc=>Dl (g.sig c ‹hc›) ∅);have h':(reprText (Tx w)).length<=10*w.length+2:=by have q:=h;rw[c7] at q;exact q
  have:=g.len;have hs:(Str.ofString "no word of one to eight small letters: ").length=39:=by decide
  rw[hs];exact Br (show _<=50000 by omega) ∅
 cases hl:mz w with
 |true=>
  rw[hl] at h;push_cast [ij,aW,aO,aR,bN,bA,bt,ci,bC,bB,cp,cz,cy,be,cB,cA,cu,bF,aZ,bG,bH,aI,bI,aY,h]
 |false=>
  rw[hl] at h;push_cast [ij,aW,aO,aR,bN,bA,bt,ci,bC,bB,cp,cz,cy,be,cB,cA,cu,bF,aZ,bG,bH,aI,bI,aY,h,mD hf]
def Jq {w:A0 Nat}(g:d9 w)(h:mz w=true):dN [sT w]=some (sT w):=by rw[rN];have h':=zT w (by have:=g.len;omega);rw[h] at h';push_cast [j4,h']
def Ke {n:Int}(h:Sm n):n.natAbs.log2<1920:=by
 by_cases h0:n.natAbs=0
 ·rw[h0];decide
 ·have:n.natAbs.log2<200:=by rw[Nat.log2_lt h0];exact Dl h ∅
  omega
theorem JC:∀(cs:A0 Nat) (acc k:Nat),AllDigits cs->acc<10 ^ k->cs.foldl (λacc c=>acc*10+(c-48)) acc<10 ^ (k+cs.length)
 |[],acc,k,_,h=>h
 |c::cs,acc,k,hd,h=>by have hc:=hd.head;have:=JC cs (acc*10+(c-48)) (k+1) hd.tail (by rw[Nat.pow_succ];omega);rw[zco,Bg,show k+(cs.length+1)=k+1+cs.length by omega];exact this
def Qc {cs:A0 Nat}(h:AllDigits cs)(hl:cs.length<=60):digitsVal cs<10 ^ 60:=by
 have:=JC cs 0 0 h ∅;rw[zci] at this
 exact Be this (Nat.pow_le_pow_right ∅ hl)
def JO {l:A0 Nat}{n:Int}(h:dO (fig l)=true)(hi:PySem.intText? (Tx l)=some n):Sm n:=by
 let⟨h1,h2,h3⟩:=hJ h;have CZ:fig l≠[]:=λe=>by rw[e] at h1;simp at h1
 have hll:l.length<=640:=vE h;have hv:=Qc h3 h2;unfold fig at h3 CZ hv;split at h3
 ·rename_i q;rw[A8 q] at CZ hv
  cases l with
  |nil=>simp at q
  |cons c r=>
   have hc:c=45:=‹q›;subst hc;rw[intText_neg (x:=Tx (45::r)) (cs:=r) rfl ‹h3› ‹CZ› (by rw[c7];omega)] at hi;cases hi;unfold Sm;rw[Int.natAbs_neg,zb5];exact hv
 ·rename_i q;rw[AE q] at CZ hv;rw[intText_digits (x:=Tx l) h3 CZ (by rw[c7];omega)] at hi;cases hi;unfold Sm;rw[zb5];exact hv
def O2z {w:A0 Nat}{n:Int}(h:nm w=some n):Sm n:=by let⟨h1,h2,h3⟩:=rn h;exact JO h1 h3
def O1z {w:A0 Nat}{n:Int}(h:nm w=some n):n.natAbs.log2<1920:=Ke (O2z h)
def GV {w:A0 Nat}(g:d9 w)(h:nm w=none):b8 [sT w,.int 0]=some NT:=by rw[gH];push_cast [dG,aW,aO,aR,bN,bA,bt,ci,bC,bB,cp,cz,cy,be,cB,cA,cu,bF,aZ,bG,bH,aI,bI,aY,Jm g h]
def GU {w:A0 Nat}{n:Int}(g:d9 w)(h:nm w=some n)(h1:n<0):b8 [sT w,.int 0]=some NT:=by
 rw[gH];have hd:decide (n<0)=true:=Bq h1;have hk:su 2 [some (.v (sT w)),de 0,de n]=true:=by unfold su;exact Bq (O1z h)
 have hk1:su 1 [some (.v (sT w)),de 0,de n]=true:=by unfold su;exact Bq (show((0:Int).natAbs.log2<1920) by decide)
 have hr:∀U,fN "NoText" (λO=>su 2 O&&(true&&(su 1 O&&true))) [some (.v (sT w)),de 0,de n] U=some (NT,U):=λU=>mD (by rwa[hk,hk1,zbN]);push_cast [dG,aW,aO,aR,bN,bA,bt,ci,bC,bB,cp,cz,cy,be,cB,cA,cu,bF,aZ,bG,bH,aI,bI,aY,DK g h,Gy g h,hd,hr]
def GS {w:A0 Nat}{n:Int}(g:d9 w)(h:nm w=some n)(h1:0<=n):b8 [sT w,.int 0]=none:=by rw[gH];have hd:decide (n<0)=false:=Bf ∅;push_cast [dG,aW,aO,aR,bN,bA,bt,ci,bC,bB,cp,cz,cy,be,cB,cA,cu,bF,aZ,bG,bH,aI,bI,aY,DK g h,Gy g h,hd]
def Ms {w:A0 Nat}{n:Int}(g:d9 w)(h:nm w=some n)(h1:0<=n):cU [sT w,.int 0]=some (.int n):=by rw[oU];have hd:decide (n<0)=false:=Bf ∅;push_cast [g5,Gy g h,hd]
end LW
namespace LW
open HW L2
section
variable {O:Lo}{U U' U1:ah}{r q i n:Nat}{W:To}{w:Str}{d:D}
abbrev m9 (q:Nat)(i:Int):A0 (Str×R):=[("words",.p q),("place",.v (.int i))]
def UV:(("place" : Str) == "words")=false:=by decide
def N5:¬ (("words" : Str) = "place"):=by decide
structure RS (r q:Nat)(W:To)(i:Nat)(U:ah):Prop where
 ob:U[r]?=some (.ob "Reader" (m9 q i))
 ws:U[q]?=some (.lst (W.map .str))
 sm:W.length<4000
structure Fr (r:Nat)(U U':ah):Prop where
 le:U.length<=U'.length
 eq:∀n,n<U.length->n≠r->U'[n]?=U[n]?
def Fr.refl:Fr r U U:={BH _,λ_ _ _=>rfl}
def Fr.trans (a:Fr r U U1)(b:Fr r U1 U'):Fr r U U':={Br a.le b.le,λn h h'=>(b.eq n (Be h a.le) h').trans (a.eq n h h')}
def Fr.new (c:et):Fr r U (U++[c]):={by simp,λn h _=>C0 h}
def Fr.set (c:et):Fr r U (U.set r c):={by simp,λn _ h=>Ej (Ne.symm h)}
def RS.lt (h:RS r q W i U):r<U.length:=(Bn.mp h.ob).1
def RS.qlt (h:RS r q W i U):q<U.length:=(Bn.mp h.ws).1
def RS.qr (h:RS r q W i U):q≠r:=λe=>by have:=h.ws;rw[e,h.ob] at this;cases this
def RS.new (h:RS r q W i U)(c:et):RS r q W i (U++[c]):={by rw[C0 h.lt];exact h.ob,by rw[C0 h.qlt];exact h.ws,h.sm}
def RS.put (h:RS r q W i U)(j:Nat):RS r q W j (U.set r (.ob "Reader" (m9 q j))) :=
 {DZ h.lt,by rw[Ej (Ne.symm h.qr)];exact h.ws,h.sm}
def Rd (o:UO (R×ah))(r q:Nat)(W:To)(U:ah)(j:Nat)(d:D):Prop:=∃U',o=some (.v d,U')/\RS r q W j U'/\Fr r U U'
def v5 {xs:To}{k:Nat}{a:Str}(h:xs[k]?=some a):L2.n9 (xs.map D.str) (k:Int)=some (.str a):=by have hk:=(Bn.mp h).1;refine qE ∅ ?_;simp[h]
def Es {c fl:Str}{fs:A0 (Str×R)}{x:R}{s:Nat}{fo:FE}(ho:fo O U=some (.p s,U))(h:U[s]?=some (.ob c fs))(hf:fs.lookup fl=some x):oo c fl fo O U=some (x,U):=by simp[oo,ho,sv,h,hf]
def U0z {j:Int}:(m9 q j).lookup ("words" : Str)=some (R.p q):=by simp[D8]
def Uc {j:Int}:(m9 q j).lookup ("place" : Str)=some (R.v (.int j)):=by simp[D8,UV]
def yQ {fo:FE}(h:RS r q W i U)(ho:fo O U=some (.p r,U)):oo "Reader" "words" fo O U=some (.p q,U):=Es ho h.ob U0z
def yR {fo:FE}(h:RS r q W i U)(ho:fo O U=some (.p r,U)):oo "Reader" "place" fo O U=some (.v (.int i),U):=Es ho h.ob Uc
def Tp (h:RS r q W i U):wD "Reader" "place" (af 0) 1 [dM r] U=some (.nx [dM r] (U.set r (.ob "Reader" (m9 q (i+1:Nat))))):=by
 have e:(af 0) [some (R.p r)] U=some (.p r,U):=rfl;have pf:oH "place" (.v (.int ((i:Int)+1))) (m9 q i)=m9 q (i+1:Nat):=by simp[oH,N5]
 unfold wD;rwa[e,AZ,sv,h.ob,if_true,Uc];rw[pf];simp
def je {nm:Str}{f:MW}{fo:FE}{m:Nat}(h:RS r q W i U)(ho:fo O U=some (.p r,U))(h1:(nm == "words")=false)(h2:(nm == "place")=false):bT "Reader" nm f 1 fo ai O U=f [.p r] U:=by simp[bT,ho,sv,h.ob,D8,h1,h2,ai]
def nY (h:RS r q W i U):gJ [.p q] U=some (.v (.int W.length),U):=by have z:(W.map D.str).length<=sizeLine:=bK (by rw[BI];exact h.sm);push_cast [h.ws,z,if_true,BI]
def JDh (h:RS r q W i U)(hw:W[i]?=some w):aX [.p r] U=some (.v (.str w),U.set r (.ob "Reader" (m9 q (i+1:Nat)))):=by
 have hi:=(Bn.mp hw).1;have z:(W.map D.str).length<=sizeLine:=bK (by rw[BI];exact h.sm);have e0:((i:Int) == (W.length:Int))=false:=by simp;omega
 have p2:=h.put (i+1);have a1:L2.n9 (W.map D.str) ((i+1:Nat)-1:Int)=some (.str w):=by rw[show((i+1:Nat)-1:Int)=(i:Int) by omega];exact v5 hw
 rw[tG];push_cast [kS,yQ h (fo:=af 0) (O:=[some (R.p r)]) rfl,yR h (fo:=af 0) (O:=[some (R.p r)]) rfl,nY h,e0,Tp h,yQ p2 (fo:=af 0) (O:=[some (R.p r)]) rfl,yR p2 (fo:=af 0) (O:=[some (R.p r)]) rfl,p2.ws,a1,if_true,Nat.reduceAdd,zbN];rfl
end
open PyProof.Rows PySem.NumText PySem.W
section
variable {O:Lo}{U:ah}{r q i:Nat}{W:To}{w:Str}
def Jn:(("word" : Str) == "words")=false:=by decide
def wR:(("word" : Str) == "place")=false:=by decide
def Ua:(("letters" : Str) == "words")=false:=by decide
def O5:(("letters" : Str) == "place")=false:=by decide
def Jo:(("number" : Str) == "words")=false:=by decide
def wT:(("number" : Str) == "place")=false:=by decide
def QD:(("many" : Str) == "words")=false:=by decide
def Gz:(("many" : Str) == "place")=false:=by decide
def T9:(("numbers" : Str) == "words")=false:=by decide
def O4:(("numbers" : Str) == "place")=false:=by decide
def RJ:(("finish" : Str) == "words")=false:=by decide
def LM:(("finish" : Str) == "place")=false:=by decide
def vD {fo:FE}(h:RS r q W i U)(ho:fo O U=some (.p r,U))(hw:W[i]?=some w):bT "Reader" "word" aX 1 fo ai O U=some (.v (.str w),U.set r (.ob "Reader" (m9 q (i+1:Nat)))):=by rw[je (m:=1) h ho Jn wR,JDh h hw]
def Bj {cs:A0 et}{c:et}:(cs++[c])[cs.length]?=some c:=by simp
def da {nm:Str}{xf:og}{fo:FE}(h:RS r q W i U)(ho:fo O U=some (.p r,U))(h1:(nm == "words")=false)(h2:(nm == "place")=false):dH "Reader" nm xf 1 fo ai O U=xf [.p r] U:=by simp[dH,ho,sv,h.ob,D8,h1,h2,ai]
def rg (h:RS r q W W.length U):bg [.p r] U=some (NT,U):=by
 have e0:((W.length:Int) == (W.length:Int))=true:=by simp
 rw[mK];push_cast [i6,aW,aO,aR,bN,bA,bt,ci,bC,bB,cp,cz,cy,be,cB,cA,cu,bF,aZ,bG,bH,aI,bI,aY,yQ h (fo:=af 0) (O:=[some (R.p r)]) rfl,yR h (fo:=af 0) (O:=[some (R.p r)]) rfl,nY h,e0]
def rf (h:RS r q W i U)(hi:i<W.length):bg [.p r] U=none:=by
 have e0:((i:Int) == (W.length:Int))=false:=by simp;omega
 rw[mK];push_cast [i6,aW,aO,aR,bN,bA,bt,ci,bC,bB,cp,cz,cy,be,cB,cA,cu,bF,aZ,bG,bH,aI,bI,aY,yQ h (fo:=af 0) (O:=[some (R.p r)]) rfl,yR h (fo:=af 0) (O:=[some (R.p r)]) rfl,nY h,e0]
def Mx (h:RS r q W i U)(hi:i≠W.length):cE [.p r] U=some (NT,U):=by
 have e0:(!((i:Int) == (W.length:Int)))=true:=by simp;omega
 rw[kZ];push_cast [gU,aW,aO,aR,bN,bA,bt,ci,bC,bB,cp,cz,cy,be,cB,cA,cu,bF,aZ,bG,bH,aI,bI,aY,yQ h (fo:=af 0) (O:=[some (R.p r)]) rfl,yR h (fo:=af 0) (O:=[some (R.p r)]) rfl,nY h,e0]
def Mw (h:RS r q W W.length U):cE [.p r] U=none:=by
 have e0:(!((W.length:Int) == (W.length:Int)))=false:=by simp
 rw[kZ];push_cast [gU,aW,aO,aR,bN,bA,bt,ci,bC,bB,cp,cz,cy,be,cB,cA,cu,bF,aZ,bG,bH,aI,bI,aY,yQ h (fo:=af 0) (O:=[some (R.p r)]) rfl,yR h (fo:=af 0) (O:=[some (R.p r)]) rfl,nY h,e0]
def PN (h:RS r q W W.length U):dh [.p r] U=some (.v .non,U):=by
 have e0:(!((W.length:Int) == (W.length:Int)))=false:=by simp
 rw[qX];push_cast [jw,yQ h (fo:=af 0) (O:=[some (R.p r)]) rfl,yR h (fo:=af 0) (O:=[some (R.p r)]) rfl,nY h,e0];rfl
end
abbrev tS (W:A0 (A0 Nat)):To:=W.map Tx
def wz {W:A0 (A0 Nat)}{i:Nat}{w:A0 Nat}(h:W[i]?=some w):(tS W)[i]?=some (Tx w):=by rw[DA,h];rfl
def kC (W:A0 (A0 Nat)):(tS W).length=W.length:=by simp
def Sp (o:UO (R×ah))(x:UO (Str×ah))(r q:Nat)(W:A0 (A0 Nat))(U:ah):UO (D×Nat)->Prop
 |none=>∃U',x=some (NT,U')
 |some (d,j)=>x=none/\j<=W.length/\Rd o r q (tS W) U j d
noncomputable def pn (W:A0 (A0 Nat))(i:Nat):UO (D×Nat):=(W[i]?).bind λw=>(nm w).map λk=>(D.int k,i+1)
noncomputable def Gb (W:A0 (A0 Nat))(i:Nat):UO (D×Nat):=(W[i]?).bind λw=>if mz w=true then some (sT w,i+1) else none
noncomputable def pm (W:A0 (A0 Nat))(i:Nat):UO (Int×Nat):=(W[i]?).bind λw=>(nm w).bind λk=>if k<0 then none else some (k,i+1)
section
variable {O:Lo}{U:ah}{r q i:Nat}{W:A0 (A0 Nat)}
abbrev GW (W:A0 (A0 Nat)):Prop:=∀w∈W,d9 w
def GW.at (g:GW W){w:A0 Nat}(h:W[i]?=some w):d9 w:=g w (DE h)
def at_end (hi:i<=W.length)(h:W[i]?=none):i=W.length:=by have:=zba.mp h;omega
def jx {w:A0 Nat}(h:W[i]?=some w):i<W.length:=(Bn.mp h).1
def RS.at_end (h:RS r q (tS W) i U)(hi:i<=W.length)(hw:W[i]?=none):RS r q (tS W) (tS W).length U:=by rw[kC,←LW.at_end hi hw];exact h
theorem yB (h:RS r q (tS W) i U)(hi:i<=W.length)(g:GW W):Sp (cj [.p r] U) (cT [.p r] U) r q W U (Gb W i):=by
 unfold Gb
 cases hw:W[i]? with
 |none=>
  refine{U,?_};rw[iq,eQ,bN,da h rfl Jn wR,rg (h.at_end hi hw)];rfl
 |some w=>
  have gw:=g.at hw;have x1:=rf h (by rw[kC];exact jx hw);have mw:=vD (O:=[some (R.p r)]) (fo:=af 0) h rfl (wz hw);have ex:=da (xf:=bg) (O:=[some (R.p r)]) (fo:=af 0) h rfl Jn wR;rw[x1] at ex;have lx:=O9 gw;rw[AZ]
  cases hl:mz w with
  |true=>
   rw[hl,A8 rfl] at lx;refine{?_,jx hw,_,?_,h.put (i+1),Fr.set _}
   ·rw[iq];push_cast [eQ,aW,aO,aR,bN,bA,bt,ci,bC,bB,cp,cz,cy,be,cB,cA,cu,bF,aZ,bG,bH,aI,bI,aY,ex,mw,lx]
   ·rw[p7];push_cast [iZ,mw,Jq gw hl];rfl
  |false=>
   rw[hl,AE ∅] at lx;refine{U.set r (.ob "Reader" (m9 q (i+1:Nat))),?_};rw[iq];push_cast [eQ,aW,aO,aR,bN,bA,bt,ci,bC,bB,cp,cz,cy,be,cB,cA,cu,bF,aZ,bG,bH,aI,bI,aY,ex,mw,lx]
theorem nW (h:RS r q (tS W) i U)(hi:i<=W.length)(g:GW W):Sp (aq [.p r] U) (aE [.p r] U) r q W U (pn W i):=by
 unfold pn
 cases hw:W[i]? with
 |none=>
  refine{U,?_};rw[iR,fE,bN,da h rfl Jn wR,rg (h.at_end hi hw)];rfl
 |some w=>
  have gw:=g.at hw;have x1:=rf h (by rw[kC];exact jx hw);have mw:=vD (O:=[some (R.p r)]) (fo:=af 0) h rfl (wz hw);have ex:=da (xf:=bg) (O:=[some (R.p r)]) (fo:=af 0) h rfl Jn wR;rw[x1] at ex;rw[AZ]
  cases hl:nm w with
  |some k=>
   refine{?_,jx hw,_,?_,h.put (i+1),Fr.set _}
   ·rw[iR];push_cast [fE,aW,aO,aR,bN,bA,bt,ci,bC,bB,cp,cz,cy,be,cB,cA,cu,bF,aZ,bG,bH,aI,bI,aY,ex,mw,DK gw hl]
   ·rw[qW];push_cast [jv,mw,Gy gw hl];rfl
  |none=>
   refine{U.set r (.ob "Reader" (m9 q (i+1:Nat))),?_};rw[iR];push_cast [fE,aW,aO,aR,bN,bA,bt,ci,bC,bB,cp,cz,cy,be,cB,cA,cu,bF,aZ,bG,bH,aI,bI,aY,ex,mw,Jm gw hl]
theorem zR (h:RS r q (tS W) i U)(hi:i<=W.length)(g:GW W):Sp (bp [.p r] U) (cC [.p r] U) r q W U ((pm W i).map λp=>(.int p.1,p.2)):=by
 unfold pm
 cases hw:W[i]? with
 |none=>
  refine{U,?_};rw[ip,fI,bN,da h rfl Jn wR,rg (h.at_end hi hw)];rfl
 |some w=>
  have gw:=g.at hw;have x1:=rf h (by rw[kC];exact jx hw);have mw:=vD (O:=[some (R.p r)]) (fo:=af 0) h rfl (wz hw);have ex:=da (xf:=bg) (O:=[some (R.p r)]) (fo:=af 0) h rfl Jn wR;rw[x1] at ex;rw[AZ]
  cases hl:nm w with
  |some k=>
   rw[AZ];by_cases hk:k<0
   ·rw[A8 hk];refine{U.set r (.ob "Reader" (m9 q (i+1:Nat))),?_};rw[ip];push_cast [fI,aW,aO,aR,bN,bA,bt,ci,bC,bB,cp,cz,cy,be,cB,cA,cu,bF,aZ,bG,bH,aI,bI,aY,ex,mw,GU gw hl hk]
   ·rw[AE hk];refine{?_,jx hw,_,?_,h.put (i+1),Fr.set _}
    ·rw[ip];push_cast [fI,aW,aO,aR,bN,bA,bt,ci,bC,bB,cp,cz,cy,be,cB,cA,cu,bF,aZ,bG,bH,aI,bI,aY,ex,mw,GS gw hl ∅]
    ·rw[tH];push_cast [kT,mw,Ms gw hl ∅];rfl
  |none=>
   refine{U.set r (.ob "Reader" (m9 q (i+1:Nat))),?_};rw[ip];push_cast [fI,aW,aO,aR,bN,bA,bt,ci,bC,bB,cp,cz,cy,be,cB,cA,cu,bF,aZ,bG,bH,aI,bI,aY,ex,mw,GV gw hl]
end
noncomputable def pk {Z:Type}(s:Z->Nat->UO (D×Nat)):A0 Z->Nat->UO (A0 D×Nat)
 |[],i=>some ([],i)
 |x::xs,i=>(s x i).bind λp=>(pk s xs p.2).map λq=>(p.1::q.1,q.2)
noncomputable def pr (s:Nat->UO (D×Nat)):Nat->Nat->UO (A0 D×Nat)
 |0,i=>some ([],i)
 |k+1,i=>(s i).bind λp=>(pr s k p.2).map λq=>(p.1::q.1,q.2)
theorem ss {Z:Type}(s:Nat->UO (D×Nat)):∀(xs:A0 Z) (i:Nat),pk (λ_=>s) xs i=pr s xs.length i
 |[],_=>rfl
 |x::xs,i=>by rw[pk,Bg,pr];refine AQ _ (funext λp=>?_);rw[ss s xs p.2]
theorem lI {s:Nat->UO (D×Nat)}{L:Nat}(hs:∀i p,s i=some p->i<p.2/\p.2<=L):∀(k i:Nat),i<=L->L-i<k->pr s k i=none
 |0,i,_,h=>AH h ∅
 |k+1,i,hi,h=>by
  rw[pr]
  cases e:s i with
  |none=>rfl
  |some p=>
   let⟨h1,h2⟩:=hs i p e;rw[AZ,lI hs k p.2 h2 ∅];rfl
theorem ym {s:Nat->UO (D×Nat)}:∀{k i:Nat} {p:A0 D×Nat},pr s k i=some p->p.1.length=k
 |0,i,p,h=>by cases h;rfl
 |k+1,i,p,h=>by rw[pr] at h;let⟨a,e,h⟩:=AO.mp h;let⟨b,e',rfl⟩:=DG.mp h;rw[Bg,ym e']
section
variable {O:Lo}{U U' U1:ah}{r q i:Nat}{W:A0 (A0 Nat)}
theorem vW {Z:Type}(ed:Z->D){f:FE}{xb:XB}{rest:Lo}{s:Z->Nat->UO (D×Nat)}:∀(xs:A0 Z) (i:Nat) (U:ah) (x0:UO R),RS r q (tS W) i U->i<=W.length ->
  (∀x∈xs,∀i U,RS r q (tS W) i U->i<=W.length->Sp (f (some (.v (ed x))::rest) U) (xb (some (.v (ed x))::rest) U) r q W U (s x i)) ->
  match pk s xs i with
  |none=>∃U',j3 (gY 0) gS f xb (xs.map ed) (x0::rest) U=some (NT,U')
  |some (ds,j)=>j3 (gY 0) gS f xb (xs.map ed) (x0::rest) U=none/\j<=W.length/\∃U',ic (gY 0) gS f (xs.map ed) (x0::rest) U=some (ds,U')/\RS r q (tS W) j U'/\Fr r U U'
 |[],i,U,x0,h,hi,hp=>{rfl,hi,U,rfl,h,Fr.refl}
 |x::xs,i,U,x0,h,hi,hp=>by
  have h1:=hp x Bw i U h hi;rw[pk]
  cases e:s x i with
  |none=>
   rw[e] at h1;let⟨U',e1⟩:=h1;refine{U',?_}
   show(match xb (some (.v (ed x))::rest) U with
    |some r=>some r
    |none=>_)=_
   rw[e1]
  |some p=>
   rw[e] at h1;let⟨e1,hj,U1,e2,h2,f2⟩:=h1;have ih:=vW ed (f:=f) (xb:=xb) (rest:=rest) (s:=s) xs p.2 U1 (some (.v (ed x))) h2 hj λy hy=>hp y (Bk _ hy)
   have cx:j3 (gY 0) gS f xb ((x::xs).map ed) (x0::rest) U=j3 (gY 0) gS f xb (xs.map ed) (some (.v (ed x))::rest) U1:=by
    show(match xb (some (.v (ed x))::rest) U with
     |some r=>some r
     |none=>(f (some (.v (ed x))::rest) U).bind _)=_
    rw[e1,e2];rfl
   rw[AZ,cx]
   cases ek:pk s xs p.2 with
   |none=>rw[ek] at ih;exact ih
   |some p'=>
    rw[ek] at ih;let⟨i1,i2,U',i3,i4,i5⟩:=ih;refine{i1,i2,U',?_,i4,f2.trans i5};rw[BA,ic]
    show((f (some (.v (ed x))::rest) U).bind _)=_
    rw[e2]
    show(ic (gY 0) gS f (xs.map ed) (some (.v (ed x))::rest) U1).bind _=_
    rw[i3];rfl
def A5 {p:D×Nat}(h:pn W i=some p):i<p.2/\p.2<=W.length:=by unfold pn at h;let⟨w,e,h⟩:=AO.mp h;let⟨k,e',rfl⟩:=DG.mp h;exact{F7 _,jx e}
noncomputable def p2 (W:A0 (A0 Nat))(i:Nat):UO (D×Nat):=(pn W i).bind λp=>(pn W p.2).map λp'=>(.tup [p.1,p'.1],p'.2)
def OS {p:D×Nat}(h:p2 W i=some p):i<p.2/\p.2<=W.length:=by unfold p2 at h;let⟨a,e,h⟩:=AO.mp h;let⟨b,e',rfl⟩:=DG.mp h;have h1:=A5 e;have h2:=A5 e';exact{by show i<b.2;omega,h2.2}
noncomputable def pc (W:A0 (A0 Nat))(s:Nat->UO (D×Nat))(i:Nat):UO (D×Nat):=(pm W i).bind λp=>(pr s p.1.toNat p.2).map λq=>(.tup q.1,q.2)
def Ga {p:Int×Nat}(h:pm W i=some p):0<=p.1/\p.2=i+1/\p.2<=W.length:=by
 unfold pm at h;let⟨w,e,h⟩:=AO.mp h;let⟨k,e',h⟩:=AO.mp h;split at h
 ·cases h
 ·cases h;exact{by omega,rfl,jx e}
def uA {f:FE}{xb:XB}{rest:Lo}{s:Nat->UO (D×Nat)}{k:Int}(h:RS r q (tS W) i U)(hi:i<=W.length)(hW:W.length<4000)(hk:0<=k)(hs:∀i p,s i=some p->i<p.2/\p.2<=W.length)
  (hp:∀x i U,RS r q (tS W) i U->i<=W.length->Sp (f (some (.v x)::rest) U) (xb (some (.v x)::rest) U) r q W U (s i)) (x0:UO R) :
  match pr s k.toNat i with
  |none=>∃U',j3 (gY 0) gS f xb (((List.range k.toNat).map λi=>D.int (i:Nat)).take sizeLine) (x0::rest) U=some (NT,U')
  |some (ds,j)=>j3 (gY 0) gS f xb (((List.range k.toNat).map λi=>D.int (i:Nat)).take sizeLine) (x0::rest) U=none/\j<=W.length/\k<4000/\∃U',ic (gY 0) gS f ((List.range k.toNat).map λi=>D.int (i:Nat)) (x0::rest) U=some (ds,U')/\RS r q (tS W) j U'/\Fr r U U':=by
 have cs:=vW (λi:Nat=>D.int (i:Nat)) (f:=f) (xb:=xb) (rest:=rest) (s:=λ_=>s) ((List.range k.toNat).take sizeLine) i U x0 h hi λx _=>hp _;rw[ss,zb8] at cs
 have hl:((List.range k.toNat).take sizeLine).length=min sizeLine k.toNat:=by simp
 have hz:(4000:Nat)<=sizeLine:=by decide
 rw[hl] at cs
 by_cases hb:k.toNat<=sizeLine
 ·rw[Nat.min_eq_right hb] at cs
  cases e:pr s k.toNat i with
  |none=>rw[e] at cs;exact cs
  |some p=>
   rw[e] at cs;let⟨c1,c2,U',c3,c4,c5⟩:=cs;rw[zbh ‹hb›] at c1 c3;rw[zbh ‹hb›];refine{c1,c2,?_,U',c3,c4,c5}
   by_cases hk4:k.toNat<=W.length
   ·omega
   ·rw[lI hs _ _ hi ∅] at e;cases e
 ·rw[Nat.min_eq_left ∅,lI hs _ _ hi ∅] at cs
  rw[lI hs _ _ hi ∅];exact cs
theorem yr (h:RS r q (tS W) i U)(hi:i<=W.length)(g:GW W):Sp (bX [.p r] U) (cR [.p r] U) r q W U (pc W (pn W) i):=by
 have hW:W.length<4000:=by have:=h.sm;rw[kC] at this;exact this
 have ms:=zR h hi g;have ex:=da (xf:=cC) (O:=[some (R.p r)]) (fo:=af 0) h rfl QD Gz;have em:=je (f:=bp) (O:=[some (R.p r)]) (fo:=af 0) (m:=1) h rfl QD Gz;have b:fU 1 [0] [some (R.p r)]=[none,dM r]:=rfl;unfold pc
 cases e:pm W i with
 |none=>
  rw[e] at ms;let⟨U',e1⟩:=ms;refine{U',?_};rw[e1] at ex;rw[io,eP,bN,ex,bA]
 |some p=>
  rw[e] at ms;obtain⟨e1,hj,U1,e2,h2,f2⟩:=ms;obtain⟨k0,-,-⟩:=Ga e;rw[e1] at ex;rw[e2] at em;have mc:=uA (f:=bT "Reader" "number" aq 1 (af 1) ai) (xb:=dH "Reader" "number" aE 1 (af 1) ai) (rest:=[dM r]) (s:=pn W) h2 hj hW k0 (λi p=>A5) (λx i U h' Dk=>by rw[da h' rfl Jo wT,je (m:=1) h' rfl Jo wT];exact nW h' Dk g) none
  have xc:jq [0] 1 (qR (bT "Reader" "many" bp 1 (af 0) ai)) (gY 0) gS (bT "Reader" "number" aq 1 (af 1) ai) (dH "Reader" "number" aE 1 (af 1) ai) [dM r] U=j3 (gY 0) gS (bT "Reader" "number" aq 1 (af 1) ai) (dH "Reader" "number" aE 1 (af 1) ai) (((List.range p.1.toNat).map λi=>D.int (i:Nat)).take sizeLine) [none,dM r] U1:=by unfold jq qR;rw[em];rfl
  rw[AZ]
  cases ek:pr (pn W) p.1.toNat p.2 with
  |none=>
   rw[ek] at mc;let⟨U',c1⟩:=mc;refine{U',?_};rw[io,eP,bN,ex,bt,xc,c1]
  |some p'=>
   rw[ek] at mc;let⟨c1,c2,c3,U',c4,c5,c6⟩:=mc;have z:((List.range p.1.toNat).map λi=>D.int (i:Nat)).length<=sizeLine:=bK (by simp;omega);have r1:=kM (j:=p.1) (U:=U1) ∅;refine{?_,c2,_,?_,c5.new _,(f2.trans c6).trans (Fr.new (.lst p'.1))}
   ·rw[io,eP,bN,ex,bt,xc,c1]
   ·rw[p6];push_cast [iY,em,r1,z,b,c4,Bj];rfl
end
end LW
namespace LW
open HW L2
abbrev wN (k:Int):Str:=Tx (tn k)
abbrev wC (cs:Tj):To:=wN cs.length::cs.map wN
abbrev A3 (p:Int×Int):D:=.tup [.int p.1,.int p.2]
abbrev wP (ps:A0 (Int×Int)):To:=wN ps.length::ps.flatMap λp=>[wN p.1,wN p.2]
def Nm (k:Int):Prop:=k.natAbs<10 ^ 60
def vz {Z:Type}{l:A0 Z}(h:l.length<1000):Nm (l.length:Int):=by
 show((l.length:Nat):Int).natAbs<10 ^ 60
 rw[zb5];exact Dl h ∅
def iL:iK 60 (.str "ask")=true:=by kernel_rfl
def dw:iK 60 (.str "column")=true:=by kernel_rfl
def cO:iK 60 (.str "columns")=true:=by kernel_rfl
def dq:iK 60 (.str "number")=true:=by kernel_rfl
def eN:iK 60 (.str "pairs")=true:=by kernel_rfl
structure Kd (s:Str)(a c n cs ps:Bool):Prop where
 ok:iK 60 (.str s)=true
 a:j2 (.str s) (.str "ask")=a
 c:j2 (.str s) (.str "column")=c
 n:j2 (.str s) (.str "number")=n
 cs:j2 (.str s) (.str "columns")=cs
 ps:j2 (.str s) (.str "pairs")=ps
def Pc:Kd "ask" true false false false false:={by kernel_rfl,by kernel_rfl,by kernel_rfl,by kernel_rfl,by kernel_rfl,by kernel_rfl}
def JCw:Kd "column" false true false false false:={by kernel_rfl,by kernel_rfl,by kernel_rfl,by kernel_rfl,by kernel_rfl,by kernel_rfl}
def JCv:Kd "number" false false true false false:={by kernel_rfl,by kernel_rfl,by kernel_rfl,by kernel_rfl,by kernel_rfl,by kernel_rfl}
def JBt:Kd "columns" false false false true false:={by kernel_rfl,by kernel_rfl,by kernel_rfl,by kernel_rfl,by kernel_rfl,by kernel_rfl}
def GL:Kd "pairs" false false false false true:={by kernel_rfl,by kernel_rfl,by kernel_rfl,by kernel_rfl,by kernel_rfl,by kernel_rfl}
def L3:Kd "word" false false false false false:={by kernel_rfl,by kernel_rfl,by kernel_rfl,by kernel_rfl,by kernel_rfl,by kernel_rfl}
def L4:Kd "name" false false false false false:={by kernel_rfl,by kernel_rfl,by kernel_rfl,by kernel_rfl,by kernel_rfl,by kernel_rfl}
structure Lt (w:Str):Prop where
 rd:dN [.str w]=some (.str w)
 ok:iK 60 (.str w)=true
 sp:32∉w.cps.toList
 le:w.length<=61
inductive Th (A:D->List Str->Prop):D×To×D->Prop
 |ask {a ws}:A a ws->Th A (.str "ask",ws,a)
 |col {k:Int}:Nm k->Th A (.str "column",[wN k],.int k)
 |num {k:Int}:Nm k->Th A (.str "number",[wN k],.int k)
 |cols {cs:Tj}:cs.length<10->(∀c∈cs,Nm c)->Th A (.str "columns",wC cs,.tup (cs.map .int))
 |pairs {ps:List (Int×Int)}:ps.length<10->(∀p∈ps,Nm p.1/\Nm p.2)->Th A (.str "pairs",wP ps,.tup (ps.map A3))
 |word {w}:Lt w->Th A (.str "word",[w],.str w)
 |name {w}:Lt w->Th A (.str "name",[w],.str w)
def AK:Nat->D->A0 Str->Prop
 |0=>λ_ _=>False
 |k+1=>λa ws=>∃(wd:Str) (pw:A0 (D×To×D)),hG [.str wd]=some (.tup (pw.map (·.1)))/\Lt wd/\a=.tup (.str wd::pw.map (·.2.2))/\ws=wd::pw.flatMap (·.2.1)/\pw.length<10/\∀p∈pw,Th (AK k) p
theorem Th.mono {A B:D->A0 Str->Prop}(h:∀a ws,A a ws->B a ws){p}(t:Th A p):Th B p:=by
 cases t with
 |ask t=>exact .ask (h _ _ t)
 |col t=>exact .col t
 |num t=>exact .num t
 |cols t u=>exact .cols t u
 |pairs t u=>exact .pairs t u
 |word t=>exact .word t
 |name t=>exact .name t
theorem AK.up:∀{k a ws},AK k a ws->AK (k+1) a ws
 |0,_,_,h=>h.elim
 |k+1,a,ws,hh=>let ⟨wd,pw,h1,h2,h3,h4,h5,h6⟩:=hh;{wd,pw,h1,h2,h3,h4,h5,λp hp=>(h6 p hp).mono λ_ _=>AK.up}
theorem AK.le {k m a ws}(h:AK k a ws)(hm:k<=m):AK m a ws:=by
 induction hm with
 |refl=>exact h
 |step _ ih=>exact ih.up
open PyProof.Rows PySem.NumText PySem.W
inductive Ki where
 |ask|col|num|cols|prs|wrd|nam
abbrev kN:Ki->Str
 |.ask=>"ask" | .col=>"column" | .num=>"number" | .cols=>"columns" | .prs=>"pairs" | .wrd=>"word" | .nam=>"name"
abbrev kD (k:Ki):D:=.str (kN k)
noncomputable def xE (W:A0 (A0 Nat))(P:Nat->UO (D×Nat)):Ki->Nat->UO (D×Nat)
 |.ask=>P|.col=>pn W|.num=>pn W|.cols=>pc W (pn W)|.prs=>pc W (p2 W)|.wrd=>Gb W|.nam=>Gb W
section
variable {O:Lo}{U U' U1:ah}{r q i:Nat}{W:A0 (A0 Nat)}{F:MW}{XF:og}{dp:Int}{s:Str}
theorem Sp.of_eq {o o':UO (R×ah)}{x x':UO (Str×ah)}{res:UO (D×Nat)}(h:Sp o x r q W U res)(ho:∀d U',o=some (.v d,U')->o'=some (.v d,U'))(hx:∀U',x=some (NT,U')->x'=some (NT,U'))(hn:∀d U',o=some (.v d,U')->x=none->x'=none):Sp o' x' r q W U res:=by
 cases res with
 |none=>let⟨U',e⟩:=h;exact{U',hx U' e}
 |some p=>
  let⟨e,hj,U',e',h1,h2⟩:=h;exact{hn _ _ e' e,hj,U',ho _ _ e',h1,h2}
def MN {res:UO (D×Nat)}(h:Sp (F [.p r,.v (.int (dp+1))] U) (XF [.p r,.v (.int (dp+1))] U) r q W U res):Sp (bS F [.p r,.v (.str "ask"),.v (.int dp)] U) (b0 F XF [.p r,.v (.str "ask"),.v (.int dp)] U) r q W U res:=by
 have k:=Pc;have c:gK F 2 (ac (af 0) (ac (ax bu (af 2) (fK (.int 1))) ai)) [dM r,some (.v (.str "ask")),de dp] U=F [.p r,.v (.int (dp+1))] U:=rfl;have cx:ik XF 2 (ac (af 0) (ac (ax bu (af 2) (fK (.int 1))) ai)) [dM r,some (.v (.str "ask")),de dp] U=XF [.p r,.v (.int (dp+1))] U:=rfl;refine h.of_eq (λd U' e=>?_) (λU' e=>?_) λd U' e e'=>?_
 ·rw[gq];push_cast [en,iL,k.a,c,e];rfl
 ·rw[bY];push_cast [bR,aW,aO,aR,bN,bA,bt,ci,bC,bB,cp,cz,cy,be,cB,cA,cu,bF,aZ,bG,bH,aI,bI,aY,iL,k.a,cx,e]
 ·rw[bY];push_cast [bR,aW,aO,aR,bN,bA,bt,ci,bC,bB,cp,cz,cy,be,cB,cA,cu,bF,aZ,bG,bH,aI,bI,aY,iL,k.a,cx,c,e,e']
def DI {a b:A9}(kd:Kd s false a b false false)(hab:(a || b)=true)(h:RS r q (tS W) i U)(hi:i<=W.length)(g:GW W):Sp (bS F [.p r,.v (.str s),.v (.int dp)] U) (b0 F XF [.p r,.v (.str s),.v (.int dp)] U) r q W U (pn W i):=by
 have ex:=da (xf:=aE) (O:=[dM r,some (.v (.str s)),de dp]) (fo:=af 0) h rfl Jo wT;have em:=je (f:=aq) (O:=[dM r,some (.v (.str s)),de dp]) (fo:=af 0) (m:=1) h rfl Jo wT;have sp:=nW (r:=r) (q:=q) (U:=U) h hi g;cases a
 ·cases b
  ·cases hab
  ·refine sp.of_eq (λd U' e=>?_) (λU' e=>?_) λd U' e e'=>?_
   ·rw[e] at em;rw[gq];push_cast [en,kd.ok,iL,dw,dq,cO,eN,kd.a,kd.c,kd.n,kd.cs,kd.ps,em];rfl
   ·rw[e] at ex;rw[bY];push_cast [bR,aW,aO,aR,bN,bA,bt,ci,bC,bB,cp,cz,cy,be,cB,cA,cu,bF,aZ,bG,bH,aI,bI,aY,kd.ok,iL,dw,dq,cO,eN,kd.a,kd.c,kd.n,kd.cs,kd.ps,ex]
   ·rw[e'] at ex;rw[e] at em;rw[bY];push_cast [bR,aW,aO,aR,bN,bA,bt,ci,bC,bB,cp,cz,cy,be,cB,cA,cu,bF,aZ,bG,bH,aI,bI,aY,kd.ok,iL,dw,dq,cO,eN,kd.a,kd.c,kd.n,kd.cs,kd.ps,ex,em]
 ·refine sp.of_eq (λd U' e=>?_) (λU' e=>?_) λd U' e e'=>?_
  ·rw[e] at em;rw[gq];push_cast [en,kd.ok,iL,dw,dq,cO,eN,kd.a,kd.c,kd.n,kd.cs,kd.ps,em];rfl
  ·rw[e] at ex;rw[bY];push_cast [bR,aW,aO,aR,bN,bA,bt,ci,bC,bB,cp,cz,cy,be,cB,cA,cu,bF,aZ,bG,bH,aI,bI,aY,kd.ok,iL,dw,dq,cO,eN,kd.a,kd.c,kd.n,kd.cs,kd.ps,ex]
  ·rw[e'] at ex;rw[e] at em;rw[bY];push_cast [bR,aW,aO,aR,bN,bA,bt,ci,bC,bB,cp,cz,cy,be,cB,cA,cu,bF,aZ,bG,bH,aI,bI,aY,kd.ok,iL,dw,dq,cO,eN,kd.a,kd.c,kd.n,kd.cs,kd.ps,ex,em]
def B2 (kd:Kd s false false false false false)(h:RS r q (tS W) i U)(hi:i<=W.length)(g:GW W):Sp (bS F [.p r,.v (.str s),.v (.int dp)] U) (b0 F XF [.p r,.v (.str s),.v (.int dp)] U) r q W U (Gb W i):=by
 have ex:=da (xf:=cT) (O:=[dM r,some (.v (.str s)),de dp]) (fo:=af 0) h rfl Ua O5;have em:=je (f:=cj) (O:=[dM r,some (.v (.str s)),de dp]) (fo:=af 0) (m:=1) h rfl Ua O5;refine(yB h hi g).of_eq (λd U' e=>?_) (λU' e=>?_) λd U' e e'=>?_
 ·rw[e] at em;rw[gq];push_cast [en,kd.ok,iL,dw,dq,cO,eN,kd.a,kd.c,kd.n,kd.cs,kd.ps,em];rfl
 ·rw[e] at ex;rw[bY];push_cast [bR,aW,aO,aR,bN,bA,bt,ci,bC,bB,cp,cz,cy,be,cB,cA,cu,bF,aZ,bG,bH,aI,bI,aY,kd.ok,iL,dw,dq,cO,eN,kd.a,kd.c,kd.n,kd.cs,kd.ps,ex]
 ·rw[e'] at ex;rw[bY];push_cast [bR,aW,aO,aR,bN,bA,bt,ci,bC,bB,cp,cz,cy,be,cB,cA,cu,bF,aZ,bG,bH,aI,bI,aY,kd.ok,iL,dw,dq,cO,eN,kd.a,kd.c,kd.n,kd.cs,kd.ps,ex]
def G8 (h:RS r q (tS W) i U)(hi:i<=W.length)(g:GW W):Sp (bS F [.p r,.v (.str "columns"),.v (.int dp)] U) (b0 F XF [.p r,.v (.str "columns"),.v (.int dp)] U) r q W U (pc W (pn W) i):=by
 have kd:=JBt;have ex:=da (xf:=cR) (O:=[dM r,some (.v (.str "columns")),de dp]) (fo:=af 0) h rfl T9 O4;have em:=je (f:=bX) (O:=[dM r,some (.v (.str "columns")),de dp]) (fo:=af 0) (m:=1) h rfl T9 O4;refine(yr h hi g).of_eq (λd U' e=>?_) (λU' e=>?_) λd U' e e'=>?_
 ·rw[e] at em;rw[gq];push_cast [en,kd.ok,iL,dw,dq,cO,eN,kd.a,kd.c,kd.n,kd.cs,kd.ps,em];rfl
 ·rw[e] at ex;rw[bY];push_cast [bR,aW,aO,aR,bN,bA,bt,ci,bC,bB,cp,cz,cy,be,cB,cA,cu,bF,aZ,bG,bH,aI,bI,aY,kd.ok,iL,dw,dq,cO,eN,kd.a,kd.c,kd.n,kd.cs,kd.ps,ex]
 ·rw[e'] at ex;rw[e] at em;rw[bY];push_cast [bR,aW,aO,aR,bN,bA,bt,ci,bC,bB,cp,cz,cy,be,cB,cA,cu,bF,aZ,bG,bH,aI,bI,aY,kd.ok,iL,dw,dq,cO,eN,kd.a,kd.c,kd.n,kd.cs,kd.ps,ex,em]
theorem JT {x:UO R}(h:RS r q (tS W) i U)(hi:i<=W.length)(g:GW W):Sp (c9 (ac (bT "Reader" "number" aq 1 (af 1) ai) (ac (bT "Reader" "number" aq 1 (af 1) ai) ai)) [x,dM r] U)
  (nN (dH "Reader" "number" aE 1 (af 1) ai) (oS (bT "Reader" "number" aq 1 (af 1) ai) (dH "Reader" "number" aE 1 (af 1) ai)) [x,dM r] U) r q W U (p2 W i):=by
 have ex:=da (xf:=aE) (O:=[x,dM r]) (fo:=af 1) h rfl Jo wT;have em:=je (f:=aq) (O:=[x,dM r]) (fo:=af 1) (m:=1) h rfl Jo wT;have s1:=nW h hi g;unfold p2
 cases e:pn W i with
 |none=>
  rw[e] at s1;let⟨U',e1⟩:=s1;rw[e1] at ex;exact{U',by rw[bN,ex];rfl}
 |some p=>
  rw[e] at s1;let⟨e1,hj,U1,e2,h2,f2⟩:=s1;rw[e1] at ex;rw[e2] at em;have ex2:=da (xf:=aE) (O:=[x,dM r]) (fo:=af 1) h2 rfl Jo wT;have em2:=je (f:=aq) (O:=[x,dM r]) (fo:=af 1) (m:=1) h2 rfl Jo wT;have s2:=nW h2 hj g
  have xa:oS (bT "Reader" "number" aq 1 (af 1) ai) (dH "Reader" "number" aE 1 (af 1) ai) [x,dM r] U=dH "Reader" "number" aE 1 (af 1) ai [x,dM r] U1:=by
   unfold oS;rw[em];rfl
  rw[AZ]
  cases e':pn W p.2 with
  |none=>
   rw[e'] at s2;let⟨U',e3⟩:=s2;rw[e3] at ex2;exact{U',by rw[bN,ex,bt,xa,ex2]}
  |some p'=>
   rw[e'] at s2;let⟨e3,hj',U2,e4,h3,f3⟩:=s2;rw[e3] at ex2;rw[e4] at em2;refine{by rw[bN,ex,bt,xa,ex2],hj',U2,?_,h3,f2.trans f3};push_cast [em,em2]
theorem Ld (h:RS r q (tS W) i U)(hi:i<=W.length)(g:GW W):Sp (bS F [.p r,.v (.str "pairs"),.v (.int dp)] U) (b0 F XF [.p r,.v (.str "pairs"),.v (.int dp)] U) r q W U (pc W (p2 W) i):=by
 have kd:=GL;have hW:W.length<4000:=by have:=h.sm;rw[kC] at this;exact this
 have ms:=zR h hi g;have ex:=da (xf:=cC) (O:=[dM r,some (.v (.str "pairs")),de dp]) (fo:=af 0) h rfl QD Gz;have em:=je (f:=bp) (O:=[dM r,some (.v (.str "pairs")),de dp]) (fo:=af 0) (m:=1) h rfl QD Gz;have b:fU 1 [0] [some (R.p r),some (.v (.str "pairs")),de dp]=[none,dM r]:=rfl;unfold pc
 cases e:pm W i with
 |none=>
  rw[e] at ms;let⟨U',e1⟩:=ms;refine{U',?_};rw[e1] at ex;rw[bY];push_cast [bR,aW,aO,aR,bN,bA,bt,ci,bC,bB,cp,cz,cy,be,cB,cA,cu,bF,aZ,bG,bH,aI,bI,aY,kd.ok,iL,dw,dq,cO,eN,kd.a,kd.c,kd.n,kd.cs,kd.ps,ex]
 |some p=>
  rw[e] at ms;obtain⟨e1,hj,U1,e2,h2,f2⟩:=ms;obtain⟨k0,-,-⟩:=Ga e;rw[e1] at ex;rw[e2] at em;have mc:=uA (f:=c9 (ac (bT "Reader" "number" aq 1 (af 1) ai) (ac (bT "Reader" "number" aq 1 (af 1) ai) ai))) (xb:=nN (dH "Reader" "number" aE 1 (af 1) ai) (oS (bT "Reader" "number" aq 1 (af 1) ai) (dH "Reader" "number" aE 1 (af 1) ai))) (rest:=[dM r]) (s:=p2 W) h2 hj hW k0 (λi p=>OS) (λx i U h' Dk=>JT h' Dk g) none;have xc:jq [0] 1 (qR (bT "Reader" "many" bp 1 (af 0) ai)) (gY 0) gS (c9 (ac (bT "Reader" "number" aq 1 (af 1) ai) (ac (bT "Reader" "number" aq 1 (af 1) ai) ai))) (nN (dH "Reader" "number" aE 1 (af 1) ai) (oS (bT "Reader" "number" aq 1 (af 1) ai) (dH "Reader" "number" aE 1 (af 1) ai))) [dM r,some (.v (.str "pairs")),de dp] U=j3 (gY 0) gS (c9 (ac (bT "Reader" "number" aq 1 (af 1) ai) (ac (bT "Reader" "number" aq 1 (af 1) ai) ai))) (nN (dH "Reader" "number" aE 1 (af 1) ai) (oS (bT "Reader" "number" aq 1 (af 1) ai) (dH "Reader" "number" aE 1 (af 1) ai))) (((List.range p.1.toNat).map λi=>D.int (i:Nat)).take sizeLine) [none,dM r] U1:=by unfold jq qR;rw[em];rfl
  rw[AZ]
  cases ek:pr (p2 W) p.1.toNat p.2 with
  |none=>
   rw[ek] at mc;let⟨U',c1⟩:=mc;refine{U',?_};rw[c1] at xc;rw[bY];push_cast [bR,aW,aO,aR,bN,bA,bt,ci,bC,bB,cp,cz,cy,be,cB,cA,cu,bF,aZ,bG,bH,aI,bI,aY,kd.ok,iL,dw,dq,cO,eN,kd.a,kd.c,kd.n,kd.cs,kd.ps,ex,xc]
  |some p'=>
   rw[ek] at mc;let⟨c1,c2,c3,U',c4,c5,c6⟩:=mc;have z:((List.range p.1.toNat).map λi=>D.int (i:Nat)).length<=sizeLine:=bK (by simp;omega);have r1:=kM (j:=p.1) (U:=U1) ∅;rw[c1] at xc;refine{?_,c2,_,?_,c5.new _,(f2.trans c6).trans (Fr.new (.lst p'.1))}
   ·rw[bY];push_cast [bR,aW,aO,aR,bN,bA,bt,ci,bC,bB,cp,cz,cy,be,cB,cA,cu,bF,aZ,bG,bH,aI,bI,aY,kd.ok,iL,dw,dq,cO,eN,kd.a,kd.c,kd.n,kd.cs,kd.ps,ex,xc,em,r1,z,b,c4,Bj]
   ·rw[gq];push_cast [en,kd.ok,iL,dw,dq,cO,eN,kd.a,kd.c,kd.n,kd.cs,kd.ps,em,r1,z,b,c4,Bj];rfl
end
abbrev Mt:A0 (A0 Nat×A0 Ki):=[([116,97,98,108,101],[.nam]),([112,105,99,107],[.ask,.col,.wrd,.num]),([116,119,105,110,115],[.ask,.col,.col]),([99,111,108,117,109,110,115],[.ask,.cols]),([106,111,105,110,101,100],[.ask,.ask,.wrd]),
 ([109,97,116,99,104,101,100],[.ask,.ask,.prs]),([99,111,117,110,116,101,100],[.ask,.cols]),([115,117,109,109,101,100],[.ask,.cols,.col]),([108,105,102,116,101,100],[.ask,.wrd,.num])]
noncomputable def fm (w:A0 Nat):UO (A0 Ki):=(Mt.find? λp=>decide (p.1=w)).map (·.2)
def PM:nH=Mt.map λp=>(Tx p.1,D.tup (p.2.map kD)):=by kernel_rfl
theorem vg {Z:Type}{s:Z->Nat->UO (D×Nat)}:∀{ks:A0 Z} {i:Nat} {p:A0 D×Nat},pk s ks i=some p->p.1.length=ks.length
 |[],i,p,h=>by cases h;rfl
 |k::ks,i,p,h=>by rw[pk] at h;let⟨a,e,h⟩:=AO.mp h;let⟨b,e',rfl⟩:=DG.mp h;rw[Bg,Bg,vg e']
theorem uM {Z β:Type}{f:Z->β}{p:β->A9}:∀l:A0 Z,(l.map f).find? p=(l.find? λa=>p (f a)).map f
 |[]=>rfl
 |a::l=>by
  rw[BA,F6,F6];cases p (f a)
  ·exact uM l
  ·rfl
def GX (w:A0 Nat):hG [sT w]=some (match fm w with|none=>.non|some ks=>.tup (ks.map kD)):=by
 have e:hG [sT w]=some (vO nH (Tx w)):=rfl;rw[e,PM];unfold vO fm;rw[uM];have h:∀p:A0 Nat×A0 Ki,decide (Tx p.1=Tx w)=decide (p.1=w):=λp=>by rw[decide_eq_decide];exact{λe=>by injection e with e;injection e,λe=>by rw[e]}
 have hf:(Mt.find? λa=>decide (((λp:A0 Nat×A0 Ki=>(Tx p.1,D.tup (p.2.map kD))) a).1=Tx w))=Mt.find? λp=>decide (p.1=w):=by congr 1;funext p;exact h p
 rw[hf];cases Mt.find? λp=>decide (p.1=w) <;> rfl
def Eg {w:A0 Nat}{ks:A0 Ki}(h:fm w=some ks):ks.length<=4:=by
 unfold fm at h;let⟨p,e,rfl⟩:=DG.mp h;have:∀p∈Mt,p.2.length<=4:=by decide
 exact this p (List.mem_of_find?_eq_some e)
noncomputable def pp (W:A0 (A0 Nat)):Nat->Nat->UO (D×Nat)
 |0,_=>none
 |n+1,i=>(W[i]?).bind λw=>(fm w).bind λks=>(pk (xE W (pp W n)) ks (i+1)).map λp=>(.tup (sT w::p.1),p.2)
section
variable {O:Lo}{U U':ah}{r q i:Nat}{W:A0 (A0 Nat)}{F:MW}{XF:og}{dp:Int}{s:Str}
theorem JCg {P:Nat->UO (D×Nat)}(hP:∀i U,RS r q (tS W) i U->i<=W.length->Sp (F [.p r,.v (.int (dp+1))] U) (XF [.p r,.v (.int (dp+1))] U) r q W U (P i))(k:Ki)(h:RS r q (tS W) i U)(hi:i<=W.length)(g:GW W) :
  Sp (bS F [.p r,.v (kD k),.v (.int dp)] U) (b0 F XF [.p r,.v (kD k),.v (.int dp)] U) r q W U (xE W P k i):=by
 cases k with
 |ask=>exact MN (hP i U h hi)
 |col=>exact DI JCw rfl h hi g
 |num=>exact DI JCv rfl h hi g
 |cols=>exact G8 h hi g
 |prs=>exact Ld h hi g
 |wrd=>exact B2 L3 h hi g
 |nam=>exact B2 L4 h hi g
def U2z {w:A0 Nat}(g:d9 w)(x y z:UO R):qi "no ask begins with " 2 [x,y,some (.v (sT w)),z]=true:=by
 unfold qi;rwa[List.getElem?_cons_succ,zbL];refine Bq ?_;have h:=PySem.StrLaws.reprText_len (Tx w) (λc hc=>Dl (g.sig c ‹hc›) ∅);have h':(reprText (Tx w)).length<=10*w.length+2:=by have q:=h;rw[c7] at q;exact q
 have:=g.len;have hs:(Str.ofString "no ask begins with ").length=19:=by decide
 rw[hs];exact Br (show _<=50000 by omega) ∅
theorem vp (g:GW W):∀(n i:Nat) (U:ah),n<=20->RS r q (tS W) i U->i<=W.length->Sp (bh (n+4) [.p r,.v (.int (21-n))] U) (bZ (n+4) [.p r,.v (.int (21-n))] U) r q W U (pp W n i)
 |0,i,U,_,h,hi=>by
  have gt:decide ((20:Int)<21-((0:Nat):Int))=true:=by decide
  refine{U,?_};rw[im];push_cast [fW,aW,aO,aR,bN,bA,bt,ci,bC,bB,cp,cz,cy,be,cB,cA,cu,bF,aZ,bG,bH,aI,bI,aY,gt]
 |n+1,i,U,hn,h,hi=>by
  have ih:=vp g n;have gt:decide ((20:Int)<21-((n+1:Nat):Int))=false:=Bf ∅;have dd:(21-((n+1:Nat):Int))+1=21-(n:Int):=by omega
  generalize hdp:(21-((n+1:Nat):Int))=dp at gt dd;have ex:=da (xf:=bg) (O:=[dM r,de dp,none,none]) (fo:=af 0) h rfl Jn wR;rw[pp]
  cases hw:W[i]? with
  |none=>
   rw[rg (h.at_end hi hw)] at ex;refine{U,?_};rw[show n+1+4=n+4+1 by omega,im];push_cast [fW,aW,aO,aR,bN,bA,bt,ci,bC,bB,cp,cz,cy,be,cB,cA,cu,bF,aZ,bG,bH,aI,bI,aY,gt,ex]
  |some w=>
   have gw:=g.at hw;rw[rf h (by rw[kC];exact jx hw)] at ex;have mw:=vD (O:=[dM r,de dp,none,none]) (fo:=af 0) h rfl (wz hw);have p1:=h.put (i+1);have fe:=GX w;rw[AZ]
   cases hf:fm w with
   |none=>
    rw[hf] at fe;have n1:∀U:ah,kx false .non (.v .non) U=some (.v (.bl true),U):=λU=>(by kernel_rfl);refine{U.set r (.ob "Reader" (m9 q (i+1:Nat))),?_};rw[show n+1+4=n+4+1 by omega,im];push_cast [fW,aW,aO,aR,bN,bA,bt,ci,bC,bB,cp,cz,cy,be,cB,cA,cu,bF,aZ,bG,bH,aI,bI,aY,gt,ex,mw,fe,n1,mD (U2z gw _ _ _)]
   |some ks=>
    rw[hf] at fe;have hk:=Eg hf;have n1:∀U:ah,kx false .non (.v (.tup (ks.map kD))) U=some (.v (.bl false),U):=λU=>(by kernel_rfl);have p2':=p1.new (.lst [sT w]);have cs:=vW kD (f:=gK (bS (bh (n+4))) 3 (ac (af 1) (ac (af 0) (ac (af 2) ai)))) (xb:=ik (b0 (bh (n+4)) (bZ (n+4))) 3 (ac (af 1) (ac (af 0) (ac (af 2) ai)))) (rest:=[dM r,de dp]) (s:=xE W (pp W n)) ks (i+1) _ none p2' (jx hw) (λk _ i U h' Dk=>by have c1:gK (bS (bh (n+4))) 3 (ac (af 1) (ac (af 0) (ac (af 2) ai))) [some (.v (kD k)),dM r,de dp] U=bS (bh (n+4)) [.p r,.v (kD k),.v (.int dp)] U:=rfl;have c2:ik (b0 (bh (n+4)) (bZ (n+4))) 3 (ac (af 1) (ac (af 0) (ac (af 2) ai))) [some (.v (kD k)),dM r,de dp] U=b0 (bh (n+4)) (bZ (n+4)) [.p r,.v (kD k),.v (.int dp)] U:=rfl;rw[c1,c2];exact JCg (λi U h' Dk=>by rw[dd];exact ih i U ∅ h' Dk) k h' Dk g)
    have b:fU 1 [0,1] [some (R.p r),de dp,some (.v (sT w)),some (.v (.tup (ks.map kD)))]=[none,dM r,de dp]:=rfl;have C3:1<=sizeLine:=∅;have zk:(ks.map kD).length<=sizeLine:=bK (by rw[BI];omega);have fl:eG (ac (af 2) ai) [some (R.p r),de dp,some (.v (sT w)),some (.v (.tup (ks.map kD)))] (U.set r (.ob "Reader" (m9 q (i+1:Nat))))=some (.p (U.set r (.ob "Reader" (m9 q (i+1:Nat)))).length,U.set r (.ob "Reader" (m9 q (i+1:Nat)))++[.lst [sT w]]):=by push_cast [C3]
    have xc:oS (eG (ac (af 2) ai)) (jq [0,1] 1 (ky (af 3)) (gY 0) gS (gK (bS (bh (n+4))) 3 (ac (af 1) (ac (af 0) (ac (af 2) ai)))) (ik (b0 (bh (n+4)) (bZ (n+4))) 3 (ac (af 1) (ac (af 0) (ac (af 2) ai))))) [some (R.p r),de dp,some (.v (sT w)),some (.v (.tup (ks.map kD)))] (U.set r (.ob "Reader" (m9 q (i+1:Nat))))
      = j3 (gY 0) gS (gK (bS (bh (n+4))) 3 (ac (af 1) (ac (af 0) (ac (af 2) ai)))) (ik (b0 (bh (n+4)) (bZ (n+4))) 3 (ac (af 1) (ac (af 0) (ac (af 2) ai)))) (ks.map kD) [none,dM r,de dp] (U.set r (.ob "Reader" (m9 q (i+1:Nat)))++[.lst [sT w]]):=by
     unfold oS;rw[fl,AZ];unfold jq;have fi:ky (af 3) [some (R.p r),de dp,some (.v (sT w)),some (.v (.tup (ks.map kD)))] (U.set r (.ob "Reader" (m9 q (i+1:Nat)))++[.lst [sT w]])=some (ks.map kD,U.set r (.ob "Reader" (m9 q (i+1:Nat)))++[.lst [sT w]]):=rfl;rw[fi,AZ,zbh zk,b]
    rw[AZ]
    cases ek:pk (xE W (pp W n)) ks (i+1) with
    |none=>
     rw[ek] at cs;let⟨U',c1⟩:=cs;rw[c1] at xc;refine{U',?_};rw[show n+1+4=n+4+1 by omega,im];push_cast [fW,aW,aO,aR,bN,bA,bt,ci,bC,bB,cp,cz,cy,be,cB,cA,cu,bF,aZ,bG,bH,aI,bI,aY,gt,ex,mw,fe,n1,xc]
    |some p=>
     rw[ek] at cs;obtain⟨c1,c2,U2,c3,c4,f2⟩:=cs;rw[c1] at xc;have kp:U2[(U.set r (.ob "Reader" (m9 q (i+1:Nat)))).length]?=some (.lst [sT w]):=by rw[f2.eq _ ∅ (by have:=h.lt;simp;omega),Bj]
     have kp2:(U2++[.lst p.1])[(U.set r (.ob "Reader" (m9 q (i+1:Nat)))).length]?=some (.lst [sT w]):=by rw[C0 (Bn.mp kp).1];exact kp
     have z2:1+p.1.length<=sizeLine:=(by have:=vg ek;exact bK ∅);have ad:re (.p (U.set r (.ob "Reader" (m9 q (i+1:Nat)))).length) (.p U2.length) (U2++[.lst p.1])=some (.p (U2++[et.lst p.1]).length,U2++[.lst p.1]++[.lst (sT w::p.1)]):=by have s1:o2 (.p (U.set r (.ob "Reader" (m9 q (i+1:Nat)))).length) (U2++[.lst p.1])=some [sT w]:=(by unfold o2;rwa[kp2]);have s2:o2 (.p U2.length) (U2++[.lst p.1])=some p.1:=(by unfold o2;rwa[Bj]);unfold re;rwa[s1,s2,AZ,Bg,zbu,zci,z2,if_true,List.singleton_append]
     refine{?_,c2,U2++[.lst p.1]++[.lst (sT w::p.1)],?_,(c4.new _).new _,((((Fr.set _).trans (Fr.new _)).trans f2).trans (Fr.new _)).trans (Fr.new _)}
     ·rw[show n+1+4=n+4+1 by omega,im];push_cast [fW,aW,aO,aR,bN,bA,bt,ci,bC,bB,cp,cz,cy,be,cB,cA,cu,bF,aZ,bG,bH,aI,bI,aY,gt,ex,mw,fe,n1,xc]
     ·rw[show n+1+4=n+4+1 by omega,wt];push_cast [nI,gt,mw,fe,n1,zk,b,c3,ad,Bj,C3];rfl
end
abbrev sD (ws:To):A0 D:=ws.map D.str
theorem pV:∀l:To,flatDs (sD l)=true
 |[]=>rfl
 |i::l=>by rw[sD,BA,flatDs];simp[mj,pV l]
structure GT (l:List Nat):Prop where
 gd:d9 l
 le:l.length<=3998
def zu {l:A0 Nat}(g:d9 l):GW (sp l):=λw hw=>{Br ((ya l).1 w hw) g.len,λc hc=>g.sig c (xZ l w hw c hc)}
def CM {l:A0 Nat}(g:GT l):(sp l).length<4000:=by have:=(ya l).2;have:=g.le;omega
noncomputable def pa (l:A0 Nat):UO D:=(pp (sp l) 20 0).bind λp=>if p.2=(sp l).length then some p.1 else none
def zm (W:A0 (A0 Nat)):W.map sT=(tS W).map D.str:=by rw[E9];rfl
def GP {l:A0 Nat}(g:GT l):cY [.p 0,.v (sT l)] [.ob "Reader" []]=some (.v .non,[.ob "Reader" (m9 1 0),.lst ((tS (sp l)).map D.str)]):=by
 have wo:=JDg (l:=l) (by have:=g.le;omega);rw[zm] at wo;have fl:=pV (tS (sp l));have e1:(ju gc 1 (ac (af 1) ai)) [dM 0,some (.v (sT l))] [.ob "Reader" []]=some (.p 1,[.ob "Reader" [],.lst ((tS (sp l)).map D.str)]):=by push_cast [wo,fl]
 have f1:r6 "Reader" "words" (af 0) (ju gc 1 (ac (af 1) ai)) [dM 0,some (.v (sT l))] [.ob "Reader" []]=some (.nx [dM 0,some (.v (sT l))] [.ob "Reader" [("words",.p 1)],.lst ((tS (sp l)).map D.str)]):=by unfold r6;rw[e1];rfl
 have f2:r6 "Reader" "place" (af 0) (fK (.int 0)) [dM 0,some (.v (sT l))] [.ob "Reader" [("words",.p 1)],.lst ((tS (sp l)).map D.str)]=some (.nx [dM 0,some (.v (sT l))] [.ob "Reader" (m9 1 0),.lst ((tS (sp l)).map D.str)]):=by
  have pf:oH "place" (.v (.int 0)) [("words",.p 1)]=m9 1 0:=by simp[oH,N5]
  show some (oP.nx _ [.ob "Reader" (oH "place" (.v (.int 0)) [("words",.p 1)]),.lst ((tS (sp l)).map D.str)])=_
  rw[pf]
 rw[tI];push_cast [kU,f1,f2];rfl
def zS {l:A0 Nat}(g:GT l):qA "Reader" cY 2 (ac (af 0) ai) [some (.v (sT l)),none,none] []=some (.p 0,[.ob "Reader" (m9 1 0),.lst ((tS (sp l)).map D.str)]):=by
 show((cY [.p 0,.v (sT l)] [.ob "Reader" []]).bind _)=_
 rw[GP g];rfl
def wg (l:A0 Nat):rG "Reader" dz 2 (ac (af 0) ai) [some (.v (sT l)),none,none] []=none:=by
 have e:dz [.p 0,.v (sT l)] [.ob "Reader" []]=none:=by rw[rL];push_cast [kB,aW,aO,aR,bN,bA,bt,ci,bC,bB,cp,cz,cy,be,cB,cA,cu,bF,aZ,bG,bH,aI,bI,aY,JDf]
 show dz [.p 0,.v (sT l)] [.ob "Reader" []]=none
 exact e
def IP {l:A0 Nat}(g:GT l):RS 0 1 (tS (sp l)) 0 [.ob "Reader" (m9 1 0),.lst ((tS (sp l)).map D.str)]:={rfl,rfl,by rw[kC];exact CM g}
theorem MM {l:A0 Nat}(g:GT l)(h:pa l=none):b9 [sT l]=some NT:=by
 have s:=vp (zu g.gd) 20 0 _ ∅ (IP g) (E8 _);unfold pa at h;have xm:=wg l;have mk:=zS g;have i1:(21-((20:Nat):Int))=1:=by decide
 rw[i1] at s
 cases e:pp (sp l) 20 0 with
 |none=>
  rw[e] at s;obtain⟨U',s⟩:=s;have xc:ik (bZ 24) 2 (ac (af 1) (ac (fK (.int 1)) ai)) [some (.v (sT l)),dM 0,none] [.ob "Reader" (m9 1 0),.lst ((tS (sp l)).map D.str)]=some (NT,U'):=s;rw[mJ];push_cast [jL,aW,aO,aR,bN,bA,bt,ci,bC,bB,cp,cz,cy,be,cB,cA,cu,bF,aZ,bG,bH,aI,bI,aY,xm,mk,xc]
 |some p=>
  rw[e] at s h;rw[AZ] at h;have hn:p.2≠(sp l).length:=λq=>by rw[A8 q] at h;cases h
  obtain⟨s1,s2,U',s3,s4,_⟩:=s;have xc:ik (bZ 24) 2 (ac (af 1) (ac (fK (.int 1)) ai)) [some (.v (sT l)),dM 0,none] [.ob "Reader" (m9 1 0),.lst ((tS (sp l)).map D.str)]=none:=s1;have cw:gK (bh 24) 2 (ac (af 1) (ac (fK (.int 1)) ai)) [some (.v (sT l)),dM 0,none] [.ob "Reader" (m9 1 0),.lst ((tS (sp l)).map D.str)]=some (.v p.1,U'):=s3;have xf:=da (xf:=cE) (O:=[some (.v (sT l)),dM 0,some (.v p.1)]) (fo:=af 1) s4 rfl RJ LM;rw[Mx s4 (by rw[kC];exact hn)] at xf;rw[mJ];push_cast [jL,aW,aO,aR,bN,bA,bt,ci,bC,bB,cp,cz,cy,be,cB,cA,cu,bF,aZ,bG,bH,aI,bI,aY,xm,mk,xc,cw,xf]
theorem ML {l:A0 Nat}{a:D}(g:GT l)(h:pa l=some a):b9 [sT l]=none/\iX [sT l]=some a:=by
 have s:=vp (zu g.gd) 20 0 _ ∅ (IP g) (E8 _);unfold pa at h;have xm:=wg l;have mk:=zS g;have i1:(21-((20:Nat):Int))=1:=by decide
 rw[i1] at s
 cases e:pp (sp l) 20 0 with
 |none=>rw[e] at h;cases h
 |some p=>
  rw[e] at s h;rw[AZ] at h;have hn:p.2=(sp l).length:=by
   by_cases q:p.2=(sp l).length
   ·exact q
   ·rw[AE q] at h;cases h
  rw[A8 hn] at h;cases h;obtain⟨s1,s2,U',s3,s4,_⟩:=s;have xc:ik (bZ 24) 2 (ac (af 1) (ac (fK (.int 1)) ai)) [some (.v (sT l)),dM 0,none] [.ob "Reader" (m9 1 0),.lst ((tS (sp l)).map D.str)]=none:=s1;have cw:gK (bh 24) 2 (ac (af 1) (ac (fK (.int 1)) ai)) [some (.v (sT l)),dM 0,none] [.ob "Reader" (m9 1 0),.lst ((tS (sp l)).map D.str)]=some (.v p.1,U'):=s3;have s4:RS 0 1 (tS (sp l)) p.2 U':=s4;rw[hn,←kC] at s4;have xf:=da (xf:=cE) (O:=[some (.v (sT l)),dM 0,some (.v p.1)]) (fo:=af 1) s4 rfl RJ LM;rw[Mw s4] at xf;have mf:=je (O:=[some (.v (sT l)),dM 0,some (.v p.1)]) (fo:=af 1) (f:=dh) (m:=1) s4 rfl RJ LM;rw[PN s4] at mf;refine{?_,?_}
  ·rw[mJ];push_cast [jL,aW,aO,aR,bN,bA,bt,ci,bC,bB,cp,cz,cy,be,cB,cA,cu,bF,aZ,bG,bH,aI,bI,aY,xm,mk,xc,cw,xf]
  ·rw[xL];push_cast [ph,mk,cw,mf]
def Hl:b9 [.non]=some NT:=by kernel_rfl
def Hk:b9 [.int 7]=some NT:=by kernel_rfl
def Hj:b9 [.bl true]=some NT:=by kernel_rfl
def Hi:b9 [.fl [.str "table a"]]=some NT:=by kernel_rfl
def Hh:b9 [.tup [.str "table",.str "a"]]=some NT:=by kernel_rfl
end LW
namespace HW
open L2
noncomputable def Ny (o:UO (A0 D))(lo hi:UO Int)(U:ah):UO (R×ah):=o.bind λxs=>some (.p U.length,U++[.lst (lu xs lo hi)])
def oK {n:Nat}{lo hi:UO Int}{U:ah}:Fq (.p n) lo hi U=Ny (EX U[n]?) lo hi U:=by
 show(lK (.p n) U).bind _=_
 have:lK (.p n) U=EX U[n]?:=by
  cases h:U[n]? with
  |none=>simp[lK,EX,h]
  |some c=>cases c <;> simp[lK,EX,h]
 rw[this];rfl
def kP {xs:A0 D}{lo hi:UO Int}{U:ah}:Ny (some xs) lo hi U=some (.p U.length,U++[.lst (lu xs lo hi)]):=rfl
noncomputable def TV (o:UO (A0 D))(U:ah):UO (R×ah):=o.bind λds=>(sR ds).bind λos=>some (.v (.bl (os.contains none)),U)
noncomputable def ND (o:UO (A0 (UO Int)))(U:ah):UO (R×ah):=o.bind λos=>some (.v (.bl (os.contains none)),U)
def uj {n:Nat}{U:ah}:M5 false (.v .non) (.p n) U=TV (EX U[n]?) U:=by
 show(iM (.p n) U).bind _=_
 rw[ME];rfl
def oN {xs:A0 D}{U:ah}:TV (some xs) U=ND (sR xs) U:=rfl
def oM {os:A0 (UO Int)}{U:ah}:ND (some os) U=some (.v (.bl (os.contains none)),U):=rfl
end HW
namespace LW
open HW L2 PyProof.Rows PySem.NumText PySem.W
theorem Mu (l:A0 Nat)(x0:UO R)(U:ah):ic (gY 0) (fB (ax (uH true) (af 0) (fK (.str "abcdefghijklmnopqrstuvwxyz")))) (af 0) (l.map λc=>D.str (Tx [c])) [x0] U=some ((l.filter λc=>!decide (c∈az)).map (λc=>D.str (Tx [c])),U):=by
 induction l generalizing x0 with
 |nil=>rfl
 |cons c r ih=>
  have h1:fB (ax (uH true) (af 0) (fK (.str "abcdefghijklmnopqrstuvwxyz"))) [some (.v (.str (Tx [c])))] U=some (!decide (c∈az),U):=by push_cast [Ca,gE,dX,gG,d8,d6,dZ,dY,gD,dU,dR,dQ,di,gF,dW,gC,fZ]
  have h2:af 0 [some (.v (.str (Tx [c])))] U=some (.v (.str (Tx [c])),U):=rfl
  cases hd:decide (c∈az) with
  |true=>
   rw[hd] at h1;rwa[BA,ic,gY,zbw,AZ,h1,DS,DY,if_false,ih,zbQ,hd]
  |false=>
   rw[hd] at h1;rwa[BA,ic,gY,zbw,AZ,h1,h2,EH,if_true,ih,zbQ,hd]
def GO {l:A0 Nat}(h:mz l=false):(l.length:Int)<1\/8<(l.length:Int)\/(l.filter λc=>!decide (c∈az))≠[]:=by
 by_cases a1:(l.length:Int)<1
 ·exact .inl a1
 by_cases a2:8<(l.length:Int)
 ·exact .inr (.inl a2)
 refine .inr (.inr λe=>?_);have:mz l=true:=by
  unfold mz;rwa[DX,decide_eq_true_eq,F0];refine{by omega,by omega,λc hc=>?_};rw[zby] at e;have:=e c hc
  cases hd:decide (c∈az) with
  |true=>exact of_decide_eq_true hd
  |false=>rw[hd] at this;exact AH rfl this
 rw[this] at h;cases h
def JCk {l:A0 Nat}(h:mz l=true):1<=l.length/\l.length<=8/\(l.filter λc=>!decide (c∈az))=[]/\∀c∈l,c∈az:=by unfold mz at h;rwa[DX,decide_eq_true_eq,F0] at h;refine{by omega,by omega,?_,λc hc=>h.2.2 c hc};rw[zby];intro c hc;simp[h.2.2 c hc]
def S1:j2 (.fl []) (.fl [])=true:=rfl
def uY {W:A0 (A0 Nat)}{i:Nat}{w:A0 Nat}(h:W[i]?=some w):n9 (W.map sT) (i:Int)=some (sT w):=by rw[zm];exact v5 (wz h)
abbrev wF (W:A0 (A0 Nat)):D:=.fl (W.map sT)
noncomputable def vl (b:A9):UO (A0 Nat)->D
 |none=>.non
 |some w=>if b then (if mz w=true then sT w else .non) else eD (nm w)
section
variable {W:A0 (A0 Nat)}{i:Nat}
theorem zN (g:GW W)(i:Nat):ez [wF W,.int i]=some (vl true W[i]?):=by
 rw[tD]
 cases hw:W[i]? with
 |none=>
  have h1:decide (((W.map sT).length:Int)<=(i:Int))=true:=Bq (by have:=zba.mp hw;rw[BI];omega);push_cast [cZ,h1,vl]
 |some w=>
  have h1:decide (((W.map sT).length:Int)<=(i:Int))=false:=Bf (by have:=jx hw;rw[BI];omega);have a1:=uY hw;have gw:=g.at hw;have hz:=gw.sz;have hm:(w.map λc=>D.str (Tx [c])).length<=sizeLine:=by rw[BI];exact hz
  have hf:=λx0 U=>Mu w x0 U
  cases hl:mz w with
  |true=>
   let⟨l1,l2,l3,_⟩:=JCk hl;have d1:decide ((w.length:Int)<1)=false:=Bf ∅;have d2:decide ((8:Int)<(w.length:Int))=false:=Bf ∅;rw[l3] at hf;push_cast [cZ,h1,a1,fY hz,d1,d2,gE,dX,gG,d8,d6,dZ,dY,gD,dU,dR,dQ,di,gF,dW,gC,fZ,A8 hm,hf,DC,OY,S1,vl,hl]
  |false=>
   have e:vl true (some w)=.non:=(by rwa[vl,hl];rfl);rw[e];rcases GO hl with h|h|h
   ·push_cast [cZ,h1,a1,fY hz,h,decide_true]
   ·have h':¬ (w.length:Int)<1:=by omega
    push_cast [cZ,h1,a1,fY hz,h,h',decide_true,decide_false]
   ·by_cases h2:(w.length:Int)<1
    ·push_cast [cZ,h1,a1,fY hz,h2,decide_true]
    by_cases h3:8<(w.length:Int)
    ·push_cast [cZ,h1,a1,fY hz,h2,h3,decide_true,decide_false]
    have hk:okDs 59 ((w.filter λc=>!decide (c∈az)).map λc=>D.str (Tx [c]))=true:=T8 λx hx=>gw.sig x ((zbU.mp hx).1);have FZ:=OX hk
    cases hq:(w.filter λc=>!decide (c∈az)) with
    |nil=>exact AH hq h
    |cons y ys=>
     rw[hq] at hf FZ;rwa[BA] at hf FZ;push_cast [cZ,h1,a1,fY hz,h2,h3,decide_false,gE,dX,gG,d8,d6,dZ,dY,gD,dU,dR,dQ,di,gF,dW,gC,fZ,A8 hm,hf,FZ,OY,MG,DM,EH]
noncomputable def rh (W:A0 (A0 Nat)):A0 A9->Nat->A0 D
 |[],_=>[]
 |b::ks,i=>vl b W[i]? :: rh W ks (i+1)
noncomputable def Ac:D->A9
 |.non=>true
 |_=>false
noncomputable def sb (W:A0 (A0 Nat))(b:A9)(i:Nat):UO (D×Nat):=if b then Gb W i else pn W i
theorem IM (b:A9)(i:Nat):sb W b i=if Ac (vl b W[i]?)=true then none else some (vl b W[i]?,i+1):=by
 unfold sb Gb pn
 cases b with
 |true=>
  cases hw:W[i]? with
  |none=>rfl
  |some w=>
   cases hl:mz w with
   |true=>rwa[vl,hl,if_true];simp[Ac,hl]
   |false=>rwa[vl,hl];simp[Ac,hl]
 |false=>
  cases hw:W[i]? with
  |none=>rfl
  |some w=>cases hn:nm w <;> simp[vl,hn,Ac,eD]
theorem yo:∀(ks:A0 A9) (i:Nat),pk (sb W) ks i=if (rh W ks i).any Ac=true then none else some (rh W ks i,i+ks.length)
 |[],i=>rfl
 |b::ks,i=>by
  rw[pk,IM,rh,CP]
  cases h:Ac (vl b W[i]?) with
  |true=>rfl
  |false=>
   rw[Bool.false_or,AE ∅,AZ,yo ks (i+1)];dsimp only
   cases h2:(rh W ks (i+1)).any Ac with
   |true=>rfl
   |false=>
    rw[AE ∅,AE ∅,DV,Bg];rw[show i+1+ks.length=i+(ks.length+1) by omega]
theorem vT:∀(ks:A0 A9) (i:Nat),∃os,sR (rh W ks i)=some os/\os.contains none=(rh W ks i).any Ac
 |[],i=>{[],rfl,rfl}
 |b::ks,i=>by
  let⟨os,e1,e2⟩:=vT ks (i+1);have fin:∀(d:D) (o:UO Int),(sR (d::rh W ks (i+1))=(sR (rh W ks (i+1))).bind λos=>some (o::os))->(o == none)=Ac d->∃os,sR (d::rh W ks (i+1))=some os/\os.contains none=(d::rh W ks (i+1)).any Ac:=λd o h1 h2=>by refine{o::os,by rw[h1,e1];rfl,?_};rw[zbJ,e2,CP,←h2];cases o <;> rfl
  rw[rh]
  cases b with
  |true=>
   cases hw:W[i]? with
   |none=>exact fin _ none rfl rfl
   |some w=>
    cases hl:mz w with
    |true=>rwa[vl,hl,if_true];exact fin _ (some 0) rfl rfl
    |false=>rwa[vl,hl];exact fin _ none rfl rfl
  |false=>
   cases hw:W[i]? with
   |none=>exact fin _ none rfl rfl
   |some w=>
    cases hn:nm w with
    |none=>rwa[vl,hn];exact fin _ none rfl rfl
    |some k=>rwa[vl,hn];exact fin _ (some k) rfl rfl
abbrev kb (b:A9):D:=if b then .str "word" else .str "number"
def O0:iK 60 (.str "word")=true:=by kernel_rfl
def RI:iK 60 (.str "number")=true:=by kernel_rfl
def S2:j2 (.str "word") (.str "word")=true:=by kernel_rfl
def S3:j2 (.str "number") (.str "word")=false:=by kernel_rfl
def Kc {b:A9}{x2 x4:UO R}{acc:A0 D}(h:W[i]?=none):bM [some (.v (wF W)),de ((i:Int)),x2,dM 0,some (.v (kb b))] [.lst acc]=some (.rt (.v .non) [.lst acc]):=by have h1:decide (((W.map sT).length:Int)<=(i:Int))=true:=Bq (by have:=zba.mp h;rw[BI];omega);push_cast [bM,h1]
theorem Kb {b:A9}{x2 x4:UO R}{acc:A0 D}{w:A0 Nat}(g:GW W)(hw:W[i]?=some w)(ha:acc.length<10):bM [some (.v (wF W)),de ((i:Int)),x2,dM 0,some (.v (kb b))] [.lst acc]=some (.nx [some (.v (wF W)),de (((i+1:Nat):Int)),x2,dM 0,some (.v (kb b))] [.lst (acc++[vl b W[i]?])]):=by
 have h1:decide (((W.map sT).length:Int)<=(i:Int))=false:=Bf (by have:=jx hw;rw[BI];omega);have a1:=uY hw;have z:acc.length<sizeLine:=lF ∅;have gw:=g.at hw;have c1:((i+1:Nat):Int)=(i:Int)+1:=by omega
 cases b with
 |true=>
  have n1:=zN g i;push_cast [bM,h1,kb,O0,S2,n1,z,c1]
 |false=>
  have n1:=yu gw;have e:vl false W[i]?=eD (nm w):=by rw[hw];rfl
  rw[e];push_cast [bM,h1,kb,O0,RI,S3,a1,n1,z,c1,DY,if_false]
theorem zw {x2:UO R}(g:GW W):∀(ks:A0 A9) (i:Nat) (acc:A0 D) (x4:UO R),acc.length+ks.length<10 ->
  (∃x4',ig (gY 4) bM (ks.map kb) [some (.v (wF W)),de ((i:Int)),x2,dM 0,x4] [.lst acc]=some (.nx [some (.v (wF W)),de (((i+ks.length:Nat):Int)),x2,dM 0,x4'] [.lst (acc++rh W ks i)])) \/
  ((∃U,ig (gY 4) bM (ks.map kb) [some (.v (wF W)),de ((i:Int)),x2,dM 0,x4] [.lst acc]=some (.rt (.v .non) U))/\(rh W ks i).any Ac=true)
 |[],i,acc,x4,_=>.inl {x4,by rw[rh,Dr];rfl}
 |b::ks,i,acc,x4,h=>by
  rw[Bg] at h
  cases hw:W[i]? with
  |none=>
   have s0:=Kc (b:=b) (x2:=x2) (x4:=x4) (acc:=acc) hw;refine .inr {{[.lst acc],?_},by rw[rh,CP,hw];rfl};rw[BA,jI]
   show xT (bM [some (.v (wF W)),de ((i:Int)),x2,dM 0,some (.v (kb b))] [.lst acc]) _ _ _=_
   rw[s0];rfl
  |some w=>
   have s1:=Kb (b:=b) (x2:=x2) (x4:=x4) (acc:=acc) g hw ∅;have ih:=zw (x2:=x2) g ks (i+1) (acc++[vl b W[i]?]) (some (.v (kb b))) (by rw[Bx,zbS];omega)
   have e:ig (gY 4) bM ((b::ks).map kb) [some (.v (wF W)),de ((i:Int)),x2,dM 0,x4] [.lst acc]=ig (gY 4) bM (ks.map kb) [some (.v (wF W)),de (((i+1:Nat):Int)),x2,dM 0,some (.v (kb b))] [.lst (acc++[vl b W[i]?])]:=by
    rw[BA,jI]
    show xT (bM [some (.v (wF W)),de ((i:Int)),x2,dM 0,some (.v (kb b))] [.lst acc]) _ _ _=_
    rw[s1];rfl
   rw[e,rh,CP,Bg,show i+(ks.length+1)=i+1+ks.length by omega,show acc++vl b W[i]? :: rh W ks (i+1)=acc++[vl b W[i]?]++rh W ks (i+1) by simp];rcases ih with ih|⟨ih,h2⟩
   ·exact .inl ih
   ·exact .inr {ih,by rw[h2,Bool.or_true]}
noncomputable def oW:UO (A0 D×Nat)->D
 |none=>.non
 |some p=>.tup [.tup p.1,.int p.2]
def some_of (g:GW W)(ks:A0 A9)(i:Nat)(hk:ks.length<10):cI [wF W,.int i,.fl (ks.map kb)]=some (oW (pk (sb W) ks i)):=by
 rw[tz,yo];let⟨os,e1,e2⟩:=vT (W:=W) ks i;have z:(ks.map kb).length<=sizeLine:=bK (by rw[BI];omega);rcases zw (W:=W) (x2:=some (.v (.fl (ks.map kb)))) g ks i [] none (by rw[zbu];omega) with⟨x4',h⟩|⟨⟨U,h⟩,h2⟩
 ·rw[zcm] at h
  cases hn:(rh W ks i).any Ac with
  |true=>
   rw[hn] at e2;push_cast [gT,h,oK,kP,uj,oN,oM,e1,e2,z,oW]
  |false=>
   rw[hn] at e2;push_cast [gT,h,oK,kP,uj,oN,oM,e1,e2,z,oW,DY,if_false]
 ·push_cast [gT,h,z,h2,oW]
end
section
variable {W:A0 (A0 Nat)}{i:Nat}
theorem Dp:∀(k i:Nat),pr (pn W) k i=pk (sb W) (List.replicate k false) i
 |0,i=>rfl
 |k+1,i=>by rw[pr,zb1,pk];congr 1;funext p;rw[Dp k]
theorem zg:∀(k i:Nat),i+k<=W.length->((W.drop i).take k).map (λw=>eD (nm w))=rh W (List.replicate k false) i
 |0,i,_=>by simp[rh]
 |k+1,i,h=>by
  have hi:i<W.length:=by omega
  rw[zb1,rh,za9 hi,List.take_succ_cons,BA,zg k (i+1) ∅,EF hi];rfl
def MK {Z:Type}{f:Z->D}{ws:A0 Z}{a k:Nat}(h:a+k<=ws.length){x y:Int}(hx:x=(a:Int))(hy:y=((a+k:Nat):Int)):lu (ws.map f) (some x) (some y)=((ws.drop a).take k).map f:=by subst hx;subst hy;have h1:HT.e7 (ws.map f).length 0 (some (a:Int))=a:=(HT.nQ _ 0 a).trans (by simp;omega);have h2:HT.e7 (ws.map f).length (ws.map f).length (some ((a+k:Nat):Int))=a+k:=(HT.nQ _ _ (a+k)).trans (by simp;omega);unfold HW.lu;rw[h1,h2,zb8,List.map_drop];congr 1;omega
theorem vC (g:GW W)(hW:W.length<4000)(b:Nat)(hb:b=1\/b=2)(i:Nat):bJ [wF W,.int i,.int (b:Int)]=some (oW ((pm W i).bind λp=>pr (pn W) (b*p.1.toNat) p.2)):=by
 rw[tE];unfold pm
 cases hw:W[i]? with
 |none=>
  have h1:decide (((W.map sT).length:Int)<=(i:Int))=true:=Bq (by have:=zba.mp hw;rw[BI];omega);push_cast [dC,h1,oW,EA]
 |some w=>
  have lt:=jx hw;have h1:decide (((W.map sT).length:Int)<=(i:Int))=false:=Bf (by rw[BI];omega);have a1:=uY hw;have gw:=g.at hw;have n1:=yu gw;rw[AZ]
  cases hn:nm w with
  |none=>
   rw[hn] at n1;have i1:∀U:ah,kx false .non (.v (eD none)) U=some (.v (.bl true),U):=λU=>rfl;push_cast [dC,h1,a1,n1,i1,oW,EA]
  |some k=>
   rw[hn] at n1;have i1:∀U:ah,kx false .non (.v (.int k)) U=some (.v (.bl false),U):=λU=>rfl;have n1:dj [sT w]=some (.int k):=n1;rw[AZ];by_cases h0:k<0
   ·have d0:=Bq h0;rw[A8 h0];push_cast [dC,h1,a1,n1,i1,d0,oW,EA]
   ·have d0:=Bf h0;rw[AE h0,AZ];obtain⟨m,rfl⟩:∃m:Nat,k=(m:Int):={k.toNat,by omega};rw[EB];have ml:∀U:ah,kJ (.v (.int (b:Int))) (.v (.int (m:Int))) U=some (.v (.int ((b*m:Nat):Int)),U):=λU=>by rw[lT ∅];push_cast;rfl
    by_cases hl:W.length<i+1+b*m
    ·have d1:decide (((W.map sT).length:Int)<(i:Int)+1+((b*m:Nat):Int))=true:=Bq (by rw[BI];omega);rw[lI (L:=W.length) (λi p h=>A5 h) (b*m) (i+1) ∅ ∅];push_cast [dC,h1,a1,n1,i1,d0,ml,d1,oW]
    ·have d1:decide (((W.map sT).length:Int)<(i:Int)+1+((b*m:Nat):Int))=false:=Bf (by rw[BI];omega);have hl':i+1+b*m<=W.length:=∅;have ct:=MK (f:=sT) (x:=(i:Int)+1) (y:=(i:Int)+1+((b*m:Nat):Int)) hl' ∅ ∅;have co:=λx0 U=>g4 (f:=aP dj 1 (ac (br (af 0)) ai)) (U:=U) (rest:=[]) sT (λw=>eD (nm w)) ((W.drop (i+1)).take (b*m)) x0 (λw hw=>by push_cast [yu (g w (zbY (zbE hw)))])
     rw[zg (b*m) (i+1) hl'] at co;have z:(((W.drop (i+1)).take (b*m)).map sT).length<=sizeLine:=bK (by rw[BI,zbf,zbO];omega);let⟨os,e1,e2⟩:=vT (W:=W) (List.replicate (b*m) false) (i+1);rw[Dp,yo,zbB]
     cases hv:(rh W (List.replicate (b*m) false) (i+1)).any Ac with
     |true=>
      rw[hv] at e2;push_cast [dC,h1,a1,n1,i1,d0,ml,d1,ct,z,co,oK,kP,uj,oN,oM,e1,e2,oW]
     |false=>
      rw[hv] at e2;have jj:(i:Int)+1+((b*m:Nat):Int)=((i+1+b*m:Nat):Int):=∅;push_cast [dC,h1,a1,n1,i1,d0,ml,d1,ct,z,co,oK,kP,uj,oN,oM,e1,e2,oW,DY,if_false,←jj]
end
def dy {a c:FS}{O O':Lo}{U U':ah}(q:a O U=some (.nx O' U')):fV (aM a c O U)=fV (c O' U'):=by rw[gk,q,gA]
noncomputable def prs:A0 D->A0 D
 |a::b::r=>.tup [a,b]::prs r
 |_=>[]
section
variable {W:A0 (A0 Nat)}{i:Nat}
theorem Do:∀(m i:Nat),pr (p2 W) m i=(pr (pn W) (2*m) i).map λq=>(prs q.1,q.2)
 |0,i=>rfl
 |m+1,i=>by
  have e:p2 W i=(pn W i).bind λp=>(pn W p.2).map λp'=>(.tup [p.1,p'.1],p'.2):=rfl;rw[show 2*(m+1)=2*m+1+1 by omega,pr,pr,e]
  cases h1:pn W i with
  |none=>rfl
  |some a=>
   rw[AZ,AZ,pr]
   cases h2:pn W a.2 with
   |none=>rfl
   |some b=>
    rw[DV,AZ,AZ,Do m b.2]
    cases h3:pr (pn W) (2*m) b.2 with
    |none=>rfl
    |some c=>rfl
theorem ux:∀(m:Nat) (ds:A0 D),ds.length=2*m->(List.range m).map (λt=>D.tup [ds.getD (2*t) .non,ds.getD (2*t+1) .non])=prs ds
 |0,ds,h=>by have:ds=[]:=zbz ∅;subst this;rfl
 |m+1,ds,h=>by
  cases ds with
  |nil=>rw[zbu] at h;omega
  |cons a ds=>
   cases ds with
   |nil=>simp at h;omega
   |cons b ds=>
    have ih:=ux m ds (by simp at h;omega);rw[List.range_succ_eq_map,BA,E9,prs,←ih];rfl
abbrev UZ:FS:=bD 3 (An [((fK (.str "pick")),(br (eG (ac (fK (.str "number")) (ac (fK (.str "word")) (ac (fK (.str "number")) ai)))))),((fK (.str "twins")),(br (eG (ac (fK (.str "number")) (ac (fK (.str "number")) ai))))),((fK (.str "joined")),(br (eG (ac (fK (.str "word")) ai))))])
abbrev UY:FS:=qd (br (eG (ac (fK (.str "word")) (ac (fK (.str "number")) ai)))) (nD (af 3) (fK (.str "lifted")))
abbrev dS:A0 (cQ×D):=[(.inr "pick",.fl [.str "number",.str "word",.str "number"]),(.inr "twins",.fl [.str "number",.str "number"]),(.inr "joined",.fl [.str "word"])]
abbrev cS:A0 et:=[.fz [.str "number",.str "word",.str "number"],.fz [.str "number",.str "number"],.fz [.str "word"]]
abbrev U7:A0 (cQ×D):=dS++[(.inr "lifted",.fl [.str "word",.str "number"])]
abbrev qD:A0 et:=.dct U7::(cS++[.fz [.str "word",.str "number"]])
def vB (a b c:UO R):UZ [a,b,c,none,none,none,none] []=some (.nx [a,b,c,dM 0,none,none,none] (.dct dS::cS)):=by kernel_rfl
def vA (a b c:UO R):UY [a,b,c,dM 0,none,none,none] (.dct dS::cS)=some (.nx [a,b,c,dM 0,none,none,none] qD):=by kernel_rfl
abbrev rT (W:A0 (A0 Nat))(i:Nat)(s:Str):Lo:=[some (.v (wF W)),de ((i:Int)),some (.v (.str s)),dM 0,none,none,none]
def JY (s:Str):∃rest:FS,bP [wF W,.int i,.str s]=fV (aM (fA (fB (ax (GQ false) (af 2) (af 3))) (bv (aP cI 3 (ac (br (af 0)) (ac (br (af 1)) (ac (br (BF (af 3) (af 2))) ai))))) bo) rest (rT W i s) qD):={_,by
  rw[i7];refine(dy (vB _ _ _)).trans ?_;exact dy (vA _ _ _)}
def rj (g:GW W){s:Str}{ks:A0 A9}(hk:ks.length<10)(t1:fB (ax (GQ false) (af 2) (af 3)) (rT W i s) qD=some (true,qD))(t2:BF (af 3) (af 2) (rT W i s) qD=some (.v (.fl (ks.map kb)),qD)):bP [wF W,.int i,.str s]=some (oW (pk (sb W) ks i)):=by
 let⟨rest,e⟩:=JY (W:=W) (i:=i) s;rw[e];have so:=some_of g ks i hk;have f2:br (BF (af 3) (af 2)) (rT W i s) qD=some (.v (.fl (ks.map kb)),qD):=by rw[P0,t2];rfl
 rwa[gk,cF,t1,kO];push_cast [t2,so]
end
section
variable {W:A0 (A0 Nat)}{i:Nat}
def UI {ds:A0 D}{n:Nat}{x:Int}(hx:x=(n:Int))(h:n<ds.length):n9 ds x=some (ds.getD n .non):=by subst hx;exact qE ∅ (by rw[EB,List.getD_eq_getElem?_getD,EF h];rfl)
abbrev Rt:FS:=(aM (bD 5 (ax yX (fF gJ (ac (ax fq (af 4) (fK (.int 0))) ai)) (fK (.int 2))))
  (bv (c9 (ac (c9 (ac (fF oi (ac (hZ [4] 1 (on (af 5)) (gY 0) gS (c9 (ac (ax fq (ax fq (af 1) (fK (.int 0))) (ax kJ (fK (.int 2)) (af 0))) (ac (ax fq (ax fq (af 1) (fK (.int 0))) (ax bu (ax kJ (fK (.int 2)) (af 0)) (fK (.int 1)))) ai)))) ai)) ai)) (ac (ax fq (af 4) (fK (.int 1))) ai)))))
def J1 {ds:A0 D}{m j:Nat}(h:ds.length=2*m)(hm:m<4000){a b c d f:UO R}{U:ah}:∃U',Rt [a,b,c,d,some (.v (.tup [.tup ds,.int j])),none,f] U=some (.rt (.v (.tup [.tup [.tup (prs ds)],.int j])) U'):=by
 have co:=g4 (f:=c9 (ac (ax fq (ax fq (af 1) (fK (.int 0))) (ax kJ (fK (.int 2)) (af 0))) (ac (ax fq (ax fq (af 1) (fK (.int 0))) (ax bu (ax kJ (fK (.int 2)) (af 0)) (fK (.int 1)))) ai))) (U:=U) (rest:=[some (.v (.tup [.tup ds,.int j]))]) (λt:Nat=>D.int (t:Int)) (λt=>D.tup [ds.getD (2*t) .non,ds.getD (2*t+1) .non]) (List.range m) none (λt ht=>by have lt:=zb2.mp ht;have a1:=UI (ds:=ds) (n:=2*t) (x:=2*(t:Int)) ∅ ∅;have a2:=UI (ds:=ds) (n:=2*t+1) (x:=2*(t:Int)+1) ∅ ∅;have ml:=lT (i:=2) (j:=(t:Int)) (U:=U) ∅;push_cast [ml,a1,a2])
 rw[ux m ds h] at co;have dv:=En (i:=(ds.length:Int)) (j:=2) (U:=U) ∅ ∅;have dm:(ds.length:Int) / 2=(m:Int):=by omega
 rw[dm] at dv;have r1:=kM (j:=(m:Int)) (U:=U) ∅;have z:((List.range m).map λt:Nat=>D.int (t:Int)).length<=sizeLine:=bK (by simp;omega);have bk:fU 1 [4] [a,b,c,d,some (R.v (.tup [.tup ds,.int (j:Int)])),de ((m:Int)),f]=[none,some (.v (.tup [.tup ds,.int j]))]:=rfl;have C3:1<=sizeLine:=by decide
 refine{U++[.lst (prs ds)],?_};push_cast [Rt,dv,r1,EB,z,bk,co,Bj,C3]
def DW:iK 60 (.str "matched")=true:=by kernel_rfl
def zX:iK 60 (.str "summed")=true:=by kernel_rfl
def Qb:j2 (.str "matched") (.str "matched")=true:=by kernel_rfl
theorem JZ (g:GW W)(hW:W.length<4000):bP [wF W,.int i,.str "matched"]=some (oW ((pc W (p2 W) i).map λp=>([p.1],p.2))):=by
 have t1:fB (ax (GQ false) (af 2) (af 3)) (rT W i "matched") qD=some (false,qD):=by kernel_rfl
 have mo:bJ [wF W,.int i,.int 2]=_:=vC g hW 2 (.inr rfl) i;rw[i7];refine(dy (vB _ _ _)).trans ?_;refine(dy (vA _ _ _)).trans ?_;refine(dy (O':=rT W i "matched") (U':=qD) (by rw[cF,t1,eW];rfl)).trans ?_;have q1:fB (ax (gm false) (af 2) (fK (.str "matched"))) (rT W i "matched") qD=some (true,qD):=by push_cast [DW,Qb]
 unfold pc
 cases hp:pm W i with
 |none=>
  rw[hp] at mo;have i1:∀U:ah,kx false .non (.v .non) U=some (.v (.bl true),U):=λU=>rfl;rwa[gk,cF,q1,kO];push_cast [mo,EA,i1,oW,zbk]
 |some p=>
  let⟨p0,p1,p2'⟩:=Ga hp;rw[hp,AZ] at mo;rw[AZ,Do]
  cases hq:pr (pn W) (2*p.1.toNat) p.2 with
  |none=>
   rw[hq] at mo;have i1:∀U:ah,kx false .non (.v .non) U=some (.v (.bl true),U):=λU=>rfl;rwa[gk,cF,q1,kO];push_cast [mo,i1,oW,zbk]
  |some q=>
   rw[hq] at mo;have mo:bJ [wF W,.int i,.int 2]=some (.tup [.tup q.1,.int q.2]):=mo;have i1:∀U:ah,kx false .non (.v (.tup [.tup q.1,.int q.2])) U=some (.v (.bl false),U):=λU=>rfl;have lq:=ym hq;have hm:p.1.toNat<4000:=by
    by_cases hl:W.length-p.2<2*p.1.toNat
    ·rw[lI (L:=W.length) (λi p h=>A5 h) _ _ p2' hl] at hq;cases hq
    ·omega
   obtain⟨U',t5⟩:=J1 (a:=some (.v (wF W))) (b:=some (.v (.int (i:Int)))) (c:=some (.v (.str "matched"))) (d:=some (.p 0)) (f:=none) (j:=q.2) (U:=qD) lq hm;rwa[gk,cF,q1,kO];have s4:bD 4 (aP bJ 3 (ac (br (af 0)) (ac (br (af 1)) (ac (fK (.int 2)) ai)))) (rT W i "matched") qD=some (.nx [some (.v (wF W)),de ((i:Int)),some (.v (.str "matched")),dM 0,some (.v (.tup [.tup q.1,.int q.2])),none,none] qD):=by push_cast [mo]
   have tN:fB (fT (kx false .non) (af 4)) [some (.v (wF W)),de ((i:Int)),some (.v (.str "matched")),dM 0,some (.v (.tup [.tup q.1,.int q.2])),none,none] qD=some (false,qD):=(by push_cast [i1]);rw[s4,gA,gk,cF,tN,eW,lS,gA];unfold Rt at t5;rw[t5];rfl
theorem Cf (g:GW W)(hW:W.length<4000){s:Str}(t1:fB (ax (GQ false) (af 2) (af 3)) (rT W i s) qD=some (false,qD))(ok:iK 60 (.str s)=true)(e1:j2 (.str s) (.str "matched")=false)(e2:j2 (.str s) (.str "summed")=false):bP [wF W,.int i,.str s]=some (oW ((pc W (pn W) i).map λp=>([p.1],p.2))):=by
 have mo:bJ [wF W,.int i,.int 1]=_:=vC g hW 1 (.inl rfl) i;rwa[Nat.one_mul] at mo;rw[i7];refine(dy (vB _ _ _)).trans ?_;refine(dy (vA _ _ _)).trans ?_;refine(dy (O':=rT W i s) (U':=qD) (by rw[cF,t1,eW];rfl)).trans ?_;unfold pc;have C3:1<=sizeLine:=by decide
 have key:∀o:UO (A0 D×Nat),bJ [wF W,.int i,.int 1]=some (oW o)->fV (aM (bD 4 (aP bJ 3 (ac (br (af 0)) (ac (br (af 1)) (ac (fK (.int 1)) ai)))))
  (aM (fA (kE (fB (fT (kx false .non) (af 4))) (fB (ax (gm true) (af 2) (fK (.str "summed")))))
  (bv (Am (fB (fT (kx false .non) (af 4))) (fK .non) (c9 (ac (c9 (ac (ax fq (af 4) (fK (.int 0))) ai)) (ac (ax fq (af 4) (fK (.int 1))) ai)))))
  bo)
  (aM (bD 6 (aP cI 3 (ac (br (af 0)) (ac (br (ax fq (af 4) (fK (.int 1)))) (ac (br (eG (ac (fK (.str "number")) ai))) ai)))))
  (bv (Am (fB (fT (kx false .non) (af 6))) (fK .non) (c9 (ac (c9 (ac (ax fq (af 4) (fK (.int 0))) (ac (ax fq (ax fq (af 6) (fK (.int 0))) (fK (.int 0))) ai))) (ac (ax fq (af 6) (fK (.int 1))) ai))))))) (rT W i s) qD)=some (oW (o.map λq=>([.tup q.1],q.2))):=λo h=>by
  cases o with
  |none=>
   have i1:∀U:ah,kx false .non (.v .non) U=some (.v (.bl true),U):=λU=>rfl;push_cast [h,i1,zbk,oW]
  |some q=>
   have h:bJ [wF W,.int i,.int 1]=some (.tup [.tup q.1,.int q.2]):=h;have i1:∀U:ah,kx false .non (.v (.tup [.tup q.1,.int q.2])) U=some (.v (.bl false),U):=λU=>rfl;push_cast [h,i1,ok,zX,e2,EH,DV,oW,C3]
 refine(dy (O':=rT W i s) (U':=qD) (by push_cast [ok,DW,e1])).trans ?_
 cases hp:pm W i with
 |none=>rw[hp] at mo;exact key none mo
 |some p=>
  rw[hp] at mo;rw[key _ mo,AZ,AZ];cases pr (pn W) p.1.toNat p.2 <;> rfl
theorem JX (g:GW W)(hW:W.length<4000):bP [wF W,.int i,.str "summed"]=some (oW ((pc W (pn W) i).bind λp=>(pn W p.2).map λq=>([p.1,q.1],q.2))):=by
 have t1:fB (ax (GQ false) (af 2) (af 3)) (rT W i "summed") qD=some (false,qD):=by kernel_rfl
 have e1:j2 (.str "summed") (.str "matched")=false:=by kernel_rfl
 have e2:j2 (.str "summed") (.str "summed")=true:=by kernel_rfl
 have mo:bJ [wF W,.int i,.int 1]=_:=vC g hW 1 (.inl rfl) i;rwa[Nat.one_mul] at mo;rw[i7];refine(dy (vB _ _ _)).trans ?_;refine(dy (vA _ _ _)).trans ?_;refine(dy (O':=rT W i "summed") (U':=qD) (by rw[cF,t1,eW];rfl)).trans ?_;refine(dy (O':=rT W i "summed") (U':=qD) (by push_cast [zX,DW,e1])).trans ?_;unfold pc;have C3:1<=sizeLine:=by decide
 have i0:∀U:ah,kx false .non (.v .non) U=some (.v (.bl true),U):=λU=>rfl
 cases hp:pm W i with
 |none=>
  rw[hp] at mo;push_cast [mo,i0,EA,oW]
 |some p=>
  rw[hp,AZ] at mo;rw[AZ]
  cases hq:pr (pn W) p.1.toNat p.2 with
  |none=>
   rw[hq] at mo;push_cast [mo,i0,zbk,EA,oW]
  |some q=>
   rw[hq] at mo;have mo:bJ [wF W,.int i,.int 1]=some (.tup [.tup q.1,.int q.2]):=mo;have i1:∀U:ah,kx false .non (.v (.tup [.tup q.1,.int q.2])) U=some (.v (.bl false),U):=λU=>rfl;have so:cI [wF W,.int q.2,.fl [.str "number"]]=_:=some_of g [false] q.2 ∅;have e:pk (sb W) [false] q.2=(pn W q.2).map λp=>([p.1],p.2):=by
    show((pn W q.2).bind λp=>some ([p.1],p.2))=_
    cases pn W q.2 <;> rfl
   rw[e] at so;rw[DV,AZ];dsimp only
   cases hr:pn W q.2 with
   |none=>
    rw[hr] at so;push_cast [mo,i1,zX,e2,DS,C3,so,i0,zbk,oW]
   |some r=>
    rw[hr] at so;have so:cI [wF W,.int q.2,.fl [.str "number"]]=some (.tup [.tup [r.1],.int r.2]):=so;have i2:∀U:ah,kx false .non (.v (.tup [.tup [r.1],.int r.2])) U=some (.v (.bl false),U):=λU=>rfl;push_cast [mo,i1,zX,e2,DS,C3,so,i2,DV,oW]
end
noncomputable def xV:UO (D×Nat)->D
 |none=>.non
 |some p=>.tup [p.1,.int p.2]
section
variable {W:A0 (A0 Nat)}{i:Nat}
def uC:(Str.ofString "table")=Tx [116,97,98,108,101]/\(Str.ofString "pick")=Tx [112,105,99,107]/\(Str.ofString "twins")=Tx [116,119,105,110,115]/\(Str.ofString "columns")=Tx [99,111,108,117,109,110,115]/\(Str.ofString "counted")=Tx [99,111,117,110,116,101,100]/\(Str.ofString "summed")=Tx [115,117,109,109,101,100]/\(Str.ofString "lifted")=Tx [108,105,102,116,101,100]/\(Str.ofString "joined")=Tx [106,111,105,110,101,100]/\(Str.ofString "matched")=Tx [109,97,116,99,104,101,100]:=by decide
def Eo {s:Str}{l w:A0 Nat}(h:s=Tx l):j2 (sT w) (.str s)=(w == l):=by rw[h];exact fZ
abbrev k8:D:=.tup [.str "pick",.str "twins",.str "columns",.str "counted",.str "summed",.str "lifted",.str "joined",.str "matched"]
abbrev n8:A0 (A0 Nat):=[[112,105,99,107],[116,119,105,110,115],[99,111,108,117,109,110,115],[99,111,117,110,116,101,100],[115,117,109,109,101,100],[108,105,102,116,101,100],[106,111,105,110,101,100],[109,97,116,99,104,101,100]]
def Ud (w:A0 Nat)(U:ah):uF true (.v (sT w)) (.v k8) U=some (.v (.bl (!n8.any λl=>l == w)),U):=by
 have e:k8=.tup ((n8.map Tx).map D.str):=by let⟨_,h2,h3,h4,h5,h6,h7,h8,h9⟩:=uC;unfold k8;rw[h2,h3,h4,h5,h6,h7,h8,h9];rfl
 rw[e]
 show((jN ((n8.map Tx).map D.str)).bind λts=>some (R.v (.bl (if true=true then !ts.any λx=>x == Tx w else ts.any λx=>x == Tx w)),U))=_
 have t:∀l:To,jN (l.map D.str)=some l:=λl=>by
  induction l with
  |nil=>rfl
  |cons a l ih=>rw[BA,jN,ih];rfl
 rw[t,AZ,A8 rfl,List.any_map];rwa[Function.comp_def,HH]
def zW:iK 60 (.str "table")=true:=by kernel_rfl
def LV {F:MF}{dp:Int}{x3 x4 x6 x7 x8:UO R}{xs:A0 D}(h:F [wF W,.int i,.int (dp+1)]=some .non):cM F [some (.v (wF W)),de ((i:Int)),de dp,x3,x4,dM 0,x6,x7,x8] [.lst xs]=some (.rt (.v .non) [.lst xs]):=by have i1:∀U:ah,kx false .non (.v .non) U=some (.v (.bl true),U):=λU=>rfl;push_cast [cM,h,i1]
def LU {F:MF}{dp:Int}{x3 x4 x6 x7 x8:UO R}{xs:A0 D}{a:D}{j:Nat}(h:F [wF W,.int i,.int (dp+1)]=some (.tup [a,.int j]))(hx:xs.length<10):cM F [some (.v (wF W)),de ((i:Int)),de dp,x3,x4,dM 0,x6,x7,x8] [.lst xs]=some (.nx [some (.v (wF W)),de ((j:Int)),de dp,x3,x4,dM 0,x6,some (.v (.tup [a,.int j])),x8] [.lst (xs++[a])]):=by have i1:∀U:ah,kx false .non (.v (.tup [a,.int j])) U=some (.v (.bl false),U):=λU=>rfl;have z:xs.length<sizeLine:=lF ∅;push_cast [cM,h,i1,z]
abbrev J0:FS:=(aM (bD 8 (aP bP 3 (ac (br (af 0)) (ac (br (af 1)) (ac (br (af 3)) ai)))))
  (bv (Am (fB (fT (kx false .non) (af 8))) (fK .non) (c9 (ac (ax bu (fF oi (ac (af 5) ai)) (ax fq (af 8) (fK (.int 0)))) (ac (ax fq (af 8) (fK (.int 1))) ai))))))
theorem Ce {w:A0 Nat}{x2 x4 x6 x7:UO R}{xs:A0 D}{o:UO (A0 D×Nat)}(h:bP [wF W,.int i,sT w]=some (oW o))(ho:∀q,o=some q->q.1.length<10)(hx:xs.length<10):fV (J0 [some (.v (wF W)),de ((i:Int)),x2,some (.v (sT w)),x4,dM 0,x6,x7,none] [.lst xs])=some (xV (o.map λq=>(.tup (xs++q.1),q.2))):=by
 cases o with
 |none=>
  have h:bP [wF W,.int i,sT w]=some .non:=h;have i1:∀U:ah,kx false .non (.v .non) U=some (.v (.bl true),U):=λU=>rfl;push_cast [J0,h,i1,zbk,xV]
 |some q=>
  have h:bP [wF W,.int i,sT w]=some (.tup [.tup q.1,.int q.2]):=h;have i1:∀U:ah,kx false .non (.v (.tup [.tup q.1,.int q.2])) U=some (.v (.bl false),U):=λU=>rfl;have z:xs.length+q.1.length<=sizeLine:=bK (by have:=ho q rfl;omega);push_cast [J0,h,i1,z,DV,xV]
def OO {Z:Type}{s:Z->Nat->UO (D×Nat)}{ks:A0 Z}{i:Nat}(h:ks.length<10):∀q,pk s ks i=some q->q.1.length<10:=λq e=>by rw[vg e];exact h
theorem jm {n:Nat}{w:A0 Nat}{tks:A0 Ki}{two:A9}{dp:Int}(dd:dp+1=21-(n:Int))(gt:decide ((20:Int)<dp)=false)(gw:d9 w)
  (ih:∀i:Nat,bE (n+4) [wF W,.int i,.int (21-(n:Int))]=some (xV (pp W n i))) (hw:W[i]?=some w)
  (tl:∀i:Nat,bP [wF W,.int i,sT w]=some (oW (pk (xE W (pp W n)) tks i))) (ht:tks.length<10) (h0:(w == [116,97,98,108,101])=false) (h8:(n8.any λl=>l == w)=true)
  (h2:∀U,uF false (.v (sT w)) (.v (.tup [.str "joined",.str "matched"])) U=some (.v (.bl two),U)) :
  bE (n+4+1) [wF W,.int i,.int dp]=some (xV ((pk (xE W (pp W n)) (if two then .ask :: .ask::tks else .ask::tks) (i+1)).map λp=>(.tup (sT w::p.1),p.2))):=by
 have h1:decide (((W.map sT).length:Int)<=(i:Int))=false:=Bf (by have:=jx hw;rw[BI];omega);have a1:=uY hw;have ok:=gw.ok 60
 have e0:j2 (sT w) (.str "table")=false:=by rw[Eo uC.1];exact h0
 have e8:=Ud w;rw[h8] at e8
 have C3:1<=sizeLine:=by decide
 have s8:8<=sizeLine:=by decide
 have c1:(i:Int)+1=((i+1:Nat):Int):=by omega
 have r1:=kM (j:=1) (U:=[.lst [sT w]]) ∅;have r2:=kM (j:=2) (U:=[.lst [sT w]]) ∅;have F2:=ih (i+1);rw[←dd] at F2
 have pre:∀(xs:A0 D) (hx:(on (ax bu (fK (.int 1)) (fF By (ac (ax (uF false) (af 3) (c9 (ac (fK (.str "joined")) (ac (fK (.str "matched")) ai)))) ai)))) [some (.v (wF W)),de (((i+1:Nat):Int)),de dp,some (.v (sT w)),none,dM 0,none,none,none] [.lst [sT w]]=some (xs,[.lst [sT w]])),
   bE (n+4+1) [wF W,.int i,.int dp]=fV (Fe (ig (gY 6) (cM (bE (n+4))) xs [some (.v (wF W)),de (((i+1:Nat):Int)),de dp,some (.v (sT w)),none,dM 0,none,none,none] [.lst [sT w]]) J0):=λxs hx=>by
  rw[ir];refine(dy (O':=[some (.v (wF W)),de ((i:Int)),de dp,none,none,none,none,none,none]) (U':=[]) (by push_cast [h1,gt])).trans ?_;refine(dy (O':=[some (.v (wF W)),de ((i:Int)),de dp,some (.v (sT w)),none,none,none,none,none]) (U':=[]) (by push_cast [a1])).trans ?_;refine(dy (O':=[some (.v (wF W)),de ((i:Int)),de dp,some (.v (sT w)),none,none,none,none,none]) (U':=[]) (by push_cast [ok,zW,e0])).trans ?_;refine(dy (O':=[some (.v (wF W)),de ((i:Int)),de dp,some (.v (sT w)),none,none,none,none,none]) (U':=[]) (by push_cast [e8,s8,DS])).trans ?_;refine(dy (O':=[some (.v (wF W)),de ((i:Int)),de dp,some (.v (sT w)),none,dM 0,none,none,none]) (U':=[.lst [sT w]]) (by push_cast [C3])).trans ?_;refine(dy (O':=[some (.v (wF W)),de (((i+1:Nat):Int)),de dp,some (.v (sT w)),none,dM 0,none,none,none]) (U':=[.lst [sT w]]) (by push_cast [c1])).trans ?_;rw[gk,yT,hx,vR]
 cases two with
 |false=>
  rw[pre [.int 0] (by push_cast [h2,As];exact r1)];rw[jI];rw[AE ∅,pk]
  show fV (Fe (xT (cM (bE (n+4)) [some (.v (wF W)),de (((i+1:Nat):Int)),de dp,some (.v (sT w)),none,dM 0,de 0,none,none] [.lst [sT w]]) _ _ _) J0)=_
  cases e1:pp W n (i+1) with
  |none=>
   rw[e1] at F2;rw[LV F2];have ep:xE W (pp W n) .ask (i+1)=none:=e1;rw[ep];rfl
  |some p=>
   rw[e1] at F2;rw[LU F2 ∅];have ep:xE W (pp W n) .ask (i+1)=some p:=e1;rw[ep,AZ];rw[zU,wZ,gA,Ce (tl p.2) (OO ht) ∅];cases pk (xE W (pp W n)) tks p.2 <;> rfl
 |true=>
  rw[pre [.int 0,.int 1] (by push_cast [h2,As];exact r2)];rw[jI];rw[A8 rfl,pk]
  show fV (Fe (xT (cM (bE (n+4)) [some (.v (wF W)),de (((i+1:Nat):Int)),de dp,some (.v (sT w)),none,dM 0,de 0,none,none] [.lst [sT w]]) _ _ _) J0)=_
  cases e1:pp W n (i+1) with
  |none=>
   rw[e1] at F2;rw[LV F2];have ep:xE W (pp W n) .ask (i+1)=none:=e1;rw[ep];rfl
  |some p=>
   rw[e1] at F2;rw[LU F2 ∅];have ih2:=ih p.2;rw[←dd] at ih2;have ep:xE W (pp W n) .ask (i+1)=some p:=e1;rw[ep,AZ,zU,jI,pk]
   show fV (Fe (xT (cM (bE (n+4)) [some (.v (wF W)),de ((p.2:Int)),de dp,some (.v (sT w)),none,dM 0,de 1,some (.v (.tup [p.1,.int p.2])),none] [.lst ([sT w]++[p.1])]) _ _ _) J0)=_
   cases e2:pp W n p.2 with
   |none=>
    rw[e2] at ih2;rw[LV ih2];have ep2:xE W (pp W n) .ask p.2=none:=e2;rw[ep2];rfl
   |some p'=>
    rw[e2] at ih2;rw[LU ih2 ∅];have ep2:xE W (pp W n) .ask p.2=some p':=e2;rw[ep2,AZ,zU,wZ,gA,Ce (tl p'.2) (OO ht) ∅];cases pk (xE W (pp W n)) tks p'.2 <;> rfl
end
section
variable {W:A0 (A0 Nat)}{i:Nat}
def JDo {n:Nat}{w:A0 Nat}{dp:Int}(gw:d9 w)(hw:W[i]?=some w)(h0:(w == [116,97,98,108,101])=false)(h8:(n8.any λl=>l == w)=false)(gt:decide ((20:Int)<dp)=false):bE (n+1) [wF W,.int i,.int dp]=some .non:=by
 have h1:decide (((W.map sT).length:Int)<=(i:Int))=false:=Bf (by have:=jx hw;rw[BI];omega);have a1:=uY hw;have ok:=gw.ok 60;have e0:j2 (sT w) (.str "table")=false:=by rw[Eo uC.1];exact h0
 have e8:=Ud w;rw[h8] at e8;have s8:8<=sizeLine:=by decide
 rw[ir];push_cast [fu,h1,gt,a1,ok,zW,e0,e8,s8,EH]
theorem Hf {n:Nat}{dp:Int}{P:Nat->UO (D×Nat)}(g:GW W)(hw:W[i]?=some [116,97,98,108,101])(gt:decide ((20:Int)<dp)=false):bE (n+1) [wF W,.int i,.int dp]=some (xV ((pk (xE W P) [.nam] (i+1)).map λp=>(.tup (sT [116,97,98,108,101]::p.1),p.2))):=by
 have h1:decide (((W.map sT).length:Int)<=(i:Int))=false:=Bf (by have:=jx hw;rw[BI];omega);have a1:=uY hw;have ok:=(g.at hw).ok 60;have e0:j2 (sT [116,97,98,108,101]) (.str "table")=true:=by rw[Eo uC.1];rfl
 have na:=zN g (i+1);have c1:((i+1:Nat):Int)=(i:Int)+1:=by omega
 rw[c1] at na;have e:pk (xE W P) [.nam] (i+1)=(sb W true (i+1)).bind λp=>some ([p.1],p.2):=rfl;rw[e,IM,ir]
 cases hv:Ac (vl true W[i+1]?) with
 |true=>
  have hv':vl true W[i+1]?=.non:=by cases hx:vl true W[i+1]? <;> rw[hx] at hv <;> first|rfl|cases hv
  rw[hv'] at na;have i1:∀U:ah,kx false .non (.v .non) U=some (.v (.bl true),U):=λU=>rfl;push_cast [fu,h1,gt,a1,ok,zW,e0,na,i1,EA,zbk,xV]
 |false=>
  have i1:∀U:ah,kx false .non (.v (vl true W[i+1]?)) U=some (.v (.bl false),U):=λU=>by generalize vl true W[i+1]?=d at hv;cases d <;> first|rfl|cases hv
  have c2:((i+1+1:Nat):Int)=(i:Int)+2:=by omega
  push_cast [fu,h1,gt,a1,ok,zW,e0,na,i1,DY,if_false,AZ,DV,xV,c2];rw[uC.1]
theorem EG (g:GW W)(hW:W.length<4000):∀(n i:Nat),n<=20->bE (n+4) [wF W,.int i,.int (21-(n:Int))]=some (xV (pp W n i))
 |0,i,_=>by
  have gt:decide ((20:Int)<21-((0:Nat):Int))=true:=by decide
  rw[show 0+4=3+1 from rfl,ir];cases h1:decide (((W.map sT).length:Int)<=(i:Int)) <;> push_cast [fu,h1,gt,pp,xV]
 |n+1,i,hn=>by
  have ih:=λi=>EG g hW n i ∅;have gt:decide ((20:Int)<21-((n+1:Nat):Int))=false:=Bf ∅;have dd:(21-((n+1:Nat):Int))+1=21-(n:Int):=by omega
  generalize hdp:(21-((n+1:Nat):Int))=dp at gt dd;rw[show n+1+4=n+4+1 by omega,pp]
  cases hw:W[i]? with
  |none=>
   have h1:decide (((W.map sT).length:Int)<=(i:Int))=true:=Bq (by have:=zba.mp hw;rw[BI];omega);rw[ir];push_cast [fu,h1,EA,xV]
  |some w=>
   have gw:=g.at hw;rw[AZ]
   cases h0:(w == [116,97,98,108,101]) with
   |true=>
    have:=eq_of_beq h0;subst this;have hf:fm [116,97,98,108,101]=some [.nam]:=rfl;rw[hf,AZ];exact Hf g hw gt
   |false=>
    cases h8:(n8.any λl=>l == w) with
    |false=>
     have hf:fm w=none:=by unfold fm;rw[Option.map_eq_none_iff,List.find?_eq_none];intro p hp;rwa[n8,CP,List.any_nil,Bool.or_false,zbX,beq_eq_false_iff_ne,ne_eq] at h8;have h0':¬ w=[116,97,98,108,101]:=beq_eq_false_iff_ne.mp h0;rwa[Mt,BJ,Ez,or_false] at hp;rwa[decide_eq_true_eq];let⟨a1,a2,a3,a4,a5,a6,a7,a8⟩:=h8;rcases hp with rfl|rfl|rfl|rfl|rfl|rfl|rfl|rfl|rfl <;> first|exact λe=>h0' e.symm|assumption
     rw[hf,EA];exact JDo gw hw h0 h8 gt
    |true=>
     have mem:=h8;rw[List.any_eq_true] at mem;let⟨l,hl,e⟩:=mem;have:=eq_of_beq e;subst this;let⟨_,t2,t3,t4,t5,t6,t7,t8,t9⟩:=uC;rwa[n8,BJ,Ez,or_false] at hl;rcases hl with rfl|rfl|rfl|rfl|rfl|rfl|rfl|rfl
     ·have hf:fm [112,105,99,107]=some [.ask,.col,.wrd,.num]:=rfl;rw[hf,AZ];exact jm (two:=false) (tks:=[.col,.wrd,.num]) dd gt gw ih hw (λi=>by rw[sT,←t2];exact rj g (ks:=[false,true,false]) ∅ (by kernel_rfl) (by kernel_rfl)) ∅ h0 h8 (λU=>by kernel_rfl)
     ·have hf:fm [116,119,105,110,115]=some [.ask,.col,.col]:=rfl;rw[hf,AZ];exact jm (two:=false) (tks:=[.col,.col]) dd gt gw ih hw (λi=>by rw[sT,←t3];exact rj g (ks:=[false,false]) ∅ (by kernel_rfl) (by kernel_rfl)) ∅ h0 h8 (λU=>by kernel_rfl)
     ·have hf:fm [99,111,108,117,109,110,115]=some [.ask,.cols]:=rfl;rw[hf,AZ];exact jm (two:=false) (tks:=[.cols]) dd gt gw ih hw (λi=>by
       rw[sT,←t4,Cf g hW (by kernel_rfl) (by kernel_rfl) (by kernel_rfl) (by kernel_rfl)]
       show _=some (oW ((pc W (pn W) i).bind λp=>some ([p.1],p.2)))
       cases pc W (pn W) i <;> rfl) ∅ h0 h8 (λU=>by kernel_rfl)
     ·have hf:fm [99,111,117,110,116,101,100]=some [.ask,.cols]:=rfl;rw[hf,AZ];exact jm (two:=false) (tks:=[.cols]) dd gt gw ih hw (λi=>by
       rw[sT,←t5,Cf g hW (by kernel_rfl) (by kernel_rfl) (by kernel_rfl) (by kernel_rfl)]
       show _=some (oW ((pc W (pn W) i).bind λp=>some ([p.1],p.2)))
       cases pc W (pn W) i <;> rfl) ∅ h0 h8 (λU=>by kernel_rfl)
     ·have hf:fm [115,117,109,109,101,100]=some [.ask,.cols,.col]:=rfl;rw[hf,AZ];exact jm (two:=false) (tks:=[.cols,.col]) dd gt gw ih hw (λi=>by
       rw[sT,←t6,JX g hW]
       show _=some (oW ((pc W (pn W) i).bind λp=>((pn W p.2).bind λq=>some ([q.1],q.2)).map λq=>(p.1::q.1,q.2)))
       cases pc W (pn W) i with
       |none=>rfl
       |some p=>
        rw[AZ,AZ]
        cases pn W p.2 <;> rfl) ∅ h0 h8 (λU=>by kernel_rfl)
     ·have hf:fm [108,105,102,116,101,100]=some [.ask,.wrd,.num]:=rfl;rw[hf,AZ];exact jm (two:=false) (tks:=[.wrd,.num]) dd gt gw ih hw (λi=>by rw[sT,←t7];exact rj g (ks:=[true,false]) ∅ (by kernel_rfl) (by kernel_rfl)) ∅ h0 h8 (λU=>by kernel_rfl)
     ·have hf:fm [106,111,105,110,101,100]=some [.ask,.ask,.wrd]:=rfl;rw[hf,AZ];exact jm (two:=true) (tks:=[.wrd]) dd gt gw ih hw (λi=>by rw[sT,←t8];exact rj g (ks:=[true]) ∅ (by kernel_rfl) (by kernel_rfl)) ∅ h0 h8 (λU=>by kernel_rfl)
     ·have hf:fm [109,97,116,99,104,101,100]=some [.ask,.ask,.prs]:=rfl;rw[hf,AZ];exact jm (two:=true) (tks:=[.prs]) dd gt gw ih hw (λi=>by
       rw[sT,←t9,JZ g hW]
       show _=some (oW ((pc W (p2 W) i).bind λp=>some ([p.1],p.2)))
       cases pc W (p2 W) i <;> rfl) ∅ h0 h8 (λU=>by kernel_rfl)
end
theorem Et {l:A0 Nat}(g:GT l):jH [sT l]=some ((pa l).getD .non):=by
 have ao:=EG (zu g.gd) (CM g) 20 0 ∅;have ao:bE 24 [wF (sp l),.int 0,.int 1]=some (xV (pp (sp l) 20 0)):=ao;have sl:=xY (l:=l) (by have:=g.le;omega) [];rw[JAm];unfold pa;have fl:flatDs ((sp l).map sT)=true:=by rw[zm];exact pV _
 cases hp:pp (sp l) 20 0 with
 |none=>
  rw[hp] at ao;have i1:∀U:ah,kx false .non (.v .non) U=some (.v (.bl true),U):=λU=>rfl;push_cast [lv,sl,fl,ao,xV,i1,EA,zbP]
 |some p=>
  rw[hp] at ao;have i1:∀U:ah,kx false .non (.v (.tup [p.1,.int p.2])) U=some (.v (.bl false),U):=λU=>rfl;rw[AZ];by_cases hj:p.2=(sp l).length
  ·have e:(!((p.2:Int) == (((sp l).map sT).length:Int)))=false:=by rw[hj,BI];simp
   rw[A8 hj];push_cast [lv,sl,fl,ao,xV,i1,e,Option.getD_some]
  ·have e:(!((p.2:Int) == (((sp l).map sT).length:Int)))=true:=by
    rw[BI,Bool.not_eq_true',beq_eq_false_iff_ne];intro h;exact hj ∅
   rw[AE hj];push_cast [lv,sl,fl,ao,xV,i1,e,zbP]
inductive Pl:Nat->D->Prop
 |int {n i}:Pl (n+1) (.int i)
 |str {n s}:iK 60 (.str s)=true->Pl (n+1) (.str s)
 |tup {n ds}:(∀d∈ds,Pl n d)->ds.length<4000->Pl (n+1) (.tup ds)
theorem Pl.up {n:Nat}{d:D}(h:Pl n d):Pl (n+1) d:=by
 induction h with
 |int=>exact .int
 |str h=>exact .str h
 |tup _ h ih=>exact .tup ih h
def qB (s:Str):j2 (.str s) (.str s)=true:=by show(s == s)=true;exact zbq s
theorem zy:∀{n:Nat} {d:D},Pl n d->gg n [d,d]=some (.bl true)
 |0,_,h=>nomatch h
 |n+1,d,h=>by
  cases h with
  | @int _ i=>
   have iI:∀(U:ah),gi "str" (.v (.int i)) U=some (.v (.bl false),U):=λU=>(by kernel_rfl);have iT:∀(U:ah),gi "tuple" (.v (.int i)) U=some (.v (.bl false),U):=λU=>(by kernel_rfl);have iN:∀(U:ah),gi "int" (.v (.int i)) U=some (.v (.bl true),U):=λU=>(by kernel_rfl);have iB:∀(U:ah),gi "bool" (.v (.int i)) U=some (.v (.bl false),U):=λU=>(by kernel_rfl);rw[oV];push_cast [j5,iI,iT,iN,iB,zbq]
  | @str _ s h=>
   have iI:∀(U:ah),gi "str" (.v (.str s)) U=some (.v (.bl true),U):=λU=>(by kernel_rfl);have iT:∀(U:ah),gi "tuple" (.v (.str s)) U=some (.v (.bl false),U):=λU=>(by kernel_rfl);rw[oV];push_cast [j5,iI,iT,h,qB]
  | @tup _ ds h hl=>
   have iT:∀(U:ah),gi "tuple" (.v (.tup ds)) U=some (.v (.bl true),U):=λU=>(by kernel_rfl);have z:ds.length<=sizeLine:=bK hl;have e0:(!((ds.length:Int) == (ds.length:Int)))=false:=∅;have r1:=kM (j:=(ds.length:Int)) (U:=([]:ah)) ∅;have tn:((ds.length:Int)).toNat=ds.length:=∅;obtain⟨O,U,DR,x2,rfl,rfl⟩:=lL (g:=gY 2) (b:=lN (gg n)) (O:=[some (.v (.tup ds)),some (.v (.tup ds)),none]) (U:=[]) ds.length
    (λi O U=>∃x2:UO R,O=[some (.v (.tup ds)),some (.v (.tup ds)),x2]/\U=[]) {none,rfl,rfl} (by rintro i hi O U ⟨x2,rfl,rfl⟩;have a1:n9 ds (i:Int)=some ds[i]:=qE ∅ (by simp[hi]);have s1:=zy (h ds[i] (zcg hi));refine{_,_,?_,de ((i:Int)),rfl,rfl};push_cast [lN,a1,s1])
   rw[oV];push_cast [j5,iT,z,e0,r1,tn,DR]
section
variable {W:A0 (A0 Nat)}{i:Nat}
theorem yp {Z:Type}{Q:D->Prop}{s:Z->Nat->UO (D×Nat)}:∀{ks:A0 Z} {i:Nat} {p:A0 D×Nat},(∀k j q,s k j=some q->Q q.1)->pk s ks i=some p->∀d∈p.1,Q d
 |[],i,p,_,h=>by cases h;intro d hd;cases hd
 |k::ks,i,p,hs,h=>by
  rw[pk] at h;let⟨a,e,h⟩:=AO.mp h;let⟨b,e',rfl⟩:=DG.mp h;intro d hd;rcases BJ.mp hd with rfl|hd
  ·exact hs _ _ _ e
  ·exact yp hs e' d hd
def Lf {Q:D->Prop}{s:Nat->UO (D×Nat)}{m i:Nat}{p:A0 D×Nat}(hs:∀j q,s j=some q->Q q.1)(h:pr s m i=some p):∀d∈p.1,Q d:=by have e:=ss s (List.replicate m ()) i;rw[zbB] at e;rw[←e] at h;exact yp (λ_ j q=>hs j q) h
def wK {n:Nat}{q:D×Nat}(h:pn W i=some q):Pl (n+1) q.1:=by unfold pn at h;let⟨w,_,h⟩:=AO.mp h;let⟨k,_,rfl⟩:=DG.mp h;exact .int
def ON {n:Nat}{q:D×Nat}(h:p2 W i=some q):Pl (n+2) q.1:=by
 unfold p2 at h;let⟨a,e,h⟩:=AO.mp h;let⟨b,e',rfl⟩:=DG.mp h;refine .tup (λd hd=>?_) (show 2<4000 by decide);rcases BJ.mp hd with rfl|hd
 ·exact wK e
 ·rw[Bi.mp hd];exact wK e'
def Jh {n:Nat}{s:Nat->UO (D×Nat)}{q:D×Nat}(hW:W.length<4000)(hb:∀i p,s i=some p->i<p.2/\p.2<=W.length)(hs:∀j q,s j=some q->Pl n q.1)(h:pc W s i=some q):Pl (n+1) q.1:=by
 unfold pc at h;let⟨a,e,h⟩:=AO.mp h;let⟨b,e',rfl⟩:=DG.mp h;let⟨p0,p1,p2'⟩:=Ga e;refine .tup (Lf hs e') ?_;rw[ym e'];by_cases hl:W.length-a.2<a.1.toNat
 ·rw[lI (L:=W.length) hb _ _ p2' hl] at e';cases e'
 ·omega
def Ji {n:Nat}{q:D×Nat}(g:GW W)(h:Gb W i=some q):Pl (n+1) q.1:=by
 unfold Gb at h;let⟨w,e,h⟩:=AO.mp h;split at h
 ·cases h;exact .str ((g.at e).ok 60)
 ·cases h
theorem Jg (g:GW W)(hW:W.length<4000):∀(n i:Nat) (q:D×Nat),pp W n i=some q->Pl (n+3) q.1/\∃ds,q.1=.tup ds
 |0,i,q,h=>by cases h
 |n+1,i,q,h=>by
  rw[pp] at h;let⟨w,e,h⟩:=AO.mp h;let⟨ks,e',h⟩:=AO.mp h;let⟨p,e'',rfl⟩:=DG.mp h;refine{.tup (λd hd=>?_) ?_,_,rfl}
  ·rcases BJ.mp hd with rfl|hd
   ·exact .str ((g.at e).ok 60)
   ·refine yp (Q:=Pl (n+3)) (λk j q h=>?_) e'' d hd
    cases k with
    |ask=>exact(Jg g hW n j q h).1
    |col=>exact wK h
    |num=>exact wK h
    |cols=>exact Jh (n:=n+2) hW (λi p=>A5) (λj q=>wK) h
    |prs=>exact Jh (n:=n+2) hW (λi p=>OS) (λj q=>ON) h
    |wrd=>exact Ji g h
    |nam=>exact Ji g h
  ·rw[Bg,vg e''];have:=Eg e';omega
end
def OM {l:A0 Nat}{a:D}(g:GT l)(h:pa l=some a):Pl 24 a/\∃ds,a=.tup ds:=by
 unfold pa at h;let⟨p,e,h⟩:=AO.mp h;split at h
 ·cases h;let⟨h1,h2⟩:=Jg (zu g.gd) (CM g) 20 0 p e;exact{h1.up,h2}
 ·cases h
def c1:(["NoText"]:To).contains (Str.ofString "NoText")=true:=by decide
def UU:AM [("NoText",true)] (Str.ofString "NoText")=some true:=by decide
def UT:AM [("NoText",false)] (Str.ofString "NoText")=some false:=by decide
def xq {d:D}(h:b9 [d]=some NT):eA [d,.non]=some (.bl true):=by
 rw[rP];have s2 : [D.bl true,.bl true].length + [D.bl false].length<=sizeLine:=by decide
 have s1:1<=sizeLine:=by decide
 have i1:∀U,kx false .non (.v .non) U=some (.v (.bl true),U):=λ_=>rfl;have k3:iK 60 (.fl [.bl true,.bl true,.bl false])=true:=rfl;have e3:j2 (.fl [.bl true,.bl true,.bl false]) (.fl [.bl true,.bl true,.bl false])=true:=rfl;push_cast [lZ,aW,aO,aR,bN,bA,bt,ci,bC,bB,cp,cz,cy,be,cB,cA,cu,bF,aZ,bG,bH,aI,bI,aY,h,JDe c1,UU,UT,s1,A8 s2,i1,k3,e3]
def JA0 {d:D}{ds:A0 D}(h:b9 [d]=none)(h2:iX [d]=some (.tup ds))(p:Pl 24 (.tup ds)):eA [d,.tup ds]=some (.bl true):=by rw[rP];have i1:∀U,kx false .non (.v (.tup ds)) U=some (.v (.bl false),U):=λ_=>rfl;have e0:j2 (.fl []) (.fl [])=true:=rfl;have sm:=zy p;push_cast [lZ,aW,aO,aR,bN,bA,bt,ci,bC,bB,cp,cz,cy,be,cB,cA,cu,bF,aZ,bG,bH,aI,bI,aY,h,h2,i1,OY,e0,sm]
theorem Af {l:A0 Nat}(g:GT l):eA [sT l,(pa l).getD .non]=some (.bl true):=by
 cases h:pa l with
 |none=>exact xq (MM g h)
 |some a=>
  let⟨h1,h2⟩:=ML g h;let⟨p,ds,rfl⟩:=OM g h;exact JA0 h1 h2 p
def Hg:b9 [.fd [] []]=some NT:=by kernel_rfl
noncomputable def wl (W:A0 (A0 Nat)):Nat:=(W.map λw=>w.length+1).sum
def jM (A B:A0 (A0 Nat)):wl (A++B)=wl A+wl B:=by simp[wl]
def j8 (a:A0 Nat)(B:A0 (A0 Nat)):wl (a::B)=a.length+1+wl B:=by simp[wl]
def rH:wl []=0:=rfl
theorem yK:∀{W:A0 (A0 Nat)},W≠[]->(jn W).length+1=wl W
 |[],h=>AH rfl h
 |[a],_=>by rw[j8,rH,jn]
 |a::b::t,_=>by rw[j8,←yK (W:=b::t) ∅,jn,Bx,Bg];omega
theorem D2 (W:A0 (A0 Nat)):(jn W).length<=wl W:=by
 cases W with
 |nil=>exact BH _
 |cons a t=>have:=yK (W:=a::t) ∅;omega
theorem D1:∀{W:A0 (A0 Nat)} {c:Nat},c∈jn W->c=32\/∃w∈W,c∈w
 |[],c,h=>by cases h
 |[a],c,h=>.inr {a,by simp,h}
 |a::b::t,c,h=>by
  rw[jn] at h;rcases C2.mp h with h|h
  ·exact .inr {a,by simp,h}
  ·rcases BJ.mp h with h|h
   ·exact .inl h
   ·rcases D1 h with h|⟨w,hw,h⟩
    ·exact .inl h
    ·exact .inr {w,Bk _ hw,h}
def Ng (l:A0 Nat):wl (sp l)=l.length+1:=by rw[←yK (rS l),D0]
def Nf (W:A0 (A0 Nat))(n:Nat):wl (W.take n)+wl (W.drop n)=wl W:=by rw[←jM,List.take_append_drop]
theorem JDi (W:A0 (A0 Nat))(n:Nat):wl (W.drop (n+1))<=wl (W.drop n):=by
 rw[←List.drop_drop]
 cases W.drop n with
 |nil=>simp[wl]
 |cons a t=>rw[j8];simp
theorem Nh (W:A0 (A0 Nat)):W.length<=wl W:=by
 induction W with
 |nil=>simp
 |cons a t ih=>rw[j8,Bg];omega
def Jx {W:A0 (A0 Nat)}(h:wl W<=3998)(hs:∀w∈W,∀c∈w,c<1114112):GT (jn W) :=
 {{by have:=D2 W;omega,λc hc=>by
  rcases D1 hc with rfl|⟨w,hw,hc⟩
  ·decide
  ·exact hs w hw c hc},by have:=D2 W;omega}
theorem GY (ws:To):∀acc,ws.foldl (λa w=>a+w.length+(⟨#[32]⟩:Str).length) acc=acc+(ws.map λw=>w.length+1).sum:=by
 induction ws with
 |nil=>intro acc;simp
 |cons w r ih=>
  intro acc;have e:(⟨#[32]⟩:Str).length=1:=rfl;rwa[zco,BA,List.sum_cons];rw[ih,e];omega
def JCx (ws:To)(h:(ws.map λw=>w.length+1).sum<=1000000):JoinOk ⟨#[32]⟩ ws=true:=by
 unfold JoinOk Builtin.Str.tooLong;have:=GY ws 0;rw[←List.foldl_toArray'] at this
 ·rwa[Bool.not_eq_true',decide_eq_false_iff_not,Nat.not_lt];have h4:(1000000:Nat)<=sizeLine:=by decide
  rw[zci] at this
  exact Br (Br (Nat.le_of_eq this) h) h4
 ·rfl
def HE (W:A0 (A0 Nat)):((tS W).map λw=>w.length+1).sum=wl W:=by unfold wl;rw[E9];congr 1
theorem JCh (W:A0 (A0 Nat)):jN (W.map sT)=some (tS W):=by
 induction W with
 |nil=>rfl
 |cons a t ih=>rw[BA,jN,ih];rfl
def xi {W:A0 (A0 Nat)}{n:Nat}{U:ah}(h:U[n]?=some (.lst (W.map sT)))(hw:wl W<=1000000):nB (.v (.str " ")) (.p n) U=some (.v (sT (jn W)),U):=by
 show((EX U[n]?).bind λds=>(jN ds).bind λts=>if JoinOk (Str.ofString " ") ts=true then some (R.v (.str (Txt.join (Str.ofString " ") ts)),U) else none)=_
 rw[h]
 show((jN (W.map sT)).bind λts=>if JoinOk (Str.ofString " ") ts=true then some (R.v (.str (Txt.join (Str.ofString " ") ts)),U) else none)=_
 rw[JCh,B8]
 show(if JoinOk ⟨#[32]⟩ (tS W)=true then some (R.v (.str (Txt.join ⟨#[32]⟩ (tS W))),U) else none)=_
 rw[A8 (JCx _ (by rw[HE];exact hw)),zY]
def MJ {Z:Type}{f:Z->D}{ws:A0 Z}{a:Nat}(h:a<=ws.length):HW.lu (ws.map f) none (some (a:Int))=(ws.take a).map f:=by have h1:HT.e7 (ws.map f).length 0 none=0:=rfl;have h2:HT.e7 (ws.map f).length (ws.map f).length (some (a:Int))=a:=(HT.nQ _ _ a).trans (by simp;omega);unfold HW.lu;rw[h1,h2,zb8];rfl
def Ew {Z:Type}{f:Z->D}{ws:A0 Z}{a:Nat}{x:Int}(hx:x=(a:Int))(h:a<=ws.length):HW.lu (ws.map f) (some x) none=(ws.drop a).map f:=by subst hx;have h1:HT.e7 (ws.map f).length 0 (some (a:Int))=a:=(HT.nQ _ _ a).trans (by simp;omega);have h2:HT.e7 (ws.map f).length (ws.map f).length none=(ws.map f).length:=rfl;unfold HW.lu;rw[h1,h2,List.map_drop,zbh ∅]
abbrev OZ:To:=["","table","pick","joined","columns","twins","ab","Ab","abcdefghi","0","1","2","-1","-","01","3 ","+3","1_0","-0"]
def LJ:∀w∈OZ,w.length<=9/\∀c∈w.cps.toList,c<1114112:=by decide
def pX {ws:To}{i:Int}(h:0<=i/\i<(ws.length:Int)):∃w∈ws,n9 (sD ws) i=some (.str w):=by
 obtain⟨j,rfl⟩:∃j:Nat,(j:Int)=i:={i.toNat,Int.toNat_of_nonneg h.1};have hj:j<ws.length:=by omega
 exact{ws[j],zcg hj,v5 (EF hj)}
def yZ (ns:Tj)(k:Int){l:A0 Nat}(g:d9 l)(hl:l.length<=3900):∃l',fL [.fl (ns.map .int),.int k,sT l]=some (sT l')/\GT l':=by
 obtain⟨W,hW⟩:∃W,W=sp l:={_,rfl};have w1:wl W=l.length+1:=by rw[hW];exact Ng l
 have wn:=Nh W;have hs:∀w∈W,∀c∈w,c<1114112:=λw hw c hc=>g.sig c (xZ l w (hW ▸ hw) c hc);have sl:=xY (l:=l) ∅ [];rw[←hW] at sl;have CZ:0<(W.length:Int):=by
  have:=rS l;rw[←hW] at this
  have:=zbF.mpr this;omega
 let⟨way,E3,bw⟩:=cP ns k 7 ∅;let⟨at_,hat,ba⟩:=cP ns (k+1) (W.length:Int) CZ;let⟨d,hd,bd⟩:=cP ns (k+2) 19 ∅;let⟨w,hw,aw⟩:=pX (ws:=OZ) (i:=d) bd;obtain⟨v,rfl⟩:∃v,w=Tx v:={_,ww w};have ow:=LJ _ hw;have ov:v.length<=9:=by have:=ow.1;(rw[c7] at this;assumption)
 have os:∀c∈v,c<1114112:=by simpa using ow.2
 rwa[sD,BA,DC] at aw;obtain⟨a,rfl⟩:∃a:Nat,at_=(a:Int):={at_.toNat,by omega};have la:a<W.length:=by omega
 have ct:=MJ (f:=sT) (ws:=W) (a:=a) ∅;have c0:=Ew (f:=sT) (ws:=W) (a:=a) rfl ∅;have c1:=Ew (f:=sT) (ws:=W) (a:=a+1) (x:=(a:Int)+1) ∅ ∅;have td:=Nf W a;have dr:=JDi W a;have s8:8<=sizeLine:=by decide
 have C3:11<=sizeLine:=by decide
 have s19:8+11<=sizeLine:=by decide
 have s1:1<=sizeLine:=by decide
 have lenW:(W.map sT).length=W.length:=by simp
 rw[fJ];have st:∀W',wl W'<=3998->(∀w∈W',∀c∈w,c<1114112)->fL [.fl (ns.map .int),.int k,sT l]=some (sT (jn W'))->∃l',fV (dE [some (.v (.fl (ns.map .int))),de k,some (.v (sT l)),none,none,none,none,none] [])=some (sT l')/\GT l':=λW' h1 h2 h3=>{_,by rw[←h3,fJ],Jx h1 h2};have t1:((W.take a).map sT).length+1<=sizeLine:=bK (by simp;omega);have t2:((W.take a).map sT++[sT v]).length+((W.drop (a+1)).map sT).length<=sizeLine:=bK (by simp;omega);have t3:((W.take a).map sT++[sT v]).length+((W.drop a).map sT).length<=sizeLine:=bK (by simp;omega);have t4:((W.take a).map sT).length+((W.drop (a+1)).map sT).length<=sizeLine:=bK (by simp;omega);have mm:∀(n:Nat),∀w∈W.take n,∀c∈w,c<1114112:=λn w hw=>hs w (zbE hw);have md:∀(n:Nat),∀w∈W.drop n,∀c∈w,c<1114112:=λn w hw=>hs w (zbY hw);by_cases q1:way<3
 ·have d1:=Bq q1;refine st (W.take a++[v]++W.drop (a+1)) (by rw[jM,jM,j8,rH];omega) (λw hw=>by
   rcases C2.mp hw with hw|hw
   ·rcases C2.mp hw with hw|hw
    ·exact mm a w hw
    ·rw[Bi.mp hw];exact os
   ·exact md (a+1) w hw) ?_
  have jo:=λ(n:Nat) (U:ah) (h:U[n]?=some (.lst ((W.take a).map sT++[sT v]++(W.drop (a+1)).map sT)))=>xi (W:=W.take a++[v]++W.drop (a+1)) (n:=n) (U:=U) (by rw[h,Bv,Bv];rfl) (by rw[jM,jM,j8,rH];omega);rw[fJ];push_cast [dE,sl,lenW,E3,hat,hd,aw,s8,C3,s19,s1,d1,oK,kP,uj,oN,oM,ct,c1,t1,t2];rw[jo 8 _ rfl];rfl
 have d1:=Bf q1;by_cases q3:way=3
 ·have e3:(way == 3)=true:=by rw[q3];rfl
  refine st (W.take a++[v]++W.drop a) (by rw[jM,jM,j8,rH];omega) (λw hw=>by
   rcases C2.mp hw with hw|hw
   ·rcases C2.mp hw with hw|hw
    ·exact mm a w hw
    ·rw[Bi.mp hw];exact os
   ·exact md a w hw) ?_
  have jo:=λ(n:Nat) (U:ah) (h:U[n]?=some (.lst ((W.take a).map sT++[sT v]++(W.drop a).map sT)))=>xi (W:=W.take a++[v]++W.drop a) (n:=n) (U:=U) (by rw[h,Bv,Bv];rfl) (by rw[jM,jM,j8,rH];omega);rw[fJ];push_cast [dE,sl,lenW,E3,hat,hd,aw,s8,C3,s19,s1,d1,e3,oK,kP,uj,oN,oM,ct,c0,t1,t3];rw[jo 8 _ rfl];rfl
 have e3:(way == 3)=false:=beq_eq_false_iff_ne.mpr q3;by_cases q4:way=4
 ·have e4:(way == 4)=true:=by rw[q4];rfl
  refine st (W.take a++W.drop (a+1)) (by rw[jM];omega) (λw hw=>by
   rcases C2.mp hw with hw|hw
   ·exact mm a w hw
   ·exact md (a+1) w hw) ?_
  have jo:=λ(n:Nat) (U:ah) (h:U[n]?=some (.lst ((W.take a).map sT++(W.drop (a+1)).map sT)))=>xi (W:=W.take a++W.drop (a+1)) (n:=n) (U:=U) (by rw[h,Bv]) (by rw[jM];omega);rw[fJ];push_cast [dE,sl,lenW,E3,hat,hd,aw,s8,C3,s19,s1,d1,e3,e4,oK,kP,uj,oN,oM,ct,c1,t4];rw[jo 6 _ rfl];rfl
 have e4:(way == 4)=false:=beq_eq_false_iff_ne.mpr q4;by_cases q5:way=5
 ·have e5:(way == 5)=true:=by rw[q5];rfl
  refine st (W.take a) ∅ (λw hw=>mm a w hw) ?_;have jo:=λ(n:Nat) (U:ah) (h:U[n]?=some (.lst ((W.take a).map sT)))=>xi (W:=W.take a) (n:=n) (U:=U) h ∅;rw[fJ];push_cast [dE,sl,lenW,E3,hat,hd,aw,s8,C3,s19,s1,d1,e3,e4,e5,oK,kP,uj,oN,oM,ct];rw[jo 4 _ rfl];rfl
 have e5:(way == 5)=false:=beq_eq_false_iff_ne.mpr q5;have y1:l.length + [32].length<=sizeLine:=bK (by simp;omega);have y2:(l++[32]).length+v.length<=sizeLine:=bK (by simp;omega);have tsp:(Str.ofString " ")=Tx [32]:=B8;have ad1:∀U:ah,bu (.v (sT l)) (.v (.str " ")) U=some (.v (sT (l++[32])),U):=λU=>by rw[tsp,di,A8 y1]
 have ad2:∀U:ah,bu (.v (sT (l++[32]))) (.v (sT v)) U=some (.v (sT (l++[32]++v)),U):=λU=>by rw[di,A8 y2]
 refine{l++[32]++v,?_,{{by simp;omega,λc hc=>?_},by simp;omega}}
 ·push_cast [dE,sl,lenW,E3,hat,hd,aw,s8,C3,s19,s1,d1,e3,e4,e5,oK,kP,uj,oN,oM,ad1,ad2]
 ·rcases C2.mp hc with hc|hc
  ·rcases C2.mp hc with hc|hc
   ·exact g.sig c hc
   ·rw[Bi.mp hc];decide
  ·exact os c hc
def S5 (x:D)(xs:A0 D):HW.lu (x::xs) (some 1) none=xs:=by unfold HW.lu;have h1:HT.e7 (x::xs).length 0 (some (1:Int))=min 1 (x::xs).length:=HT.nQ _ _ 1;have h2:HT.e7 (x::xs).length (x::xs).length none=(x::xs).length:=rfl;rw[h1,h2];simp
theorem Aj:∀l:Tj,flatDs (l.map D.int)=true
 |[]=>rfl
 |i::l=>by rw[BA,flatDs,Aj l];rfl
theorem Ei:∀l:A0 (Int×Int),flatDs (l.map A3)=true
 |[]=>rfl
 |i::l=>by rw[BA,flatDs,Ei l];rfl
theorem Ek {xs:A0 D}(h:∀d∈xs,mj d=true):flatDs xs=true:=by
 induction xs with
 |nil=>rfl
 |cons x xs ih=>rw[flatDs,h x Bw,ih λd hd=>h d (Bk _ hd)];rfl
theorem AK.flat:∀{k:Nat} {a:D} {ws:To},AK k a ws->mj a=true
 |0,_,_,h=>h.elim
 |k+1,a,ws,hh=>by
  let⟨wd,pw,h1,h2,rfl,rfl,h5,h6⟩:=hh;have:flatDs (pw.map (·.2.2))=true:=Ek λd hd=>by
   let⟨p,hp,rfl⟩:=zbC.mp hd;have t:=h6 p hp
   cases t with
   |ask t=>exact AK.flat t
   |col t=>rfl
   |num t=>rfl
   |cols t u=>rwa[mj];exact Aj _
   |pairs t u=>rwa[mj];exact Ei _
   |word t=>rfl
   |name t=>rfl
  simp[mj,flatDs,this]
theorem GZ {pw:A0 (D×To×D)}{p}(h:p∈pw):p.2.1.length<=(pw.flatMap (·.2.1)).length:=by
 induction pw with
 |nil=>cases h
 |cons a pw ih=>
  rw[zbA,Bx];rcases BJ.mp h with rfl|h
  ·omega
  ·have:=ih h;omega
section
variable {F:MC}
theorem GD {k:Nat}{p:D×To×D}{acc:To}{x0 x2 x3:UO R}{n:Nat}{U:ah}(hF:∀a ws,AK k a ws->ws.length<=p.2.1.length->F [a]=some (.lst (sD ws)))(t:Th (AK k) p)(hz:acc.length+p.2.1.length<4000)(hn:U[n]?=some (.lst (sD acc))) :
  ∃n' U' Dh,cJ F [x0,dM n,some (.v p.2.2),x3] U=some (.nx [x0,dM n',some (.v p.2.2),Dh] U')/\U'[n']?=some (.lst (sD (acc++p.2.1))):=by
 have Cb:=(Bn.mp hn).1
 have ps:∀(w:Str),(U.set n (.lst (sD acc++[.str w])))[n]?=some (.lst (sD (acc++[w]))):=λw=>by
  rw[DZ Cb,sD,sD,Bv];rfl
 have z1:(sD acc).length<sizeLine:=lF (by rw[BI];omega)
 have lg:∀k:Int,Nm k->k.natAbs.log2<1920:=λk hk=>by
  have hk:k.natAbs<10 ^ 60:=hk
  by_cases h0:k.natAbs=0
  ·rw[h0];decide
  ·have:k.natAbs.log2<200:=by rw[Nat.log2_lt h0];exact Dl hk ∅
   omega
 have iI:∀(i:Int) (U:ah),gi "str" (.v (.int i)) U=some (.v (.bl false),U):=λi U=>by kernel_rfl
 have iT:∀(i:Int) (U:ah),gi "tuple" (.v (.int i)) U=some (.v (.bl false),U):=λi U=>by kernel_rfl
 have iS:∀(s:Str) (U:ah),gi "str" (.v (.str s)) U=some (.v (.bl true),U):=λi U=>by kernel_rfl
 have tS:∀(xs:A0 D) (U:ah),gi "str" (.v (.tup xs)) U=some (.v (.bl false),U):=λi U=>by kernel_rfl
 have tT:∀(xs:A0 D) (U:ah),gi "tuple" (.v (.tup xs)) U=some (.v (.bl true),U):=λi U=>by kernel_rfl
 have one:∀k:Int,Nm k->∃n' U' Dh,cJ F [x0,dM n,de k,x3] U=some (.nx [x0,dM n',de k,Dh] U')/\U'[n']?=some (.lst (sD (acc++[wN k]))):=λk hk=>by
  refine{n,_,x3,?_,ps _};push_cast [cJ,iI,iT,lg k hk,rR,hn,z1]
 have wrd:∀w:Str,∃n' U' Dh,cJ F [x0,dM n,some (.v (.str w)),x3] U=some (.nx [x0,dM n',some (.v (.str w)),Dh] U')/\U'[n']?=some (.lst (sD (acc++[w]))):=λw=>by
  refine{n,_,x3,?_,ps _};push_cast [cJ,iS,hn,z1]
 cases t with
 | @ask a ws t=>
  have f:=hF a ws t (BH _);have fl:=pV ws
  cases k with
  |zero=>exact t.elim
  |succ k=>
   let⟨wd,pw,h1,h2,rfl,h4,h5,h6⟩:=t;have zt:(D.str wd::pw.map (·.2.2)).length<=sizeLine:=bK (by simp;omega);have gt:decide (((pw.map (·.2.2)).length+1:Nat)>(0:Int))=true:=Bq ∅
   have kp:(U++[.lst (sD ws)])[n]?=some (.lst (sD acc)):=by rw[C0 Cb];exact hn
   have ad:re (.p n) (.p U.length) (U++[.lst (sD ws)])=some (.p (U++[et.lst (sD ws)]).length,U++[.lst (sD ws)]++[.lst (sD acc++sD ws)]):=by
    have s1:o2 (.p n) (U++[.lst (sD ws)])=some (sD acc):=by unfold o2;rwa[kp]
    have s2:o2 (.p U.length) (U++[.lst (sD ws)])=some (sD ws):=by unfold o2;rwa[Bj]
    unfold re;rwa[s1,s2,AZ];rw[A8 (bK ‹hz›)]
   refine{(U++[et.lst (sD ws)]).length,U++[.lst (sD ws)]++[.lst (sD acc++sD ws)],x3,?_,?_}
   ·push_cast [cJ,tS,tT,iS,zt,gt,f,fl,ad]
   ·rw[Bj,sD,sD,sD,Bv]
 | @col k t=>exact one k t
 | @num k t=>exact one k t
 | @word w t=>exact wrd w
 | @name w t=>exact wrd w
 | @cols cs t u=>
  have hz:acc.length+(cs.length+1)<4000:=by simpa using hz
  have zt:(cs.map D.int).length<=sizeLine:=bK (by rw[BI];omega)
  have nt:∀U,jO (fB (ax wf (fF gJ (ac (af 2) ai)) (fK (.int 0)))) (gQ (fT (gi "str") (ax fq (af 2) (fK (.int 0))))) [x0,dM n,some (.v (.tup (cs.map .int))),x3] U=some (false,U):=λU=>by
   cases cs with
   |nil=>kernel_rfl
   |cons c cs=>
    have gt:decide (((cs.map D.int).length+1:Nat)>(0:Int))=true:=Bq ∅;push_cast [zt,gt,iI]
  let⟨⟨BP,Dh⟩,DR,h1⟩:=nw (g:=gY 3) (b:=gP F) D.int
   (λst:To×UO R=>([x0,dM n,some (.v (.tup (cs.map .int))),st.2],U.set n (.lst (sD st.1))))
   (λst rem=>(∀c∈rem,Nm c)/\st.1++rem.map wN=acc++wC cs) cs (acc++[wN cs.length],x3) {u,by rw[F1];rfl} (by
    rintro⟨BP,Dh⟩ c rem ⟨h1,h2⟩
    have zl:(sD BP).length<sizeLine:=lF (by
     have:=AQ List.length h2
     simp at this
     rw[BI]
     omega)
    refine{(BP++[wN c],some (.v (.int c))),?_,λc' hc=>h1 c' (Bk _ hc),by rw[F1];exact h2};have g1:(U.set n (.lst (sD BP)))[n]?=some (.lst (sD BP)):=DZ Cb
    have sa:sD BP++[.str (wN c)]=sD (BP++[wN c]):=by rw[sD,sD,Bv];rfl
    push_cast [gP,iT,lg c (h1 c Bw),rR,g1,zl,sa,List.set_set])
  refine{n,U.set n (.lst (sD BP)),Dh,?_,?_}
  ·have sa:sD acc++[.str (wN cs.length)]=sD (acc++[wN cs.length]):=by rw[sD,sD,Bv];rfl
   have lg1:=lg (cs.length:Int) (vz ∅)
   have t1:gQ (fT (gi "str") (af 2)) [x0,dM n,some (.v (.tup (cs.map .int))),x3] U=some (false,U):=by push_cast [tS]
   have t2:iu (gQ (fT (gi "tuple") (af 2))) [x0,dM n,some (.v (.tup (cs.map .int))),x3] U=some (false,U):=by push_cast [tT]
   rw[cJ,cF,t1,eW,cF,t2,eW,cF,nt,eW];have z1':acc.length<sizeLine:=lF ∅;push_cast [lg1,rR,hn,z1',zt,BI,sa,DR]
  ·rw[DZ Cb,←h1.2]
   simp
 | @pairs ps t u=>
  have fl2:∀l:A0 (Int×Int),(l.flatMap λp=>[wN p.1,wN p.2]).length=2*l.length:=λl=>by
   induction l with
   |nil=>rfl
   |cons a l ih=>rw[zbA,Bx,ih];simp;omega
  have hz:acc.length+(2*ps.length+1)<4000:=by
   have hz:acc.length+((ps.flatMap λp=>[wN p.1,wN p.2]).length+1)<4000:=hz
   (rw[fl2] at hz;assumption)
  have zt:(ps.map A3).length<=sizeLine:=bK (by rw[BI];omega)
  have nt:∀U,jO (fB (ax wf (fF gJ (ac (af 2) ai)) (fK (.int 0)))) (gQ (fT (gi "str") (ax fq (af 2) (fK (.int 0))))) [x0,dM n,some (.v (.tup (ps.map A3))),x3] U=some (false,U):=λU=>by
   cases ps with
   |nil=>kernel_rfl
   |cons c ps=>
    have gt:decide (((ps.map A3).length+1:Nat)>(0:Int))=true:=Bq ∅;push_cast [zt,gt,tS]
  have Dm:(U.set n (.lst (sD (acc++[wN ps.length]))))[n]?=some (.lst (sD (acc++[wN ps.length]))):=DZ Cb
  let⟨⟨BP,Dh,n',U'⟩,DR,h0,h1,h2⟩:=nw (g:=gY 3) (b:=gP F) A3
   (λst:To×UO R×Nat×ah=>([x0,dM st.2.2.1,some (.v (.tup (ps.map A3))),st.2.1],st.2.2.2))
   (λst rem=>(∀c∈rem,Nm c.1/\Nm c.2)/\st.2.2.2[st.2.2.1]?=some (.lst (sD st.1))/\st.1++(rem.flatMap λp=>[wN p.1,wN p.2])=acc++wP ps) ps (acc++[wN ps.length],x3,n,U.set n (.lst (sD (acc++[wN ps.length])))) {u,Dm,by rw[F1];rfl} (by
    rintro⟨BP,Dh,n',U'⟩ c rem ⟨h0,h1,h2⟩;have h1:U'[n']?=some (.lst (sD BP)):=h1;let⟨c1,c2⟩:=h0 c Bw
    have zl:(sD BP).length+2<=sizeLine:=bK (by
     have:=AQ List.length h2
     rw[zbA] at this
     rwa[Bx,Bg,fl2,zbu] at this
     rw[BI]
     omega)
    have kp:(U'++[.lst [.str (wN c.1),.str (wN c.2)]])[n']?=some (.lst (sD BP)):=by rw[C0 (Bn.mp h1).1];exact h1
    have ad:re (.p n') (.p U'.length) (U'++[.lst [.str (wN c.1),.str (wN c.2)]])=some (.p (U'++[et.lst [.str (wN c.1),.str (wN c.2)]]).length,U'++[.lst [.str (wN c.1),.str (wN c.2)]]++[.lst (sD BP++[.str (wN c.1),.str (wN c.2)])]):=by
     have s1:o2 (.p n') (U'++[.lst [.str (wN c.1),.str (wN c.2)]])=some (sD BP):=by unfold o2;rwa[kp]
     have s2:o2 (.p U'.length) (U'++[.lst [.str (wN c.1),.str (wN c.2)]])=some [.str (wN c.1),.str (wN c.2)]:=by unfold o2;rwa[Bj]
     unfold re;rwa[s1,s2,AZ];rw[A8 (show(sD BP).length + [D.str (wN c.1),D.str (wN c.2)].length<=sizeLine from zl)]
    refine{(BP++[wN c.1,wN c.2],some (.v (A3 c)),(U'++[et.lst [.str (wN c.1),.str (wN c.2)]]).length,U'++[.lst [.str (wN c.1),.str (wN c.2)]]++[.lst (sD BP++[.str (wN c.1),.str (wN c.2)])]),?_,λc' hc=>h0 c' (Bk _ hc),?_,by rw[F1];exact h2}
    ·have s22:2<=sizeLine:=by decide
     push_cast [gP,tT,lg c.1 c1,lg c.2 c2,rR,s22,ad]
    ·show(_++[_])[_]?=_
     rw[Bj,sD,sD,Bv]
     rfl)
  refine{n',U',Dh,?_,?_}
  ·have sa:sD acc++[.str (wN ps.length)]=sD (acc++[wN ps.length]):=by rw[sD,sD,Bv];rfl
   have lg1:=lg (ps.length:Int) (vz ∅)
   have t1:gQ (fT (gi "str") (af 2)) [x0,dM n,some (.v (.tup (ps.map A3))),x3] U=some (false,U):=by push_cast [tS]
   have t2:iu (gQ (fT (gi "tuple") (af 2))) [x0,dM n,some (.v (.tup (ps.map A3))),x3] U=some (false,U):=by push_cast [tT]
   rw[cJ,cF,t1,eW,cF,t2,eW,cF,nt,eW];have z1':acc.length<sizeLine:=lF ∅;push_cast [lg1,rR,hn,z1',zt,BI,sa,DR]
  ·show U'[n']?=some (.lst (sD (acc++wP ps)))
   rw[←h2,List.flatMap_nil,Dr];exact h1
end
theorem uB:∀{k:Nat} {a:D} {ws:To},AK k a ws->ws.length<4000->dA k [a]=some (.lst (sD ws))
 |0,_,_,h=>h.elim
 |k+1,a,ws,hh=>by
  intro hz;let⟨wd,pw,h1,h2,rfl,rfl,h5,h6⟩:=hh;rw[Bg] at hz;have zf:(pw.map (·.2.2)).length<=sizeLine:=bK (by rw[BI];omega);have C3:1<=sizeLine:=by decide
  let⟨⟨acc,x2,x3,n,U⟩,DR,h7,h8,h9⟩:=nw (g:=gY 2) (b:=cJ (dA k)) (λp:D×To×D=>p.2.2)
   (λst:To×UO R×UO R×Nat×ah=>([some (.v (.tup (.str wd::pw.map (·.2.2)))),dM st.2.2.2.1,st.2.1,st.2.2.1],st.2.2.2.2))
   (λst rem=>(∀p∈rem,p∈pw)/\st.2.2.2.2[st.2.2.2.1]?=some (.lst (sD st.1))/\st.1++rem.flatMap (·.2.1)=wd::pw.flatMap (·.2.1)) pw ([wd],none,none,0,[.lst [.str wd]]) {λ_ h=>h,rfl,rfl} (by
    rintro⟨acc,x2,x3,n,U⟩ p rem ⟨h7,h8,h9⟩;have hp:=h7 p Bw;let⟨n',U',Dh,e1,e2⟩:=GD (F:=dA k) (p:=p) (k:=k) (acc:=acc) (x0:=some (.v (.tup (.str wd::pw.map (·.2.2))))) (x2:=x2) (x3:=x3) (n:=n) (U:=U) (λa ws' t hl=>uB t (by have:=GZ hp;omega)) (h6 p hp) (by
     have:=AQ List.length h9;rw[zbA] at this
     rwa[Bx,Bg] at this
     omega) h8
    exact{(acc++p.2.1,some (.v p.2.2),Dh,n',U'),e1,λp' hp=>h7 p' (Bk _ hp),e2,by rw[F1];exact h9})
  rw[List.flatMap_nil,Dr] at h9;have h9:acc=wd::pw.flatMap (·.2.1):=h9;have h8:U[n]?=some (.lst (sD acc)):=h8;rw[h9] at h8;rw[wu];push_cast [nJ,C3,S5,zf,DR,h8]
def Nq (k:Int):32∉tn k:=by
 intro hc;have:(32:Nat)=45\/32∈dg k.natAbs:=by
  unfold tn at hc;split at hc
  ·simpa using hc
  ·exact .inr hc
 rcases this with h|h
 ·omega
 ·have:=Ev _ 32 h;omega
def Gs {w:Str}(h:iK 60 (.str w)=true):∀c∈w.cps.toList,c<1114112:=by obtain⟨l,rfl⟩:∃l,w=Tx l:={_,ww w};have o:PyData.strOk (Tx l)=true:=h;unfold PyData.strOk at o;rwa[Tx,List.all_toArray,F0,decide_eq_true_eq] at o ⊢;exact o
def Wd (w:Str):Prop:=32∉w.cps.toList/\w.length<=70/\∀c∈w.cps.toList,c<1114112
def xI {k:Int}(h:Nm k):Wd (wN k):={Nq k,by rw[c7];have:=xS (n:=k) (k:=60) ∅ h;omega,JW k}
def Lt.wd {w:Str}(h:Lt w):Wd w:={h.sp,by have:=h.le;omega,Gs h.ok}
theorem AK.wd:∀{k:Nat} {a:D} {ws:To},AK k a ws->∀w∈ws,Wd w
 |0,_,_,h=>h.elim
 |k+1,a,ws,hh=>by
  intro w hw;let⟨wd,pw,h1,h2,rfl,rfl,h5,h6⟩:=hh;rcases BJ.mp hw with rfl|hw
  ·exact h2.wd
  ·let⟨p,hp,hw⟩:=List.mem_flatMap.mp hw;have t:=h6 p hp
   cases t with
   |ask t=>exact AK.wd t w hw
   |col t=>rw[Bi.mp hw];exact xI t
   |num t=>rw[Bi.mp hw];exact xI t
   |cols t u=>
    rcases BJ.mp hw with rfl|hw
    ·exact xI (vz ∅)
    ·let⟨c,hc,rfl⟩:=zbC.mp hw;exact xI (u c hc)
   |pairs t u=>
    rcases BJ.mp hw with rfl|hw
    ·exact xI (vz ∅)
    ·let⟨c,hc,hw⟩:=List.mem_flatMap.mp hw;rcases BJ.mp hw with rfl|hw
     ·exact xI (u c hc).1
     ·rw[Bi.mp hw];exact xI (u c hc).2
   |word t=>rw[Bi.mp hw];exact t.wd
   |name t=>rw[Bi.mp hw];exact t.wd
noncomputable def wS (ws:To):Nat:=(ws.map λw=>w.length+1).sum
def jr (A B:To):wS (A++B)=wS A+wS B:=by simp[wS]
def ck (a:Str)(B:To):wS (a::B)=a.length+1+wS B:=by simp[wS]
def mG:wS []=0:=rfl
theorem Ni (W:To):W.length<=wS W:=by
 induction W with
 |nil=>simp
 |cons a t ih=>rw[ck,Bg];omega
def Jp {l:A0 Nat}(h1:1<=l.length)(h2:l.length<=8)(h:∀c∈l,c∈az):Lt (Tx l):=by
 have hb:∀c∈l,97<=c/\c<=122:=λc hc=>S7 c (h c hc);have gl:d9 l:={by omega,λc hc=>by have:=hb c hc;omega};have il:mz l=true:=by unfold mz;rwa[DX,decide_eq_true_eq,F0];exact{by omega,by omega,h}
 exact{Jq gl il,LH gl.sig,λhc=>by have:=hb 32 hc;omega,by rw[c7];omega}
def fS {w:Str}{l:A0 Nat}(e:w=Tx l)(h:(decide (1<=l.length)&&decide (l.length<=8)&&l.all (λc=>az.contains c))=true):Lt w:=by subst e;rwa[DX,decide_eq_true_eq,F0,List.contains_iff_mem] at h;exact Jp h.1.1 h.1.2 h.2
def wY:Lt "table":=fS (l:=[116,97,98,108,101]) ∅ ∅
def GF:Lt "pick":=fS (l:=[112,105,99,107]) ∅ ∅
def JCr:Lt "twins":=fS (l:=[116,119,105,110,115]) ∅ ∅
def yA:Lt "columns":=fS (l:=[99,111,108,117,109,110,115]) ∅ ∅
def yz:Lt "counted":=fS (l:=[99,111,117,110,116,101,100]) ∅ ∅
def JBg:Lt "summed":=fS (l:=[115,117,109,109,101,100]) ∅ ∅
def JBh:Lt "lifted":=fS (l:=[108,105,102,116,101,100]) ∅ ∅
def JBi:Lt "joined":=fS (l:=[106,111,105,110,101,100]) ∅ ∅
def yy:Lt "matched":=fS (l:=[109,97,116,99,104,101,100]) ∅ ∅
def JK:∀w∈(["is","under","over","abcdefgh"]:To),Lt w:=by
 intro w hw;rwa[BJ,Ez,or_false] at hw;rcases hw with rfl|rfl|rfl|rfl
 ·exact fS (l:=[105,115]) ∅ ∅
 ·exact fS (l:=[117,110,100,101,114]) ∅ ∅
 ·exact fS (l:=[111,118,101,114]) ∅ ∅
 ·exact fS (l:=[97,98,99,100,101,102,103,104]) ∅ ∅
def JL:∀w∈(["moved","ever","always","known","asof","from","q"]:To),Lt w:=by
 intro w hw;rwa[BJ,Ez,or_false] at hw;rcases hw with rfl|rfl|rfl|rfl|rfl|rfl|rfl
 ·exact fS (l:=[109,111,118,101,100]) ∅ ∅
 ·exact fS (l:=[101,118,101,114]) ∅ ∅
 ·exact fS (l:=[97,108,119,97,121,115]) ∅ ∅
 ·exact fS (l:=[107,110,111,119,110]) ∅ ∅
 ·exact fS (l:=[97,115,111,102]) ∅ ∅
 ·exact fS (l:=[102,114,111,109]) ∅ ∅
 ·exact fS (l:=[113]) ∅ ∅
def JM:∀w∈(["both","either","less","just","table"]:To),Lt w:=by
 intro w hw;rwa[BJ,Ez,or_false] at hw;rcases hw with rfl|rfl|rfl|rfl|rfl
 ·exact fS (l:=[98,111,116,104]) ∅ ∅
 ·exact fS (l:=[101,105,116,104,101,114]) ∅ ∅
 ·exact fS (l:=[108,101,115,115]) ∅ ∅
 ·exact fS (l:=[106,117,115,116]) ∅ ∅
 ·exact wY
section
variable {k:Nat}{a b:D}{u v:To}
def LQ {P:D×To×D->Prop}{x y}(h1:P x)(h2:P y):∀p∈[x,y],P p:=λp hp=>by
 rcases BJ.mp hp with rfl|hp
 ·exact h1
 ·rw[Bi.mp hp];exact h2
def Bd {P:D×To×D->Prop}{x y z}(h1:P x)(h2:P y)(h3:P z):∀p∈[x,y,z],P p:=λp hp=>by
 rcases BJ.mp hp with rfl|hp
 ·exact h1
 ·exact LQ h2 h3 p hp
def RK {P:D×To×D->Prop}{x y z t}(h1:P x)(h2:P y)(h3:P z)(h4:P t):∀p∈[x,y,z,t],P p:=λp hp=>by
 rcases BJ.mp hp with rfl|hp
 ·exact h1
 ·exact Bd h2 h3 h4 p hp
def EK {w:Str}(h:Lt w):AK (k+1) (.tup [.str "table",.str w]) ["table",w] :=
 {"table",[(.str "name",[w],.str w)],by kernel_rfl,wY,rfl,rfl,by simp,λp hp=>by rw[Bi.mp hp];exact .name h}
def Hn {c n:Int}{w:Str}(h:AK k a u)(hc:Nm c)(hw:Lt w)(hn:Nm n):AK (k+1) (.tup [.str "pick",a,.int c,.str w,.int n]) ("pick" :: (u++[wN c,w,wN n])) :=
 {"pick",[(.str "ask",u,a),(.str "column",[wN c],.int c),(.str "word",[w],.str w),(.str "number",[wN n],.int n)],by kernel_rfl,GF,rfl,by simp,by simp,RK (.ask h) (.col hc) (.word hw) (.num hn)}
def JDp {c c':Int}(h:AK k a u)(hc:Nm c)(EJ:Nm c'):AK (k+1) (.tup [.str "twins",a,.int c,.int c']) ("twins" :: (u++[wN c,wN c'])) :=
 {"twins",[(.str "ask",u,a),(.str "column",[wN c],.int c),(.str "column",[wN c'],.int c')],by kernel_rfl,JCr,rfl,by simp,by simp,Bd (.ask h) (.col hc) (.col EJ)}
def Ho {n:Int}{w:Str}(h:AK k a u)(hw:Lt w)(hn:Nm n):AK (k+1) (.tup [.str "lifted",a,.str w,.int n]) ("lifted" :: (u++[w,wN n])) :=
 {"lifted",[(.str "ask",u,a),(.str "word",[w],.str w),(.str "number",[wN n],.int n)],by kernel_rfl,JBh,rfl,by simp,by simp,Bd (.ask h) (.word hw) (.num hn)}
def MP {cs:Tj}{c:Int}(h:AK k a u)(hl:cs.length<10)(CL:∀c∈cs,Nm c)(hc:Nm c):AK (k+1) (.tup [.str "summed",a,.tup (cs.map .int),.int c]) ("summed" :: (u++(wC cs++[wN c]))) :=
 {"summed",[(.str "ask",u,a),(.str "columns",wC cs,.tup (cs.map .int)),(.str "column",[wN c],.int c)],by kernel_rfl,JBg,rfl,by simp,by simp,Bd (.ask h) (.cols hl CL) (.col hc)}
def Hr {cs:Tj}(h:AK k a u)(hl:cs.length<10)(CL:∀c∈cs,Nm c):AK (k+1) (.tup [.str "columns",a,.tup (cs.map .int)]) ("columns" :: (u++wC cs)) :=
 {"columns",[(.str "ask",u,a),(.str "columns",wC cs,.tup (cs.map .int))],by kernel_rfl,yA,rfl,by simp,by simp,LQ (.ask h) (.cols hl CL)}
def MR {cs:Tj}(h:AK k a u)(hl:cs.length<10)(CL:∀c∈cs,Nm c):AK (k+1) (.tup [.str "counted",a,.tup (cs.map .int)]) ("counted" :: (u++wC cs)) :=
 {"counted",[(.str "ask",u,a),(.str "columns",wC cs,.tup (cs.map .int))],by kernel_rfl,yz,rfl,by simp,by simp,LQ (.ask h) (.cols hl CL)}
def Hq {w:Str}(h:AK k a u)(h':AK k b v)(hw:Lt w):AK (k+1) (.tup [.str "joined",a,b,.str w]) ("joined" :: (u++(v++[w]))) :=
 {"joined",[(.str "ask",u,a),(.str "ask",v,b),(.str "word",[w],.str w)],by kernel_rfl,JBi,rfl,by simp,by simp,Bd (.ask h) (.ask h') (.word hw)}
def MQ {ps:A0 (Int×Int)}(h:AK k a u)(h':AK k b v)(hl:ps.length<10)(hp:∀p∈ps,Nm p.1/\Nm p.2):AK (k+1) (.tup [.str "matched",a,b,.tup (ps.map A3)]) ("matched" :: (u++(v++wP ps))) :=
 {"matched",[(.str "ask",u,a),(.str "ask",v,b),(.str "pairs",wP ps,.tup (ps.map A3))],by kernel_rfl,yy,rfl,by simp,by simp,Bd (.ask h) (.ask h') (.pairs hl hp)}
end
def yt {k:Int}(h:0<=k/\k<9):Nm k:=by
 show k.natAbs<10 ^ 60
 exact Be (show k.natAbs<9 by omega) ∅
def sU (ns:Tj)(k:Int):∃cs:Tj,dB [.fl (ns.map .int),.int k]=some (.tup (cs.map .int))/\cs.length<=3/\∀c∈cs,0<=c/\c<9:=by
 let⟨d,ed,bd⟩:=cP ns k 4 ∅;obtain⟨m,rfl⟩:∃m:Nat,d=(m:Int):={d.toNat,by omega};have ex:∀j:Nat,∃c:Int,aF [.fl (ns.map .int),.int (k+1+j),.int 9]=some (.int c)/\(0<=c/\c<9):=λj=>by let⟨c,ec,bc⟩:=cP ns (k+1+j) 9 ∅;exact{c,ec,bc}
 obtain⟨f,hf⟩:∃f:Nat->Int,∀j:Nat,aF [.fl (ns.map .int),.int (k+1+j),.int 9]=some (.int (f j))/\(0<=f j/\f j<9):={λj=>(ex j).choose,λj=>(ex j).choose_spec};have co:=g4 (f:=aP aF 3 (ac (br (af 1)) (ac (br (ax bu (ax bu (af 2) (fK (.int 1))) (af 0))) (ac (fK (.int 9)) ai)))) (U:=[]) (rest:=[some (.v (.fl (ns.map .int))),de k]) (λi:Nat=>D.int (i:Int)) (λi=>D.int (f i)) (List.range m) none (λi _=>by push_cast [(hf i).1])
 have r1:=kM (j:=(m:Int)) (U:=([]:ah)) ∅;have z:((List.range m).map λi:Nat=>D.int (i:Int)).length<=sizeLine:=bK (by simp;omega);have b:fU 1 [0,1] [some (R.v (.fl (ns.map .int))),de k,de m]=[none,some (.v (.fl (ns.map .int))),de k]:=rfl;refine{(List.range m).map f,?_,by simp;omega,λc hc=>by let⟨j,_,rfl⟩:=zbC.mp hc;exact(hf j).2};rw[tF];push_cast [kR,ed,r1,EB,z,b,co];rw[E9];rfl
def GH:∀w∈(["is","under","over","abcdefgh"]:To),w.length<=8:=by decide
def GI:∀w∈(["moved","ever","always","known","asof","from","q"]:To),w.length<=8:=by decide
def GJ:∀w∈(["both","either","less","just","table"]:To),w.length<=8:=by decide
def rC:(Str.ofString "table").length=5/\(Str.ofString "pick").length=4/\(Str.ofString "twins").length=5/\(Str.ofString "columns").length=7/\(Str.ofString "counted").length=7/\(Str.ofString "summed").length=6/\(Str.ofString "lifted").length=6/\(Str.ofString "joined").length=6/\(Str.ofString "matched").length=7:=by decide
def tq {c:Int}(h:0<=c/\c<9):(wN c).length<=2:=by rw[c7];exact xS (k:=1) ∅ ∅
def Nk {c:Int}(h:Nm c):(wN c).length<=61:=by rw[c7];exact xS (k:=60) ∅ h
theorem JN {cs:Tj}(h:∀c∈cs,0<=c/\c<9):wS (cs.map wN)<=3*cs.length:=by
 induction cs with
 |nil=>exact BH _
 |cons c cs ih=>
  have:=tq (h c Bw);have:=ih λd hd=>h d (Bk _ hd);rw[BA,ck,Bg];omega
def Nj {cs:Tj}(hl:cs.length<=3)(h:∀c∈cs,0<=c/\c<9):wS (wC cs)<=12:=by have:=JN h;have:=tq (c:=(cs.length:Int)) ∅;rw[ck];omega
def Rr {cs:Tj}{e:Int}(hl:cs.length<=3)(h:∀c∈cs,0<=c/\c<9)(he:0<=e/\e<9):wS (wP (cs.map λc=>(c,e)))<=21:=by
 have key:∀cs:Tj,(∀c∈cs,0<=c/\c<9)->wS ((cs.map λc=>(c,e)).flatMap λp=>[wN p.1,wN p.2])<=6*cs.length:=λcs h=>by
  induction cs with
  |nil=>exact BH _
  |cons c cs ih=>
   have:=tq (h c Bw);have:=tq he;have:=ih λd hd=>h d (Bk _ hd);rw[BA,zbA,jr,ck,ck,mG,Bg];dsimp only;omega
 have:=key cs h;have:=tq (c:=(((cs.map λc=>(c,e)).length:Nat):Int)) (by rw[BI];omega);rw[ck];omega
def ql:iK 60 (.str "pick")=true:=by kernel_rfl
def pL:iK 60 (.str "twins")=true:=by kernel_rfl
def pM:iK 60 (.str "lifted")=true:=by kernel_rfl
def sw:iK 60 (.str "summed")=true:=by kernel_rfl
def wQ:iK 60 (.str "joined")=true:=by kernel_rfl
def LD {ns:Tj}{at_:Int}{kind:Str}{k:Nat}{a:D}{u:To}(hk:kind∈(["pick","twins","columns","counted","summed","lifted"]:To))(h:AK k a u) :
  ∃a' ws,jG [.fl (ns.map .int),.int at_,.str kind,a]=some a'/\AK (k+1) a' ws/\wS ws<=wS u+100:=by
 obtain⟨n,hn,bn⟩:=sB ns (at_+3);obtain⟨n2,Dm,bn2⟩:=sB ns (at_+2);obtain⟨c1,hc1,bc1⟩:=cP ns (at_+1) 9 ∅;obtain⟨c2,FF,bc2⟩:=cP ns (at_+2) 9 ∅;obtain⟨c6,hc6,bc6⟩:=cP ns (at_+6) 9 ∅;obtain⟨d4,hd4,bd4⟩:=cP ns (at_+1) 4 ∅;obtain⟨d7,hd7,bd7⟩:=cP ns (at_+1) 7 ∅;obtain⟨cs,CL,lcs,bcs⟩:=sU ns (at_+1);have ncs:∀c∈cs,Nm c:=λc hc=>yt (bcs c hc);obtain⟨k0,k1,k2,k3,k4,k5,k6,k7,k8'⟩:=rC;have wc:=Nj lcs bcs;have z6:=tq bc6;obtain⟨w,hw,aw⟩:=pX (ws:=["is","under","over","abcdefgh"]) (i:=d4) bd4;obtain⟨w',hw',aw'⟩:=pX (ws:=["moved","ever","always","known","asof","from","q"]) (i:=d7) bd7;rwa[sD,BA,DC] at aw aw'
 have s4:4<=sizeLine:=by decide
 have s5:5<=sizeLine:=by decide
 have s7:7<=sizeLine:=by decide
 have s3:3<=sizeLine:=by decide
 rwa[BJ,Ez,or_false] at hk;rw[JAk];rcases hk with rfl|rfl|rfl|rfl|rfl|rfl
 ·refine{_,_,?_,Hn h (yt bc2) (JK w hw) bn,by
   have:=GH w hw;have:=tq bc2;have:=Nk bn
   rw[ck,jr,ck,ck,ck,mG];omega}
  push_cast [ie,ql,qB,hd4,aw,FF,hn,s4,s5]
 ·have e1:j2 (.str "twins") (.str "pick")=false:=by kernel_rfl
  refine{_,_,?_,JDp h (yt bc1) (yt bc2),by
   have:=tq bc1;have:=tq bc2
   rw[ck,jr,ck,ck,mG];omega}
  push_cast [ie,ql,pL,qB,e1,hc1,FF,s4]
 ·have e0:iK 60 (.str "columns")=true:=by kernel_rfl
  have e1:j2 (.str "columns") (.str "pick")=false:=by kernel_rfl
  have e2:j2 (.str "columns") (.str "twins")=false:=by kernel_rfl
  have e3:j2 (.str "columns") (.str "lifted")=false:=by kernel_rfl
  have e4:j2 (.str "columns") (.str "summed")=false:=by kernel_rfl
  refine{_,_,?_,Hr h ∅ ncs,by rw[ck,jr];omega};push_cast [ie,ql,pL,pM,sw,e0,e1,e2,e3,e4,CL,s3]
 ·have e0:iK 60 (.str "counted")=true:=by kernel_rfl
  have e1:j2 (.str "counted") (.str "pick")=false:=by kernel_rfl
  have e2:j2 (.str "counted") (.str "twins")=false:=by kernel_rfl
  have e3:j2 (.str "counted") (.str "lifted")=false:=by kernel_rfl
  have e4:j2 (.str "counted") (.str "summed")=false:=by kernel_rfl
  refine{_,_,?_,MR h ∅ ncs,by rw[ck,jr];omega};push_cast [ie,ql,pL,pM,sw,e0,e1,e2,e3,e4,CL,s3]
 ·have e1:j2 (.str "summed") (.str "pick")=false:=by kernel_rfl
  have e2:j2 (.str "summed") (.str "twins")=false:=by kernel_rfl
  have e3:j2 (.str "summed") (.str "lifted")=false:=by kernel_rfl
  refine{_,_,?_,MP h ∅ ncs (yt bc6),by rw[ck,jr,jr,ck (wN c6),mG];omega};push_cast [ie,ql,pL,pM,sw,qB,e1,e2,e3,CL,hc6,s4]
 ·have e1:j2 (.str "lifted") (.str "pick")=false:=by kernel_rfl
  have e2:j2 (.str "lifted") (.str "twins")=false:=by kernel_rfl
  refine{_,_,?_,Ho h (JL w' hw') bn2,by
   have:=GI w' hw';have:=Nk bn2
   rw[ck,jr,ck,ck,mG];omega}
  push_cast [ie,ql,pL,pM,qB,e1,e2,hd7,aw',Dm,s4,s7]
def JU {ns:Tj}{at_:Int}{kind:Str}{k:Nat}{a b:D}{u v:To}(hk:kind = "joined"\/kind = "matched")(h:AK k a u)(h':AK k b v) :
  ∃a' ws,jF [.fl (ns.map .int),.int at_,.str kind,a,b]=some a'/\AK (k+1) a' ws/\wS ws<=wS u+wS v+100:=by
 obtain⟨c6,hc6,bc6⟩:=cP ns (at_+6) 9 ∅;obtain⟨d5,hd5,bd5⟩:=cP ns (at_+1) 5 ∅;obtain⟨cs,CL,lcs,bcs⟩:=sU ns (at_+1);have ncs:∀c∈cs,Nm c:=λc hc=>yt (bcs c hc);obtain⟨k0,k1,k2,k3,k4,k5,k6,k7,k8'⟩:=rC;have wc:=Nj lcs bcs;have z6:=tq bc6;obtain⟨w,hw,aw⟩:=pX (ws:=["both","either","less","just","table"]) (i:=d5) bd5;rwa[sD,BA,DC] at aw
 have s4:4<=sizeLine:=by decide
 have s5:5<=sizeLine:=by decide
 rw[JAj];rcases hk with rfl|rfl
 ·refine{_,_,?_,Hq h h' (JM w hw),by
   have:=GJ w hw
   rw[ck,jr,jr,ck,mG];omega}
  push_cast [n5,wQ,qB,hd5,aw,s4,s5]
 ·have e0:iK 60 (.str "matched")=true:=by kernel_rfl
  have e1:j2 (.str "matched") (.str "joined")=false:=by kernel_rfl
  refine{_,_,?_,MQ h h' (ps:=cs.map λc=>(c,c6)) (by simp;omega) (λp hp=>by let⟨c,hc,rfl⟩:=zbC.mp hp;exact{ncs c hc,yt bc6}),by
   have:=Rr lcs bcs bc6;rw[ck,jr,jr]
   omega}
  have co:=g4 (f:=c9 (ac (af 0) (ac (aP aF 3 (ac (br (af 1)) (ac (br (ax bu (af 2) (fK (.int 6)))) (ac (fK (.int 9)) ai)))) ai))) (U:=[]) (rest:=[some (.v (.fl (ns.map .int))),de at_]) D.int (λc=>A3 (c,c6)) cs none (λc _=>by
   push_cast [hc6])
  have z:(cs.map D.int).length<=sizeLine:=bK (by rw[BI];omega);have bl:fU 1 [0,1] [some (R.v (.fl (ns.map .int))),de at_,some (.v (.str "matched")),some (.v a),some (.v b),some (.v (.tup (cs.map .int)))]=[none,some (.v (.fl (ns.map .int))),de at_]:=rfl;push_cast [n5,wQ,e0,e1,CL,z,bl,co,s4];rw[E9];rfl
section
variable {xs:A0 D}{x y:D}
def D4:Bu (xs++[x]).length (-1)=some xs.length:=by unfold Bu;rw[AE ∅,A8 (by simp;omega)];simp;omega
def Ay:n9 (xs++[x]) (-1)=some x:=by unfold n9;rw[D4];simp
def Qj:n9 (xs++[y,x]) (-2)=some y:=by
 have:Bu (xs++[y,x]).length (-2)=some xs.length:=by unfold Bu;rw[AE ∅,A8 (by simp;omega)];simp;omega
 unfold n9;rw[this];simp
end
def JD3 {xs:A0 D}{x:D}{U:ah}:nq (.p 0) [] (.lst (xs++[x])::U)=some (.v x,.lst xs::U):=by simp[nq]
def JD2 {xs:A0 D}{x:D}{c:et}{U:ah}:nq (.p 1) [] (c :: .lst (xs++[x])::U)=some (.v x,c :: .lst xs::U):=by simp[nq]
def CO {xs:A0 D}{x y:D}:(xs++[x]).set xs.length y=xs++[y]:=by simp
abbrev Ak:=D×To×Nat
abbrev aD (a:Ak):D:=a.1
abbrev dD (a:Ak):D:=.int (a.2.2:Int)
noncomputable def B3 (as:A0 Ak):Nat:=(as.map λa=>wS a.2.1).sum
structure GA (m:Nat)(as:List Ak):Prop where
 ak:∀a∈as,AK a.2.2 a.1 a.2.1/\a.2.2<=20
 wd:B3 as<=100*m
 ln:as.length<=m
def lz (as bs:A0 Ak):B3 (as++bs)=B3 as+B3 bs:=by simp[B3]
def qG (a:Ak):B3 [a]=wS a.2.1:=by simp[B3]
theorem JJ {as:A0 Ak}{a:Ak}(h:a∈as):wS a.2.1<=B3 as:=by
 induction as with
 |nil=>cases h
 |cons b as ih=>
  rw[←List.singleton_append,lz,qG];rcases BJ.mp h with rfl|h
  ·omega
  ·have:=ih h;omega
def JCu {w:Str}(h:w∈(["table","pick","twins","columns","counted","summed","lifted","joined","matched","joined"]:To)) :
  ((w = "joined"\/w = "matched")/\(∀U,uF false (.v (.str w)) (.v (.tup [.str "joined",.str "matched"])) U=some (.v (.bl true),U))/\∀U,uF false (.v (.str w)) (.v (.tup [.str "table",.str "joined",.str "matched"])) U=some (.v (.bl true),U)) \/
  ((∀U,uF false (.v (.str w)) (.v (.tup [.str "joined",.str "matched"])) U=some (.v (.bl false),U))/\∀U,uF false (.v (.str w)) (.v (.tup [.str "table",.str "joined",.str "matched"])) U=some (.v (.bl true),U)) \/
  (w∈(["pick","twins","columns","counted","summed","lifted"]:To)/\(∀U,uF false (.v (.str w)) (.v (.tup [.str "joined",.str "matched"])) U=some (.v (.bl false),U))/\∀U,uF false (.v (.str w)) (.v (.tup [.str "table",.str "joined",.str "matched"])) U=some (.v (.bl false),U)):=by
 rwa[BJ,Ez,or_false] at h;rcases h with rfl|rfl|rfl|rfl|rfl|rfl|rfl|rfl|rfl|rfl
 ·exact .inr (.inl {λU=>by kernel_rfl,λU=>by kernel_rfl})
 ·exact .inr (.inr {by simp,λU=>by kernel_rfl,λU=>by kernel_rfl})
 ·exact .inr (.inr {by simp,λU=>by kernel_rfl,λU=>by kernel_rfl})
 ·exact .inr (.inr {by simp,λU=>by kernel_rfl,λU=>by kernel_rfl})
 ·exact .inr (.inr {by simp,λU=>by kernel_rfl,λU=>by kernel_rfl})
 ·exact .inr (.inr {by simp,λU=>by kernel_rfl,λU=>by kernel_rfl})
 ·exact .inr (.inr {by simp,λU=>by kernel_rfl,λU=>by kernel_rfl})
 ·exact .inl {.inl rfl,λU=>by kernel_rfl,λU=>by kernel_rfl}
 ·exact .inl {.inr rfl,λU=>by kernel_rfl,λU=>by kernel_rfl}
 ·exact .inl {.inl rfl,λU=>by kernel_rfl,λU=>by kernel_rfl}
def zO (ns:Tj)(k:Int):∃w:Str,gh [.fl (ns.map .int),.int k]=some (.str w)/\Lt w/\w.length<=8:=by let⟨l,e,h1,h2,h3⟩:=JCs ns k;exact{_,e,Jp h1 h2 h3,by rw[c7];exact h2}
abbrev we:A0 D:=[.str "table",.str "pick",.str "twins",.str "columns",.str "counted",.str "summed",.str "lifted",.str "joined",.str "matched",.str "joined"]
abbrev Qv:FT:=jO (fB (ax (uF false) (af 7) (c9 (ac (fK (.str "joined")) (ac (fK (.str "matched")) ai))))) (jO (fB (ax wf (fF gJ (ac (af 3) ai)) (fK (.int 1)))) (fB (ax Bh (fF tU (ac (ax fq (af 4) (fT iV (fK (.int 1)))) (ac (ax fq (af 4) (fT iV (fK (.int 2)))) ai))) (fK (.int 20)))))
abbrev Rs:FT:=kE (fB (ax (uF false) (af 7) (c9 (ac (fK (.str "table")) (ac (fK (.str "joined")) (ac (fK (.str "matched")) ai)))))) (fB (ax wf (ax fq (af 4) (fT iV (fK (.int 1)))) (fK (.int 19))))
section
variable {ns:Tj}{n0 base:Int}{x5 x6 x7 x8 x9 x10:UO R}{cs:A0 et}{i:Nat}
abbrev BU (ns:Tj)(n0 base:Int)(x5 x6 x7 x8 x9 x10:UO R):Lo:=[some (.v (.fl (ns.map .int))),de n0,de base,dM 0,dM 1,x5,x6,x7,x8,x9,x10]
def Fa {ys:A0 Ak}{a:Ak}(g:GA (i+1) (ys++[a]))(hi:i<70):∃(zs:A0 Ak) (b:Ak) (cs':A0 et) (x6' x7' x8' x9' FJ:UO R),GA (i+2) (zs++[b]) /\
  gy (BU ns n0 base (some (.v (.int (i:Int)))) x6 x7 x8 x9 x10) (.lst ((ys++[a]).map aD) :: .lst ((ys++[a]).map dD)::cs)=some (.nx (BU ns n0 base (some (.v (.int (i:Int)))) x6' x7' x8' x9' FJ) (.lst ((zs++[b]).map aD) :: .lst ((zs++[b]).map dD)::cs')):=by
 obtain⟨d,hd,bd⟩:=cP ns (i:Int) 10 ∅;obtain⟨w,hw,aw⟩:=pX (ws:=["table","pick","twins","columns","counted","summed","lifted","joined","matched","joined"]) (i:=d) bd;have aw:n9 we d=some (.str w):=aw;obtain⟨nm,hnm,lnm,lnm8⟩:=zO ns (base+20+10*i)
 have s10:10<=sizeLine:=by decide
 have ga:=g.ak a ∅;have wd:=g.wd;have ln:=g.ln;rw[lz,qG] at wd;rw[Bx,zbS] at ln
 have step:∀{o:UO oP},fA Qv
  (aM (bD 9 (uO nq (af 3) ai))
  (aM (bD 10 (uO nq (af 4) ai))
  (aM (qd (br (aP jF 5 (ac (br (af 0)) (ac (br (af 8)) (ac (br (af 7)) (ac (br (ax fq (af 3) (fT iV (fK (.int 1))))) (ac (br (af 9)) ai))))))) (nD (af 3) (fT iV (fK (.int 1)))))
  (qd (br (ax bu (fK (.int 1)) (fF tU (ac (ax fq (af 4) (fT iV (fK (.int 1)))) (ac (af 10) ai))))) (nD (af 4) (fT iV (fK (.int 1))))))))
  (fA Rs
  (aM (iJ (uO pq (af 3) (ac (c9 (ac (fK (.str "table")) (ac (aP gh 2 (ac (br (af 0)) (ac (br (af 8)) ai))) ai))) ai)))
  (iJ (uO pq (af 4) (ac (fK (.int 1)) ai))))
  (aM (qd (br (aP jG 4 (ac (br (af 0)) (ac (br (af 8)) (ac (br (af 7)) (ac (br (ax fq (af 3) (fT iV (fK (.int 1))))) ai)))))) (nD (af 3) (fT iV (fK (.int 1)))))
  (qd (br (ax bu (ax fq (af 4) (fT iV (fK (.int 1)))) (fK (.int 1)))) (nD (af 4) (fT iV (fK (.int 1)))))))
  (BU ns n0 base (some (.v (.int (i:Int)))) (some (.p (cs.length+2))) (some (.v (.str w))) (some (.v (.int (base+20+10*i)))) x9 x10) (.lst ((ys++[a]).map aD) :: .lst ((ys++[a]).map dD)::(cs++[.lst we]))=o ->
  gy (BU ns n0 base (some (.v (.int (i:Int)))) x6 x7 x8 x9 x10) (.lst ((ys++[a]).map aD) :: .lst ((ys++[a]).map dD)::cs)=o:=λe=>by
  rw[←e]
  have g1:(et.lst ((ys++[a]).map aD) :: .lst ((ys++[a]).map dD)::(cs++[.lst we]))[cs.length+2]?=some (.lst we):=by simp
  have m10:=lT (i:=10) (j:=(i:Int)) (U:=.lst ((ys++[a]).map aD) :: .lst ((ys++[a]).map dD)::(cs++[.lst we])) ∅;push_cast [gy,s10,hd,Bg,zcf,g1,aw,m10]
 obtain⟨A,hA⟩:∃A,A=ys.map aD:={_,rfl};obtain⟨E,hE⟩:∃E,E=ys.map dD:={_,rfl}
 have mA:(ys++[a]).map aD=A++[aD a]:=by rw[Bv,hA];rfl
 have mE:(ys++[a]).map dD=E++[dD a]:=by rw[Bv,hE];rfl
 have lA:(A++[aD a]).length=ys.length+1:=by rw[hA];simp
 have zA:(A++[aD a]).length<=sizeLine:=bK (by rw[lA];omega);have zA':(A++[aD a]).length<sizeLine:=lF (by rw[lA];omega);have zE':(E++[dD a]).length<sizeLine:=lF (by rw[hE];simp;omega)
 have tab:GA (i+2) ((ys++[a])++[((D.tup [.str "table",.str nm],(["table",nm]:To),1):Ak)]):={λb hb=>by
   rcases C2.mp hb with hb|hb
   ·exact g.ak b hb
   ·rw[Bi.mp hb];exact{EK lnm,show 1<=20 by decide},by
   rw[lz,lz,qG,qG]
   show B3 ys+wS a.2.1+wS ["table",nm]<=100*(i+2)
   have:=rC.1;rw[ck,ck,mG]
   omega,by simp;omega}
 have B:∀{c:A0 et},Qv (BU ns n0 base (some (.v (.int (i:Int)))) (some (.p (cs.length+2))) (some (.v (.str w))) (some (.v (.int (base+20+10*i)))) x9 x10) (.lst (A++[aD a]) :: .lst (E++[dD a])::(cs++[.lst we]))=some (false,.lst (A++[aD a]) :: .lst (E++[dD a])::(cs++[.lst we])) ->
  Rs (BU ns n0 base (some (.v (.int (i:Int)))) (some (.p (cs.length+2))) (some (.v (.str w))) (some (.v (.int (base+20+10*i)))) x9 x10) (.lst (A++[aD a]) :: .lst (E++[dD a])::(cs++[.lst we]))=some (true,.lst (A++[aD a]) :: .lst (E++[dD a])::(cs++[.lst we])) ->
  ∃(zs:A0 Ak) (b:Ak) (cs':A0 et) (x6' x7' x8' x9' FJ:UO R),GA (i+2) (zs++[b]) /\
  gy (BU ns n0 base (some (.v (.int (i:Int)))) x6 x7 x8 x9 x10) (.lst ((ys++[a]).map aD) :: .lst ((ys++[a]).map dD)::cs)=some (.nx (BU ns n0 base (some (.v (.int (i:Int)))) x6' x7' x8' x9' FJ) (.lst ((zs++[b]).map aD) :: .lst ((zs++[b]).map dD)::cs')):=λt2 t3=>by
  refine{ys++[a],(D.tup [.str "table",.str nm],(["table",nm]:To),1),cs++[.lst we],dM ((cs.length+2)),some (.v (.str w)),de ((base+20+10*i)),x9,x10,tab,step ?_};rw[Bv (l₁:=ys++[a]),Bv (l₁:=ys++[a]),mA,mE,cF,t2,eW,cF,t3,kO];push_cast [hnm,zA',zE',BA,DC];rfl
 rcases JCu hw with⟨k1,k2,k3⟩|⟨k2,k3⟩|⟨k1,k2,k3⟩
 ·rcases List.eq_nil_or_concat ys with e|⟨zs,b,e⟩
  ·refine B (c:=[]) ?_ ?_
   ·have c1:decide (((A++[aD a]).length:Int)>1)=false:=Bf (by rw[lA,e];simp)
    have c1':decide ((1:Int)<(A++[aD a]).length)=false:=c1;push_cast [k2,zA,c1']
   ·push_cast [k3]
  ·rw[List.concat_eq_append] at e
   have c1:decide ((1:Int)<(A++[aD a]).length)=true:=Bq (by rw[lA,e];simp;omega)
   have mE2:E++[dD a]=zs.map dD++[dD b,dD a]:=by rw[hE,e,Bv,F1];rfl
   have gb:=g.ak b (by rw[e];simp);have a1:n9 (E++[dD a]) (-1)=some (dD a):=Ay
   have a2:n9 (E++[dD a]) (-2)=some (dD b):=by rw[mE2];exact Qj
   by_cases hm:(if (b.2.2:Int)>(a.2.2:Int) then (b.2.2:Int) else (a.2.2:Int))<20
   ·obtain⟨M,hM⟩:∃M:Nat,M=max b.2.2 a.2.2:={_,rfl}
    have hM20:M<20:=by split at hm <;> omega
    let⟨a',ws,e1,e2,e3⟩:=JU (ns:=ns) (at_:=base+20+10*i) k1 (gb.1.le (show b.2.2<=M by omega)) (ga.1.le (show a.2.2<=M by omega))
    have mx:∀U:ah,tU [.v (dD b),.v (dD a)] U=some (.v (.int (M:Int)),U):=λU=>by
     show some (R.v (.int (if (a.2.2:Int)>(b.2.2:Int) then (a.2.2:Int) else (b.2.2:Int))),U)=_
     rw[show(if (a.2.2:Int)>(b.2.2:Int) then (a.2.2:Int) else (b.2.2:Int))=(M:Int) by split <;> omega]
    have mx':∀U:ah,tU [.v (dD a),.v (dD b)] U=some (.v (.int (M:Int)),U):=λU=>by
     show some (R.v (.int (if (b.2.2:Int)>(a.2.2:Int) then (b.2.2:Int) else (a.2.2:Int))),U)=_
     rw[show(if (b.2.2:Int)>(a.2.2:Int) then (b.2.2:Int) else (a.2.2:Int))=(M:Int) by split <;> omega]
    have c2:decide ((M:Int)<20)=true:=Bq ∅
    have t2:Qv (BU ns n0 base (some (.v (.int (i:Int)))) (some (.p (cs.length+2))) (some (.v (.str w))) (some (.v (.int (base+20+10*i)))) x9 x10) (.lst (A++[aD a]) :: .lst (E++[dD a])::(cs++[.lst we]))=some (true,.lst (A++[aD a]) :: .lst (E++[dD a])::(cs++[.lst we])):=by
     push_cast [k2,zA,c1,a1,a2,mx',c2]
    refine{zs,(a',ws,M+1),cs++[.lst we],dM ((cs.length+2)),some (.v (.str w)),de ((base+20+10*i)),some (.v (aD a)),some (.v (dD a)),{λc hc=>?_,?_,?_},step ?_}
    ·rcases C2.mp hc with hc|hc
     ·exact g.ak c (by rw[e];simp[hc])
     ·rw[Bi.mp hc];exact{e2,by show M+1<=20;omega}
    ·rw[lz,qG]
     rw[e,lz,qG] at wd
     show B3 zs+wS ws<=100*(i+2)
     omega
    ·rw[e] at ln
     simp at ln ⊢;omega
    ·have m1:A=zs.map aD++[aD b]:=by rw[hA,e,Bv];rfl
     have m2:E=zs.map dD++[dD b]:=by rw[hE,e,Bv];rfl
     rw[mA,mE,cF,t2,kO,Bv (l₁:=zs),Bv (l₁:=zs)];have hv:dD (a',ws,M+1)=.int (1+(M:Int)):=AQ D.int (show((M+1:Nat):Int)=1+(M:Int) by omega);push_cast [JD3,JD2];rw[m1,m2];push_cast [Ay,e1,D4,CO,mx,BA,DC];rw[hv]
   ·have mx':∀U:ah,tU [.v (dD a),.v (dD b)] U=some (.v (.int (if (b.2.2:Int)>(a.2.2:Int) then (b.2.2:Int) else (a.2.2:Int))),U):=λU=>rfl
    have c2:=Bf hm;refine B (c:=[]) ?_ ?_
    ·push_cast [k2,zA,c1,a1,a2,mx',c2]
    ·push_cast [k3]
 ·refine B (c:=[]) ?_ ?_
  ·push_cast [k2]
  ·push_cast [k3]
 ·have a1:n9 (E++[dD a]) (-1)=some (dD a):=Ay
  have t2:Qv (BU ns n0 base (some (.v (.int (i:Int)))) (some (.p (cs.length+2))) (some (.v (.str w))) (some (.v (.int (base+20+10*i)))) x9 x10) (.lst (A++[aD a]) :: .lst (E++[dD a])::(cs++[.lst we]))=some (false,.lst (A++[aD a]) :: .lst (E++[dD a])::(cs++[.lst we])):=by
   push_cast [k2]
  by_cases h19:(19:Int)<(a.2.2:Int)
  ·refine B (c:=[]) t2 ?_
   have c2:decide ((19:Int)<(a.2.2:Int))=true:=Bq h19;push_cast [k3,a1,c2]
  ·have c2:decide ((19:Int)<(a.2.2:Int))=false:=Bf h19
   let⟨a',ws,e1,e2,e3⟩:=LD (ns:=ns) (at_:=base+20+10*i) k1 ga.1
   have t3:Rs (BU ns n0 base (some (.v (.int (i:Int)))) (some (.p (cs.length+2))) (some (.v (.str w))) (some (.v (.int (base+20+10*i)))) x9 x10) (.lst (A++[aD a]) :: .lst (E++[dD a])::(cs++[.lst we]))=some (false,.lst (A++[aD a]) :: .lst (E++[dD a])::(cs++[.lst we])):=by
    push_cast [k3,a1,c2]
   refine{ys,(a',ws,a.2.2+1),cs++[.lst we],dM ((cs.length+2)),some (.v (.str w)),de ((base+20+10*i)),x9,x10,{λc hc=>?_,?_,?_},step ?_}
   ·rcases C2.mp hc with hc|hc
    ·exact g.ak c (by simp[hc])
    ·rw[Bi.mp hc];exact{e2,by show a.2.2+1<=20;omega}
   ·rw[lz,qG]
    show B3 ys+wS ws<=100*(i+2)
    omega
   ·simp;omega
   ·rw[mA,mE,cF,t2,eW,cF,t3,eW,Bv (l₁:=ys),Bv (l₁:=ys),←hA,←hE]
    have hv:dD (a',ws,a.2.2+1)=.int ((a.2.2:Int)+1):=AQ D.int (show((a.2.2+1:Nat):Int)=(a.2.2:Int)+1 by omega);push_cast [Ay,e1,D4,CO,BA,DC];rw[hv]
end
def He (ns:Tj)(m:Nat)(hm:m<=12):∃as:A0 Ak,iW [.fl (ns.map .int),.int (m:Int),.int 63]=some (.lst (as.map aD))/\(∀a∈as,AK 20 a.1 a.2.1/\wS a.2.1<=1300)/\as.length<=64:=by
 let⟨nm,hnm,lnm,lnm8⟩:=zO ns 63;have s1:1<=sizeLine:=by decide
 have r1:=kM (j:=(m:Int)) (U:=[.lst [.tup [.str "table",.str nm]],.lst [.int 1]]) ∅;obtain⟨O,U,DR,ys,a,cs,x5,x6,x7,x8,x9,x10,rfl,rfl,g⟩:=lL (g:=gY 5) (b:=gy) (O:=BU ns m 63 none none none none none none) (U:=[.lst [.tup [.str "table",.str nm]],.lst [.int 1]]) m
  (λi O U=>∃(ys:A0 Ak) (a:Ak) (cs:A0 et) (x5 x6 x7 x8 x9 x10:UO R),O=BU ns m 63 x5 x6 x7 x8 x9 x10/\U=.lst ((ys++[a]).map aD) :: .lst ((ys++[a]).map dD)::cs/\GA (i+1) (ys++[a]))
  {[],(.tup [.str "table",.str nm],["table",nm],1),[],none,none,none,none,none,none,rfl,rfl,{λb hb=>by rw[Bi.mp hb];exact{EK lnm,show 1<=20 by decide},by rw[zcm,qG];show wS ["table",nm]<=100*(0+1);have:=rC.1;rw[ck,ck,mG];omega,by simp}} (by rintro i hi O U ⟨ys,a,cs,x5,x6,x7,x8,x9,x10,rfl,rfl,g⟩;obtain⟨zs,b,cs',y6,y7,y8,y9,y10,g',e⟩:=Fa (ns:=ns) (n0:=m) (base:=63) (x6:=x6) (x7:=x7) (x8:=x8) (x9:=x9) (x10:=x10) (cs:=cs) g ∅;exact{_,_,e,zs,b,cs',de ((i:Int)),y6,y7,y8,y9,y10,rfl,rfl,g'})
 refine{ys++[a],?_,λb hb=>{(g.ak b hb).1.le (g.ak b hb).2,by have:=JJ hb;have:=g.wd;omega},by have:=g.ln;omega};rw[xO];push_cast [pj,hnm,s1,r1,EB,DR]
noncomputable def rp (l:A0 Nat):Nat->A0 Nat
 |0=>[]
 |n+1=>l++rp l n
theorem r9 (l:A0 Nat):∀n,(rp l n).length=n*l.length
 |0=>by simp[rp]
 |n+1=>by rw[rp,Bx,r9 l n,Nat.add_mul];omega
theorem yf {l:A0 Nat}{c:Nat}:∀n,c∈rp l n->c∈l
 |0,h=>by cases h
 |n+1,h=>by
  rw[rp] at h;rcases C2.mp h with h|h
  ·exact h
  ·exact yf n h
theorem Ag (l:A0 Nat):∀(n:Nat) (acc:AW Nat),((List.replicate n l.toArray).foldl (λa b=>a++b) acc).toList=acc.toList++rp l n
 |0,acc=>by simp[rp]
 |n+1,acc=>by rw[zb1,zco,Ag l n,rp];simp
def LN {l:A0 Nat}{n:Nat}(h:2<=n)(hl:l≠[]):Txt.mul (Tx l) (n:Int)=Tx (rp l n):=by
 unfold Txt.mul;have h1:¬ ((n:Int)<1):=by omega
 have h2:((n:Int) == 1 || (Tx l).length == 0)=false:=by rw[zbX];refine{beq_eq_false_iff_ne.mpr ∅,beq_eq_false_iff_ne.mpr ?_};rw[c7];exact λe=>hl (zbz e)
 rw[AE h1,h2,AE ∅,EB];have e:=Ag l n #[];exact Str.ext' (zbR.mp (by rw[e];simp))
def zP {s:Str}{l:A0 Nat}(hs:s=Tx l){n:Nat}(h:2<=n)(hn:n<1000)(hl:l≠[])(h2:l.length<1000)(U:ah):qm (.v (.str s)) (.v (.int (n:Int))) U=some (.v (sT (rp l n)),U):=by subst hs;unfold qm;dsimp only;rw[A8 {by omega,by omega,by rw[c7];exact h2},LN h hl]
def EL {s t:Str}{a b:A0 Nat}(hs:s=Tx a)(ht:t=Tx b)(h:a.length+b.length<4000)(U:ah):bu (.v (.str s)) (.v (.str t)) U=some (.v (sT (a++b)),U):=by subst hs;subst ht;rw[di,A8 (bK h)]
abbrev Qx:A0 Nat:=[116,119,105,110,115,32]
abbrev NO:A0 Nat:=[116,97,98,108,101,32,97]
abbrev Qz:A0 Nat:=[32,48,32,49]
abbrev TZ:A0 Nat:=[106,111,105,110,101,100,32,116,97,98,108,101,32,98,32]
abbrev T5:A0 Nat:=[32,98,111,116,104]
def US:(Str.ofString "twins ")=Tx Qx/\(Str.ofString "table a")=Tx NO/\(Str.ofString " 0 1")=Tx Qz/\(Str.ofString "joined table b ")=Tx TZ/\(Str.ofString " both")=Tx T5:=by decide
noncomputable def big (a b c:A0 Nat)(n:Nat):A0 Nat:=rp a n++b++rp c n
def EC {a b c:A0 Nat}{n:Nat}(hn:n<=30)(ha:a.length<=20)(hb:b.length<=20)(hc:c.length<=20)(h:∀x∈a++b++c,x<1114112):GT (big a b c n):=by
 have e1:=r9 a n;have e2:=r9 c n;have m1:n*a.length<=30*20:=zbK hn ha;have m2:n*c.length<=30*20:=zbK hn hc;have l:(big a b c n).length<=1300:=by unfold big;rw[Bx,Bx];omega
 refine{{by omega,λx hx=>h x ?_},by omega};unfold big at hx;rcases C2.mp hx with hx|hx
 ·rcases C2.mp hx with hx|hx
  ·simp[yf n hx]
  ·simp[hx]
 ·simp[yf n hx]
def ED {s1 s2 s3:Str}{a b c:A0 Nat}(h1:s1=Tx a)(h2:s2=Tx b)(h3:s3=Tx c){n:Nat}(hn:2<=n/\n<=30)(ha:a.length<=20)(hb:b.length<=20)(hc:c.length<=20)(a0:a≠[])(c0:c≠[]){x0 x2 x3 x4 x5:UO R}{U:ah} :
  bD 2 (ax bu (ax bu (ax qm (fK (.str s1)) (af 1)) (fK (.str s2))) (ax qm (fK (.str s3)) (af 1))) [x0,de ((n:Int)),x2,x3,x4,x5] U=some (.nx [x0,de ((n:Int)),some (.v (sT (big a b c n))),x3,x4,x5] U):=by
 have e1:=r9 a n;have e2:=r9 c n;have m1:n*a.length<=30*20:=zbK hn.2 ha;have m2:n*c.length<=30*20:=zbK hn.2 hc;have q1:=zP h1 (n:=n) hn.1 ∅ a0 ∅;have q2:=zP h3 (n:=n) hn.1 ∅ c0 ∅;have q3:=EL (s:=Tx (rp a n)) rfl h2 ∅;have q4:=EL (s:=Tx (rp a n++b)) (t:=Tx (rp c n)) rfl rfl (by rw[Bx];omega);push_cast [q1,q2,q3,q4];rfl
abbrev Gx:FE:=ax Jt (PP (ac (fK .non) (ac (fK (.int 7)) (ac (fK (.bl true)) (ac (eG (ac (fK (.str "table a")) ai)) (ac (c9 (ac (fK (.str "table")) (ac (fK (.str "a")) ai))) (ac xr ai))))))) (aP aF 3 (ac (br (af 0)) (ac (fK (.int 900)) (ac (fK (.int 6)) ai))))
abbrev qk:ah:=[.lst [.str "table a"],.dct [],.lr [.v .non,.v (.int 7),.v (.bl true),.p 0,.v (.tup [.str "table",.str "a"]),.p 1]]
def LK (ns:Tj):∃d U',br Gx [some (.v (.fl (ns.map .int))),none,none,none,none,none] []=some (.v d,U')/\b9 [d]=some NT:=by
 obtain⟨k,hk,bk⟩:=cP ns 900 6 ∅;have e1:PP (ac (fK .non) (ac (fK (.int 7)) (ac (fK (.bl true)) (ac (eG (ac (fK (.str "table a")) ai)) (ac (c9 (ac (fK (.str "table")) (ac (fK (.str "a")) ai))) (ac xr ai)))))) [some (.v (.fl (ns.map .int))),none,none,none,none,none] []=some (.p 2,qk):=by kernel_rfl
 have e2:aP aF 3 (ac (br (af 0)) (ac (fK (.int 900)) (ac (fK (.int 6)) ai))) [some (.v (.fl (ns.map .int))),none,none,none,none,none] qk=some (.v (.int k),qk):=by push_cast [hk]
 have e3:∀x:R,Jt (.p 2) (.v (.int k)) qk=some (x,qk)->Gx [some (.v (.fl (ns.map .int))),none,none,none,none,none] []=some (x,qk):=λx h=>by
  show ax Jt _ _ _ _=_
  rw[PV,e1,MD,e2,MB,h]
 have fin:∀(x:R) (d:D) (U':ah),Jt (.p 2) (.v (.int k)) qk=some (x,qk)->Jz x qk=some (d,U')->b9 [d]=some NT->∃d U',br Gx [some (.v (.fl (ns.map .int))),none,none,none,none,none] []=some (.v d,U')/\b9 [d]=some NT:=λx d U' h1 h2 h3=>{d,U',by
  unfold br;rw[e3 x h1,AZ];dsimp only;rw[h2];rfl,h3}
 have:k=0\/k=1\/k=2\/k=3\/k=4\/k=5:=by omega
 rcases this with rfl|rfl|rfl|rfl|rfl|rfl
 ·exact fin (.v .non) .non qk (by kernel_rfl) rfl Hl
 ·exact fin (.v (.int 7)) (.int 7) qk (by kernel_rfl) rfl Hk
 ·exact fin (.v (.bl true)) (.bl true) qk (by kernel_rfl) rfl Hj
 ·exact fin (.p 0) (.fl [.str "table a"]) _ (by kernel_rfl) rfl Hi
 ·exact fin (.v (.tup [.str "table",.str "a"])) (.tup [.str "table",.str "a"]) qk (by kernel_rfl) rfl Hh
 ·exact fin (.p 1) (.fd [] []) _ (by kernel_rfl) rfl Hg
def JCp {ns:Tj}{l:A0 Nat}{i:Int}{x1 x3 x5:UO R}{U:ah}(g:d9 l)(hl:l.length<=3900):∃x5',rB [some (.v (.fl (ns.map .int))),x1,some (.v (sT l)),x3,de i,x5] U=some (.nx [some (.v (.fl (ns.map .int))),x1,some (.v (sT l)),x3,de i,x5'] U):=by let⟨l',e,g'⟩:=yZ ns (903+5*i+(l.length:Int)) g hl;have du:=Et g';have go:=Af g';have ml:=lT (i:=5) (j:=i) (U:=U) ∅;refine{some (.v (sT l')),?_};push_cast [rB,ml,fY g.sz,e,du,go,DS]
def JDn {ns:Tj}{a:D}{ws:To}{x1 x2 x4 x5:UO R}{U:ah}(h:AK 24 a ws)(hw:wS ws<=1300):∃x2' x4' x5' U',rA [some (.v (.fl (ns.map .int))),x1,x2,some (.v a),x4,x5] U=some (.nx [some (.v (.fl (ns.map .int))),x1,x2',some (.v a),x4',x5'] U'):=by
 obtain⟨V,hV⟩:∃V:A0 (A0 Nat),ws=tS V:={ws.map λw=>w.cps.toList,by
  show ws=List.map Tx (List.map (λw=>w.cps.toList) ws)
  rw[E9];exact(List.map_id ws).symm.trans (List.map_congr_left λw _=>ww w)}
 have e1:=uB h (by have:=Ni ws;omega);have fs:=pV ws;have sd:sD ws=V.map sT:=by rw[hV,zm]
 have wv:wl V<=1300:=by rw[←HE,←hV];exact hw
 have gj:GT (jn V):=Jx ∅ λw hw c hc=>by have:=h.wd (Tx w) (by rw[hV];exact List.mem_map_of_mem hw);exact this.2.2 c hc
 have ln:(jn V).length<=3900:=by have:=D2 V;omega
 have jo:=xi (W:=V) (n:=U.length) (U:=U++[.lst (V.map sT)]) Bj ∅;have s2:bD 2 (ax nB (fK (.str " ")) (ju (dA 24) 1 (ac (af 3) ai))) [some (.v (.fl (ns.map .int))),x1,x2,some (.v a),x4,x5] U=some (.nx [some (.v (.fl (ns.map .int))),x1,some (.v (sT (jn V))),some (.v a),x4,x5] (U++[.lst (V.map sT)])):=by rw[sd] at e1 fs;push_cast [e1,fs,jo]
 have r1:=kM (j:=3) (U:=U++[.lst (V.map sT)]) ∅;let⟨O',U',DR,y4,y5,rfl,rfl⟩:=lL (g:=gY 4) (b:=rB) (O:=[some (.v (.fl (ns.map .int))),x1,some (.v (sT (jn V))),some (.v a),x4,x5]) (U:=U++[.lst (V.map sT)]) 3
  (λi O U2=>∃y4 y5:UO R,O=[some (.v (.fl (ns.map .int))),x1,some (.v (sT (jn V))),some (.v a),y4,y5]/\U2=U++[.lst (V.map sT)]) {x4,x5,rfl,rfl} (by rintro i hi O U2 ⟨y4,y5,rfl,rfl⟩;let⟨y5',e⟩:=JCp (ns:=ns) (l:=jn V) (i:=(i:Int)) (x1:=x1) (x3:=some (.v a)) (x5:=y5) (U:=U++[.lst (V.map sT)]) gj.gd ln;exact{_,_,e,de ((i:Int)),y5',rfl,rfl})
 refine{some (.v (sT (jn V))),y4,y5,U++[.lst (V.map sT)],?_};have fi:on (fK (.int 3)) [some (.v (.fl (ns.map .int))),x1,some (.v (sT (jn V))),some (.v a),x4,x5] (U++[.lst (V.map sT)])=some ((List.range 3).map λi=>D.int ((i:Nat):Int),U++[.lst (V.map sT)]):=r1;rw[rA,gk,s2,gA,yT,fi,vR,DR]
def Qe {Z:Type}{f:Z->D}(ws:A0 Z):HW.lu (ws.map f) none (some 4)=(ws.take 4).map f:=by have h1:HT.e7 (ws.map f).length 0 none=0:=rfl;have h2:HT.e7 (ws.map f).length (ws.map f).length (some 4)=min 4 (ws.map f).length:=HT.nQ _ _ 4;unfold HW.lu;rw[h1,h2,zb8,List.drop_zero,Nat.sub_zero];exact(List.take_eq_take_min).symm
def DQ (ns:Tj)(hl:ns.length<=63):wX [.fl (ns.map .int)]=some (.bl true):=by
 let⟨od,U1,ho,hod⟩:=LK ns;have gb:=xq hod;let⟨d1,hd1,bd1⟩:=cP ns 901 8 ∅;let⟨d2,hd2,bd2⟩:=cP ns 902 2 ∅;obtain⟨m,hm⟩:∃m:Nat,(m:Int)=16+d1:={(16+d1).toNat,by omega};have m1:2<=m/\m<=30:=by omega
 let⟨t1,t2,t3,t4,t5⟩:=US;have b1:=λ(x2 x3 x4 x5:UO R) (U:ah)=>ED (n:=m) t1 t2 t3 m1 ∅ ∅ ∅ ∅ ∅ (x0:=some (.v (.fl (ns.map .int)))) (x2:=x2) (x3:=x3) (x4:=x4) (x5:=x5) (U:=U);have b2:=λ(x2 x3 x4 x5:UO R) (U:ah)=>ED (n:=m) t4 t2 t5 m1 ∅ ∅ ∅ ∅ ∅ (x0:=some (.v (.fl (ns.map .int)))) (x2:=x2) (x3:=x3) (x4:=x4) (x5:=x5) (U:=U);have g1:GT (big Qx NO Qz m):=EC m1.2 ∅ ∅ ∅ ∅;have g2:GT (big TZ NO T5 m):=EC m1.2 ∅ ∅ ∅ ∅;rw[No];refine(dy (O':=[some (.v (.fl (ns.map .int))),none,none,none,none,none]) (U':=U1) ?_).trans ?_
 ·have fc:aP eA 2 (ac (br Gx) (ac (fK .non) ai)) [some (.v (.fl (ns.map .int))),none,none,none,none,none] []=some (.v (.bl true),U1):=by
   rw[G7,G6,ho];push_cast [gb]
  rw[cF,G4,Mz,fc];rfl
 refine(dy (O':=[some (.v (.fl (ns.map .int))),de ((m:Int)),none,none,none,none]) (U':=U1) (by push_cast [hd1,hm])).trans ?_;refine(dy (b1 _ _ _ _ _)).trans ?_;obtain⟨t,gt,st⟩:∃t,GT t/\fA (fB (ax (gm false) (aP aF 3 (ac (br (af 0)) (ac (fK (.int 902)) (ac (fK (.int 2)) ai)))) (fK (.int 1))))
  (bD 2 (ax bu (ax bu (ax qm (fK (.str "joined table b ")) (af 1)) (fK (.str "table a"))) (ax qm (fK (.str " both")) (af 1))))
  bo [some (.v (.fl (ns.map .int))),de ((m:Int)),some (.v (sT (big Qx NO Qz m))),none,none,none] U1=some (.nx [some (.v (.fl (ns.map .int))),de ((m:Int)),some (.v (sT t)),none,none,none] U1):=by
  have tt:fB (ax (gm false) (aP aF 3 (ac (br (af 0)) (ac (fK (.int 902)) (ac (fK (.int 2)) ai)))) (fK (.int 1))) [some (.v (.fl (ns.map .int))),de ((m:Int)),some (.v (sT (big Qx NO Qz m))),none,none,none] U1=some (d2 == 1,U1):=by push_cast [hd2]
  cases q:(d2 == 1) with
  |true=>
   rw[q] at tt;exact{_,g2,by rw[cF,tt,kO,b2]}
  |false=>
   rw[q] at tt;exact{_,g1,by rw[cF,tt,eW];rfl}
 refine(dy st).trans ?_;have du:=Et gt;have go:=Af gt;refine(dy (O':=[some (.v (.fl (ns.map .int))),de ((m:Int)),some (.v (sT t)),none,none,none]) (U':=U1) (by push_cast [du,go,DS])).trans ?_;obtain⟨mn,hmn,bmn⟩:∃mn:Nat,(∀U:ah,Bc [.v (.int (ns.length:Int)),.v (.int 12)] U=some (.v (.int (mn:Int)),U))/\mn<=12:=by
  by_cases h:ns.length<=12
  ·exact{ns.length,λU=>by
    show some (R.v (.int (if (12:Int)<(ns.length:Int) then 12 else (ns.length:Int))),U)=_
    rw[AE ∅],h}
  ·exact{12,λU=>by
    show some (R.v (.int (if (12:Int)<(ns.length:Int) then 12 else (ns.length:Int))),U)=_
    rw[A8 ∅];rfl,BH _}
 let⟨as,has,ha,hal⟩:=He ns mn bmn;have fl:flatDs (as.map aD)=true:=Ek λd hd=>by let⟨a,hm,rfl⟩:=zbC.mp hd;exact(ha a hm).1.flat
 have zn:(ns.map D.int).length<=sizeLine:=bK (by rw[BI];omega);have c4:=Qe (f:=aD) as;have z4:((as.take 4).map aD).length<=sizeLine:=bK (by rw[BI,zbf];omega);let⟨⟨x2,x3,x4,x5,U2⟩,DR,_⟩:=nw (g:=gY 3) (b:=rA) aD
  (λst:UO R×UO R×UO R×UO R×ah=>([some (.v (.fl (ns.map .int))),de ((m:Int)),st.1,st.2.1,st.2.2.1,st.2.2.2.1],st.2.2.2.2))
  (λst rem=>∀a∈rem,a∈as) (as.take 4) (some (.v (sT t)),none,none,none,U1++[.lst (as.map aD)]++[.fz ((as.take 4).map aD)]) (λ_ h=>zbE h) (by rintro⟨x2,x3,x4,x5,U2⟩ a rem h1;let⟨k1,k2⟩:=ha a (h1 a Bw);let⟨y2,y4,y5,U',e⟩:=JDn (ns:=ns) (x1:=some (.v (.int (m:Int)))) (x2:=x2) (x4:=x4) (x5:=x5) (U:=U2) (k1.le (show 20<=24 by decide)) k2;exact{(y2,some (.v a.1),y4,y5,U'),e,λb hb=>h1 b (Bk _ hb)})
 have fi:ky (Al (ju iW 3 (ac (af 0) (ac (fF Bc (ac (fF gJ (ac (af 0) ai)) (ac (fK (.int 12)) ai))) (ac (fK (.int 63)) ai)))) f9 (eX (fK (.int 4)))) [some (.v (.fl (ns.map .int))),de ((m:Int)),some (.v (sT t)),none,none,none] U1=some ((as.take 4).map aD,U1++[.lst (as.map aD)]++[.fz ((as.take 4).map aD)]):=by
  push_cast [BI,hmn,has,fl,oK,kP,uj,oN,oM,Bj,c4];have se:∀(A:A0 et) (x y:et),(A++[x]).set A.length y=A++[y]:=λA x y=>by simp
  rw[se]
 rw[gk,yT,fi,vR,DR];rfl
end LW
structure PySem.W.Fast:Prop where
 (tw11984866680957338115 tw14645978652875769570 tw10301018227847584653 tw6916785963551146183 tw6643228595533288470 tw1136685431018142903 tw3373948657923209351 tw9334765360466236384 tw16572313578414245102 tw6625393692794670980 tw696062143852645566 tw18358403812243219399 tw12984242971534804347 tw5277926499027549424 tw16278546924338755895 tw1397672151856946526 tw4540785462247458613 tw2502308536588959336 tw17299413375855157493 tw5887345912204530514 tw12966866754595126775 tw11808918354366282402 tw12480247283353208247 tw16093432553591783546 tw6379581139422465524 tw8258681783256913547 tw18365080835027541728 tw15822273364088994882 tw11381834625685901448 tw13984716113285383446 tw7203622572303970171 tw3777580472726202131 tw1212010071374077230 tw6947234200112509385 tw2939863767310236016 tw10154174456367462892 tw6165903222461697222 tw10810542982969520425 tw4894021669052454696 tw4817414947641733706 tw7414761388755086781 tw6518833029079454527 tw13444596401528563628 tw1502763590390879560 tw7713724347141022825 tw6675186102460645419 tw2508727585027968345 tw4633891569281799744 tw9433011902975305226 tw8344940213946912087 tw13331011897183823113 tw12510320696023339589 tw4578858840619863331 tw2912755884565854670 tw16614087140946994800 tw2497884501807118873 tw16482313883498594443 tw2946363197395755226 tw4204105199009731223 tw4517571193347124725 tw7167846653577819165 tw16104025327513477381 tw13020535939800720038 tw17810981264053605120 tw16421635825228366535 tw12109193717470206261 tw15195671453817146789 tw11882522695160781969 tw3796581235987369508 tw6189332079706957017 tw6287967511346931537 tw12058191561214945378 tw4157404415330800047 tw6376581475427821430 tw9988785448271414057 tw12328789298580813776 tw17447936491337090397 tw2170704524744922276 tw2885287852151635282 tw16280081437385956080 tw8674418816722809207 tw8493076419088421458 tw7904663945105688540 tw12596521968987329301 tw1989037627284621427 tw2824920138072913758 tw13605028752130398822 tw5520102527737712368 tw12517772394343081067 tw87041405167415814 tw3017227896346499286 tw8443311882592491325 tw12243524022365480045 tw13041178736182535085 tw13934661714004225696 tw1779294239328439316 tw16673070438952020998 tw9500280326657213364 tw14713391908996345471 tw17456671721785407500 tw5378460180842756043 tw3534801705052576303 tw12490870360665590587 tw9879997250793139470 tw9677440549517575022 tw16309516510288487716 tw14785729586937843777 tw10469566609019769284 tw13854282095384780209 tw16293404509461985903 tw18406731073936916427 tw16033632553918734253 tw7744788560265983746 tw9530369360814368551 tw14055618852896519521 tw9704100440207030551 tw16468689415516676311 tw15230942504148398599 tw3723011887424209938 tw2866557349769604814 tw11739544094168614011 tw5366783168459793607 tw8294833024336058152 tw11995730628551150971 tw12473294333376007298 tw339586397436655937 tw5848267663862949178 tw14175018321180137359 tw6466646528441592639 tw2708135126282172985 tw9251899599821100644 tw1311802366431680291 tw16465979166101070844 tw10114879911934393662 tw8054829792292346980 tw144620412486856698 tw14675339440292430761 tw8882291177982514544 tw2528954918275663415 tw3858779316237651677 tw4263416532261101974 tw14904363947903622864 tw8326901551854851894 tw5826732230583181628 tw17089900521842438569 tw3976345673865884950 tw11576291818443210396 tw12536611558255958128 tw14435801308452180671 tw13403222725642168440 tw12775838095942717215 tw8493681641251967838 tw4282622070102947505 tw6402563084674399096 tw1773745589122559607 tw12219063087811100151 tw12161766651636464915 tw17225688755496200613 tw6147243064502204155 tw17772000680243528588 tw6364721588540460340 tw18197299767173667208 tw13942582487851475713 tw8015162711991289220 tw9531203461367733891 tw8992202028086067989 tw15267272344166607738 tw4461407804284424669 tw1589259827324752255 tw4361897157896702891 tw11781429925921387764 tw9334310943704913361 tw8678397417308148198 tw12899792721116101146 tw2935609373161603376 tw12164701422335491139 tw942128410569845646 tw1426228901027951778 tw11892016769982075600 tw16637158248102057038 tw7650747994131669277 tw17990696804122975849 tw6958836182708279435 tw9159447753060522091 tw13827613006234596177 tw13022294857474297922 tw8156985664333502252 tw4949500035701297097 tw2512615361816598306 tw14471302749317884846 tw18256400883011837023 tw7420062824546410357 tw7729805357340952812 tw14508135794925721983 tw1181331779507698856 tw12082935715415618421 tw6373311821163245043 tw7237260203565316917 tw12931331163204103765 tw12875022268952937039 tw298629381743690513 tw5153425561520632944 tw16302826828014274768 tw5972274601957707477 tw16511038560294362454 tw10034835953052811634 tw4223454030203793914 tw16275252290182182539 tw12133561494501480414 tw10145741024163607303 tw12544035513889200715 tw3349409987652228962 tw15573235112522644518 tw3633712893177453238 tw14277423713155460425 tw7274848507188676127 tw1608936872818457746 tw14033664027073140876 tw6527195722177704902 tw17253652952755987882 tw8168792942992383838 tw9344907633915408595:True)
open PySem.W PyProof.Rows
set_option maxRecDepth 100000 in
set_option maxHeartbeats 0 in
theorem PySem.Challenge.cw_heldwhen_k49_odd_asks_holds : PySem.Challenge.rw_heldwhen_k49_odd_asks.Holds := by
 w_on; o_law; k_head; (case hw => w_witness2)
 k_fill
 refine L2.B4 (l := PySem.Challenge.rw_heldwhen_k49_odd_asks) (n := 63) (k := 58) (x := "script") (CX := L2.oh) (sp := fun K => HW.Fn K 1 LW.wX) rfl (by decide) rfl ⟨rfl, by decide, by decide⟩ (fun w h Yz => PySem.W.kIn_of Yz) ?F (fun K H a ns hl hO hS => HW.LX hO hS (LW.DQ ns hl)) fun _ _ _ _ z => z
 case F =>
  intro w mg fa h KX G hmg
  refine' LW.MO KX G hmg ?aC ?pg ?hd ?po ?sa ?mk ?kc ?n_words ?n_place ?a0 ?a1 ?a2 ?a3 ?a4 ?a5 ?a6 ?a7 ?a8 ?a9 ?a10 ?a11 ?a12 ?a13 ?a14 ?a15 ?a16 ?a17 ?a18 ?a19 ?a20 ?a21 ?a22 ?a23 ?a24 ?a25 ?a26 ?a27 ?a28 ?a29 ?a30 ?a31 ?a32 ?a33 ?a34 ?a35 ?a36 ?Ja2 ?Jap ?Jan ?Jaq ?Ja3 ?Jbw ?Jbx ?Ja4 ?Ja5 ?Ja6 ?Ja7 ?Ja8 ?Ja9 ?Jba ?Jbb ?Jbc ?smFORMS ?gx_NoText ?ox_NoText ?cx_NoText ?gx_HeldError ?ox_HeldError ?cx_HeldError ?gx_NoColumn ?ox_NoColumn ?cx_NoColumn ?gx_NoStretch ?ox_NoStretch ?cx_NoStretch ?gx_NoTable ?ox_NoTable ?cx_NoTable ?gx_NoTurn ?ox_NoTurn ?cx_NoTurn ?gx_NoWidth ?ox_NoWidth ?cx_NoWidth ?gx_NoWord ?ox_NoWord ?cx_NoWord ?m_NoText ?k_NoText_NoText ?k_NoText_ValueError ?k_NoText_t2 ?z0 ?z1 ?z2 ?z3 ?z4 ?z5 ?z6 ?z7 ?z8 ?z9 ?z10
  (case aC | pg | hd | po | sa | mk | kc | n_words | n_place => k_is)
  (case a0 | a1 | a2 | a3 | a4 | a5 | a6 => exact ⟨_, by k_is, by k_is, _, _, _, _, _, _, _, _, _, by k_is, by k_is, by k_is⟩)
  (case a7 | a8 | a9 | a10 | a11 | a12 | a13 | a14 | a15 | a16 | a17 | a18 | a19 | a20 | a21 | a22 | a23 | a24 | a25 | a26 | a27 | a28 | a29 | a30 | a31 | a32 | a33 | a34 | a35 | a36 => exact ⟨_, by k_is, _, _, _, _, _, _, _, _, _, by k_is, by k_is, by k_is⟩)
  (case Ja2 | Jap | Jan | Jaq | Ja3 | Jbw | Jbx | Ja4 | Ja5 | Ja6 | Ja7 | Ja8 | Ja9 | Jba | Jbb | Jbc | gx_NoText | gx_HeldError | gx_NoColumn | gx_NoStretch | gx_NoTable | gx_NoTurn | gx_NoWidth | gx_NoWord | z0 | z1 | z2 | z3 | z4 | z5 | z6 | z7 | z8 | z9 | z10 => k_is)
  (case ox_NoText | ox_HeldError | ox_NoColumn | ox_NoStretch | ox_NoTable | ox_NoTurn | ox_NoWidth | ox_NoWord => exact ⟨⟨_, _, _, _, _, _, _, _, _, _, _, _, _, _, _, _, by k_is, by kernel_rfl, by kernel_rfl, by k_is⟩⟩)
  (case cx_NoText | cx_HeldError | cx_NoColumn | cx_NoStretch | cx_NoTable | cx_NoTurn | cx_NoWidth | cx_NoWord => exact ⟨by kernel_rfl, by kernel_rfl, by kernel_rfl, by kernel_rfl, by kernel_rfl, by kernel_rfl, by kernel_rfl, by kernel_rfl⟩)
  (case m_NoText | k_NoText_NoText | k_NoText_ValueError | k_NoText_t2 => kernel_rfl)
  (case smFORMS => rfl)
