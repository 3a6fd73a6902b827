import PyProof.Rows.All
import Wide.All
import OpenK.AllK
import Wide.FinOn
import Lean
import PyProof.EqAt
import PyProof.EqKinds
import PyProof.TupleCall
import PySem.Challenge.RW_rollcode_k25_what_may_open
import PyProof.StationsW
import PyProof.ExcClass2
import OpenK.KOwn
import PyProof.ExcBaseAll.ValueError
import PyProof.RulesAs
import PyProof.NsDelKeeps
import PyProof.Rows.Catch
import KE.KIsAll
import PyProof.ExcArgsOwn
import PyProof.Rows.CatchOwn
import PyProof.ExcAttrAll.ValueError
import PyProof.AttrMissHeap
import PyProof.Rows.SetFrom
import KE.KDictOf
import PyProof.DictWalks
import PyProof.Rows.DictUnroll
import PyProof.ExcInit
import PyProof.InstStoreFacts
import PyProof.FString
import OpenK.KCls
import PyProof.ListMulRoad
import PyProof.FactsAll.tuple_2
import PyProof.AutoSeq1
import PyProof.FactsAll.list_3
import PyProof.TupleKey
import PyProof.FactsAll.NoneType_1
import Wide.Seal
import PyProof.FactsAll.set
import PyProof.CollectWalk
import KE.KDictList
import PyProof.FactsAll.set_1
import PyProof.FactsAll.set_2
import PyProof.SetNew
import PyProof.MeetsSeq2
set_option Elab.async false
set_option maxRecDepth 100000
set_option maxHeartbeats 4000000
set_option linter.unusedVariables false
set_option linter.all false
def PySem.rpat:Nat→Lean.Term→Lean.MacroM (Lean.TSyntax `rcasesPat)
|0,_=>Lean.Macro.throwUnsupported
|n+1,t=>match t with
 |`(#[$xs,*])=>do
  let ys←xs.getElems.mapM fun x=>do `(Lean.Parser.Tactic.rcasesPatLo|$(←rpat n x):rcasesPat)
  `(rcasesPat|⟨$ys,*⟩)
 |`($x:ident)=>`(rcasesPat|$x:ident)
 |`(_)=>`(rcasesPat|_)
 |_=>Lean.Macro.throwUnsupported
local macro_rules|`(#[$xs,*])=>do
 let mut y:=#[]
 for x in xs.getElems do
  if let some n:=x.raw.isNatLit? then
   for c in ("_Z _Z_Z ___ZZ _ZZ_Z _Z_Z_Z __Z Z__Z__Z__ZZ __ZZ ZZ Z__Z__ZZ _Z_Z_Z_Z _Z__ZZ Z__Z__Z__Z__Z__ZZ _Z_Z__ZZ Z_Z __ _Z_ _Z_Z_Z_Z__ZZ _Z__ZZ_Z__ZZ_Z__ZZ__ZZ _Z_ZZ_Z ___Z _Z_Z_Z_Z_Z _Z__ZZ_Z __ZZ_Z _Z_Z_Z__ZZ__ZZ_Z ______________Z _Z_Z__ZZ_Z _Z_Z_Z__ZZ_Z__ZZ_Z__ZZ__ZZ Z__ZZ_Z _Z_Z__ZZ__ZZ_Z_Z_Z__ZZ__Z ___ __ZZ_Z__ZZ _ZZ __ZZ__ZZ_Z Z__ZZ _____ ____Z Z_ ______ ZZZ __ZZ__ZZ _Z__ZZ_Z_Z__ZZ _Z_Z_Z__ZZ__ZZ Z_Z__ZZ _Z__ZZ__Z_Z_Z _______ __ZZ__ZZ__ZZ _Z_ZZ_ZZ__ZZ _Z_Z_Z_Z_Z_Z _Z_Z__ZZ_Z_Z _Z_Z_Z__ZZ _Z__ZZ__ZZ ____ _Z_ZZ Z_Z_Z__ZZ Z_Z_Z __ZZ__ZZZ _______ZZ __Z__ZZ_Z Z__ZZZ_Z __ZZ_Z_Z Z__Z ZZ_Z".splitOn " ")[n]!.toList do
    if c=='Z' then y:=y.push (←`(rfl)) else y:=y.push (←`(_))
  else y:=y.push x
 `(⟨$y,*⟩)
local macro_rules|`(tactic|exists $xs,*)=>`(tactic|refine#[$xs,*, ?_])
local macro_rules|`(tactic|let $d:letDecl)=>do
 let d:=d.raw[0]
 let p←PySem.rpat 9 ⟨d[0]⟩
 let e:Lean.Term:=⟨d[4]⟩
 if d[2].getNumArgs==0 then `(tactic|obtain $p:rcasesPat := $e) else
 let y:Lean.Term:=⟨d[2][0][1]⟩
 `(tactic|obtain $p:rcasesPat : $y := $e)
local macro_rules|`(↑$x)=>`(some $x)
theorem Z.{u}{α:Sort u}{a:α}:a=a:=rfl
local macro_rules|`(nofun)=>`(by decide +kernel)
local macro_rules|`(⋯)=>`(by decide)
abbrev x4:List PySem.Str:=["_law_box_here","_law_many"]
abbrev x5:List PySem.Str:=["self","button","age","count"]
abbrev X0:List PySem.Str:=["self","table","keys","near","far","most"]
abbrev X1:List PySem.Str:=["_law_box_here","_law_world_here","_law_many"]
abbrev X2:List PySem.Str:=["table","key","digits"]
abbrev X3:List PySem.Str:=["_law_world_here","_law_spec"]
abbrev X4:List PySem.Str:=["button","age","count","near","far"]
abbrev X5:List PySem.Str:=["_law_world_here","_law_sent","_law_k","_law_late"]
abbrev X6:List PySem.Str:=["door","button","press"]
abbrev X7:List PySem.Str:=["_law_box_here","_law_world_here","_law_most"]
abbrev X8:List PySem.Str:=["thing"]
abbrev X9:List PySem.Str:=["self","button","age"]
abbrev W0:List PySem.Str:=["_law_world_here","_law_known","_law_spec"]
abbrev W1:List PySem.Str:=["table","key","name","age","count","deed"]
abbrev W2:List PySem.Str:=["door","presses","button","recent","late"]
abbrev W3:List PySem.Str:=["table","key","name"]
abbrev W4:List PySem.Str:=["_law_hearing","_law_number","_law_late"]
abbrev W5:List PySem.Str:=["self","thing"]
abbrev W6:List PySem.Str:=["_law_script","_law_k","_law_most"]
abbrev W7:List PySem.Str:=["_law_script","_law_k"]
abbrev W8:List PySem.Str:=["recent","many","late"]
abbrev W9:List PySem.Str:=["table","key","press"]
abbrev V0:List PySem.Str:=["self","age"]
abbrev V1:List PySem.Str:=["_law_box_here"]
abbrev V2:List PySem.Str:=["self","name"]
abbrev V4:List PySem.Str:=["self"]
open PySem.W (Frag)
set_option compiler.extract_closed false
open PySem renaming wpAny_bind->Ja,wpAny_pure->Jf,sizeLine_eq->Jo,boot_len->JM,wpAny_field->JO,wpAny_mono->JT,wpAny_holding->JX,wpAny_call_entry->J7,wpAny_truthy_bool->CO,wpAny_newObj_type->C6,wpAny_of_eq->C7,wpAny_seqItems->Dg,wpAny_pyIter_tuple->Di,wpAny_rule->Dl,wpAny_passesOwn->Du,call_meets->Dz,codeAny_builtin->DB,wpAny_specialOf->DD,wpAny_standAt->DI,wpAny_pyIter_list->DJ,mem_of_lookup->DL,wpAny_typeOf->DN,wpAny_loadPart'->DP,wpAny_attempt->DQ,wpAny_pyIter_enum->DZ,wpAny_setField->D3,wpAny_isInstance->D5,wpAny_setField_rec->D6,typeLookup_type->D7,builtinLookup_eq_fast->D8,isSubtype_type->D9,tupleKind_room_in1->Eb,wpAny_execs_nil->Ee,wpAny_Call_Name_kw->Eg,wpAny_pyIter_rangeiter->EC,Value->Γ,Addr->Δ,Shared->Θ,Program->Ξ,Expr->Φ,Heap->Ψ,World->Ω,Builtin->γ,Stmt->δ,wpAny->ε,sizeLine->ζ,mainGlobals->η,starEach->θ
open List renaming length_map->Jd,getElem?_eq_getElem->Jg,getElem?_map->Jk,mem_cons->Jl,mem_singleton->Jn,getElem?_eq_some_iff->Jp,size_toArray->Jr,mem_map->Jv,length_append->Jx,map_append->Jy,not_mem_nil->Jz,getD_eq_getElem?_getD->JE,mem_cons_of_mem->JF,mem_of_getElem?->JG,mem_cons_self->JJ,mem_append->JK,map_cons->JL,mem_range->JN,map_map->JW,mem_append_right->JY,length_take->J0,find?_cons->J1,getElem?_append->J2,mem_filter->J4,take_add_one->J8,length_cons->CP,getElem_mem->CQ,nil_append->CV,lookup_cons->CW,take_of_length_le->CZ,mem_append_left->C0,nodup_cons->C4,append_nil->Dc,take_length->Dh,all_eq_true->Dk,getElem?_append_right->Dw,any_cons->Dx,append_assoc->Dy,map_congr_left->DC,nodup_append->DG,getElem?_append_left->DM,length_set->DX,replicate_succ->DY,length_replicate->Eh,length_drop->Ei,map_nil->Ek,flatten_cons->Eo,length_singleton->Ep,cons_append->Et,any_eq_true->Eu,nodup_nil->Ex,filterMap_cons->Ez,getElem?_set_self->EA,getElem?_set_ne->EB
open Nat renaming le_refl->Je,ne_of_lt->Js,le_trans->Ju,lt_of_lt_of_le->JQ,zero_le->JR,ne_of_gt->JZ,lt_irrefl->J9,le_succ->C3,lt_succ_self->C9,lt_succ_of_lt->DA,le_add_right->DR,le_of_lt->DW
open PySem.Heap renaming get?_push_of_some->Ji,lt_size->Jm,get?_push_size->Jq,size_push->J5,get?_update_self->El
open Bool renaming and_eq_true->JC,false_ne_true->JD,false_and->C1,eq_iff_iff->C2,true_and->Dp,eq_false_iff->Dq
open PyProof.Rows renaming boot_isinstance->JP,boot_tuple->JS,boot_list->Ds,callWith_type1->Dv,boot_str->DH,boot_int->Ec,slot_tuple_getitem->Ej,boot_all->Ew,boot_max->Ey,boot_bool->EI
open PySem.W renaming mg_none_of->JU,kia_one->JV,mg_of->Do,kia_tup->DS,Frag->ι
open PySem.F renaming plainAttrs_list->J3,slot_list_append->CT,type_list_append->CU,slot_tuple_iterator_next->Er,slot_zip_next->Es,slot_tuple_add->ED,entry_tuple_add->EE,args_tuple_add_2->EF,slot_dict_get->EH
open Option renaming map_eq_some_iff->C8,getD_some->De,isSome_iff_exists->DK,isSome_map->DU
open Int renaming toNat_natCast->Dm,emod_nonneg->DE,emod_lt_of_pos->DF
open PySem.Obj renaming data_mapFields->DO,isFreed_of_fields->EG
namespace L0
abbrev _root_.Α:=List PySem.Str
abbrev _root_.Ε:=List Nat
abbrev _root_.Ζ:=List Int
abbrev _root_.Η:=List Γ
abbrev _root_.Ι:=List Δ
abbrev _root_.Κ:=List Φ
abbrev _root_.Λ:=Option Int
abbrev _root_.Ν:=Option Γ
abbrev _root_.Ο:=List PySem.Env
abbrev _root_.Υ:=Option Δ
abbrev _root_.Χ:=Option Φ
abbrev _root_.β:=List PySem.Keyword
abbrev Jb:=@if_pos
abbrev Jc:=@if_neg
abbrev Jh:=@decide_eq_true
abbrev Jj:=@decide_eq_false
abbrev Jw:=@of_decide_eq_true
abbrev JA:=@or_false
abbrev JB:=@decide_eq_true_iff
abbrev JH:=@congrArg
abbrev J6:=@if_true
abbrev CS:=@beq_self_eq_true
abbrev C5:=@if_false
abbrev Dj:=@beq_iff_eq
abbrev Dt:=@beq_eq_false_iff_ne
abbrev DT:=@beq_false_of_ne
abbrev Jt:=@Option.some.inj
abbrev JI:=@PySem.PassesOwn.never
abbrev CY:=@PySem.Around.in1_units
abbrev DV:=@PySem.Paired.length
abbrev D4:=@PySem.Heap.SameBut.update
abbrev Ed:=@Array.length_toList
end L0
open L0
namespace L0
open PySem
abbrev Fl:=Γ->Θ->Prop
abbrev Fn:=Str->Ν
abbrev Fo:=List (Δ×Obj)
end L0
open L0
namespace L2
open PySem PySem.Spec PyProof.Rows
abbrev qz:=Sum Int Str
def bI:qz->Γ->Bool
 | .inl k,v=>Γ.isInt k v
 | .inr x,v=>Γ.isStrOf x v
def Co(w:Ω):qz->Int
 | .inl k=>hashInt k
 | .inr x=>hashStr w x
theorem zA:∀{k:qz} {v:Γ},bI k v=true->(∃i t,k=Sum.inl i/\v=Γ.int i t)\/(∃x t,k=Sum.inr x/\v=Γ.str x t)
 | .inl i,v,h=>by
  let#[t,e]:=Γ.isInt_shape (k:=i) (v:=v) h
  exact .inl #[i,t,Z,e]
 | .inr x,v,h=>by
  let#[t,e]:=Γ.isStrOf_shape (x:=x) (v:=v) h
  exact .inr #[x,t,Z,e]
theorem sG(i:Int)(t:Tok):bI (.inl i) (.int i t)=true:=by simp [bI,Γ.isInt]
theorem sI(x:Str)(t:Tok):bI (.inr x) (.str x t)=true:=by simp [bI,Γ.isStrOf]
theorem AE(a b:Int):decide ((Sum.inl a:qz)=Sum.inl b)=(a==b):=by
 by_cases e:a=b
 ·subst e;simp
 ·have h:¬(Sum.inl a:qz)=Sum.inl b:=λq=>e (Sum.inl.inj q)
  rw[Jj h]
  exact(Dt.mpr e).symm
theorem Bw(a b:Str):decide ((Sum.inr a:qz)=Sum.inr b)=decide (a=b):=by
 by_cases e:a=b
 ·subst e;simp
 ·have h:¬(Sum.inr a:qz)=Sum.inr b:=λq=>e (Sum.inr.inj q)
  rw[Jj h,Jj e]
theorem yW(a:Int)(b:Str):decide ((Sum.inl a:qz)=Sum.inr b)=false:=Jj (λq=>nomatch q)
theorem AG(a:Str)(b:Int):decide ((Sum.inr a:qz)=Sum.inl b)=false:=Jj (λq=>nomatch q)
def qQ(prog:Ξ)(w:Ω):PySem.KeyKind prog w qz where
 is:=bI
 hash:=Co w
 inj:=λv a b g d=>by
  rcases zA g with⟨i,t,rfl,rfl⟩|⟨x,t,rfl,rfl⟩
  ·rcases zA d with⟨j,u,rfl,e⟩|⟨y,u,rfl,e⟩
   ·injection e with e1 _;rw[e1]
   ·exact nomatch e
  ·rcases zA d with⟨j,u,rfl,e⟩|⟨y,u,rfl,e⟩
   ·exact nomatch e
   ·injection e with e1 _;rw[e1]
 byValue:=λk v h=>by
  rcases zA h with⟨i,t,rfl,rfl⟩|⟨x,t,rfl,rfl⟩<;>rfl
 pyHash:=λc h=>by
  rcases zA c with⟨i,t,rfl,rfl⟩|⟨x,t,rfl,rfl⟩
  ·exact wpAny_pyHash_int h
  ·exact wpAny_pyHash_str h
 eqBool:=λf c h=>by
  rcases zA f with⟨i,t,rfl,rfl⟩|⟨x,t,rfl,rfl⟩
  ·rcases zA c with⟨j,u,rfl,rfl⟩|⟨y,u,rfl,rfl⟩
   ·rw[AE]at h;exact wpAny_eqBool_int h
   ·rw[yW]at h;exact SeqAt.EqAt.int_str i t y u _ _ _ _ h
  ·rcases zA c with⟨j,u,rfl,rfl⟩|⟨y,u,rfl,rfl⟩
   ·rw[AG]at h;exact SeqAt.EqAt.str_int x t j u _ _ _ _ h
   ·rw[Bw]at h;exact wpAny_eqBool_str h
 «strs»:=λk x t v h=>by
  rcases zA h with⟨i,u,rfl,e⟩|⟨y,u,rfl,e⟩
  ·exact nomatch e
  ·injection e with e1 _
   subst e1;cases v<;>rfl
theorem mT(prog:Ξ)(w:Ω)(i:Int)(t:Tok):(qQ prog w).is (.inl i) (.int i t)=true:=sG i t
theorem mU(prog:Ξ)(w:Ω)(x:Str)(t:Tok):(qQ prog w).is (.inr x) (.str x t)=true:=sI x t
inductive V where
 |non|bl (b:Bool)|int (i:Int)|str (x:Str)|byt (b:Array UInt8)|flt (b:UInt64)|ref (a:Δ)|ty (n:String)
 deriving DecidableEq
abbrev _root_.Μ:=Option V
abbrev _root_.Β:=List V
def Fx:V->Γ->Prop
 | .non,u=>u=Γ.none
 | .bl b,u=>u=Γ.bool b
 | .int i,u=>∃t,u=Γ.int i t
 | .str x,u=>∃t,u=Γ.str x t
 | .byt b,u=>∃t,u=Γ.bytes b t
 | .flt b,u=>∃t,u=Γ.float b t
 | .ref a,u=>u=Γ.ref a
 | .ty n,u=>u=Γ.type n
abbrev Fy:Β->Η->Prop:=Paired Fx
theorem Fy.length{xs:Β}{us:Η}(r:Fy xs us):xs.length=us.length:=DV r
theorem Fy.get:∀{xs:Β} {us:Η} {i:Nat} {x:V},Fy xs us->xs[i]? =↑x->∃u,us[i]? =↑u/\Fx x u
 |_,_,_,_,.nil,e=>by simp at e
 |_,_,0,_,.cons r _,e=>by simp at e;subst e;exact#[0,r]
 |_,_,i+1,x,.cons _ t,e=>by
  let#[u,h1,a]:=Fy.get (i:=i) (x:=x) t (by simpa using e)
  exact#[u,by simpa using h1,a]
theorem Fy.set{x:V}{u:Γ}(r:Fx x u):∀{xs:Β} {us:Η} (i:Nat),Fy xs us->Fy (xs.set i x) (us.set i u)
 |_,_,_,.nil=> .nil
 |_,_,0,.cons _ t=> .cons r t
 |_,_,i+1,.cons q t=> .cons q (Fy.set r i t)
theorem Fy.append:∀{xs ys:Β} {us a:Η},Fy xs us->Fy ys a->Fy (xs++ys) (us++a)
 |_,_,_,_,.nil,s=>s
 |_,_,_,_,.cons r t,s=> .cons r (Fy.append t s)
theorem Fy.take:∀{xs:Β} {us:Η} (n:Nat),Fy xs us->Fy (xs.take n) (us.take n)
 |_,_,0,_=> .nil
 |_,_,_+1,.nil=> .nil
 |_,_,n+1,.cons r t=> .cons r (Fy.take n t)
theorem Fy.drop:∀{xs:Β} {us:Η} (n:Nat),Fy xs us->Fy (xs.drop n) (us.drop n)
 |_,_,0,r=>r
 |_,_,_+1,.nil=> .nil
 |_,_,n+1,.cons _ t=>Fy.drop n t
def Gu:Μ->Ν->Prop
 |some v,↑u=>Fx v u
 |none,none=>True
 |_,_=>False
def KV{κ:Type}:List (κ×V)->List (κ×Γ)->Prop:=Paired λ(p:κ×V) (q:κ×Γ)=>p.1=q.1/\Fx p.2 q.2
def kV:qz->V
 | .inl i=> .int i
 | .inr x=> .str x
inductive HO where
 |lst (xs:Β)
 |tup (xs:Β)
 |dK (kvs:List (qz×V))|dT (kvs:List (List qz×V))
 |set (S:Int->Bool) (n:Nat)
 |ins (C dx:Δ) (fs:List (Str×V))
 |own (x:Δ)
 |xd (fs:List (Str×V))
 |met (f x:Δ)
 |rng (lo hi:Int)
 |frz (o:Obj) (u:HO)
 |tbl (ps:Array Γ)
 |ext (φ:Ψ->Prop)
abbrev Hp:=Δ->Option HO
def Ft(H:Hp)(a:Δ)(o:HO):Hp:=λb=>if b=a then ↑o else H b
theorem qc{H:Hp}{a:Δ}{o:HO}:Ft H a o a=↑o:=by unfold Ft;rw[Jb Z]
theorem qi{H:Hp}{a b:Δ}{o:HO}(h:b≠a):Ft H a o b=H b:=by unfold Ft;rw[Jc h]
theorem qC{H:Hp}{a b:Δ}{o u:HO}(h:H a=↑o)(h':H b=↑u)(d:o≠u):a≠b:=by
 intro e;subst e;rw[h]at h';exact d (Jt h')
theorem qt{H:Hp}{a b:Δ}{o:HO}(h:H a=↑o)(h':H b=none):a≠b:=by
 intro e;subst e;rw[h]at h';cases h'
section
variable(P:Ξ)(w:Ω)
def FE(H:Hp)(h:Ψ)(a:Δ):HO->Prop
 | .lst xs=>xs.length<=ζ/\∃(its:Η) (n:Nat),Fy xs its/\h.get? a=some {cls:= .type "list",data:= .seq its.toArray n}
 | .tup xs=>xs.length<=ζ/\∃its:Η,Fy xs its/\IsTup h a its.toArray
 | .dK kvs=>kvs.length<=ζ/\(a==sysModules)=false/\∃d,KV kvs d/\h.DictOf (qQ P w) a d
 | .dT kvs=>kvs.length<=ζ/\(a==sysModules)=false/\∃xs:List (List qz×Δ×Γ),
   Paired (λ(p:List qz×V) (q:List qz×Δ×Γ)=>p.1=q.1/\H q.2.1=↑(.tup (p.1.map kV))/\Fx p.2 q.2.2) kvs xs/\
   ∃o es e,h.get? a=↑o/\o.ExactDict/\o.data= .dict es e/\es.toList=xs.map (entryOfKey (tupleKind (qQ P w)))/\(xs.map (·.1)).Nodup
 | .set S n=>h.SetOf (intKind P w) a S n
 | .ins C dx fs=>H dx=↑(.own a)/\fs.length<=1000/\dx≠a/\h.get? a=↑(PySem.W.instObj C dx)/\
   ∃mA,h.Ns1 dx mA/\(∀f,Gu (fs.lookup f) (mA f))/\PySem.Within mA (fs.map (·.1))
 | .own _=>∃o,h.get? a=↑o
 | .xd fs=>∃mA,h.Ns1 a mA/\∀f,Gu (fs.lookup f) (mA f)
 | .rng lo hi=>∃t u v,h.get? a=some {cls:= .type "range",data:= .fields (List.toArray [.int lo t,.int hi u,.int 1 v])}
 | .frz o u=>h.get? a=↑o/\FE H h a u
 | .tbl ps=>h.get? a=some {cls:= .none,data:= .fields ps}
 | .met f x=>h.get? a=↑(PySem.W.methodObj (.ref f) (.ref x))
 | .ext φ=>φ h/\(∃o,h.get? a=↑o)/\∀h1 c:Ψ,φ h1->(∀o,h1.get? a=↑o->c.get? a=↑o)->φ c
def GM(H:Hp)(h:Ψ):Prop:=∀a o,H a=↑o->FE P w H h a o
end
section
variable{P:Ξ}{w:Ω}{H H':Hp}{h h':Ψ}{a:Δ}{o:HO}
theorem FE.lt(x:FE P w H h a o):a<h.objs.size:=by
 cases o with
 |lst xs=>let#[_,_,_,_,e]:=x;exact Jm e
 |tup xs=>let#[_,_,_,p]:=x;exact p.lt
 |dK kvs=>let#[_,_,_,_,o,_,_,e,_]:=x;exact Jm e
 |dT kvs=>let#[_,_,_,_,o,_,_,e,_]:=x;exact Jm e
 |set S n=>let#[o,_,_,_,e,_]:=x;exact Jm e
 |ins C dx fs=>let#[_,_,_,e,_]:=x;exact Jm e
 |own y=>let#[_,e]:=x;exact Jm e
 |xd fs=>let#[_,#[_,_,_,e,_],_]:=x;exact Jm e
 |rng lo hi=>let#[_,_,_,e]:=x;exact Jm e
 |frz ob u=>let#[e,_]:=x;exact Jm e
 |tbl ps=>exact Jm (show h.get? a=↑_ from x)
 |met f y=>exact Jm (show h.get? a=↑_ from x)
 |ext φ=>let#[_,#[_,e],_]:=x;exact Jm e
theorem Paired.mapP{c d:Type}{F G:c->d->Prop}:∀{l₁:List c} {l₂:List d},Paired F l₁ l₂->(∀a b,F a b->G a b)->Paired G l₁ l₂
 |_,_,.nil,_=> .nil
 |_,_,.cons r t,f=> .cons (f _ _ r) (Paired.mapP t f)
theorem FE.stay(x:FE P w H h a o)(k:∀b u,(b=a\/H b=↑(.own a))->h.get? b=↑u->h'.get? b=↑u)
  (ho:∀b,H b=↑(.own a)->H' b=↑(.own a))(l:∀b xs,H b=↑(.tup xs)->H' b=↑(.tup xs)):FE P w H' h' a o:=by
 induction o with
 |lst xs=>let#[z,j,n,r,e]:=x;exact#[z,j,n,r,k _ _ (.inl Z) e]
 |tup xs=>let#[z,j,r,g,e,c]:=x;exact#[z,j,r,g,k _ _ (.inl Z) e,c]
 |dK kvs=>let#[z,y,s,r,g,es,i,e,c]:=x;exact#[z,y,s,r,g,es,i,k _ _ (.inl Z) e,c]
 |dT kvs=>
  let#[z,y,xs,r,g,es,i,e,c]:=x
  exact#[z,y,xs,Paired.mapP r λp q z=>#[z.1,l _ _ z.2.1,z.2.2],g,es,i,k _ _ (.inl Z) e,c]
 |set S n=>let#[g,es,i,t,e,c]:=x;exact#[g,es,i,t,k _ _ (.inl Z) e,c]
 |ins C dx fs=>
  let#[d,z,m,e,mA,#[od,es,i,A,c],r]:=x
  exact#[ho _ d,z,m,k _ _ (.inl Z) e,mA,#[od,es,i,k _ _ (.inr d) A,c],r]
 |own y=>let#[g,e]:=x;exact#[g,k _ _ (.inl Z) e]
 |xd fs=>let#[mA,#[od,es,i,e,c],r]:=x;exact#[mA,#[od,es,i,k _ _ (.inl Z) e,c],r]
 |rng lo hi=>let#[t,u,v,e]:=x;exact#[t,u,v,k _ _ (.inl Z) e]
 |frz g u ih=>let#[e,q]:=x;exact#[k _ _ (.inl Z) e,ih q]
 |tbl ps=>
  have e:h.get? a=some {cls:= .none,data:= .fields ps}:=x
  show h'.get? a=some {cls:= .none,data:= .fields ps}
  exact k a _ (.inl Z) e
 |met f y=>
  have e:h.get? a=↑(W.methodObj (.ref f) (.ref y)):=x
  show h'.get? a=↑(W.methodObj (.ref f) (.ref y))
  exact k a _ (.inl Z) e
 |ext φ=>let#[p,#[o,e],st]:=x;exact#[st _ _ p λo q=>k _ _ (.inl Z) q,#[o,k _ _ (.inl Z) e],st]
theorem GM.lt(x:GM P w H h)(e:H a=↑o):a<h.objs.size:=(x a o e).lt
theorem GM.fresh(x:GM P w H h)(e:h.objs.size<=a):H a=none:=by
 cases q:H a with
 |none=>rfl
 |some u=>exact absurd (JQ (x.lt q) e) (J9 _)
theorem GM.kept(x:GM P w H h)(k:∀b u,h.get? b=↑u->h'.get? b=↑u):GM P w H h':=λa o e=>
 (x a o e).stay (λb u _ q=>k b u q) (λ_ q=>q) λ_ _ q=>q
theorem GM.laid(x:GM P w H h)(k:∀b u,h.get? b=↑u->h'.get? b=↑u)(hp:h.objs.size<=a)(new:FE P w (Ft H a o) h' a o):GM P w (Ft H a o) h':=λb u e=>by
 have d:=x.fresh hp
 by_cases f:b=a
 ·subst f;rw[qc]at e;cases e;exact new
 ·rw[qi f]at e
  exact(x b u e).stay (λc v _ q=>k c v q) (λc q=>by rw[qi (qt q d)];exact q) λc xs q=>by rw[qi (qt q d)];exact q
end
def Rd(H:Hp)(a:Δ)(u:HO):Prop:=H a=↑u\/∃o,H a=↑(.frz o u)
theorem Rd.ok{P:Ξ}{w:Ω}{H:Hp}{h:Ψ}{a:Δ}{u:HO}(r:Rd H a u)(x:GM P w H h):FE P w H h a u:=by
 rcases r with r|⟨o,r⟩
 ·exact x a u r
 ·let#[_,q]:=x a _ r
  exact q
def rM:Option HO->Prop
 |some (.lst _)=>True
 |some (.dK _)=>True
 |some (.dT _)=>True
 |some (.set _ _)=>True
 |some (.ins _ _ _)=>True
 |some (.ext _)=>True
 |_=>False
section
variable{P:Ξ}{w:Ω}{H:Hp}{h h':Ψ}{x e:Δ}{o':HO}
theorem GM.write(ok:GM P w H h)(j:rM (H x))(he:e=x\/H e=↑(.own x))(k:∀b u,b≠e->h.get? b=↑u->h'.get? b=↑u)(l:∃u,h'.get? e=↑u)
  (new:FE P w (Ft H x o') h' x o'):GM P w (Ft H x o') h':=λb u q=>by
 have d:∀c y,H c=↑(.own y)->c≠x:=λc y r z=>by subst z;rw[r]at j;exact j
 have f:∀c xs,H c=↑(.tup xs)->c≠x:=λc xs r z=>by subst z;rw[r]at j;exact j
 by_cases i:b=x
 ·subst i;rw[qc]at q;cases q;exact new
 ·rw[qi i]at q
  by_cases a:b=e
  ·have m:H b=↑(.own x):=by
    rcases he with z|z
    ·exact absurd (a.trans z) i
    ·rw[a];exact z
   rw[q]at m;cases m
   let#[v,n]:=l
   exact#[v,by rw[a];exact n]
  ·refine(ok b u q).stay (λc v g r=>k c v ?_ r) (λc r=>by rw[qi (d c b r)];exact r) λc xs r=>by rw[qi (f c xs r)];exact r
   rcases g with rfl|g
   ·exact a
   ·rintro rfl
    rcases he with z|z
    ·exact d c b g z
    ·rw[g]at z;cases z;exact i Z
end
structure Un(fs ex:Ι)(H H':Hp)(h h':Ψ):Prop where
 keep:∀b o,h.get? b=↑o->H b=none->b∉fs->b∉ex->h'.get? b=↑o
 slot:∀b o,h.get? b=↑o->H b=none->b∈fs->b∉ex->∃sl,h'.get? b=some {o with slots:=sl}
 free:∀b o,h.get? b=↑o->H b=none->b∉ex->H' b=none
 there:∀b o,h.get? b=↑o->b∉ex->∃o',h'.get? b=↑o'
 tups:∀b xs,H b=↑(.tup xs)->H' b=↑(.tup xs)
 frzs:∀b o u,H b=↑(.frz o u)->H' b=↑(.frz o u)
 tbls:∀b ps,H b=↑(.tbl ps)->∃more,H' b=↑(.tbl (ps++more))
section
variable{fs ex:Ι}{H H1:Hp}{h h1 h':Ψ}{a x e:Δ}{o:HO}
theorem Un.any(u:Un fs ex H H1 h h1){b:Δ}{ob:Obj}(q:h.get? b=↑ob)(n:H b=none)(hx:b∉ex):∃c,h1.get? b=some {ob with slots:=c}:=by
 by_cases a:b∈fs
 ·exact u.slot b ob q n a hx
 ·exact#[ob.slots,u.keep b ob q n a hx]
theorem Un.kept(k:∀b u,h.get? b=↑u->h'.get? b=↑u):Un fs ex H H h h':=
 #[λb a q _ _ _=>k b a q,λb a q _ _ _=>#[a.slots,k b a q],λ_ _ _ n _=>n,λb a q _=>#[a,k b a q],λ_ _ q=>q,λ_ _ _ q=>q,λ_ ps q=>#[(List.toArray []),by rw[q];simp]]
theorem Un.refl:Un fs ex H H h h:=Un.kept λ_ _ q=>q
theorem Un.laid(k:∀b u,h.get? b=↑u->h'.get? b=↑u)(hp:h.objs.size<=a)(hn:H a=none):Un fs ex H (Ft H a o) h h' where
 keep:=λb u q _ _ _=>k b u q
 slot:=λb u q _ _ _=>#[u.slots,k b u q]
 free:=λb u q n _=>by rw[qi (Js (JQ (Jm q) hp))];exact n
 there:=λb u q _=>#[u,k b u q]
 tups:=λb xs q=>by rw[qi (qt q hn)];exact q
 frzs:=λb u xs q=>by rw[qi (qt q hn)];exact q
 tbls:=λb ps q=>#[(List.toArray []),by rw[qi (qt q hn),q];simp]
theorem Un.write(c:rM (H x))(he:e=x\/H e=↑(.own x))(k:∀b u,b≠e->h.get? b=↑u->h'.get? b=↑u)(d:∃u,h'.get? e=↑u):Un fs ex H (Ft H x o) h h':=by
 have g:∀b,H b=none->b≠x:=λb n z=>by subst z;rw[n]at c;exact c
 have i:∀b,H b=none->b≠e:=λb n z=>by
  subst z;rcases he with r|r
  ·exact g b n r
  ·rw[n]at r;cases r
 have f:∀b u,H b=↑u->¬rM ↑u->b≠x:=λb u q nm z=>by subst z;rw[q]at c;exact nm c
 refine#[λb u q n _ _=>k b u (i b n) q,λb u q n _ _=>#[u.slots,k b u (i b n) q],λb u q n _=>by rw[qi (g b n)];exact n,λb u q _=>?_,
  λb xs q=>by rw[qi (f b _ q λz=>z)];exact q,λb u xs q=>by rw[qi (f b _ q λz=>z)];exact q,λb ps q=>#[(List.toArray []),by rw[qi (f b _ q λz=>z),q];simp]]
 by_cases a:b=e
 ·subst a;exact d
 ·exact#[u,k b u a q]
end
def v8(h:Ψ)(H:Hp):Ι:=(List.range h.objs.size).filter λa=>(H a).isSome
def bN(h:Ψ)(H:Hp):Ψ:=PySem.W.hideAll h (v8 h H)
theorem sZ(h:Ψ)(H:Hp):(bN h H).objs.size=h.objs.size:=W.hideAll_size _ _
theorem vo{h:Ψ}{H:Hp}{b:Δ}{o:Obj}(e:h.get? b=↑o)(n:H b=none):(bN h H).get? b=↑o:=
 W.hideAll_get _ e λa=>by
  have q:(H b).isSome=true:=(J4.mp a).2
  rw[n]at q;simp at q
theorem wX{h:Ψ}{H:Hp}{b:Δ}{o:Obj}(e:(bN h H).get? b=↑o):h.get? b=↑o/\H b=none:=by
 have a:h.get? b=↑o:=W.of_hideAll (v8 h H) e
 exists a
 cases q:H b with
 |none=>rfl
 |some x=>
  have c:b∈v8 h H:=J4.mpr #[JN.mpr (Jm a),by simp [q]]
  have z:(bN h H).get? b=none:=W.hideAll_none (v8 h H) c
  rw[z]at e;cases e
structure Mn(K:ι)(mg:Fn)(base:Ψ):Prop where
 kin:K.In base
 glob:base.Ns η mg
 blt:∃mb,base.Ns builtinsNs mb/\∀x:Str,x≠"__name__"->mb x=bootBuiltins x
 nolimit:base.NoLimit
structure Cx where
 prog:Ξ
 w:Ω
 K:ι
 mg:Str->Ν
 base:Ψ
 A:Around
 N:Α
 s₀:Θ
 H₀:Hp
 env:Env
 outer:Ο
 stack:Ο
 ex:Ι
 fn:Str->Bool
 calm:Bool
 pn:List (Δ×Obj)
 xe:Γ->Θ->Prop
def bh(l:Ο):Ι:=l.filterMap (·.frame)
abbrev Cx.fs(X:Cx):Ι:=bh X.outer
def BN(a:Scope)(x:Str):Prop:=a.names.lookup x=some .local\/a.names.lookup x=some .cell\/a.names.lookup x=some .free
def f9(a:Scope)(x:Str):Prop:=a.names.lookup x=some .local\/a.names.lookup x=some .cell
def CB(a:Env)(h:Ψ)(m:Fn)(x:Str)(u:Γ):Prop:=
 (a.kindOf x=some .local/\m x=↑u)\/((a.kindOf x=some .cell\/a.kindOf x=some .free)/\∃c,a.cells.lookup x=↑c/\h.IsCell c ↑u)
structure Cx.Ok(X:Cx):Prop where
 mod:Mn X.K X.mg X.base
 kind:X.env.scope.kind= .function
 glob:X.env.globals=η
 blt:X.env.builtins=builtinsNs
 above:X.s₀.heap.objs.size<=X.env.locals
 inj:∀x y c,X.env.cells.lookup x=↑c->X.env.cells.lookup y=↑c->x=y
 has:∀x,(X.env.kindOf x=some .cell\/X.env.kindOf x=some .free)->∃c,X.env.cells.lookup x=↑c
 cab:∀x c,X.fn x=true->X.env.cells.lookup x=↑c->X.s₀.heap.objs.size<=c
 hd:X.calm=true->X.A.handled=none
 frames:X.A.frames=↑X.stack
 stk:X.stack=X.outer\/(X.stack=X.env::X.outer/\X.env.frame=↑X.env.locals)
 exf:∀b∈X.ex,b≠X.env.locals/\∀x c,X.env.cells.lookup x=↑c->c≠b
 bs:∀b o,X.base.get? b=↑o->X.s₀.heap.get? b=↑o/\X.H₀ b=none
 bsz:X.base.objs.size<=X.s₀.heap.objs.size
 noex:∀b o,X.base.get? b=↑o->b∉X.ex
 exfs:∀b∈X.ex,b∉X.fs
 funs:X.s₀.heap.FunFrames X.base X.outer
 frf:∀b∈X.fs,X.H₀ b=none
structure Fv(X:Cx)(tx:Fo)(σ:List Μ)(H:Hp)(s:Θ):Prop where
 ok:X.Ok
 os:s.os=X.s₀.os
 bare:AllBare s.gens
 base:Un X.fs X.ex X.H₀ H X.s₀.heap s.heap
 loc:∃m,s.heap.Ns X.env.locals m/\∀(i:Nat) (x:Str) (v:V),X.N[i]? =↑x->σ[i]? =↑(↑v)->BN X.env.scope x->∃u,Fx v u/\CB X.env s.heap m x u
 cell:∀x c,X.env.cells.lookup x=↑c->∃v,s.heap.IsCell c v
 free:H X.env.locals=none
 freeC:∀x c,X.env.cells.lookup x=↑c->H c=none
 pin:∀p∈X.pn++tx,s.heap.get? p.1=↑p.2/\H p.1=none/\p.1≠X.env.locals/\p.1∉X.fs/\∀v,p.2.data≠ .cell v
 hok:GM X.prog X.w H s.heap
 len:σ.length=X.N.length
section
variable{X:Cx}{tx:Fo}{σ:List Μ}{H H':Hp}{s:Θ}{h':Ψ}
theorem Cx.Ok.nofr(ok:X.Ok){b:Δ}{o:Obj}(e:X.base.get? b=↑o):b∉X.fs:=λa=>by
 have:=(ok.funs.mem a).1
 rw[e]at this;cases this
theorem Fv.bs(I:Fv X tx σ H s):∀b o,X.base.get? b=↑o->s.heap.get? b=↑o/\H b=none:=λb o e=>
 #[I.base.keep b o (I.ok.bs b o e).1 (I.ok.bs b o e).2 (I.ok.nofr e) (I.ok.noex b o e),I.base.free b o (I.ok.bs b o e).1 (I.ok.bs b o e).2 (I.ok.noex b o e)]
theorem Fv.bk(I:Fv X tx σ H s):∀b o,X.base.get? b=↑o->s.heap.get? b=↑o:=λb o e=>(I.bs b o e).1
theorem Fv.mod(I:Fv X tx σ H s):Mn X.K X.mg X.base:=I.ok.mod
theorem Fv.kIn(I:Fv X tx σ H s):X.K.In s.heap:=I.ok.mod.kin.keeps I.bk
theorem Fv.lt(I:Fv X tx σ H s):X.env.locals<s.heap.objs.size:=let⟨_,hn,_⟩:=I.loc;hn.lt
theorem Fv.sz(I:Fv X tx σ H s):X.s₀.heap.objs.size<=s.heap.objs.size:=Ju I.ok.above (DW I.lt)
theorem Fv.nofs(I:Fv X tx σ H s){a:Δ}(h:s.heap.objs.size<=a):a∉X.fs:=λc=>by
 let#[_,o,d,_]:=I.ok.funs.mem c;exact absurd (JQ (Jm d) (Ju I.sz h)) (J9 _)
theorem Fv.cne(I:Fv X tx σ H s):∀x c,X.env.cells.lookup x=↑c->c≠X.env.locals:=λx c e z=>by
 let#[v,o,g,f]:=I.cell x c e;let#[m,#[o',es,h,d,a,_],_]:=I.loc;rw[z,d]at g;cases g;rw[a]at f;cases f
theorem Fv.funs(I:Fv X tx σ H s):s.heap.FunFrames X.base X.outer:=by
 have all:∀(l:Ο),(∀b∈bh l,b∈X.fs)->X.s₀.heap.FunFrames X.base l->s.heap.FunFrames X.base l:=by
  intro l
  induction l with
  |nil=>intro _ _;trivial
  |cons env r ih=>
   intro hs j;let#[hk,#[L,o,a,g,i,f],h]:=j;have d:L∈X.fs:=hs L (by unfold bh;rw[Ez,a];exact JJ)
   let#[m,e]:=I.base.slot L o i (I.ok.frf L d) d λz=>I.ok.exfs L z d
   exact#[hk,#[L,_,a,g,e,f],ih (λb c=>hs b (by unfold bh;rw[Ez,a];exact JF _ c)) h]
 exact all X.outer (λ_ c=>c) I.ok.funs
theorem Fv.stack(I:Fv X tx σ H s):s.heap.FunFrames X.base X.stack:=by
 rcases I.ok.stk with e|⟨e,c⟩
 ·rw[e];exact I.funs
 ·rw[e]
  let#[m,a,_]:=I.loc;refine .cons (by rw[I.ok.kind];decide) c a ?_ I.funs
  exact Ψ.get?_none_of_le (Ju I.ok.bsz I.ok.above)
theorem Fv.stkSub(I:Fv X tx σ H s):∀b∈bh X.stack,b∈X.env.locals::X.fs:=λb a=>by
 rcases I.ok.stk with e|⟨e,c⟩
 ·rw[e]at a;exact JF _ a
 ·rw[e]at a
  unfold bh at a;rw[Ez,c]at a;exact a
theorem Fv.stkFree(I:Fv X tx σ H s):∀b∈bh X.stack,H b=none:=λb a=>by
 rcases Jl.mp (I.stkSub b a)with e|a
 ·rw[e];exact I.free
 ·let#[_,o,c,_]:=I.ok.funs.mem a
  exact I.base.free b o c (I.ok.frf b a) λz=>I.ok.exfs b z a
theorem Fv.step{g':Array GenState}{t':Nat}{d':Drawn}{ch:Ι}(I:Fv X tx σ H s)
  (j:∀b∈ch,(b∈X.ex\/X.s₀.heap.objs.size<=b)/\b≠X.env.locals/\(∀x c,X.env.cells.lookup x=↑c->c≠b)/\∀p∈X.pn++tx,p.1≠b)
  (h:∀b o,b≠X.env.locals->b∉X.fs->b∉ch->s.heap.get? b=↑o->H b=none->h'.get? b=↑o)
  (A:∀b o,b≠X.env.locals->b∈X.fs->b∉ch->s.heap.get? b=↑o->H b=none->∃M,h'.get? b=some {o with slots:=M})(f:∀b o,b∉ch->s.heap.get? b=↑o->H b=none->H' b=none)
  (C:∀b o,b∉ch->s.heap.get? b=↑o->∃o',h'.get? b=↑o')
  (L:∀b xs,H b=↑(.tup xs)->H' b=↑(.tup xs))(G:∀b o u,H b=↑(.frz o u)->H' b=↑(.frz o u))(K:∀b ps,H b=↑(.tbl ps)->∃F,H' b=↑(.tbl (ps++F)))
  (ns:∀m,s.heap.Ns X.env.locals m->h'.Ns X.env.locals m)(O:GM X.prog X.w H' h')(hg:AllBare g'):
  Fv X tx σ H' {s with heap:=h',gens:=g',drawn:=d',toks:=t'}:=by
 have E:∀b o,X.s₀.heap.get? b=↑o->b≠X.env.locals:=λb o e=>Js (JQ (Jm e) I.ok.above)
 have w:∀b o,X.s₀.heap.get? b=↑o->b∉X.ex->b∉ch:=λb o e a B=>by
  rcases(j b B).1 with z|z
  ·exact a z
  ·exact absurd (JQ (Jm e) z) (J9 _)
 have g:∀x c,X.env.cells.lookup x=↑c->∀v,s.heap.IsCell c v->h'.IsCell c v:=λx c e v ⟨o,D,N⟩=>by
  have t:c∉ch:=λz=>(j c z).2.2.1 x c e Z
  by_cases R:c∈X.fs
  ·let#[M,q]:=A c o (I.cne x c e) R t D (I.freeC x c e)
   exact#[_,q,N]
  ·exact#[o,h c o (I.cne x c e) R t D (I.freeC x c e),N]
 refine#[I.ok,I.os,hg,#[λb o e n B a=>?_,λb o e n B a=>?_,λb o e n a=>?_,λb o e a=>?_,λb xs e=>L b xs (I.base.tups b xs e),λb o xs e=>G b o xs (I.base.frzs b o xs e),λb ps e=>?_],?_,λx c e=>?_,?_,λx c e=>?_,λp T=>?_,O,I.len]
 ·exact h b o (E b o e) B (w b o e a) (I.base.keep b o e n B a) (I.base.free b o e n a)
 ·let#[M,y]:=I.base.slot b o e n B a
  let#[P,J]:=A b _ (E b o e) B (w b o e a) y (I.base.free b o e n a)
  exact#[P,J]
 ·let#[o',y]:=I.base.there b o e a
  exact f b o' (w b o e a) y (I.base.free b o e n a)
 ·let#[o',y]:=I.base.there b o e a
  exact C b o' (w b o e a) y
 ·let#[m1,y]:=I.base.tbls b ps e
  let#[U,J]:=K b _ y
  exact#[m1++U,by rw[J,Array.append_assoc]]
 ·let#[m,Y,W]:=I.loc
  refine#[m,ns m Y,λi x v y J e3=>?_]
  let#[u,r,l]:=W i x v y J e3;exists u,r
  rcases l with l|⟨k,c,e,z⟩
  ·exact .inl l
  ·exact .inr #[k,c,e,g x c e _ z]
 ·let#[v,z]:=I.cell x c e
  exact#[v,g x c e v z]
 ·let#[m,#[o,_,_,D,_],_]:=I.loc
  exact f _ o (λz=>(j _ z).2.1 Z) D I.free
 ·let#[v,o,D,N]:=I.cell x c e
  exact f c o (λz=>(j c z).2.2.1 x c e Z) D (I.freeC x c e)
 ·let#[e,n,S,Q,d]:=I.pin p T
  have t:p.1∉ch:=λz=>(j p.1 z).2.2.2 p T Z
  exact#[h p.1 p.2 S Q t e n,f p.1 p.2 t e n,S,Q,d]
theorem Fv.un{t':Nat}(I:Fv X tx σ H s)(u:Un X.fs [] H H' s.heap h')(f:GM X.prog X.w H' h'):Fv X tx σ H' {s with heap:=h',toks:=t'}:=by
 let#[m,#[o,es,p,h,r],_]:=id I.loc;let#[t,j]:=u.any h I.free (by simp)
 exact I.step (g':=s.gens) (d':=s.drawn) (ch:=[]) (λ_ z=>nomatch z) (λb o _ c _ e n=>u.keep b o e n c (by simp)) (λb o _ c _ e n=>u.slot b o e n c (by simp)) (λb o _ e n=>u.free b o e n (by simp)) (λb o _ e=>u.there b o e (by simp)) u.tups u.frzs u.tbls (λq l=>by
  let#[o',g,d,a,i]:=l;rw[h]at a;cases a
  exact#[_,g,d,j,i]) f I.bare
theorem Fv.call{g':Array GenState}{t':Nat}{d':Drawn}{ch:Ι}(I:Fv X tx σ H s)(u:Un (bh X.stack) ch H H' s.heap h')(h:GM X.prog X.w H' h')(hg:AllBare g')
  (d:∀b∈ch,(b∈X.ex\/X.s₀.heap.objs.size<=b)/\b≠X.env.locals/\(∀x c,X.env.cells.lookup x=↑c->c≠b)/\∀p∈X.pn++tx,p.1≠b):
  Fv X tx σ H' {s with heap:=h',gens:=g',drawn:=d',toks:=t'}:=by
 let#[m,#[o,es,w,l,r],_]:=id I.loc;let#[A,i]:=u.any l I.free λz=>(d _ z).2.1 Z
 exact I.step (ch:=ch) d (λb o i t a e n=>u.keep b o e n (λz=>(Jl.mp (I.stkSub b z)).elim i t) a) (λb o _ _ a e n=>u.any e n a) (λb o a e n=>u.free b o e n a) (λb o a e=>u.there b o e a) u.tups u.frzs u.tbls (λy v=>by
  let#[o',j,g,f,q]:=v;rw[l]at f;cases f
  exact#[_,j,g,i,q]) h hg
theorem Fv.turned{t':Nat}{it:Δ}(I:Fv X tx σ H s)(k:∀b o,b≠it->s.heap.get? b=↑o->h'.get? b=↑o)(hn:H it=none)(f:it≠X.env.locals)
  (h1:it∈X.ex\/X.s₀.heap.objs.size<=it)(h2:∀x c,X.env.cells.lookup x=↑c->c≠it)(i:∀p∈X.pn++tx,p.1≠it):Fv X tx σ H {s with heap:=h',toks:=t'}:=by
 have d:∀b u,H b=↑u->b≠it:=λb u e z=>by rw[z,hn]at e;cases e
 refine I.step (g':=s.gens) (d':=s.drawn) (ch:=[it]) (λb h=>?_) (λb o _ _ a e _=>k b o (λz=>a (by simp [z])) e) (λb o _ _ a e _=>#[o.slots,k b o (λz=>a (by simp [z])) e]) (λ_ _ _ _ n=>n)
  (λb o a e=>#[o,k b o (λz=>a (by simp [z])) e]) (λ_ _ e=>e) (λ_ _ _ e=>e) (λb ps e=>#[(List.toArray []),by rw[e];simp]) (λm l=>?_) (λb u e=>?_) I.bare
 ·have e:b=it:=by simpa using h
  subst e
  exact#[h1,f,h2,i]
 ·let#[o,es,g,j,r]:=l
  exact#[o,es,g,k _ o (Ne.symm f) j,r]
 ·refine(I.hok b u e).stay (λc v a q=>k c v ?_ q) (λ_ q=>q) λ_ _ q=>q
  rcases a with z|z
  ·rw[z];exact d b u e
  ·exact d c _ z
theorem Fv.tok(I:Fv X tx σ H s)(t:Nat):Fv X tx σ H {s with toks:=t}:=I.un (h':=s.heap) (t':=t) Un.refl I.hok
theorem Fv.kept{t':Nat}(I:Fv X tx σ H s)(k:∀b u,s.heap.get? b=↑u->h'.get? b=↑u):Fv X tx σ H {s with heap:=h',toks:=t'}:=I.un (Un.kept k) (I.hok.kept k)
theorem Fv.laid{a:Δ}{o:HO}{t':Nat}(I:Fv X tx σ H s)(k:∀b u,s.heap.get? b=↑u->h'.get? b=↑u)(hp:s.heap.objs.size<=a)(new:FE X.prog X.w (Ft H a o) h' a o):
  Fv X tx σ (Ft H a o) {s with heap:=h',toks:=t'}:=I.un (Un.laid k hp (I.hok.fresh hp)) (I.hok.laid k hp new)
theorem Fv.write{x e:Δ}{o:HO}{t':Nat}(I:Fv X tx σ H s)(c:rM (H x))(he:e=x\/H e=↑(.own x))(k:∀b u,b≠e->s.heap.get? b=↑u->h'.get? b=↑u)(a:∃u,h'.get? e=↑u)
  (new:FE X.prog X.w (Ft H x o) h' x o):Fv X tx σ (Ft H x o) {s with heap:=h',toks:=t'}:=I.un (Un.write c he k a) (I.hok.write c he k a new)
theorem Fv.pins_of{pins':Fo}(I:Fv X tx σ H s)(h:∀p∈pins',s.heap.get? p.1=↑p.2/\H p.1=none/\p.1≠X.env.locals/\p.1∉X.fs/\∀v,p.2.data≠ .cell v):Fv X pins' σ H s:=
 #[I.ok,I.os,I.bare,I.base,I.loc,I.cell,I.free,I.freeC,λp a=>(JK.mp a).elim (λz=>I.pin p (C0 _ z)) (h p),I.hok,I.len]
theorem mj{N:Α}(hN:N.Nodup){i j:Nat}{x:Str}(a:N[i]? =↑x)(b:N[j]? =↑x):i=j:=by
 let#[h1,c]:=Jp.mp a;let#[e,d]:=Jp.mp b
 exact(List.getElem_inj hN).mp (c.trans d.symm)
theorem ci{M:Model}{A:Around}{E:Fl}{i:Nat}{x:Str}{v:V}{u:Γ}{Q:Unit->Θ->Prop}(I:Fv X tx σ H s)(hN:X.N.Nodup)(hi:X.N[i]? =↑x)(hx:f9 X.env.scope x)(r:Fx v u)
  (h:∀s',Fv X tx (σ.set i ↑v) H s'->(∃a,Ψ.SameBut a s.heap s'.heap/\(a=X.env.locals\/X.env.cells.lookup x=↑a))->Q () s')(hf:X.fn x=true\/X.env.scope.names.lookup x=some .local:=by first|exact .inl Z|exact .inr Z|assumption):ε M A (storeName X.env x u) Q E s:=by
 let#[m,W,hl]:=id I.loc;have J:(X.env.scope.kind== .class||(X.env.scope.kind== .module&&X.env.locals != X.env.globals))=false:=by rw[I.ok.kind];rfl
 have B:i<σ.length:=by rw[I.len];exact(Jp.mp hi).1
 have cne:=I.cne;have f:∀{a:Δ} {h':Ψ},(∃o,s.heap.get? a=↑o/\H a=none)->Ψ.SameBut a s.heap h'->GM X.prog X.w H h':=λ{a h'} ha hs b ob e=>by
  let#[_,_,t]:=ha;refine(I.hok b ob e).stay (λc R l q=>(hs.2 c ?_).trans q) (λ_ q=>q) λ_ _ q=>q
  rintro rfl
  rcases l with rfl|l
  ·rw[t]at e;cases e
  ·rw[t]at l;cases l
 rcases hx with hk|hk
 ·refine wpAny_storeName_local hk W (λh' Y hs=>?_) J
  let#[oL,_,_,a0,_]:=id W;refine h _ #[I.ok,I.os,I.bare,#[λb o e n C hx=>?_,λb o e n C hx=>?_,I.base.free,λb o e hx=>?_,I.base.tups,I.base.frzs,I.base.tbls],#[_,Y,λj y v' g w e3=>?_],λy c e=>?_,I.free,I.freeC,λp hp=>?_,f #[oL,a0,I.free] hs,by simpa using I.len] #[_,hs,.inl Z]
  ·exact(hs.2 b (Js (JQ (Jm e) I.ok.above))).trans (I.base.keep b o e n C hx)
  ·let#[T,g]:=I.base.slot b o e n C hx
   exact#[T,(hs.2 b (Js (JQ (Jm e) I.ok.above))).trans g]
  ·let#[o',g]:=I.base.there b o e hx
   exact#[o',(hs.2 b (Js (JQ (Jm e) I.ok.above))).trans g]
  ·by_cases D:j=i
   ·subst D
    rw[hi]at g;cases g
    rw[EA B]at w;cases w
    exact#[u,r,.inl #[hk,by simp]]
   ·rw[EB (Ne.symm D)]at w
    let#[u',U,q]:=hl j y v' g w e3;exists u',U
    rcases q with⟨k,e⟩|⟨k,c,e,z⟩
    ·refine .inl #[k,?_]
     have:y≠x:=λe=>D (mj hN g (e▸hi))
     simp [this,e]
    ·exact .inr #[k,c,e,z.sameBut hs (cne y c e)]
  ·let#[R,z]:=I.cell y c e
   exact#[R,z.sameBut hs (cne y c e)]
  ·let#[e,n,P,S,d]:=I.pin p hp
   exact#[(hs.2 p.1 P).trans e,n,P,S,d]
 ·have F:X.fn x=true:=by
   rcases hf with z|z
   ·exact z
   ·rw[z]at hk;cases hk
  let#[c,l]:=I.ok.has x (.inl hk)
  let#[R,z]:=I.cell x c l;refine wpAny_storeName_cell I.ok.kind hk l z (λh' G hs=>?_)
  let#[oc,K,L]:=id z;refine h {s with heap:=h'} #[I.ok,I.os,I.bare,#[λb o e n C hx=>?_,λb o e n C hx=>?_,I.base.free,λb o e hx=>?_,I.base.tups,I.base.frzs,I.base.tbls],#[m,W.sameBut hs (Ne.symm (cne x c l)),λj y v' g w e3=>?_],λy O e=>?_,I.free,I.freeC,λp hp=>?_,f #[oc,K,I.freeC x c l] hs,by simpa using I.len] #[c,hs,.inr l]
  ·exact(hs.2 b (Js (JQ (Jm e) (I.ok.cab x c F l)))).trans (I.base.keep b o e n C hx)
  ·let#[T,g]:=I.base.slot b o e n C hx
   exact#[T,(hs.2 b (Js (JQ (Jm e) (I.ok.cab x c F l)))).trans g]
  ·let#[o',g]:=I.base.there b o e hx
   exact#[o',(hs.2 b (Js (JQ (Jm e) (I.ok.cab x c F l)))).trans g]
  ·by_cases D:j=i
   ·subst D
    rw[hi]at g;cases g
    rw[EA B]at w;cases w
    exact#[u,r,.inr #[.inl hk,c,l,G]]
   ·rw[EB (Ne.symm D)]at w
    let#[u',U,q]:=hl j y v' g w e3;exists u',U
    rcases q with q|⟨k,O,e,z'⟩
    ·exact .inl q
    ·refine .inr #[k,O,e,z'.sameBut hs ?_]
     rintro rfl
     exact D (mj hN g (I.ok.inj _ _ _ e l▸hi))
  ·by_cases N:O=c
   ·subst N;exact#[_,G]
   ·let#[w2,z2]:=I.cell y O e
    exact#[w2,z2.sameBut hs N]
  ·let#[e,n,P,S,d]:=I.pin p hp
   refine#[(hs.2 p.1 ?_).trans e,n,P,S,d]
   intro q;rw[q,K]at e;have q':oc=p.2:=Jt e
   exact d R (by rw[<- q'];exact L)
theorem ku{M:Model}{A:Around}{E:Fl}{i:Nat}{x:Str}{v:V}{u:Γ}{Q:Unit->Θ->Prop}(I:Fv X tx σ H s)(hN:X.N.Nodup)(hi:X.N[i]? =↑x)(hx:f9 X.env.scope x)(r:Fx v u)
  (h:∀s',Fv X tx (σ.set i ↑v) H s'->Q () s')(hf:X.fn x=true\/X.env.scope.names.lookup x=some .local:=by first|exact .inl Z|exact .inr Z|assumption):ε M A (storeName X.env x u) Q E s:=
 ci I hN hi hx r (λs' a _=>h s' a) hf
theorem Fv.call'{s':Θ}{ch:Ι}(I:Fv X tx σ H s)(ho:s'.os=s.os)(u:Un (bh X.stack) ch H H' s.heap s'.heap)(a:GM X.prog X.w H' s'.heap)(hg:AllBare s'.gens)
  (d:∀b∈ch,(b∈X.ex\/X.s₀.heap.objs.size<=b)/\b≠X.env.locals/\(∀x c,X.env.cells.lookup x=↑c->c≠b)/\∀p∈X.pn++tx,p.1≠b):Fv X tx σ H' s':=by
 let#[h',g',d',t',o']:=s';have e:o'=s.os:=ho
 subst e;exact I.call (g':=g') (t':=t') (d':=d') u a hg d
end
abbrev XK:=Γ->Υ->Hp->Prop
abbrev St:=List Μ
abbrev VK:=V->Hp->Prop
abbrev TE:=St->Hp->VK->Prop
abbrev TT:=St->Hp->(Bool->Hp->Prop)->Prop
abbrev TA:=St->Hp->(Β->Hp->Prop)->Prop
structure Gj where
 nx:St->Hp->Prop
 rt:VK
 bk:St->Hp->Prop:=λ_ _=>False
 ct:St->Hp->Prop:=λ_ _=>False
abbrev TS:=Gj->St->Hp->Prop
def EP(X:Cx)(tx:Fo)(σ:St)(Q:VK)(u:Γ)(s':Θ):Prop:=∃v H',Fv X tx σ H' s'/\Fx v u/\Q v H'
def TP(X:Cx)(tx:Fo)(σ:St)(Q:Bool->Hp->Prop)(b:Bool)(s':Θ):Prop:=∃H',Fv X tx σ H' s'/\Q b H'
def AP(X:Cx)(tx:Fo)(σ:St)(Q:Β->Hp->Prop)(us:Η)(s':Θ):Prop:=∃a H',Fv X tx σ H' s'/\Fy a us/\Q a H'
def SP(X:Cx)(tx:Fo)(D:Gj)(f:Flow)(s':Θ):Prop:=
 match f with
 | .next=>∃a H',Fv X tx a H' s'/\D.nx a H'
 | .brk=>∃a H',Fv X tx a H' s'/\D.bk a H'
 | .cont=>∃a H',Fv X tx a H' s'/\D.ct a H'
 | .ret u=>∃v a H',Fv X tx a H' s'/\Fx v u/\D.rt v H'
def PE(X:Cx)(e:Φ)(t:TE):Prop:=
 ∀(tx:Fo) (s:Θ) (σ:St) (H:Hp) (Q:VK),Fv X tx σ H s->t σ H Q->ε (model X.prog X.w) X.A (eval e X.env) (EP X tx σ Q) X.xe s
def PT(X:Cx)(e:Φ)(t:TT):Prop:=
 ∀(tx:Fo) (s:Θ) (σ:St) (H:Hp) (Q:Bool->Hp->Prop),Fv X tx σ H s->t σ H Q->ε (model X.prog X.w) X.A (isTrue e X.env (eval e X.env)) (TP X tx σ Q) X.xe s
def PW(X:Cx)(e:Φ)(t:TT):Prop:=
 ∀(a:Sem Γ) (tx:Fo) (s:Θ) (σ:St) (H:Hp) (Q:Bool->Hp->Prop),Fv X tx σ H s->t σ H Q->ε (model X.prog X.w) X.A (isTrue e X.env a) (TP X tx σ Q) X.xe s
theorem PW.pt{X:Cx}{e:Φ}{t:TT}(h:PW X e t):PT X e t:=h _
def PA(X:Cx)(es:Κ)(t:TA):Prop:=
 ∀(pos:Pos) (tx:Fo) (s:Θ) (σ:St) (H:Hp) (Q:Β->Hp->Prop),Fv X tx σ H s->t σ H Q->ε (model X.prog X.w) X.A (spliced (backTo pos (θ es X.env))) (AP X tx σ Q) X.xe s
def PS(X:Cx)(st:δ)(t:TS):Prop:=
 ∀(tx:Fo) (s:Θ) (σ:St) (H:Hp) (D:Gj),Fv X tx σ H s->t D σ H->ε (model X.prog X.w) X.A (exec st X.env) (SP X tx D) X.xe s
def HX(X:Cx)(st:List δ)(t:TS):Prop:=
 ∀(tx:Fo) (s:Θ) (σ:St) (H:Hp) (D:Gj),Fv X tx σ H s->t D σ H->ε (model X.prog X.w) X.A (execs st X.env) (SP X tx D) X.xe s
theorem qD{c:Type}{t:Sem c}{Q d:c->Θ->Prop}{M:Model}{A:Around}{E:Fl}{s:Θ}(h:ε M A t Q E s)(e:∀a s,Q a s->d a s):ε M A t d E s:=JT h e λ_ _ x=>x
section
variable{X:Cx}
inductive LV (i:Nat) (σ:L2.St) (H:Hp) (Q:VK):Prop
 |mk (v:_) (h1:σ[i]? =↑(↑v)) (h2:Q v H)
def Ab(i:Nat):TE:=λσ H Q=>LV i σ H Q
def tC(v:V):TE:=λ_ H Q=>Q v H
theorem Bb{i:Nat}{x:Str}{pos:Pos}(hN:X.N[i]? =↑x)(hv:BN X.env.scope x)(hd:(x==("__debug__":Str))=false:=by decide)(f:(x==("__classdict__":Str))=false:=by decide):PE X (.Name x pos) (Ab i):=by
 intro tx s σ H Q I h;let#[v,e,h]:=h;let#[m,j,o]:=I.loc;let#[u,r,l]:=o i x v hN e hv;have d:EP X tx σ Q u s:=#[v,H,I,r,h]
 rcases l with⟨hk,n⟩|⟨hk,c,g,a⟩
 ·exact wpAny_Name (wpAny_loadName_local I.ok.kind hk j n d) hd
 ·rcases hk with hk|hk
  ·exact wpAny_Name (wpAny_loadName_cell I.ok.kind hk g a d) hd
  ·exact wpAny_Name (wpAny_loadName_free I.ok.kind hk g a d f) hd
theorem AL{i j pos}:PE X (.Constant (.int i) j pos) (tC (.int i)):=λ_ _ _ H _ I h=>wpAny_Constant_int #[.int i,H,I.tok _,#[0],h]
theorem B6{b j pos}:PE X (.Constant (.bool b) j pos) (tC (.bl b)):=λ_ _ _ H _ I h=>Constant_bool #[.bl b,H,I,Z,h]
theorem AK{j pos}:PE X (.Constant .none j pos) (tC .non):=λ_ _ _ H _ I h=>Constant_none #[.non,H,I,Z,h]
theorem BG{x j pos}:PE X (.Constant (.str x) j pos) (tC (.str x)):=λ_ _ _ H _ I h=>Calls.Constant_str #[.str x,H,I.tok _,#[0],h]
def Gl(X:Cx)(x:Str):Prop:=X.env.kindOf x=some .globalImplicit
theorem iq{E:Fl}{tx:Fo}{s:Θ}{σ:St}{H:Hp}{x:Str}{u:Γ}{pos:Pos}{Q:Fl}(I:Fv X tx σ H s)(hg:Gl X x)(hm:X.mg x=↑u)(h:Q u s)
  (hd:(x==("__debug__":Str))=false:=by decide):ε (model X.prog X.w) X.A (eval (.Name x pos) X.env) Q E s:=
 Calls.Name_function_global I.ok.kind hg (Calls.loadGlobal_global (by rw[I.ok.glob];exact I.mod.glob.keeps I.bk) hm h) hd
theorem Zl{E:Fl}{tx:Fo}{s:Θ}{σ:St}{H:Hp}{x:Str}{u:Γ}{pos:Pos}{Q:Fl}(I:Fv X tx σ H s)(hg:Gl X x)(hm:X.mg x=none)(hv:bootBuiltins x=↑u)(h:Q u s)
  (hn:x≠"__name__":=by decide)(hd:(x==("__debug__":Str))=false:=by decide):ε (model X.prog X.w) X.A (eval (.Name x pos) X.env) Q E s:=by
 let#[c,h1,a]:=I.mod.blt;exact Calls.Name_function_global I.ok.kind hg (Calls.loadGlobal_builtin (by rw[I.ok.glob];exact I.mod.glob.keeps I.bk) hm (by rw[I.ok.blt];exact h1.keeps I.bk) ((a x hn).trans hv) h) hd
theorem yy{x:Str}{v:V}{u:Γ}{pos:Pos}(hg:Gl X x)(hm:X.mg x=↑u)(r:Fx v u)(hd:(x==("__debug__":Str))=false:=by decide):PE X (.Name x pos) (tC v):=
 λ_ _ _ H _ I h=>iq I hg hm #[v,H,I,r,h] hd
theorem yu{x:Str}{v:V}{u:Γ}{pos:Pos}(hg:Gl X x)(hm:X.mg x=none)(hv:bootBuiltins x=↑u)(r:Fx v u)(hn:x≠"__name__":=by decide)(hd:(x==("__debug__":Str))=false:=by decide):PE X (.Name x pos) (tC v):=
 λ_ _ _ H _ I h=>Zl I hg hm hv #[v,H,I,r,h] hn hd
variable{a b:Φ}{ta tb:TE}{pos:Pos}
def PC(X:Cx)(op:CmpOp)(a b:Φ)(t:TE):Prop:=
 ∀(tx:Fo) (s:Θ) (σ:St) (H:Hp) (Q:VK),Fv X tx σ H s->t σ H Q->
  ε (model X.prog X.w) X.A (eval a X.env) (λv c=>ε (model X.prog X.w) X.A (eval b X.env) (λu d=>ε (model X.prog X.w) X.A (compareOp op v u) (EP X tx σ Q) X.xe d) X.xe c) X.xe s
def tB(t:TE):TT:=λσ H Q=>t σ H λx H1=>∃c,x= .bl c/\Q c H1
theorem tK{op:CmpOp}{t:TE}(h:PC X op a b t)(h1:behindInMarks op b=false:=by first|exact nobehind _ ⋯ ⋯|rfl):PT X (.Compare a [op] [b] pos) (tB t):=by
 intro tx s σ H Q I f;refine wpAny_isTrue_Compare1 (qD (h tx s σ H _ I f) λv m h1=>qD h1 λu n i=>qD i λc o e=>?_) h1
 let#[x,H1,l,g,j]:=e;let#[d,rfl,q]:=j;cases g;exact CO #[H1,l,q]
theorem Ay{e:Φ}{t:TE}(h:PE X e t)(he:∀a,isTrue e X.env a=(do let v <- a;standAt e.pos;holding [v] (truthy v)):=by intro _;rfl):PT X e (tB t):=by
 intro tx s σ H Q I f;refine isTrue_plain (qD (h tx s σ H _ I f) λv l c=>?_) (he _)
 let#[x,H1,j,g,i]:=c;let#[d,rfl,q]:=i;cases g;exact CO #[H1,j,q]
variable{tA tB':TT}{rest:Κ}
def AB(t u:TT):TT:=λσ H Q=>t σ H λc H1=>if c=true then u σ H1 Q else Q false H1
def Ch(t u:TT):TT:=λσ H Q=>t σ H λc H1=>if c=true then Q true H1 else u σ H1 Q
def Am(t:TT):TT:=λσ H Q=>t σ H λc H1=>Q (! c) H1
theorem yt(ha:PT X a tA):PW X (.BoolOp .And [a] pos) tA:=by
 intro d tx s σ H Q I h;refine isTrue_and (qD (ha tx s σ H Q I h) λc f e=>?_)
 cases c with
 |true=>exact isTrue_and_nil e
 |false=>exact e
theorem Bf(ha:PT X a tA):PW X (.BoolOp .Or [a] pos) tA:=by
 intro d tx s σ H Q I h;refine isTrue_or (qD (ha tx s σ H Q I h) λc f e=>?_)
 cases c with
 |false=>exact isTrue_or_nil e
 |true=>exact e
theorem Bq(ha:PT X a tA)(hb:PW X (.BoolOp .And (b::rest) pos) tB'):PW X (.BoolOp .And (a::b::rest) pos) (AB tA tB'):=by
 intro i tx s σ H Q I h;refine isTrue_and (qD (ha tx s σ H _ I h) λc g f=>?_)
 let#[H1,e,d]:=f;cases c with
 |true=>exact hb i tx g σ H1 Q e d
 |false=>exact#[H1,e,d]
theorem B1(ha:PT X a tA)(hb:PW X (.BoolOp .Or (b::rest) pos) tB'):PW X (.BoolOp .Or (a::b::rest) pos) (Ch tA tB'):=by
 intro i tx s σ H Q I h;refine isTrue_or (qD (ha tx s σ H _ I h) λc g f=>?_)
 let#[H1,e,d]:=f;cases c with
 |true=>exact#[H1,e,d]
 |false=>exact hb i tx g σ H1 Q e d
theorem Ar(ha:PT X a tA):PT X (.UnaryOp .Not a pos) (Am tA):=by
 intro tx s σ H Q I h;exact isTrue_not (ha tx s σ H (λc H1=>Q (! c) H1) I h)
def oH(ta tb:TE):TE:=λσ H Q=>ta σ H λx H1=>∃c,x= .bl c/\if c=true then tb σ H1 Q else Q (.bl false) H1
def vQ(ta:TE):TE:=λσ H Q=>ta σ H λx H1=>∃c,x= .bl c/\Q (.bl (! c)) H1
theorem AM{op}{t:TE}(h:PE X a t):PE X (.BoolOp op [a] pos) t:=λtx s σ H Q I c=>BoolOp_one (h tx s σ H Q I c)
theorem yV(ha:PE X a ta)(hb:PE X (.BoolOp .And (b::rest) pos) tb):PE X (.BoolOp .And (a::b::rest) pos) (oH ta tb):=by
 intro tx s σ H Q I h;refine BoolOp_and (qD (ha tx s σ H _ I h) λv i f=>?_)
 let#[x,H1,e,g,d]:=f;let#[c,rfl,d]:=d;cases g;refine CO ?_
 cases c with
 |true=>exact hb tx i σ H1 Q e d
 |false=>exact#[.bl false,H1,e,Z,d]
theorem Bz(ha:PE X a ta):PE X (.UnaryOp .Not a pos) (vQ ta):=by
 intro tx s σ H Q I h;refine UnaryOp_ (qD (ha tx s σ H _ I h) λv i e=>?_)
 let#[x,H1,g,f,d]:=e;let#[c,rfl,d]:=d;cases f;exact not_of (CO #[.bl (! c),H1,g,Z,d])
def pT(t:TT)(ta tb:TE):TE:=λσ H Q=>t σ H λc H1=>if c=true then ta σ H1 Q else tb σ H1 Q
theorem vj{c:Φ}(hc:PT X c tA)(ha:PE X a ta)(hb:PE X b tb):PE X (.IfExp c a b pos) (pT tA ta tb):=by
 intro tx s σ H Q I h;refine wpAny_IfExp (qD (hc tx s σ H _ I h) λd f i=>?_)
 let#[H1,e,g]:=i;cases d with
 |true=>exact ha tx f σ H1 Q e g
 |false=>exact hb tx f σ H1 Q e g
end
def Fw(K:ι)(H:Hp)(a:Δ)(xs:Β):Prop:=
 Rd H a (.lst xs)\/
  ∃(o:Obj) (c:Array Γ) (n:Nat),K.lookup a=↑o/\o.cls= .type "list"/\o.dict=none/\o.data= .seq c n/\c.size<=ζ/\Fy xs c.toList
def FC(K:ι)(H:Hp)(a:Δ)(xs:Β):Prop:=
 Rd H a (.tup xs)\/
  ∃(o:Obj) (c:Array Γ) (n:Nat),K.lookup a=↑o/\o.cls= .type "tuple"/\o.data= .seq c n/\c.size<=ζ/\Fy xs c.toList
def Cs:Γ->Μ
 | .none=>some .non
 | .bool b=>↑(.bl b)
 | .int i _=>↑(.int i)
 | .str x _=>↑(.str x)
 | .bytes b _=>↑(.byt b)
 | .float b _=>↑(.flt b)
 | .ref a=>↑(.ref a)
 | .type n=>↑(.ty n)
 |_=>none
theorem Fx.abs{x:V}{u:Γ}(r:Fx x u):Cs u=↑x:=by
 cases x with
 |non=>cases r;rfl
 |bl _=>cases r;rfl
 |int _=>let#[t,rfl]:=r;rfl
 |str _=>let#[t,rfl]:=r;rfl
 |byt _=>let#[t,rfl]:=r;rfl
 |flt _=>let#[t,rfl]:=r;rfl
 |ref _=>cases r;rfl
 |ty _=>cases r;rfl
theorem Fx.inj{x y:V}{u:Γ}(r:Fx x u)(q:Fx y u):x=y:=Jt (r.abs.symm.trans q.abs)
theorem Fy.inj:∀{xs ys:Β} {us:Η},Fy xs us->Fy ys us->xs=ys
 :=by
 intro xs ys us h
 induction h generalizing ys with
 |nil=>intro g;cases g;rfl
 |cons r t ih=>intro g;cases g with
  |cons r' t'=>rw[r.inj r',ih t']
section
variable{X:Cx}{tx:Fo}{σ:St}{H:Hp}{s:Θ}{a:Δ}{xs ys:Β}
theorem Fw.of{K:ι}(h:H a=↑(.lst xs)):Fw K H a xs:= .inl (.inl h)
theorem FC.of{K:ι}(h:H a=↑(.tup xs)):FC K H a xs:= .inl (.inl h)
theorem Fv.list(I:Fv X tx σ H s)(h:Fw X.K H a xs):∃c:Η,Fy xs c/\PlainL s.heap a c.toArray/\xs.length<=ζ:=by
 rcases h with h|⟨o,c,n,hk,f,d,hs,g,r⟩
 ·let#[z,c,n,r,e]:=h.ok I.hok
  exact#[c,r,#[_,n,e,39],z]
 ·exists c.toList,r,#[o,n,I.kIn a o hk,f,d,by simpa using hs]
  have e:=r.length;simp only[Ed]at e;lia
theorem Fv.tuple(I:Fv X tx σ H s)(h:FC X.K H a xs):∃c:Η,Fy xs c/\IsTup s.heap a c.toArray/\xs.length<=ζ:=by
 rcases h with h|⟨o,c,n,hk,d,hs,f,r⟩
 ·let#[z,c,r,p]:=h.ok I.hok
  exact#[c,r,p,z]
 ·exists c.toList,r,#[o,I.kIn a o hk,d,n,by simpa using hs]
  have e:=r.length;simp only[Ed]at e;lia
theorem Fv.list_inj(I:Fv X tx σ H s)(h:Fw X.K H a xs)(h':Fw X.K H a ys):xs=ys:=by
 let#[f,r,#[o,n,e,_,_,d],_]:=I.list h;let#[c,j,#[o',n',g,_,_,i],_]:=I.list h';rw[e]at g;cases g
 rw[d]at i;injection i with d1 _
 have:f=c:=by simpa using JH Array.toList d1
 subst this;exact r.inj j
theorem Fv.tuple_inj(I:Fv X tx σ H s)(h:FC X.K H a xs)(h':FC X.K H a ys):xs=ys:=by
 let#[f,r,#[o,e,_,n,d],_]:=I.tuple h;let#[c,j,#[o',g,_,n',i],_]:=I.tuple h';rw[e]at g;cases g
 rw[d]at i;injection i with d1 _
 have:f=c:=by simpa using JH Array.toList d1
 subst this;exact r.inj j
end
abbrev Cx.wish(X:Cx)(E:Fl):Cx:={X with xe:=E}
abbrev Cx.nox(X:Cx):Cx:=X.wish λ_ _=>False
theorem Cx.Ok.wish{X:Cx}(ok:X.Ok)(E:Fl):(X.wish E).Ok:=
 #[ok.mod,ok.kind,ok.glob,ok.blt,ok.above,ok.inj,ok.has,ok.cab,ok.hd,ok.frames,ok.stk,ok.exf,ok.bs,ok.bsz,ok.noex,ok.exfs,ok.funs,ok.frf]
theorem Cx.Ok.unwish{X:Cx}{E:Fl}(ok:(X.wish E).Ok):X.Ok:=
 #[ok.mod,ok.kind,ok.glob,ok.blt,ok.above,ok.inj,ok.has,ok.cab,ok.hd,ok.frames,ok.stk,ok.exf,ok.bs,ok.bsz,ok.noex,ok.exfs,ok.funs,ok.frf]
section
variable{X:Cx}{tx:Fo}{σ:St}{H:Hp}{s:Θ}{E:Fl}
theorem Fv.wish(I:Fv X tx σ H s)(E:Fl):Fv (X.wish E) tx σ H s:=#[I.ok.wish E,I.os,I.bare,I.base,I.loc,I.cell,I.free,I.freeC,I.pin,I.hok,I.len]
theorem Fv.unwish(I:Fv (X.wish E) tx σ H s):Fv X tx σ H s:=#[I.ok.unwish,I.os,I.bare,I.base,I.loc,I.cell,I.free,I.freeC,I.pin,I.hok,I.len]
theorem SP.unwish{D:Gj}{f:Flow}{s':Θ}(h:SP (X.wish E) tx D f s'):SP X tx D f s':=by
 cases f with
 |next=>let#[a,H',I,q]:=h;exact#[a,H',I.unwish,q]
 |brk=>let#[a,H',I,q]:=h;exact#[a,H',I.unwish,q]
 |cont=>let#[a,H',I,q]:=h;exact#[a,H',I.unwish,q]
 |ret u=>let#[v,a,H',I,r,q]:=h;exact#[v,a,H',I.unwish,r,q]
theorem HX.nox{st:List δ}{t:TS}(h:HX X.nox st t):HX X st t:=λtx s σ H D I a=>
 JT (h tx s σ H D (I.wish _) a) (λ_ _ q=>q.unwish) λ_ _ z=>False.elim z
end
section
variable{X:Cx}{st:δ}{rest:List δ}{t u:TS}{e:Φ}{te:TE}{pos:Pos}
def oT:TS:=λD σ H=>D.nx σ H
def bL(t u:TS):TS:=λD σ H=>t {D with nx:=u D} σ H
theorem xq:HX X [] oT:=λ_ _ σ H _ I h=>Ee #[σ,H,I,h]
theorem uZ(h1:PS X st t)(h2:HX X rest u):HX X (st::rest) (bL t u):=by
 intro tx s σ H D I h;refine wpAny_execs_cons (qD (h1 tx s σ H {D with nx:=u D} I h) λf c q=>?_)
 cases f with
 |next=>
  let#[a,H',d,q]:=q;exact h2 tx c a H' D d q
 |ret v=>exact q
 |brk=>exact q
 |cont=>exact q
theorem wW(h1:PS X st t):HX X [st] t:=by
 intro tx s σ H D I h;refine wpAny_execs_cons (qD (h1 tx s σ H D I h) λf a q=>?_)
 cases f with
 |next=>exact Ee q
 |ret v=>exact q
 |brk=>exact q
 |cont=>exact q
theorem Fv.quiet{tx:Fo}{σ:St}{H:Hp}{s:Θ}(I:Fv X tx σ H s):interactive X.env=false:=by simp [interactive,I.ok.kind]
def vW(te:TE):TS:=λD σ H=>te σ H λ_ H1=>D.nx σ H1
theorem yQ(he:PE X e te)(hs:swapsWith e none pos.line X.env=pure false:=by rfl):PS X (.Expr e pos) (vW te):=by
 intro tx s σ H D I h;exact wpAny_Expr_any (qD (he tx s σ H _ I h) λv f ⟨x,H1,a,d,c⟩=>#[σ,H1,a,c]) I.quiet hs
def Ao(te:TE):TS:=λD σ H=>te σ H D.rt
theorem Bg(he:PE X e te):PS X (.Return ↑e pos) (Ao te):=by
 intro tx s σ H D I h;exact wpAny_Return_some (qD (he tx s σ H _ I h) λv f ⟨x,H1,c,a,d⟩=>#[x,σ,H1,c,a,d])
def j2(c:TT)(t u:TS):TS:=λD σ H=>c σ H λb H1=>if b=true then t D σ H1 else u D σ H1
theorem BQ{c:Φ}{a b:List δ}{tc:TT}(hc:PT X c tc)(ha:HX X a t)(hb:HX X b u):PS X (.If c a b pos) (j2 tc t u):=by
 intro tx s σ H D I h;refine wpAny_If (qD (hc tx s σ H _ I h) λd f i=>?_)
 let#[H1,g,e]:=i;cases d with
 |true=>exact ha tx f σ H1 D g e
 |false=>exact hb tx f σ H1 D g e
def tR:TS:=λ_ _ _=>False
theorem rH{a:List δ}:HX X a tR:=λ_ _ _ _ _ _ h=>h.elim
end
abbrev TG:=V->St->Hp->(St->Hp->Prop)->Prop
abbrev ZO:=Β->St->Hp->(St->Hp->Prop)->Prop
def PG(X:Cx)(a:Φ)(t:TG):Prop:=
 ∀(tx:Fo) (s:Θ) (σ:St) (H:Hp) (v:V) (u:Γ) (Q:St->Hp->Prop),Fv X tx σ H s->Fx v u->t v σ H Q->
  ε (model X.prog X.w) X.A (assign a X.env u) (λ_ s'=>∃c H',Fv X tx c H' s'/\Q c H') X.xe s
def nu(X:Cx)(e:Κ)(t:ZO):Prop:=
 ∀(tx:Fo) (s:Θ) (σ:St) (H:Hp) (d:Β) (c:Η) (Q:St->Hp->Prop),Fv X tx σ H s->Fy d c->t d σ H Q->
  ε (model X.prog X.w) X.A (assignInOrder ((assignEach e X.env).map (·.2)) c) (λ_ s'=>∃a H',Fv X tx a H' s'/\Q a H') X.xe s
abbrev fi:=V->V->V->Hp->(Hp->Prop)->Prop
def lh(X:Cx)(t:fi):Prop:=
 ∀(tx:Fo) (s:Θ) (σ:St) (H:Hp) (o i v:V) (c a u:Γ) (Q:Hp->Prop),Fv X tx σ H s->Fx o c->Fx i a->Fx v u->t o i v H Q->
  ε (model X.prog X.w) X.A (setItem c a u) (λ_ s'=>∃H',Fv X tx σ H' s'/\Q H') X.xe s
abbrev sX:=V->V->Hp->VK->Prop
def Bs(X:Cx)(op:Operator)(t:sX):Prop:=
 ∀(tx:Fo) (s:Θ) (σ:St) (H:Hp) (x y:V) (v u:Γ) (Q:VK),Fv X tx σ H s->Fx x v->Fx y u->t x y H Q->
  ε (model X.prog X.w) X.A (inplaceOp op v u) (EP X tx σ Q) X.xe s
section
variable{X:Cx}{pos:Pos}
def Qz(i:Nat):TG:=λv σ H Q=>Q (σ.set i ↑v) H
theorem yf{i:Nat}{x:Str}(hN:X.N.Nodup)(hi:X.N[i]? =↑x)(hx:f9 X.env.scope x)(hf:X.fn x=true\/X.env.scope.names.lookup x=some .local:=by first|exact .inl Z|exact .inr Z|assumption):PG X (.Name x pos) (Qz i):=by
 intro tx s σ H v u Q I r h;exact wpAny_assign_Name (ku I hN hi hx r (λs' a=>#[_,H,a,h]) hf)
def px:ZO:=λa σ H Q=>a=[]/\Q σ H
inductive LG (t:TG) (u:ZO) (vs:Β) (σ:L2.St) (H:Hp) (Q:L2.St->Hp->Prop):Prop
 |mk (v:_) (r:_) (h1:vs=v::r) (h2:t v σ H λσ' H'=>u r σ' H' Q)
def c7(t:TG)(u:ZO):ZO:=λa σ H Q=>LG t u a σ H Q
theorem xu:nu X [] px:=by
 intro tx s σ H c a Q I r h;let#[e,h]:=h;subst e;cases r;exact assignInOrder_nil #[σ,H,I,h]
theorem vq{e:Φ}{es:Κ}{t:TG}{u:ZO}(h1:PG X e t)(h2:nu X es u)
  (hs:(assignEach (e::es) X.env).map (·.2)=assign e X.env::(assignEach es X.env).map (·.2):=by rfl):nu X (e::es) (c7 t u):=by
 intro tx s σ H m l Q I r h;let#[v,j,d,h]:=h;subst d;cases r with
 |cons r rr=>
  rw[hs];refine assignInOrder_cons (qD (h1 tx s σ H _ _ _ I r h) λ_ f c=>?_)
  let#[a,H1,i,g]:=c;exact h2 tx f a H1 _ _ Q i rr g
inductive LW (K:ι) (n:Nat) (t:ZO) (v:V) (σ:L2.St) (H:Hp) (Q:L2.St->Hp->Prop):Prop
 |mk (a:_) (xs:_) (h1:v= .ref a) (h2:FC K H a xs) (h3:xs.length=n) (h4:t xs σ H Q)
def lQ(K:ι)(n:Nat)(t:ZO):TG:=λv σ H Q=>LW K n t v σ H Q
theorem kZ{es:Κ}{k:Nat}{t:ZO}{n:Nat}(hc:X.calm=true)(h:nu X es t)
  (hn:(assignEach es X.env).length=n:=by rfl)(hst:(assignEach es X.env).findIdx? (·.1)=none:=by rfl):PG X (.Tuple es k pos) (lQ X.K n t):=by
 intro tx s σ H v u Q I r c;let#[a,xs,g,i,l,c]:=c;subst g;cases r;let#[f,d,p,q]:=I.tuple i;refine assign_Tuple_tuple (I.ok.hd hc) p (by simp [hn,<- l,d.length]) hst λh' j=>?_
 have m:Fv X tx σ H {s with heap:=h'}:=I.kept (t':=s.toks) λb o e=>j b o (Js (Jm e)) e
 exact h tx _ σ H xs _ Q m (by simpa using d) c
def An(to a:TE)(t:fi):TG:=λv σ H Q=>to σ H λo H1=>a σ H1 λi d=>t o i v d λc=>Q σ c
theorem Bo{o i:Φ}{to e:TE}{t:fi}(ho:PE X o to)(hi:PE X i e)(hs:lh X t)
  (ha:∀v,assign (.Subscript o i pos) X.env v=(do
   let a <- holding [v] (eval o X.env)
   let d <- holding [v,a] (eval i X.env)
   standAt pos
   holding [v,a,d] (setItem a d v)
   release [v,a,d] []):=by intro _;rfl):PG X (.Subscript o i pos) (An to e t):=by
 intro tx s σ H v u Q I r h;rw[ha];refine Ja (JX (qD (ho tx s σ H _ I h) λa g c=>?_))
 let#[x,H1,B,j,q]:=c;refine Ja (JX (qD (hi tx g σ H1 _ B q) λd p c=>?_))
 let#[y,w,m,z,l]:=c;refine Ja (DI (Ja (JX (qD (hs tx p σ w x y v a d u _ m j z r l) λ_ C c=>?_))))
 let#[n,f,A]:=c;exact wpAny_release #[σ,n,f,A]
def bD(te:TE)(g:TG):TS:=λD σ H=>te σ H λx H1=>g x σ H1 D.nx
theorem BK{tg e:Φ}{te:TE}{g:TG}(he:PE X e te)(hg:PG X tg g)(hs:swapsWithSole [tg] e pos.line X.env=pure false:=by rfl)(hw:swappedStores [tg] e X.env=pure none:=by rfl)
  (h1:(assignEach [tg] X.env).map (·.2)=[assign tg X.env]:=by rfl):PS X (.Assign [tg] e pos) (bD te g):=by
 intro tx s σ H D I h;refine wpAny_Assign_stores (qD (he tx s σ H _ I h) λv d a=>?_) hs hw
 let#[x,H1,i,c,f]:=a;rw[h1];exact qD (hg tx d σ H1 x v _ i c f) λ_ j q=>q
theorem yZ{i:Nat}{x:Str}{e:Φ}{te:TE}{pos':Pos}(hN:X.N.Nodup)(hi:X.N[i]? =↑x)(hx:f9 X.env.scope x)(he:PE X e te)(hs:swapsWith e ↑(.Name x pos') pos.line X.env=pure false:=by rfl)(hf:X.fn x=true\/X.env.scope.names.lookup x=some .local:=by first|exact .inl Z|exact .inr Z|assumption):
  PS X (.Assign [.Name x pos'] e pos) (bD te (Qz i)):=by
 intro tx s σ H D I h;refine wpAny_Assign_Name (qD (he tx s σ H _ I h) λv j a=>?_) hs
 let#[y,H1,g,c,f]:=a;exact ku g hN hi hx c (λl d=>#[_,H1,d,f]) hf
def vT(to e te:TE)(c:V->V->Hp->VK->Prop)(d:sX)(a:fi):TS:=λD σ H=>to σ H λo H1=>e σ H1 λi h=>c o i h λx f=>te σ f λy g=>d x y g λz l=>a o i z l λj=>D.nx σ j
def uC(X:Cx)(t:V->V->Hp->VK->Prop):Prop:=
 ∀(tx:Fo) (s:Θ) (σ:St) (H:Hp) (o i:V) (c a:Γ) (Q:VK),Fv X tx σ H s->Fx o c->Fx i a->t o i H Q->
  ε (model X.prog X.w) X.A (getItem c a) (EP X tx σ Q) X.xe s
theorem yO{o i e:Φ}{to p te:TE}{d:V->V->Hp->VK->Prop}{j:sX}{c:fi}{op:Operator}{l:Pos}(ho:PE X o to)(hi:PE X i p)(hg:uC X d)(he:PE X e te)(hp:Bs X op j)(hs:lh X c)
  (ha:∀g f new,augStore i g f new=(do holding [new,g,f] (setItem g f new);release [new,g,f] [];pure .next):=by intros;rfl):PS X (.AugAssign (.Subscript o i l) op e pos) (vT to p te d j c):=by
 intro tx s σ H D I h;refine wpAny_AugAssign_SubscriptAny (qD (ho tx s σ H _ I h) λg T a=>?_) ha
 let#[n,H1,A,r,q1]:=a;refine qD (hi tx T σ H1 _ A q1) λf C a=>?_
 let#[q,x,B,t,W]:=a;refine qD (hg tx C σ x n q g f _ B r t W) λm J a=>?_
 let#[K,Y,L,E,z]:=a;refine qD (he tx J σ Y _ L z) λv P a=>?_
 let#[N,F,S,r4,u]:=a;refine qD (hp tx P σ F K N m v _ S E r4 u) λnew Q a=>?_
 let#[G,R,O,r5,w]:=a;exact qD (hs tx Q σ R n q G g f new _ O r t r5 w) λ_ s6 ⟨y,U,M⟩=>#[σ,y,U,M]
def CK(f:Int->Int->Int):sX:=λx y H Q=>∃i j,x= .int i/\y= .int j/\Q (.int (f i j)) H
theorem Aq:Bs X .Add (CK λi j=>i+j):=by
 intro tx s σ H x y v u Q I c d h;let#[i,j,a,e,q]:=h;subst a;subst e
 let#[t,rfl]:=c;let#[f,rfl]:=d;exact iadd_int #[.int _,H,I.tok _,#[0],q]
inductive Lv (c:TT) (tb:TS) (D:Gj) (σ:L2.St) (H:Hp):Prop
 |mk (W:Nat->St->Hp->Prop) (h1:(∃m,W m σ H)) (h2:∀m σ H,W m σ H->c σ H λb H1=>if b=true then∃N:St->Hp->Prop,(∀σ' H',N σ' H'->∃m',m'<m/\W m' σ' H')/\tb {D with nx:=N,ct:=N,bk:=D.nx} σ H1 else D.nx σ H1)
def mh(c:TT)(tb:TS):TS:=λD σ H=>Lv c tb D σ H
theorem vF{c:Φ}{e:List δ}{tc:TT}{tb:TS}(hp:PassesOwn (model X.prog X.w) X.A X.env X.xe)(hc:PT X c tc)(hb:HX X e tb):PS X (.While c e [] pos) (mh tc tb):=by
 intro tx s σ H D I h;let#[W,#[F,z],g]:=h;refine wpAny_While (codeAny_whileLoop (λn s'=>∃i H',Fv X tx i H' s'/\W n i H') ?_ F #[σ,H,I,z])
 rintro n E ⟨d,H1,A,y⟩
 refine Du hp (qD (hc tx E d H1 _ A (g n d H1 y)) λb C B=>?_)
 let#[w,x,m]:=B;cases b with
 |true=>
  let#[N,u,m]:=m;rw[Jb Z];refine Du hp (qD (hb tx C d w _ x m) λf G l=>?_)
  cases f with
  |next=>
   let#[a,j,p,r]:=l;let#[t,o,q]:=u a j r
   exact#[t,o,a,j,p,q]
  |cont=>
   let#[a,j,p,r]:=l;let#[t,o,q]:=u a j r
   exact#[t,o,a,j,p,q]
  |brk=>exact l
  |ret v=>exact l
 |false=>
  rw[Jc JD];exact Ee #[d,w,x,m]
end
structure It where
 go:Nat->Hp->Prop
 yld:Nat->Hp->V->Hp->Prop
 stop:Nat->Hp->Prop
def Zc(X:Cx)(tx:Fo)(H:Hp)(b:Δ):Prop:=
 H b=none/\b≠X.env.locals/\b∉X.fs/\(b∈X.ex\/X.s₀.heap.objs.size<=b)/\(∀x c,X.env.cells.lookup x=↑c->c≠b)/\∀p∈X.pn++tx,p.1≠b
theorem Fv.fpOk{X:Cx}{tx:Fo}{σ:St}{H H':Hp}{s:Θ}{b:Δ}(I:Fv X tx σ H s)(hb:s.heap.objs.size<=b)(hn:H' b=none):Zc X tx H' b:=by
 refine#[hn,JZ (JQ I.lt hb),I.nofs hb,.inr (Ju I.sz hb),λx c e z=>?_,λp a z=>?_]
 ·let#[v,q]:=I.cell x c e
  exact absurd (JQ q.lt (by rw[z];exact hb)) (J9 _)
 ·exact absurd (JQ (Jm (I.pin p a).1) (by rw[z];exact hb)) (J9 _)
structure GX(P:Ξ)(w:Ω)(K:ι)(tg:Φ)(J:It)(fp:Ι)(it:Δ)(tn:Nat->Ψ->Prop):Prop where
 mem:it∈fp
 obj:∀i h,tn i h->∀b∈fp,∃o,h.get? b=↑o/\∀v,o.data≠ .cell v
 keep:∀i h h',tn i h->(∀b∈fp,∀o,h.get? b=↑o->h'.get? b=↑o)->tn i h'
 item:∀(X:Cx),X.prog=P->X.w=w->X.K=K->X.calm=true->∀(i:Nat) (tx:Fo) (s:Θ) (σ:St) (H:Hp) (E:Fl),Fv X tx σ H s->(∀b∈fp,Zc X tx H b)->tn i s.heap->J.go i H->
  ε (model P w) X.A (pyNext (.ref it)) (λr s1=>∃u,r=↑u/\
   ε (model P w) X.A (letOwnedTupleGo tg (.ref it) u) (λ_ s2=>∃x H',Fv X tx σ H' s2/\Fx x u/\J.yld i H x H'/\tn (i+1) s2.heap/\∀b∈fp,H' b=none) E s1) E s
 done:∀(X:Cx),X.prog=P->X.w=w->X.K=K->X.calm=true->∀(i:Nat) (tx:Fo) (s:Θ) (σ:St) (H:Hp) (E:Fl),Fv X tx σ H s->(∀b∈fp,Zc X tx H b)->tn i s.heap->J.stop i H->
  ε (model P w) X.A (pyNext (.ref it)) (λr s1=>r=none/\Fv X tx σ H s1) E s
 self:∀(A:Around) (i:Nat) (s:Θ) (Q:Fl) (E:Fl),tn i s.heap->Q (.ref it) s->ε (model P w) A (pyIter (.ref it)) Q E s
abbrev TI:=St->Hp->(It->Hp->Prop)->Prop
def Cc(X:Cx)(tx:Fo)(σ:St)(tg:Φ)(R:It->Hp->Prop)(a:Γ)(e:Θ):Prop:=
 ∃(c:Δ) (fp:Ι) (d:Nat->Ψ->Prop) (J:It) (H':Hp),a= .ref c/\Fv X tx σ H' e/\GX X.prog X.w X.K tg J fp c d/\d 0 e.heap/\(∀b∈fp,Zc X tx H' b)/\R J H'
def PI(X:Cx)(tg a:Φ)(d:TI):Prop:=
 ∀(tx:Fo) (s:Θ) (σ:St) (H:Hp) (R:It->Hp->Prop),Fv X tx σ H s->d σ H R->
  ε (model X.prog X.w) X.A (eval a X.env) (λv c=>ε (model X.prog X.w) X.A (pyIter v) (Cc X tx σ tg R) X.xe c) X.xe s
theorem bT{M:Model}{A:Around}{E:Fl}{s:Θ}{tg:Φ}{it:Δ}{u:Γ}{o:Obj}{n:String}{vs:Array Γ}{Q:Unit->Θ->Prop}(ho:s.heap.get? it=↑o)(hc:o.cls= .type n)(hd:o.data= .fields vs)
    (hn:["enumerate","zip","dict_itemiterator","dict_reverseitemiterator","odict_iterator","itertools.zip_longest","itertools.pairwise"].contains n=false)(a:Q () s):ε M A (letOwnedTupleGo tg (.ref it) u) Q E s:=by
  unfold letOwnedTupleGo;cases tg<;>first
    |exact Jf a
    |(cases u<;>first
        |exact Jf a
        | (refine Ja (wpAny_load ho ?_)
           rw[hc,hd]
           show ε M A (if(["enumerate","zip","dict_itemiterator","dict_reverseitemiterator","odict_iterator","itertools.zip_longest","itertools.pairwise"].contains n&&vs[0]? ==↑(rawInt _))=true then _ else _) Q E s
           rw[Jc (by intro h;rw[hn,C1]at h;cases h)]
           exact Jf a))
def eA(K:ι)(a:Δ):It:=
 ⟨λi H=>∃xs x,Fw K H a xs/\xs[i]? =↑x,λi H x H'=>H'=H/\∀xs,Fw K H a xs->xs[i]? =↑x,λi H=>∃xs,Fw K H a xs/\xs.length<=i⟩
def gX(K:ι)(a:Δ):It:=
 ⟨λi H=>∃xs x,FC K H a xs/\xs[i]? =↑x,λi H x H'=>H'=H/\∀xs,FC K H a xs->xs[i]? =↑x,λi H=>∃xs,FC K H a xs/\xs.length<=i⟩
def gN(lo:Int)(n:Nat):It:=⟨λi _=>i<n,λi H x H'=>H'=H/\x= .int (lo+i),λi _=>n<=i⟩
theorem i5{P:Ξ}{w:Ω}{K:ι}{tg:Φ}(a it:Δ):GX P w K tg (eA K a) [it] it (λi h=>h.IsListIter it a i) where
 mem:=by simp
 obj:=λi h st b f=>by
  have e:b=it:=by simpa using f
  subst e;let#[o,e,c,d]:=st
  exact#[o,e,λv z=>by rw[d]at z;cases z]
 keep:=λi h h' st k=>st.at λo e=>k it (by simp) o e
 item:=by
  intro X F n A G i tx s σ H E I l st q;subst F n A;let#[xs,x,j,C]:=q;let#[y,m,p,R]:=I.list j;let#[u,J,N]:=m.get C;let#[D,f1,f2,r,B,t]:=l it (by simp)
  refine wpAny_pyNext_list_item st p.isList (x:=u) (by simpa using J) λh' g Q=>?_
  have M:Fv X tx σ H {s with heap:=h'}:=I.turned (t':=s.toks) (λb o f e=>(Q.2 b f).trans e) D f1 r B t
  let#[o,e,c,d]:=id g
  exact#[u,Z,bT (s:={s with heap:=h'}) e c d ⋯ #[x,H,M,N,#[Z,λys O=>by rw[I.list_inj O j];exact C],g,λb f=>(l b f).1]]
 done:=by
  intro X F n A G i tx s σ H E I l st q;subst F n A;let#[xs,j,C]:=q;let#[y,m,p,R]:=I.list j;let#[D,f1,f2,r,B,t]:=l it (by simp)
  have S:=m.length;exact wpAny_pyNext_list_end (I.ok.hd G) st p.isList (by simp;lia) λh' L=>#[Z,I.turned (t':=s.toks) (λb o f e=>L b o f e) D f1 r B t]
 self:=λ_ _ _ _ _ st h=>wpAny_pyIter_listiter st h
theorem fZ{P:Ξ}{w:Ω}{K:ι}{tg:Φ}(a it:Δ):GX P w K tg (gX K a) [it] it (λi h=>h.IsTupleIter it a i) where
 mem:=by simp
 obj:=λi h st b f=>by
  have e:b=it:=by simpa using f
  subst e;let#[o,e,c,d]:=st
  exact#[o,e,λv z=>by rw[d]at z;cases z]
 keep:=λi h h' st k=>st.at λo e=>k it (by simp) o e
 item:=by
  intro X F q A G i tx s σ H E I m st r;subst F q A;let#[xs,x,l,C]:=r;let#[g,n,p,R]:=I.tuple l;let#[u,J,N]:=n.get C;let#[D,f1,f2,t,B,y]:=m it (by simp)
  refine wpAny_pyNext_tuple_item st (show s.heap.IsTuple a g.toArray from p) (x:=u) (by simpa using J) λh' j Q=>?_
  have M:Fv X tx σ H {s with heap:=h'}:=I.turned (t':=s.toks) (λb o f e=>(Q.2 b f).trans e) D f1 t B y
  let#[o,e,c,d]:=id j
  exact#[u,Z,bT (s:={s with heap:=h'}) e c d ⋯ #[x,H,M,N,#[Z,λys O=>by rw[I.tuple_inj O l];exact C],j,λb f=>(m b f).1]]
 done:=by
  intro X F q A G i tx s σ H E I m st r;subst F q A;let#[xs,l,C]:=r;let#[g,n,p,R]:=I.tuple l;let#[D,f1,f2,t,B,y]:=m it (by simp)
  have S:=n.length;exact wpAny_pyNext_tuple_end (I.ok.hd G) st (show s.heap.IsTuple a g.toArray from p) (by simp;lia) λh' L=>#[Z,I.turned (t':=s.toks) (λb o f e=>L b o f e) D f1 t B y]
 self:=λ_ _ _ _ _ st h=>wpAny_pyIter_tupleiter st h
theorem oZ{P:Ξ}{w:Ω}{K:ι}{tg:Φ}(it:Δ)(lo:Int)(n:Nat):GX P w K tg (gN lo n) [it] it (λi h=>IsRangeIter h it (lo+(i:Nat)*1) ((n:Int)-(i:Nat)) 1) where
 mem:=by simp
 obj:=λi h st b a=>by
  have e:b=it:=by simpa using a
  subst e
  exact#[_,st,λv z=>by
   have x:Data.fields _=Data.cell v:=z
   cases x]
 keep:=λi h h' st k=>k it (by simp) _ st
 item:=by
  intro X r f l m i tx s σ H E I d st g;subst r f l;let#[p,f1,f2,j,q,u]:=d it (by simp)
  have W:=Walks.range (prog:=X.prog) (w:=X.w) (I.ok.hd m) it lo 1 n
  refine W.item i s _ _ g st λv h' tk y c A=>?_
  let#[t,rfl]:=y;have C:Fv X tx σ H {s with heap:=h',toks:=tk}:=I.turned (λb o a e=>A b o (by simpa using a) e) p f1 j q u
  refine#[0,bT (s:={s with heap:=h',toks:=tk}) (n:="range_iterator") c Z Z ⋯ #[.int (lo+i),H,C,#[t,?_],#[8],c,λb a=>(d b a).1]]
  rw[Int.mul_one]
 done:=by
  intro X r f l m i tx s σ H E I d st g;subst r f l;let#[p,f1,f2,j,q,u]:=d it (by simp)
  exact wpAny_pyNext_range_end (I.ok.hd m) st (by have:n<=i:=g;lia) λh' B=>#[Z,I.turned (t':=s.toks) (λb o a e=>B b o a e) p f1 j q u]
 self:=λ_ _ _ _ _ st h=>EC st h
section
variable{X:Cx}{tg:Φ}
def wm(K:ι)(tl:TE):TI:=λσ H R=>tl σ H λx H1=>∃a,x= .ref a/\(∃xs,Fw K H1 a xs)/\R (eA K a) H1
def AV(K:ι)(tl:TE):TI:=λσ H R=>tl σ H λx H1=>∃a,x= .ref a/\(∃xs,FC K H1 a xs)/\R (gX K a) H1
theorem wS{l:Φ}{tl:TE}(hl:PE X l tl):PI X tg l (wm X.K tl):=by
 intro tx s σ H R I h;refine qD (hl tx s σ H _ I h) λv c g=>?_
 let#[x,H1,d,i,n]:=g;let#[a,e,#[xs,j],q]:=n;subst e;cases i;let#[f,r,p,t]:=d.list j;refine DJ p.isList ?_
 refine#[c.heap.objs.size,[c.heap.objs.size],15,H1,Z,d.kept (t':=c.toks) λb o e=>Ji _ e,i5 a _,#[_,Jq _ Z,8],λb m=>?_,q]
 have e:b=c.heap.objs.size:=by simpa using m
 subst e;exact d.fpOk (Je _) (d.hok.fresh (Je _))
theorem Bh{l:Φ}{tl:TE}(hl:PE X l tl):PI X tg l (AV X.K tl):=by
 intro tx s σ H R I h;refine qD (hl tx s σ H _ I h) λv c g=>?_
 let#[x,H1,d,i,n]:=g;let#[a,e,#[xs,j],q]:=n;subst e;cases i;let#[f,r,p,t]:=d.tuple j;refine Di (show c.heap.IsTuple a f.toArray from p) ?_
 refine#[c.heap.objs.size,[c.heap.objs.size],15,H1,Z,d.kept (t':=c.toks) λb o e=>Ji _ e,fZ a _,#[_,Jq _ Z,8],λb m=>?_,q]
 have e:b=c.heap.objs.size:=by simpa using m
 subst e;exact d.fpOk (Je _) (d.hok.fresh (Je _))
theorem lN{tx:Fo}{σ:St}{H:Hp}{s:Θ}{R:It->Hp->Prop}{E:Fl}{lo hi:Int}{t u v:Tok}{tk:Nat}(I:Fv X tx σ H s)(h1: -(2 ^ 62)<=lo)(h2:lo<2 ^ 62)(g: -(2 ^ 62)<=hi)(f:hi<2 ^ 62)
  (q:R (gN lo (hi-lo).toNat) H):ε (model X.prog X.w) X.A (pyIter (.ref s.heap.objs.size)) (Cc X tx σ tg R) E {s with heap:=s.heap.push {cls:= .type "range",data:= .fields (List.toArray [.int lo t,.int hi u,.int 1 v])},toks:=tk}:=by
 refine wpAny_pyIter_range (IsRange.new ..) (small_one h1 h2 g f) ?_
 have a:Fv X tx σ H {s with heap:=s.heap.push {cls:= .type "range",data:= .fields (List.toArray [.int lo t,.int hi u,.int 1 v])},toks:=tk}:=I.kept λb o e=>Ji _ e
 refine#[(s.heap.push {cls:= .type "range",data:= .fields (List.toArray [.int lo t,.int hi u,.int 1 v])}).objs.size,[(s.heap.push {cls:= .type "range",data:= .fields (List.toArray [.int lo t,.int hi u,.int 1 v])}).objs.size],15,H,Z,
  a.kept (t':=tk) λb o e=>Ji _ e,oZ _ lo (hi-lo).toNat,?_,λb d=>?_,q]
 ·have c:lo+((0:Nat):Int)*1=lo:=by simp
  have h:(((hi-lo).toNat:Nat):Int)-((0:Nat):Int)=γ.Range.rangeSize lo hi 1:=by rw[rangeSize_one];split<;>lia
  show IsRangeIter _ _ (lo+((0:Nat):Int)*1) ((((hi-lo).toNat:Nat):Int)-((0:Nat):Int)) 1
  rw[c,h];exact Jq _ Z
 ·have e:b=(s.heap.push {cls:= .type "range",data:= .fields (List.toArray [.int lo t,.int hi u,.int 1 v])}).objs.size:=by simpa using d
  subst e;exact a.fpOk (Je _) (a.hok.fresh (Je _))
def vZ(ta:TA):TI:=λσ H R=>ta σ H λa H1=>∃j:Int,a=[.int j]/\ -(2 ^ 62)<=j/\j<2 ^ 62/\R (gN 0 j.toNat) H1
def vU(ta:TA):TI:=λσ H R=>ta σ H λa H1=>∃i j:Int,a=[.int i,.int j]/\(-(2 ^ 62)<=i/\i<2 ^ 62/\ -(2 ^ 62)<=j/\j<2 ^ 62)/\R (gN i (j-i).toNat) H1
theorem pR{a:Φ}{ta:TA}{p pos:Pos}(hg:Gl X "range")(hm:X.mg "range"=none)(ha:PA X [a] ta)(hs:θ [a] X.env=[(false,eval a X.env)]:=by rfl):PI X tg (.Call (.Name "range" p) [a] [] pos) (vZ ta):=by
 intro tx s σ H R I h;refine Call_ (Zl I hg hm boot_range (Dv (qD (ha pos tx s σ H _ I h) λm l d=>?_) hs Z))
 let#[n,H1,i,f,c]:=d;let#[j,e,c,g,q]:=c;subst e;cases f with
 |cons r rr=>
  cases rr;let#[t,rfl]:=r;exact call_range_1 (lN i (by lia) (by lia) c g (by simpa using q))
theorem pZ{a b:Φ}{ta:TA}{p pos:Pos}(hg:Gl X "range")(hm:X.mg "range"=none)(ha:PA X [a,b] ta)(hs:θ [a,b] X.env=[(false,eval a X.env),(false,eval b X.env)]:=by rfl)(hs2:θ [b] X.env=[(false,eval b X.env)]:=by rfl):
  PI X tg (.Call (.Name "range" p) [a,b] [] pos) (vU ta):=by
 intro tx s σ H R I h;refine Call_ (Zl I hg hm boot_range (Dv (qD (ha pos tx s σ H _ I h) λv u d=>?_) (by rw[hs,hs2]) (by rw[hs2];rfl)))
 let#[w,H1,n,f,c]:=d;let#[i,j,e,#[c,g,m,l],q]:=c;subst e;cases f with
 |cons r rr=>
  cases rr with
  |cons r' rr=>
   cases rr;let#[t,rfl]:=r;let#[o,rfl]:=r';exact call_range_2 (lN n c g m l q)
def Be(e:TI)(g:TG)(tb:TS):TS:=λD σ H=>e σ H λJ H1=>∃W:Nat->Nat->St->Hp->Prop,(∃m,W 0 m σ H1)/\∀i m σ H,W i m σ H->
 (J.stop i H/\D.nx σ H)\/(J.go i H/\∃N:St->Hp->Prop,(∀a H',N a H'->∃d,d<m/\W (i+1) d a H')/\∀x H',J.yld i H x H'->g x σ H' λc f=>tb {D with nx:=N,ct:=N,bk:=D.nx} c f)
def fU(fp:Ι)(h:Ψ):List (Δ×Obj):=fp.filterMap λb=>(h.get? b).map λo=>(b,o)
theorem Zm{fp:Ι}{h:Ψ}{b:Δ}{o:Obj}(hb:b∈fp)(e:h.get? b=↑o):(b,o)∈fU fp h:=List.mem_filterMap.mpr #[b,hb,by rw[e];rfl]
theorem rf{fp:Ι}{h:Ψ}{p:Δ×Obj}(hp:p∈fU fp h):p.1∈fp/\h.get? p.1=↑p.2:=by
 let#[b,c,e]:=List.mem_filterMap.mp hp;cases q:h.get? b with
 |none=>rw[q]at e;cases e
 |some o=>
  rw[q]at e;have a:(b,o)=p:=Jt e
  subst a
  exact#[c,q]
theorem Fv.pinned{tx:Fo}{σ:St}{H:Hp}{s:Θ}{fp:Ι}(I:Fv X tx σ H s)(hf:∀b∈fp,Zc X tx H b)(ho:∀b∈fp,∃o,s.heap.get? b=↑o/\∀v,o.data≠ .cell v):Fv X (tx++fU fp s.heap) σ H s:=
 I.pins_of λp f=>(JK.mp f).elim (λz=>I.pin p (JY _ z)) λz=>by
  let#[c,e]:=rf z;let#[g,f1,f2,_]:=hf p.1 c;let#[o,a,d]:=ho p.1 c;rw[e]at a;cases a
  exact#[e,g,f1,f2,d]
theorem Fv.unpinned{tx pl:Fo}{σ:St}{H:Hp}{s:Θ}(I:Fv X (tx++pl) σ H s):Fv X tx σ H s:=I.pins_of λp a=>I.pin p (JY _ (C0 _ a))
theorem Bn{j:Φ}{y:List δ}{wi:TI}{g:TG}{tb:TS}{pos:Pos}(hp:PassesOwn (model X.prog X.w) X.A X.env X.xe)(hc:X.calm=true)(hi:PI X tg j wi)(hg:PG X tg g)(hb:HX X y tb)
  (hs:∀x,foldedSetIterable j X.env x=pure x:=by intro _;rfl):PS X (.For tg j y [] pos) (Be wi g tb):=by
 intro tx s σ H D I h;refine wpAny_For (qD (hi tx s σ H _ I h) λv s1 h1=>qD h1 λa0 s2 h2=>?_) hs
 let#[it,fp,S,J,H2,e,I2,T,R,f2,W,#[m0,w0],F]:=h2;subst e;have w:∀{H':Hp},(∀b∈fp,H' b=none)->∀b∈fp,Zc X tx H' b:=λhn b hb=>#[hn b hb,(f2 b hb).2]
 refine codeAny_forLoop_any (λn s'=>∃i q H',Fv X tx q H' s'/\S i s'.heap/\(∀b∈fp,H' b=none)/\W i n q H') ?_ m0 #[(0),σ,H2,I2,R,λb hb=>(f2 b hb).1,w0]
 rintro n U ⟨i,l,L,Y,K,E,w3⟩
 rcases F i n l L w3 with⟨C,qn⟩|⟨go,N,hN,step⟩
 ·refine Du hp (qD (T.done X Z Z Z hc i tx U l L X.xe Y (w E) K C) λr s4 A=>?_)
  let#[M,I4]:=A;subst M;exact Ee #[l,L,I4,qn]
 ·refine Du hp (qD (T.item X Z Z Z hc i tx U l L X.xe Y (w E) K go) λr s4 A=>?_)
  let#[u,M,h4]:=A;subst M;refine Du hp (qD h4 λ_ s5 A=>?_)
  let#[x,H5,I5,r5,y5,B,Q]:=A;have I5':=I5.pinned (w Q) (T.obj _ _ B);refine Du hp (qD (hg _ s5 l H5 x u _ I5' r5 (step x H5 y5)) λ_ s6 A=>?_)
  let#[O,H6,I6,q6]:=A;refine Du hp (qD (hb _ s6 O H6 _ I6 q6) λf P z=>?_)
  have c:∀{a:St} {p:Hp},Fv X (tx++fU fp s5.heap) a p P->N a p->∃m,m<n/\∃i q H',Fv X tx q H' P/\S i P.heap/\(∀b∈fp,H' b=none)/\W i m q H':=λ{a p} t G=>by
   let#[m',hm,w7]:=hN a p G;refine#[m',hm,i+1,a,p,t.unpinned,T.keep _ _ _ B λb hb o e=>(t.pin (b,o) (JY _ (JY _ (Zm hb e)))).1,λb hb=>?_,w7]
   let#[o,e,d]:=T.obj _ _ B b hb
   exact(t.pin (b,o) (JY _ (JY _ (Zm hb e)))).2.1
  cases f with
  |next=>let#[a,p,t,G]:=z;exact c t G
  |cont=>let#[a,p,t,G]:=z;exact c t G
  |brk=>let#[a,p,t,z]:=z;exact#[a,p,t.unpinned,z]
  |ret v=>let#[x7,a,p,t,r7,z]:=z;exact#[x7,a,p,t.unpinned,r7,z]
end
theorem Qa{K:ι}{a:Δ}{xs:Β}{g:TG}{tb:TS}{D:Gj}{σ:St}{H:Hp}(Pv:Nat->St->Hp->Prop)(n:Pv 0 σ H)(hl:∀i σ H,i<=xs.length->Pv i σ H->Fw K H a xs)
  (hs:∀i x σ H,xs[i]? =↑x->Pv i σ H->g x σ H λc h=>tb {D with nx:=Pv (i+1),ct:=Pv (i+1),bk:=D.nx} c h)(hd:∀σ H,Pv xs.length σ H->D.nx σ H):
  ∃W:Nat->Nat->St->Hp->Prop,(∃m,W 0 m σ H)/\∀i m σ H,W i m σ H->
   ((eA K a).stop i H/\D.nx σ H)\/((eA K a).go i H/\∃N:St->Hp->Prop,(∀d H',N d H'->∃j,j<m/\W (i+1) j d H')/\∀x H',(eA K a).yld i H x H'->g x σ H' λc h=>tb {D with nx:=N,ct:=N,bk:=D.nx} c h):=by
 exists λi m σ H=>m=xs.length-i/\i<=xs.length/\Pv i σ H,#[xs.length,by simp,JR _,n]
 rintro i m σ H ⟨rfl,hi,p⟩
 have q:=hl i σ H hi p
 by_cases f:i<xs.length
 ·refine .inr #[#[xs,xs[i],q,by simp [f]],Pv (i+1),λd H' l=>#[xs.length-(i+1),by lia,Z,f,l],λx H' y=>?_]
  let#[e,y]:=y;subst e;exact hs i x σ _ (y xs q) p
 ·have e:i=xs.length:=by lia
  subst e;exact .inl #[#[xs,q,Je _],hd σ H p]
theorem ni{K:ι}{a:Δ}{xs:Β}{g:TG}{tb:TS}{D:Gj}{σ:St}{H:Hp}(Pv:Nat->St->Hp->Prop)(n:Pv 0 σ H)(hl:∀i σ H,i<=xs.length->Pv i σ H->FC K H a xs)
  (hs:∀i x σ H,xs[i]? =↑x->Pv i σ H->g x σ H λc h=>tb {D with nx:=Pv (i+1),ct:=Pv (i+1),bk:=D.nx} c h)(hd:∀σ H,Pv xs.length σ H->D.nx σ H):
  ∃W:Nat->Nat->St->Hp->Prop,(∃m,W 0 m σ H)/\∀i m σ H,W i m σ H->
   ((gX K a).stop i H/\D.nx σ H)\/((gX K a).go i H/\∃N:St->Hp->Prop,(∀d H',N d H'->∃j,j<m/\W (i+1) j d H')/\∀x H',(gX K a).yld i H x H'->g x σ H' λc h=>tb {D with nx:=N,ct:=N,bk:=D.nx} c h):=by
 exists λi m σ H=>m=xs.length-i/\i<=xs.length/\Pv i σ H,#[xs.length,by simp,JR _,n]
 rintro i m σ H ⟨rfl,hi,p⟩
 have q:=hl i σ H hi p
 by_cases f:i<xs.length
 ·refine .inr #[#[xs,xs[i],q,by simp [f]],Pv (i+1),λd H' l=>#[xs.length-(i+1),by lia,Z,f,l],λx H' y=>?_]
  let#[e,y]:=y;subst e;exact hs i x σ _ (y xs q) p
 ·have e:i=xs.length:=by lia
  subst e;exact .inl #[#[xs,q,Je _],hd σ H p]
theorem ZP{lo:Int}{n:Nat}{g:TG}{tb:TS}{D:Gj}{σ:St}{H:Hp}(Pv:Nat->St->Hp->Prop)(l:Pv 0 σ H)
  (hs:∀i σ H,i<n->Pv i σ H->g (.int (lo+i)) σ H λa f=>tb {D with nx:=Pv (i+1),ct:=Pv (i+1),bk:=D.nx} a f)(hd:∀σ H,Pv n σ H->D.nx σ H):
  ∃W:Nat->Nat->St->Hp->Prop,(∃m,W 0 m σ H)/\∀i m σ H,W i m σ H->
   ((gN lo n).stop i H/\D.nx σ H)\/((gN lo n).go i H/\∃N:St->Hp->Prop,(∀c H',N c H'->∃h,h<m/\W (i+1) h c H')/\∀x H',(gN lo n).yld i H x H'->g x σ H' λa f=>tb {D with nx:=N,ct:=N,bk:=D.nx} a f):=by
 exists λi m σ H=>m=n-i/\i<=n/\Pv i σ H,#[n,by simp,JR _,l]
 rintro i m σ H ⟨rfl,hi,p⟩
 by_cases d:i<n
 ·refine .inr #[d,Pv (i+1),λc H' j=>#[n-(i+1),by lia,Z,d,j],λx H' y=>?_]
  let#[e,y]:=y;subst e y;exact hs i σ _ d p
 ·have e:i=n:=by lia
  subst e;exact .inl #[Je _,hd σ H p]
abbrev R2:=V->V->Hp->VK->Prop
def zf(X:Cx)(f:Γ->Γ->Sem Γ)(r:R2):Prop:=
 ∀(tx:Fo) (s:Θ) (σ:St) (H:Hp) (x y:V) (v u:Γ) (Q:VK),Fv X tx σ H s->Fx x v->Fx y u->r x y H Q->
  ε (model X.prog X.w) X.A (f v u) (EP X tx σ Q) X.xe s
def vP(X:Cx)(f:Γ->Sem Γ)(r:V->Hp->VK->Prop):Prop:=
 ∀(tx:Fo) (s:Θ) (σ:St) (H:Hp) (x:V) (v:Γ) (Q:VK),Fv X tx σ H s->Fx x v->r x H Q->
  ε (model X.prog X.w) X.A (f v) (EP X tx σ Q) X.xe s
def zi(X:Cx)(f:Γ)(r:Β->Hp->VK->Prop):Prop:=
 ∀(tx:Fo) (s:Θ) (σ:St) (H:Hp) (xs:Β) (a:Η) (Q:VK),Fv X tx σ H s->Fy xs a->r xs H Q->
  ε (model X.prog X.w) X.A (call f a) (EP X tx σ Q) X.xe s
def Cz(X:Cx)(r:V->Hp->(Bool->Hp->Prop)->Prop):Prop:=
 ∀(tx:Fo) (s:Θ) (σ:St) (H:Hp) (x:V) (v:Γ) (Q:Bool->Hp->Prop),Fv X tx σ H s->Fx x v->r x H Q->
  ε (model X.prog X.w) X.A (truthy v) (TP X tx σ Q) X.xe s
def iU(r:R2)(ta tb:TE):TE:=λσ H Q=>ta σ H λx H1=>tb σ H1 λy a=>r x y a Q
def Ci(r:V->Hp->VK->Prop)(ta:TE):TE:=λσ H Q=>ta σ H λx H1=>r x H1 Q
inductive Mr (C:Int->Int->Prop) (g:Int->Int->V) (x:V) (y:V) (H:Hp) (Q:VK):Prop
 |mk (i:_) (j:_) (h1:x= .int i) (h2:y= .int j) (h3:C i j) (h4:Q (g i j) H)
def rI(C:Int->Int->Prop)(g:Int->Int->V):R2:=λx y H Q=>Mr C g x y H Q
inductive Mp (g:Int->Int->V) (x:V) (y:V) (H:Hp) (Q:VK):Prop
 |mk (i:_) (j:_) (h1:x= .int i) (h2:y= .int j) (h3:Q (g i j) H)
def iN(g:Int->Int->V):R2:=λx y H Q=>Mp g x y H Q
inductive Ms (g:Int->V) (x:V) (H:Hp) (Q:VK):Prop
 |mk (i:_) (h1:x= .int i) (h2:Q (g i) H)
def rU(g:Int->V):V->Hp->VK->Prop:=λx H Q=>Ms g x H Q
section
variable{X:Cx}{a b:Φ}{ta tb:TE}{pos:Pos}
theorem uE(ha:PE X a ta)(hb:PE X b tb){tx:Fo}{s:Θ}{σ:St}{H:Hp}{R:V->V->Hp->Prop}(I:Fv X tx σ H s)
  (h:ta σ H λx H1=>tb σ H1 λy c=>R x y c){Q:Fl}{f:Γ->Γ->Sem Γ}
  (hf:∀v u g x y c,Fv X tx σ c g->Fx x v->Fx y u->R x y c->ε (model X.prog X.w) X.A (f v u) Q X.xe g):
  ε (model X.prog X.w) X.A (eval a X.env) (λv e=>ε (model X.prog X.w) X.A (eval b X.env) (λu d=>ε (model X.prog X.w) X.A (f v u) Q X.xe d) X.xe e) X.xe s:=by
 refine qD (ha tx s σ H _ I h) λv j i=>?_
 let#[x,H1,q,l,o]:=i;refine qD (hb tx j σ H1 _ q o) λu g i=>?_
 let#[y,c,n,p,m]:=i;exact hf v u g x y c n l p m
theorem B0{op:Operator}{r:R2}(ho:zf X (binaryOp op) r)(ha:PE X a ta)(hb:PE X b tb):PE X (.BinOp a op b pos) (iU r ta tb):=by
 intro tx s σ H Q I h;exact wpAny_BinOp (uE ha hb I h λv u e x y g c d f q=>ho tx e σ g x y v u Q c d f q)
theorem BP{op:UnaryOp}{r:V->Hp->VK->Prop}(ho:vP X (unaryOp op) r)(ha:PE X a ta):PE X (.UnaryOp op a pos) (Ci r ta):=by
 intro tx s σ H Q I h;exact UnaryOp_ (qD (ha tx s σ H _ I h) λv e ⟨x,H1,d,c,f⟩=>ho tx e σ H1 x v Q d c f)
theorem v9{f:Γ->Γ->Sem Γ}{C:Int->Int->Prop}{g:Int->Int->Int}
  (a:∀(i j:Int) (t u:Tok) (s:Θ) (Q:Fl) (E:Fl),C i j->Q (.int (g i j) s.toks) {s with toks:=s.toks+1}->ε (model X.prog X.w) X.A (f (.int i t) (.int j u)) Q E s):
  zf X f (rI C λi j=> .int (g i j)):=by
 intro tx s σ H x y v u Q I e l h;let#[i,j,rfl,rfl,d,q]:=h;let#[t,rfl]:=e;let#[c,rfl]:=l;exact a i j t c s _ _ d #[.int (g i j),H,I.tok _,#[0],q]
theorem Bk{f:Γ->Γ->Sem Γ}{g:Int->Int->Int}
  (a:∀(i j:Int) (t u:Tok) (s:Θ) (Q:Fl) (E:Fl),Q (.int (g i j) s.toks) {s with toks:=s.toks+1}->ε (model X.prog X.w) X.A (f (.int i t) (.int j u)) Q E s):
  zf X f (iN λi j=> .int (g i j)):=by
 intro tx s σ H x y v u Q I e d h;let#[i,j,rfl,rfl,q]:=h;let#[t,rfl]:=e;let#[c,rfl]:=d;exact a i j t c s _ _ #[.int (g i j),H,I.tok _,#[0],q]
theorem pG{f:Γ->Γ->Sem Γ}{g:Int->Int->Bool}
  (a:∀(i j:Int) (t u:Tok) (s:Θ) (Q:Fl) (E:Fl),Q (.bool (g i j)) s->ε (model X.prog X.w) X.A (f (.int i t) (.int j u)) Q E s):
  zf X f (iN λi j=> .bl (g i j)):=by
 intro tx s σ H x y v u Q I e d h;let#[i,j,rfl,rfl,q]:=h;let#[t,rfl]:=e;let#[c,rfl]:=d;exact a i j t c s _ _ #[.bl (g i j),H,I,Z,q]
def Cp(i j:Int):Prop:=0<j/\j<1073741824
def Cv(i j:Int):Prop:=0<=j/\j<=1000000/\i.natAbs<2 ^ 64
def LH(i j:Int):Prop:=(-(2 ^ 64)<i/\i<2 ^ 64)\/(-(2 ^ 64)<j/\j<2 ^ 64)
theorem LH.ok{i j:Int}(h:LH i j):IntMulOk i j:=by
 rcases h with⟨h1,a⟩|⟨h1,a⟩
 ·exact .of_left (intBits_le_64 h1 a)
 ·exact .of_right (intBits_le_64 h1 a)
theorem qH:zf X (binaryOp .Add) (iN λi j=> .int (i+j)):=Bk λ_ _ _ _ _ _ _ q=>add_int q
theorem zZ:zf X (binaryOp .Sub) (iN λi j=> .int (i-j)):=Bk λ_ _ _ _ _ _ _ q=>sub_int q
theorem QY:zf X (binaryOp .Mult) (rI LH λi j=> .int (i*j)):=v9 λ_ _ _ _ _ _ _ a q=>mul_int q a.ok
theorem ZE:zf X (binaryOp .FloorDiv) (rI Cp λi j=> .int (i/j)):=v9 λi j _ _ _ _ _ a q=>by
 have h1:(0:Int)<j:=a.1
 have c:j<1073741824:=a.2
 exact floordiv_int (by lia) (by rw[Int.fdiv_eq_ediv_of_nonneg i (by lia)];exact q) (.inl (PyProof.noPylong_small (by lia)))
theorem zF:zf X (binaryOp .Mod) (rI (λ_ j=>0<j) λi j=> .int (i%j)):=v9 λi j _ _ _ _ _ a q=>by
 have h1:(0:Int)<j:=a
 exact mod_int' (by lia) (by rw[Int.fmod_eq_emod_of_nonneg i (by lia)];exact q)
theorem rR:zf X (binaryOp .Pow) (rI Cv λi j=> .int (i ^ j.toNat)):=v9 λ_ _ _ _ _ _ _ a q=>pow_int_small a.1 a.2.1 a.2.2 q
theorem CM{f:Γ->Sem Γ}{g:Int->Int}
  (a:∀(i:Int) (t:Tok) (s:Θ) (Q:Fl) (E:Fl),Q (.int (g i) s.toks) {s with toks:=s.toks+1}->ε (model X.prog X.w) X.A (f (.int i t)) Q E s):
  vP X f (rU λi=> .int (g i)):=by
 intro tx s σ H x v Q I c h;let#[i,rfl,q]:=h;let#[t,rfl]:=c;exact a i t s _ _ #[.int (g i),H,I.tok _,#[0],q]
theorem gS:vP X (unaryOp .USub) (rU λi=> .int (-i)):=CM λ_ _ _ _ _ q=>neg_int q
end
def AI:V->V->Bool
 | .non,.non=>true| .non,.int _=>true| .int _,.non=>true| .non,.bl _=>true| .bl _,.non=>true| .non,.str _=>true| .str _,.non=>true
 | .int _,.int _=>true| .bl _,.bl _=>true| .str _,.str _=>true| .byt _,.byt _=>true
 | .int _,.str _=>true| .str _,.int _=>true| .bl _,.str _=>true| .str _,.bl _=>true
 |_,_=>false
def CH:R2:=λx y H Q=>AI x y=true/\Q (.bl (decide (x=y))) H
def CG:R2:=λx y H Q=>AI x y=true/\Q (.bl (! decide (x=y))) H
theorem nJ{i j:Int}:decide (V.int i=V.int j)=(i==j):=by
 rw[C2];simp
theorem rW{i j:Bool}:decide (V.bl i=V.bl j)=(i==j):=by
 rw[C2];simp
theorem nM{i j:Str}:decide (V.str i=V.str j)=(i==j):=by
 rw[C2];simp
theorem nN{i j:Array UInt8}:decide (V.byt i=V.byt j)=(i.toList==j.toList):=by
 rw[C2];cases i;cases j;simp
section
variable{X:Cx}{a b c:Φ}{ta tb tc:TE}{pos:Pos}
theorem qP{tx:Fo}{σ:St}{H:Hp}{s:Θ}{Q:VK}{k a:Bool}(I:Fv X tx σ H s)(q:Q (.bl k) H)(e:k=a):EP X tx σ Q (.bool a) s:=by
 subst e
 exact#[.bl k,H,I,Z,q]
theorem za:zf X (compareOp .Eq) CH:=by
 intro tx s σ H x y v u Q I d a h;let#[hs,q]:=h;cases x with
 |non=>
  cases d;cases y with
  |non=>cases a;exact PySem.EqNone.eq_none_none (qP I q (by simp))
  |bl j=>cases a;exact PySem.EqNone.eq_none_bool (qP I q (by simp))
  |int j=>let#[c,rfl]:=a;exact PySem.EqNone.eq_none_int (qP I q (by simp))
  |str j=>let#[c,rfl]:=a;exact PySem.EqNone.eq_none_str (qP I q (by simp))
  |_=>exact absurd (show false=true from hs) JD
 |bl i=>
  cases d;cases y with
  |non=>cases a;exact PySem.EqNone.eq_bool_none (qP I q (by simp))
  |bl j=>cases a;exact eq_bool (qP I q rW)
  |str j=>let#[c,rfl]:=a;exact PySem.EqMixed.eq_bool_str (qP I q (by simp))
  |_=>exact absurd (show false=true from hs) JD
 |int i=>
  let#[t,rfl]:=d;cases y with
  |non=>cases a;exact PySem.EqNone.eq_int_none (qP I q (by simp))
  |int j=>let#[c,rfl]:=a;exact eq_int (qP I q nJ)
  |str j=>let#[c,rfl]:=a;exact PySem.EqMixed.eq_int_str (qP I q (by simp))
  |_=>exact absurd (show false=true from hs) JD
 |str i=>
  let#[t,rfl]:=d;cases y with
  |non=>cases a;exact PySem.EqNone.eq_str_none (qP I q (by simp))
  |bl j=>cases a;exact PySem.EqMixed.eq_str_bool (qP I q (by simp))
  |int j=>let#[c,rfl]:=a;exact PySem.EqMixed.eq_str_int (qP I q (by simp))
  |str j=>let#[c,rfl]:=a;exact eq_str (qP I q nM)
  |_=>exact absurd (show false=true from hs) JD
 |byt i=>
  let#[t,rfl]:=d;cases y with
  |byt j=>let#[c,rfl]:=a;exact W.eq_bytes (qP I q nN)
  |_=>exact absurd (show false=true from hs) JD
 |_=>cases y<;>exact absurd (show false=true from hs) JD
theorem cS:zf X (compareOp .NotEq) CG:=by
 intro tx s σ H x y v u Q I d a h;let#[hs,q]:=h;cases x with
 |non=>
  cases d;cases y with
  |non=>cases a;exact PySem.EqNone.ne_none_none (qP I q (by simp))
  |bl j=>cases a;exact PySem.EqNone.ne_none_bool (qP I q (by simp))
  |int j=>let#[c,rfl]:=a;exact PySem.EqNone.ne_none_int (qP I q (by simp))
  |str j=>let#[c,rfl]:=a;exact PySem.EqNone.ne_none_str (qP I q (by simp))
  |_=>exact absurd (show false=true from hs) JD
 |bl i=>
  cases d;cases y with
  |non=>cases a;exact PySem.EqNone.ne_bool_none (qP I q (by simp))
  |bl j=>cases a;exact ne_bool (qP I q (JH not rW))
  |str j=>let#[c,rfl]:=a;exact PySem.EqMixed.ne_bool_str (qP I q (by simp))
  |_=>exact absurd (show false=true from hs) JD
 |int i=>
  let#[t,rfl]:=d;cases y with
  |non=>cases a;exact PySem.EqNone.ne_int_none (qP I q (by simp))
  |int j=>let#[c,rfl]:=a;exact ne_int (qP I q (JH not nJ))
  |str j=>let#[c,rfl]:=a;exact PySem.EqMixed.ne_int_str (qP I q (by simp))
  |_=>exact absurd (show false=true from hs) JD
 |str i=>
  let#[t,rfl]:=d;cases y with
  |non=>cases a;exact PySem.EqNone.ne_str_none (qP I q (by simp))
  |bl j=>cases a;exact PySem.EqMixed.ne_str_bool (qP I q (by simp))
  |int j=>let#[c,rfl]:=a;exact PySem.EqMixed.ne_str_int (qP I q (by simp))
  |str j=>let#[c,rfl]:=a;exact ne_str (qP I q (JH not nM))
  |_=>exact absurd (show false=true from hs) JD
 |byt i=>
  let#[t,rfl]:=d;cases y with
  |byt j=>let#[c,rfl]:=a;exact W.ne_bytes (qP I q (JH not nN))
  |_=>exact absurd (show false=true from hs) JD
 |_=>cases y<;>exact absurd (show false=true from hs) JD
theorem cZ:zf X (compareOp .Lt) (iN λi j=> .bl (decide (i<j))):=pG λ_ _ _ _ _ _ _ q=>lt_int q
theorem ZY:zf X (compareOp .LtE) (iN λi j=> .bl (decide (i<=j))):=pG λ_ _ _ _ _ _ _ q=>le_int q
theorem dj:zf X (compareOp .Gt) (iN λi j=> .bl (decide (j<i))):=pG λ_ _ _ _ _ _ _ q=>gt_int q
theorem jR:zf X (compareOp .GtE) (iN λi j=> .bl (decide (j<=i))):=pG λ_ _ _ _ _ _ _ q=>ge_int q
theorem Zn:zf X (compareOp .Is) (λx y H Q=>y= .non/\Q (.bl (decide (x= .non))) H):=by
 intro tx s σ H x y v u Q I a c h;let#[rfl,q]:=h;cases c;refine is_none_gen (qP I q ?_)
 cases x<;>first
  |(cases a;rfl)
  |(let#[t,rfl]:=a;rfl)
theorem dc:zf X (compareOp .IsNot) (λx y H Q=>y= .non/\Q (.bl (! decide (x= .non))) H):=by
 intro tx s σ H x y v u Q I a c h;let#[rfl,q]:=h;cases c;refine isnot_none_gen (qP I q ?_)
 cases x<;>first
  |(cases a;rfl)
  |(let#[t,rfl]:=a;rfl)
theorem qu(b:Φ){op:CmpOp}(h:op≠ .In:=by decide)(h2:op≠ .NotIn:=by decide):behindInMarks op b=false:=by
 have a:(op==CmpOp.In)=false:=by cases op<;>first|rfl|exact absurd Z h
 have c:(op==CmpOp.NotIn)=false:=by cases op<;>first|rfl|exact absurd Z h2
 cases b<;>simp [behindInMarks,a,c]
theorem yw{op:CmpOp}{r:R2}(ho:zf X (compareOp op) r)(ha:PE X a ta)(hb:PE X b tb)(hm:behindInMarks op b=false):PE X (.Compare a [op] [b] pos) (iU r ta tb):=by
 intro tx s σ H Q I h;exact wpAny_Compare1 (uE ha hb I h λv u e x y g c d f q=>ho tx e σ g x y v u Q c d f q) hm
def c8(t:TE):TT:=λσ H Q=>t σ H λx H'=>∃k,x= .bl k/\Q k H'
theorem yR{op:CmpOp}{r:R2}(ho:zf X (compareOp op) r)(ha:PE X a ta)(hb:PE X b tb)(hm:behindInMarks op b=false):PT X (.Compare a [op] [b] pos) (c8 (iU r ta tb)):=by
 intro tx s σ H Q I h;refine wpAny_isTrue_Compare1 (qD (ha tx s σ H _ I h) λv f ⟨x,H1,w,g,o⟩=>qD (hb tx f σ H1 _ w o) λu m ⟨y,p,j,q,i⟩=>
  qD (ho tx m σ p x y v u _ j g q i) λc A ⟨z,l,d,n,k,e,t⟩=>?_) hm
 subst e;cases n;exact CO #[l,d,t]
def gQ(r c:R2)(ta tb tc:TE):TE:=λσ H Q=>ta σ H λx H1=>tb σ H1 λy e=>r x y e λz a=>∃k,z= .bl k/\
 (if k=true then tc σ a λf d=>c y f d Q else Q (.bl false) a)
theorem vi{op f:CmpOp}{r j:R2}(ho:zf X (compareOp op) r)(ho':zf X (compareOp f) j)(ha:PE X a ta)(hb:PE X b tb)(hc:PE X c tc)
  (hm:lastMarks [op,f] [b,c]=false:=by with_unfolding_all rfl):PE X (.Compare a [op,f] [b,c] pos) (gQ r j ta tb tc):=by
 intro tx s σ H Q I h;refine Compare_chain (qD (ha tx s σ H _ I h) λv F ⟨x,H1,p,G,K⟩=>chain_link (qD (hb tx F σ H1 _ p K) λu t ⟨y,o,q,m,J⟩=>
  qD (ho tx t σ o x y v u _ q G m J) λd B ⟨z,l,i,w,k,e,g⟩=>?_)) hm
 subst e;cases w;refine CO ?_
 cases k with
 |false=>exact ite_ff #[.bl false,l,i,Z,g]
 |true=>exact ite_tt (chain_last (qD (hc tx B σ l _ i g) λL D ⟨C,A,E,M,n⟩=>ho' tx D σ A y C u L Q E m M n))
theorem uD{op f:CmpOp}{r j:R2}(ho:zf X (compareOp op) r)(ho':zf X (compareOp f) j)(ha:PE X a ta)(hb:PE X b tb)(hc:PE X c tc)
  (hm:lastMarks [op,f] [b,c]=false:=by with_unfolding_all rfl):PT X (.Compare a [op,f] [b,c] pos) (c8 (gQ r j ta tb tc)):=by
 intro tx s σ H Q I h;refine isTrue_chain (qD (ha tx s σ H _ I h) λv M ⟨x,H1,q,N,R⟩=>test_link (qD (hb tx M σ H1 _ q R) λu A ⟨y,p,w,l,O⟩=>
  qD (ho tx A σ p x y v u _ w N l O) λd D ⟨z,m,i,B,k,e,g⟩=>?_)) hm
 subst e;cases B;refine CO ?_
 cases k with
 |false=>
  let#[Y,P,S]:=g;cases P;exact ite_ff #[m,i,S]
 |true=>
  refine ite_tt (test_last (qD (hc tx D σ m _ i g) λT G ⟨E,C,L,W,n⟩=>qD (ho' tx G σ C y E u T _ L l W n) λd' s5 t=>?_))
  let#[z2,J,F,U,k2,K,o]:=t;subst K;cases U;exact CO #[J,F,o]
def t7(K:ι)(x:V)(H:Hp)(k:Bool):Prop:=
 match x with
 | .non=>k=false
 | .bl b=>k=b
 | .int i=>k=(i != 0)
 | .str y=>y.length<=ζ/\k=((y.length:Int) != 0)
 | .byt y=>y.size<=ζ/\k=((y.size:Int) != 0)
 | .ref p=>(∃xs,Fw K H p xs/\k= ! xs.isEmpty)\/(∃xs,FC K H p xs/\k= ! xs.isEmpty)\/∃kvs,H p=↑(.dK kvs)/\k= ! kvs.isEmpty
 |_=>False
theorem oB{κ:Type}{kvs:List (κ×V)}{vs:List (κ×Γ)}(r:KV kvs vs):(! vs.isEmpty)= ! kvs.isEmpty:=by
 cases r<;>rfl
theorem gF{xs:Β}{its:Η}(r:Fy xs its):(! its.toArray.isEmpty)= ! xs.isEmpty:=by
 cases r<;>simp
theorem ZA:(ζ:Nat)<2 ^ 63:=by rw[Jo];decide
theorem AD:Cz X (λx H Q=>∃k,t7 X.K x H k/\Q k H):=by
 intro tx s σ H x v Q I d h;let#[k,e,q]:=h;have u:=ZA;have hs:ζ=16777216:=Jo
 cases x with
 |non=>
  cases d;have a:k=false:=e
  subst a;exact truthy_none #[H,I,q]
 |bl b=>
  cases d;have a:k=b:=e
  subst a;exact CO #[H,I,q]
 |int i=>
  let#[t,rfl]:=d;have a:k=(i != 0):=e
  subst a;exact PySem.P.truthy_int #[H,I,q]
 |str y=>
  let#[t,rfl]:=d;let#[o,a]:y.length<=ζ/\k=((y.length:Int) != 0):=e
  subst a;exact PySem.P.truthy_str (by lia) #[H,I.tok _,q]
 |byt y=>
  let#[t,rfl]:=d;let#[o,a]:y.size<=ζ/\k=((y.size:Int) != 0):=e
  subst a;exact W.truthy_bytes (by lia) #[H,I.tok _,q]
 |ref p=>
  cases d;have a:(∃xs,Fw X.K H p xs/\k= ! xs.isEmpty)\/(∃xs,FC X.K H p xs/\k= ! xs.isEmpty)\/∃kvs,H p=↑(.dK kvs)/\k= ! kvs.isEmpty:=e
  rcases a with⟨xs,f,a⟩|⟨xs,f,a⟩|⟨kvs,f,a⟩
  ·subst a
   let#[j,r,pl,l]:=I.list f;have c:=r.length;exact wpAny_truthy_list pl.isList (by simp only[Jr];lia) #[H,I.tok _,by rw[gF r];exact q]
  ·subst a
   let#[j,r,pl,l]:=I.tuple f;have c:=r.length;exact truthy_tuple pl (by simp only[Jr];lia) #[H,I.tok _,by rw[gF r];exact q]
  ·subst a
   let#[l,n,g,r,m]:kvs.length<=ζ/\(p==sysModules)=false/\∃g,KV kvs g/\s.heap.DictOf (qQ X.prog X.w) p g:=I.hok p _ f
   have c:kvs.length=g.length:=DV r
   exact wpAny_truthy_dict n m (by lia) #[H,I.tok _,by rw[oB r];exact q]
 |_=>exact(show False from e).elim
theorem vd(ha:PE X a ta)(he:∀c,isTrue a X.env c=(do let v <- c;standAt a.pos;holding [v] (truthy v))):
  PT X a (λσ H Q=>ta σ H λx H'=>∃k,t7 X.K x H' k/\Q k H'):=by
 intro tx s σ H Q I h;exact isTrue_plain (qD (ha tx s σ H _ I h) λv d ⟨x,H1,g,e,f⟩=>AD tx d σ H1 x v Q g e f) (he _)
theorem Qt{x:V}{us:Η}(r:Fy [x] us):∃u,us=[u]/\Fx x u:=by
 cases r with
 |cons r1 r2=>cases r2;exact#[0,r1]
theorem cV{x y:V}{us:Η}(r:Fy [x,y] us):∃u a,us=[u,a]/\Fx x u/\Fx y a:=by
 cases r with
 |cons r1 r2=>
  cases r2 with
  |cons r3 r4=>cases r4;exact#[5,r1,r3]
theorem kB:zi X (.builtin "abs") (λxs H Q=>∃i,xs=[.int i]/\Q (.int (if i<0 then -i else i)) H):=by
 intro tx s σ H xs a Q I r h;let#[i,rfl,q]:=h;let#[u,rfl,t,rfl]:=Qt r;exact call_abs_int λu tk=>#[.int (if i<0 then -i else i),H,I.tok _,#[0],q]
theorem aE(hc:X.calm=true):zi X (.builtin "max") (λxs H Q=>∃i j,xs=[.int i,.int j]/\Q (.int (if j>i then j else i)) H):=by
 intro tx s σ H xs d Q I r h;let#[i,j,rfl,q]:=h;let#[u,e,rfl,#[t,rfl],#[c,rfl]]:=cV r;refine max_two_ints (I.ok.hd hc) λh' tk k=>#[_,H,I.kept k,?_,q]
 by_cases a:j>i
 ·rw[Jb a,Jb a];exact#[0]
 ·rw[Jc a,Jc a];exact#[0]
theorem aO(hc:X.calm=true):zi X (.builtin "min") (λxs H Q=>∃i j,xs=[.int i,.int j]/\Q (.int (if j<i then j else i)) H):=by
 intro tx s σ H xs d Q I r h;let#[i,j,rfl,q]:=h;let#[u,e,rfl,#[t,rfl],#[c,rfl]]:=cV r;refine min_two_ints (I.ok.hd hc) λh' tk k=>#[_,H,I.kept k,?_,q]
 by_cases a:j<i
 ·rw[Jb a,Jb a];exact#[0]
 ·rw[Jc a,Jc a];exact#[0]
theorem jg:zi X (.type "int") (λxs H Q=>(∃i,xs=[.int i]/\Q (.int i) H)\/∃k,xs=[.bl k]/\Q (.int (if k then 1 else 0)) H):=by
 intro tx s σ H xs c Q I r h;rcases h with⟨i,rfl,q⟩|⟨k,rfl,q⟩
 ·let#[u,rfl,t,rfl]:=Qt r
  exact call_int_int #[.int i,H,I,#[0],q]
 ·let#[u,rfl,a]:=Qt r
  cases a;exact call_int_bool #[.int (if k then 1 else 0),H,I.tok _,#[0],q]
theorem lM:zi X (.builtin "ord") (λxs H Q=>∃x,xs=[.str x]/\x.length=1/\Q (.int (x.cps.getD 0 0:Nat)) H):=by
 intro tx s σ H xs c Q I r h;let#[x,rfl,a,q]:=h;let#[u,rfl,t,rfl]:=Qt r;exact ord_of_one a #[.int _,H,I.tok _,#[0],q]
end
structure HZ(h:Ψ)(x dx C:Δ)(mA:Fn):Prop where
 obj:h.get? x=↑(PySem.W.instObj C dx)
 ns:h.Ns1 dx mA
 ne:dx≠x
theorem tS{h:Ψ}{dx:Δ}{mA:Fn}(n:h.Ns1 dx mA):∃od,h.get? dx=↑od/\∀name,W.lookIn name od=↑(mA name):=by
 let#[o,es,l,g,d,hk,_,j]:=n;refine#[o,g,λname=>?_]
 have e:=j name;unfold nsFind findBy at e;rw[<- Array.find?_toList]at e;unfold W.lookIn;rw[d]
 dsimp only
 split
 ·rename_i y q
  rw[q]at e;exact JH some e
 ·rename_i q
  rw[q]at e;have a:es.toList.any (·.refKey)=false:=by
   rw[List.any_eq_false];intro y i;let#[z,t,c]:=hk y (Array.mem_toList_iff.mp i)
   simp [DictEntry.refKey,c]
  have f:¬es.toList.any (·.refKey)=true:=by rw[a];exact JD
  rw[Jc f];exact JH some e
theorem HZ.look{h:Ψ}{x dx C:Δ}{mA:Fn}(I:HZ h x dx C mA):∃od,W.InstAt h x (W.instObj C dx) C ↑od/\∀name,W.lookIn name od=↑(mA name):=
 let⟨od,ho,hl⟩:=tS I.ns
 #[od,#[I.obj,8,ho],hl]
section
variable{prog:Ξ}{w:Ω}{A:Around}{E:Fl}{s:Θ}{K:ι}{x dx C f:Δ}{mA:Fn}{name:Str}{v:Γ}
theorem xg{a:Bool}{Q:Fl}(X:K.In s.heap)(I:HZ s.heap x dx C mA)(hg:W.plainGet K C name=true)(d:W.hasDictIn K C=true)
  (ha:W.findIn K (.ref C) name=↑none)(hv:mA name=↑v)(c:W.handedIn v=true)(h:Q v {s with toks:=s.toks+1}):
  ε (model prog w) A (getAttr (.ref x) name a) Q E s:=by
 let#[od,J,e]:=I.look;exact W.get_value X J (W.plainGet_of hg).1 (W.findObj_own d ha Z (by rw[e,hv])) c h
theorem ud{pl:Sem Bool}{Q:Γ×Η->Θ->Prop}(X:K.In s.heap)(I:HZ s.heap x dx C mA)(hg:W.plainGet K C name=true)
  (hf:W.findIn K (.ref C) name=↑(↑(.ref f)))(c:W.isFn K (.ref f)=true)(hv:mA name=none)(h:Q (.ref f,[.ref x]) s):
  ε (model prog w) A (getMethod (.ref x) name pl) Q E s:=by
 let#[od,J,a]:=I.look;exact W.method_fn X J (W.plainGet_of hg).1 (W.plainGet_of hg).2 hf (Dj.mp c) (by show(W.lookIn name od).map (·.isSome)=↑false;rw[a,hv];rfl) h
theorem xz{ns:Α}{Q:Unit->Θ->Prop}(X:K.In s.heap)(I:HZ s.heap x dx C mA)
  (hs:W.findIn K (.ref C) "__setattr__"=↑(↑(.builtin "object.__setattr__")))(hp:W.plainOver K C=true)(p:W.takerIn K C name=↑none)(n:W.hasDictIn K C=true)
  (hw:PySem.Within mA ns)(hsz:ns.length<=ζ)
  (h:∀h',HZ h' x dx C (λy=>if y=name then ↑v else mA y)->Ψ.SameBut dx s.heap h'->Q () {s with heap:=h',toks:=s.toks+2}):
  ε (model prog w) A (setAttr (.ref x) name v) Q E s:=by
 let#[od,J,q]:=I.look;refine W.set_plain X J hs (W.osa_open (s:={s with toks:=s.toks+1}) (r:=none) X J hp p λb=>?_)
 let#[u,l,f]:=W.any_some n;have m:s.heap.get? x=some #[.ref C,↑dx,.plain,(List.toArray [])]:=I.obj
 refine Ja (Jf (Ja (Ja (wpAny_loadPart m (Ja (W.Looks.here (s:={s with toks:=s.toks+1}) (W.looks_clsIn X l) ?_))))))
 rw[f];refine Jf (a:=↑dx) (Ja (Jf (Ja ?_)))
 refine wpAny_nsSet1 (s:={s with toks:=s.toks+1}) I.ns λh' d c=>?_
 let#[t,o,j,i,e,g]:=d.count (PySem.Within.cons name v hw)
 refine Ja (wpAny_lookBehind i (by rw[e];exact pastItsLine_dict (Ju g (by rw[CP];lia))) ?_)
 exact Jf (h _ #[(c.2 _ (Ne.symm I.ne)).trans I.obj,d,I.ne] c)
theorem vm{R:Result->Θ->Prop}{vs:Η}{c:List (Str×Γ)}(X:K.In s.heap)(hm:W.makesIn K C=true)
  (hi:W.findIn K (.ref C) "__init__"=↑(↑(.ref f)))(hf:W.typeIn K (.ref f)=↑(.type "function"))
  (h:codeAny (model prog w) (A.under (.builtin "type.__call__" #[.ref C::vs,c])) (.call (.ref f) #[.ref (s.heap.objs.size+1)::vs,c]) (W.InitBack (s.heap.objs.size+1) R)
   {s with heap:=(s.heap.push W.emptyDict).push (W.instObj C s.heap.objs.size)}):
  codeAny (model prog w) A (.call (.ref C) #[vs,c]) R s:=by
 let#[i,g,d,t,e]:=s;exact W.make_core (W.makes_of X hm) (W.looks_findIn X hi) (λa=>W.bind_fn X a hf) (.inl Z) h
end
def Qr(f:Str)(v:V):List (Str×V)->List (Str×V)
 | []=>[(f,v)]
 |(g,x)::r=>if g=f then(g,v)::r else(g,x)::Qr f v r
theorem eV(f g:Str)(v:V):∀fs:List (Str×V),(Qr f v fs).lookup g=if g=f then ↑v else fs.lookup g
 | []=>by
  show List.lookup g [(f,v)]=_
  by_cases h:g=f
  ·have a:(g==f)=true:=Dj.mpr h
   simp only[List.lookup,a,Jb h]
  ·have a:(g==f)=false:=Dt.mpr h
   simp only[List.lookup,a,Jc h]
 |(k,x)::r=>by
  have c:=eV f g v r;rw[show Qr f v ((k,x)::r)=(if k=f then(k,v)::r else(k,x)::Qr f v r)from Z]
  by_cases hk:k=f
  ·rw[Jb hk]
   by_cases h:g=k
   ·have a:(g==k)=true:=Dj.mpr h
    simp only[List.lookup,a,Jb (h.trans hk)]
   ·have a:(g==k)=false:=Dt.mpr h
    simp only[List.lookup,a,Jc (λe:g=f=>h (e.trans hk.symm))]
  ·rw[Jc hk]
   by_cases h:g=k
   ·have a:(g==k)=true:=Dj.mpr h
    simp only[List.lookup,a,Jc (λe:g=f=>hk (h.symm.trans e))]
   ·have a:(g==k)=false:=Dt.mpr h
    simp only[List.lookup,a];exact c
theorem cL(f:Str)(v:V):∀fs:List (Str×V),f∈(Qr f v fs).map (·.1)/\∀g,g∈fs.map (·.1)->g∈(Qr f v fs).map (·.1)
 | []=>#[by simp [Qr],λg h=>by simp at h]
 |(k,x)::r=>by
  let#[i1,i2]:=cL f v r;rw[show Qr f v ((k,x)::r)=(if k=f then(k,v)::r else(k,x)::Qr f v r)from Z]
  by_cases hk:k=f
  ·rw[Jb hk]
   subst hk
   exact#[by simp,λg h=>by simpa using h]
  ·rw[Jc hk]
   refine#[?_,λg h=>?_]
   ·rw[JL]
    exact JF _ i1
   ·rw[JL]at h⊢
    rcases Jl.mp h with e|e
    ·exact Jl.mpr (.inl e)
    ·exact JF _ (i2 g e)
theorem eT(f:Str)(v:V):∀fs:List (Str×V),(Qr f v fs).length<=fs.length+1
 | []=>by simp [Qr]
 |(k,x)::r=>by
  have a:=eT f v r;rw[show Qr f v ((k,x)::r)=(if k=f then(k,v)::r else(k,x)::Qr f v r)from Z]
  by_cases hk:k=f
  ·rw[Jb hk,CP,CP];lia
  ·rw[Jc hk,CP,CP];lia
theorem Gu.some_of{v:V}{o:Ν}(r:Gu ↑v o):∃u,o=↑u/\Fx v u:=by
 cases o with
 |none=>exact(show False from r).elim
 |some u=>exact#[u,Z,r]
theorem Gu.none_of{o:Ν}(r:Gu none o):o=none:=by
 cases o with
 |none=>rfl
 |some u=>exact(show False from r).elim
theorem pU{v:V}{u:Γ}(r:Fx v u):W.handedIn u=true:=by
 cases v with
 |non=>cases(show u=Γ.none from r);rfl
 |bl b=>cases(show u=Γ.bool b from r);rfl
 |int i=>let#[t,e]:=(show∃t,u=Γ.int i t from r);cases e;rfl
 |str x=>let#[t,e]:=(show∃t,u=Γ.str x t from r);cases e;rfl
 |byt b=>let#[t,e]:=(show∃t,u=Γ.bytes b t from r);cases e;rfl
 |flt b=>let#[t,e]:=(show∃t,u=Γ.float b t from r);cases e;rfl
 |ref a=>cases(show u=Γ.ref a from r);rfl
 |ty n=>cases(show u=Γ.type n from r);rfl
section
variable{P:Ξ}{w:Ω}{H:Hp}{h:Ψ}{a C dx:Δ}{fs:List (Str×V)}
theorem dh(c:GM P w H h)(e:H a=↑(.ins C dx fs)):∃mA,HZ h a dx C mA/\(∀f,Gu (fs.lookup f) (mA f))/\PySem.Within mA (fs.map (·.1))/\fs.length<=1000/\H dx=↑(.own a):=by
 let#[d,z,g,i,mA,n,r,q]:=(show FE P w H h a (.ins C dx fs)from c a _ e)
 exact#[mA,#[i,n,g],r,q,z,d]
end
structure IB(K:ι)(C:Δ):Prop where
 pg:PySem.W.plainGet K C Str.empty=true
 hd:PySem.W.hasDictIn K C=true
 po:PySem.W.plainOver K C=true
 sa:PySem.W.findIn K (.ref C) "__setattr__"=↑(↑(.builtin "object.__setattr__"))
theorem IB.get{K:ι}{C:Δ}(c:IB K C)(f:Str):W.plainGet K C f=true:=c.pg
def FS(K:ι)(C:Δ)(f:Str):Prop:=PySem.W.findIn K (.ref C) f=↑none
theorem FS.taker{K:ι}{C:Δ}{f:Str}(n:FS K C f):W.takerIn K C f=↑none:=by
 unfold W.takerIn;rw[show W.findIn K (.ref C) f=↑none from n]
 rfl
structure Lx(K:ι)(C:Δ)(m:Str)(f:Δ):Prop where
 at_:PySem.W.findIn K (.ref C) m=↑(↑(.ref f))
 fn:PySem.W.isFn K (.ref f)=true
 kp:PySem.W.keepIn K (.ref f)=true
section
variable{X:Cx}{tx:Fo}{σ:St}{H:Hp}{s:Θ}{a C dx:Δ}{fs:List (Str×V)}{f:Str}{v:V}{A:Around}{E:Fl}
theorem pD{b:Bool}{Q:Fl}(I:Fv X tx σ H s)(e:H a=↑(.ins C dx fs))(c:IB X.K C)(n:FS X.K C f)(l:fs.lookup f=↑v)
  (h:∀u s',Fv X tx σ H s'->Fx v u->Q u s'):ε (model X.prog X.w) A (getAttr (.ref a) f b) Q E s:=by
 let#[mA,O,r,_,_,_]:=dh I.hok e;let#[u,g,d]:=Gu.some_of (v:=v) (o:=mA f) (by rw[<- l];exact r f)
 exact xg I.kIn O (c.get f) c.hd n g (pU d) (h u _ (I.tok _) d)
theorem fT{m:Str}{g:Δ}{pl:Sem Bool}{Q:Γ×Η->Θ->Prop}(I:Fv X tx σ H s)(e:H a=↑(.ins C dx fs))(c:IB X.K C)(k:Lx X.K C m g)(l:fs.lookup m=none)
  (h:Q (.ref g,[.ref a]) s):ε (model X.prog X.w) A (getMethod (.ref a) m pl) Q E s:=by
 let#[mA,O,r,_,_,_]:=dh I.hok e;have d:mA m=none:=Gu.none_of (by rw[<- l];exact r m)
 exact ud I.kIn O (c.get m) k.at_ k.fn d h
theorem ou{y:V}{u:Γ}{Q:Unit->Θ->Prop}(I:Fv X tx σ H s)(e:H a=↑(.ins C dx fs))(c:IB X.K C)(n:FS X.K C f)(hl:fs.length<1000)(w:Fx y u)
  (h:∀s',Fv X tx σ (Ft H a (.ins C dx (Qr f y fs))) s'->Q () s'):ε (model X.prog X.w) A (setAttr (.ref a) f u) Q E s:=by
 let#[mA,O,r,i,_,j]:=dh I.hok e;have v:(fs.map (·.1)).length<=ζ:=by rw[Jd,Jo];lia
 refine xz I.kIn O c.sa c.po n.taker c.hd i v λh' d p=>h _ ?_
 have m:∃o,h'.get? dx=↑o:=let⟨o,_,_,e',_⟩:=d.ns;#[o,e']
 refine I.write (x:=a) (e:=dx) (by rw[e];exact True.intro) (.inr j) (λb q t z=>(p.2 b t).trans z) m ?_
 refine#[by rw[qi O.ne];exact j,?_,O.ne,d.obj,_,d.ns,λg=>?_,λg l=>?_]
 ·have:=eT f y fs;lia
 ·show Gu ((Qr f y fs).lookup g) (if g=f then ↑u else mA g)
  rw[eV]
  by_cases q:g=f
  ·rw[Jb q,Jb q];exact w
  ·rw[Jc q,Jc q];exact r g
 ·by_cases q:g=f
  ·rw[q];exact(cL f y fs).1
  ·refine(cL f y fs).2 g (i g λz=>l ?_)
   show(if g=f then ↑u else mA g)=none
   rw[Jc q];exact z
theorem Fv.made(I:Fv X tx σ H s):Fv X tx σ (Ft (Ft H s.heap.objs.size (.own (s.heap.objs.size+1))) (s.heap.objs.size+1) (.ins C s.heap.objs.size []))
  {s with heap:=(s.heap.push W.emptyDict).push (W.instObj C s.heap.objs.size)}:=by
 have c:(s.heap.push W.emptyDict).get? s.heap.objs.size=↑W.emptyDict:=Jq s.heap Z
 have f:((s.heap.push W.emptyDict).push (W.instObj C s.heap.objs.size)).get? (s.heap.objs.size+1)=↑(W.instObj C s.heap.objs.size):=by
  have:=Jq (s.heap.push W.emptyDict) (o:=W.instObj C s.heap.objs.size) Z
  rwa [J5]at this
 have h:(s.heap.push W.emptyDict).Ns s.heap.objs.size (λ_=>none):=#[W.emptyDict,(List.toArray []),_,c,Z,(λe j=>absurd j (by simp)),λ_=>rfl]
 have i:=I.laid (a:=s.heap.objs.size) (o:= .own (s.heap.objs.size+1)) (h':=s.heap.push W.emptyDict) (t':=s.toks) (λb u q=>Ji _ q) (Je _) #[_,c]
 refine i.laid (a:=s.heap.objs.size+1) (o:= .ins C s.heap.objs.size []) (t':=s.toks) (λb u q=>Ji _ q) (Nat.le_of_eq (J5 _ _)) ?_
 have d:s.heap.objs.size≠s.heap.objs.size+1:=Js (C9 _)
 refine#[by rw[qi d,qc],JR _,d,f,λ_=>none,(Ψ.Ns1.of_empty h).at λo q=>Ji _ q,λ_=>True.intro,λy g=>absurd Z g]
theorem yN{prog:Ξ}{w:Ω}{a:Env}{e:Φ}{f:Str}{pos:Pos}{s:Θ}{Q:Fl}(hb:attributeBase e f a (eval e a)=eval e a)
  (h:ε (model prog w) A (eval e a) (λo c=>ε (model prog w) A (getAttr o f true) Q E c) E s):ε (model prog w) A (eval (.Attribute e f pos) a) Q E s:=
 Attribute_any_ h (by rw[arm_eval_Attribute,hb])
end
section
variable{X:Cx}{tx:Fo}{σ:St}{H:Hp}{s:Θ}{A:Around}{E:Fl}{Q:Fl}{c:Γ}{b:Bool}
inductive GQ (K:ι) (H:Hp):V->Γ->Prop where
 |non:GQ K H .non (.type "NoneType")
 |bl (x:Bool):GQ K H (.bl x) (.type "bool")
 |int (i:Int):GQ K H (.int i) (.type "int")
 |str (x:Str):GQ K H (.str x) (.type "str")
 |flt (x:UInt64):GQ K H (.flt x) (.type "float")
 |lst {a:Δ} {xs:Β} (e:H a=↑(.lst xs)):GQ K H (.ref a) (.type "list")
 |frz {a:Δ} {o:Obj} {xs:Β} (e:H a=↑(.frz o (.lst xs))):GQ K H (.ref a) (.type "list")
 |tup {a:Δ} {xs:Β} (e:H a=↑(.tup xs)):GQ K H (.ref a) (.type "tuple")
 |dK {a:Δ} {kvs:List (qz×V)} (e:H a=↑(.dK kvs)):GQ K H (.ref a) (.type "dict")
 |dT {a:Δ} {kvs:List (List qz×V)} (e:H a=↑(.dT kvs)):GQ K H (.ref a) (.type "dict")
 | ins {a C dx:Δ} {fs:List (Str×V)} (e:H a=↑(.ins C dx fs)) (cl:IB K C) (ha:PySem.W.findIn K (.ref C) "__class__"=↑(↑(.builtin "object.__class__")))
   (hn:PySem.W.specialIn K (.builtin "object.__class__") "__get__"=↑(↑(.builtin "getset_descriptor.__get__"))) (htk:PySem.W.takesIn K (.builtin "object.__class__")=↑true)
   (hm:PySem.W.mroIn K C (.type "object")=↑true):GQ K H (.ref a) (.ref C)
theorem rO{x:V}{u t:Γ}(I:Fv X tx σ H s)(d:Fx x u)(ty:GQ X.K H x t)(e:W.kitOne X.K t c=↑b)(h:∀tk,Q (.bool b) {s with toks:=tk}):
  ε (model X.prog X.w) A (call (.builtin "isinstance") [u,c]) Q E s:=by
 cases ty with
 |non=>cases(show u=Γ.none from d);exact JV W.kitx_none I.kIn True.intro e (λz=>nomatch z) h
 |bl y=>cases(show u=Γ.bool y from d);exact JV W.kitx_bool I.kIn True.intro e (λz=>nomatch z) h
 |int i=>let#[t,q]:=(show∃t,u=Γ.int i t from d);cases q;exact JV W.kitx_int I.kIn True.intro e (λz=>nomatch z) h
 |str y=>let#[t,q]:=(show∃t,u=Γ.str y t from d);cases q;exact JV W.kitx_str I.kIn True.intro e (λz=>nomatch z) h
 |flt y=>let#[t,q]:=(show∃t,u=Γ.float y t from d);cases q;exact JV W.kitx_float I.kIn True.intro e (λz=>nomatch z) h
 | @lst a xs ea=>
  cases(show u=Γ.ref a from d)
  let#[_,_,n,_,h1]:=(show FE X.prog X.w H s.heap a (.lst xs)from I.hok a _ ea)
  exact JV W.kitx_list I.kIn #[_,h1,Z] e (λz=>nomatch z) h
 | @frz a ob xs ea=>
  cases(show u=Γ.ref a from d)
  let#[_,_,_,n,_,h1]:=(show FE X.prog X.w H s.heap a (.frz ob (.lst xs))from I.hok a _ ea)
  exact JV W.kitx_list I.kIn #[_,h1,Z] e (λz=>nomatch z) h
 | @tup a xs ea=>
  cases(show u=Γ.ref a from d)
  let#[_,_,_,p]:=(show FE X.prog X.w H s.heap a (.tup xs)from I.hok a _ ea)
  let#[o,h1,f,_]:=p;exact JV W.kitx_tuple I.kIn #[o,h1,f] e (λz=>nomatch z) h
 | @dK a kvs ea=>
  cases(show u=Γ.ref a from d)
  let#[_,_,j,_,p]:=(show FE X.prog X.w H s.heap a (.dK kvs)from I.hok a _ ea)
  let#[o,es,g,h1,f,_]:=p;exact JV W.kitx_dict I.kIn #[o,h1,f.1] e (λz=>nomatch z) h
 | @dT a kvs ea=>
  cases(show u=Γ.ref a from d)
  let#[_,_,xs,_,o,es,g,h1,f,_]:=(show FE X.prog X.w H s.heap a (.dT kvs)from I.hok a _ ea)
  exact JV W.kitx_dict I.kIn #[o,h1,f.1] e (λz=>nomatch z) h
 | @ins a C dx fs ea cl ha hn htk hm=>
  cases(show u=Γ.ref a from d)
  let#[mA,O,_]:=dh I.hok ea;let#[od,J,_]:=O.look;exact JV (W.kitx_own (cl.get _) cl.hd ha hn htk hm) I.kIn J e (λz=>nomatch z) h
end
structure FJ(k:Nat)(A:Around):Prop where
 hd:A.handled=none
 dp:A.depth+3*k+5<recursionLimit
 un:A.units+16*k+200<cLine
theorem FJ.mono{j k:Nat}{A:Around}(r:FJ k A)(h:j<=k):FJ j A:=#[r.hd,by have:=r.dp;lia,by have:=r.un;lia]
theorem FJ.mo{j k:Nat}{A:Around}(r:FJ k A)(h:j<=k:=by first|decide|omega):FJ j A:=r.mono h
theorem FJ.deeper{k:Nat}{A:Around}(r:FJ (k+1) A)(a:Env):FJ k (A.deeper a):=
 #[r.hd,by have:=r.dp;show A.depth+1+3*k+5<_;lia,by have:=r.un;show A.units+3+16*k+200<_;lia]
theorem pK{A:Around}{C:Δ}{us:Η}{a:List (Str×Γ)}:(A.under (.builtin "type.__call__" #[.ref C::us,a])).depth=A.depth+1:=by
 first|rfl|simp [Around.under,Code.weight,Code.isCreation,Code.isGuard,Code.isCaller,Code.frames,Code.isFrame,guardIds]
theorem oJ{A:Around}{C:Δ}{us:Η}{a:List (Str×Γ)}:(A.under (.builtin "type.__call__" #[.ref C::us,a])).units=A.units+1:=by
 first|rfl|simp [Around.under,Code.cUnits,Code.frames,Code.isFrame]
theorem FJ.make{k:Nat}{A:Around}(r:FJ (k+1) A)(C:Δ)(us:Η)(a:List (Str×Γ)):FJ k (A.under (.builtin "type.__call__" #[.ref C::us,a])):=
 #[r.hd,by have:=r.dp;rw[pK];lia,by have:=r.un;rw[oJ];lia]
theorem FJ.depth{k:Nat}{A:Around}(r:FJ k A):A.depth<recursionLimit:=by have:=r.dp;lia
def vc:TA:=λ_ H Q=>Q [] H
def oR(ta:TE)(a:TA):TA:=λσ H Q=>ta σ H λx H1=>a σ H1 λxs c=>Q (x::xs) c
section
variable{X:Cx}{e:Φ}{es:Κ}{te:TE}{t:TA}{pos:Pos}
theorem Bj:PA X [] vc:=λ_ _ _ _ H Q I h=>Calls.spliced_nil #[[],H,I,.nil,h]
theorem wM(ha:PE X e te)(hr:PA X es t)(hs:θ (e::es) X.env=(false,eval e X.env)::θ es X.env:=by rfl):PA X (e::es) (oR te t):=by
 intro pos tx s σ H Q I h;rw[hs]
 show ε _ _ (spliced ((false,eval e X.env)::backTo pos (θ es X.env))) _ _ s
 refine Calls.spliced_cons (qD (ha tx s σ H _ I h) λu c a=>?_)
 let#[x,H1,m,d,i]:=a;exact qD (hr pos tx c σ H1 _ m i) λn o ⟨xs,j,g,l,f⟩=>#[x::xs,j,g,.cons d l,f]
def Aj(t:TA):TE:=λσ H Q=>t σ H λxs H1=>xs.length<=ζ/\∀p,H1 p=none->Q (.ref p) (Ft H1 p (.tup xs))
def As(t:TA):TE:=λσ H Q=>t σ H λxs H1=>xs.length<=ζ/\∀p,H1 p=none->Q (.ref p) (Ft H1 p (.lst xs))
theorem y9{x1}(h:PA X es t):PE X (.Tuple es x1 pos) (Aj t):=by
 intro tx s σ H Q I d;refine wpAny_Tuple_spliced (qD (h pos tx s σ H _ I d) λg a ⟨xs,H1,c,r,z,q⟩=>#[by rw[<- r.length];exact z,?_])
 have f:H1 a.heap.objs.size=none:=c.hok.fresh (Je _)
 refine#[.ref a.heap.objs.size,Ft H1 a.heap.objs.size (.tup xs),c.laid (t':=a.toks) (λb u e=>Ji _ e) (Je _) ?_,Z,q _ f]
 exact#[z,g,r,#[_,Jq _ Z,14]]
theorem Bd(h:PA X es t):PE X (.List es pos) (As t):=by
 intro tx s σ H Q I d;refine wpAny_List_spliced (qD (h pos tx s σ H _ I d) λg a ⟨xs,H1,c,r,z,q⟩=>#[by rw[<- r.length];exact z,?_])
 have f:H1 a.heap.objs.size=none:=c.hok.fresh (Je _)
 refine#[.ref a.heap.objs.size,Ft H1 a.heap.objs.size (.lst xs),c.laid (t':=a.toks) (λb u e=>Ji _ e) (Je _) ?_,Z,q _ f]
 exact#[z,g,(0),r,Jq _ Z]
end
abbrev Sp:=Β->Hp->VK->XK->Prop
abbrev eQ:=Ο->Hp->Θ->XK->Γ->Θ->Prop
structure Ia(P:Ξ)(w:Ω)(K:ι)(mg:Fn)(base:Ψ)(A:Around)(outer:Ο)(s:Θ)(H:Hp):Prop where
 frames:A.frames=↑outer
 mod:Mn K mg base
 bs:∀b o,base.get? b=↑o->s.heap.get? b=↑o/\H b=none
 bsz:base.objs.size<=s.heap.objs.size
 funs:s.heap.FunFrames base outer
 frf:∀b∈bh outer,H b=none
 hok:GM P w H s.heap
 bare:AllBare s.gens
def CE(a:Ο)(P:Ξ)(w:Ω)(H:Hp)(s:Θ)(Q:VK)(u:Γ)(s':Θ):Prop:=
 ∃v H',s'.os=s.os/\AllBare s'.gens/\Un (bh a) [] H H' s.heap s'.heap/\GM P w H' s'.heap/\Fx v u/\Q v H'
def CR(CX:eQ)(a:Ο)(P:Ξ)(w:Ω)(H:Hp)(s:Θ)(Q:VK)(E:XK)(r:Result)(s':Θ):Prop:=
 match r with
 | .ok (.ret u)=>CE a P w H s Q u s'
 | .ok _=>False
 | .error e=>CX a H s E e s'
structure GN(P:Ξ)(w:Ω)(K:ι)(mg:Fn)(base:Ψ)(CX:eQ)(k:Nat)(f:Δ)(fd:FuncData)(ps:Α)(sp:Sp):Prop where
 len:∀vs H Q E,sp vs H Q E->vs.length=ps.length
 run:∀(A:Around) (outer:Ο) (s:Θ) (H:Hp) (args:Args) (us:Η) (vs:Β) (Q:VK) (E:XK),FJ k A->Ia P w K mg base A outer s H->BindsTo s fd args (ps.zip us)->Fy vs us->sp vs H Q E->
  codeAny (model P w) A (.call (.ref f) args) (CR CX outer P w H s Q E) s
theorem Ia.make{P:Ξ}{w:Ω}{K:ι}{mg:Fn}{base:Ψ}{A:Around}{a:Ο}{s:Θ}{H:Hp}(e:Ia P w K mg base A a s H)(C:Δ)(us:Η)(c:List (Str×Γ)):
  Ia P w K mg base (A.under (.builtin "type.__call__" #[.ref C::us,c])) a s H:=#[by first|exact e.frames|(simpa [Around.under,Code.envs,Code.isFrame,pushEnvs]using e.frames),e.mod,e.bs,e.bsz,e.funs,e.frf,e.hok,e.bare]
section
variable{X:Cx}{tx:Fo}{σ:St}{H:Hp}{s s':Θ}
theorem Fv.env0(I:Fv X tx σ H s):Ia X.prog X.w X.K X.mg X.base X.A X.stack s H:=
 #[I.ok.frames,I.ok.mod,I.bs,Ju I.ok.bsz I.sz,I.stack,I.stkFree,I.hok,I.bare]
theorem Fv.after{Q:VK}{u:Γ}(I:Fv X tx σ H s)(h:CE X.stack X.prog X.w H s Q u s'):EP X tx σ Q u s':=by
 let#[v,H',i,a,un,e,r,q]:=h;let#[f,g,d,t,c]:=s'
 obtain rfl:c=s.os:=i
 exact#[v,H',I.call (h':=f) (g':=g) (d':=d) (t':=t) (ch:=[]) un e a (λb z=>absurd z (by simp)),r,q]
end
def jP(sp:Sp)(dvs:Β)(E:XK)(t:TA):TE:=λσ H Q=>t σ H λa H1=>sp (a++dvs) H1 Q E
def vY(C:Δ)(sp:Sp)(dvs:Β)(E:XK)(t:TA):TE:=λσ H Q=>t σ H λc H1=>∀x dx,H1 x=none->H1 dx=none->dx≠x->
 sp (.ref x::(c++dvs)) (Ft (Ft H1 dx (.own x)) x (.ins C dx [])) (λv a=>v= .non/\Q (.ref x) a) E
def Gp(K:ι)(fd:FuncData)(ps:Α)(ds:Η):Prop:=
 ∀(s:Θ) (a:Η),K.In s.heap->(a++ds).length=ps.length->BindsTo s fd #[a,[]] (ps.zip (a++ds))
theorem Gp.all{K:ι}{fd:FuncData}{ps:Α}(h:∀a:Η,a.length=ps.length->bindArgs fd #[a,[]]=pure (ps.zip a)):Gp K fd ps []:=λs a _ c=>by
 rw[Dc]at c⊢;exact .of_eq (h a c)
def cp(CX:eQ)(X:Cx)(E:XK):Prop:=∀(tx:Fo) (σ:St) (H:Hp) (s:Θ) (e:Γ) (s':Θ),Fv X tx σ H s->CX X.stack H s E e s'->X.xe e s'
section
variable{X:Cx}{CX:eQ}{k:Nat}{f C:Δ}{fd:FuncData}{ps:Α}{sp:Sp}{dvs:Β}{ds:Η}{E:XK}{x:Str}{p pos:Pos}{e:Φ}{es:Κ}{t:TA}
theorem lp{tx:Fo}{σ:St}{H:Hp}{s:Θ}{Q:VK}{us:Η}{vs:Β}(F:GN X.prog X.w X.K X.mg X.base CX k f fd ps sp)(hr:FJ k X.A)(hb:Gp X.K fd ps ds)(hd:Fy dvs ds)(hx:cp CX X E)
  (I:Fv X tx σ H s)(r:Fy vs us)(h:sp (vs++dvs) H Q E):ε (model X.prog X.w) X.A (call (.ref f) us) (EP X tx σ Q) X.xe s:=by
 have c:Fy (vs++dvs) (us++ds):=r.append hd
 have d:(us++ds).length=ps.length:=by rw[<- c.length];exact F.len _ _ _ _ h
 refine wpAny_call (codeAny_mono (F.run X.A X.stack s H #[us,[]] (us++ds) (vs++dvs) Q E hr I.env0 (hb s us I.kIn d) c h) λr s' a=>?_)
 cases r with
 |error e=>exact hx tx σ H s e s' I a
 |ok fl=>
  cases fl with
  |ret u=>exact I.after a
  |next=>exact False.elim a
  |brk=>exact False.elim a
  |cont=>exact False.elim a
theorem yj(F:GN X.prog X.w X.K X.mg X.base CX k f fd ps sp)(hr:FJ k X.A)(hg:Gl X x)(hm:X.mg x=↑(.ref f))(hk:W.keepIn X.K (.ref f)=true)(hb:Gp X.K fd ps ds)(hd:Fy dvs ds)(hx:cp CX X E)
  (ha:PA X (e::es) t)(hdb:(x==("__debug__":Str))=false:=by decide)(he:θ (e::es) X.env=(false,eval e X.env)::θ es X.env:=by rfl)(hpl:(backTo pos (θ es X.env)).any (·.1)=false:=by rfl):
  PE X (.Call (.Name x p) (e::es) [] pos) (jP sp dvs E t):=by
 intro tx s σ H Q I h;refine Eg (iq I hg hm ?_ hdb)
 refine W.callWith_K (h₀:=X.base) I.ok.mod.kin hk (qD (ha pos tx s σ H _ I h) λc g ⟨d,H1,a,r,q⟩=>#[a.kIn,?_]) he hpl
 exact lp F hr hb hd hx a r q
structure Mk(K:ι)(C f:Δ):Prop where
 makes:PySem.W.makesIn K C=true
 init:PySem.W.findIn K (.ref C) "__init__"=↑(↑(.ref f))
 fn:PySem.W.isFn K (.ref f)=true
 kp:PySem.W.keepIn K (.ref C)=true
theorem uy{tx:Fo}{σ:St}{H:Hp}{s:Θ}{Q:VK}{us:Η}{vs:Β}(M:Mk X.K C f)(F:GN X.prog X.w X.K X.mg X.base CX k f fd ps sp)(hr:FJ (k+1) X.A)(hb:Gp X.K fd ps ds)(hd:Fy dvs ds)
  (hx:cp CX X E)(I:Fv X tx σ H s)(r:Fy vs us)
  (h:∀x dx,H x=none->H dx=none->dx≠x->sp (.ref x::(vs++dvs)) (Ft (Ft H dx (.own x)) x (.ins C dx [])) (λv n=>v= .non/\Q (.ref x) n) E):
  ε (model X.prog X.w) X.A (call (.ref C) us) (EP X tx σ Q) X.xe s:=by
 have d:=h (s.heap.objs.size+1) s.heap.objs.size (I.hok.fresh (C3 _)) (I.hok.fresh (Je _)) (Js (C9 _));have c:=Fv.made (C:=C) I
 have g:Fy (V.ref (s.heap.objs.size+1)::(vs++dvs)) (Γ.ref (s.heap.objs.size+1)::(us++ds)):= .cons Z (r.append hd)
 have l:(Γ.ref (s.heap.objs.size+1)::us++ds).length=ps.length:=by
  have e:=g.length;rw[F.len _ _ _ _ d]at e;exact e.symm
 refine wpAny_call (vm (f:=f) I.kIn M.makes M.init (Dj.mp M.fn) (codeAny_mono (F.run _ X.stack _ _ #[Γ.ref (s.heap.objs.size+1)::us,[]] (Γ.ref (s.heap.objs.size+1)::(us++ds)) _ _ E (hr.make C us [])
  (c.env0.make C us []) (hb _ (Γ.ref (s.heap.objs.size+1)::us) c.kIn l) g d) λr s' a=>?_))
 cases r with
 |error e=>exact hx tx σ _ _ e s' c a
 |ok fl=>
  cases fl with
  |ret u=>
   let#[v,H',i,j,m,o]:=c.after a;subst m
   exact#[j,#[V.ref (s.heap.objs.size+1),H',i,Z,o]]
  |next=>exact False.elim a
  |brk=>exact False.elim a
  |cont=>exact False.elim a
theorem yz(M:Mk X.K C f)(F:GN X.prog X.w X.K X.mg X.base CX k f fd ps sp)(hr:FJ (k+1) X.A)(hg:Gl X x)(hm:X.mg x=↑(.ref C))(hb:Gp X.K fd ps ds)(hd:Fy dvs ds)(hx:cp CX X E)
  (ha:PA X (e::es) t)(hdb:(x==("__debug__":Str))=false:=by decide)(he:θ (e::es) X.env=(false,eval e X.env)::θ es X.env:=by rfl)(hpl:(backTo pos (θ es X.env)).any (·.1)=false:=by rfl):
  PE X (.Call (.Name x p) (e::es) [] pos) (vY C sp dvs E t):=by
 intro tx s σ H Q I h;refine Eg (iq I hg hm ?_ hdb)
 refine W.callWith_K (h₀:=X.base) I.ok.mod.kin M.kp (qD (ha pos tx s σ H _ I h) λd c ⟨g,H1,a,r,q⟩=>#[a.kIn,?_]) he hpl
 exact uy M F hr hb hd hx a r q
end
structure Fq(N P:Α)(sc:Scope):Prop where
 kind:sc.kind= .function
 co:sc.isCoroutine=false
 gen:sc.isGenerator=false
 nd:N.Nodup
 pre:N.take P.length=P
 par:∀x∈P,sc.names.lookup x=some .local\/sc.names.lookup x=some .cell
 nofree:∀y∈sc.names,y.2≠ .free
theorem jp{a:Str->Option NameKind}{x:Str}:∀{binds:List (Str×Γ)} {m:Fn},(∀v,(x,v)∉binds)->bindL a binds m x=m x
 | [],_,_=>rfl
 |(n,v)::r,m,h=>by
  unfold bindL;rw[jp λw c=>h w (JF _ c)]
  split
  ·have:x≠n:=by rintro rfl;exact h v JJ
   simp [this]
  ·rfl
theorem iW{a:Str->Option NameKind}{x:Str}:∀{binds:List (Str×Γ)} {m:Fn},(∀v,(x,v)∉binds)->bindC a binds m x=m x
 | [],_,_=>rfl
 |(n,v)::r,m,h=>by
  unfold bindC;rw[iW λw c=>h w (JF _ c)]
  split
  ·rfl
  ·have:x≠n:=by rintro rfl;exact h v JJ
   simp [this]
theorem iY{a:Str->Option NameKind}{x:Str}{v:Γ}:∀{P:Α} {vs:Η} {i:Nat} {m:Fn},P.Nodup->P[i]? =↑x->vs[i]? =↑v->a x=some .local->
  bindL a (P.zip vs) m x=↑v
 | [],_,_,_,_,h,_,_=>by simp at h
 |_::_,[],_,_,_,_,h,_=>by simp at h
 |p::P,w::vs,0,m,nd,h1,h2,hk=>by
  simp at h1 h2;subst h1;subst h2
  show bindL a ((p,w)::P.zip vs) m p=_
  unfold bindL;rw[jp λv c=>(C4.mp nd).1 (List.of_mem_zip c).1,Jb hk]
  simp
 |p::P,w::vs,i+1,m,nd,h1,h2,hk=>by
  show bindL a ((p,w)::P.zip vs) m x=_
  unfold bindL;exact iY (i:=i) (C4.mp nd).2 (by simpa using h1) (by simpa using h2) hk
theorem jr{a:Str->Option NameKind}{x:Str}{v:Γ}:∀{P:Α} {vs:Η} {i:Nat} {m:Fn},P.Nodup->P[i]? =↑x->vs[i]? =↑v->a x≠some .local->
  bindC a (P.zip vs) m x=↑v
 | [],_,_,_,_,h,_,_=>by simp at h
 |_::_,[],_,_,_,_,h,_=>by simp at h
 |p::P,w::vs,0,m,nd,h1,h2,hk=>by
  simp at h1 h2;subst h1;subst h2
  show bindC a ((p,w)::P.zip vs) m p=_
  unfold bindC;rw[iW λv c=>(C4.mp nd).1 (List.of_mem_zip c).1,Jc hk]
  simp
 |p::P,w::vs,i+1,m,nd,h1,h2,hk=>by
  show bindC a ((p,w)::P.zip vs) m x=_
  unfold bindC;exact jr (i:=i) (C4.mp nd).2 (by simpa using h1) (by simpa using h2) hk
def Q6(N:Α)(vs:Β):St:=vs.map some++List.replicate (N.length-vs.length) none
def aV(CX:eQ)(P:Ξ)(w:Ω)(K:ι)(mg:Fn)(base:Ψ)(N:Α)(Mu:Str)(a:Scope)(f:Δ)(d:Γ)(A:Around)(outer:Ο)(s:Θ)(H:Hp)(E:XK):Cx where
 prog:=P
 w:=w
 K:=K
 mg:=mg
 base:=base
 A:=A.deeper (envOfC Mu a s.heap.objs.size f d)
 N:=N
 s₀:=s
 H₀:=H
 env:=envOfC Mu a s.heap.objs.size f d
 outer:=outer
 stack:=envOfC Mu a s.heap.objs.size f d::outer
 ex:=[]
 calm:=true
 fn:=λ_=>true
 pn:=[]
 xe:=λe s'=>ε (model P w) (A.deeper (envOfC Mu a s.heap.objs.size f d)) (leaving (envOfC Mu a s.heap.objs.size f d) e) (λ_ c=>CX outer H s E e c) (λg c=>CX outer H s E g c) s'
theorem kH{a:Scope}{n:Nat}{x:Str}(h:a.names.lookup x=some .cell):∃c,(cellsFrom n a.names []).lookup x=↑c:=by
 have q:=W.cellsFrom_some a.names n [] (.inl h);exact DK.mp q
theorem sW{CX:eQ}{P:Ξ}{w:Ω}{K:ι}{mg:Fn}{base:Ψ}{N ps:Α}{Mu:Str}{d:Scope}{f:Δ}{C:Γ}{A:Around}{g:Ο}{s D:Θ}{H:Hp}{E:XK}{us:Η}{vs:Β}
  (S:Fq N ps d)(hd:A.handled=none)(l:Ia P w K mg base A g s H)(hl:vs.length=ps.length)(r:Fy vs us)
  (x:InCallC s s.heap.objs.size (bindL (envOfC Mu d s.heap.objs.size f C).kindOf (ps.zip us) λ_=>none) (cellsFrom (s.heap.objs.size+1) d.names []) (bindC (envOfC Mu d s.heap.objs.size f C).kindOf (ps.zip us) λ_=>none) D):
  Fv (aV CX P w K mg base N Mu d f C A g s H E) [] (Q6 N vs) H D:=by
 have J:ps.length<=N.length:=by have:=JH List.length S.pre;rw[J0]at this;lia
 let#[h1,tk,rfl,hk]:=x.done;have m:∀b:Δ,b∉(aV CX P w K mg base N Mu d f C A g s H E).ex:=λb z=>absurd (show b∈([]:Ι)from z) (by simp)
 exists #[l.mod,S.kind,8,Je _,λy z c h1 j=>?_,λy o=>?_,λy c _ h=>?_,λ_=>hd,Around.frames_deeper l.frames,.inr #[8],λb z=>absurd z (m b),l.bs,l.bsz,λb _ _=>m b,λb z=>absurd z (m b),l.funs,l.frf],
  rfl,l.bare,Un.kept hk,#[_,x.toInCall.ns,λi y v h1 j L=>?_],λy c h=>#[_,x.cell y c h],l.hok.fresh (Je _),λy c h=>?_,λp B=>absurd (show p∈([]:Fo)from B) (by simp),l.hok.kept hk
 ·exact name_of_addr x.apart (DL h1) (DL j)
 ·have o:d.names.lookup y=some .cell\/d.names.lookup y=some .free:=o
  rcases o with o|o
  ·exact kH o
  ·exact absurd Z (S.nofree _ (DL o))
 ·exact DW (x.above y c (DL h))
 ·have hi:i<vs.length:=by
   unfold Q6 at j
   by_cases hi:i<vs.length
   ·exact hi
   ·rw[Dw (by simpa using hi)]at j
    rw[List.getElem?_replicate]at j;split at j<;>cases j
  have I:vs[i]? =↑v:=by
   unfold Q6 at j;rw[DM (by simpa using hi),Jk]at j
   cases e:vs[i]? with
   |none=>rw[e]at j;cases j
   |some a=>rw[e]at j;cases j;rfl
  let#[u,F,G]:=r.get I;have B:ps[i]? =↑y:=by
   rw[<- S.pre,List.getElem?_take_of_lt (by lia)];exact h1
  have t:ps.Nodup:=by rw[<- S.pre];exact S.nd.sublist (List.take_sublist _ _)
  exists u,G
  rcases S.par y (JG B)with k|k
  ·exact .inl #[k,iY t B F k]
  ·let#[c,e]:=kH (n:=s.heap.objs.size+1) k
   refine .inr #[.inl k,c,e,?_]
   have q:=x.cell y c e;rw[jr t B F (by show d.names.lookup y≠_;rw[k];decide)]at q
   exact q
 ·exact l.hok.fresh (DW (x.above y c (DL h)))
 ·unfold Q6
  show _=N.length
  rw[Jx,Jd,Eh];lia
theorem B8{CX:eQ}{P:Ξ}{w:Ω}{K:ι}{mg:Fn}{base:Ψ}{k:Nat}{f:Δ}{name Mu:Str}{d:Arguments}{g:List δ}{a:Scope}{L kV doc pm cdv ct oc:Γ}{an od:Υ}
  {osl:Array Ν}{N ps:Α}{sp:Sp}(X:K.lookup f=some #[oc,od,.func (W.fnOf name Mu d g a L kV doc pm an cdv ct),osl])(D:W.codeIn K cdv Mu=true)(S:Fq N ps a)
  (m:∀vs H Q E,sp vs H Q E->vs.length=ps.length)
  (i:∀(A:Around) (c:Ο) (s:Θ) (H:Hp) (vs:Β) (Q:VK) (E:XK),FJ k (A.deeper (envOfC Mu a s.heap.objs.size f cdv))->sp vs H Q E->
   ∃t,HX (aV CX P w K mg base N Mu a f cdv A c s H E) g t/\t {nx:=λ_ H'=>Q .non H',rt:=Q} (Q6 N vs) H):
  GN P w K mg base CX (k+1) f (W.fnOf name Mu d g a L kV doc pm an cdv ct) ps sp:=by
 refine#[m,λA c s H G R vs Q E C z U r l=>?_]
 have hl:=m _ _ _ _ l;have M:K.In s.heap:=z.mod.kin.keeps λb o e=>(z.bs b o e).1
 have F:s.heap.NoLimit:=z.mod.nolimit.keeps λb o e=>(z.bs b o e).1
 have j:∀y∈ps.zip R,a.names.lookup y.1=some .local\/(a.names.lookup y.1=some .cell/\((cellsFrom (s.heap.objs.size+1) a.names []).lookup y.1).isSome=true):=λ⟨n,v⟩ hy=>by
  rcases S.par n (List.of_mem_zip hy).1 with q|q
  ·exact .inl q
  ·exact .inr #[q,W.cellsFrom_some _ _ _ (.inl q)]
 refine codeAny_call_function C.depth (M _ _ X) Z S.co S.gen Z (W.codeRec_of M D) (U _ _ _ _ ?_)
 refine wpAny_newFunctionEnv_cells S.kind j λa0 he O x=>?_
 subst he;refine#[F.keeps x.toInCall.keep,codeAny_func ?_]
 let#[t,ht,Y]:=i A c s H vs Q E (C.deeper _) l
 have I:Fv (aV CX P w K mg base N Mu a f cdv A c s H E) [] (Q6 N vs) H O:=sW S C.hd z hl r x
 refine JT (ht [] O (Q6 N vs) H _ I Y) (λT s' hs=>?_) λe s' hs=>hs
 have p:∀{h:St} {H':Hp} {v:V} {u:Γ},Fv (aV CX P w K mg base N Mu a f cdv A c s H E) [] h H' s'->Fx v u->Q v H'->CE c P w H s Q u s':=
  λ{h H' v u} J B q=>#[v,H',J.os,J.bare,J.base,J.hok,B,q]
 cases T with
 |ret u=>
  let#[v,h,H',J,B,q]:=hs;exact p J B q
 |next=>
  let#[h,H',J,q]:=hs;exact p (v:=V.non) (u:=Γ.none) J Z q
 |brk=>
  let#[_,_,_,q]:=hs;exact False.elim q
 |cont=>
  let#[_,_,_,q]:=hs;exact False.elim q
section
variable{X:Cx}{x:Str}{p pos:Pos}{e:Φ}{es:Κ}{t:TA}{id T:String}{r:Β->Hp->VK->Prop}
def wf(r:Β->Hp->VK->Prop)(t:TA):TE:=λσ H Q=>t σ H λa H1=>r a H1 Q
theorem uW(hc:zi X (.builtin id) r)(hg:Gl X x)(hm:X.mg x=none)(hv:bootBuiltins x=↑(.builtin id))(ha:PA X (e::es) t)(hn:x≠"__name__":=by decide)(hdb:(x==("__debug__":Str))=false:=by decide)
  (he:θ (e::es) X.env=(false,eval e X.env)::θ es X.env:=by rfl)(hpl:(backTo pos (θ es X.env)).any (·.1)=false:=by rfl):PE X (.Call (.Name x p) (e::es) [] pos) (wf r t):=by
 intro tx s σ H Q I h;refine Eg (Zl I hg hm hv ?_ hn hdb)
 exact PyProof.Rows.callWith_builtin1 (qD (ha pos tx s σ H _ I h) λd c ⟨g,H1,i,a,f⟩=>hc tx c σ H1 g d Q i a f) he hpl
theorem rD(hc:zi X (.type T) r)(hg:Gl X x)(hm:X.mg x=none)(hv:bootBuiltins x=↑(.type T))(ha:PA X (e::es) t)(hn:x≠"__name__":=by decide)(hdb:(x==("__debug__":Str))=false:=by decide)
  (he:θ (e::es) X.env=(false,eval e X.env)::θ es X.env:=by rfl)(hpl:(backTo pos (θ es X.env)).any (·.1)=false:=by rfl):PE X (.Call (.Name x p) (e::es) [] pos) (wf r t):=by
 intro tx s σ H Q I h;refine Eg (Zl I hg hm hv ?_ hn hdb)
 exact Dv (qD (ha pos tx s σ H _ I h) λd c ⟨g,H1,i,a,f⟩=>hc tx c σ H1 g d Q i a f) he hpl
end
end L2
namespace HT
open PySem PyProof.Rows
section
variable{prog:Ξ}{w:Ω}{A:Around}{E:Fl}{s:Θ}
theorem cat_tup{t b:Δ}{vs a:Η}{Q:Fl}(u:IsTup s.heap t vs.toArray)(hb:IsTup s.heap b a.toArray)(hv:vs≠[])
  (h1:a=[]->Q (.ref t) s)(h2:a≠[]->Q (.ref s.heap.objs.size) {s with heap:=s.heap.push {cls:= .type "tuple",data:= .seq (vs++a).toArray}})
  (hsz:vs.length+a.length<=ζ):ε (model prog w) A (binaryOp .Add (.ref t) (.ref b)) Q E s:=by
 let#[#[cls,r,data,q],j,o,n,m]:=id u;let#[#[p,h,l,g],c,f,n2,d]:=id hb;simp only at o m f d
 subst o m f d;have e:vs.toArray++a.toArray=(vs++a).toArray:=by simp
 by_cases i:a=[]
 ·exact concat_meets #[_,j,Z] #[_,c,Z] noFill_tuple_add seq_tuple_add ED EE (EF _ _)
   (tuple_addW1 t b vs.toArray a.toArray n n2 r h q g (by simpa using hv) (by simp [i])) #[j,c,h1 i]
 ·refine concat_meets #[_,j,Z] #[_,c,Z] noFill_tuple_add seq_tuple_add ED EE (EF _ _)
   (tuple_addW2 t b vs.toArray a.toArray n n2 r h q g (by simpa using hv) (by simpa using i) (by rw[Jr,Jr];exact hsz)) #[j,c,?_]
  rw[e];exact h2 i
def sIx(n d:Nat):Λ->Nat
 |none=>d
 |some v=>if v<0 then(v+(n:Int)).toNat else min v.toNat n
theorem yY(n d:Nat)(hd:d<=n)(o:Λ):sIx n d o<=n:=by
 cases o with
 |none=>exact hd
 |some v=>
  show(if v<0 then(v+(n:Int)).toNat else min v.toNat n)<=n
  by_cases a:v<0
  ·rw[Jb a];lia
  ·rw[Jc a];exact Nat.min_le_right _ _
theorem nv(v:Int)(n d:Nat):(if v<0 then max (v+(n:Int)) 0 else min v (n:Int))=((sIx n d ↑v:Nat):Int):=by
 show(if v<0 then max (v+(n:Int)) 0 else min v (n:Int))=(((if v<0 then(v+(n:Int)).toNat else min v.toNat n):Nat):Int)
 by_cases a:v<0
 ·simp only[Jb a];lia
 ·simp only[Jc a];lia
theorem oK(lo hi:Λ)(n:Nat):γ.Slice.sliceAdjust lo hi 1 (n:Int)=(((sIx n 0 lo:Nat):Int),((sIx n n hi:Nat):Int)):=by
 have h1:¬((1:Int)<0):=by lia
 unfold γ.Slice.sliceAdjust;simp only[h1,C5];refine Prod.ext ?_ ?_
 ·cases lo with
  |none=>rfl
  |some v=>exact nv v n 0
 ·cases hi with
  |none=>rfl
  |some v=>exact nv v n n
theorem oO(i j:Nat):γ.Slice.slicePlaces (i:Int) (j:Int) 1=j-i:=by
 unfold γ.Slice.slicePlaces;have h1:(1:Int)>0:=by lia
 simp only[h1,J6,Int.ediv_one];split<;>lia
theorem fY{v:Γ}{o:Λ}{Q:Λ->Θ->Prop}(p:IsPart v o)(h:Q o s):ε (model prog w) A (γ.Slice.slicePartIndex v) Q E s:=by
 cases p with
 |none=>exact slicePart_none h
 |int i t=>exact slicePart_int h
theorem sliceApplied_gen{sl:Δ}{e d:Γ}{lo hi:Λ}{n:Nat}{Q:Int×Int×Nat->Θ->Prop}(hs:s.heap.IsSliceOf sl e d .none)(pl:IsPart e lo)(g:IsPart d hi)
  (h:Q (((sIx n 0 lo:Nat):Int),1,sIx n n hi-sIx n 0 lo) s):ε (model prog w) A (γ.Slice.sliceApplied (.ref sl) (pure (n:Int))) Q E s:=by
 let#[i,c,f,a]:=id hs;unfold γ.Slice.sliceApplied γ.Slice.sliceFields;refine Ja (Ja (JO c a (x:=e) Z (Ja (JO c a (x:=d) Z (Ja (JO c a (x:= .none) Z (Jf ?_)))))))
 refine Ja (slicePart_none ?_)
 show ε _ _ (if((1:Int)==0)=true then _ else _) _ _ s
 rw[Jc ⋯]
 refine Ja (fY pl (Ja (fY g (Ja (Jf ?_)))))
 show ε _ _ (match γ.Slice.sliceAdjust lo hi 1 (n:Int)with|(lo,hi)=>pure (lo,(1:Int),γ.Slice.slicePlaces lo hi 1)) _ _ s
 rw[oK lo hi n]
 show ε _ _ (pure (((sIx n 0 lo:Nat):Int),(1:Int),γ.Slice.slicePlaces ((sIx n 0 lo:Nat):Int) ((sIx n n hi:Nat):Int) 1)) _ _ s
 rw[oO];exact Jf h
theorem t8(xs:Array Γ)(i k:Nat):((List.range k).filterMap λ(m:Nat)=>xs[((i:Int)+(m:Int)*1).toNat]?).toArray=((xs.toList.drop i).take k).toArray:=by
 have e:(λ(m:Nat)=>xs[((i:Int)+(m:Int)*1).toNat]?)=λm=>xs[i+m]? :=by
  funext m
  have:((i:Int)+(m:Int)*1).toNat=i+m:=by lia
  rw[this]
 rw[e]
 have:=pick_run xs i k
 rw[List.filterMap_map]at this;have a:((λx=>xs[x]?)∘λx=>i+x)=λm=>xs[i+m]? :=Z
 rw[a]at this;rw[this]
theorem getItem_tuple_cut{t sl:Δ}{items:Array Γ}{j i:Γ}{lo hi:Λ}{Q:Fl}(c:IsTup s.heap t items)(hs:s.heap.IsSliceOf sl j i .none)(pl:IsPart j lo)(n:IsPart i hi)
  (hw:¬(sIx items.size 0 lo=0/\sIx items.size items.size hi=items.size))
  (h:Q (.ref s.heap.objs.size) {s with heap:=s.heap.push {cls:= .type "tuple",data:= .seq ((items.toList.drop (sIx items.size 0 lo)).take (sIx items.size items.size hi-sIx items.size 0 lo)).toArray}})
  (hsz:items.size<=ζ):ε (model prog w) A (getItem (.ref t) (.ref sl)) Q E s:=by
 have a:sizeOk (.seq ((items.toList.drop (sIx items.size 0 lo)).take (sIx items.size items.size hi-sIx items.size 0 lo)).toArray):=by
  show((items.toList.drop (sIx items.size 0 lo)).take (sIx items.size items.size hi-sIx items.size 0 lo)).toArray.size<=ζ
  rw[Jr,J0,Ei,Ed];lia
 have u:sIx items.size items.size hi<=items.size:=yY _ _ (Je _) hi
 let#[o,g,e,l]:=id hs;have d:s.TypeIs (.ref sl) "slice":=#[o,g,e]
 unfold getItem
 try with_reducible refine JX ?_
 first|refine Ja (Jf ?_)|skip
 refine Ja (wpAny_sequenceKey c.typeIs ⋯ ?_)
 refine Ja (wpAny_callSpecial?_slot (name:=Str.ofString "__getitem__") c.typeIs Ej
  (J7 Ej c.typeIs entry_tuple_getitem ?_ (args_tuple_getitem _ _)))
 show ε _ _ (γ.Tuple.tupleItemsOf (.ref t) >>= _) _ _ s
 refine Ja (tupleItemsOf_ c ?_)
 refine Ja (DN d ?_)
 rw[Jb ⋯]
 refine Ja (sliceApplied_gen hs pl n ?_)
 have f:¬((((sIx items.size 0 lo:Nat):Int)==0&&(1:Int)==1&&(sIx items.size items.size hi-sIx items.size 0 lo)==items.size)=true):=by
  intro q;rw[JC,JC]at q;have r:((sIx items.size 0 lo:Nat):Int)=0:=eq_of_beq q.1.1
  have p:sIx items.size items.size hi-sIx items.size 0 lo=items.size:=eq_of_beq q.2
  exact hw #[by lia,by lia]
 show ε _ _ (if(((sIx items.size 0 lo:Nat):Int)==0&&(1:Int)==1&&(sIx items.size items.size hi-sIx items.size 0 lo)==items.size)=true then _ else _) _ _ s
 rw[Jc f,t8]
 first
  |exact Ja (m:=γ.Tuple.tupleExact _) (C6 (Jf ⟨_,rfl,Jf h⟩) a)
  |exact Ja (m:=γ.Tuple.tupleExact _) (C6 (Ja (Jf (Jf ⟨_,rfl,Jf h⟩))) a)
  |exact Ja (Ja (m:=γ.Tuple.tupleExact _) (C6 (Jf (Jf ⟨_,rfl,Jf h⟩)) a))
  |exact Ja (Ja (m:=γ.Tuple.tupleExact _) (C6 (Jf ⟨_,rfl,Jf h⟩) a))
end
end HT
namespace L2
open PySem PySem.Spec PyProof.Rows
abbrev TO:=St->Hp->(Λ->Hp->Prop)->Prop
def PO(X:Cx)(e:Χ)(t:TO):Prop:=
 ∀(tx:Fo) (s:Θ) (σ:St) (H:Hp) (Q:Λ->Hp->Prop),Fv X tx σ H s->t σ H Q->
  ε (model X.prog X.w) X.A (evalPart e X.env) (λu s'=>∃o H',Fv X tx σ H' s'/\IsPart u o/\Q o H') X.xe s
def nh:TO:=λ_ H Q=>Q none H
def vV(t:TE):TO:=λσ H Q=>t σ H λx H1=>∃i,x= .int i/\Q ↑i H1
theorem oW{ns:Ζ}:∀{us:Η},Fy (ns.map V.int) us->IntsAre us ns:=by
 induction ns with
 |nil=>intro us r;rw[Ek]at r;cases r;exact .nil
 |cons n ns ih=>
  intro us r;rw[JL]at r;cases r with
  |cons r1 r2=>
   let#[t,e]:=r1;subst e;exact .cons n t (ih r2)
section
variable{X:Cx}{e:Φ}{te:TE}{lo hi:Χ}{tl th:TO}{pos p2:Pos}
theorem wU:PO X none nh:=by
 intro tx s σ H Q I h;rw[evalPart_none];exact Jf #[none,H,I,.none,h]
theorem wO(h:PE X e te):PO X ↑e (vV te):=by
 intro tx s σ H Q I c;rw[evalPart_some];refine qD (h tx s σ H _ I c) λu j a=>?_
 let#[x,H1,g,d,f]:=a;let#[i,rfl,q]:=f;let#[t,rfl]:=d
 exact#[↑i,H1,g,.int i t,q]
def rS(X:Cx)(r:V->Λ->Λ->Hp->VK->Prop):Prop:=
 ∀(tx:Fo) (s:Θ) (σ:St) (H:Hp) (x:V) (v d a:Γ) (lo hi:Λ) (c:Δ) (Q:VK),Fv X tx σ H s->Fx x v->s.heap.IsSliceOf c d a .none->IsPart d lo->IsPart a hi->r x lo hi H Q->
  ∃T id,typeLookup (.type T) "__getitem__"=pure ↑(.builtin id)/\s.TypeIs v T/\ε (model X.prog X.w) X.A (getItem v (.ref c)) (EP X tx σ Q) X.xe s
def Cg(r:V->Λ->Λ->Hp->VK->Prop)(te:TE)(tl th:TO):TE:=λσ H Q=>te σ H λx H1=>tl σ H1 λl c=>th σ c λu a=>r x l u a Q
theorem uA{r:V->Λ->Λ->Hp->VK->Prop}(hr:rS X r)(he:PE X e te)(hl:PO X lo tl)(hu:PO X hi th):PE X (.Subscript e (.Slice lo hi none p2) pos) (Cg r te tl th):=by
 intro tx s σ H Q I h;refine Subscript_ (qD (he tx s σ H _ I h) λv A f=>?_)
 let#[x,H1,m,B,D]:=f;refine wpAny_Slice (qD (hl tx A σ H1 _ m D) λd t ⟨l,i,p,pl,C⟩=>qD (hu tx t σ i _ p C) λc a f=>?_)
 let#[u,g,w,y,j]:=f;rw[evalPart_none];refine Jf ?_
 have z:Fv X tx σ g {a with heap:=a.heap.push {cls:= .type "slice",data:= .fields (List.toArray [d,c,.none])}}:=w.kept (t':=a.toks) λb F q=>Ji _ q
 let#[T,id,o,E,n]:=hr tx {a with heap:=a.heap.push {cls:= .type "slice",data:= .fields (List.toArray [d,c,.none])}} σ g x v d c l u a.heap.objs.size Q z B (Ψ.IsSliceOf.new ..) pl y j
 show ε (model X.prog X.w) X.A (subscriptTail e (.Slice lo hi none p2) v (.ref a.heap.objs.size)) (EP X tx σ Q) X.xe {a with heap:=a.heap.push {cls:= .type "slice",data:= .fields (List.toArray [d,c,.none])}}
 exact tail_any (ops:=[.ref a.heap.objs.size,v]) E o n (by with_unfolding_all rfl)
def Z9(xs:Β)(lo hi:Λ):Β:=(xs.drop (HT.sIx xs.length 0 lo)).take (HT.sIx xs.length xs.length hi-HT.sIx xs.length 0 lo)
theorem eR(xs:Β)(lo hi:Λ):(Z9 xs lo hi).length<=xs.length:=by
 unfold Z9;rw[J0,Ei];lia
inductive LX (K:ι) (x:V) (lo:Λ) (hi:Λ) (H:Hp) (Q:VK):Prop
 |mk (a:_) (xs:_) (h1:x= .ref a) (h2:FC K H a xs) (h3:¬(HT.sIx xs.length 0 lo=0/\HT.sIx xs.length xs.length hi=xs.length)) (h4:∀p,H p=none->Q (.ref p) (Ft H p (.tup (Z9 xs lo hi))))
def Ct(K:ι):V->Λ->Λ->Hp->VK->Prop:=λx lo hi H Q=>LX K x lo hi H Q
theorem BI:rS X (Ct X.K):=by
 intro tx s σ H x v n m lo hi p Q I j hs pl l h;let#[a,xs,rfl,i,g,q]:=h;cases j;let#[d,r,e,f]:=I.tuple i;have c:d.toArray.size=xs.length:=by rw[Jr];exact r.length.symm
 exists "tuple",_,PyProof.Rows.slot_tuple_getitem.lookup,e.typeIs
 refine HT.getItem_tuple_cut e hs pl l (by rw[c];exact g) ?_ (by rw[c];exact f)
 rw[c];refine#[.ref s.heap.objs.size,_,I.laid (t':=s.toks) (o:= .tup (Z9 xs lo hi)) (λb t q=>Ji _ q) (Je _) ?_,Z,q _ (I.hok.fresh (Je _))]
 exact#[Ju (eR xs lo hi) f,_,(r.drop (HT.sIx xs.length 0 lo)).take (HT.sIx xs.length xs.length hi-HT.sIx xs.length 0 lo),IsTup.new _ _]
inductive LI (K:ι) (x:V) (y:V) (H:Hp) (Q:VK):Prop
 |mk (a:_) (b:_) (xs:_) (ys:_) (h1:x= .ref a) (h2:y= .ref b) (h3:FC K H a xs) (h4:FC K H b ys) (h5:xs≠[]) (h6:xs.length+ys.length<=ζ) (h7:(ys=[]->Q (.ref a) H)) (h8:(ys≠[]->∀p,H p=none->Q (.ref p) (Ft H p (.tup (xs++ys)))))
def BV(K:ι):R2:=λx y H Q=>LI K x y H Q
theorem Fy.nil_iff{xs:Β}{us:Η}(r:Fy xs us):us=[]↔xs=[]:=by
 cases r with
 |nil=>simp
 |cons _ _=>simp
theorem wG:zf X (binaryOp .Add) (BV X.K):=by
 intro tx s σ H x y v u Q I l t h;let#[a,b,xs,ys,rfl,rfl,p,m,i,e,n,j]:=h;cases l;cases t;let#[g,d,r,_]:=I.tuple p;let#[f,c,p2,_]:=I.tuple m;refine HT.cat_tup r p2 (λz=>i (d.nil_iff.mp z)) (λz=>#[.ref a,H,I,Z,n (c.nil_iff.mp z)]) (λz=>?_) (by rw[<- d.length,<- c.length];exact e)
 refine#[.ref s.heap.objs.size,_,I.laid (t':=s.toks) (o:= .tup (xs++ys)) (λb A q=>Ji _ q) (Je _) ?_,Z,j (λw=>z (c.nil_iff.mpr w)) _ (I.hok.fresh (Je _))]
 exact#[by rw[Jx];exact e,_,d.append c,IsTup.new _ _]
end
def aP(n:Nat)(i:Int):Option Nat:=if 0<=i then(if i<n then ↑i.toNat else none)else if -(n:Int)<=i then some (i+n).toNat else none
def QQ{a:Type}(xs:List a)(i:Int):Option a:=(aP xs.length i).bind λj=>xs[j]?
theorem nL{n:Nat}{i:Int}{j:Nat}(h:aP n i=↑j):seqIndex? i n=↑j/\j<n/\ -(n:Int)<=i/\i<n:=by
 unfold aP at h
 by_cases a:0<=i
 ·rw[Jb a]at h
  by_cases h1:i<n
  ·rw[Jb h1]at h
   have e:i.toNat=j:=Jt h
   exact#[by rw[seqIndex_of a h1,e],by lia,by lia,h1]
  ·rw[Jc h1]at h;cases h
 ·rw[Jc a]at h
  by_cases h1: -(n:Int)<=i
  ·rw[Jb h1]at h
   have e:(i+n).toNat=j:=Jt h
   exact#[by rw[seqIndex_neg (by lia) h1,e],by lia,h1,by lia]
  ·rw[Jc h1]at h;cases h
theorem nG{a:Type}{xs:List a}{i:Int}{v:a}(h:QQ xs i=↑v):∃j,seqIndex? i xs.length=↑j/\xs[j]? =↑v/\j<xs.length/\ -(xs.length:Int)<=i/\i<xs.length:=by
 unfold QQ at h;cases e:aP xs.length i with
 |none=>rw[e]at h;cases h
 |some j=>
  rw[e]at h;let#[h1,d,c,f]:=nL e
  exact#[j,h1,h,d,c,f]
theorem zW{a:Type}{xs:List a}{j:Nat}{v:a}(h:xs[j]? =↑v):QQ xs (j:Int)=↑v:=by
 have c:j<xs.length:=(Jp.mp h).1
 have e:aP xs.length (j:Int)=↑j:=by
  unfold aP;rw[Jb (by lia),Jb (by lia)];simp
 unfold QQ;rw[e];exact h
theorem ko{a:Type}(xs:List a)(v:a):QQ (xs++[v]) (-1)=↑v:=by
 have c:(xs++[v]).length=xs.length+1:=by simp
 have e:aP (xs++[v]).length (-1)=↑xs.length:=by
  unfold aP;rw[c,Jc ⋯,Jb (by lia)]
  congr 1
  lia
 unfold QQ;rw[e]
 show(xs++[v])[xs.length]? =↑v
 simp
def nX(b:Φ):Prop:=∀o i,subscripted b false o i=operate [o,i] (getItem o i)
def IW(X:Cx)(r:R2):Prop:=
 ∀(value a:Φ) (tx:Fo) (s:Θ) (σ:St) (H:Hp) (x y:V) (v u:Γ) (Q:VK),Fv X tx σ H s->Fx x v->Fx y u->r x y H Q->
  subscripted a false v u=operate [v,u] (getItem v u)->ε (model X.prog X.w) X.A (subscriptTail value a v u) (EP X tx σ Q) X.xe s
def mW(X:Cx)(id:String)(r:V->Β->Hp->VK->Prop):Prop:=
 ∀(tx:Fo) (s:Θ) (σ:St) (H:Hp) (x:V) (xs:Β) (v:Γ) (a:Η) (Q:VK),Fv X tx σ H s->Fx x v->Fy xs a->r x xs H Q->
  ε (model X.prog X.w) X.A (call (.builtin id) (v::a)) (EP X tx σ Q) X.xe s
section
variable{X:Cx}{a b:Φ}{ta tb:TE}{pos:Pos}
theorem IW.or{r d:R2}(h:IW X r)(h':IW X d):IW X (λx y H Q=>r x y H Q\/d x y H Q):=by
 intro value a tx s σ H x y v u Q I e c q hs;rcases q with q|q
 ·exact h value a tx s σ H x y v u Q I e c q hs
 ·exact h' value a tx s σ H x y v u Q I e c q hs
theorem BT{r:R2}(hr:IW X r)(ha:PE X a ta)(hb:PE X b tb)(hs:nX b):PE X (.Subscript a b pos) (iU r ta tb):=by
 intro tx s σ H Q I h;exact Subscript_ (uE ha hb I h λv u e x y g c d f q=>hr a b tx e σ g x y v u Q c d f q (hs _ _))
inductive LY (K:ι) (x:V) (y:V) (H:Hp) (Q:VK):Prop
 |mk (p:_) (xs:_) (i:_) (v:_) (h1:x= .ref p) (h2:y= .int i) (h3:Fw K H p xs) (h4:QQ xs i=↑v) (h5:Q v H)
def uO(K:ι):R2:=λx y H Q=>LY K x y H Q
inductive LZ (K:ι) (x:V) (y:V) (H:Hp) (Q:VK):Prop
 |mk (p:_) (xs:_) (i:_) (v:_) (h1:x= .ref p) (h2:y= .int i) (h3:FC K H p xs) (h4:QQ xs i=↑v) (h5:Q v H)
def uo(K:ι):R2:=λx y H Q=>LZ K x y H Q
theorem qG:IW X (uO X.K):=by
 intro value d tx s σ H x y v u Q I D A h hs;let#[p,xs,i,z,rfl,rfl,o,C,q]:=h;cases D;let#[t,rfl]:=A;let#[e,r,pl,J]:=I.list o;let#[j,h1,m,F,n,E]:=nG C;let#[w,g,c]:=r.get m;have B:=r.length;have G:=ZA;have a:EP X tx σ Q w s:=#[z,H,I,c,q]
 by_cases l:0<=i
 ·have f:i.toNat=j:=by
   rw[seqIndex_of l E]at h1;exact Jt h1
  exact item_listR pl.isList l (by lia) (by rw[f];simpa using g) a hs
 ·have f:(i+(e.toArray.size:Int)).toNat=j:=by
   rw[seqIndex_neg (by lia) n]at h1
   rw[Jr,<- B];exact Jt h1
  exact subscriptTail_builtinR (x:=w) pl.isList.typeIs slot_list_getitem.lookup
   (wpAny_getItem_list_neg (Q:=λr s'=>r=w/\EP X tx σ Q r s') pl.isList (by lia) (by rw[Jr]<;>lia) (by lia) (by rw[f];simpa using g) #[Z,a]) hs
theorem zk:IW X (uo X.K):=by
 intro value d tx s σ H x y v u Q I g n h hs;let#[p,xs,i,z,rfl,rfl,f,A,q]:=h;cases g;let#[t,rfl]:=n;let#[e,r,pl,F]:=I.tuple f;let#[j,h1,l,D,E,C]:=nG A;let#[w,m,a]:=r.get l;have o:=r.length;have B:=ZA;have c:EP X tx σ Q w s:=#[z,H,I,a,q]
 exact subscriptTail_builtinR (x:=w) pl.typeIs slot_tuple_getitem.lookup
  (getItem_tuple (j:=j) (Q:=λr s'=>r=w/\EP X tx σ Q r s') pl (by lia) (by lia) (by rw[Jr,<- o];exact h1) (by simpa using m) #[Z,c]) hs
theorem pA(its:Η)(n j:Nat)(u:Γ):Obj.mapSeq (·.setIfInBounds j u) {cls:= .type "list",data:= .seq its.toArray n}={cls:= .type "list",data:= .seq (its.set j u).toArray n}:=by
 simp [Obj.mapSeq]
theorem Fv.lst{tx:Fo}{σ:St}{H:Hp}{s:Θ}{p:Δ}{xs:Β}(I:Fv X tx σ H s)(h:H p=↑(.lst xs)):
  ∃(its:Η) (n:Nat),Fy xs its/\s.heap.get? p=some {cls:= .type "list",data:= .seq its.toArray n}/\xs.length<=ζ:=by
 let#[z,its,n,r,e]:=I.hok p _ h
 exact#[its,n,r,e,z]
theorem Fv.lstUpd{tx:Fo}{σ:St}{H:Hp}{s:Θ}{p:Δ}{xs ys:Β}{its its':Η}{n n':Nat}{f:Obj->Obj}(I:Fv X tx σ H s)(h:H p=↑(.lst xs))
  (ho:s.heap.get? p=some {cls:= .type "list",data:= .seq its.toArray n})(hf:f {cls:= .type "list",data:= .seq its.toArray n}={cls:= .type "list",data:= .seq its'.toArray n'})(r:Fy ys its')(a:ys.length<=ζ)(t:Nat):
  Fv X tx σ (Ft H p (.lst ys)) {s with heap:=s.heap.update p f,toks:=t}:=by
 have e:(s.heap.update p f).get? p=some {cls:= .type "list",data:= .seq its'.toArray n'}:=by
  rw[El f ho (by rw[hf]<;>rfl),hf]
 refine I.write (x:=p) (e:=p) (by rw[h];trivial) (.inl Z) (λb u c q=>(Ψ.get?_update_other _ _ (Ne.symm c)).trans q) #[_,e] ?_
 exact#[a,its',n',r,e]
inductive LJ (o:V) (i:V) (v:V) (H:Hp) (Q:Hp->Prop):Prop
 |mk (p:_) (xs:_) (k:_) (j:_) (h1:o= .ref p) (h2:i= .int k) (h3:H p=↑(.lst xs)) (h4:aP xs.length k=↑j) (h5:Q (Ft H p (.lst (xs.set j v))))
def B5:V->V->V->Hp->(Hp->Prop)->Prop:=λo i v H Q=>LJ o i v H Q
theorem QF:lh X B5:=by
 intro tx s σ H o i v E C u Q I x w y h;let#[p,xs,k,j,rfl,rfl,l,A,q]:=h;cases x;let#[t,rfl]:=w;let#[a,n,r,c,z]:=I.lst l;let#[h1,D,g,f]:=nL A;have d:=r.length;have B:=ZA;have e:Fv X tx σ (Ft H p (.lst (xs.set j v))) {s with heap:=s.heap.update p (Obj.mapSeq (·.setIfInBounds j u))}:=
  I.lstUpd l c (pA a n j u) (r.set y j) (by rw[DX];exact z) s.toks
 by_cases m:0<=k
 ·have hk:k.toNat=j:=by
   rw[seqIndex_of m f]at h1;exact Jt h1
  exact W.ki_setAt c m (by lia) (by rw[Jr,<- d];exact f) (by rw[hk];exact#[_,e,q])
 ·have hk:(k+(a.toArray.size:Int)).toNat=j:=by
   rw[seqIndex_neg (by lia) g]at h1
   rw[Jr,<- d];exact Jt h1
  exact W.ki_setBack c (by lia) (by rw[Jr,<- d];exact g) (by lia) (by rw[hk];exact#[_,e,q])
theorem kz(lo hi:Λ)(n:Nat):(sliceBounds lo hi none n).1=((HT.sIx n 0 lo:Nat):Int)/\(sliceBounds lo hi none n).2.1=((HT.sIx n n hi:Nat):Int)/\(sliceBounds lo hi none n).2.2=1:=by
 refine#[?_,?_,Z]
 ·cases lo with
  |none=>simp [sliceBounds,HT.sIx]
  |some i=>
   simp only[sliceBounds,HT.sIx,Option.getD_none,show(1:Int)>0 by decide,J6]
   by_cases h:i<0
   ·simp only[h,J6]<;>lia
   ·simp only[h,C5]<;>lia
 ·cases hi with
  |none=>simp [sliceBounds,HT.sIx]
  |some i=>
   simp only[sliceBounds,HT.sIx,Option.getD_none,show(1:Int)>0 by decide,J6]
   by_cases h:i<0
   ·simp only[h,J6]<;>lia
   ·simp only[h,C5]<;>lia
theorem jy(its:Η)(lo hi:Λ):slicePick its.toArray lo hi none=((its.drop (HT.sIx its.length 0 lo)).take (HT.sIx its.length its.length hi-HT.sIx its.length 0 lo)).toArray:=by
 let#[h1,a,c]:=kz lo hi its.toArray.size;unfold slicePick;rw[h1,a,c];simp only[sliceRange_one,pick_run,Jr]<;>rfl
inductive L1 (K:ι) (x:V) (lo:Λ) (hi:Λ) (H:Hp) (Q:VK):Prop
 |mk (a:_) (xs:_) (h1:x= .ref a) (h2:Fw K H a xs) (h3:∀p,H p=none->Q (.ref p) (Ft H p (.lst (Z9 xs lo hi))))
def CC(K:ι):V->Λ->Λ->Hp->VK->Prop:=λx lo hi H Q=>L1 K x lo hi H Q
theorem wI:rS X (CC X.K):=by
 intro tx s σ H x v m l lo hi n Q I g hs pl i h;let#[a,xs,rfl,f,q]:=h;cases g;let#[e,r,d,j]:=I.list f;have c:=r.length;exists "list",_,slot_list_getitem.lookup,d.isList.typeIs
 refine wpAny_getItem_list_slice d.isList hs pl i .none (by simp) ?_ (by rw[Jr]<;>lia)
 rw[jy,<- c];refine#[.ref s.heap.objs.size,_,I.laid (t':=s.toks) (o:= .lst (Z9 xs lo hi)) (λb p q=>Ji _ q) (Je _) ?_,Z,q _ (I.hok.fresh (Je _))]
 exact#[Ju (eR xs lo hi) j,_,(0),(r.drop (HT.sIx xs.length 0 lo)).take (HT.sIx xs.length xs.length hi-HT.sIx xs.length 0 lo),Jq _ Z]
def ZZ:V->Bool
 | .non=>true
 | .bl _=>true
 | .int _=>true
 | .str _=>true
 |_=>false
def gV:V->V->Bool
 | .non,.non=>true
 | .bl a,.bl b=>a==b
 | .bl a,.int b=>(if a then 1 else 0)==b
 | .int a,.bl b=>a==(if b then 1 else 0)
 | .int a,.int b=>a==b
 | .str a,.str b=>a==b
 |_,_=>false
theorem Bc{A:Around}{s:Θ}{y x:V}{u v:Γ}(f:Fx y u)(c:Fx x v)(g:ZZ y=true)(e:ZZ x=true):SeqAt.EqAt A s u v (gV y x):=by
 cases y with
 |non=>
  cases f;cases x with
  |non=>cases c;exact SeqAt.EqAt.same _
  |bl b=>cases c;exact SeqAt.EqAt.none_bool b
  |int b=>let#[t,rfl]:=c;exact SeqAt.EqAt.none_int b t
  |str b=>let#[t,rfl]:=c;exact SeqAt.EqAt.none_str b t
  |_=>exact absurd (show false=true from e) JD
 |bl a=>
  cases f;cases x with
  |non=>cases c;exact SeqAt.EqAt.bool_none a
  |bl b=>cases c;exact SeqAt.EqAt.bool_bool a b
  |int b=>let#[t,rfl]:=c;exact SeqAt.EqAt.bool_int a b t
  |str b=>let#[t,rfl]:=c;exact SeqAt.EqAt.bool_str a b t
  |_=>exact absurd (show false=true from e) JD
 |int a=>
  let#[d,rfl]:=f;cases x with
  |non=>cases c;exact SeqAt.EqAt.int_none a d
  |bl b=>cases c;exact SeqAt.EqAt.int_bool a d b
  |int b=>let#[t,rfl]:=c;exact SeqAt.EqAt.int_int a d b t
  |str b=>let#[t,rfl]:=c;exact SeqAt.EqAt.int_str a d b t
  |_=>exact absurd (show false=true from e) JD
 |str a=>
  let#[d,rfl]:=f;cases x with
  |non=>cases c;exact SeqAt.EqAt.str_none a d
  |bl b=>cases c;exact SeqAt.EqAt.str_bool a d b
  |int b=>let#[t,rfl]:=c;exact SeqAt.EqAt.str_int a d b t
  |str b=>let#[t,rfl]:=c;exact SeqAt.EqAt.str_str a d b t
  |_=>exact absurd (show false=true from e) JD
 |_=>exact absurd (show false=true from g) JD
def aA(x:V)(u:Γ):Bool:=match u with
 | .none=>gV .non x
 | .bool b=>gV (.bl b) x
 | .int i _=>gV (.int i) x
 | .str z _=>gV (.str z) x
 |_=>false
theorem tj{x y:V}{u:Γ}(r:Fx y u)(f:ZZ y=true):aA x u=gV y x:=by
 cases y with
 |non=>cases r;rfl
 |bl b=>cases r;rfl
 |int i=>let#[t,rfl]:=r;rfl
 |str z=>let#[t,rfl]:=r;rfl
 |_=>exact absurd (show false=true from f) JD
theorem bm{x:V}:∀{xs:Β} {us:Η},Fy xs us->xs.all ZZ=true->us.any (aA x)=xs.any λy=>gV y x
 |_,_,.nil,_=>rfl
 |y::xs,u::us,.cons r t,f=>by
  rw[List.all_cons,JC]at f;rw[Dx,Dx,tj r f.1,bm t f.2]
theorem au{A:Around}{s:Θ}{x:V}{v:Γ}(c:Fx x v)(d:ZZ x=true):∀{xs:Β} {us:Η},Fy xs us->xs.all ZZ=true->∀u∈us,SeqAt.EqAt A s u v (aA x u)
 |_,_,.nil,_=>λu a=>by cases a
 |y::xs,u::us,.cons r t,f=>λe a=>by
  rw[List.all_cons,JC]at f;rcases Jl.mp a with rfl|a
  ·rw[tj r f.1];exact Bc r c f.1 d
  ·exact au c d t f.2 e a
def v4(x:V)(xs:Β):Bool:=xs.any λy=>gV y x
inductive Mq (K:ι) (neg:Bool) (x:V) (y:V) (H:Hp) (Q:VK):Prop
 |mk (p:_) (xs:_) (h1:y= .ref p) (h2:(Fw K H p xs\/FC K H p xs)) (h3:ZZ x=true) (h4:xs.all ZZ=true) (h5:Q (.bl (if neg then ! v4 x xs else v4 x xs)) H)
def Bt(K:ι)(a:Bool):R2:=λx y H Q=>Mq K a x y H Q
theorem sS:zf X (compareOp .In) (Bt X.K false):=by
 intro tx s σ H x y v u Q I f i h;let#[p,xs,rfl,c,e,fs,q]:=h;cases i;rcases c with c|c
 ·let#[a,r,pl,g]:=I.list c
  refine SeqAt.in_listAt (aA x) pl.isList (λw d=>au f e r fs w (by simpa using d)) #[.bl _,H,I,Z,?_]
  rw[show a.toArray.any (aA x)=a.any (aA x) by simp,bm r fs]
  exact q
 ·let#[a,r,pl,g]:=I.tuple c
  refine SeqAt.in_tupleAt (aA x) pl (λw d=>au f e r fs w (by simpa using d)) #[.bl _,H,I,Z,?_]
  rw[show a.toArray.any (aA x)=a.any (aA x) by simp,bm r fs]
  exact q
theorem cy:zf X (compareOp .NotIn) (Bt X.K true):=by
 intro tx s σ H x y v u Q I f i h;let#[p,xs,rfl,c,e,fs,q]:=h;cases i;rcases c with c|c
 ·let#[a,r,pl,g]:=I.list c
  refine SeqAt.notIn_listAt (aA x) pl.isList (λw d=>au f e r fs w (by simpa using d)) #[.bl _,H,I,Z,?_]
  rw[show a.toArray.any (aA x)=a.any (aA x) by simp,bm r fs]
  exact q
 ·let#[a,r,pl,g]:=I.tuple c
  refine SeqAt.notIn_tupleAt (aA x) pl (λw d=>au f e r fs w (by simpa using d)) #[.bl _,H,I,Z,?_]
  rw[show a.toArray.any (aA x)=a.any (aA x) by simp,bm r fs]
  exact q
theorem qL:zi X (.builtin "len") (λxs H Q=>∃p ys,xs=[.ref p]/\(Fw X.K H p ys\/FC X.K H p ys)/\Q (.int ys.length) H):=by
 intro tx s σ H xs j Q I r h;let#[p,ys,rfl,c,q]:=h;let#[u,rfl,f]:=Qt r;cases f;have i:=ZA;rcases c with c|c
 ·let#[d,e,pl,g]:=I.list c
  have a:=e.length;exact Calls.call_len_list pl.isList (by simp only[Jr]<;>lia) #[.int ys.length,H,I.tok _,#[s.toks+1,by rw[Jr,a]],q]
 ·let#[d,e,pl,g]:=I.tuple c
  have a:=e.length;exact len_tuple pl (by simp only[Jr]<;>lia) #[.int ys.length,H,I.tok _,#[s.toks+1,by rw[Jr,a]],q]
theorem lG:zi X (.builtin "len") (λxs H Q=>∃z,xs=[.str z]/\z.length<=ζ/\Q (.int z.length) H):=by
 intro tx s σ H xs c Q I r h;let#[z,rfl,d,q]:=h;let#[u,rfl,t,rfl]:=Qt r;have a:=ZA;exact len_str (by lia) #[.int z.length,H,I.tok _,#[0],q]
theorem Zt:zi X (.type "list") (λxs H Q=>∃p ys,xs=[.ref p]/\(Fw X.K H p ys\/FC X.K H p ys)/\∀l,H l=none->Q (.ref l) (Ft H l (.lst ys))):=by
 intro tx s σ H xs y Q I r h;let#[p,ys,rfl,g,q]:=h;let#[u,rfl,x]:=Qt r;cases x;have m:∀(a:Η),Fy ys a->ys.length<=ζ->∀(h':Ψ) (d:Nat),(∀b o',s.heap.get? b=↑o'->h'.get? b=↑o')->
   h'.get? s.heap.objs.size=some {cls:= .type "list",dict:=none,data:= .seq a.toArray d,slots:= (List.toArray [])}->EP X tx σ Q (.ref s.heap.objs.size) {s with heap:=h'}:=λa c j h' d f e=>
  #[.ref s.heap.objs.size,_,I.laid (t':=s.toks) f (Je _) (show FE X.prog X.w _ h' _ (.lst ys)from#[j,a,d,c,e]),Z,q _ (I.hok.fresh (Je _))]
 rcases g with g|g
 ·let#[a,c,pl,j]:=I.list g
  have i:=c.length;let#[o,w,v,n,t]:=pl.isList;exact call_list_seq p (.inl Z) w v t (λh' d f e=>m a c j h' d f e) (by simp only[Jr]<;>lia)
 ·let#[a,c,pl,j]:=I.tuple g
  have i:=c.length;let#[o,w,v,n,t]:=pl;exact call_list_seq p (.inr Z) w v t (λh' d f e=>m a c j h' d f e) (by simp only[Jr]<;>lia)
theorem qY:zi X (.type "tuple") (λxs H Q=>∃p ys,xs=[.ref p]/\((Fw X.K H p ys/\∀l,H l=none->Q (.ref l) (Ft H l (.tup ys)))\/(FC X.K H p ys/\Q (.ref p) H))):=by
 intro tx s σ H xs t Q I r h;let#[p,ys,rfl,h]:=h;let#[u,rfl,n]:=Qt r;cases n;rcases h with⟨d,q⟩|⟨d,q⟩
 ·let#[a,c,pl,g]:=I.list d
  have f:=c.length;refine call_tuple_list pl.isList (λh' j=>?_) (by simp only[Jr]<;>lia)
  have i:Fv X tx σ H {s with heap:=h'}:=I.kept (t':=s.toks) j
  have m:Fv X tx σ (Ft H h'.objs.size (.tup ys)) {s with heap:=h'.push {cls:= .type "tuple",data:= .seq a.toArray}}:=
   i.laid (t':=s.toks) (λb o e=>Ji _ e) (Je _) (show FE X.prog X.w _ _ _ (.tup ys)from#[g,a,c,IsTup.new _ _])
  exact#[.ref h'.objs.size,_,m,Z,q _ (i.hok.fresh (Je _))]
 ·let#[a,c,pl,g]:=I.tuple d
  exact call_tuple_same pl #[.ref p,H,I,Z,q]
def Cf(K:ι)(T:String)(x:V)(H:Hp):Prop:=match x with
 | .str _=>T="str"
 | .int _=>T="int"
 | .ref p=>(T="list"/\∃xs,Fw K H p xs)\/(T="tuple"/\∃o,K.lookup p=↑o/\o.cls= .type "tuple"/\o.dict=none)\/
   (T="dict"/\((∃kvs,H p=↑(.dK kvs))\/∃kvs,H p=↑(.dT kvs)))\/(T="set"/\∃S n,H p=↑(.set S n))
 |_=>False
theorem AT{tx:Fo}{σ:St}{H:Hp}{s:Θ}{T:String}{x:V}{v:Γ}(I:Fv X tx σ H s)(r:Fx x v)(ty:Cf X.K T x H):
  s.TypeIs v T/\∀a,v= .ref a->∃g,s.heap.get? a=↑g/\g.dict=none:=by
 cases x with
 |str z=>
  let#[t,rfl]:=r
  cases(show T="str" from ty)
  exact#[typeIs_str s z t,λ_ e=>nomatch e]
 |int i=>
  let#[t,rfl]:=r
  cases(show T="int" from ty)
  exact#[typeIs_int s i t,λ_ e=>nomatch e]
 |ref p=>
  cases r;rcases ty with⟨rfl,xs,j⟩|⟨rfl,o,hk,l,d⟩|⟨rfl,hk⟩|⟨rfl,S,n,hk⟩
  ·let#[h,_,pl,_]:=I.list j
   refine#[pl.isList.typeIs,λa e=>?_]
   cases e;let#[o,n,e,c,d,_]:=pl
   exact#[o,e,d]
  ·refine#[#[o,I.kIn p o hk,l],λa e=>?_]
   cases e
   exact#[o,I.kIn _ o hk,d]
  ·have z:∃o,s.heap.get? p=↑o/\o.ExactDict:=by
    rcases hk with⟨kvs,hk⟩|⟨kvs,hk⟩
    ·let#[_,_,_,_,o,_,_,e,ex,_]:=I.hok p _ hk
     exact#[o,e,ex]
    ·let#[_,_,_,_,o,_,_,e,ex,_]:=I.hok p _ hk
     exact#[o,e,ex]
   let#[o,e,ex]:=z;refine#[#[o,e,ex.1],λa f=>?_]
   cases f
   exact#[o,e,ex.2.1]
  ·let#[o,_,_,_,e,ex,_]:=I.hok p _ hk
   refine#[#[o,e,ex.1],λa f=>?_]
   cases f
   exact#[o,e,ex.2.1]
 |_=>exact False.elim ty
def Al(K:ι)(T:String)(r:V->Β->Hp->VK->Prop)(to:TE)(t:TA):TE:=λσ H Q=>to σ H λx H1=>Cf K T x H1/\t σ H1 λxs a=>r x xs a Q
variable{o e:Φ}{es:Κ}{to:TE}{t:TA}{name:Str}{apos cpos:Pos}{T id:String}{r:V->Β->Hp->VK->Prop}
theorem BS(A:PlainAttrs T)(f:Slot T name id)(i:typeOf (.builtin id)=pure (.type "method_descriptor"))(hm:mW X id r)(ho:PE X o to)(ha:PA X (e::es) t)
  (c:attributeBase o name X.env (eval o X.env)=eval o X.env:=by rfl)
  (g:((backTo cpos (θ (e::es) X.env)).all (λx=> ! x.1)&&(backToKw cpos (keywordEach [] X.env)).all (λx=>x.1.isSome)
   &&decide ((e::es).length+([]:β).length+(if([]:β).isEmpty then 0 else 1)<30))=true:=by rfl)
  (d:(apos.endLine==cpos.line)=true:=by rfl)(hs:θ (e::es) X.env=(false,eval e X.env)::θ es X.env:=by rfl)(a:(backTo cpos (θ es X.env)).any (·.1)=false:=by rfl):
  PE X (.Call (.Attribute o name apos) (e::es) [] cpos) (Al X.K T r to t):=by
 intro tx s σ H Q I h;refine wpAny_Call_method_late c g d Z (qD (ho tx s σ H _ I h) λv B w=>?_)
 let#[x,H1,j,m,ty,D]:=w;let#[h1,p]:=AT j m ty;exists T,id,A,f,i,h1,p
 have l:=ha cpos tx B σ H1 _ j D;rw[hs]at l⊢;refine Calls.callWith_builtin (by show(false||(backTo cpos (θ es X.env)).any (·.1))=false;rw[a]<;>rfl) (Calls.evalArgs_plain ?_)
 exact qD l λn z ⟨u,q,y,E,C⟩=>hm tx z σ q x u v n Q y m E C
end
def Cb(X:Cx)(id:String)(r:V->Β->Hp->VK->Prop):Prop:=
 ∀(tx:Fo) (s:Θ) (σ:St) (H:Hp) (x:V) (xs:Β) (v:Γ) (a:Η) (Q:VK),Fv X tx σ H s->Fx x v->Fy xs a->r x xs H Q->
  ε (model X.prog X.w) X.A (call (.builtin id) (v::a)) (EP X tx σ Q) X.xe s
theorem Fy.one:∀{x:V} {us:Η},Fy [x] us->∃u,us=[u]/\Fx x u
 :=by
 intro x us h;cases h with
 |cons r q=>cases q;exact#[0,r]
theorem Fy.two:∀{x y:V} {us:Η},Fy [x,y] us->∃u v,us=[u,v]/\Fx x u/\Fx y v
 :=by
 intro x y us h;cases h with
 |cons r q=>cases q with
  |cons q z=>cases z;exact#[5,r,q]
theorem Fy.eraseIdx:∀{xs:Β} {us:Η} (i:Nat),Fy xs us->Fy (xs.eraseIdx i) (us.eraseIdx i)
 |_,_,_,.nil=> .nil
 |_,_,0,.cons _ t=>t
 |_,_,i+1,.cons r t=> .cons r (Fy.eraseIdx i t)
theorem Fy.rep{xs:Β}{us:Η}(h:Fy xs us):∀k:Nat,Fy (List.replicate k xs).flatten (List.replicate k us).flatten
 |0=> .nil
 |k+1=>by
  rw[DY,DY,Eo,Eo];exact Fy.append h (Fy.rep h k)
theorem iX{a:Type}:∀(l:List a) (i:Nat),(l.eraseIdx i).length<=l.length
 | [],_=>Je _
 |_::_,0=>C3 _
 |_::r,i+1=>Nat.succ_le_succ (iX r i)
theorem jq(its:Η):∀(k:Nat) (a:Η),
  List.foldl (λc d=>c++d) a.toArray (List.replicate k its.toArray)=(a++(List.replicate k its).flatten).toArray
 |0,a=>by simp
 |k+1,a=>by
  have e:a.toArray++its.toArray=(a++its).toArray:=by simp
  have f:(a++its)++(List.replicate k its).flatten=a++(List.replicate (k+1) its).flatten:=by
   rw[DY,Eo,Dy]
  rw[<- f,<- jq its k (a++its),<- e,DY,List.foldl_cons]
section
variable{X:Cx}{tx:Fo}{σ:St}{H:Hp}{s:Θ}{l:Δ}{xs ys:Β}
theorem Fv.lset{its its':Η}{n:Nat}{f:Array Γ->Array Γ}{t':Nat}(I:Fv X tx σ H s)(d:H l=↑(.lst xs))
  (e:s.heap.get? l=some {cls:= .type "list",data:= .seq its.toArray n})(hf:f its.toArray=its'.toArray)(hv:Fy ys its')(g:ys.length<=ζ):
  Fv X tx σ (Ft H l (.lst ys)) {s with heap:=s.heap.update l (Obj.mapSeq f),toks:=t'}:=by
 have q:=PySem.IsL.update e f;rw[hf]at q;refine I.write (x:=l) (e:=l) (by rw[d];exact trivial) (.inl Z) (λh u c a=>(Ψ.get?_update_other s.heap (Obj.mapSeq f) (Ne.symm c)).trans a) #[_,q] ?_
 exact#[g,its',_,hv,q]
theorem Fv.lnew{its:Η}{t':Nat}(I:Fv X tx σ H s)(hv:Fy ys its)(a:ys.length<=ζ):
  Fv X tx σ (Ft H s.heap.objs.size (.lst ys)) {s with heap:=s.heap.push {cls:= .type "list",data:= .seq its.toArray},toks:=t'}:=
 I.laid (λ_ _ q=>Ji _ q) (Je _) #[a,its,(0),hv,Jq _ Z]
theorem Fv.fresh(I:Fv X tx σ H s):H s.heap.objs.size=none:=I.hok.fresh (Je _)
theorem Fv.lstM(I:Fv X tx σ H s)(a:H l=↑(.lst xs)):xs.length<=ζ/\∃(its:Η) (n:Nat),Fy xs its/\xs.length=its.length/\s.heap.get? l=some {cls:= .type "list",data:= .seq its.toArray n}:=by
 let#[z,its,n,r,e]:=I.hok l _ a
 exact#[z,its,n,r,r.length,e]
theorem uH{n:Nat}(h:n<=ζ):γ.List.listTooLong n=false:=by
 unfold γ.List.listTooLong;exact Jj (by lia)
end
section
variable{X:Cx}
inductive IZ (x:V) (vs:Β) (H:Hp) (Q:VK):Prop
 |mk (l:_) (xs:_) (y:_) (h1:x= .ref l) (h2:vs=[y]) (h3:H l=↑(.lst xs)) (h4:xs.length<ζ) (h5:Q .non (Ft H l (.lst (xs++[y]))))
def mY:V->Β->Hp->VK->Prop:=λx a H Q=>IZ x a H Q
theorem sg:Cb X "list.append" mY:=by
 intro tx s σ H x m v i Q I g d h;let#[l,xs,y,rfl,rfl,c,j,q]:=h;cases g;let#[u,rfl,f]:=d.one;let#[z,a,n,r,o,e]:=I.lstM c;refine Dz F.slot_list_append #[_,e,Z] F.entry_list_append (F.args_list_append_2 _ _) (PySem.list_append l a.toArray n u (by rw[Jr];lia)) #[e,?_]
 refine#[.non,_,I.lset (its':=a++[u]) c e (by simp) (r.append (.cons f .nil)) ?_,Z,q]
 rw[Jx,Ep];lia
inductive Ly (x:V) (vs:Β) (H:Hp) (Q:VK):Prop
 |mk (l:_) (xs:_) (i:_) (k:_) (y:_) (h1:x= .ref l) (h2:vs=[.int i]) (h3:H l=↑(.lst xs)) (h4: -(2 ^ 63)<=i) (h5:i<2 ^ 63) (h6:seqIndex? i xs.length=↑k) (h7:xs[k]? =↑y) (h8:Q y (Ft H l (.lst (xs.eraseIdx k))))
def pW:V->Β->Hp->VK->Prop:=λx a H Q=>Ly x a H Q
theorem uB:Cb X "list.pop" pW:=by
 intro tx s σ H x C v B Q I m g h;let#[l,xs,i,k,y,rfl,rfl,d,h1,o,hk,p,q]:=h;cases m;let#[u,rfl,j]:=g.one;let#[t,rfl]:=j;let#[z,a,n,r,A,e]:=I.lstM d;let#[w,f,c]:=r.get p;refine Dz F.slot_list_pop #[_,e,Z] F.entry_list_pop (F.args_list_pop_2 _ _)
  (MeetsSeq.list_pop_at l a.toArray n i t k w (fitsIndex_both h1 o) (by rw[Jr,<- A];exact hk) (by rw[<- Array.getElem?_toList];exact f) (by rw[Jr];lia)) #[e,?_]
 refine#[y,_,I.lset (its':=a.eraseIdx k) d e ?_ (r.eraseIdx k) ?_,c,q]
 ·show a.toArray.eraseIdxIfInBounds k=(a.eraseIdx k).toArray
  rw[List.eraseIdxIfInBounds_toArray]
 ·have:=iX xs k
  lia
inductive L4 (x:V) (y:V) (H:Hp) (Q:VK):Prop
 |mk (l:_) (b:_) (xs:_) (zs:_) (h1:x= .ref l) (h2:y= .ref b) (h3:H l=↑(.lst xs)) (h4:H b=↑(.lst zs)) (h5:xs.length+zs.length<=ζ) (h6:∀p,H p=none->Q (.ref p) (Ft H p (.lst (xs++zs))))
def Cr:R2:=λx y H Q=>L4 x y H Q
theorem Bi:zf X (binaryOp .Add) Cr:=by
 intro tx s σ H x y v u Q I i m h;let#[l,b,xs,t,rfl,rfl,j,d,A,q]:=h;cases i;cases m;let#[z,c,n,r,B,e]:=I.lstM j;let#[w,a,n2,o,g,p]:=I.lstM d;refine PySem.P.add_list e p ?_ (by rw[Jr,Jr];lia)
 have f:c.toArray++a.toArray=(c++a).toArray:=by simp
 rw[f]
 exact#[.ref _,_,I.lnew (t':=s.toks) (r.append o) (by rw[Jx];lia),Z,q _ I.fresh]
inductive L5 (x:V) (y:V) (H:Hp) (Q:VK):Prop
 |mk (l:_) (k:_) (xs:_) (h1:x= .ref l) (h2:y= .int k) (h3:H l=↑(.lst xs)) (h4: -(2 ^ 63)<=k) (h5:k<2 ^ 63) (h6:xs.length*k.toNat<=ζ) (h7:∀p,H p=none->Q (.ref p) (Ft H p (.lst (List.replicate k.toNat xs).flatten)))
def CD:R2:=λx y H Q=>L5 x y H Q
theorem yM{a:Type}(xs:List a)(k:Nat):(List.replicate k xs).flatten.length=k*xs.length:=by
 induction k with
 |zero=>simp
 |succ k ih=>rw[DY,Eo,Jx,ih,Nat.succ_mul,Nat.add_comm]
theorem kN:zf X (binaryOp .Mult) CD:=by
 intro tx s σ H x y v u Q I B E h;let#[l,k,xs,rfl,rfl,D,h1,C,w,q]:=h;cases B;let#[t,rfl]:=E;let#[z,c,n,r,G,e]:=I.lstM D;have j:c.toArray.size*k.toNat<=ζ:=by rw[Jr,<- G];exact w
 have g:¬c.toArray.size*k.toNat>(2 ^ 63-1)/8:=by
  have:(ζ:Nat)<=(2 ^ 63-1)/8:=by decide
  lia
 have f:¬(!γ.List.listFitsIndex k)=true:=by
  rw[fitsIndex_both h1 C];exact JD
 have d:¬γ.List.listTooLong (c.toArray.size*k.toNat)=true:=by
  rw[uH j];exact JD
 have i:List.foldl (λo p=>o++p) (List.toArray []) (List.replicate (if c.toArray.isEmpty=true then 0 else k.toNat) c.toArray)=(List.replicate k.toNat c).flatten.toArray:=by
  have A:∀m:Nat,List.foldl (λo p=>o++p) (List.toArray []) (List.replicate m c.toArray)=(List.replicate m c).flatten.toArray:=λm=>by
   have:=jq c m []
   rw[CV]at this;exact this
  rw[A];cases c with
  |nil=>simp
  |cons a r'=>rw[Jc (by simp)]
 refine wpAny_binaryOp_repeat_ref (T:="list") (U:="int") ⋯ #[_,e,Z] (λs'=>typeIs_int s' k t) noFill_list_mul F.fills_int_mul F.slot_int_rmul repeat_list F.slot_int_index.lookup
  (Dz F.slot_int_rmul (typeIs_int s k t) F.entry_int_rmul (F.args_int_rmul_2 _ _) (int___rmul___int_list k t l c.toArray n)
   #[e,Z,#[_,e,Z],Dz F.slot_list_mul #[_,e,Z] F.entry_list_mul (F.args_list_mul_2 _ _) (AutoListH.list___mul___list_int_3 l c.toArray n k t f g d) #[e,?_]])
 rw[i]
 exact#[.ref _,_,I.lnew (t':=s.toks) (r.rep k.toNat) (by rw[yM,Nat.mul_comm];exact w),Z,q _ I.fresh]
end
end L2
namespace Att
open PySem PySem.W PySem.Calls PyProof.Rows
theorem fV{P:Params}{h:Ψ}:∀(ns:Ζ) (vs:Η),WellAll P h vs (ns.map WData.int)->IntsAre vs ns:=by
 intro ns
 induction ns with
 |nil=>
  intro vs w;rw[Ek]at w;cases w;exact .nil
 |cons n ns ih=>
  intro vs w;rw[JL]at w;cases w with
  |cons a b=>
   cases a;exact .cons _ _ (ih _ b)
theorem tQ{l:OpenLaw}{n:Nat}(hn:l.most=↑n){P:Params}{h:Ψ}{args:List WData}{c:Η}
  (e:l.row.toRowW.claim.pre args=true)(j:WellAll P h c args):
  ∃a p ns,c=[Γ.ref a]/\args=[WData.list (ns.map WData.int)]/\h.get? a=some {cls:= .type "list",data:= .seq p.toArray}/\IntsAre p ns/\ns.length<=n:=by
 have m:WShape.hasAll [] args [.list .int]=true:=(pre_splitW e).1
 have o:l.pre.holds [] {args:=args}=true:=(pre_splitW e).2
 let#[d,r,rfl,h1,s]:=hasAllW_cons m
 obtain rfl:=hasAllW_nil s
 let#[xs,rfl,t]:=hasW_list h1;let#[ns,rfl]:=items_int t;have f:ns.length<=n:=by
  unfold OpenLaw.pre at o;have i:(WTm.not (.lt (.lit (.int (n:Int))) (.len (.arg 0)))).holds [] {args:=[.list (ns.map .int)]}=true:=by
   have i:=(holds_andW o).1;rw[hn]at i;exact i
  have g:=condW_of i (w_not (w_lt w_lit (w_len_list (w_arg Z))));rw[Jd]at g;refine Nat.le_of_not_lt λq=>?_
  have u:(n:Int)<((ns.length:Nat):Int):=by lia
  first
   |(rw[Jh u]at g;exact absurd g ⋯)
   |(simp at g;lia)
 cases j with
 |cons w1 w2=>
  cases w2;cases w1 with
  |list ho hall=>exact#[15,ns,8,ho,fV ns _ hall,f]
theorem rL(l:OpenLaw)(args:List WData):l.row.toRowW.claim.post args (.bool true) args=true:=
 postW_of (r:=l.row.toRowW) (X:=(true==true))
  (show WShape.has [] (.bool true) .bool=true by first|rfl|decide|simp [WShape.has,WShape.arms,WShape.armsAll])
  (show(WTm.eq .res (.lit (.bool true))).value [] {args:=args,res:=↑(.bool true),after:=args}=↑(.bool (true==true))from w_eq_bool (w_res Z) w_lit) Z
theorem attach_call{l:OpenLaw}{n:Nat}{q:Ξ}{e:Α}{z:(Str->Ν)->Ψ->Prop}{E:Ω->Ψ->Prop}{d:DefRec}
  (hn:l.most=↑n)(u:d.params.defaults=[])
  (call:∀(w:Ω) (g c:Θ) (mg y:Fn) (p:Δ) (o:Obj) (pm s doc:Γ) (a:Δ) (vs:Η) (ns:Ζ),
   Ground q e [] z w g mg y c.heap->E w c.heap->
   c.heap.get? p=↑o->o.data= .func (docDef d.name d.params d.body d.scope pm s doc)->c.heap.CodeRec s d.name->mg d.name=↑(.ref p)->
   c.heap.get? a=some {cls:= .type "list",data:= .seq vs.toArray}->IntsAre vs ns->ns.length<=n->c.gens= (List.toArray [])->
   codeAny (model l.prog w) callerA (.call (.ref p) #[[.ref a],[]]) (λr s'=>r= .ok (.ret (.bool true))/\OldK c.heap s'.heap/\s'.os=c.os/\AllBare s'.gens) c):
  WalkO q e z E l.row.toRowW d [] (λf vs=>PySem.call f vs):=by
 intro w g c mg y G Y p o pm s doc L kV Q P x C t I A D R m B O v J
 obtain rfl:L= .none:=Dflts.none C u
 obtain rfl:kV= .none:=Dflts.noKw C
 let#[a,vs,ns,rfl,rfl,i,h,j]:=tQ hn m v;refine enter_call (codeAny_mono (call w g c mg y p o pm s doc a vs ns G Y Q (fd_plain P) x t i h j I) λr s' K=>?_)
 let#[rfl,F,M,H]:=K
 exact#[.inl #[.bool true,.bool true,[],Z,λ_=>rfl,.bool true,rL l _,λ_=>#[List.Pairwise.nil,λ_ N=>(nomatch N)]],F,M,H]
end Att
namespace L2
open PySem PySem.Spec PyProof.Rows
theorem cf:∀{vs:Η} {ns:Ζ},IntsAre vs ns->Fy (ns.map V.int) vs
 |_,_,.nil=> .nil
 |_,_,.cons n t h=> .cons #[t,Z] (cf h)
def vz(H:Hp):Prop:=∀b,H b=none\/∃o xs,H b=↑(.frz o (.lst xs))
theorem vI{P:Ξ}{w:Ω}{K:ι}{mg M:Fn}{CX:eQ}{k:Nat}{O a:Δ}{fd:FuncData}{x:Str}{sp:Sp}{c:Θ}{vs:Η}{ns:Ζ}
  (S:K.In c.heap)(t:c.heap.Ns η mg)(hb:c.heap.Ns builtinsNs M)(G:∀x:Str,x≠"__name__"->M x=bootBuiltins x)(p:c.heap.NoLimit)(hg:c.gens= (List.toArray []))
  (ha:c.heap.get? a=some {cls:= .type "list",data:= .seq vs.toArray})(hi:IntsAre vs ns)(hl:ns.length<=ζ)(hr:FJ k callerA)
  (F:∀base:Ψ,K.In base->base.Ns η mg->GN P w K mg base CX k O fd [x] sp)(j:∀(s:Θ) (u:Γ),BindsTo s fd #[[u],[]] [(x,u)])
  (I:∀H:Hp,vz H->Fw K H a (ns.map V.int)->sp [.ref a] H (λv _=>v= .bl true) λ_ _ _=>False)
  (J:∀H e s',CX [] H c (λ_ _ _=>False) e s'->False):
  codeAny (model P w) callerA (.call (.ref O) #[[.ref a],[]]) (λr s'=>r= .ok (.ret (.bool true))/\OldK c.heap s'.heap/\s'.os=c.os/\AllBare s'.gens) c:=by
 have Q:=cf hi;have l:=hi.length;have i:∀H:Hp,vz H->Fw K H a (ns.map V.int)->GM P w H c.heap->(∀b,H b≠none->b=a)->(H a≠none->K.lookup a=none)->
   codeAny (model P w) callerA (.call (.ref O) #[[.ref a],[]]) (λr s'=>r= .ok (.ret (.bool true))/\OldK c.heap s'.heap/\s'.os=c.os/\AllBare s'.gens) c:=by
  intro H T hS D R hK;have f:∀{b:Δ} {o:Obj},c.heap.get? b=↑o->H b=none->(bN c.heap H).get? b=↑o:=λe n=>vo e n
  have L:∀{b:Δ} {o:Obj} {es:Array DictEntry} {C:Nat},c.heap.get? b=↑o->o.data= .dict es C->H b=none:=λ{b o es C} e d=>by
   cases q:H b with
   |none=>rfl
   |some u=>
    have N:b=a:=R b (by rw[q];simp)
    subst N;rw[ha]at e;cases e
    have d':Data.seq vs.toArray _=Data.dict es C:=d
    cases d'
  have g:∀{b:Δ} {m:Fn},c.heap.Ns b m->(bN c.heap H).Ns b m:=λ{b m} ⟨o,es,C,e,d,r⟩=>#[o,es,C,f e (L e d),d,r]
  have E:K.In (bN c.heap H):=λb o e=>f (S b o e) (by
   cases q:H b with
   |none=>rfl
   |some u=>
    have N:b=a:=R b (by rw[q];simp)
    subst N;rw[hK (by rw[q];simp)]at e;cases e)
  have W:Mn K mg (bN c.heap H):=#[E,g t,#[M,g hb,G],let⟨mc,h1,h2⟩:=p;#[mc,g h1,h2]]
  have e0:Ia P w K mg (bN c.heap H) callerA [] c H:=#[Z,W,λb o e=>wX e,Nat.le_of_eq (sZ _ _),trivial,λb hb=>absurd (show b∈([]:Ι)from hb) (by simp),D,.of_eq hg]
  refine codeAny_mono ((F _ E (g t)).run callerA [] c H #[[.ref a],[]] [.ref a] [.ref a] _ _ hr e0 (j c (.ref a)) (.cons Z .nil) (I H T hS)) λr s' h=>?_
  cases r with
  |error e=>exact(J H e s' h).elim
  |ok fl=>
   cases fl with
   |next=>exact False.elim h
   |brk=>exact False.elim h
   |cont=>exact False.elim h
   |ret u=>
    let#[v,H',X,B,un,y,r',q]:=h;have q':v= .bl true:=q
    subst q'
    obtain rfl:u=Γ.bool true:=r'
    refine#[Z,OldK.of_keep λb o e=>?_,X,B]
    cases q:H b with
    |none=>exact un.keep b o e q (by intro z;exact absurd (show b∈([]:Ι)from z) (by simp)) (by simp)
    |some u=>
     rcases T b with z|⟨ob,xs,z⟩
     ·rw[q]at z;cases z
     ·have Y:=un.frzs b ob _ z
      let#[U,_]:=D b _ z;let#[e2,_]:=y b _ Y;rw[e]at U;cases U
      exact e2
 cases hk:K.lookup a with
 |some o=>
  have e:=S a o hk;rw[ha]at e;cases e;refine i (λ_=>none) (λ_=> .inl Z) (.inr #[_,vs.toArray,_,hk,39,by rw[Jr,l];exact hl,by simpa using Q]) (λb u z=>by have A:(none:Option HO)=↑u:=z;cases A) (λb z=>absurd Z z) λz=>absurd Z z
 |none=>
  refine i (λb=>if b=a then ↑(.frz {cls:= .type "list",data:= .seq vs.toArray} (.lst (ns.map V.int)))else none) (λb=>?_) (.inl (.inr #[{cls:= .type "list",data:= .seq vs.toArray},Jb Z])) (λb u z=>?_) (λb z=>?_) λ_=>hk
  ·by_cases hb:b=a
   ·exact .inr #[15,Jb hb]
   ·exact .inl (Jc hb)
  ·by_cases hb:b=a
   ·have A:=(Jb hb).symm.trans z
    cases A;subst hb
    exact#[ha,by rw[Jd];exact hl,vs,_,Q,ha]
   ·have A:=(Jc hb).symm.trans z
    cases A
  ·by_cases hb:b=a
   ·exact hb
   ·exact absurd (Jc hb) z
theorem wY{l:W.OpenLaw}{n k:Nat}{q:Ξ}{g:Α}{J:(Str->Ν)->Ψ->Prop}{E:Ω->Ψ->Prop}{d:DefRec}{K:Params->ι}{CX:Ω->eQ}{sp:Ω->Sp}{x:Str}
  (hn:l.most=↑n)(A:n<=ζ)(z:d.params.defaults=[])(hr:FJ k callerA)
  (O:∀(w:Ω) (h:Ψ),E w h->(K w.params).In h)
  (F:∀(w:Ω) (mg:Fn) (p:Δ) (h:Ψ),(K w.params).In h->h.Ns η mg->mg d.name=↑(.ref p)->
   ∃fd:FuncData,(∀(s:Θ) (u:Γ),BindsTo s fd #[[u],[]] [(x,u)])/\
    ∀base:Ψ,(K w.params).In base->base.Ns η mg->GN l.prog w (K w.params) mg base (CX w) k p fd [x] (sp w))
  (r:∀(w:Ω) (H:Hp) (a:Δ) (ns:Ζ),ns.length<=n->vz H->Fw (K w.params) H a (ns.map V.int)->sp w [.ref a] H (λv _=>v= .bl true) λ_ _ _=>False)
  (t:∀(w:Ω) (H:Hp) (s:Θ) (e:Γ) (s':Θ),CX w [] H s (λ_ _ _=>False) e s'->False):
  W.WalkO q g J E l.row.toRowW d [] (λf B=>PySem.call f B):=by
 refine Att.attach_call hn z λw D m mg T p o pm R doc a B ns G Y U S P y j i c L=>?_
 have C:=O w _ Y;let#[fd,I,Q]:=F w mg p _ C G.T.g y;exact vI C G.T.g G.T.b G.T.builtins G.T.nolimit L j i (Ju c A) hr Q I (λH N M=>r w H a ns c N M) λH e s'=>t w H m e s'
def zX(s:δ)(j:Nat):δ:=match s with
 | .ClassDef _ _ _ body _ _ _ _ _ _ _=>body.getD j (.Pass #[(0),(0),(0),(0)])
 |_=> .Pass #[(0),(0),(0),(0)]
def Qx(s:δ):Arguments:=match s with
 | .FunctionDef _ a _ _ _ _ _ _ _ _=>a
 |_=>{posonlyargs:=[],args:=[],vararg:=none,kwonlyargs:=[],kw_defaults:=[],kwarg:=none,defaults:=[]}
def zO(s:δ):List δ:=match s with
 | .FunctionDef _ _ b _ _ _ _ _ _ _=>b
 |_=>[]
def qj(s:δ):Scope:=match s with
 | .FunctionDef _ _ _ _ _ _ sc _ _ _=>sc
 |_=>{kind:= .function,names:=[],isGenerator:=false,isCoroutine:=false}
abbrev Z6:eQ:=λ_ _ _ _ _ _=>False
abbrev E0:XK:=λ_ _ _=>False
theorem jM{X:Cx}:cp Z6 X E0:=λ_ _ _ _ _ _ _ h=>h.elim
structure IC(K:ι)(x Mu:Str)(st:δ)(f:Δ)(fd:FuncData):Prop where
 ex:∃(oc:Γ) (od:Υ) (kV doc pm:Γ) (an:Υ) (cdv ct:Γ) (osl:Array Ν),
  fd=PySem.W.fnOf x Mu (Qx st) (zO st) (qj st) .none kV doc pm an cdv ct/\K.lookup f=some #[oc,od,.func fd,osl]/\PySem.W.codeIn K cdv Mu=true
 kp:PySem.W.keepIn K (.ref f)=true
section
variable{P:Ξ}{w:Ω}{K:ι}{mg:Fn}{base:Ψ}
theorem IC.ok{x Mu:Str}{st:δ}{f:Δ}{fd:FuncData}{N ps:Α}{k:Nat}{sp:Sp}(F:IC K x Mu st f fd)(S:Fq N ps (qj st))(e:∀vs H Q E,sp vs H Q E->vs.length=ps.length)
  (c:∀(cdv:Γ) (A:Around) (a:Ο) (s:Θ) (H:Hp) (vs:Β) (Q:VK) (E:XK),FJ k (A.deeper (envOfC Mu (qj st) s.heap.objs.size f cdv))->sp vs H Q E->
   ∃t,HX (aV Z6 P w K mg base N Mu (qj st) f cdv A a s H E).nox (zO st) t/\t {nx:=λ_ H'=>Q .non H',rt:=Q} (Q6 N vs) H):GN P w K mg base Z6 (k+1) f fd ps sp:=by
 let#[oc,od,kV,doc,pm,an,cdv,ct,osl,rfl,i,d]:=F.ex;refine B8 i d S e λA a s H vs Q E j g=>?_
 let#[t,h,q]:=c cdv A a s H vs Q E j g
 exact#[t,h.nox,q]
theorem IC.binds{x Mu:Str}{st:δ}{f:Δ}{fd:FuncData}{ps:Α}(F:IC K x Mu st f fd)
  (h:∀(kV doc pm:Γ) (an:Υ) (cdv ct:Γ) (us:Η),us.length=ps.length->bindArgs (W.fnOf x Mu (Qx st) (zO st) (qj st) .none kV doc pm an cdv ct) #[us,[]]=pure (ps.zip us)):Gp K fd ps []:=by
 let#[oc,od,kV,doc,pm,an,cdv,ct,osl,rfl,c,a]:=F.ex;exact .all (h kV doc pm an cdv ct)
theorem kE{x Mu:Str}{st:δ}{f:Δ}{oc:Γ}{od an:Υ}{osl:Array Ν}{kV doc pm cdv ct:Γ}(l:K.lookup f=some #[oc,od,.func (W.fnOf x Mu (Qx st) (zO st) (qj st) .none kV doc pm an cdv ct),osl])
  (c:W.codeIn K cdv Mu=true)(k:W.keepIn K (.ref f)=true):IC K x Mu st f (W.fnOf x Mu (Qx st) (zO st) (qj st) .none kV doc pm an cdv ct):=#[#[oc,od,kV,doc,pm,an,cdv,ct,osl,Z,l,c],k]
end
theorem zg{A B:Prop}(h:B):if false=true then A else B:=by
 rw[Jc JD];exact h
theorem zQ{A B:Prop}(h:A):if true=true then A else B:=by
 rw[Jb Z];exact h
theorem qO{c A B:Prop} [Decidable c](h1:c->A)(h2:¬c->B):if c then A else B:=by
 by_cases h:c
 ·rw[Jb h]
  exact h1 h
 ·rw[Jc h]
  exact h2 h
theorem cT{c A B:Prop} [Decidable c](hc:c)(h:B):if(! decide c)=true then A else B:=by
 rw[Jh hc];exact zg h
def Fp(H H':Hp):Prop:=∀b o,H b=↑o->H' b=↑o
theorem Fp.refl(H:Hp):Fp H H:=λ_ _ h=>h
theorem Fp.trans{H H1 d:Hp}(a:Fp H H1)(b:Fp H1 d):Fp H d:=λc o h=>b c o (a c o h)
theorem Fp.seq{K:ι}{H H':Hp}{a:Δ}{xs:Β}(e:Fp H H')(h:Fw K H a xs):Fw K H' a xs:=by
 rcases h with(h|⟨o,h⟩)|h
 ·exact .inl (.inl (e _ _ h))
 ·exact .inl (.inr #[o,e _ _ h])
 ·exact .inr h
end L2
namespace L3
open PySem PySem.Spec PyProof.Rows L2
def zB(X:Cx)(N:Α)(a:Scope)(c:List (Str×Δ))(C:Δ)(s:Θ)(H:Hp)(fp:Ι):Cx:=
 {X with N:=N,s₀:=s,H₀:=H,env:=compEnvC a c C X.env,outer:=X.stack,ex:=fp,fn:=λ_=>false,pn:=[],xe:=λ_ _=>False}
structure F6(X:Cx)(scope:Scope)(fr:Α)(js:Ε):Prop where
 kind:scope.kind= .function
 names:∀x∈scope.names,x.2= .local->scope.names.lookup x.1=some .local
 nocell:∀x∈scope.names,x.2≠ .cell
 free:∀x∈scope.names,x.2= .free->x.1∈fr
 len:js.length=fr.length
 at_:∀(i j:Nat) (y:Str),js[i]? =↑j->fr[i]? =↑y->X.N[j]? =↑y/\X.env.kindOf y=some .cell/\(relabel scope X.env).names.lookup y=some .cell
theorem QX{d:Type}{y:Str}:∀{l:List (Str×d)},y∈l.map (·.1)->∃c,l.lookup y=↑c
 | [],h=>by simp at h
 |(n,a)::r,h=>by
  cases e:y==n with
  |true=>exact#[a,by simp [CW,e]]
  |false=>
   have f:y∈r.map (·.1):=by
    rcases Jl.mp h with z|z
    ·exact absurd z (by simpa using e)
    ·exact z
   let#[c,g]:=QX f
   exact#[c,by simp [CW,e,g]]
def σ0(k:Nat)(js:Ε)(σ:L2.St):L2.St:=List.replicate k none++js.map λj=>(σ[j]?).join
def oP(k:Nat)(js:Ε)(g:TG)(te:TE)(σ:L2.St)(Q:VK)(J:It)(H1:Hp):Prop:=∃W:Nat->Nat->Β->L2.St->Hp->Prop,(∃m,W 0 m [] (σ0 k js σ) H1)/\∀i m ys c H,W i m ys c H->
 (J.stop i H/\∀p,H p=none->Q (.ref p) (Ft H p (.lst ys)))\/(J.go i H/\ys.length<ζ/\∀x H',J.yld i H x H'->g x c H' λa f=>∃N:V->Hp->Prop,(∀v d,N v d->∃e,e<m/\W (i+1) e (ys++[v]) a d)/\te a f N)
def gs(k:Nat)(js:Ε)(a:TI)(g:TG)(te:TE):TE:=λσ H Q=>a σ H (oP k js g te σ Q)
section
variable{prog:Ξ}{w:Ω}{A:Around}{R:Result->Θ->Prop}{s:Θ}
theorem jU{q a l:Φ}{f:Scope}{pos:Pos}{it t:Γ}{d:Env}(I:Nat->Θ->Prop)
  (u:∀n s,I n s->ε (model prog w) A (pyNext it) (λr c=>match r with
   |none=>R (.ok .next) c
   | some v=>ε (model prog w) A (letOwnedTupleGo a it v) (λ_ e=>ε (model prog w) A (assign a d v) (λ_ g=>ε (model prog w) A (eval q d) (λx i=>
     ε (model prog w) A (call (.builtin "list.append") [t,x]) (λ_ o=>∃m,m<n/\I m o) (λ_ _=>False) i)
     (λ_ _=>False) g) (λ_ _=>False) e) (λ_ _=>False) c) (λ_ _=>False) s)
  (n:Nat)(h:I n s):
  codeAny (model prog w) A (.compLoop (.ListComp q [#[a,l,[],(0)]] f pos) 0 it t d) R s:=by
 refine codeAny_loop Z I (λn s C=>?_) n h
 show ε _ _ ((compTurn (.ListComp q [#[a,l,[],(0)]] f pos) 0 it t d).onRaise (λx=>do noteFrame x d;theTreesLotGoes x)) _ _ s
 refine wpAny_noted ?_
 rw[compTurn_list1];refine Ja (DI (Ja (JT (u n s C) (λr c j=>?_) λ_ _ h'=>h'.elim)))
 cases r with
 |none=>exact Jf j
 |some v=>
  refine Ja (JT j (λ_ e p=>?_) λ_ _ h'=>h'.elim)
  exact Ja (JT p (λ_ g y=>Ja (Ja (JT y (λx i B=>Ja (JT B
   (λ_ o z=>Jf (Jf #[Z,z])) λ_ _ h'=>h'.elim)) λ_ _ h'=>h'.elim))) λ_ _ h'=>h'.elim)
end
variable{X:Cx}
structure LK(X:Cx)(tx:Fo)(H:Hp)(C:Δ):Prop where
 free:H C=none
 loc:C≠X.env.locals
 new:X.s₀.heap.objs.size<=C
 cell:∀x c,X.env.cells.lookup x=↑c->c≠C
 pin:∀p∈X.pn++tx,p.1≠C
theorem ki{a:Scope}{E:List (Str×Δ)}{fr own:Α}{js:Ε}{tx:Fo}{d:Θ}{σ:L2.St}{K:Hp}{tg:Φ}{J:It}{fp:Ι}{it:Δ}{tn:Nat->Ψ->Prop}{A:Ψ}{g:Nat}{m:Fn}
  (s:∀y c,E.lookup y=↑c->X.env.cells.lookup y=↑c)(U:E.map (·.1)=fr)(S:F6 X a fr js)(f:L2.Fv X tx σ K d)(T:GX X.prog X.w X.K tg J fp it tn)(a5:tn 0 d.heap)(f2:∀b∈fp,Zc X tx K b)
  (hC:g=d.heap.objs.size+1)(H:∀b o,d.heap.get? b=↑o->A.get? b=↑o)(F:A.Ns g m):
  (∀b∈fp,b<d.heap.objs.size)/\L2.Fv (zB X (own++fr) a E g d K fp) [] (σ0 own.length js σ) K {d with heap:=A,toks:=d.toks+([]:List (Str×Γ)).length}/\d.heap.objs.size∉bh X.stack/\(∀x c,E.lookup x=↑c->c≠d.heap.objs.size)/\
  ∀{H':Hp} {pl:Fo},(∀b∈fp,H' b=none)->(∀p∈pl,p.1=d.heap.objs.size)->∀b∈fp,Zc (zB X (own++fr) a E g d K fp) pl H' b:=by
 have t:∀b,b<d.heap.objs.size->b≠g/\b≠d.heap.objs.size:=λb h=>#[by rw[hC];exact Js (DA h),Js h]
 let Y:Cx:=zB X (own++fr) a E g d K fp
 have w:∀b∈fp,b<d.heap.objs.size:=λb h=>by let#[o,e,_]:=T.obj _ _ a5 b h;exact Jm e
 have R:(zB X (own++fr) a E g d K fp).Ok:=by
  refine#[f.ok.mod,S.kind,f.ok.glob,f.ok.blt,by show d.heap.objs.size<=g;lia,?_,?_,?_,f.ok.hd,f.ok.frames,.inl Z,?_,f.bs,Ju f.ok.bsz f.sz,?_,?_,f.stack,f.stkFree]
  ·exactλx y c e1 e2=>f.ok.inj x y c (s x c e1) (s y c e2)
  ·intro x hx
   have a3:(relabel a X.env).names.lookup x=some .cell\/(relabel a X.env).names.lookup x=some .free:=hx
   have hm:∃k,(x,k)∈a.names/\k= .free:=by
    have P:∀kk:NameKind,(kk= .cell\/kk= .free)->(relabel a X.env).names.lookup x=↑kk->∃k,(x,k)∈a.names/\k= .free:=by
     intro kk hk el;let#[#[n,k],r,e]:=Jv.mp (DL el)
     dsimp only at e
     split at e
     ·rename_i B
      cases e;exists k,r
      simp only[JC,Dj]at B;exact B.1.1
     ·cases e
      rcases hk with z|z
      ·subst z;exact absurd Z (S.nocell _ r)
      ·exact#[_,r,z]
    rcases a3 with z|z
    ·exact P _ (.inl Z) z
    ·exact P _ (.inr Z) z
   let#[k,r,hk]:=hm;exact QX (l:=E) (by rw[U];exact S.free _ r hk)
  ·exactλx c e _=>nomatch e
  ·refineλb h=>#[?_,λx c e=>(f2 b h).2.2.2.2.1 x c (s x c e)]
   show b≠g
   exact(t b (w b h)).1
  ·intro b o e h
   rcases(f2 b h).2.2.2.1 with z|z
   ·exact f.ok.noex b o e z
   ·exact absurd (JQ (Jm e) (Ju f.ok.bsz z)) (J9 _)
  ·intro b h hf
   rcases Jl.mp (f.stkSub b hf)with z|z
   ·exact(f2 b h).2.1 z
   ·exact(f2 b h).2.2.1 z
 have L:(σ0 own.length js σ).length=(own++fr).length:=by unfold σ0;simp [S.len]
 have IY:Fv Y [] (σ0 own.length js σ) K {d with heap:=A,toks:=d.toks+([]:List (Str×Γ)).length}:=by
  refine#[R,Z,f.bare,Un.kept H,#[_,F,?_],?_,?_,?_,λp hp=>absurd (show p∈([]:Fo)from hp) (by simp),f.hok.kept H,L]
  ·intro i x v hN G _
   have M:(own++fr)[i]? =↑x:=hN
   unfold σ0 at G
   by_cases N:i<own.length
   ·rw[DM (by simpa using N),List.getElem?_replicate]at G
    split at G<;>cases G
   ·rw[Dw (by simpa using Nat.le_of_not_lt N),Eh,Jk]at G
    rw[Dw (Nat.le_of_not_lt N)]at M;cases ej:js[i-own.length]? with
    |none=>rw[ej]at G;cases G
    |some j=>
     rw[ej]at G;have a1:σ[j]? =↑(↑v):=by
      have I:(σ[j]?).join=↑v:=Jt G
      cases q:σ[j]? with
      |none=>rw[q]at I;cases I
      |some o=>rw[q]at I;have:o=↑v:=I;rw[this]
     let#[a2,hk,a4]:=S.at_ _ j x ej M;let#[m,hn,hl]:=f.loc;let#[u,ru,lk]:=hl j x v a2 a1 (.inr (.inl hk))
     refine#[u,ru,.inr ?_]
     rcases lk with⟨k1,_⟩|⟨_,c,ec,ic⟩
     ·rw[hk]at k1;cases k1
     ·let#[c',Q]:=QX (y:=x) (l:=E) (by rw[U];exact JG M)
      have:c'=c:=by have:=s x c' Q;rw[ec]at this;exact(Jt this).symm
      subst this;exists ?_,c',Q
      ·show(relabel a X.env).names.lookup x=some .cell\/(relabel a X.env).names.lookup x=some .free
       exact .inl a4
      ·let#[oc,C,hd]:=ic
       exact#[oc,H _ _ C,hd]
  ·intro x c e
   let#[v,oc,C,hd]:=f.cell x c (s x c e)
   exact#[v,oc,H _ _ C,hd]
  ·exact f.hok.fresh (by show d.heap.objs.size<=g;lia)
  ·exactλx c e=>f.freeC x c (s x c e)
 have O:d.heap.objs.size∉bh X.stack:=λhf=>by
  rcases Jl.mp (f.stkSub _ hf)with z|z
  ·exact absurd (by rw[<- z];exact Je _:d.heap.objs.size<=X.env.locals) (Nat.not_le.mpr f.lt)
  ·exact f.nofs (Je _) z
 have D:∀x c,E.lookup x=↑c->c≠d.heap.objs.size:=λx c e z=>by
  let#[v,oc,C,_]:=f.cell x c (s x c e)
  exact absurd (Jm C) (by rw[z];exact J9 _)
 have a8:∀{H':Hp} {pl:Fo},(∀b∈fp,H' b=none)->(∀p∈pl,p.1=d.heap.objs.size)->∀b∈fp,Zc Y pl H' b:=λ{H' pl} hn hp b h=>
  #[hn b h,(t b (w b h)).1,R.exfs b h,.inl h,λx c e=>(f2 b h).2.2.2.2.1 x c (s x c e),λp a0=>by
   have W:p∈pl:=by simpa [Y,zB]using a0
   rw[hp p W];exact Ne.symm (t b (w b h)).2]
 exact#[w,IY,O,D,a8]
theorem kO{N:Α}{j:Scope}{F:List (Str×Δ)}{tx pl:Fo}{d w:Θ}{σ G:L2.St}{y m:Hp}{fp:Ι}{g:Nat}{ob:HO}(s:L2.Fv X tx σ y d)(f2:∀b∈fp,Zc X tx y b)(E:g=d.heap.objs.size+1)
  (t:L2.Fv (zB X N j F g d y fp) pl G m w)(a:m d.heap.objs.size=none)(A:FE X.prog X.w (Ft m d.heap.objs.size ob) w.heap d.heap.objs.size ob):L2.Fv X tx σ (Ft m d.heap.objs.size ob) w/\LK X tx (Ft m d.heap.objs.size ob) g:=by
 have l:∀b,b<d.heap.objs.size->b≠g/\b≠d.heap.objs.size:=λb f=>#[by rw[E];exact Js (DA f),Js f]
 have C:d.heap.objs.size≠g:=by lia
 have B:=t.base;have I:m g=none:=t.free
 exists ?_
 ·refine s.call' (s':=w) (ch:=fp) t.os #[B.keep,B.slot,λb o e n H=>?_,B.there,λb xs e=>?_,λb o u e=>?_,λb ps e=>?_] ?_ t.bare ?_
  ·rw[qi (l b (Jm e)).2];exact B.free b o e n H
  ·have i:=B.tups b xs e
   rw[qi (qt i a)];exact i
  ·have i:=B.frzs b o u e
   rw[qi (qt i a)];exact i
  ·let#[r,i]:=B.tbls b ps e
   exact#[r,by rw[qi (qt i a)];exact i]
  ·intro b u e
   by_cases f:b=d.heap.objs.size
   ·subst f
    rw[qc]at e;cases e
    exact A
   ·rw[qi f]at e
    exact(t.hok b u e).stay (λc v _ q=>q) (λc q=>by rw[qi (qt q a)];exact q) λc xs q=>by rw[qi (qt q a)];exact q
  ·exactλb f=>#[(f2 b f).2.2.2.1,(f2 b f).2.1,(f2 b f).2.2.2.2.1,(f2 b f).2.2.2.2.2]
 ·have h:d.heap.objs.size<=g:=by lia
  refine#[by rw[qi (Ne.symm C)];exact I,?_,Ju s.sz h,λx c e z=>?_,λp J z=>?_]
  ·exact JZ (JQ s.lt h)
  ·let#[v,oc,D,_]:=s.cell x c e
   exact absurd (JQ (Jm D) h) (by rw[z];exact J9 _)
  ·exact absurd (JQ (Jm (s.pin p J).1) h) (by rw[z];exact J9 _)
theorem lX{b0 tg q:Φ}{a:Scope}{cl:List (Str×Δ)}{pos c0:Pos}{fr own:Α}{js:Ε}{wi:TI}{g:TG}{te:TE}{use:Option (Γ->Sem Unit)}{Post:Fl}
  {tx:Fo}{s:Θ}{σ:L2.St}{H:Hp}{Q:VK}
  (hc:X.calm=true)(hi:PI X tg q wi)(a5:closureFor a X.env=pure cl)(d0:∀y c,cl.lookup y=↑c->X.env.cells.lookup y=↑c)(d3:cl.map (·.1)=fr)
  (S:F6 X a fr js)
  (hg:∀C s H fp,PG (zB X (own++fr) a cl C s H fp) tg g)(he:∀C s H fp,PE (zB X (own++fr) a cl C s H fp) b0 te)
  (hs:∀x,foldedSetIterable q X.env x=pure x)
  (I:L2.Fv X tx σ H s)(h:gs own.length js wi g te σ H Q)
  (b5:∀(b2 C:Δ) (s5:Θ) (H':Hp) (m:Fn),L2.Fv X tx σ H' s5->s5.heap.Ns C m->LK X tx H' C->Q (.ref b2) H'->compPost (model X.prog X.w) X.A X.xe use Post (.ref b2) C (.ok .next) s5):
  ε (model X.prog X.w) X.A (comprehension (.ListComp b0 [#[tg,q,[],(0)]] a pos) a X.env c0 (newList []) false (eval q X.env) use) Post X.xe s:=by
 refine wpAny_comprehension_free (use:=use) Z hs a5 S.kind S.names (qD (hi tx s σ H _ I h) λv s1 h1=>qD h1 λd8 l h2=>?_)
 let#[it,fp,tn,J,H2,e,I2,T,b6,f2,W,#[m0,w0],c1]:=h2;subst e;refine C6 (wpAny_newFunctionEnv S.nocell (by intro y hy;simp at hy) (λD j d=>?_) S.kind)
 dsimp only at j d⊢
 generalize hH2:l.heap.push {cls:= .type "list",dict:=none,data:= .seq ([]:Η).toArray}=G at j d⊢
 have hC:G.objs.size=l.heap.objs.size+1:=by rw[<- hH2,J5]
 have P:l.heap.objs.size≠G.objs.size:=by rw[hC];exact Js (C9 _)
 have A:∀b,b<l.heap.objs.size->b≠G.objs.size/\b≠l.heap.objs.size:=λb w=>#[by rw[hC];exact Js (DA w),Js w]
 have b1:∀b o,l.heap.get? b=↑o->D.get? b=↑o:=λb o e=>d.extBut b o (A b (Jm e)).1 (Ji _ (hH2▸Ji _ e))
 have R:D.get? l.heap.objs.size=some {cls:= .type "list",data:= .seq ([]:Η).toArray 0}:=d.extBut _ _ P (Ji _ (hH2▸Jq _ Z))
 let Y:Cx:=zB X (own++fr) a cl G.objs.size l H2 fp
 let#[c3,IY,L,E,a4]:=ki (own:=own) (js:=js) d0 d3 S I2 T b6 f2 hC b1 j
 have a0:∀t:Θ,Fv Y [] (σ0 own.length js σ) H2 t->tn 0 t.heap->t.heap.get? l.heap.objs.size=some {cls:= .type "list",data:= .seq ([]:Η).toArray 0}->
   codeAny (model X.prog X.w) X.A (.compLoop (.ListComp b0 [#[tg,q,[],(0)]] a pos) 0 (.ref it) (.ref l.heap.objs.size) (compEnvC a cl G.objs.size X.env))
    (compPost (model X.prog X.w) X.A X.xe use Post (.ref l.heap.objs.size) G.objs.size) t:=by
  intro t I3 d5 d4;refine jU (λn s'=>∃i ys τ H' f k,Fv Y [(l.heap.objs.size,{cls:= .type "list",data:= .seq f.toArray k})] τ H' s'/\tn i s'.heap/\(∀b∈fp,H' b=none)/\Fy ys f/\ys.length<=ζ/\W i n ys τ H') ?_ m0 ?_
  ·rintro n s4 ⟨i,ys,τ,H4,f,k,I4,b3,b4,vl,hz,w4⟩
   have d6:=I4.pin (l.heap.objs.size,{cls:= .type "list",data:= .seq f.toArray k}) (by simp [Y,zB])
   rcases c1 i n ys τ H4 w4 with⟨b7,qn⟩|⟨go,d7,step⟩
   ·refine qD (T.done Y Z Z Z hc i _ s4 τ H4 _ I4 (a4 b4 (by simp)) b3 b7) λr s5 O=>?_
    let#[hr,I5]:=O;subst hr
    show compPost _ _ _ _ _ _ _ _ _
    let#[m5,d2,_]:=I5.loc;have a1:=I5.pin (l.heap.objs.size,{cls:= .type "list",data:= .seq f.toArray k}) (by simp [Y,zB])
    have U:H4 l.heap.objs.size=none:=a1.2.1
    have B:=I5.base;have nC:H4 G.objs.size=none:=I5.free
    let#[z1,z2]:=kO (ob:= .lst ys) I2 f2 hC I5 U #[hz,f,k,vl,a1.1]
    exact b5 l.heap.objs.size G.objs.size s5 (Ft H4 l.heap.objs.size (.lst ys)) m5 z1 d2 z2 (qn _ U)
   ·refine qD (T.item Y Z Z Z hc i _ s4 τ H4 _ I4 (a4 b4 (by simp)) b3 go) λr s5 O=>?_
    let#[u,hr,h5]:=O;subst hr;refine qD h5 λ_ s6 O=>?_
    let#[x,H6,I6,r6,y6,a2,d1]:=O;have I6':=I6.pinned (a4 d1 (by simp)) (T.obj _ _ a2)
    refine qD (hg _ _ _ _ _ s6 τ H6 x u _ I6' r6 (step x H6 y6)) λ_ s7 O=>?_
    let#[a8,H7,I7,N,hN,q7]:=O;refine qD (he _ _ _ _ _ s7 a8 H7 _ I7 q7) λv' s8 O=>?_
    let#[y,H8,I8,r8,n8]:=O;let#[m',c4,w8]:=hN _ _ n8;have K:=I8.pin (l.heap.objs.size,{cls:= .type "list",data:= .seq f.toArray k}) (by simp [zB])
    have F:∀b∈fp,∀o,s6.heap.get? b=↑o->s8.heap.get? b=↑o/\H8 b=none:=λb w o e=>by
     have:=I8.pin (b,o) (JY _ (JY _ (Zm w e)))
     exact#[this.1,this.2.1]
    refine wpAny_list_append_plain (items:=f.toArray) #[k,K.1] (λh' M c2=>?_) (by have:=vl.length;simp;lia)
    let#[k',M]:=M;have I9:Fv Y [] a8 H8 {s8 with heap:=h'}:=by
     refine(I8.pins_of (pins':=[]) (by simp)).turned (t':=s8.toks) (it:=l.heap.objs.size) (λb o w e=>(c2.2 b w).trans e) K.2.1 ?_ (.inr (Je _)) (λx c e=>E x c e) (λp hp=>absurd (show p∈([]:Fo)from by simpa [Y,zB]using hp) (by simp))
     exact P
    have ea:(f.toArray.push v')=(f++[v']).toArray:=by simp
    rw[ea]at M;refine#[m',c4,i+1,ys++[y],a8,H8,f++[v'],k',I9.pins_of ?_,T.keep _ _ _ a2 λb w o e=>(c2.2 b (A b (c3 b w)).2).trans (F b w o e).1,λb w=>?_,vl.append (.cons r8 .nil),?_,w8]
    ·intro p hp
     rw[Jn.mp hp]
     exact#[M,K.2.1,P,L,λv z=>by cases z]
    ·let#[o,e,_]:=T.obj _ _ a2 b w
     exact(F b w o e).2
    ·rw[Jx,Ep];lia
  ·refine#[(0),[],σ0 own.length js σ,H2,[],(0),I3.pins_of ?_,d5,λb w=>(f2 b w).1,.nil,JR _,w0]
   intro p hp;rw[Jn.mp hp]
   exact#[d4,I2.hok.fresh (Je _),P,L,λv z=>by cases z]
 have a3:tn 0 D:=T.keep _ _ _ b6 λb _ o e=>b1 b o e
 exact codeAny_compStart_list (a0 _ IY a3 R) (T.self _ 0 _ _ _ a3 (a0 _ IY a3 R))
theorem yh{j tg d:Φ}{a:Scope}{l:List (Str×Δ)}{pos:Pos}{fr own:Α}{js:Ε}{u:TI}{g:TG}{te:TE}
  (hc:X.calm=true)(hi:PI X tg d u)(f:closureFor a X.env=pure l)(r:∀y c,l.lookup y=↑c->X.env.cells.lookup y=↑c)(n:l.map (·.1)=fr)
  (S:F6 X a fr js)
  (hg:∀C s H fp,PG (zB X (own++fr) a l C s H fp) tg g)(he:∀C s H fp,PE (zB X (own++fr) a l C s H fp) j te)
  (hs:∀x,foldedSetIterable d X.env x=pure x:=by intro _;rfl):
  PE X (.ListComp j [#[tg,d,[],(0)]] a pos) (gs own.length js u g te):=by
 intro tx s σ H Q I h;rw[eval_ListComp];refine lX (use:=none) hc hi f r n S hg he hs I h λt C A H' m w v i q=>?_
 exact#[m,v,λh' p=>#[.ref t,H',w.turned (t':=A.toks) (λb o z e=>(p.2 b z).trans e) i.free i.loc (.inr i.new) i.cell i.pin,Z,q]]
theorem xy{j tg f:Φ}{d:Scope}{t:List (Str×Δ)}{pos l r:Pos}{fr own:Α}{js:Ε}{K:TI}{g:TG}{te:TE}{i:Nat}{y:Str}
  (hN:X.N.Nodup)(A:X.N[i]? =↑y)(hx:f9 X.env.scope y)
  (hc:X.calm=true)(hi:PI X tg f K)(p:closureFor d X.env=pure t)(J:∀y c,t.lookup y=↑c->X.env.cells.lookup y=↑c)(B:t.map (·.1)=fr)
  (S:F6 X d fr js)
  (hg:∀C s H fp,PG (zB X (own++fr) d t C s H fp) tg g)(he:∀C s H fp,PE (zB X (own++fr) d t C s H fp) j te)
  (hs:∀x,foldedSetIterable f X.env x=pure x:=by intro _;rfl)(G:swapsWith (.ListComp j [#[tg,f,[],(0)]] d pos) ↑(.Name y r) l.line X.env=pure true:=by rfl)
  (hf:X.fn y=true\/X.env.scope.names.lookup y=some .local:=by first|exact .inl Z|exact .inr Z|assumption):
  PS X (.Assign [.Name y r] (.ListComp j [#[tg,f,[],(0)]] d pos) l) (bD (gs own.length js K g te) (Qz i)):=by
 intro tx s σ H D I h;rw[exec_Assign_Name_used _ _ _ _ G];refine Ja (DI (Ja ?_))
 show ε _ X.A (do let _ <- comprehension (.ListComp j [#[tg,f,[],(0)]] d pos) d X.env _ (newList []) false (eval f X.env) ↑(assign (.Name y r) X.env)) _ _ s
 refine Ja (JT (lX (use:=↑(assign (.Name y r) X.env)) (Post:=λ_ s'=>SP X tx D .next s') hc hi p J B S hg he hs I h ?_) (λ_ s' N=>Jf (Jf N)) λ_ _ e=>e)
 intro u C U H' m P O n q
 show ε _ X.A (assign (.Name y r) X.env (.ref u)) _ _ _
 refine wpAny_assign_Name (ci (v:= .ref u) P hN A hx Z (λT R M=>?_) hf)
 let#[a,E,Q]:=M;have w:C≠a:=by
  rcases Q with z|z
  ·rw[z];exact n.loc
  ·exact Ne.symm (n.cell _ _ z)
 refine#[m,O.sameBut E w,λh' F=>?_]
 exact#[_,H',R.turned (t':=T.toks) (λb o L e=>(F.2 b L).trans e) n.free n.loc (.inr n.new) n.cell n.pin,q]
section
variable{js:Ε}{te:TE}{σ:L2.St}{H:Hp}{Q:VK}{K:ι}
abbrev Qc(js:Ε)(σ:L2.St):L2.St:=js.map λj=>(σ[j]?).join
abbrev aI(J:It)(js:Ε)(te:TE)(σ:L2.St)(H1:Hp)(Q:VK):Prop:=oP 1 js (Qz 0) te σ Q J H1
theorem ay{J:It}{n:Nat}(hn:n<=ζ)(c:Nat->V->Prop)(Pv:Nat->Β->Hp->Prop)(r:Pv 0 [] H)(f:∀i ys H,i<n->Pv i ys H->J.go i H)(hst:∀ys H,Pv n ys H->J.stop n H)
  (q:∀i ys H x H',i<n->Pv i ys H->J.yld i H x H'->H'=H/\c i x)
  (hs:∀i ys H x,i<n->ys.length=i->Pv i ys H->c i x->te (↑x::Qc js σ) H λv d=>Pv (i+1) (ys++[v]) d)
  (hd:∀ys H,ys.length=n->Pv n ys H->∀p,H p=none->Q (.ref p) (Ft H p (.lst ys))):aI J js te σ H Q:=by
 exists λi m ys h H=>m=n-i/\i<=n/\ys.length=i/\Pv i ys H/\∃o,h=o::Qc js σ,#[n,by simp,JR _,Z,r,none,Z]
 rintro i m ys h H ⟨rfl,hi,g,p,o,rfl⟩
 by_cases a:i<n
 ·refine .inr #[f i ys H a p,by lia,λx H' y=>?_]
  let#[e,l]:=q i ys H x H' a p y;subst e
  exact#[λv d=>Pv (i+1) (ys++[v]) d,λv d j=>#[n-(i+1),by lia,Z,a,by simp [g],j,0],hs i ys _ x a g p l]
 ·have e:i=n:=by lia
  subst e;exact .inl #[hst ys H p,hd ys H g p]
theorem Qj{a:Δ}{xs:Β}(hn:xs.length<=ζ)(Pv:Nat->Β->Hp->Prop)(c:Pv 0 [] H)(hl:∀i ys H,Pv i ys H->Fw K H a xs)
  (hs:∀i ys H x,xs[i]? =↑x->ys.length=i->Pv i ys H->te (↑x::Qc js σ) H λv d=>Pv (i+1) (ys++[v]) d)
  (hd:∀ys H,ys.length=xs.length->Pv xs.length ys H->∀p,H p=none->Q (.ref p) (Ft H p (.lst ys))):aI (eA K a) js te σ H Q:=
 ay hn (λi x=>xs[i]? =↑x) Pv c (λi ys H hi p=>#[xs,xs[i],hl _ _ _ p,by simp [hi]]) (λys H p=>#[xs,hl _ _ _ p,Je _]) (λi ys H x H' _ p y=>#[y.1,y.2 xs (hl _ _ _ p)]) (λi ys H x _ hl p e=>hs i ys H x e hl p) hd
theorem bQ{a:Δ}{xs:Β}(hn:xs.length<=ζ)(Pv:Nat->Β->Hp->Prop)(c:Pv 0 [] H)(hl:∀i ys H,Pv i ys H->FC K H a xs)
  (hs:∀i ys H x,xs[i]? =↑x->ys.length=i->Pv i ys H->te (↑x::Qc js σ) H λv d=>Pv (i+1) (ys++[v]) d)
  (hd:∀ys H,ys.length=xs.length->Pv xs.length ys H->∀p,H p=none->Q (.ref p) (Ft H p (.lst ys))):aI (gX K a) js te σ H Q:=
 ay hn (λi x=>xs[i]? =↑x) Pv c (λi ys H hi p=>#[xs,xs[i],hl _ _ _ p,by simp [hi]]) (λys H p=>#[xs,hl _ _ _ p,Je _]) (λi ys H x H' _ p y=>#[y.1,y.2 xs (hl _ _ _ p)]) (λi ys H x _ hl p e=>hs i ys H x e hl p) hd
theorem bE{lo:Int}{n:Nat}(hn:n<=ζ)(Pv:Nat->Β->Hp->Prop)(a:Pv 0 [] H)
  (hs:∀i ys H,i<n->ys.length=i->Pv i ys H->te (↑(.int (lo+i))::Qc js σ) H λv d=>Pv (i+1) (ys++[v]) d)
  (hd:∀ys H,ys.length=n->Pv n ys H->∀p,H p=none->Q (.ref p) (Ft H p (.lst ys))):aI (gN lo n) js te σ H Q:=
 ay hn (λi x=>x= .int (lo+i)) Pv a (λi ys H hi p=>hi) (λys H p=>Je _) (λi ys H x H' _ p y=>y) (λi ys H x hi c p e=>by subst e;exact hs i ys H hi c p) hd
end
end L3
namespace L3
open PySem PySem.Spec PyProof.Rows L2
section
variable{X:Cx}{tx:Fo}{σ:L2.St}{H:Hp}{s:Θ}
theorem il{h':Ψ}{t':Nat}{ch:Ι}{a:Δ}{xs:Β}{its:Η}(I:L2.Fv X tx σ H s)(k:∀b o,b∉ch->s.heap.get? b=↑o->h'.get? b=↑o)(d:∀b∈ch,Zc X tx H b)
  (ho:∀b∈ch,∃o,h'.get? b=↑o)(ha:s.heap.objs.size<=a)(t:xs.length<=ζ)(hv:Fy xs its)(w:IsTup h' a its.toArray):L2.Fv X tx σ (Ft H a (.tup xs)) {s with heap:=h',toks:=t'}:=by
 have i:H a=none:=I.hok.fresh ha
 have j:∀b o,s.heap.get? b=↑o->b≠a:=λb o e=>Js (JQ (Jm e) ha)
 have h:∀b u,H b=↑u->b∉ch:=λb u e z=>by rw[(d b z).1]at e;cases e
 refine I.step (g':=s.gens) (d':=s.drawn) (ch:=ch) (λb g=>#[(d b g).2.2.2.1,(d b g).2.1,(d b g).2.2.2.2.1,(d b g).2.2.2.2.2]) (λb o _ _ f e _=>k b o f e) (λb o _ _ f e _=>#[o.slots,k b o f e])
  (λb o _ e n=>by rw[qi (j b o e)];exact n) (λb o f e=>#[o,k b o f e]) (λb ys e=>by rw[qi (qt e i)];exact e) (λb o u e=>by rw[qi (qt e i)];exact e)
  (λb ps e=>#[(List.toArray []),by rw[qi (qt e i),e];simp]) (λm p=>?_) (λb u e=>?_) I.bare
 ·let#[o,es,l,ho,r]:=p
  exact#[o,es,l,k _ o (λz=>(d _ z).2.1 Z) ho,r]
 ·by_cases g:b=a
  ·subst g
   rw[qc]at e;cases e
   exact#[t,its,hv,w]
  ·rw[qi g]at e
   refine(I.hok b u e).stay (λc v f q=>k c v ?_ q) (λc q=>by rw[qi (qt q i)];exact q) λc ys q=>by rw[qi (qt q i)];exact q
   rcases f with z|z
   ·rw[z];exact h b u e
   ·exact h c _ z
def lL(K:ι)(a:Δ):It:=
 #[λi H=>∃xs x,Fw K H a xs/\xs[i]? =↑x,λi H x H'=>∃p v,H p=none/\x= .ref p/\(∀xs,Fw K H a xs->xs[i]? =↑v)/\H'=Ft H p (.tup [.int i,v]),λi H=>∃xs,Fw K H a xs/\xs.length<=i]
theorem i6{P:Ξ}{w:Ω}{K:ι}{t:Κ}{x1}{pos:Pos}(a e it:Δ)(r:e≠it):
  GX P w K (.Tuple t x1 pos) (lL K a) [e,it] e (λi h=>(∃c,IsEnum h e it i c)/\h.IsListIter it a i) where
 mem:=by simp
 obj:=λi h st b f=>by
  let#[#[c,g],#[o,S,O,hd]]:=st;rcases Jl.mp f with z|z
  ·subst z
   refine#[_,g,λv z=>?_]
   have z':Data.fields _=Data.cell v:=z
   cases z'
  ·rw[Jn.mp z]
   exact#[o,S,λv z=>by rw[hd]at z;cases z]
 keep:=λi h h' st k=>#[let⟨c,g⟩:=st.1;#[c,k e (by simp) _ g],st.2.at λo q=>k it (by simp) o q]
 item:=by
  intro X R J N O i tx s σ H E I D st L;subst R J N;let#[xs,x,C,Q]:=L;let#[its,F,p,hz]:=I.list C;let#[u,T,ru]:=F.get Q;let#[#[c,g],j]:=st;refine wpAny_pyNext_enum_item g j p.isList (x:=u) (by simpa using T) r λh' S l ht Y hk=>#[0,?_]
  refine wpAny_letOwnedTupleGo_enum S λG n d=>?_
  have m:e<s.heap.objs.size:=Jm g
  have A:it<s.heap.objs.size:=by let#[_,y,_]:=j;exact Jm y
  exists .ref s.heap.objs.size,Ft H s.heap.objs.size (.tup [.int i,x]),?_,Z,#[_,x,I.hok.fresh (Je _),Z,λys hy=>by rw[I.list_inj hy C];exact Q,Z],#[#[_,by simpa using n],?_]
  ·show L2.Fv X tx σ _ {s with heap:=G,toks:=s.toks+1}
   refine il (s:=s) (its:=[.int i s.toks,u]) I (ch:=[e,it]) (λb o f q=>?_) D (λb f=>?_) (Je _) (by show 2<=ζ;decide) (.cons #[0] (.cons ru .nil)) ?_
   ·have B:b≠e:=λz=>f (by simp [z])
    have M:b≠it:=λz=>f (by simp [z])
    exact(d.2 b B).trans (hk b o B M q)
   ·rcases Jl.mp f with z|z
    ·subst z;exact#[_,n]
    ·rw[Jn.mp z]
     let#[o,y,_]:=l
     exact#[o,(d.2 it (Ne.symm r)).trans y]
   ·exact#[_,(d.2 _ (JZ m)).trans ht,14]
  ·exact l.extBut d.extBut (Ne.symm r)
  ·intro b f
   rw[qi]
   ·exact(D b f).1
   ·rcases Jl.mp f with z|z
    ·subst z;exact Js m
    ·rw[Jn.mp z];exact Js A
 done:=by
  intro X R J N O i tx s σ H E I D st L;subst R J N;let#[xs,C,Q]:=L;let#[its,F,p,hz]:=I.list C;let#[#[c,g],j]:=st;let#[f0,f1,f2,W,f4,f5]:=D it (by simp)
  have hl:=F.length;exact wpAny_pyNext_enum_end (I.ok.hd O) g j p.isList (by simp;lia) λh' U=>#[Z,I.turned (t':=s.toks) (λb o f e=>U b o f e) f0 f1 W f4 f5]
 self:=λ_ _ _ _ _ st h=>by
  let#[#[c,g],_]:=st;exact DZ g h
def wu(K:ι)(ta:TA):TI:=λσ H R=>ta σ H λc H1=>∃a,c=[.ref a]/\(∃xs,Fw K H1 a xs)/\R (lL K a) H1
theorem xp{a:Φ}{ta:TA}{p pos:Pos}{g:Κ}{x1}{f:Pos}(hg:Gl X "enumerate")(hm:X.mg "enumerate"=none)(ha:PA X [a] ta)(hs:θ [a] X.env=[(false,eval a X.env)]:=by rfl):
  PI X (.Tuple g x1 f) (.Call (.Name "enumerate" p) [a] [] pos) (wu X.K ta):=by
 intro tx s σ H R I h;refine Call_ (Zl I hg hm boot_enumerate (Dv (qD (ha pos tx s σ H _ I h) λC c o=>?_) hs Z))
 let#[D,H1,i,y,A]:=o;let#[l,e,#[xs,r],q]:=A;subst e;let#[u,rfl,w]:=y.one;cases w;let#[x,B,pl,E]:=i.list r;refine call_enumerate_list pl.isList λh' m j t hk=>DZ m ?_
 have v:L2.Fv X tx σ H1 {c with heap:=h'}:=i.kept (t':=c.toks) hk
 refine#[c.heap.objs.size+1,[c.heap.objs.size+1,c.heap.objs.size],15,H1,Z,v,i6 l _ _ (JZ (C9 _)),#[#[_,m],j],λb n=>?_,q]
 have d:c.heap.objs.size<=b:=by
  rcases Jl.mp n with z|z
  ·rw[z];exact C3 _
  ·rw[Jn.mp z];exact Je _
 exact i.fpOk d (i.hok.fresh d)
theorem kq{K:ι}{a:Δ}{xs:Β}{g:TG}{tb:TS}{D:Gj}{σ:L2.St}{H:Hp}(Pv:Nat->L2.St->Hp->Prop)(r:Pv 0 σ H)(hl:∀i σ H,i<=xs.length->Pv i σ H->Fw K H a xs)
  (hs:∀i x σ H p,xs[i]? =↑x->Pv i σ H->H p=none->g (.ref p) σ (Ft H p (.tup [.int i,x])) λc h=>tb {D with nx:=Pv (i+1),ct:=Pv (i+1),bk:=D.nx} c h)(hd:∀σ H,Pv xs.length σ H->D.nx σ H):
  ∃W:Nat->Nat->L2.St->Hp->Prop,(∃m,W 0 m σ H)/\∀i m σ H,W i m σ H->
   ((lL K a).stop i H/\D.nx σ H)\/((lL K a).go i H/\∃N:L2.St->Hp->Prop,(∀d H',N d H'->∃j,j<m/\W (i+1) j d H')/\∀x H',(lL K a).yld i H x H'->g x σ H' λc h=>tb {D with nx:=N,ct:=N,bk:=D.nx} c h):=by
 exists λi m σ H=>m=xs.length-i/\i<=xs.length/\Pv i σ H,#[xs.length,by simp,JR _,r]
 rintro i m σ H ⟨rfl,hi,p⟩
 have q:=hl i σ H hi p
 by_cases f:i<xs.length
 ·refine .inr #[#[xs,xs[i],q,by simp [f]],Pv (i+1),λd H' l=>#[xs.length-(i+1),by lia,Z,f,l],λx H' y=>?_]
  let#[n,v,s,rfl,o,rfl]:=y;exact hs i v σ H n (o xs q) p s
 ·have e:i=xs.length:=by lia
  subst e;exact .inl #[#[xs,q,Je _],hd σ H p]
end
def zD(t c:String):Bool:=t==c||(t=="bool"&&c=="int")
abbrev ip:List String:=["NoneType","bool","int","str","list","tuple"]
abbrev io:List String:=["bool","int","str","list","tuple"]
theorem gZ(K:ι):∀t∈ip,∀c∈io,W.kitOne K (.type t) (.type c)=↑(zD t c):=by
 intro t a c d;simp only[ip,io,Jl,Jz,JA]at a d;rcases a with rfl|rfl|rfl|rfl|rfl|rfl<;>rcases d with rfl|rfl|rfl|rfl|rfl<;>kernel_rfl
section
variable{X:Cx}
theorem kG:zi X (.builtin "isinstance") (λxs H Q=>∃x c t,xs=[x,.ty c]/\GQ X.K H x (.type t)/\t∈ip/\c∈io/\Q (.bl (zD t c)) H):=by
 intro tx s σ H xs g Q I r h;let#[x,c,t,rfl,ty,f,a,q]:=h;let#[u,v,rfl,e,d]:=cV r
 cases(show v=Γ.type c from d)
 exact rO I e ty (gZ X.K t f c a) λtk=>#[.bl _,H,I.tok tk,Z,q]
theorem lJ:∀{bs:List Bool} {us:Η},Fy (bs.map V.bl) us->us=bs.map Γ.bool
 | [],_,.nil=>rfl
 |b::bs,_,.cons r t=>by
  cases(show _=Γ.bool b from r)
  rw[lJ t];rfl
theorem pM(bs:List Bool):((List.range bs.length).all λi=>(bs[i]?).getD true)=bs.all id:=by
 rw[C2,Dk,Dk];constructor
 ·intro h b c
  let#[i,hi,e]:=List.mem_iff_getElem.mp c
  have:=h i (JN.mpr hi)
  rw[Jg hi,De,e]at this;exact this
 ·intro h i hi
  have a:=JN.mp hi;rw[Jg a,De];exact h _ (CQ a)
theorem aJ(hc:X.calm=true):zi X (.builtin "all") (λxs H Q=>∃(p:Δ) (bs:List Bool),xs=[.ref p]/\Fw X.K H p (bs.map V.bl)/\Q (.bl (bs.all id)) H):=by
 intro tx s σ H xs x Q I r h;let#[p,bs,rfl,j,q]:=h;let#[u,rfl,n]:=Qt r;cases n;let#[c,m,pl,B]:=I.list j;have e:=lJ m;have f:=pl.isList;have d:p<s.heap.objs.size:=by let#[_,e,_]:=f;exact Jm e
 refine call_all_walk (DJ f ?_)
 refine#[s.heap.objs.size,[s.heap.objs.size,p],[s.heap.objs.size],c.toArray.size,15,λi=>(bs[i]?).getD true,Z,Walks.list (A:=X.A.in1) (I.ok.hd hc) _ p (Js d) c.toArray,
  #[#[_,Jq _ Z,8],f.push _],λi v s' y z t g=>?_,λh' tk hk=>?_]
 ·have a:c[i]? =↑v:=by simpa using t
  rw[e,Jk]at a;cases eb:bs[i]? with
  |none=>rw[eb]at a;cases a
  |some b=>
   rw[eb]at a
   cases(Jt a:Γ.bool b=v)
   simp only[eb,De]at g;exact CO g
 ·have l:((List.range c.toArray.size).all λi=>(bs[i]?).getD true)=bs.all id:=by
   rw[Jr,e,Jd];exact pM bs
  rw[l];refine#[.bl _,H,I.kept (h':=h') (t':=tk) λb o q=>hk b o (λw=>?_) (Ji _ q),Z,q]
  rw[Jn.mp w]at q;exact J9 _ (Jm q)
theorem tP:zi X (.type "range") (λxs H Q=>∃j:Int,xs=[.int j]/\∀p,H p=none->Q (.ref p) (Ft H p (.rng 0 j))):=by
 intro tx s σ H xs c Q I r h;let#[j,rfl,q]:=h;let#[u,rfl,a]:=Qt r;let#[t,rfl]:=a;refine call_range_1 #[.ref s.heap.objs.size,_,I.laid (o:= .rng 0 j) (λb o e=>Ji _ e) (Je _) #[30,Jq _ Z],Z,q _ (I.hok.fresh (Je _))]
inductive L6 (x:V) (lo:Λ) (hi:Λ) (H:Hp) (Q:VK):Prop
 |mk (a:_) (xs:_) (h1:x= .ref a) (h2:H a=↑(.tup xs)) (h3:∀p H',Fp H H'->H' p=↑(.tup (Z9 xs lo hi))->(p=a\/H p=none)->Q (.ref p) H')
def Cq:V->Λ->Λ->Hp->VK->Prop:=λx lo hi H Q=>L6 x lo hi H Q
theorem b9{prog:Ξ}{w:Ω}{A:Around}{E:Fl}{s:Θ}{t sl:Δ}{items:Array Γ}{g f:Γ}{lo hi:Λ}{Q:Fl}(a:IsTup s.heap t items)(hs:s.heap.IsSliceOf sl g f .none)(pl:IsPart g lo)(j:IsPart f hi)
  (hw:HT.sIx items.size 0 lo=0/\HT.sIx items.size items.size hi=items.size)(h:Q (.ref t) s):ε (model prog w) A (getItem (.ref t) (.ref sl)) Q E s:=by
 let#[l,e,d,i]:=id hs;have c:s.TypeIs (.ref sl) "slice":=#[l,e,d]
 unfold getItem
 try with_reducible refine JX ?_
 first|refine Ja (Jf ?_)|skip
 refine Ja (wpAny_sequenceKey a.typeIs ⋯ ?_)
 refine Ja (wpAny_callSpecial?_slot (name:=Str.ofString "__getitem__") a.typeIs Ej
  (J7 Ej a.typeIs entry_tuple_getitem ?_ (args_tuple_getitem _ _)))
 show ε _ _ (γ.Tuple.tupleItemsOf (.ref t) >>= _) _ _ s
 refine Ja (tupleItemsOf_ a ?_)
 refine Ja (DN c ?_)
 rw[Jb ⋯]
 refine Ja (HT.sliceApplied_gen hs pl j ?_)
 show ε _ _ (if(((HT.sIx items.size 0 lo:Nat):Int)==0&&(1:Int)==1&&(HT.sIx items.size items.size hi-HT.sIx items.size 0 lo)==items.size)=true then _ else _) _ _ s
 rw[hw.1,hw.2,Jb (by simp)]
 refine Ja (m:=γ.Tuple.tupleIsExact _) ?_
 unfold γ.Tuple.tupleIsExact;refine Ja (DN a.typeIs (Jf ?_))
 rw[Jb (by rfl)]
 exact Ja (Dl (Jf #[0,Jf h]))
theorem nH:rS X Cq:=by
 intro tx s σ H x v t n lo hi u Q I i hs pl j h;let#[a,xs,rfl,g,q]:=h
 by_cases d:HT.sIx xs.length 0 lo=0/\HT.sIx xs.length xs.length hi=xs.length
 ·cases i
  let#[f,r,m,w]:=I.tuple (FC.of g)
  have c:f.toArray.size=xs.length:=by rw[Jr];exact r.length.symm
  exists "tuple",_,PyProof.Rows.slot_tuple_getitem.lookup,m.typeIs
  refine b9 m hs pl j (by rw[c];exact d) #[.ref a,H,I,Z,q a H (Fp.refl H) ?_ (.inl Z)]
  have:Z9 xs lo hi=xs:=by unfold Z9;rw[d.1,d.2];simp
  rw[this];exact g
 ·exact BI tx s σ H _ v t n lo hi u Q I i hs pl j #[a,xs,Z,FC.of g,d,λp l=>q p _ (λb o e=>by rw[qi (qt e l)];exact e) qc (.inr l)]
inductive LL (x:V) (y:V) (H:Hp) (Q:VK):Prop
 |mk (a:_) (b:_) (xs:_) (ys:_) (h1:x= .ref a) (h2:y= .ref b) (h3:H a=↑(.tup xs)) (h4:H b=↑(.tup ys)) (h5:xs.length+ys.length<=ζ) (h6:∀p H',Fp H H'->H' p=↑(.tup (xs++ys))->Q (.ref p) H')
def BU:R2:=λx y H Q=>LL x y H Q
theorem Zh:zf X (binaryOp .Add) BU:=by
 intro tx s σ H x y v u Q I C t h;let#[a,b,xs,ys,rfl,rfl,m,i,N,q]:=h
 by_cases A:xs=[]
 ·subst A
  cases C;cases t;let#[J,K,M,_]:=I.tuple (FC.of m)
  let#[f,P,p2,_]:=I.tuple (FC.of i)
  cases K;let#[#[O,G,B,F],E,w,n,z]:=id M;let#[#[D,r,j,l],c,g,n2,d]:=id p2;simp only at w z g d
  subst w z g d;exact concat_meets #[_,E,Z] #[_,c,Z] noFill_tuple_add seq_tuple_add ED EE (EF _ _)
   (tuple_addW0 a b _ f.toArray n n2 G r F l (by simp)) #[E,c,#[.ref b,H,I,Z,q b H (Fp.refl H) i]]
 ·refine wG tx s σ H _ _ v u Q I C t #[a,b,xs,ys,8,FC.of m,FC.of i,A,N,λe=>q a H (Fp.refl H) (by subst e;simpa using m),λ_ p L=>q p _ (λb o e=>by rw[qi (qt e L)];exact e) qc]
theorem c9{ns:Ζ}{us:Η}(r:Fy (ns.map V.int) us)(j:Nat)(h:j<us.length)(h':j<ns.length):∃t,us[j]=Γ.int ns[j] t:=by
 let#[u,a,c]:=r.get (i:=j) (x:=V.int ns[j]) (by rw[Jk,Jg h'];rfl)
 rw[Jg h]at a;cases a;exact c
theorem lE(ns a:Ζ)(h:ns.length=a.length):((List.range ns.length).all λj=>(ns.getD j 0==a.getD j 0))=decide (ns=a):=by
 rw[C2,Dk,JB];constructor
 ·intro q
  refine List.ext_getElem h λi h1 c=>?_
  have:=q i (JN.mpr h1)
  simp only[JE,Jg h1,Jg c,De,Dj]at this;exact this
 ·rintro rfl i _
  simp
end
def QM:Φ->Bool
 | .Starred .. =>false
 |_=>true
theorem aG{e:Φ}{es:Κ}{a:Env}(h:QM e=true):θ (e::es) a=(false,eval e a)::θ es a:=by
 cases e<;>first|rfl|cases h
theorem CF{X:Cx}{e:Φ}{es:Κ}{te:TE}{t:TA}(ha:PE X e te)(hr:PA X es t)(h:QM e=true:=by rfl):PA X (e::es) (oR te t):=wM ha hr (aG h)
structure Df(P:Ξ)(w:Ω)(K:ι)(mg:Fn)(base:Ψ)(x:Str)(ps:Α)(k:Nat)(sp:Sp):Prop where
 ex:∃(f:Δ) (fd:FuncData),GN P w K mg base Z6 k f fd ps sp/\mg x=↑(.ref f)/\PySem.W.keepIn K (.ref f)=true/\Gp K fd ps []
structure At(K:ι)(mg:Fn)(x:Str)(st:δ)(ps:Α):Prop where
 ex:∃(f:Δ) (fd:FuncData),IC K x x st f fd/\mg x=↑(.ref f)/\PySem.W.keepIn K (.ref f)=true/\Gp K fd ps []
section
variable{P:Ξ}{w:Ω}{K:ι}{mg:Fn}{base:Ψ}
theorem At.df{x:Str}{st:δ}{ps N:Α}{k:Nat}{sp:Sp}(a:At K mg x st ps)(S:Fq N ps (qj st))(e:∀vs H Q E,sp vs H Q E->vs.length=ps.length)
  (d:∀(f:Δ) (cdv:Γ) (A:Around) (c:Ο) (s:Θ) (H:Hp) (vs:Β) (Q:VK) (E:XK),FJ k (A.deeper (envOfC x (qj st) s.heap.objs.size f cdv))->sp vs H Q E->
   ∃t,HX (aV Z6 P w K mg base N x (qj st) f cdv A c s H E).nox (zO st) t/\t {nx:=λ_ H'=>Q .non H',rt:=Q} (Q6 N vs) H):Df P w K mg base x ps (k+1) sp:=by
 let#[f,fd,F,m,g,bd]:=a.ex
 exact#[f,fd,F.ok S e (λcdv A c s H vs Q E i h=>d f cdv A c s H vs Q E i h),m,g,bd]
end
section
variable{X:Cx}{x:Str}{ps:Α}{k:Nat}{sp:Sp}{e:Φ}{es:Κ}{p pos:Pos}{t:TA}
theorem BB(D:Df X.prog X.w X.K X.mg X.base x ps k sp)(hr:FJ k X.A)(ha:PA X (e::es) t)(hg:Gl X x:=by rfl)(hdb:(x==("__debug__":Str))=false:=by decide)(he:θ (e::es) X.env=(false,eval e X.env)::θ es X.env:=by rfl)(hpl:(backTo pos (θ es X.env)).any (·.1)=false:=by rfl):
  PE X (.Call (.Name x p) (e::es) [] pos) (jP sp [] E0 t):=by
 let#[f,fd,ok,m,a,bd]:=D.ex;exact yj ok hr hg m a bd .nil jM ha hdb he hpl
end
theorem iy{X:Cx}{a:Scope}(e:a.kind= .function)(d:∀x∈a.names,x.2= .local->a.names.lookup x.1=some .local)(c:∀x∈a.names,x.2≠ .cell)
  (f:∀x∈a.names,x.2= .free->x.1∈([]:Α)):F6 X a [] []:=#[e,d,c,f,Z,λi j y h=>by simp at h]
theorem aq{X:Cx}{a:Scope}{y:Str}{j:Nat}(e:a.kind= .function)(d:∀x∈a.names,x.2= .local->a.names.lookup x.1=some .local)(c:∀x∈a.names,x.2≠ .cell)
  (f:∀x∈a.names,x.2= .free->x.1∈([y]:Α))(h1:X.N[j]? =↑y)(h2:X.env.kindOf y=some .cell)(h:(relabel a X.env).names.lookup y=some .cell):F6 X a [y] [j]:=
 #[e,d,c,f,Z,λi m n g l=>by
  cases i with
  |zero=>cases g;cases l;exact#[h1,h2,h]
  |succ i=>simp at g]
theorem Z5{X:Cx}{y:Str}{c:Δ}(h:X.env.cells.lookup y=↑c):∀z d,([(y,c)]:List (Str×Δ)).lookup z=↑d->X.env.cells.lookup z=↑d:=λz d e=>by
 by_cases a:z=y
 ·subst a
  simp at e
  rw[<- e];exact h
 ·simp [CW,show(z==y)=false from by simpa using a]at e
theorem bA{X:Cx}{K:ι}(h:X.K=K):IW X (uO K):=by subst h;exact qG
theorem ir{X:Cx}{K:ι}(h:X.K=K):IW X (uo K):=by subst h;exact zk
abbrev hX(n m k:Int):HO:= .lst [.int n,.int m,.int k]
theorem _root_.L2.Fp.upd{H:Hp}{p:Δ}{o:HO}(h:H p=none):Fp H (Ft H p o):=λb u e=>by rw[qi (qt e h)];exact e
theorem AA(c:Bool): -(2 ^ 64:Int)<(if c=true then(1:Int)else 0):=by cases c<;>decide
theorem BC(c:Bool):(if c=true then(1:Int)else 0)<(2 ^ 64:Int):=by cases c<;>decide
theorem nR{n j:Nat}(h:j<n):aP n (j:Int)=↑j:=by unfold aP;rw[Jb (by lia),Jb (by lia)];simp
def iF(ns:Ζ)(lo hi:Λ):Ζ:=(ns.drop (HT.sIx ns.length 0 lo)).take (HT.sIx ns.length ns.length hi-HT.sIx ns.length 0 lo)
theorem uS(ns:Ζ)(lo hi:Λ):Z9 (ns.map V.int) lo hi=(iF ns lo hi).map V.int:=by unfold Z9 iF;rw[Jd,List.map_take,List.map_drop]
theorem uu(ns:Ζ)(lo hi:Λ):(iF ns lo hi).length=min (HT.sIx ns.length ns.length hi-HT.sIx ns.length 0 lo) (ns.length-HT.sIx ns.length 0 lo):=by unfold iF;rw[J0,Ei]
theorem QC{ns:Ζ}{i:Nat}{x:V}(h:(ns.map V.int)[i]? =↑x):∃z,x= .int z/\ns[i]? =↑z:=by
 rw[Jk]at h;cases e:ns[i]? with
 |none=>rw[e]at h;cases h
 |some z=>rw[e]at h;exact#[z,(Jt h).symm,Z]
theorem iA{ns:Ζ}{i:Nat}(h:i<ns.length):(ns.map V.int)[i]? =↑(.int ns[i]):=by rw[Jk,Jg h];rfl
theorem bB(ns:Ζ)(i:Nat)(z:Int):(ns.map V.int).set i (.int z)=(ns.set i z).map V.int:=by rw[List.map_set]
def wq:Option HO->Option String
 |some (.lst _)=>↑"list"
 |some (.tup _)=>↑"tuple"
 |_=>none
def kd(H:Hp):V->Option String
 | .non=>↑"NoneType"
 | .bl _=>↑"bool"
 | .int _=>↑"int"
 | .str _=>↑"str"
 | .ref a=>wq (H a)
 |_=>none
theorem sH{o:Option HO}{t:String}(h:wq o=↑t):(∃xs,o=↑(.lst xs)/\t="list")\/(∃xs,o=↑(.tup xs)/\t="tuple"):=by
 cases o with
 |none=>cases h
 |some u=>
  cases u with
  |lst xs=>cases h;exact .inl #[xs,8]
  |tup xs=>cases h;exact .inr #[xs,8]
  |_=>cases h
theorem gP{H:Hp}{a:Δ}{t:String}(h:kd H (.ref a)=↑t):(∃xs,H a=↑(.lst xs)/\t="list")\/(∃xs,H a=↑(.tup xs)/\t="tuple"):=sH h
theorem BX{K:ι}{H:Hp}{x:V}{t:String}(h:kd H x=↑t):GQ K H x (.type t)/\t∈ip:=by
 cases x with
 |non=>cases h;exact#[.non,by simp]
 |bl b=>cases h;exact#[.bl b,by simp]
 |int i=>cases h;exact#[.int i,by simp]
 |str x=>cases h;exact#[.str x,by simp]
 |byt b=>cases h
 |flt b=>cases h
 |ty b=>cases h
 |ref a=>
  rcases gP h with⟨xs,e,rfl⟩|⟨xs,e,rfl⟩
  ·exact#[.lst e,by simp]
  ·exact#[.tup e,by simp]
theorem c5{H H':Hp}{x:V}{t:String}(s:Fp H H')(h:kd H x=↑t):kd H' x=↑t:=by
 cases x with
 |ref a=>
  rcases gP h with⟨xs,e,rfl⟩|⟨xs,e,rfl⟩
  ·show wq (H' a)=_;rw[s _ _ e];rfl
  ·show wq (H' a)=_;rw[s _ _ e];rfl
 |_=>exact h
def bG:V->Bool
 | .int i=>decide (0<=i)&&decide (i<16)
 |_=>false
theorem Z4{c:Type}{xs:List c}{r:Int}(d:0<=r)(h1:r<xs.length):∃v,QQ xs r=↑v/\v∈xs:=by
 have a:r.toNat<xs.length:=by lia
 refine#[xs[r.toNat],?_,CQ a]
 have e:QQ xs ((r.toNat:Nat):Int)=some xs[r.toNat]:=zW (Jg a)
 rwa [show((r.toNat:Nat):Int)=r by lia]at e
inductive LM (K:ι) (vs:Β) (H:Hp) (Q:VK):Prop
 |mk (a:Δ) (ns:Ζ) (h1:vs=[.ref a]) (h2:Fw K H a (ns.map V.int)) (h3:ns.length<=63) (h4:∀H',Q (.bl true) H')
def jO(K:ι):Sp:=λa H Q _=>LM K a H Q
inductive I0 (vs:Β) (H:Hp) (Q:VK):Prop
 |mk (x:_) (t:_) (h1:vs=[x]) (h2:kd H x=↑t) (h3:Q (.bl (bG x)) H)
def nz:Sp:=λa H Q _=>I0 a H Q
inductive ID (vs:Β) (H:Hp) (Q:VK):Prop
 |mk (p:_) (xs:_) (h1:vs=[.ref p]) (h2:H p=↑(.tup xs)) (h3:xs.length<=ζ) (h4:(∀x∈xs,∃t,kd H x=↑t)) (h5:∀H',Fp H H'->Q (.bl (xs.all bG)) H')
def k3:Sp:=λa H Q _=>ID a H Q
end L3
namespace L3
open PySem PySem.Spec L2
structure QE(X:Cx)(e:Φ)(t:TE):Prop where
 h:PE X e t
structure QT(X:Cx)(e:Φ)(t:TT):Prop where
 h:PT X e t
structure QW(X:Cx)(e:Φ)(t:TT):Prop where
 h:PW X e t
structure QA(X:Cx)(e:Κ)(t:TA):Prop where
 h:PA X e t
structure QS(X:Cx)(e:δ)(t:TS):Prop where
 h:PS X e t
structure IX(X:Cx)(e:List δ)(t:TS):Prop where
 h:HX X e t
structure QG(X:Cx)(e:Φ)(t:TG):Prop where
 h:PG X e t
structure LU(X:Cx)(e:Κ)(t:ZO):Prop where
 h:nu X e t
structure QO(X:Cx)(e:Χ)(t:TO):Prop where
 h:PO X e t
structure QI(X:Cx)(tg e:Φ)(t:TI):Prop where
 h:PI X tg e t
variable{X:Cx}
theorem qf{i j pos}:QE X (.Constant (.int i) j pos) (tC (.int i)):=#[AL]
theorem bW{b j pos}:QE X (.Constant (.bool b) j pos) (tC (.bl b)):=#[B6]
theorem zc{j pos}:QE X (.Constant .none j pos) (tC .non):=#[AK]
theorem qk{x j pos}:QE X (.Constant (.str x) j pos) (tC (.str x)):=#[BG]
theorem zy{x:Str}{v:V}{u:Γ}{pos:Pos}(hg:Gl X x)(hm:X.mg x=↑u)(r:Fx v u)(hd:(x==("__debug__":Str))=false:=by decide):QE X (.Name x pos) (tC v):=#[yy (hg:=hg) (hm:=hm) (r:=r) (hd:=hd)]
theorem qZ{x:Str}{v:V}{u:Γ}{pos:Pos}(hg:Gl X x)(hm:X.mg x=none)(hv:bootBuiltins x=↑u)(r:Fx v u)(hn:x≠"__name__":=by decide)(hd:(x==("__debug__":Str))=false:=by decide):QE X (.Name x pos) (tC v):=#[yu (hg:=hg) (hm:=hm) (hv:=hv) (r:=r) (hn:=hn) (hd:=hd)]
theorem qo{a b:Φ}{ta tb:TE}{pos:Pos}{op:Operator}{r:R2}(ho:zf X (binaryOp op) r)(ha:QE X a ta)(hb:QE X b tb):QE X (.BinOp a op b pos) (iU r ta tb):=#[B0 (ho:=ho) (ha:=ha.h) (hb:=hb.h)]
theorem jL{a:Φ}{ta:TE}{pos:Pos}{op:UnaryOp}{r:V->Hp->VK->Prop}(ho:vP X (unaryOp op) r)(ha:QE X a ta):QE X (.UnaryOp op a pos) (Ci r ta):=#[BP (ho:=ho) (ha:=ha.h)]
theorem zx{a b:Φ}{ta tb:TE}{pos:Pos}{op:CmpOp}{r:R2}(ho:zf X (compareOp op) r)(ha:QE X a ta)(hb:QE X b tb)(hm:behindInMarks op b=false):QE X (.Compare a [op] [b] pos) (iU r ta tb):=#[yw (ho:=ho) (ha:=ha.h) (hb:=hb.h) (hm:=hm)]
theorem qw{a b:Φ}{ta tb:TE}{pos:Pos}{op:CmpOp}{r:R2}(ho:zf X (compareOp op) r)(ha:QE X a ta)(hb:QE X b tb)(hm:behindInMarks op b=false):QT X (.Compare a [op] [b] pos) (c8 (iU r ta tb)):=#[yR (ho:=ho) (ha:=ha.h) (hb:=hb.h) (hm:=hm)]
theorem fH{a b c:Φ}{ta tb tc:TE}{pos:Pos}{op d:CmpOp}{r e:R2}(ho:zf X (compareOp op) r)(ho':zf X (compareOp d) e)(ha:QE X a ta)(hb:QE X b tb)(hc:QE X c tc)(hm:lastMarks [op,d] [b,c]=false:=by with_unfolding_all rfl):QE X (.Compare a [op,d] [b,c] pos) (gQ r e ta tb tc):=#[vi (ho:=ho) (ho':=ho') (ha:=ha.h) (hb:=hb.h) (hc:=hc.h) (hm:=hm)]
theorem uh{a b c:Φ}{ta tb tc:TE}{pos:Pos}{op d:CmpOp}{r e:R2}(ho:zf X (compareOp op) r)(ho':zf X (compareOp d) e)(ha:QE X a ta)(hb:QE X b tb)(hc:QE X c tc)(hm:lastMarks [op,d] [b,c]=false:=by with_unfolding_all rfl):QT X (.Compare a [op,d] [b,c] pos) (c8 (gQ r e ta tb tc)):=#[uD (ho:=ho) (ho':=ho') (ha:=ha.h) (hb:=hb.h) (hc:=hc.h) (hm:=hm)]
theorem Qb{a b:Φ}{rest:Κ}{ta tb:TE}{pos:Pos}(ha:QE X a ta)(hb:QE X (.BoolOp .And (b::rest) pos) tb):QE X (.BoolOp .And (a::b::rest) pos) (oH ta tb):=#[yV (ha:=ha.h) (hb:=hb.h)]
theorem Qu{a:Φ}{pos:Pos}{op}{t:TE}(h:QE X a t):QE X (.BoolOp op [a] pos) t:=#[AM (h:=h.h)]
theorem j4{a:Φ}{ta:TE}{pos:Pos}(ha:QE X a ta):QE X (.UnaryOp .Not a pos) (vQ ta):=#[Bz (ha:=ha.h)]
theorem Zr{a b:Φ}{rest:Κ}{tA tB':TT}{pos:Pos}(ha:QT X a tA)(hb:QW X (.BoolOp .And (b::rest) pos) tB'):QW X (.BoolOp .And (a::b::rest) pos) (AB tA tB'):=#[Bq (ha:=ha.h) (hb:=hb.h)]
theorem Q7{a b:Φ}{rest:Κ}{tA tB':TT}{pos:Pos}(ha:QT X a tA)(hb:QW X (.BoolOp .Or (b::rest) pos) tB'):QW X (.BoolOp .Or (a::b::rest) pos) (Ch tA tB'):=#[B1 (ha:=ha.h) (hb:=hb.h)]
theorem Zg{a:Φ}{tA:TT}{pos:Pos}(ha:QT X a tA):QW X (.BoolOp .And [a] pos) tA:=#[yt (ha:=ha.h)]
theorem QZ{a:Φ}{tA:TT}{pos:Pos}(ha:QT X a tA):QW X (.BoolOp .Or [a] pos) tA:=#[Bf (ha:=ha.h)]
theorem QH{a:Φ}{tA:TT}{pos:Pos}(ha:QT X a tA):QT X (.UnaryOp .Not a pos) (Am tA):=#[Ar (ha:=ha.h)]
theorem zE{e:Φ}{t:TE}(h:QE X e t)(he:∀a,isTrue e X.env a=(do let v <- a;standAt e.pos;holding [v] (truthy v)):=by intro _;rfl):QT X e (tB t):=#[Ay (h:=h.h) (he:=he)]
theorem Z8{a b:Φ}{ta tb:TE}{tA:TT}{pos:Pos}{c:Φ}(hc:QT X c tA)(ha:QE X a ta)(hb:QE X b tb):QE X (.IfExp c a b pos) (pT tA ta tb):=#[vj (hc:=hc.h) (ha:=ha.h) (hb:=hb.h)]
theorem qd{e:Φ}{es:Κ}{te:TE}{t:TA}(ha:QE X e te)(hr:QA X es t)(h:QM e=true:=by rfl):QA X (e::es) (oR te t):=#[CF (ha:=ha.h) (hr:=hr.h) (h:=h)]
theorem qb:QA X [] vc:=#[Bj]
theorem qy{es:Κ}{t:TA}{pos:Pos}{x1}(h:QA X es t):QE X (.Tuple es x1 pos) (Aj t):=#[y9 (h:=h.h)]
theorem qT{es:Κ}{t:TA}{pos:Pos}(h:QA X es t):QE X (.List es pos) (As t):=#[Bd (h:=h.h)]
theorem qF{a b:Φ}{ta tb:TE}{pos:Pos}{r:R2}(hr:IW X r)(ha:QE X a ta)(hb:QE X b tb)(hs:nX b:=by exactλ_ _=>rfl):QE X (.Subscript a b pos) (iU r ta tb):=#[BT (hr:=hr) (ha:=ha.h) (hb:=hb.h) (hs:=hs)]
theorem fe{e:Φ}{te:TE}{lo hi:Χ}{tl th:TO}{pos p2:Pos}{r:V->Λ->Λ->Hp->VK->Prop}(hr:rS X r)(he:QE X e te)(hl:QO X lo tl)(hu:QO X hi th):QE X (.Subscript e (.Slice lo hi none p2) pos) (Cg r te tl th):=#[uA (hr:=hr) (he:=he.h) (hl:=hl.h) (hu:=hu.h)]
theorem iw:QO X none nh:=#[wU]
theorem ii{e:Φ}{te:TE}(h:QE X e te):QO X ↑e (vV te):=#[wO (h:=h.h)]
theorem qr{x:Str}{p pos:Pos}{e:Φ}{es:Κ}{t:TA}{id:String}{r:Β->Hp->VK->Prop}(hc:zi X (.builtin id) r)(hm:X.mg x=none)(hv:bootBuiltins x=↑(.builtin id))(ha:QA X (e::es) t)(hg:Gl X x:=by rfl)(hn:x≠"__name__":=by decide)(hdb:(x==("__debug__":Str))=false:=by decide)(he:θ (e::es) X.env=(false,eval e X.env)::θ es X.env:=by rfl)(hpl:(backTo pos (θ es X.env)).any (·.1)=false:=by rfl):QE X (.Call (.Name x p) (e::es) [] pos) (wf r t):=#[uW (hc:=hc) (hg:=hg) (hm:=hm) (hv:=hv) (ha:=ha.h) (hn:=hn) (hdb:=hdb) (he:=he) (hpl:=hpl)]
theorem qN{x:Str}{p pos:Pos}{e:Φ}{es:Κ}{t:TA}{T:String}{r:Β->Hp->VK->Prop}(hc:zi X (.type T) r)(hm:X.mg x=none)(hv:bootBuiltins x=↑(.type T))(ha:QA X (e::es) t)(hg:Gl X x:=by rfl)(hn:x≠"__name__":=by decide)(hdb:(x==("__debug__":Str))=false:=by decide)(he:θ (e::es) X.env=(false,eval e X.env)::θ es X.env:=by rfl)(hpl:(backTo pos (θ es X.env)).any (·.1)=false:=by rfl):QE X (.Call (.Name x p) (e::es) [] pos) (wf r t):=#[rD (hc:=hc) (hg:=hg) (hm:=hm) (hv:=hv) (ha:=ha.h) (hn:=hn) (hdb:=hdb) (he:=he) (hpl:=hpl)]
theorem ql{x:Str}{ps:Α}{k:Nat}{sp:Sp}{e:Φ}{es:Κ}{p pos:Pos}{t:TA}(D:Df X.prog X.w X.K X.mg X.base x ps k sp)(hr:FJ k X.A)(ha:QA X (e::es) t)(hg:Gl X x:=by rfl)(hdb:(x==("__debug__":Str))=false:=by decide)(he:θ (e::es) X.env=(false,eval e X.env)::θ es X.env:=by rfl)(hpl:(backTo pos (θ es X.env)).any (·.1)=false:=by rfl):QE X (.Call (.Name x p) (e::es) [] pos) (jP sp [] E0 t):=#[BB (D:=D) (hr:=hr) (ha:=ha.h) (hg:=hg) (hdb:=hdb) (he:=he) (hpl:=hpl)]
theorem qB:IX X [] oT:=#[xq]
theorem qe{st:δ}{rest:List δ}{t u:TS}(h1:QS X st t)(h2:IX X rest u):IX X (st::rest) (bL t u):=#[uZ (h1:=h1.h) (h2:=h2.h)]
theorem qg{st:δ}{t:TS}(h1:QS X st t):IX X [st] t:=#[wW (h1:=h1.h)]
theorem qx{pos:Pos}{i:Nat}{x:Str}{e:Φ}{te:TE}{pos':Pos}(hN:X.N.Nodup)(hi:X.N[i]? =↑x)(hx:f9 X.env.scope x)(he:QE X e te)(hs:swapsWith e ↑(.Name x pos') pos.line X.env=pure false:=by rfl)(hf:X.fn x=true\/X.env.scope.names.lookup x=some .local:=by first|exact .inl Z|exact .inr Z|assumption):QS X (.Assign [.Name x pos'] e pos) (bD te (Qz i)):=#[yZ (hN:=hN) (hi:=hi) (hx:=hx) (he:=he.h) (hs:=hs) (hf:=hf)]
theorem zj{pos:Pos}{tg e:Φ}{te:TE}{g:TG}(he:QE X e te)(hg:QG X tg g)(hs:swapsWithSole [tg] e pos.line X.env=pure false:=by rfl)(hw:swappedStores [tg] e X.env=pure none:=by rfl)(h1:(assignEach [tg] X.env).map (·.2)=[assign tg X.env]:=by rfl):QS X (.Assign [tg] e pos) (bD te g):=#[BK (he:=he.h) (hg:=hg.h) (hs:=hs) (hw:=hw) (h1:=h1)]
theorem qp{e:Φ}{te:TE}{pos:Pos}(he:QE X e te):QS X (.Return ↑e pos) (Ao te):=#[Bg (he:=he.h)]
theorem qK{t u:TS}{pos:Pos}{c:Φ}{a b:List δ}{tc:TT}(hc:QT X c tc)(ha:IX X a t)(hb:IX X b u):QS X (.If c a b pos) (j2 tc t u):=#[BQ (hc:=hc.h) (ha:=ha.h) (hb:=hb.h)]
theorem zn{tg:Φ}{a:Φ}{c:List δ}{d:TI}{g:TG}{tb:TS}{pos:Pos}(hp:PassesOwn (model X.prog X.w) X.A X.env X.xe)(hc:X.calm=true)(hi:QI X tg a d)(hg:QG X tg g)(hb:IX X c tb)(hs:∀x,foldedSetIterable a X.env x=pure x:=by intro _;rfl):QS X (.For tg a c [] pos) (Be d g tb):=#[Bn (hp:=hp) (hc:=hc) (hi:=hi.h) (hg:=hg.h) (hb:=hb.h) (hs:=hs)]
theorem zG{e:Φ}{te:TE}{pos:Pos}(he:QE X e te)(hs:swapsWith e none pos.line X.env=pure false:=by rfl):QS X (.Expr e pos) (vW te):=#[yQ (he:=he.h) (hs:=hs)]
theorem xi{pos:Pos}{o i e:Φ}{to j te:TE}{c:V->V->Hp->VK->Prop}{d:sX}{a:fi}{op:Operator}{f:Pos}(ho:QE X o to)(hi:QE X i j)(hg:uC X c)(he:QE X e te)(hp:Bs X op d)(hs:lh X a)(ha:∀h g new,augStore i h g new=(do holding [new,h,g] (setItem h g new);release [new,h,g] [];pure .next):=by intros;rfl):QS X (.AugAssign (.Subscript o i f) op e pos) (vT to j te c d a):=#[yO (ho:=ho.h) (hi:=hi.h) (hg:=hg) (he:=he.h) (hp:=hp) (hs:=hs) (ha:=ha)]
theorem ze{tg:Φ}{l:Φ}{tl:TE}(hl:QE X l tl):QI X tg l (wm X.K tl):=#[wS (hl:=hl.h)]
theorem gU{tg:Φ}{l:Φ}{tl:TE}(hl:QE X l tl):QI X tg l (AV X.K tl):=#[Bh (hl:=hl.h)]
theorem Qs{tg:Φ}{a:Φ}{ta:TA}{p pos:Pos}(hg:Gl X "range")(hm:X.mg "range"=none)(ha:QA X [a] ta)(hs:θ [a] X.env=[(false,eval a X.env)]:=by rfl):QI X tg (.Call (.Name "range" p) [a] [] pos) (vZ ta):=#[pR (hg:=hg) (hm:=hm) (ha:=ha.h) (hs:=hs)]
theorem rK{tg:Φ}{a b:Φ}{ta:TA}{p pos:Pos}(hg:Gl X "range")(hm:X.mg "range"=none)(ha:QA X [a,b] ta)(hs:θ [a,b] X.env=[(false,eval a X.env),(false,eval b X.env)]:=by rfl)(hs2:θ [b] X.env=[(false,eval b X.env)]:=by rfl):QI X tg (.Call (.Name "range" p) [a,b] [] pos) (vU ta):=#[pZ (hg:=hg) (hm:=hm) (ha:=ha.h) (hs:=hs) (hs2:=hs2)]
theorem nK{a:Φ}{ta:TA}{p pos:Pos}{d:Κ}{x1}{c:Pos}(hg:Gl X "enumerate")(hm:X.mg "enumerate"=none)(ha:QA X [a] ta)(hs:θ [a] X.env=[(false,eval a X.env)]:=by rfl):QI X (.Tuple d x1 c) (.Call (.Name "enumerate" p) [a] [] pos) (wu X.K ta):=#[xp (hg:=hg) (hm:=hm) (ha:=ha.h) (hs:=hs)]
theorem qh{pos:Pos}{i:Nat}{x:Str}(hN:X.N.Nodup)(hi:X.N[i]? =↑x)(hx:f9 X.env.scope x)(hf:X.fn x=true\/X.env.scope.names.lookup x=some .local:=by first|exact .inl Z|exact .inr Z|assumption):QG X (.Name x pos) (Qz i):=#[yf (hN:=hN) (hi:=hi) (hx:=hx) (hf:=hf)]
theorem Qf{pos:Pos}{es:Κ}{k:Nat}{t:ZO}{n:Nat}(hc:X.calm=true)(h:LU X es t)(hn:(assignEach es X.env).length=n:=by rfl)(hst:(assignEach es X.env).findIdx? (·.1)=none:=by rfl):QG X (.Tuple es k pos) (lQ X.K n t):=#[kZ (hc:=hc) (h:=h.h) (hn:=hn) (hst:=hst)]
theorem aa{pos:Pos}{o i:Φ}{to d:TE}{t:fi}(ho:QE X o to)(hi:QE X i d)(hs:lh X t)(ha:∀v,assign (.Subscript o i pos) X.env v=(do
      let a <- holding [v] (eval o X.env)
      let c <- holding [v,a] (eval i X.env)
      standAt pos
      holding [v,a,c] (setItem a c v)
      release [v,a,c] []):=by intro _;rfl):QG X (.Subscript o i pos) (An to d t):=#[Bo (ho:=ho.h) (hi:=hi.h) (hs:=hs) (ha:=ha)]
theorem qU:LU X [] px:=#[xu]
theorem qm{e:Φ}{es:Κ}{t:TG}{u:ZO}(h1:QG X e t)(h2:LU X es u)(hs:(assignEach (e::es) X.env).map (·.2)=assign e X.env::(assignEach es X.env).map (·.2):=by rfl):LU X (e::es) (c7 t u):=#[vq (h1:=h1.h) (h2:=h2.h) (hs:=hs)]
theorem QW.pt{e:Φ}{t:TT}(h:QW X e t):QT X e t:=#[PW.pt h.h]
theorem qv(i:Nat){x:Str}{pos:Pos}(hN:X.N[i]? =↑x:=by rfl)(hv:BN X.env.scope x:=by first|exact Or.inl Z|exact Or.inr (Or.inl Z)|exact Or.inr (Or.inr Z))(hd:(x==("__debug__":Str))=false:=by decide)
  (a:(x==("__classdict__":Str))=false:=by decide):QE X (.Name x pos) (Ab i):=#[Bb hN hv hd a]
theorem zv{f tg d:Φ}{a:Scope}{h:List (Str×Δ)}{pos:Pos}{fr own:Α}{js:Ε}{l:TI}{g:TG}{te:TE}
  (hc:X.calm=true)(hi:QI X tg d l)(e:closureFor a X.env=pure h)(j:∀y c,h.lookup y=↑c->X.env.cells.lookup y=↑c)(i:h.map (·.1)=fr)
  (S:F6 X a fr js)
  (hg:∀C s H fp,QG (zB X (own++fr) a h C s H fp) tg g)(he:∀C s H fp,QE (zB X (own++fr) a h C s H fp) f te)
  (hs:∀x,foldedSetIterable d X.env x=pure x:=by intro _;rfl):
  QE X (.ListComp f [#[tg,d,[],(0)]] a pos) (gs own.length js l g te):=#[yh hc hi.h e j i S (λC s H fp=>(hg C s H fp).h) (λC s H fp=>(he C s H fp).h) hs]
theorem yg{f tg d:Φ}{a:Scope}{j:List (Str×Δ)}{pos e q:Pos}{fr own:Α}{js:Ε}{p:TI}{g:TG}{te:TE}{i:Nat}{y:Str}
  (hN:X.N.Nodup)(l:X.N[i]? =↑y)(hx:f9 X.env.scope y)
  (hc:X.calm=true)(hi:QI X tg d p)(h:closureFor a X.env=pure j)(n:∀y c,j.lookup y=↑c->X.env.cells.lookup y=↑c)(m:j.map (·.1)=fr)
  (S:F6 X a fr js)
  (hg:∀C s H fp,QG (zB X (own++fr) a j C s H fp) tg g)(he:∀C s H fp,QE (zB X (own++fr) a j C s H fp) f te)
  (hs:∀x,foldedSetIterable d X.env x=pure x:=by intro _;rfl)(o:swapsWith (.ListComp f [#[tg,d,[],(0)]] a pos) ↑(.Name y q) e.line X.env=pure true:=by rfl)
  (hf:X.fn y=true\/X.env.scope.names.lookup y=some .local:=by first|exact .inl Z|exact .inr Z|assumption):
  QS X (.Assign [.Name y q] (.ListComp f [#[tg,d,[],(0)]] a pos) e) (bD (gs own.length js p g te) (Qz i)):=#[xy hN l hx hc hi.h h n m S (λC s H fp=>(hg C s H fp).h) (λC s H fp=>(he C s H fp).h) hs o hf]
section
variable{P:Ξ}{w:Ω}{K:ι}{mg:Fn}{base:Ψ}
theorem At.dq{x:Str}{st:δ}{ps N:Α}{k:Nat}{sp:Sp}(a:At K mg x st ps)(S:Fq N ps (qj st))
  (d:∀(f:Δ) (cdv:Γ) (A:Around) (c:Ο) (s:Θ) (H:Hp) (vs:Β) (Q:VK) (E:XK),FJ k (A.deeper (PyProof.Rows.envOfC x (qj st) s.heap.objs.size f cdv))->sp vs H Q E->
   ∃t,IX (aV Z6 P w K mg base N x (qj st) f cdv A c s H E).nox (zO st) t/\t {nx:=λ_ H'=>Q .non H',rt:=Q} (Q6 N vs) H)(e:∀vs H Q E,sp vs H Q E->vs.length=ps.length:=by intro vs H Q E h;first|(cases h;subst_vars;rfl)|((repeat first|let#[rfl,h]:=h|let#[_,h]:=h);all_goals rfl)):Df P w K mg base x ps (k+1) sp:=
 a.df S e λf cdv A c s H vs Q E g h=>let⟨t,q1,q2⟩:=d f cdv A c s H vs Q E g h;#[t,q1.h,q2]
theorem _root_.L2.IC.dq{x Mu:Str}{st:δ}{f:Δ}{fd:FuncData}{N ps:Α}{k:Nat}{sp:Sp}(F:IC K x Mu st f fd)(S:Fq N ps (qj st))(d:∀vs H Q E,sp vs H Q E->vs.length=ps.length)
  (c:∀(cdv:Γ) (A:Around) (a:Ο) (s:Θ) (H:Hp) (vs:Β) (Q:VK) (E:XK),FJ k (A.deeper (PyProof.Rows.envOfC Mu (qj st) s.heap.objs.size f cdv))->sp vs H Q E->
   ∃t,IX (aV Z6 P w K mg base N Mu (qj st) f cdv A a s H E).nox (zO st) t/\t {nx:=λ_ H'=>Q .non H',rt:=Q} (Q6 N vs) H):GN P w K mg base Z6 (k+1) f fd ps sp:=
 F.ok S d λcdv A a s H vs Q E e h=>let⟨t,q1,q2⟩:=c cdv A a s H vs Q E e h;#[t,q1.h,q2]
theorem BY{x:Str}{st:δ}{ps:Α}{f:Δ}{fd:FuncData}(F:IC K x x st f fd)(m:mg x=↑(.ref f))(b:Gp K fd ps []):At K mg x st ps:=#[f,fd,F,m,F.kp,b]
end
end L3
namespace L3
open PySem PySem.Spec PyProof.Rows L2
section
variable{prog:Ξ}{w:Ω}{A:Around}{E:Fl}{s:Θ}
theorem mO{l:Δ}{vs:Η}{Q:Η->Θ->Prop}(hl:IsTup s.heap l vs.toArray)
  (h:Q vs {s with heap:=(s.heap.push (seqObj "list" (List.toArray []) 0)).update s.heap.objs.size (Obj.mapSeq (· ++vs.toArray))})(hsz:vs.length<=ζ):
  ε (model prog w) A (collect (.ref l)) Q E s:=by
 let#[o,e,d,n,c]:=id hl;unfold collect;refine Ja (wpAny_runValue (DB entry_proto_collect' ?_))
 show ε _ _ (do again (.builtin "list.__iadd__" #[[<- newList [],.ref l],[]])) _ _ s
 refine Ja (wpAny_newList (Jf #[Code.quiet_builtin _ nofun,DB entry_list_iadd' ?_]))
 show ε _ _ (γ.List.listExtendWith (.ref s.heap.objs.size) (.ref l) (.ref s.heap.objs.size)) _ _ {s with heap:=s.heap.push (seqObj "list" (List.toArray []) 0)}
 unfold γ.List.listExtendWith;have a:(s.heap.push (seqObj "list" (List.toArray []) 0)).get? l=↑o:=Ji _ e
 refine Ja (DN (T:="tuple") #[o,a,d] ?_)
 have f:(Γ.type "tuple"==Γ.type "tuple")=true:=by rfl
 rw[Jb (by rw[f];simp)]
 refine Ja (listItems_at a c ?_)
 refine Ja (listItems_at (xs:= (List.toArray [])) (n:=0) (Jq _ Z) Z ?_)
 rw[Jc (by simp)]
 refine Ja (listUpdate_at (xs:= (List.toArray [])) (n:=0) (Jq _ Z) Z ?_ (JR _) (by show((List.toArray [])++vs.toArray).size<=ζ+1;simp only[Array.size_append,Jr,List.length_nil];lia))
 refine Jf ?_
 show ε (model prog w) A (do
   let o <- load s.heap.objs.size
   match o.data with
   | .seq xs _=>pure xs.toList
   |_=>unsupported "internal:collect") Q E {s with heap:=(s.heap.push (seqObj "list" (List.toArray []) 0)).update s.heap.objs.size (Obj.mapSeq (· ++vs.toArray))}
 refine Ja (wpAny_load (get?_update_seq (Jq _ Z) _) ?_)
 show ε _ _ (pure (((List.toArray []):Array Γ)++vs.toArray).toList) Q E _
 rw[show(((List.toArray []):Array Γ)++vs.toArray).toList=vs by simp]
 exact Jf h
theorem pC{l:Δ}{vs:Η}{ns:Ζ}{Q:Fl}(hl:IsTup s.heap l vs.toArray)(g:IntsAre vs ns)(e:vs.length<64)
  (h:∀(c:Array Γ) (a:Ζ),IntsAre c.toList a->a.Perm ns->a.Pairwise (· <= ·)->Q (.ref (s.heap.objs.size+1)) {s with heap:=sortedAll s.heap vs c}):
  ε (model prog w) A (call (.builtin "sorted") [.ref l]) Q E s:=by
 refine Calls.call_function_entry kind_sorted plain_sorted entry_sorted (args_sorted1 _) ?_
 unfold γ.«sorted»
 refine Ja (m:=checkCount "sorted" 1 1 _) (Jf ?_)
 refine Ja (mO hl ?_ (Ju (DW e) ⋯))
 refine Ja (wpAny_newList ?_)
 have d:((s.heap.push (seqObj "list" (List.toArray []) 0)).update s.heap.objs.size (Obj.mapSeq (· ++vs.toArray))).objs.size=s.heap.objs.size+1:=by
  rw[Ψ.size_update,size_push']
 have f:(((s.heap.push (seqObj "list" (List.toArray []) 0)).update s.heap.objs.size (Obj.mapSeq (· ++vs.toArray))).push (seqObj "list" vs.toArray 0)).get? (s.heap.objs.size+1)=↑(seqObj "list" vs.toArray 0):=by
  rw[<- d];exact Jq _ Z
 show ε _ _ _ _ _ {s with heap:=((s.heap.push (seqObj "list" (List.toArray []) 0)).update s.heap.objs.size (Obj.mapSeq (· ++vs.toArray))).push (seqObj "list" vs.toArray 0)}
 rw[d];refine Ja (JX (J7 slot_list_sort #[_,f,Z] entry_list_sort (list_sort_tree f g e λc a j n i=>#[0,?_]) (args_list_sort _)))
 exact Jf #[0,h c a j n i]
end
section
variable{X:Cx}
theorem mx:zi X (.builtin "sorted") (λxs H Q=>∃(p:Δ) (ns:Ζ),xs=[.ref p]/\FC X.K H p (ns.map V.int)/\ns.length<64/\
  ∀l (a:Ζ),H l=none->a.Perm ns->a.Pairwise (· <= ·)->Q (.ref l) (Ft H l (.lst (a.map V.int)))):=by
 intro tx s σ H xs x Q I r h;let#[p,ns,rfl,i,n,q]:=h;let#[u,rfl,m]:=Qt r;cases m;let#[d,f,pl,z]:=I.tuple i;have t:=f.length;rw[Jd]at t;refine pC pl (oW f) (by lia) λc a j g v=>?_
 let#[e,w]:=sortedAll_at s.heap d c;refine#[.ref (s.heap.objs.size+1),_,I.laid (t':=s.toks) (o:= .lst (a.map V.int)) (λb o q=>sortedAll_old q) (C3 _) ?_,Z,q _ a (I.hok.fresh (C3 _)) g v]
 have y:a.length=ns.length:=g.length_eq
 exists by rw[Jd];exact Ju (by lia:a.length<=64) ⋯,c.toList,e,cf j
 exact w
end
def F5:Ζ:=(List.range 16).map λi=>((i:Nat):Int)
theorem vy:F5.length=16:=by decide
theorem wJ{a:Type}{xs:List a}{z:Int}{j:Nat}{v:a}(e:z=(j:Int))(h:xs[j]? =↑v):QQ xs z=↑v:=by rw[e];exact zW h
theorem hV{n j:Nat}{z:Int}(e:z=(j:Int))(h:j<n):aP n z=↑j:=by rw[e];exact nR h
theorem k9{z:Int}(h:z∈F5):0<=z/\z<16:=by
 let#[i,hi,e]:=Jv.mp h
 have:=JN.mp hi
 lia
end L3
namespace L3
open PySem PySem.Spec PyProof.Rows L2
open Sem (wp)
section
variable{prog:Ξ}{w:Ω}{A:Around}{E:Fl}{s:Θ}
theorem oS{it t:Δ}{i:Nat}{its:Array Γ}{x:Γ}{Q:Fl}(a:s.heap.IsTupleIter it t i)(j:s.heap.IsTuple t its)(hx:its[i]? =↑x)
  (h:∀h',h'.IsTupleIter it t (i+1)->Ψ.SameBut it s.heap h'->Q x {s with heap:=h'}):ε (model prog w) A (γ.SmallTypes.nextOf (.ref it)) Q E s:=by
 let#[o,d,g,c]:=id a;let#[l,f,_,m,e]:=j;unfold γ.SmallTypes.nextOf;refine Ja (wpAny_callSpecial?_slot (name:=Str.ofString "__next__") a.typeIs Er
  (J7 Er a.typeIs F.entry_tuple_iterator_next ?_ (F.args_tuple_iterator_next_1 _)))
 show ε _ _ (field (.ref it) 0 >>= _) _ _ s
 refine Ja (JO d c (x:= .ref t) Z ?_)
 show ε _ _ (if(Γ.ref t==Γ.none)=true then _ else _) _ _ s
 rw[Jc (show¬((Γ.ref t==Γ.none)=true)from JD)]
 show ε _ _ (field (.ref it) 1 >>= _) _ _ s
 refine Ja (JO d c (x:= .int i 0) Z ?_)
 show ε _ _ (seqItems? (.ref t) >>= _) _ _ s
 refine Ja (Dg f e ?_)
 simp only[Dm,hx];refine Ja (D3 d c (by simp) (Jf #[x,Z,Jf (h _ ?_ (D4 ..))]))
 exact#[_,El _ d (EG (DO c _)),(Obj.cls_mapFields ..).trans g,by
  rw[DO c];simp [rawInt]]
theorem iS{it t:Δ}{i:Nat}{its:Array Γ}{Q:Fl}(j:A.handled=none)(c:s.heap.IsTupleIter it t i)(n:s.heap.IsTuple t its)(hx:its[i]? =none)
  (l:∀h' e,Ψ.ExtBut it s.heap h'->(∃o,h'.get? e=↑o/\o.cls= .type "StopIteration")->E (.ref e) {s with heap:=h'}):
  ε (model prog w) A (γ.SmallTypes.nextOf (.ref it)) Q E s:=by
 let#[o,h,q,d]:=id c;let#[p,g,_,r,f]:=n;unfold γ.SmallTypes.nextOf;refine Ja (wpAny_callSpecial?_slot (name:=Str.ofString "__next__") c.typeIs Er
  (J7 Er c.typeIs F.entry_tuple_iterator_next ?_ (F.args_tuple_iterator_next_1 _)))
 show ε _ _ (field (.ref it) 0 >>= _) _ _ s
 refine Ja (JO h d (x:= .ref t) Z ?_)
 show ε _ _ (if(Γ.ref t==Γ.none)=true then _ else _) _ _ s
 rw[Jc (show¬((Γ.ref t==Γ.none)=true)from JD)]
 show ε _ _ (field (.ref it) 1 >>= _) _ _ s
 refine Ja (JO h d (x:= .int i 0) Z ?_)
 show ε _ _ (seqItems? (.ref t) >>= _) _ _ s
 refine Ja (Dg g f ?_)
 simp only[Dm,hx];refine Ja (Dl (Ja (D3 h d (by simp) ?_)))
 show ε _ _ (newExc (.type "StopIteration") [] >>= _) _ _ _
 refine Ja ?_
 simp only[newExc,newTuple];refine Ja (C6 ?_ (by size_fits))
 refine Ja (m:=firstArgMember _ _) (C7 (a:=Γ.none) (by first|rfl|(simp only[firstArgMember];rfl)) ?_)
 refine C6 ?_ (by size_fits)
 simp only[raiseNew];refine Ja (wpAny_handled ?_)
 first|rw[show A.in1.handled=none from j]|rw[j]
 refine Ja (Jf (wpAny_throw ?_))
 exact l _ _ (((D4 ..).extBut.push _).push _) #[_,Jq _ Z,Z]
end
theorem gh{prog:Ξ}{w:Ω}{A:Around}(f:A.handled=none)(it t:Δ)(d:t≠it)(its:Array Γ):
  Draws prog w A it [it,t] its.size (λi v=>its[i]? =↑v) (λi h=>h.IsTupleIter it t i/\h.IsTuple t its) where
 live:=λ_ _ st=>let⟨o,ho,_⟩:=st.1;#[o,ho]
 frame:=λ_ _ _ st hk=>#[st.1.at λo e=>hk it (by simp) o e,let⟨o,e,r⟩:=st.2;#[o,hk t (by simp) o e,r]]
 item:=λi s Q E hi st j=>by
  refine oS st.1 st.2 (x:=its[i]) (by simp [hi]) λh' a c=>?_
  exact j _ h' s.toks (by simp [hi]) #[a,let⟨o,e,r⟩:=st.2;#[o,c.extBut _ _ d e,r]] c
 done:=λs Q E st g=>iS f st.1 st.2 (by simp) g
open AutoSeq1 (wpAny_loadPart')in
theorem mH(l:Δ)(items:Array Γ)(n:Nat)(e:Υ)(sl:Array Ν):
  Meets (γ.«enumerate.__new__» #[[.type "enumerate",.ref l],[]]) (λ_ R s=>s.heap.get? l=some {cls:= .type "tuple",dict:=e,data:= .seq items n,slots:=sl}/\
   R (.ok (.ret (.ref (s.heap.push {cls:= .type "tuple_iterator",data:= .fields (List.toArray [.ref l,.int 0 0])}).objs.size)))
    {s with heap:=(s.heap.push {cls:= .type "tuple_iterator",data:= .fields (List.toArray [.ref l,.int 0 0])}).push {cls:= .type "enumerate",data:= .fields (List.toArray [.none,.bool false,.ref s.heap.objs.size,rawInt 0,.none,.none])}}):=
 .of_wp λprog w A R s h=>by
  let#[m,g,d,tk,j]:=s;let#[a,h]:=h
  have i:=sub_enumerate;have f:Ψ.IsTuple (Θ.heap #[m,g,d,tk,j]) l items:=#[_,a,Z,n,Z]
  wp_walk using DP a
  refine wpAny_stack_any λst=>Jf ?_
  split
  ·rename_i c _ _ _ _ _
   cases(c==Γ.type "enumerate")
   ·wp_walk using DP a,Di f
    exact#[0,h]
   ·wp_walk using DP a,Di f
    exact#[0,h]
  ·wp_walk using DP a,Di f
   exact#[0,h]
section
variable{prog:Ξ}{w:Ω}{A:Around}{E:Fl}{s:Θ}
theorem oQ{l:Δ}{items:Array Γ}{Q:Fl}(m:s.heap.IsTuple l items)
  (h:∀h',IsEnum h' (s.heap.objs.size+1) s.heap.objs.size 0 .none->h'.IsTupleIter s.heap.objs.size l 0->(∀b o,s.heap.get? b=↑o->h'.get? b=↑o)->Q (.ref (s.heap.objs.size+1)) {s with heap:=h'}):
  ε (model prog w) A (call (.type "enumerate") [.ref l]) Q E s:=by
 let#[#[c,e,j,p],q,d,n,a]:=m
 replace d:c= .type "tuple":=d
 replace a:j= .seq items n:=a
 subst d a;refine callType_new F.called_enumerate ⋯ (F.typeCall_enumerate_1 _) (F.newCall_enumerate_1 _) (λf=>F.args_object_init_2 f _) F.entry_enumerate_new
  (mH l items n e p) #[q,?_]
 have i:(s.heap.push {cls:= .type "tuple_iterator",data:= .fields (List.toArray [.ref l,.int 0 0])}).objs.size=s.heap.objs.size+1:=J5 ..
 show _/\_
 rw[i];have g:IsEnum ((s.heap.push {cls:= .type "tuple_iterator",data:= .fields (List.toArray [.ref l,.int 0 0])}).push
   {cls:= .type "enumerate",data:= .fields (List.toArray [.none,.bool false,.ref s.heap.objs.size,rawInt 0,.none,.none])}) (s.heap.objs.size+1) s.heap.objs.size 0 .none:=by
  have:=Jq (s.heap.push {cls:= .type "tuple_iterator",data:= .fields (List.toArray [.ref l,.int 0 0])})
   (o:={cls:= .type "enumerate",data:= .fields (List.toArray [.none,.bool false,.ref s.heap.objs.size,rawInt 0,.none,.none])}) Z
  rw[i]at this;exact this
 exact#[#[_,g,Z],h _ g #[_,Ji _ (Jq _ Z),8] λb o x=>Ji _ (Ji _ x)]
end
def mr(K:ι)(a:Δ):It:=
 #[λi H=>∃xs x,FC K H a xs/\xs[i]? =↑x,λi H x H'=>∃p v,H p=none/\x= .ref p/\(∀xs,FC K H a xs->xs[i]? =↑v)/\H'=Ft H p (.tup [.int i,v]),λi H=>∃xs,FC K H a xs/\xs.length<=i]
theorem oI{P:Ξ}{w:Ω}{K:ι}{G:Κ}{x1}{pos:Pos}(a e it:Δ)(t:e≠it):
  GX P w K (.Tuple G x1 pos) (mr K a) [e,it] e (λi h=>(∃c,IsEnum h e it i c)/\h.IsTupleIter it a i) where
 mem:=by simp
 obj:=λi h st b m=>by
  let#[#[c,j],#[o,l,Q,hd]]:=st;rcases Jl.mp m with z|z
  ·subst z
   refine#[_,j,λv z=>?_]
   have z':Data.fields _=Data.cell v:=z
   cases z'
  ·rw[Jn.mp z]
   exact#[o,l,λv z=>by rw[hd]at z;cases z]
 keep:=λi h h' st k=>#[let⟨c,j⟩:=st.1;#[c,k e (by simp) _ j],st.2.at λo q=>k it (by simp) o q]
 item:=by
  intro X hP W hK Q i tx s σ H E I R st Y;subst hP W hK;let#[xs,x,O,hx]:=Y;let#[its,S,p,hz]:=I.tuple O;let#[u,hu,ru]:=S.get hx;let#[#[c,j],g]:=st;have a1:a≠e:=λz=>by
   subst z;let#[o,l,d,_]:=p;rw[j]at l;cases l;exact absurd (show Γ.type "enumerate"=Γ.type "tuple" from d) ⋯
  have L:a≠it:=λz=>by
   subst z;let#[o,l,d,_]:=p;let#[o',r,n,_]:=g;rw[l]at r;cases r;rw[d]at n;exact absurd n ⋯
  have a3:i<its.toArray.size:=by
   have:=(Jp.mp hu).1
   simpa using this
  refine wpAny_pyNext_enum_itemD (gh (A:=X.A.in1) (I.ok.hd Q) it a L its.toArray) j #[g,p] a3 t (by simp [t,Ne.symm a1]) λv h' tk hv l ⟨B,_⟩ ht a4 hk=>#[0,?_]
  have ev:v=u:=by
   have N:its[i]? =↑v:=by simpa using hv
   rw[hu]at N;exact(Jt N).symm
  subst ev;refine wpAny_letOwnedTupleGo_enum l λU D f=>?_
  have C:e<s.heap.objs.size:=Jm j
  have J:it<s.heap.objs.size:=by let#[_,y,_]:=g;exact Jm y
  exists .ref s.heap.objs.size,Ft H s.heap.objs.size (.tup [.int i,x]),?_,Z,#[_,x,I.hok.fresh (Je _),Z,λys hy=>by rw[I.tuple_inj hy O];exact hx,Z],#[#[_,by simpa using D],?_]
  ·show L2.Fv X tx σ _ {s with heap:=U,toks:=tk+1}
   refine il (s:=s) (its:=[.int i tk,v]) I (ch:=[e,it]) (λb o m q=>?_) R (λb m=>?_) (Je _) (by show 2<=ζ;decide) (.cons #[0] (.cons ru .nil)) ?_
   ·have M:b≠e:=λz=>m (by simp [z])
    have a0:b≠it:=λz=>m (by simp [z])
    exact(f.2 b M).trans (hk b o M a0 q)
   ·rcases Jl.mp m with z|z
    ·subst z;exact#[_,D]
    ·rw[Jn.mp z]
     let#[o,y,_]:=B
     exact#[o,(f.2 it (Ne.symm t)).trans y]
   ·exact#[_,(f.2 _ (JZ C)).trans ht,14]
  ·exact B.extBut f.extBut (Ne.symm t)
  ·intro b m
   rw[qi]
   ·exact(R b m).1
   ·rcases Jl.mp m with z|z
    ·subst z;exact Js C
    ·rw[Jn.mp z];exact Js J
 done:=by
  intro X hP W hK Q i tx s σ H E I R st Y;subst hP W hK;let#[xs,O,hx]:=Y;let#[its,S,p,hz]:=I.tuple O;let#[#[c,j],g]:=st;let#[f0,f1,f2,f3,f4,f5]:=R it (by simp)
  have hl:=S.length;have L:a≠it:=λz=>by
   subst z;let#[o,l,d,_]:=p;let#[o',r,n,_]:=g;rw[l]at r;cases r;rw[d]at n;exact absurd n ⋯
  unfold pyNext;have hT:s.TypeIs (.ref e) "enumerate":=#[_,j,Z]
  refine Ja (DQ (wpAny_callSpecial?_slot (name:=Str.ofString "__next__") hT F.slot_enumerate_next
   (J7 F.slot_enumerate_next hT F.entry_enumerate_next ?_ (F.args_enumerate_next_1 _))))
  show ε _ _ (field (.ref e) 2 >>= _) _ _ _
  refine Ja (JO j Z (x:= .ref it) Z ?_)
  refine Ja (iS (I.ok.hd Q) g p (by simp;lia) λh' ex eb a2=>?_)
  let#[o,l,d]:=a2;refine Ja (D5 (T:="StopIteration") (b:=true) #[o,l,d] isSubtype_stop ?_)
  exact Jf #[Z,I.turned (t':=s.toks) (λb o m e=>eb b o m e) f0 f1 f3 f4 f5]
 self:=λ_ _ _ _ _ st h=>by
  let#[#[c,j],_]:=st;exact DZ j h
section
variable{X:Cx}
def se(K:ι)(ta:TA):TI:=λσ H R=>ta σ H λc H1=>∃a,c=[.ref a]/\((∃xs,Fw K H1 a xs)/\R (lL K a) H1\/(∃xs,FC K H1 a xs)/\R (mr K a) H1)
theorem uK{a:Φ}{ta:TA}{p pos:Pos}{n:Κ}{x1}{j:Pos}(hg:Gl X "enumerate")(hm:X.mg "enumerate"=none)(ha:PA X [a] ta)(hs:θ [a] X.env=[(false,eval a X.env)]:=by rfl):
  PI X (.Tuple n x1 j) (.Call (.Name "enumerate" p) [a] [] pos) (se X.K ta):=by
 intro tx s σ H R I h;refine Call_ (Zl I hg hm boot_enumerate (Dv (qD (ha pos tx s σ H _ I h) λD c x=>?_) hs Z))
 let#[E,H1,f,B,t]:=x;let#[l,e,t]:=t;subst e;let#[u,rfl,A]:=B.one;cases A;have g:∀b∈[c.heap.objs.size+1,c.heap.objs.size],Zc X tx H1 b:=λb w=>by
  have i:c.heap.objs.size<=b:=by
   rcases Jl.mp w with z|z
   ·rw[z];exact C3 _
   ·rw[Jn.mp z];exact Je _
  exact f.fpOk i (f.hok.fresh i)
 rcases t with⟨⟨xs,r⟩,q⟩|⟨⟨xs,r⟩,q⟩
 ·let#[m,v,pl,C]:=f.list r
  refine call_enumerate_list pl.isList λh' o d y hk=>DZ o ?_
  exact#[c.heap.objs.size+1,[c.heap.objs.size+1,c.heap.objs.size],15,H1,Z,f.kept (t':=c.toks) hk,i6 l _ _ (JZ (C9 _)),#[#[_,o],d],g,q]
 ·let#[m,v,pl,C]:=f.tuple r
  refine oQ (show c.heap.IsTuple l m.toArray from pl) λh' o d hk=>DZ o ?_
  exact#[c.heap.objs.size+1,[c.heap.objs.size+1,c.heap.objs.size],15,H1,Z,f.kept (t':=c.toks) hk,oI l _ _ (JZ (C9 _)),#[#[_,o],d],g,q]
theorem sV{K:ι}{a:Δ}{xs:Β}{g:TG}{tb:TS}{D:Gj}{σ:L2.St}{H:Hp}(Pv:Nat->L2.St->Hp->Prop)(r:Pv 0 σ H)(hl:∀i σ H,i<=xs.length->Pv i σ H->FC K H a xs)
  (hs:∀i x σ H p,xs[i]? =↑x->Pv i σ H->H p=none->g (.ref p) σ (Ft H p (.tup [.int i,x])) λc h=>tb {D with nx:=Pv (i+1),ct:=Pv (i+1),bk:=D.nx} c h)(hd:∀σ H,Pv xs.length σ H->D.nx σ H):
  ∃W:Nat->Nat->L2.St->Hp->Prop,(∃m,W 0 m σ H)/\∀i m σ H,W i m σ H->
   ((mr K a).stop i H/\D.nx σ H)\/((mr K a).go i H/\∃N:L2.St->Hp->Prop,(∀d H',N d H'->∃j,j<m/\W (i+1) j d H')/\∀x H',(mr K a).yld i H x H'->g x σ H' λc h=>tb {D with nx:=N,ct:=N,bk:=D.nx} c h):=by
 exists λi m σ H=>m=xs.length-i/\i<=xs.length/\Pv i σ H,#[xs.length,by simp,JR _,r]
 rintro i m σ H ⟨rfl,hi,p⟩
 have q:=hl i σ H hi p
 by_cases f:i<xs.length
 ·refine .inr #[#[xs,xs[i],q,by simp [f]],Pv (i+1),λd H' l=>#[xs.length-(i+1),by lia,Z,f,l],λx H' y=>?_]
  let#[n,v,s,rfl,o,rfl]:=y;exact hs i v σ H n (o xs q) p s
 ·have e:i=xs.length:=by lia
  subst e;exact .inl #[#[xs,q,Je _],hd σ H p]
end
structure HH(z TI TO i1 i2:Δ)(f1 f2:Ι):Prop where
 TIz:TI≠z
 TOz:TO≠z
 i1z:i1≠z
 i2z:i2≠z
 TITO:TI≠TO
 TIi1:TI≠i1
 TIi2:TI≠i2
 TOi1:TO≠i1
 TOi2:TO≠i2
 i12:i1≠i2
 z1:z∉f1
 z2:z∉f2
 t1:TO∉f1
 t2:TO∉f2
 x1:i2∉f1
 x2:i1∉f2
section
variable{prog:Ξ}{w:Ω}{A:Around}{E:Fl}{s:Θ}{z TI TO i1 i2:Δ}{f1 f2:Ι}{n1 n2 k:Nat}{P1 P2:Nat->Γ->Prop}{S1 S2:Nat->Ψ->Prop}{a b:Γ}
theorem pX{Q:Fl}(D1:Draws prog w A i1 f1 n1 P1 S1)(D2:Draws prog w A i2 f2 n2 P2 S2)(f:HH z TI TO i1 i2 f1 f2)
  (Y:IsZip s.heap z TI TO .none)(a0:IsPair s.heap TI (.ref i1) (.ref i2))(a1:IsPair s.heap TO a b)(q1:S1 k s.heap)(q2:S2 k s.heap)(k1:k<n1)(k2:k<n2)
  (hQ:∀x y h' tk,P1 k x->P2 k y->IsZip h' z TI TO (rawInt s.heap.objs.size)->IsPair h' TO x y->S1 (k+1) h'->S2 (k+1) h'->IsPair h' s.heap.objs.size x y->
   (∀c o,c≠z->c≠TO->c≠i1->c≠i2->s.heap.get? c=↑o->h'.get? c=↑o)->Q (.ref s.heap.objs.size) {s with heap:=h',toks:=tk}):
  ε (model prog w) A (γ.«zip.__next__» #[[.ref z],[]]) (λb0 s'=>∃v,b0= .done (.ret v)/\Q v s') E s:=by
 let#[hp,g,d,t0,os]:=s
 show ε _ _ (field (.ref z) 2 >>= _) _ _ _
 refine Ja (JO Y Z (x:= .bool false) Z ?_)
 show ε _ _ (field (.ref z) 3 >>= _) _ _ _
 refine Ja (JO Y Z (x:= .ref TI) Z ?_)
 refine Ja (Dg a0 Z ?_)
 show ε _ _ (γ.SmallTypes.ownedTupleIsFree (.ref z) >>= _) _ _ _
 refine Ja ?_
 unfold γ.SmallTypes.ownedTupleIsFree;refine Ja (JO Y Z (x:= .none) Z (Jf ?_))
 simp only[J6];refine Ja (Dl ?_)
 refine Ja (JO Y Z (x:= .ref TO) Z ?_)
 refine Ja (D6 Y (by simp) λu D m=>?_)
 replace D:IsZip u z TI TO .ellipsis:=D
 replace m:Ψ.SameBut z hp u:=m
 refine Ja ?_
 simp only[List.zipIdx_cons,List.zipIdx_nil,List.forIn_cons,List.forIn_nil];refine Ja (Ja (wpAny_onRaise ?_))
 show ε _ _ (γ.SmallTypes.nextOf (.ref i1) >>= _) _ _ _
 have a4:S1 k u:=D1.frame _ _ _ q1 λc B o e=>m.extBut c o (λy=>f.z1 (y▸B)) e
 refine Ja (D1.item k #[u,g,d,t0,os] _ _ k1 a4 λx I S p1 a3 l=>Jf ?_)
 replace l:Ψ.SameBut i1 u I:=l
 have F:IsPair I TO a b:=l.extBut _ _ f.TOi1 (m.extBut _ _ f.TOz a1)
 refine Ja (Dg F Z ?_)
 refine Ja (wpAny_updateSeq_pair F λt q j=>?_)
 replace q:IsPair t TO x b:=q
 replace j:Ψ.SameBut TO I t:=j
 refine Ja (wpAny_letGo (Jf ?_))
 refine Ja (Ja (wpAny_onRaise ?_))
 show ε _ _ (γ.SmallTypes.nextOf (.ref i2) >>= _) _ _ _
 have a2:S2 k t:=D2.frame _ _ _ q2 λc B o e=>j.extBut c o (λy=>f.t2 (y▸B)) (l.extBut c o (λy=>f.x2 (y▸B)) (m.extBut c o (λy=>f.z2 (y▸B)) e))
 refine Ja (D2.item k #[t,g,d,S,os] _ _ k2 a2 λy J R p2 a8 n=>Jf ?_)
 replace n:Ψ.SameBut i2 t J:=n
 have G:IsPair J TO x b:=n.extBut _ _ f.TOi2 q
 refine Ja (Dg G Z ?_)
 refine Ja (wpAny_updateSeq_pair G λh p i=>?_)
 replace p:IsPair h TO x y:=p
 replace i:Ψ.SameBut TO J h:=i
 refine Ja (wpAny_letGo (Jf (Jf ?_)))
 refine Ja (Dg p Z ?_)
 refine Ja (wpAny_newTuple ?_)
 have X:h.objs.size=hp.objs.size:=by rw[i.1,n.1,j.1,l.1,m.1]
 have M:IsZip h z TI TO .ellipsis:=i.extBut _ _ f.TOz.symm (n.extBut _ _ f.i2z.symm (j.extBut _ _ f.TOz.symm (l.extBut _ _ f.i1z.symm D)))
 have P:∀c o,c≠z->c≠TO->c≠i1->c≠i2->hp.get? c=↑o->h.get? c=↑o:=λc o T c2 c3 c4 e=>
  i.extBut _ _ c2 (n.extBut _ _ c4 (j.extBut _ _ c2 (l.extBut _ _ c3 (m.extBut _ _ T e))))
 have b1:S1 (k+1) h:=D1.frame _ _ _ a3 λc B o e=>i.extBut c o (λy=>f.t1 (y▸B)) (n.extBut c o (λy=>f.x1 (y▸B)) (j.extBut c o (λy=>f.t1 (y▸B)) e))
 have a5:S2 (k+1) h:=D2.frame _ _ _ a8 λc B o e=>i.extBut c o (λy=>f.t2 (y▸B)) e
 have O:z<h.objs.size:=Jm M
 show ε _ _ (γ.SmallTypes.ownedTupleHandOut (.ref z) (.ref h.objs.size) >>= _) _ _ _
 refine Ja ?_
 unfold γ.SmallTypes.ownedTupleHandOut;have U:IsZip (h.push {cls:= .type "tuple",data:= .seq (List.toArray [x,y])}) z TI TO .ellipsis:=Ji _ M
 refine Ja (D6 U (by simp) λW C K=>?_)
 replace C:IsZip W z TI TO (rawInt h.objs.size):=C
 refine D6 C (by simp) λH r N=>?_
 replace r:IsZip H z TI TO (rawInt h.objs.size):=r
 have up:∀c o,c≠z->h.get? c=↑o->H.get? c=↑o:=λc o T e=>N.extBut _ _ T (K.extBut _ _ T (Ji _ e))
 have L:IsPair H h.objs.size x y:=N.extBut _ _ (JZ O) (K.extBut _ _ (JZ O) (Jq _ Z))
 rw[X]at r L;refine Jf #[0,?_]
 show Q (.ref h.objs.size) _
 rw[X];exact hQ x y H R p1 p2 r (up _ _ f.TOz p) (D1.frame _ _ _ b1 λc B o e=>up c o (λy=>f.z1 (y▸B)) e) (D2.frame _ _ _ a5 λc B o e=>up c o (λy=>f.z2 (y▸B)) e) L λc o T c2 c3 c4 e=>up c o T (P c o T c2 c3 c4 e)
theorem vp{Q:Fin->Θ->Prop}(C:Draws prog w A i1 f1 n1 P1 S1)(a:HH z TI TO i1 i2 f1 f2)
  (t:IsZip s.heap z TI TO .none)(v:IsPair s.heap TI (.ref i1) (.ref i2))(M:S1 n1 s.heap)
  (J:∀h' e,(∀c o,c≠z->c≠i1->s.heap.get? c=↑o->h'.get? c=↑o)->(∃o,h'.get? e=↑o/\o.cls= .type "StopIteration")->E (.ref e) {s with heap:=h'}):
  ε (model prog w) A (γ.«zip.__next__» #[[.ref z],[]]) Q E s:=by
 let#[N,g,d,H,G]:=s
 show ε _ _ (field (.ref z) 2 >>= _) _ _ _
 refine Ja (JO t Z (x:= .bool false) Z ?_)
 show ε _ _ (field (.ref z) 3 >>= _) _ _ _
 refine Ja (JO t Z (x:= .ref TI) Z ?_)
 refine Ja (Dg v Z ?_)
 show ε _ _ (γ.SmallTypes.ownedTupleIsFree (.ref z) >>= _) _ _ _
 refine Ja ?_
 unfold γ.SmallTypes.ownedTupleIsFree;refine Ja (JO t Z (x:= .none) Z (Jf ?_))
 simp only[J6];refine Ja (Dl ?_)
 refine Ja (JO t Z (x:= .ref TO) Z ?_)
 refine Ja (D6 t (by simp) λi j h=>?_)
 replace j:IsZip i z TI TO .ellipsis:=j
 replace h:Ψ.SameBut z N i:=h
 refine Ja ?_
 simp only[List.zipIdx_cons,List.zipIdx_nil,List.forIn_cons,List.forIn_nil];refine Ja (Ja (wpAny_onRaise ?_))
 show ε _ _ (γ.SmallTypes.nextOf (.ref i1) >>= _) _ _ _
 have B:S1 n1 i:=C.frame _ _ _ M λc K o e=>h.extBut c o (λy=>a.z1 (y▸K)) e
 refine Ja (C.done #[i,g,d,H,G] _ _ B λn e f L=>?_)
 let#[I,p,q]:=L
 replace f:Ψ.ExtBut i1 i n:=f
 have m:IsZip n z TI TO .ellipsis:=f _ _ a.i1z.symm j
 have u:e≠z:=λx=>by subst x;rw[m]at p;cases p;simp at q
 refine D6 m (by simp) λr _ l=>J r e (λc o D F x=>l.extBut _ _ D (f _ _ F (h.extBut _ _ D x))) #[I,l.extBut _ _ u p,q]
end
abbrev vX(h:Ψ)(l1:Δ):Ψ:=h.push {cls:= .type "tuple_iterator",data:= .fields (List.toArray [.ref l1,.int 0 0])}
abbrev wz(h:Ψ)(l1 l2:Δ):Ψ:=(vX h l1).push {cls:= .type "tuple_iterator",data:= .fields (List.toArray [.ref l2,.int 0 0])}
abbrev wn(h:Ψ)(l1 l2:Δ):Ψ:=(wz h l1 l2).push {cls:= .type "tuple",data:= .seq (List.toArray [.ref h.objs.size,.ref (vX h l1).objs.size])}
abbrev we(h:Ψ)(l1 l2:Δ):Ψ:=(wn h l1 l2).push {cls:= .type "tuple",data:= .seq (List.toArray [.none,.none])}
abbrev m8(h:Ψ)(l1 l2:Δ):Ψ:=(we h l1 l2).push {cls:= .type "zip",data:= .fields (List.toArray [.none,.bool false,.bool false,.ref (wz h l1 l2).objs.size,.ref (wn h l1 l2).objs.size])}
theorem oA(a c:Δ)(xs ys:Array Γ):
  Meets (γ.«zip.__new__» #[[.type "zip",.ref a,.ref c],[]]) (λ_ R s=>s.heap.IsTuple a xs/\s.heap.IsTuple c ys/\
   R (.ok (.ret (.ref (we s.heap a c).objs.size))) {s with heap:=m8 s.heap a c}):=
 .of_wp λprog w A R s h=>by
  let#[p,g,d,tk,n]:=s;let#[j,f,h]:=h
  have m:=sub_zip;have l:Ψ.IsTuple (Θ.heap #[p,g,d,tk,n]) a xs:=j
  have i:Ψ.IsTuple (Θ.heap #[p.push {cls:= .type "tuple_iterator",data:= .fields (List.toArray [.ref a,.int 0 0])},g,d,tk,n]) c ys:=let⟨o,e,r⟩:=f;#[o,Ji _ e,r]
  wp_walk using Di l,Di i
  exact#[0,h]
section
variable{prog:Ξ}{w:Ω}{A:Around}{E:Fl}{s:Θ}
theorem sU{a d:Δ}{xs ys:Array Γ}{Q:Fl}(l:s.heap.IsTuple a xs)(f:s.heap.IsTuple d ys)
  (h:∀h',IsZip h' (s.heap.objs.size+4) (s.heap.objs.size+2) (s.heap.objs.size+3) .none->IsPair h' (s.heap.objs.size+2) (.ref s.heap.objs.size) (.ref (s.heap.objs.size+1))->
   IsPair h' (s.heap.objs.size+3) .none .none->h'.IsTupleIter s.heap.objs.size a 0->h'.IsTupleIter (s.heap.objs.size+1) d 0->
   (∀c o,s.heap.get? c=↑o->h'.get? c=↑o)->Q (.ref (s.heap.objs.size+4)) {s with heap:=h'}):
  ε (model prog w) A (call (.type "zip") [.ref a,.ref d]) Q E s:=by
 refine callType_new F.called_zip ⋯ (F.typeCall_zip_2 _ _) (F.newCall_zip_2 _ _) (λm=>F.args_object_init_3 m _ _) F.entry_zip_new
  (oA a d xs ys) #[l,f,?_]
 have e:(vX s.heap a).objs.size=s.heap.objs.size+1:=J5 ..
 have i:(wz s.heap a d).objs.size=s.heap.objs.size+2:=by rw[J5,e]
 have g:(wn s.heap a d).objs.size=s.heap.objs.size+3:=by rw[J5,i]
 have p:(we s.heap a d).objs.size=s.heap.objs.size+4:=by rw[J5,g]
 have j:(m8 s.heap a d).get? (we s.heap a d).objs.size=↑_:=Jq _ Z
 have r:(m8 s.heap a d).get? (wn s.heap a d).objs.size=↑_:=Ji _ (Jq _ Z)
 have q:(m8 s.heap a d).get? (wz s.heap a d).objs.size=↑_:=Ji _ (Ji _ (Jq _ Z))
 have n:(m8 s.heap a d).get? (vX s.heap a).objs.size=↑_:=Ji _ (Ji _ (Ji _ (Jq _ Z)))
 have t:(m8 s.heap a d).get? s.heap.objs.size=↑_:=Ji _ (Ji _ (Ji _ (Ji _ (Jq _ Z))))
 show _/\_
 rw[i,g,p]at j;rw[e,i]at q;rw[g]at r;rw[e]at n;rw[p]
 exact#[#[_,j,Z],h _ j q r #[_,t,8] #[_,n,8] λc o x=>
  Ji _ (Ji _ (Ji _ (Ji _ (Ji _ x))))]
end
section
variable{X:Cx}{tx:Fo}{σ:L2.St}{H:Hp}{s:Θ}
theorem xa{h':Ψ}{t':Nat}{ch:Ι}(I:L2.Fv X tx σ H s)(k:∀b o,b∉ch->s.heap.get? b=↑o->h'.get? b=↑o)(a:∀b∈ch,Zc X tx H b):L2.Fv X tx σ H {s with heap:=h',toks:=t'}:=by
 have f:∀b u,H b=↑u->b∉ch:=λb u e z=>by rw[(a b z).1]at e;cases e
 refine I.step (g':=s.gens) (d':=s.drawn) (ch:=ch) (λb g=>#[(a b g).2.2.2.1,(a b g).2.1,(a b g).2.2.2.2.1,(a b g).2.2.2.2.2]) (λb o _ _ d e _=>k b o d e) (λb o _ _ d e _=>#[o.slots,k b o d e])
  (λ_ _ _ _ n=>n) (λb o d e=>#[o,k b o d e]) (λ_ _ e=>e) (λ_ _ _ e=>e) (λb ps e=>#[(List.toArray []),by rw[e];simp]) (λm j=>?_) (λb u e=>?_) I.bare
 ·let#[o,es,h,i,r]:=j
  exact#[o,es,h,k _ o (λz=>(a _ z).2.1 Z) i,r]
 ·refine(I.hok b u e).stay (λc v d q=>k c v ?_ q) (λ_ q=>q) λ_ _ q=>q
  rcases d with z|z
  ·rw[z];exact f b u e
  ·exact f c _ z
theorem oy{H:Hp}{a b:Δ}{u:HO}(h:Rd H a u)(h':H b=none):a≠b:=by
 rcases h with h|⟨o,h⟩
 ·exact qt h h'
 ·exact qt h h'
def Aw(a c:Δ):It:=
  #[λi H=>∃xs ys x y,Rd H a (.tup xs)/\Rd H c (.tup ys)/\xs[i]? =↑x/\ys[i]? =↑y,
   λi H v H'=>∃p x y,H p=none/\v= .ref p/\(∀xs,Rd H a (.tup xs)->xs[i]? =↑x)/\(∀ys,Rd H c (.tup ys)->ys[i]? =↑y)/\H'=Ft H p (.tup [x,y]),
   λi H=>∃xs,Rd H a (.tup xs)/\xs.length=i]
theorem uT{P:Ξ}{w:Ω}{K:ι}{a0:Κ}{x1}{pos:Pos}(J R z TI TO i1 i2:Δ)(d1:TI≠z)(d2:TO≠z)(d3:i1≠z)(d4:i2≠z)(d5:TI≠TO)(d6:TI≠i1)(d7:TI≠i2)(d8:TO≠i1)(d9:TO≠i2)(n:i1≠i2):
  GX P w K (.Tuple a0 x1 pos) (Aw J R) [z,TI,TO,i1,i2] z (λi h=>IsZip h z TI TO .none/\IsPair h TI (.ref i1) (.ref i2)/\(∃a b,IsPair h TO a b)/\h.IsTupleIter i1 J i/\h.IsTupleIter i2 R i) where
 mem:=by simp
 obj:=λi h st b f=>by
  let#[G,j,#[a,b',l],#[o1,b7,_,b1],#[o2,a8,_,b0]]:=st;simp only[Jl,Jz,JA]at f;rcases f with rfl|rfl|rfl|rfl|rfl
  ·exact#[_,G,λv y=>by have y':Data.fields _=Data.cell v:=y;cases y']
  ·exact#[_,j,λv y=>by have y':Data.seq _ _=Data.cell v:=y;cases y']
  ·exact#[_,l,λv y=>by have y':Data.seq _ _=Data.cell v:=y;cases y']
  ·exact#[_,b7,λv y=>by rw[b1]at y;cases y]
  ·exact#[_,a8,λv y=>by rw[b0]at y;cases y]
 keep:=λi h h' st k=>by
  let#[G,j,#[a,b',l],h1,U]:=st
  exact#[k z (by simp) _ G,k TI (by simp) _ j,#[a,b',k TO (by simp) _ l],h1.at λo e=>k i1 (by simp) o e,U.at λo e=>k i2 (by simp) o e]
 item:=by
  intro X hP hw hK m i tx s σ H E I O st hg;subst hP hw hK;let#[xs,ys,x,y,r,N,hx,hy]:=hg;let#[its,rv,p,b5]:=I.tuple (.inl r)
  let#[B,b4,p2,c2]:=I.tuple (.inl N)
  let#[u,hu,ru]:=rv.get hx;let#[u2,S,b2]:=b4.get hy;let#[G,j,#[a,b',l],h1,U]:=st;have n1:∀c∈[z,TI,TO,i1,i2],J≠c:=λc m=>oy r (O c m).1
  have n2:∀c∈[z,TI,TO,i1,i2],R≠c:=λc m=>oy N (O c m).1
  have d:HH z TI TO i1 i2 [i1,J] [i2,R]:=#[d1,d2,d3,d4,d5,d6,d7,d8,d9,n,by simp [Ne.symm d3,Ne.symm (n1 z (by simp))],by simp [Ne.symm d4,Ne.symm (n2 z (by simp))],by simp [d8,Ne.symm (n1 TO (by simp))],by simp [d9,Ne.symm (n2 TO (by simp))],by simp [Ne.symm n,Ne.symm (n1 i2 (by simp))],by simp [n,Ne.symm (n2 i1 (by simp))]]
  have c1:i<its.toArray.size:=by have:=(Jp.mp hu).1;simpa using this
  have a4:i<B.toArray.size:=by have:=(Jp.mp S).1;simpa using this
  have W:s.TypeIs (.ref z) "zip":=#[_,G,Z]
  unfold pyNext;refine Ja (DQ (wpAny_callSpecial?_slot (name:=Str.ofString "__next__") W Es
   (J7 Es W F.entry_zip_next
    (pX (gh (A:=X.A.in1) (I.ok.hd m) i1 J (n1 i1 (by simp)) its.toArray) (gh (A:=X.A.in1) (I.ok.hd m) i2 R (n2 i2 (by simp)) B.toArray) d G j l #[h1,p] #[U,p2] c1 a4
     λv v2 h' tk hv b6 ho a3 q1 q2 ht hk=>Jf #[0,?_]) (F.args_zip_next_1 _))))
  have ev:v=u:=by
   have D:its[i]? =↑v:=by simpa using hv
   rw[hu]at D;exact(Jt D).symm
  have b3:v2=u2:=by
   have D:B[i]? =↑v2:=by simpa using b6
   rw[S]at D;exact(Jt D).symm
  subst ev b3;refine wpAny_letOwnedTupleGo_zip ho λt L g=>?_
  have lt:∀c∈[z,TI,TO,i1,i2],c<s.heap.objs.size:=λc m=>by
   simp only[Jl,Jz,JA]at m;rcases m with rfl|rfl|rfl|rfl|rfl
   ·exact Jm G
   ·exact Jm j
   ·exact Jm l
   ·let#[_,e,_]:=h1;exact Jm e
   ·let#[_,e,_]:=U;exact Jm e
  have M:IsPair t TI (.ref i1) (.ref i2):=g.extBut _ _ d1 (hk _ _ d1 d5 d6 d7 j)
  have C:IsPair t TO v v2:=g.extBut _ _ d2 a3
  have Y:t.IsTupleIter i1 J (i+1):=q1.1.extBut g.extBut d3
  have a5:t.IsTupleIter i2 R (i+1):=q2.1.extBut g.extBut d4
  exists .ref s.heap.objs.size,Ft H s.heap.objs.size (.tup [x,y]),?_,Z,#[_,x,y,I.hok.fresh (Je _),Z,λzs Q=>by rw[I.tuple_inj (.inl Q) (.inl r)];exact hx,λzs Q=>by rw[I.tuple_inj (.inl Q) (.inl N)];exact hy,Z],#[L,M,#[15,C],Y,a5]
  ·show L2.Fv X tx σ _ {s with heap:=t,toks:=tk}
   refine il (s:=s) (its:=[v,v2]) I (ch:=[z,TI,TO,i1,i2]) (λb o f q=>?_) O (λb f=>?_) (Je _) (by show 2<=ζ;decide) (.cons ru (.cons b2 .nil)) ?_
   ·simp only[Jl,Jz,JA,not_or]at f
    exact g.extBut b o f.1 (hk b o f.1 f.2.2.1 f.2.2.2.1 f.2.2.2.2 q)
   ·simp only[Jl,Jz,JA]at f
    rcases f with rfl|rfl|rfl|rfl|rfl
    ·exact#[_,L]
    ·exact#[_,M]
    ·exact#[_,C]
    ·let#[o,e,_]:=Y;exact#[o,e]
    ·let#[o,e,_]:=a5;exact#[o,e]
   ·exact#[_,g.extBut _ _ (JZ (lt z (by simp))) ht,14]
  ·intro b f
   rw[qi (Js (lt b f))]
   exact(O b f).1
 done:=by
  intro X hP hw hK m i tx s σ H E I O st hg;subst hP hw hK;let#[xs,r,hx]:=hg;let#[its,rv,p,b5]:=I.tuple (.inl r)
  let#[G,j,#[a,b',l],h1,U]:=st;have n1:∀c∈[z,TI,TO,i1,i2],J≠c:=λc m=>oy r (O c m).1
  have d:HH z TI TO i1 i2 [i1,J] [i2]:=#[d1,d2,d3,d4,d5,d6,d7,d8,d9,n,by simp [Ne.symm d3,Ne.symm (n1 z (by simp))],by simp [Ne.symm d4],by simp [d8,Ne.symm (n1 TO (by simp))],by simp [d9],by simp [Ne.symm n,Ne.symm (n1 i2 (by simp))],by simp [n]]
  have hl:its.toArray.size=i:=by rw[Jr,<- rv.length];exact hx
  have W:s.TypeIs (.ref z) "zip":=#[_,G,Z]
  unfold pyNext;refine Ja (DQ (wpAny_callSpecial?_slot (name:=Str.ofString "__next__") W Es
   (J7 Es W F.entry_zip_next
    (vp (gh (A:=X.A.in1) (I.ok.hd m) i1 J (n1 i1 (by simp)) its.toArray) d G j #[by rw[hl];exact h1,p] λh' e hk he=>?_) (F.args_zip_next_1 _))))
  let#[o,ho,c0]:=he;refine Ja (D5 (T:="StopIteration") (b:=true) #[o,ho,c0] isSubtype_stop ?_)
  refine Jf #[Z,xa (t':=s.toks) I (ch:=[z,i1]) (λb o f e=>?_) (λb f=>O b ?_)]
  ·simp only[Jl,Jz,JA,not_or]at f
   exact hk b o f.1 f.2 e
  ·simp only[Jl,Jz,JA]at f
   rcases f with rfl|rfl<;>simp
 self:=λ_ _ _ _ _ st h=>wpAny_pyIter_zip st.1 h
def AW(ta:TA):TI:=λσ H R=>ta σ H λd H1=>∃a c xs ys,d=[.ref a,.ref c]/\Rd H1 a (.tup xs)/\Rd H1 c (.tup ys)/\R (Aw a c) H1
theorem BJ{a b:Φ}{ta:TA}{p pos:Pos}{r:Κ}{x1}{m:Pos}(hg:Gl X "zip")(hm:X.mg "zip"=none)(ha:PA X [a,b] ta)(h1:QM a=true:=by rfl)(h2:QM b=true:=by rfl):
  PI X (.Tuple r x1 m) (.Call (.Name "zip" p) [a,b] [] pos) (AW ta):=by
 intro tx s σ H R I h;have f:θ [b] X.env=[(false,eval b X.env)]:=aG h2
 refine Call_ (Zl I hg hm boot_zip (Dv (qD (ha pos tx s σ H _ I h) λP c E=>?_) (by rw[aG h1,f]) (by rw[f];rfl)))
 let#[Q,H1,g,L,M]:=E;let#[B,A,xs,ys,e,K,J,q]:=M;subst e;let#[u,v,rfl,F,C]:=L.two;cases F;cases C;let#[x,O,N,y]:=g.tuple (.inl K)
 let#[o,G,p2,D]:=g.tuple (.inl J)
 have d:∀(n i j:Nat),i≠j->n+i≠n+j:=λn i j h=>by lia
 refine sU (show c.heap.IsTuple B x.toArray from N) (show c.heap.IsTuple A o.toArray from p2) λh' y t w h1 h2 hk=>wpAny_pyIter_zip y ?_
 refine#[c.heap.objs.size+4,[c.heap.objs.size+4,c.heap.objs.size+2,c.heap.objs.size+3,c.heap.objs.size,c.heap.objs.size+1],15,H1,Z,g.kept (t':=c.toks) hk,
  uT B A (c.heap.objs.size+4) (c.heap.objs.size+2) (c.heap.objs.size+3) c.heap.objs.size (c.heap.objs.size+1) (d _ 2 4 ⋯) (d _ 3 4 ⋯) (d _ 0 4 ⋯) (d _ 1 4 ⋯) (d _ 2 3 ⋯) (d _ 2 0 ⋯) (d _ 2 1 ⋯) (d _ 3 0 ⋯) (d _ 3 1 ⋯) (d _ 0 1 ⋯),#[y,t,#[15,w],h1,h2],λb z=>?_,q]
 have l:c.heap.objs.size<=b:=by
  simp only[Jl,Jz,JA]at z;rcases z with rfl|rfl|rfl|rfl|rfl
  ·exact DR _ 4
  ·exact DR _ 2
  ·exact DR _ 3
  ·exact Je _
  ·exact DR _ 1
 exact g.fpOk l (g.hok.fresh l)
end
theorem ui{K:ι}{js:Ε}{te:TE}{σ:L2.St}{H:Hp}{Q:VK}{q r:Δ}{xs ys:Β}(hl:xs.length=ys.length)(hn:xs.length<=ζ)(Pv:Nat->Β->Hp->Prop)(z:Pv 0 [] H)
  (hk:∀i a H,Pv i a H->Rd H q (.tup xs)/\Rd H r (.tup ys))
  (hs:∀i a H p x y,xs[i]? =↑x->ys[i]? =↑y->a.length=i->Pv i a H->H p=none->te (↑x::↑y::Qc js σ) (Ft H p (.tup [x,y])) λv g=>Pv (i+1) (a++[v]) g)
  (hd:∀a H,a.length=xs.length->Pv xs.length a H->∀p,H p=none->Q (.ref p) (Ft H p (.lst a))):
  oP 2 js (lQ K 2 (c7 (Qz 0) (c7 (Qz 1) px))) te σ Q (Aw q r) H:=by
 exists λi m a j H=>m=xs.length-i/\i<=xs.length/\a.length=i/\Pv i a H/\∃o o',j=o::o'::Qc js σ,#[xs.length,by simp,JR _,Z,z,none,none,Z]
 rintro i m a j H ⟨rfl,hi,c,p,o,o',rfl⟩
 let#[h,n]:=hk i a H p
 by_cases f:i<xs.length
 ·have d:i<ys.length:=by lia
  refine .inr #[#[xs,ys,xs[i],ys[i],h,n,by simp [f],by simp [d]],by lia,λv H' y=>?_]
  let#[l,x,y,w,rfl,t,u,rfl]:=y;exists l,0,FC.of qc,9
  exact#[λv g=>Pv (i+1) (a++[v]) g,λv g s=>#[xs.length-(i+1),by lia,Z,f,by simp [c],s,5],hs i a _ l x y (t xs h) (u ys n) c p w]
 ·have e:i=xs.length:=by lia
  subst e;exact .inl #[#[xs,h,Z],hd a H c p]
end L3
namespace L3
open PySem PySem.Spec PyProof.Rows L2 PySem.SeqAt
open Sem (wp)
open AutoSeq1 (wpAny_loadPart')
section
variable{X:Cx}
theorem Rd.same{H H':Hp}{a:Δ}{u:HO}(s:Fp H H')(h:Rd H a u):Rd H' a u:=by
 rcases h with h|⟨o,h⟩
 ·exact .inl (s _ _ h)
 ·exact .inr #[o,s _ _ h]
inductive Ls (H:Hp):V->String->Prop where
 |int (i:Int):Ls H (.int i) "int"
 |bl (b:Bool):Ls H (.bl b) "bool"
 |tup {a:Δ} {xs:Β} (h:Rd H a (.tup xs)):Ls H (.ref a) "tuple"
 |str (x:Str):Ls H (.str x) "str"
 |non:Ls H .non "NoneType"
 |lst {a:Δ} {xs:Β} (h:H a=↑(.lst xs)):Ls H (.ref a) "list"
theorem nS{H:Hp}{x:V}{t:String}(h:Ls H x t):t∈ip:=by cases h<;>simp
theorem mZ(K:ι){t:String}(f:t∈ip):∀a:List String,(∀c∈a,c∈io)->W.kitAny K (.type t) (a.map Γ.type)=↑(a.any (zD t))
 | [],_=>rfl
 |c::r,h=>by
  have e:=gZ K t f c (h c JJ);have i:=mZ K f r λd g=>h d (JF _ g)
  simp only[JL,W.kitAny,e,Dx];cases zD t c with
  |true=>rfl
  |false=>simpa using i
theorem q8:zi X (.builtin "isinstance") (λxs H Q=>∃x c t,xs=[x,.ty c]/\Ls H x t/\c∈io/\Q (.bl (zD t c)) H):=by
 intro tx s σ H xs p Q I r h;let#[x,c,t,rfl,ty,j,q]:=h;let#[u,v,rfl,f,l]:=cV r
 cases(show v=Γ.type c from l)
 have e:=gZ X.K t (nS ty) c j;have d:∀tk,EP X tx σ Q (.bool (zD t c)) {s with toks:=tk}:=λtk=>#[.bl _,H,I.tok tk,Z,q]
 cases ty with
 |int i=>let#[t,q]:=(show∃t,u=Γ.int i t from f);cases q;exact JV W.kitx_int I.kIn True.intro e (λz=>nomatch z) d
 |bl b=>cases(show u=Γ.bool b from f);exact JV W.kitx_bool I.kIn True.intro e (λz=>nomatch z) d
 | @tup a ys hr=>
  cases(show u=Γ.ref a from f)
  let#[g,_,#[o,h1,m,_],_]:=I.tuple (.inl hr)
  exact JV W.kitx_tuple I.kIn #[o,h1,m] e (λz=>nomatch z) d
 |str x=>let#[t,q]:=(show∃t,u=Γ.str x t from f);cases q;exact JV W.kitx_str I.kIn True.intro e (λz=>nomatch z) d
 |non=>cases(show u=Γ.none from f);exact JV W.kitx_none I.kIn True.intro e (λz=>nomatch z) d
 | @lst a ys ea=>
  cases(show u=Γ.ref a from f)
  let#[_,_,n,_,h1]:=(show FE X.prog X.w H s.heap a (.lst ys)from I.hok a _ ea)
  exact JV W.kitx_list I.kIn #[_,h1,Z] e (λz=>nomatch z) d
theorem jY:∀{a:List String} {us:Η},Fy (a.map V.ty) us->us=a.map Γ.type
 | [],_,.nil=>rfl
 |c::a,_,.cons r t=>by
  cases(show _=Γ.type c from r)
  rw[jY t];rfl
theorem i3:zi X (.builtin "isinstance") (λxs H Q=>∃(x:V) (p:Δ) (l:List String) (t:String),xs=[x,.ref p]/\H p=↑(.tup (l.map V.ty))/\Ls H x t/\(∀c∈l,c∈io)/\Q (.bl (l.any (zD t))) H):=by
 intro tx s σ H xs J Q I r h;let#[x,p,l,t,rfl,F,ty,C,q]:=h;let#[u,v,rfl,j,B]:=cV r
 cases(show v=Γ.ref p from B)
 let#[w,y,#[#[G,L,E,K],m,g,n,f],_]:=I.tuple (FC.of F)
 replace g:G= .type "tuple":=g
 replace f:E= .seq w.toArray n:=f
 subst g f;have e:=mZ X.K (nS ty) l C;rw[<- jY y]at e;have d:∀tk,EP X tx σ Q (.bool (l.any (zD t))) {s with toks:=tk}:=λtk=>#[.bl _,H,I.tok tk,Z,q]
 cases ty with
 |int i=>let#[t,q]:=(show∃t,u=Γ.int i t from j);cases q;exact DS W.kitx_int I.kIn True.intro m e (λz=>nomatch z) d
 |bl b=>cases(show u=Γ.bool b from j);exact DS W.kitx_bool I.kIn True.intro m e (λz=>nomatch z) d
 | @tup a ys hr=>
  cases(show u=Γ.ref a from j)
  let#[A,_,#[o,h1,D,_],_]:=I.tuple (.inl hr)
  exact DS W.kitx_tuple I.kIn #[o,h1,D] m e (λz=>nomatch z) d
 |str x=>let#[t,q]:=(show∃t,u=Γ.str x t from j);cases q;exact DS W.kitx_str I.kIn True.intro m e (λz=>nomatch z) d
 |non=>cases(show u=Γ.none from j);exact DS W.kitx_none I.kIn True.intro m e (λz=>nomatch z) d
 | @lst a ys ea=>
  cases(show u=Γ.ref a from j)
  let#[_,_,n,_,h1]:=(show FE X.prog X.w H s.heap a (.lst ys)from I.hok a _ ea)
  exact DS W.kitx_list I.kIn #[_,h1,Z] m e (λz=>nomatch z) d
end
def zC(t:Ζ):Ζ:=(List.range 16).map λd=>((t.idxOf ((d:Nat):Int):Nat):Int)
theorem aM(t:Ζ):(zC t).length=16:=by simp [zC]
section
variable{t:Ζ}(p:t.Perm F5)
include p
theorem sL:t.Nodup:=p.nodup_iff.mpr ⋯
theorem hW:t.length=16:=by rw[p.length_eq,vy]
theorem xh{d:Nat}(h:d<16):((d:Nat):Int)∈t:=p.mem_iff.mpr (Jv.mpr #[d,JN.mpr h,Z])
theorem lS{i:Nat}(h:i<t.length):0<=t[i]/\t[i]<16:=k9 (p.mem_iff.mp (CQ h))
theorem sP{i:Nat}(h:i<t.length):t.idxOf t[i]=i:=(sL p).idxOf_getElem i h
theorem yr{d:Nat}(h:d<16):(zC t)[d]'(by rw[aM];exact h)=((t.idxOf ((d:Nat):Int):Nat):Int):=by simp [zC]
end
end L3
namespace L3
open PySem PySem.Spec L2
variable{X:Cx}
theorem ZL{a:List δ}:IX X a tR:=#[rH]
theorem vC{a:Φ}{ta:TA}{p pos:Pos}{d:Κ}{x1}{c:Pos}(hg:Gl X "enumerate")(hm:X.mg "enumerate"=none)(ha:QA X [a] ta)(hs:θ [a] X.env=[(false,eval a X.env)]:=by rfl):QI X (.Tuple d x1 c) (.Call (.Name "enumerate" p) [a] [] pos) (se X.K ta):=#[uK (hg:=hg) (hm:=hm) (ha:=ha.h) (hs:=hs)]
theorem Aa{a b:Φ}{ta:TA}{p pos:Pos}{d:Κ}{x1}{c:Pos}(hg:Gl X "zip")(hm:X.mg "zip"=none)(ha:QA X [a,b] ta)(h1:QM a=true:=by rfl)(h2:QM b=true:=by rfl):QI X (.Tuple d x1 c) (.Call (.Name "zip" p) [a,b] [] pos) (AW ta):=#[BJ (hg:=hg) (hm:=hm) (ha:=ha.h) (h1:=h1) (h2:=h2)]
def F2(H:Hp)(b:Δ)(c:Nat):Prop:=∃n m k:Int,H b=↑(hX n m k)/\0<=m/\m<4611686018427387904/\0<=k/\k<=c
structure FY(b:Δ)(c:Nat)(H H':Hp):Prop where
 kp:∀a o,a≠b->H a=↑o->H' a=↑o
 bx:F2 H' b c
theorem F2.mono{H:Hp}{b:Δ}{c d:Nat}(h:F2 H b c)(l:c<=d):F2 H b d:=by
 let#[n,m,k,e,f,g,a,i]:=h
 exact#[n,m,k,e,f,g,a,by lia]
theorem FY.mono{b:Δ}{c d:Nat}{H H':Hp}(h:FY b c H H')(l:c<=d):FY b d H H':=#[h.kp,h.bx.mono l]
theorem FY.trans{b:Δ}{c d:Nat}{H H1 a:Hp}(x:FY b c H H1)(y:FY b d H1 a):FY b d H a:=#[λc o n e=>y.kp c o n (x.kp c o n e),y.bx]
theorem _root_.L2.Fp.grc{b:Δ}{c:Nat}{H H':Hp}(x:Fp H H')(h:F2 H b c):FY b c H H':=#[λc o _ e=>x c o e,let⟨n,m,k,e,r⟩:=h;#[n,m,k,x _ _ e,r]]
theorem FY.same{b:Δ}{c:Nat}{H H1 a:Hp}(x:FY b c H H1)(y:Fp H1 a):FY b c H a:=x.trans (y.grc x.bx)
theorem Ql{H:Hp}{b l:Δ}{c:Nat}(hb:F2 H b c)(h:H l=none):l≠b:=λz=>by
 let#[_,_,_,e,_]:=hb;subst z;rw[e]at h;cases h
inductive La (vs:Β) (H:Hp) (Q:VK):Prop
 |mk (b:Δ) (many:Int) (c:Nat) (h1:vs=[.ref b,.int many]) (h2:F2 H b c) (h3:c<1000000000) (h4:0<many) (h5:many<1073741824) (h6:∀r H',0<=r->r<many->FY b (c+1) H H'->Q (.int r) H')
def QK:Sp:=λa H Q _=>La a H Q
theorem ZB{H H':Hp}{p:Δ}(h:H' p=none)(s:Fp H H'):H p=none:=by
 cases e:H p with
 |none=>rfl
 |some o=>rw[s _ _ e]at h;cases h
def fN:V->Bool
 | .int _=>true
 |_=>false
theorem wF{H:Hp}{x:V}{t:String}(h:kd H x=↑t):fN x=(zD t "int"&& ! zD t "bool"):=by
 cases x with
 |non=>cases h;decide
 |bl b=>cases h;show false=_;decide
 |int i=>cases h;show true=_;decide
 |str x=>cases h;show false=_;decide
 |byt b=>cases h
 |flt b=>cases h
 |ty b=>cases h
 |ref a=>
  rcases gP h with⟨xs,e,rfl⟩|⟨xs,e,rfl⟩
  ·show false=_;decide
  ·show false=_;decide
theorem vk{x:V}(h:fN x=true):∃i,x= .int i:=by
 cases x<;>first|exact#[0]|cases h
theorem tu{x:V}(h:fN x=false):bG x=false:=by
 cases x<;>first|rfl|cases h
inductive IE (vs:Β) (H:Hp) (Q:VK):Prop
 |mk (x:_) (t:_) (h1:vs=[x]) (h2:kd H x=↑t) (h3:Q (.bl (fN x)) H)
def fh:Sp:=λa H Q _=>IE a H Q
inductive HI (H:Hp):Nat->V->V->Prop where
 |int (n:Nat) (i:Int):HI H n (.int i) (.int i)
 |str (n:Nat) (x:Str):HI H n (.str x) (.str x)
 |non (n:Nat):HI H n .non .non
 | tup {n:Nat} {a b:Δ} {xs ys:Β} (h1:Rd H a (.tup xs)) (h2:Rd H b (.tup ys)) (hl:xs.length=ys.length) (hz:xs.length<=ζ)
   (hi:∀(i:Nat) (x y:V),xs[i]? =↑x->ys[i]? =↑y->HI H n x y):HI H (n+1) (.ref a) (.ref b)
theorem HI.same{H H':Hp}(s:Fp H H'):∀{n:Nat} {x y:V},HI H n x y->HI H' n x y:=λh=>by
 induction h with
 |int n i=>exact .int n i
 |str n x=>exact .str n x
 |non n=>exact .non n
 |tup h1 h2 hl hz _ ih=>exact .tup (Rd.same s h1) (Rd.same s h2) hl hz ih
theorem HI.ints{H:Hp}{n:Nat}{a b:Δ}{ns:Ζ}(h1:Rd H a (.tup (ns.map V.int)))(h2:Rd H b (.tup (ns.map V.int)))(e:ns.length<=ζ):HI H (n+1) (.ref a) (.ref b):=
 .tup h1 h2 Z (by rw[Jd];exact e) λi x y c d=>by
  rw[c]at d;cases d;let#[z,rfl,_]:=QC c;exact .int _ _
inductive L7 (n:Nat) (vs:Β) (H:Hp) (Q:VK):Prop
 |mk (x:_) (y:_) (h1:vs=[x,y]) (h2:HI H n x y) (h3:∀H',Fp H H'->Q (.bl true) H')
def AS(n:Nat):Sp:=λa H Q _=>L7 n a H Q
theorem Fp.sqt{K:ι}{H H':Hp}{a:Δ}{xs:Β}(e:Fp H H')(h:FC K H a xs):FC K H' a xs:=by
 rcases h with h|h
 ·exact .inl (Rd.same e h)
 ·exact .inr h
def QP(t:Ζ)(i:Nat):Ζ:=(List.range 16).map λd=>if((d:Nat):Int)∈t.take i then((t.idxOf ((d:Nat):Int):Nat):Int)else 0
theorem bi(t:Ζ)(i:Nat):(QP t i).length=16:=by simp [QP]
theorem vh(t:Ζ):QP t 0=List.replicate 16 0:=by simp only[QP,List.take_zero,Jz,C5];rfl
theorem tL{t:Ζ}{i d:Nat}(h:d<16):(QP t i)[d]'(by rw[bi];exact h)=if((d:Nat):Int)∈t.take i then((t.idxOf ((d:Nat):Int):Nat):Int)else 0:=by simp [QP]
theorem wV{t:Ζ}(p:t.Perm F5):QP t t.length=zC t:=by
 unfold QP zC;refine DC λd a=>?_
 rw[Dh,Jb (xh p (JN.mp a))]
theorem vt{t:Ζ}(p:t.Perm F5){i:Nat}(hi:i<t.length):(QP t i).set t[i].toNat (i:Int)=QP t (i+1):=by
 have b:=lS p hi;refine List.ext_getElem (by rw[DX,bi,bi]) λd h1 c=>?_
 have f:d<16:=by rw[bi]at c;exact c
 rw[List.getElem_set,tL f,tL f,J8,Jg hi,Option.toList_some]
 by_cases e:t[i].toNat=d
 ·have a:((d:Nat):Int)=t[i]:=by lia
  rw[Jb e,Jb (by rw[a];exact JY _ (Jn.mpr Z)),a,sP p hi]
 ·have a:((d:Nat):Int)≠t[i]:=by lia
  rw[Jc e];simp only[JK,Jn,a,JA]
inductive Lz (K:ι) (vs:Β) (H:Hp) (Q:VK):Prop
 |mk (a:Δ) (t:Ζ) (h1:vs=[.ref a]) (h2:(Fw K H a (t.map V.int)\/FC K H a (t.map V.int))) (h3:t.Perm F5) (h4:∀p H',Fp H H'->H' p=↑(.tup ((zC t).map V.int))->Q (.ref p) H')
def sO(K:ι):Sp:=λa H Q _=>Lz K a H Q
theorem om{X:Cx}{K:ι}(a:X.K=K){pos:Pos}{es:Κ}{k:Nat}{t:ZO}(n:Nat)(hc:X.calm=true)(h:LU X es t)(hn:(assignEach es X.env).length=n:=by rfl)(hst:(assignEach es X.env).findIdx? (·.1)=none:=by rfl):QG X (.Tuple es k pos) (lQ K n t):=by
 subst a
 exact#[kZ (hc:=hc) (h:=h.h) (hn:=hn) (hst:=hst)]
end L3
namespace L3
open PySem PySem.Spec PyProof.Rows L2
open Sem (wp)
namespace RV
theorem tM:Slot "reversed" "__init__" "object.__init__":=
  .of (owner := "object") (n := "__init__") (by rw[D7,D8];kernel_rfl) nofun nofun nofun
    (by first | exact .inl nofun | exact .inr nofun) (by rw[D9];kernel_rfl)
theorem called:TypeCalled "reversed" "reversed.__new__" "object.__init__":=
 #[nofun,nofun,#[15,F.mro_reversed],F.made_reversed,nofun,F.sub_reversed_self,tM]
theorem slot_next:Slot "reversed" "__next__" "reversed.__next__":=
  .of (owner := "reversed") (n := "__next__") (by rw[D7,D8];kernel_rfl) nofun nofun nofun
    (by first | exact .inl nofun | exact .inr nofun) (by rw[D9];kernel_rfl)
theorem entry_next:entryFor table "reversed.__next__"=some γ.«reversed.__next__»:=entryFor_of_tree (by kernel_rfl)
theorem ju:Manifest.owners.lookup (String.ofList ['d', 'e', 's', 'r', 'e', 'v', 'e', 'r'].reverse)=↑Manifest.sig_reversed:=by kernel_rfl
theorem args_next(a:Γ):argsOk "reversed.__next__" #[[a],[]]:=by
 unfold argsOk;rw[signature?_of (id:="reversed.__next__") (n:=['_', '_', 't', 'x', 'e', 'n', '_', '_']) (o:=['d', 'e', 's', 'r', 'e', 'v', 'e', 'r']) (by kernel_rfl) ju]
 kernel_rfl
theorem slot_iter:Slot "reversed" "__iter__" "reversed.__iter__":=
  .of (owner := "reversed") (n := "__iter__") (by rw[D7,D8];kernel_rfl) nofun nofun nofun
    (by first | exact .inl nofun | exact .inr nofun) (by rw[D9];kernel_rfl)
theorem args_iter(a:Γ):argsOk "reversed.__iter__" #[[a],[]]:=by
 unfold argsOk;rw[signature?_of (id:="reversed.__iter__") (n:=['_', '_', 'r', 'e', 't', 'i', '_', '_']) (o:=['d', 'e', 's', 'r', 'e', 'v', 'e', 'r']) (by kernel_rfl) ju]
 kernel_rfl
theorem entry_iter:entryFor table "reversed.__iter__"=some γ.«dict_keyiterator.__iter__»:=
  entryFor_alias (id':="dict_keyiterator.__iter__") (by kernel_rfl)
    (by first | rfl | decide +kernel | (unfold String.splitOn
                                        simp +decide [String.splitOnAux])) nofun (by kernel_rfl)
theorem no_tuple:typeLookup (.type "tuple") "__reversed__"=pure none:=by
 rw[D7,D8]
 kernel_rfl
theorem tup_dict:isSubtype (.type "tuple") (.type "dict")=pure false:=by
 rw[D9]
 kernel_rfl
theorem ri_rev:isSubtype (.type "range_iterator") (.type "reversed")=pure false:=by
 rw[D9]
 kernel_rfl
theorem tc1(a:Γ):checkTypeCall "reversed" #[[a],[]]=pure ():=by kernel_rfl
end RV
def GO(h:Ψ)(it t:Δ)(i:Int):Prop:=∃o,h.get? it=↑o/\o.cls= .type "reversed"/\o.data= .fields (List.toArray [.ref t,rawInt i])
theorem pJ(l:Δ)(items:Array Γ)(t:items.size<=ζ):
  Meets (γ.«reversed.__new__» #[[.type "reversed",.ref l],[]]) (λA R s=>s.heap.IsTuple l items/\
   R (.ok (.ret (.ref s.heap.objs.size))) {s with heap:=s.heap.push {cls:= .type "reversed",data:= .fields (List.toArray [.ref l,rawInt ((items.size:Int)-1)])},toks:=s.toks+2}):=
 .of_wp λprog w A R s h=>by
  let#[f,g,d,tk,a]:=s;let#[i,h]:=h
  have m:=F.sub_reversed_self;have j:Θ.TypeIs #[f,g,d,tk,a] (.ref l) "tuple":=let⟨o,e,c,_⟩:=i;#[o,e,c]
  have r:Ψ.IsTuple (Θ.heap #[f,g,d,tk,a]) l items:=i
  have n:=RV.tup_dict;have p:IsTup (Θ.heap #[f,g,d,tk,a]) l items:=i
  have q:=ZA
  wp_walk using DD j RV.no_tuple,C7 n,DD j F.slot_tuple_getitem.lookup,len_tuple p (by omega)
  exact#[0,h]
end L3
namespace L3
open PySem PySem.Spec PyProof.Rows L2
open Sem (wp)
abbrev vO(a b c:Int):Bool:=γ.Range.rangeFitsLong a&&γ.Range.rangeFitsLong b&&γ.Range.rangeFitsLong c&&γ.Range.rangeFitsLong (-c)&&γ.Range.rangeFitsLong (a-c)&&γ.Range.rangeFitsLong (γ.Range.rangeSize a b c)
theorem mB(r:Δ)(a b c:Int)(t u v:Tok)(e:¬(! vO a b c)=true):
  Meets (γ.«range.__reversed__» #[[.ref r],[]]) (λ_ R s=>s.heap.get? r=some {cls:= .type "range",dict:=none,data:= .fields (List.toArray [.int a t,.int b u,.int c v]),slots:= (List.toArray [])}/\
   R (.ok (.ret (.ref s.heap.objs.size))) {s with heap:=s.heap.push {cls:= .type (if vO a b c then "range_iterator" else "longrange_iterator"),data:= .fields (List.toArray [rawInt (a+(γ.Range.rangeSize a b c-1)*c),rawInt (γ.Range.rangeSize a b c),rawInt (-c)])}}):=
 .of_wp λprog w A R s h=>by let#[i,g,d,tk,f]:=s;let#[j,h]:=h;wp_walk;exact#[0,h]
theorem tm(n:Nat):γ.Range.rangeSize 0 n 1=n:=by
 unfold γ.Range.rangeSize;rw[Jb ⋯]
 split<;>lia
theorem pV{n:Nat}(hn:(n:Int)<2 ^ 62):vO 0 n 1=true:=by
 unfold vO;rw[tm];simp only[γ.Range.rangeFitsLong,JC,decide_eq_true_eq];lia
theorem oY(r:Δ)(n:Nat)(t u v:Tok)(hn:(n:Int)<2 ^ 62):
  Meets (γ.«range.__reversed__» #[[.ref r],[]]) (λ_ R s=>s.heap.get? r=some {cls:= .type "range",data:= .fields (List.toArray [.int 0 t,.int n u,.int 1 v])}/\
   R (.ok (.ret (.ref s.heap.objs.size))) {s with heap:=s.heap.push {cls:= .type "range_iterator",data:= .fields (List.toArray [rawInt ((n:Int)-1),rawInt n,rawInt (-1)])}}):=by
 have g:=mB r 0 n 1 t u v (by rw[pV hn];decide)
 rw[pV hn,tm,Jb Z,Int.mul_one,Int.zero_add]at g;exact g
section
variable{prog:Ξ}{w:Ω}{A:Around}{E:Fl}{s:Θ}
theorem GO.typeIs{it t:Δ}{i:Int}(x:GO s.heap it t i):s.TypeIs (.ref it) "reversed":=by
 let#[o,c,a,_]:=x
 exact#[o,c,a]
theorem mV{it t:Δ}{i:Nat}{items:Array Γ}{x:Γ}{Q:Ν->Θ->Prop}(d:GO s.heap it t (i:Int))(hl:IsTup s.heap t items)(hx:items[i]? =↑x)(q:items.size<=ζ)
  (n:∀h' tk,GO h' it t ((i:Int)-1)->Ψ.SameBut it s.heap h'->Q ↑x {s with heap:=h',toks:=tk}):ε (model prog w) A (pyNext (.ref it)) Q E s:=by
 let#[o,g,l,f]:=id d;have j:s.TypeIs (.ref t) "tuple":=let⟨o,e,c,_⟩:=hl;#[o,e,c]
 have p:=ZA;have h:i<items.size:=(Array.getElem?_eq_some_iff.mp hx).1
 unfold pyNext;refine Ja (DQ (wpAny_callSpecial?_slot (name:=Str.ofString "__next__") (GO.typeIs d) RV.slot_next
  (J7 RV.slot_next (GO.typeIs d) RV.entry_next ?_ (RV.args_next _))))
 unfold γ.«reversed.__next__»
 refine Ja (C7 (a:=(Γ.ref it,[])) Z ?_)
 try dsimp only
 refine Ja (JO g f (x:= .ref t) Z ?_)
 refine Ja (JO g f (x:=rawInt (i:Int)) Z ?_)
 show ε _ _ (if(i:Int)<0 then _ else _) _ _ s
 rw[Jc (by lia)]
 try dsimp only
 refine Ja (DD j F.slot_tuple_getitem.lookup ?_)
 rw[Jc (show¬((↑(Γ.builtin "tuple.__getitem__")).isNone=true)from JD)]
 refine Ja (wpAny_mkInt ?_)
 have m:IsTup (Θ.heap {s with toks:=s.toks+1}) t items:=hl
 refine Ja (DQ (getItem_tuple m (by lia) (by lia) (by unfold seqIndex?;rw[Jc (show¬((i:Int)<0) by lia)];simp [h]) hx ?_))
 try dsimp only
 refine Ja (JO (s:={s with toks:=s.toks+1}) g f (x:=rawInt (i:Int)) Z ?_)
 show ε _ _ (setField (.ref it) 1 (rawInt ((i:Int)-1)) >>= _) _ _ _
 refine Ja (D3 (s:={s with toks:=s.toks+1}) g f (by simp) ?_)
 refine Jf #[x,Z,Jf (n _ _ ?_ (D4 ..))]
 exact#[_,El _ g (EG (DO f _)),(Obj.cls_mapFields ..).trans l,by
  rw[DO f];simp]
theorem oG{it t:Δ}{Q:Ν->Θ->Prop}(g:A.handled=none)(c:GO s.heap it t (-1))
  (h:∀h',Ψ.ExtBut it s.heap h'->Q none {s with heap:=h'}):ε (model prog w) A (pyNext (.ref it)) Q E s:=by
 let#[o,e,i,d]:=id c;unfold pyNext;refine Ja (DQ (wpAny_callSpecial?_slot (name:=Str.ofString "__next__") (GO.typeIs c) RV.slot_next
  (J7 RV.slot_next (GO.typeIs c) RV.entry_next ?_ (RV.args_next _))))
 unfold γ.«reversed.__next__»
 refine Ja (C7 (a:=(Γ.ref it,[])) Z ?_)
 try dsimp only
 refine Ja (JO e d (x:= .ref t) Z ?_)
 refine Ja (JO e d (x:=rawInt (-1)) Z ?_)
 show ε _ _ (if(-1:Int)<0 then _ else _) _ _ s
 rw[Jb ⋯]
 refine Ja (Dl ?_)
 refine Ja ?_
 show ε _ _ (setField (.ref it) 1 (rawInt (-1)) >>= _) _ _ _
 refine Ja (D3 e d (by simp) ?_)
 have f:=El (Obj.mapFields (·.setIfInBounds 1 (rawInt (-1)))) e (EG (DO d _))
 refine D3 f (DO d _) (by simp) ?_
 refine Ja ?_
 show ε _ _ (newExc (.type "StopIteration") [] >>= _) _ _ _
 refine Ja ?_
 simp only[newExc,newTuple];refine Ja (C6 ?_ (by size_fits))
 refine Ja (m:=firstArgMember _ _) (C7 (a:=Γ.none) (by first|rfl|(simp only[firstArgMember];rfl)) ?_)
 refine C6 ?_ (by size_fits)
 simp only[raiseNew];refine Ja (wpAny_handled ?_)
 first|rw[show A.in1.handled=none from g]|rw[g]
 refine Ja (Jf (wpAny_throw ?_))
 refine Ja (D5 (T:="StopIteration") (b:=true) #[_,Jq _ Z,Z] isSubtype_stop ?_)
 exact Jf (h _ (((((D4 ..).trans (D4 ..)).extBut).push _).push _))
theorem rC{it t:Δ}{i:Int}{Q:Fl}(a:GO s.heap it t i)(h:Q (.ref it) s):ε (model prog w) A (pyIter (.ref it)) Q E s:=by
 refine wpAny_pyIter_slot (GO.typeIs a) RV.slot_iter (J7 RV.slot_iter (GO.typeIs a) RV.entry_iter ?_ (RV.args_iter _))
 show ε _ _ (ret (.ref it)) _ _ s
 exact Jf #[0,"reversed",_,GO.typeIs a,RV.slot_next.lookup,h]
theorem Az{l:Δ}{items:Array Γ}{Q:Fl}(hl:s.heap.IsTuple l items)(c:items.size<=ζ)
  (h:∀h' tk,GO h' s.heap.objs.size l ((items.size:Int)-1)->(∀b o,s.heap.get? b=↑o->h'.get? b=↑o)->Q (.ref s.heap.objs.size) {s with heap:=h',toks:=tk}):
  ε (model prog w) A (call (.type "reversed") [.ref l]) Q E s:=by
 refine callType_new RV.called ⋯ (RV.tc1 _) (F.newCall_reversed_1 _) (λa=>F.args_object_init_2 a _) F.entry_reversed_new (pJ l items c) #[hl,?_]
 exact#[#[_,Jq _ Z,Z],h _ _ #[_,Jq _ Z,8] λb o e=>Ji _ e]
theorem Au{r:Δ}{n:Nat}{t u v:Tok}{Q:Fl}(hr:s.heap.get? r=some {cls:= .type "range",data:= .fields (List.toArray [.int 0 t,.int n u,.int 1 v])})(hn:(n:Int)<2 ^ 62)
    (h:∀h',IsRangeIter h' s.heap.objs.size ((n:Int)-1) n (-1)->(∀b o,s.heap.get? b=↑o->h'.get? b=↑o)->Q (.ref s.heap.objs.size) {s with heap:=h'}):
    ε (model prog w) A (call (.type "reversed") [.ref r]) Q E s:=by
  have f:s.TypeIs (.ref r) "range":=#[_,hr,Z]
  refine callType_other (U:="range_iterator") (Q₁:=λd c=>d= .ref s.heap.objs.size/\∃h',c={s with heap:=h'}/\IsRangeIter h' s.heap.objs.size ((n:Int)-1) n (-1)/\∀b o,s.heap.get? b=↑o->h'.get? b=↑o) nofun F.create_reversed #[15,F.mro_reversed] F.made_reversed RV.ri_rev (RV.tc1 _) ?_ ?_
  · refine codeAny_of_tree ?_
    show ε _ A.in1.in1 (do checkBuiltinCall "reversed.__new__" #[[.type "reversed",.ref r],[]];again (.builtin "reversed.__new__" #[[.type "reversed",.ref r],[]])) _ _ s
    refine Ja (C7 (F.newCall_reversed_1 _) (Jf #[plainId_quiet F.plain_reversed_new _,DB F.entry_reversed_new ?_]))
    rw[Around.under_plainId F.plain_reversed_new _];unfold γ.«reversed.__new__»
    refine Ja (C7 (newClass_reversed _) ?_)
    try dsimp only
    refine Ja (C7 (a:=()) (by first|rfl|kernel_rfl) ?_)
    refine Ja (C7 (a:=()) (by first|rfl|kernel_rfl) ?_)
    try dsimp only
    refine Ja (DD f F.slot_range_reversed.lookup ?_)
    try dsimp only
    refine Ja (C7 (F.slot_range_reversed.bind _) ?_)
    try dsimp only
    first
    |rw[Jc (show¬((Γ.builtin "range.__reversed__"==Γ.none)=true)from JD)]
    | (show ε _ _ (if(Γ.builtin "range.__reversed__"==Γ.none)=true then _ else _) _ _ _
       rw[Jc (show¬((Γ.builtin "range.__reversed__"==Γ.none)=true)from JD)])
    refine Ja (Dl ?_)
    refine Ja (m:=runValue (.call (.builtin "range.__reversed__") ⟨[.ref r],[]⟩)) (show ε _ _ (call (.builtin "range.__reversed__") [.ref r]) _ _ _ from
      Dz F.slot_range_reversed f F.entry_range_reversed (F.args_range_reversed_1 _) (oY r n t u v hn) ⟨hr,?_⟩)
    first
    |exact Jf ⟨rfl,_,rfl,Jq _ rfl,λb o e=>Ji _ e⟩
    |exact Ja (Jf (Jf ⟨rfl,_,rfl,Jq _ rfl,λb o e=>Ji _ e⟩))
  · rintro d c ⟨rfl,h',rfl,hi,hk⟩
    exact⟨⟨_,hi,rfl⟩,h h' hi hk⟩
end
def pP(K:ι)(a:Δ)(n:Nat):It:=
 ⟨λi H=>i<n/\∃xs,Fw K H a xs/\xs.length=n,λi H x H'=>H'=H/\∀xs,Fw K H a xs->xs[n-1-i]? =↑x,λi _=>n<=i⟩
def pj(K:ι)(a:Δ)(n:Nat):It:=
 ⟨λi H=>i<n/\∃xs,FC K H a xs/\xs.length=n,λi H x H'=>H'=H/\∀xs,FC K H a xs->xs[n-1-i]? =↑x,λi _=>n<=i⟩
def ot(n:Nat):It:=⟨λi _=>i<n,λi H x H'=>H'=H/\x= .int ((n:Int)-1-i),λi _=>n<=i⟩
theorem pI{P:Ξ}{w:Ω}{K:ι}{tg:Φ}(a it:Δ)(n:Nat):GX P w K tg (pP K a n) [it] it (λi h=>i<=n/\h.IsRevIter it a ((n:Int)-1-i)) where
 mem:=by simp
 obj:=λi h st b g=>by
  have e:b=it:=by simpa using g
  subst e;let#[_,o,e,c,d]:=st
  exact#[o,e,λv z=>by rw[d]at z;cases z]
 keep:=λi h h' st k=>#[st.1,st.2.at λo e=>k it (by simp) o e]
 item:=by
  intro X D q A G i tx s σ H E I m st r;subst D q A;let#[hi,xs,F,W]:=r;let#[R,J,p,Y]:=I.list F;have j:n-1-i<xs.length:=by lia
  let#[u,L,O]:=J.get (Jg j)
  let#[C,f1,f2,t,B,y]:=m it (by simp)
  have U:(n:Int)-1-i=((n-1-i:Nat):Int):=by lia
  have f:=st.2;rw[U]at f;refine wpAny_pyNext_rev_item f p.isList (x:=u) (by simpa using L) λh' l S=>?_
  have N:L2.Fv X tx σ H {s with heap:=h'}:=I.turned (t':=s.toks) (λb o g e=>(S.2 b g).trans e) C f1 t B y
  let#[o,e,c,d]:=id l;refine#[u,Z,bT (s:={s with heap:=h'}) e c d ⋯ #[_,H,N,O,#[Z,λys Q=>by rw[I.list_inj Q F];exact Jg j],#[by lia,?_],λb g=>(m b g).1]]
  have T:((n-1-i:Nat):Int)-1=(n:Int)-1-((i+1:Nat):Int):=by lia
  rw[<- T];exact l
 done:=by
  intro X D q A G i tx s σ H E I m st r;subst D q A;let#[C,f1,f2,t,B,y]:=m it (by simp)
  have hi:i=n:=Nat.le_antisymm st.1 r
  have f:=st.2;rw[show(n:Int)-1-i= -1 by lia]at f
  exact wpAny_pyNext_rev_end (I.ok.hd G) f λh' M=>#[Z,I.turned (t':=s.toks) (λb o g e=>M b o g e) C f1 t B y]
 self:=λ_ _ _ _ _ st h=>wpAny_pyIter_revIter st.2 h
theorem sR{P:Ξ}{w:Ω}{K:ι}{tg:Φ}(a it:Δ)(n:Nat):GX P w K tg (pj K a n) [it] it (λi h=>i<=n/\GO h it a ((n:Int)-1-i)) where
 mem:=by simp
 obj:=λi h st b g=>by
  have e:b=it:=by simpa using g
  subst e;let#[_,o,e,c,d]:=st
  exact#[o,e,λv z=>by rw[d]at z;cases z]
 keep:=λi h h' st k=>#[st.1,let⟨o,e,r⟩:=st.2;#[o,k it (by simp) o e,r]]
 item:=by
  intro X F q B M i tx s σ H E I m st t;subst F q B;let#[hi,xs,L,hn]:=t;let#[T,G,p,hz]:=I.tuple L;have J:=G.length;have j:n-1-i<xs.length:=by lia
  let#[u,N,R]:=G.get (Jg j)
  let#[D,f1,f2,y,C,A]:=m it (by simp)
  have Y:(n:Int)-1-i=((n-1-i:Nat):Int):=by lia
  have f:=st.2;rw[Y]at f;refine mV f p (x:=u) (by simpa using N) (by simp;lia) λh' tk l U=>?_
  have Q:L2.Fv X tx σ H {s with heap:=h',toks:=tk}:=I.turned (t':=tk) (λb o g e=>(U.2 b g).trans e) D f1 y C A
  let#[o,e,c,d]:=id l;refine#[u,Z,bT (s:={s with heap:=h',toks:=tk}) e c d ⋯ #[_,H,Q,R,#[Z,λys S=>by rw[I.tuple_inj S L];exact Jg j],#[by lia,?_],λb g=>(m b g).1]]
  have W:((n-1-i:Nat):Int)-1=(n:Int)-1-((i+1:Nat):Int):=by lia
  rw[<- W];exact l
 done:=by
  intro X F q B M i tx s σ H E I m st t;subst F q B;let#[D,f1,f2,y,C,A]:=m it (by simp)
  have hi:i=n:=Nat.le_antisymm st.1 t
  have f:=st.2;rw[show(n:Int)-1-i= -1 by lia]at f
  exact oG (I.ok.hd M) f λh' O=>#[Z,I.turned (t':=s.toks) (λb o g e=>O b o g e) D f1 y C A]
 self:=λ_ _ _ _ _ st h=>rC st.2 h
theorem sT{P:Ξ}{w:Ω}{K:ι}{tg:Φ}(it:Δ)(n:Nat):GX P w K tg (ot n) [it] it (λi h=>IsRangeIter h it ((n:Int)-1+(i:Nat)*(-1)) ((n:Int)-(i:Nat)) (-1)) where
 mem:=by simp
 obj:=λi h st b a=>by
  have e:b=it:=by simpa using a
  subst e
  exact#[_,st,λv z=>by
   have x:Data.fields _=Data.cell v:=z
   cases x]
 keep:=λi h h' st k=>k it (by simp) _ st
 item:=by
  intro X r f l m i tx s σ H E I d st g;subst r f l;let#[p,f1,f2,j,q,u]:=d it (by simp)
  have W:=Walks.range (prog:=X.prog) (w:=X.w) (I.ok.hd m) it ((n:Int)-1) (-1) n
  refine W.item i s _ _ g st λv h' tk y c A=>?_
  let#[t,rfl]:=y;have C:L2.Fv X tx σ H {s with heap:=h',toks:=tk}:=I.turned (λb o a e=>A b o (by simpa using a) e) p f1 j q u
  refine#[0,bT (s:={s with heap:=h',toks:=tk}) (n:="range_iterator") c Z Z ⋯ #[.int ((n:Int)-1-i),H,C,#[t,?_],#[8],c,λb a=>(d b a).1]]
  rw[show(n:Int)-1+(i:Nat)*(-1)=(n:Int)-1-i by lia]
 done:=by
  intro X r f l m i tx s σ H E I d st g;subst r f l;let#[p,f1,f2,j,q,u]:=d it (by simp)
  exact wpAny_pyNext_range_end (I.ok.hd m) st (by have:n<=i:=g;lia) λh' B=>#[Z,I.turned (t':=s.toks) (λb o a e=>B b o a e) p f1 j q u]
 self:=λ_ _ _ _ _ st h=>EC st h
section
variable{X:Cx}{tg:Φ}
theorem uj:bootBuiltins "reversed"=↑(.type "reversed"):=by kernel_rfl
def BM(K:ι)(ta:TA):TI:=λσ H R=>ta σ H λc H1=>∃a,c=[.ref a]/\((∃xs,Fw K H1 a xs/\R (pP K a xs.length) H1)\/(∃xs,FC K H1 a xs/\R (pj K a xs.length) H1)\/∃n:Nat,H1 a=↑(.rng 0 n)/\(n:Int)<2 ^ 62/\R (ot n) H1)
theorem Ak{a:Φ}{ta:TA}{p pos:Pos}(hg:Gl X "reversed")(hm:X.mg "reversed"=none)(ha:PA X [a] ta)(hn:QM a=true:=by rfl):
  PI X tg (.Call (.Name "reversed" p) [a] [] pos) (BM X.K ta):=by
 intro tx s σ H R I h;refine Call_ (Zl I hg hm uj (Dv (qD (ha pos tx s σ H _ I h) λD d x=>?_) (aG hn) Z))
 let#[E,H1,g,y,w]:=x;let#[l,e,w]:=w;subst e;let#[u,rfl,A]:=y.one;cases A;have i:∀b∈[d.heap.objs.size],Zc X tx H1 b:=λb B=>by
  rw[Jn.mp B];exact g.fpOk (Je _) (g.hok.fresh (Je _))
 rcases w with⟨xs,j,q⟩|⟨xs,j,q⟩|⟨n,j,m,q⟩
 ·let#[c,r,pl,C]:=g.list j
  have f:=r.length;refine call_reversed_list pl.isList ?_
  have hi:(d.heap.push (revObj l ((c.toArray.size:Int)-1))).IsRevIter d.heap.objs.size l ((c.toArray.size:Int)-1):=#[_,Jq _ Z,8]
  refine wpAny_pyIter_revIter hi ?_
  refine#[d.heap.objs.size,[d.heap.objs.size],15,H1,Z,g.kept (t':=d.toks) λb o e=>Ji _ e,pI l _ xs.length,#[JR _,?_],i,q]
  rw[show(xs.length:Int)-1-((0:Nat):Int)=(c.toArray.size:Int)-1 by simp [f]]
  exact hi
 ·let#[c,r,pl,C]:=g.tuple j
  have f:=r.length;refine Az (show d.heap.IsTuple l c.toArray from pl) (by simp;lia) λh' tk hi hk=>rC hi ?_
  refine#[d.heap.objs.size,[d.heap.objs.size],15,H1,Z,g.kept (t':=tk) hk,sR l _ xs.length,#[JR _,?_],i,q]
  rw[show(xs.length:Int)-1-((0:Nat):Int)=(c.toArray.size:Int)-1 by simp [f]]
  exact hi
 ·let#[t,u,v,z]:=g.hok l _ j
  refine Au z m λh' hi hk=>EC hi ?_
  refine#[d.heap.objs.size,[d.heap.objs.size],15,H1,Z,g.kept (t':=d.toks) hk,sT _ n,?_,i,q]
  show IsRangeIter _ _ _ _ _
  rw[show(n:Int)-1+((0:Nat):Int)*(-1)=(n:Int)-1 by lia,show(n:Int)-((0:Nat):Int)=n by lia]
  exact hi
def AQ(K:ι)(tl:TE):TI:=λσ H R=>tl σ H λx H1=>∃a,x= .ref a/\((∃xs,Fw K H1 a xs)/\R (eA K a) H1\/(∃xs,FC K H1 a xs)/\R (gX K a) H1)
theorem y7{l:Φ}{tl:TE}(hl:PE X l tl):PI X tg l (AQ X.K tl):=by
 intro tx s σ H R I h;refine qD (hl tx s σ H _ I h) λv c m=>?_
 let#[x,H1,d,n,j]:=m;let#[a,e,j]:=j;subst e;cases n;have g:∀b∈[c.heap.objs.size],Zc X tx H1 b:=λb t=>by
  rw[Jn.mp t];exact d.fpOk (Je _) (d.hok.fresh (Je _))
 rcases j with⟨⟨xs,i⟩,q⟩|⟨⟨xs,i⟩,q⟩
 ·let#[f,r,p,u]:=d.list i
  refine DJ p.isList ?_
  exact#[c.heap.objs.size,[c.heap.objs.size],15,H1,Z,d.kept (t':=c.toks) λb o e=>Ji _ e,i5 a _,#[_,Jq _ Z,8],g,q]
 ·let#[f,r,p,u]:=d.tuple i
  refine Di (show c.heap.IsTuple a f.toArray from p) ?_
  exact#[c.heap.objs.size,[c.heap.objs.size],15,H1,Z,d.kept (t':=c.toks) λb o e=>Ji _ e,fZ a _,#[_,Jq _ Z,8],g,q]
end
section
variable{K:ι}{a:Δ}{xs:Β}{g:TG}{tb:TS}{D:Gj}{σ:L2.St}{H:Hp}
abbrev ZI(J:It)(g:TG)(tb:TS)(D:Gj)(σ:L2.St)(H:Hp):Prop:=∃W:Nat->Nat->L2.St->Hp->Prop,(∃m,W 0 m σ H)/\∀i m σ H,W i m σ H->
      (J.stop i H/\D.nx σ H)\/(J.go i H/\∃N:L2.St->Hp->Prop,(∀σ' H',N σ' H'->∃m',m'<m/\W (i+1) m' σ' H')/\∀x H',J.yld i H x H'->g x σ H' λσ2 H2=>tb {D with nx:=N,ct:=N,bk:=D.nx} σ2 H2)
theorem c6{J:It}{n:Nat}(Pv:Nat->L2.St->Hp->Prop)(j:Pv 0 σ H)(c:∀i σ H,i<n->Pv i σ H->J.go i H)(hst:∀H,J.stop n H)
  (hs:∀i x σ H H',i<n->Pv i σ H->J.yld i H x H'->g x σ H' λd l=>tb {D with nx:=Pv (i+1),ct:=Pv (i+1),bk:=D.nx} d l)(hd:∀σ H,Pv n σ H->D.nx σ H):ZI J g tb D σ H:=by
 exists λi m σ H=>m=n-i/\i<=n/\Pv i σ H,#[n,by simp,JR _,j]
 rintro i m σ H ⟨rfl,hi,p⟩
 by_cases a:i<n
 ·exact .inr #[c i σ H a p,Pv (i+1),λh H' f=>#[n-(i+1),by lia,Z,a,f],λx H' y=>hs i x σ H H' a p y]
 ·have e:i=n:=by lia
  subst e;exact .inl #[hst H,hd σ H p]
theorem vH(Pv:Nat->L2.St->Hp->Prop)(d:Pv 0 σ H)(hl:∀i σ H,Pv i σ H->Fw K H a xs)
  (hs:∀i x σ H,i<xs.length->xs[xs.length-1-i]? =↑x->Pv i σ H->g x σ H λc e=>tb {D with nx:=Pv (i+1),ct:=Pv (i+1),bk:=D.nx} c e)(hd:∀σ H,Pv xs.length σ H->D.nx σ H):ZI (pP K a xs.length) g tb D σ H:=
 c6 Pv d (λi σ H hi p=>#[hi,xs,hl i σ H p,Z]) (λ_=>Je _) (λi x σ H H' hi p y=>by
  let#[rfl,y]:=y;exact hs i x σ H' hi (y xs (hl i σ H' p)) p) hd
theorem vG(Pv:Nat->L2.St->Hp->Prop)(d:Pv 0 σ H)(hl:∀i σ H,Pv i σ H->FC K H a xs)
  (hs:∀i x σ H,i<xs.length->xs[xs.length-1-i]? =↑x->Pv i σ H->g x σ H λc e=>tb {D with nx:=Pv (i+1),ct:=Pv (i+1),bk:=D.nx} c e)(hd:∀σ H,Pv xs.length σ H->D.nx σ H):ZI (pj K a xs.length) g tb D σ H:=
 c6 Pv d (λi σ H hi p=>#[hi,xs,hl i σ H p,Z]) (λ_=>Je _) (λi x σ H H' hi p y=>by
  let#[rfl,y]:=y;exact hs i x σ H' hi (y xs (hl i σ H' p)) p) hd
theorem uv{n:Nat}(Pv:Nat->L2.St->Hp->Prop)(c:Pv 0 σ H)
  (hs:∀i σ H,i<n->Pv i σ H->g (.int ((n:Int)-1-i)) σ H λa d=>tb {D with nx:=Pv (i+1),ct:=Pv (i+1),bk:=D.nx} a d)(hd:∀σ H,Pv n σ H->D.nx σ H):ZI (ot n) g tb D σ H:=
 c6 Pv c (λi σ H hi p=>hi) (λ_=>Je _) (λi x σ H H' hi p y=>by
  let#[rfl,rfl]:=y;exact hs i σ H' hi p) hd
end
end L3
namespace L3
open PySem PySem.Spec L2
variable{X:Cx}
theorem tF{tg:Φ}{a:Φ}{ta:TA}{p pos:Pos}(hg:Gl X "reversed")(hm:X.mg "reversed"=none)(ha:QA X [a] ta)(hn:QM a=true:=by rfl):QI X tg (.Call (.Name "reversed" p) [a] [] pos) (BM X.K ta):=#[Ak (hg:=hg) (hm:=hm) (ha:=ha.h) (hn:=hn)]
theorem rX{tg:Φ}{l:Φ}{tl:TE}(hl:QE X l tl):QI X tg l (AQ X.K tl):=#[y7 (hl:=hl.h)]
def aL(x:Int):Prop:=0<=x/\x<16
def zt(r:Ζ):Prop:=∀x∈r,aL x
def wb(n i:Nat):Nat:=if i=0 then n-1 else i-1
def ah(r:Ζ)(i:Nat):Int:=r.getD (wb r.length i) 0
def iE(t:Ζ)(s:Int)(r:Ζ)(i:Nat):Ζ:=r.set i (t.getD ((r.getD i 0+s+i+ah r i)%16).toNat 0)
def fC(b:Ζ)(s:Int)(r:Ζ)(i:Nat):Ζ:=r.set i ((b.getD (r.getD i 0).toNat 0-s-i-ah r i)%16)
def ZR(t:Ζ)(s:Int)(r:Ζ):Nat->Ζ
 |0=>r
 |n+1=>iE t s (ZR t s r n) n
def ae(b:Ζ)(s:Int)(r:Ζ):Nat->Ζ
 |0=>r
 |n+1=>ae b s (fC b s r n) n
def Qo(t:Ζ):Ζ->Ζ->Ζ
 | [],r=>r
 |s::ks,r=>Qo t ks (ZR t s r r.length)
def Q9(b:Ζ):Ζ->Ζ->Ζ
 | [],r=>r
 |s::ks,r=>ae b s (Q9 b ks r) r.length
theorem uJ{t:Ζ}{s:Int}{r:Ζ}{i:Nat}:(iE t s r i).length=r.length:=DX ..
theorem kC{b:Ζ}{s:Int}{r:Ζ}{i:Nat}:(fC b s r i).length=r.length:=DX ..
theorem QJ{t:Ζ}{s:Int}{r:Ζ}:∀{n:Nat},(ZR t s r n).length=r.length
 |0=>rfl
 |n+1=>by rw[ZR,uJ,QJ]
theorem km{b:Ζ}{s:Int}:∀{n:Nat} {r:Ζ},(ae b s r n).length=r.length
 |0,_=>rfl
 |n+1,r=>by rw[ae,km,kC]
theorem aC{t:Ζ}:∀{ks r:Ζ},(Qo t ks r).length=r.length
 | [],_=>rfl
 |s::ks,r=>by rw[Qo,aC,QJ]
theorem fM{b:Ζ}:∀{ks r:Ζ},(Q9 b ks r).length=r.length
 | [],_=>rfl
 |s::ks,r=>by rw[Q9,km,fM]
theorem ka{r:Ζ}{i:Nat}{x:Int}(h:zt r)(hx:aL x):zt (r.set i x):=λy a=>by
 rcases List.mem_or_eq_of_mem_set a with z|z
 ·exact h y z
 ·rw[z];exact hx
theorem QN(x:Int):aL (x%16):=#[DE _ ⋯,DF _ ⋯]
theorem iI{r:Ζ}(h:zt r)(i:Nat):aL (r.getD i 0):=by
 rw[JE]
 by_cases hi:i<r.length
 ·rw[Jg hi];exact h _ (CQ hi)
 ·rw[List.getElem?_eq_none (by lia)];exact#[⋯,⋯]
theorem vK{t:Ζ}(p:t.Perm F5):zt t:=λx a=>k9 (p.mem_iff.mp a)
theorem uw{t:Ζ}(p:t.Perm F5){s:Int}{r:Ζ}{i:Nat}(h:zt r):zt (iE t s r i):=ka h (iI (vK p) _)
theorem jV{b:Ζ}{s:Int}{r:Ζ}{i:Nat}(h:zt r):zt (fC b s r i):=ka h (QN _)
theorem bP{t:Ζ}(p:t.Perm F5){s:Int}{r:Ζ}(h:zt r):∀{n:Nat},zt (ZR t s r n)
 |0=>h
 |n+1=>uw p (bP p h)
theorem j3{b:Ζ}{s:Int}:∀{n:Nat} {r:Ζ},zt r->zt (ae b s r n)
 |0,_,h=>h
 |n+1,_,h=>j3 (n:=n) (jV h)
theorem fF{t:Ζ}(p:t.Perm F5):∀{ks r:Ζ},zt r->zt (Qo t ks r)
 | [],_,h=>h
 |s::ks,_,h=>fF (ks:=ks) p (bP p h)
theorem k4{b:Ζ}:∀{ks r:Ζ},zt r->zt (Q9 b ks r)
 | [],_,h=>h
 |s::ks,_,h=>j3 (k4 (ks:=ks) h)
theorem jF{r:Ζ}{i:Nat}{x:Int}(h:i<r.length):(r.set i x).getD i 0=x:=by
 rw[JE,EA h];rfl
theorem mP{r:Ζ}{i j:Nat}{x:Int}(h:i≠j):(r.set i x).getD j 0=r.getD j 0:=by
 rw[JE,EB h,<- JE]
theorem B9{n i:Nat}(h2:2<=n)(hi:i<n):i≠wb n i:=by unfold wb;split<;>lia
theorem AO{r:Ζ}{i:Nat}{x:Int}(h2:2<=r.length)(hi:i<r.length):ah (r.set i x) i=ah r i:=by
 unfold ah;rw[DX,mP (B9 h2 hi)]
theorem uM{r:Ζ}{i:Nat}(hi:i<r.length):r.set i (r.getD i 0)=r:=by
 rw[JE,Jg hi];exact List.set_getElem_self hi
theorem ua{t:Ζ}(p:t.Perm F5){z:Int}(h:aL z):(zC t).getD (t.getD z.toNat 0).toNat 0=z:=by
 have a:z.toNat<t.length:=by rw[hW p];have:=h.1;have:=h.2;lia
 have e:t.getD z.toNat 0=t[z.toNat]:=by rw[JE,Jg a];rfl
 have bd:=lS p a;have c:t[z.toNat].toNat<(zC t).length:=by rw[aM];lia
 rw[e,JE,Jg c,De,yr p (by rw[aM]at c;exact c)]
 have d:((t[z.toNat].toNat:Nat):Int)=t[z.toNat]:=by lia
 rw[d,sP p a]
 have:=h.1
 lia
theorem uf{t:Ζ}(p:t.Perm F5){s:Int}{r:Ζ}{i:Nat}(hr:zt r)(h2:2<=r.length)(hi:i<r.length):fC (zC t) s (iE t s r i) i=r:=by
 unfold fC iE;rw[jF hi,AO h2 hi,List.set_set,ua p (QN _)];have a:=iI hr i;have e:((r.getD i 0+s+i+ah r i)%16-s-i-ah r i)%16=r.getD i 0:=by
  have:=a.1
  have:=a.2
  lia
 rw[e,uM hi]
theorem lx{t:Ζ}(p:t.Perm F5){s:Int}{r:Ζ}(hr:zt r)(h2:2<=r.length):∀{n:Nat},n<=r.length->ae (zC t) s (ZR t s r n) n=r
 |0,_=>rfl
 |n+1,hn=>by
  rw[ZR,ae,uf p (bP p hr) (by rw[QJ];exact h2) (by rw[QJ];lia)]
  exact lx p hr h2 (by lia)
theorem fL{t:Ζ}(p:t.Perm F5):∀{ks r:Ζ},zt r->2<=r.length->Q9 (zC t) ks (Qo t ks r)=r
 | [],_,_,_=>rfl
 |s::ks,r,hr,h2=>by
  rw[Q9,Qo,fL p (bP p hr) (by rw[QJ];exact h2),aC,QJ,lx p hr h2 (Je _)]
theorem kf(t:Ζ):∀(ks:Ζ) (s:Int) (r:Ζ),Qo t (ks++[s]) r=ZR t s (Qo t ks r) r.length
 | [],_,_=>rfl
 |a::ks,s,r=>by rw[Et,Qo,kf t ks s,Qo,QJ]
def Sq(K:ι)(H:Hp)(a:Δ)(xs:Β):Prop:=Fw K H a xs\/FC K H a xs
theorem Sq.same{K:ι}{H H':Hp}{a:Δ}{xs:Β}(e:Fp H H')(h:Sq K H a xs):Sq K H' a xs:=h.elim (λh=> .inl (e.seq h)) λh=> .inr (Fp.sqt e h)
theorem Sq.lst{K:ι}{H:Hp}{a:Δ}{xs:Β}(h:H a=↑(.lst xs)):Sq K H a xs:= .inl (Fw.of h)
theorem Sq.tup{K:ι}{H:Hp}{a:Δ}{xs:Β}(h:H a=↑(.tup xs)):Sq K H a xs:= .inr (FC.of h)
inductive Lb (K:ι) (vs:Β) (H:Hp) (Q:VK):Prop
 |mk (a b c:Δ) (t ks ds:Ζ) (h1:vs=[.ref a,.ref b,.ref c]) (h2:Sq K H a (t.map V.int)) (h3:Sq K H b (ks.map V.int)) (h4:Sq K H c (ds.map V.int)) (h5:t.length=16) (h6:1<=ds.length) (h7:ds.length<64) (h8:∀p H',Fp H H'->H p=none->H' p=↑(.tup ((Qo t ks ds).map V.int))->Q (.ref p) H')
def cW(K:ι):Sp:=λa H Q _=>Lb K a H Q
inductive Ib (K:ι) (vs:Β) (H:Hp) (Q:VK):Prop
 |mk (a b c:Δ) (t ks ds:Ζ) (h1:vs=[.ref a,.ref b,.ref c]) (h2:Sq K H a (t.map V.int)) (h3:Sq K H b (ks.map V.int)) (h4:Sq K H c (ds.map V.int)) (h5:t.Perm F5) (h6:zt ds) (h7:1<=ds.length) (h8:ds.length<64) (h9:∀p H',Fp H H'->H p=none->H' p=↑(.tup ((Q9 (zC t) ks ds).map V.int))->Q (.ref p) H')
def jh(K:ι):Sp:=λa H Q _=>Ib K a H Q
theorem av{r:Ζ}{i:Nat}{z:Int}(e:z=(i:Int))(h:i<r.length):QQ (r.map V.int) z=↑(.int (r.getD i 0)):=by
 rw[wJ e (iA h),JE,Jg h];rfl
theorem sF{r:Ζ}{i:Nat}{z:Int}(e:z=(i:Int)-1)(h:i<r.length):QQ (r.map V.int) z=↑(.int (ah r i)):=by
 subst e;unfold ah wb
 by_cases a:i=0
 ·subst a
  rw[Jb Z];have c:r.length-1<r.length:=by lia
  unfold QQ aP;rw[Jd,Jc (by lia),Jb (by lia)]
  have d:((((0:Nat):Int)-1)+(r.length:Int)).toNat=r.length-1:=by lia
  show(r.map V.int)[((((0:Nat):Int)-1)+(r.length:Int)).toNat]? =_
  rw[d,iA c,JE,Jg c];rfl
 ·rw[Jc a]
  exact av (by lia) (by lia)
theorem Sq.ix{K:ι}{H:Hp}{a:Δ}{xs:Β}{i:Int}{v:V}{Q:VK}(h:Sq K H a xs)(e:QQ xs i=↑v)(q:Q v H):uO K (.ref a) (.int i) H Q\/uo K (.ref a) (.int i) H Q:=
 h.elim (λh=> .inl #[a,xs,i,v,8,h,e,q]) λh=> .inr #[a,xs,i,v,8,h,e,q]
section
variable{K:ι}{a:Δ}{xs:Β}{g:TG}{tb:TS}{D:Gj}{σ:L2.St}{H H0:Hp}
theorem yn(c:Sq K H0 a xs)(Pv:Nat->L2.St->Hp->Prop)(d:Pv 0 σ H)(hk:∀i f H',Pv i f H'->Fp H0 H')
  (hs:∀i x σ H,xs[i]? =↑x->Pv i σ H->g x σ H λe h=>tb {D with nx:=Pv (i+1),ct:=Pv (i+1),bk:=D.nx} e h)(hd:∀σ H,Pv xs.length σ H->D.nx σ H):
  ((∃xs,Fw K H a xs)/\ZI (eA K a) g tb D σ H)\/((∃xs,FC K H a xs)/\ZI (gX K a) g tb D σ H):=by
 rcases c with c|c
 ·exact .inl #[#[xs,(hk _ _ _ d).seq c],Qa Pv d (λi σ H _ p=>(hk i σ H p).seq c) hs hd]
 ·exact .inr #[#[xs,Fp.sqt (hk _ _ _ d) c],ni Pv d (λi σ H _ p=>Fp.sqt (hk i σ H p) c) hs hd]
theorem uG(c:Sq K H0 a xs)(Pv:Nat->L2.St->Hp->Prop)(d:Pv 0 σ H)(hk:∀i f H',Pv i f H'->Fp H0 H')
  (hs:∀i x σ H,i<xs.length->xs[xs.length-1-i]? =↑x->Pv i σ H->g x σ H λe h=>tb {D with nx:=Pv (i+1),ct:=Pv (i+1),bk:=D.nx} e h)(hd:∀σ H,Pv xs.length σ H->D.nx σ H):
  (∃xs,Fw K H a xs/\ZI (pP K a xs.length) g tb D σ H)\/(∃xs,FC K H a xs/\ZI (pj K a xs.length) g tb D σ H)\/(∃n:Nat,H a=↑(.rng 0 n)/\(n:Int)<2 ^ 62/\ZI (ot n) g tb D σ H):=by
 rcases c with c|c
 ·exact .inl #[xs,(hk _ _ _ d).seq c,vH Pv d (λi σ H p=>(hk i σ H p).seq c) hs hd]
 ·exact .inr (.inl #[xs,Fp.sqt (hk _ _ _ d) c,vG Pv d (λi σ H p=>Fp.sqt (hk i σ H p) c) hs hd])
end
theorem Zx{H a:Hp}{l:Δ}{o:HO}(s:Fp H a)(h:H l=none):Fp H (Ft a l o):=λd u e=>by
 rw[qi (qt e h)];exact s _ _ e
theorem iB{ks:Ζ}{j:Nat}{s:Int}(h:ks[j]? =↑s):ks.take (j+1)=ks.take j++[s]:=by rw[J8,h];rfl
theorem sk{ks:Ζ}{j:Nat}{s:Int}(h:ks[j]? =↑s):ks.drop j=s::ks.drop (j+1):=by
 let#[a,e]:=Jp.mp h;rw[List.drop_eq_getElem_cons a,e]
inductive Iz (H:Hp):Nat->V->V->Prop where
 |int (n:Nat) (i:Int):Iz H n (.int i) (.int i)
 |str (n:Nat) (x:Str):Iz H n (.str x) (.str x)
 |non (n:Nat):Iz H n .non .non
 |bl (n:Nat) (b:Bool):Iz H n (.bl b) (.bl b)
 | tup {n:Nat} {a b:Δ} {xs ys:Β} (h1:Rd H a (.tup xs)) (h2:Rd H b (.tup ys)) (hl:xs.length=ys.length)
   (hi:∀(i:Nat) (x y:V),xs[i]? =↑x->ys[i]? =↑y->Iz H n x y):Iz H (n+1) (.ref a) (.ref b)
 | lst {n:Nat} {a b:Δ} {xs ys:Β} (h1:H a=↑(.lst xs)) (h2:H b=↑(.lst ys)) (hl:xs.length=ys.length)
   (hi:∀(i:Nat) (x y:V),xs[i]? =↑x->ys[i]? =↑y->Iz H n x y):Iz H (n+1) (.ref a) (.ref b)
theorem bf(n:Nat):((List.range n).all λ_=>true)=true:=by simp
section
open SeqAt
variable{tx:Fo}{σ:L2.St}{H:Hp}{s:Θ}
theorem zV{xs:Β}{us:Η}(r:Fy xs us){j:Nat}(h:j<us.length):∃x,xs[j]? =↑x/\Fx x us[j]:=by
 have e:=r.length;have c:j<xs.length:=by lia
 let#[u,a,d]:=r.get (Jg c)
 rw[Jg h]at a;cases a
 exact⟨_,Jg c,d⟩
theorem rV(I:L2.Fv X tx σ H s){n:Nat}{x y:V}(h:Iz H n x y):∀{v u:Γ} {A:Around},Fx x v->Fx y u->A.units+n<cLine->EqAt A s v u true:=by
 induction h with
 |int n i=>rintro v u A ⟨t,rfl⟩ ⟨q,rfl⟩ _;have:=EqAt.int_int (A:=A) (s:=s) i t i q;rwa [CS]at this
 |str n z=>rintro v u A ⟨t,rfl⟩ ⟨q,rfl⟩ _;have:=EqAt.str_str (A:=A) (s:=s) z t z q;rwa [CS]at this
 |non n=>
  intro v u A g l _
  cases(show v=Γ.none from g)
  cases(show u=Γ.none from l)
  exact EqAt.same _
 |bl n b=>
  intro v u A g l _
  cases(show v=Γ.bool b from g)
  cases(show u=Γ.bool b from l)
  exact EqAt.same _
 | @tup n a b xs ys h1 h2 hl _ ih=>
  intro v u A g l F
  cases(show v=Γ.ref a from g)
  cases(show u=Γ.ref b from l)
  by_cases c:a=b
  ·rw[c];exact EqAt.same _
  ·let#[f,o,C,_]:=I.tuple (.inl h1)
   let#[d,m,p2,_]:=I.tuple (.inl h2)
   have E:=o.length;have G:=m.length;have e:=RcAt.tuples (A:=A) (e:=λ_=>true) (show s.heap.IsTuple a f.toArray from C) (show s.heap.IsTuple b d.toArray from p2) (by lia) (λj p w=>by
    let#[x,ex,r]:=zV o (j:=j) (by simpa using p)
    let#[y,B,D]:=zV m (j:=j) (by simpa using w)
    exact ih j x y ex B r D (by rw[CY];lia))
   rw[bf,show(f.toArray.size==d.toArray.size)=true by simp;lia]at e
   exact EqAt.of_refs c e
 | @lst n a b xs ys h1 h2 hl _ ih=>
  intro v u A g l F
  cases(show v=Γ.ref a from g)
  cases(show u=Γ.ref b from l)
  by_cases c:a=b
  ·rw[c];exact EqAt.same _
  ·let#[f,o,C,_]:=I.list (Fw.of h1)
   let#[d,m,p2,_]:=I.list (Fw.of h2)
   have E:=o.length;have G:=m.length;have e:=RcAt.lists (A:=A) (e:=λ_=>true) C.isList p2.isList (by simp;lia) (by lia) (λj p w=>by
    let#[x,ex,r]:=zV o (j:=j) (by simpa using p)
    let#[y,B,D]:=zV m (j:=j) (by simpa using w)
    exact ih j x y ex B r D (by rw[CY];lia))
   rw[bf]at e;exact EqAt.of_refs c e
theorem Ap(I:L2.Fv X tx σ H s){n:Nat}{x y:V}{v u:Γ}{A:Around}(h:Iz H n x y)(l:Fx x v)(m:Fx y u)(hu:A.units+n<cLine):RcAt A s v u true/\RcNeAt A s v u false:=by
 cases h with
 |int n i=>
  let#[t,rfl]:=l;let#[p,rfl]:=m;have f:=RcAt.int_int (A:=A) (s:=s) i t i p
  have g:=RcNeAt.int_int (A:=A) (s:=s) i t i p
  rw[CS]at f g
  exact#[f,g]
 |str n z=>
  let#[t,rfl]:=l;let#[p,rfl]:=m;have f:=RcAt.str_str (A:=A) (s:=s) z t z p
  have g:=RcNeAt.str_str (A:=A) (s:=s) z t z p
  rw[CS]at f g
  exact#[f,g]
 |non n=>
  cases(show v=Γ.none from l)
  cases(show u=Γ.none from m)
  exact#[RcAt.none_none,RcNeAt.none_none]
 |bl n b=>
  cases(show v=Γ.bool b from l)
  cases(show u=Γ.bool b from m)
  have f:=RcAt.bool_bool (A:=A) (s:=s) b b
  have g:=RcNeAt.bool_bool (A:=A) (s:=s) b b
  rw[CS]at f g
  exact#[f,g]
 | @tup n a b xs ys h1 h2 hl ih=>
  cases(show v=Γ.ref a from l)
  cases(show u=Γ.ref b from m)
  let#[d,r,B,_]:=I.tuple (.inl h1)
  let#[c,q,p2,_]:=I.tuple (.inl h2)
  have G:=r.length;have J:=q.length;have C:∀j (o:j<d.toArray.size) (w:j<c.toArray.size),EqAt A.in1 s d.toArray[j] c.toArray[j] ((λ_=>true) j):=λj o w=>by
   let#[x,ex,D]:=zV r (j:=j) (by simpa using o)
   let#[y,E,F]:=zV q (j:=j) (by simpa using w)
   exact rV I (ih j x y ex E) D F (by rw[CY];lia)
  have f:=RcAt.tuples (A:=A) (e:=λ_=>true) (show s.heap.IsTuple a d.toArray from B) (show s.heap.IsTuple b c.toArray from p2) (by lia) C
  have g:=RcNeAt.tuples (A:=A) (e:=λ_=>true) (show s.heap.IsTuple a d.toArray from B) (show s.heap.IsTuple b c.toArray from p2) (by lia) C
  rw[bf,show(d.toArray.size==c.toArray.size)=true by simp;lia]at f g
  exact#[f,g]
 | @lst n a b xs ys h1 h2 hl ih=>
  cases(show v=Γ.ref a from l)
  cases(show u=Γ.ref b from m)
  let#[d,r,B,_]:=I.list (Fw.of h1)
  let#[c,q,p2,_]:=I.list (Fw.of h2)
  have G:=r.length;have J:=q.length;have C:∀j (o:j<d.toArray.size) (w:j<c.toArray.size),EqAt A.in1 s d.toArray[j] c.toArray[j] ((λ_=>true) j):=λj o w=>by
   let#[x,ex,D]:=zV r (j:=j) (by simpa using o)
   let#[y,E,F]:=zV q (j:=j) (by simpa using w)
   exact rV I (ih j x y ex E) D F (by rw[CY];lia)
  have f:=RcAt.lists (A:=A) (e:=λ_=>true) B.isList p2.isList (by simp;lia) (by lia) C
  have g:=RcNeAt.lists (A:=A) (e:=λ_=>true) B.isList p2.isList (by simp;lia) (by lia) C
  rw[bf]at f g
  exact#[f,g]
inductive L8 (b:Bool) (x:V) (y:V) (H:Hp) (Q:VK):Prop
 |mk (n:_) (h1:n<=32) (h2:Iz H n x y) (h3:Q (.bl b) H)
def Cn(b:Bool):R2:=λx y H Q=>L8 b x y H Q
theorem AJ{k:Nat}(hr:FJ k X.A):zf X (compareOp .NotEq) (Cn false):=by
 intro tx s σ H x y v u Q I c a h;let#[n,d,e,q]:=h
 exact(Ap I e c a (by have:=hr.un;lia)).2 _ _ _ _ #[.bl _,H,I,Z,q]
end
end L3
namespace L3
open PySem PySem.Spec PyProof.Rows L2
open Sem (wp)
def wj(x:Str):It:=#[λi _=>i<x.cps.size,λi H v H'=>H'=H/\∃c,x.cps[i]? =↑c/\v= .str #[(List.toArray [c])],λi _=>x.cps.size<=i]
theorem uR{P:Ξ}{w:Ω}{K:ι}{tg:Φ}(it:Δ)(x:Str)(t:Tok):GX P w K tg (wj x) [it] it (λi h=>h.IsStrIter it "str_ascii_iterator" x t i) where
 mem:=by simp
 obj:=λi h st b a=>by
  have e:b=it:=by simpa using a
  subst e;let#[o,e,c,d]:=st
  exact#[o,e,λv z=>by rw[d]at z;cases z]
 keep:=λi h h' st k=>let⟨o,e,r⟩:=st;#[o,k it (by simp) o e,r]
 item:=by
  intro X D m y A i tx s σ H E I g st n;subst D m y;let#[C,f1,f2,p,B,q]:=g it (by simp)
  have W:=Walks.strAscii (prog:=X.prog) (w:=X.w) (I.ok.hd A) it x t
  refine W.item i s _ _ n st λv h' tk L f M=>?_
  let#[c,u,j,rfl]:=L;have J:L2.Fv X tx σ H {s with heap:=h',toks:=tk}:=I.turned (λb o a e=>M b o (by simpa using a) e) C f1 p B q
  let#[o,e,F,d]:=id f
  exact#[0,bT (s:={s with heap:=h',toks:=tk}) e F d ⋯ #[.str #[(List.toArray [c])],H,J,#[u,Z],#[Z,c,j,Z],f,λb a=>(g b a).1]]
 done:=by
  intro X D m y A i tx s σ H E I g st n;subst D m y;let#[C,f1,f2,p,B,q]:=g it (by simp)
  have l:x.cps.size<=i:=n
  exact wpAny_pyNext_ascii_end (I.ok.hd A) st (by simp [l]) λh' G=>#[Z,I.turned (t':=s.toks) (λb o a e=>G b o a e) C f1 p B q]
 self:=λ_ _ _ _ _ st h=>wpAny_pyIter_striter_ascii st h
section
variable{X:Cx}{tg:Φ}
def Ba(tl:TE):TI:=λσ H R=>tl σ H λv H1=>∃x,v= .str x/\x.cps.all (· <128)=true/\R (wj x) H1
theorem Bx{l:Φ}{tl:TE}(hl:PE X l tl):PI X tg l (Ba tl):=by
 intro tx s σ H R I h;refine qD (hl tx s σ H _ I h) λv a d=>?_
 let#[x,H1,c,f,i]:=d;let#[z,rfl,j,q]:=i;let#[t,rfl]:=f;refine wpAny_pyIter_ascii j ?_
 refine#[a.heap.objs.size,[a.heap.objs.size],15,H1,Z,c.kept (t':=a.toks) λb o e=>Ji _ e,uR _ z t,#[_,Jq _ Z,8],λb g=>?_,q]
 rw[Jn.mp g];exact c.fpOk (Je _) (c.hok.fresh (Je _))
theorem sj{l:Φ}{tl:TE}(hl:QE X l tl):QI X tg l (Ba tl):=#[Bx hl.h]
end
theorem wQ{x:Str}{g:TG}{tb:TS}{D:Gj}{σ:L2.St}{H:Hp}(Pv:Nat->L2.St->Hp->Prop)(d:Pv 0 σ H)
  (hs:∀i c σ H,x.cps[i]? =↑c->Pv i σ H->g (.str #[(List.toArray [c])]) σ H λa e=>tb {D with nx:=Pv (i+1),ct:=Pv (i+1),bk:=D.nx} a e)(hd:∀σ H,Pv x.cps.size σ H->D.nx σ H):ZI (wj x) g tb D σ H:=
 c6 Pv d (λi σ H hi p=>hi) (λ_=>Je _) (λi v σ H H' hi p y=>by
  let#[rfl,c,f,rfl]:=y;exact hs i c σ H' f p) hd
section
variable{X:Cx}{o e:Φ}{es:Κ}{to:TE}{t:TA}{name:Str}{apos cpos:Pos}{T id:String}{r:V->Β->Hp->VK->Prop}
theorem QB(i:PlainAttrs T)(f:Slot T name id)(h:typeOf (.builtin id)=pure (.type "method_descriptor"))(hm:mW X id r)(ho:QE X o to)(ha:QA X (e::es) t)
  (d:attributeBase o name X.env (eval o X.env)=eval o X.env:=by rfl)
  (g:((backTo cpos (θ (e::es) X.env)).all (λx=> ! x.1)&&(backToKw cpos (keywordEach [] X.env)).all (λx=>x.1.isSome)
   &&decide ((e::es).length+([]:β).length+(if([]:β).isEmpty then 0 else 1)<30))=true:=by rfl)
  (c:(apos.endLine==cpos.line)=true:=by rfl)(hs:θ (e::es) X.env=(false,eval e X.env)::θ es X.env:=by rfl)(a:(backTo cpos (θ es X.env)).any (·.1)=false:=by rfl):
  QE X (.Call (.Attribute o name apos) (e::es) [] cpos) (Al X.K T r to t):=#[BS i f h hm ho.h ha.h d g c hs a]
theorem zH:mW X "list.append" mY:=sg
end
theorem a7(ns:Ζ):∀n,n<=ns.length->preSum (λi=>ns.getD i 0) n=(ns.take n).sum
 |0,_=>by simp [preSum]
 |n+1,h=>by
  have a:n<ns.length:=by lia
  rw[preSum,a7 ns n (by lia),J8,Jg a,Option.toList_some,List.sum_append,JE,Jg a]
  simp
theorem rY{B:Int}:∀{ns:Ζ},(∀z∈ns,0<=z/\z<=B)->0<=ns.sum/\ns.sum<=ns.length*B
 | [],_=>#[by simp,by simp]
 |n::r,h=>by
  have h1:=h n JJ;have c:=rY (ns:=r) λz a=>h z (JF _ a)
  rw[List.sum_cons,CP];exists by lia
  have:(((r.length+1:Nat):Int))*B=r.length*B+B:=by rw[Int.natCast_add,Int.add_mul];simp
  lia
section
variable{X:Cx}
theorem jo(hc:X.calm=true):zi X (.builtin "sum") (λxs H Q=>∃(p:Δ) (ns:Ζ),xs=[.ref p]/\Sq X.K H p (ns.map V.int)/\ns.length<=1000/\(∀z∈ns,0<=z/\z<=1000000)/\Q (.int ns.sum) H):=by
 intro tx s σ H xs P Q I r h;let#[p,ns,rfl,w,T,G,q]:=h;let#[u,rfl,L]:=Qt r;cases L;have bd:∀n,n<=ns.length->0<=preSum (λi=>ns.getD i 0) n/\preSum (λi=>ns.getD i 0) n<=1000000000:=λn M=>by
  rw[a7 ns n M];have h1:=rY (B:=1000000) (ns:=ns.take n) λz y=>G z (List.mem_of_mem_take y)
  have S:(ns.take n).length<=1000:=by rw[J0];lia
  lia
 have m:∀j,j<ns.length->InLong ((λi=>ns.getD i 0) j)/\InLong (preSum (λi=>ns.getD i 0) (j+1)):=λj l=>by
  have R:=bd (j+1) (by lia)
  have U:0<=ns.getD j 0/\ns.getD j 0<=1000000:=by
   rw[JE,Jg l];exact G _ (CQ l)
  unfold InLong;simp only
  lia
 have J:preSum (λi=>ns.getD i 0) ns.length=ns.sum:=by rw[a7 ns _ (Je _),Dh]
 have val:∀{a:Η},Fy (ns.map V.int) a->∀(i:Nat) (v:Γ),a.toArray[i]? =↑v->∃t,v= .int ((λi=>ns.getD i 0) i) t:=λ{a} g i v N=>by
  have C:a[i]? =↑v:=by simpa using N
  have hi:i<a.length:=(Jp.mp C).1
  let#[x,ex,O]:=zV g hi;let#[z,rfl,y]:=QC ex;let#[t,K]:=O;exists t
  rw[(Jp.mp C).2]at K;rw[K]
  show Γ.int z t=Γ.int (ns.getD i 0) t
  rw[JE,y];rfl
 rcases w with w|w
 ·let#[a,g,pl,y]:=I.list w
  have c:ns.length=a.length:=by have:=g.length;rwa [Jd]at this
  have f:p<s.heap.objs.size:=by let#[_,e,_]:=pl.isList;exact Jm e
  refine call_sum_walk (DJ pl.isList ?_)
  refine#[s.heap.objs.size,[s.heap.objs.size,p],[s.heap.objs.size],a.toArray.size,15,λi=>ns.getD i 0,Z,Walks.list (A:=X.A.in1) (I.ok.hd hc) _ p (Js f) a.toArray,
   #[#[_,Jq _ Z,8],pl.isList.push _],λb d=>?_,val g,λj l=>m j (by simp at l;lia),λh' tk t' hk=>?_]
  ·have sz:(s.heap.push {cls:= .type "list_iterator",data:= .fields (List.toArray [.ref p,.int 0 0])}).objs.size=s.heap.objs.size+1:=J5 ..
   simp only[Jl,Jz,JA]at d
   show b<(Ψ.push s.heap _).objs.size
   rw[J5];rcases d with rfl|rfl
   ·exact C9 _
   ·exact DA f
  ·have F:preSum (λi=>ns.getD i 0) a.toArray.size=ns.sum:=by rw[Jr,<- c];exact J
   rw[F];refine#[.int _,H,I.kept (h':=h') (t':=tk) λb o q=>hk b o (λE=>?_) (Ji _ q),#[0],q]
   rw[Jn.mp E]at q;exact J9 _ (Jm q)
 ·let#[a,g,pl,y]:=I.tuple w
  have c:ns.length=a.length:=by have:=g.length;rwa [Jd]at this
  have D:s.heap.IsTuple p a.toArray:=pl
  have f:p<s.heap.objs.size:=by let#[_,e,_]:=D;exact Jm e
  refine call_sum_walk (Di D ?_)
  refine#[s.heap.objs.size,[s.heap.objs.size,p],[s.heap.objs.size],a.toArray.size,15,λi=>ns.getD i 0,Z,Walks.tuple (A:=X.A.in1) (I.ok.hd hc) _ p (Js f) a.toArray,
   #[#[_,Jq _ Z,8],let⟨o,e,r⟩:=D;#[o,Ji _ e,r]],λb d=>?_,val g,λj l=>m j (by simp at l;lia),λh' tk t' hk=>?_]
  ·simp only[Jl,Jz,JA]at d
   show b<(Ψ.push s.heap _).objs.size
   rw[J5];rcases d with rfl|rfl
   ·exact C9 _
   ·exact DA f
  ·have F:preSum (λi=>ns.getD i 0) a.toArray.size=ns.sum:=by rw[Jr,<- c];exact J
   rw[F];refine#[.int _,H,I.kept (h':=h') (t':=tk) λb o q=>hk b o (λE=>?_) (Ji _ q),#[0],q]
   rw[Jn.mp E]at q;exact J9 _ (Jm q)
end
end L3
namespace L3
open PySem PySem.Spec PyProof.Rows L2
section
variable{X:Cx}
theorem vw:uC X (λx y H Q=>∃(p:Δ) (xs:Β) (i:Nat) (v:V),x= .ref p/\y= .int (i:Int)/\H p=↑(.lst xs)/\xs[i]? =↑v/\Q v H):=by
 intro tx s σ H o i B n Q I d e h;let#[p,xs,j,v,rfl,rfl,l,a,q]:=h;cases d;let#[t,rfl]:=e;let#[c,r,pl,w]:=I.list (Fw.of l)
 let#[u,f,g]:=r.get a;have A:=r.length;have m:=ZA;have z:j<xs.length:=(Jp.mp a).1
 exact wpAny_getItem_list pl.isList (by lia) (by lia) (by simpa using f) #[v,H,I,g,q]
end
def Zp(z:Str):Prop:=(∀c∈z.cps.toList,97<=c/\c<=122)/\1<=z.cps.toList.length/\z.cps.toList.length<=8
theorem lm{z:Str}(h:Zp z):z.cps.all (· <128)=true:=by
 rw[Array.all_eq_true'];intro c a
 have:=h.1 c (by simpa using a)
 simp;lia
def vJ(c:Nat):Ζ:=[((c:Int)-97)%16,((c:Int)-97)/16]
def Q5(a:Ε):Ζ:=a.flatMap vJ
theorem sA(a:Ε)(c:Nat):Q5 (a++[c])=Q5 a++vJ c:=by simp [Q5]
theorem iZ(a:Ε):(Q5 a).length=2*a.length:=by
 induction a with
 |nil=>rfl
 |cons c r ih=>simp only[Q5,List.flatMap_cons,Jx,CP]at ih⊢;rw[ih];simp [vJ];lia
def hU(ds:Ζ)(j:Nat):Nat->Int
 |0=>0
 |n+1=>hU ds j n+if n%4=j then ds.getD n 0 else 0
def ZJ(ds:Ζ)(n:Nat):Ζ:=[hU ds 0 n,hU ds 1 n,hU ds 2 n,hU ds 3 n]
theorem tT(ds:Ζ)(n:Nat):(ZJ ds n).set (n%4) ((ZJ ds n).getD (n%4) 0+ds.getD n 0)=ZJ ds (n+1):=by
 have h:n%4=0\/n%4=1\/n%4=2\/n%4=3:=by lia
 rcases h with h|h|h|h<;>simp [ZJ,hU,h]
def a6(ds:Ζ):Ζ:=(ZJ ds ds.length).map (· %16)
theorem lD(ds:Ζ):(a6 ds).length=4:=Z
inductive Ic (vs:Β) (H:Hp) (Q:VK):Prop
 |mk (z:_) (h1:vs=[.str z]) (h2:Zp z) (h3:∀l H',Fp H H'->H l=none->H' l=↑(.lst ((Q5 z.cps.toList).map V.int))->Q (.ref l) H')
def iP:Sp:=λa H Q _=>Ic a H Q
inductive Lc (K:ι) (vs:Β) (H:Hp) (Q:VK):Prop
 |mk (a b:Δ) (z:Str) (t ks:Ζ) (h1:vs=[.ref a,.ref b,.str z]) (h2:Sq K H a (t.map V.int)) (h3:Sq K H b (ks.map V.int)) (h4:Zp z) (h5:t.length=16) (h6:∀p H',Fp H H'->H p=none->H' p=↑(.tup ((Qo t ks (a6 (Q5 z.cps.toList))).map V.int))->Q (.ref p) H')
def db(K:ι):Sp:=λa H Q _=>Lc K a H Q
theorem wT{a:Ε}{i c:Nat}(h:a[i]? =↑c):a.take (i+1)=a.take i++[c]:=by rw[J8,h];rfl
theorem oi{z:Str}{i c:Nat}(h:z.cps[i]? =↑c):z.cps.toList[i]? =↑c:=by simpa using h
theorem j7{X:Cx}{a:Scope}{y z:Str}{j k:Nat}(e:a.kind= .function)(d:∀x∈a.names,x.2= .local->a.names.lookup x.1=some .local)(c:∀x∈a.names,x.2≠ .cell)
  (f:∀x∈a.names,x.2= .free->x.1∈([y,z]:Α))(h1:X.N[j]? =↑y)(h2:X.env.kindOf y=some .cell)(n:(relabel a X.env).names.lookup y=some .cell)
  (l:X.N[k]? =↑z)(m:X.env.kindOf z=some .cell)(o:(relabel a X.env).names.lookup z=some .cell):F6 X a [y,z] [j,k]:=
 #[e,d,c,f,Z,λi p q g h=>by
  match i with
  |0=>cases g;cases h;exact#[h1,h2,n]
  |1=>cases g;cases h;exact#[l,m,o]
  |i+2=>simp at g]
theorem kx{X:Cx}{y z:Str}{c d:Δ}(h:X.env.cells.lookup y=↑c)(g:X.env.cells.lookup z=↑d):∀u e,([(y,c),(z,d)]:List (Str×Δ)).lookup u=↑e->X.env.cells.lookup u=↑e:=λu e a=>by
 by_cases f:u=y
 ·subst f
  simp at a
  rw[<- a];exact h
 ·by_cases i:u=z
  ·subst i
   simp [CW,show(u==y)=false from by simpa using f]at a
   rw[<- a];exact g
  ·simp [CW,show(u==y)=false from by simpa using f,show(u==z)=false from by simpa using i]at a
end L3
namespace L3
open PySem PySem.Spec PyProof.Rows L2
open Sem (wp)
section
variable{prog:Ξ}{w:Ω}{A:Around}{E:Fl}{s:Θ}
theorem gr{it t:Δ}{items:Array Γ}(h:t≠it):∀(n i:Nat) (s:Θ) (Q:Η->Θ->Prop),s.heap.IsListIter it t i->s.heap.IsList t items->i+n<=items.size->
  (∀h',h'.IsListIter it t (i+n)->Ψ.SameBut it s.heap h'->Q ((items.toList.drop i).take n) {s with heap:=h'})->ε (model prog w) A (draw (.ref it) n) Q E s
 |0,i,s,Q,hit,_,_,hQ=>by
  show ε _ _ (pure []) Q E s
  refine Jf ?_
  have:=hQ s.heap hit (Ψ.SameBut.refl ..)
  simpa using this
 |n+1,i,s,Q,hit,ht,hle,hQ=>by
  have j:i<items.size:=by lia
  show ε _ _ (pyNext (.ref it) >>= _) Q E s
  refine Ja (wpAny_pyNext_list_item hit ht (x:=items[i]) (by simp [j]) λl d a=>?_)
  have m:(Θ.heap {s with heap:=l}).IsList t items:=let⟨o,e,r⟩:=ht;#[o,a.extBut _ _ h e,r]
  refine Ja (JX (gr h n (i+1) _ _ d m (by lia) λg c f=>Jf ?_))
  have p:items.toList.drop i=items[i]::items.toList.drop (i+1):=by simp [List.drop_eq_getElem_cons,j]
  have z:=hQ g (by rw[show i+(n+1)=i+1+n by lia];exact c) (a.trans f)
  rw[p,List.take_succ_cons]at z;exact z
theorem kK{t:Δ}{items:Array Γ}{a:List (Bool×(Γ->Sem Unit))}{Q:Unit->Θ->Prop}(u:A.handled=none)(p:s.heap.IsList t items)
  (hn:a.length=items.size)(f:a.findIdx? (·.1)=none)
  (h:∀h',Ψ.ExtBut s.heap.objs.size s.heap h'->ε (model prog w) A (assignInOrder (a.map (·.2)) items.toList) Q E {s with heap:=h'}):
  ε (model prog w) A (unpack (.ref t) a) Q E s:=by
 have l:t≠s.heap.objs.size:=by let#[o,v,_]:=p;exact Js (Jm v)
 unfold unpack;rw[hn,f];refine Ja (JX ?_)
 unfold unpackItems;refine Ja ?_
 unfold notIterableAtAll;refine Ja (DD p.typeIs F.slot_list_iter.lookup ?_)
 refine Jf ?_
 simp only[Bool.false_eq_true,C5];refine Ja (JX (DJ p ?_))
 refine Ja (JX (gr l items.size 0 _ _ #[_,Jq _ Z,8] (p.push _) (by lia) λm d c=>?_))
 have n:List.take items.size (List.drop 0 items.toList)=items.toList:=by
  rw[List.drop_zero];exact CZ (by simp)
 rw[n];rw[Jc (by simp)]
 have g:m.IsList t items:=let⟨o,e,r⟩:=p.push _;#[o,c.extBut _ _ l e,r]
 refine Ja (JX (wpAny_pyNext_list_end u d g (by simp) λj i=>?_))
 simp only[Option.isSome_none,Bool.false_eq_true,C5];exact Jf (h j λb o q e=>i b o q (c.extBut b o q (Ji _ e)))
end
section
variable{X:Cx}{pos:Pos}
inductive L9 (K:ι) (n:Nat) (t:ZO) (v:V) (σ:L2.St) (H:Hp) (Q:L2.St->Hp->Prop):Prop
 |mk (a:_) (xs:_) (h1:v= .ref a) (h2:Sq K H a xs) (h3:xs.length=n) (h4:t xs σ H Q)
def Af(K:ι)(n:Nat)(t:ZO):TG:=λv σ H Q=>L9 K n t v σ H Q
theorem BO{es:Κ}{k:Nat}{t:ZO}{n:Nat}(hc:X.calm=true)(h:nu X es t)
  (hn:(assignEach es X.env).length=n:=by rfl)(hst:(assignEach es X.env).findIdx? (·.1)=none:=by rfl):PG X (.Tuple es k pos) (Af X.K n t):=by
 intro tx s σ H v u Q I r d;let#[a,xs,f,c,i,d]:=d;rcases c with c|c
 ·subst f
  cases r;let#[j,g,p,q]:=I.list c;rw[assign_Tuple];refine Ja (DI (kK (I.ok.hd hc) p.isList (by simp [hn,<- i,g.length]) hst λh' l=>?_))
  have m:L2.Fv X tx σ H {s with heap:=h'}:=I.kept (t':=s.toks) λb o e=>l b o (Js (Jm e)) e
  exact h tx _ σ H xs _ Q m (by simpa using g) d
 ·exact kZ hc h hn hst tx s σ H v u Q I r #[a,xs,f,c,i,d]
theorem ZK{es:Κ}{k:Nat}{t:ZO}{n:Nat}(hc:X.calm=true)(h:LU X es t)
  (hn:(assignEach es X.env).length=n:=by rfl)(hst:(assignEach es X.env).findIdx? (·.1)=none:=by rfl):QG X (.Tuple es k pos) (Af X.K n t):=#[BO hc h.h hn hst]
end
end L3
namespace L3
open PySem PySem.Spec PyProof.Rows L2
def zK(c d:Int):Ζ:=[c%16,c/16%16,c/256,d]
def Z0(c d:Int):Ζ:=zK c d++[(zK c d).sum%16]
def aS(t ks:Ζ)(z:Str):Ζ:=Qo t ks (a6 (Q5 z.cps.toList))
def Z1(t ks:Ζ)(z:Str)(c d:Int):Ζ:=Qo t (aS t ks z) (Z0 c d)
def gA(r:Ζ):Option (Int×Int):=if r.getD 4 0=(r.getD 0 0+r.getD 1 0+r.getD 2 0+r.getD 3 0)%16 then ↑(r.getD 0 0+r.getD 1 0*16+r.getD 2 0*256,r.getD 3 0)else none
def Qd(t ks:Ζ)(z:Str)(ds:Ζ):Option (Int×Int):=gA (Q9 (zC t) (aS t ks z) ds)
theorem bv(c d:Int):(Z0 c d).length=5:=Z
theorem mn(c d:Int):(zK c d).sum=c%16+c/16%16+c/256+d:=by simp [zK];lia
theorem fk{c d:Int}(e:0<=c)(h1:c<4096)(hd:aL d):zt (Z0 c d):=λx a=>by
 simp only[Z0,zK,Et,CV,Jl,Jz,JA]at a;rcases a with rfl|rfl|rfl|rfl|rfl
 ·exact QN _
 ·exact QN _
 ·exact#[by lia,by lia]
 ·exact hd
 ·exact QN _
theorem rE{c d:Int}(a:0<=c)(h1:c<4096):gA (Z0 c d)=↑(c,d):=by
 have e:(Z0 c d)=[c%16,c/16%16,c/256,d,(c%16+c/16%16+c/256+d)%16]:=by unfold Z0;rw[mn];rfl
 unfold gA;rw[e]
 show(if(c%16+c/16%16+c/256+d)%16=(c%16+c/16%16+c/256+d)%16 then ↑(c%16+c/16%16*16+c/256*256,d)else none)=_
 rw[Jb Z,show c%16+c/16%16*16+c/256*256=c by lia]
theorem xm{r:Ζ}(hl:r.length=5):∃a b c d e:Int,r=[a,b,c,d,e]:=by
 match r,hl with
 | [a,b,c,d,e],_=>exact#[a,b,c,d,e,Z]
theorem rp(t ks:Ζ)(z:Str)(c d:Int):(Z1 t ks z c d).length=5:=by unfold Z1;rw[aC,bv]
theorem uN{t ks:Ζ}(p:t.Perm F5){z:Str}{c d:Int}(a:0<=c)(h1:c<4096)(hd:aL d):zt (Z1 t ks z c d):=fF p (fk a h1 hd)
theorem cA{t ks:Ζ}(p:t.Perm F5){z:Str}{c d:Int}(a:0<=c)(h1:c<4096)(hd:aL d):Qd t ks z (Z1 t ks z c d)=↑(c,d):=by
 unfold Qd Z1;rw[fL p (fk a h1 hd) (by rw[bv];decide),rE a h1]
def cG(H:Hp)(x:V):Option (Int×Int)->Prop
 |none=>x= .non
 |some (c,d)=>∃p,x= .ref p/\H p=↑(.tup [.int c,.int d])
inductive Ma (vs:Β) (H:Hp) (Q:VK):Prop
 |mk (c:Int) (h1:vs=[.int c]) (h2:∀p H',Fp H H'->H' p=↑(.tup [.int (c%16),.int (c/16%16),.int (c/256)])->Q (.ref p) H')
def BL:Sp:=λa H Q _=>Ma a H Q
inductive Ld (K:ι) (vs:Β) (H:Hp) (Q:VK):Prop
 |mk (a b:Δ) (z:Str) (age c d:Int) (t ks:Ζ) (h1:vs=[.ref a,.ref b,.str z,.int age,.int c,.int d]) (h2:Sq K H a (t.map V.int)) (h3:Sq K H b (ks.map V.int)) (h4:Zp z) (h5:t.length=16) (h6:0<=c) (h7:c<4096) (h8:aL d) (h9:∀p pc H',Fp H H'->H' p=↑(.tup [.str z,.int age,.ref pc])->H' pc=↑(.tup ((Z1 t ks z c d).map V.int))->Q (.ref p) H')
def nI(K:ι):Sp:=λa H Q _=>Ld K a H Q
inductive LA (K:ι) (vs:Β) (H:Hp) (Q:VK):Prop
 |mk (a b pr pc:Δ) (z:Str) (age:Int) (t ks ds:Ζ) (h1:vs=[.ref a,.ref b,.ref pr]) (h2:Sq K H a (t.map V.int)) (h3:Sq K H b (ks.map V.int)) (h4:Sq K H pr [.str z,.int age,.ref pc]) (h5:Sq K H pc (ds.map V.int)) (h6:Zp z) (h7:t.Perm F5) (h8:ds.length=5) (h9:zt ds) (h10:∀x H',Fp H H'->cG H' x (Qd t ks z ds)->Q x H')
def jX(K:ι):Sp:=λa H Q _=>LA K a H Q
def aY(K:ι)(H:Hp)(a:Δ)(f:Str)(v:V):Prop:=∃C dx fs,H a=↑(.ins C dx fs)/\IB K C/\FS K C f/\fs.lookup f=↑v
def li(K:ι)(H:Hp)(a:Δ)(f:Str)(v:V)(H':Hp):Prop:=∃C dx fs,H a=↑(.ins C dx fs)/\IB K C/\FS K C f/\fs.length<1000/\H'=Ft H a (.ins C dx (Qr f v fs))
def Ce(C:Δ)(H:Hp)(a:Δ)(m:Str):Prop:=∃dx fs,H a=↑(.ins C dx fs)/\fs.lookup m=none
def wB(K:ι)(ta:TE)(f:Str):TE:=λσ H Q=>ta σ H λx H1=>∃a v,x= .ref a/\aY K H1 a f v/\Q v H1
def B2(K:ι)(ta tv:TE)(f:Str):TS:=λD σ H=>tv σ H λy H1=>ta σ H1 λx d=>∃a c,x= .ref a/\li K d a f y c/\D.nx σ c
def pY(C:Δ)(m:Str)(sp:Sp)(ta:TE)(t:TA):TE:=λσ H Q=>ta σ H λx H1=>∃a,x= .ref a/\Ce C H1 a m/\t σ H1 λd c=>sp (x::(d++[])) c Q E0
section
variable{X:Cx}{o e value:Φ}{f:Str}{pos pos':Pos}{ta tv:TE}
theorem zb(he:QE X e ta)(hb:attributeBase e f X.env (eval e X.env)=eval e X.env:=by rfl):QE X (.Attribute e f pos) (wB X.K ta f):=#[by
 intro tx s σ H Q I h;refine yN hb (qD (he.h tx s σ H _ I h) λu p d=>?_)
 let#[x,H1,o,m,a,v,ex,#[C,dx,fs,j,c,n,l],q]:=d;subst ex
 obtain rfl:u=Γ.ref a:=m
 exact pD o j c n l λr t g i=>#[v,H1,g,i,q]]
theorem zS(ha:QE X o ta)(hv:QE X value tv)(hs:swapsWith value ↑(.Attribute o f pos') pos.line X.env=pure false:=by rfl):QS X (.Assign [.Attribute o f pos'] value pos) (B2 X.K ta tv f):=#[by
 intro tx s σ H D I h;refine plainObj_wpAny_Assign_Attribute (qD (hv.h tx s σ H _ I h) λu g ⟨y,H1,v,t,q⟩=>qD (ha.h tx g σ H1 _ v q) λw A d=>?_) hs
 let#[x,B,j,p,a,z,ex,#[C,dx,fs,m,c,n,l,r],i]:=d;subst ex r
 obtain rfl:w=Γ.ref a:=p
 exact ou j m c n l t λE e=>#[σ,_,e,i]]
end
structure Mf(P:Ξ)(w:Ω)(K:ι)(mg:Fn)(base:Ψ)(C:Δ)(m:Str)(ps:Α)(k:Nat)(sp:Sp):Prop where
 ex:∃(f:Δ) (fd:FuncData),GN P w K mg base Z6 k f fd ps sp/\Lx K C m f/\Gp K fd ps []
structure HJ(K:ι)(C:Δ)(m Mu:Str)(st:δ)(ps:Α):Prop where
 ex:∃(f:Δ) (fd:FuncData),IC K m Mu st f fd/\Lx K C m f/\Gp K fd ps []
structure Mi(P:Ξ)(w:Ω)(K:ι)(mg:Fn)(base:Ψ)(C:Δ)(x:Str)(ps:Α)(k:Nat)(sp:Sp):Prop where
 ex:∃(f:Δ) (fd:FuncData),GN P w K mg base Z6 k f fd ps sp/\Mk K C f/\mg x=↑(.ref C)/\Gp K fd ps []
section
variable{P:Ξ}{w:Ω}{K:ι}{mg:Fn}{base:Ψ}{C:Δ}
theorem HJ.mq{m Mu:Str}{st:δ}{ps N:Α}{k:Nat}{sp:Sp}(a:HJ K C m Mu st ps)(S:Fq N ps (qj st))
  (d:∀(f:Δ) (cdv:Γ) (A:Around) (c:Ο) (s:Θ) (H:Hp) (vs:Β) (Q:VK) (E:XK),FJ k (A.deeper (envOfC Mu (qj st) s.heap.objs.size f cdv))->sp vs H Q E->
   ∃t,IX (aV Z6 P w K mg base N Mu (qj st) f cdv A c s H E).nox (zO st) t/\t {nx:=λ_ H'=>Q .non H',rt:=Q} (Q6 N vs) H)(e:∀vs H Q E,sp vs H Q E->vs.length=ps.length:=by intro vs H Q E h;first|(cases h;subst_vars;rfl)|((repeat first|let#[rfl,h]:=h|let#[_,h]:=h);all_goals rfl)):Mf P w K mg base C m ps (k+1) sp:=by
 let#[f,fd,F,m,bd]:=a.ex
 exact#[f,fd,F.ok S e (λcdv A c s H vs Q E g h=>let⟨t,q1,q2⟩:=d f cdv A c s H vs Q E g h;#[t,q1.h,q2]),m,bd]
theorem Mf.mi{x:Str}{ps:Α}{k:Nat}{sp:Sp}(a:Mf P w K mg base C "__init__" ps k sp)(c:W.makesIn K C=true)(d:W.keepIn K (.ref C)=true)(hx:mg x=↑(.ref C)):Mi P w K mg base C x ps k sp:=
 let⟨f,fd,F,m,bd⟩:=a.ex;#[f,fd,F,#[c,m.at_,m.fn,d],hx,bd]
end
section
variable{X:Cx}{C:Δ}{x m:Str}{ps:Α}{k:Nat}{sp:Sp}{o e:Φ}{es:Κ}{p pos apos:Pos}{ta:TE}{t:TA}
theorem zp{pl:Sem Bool}(M:Mf X.prog X.w X.K X.mg X.base C m ps k sp)(c:IB X.K C)(hr:FJ k X.A)(he:QE X o ta)(ha:QA X (e::es) t)
  (hst:θ (e::es) X.env=(false,eval e X.env)::θ es X.env:=by rfl)(hpl:(backTo pos (θ es X.env)).any (·.1)=false:=by rfl)
  (A:eval (.Call (.Attribute o m apos) (e::es) [] pos) X.env=(do
   let j <- eval o X.env
   standAt apos.atName
   let(f,first) <- holding [j] (getMethod j m pl)
   callWith pos f first (backTo pos (θ (e::es) X.env)) (backToKw pos (keywordEach [] X.env))):=by rfl):
  QE X (.Call (.Attribute o m apos) (e::es) [] pos) (pY C m sp ta t):=#[by
 let#[f,fd,F,g,z]:=M.ex;intro tx s σ H Q I h;refine W.methodCall_KW (pl:=pl) (qD (he.h tx s σ H _ I h) λu p n=>?_) A
 let#[x,H1,i,y,a,ex,#[dx,fs,w,l],q]:=n;subst ex
 obtain rfl:u=Γ.ref a:=y
 refine fT i w c g l ?_
 refine W.callWith_K (first:=[.ref a]) (h₀:=X.base) I.ok.mod.kin g.kp (qD (ha.h pos tx p σ H1 _ i q) λus B ⟨vs,D,d,r,v⟩=>#[d.kIn,?_]) hst hpl
 exact lp (us:= .ref a::us) (vs:= .ref a::vs) F hr z .nil jM d (.cons Z r) v]
theorem bV{pl:Sem Bool}(M:Mf X.prog X.w X.K X.mg X.base C m ps k sp)(c:IB X.K C)(hr:FJ k X.A)(he:QE X o ta)
  (r:eval (.Call (.Attribute o m apos) [] [] pos) X.env=(do
   let g <- eval o X.env
   standAt apos.atName
   let(f,first) <- holding [g] (getMethod g m pl)
   callWith pos f first (backTo pos (θ [] X.env)) (backToKw pos (keywordEach [] X.env))):=by rfl):
  QE X (.Call (.Attribute o m apos) [] [] pos) (pY C m sp ta vc):=#[by
 let#[f,fd,F,e,p]:=M.ex;intro tx s σ H Q I h;refine W.methodCall_KW (pl:=pl) (qD (he.h tx s σ H _ I h) λu t i=>?_) r
 let#[x,H1,d,n,a,ex,#[dx,fs,j,l],q]:=i;subst ex
 obtain rfl:u=Γ.ref a:=n
 refine fT d j c e l ?_
 exact W.callWith_K0 (first:=[.ref a]) d.kIn e.kp (lp (us:=[.ref a]) (vs:=[.ref a]) F hr p .nil jM d (.cons Z .nil) q)]
theorem xw(M:Mi X.prog X.w X.K X.mg X.base C x ps k sp)(hr:FJ (k+1) X.A)(ha:QA X (e::es) t)(hg:Gl X x:=by rfl)(hdb:(x==("__debug__":Str))=false:=by decide)
  (he:θ (e::es) X.env=(false,eval e X.env)::θ es X.env:=by rfl)(hpl:(backTo pos (θ es X.env)).any (·.1)=false:=by rfl):
  QE X (.Call (.Name x p) (e::es) [] pos) (vY C sp [] E0 t):=#[by
 let#[f,fd,F,a,c,d]:=M.ex;exact yz a F hr hg c d .nil jM ha.h hdb he hpl]
end
section
variable{X:Cx}{o e:Φ}{es:Κ}{to:TE}{t:TA}{name:Str}{apos cpos:Pos}{T id:String}{r:V->Β->Hp->VK->Prop}{K:ι}
theorem BE(i:X.K=K)(j:PlainAttrs T)(f:Slot T name id)(h:typeOf (.builtin id)=pure (.type "method_descriptor"))(hm:mW X id r)(ho:QE X o to)(ha:QA X (e::es) t)
  (d:attributeBase o name X.env (eval o X.env)=eval o X.env:=by rfl)
  (g:((backTo cpos (θ (e::es) X.env)).all (λx=> ! x.1)&&(backToKw cpos (keywordEach [] X.env)).all (λx=>x.1.isSome)
   &&decide ((e::es).length+([]:β).length+(if([]:β).isEmpty then 0 else 1)<30))=true:=by rfl)
  (c:(apos.endLine==cpos.line)=true:=by rfl)(hs:θ (e::es) X.env=(false,eval e X.env)::θ es X.env:=by rfl)(a:(backTo cpos (θ es X.env)).any (·.1)=false:=by rfl):
  QE X (.Call (.Attribute o name apos) (e::es) [] cpos) (Al K T r to t):=by
 subst i;exact QB j f h hm ho ha d g c hs a
theorem uV:mW X "list.pop" pW:=uB
end
theorem iT{f:Str}{v:V}:∀{fs:List (Str×V)} (i:Nat),fs[i]? =↑(f,v)->(fs.map (·.1)).Nodup->fs.lookup f=↑v
 | [],i,h,_=>by cases h
 |(g,x)::r,0,h,_=>by
  cases Jt h
  exact List.lookup_cons_self
 |(g,x)::r,i+1,h,nd=>by
  have h':r[i]? =↑(f,v):=h
  have a:g∉r.map (·.1)/\(r.map (·.1)).Nodup:=C4.mp nd
  have d:f∈r.map (·.1):=Jv.mpr #[(f,v),JG h',Z]
  have c:f≠g:=λz=>a.1 (z▸d)
  rw[CW,DT c];exact iT i h' a.2
theorem i8{f:Str}:∀{fs:List (Str×V)},f∉fs.map (·.1)->fs.lookup f=none
 | [],_=>rfl
 |(g,x)::r,h=>by
  have a:f≠g:=λz=>h (z▸JJ ..)
  rw[CW,DT a];exact i8 λz=>h (JF _ z)
theorem nW{f:Str}{v u:V}:∀{fs:List (Str×V)} (i:Nat),fs[i]? =↑(f,u)->(fs.map (·.1)).Nodup->Qr f v fs=fs.set i (f,v)
 | [],i,h,_=>by cases h
 |(g,x)::r,0,h,_=>by
  cases Jt h
  show(if f=f then _ else _)=_
  rw[Jb Z];rfl
 |(g,x)::r,i+1,h,nd=>by
  have h':r[i]? =↑(f,u):=h
  have a:g∉r.map (·.1)/\(r.map (·.1)).Nodup:=C4.mp nd
  have d:f∈r.map (·.1):=Jv.mpr #[(f,u),JG h',Z]
  have c:¬g=f:=λz=>a.1 (z▸d)
  show(if g=f then _ else(g,x)::Qr f v r)=_
  rw[Jc c,nW i h' a.2];rfl
theorem lF{f:Str}{v:V}:∀{fs:List (Str×V)},f∉fs.map (·.1)->Qr f v fs=fs++[(f,v)]
 | [],_=>rfl
 |(g,x)::r,h=>by
  have a:¬g=f:=λz=>h (z▸JJ ..)
  show(if g=f then _ else(g,x)::Qr f v r)=_
  rw[Jc a,lF λz=>h (JF _ z)];rfl
def Mv(S:Ι)(H H':Hp):Prop:=∀c o,c∉S->H c=↑o->H' c=↑o
theorem Mv.refl{S:Ι}{H:Hp}:Mv S H H:=λ_ _ _ e=>e
theorem Mv.trans{S:Ι}{H H1 d:Hp}(a:Mv S H H1)(b:Mv S H1 d):Mv S H d:=λc o n e=>b c o n (a c o n e)
theorem Mv.mono{S d:Ι}{H H':Hp}(a:Mv S H H')(h:∀c,c∉d->c∉S):Mv d H H':=λc o n e=>a c o (h c n) e
theorem _root_.L2.Fp.mv{S:Ι}{H H':Hp}(a:Fp H H'):Mv S H H':=λc o _ e=>a c o e
theorem Mv.upd1{a:Δ}{H:Hp}{o:HO}:Mv [a] H (Ft H a o):=λc u n e=>by
 rw[qi (λz=>n (Jn.mpr z))];exact e
theorem FY.mv{b:Δ}{n:Nat}{H H':Hp}(g:FY b n H H'):Mv [b] H H':=λc o h e=>g.kp c o (λz=>h (Jn.mpr z)) e
def vN:HO->Prop
 | .tup _=>False
 | .frz _ (.dK _)=>True
 | .frz _ _=>False
 |_=>True
def NT(S:Ι)(H:Hp):Prop:=∀c,c∈S->∃o,H c=↑o/\vN o
theorem Mv.rd{S:Ι}{H H':Hp}{a:Δ}{xs:Β}(m:Mv S H H')(n:NT S H)(h:Rd H a (.tup xs)):Rd H' a (.tup xs):=by
 have c:a∉S:=λz=>by
  let#[o,e,no]:=n a z;rcases h with h|⟨o',h⟩
  ·rw[e]at h;cases h;exact no
  ·rw[e]at h;cases h;exact no
 rcases h with h|⟨o',h⟩
 ·exact .inl (m _ _ c h)
 ·exact .inr #[o',m _ _ c h]
theorem Mv.sqt{K:ι}{S:Ι}{H H':Hp}{a:Δ}{xs:Β}(m:Mv S H H')(n:NT S H)(h:FC K H a xs):FC K H' a xs:=by
 rcases h with h|h
 ·exact .inl (m.rd n h)
 ·exact .inr h
inductive IF (vs:Β) (H:Hp) (Q:VK):Prop
 |mk (b:Δ) (c:Nat) (h1:vs=[.ref b]) (h2:F2 H b c) (h3:c<100000000) (h4:∀p (t:Ζ) H',FY b (c+16) H H'->H p=none->H' p=↑(.tup (t.map V.int))->t.Perm F5->Q (.ref p) H')
def kD:Sp:=λa H Q _=>IF a H Q
theorem FY.fresh{b c:Δ}{n:Nat}{H H':Hp}(g:FY b n H H')(hb:F2 H b n)(h:H' c=Option.none):H c=Option.none:=by
 cases e:H c with
 |none=>rfl
 |some o=>
  by_cases z:c=b
  ·subst z
   let#[_,_,_,a,_]:=g.bx;rw[a]at h;cases h
  ·rw[g.kp c o z e]at h;cases h
theorem uX{K:ι}{H:Hp}{a:Δ}{xs:Β}{Q:VK}(h:Sq K H a xs)(q:∀l H',Fp H H'->FC K H' l xs->Q (.ref l) H'):(Fw K H a xs/\∀l,H l=none->Q (.ref l) (Ft H l (.tup xs)))\/(FC K H a xs/\Q (.ref a) H):=
 h.elim (λh=> .inl #[h,λl c=>q l _ (Fp.upd c) (FC.of qc)]) λh=> .inr #[h,q a H (Fp.refl _) h]
theorem cR{K:ι}{C p dx a:Δ}{H:Hp}{fs:List (Str×V)}{xs:Β}{o:HO}(e:H p=↑(.ins C dx fs))(h:FC K H a xs):FC K (Ft H p o) a xs:=by
 rcases h with(h|⟨u,h⟩)|h
 ·exact .inl (.inl (by rw[qi (qC h e (by intro z;cases z))];exact h))
 ·exact .inl (.inr #[u,by rw[qi (qC h e (by intro z;cases z))];exact h])
 ·exact .inr h
theorem bY{X:Cx}{K:ι}(a:X.K=K):zi X (.builtin "len") (λxs H Q=>∃p ys,xs=[.ref p]/\(Fw K H p ys\/FC K H p ys)/\Q (.int (ys.length:Nat)) H):=by
 subst a;exact qL
theorem lP{k n:Nat}(h:k<n):seqIndex? (k:Int) n=↑k:=by
 unfold seqIndex?
 simp
 omega
theorem eU{X:Cx}:zi X (.type "tuple") (λxs H Q=>∃p ys,xs=[.ref p]/\Sq X.K H p ys/\∀l H',Fp H H'->FC X.K H' l ys->Q (.ref l) H'):=by
 intro tx s σ H xs a Q I r h;let#[p,ys,e,hs,q]:=h;exact qY tx s σ H xs a Q I r #[p,ys,e,uX hs q]
theorem Bl{xs ys:Β}(i:Nat){x y:V}(hx:xs[i]? =↑x)(a:ys[i]? =↑y)(h:x≠y):HO.lst xs≠HO.lst ys:=λz=>by
 injection z with z
 rw[z,a]at hx;exact h (Jt hx).symm
theorem wK{d:Type}{c:List d}{f:d->Δ}{ys:Β}(i:Nat){y:V}(g:ys[i]? =↑y)(h:∀a,y≠ .ref a):HO.lst (c.map λo=>V.ref (f o))≠HO.lst ys:=λz=>by
 injection z with z
 have e:=JH (λl=>l[i]?) z
 simp only[Jk,g]at e;cases q:c[i]? with
 |none=>rw[q]at e;cases e
 |some a=>rw[q]at e;exact h _ (Jt e).symm
section
variable{H:Hp}{b:Δ}{n:Nat}
theorem qE{a x:Δ}(h:a≠x):a∉[x]:=λz=>h (Jn.mp z)
theorem Qe(hb:F2 H b n):NT [b] H:=λc a=>by
 let#[_,_,_,e,_]:=hb;rw[Jn.mp a]
 exact#[_,e,trivial]
end
theorem B3(n:Nat)(h:n<=100:=by omega):n<ζ:=Nat.lt_of_le_of_lt h ⋯
theorem oE{a x y:Δ}(h:a≠x)(g:a≠y):a∉[x,y]:=λz=>by
 simp only[Jl,Jz,JA]at z;exact z.elim h g
theorem NT.one{H:Hp}{a:Δ}{o:HO}(e:H a=↑o)(n:vN o):NT [a] H:=λc d=>#[o,by rw[Jn.mp d];exact e,n]
end L3
namespace L2
open PySem PySem.Spec PyProof.Rows
section
variable{κ:Type} [DecidableEq κ]
def zR(kvs:List (κ×V))(k:κ):Μ:=(kvs.find? λa=>decide (a.1=k)).map (·.2)
def FZ(kvs:List (κ×V))(k:κ)(v:V):List (κ×V):=
 if(kvs.any λa=>decide (a.1=k))=true then kvs.map (λa=>if a.1=k then(a.1,v)else a)else kvs++[(k,v)]
theorem zN{p:κ×V}{r:List (κ×V)}{k:κ}(e:p.1=k):zR (p::r) k=↑p.2:=by simp [zR,J1,e]
theorem zM{p:κ×V}{r:List (κ×V)}{k:κ}(e:¬p.1=k):zR (p::r) k=zR r k:=by simp [zR,J1,e]
theorem bS(k:κ):∀kvs:List (κ×V),(kvs.any λa=>decide (a.1=k))=(zR kvs k).isSome
 | []=>rfl
 |p::r=>by
  rw[Dx]
  by_cases e:p.1=k
  ·simp only[zN e,Jh e,Bool.true_or,Option.isSome_some]
  ·rw[zM e,Jj e,Bool.false_or];exact bS k r
theorem ky(k j:κ)(y:V):∀kvs:List (κ×V),zR (kvs.map λa=>if a.1=k then(a.1,y)else a) j=(zR kvs j).map λx=>if j=k then y else x
 | []=>rfl
 |p::r=>by
  have c:=ky k j y r;rw[JL]
  by_cases h:p.1=k
  ·rw[Jb h]
   by_cases e:p.1=j
   ·rw[zN (p:=(p.1,y)) e,zN e,Option.map_some,Jb (e.symm.trans h)]
   ·rw[zM (p:=(p.1,y)) e,zM e,c]
  ·rw[Jc h]
   by_cases e:p.1=j
   ·rw[zN (p:=p) e,zN e,Option.map_some,Jc (λz=>h (e.trans z))]
   ·rw[zM (p:=p) e,zM e,c]
theorem ji(k j:κ)(y:V):∀kvs:List (κ×V),zR kvs k=none->zR (kvs++[(k,y)]) j=if j=k then ↑y else zR kvs j
 | [],_=>by
  by_cases e:k=j
  ·rw[Jb e.symm];exact zN (p:=(k,y)) e
  ·rw[Jc (λz=>e z.symm)];exact zM (p:=(k,y)) e
 |p::r,hn=>by
  rw[Et];have hk:¬p.1=k:=λz=>by rw[zN z]at hn;cases hn
  rw[zM hk]at hn;have a:=ji k j y r hn
  by_cases e:p.1=j
  ·rw[zN e,zN e,Jc (λz=>hk (e.trans z))]
  ·rw[zM e,zM e,a]
theorem lT(kvs:List (κ×V))(k j:κ)(y:V):zR (FZ kvs k y) j=if j=k then ↑y else zR kvs j:=by
 unfold FZ
 by_cases a:(kvs.any λc=>decide (c.1=k))=true
 ·rw[Jb a,ky]
  rw[bS]at a
  by_cases e:j=k
  ·let#[x,d]:=DK.mp a
   rw[Jb e,e,d,Option.map_some,Jb Z]
  ·rw[Jc e]
   cases zR kvs j with
   |none=>rfl
   |some x=>rw[Option.map_some,Jc e]
 ·rw[Jc a]
  refine ji k j y kvs ?_
  rw[bS]at a;cases q:zR kvs k with
  |none=>rfl
  |some x=>rw[q]at a;exact(a Z).elim
theorem aX(kvs:List (κ×V))(k:κ)(v:V):(FZ kvs k v).length<=kvs.length+1:=by
 unfold FZ;split
 ·rw[Jd];lia
 ·rw[Jx,CP,List.length_nil];lia
theorem Gu.isSome_eq{o:Μ}{u:Ν}(r:Gu o u):o.isSome=u.isSome:=by
 cases o with
 |none=>cases u with
  |none=>rfl
  |some _=>exact(show False from r).elim
 |some _=>cases u with
  |none=>exact(show False from r).elim
  |some _=>rfl
theorem Gu.getD{o:Μ}{u:Ν}{d:V}{d':Γ}(r:Gu o u)(rd:Fx d d'):Fx (o.getD d) (u.getD d'):=by
 cases o with
 |none=>cases u with
  |none=>exact rd
  |some _=>exact(show False from r).elim
 |some _=>cases u with
  |none=>exact(show False from r).elim
  |some _=>exact r
theorem KV.val{kvs:List (κ×V)}{vs:List (κ×Γ)}(r:KV kvs vs)(k:κ):Gu (zR kvs k) (valueAt vs k):=by
 unfold KV at r
 induction r with
 |nil=>exact True.intro
 | @cons p q ps qs h t ih=>
  let#[h1,c]:=h
  by_cases e:p.1=k
  ·have a:q.1=k:=h1.symm.trans e
   have b:valueAt (q::qs) k=↑q.2:=by simp [valueAt,J1,a]
   rw[zN e,b];exact c
  ·have a:¬q.1=k:=λz=>e (h1.trans z)
   have b:valueAt (q::qs) k=valueAt qs k:=by simp [valueAt,J1,a]
   rw[zM e,b];exact ih
theorem KV.any{kvs:List (κ×V)}{vs:List (κ×Γ)}(r:KV kvs vs)(k:κ):(kvs.any λa=>decide (a.1=k))=vs.any λa=>decide (a.1=k):=by
 unfold KV at r
 induction r with
 |nil=>rfl
 |cons h t ih=>rw[Dx,Dx,ih,h.1]
theorem KV.repl{kvs:List (κ×V)}{vs:List (κ×Γ)}(r:KV kvs vs)(k:κ){y:V}{u:Γ}(d:Fx y u):
  KV (kvs.map λa=>if a.1=k then(a.1,y)else a) (vs.map λa=>if a.1=k then(a.1,u)else a):=by
 unfold KV at r⊢
 induction r with
 |nil=>exact .nil
 | @cons p q ps qs h t ih=>
  rw[JL,JL];refine .cons ?_ ih
  let#[h1,c]:=h
  by_cases e:p.1=k
  ·rw[Jb e,Jb (h1.symm.trans e)];exact#[h1,d]
  ·rw[Jc e,Jc (λz=>e (h1.trans z))];exact#[h1,c]
theorem KV.put{kvs:List (κ×V)}{vs:List (κ×Γ)}(r:KV kvs vs)(k:κ){y:V}{u:Γ}(a:Fx y u):KV (FZ kvs k y) (stored vs k u):=by
 unfold FZ stored;rw[r.any k]
 by_cases e:(vs.any λc=>decide (c.1=k))=true
 ·rw[Jb e,Jb e];exact r.repl k a
 ·rw[Jc e,Jc e];exact Paired.snoc r #[Z,a]
theorem KV.keys{kvs:List (κ×V)}{vs:List (κ×Γ)}(r:KV kvs vs):kvs.map (·.1)=vs.map (·.1):=by
 unfold KV at r
 induction r with
 |nil=>rfl
 |cons h t ih=>rw[JL,JL,ih,h.1]
theorem KV.length{kvs:List (κ×V)}{vs:List (κ×Γ)}(r:KV kvs vs):kvs.length=vs.length:=DV r
end
theorem aH{P:Ξ}{w:Ω}{k:qz}{u:Γ}(r:Fx (kV k) u):(qQ P w).is k u=true:=by
 cases k with
 |inl i=>let#[t,e]:=(show∃t,u=Γ.int i t from r);subst e;exact mT P w i t
 |inr x=>let#[t,e]:=(show∃t,u=Γ.str x t from r);subst e;exact mU P w x t
theorem iO{P:Ξ}{w:Ω}:∀{ks:List qz} {us:Η},Fy (ks.map kV) us->ItemsAre (qQ P w) ks us
 | [],_,r=>by rw[Ek]at r;cases r;exact .nil
 |k::ks,_,r=>by
  rw[JL]at r;cases r with
  |cons h t=>exact .cons (aH h) (iO t)
abbrev KT(H:Hp):List (List qz×V)->List (List qz×Δ×Γ)->Prop:=Paired λp q=>p.1=q.1/\H q.2.1=↑(.tup (p.1.map kV))/\Fx p.2 q.2.2
theorem KT.val{H:Hp}{kvs:List (List qz×V)}{xs:List (List qz×Δ×Γ)}(r:KT H kvs xs)(k:List qz):Gu (zR kvs k) ((atKey xs k).map (·.2)):=by
 induction r with
 |nil=>exact True.intro
 | @cons p q ps qs h t ih=>
  let#[h1,_,c]:=h
  by_cases e:p.1=k
  ·have a:q.1=k:=h1.symm.trans e
   have b:atKey (q::qs) k=↑q.2:=by simp [atKey,J1,a]
   rw[zN e,b];exact c
  ·have a:¬q.1=k:=λz=>e (h1.trans z)
   have b:atKey (q::qs) k=atKey qs k:=by simp [atKey,J1,a]
   rw[zM e,b];exact ih
theorem KT.repl{H:Hp}{kvs:List (List qz×V)}{xs:List (List qz×Δ×Γ)}(r:KT H kvs xs)(k:List qz){y:V}{u:Γ}(d:Fx y u):
  KT H (kvs.map λa=>if a.1=k then(a.1,y)else a) (xs.map (putAt k u)):=by
 induction r with
 |nil=>exact .nil
 | @cons p q ps qs h t ih=>
  rw[JL,JL];refine .cons ?_ ih
  let#[h1,c,f]:=h;unfold putAt
  by_cases e:p.1=k
  ·rw[Jb e,Jb (h1.symm.trans e)];exact#[h1,c,d]
  ·rw[Jc e,Jc (λz=>e (h1.trans z))];exact#[h1,c,f]
theorem KT.put{H:Hp}{kvs:List (List qz×V)}{xs:List (List qz×Δ×Γ)}(r:KT H kvs xs)(k:List qz){b:Δ}{y:V}{u:Γ}(hb:H b=↑(.tup (k.map kV)))(a:Fx y u):
  KT H (FZ kvs k y) (storedH xs k b u):=by
 have e:(kvs.any λc=>decide (c.1=k))=(atKey xs k).isSome:=by
  rw[bS,(r.val k).isSome_eq,DU]
 unfold FZ storedH;rw[e]
 by_cases q:(atKey xs k).isSome=true
 ·rw[Jb q,Jb q];exact r.repl k a
 ·rw[Jc q,Jc q];exact Paired.snoc r #[Z,hb,a]
theorem KT.keeps{H H':Hp}{kvs:List (List qz×V)}{xs:List (List qz×Δ×Γ)}(r:KT H kvs xs)(a:∀b ys,H b=↑(.tup ys)->H' b=↑(.tup ys)):KT H' kvs xs:=
 Paired.mapP r λ_ _ z=>#[z.1,a _ _ z.2.1,z.2.2]
section
variable{P:Ξ}{w:Ω}{H:Hp}{h:Ψ}{a:Δ}
theorem wv{u:HO}(ok:GM P w H h)(e:Rd H a u):FE P w H h a u:=e.ok ok
theorem aK{kvs:List (qz×V)}(ok:GM P w H h)(e:Rd H a (.dK kvs)):kvs.length<=ζ/\(a==sysModules)=false/\∃c,KV kvs c/\h.DictOf (qQ P w) a c:=
 show FE P w H h a (.dK kvs)from wv ok e
theorem jQ{kvs:List (qz×V)}(ok:GM P w H h)(e:H a=↑(.dK kvs)):kvs.length<=ζ/\(a==sysModules)=false/\∃c,KV kvs c/\h.DictOf (qQ P w) a c:=aK ok (.inl e)
theorem bq{ks:List qz}(ok:GM P w H h)(e:H a=↑(.tup (ks.map kV))):(tupleKind (qQ P w)).is h ks a:=by
 let#[_,c,r,o,h1,d,n,f]:=(show FE P w H h a (.tup (ks.map kV))from ok a _ e)
 exact#[o,c.toArray,n,h1,d,f,by simpa using iO r]
theorem bO{kvs:List (List qz×V)}(ok:GM P w H h)(e:Rd H a (.dT kvs)):kvs.length<=ζ/\(a==sysModules)=false/\
  ∃xs,KT H kvs xs/\h.DictOfH (tupleKind (qQ P w)) a xs:=by
 let#[z,y,xs,r,o,es,d,h1,g,f,i,j]:=(show FE P w H h a (.dT kvs)from wv ok e)
 refine#[z,y,xs,r,o,es,d,h1,g,f,i,λx c=>?_,j]
 have all:∀{l:List (List qz×V)} {m:List (List qz×Δ×Γ)},KT H l m->∀x∈m,(tupleKind (qQ P w)).is h x.1 x.2.1:=by
  intro l m q
  induction q with
  |nil=>intro x c;exact nomatch c
  | @cons p q ps qs hq t ih=>
   intro x c;rcases Jl.mp c with e|c
   ·subst e
    exact bq ok (by rw[<- hq.1];exact hq.2.1)
   ·exact ih x c
 exact all r x c
theorem BZ{kvs:List (List qz×V)}(ok:GM P w H h)(e:H a=↑(.dT kvs)):kvs.length<=ζ/\(a==sysModules)=false/\
  ∃xs,KT H kvs xs/\h.DictOfH (tupleKind (qQ P w)) a xs:=bO ok (.inl e)
end
def FW(H:Hp)(a:Δ)(y:V)(r:Μ):Prop:=
 (∃kvs k,Rd H a (.dK kvs)/\y=kV k/\r=zR kvs k)\/∃kvs k b,Rd H a (.dT kvs)/\y= .ref b/\H b=↑(.tup (k.map kV))/\r=zR kvs k
def GL(H:Hp)(a:Δ)(y v:V)(H':Hp):Prop:=
 (∃kvs k,H a=↑(.dK kvs)/\y=kV k/\kvs.length<ζ/\H'=Ft H a (.dK (FZ kvs k v)))\/
 ∃kvs k b,H a=↑(.dT kvs)/\y= .ref b/\H b=↑(.tup (k.map kV))/\kvs.length<ζ/\H'=Ft H a (.dT (FZ kvs k v))
theorem FW.k{H:Hp}{a:Δ}{kvs:List (qz×V)}{k:qz}(e:H a=↑(.dK kvs)):FW H a (kV k) (zR kvs k):= .inl #[kvs,k,.inl e,8]
theorem GL.k{H:Hp}{a:Δ}{kvs:List (qz×V)}{k:qz}{v:V}(e:H a=↑(.dK kvs))(hl:kvs.length<ζ):GL H a (kV k) v (Ft H a (.dK (FZ kvs k v))):= .inl #[kvs,k,e,Z,hl,Z]
section
variable{X:Cx}{tx:Fo}{σ:St}{H:Hp}{s:Θ}{a:Δ}{y v:V}{u r:Γ}{o:Μ}{A:Around}{E:Fl}
theorem Fv.big(I:Fv X tx σ H s):sysModules<s.heap.objs.size:=by
 have h:η<s.heap.objs.size:=(I.mod.glob.keeps I.bk).lt
 exact Nat.lt_trans ⋯ h
theorem sN{Q:Fl}(hu:A.units+1<cLine)(I:Fv X tx σ H s)(g:FW H a y ↑v)(q:Fx y u)(h:∀f s',Fv X tx σ H s'->Fx v f->Q f s'):
  ε (model X.prog X.w) A (getItem (.ref a) u) Q E s:=by
 rcases g with⟨kvs,k,e,m,l⟩|⟨kvs,k,b,e,m,w,l⟩
 ·subst m
  let#[z,r,x,c,n]:=aK I.hok e;let#[f,i,d]:=Gu.some_of (v:=v) (o:=valueAt x k) (by rw[l];exact c.val k)
  exact wpAny_getItem_of (aH q) n.mapOf i (h f _ (I.tok _) d)
 ·subst m
  cases(show u=Γ.ref b from q)
  let#[z,r,xs,c,n]:=bO I.hok e;let#[f,i,d]:=Gu.some_of (v:=v) (o:=(atKey xs k).map (·.2)) (by rw[l];exact c.val k)
  let#[p,t,j]:=C8.mp i;refine wpAny_getItem_heap (Eb hu) (bq I.hok w) n t ?_
  rw[j];exact h f _ (I.tok _) d
theorem Cu{Q:Fl}(hu:A.units+1<cLine)(I:Fv X tx σ H s)(g:FW H a y o)(j:Fx y u)(h:∀s',Fv X tx σ H s'->Q (.bool o.isSome) s'):
  ε (model X.prog X.w) A (compareOp .In u (.ref a)) Q E s:=by
 rcases g with⟨kvs,k,e,f,l⟩|⟨kvs,k,b,e,f,m,l⟩
 ·subst f
  let#[z,d,n,c,i]:=aK I.hok e;refine wpAny_in_of (aH j) d i.mapOf ?_
  rw[<- (c.val k).isSome_eq,<- l];exact h _ (I.tok _)
 ·subst f
  cases(show u=Γ.ref b from j)
  let#[z,d,xs,c,i]:=bO I.hok e;refine wpAny_in_heap (Eb hu) (bq I.hok m) d i ?_
  have q:=(c.val k).isSome_eq;rw[DU]at q;rw[<- q,<- l];exact h _ (I.tok _)
theorem xv{Q:Fl}(hu:A.units+1<cLine)(I:Fv X tx σ H s)(g:FW H a y o)(j:Fx y u)(h:∀s',Fv X tx σ H s'->Q (.bool (! o.isSome)) s'):
  ε (model X.prog X.w) A (compareOp .NotIn u (.ref a)) Q E s:=by
 rcases g with⟨kvs,k,e,f,l⟩|⟨kvs,k,b,e,f,m,l⟩
 ·subst f
  let#[z,d,n,c,i]:=aK I.hok e;refine wpAny_notIn_of (aH j) d i.mapOf ?_
  rw[<- (c.val k).isSome_eq,<- l];exact h _ (I.tok _)
 ·subst f
  cases(show u=Γ.ref b from j)
  let#[z,d,xs,c,i]:=bO I.hok e;refine wpAny_notIn_heap (Eb hu) (bq I.hok m) d i ?_
  have q:=(c.val k).isSome_eq;rw[DU]at q;rw[<- q,<- l];exact h _ (I.tok _)
theorem cX{h':Ψ}{t':Nat}{ob:HO}(I:Fv X tx σ H s)(c:rM (H a))(hs:Ψ.SameBut a s.heap h')(he:∃q,h'.get? a=↑q)(new:FE X.prog X.w (Ft H a ob) h' a ob):
  Fv X tx σ (Ft H a ob) {s with heap:=h',toks:=t'}:=
 I.write (x:=a) (e:=a) c (.inl Z) (λb q d z=>(hs.2 b d).trans z) he new
theorem kA{P:Ξ}{w:Ω}{H':Hp}{h':Ψ}{kvs:List (qz×V)}{vs:List (qz×Γ)}(z:kvs.length<=ζ)(hd:(a==sysModules)=false)(c:KV kvs vs)(d:h'.DictOf (qQ P w) a vs):
  FE P w H' h' a (.dK kvs):=#[z,hd,vs,c,d]
theorem sQ{H':Hp}{Q:Unit->Θ->Prop}(hu:A.units+1<cLine)(I:Fv X tx σ H s)(g:GL H a y v H')(C:Fx y u)(w:Fx v r)(h:∀s',Fv X tx σ H' s'->Q () s'):
  ε (model X.prog X.w) A (setItem (.ref a) u r) Q E s:=by
 rcases g with⟨kvs,k,e,m,l,j⟩|⟨kvs,k,b,e,m,x,l,j⟩
 ·subst m j
  let#[z,p,G,d,o]:=jQ I.hok e;have t:G.length<=ζ:=by rw[<- d.length];exact z
  have n:(FZ kvs k v).length<=ζ:=by have:=aX kvs k v;lia
  refine wpAny_setItem_pairs (hsz:=t) (aH C) o λh' f hs=>h _ ?_
  have K:∃q,h'.get? a=↑q:=let⟨q,_,_,i,_⟩:=f;#[q,i]
  exact cX I (by rw[e];exact True.intro) hs K (kA n p (d.put k w) f)
 ·subst m j
  cases(show u=Γ.ref b from C)
  let#[z,p,xs,d,o]:=BZ I.hok e;have t:xs.length<=ζ:=by rw[<- DV d];exact z
  have n:(FZ kvs k v).length<=ζ:=by have:=aX kvs k v;lia
  refine wpAny_setItem_heap (hsz:=t) (Eb hu) (bq I.hok x) o λh' f hs=>h _ ?_
  let#[q,es,L,i,F,J,D,_,M]:=f;refine cX I (by rw[e];exact True.intro) hs #[q,i] #[n,p,_,(d.put k x w).keeps λc ys B=>?_,q,es,L,i,F,J,D,M]
  rw[qi (qC B e (λz=>nomatch z))]
  exact B
end
section
variable{X:Cx}{tx:Fo}{σ:St}{H:Hp}{s:Θ}{a:Δ}{kvs:List (qz×V)}{A:Around}{E:Fl}
theorem BR{Q:Fl}(I:Fv X tx σ H s)(e:Rd H a (.dK kvs))(h:∀t s',Fv X tx σ H s'->Q (.int kvs.length t) s'):ε (model X.prog X.w) A (call (.builtin "len") [.ref a]) Q E s:=by
 let#[z,d,g,c,f]:=aK I.hok e;refine call_len_dict d f (by rw[<- c.length];rw[Jo]at z;lia) ?_
 rw[<- c.length];exact h _ _ (I.tok _)
end
def tW(i:Φ):Prop:=∀c a,subscripted i false c a=operate [c,a] (getItem c a)
theorem yS{prog:Ξ}{w:Ω}{A:Around}{E:Fl}{s:Θ}{g:Env}{value a:Φ}{pos:Pos}{T id:String}{Q:Fl}
  (hl:typeLookup (.type T) "__getitem__"=pure ↑(.builtin id))(hs:tW a)
  (h:ε (model prog w) A (eval value g) (λo e=>ε (model prog w) A (eval a g) (λi c=>c.TypeIs o T/\ε (model prog w) A (getItem o i) Q E c) E e) E s):
  ε (model prog w) A (eval (.Subscript value a pos) g) Q E s:=by
 refine Subscript_ (JT h (λo e l=>JT l (λi c d=>?_) λ_ _ x=>x) λ_ _ x=>x)
 let#[n,d]:=d;unfold subscriptTail;refine Ja ?_
 rw[getitemInPython_of_ne n.not_modules];refine Ja (DD n hl ?_)
 have j:ε (model prog w) A (subscripted a false o i) (λr f=>ε (model prog w) A (letTemporaryGo value o r >>= λ_=>pure r) Q E f) E c:=by
  rw[hs o i];exact wpAny_operating (JT d (λr f m=>Ja (wpAny_letTemporaryGo (Jf m))) λ_ _ x=>x)
 first
  |exact Jf (Ja j)
  |exact Ja (Jf (Ja j))
  |exact Ja j
theorem mR{X:Cx}{tx:Fo}{σ:St}{H:Hp}{s:Θ}{a:Δ}{y:V}{o:Μ}(I:Fv X tx σ H s)(g:FW H a y o):s.TypeIs (.ref a) "dict":=by
 rcases g with⟨kvs,k,e,_,_⟩|⟨kvs,k,b,e,_,_,_⟩
 ·let#[_,_,d,_,c]:=aK I.hok e
  exact c.typeIs
 ·let#[_,_,xs,_,c]:=bO I.hok e
  exact c.typeIs
def v5(td ty:TE):TE:=λσ H Q=>td σ H λx H1=>ty σ H1 λy c=>∃a v,x= .ref a/\FW c a y ↑v/\Q v c
def AU(ty td:TE):TE:=λσ H Q=>ty σ H λy H1=>td σ H1 λx c=>∃a o,x= .ref a/\FW c a y o/\Q (.bl o.isSome) c
def nT(ty td:TE):TE:=λσ H Q=>ty σ H λy H1=>td σ H1 λx c=>∃a o,x= .ref a/\FW c a y o/\Q (.bl (! o.isSome)) c
def wg(td ty tv:TE):TS:=λD σ H=>tv σ H λv H1=>td σ H1 λx e=>ty σ e λy d=>∃a c,x= .ref a/\GL d a y v c/\D.nx σ c
section
variable{X:Cx}{o i value:Φ}{pos pos':Pos}{td ty tv:TE}
theorem ye(hu:X.A.units+1<cLine)(ho:PE X o td)(hi:PE X i ty)(hs:tW i):PE X (.Subscript o i pos) (v5 td ty):=by
 intro tx s σ H Q I h;refine yS PySem.F.slot_dict_getitem.lookup hs (qD (ho tx s σ H _ I h) λu j ⟨x,H1,r,m,n⟩=>qD (hi tx j σ H1 _ r n) λt w e=>?_)
 let#[y,q,d,p,a,v,ex,g,l]:=e;subst ex
 obtain rfl:u=Γ.ref a:=m
 exact#[mR d g,sN hu d g p λA z f c=>#[v,q,f,c,l]]
theorem Av(hu:X.A.units+1<cLine)(hi:PE X i ty)(ho:PE X o td):PC X .In i o (AU ty td):=by
 intro tx s σ H Q I h;refine qD (hi tx s σ H _ I h) λt e ⟨y,H1,q,n,m⟩=>qD (ho tx e σ H1 _ q m) λu v c=>?_
 let#[x,p,j,l,a,r,ex,g,f]:=c;subst ex
 obtain rfl:u=Γ.ref a:=l
 exact Cu hu j g n λw d=>#[.bl r.isSome,p,d,Z,f]
theorem rP(hu:X.A.units+1<cLine)(hi:PE X i ty)(ho:PE X o td):PC X .NotIn i o (nT ty td):=by
 intro tx s σ H Q I h;refine qD (hi tx s σ H _ I h) λt e ⟨y,H1,q,n,m⟩=>qD (ho tx e σ H1 _ q m) λu v c=>?_
 let#[x,p,j,l,a,r,ex,g,f]:=c;subst ex
 obtain rfl:u=Γ.ref a:=l
 exact xv hu j g n λw d=>#[.bl (! r.isSome),p,d,Z,f]
theorem xo(hu:X.A.units+1<cLine)(ho:PE X o td)(hi:PE X i ty)(hv:PE X value tv)(hs:swapsWith value ↑(.Subscript o i pos') pos.line X.env=pure false):
  PS X (.Assign [.Subscript o i pos'] value pos) (wg td ty tv):=by
 intro tx s σ H D I h;refine wpAny_Assign_Subscript (qD (hv tx s σ H _ I h) λr w ⟨v,H1,f,c,B⟩=>qD (ho tx w σ H1 _ f B) λu m ⟨x,d,l,A,z⟩=>qD (hi tx m σ d _ l z) λC E j=>?_) hs
 let#[y,G,q,p,a,n,ex,g,e]:=j;subst ex
 obtain rfl:u=Γ.ref a:=A
 exact sQ hu q g p c λF t=>#[σ,n,t,e]
end
theorem kY{P:Ξ}{w:Ω}{H:Hp}(h:Ψ)(hb:sysModules<h.objs.size):FE P w H (h.push {cls:= .type "dict",data:= .dict (List.toArray [])}) h.objs.size (.dK []):=
 #[JR _,Dt.mpr (Ne.symm (Js hb)),[],.nil,Ψ.DictOf.new h]
def tG:TE:=λ_ H Q=>∀p,H p=none->Q (.ref p) (Ft H p (.dK []))
section
variable{X:Cx}{pos:Pos}
theorem tZ:PE X (.Dict [] [] pos) tG:=λtx s σ H Q I h=>
 wpAny_Dict_empty #[.ref s.heap.objs.size,_,I.laid (a:=s.heap.objs.size) (o:= .dK []) (t':=s.toks) (λ_ _ q=>Ji _ q) (Je _) (kY s.heap I.big),Z,h _ (I.hok.fresh (Je _))]
end
def kh:List (TE×TE)->St->Hp->(List (V×V)->Hp->Prop)->Prop
 | [],_,H,Q=>Q [] H
 |(tk,tv)::r,σ,H,Q=>tk σ H λx H1=>tv σ H1 λy c=>kh r σ c λps a=>Q ((x,y)::ps) a
abbrev VV:List (V×V)->List (Γ×Γ)->Prop:=Paired λp q=>Fx p.1 q.1/\Fx p.2 q.2
def rG(X:Cx)(pos:Pos)(keys:List Χ)(a:Κ)(c:List (TE×TE)):Prop:=
 ∀(tx:Fo) (s:Θ) (σ:St) (H:Hp) (Q:List (V×V)->Hp->Prop),Fv X tx σ H s->kh c σ H Q->
  ε (model X.prog X.w) X.A (evalPairs (pairTrees keys a X.env pos)) (λd s'=>∃ps H',Fv X tx σ H' s'/\VV ps d/\Q ps H') X.xe s
theorem yb{X:Cx}{pos:Pos}:rG X pos [] [] []:=λtx s σ H Q I h=>pairTrees_nil_walk #[[],H,I,.nil,h]
theorem vb{X:Cx}{pos:Pos}{k v:Φ}{ks:List Χ}{vs:Κ}{tk tv:TE}{a:List (TE×TE)}(hk:PE X k tk)(hv:PE X v tv)(hr:rG X pos ks vs a):
  rG X pos (↑k::ks) (v::vs) ((tk,tv)::a):=λtx s σ H Q I h=>
 pairTrees_cons_walk (qD (hk tx s σ H _ I h) λu e ⟨x,H1,q,j,m⟩=>qD (hv tx e σ H1 _ q m) λt l ⟨y,o,f,n,g⟩=>
  qD (hr tx l σ o _ f g) λr w ⟨ps,i,d,c,p⟩=>#[(x,y)::ps,i,d,.cons #[j,n] c,p])
def Qh(kvs a:List (qz×V)):List (qz×V):=a.foldl (λc d=>FZ c d.1 d.2) kvs
theorem KV.merge:∀{a:List (qz×V)} {rs:List (qz×Γ)} {kvs:List (qz×V)} {vs:List (qz×Γ)},KV a rs->KV kvs vs->KV (Qh kvs a) (merged vs rs):=by
 intro a rs kvs vs r;unfold KV at r
 induction r generalizing kvs vs with
 |nil=>intro q;exact q
 | @cons p q ps qs h t ih=>
  intro c;have e:KV (FZ kvs p.1 p.2) (stored vs q.1 q.2):=by
   have:=c.put p.1 h.2
   rw[<- h.1];exact this
  exact ih e
theorem ZT:∀(a kvs:List (qz×V)),(Qh kvs a).length<=kvs.length+a.length
 | [],kvs=>by show kvs.length<=kvs.length+0;lia
 |p::r,kvs=>by
  have h1:=ZT r (FZ kvs p.1 p.2);have c:=aX kvs p.1 p.2
  show(Qh (FZ kvs p.1 p.2) r).length<=_
  rw[CP];lia
theorem gE{P:Ξ}{w:Ω}:∀{kvs:List (qz×V)} {e:List (Γ×Γ)},VV (kvs.map λd=>(kV d.1,d.2)) e->∃rs,Carries (qQ P w) e rs/\KV kvs rs
 | [],_,r=>by rw[Ek]at r;cases r;exact#[[],True.intro,.nil]
 |p::kvs,_,r=>by
  rw[JL]at r;cases r with
  | @cons a b as bs h t=>
   let#[rs,c,q]:=gE (P:=P) (w:=w) t
   let#[g,f]:=b
   exact#[(p.1,f)::rs,#[aH h.1,Z,c],.cons #[Z,h.2] q]
def vS(a:List (TE×TE)):TE:=λσ H Q=>∀p,H p=none->kh a σ (Ft H p (.dK [])) λps c=>c p=↑(.dK [])/\∃kvs:List (qz×V),ps=kvs.map (λd=>(kV d.1,d.2))/\kvs.length<=15/\Q (.ref p) (Ft c p (.dK (Qh [] kvs)))
theorem ym{X:Cx}{pos:Pos}{keys:List Χ}{d:Κ}{i:List (TE×TE)}(h:rG X pos keys d i)(f:keys.all (·.isSome)=true)(hl:keys.length=d.length)(x:keys≠[])
  (j:keys.length<=15):PE X (.Dict keys d pos) (vS i):=by
 intro tx s σ H Q I q;have v:=I.hok.fresh (Je s.heap.objs.size);have p:=I.laid (a:=s.heap.objs.size) (o:= .dK []) (h':=s.heap.push {cls:= .type "dict",data:= .dict (List.toArray [])}) (t':=s.toks) (λ_ _ q=>Ji _ q) (Je _) (kY s.heap I.big)
 refine wpAny_Dict_walk (knd:=qQ X.prog X.w) f hl x j (qD (h tx _ σ _ _ p (q _ v)) λK J r=>?_)
 let#[ps,F,m,l,e,kvs,D,G,C]:=r;subst D;let#[rs,c,B]:=gE (P:=X.prog) (w:=X.w) l
 let#[z,A,n,t,u]:=jQ m.hok e;cases t;refine#[rs,c,u,λh' g hs=>#[.ref s.heap.objs.size,_,?_,Z,C]]
 have E:(Qh [] kvs).length<=ζ:=by
  have h1:=ZT kvs [];rw[List.length_nil]at h1;rw[Jo];lia
 have y:∃q,h'.get? s.heap.objs.size=↑q:=let⟨q,_,_,hq,_⟩:=g;#[q,hq]
 exact cX m (by rw[e];exact True.intro) hs y (kA E A (B.merge .nil) g)
structure M1(X:Cx)(o:Φ)(m:Str)(apos:Pos)(e:Φ)(cpos:Pos):Prop where
 base:attributeBase o m X.env (eval o X.env)=eval o X.env
 few:((backTo cpos (θ [e] X.env)).all (λx=> ! x.1)&&(backToKw cpos (keywordEach [] X.env)).all (λx=>x.1.isSome)
  &&decide (([e]:Κ).length+([]:β).length+(if([]:β).isEmpty then 0 else 1)<30))=true
 line:(apos.endLine==cpos.line)=true
 trees:backTo cpos (θ [e] X.env)=[(false,eval e X.env)]
def Cd(H:Hp)(a:Δ):Prop:=(∃kvs,Rd H a (.dK kvs))\/∃kvs,Rd H a (.dT kvs)
theorem Ae{X:Cx}{tx:Fo}{σ:St}{H:Hp}{s:Θ}{a:Δ}(I:Fv X tx σ H s)(d:Cd H a):
  s.TypeIs (.ref a) "dict"/\(∀b,Γ.ref a= .ref b->∃c,s.heap.get? b=↑c/\c.dict=none)/\(a==sysModules)=false:=by
 rcases d with⟨kvs,e⟩|⟨kvs,e⟩
 ·let#[_,g,i,_,f]:=aK I.hok e
  refine#[f.typeIs,λb q=>?_,g]
  cases q;let#[c,_,_,h1,h,_]:=f
  exact#[c,h1,h.2.1]
 ·let#[_,g,xs,_,f]:=bO I.hok e
  refine#[f.typeIs,λb q=>?_,g]
  cases q;let#[c,_,_,h1,h,_]:=f
  exact#[c,h1,h.2.1]
section
variable{X:Cx}{tx:Fo}{σ:St}{H:Hp}{s:Θ}{a:Δ}{y:V}{u:Γ}{o:Μ}{A:Around}{E:Fl}
theorem yX{Q:Fl}(hu:A.units+1<cLine)(I:Fv X tx σ H s)(g:FW H a y o)(m:Fx y u)(h:∀j s',Fv X tx σ H s'->Fx (o.getD .non) j->Q j s'):
  ε (model X.prog X.w) A (call (.builtin "dict.get") [.ref a,u]) Q E s:=by
 rcases g with⟨kvs,k,e,i,l⟩|⟨kvs,k,b,e,i,n,l⟩
 ·subst i
  let#[z,f,p,c,d]:=aK I.hok e;refine call_meetsIn EH d.typeIs PySem.F.entry_dict_get (PySem.F.args_dict_get_2 _ _) (meets_dict_get (qQ X.prog X.w) a (aH m) f) #[_,d.mapOf,h _ _ (I.tok _) ?_]
  rw[l]
  exact(c.val k).getD Z
 ·subst i
  cases(show u=Γ.ref b from m)
  let#[z,f,xs,c,d]:=bO I.hok e;refine call_meetsIn EH d.typeIs PySem.F.entry_dict_get (PySem.F.args_dict_get_2 _ _) (meetsH_dict_get (tupleKind (qQ X.prog X.w)) a b f) #[Eb hu,k,xs,bq I.hok n,d,h _ _ (I.tok _) ?_]
  rw[l]
  exact(c.val k).getD Z
end
def rN(td ty:TE):TE:=λσ H Q=>td σ H λx H1=>∃a,x= .ref a/\Cd H1 a/\ty σ H1 λy c=>∃o,FW c a y o/\Q (o.getD .non) c
section
variable{X:Cx}{o e:Φ}{apos cpos:Pos}{td ty:TE}
theorem uL(hu:X.A.units+1<cLine)(ho:PE X o td)(he:PE X e ty)(m:M1 X o "get" apos e cpos):PE X (.Call (.Attribute o "get" apos) [e] [] cpos) (rN td ty):=by
 intro tx s σ H Q I h;refine wpAny_Call_method m.base m.few m.line PySem.F.plainAttrs_dict EH PySem.F.type_dict_get (qD (ho tx s σ H _ I h) λu l i=>?_)
 let#[x,H1,f,r,a,ex,d,t]:=i;subst ex
 obtain rfl:u=Γ.ref a:=r
 let#[v,n,_]:=Ae f d;exists v,n
 rw[m.trees];refine Calls.callWith_builtin Z (Calls.evalArgs_plain (Calls.spliced_cons (qD (he tx l σ H1 _ f t) λA B ⟨y,w,q,z,E,g,p⟩=>Calls.spliced_nil ?_)))
 exact yX hu q g z λD C j c=>#[_,w,j,c,p]
end
section
variable{X:Cx}
theorem rj:zi X (.builtin "len") (λxs H Q=>∃a kvs,xs=[V.ref a]/\H a=↑(.dK kvs)/\Q (.int kvs.length) H):=by
 intro tx s σ H xs f Q I r h;let#[a,kvs,rfl,d,q]:=h;let#[u,rfl,c]:=Qt r;cases c;exact BR I (.inl d) λt s' e=>#[.int kvs.length,H,e,#[t,Z],q]
end
end L2
namespace L3
open PySem PySem.Spec PyProof.Rows L2
open PySem.W (kdl_dict kdl_extend)
section
variable{prog:Ξ}{w:Ω}{A:Around}{E:Fl}{s:Θ}
theorem j8{d:Δ}{kvs:List (qz×Γ)}{ep:Nat}{Q:Η->Θ->Prop}(l:A.handled=none)(hm:s.heap.DictAt (qQ prog w) d kvs ep)(lo:(d==sysModules)=false)(hn:kvs.length<=ζ)
  (h:∀(vs:Η) (h':Ψ) (tk:Nat),s.heap.objs.size<h'.objs.size->(∀b o,s.heap.get? b=↑o->h'.get? b=↑o)->vs.length=kvs.length->(∀(j:Nat) (v:Γ),vs[j]? =↑v->∃k x,kvs[j]? =↑(k,x)/\(qQ prog w).is k v=true)->Q vs {s with heap:=h',toks:=tk}):
  ε (model prog w) A (collect (.ref d)) Q E s:=by
 unfold collect;refine Ja (wpAny_runValue (DB entry_proto_collect' ?_))
 show ε _ _ (do again (.builtin "list.__iadd__" #[[<- newList [],.ref d],[]])) _ _ s
 refine Ja (wpAny_newList (Jf #[Code.quiet_builtin _ nofun,DB entry_list_iadd' ?_]))
 rw[Around.under_plainId PySem.F.plain_list_iadd _];have f:d<s.heap.objs.size:=hm.lt_size
 refine kdl_extend (s:={s with heap:=s.heap.push (seqObj "list" (List.toArray []) 0)}) (R:=λr s'=>match r with
   | .ok (.ret v)=>ε (model prog w) A (match v with
    | .ref a=>(do
     let o <- load a
     match o.data with
     | .seq xs _=>pure xs.toList
     |_=>unsupported "internal:collect")
    |_=>unsupported "internal:collect") Q E s'
   | .ok _=>False
   | .error e=>E e s') (kdl_dict (knd:=qQ prog w) (ep:=ep) (kvs:=kvs) lo) l (hm.push _) s.heap.objs.size (JZ f) (JZ f) _ 0 (Jq _ Z) (λh' tk c m hk g i=>?_) hn
 show ε (model prog w) A (do
   let o <- load s.heap.objs.size
   match o.data with
   | .seq xs _=>pure xs.toList
   |_=>unsupported "internal:collect") Q E {s with heap:=h',toks:=tk}
 refine Ja (wpAny_load g ?_)
 refine Jf (h c.toList h' tk (Jm g) (λb o e=>hk b o (Js (Jm e)) (Ji _ e)) (by rw[Ed];exact i.1) λj v e=>i.2 j v (by rw[<- Array.getElem?_toList];exact e))
theorem ny:∀{us:Η} {ss:Α},us.length=ss.length->(∀(j:Nat) (v:Γ),us[j]? =↑v->∃x t,ss[j]? =↑x/\v= .str x t)->StrsAre us ss
 | [],[],_,_=> .nil
 |u::us,x::ss,hl,h=>by
  let#[y,t,a,c]:=h 0 u Z;cases a;subst c;exact .cons _ _ (ny (Nat.succ.inj hl) λj v e=>h (j+1) v e)
 | [],_::_,hl,_=>by cases hl
 |_::_,[],hl,_=>by cases hl
theorem mS{d:Δ}{kvs:List (qz×Γ)}{ep:Nat}{ss:Α}{Q:Fl}(L:A.handled=none)(hm:s.heap.DictAt (qQ prog w) d kvs ep)(lo:(d==sysModules)=false)(p:kvs.map (·.1)=ss.map Sum.inr)(u:ss.length<64)
  (h:∀(h':Ψ) (tk:Nat) (l:Δ) (its:Η) (n:Nat) (a:Α),s.heap.objs.size<=l->(∀b o,s.heap.get? b=↑o->h'.get? b=↑o)->h'.get? l=↑(seqObj "list" its.toArray n)->StrsAre its a->a.Perm ss->sortedS a=true->Q (.ref l) {s with heap:=h',toks:=tk}):
  ε (model prog w) A (call (.builtin "sorted") [.ref d]) Q E s:=by
 have c:kvs.length=ss.length:=by have:=JH List.length p;rwa [Jd,Jd]at this
 refine Calls.call_function_entry kind_sorted plain_sorted entry_sorted (args_sorted1 _) ?_
 unfold γ.«sorted»
 refine Ja (m:=checkCount "sorted" 1 1 _) (Jf ?_)
 refine Ja (j8 (ep:=ep) (kvs:=kvs) L hm lo (by rw[Jo];lia) λi h' tk t hk F M=>?_)
 have r:StrsAre i ss:=ny (F.trans c) λj v e=>by
  let#[k,x,O,N]:=M j v e;have q:(kvs.map (·.1))[j]? =↑k:=by rw[Jk,O];rfl
  rw[p,Jk]at q;cases e4:ss[j]? with
  |none=>rw[e4]at q;cases q
  |some y=>
   rw[e4]at q;have P:Sum.inr y=k:=Jt q
   subst P;have B:Γ.isStrOf y v=true:=N
   cases v<;>simp [Γ.isStrOf]at B
   subst B
   exact#[7]
 refine Ja (wpAny_newList ?_)
 have g:(h'.push (seqObj "list" i.toArray 0)).get? h'.objs.size=↑(seqObj "list" i.toArray 0):=Jq _ Z
 show ε _ _ _ _ _ {s with heap:=h'.push (seqObj "list" i.toArray 0),toks:=tk}
 refine Ja (JX (J7 slot_list_sort #[_,g,Z] entry_list_sort (list_sort_treeK (κ:=PyProof.Rows.strKind) strKind_oneLt g r.keysOf (λD H rest e=>keyKind_strs (by rw[<- e];exact r)) (by rw[F,c];exact u) λf S K=>#[0,?_]) (args_list_sort _)))
 let#[a,I,R,J]:=sorted_out_str r S K;let#[n',z]:∃n',(sortedHeap (h'.push (seqObj "list" i.toArray 0)) h'.objs.size i ((arrOf f).map (·.2))).get? h'.objs.size=↑(seqObj "list" ((arrOf f).map (·.2)) n'):=sortedHeap_at g
 refine Jf #[0,h _ tk h'.objs.size ((arrOf f).map (·.2)).toList n' a (DW t) (λb o e=>?_) (by rw[z]) I R J]
 have G:=hk b o e;have C:b<h'.objs.size:=Jm G
 rw[sortedHeap_old (Js C) (by rw[J5];exact DA C)]
 exact Ji _ G
end
theorem i4:∀{us:Η} {ss:Α},StrsAre us ss->Fy (ss.map V.str) us
 | [],[],.nil=> .nil
 |_,_::_,.cons _ _ t=> .cons #[0] (i4 t)
theorem j5{X:Cx}(hc:X.calm=true):zi X (.builtin "sorted") (λxs H Q=>∃(d:Δ) (kvs:List (qz×V)) (ss:Α),xs=[.ref d]/\H d=↑(.dK kvs)/\kvs.map (·.1)=ss.map Sum.inr/\ss.length<64/\
  ∀l c,H l=none->c.Perm ss->sortedS c=true->Q (.ref l) (Ft H l (.lst (c.map V.str)))):=by
 intro tx s σ H xs L Q I r h;let#[d,kvs,ss,rfl,D,f,j,q]:=h;let#[u,rfl,y]:=Qt r;cases y;let#[z,lo,m,g,o,es,G,v,B,E,J,F,C]:=jQ I.hok D;have e:m.map (·.1)=ss.map Sum.inr:=by rw[<- f,g.keys]
 refine mS (I.ok.hd hc) (#[o,es,v,B,E,J,F,C]:s.heap.DictAt (qQ X.prog X.w) d m G) lo e j λh' tk l i n c p hk A w t x=>?_
 refine#[.ref l,_,I.laid (a:=l) (o:= .lst (c.map V.str)) (t':=tk) hk p ?_,Z,q l c (I.hok.fresh p) t x]
 have K:=i4 w;refine#[?_,i,n,K,A]
 have:=t.length_eq
 rw[Jd,Jo];lia
end L3
namespace L3
open PySem PySem.Spec PyProof.Rows L2
open Sem (wp)
def kS(k:Nat)(js:Ε)(g:TG)(tc:TT)(te:TE)(σ:L2.St)(Q:VK)(J:It)(H1:Hp):Prop:=∃W:Nat->Nat->Β->L2.St->Hp->Prop,(∃m,W 0 m [] (σ0 k js σ) H1)/\∀i m ys f H,W i m ys f H->
 (J.stop i H/\∀p,H p=none->Q (.ref p) (Ft H p (.lst ys)))\/(J.go i H/\ys.length<ζ/\∀x H',J.yld i H x H'->g x f H' λa j=>∃(N:V->Hp->Prop) (h:Hp->Prop),(∀v d,N v d->∃e,e<m/\W (i+1) e (ys++[v]) a d)/\
  (∀d,h d->∃e,e<m/\W (i+1) e ys a d)/\tc a j λc d=>if c=true then te a d N else h d)
def gJ(k:Nat)(js:Ε)(a:TI)(g:TG)(tc:TT)(te:TE):TE:=λσ H Q=>a σ H (kS k js g tc te σ Q)
section
variable{prog:Ξ}{w:Ω}{A:Around}{R:Result->Θ->Prop}{s:Θ}
theorem mK{u a l j:Φ}{i:Scope}{pos:Pos}{it z:Γ}{d:Env}(I:Nat->Θ->Prop)
  (E:∀n s,I n s->ε (model prog w) A (pyNext it) (λr f=>match r with
   |none=>R (.ok .next) f
   | some v=>ε (model prog w) A (letOwnedTupleGo a it v) (λ_ g=>ε (model prog w) A (assign a d v) (λ_ t=>ε (model prog w) A (isTrue j d (eval j d)) (λok c=>
     if ok=true then ε (model prog w) A (eval u d) (λx p=>
      ε (model prog w) A (call (.builtin "list.append") [z,x]) (λ_ o=>∃m,m<n/\I m o) (λ_ _=>False) p) (λ_ _=>False) c else∃m,m<n/\I m c)
     (λ_ _=>False) t) (λ_ _=>False) g) (λ_ _=>False) f) (λ_ _=>False) s)
  (n:Nat)(h:I n s):
  codeAny (model prog w) A (.compLoop (.ListComp u [#[a,l,[j],(0)]] i pos) 0 it z d) R s:=by
 refine codeAny_loop Z I (λn s F=>?_) n h
 show ε _ _ ((compTurn (.ListComp u [#[a,l,[j],(0)]] i pos) 0 it z d).onRaise (λx=>do noteFrame x d;theTreesLotGoes x)) _ _ s
 refine wpAny_noted ?_
 rw[compTurn_list];refine Ja (DI (Ja (JT (E n s F) (λr f q=>?_) λ_ _ h'=>h'.elim)))
 cases r with
 |none=>exact Jf q
 |some v=>
  refine Ja (JT q (λ_ g y=>?_) λ_ _ h'=>h'.elim)
  refine Ja (JT y (λ_ t B=>Ja (wpAny_tests_one (JT B (λok c e=>?_) λ_ _ h'=>h'.elim))) λ_ _ h'=>h'.elim)
  cases ok with
  |false=>exact Jf #[Z,e]
  |true=>
   exact Ja (Ja (JT e (λx p D=>Ja (JT D (λ_ o C=>Jf (Jf #[Z,C])) λ_ _ h'=>h'.elim)) λ_ _ h'=>h'.elim))
end
variable{X:Cx}
theorem jv{b2 tg w b0:Φ}{a:Scope}{cl:List (Str×Δ)}{pos c4:Pos}{fr own:Α}{js:Ε}{wi:TI}{g:TG}{tc:TT}{te:TE}{use:Option (Γ->Sem Unit)}{Post:Fl}
  {tx:Fo}{s:Θ}{σ:L2.St}{H:Hp}{Q:VK}
  (hc:X.calm=true)(hi:PI X tg w wi)(a8:closureFor a X.env=pure cl)(d3:∀y c,cl.lookup y=↑c->X.env.cells.lookup y=↑c)(d6:cl.map (·.1)=fr)
  (S:F6 X a fr js)
  (hg:∀C s H fp,PG (zB X (own++fr) a cl C s H fp) tg g)(ht:∀C s H fp,PT (zB X (own++fr) a cl C s H fp) b0 tc)(he:∀C s H fp,PE (zB X (own++fr) a cl C s H fp) b2 te)
  (hs:∀x,foldedSetIterable w X.env x=pure x)
  (I:L2.Fv X tx σ H s)(h:gJ own.length js wi g tc te σ H Q)
  (c0:∀(b5 C:Δ) (s5:Θ) (H':Hp) (m:Fn),L2.Fv X tx σ H' s5->s5.heap.Ns C m->LK X tx H' C->Q (.ref b5) H'->compPost (model X.prog X.w) X.A X.xe use Post (.ref b5) C (.ok .next) s5):
  ε (model X.prog X.w) X.A (comprehension (.ListComp b2 [#[tg,w,[b0],(0)]] a pos) a X.env c4 (newList []) false (eval w X.env) use) Post X.xe s:=by
 refine wpAny_comprehension_free (use:=use) Z hs a8 S.kind S.names (qD (hi tx s σ H _ I h) λv s1 h1=>qD h1 λe2 q h2=>?_)
 let#[it,fp,tn,J,H2,e,I2,T,c2,f2,W,#[m0,w0],d0]:=h2;subst e;refine C6 (wpAny_newFunctionEnv S.nocell (by intro y hy;simp at hy) (λK t f=>?_) S.kind)
 dsimp only at t f⊢
 generalize hH2:q.heap.push {cls:= .type "list",dict:=none,data:= .seq ([]:Η).toArray}=G at t f⊢
 have hC:G.objs.size=q.heap.objs.size+1:=by rw[<- hH2,J5]
 have U:q.heap.objs.size≠G.objs.size:=by rw[hC];exact Js (C9 _)
 have F:∀b,b<q.heap.objs.size->b≠G.objs.size/\b≠q.heap.objs.size:=λb l=>#[by rw[hC];exact Js (DA l),Js l]
 have b4:∀b o,q.heap.get? b=↑o->K.get? b=↑o:=λb o e=>f.extBut b o (F b (Jm e)).1 (Ji _ (hH2▸Ji _ e))
 have a0:K.get? q.heap.objs.size=some {cls:= .type "list",data:= .seq ([]:Η).toArray 0}:=f.extBut _ _ U (Ji _ (hH2▸Jq _ Z))
 let Y:Cx:=zB X (own++fr) a cl G.objs.size q H2 fp
 let#[d2,IY,P,L,a5]:=ki (own:=own) (js:=js) d3 d6 S I2 T c2 f2 hC b4 t
 have a2:∀D:Θ,Fv Y [] (σ0 own.length js σ) H2 D->tn 0 D.heap->D.heap.get? q.heap.objs.size=some {cls:= .type "list",data:= .seq ([]:Η).toArray 0}->
   codeAny (model X.prog X.w) X.A (.compLoop (.ListComp b2 [#[tg,w,[b0],(0)]] a pos) 0 (.ref it) (.ref q.heap.objs.size) (compEnvC a cl G.objs.size X.env))
    (compPost (model X.prog X.w) X.A X.xe use Post (.ref q.heap.objs.size) G.objs.size) D:=by
  intro D I3 d9 d7;refine mK (λn s'=>∃i ys τ H' d k,Fv Y [(q.heap.objs.size,{cls:= .type "list",data:= .seq d.toArray k})] τ H' s'/\tn i s'.heap/\(∀b∈fp,H' b=none)/\Fy ys d/\ys.length<=ζ/\W i n ys τ H') ?_ m0 ?_
  ·rintro n s4 ⟨i,ys,τ,H4,d,k,I4,b6,b7,vl,hz,w4⟩
   have e0:=I4.pin (q.heap.objs.size,{cls:= .type "list",data:= .seq d.toArray k}) (by simp [Y,zB])
   rcases d0 i n ys τ H4 w4 with⟨c3,qn⟩|⟨go,e1,step⟩
   ·refine qD (T.done Y Z Z Z hc i _ s4 τ H4 _ I4 (a5 b7 (by simp)) b6 c3) λr s5 O=>?_
    let#[hr,I5]:=O;subst hr
    show compPost _ _ _ _ _ _ _ _ _
    let#[m5,d5,_]:=I5.loc;have a3:=I5.pin (q.heap.objs.size,{cls:= .type "list",data:= .seq d.toArray k}) (by simp [Y,zB])
    have a1:H4 q.heap.objs.size=none:=a3.2.1
    have B:=I5.base;have nC:H4 G.objs.size=none:=I5.free
    let#[z1,z2]:=kO (ob:= .lst ys) I2 f2 hC I5 a1 #[hz,d,k,vl,a3.1]
    exact c0 q.heap.objs.size G.objs.size s5 (Ft H4 q.heap.objs.size (.lst ys)) m5 z1 d5 z2 (qn _ a1)
   ·refine qD (T.item Y Z Z Z hc i _ s4 τ H4 _ I4 (a5 b7 (by simp)) b6 go) λr s5 O=>?_
    let#[u,hr,h5]:=O;subst hr;refine qD h5 λ_ s6 O=>?_
    let#[x,H6,I6,r6,y6,E,d4]:=O;have I6':=I6.pinned (a5 d4 (by simp)) (T.obj _ _ E)
    refine qD (hg _ _ _ _ _ s6 τ H6 x u _ I6' r6 (step x H6 y6)) λ_ s7 O=>?_
    let#[M,H7,I7,N,N0,hN,d8,q7]:=O;refine qD (ht _ _ _ _ _ s7 M H7 _ I7 q7) λok c1 O=>?_
    let#[H7',I7',b3]:=O;cases ok with
    |false=>
     let#[m',b1,w8]:=d8 _ b3;have A:=I7'.pin (q.heap.objs.size,{cls:= .type "list",data:= .seq d.toArray k}) (by simp [zB])
     have j:∀b∈fp,∀o,s6.heap.get? b=↑o->c1.heap.get? b=↑o/\H7' b=none:=λb l o e=>by
      have:=I7'.pin (b,o) (JY _ (JY _ (Zm l e)))
      exact#[this.1,this.2.1]
     refine#[m',b1,i+1,ys,M,H7',d,k,I7'.pins_of ?_,T.keep _ _ _ E λb l o e=>(j b l o e).1,λb l=>?_,vl,by lia,w8]
     ·intro p hp
      rw[Jn.mp hp];exact A
     ·let#[o,e,_]:=T.obj _ _ E b l
      exact(j b l o e).2
    |true=>
    refine qD (he _ _ _ _ _ c1 M H7' _ I7' b3) λv' s8 O=>?_
    let#[y,H8,I8,r8,n8]:=O;let#[m',b1,w8]:=hN _ _ n8;have A:=I8.pin (q.heap.objs.size,{cls:= .type "list",data:= .seq d.toArray k}) (by simp [zB])
    have j:∀b∈fp,∀o,s6.heap.get? b=↑o->s8.heap.get? b=↑o/\H8 b=none:=λb l o e=>by
     have:=I8.pin (b,o) (JY _ (JY _ (Zm l e)))
     exact#[this.1,this.2.1]
    refine wpAny_list_append_plain (items:=d.toArray) #[k,A.1] (λh' R d1=>?_) (by have:=vl.length;simp;lia)
    let#[k',R]:=R;have I9:Fv Y [] M H8 {s8 with heap:=h'}:=by
     refine(I8.pins_of (pins':=[]) (by simp)).turned (t':=s8.toks) (it:=q.heap.objs.size) (λb o l e=>(d1.2 b l).trans e) A.2.1 ?_ (.inr (Je _)) (λx c e=>L x c e) (λp hp=>absurd (show p∈([]:Fo)from by simpa [Y,zB]using hp) (by simp))
     exact U
    have ea:(d.toArray.push v')=(d++[v']).toArray:=by simp
    rw[ea]at R;refine#[m',b1,i+1,ys++[y],M,H8,d++[v'],k',I9.pins_of ?_,T.keep _ _ _ E λb l o e=>(d1.2 b (F b (d2 b l)).2).trans (j b l o e).1,λb l=>?_,vl.append (.cons r8 .nil),?_,w8]
    ·intro p hp
     rw[Jn.mp hp]
     exact#[R,A.2.1,U,P,λv z=>by cases z]
    ·let#[o,e,_]:=T.obj _ _ E b l
     exact(j b l o e).2
    ·rw[Jx,Ep];lia
  ·refine#[(0),[],σ0 own.length js σ,H2,[],(0),I3.pins_of ?_,d9,λb l=>(f2 b l).1,.nil,JR _,w0]
   intro p hp;rw[Jn.mp hp]
   exact#[d7,I2.hok.fresh (Je _),U,P,λv z=>by cases z]
 have a4:tn 0 K:=T.keep _ _ _ c2 λb _ o e=>b4 b o e
 exact codeAny_compStart_list (a2 _ IY a4 a0) (T.self _ 0 _ _ _ a4 (a2 _ IY a4 a0))
theorem uU{l tg d n:Φ}{a:Scope}{i:List (Str×Δ)}{pos:Pos}{fr own:Α}{js:Ε}{v:TI}{g:TG}{tc:TT}{te:TE}
  (hc:X.calm=true)(hi:PI X tg d v)(f:closureFor a X.env=pure i)(t:∀y c,i.lookup y=↑c->X.env.cells.lookup y=↑c)(p:i.map (·.1)=fr)
  (S:F6 X a fr js)
  (hg:∀C s H fp,PG (zB X (own++fr) a i C s H fp) tg g)(D:∀C s H fp,PT (zB X (own++fr) a i C s H fp) n tc)(he:∀C s H fp,PE (zB X (own++fr) a i C s H fp) l te)
  (hs:∀x,foldedSetIterable d X.env x=pure x:=by intro _;rfl):
  PE X (.ListComp l [#[tg,d,[n],(0)]] a pos) (gJ own.length js v g tc te):=by
 intro tx s σ H Q I h;rw[eval_ListComp];refine jv (use:=none) hc hi f t p S hg D he hs I h λu C B H' m z w j q=>?_
 exact#[m,w,λh' r=>#[.ref u,H',z.turned (t':=B.toks) (λb o A e=>(r.2 b A).trans e) j.free j.loc (.inr j.new) j.cell j.pin,Z,q]]
theorem fq{h tg d i:Φ}{a:Scope}{f:List (Str×Δ)}{pos:Pos}{fr own:Α}{js:Ε}{m:TI}{g:TG}{tc:TT}{te:TE}
  (hc:X.calm=true)(hi:QI X tg d m)(e:closureFor a X.env=pure f)(l:∀y c,f.lookup y=↑c->X.env.cells.lookup y=↑c)(j:f.map (·.1)=fr)
  (S:F6 X a fr js)
  (hg:∀C s H fp,QG (zB X (own++fr) a f C s H fp) tg g)(n:∀C s H fp,QT (zB X (own++fr) a f C s H fp) i tc)(he:∀C s H fp,QE (zB X (own++fr) a f C s H fp) h te)
  (hs:∀x,foldedSetIterable d X.env x=pure x:=by intro _;rfl):
  QE X (.ListComp h [#[tg,d,[i],(0)]] a pos) (gJ own.length js m g tc te):=#[uU hc hi.h e l j S (λC s H fp=>(hg C s H fp).h) (λC s H fp=>(n C s H fp).h) (λC s H fp=>(he C s H fp).h) hs]
section
variable{js:Ε}{tc:TT}{te:TE}{σ:L2.St}{H:Hp}{Q:VK}{K:ι}
abbrev rm(J:It)(js:Ε)(tc:TT)(te:TE)(σ:L2.St)(H1:Hp)(Q:VK):Prop:=kS 1 js (Qz 0) tc te σ Q J H1
theorem je{J:It}{n:Nat}(hn:n<=ζ)(d:Nat->V->Prop)(Pv:Nat->Β->Hp->Prop)(s:Pv 0 [] H)(h:∀i ys H,i<n->Pv i ys H->J.go i H)(hst:∀ys H,Pv n ys H->J.stop n H)
  (q:∀i ys H x H',i<n->Pv i ys H->J.yld i H x H'->H'=H/\d i x)
  (hs:∀i ys H x,i<n->Pv i ys H->d i x->tc (↑x::Qc js σ) H λc f=>if c=true then te (↑x::Qc js σ) f (λv r=>Pv (i+1) (ys++[v]) r)else Pv (i+1) ys f)
  (hd:∀ys H,Pv n ys H->∀p,H p=none->Q (.ref p) (Ft H p (.lst ys))):rm J js tc te σ H Q:=by
 exists λi m ys j H=>m=n-i/\i<=n/\ys.length<=i/\Pv i ys H/\∃o,j=o::Qc js σ,#[n,by simp,JR _,Je _,s,none,Z]
 rintro i m ys j H ⟨rfl,hi,t,p,o,rfl⟩
 by_cases a:i<n
 ·refine .inr #[h i ys H a p,by lia,λx H' y=>?_]
  let#[e,l]:=q i ys H x H' a p y;subst e
  exact#[λv f=>Pv (i+1) (ys++[v]) f,λf=>Pv (i+1) ys f,λv f g=>#[n-(i+1),by lia,Z,a,by simp;lia,g,0],λf g=>#[n-(i+1),by lia,Z,a,by lia,g,0],hs i ys _ x a p l]
 ·have e:i=n:=by lia
  subst e;exact .inl #[hst ys H p,hd ys H p]
theorem f7{a:Δ}{xs:Β}(hn:xs.length<=ζ)(Pv:Nat->Β->Hp->Prop)(e:Pv 0 [] H)(hl:∀i ys H,Pv i ys H->Fw K H a xs)
  (hs:∀i ys H x,xs[i]? =↑x->Pv i ys H->tc (↑x::Qc js σ) H λc d=>if c=true then te (↑x::Qc js σ) d (λv f=>Pv (i+1) (ys++[v]) f)else Pv (i+1) ys d)
  (hd:∀ys H,Pv xs.length ys H->∀p,H p=none->Q (.ref p) (Ft H p (.lst ys))):rm (eA K a) js tc te σ H Q:=
 je hn (λi x=>xs[i]? =↑x) Pv e (λi ys H hi p=>#[xs,xs[i],hl _ _ _ p,by simp [hi]]) (λys H p=>#[xs,hl _ _ _ p,Je _]) (λi ys H x H' _ p y=>#[y.1,y.2 xs (hl _ _ _ p)]) (λi ys H x _ p g=>hs i ys H x g p) hd
end
section
variable{o i value:Φ}{pos pos':Pos}{td ty tv:TE}
theorem qA{k:Nat}(hr:FJ k X.A)(ho:QE X o td)(hi:QE X i ty)(hs:tW i:=by exactλ_ _=>rfl):QE X (.Subscript o i pos) (v5 td ty):=#[ye (by have:=hr.un;lia) ho.h hi.h hs]
theorem Qp{k:Nat}(hr:FJ k X.A)(ho:QE X o td)(hi:QE X i ty)(hv:QE X value tv)(hs:swapsWith value ↑(.Subscript o i pos') pos.line X.env=pure false:=by rfl):
  QS X (.Assign [.Subscript o i pos'] value pos) (wg td ty tv):=#[xo (by have:=hr.un;lia) ho.h hi.h hv.h hs]
structure Mo(X:Cx)(pos:Pos)(keys:List Χ)(values:Κ)(trs:List (TE×TE)):Prop where
 h:rG X pos keys values trs
theorem yP:Mo X pos [] [] []:=#[yb]
theorem ZC{k v:Φ}{ks:List Χ}{vs:Κ}{tk tv:TE}{a:List (TE×TE)}(hk:QE X k tk)(hv:QE X v tv)(hr:Mo X pos ks vs a):Mo X pos (↑k::ks) (v::vs) ((tk,tv)::a):=#[vb hk.h hv.h hr.h]
theorem yd{keys:List Χ}{a:Κ}{c:List (TE×TE)}(h:Mo X pos keys a c)(d:keys.all (·.isSome)=true:=by rfl)(hl:keys.length=a.length:=by rfl)(f:keys≠[]:=by(intro z;cases z))
  (e:keys.length<=15:=by decide):QE X (.Dict keys a pos) (vS c):=#[ym h.h d hl f e]
end
theorem br{k:qz}{v:V}:∀{kvs:List (qz×V)} (i:Nat),kvs[i]? =↑(k,v)->(kvs.map (·.1)).Nodup->zR kvs k=↑v
 | [],i,h,_=>by cases h
 |p::r,0,h,_=>by
  cases Jt h
  exact zN Z
 |p::r,i+1,h,nd=>by
  have h':r[i]? =↑(k,v):=h
  have a:p.1∉r.map (·.1)/\(r.map (·.1)).Nodup:=C4.mp nd
  have d:k∈r.map (·.1):=Jv.mpr #[(k,v),JG h',Z]
  have c:p.1≠k:=λz=>a.1 (z▸d)
  rw[zM c];exact br i h' a.2
theorem ve{k:qz}{v u:V}{kvs:List (qz×V)}(i:Nat)(h:kvs[i]? =↑(k,u))(f:(kvs.map (·.1)).Nodup):FZ kvs k v=kvs.set i (k,v):=by
 have c:i<kvs.length:=(Jp.mp h).1
 have a:=(Jp.mp h).2;unfold FZ;rw[Jb]
 ·refine List.ext_getElem (by simp) λj h1 l=>?_
  rw[List.getElem_map,List.getElem_set];have g:j<kvs.length:=by simpa using h1
  by_cases e:i=j
  ·subst e
   rw[Jb (by rw[a]),Jb Z,a]
  ·rw[Jc e,Jc]
   intro z;have d:(kvs.map (·.1))[i]'(by simpa using c)=(kvs.map (·.1))[j]'(by simpa using g):=by rw[List.getElem_map,List.getElem_map,a,z]
   exact e ((List.getElem_inj f).mp d)
 ·rw[Eu]
  exact#[kvs[i],CQ c,by rw[a];exact Jh Z]
theorem nj{k:qz}{v:V}{kvs:List (qz×V)}(h:k∉kvs.map (·.1)):FZ kvs k v=kvs++[(k,v)]:=by
 unfold FZ;rw[Jc];intro z;let#[p,a,e]:=Eu.mp z;exact h (Jv.mpr #[p,a,Jw e])
end L3
namespace L3
open PySem PySem.Spec PyProof.Rows L2
section
variable{X:Cx}{o e:Φ}{apos cpos pos:Pos}{td ty:TE}
theorem uQ{k:Nat}(hr:FJ k X.A)(ho:QE X o td)(ha:QE X e ty)(m:M1 X o "get" apos e cpos:=by exact#[Z,Z,Z,Z]):QE X (.Call (.Attribute o "get" apos) [e] [] cpos) (rN td ty):=#[uL (by have:=hr.un;lia) ho.h ha.h m]
theorem fG:QE X (.Dict [] [] pos) tG:=#[tZ]
theorem AN{k:Nat}(hr:FJ k X.A)(hi:QE X e ty)(ho:QE X o td)(h1:behindInMarks CmpOp.In o=false:=by rfl):QT X (.Compare e [.In] [o] pos) (c8 (AU ty td)):=#[tK (Av (by have:=hr.un;lia) hi.h ho.h) (h1:=h1)]
theorem pS{k:Nat}(hr:FJ k X.A)(hi:QE X e ty)(ho:QE X o td)(h1:behindInMarks CmpOp.NotIn o=false:=by rfl):QT X (.Compare e [.NotIn] [o] pos) (c8 (nT ty td)):=#[tK (rP (by have:=hr.un;lia) hi.h ho.h) (h1:=h1)]
end
structure Kb where
 age:Int
 last:Int
 wt:Option (Int×Int)
abbrev Kw:=List (Str×Kb)
def Wt(H:Hp)(v:V):Option (Int×Int)->Prop
 |none=>v= .non
 |some (x,c)=>∃w,v= .ref w/\H w=↑(.tup [.int x,.int c])
def FT(H:Hp)(a:Δ)(e:Kb):Prop:=∃v,H a=↑(.tup [.int e.age,.int e.last,v])/\Wt H v e.wt
def zY(kn:Kw)(f:Str->Δ):List (qz×V):=kn.map λe=>(Sum.inr e.1,V.ref (f e.1))
def Hq(H:Hp)(d:Δ)(kn:Kw):Prop:=∃f:Kw×(Str->Δ),H d=↑(.dK (zY f.1 f.2))/\(∀e∈kn,FT H (f.2 e.1) e.2)/\f.1.Perm kn/\(kn.map (·.1)).Nodup
def qS(kn:Kw)(nm:Str)(e:Kb):Kw:=if nm∈kn.map (·.1)then kn.map (λp=>if p.1=nm then(nm,e)else p)else kn++[(nm,e)]
theorem Mv.tup{S:Ι}{H H':Hp}{a:Δ}{xs:Β}(m:Mv S H H')(n:NT S H)(h:H a=↑(.tup xs)):H' a=↑(.tup xs):=m _ _ (λz=>by
 let#[o,e,no]:=n a z;rw[e]at h;cases h;exact no) h
theorem Wt.mv{S:Ι}{H H':Hp}{v:V}{o:Option (Int×Int)}(m:Mv S H H')(n:NT S H)(h:Wt H v o):Wt H' v o:=by
 cases o with
 |none=>exact h
 |some p=>let#[w,e,r]:=h;exact#[w,e,m.tup n r]
theorem FT.mv{S:Ι}{H H':Hp}{a:Δ}{e:Kb}(m:Mv S H H')(n:NT S H)(h:FT H a e):FT H' a e:=by
 let#[v,r,w]:=h
 exact#[v,m.tup n r,w.mv m n]
theorem FT.same{H H':Hp}{a:Δ}{e:Kb}(s:Fp H H')(h:FT H a e):FT H' a e:=h.mv (S:=[]) s.mv (λc h=>nomatch h)
theorem Hq.mv{S:Ι}{H H':Hp}{d:Δ}{kn:Kw}(m:Mv S H H')(n:NT S H)(hd:d∉S)(h:Hq H d kn):Hq H' d kn:=by
 let#[f,r,w,p]:=h
 exact#[f,m _ _ hd r,λe a=>(w e a).mv m n,p]
theorem iH(f:Str->Δ)(nm:Str):∀kn:Kw,zR (zY kn f) (Sum.inr nm:qz)=(kn.lookup nm).map λ_=>V.ref (f nm)
 | []=>rfl
 |(m,e)::r=>by
  show zR ((Sum.inr m,V.ref (f m))::zY r f) (Sum.inr nm)=_
  by_cases q:m=nm
  ·subst q
   rw[zN Z,List.lookup_cons_self];rfl
  ·rw[zM (by intro z;injection z with z;exact q z),CW,DT (λz=>q z.symm)]
   exact iH f nm r
theorem Qg{nm:Str}{e:Kb}:∀{kn:Kw},kn.lookup nm=↑e->(nm,e)∈kn
 |(m,x)::r,h=>by
  rw[CW]at h
  by_cases q:nm=m
  ·subst q
   rw[CS]at h;cases h;exact JJ ..
  ·rw[DT q]at h
   exact JF _ (Qg h)
theorem FD{nm:Str}:∀{kn:Kw},(kn.lookup nm).isSome=true↔nm∈kn.map (·.1)
 | []=>by simp
 |(m,x)::r=>by
  rw[CW,JL,Jl]
  by_cases q:nm=m
  ·subst q;simp
  ·rw[DT q]
   simp only[q,false_or];exact FD
theorem jm(kn:Kw)(nm:Str)(e:Kb):(qS kn nm e).map (·.1)=if nm∈kn.map (·.1)then kn.map (·.1)else kn.map (·.1)++[nm]:=by
 unfold qS;split
 ·rw[JW]
  refine DC λp a=>?_
  simp only[Function.comp]
  by_cases y:p.1=nm
  ·rw[Jb y,y]
  ·rw[Jc y]
 ·rw[Jy];rfl
theorem cP{kn:Kw}(c:(kn.map (·.1)).Nodup)(nm:Str)(e:Kb):((qS kn nm e).map (·.1)).Nodup:=by
 rw[jm];split
 ·exact c
 ·rename_i z
  exact DG.mpr #[c,by simp,λa d b f=>by rw[Jn.mp f];exactλw=>z (w▸d)]
theorem Q0{nm:Str}{e:Kb}:∀{kn:Kw},(kn.map (·.1)).Nodup->kn.lookup nm=↑e->∀p∈kn,p.1=nm->p=(nm,e)
 | [],_,h,_,a,_=>by cases a
 |(m,x)::r,nd,h,p,a,hn=>by
  have c:m∉r.map (·.1)/\(r.map (·.1)).Nodup:=C4.mp nd
  rw[CW]at h
  by_cases q:nm=m
  ·subst q
   rw[CS]at h;cases h;rcases Jl.mp a with rfl|a
   ·rfl
   ·exact absurd (Jv.mpr #[p,a,hn]) c.1
  ·rw[DT q]at h
   rcases Jl.mp a with rfl|a
   ·exact absurd hn.symm q
   ·exact Q0 c.2 h p a hn
theorem eY{a kn:Kw}(pm:a.Perm kn)(d:(kn.map (·.1)).Nodup)(nm:Str):a.lookup nm=kn.lookup nm:=by
 cases e:a.lookup nm with
 |none=>
  cases e':kn.lookup nm with
  |none=>rfl
  |some x=>
   have:(a.lookup nm).isSome=true:=FD.mpr ((pm.map (·.1)).mem_iff.mpr (FD.mp (by rw[e'];rfl)))
   rw[e]at this;cases this
 |some x=>
  let#[y,c]:∃y,kn.lookup nm=↑y:=DK.mp (FD.mpr (Jv.mpr #[_,pm.mem_iff.mp (Qg e),Z]))
  rw[c]
  have:=Q0 d c _ (pm.mem_iff.mp (Qg e)) Z
  cases this;rfl
theorem Hq.get{H:Hp}{d:Δ}{kn:Kw}(h:Hq H d kn)(nm:Str):(kn.lookup nm=none/\FW H d (.str nm) none)\/∃e a,kn.lookup nm=↑e/\FW H d (.str nm) ↑(.ref a)/\FT H a e:=by
 let#[#[l,f],c,j,pm,i]:=h;have g:=FW.k (k:=Sum.inr nm) c
 rw[iH,eY pm i]at g;cases q:kn.lookup nm with
 |none=>rw[q]at g;exact .inl #[Z,g]
 |some e=>rw[q]at g;exact .inr #[e,f nm,Z,g,j _ (Qg q)]
theorem aF{a kn:Kw}(pm:a.Perm kn)(nm:Str)(e:Kb):(qS a nm e).Perm (qS kn nm e):=by
 unfold qS
 by_cases z:nm∈kn.map (·.1)
 ·rw[Jb ((pm.map (·.1)).mem_iff.mpr z),Jb z];exact pm.map _
 ·rw[Jc (λw=>z ((pm.map (·.1)).mem_iff.mp w)),Jc z];exact pm.append_right _
theorem Hq.put{H:Hp}{d a:Δ}{kn:Kw}{e:Kb}(h:Hq H d kn)(nm:Str)(hl:kn.length<=100)(hb:FT H a e):∃H',GL H d (.str nm) (.ref a) H'/\Mv [d] H H'/\Hq H' d (qS kn nm e):=by
 let#[#[i,f],s,m,pm,v]:=h;have j:(zY i f).length=kn.length:=(Jd _).trans pm.length_eq
 have hk:∀e∈i,FT H (f e.1) e.2:=λe x=>m e (pm.mem_iff.mp x)
 refine#[_,GL.k (k:=Sum.inr nm) s (by rw[j];exact B3 _),Mv.upd1,(qS i nm e,λn=>if n=nm then a else f n),?_,?_,aF pm nm e,cP v nm e]
 ·rw[qc]
  congr 2
  unfold FZ qS zY;have t:((i.map λe=>((Sum.inr e.1:qz),V.ref (f e.1))).any λu=>decide (u.1=(Sum.inr nm:qz)))=true↔nm∈i.map (·.1):=by
   rw[Eu];constructor
   ·rintro⟨p,c,z⟩
    let#[q,g,rfl]:=Jv.mp c;have r:(Sum.inr q.1:qz)=Sum.inr nm:=Jw z
    injection r with r
    exact Jv.mpr #[q,g,r]
   ·intro z
    let#[q,g,e]:=Jv.mp z
    exact#[_,Jv.mpr #[q,g,Z],Jh (by rw[e])]
  by_cases z:nm∈i.map (·.1)
  ·rw[Jb (t.mpr z),Jb z,JW,JW]
   refine DC λp c=>?_
   simp only[Function.comp]
   by_cases y:p.1=nm
   ·rw[Jb (by rw[y]),Jb y]
    simp [y]
   ·rw[Jc (by intro w;injection w with w;exact y w),Jc y]
    simp [y]
  ·rw[Jc (λw=>z (t.mp w)),Jc z,Jy]
   congr 1
   ·refine DC λp c=>?_
    have y:¬p.1=nm:=λw=>z (Jv.mpr #[p,c,w])
    simp [y]
   ·simp
 ·have nt:NT [d] H:=NT.one s trivial
  intro p c;have c:=(aF pm nm e).mem_iff.mpr c;have l:=hb.mv (Mv.upd1 (o:= .dK (FZ (zY i f) (Sum.inr nm) (.ref a)))) nt
  unfold qS at c;split at c
  ·let#[q,g,rfl]:=Jv.mp c
   by_cases y:q.1=nm
   ·rw[Jb y];simp only[J6];exact l
   ·rw[Jc y]
    show FT _ (if q.1=nm then a else f q.1) q.2
    rw[Jc y]
    exact(hk q g).mv Mv.upd1 nt
  ·rename_i z
   rcases JK.mp c with g|g
   ·have y:¬p.1=nm:=λw=>z (Jv.mpr #[p,g,w])
    show FT _ (if p.1=nm then a else f p.1) p.2
    rw[Jc y]
    exact(hk p g).mv Mv.upd1 nt
   ·rw[Jn.mp g];simp only[J6];exact l
def FK(K:ι)(H:Hp)(hk:Δ)(c:List Ζ):Prop:=∃d:Ι,H hk=↑(.lst (d.map V.ref))/\d.length=c.length/\∀(i:Nat) (a:Δ) (e:Ζ),d[i]? =↑a->c[i]? =↑e->FC K H a (e.map V.int)
theorem FK.mv{K:ι}{S:Ι}{H H':Hp}{hk:Δ}{c:List Ζ}(m:Mv S H H')(n:NT S H)(hd:hk∉S)(h:FK K H hk c):FK K H' hk c:=by
 let#[f,e,l,r]:=h
 exact#[f,m _ _ hd e,l,λi a g d j=>m.sqt n (r i a g d j)]
structure Dr where
 t:Ζ
 kss:List Ζ
 near:Int
 far:Int
 most:Int
 least:Int
 kn:Kw
def dF(D:Dr)(ta hk bd lg:Δ):List (Str×V):=
 [("table",.ref ta),("house_keys",.ref hk),("near",.int D.near),("far",.int D.far),("most",.int D.most),("least_age",.int D.least),("buttons",.ref bd),("log",.ref lg)]
def dN:Α:=["table","house_keys","near","far","most","least_age","buttons","log"]
theorem BW:dN.Nodup:=by decide +kernel
theorem wA(D:Dr)(ta hk bd lg:Δ):((dF D ta hk bd lg).map (·.1)).Nodup:=BW
structure GB(K:ι)(C:Δ):Prop where
 cl:IB K C
 n_table:FS K C "table"
 n_house_keys:FS K C "house_keys"
 n_near:FS K C "near"
 n_far:FS K C "far"
 n_most:FS K C "most"
 n_least_age:FS K C "least_age"
 n_buttons:FS K C "buttons"
 n_log:FS K C "log"
structure Fu(K:ι)(C:Δ)(H:Hp)(p ta hk bd lg:Δ)(n:Nat)(D:Dr):Prop where
 ob:∃dx,H p=↑(.ins C dx (dF D ta hk bd lg))
 tb:FC K H ta (D.t.map V.int)
 ks:FK K H hk D.kss
 kb:Hq H bd D.kn
 lo:∃rs:Ι,H lg=↑(.lst (rs.map V.ref))/\rs.length<=n
 ne:lg≠hk
section
variable{K:ι}{C:Δ}{H H':Hp}{p ta hk bd lg dx:Δ}{n:Nat}{D:Dr}
theorem Fu.has(b:Fu K C H p ta hk bd lg n D)(U:GB K C)(i:Nat){f:Str}{v:V}(h:(dF D ta hk bd lg)[i]? =↑(f,v))(a:FS K C f):aY K H p f v:=by
 let#[dx,e]:=b.ob
 exact#[C,dx,_,e,U.cl,a,iT i h (wA ..)]
theorem Fu.h_table(b:Fu K C H p ta hk bd lg n D)(U:GB K C):aY K H p "table" (.ref ta):=b.has U 0 Z U.n_table
theorem Fu.h_house_keys(b:Fu K C H p ta hk bd lg n D)(U:GB K C):aY K H p "house_keys" (.ref hk):=b.has U 1 Z U.n_house_keys
theorem Fu.h_near(b:Fu K C H p ta hk bd lg n D)(U:GB K C):aY K H p "near" (.int D.near):=b.has U 2 Z U.n_near
theorem Fu.h_far(b:Fu K C H p ta hk bd lg n D)(U:GB K C):aY K H p "far" (.int D.far):=b.has U 3 Z U.n_far
theorem Fu.h_most(b:Fu K C H p ta hk bd lg n D)(U:GB K C):aY K H p "most" (.int D.most):=b.has U 4 Z U.n_most
theorem Fu.h_least_age(b:Fu K C H p ta hk bd lg n D)(U:GB K C):aY K H p "least_age" (.int D.least):=b.has U 5 Z U.n_least_age
theorem Fu.h_buttons(b:Fu K C H p ta hk bd lg n D)(U:GB K C):aY K H p "buttons" (.ref bd):=b.has U 6 Z U.n_buttons
theorem Fu.h_log(b:Fu K C H p ta hk bd lg n D)(U:GB K C):aY K H p "log" (.ref lg):=b.has U 7 Z U.n_log
theorem Fu.no(b:Fu K C H p ta hk bd lg n D){m:Str}(h:m∉dN:=by decide +kernel):Ce C H p m:=by
 let#[dx,e]:=b.ob
 exact#[dx,_,e,i8 h]
theorem Fu.mv{S:Ι}(b:Fu K C H p ta hk bd lg n D)(m:Mv S H H')(nt:NT S H)(hp:p∉S)(c:hk∉S)(hb:bd∉S)(hl:lg∉S):Fu K C H' p ta hk bd lg n D:=by
 let#[dx,e]:=b.ob;let#[rs,a,l]:=b.lo
 exact#[#[dx,m _ _ hp e],m.sqt nt b.tb,b.ks.mv m nt c,b.kb.mv m nt hb,#[rs,m _ _ hl a,l],b.ne]
theorem Fu.same(b:Fu K C H p ta hk bd lg n D)(s:Fp H H'):Fu K C H' p ta hk bd lg n D:=b.mv (S:=[]) s.mv (λc h=>nomatch h) (λh=>nomatch h) (λh=>nomatch h) (λh=>nomatch h) (λh=>nomatch h)
end
inductive Mb (x:V) (y:V) (H:Hp) (Q:VK):Prop
 |mk (o:Option (Int×Int)) (b:Δ) (a c:Int) (h1:Wt H x o) (h2:y= .ref b) (h3:Rd H b (.tup [.int a,.int c])) (h4:Q (.bl (decide (o=↑(a,c)))) H)
def CA:R2:=λx y H Q=>Mb x y H Q
theorem AY{X:Cx}{k:Nat}(hr:FJ k X.A):zf X (compareOp .Eq) CA:=by
 intro tx s σ H x y v u Q I E M h;let#[o,b,a,c,C,rfl,J,q]:=h;cases M;let#[f,F,p2,_]:=I.tuple (.inl J)
 have B:X.A.units<cLine:=by have:=hr.un;lia
 cases o with
 |none=>
  have l:x= .non:=C
  subst l;cases E;rw[Jj (by intro z;cases z)]at q
  exact SeqAt.RcAt.none_tuple p2 B _ _ _ _ #[.bl false,H,I,Z,q]
 |some pr=>
  let#[m,n]:=pr;let#[w,rfl,l]:=C;cases E;let#[i,D,P,_]:=I.tuple (.inl (.inl l))
  have p:=D.length;have r:=F.length;have N:=SeqAt.RcAt.tuples (A:=X.A) (e:=λj=>[m,n].getD j 0==[a,c].getD j 0) (show s.heap.IsTuple w i.toArray from P) (show s.heap.IsTuple b f.toArray from p2) B (λj h1 K=>by
   have d:j<i.length:=by simpa using h1
   have g:j<f.length:=by simpa using K
   let#[t,e]:=c9 (ns:=[m,n]) D j d (by rw[<- p]at d;exact d)
   let#[R,O]:=c9 (ns:=[a,c]) F j g (by rw[<- r]at g;exact g)
   simp only[List.getElem_toArray,e,O,JE,Jg (show j<[m,n].length by rw[<- p]at d;exact d),Jg (show j<[a,c].length by rw[<- r]at g;exact g),De]
   exact SeqAt.EqAt.int_int _ _ _ _)
  have G:i.toArray.size=2:=by rw[Jr,<- p];rfl
  have L:f.toArray.size=2:=by rw[Jr,<- r];rfl
  refine N _ _ _ _ #[.bl _,H,I,?_,q]
  show Γ.bool _=Γ.bool _
  congr 1
  rw[G,L,show min 2 2=([m,n]:Ζ).length from Z,lE [m,n] [a,c] Z]
  simp
def oC(c l n f:Int):Str:=if c<=l then "old" else if c<=l+n then "near" else if c<=l+f then "far" else "beyond"
inductive Le (vs:Β) (H:Hp) (Q:VK):Prop
 |mk (c l n f:Int) (h1:vs=[.int c,.int l,.int n,.int f]) (h2:Q (.str (oC c l n f)) H)
def oh:Sp:=λa H Q _=>Le a H Q
def zh(a d:Int)(e:Kb)(age c:Int):Str×Kb:=
 if c<=e.last then("old",e)else if c<=e.last+a then("near",#[age,c,none])
 else if c<=e.last+d then(if e.wt=↑(age,c-1)then("near",#[age,c,none])else("far",#[e.age,e.last,↑(age,c)]))else("beyond",e)
inductive Lf (vs:Β) (H:Hp) (Q:VK):Prop
 |mk (a:Δ) (e:Kb) (age c near far:Int) (h1:vs=[.ref a,.int age,.int c,.int near,.int far]) (h2:FT H a e) (h3:∀q a' H',Fp H H'->H' q=↑(.tup [.str (zh near far e age c).1,.ref a'])->FT H' a' (zh near far e age c).2->Q (.ref q) H')
def iG:Sp:=λa H Q _=>Lf a H Q
def zT(D:Dr)(age:Int):Bool:=decide (D.least<=age)&&decide (age<D.kss.length)
def zm(D:Dr)(e:Kb)(age:Int):Bool:=zT D age&&decide (e.age<=age)
def q9(D:Dr)(nm:Str)(age:Int)(r:Option (Int×Int)):Β×Kw:=
 match D.kn.lookup nm with
 |none=>([.str "held",.str "unknown"],D.kn)
 |some e=>if zm D e age=true then(match r with
   |none=>([.str "held",.str "false"],D.kn)
   |some (c,d)=>if(zh D.near D.far e age c).1="near" then([.str "open",.str nm,.int d],qS D.kn nm (zh D.near D.far e age c).2)else([.str "held",.str (zh D.near D.far e age c).1],qS D.kn nm (zh D.near D.far e age c).2))
  else([.str "held",.str "age"],D.kn)
structure GR(D:Dr):Prop where
 tp:D.t.Perm F5
 l0:0<=D.least
 kl:D.kss.length<=8
 nl:D.kn.length<=60
 nd:(D.kn.map (·.1)).Nodup
section
variable(K:ι)(C:Δ)
inductive Lg (vs:Β) (H:Hp) (Q:VK):Prop
 |mk (p ta hk bd lg:Δ) (n:Nat) (D:Dr) (h1:vs=[.ref p]) (h2:Fu K C H p ta hk bd lg n D) (h3:Q (.bl (decide (D.most<=(D.kn.length:Int)))) H)
def nQ:Sp:=λa H Q _=>Lg K C a H Q
inductive IG (vs:Β) (H:Hp) (Q:VK):Prop
 |mk (p ta hk bd lg:Δ) (n:Nat) (D:Dr) (age:Int) (h1:vs=[.ref p,.int age]) (h2:Fu K C H p ta hk bd lg n D) (h3:Q (.bl (zT D age)) H)
def fc:Sp:=λa H Q _=>IG K C a H Q
inductive Lh (vs:Β) (H:Hp) (Q:VK):Prop
 |mk (p ta hk bd lg a:Δ) (n:Nat) (D:Dr) (e:Kb) (age:Int) (h1:vs=[.ref p,.ref a,.int age]) (h2:Fu K C H p ta hk bd lg n D) (h3:FT H a e) (h4:Q (.bl (zm D e age)) H)
def cQ:Sp:=λa H Q _=>Lh K C a H Q
inductive LN (vs:Β) (H:Hp) (Q:VK):Prop
 |mk (p ta hk bd lg:Δ) (n:Nat) (D:Dr) (nm:Str) (h1:vs=[.ref p,.str nm]) (h2:Fu K C H p ta hk bd lg n D) (h3:(D.kn.lookup nm=none->Q .non H)) (h4:(∀e a,D.kn.lookup nm=↑e->FT H a e->Q (.ref a) H))
def jN:Sp:=λa H Q _=>LN K C a H Q
inductive Li (vs:Β) (H:Hp) (Q:VK):Prop
 |mk (p ta hk bd lg a:Δ) (n:Nat) (D:Dr) (e:Kb) (age c:Int) (h1:vs=[.ref p,.ref a,.int age,.int c]) (h2:Fu K C H p ta hk bd lg n D) (h3:FT H a e) (h4:zm D e age=true) (h5:∀q a' H',Fp H H'->H' q=↑(.tup [.str (zh D.near D.far e age c).1,.ref a'])->FT H' a' (zh D.near D.far e age c).2->Q (.ref q) H')
def nB:Sp:=λa H Q _=>Li K C a H Q
def FP(H:Hp)(c:Δ)(nm:Str)(age:Int)(ds:Ζ):Prop:=∃a,H c=↑(.tup [.str nm,.int age,.ref a])/\H a=↑(.tup (ds.map V.int))
def zJ(D:Dr)(age:Int):Ζ:=D.kss.getD age.toNat []
inductive Ie (vs:Β) (H:Hp) (Q:VK):Prop
 |mk (p ta hk bd lg pr:Δ) (n:Nat) (D:Dr) (nm:Str) (age:Int) (ds:Ζ) (h1:vs=[.ref p,.ref pr]) (h2:Fu K C H p ta hk bd lg n D) (h3:GR D) (h4:FP H pr nm age ds) (h5:Zp nm) (h6:ds.length=5) (h7:zt ds) (h8:∀q H',Mv [bd] H H'->H' q=↑(.tup (q9 D nm age (Qd D.t (zJ D age) nm ds)).1)->Fu K C H' p ta hk bd lg n {D with kn:=(q9 D nm age (Qd D.t (zJ D age) nm ds)).2}->Q (.ref q) H')
def iV:Sp:=λa H Q _=>Ie K C a H Q
end
theorem FP.mv{S:Ι}{H H':Hp}{a:Δ}{nm:Str}{age:Int}{ds:Ζ}(m:Mv S H H')(n:NT S H)(h:FP H a nm age ds):FP H' a nm age ds:=by
 let#[d,c,e]:=h
 exact#[d,m.tup n c,m.tup n e]
theorem FP.same{H H':Hp}{a:Δ}{nm:Str}{age:Int}{ds:Ζ}(s:Fp H H')(h:FP H a nm age ds):FP H' a nm age ds:=by
 let#[d,c,e]:=h
 exact#[d,s _ _ c,s _ _ e]
theorem jb{X:Cx}:zf X (compareOp .LtE) (λx y H Q=>∃i j,x= .str i/\y= .str j/\Q (.bl (! decide (j.cps.toList<i.cps.toList))) H):=by
 intro tx s σ H x y v u Q I c a h;let#[i,j,rfl,rfl,q]:=h;let#[t,rfl]:=c;let#[d,rfl]:=a;exact PySem.P.le_str (qP I q Z)
theorem t9{js:Ε}{te:TE}{σ:L2.St}{H:Hp}{Q:VK}{x:Str}(hn:x.cps.size<=ζ)(Pv:Nat->Β->Hp->Prop)(f:Pv 0 [] H)
  (hs:∀i ys H c,x.cps[i]? =↑c->ys.length=i->Pv i ys H->te (↑(.str #[(List.toArray [c])])::Qc js σ) H λv e=>Pv (i+1) (ys++[v]) e)
  (hd:∀ys H,ys.length=x.cps.size->Pv x.cps.size ys H->∀p,H p=none->Q (.ref p) (Ft H p (.lst ys))):aI (wj x) js te σ H Q:=
 ay hn (λi v=>∃c,x.cps[i]? =↑c/\v= .str #[(List.toArray [c])]) Pv f (λi ys H hi p=>hi) (λys H p=>Je _) (λi ys H v H' _ p y=>y) (λi ys H v hi g p d=>by
  let#[c,a,rfl]:=d;exact hs i ys H c a g p) hd
theorem uF{ds:Ζ}(h:zt ds):(ds.map V.int).all bG=true:=by
 rw[Dk];intro x a;let#[i,hi,rfl]:=Jv.mp a
 have:=h i hi
 show(decide (0<=i)&&decide (i<16))=true
 rw[Jh this.1,Jh this.2];rfl
theorem zr{c:Bool}{a b:Prop}(h:c=true)(x:a):if c=true then a else b:=by rw[Jb h];exact x
theorem zI{c:Bool}{a b:Prop}(h:c=false)(x:b):if c=true then a else b:=by rw[Jc (by rw[h];intro z;cases z)];exact x
theorem zo{K:ι}{C p dx:Δ}{H:Hp}{fs:List (Str×V)}{f:Str}{v:V}(c:IB K C)(e:H p=↑(.ins C dx fs))(n:FS K C f)(i:Nat)(a:fs.map (·.1)=dN.take i:=by rfl)(hn:f∉dN.take i:=by decide +kernel):
  li K H p f v (Ft H p (.ins C dx (fs++[(f,v)]))):=#[C,dx,fs,e,c,n,by
  have h1:fs.length=(dN.take i).length:=by rw[<- a,Jd]
  have d:(dN.take i).length<=8:=by rw[J0];exact Nat.min_le_right _ _
  lia,by rw[lF (by rw[a];exact hn)]]
theorem FK.upd{K:ι}{C p dx b:Δ}{H:Hp}{fs:List (Str×V)}{a:List Ζ}{o:HO}(e:H p=↑(.ins C dx fs))(h:FK K H b a):FK K (Ft H p o) b a:=by
 let#[d,c,l,r]:=id h;exact h.mv Mv.upd1 (NT.one e trivial) (qE (qC c e (by intro z;cases z)))
theorem FK.same{K:ι}{H H':Hp}{b:Δ}{a:List Ζ}(s:Fp H H')(h:FK K H b a):FK K H' b a:=h.mv (S:=[]) s.mv (λc h=>nomatch h) (λh=>nomatch h)
theorem Mv.nfree{S:Ι}{H H':Hp}{x:Δ}(m:Mv S H H')(hn:x∉S)(h:H' x=none):H x=none:=by
 cases e:H x with
 |none=>rfl
 |some o=>rw[m x o hn e]at h;cases h
theorem FK.at{K:ι}{H:Hp}{hk:Δ}{D:Dr}{age:Int}(h:FK K H hk D.kss)(f:0<=age)(h1:age<D.kss.length):∃(xs:Β) (d:Δ),H hk=↑(.lst xs)/\QQ xs age=↑(.ref d)/\FC K H d ((zJ D age).map V.int):=by
 let#[c,e,l,r]:=h;let#[i,rfl]:∃i:Nat,age=(i:Int):=#[age.toNat,by lia]
 have hi:i<D.kss.length:=by lia
 have a:i<c.length:=by lia
 exists _,c[i],e,zW (by rw[Jk,Jg a];rfl)
 have:=r i c[i] D.kss[i] (Jg a) (Jg hi)
 unfold zJ;rw[Dm,JE,Jg hi];exact this
theorem jw{D:Dr}{e:Kb}{age:Int}(h:zm D e age=true)(c:0<=D.least):0<=age/\age<D.kss.length:=by
 unfold zm zT at h;rw[JC,JC]at h;have h1:=Jw h.1.1;have a:=Jw h.1.2;lia
theorem Fu.putK{K:ι}{C:Δ}{H H':Hp}{p ta hk bd lg:Δ}{n:Nat}{D:Dr}{a:Kw}(b:Fu K C H p ta hk bd lg n D)(m:Mv [bd] H H')(h:Hq H' bd a):Fu K C H' p ta hk bd lg n {D with kn:=a}:=by
 let#[dx,e]:=b.ob;let#[f,c,_]:=b.kb;let#[rs,d,l]:=b.lo;let#[i,g,_]:=id b.ks;have nt:NT [bd] H:=NT.one c trivial
 exact#[#[dx,m _ _ (qE (qC e c (by intro z;cases z))) e],m.sqt nt b.tb,b.ks.mv m nt (qE (qC g c (by intro z;cases z))),h,#[rs,m _ _ (qE (qC d c (by intro z;cases z))) d,l],b.ne]
theorem Fu.putL{K:ι}{C:Δ}{H:Hp}{p ta hk bd lg r:Δ}{n:Nat}{D:Dr}{rs:Ι}(b:Fu K C H p ta hk bd lg n D)(a:H lg=↑(.lst (rs.map V.ref)))(hl:rs.length<=n):Fu K C (Ft H lg (.lst (rs.map V.ref++[.ref r]))) p ta hk bd lg (n+1) D:=by
 let#[dx,e]:=b.ob;let#[f,c,_]:=id b.kb;have nt:NT [lg] H:=NT.one a trivial
 have m:Mv [lg] H (Ft H lg (.lst (rs.map V.ref++[.ref r]))):=Mv.upd1
 exact#[#[dx,m _ _ (qE (qC e a (by intro z;cases z))) e],m.sqt nt b.tb,b.ks.mv m nt (qE b.ne.symm),b.kb.mv m nt (qE (qC c a (by intro z;cases z))),#[rs++[r],by rw[qc,Jy];rfl,by rw[Jx];exact Nat.succ_le_succ hl],b.ne]
theorem Iz.pair{H:Hp}{a b:Δ}{z:Str}{i:Int}(h1:H a=↑(.tup [.str z,.int i]))(h2:H b=↑(.tup [.str z,.int i])):Iz H 1 (.ref a) (.ref b):=
 .tup (n:=0) (.inl h1) (.inl h2) Z λj x y ex c=>by
  match j,ex,c with
  |0,ex,c=>cases ex;cases c;exact .str _ _
  |1,ex,c=>cases ex;cases c;exact .int _ _
  |j+2,ex,c=>cases ex
abbrev wD(a b:Str):Prop:=a.cps.toList<=b.cps.toList
theorem yU{a b:Str}(h:ltCps b.cps.toList a.cps.toList=false):wD a b:=by
 rw[ltCps_eq]at h;exact List.not_lt.mp (of_decide_eq_false h)
theorem jf:∀{l:Α} {p:Str},risingS p l=true->(p::l).Pairwise wD
 | [],p,_=>by simp
 |x::r,p,h=>by
  have h':(! ltCps x.cps.toList p.cps.toList&&risingS x r)=true:=h
  rw[JC,Bool.not_eq_true']at h';have d:=jf h'.2;have a:=yU h'.1;refine List.pairwise_cons.mpr #[λy c=>?_,d]
  rcases Jl.mp c with rfl|c
  ·exact a
  ·exact List.le_trans a ((List.pairwise_cons.mp d).1 y c)
theorem gD{l:Α}(h:sortedS l=true):l.Pairwise wD:=by
 cases l with
 |nil=>exact .nil
 |cons x r=>exact jf h
theorem mM{l a b:Α}(h:a.Perm l)(g:sortedS a=true)(c:b.Perm l)(d:sortedS b=true):a=b:=by
 refine List.Perm.eq_of_pairwise (le:=wD) (λx y _ _ h1 f=>?_) (gD g) (gD d) (h.trans c.symm)
 have e:x.cps.toList=y.cps.toList:=List.le_antisymm h1 f
 cases x with
 |mk u=>cases y with
  |mk v=>
   have:u=v:=Array.toList_inj.mp e
   rw[this]
def Ht(H:Hp)(q:Δ)(ss:Α)(kn:Kw):Prop:=∃c:Ι,H q=↑(.tup (c.map V.ref))/\c.length=ss.length/\∀(i:Nat) (a:Δ) (nm:Str) (e:Kb),c[i]? =↑a->ss[i]? =↑nm->kn.lookup nm=↑e->∃v,H a=↑(.tup [.str nm,.int e.age,.int e.last,v])/\Wt H v e.wt
inductive IH (K:ι) (C:Δ) (vs:Β) (H:Hp) (Q:VK):Prop
 |mk (p ta hk bd lg:Δ) (n:Nat) (D:Dr) (h1:vs=[.ref p]) (h2:Fu K C H p ta hk bd lg n D) (h3:GR D) (h4:∀q ss H',Fp H H'->ss.Perm (D.kn.map (·.1))->sortedS ss=true->Ht H' q ss D.kn->Q (.ref q) H')
def lV(K:ι)(C:Δ):Sp:=λa H Q _=>IH K C a H Q
theorem wL{X:Cx}{K:ι}{e:Φ}{f:Str}{pos:Pos}{ta:TE}(a:X.K=K)(he:QE X e ta)(hb:attributeBase e f X.env (eval e X.env)=eval e X.env:=by rfl):QE X (.Attribute e f pos) (wB K ta f):=by
 subst a;exact zb he hb
theorem nV(kn:Kw)(f:Str->Δ):(zY kn f).map (·.1)=(kn.map (·.1)).map Sum.inr:=by
 unfold zY;rw[JW,JW];rfl
theorem Qv{kn:Kw}{nm:Str}(h:nm∈kn.map (·.1)):∃e,kn.lookup nm=↑e:=DK.mp (FD.mpr h)
theorem Z7:∀(a kvs:List (qz×V)),((kvs++a).map (·.1)).Nodup->Qh kvs a=kvs++a
 | [],kvs,_=>by simp [Qh]
 |p::r,kvs,nd=>by
  have c:p.1∉kvs.map (·.1):=λz=>by
   rw[Jy,JL]at nd
   exact(DG.mp nd).2.2 _ z _ (JJ ..) Z
  show Qh (FZ kvs p.1 p.2) r=_
  rw[nj c,Z7 r (kvs++[(p.1,p.2)]) (by rw[Dy];exact nd),Dy]
  rfl
inductive Lj (vs:Β) (H:Hp) (Q:VK):Prop
 |mk (b:Δ) (many c:Nat) (h1:vs=[.ref b,.int (many:Int)]) (h2:F2 H b c) (h3:c<100000000) (h4:many<=12) (h5:∀l (ns:Α) H',FY b (c+many) H H'->H l=none->H' l=↑(.lst (ns.map V.str))->ns.length=many->ns.Nodup->(∀z∈ns,Zp z)->Q (.ref l) H')
def nU:Sp:=λa H Q _=>Lj a H Q
theorem pB(a:Α)(k:Nat):(a.map V.str).eraseIdx k=(a.eraseIdx k).map V.str:=by
 rw[List.eraseIdx_eq_take_drop_succ,List.eraseIdx_eq_take_drop_succ,Jy,List.map_take,List.map_drop]
theorem tw{c zs:Α}{k:Nat}(h:k<c.length):(zs++[c[k]]++c.eraseIdx k).Perm (zs++c):=by
 rw[Dy];refine List.Perm.append_left zs ?_
 rw[List.eraseIdx_eq_take_drop_succ];have e:c=c.take k++c[k]::c.drop (k+1):=by rw[<- List.drop_eq_getElem_cons h,List.take_append_drop]
 refine List.Perm.trans (List.perm_middle (a:=c[k]) (l₁:=c.take k) (l₂:=c.drop (k+1))).symm ?_
 rw[<- e]
section
variable{a:Ad}
theorem Qn{as:Ι}{ys:Β}{y:V}(i:Nat)(c:ys[i]? =↑y)(h:∀a,y≠ .ref a):HO.lst (as.map V.ref)≠HO.lst ys:=wK (f:=id) i c h
end
structure II(D:Dr)(e:Kb):Prop where
 a0:0<=e.age
 a1:e.age<D.kss.length
 l0:0<=e.last
 l1:e.last<4096
 w:∀x c,e.wt=↑(x,c)->0<=c/\c<4096
section
variable{ns:Α}
theorem eI(hn:1<=ns.length)(x y z:Int):HO.lst (ns.map V.str)≠hX x y z:=by
 cases ns with
 |nil=>cases hn
 |cons u r=>exact Bl 0 (x:= .str u) (y:= .int x) Z Z (by intro z;cases z)
end
theorem kQ{kn:Kw}{nm:Str}{e:Kb}:∀{l:Kw},(∀p∈l,p.1=nm->p=(nm,e))->l.map (λp=>if p.1=nm then(nm,e)else p)=l
 | [],_=>rfl
 |p::r,h=>by
  rw[JL,kQ (kn:=kn) λq a=>h q (JF _ a)]
  by_cases y:p.1=nm
  ·rw[Jb y,h p (JJ ..) y]
  ·rw[Jc y]
theorem tz{kn:Kw}{nm:Str}{e:Kb}(a:(kn.map (·.1)).Nodup)(h:kn.lookup nm=↑e):qS kn nm e=kn:=by
 unfold qS;rw[Jb (FD.mp (by rw[h];rfl))]
 exact kQ (kn:=kn) (Q0 a h)
theorem ge{kn:Kw}{nm:Str}{e x:Kb}(h:kn.lookup nm=↑e):(qS kn nm x).map (·.1)=kn.map (·.1):=by
 rw[jm,Jb (FD.mp (by rw[h];rfl))]
theorem Fu.setF{K:ι}{C:Δ}{H:Hp}{p dx:Δ}{fs:List (Str×V)}{f:Str}{u v:V}(i:Nat)(c:IB K C)(d:FS K C f)(e:H p=↑(.ins C dx fs))(hf:fs[i]? =↑(f,u))(a:(fs.map (·.1)).Nodup)(hl:fs.length<1000):
  li K H p f v (Ft H p (.ins C dx (fs.set i (f,v)))):=#[C,dx,fs,e,c,d,hl,by rw[nW i hf a]]
theorem _root_.L2.Fp.put{H H1:Hp}{x:Δ}{o:HO}(s:Fp H H1)(h:H x=none):Fp H (Ft H1 x o):=λc u e=>by
 rw[qi (qt e h)];exact s c u e
section
variable{K:ι}{C:Δ}{H:Hp}{p ta hk bd lg dx:Δ}{D:Dr}
theorem sd(U:GB K C)(e:H p=↑(.ins C dx (dF D ta hk bd lg)))(z:Int):li K H p "least_age" (.int z) (Ft H p (.ins C dx (dF {D with least:=z} ta hk bd lg))):=Fu.setF 5 U.cl U.n_least_age e Z (wA ..) (by show 8<1000;decide)
end
theorem tV{kn:Kw}{nm:Str}{x:Kb}(d:(kn.map (·.1)).Nodup):(qS kn nm x).lookup nm=↑x:=by
 have c:(nm,x)∈qS kn nm x:=by
  unfold qS;split
  ·rename_i h
   let#[p,f,e]:=Jv.mp h;exact Jv.mpr #[p,f,Jb e]
  ·exact JY _ (Jn.mpr Z)
 let#[y,a]:=Qv (Jv.mpr #[_,c,Z])
 have:=Q0 (cP d nm x) a _ c Z
 cases this;exact a
theorem vf{i:Nat}{x:V}{σ:L2.St}{H:Hp}{f b c:L2.St->Hp->Prop}{r:VK}(h:f (σ.set i ↑x) H):Qz i x σ H (Gj.mk f r b c).nx:=h
section
variable{X:Cx}{e:Φ}{pos:Pos}
theorem kL{c:Φ}{a:List δ}{tc:TT}{tb:TS}(hp:PassesOwn (model X.prog X.w) X.A X.env X.xe)(hc:QT X c tc)(hb:IX X a tb):QS X (.While c a [] pos) (mh tc tb):=#[vF hp hc.h hb.h]
inductive Mc (K:ι) (x:V) (y:V) (H:Hp) (Q:VK):Prop
 |mk (a b:Δ) (xs:Β) (h1:x= .ref a) (h2:y= .ref b) (h3:Fw K H a xs) (h4:Fw K H b []) (h5:Q (.bl (! xs.isEmpty)) H)
def Cy(K:ι):R2:=λx y H Q=>Mc K x y H Q
theorem tO{k:Nat}(hr:FJ k X.A):zf X (compareOp .NotEq) (Cy X.K):=by
 intro tx s σ H x y v u Q I o C h;let#[a,b,xs,rfl,rfl,B,p,q]:=h;cases o;cases C;have i:X.A.units+1<cLine:=by have:=hr.un;lia
 let#[d,m,l,_]:=I.list B;let#[c,n,p2,_]:=I.list p;have f:=m.length;have g:=n.length;cases xs with
 |nil=>
  have e:=SeqAt.RcNeAt.lists (A:=X.A) (e:=λ_=>true) l.isList p2.isList (by simp;lia) (Nat.lt_of_succ_lt i) (λj h1 t=>by
   have w:j<c.length:=by simpa using t
   have:c.length=0:=by rw[<- g];rfl
   lia)
  refine e _ _ _ _ #[.bl _,H,I,?_,q]
  show Γ.bool _=Γ.bool _
  congr 1
  have z:d.toArray.size=0:=by rw[Jr,<- f];rfl
  rw[z];rfl
 |cons x r=>
  refine SeqAt.RcNeAt.lists_lengths l.isList p2.isList (by
   have D:d.length=r.length+1:=by rw[<- f];rfl
   have E:c.length=0:=by rw[<- g];rfl
   simp;lia) (Nat.lt_of_succ_lt i) _ _ _ _ #[.bl _,H,I,Z,q]
end
theorem Ht.same{H H':Hp}{q:Δ}{ss:Α}{kn:Kw}(h:Ht H q ss kn)(s:Fp H H'):Ht H' q ss kn:=by
 let#[j,e,l,r]:=h
 exact#[j,s _ _ e,l,λi a nm x d g f=>let⟨v,a1,a2⟩:=r i a nm x d g f;#[v,s _ _ a1,a2.mv (S:=[]) s.mv (λc h=>nomatch h)]]
theorem Fu.putLeast{K:ι}{C:Δ}{H:Hp}{p ta hk bd lg:Δ}{n:Nat}{D:Dr}(b:Fu K C H p ta hk bd lg n D)(U:GB K C)(z:Int):∃dx,li K H p "least_age" (.int z) (Ft H p (.ins C dx (dF {D with least:=z} ta hk bd lg)))/\Mv [p] H (Ft H p (.ins C dx (dF {D with least:=z} ta hk bd lg)))/\Fu K C (Ft H p (.ins C dx (dF {D with least:=z} ta hk bd lg))) p ta hk bd lg n {D with least:=z}:=by
 let#[dx,e]:=b.ob;let#[f,d,_]:=id b.kb;let#[rs,a,l]:=b.lo;let#[g,c,_]:=id b.ks;have nt:NT [p] H:=NT.one e trivial
 have m:Mv [p] H (Ft H p (.ins C dx (dF {D with least:=z} ta hk bd lg))):=Mv.upd1
 exact#[dx,sd U e z,m,#[dx,qc],m.sqt nt b.tb,b.ks.mv m nt (qE (qC c e (by intro z;cases z))),b.kb.mv m nt (qE (qC d e (by intro z;cases z))),#[rs,m _ _ (qE (qC a e (by intro z;cases z))) a,l],b.ne]
def zU(D:Dr)(e:Kb)(age c:Int):Str×Kb:=if zm D e age=true then zh D.near D.far e age c else("age",e)
inductive IJ (K:ι) (C:Δ) (vs:Β) (H:Hp) (Q:VK):Prop
 |mk (p ta hk bd lg a:Δ) (n:Nat) (D:Dr) (e:Kb) (age c:Int) (h1:vs=[.ref p,.ref a,.int age,.int c]) (h2:Fu K C H p ta hk bd lg n D) (h3:FT H a e) (h4:∀q a' H',Fp H H'->H' q=↑(.tup [.str (zU D e age c).1,.ref a'])->FT H' a' (zU D e age c).2->Q (.ref q) H')
def fI(K:ι)(C:Δ):Sp:=λa H Q _=>IJ K C a H Q
theorem yL{D:Dr}{nm:Str}{age:Int}{r:Option (Int×Int)}(h:D.kn.lookup nm=none):q9 D nm age r=([.str "held",.str "unknown"],D.kn):=by
 unfold q9;rw[h]
section
variable{H H':Hp}{bx:Δ}{nb:Nat}
theorem F2.moved{S:Ι}(hb:F2 H bx nb)(m:Mv S H H')(h:bx∉S):F2 H' bx nb:=by
 let#[a,d,c,e,r]:=hb
 exact#[a,d,c,m _ _ h e,r]
end
end L3
namespace PySem
open Sem (wp)
theorem mf:typeLookup (.type "list") "keys"=pure none:=by rw[D7,D8];kernel_rfl
theorem k6{prog:Ξ}{w:Ω}{A:Around}{E:Fl}{s:Θ}{a:Δ}{o:Obj}{xs:Array Γ}{k:Nat}{Q:Ν->Θ->Prop}
  (hx:s.heap.get? a=↑o)(hc:o.cls= .type "list")(f:o.data= .seq xs k)(hd:o.dict=none)(t:A.handled=none)
  (h:∀h' tk e,Ψ.NewExcOf s.heap h' e "AttributeError"->Q none {s with heap:=h',toks:=tk}):
  ε (model prog w) A (getAttr? (.ref a) "keys") Q E s:=by
 let#[c,n,q,r]:=o;simp only at hc f hd
 subst hc f hd;let#[p,g,d,tk,m]:=s;have l:∀j,(#[p,g,d,j,m]:Θ).TypeIs (.ref a) "list":=λ_=>#[_,hx,Z]
 have f1:=sub_AttributeError;have v:=F.slot_list_getattribute.lookup;have y:=F.slot_list_getattribute.bind (.ref a);have z:=am_list_getattr_none;unfold getAttr? getAttrBy? getAttrBy
 repeat (any_goals (first|assumption|exact l _|((with_reducible show ε _ _ (call (Γ.builtin "list.__getattribute__") _ _) _ _ _);refine Dz F.slot_list_getattribute (l _) am_entry_list_getattribute (F.args_list_getattribute_2 _ _) (meets_getattribute_miss_list a xs k r "keys" _ mf nofun (by size_fits)) #[hx,t,λh' j e i=>?_])|wp_step))
 let#[u,x,B]:=i.there
 show ε _ _ (getattributeRaised _ _ _ _ _ _ _) _ _ _
 unfold getattributeRaised
 repeat (any_goals (first|assumption|wp_step))
 exact h _ _ _ i.of
end PySem
namespace PyProof.Rows
open PySem PySem.Spec
theorem Q3:entryFor table "dict.update.loop"=some γ.«dict.update.loop»:=entryFor_of_tree (by kernel_rfl)
theorem zP:plainId "dict.update.loop"=true:=by decide +kernel
section
variable{prog:Ξ}{w:Ω}{A:Around}{R:Result->Θ->Prop}{I:Δ}{fp wr:Ι}{G:Array GenState->Array GenState->Prop}{n:Nat}{P:Nat->Γ->Prop}{St:Nat->Θ->Prop}
theorem oV{A:Around}{s:Θ}{E:Fl}{Q:Η->Θ->Prop}{a:Δ}{x y:Γ}(h:s.heap.IsTuple a (List.toArray [x,y]))(d:Q [x,y] s):ε (model prog w) A (γ.Dict.pairItems (.ref a)) Q E s:=by
 let#[o,e,f,m,c]:=id h;unfold γ.Dict.pairItems;refine Ja (DN h.typeIs ?_)
 rw[Jb ⋯]
 exact Ja (Dg e c (Jf d))
theorem Z2{K:Type} [DecidableEq K]{knd:PySem.KeyKind prog w K}(W:WalksS prog w A.in1 I fp wr G n P St)(S:Δ)(x:S∉fp)(a:List (K×Γ))(hn:a.length=n)(ta:Nat->Δ)(key:Nat->Γ)
  (D:∀i,i<n->ta i∉S::wr)(g:∀i c,a[i]? =↑c->knd.is c.1 (key i)=true)(hP:∀i v,i<n->P i v->v= .ref (ta i))(hsz:n<=ζ):
  ∀(k i:Nat) (s:Θ),n-i=k->i<=n->St i s->s.heap.DictOf knd S (merged [] (a.take i))->(∀j c,a[j]? =↑c->s.heap.IsTuple (ta j) (List.toArray [key j,c.2]))->
   (∀s',Moved (S::wr) G s s'->s'.heap.DictOf knd S (merged [] a)->R (.ok (.ret .none)) s')->
   codeAny (model prog w) A (.builtin "dict.update.loop" #[[.ref S,.ref I,rawInt i,.none],[]]) R s:=by
 have E:S∉wr:=λh=>x (W.sub _ h)
 have d:∀b∈wr,b∈S::wr:=λb u=>JF _ u
 intro k
 induction k with
 |zero=>
  intro i s hk hi p H Y J;have T:i=n:=by lia
  subst T;refine DB Q3 ?_
  rw[Around.under_plainId zP _]
  show ε _ A.in1 (pyNext (.ref I) >>= _) _ _ s
  refine Ja (W.done s _ _ p λs' r=>?_)
  show ε _ A.in1 (γ.Dict.addKeywords S [] >>= _) _ _ s'
  refine Ja (Jf ?_)
  rw[CZ (by lia)]at H
  exact Jf (J s' (r.mono d) (by
   let#[o,es,U,q,rest]:=H
   exact#[o,es,U,r.heap S _ E q,rest]))
 |succ k ih=>
  intro i s hk hi p H Y J;have l:i<n:=by lia
  have f:a[i]? =some a[i]:=Jg (by lia)
  let#[c,L]:∃c,c=a[i]:=#[0]
  rw[<- L]at f;refine DB Q3 ?_
  rw[Around.under_plainId zP _]
  show ε _ A.in1 (pyNext (.ref I) >>= _) _ _ s
  refine Ja (W.item i s _ _ l p λv s' M t r=>?_)
  obtain rfl:=hP i v l M
  have O:s'.heap.DictOf knd S (merged [] (a.take i)):=by
   let#[o,es,U,q,rest]:=H
   exact#[o,es,U,r.heap S _ E q,rest]
  have F:∀j c,a[j]? =↑c->s'.heap.IsTuple (ta j) (List.toArray [key j,c.2]):=λj c e=>by
   have Q:j<n:=by rw[<- hn];exact(Jp.mp e).1
   let#[o,q,rest]:=Y j c e
   exact#[o,r.heap _ _ (λz=>D j Q (d _ z)) q,rest]
  have N:=F i c f
  show ε _ A.in1 (holding [Γ.ref (ta i)] _ >>= _) _ _ _
  refine Ja (JX ?_)
  refine Ja (wpAny_tryCatch (oV N ?_))
  show ε _ A.in1 (holding [key i,c.2] (dictSet S (key i) c.2)) _ _ _
  refine JX ?_
  unfold dictSet;refine JX ?_
  refine Ja (knd.pyHash (g i c f) ?_)
  refine wpAny_dictSetHashed_pairs (s:={s' with toks:=s'.toks+1}) (g i c f) O (λh' C m=>?_) (by have:=merged_length_le ([]:List (K×Γ)) (a.take i);have:=List.length_take_le i a;simp at *;lia)
  rw[<- merged_take_succ [] a i c f]at C;refine Jf #[plainId_quiet zP _,?_]
  rw[show((i:Int)+1)=((i+1:Nat):Int)from Z]
  refine ih (i+1) _ (by lia) l (W.frame _ s' _ _ t (C3 _) λb u o e=>?_) C (λj c e=>?_) λX y B=>?_
  ·rw[m.2 b (λh:b=S=>x (by rw[<- h];exact u))];exact e
  ·have Q:j<n:=by rw[<- hn];exact(Jp.mp e).1
   let#[o,q,rest]:=F j c e
   exact#[o,by rw[m.2 _ (λh:ta j=S=>D j Q (by rw[h];exact JJ))];exact q,rest]
  ·refine J X (Moved.trans W.gtrans ((r.mono d).then_heap (C3 _) λb o u e=>?_) y) B
   rw[m.2 b (λh:b=S=>u (by rw[h];exact JJ))];exact e
end
end PyProof.Rows
namespace PySem
open PyProof.Rows
section
variable{prog:Ξ}{w:Ω}{K:Type} [DecidableEq K]{knd:PySem.KeyKind prog w K}{A:Around}{E:Fl}{s:Θ}
theorem ie{l:Δ}{items:Array Γ}{J:Nat}{sl:Array Ν}{Q:Fl}(a:List (K×Γ))(ta:Nat->Δ)(key:Nat->Γ)(R:A.handled=none)
  (n:s.heap.get? l=some {cls:= .type "list",dict:=none,data:= .seq items J,slots:=sl})(hn:a.length=items.size)(O:∀(i:Nat) (v:Γ),items[i]? =↑v->v=Γ.ref (ta i))
  (y:∀j m,a[j]? =↑m->s.heap.IsTuple (ta j) (List.toArray [key j,m.2]))(u:∀i m,a[i]? =↑m->knd.is m.1 (key i)=true)(hsz:items.size<=ζ)
  (h:∀h' tk,h'.DictOf knd s.heap.objs.size (merged [] a)->(∀b o,b<s.heap.objs.size->s.heap.get? b=↑o->h'.get? b=↑o)->Q (.ref s.heap.objs.size) {s with heap:=h',toks:=tk}):
  ε (model prog w) A (call (.type "dict") [.ref l]) Q E s:=by
 refine callType_codes (Q₁:=λt g=>t= .ref s.heap.objs.size/\g={s with heap:=s.heap.push {cls:= .type "dict",data:= .dict (List.toArray [])}}) F.kt_called_dict (F.kt_typeCall_dict_1 _) F.entry_dict_init (kt_code_dict_new _ #[8]) ?_
 rintro t g ⟨rfl,rfl⟩
 have f:(s.heap.push {cls:= .type "dict",data:= .dict (List.toArray [])}).DictOf knd s.heap.objs.size []:=Ψ.DictOf.new s.heap
 have d:(s.heap.push {cls:= .type "dict",data:= .dict (List.toArray [])}).get? l=some {cls:= .type "list",dict:=none,data:= .seq items J,slots:=sl}:=Ji _ n
 have U:Θ.TypeIs {s with heap:=s.heap.push {cls:= .type "dict",data:= .dict (List.toArray [])}} (.ref l) "list":=#[_,d,Z]
 exists f.typeIs,F.args_dict_init_2 _ _
 unfold γ.«dict.__init__»
 refine Ja ?_
 unfold γ.Dict.selfAndRest;refine Ja (wpAny_notOrdered_dict f.typeIs ?_)
 show ε _ _ (pure (s.heap.objs.size,[Γ.ref l])) _ _ _
 refine Jf ?_
 show ε _ _ (γ.Dict.updateFrom "dict.__init__" s.heap.objs.size (.ref l) [] .none) _ _ _
 unfold γ.Dict.updateFrom;refine Ja (DN U ?_)
 rw[Jb ⋯]
 refine Ja (k6 d Z Z Z (by simp [R]) λh1 W e1 x=>?_)
 rw[Jb (show(none:Ν).isNone=true from Z)]
 refine Ja (Dl ?_)
 have p:h1.IsList l items:=#[_,x.keeps _ _ d,Z,J,Z]
 refine Ja (DJ p ?_)
 refine Jf #[plainId_quiet zP _,?_]
 have r:l<s.heap.objs.size:=Jm n
 have L:h1.get? s.heap.objs.size≠none:=by
  have:(s.heap.push {cls:= .type "dict",data:= .dict (List.toArray [])}).get? s.heap.objs.size=↑_:=Jq _ Z
  rw[x.keeps _ _ this];intro z;cases z
 have c:s.heap.objs.size<h1.objs.size:=by
  cases hz:h1.get? s.heap.objs.size with
  |none=>exact absurd hz L
  |some o=>exact Jm hz
 have q:l≠h1.objs.size:=Js (Nat.lt_trans r c)
 have G:A.in1.in1.handled=none:=by simp [R]
 have I:s.heap.objs.size∉[h1.objs.size,l]:=by
  simp only[Jl,Jn,Jz,JA,not_or]
  exact#[Js c,JZ r]
 have H:∀j,j<items.size->ta j<s.heap.objs.size:=λj S=>by
  have e:a[j]? =↑(a[j]'(by lia)):=Jg (by lia)
  let#[o,B,_]:=y j _ e;exact Jm B
 refine Z2 (knd:=knd) ((Walks.list G _ l q items).toS) s.heap.objs.size I a hn ta key (λj S=>?_) u (λi v _ Y=>O i v Y) hsz (items.size-0) 0 _ (by lia) (JR _)
  #[#[_,Jq _ Z,8],p.push _] ?hS0 ?hT0 ?hR
 case hS0=>
  let#[o,es,ep,B,rest]:=f
  exact#[o,es,ep,Ji _ (x.keeps _ _ B),rest]
 case hT0=>
  intro j m e;let#[o,B,rest]:=y j m e
  exact#[o,Ji _ (x.keeps _ _ (Ji _ B)),rest]
 case hR=>
  intro s' C N;let#[h',X,d',M,D]:=s';have T:X=s.gens:=C.gens
  have ed:d'=s.drawn:=C.drawn
  have eo:D=s.os:=C.os
  subst T;subst ed;subst eo
  refine#[Z,h h' M N λb o P e=>?_]
  exact C.heap b o (by simp only[Jl,Jn,Jz,JA,not_or];exact#[Js P,Js (Nat.lt_trans P c)]) (Ji _ (x.keeps _ _ (Ji _ e)))
 ·have:=H j S
  simp only[Jl,Jn,Jz,JA,not_or]
  exact#[Js this,Js (Nat.lt_trans this c)]
end
end PySem
namespace L3
open PySem PySem.Spec PyProof.Rows L2
theorem v7:∀{kvs:List (qz×V)} {c:List (qz×Γ)},kvs.length=c.length->(∀(j:Nat) d e,kvs[j]? =↑d->c[j]? =↑e->d.1=e.1/\Fx d.2 e.2)->KV kvs c
 | [],[],_,_=> .nil
 | [],b::r,h,_=>by cases h
 |a::r,[],h,_=>by cases h
 |a::r,b::r',h,hj=> .cons (hj 0 a b Z Z) (v7 (Nat.succ.inj h) λj d e f g=>hj (j+1) d e f g)
theorem bu{X:Cx}(B:X.calm=true):zi X (.type "dict") (λxs H Q=>∃(l:Δ) (as:Ι) (kvs:List (qz×V)),xs=[.ref l]/\H l=↑(.lst (as.map V.ref))/\as.length=kvs.length/\(∀(i:Nat) (a:Δ) (d:qz×V),as[i]? =↑a->kvs[i]? =↑d->H a=↑(.tup [kV d.1,d.2]))/\∀p,H p=none->Q (.ref p) (Ft H p (.dK (Qh [] kvs)))):=by
 intro tx s σ H xs us Q I r h;let#[l,as,kvs,rfl,hl,w,T,q]:=h;let#[u,rfl,ru]:=Qt r;cases ru;let#[D,ri,#[o,n,ho,hc,hd,y],hz]:=I.list (Fw.of hl)
 have m:D.length=as.length:=by rw[<- ri.length,Jd]
 have O:as.length<=ζ:=by rw[Jd]at hz;exact hz
 let#[W,R,K,osl]:=o;simp only at hc hd y
 subst hc hd y;have G:∀j:Nat,∃p:Γ×Γ,∀(d:qz×V),kvs[j]? =↑d->Fx d.2 p.2/\s.heap.IsTuple (as.getD j 0) (List.toArray [p.1,p.2])/\(qQ X.prog X.w).is d.1 p.1=true:=λj=>by
  cases hk:kvs[j]? with
  |none=>exact#[(.none,.none),λd e=>by cases e]
  |some d=>
   have F:j<as.length:=by rw[w];exact(Jp.mp hk).1
   have E:as[j]? =some as[j]:=Jg F
   let#[Y,r2,p2,_]:=I.tuple (.inl (.inl (T j _ d E hk)))
   let#[u1,u2,rfl,N,L]:=cV r2;refine#[(u1,u2),λg e=>?_]
   cases e;refine#[L,?_,aH N]
   rw[JE,E];exact p2
 let#[f,P]:=Classical.axiomOfChoice G;let#[c,t]:∃c:List (qz×Γ),c=(List.range kvs.length).map λj=>((kvs.getD j (.inl 0,.non)).1,(f j).2):=#[0]
 have z:c.length=kvs.length:=by rw[t,Jd,List.length_range]
 have C:∀j d,c[j]? =↑d->∃g,kvs[j]? =↑g/\d=(g.1,(f j).2):=λj d e=>by
  have F:j<kvs.length:=by rw[<- z];exact(Jp.mp e).1
  exists kvs[j],Jg F
  rw[t,Jk,List.getElem?_range F]at e;cases e
  show((kvs.getD j (Sum.inl 0,V.non)).1,(f j).2)=_
  rw[JE,Jg F];rfl
 have U:KV kvs c:=v7 z.symm λj g d e1 e2=>by
  let#[a0,e3,rfl]:=C j d e2;rw[e1]at e3;cases e3
  exact#[Z,(P j g e1).1]
 refine ie (knd:=qQ X.prog X.w) (sl:=osl) c (λj=>as.getD j 0) (λj=>(f j).1) (I.ok.hd B) ho (by rw[z,<- w,Jr,m]) (λi v hv=>?_) (λj d e=>?_) (λj d e=>?_) (by rw[Jr,m];exact O) (λh' tk dd hk=>?_)
 ·have A:D[i]? =↑v:=by simpa using hv
  have hi:i<as.length:=by rw[<- m];exact(Jp.mp A).1
  have E:as[i]? =some as[i]:=Jg hi
  let#[x,ex,rx]:=zV ri (j:=i) (by rw[m];exact hi)
  rw[Jk,E]at ex;cases ex;rw[Jg (by rw[m];exact hi)]at A
  cases A;rw[JE,E];exact rx
 ·let#[g,S,rfl]:=C j d e
  exact(P j g S).2.1
 ·let#[g,S,rfl]:=C j d e
  exact(P j g S).2.2
 ·have J:(Qh [] kvs).length<=ζ:=by
   have h1:=ZT kvs [];simp at h1
   lia
  have M:KV (Qh [] kvs) (merged [] c):=KV.merge U .nil
  have I':=I.laid (a:=s.heap.objs.size) (o:= .dK (Qh [] kvs)) (h':=h') (t':=tk) (λb u e=>hk b u (Jm e) e) (Je _) (kA J (Dt.mpr (Ne.symm (Js I.big))) M dd)
  exact#[.ref _,_,I',Z,q _ (I.hok.fresh (Je _))]
def AC(d:Δ)(o:Obj)(kvs:List (qz×V)):It:=
 #[λi H=>H d=↑(.frz o (.dK kvs))/\i<kvs.length,λi H x H'=>H'=H/\∃a,kvs[i]? =↑a/\x=kV a.1,λi H=>H d=↑(.frz o (.dK kvs))/\kvs.length<=i]
theorem vg{P:Ξ}{w:Ω}{k:qz}{u:Γ}(h:(qQ P w).is k u=true):Fx (kV k) u:=by
 rcases zA (show bI k u=true from h)with⟨i,t,rfl,rfl⟩|⟨x,t,rfl,rfl⟩
 ·exact#[t,Z]
 ·exact#[t,Z]
theorem rh:∀{kvs:List (qz×V)} {vs:List (qz×Γ)},KV kvs vs->∀(i:Nat) a b,kvs[i]? =↑a->vs[i]? =↑b->a.1=b.1
 |_,_,.nil,i,a,b,h,_=>by cases h
 |_,_,.cons r t,0,a,b,h1,h2=>by cases h1;cases h2;exact r.1
 |_,_,.cons r t,i+1,a,b,h1,h2=>rh t i a b h1 h2
theorem rJ{P:Ξ}{w:Ω}{K:ι}{tg:Φ}(d it:Δ){o:Obj}{kvs:List (qz×V)}{vs:List (qz×Γ)}{ep:Nat}(D:∀h:Ψ,h.get? d=↑o->h.DictAt (qQ P w) d vs ep)(f:KV kvs vs):
  GX P w K tg (AC d o kvs) [it] it (λi h=>h.IsKeyIter it d i vs.length ep) where
 mem:=by simp
 obj:=λi h st b a=>by
  have e:b=it:=by simpa using a
  subst e;let#[o,e,c,d]:=st
  exact#[o,e,λv z=>by rw[d]at z;cases z]
 keep:=λi h h' st k=>st.at λo e=>k it (by simp) o e
 item:=by
  intro X C n u F i tx s σ H E I m st p;subst C n u;let#[A,hi]:=p;have g:=(I.hok d _ A).1;have t:i<vs.length:=by rw[<- f.length];exact hi
  have G:vs[i]? =↑(vs[i].1,vs[i].2):=Jg t
  have hk:kvs[i]? =some kvs[i]:=Jg hi
  have x:kvs[i].1=vs[i].1:=rh f i _ _ hk G
  let#[B,f1,f2,q,y,r]:=m it (by simp)
  refine wpAny_pyNext_dict_item st (D _ g) G λkey h' l j M=>?_
  have L:L2.Fv X tx σ H {s with heap:=h'}:=I.turned (t':=s.toks) (λb o a e=>(M.2 b a).trans e) B f1 q y r
  exact#[key,Z,letGo_keyiter (s':={s with heap:=h'}) j #[kV kvs[i].1,H,L,by rw[x];exact vg l,#[37,hk,Z],j,λb a=>(m b a).1]]
 done:=by
  intro X C n u F i tx s σ H E I m st p;subst C n u;let#[A,hi]:=p;have g:=(I.hok d _ A).1;let#[B,f1,f2,q,y,r]:=m it (by simp)
  have N:=f.length;exact wpAny_pyNext_dict_end (I.ok.hd F) st (D _ g) (List.getElem?_eq_none (by omega)) λh' J=>#[Z,I.turned (t':=s.toks) (λb o a e=>J b o a e) B f1 q y r]
 self:=λ_ _ _ _ _ st h=>wpAny_pyIter_keyiter st h
def B4(tl:TE):TI:=λσ H R=>tl σ H λx H1=>∃d kvs,x= .ref d/\H1 d=↑(.dK kvs)/\∀o,R (AC d o kvs) (Ft H1 d (.frz o (.dK kvs)))
theorem xn{X:Cx}{tg l:Φ}{tl:TE}(hl:QE X l tl):QI X tg l (B4 tl):=#[by
 intro tx s σ H R I h;refine qD (hl.h tx s σ H _ I h) λv a B=>?_
 let#[x,H1,A,C,E]:=B;let#[d,kvs,e,m,q]:=E;subst e;cases C;let#[z,lo,y,c,o,es,r,g,w,j,t,n,p]:=jQ A.hok m;have f:∀h:Ψ,h.get? d=↑o->h.DictAt (qQ X.prog X.w) d y r:=λh e=>#[o,es,e,w,j,t,n,p]
 refine wpAny_pyIter_dict lo (f _ g) ?_
 have i:=A.write (x:=d) (e:=d) (o:= .frz o (.dK kvs)) (h':=a.heap) (t':=a.toks) (by rw[m];exact True.intro) (.inl Z) (λb u _ e=>e) #[o,g] #[g,z,lo,y,c,o,es,r,g,w,j,t,n,p]
 refine#[a.heap.objs.size,[a.heap.objs.size],20,i.kept (t':=a.toks) λb o e=>Ji _ e,rJ d _ f c,#[_,Jq _ Z,8],λb D=>?_,q o]
 have e:b=a.heap.objs.size:=by simpa using D
 subst e;exact i.fpOk (Je _) (i.hok.fresh (Je _))]
theorem Fv.thaw{X:Cx}{tx:Fo}{σ:L2.St}{H:Hp}{s:Θ}{d:Δ}{o:Obj}{kvs:List (qz×V)}(I:L2.Fv X tx σ H s)(hd:H d=↑(.frz o (.dK kvs)))(t:∀o u,X.H₀ d≠↑(.frz o u)):L2.Fv X tx σ (Ft H d (.dK kvs)) s:=by
 have l:∀b,H b=none->b≠d:=λb e z=>by subst z;rw[hd]at e;cases e
 have a:∀b,H b=none->Ft H d (.dK kvs) b=none:=λb e=>by rw[qi (l b e)];exact e
 refine#[I.ok,I.os,I.bare,#[I.base.keep,I.base.slot,λb g q n j=>a b (I.base.free b g q n j),I.base.there,λb xs q=>?_,λb g u q=>?_,λb ps q=>?_],I.loc,I.cell,a _ I.free,λx c e=>a _ (I.freeC x c e),λp m=>?_,λb u q=>?_,I.len]
 ·have:=I.base.tups b xs q
  rw[qi (λz=>by subst z;rw[hd]at this;cases this)];exact this
 ·rw[qi (λz=>by subst z;exact t _ _ q)];exact I.base.frzs b g u q
 ·let#[f,e]:=I.base.tbls b ps q
  exact#[f,by rw[qi (λz=>by subst z;rw[hd]at e;cases e)];exact e]
 ·let#[r,p2,i]:=I.pin p m
  exact#[r,a _ p2,i]
 ·have st:∀{b:Δ} {u:HO},FE X.prog X.w H s.heap b u->FE X.prog X.w (Ft H d (.dK kvs)) s.heap b u:=λ{b u} x=>x.stay (λ_ _ _ e=>e) (λc e=>by rw[qi (λz=>by subst z;rw[hd]at e;cases e)];exact e) (λc xs e=>by rw[qi (λz=>by subst z;rw[hd]at e;cases e)];exact e)
  by_cases h:b=d
  ·subst h
   rw[qc]at q;cases q;exact st (I.hok b _ hd).2
  ·rw[qi h]at q
   exact st (I.hok b u q)
def Ca(a:Hp)(te:TE):TE:=λσ H Q=>te σ H λv H'=>∃d o kvs,H' d=↑(.frz o (.dK kvs))/\(∀o u,a d≠↑(.frz o u))/\Q v (Ft H' d (.dK kvs))
theorem xl{X:Cx}{e:Φ}{te:TE}(he:QE X e te):QE X e (Ca X.H₀ te):=#[by
 intro tx s σ H Q I h;refine qD (he.h tx s σ H _ I h) λv j a=>?_
 let#[x,H1,i,f,d,o,kvs,c,g,q]:=a
 exact#[x,_,Fv.thaw i c g,f,q]]
section
variable{js:Ε}{te:TE}{σ:L2.St}{H:Hp}{Q:VK}
theorem rF{d:Δ}{o:Obj}{kvs:List (qz×V)}(hn:kvs.length<=ζ)(Pv:Nat->Β->Hp->Prop)(h:Pv 0 [] H)(hl:∀i ys H,Pv i ys H->H d=↑(.frz o (.dK kvs)))
  (hs:∀i ys H a,kvs[i]? =↑a->ys.length=i->Pv i ys H->te (↑(kV a.1)::Qc js σ) H λv g=>Pv (i+1) (ys++[v]) g)
  (hd:∀ys H,ys.length=kvs.length->Pv kvs.length ys H->∀p,H p=none->Q (.ref p) (Ft H p (.lst ys))):aI (AC d o kvs) js te σ H Q:=
 ay hn (λi x=>∃a,kvs[i]? =↑a/\x=kV a.1) Pv h (λi ys H hi p=>#[hl _ _ _ p,hi]) (λys H p=>#[hl _ _ _ p,Je _]) (λi ys H x H' _ p y=>y) (λi ys H x _ c p f=>by let#[a,e,rfl]:=f;exact hs i ys H a e c p) hd
end
theorem rn{H H':Hp}{d:Δ}{o:Obj}{kvs:List (qz×V)}(e:H d=↑(.dK kvs))(s:Fp (Ft H d (.frz o (.dK kvs))) H'):Fp H (Ft H' d (.dK kvs)):=λx u a=>by
 by_cases q:x=d
 ·subst q
  rw[qc,<- a,e]
 ·rw[qi q]
  exact s _ _ (by rw[qi q];exact a)
inductive Ig (K:ι) (H:Hp):Nat->V->V->Prop where
 |int (n:Nat) (i:Int):Ig K H n (.int i) (.int i)
 |str (n:Nat) (x:Str):Ig K H n (.str x) (.str x)
 |non (n:Nat):Ig K H n .non .non
 | tup {n:Nat} {a b:Δ} {xs ys:Β} (h1:FC K H a xs) (h2:FC K H b ys) (hl:xs.length=ys.length)
   (hi:∀(i:Nat) (x y:V),xs[i]? =↑x->ys[i]? =↑y->Ig K H n x y):Ig K H (n+1) (.ref a) (.ref b)
section
open SeqAt
variable{X:Cx}{tx:Fo}{σ:L2.St}{H:Hp}{s:Θ}
theorem AR(I:L2.Fv X tx σ H s){n:Nat}{x y:V}(h:Ig X.K H n x y):∀{v u:Γ} {A:Around},Fx x v->Fx y u->A.units+n<cLine->EqAt A s v u true:=by
 induction h with
 |int n i=>rintro v u A ⟨t,rfl⟩ ⟨g,rfl⟩ _;have:=EqAt.int_int (A:=A) (s:=s) i t i g;rwa [CS]at this
 |str n z=>rintro v u A ⟨t,rfl⟩ ⟨g,rfl⟩ _;have:=EqAt.str_str (A:=A) (s:=s) z t z g;rwa [CS]at this
 |non n=>
  intro v u A l m _
  cases(show v=Γ.none from l)
  cases(show u=Γ.none from m)
  exact EqAt.same _
 | @tup n a b xs ys h1 h2 hl _ ih=>
  intro v u A l m F
  cases(show v=Γ.ref a from l)
  cases(show u=Γ.ref b from m)
  by_cases f:a=b
  ·rw[f];exact EqAt.same _
  ·let#[d,p,C,_]:=I.tuple h1
   let#[c,o,p2,_]:=I.tuple h2;have E:=p.length;have G:=o.length;have e:=RcAt.tuples (A:=A) (e:=λ_=>true) (show s.heap.IsTuple a d.toArray from C) (show s.heap.IsTuple b c.toArray from p2) (by lia) (λj q w=>by
    let#[x,ex,r]:=zV p (j:=j) (by simpa using q)
    let#[y,B,D]:=zV o (j:=j) (by simpa using w)
    exact ih j x y ex B r D (by rw[CY];lia))
   rw[bf,show(d.toArray.size==c.toArray.size)=true by simp;lia]at e
   exact EqAt.of_refs f e
theorem Ah(I:L2.Fv X tx σ H s){n:Nat}{x y:V}{v u:Γ}{A:Around}(h:Ig X.K H n x y)(m:Fx x v)(o:Fx y u)(hu:A.units+n<cLine):RcAt A s v u true/\RcNeAt A s v u false:=by
 cases h with
 |int n i=>
  let#[t,rfl]:=m;let#[l,rfl]:=o;have f:=RcAt.int_int (A:=A) (s:=s) i t i l
  have g:=RcNeAt.int_int (A:=A) (s:=s) i t i l
  rw[CS]at f g
  exact#[f,g]
 |str n z=>
  let#[t,rfl]:=m;let#[l,rfl]:=o;have f:=RcAt.str_str (A:=A) (s:=s) z t z l
  have g:=RcNeAt.str_str (A:=A) (s:=s) z t z l
  rw[CS]at f g
  exact#[f,g]
 |non n=>
  cases(show v=Γ.none from m)
  cases(show u=Γ.none from o)
  exact#[RcAt.none_none,RcNeAt.none_none]
 | @tup n a b xs ys h1 h2 hl ih=>
  cases(show v=Γ.ref a from m)
  cases(show u=Γ.ref b from o)
  let#[d,r,B,_]:=I.tuple h1;let#[c,q,p2,_]:=I.tuple h2;have G:=r.length;have J:=q.length;have C:∀j (p:j<d.toArray.size) (w:j<c.toArray.size),EqAt A.in1 s d.toArray[j] c.toArray[j] ((λ_=>true) j):=λj p w=>by
   let#[x,ex,D]:=zV r (j:=j) (by simpa using p)
   let#[y,E,F]:=zV q (j:=j) (by simpa using w)
   exact AR I (ih j x y ex E) D F (by rw[CY];lia)
  have f:=RcAt.tuples (A:=A) (e:=λ_=>true) (show s.heap.IsTuple a d.toArray from B) (show s.heap.IsTuple b c.toArray from p2) (by lia) C
  have g:=RcNeAt.tuples (A:=A) (e:=λ_=>true) (show s.heap.IsTuple a d.toArray from B) (show s.heap.IsTuple b c.toArray from p2) (by lia) C
  rw[bf,show(d.toArray.size==c.toArray.size)=true by simp;lia]at f g
  exact#[f,g]
inductive Md (K:ι) (b:Bool) (x:V) (y:V) (H:Hp) (Q:VK):Prop
 |mk (n:_) (h1:n<=32) (h2:Ig K H n x y) (h3:Q (.bl b) H)
def Cw(K:ι)(b:Bool):R2:=λx y H Q=>Md K b x y H Q
theorem Ag{k:Nat}(hr:FJ k X.A):zf X (compareOp .NotEq) (Cw X.K false):=by
 intro tx s σ H x y v u Q I c a h;let#[n,d,e,q]:=h
 exact(Ah I e c a (by have:=hr.un;lia)).2 _ _ _ _ #[.bl _,H,I,Z,q]
end
section
variable(K:ι)(C:Δ)
inductive Ih (vs:Β) (H:Hp) (Q:VK):Prop
 |mk (p ta hk bd lg:Δ) (n:Nat) (D:Dr) (h1:vs=[.ref p]) (h2:Fu K C H p ta hk bd lg n D) (h3:Q (.int D.least) H)
def jn:Sp:=λa H Q _=>Ih K C a H Q
end
structure Ac(K:ι)(mg:Fn)(x:Str)(st:δ):Prop where
 ex:∃(f:Δ) (fd:FuncData),IC K x x st f fd/\mg x=↑(.ref f)
structure HM(K:ι)(C:Δ)(m Mu:Str)(st:δ):Prop where
 ex:∃(f:Δ) (fd:FuncData),IC K m Mu st f fd/\Lx K C m f
section
variable{K:ι}{mg:Fn}{h:Ψ}{x m Mu:Str}{st:δ}{C f:Δ}{oc:Γ}{od an:Υ}{osl:Array Ν}{kV doc pm cdv ct:Γ}{ps:Α}
theorem wC(X:K.In h)(G:h.Ns η mg)(a:W.nsIn K η x=↑(↑(.ref f)))(l:K.lookup f=some #[oc,od,.func (W.fnOf x x (Qx st) (zO st) (qj st) .none kV doc pm an cdv ct),osl])(c:W.codeIn K cdv x=true)(k:W.keepIn K (.ref f)=true):Ac K mg x st:=#[f,_,kE l c k,Do X G a]
theorem y4(a:W.findIn K (.ref C) m=↑(↑(.ref f)))(i:W.isFn K (.ref f)=true)(l:K.lookup f=some #[oc,od,.func (W.fnOf m Mu (Qx st) (zO st) (qj st) .none kV doc pm an cdv ct),osl])(c:W.codeIn K cdv Mu=true)(k:W.keepIn K (.ref f)=true):HM K C m Mu st:=#[f,_,kE l c k,a,i,k]
theorem CL{p:Η->Prop}(h:p []):∀a:Η,a.length=0->p a:=by
 intro a c;rw[List.eq_nil_of_length_eq_zero c];exact h
theorem nF{n:Nat}{p:Η->Prop}(h:∀a c,c.length=n->p (a::c)):∀c:Η,c.length=n+1->p c:=by
 intro c d;cases c with
 |nil=>cases d
 |cons a r=>exact h a r (Nat.succ.inj d)
theorem Zv{p:Η->Prop}(h:∀d,p [d]):∀c:Η,c.length=1->p c:=nF λa=>CL (p:=λr=>p (a::r)) (h a)
theorem ZX{p:Η->Prop}(h:∀e d,p [e,d]):∀c:Η,c.length=2->p c:=nF λa=>Zv (p:=λr=>p (a::r)) (h a)
theorem ZW{p:Η->Prop}(h:∀e d f,p [e,d,f]):∀c:Η,c.length=3->p c:=nF λa=>ZX (p:=λr=>p (a::r)) (h a)
theorem sC{p:Η->Prop}(h:∀d f g e,p [d,f,g,e]):∀c:Η,c.length=4->p c:=nF λa=>ZW (p:=λr=>p (a::r)) (h a)
theorem BA{p:Η->Prop}(h:∀e g i f d,p [e,g,i,f,d]):∀c:Η,c.length=5->p c:=nF λa=>sC (p:=λr=>p (a::r)) (h a)
theorem Ck{p:Η->Prop}(h:∀f i j g d e,p [f,i,j,g,d,e]):∀c:Η,c.length=6->p c:=nF λa=>BA (p:=λr=>p (a::r)) (h a)
theorem Ac.at(a:Ac K mg x st)(b:∀(kV doc pm:Γ) (an:Υ) (cdv ct:Γ) (us:Η),us.length=ps.length->bindArgs (W.fnOf x x (Qx st) (zO st) (qj st) .none kV doc pm an cdv ct) #[us,[]]=pure (ps.zip us):=by intro _ _ _ _ _ _;first|exact Zv λ_=>rfl|exact ZX λ_ _=>rfl|exact ZW λ_ _ _=>rfl|exact sC λ_ _ _ _=>rfl|exact BA λ_ _ _ _ _=>rfl|exact Ck λ_ _ _ _ _ _=>rfl):At K mg x st ps:=by
 let#[_,_,F,m]:=a.ex;exact BY F m (F.binds b)
theorem HM.at(a:HM K C m Mu st)(b:∀(kV doc pm:Γ) (an:Υ) (cdv ct:Γ) (us:Η),us.length=ps.length->bindArgs (W.fnOf m Mu (Qx st) (zO st) (qj st) .none kV doc pm an cdv ct) #[us,[]]=pure (ps.zip us):=by intro _ _ _ _ _ _;first|exact Zv λ_=>rfl|exact ZX λ_ _=>rfl|exact ZW λ_ _ _=>rfl|exact sC λ_ _ _ _=>rfl|exact BA λ_ _ _ _ _=>rfl|exact Ck λ_ _ _ _ _ _=>rfl):HJ K C m Mu st ps:=by
 let#[_,_,F,m]:=a.ex
 exact#[15,F,m,F.binds b]
end
structure Ps where
 nm:Str
 age:Int
 ds:Ζ
abbrev _root_.Τ:=List Ps
def Gv(H:Hp)(p:Δ)(P:Ps):Prop:=FP H p P.nm P.age P.ds
structure HC(P:Ps):Prop where
 nm:Zp P.nm
 l:P.ds.length=5
 dg:zt P.ds
def Zk(D:Dr)(P:Ps):Option (Int×Int):=if zT D P.age=true then Qd D.t (zJ D P.age) P.nm P.ds else none
def sD(D:Dr)(P R:Ps):Str×Int×Kw:=match Zk D P with
 |none=>("press",0,D.kn)
 |some (c,_)=>match Zk D R with
  |none=>("press",1,D.kn)
  |some (c',_)=>if R.nm=P.nm/\R.age=P.age/\c'=c+1 then(match D.kn.lookup P.nm with
    |some _=>("known",0,D.kn)
    |none=>if(D.kn.length:Int)<D.most then("",0,qS D.kn P.nm #[P.age,c',none])else("full",0,D.kn))
   else("press",1,D.kn)
def kI(c:Nat):Bool:=decide (97<=c)&&decide (c<=122)
def By(z:Str):Bool:=z.cps.toList.all kI
def wc(z:Str):Bool:=decide (1<=z.length)&&decide (z.length<=8)&&By z
theorem LB{z:Str}:wc z=true↔Zp z:=by
 unfold wc By Zp;rw[JC,JC,JB,JB,Dk];have f:z.length=z.cps.toList.length:=Z
 rw[f];constructor
 ·rintro⟨⟨h1,e⟩,d⟩
  refine#[λc a=>?_,h1,e]
  have:=d c a
  unfold kI at this;rw[JC,JB,JB]at this;exact this
 ·rintro⟨d,h1,e⟩
  refine#[#[h1,e],λc a=>?_]
  unfold kI;rw[Jh (d c a).1,Jh (d c a).2];rfl
theorem gC{a b:Nat}:([a]:Ε)<[b]↔a<b:=by
 rw[List.cons_lt_cons_iff];constructor
 ·rintro(h|⟨_,h⟩)
  ·exact h
  ·exact absurd h (List.not_lt_nil _)
 ·exact .inl
theorem ox(c:Nat):(! decide ((#[(List.toArray [c])]:Str).cps.toList<("a":Str).cps.toList))=decide (97<=c)/\(! decide (("z":Str).cps.toList<(#[(List.toArray [c])]:Str).cps.toList))=decide (c<=122):=by
 have a:("a":Str).cps.toList=[97]:=by decide +kernel
 have d:("z":Str).cps.toList=[122]:=by decide +kernel
 rw[a,d]
 show(! decide ([c]<[97]))=_/\(! decide ([122]<[c]))=_
 constructor
 ·by_cases h:97<=c
  ·rw[Jh h,Jj (by rw[gC];lia)];rfl
  ·rw[Jj h,Jh (by rw[gC];lia)];rfl
 ·by_cases h:c<=122
  ·rw[Jh h,Jj (by rw[gC];lia)];rfl
  ·rw[Jj h,Jh (by rw[gC];lia)];rfl
theorem k7{H:Hp}{x:V}{t:String}(h:kd H x=↑t):Ls H x t:=by
 cases x with
 |non=>cases h;exact .non
 |bl b=>cases h;exact .bl b
 |int i=>cases h;exact .int i
 |str x=>cases h;exact .str x
 |byt b=>cases h
 |flt b=>cases h
 |ty b=>cases h
 |ref a=>
  rcases gP h with⟨xs,e,rfl⟩|⟨xs,e,rfl⟩
  ·exact .lst e
  ·exact .tup (.inl e)
def Cj(H:Hp)(x:V)(b:Bool):Prop:=(∃z,x= .str z/\z.cps.all (· <128)=true/\z.length<=100/\b=wc z)\/(∃t,kd H x=↑t/\zD t "str"=false/\b=false)
def Me(H:Hp)(x:V)(b:Bool):Prop:=(∃(p:Δ) (ds:Β),x= .ref p/\H p=↑(.tup ds)/\ds.length<=100/\(∀v∈ds,∃t,kd H v=↑t)/\b=(decide (ds.length=5)&&ds.all bG))\/(∃t,kd H x=↑t/\zD t "tuple"=false/\b=false)
inductive LO (H:Hp) (x:V):Bool->Prop where
 |kd {t:String} (h:kd H x=↑t) (n:zD t "tuple"=false):LO H x false
 |len {a:Δ} {xs:Β} (e:x= .ref a) (h:H a=↑(.tup xs)) (l:xs.length<=100) (n:xs.length≠3):LO H x false
 |tup {a:Δ} {n y c:V} {bn bc:Bool} {ty:String} (e:x= .ref a) (h:H a=↑(.tup [n,y,c])) (hn:Cj H n bn) (hy:L3.kd H y=↑ty) (hc:Me H c bc):LO H x (bn&&fN y&&bc)
theorem Me.same{H H':Hp}{x:V}{b:Bool}(s:Fp H H')(h:Me H x b):Me H' x b:=h.elim (λ⟨p,ds,e,h1,a,f,c⟩=> .inl ⟨p,ds,e,s _ _ h1,a,(λv d=>let⟨t,ht⟩:=f v d;⟨t,c5 s ht⟩),c⟩) (λ⟨t,h1,a⟩=> .inr ⟨t,c5 s h1,a⟩)
def Tg(H:Hp)(x:V)(o:Option Ps):Prop:=match o with
 |none=>LO H x false
 |some P=>∃a,x= .ref a/\Gv H a P/\HC P
theorem Tg.b{H:Hp}{x:V}{o:Option Ps}(h:Tg H x o):LO H x o.isSome:=by
 cases o with
 |none=>exact h
 |some P=>
  let#[f,e,#[c,h1,a],ok]:=h;have t:=LO.tup (bn:=true) (bc:=true) e h1 (.inl #[P.nm,Z,lm ok.nm,by have:=ok.nm.2.2;show P.nm.cps.toList.length<=100;lia,(LB.mpr ok.nm).symm]) (ty:="int") Z (.inl #[c,0,a,by rw[Jd,ok.l];decide,(λv d=>by let#[i,_,rfl]:=Jv.mp d;exact#[0]),by rw[Jd,ok.l,uF ok.dg];rfl])
  exact t
inductive Ii (vs:Β) (H:Hp) (Q:VK):Prop
 |mk (x:_) (b:_) (h1:vs=[x]) (h2:Cj H x b) (h3:∀H',Fp H H'->Q (.bl b) H')
def i7:Sp:=λa H Q _=>Ii a H Q
inductive Ij (vs:Β) (H:Hp) (Q:VK):Prop
 |mk (x:_) (b:_) (h1:vs=[x]) (h2:Me H x b) (h3:∀H',Fp H H'->Q (.bl b) H')
def jk:Sp:=λa H Q _=>Ij a H Q
inductive HN (vs:Β) (H:Hp) (Q:VK):Prop
 |mk (x:_) (b:_) (h1:vs=[x]) (h2:LO H x b) (h3:∀H',Fp H H'->Q (.bl b) H')
def bF:Sp:=λa H Q _=>HN a H Q
section
variable(K:ι)(C:Δ)
inductive Ik (vs:Β) (H:Hp) (Q:VK):Prop
 |mk (p ta hk bd lg:Δ) (n:Nat) (D:Dr) (x:V) (o:Option Ps) (h1:vs=[.ref p,x]) (h2:Fu K C H p ta hk bd lg n D) (h3:GR D) (h4:Tg H x o) (h5:∀y H',Fp H H'->cG H' y (o.bind (Zk D))->Q y H')
def cx:Sp:=λa H Q _=>Ik K C a H Q
end
theorem vA{X:Cx}{j tg f l:Φ}{d:Scope}{t:List (Str×Δ)}{pos n u:Pos}{fr own:Α}{js:Ε}{L:TI}{g:TG}{tc:TT}{te:TE}{i:Nat}{y:Str}
  (hN:X.N.Nodup)(B:X.N[i]? =↑y)(hx:f9 X.env.scope y)
  (hc:X.calm=true)(hi:QI X tg f L)(r:closureFor d X.env=pure t)(K:∀y c,t.lookup y=↑c->X.env.cells.lookup y=↑c)(E:t.map (·.1)=fr)
  (S:F6 X d fr js)
  (hg:∀C s H fp,QG (zB X (own++fr) d t C s H fp) tg g)(W:∀C s H fp,QT (zB X (own++fr) d t C s H fp) l tc)(he:∀C s H fp,QE (zB X (own++fr) d t C s H fp) j te)
  (hs:∀x,foldedSetIterable f X.env x=pure x:=by intro _;rfl)(J:swapsWith (.ListComp j [#[tg,f,[l],(0)]] d pos) ↑(.Name y u) n.line X.env=pure true:=by rfl)
  (hf:X.fn y=true\/X.env.scope.names.lookup y=some .local:=by first|exact .inl Z|exact .inr Z|assumption):
  QS X (.Assign [.Name y u] (.ListComp j [#[tg,f,[l],(0)]] d pos) n) (bD (gJ own.length js L g tc te) (Qz i)):=#[by
 intro tx s σ H D I h;rw[exec_Assign_Name_used _ _ _ _ J];refine Ja (DI (Ja ?_))
 show ε _ X.A (do let _ <- comprehension (.ListComp j [#[tg,f,[l],(0)]] d pos) d X.env _ (newList []) false (eval f X.env) ↑(assign (.Name y u) X.env)) _ _ s
 refine Ja (JT (jv (use:=↑(assign (.Name y u) X.env)) (Post:=λ_ s'=>SP X tx D .next s') hc hi.h r K E S (λC s H fp=>(hg C s H fp).h) (λC s H fp=>(W C s H fp).h) (λC s H fp=>(he C s H fp).h) hs I h ?_) (λ_ s' O=>Jf (Jf O)) λ_ _ e=>e)
 intro w C Y H' m Q P p q
 show ε _ X.A (assign (.Name y u) X.env (.ref w)) _ _ _
 refine wpAny_assign_Name (ci (v:= .ref w) Q hN B hx Z (λU T N=>?_) hf)
 let#[a,F,R]:=N;have A:C≠a:=by
  rcases R with z|z
  ·rw[z];exact p.loc
  ·exact Ne.symm (p.cell _ _ z)
 refine#[m,P.sameBut F A,λh' G=>?_]
 exact#[_,H',T.turned (t':=U.toks) (λb o M e=>(G.2 b M).trans e) p.free p.loc (.inr p.new) p.cell p.pin,q]]
def LP(K:ι)(H:Hp)(b:Δ)(c:List Ζ):Prop:=∃d:Ι,FC K H b (d.map V.ref)/\d.length=c.length/\∀(i:Nat) (a:Δ) (e:Ζ),d[i]? =↑a->c[i]? =↑e->FC K H a (e.map V.int)
theorem LP.same{K:ι}{H H':Hp}{b:Δ}{c:List Ζ}(h:LP K H b c)(s:Fp H H'):LP K H' b c:=by
 let#[f,e,l,r]:=h
 exact#[f,Fp.sqt s e,l,λi a g d j=>Fp.sqt s (r i a g d j)]
theorem LP.upd{K:ι}{C p dx:Δ}{H:Hp}{b:Δ}{c:List Ζ}{fs:List (Str×V)}{o:HO}(h:LP K H b c)(e:H p=↑(.ins C dx fs)):LP K (Ft H p o) b c:=by
 let#[f,g,l,r]:=h
 exact#[f,cR e g,l,λi a j d m=>cR e (r i a j d m)]
inductive Rw where
 |learn (P R:Ps)
 |forget (nm:Str)
 |turn (ks:Ζ)
 |close (age:Int)
 |hear (P:Ps) (ans:Β)
abbrev _root_.Ρ:=List Rw
def n5:V->Prop
 | .int _=>True
 | .str _=>True
 |_=>False
def HD(H:Hp)(a:Δ):Rw->Prop
 | .learn P R=>∃c p2,Rd H a (.tup [.str "learn",.ref c,.ref p2])/\Gv H c P/\Gv H p2 R/\HC P/\HC R
 | .forget nm=>Rd H a (.tup [.str "forget",.str nm])
 | .turn ks=>∃k,Rd H a (.tup [.str "turn",.ref k])/\Rd H k (.tup (ks.map V.int))/\ks.length<=8
 | .close age=>Rd H a (.tup [.str "close",.int age])
 | .hear P ans=>∃p q,Rd H a (.tup [.str "hear",.ref p,.ref q])/\Gv H p P/\HC P/\H q=↑(.tup ans)/\ans.length<=3/\∀v∈ans,n5 v
def Gi(H:Hp)(rs:Ι)(L:Ρ):Prop:=rs.length=L.length/\∀(i:Nat) (a:Δ) (r:Rw),rs[i]? =↑a->L[i]? =↑r->HD H a r
def Hj(H:Hp)(lg:Δ)(L:Ρ):Prop:=∃rs:Ι,H lg=↑(.lst (rs.map V.ref))/\Gi H rs L
def Hl(H:Hp)(t:Δ)(L:Ρ):Prop:=∃rs:Ι,Rd H t (.tup (rs.map V.ref))/\Gi H rs L
section
variable{S:Ι}{H H':Hp}{a lg t:Δ}{r:Rw}{rs:Ι}{L:Ρ}
theorem HD.mv(m:Mv S H H')(n:NT S H)(h:HD H a r):HD H' a r:=by
 cases r with
 |learn P R=>let#[f,p2,h1,c,d,e]:=h;exact#[f,p2,m.rd n h1,FP.mv m n c,FP.mv m n d,e]
 |forget nm=>exact m.rd n h
 |turn ks=>let#[k,h1,c,d]:=h;exact#[k,m.rd n h1,m.rd n c,d]
 |close age=>exact m.rd n h
 |hear P ans=>let#[p,q,h1,c,d,e,g]:=h;exact#[p,q,m.rd n h1,FP.mv m n c,d,m.tup n e,g]
theorem Gi.mv(m:Mv S H H')(n:NT S H)(h:Gi H rs L):Gi H' rs L:=#[h.1,λi a r c d=>(h.2 i a r c d).mv m n]
theorem Hj.mv(m:Mv S H H')(n:NT S H)(hl:lg∉S)(h:Hj H lg L):Hj H' lg L:=by
 let#[rs,e,r]:=h
 exact#[rs,m _ _ hl e,r.mv m n]
theorem Hl.mv(m:Mv S H H')(n:NT S H)(h:Hl H t L):Hl H' t L:=by
 let#[rs,e,r]:=h
 exact#[rs,m.rd n e,r.mv m n]
theorem gB:NT [] H:=λc h=>nomatch h
theorem Gi.same(s:Fp H H')(h:Gi H rs L):Gi H' rs L:=h.mv (S:=[]) s.mv gB
theorem Hj.same(s:Fp H H')(h:Hj H lg L):Hj H' lg L:=h.mv (S:=[]) s.mv gB (λz=>nomatch z)
theorem Hl.same(s:Fp H H')(h:Hl H t L):Hl H' t L:=h.mv (S:=[]) s.mv gB
theorem Gi.add(h:Gi H rs L)(hr:HD H a r):Gi H (rs++[a]) (L++[r]):=by
 refine#[by simp [h.1],λi b q c d=>?_]
 by_cases hi:i<rs.length
 ·rw[DM hi]at c
  rw[DM (by rw[<- h.1];exact hi)]at d
  exact h.2 i b q c d
 ·rw[Dw (by lia)]at c
  rw[Dw (by rw[<- h.1];lia),<- h.1]at d
  cases e:i-rs.length with
  |zero=>rw[e]at c d;cases c;cases d;exact hr
  |succ k=>rw[e]at c;cases c
theorem uP{n:Nat}{v:V}(h:n5 v):HI H n v v:=by
 cases v with
 |int i=>exact .int _ _
 |str i=>exact .str _ _
 |_=>exact h.elim
theorem Gv.eqv{p q:Δ}{P:Ps}(h1:Gv H p P)(h2:Gv H q P)(o:HC P):HI H 2 (.ref p) (.ref q):=by
 let#[g,e,c]:=h1;let#[h,f,d]:=h2;refine .tup (.inl e) (.inl f) Z (by show 3<=ζ;decide) λi x y ex a=>?_
 match i,ex,a with
 |0,ex,a=>cases ex;cases a;exact .str _ _
 |1,ex,a=>cases ex;cases a;exact .int _ _
 |2,ex,a=>cases ex;cases a;exact .ints (.inl c) (.inl d) (by rw[o.l];decide)
 |i+3,ex,a=>cases ex
theorem HD.eqv{b:Δ}(h1:HD H a r)(h2:HD H b r):HI H 3 (.ref a) (.ref b):=by
 cases r with
 |learn P R=>
  let#[o,p2,d,e,f,h,p]:=h1;let#[m,l,f1,f2,g,_]:=h2;refine .tup d f1 Z (by show 3<=ζ;decide) λi x y ex c=>?_
  match i,ex,c with
  |0,ex,c=>cases ex;cases c;exact .str _ _
  |1,ex,c=>cases ex;cases c;exact Gv.eqv e f2 h
  |2,ex,c=>cases ex;cases c;exact Gv.eqv f g p
  |i+3,ex,c=>cases ex
 |forget nm=>
  refine .tup (n:=2) h1 h2 Z (by show 2<=ζ;decide) λi x y ex c=>?_
  match i,ex,c with
  |0,ex,c=>cases ex;cases c;exact .str _ _
  |1,ex,c=>cases ex;cases c;exact .str _ _
  |i+2,ex,c=>cases ex
 |turn ks=>
  let#[s,d,e,f]:=h1;let#[q,f1,f2,_]:=h2;refine .tup (n:=2) d f1 Z (by show 2<=ζ;decide) λi x y ex c=>?_
  match i,ex,c with
  |0,ex,c=>cases ex;cases c;exact .str _ _
  |1,ex,c=>cases ex;cases c;exact .ints e f2 (by rw[Jo];lia)
  |i+2,ex,c=>cases ex
 |close age=>
  refine .tup (n:=2) h1 h2 Z (by show 2<=ζ;decide) λi x y ex c=>?_
  match i,ex,c with
  |0,ex,c=>cases ex;cases c;exact .str _ _
  |1,ex,c=>cases ex;cases c;exact .int _ _
  |i+2,ex,c=>cases ex
 |hear P ans=>
  let#[o,p2,d,e,h,f,t,j]:=h1;let#[m,l,f1,f2,_,g,_]:=h2;refine .tup d f1 Z (by show 3<=ζ;decide) λi x y ex c=>?_
  match i,ex,c with
  |0,ex,c=>cases ex;cases c;exact .str _ _
  |1,ex,c=>cases ex;cases c;exact Gv.eqv e f2 h
  |2,ex,c=>
   cases ex;cases c
   refine .tup (n:=1) (.inl f) (.inl g) Z (by rw[Jo];lia) λi x y ex c=>?_
   rw[ex]at c;cases c
   exact uP (j _ (JG ex))
  |i+3,ex,c=>cases ex
theorem Hl.eqv{t':Δ}(h1:Hl H t L)(h2:Hl H t' L)(hl:L.length<=2000000):HI H 4 (.ref t) (.ref t'):=by
 let#[rs,e,d,f]:=h1;let#[h,l,j,g]:=h2;refine .tup e l (by simp [d,j]) (by rw[Jd,d,Jo];lia) λi x y ex c=>?_
 rw[Jk]at ex c;cases q1:rs[i]? with
 |none=>rw[q1]at ex;cases ex
 |some a=>
  cases q2:h[i]? with
  |none=>rw[q2]at c;cases c
  |some b=>
   rw[q1]at ex;rw[q2]at c;cases ex;cases c
   have hi:i<L.length:=by rw[<- d];exact(Jp.mp q1).1
   exact(f i a _ q1 (Jg hi)).eqv (g i b _ q2 (Jg hi))
end
theorem _root_.L2.FC.up{K:ι}{H:Hp}{a:Δ}{xs:Β}(h:FC [] H a xs):FC K H a xs:=h.elim .inl λ⟨_,_,_,z,_⟩=>nomatch z
theorem _root_.L2.FC.rd{H:Hp}{a:Δ}{xs:Β}(h:FC [] H a xs):Rd H a (.tup xs):=h.elim id λ⟨_,_,_,z,_⟩=>nomatch z
theorem FK.up{K:ι}{H:Hp}{a:Δ}{c:List Ζ}(h:FK [] H a c):FK K H a c:=by
 let#[f,e,l,r]:=h
 exact#[f,e,l,λi a g d j=>(r i a g d j).up]
inductive Lk (K:ι) (C:Δ) (vs:Β) (H:Hp) (Q:VK):Prop
 |mk (p a b dx:Δ) (near far most:Int) (t:Ζ) (kss:List Ζ) (h1:vs=[.ref p,.ref a,.ref b,.int near,.int far,.int most]) (h2:H p=↑(.ins C dx [])) (h3:Sq K H a (t.map V.int)) (h4:FK [] H b kss) (h5:kss.length<=8) (h6:∀ta hk bd lg H',H hk=none->H bd=none->H lg=none->Mv [p] H H'->Fu K C H' p ta hk bd lg 0 ⟨t,kss,near,far,most,0,[]⟩->FK [] H' hk kss->Q .non H')
def xf(K:ι)(C:Δ):Sp:=λa H Q _=>Lk K C a H Q
inductive IK (K:ι) (C:Δ) (vs:Β) (H:Hp) (Q:VK):Prop
 |mk (p a b dx:Δ) (near far most:Int) (t:Ζ) (kss:List Ζ) (h1:vs=[.ref p,.ref a,.ref b,.int near,.int far,.int most]) (h2:H p=↑(.ins C dx [])) (h3:Sq K H a (t.map V.int)) (h4:LP [] H b kss) (h5:kss.length<=8) (h6:∀ta hk bd lg H',H hk=none->H bd=none->H lg=none->Mv [p] H H'->Fu K C H' p ta hk bd lg 0 ⟨t,kss,near,far,most,0,[]⟩->FK [] H' hk kss->Q .non H')
def jT(K:ι)(C:Δ):Sp:=λa H Q _=>IK K C a H Q
structure Da where
 p:Δ
 ta:Δ
 hk:Δ
 bd:Δ
 lg:Δ
structure F4(K:ι)(C:Δ)(H:Hp)(a:Da)(D:Dr)(L:Ρ):Prop where
 dr:Fu K C H a.p a.ta a.hk a.bd a.lg L.length D
 lo:Hj H a.lg L
 kr:FK [] H a.hk D.kss
section
variable{K:ι}{C:Δ}{S:Ι}{H H':Hp}{a:Da}{D:Dr}{L:Ρ}{r:Δ}{rw:Rw}{rs:Ι}
theorem F4.mv(b:F4 K C H a D L)(m:Mv S H H')(nt:NT S H)(hp:a.p∉S)(c:a.hk∉S)(hb:a.bd∉S)(hl:a.lg∉S):F4 K C H' a D L:=#[b.dr.mv m nt hp c hb hl,b.lo.mv m nt hl,FK.mv m nt c b.kr]
theorem F4.same(b:F4 K C H a D L)(s:Fp H H'):F4 K C H' a D L:=#[b.dr.same s,b.lo.same s,FK.same s b.kr]
theorem F4.push(b:Fu K C H a.p a.ta a.hk a.bd a.lg L.length D)(c:H a.lg=↑(.lst (rs.map V.ref)))(d:Gi H rs L)(f:FK [] H a.hk D.kss)(hr:HD H r rw):F4 K C (Ft H a.lg (.lst (rs.map V.ref++[.ref r]))) a D (L++[rw]):=by
 have nt:NT [a.lg] H:=NT.one c trivial
 have e:=b.putL (r:=r) c (Nat.le_of_eq d.1)
 rw[show L.length+1=(L++[rw]).length by simp]at e
 exact#[e,#[rs++[r],by rw[qc,Jy];rfl,(d.add hr).mv Mv.upd1 nt],FK.mv Mv.upd1 nt (qE b.ne.symm) f]
theorem wE{p ta hk bd lg:Δ}{n:Nat}{a:List (qz×V)}(e:H bd=↑(.dK a))(b:Fu K C H p ta hk bd lg n D):hk≠bd:=by
 let#[d,c,_]:=b.ks;exact qC c e (by intro z;cases z)
theorem BD{p ta hk bd lg dx:Δ}{n:Nat}{a:List (Str×V)}(e:H p=↑(.ins C dx a))(b:Fu K C H p ta hk bd lg n D):hk≠p:=by
 let#[d,c,_]:=b.ks;exact qC c e (by intro z;cases z)
theorem Fu.dl{p ta hk bd lg:Δ}(b:Fu K C H p ta hk bd lg 0 D)(c:FK [] H hk D.kss):F4 K C H #[p,ta,hk,bd,lg] D []:=by
 let#[rs,e,l]:=id b.lo
 obtain rfl:rs=[]:=List.length_eq_zero_iff.mp (Nat.le_zero.mp l)
 exact#[b,#[[],e,Z,λi a r h=>by cases h],c]
end
inductive Dd where
 |learn (o1 o2:Option Ps)
 |forget (nm:Str)
 |turn (ks:Ζ)
 |close (age:Int)
 |hear (o:Option Ps)
def qV(D:Dr)(P:Ps):Β×Kw:=q9 D P.nm P.age (Qd D.t (zJ D P.age) P.nm P.ds)
def CJ(D:Dr):Dd->Option (Dr×Rw)
 | .learn ↑P ↑R=>if(sD D P R).1="" then ↑({D with kn:=(sD D P R).2.2},.learn P R)else none
 | .learn _ _=>none
 | .forget nm=>if D.kn.lookup nm=none then none else ↑({D with kn:=D.kn.filter λp=>decide (p.1≠nm)},.forget nm)
 | .turn ks=>if D.kss.length<8 then ↑({D with kss:=D.kss++[ks]},.turn ks)else none
 | .close age=>↑({D with least:=if age>D.least then age else D.least},.close age)
 | .hear ↑P=>↑({D with kn:=(qV D P).2},.hear P (qV D P).1)
 | .hear none=>none
section
variable(K:ι)(C:Δ)(x:Xa)
inductive Ll (vs:Β) (H:Hp) (Q:VK):Prop
 |mk (a:Da) (D:Dr) (L:Ρ) (x:V) (o:Option Ps) (h1:vs=[.ref a.p,x]) (h2:F4 K C H a D L) (h3:L.length<=1000000) (h4:GR D) (h5:Tg H x o) (h6:(o=none->∀q H',Fp H H'->H' q=↑(.tup [.str "held",.str "bad"])->Q (.ref q) H')) (h7:∀P,o=↑P->∀pr q H',x= .ref pr->Mv [a.bd,a.lg] H H'->Gv H' pr P->H' q=↑(.tup (qV D P).1)->F4 K C H' a {D with kn:=(qV D P).2} (L++[.hear P (qV D P).1])->Q (.ref q) H')
def nP:Sp:=λa H Q _=>Ll K C a H Q
def CN(H:Hp)(k:Δ)(ks:Ζ):Prop:=H k=↑(.lst (ks.map V.int))\/Rd H k (.tup (ks.map V.int))
inductive IL (vs:Β) (H:Hp) (Q:VK):Prop
 |mk (a:Da) (D:Dr) (L:Ρ) (age:Int) (h1:vs=[.ref a.p,.int age]) (h2:F4 K C H a D L) (h3:L.length<=1000000) (h4:∀D' r,CJ D (.close age)=↑(D',r)->∀H',Mv [a.p,a.lg] H H'->F4 K C H' a D' (L++[r])->Q .non H')
def jS:Sp:=λa H Q _=>IL K C a H Q
inductive LC (vs:Β) (H:Hp) (Q:VK):Prop
 |mk (a:Da) (D:Dr) (L:Ρ) (h1:vs=[.ref a.p]) (h2:F4 K C H a D L) (h3:∀t H',Fp H H'->Hl H' t L->Q (.ref t) H')
def rB:Sp:=λa H Q _=>LC K C a H Q
end
theorem eO{X:Cx}:zi X (.type "tuple") (λxs H Q=>∃a c,xs=[.ref a]/\CN H a c/\∀t d,Fp H d->Rd d t (.tup (c.map V.int))->Q (.ref t) d):=by
 intro tx s σ H xs f Q I r h;let#[a,c,e,h,q]:=h;refine qY tx s σ H xs f Q I r #[a,c.map V.int,e,?_]
 rcases h with h|h
 ·exact .inl #[Fw.of h,λt g=>q t _ (Fp.upd g) (.inl qc)]
 ·exact .inr #[.inl h,q a _ (Fp.refl _) h]
section
variable{D:Dr}{P:Ps}
theorem i9(D:Dr)(nm:Str)(age:Int)(r:Option (Int×Int)):(q9 D nm age r).1.length<=3/\∀v∈(q9 D nm age r).1,n5 v:=by
 have two:∀a b:Str,([V.str a,.str b]:Β).length<=3/\∀v∈([V.str a,.str b]:Β),n5 v:=λa b=>#[by show 2<=3;decide,λv d=>by simp at d;rcases d with rfl|rfl<;>trivial]
 have c:∀(a b:Str) (i:Int),([V.str a,.str b,.int i]:Β).length<=3/\∀v∈([V.str a,.str b,.int i]:Β),n5 v:=λa b i=>#[by show 3<=3;decide,λv d=>by simp at d;rcases d with rfl|rfl|rfl<;>trivial]
 unfold q9;split
 ·exact two _ _
 ·split
  ·split
   ·exact two _ _
   ·split
    ·exact c _ _ _
    ·exact two _ _
  ·exact two _ _
theorem tE(D:Dr)(P:Ps):(qV D P).1.length<=3:=(i9 ..).1
theorem uc(D:Dr)(P:Ps):∀v∈(qV D P).1,n5 v:=(i9 ..).2
end
theorem xt{t u:TS}{D:Gj}{σ:L2.St}{H:Hp}(G:L2.St->Hp->Prop)(h:∀c:Gj,c.rt=D.rt->(∀a H',G a H'->c.nx a H')->t c σ H)(d:∀a H',G a H'->u D a H'):bL t u D σ H:=h {D with nx:=u D} rfl d
section
variable{K:ι}{C:Δ}{H:Hp}{a:Da}{D:Dr}{L:Ρ}
def dS(a:Da):Ι:=[a.p,a.hk,a.bd,a.lg]
theorem F4.nt(d:F4 K C H a D L):NT (dS a) H:=λc e=>by
 let#[dx,h]:=id d.dr.ob;let#[j,f,_]:=id d.dr.kb;let#[l,g,_]:=id d.dr.ks;let#[rs,i,_]:=id d.lo;simp only[dS,Jl,Jz,JA]at e;rcases e with rfl|rfl|rfl|rfl
 ·exact#[_,h,trivial]
 ·exact#[_,g,trivial]
 ·exact#[_,f,trivial]
 ·exact#[_,i,trivial]
end
theorem Bp{σ:L2.St}{H:Hp}{t u:TS}{D:Gj}{rt:VK}{bk ct:L2.St->Hp->Prop}(G:L2.St->Hp->Prop)(h:∀c:Gj,c.rt=D.rt->(∀a H',G a H'->c.nx a H')->t c σ H)(d:∀a H',G a H'->u D a H'):Gj.nx {nx:=bL t u D,rt:=rt,bk:=bk,ct:=ct} σ H:=h {D with nx:=u D} rfl d
section
variable{σ:L2.St}{H:Hp}{tc:TT}{t u r:TS}{D:Gj}{rt:VK}{bk ct:L2.St->Hp->Prop}
theorem AH(G:Bool->Hp->Prop)(h:∀a:Bool->Hp->Prop,(∀b H',G b H'->a b H')->tc σ H a)(h1:∀H',G true H'->t {D with nx:=r D} σ H')(h2:∀H',G false H'->u {D with nx:=r D} σ H'):bL (j2 tc t u) r D σ H:=h _ λb H' g=>by
 cases b with
 |true=>exact(Jb Z).mpr (h1 H' g)
 |false=>exact(Jc (by intro z;cases z)).mpr (h2 H' g)
theorem nD(G:Bool->Hp->Prop)(h:∀a:Bool->Hp->Prop,(∀b H',G b H'->a b H')->tc σ H a)(h1:∀H',G true H'->t {D with nx:=r D} σ H')(h2:∀H',G false H'->u {D with nx:=r D} σ H'):oT {nx:=bL (j2 tc t u) r D,rt:=rt,bk:=bk,ct:=ct} σ H:=AH G h h1 h2
end
theorem jC{X:Cx}{K:ι}(h:X.K=K):zi X (.type "list") (λxs H Q=>∃p ys,xs=[.ref p]/\(Fw K H p ys\/FC K H p ys)/\∀l,H l=none->Q (.ref l) (Ft H l (.lst ys))):=by subst h;exact Zt
theorem lj{X:Cx}{a:Φ}{ta:TE}(ha:QE X a ta)(he:∀c,isTrue a X.env c=(do let v <- c;standAt a.pos;holding [v] (truthy v))):QT X a (λσ H Q=>ta σ H λx H'=>∃k,t7 X.K x H' k/\Q k H'):=#[vd ha.h he]
section
variable{K:ι}{H:Hp}
theorem HI.eqk{n:Nat}{x y:V}(h:HI H n x y):Ig K H n x y:=by
 induction h with
 |int n i=>exact .int n i
 |str n z=>exact .str n z
 |non n=>exact .non n
 |tup h1 h2 hl _ _ ih=>exact .tup (.inl h1) (.inl h2) hl ih
theorem tY{a b:Δ}{ns:Ζ}{n:Nat}(h1:FC K H a (ns.map V.int))(h2:FC K H b (ns.map V.int)):Ig K H (n+1) (.ref a) (.ref b):=by
 refine .tup h1 h2 Z λi x y c d=>?_
 rw[c]at d;cases d
 rw[Jk]at c;cases h:ns[i]? with
 |none=>rw[h]at c;cases c
 |some v=>rw[h]at c;cases c;exact .int _ _
theorem tN{p q:Δ}{ss:Α}{h n:Kw}(h1:Ht H p ss h)(h2:Ht H q ss n)(hs:∀nm∈ss,nm∈h.map (·.1))(he:∀nm,n.lookup nm=h.lookup nm):Ig K H 3 (.ref p) (.ref q):=by
 let#[t,w,l,z]:=h1;let#[bs,v,u,D]:=h2;refine .tup (FC.of w) (FC.of v) (by simp [l,u]) λi x y ex c=>?_
 rw[Jk]at ex c;cases q1:t[i]? with
 |none=>rw[q1]at ex;cases ex
 |some a=>
  cases q2:bs[i]? with
  |none=>rw[q2]at c;cases c
  |some b=>
   rw[q1]at ex;rw[q2]at c;cases ex;cases c
   have hi:i<ss.length:=by rw[<- l];exact(Jp.mp q1).1
   have m:=Jg hi;let#[e,g]:=Qv (hs _ (CQ hi))
   let#[C,r,d]:=z i a _ e q1 m g;let#[s,o,f]:=D i b _ e q2 m (by rw[he];exact g)
   refine .tup (FC.of r) (FC.of o) Z λj x y ex c=>?_
   match j,ex,c with
   |0,ex,c=>cases ex;cases c;exact .str _ _
   |1,ex,c=>cases ex;cases c;exact .int _ _
   |2,ex,c=>cases ex;cases c;exact .int _ _
   |3,ex,c=>
    cases ex;cases c
    cases hw:e.wt with
    |none=>
     rw[hw]at d f;have d:C= .non:=d
     have f:s= .non:=f
     rw[d,f];exact .non _
    |some xc=>
     rw[hw]at d f;let#[E,rfl,B]:=d;let#[F,rfl,A]:=f;exact tY (ns:=[xc.1,xc.2]) (FC.of B) (FC.of A)
   |j+4,ex,c=>cases ex
theorem Ig.up{n:Nat}{x y:V}(h:Ig K H n x y):Ig K H (n+1) x y:=by
 induction h with
 |int n i=>exact .int _ i
 |str n z=>exact .str _ z
 |non n=>exact .non _
 |tup h1 h2 hl _ ih=>exact .tup h1 h2 hl ih
end
theorem oM(a:Da):a.p∈dS a:=by simp [dS]
theorem oq(a:Da):a.hk∈dS a:=by simp [dS]
theorem fR(a:Da):a.bd∈dS a:=by simp [dS]
theorem cY(a:Da):a.lg∈dS a:=by simp [dS]
section
variable(K:ι)(C:Δ)
inductive Il (vs:Β) (H:Hp) (Q:VK):Prop
 |mk (a:Da) (D:Dr) (L:Ρ) (p1 p2:Δ) (P R:Ps) (c d d':Int) (h1:vs=[.ref a.p,.ref p1,.ref p2]) (h2:F4 K C H a D L) (h3:L.length<=1000000) (h4:GR D) (h5:Gv H p1 P) (h6:Gv H p2 R) (h7:HC P) (h8:HC R) (h9:Zk D P=↑(c,d)) (h10:Zk D R=↑(c+1,d')) (h11:R.nm=P.nm) (h12:R.age=P.age) (h13:D.kn.lookup R.nm=none) (h14:(D.kn.length:Int)<D.most) (h15:∀H',Mv [a.bd,a.lg] H H'->F4 K C H' a {D with kn:=qS D.kn R.nm ⟨R.age,c+1,none⟩} (L++[.learn P R])->Q .non H')
def iM:Sp:=λa H Q _=>Il K C a H Q
end
section
variable{S:Ι}{H H':Hp}{q:Δ}
theorem Ht.mvN{ss:Α}{kn:Kw}(h:Ht H q ss kn)(m:Mv S H H')(nt:NT S H):Ht H' q ss kn:=by
 let#[d,e,l,r]:=h;refine#[d,m.tup nt e,l,λi a nm x c j g=>?_]
 let#[v,f,w]:=r i a nm x c j g
 exact#[v,m.tup nt f,w.mv m nt]
end
theorem AZ{σ:L2.St}{H:Hp}{tc:TT}{t u:TS}{D:Gj}(G:Bool->Hp->Prop)(h:∀a:Bool->Hp->Prop,(∀b H',G b H'->a b H')->tc σ H a)(h1:∀H',G true H'->t D σ H')(h2:∀H',G false H'->u D σ H'):j2 tc t u D σ H:=h _ λb H' g=>by
 cases b with
 |true=>exact(Jb Z).mpr (h1 H' g)
 |false=>exact(Jc (by intro z;cases z)).mpr (h2 H' g)
theorem ff{b:Δ}{n:Nat}{H H1 a:Hp}(hb:H b=none)(s:Fp H H1)(g:FY b n H1 a):Fp H a:=λx o e=>g.kp x o (qt e hb) (s x o e)
theorem n6{H:Hp}{a:Da}(f1:H a.p=none)(f2:H a.hk=none)(d:H a.bd=none)(e:H a.lg=none):∀z∈dS a,H z=none:=λz c=>by
 simp only[dS,Jl,Jz,JA]at c;rcases c with rfl|rfl|rfl|rfl<;>assumption
section
variable{X:Cx}
inductive Lm (x:V) (vs:Β) (H:Hp) (Q:VK):Prop
 |mk (l:Δ) (xs:Β) (i:Int) (y:V) (h1:x= .ref l) (h2:vs=[.int i,y]) (h3:H l=↑(.lst xs)) (h4:0<=i) (h5:i<=xs.length) (h6:xs.length<ζ) (h7:Q .non (Ft H l (.lst (xs.take i.toNat++y::xs.drop i.toNat))))
def yp:V->Β->Hp->VK->Prop:=λx a H Q=>Lm x a H Q
theorem tH:mW X "list.insert" yp:=by
 intro tx s σ H x E v A Q I p j h;let#[l,xs,i,y,rfl,rfl,f,D,hk,C,q]:=h;cases p;let#[B,u,rfl,c,o]:=j.two;let#[t,rfl]:=c;let#[z,a,n,r,G,e]:=I.lstM f;have d:a.length<ζ:=by lia
 have w:i<2 ^ 63:=by have:a.length<ζ:=d;rw[Jo]at this;lia
 have m:¬(!γ.List.listFitsIndex i)=true:=by rw[fitsIndex_both (by lia) w];decide
 refine Dz F.slot_list_insert #[_,e,Z] F.entry_list_insert (F.args_list_insert_3 _ _ _) (PySem.AutoSeq1.list_insert_list_int_val_1 l a.toArray n i t u m (by rw[Jr];lia)) #[e,?_]
 refine#[.non,_,I.lset (its':=a.take i.toNat++u::a.drop i.toNat) f e ?_ ((r.take i.toNat).append (.cons o (r.drop i.toNat))) ?_,Z,q]
 ·simp only[Jr]
  have g:min i.toNat a.length=i.toNat:=by lia
  rw[Jc (by lia),g]
  apply Array.ext'
  simp [CZ]
 ·rw[Jx,CP,J0,Ei]
  lia
end
def F0(P:Hp->Δ->Kb->Prop)(H:Hp)(d:Δ)(kn:Kw):Prop:=∃f:Kw×(Str->Δ),H d=↑(.dK (zY f.1 f.2))/\(∀e∈kn,P H (f.2 e.1) e.2)/\f.1.Perm kn/\(kn.map (·.1)).Nodup
def Gw(H:Hp)(a:Δ)(e:Kb):Prop:=∃v,H a=↑(.lst [.int e.age,.int e.last,v])/\Wt H v e.wt
abbrev FR:=F0 Gw
section
variable{P:Hp->Δ->Kb->Prop}{S:Ι}{H H':Hp}{d a:Δ}{kn:Kw}{e:Kb}{nm:Str}
theorem F0.get(h:F0 P H d kn)(nm:Str):(kn.lookup nm=none/\FW H d (.str nm) none)\/∃e a,kn.lookup nm=↑e/\FW H d (.str nm) ↑(.ref a)/\P H a e:=by
 let#[#[l,f],c,j,pm,i]:=h;have g:=FW.k (k:=Sum.inr nm) c
 rw[iH,eY pm i]at g;cases q:kn.lookup nm with
 |none=>rw[q]at g;exact .inl #[Z,g]
 |some e=>rw[q]at g;exact .inr #[e,f nm,Z,g,j _ (Qg q)]
theorem F0.di(h:F0 P H d kn):∃kvs,H d=↑(.dK kvs)/\kvs.length=kn.length:=by
 let#[f,e,_,pm,_]:=h
 exact#[_,e,(Jd _).trans pm.length_eq]
theorem F0.to(h:F0 P H d kn)(hd:∀o,H d=↑o->H' d=↑o)(hp:∀a e,P H a e->P H' a e):F0 P H' d kn:=by
 let#[f,r,w,p]:=h
 exact#[f,hd _ r,λe c=>hp _ _ (w e c),p]
theorem F0.put(h:F0 P H d kn)(nm:Str)(hl:kn.length<=100)(hb:P H a e)(hp:∀o a e,P H a e->P (Ft H d (.dK o)) a e):∃H',GL H d (.str nm) (.ref a) H'/\Mv [d] H H'/\F0 P H' d (qS kn nm e):=by
 let#[#[i,f],t,m,pm,v]:=h;have j:(zY i f).length=kn.length:=(Jd _).trans pm.length_eq
 have hk:∀e∈i,P H (f e.1) e.2:=λe x=>m e (pm.mem_iff.mp x)
 refine#[_,GL.k (k:=Sum.inr nm) t (by rw[j];exact Nat.lt_of_le_of_lt hl ⋯),Mv.upd1,(qS i nm e,λn=>if n=nm then a else f n),?_,?_,aF pm nm e,cP v nm e]
 ·rw[qc]
  congr 2
  unfold FZ qS zY;have s:((i.map λe=>((Sum.inr e.1:qz),V.ref (f e.1))).any λu=>decide (u.1=(Sum.inr nm:qz)))=true↔nm∈i.map (·.1):=by
   rw[Eu];constructor
   ·rintro⟨p,hp,z⟩
    let#[q,g,rfl]:=Jv.mp hp;have r:(Sum.inr q.1:qz)=Sum.inr nm:=Jw z
    injection r with r
    exact Jv.mpr #[q,g,r]
   ·intro z
    let#[q,g,e]:=Jv.mp z
    exact#[_,Jv.mpr #[q,g,Z],Jh (by rw[e])]
  by_cases z:nm∈i.map (·.1)
  ·rw[Jb (s.mpr z),Jb z,JW,JW]
   refine DC λp hp=>?_
   simp only[Function.comp]
   by_cases y:p.1=nm
   ·rw[Jb (by rw[y]),Jb y]
    simp [y]
   ·rw[Jc (by intro w;injection w with w;exact y w),Jc y]
    simp [y]
  ·rw[Jc (λw=>z (s.mp w)),Jc z,Jy]
   congr 1
   ·refine DC λp hp=>?_
    have y:¬p.1=nm:=λw=>z (Jv.mpr #[p,hp,w])
    simp [y]
   ·simp
 ·intro p c
  have c:=(aF pm nm e).mem_iff.mpr c;have l:=hp (FZ (zY i f) (Sum.inr nm) (.ref a)) _ _ hb;unfold qS at c;split at c
  ·let#[q,g,rfl]:=Jv.mp c
   by_cases y:q.1=nm
   ·rw[Jb y];simp only[J6];exact l
   ·rw[Jc y]
    show P _ (if q.1=nm then a else f q.1) q.2
    rw[Jc y];exact hp _ _ _ (hk q g)
  ·rename_i z
   rcases JK.mp c with g|g
   ·have y:¬p.1=nm:=λw=>z (Jv.mpr #[p,g,w])
    show P _ (if p.1=nm then a else f p.1) p.2
    rw[Jc y];exact hp _ _ _ (hk p g)
   ·rw[Jn.mp g];simp only[J6];exact l
theorem Gw.mv(m:Mv S H H')(n:NT S H)(ha:a∉S)(h:Gw H a e):Gw H' a e:=by
 let#[v,r,w]:=h
 exact#[v,m _ _ ha r,w.mv m n]
theorem Gw.same(s:Fp H H')(h:Gw H a e):Gw H' a e:=h.mv (S:=[]) s.mv gB (λh=>nomatch h)
theorem Gw.ned{b:Δ}{kvs:List (qz×V)}(h:Gw H a e)(hb:H b=↑(.dK kvs)):a≠b:=by
 let#[v,r,_]:=h;exact qC r hb (by intro z;cases z)
theorem Gw.neb{b:Δ}{n:Nat}(h:Gw H a e)(hb:F2 H b n):a≠b:=by
 let#[v,r,w]:=h;let#[x,y,z,d,_]:=hb;refine qC r d (λq=>?_)
 injection q with q
 injection q with _ q
 injection q with _ q
 injection q with q _
 cases hw:e.wt with
 |none=>rw[hw]at w;have w:v= .non:=w;rw[w]at q;cases q
 |some c=>rw[hw]at w;let#[p,rfl,_]:=w;cases q
theorem FR.same(h:FR H d kn)(s:Fp H H'):FR H' d kn:=F0.to h (λo e=>s _ _ e) (λa e h=>h.same s)
theorem FR.grc{b:Δ}{n n':Nat}(h:FR H d kn)(hb:F2 H b n)(g:FY b n' H H'):FR H' d kn:=by
 let#[kvs,e,_]:=h.di;let#[x,y,z,c,_]:=id hb;exact F0.to h (λo f=>g.kp _ _ (qC e c (by intro z;cases z)) f) (λa e h=>h.mv g.mv (Qe hb) (qE (h.neb hb)))
theorem FR.put(h:FR H d kn)(nm:Str)(hl:kn.length<=100)(hb:Gw H a e):∃H',GL H d (.str nm) (.ref a) H'/\Mv [d] H H'/\FR H' d (qS kn nm e):=by
 let#[kvs,c,_]:=h.di;exact F0.put h nm hl hb (λo a e h=>h.mv Mv.upd1 (NT.one c trivial) (qE (h.ned c)))
end
structure Io where
 m:Δ
 mt:Δ
 ml:Δ
 kd:Δ
 nl:Δ
def cq(D:Dr)(a:Io):List (qz×V):=[(.inr "table",.ref a.mt),(.inr "keys",.ref a.ml),(.inr "near",.int D.near),(.inr "far",.int D.far),(.inr "shut",.int D.least),(.inr "known",.ref a.kd),(.inr "names",.ref a.nl)]
def Mt:List qz:=[.inr "table",.inr "keys",.inr "near",.inr "far",.inr "shut",.inr "known",.inr "names"]
theorem tI:Mt.Nodup:=by decide +kernel
theorem lZ(D:Dr)(a:Io):((cq D a).map (·.1)).Nodup:=tI
structure FQ(K:ι)(H:Hp)(a:Io)(D:Dr)(ns:Α):Prop where
 di:H a.m=↑(.dK (cq D a))
 tb:FC K H a.mt (D.t.map V.int)
 ks:FK [] H a.ml D.kss
 kb:FR H a.kd D.kn
 nm:H a.nl=↑(.lst (ns.map V.str))
 ne:a.m≠a.kd
 n1:1<=ns.length
section
variable{K:ι}{H H':Hp}{a:Io}{D:Dr}{ns:Α}
theorem FQ.get(w:FQ K H a D ns)(i:Nat){k:qz}{v:V}(h:(cq D a)[i]? =↑(k,v)):FW H a.m (kV k) ↑v:=by
 have:=FW.k (k:=k) w.di
 rw[br i h (lZ ..)]at this;exact this
theorem FQ.g_table(w:FQ K H a D ns):FW H a.m (.str "table") ↑(.ref a.mt):=w.get (k:= .inr "table") 0 Z
theorem FQ.g_keys(w:FQ K H a D ns):FW H a.m (.str "keys") ↑(.ref a.ml):=w.get (k:= .inr "keys") 1 Z
theorem FQ.g_near(w:FQ K H a D ns):FW H a.m (.str "near") ↑(.int D.near):=w.get (k:= .inr "near") 2 Z
theorem FQ.g_far(w:FQ K H a D ns):FW H a.m (.str "far") ↑(.int D.far):=w.get (k:= .inr "far") 3 Z
theorem FQ.g_shut(w:FQ K H a D ns):FW H a.m (.str "shut") ↑(.int D.least):=w.get (k:= .inr "shut") 4 Z
theorem FQ.g_known(w:FQ K H a D ns):FW H a.m (.str "known") ↑(.ref a.kd):=w.get (k:= .inr "known") 5 Z
theorem FQ.g_names(w:FQ K H a D ns):FW H a.m (.str "names") ↑(.ref a.nl):=w.get (k:= .inr "names") 6 Z
theorem FQ.same(w:FQ K H a D ns)(s:Fp H H'):FQ K H' a D ns:=#[s _ _ w.di,Fp.sqt s w.tb,w.ks.same s,w.kb.same s,s _ _ w.nm,w.ne,w.n1]
theorem FQ.grc{b:Δ}{n n':Nat}(w:FQ K H a D ns)(hb:F2 H b n)(g:FY b n' H H'):FQ K H' a D ns:=by
 let#[x,y,z,c,_]:=id hb;let#[e,d,_]:=id w.ks
 exact#[g.kp _ _ (qC w.di c (by intro z;cases z)) w.di,g.mv.sqt (Qe hb) w.tb,w.ks.mv g.mv (Qe hb) (qE (qC d c (Qn 0 Z (by intro a z;cases z)))),w.kb.grc hb g,g.kp _ _ (qC w.nm c (eI w.n1 _ _ _)) w.nm,w.ne,w.n1]
end
theorem FK.grc{K:ι}{H H':Hp}{b d:Δ}{n n':Nat}{c:List Ζ}(ks:FK K H d c)(hb:F2 H b n)(g:FY b n' H H'):FK K H' d c:=by
 let#[x,y,z,f,_]:=id hb;let#[h,e,_]:=id ks;exact ks.mv g.mv (Qe hb) (qE (qC e f (Qn 0 Z (by intro a z;cases z))))
structure HP(D:Dr)(ns:Α):Prop where
 ok:GR D
 k1:1<=D.kss.length
 n0:1<=D.near
 nf:D.near<=D.far
 f2:D.far<=2000
 lk:D.least<D.kss.length
 ms:D.most=12
 kb:∀e∈D.kn,II D e.2/\1<=e.2.last
 wt:∀e∈D.kn,∀x cc,e.2.wt=↑(x,cc)->x=e.2.age/\e.2.last+D.near<cc/\cc<=e.2.last+D.far
 nm:∀z∈ns,Zp z
 nn:D.kn.map (·.1)=ns
 nl:ns.length<=12
 n1:1<=ns.length
structure Sc where
 nm:Str
 age:Int
 c:Int
 d:Int
 f:Int
def cJ(H:Hp)(p:Δ)(s:Sc):Prop:=H p=↑(.tup [.str s.nm,.int s.age,.int s.c,.int s.d,.int s.f])
structure GP(D:Dr)(s:Sc):Prop where
 nm:Zp s.nm
 a0:0<=s.age
 a1:s.age<D.kss.length
 c0:0<=s.c
 c1:s.c<4096
 dg:aL s.d
 f0:0<=s.f
 f1:s.f<=3
def Hi:Ζ:=[-1, -9,8,1000000000000000000000000000000]
def zu(D:Dr)(s:Sc):Int:=if s.f<=1 then s.age else if s.f=2 then D.kss.length+s.age else Hi.getD (s.c%4).toNat 0
def Qw(s:Sc):Ζ:=zK s.c s.d++[((zK s.c s.d).sum+1+(s.f-1)*5)%16]
def zw(D:Dr)(s:Sc):Ps:=if s.f=0 then#[s.nm,s.age,Z1 D.t (zJ D s.age) s.nm s.c s.d]else#[s.nm,zu D s,Qo D.t (aS D.t (zJ D s.age) s.nm) (Qw s)]
section
variable{D:Dr}{s:Sc}
theorem nc(h:GP D s):zt (Qw s):=λx a=>by
 have d:=h.c0;have c:=h.c1;simp only[Qw,zK,Et,CV,Jl,Jz,JA]at a;rcases a with rfl|rfl|rfl|rfl|rfl
 ·exact QN _
 ·exact QN _
 ·exact#[by lia,by lia]
 ·exact h.dg
 ·exact QN _
theorem fP(h:GP D s)(a:D.t.Perm F5):HC (zw D s):=by
 unfold zw;split
 ·exact#[h.nm,rp ..,uN a h.c0 h.c1 h.dg]
 ·exact#[h.nm,by show(Qo D.t _ (Qw s)).length=5;rw[aC];rfl,fF a (nc h)]
theorem vx(h:GP D s)(ok:GR D)(c:1<=D.kss.length):qV D (zw D s)=q9 D s.nm (zu D s) (if s.f=0 then ↑(s.c,s.d)else if s.f=1 then none else Qd D.t (zJ D (zu D s)) s.nm (Qo D.t (aS D.t (zJ D s.age) s.nm) (Qw s))):=by
 unfold qV zw
 by_cases a:s.f=0
 ·rw[Jb a,Jb a]
  have e:zu D s=s.age:=by unfold zu;rw[Jb (by lia)]
  rw[e];simp only
  rw[cA ok.tp h.c0 h.c1 h.dg]
 ·rw[Jc a,Jc a]
  simp only
  by_cases f1:s.f=1
  ·rw[Jb f1]
   have e:zu D s=s.age:=by unfold zu;rw[Jb (by lia)]
   rw[e];congr 1
   unfold Qd;rw[fL ok.tp (nc h) (by show 2<=5;decide)]
   unfold gA Qw;rw[mn,f1]
   show(if(s.c%16+s.c/16%16+s.c/256+s.d+1+(1-1)*5)%16=(s.c%16+s.c/16%16+s.c/256+s.d)%16 then _ else none)=none
   rw[Jc (by lia)]
  ·rw[Jc f1]
theorem yo(h:GP D s)(hf:1<s.f)(c:D.kss.length<=8)(d:1<=D.kss.length)(a:0<=D.least):zT D (zu D s)=false:=by
 have f:=h.a0;have f1:=h.f1;have g:=h.c0;unfold zT zu;rw[Jc (by lia)]
 by_cases e:s.f=2
 ·rw[Jb e,Bool.and_eq_false_iff]
  exact .inr (Jj (by lia))
 ·rw[Jc e]
  have:(s.c%4).toNat<4:=by lia
  rw[Bool.and_eq_false_iff];generalize (s.c%4).toNat=j at this
  match j,this with
  |0,_=>exact .inl (Jj (by show¬D.least<= -1;lia))
  |1,_=>exact .inl (Jj (by show¬D.least<= -9;lia))
  |2,_=>exact .inr (Jj (by show¬(8:Int)<_;lia))
  |3,_=>exact .inr (Jj (by show¬(1000000000000000000000000000000:Int)<_;lia))
end
section
variable(K:ι)
inductive IM (vs:Β) (H:Hp) (Q:VK):Prop
 |mk (kd:Δ) (kn:Kw) (h1:vs=[.ref kd]) (h2:FR H kd kn) (h3:kn.length<=60) (h4:∀d H',Fp H H'->H d=none->FR H' d kn->Q (.ref d) H')
def lA:Sp:=λa H Q _=>IM a H Q
inductive HQ (vs:Β) (H:Hp) (Q:VK):Prop
 |mk (a:Io) (kd sp:Δ) (D:Dr) (ns:Α) (kn:Kw) (s:Sc) (h1:vs=[.ref a.m,.ref kd,.ref sp]) (h2:FQ K H a D ns) (h3:HP D ns) (h4:FR H kd kn) (h5:kn.length<=60) (h6:kd≠a.m) (h7:cJ H sp s) (h8:GP D s) (h9:∀q H',Mv [kd] H H'->H' q=↑(.tup (qV {D with kn:=kn} (zw D s)).1)->FR H' kd (qV {D with kn:=kn} (zw D s)).2->Q (.ref q) H')
def fQ:Sp:=λa H Q _=>HQ K a H Q
inductive Ip (vs:Β) (H:Hp) (Q:VK):Prop
 |mk (a:Io) (sp:Δ) (D:Dr) (ns:Α) (s:Sc) (h1:vs=[.ref a.m,.ref sp]) (h2:FQ K H a D ns) (h3:D.t.Perm F5) (h4:cJ H sp s) (h5:GP D s) (h6:∀pr H',Fp H H'->Gv H' pr (zw D s)->Q (.ref pr) H')
def aD:Sp:=λa H Q _=>Ip K a H Q
end
inductive Mj (x:V) (y:V) (H:Hp) (Q:VK):Prop
 |mk (o:Option (Int×Int)) (b:Δ) (a c:Int) (h1:Wt H x o) (h2:y= .ref b) (h3:Rd H b (.tup [.int a,.int c])) (h4:Q (.bl (! decide (o=↑(a,c)))) H)
def Cl:R2:=λx y H Q=>Mj x y H Q
theorem Bu{X:Cx}{k:Nat}(hr:FJ k X.A):zf X (compareOp .NotEq) Cl:=by
 intro tx s σ H x y v u Q I E M h;let#[o,b,a,c,C,rfl,J,q]:=h;cases M;let#[f,F,p2,_]:=I.tuple (.inl J)
 have B:X.A.units<cLine:=by have:=hr.un;lia
 cases o with
 |none=>
  have l:x= .non:=C
  subst l;cases E;rw[Jj (by intro z;cases z)]at q
  exact SeqAt.RcNeAt.none_tuple p2 B _ _ _ _ #[.bl true,H,I,Z,q]
 |some pr=>
  let#[m,n]:=pr;let#[w,rfl,l]:=C;cases E;let#[i,D,P,_]:=I.tuple (.inl (.inl l))
  have p:=D.length;have r:=F.length;have N:=SeqAt.RcNeAt.tuples (A:=X.A) (e:=λj=>[m,n].getD j 0==[a,c].getD j 0) (show s.heap.IsTuple w i.toArray from P) (show s.heap.IsTuple b f.toArray from p2) B (λj h1 K=>by
   have d:j<i.length:=by simpa using h1
   have g:j<f.length:=by simpa using K
   let#[t,e]:=c9 (ns:=[m,n]) D j d (by rw[<- p]at d;exact d)
   let#[R,O]:=c9 (ns:=[a,c]) F j g (by rw[<- r]at g;exact g)
   simp only[List.getElem_toArray,e,O,JE,Jg (show j<[m,n].length by rw[<- p]at d;exact d),Jg (show j<[a,c].length by rw[<- r]at g;exact g),De]
   exact SeqAt.EqAt.int_int _ _ _ _)
  have G:i.toArray.size=2:=by rw[Jr,<- p];rfl
  have L:f.toArray.size=2:=by rw[Jr,<- r];rfl
  refine N _ _ _ _ #[.bl _,H,I,?_,q]
  show Γ.bool _=Γ.bool _
  congr 1
  rw[G,L,show min 2 2=([m,n]:Ζ).length from Z,lE [m,n] [a,c] Z]
  simp
theorem sE:∀(k:Kw) (c:Ι),(k.map (·.1)).Nodup->∃g:Str->Δ,∀(i:Nat) (e:Str×Kb) (l:Δ),k[i]? =↑e->c[i]? =↑l->g e.1=l
 | [],_,_=>#[λ_=>0,λi e l h=>by cases h]
 |(n,x)::k,[],_=>#[λ_=>0,λi e l h a=>by cases a]
 |(n,x)::k,l::c,nd=>by
  rw[JL,C4]at nd;let#[g,f]:=sE k c nd.2;refine#[λm=>if m=n then l else g m,λi e d h1 a=>?_]
  match i,h1,a with
  |0,h1,a=>cases h1;cases a;exact Jb Z
  |i+1,h1,a=>
   have h1:k[i]? =↑e:=h1
   have j:¬e.1=n:=λz=>nd.1 (by rw[<- z];exact Jv.mpr #[e,JG h1,Z])
   show(if e.1=n then l else g e.1)=d
   rw[Jc j];exact f i e d h1 a
theorem vn{a:Kw}{g:Str->Δ}(c:(a.map (·.1)).Nodup):Qh [] (zY a g)=zY a g:=by
 have:=Z7 (zY a g) [] (by rw[CV,nV];exact List.Pairwise.map _ (λx y (h:x≠y) z=>h (by injection z)) c)
 rwa [CV]at this
def Pl(l:Δ)(c:Kb):Hp->Δ->Kb->Prop:=λH a e=>if a=l then e=c else Gw H a e
theorem FR.pl{H:Hp}{d l:Δ}{kn:Kw}{c:Kb}(h:FR H d kn)(hl:H l=none):F0 (Pl l c) H d kn:=by
 let#[f,r,w,p]:=h;refine#[f,r,λe g=>?_,p]
 let#[v,a,i]:=w e g;unfold Pl;rw[Jc (λz=>by rw[z,hl]at a;cases a)]
 exact#[v,a,i]
theorem gI{S:Ι}{H H':Hp}{a l:Δ}{e c:Kb}(m:Mv S H H')(n:NT S H)(hs:∀a e,Gw H a e->a≠l->a∉S)(h:Pl l c H a e):Pl l c H' a e:=by
 unfold Pl at h⊢
 by_cases z:a=l
 ·rw[Jb z]at h⊢;exact h
 ·rw[Jc z]at h⊢;exact Gw.mv m n (hs a e h z) h
theorem F0.done{H:Hp}{d l:Δ}{kn:Kw}{a:Kb}(h:F0 (Pl l a) H d kn)(hl:Gw H l a):FR H d kn:=by
 let#[f,r,w,p]:=h;refine#[f,r,λe c=>?_,p]
 have:=w e c
 unfold Pl at this
 by_cases z:f.2 e.1=l
 ·rw[Jb z]at this;rw[this,z];exact hl
 ·rw[Jc z]at this;exact this
theorem F0.putE{P:Hp->Δ->Kb->Prop}{H:Hp}{d a:Δ}{kn:Kw}{e:Kb}{c:List (qz×V)}(h:F0 P H d kn)(l:H d=↑(.dK c))(nm:Str)(hl:kn.length<=100)(hb:P H a e)(hp:∀o a e,P H a e->P (Ft H d (.dK o)) a e):GL H d (.str nm) (.ref a) (Ft H d (.dK (FZ c (Sum.inr nm) (.ref a))))/\F0 P (Ft H d (.dK (FZ c (Sum.inr nm) (.ref a)))) d (qS kn nm e):=by
 let#[H',dp,_,n]:=h.put nm hl hb hp;have j:H'=Ft H d (.dK (FZ c (Sum.inr nm) (.ref a))):=by
  rcases dp with⟨kvs,k,f,g,_,m⟩|⟨kvs,k,b,f,_⟩
  ·rw[l]at f;cases f
   cases k with
   |inl i=>cases g
   |inr z=>injection g with g;rw[<- g]at m;exact m
  ·rw[l]at f;cases f
 subst j
 exact#[dp,n]
theorem FR.putL{H0 H:Hp}{d l:Δ}{kn:Kw}(h:FR H0 d kn)(hl:H0 l=none)(s:Fp H0 H)(nm:Str)(hk:kn.length<=100):∃kvs,GL H d (.str nm) (.ref l) (Ft H d (.dK kvs))/\zR kvs (Sum.inr nm:qz)=↑(.ref l)/\∀e,F0 (Pl l e) (Ft H d (.dK kvs)) d (qS kn nm e):=by
 let#[j,m,_]:=h.di;have c:=s _ _ m;have step:∀e,F0 (Pl l e) H d kn:=λe=>F0.to (FR.pl h hl) (λo z=>s _ _ z) (λa x f=>gI (S:=[]) s.mv gB (λ_ _ _ _ z=>nomatch z) f)
 have i:∀e o a x,Pl l e H a x->Pl l e (Ft H d (.dK o)) a x:=λe o a x f=>gI Mv.upd1 (NT.one c trivial) (λa y n _=>qE (n.ned c)) f
 have g:∀e,Pl l e H l e:=λe=>by unfold Pl;rw[Jb Z]
 refine#[_,(F0.putE (step #[(0),(0),none]) c nm hk (g _) (i _)).1,by rw[lT,Jb Z],λe=>(F0.putE (step e) c nm hk (g e) (i e)).2]
inductive Iq (K:ι) (vs:Β) (H:Hp) (Q:VK):Prop
 |mk (b:Δ) (g:Bool) (c:Nat) (h1:vs=[.ref b,.bl g]) (h2:F2 H b c) (h3:c<1000000) (h4:∀(wa:Io) D ns H',FY b (c+500) H H'->H wa.m=none->H wa.ml=none->H wa.kd=none->H wa.nl=none->FQ K H' wa D ns->HP D ns->Q (.ref wa.m) H')
def jd(K:ι):Sp:=λa H Q _=>Iq K a H Q
theorem bj{t:TE}{σ:L2.St}{H:Hp}{Q:VK}(G:V->Hp->Prop)(h:∀a:VK,(∀v H',G v H'->a v H')->t σ H a)(c:∀v H',G v H'->Q v H'):t σ H Q:=h Q c
def Hm(a c:Int)(d e kd:Δ):List (qz×V):=[(.inr "table",.ref d),(.inr "keys",.ref e),(.inr "near",.int a),(.inr "far",.int c),(.inr "shut",.int 0),(.inr "known",.ref kd)]
theorem BH(a c:Int)(d e kd:Δ):((Hm a c d e kd).map (·.1)).Nodup:=(by decide +kernel:(([.inr "table",.inr "keys",.inr "near",.inr "far",.inr "shut",.inr "known"]:List qz)).Nodup)
theorem pQ(a c:Int)(d e kd:Δ):Qh [] (Hm a c d e kd)=Hm a c d e kd:=by
 have:=Z7 (Hm a c d e kd) [] (BH ..)
 rwa [CV]at this
theorem xx(t:Ζ)(e:List Ζ)(a c:Int)(kn:Kw)(m d f kd g:Δ):FZ (Hm a c d f kd) (Sum.inr "names":qz) (.ref g)=cq #[t,e,a,c,(12),(0),kn] #[m,d,f,kd,g]:=by
 rw[nj (λh=>(DG.mp (show(((Hm a c d f kd).map (·.1))++[(Sum.inr "names":qz)]).Nodup from tI)).2.2 _ h _ (Jn.mpr Z) Z)]
 rfl
structure Ir(K:ι)(H:Hp)(a:Io)(D:Dr)(ns:Α)(l:Δ)(kvs:List (qz×V))(nm:Str)(age last:Int)(kn:Kw):Prop where
 di:H a.m=↑(.dK (cq D a))
 tb:FC K H a.mt (D.t.map V.int)
 ks:FK [] H a.ml D.kss
 kg:∀e,F0 (Pl l e) H a.kd (qS kn nm e)
 ek:H a.kd=↑(.dK kvs)
 va:zR kvs (Sum.inr nm:qz)=↑(.ref l)
 el:H l=↑(.lst [.int age,.int last,.non])
 nm:H a.nl=↑(.lst (ns.map V.str))
 ne:a.m≠a.kd
 n1:1<=ns.length
section
variable{K:ι}{H H':Hp}{a:Io}{D:Dr}{ns:Α}{l:Δ}{kvs:List (qz×V)}{nm:Str}{age last:Int}{kn:Kw}{b:Δ}{n n':Nat}
theorem Ir.same(w:Ir K H a D ns l kvs nm age last kn)(s:Fp H H'):Ir K H' a D ns l kvs nm age last kn:=#[s _ _ w.di,Fp.sqt s w.tb,w.ks.same s,λe=>F0.to (w.kg e) (λo z=>s _ _ z) (λa x c=>gI (S:=[]) s.mv gB (λ_ _ _ _ z=>nomatch z) c),s _ _ w.ek,w.va,s _ _ w.el,s _ _ w.nm,w.ne,w.n1]
theorem Ir.grc(w:Ir K H a D ns l kvs nm age last kn)(hb:F2 H b n)(g:FY b n' H H'):Ir K H' a D ns l kvs nm age last kn:=by
 let#[x,y,z,c,_]:=id hb;refine#[g.kp _ _ (qC w.di c (by intro z;cases z)) w.di,g.mv.sqt (Qe hb) w.tb,w.ks.grc hb g,λe=>F0.to (w.kg e) (λo q=>g.kp _ _ (qC w.ek c (by intro z;cases z)) q) (λa x f=>gI g.mv (Qe hb) (λa y d _=>qE (d.neb hb)) f),g.kp _ _ (qC w.ek c (by intro z;cases z)) w.ek,w.va,g.kp _ _ (qC w.el c (λq=>?_)) w.el,g.kp _ _ (qC w.nm c (eI w.n1 _ _ _)) w.nm,w.ne,w.n1]
 injection q with q
 injection q with _ q
 injection q with _ q
 injection q with q _
 cases q
theorem Ir.g_known(w:Ir K H a D ns l kvs nm age last kn):FW H a.m (.str "known") ↑(.ref a.kd):=by
 have:=FW.k (k:=(Sum.inr "known":qz)) w.di
 rw[br 5 Z (lZ ..)]at this;exact this
theorem Ir.g_nm(w:Ir K H a D ns l kvs nm age last kn):FW H a.kd (.str nm) ↑(.ref l):=by
 have:=FW.k (k:=(Sum.inr nm:qz)) w.ek
 rw[w.va]at this;exact this
theorem Ir.plain(w:Ir K H a D ns l kvs nm age last kn):FQ K H a {D with kn:=qS kn nm #[age,last,none]} ns:=#[w.di,w.tb,w.ks,(w.kg _).done #[.non,w.el,Z],w.nm,w.ne,w.n1]
theorem Ir.wait(w:Ir K H a D ns l kvs nm age last kn){t:Δ}{x cc:Int}(f:H t=↑(.tup [.int x,.int cc])):FQ K (Ft H l (.lst [.int age,.int last,.ref t])) a {D with kn:=qS kn nm #[age,last,↑(x,cc)]} ns:=by
 have m:Mv [l] H (Ft H l (.lst [.int age,.int last,.ref t])):=Mv.upd1
 have nt:NT [l] H:=NT.one w.el trivial
 let#[g,c,_]:=id w.ks;refine#[m _ _ (qE (qC w.di w.el (by intro z;cases z))) w.di,m.sqt nt w.tb,w.ks.mv m nt (qE (qC c w.el (Qn 0 Z (by intro a z;cases z)))),?_,m _ _ (qE (qC w.nm w.el ?_)) w.nm,w.ne,w.n1]
 ·refine(F0.to (w.kg #[age,last,↑(x,cc)]) (λo q=>m _ _ (qE (qC w.ek w.el (by intro z;cases z))) q) (λa y d=>gI m nt (λa z _ e=>qE e) d)).done #[.ref t,qc,t,Z,?_]
  exact m.tup nt f
 ·have h1:=w.n1
  intro q;injection q with q
  cases ns with
  |nil=>cases h1
  |cons y r=>cases q
end
inductive IP (K:ι) (C:Δ) (vs:Β) (H:Hp) (Q:VK):Prop
 |mk (wa:Io) (D:Dr) (ns:Α) (h1:vs=[.ref wa.m]) (h2:FQ K H wa D ns) (h3:HP D ns) (h4:∀a L H',Fp H H'->H a.p=none->H a.hk=none->H a.bd=none->H a.lg=none->F4 K C H' a D L->L.length<=30->Q (.ref a.p) H')
def lB(K:ι)(C:Δ):Sp:=λa H Q _=>IP K C a H Q
end L3
namespace Lw
open PySem L2 L3
theorem Fb:0<=ζ:=by decide
theorem Fc:1<=ζ:=by decide
theorem Fd:2<=ζ:=by decide
theorem Fe:3<=ζ:=by decide
theorem Ff:4<=ζ:=by decide
theorem Fg:5<=ζ:=by decide
theorem Fh:8<=ζ:=by decide
theorem Fi:10<=ζ:=by decide
theorem Fj:12<=ζ:=by decide
theorem Fk:16<=ζ:=by decide
def qX(i:Nat):δ:=PySem.Challenge.pw_rollcode_k25_what_may_open.main.body.getD i (.Pass #[(0),(0),(0),(0)])
abbrev aQ:δ:=qX 18
abbrev bK:δ:=qX 19
abbrev aj:δ:=qX 20
abbrev ar:δ:=qX 21
abbrev iD:δ:=qX 22
abbrev cw:δ:=qX 23
abbrev cB:δ:=qX 28
abbrev cN:δ:=qX 29
abbrev bH:δ:=qX 30
abbrev Zw:δ:=qX 31
abbrev e9:δ:=qX 32
abbrev ZD:δ:=qX 33
abbrev bM:δ:=qX 34
abbrev ao:δ:=qX 35
abbrev cK:δ:=qX 37
abbrev cr:δ:=qX 38
abbrev Q4:δ:=zX (qX 40) 0
abbrev ZG:δ:=zX (qX 40) 2
abbrev Ze:δ:=zX (qX 40) 8
abbrev Zf:δ:=zX (qX 40) 11
abbrev QV:δ:=zX (qX 40) 10
abbrev Qq:δ:=zX (qX 40) 9
abbrev Zb:δ:=zX (qX 40) 7
abbrev be:δ:=zX (qX 40) 6
abbrev QR:δ:=zX (qX 40) 12
abbrev ag:δ:=zX (qX 40) 1
abbrev QD:δ:=zX (qX 40) 5
abbrev Zd:δ:=zX (qX 40) 13
abbrev QU:δ:=zX (qX 40) 15
abbrev ZH:δ:=zX (qX 40) 18
abbrev iu:δ:=qX 6
abbrev Zy:δ:=qX 7
abbrev ZU:δ:=qX 3
abbrev aR:δ:=qX 4
abbrev aB:δ:=qX 5
abbrev ZF:δ:=qX 9
abbrev ZS:δ:=qX 10
abbrev cv:δ:=qX 8
abbrev bJ:δ:=qX 2
abbrev cz:δ:=qX 42
abbrev bw:δ:=qX 43
abbrev ba:δ:=qX 44
abbrev cH:δ:=qX 45
abbrev aU:δ:=qX 46
abbrev aT:δ:=qX 47
abbrev aZ:δ:=qX 48
abbrev bt:δ:=qX 49
abbrev ai:δ:=qX 50
abbrev bX:δ:=qX 51
abbrev cM:δ:=qX 52
abbrev ZQ:δ:=qX 53
abbrev bz:δ:=qX 54
abbrev Zs:δ:=qX 55
abbrev al:δ:=qX 56
abbrev aW:δ:=qX 57
abbrev a9:δ:=qX 58
abbrev Z3:δ:=qX 59
theorem qW{N P:Α}{c:Scope}(h1:c.kind= .function:=by rfl)(h2:c.isCoroutine=false:=by rfl)(e:c.isGenerator=false:=by rfl)(d:N.Nodup:=by decide +kernel)(f:N.take P.length=P:=by rfl)(a:∀x∈P,c.names.lookup x=some .local\/c.names.lookup x=some .cell:=by decide +kernel)(g:∀y∈c.names,y.2≠ .free:=by decide +kernel):Fq N P c:=#[h1,h2,e,d,f,a,g]
theorem lC:Fq (["thing"]:Α) (["thing"]:Α) (qj aQ):=qW
theorem mN:Fq (["thing"]:Α) (["thing"]:Α) (qj bK):=qW
theorem jA:Fq (["things"]:Α) (["things"]:Α) (qj aj):=qW
theorem Gh:Fq (["table","back","place","digit"]:Α) (["table"]:Α) (qj ar):=qW
theorem GD:Fq (["table","key","digits","row","shift","place","ahead"]:Α) (["table","key","digits"]:Α) (qj iD):=qW
theorem F7:Fq (["table","key","digits","back","row","shift","place","ahead"]:Α) (["table","key","digits"]:Α) (qj cw):=qW
theorem pz:Fq (["thing"]:Α) (["thing"]:Α) (qj cB):=qW
theorem oN:Fq (["thing"]:Α) (["thing"]:Α) (qj cN):=qW
theorem Gn:Fq (["thing","name","age","code"]:Α) (["thing"]:Α) (qj bH):=qW
theorem FU:Fq (["name","digits","letter","place"]:Α) (["name"]:Α) (qj Zw):=qW
theorem GJ:Fq (["table","key","name","sums","place","digit"]:Α) (["table","key","name"]:Α) (qj e9):=qW
theorem gn:Fq (["count"]:Α) (["count"]:Α) (qj ZD):=qW
theorem GF:Fq (["table","key","name","age","count","deed","four","five"]:Α) (["table","key","name","age","count","deed"]:Α) (qj bM):=qW
theorem FF:Fq (["table","key","press","name","age","code","low","middle","high","deed","check"]:Α) (["table","key","press"]:Α) (qj ao):=qW
theorem oF:Fq (["count","last","near","far"]:Α) (["count","last","near","far"]:Α) (qj cK):=qW
theorem F8:Fq (["button","age","count","near","far","own_age","last","waiting","word"]:Α) (["button","age","count","near","far"]:Α) (qj cr):=qW
theorem bg:Fq (["self","table","keys","near","far","most"]:Α) (["self","table","keys","near","far","most"]:Α) (qj Q4):=qW
theorem fS:Fq (["self"]:Α) (["self"]:Α) (qj ZG):=qW
theorem dv:Fq (["self","name"]:Α) (["self","name"]:Α) (qj Ze):=qW
theorem dy:Fq (["self","age"]:Α) (["self","age"]:Α) (qj Zf):=qW
theorem cC:Fq (["self","button","age"]:Α) (["self","button","age"]:Α) (qj QV):=qW
theorem ZM:Fq (["self","button","age","count"]:Α) (["self","button","age","count"]:Α) (qj Qq):=qW
theorem FA:Fq (["self","press","name","age","code","button","pair","count","deed","word","behind"]:Α) (["self","press"]:Α) (qj Zb):=qW
theorem GU:Fq (["self","thing","answer"]:Α) (["self","thing"]:Α) (qj be):=qW
theorem cg:Fq (["self","thing"]:Α) (["self","thing"]:Α) (qj QR):=qW
theorem FO:Fq (["self","one","other","first","second","name","age","code"]:Α) (["self","one","other"]:Α) (qj ag):=qW
theorem b8:Fq (["self","age"]:Α) (["self","age"]:Α) (qj QD):=qW
theorem dw:Fq (["self"]:Α) (["self"]:Α) (qj Zd):=qW
theorem cO:Fq (["self"]:Α) (["self"]:Α) (qj QU):=qW
theorem gL:Fq (["self"]:Α) (["self"]:Α) (qj ZH):=qW
theorem GV:Fq (["door","button","press","name","age","count"]:Α) (["door","button","press"]:Α) (qj iu):=qW
theorem FV:Fq (["door","button","press","name","age","count"]:Α) (["door","button","press"]:Α) (qj Zy):=qW
theorem GG:Fq (["door","press","pair"]:Α) (["door","press"]:Α) (qj ZU):=qW
theorem lI:Fq (["door","row"]:Α) (["door","row"]:Α) (qj aR):=qW
theorem jx:Fq (["presses","name"]:Α) (["presses","name"]:Α) (qj aB):=qW
theorem GC:Fq (["recent","many","late","least"]:Α) (["recent","many","late"]:Α) (qj ZF):=qW
theorem GH:Fq (["recent","number","late","numbers"]:Α) (["recent","number","late"]:Α) (qj ZS):=qW
theorem Gz:Fq (["door","presses","button","recent","late","ways","number","behind"]:Α) (["door","presses","button","recent","late"]:Α) (qj cv):=qW
theorem FB:Fq (["door","row","k","late","press","presses","layer","seen","hearing","button","recent","further","number","behind","later"]:Α) (["door","row","k","late"]:Α) (qj bJ):=qW
theorem F9:Fq (["_law_script","_law_k","_law_cells","_law_cell","_law_fold","_law_one"]:Α) (["_law_script","_law_k"]:Α) (qj cz):=qW
theorem GI:Fq (["_law_box_here","_law_many","_law_digit","_law_mix"]:Α) (["_law_box_here","_law_many"]:Α) (qj bw):=qW
theorem GA:Fq (["_law_box_here","_law_table_here","_law_digit"]:Α) (["_law_box_here"]:Α) (qj ba):=qW
theorem Hn:Fq (["_law_box_here","_law_long"]:Α) (["_law_box_here"]:Α) (qj cH):=qW
theorem GW:Fq (["_law_box_here","_law_many","_law_some"]:Α) (["_law_box_here","_law_many"]:Α) (qj aU):=qW
theorem FI:Fq (["_law_box_here","_law_great","_law_many","_law_keys","_law_near","_law_far","_law_world_here","_law_name","_law_last","_law_count"]:Α) (["_law_box_here","_law_great"]:Α) (qj aT):=qW
theorem FG:Fq (["_law_world_here","_law_spec","_law_name","_law_age","_law_count","_law_deed","_law_fault","_law_own_key","_law_digits","_law_code","_law_far_ages"]:Α) (["_law_world_here","_law_spec"]:Α) (qj aZ):=qW
theorem F1:Fq (["_law_world_here","_law_door_here","_law_name","_law_age","_law_last","_law_waiting"]:Α) (["_law_world_here"]:Α) (qj bt):=qW
theorem FL:Fq (["_law_world_here","_law_known","_law_spec","_law_name","_law_age","_law_count","_law_deed","_law_fault","_law_last"]:Α) (["_law_world_here","_law_known","_law_spec"]:Α) (qj ai):=qW
theorem mF:Fq (["_law_known"]:Α) (["_law_known"]:Α) (qj bX):=qW
theorem FM:Fq (["_law_box_here","_law_world_here","_law_many","_law_ahead","_law_ages","_law_name","_law_row_here","_law_k","_law_jump","_law_fault"]:Α) (["_law_box_here","_law_world_here","_law_many"]:Α) (qj cM):=qW
theorem iJ:Fq (["_law_hearing","_law_number","_law_late"]:Α) (["_law_hearing","_law_number","_law_late"]:Α) (qj ZQ):=qW
theorem eK:Fq (["_law_found","_law_due"]:Α) (["_law_found","_law_due"]:Α) (qj bz):=qW
theorem Gq:Fq (["_law_box_here","_law_world_here","_law_most","_law_sent"]:Α) (["_law_box_here","_law_world_here","_law_most"]:Α) (qj Zs):=qW
theorem jz:Fq (["_law_door_here"]:Α) (["_law_door_here"]:Α) (qj al):=qW
theorem Gk:Fq (["_law_script","_law_k","_law_most","_law_box_here","_law_world_here","_law_sent"]:Α) (["_law_script","_law_k","_law_most"]:Α) (qj aW):=qW
theorem FH:Fq (["_law_world_here","_law_sent","_law_k","_law_late","_law_level","_law_own","_law_longer","_law_hearing","_law_known","_law_number","_law_behind","_law_answer_here"]:Α) (["_law_world_here","_law_sent","_law_k","_law_late"]:Α) (qj a9):=qW
theorem FX:Fq (["_law_script","_law_k","_law_box_here","_law_late","_law_world_here","_law_door_here","_law_sent","_law_row_here","_law_ahead","_law_more","_law_beside","_law_number","_law_specs","_law_handed","_law_due"]:Α) (["_law_script"]:Α) (qj Z3):=qW
structure F3(K:ι)(mg:Fn)(tk:Nat->Tok):Prop where
 g_DIGITS:mg "DIGITS"=↑(.int 16 (tk 0))
 g_KEY_PLACES:mg "KEY_PLACES"=↑(.int 4 (tk 1))
 g_LONGEST_NAME:mg "LONGEST_NAME"=↑(.int 8 (tk 2))
 g_CODE_DIGITS:mg "CODE_DIGITS"=↑(.int 5 (tk 3))
 b_isinstance:mg "isinstance"=none
 b_bool:mg "bool"=none
 b_int:mg "int"=none
 b_tuple:mg "tuple"=none
 b_all:mg "all"=none
 b_len:mg "len"=none
 b_abs:mg "abs"=none
 b_list:mg "list"=none
 b_enumerate:mg "enumerate"=none
 b_range:mg "range"=none
 b_max:mg "max"=none
 b_min:mg "min"=none
 b_str:mg "str"=none
 b_zip:mg "zip"=none
 b_ord:mg "ord"=none
 b_sum:mg "sum"=none
 b_reversed:mg "reversed"=none
 b_sorted:mg "sorted"=none
 b_dict:mg "dict"=none
section
variable{P:Ξ}{w:Ω}{K:ι}{mg:Fn}{base:Ψ}{tk:Nat->Tok}
theorem j9(a:At K mg "is_number" aQ ["thing"])(T:F3 K mg tk):Df P w K mg base "is_number" X8 1 fh:=by
 refine a.dq lC λf _ A _ s H e Q E d h=>?_
 ·let#[x,t,rfl,hk,q]:=h
  let#[ty,c]:=BX (K:=K) hk
  exists _,(qg (qp (Qb (qr kG T.b_isinstance JP (qd (qv 0) (qd (qZ (v:= .ty "int") Z T.b_int Ec Z) qb))) (Qu (j4 (qr kG T.b_isinstance JP (qd (qv 0) (qd (qZ (v:= .ty "bool") Z T.b_bool EI Z) qb))))))))
  rw[wF hk]at q;exists 0,x,"int",t,Z,ty,c,by simp,0
  cases hi:zD t "int" with
  |false=>
   refine zg ?_
   rw[hi,C1]at q;exact q
  |true=>
   refine zQ ?_
   rw[hi,Dp]at q
   exact#[0,x,"bool",t,Z,ty,c,by simp,0,q]
theorem mD(a:At K mg "is_digit" bK ["thing"])(T:F3 K mg tk)(e:Df P w K mg base "is_number" X8 1 fh):Df P w K mg base "is_digit" X8 2 nz:=by
 refine a.dq mN λf _ A _ s H j Q E g h=>?_
 ·let#[x,t,rfl,hk,q]:=h
  exists _,(qg (qp (Qb (ql e g.mo (qd (qv 0) qb)) (Qu (fH ZY cZ qf (qv 0) (zy (v:= .int 16) Z T.g_DIGITS #[0]))))))
  exists 0,x,t,Z,hk,0
  cases hn:fN x with
  |false=>
   refine zg ?_
   rw[tu hn]at q;exact q
  |true=>
   refine zQ ?_
   let#[i,rfl]:=vk hn;exists 22
   have c:Q (.bl (decide (0<=i)&&decide (i<16))) H:=q
   refine qO (λd=>?_) (λd=>?_)
   ·exists 7
    rw[d,Dp]at c;exact c
   ·rw[Dq.mpr d,C1]at c
    exact c
theorem jD(a:At K mg "are_digits" aj ["things"])(T:F3 K mg tk)(m:Df P w K mg base "is_digit" X8 2 nz):Df P w K mg base "are_digits" ["things"] 3 k3:=by
 refine a.dq jA λf _ A _ s H u Q E j h=>?_
 ·let#[p,xs,rfl,g,n,hk,q]:=h
  exists _,(qg (qp (qr (aJ Z) T.b_all Ew (qd (zv (own:=["thing"]) (fr:=[]) (js:=[]) Z (gU (qv 0)) Z (λ_ _ h=>nomatch h) Z (iy Z nofun nofun nofun) (λ_ _ _ _=>qh (i:=0) (show List.Nodup (["thing"]:Α)from by decide +kernel) Z (Or.inl Z) (.inr Z)) (λ_ _ _ _=>(ql m j.mo (qd (qv 0) qb)))) qb))))
  refine#[0,p,Z,#[xs,FC.of g],bQ (xs:=xs) n (λi ys d=>ys=(xs.take i).map (λx=>V.bl (bG x))/\Fp H d) #[by simp,Fp.refl H] (λi ys d ⟨_,c⟩=>FC.of (c _ _ g)) ?_ ?_]
  ·rintro i ys d x e _ ⟨rfl,c⟩
   let#[t,r]:=hk x (JG e)
   refine#[0,x,t,Z,c5 c r,?_,c]
   rw[J8,e];simp
  ·rintro ys d _ ⟨rfl,c⟩ l o
   rw[Dh];exists l,xs.map bG,Z,Fw.of (by rw[JW];exact qc)
   rw[List.all_map];exact q _ (c.trans (Fp.upd o))
theorem pE(a:At K mg "is_name" cB ["thing"])(T:F3 K mg tk):Df P w K mg base "is_name" X8 1 i7:=by
 refine a.dq pz λf _ A _ s H D Q E B h=>?_
 ·let#[x,b,rfl,r,q]:=h
  exists _,(qe (qK (QW.pt (Q7 (QH (zE (qr q8 T.b_isinstance JP (qd (qv 0) (qd (qZ (v:= .ty "str") Z T.b_str DH Z) qb))))) (QZ (QH (uh ZY ZY qf (qr lG T.b_len JM (qd (qv 0) qb)) (zy (v:= .int 8) Z T.g_LONGEST_NAME #[0])))))) (qg (qp bW)) qB)
   (qg (qp (qr (aJ Z) T.b_all Ew (qd (zv (own:=["letter"]) (fr:=[]) (js:=[]) Z (sj (qv 0)) Z (λ_ _ h=>nomatch h) Z (iy Z nofun nofun nofun) (λ_ _ _ _=>qh (i:=0) (show List.Nodup (["letter"]:Α)from by decide +kernel) Z (Or.inl Z) (.inr Z)) (λ_ _ _ _=>(fH jb jb qk (qv 0) qk))) qb)))))
  rcases r with⟨z,rfl,u,y,rfl⟩|⟨t,hk,hs,rfl⟩
  case inr=>
   exists 0,x,"str",t,Z,k7 hk,by simp,0
   rw[hs];exact zQ (q _ (Fp.refl _))
  have C:z.length=z.cps.toList.length:=Z
  exists 16,"str","str",Z,.str z,by simp,0
  refine zg ?_
  exists 0,z,Z,by rw[Jo];omega,_,_,Z,Z,_,Z
  unfold wc at q
  by_cases h1:1<=z.length
  case neg=>
   refine zI (Jj (by omega)) #[0,zQ ?_]
   rw[Jj h1,C1,C1]at q;exact q _ (Fp.refl _)
  refine zr (Jh (by omega)) ?_
  exists 23
  rw[Jh h1,Dp]at q
  by_cases n:z.length<=8
  case neg=>
   refine zr (by rw[Jj (by omega:¬((z.length:Nat):Int)<=8)];rfl) ?_
   rw[Jj n,C1]at q;exact q _ (Fp.refl _)
  refine zI (by rw[Jh (by omega:((z.length:Nat):Int)<=8)];rfl) ?_
  rw[Jh n,Dp]at q;refine#[0,z,Z,u,t9 (by show z.cps.toList.length<=_;rw[Jo];omega) (λi ys j=>j=H/\ys=((z.cps.toList.take i).map kI).map V.bl) #[8] ?_ ?_]
  ·rintro i ys j c o _ ⟨rfl,rfl⟩
   have g:=oi o;let#[m,p]:=ox c;exists 22
   rw[J8,g,Jy,Jy]
   by_cases d:97<=c
   ·refine zr (by rw[m,Jh d]) #[_,_,Z,Z,Z,?_]
    rw[p]
    show _=_++[V.bl (decide (97<=c)&&decide (c<=122))]
    rw[Jh d,Dp]
   ·refine zI (by rw[m,Jj d]) #[Z,?_]
    show _=_++[V.bl (decide (97<=c)&&decide (c<=122))]
    rw[Jj d,C1]
  ·rintro ys j y ⟨rfl,rfl⟩ l e
   exists l,z.cps.toList.map kI,Z,Fw.of (by rw[show z.cps.size=z.cps.toList.length from Z,Dh];exact qc)
   rw[List.all_map];exact q _ (Fp.upd e)
theorem pw(a:At K mg "is_code" cN ["thing"])(T:F3 K mg tk)(j:Df P w K mg base "are_digits" ["things"] 3 k3):Df P w K mg base "is_code" X8 4 jk:=by
 refine a.dq oN λf _ A _ s H l Q E i h=>?_
 ·let#[x,b,rfl,g,q]:=h
  exists _,(qe (qK (QH (zE (qr q8 T.b_isinstance JP (qd (qv 0) (qd (qZ (v:= .ty "tuple") Z T.b_tuple JS Z) qb))))) (qg (qp bW)) qB)
   (qg (qp (Qb (zx za (qr qL T.b_len JM (qd (qv 0) qb)) (zy (v:= .int 5) Z T.g_CODE_DIGITS #[0]) (qu _)) (Qu (ql j i.mo (qd (qv 0) qb)))))))
  rcases g with⟨e,ds,rfl,c,m,hk,rfl⟩|⟨t,hk,hs,rfl⟩
  case inr=>
   exists 0,x,"tuple",t,Z,k7 hk,by simp,0
   rw[hs];exact zQ (q _ (Fp.refl _))
  exists 16,"tuple","tuple",Z,.tup (.inl c),by simp,0
  refine zg ?_
  exists 0,e,0,.inr (FC.of c),14
  by_cases d:ds.length=5
  ·refine zr (Jh (by rw[d];rfl)) ?_
   refine#[0,e,0,c,by rw[Jo];omega,hk,λH' s'=>?_]
   rw[Jh d,Dp]at q;exact q _ s'
  ·rw[Jj d,C1]at q
   refine zI (Jj (by intro z;injection z with z;omega)) ?_
   exact q _ (Fp.refl _)
theorem mQ(a:At K mg "is_press" bH ["thing"])(T:F3 K mg tk)(j:Df P w K mg base "is_name" X8 1 i7)(o:Df P w K mg base "is_number" X8 1 fh)(r:Df P w K mg base "is_code" X8 4 jk):Df P w K mg base "is_press" X8 5 bF:=by
 refine a.dq Gn λf _ A _ s H B Q E g h=>?_
 ·let#[x,b,rfl,m,q]:=h
  exists _,(qe (qK (QW.pt (Q7 (QH (zE (qr q8 T.b_isinstance JP (qd (qv 0) (qd (qZ (v:= .ty "tuple") Z T.b_tuple JS Z) qb))))) (QZ (qw cS (qr qL T.b_len JM (qd (qv 0) qb)) qf (qu _))))) (qg (qp bW)) qB)
   (qe (zj (qv 0) (ZK Z (qm (qh (i:=1) Gn.nd Z (Or.inl Z)) (qm (qh (i:=2) Gn.nd Z (Or.inl Z)) (qm (qh (i:=3) Gn.nd Z (Or.inl Z)) qU)))))
   (qg (qp (Qb (ql j g.mo (qd (qv 1) qb)) (Qb (ql o g.mo (qd (qv 2) qb)) (Qu (ql r g.mo (qd (qv 3) qb)))))))))
  cases m with
  | @kd t hk hs=>
   exists 0,x,"tuple",t,Z,k7 hk,by simp,0
   rw[hs];exact zQ (q _ (Fp.refl _))
  | @len a xs e h l n=>
   subst e;exists 16,"tuple","tuple",Z,.tup (.inl h),by simp,0
   refine zg ?_
   exists 0,a,0,.inr (FC.of h),14
   refine zr (by rw[Jj (by intro z;injection z with z;omega)];rfl) ?_
   exact q _ (Fp.refl _)
  | @tup a n y c bn bc ty e h hn hy hc=>
   subst e;exists 16,"tuple","tuple",Z,.tup (.inl h),by simp,0
   refine zg ?_
   exists 0,a,0,.inr (FC.of h),14
   refine cT Z ?_
   exists 0,a,0,.tup h,6
   refine#[0,n,bn,Z,hn,λH1 d=>#[0,?_]]
   cases bn with
   |false=>exact zg (q _ d)
   |true=>
    refine zQ ?_
    exists 0,y,ty,Z,c5 d hy,0
    cases hnum:fN y with
    |false=>
     rw[hnum]at q;exact zg (q _ d)
    |true=>
     rw[hnum]at q;refine zQ ?_
     exact#[0,c,bc,Z,hc.same d,λu p=>q _ (d.trans p)]
theorem pe(a:At K mg "word_of" cK ["count","last","near","far"])(T:F3 K mg tk):Df P w K mg base "word_of" ["count","last","near","far"] 1 oh:=by
 refine a.dq oF λf _ A _ s H e Q E d h=>?_
 ·let#[c,l,n,f,rfl,q]:=h
  unfold oC at q;exists _,(qe (qK (qw ZY (qv 0) (qv 1) (qu _)) (qg (qp qk)) qB)
   (qe (qK (qw ZY (qv 0) (qo qH (qv 1) (qv 2)) (qu _)) (qg (qp qk)) qB)
   (qe (qK (qw ZY (qv 0) (qo qH (qv 1) (qv 3)) (qu _)) (qg (qp qk)) qB)
   (qg (qp qk)))))
  exists 26
  refine qO (λz=>?_) (λz=>?_)
  ·rw[Jb (Jw z)]at q;exact q
  ·rw[Jc (λy=>z (Jh y))]at q
   exists 24
   refine qO (λz=>?_) (λz=>?_)
   ·rw[Jb (Jw z)]at q;exact q
   ·rw[Jc (λy=>z (Jh y))]at q
    exists 24
    refine qO (λz=>?_) (λz=>?_)
    ·rw[Jb (Jw z)]at q;exact q
    ·rw[Jc (λy=>z (Jh y))]at q;exact q
theorem ph(a:At K mg "step_by" cr ["button","age","count","near","far"])(T:F3 K mg tk)(N:Df P w K mg base "word_of" ["count","last","near","far"] 1 oh):Df P w K mg base "step_by" X4 2 iG:=by
 refine a.dq F8 λf _ A _ s H O Q E L h=>?_
 ·let#[a,e,age,c,j,m,rfl,#[v,z,C],q]:=h
  exists _,(qe (zj (qv 0) (ZK Z (qm (qh (i:=5) F8.nd Z (Or.inl Z)) (qm (qh (i:=6) F8.nd Z (Or.inl Z)) (qm (qh (i:=7) F8.nd Z (Or.inl Z)) qU)))))
   (qe (qx (i:=8) F8.nd Z (Or.inl Z) (ql N L.mo (qd (qv 2) (qd (qv 6) (qd (qv 3) (qd (qv 4) qb))))))
   (qe (qK (QW.pt (Zr (qw za (qv 8) qk (qu _)) (Zg (qw (AY L) (qv 7) (qy (qd (qv 1) (qd (qo zZ (qv 2) qf) qb))) (qu _))))) (qg (qx (i:=8) F8.nd Z (Or.inl Z) qk)) qB)
   (qe (qK (qw za (qv 8) qk (qu _)) (qg (qp (qy (qd (qv 8) (qd (qy (qd (qv 1) (qd (qv 2) (qd zc qb)))) qb))))) qB)
   (qe (qK (qw za (qv 8) qk (qu _)) (qg (qp (qy (qd (qv 8) (qd (qy (qd (qv 5) (qd (qv 6) (qd (qy (qd (qv 1) (qd (qv 2) qb))) qb)))) qb))))) qB)
   (qg (qp (qy (qd (qv 8) (qd (qv 0) qb))))))))))
  exists 0,a,0,.tup z,6
  exists 10,c,e.last,j,m,Z
  unfold zh at q;unfold oC
  by_cases h1:c<=e.last
  ·rw[Jb h1]
   rw[Jb h1]at q;exists 3
   refine qO (λy=>absurd (Jw y) nofun) (λ_=>?_)
   exists 3
   refine qO (λy=>absurd (Jw y) nofun) (λ_=>?_)
   exists 3
   refine qO (λy=>absurd (Jw y) nofun) (λ_=>?_)
   refine#[1,Fd,λg d=>?_]
   exact q g a _ (Fp.upd d) qc (FT.same (Fp.upd d) #[v,z,C])
  ·rw[Jc h1]
   rw[Jc h1]at q
   by_cases u:c<=e.last+j
   ·rw[Jb u]
    rw[Jb u]at q;exists 3
    refine qO (λy=>absurd (Jw y) nofun) (λ_=>?_)
    exists 3
    refine qO (λ_=>?_) (λy=>absurd (Jh Z) y)
    refine#[4,Fe,λt p=>#[Fd,λg d=>?_]]
    have n:=Fp.upd (o:= .tup [.int age,.int c,.non]) p
    have l:=Fp.upd (o:= .tup [.str "near",.ref t]) d
    exact q g t _ (n.trans l) qc #[.non,l _ _ qc,Z]
   ·rw[Jc u]
    rw[Jc u]at q
    by_cases x:c<=e.last+m
    ·rw[Jb x]
     rw[Jb x]at q;exists 3
     refine qO (λ_=>?_) (λy=>absurd (Jh Z) y)
     refine#[50,Fd,λM G=>?_]
     have I:=Fp.upd (o:= .tup [.int age,.int (c-1)]) G
     have J:=C.mv (S:=[]) I.mv (λc h=>nomatch h)
     exists e.wt,M,age,c-1,J,Z,.inl qc,0
     by_cases r:e.wt=↑(age,c-1)
     ·rw[Jb r]at q
      refine zr (Jh r) ?_
      exists 3
      refine qO (λ_=>?_) (λy=>absurd (Jh Z) y)
      refine#[4,Fe,λt p=>#[Fd,λg d=>?_]]
      have n:=Fp.upd (o:= .tup [.int age,.int c,.non]) p
      have l:=Fp.upd (o:= .tup [.str "near",.ref t]) d
      exact q g t _ ((I.trans n).trans l) qc #[.non,l _ _ qc,Z]
     ·rw[Jc r]at q
      refine zI (Jj r) ?_
      exists 3
      refine qO (λy=>absurd (Jw y) nofun) (λ_=>?_)
      exists 3
      refine qO (λ_=>?_) (λy=>absurd (Jh Z) y)
      refine#[21,Fd,λB D=>#[Fe,λt p=>#[Fd,λg d=>?_]]]
      have n:=Fp.upd (o:= .tup [.int age,.int c]) D
      have l:=Fp.upd (o:= .tup [.int e.age,.int e.last,.ref B]) p
      have F:=Fp.upd (o:= .tup [.str "far",.ref t]) d
      exact q g t _ (((I.trans n).trans l).trans F) qc #[.ref B,F _ _ qc,B,Z,F _ _ (l _ _ qc)]
    ·rw[Jc x]
     rw[Jc x]at q;exists 3
     refine qO (λy=>absurd (Jw y) nofun) (λ_=>?_)
     exists 3
     refine qO (λy=>absurd (Jw y) nofun) (λ_=>?_)
     exists 3
     refine qO (λy=>absurd (Jw y) nofun) (λ_=>?_)
     refine#[1,Fd,λg d=>?_]
     exact q g a _ (Fp.upd d) qc (FT.same (Fp.upd d) #[v,z,C])
end
section
variable{P:Ξ}{w:Ω}{K:ι}{mg:Fn}{base:Ψ}{tk:Nat->Tok}{C:Δ}
theorem hZ(a:HJ K C "__init__" "Door.__init__" Q4 ["self","table","keys","near","far","most"])(T:F3 K mg tk)(U:GB K C):Mf P w K mg base C "__init__" X0 1 (xf K C):=by
 refine a.mq bg λf _ A _ s H vs Q E hr h=>?_
 ·let#[p,a,b,dx,J,a0,O,t,n,rfl,hp,ha,hb,hl,q]:=h
  exists _,(qe (zS (qv 0) (qN eU T.b_tuple JS (qd (qv 1) qb)))
   (qe (zS (qv 0) (zv (own:=["key"]) (fr:=[]) (js:=[]) Z (ze (qv 2)) Z (λ_ _ h=>nomatch h) Z (iy Z nofun nofun nofun) (λ_ _ _ _=>qh (i:=0) (show List.Nodup (["key"]:Α)from by decide +kernel) Z (Or.inl Z) (.inr Z)) (λ_ _ _ _=>(qN eO T.b_tuple JS (qd (qv 0) qb)))))
   (qe (zS (qv 0) (qv 3))
   (qe (zS (qv 0) (qv 4))
   (qe (zS (qv 0) (qv 5))
   (qe (zS (qv 0) qf)
   (qe (zS (qv 0) fG)
   (qg (zS (qv 0) (qT qb))))))))))
  refine#[0,a,0,ha,λta H2 R ht=>#[0,p,0,zo U.cl (R _ _ hp) U.n_table 0,?_]]
  have e2:=R _ _ hp;have a2:=(hb.same R).upd (o:= .ins C dx [("table",.ref ta)]) e2
  let#[as,eb,la,X]:=a2;have a1:=cR (o:= .ins C dx [("table",.ref ta)]) e2 ht
  refine#[0,b,Z,#[_,Fw.of eb],Qj (K:=K) (xs:=as.map V.ref) (by rw[Jd,la,Jo];omega) (λi ys m=>Fp (Ft H2 p (.ins C dx [("table",.ref ta)])) m/\∃bs:Ι,ys=bs.map V.ref/\bs.length=i/\∀(j:Nat) (x:Δ) (B:Ζ),bs[j]? =↑x->n[j]? =↑B->FC [] m x (B.map V.int)) #[Fp.refl _,[],8,λj x B e=>by(cases e)] (λi ys m ⟨v,_⟩=>v.seq (Fw.of eb)) ?_ ?_]
  ·rintro i ys m x N a3 ⟨v,bs,rfl,G,I⟩
   rw[Jk]at N;cases ea:as[i]? with
   |none=>rw[ea]at N;cases N
   |some x0=>
    rw[ea]at N
    obtain rfl:V.ref x0=x:=Jt N
    have hi:i<n.length:=by rw[<- la];exact(Jp.mp ea).1
    have a5:=X i x0 n[i] ea (Jg hi);refine#[0,x0,0,.inr (Fp.sqt v a5).rd,λl H4 s4 a4=>#[v.trans s4,bs++[l],by simp,by simp [G],λj y B z r=>?_]]
    rw[J2]at z;split at z
    ·exact Fp.sqt s4 (I j y B z r)
    ·have hj:j-bs.length=0:=by
      cases hj:j-bs.length with
      |zero=>rfl
      |succ k=>rw[hj]at z;cases z
     rw[hj]at z;cases z
     have:j=i:=by omega
     subst this;rw[Jg hi]at r;cases r;exact .inl a4
  ·rintro ys m a3 ⟨v,bs,rfl,G,I⟩ hk D
   have W:=Fp.upd (o:= .lst (bs.map V.ref)) D
   have e3:=W _ _ (v _ _ qc);exists 0,p,0,zo U.cl e3 U.n_house_keys 1
   exists 1,p,0,zo U.cl qc U.n_near 2
   exists 1,p,0,zo U.cl qc U.n_far 3
   exists 1,p,0,zo U.cl qc U.n_most 4
   exists 0,p,0,zo U.cl qc U.n_least_age 5
   refineλbd g=>#[0,p,0,zo U.cl (by rw[qi (qt qc g)];exact qc) U.n_buttons 6,?_]
   have u:=qt qc g;refine#[Fb,λlg d=>#[0,p,0,zo U.cl (by rw[qi (qt qc d)];exact qc) U.n_log 7,?_]]
   have L:=qt qc d;have m3:Mv [p] H m:=((R.mv (S:=[p])).trans Mv.upd1).trans v.mv
   have c:hk≠p:=(qt (v _ _ qc) D).symm
   have Y:Mv [p] H (Ft m hk (.lst (bs.map V.ref))):=m3.trans W.mv
   have M:∀o1 o2 o3 o4 o5,Mv [p] (Ft m hk (.lst (bs.map V.ref))) (Ft (Ft (Ft (Ft (Ft (Ft m hk (.lst (bs.map V.ref))) p o1) p o2) p o3) p o4) p o5):=λo1 o2 o3 o4 o5=>(((Mv.upd1.trans Mv.upd1).trans Mv.upd1).trans Mv.upd1).trans Mv.upd1
   have M6:Mv [p] (Ft m hk (.lst (bs.map V.ref))) _:=(((M _ _ _ _ _).trans (Fp.upd g).mv).trans Mv.upd1).trans (Fp.upd (o:= .lst []) d).mv
   have M7:=M6.trans (Mv.upd1 (o:= .ins C dx (dF #[t,n,J,a0,O,(0),[]] ta hk bd lg)))
   have nt:NT [p] (Ft m hk (.lst (bs.map V.ref))):=NT.one e3 trivial
   have F:bd≠lg:=qt (by rw[qi u.symm];exact qc) d
   have KR:=FK.mv M7 nt (qE c) (show FK [] _ hk n from#[bs,qc,by rw[G,Jd,la],λj x B z r=>Fp.sqt W (I j x B z r)])
   refine q ta hk bd lg _ (m3.nfree (qE c) D) ((Y.trans (M _ _ _ _ _)).nfree (qE u.symm) g) ((Y.trans ((((M _ _ _ _ _).trans (Fp.upd g).mv).trans Mv.upd1))).nfree (qE L.symm) d) (Y.trans M7) #[#[dx,qc],?_,FK.up KR,?_,?_,?_] KR
   ·exact M7.sqt nt (Fp.sqt W (Fp.sqt v a1))
   ·exact#[([],λ_=>0),by rw[qi u.symm,qi F,qi u.symm];exact qc,λe he=>by(cases he),.refl _,Ex]
   ·exact#[[],by rw[qi L.symm];exact qc,Je _]
   ·refine(qt (o:= .lst (bs.map V.ref)) ?_ d).symm
    rw[qi c];rw[qi (qt (o:= .lst (bs.map V.ref)) (by rw[qi c,qi c,qi c,qi c,qi c];exact qc) g)]
    rw[qi c,qi c,qi c,qi c,qi c];exact qc
theorem fX(a:HJ K C "is_full" "Door.is_full" ZG ["self"])(T:F3 K mg tk)(U:GB K C):Mf P w K mg base C "is_full" V4 1 (nQ K C):=by
 refine a.mq fS λf _ A _ s H i Q E g h=>?_
 ·let#[p,ta,hk,bd,lg,n,D,rfl,b,q]:=h
  let#[d,e,_,c,_]:=b.kb;exists _,(qg (qp (zx jR (qr rj T.b_len JM (qd (zb (qv 0)) qb)) (zb (qv 0)) (qu _))))
  exists 0,p,0,b.h_buttons U,bd,0,e,0,p,0,b.h_most U,7
  rw[show(zY d.1 d.2).length=D.kn.length from(Jd _).trans c.length_eq]
  exact q
theorem du(a:HJ K C "button_of" "Door.button_of" Ze ["self","name"])(T:F3 K mg tk)(U:GB K C):Mf P w K mg base C "button_of" V2 1 (jN K C):=by
 refine a.mq dv λf _ A _ s H q Q E l h=>?_
 ·let#[p,ta,hk,bd,lg,n,D,nm,rfl,b,m,j]:=h
  exists _,(qg (qp (uQ l (zb (qv 0)) (qv 1))))
  let#[o,d,_]:=id b.kb;exists 0,p,0,b.h_buttons U,bd,Z,.inl #[_,.inl d],0
  rcases b.kb.get nm with⟨c,g⟩|⟨e,x,c,g,i⟩
  ·exact#[_,g,m c]
  ·exact#[_,g,j e x c i]
theorem eu(a:HJ K C "takes_age" "Door.takes_age" Zf ["self","age"])(T:F3 K mg tk)(U:GB K C):Mf P w K mg base C "takes_age" V0 1 (fc K C):=by
 refine a.mq dy λf _ A _ s H i Q E e h=>?_
 ·let#[p,ta,hk,bd,lg,n,D,age,rfl,b,q]:=h
  let#[g,c,d,_]:=b.ks;exists _,(qg (qp (fH ZY cZ (zb (qv 0)) (qv 1) (qr qL T.b_len JM (qd (zb (qv 0)) qb)))))
  unfold zT at q;exists 0,p,0,b.h_least_age U,22
  refine qO (λz=>?_) (λz=>?_)
  ·rw[z,Dp]at q
   exists 0,p,0,b.h_house_keys U,hk,0,.inl (Fw.of c),7
   rw[Jd,d];exact q
  ·rw[Dq.mpr z,C1]at q
   exact q
theorem cE(a:HJ K C "takes_from" "Door.takes_from" QV ["self","button","age"])(T:F3 K mg tk)(U:GB K C)(c:Mf P w K mg base C "takes_age" V0 1 (fc K C)):Mf P w K mg base C "takes_from" X9 2 (cQ K C):=by
 refine a.mq cC λf _ A _ s H j Q E g h=>?_
 ·let#[p,ta,hk,bd,lg,x,n,D,e,age,rfl,b,#[v,d,i],q]:=h
  exists _,(qg (qp (Qb (zp c U.cl g.mo (qv 0) (qd (qv 2) qb)) (Qu (zx jR (qv 2) (qF zk (qv 1) qf) (qu _))))))
  unfold zm at q;exists 0,p,Z,b.no,0,p,ta,hk,bd,lg,n,D,age,Z,b,0
  refine qO (λz=>?_) (λz=>?_)
  ·rw[z,Dp]at q
   exact#[1,x,2,FC.of d,34,q]
  ·rw[Dq.mpr z,C1]at q
   exact q
theorem cF(a:HJ K C "plain_step" "Door.plain_step" Qq ["self","button","age","count"])(T:F3 K mg tk)(U:GB K C)(j:Mf P w K mg base C "takes_from" X9 2 (cQ K C))(i:Df P w K mg base "step_by" X4 2 iG):Mf P w K mg base C "plain_step" x5 3 (nB K C):=by
 refine a.mq ZM λf _ A _ s H m Q E g h=>?_
 ·let#[p,ta,hk,bd,lg,x,n,D,e,age,c,rfl,b,d,l,q]:=h
  exists _,(qe (qK (QH (zE (zp j U.cl g.mo (qv 0) (qd (qv 1) (qd (qv 2) qb))))) (qg (qp (qy (qd qk (qd (qv 1) qb))))) qB)
   (qg (qp (ql i g.mo (qd (qv 1) (qd (qv 2) (qd (qv 3) (qd (zb (qv 0)) (qd (zb (qv 0)) qb)))))))))
  exists 0,p,Z,b.no,1,p,ta,hk,bd,lg,x,n,D,e,age,Z,b,d,0
  rw[l];refine zg ?_
  exact#[10,p,0,b.h_near U,0,p,0,b.h_far U,x,e,age,c,D.near,D.far,Z,d,q]
theorem dz(a:HJ K C "answer_to" "Door.answer_to" Zb ["self","press"])(T:F3 K mg tk)(U:GB K C)(dC:Mf P w K mg base C "button_of" V2 1 (jN K C))(dB:Mf P w K mg base C "takes_from" X9 2 (cQ K C))(dE:Mf P w K mg base C "plain_step" x5 3 (nB K C))
  (dL:Df P w K mg base "read_press" W9 3 (jX K)):Mf P w K mg base C "answer_to" ["self","press"] 4 (iV K C):=by
 refine a.mq FA λf _ A _ s H vs Q E t h=>?_
 ·let#[p,ta,hk,bd,lg,pr,n,D,nm,age,ds,rfl,b,ok,#[pc,hp,O],hn,l5,J,q]:=h
  exists _,(qe (zj (qv 1) (ZK Z (qm (qh (i:=2) FA.nd Z (Or.inl Z)) (qm (qh (i:=3) FA.nd Z (Or.inl Z)) (qm (qh (i:=4) FA.nd Z (Or.inl Z)) qU)))))
   (qe (qx (i:=5) FA.nd Z (Or.inl Z) (zp dC U.cl t.mo (qv 0) (qd (qv 2) qb)))
   (qe (qK (qw Zn (qv 5) zc (qu _)) (qg (qp (qy (qd qk (qd qk qb))))) qB)
   (qe (qK (QH (zE (zp dB U.cl t.mo (qv 0) (qd (qv 5) (qd (qv 3) qb))))) (qg (qp (qy (qd qk (qd qk qb))))) qB)
   (qe (qx (i:=6) FA.nd Z (Or.inl Z) (ql dL t.mo (qd (zb (qv 0)) (qd (qF qG (zb (qv 0)) (qv 3)) (qd (qv 1) qb)))))
   (qe (qK (qw Zn (qv 6) zc (qu _)) (qg (qp (qy (qd qk (qd qk qb))))) qB)
   (qe (zj (qv 6) (ZK Z (qm (qh (i:=7) FA.nd Z (Or.inl Z)) (qm (qh (i:=8) FA.nd Z (Or.inl Z)) qU))))
   (qe (zj (zp dE U.cl t.mo (qv 0) (qd (qv 5) (qd (qv 3) (qd (qv 7) qb)))) (ZK Z (qm (qh (i:=9) FA.nd Z (Or.inl Z)) (qm (qh (i:=10) FA.nd Z (Or.inl Z)) qU))))
   (qe (Qp t (zb (qv 0)) (qv 2) (qv 10))
   (qe (qK (qw za (qv 9) qk (qu _)) (qg (qp (qy (qd qk (qd (qv 2) (qd (qv 8) qb)))))) qB)
   (qg (qp (qy (qd qk (qd (qv 9) qb)))))))))))))))
  exists 0,pr,0,.tup hp,6
  refine#[0,p,Z,b.no,0,p,ta,hk,bd,lg,n,D,nm,Z,b,λr=>?_,λe x r hx=>?_]
  ·have m:q9 D nm age (Qd D.t (zJ D age) nm ds)=([.str "held",.str "unknown"],D.kn):=by unfold q9;rw[r]
   rw[m]at q;exists 3
   refine qO (λ_=>?_) (λy=>absurd (Jh Z) y)
   refine#[Fd,λo g=>?_]
   exact q o _ (Fp.upd g).mv qc (b.same (Fp.upd g))
  ·exists 3
   refine qO (λy=>nomatch (Jw y)) (λ_=>?_)
   exists 0,p,Z,b.no,1,p,ta,hk,bd,lg,x,n,D,e,age,Z,b,hx,0
   cases ht:zm D e age with
   |false=>
    have m:q9 D nm age (Qd D.t (zJ D age) nm ds)=([.str "held",.str "age"],D.kn):=by unfold q9;rw[r];simp only;rw[ht];rfl
    rw[m]at q;refine zQ ?_
    refine#[Fd,λo g=>?_]
    exact q o _ (Fp.upd g).mv qc (b.same (Fp.upd g))
   |true=>
    refine zg ?_
    let#[a0,a1]:=jw ht ok.l0;let#[xs,ak,eh,N,M]:=b.ks.at a0 a1;refine#[0,p,0,b.h_table U,0,p,0,b.h_house_keys U,0,hk,2,Fw.of eh,N,0,ta,ak,pr,pc,nm,age,D.t,zJ D age,ds,Z,.inr b.tb,.inr M,.tup hp,.tup O,hn,ok.tp,l5,J,λy H1 F u=>?_]
    have v:=b.same F;have W:=hx.same F;have j:cG H1 y (Qd D.t (zJ D age) nm ds):=u
    cases er:Qd D.t (zJ D age) nm ds with
    |none=>
     rw[er]at j q;have L:y= .non:=j
     subst L;have m:q9 D nm age none=([.str "held",.str "false"],D.kn):=by unfold q9;rw[r];simp only;rw[ht];rfl
     rw[m]at q;exists 3
     refine qO (λ_=>?_) (λy=>absurd (Jh Z) y)
     refine#[Fd,λo g=>?_]
     exact q o _ (F.trans (Fp.upd g)).mv qc (v.same (Fp.upd g))
    |some cd=>
     let#[c,d]:=cd;rw[er]at j q;let#[pp,L,G]:=j;subst L;exists 3
     refine qO (λy=>nomatch (Jw y)) (λ_=>?_)
     exists 0,pp,0,.tup G,9
     refine#[0,p,Z,v.no,4,p,ta,hk,bd,lg,x,n,D,e,age,c,Z,v,W,ht,λo a' H2 s2 g I=>#[o,0,.tup g,9,?_]]
     have X:=v.same s2;let#[H3,dp,m3,R]:=X.kb.put nm (by have:=ok.nl;omega) I
     exists 1,p,0,X.h_buttons U,0,bd,H3,Z,dp
     have Y:=X.putK m3 R;have mm:Mv [bd] H H3:=(F.trans s2).mv.trans m3
     exists 3
     by_cases B:(zh D.near D.far e age c).1="near"
     ·have m:q9 D nm age ↑(c,d)=([.str "open",.str nm,.int d],qS D.kn nm (zh D.near D.far e age c).2):=by unfold q9;rw[r];simp only;rw[Jb ht,Jb B]
      rw[m]at q;refine qO (λ_=>?_) (λy=>absurd (Jh (by rw[B])) y)
      refine#[1,Fe,λS l=>?_]
      exact q S _ (mm.trans (Fp.upd l).mv) qc (Y.same (Fp.upd l))
     ·have m:q9 D nm age ↑(c,d)=([.str "held",.str (zh D.near D.far e age c).1],qS D.kn nm (zh D.near D.far e age c).2):=by unfold q9;rw[r];simp only;rw[Jb ht,Jc B]
      rw[m]at q;refine qO (λy=>absurd (Jw y) (by intro z;injection z with z;exact B z)) (λ_=>?_)
      refine#[0,Fd,λS l=>?_]
      exact q S _ (mm.trans (Fp.upd l).mv) qc (Y.same (Fp.upd l))
theorem cn(a:HJ K C "read_right" "Door.read_right" QR ["self","thing"])(T:F3 K mg tk)(U:GB K C)(G:Df P w K mg base "is_press" X8 5 bF)(I:Mf P w K mg base C "takes_age" V0 1 (fc K C))(O:Df P w K mg base "read_press" W9 3 (jX K)):Mf P w K mg base C "read_right" W5 6 (cx K C):=by
 refine a.mq cg λf _ A _ s H X Q E l h=>?_
 ·let#[p,ta,hk,bd,lg,n,D,x,o,rfl,b,ok,tg,q]:=h
  exists _,(qe (qK (QW.pt (Q7 (QH (zE (ql G l.mo (qd (qv 1) qb)))) (QZ (QH (zE (zp I U.cl l.mo (qv 0) (qd (qF zk (qv 1) qf) qb))))))) (qg (qp zc)) qB)
   (qg (qp (ql O l.mo (qd (zb (qv 0)) (qd (qF qG (zb (qv 0)) (qF zk (qv 1) qf)) (qd (qv 1) qb)))))))
  refine#[0,x,0,tg.b,λH1 i=>#[0,?_]]
  cases o with
  |none=>exact zQ (zQ (q .non _ i Z))
  |some PP=>
  let#[u,rfl,S,B,v,e]:=tg;have q:∀y H',Fp H H'->cG H' y (Zk D PP)->Q y H':=q
  let#[nm,age,ds]:=PP;simp only at B v e
  refine zg ?_
  have d:=b.same i;let#[L,c,g]:=FP.same i S;exists 0,p,Z,d.no,0,u,2,FC.of c,Z,p,ta,hk,bd,lg,n,D,age,Z,d,0
  unfold Zk at q;cases ht:zT D age with
  |false=>
   rw[Jc (by rw[ht];intro z;cases z)]at q
   exact zQ (q _ _ i Z)
  |true=>
  rw[Jb ht]at q;refine zg ?_
  have m:zm D #[age,(0),none] age=true:=by unfold zm;rw[ht,Jh (Int.le_refl _)];rfl
  let#[M,W]:=jw m ok.l0;let#[xs,R,N,t,r]:=d.ks.at M W
  exact#[0,p,0,d.h_table U,0,p,0,d.h_house_keys U,0,u,2,FC.of c,Z,hk,2,Fw.of N,t,0,ta,R,u,L,nm,age,D.t,zJ D age,ds,Z,.inr d.tb,.inr r,.tup c,.tup g,B,ok.tp,v,e,λy F J j=>q y F (i.trans J) j]
theorem ef(a:HJ K C "known_now" "Door.known_now" Zd ["self"])(T:F3 K mg tk)(U:GB K C):Mf P w K mg base C "known_now" V4 1 (lV K C):=by
 refine a.mq dw λf _ A _ s H vs Q E hr h=>?_
 ·let#[p,ta,hk,bd,lg,n,D,rfl,b,ok,q]:=h
  let#[fn,hd,a5,M,_]:=id b.kb;exists _,(qg (qp (qN qY T.b_tuple JS (qd (zv (own:=["name"]) (fr:=["self"]) (js:=[0]) Z (ze (qr (j5 Z) T.b_sorted PyProof.Rows.boot_sorted (qd (zb (qv 0)) qb))) Z (Z5 Z) Z (aq Z nofun nofun nofun Z Z Z) (λ_ _ _ _=>qh (i:=0) (show List.Nodup (["name","self"]:Α)from by decide +kernel) Z (Or.inl Z) (.inr Z)) (λ_ _ _ _=>(qo Zh (qy (qd (qv 0) qb)) (qA hr (wL (K:=K) Z (qv 1)) (qv 0))))) qb))))
  refine#[0,p,0,b.h_buttons U,bd,_,fn.1.map (·.1),Z,hd,nV _ _,by rw[Jd,M.length_eq];have:=ok.nl;omega,λl ss hl a3 so=>#[l,Z,#[_,Fw.of qc],?_]]
  have pm:=a3.trans (M.map (·.1))
  have u1:=Fp.upd (o:= .lst (ss.map V.str)) hl
  have ls:ss.length<=60:=by rw[pm.length_eq,Jd];exact ok.nl
  refine Qj (K:=K) (xs:=ss.map V.str) (by rw[Jd,Jo];omega) (λi ys G=>Fp (Ft H l (.lst (ss.map V.str))) G/\∃d:Ι,ys=d.map V.ref/\d.length=i/\∀(j:Nat) (x:Δ) (nm:Str) (e:Kb),d[j]? =↑x->ss[j]? =↑nm->D.kn.lookup nm=↑e->∃v,G x=↑(.tup [.str nm,.int e.age,.int e.last,v])/\Wt G v e.wt) #[Fp.refl _,[],8,λj x nm e h=>by(cases h)] (λi ys G ⟨B,_⟩=>B.seq (Fw.of qc)) ?_ ?_
  ·rintro i ys G x R a0 ⟨B,d,rfl,u,has⟩
   rw[Jk]at R;cases es:ss[i]? with
   |none=>rw[es]at R;cases R
   |some nm=>
    rw[es]at R
    obtain rfl:V.str nm=x:=Jt R
    have O:nm∈D.kn.map (·.1):=pm.mem_iff.mp (JG es)
    let#[e,N]:=Qv O;have b3:=b.same (u1.trans B);let#[e',x0,m,g,v0,I,W]:=(b3.kb.get nm).resolve_left (λz=>by rw[N]at z;cases z.1)
    rw[N]at m;cases m;refine#[0,Fc,λt ht=>?_]
    have F:=Fp.upd (o:= .tup [.str nm]) ht
    have b4:=b3.same F;let#[e',x0,m,g,v0,I,W]:=(b4.kb.get nm).resolve_left (λz=>by rw[N]at z;cases z.1)
    rw[N]at m;cases m;refine#[0,p,0,b4.h_buttons U,0,bd,0,g,t,x0,7,qc,I,Ff,λq1 H5 X r=>?_]
    refine#[(B.trans F).trans X,d++[q1],by simp,by simp [u],λj y m2 e2 h1 J L=>?_]
    rw[J2]at h1;split at h1
    ·let#[v,a1,Y]:=has j y m2 e2 h1 J L
     exact#[v,X _ _ (F _ _ a1),Y.mv (S:=[]) (F.trans X).mv (λc h=>nomatch h)]
    ·have hj:j-d.length=0:=by
      cases hj:j-d.length with
      |zero=>rfl
      |succ k=>rw[hj]at h1;cases h1
     rw[hj]at h1;cases h1
     obtain rfl:j=i:=by omega
     rw[es]at J;cases J;rw[N]at L;cases L
     exact#[v0,r,W.mv (S:=[]) X.mv (λc h=>nomatch h)]
  ·rintro ys G a0 ⟨B,d,rfl,u,has⟩ l2 a4
   have F:=Fp.upd (o:= .lst (d.map V.ref)) a4
   refine#[l2,0,.inl #[Fw.of qc,λq1 r=>?_]]
   have u5:=Fp.upd (o:= .tup (d.map V.ref)) r
   have S:=F.trans u5;refine q q1 ss _ ((u1.trans B).trans S) pm so #[d,qc,by rw[u,Jd],λj x nm e h1 J L=>?_]
   let#[v,a1,Y]:=has j x nm e h1 J L
   exact#[v,S _ _ a1,Y.mv (S:=[]) S.mv (λc h=>nomatch h)]
end
section
variable{P:Ξ}{w:Ω}{K:ι}{mg:Fn}{base:Ψ}{tk:Nat->Tok}{C:Δ}
theorem lK(a:HJ K C "hear" "Door.hear" be ["self","thing"])(T:F3 K mg tk)(U:GB K C)(dQ:Df P w K mg base "is_press" X8 5 bF)(X:Mf P w K mg base C "answer_to" ["self","press"] 4 (iV K C)):Mf P w K mg base C "hear" W5 6 (nP K C):=by
 refine a.mq GU λf _ A _ s H vs Q E M h=>?_
 ·let#[#[p,ta,hk,bd,lg],D,L,x,o,rfl,#[b,#[rs,G,R],N],n1,ok,tg,qn,O]:=h
  simp only at b G N O
  exists _,(qe (qK (QH (zE (ql dQ M.mo (qd (qv 1) qb)))) (qg (qp (qy (qd qk (qd qk qb))))) qB)
   (qe (qx (i:=2) GU.nd Z (Or.inl Z) (zp X U.cl M.mo (qv 0) (qd (qv 1) qb)))
   (qe (zG (QB J3 CT CU zH (zb (qv 0)) (qd (qy (qd qk (qd (qv 1) (qd (qv 2) qb)))) qb)))
   (qg (qp (qv 2))))))
  refine#[0,x,0,tg.b,λH1 g=>#[0,?_]]
  cases o with
  |none=>exact zQ #[Fd,λq hq=>qn Z q _ (g.trans (Fp.upd hq)) qc]
  |some PP=>
  let#[y,rfl,S,e]:=tg;have q:=O PP Z;refine zg ?_
  have v:=b.same g;let#[f0,I,_]:=id v.kb;have l:NT [bd] H1:=NT.one I trivial
  refine#[0,p,Z,v.no,0,p,ta,hk,bd,lg,y,L.length,D,PP.nm,PP.age,PP.ds,Z,v,ok,FP.same g S,e.nm,e.l,e.dg,λJ H2 t m W=>?_]
  have j:=t _ _ (qE (qC (g _ _ G) I (by intro z;cases z))) (g _ _ G)
  have B:=(R.same g).mv t l;refine#[0,p,0,W.h_log U,.inl #[37,Fw.of j],1,Fe,λr F=>?_]
  have d:=Fp.upd (o:= .tup [.str "hear",.ref y,.ref J]) F
  have Y:=W.same d;have n:=FP.same d (FP.mv t l (FP.same g S));have u:NT [lg] _:=NT.one (d _ _ j) trivial
  refine#[lg,7,d _ _ j,by rw[Jd,R.1,Jo];omega,#[0,?_]]
  exact q y J _ Z (((g.mv.trans (t.mono (λc h z=>h (by rw[Jn.mp z];exact JJ ..)))).trans d.mv).trans (Mv.upd1.mono (λc h z=>h (by rw[Jn.mp z];exact JF _ (JJ ..))))) (FP.mv Mv.upd1 u n) (Mv.upd1.tup u (d _ _ m)) (F4.push (a:=#[p,ta,hk,bd,lg]) Y (d _ _ j) (B.same d) ((FK.mv t l (qE (wE I v)) (FK.same g N)).same d) #[y,J,.inl qc,n,e,d _ _ m,tE D PP,uc D PP])
theorem ca(a:HJ K C "close_below" "Door.close_below" QD ["self","age"])(T:F3 K mg tk)(U:GB K C):Mf P w K mg base C "close_below" V0 1 (jS K C):=by
 refine a.mq b8 λf _ A _ s H G Q E F h=>?_
 ·let#[#[p,ta,hk,bd,lg],D,L,age,rfl,#[b,#[rs,j,n],t],n1,q]:=h
  simp only at b j t q
  exists _,(qe (zS (qv 0) (qr (aE Z) T.b_max Ey (qd (zb (qv 0)) (qd (qv 1) qb))))
   (qg (zG (QB J3 CT CU zH (zb (qv 0)) (qd (qy (qd qk (qd (qv 1) qb))) qb)))))
  have q:=q _ _ Z;let#[z,u]:∃z:Int,z=if age>D.least then age else D.least:=#[0]
  rw[<- u]at q;let#[B,g]:=id b.ob;let#[dx,x,m,v]:=b.putLeast U z;have d:=m _ _ (qE (qC j g (by intro z;cases z))) j
  have l:=n.mv m (NT.one g trivial);exists 0,p,0,b.h_least_age U,_,Z,_,_,Z,_,Z,p,0,by rw[<- u];exact x
  refine#[0,p,0,v.h_log U,.inl #[37,Fw.of d],0,Fd,λr i=>?_]
  have e:=Fp.upd (o:= .tup [.str "close",.int age]) i
  have y:=v.same e;exists lg,7,e _ _ d,by rw[Jd,n.1,Jo];omega
  exact q _ (((m.mono (λc h z=>h (by rw[Jn.mp z];exact JJ ..))).trans e.mv).trans (Mv.upd1.mono (λc h z=>h (by rw[Jn.mp z];exact JF _ (JJ ..))))) (F4.push (a:=#[p,ta,hk,bd,lg]) y (e _ _ d) (l.same e) ((FK.mv m (NT.one g trivial) (qE (BD g b)) t).same e) (show HD _ r (.close age)from .inl qc))
theorem gt(a:HJ K C "log_now" "Door.log_now" ZH ["self"])(T:F3 K mg tk)(U:GB K C):Mf P w K mg base C "log_now" V4 1 (rB K C):=by
 refine a.mq gL λf _ A _ s H j Q E i h=>?_
 ·let#[#[p,ta,hk,bd,lg],D,L,rfl,#[b,#[rs,c,e],g],q]:=h
  simp only at b c g
  exists _,(qg (qp (qN qY T.b_tuple JS (qd (zb (qv 0)) qb))))
  exact#[0,p,0,b.h_log U,lg,0,.inl #[Fw.of c,λt d=>q t _ (Fp.upd d) #[rs,.inl qc,e.same (Fp.upd d)]]]
theorem jE(a:HJ K C "learn" "Door.learn" ag ["self","one","other"])(T:F3 K mg tk)(U:GB K C)(dD:Mf P w K mg base C "read_right" W5 6 (cx K C))(xH:Mf P w K mg base C "is_full" V4 1 (nQ K C)):Mf P w K mg base C "learn" ["self","one","other"] 7 (iM K C):=by
 refine a.mq FO λf _ A _ s H vs Q E F h=>?_
 ·let#[#[p,ta,hk,bd,lg],D,L,I,p2,#[nm,age,c3],#[j,d,c0],c,d1,d2,rfl,#[b,#[rs,el,ro],kr],n1,ok,t,n,W,M,r1,r2,en,ea,Y,b3,q]:=h
  simp only at b el kr q en ea Y
  subst en;subst ea
  exists _,(qe (qx (i:=3) FO.nd Z (Or.inl Z) (zp dD U.cl F.mo (qv 0) (qd (qv 1) qb)))
   (qe (qK (qw Zn (qv 3) zc (qu _)) ZL qB)
   (qe (qx (i:=4) FO.nd Z (Or.inl Z) (zp dD U.cl F.mo (qv 0) (qd (qv 2) qb)))
   (qe (qK (QW.pt (Q7 (qw Zn (qv 4) zc (qu _)) (Q7 (qw (AJ F) (fe nH (qv 2) iw (ii qf)) (fe nH (qv 1) iw (ii qf)) (qu _)) (QZ (qw cS (qF zk (qv 4) qf) (qo qH (qF zk (qv 3) qf) qf) (qu _)))))) ZL qB)
   (qe (zj (qv 1) (ZK Z (qm (qh (i:=5) FO.nd Z (Or.inl Z)) (qm (qh (i:=6) FO.nd Z (Or.inl Z)) (qm (qh (i:=7) FO.nd Z (Or.inl Z)) qU)))))
   (qe (qK (AN F (qv 5) (zb (qv 0))) ZL qB)
   (qe (qK (zE (bV xH U.cl F.mo (qv 0))) ZL qB)
   (qe (Qp F (zb (qv 0)) (qv 5) (qy (qd (qv 6) (qd (qF zk (qv 4) qf) (qd zc qb)))))
   (qg (zG (QB J3 CT CU zH (zb (qv 0)) (qd (qy (qd qk (qd (qv 1) (qd (qv 2) qb)))) qb))))))))))))
  refine#[0,p,Z,b.no,0,p,ta,hk,bd,lg,L.length,D,.ref I,↑_,Z,b,ok,#[I,Z,t,W],λy1 H1 X t1=>?_]
  have t1:cG H1 y1 (Zk D _):=t1
  rw[r1]at t1;let#[f1,rfl,b0]:=t1;refine#[3,qO (λy=>nomatch (Jw y)) (λ_=>?_)]
  have b1:=b.same X;refine#[0,p,Z,b1.no,0,p,ta,hk,bd,lg,L.length,D,.ref p2,↑_,Z,b1,ok,#[p2,Z,FP.same X n,M],λy2 H2 R t2=>?_]
  have t2:cG H2 y2 (Zk D _):=t2
  rw[r2]at t2;let#[f2,rfl,J]:=t2;have b2:=b1.same R;have a0:=FP.same (X.trans R) t;have O:=FP.same (X.trans R) n;let#[c1,e1,_]:=id a0;let#[c2,e2,_]:=id O;simp only at e1 e2
  exists 3
  refine qO (λy=>nomatch (Jw y)) (λ_=>?_)
  refine#[1,p2,0,e2,λt3 H3 s3 h3 _=>#[1,I,0,s3 _ _ e1,λt4 H4 s4 h4 _=>?_]]
  have a3:H4 t3=↑(.tup [.str j,.int d]):=s4 _ _ h3
  have a1:H4 t4=↑(.tup [.str j,.int d]):=h4
  have G:=(s3.trans s4);have SS:=(X.trans R).trans G;refine#[(1),⋯,Iz.pair a3 a1,0,zg ?_]
  exists 0,f2,2,FC.of (G _ _ J),14,f1,2,FC.of (G _ _ (R _ _ b0)),59
  refine cT Z ?_
  have N:=b2.same G;exists 0,I,0,.tup (G _ _ e1),6
  have g4:FW H4 bd (.str j) none:=by
   rcases N.kb.get j with⟨_,g⟩|⟨e,x,e5,_⟩
   ·exact g
   ·rw[Y]at e5;cases e5
  exists 1,p,0,N.h_buttons U,bd,0,g4,0
  refine zg ?_
  exists 0,p,Z,N.no,p,ta,hk,bd,lg,L.length,D,Z,N,0
  refine qO (λy=>absurd (Jw y) (by omega)) (λ_=>?_)
  refine#[1,f2,2,FC.of (G _ _ J),Z,Fe,λt5 a4=>?_]
  have u5:=Fp.upd (o:= .tup [.int d,.int (c+1),.non]) a4
  have S:=N.same u5;let#[f0,hd,_]:=id S.kb;have B:=SS.trans u5;let#[H6,dp,v,a8]:=S.kb.put j (a:=t5) (e:=#[d,c+1,none]) (by have:=ok.nl;omega) #[.non,qc,Z]
  exists 0,p,0,S.h_buttons U,0,bd,H6,Z,dp
  have b6:=S.putK v a8;have u:=v _ _ (qE (qC (B _ _ el) hd (by intro z;cases z))) (B _ _ el)
  have l:NT [bd] _:=NT.one hd trivial
  have a2:=(ro.same B).mv v l;refine#[0,p,0,b6.h_log U,.inl #[37,Fw.of u],1,Fe,λr a5=>?_]
  have m:=Fp.upd (o:= .tup [.str "learn",.ref I,.ref p2]) a5
  have b7:=b6.same m;exists lg,7,m _ _ u,by rw[Jd,ro.1,Jo];omega
  exact q _ (((B.mv.trans (v.mono (λc h z=>h (by rw[Jn.mp z];exact JJ ..)))).trans m.mv).trans (Mv.upd1.mono (λc h z=>h (by rw[Jn.mp z];exact JF _ (JJ ..))))) (F4.push (a:=#[p,ta,hk,bd,lg]) b7 (m _ _ u) (a2.same m) ((FK.mv v l (qE (wE hd S)) (FK.same B kr)).same m) #[I,p2,.inl qc,FP.same m (FP.mv v l (FP.same B t)),FP.same m (FP.mv v l (FP.same B n)),W,M])
theorem fW(a:HJ K C "__init__" "Door.__init__" Q4 ["self","table","keys","near","far","most"])(T:F3 K mg tk)(U:GB K C):Mf P w K mg base C "__init__" X0 1 (jT K C):=by
 refine a.mq bg λf _ A _ s H vs Q E hr h=>?_
 ·let#[p,a,b,dx,J,a0,O,t,n,rfl,hp,ha,hb,hl,q]:=h
  exists _,(qe (zS (qv 0) (qN eU T.b_tuple JS (qd (qv 1) qb)))
   (qe (zS (qv 0) (zv (own:=["key"]) (fr:=[]) (js:=[]) Z (gU (qv 2)) Z (λ_ _ h=>nomatch h) Z (iy Z nofun nofun nofun) (λ_ _ _ _=>qh (i:=0) (show List.Nodup (["key"]:Α)from by decide +kernel) Z (Or.inl Z) (.inr Z)) (λ_ _ _ _=>(qN eO T.b_tuple JS (qd (qv 0) qb)))))
   (qe (zS (qv 0) (qv 3))
   (qe (zS (qv 0) (qv 4))
   (qe (zS (qv 0) (qv 5))
   (qe (zS (qv 0) qf)
   (qe (zS (qv 0) fG)
   (qg (zS (qv 0) (qT qb))))))))))
  refine#[0,a,0,ha,λta H2 R ht=>#[0,p,0,zo U.cl (R _ _ hp) U.n_table 0,?_]]
  have e2:=R _ _ hp;have a2:=(hb.same R).upd (o:= .ins C dx [("table",.ref ta)]) e2
  let#[as,eb,la,X]:=a2;have a1:=cR (o:= .ins C dx [("table",.ref ta)]) e2 ht
  refine#[0,b,Z,#[_,eb.up],bQ (K:=K) (xs:=as.map V.ref) (by rw[Jd,la,Jo];omega) (λi ys m=>Fp (Ft H2 p (.ins C dx [("table",.ref ta)])) m/\∃bs:Ι,ys=bs.map V.ref/\bs.length=i/\∀(j:Nat) (x:Δ) (B:Ζ),bs[j]? =↑x->n[j]? =↑B->FC [] m x (B.map V.int)) #[Fp.refl _,[],8,λj x B e=>by(cases e)] (λi ys m ⟨v,_⟩=>(Fp.sqt v eb).up) ?_ ?_]
  ·rintro i ys m x N a3 ⟨v,bs,rfl,G,I⟩
   rw[Jk]at N;cases ea:as[i]? with
   |none=>rw[ea]at N;cases N
   |some x0=>
    rw[ea]at N
    obtain rfl:V.ref x0=x:=Jt N
    have hi:i<n.length:=by rw[<- la];exact(Jp.mp ea).1
    have a5:=X i x0 n[i] ea (Jg hi);refine#[0,x0,0,.inr (Fp.sqt v a5).rd,λl H4 s4 a4=>#[v.trans s4,bs++[l],by simp,by simp [G],λj y B z r=>?_]]
    rw[J2]at z;split at z
    ·exact Fp.sqt s4 (I j y B z r)
    ·have hj:j-bs.length=0:=by
      cases hj:j-bs.length with
      |zero=>rfl
      |succ k=>rw[hj]at z;cases z
     rw[hj]at z;cases z
     have:j=i:=by omega
     subst this;rw[Jg hi]at r;cases r;exact .inl a4
  ·rintro ys m a3 ⟨v,bs,rfl,G,I⟩ hk D
   have W:=Fp.upd (o:= .lst (bs.map V.ref)) D
   have e3:=W _ _ (v _ _ qc);exists 0,p,0,zo U.cl e3 U.n_house_keys 1
   exists 1,p,0,zo U.cl qc U.n_near 2
   exists 1,p,0,zo U.cl qc U.n_far 3
   exists 1,p,0,zo U.cl qc U.n_most 4
   exists 0,p,0,zo U.cl qc U.n_least_age 5
   refineλbd g=>#[0,p,0,zo U.cl (by rw[qi (qt qc g)];exact qc) U.n_buttons 6,?_]
   have u:=qt qc g;refine#[Fb,λlg d=>#[0,p,0,zo U.cl (by rw[qi (qt qc d)];exact qc) U.n_log 7,?_]]
   have L:=qt qc d;have m3:Mv [p] H m:=((R.mv (S:=[p])).trans Mv.upd1).trans v.mv
   have c:hk≠p:=(qt (v _ _ qc) D).symm
   have Y:Mv [p] H (Ft m hk (.lst (bs.map V.ref))):=m3.trans W.mv
   have M:∀o1 o2 o3 o4 o5,Mv [p] (Ft m hk (.lst (bs.map V.ref))) (Ft (Ft (Ft (Ft (Ft (Ft m hk (.lst (bs.map V.ref))) p o1) p o2) p o3) p o4) p o5):=λo1 o2 o3 o4 o5=>(((Mv.upd1.trans Mv.upd1).trans Mv.upd1).trans Mv.upd1).trans Mv.upd1
   have M6:Mv [p] (Ft m hk (.lst (bs.map V.ref))) _:=(((M _ _ _ _ _).trans (Fp.upd g).mv).trans Mv.upd1).trans (Fp.upd (o:= .lst []) d).mv
   have M7:=M6.trans (Mv.upd1 (o:= .ins C dx (dF #[t,n,J,a0,O,(0),[]] ta hk bd lg)))
   have nt:NT [p] (Ft m hk (.lst (bs.map V.ref))):=NT.one e3 trivial
   have F:bd≠lg:=qt (by rw[qi u.symm];exact qc) d
   have KR:=FK.mv M7 nt (qE c) (show FK [] _ hk n from#[bs,qc,by rw[G,Jd,la],λj x B z r=>Fp.sqt W (I j x B z r)])
   refine q ta hk bd lg _ (m3.nfree (qE c) D) ((Y.trans (M _ _ _ _ _)).nfree (qE u.symm) g) ((Y.trans ((((M _ _ _ _ _).trans (Fp.upd g).mv).trans Mv.upd1))).nfree (qE L.symm) d) (Y.trans M7) #[#[dx,qc],?_,FK.up KR,?_,?_,?_] KR
   ·exact M7.sqt nt (Fp.sqt W (Fp.sqt v a1))
   ·exact#[([],λ_=>0),by rw[qi u.symm,qi F,qi u.symm];exact qc,λe he=>by(cases he),.refl _,Ex]
   ·exact#[[],by rw[qi L.symm];exact qc,Je _]
   ·refine(qt (o:= .lst (bs.map V.ref)) ?_ d).symm
    rw[qi c];rw[qi (qt (o:= .lst (bs.map V.ref)) (by rw[qi c,qi c,qi c,qi c,qi c];exact qc) g)]
    rw[qi c,qi c,qi c,qi c,qi c];exact qc
end
section
variable{P:Ξ}{w:Ω}{K:ι}{mg:Fn}{base:Ψ}{tk:Nat->Tok}{C:Δ}
theorem cm(a:HJ K C "closed_now" "Door.closed_now" QU ["self"])(T:F3 K mg tk)(U:GB K C):Mf P w K mg base C "closed_now" V4 1 (jn K C):=by
 refine a.mq cO λf _ A _ s H d Q E c h=>?_
 ·let#[p,ta,hk,bd,lg,n,D,rfl,b,q]:=h
  exists _,(qg (qp (zb (qv 0))))
  exact#[0,p,0,b.h_least_age U,q]
end
def jZ(K:ι):Sp:=λc H Q _=>∃(a:Δ) (ns:Ζ) (k:Nat),c=[.ref a,.int k]/\Fw K H a (ns.map V.int)/\k<=1000/\∀b H',H b=none->Fp H H'->F2 H' b 0->Q (.ref b) H'
def rA:Sp:=λd H Q _=>∃(b:Δ) (c:Nat),d=[.ref b]/\F2 H b c/\c<100000000/\∀p (a:Ζ) H',FY b (c+10) H H'->H p=none->H' p=↑(.tup (a.map V.int))->zt a->1<=a.length->a.length<=8->Q (.ref p) H'
section
variable{P:Ξ}{w:Ω}{K:ι}{mg:Fn}{base:Ψ}{tk:Nat->Tok}
theorem mE(a:At K mg "_law_take" bw ["_law_box_here","_law_many"])(T:F3 K mg tk):Df P w K mg base "_law_take" x4 1 QK:=by
 refine a.dq GI λf _ A _ s H B Q E y h=>?_
 ·let#[b,p,c,rfl,#[n,m,k,g,u,v,t,z],j,l,h1,q]:=h
  exists _,(qe (qK (qw dj (qF qG (qv 0) qf) qf (qu _)) (qe (qx (i:=2) GI.nd Z (Or.inl Z) (qo zF (qF qG (qv 0) qf) (qv 1)))
   (qe (zj (qo ZE (qF qG (qv 0) qf) (qv 1)) (aa (qv 0) qf QF))
   (qg (qp (qv 2))))) qB)
   (qe (zj (qo qH (qF qG (qv 0) qf) qf) (aa (qv 0) qf QF))
   (qe (qx (i:=3) GI.nd Z (Or.inl Z) (qo zF (qo qH (qo qH (qo QY (qF qG (qv 0) qf) qf) (qo QY (qF qG (qv 0) qf) qf)) qf) qf))
   (qe (zj (qo qH (qo zF (qo QY (qv 3) (qv 3)) qf) (qF qG (qv 0) qf)) (aa (qv 0) qf QF))
   (qg (qp (qo zF (qo ZE (qF qG (qv 0) qf) qf) (qv 1))))))))
  exists 0,b,2,Fw.of g,28
  refine qO (λ_=>?_) (λ_=>?_)
  ·exists 0,b,2,Fw.of g,43,l
   exists 0,b,2,Fw.of g,43,#[l,h1],0,b,15,(0),8,g,Z
   exists 0
   refine q _ _ (DE _ (by omega)) (DF _ l) #[λc o j e=>?_,30,qc,u,v,t,by omega]
   rw[qi j];exact e
  ·exists 0,b,2,Fw.of g,28,b,15,(2),8,g,Z
   have d:(Ft H b (hX n m (k+1))) b=↑(hX n m (k+1)):=qc
   exists 0,b,2,Fw.of d,34,.inr #[⋯,⋯],0,b,2,Fw.of d,34,.inr #[⋯,⋯],46,(by decide:(0:Int)<2305843009213693921)
   have C:=DE (m*48271+(k+1)*39373+11) (by decide:(2305843009213693921:Int)≠0)
   have x:=DF (m*48271+(k+1)*39373+11) (by decide:(0:Int)<2305843009213693921)
   exists 13,.inl #[by omega,by omega],7,(by decide:(0:Int)<2305843009213693907),0,b,2,Fw.of d,28,b,15,(1),8,d,Z
   have r:=DE ((m*48271+(k+1)*39373+11)%2305843009213693921*((m*48271+(k+1)*39373+11)%2305843009213693921)) (by decide:(2305843009213693907:Int)≠0)
   have i1:=DF ((m*48271+(k+1)*39373+11)%2305843009213693921*((m*48271+(k+1)*39373+11)%2305843009213693921)) (by decide:(0:Int)<2305843009213693907)
   exists 0,b,2,Fw.of qc,34,#[⋯,⋯],11,l
   refine q _ _ (DE _ (by omega)) (DF _ l) #[λc o j e=>?_,30,qc,Int.add_nonneg r (by omega),Int.lt_of_lt_of_le (Int.add_lt_add_right i1 _) (by omega),by omega,by omega]
   rw[qi j,qi j];exact e
theorem oX(a:At K mg "_law_box" cz ["_law_script","_law_k"])(T:F3 K mg tk):Df P w K mg base "_law_box" W7 1 (jZ K):=by
 refine a.dq F9 λf _ A _ s H vs Q E hr h=>?_
 ·let#[b,ns,k,rfl,W,O,q]:=h
  exists _,(qe (qx (i:=2) F9.nd Z (Or.inl Z) (qN Zt T.b_list Ds (qd (fe wI (qv 0) iw (ii qf)) qb)))
   (qe (qx (i:=3) F9.nd Z (Or.inl Z) (qF qG (qo Bi (qv 2) (qo kN (qT (qd qf qb)) (qo qH (qv 1) qf))) (qv 1)))
   (qe (qx (i:=4) F9.nd Z (Or.inl Z) qf)
   (qe (zn JI Z (ze (qv 2)) (qh (i:=5) F9.nd Z (Or.inl Z))
   (qg (qx (i:=4) F9.nd Z (Or.inl Z) (qo zF (qo qH (qo QY (qv 4) qf) (qv 5)) qf))))
   (qg (qp (qT (qd (qo QY (qr kB T.b_abs PyProof.Rows.boot_abs (qd (qv 3) qb)) (qN jg T.b_int Ec (qd (zx jR (qr kB T.b_abs PyProof.Rows.boot_abs (qd (qv 3) qb)) (qo rR qf qf) (qu _)) qb))) (qd (qo zF (qo qH (qo qH (qv 3) (qo QY qf (qv 4))) (qo QY qf (qv 1))) qf) (qd qf qb))))))))))
  refine#[1,b,0,W,λl X=>?_]
  rw[uS];have R:(iF ns none ↑63).length<=63:=by
   rw[uu]
   have:HT.sIx ns.length ns.length ↑63<=63:=by unfold HT.sIx;simp only;split<;>omega
   omega
  generalize iF ns none ↑63=c at R⊢
  have u1:=Fp.upd (o:= .lst (c.map V.int)) X
  refine#[l,0,.inl (Fw.of qc),λg D=>?_]
  have L:=u1.trans (Fp.upd (o:= .lst (c.map V.int)) D)
  have B:(Ft (Ft H l (.lst (c.map V.int))) g (.lst (c.map V.int))) g=↑(.lst (c.map V.int)):=qc
  generalize Ft (Ft H l (.lst (c.map V.int))) g (.lst (c.map V.int))=U at L B⊢
  refine#[0,Fc,λG r=>?_]
  have u:=Fp.upd (o:= .lst [.int 0]) r
  refine#[11,G,7,qc,by omega,by omega,by show 1*_<=_;rw[Jo];omega,λJ v=>?_]
  have e4:(List.replicate ((k:Int)+1).toNat [V.int 0]).flatten=(List.replicate (k+1) (0:Int)).map V.int:=by
   rw[show((k:Int)+1).toNat=k+1 by omega]
   simp [List.flatten_replicate_singleton]
  rw[e4];have t:=Fp.upd (o:= .lst ((List.replicate (k+1) (0:Int)).map V.int)) v
  refine#[g,J,7,t _ _ (u _ _ B),qc,by rw[Jd,Jd,Eh,Jo];omega,λF m=>?_]
  rw[<- Jy];have n:k<(c++List.replicate (k+1) (0:Int)).length:=by rw[Jx,Eh];omega
  exists 0,F,15,.int (c++List.replicate (k+1) (0:Int))[k],8,Fw.of qc,zW (by rw[Jk,Jg n];rfl)
  have I:=Fp.upd (o:= .lst ((c++List.replicate (k+1) (0:Int)).map V.int)) m
  generalize (c++List.replicate (k+1) (0:Int))[k]=d
  have S:=L.trans (u.trans (t.trans I));have C:=I _ _ (t _ _ (u _ _ B));generalize Ft (Ft (Ft U G (.lst [.int 0])) J (.lst ((List.replicate (k+1) (0:Int)).map V.int))) F (.lst ((c++List.replicate (k+1) (0:Int)).map V.int))=H5 at S C⊢
  exists 0,g,Z,#[_,Fw.of C]
  refine Qa (K:=K) (a:=g) (xs:=c.map V.int) (λi σ j=>j=H5/\∃(z:Int) (o:Μ),σ=[↑(.ref b),↑(.int (k:Int)),↑(.ref g),↑(.int d),↑(.int z),o]/\0<=z/\z<2305843009213693951) #[61,⋯,⋯] (λi σ j _ ⟨e,_⟩=>by subst e;exact Fw.of C) ?_ ?_
  ·rintro i x σ j hx ⟨rfl,z,o,rfl,z0,N⟩
   let#[y,rfl,hy]:=QC hx;refine#[11,.inl #[by omega,by omega],51,(by decide:(0:Int)<2305843009213693951),61,DE _ ⋯,DF _ ⋯]
  ·rintro σ j ⟨rfl,z,o,rfl,z0,N⟩
   refine#[17,#[⋯,⋯,⋯],7,.inr #[0,?_]]
   exists 7,.inr #[AA _,BC _],13,.inl #[⋯,⋯],31,.inl #[⋯,⋯],40,(by decide:(0:Int)<2305843009213693951)
   have Y:=DE (d+39373*z+7919*(k:Int)) (by decide:(2305843009213693951:Int)≠0)
   have g1:=DF (d+39373*z+7919*(k:Int)) (by decide:(0:Int)<2305843009213693951)
   exact#[Fe,λp M=>q _ _ (ZB M S) (S.trans (Fp.upd M)) #[30,qc,Y,by omega,⋯,⋯]]
theorem j6(a:At K mg "_law_table" ba ["_law_box_here"])(T:F3 K mg tk)(M:Df P w K mg base "_law_take" x4 1 QK):Df P w K mg base "_law_table" V1 2 kD:=by
 refine a.dq GA λf _ A _ s H O Q E L h=>?_
 ·let#[b,c,rfl,D,S,q]:=h
  exists _,(qe (qx (i:=1) GA.nd Z (Or.inl Z) (qT qb))
   (qe (zn JI Z (Qs Z T.b_range (qd qf qb)) (qh (i:=2) GA.nd Z (Or.inl Z))
   (qg (zG (QB J3 PySem.F.slot_list_insert PySem.F.type_list_insert tH (qv 1) (qd (ql M L.mo (qd (qv 0) (qd (qo qH (qv 2) qf) qb))) (qd (qv 2) qb))))))
   (qg (qp (qN qY T.b_tuple JS (qd (qv 1) qb))))))
  refine#[Fb,λl y=>?_]
  have g:l≠b:=Ql D y
  refine#[(16),Z,⋯,⋯,ZP (n:=16) (Pv:=λi σ v=>FY b (c+i) H v/\∃(d:Ζ) (o:Μ),v l=↑(.lst (d.map V.int))/\d.Perm (F5.take i)/\σ=[↑(.ref b),↑(.ref l),o]) #[(Fp.upd y).grc D,[],_,qc,.refl _,Z] ?_ ?_]
  ·rintro i σ v hi ⟨u,d,o,B,pm,rfl⟩
   have I:d.length=i:=by rw[pm.length_eq,J0,show F5.length=16 from Z];omega
   refine#[0,.inl #[37,Fw.of B],13,b,5,u.bx,by omega,by omega,by omega,λx U N R F=>?_]
   have G:=F.kp _ _ g B;exists 0,l,2,G,N,by rw[Jd,I];omega,by rw[Jd,I,Jo];omega
   refine#[#[λc o p e=>?_,?_],d.take x.toNat++(i:Int)::d.drop x.toNat,_,?_,?_,Z]
   ·by_cases z:c=l
    ·subst z
     rw[e]at y;cases y
    ·rw[qi z];exact F.kp _ _ p (u.kp _ _ p e)
   ·let#[n,m,J,e,r]:=F.bx
    exact#[n,m,J,by rw[qi g.symm];exact e,r]
   ·rw[qc,Jy,JL,List.map_take,List.map_drop]
    simp
   ·refine(List.perm_middle.trans (List.Perm.cons _ (by rw[List.take_append_drop]))).trans ?_
    have C:F5.take (i+1)=F5.take i++[(i:Int)]:=(by decide:∀j:Nat,j<16->F5.take (j+1)=F5.take j++[(j:Int)]) i hi
    rw[C]
    exact(List.Perm.cons _ pm).trans (List.perm_append_comm (l₁:=[(i:Int)]))
  ·rintro σ v ⟨u,d,o,B,pm,rfl⟩
   refine#[0,l,0,.inl #[Fw.of B,λt C=>?_]]
   exact q t d _ (u.same (Fp.upd C)) (u.fresh (D.mono (by omega)) C) qc pm
theorem pN(a:At K mg "_law_key" cH ["_law_box_here"])(T:F3 K mg tk)(F:Df P w K mg base "_law_take" x4 1 QK):Df P w K mg base "_law_key" V1 2 rA:=by
 refine a.dq Hn λf _ A _ s H vs Q E m h=>?_
 ·let#[b,c,rfl,I,hc,q]:=h
  exists _,(qe (qx (i:=1) Hn.nd Z (Or.inl Z) (qF qG (qT (qd qf (qd qf (qd qf (qd qf (qd (qo qH qf (ql F m.mo (qd (qv 0) (qd qf qb)))) qb)))))) (ql F m.mo (qd (qv 0) (qd qf qb)))))
   (qg (qp (qN qY T.b_tuple JS (qd (zv (own:=["_law_k"]) (fr:=["_law_box_here"]) (js:=[0]) Z (Qs Z T.b_range (qd (qv 1) qb)) Z (Z5 Z) Z (aq Z nofun nofun nofun Z Z Z) (λ_ _ _ _=>qh (i:=0) (show List.Nodup (["_law_k","_law_box_here"]:Α)from by decide +kernel) Z (Or.inl Z) (.inr Z)) (λ_ _ _ _=>(ql F m.mo (qd (qv 1) (qd qf qb))))) qb)))))
  refine#[0,b,5,I,by omega,⋯,⋯,λr H1 r0 r1 u=>#[7,Fg,λl J=>?_]]
  have L:=Fp.upd (o:= .lst [.int 1,.int 2,.int 4,.int 8,.int (1+r)]) J
  refine#[0,b,5,(L.grc u.bx).bx,by omega,⋯,⋯,λr2 g D C G=>?_]
  let#[v,S,j]:=Z4 (xs:=[V.int 1,.int 2,.int 4,.int 8,.int (1+r)]) D C
  let#[n,rfl,n1,n8]:∃z:Nat,v= .int (z:Int)/\1<=z/\z<=8:=by
   simp only[Jl,Jz,JA]at j;rcases j with rfl|rfl|rfl|rfl|rfl
   ·exact#[(1),Z,⋯,⋯]
   ·exact#[(2),Z,⋯,⋯]
   ·exact#[(4),Z,⋯,⋯]
   ·exact#[(8),Z,⋯,⋯]
   ·exact#[(1+r).toNat,by congr 1;omega,by omega,by omega]
  have e:FY b (c+2) H g:=((u.same L).trans G).mono (by omega)
  exists l,2,Fw.of (G.kp _ _ (Ql u.bx J) qc),S,1,by omega,by omega
  rw[Dm];refine bE (n:=n) (Ju (by omega:n<=8) ⋯) (λi ys g=>FY b (c+2+i) H g/\∃d:Ζ,ys=d.map V.int/\zt d) #[e,[],Z,λ_ h=>nomatch h] ?_ ?_
  ·rintro i ys g hi U ⟨e,d,rfl,hk⟩
   refine#[0,b,5,e.bx,by omega,⋯,⋯,λx H3 W R O=>#[e.trans O,d++[x],by simp,λz Y=>?_]]
   rcases JK.mp Y with y|y
   ·exact hk z y
   ·rw[Jn.mp y];exact#[W,R]
  ·rintro ys g B ⟨e,d,rfl,hk⟩ p X
   rw[Jd]at B;refine#[p,0,.inl #[Fw.of qc,λt N=>?_]]
   have M:=e.same (Fp.upd (o:= .lst (d.map V.int)) X)
   exact q t d _ ((M.same (Fp.upd N)).mono (by omega)) (M.fresh (I.mono (by omega)) N) qc hk (by omega) (by omega)
end
section
variable{P:Ξ}{w:Ω}{K:ι}{mg:Fn}{base:Ψ}{tk:Nat->Tok}
theorem jH(a:At K mg "back_table" ar ["table"])(T:F3 K mg tk):Df P w K mg base "back_table" ["table"] 1 (sO K):=by
 refine a.dq Gh λf _ A _ s H vs Q E hr h=>?_
 ·let#[c,t,rfl,D,pm,q]:=h
  exists _,(qe (qx (i:=1) Gh.nd Z (Or.inl Z) (qo kN (qT (qd qf qb)) (zy (v:= .int 16) Z T.g_DIGITS #[0])))
   (qe (zn JI Z (vC Z T.b_enumerate (qd (qv 0) qb)) (Qf Z (qm (qh (i:=2) Gh.nd Z (Or.inl Z)) (qm (qh (i:=3) Gh.nd Z (Or.inl Z)) qU)))
   (qg (zj (qv 2) (aa (qv 1) (qv 3) QF))))
   (qg (qp (qN qY T.b_tuple JS (qd (qv 1) qb))))))
  refine#[Fc,λp hp=>#[p,(16),32,qc,⋯,⋯,Fk,λl M=>?_]]
  have e0:(List.replicate (16:Int).toNat [V.int 0]).flatten=(QP t 0).map V.int:=by rw[vh];rfl
  rw[e0];have W:=(Fp.upd (o:= .lst [V.int 0]) hp)
  have J:=W.trans (Fp.upd (o:= .lst ((QP t 0).map V.int)) M)
  have step:∀(i:Nat) (x:V) (g:Hp) (u:Δ),(t.map V.int)[i]? =↑x->g l=↑(.lst ((QP t i).map V.int))->Fp H g->g u=none->
    ∃j:Nat,∃z:Int,x= .int z/\aP ((QP t i).map V.int).length z=↑j/\(Ft g u (.tup [.int i,x])) l=↑(.lst ((QP t i).map V.int))/\
     (Ft (Ft g u (.tup [.int i,x])) l (.lst (((QP t i).map V.int).set j (.int i)))) l=↑(.lst ((QP t (i+1)).map V.int))/\Fp H (Ft (Ft g u (.tup [.int i,x])) l (.lst (((QP t i).map V.int).set j (.int i)))):=by
   intro i x g u G n m r;let#[z,rfl,X]:=QC G;have hi:i<t.length:=(Jp.mp X).1
   have Y:t[i]=z:=(Jp.mp X).2
   have bd:=lS pm hi;have sp:=Fp.upd (o:= .tup [.int i,.int z]) r
   refine#[z.toNat,z,Z,hV (by omega) (by rw[Jd,bi];omega),sp _ _ n,?_,λd o e=>?_]
   ·rw[qc,bB,<- Y,vt pm hi]
   ·have O:d≠l:=λy=>by
     rw[y]at e;rw[W _ _ e]at M;cases M
    rw[qi O];exact sp _ _ (m _ _ e)
  have F:∀(o:Μ) (o':Μ) (g:Hp),g l=↑(.lst ((QP t t.length).map V.int))->Fp H g->∀I,g I=none->Q (.ref I) (Ft g I (.tup ((QP t t.length).map V.int))):=λ_ _ g n m I L=>
   q _ _ (m.trans (Fp.upd L)) (by rw[qc,wV pm])
  rcases D with D|D
  ·refine#[0,c,Z,.inl #[#[_,J.seq D],?_]]
   refine kq (K:=K) (a:=c) (xs:=t.map V.int) (λi σ g=>∃(B C:Μ),σ=[↑(.ref c),↑(.ref l),B,C]/\g l=↑(.lst ((QP t i).map V.int))/\Fp H g) #[none,none,Z,qc,J] (λi σ g _ ⟨_,_,_,_,m⟩=>m.seq D) ?_ ?_
   ·rintro i x σ g u G ⟨B,C,rfl,n,m⟩ r
    let#[j,z,rfl,R,U,S,N]:=step i x g u G n m r;exists u,0,FC.of qc,9
    exact#[4,l,15,j,8,U,R,5,S,N]
   ·rintro σ g ⟨B,C,rfl,n,m⟩
    rw[Jd]at n
    exact#[0,l,0,.inl #[Fw.of n,F B C g n m]]
  ·refine#[0,c,Z,.inr #[#[_,Fp.sqt J D],?_]]
   refine sV (K:=K) (a:=c) (xs:=t.map V.int) (λi σ g=>∃(B C:Μ),σ=[↑(.ref c),↑(.ref l),B,C]/\g l=↑(.lst ((QP t i).map V.int))/\Fp H g) #[none,none,Z,qc,J] (λi σ g _ ⟨_,_,_,_,m⟩=>Fp.sqt m D) ?_ ?_
   ·rintro i x σ g u G ⟨B,C,rfl,n,m⟩ r
    let#[j,z,rfl,R,U,S,N]:=step i x g u G n m r;exists u,0,FC.of qc,9
    exact#[4,l,15,j,8,U,R,5,S,N]
   ·rintro σ g ⟨B,C,rfl,n,m⟩
    rw[Jd]at n
    exact#[0,l,0,.inl #[Fw.of n,F B C g n m]]
theorem vL(a:At K mg "coded" iD ["table","key","digits"])(T:F3 K mg tk):Df P w K mg base "coded" X2 1 (cW K):=by
 refine a.dq GD λf _ A _ s H vs Q E hr h=>?_
 ·let#[a,b,c,t,M,ds,rfl,Y,U,R,lt,l1,W,q]:=h
  exists _,(qe (qx (i:=3) GD.nd Z (Or.inl Z) (qN Zt T.b_list Ds (qd (qv 2) qb)))
   (qe (zn JI Z (rX (qv 1)) (qh (i:=4) GD.nd Z (Or.inl Z))
   (qg (zn JI Z (Qs Z T.b_range (qd (qr qL T.b_len JM (qd (qv 2) qb)) qb)) (qh (i:=5) GD.nd Z (Or.inl Z))
   (qe (qx (i:=6) GD.nd Z (Or.inl Z) (qF qG (qv 3) (qo zZ (qv 5) qf)))
   (qg (zj (qF (IW.or qG zk) (qv 0) (qo zF (qo qH (qo qH (qo qH (qF qG (qv 3) (qv 5)) (qv 4)) (qv 5)) (qv 6)) (zy (v:= .int 16) Z T.g_DIGITS #[0]))) (aa (qv 3) (qv 5) QF)))))))
   (qg (qp (qN qY T.b_tuple JS (qd (qv 3) qb))))))
  refine#[0,c,0,R,λl O=>?_]
  have s1:Fp H _:=Fp.upd (o:= .lst (ds.map V.int)) O
  refine#[0,b,Z,yn (K:=K) (H0:=H) U (λj σ F=>Fp H F/\∃N u m,σ=[↑(.ref a),↑(.ref b),↑(.ref c),↑(.ref l),N,u,m]/\F l=↑(.lst ((Qo t (M.take j) ds).map V.int))) #[s1,20,qc] (λj X H' h=>h.1) ?_ ?_]
  ·rintro j x σ F hx ⟨y,N,u,m,rfl,z⟩
   let#[d,rfl,J]:=QC hx;rw[iB J,kf];have C:(Qo t (M.take j) ds).length=ds.length:=aC
   generalize Qo t (M.take j) ds=r at z C
   exists 0,c,0,R.same y,0,?_,?_
   ·omega
   ·rw[Jd];omega
   rw[show((((ds.map V.int).length:Nat):Int)).toNat=ds.length by rw[Jd];rfl]
   refine ZP (n:=ds.length) (Pv:=λi σ I=>Fp H I/\∃u m,σ=[↑(.ref a),↑(.ref b),↑(.ref c),↑(.ref l),↑(.int d),u,m]/\I l=↑(.lst ((ZR t d r i).map V.int))) #[y,5,z] ?_ ?_
   ·rintro i σ I hi ⟨G,u,m,rfl,e⟩
    have D:(ZR t d r i).length=ds.length:=by rw[QJ,C]
    generalize hr':ZR t d r i=B at e D
    have g:i<B.length:=by omega
    exists 13,l,2,Fw.of e,sF (i:=i) (by omega) g
    exists 4,l,2,Fw.of e,av (i:=i) (by omega) g,18,(by decide:(0:Int)<16)
    have L:=QN (B.getD i 0+d+(0+(i:Int))+ah B i)
    refine(Y.same G).ix (av (i:=((B.getD i 0+d+(0+(i:Int))+ah B i)%16).toNat) (by have:=L.1;omega) (by rw[lt];have:=L.1;have:=L.2;omega)) ?_
    exists 1,l,15,i,8,e,hV (by omega) (by rw[Jd];exact g),Zx G O,5
    rw[qc,bB,ZR,hr',iE,Int.zero_add]
   ·rintro σ I ⟨G,u,m,rfl,e⟩
    exact#[G,20,e]
  ·rintro σ F ⟨y,N,u,m,rfl,z⟩
   rw[Jd,Dh]at z
   exact#[0,l,0,.inl #[Fw.of z,λp S=>q p _ (y.trans (Fp.upd S)) (ZB S y) qc]]
theorem oU(a:At K mg "decoded" cw ["table","key","digits"])(T:F3 K mg tk)(xP:Df P w K mg base "back_table" ["table"] 1 (sO K)):Df P w K mg base "decoded" X2 2 (jh K):=by
 refine a.dq F7 λf _ A _ s H vs Q E hr h=>?_
 ·let#[a,b,c,t,e,ds,rfl,ha,hb,hc,pm,U,l1,a1,q]:=h
  exists _,(qe (qx (i:=3) F7.nd Z (Or.inl Z) (ql xP hr.mo (qd (qv 0) qb)))
   (qe (qx (i:=4) F7.nd Z (Or.inl Z) (qN Zt T.b_list Ds (qd (qv 2) qb)))
   (qe (zn JI Z (tF Z T.b_reversed (qd (qv 1) qb)) (qh (i:=5) F7.nd Z (Or.inl Z))
   (qg (zn JI Z (tF Z T.b_reversed (qd (qN tP T.b_range PyProof.Rows.boot_range (qd (qr qL T.b_len JM (qd (qv 2) qb)) qb)) qb)) (qh (i:=6) F7.nd Z (Or.inl Z))
   (qe (qx (i:=7) F7.nd Z (Or.inl Z) (qF qG (qv 4) (qo zZ (qv 6) qf)))
   (qg (zj (qo zF (qo zZ (qo zZ (qo zZ (qF zk (qv 3) (qF qG (qv 4) (qv 6))) (qv 5)) (qv 6)) (qv 7)) (zy (v:= .int 16) Z T.g_DIGITS #[0])) (aa (qv 4) (qv 6) QF)))))))
   (qg (qp (qN qY T.b_tuple JS (qd (qv 4) qb)))))))
  refine#[0,a,t,Z,ha,pm,λpb H1 M Y=>?_]
  refine#[0,c,0,hc.same M,λl hl=>?_]
  have B:Fp H1 _:=Fp.upd (o:= .lst (ds.map V.int)) hl
  refine#[0,b,Z,uG (K:=K) (H0:=H1) (hb.same M) (λj σ O=>Fp H1 O/\∃W D C,σ=[↑(.ref a),↑(.ref b),↑(.ref c),↑(.ref pb),↑(.ref l),W,D,C]/\O l=↑(.lst ((Q9 (zC t) (e.drop (e.length-j)) ds).map V.int))) #[B,20,by rw[Nat.sub_zero,List.drop_length];exact qc] (λj a2 H' h=>h.1) ?_ ?_]
  ·rintro j x σ O hj hx ⟨B,W,D,C,rfl,I⟩
   let#[d,rfl,F]:=QC hx;rw[Jd]at hj F;have ed:e.drop (e.length-(j+1))=d::e.drop (e.length-j):=by
    have:=sk F
    rw[show e.length-1-j+1=e.length-j by omega]at this
    rw[show e.length-(j+1)=e.length-1-j by omega]
    exact this
   rw[ed,Q9];have N:(Q9 (zC t) (e.drop (e.length-j)) ds).length=ds.length:=fM
   have J:zt (Q9 (zC t) (e.drop (e.length-j)) ds):=k4 U
   generalize Q9 (zC t) (e.drop (e.length-j)) ds=r at I N J
   refine#[0,c,0,(hc.same M).same B,0,λpr L=>#[pr,Z,.inr (.inr #[ds.length,?_,by omega,?_])]]
   ·rw[qc,Jd]
   have X:=B.trans (Fp.upd (o:= .rng 0 ((ds.map V.int).length:Nat)) L)
   have a0:=Fp.upd (o:= .rng 0 ((ds.map V.int).length:Nat)) L _ _ I
   refine uv (n:=ds.length) (Pv:=λi σ S=>Fp H1 S/\∃D C y,σ=[↑(.ref a),↑(.ref b),↑(.ref c),↑(.ref pb),↑(.ref l),↑(.int d),D,C]/\S l=↑(.lst (y.map V.int))/\y.length=ds.length/\zt y/\ae (zC t) d y (ds.length-i)=ae (zC t) d r ds.length) #[X,15,r,Z,a0,N,J,Z] ?_ ?_
   ·rintro i σ S hi ⟨R,D,C,y,rfl,g,z,m,G⟩
    have u:ds.length-1-i<y.length:=by omega
    have ep:(ds.length:Int)-1-i=((ds.length-1-i:Nat):Int):=by omega
    rw[ep];generalize hpl:ds.length-1-i=pl at u
    rw[show ds.length-i=pl+1 by omega,ae]at G
    exists 13,l,2,Fw.of g,sF (i:=pl) Z u
    have dr:=iI m pl;exists 4,l,2,Fw.of g,av (i:=pl) Z u,pb,2,FC.of (R _ _ Y),av (i:=(y.getD pl 0).toNat) (by have:=dr.1;omega) (by rw[aM];have:=dr.1;have:=dr.2;omega)
    exists 18,(by decide:(0:Int)<16)
    exists 1,l,15,pl,8,g,nR (by rw[Jd];exact u),Zx R hl,15,fC (zC t) d y pl,Z,?_,by rw[kC];exact z,jV m
    ·rw[qc,bB,fC]
    ·rw[show ds.length-(i+1)=pl by omega];exact G
   ·rintro σ S ⟨R,D,C,y,rfl,g,z,m,G⟩
    rw[Nat.sub_self,ae]at G;rw[G]at g
    exact#[R,20,g]
  ·rintro σ O ⟨B,W,D,C,rfl,I⟩
   rw[Jd,Nat.sub_self,List.drop_zero]at I
   exact#[0,l,0,.inl #[Fw.of I,λp hp=>q p _ ((M.trans B).trans (Fp.upd hp)) (ZB hp (M.trans B)) qc]]
theorem fJ(a:At K mg "letter_digits" Zw ["name"])(T:F3 K mg tk):Df P w K mg base "letter_digits" ["name"] 1 iP:=by
 refine a.dq FU λf _ A _ s H B Q E x h=>?_
 ·let#[z,rfl,r,q]:=h
  exists _,(qe (qx (i:=1) FU.nd Z (Or.inl Z) (qT qb))
   (qe (zn JI Z (sj (qv 0)) (qh (i:=2) FU.nd Z (Or.inl Z))
   (qe (qx (i:=3) FU.nd Z (Or.inl Z) (qo zZ (qr lM T.b_ord PyProof.Rows.boot_ord (qd (qv 2) qb)) (qr lM T.b_ord PyProof.Rows.boot_ord (qd qk qb))))
   (qe (zG (QB J3 CT CU zH (qv 1) (qd (qo zF (qv 3) (zy (v:= .int 16) Z T.g_DIGITS #[0])) qb)))
   (qg (zG (QB J3 CT CU zH (qv 1) (qd (qo ZE (qv 3) (zy (v:= .int 16) Z T.g_DIGITS #[0])) qb)))))))
   (qg (qp (qv 1)))))
  refine#[Fb,λl g=>?_]
  refine#[0,z,Z,lm r,wQ (λi σ d=>Fp H d/\∃p j,σ=[↑(.str z),↑(.ref l),p,j]/\d l=↑(.lst ((Q5 (z.cps.toList.take i)).map V.int))) #[Fp.upd g,5,qc] ?_ ?_]
  ·rintro i c σ d u ⟨n,p,j,rfl,e⟩
   have o:=oi u;rw[wT o,sA];have m:(Q5 (z.cps.toList.take i)).length<=16:=by rw[iZ,J0];have:=r.2.2;omega
   generalize Q5 (z.cps.toList.take i)=ds at e m
   have y:((((#[(List.toArray [c])]:Str).cps.getD 0 0:Nat):Int)-((("a":Str).cps.getD 0 0:Nat):Int))=(c:Int)-97:=Z
   have big:(100:Nat)<ζ:=by decide
   exists 47
   show bL _ _ _ [↑(V.str z),↑(V.ref l),↑(V.str #[(List.toArray [c])]),↑(V.int ((c:Int)-97))] d
   exists 0,.inl #[37,Fw.of e],11,(by decide:(0:Int)<16),l,7,e,by rw[Jd];omega
   have t:Fp H (Ft d l (.lst (ds.map V.int++[V.int (((c:Int)-97)%16)]))):=Zx n g
   exists 0,.inl #[37,Fw.of qc],11,#[⋯,⋯],l,7,qc,by rw[Jx,Jd,Ep];omega,Zx t g,_,_,Z
   rw[qc,Jy,Dy];rfl
  ·rintro σ d ⟨n,p,j,rfl,e⟩
   rw[show z.cps.size=z.cps.toList.length from Z,Dh]at e
   exact#[0,q l d n g e]
theorem rc(a:At K mg "key_of" e9 ["table","key","name"])(T:F3 K mg tk)(xD:Df P w K mg base "letter_digits" ["name"] 1 iP)(dR:Df P w K mg base "coded" X2 1 (cW K)):Df P w K mg base "key_of" W3 2 (db K):=by
 refine a.dq GJ λf _ A _ s H vs Q E X h=>?_
 ·let#[a,b,z,t,ks,rfl,ha,hb,hz,lt,q]:=h
  exists _,(qe (qx (i:=3) GJ.nd Z (Or.inl Z) (qo kN (qT (qd qf qb)) (zy (v:= .int 4) Z T.g_KEY_PLACES #[0])))
   (qe (zn JI Z (nK Z T.b_enumerate (qd (ql xD X.mo (qd (qv 2) qb)) qb)) (Qf Z (qm (qh (i:=4) GJ.nd Z (Or.inl Z)) (qm (qh (i:=5) GJ.nd Z (Or.inl Z)) qU)))
   (qg (xi (qv 3) (qo zF (qv 4) (zy (v:= .int 4) Z T.g_KEY_PLACES #[0])) vw (qv 5) Aq QF)))
   (qg (qp (ql dR X.mo (qd (qv 0) (qd (qv 1) (qd (zv (own:=["total"]) (fr:=[]) (js:=[]) Z (ze (qv 3)) Z (λ_ _ h=>nomatch h) Z (iy Z nofun nofun nofun) (λ_ _ _ _=>qh (i:=0) (show List.Nodup (["total"]:Α)from by decide +kernel) Z (Or.inl Z) (.inr Z)) (λ_ _ _ _=>(qo zF (qv 0) (zy (v:= .int 16) Z T.g_DIGITS #[0])))) qb))))))))
  refine#[Fc,λY O=>#[Y,(4),32,qc,⋯,⋯,Ff,λl hl=>?_]]
  have s1:=(Fp.upd (o:= .lst [V.int 0]) O)
  have s2:=s1.trans (Fp.upd (o:= .lst (List.replicate (4:Int).toNat [V.int 0]).flatten) hl)
  have N:H l=none:=ZB hl s1
  refine#[0,z,Z,hz,λD H1 s3 c g=>?_]
  have G:=s3 _ _ (qc (H:=Ft H Y (.lst [V.int 0])) (a:=l) (o:= .lst (List.replicate (4:Int).toNat [V.int 0]).flatten))
  have R:D≠l:=λy=>by rw[y,qc]at c;cases c
  generalize hds:Q5 z.cps.toList=ds at g q
  have a1:ds.length<=16:=by rw[<- hds,iZ];have:=hz.2.2;omega
  refine#[D,Z,#[_,Fw.of g],kq (K:=K) (a:=D) (xs:=ds.map V.int) (λi σ d=>∃(M U:Μ),σ=[↑(.ref a),↑(.ref b),↑(.str z),↑(.ref l),M,U]/\d l=↑(.lst ((ZJ ds i).map V.int))/\d D=↑(.lst (ds.map V.int))/\Fp H d)
   #[none,none,Z,G,g,s2.trans s3] (λi σ d _ ⟨_,_,_,_,hd,_⟩=>Fw.of hd) ?_ ?_]
  ·rintro i x σ d pp S ⟨M,U,rfl,u,n,m⟩ I
   let#[dg,rfl,r]:=QC S;have hi:i<ds.length:=(Jp.mp r).1
   have eg:ds.getD i 0=dg:=by rw[JE,r];rfl
   have j:=Fp.upd (o:= .tup [.int i,.int dg]) I
   have B:=j _ _ u;have J:i%4<(ZJ ds i).length:=Nat.mod_lt i ⋯
   have e4:(i:Int)%4=((i%4:Nat):Int):=by omega
   exists pp,0,FC.of qc,9
   exists 13,(by decide:(0:Int)<4),l,_,i%4,.int ((ZJ ds i).getD (i%4) 0),Z,(by show V.int ((i:Int)%4)=_;rw[e4]),B,?_,11,l,15,i%4,8,B,hV e4 (by rw[Jd];exact J),5,?_,?_
   ·rw[iA J,JE,Jg J];rfl
   ·rw[qc,bB,<- eg,tT]
   ·rw[qi R];exact j _ _ n
   ·exact Zx (m.trans j) N
  ·rintro σ d ⟨M,U,rfl,u,n,m⟩
   rw[Jd]at u;refine#[4,l,Z,#[_,Fw.of u],Qj (xs:=(ZJ ds ds.length).map V.int) (Ff) (λi ys F=>ys=((a6 ds).take i).map V.int/\F=d) #[by simp,Z] (λi ys F ⟨_,e⟩=>by rw[e];exact Fw.of u) ?_ ?_]
   ·rintro i ys F x S _ ⟨rfl,rfl⟩
    let#[y,rfl,hy]:=QC S;refine#[11,(by decide:(0:Int)<16),?_,Z]
    have:(a6 ds)[i]? =↑(y%16):=by unfold a6;rw[Jk,hy];rfl
    rw[J8,this];simp
   ·rintro ys F a0 ⟨rfl,rfl⟩ p hp
    rw[show(a6 ds).take ((ZJ ds ds.length).map V.int).length=a6 ds from Z]
    have C:=Fp.upd (o:= .lst ((a6 ds).map V.int)) hp
    exact#[a,b,p,t,ks,a6 ds,Z,(ha.same m).same C,(hb.same m).same C,.lst qc,lt,by rw[lD];decide,by rw[lD];decide,λp' H' s' W L=>q p' H' ((m.trans C).trans s') (ZB W (m.trans C)) L]
theorem gT(a:At K mg "count_digits" ZD ["count"])(T:F3 K mg tk):Df P w K mg base "count_digits" ["count"] 1 BL:=by
 refine a.dq gn λf _ A _ s H g Q E e h=>?_
 ·let#[c,rfl,q]:=h
  exists _,(qg (qp (qy (qd (qo zF (qv 0) (zy (v:= .int 16) Z T.g_DIGITS #[0])) (qd (qo zF (qo ZE (qv 0) (zy (v:= .int 16) Z T.g_DIGITS #[0])) (zy (v:= .int 16) Z T.g_DIGITS #[0])) (qd (qo ZE (qv 0) qf) qb))))))
  exact#[11,(by decide:(0:Int)<16),11,#[⋯,⋯],7,(by decide:(0:Int)<16),11,#[⋯,⋯],Fe,λp d=>q p _ (Fp.upd d) qc]
theorem oj{c d:Int}(e:0<=c)(h1:c<4096)(hd:aL d):∀z∈zK c d,0<=z/\z<=1000000:=λz a=>by
 have:=fk e h1 hd z (C0 _ a)
 exact#[this.1,Int.le_trans (Int.le_of_lt this.2) ⋯]
theorem mL(a:At K mg "press_of" bM ["table","key","name","age","count","deed"])(T:F3 K mg tk)(O:Df P w K mg base "count_digits" ["count"] 1 BL)(W:Df P w K mg base "key_of" W3 2 (db K))(S:Df P w K mg base "coded" X2 1 (cW K)):Df P w K mg base "press_of" W1 3 (nI K):=by
 refine a.dq GF λf _ A _ s H vs Q E n h=>?_
 ·let#[a,b,z,age,c,d,t,G,rfl,M,R,hz,lt,c0,c1,hd,q]:=h
  exists _,(qe (qx (i:=6) GF.nd Z (Or.inl Z) (qo Zh (ql O n.mo (qd (qv 4) qb)) (qy (qd (qv 5) qb))))
   (qe (qx (i:=7) GF.nd Z (Or.inl Z) (qo Zh (qv 6) (qy (qd (qo zF (qr (jo Z) T.b_sum PyProof.Rows.boot_sum (qd (qv 6) qb)) (zy (v:= .int 16) Z T.g_DIGITS #[0])) qb))))
   (qg (qp (qy (qd (qv 2) (qd (qv 3) (qd (ql S n.mo (qd (qv 0) (qd (ql W n.mo (qd (qv 0) (qd (qv 1) (qd (qv 2) qb)))) (qd (qv 7) qb)))) qb))))))))
  refine#[0,c,Z,λp1 H1 s1 r=>?_]
  refine#[0,Fc,λp2 m=>?_]
  have N:=Fp.upd (o:= .tup [V.int d]) m
  refine#[p1,p2,7,N _ _ r,qc,Ff,λl H3 U u=>?_]
  have e:H3 l=↑(.tup ((zK c d).map V.int)):=u
  have S3:=(s1.trans N).trans U;refine#[1,l,zK c d,Z,.tup e,by show 4<=1000;decide,oj c0 c1 hd,7,(by decide:(0:Int)<16),Fc,λp4 D=>?_]
  have L:=Fp.upd (o:= .tup [V.int ((zK c d).sum%16)]) D
  refine#[l,p4,7,L _ _ e,qc,Fg,λF H5 Y B=>?_]
  have g:H5 F=↑(.tup ((Z0 c d).map V.int)):=B
  have j:=(S3.trans L).trans Y;refine#[48,a,b,z,t,G,Z,M.same j,R.same j,hz,lt,λpk H6 C _ x=>?_]
  refine#[0,a,pk,F,t,aS t G z,Z0 c d,Z,(M.same j).same C,.tup x,.tup (C _ _ g),lt,by rw[bv];decide,by rw[bv];decide,λJ H7 X _ y=>?_]
  refine#[Fe,λp hp=>?_]
  have I:=Fp.upd (o:= .tup [V.str z,.int age,.ref J]) hp
  exact q p J _ (((j.trans C).trans X).trans I) qc (I _ _ y)
theorem jB(a:At K mg "read_press" ao ["table","key","press"])(T:F3 K mg tk)(R:Df P w K mg base "key_of" W3 2 (db K))(S:Df P w K mg base "decoded" X2 2 (jh K)):Df P w K mg base "read_press" W9 3 (jX K):=by
 refine a.dq FF λf _ A _ s H vs Q E C h=>?_
 ·let#[a,b,U,N,z,age,t,l,ds,rfl,F,I,u,r,hz,pm,J,n,q]:=h
  exists _,(qe (zj (qv 2) (ZK Z (qm (qh (i:=3) FF.nd Z (Or.inl Z)) (qm (qh (i:=4) FF.nd Z (Or.inl Z)) (qm (qh (i:=5) FF.nd Z (Or.inl Z)) qU)))))
   (qe (zj (ql S C.mo (qd (qv 0) (qd (ql R C.mo (qd (qv 0) (qd (qv 1) (qd (qv 3) qb)))) (qd (qv 5) qb)))) (Qf Z (qm (qh (i:=6) FF.nd Z (Or.inl Z)) (qm (qh (i:=7) FF.nd Z (Or.inl Z)) (qm (qh (i:=8) FF.nd Z (Or.inl Z)) (qm (qh (i:=9) FF.nd Z (Or.inl Z)) (qm (qh (i:=10) FF.nd Z (Or.inl Z)) qU)))))))
   (qe (qK (qw cS (qv 10) (qo zF (qo qH (qo qH (qo qH (qv 6) (qv 7)) (qv 8)) (qv 9)) (zy (v:= .int 16) Z T.g_DIGITS #[0])) (qu _)) (qg (qp zc)) qB)
   (qg (qp (qy (qd (qo qH (qo qH (qv 6) (qo QY (qv 7) (zy (v:= .int 16) Z T.g_DIGITS #[0]))) (qo QY (qv 8) qf)) (qd (qv 9) qb))))))))
  exists 0,U,0,u,6
  refine#[10,a,b,z,t,l,Z,F,I,hz,hW pm,λW H1 B _ o=>?_]
  refine#[0,a,W,N,t,aS t l z,ds,Z,F.same B,.tup o,r.same B,pm,n,by omega,by omega,λX D M _ g=>?_]
  have G:∀x H',Fp D H'->cG H' x (gA (Q9 (zC t) (aS t l z) ds))->Q x H':=λx H' s' ht=>q x H' ((B.trans M).trans s') ht
  have O:(Q9 (zC t) (aS t l z) ds).length=5:=by rw[fM,J]
  let#[lo,mi,hi,d,j,L]:=xm O;rw[L]at g G;exists X,0,FC.of g,12
  exists 27,(by decide:(0:Int)<16),14
  have m:∀x H',Fp D H'->cG H' x (if j=(lo+mi+hi+d)%16 then ↑(lo+mi*16+hi*256,d)else none)->Q x H':=G
  by_cases e:j=(lo+mi+hi+d)%16
  ·rw[Jb e]at m
   refine cT (c:=V.int j=V.int ((lo+mi+hi+d)%16)) (by rw[e]) ?_
   refine#[13,.inr #[⋯,⋯],31,.inr #[⋯,⋯],23,Fd,λp Y=>?_]
   exact m _ _ (Fp.upd Y) #[p,Z,qc]
  ·rw[Jc e]at m
   refine qO (λ_=>m _ _ (Fp.refl _) Z) (λy=>absurd ?_ y)
   have:¬V.int j=V.int ((lo+mi+hi+d)%16):=λw'=>e (by injection w')
   show(! decide (V.int j=V.int ((lo+mi+hi+d)%16)))=true
   rw[Jj this];rfl
end
section
variable{P:Ξ}{w:Ω}{K:ι}{mg:Fn}{base:Ψ}{tk:Nat->Tok}
theorem eM(a:At K mg "_law_same" bz ["_law_found","_law_due"])(T:F3 K mg tk):∀n:Nat,n<=8->Df P w K mg base "_law_same" ["_law_found","_law_due"] (n+1) (AS n)
 |0,_=>by
  refine a.dq eK λf _ A _ s H I Q E F h=>?_
  ·let#[x,y,rfl,e,q]:=h
   exists _,(qe (qK (zE (qr i3 T.b_isinstance JP (qd (qv 1) (qd (qy (qd (qZ (v:= .ty "list") Z T.b_list Ds Z) (qd (qZ (v:= .ty "tuple") Z T.b_tuple JS Z) qb))) qb)))) ZL qB)
   (qe (qK (QW.pt (Q7 (qw Zn (qv 1) zc (qu _)) (QZ (zE (qr q8 T.b_isinstance JP (qd (qv 1) (qd (qZ (v:= .ty "str") Z T.b_str DH Z) qb))))))) (qg (qp (Qb (zx za (qv 0) (qv 1) (qu _)) (Qu (zx za (qr q8 T.b_isinstance JP (qd (qv 0) (qd (qZ (v:= .ty "str") Z T.b_str DH Z) qb))) (qr q8 T.b_isinstance JP (qd (qv 1) (qd (qZ (v:= .ty "str") Z T.b_str DH Z) qb))) (qu _)))))) qB)
   (qg (qp (Qb (qr q8 T.b_isinstance JP (qd (qv 0) (qd (qZ (v:= .ty "int") Z T.b_int Ec Z) qb))) (Qb (j4 (qr q8 T.b_isinstance JP (qd (qv 0) (qd (qZ (v:= .ty "bool") Z T.b_bool EI Z) qb)))) (Qu (zx za (qv 0) (qv 1) (qu _)))))))))
   cases e with
   |int _ i=>
    refine#[0,Fd,λp g=>#[_,p,["list","tuple"],"int",Z,qc,.int i,by simp,0,?_]]
    rw[show(["list","tuple"].any (zD "int"))=false from by decide]
    refine zg #[3,?_]
    refine qO (λz=>nomatch (Jw z)) (λ_=>#[16,"str","int",Z,.int i,by simp,0,?_])
    rw[show zD "int" "str"=false from by decide]
    refine zg #[16,"int","int",Z,.int i,by simp,0,?_]
    rw[show zD "int" "int"=true from by decide]
    refine zQ #[16,"bool","int",Z,.int i,by simp,0,?_]
    rw[show zD "int" "bool"=false from by decide]
    refine#[0,zQ #[53,?_]]
    rw[Jh Z];exact q _ (Fp.upd g)
   |str _ z=>
    refine#[0,Fd,λp g=>#[_,p,["list","tuple"],"str",Z,qc,.str z,by simp,0,?_]]
    rw[show(["list","tuple"].any (zD "str"))=false from by decide]
    refine zg #[3,?_]
    refine qO (λz=>nomatch (Jw z)) (λ_=>#[16,"str","str",Z,.str z,by simp,0,?_])
    rw[show zD "str" "str"=true from by decide]
    refine zQ #[19,?_]
    refine qO (λ_=>?_) (λy=>absurd (Jh Z) y)
    exists 16,"str","str",Z,.str z,by simp,16,"str","str",Z,.str z,by simp,Z
    rw[Jh Z];exact q _ (Fp.upd g)
   |non _=>
    refine#[0,Fd,λp g=>#[_,p,["list","tuple"],"NoneType",Z,qc,.non,by simp,0,?_]]
    rw[show(["list","tuple"].any (zD "NoneType"))=false from by decide]
    refine zg #[3,?_]
    refine qO (λ_=>#[19,?_]) (λz=>absurd (Jh Z) z)
    refine qO (λ_=>?_) (λy=>absurd (Jh Z) y)
    exists 16,"str","NoneType",Z,.non,by simp,16,"str","NoneType",Z,.non,by simp,Z
    rw[Jh Z];exact q _ (Fp.upd g)
 |n+1,hn=>by
  have L:=eM a T n (by omega)
  refine a.dq eK λf _ A _ s H I Q E F h=>?_
  ·let#[x,y,rfl,e,q]:=h
   exists _,(qe (qK (zE (qr i3 T.b_isinstance JP (qd (qv 1) (qd (qy (qd (qZ (v:= .ty "list") Z T.b_list Ds Z) (qd (qZ (v:= .ty "tuple") Z T.b_tuple JS Z) qb))) qb)))) (qe (qK (QW.pt (Q7 (qw cS (qr q8 T.b_isinstance JP (qd (qv 0) (qd (qZ (v:= .ty "list") Z T.b_list Ds Z) qb))) (qr q8 T.b_isinstance JP (qd (qv 1) (qd (qZ (v:= .ty "list") Z T.b_list Ds Z) qb))) (qu _)) (QZ (qw cS (qr q8 T.b_isinstance JP (qd (qv 0) (qd (qZ (v:= .ty "tuple") Z T.b_tuple JS Z) qb))) (qr q8 T.b_isinstance JP (qd (qv 1) (qd (qZ (v:= .ty "tuple") Z T.b_tuple JS Z) qb))) (qu _))))) (qg (qp bW)) qB)
   (qg (qp (Qb (zx za (qr qL T.b_len JM (qd (qv 0) qb)) (qr qL T.b_len JM (qd (qv 1) qb)) (qu _)) (Qu (qr (aJ Z) T.b_all Ew (qd (zv (own:=["_law_one","_law_other"]) (fr:=[]) (js:=[]) Z (Aa Z T.b_zip (qd (qv 0) (qd (qv 1) qb))) Z (λ_ _ h=>nomatch h) Z (iy Z nofun nofun nofun) (λ_ _ _ _=>om (K:=K) Z 2 Z (qm (qh (i:=0) (show List.Nodup (["_law_one","_law_other"]:Α)from by decide +kernel) Z (Or.inl Z) (.inr Z)) (qm (qh (i:=1) (show List.Nodup (["_law_one","_law_other"]:Α)from by decide +kernel) Z (Or.inl Z) (.inr Z)) qU))) (λ_ _ _ _=>(ql L F.mo (qd (qv 0) (qd (qv 1) qb))))) qb))))))) qB)
   (qe (qK (QW.pt (Q7 (qw Zn (qv 1) zc (qu _)) (QZ (zE (qr q8 T.b_isinstance JP (qd (qv 1) (qd (qZ (v:= .ty "str") Z T.b_str DH Z) qb))))))) (qg (qp (Qb (zx za (qv 0) (qv 1) (qu _)) (Qu (zx za (qr q8 T.b_isinstance JP (qd (qv 0) (qd (qZ (v:= .ty "str") Z T.b_str DH Z) qb))) (qr q8 T.b_isinstance JP (qd (qv 1) (qd (qZ (v:= .ty "str") Z T.b_str DH Z) qb))) (qu _)))))) qB)
   (qg (qp (Qb (qr q8 T.b_isinstance JP (qd (qv 0) (qd (qZ (v:= .ty "int") Z T.b_int Ec Z) qb))) (Qb (j4 (qr q8 T.b_isinstance JP (qd (qv 0) (qd (qZ (v:= .ty "bool") Z T.b_bool EI Z) qb)))) (Qu (zx za (qv 0) (qv 1) (qu _)))))))))
   cases e with
   |int _ i=>
    refine#[0,Fd,λp g=>#[_,p,["list","tuple"],"int",Z,qc,.int i,by simp,0,?_]]
    rw[show(["list","tuple"].any (zD "int"))=false from by decide]
    refine zg #[3,?_]
    refine qO (λz=>nomatch (Jw z)) (λ_=>#[16,"str","int",Z,.int i,by simp,0,?_])
    rw[show zD "int" "str"=false from by decide]
    refine zg #[16,"int","int",Z,.int i,by simp,0,?_]
    rw[show zD "int" "int"=true from by decide]
    refine zQ #[16,"bool","int",Z,.int i,by simp,0,?_]
    rw[show zD "int" "bool"=false from by decide]
    refine#[0,zQ #[53,?_]]
    rw[Jh Z];exact q _ (Fp.upd g)
   |str _ z=>
    refine#[0,Fd,λp g=>#[_,p,["list","tuple"],"str",Z,qc,.str z,by simp,0,?_]]
    rw[show(["list","tuple"].any (zD "str"))=false from by decide]
    refine zg #[3,?_]
    refine qO (λz=>nomatch (Jw z)) (λ_=>#[16,"str","str",Z,.str z,by simp,0,?_])
    rw[show zD "str" "str"=true from by decide]
    refine zQ #[19,?_]
    refine qO (λ_=>?_) (λy=>absurd (Jh Z) y)
    exists 16,"str","str",Z,.str z,by simp,16,"str","str",Z,.str z,by simp,Z
    rw[Jh Z];exact q _ (Fp.upd g)
   |non _=>
    refine#[0,Fd,λp g=>#[_,p,["list","tuple"],"NoneType",Z,qc,.non,by simp,0,?_]]
    rw[show(["list","tuple"].any (zD "NoneType"))=false from by decide]
    refine zg #[3,?_]
    refine qO (λ_=>#[19,?_]) (λz=>absurd (Jh Z) z)
    refine qO (λ_=>?_) (λy=>absurd (Jh Z) y)
    exists 16,"str","NoneType",Z,.non,by simp,16,"str","NoneType",Z,.non,by simp,Z
    rw[Jh Z];exact q _ (Fp.upd g)
   | @tup _ c d xs ys h1 h2 hl hz hi=>
    refine#[0,Fd,λp g=>#[_,p,["list","tuple"],"tuple",Z,qc,.tup (Rd.same (Fp.upd g) h2),by simp,0,?_]]
    rw[show(["list","tuple"].any (zD "tuple"))=true from by decide]
    have D:Fp H _:=Fp.upd (o:= .tup (["list","tuple"].map V.ty)) g
    have t:=Rd.same D h1;have r:=Rd.same D h2;refine zQ #[16,"list","tuple",Z,.tup t,by simp,16,"list","tuple",Z,.tup r,by simp,14,?_]
    refine cT Z #[16,"tuple","tuple",Z,.tup t,by simp,16,"tuple","tuple",Z,.tup r,by simp,14,?_]
    refine cT Z ?_
    exists 0,c,0,.inr (.inl t),0,d,0,.inr (.inl r),14
    refine qO (λ_=>?_) (λz=>absurd (Jh (by rw[hl])) z)
    refine#[1,c,d,xs,ys,Z,t,r,ui hl hz (λi m l=>m=(List.replicate i true).map V.bl/\Fp H l) #[Z,D] (λi m l ⟨_,j⟩=>#[Rd.same j h1,Rd.same j h2]) ?_ ?_]
    ·rintro i m l R x y N J C ⟨rfl,j⟩ B
     have G:=j.trans (Fp.upd (o:= .tup [x,y]) B)
     refine#[1,x,y,Z,(hi i x y N J).same G,λO M=>#[?_,G.trans M]]
     rw[List.replicate_succ',Jy];rfl
    ·rintro m l C ⟨rfl,j⟩ p2 u
     exists p2,0,Fw.of qc
     rw[show(List.replicate xs.length true).all id=true from by simp]
     exact q _ (j.trans (Fp.upd u))
end
section
variable{P:Ξ}{w:Ω}{K:ι}{mg:Fn}{base:Ψ}{tk:Nat->Tok}
theorem jK(a:At K mg "_law_answer" ai ["_law_world_here","_law_known","_law_spec"])(T:F3 K mg tk):Df P w K mg base "_law_answer" W0 1 (fQ K):=by
 refine a.dq FL λf _ A _ s H vs Q E C h=>?_
 ·let#[wa,kd,sp,D,ns,kn,#[nm,age,c,d,m],rfl,wk,L,X,hl,b6,hs,u,q]:=h
  exists _,(qe (zj (qv 2) (Qf Z (qm (qh (i:=3) FL.nd Z (Or.inl Z)) (qm (qh (i:=4) FL.nd Z (Or.inl Z)) (qm (qh (i:=5) FL.nd Z (Or.inl Z)) (qm (qh (i:=6) FL.nd Z (Or.inl Z)) (qm (qh (i:=7) FL.nd Z (Or.inl Z)) qU)))))))
   (qe (qK (pS C (qv 3) (qv 1)) (qg (qp (qy (qd qk (qd qk qb))))) qB)
   (qe (qK (QW.pt (Q7 (qw dj (qv 7) qf (qu _)) (Q7 (qw cZ (qv 4) (qA C (qv 0) qk) (qu _)) (QZ (qw cZ (qv 4) (qF qG (qA C (qv 1) (qv 3)) qf) (qu _)))))) (qg (qp (qy (qd qk (qd qk qb))))) qB)
   (qe (qK (qw za (qv 7) qf (qu _)) (qg (qp (qy (qd qk (qd qk qb))))) qB)
   (qe (qx (i:=8) FL.nd Z (Or.inl Z) (qF qG (qA C (qv 1) (qv 3)) qf))
   (qe (qK (qw ZY (qv 5) (qv 8) (qu _)) (qg (qp (qy (qd qk (qd qk qb))))) qB)
   (qe (qK (qw dj (qv 5) (qo qH (qv 8) (qA C (qv 0) qk)) (qu _)) (qg (qp (qy (qd qk (qd qk qb))))) qB)
   (qe (qK (QW.pt (Zr (qw dj (qv 5) (qo qH (qv 8) (qA C (qv 0) qk)) (qu _)) (Zg (qw (Bu C) (qF qG (qA C (qv 1) (qv 3)) qf) (qy (qd (qv 4) (qd (qo zZ (qv 5) qf) qb))) (qu _))))) (qe (Qp C (qv 1) (qv 3) (qT (qd (qF qG (qA C (qv 1) (qv 3)) qf) (qd (qv 8) (qd (qy (qd (qv 4) (qd (qv 5) qb))) qb)))))
   (qg (qp (qy (qd qk (qd qk qb)))))) qB)
   (qe (Qp C (qv 1) (qv 3) (qT (qd (qv 4) (qd (qv 5) (qd zc qb)))))
   (qg (qp (qy (qd qk (qd (qv 3) (qd (qv 6) qb)))))))))))))))
  have a2:GR {D with kn:=kn}:=by
   let#[_,_,_,pm,nd]:=X
   exact#[L.ok.tp,L.ok.l0,L.ok.kl,hl,nd]
  have B:qV {D with kn:=kn} (zw D #[nm,age,c,d,m])=q9 {D with kn:=kn} nm (zu D #[nm,age,c,d,m]) (if m=0 then ↑(c,d)else if m=1 then none else Qd D.t (zJ D (zu D #[nm,age,c,d,m])) nm (Qo D.t (aS D.t (zJ D age) nm) (Qw #[nm,age,c,d,m]))):=vx (D:={D with kn:=kn}) (s:=#[nm,age,c,d,m]) #[u.nm,u.a0,u.a1,u.c0,u.c1,u.dg,u.f0,u.f1] a2 L.k1
  have f0:0<=m:=u.f0
  have f3:m<=3:=u.f1
  have a0:0<=age:=u.a0
  have a1:age<D.kss.length:=u.a1
  exists 0,sp,0,FC.of hs,12
  have p:∀(z:Str),qV {D with kn:=kn} (zw D #[nm,age,c,d,m])=([.str "held",.str z],kn)->∀l,H l=none->Q (.ref l) (Ft H l (.tup [.str "held",.str z])):=λz eJ l j=>by
   rw[eJ]at q;exact q l _ (Fp.upd j).mv qc (FR.same X (Fp.upd j))
  rcases X.get nm with⟨N,g⟩|⟨e,x,N,g,v,hx,hw⟩
  ·refine#[1,kd,0,g,0,zQ ?_]
   refine#[Fd,λl j=>p _ ?_ l j]
   rw[B];unfold q9;simp only;rw[N]
  ·refine#[1,kd,0,g,0,zg ?_]
   have a3:∀r,zm {D with kn:=kn} e (zu D #[nm,age,c,d,m])=false->q9 {D with kn:=kn} nm (zu D #[nm,age,c,d,m]) r=([.str "held",.str "age"],kn):=λr n=>by
    unfold q9;simp only;rw[N];simp only;rw[n];rfl
   have M:m<=1->zu D #[nm,age,c,d,m]=age:=λh=>by unfold zu;rw[Jb h]
   refine nD (λbb H'=>H'=H/\bb=(decide (m>1)||(decide (age<D.least)||decide (age<e.age)))) (λQ' Y=>?_) (λH' ⟨eH,n⟩=>?_) (λH' ⟨eH,n⟩=>?_)
   ·exists 22
    refine qO (λy=>Y _ _ #[Z,by rw[y];rfl]) (λy=>?_)
    exists 1,wa.m,0,wk.g_shut,23
    refine qO (λz=>Y _ _ #[Z,by rw[Dq.mpr y,z];rfl]) (λz=>?_)
    exact#[4,kd,0,g,x,2,Fw.of hx,28,Y _ _ #[Z,by rw[Dq.mpr y,Dq.mpr z];rfl]]
   ·subst eH
    refine#[Fd,λl j=>p _ ?_ l j]
    rw[B];refine a3 _ ?_
    by_cases hf:m>1
    ·unfold zm
     rw[show zT {D with kn:=kn} (zu D #[nm,age,c,d,m])=zT D (zu D #[nm,age,c,d,m])from Z,yo u hf L.ok.kl L.k1 L.ok.l0];rfl
    ·rw[M (by omega)]
     rw[Jj hf,Bool.false_or]at n;unfold zm zT;rcases Bool.or_eq_true_iff.mp n.symm with h|h
     ·rw[Jj (show¬D.least<=age by have:=Jw h;omega)];rfl
     ·rw[Jj (show¬e.age<=age by have:=Jw h;omega),Bool.and_false]
   ·subst eH
    have n:=n.symm;rw[Bool.or_eq_false_iff,Bool.or_eq_false_iff]at n;have g1:=of_decide_eq_false n.1;have g2:=of_decide_eq_false n.2.1;have g3:=of_decide_eq_false n.2.2;have eb:=M (by omega)
    rw[eb]at B;have tb:zm {D with kn:=kn} e age=true:=by unfold zm zT;rw[Jh (show D.least<=age by omega),Jh (show age<D.kss.length from a1),Jh (by omega:e.age<=age)];rfl
    exists 3
    by_cases U:m=1
    ·refine zr (Jh (by rw[U])) ?_
     refine#[Fd,λl j=>p _ ?_ l j]
     rw[B,Jc (show¬m=0 by omega),Jb U];unfold q9;simp only;rw[N];simp only;rw[Jb tb]
    ·have b1:m=0:=by omega
     refine zI (Jj (by intro z;injection z with z;exact U z)) ?_
     rw[Jb b1]at B;have t:qV {D with kn:=kn} (zw D #[nm,age,c,d,m])=if(zh D.near D.far e age c).1="near" then([.str "open",.str nm,.int d],qS kn nm (zh D.near D.far e age c).2)else([.str "held",.str (zh D.near D.far e age c).1],qS kn nm (zh D.near D.far e age c).2):=by rw[B];unfold q9;simp only;rw[N];simp only;rw[Jb tb]
     have G:=tz a2.nd N;have a5:¬(("old":Str)="near"):=by decide +kernel
     have b0:¬(("far":Str)="near"):=by decide +kernel
     have a4:¬(("beyond":Str)="near"):=by decide +kernel
     have nf:=L.nf;unfold zh at t;exists 1,kd,0,g,x,2,Fw.of hx,Z
     exists 26
     by_cases h1:c<=e.last
     ·rw[Jb h1,Jc (show¬(("old",e):Str×Kb).1="near" from a5),G]at t
      exact zr (Jh h1) #[Fd,λl j=>p _ t l j]
     ·rw[Jc h1]at t
      refine zI (Jj h1) ?_
      exists 4,wa.m,0,wk.g_far,33
      by_cases h2:c>e.last+D.far
      ·rw[Jc (show¬c<=e.last+D.near by omega),Jc (show¬c<=e.last+D.far by omega),Jc (show¬(("beyond",e):Str×Kb).1="near" from a4),G]at t
       exact zr (Jh h2) #[Fd,λl j=>p _ t l j]
      ·refine zI (Jj h2) ?_
       have R:∀H1,Fp H' H1->qV {D with kn:=kn} (zw D #[nm,age,c,d,m])=([.str "open",.str nm,.int d],qS kn nm #[age,c,none])->∀I,H1 I=none->∃J,GL (Ft H1 I (.lst [.int age,.int c,.non])) kd (.str nm) (.ref I) J/\∀l,J l=none->Q (.ref l) (Ft J l (.tup [.str "open",.str nm,.int d])):=λH1 O eJ I F=>by
        have u2:=Fp.upd (o:= .lst [.int age,.int c,.non]) F
        let#[J,dp,m3,W]:=FR.put (FR.same (FR.same X O) u2) nm (a:=I) (e:=#[age,c,none]) (by omega) #[.non,qc,Z]
        refine#[J,dp,λl j=>?_]
        rw[eJ]at q;exact q l _ (((O.trans u2).mv.trans m3).trans (Fp.upd j).mv) qc (FR.same W (Fp.upd j))
       refine nD (λbb Hx=>Fp H' Hx/\bb=(decide (c>e.last+D.near)&& ! decide (e.wt=↑(age,c-1)))) (λQ' Y=>?_) (λH1 ⟨O,n⟩=>?_) (λH1 ⟨O,n⟩=>?_)
       ·exists 4,wa.m,0,wk.g_near,33
        refine qO (λy=>?_) (λy=>Y _ _ #[Fp.refl _,by rw[Dq.mpr y];rfl])
        refine#[1,kd,0,g,x,2,Fw.of hx,54,Fd,λt0 b3=>?_]
        have u0:=Fp.upd (o:= .tup [.int age,.int (c-1)]) b3
        have b5:=hw.mv (S:=[]) u0.mv (λc h=>nomatch h)
        exact#[e.wt,t0,age,c-1,b5,Z,.inl qc,0,Y _ _ #[u0,by rw[y];rfl]]
       ·have n:=n.symm
        rw[Bool.and_eq_true_iff]at n;have h3:=Jw n.1;have h4:¬e.wt=↑(age,c-1):=λz=>by have:=n.2;rw[Jh z]at this;cases this
        rw[Jc (show¬c<=e.last+D.near by omega),Jb (show c<=e.last+D.far by omega),Jc h4,Jc (show¬(("far",_):Str×Kb).1="near" from b0)]at t
        let#[e',x',a8,g',v',b4,b7]:=((FR.same X O).get nm).resolve_left (λz=>by rw[N]at z;cases z.1)
        rw[N]at a8;cases a8
        refine#[1,kd,0,g',x',2,Fw.of b4,Z,_,Z,_,Z,_,Z,Fd,λt1 b2=>?_]
        have u1:=Fp.upd (o:= .tup [.int age,.int c]) b2
        refine#[Fe,λI F=>?_]
        have u2:=Fp.upd (o:= .lst [.int e.age,.int e.last,.ref t1]) F
        let#[J,dp,m3,W]:=FR.put (FR.same (FR.same (FR.same X O) u1) u2) nm (a:=I) (e:=#[e.age,e.last,↑(age,c)]) (by omega) #[.ref t1,qc,t1,Z,u2 _ _ qc]
        exists 1,kd,J,Z,dp
        refine#[Fd,λl j=>?_]
        rw[t]at q;exact q l _ (((O.trans (u1.trans u2)).mv.trans m3).trans (Fp.upd j).mv) qc (FR.same W (Fp.upd j))
       ·have eJ:qV {D with kn:=kn} (zw D #[nm,age,c,d,m])=([.str "open",.str nm,.int d],qS kn nm #[age,c,none]):=by
         have n:=n.symm;rw[Bool.and_eq_false_iff]at n;rcases n with h|h
         ·have h:=of_decide_eq_false h
          rw[Jb (show c<=e.last+D.near by omega),Jb Z]at t
          exact t
         ·have h:e.wt=↑(age,c-1):=Jw (by cases z:decide (e.wt=↑(age,c-1))with|true=>rfl|false=>rw[z]at h;cases h)
          by_cases h3:c<=e.last+D.near
          ·rw[Jb h3,Jb Z]at t;exact t
          ·rw[Jc h3,Jb (show c<=e.last+D.far by omega),Jb h,Jb Z]at t;exact t
        refine#[1,Fe,λI F=>?_]
        let#[J,dp,q3]:=R H1 O eJ I F
        exact#[1,kd,J,Z,dp,1,Fe,λl j=>q3 l j]
end
section
variable{P:Ξ}{w:Ω}{K:ι}{mg:Fn}{base:Ψ}{tk:Nat->Tok}
theorem my(a:At K mg "_law_copy" bX ["_law_known"])(T:F3 K mg tk):Df P w K mg base "_law_copy" ["_law_known"] 1 lA:=by
 refine a.dq mF λf _ A _ s H vs Q E hr h=>?_
 ·let#[kd,kn,rfl,b,hl,q]:=h
  let#[m,F,a4,G,a2]:=id b;exists _,(qg (qp (qN (bu Z) T.b_dict PyProof.Rows.boot_dict (qd (xl (zv (own:=["_law_name"]) (fr:=["_law_known"]) (js:=[0]) Z (xn (qv 0)) Z (Z5 Z) Z (aq Z nofun nofun nofun Z Z Z) (λ_ _ _ _=>qh (i:=0) (show List.Nodup (["_law_name","_law_known"]:Α)from by decide +kernel) Z (Or.inl Z) (.inr Z)) (λ_ _ _ _=>(qy (qd (qv 0) (qd (qN (jC (K:=K) Z) T.b_list Ds (qd (qA hr (qv 1) (qv 0)) qb)) qb)))))) qb))))
  refine#[0,kd,0,F,λob=>?_]
  have b6:m.1.length<=60:=by rw[G.length_eq];exact hl
  have U:(m.1.map (·.1)).Nodup:=(G.map (·.1)).nodup_iff.mpr a2
  have b1:((zY m.1 m.2).map (·.1)).Nodup:=by
   unfold zY;rw[JW];exact List.Pairwise.map (l:=m.1) _ (λx y (h:x.1≠y.1) z=>h (by injection z)) (List.pairwise_map.mp U)
  refine rF (by unfold zY;rw[Jd,Jo];omega) (λi ys D=>Fp (Ft H kd (.frz ob (.dK (zY m.1 m.2)))) D/\∃n R:Ι,ys=n.map V.ref/\n.length=i/\R.length=i/\∀(j:Nat) (x l:Δ) (e:Str×Kb),n[j]? =↑x->R[j]? =↑l->m.1[j]? =↑e->D x=↑(.tup [.str e.1,.ref l])/\Gw D l e.2) #[Fp.refl _,[],[],39,λj x l e h=>by(cases h)] (λi ys D ⟨I,_⟩=>I _ _ qc) ?_ ?_
  ·rintro i ys D kv C a8 ⟨I,n,R,rfl,B,N,has⟩
   let#[e,he,rfl]:∃e,m.1[i]? =↑e/\kv=(Sum.inr e.1,V.ref (m.2 e.1)):=by
    unfold zY at C;rw[Jk]at C;cases z:m.1[i]? with
    |none=>rw[z]at C;cases C
    |some e=>rw[z]at C;cases C;exact#[e,8]
   have a3:=a4 e (G.mem_iff.mp (JG he));let#[v,hv,hw]:=Gw.same I (a3.mv (Mv.upd1 (o:= .frz ob (.dK (zY m.1 m.2)))) (NT.one F trivial) (qE (a3.ned F)))
   refine#[4,kd,0,.inl #[_,Sum.inr e.1,.inr #[ob,I _ _ qc],Z,(br i C b1).symm],5,.inl (Fw.of hv),λl M=>?_]
   have u5:=Fp.upd (o:= .lst [.int e.2.age,.int e.2.last,v]) M
   refine#[Fd,λt ht=>?_]
   have u6:=Fp.upd (o:= .tup [.str e.1,.ref l]) ht
   have S6:=u5.trans u6;refine#[I.trans S6,n++[t],R++[l],by simp,by simp [B],by simp [N],λj x l' e' hj O Y=>?_]
   by_cases b3:j<n.length
   ·rw[DM b3]at hj
    rw[DM (by omega)]at O
    let#[h1,h2]:=has j x l' e' hj O Y
    exact#[S6 _ _ h1,h2.same S6]
   ·have a0:=(Jp.mp hj).1
    rw[Jx]at a0;have b4:j=n.length:=by have:j<n.length+1:=a0;omega
    subst b4;rw[Dw (Je _),Nat.sub_self]at hj;rw[Dw (by omega),show n.length-R.length=0 by omega]at O
    rw[B,he]at Y;cases hj;cases O;cases Y
    exact#[qc,v,u6 _ _ qc,hw.mv (S:=[]) S6.mv (λc h=>nomatch h)]
  ·rintro ys D b5 ⟨I,n,R,rfl,B,N,has⟩ l M
   have J:=Fp.upd (o:= .lst (n.map V.ref)) M
   have b2:l≠kd:=(qt (I _ _ qc) M).symm
   exists kd,ob,_,J _ _ (I _ _ qc),(λo u z=>by have z':H kd=_:=z;rw[F]at z';cases z')
   have S5:=rn F (I.trans J);have b0:(zY m.1 m.2).length=m.1.length:=Jd _
   rw[b0]at B N;let#[g,hg]:=sE m.1 R U;have m5:Mv [kd] (Ft D l (.lst (n.map V.ref))) (Ft (Ft D l (.lst (n.map V.ref))) kd (.dK (zY m.1 m.2))):=Mv.upd1
   have X:=J _ _ (I _ _ (qc (H:=H) (a:=kd) (o:= .frz ob (.dK (zY m.1 m.2)))))
   have W:∀(i:Nat) (x:Δ) (e:Str×Kb),n[i]? =↑x->m.1[i]? =↑e->(Ft (Ft D l (.lst (n.map V.ref))) kd (.dK (zY m.1 m.2))) x=↑(.tup [.str e.1,.ref (g e.1)])/\Gw (Ft (Ft D l (.lst (n.map V.ref))) kd (.dK (zY m.1 m.2))) (g e.1) e.2:=λi x e e1 L=>by
    have hi:i<R.length:=by rw[N,<- B];exact(Jp.mp e1).1
    have e3:=Jg hi;let#[h1,h2]:=has i x _ e e1 e3 L;rw[hg i e _ L e3];let#[v,hv,hw]:=h2;exists m5 _ _ (qE (qC (J _ _ h1) X (by intro z;cases z))) (J _ _ h1),v,m5 _ _ (qE (qC (J _ _ hv) X (by intro z;cases z))) (J _ _ hv)
    cases hwt:e.2.wt with
    |none=>rw[hwt]at hw;exact hw
    |some c=>
     rw[hwt]at hw;let#[p,r,h]:=hw
     exact#[p,r,m5 _ _ (qE (qC (J _ _ h) X (by intro z;cases z))) (J _ _ h)]
   have a1:(Ft (Ft D l (.lst (n.map V.ref))) kd (.dK (zY m.1 m.2))) l=↑(.lst (n.map V.ref)):=by rw[qi b2];exact qc
   generalize Ft (Ft D l (.lst (n.map V.ref))) kd (.dK (zY m.1 m.2))=H5 at S5 W a1⊢
   refine#[l,n,zY m.1 g,Z,a1,by unfold zY;rw[B,Jd],λi x kv e1 L=>?_,λd hd=>?_]
   ·unfold zY at L
    rw[Jk]at L;cases z:m.1[i]? with
    |none=>rw[z]at L;cases L
    |some e=>rw[z]at L;cases L;exact(W i x e e1 z).1
   ·rw[vn U]
    have u6:=Fp.upd (o:= .dK (zY m.1 g)) hd
    refine q d _ (S5.trans u6) (ZB hd S5) #[(m.1,g),qc,λe he=>?_,G,a2]
    let#[i,hi]:=List.getElem?_of_mem (G.mem_iff.mpr he)
    have a5:i<n.length:=by rw[B];exact(Jp.mp hi).1
    exact((W i _ e (Jg a5) hi).2).same u6
end
section
variable{P:Ξ}{w:Ω}{K:ι}{mg:Fn}{base:Ψ}{tk:Nat->Tok}
theorem kR(a:At K mg "_law_press" aZ ["_law_world_here","_law_spec"])(T:F3 K mg tk)(xZ:Df P w K mg base "press_of" W1 3 (nI K))(dM:Df P w K mg base "key_of" W3 2 (db K))(dR:Df P w K mg base "coded" X2 1 (cW K)):Df P w K mg base "_law_press" X3 4 (aD K):=by
 refine a.dq FG λf _ A _ s H vs Q E r h=>?_
 ·let#[g,sp,D,ns,#[nm,age,c,d,e],rfl,u,tp,hs,n,q]:=h
  exists _,(qe (zj (qv 1) (Qf Z (qm (qh (i:=2) FG.nd Z (Or.inl Z)) (qm (qh (i:=3) FG.nd Z (Or.inl Z)) (qm (qh (i:=4) FG.nd Z (Or.inl Z)) (qm (qh (i:=5) FG.nd Z (Or.inl Z)) (qm (qh (i:=6) FG.nd Z (Or.inl Z)) qU)))))))
   (qe (qx (i:=7) FG.nd Z (Or.inl Z) (qF qG (qA r (qv 0) qk) (qv 3)))
   (qe (qK (qw za (qv 6) qf (qu _)) (qg (qp (ql xZ r.mo (qd (qA r (qv 0) qk) (qd (qv 7) (qd (qv 2) (qd (qv 3) (qd (qv 4) (qd (qv 5) qb))))))))) qB)
   (qe (qx (i:=8) FG.nd Z (Or.inl Z) (qT (qd (qo zF (qv 4) qf) (qd (qo zF (qo ZE (qv 4) qf) qf) (qd (qo ZE (qv 4) qf) (qd (qv 5) qb))))))
   (qe (zG (QB J3 CT CU zH (qv 8) (qd (qo zF (qo qH (qo qH (qr (jo Z) T.b_sum PyProof.Rows.boot_sum (qd (qv 8) qb)) qf) (qo QY (qo zZ (qv 6) qf) qf)) qf) qb)))
   (qe (qx (i:=9) FG.nd Z (Or.inl Z) (ql dR r.mo (qd (qA r (qv 0) qk) (qd (ql dM r.mo (qd (qA r (qv 0) qk) (qd (qv 7) (qd (qv 2) qb)))) (qd (qN qY T.b_tuple JS (qd (qv 8) qb)) qb)))))
   (qe (qx (i:=10) FG.nd Z (Or.inl Z) (qT (qd (jL gS qf) (qd (jL gS qf) (qd qf (qd (qo rR qf qf) qb))))))
   (qg (qp (qy (qd (qv 2) (qd (qF qG (qT (qd (qv 3) (qd (qo qH (qr qL T.b_len JM (qd (qA r (qv 0) qk) qb)) (qv 3)) (qd (qF qG (qv 10) (qo zF (qv 4) qf)) qb)))) (qo zZ (qv 6) qf)) (qd (qv 9) qb)))))))))))))
  have tl:=hW tp;have f0:0<=e:=n.f0
  have f3:e<=3:=n.f1
  have c0:0<=c:=n.c0
  have c1:c<4096:=n.c1
  have hn:Zp nm:=n.nm
  have hd:aL d:=n.dg
  exists 0,sp,0,FC.of hs,12
  let#[xs,Y,eh,M,B]:=u.ks.at n.a0 n.a1;have x:FC K H Y ((zJ D age).map V.int):=B.up
  exists 0,g.m,0,u.g_keys,0,g.ml,2,Fw.of eh,M
  exists 3
  by_cases F:e=0
  ·refine zr (Jh (by rw[F])) ?_
   refine#[0,g.m,0,u.g_table,21,g.mt,Y,nm,age,c,d,D.t,zJ D age,Z,.inr u.tb,.inr x,hn,tl,c0,c1,hd,λp C H' s' h1 h2=>q p H' s' ?_]
   unfold zw;rw[Jb F]
   exact#[C,h1,h2]
  ·refine zI (Jj (by intro z;injection z with z;exact F z)) ?_
   refine#[11,(by decide:(0:Int)<16),11,#[⋯,⋯],7,(by decide:(0:Int)<16),11,#[⋯,⋯],0,Ff,λl hl=>?_]
   have u1:=Fp.upd (o:= .lst ((zK c d).map V.int)) hl
   have W:(Ft H l (.lst ((zK c d).map V.int))) l=↑(.lst ((zK c d).map V.int)):=qc
   have fl:=hl;exists 0,.inl #[37,Fw.of W],0,l,zK c d,Z,.inl (Fw.of W),by show 4<=1000;decide,oj c0 c1 hd,_,_,Z,Z,_,Z,_,_,Z,Z,_,_,Z,Z,.inr #[⋯,⋯],_,_,Z,Z,_,_,Z,Z,(by decide:(0:Int)<16),l,_,_,Z,Z,W,by show 4<ζ;decide
   have J:Fp H (Ft (Ft H l (.lst ((zK c d).map V.int))) l (.lst ((zK c d).map V.int++[.int (((zK c d).sum+1+(e-1)*5)%16)]))):=u1.put fl
   have e2:(Ft (Ft H l (.lst ((zK c d).map V.int))) l (.lst ((zK c d).map V.int++[.int (((zK c d).sum+1+(e-1)*5)%16)]))) l=↑(.lst ((Qw #[nm,age,c,d,e]).map V.int)):=qc
   have m:=u.same J;refine#[0,g.m,0,m.g_table,0,g.m,0,m.g_table,1,g.mt,Y,nm,D.t,zJ D age,Z,.inr m.tb,.inr (Fp.sqt J x),hn,tl,λpk H3 N _ L=>?_]
   refine#[0,l,0,.inl #[Fw.of (N _ _ e2),λtt R=>?_]]
   have O:=Fp.upd (o:= .tup ((Qw #[nm,age,c,d,e]).map V.int)) R
   refine#[g.mt,pk,tt,D.t,aS D.t (zJ D age) nm,Qw #[nm,age,c,d,e],Z,.inr (Fp.sqt (N.trans O) m.tb),.inr (FC.of (O _ _ L)),.inr (FC.of qc),tl,by show 1<=5;decide,by show 5<64;decide,λC H5 s5 _ S=>?_]
   have S5:=J.trans (N.trans (O.trans s5));refine#[13,#[⋯,⋯,⋯],Ff,λl6 G=>?_]
   have X:=Fp.upd (o:= .lst [.int (-1),.int (-9),.int 8,.int (10 ^ (30:Int).toNat)]) G
   have e6:(Ft H5 l6 (.lst [.int (-1),.int (-9),.int 8,.int (10 ^ (30:Int).toNat)])) l6=↑(.lst [.int (-1),.int (-9),.int 8,.int (10 ^ (30:Int).toNat)]):=qc
   have Hm:=(u.same S5).same X;let#[as,U,la,_]:=id Hm.ks;have v:QQ [V.int (-1),.int (-9),.int 8,.int (10 ^ (30:Int).toNat)] (c%4)=↑(.int (Hi.getD (c%4).toNat 0)):=by
    let#[j,t,h4]:∃j:Nat,c%4=(j:Int)/\j<4:=#[(c%4).toNat,by omega,by omega]
    rw[t];refine zW ?_
    rw[Dm]
    match j,h4 with
    |0,_=>rfl
    |1,_=>rfl
    |2,_=>rfl
    |3,_=>rfl
   refine#[4,g.m,0,Hm.g_keys,g.ml,0,.inl (Fw.of U),41,(by decide:(0:Int)<4),l6,2,Fw.of e6,v,Fe,λl7 I=>?_]
   rw[Jd,la];have u7:=Fp.upd (o:= .lst [.int age,.int ((D.kss.length:Int)+age),.int (Hi.getD (c%4).toNat 0)]) I
   have y:QQ [V.int age,.int ((D.kss.length:Int)+age),.int (Hi.getD (c%4).toNat 0)] (e-1)=↑(.int (zu D #[nm,age,c,d,e])):=by
    let#[j,t,h3]:∃j:Nat,e-1=(j:Int)/\j<3:=#[(e-1).toNat,by omega,by omega]
    rw[t];refine zW ?_
    unfold zu
    match j,h3,t with
    |0,_,t=>rw[Jb (show e<=1 by omega)];rfl
    |1,_,t=>rw[Jc (show¬e<=1 by omega),Jb (show e=2 by omega)];rfl
    |2,_,t=>rw[Jc (show¬e<=1 by omega),Jc (show¬e=2 by omega)];rfl
   refine#[11,l7,2,Fw.of qc,y,0,Fe,λp hp=>?_]
   have u8:=Fp.upd (o:= .tup [.str nm,.int (zu D #[nm,age,c,d,e]),.ref C]) hp
   refine q p _ (S5.trans (X.trans (u7.trans u8))) ?_
   unfold zw;rw[Jc F]
   exact#[C,qc,(X.trans (u7.trans u8)) _ _ S]
end
def GK:Α:=["a","b","ab","ba","aa","gate","gates","button","buttonaa","buttonab","z","zzzzzzzz"]
section
variable{P:Ξ}{w:Ω}{K:ι}{mg:Fn}{base:Ψ}{tk:Nat->Tok}
theorem lW(a:At K mg "_law_names" aU ["_law_box_here","_law_many"])(T:F3 K mg tk)(W:Df P w K mg base "_law_take" x4 1 QK):Df P w K mg base "_law_names" x4 2 nU:=by
 refine a.dq GW λf _ A _ s H vs Q E O h=>?_
 ·let#[b,v,c,rfl,G,hc,S,q]:=h
  exists _,(qe (qx (i:=2) GW.nd Z (Or.inr Z) (qT (qd qk (qd qk (qd qk (qd qk (qd qk (qd qk (qd qk (qd qk (qd qk (qd qk (qd qk (qd qk qb))))))))))))))
   (qg (qp (zv (own:=["_law_k"]) (fr:=["_law_some","_law_box_here"]) (js:=[2,0]) Z (Qs Z T.b_range (qd (qv 1) qb)) Z (kx Z Z) Z (j7 Z nofun nofun nofun Z Z Z Z Z Z) (λ_ _ _ _=>qh (i:=0) (show List.Nodup (["_law_k","_law_some","_law_box_here"]:Α)from by decide +kernel) Z (Or.inl Z) (.inr Z)) (λ_ _ _ _=>(BE (K:=K) Z J3 PySem.F.slot_list_pop PySem.F.type_list_pop uV (qv 1) (qd (ql W O.mo (qd (qv 2) (qd (qr (bY (K:=K) Z) T.b_len JM (qd (qv 1) qb)) qb))) qb)))))))
  refine#[Fj,λl F=>?_]
  have X:=Fp.upd (o:= .lst (GK.map V.str)) F
  have t:l≠b:=Ql G F
  exists 1,by omega,by omega
  rw[Dm];refine bE (n:=v) (Ju S ⋯) (λi ys D=>FY b (c+i) H D/\∃d j:Α,D l=↑(.lst (d.map V.str))/\ys=j.map V.str/\d.length+i=12/\(j++d).Perm GK) #[X.grc G,GK,[],qc,8,.refl _] ?_ ?_
  ·rintro i ys D hi Y ⟨C,d,j,g,rfl,L,pm⟩
   exists 0,.inl #[37,Fw.of g]
   refine#[1,l,0,.inl (Fw.of g),b,5,C.bx,by omega,by rw[Jd];omega,by rw[Jd];omega,λx H3 x0 R I=>?_]
   rw[Jd]at R;let#[k,rfl]:∃k:Nat,x=(k:Int):=#[x.toNat,by omega]
   have hk:k<d.length:=by omega
   have J:=I.kp _ _ t g;exists l,15,k,.str d[k],8,J,by omega,by omega,?_,?_
   ·rw[Jd];exact lP hk
   ·rw[Jk,Jg hk];rfl
   ·exists #[λc o B e=>?_,?_],d.eraseIdx k,j++[d[k]],?_,by simp,?_
    ·by_cases z:c=l
     ·subst z
      rw[e]at F;cases F
     ·rw[qi z];exact I.kp _ _ B (C.kp _ _ B e)
    ·let#[n,m,N,e,r]:=I.bx
     exact#[n,m,N,by rw[qi t.symm];exact e,r]
    ·rw[qc,pB]
    ·rw[List.length_eraseIdx_of_lt hk];omega
    ·exact(tw hk).trans pm
  ·rintro ys D u ⟨C,d,j,g,rfl,L,pm⟩ p M
   rw[Jd]at u;have U:(j++d).Nodup:=pm.nodup_iff.mpr nofun
   refine q p j _ (C.same (Fp.upd M)) (C.fresh (G.mono (by omega)) M) qc u (DG.mp U).1 (λz hz=>?_)
   have y:=pm.mem_iff.mp (C0 _ hz);simp only[GK,Jl,Jz,JA]at y;rcases y with rfl|rfl|rfl|rfl|rfl|rfl|rfl|rfl|rfl|rfl|rfl|rfl
   all_goals exact#[nofun,nofun,nofun]
end
section
variable{P:Ξ}{w:Ω}{K:ι}{mg:Fn}{base:Ψ}{tk:Nat->Tok}
theorem kJ(a:At K mg "_law_world" aT ["_law_box_here","_law_great"])(T:F3 K mg tk)(M:Df P w K mg base "_law_take" x4 1 QK)(xV:Df P w K mg base "_law_table" V1 2 kD)(yE:Df P w K mg base "_law_key" V1 2 rA)(xS:Df P w K mg base "_law_names" x4 2 nU):Df P w K mg base "_law_world" ["_law_box_here","_law_great"] 3 (jd K):=by
 refine a.dq FI λf _ A _ s H vs Q E G h=>?_
 ·let#[b,g,c,rfl,hb,hc,q]:=h
  exists _,(qe (qx (i:=2) FI.nd Z (Or.inl Z) (Z8 (zE (qv 1)) (qo qH qf (ql M G.mo (qd (qv 0) (qd qf qb)))) (qo qH qf (ql M G.mo (qd (qv 0) (qd qf qb))))))
   (qe (yg (i:=3) FI.nd Z (Or.inl Z) (own:=["_law_k"]) (fr:=["_law_box_here"]) (js:=[0]) Z (Qs Z T.b_range (qd (Z8 (zE (qv 1)) qf (qo qH qf (ql M G.mo (qd (qv 0) (qd qf qb))))) qb)) Z (Z5 Z) Z (aq Z nofun nofun nofun Z Z Z) (λ_ _ _ _=>qh (i:=0) (show List.Nodup (["_law_k","_law_box_here"]:Α)from by decide +kernel) Z (Or.inl Z) (.inr Z)) (λ_ _ _ _=>(ql yE G.mo (qd (qv 1) qb))))
   (qe (qx (i:=4) FI.nd Z (Or.inl Z) (qF qG (qT (qd (qo qH qf (ql M G.mo (qd (qv 0) (qd qf qb)))) (qd (qo qH qf (ql M G.mo (qd (qv 0) (qd qf qb)))) (qd qf qb)))) (ql M G.mo (qd (qv 0) (qd qf qb)))))
   (qe (qx (i:=5) FI.nd Z (Or.inl Z) (qo qH (qv 4) (qF qG (qT (qd qf (qd qf (qd qf (qd (ql M G.mo (qd (qv 0) (qd qf qb))) qb))))) (ql M G.mo (qd (qv 0) (qd qf qb))))))
   (qe (qx (i:=6) FI.nd Z (Or.inl Z) (yd (ZC qk (ql xV G.mo (qd (qv 0) qb)) (ZC qk (qv 3) (ZC qk (qv 4) (ZC qk (qv 5) (ZC qk qf (ZC qk fG yP))))))))
   (qe (Qp G (qv 6) qk (ql xS G.mo (qd (qv 0) (qd (qv 2) qb))))
   (qe (zn JI Z (ze (qA G (qv 6) qk)) (qh (i:=7) FI.nd Z (Or.inl Z))
   (qe (qx (i:=8) FI.nd Z (Or.inl Z) (qF qG (qT (qd qf (qd qf (qd qf (qd qf (qd qf (qd qf (qd (qo zZ qf (ql M G.mo (qd (qv 0) (qd qf qb)))) (qd (qo qH qf (ql M G.mo (qd (qv 0) (qd qf qb)))) qb))))))))) (ql M G.mo (qd (qv 0) (qd qf qb)))))
   (qe (Qp G (qA G (qv 6) qk) (qv 7) (qT (qd (ql M G.mo (qd (qv 0) (qd (qr qL T.b_len JM (qd (qv 3) qb)) qb))) (qd (qv 8) (qd zc qb)))))
   (qe (qx (i:=9) FI.nd Z (Or.inl Z) (qo qH (qo qH (qo qH (qv 8) (qv 4)) qf) (ql M G.mo (qd (qv 0) (qd (qr (aE Z) T.b_max Ey (qd qf (qd (qo zZ (qv 5) (qv 4)) qb))) qb)))))
   (qg (qK (QW.pt (Zr (qw dj (qv 5) (qv 4) (qu _)) (Zr (qw cZ (qv 9) qf (qu _)) (Zg (qw za (ql M G.mo (qd (qv 0) (qd qf qb))) qf (qu _)))))) (qg (zj (qy (qd (qF qG (qA G (qA G (qv 6) qk) (qv 7)) qf) (qd (qv 9) qb))) (aa (qA G (qA G (qv 6) qk) (qv 7)) qf QF))) qB))))))
   (qe (qK (qw za (ql M G.mo (qd (qv 0) (qd qf qb))) qf (qu _)) (qg (Qp G (qv 6) qk (ql M G.mo (qd (qv 0) (qd (qr qL T.b_len JM (qd (qv 3) qb)) qb))))) qB)
   (qg (qp (qv 6)))))))))))
  refine xt (λh0 H'=>∃I:Nat,1<=I/\I<=9/\FY b (c+1) H H'/\h0=[↑(.ref b),↑(.bl g),↑(.int (I:Int)),none,none,none,none,none,none,none]) (λD' s6 h8=>?_) ?_
  ·exists 1
   cases g with
   |true=>
    refine zQ #[0,b,5,hb,by omega,⋯,⋯,λr H1 r0 r1 R=>#[7,h8 _ _ #[(7+r).toNat,by omega,by omega,R,?_]]]
    rw[Int.toNat_of_nonneg (by omega)];rfl
   |false=>
    refine zg #[0,b,5,hb,by omega,⋯,⋯,λr H1 r0 r1 R=>#[7,h8 _ _ #[(1+r).toNat,by omega,by omega,R,?_]]]
    rw[Int.toNat_of_nonneg (by omega)];rfl
  rintro h0 H1 ⟨I,q7,s9,R,rfl⟩
  refine bj (t:=pT _ _ _) (λv H'=>∃nk:Nat,v= .int (nk:Int)/\1<=nk/\nk<=8/\FY b (c+2) H H') (λQ' hQ=>?_) (λv H2 ⟨nk,ev,k1,k8,g2⟩=>?_)
  ·exists 1
   cases g with
   |true=>exact zQ (hQ _ _ #[(8),Z,⋯,⋯,R.mono (by omega)])
   |false=>
    refine zg #[0,b,5,R.bx,by omega,⋯,⋯,λr H2 r0 r1 g2=>#[7,hQ _ _ #[(1+r).toNat,?_,by omega,by omega,(R.trans g2).mono (by omega)]]]
    rw[Int.toNat_of_nonneg (by omega)]
  subst ev;exists 0,by omega,by omega
  rw[Dm];refine bE (n:=nk) (by rw[Jo];omega) (λi ys H4=>FY b (c+2+10*i) H H4/\∃(S:Ι) (C:List Ζ),ys=S.map V.ref/\S.length=i/\C.length=i/\∀(j:Nat) (x:Δ) (ks:Ζ),S[j]? =↑x->C[j]? =↑ks->H4 x=↑(.tup (ks.map V.int))) #[g2,[],[],39,λj x ks e=>by(cases e)] ?_ ?_
  ·rintro i ys H4 hi p9 ⟨G4,S,C,rfl,k2,b3,f2⟩
   refine#[0,b,0,G4.bx,by omega,λx ks H5 g5 _ J dk _ _=>?_]
   refine#[(G4.trans g5).mono (by omega),S++[x],C++[ks],by simp,by simp [k2],by simp [b3],λj y p0 h1 h2=>?_]
   rw[J2]at h1 h2
   by_cases hj:j<i
   ·rw[Jb (by omega)]at h1 h2
    have hy:=f2 j y p0 h1 h2;let#[x1,x2,x3,eb,_]:=G4.bx;exact g5.kp _ _ (qC hy eb (by intro z;cases z)) hy
   ·rw[Jc (by omega)]at h1 h2
    have d1:j-S.length=0:=by
     cases d1:j-S.length with
     |zero=>rfl
     |succ k=>rw[d1]at h1;cases h1
    have q4:j-C.length=0:=by omega
    rw[d1]at h1;rw[q4]at h2;cases h1;cases h2;exact J
  rintro ys H4 p9 ⟨G4,S,C,rfl,k2,b3,f2⟩ F h7
  have u5:=Fp.upd (o:= .lst (S.map V.ref)) h7
  have e5:(Ft H4 F (.lst (S.map V.ref))) F=↑(.lst (S.map V.ref)):=qc
  have G5:FY b (c+82) H _:=(G4.same u5).mono (by omega)
  have c4:∀(j:Nat) (x:Δ) (ks:Ζ),S[j]? =↑x->C[j]? =↑ks->(Ft H4 F (.lst (S.map V.ref))) x=↑(.tup (ks.map V.int)):=λj x ks h1 h2=>u5 _ _ (f2 j x ks h1 h2)
  have d0:H F=none:=G4.fresh (hb.mono (by omega)) h7
  generalize Ft H4 F (.lst (S.map V.ref))=H5 at e5 G5 c4⊢
  have n7:FK [] H5 F C:=#[S,e5,by omega,λi a z h1 h2=>FC.of (c4 i a z h1 h2)]
  refine#[0,b,5,G5.bx,by omega,⋯,⋯,λr1 H6 k0 g3 g6=>#[7,?_]]
  refine#[0,b,5,g6.bx,by omega,⋯,⋯,λr2 H7 m1 n2 g7=>#[7,Fe,λl8 f4=>?_]]
  have u8:=Fp.upd (o:= .lst [.int (1+r1),.int (1+r2),.int 64]) f4
  refine#[0,b,5,(u8.grc g7.bx).bx,by omega,⋯,⋯,λr3 H9 d7 e8 g9=>?_]
  let#[v,hv,j1]:=Z4 (xs:=[V.int (1+r1),.int (1+r2),.int 64]) d7 e8
  let#[d,rfl,n0,q6]:∃z:Int,v= .int z/\1<=z/\z<=64:=by
   simp only[Jl,Jz,JA]at j1;rcases j1 with rfl|rfl|rfl
   ·exact#[0,by omega,by omega]
   ·exact#[0,by omega,by omega]
   ·exact#[0,by omega,by omega]
  exists l8,2,Fw.of (g9.kp _ _ (Ql g7.bx f4) qc),hv
  have l5:FK [] H9 F C:=(((n7.grc G5.bx g6).grc g6.bx g7).same u8).grc (u8.grc g7.bx).bx g9
  have G9:FY b (c+85) H H9:=((((G5.trans g6).trans g7).same u8).trans g9).mono (by omega)
  refine#[1,b,5,G9.bx,by omega,⋯,⋯,λr4 Ha t1 s3 ga=>#[Ff,λlb l2=>?_]]
  have ub:=Fp.upd (o:= .lst [.int 0,.int 1,.int 2,.int r4]) l2
  refine#[0,b,5,(ub.grc ga.bx).bx,by omega,⋯,⋯,λr5 Hc l9 n1 gc=>?_]
  let#[v2,p1,c2]:=Z4 (xs:=[V.int 0,.int 1,.int 2,.int r4]) l9 n1
  let#[p,rfl,o0,o1]:∃z:Int,v2= .int z/\0<=z/\z<=30:=by
   simp only[Jl,Jz,JA]at c2;rcases c2 with rfl|rfl|rfl|rfl<;>exact#[0,by omega,by omega]
  exists lb,2,Fw.of (gc.kp _ _ (Ql ga.bx l2) qc),p1,7
  have m6:FK [] Hc F C:=((l5.grc G9.bx ga).same ub).grc (ub.grc ga.bx).bx gc
  have Gc:FY b (c+87) H Hc:=(((G9.trans ga).same ub).trans gc).mono (by omega)
  refineλm hm=>?_
  have um:=Fp.upd (o:= .dK []) hm
  have Gm:=Gc.same um;refine#[0,b,0,Gm.bx,by omega,λX t Hd gd s5 n3 pt=>?_]
  have Gd:=Gm.trans gd;let#[x1,x2,x3,eb,_]:=id Gm.bx;have em:(Ft Hc m (.dK [])) m=↑(HO.dK []):=qc
  have b6:m≠b:=qC em eb (by intro z;cases z)
  have b4:=gd.kp _ _ b6 em;have i0:FK [] Hd F C:=(m6.same um).grc Gm.bx gd
  refine#[4,λkd d5=>?_]
  have uk:=Fp.upd (o:= .dK []) d5
  have d9:m≠kd:=qt b4 d5
  exists uk _ _ b4,Hm d (d+p) X F kd,Z,by show 6<=15;decide
  rw[pQ];have fm:H m=none:=Gc.fresh (hb.mono (by omega)) hm
  have b2:H kd=none:=Gd.fresh (hb.mono (by omega)) d5
  have Ge:FY b (c+110) H (Ft (Ft Hd kd (.dK [])) m (.dK (Hm d (d+p) X F kd))):=by
   have G8:=Gd.same uk;exists λx o J e=>?_
   ·rw[qi (qt e fm)];exact G8.kp x o J e
   ·let#[y1,y2,y3,e,e1,e2,e3,e4]:=G8.bx
    exact#[y1,y2,y3,by rw[qi b6.symm];exact e,e1,e2,e3,by omega]
  have i2:NT [m] (Ft Hd kd (.dK [])):=NT.one (uk _ _ b4) trivial
  have me:Mv [m] (Ft Hd kd (.dK [])) (Ft (Ft Hd kd (.dK [])) m (.dK (Hm d (d+p) X F kd))):=Mv.upd1
  let#[r6,m2,_]:=id i0;have d6:FK [] (Ft (Ft Hd kd (.dK [])) m (.dK (Hm d (d+p) X F kd))) F C:=(i0.same uk).mv me i2 (qE (qC m2 b4 (by intro z;cases z)))
  have l4:FC K (Ft (Ft Hd kd (.dK [])) m (.dK (Hm d (d+p) X F kd))) X (t.map V.int):=me.sqt i2 (FC.of (uk _ _ n3))
  have i1:(Ft (Ft Hd kd (.dK [])) m (.dK (Hm d (d+p) X F kd))) m=↑(.dK (Hm d (d+p) X F kd)):=qc
  have a2:(Ft (Ft Hd kd (.dK [])) m (.dK (Hm d (d+p) X F kd))) kd=↑(.dK []):=by rw[qi d9.symm];exact qc
  generalize Ft (Ft Hd kd (.dK [])) m (.dK (Hm d (d+p) X F kd))=He at Ge d6 l4 i1 a2⊢
  refine#[1,b,I,0,Ge.bx,by omega,by omega,λnl D Hf gf p2 h5 q5 nd q0=>?_]
  have Gf:=Ge.trans gf;have b5:=gf.kp _ _ b6 i1;have o4:=GL.k (k:=(Sum.inr "names":qz)) (v:= .ref nl) b5 (by show 6<ζ;decide)
  exists 0,m,0,o4
  rw[xx t C d (d+p) [] m X F kd nl];let#[u,W]:∃u:Io,u=#[m,X,F,kd,nl]:=#[0]
  let#[B,L]:∃B:Dr,B=#[t,C,d,d+p,(12),(0),[]]:=#[0]
  have ug:Mv [m] Hf (Ft Hf m (.dK (cq #[t,C,d,d+p,(12),(0),[]] #[m,X,F,kd,nl]))):=Mv.upd1
  have h9:NT [m] Hf:=NT.one b5 trivial
  let#[z1,z2,z3,m0,_]:=id Ge.bx;have p8:=gf.kp _ _ (qC a2 m0 (by intro z;cases z)) a2
  have b7:FQ K (Ft Hf m (.dK (cq B u))) u B D:=by
   rw[W,L];let#[t2,o5,_]:=id (d6.grc Ge.bx gf)
   exact#[qc,ug.sqt h9 (gf.mv.sqt (Qe Ge.bx) l4),(d6.grc Ge.bx gf).mv ug h9 (qE (qC o5 b5 (by intro z;cases z))),#[([],λ_=>0),ug _ _ (qE d9.symm) p8,(λe he=>by cases he),.refl _,Ex],ug _ _ (qE (qC h5 b5 (by intro z;cases z))) h5,d9,by omega]
  have a5:H nl=none:=Ge.fresh (hb.mono (by omega)) p2
  have Gg:FY b (c+120) H (Ft Hf m (.dK (cq B u))):=by
   exists λx o J e=>?_
   ·rw[qi (qt e fm)];exact Gf.kp x o J e
   ·let#[y1,y2,y3,e,e1,e2,e3,e4]:=Gf.bx
    exact#[y1,y2,y3,by rw[qi b6.symm];exact e,e1,e2,e3,by omega]
  rw[<- L,<- W];generalize Ft Hf m (.dK (cq B u))=Hg at b7 Gg⊢
  have m4:u.m=m:=by rw[W]
  have d8:u.ml=F:=by rw[W]
  have o3:u.nl=nl:=by rw[W]
  have o6:u.kd=kd:=by rw[W]
  rw[<- m4]at fm⊢;rw[<- d8]at d0;rw[<- o3]at a5;rw[<- o6]at b2;have dn:B.near=d:=by rw[L]
  have df:B.far=d+p:=by rw[L]
  have dk:B.kss.length=C.length:=by rw[L]
  have p4:B.kn=[]:=by rw[L]
  exists 0,u.m,0,b7.g_names,u.nl,Z,#[_,Fw.of b7.nm]
  refine Qa (K:=K) (xs:=D.map V.str) (Pv:=λi σ Hx=>∃(kn:Kw) (o7 o8 o9:Μ),FY b (c+120+10*i) H Hx/\FQ K Hx u {B with kn:=kn} D/\kn.map (·.1)=D.take i/\(∀e∈kn,II B e.2/\1<=e.2.last)/\(∀e∈kn,∀x cc,e.2.wt=↑(x,cc)->x=e.2.age/\e.2.last+B.near<cc/\cc<=e.2.last+B.far)/\σ=[↑(.ref b),↑(.bl g),↑(.int (I:Int)),↑(.ref F),↑(.int d),↑(.int (d+p)),↑(.ref u.m),o7,o8,o9]) #[[],30,Gg.mono (by omega),by rw[<- p4];exact b7,Z,(λe he=>by cases he),(λe he=>by cases he),Z] (λi σ Hx _ ⟨_,_,_,_,_,wx,_⟩=>Fw.of wx.nm) ?_ ?_
  ·rintro i v σ Hx hv ⟨kn,o7,o8,o9,Gx,wx,ek,f0,f1,rfl⟩
   let#[nm,rfl,b1]:∃nm,v= .str nm/\D[i]? =↑nm:=by
    rw[Jk]at hv;cases z:D[i]? with
    |none=>rw[z]at hv;cases hv
    |some y=>rw[z]at hv;cases hv;exact#[y,8]
   have hi:i<D.length:=(Jp.mp b1).1
   have b3:kn.length=i:=by have:=JH List.length ek;rw[Jd,J0]at this;omega
   have h6:nm∉kn.map (·.1):=λz=>by
    rw[ek]at z;have n8:(D.take i++D.drop i).Nodup:=by rw[List.take_append_drop];exact nd
    refine(DG.mp n8).2.2 nm z nm (JG (i:=0) ?_) Z
    rw[List.getElem?_drop];exact b1
   refine#[0,b,5,Gx.bx,by omega,⋯,⋯,λr1 H1 k0 g3 R=>#[7,?_]]
   refine#[0,b,5,R.bx,by omega,⋯,⋯,λr2 H2 m1 n2 g2=>#[7,Fh,λl3 g0=>?_]]
   have u3:=Fp.upd (o:= .lst [.int 1,.int 2,.int 15,.int 255,.int 256,.int 4000,.int (4095-r1),.int (1+r2)]) g0
   refine#[0,b,5,(u3.grc g2.bx).bx,by omega,⋯,⋯,λr3 H4 d7 e8 g4=>?_]
   let#[v3,o2,c3]:=Z4 (xs:=[V.int 1,.int 2,.int 15,.int 255,.int 256,.int 4000,.int (4095-r1),.int (1+r2)]) d7 e8
   let#[last,rfl,c1,r7]:∃z:Int,v3= .int z/\1<=z/\z<=4095:=by
    simp only[Jl,Jz,JA]at c3;rcases c3 with rfl|rfl|rfl|rfl|rfl|rfl|rfl|rfl<;>exact#[0,by omega,by omega]
   exists l3,2,Fw.of (g4.kp _ _ (Ql g2.bx g0) qc),o2
   have w4:=(((wx.grc Gx.bx R).grc R.bx g2).same u3).grc (u3.grc g2.bx).bx g4;have G4':FY b (c+120+10*i+3) H H4:=((((Gx.trans R).trans g2).same u3).trans g4).mono (by omega)
   let#[e0,b0,d3,_]:=id w4.ks;rw[d8]at b0;have O:(e0.map V.ref).length=C.length:=by rw[Jd,d3];exact dk
   refine#[1,F,0,.inl (Fw.of b0),b,5,G4'.bx,by omega,by rw[O];omega,by rw[O];omega,λage H5 a0 a1 g5=>#[0,Fe,λY d4=>?_]]
   rw[O]at a1;have w5:=w4.grc G4'.bx g5;have u6:=Fp.upd (o:= .lst [.int age,.int last,.non]) d4
   let#[kvs,dp,h3,m9]:=FR.putL w5.kb d4 u6 nm (by show kn.length<=100;omega)
   have w6:=w5.same u6;exists 0,u.m,0,w6.g_known,0,u.kd,0,dp
   have m7:Mv [u.kd] (Ft H5 Y (.lst [.int age,.int last,.non])) (Ft (Ft H5 Y (.lst [.int age,.int last,.non])) u.kd (.dK kvs)):=Mv.upd1
   let#[s4,a4,_]:=w6.kb.di;have f5:NT [u.kd] (Ft H5 Y (.lst [.int age,.int last,.non])):=NT.one a4 trivial
   let#[t4,p3,_]:=id w6.ks;have wp:Ir K (Ft (Ft H5 Y (.lst [.int age,.int last,.non])) u.kd (.dK kvs)) u B D Y kvs nm age last kn:=#[m7 _ _ (qE w6.ne) w6.di,m7.sqt f5 w6.tb,w6.ks.mv m7 f5 (qE (qC p3 a4 (by intro z;cases z))),m9,qc,h3,m7 _ _ (qE (qC qc a4 (by intro z;cases z))) qc,m7 _ _ (qE (qC w6.nm a4 (by intro z;cases z))) w6.nm,w6.ne,w6.n1]
   have G7:FY b (c+120+10*i+4) H (Ft (Ft H5 Y (.lst [.int age,.int last,.non])) u.kd (.dK kvs)):=by
    have Gy:=((G4'.trans g5).same u6);exists λx o J e=>?_
    ·rw[qi (qt e b2)];exact Gy.kp x o J e
    ·let#[y1,y2,y3,e,e1,e2,e3,e4]:=Gy.bx
     exact#[y1,y2,y3,by rw[qi (qC a4 e (by intro z;cases z)).symm];exact e,e1,e2,e3,by omega]
   have f6:H Y=none:=(G4'.trans g5).fresh (hb.mono (by omega)) d4
   generalize Ft (Ft H5 Y (.lst [.int age,.int last,.non])) u.kd (.dK kvs)=H7 at wp G7⊢
   have c0:∀(e:Kb) (H':Hp) (o9:Μ) (n':Nat),FY b n' H H'->n'<=c+120+10*(i+1)->FQ K H' u {B with kn:=qS kn nm e} D->II B e/\1<=e.last->(∀x cc,e.wt=↑(x,cc)->x=e.age/\e.last+B.near<cc/\cc<=e.last+B.far)->∃(kn:Kw) (o7 o8 q1:Μ),FY b (c+120+10*(i+1)) H H'/\FQ K H' u {B with kn:=kn} D/\kn.map (·.1)=D.take (i+1)/\(∀e∈kn,II B e.2/\1<=e.2.last)/\(∀e∈kn,∀x cc,e.2.wt=↑(x,cc)->x=e.2.age/\e.2.last+B.near<cc/\cc<=e.2.last+B.far)/\[↑(.ref b),↑(.bl g),↑(.int (I:Int)),↑(.ref F),↑(.int d),↑(.int (d+p)),↑(.ref u.m),↑(.str nm),↑(.int last),o9]=[↑(.ref b),↑(.bl g),↑(.int (I:Int)),↑(.ref F),↑(.int d),↑(.int (d+p)),↑(.ref u.m),o7,o8,q1]:=λe H' o9 n' G' p5 w' ke kw=>by
    have ep:qS kn nm e=kn++[(nm,e)]:=by unfold qS;rw[Jc h6]
    refine#[qS kn nm e,30,G'.mono p5,w',?_,λx J=>?_,λx J=>?_,Z]
    ·rw[ep,Jy,ek,List.take_succ,b1];rfl
    ·rw[ep]at J
     rcases JK.mp J with J|J
     ·exact f0 x J
     ·rw[Jn.mp J];exact ke
    ·rw[ep]at J
     rcases JK.mp J with J|J
     ·exact f1 x J
     ·rw[Jn.mp J];exact kw
   have N:II B #[age,last,none]:=#[a0,by show age<(B.kss.length:Int);rw[dk];exact a1,by show 0<=last;omega,by show last<4096;omega,λx y z=>by cases z]
   refine#[29,b,5,G7.bx,by omega,by split<;>omega,by split<;>omega,λr8 H8 s2 j0 g8=>#[7,?_]]
   have e6:=wp.grc G7.bx g8;have G8:=G7.trans g8;exists 26
   refine qO (λy1=>?_) (λ_=>c0 #[age,last,none] _ _ _ G8 (by omega) e6.plain #[N,c1] (λx cc z=>by cases z))
   exists 22
   refine qO (λy2=>?_) (λ_=>c0 #[age,last,none] _ _ _ G8 (by omega) e6.plain #[N,c1] (λx cc z=>by cases z))
   refine#[0,b,5,G8.bx,by omega,⋯,⋯,λr9 H9 s8 s7 g9=>#[14,?_]]
   have a8:=e6.grc G8.bx g9;have G9':=G8.trans g9;refine qO (λ_=>?_) (λ_=>c0 #[age,last,none] _ _ _ G9' (by omega) a8.plain #[N,c1] (λx cc z=>by cases z))
   have h1:=Jw y1;have h2:=Jw y2;refine#[0,u.m,0,a8.g_known,0,u.kd,0,a8.g_nm,Y,2,Fw.of a8.el,14,Fd,λt0 q2=>?_]
   have u0:=Fp.upd (o:= .tup [.int age,.int (last+d+1+r8)]) q2
   have a3:=a8.same u0;exists 0,u.m,0,a3.g_known,0,u.kd,0,a3.g_nm,Y,15,(2),8,a3.el,Z
   have w':=a3.wait (t:=t0) (x:=age) (cc:=last+d+1+r8) qc
   have G0:=G9'.same u0;refine c0 #[age,last,↑(age,last+d+1+r8)] _ _ (c+120+10*i+6) #[λx o J e=>?_,?_] (by omega) w' #[#[N.a0,N.a1,N.l0,N.l1,λx y z=>?_],c1] (λx cc z=>?_)
   ·show Ft _ Y _ x=_
    rw[qi (qt e f6)];exact G0.kp x o J e
   ·let#[q3,l7,m5,e,e1,e2,e3,e4]:=G0.bx
    have p6:b≠Y:=(qC a3.el e (λq=>by injection q with q;injection q with _ q;injection q with _ q;injection q with q _;cases q)).symm
    exact#[q3,l7,m5,by show Ft _ Y _ b=_;rw[qi p6];exact e,e1,e2,e3,by omega]
   ·cases z;exact#[by omega,by omega]
   ·cases z
    exists Z,?_
    ·show last+B.near<_;rw[dn];omega
    ·show _<=last+B.far;rw[df];revert j0;split<;>intro j0<;>omega
  ·rintro σ Hx ⟨kn,o7,o8,o9,Gx,wx,ek,f0,f1,rfl⟩
   have h4:∀l:Int,0<=l->l<C.length->HP {B with kn:=kn,least:=l} D:=λl l0 l1=>by
    have d2:kn.map (·.1)=D:=by rw[ek,Jd,Dh]
    have b3:kn.length=D.length:=by have:=JH List.length d2;rwa [Jd]at this
    refine#[#[by rw[L];exact pt,l0,by show B.kss.length<=8;omega,by show kn.length<=60;omega,by show(kn.map (·.1)).Nodup;rw[d2];exact nd],by show 1<=B.kss.length;omega,by show 1<=B.near;omega,by show B.near<=B.far;omega,by show B.far<=2000;omega,by show l<(B.kss.length:Int);omega,by rw[L],λe he=>?_,f1,q0,d2,by omega,by omega]
    have z:=f0 e he
    exact#[#[z.1.a0,z.1.a1,z.1.l0,z.1.l1,z.1.w],z.2]
   rw[Jd]at Gx;refine#[0,b,5,Gx.bx,by omega,⋯,⋯,λr1 H1 k0 g3 R=>#[14,?_]]
   have w1:=wx.grc Gx.bx R;have G1':=Gx.trans R;have eD:({B with kn:=kn}:Dr)={B with kn:=kn,least:=0}:=by rw[L]
   refine qO (λ_=>?_) (λ_=>#[0,q u _ D _ (G1'.mono (by omega)) fm d0 b2 a5 w1 (by rw[eD];exact h4 0 (by omega) (by omega))])
   let#[e0,b0,d3,_]:=id w1.ks;rw[d8]at b0;have O:(e0.map V.ref).length=C.length:=by rw[Jd,d3];exact dk
   refine#[1,F,0,.inl (Fw.of b0),b,5,G1'.bx,by omega,by rw[O];omega,by rw[O];omega,λsh H2 s0 s1 g2=>?_]
   rw[O]at s1;have U:=w1.grc G1'.bx g2;have G2':=G1'.trans g2;have dp:=GL.k (k:=(Sum.inr "shut":qz)) (v:= .int sh) U.di (Nat.lt_of_le_of_lt (show 7<=100 by decide) ⋯)
   rw[ve 4 Z (lZ ..)]at dp;exists 0,u.m,0,dp
   have m3:Mv [u.m] H2 (Ft H2 u.m (.dK (cq {B with kn:=kn,least:=sh} u))):=Mv.upd1
   have f3:NT [u.m] H2:=NT.one U.di trivial
   let#[t3,p7,_]:=id U.ks;have w3:FQ K (Ft H2 u.m (.dK (cq {B with kn:=kn,least:=sh} u))) u {B with kn:=kn,least:=sh} D:=#[qc,m3.sqt f3 U.tb,U.ks.mv m3 f3 (qE (qC p7 U.di (by intro z;cases z))),F0.to U.kb (λo z=>m3 _ _ (qE U.ne.symm) z) (λa e h=>h.mv m3 f3 (qE (h.ned U.di))),m3 _ _ (qE (qC U.nm U.di (by intro z;cases z))) U.nm,U.ne,U.n1]
   refine#[0,q u _ D _ #[λx o J e=>?_,?_] fm d0 b2 a5 w3 (h4 sh s0 s1)]
   ·show Ft H2 u.m _ x=_
    rw[qi (qt e fm)];exact G2'.kp x o J e
   ·let#[y1,y2,y3,e,e1,e2,e3,e4]:=G2'.bx
    exact#[y1,y2,y3,by show Ft H2 u.m _ b=_;rw[qi (qC U.di e (by intro z;cases z)).symm];exact e,e1,e2,e3,by omega]
end
section
variable{P:Ξ}{w:Ω}{K:ι}{mg:Fn}{base:Ψ}{tk:Nat->Tok}{C:Δ}
theorem mI(a:At K mg "_law_door" bt ["_law_world_here"])(T:F3 K mg tk)(U:GB K C)(yG:Mi P w K mg base C "Door" X0 1 (jT K C))(xQ:Mf P w K mg base C "learn" ["self","one","other"] 7 (iM K C))(xU:Mf P w K mg base C "hear" W5 6 (nP K C))(dP:Mf P w K mg base C "close_below" V0 1 (jS K C))(dG:Df P w K mg base "_law_press" X3 4 (aD K)):Df P w K mg base "_law_door" ["_law_world_here"] 8 (lB K C):=by
 refine a.dq F1 λf _ A _ s H vs Q E l h=>?_
 ·let#[m,D,ns,rfl,N,d,q]:=h
  exists _,(qe (qx (i:=1) F1.nd Z (Or.inl Z) (xw yG l.mo (qd (qA l (qv 0) qk) (qd (qN qY T.b_tuple JS (qd (qA l (qv 0) qk) qb)) (qd (qA l (qv 0) qk) (qd (qA l (qv 0) qk) (qd qf qb)))))))
   (qe (zn JI Z (ze (qA l (qv 0) qk)) (qh (i:=2) F1.nd Z (Or.inl Z))
   (qe (zj (qA l (qA l (qv 0) qk) (qv 2)) (ZK Z (qm (qh (i:=3) F1.nd Z (Or.inl Z)) (qm (qh (i:=4) F1.nd Z (Or.inl Z)) (qm (qh (i:=5) F1.nd Z (Or.inl Z)) qU)))))
   (qe (zG (zp xQ U.cl l.mo (qv 1) (qd (ql dG l.mo (qd (qv 0) (qd (qy (qd (qv 2) (qd (qv 3) (qd (qo zZ (qv 4) qf) (qd qf (qd qf qb)))))) qb))) (qd (ql dG l.mo (qd (qv 0) (qd (qy (qd (qv 2) (qd (qv 3) (qd (qv 4) (qd qf (qd qf qb)))))) qb))) qb))))
   (qg (qK (qw dc (qv 5) zc (qu _)) (qg (zG (zp xU U.cl l.mo (qv 1) (qd (ql dG l.mo (qd (qv 0) (qd (qy (qd (qv 2) (qd (qv 3) (qd (qF zk (qv 5) qf) (qd qf (qd qf qb)))))) qb))) qb)))) qB)))))
   (qe (qK (qw dj (qA l (qv 0) qk) qf (qu _)) (qg (zG (zp dP U.cl l.mo (qv 1) (qd (qA l (qv 0) qk) qb)))) qB)
   (qg (qp (qv 1))))))
  have k1:=d.k1;have k8:=d.ok.kl;let#[as,eh,la,e2]:=id N.ks;refine#[0,m.m,0,N.g_table,0,m.m,0,N.g_keys,m.ml,0,.inl #[Fw.of eh,λtt d8=>?_]]
  have S:=Fp.upd (o:= .tup (as.map V.ref)) d8
  have a0:=N.same S;refine#[0,m.m,0,a0.g_near,0,m.m,0,a0.g_far,λx dx nx e4 f4=>?_]
  have W:Fp (Ft H tt (.tup (as.map V.ref))) (Ft (Ft (Ft H tt (.tup (as.map V.ref))) dx (.own x)) x (.ins C dx [])):=(Fp.upd e4).trans (Fp.upd (by rw[qi f4.symm];exact nx))
  refine#[x,m.mt,tt,dx,D.near,D.far,(12),D.t,D.kss,Z,qc,.inr (Fp.sqt W a0.tb),#[as,FC.of (W _ _ qc),la,λi a z h1 h2=>Fp.sqt (S.trans W) (e2 i a z h1 h2)],k8,λta hk bd lg H2 h1 h2 h3 mv dr d3=>#[Z,?_]]
  have S2:Fp H H2:=λc o e=>mv c o (qE (qt (S _ _ e) nx)) (W c o (S _ _ e))
  have fp:H x=none:=ZB nx S
  have f1:=ZB (ZB h1 W) S;have f2:=ZB (ZB h2 W) S;have f3:=ZB (ZB h3 W) S;have b4:F4 K C H2 #[x,ta,hk,bd,lg] #[D.t,D.kss,D.near,D.far,(12),(0),[]] []:=dr.dl d3
  let#[g,a1]:∃g:Da,g=#[x,ta,hk,bd,lg]:=#[0]
  have hx:x=g.p:=by rw[a1]
  rw[<- a1]at b4;have fd:∀z∈dS g,H z=none:=by rw[a1];exact n6 fp f1 f2 f3
  have a8:=N.same S2;exists 0,m.m,0,a8.g_names,m.nl,Z,#[_,Fw.of a8.nm]
  have d2:({D with least:=0,kn:=D.kn.take 0}:Dr)=#[D.t,D.kss,D.near,D.far,(12),(0),[]]:=by rw[<- d.ms];rfl
  refine Qa (K:=K) (xs:=ns.map V.str) (Pv:=λi σ Y=>∃(L:Ρ) (o2 o3 o4 o5:Μ),Fp H Y/\F4 K C Y g {D with least:=0,kn:=D.kn.take i} L/\L.length<=2*i/\σ=[↑(.ref m.m),↑(.ref g.p),o2,o3,o4,o5]) #[[],52,S2,(by rw[d2];exact b4),⋯,by rw[hx];rfl] (λi σ Y _ ⟨_,_,_,_,_,O,_⟩=>Fw.of (O _ _ N.nm)) ?_ ?_
  ·rintro i v σ Y hv ⟨L,o2,o3,o4,o5,O,dl,hL,rfl⟩
   let#[nm,rfl,u]:∃nm,v= .str nm/\ns[i]? =↑nm:=by
    rw[Jk]at hv;cases z:ns[i]? with
    |none=>rw[z]at hv;cases hv
    |some y=>rw[z]at hv;cases hv;exact#[y,8]
   have hi:i<ns.length:=(Jp.mp u).1
   have d4:=d.nl;have b0:D.kn.length=ns.length:=by have:=JH List.length d.nn;rwa [Jd]at this
   let#[e,b3]:∃e,D.kn[i]? =↑(nm,e):=by
    have h0:=u;rw[<- d.nn,Jk]at h0;cases z:D.kn[i]? with
    |none=>rw[z]at h0;cases h0
    |some y=>rw[z]at h0;let#[y1,y2]:=y;cases h0;exact#[y2,Z]
   have n:=N.same O;have t:=JG b3;let#[e',x0,f0,gg,vv,f5,M]:=(n.kb.get nm).resolve_left (λz=>by have:=Qv (Jv.mpr #[_,t,Z]);let#[y,hy]:=this;rw[hy]at z;cases z.1)
   obtain rfl:e=e':=by have:=Q0 d.ok.nd f0 (nm,e) t Z;injection this
   have B:=d.kb _ t;have b7:=d.wt _ t;simp only at B b7
   have a4:=B.1.a0;have a2:=B.1.a1;have g6:=B.1.l1;have g7:=B.2;have hn:=d.nm nm (JG u);have I:=d.ok.tp;have z5:aL 0:=#[⋯,⋯]
   have sc:∀c,0<=c->c<4096->GP D #[nm,e.age,c,(0),(0)]:=λc c0 c1=>#[hn,a4,a2,c0,c1,z5,by show(0:Int)<=0;decide,by show(0:Int)<=3;decide]
   have R:∀c,zw D #[nm,e.age,c,(0),(0)]=#[nm,e.age,Z1 D.t (zJ D e.age) nm c 0]:=λc=>by unfold zw;rw[Jb Z]
   exists 0,m.m,0,n.g_known,0,m.kd,0,gg,x0,0,.inl (Fw.of f5),6
   refine#[0,g.p,Z,dl.dr.no,17,Fg,λd1 b5=>?_]
   have v1:=Fp.upd (o:= .tup [.str nm,.int e.age,.int (e.last-1),.int 0,.int 0]) b5
   refine#[m,d1,D,ns,#[nm,e.age,e.last-1,(0),(0)],Z,n.same v1,I,qc,sc _ (by omega) (by omega),λp1 H3 s3 e3=>?_]
   have S3:=v1.trans s3;refine#[10,Fg,λg2 b1=>?_]
   have v2:=Fp.upd (o:= .tup [.str nm,.int e.age,.int e.last,.int 0,.int 0]) b1
   refine#[m,g2,D,ns,#[nm,e.age,e.last,(0),(0)],Z,(n.same S3).same v2,I,qc,sc _ (by omega) (by omega),λp2 H5 s5 c4=>?_]
   have S5:=S3.trans (v2.trans s5);have a5:=dl.same S5;have ht:zT {D with least:=0,kn:=D.kn.take i} e.age=true:=by unfold zT;rw[Jh (show(0:Int)<=e.age from a4),Jh (show e.age<(D.kss.length:Int)from a2)];rfl
   have a3:GR {D with least:=0,kn:=D.kn.take i}:=#[I,Int.le_refl _,d.ok.kl,by show(D.kn.take i).length<=60;rw[J0];omega,by show((D.kn.take i).map (·.1)).Nodup;rw[List.map_take];exact d.ok.nd.sublist (List.take_sublist ..)]
   have F:nm∉(D.kn.take i).map (·.1):=λz=>by
    rw[List.map_take,d.nn]at z;have d9:(ns.take i++ns.drop i).Nodup:=by rw[List.take_append_drop,<- d.nn];exact d.ok.nd
    refine(DG.mp d9).2.2 nm z nm (JG (i:=0) ?_) Z
    rw[List.getElem?_drop];exact u
   have g1:(D.kn.take i).lookup nm=none:=by
    cases z:(D.kn.take i).lookup nm with
    |none=>rfl
    |some y=>exact absurd (Jv.mpr #[_,Qg z,Z]) F
   have r1:∀c,0<=c->c<4096->Zk {D with least:=0,kn:=D.kn.take i} (zw D #[nm,e.age,c,(0),(0)])=↑(c,0):=λc c0 c1=>by
    rw[R];unfold Zk;simp only;rw[ht,Jb Z];exact cA I c0 c1 z5
   refine#[g,_,L,p1,p2,zw D #[nm,e.age,e.last-1,(0),(0)],zw D #[nm,e.age,e.last,(0),(0)],e.last-1,(0),(0),Z,a5,by omega,a3,FP.same (v2.trans s5) e3,c4,fP (sc _ (by omega) (by omega)) I,fP (sc _ (by omega) (by omega)) I,r1 _ (by omega) (by omega),by rw[r1 _ (by omega) (by omega)];congr 2;omega,by rw[R,R],by rw[R,R],by rw[R];exact g1,by show((D.kn.take i).length:Int)<D.most;rw[J0,d.ms];omega,λH6 m6 X=>?_]
   rw[R e.last,show e.last-1+1=e.last by omega]at X
   simp only at X
   have ep:∀y,qS (D.kn.take i) nm y=D.kn.take i++[(nm,y)]:=λy=>by unfold qS;rw[Jc F]
   rw[ep]at X;have J:Mv (dS g) H5 H6:=m6.mono λc h z=>h (by simp only[Jl,Jz,JA]at z;rcases z with rfl|rfl;exact fR _;exact cY _)
   have S6:Fp H H6:=λc o G=>J c o (λz=>by rw[fd c z]at G;cases G) (S5 _ _ (O _ _ G))
   have b6:D.kn.take (i+1)=D.kn.take i++[(nm,e)]:=by rw[List.take_succ,b3];rfl
   exists 3
   cases hwt:e.wt with
   |none=>
    rw[hwt]at M;have e8:vv= .non:=M
    refine cT e8 ?_
    have ee:(#[e.age,e.last,none]:Kb)=e:=by rw[<- hwt]
    rw[ee,<- b6]at X
    exact#[35,S6,X,by rw[Jx];show L.length+1<=_;omega,Z]
   |some xc=>
    let#[x9,j]:=xc;rw[hwt]at M;let#[p9,rfl,e5]:=M;let#[rfl,c1,c2]:=b7 x9 j hwt;have cb:=B.1.w _ _ hwt;refine zr (by rw[Jj (by intro z;cases z)];rfl) ?_
    have e1:H6 p9=↑(.tup [.int e.age,.int j]):=J.tup a5.nt (S5 _ _ e5)
    refine#[0,g.p,Z,X.dr.no,10,p9,2,FC.of e1,Z,Fg,λd5 b2=>?_]
    have v3:=Fp.upd (o:= .tup [.str nm,.int e.age,.int j,.int 0,.int 0]) b2
    refine#[m,d5,D,ns,#[nm,e.age,j,(0),(0)],Z,(N.same S6).same v3,I,qc,sc _ cb.1 cb.2,λp3 H8 s8 f6=>?_]
    have e0:GR {D with least:=0,kn:=D.kn.take i++[(nm,#[e.age,e.last,none])]}:=#[I,Int.le_refl _,d.ok.kl,by show(D.kn.take i++[_]).length<=60;rw[Jx,J0];show _+1<=60;omega,by rw[<- ep];exact cP a3.nd nm _]
    refine#[g,15,.ref p3,↑(zw D #[nm,e.age,j,(0),(0)]),Z,X.same (v3.trans s8),by rw[Jx];show L.length+1<=1000000;omega,e0,#[p3,Z,f6,fP (sc _ cb.1 cb.2) I],(λz=>nomatch z),λP d0 g3 q2 He g5 me _ g4 de=>?_]
    obtain rfl:_=P:=Jt d0
    have g0:(qV {D with least:=0,kn:=D.kn.take i++[(nm,#[e.age,e.last,none])]} (zw D #[nm,e.age,j,(0),(0)])).2=D.kn.take (i+1):=by
     have lk:(D.kn.take i++[(nm,(#[e.age,e.last,none]:Kb))]).lookup nm=some #[e.age,e.last,none]:=by rw[<- ep];exact tV a3.nd
     rw[R];unfold qV;simp only
     rw[show Qd D.t (zJ {D with least:=0,kn:=D.kn.take i++[(nm,#[e.age,e.last,none])]} e.age) nm (Z1 D.t (zJ D e.age) nm j 0)=↑(j,0)from cA I cb.1 cb.2 z5]
     unfold q9;simp only
     rw[lk];simp only
     rw[Jb (by unfold zm zT;rw[Jh (show(0:Int)<=e.age from a4),Jh (show e.age<(D.kss.length:Int)from a2),Jh (Int.le_refl e.age)];rfl)]
     have es:zh D.near D.far #[e.age,e.last,none] e.age j=(("far":Str),(#[e.age,e.last,↑(e.age,j)]:Kb)):=by
      unfold zh;have n0:=d.n0;rw[Jc (show¬j<=e.last by omega),Jc (show¬j<=e.last+D.near by omega),Jb (show j<=e.last+D.far by omega),Jc (by intro z;cases z)]
     have c3:¬(("far":Str)="near"):=by decide +kernel
     rw[es,Jc (show¬(("far":Str),(#[e.age,e.last,↑(e.age,j)]:Kb)).1="near" from c3)]
     show qS (D.kn.take i++[(nm,_)]) nm #[e.age,e.last,↑(e.age,j)]=_
     have ee:(#[e.age,e.last,↑(e.age,j)]:Kb)=e:=by rw[<- hwt]
     unfold qS;rw[Jb (by simp),Jy,b6,ee]
     congr 1
     ·refine(DC λp hp=>?_).trans (List.map_id _)
      rw[Jc (λz=>F (Jv.mpr #[p,hp,z]))];rfl
     ·simp
    rw[g0]at de;have d7:Mv (dS g) H8 He:=me.mono λc h z=>h (by simp only[Jl,Jz,JA]at z;rcases z with rfl|rfl;exact fR _;exact cY _)
    refine#[35,(λc o G=>d7 c o (λz=>by rw[fd c z]at G;cases G) ((v3.trans s8) _ _ (S6 _ _ G))),de,by rw[Jx,Jx];show L.length+1+1<=_;omega,Z]
  ·rintro σ Y ⟨L,o2,o3,o4,o5,O,dl,hL,rfl⟩
   have b0:D.kn.length=ns.length:=by have:=JH List.length d.nn;rwa [Jd]at this
   have d4:=d.nl;have l0:=d.ok.l0;rw[Jd]at dl hL;rw[show D.kn.take ns.length=D.kn by rw[<- b0,Dh]]at dl
   have n:=N.same O;exists 0,m.m,0,n.g_shut,23
   refine qO (λy=>?_) (λy=>?_)
   ·refine#[0,g.p,Z,dl.dr.no,0,m.m,0,n.g_shut,g,_,L,D.least,Z,dl,by omega,λD' r e6 H' m' d'=>?_]
    let#[rfl,rfl]:_=D'/\_=r:=by injection e6 with w;injection w with w1 w2;exact#[w1,w2]
    have hy:=Jw y;have eD:({D with least:=if D.least>0 then D.least else 0}:Dr)=D:=by rw[Jb hy]
    have J:Mv (dS g) Y H':=m'.mono λc h z=>h (by simp only[Jl,Jz,JA]at z;rcases z with rfl|rfl;exact oM _;exact cY _)
    refine#[0,q g _ H' (λc o G=>J c o (λz=>by rw[fd c z]at G;cases G) (O _ _ G)) (fd _ (oM _)) (fd _ (oq _)) (fd _ (fR _)) (fd _ (cY _)) (eD▸d') (by rw[Jx];show L.length+1<=30;omega)]
   ·have hy:D.least=0:=by have h:=of_decide_eq_false (Dq.mpr y);omega
    have eD:({D with least:=0}:Dr)=D:=by rw[<- hy]
    exact#[0,q g _ Y O (fd _ (oM _)) (fd _ (oq _)) (fd _ (fR _)) (fd _ (cY _)) (eD▸dl) (by omega)]
end
end Lw
namespace L3
open PySem PySem.Spec PyProof.Rows L2
theorem yq{K:ι}{js:Ε}{te:TE}{σ:L2.St}{H:Hp}{Q:VK}{H0:Hp}{a:Δ}{xs:Β}(c:Sq K H0 a xs)(hn:xs.length<=ζ)(Pv:Nat->Β->Hp->Prop)(d:Pv 0 [] H)(ps:∀i ys H',Pv i ys H'->Fp H0 H')
  (hs:∀i ys H' x,xs[i]? =↑x->ys.length=i->Pv i ys H'->te (↑x::Qc js σ) H' λv e=>Pv (i+1) (ys++[v]) e)
  (hd:∀ys H',ys.length=xs.length->Pv xs.length ys H'->∀p,H' p=none->Q (.ref p) (Ft H' p (.lst ys))):((∃xs,Fw K H a xs)/\aI (eA K a) js te σ H Q)\/((∃xs,FC K H a xs)/\aI (gX K a) js te σ H Q):=by
 rcases c with c|c
 ·exact .inl #[#[_,(ps _ _ _ d).seq c],Qj hn Pv d (λi ys H' p=>(ps i ys H' p).seq c) hs hd]
 ·exact .inr #[#[_,Fp.sqt (ps _ _ _ d) c],bQ hn Pv d (λi ys H' p=>Fp.sqt (ps i ys H' p) c) hs hd]
theorem si(D:Dr)(nm:Str)(age:Int)(r:Option (Int×Int)):(q9 D nm age r).2.map (·.1)=D.kn.map (·.1):=by
 unfold q9;cases e:D.kn.lookup nm with
 |none=>rfl
 |some x=>
  simp only
  split
  ·split
   ·rfl
   ·split
    ·exact ge e
    ·exact ge e
  ·rfl
structure LQ(K:ι)(H:Hp)(r:Δ)(qs:Τ):Prop where
 h:∃rs:Ι,Sq K H r (rs.map V.ref)/\rs.length=qs.length/\∀(i:Nat) (p:Δ) (P:Ps),rs[i]? =↑p->qs[i]? =↑P->Gv H p P/\HC P
def FN(H:Hp)(d:Δ)(ns:Α)(lo hi:Int)(n:Nat):Prop:=∃kvs:List (qz×V),H d=↑(.dK kvs)/\kvs.length<=n/\∀nm∈ns,∃z:Int,zR kvs (Sum.inr nm:qz)=↑(.int z)/\lo<=z/\z<=hi
theorem t6(kvs:List (qz×V))(k:qz)(v:V):(FZ kvs k v).length<=kvs.length+1:=by
 unfold FZ;split
 ·rw[Jd];lia
 ·rw[Jx];exact Je _
section
variable{H H':Hp}{d:Δ}{ns:Α}{lo hi:Int}{n:Nat}{nm:Str}
theorem FN.get(h:FN H d ns lo hi n)(hn:nm∈ns):∃z:Int,FW H d (.str nm) ↑(.int z)/\lo<=z/\z<=hi:=by
 let#[kvs,e,_,r]:=h;let#[z,c,a]:=r nm hn;have g:=FW.k (k:=(Sum.inr nm:qz)) e
 rw[c]at g
 exact#[z,g,a]
theorem FN.put(h:FN H d ns lo hi n)(nm:Str){z:Int}(f:lo<=z)(a:z<=hi)(hn:n<=1000):∃H',GL H d (.str nm) (.int z) H'/\Mv [d] H H'/\FN H' d ns lo hi (n+1):=by
 let#[kvs,e,l,r]:=h;refine#[_,GL.k (k:=(Sum.inr nm:qz)) e (by rw[Jo];lia),Mv.upd1,_,qc,Ju (t6 ..) (by lia),λy c=>?_]
 rw[lT]
 by_cases q:(Sum.inr y:qz)=Sum.inr nm
 ·rw[Jb q];exact#[z,Z,f,a]
 ·rw[Jc q];exact r y c
theorem FN.to(h:FN H d ns lo hi n)(hd:∀o,H d=↑o->H' d=↑o):FN H' d ns lo hi n:=by
 let#[kvs,e,l,r]:=h
 exact#[kvs,hd _ e,l,r]
theorem FN.same(h:FN H d ns lo hi n)(s:Fp H H'):FN H' d ns lo hi n:=h.to λo e=>s _ _ e
theorem FN.grc{b:Δ}{m c:Nat}(h:FN H d ns lo hi n)(hb:F2 H b m)(g:FY b c H H'):FN H' d ns lo hi n:=by
 let#[kvs,e,_]:=id h;let#[x,y,z,a,_]:=id hb;exact h.to λo q=>g.kp _ _ (qC e a (by intro z;cases z)) q
theorem FN.of{kvs:List (qz×V)}{zs:Ζ}(e:H d=↑(.dK kvs))(hk:kvs.map (·.1)=ns.map Sum.inr)(o:ns.Nodup)(hl:ns.length<=n)(q:∀(i:Nat) (l:qz×V),kvs[i]? =↑l->∃z:Int,l.2= .int z/\lo<=z/\z<=hi):FN H d ns lo hi n:=by
 have a:kvs.length=ns.length:=by have:=JH List.length hk;rwa [Jd,Jd]at this
 have g:(kvs.map (·.1)).Nodup:=by rw[hk];exact List.Pairwise.map _ (λx y (h:x≠y) z=>h (by injection z)) o
 refine#[kvs,e,by lia,λnm m=>?_]
 let#[i,hi]:=List.getElem?_of_mem m
 have c:i<kvs.length:=by rw[a];exact(Jp.mp hi).1
 have f:=Jg c;let#[z,p,r]:=q i _ f;have j:(kvs.map (·.1))[i]? =↑(Sum.inr nm):=by rw[hk,Jk,hi];rfl
 rw[Jk,f]at j;have s:kvs[i].1=Sum.inr nm:=Jt j
 refine#[z,?_,r]
 exact br i (by rw[f];congr 1;exact Prod.ext s p) g
end
def Ho(H:Hp)(rl:Δ)(ss:List Sc):Prop:=∃c:Ι,H rl=↑(.lst (c.map V.ref))/\c.length=ss.length/\∀(i:Nat) (a:Δ) (s:Sc),c[i]? =↑a->ss[i]? =↑s->cJ H a s
section
variable{S:Ι}{H H':Hp}{rl a:Δ}{ss:List Sc}{s:Sc}
theorem Ho.mv(h:Ho H rl ss)(m:Mv S H H')(nt:NT S H)(hr:rl∉S):Ho H' rl ss:=by
 let#[d,e,l,r]:=h
 exact#[d,m _ _ hr e,l,λi a s h1 c=>m.tup nt (r i a s h1 c)]
theorem Ho.same(h:Ho H rl ss)(s:Fp H H'):Ho H' rl ss:=h.mv (S:=[]) s.mv gB (λh=>nomatch h)
theorem Ho.grc{b:Δ}{n n':Nat}(h:Ho H rl ss)(hb:F2 H b n)(g:FY b n' H H'):Ho H' rl ss:=by
 let#[d,e,_]:=id h;let#[x,y,z,c,_]:=id hb;exact h.mv g.mv (Qe hb) (qE (qC e c (Qn 0 Z (by intro a z;cases z))))
theorem Ho.add{as:Ι}(e:H rl=↑(.lst (as.map V.ref)))(l:as.length=ss.length)(r:∀(i:Nat) (a:Δ) (s:Sc),as[i]? =↑a->ss[i]? =↑s->cJ H a s)(hs:cJ H a s):Ho (Ft H rl (.lst (as.map V.ref++[.ref a]))) rl (ss++[s]):=by
 have m:Mv [rl] H (Ft H rl (.lst (as.map V.ref++[.ref a]))):=Mv.upd1
 have nt:NT [rl] H:=NT.one e trivial
 refine#[as++[a],by rw[qc,Jy];rfl,by simp [l],λi x y h1 d=>?_]
 rw[J2]at h1 d
 by_cases f:i<as.length
 ·rw[Jb f]at h1;rw[Jb (by lia)]at d
  exact m.tup nt (r i x y h1 d)
 ·rw[Jc f]at h1;rw[Jc (by lia)]at d
  have c:i-as.length=0:=by
   cases c:i-as.length with
   |zero=>rfl
   |succ k=>rw[c]at h1;cases h1
  rw[c]at h1;rw[show i-ss.length=0 by lia]at d
  cases h1;cases d
  exact m.tup nt hs
end
inductive Ln (K:ι) (vs:Β) (H:Hp) (Q:VK):Prop
 |mk (b:Δ) (wa:Io) (c many:Nat) (D:Dr) (ns:Α) (h1:vs=[.ref b,.ref wa.m,.int (many:Int)]) (h2:F2 H b c) (h3:c<100000) (h4:FQ K H wa D ns) (h5:HP D ns) (h6:many<=12) (h7:∀rl (ss:List Sc) H',FY b (c+200) H H'->H rl=none->Ho H' rl ss->(∀s∈ss,GP D s)->ss.length=many->Q (.ref rl) H')
def iC(K:ι):Sp:=λa H Q _=>Ln K a H Q
def GY(H:Hp)(q:Δ)(D:Dr)(L:Ρ):Prop:=∃(k lg:Δ) (ss:Α),H q=↑(.tup [.ref k,.ref lg,.int D.least])/\ss.Perm (D.kn.map (·.1))/\sortedS ss=true/\Ht H k ss D.kn/\Hl H lg L
section
variable{K:ι}{S:Ι}{H H':Hp}{q p:Δ}{D:Dr}{L:Ρ}
theorem GY.mv(h:GY H q D L)(m:Mv S H H')(nt:NT S H):GY H' q D L:=by
 let#[k,lg,ss,e,pm,a,c,lt]:=h
 exact#[k,lg,ss,m.tup nt e,pm,a,c.mvN m nt,lt.mv m nt]
theorem GY.same(h:GY H q D L)(s:Fp H H'):GY H' q D L:=h.mv (S:=[]) s.mv gB
theorem GY.eqk(h1:GY H q D L)(h2:GY H p D L)(hl:L.length<=2000000):Ig K H 6 (.ref q) (.ref p):=by
 let#[k,lg,ss,e,pm,m,n,lt]:=h1;let#[s,r,c,o,l,g,d,f]:=h2
 obtain rfl:ss=c:=mM pm m l g
 refine .tup (FC.of e) (FC.of o) Z λi x y ex a=>?_
 match i,ex,a with
 |0,ex,a=>cases ex;cases a;exact(tN n d (λnm h=>pm.mem_iff.mp h) (λnm=>rfl)).up.up
 |1,ex,a=>cases ex;cases a;exact(lt.eqv f hl).eqk.up
 |2,ex,a=>cases ex;cases a;exact .int _ _
 |j+3,ex,a=>cases ex
end
def HY(H:Hp)(pl:Δ)(ps:Τ):Prop:=∃c:Ι,H pl=↑(.lst (c.map V.ref))/\c.length=ps.length/\∀(i:Nat) (a:Δ) (P:Ps),c[i]? =↑a->ps[i]? =↑P->Gv H a P
inductive HS (K:ι) (C:Δ) (vs:Β) (H:Hp) (Q:VK):Prop
 |mk (a:Da) (D:Dr) (L:Ρ) (h1:vs=[.ref a.p]) (h2:F4 K C H a D L) (h3:GR D) (h4:∀q H',Fp H H'->GY H' q D L->Q (.ref q) H')
def gi(K:ι)(C:Δ):Sp:=λa H Q _=>HS K C a H Q
inductive Iu (K:ι) (vs:Β) (H:Hp) (Q:VK):Prop
 |mk (b:Δ) (wa:Io) (c most:Nat) (D:Dr) (ns:Α) (h1:vs=[.ref b,.ref wa.m,.int (most:Int)]) (h2:F2 H b c) (h3:c<90000) (h4:FQ K H wa D ns) (h5:HP D ns) (h6:most<=11) (h7:∀q rl pl (ss:List Sc) H',FY b (c+201) H H'->H rl=none->H pl=none->H' q=↑(.tup [.ref rl,.ref pl])->Ho H' rl ss->HY H' pl (ss.map (zw D))->(∀s∈ss,GP D s)->ss.length<=most->Q (.ref q) H')
def jc(K:ι):Sp:=λa H Q _=>Iu K a H Q
inductive Iv (K:ι) (C:Δ) (vs:Β) (H:Hp) (Q:VK):Prop
 |mk (sc:Δ) (ns:Ζ) (k most:Nat) (h1:vs=[.ref sc,.int (k:Int),.int (most:Int)]) (h2:Fw K H sc (ns.map V.int)) (h3:k<=1000) (h4:most<=11) (h5:∀q b rl pl (wa:Io) (a:Da) (D:Dr) (L:Ρ) (nms:Α) (ss:List Sc) H',Fp H H'->H' q=↑(.tup [.ref b,.ref wa.m,.ref a.p,.ref rl,.ref pl])->H b=none->F2 H' b 1000->FQ K H' wa D nms->HP D nms->F4 K C H' a D L->L.length<=30->b∉dS a->Ho H' rl ss->HY H' pl (ss.map (zw D))->(∀s∈ss,GP D s)->ss.length<=most->Q (.ref q) H')
def iR(K:ι)(C:Δ):Sp:=λa H Q _=>Iv K C a H Q
end L3
namespace Lw
open PySem L2 L3
section
variable{P:Ξ}{w:Ω}{K:ι}{mg:Fn}{base:Ψ}{tk:Nat->Tok}
theorem pF(a:At K mg "_law_row" cM ["_law_box_here","_law_world_here","_law_many"])(T:F3 K mg tk)(dA:Df P w K mg base "_law_take" x4 1 QK):Df P w K mg base "_law_row" X1 2 (iC K):=by
 refine a.dq FM λf _ A _ s H vs Q E g h=>?_
 ·let#[b,u,c,I,D,ns,rfl,hb,hc,wk,wo,hm,q]:=h
  exists _,(qe (qx (i:=3) FM.nd Z (Or.inl Z) (qN (bu Z) T.b_dict PyProof.Rows.boot_dict (qd (zv (own:=["_law_name"]) (fr:=["_law_world_here"]) (js:=[1]) Z (ze (qA g (qv 1) qk)) Z (Z5 Z) Z (aq Z nofun nofun nofun Z Z Z) (λ_ _ _ _=>qh (i:=0) (show List.Nodup (["_law_name","_law_world_here"]:Α)from by decide +kernel) Z (Or.inl Z) (.inr Z)) (λ_ _ _ _=>(qy (qd (qv 0) (qd (qF (bA (K:=K) Z) (qA g (qA g (qv 1) qk) (qv 0)) qf) qb))))) qb)))
   (qe (qx (i:=4) FM.nd Z (Or.inl Z) (qN (bu Z) T.b_dict PyProof.Rows.boot_dict (qd (zv (own:=["_law_name"]) (fr:=["_law_world_here"]) (js:=[1]) Z (ze (qA g (qv 1) qk)) Z (Z5 Z) Z (aq Z nofun nofun nofun Z Z Z) (λ_ _ _ _=>qh (i:=0) (show List.Nodup (["_law_name","_law_world_here"]:Α)from by decide +kernel) Z (Or.inl Z) (.inr Z)) (λ_ _ _ _=>(qy (qd (qv 0) (qd (qF (bA (K:=K) Z) (qA g (qA g (qv 1) qk) (qv 0)) qf) qb))))) qb)))
   (qe (zn JI Z (ze (qA g (qv 1) qk)) (qh (i:=5) FM.nd Z (Or.inl Z))
   (qg (qK (QW.pt (Zr (qw dc (qF qG (qA g (qA g (qv 1) qk) (qv 5)) qf) zc (qu _)) (Zg (qw za (ql dA g.mo (qd (qv 0) (qd qf qb))) qf (qu _))))) (qg (Qp g (qv 3) (qv 5) (qF zk (qF qG (qA g (qA g (qv 1) qk) (qv 5)) qf) qf))) qB)))
   (qe (qx (i:=6) FM.nd Z (Or.inl Z) (qT qb))
   (qe (zn JI Z (Qs Z T.b_range (qd (qv 2) qb)) (qh (i:=7) FM.nd Z (Or.inl Z))
   (qe (qx (i:=5) FM.nd Z (Or.inl Z) (qF qG (qA g (qv 1) qk) (ql dA g.mo (qd (qv 0) (qd (qr (aO Z) T.b_min PyProof.Rows.boot_min (qd qf (qd (qr qL T.b_len JM (qd (qA g (qv 1) qk) qb)) qb))) qb)))))
   (qe (qx (i:=8) FM.nd Z (Or.inl Z) (qF qG (qT (qd qf (qd qf (qd qf (qd qf (qd qf (qd (qA g (qv 1) qk) (qd (qo qH (qA g (qv 1) qk) qf) (qd (qA g (qv 1) qk) (qd (qo qH (qA g (qv 1) qk) qf) (qd qf qb))))))))))) (ql dA g.mo (qd (qv 0) (qd qf qb)))))
   (qe (Qp g (qv 3) (qv 5) (qr (aO Z) T.b_min PyProof.Rows.boot_min (qd qf (qd (qo qH (qA g (qv 3) (qv 5)) (qv 8)) qb))))
   (qe (qK (qw za (ql dA g.mo (qd (qv 0) (qd qf qb))) qf (qu _)) (qg (Qp g (qv 4) (qv 5) (qr (aO Z) T.b_min PyProof.Rows.boot_min (qd (qo zZ (qr qL T.b_len JM (qd (qA g (qv 1) qk) qb)) qf) (qd (qo qH (qA g (qv 4) (qv 5)) qf) qb))))) qB)
   (qe (qx (i:=9) FM.nd Z (Or.inl Z) (Z8 (qw za (ql dA g.mo (qd (qv 0) (qd qf qb))) qf (qu _)) (qF qG (qT (qd qf (qd qf (qd qf (qd qf (qd qf (qd qf (qd qf (qd qf qb))))))))) (ql dA g.mo (qd (qv 0) (qd qf qb)))) qf))
   (qg (qK (QW.pt (Zr (qw (tO g) (qv 6) (qT qb) (qu _)) (Zg (qw za (ql dA g.mo (qd (qv 0) (qd qf qb))) qf (qu _))))) (qg (zG (QB J3 CT CU zH (qv 6) (qd (qF qG (qv 6) (ql dA g.mo (qd (qv 0) (qd (qr qL T.b_len JM (qd (qv 6) qb)) qb)))) qb)))) (qg (qK (qw za (ql dA g.mo (qd (qv 0) (qd qf qb))) qf (qu _)) (qg (zG (QB J3 CT CU zH (qv 6) (qd (qy (qd qk (qd (qA g (qv 4) (qv 5)) (qd (qA g (qv 3) (qv 5)) (qd qf (qd (qv 9) qb)))))) qb)))) (qg (zG (QB J3 CT CU zH (qv 6) (qd (qy (qd (qv 5) (qd (qA g (qv 4) (qv 5)) (qd (qA g (qv 3) (qv 5)) (qd (ql dA g.mo (qd (qv 0) (qd qf qb))) (qd (qv 9) qb)))))) qb))))))))))))))
   (qg (qp (qv 6))))))))
  have f4:=wo.nl;have k1:=wo.k1;have k8:=wo.ok.kl;have b7:ns.Nodup:=wo.nn▸wo.ok.nd
  have a0:∀nm∈ns,∃e,D.kn.lookup nm=↑e/\II D e/\1<=e.last/\∀x cc,e.wt=↑(x,cc)->0<=cc/\cc<4096/\1<=cc:=λnm hn=>by
   rw[<- wo.nn]at hn;let#[e,he]:=Qv hn;have z:=wo.kb _ (Qg he);have n0:=wo.n0
   exact#[e,he,z.1,z.2,λx cc hw=>#[(z.1.w x cc hw).1,(z.1.w x cc hw).2,by have:=(wo.wt _ (Qg he) x cc hw).2.1;have:=z.2;simp only at *;omega]]
  exists 0,u.m,0,wk.g_names,u.nl,Z,#[_,Fw.of wk.nm]
  refine Qj (K:=K) (xs:=ns.map V.str) (by rw[Jd,Jo];omega) (λi ys H3=>Fp H H3/\∃(as:Ι) (zs:Ζ),ys=as.map V.ref/\as.length=i/\zs.length=i/\(∀z∈zs,1<=z/\z<=4095)/\∀(j:Nat) (x:Δ) (nm:Str) (z:Int),as[j]? =↑x->ns[j]? =↑nm->zs[j]? =↑z->H3 x=↑(.tup [.str nm,.int z])) #[Fp.refl _,[],[],39,(λz h=>nomatch h),λj x nm z h=>(by cases h)] (λi ys H3 ⟨U,_⟩=>U.seq (Fw.of wk.nm)) ?_ ?_
  ·rintro i ys H3 v O e3 ⟨U,as,zs,rfl,la,lz,hz,ha⟩
   let#[nm,rfl,J]:∃nm,v= .str nm/\ns[i]? =↑nm:=by
    rw[Jk]at O;cases z:ns[i]? with
    |none=>rw[z]at O;cases O
    |some y=>rw[z]at O;cases O;exact#[y,8]
   have w3:=wk.same U;let#[e,he,b0,e0,_]:=a0 nm (JG J)
   let#[e',x0,M,gg,vv,b5,a8]:=(w3.kb.get nm).resolve_left (λz=>by rw[he]at z;cases z.1)
   rw[he]at M;cases M
   refine#[1,u.m,0,w3.g_known,0,u.kd,0,gg,x0,2,Fw.of b5,Z,Fd,λt ht=>?_]
   have u4:=Fp.upd (o:= .tup [.str nm,.int e.last]) ht
   refine#[U.trans u4,as++[t],zs++[e.last],by simp,by simp [la],by simp [lz],(λz h=>(JK.mp h).elim (hz z) λh=>by rw[Jn.mp h];exact#[e0,by have:=b0.l1;omega]),λj x e4 z h1 F h3=>?_]
   rw[J2]at h1 h3
   by_cases hj:j<i
   ·rw[Jb (by omega)]at h1 h3
    exact u4 _ _ (ha j x e4 z h1 F h3)
   ·rw[Jc (by omega)]at h1 h3
    have Y:j-as.length=0:=by
     cases Y:j-as.length with
     |zero=>rfl
     |succ k=>rw[Y]at h1;cases h1
    rw[Y]at h1;rw[show j-zs.length=0 by omega]at h3
    cases h1;cases h3
    obtain rfl:j=i:=by omega
    rw[J]at F;cases F;exact qc
  rintro ys HA3 e3 ⟨U,as,zs,rfl,la,lz,hz,ha⟩ l hl
  rw[Jd]at la lz;have HAu:=Fp.upd (o:= .lst (as.map V.ref)) hl
  have W:(ns.zip zs).length=ns.length:=by rw[List.length_zip];omega
  have B:∀(i:Nat) (p:Str×Int),(ns.zip zs)[i]? =↑p->ns[i]? =↑p.1/\zs[i]? =↑p.2:=λi p h=>by rw[List.getElem?_zip_eq_some]at h;exact h
  refine#[l,as,(ns.zip zs).map λp=>((Sum.inr p.1:qz),V.int p.2),Z,qc,by rw[Jd,W,la],λi x kv h1 F=>?_,λC f5=>?_]
  ·rw[Jk]at F
   cases z:(ns.zip zs)[i]? with
   |none=>rw[z]at F;cases F
   |some p=>
    rw[z]at F;cases F
    exact HAu _ _ (ha i x p.1 p.2 h1 (B i p z).1 (B i p z).2)
  have HAk:((ns.zip zs).map λp=>((Sum.inr p.1:qz),V.int p.2)).map (·.1)=ns.map Sum.inr:=by
   rw[JW]
   show(ns.zip zs).map (λp=>(Sum.inr p.1:qz))=_
   rw[show(λp:Str×Int=>(Sum.inr p.1:qz))=(Sum.inr∘Prod.fst)from Z,<- JW,List.map_fst_zip (by omega)]
  have HAnd:((ns.zip zs).map λp=>((Sum.inr p.1:qz),V.int p.2)).map (·.1) |>.Nodup:=by rw[HAk];exact List.Pairwise.map _ (λx y (h:x≠y) z=>h (by injection z)) b7
  rw[Z7 _ [] (by rw[CV];exact HAnd),CV]
  have HAs:Fp H _:=(U.trans HAu).trans (Fp.upd (o:= .dK ((ns.zip zs).map λp=>((Sum.inr p.1:qz),V.int p.2))) f5)
  have HAi:FN _ C ns 1 4095 12:=FN.of (zs:=zs) (qc (H:=Ft HA3 l (.lst (as.map V.ref))) (a:=C) (o:= .dK ((ns.zip zs).map λp=>((Sum.inr p.1:qz),V.int p.2)))) HAk b7 f4 (λi kv h=>by
   rw[Jk]at h;cases z:(ns.zip zs)[i]? with
   |none=>rw[z]at h;cases h
   |some p=>rw[z]at h;cases h;exact#[p.2,Z,hz p.2 (JG (B i p z).2)])
  have HAf:H C=none:=ZB f5 (U.trans HAu)
  generalize Ft (Ft HA3 l (.lst (as.map V.ref))) C (.dK ((ns.zip zs).map λp=>((Sum.inr p.1:qz),V.int p.2)))=HA at HAs HAi⊢
  clear ha hz B W HAk HAnd HAu U;have X:=wk.same HAs;exists 0,u.m,0,X.g_names,u.nl,Z,#[_,Fw.of X.nm]
  refine Qj (K:=K) (xs:=ns.map V.str) (by rw[Jd,Jo];omega) (λi ys H3=>Fp HA H3/\∃(as:Ι) (zs:Ζ),ys=as.map V.ref/\as.length=i/\zs.length=i/\(∀z∈zs,0<=z/\z<=(D.kss.length:Int)-1)/\∀(j:Nat) (x:Δ) (nm:Str) (z:Int),as[j]? =↑x->ns[j]? =↑nm->zs[j]? =↑z->H3 x=↑(.tup [.str nm,.int z])) #[Fp.refl _,[],[],39,(λz h=>nomatch h),λj x nm z h=>(by cases h)] (λi ys H3 ⟨U,_⟩=>U.seq (Fw.of X.nm)) ?_ ?_
  ·rintro i ys H3 v O e3 ⟨U,as,zs,rfl,la,lz,hz,ha⟩
   let#[nm,rfl,J]:∃nm,v= .str nm/\ns[i]? =↑nm:=by
    rw[Jk]at O;cases z:ns[i]? with
    |none=>rw[z]at O;cases O
    |some y=>rw[z]at O;cases O;exact#[y,8]
   have w3:=X.same U;let#[e,he,b0,e0,_]:=a0 nm (JG J)
   let#[e',x0,M,gg,vv,b5,a8]:=(w3.kb.get nm).resolve_left (λz=>by rw[he]at z;cases z.1)
   rw[he]at M;cases M
   refine#[1,u.m,0,w3.g_known,0,u.kd,0,gg,x0,2,Fw.of b5,Z,Fd,λt ht=>?_]
   have u4:=Fp.upd (o:= .tup [.str nm,.int e.age]) ht
   refine#[U.trans u4,as++[t],zs++[e.age],by simp,by simp [la],by simp [lz],(λz h=>(JK.mp h).elim (hz z) λh=>by rw[Jn.mp h];exact#[b0.a0,by have:=b0.a1;omega]),λj x e4 z h1 F h3=>?_]
   rw[J2]at h1 h3
   by_cases hj:j<i
   ·rw[Jb (by omega)]at h1 h3
    exact u4 _ _ (ha j x e4 z h1 F h3)
   ·rw[Jc (by omega)]at h1 h3
    have Y:j-as.length=0:=by
     cases Y:j-as.length with
     |zero=>rfl
     |succ k=>rw[Y]at h1;cases h1
    rw[Y]at h1;rw[show j-zs.length=0 by omega]at h3
    cases h1;cases h3
    obtain rfl:j=i:=by omega
    rw[J]at F;cases F;exact qc
  rintro ys HB3 e3 ⟨U,as,zs,rfl,la,lz,hz,ha⟩ l hl
  rw[Jd]at la lz;have HBu:=Fp.upd (o:= .lst (as.map V.ref)) hl
  have W:(ns.zip zs).length=ns.length:=by rw[List.length_zip];omega
  have B:∀(i:Nat) (p:Str×Int),(ns.zip zs)[i]? =↑p->ns[i]? =↑p.1/\zs[i]? =↑p.2:=λi p h=>by rw[List.getElem?_zip_eq_some]at h;exact h
  refine#[l,as,(ns.zip zs).map λp=>((Sum.inr p.1:qz),V.int p.2),Z,qc,by rw[Jd,W,la],λi x kv h1 F=>?_,λL e6=>?_]
  ·rw[Jk]at F
   cases z:(ns.zip zs)[i]? with
   |none=>rw[z]at F;cases F
   |some p=>
    rw[z]at F;cases F
    exact HBu _ _ (ha i x p.1 p.2 h1 (B i p z).1 (B i p z).2)
  have HBk:((ns.zip zs).map λp=>((Sum.inr p.1:qz),V.int p.2)).map (·.1)=ns.map Sum.inr:=by
   rw[JW]
   show(ns.zip zs).map (λp=>(Sum.inr p.1:qz))=_
   rw[show(λp:Str×Int=>(Sum.inr p.1:qz))=(Sum.inr∘Prod.fst)from Z,<- JW,List.map_fst_zip (by omega)]
  have HBnd:((ns.zip zs).map λp=>((Sum.inr p.1:qz),V.int p.2)).map (·.1) |>.Nodup:=by rw[HBk];exact List.Pairwise.map _ (λx y (h:x≠y) z=>h (by injection z)) b7
  rw[Z7 _ [] (by rw[CV];exact HBnd),CV]
  have HBs:Fp HA _:=(U.trans HBu).trans (Fp.upd (o:= .dK ((ns.zip zs).map λp=>((Sum.inr p.1:qz),V.int p.2))) e6)
  have HBi:FN _ L ns 0 ((D.kss.length:Int)-1) 12:=FN.of (zs:=zs) (qc (H:=Ft HB3 l (.lst (as.map V.ref))) (a:=L) (o:= .dK ((ns.zip zs).map λp=>((Sum.inr p.1:qz),V.int p.2)))) HBk b7 f4 (λi kv h=>by
   rw[Jk]at h;cases z:(ns.zip zs)[i]? with
   |none=>rw[z]at h;cases h
   |some p=>rw[z]at h;cases h;exact#[p.2,Z,hz p.2 (JG (B i p z).2)])
  have HBf:HA L=none:=ZB e6 (U.trans HBu)
  generalize Ft (Ft HB3 l (.lst (as.map V.ref))) L (.dK ((ns.zip zs).map λp=>((Sum.inr p.1:qz),V.int p.2)))=HB at HBs HBi⊢
  clear ha hz B W HBk HBnd HBu U;have c2:=X.same HBs;have IA:=HAi.same HBs;have d4:C≠L:=λz=>by let#[kv,e,_]:=HAi;rw[z,HBf]at e;cases e
  have S0:=HAs.trans HBs;have fg:H L=none:=ZB HBf HAs
  have G0:FY b c H HB:=#[λx o _ e=>S0 _ _ e,(S0.grc hb).bx]
  have put:∀{N H':Hp} {d:Δ} {n:Nat},FY b n H N->H d=none->Mv [d] N H'->(∀x y z:Int,N d≠↑(hX x y z))->FY b n H H':=λ{N H' d n} G fd m nb=>#[λx o hx e=>m _ _ (qE (qt e fd)) (G.kp x o hx e),G.bx.moved m (qE (λz=>by let#[x1,x2,x3,e,_]:=G.bx;rw[z]at e;exact nb _ _ _ e))]
  have d3:∀{N:Hp} {d:Δ} {lo hi:Int} {n:Nat},FN N d ns lo hi n->∀x y z:Int,N d≠↑(hX x y z):=λh x y z w=>by let#[kv,e,_]:=h;rw[e]at w;cases w
  exists 0,u.m,0,c2.g_names,u.nl,Z,#[_,Fw.of c2.nm]
  refine Qa (K:=K) (xs:=ns.map V.str) (Pv:=λi σ N=>∃(o5:Μ),FY b (c+i) H N/\FN N C ns 1 4095 (12+i)/\FN N L ns 0 ((D.kss.length:Int)-1) 12/\σ=[↑(.ref b),↑(.ref u.m),↑(.int (I:Int)),↑(.ref C),↑(.ref L),o5,none,none,none,none]) #[_,G0,IA,HBi,Z] (λi σ N _ ⟨_,G,_⟩=>Fw.of (wk.grc hb G).nm) ?_ ?_
  ·rintro i v σ N O ⟨o5,G,ia,ig,rfl⟩
   let#[nm,rfl,J]:∃nm,v= .str nm/\ns[i]? =↑nm:=by
    rw[Jk]at O;cases z:ns[i]? with
    |none=>rw[z]at O;cases O
    |some y=>rw[z]at O;cases O;exact#[y,8]
   have hi:i<ns.length:=(Jp.mp J).1
   have wx:=wk.grc hb G;let#[e,he,b0,e0,n8]:=a0 nm (JG J)
   let#[e',x0,M,gg,vv,b5,a8]:=(wx.kb.get nm).resolve_left (λz=>by rw[he]at z;cases z.1)
   rw[he]at M;cases M
   have stay:∀{H':Hp} {n':Nat} {o:Μ},FY b n' H H'->n'<=c+(i+1)->FN H' C ns 1 4095 (12+i)->FN H' L ns 0 ((D.kss.length:Int)-1) 12->∃(o5:Μ),FY b (c+(i+1)) H H'/\FN H' C ns 1 4095 (12+(i+1))/\FN H' L ns 0 ((D.kss.length:Int)-1) 12/\[↑(.ref b),↑(.ref u.m),↑(.int (I:Int)),↑(.ref C),↑(.ref L),o,none,none,none,none]=[↑(.ref b),↑(.ref u.m),↑(.int (I:Int)),↑(.ref C),↑(.ref L),o5,none,none,none,none]:=λ{H' n' o} S b4 h1 F=>#[o,S.mono b4,let⟨kv,e,l,r⟩:=h1;#[kv,e,by omega,r],F,Z]
   exists 0,u.m,0,wx.g_known,0,u.kd,0,gg,x0,2,Fw.of b5,62
   refine qO (λy=>?_) (λ_=>stay G (by omega) ia ig)
   refine#[0,b,5,G.bx,by omega,⋯,⋯,λr H1 r0 r1 g1=>#[14,?_]]
   have G1:=G.trans g1;refine qO (λ_=>?_) (λ_=>stay G1 (by omega) (ia.grc G.bx g1) (ig.grc G.bx g1))
   have w1:=wk.grc hb G1;let#[e',x1,M,p7,r8,p2,g7]:=(w1.kb.get nm).resolve_left (λz=>by rw[he]at z;cases z.1)
   rw[he]at M;cases M
   cases hw:e.wt with
   |none=>rw[hw]at a8;have a8:vv= .non:=a8;rw[a8]at y;simp at y
   |some xc=>
    rw[hw]at g7;let#[p,rfl,hp]:=g7;have r4:=n8 _ _ hw;let#[H2,dp,m2,p8]:=(ia.grc G.bx g1).put nm (z:=xc.2) (by omega) (by omega) (by omega)
    exists 0,u.m,0,w1.g_known,0,u.kd,0,p7,x1,2,Fw.of p2,Z,p,2,FC.of hp,55,C,H2,Z,dp
    exact#[_,(put G1 HAf m2 (d3 (ia.grc G.bx g1))).mono (by omega),by rw[show 12+(i+1)=12+i+1 by omega];exact p8,(ig.grc G.bx g1).to (λo q=>m2 _ _ (qE d4.symm) q),Z]
  rintro σ N ⟨o5,G,ia,ig,rfl⟩
  rw[Jd]at G ia;refine#[Fb,λrl i1=>?_]
  have ur:=Fp.upd (o:= .lst []) i1
  have i0:H rl=none:=G.fresh (hb.mono (by omega)) i1
  have Gr0:FY b (c+12) H (Ft N rl (.lst [])):=(G.same ur).mono (by omega)
  have h5:Ho (Ft N rl (.lst [])) rl []:=#[[],qc,Z,λi a s h=>(by cases h)]
  have e8:=ia.same ur;have f6:=ig.same ur;generalize Ft N rl (.lst [])=Hr at Gr0 h5 e8 f6⊢
  exists 1,by omega,by omega
  rw[Dm];refine ZP (n:=I) (Pv:=λi σ N=>∃(ss:List Sc) (o5 o7 o8 o9:Μ),FY b (c+12+10*i) H N/\FN N C ns 1 4095 (24+i)/\FN N L ns 0 ((D.kss.length:Int)-1) (12+i)/\Ho N rl ss/\ss.length=i/\(∀s∈ss,GP D s)/\σ=[↑(.ref b),↑(.ref u.m),↑(.int (I:Int)),↑(.ref C),↑(.ref L),o5,↑(.ref rl),o7,o8,o9]) #[[],52,Gr0,(let⟨kv,e,l,r⟩:=e8;#[kv,e,by omega,r]),f6,h5,Z,(λs h=>nomatch h),Z] ?_ ?_
  ·rintro i σ Hy hi ⟨ss,o5,o7,o8,o9,G,ia,ig,sl,ls,c0,rfl⟩
   have n1:=wo.n1;have wy:=wk.grc hb G;refine#[0,u.m,0,wy.g_names,1,u.m,0,wy.g_names,u.nl,0,.inl (Fw.of wy.nm),5,b,5,G.bx,by omega,by rw[Jd];split<;>omega,by rw[Jd];split<;>omega,λxj H1 j0 j1 g1=>?_]
   rw[Jd]at j1;let#[j,rfl]:∃j:Nat,xj=(j:Int):=#[xj.toNat,by omega]
   have hj:j<ns.length:=by revert j1;split<;>intro j1<;>omega
   have G1:=G.trans g1;have w1:=wk.grc hb G1;exists u.nl,15,.str ns[j],8,Fw.of w1.nm,zW (by rw[Jk,Jg hj];rfl)
   have a5:=CQ hj;generalize ns[j]=nm at a5
   refine#[0,u.m,0,w1.g_near,0,u.m,0,w1.g_near,23,u.m,0,w1.g_far,0,u.m,0,w1.g_far,7,Fi,λl2 g2=>?_]
   have u2:=Fp.upd (o:= .lst [.int 1,.int 1,.int 1,.int 1,.int 2,.int D.near,.int (D.near+1),.int D.far,.int (D.far+1),.int 0]) g2
   refine#[0,b,5,(u2.grc G1.bx).bx,by omega,⋯,⋯,λr3 H3 m7 o6 g3=>?_]
   let#[v,O,b3]:=Z4 (xs:=[V.int 1,.int 1,.int 1,.int 1,.int 2,.int D.near,.int (D.near+1),.int D.far,.int (D.far+1),.int 0]) m7 o6
   have n0:=wo.n0;have nf:=wo.nf;have f2:=wo.f2;let#[a2,rfl,q5]:∃z:Int,v= .int z/\0<=z:=by
    simp only[Jl,Jz,JA]at b3;rcases b3 with rfl|rfl|rfl|rfl|rfl|rfl|rfl|rfl|rfl|rfl<;>exact#[0,by omega]
   exists l2,2,Fw.of (g3.kp _ _ (Ql G1.bx g2) qc),O
   have G3:FY b (c+12+10*i+2) H H3:=((G1.same u2).trans g3).mono (by omega)
   have b6:=((ia.grc G.bx g1).same u2).grc (u2.grc G1.bx).bx g3;have p0:=((ig.grc G.bx g1).same u2).grc (u2.grc G1.bx).bx g3;have g6:=((sl.grc G.bx g1).same u2).grc (u2.grc G1.bx).bx g3;let#[z,gz,z0,z1]:=b6.get a5;let#[H4,l8,m4,o2]:=b6.put nm (z:=if z+a2<4095 then z+a2 else 4095) (by split<;>omega) (by split<;>omega) (by omega)
   exists 1,C,0,gz,44,C,H4,Z,l8
   let#[q6,f1,_]:=id b6;have n7:NT [C] H3:=NT.one f1 trivial
   let#[s1,l0,_]:=id g6;have G4:=put G3 HAf m4 (d3 b6);have m5:=p0.to (λo q0=>m4 _ _ (qE d4.symm) q0)
   have m0:=g6.mv m4 n7 (qE (qC l0 f1 (by intro z;cases z)))
   refine Bp (λf0 H'=>FY b (c+12+10*i+3) H H'/\FN H' C ns 1 4095 (24+(i+1))/\FN H' L ns 0 ((D.kss.length:Int)-1) (12+(i+1))/\Ho H' rl ss/\f0=[↑(.ref b),↑(.ref u.m),↑(.int (I:Int)),↑(.ref C),↑(.ref L),↑(.str nm),↑(.ref rl),↑(.int (0+(i:Int))),↑(.int a2),o9]) (λD' r7 h0=>?_) ?_
   ·refine#[0,b,5,G4.bx,by omega,⋯,⋯,λr H5 r0 r1 g5=>#[14,?_]]
    have G5:=G4.trans g5;have p1:=o2.grc G4.bx g5;have b2:=m5.grc G4.bx g5;have d7:=m0.grc G4.bx g5;have c1:FN H5 C ns 1 4095 (24+(i+1)):=by rw[show 24+(i+1)=24+i+1 by omega];exact p1
    refine qO (λ_=>?_) (λ_=>h0 _ _ #[G5.mono (by omega),c1,(let⟨kv,e,l,r⟩:=b2;#[kv,e,by omega,r]),d7,Z])
    have w5:=wk.grc hb G5;let#[l7,l5,q3,_]:=id w5.ks;let#[y,gy,y0,y1]:=b2.get a5;let#[H6,o0,m6,p3]:=b2.put nm (z:=if y+1<(D.kss.length:Int)-1 then y+1 else(D.kss.length:Int)-1) (by split<;>omega) (by split<;>omega) (by omega)
    have m1:(l7.map V.ref).length=D.kss.length:=by rw[Jd];exact q3
    exists 0,u.m,0,w5.g_keys,u.ml,0,.inl (Fw.of l5),60,L,0,gy,_,_,Z,Z,_,_,Z
    rw[m1];exists 1,L,H6,Z,o0
    let#[s0,e5,_]:=id b2;let#[q4,p4,_]:=id d7;exact h0 _ _ #[(put G5 fg m6 (d3 b2)).mono (by omega),c1.to (λo q0=>m6 _ _ (qE d4) q0),by rw[show 12+(i+1)=12+i+1 by omega];exact p3,d7.mv m6 (NT.one e5 trivial) (qE (qC p4 e5 (by intro z;cases z))),Z]
   rintro f0 H7 ⟨G7,q2,m9,n3,rfl⟩
   refine bj (t:=pT _ _ _) (λv H'=>∃ft:Int,v= .int ft/\0<=ft/\ft<=3/\FY b (c+12+10*i+5) H7 H') (λQ' hQ=>?_) (λv H8 ⟨ft,ev,h4,g0,g8⟩=>?_)
   ·refine#[0,b,5,G7.bx,by omega,⋯,⋯,λr H8 r0 r1 g8=>#[14,?_]]
    refine qO (λ_=>?_) (λ_=>hQ _ _ #[(0),Z,⋯,⋯,g8.mono (by omega)])
    refine#[Fh,λl9 h7=>?_]
    have u9:=Fp.upd (o:= .lst [.int 0,.int 0,.int 0,.int 0,.int 0,.int 1,.int 2,.int 3]) h7
    refine#[0,b,5,(u9.grc g8.bx).bx,by omega,⋯,⋯,λr9 H9 o4 o3 g9=>?_]
    let#[v,O,b3]:=Z4 (xs:=[V.int 0,.int 0,.int 0,.int 0,.int 0,.int 1,.int 2,.int 3]) o4 o3
    refine#[l9,2,Fw.of (g9.kp _ _ (Ql g8.bx h7) qc),O,hQ _ _ ?_]
    have gg:FY b (c+12+10*i+5) H7 H9:=((g8.same u9).trans g9).mono (by omega)
    simp only[Jl,Jz,JA]at b3;rcases b3 with rfl|rfl|rfl|rfl|rfl|rfl|rfl|rfl<;>exact#[0,⋯,⋯,gg]
   subst ev;have G8:=G7.trans g8;have h9:=q2.grc G7.bx g8;have f3:=m9.grc G7.bx g8;have d2:=n3.grc G7.bx g8;have i2:Zp "nobody":=#[nofun,nofun,nofun]
   have l4:aL 3:=#[⋯,⋯]
   have d9:∀(s:Sc) (x:Δ) (as:Ι) (Hz:Hp) (n':Nat),FY b n' H Hz->n'<=c+12+10*(i+1)->FN Hz C ns 1 4095 (24+(i+1))->FN Hz L ns 0 ((D.kss.length:Int)-1) (12+(i+1))->Hz rl=↑(.lst (as.map V.ref))->as.length=ss.length->(∀(i:Nat) (a:Δ) (s:Sc),as[i]? =↑a->ss[i]? =↑s->cJ Hz a s)->cJ Hz x s->GP D s->∃(d8:List Sc) (o5 o7 o8 o9:Μ),FY b (c+12+10*(i+1)) H (Ft Hz rl (.lst (as.map V.ref++[.ref x])))/\FN (Ft Hz rl (.lst (as.map V.ref++[.ref x]))) C ns 1 4095 (24+(i+1))/\FN (Ft Hz rl (.lst (as.map V.ref++[.ref x]))) L ns 0 ((D.kss.length:Int)-1) (12+(i+1))/\Ho (Ft Hz rl (.lst (as.map V.ref++[.ref x]))) rl d8/\d8.length=i+1/\(∀s∈d8,GP D s)/\[↑(.ref b),↑(.ref u.m),↑(.int (I:Int)),↑(.ref C),↑(.ref L),↑(.str nm),↑(.ref rl),↑(.int (0+(i:Int))),↑(.int a2),↑(.int ft)]=[↑(.ref b),↑(.ref u.m),↑(.int (I:Int)),↑(.ref C),↑(.ref L),o5,↑(.ref rl),o7,o8,o9]:=λs x as Hz n' S b4 a3 a4 er l1 hs hx p9=>by
    let#[q7,ea,_]:=id a3;let#[r2,eg,_]:=id a4;refine#[ss++[s],52,(put S i0 Mv.upd1 (λx y z w=>by rw[er]at w;exact Qn (as:=as) 0 Z (by intro a z;cases z) (Jt w))).mono b4,a3.to (λo q0=>by rw[qi (qC ea er (by intro z;cases z))];exact q0),a4.to (λo q0=>by rw[qi (qC eg er (by intro z;cases z))];exact q0),Ho.add er l1 hs hx,by simp [ls],λy hy=>(JK.mp hy).elim (c0 y) λh=>by rw[Jn.mp h];exact p9,Z]
   refine vf ?_
   refine AZ (λbb H'=>∃n',FY b n' H H'/\n'<=c+12+10*i+6/\FN H' C ns 1 4095 (24+(i+1))/\FN H' L ns 0 ((D.kss.length:Int)-1) (12+(i+1))/\Ho H' rl ss/\(bb=true->1<=ss.length)) (λQ' hQ=>?_) (λH' ⟨n',S,b4,a3,a4,b1,h1⟩=>?_) (λH' ⟨n',S,b4,a3,a4,b1,_⟩=>?_)
   ·let#[l6,m3,l3,_]:=id d2
    refine#[0,Fb,λle o1=>?_]
    have ue:=Fp.upd (o:= .lst []) o1
    exists rl,le,32,Fw.of (ue _ _ m3),Fw.of qc,0
    have Ge:=G8.same ue;refine qO (λy=>?_) (λ_=>hQ _ _ #[_,Ge,by omega,h9.same ue,f3.same ue,d2.same ue,λz=>nomatch z])
    refine#[0,b,5,Ge.bx,by omega,⋯,⋯,λr H9 r0 r1 g9=>#[14,hQ _ _ #[_,Ge.trans g9,by omega,(h9.same ue).grc Ge.bx g9,(f3.same ue).grc Ge.bx g9,(d2.same ue).grc Ge.bx g9,λ_=>?_]]]
    rw[<- l3];cases l6 with
    |nil=>simp at y
    |cons p r=>show 1<=r.length+1;omega
   ·have h1:=h1 Z
    let#[a1,R,c3,c4]:=id b1;refine#[0,.inl #[37,Fw.of R],4,rl,0,.inl (Fw.of R),b,5,S.bx,by omega,by rw[Jd];omega,by rw[Jd];omega,λxk Ha k0 q1 ga=>?_]
    rw[Jd]at q1;let#[k,rfl]:∃k:Nat,xk=(k:Int):=#[xk.toNat,by omega]
    have hk:k<a1.length:=by omega
    have r5:=b1.grc S.bx ga;have d5:=ga.kp _ _ (by let#[y1,y2,y3,eb,_]:=S.bx;exact qC R eb (Qn 0 Z (by intro a z;cases z))) R
    have g4:∀(i:Nat) (a:Δ) (s:Sc),a1[i]? =↑a->ss[i]? =↑s->cJ Ha a s:=λi a s h1 F=>ga.mv.tup (Qe S.bx) (c4 i a s h1 F)
    have h6:k<ss.length:=by omega
    exists rl,15,.ref a1[k],8,Fw.of d5,zW (by rw[Jk,Jg hk];rfl),rl,7,d5,by rw[Jd,Jo];omega
    exact d9 ss[k] a1[k] a1 Ha _ (S.trans ga) (by omega) (a3.grc S.bx ga) (a4.grc S.bx ga) d5 c3 g4 (g4 k _ _ (Jg hk) (Jg h6)) (c0 _ (CQ h6))
   ·refine#[0,b,5,S.bx,by omega,⋯,⋯,λr Ha r0 r1 ga=>#[14,?_]]
    have Ga:=S.trans ga;have e2:=a3.grc S.bx ga;have e1:=a4.grc S.bx ga;let#[a1,R,c3,c4]:=id (b1.grc S.bx ga)
    let#[y,gy,y0,y1]:=e1.get a5;let#[z9,h8,s2,r6]:=e2.get a5;refine qO (λ_=>?_) (λ_=>?_)
    ·refine#[0,.inl #[37,Fw.of R],1,L,0,gy,1,C,0,h8,0,Fg,λtt d6=>?_]
     have ut:=Fp.upd (o:= .tup [.str "nobody",.int y,.int z9,.int 3,.int ft]) d6
     exists rl,7,ut _ _ R,by rw[Jd,Jo];omega
     exact d9 #["nobody",y,z9,(3),ft] tt a1 _ _ (Ga.same ut) (by omega) (e2.same ut) (e1.same ut) (ut _ _ R) c3 (λi a s h1 F=>ut _ _ (c4 i a s h1 F)) qc #[i2,y0,by show y<(D.kss.length:Int);omega,by show 0<=z9;omega,by show z9<4096;omega,l4,h4,g0]
    ·refine#[0,.inl #[37,Fw.of R],4,L,0,gy,1,C,0,h8,0,b,5,Ga.bx,by omega,⋯,⋯,λd Hb d0 d1 gb=>#[0,Fg,λtt d6=>?_]]
     have Gb:=Ga.trans gb;let#[p6,k2,n2,p5]:=id ((b1.grc S.bx ga).grc Ga.bx gb)
     have ut:=Fp.upd (o:= .tup [.str nm,.int y,.int z9,.int d,.int ft]) d6
     exists rl,7,ut _ _ k2,by rw[Jd,Jo];omega
     exact d9 #[nm,y,z9,d,ft] tt p6 _ _ (Gb.same ut) (by omega) ((e2.grc Ga.bx gb).same ut) ((e1.grc Ga.bx gb).same ut) (ut _ _ k2) n2 (λi a s h1 F=>ut _ _ (p5 i a s h1 F)) qc #[wo.nm nm a5,y0,by show y<(D.kss.length:Int);omega,by show 0<=z9;omega,by show z9<4096;omega,#[d0,d1],h4,g0]
  ·rintro σ Hy ⟨ss,o5,o7,o8,o9,G,ia,ig,sl,ls,c0,rfl⟩
   exact#[0,q rl ss _ (G.mono (by omega)) i0 sl c0 ls]
end
section
variable{P:Ξ}{w:Ω}{K:ι}{mg:Fn}{base:Ψ}{tk:Nat->Tok}{C:Δ}
theorem jG(a:At K mg "_law_stands" al ["_law_door_here"])(T:F3 K mg tk)(U:GB K C)(n:Mf P w K mg base C "known_now" V4 1 (lV K C))(p:Mf P w K mg base C "log_now" V4 1 (rB K C))(r:Mf P w K mg base C "closed_now" V4 1 (jn K C)):Df P w K mg base "_law_stands" ["_law_door_here"] 2 (gi K C):=by
 refine a.dq jz λf _ A _ s H y Q E c h=>?_
 ·let#[x,D,L,rfl,b,ok,q]:=h
  exists _,(qg (qp (qy (qd (bV n U.cl c.mo (qv 0)) (qd (bV p U.cl c.mo (qv 0)) (qd (bV r U.cl c.mo (qv 0)) qb))))))
  refine#[0,x.p,Z,b.dr.no,x.p,x.ta,x.hk,x.bd,x.lg,L.length,D,Z,b.dr,ok,λk ss H1 i pm l m=>?_]
  have d:=b.same i;refine#[0,x.p,Z,d.dr.no,x,D,L,Z,d,λlg v e lt=>?_]
  have j:=d.same e;refine#[0,x.p,Z,j.dr.no,x.p,x.ta,x.hk,x.bd,x.lg,L.length,D,Z,j.dr,Fe,λt u=>?_]
  have g:=Fp.upd (o:= .tup [.ref k,.ref lg,.int D.least]) u
  exact q t _ (i.trans (e.trans g)) #[k,lg,ss,qc,pm,l,m.same (e.trans g),lt.same g]
theorem fO(a:At K mg "_law_other_row" Zs ["_law_box_here","_law_world_here","_law_most"])(T:F3 K mg tk)(dA:Df P w K mg base "_law_take" x4 1 QK)(dY:Df P w K mg base "_law_row" X1 2 (iC K))(dG:Df P w K mg base "_law_press" X3 4 (aD K)):Df P w K mg base "_law_other_row" X7 5 (jc K):=by
 refine a.dq Gq λf _ A _ s H vs Q E L h=>?_
 ·let#[b,wa,c,a0,D,ns,rfl,u,hc,wk,wo,hm,q]:=h
  exists _,(qe (qx (i:=3) Gq.nd Z (Or.inl Z) (ql dY L.mo (qd (qv 0) (qd (qv 1) (qd (ql dA L.mo (qd (qv 0) (qd (qo qH (qv 2) qf) qb))) qb)))))
   (qg (qp (qy (qd (qv 3) (qd (zv (own:=["_law_spec"]) (fr:=["_law_world_here"]) (js:=[1]) Z (ze (qv 3)) Z (Z5 Z) Z (aq Z nofun nofun nofun Z Z Z) (λ_ _ _ _=>qh (i:=0) (show List.Nodup (["_law_spec","_law_world_here"]:Α)from by decide +kernel) Z (Or.inl Z) (.inr Z)) (λ_ _ _ _=>(ql dG L.mo (qd (qv 1) (qd (qv 0) qb))))) qb))))))
  refine#[17,b,5,u,by omega,by omega,by omega,λr H1 r0 r1 G=>?_]
  let#[y,rfl]:∃j:Nat,r=(j:Int):=#[r.toNat,by omega]
  refine#[b,wa,_,y,D,ns,Z,G.bx,by omega,wk.grc u G,wo,by omega,λrl ss H2 g2 Y sl t a1=>?_]
  have G2:=G.trans g2;have J:=wk.grc u G2;let#[p,e0,n,h0]:=id sl;exists 1,rl,Z,#[_,Fw.of e0]
  refine Qj (K:=K) (xs:=p.map V.ref) (by rw[Jd,n,Jo];omega) (λi ys m=>Fp H2 m/\∃d:Ι,ys=d.map V.ref/\d.length=i/\∀(j:Nat) (x:Δ) (s:Sc),d[j]? =↑x->ss[j]? =↑s->Gv m x (zw D s)) #[Fp.refl _,[],8,λj x s h=>(by cases h)] (λi ys m ⟨sz,_⟩=>Fw.of (sz _ _ e0)) ?_ ?_
  ·rintro i ys m v B N ⟨sz,d,rfl,I,R⟩
   rw[Jk]at B;cases es:p[i]? with
   |none=>rw[es]at B;cases B
   |some x0=>
    rw[es]at B
    obtain rfl:V.ref x0=v:=Jt B
    have hi:i<ss.length:=by rw[<- n];exact(Jp.mp es).1
    have C:=Jg hi;refine#[1,wa,x0,D,ns,ss[i],Z,J.same sz,wo.ok.tp,sz _ _ (h0 i x0 _ es C),t _ (CQ hi),λpr Hw sw X=>?_]
    refine#[sz.trans sw,d++[pr],by simp,by simp [I],λj x s h1 g=>?_]
    rw[J2]at h1;split at h1
    ·exact FP.same sw (R j x s h1 g)
    ·have U:j-d.length=0:=by
      cases U:j-d.length with
      |zero=>rfl
      |succ k=>rw[U]at h1;cases h1
     rw[U]at h1;cases h1
     obtain rfl:j=i:=by omega
     rw[C]at g;cases g;exact X
  rintro ys m N ⟨sz,d,rfl,I,R⟩ pl F
  rw[Jd]at I;have up:=Fp.upd (o:= .lst (d.map V.ref)) F
  have pL:HY (Ft m pl (.lst (d.map V.ref))) pl (ss.map (zw D)):=#[d,qc,by rw[Jd,I,n],λi x P h1 g=>by
   rw[Jk]at g;cases z:ss[i]? with
   |none=>rw[z]at g;cases g
   |some s=>rw[z]at g;cases g;exact FP.same up (R i x s h1 z)]
  refine#[Fd,λqq O=>?_]
  have M:=Fp.upd (o:= .tup [.ref rl,.ref pl]) O
  have S:=sz.trans (up.trans M);have W:HY (Ft (Ft m pl (.lst (d.map V.ref))) qq (.tup [.ref rl,.ref pl])) pl (ss.map (zw D)):=let⟨x,e,l,r⟩:=pL;#[x,M _ _ e,l,λi a P h1 g=>FP.same M (r i a P h1 g)]
  exact q qq rl pl ss _ ((G2.same S).mono (by omega)) (G.fresh (u.mono (by omega)) Y) (G2.fresh (u.mono (by omega)) (ZB F sz)) qc (sl.same S) W t (by omega)
theorem lH(a:At K mg "_law_begun" aW ["_law_script","_law_k","_law_most"])(T:F3 K mg tk)(U:GB K C)(xA:Df P w K mg base "_law_box" W7 1 (jZ K))(dA:Df P w K mg base "_law_take" x4 1 QK)(xR:Df P w K mg base "_law_world" ["_law_box_here","_law_great"] 3 (jd K))(dY:Df P w K mg base "_law_row" X1 2 (iC K))(x6:Df P w K mg base "_law_door" ["_law_world_here"] 8 (lB K C))(dG:Df P w K mg base "_law_press" X3 4 (aD K)):Df P w K mg base "_law_begun" W6 9 (iR K C):=by
 refine a.dq Gk λf _ A _ s H vs Q E n h=>?_
 ·let#[sc,ns,k,a5,rfl,hS,hk,hm,q]:=h
  exists _,(qe (qx (i:=3) Gk.nd Z (Or.inl Z) (ql xA n.mo (qd (qv 0) (qd (qv 1) qb))))
   (qe (qx (i:=4) Gk.nd Z (Or.inr Z) (ql xR n.mo (qd (qv 3) (qd (Qb (zx za (qv 1) qf (qu _)) (Qu (zx za (ql dA n.mo (qd (qv 3) (qd qf qb))) qf (qu _)))) qb))))
   (qe (qx (i:=5) Gk.nd Z (Or.inl Z) (ql dY n.mo (qd (qv 3) (qd (qv 4) (qd (ql dA n.mo (qd (qv 3) (qd (qo qH (qv 2) qf) qb))) qb)))))
   (qg (qp (qy (qd (qv 3) (qd (qv 4) (qd (ql x6 n.mo (qd (qv 4) qb)) (qd (qv 5) (qd (zv (own:=["_law_spec"]) (fr:=["_law_world_here"]) (js:=[4]) Z (ze (qv 5)) Z (Z5 Z) Z (aq Z nofun nofun nofun Z Z Z) (λ_ _ _ _=>qh (i:=0) (show List.Nodup (["_law_spec","_law_world_here"]:Α)from by decide +kernel) Z (Or.inl Z) (.inr Z)) (λ_ _ _ _=>(ql dG n.mo (qd (qv 1) (qd (qv 0) qb))))) qb)))))))))))
  refine#[1,sc,ns,k,Z,hS,by omega,λb H1 hb s1 bx=>?_]
  exists 0
  refine bj (t:=oH _ _) (λv H'=>∃g:Bool,v= .bl g/\FY b 1 H1 H') (λQ' hQ=>?_) (λv H2 ⟨g,ev,R⟩=>?_)
  ·exists 3
   refine qO (λ_=>?_) (λ_=>hQ _ _ #[false,Z,λx o _ e=>e,bx.mono (by omega)])
   exact#[0,b,5,bx,by omega,⋯,⋯,λr H2 r0 r1 R=>#[Z,hQ _ _ #[0,R]]]
  subst ev;refine#[b,g,(1),Z,R.bx,by omega,λy D m H3 Y f1 f2 f3 f4 wk X=>?_]
  refine#[17,b,5,Y.bx,by omega,by omega,by omega,λr H4 r0 r1 N=>?_]
  let#[I,rfl]:∃j:Nat,r=(j:Int):=#[r.toNat,by omega]
  refine#[b,y,_,I,D,m,Z,N.bx,by omega,wk.grc Y.bx N,X,by omega,λrl ss H5 W b0 sl G a8=>?_]
  have F:=(wk.grc Y.bx N).grc N.bx W;have S5:Fp H H5:=ff hb s1 (((R.trans Y).trans N).trans W)
  refine#[4,y,D,m,Z,F,X,λda L H6 O p1 p2 p3 p4 dl hL=>?_]
  have Hm:=F.same O;have fd:=n6 p1 p2 p3 p4;let#[B,e0,u,h0]:=id (sl.same O)
  exists 1,rl,Z,#[_,Fw.of e0]
  refine Qj (K:=K) (xs:=B.map V.ref) (by rw[Jd,u,Jo];omega) (λi ys p=>Fp H6 p/\∃c:Ι,ys=c.map V.ref/\c.length=i/\∀(j:Nat) (x:Δ) (s:Sc),c[j]? =↑x->ss[j]? =↑s->Gv p x (zw D s)) #[Fp.refl _,[],8,λj x s h=>(by cases h)] (λi ys p ⟨sz,_⟩=>Fw.of (sz _ _ e0)) ?_ ?_
  ·rintro i ys p v J a0 ⟨sz,c,rfl,la,ha⟩
   rw[Jk]at J;cases es:B[i]? with
   |none=>rw[es]at J;cases J
   |some x0=>
    rw[es]at J
    obtain rfl:V.ref x0=v:=Jt J
    have hi:i<ss.length:=by rw[<- u];exact(Jp.mp es).1
    have M:=Jg hi;refine#[1,y,x0,D,m,ss[i],Z,Hm.same sz,X.ok.tp,sz _ _ (h0 i x0 _ es M),G _ (CQ hi),λpr Hw sw a4=>?_]
    refine#[sz.trans sw,c++[pr],by simp,by simp [la],λj x s h1 d=>?_]
    rw[J2]at h1;split at h1
    ·exact FP.same sw (ha j x s h1 d)
    ·have hj:j-c.length=0:=by
      cases hj:j-c.length with
      |zero=>rfl
      |succ k=>rw[hj]at h1;cases h1
     rw[hj]at h1;cases h1
     obtain rfl:j=i:=by omega
     rw[M]at d;cases d;exact a4
  rintro ys p a0 ⟨sz,c,rfl,la,ha⟩ pl a2
  rw[Jd]at la;have up:=Fp.upd (o:= .lst (c.map V.ref)) a2
  have pL:HY (Ft p pl (.lst (c.map V.ref))) pl (ss.map (zw D)):=#[c,qc,by rw[Jd,la,u],λi x P h1 d=>by
   rw[Jk]at d;cases z:ss[i]? with
   |none=>rw[z]at d;cases d
   |some s=>rw[z]at d;cases d;exact FP.same up (ha i x s h1 z)]
  refine#[Fg,λqq a1=>?_]
  have uq:=Fp.upd (o:= .tup [.ref b,.ref y.m,.ref da.p,.ref rl,.ref pl]) a1
  have S:=sz.trans (up.trans uq);have a3:HY (Ft (Ft p pl (.lst (c.map V.ref))) qq (.tup [.ref b,.ref y.m,.ref da.p,.ref rl,.ref pl])) pl (ss.map (zw D)):=let⟨x,e,l,r⟩:=pL;#[x,uq _ _ e,l,λi a P h1 d=>FP.same uq (r i a P h1 d)]
  refine q qq b rl pl y da D L m ss _ (S5.trans (O.trans S)) qc hb (((O.trans S).grc W.bx).bx.mono (by omega)) (Hm.same S) X (dl.same S) hL (λz=>?_) ((sl.same O).same S) a3 G (by omega)
  let#[y1,y2,y3,eb,_]:=W.bx;rw[fd b z]at eb;cases eb
end
end Lw
namespace L3
open PySem PySem.Spec PyProof.Rows L2 PySem.SeqAt
inductive PK
 |int (n:Int)
 |non
 |nil
 |cons (x xs:PK)
deriving DecidableEq
def PK.dr:PK->Nat×Nat
 | .int _=>(1,0)
 | .non=>(1,0)
 | .nil=>(1,0)
 | .cons x xs=>(x.dr.1+xs.dr.2+1,x.dr.1+xs.dr.2)
def PK.hs:PK->Int×Ζ
 | .int n=>(hashInt n,[])
 | .non=>(reduceHash 0xFCA86420,[])
 | .nil=>(reduceHash (γ.Tuple.tupleHashOf []),[])
 | .cons x xs=>(reduceHash (γ.Tuple.tupleHashOf (x.hs.1::xs.hs.2)),x.hs.1::xs.hs.2)
def PK.dp:PK->Nat
 | .int _=>0
 | .non=>0
 | .nil=>1
 | .cons x xs=>Nat.max (x.dp+1) xs.dp
def HE(h:Ψ)(L:Η->Prop)(v:Γ):Prop:=∃a o c m,v= .ref a/\h.get? a=↑o/\o.cls= .type "tuple"/\o.data= .seq c m/\L c.toList
def iz(h:Ψ):PK->(Γ->Prop)×(Η->Prop)
 | .int n=>(λv=>∃t,v= .int n t,λ_=>False)
 | .non=>(λv=>v= .none,λ_=>False)
 | .nil=>(HE h (λa=>a=[]),λa=>a=[])
 | .cons x xs=>(HE h (λa=>∃v r,a=v::r/\(iz h x).1 v/\(iz h xs).2 r),λa=>∃v r,a=v::r/\(iz h x).1 v/\(iz h xs).2 r)
def Zj(h:Ψ)(k:PK)(v:Γ):Prop:=(iz h k).1 v
def zL(h:Ψ)(k:PK)(vs:Η):Prop:=(iz h k).2 vs
def PK.tup:PK->Bool
 | .int _=>false
 | .non=>false
 |_=>true
theorem QL{h:Ψ}:∀{k:PK},k.tup=true->∀{v:Γ},Zj h k v↔HE h (zL h k) v
 | .int _,e,_=>by cases e
 | .non,e,_=>by cases e
 | .nil,_,_=>Iff.rfl
 | .cons _ _,_,_=>Iff.rfl
theorem cU{h:Ψ}:∀(k:PK),(∀{v c},Zj h k v->Zj h c v->k=c)/\(∀{d c},zL h k d->zL h c d->k=c)
 | .int n=>by
  refine#[?_,λg _=>(show False from g).elim]
  rintro v c ⟨t,rfl⟩ g
  cases c with
  |int m=>let#[u,e]:=g;injection e with e;rw[e]
  |non=>cases(show Γ.int n t= .none from g)
  |nil=>let#[a,_,_,_,e,_]:=g;cases e
  |cons x xs=>let#[a,_,_,_,e,_]:=g;cases e
 | .non=>by
  refine#[?_,λg _=>(show False from g).elim]
  intro v c w g
  cases(show v= .none from w)
  cases c with
  |int m=>let#[u,e]:=g;cases e
  |non=>rfl
  |nil=>let#[a,_,_,_,e,_]:=g;cases e
  |cons x xs=>let#[a,_,_,_,e,_]:=g;cases e
 | .nil=>by
  have L:∀{d:Η} {c:PK},zL h .nil d->zL h c d->PK.nil=c:=by
   intro d c w g
   cases(show d=[]from w)
   cases c with
   |int m=>exact(show False from g).elim
   |non=>exact(show False from g).elim
   |nil=>rfl
   |cons x xs=>let#[v,r,e,_]:=g;cases e
  refine#[?_,L]
  rintro v c ⟨a,o,p,m,rfl,A,F,z,s⟩ g
  have B:c.tup=true:=by
   cases c with
   |int m=>let#[u,e]:=g;cases e
   |non=>cases(show Γ.ref a= .none from g)
   |nil=>rfl
   |cons x xs=>rfl
  let#[b,o',i,G,e,l,_,f,j]:=(QL B).mp g
  cases e
  obtain rfl:o=o':=Jt (A.symm.trans l)
  rw[z]at f;injection f with h1 _
  subst h1;exact L s j
 | .cons x xs=>by
  have ix:=cU (h:=h) x
  have q:=cU (h:=h) xs
  have L:∀{d:Η} {c:PK},zL h (.cons x xs) d->zL h c d->PK.cons x xs=c:=by
   rintro d c ⟨v,r,rfl,h1,D⟩ g
   cases c with
   |int m=>exact(show False from g).elim
   |non=>exact(show False from g).elim
   |nil=>cases(show v::r=[]from g)
   |cons y ys=>
    let#[I,H,e,E,C]:=g;injection e with e1 e2
    subst e1 e2;rw[ix.1 h1 E,q.2 D C]
  refine#[?_,L]
  rintro v c ⟨a,o,p,m,rfl,A,F,z,s⟩ g
  have B:c.tup=true:=by
   cases c with
   |int m=>let#[u,e]:=g;cases e
   |non=>cases(show Γ.ref a= .none from g)
   |nil=>rfl
   |cons x xs=>rfl
  let#[b,o',i,G,e,l,_,f,j]:=(QL B).mp g
  cases e
  obtain rfl:o=o':=Jt (A.symm.trans l)
  rw[z]at f;injection f with h1 _
  subst h1;exact L s j
theorem cI{h h':Ψ}(hs:∀a o xs n,h.get? a=↑o->o.data= .seq xs n->h'.get? a=↑o):∀(k:PK),(∀{v},Zj h k v->Zj h' k v)/\(∀{d},zL h k d->zL h' k d)
 | .int n=>#[λg=>g,λg=>g]
 | .non=>#[λg=>g,λg=>g]
 | .nil=>#[by
   rintro v ⟨a,o,c,m,rfl,i,f,e,j⟩
   exact#[a,o,c,m,Z,hs _ _ _ _ i e,f,e,j],λg=>g]
 | .cons x xs=>by
  have ix:=cI hs x;have l:=cI hs xs;have L:∀{d:Η},zL h (.cons x xs) d->zL h' (.cons x xs) d:=by
   rintro d ⟨v,r,rfl,h1,p⟩
   exact#[v,r,Z,ix.1 h1,l.2 p]
  refine#[?_,L]
  rintro v ⟨a,o,c,m,rfl,i,f,e,j⟩
  exact#[a,o,c,m,Z,hs _ _ _ _ i e,f,e,L j]
section
variable{prog:Ξ}{w:Ω}{A:Around}{E:Fl}{s:Θ}
theorem eF{L:Η->Prop}{v:Γ}{l:Ζ}{c:Nat}{Q:Int->Θ->Prop}(hu:A.units<cLine)(hk:HE s.heap L v)
  (p:∀{vs:Η} {b:Array Int} {Q:Array Int->Θ->Prop},L vs->(∀f,f.toList=b.toList++l->Q f {s with toks:=s.toks+c})->ε (model prog w) A.in1 (forIn vs b λx r=>do let h <- pyHash x;pure PUnit.unit;pure (ForInStep.yield (r.push h))) Q E s)
  (h:Q (reduceHash (γ.Tuple.tupleHashOf l)) {s with toks:=s.toks+(c+1)}):ε (model prog w) A (pyHash v) Q E s:=by
 let#[a,o,d,m,rfl,e,j,g,q]:=hk;have i:s.TypeIs (.ref a) "tuple":=#[o,e,j]
 refine W.pyHash_slot (T:="tuple") i F.slot_tuple_hash F.entry_tuple_hash (F.args_tuple_hash_1 _) (beq_builtin_none _) (.inr hu) ?_
 show ε _ _ (γ.Tuple.tupleItemsOf (.ref a) >>= _) _ _ s
 refine Ja (wpAny_tupleItemsOf e g ?_)
 refine Ja ?_
 rw[<- Array.forIn_toList];refine p q λb n=>?_
 show ε _ _ (retInt (γ.Tuple.tupleHashOf b.toList)) _ _ _
 rw[n];exact Ja (wpAny_mkInt (Jf #[5,h]))
theorem cj:∀(k:PK),(∀{v:Γ} {A:Around} {s:Θ} {Q:Int->Θ->Prop},A.units+k.dp<cLine->Zj s.heap k v->Q k.hs.1 {s with toks:=s.toks+k.dr.1}->ε (model prog w) A (pyHash v) Q E s)/\
  (∀{vs:Η} {A:Around} {s:Θ} {b:Array Int} {Q:Array Int->Θ->Prop},A.units+k.dp<=cLine->zL s.heap k vs->(∀a,a.toList=b.toList++k.hs.2->Q a {s with toks:=s.toks+k.dr.2})->ε (model prog w) A (forIn vs b λx r=>do let h <- pyHash x;pure PUnit.unit;pure (ForInStep.yield (r.push h))) Q E s)
 | .int n=>by
  refine#[?_,λ_ g _=>(show False from g).elim]
  rintro v A s Q d ⟨t,rfl⟩ h
  exact wpAny_pyHash_int h
 | .non=>by
  refine#[?_,λ_ g _=>(show False from g).elim]
  ·intro v A s Q d g h
   cases(show v= .none from g)
   exact W.pyHash_slot (T:="NoneType") Z F.slot_NoneType_hash F.entry_NoneType_hash (F.args_NoneType_hash_1 _) (beq_builtin_none _) (.inr (by simpa [PK.dp]using d)) (Ja (Jf (Ja (wpAny_mkInt (Jf #[5,h])))))
 | .nil=>by
  have L:∀{vs:Η} {A:Around} {s:Θ} {b:Array Int} {Q:Array Int->Θ->Prop},vs=[]->(∀a,a.toList=b.toList++[]->Q a {s with toks:=s.toks+0})->ε (model prog w) A (forIn vs b λx r=>do let h <- pyHash x;pure PUnit.unit;pure (ForInStep.yield (r.push h))) Q E s:=by
   intro vs A s b Q e h;subst e;exact Jf (h b (by simp))
  refine#[?_,λ_ g h=>L g h]
  intro v A s Q d g h;exact eF (L:=λvs=>vs=[]) (by have:=d;omega) g (λg h=>L g h) h
 | .cons x xs=>by
  have ix:=cj x;have j:=cj xs;have L:∀{vs:Η} {A:Around} {s:Θ} {b:Array Int} {Q:Array Int->Θ->Prop},A.units+(PK.cons x xs).dp<=cLine->zL s.heap (.cons x xs) vs->(∀a,a.toList=b.toList++(PK.cons x xs).hs.2->Q a {s with toks:=s.toks+(PK.cons x xs).dr.2})->ε (model prog w) A (forIn vs b λx r=>do let h <- pyHash x;pure PUnit.unit;pure (ForInStep.yield (r.push h))) Q E s:=by
   rintro vs A s b Q d ⟨v,r,rfl,h1,o⟩ h
   have i:A.units+x.dp<cLine:=by have:x.dp+1<=(PK.cons x xs).dp:=Nat.le_max_left _ _;omega
   have f:A.units+xs.dp<=cLine:=by have:xs.dp<=(PK.cons x xs).dp:=Nat.le_max_right _ _;omega
   rw[List.forIn_cons];refine Ja (Ja (ix.1 i h1 ?_))
   refine Ja (Jf (Jf ?_))
   refine j.2 f o λa m=>?_
   have:=h a (by rw[m];simp [PK.hs])
   simpa [PK.dr,Nat.add_assoc]using this
  refine#[?_,L]
  intro v A s Q d g h;have p:1<=(PK.cons x xs).dp:=Ju (by omega) (Nat.le_max_left _ _)
  exact eF (L:=zL s.heap (.cons x xs)) (l:=(PK.cons x xs).hs.2) (c:=(PK.cons x xs).dr.2) (by omega) g (λg h=>L (by rw[CY];omega) g h) h
def PK.sz:PK->Nat
 | .int _=>1
 | .non=>1
 | .nil=>1
 | .cons x xs=>x.sz+xs.sz+1
theorem PK.sz_pos:∀k:PK,1<=k.sz
 | .int _=>Je _
 | .non=>Je _
 | .nil=>Je _
 | .cons _ _=>Nat.le_add_left _ _
theorem HE.is{h:Ψ}{L:Η->Prop}{v:Γ}(g:HE h L v):∃a c,v= .ref a/\h.IsTuple a c/\L c.toList:=by
 let#[a,o,c,m,rfl,f,e,d,i]:=g
 exact#[a,c,Z,#[o,f,e,m,d],i]
theorem xr{x y:PK}{u v:Γ}{Q:Bool->Θ->Prop}(hx:x.tup=true)(hy:y.tup=true)(hu:A.units<cLine)(gu:Zj s.heap x u)(gv:Zj s.heap y v)
  (step:∀{i R:PK} {u v:Γ} {Q:Bool->Θ->Prop},i.sz<x.sz->i.dp<x.dp->Zj s.heap i u->Zj s.heap R v->Q (decide (i=R)) s->ε (model prog w) A.in1 (eqBool u v) Q E s)
  (h:Q (decide (x=y)) s):ε (model prog w) A (eqBool u v) Q E s:=by
 have W:=gu;have a1:=gv;let#[a,oa,xs,na,rfl,N,a2,Y,X]:=(QL hx).mp gu
 let#[b,ob,ys,nb,rfl,G,a0,a3,T]:=(QL hy).mp gv
 have H:s.TypeIs (.ref a) "tuple":=#[oa,N,a2]
 have M:s.TypeIs (.ref b) "tuple":=#[ob,G,a0]
 unfold eqBool;refine JX ?_
 show ε _ _ (if(Γ.ref a==Γ.ref b)=true then _ else _) Q E s
 by_cases z:(Γ.ref a==Γ.ref b)=true
 ·rw[Jb z]
  have e:a=b:=by have:=eq_of_beq z;injection this
  subst e
  obtain rfl:=(cU x).1 W a1
  exact Ja (Dl (Jf (by simpa using h)))
 rw[Jc z];refine Ja (wpAny_richCompare_same_room (op:= .Eq) H M F.slot_tuple_eq
   (J7 F.slot_tuple_eq H F.entry_tuple_eq ?_ (F.args_tuple_eq_2 _ _)) hu)
 show ε _ _ (isInstance (.ref b) (.type "tuple") >>= _) _ _ s
 refine Ja (D5 M isSubtype_tuple_tuple ?_)
 simp only[Bool.not_true,Bool.false_eq_true,C5];refine Ja (wpAny_tupleItemsOf N Y ?_)
 refine Ja (wpAny_tupleItemsOf G a3 ?_)
 refine Ja ?_
 refine wpAny_forIn_list _
  (λrest r s'=>r.1=none/\s'=s/\∃n t j g,rest=List.zip j g/\zL s.heap n j/\zL s.heap t g/\n.sz<=x.sz/\n.dp<=x.dp/\decide (n=t)=decide (x=y)/\(j.length==g.length)=(xs.size==ys.size))
  _ ?_ ?_ _ _ #[8,x,y,xs.toList,ys.toList,Z,X,T,Je _,Je _,Z,by simp]
 ·rintro⟨u,v⟩ rest r s' ⟨U,rfl,n,t,j,g,C,f,c,B,D,l,o⟩
  cases j with
  |nil=>simp at C
  |cons u' xs''=>
   cases g with
   |nil=>simp at C
   |cons v' ys''=>
    simp only[List.zip_cons_cons,List.cons.injEq,Prod.mk.injEq]at C;let#[#[rfl,rfl],rfl]:=C;let#[i,d,rfl,h1,K]:∃i d,n= .cons i d/\Zj s'.heap i u/\zL s'.heap d xs'':=by
     cases n with
     |int m=>exact(show False from f).elim
     |non=>exact(show False from f).elim
     |nil=>cases(show u::xs''=[]from f)
     |cons p q=>let#[_,_,e,g1,S]:=f;injection e with e1 e2;subst e1 e2;exact#[p,q,Z,g1,S]
    let#[R,L,rfl,h2,O]:∃i d,t= .cons i d/\Zj s'.heap i v/\zL s'.heap d ys'':=by
     cases t with
     |int m=>exact(show False from c).elim
     |non=>exact(show False from c).elim
     |nil=>cases(show v::ys''=[]from c)
     |cons p q=>let#[_,_,e,g1,S]:=c;injection e with e1 e2;subst e1 e2;exact#[p,q,Z,g1,S]
    have z1:i.sz<x.sz:=by have:=PK.sz_pos d;simp only[PK.sz]at B;omega
    have z2:i.dp<x.dp:=by have:i.dp+1<=(PK.cons i d).dp:=Nat.le_max_left _ _;omega
    refine Ja (step z1 z2 h1 h2 ?_)
    by_cases hk:i=R
    ·subst hk
     rw[Jh Z];simp only[Bool.not_true,Bool.false_eq_true,C5];refine Jf #[8,d,L,xs'',ys'',Z,K,O,by simp only[PK.sz]at B;omega,Ju (Nat.le_max_right _ _) D,?_,by simpa using o]
     rw[<- l]
     by_cases P:d=L
     ·simp [P]
     ·simp [P]
    ·rw[Jj hk]
     simp only[Bool.not_false,J6];have hf:decide (x=y)=false:=by rw[<- l];simp [hk]
     rw[hf]at h;exact Ja (Jf (Jf (Jf #[0,(λe=>nomatch e),CO h])))
 ·rintro⟨r1,r2⟩ s' ⟨U,rfl,n,t,j,g,C,f,c,B,D,l,o⟩
  simp only at U
  subst U;refine Jf ?_
  have I:(xs.size==ys.size)=decide (x=y):=by
   rw[<- l,<- o];cases j with
   |nil=>
    have ex:n= .nil:=by
     cases n with
     |int m=>exact(show False from f).elim
     |non=>exact(show False from f).elim
     |nil=>rfl
     |cons p q=>let#[_,_,e,_]:=f;cases e
    subst ex;cases g with
    |nil=>
     have J:t= .nil:=by
      cases t with
      |int m=>exact(show False from c).elim
      |non=>exact(show False from c).elim
      |nil=>rfl
      |cons p q=>let#[_,_,e,_]:=c;cases e
     subst J;simp
    |cons v r=>
     have J:t≠ .nil:=by rintro rfl;cases(show v::r=[]from c)
     simp [Ne.symm J]
   |cons u q=>
    have ex:n≠ .nil:=by rintro rfl;cases(show u::q=[]from f)
    cases g with
    |nil=>
     have J:t= .nil:=by
      cases t with
      |int m=>exact(show False from c).elim
      |non=>exact(show False from c).elim
      |nil=>rfl
      |cons p q=>let#[_,_,e,_]:=c;cases e
     subst J;simp [ex]
    |cons v r=>simp at C
  show∃v,Fin.done (Flow.ret (.bool (xs.size==ys.size)))=Fin.done (.ret v)/\v≠Γ.notImplemented/\ε (model prog w) A (truthOfDropped v) Q E s'
  rw[I]
  exact#[0,(λe=>nomatch e),CO h]
theorem Zi{h:Ψ}{k:PK}{v:Γ}(g:Zj h k v):(∃n t,k= .int n/\v= .int n t)\/(k= .non/\v= .none)\/(k.tup=true/\∃a c,v= .ref a/\h.IsTuple a c):=by
 cases k with
 |int n=>let#[t,rfl]:=g;exact .inl #[n,t,8]
 |non=>cases(show v= .none from g);exact .inr (.inl #[8])
 |nil=>let#[a,c,e,d,_]:=HE.is ((QL (k:= .nil) Z).mp g);exact .inr (.inr #[Z,a,c,e,d])
 |cons x xs=>let#[a,c,e,d,_]:=HE.is ((QL (k:= .cons x xs) Z).mp g);exact .inr (.inr #[Z,a,c,e,d])
theorem gK{k:PK}{n:Int}(h:k.tup=true):k≠ .int n:=by rintro rfl;cases h
theorem gG{k:PK}(h:k.tup=true):k≠ .non:=by rintro rfl;cases h
theorem cu:∀(n:Nat) {x y:PK} {u v:Γ} {A:Around} {s:Θ} {Q:Bool->Θ->Prop},x.sz<=n->A.units+x.dp<cLine->Zj s.heap x u->Zj s.heap y v->Q (decide (x=y)) s->ε (model prog w) A (eqBool u v) Q E s
 |0,x,_,_,_,_,_,_,hz,_,_,_,_=>by have:=PK.sz_pos x;omega
 |n+1,x,y,u,v,A,s,Q,hz,hu,gu,gv,h=>by
  have c:A.units<cLine:=by omega
  rcases Zi gu with⟨a,t,rfl,rfl⟩|⟨rfl,rfl⟩|⟨i,a,p,rfl,ta⟩
  ·rcases Zi gv with⟨b,f,rfl,rfl⟩|⟨rfl,rfl⟩|⟨g,b,j,rfl,tb⟩
   ·refine EqAt.int_int a t b f prog w E Q ?_
    have e:(a==b)=decide (PK.int a=PK.int b):=by
     by_cases d:a=b
     ·subst d;simp
     ·rw[Jj (by intro z;injection z with z;exact d z)];simpa using d
    rw[e];exact h
   ·exact EqAt.int_none a t prog w E Q (by rw[Jj (by intro z;cases z)]at h;exact h)
   ·exact EqAt.int_tuple a t tb c prog w E Q (by rw[Jj (λz=>gK g z.symm)]at h;exact h)
  ·rcases Zi gv with⟨b,f,rfl,rfl⟩|⟨rfl,rfl⟩|⟨g,b,j,rfl,tb⟩
   ·exact EqAt.none_int b f prog w E Q (by rw[Jj (by intro z;cases z)]at h;exact h)
   ·exact EqAt.same .none prog w E Q (by rw[Jh Z]at h;exact h)
   ·exact EqAt.none_tuple tb c prog w E Q (by rw[Jj (λz=>gG g z.symm)]at h;exact h)
  ·rcases Zi gv with⟨b,f,rfl,rfl⟩|⟨rfl,rfl⟩|⟨g,b,j,rfl,tb⟩
   ·exact EqAt.tuple_int b f ta c prog w E Q (by rw[Jj (gK i)]at h;exact h)
   ·exact EqAt.tuple_none ta c prog w E Q (by rw[Jj (gG i)]at h;exact h)
   ·refine xr i g c gu gv (λ{r B u v Q} o C l m q=>cu n (by omega) (by rw[CY];omega) l m q) h
theorem tD{h:Ψ}{k:PK}{v:Γ}{r:Η}(g:zL h k (v::r)):∃x xs,k= .cons x xs/\Zj h x v/\zL h xs r:=by
 cases k with
 |int m=>exact(show False from g).elim
 |non=>exact(show False from g).elim
 |nil=>cases(show v::r=[]from g)
 |cons p q=>let#[_,_,e,c,a]:=g;injection e with e1 e2;subst e1 e2;exact#[p,q,Z,c,a]
theorem PK.dp_tup:∀{k:PK},k.tup=true->1<=k.dp
 | .int _,h=>by cases h
 | .non,h=>by cases h
 | .nil,_=>Je _
 | .cons _ _,_=>Ju (Nat.le_add_left _ _) (Nat.le_max_left _ _)
theorem vD:∀(d:Nat) {k:PK} {v:Γ} {s:Θ} {Q:Bool->Θ->Prop},k.dp<=d->Zj s.heap k v->Q true s->ε (model prog w) A (eqIsQuiet d v) Q E s:=by
 intro d
 induction d with
 |zero=>
  intro k v s Q p g h;rcases Zi g with⟨a,t,rfl,rfl⟩|⟨rfl,rfl⟩|⟨j,a,D,rfl,ta⟩
  ·rw[eqIsQuiet_byValue _ Z];exact Jf h
  ·rw[eqIsQuiet_byValue _ Z];exact Jf h
  ·have:=PK.dp_tup j;omega
 |succ d ih=>
  intro k v s Q p g h;rcases Zi g with⟨a,t,rfl,rfl⟩|⟨rfl,rfl⟩|⟨j,_⟩
  ·rw[eqIsQuiet_byValue _ Z];exact Jf h
  ·rw[eqIsQuiet_byValue _ Z];exact Jf h
  let#[a,o,c,n,rfl,q,B,f,hi]:=(QL j).mp g
  have m:s.TypeIs (.ref a) "tuple":=#[o,q,B]
  unfold eqIsQuiet;refine Ja (DD m F.slot_tuple_eq.lookup ?_)
  show ε _ _ (isInstance (.ref a) (.type "tuple") >>= _) _ _ s
  refine Ja (D5 m isSubtype_tuple_tuple ?_)
  simp only[Bool.not_true,Bool.false_eq_true,C5];refine Ja (Dg q f ?_)
  refine Ja ?_
  show ε _ _ (forIn c _ _) _ _ s
  rw[<- Array.forIn_toList];refine wpAny_forIn_list _ (λrest r s'=>r.1=none/\s'=s/\∃l,zL s.heap l rest/\l.dp<=d+1) _ ?_ ?_ _ _ #[8,k,hi,p]
  ·rintro v rest r s' ⟨i,rfl,l,C,e⟩
   let#[x,xs,rfl,u,y]:=tD C;have z:x.dp<=d:=by have:x.dp+1<=(PK.cons x xs).dp:=Nat.le_max_left _ _;omega
   refine Ja (ih z u ?_)
   simp only[Bool.not_true,Bool.false_eq_true,C5];exact Jf #[8,xs,y,Ju (Nat.le_max_right _ _) e]
  ·rintro⟨G,H⟩ s' ⟨i,rfl,_⟩
   simp only at i
   subst i;exact Jf h
end
def Br(prog:Ξ)(w:Ω)(d:Nat)(hd:d<=8):HeapKind prog w {k:PK // k.tup=true/\k.dp<=d} where
 is:=λh k a=>Zj h k.1 (.ref a)
 hash:=λk=>k.1.hs.1
 draws:=λk=>k.1.dr.1
 room:=λA=>A.units+d<cLine
 inj:=λp u=>Subtype.ext ((cU _).1 p u)
 keeps:=by
  intro h h' k a b o es B g v i hs;refine(cI (λc o' xs n l f=>?_) k.1).1 g
  have j:c≠b:=by
   rintro rfl
   obtain rfl:o'=o:=Jt (l.symm.trans v)
   rw[i]at f;exact nomatch f
  exact(hs.2 c j).trans l
 pyHash:=by
  intro A E s k a Q m g h
  exact(cj k.1).1 (by have:=k.2.2;omega) g h
 eqBool:=by
  intro A E s x y a b Q m r t h;refine cu x.1.sz (Je _) (by have:=x.2.2;omega) r t ?_
  have e:decide (x.1=y.1)=decide (x=y):=by
   by_cases z:x=y
   ·subst z;simp
   ·rw[Jj z,Jj (λq=>z (Subtype.ext q))]
  rw[e];exact h
 quiet:=by
  intro A E s k a Q g h;exact vD 8 (Ju k.2.2 hd) g h
end L3
namespace L3
open PySem PySem.Spec PyProof.Rows L2
abbrev K8:={k:PK // k.tup=true/\k.dp<=4}
abbrev tJ(P:Ξ)(w:Ω):HeapKind P w K8:=Br P w 4 ⋯
abbrev KP:List (K8×Δ×V)->List (K8×Δ×Γ)->Prop:=Paired λp q=>p.1=q.1/\p.2.1=q.2.1/\Fx p.2.2 q.2.2
def CI(P:Ξ)(w:Ω)(d:Δ)(kvs:List (K8×Δ×V))(h:Ψ):Prop:=
 kvs.length<=ζ/\(d==sysModules)=false/\∃(xs:List (K8×Δ×Γ)) (o:Obj) (es:Array DictEntry) (a:Nat),KP kvs xs/\h.get? d=↑o/\o.ExactDict/\o.data= .dict es a/\es.toList=xs.map (entryOfKey (tJ P w))/\(xs.map (·.1)).Nodup
def ax(P:Ξ)(w:Ω)(d:Δ)(kvs:List (K8×Δ×V)):HO:= .ext (CI P w d kvs)
def iL(H:Hp):PK->(V->Prop)×(Β->Prop)
 | .int n=>(λv=>v= .int n,λ_=>False)
 | .non=>(λv=>v= .non,λ_=>False)
 | .nil=>(λv=>∃a,v= .ref a/\H a=↑(.tup []),λc=>c=[])
 | .cons x xs=>(λv=>∃a c,v= .ref a/\H a=↑(.tup c)/\∃y r,c=y::r/\(iL H x).1 y/\(iL H xs).2 r,λc=>∃y r,c=y::r/\(iL H x).1 y/\(iL H xs).2 r)
def ab(H:Hp)(k:PK)(v:V):Prop:=(iL H k).1 v
def fo(H:Hp)(k:PK)(vs:Β):Prop:=(iL H k).2 vs
theorem bC{H H':Hp}(hs:∀a xs,H a=↑(.tup xs)->H' a=↑(.tup xs)):∀(k:PK),(∀{v},ab H k v->ab H' k v)/\(∀{c},fo H k c->fo H' k c)
 | .int n=>#[λg=>g,λg=>g]
 | .non=>#[λg=>g,λg=>g]
 | .nil=>by
  refine#[?_,λg=>g]
  rintro v ⟨a,rfl,d⟩
  exact#[a,Z,hs _ _ d]
 | .cons x xs=>by
  have ix:=bC hs x;have e:=bC hs xs;have L:∀{c:Β},fo H (.cons x xs) c->fo H' (.cons x xs) c:=by
   rintro c ⟨v,r,rfl,h1,f⟩
   exact#[v,r,Z,ix.1 h1,e.2 f]
  refine#[?_,L]
  rintro v ⟨a,c,rfl,d,h⟩
  exact#[a,c,Z,hs _ _ d,L h]
theorem am{P:Ξ}{w:Ω}{H:Hp}{h:Ψ}(ok:GM P w H h):∀(k:PK),(∀{v:V} {u:Γ},ab H k v->Fx v u->Zj h k u)/\(∀{vs:Β} {us:Η},fo H k vs->Fy vs us->zL h k us)
 | .int n=>by
  refine#[?_,λg _=>(show False from g).elim]
  intro v u g r
  cases(show v= .int n from g)
  exact r
 | .non=>by
  refine#[?_,λg _=>(show False from g).elim]
  intro v u g r
  cases(show v= .non from g)
  exact r
 | .nil=>by
  exists ?_
  ·rintro v u ⟨a,rfl,j⟩ r
   cases(show u= .ref a from r)
   let#[_,c,d,o,h1,f,n,i]:=(show FE P w H h a (.tup [])from ok a _ j)
   cases d
   exact#[a,o,_,n,Z,h1,f,i,Z]
  ·intro vs us g r
   cases(show vs=[]from g)
   cases r;rfl
 | .cons x xs=>by
  have ix:=am ok x;have l:=am ok xs;have L:∀{vs:Β} {us:Η},fo H (.cons x xs) vs->Fy vs us->zL h (.cons x xs) us:=by
   rintro vs us ⟨v,r,rfl,h1,f⟩ d
   cases d with
   |cons a b=>exact#[5,ix.1 h1 a,l.2 f b]
  refine#[?_,L]
  rintro v u ⟨a,vs,rfl,j,m⟩ r
  cases(show u= .ref a from r)
  let#[_,c,d,o,h1,f,n,i]:=(show FE P w H h a (.tup vs)from ok a _ j)
  exists a,o,c.toArray,n,Z,h1,f,i
  have e:c.toArray.toList=c:=by simp
  show zL h (.cons x xs) c.toArray.toList
  rw[e];exact L m d
structure HF(P:Ξ)(w:Ω)(H:Hp)(d:Δ)(kvs:List (K8×Δ×V)):Prop where
 r:H d=↑(ax P w d kvs)
 ks:∀p∈kvs,ab H p.1.1 (.ref p.2.1)
def ZV(kvs:List (K8×Δ×V))(k:K8):Μ:=(kvs.find? λp=>decide (p.1=k)).map (·.2.2)
def ac(kvs:List (K8×Δ×V))(k:K8)(a:Δ)(v:V):List (K8×Δ×V):=if(ZV kvs k).isSome then kvs.map (λp=>if p.1=k then(p.1,p.2.1,v)else p)else kvs++[(k,a,v)]
theorem KP.val{kvs:List (K8×Δ×V)}{xs:List (K8×Δ×Γ)}(r:KP kvs xs)(k:K8):Gu (ZV kvs k) ((atKey xs k).map (·.2)):=by
 unfold ZV atKey
 induction r with
 |nil=>exact True.intro
 | @cons p q ps qs h t ih=>
  rw[J1,J1,h.1]
  by_cases e:q.1=k
  ·rw[Jh e];exact h.2.2
  ·rw[Jj e];exact ih
theorem KP.put{kvs:List (K8×Δ×V)}{xs:List (K8×Δ×Γ)}(r:KP kvs xs)(k:K8)(a:Δ){v:V}{u:Γ}(c:Fx v u):KP (ac kvs k a v) (storedH xs k a u):=by
 have q:=(r.val k).isSome_eq;unfold ac storedH;rw[DU]at q;rw[q]
 by_cases e:(atKey xs k).isSome=true
 ·rw[Jb e,Jb e]
  clear q e
  induction r with
  |nil=>exact .nil
  | @cons p q ps qs h t ih=>
   rw[JL,JL];refine .cons ?_ ih
   unfold putAt;rw[h.1]
   by_cases e:q.1=k
   ·rw[Jb e,Jb e];exact#[Z,h.2.1,c]
   ·rw[Jc e,Jc e];exact h
 ·rw[Jc e,Jc e]
  exact Paired.snoc r #[8,c]
theorem mG(kvs:List (K8×Δ×V))(k:K8)(a:Δ)(v:V):(ac kvs k a v).length<=kvs.length+1:=by
 unfold ac;split
 ·rw[Jd];omega
 ·rw[Jx];exact Je _
section
variable{X:Cx}{tx:Fo}{σ:L2.St}{H:Hp}{s:Θ}{d:Δ}{kvs:List (K8×Δ×V)}
theorem v6(I:Fv X tx σ H s)(g:HF X.prog X.w H d kvs):kvs.length<=ζ/\(d==sysModules)=false/\∃xs,KP kvs xs/\s.heap.DictOfH (tJ X.prog X.w) d xs:=by
 let#[#[z,f,xs,o,es,h,c,h1,j,n,i,u],_]:=(show FE X.prog X.w H s.heap d (ax X.prog X.w d kvs)from I.hok d _ g.r)
 refine#[z,f,xs,c,o,es,h,h1,j,n,i,?_,u]
 have all:∀{l:List (K8×Δ×V)} {m:List (K8×Δ×Γ)},KP l m->(∀p∈l,ab H p.1.1 (.ref p.2.1))->∀x∈m,(tJ X.prog X.w).is s.heap x.1 x.2.1:=by
  intro l m q
  induction q with
  |nil=>intro _ x a;exact nomatch a
  | @cons p q ps qs hq t ih=>
   intro hk x a;rcases Jl.mp a with e|a
   ·subst e
    have:=hk p (JJ ..)
    rw[hq.1,hq.2.1]at this
    exact(am I.hok x.1.1).1 this Z
   ·exact ih (λp r=>hk p (JF _ r)) x a
 exact all c g.ks
theorem rg{k:Nat}(hr:FJ k X.A):zf X (compareOp .NotIn) (λx y H Q=>∃(b d:Δ) (kvs:List (K8×Δ×V)) (k:K8),x= .ref b/\y= .ref d/\HF X.prog X.w H d kvs/\ab H k.1 (.ref b)/\Q (.bl (!(ZV kvs k).isSome)) H):=by
 intro tx s σ H x y u v Q I f j h;let#[b,d,kvs,k,rfl,rfl,g,i,q]:=h
 cases(show u=Γ.ref b from f)
 cases(show v=Γ.ref d from j)
 let#[z,e,xs,a,l]:=v6 I g;refine wpAny_notIn_heap (knd:=tJ X.prog X.w) (k:=k) (show X.A.in1.units+4<cLine by rw[CY];have:=hr.un;omega) ((am I.hok k.1).1 i Z) e l ?_
 have c:=(a.val k).isSome_eq;rw[DU]at c;rw[<- c]
 exact#[.bl (!(ZV kvs k).isSome),H,I.tok _,Z,q]
end
inductive Ml (P:Ξ) (w:Ω) (H:Hp) (a:Δ) (y v:V) (H':Hp):Prop
 |mk (kvs:List (K8×Δ×V)) (k:K8) (b:Δ) (h1:HF P w H a kvs) (h2:y= .ref b) (h3:ab H k.1 (.ref b)) (h4:kvs.length<ζ) (h5:H'=Ft H a (ax P w a (ac kvs k b v)))
def B7(P:Ξ)(w:Ω)(td ty tv:TE):TS:=λD σ H=>tv σ H λv H1=>td σ H1 λx e=>ty σ e λy d=>∃a c,x= .ref a/\Ml P w d a y v c/\D.nx σ c
section
variable{X:Cx}{o i value:Φ}{pos pos':Pos}{td ty tv:TE}
theorem tf{tx:Fo}{σ:L2.St}{H H':Hp}{s:Θ}{a:Δ}{y v:V}{u r:Γ}{A:Around}{E:Fl}{Q:Unit->Θ->Prop}(hu:A.units+6<cLine)(I:Fv X tx σ H s)(g:Ml X.prog X.w H a y v H')(x:Fx y u)(o:Fx v r)(h:∀s',Fv X tx σ H' s'->Q () s'):
  ε (model X.prog X.w) A (setItem (.ref a) u r) Q E s:=by
 let#[kvs,k,b,g,rfl,C,O,rfl]:=g
 cases(show u=Γ.ref b from x)
 let#[z,J,xs,c,B]:=v6 I g;have e:xs.length<=ζ:=by rw[<- DV c];exact z
 refine wpAny_setItem_heap (knd:=tJ X.prog X.w) (k:=k) (hsz:=e) (show A.in1.units+4<cLine by rw[CY];omega) ((am I.hok k.1).1 C Z) B λh' f hs=>h _ ?_
 let#[q,es,L,d,l,w,p,_,N]:=f;refine cX I (by rw[g.r];exact True.intro) hs #[q,d] #[#[?_,J,_,q,es,L,c.put k b o,d,l,w,p,N],#[q,d],?_]
 ·have:=mG kvs k b v;omega
 ·rintro h1 l ⟨n,t,ys,o',j,i,G,F,D,M,K,m⟩ st
  exact#[n,t,ys,o',j,i,G,st _ F,D,M,K,m]
theorem yx{k:Nat}(hr:FJ k X.A)(ho:QE X o td)(hi:QE X i ty)(hv:QE X value tv)(hs:swapsWith value ↑(.Subscript o i pos') pos.line X.env=pure false:=by rfl):
  QS X (.Assign [.Subscript o i pos'] value pos) (B7 X.prog X.w td ty tv):=#[by
 intro tx s σ H D I h;refine wpAny_Assign_Subscript (qD (hv.h tx s σ H _ I h) λr w ⟨v,H1,f,c,B⟩=>qD (ho.h tx w σ H1 _ f B) λu m ⟨x,d,l,A,z⟩=>qD (hi.h tx m σ d _ l z) λC E j=>?_) hs
 let#[y,G,q,p,a,n,ex,g,e]:=j;subst ex
 obtain rfl:u=Γ.ref a:=A
 exact tf (by have:=hr.un;omega) q g p c λF t=>#[σ,n,t,e]]
def Ai(P:Ξ)(w:Ω):TE:=λσ H Q=>∀a,H a=none->Q (.ref a) (Ft H a (ax P w a []))
theorem uI{P:Ξ}{w:Ω}{H:Hp}(h:Ψ)(hb:sysModules<h.objs.size):FE P w H (h.push {cls:= .type "dict",data:= .dict (List.toArray [])}) h.objs.size (ax P w h.objs.size []):=by
 have g:(h.push {cls:= .type "dict",data:= .dict (List.toArray [])}).get? h.objs.size=some {cls:= .type "dict",data:= .dict (List.toArray [])}:=Jq _ Z
 exists #[JR _,by simpa using JZ hb,[],_,(List.toArray []),(0),.nil,g,#[39],8,Ex],#[_,g]
 rintro h1 o ⟨e,j,ys,o',c,a,f,n,m,l,i,d⟩ st
 exact#[e,j,ys,o',c,a,f,st _ n,m,l,i,d]
theorem wZ:QE X (.Dict [] [] pos) (Ai X.prog X.w):=#[λtx s σ H Q I h=>
 wpAny_Dict_empty #[.ref s.heap.objs.size,_,I.laid (a:=s.heap.objs.size) (o:=ax X.prog X.w s.heap.objs.size []) (t':=s.toks) (λ_ _ q=>Ji _ q) (Je _) (uI s.heap I.big),Z,h _ (I.hok.fresh (Je _))]]
end
theorem vE{kvs:List (K8×Δ×V)}{k:K8}:(ZV kvs k).isSome=true↔k∈kvs.map (·.1):=by
 unfold ZV;rw[DU,List.find?_isSome,Jv];constructor
 ·rintro⟨p,a,e⟩;exact#[p,a,Jw e]
 ·rintro⟨p,a,rfl⟩;exact#[p,a,Jh Z]
theorem tX{kvs:List (K8×Δ×V)}{k:K8}(h:ZV kvs k=none)(a:Δ)(v:V):ac kvs k a v=kvs++[(k,a,v)]:=by
 unfold ac;rw[h,Jc ⋯]
section
variable{P:Ξ}{w:Ω}{H H':Hp}{d:Δ}{kvs:List (K8×Δ×V)}
theorem HF.to(g:HF P w H d kvs)(h1:H' d=H d)(h2:∀a xs,H a=↑(.tup xs)->H' a=↑(.tup xs)):HF P w H' d kvs:=
 #[h1.trans g.r,λp c=>(bC h2 p.1.1).1 (g.ks p c)]
theorem HF.put(g:HF P w H d kvs){k:K8}{b:Δ}(hk:ab H k.1 (.ref b))(v:V)(hn:ZV kvs k=none):HF P w (Ft H d (ax P w d (ac kvs k b v))) d (kvs++[(k,b,v)]):=by
 have f:∀a xs,H a=↑(.tup xs)->Ft H d (ax P w d (ac kvs k b v)) a=↑(.tup xs):=λa xs e=>by
  rw[qi (qC e g.r (by intro z;cases z))];exact e
 refine#[by rw[qc,tX hn],λp c=>(bC f p.1.1).1 ?_]
 rcases JK.mp c with c|c
 ·exact g.ks p c
 ·rw[Jn.mp c];exact hk
end
end L3
namespace GS
theorem snocInd{c:Type}{P:List c->Prop}(nil:P [])(snoc:∀h i,P h->P (h++[i]))(h:List c):P h:=by
 have:∀l:List c,P l.reverse:=by
  intro l
  induction l with
  |nil=>exact nil
  |cons a l ih=>rw[List.reverse_cons];exact snoc _ _ ih
 have:=this h.reverse
 rwa [List.reverse_reverse]at this
theorem eN{g i:Type}{f:g->List i}:∀{l:List g} {x y:g} {c d:i},[x,y].Sublist l->c∈f x->d∈f y->[c,d].Sublist (l.flatMap f)
 | [],_,_,_,_,h,_,_=>by cases h
 |a::l,x,y,c,d,h,hx,hy=>by
  rw[List.flatMap_cons];cases h with
  |cons _ h=>exact(eN h hx hy).trans (List.sublist_append_right _ _)
  |cons_cons _ h=>
   have e:y∈l:=List.singleton_sublist.mp h
   have h1:[c].Sublist (f a):=List.singleton_sublist.mpr hx
   have j:[d].Sublist (l.flatMap f):=List.singleton_sublist.mpr (List.mem_flatMap.mpr #[y,e,hy])
   exact h1.append j
theorem cD{c:Type}{p:c->Bool}:∀{l:List c} {q g:c},l.Nodup->l.find? p=↑g->[q,g].Sublist l->p q=true->False
 | [],_,_,_,h,_,_=>by cases h
 |a::l,q,g,hn,h,hs,hp=>by
  rw[C4]at hn;rw[J1]at h;cases ha:p a with
  |true=>
   rw[ha]at h;injection h with h
   subst h;cases hs with
   |cons _ hs=>exact hn.1 (hs.subset (by simp))
   |cons_cons _ hs=>exact hn.1 (List.singleton_sublist.mp hs)
  |false=>
   rw[ha]at h;cases hs with
   |cons _ hs=>exact cD hn.2 h hs hp
   |cons_cons _ hs=>rw[ha]at hp;cases hp
theorem eG{d:Type}{p:d->Bool}:∀{l:List d} {g g':d},l.find? p=↑g'->g∈l->p g=true->g≠g'->[g',g].Sublist l
 | [],_,_,h,_,_,_=>by cases h
 |a::l,g,g',h,c,hp,hne=>by
  rw[J1]at h;cases ha:p a with
  |true=>
   rw[ha]at h;injection h with h
   subst h;rcases Jl.mp c with e|c
   ·exact absurd e hne
   ·exact .cons_cons _ (List.singleton_sublist.mpr c)
  |false=>
   rw[ha]at h;rcases Jl.mp c with e|c
   ·subst e;rw[ha]at hp;cases hp
   ·exact .cons _ (eG h c hp hne)
theorem uY{c:Type}{p:c->Bool}{a d:List c}{g:c}(hn:d.Nodup)(hs:a.Sublist d)(h:d.find? p=↑g)(hm:g∈a):a.find? p=↑g:=by
 have f:=List.find?_some h;cases hf:a.find? p with
 |none=>exact absurd f (by have:=List.find?_eq_none.mp hf g hm;simpa using this)
 |some g'=>
  by_cases e:g=g'
  ·rw[e]
  ·exact(cD hn h ((eG hf hm f e).trans hs) (List.find?_some hf)).elim
theorem md{a:Type}{p:a->Bool}{d c:List a}(hs:d.Sublist c)(h:c.find? p=none):d.find? p=none:=
 List.find?_eq_none.mpr λx e=>List.find?_eq_none.mp h x (hs.subset e)
section
variable(n late:Nat)
def fol(h:Ε)(i:Nat):Prop:=i∉h/\∀o∈h,o<=i+late
instance (h:Ε) (i:Nat):Decidable (fol late h i):=by unfold fol;exact inferInstance
def srt(l:Ε):Ε:=l.mergeSort (λa b=>decide (a<=b))
def rwS(r:Ε)(i:Nat):Ε:=(srt (r++[i])).filter λe=>decide ((srt (r++[i])).getLastD 0<=e+late)
def recOf(h:Ε):Ε:=h.foldl (rwS late) []
def nn(r:Ε):Ε:=(List.range n).filter λi=>decide (i∉r)&&decide (r.getLastD 0<=i+late)
theorem mem_srt{l:Ε}{e:Nat}:e∈srt l↔e∈l:=List.mem_mergeSort
theorem srt_sorted(l:Ε):(srt l).Pairwise (· <= ·):=by
 have:=List.pairwise_mergeSort (le:=λa b=>decide (a<=b)) (λa b c h1 d=>by simp at *;omega) (λa b=>by simp;omega) l
 simpa [srt]using this
theorem bp:∀{l:Ε},l.Pairwise (· <= ·)->∀e∈l,e<=l.getLastD 0
 | [],_,e,h=>by cases h
 | [a],_,e,h=>by rw[Jn.mp h];exact Je _
 |a::b::l,hp,e,h=>by
  rw[List.pairwise_cons]at hp;have c:=bp (l:=b::l) hp.2
  have d:(a::b::l).getLastD 0=(b::l).getLastD 0:=by simp [List.getLastD]
  rw[d];rcases Jl.mp h with rfl|h
  ·exact Ju (hp.1 b (by simp)) (c b (by simp))
  ·exact c e h
theorem last_mem:∀{l:Ε},l≠[]->l.getLastD 0∈l
 | [],h=>absurd Z h
 |a::l,_=>by
  have:(a::l).getLastD 0=(a::l).getLast (by simp):=by simp [List.getLastD]
  rw[this];exact List.getLast_mem _
theorem recOf_snoc(h:Ε)(i:Nat):recOf late (h++[i])=rwS late (recOf late h) i:=by simp [recOf]
theorem wP{r:Ε}{i e:Nat}:e∈rwS late r i↔(e∈r\/e=i)/\∀o,(o∈r\/o=i)->o<=e+late:=by
 unfold rwS;rw[J4,mem_srt,JK,Jn,JB];constructor
 ·rintro⟨h1,c⟩
  refine#[h1,λo d=>Ju (bp (srt_sorted _) o (mem_srt.mpr (JK.mpr (by simpa using d)))) c]
 ·rintro⟨h1,c⟩
  refine#[h1,c _ ?_]
  have a:srt (r++[i])≠[]:=by
   intro z
   have:i∈srt (r++[i]):=mem_srt.mpr (by simp)
   rw[z]at this;cases this
  have:=mem_srt.mp (last_mem a)
  simpa using this
theorem mem_recOf:∀(h:Ε) (e:Nat),e∈recOf late h↔e∈h/\∀o∈h,o<=e+late:=by
 intro h
 induction h using snocInd with
 |nil=>intro e;simp [recOf]
 |snoc h i ih=>
  intro e;rw[recOf_snoc,wP];constructor
  ·rintro⟨h1,d⟩
   refine#[?_,λo a=>?_]
   ·rcases h1 with h1|h1
    ·exact C0 _ ((ih e).mp h1).1
    ·simp [h1]
   ·rcases JK.mp a with a|a
    ·-- the greatest of h counts
     let#[m,f,c]:∃m∈h,∀o∈h,o<=m:=by
      refine#[(srt h).getLastD 0,mem_srt.mp (last_mem ?_),λo a=>bp (srt_sorted h) o (mem_srt.mpr a)]
      intro z
      have:=mem_srt.mpr a
      rw[z]at this;cases this
     have:m∈recOf late h:=(ih m).mpr #[f,λo a=>Ju (c o a) (DR _ _)]
     exact Ju (c o a) (d m (.inl this))
    ·exact d o (.inr (Jn.mp a))
  ·rintro⟨h1,d⟩
   refine#[?_,λo a=>?_]
   ·rcases JK.mp h1 with h1|h1
    ·exact .inl ((ih e).mpr #[h1,λo a=>d o (C0 _ a)])
    ·exact .inr (Jn.mp h1)
   ·rcases a with a|rfl
    ·exact d o (C0 _ ((ih o).mp a).1)
    ·exact d o (by simp)
theorem kP(h:Ε):(recOf late h).Pairwise (· <= ·):=by
 induction h using snocInd with
 |nil=>exact .nil
 |snoc h i ih=>rw[recOf_snoc];exact(srt_sorted _).filter _
theorem mem_nn{h:Ε}{i:Nat}:i∈nn n late (recOf late h)↔i<n/\fol late h i:=by
 unfold nn fol;rw[J4,JN,JC,JB,JB];refine and_congr_right λhi=>?_
 constructor
 ·rintro⟨h1,e⟩
  have key:∀o∈h,o<=i+late:=by
   intro o c;have g:(srt h).getLastD 0∈h:=mem_srt.mp (last_mem (by intro z;have:=mem_srt.mpr c;rw[z]at this;cases this))
   have a:∀o∈h,o<=(srt h).getLastD 0:=λo c=>bp (srt_sorted h) o (mem_srt.mpr c)
   have f:(srt h).getLastD 0∈recOf late h:=(mem_recOf late h _).mpr #[g,λo c=>Ju (a o c) (DR _ _)]
   exact Ju (a o c) (Ju (bp (kP late h) _ f) e)
  exact#[λd=>h1 ((mem_recOf late h i).mpr #[d,key]),key]
 ·rintro⟨h1,e⟩
  exists λz=>h1 ((mem_recOf late h i).mp z).1
  by_cases z:recOf late h=[]
  ·rw[z];exact JR _
  ·exact e _ ((mem_recOf late h _).mp (last_mem z)).1
end
section
variable{B:Type} [DecidableEq B](n late k:Nat)(own pl:Nat->Bool)(mv:Nat->B->B)(op:B->Bool)(b0:B)
def st(h:Ε):B:=h.foldl (λb i=>mv i b) b0
theorem st_snoc(h:Ε)(i:Nat):st mv b0 (h++[i])=mv i (st mv b0 h):=by simp [st]
theorem sK(h t:Ε):st mv b0 (h++t)=t.foldl (λb i=>mv i b) (st mv b0 h):=by simp [st]
def key(h:Ε):B×Ε:=(st mv b0 h,recOf late h)
def af(h:Ε):List Ε:=((List.range n).filter λi=>own i&&decide (fol late h i)).map λi=>h++[i]
def full:Nat->List Ε
 |0=>[[]]
 |d+1=>(full d).flatMap (af n late own)
def ways(h:Ε):List Ε:=((nn n late (recOf late h)).filter λi=>pl i&&decide (mv i (st mv b0 h)≠st mv b0 h)).map λi=>h++[i]
def ins(a:List Ε×List (B×Ε))(c:Ε):List Ε×List (B×Ε):=if key late mv b0 c∈a.2 then a else(a.1++[c],a.2++[key late mv b0 c])
def layer:Nat->List Ε×List (B×Ε)
 |0=>([[]],[])
 |d+1=>((layer d).1.flatMap (ways n late pl mv b0)).foldl (ins late mv b0) ([],(layer d).2)
def good(h:Ε):Bool:=decide (fol late h k)&&op (st mv b0 h)
theorem mem_kids{h x:Ε}:x∈af n late own h↔∃i,x=h++[i]/\i<n/\own i=true/\fol late h i:=by
 unfold af;simp only[Jv,J4,JN,JC,JB];constructor
 ·rintro⟨i,⟨h1,a,c⟩,rfl⟩;exact#[i,Z,h1,a,c]
 ·rintro⟨i,rfl,h1,a,c⟩;exact#[i,#[h1,a,c],Z]
theorem len_full:∀{d:Nat} {h:Ε},h∈full n late own d->h.length=d
 |0,h,hm=>by rw[Jn.mp hm];rfl
 |d+1,h,hm=>by
  let#[p,a,hk]:=List.mem_flatMap.mp hm;let#[i,rfl,_]:=(mem_kids n late own).mp hk
  rw[Jx,len_full a];rfl
theorem bZ{d:Nat}{h:Ε}{i:Nat}:h++[i]∈full n late own (d+1)↔h∈full n late own d/\i<n/\own i=true/\fol late h i:=by
 constructor
 ·intro f
  let#[p,a,hk]:=List.mem_flatMap.mp f;let#[j,e,h1]:=(mem_kids n late own).mp hk
  let#[rfl,c]:=List.append_inj' e Z;injection c with c
  subst c
  exact#[a,h1]
 ·rintro⟨a,h1⟩
  exact List.mem_flatMap.mpr #[h,a,(mem_kids n late own).mpr #[i,Z,h1]]
theorem bU:∀d,(full n late own d).Nodup
 |0=>by simp [full]
 |d+1=>by
  unfold full List.Nodup;rw[List.pairwise_flatMap];exists λh _=>?_
  ·unfold af
   rw[List.pairwise_map];refine List.Pairwise.imp ?_ (List.nodup_range.filter _)
   intro a b c z
   have:=List.append_cancel_left z
   injection this with e
   exact c e
  ·refine List.Pairwise.imp ?_ (bU d)
   intro a b c x g y l z;let#[i,f,_]:=(mem_kids n late own).mp g
   let#[j,m,_]:=(mem_kids n late own).mp l
   rw[f,m]at z;exact c (List.append_inj' z Z).1
def ext:Ε->Ε->Prop
 |_,[]=>True
 |p,i::t=>(i<n/\own i=true/\fol late p i)/\ext (p++[i]) t
theorem Zu:∀(t:Ε) {p:Ε} {d:Nat},p.length=d->(p++t∈full n late own (d+t.length)↔p∈full n late own d/\ext n late own p t)
 | [],p,d,hp=>by simp [ext]
 |i::t,p,d,hp=>by
  have f:=Zu t (p:=p++[i]) (d:=d+1) (by simp [hp])
  have e:p++i::t=(p++[i])++t:=by simp
  have g:d+(i::t).length=d+1+t.length:=by simp;omega
  rw[e,g,f,bZ];simp only[ext];constructor
  ·rintro⟨⟨a,b⟩,c⟩;exact#[a,b,c]
  ·rintro⟨a,b,c⟩;exact#[#[a,b],c]
theorem og{p q:Ε}(e:recOf late p=recOf late q){i:Nat}(hi:i<n):fol late p i↔fol late q i:=by
 have h1:=mem_nn n late (h:=p) (i:=i)
 have a:=mem_nn n late (h:=q) (i:=i)
 rw[e]at h1
 have:=h1.symm.trans a
 simpa [hi]using this
theorem iK:∀(t:Ε) {p q:Ε},key late mv b0 p=key late mv b0 q->ext n late own p t->ext n late own q t/\key late mv b0 (p++t)=key late mv b0 (q++t)
 | [],p,q,e,_=>#[trivial,by simpa using e]
 |i::t,p,q,e,⟨⟨h1,h2,h3⟩,h4⟩=>by
  have c:st mv b0 p=st mv b0 q:=JH Prod.fst e
  have a:recOf late p=recOf late q:=JH Prod.snd e
  have g:key late mv b0 (p++[i])=key late mv b0 (q++[i]):=by
   unfold key;rw[st_snoc,st_snoc,recOf_snoc,recOf_snoc,c,a]
  let#[d,f]:=iK t g h4;exists #[#[h1,h2,(og n late a h1).mp h3],d]
  simpa using f
theorem lO{p q:Ε}(hs:∀o,o∈q->o∈p){i:Nat}(h:fol late p i):fol late q i:=#[λz=>h.1 (hs _ z),λo a=>h.2 o (hs o a)]
theorem lY:∀(t:Ε) {p q:Ε},(∀o,o∈q->o∈p)->ext n late own p t->ext n late own q t
 | [],_,_,_,_=>trivial
 |i::t,p,q,hs,⟨⟨h1,h2,h3⟩,h4⟩=>#[#[h1,h2,lO late hs h3],lY t (λo a=>by rcases JK.mp a with a|a;exact C0 _ (hs o a);exact JY _ a) h4]
theorem n4:∀(t:Ε) {p q:Ε} {d:Nat},[q,p].Sublist (full n late own d)->ext n late own q t->ext n late own p t->[q++t,p++t].Sublist (full n late own (d+t.length))
 | [],p,q,d,h,_,_=>by simpa using h
 |i::t,p,q,d,h,⟨hq,hq'⟩,⟨hp,hp'⟩=>by
  have e:=n4 t (d:=d+1) (eN h ((mem_kids n late own).mpr #[i,Z,hq]) ((mem_kids n late own).mpr #[i,Z,hp])) hq' hp'
  have a:d+(i::t).length=d+1+t.length:=by simp;omega
  rw[a]
  simpa using e
theorem gj{e:Type}{l:List e}{p q:e->Bool}(h:∀a∈l,p a=true->q a=true):(l.filter p).Sublist (l.filter q):=by
 induction l with
 |nil=>exact .slnil
 |cons a l c=>
  have c:=c λb f=>h b (JF _ f)
  rw[List.filter_cons,List.filter_cons]
  by_cases d:p a=true
  ·rw[Jb d,Jb (h a (by simp) d)];exact c.cons_cons _
  ·rw[Jc d]
   split
   ·exact c.cons _
   ·exact c
theorem Qy{e j:Type}{f g:e->List j}:∀{c d:List e},c.Sublist d->(∀a∈c,(f a).Sublist (g a))->(c.flatMap f).Sublist (d.flatMap g)
 |_,_,.slnil,_=> .slnil
 |c,_,.cons (l₂:=d) a h,hf=>by rw[List.flatMap_cons];exact(Qy h hf).trans (List.sublist_append_right _ _)
 |_,_,.cons_cons (l₁:=c) (l₂:=d) a h,hf=>by
  rw[List.flatMap_cons,List.flatMap_cons]
  exact(hf a (by simp)).append (Qy h λb i=>hf b (JF _ i))
theorem fA(hpl:∀i,pl i=true->own i=true)(h:Ε):(ways n late pl mv b0 h).Sublist (af n late own h):=by
 unfold ways af;refine List.Sublist.map _ ?_
 unfold nn;rw[List.filter_filter];refine gj λi hi a=>?_
 rw[JC,JC]at a;let#[#[h1,_],c]:=a;rw[JC,JB];refine#[hpl i h1,((mem_nn n late).mp ?_).2]
 unfold nn;exact J4.mpr #[hi,c]
theorem fw:∀(C:List Ε) (a:List Ε×List (B×Ε)),∃R:List Ε,R.Sublist C/\(C.foldl (ins late mv b0) a).1=a.1++R/\(C.foldl (ins late mv b0) a).2=a.2++R.map (key late mv b0)/\
  ∀x∈C,x∈R\/key late mv b0 x∈a.2\/∃y∈R,key late mv b0 y=key late mv b0 x/\[y,x].Sublist C
 | [],a=>#[[],.slnil,by simp,by simp,λx d=>by cases d]
 |c::C,a=>by
  rw[List.foldl_cons]
  by_cases f:key late mv b0 c∈a.2
  ·have e:ins late mv b0 a c=a:=Jb f
   rw[e];let#[R,h1,i,j,g]:=fw C a;refine#[R,h1.cons _,i,j,λx d=>?_]
   rcases Jl.mp d with rfl|d
   ·exact .inr (.inl f)
   ·rcases g x d with h|h|⟨y,l,e,hs⟩
    ·exact .inl h
    ·exact .inr (.inl h)
    ·exact .inr (.inr #[y,l,e,hs.cons _])
  ·have e:ins late mv b0 a c=(a.1++[c],a.2++[key late mv b0 c]):=Jc f
   rw[e];let#[R,h1,i,j,g]:=fw C (a.1++[c],a.2++[key late mv b0 c])
   refine#[c::R,h1.cons_cons _,by rw[i];simp,by rw[j];simp,λx d=>?_]
   rcases Jl.mp d with rfl|d
   ·exact .inl (by simp)
   ·rcases g x d with h|h|⟨y,l,e,hs⟩
    ·exact .inl (JF _ h)
    ·rcases JK.mp h with h|h
     ·exact .inr (.inl h)
     ·exact .inr (.inr #[c,by simp,(Jn.mp h).symm,(List.singleton_sublist.mpr d).cons_cons _])
    ·exact .inr (.inr #[y,JF _ l,e,hs.cons _])
theorem Zq(d:Nat):∃R:List Ε,R.Sublist ((layer n late pl mv b0 d).1.flatMap (ways n late pl mv b0))/\(layer n late pl mv b0 (d+1)).1=R/\(layer n late pl mv b0 (d+1)).2=(layer n late pl mv b0 d).2++R.map (key late mv b0)/\
  ∀x∈(layer n late pl mv b0 d).1.flatMap (ways n late pl mv b0),x∈R\/key late mv b0 x∈(layer n late pl mv b0 d).2\/∃y∈R,key late mv b0 y=key late mv b0 x/\[y,x].Sublist ((layer n late pl mv b0 d).1.flatMap (ways n late pl mv b0)):=by
 let#[R,h1,a,c,e]:=fw late mv b0 ((layer n late pl mv b0 d).1.flatMap (ways n late pl mv b0)) ([],(layer n late pl mv b0 d).2)
 exact#[R,h1,a.trans (CV R),c,e]
theorem layer_sub(hpl:∀i,pl i=true->own i=true):∀d,(layer n late pl mv b0 d).1.Sublist (full n late own d)
 |0=>List.Sublist.refl _
 |d+1=>by
  let#[R,h1,c,_]:=Zq n late pl mv b0 d;rw[c];exact h1.trans (Qy (layer_sub hpl d) λa _=>fA n late own pl mv b0 hpl a)
theorem gq:∀(d:Nat) (κ:B×Ε),κ∈(layer n late pl mv b0 d).2->∃f q,f<=d/\q∈(layer n late pl mv b0 f).1/\key late mv b0 q=κ
 |0,κ,h=>by cases h
 |d+1,κ,h=>by
  let#[R,_,g,j,_]:=Zq n late pl mv b0 d;rw[j]at h;rcases JK.mp h with h|h
  ·let#[f,q,a,b,c]:=gq d κ h
   exact#[f,q,Nat.le_succ_of_le a,b,c]
  ·let#[q,i,e]:=Jv.mp h
   exact#[d+1,q,Je _,by rw[g];exact i,e]
theorem kU{p q:Ε}(hk:k<n)(e:key late mv b0 p=key late mv b0 q)(h:good late k mv op b0 p=true):good late k mv op b0 q=true:=by
 unfold good at *
 rw[JC,JB]at *
 exists (og n late (JH Prod.snd e) hk).mp h.1
 have a:st mv b0 p=st mv b0 q:=JH Prod.fst e
 rw[<- a];exact h.2
theorem tU(hpl:∀i,pl i=true->own i=true)(F:∀i b,own i=true->pl i=false->mv i b=b)(hk:k<n){D:Nat}{g:Ε}
  (K:∀d,d<D->(full n late own d).find? (good late k mv op b0)=none)(hg:(full n late own D).find? (good late k mv op b0)=↑g):∀j,j<=D->g.take j∈(layer n late pl mv b0 j).1:=by
 have L:g∈full n late own D:=List.mem_of_find?_eq_some hg
 have w:good late k mv op b0 g=true:=List.find?_some hg
 have T:=len_full n late own L;intro j
 induction j with
 |zero=>intro _;simp [layer]
 |succ j v=>
  intro hj;have v:=v (by omega)
  have B:j<g.length:=by omega
  let#[p,i,t,M,C,N]:∃p i t,g.take j=p/\g=p++i::t/\g.take (j+1)=p++[i]:=#[_,g[j],g.drop (j+1),Z,by rw[List.getElem_cons_drop,List.take_append_drop],by rw[List.take_succ_eq_append_getElem B]]
  rw[N];rw[M]at v;have l:p.length=j:=by rw[<- M,J0];omega
  have c:g=(p++[i])++t:=by rw[C];simp
  have I:D=j+1+t.length:=by rw[<- T,C];simp;omega
  have J:=L;rw[c,I]at J;let#[x,f]:=(Zu n late own t (p:=p++[i]) (d:=j+1) (by simp [l])).mp J
  let#[hp,hi,X,W]:=(bZ n late own).mp x
  have A:mv i (st mv b0 p)≠st mv b0 p:=by
   intro e;have Y:ext n late own p t:=lY n late own t (λo h=>C0 _ h) f
   have r:p++t∈full n late own (j+t.length):=(Zu n late own t l).mpr #[hp,Y]
   have es:st mv b0 (p++t)=st mv b0 g:=by rw[c,sK,sK mv b0 (p++[i]),st_snoc,e]
   have m:good late k mv op b0 (p++t)=true:=by
    unfold good at *
    rw[JC,JB]at *
    refine#[lO late (λo h=>?_) w.1,by rw[es];exact w.2]
    rw[C];rcases JK.mp h with h|h
    ·exact C0 _ h
    ·exact JY _ (JF _ h)
   have:=List.find?_eq_none.mp (K (j+t.length) (by omega)) _ r
   exact this m
  have Pl:pl i=true:=by
   cases h:pl i with
   |true=>rfl
   |false=>exact absurd (F i _ X h) A
  have Q:p++[i]∈ways n late pl mv b0 p:=by
   unfold ways;exact Jv.mpr #[i,J4.mpr #[(mem_nn n late).mpr #[hi,W],by rw[JC,JB];exact#[Pl,A]],Z]
  let#[R,h1,P,h3,O]:=Zq n late pl mv b0 j;rw[P];rcases O _ (List.mem_flatMap.mpr #[p,v,Q])with h|h|⟨y,hy,e,hs⟩
  ·exact h
  ·exfalso
   let#[G,q,U,S,e]:=gq n late pl mv b0 j _ h;have u:=(layer_sub n late own pl mv b0 hpl G).subset S;let#[E,z]:=iK n late own mv b0 t e.symm f;have r:q++t∈full n late own (G+t.length):=(Zu n late own t (len_full n late own u)).mpr #[u,E]
   have:=List.find?_eq_none.mp (K (G+t.length) (by omega)) _ r
   exact this (kU n late k mv op b0 hk z (by rw[<- c];exact w))
  ·exfalso
   have H:[y,p++[i]].Sublist (full n late own (j+1)):=hs.trans (Qy (layer_sub n late own pl mv b0 hpl j) λa _=>fA n late own pl mv b0 hpl a)
   let#[E,z]:=iK n late own mv b0 t e.symm f;have s:=n4 n late own t H E f;rw[<- c,<- I]at s;exact cD (bU n late own D) hg s (kU n late k mv op b0 hk z (by rw[<- c];exact w))
theorem layer_finds(hpl:∀i,pl i=true->own i=true)(a:∀i b,own i=true->pl i=false->mv i b=b)(hk:k<n){D:Nat}{g:Ε}
  (c:∀d,d<D->(full n late own d).find? (good late k mv op b0)=none)(hg:(full n late own D).find? (good late k mv op b0)=↑g):
  (∀d,d<D->(layer n late pl mv b0 d).1.find? (good late k mv op b0)=none)/\(layer n late pl mv b0 D).1.find? (good late k mv op b0)=↑g:=by
 have f:=len_full n late own (List.mem_of_find?_eq_some hg);refine#[λd e=>md (layer_sub n late own pl mv b0 hpl d) (c d e),uY (bU n late own D) (layer_sub n late own pl mv b0 hpl D) hg ?_]
 have:=tU n late k own pl mv op b0 hpl a hk c hg D (Je _)
 rwa [CZ (by omega)]at this
theorem layer_none(hpl:∀i,pl i=true->own i=true){d:Nat}(h:(full n late own d).find? (good late k mv op b0)=none):(layer n late pl mv b0 d).1.find? (good late k mv op b0)=none:=
 md (layer_sub n late own pl mv b0 hpl d) h
end
section
variable{B:Type}[DecidableEq B](n late k:Nat)(own:Nat->Bool)(mv:Nat->B->B)(op:B->Bool)(b0:B)
def kidsK(h:Ε):List Ε:=((List.range n).filter λi=>(own i&&decide (fol late h i))&&decide (i≠k)).map λi=>h++[i]
def lev:Nat->List Ε
 |0=>[[]]
 |d+1=>(lev d).flatMap (kidsK n late k own)
theorem mJ(h:Ε)(hk:k∉h):(af n late own h).filter (λx=>decide (k∉x))=kidsK n late k own h:=by
 unfold af kidsK;rw[List.filter_map,List.filter_filter];congr 1
 refine List.filter_congr λi hi=>?_
 simp only[Function.comp];have e:decide (k∉h++[i])=decide (i≠k):=by
  rw[decide_eq_decide];simp [hk,eq_comm]
 rw[e,Bool.and_comm]
theorem k5(h:Ε)(hk:k∈h):(af n late own h).filter (λx=>decide (k∉x))=[]:=by
 rw[List.filter_eq_nil_iff];intro x a;let#[i,rfl,_]:=(mem_kids n late own).mp a
 simp [hk]
theorem bo{c e:Type}{f g:c->List e}{p:c->Bool}:∀{l:List c},(∀a∈l,p a=false->f a=[])->(∀a∈l,p a=true->f a=g a)->l.flatMap f=(l.filter p).flatMap g
 | [],_,_=>rfl
 |a::l,h0,h1=>by
  rw[List.flatMap_cons,List.filter_cons,bo (l:=l) (λb d=>h0 b (JF _ d)) (λb d=>h1 b (JF _ d))]
  cases h:p a with
  |true=>rw[Jb Z,List.flatMap_cons,h1 a (by simp) h]
  |false=>rw[Jc ⋯,h0 a (by simp) h];rfl
theorem kX:∀d,lev n late k own d=(full n late own d).filter λh=>decide (k∉h)
 |0=>by simp [lev,full]
 |d+1=>by
  unfold lev full;rw[List.filter_flatMap,kX d];symm
  refine bo (λa _ h=>?_) (λa _ h=>?_)
  ·exact k5 n late k own a (by simpa using h)
  ·exact mJ n late k own a (by simpa using h)
theorem lev_find(d:Nat):(lev n late k own d).find? (good late k mv op b0)=(full n late own d).find? (good late k mv op b0):=by
 rw[kX,List.find?_filter];congr 1
 funext h
 cases hg:good late k mv op b0 h with
 |false=>simp
 |true=>
  have:k∉h:=by
   unfold good at hg;rw[JC,JB]at hg;exact hg.1.1
  simp [this]
theorem nodup_of_full:∀{d:Nat} {h:Ε},h∈full n late own d->h.Nodup/\∀o∈h,o<n
 |0,h,hm=>by rw[Jn.mp hm];exact#[.nil,λo c=>by cases c]
 |d+1,h,hm=>by
  let#[p,m,hk]:=List.mem_flatMap.mp hm;let#[i,rfl,hi,_,f]:=(mem_kids n late own).mp hk
  let#[h1,j]:=nodup_of_full m;refine#[?_,λo c=>?_]
  ·rw[DG]
   refine#[h1,by simp,λa l b g e=>?_]
   rw[Jn.mp g]at e;exact f.1 (e▸l)
  ·rcases JK.mp c with c|c
   ·exact j o c
   ·rw[Jn.mp c];exact hi
theorem rest_len:∀{l h:Ε},l.Nodup->h.Nodup->(∀o∈h,o∈l)->(l.filter λi=>decide (i∉h)).length+h.length=l.length:=by
 intro l h f d hs;have h1:((l.filter λi=>decide (i∉h))++h).Perm l:=by
  have c:(l.filter λi=>decide (i∈h)).Perm h:=by
   rw[List.perm_ext_iff_of_nodup (f.filter _) d];intro a;rw[J4,JB]
   exact#[λz=>z.2,λz=>#[hs a z,z]]
  have g:((l.filter λi=>decide (i∈h))++(l.filter λi=> ! decide (i∈h))).Perm l:=List.filter_append_perm _ _
  have e:(l.filter λi=>decide (i∉h))=(l.filter λi=> ! decide (i∈h)):=by
   congr 1;funext i;simp
  rw[e]
  exact(List.perm_append_comm.trans ((c.symm.append_right _))).trans g
 have:=h1.length_eq
 rwa [Jx]at this
theorem vB{d:Nat}{h:Ε}(hm:h∈full n late own d):(af n late own h).length<=n-d:=by
 let#[h1,c]:=nodup_of_full n late own hm;have f:=len_full n late own hm
 have:=rest_len List.nodup_range h1 (λo e=>JN.mpr (c o e))
 rw[List.length_range]at this;unfold af;rw[Jd];have hs:((List.range n).filter λi=>own i&&decide (fol late h i)).length<=((List.range n).filter λi=>decide (i∉h)).length:=by
  refine(gj λi _ a=>?_).length_le
  rw[JC,JB]at a;rw[JB];exact a.2.1
 omega
def mX:Nat->Nat
 |0=>1
 |d+1=>mX d*(n-d)
theorem eE{d g:Type}{f:d->List g}{c:Nat}:∀{l:List d},(∀a∈l,(f a).length<=c)->(l.flatMap f).length<=l.length*c
 | [],_=>by simp
 |a::l,h=>by
  rw[List.flatMap_cons,Jx,CP,Nat.succ_mul]
  have:=h a (by simp)
  have:=eE (l:=l) (λb e=>h b (JF _ e))
  omega
theorem bR:∀d,(full n late own d).length<=mX n d
 |0=>Je _
 |d+1=>by
  unfold full mX;refine Ju (eE λh a=>vB n late own a) (Nat.mul_le_mul_right _ (bR d))
theorem full_end{d:Nat}(hd:n<d):full n late own d=[]:=by
 rw[List.eq_nil_iff_forall_not_mem];intro h a;let#[h1,c]:=nodup_of_full n late own a;have f:=len_full n late own a
 have:=rest_len List.nodup_range h1 (λo e=>JN.mpr (c o e))
 rw[List.length_range]at this;omega
theorem rT:∀n,n<=9->∀d,d<=10->mX n d<=362880:=by decide +kernel
end
end GS
namespace L3
open PySem PySem.Spec PyProof.Rows L2
section
variable{K:ι}{C:Δ}{S:Ι}{H H':Hp}
theorem HY.mv{pl:Δ}{ps:Τ}(h:HY H pl ps)(m:Mv S H H')(nt:NT S H)(hr:pl∉S):HY H' pl ps:=by
 let#[d,e,l,r]:=h
 exact#[d,m _ _ hr e,l,λi a P h1 c=>FP.mv m nt (r i a P h1 c)]
theorem HY.same{pl:Δ}{ps:Τ}(h:HY H pl ps)(s:Fp H H'):HY H' pl ps:=h.mv (S:=[]) s.mv gB (λh=>nomatch h)
theorem HY.grc{pl b:Δ}{n n':Nat}{ps:Τ}(h:HY H pl ps)(hb:F2 H b n)(g:FY b n' H H'):HY H' pl ps:=by
 let#[d,e,_]:=id h;let#[x,y,z,c,_]:=id hb;exact h.mv g.mv (Qe hb) (qE (qC e c (Qn 0 Z (by intro a z;cases z))))
theorem GY.grc{q b:Δ}{n n':Nat}{D:Dr}{L:Ρ}(h:GY H q D L)(hb:F2 H b n)(g:FY b n' H H'):GY H' q D L:=h.mv g.mv (Qe hb)
theorem F4.grc{a:Da}{b:Δ}{n n':Nat}{D:Dr}{L:Ρ}(d:F4 K C H a D L)(hb:F2 H b n)(g:FY b n' H H')(nb:b∉dS a):F4 K C H' a D L:=d.mv g.mv (Qe hb) (qE (λz=>nb (z▸oM _))) (qE (λz=>nb (z▸oq _))) (qE (λz=>nb (z▸fR _))) (qE (λz=>nb (z▸cY _)))
end
end L3
namespace L3
open PySem PySem.Spec PyProof.Rows L2
end L3
namespace L3
open PySem PySem.Spec PyProof.Rows L2 PySem.SeqAt
def HG(H:Hp)(v:V):Option (Str×Int×Int)->Prop
 |none=>v= .non
 |some (nm,age,c)=>∃q,v= .ref q/\H q=↑(.tup [.str nm,.int age,.int c])
theorem HG.same{H H':Hp}{v:V}{o:Option (Str×Int×Int)}(s:Fp H H')(h:HG H v o):HG H' v o:=by
 cases o with
 |none=>exact h
 |some x=>let#[nm,age,c]:=x;let#[q,e,a]:=h;exact#[q,e,s _ _ a]
def qR(D:Dr)(P:Ps):Option (Str×Int×Int):=(Zk D P).bind λx=>if(D.kn.lookup P.nm).isSome then ↑(P.nm,P.age,x.1)else none
def HU(H:Hp)(l:Δ)(c:List (Option (Str×Int×Int))):Prop:=∃a:Β,H l=↑(.lst a)/\a.length=c.length/\∀(i:Nat) (v:V) (o:Option (Str×Int×Int)),a[i]? =↑v->c[i]? =↑o->HG H v o
theorem HU.same{H H':Hp}{l:Δ}{a:List (Option (Str×Int×Int))}(s:Fp H H')(h:HU H l a):HU H' l a:=by
 let#[d,e,f,g]:=h
 exact#[d,s _ _ e,f,λi v o h1 c=>(g i v o h1 c).same s]
def Qi(nm:Str):Option (Str×Int×Int)->Option (Str×Int×Int)
 |none=>none
 |some x=>if x.1=nm then ↑x else none
section
variable(K:ι)(C:Δ)
inductive LD (vs:Β) (H:Hp) (Q:VK):Prop
 |mk (p ta hk bd lg a q:Δ) (n:Nat) (D:Dr) (e:Kb) (nm:Str) (age c:Int) (h1:vs=[.ref p,.ref a,.ref q]) (h2:Fu K C H p ta hk bd lg n D) (h3:FT H a e) (h4:H q=↑(.tup [.str nm,.int age,.int c])) (h5:∀H',Fp H H'->Q (.bl (decide ((zU D e age c).1="near"))) H')
def rZ:Sp:=λa H Q _=>LD K C a H Q
inductive Lo (vs:Β) (H:Hp) (Q:VK):Prop
 |mk (p ta hk bd lg a q:Δ) (n:Nat) (D:Dr) (e:Kb) (nm:Str) (age c:Int) (h1:vs=[.ref p,.ref a,.ref q]) (h2:Fu K C H p ta hk bd lg n D) (h3:FT H a e) (h4:H q=↑(.tup [.str nm,.int age,.int c])) (h5:∀a' H',Fp H H'->FT H' a' (zU D e age c).2->Q (.ref a') H')
def nZ:Sp:=λa H Q _=>Lo K C a H Q
inductive IQ (vs:Β) (H:Hp) (Q:VK):Prop
 |mk (p ta hk bd lg pr:Δ) (n:Nat) (D:Dr) (P:Ps) (h1:vs=[.ref p,.ref pr]) (h2:Fu K C H p ta hk bd lg n D) (h3:GR D) (h4:Gv H pr P) (h5:HC P) (h6:∀y H',Fp H H'->HG H' y (qR D P)->Q y H')
def fD:Sp:=λa H Q _=>IQ K C a H Q
inductive HV (vs:Β) (H:Hp) (Q:VK):Prop
 |mk (p ta hk bd lg r:Δ) (n:Nat) (D:Dr) (qs:Τ) (h1:vs=[.ref p,.ref r]) (h2:Fu K C H p ta hk bd lg n D) (h3:GR D) (h4:LQ K H r qs) (h5:qs.length<=100) (h6:∀l H',Fp H H'->HU H' l (qs.map (qR D))->Q (.ref l) H')
def f8:Sp:=λa H Q _=>HV K C a H Q
end
inductive IR (vs:Β) (H:Hp) (Q:VK):Prop
 |mk (l:Δ) (nm:Str) (os:List (Option (Str×Int×Int))) (h1:vs=[.ref l,.str nm]) (h2:HU H l os) (h3:os.length<=100) (h4:∀m H',Fp H H'->HU H' m (os.map (Qi nm))->Q (.ref m) H')
def ma:Sp:=λa H Q _=>IR a H Q
def qM(rs:Ε):Β:=rs.map λn:Nat=>V.int (n:Int)
theorem fE(rs:Ε):(qM rs).all ZZ=true:=by
 unfold qM;rw[List.all_map];exact Dk.mpr λx _=>rfl
theorem kj(rs:Ε)(j:Nat):v4 (.int (j:Int)) (qM rs)=decide (j∈rs):=by
 unfold v4 qM;rw[List.any_map]
 induction rs with
 |nil=>rfl
 |cons a rs ih=>
  rw[Dx,ih];have e:(Function.comp (λy=>gV y (.int (j:Int))) (λn:Nat=>V.int (n:Int))) a=decide (j=a):=by
   show((a:Int)==(j:Int))=decide (j=a)
   by_cases h:j=a
   ·subst h;simp
   ·rw[Jj h];simpa using λz:(a:Int)=j=>h (by omega)
  rw[e]
  by_cases h:j=a
  ·subst h;simp
  ·simp [h]
theorem jJ{X:Cx}{K:ι}(e:X.K=K):zf X (compareOp .NotIn) (Bt K true):=by subst e;exact cy
theorem nY{a:Type}(l:List a):l=[]\/∃r m,l=r++[m]:=by
 rcases List.eq_nil_or_concat l with h|⟨r,m,h⟩
 ·exact .inl h
 ·exact .inr #[r,m,by rw[h,List.concat_eq_append]]
inductive IS (vs:Β) (H:Hp) (Q:VK):Prop
 |mk (r:Δ) (rs:Ε) (many late:Nat) (h1:vs=[.ref r,.int (many:Int),.int (late:Int)]) (h2:H r=↑(.tup (qM rs))) (h3:many<=100) (h4:late<=100) (h5:(∀e∈rs,e<100)) (h6:∀l H',Fp H H'->H l=none->H' l=↑(.lst (qM (GS.nn many late rs)))->Q (.ref l) H')
def fK:Sp:=λa H Q _=>IS a H Q
theorem wH{n late:Nat}{rs:Ε}{i:Nat}(h:n<=rs.getLastD 0-late+i)(hi:i=0\/rs.getLastD 0-late+i=n):(List.range (rs.getLastD 0-late+i)).filter (λi=>decide (i∉rs)&&decide (rs.getLastD 0<=i+late))=GS.nn n late rs:=by
 unfold GS.nn;rcases hi with rfl|e
 ·have z:∀m,m<=rs.getLastD 0-late->(List.range m).filter (λi=>decide (i∉rs)&&decide (rs.getLastD 0<=i+late))=[]:=λm d=>by
   rw[List.filter_eq_nil_iff];intro a c
   have:=JN.mp c
   rw[JC,JB,JB];omega
  rw[Nat.add_zero,z _ (Je _),z n (by omega)]
 ·rw[e]
theorem jj:∀{a b:Ζ},a.Perm b->a.Pairwise (· <= ·)->b.Pairwise (· <= ·)->a=b
 | [],b,p,_,_=>p.nil_eq
 |x::a,[],p,_,_=>by cases p.eq_nil
 |x::a,y::b,p,ha,hb=>by
  rw[List.pairwise_cons]at ha hb;have h1:x<=y:=by
   rcases Jl.mp (p.mem_iff.mpr (JJ (a:=y) (l:=b)))with e|h
   ·omega
   ·exact ha.1 y h
  have c:y<=x:=by
   rcases Jl.mp (p.mem_iff.mp (JJ (a:=x) (l:=a)))with e|h
   ·omega
   ·exact hb.1 x h
  have e:x=y:=by omega
  subst e;rw[jj (List.Perm.cons_inv p) ha.2 hb.2]
theorem oz{l:Ε}{ns:Ζ}(p:ns.Perm (l.map λn:Nat=>(n:Int)))(s:ns.Pairwise (· <= ·)):ns=(GS.srt l).map λn:Nat=>(n:Int):=by
 refine jj (p.trans ?_) s ?_
 ·exact(List.Perm.map _ (List.mergeSort_perm l _)).symm
 ·rw[List.pairwise_map]
  exact(GS.srt_sorted l).imp λh=>by omega
inductive HW (vs:Β) (H:Hp) (Q:VK):Prop
 |mk (r:Δ) (rs:Ε) (i late:Nat) (h1:vs=[.ref r,.int (i:Int),.int (late:Int)]) (h2:H r=↑(.tup (qM rs))) (h3:rs.length<=50) (h4:late<=100) (h5:∀t H',Fp H H'->H' t=↑(.tup (qM (GS.rwS late rs i)))->Q (.ref t) H')
def gH:Sp:=λa H Q _=>HW a H Q
def PK.toL:PK->List PK
 | .cons x xs=>x::xs.toL
 |_=>[]
theorem e7{h:Ψ}:∀{k:PK} {vs:Η},zL h k vs->k.toL.length=vs.length/\∀(j:Nat) (h1:j<k.toL.length) (h2:j<vs.length),Zj h k.toL[j] vs[j]
 | .int _,_,g=>(show False from g).elim
 | .non,_,g=>(show False from g).elim
 | .nil,vs,g=>by cases(show vs=[]from g);exact#[Z,λj h1=>by cases h1]
 | .cons x xs,vs,g=>by
  let#[v,r,rfl,d,a]:=g;let#[e,c]:=e7 a;refine#[by simp [PK.toL,e],λj h1 h2=>?_]
  cases j with
  |zero=>exact d
  |succ j=>exact c j (by simpa [PK.toL]using h1) (by simpa using h2)
theorem nq{h h':Ψ}:∀{k a:PK} {vs d:Η},zL h k vs->zL h' a d->k.toL=a.toL->k=a
 | .int _,_,_,_,g,_,_=>(show False from g).elim
 | .non,_,_,_,g,_,_=>(show False from g).elim
 | .nil,a,_,_,_,g',e=>by
  cases a with
  |int _=>exact(show False from g').elim
  |non=>exact(show False from g').elim
  |nil=>rfl
  |cons y ys=>cases e
 | .cons x xs,a,_,_,g,g',e=>by
  cases a with
  |int _=>exact(show False from g').elim
  |non=>exact(show False from g').elim
  |nil=>cases e
  |cons y ys=>
   let#[_,_,_,_,f]:=g;let#[_,_,_,_,c]:=g';injection e with e1 e2
   rw[e1,nq f c e2]
theorem re:∀{k:PK} {x:PK},x∈k.toL->x.dp+1<=k.dp
 | .int _,_,h=>by cases h
 | .non,_,h=>by cases h
 | .nil,_,h=>by cases h
 | .cons y ys,x,h=>by
  rcases Jl.mp h with rfl|h
  ·exact Nat.le_max_left _ _
  ·exact Ju (re h) (Nat.le_max_right _ _)
inductive Mm (x:V) (y:V) (H:Hp) (Q:VK):Prop
 |mk (k1 k2:PK) (h1:k1.tup=true) (h2:k2.tup=true) (h3:k1.dp<=4) (h4:ab H k1 x) (h5:ab H k2 y) (h6:Q (.bl (decide (k1≠k2))) H)
theorem wR{X:Cx}{k:Nat}(hr:FJ k X.A):zf X (compareOp .NotEq) Mm:=by
 intro tx s σ H x y v u Q I P J h;let#[i,g,C,r,U,G,t,q]:=h;have i1:=(am I.hok i).1 G P;have i2:=(am I.hok g).1 t J;let#[a,f,rfl,R,n]:=HE.is ((QL C).mp i1)
 let#[b,c,rfl,p2,o]:=HE.is ((QL r).mp i2)
 let#[n1,O]:=e7 n;let#[n2,N]:=e7 o;have M:f.size=i.toL.length:=by rw[n1];simp
 have D:c.size=g.toL.length:=by rw[n2];simp
 have S:X.A.units+6<cLine:=by have:=hr.un;omega
 have e:=RcNeAt.tuples (A:=X.A) (e:=λj=>decide (i.toL.getD j .non=g.toL.getD j .non)) R p2 (by omega) (λj h1 m=>by
  have d:j<i.toL.length:=by omega
  have l:j<g.toL.length:=by omega
  rw[JE,JE,Jg d,Jg l,De,De];intro prog w E Q F;have p:=O j d (by simpa using h1)
  have B:=N j l (by simpa using m)
  have T:=re (CQ d);exact cu _ (Je _) (by rw[CY];omega) (by simpa using p) (by simpa using B) F)
 have L:(!((List.range (min f.size c.size)).all (λj=>decide (i.toL.getD j .non=g.toL.getD j .non))&&f.size==c.size))=decide (i≠g):=by
  rw[M,D];rw[C2,Bool.not_eq_true',decide_eq_true_eq,<- Bool.not_eq_true,JC,Dk,Dj];refine not_congr ⟨λ⟨z,K⟩=>nq n o (List.ext_getElem K λj h1 m=>?_),λz=>?_⟩
  ·have:=z j (JN.mpr (by omega))
   rw[decide_eq_true_eq,JE,JE,Jg h1,Jg m]at this;exact this
  ·subst z
   exact⟨λj _=>by simp,Z⟩
 rw[L]at e;exact e _ _ _ _ ⟨.bl (decide (i≠g)),H,I,Z,q⟩
def AX:Option (Int×Int)->PK
 |none=> .non
 |some (a,c)=> .cons (.int a) (.cons (.int c) .nil)
def jl(e:Kb):PK:= .cons (.int e.age) (.cons (.int e.last) (.cons (AX e.wt) .nil))
theorem yv{a b:Option (Int×Int)}(h:AX a=AX b):a=b:=by
 cases a with
 |none=>cases b with
  |none=>rfl
  |some y=>let#[c,d]:=y;cases h
 |some x=>
  let#[p,q]:=x;cases b with
  |none=>cases h
  |some y=>
   let#[c,d]:=y;injection h with h1 h2
   injection h1 with h1
   injection h2 with h2 _
   injection h2 with h2
   rw[h1,h2]
theorem ng{e c:Kb}(h:jl e=jl c):e=c:=by
 let#[a,l,w]:=e;let#[g,d,f]:=c;injection h with h1 h2
 injection h1 with h1
 injection h2 with h2 h3
 injection h2 with h2
 injection h3 with h3 _
 rw[show a=g from h1,show l=d from h2,show w=f from yv h3]
theorem nO(e:Kb):(jl e).tup=true:=Z
theorem sM(e:Kb):(jl e).dp<=2:=by
 let#[a,l,w]:=e;cases w with
 |none=>exact(by decide:(PK.cons (.int 0) (.cons (.int 0) (.cons .non .nil))).dp<=2)
 |some x=>let#[p,q]:=x;exact(by decide:(PK.cons (.int 0) (.cons (.int 0) (.cons (.cons (.int 0) (.cons (.int 0) .nil)) .nil))).dp<=2)
theorem lU{H:Hp}{a:Δ}{e:Kb}(h:FT H a e):ab H (jl e) (.ref a):=by
 let#[v,d,c]:=h;refine#[a,0,d,40,v,0,?_,Z]
 cases hwt:e.wt with
 |none=>rw[hwt]at c;exact c
 |some x=>
  let#[p,q]:=x;rw[hwt]at c;let#[b,rfl,f]:=c
  exact#[b,0,f,56]
theorem _root_.GS.nn_len(n late:Nat)(rs:Ε):(GS.nn n late rs).length<=n:=by
 unfold GS.nn;exact Ju (List.length_filter_le _ _) (by rw[List.length_range];exact Je _)
def qI(D:Dr)(a:List (Option (Str×Int×Int)))(i:Nat)(e:Kb):Kb:=match a.getD i none with
 |some x=>(zU D e x.2.1 x.2.2).2
 |none=>e
def qJ(a:List (Option (Str×Int×Int)))(i:Nat):Bool:=(a.getD i none).isSome
instance:DecidableEq Kb:=fun x y=>if h:x.age=y.age∧x.last=y.last∧x.wt=y.wt then .isTrue (by cases x;cases y;obtain ⟨a,b,c⟩:=h;cases a;cases b;cases c;rfl) else .isFalse (fun e=>h (by subst e;exact ⟨rfl,rfl,rfl⟩))
def Zo(D:Dr)(a:List (Option (Str×Int×Int)))(late:Nat)(e:Kb)(rs:Ε)(is:Ε):List (Nat×Kb×Ε):=(is.filter λi=>qJ a i&&decide (qI D a i e≠e)).map λi=>(i,qI D a i e,GS.rwS late rs i)
def IT(H:Hp)(v:V)(x:Nat×Kb×Ε):Prop:=∃q a t,v= .ref q/\H q=↑(.tup [.int (x.1:Int),.ref a,.ref t])/\FT H a x.2.1/\H t=↑(.tup (qM x.2.2))
theorem IT.to{H H':Hp}{v:V}{x:Nat×Kb×Ε}(hs:∀a xs,H a=↑(.tup xs)->H' a=↑(.tup xs))(h:IT H v x):IT H' v x:=by
 let#[q,a,t,e,h1,#[z,f,d],i]:=h;refine#[q,a,t,e,hs _ _ h1,#[z,hs _ _ f,?_],hs _ _ i]
 cases hw:x.2.1.wt with
 |none=>rw[hw]at d;exact d
 |some y=>let#[p,c]:=y;rw[hw]at d;let#[b,e,g]:=d;exact#[b,e,hs _ _ g]
def LF(H:Hp)(vs:Β)(a:List (Nat×Kb×Ε)):Prop:=vs.length=a.length/\∀(i:Nat) (v:V) (x:Nat×Kb×Ε),vs[i]? =↑v->a[i]? =↑x->IT H v x
theorem LF.to{H H':Hp}{vs:Β}{c:List (Nat×Kb×Ε)}(hs:∀a xs,H a=↑(.tup xs)->H' a=↑(.tup xs))(h:LF H vs c):LF H' vs c:=#[h.1,λi v x h1 d=>(h.2 i v x h1 d).to hs]
theorem LF.snoc{H:Hp}{vs:Β}{c:List (Nat×Kb×Ε)}{v:V}{x:Nat×Kb×Ε}(h:LF H vs c)(hv:IT H v x):LF H (vs++[v]) (c++[x]):=by
 refine#[by simp [h.1],λi w y h1 a=>?_]
 rw[J2]at h1 a;rw[h.1]at h1;split at h1
 ·rename_i z
  rw[Jb z]at a;exact h.2 i w y h1 a
 ·rename_i z
  rw[Jc z]at a;cases hj:i-c.length with
  |zero=>rw[hj]at h1 a;cases h1;cases a;exact hv
  |succ k=>rw[hj]at h1;cases h1
inductive IU (K:ι) (C:Δ) (vs:Β) (H:Hp) (Q:VK):Prop
 |mk (p ta hk bd lg l a r:Δ) (n:Nat) (D:Dr) (os:List (Option (Str×Int×Int))) (e:Kb) (rs:Ε) (late:Nat) (h1:vs=[.ref p,.ref l,.ref a,.ref r,.int (late:Int)]) (h2:Fu K C H p ta hk bd lg n D) (h3:HU H l os) (h4:os.length<=50) (h5:FT H a e) (h6:H r=↑(.tup (qM rs))) (h7:rs.length<=50) (h8:late<=50) (h9:(∀e∈rs,e<50)) (h10:∀w vs H',Fp H H'->H w=none->H' w=↑(.lst vs)->LF H' vs (Zo D os late e rs (GS.nn os.length late rs))->Q (.ref w) H')
def lR(K:ι)(C:Δ):Sp:=λa H Q _=>IU K C a H Q
theorem gR(D:Dr)(a:List (Option (Str×Int×Int)))(late:Nat)(e:Kb)(rs is:Ε)(j:Nat):Zo D a late e rs (is++[j])=Zo D a late e rs is++(if qJ a j=true/\qI D a j e≠e then [(j,qI D a j e,GS.rwS late rs j)]else []):=by
 unfold Zo;rw[List.filter_append,Jy];congr 1
 by_cases z:qJ a j=true/\qI D a j e≠e
 ·rw[Jb z,List.filter_cons,Jb (by rw[JC,JB];exact z)];rfl
 ·rw[Jc z,List.filter_cons,Jc (by rw[JC,JB];exact z)];rfl
theorem ZN{a:Type}{l:List a}{i:Nat}{x:a}(h:l[i]? =↑x):l.take (i+1)=l.take i++[x]:=by rw[J8,h];rfl
inductive HK (vs:Β) (H:Hp) (Q:VK):Prop
 |mk (t:Δ) (h:Ε) (i late:Nat) (h1:vs=[.ref t,.int (i:Int),.int (late:Int)]) (h2:H t=↑(.tup (qM h))) (h3:h.length<=100) (h4:∀H',Fp H H'->Q (.bl (decide (GS.fol late h i))) H')
def eB:Sp:=λa H Q _=>HK a H Q
end L3
namespace Lw
open PySem L2 L3
section
variable{P:Ξ}{w:Ω}{K:ι}{mg:Fn}{base:Ψ}{tk:Nat->Tok}{C:Δ}
theorem uz(a:At K mg "opens" iu ["door","button","press"])(T:F3 K mg tk)(U:GB K C)(o:Mf P w K mg base C "plain_step" x5 3 (fI K C)):Df P w K mg base "opens" X6 4 (rZ K C):=by
 refine a.dq GV λf _ A _ s H t Q E l h=>?_
 ·let#[p,ta,hk,bd,lg,x,q,n,D,e,nm,age,c,rfl,b,j,d,ok]:=h
  exists _,(qe (zj (qv 2) (Qf Z (qm (qh (i:=3) GV.nd Z (Or.inl Z)) (qm (qh (i:=4) GV.nd Z (Or.inl Z)) (qm (qh (i:=5) GV.nd Z (Or.inl Z)) qU)))))
   (qg (qp (zx za (qF zk (zp o U.cl l.mo (qv 0) (qd (qv 1) (qd (qv 4) (qd (qv 5) qb)))) qf) qk (qu _)))))
  exists 0,q,0,FC.of d,6
  refine#[0,p,Z,b.no,4,p,ta,hk,bd,lg,x,n,D,e,age,c,Z,b,j,λm u H1 g h1 r=>?_]
  exists m,2,FC.of h1,Z
  have:=ok H1 g
  exact#[Z,by simpa using this]
theorem fB(a:At K mg "button_behind" Zy ["door","button","press"])(T:F3 K mg tk)(U:GB K C)(r:Mf P w K mg base C "plain_step" x5 3 (fI K C)):Df P w K mg base "button_behind" X6 4 (nZ K C):=by
 refine a.dq FV λf _ A _ s H u Q E l h=>?_
 ·let#[p,ta,hk,bd,lg,x,q,n,D,e,nm,age,c,rfl,b,j,d,ok]:=h
  exists _,(qe (zj (qv 2) (Qf Z (qm (qh (i:=3) FV.nd Z (Or.inl Z)) (qm (qh (i:=4) FV.nd Z (Or.inl Z)) (qm (qh (i:=5) FV.nd Z (Or.inl Z)) qU)))))
   (qg (qp (qF zk (zp r U.cl l.mo (qv 0) (qd (qv 1) (qd (qv 4) (qd (qv 5) qb)))) qf))))
  exists 0,q,0,FC.of d,6
  refine#[0,p,Z,b.no,4,p,ta,hk,bd,lg,x,n,D,e,age,c,Z,b,j,λo t H1 g h1 m=>?_]
  exact#[o,2,FC.of h1,Z,ok t H1 g m]
theorem im(a:At K mg "plain_press" ZU ["door","press"])(T:F3 K mg tk)(U:GB K C)(M:Mf P w K mg base C "read_right" W5 6 (cx K C))(O:Mf P w K mg base C "button_of" V2 1 (jN K C)):Df P w K mg base "plain_press" ["door","press"] 7 (fD K C):=by
 refine a.dq GG λf _ A _ s H X Q E F h=>?_
 ·let#[p,ta,hk,bd,lg,m,n,D,#[nm,age,ds],rfl,b,ok,I,J,q]:=h
  exists _,(qe (qx (i:=2) GG.nd Z (Or.inl Z) (zp M U.cl F.mo (qv 0) (qd (qv 1) qb)))
   (qe (qK (QW.pt (Q7 (qw Zn (qv 2) zc (qu _)) (QZ (qw Zn (zp O U.cl F.mo (qv 0) (qd (qF zk (qv 1) qf) qb)) zc (qu _))))) (qg (qp zc)) qB)
   (qg (qp (qy (qd (qF zk (qv 1) qf) (qd (qF zk (qv 1) qf) (qd (qF zk (qv 2) qf) qb))))))))
  refine#[0,p,Z,b.no,0,p,ta,hk,bd,lg,n,D,_,some #[nm,age,ds],Z,b,ok,#[m,Z,I,J],λy H1 j o=>?_]
  have G:=b.same j;let#[Y,g,R]:=FP.same j I;cases hrd:Zk D #[nm,age,ds]with
  |none=>
   rw[show(↑(#[nm,age,ds]:Ps)).bind (Zk D)=none from hrd]at o
   cases(show y= .non from o)
   exists 3
   refine zr (Jh Z) ?_
   refine zQ ?_
   exact q _ _ j (by unfold qR;rw[hrd];rfl)
  |some cc=>
   let#[c,d]:=cc;rw[show(↑(#[nm,age,ds]:Ps)).bind (Zk D)=↑(c,d)from hrd]at o
   let#[l,rfl,t]:=(show∃l,y= .ref l/\H1 l=↑(.tup [.int c,.int d])from o)
   exists 3
   refine zI (Jj (by intro z;cases z)) ?_
   refine#[0,p,Z,G.no,#[0,m,2,FC.of g,Z,p,ta,hk,bd,lg,n,D,nm,Z,G,λL=>?_,λe x N W=>?_]]
   ·have v:D.kn.lookup nm=none:=L
    exists 14
    refine zr (Jh Z) ?_
    refine q _ _ j ?_
    have u:qR D #[nm,age,ds]=none:=by unfold qR;rw[hrd];show(if(D.kn.lookup nm).isSome then ↑(nm,age,c)else none)=none;rw[v];rfl
    rw[u];rfl
   ·exists 14
    refine zI (Jj (by intro z;cases z)) ?_
    have B:D.kn.lookup nm=↑e:=N
    have u:qR D #[nm,age,ds]=↑(nm,age,c):=by unfold qR;rw[hrd];show(if(D.kn.lookup nm).isSome then ↑(nm,age,c)else none)=_;rw[B];rfl
    refine#[0,m,2,FC.of g,14,m,2,FC.of g,14,l,2,FC.of t,Z,Fe,λS r=>?_]
    refine q _ _ (j.trans (Fp.upd r)) ?_
    rw[u]
    exact#[S,Z,qc]
theorem kW(a:At K mg "plain_row" aR ["door","row"])(T:F3 K mg tk)(U:GB K C)(S:Df P w K mg base "plain_press" ["door","press"] 7 (fD K C)):Df P w K mg base "plain_row" ["door","row"] 8 (f8 K C):=by
 refine a.dq lI λf _ A _ s H X Q E O h=>?_
 ·let#[p,ta,hk,bd,lg,r,n,D,x,rfl,b,ok,#[rs,B,z,G],Y,q]:=h
  exists _,(qg (qp (zv (own:=["press"]) (fr:=["door"]) (js:=[0]) Z (rX (qv 1)) Z (Z5 Z) Z (aq Z nofun nofun nofun Z Z Z) (λ_ _ _ _=>qh (i:=0) (show List.Nodup (["press","door"]:Α)from by decide +kernel) Z (Or.inl Z) (.inr Z)) (λ_ _ _ _=>(ql S O.mo (qd (qv 1) (qd (qv 0) qb)))))))
  refine#[0,r,Z,yq (H0:=H) (xs:=rs.map V.ref) B (by rw[Jd,z,Jo];omega) (λi ys e=>Fp H e/\ys.length=i/\∀(j:Nat) (v:V) (o:Option (Str×Int×Int)),ys[j]? =↑v->(x.map (qR D))[j]? =↑o->HG e v o) #[Fp.refl _,Z,λj v o h=>(by cases h)] (λi ys e h=>h.1) ?_ ?_]
  ·rintro i ys e v L d ⟨g,_,u⟩
   rw[Jk]at L;let#[M,t,rfl]:=C8.mp L;have hi:i<x.length:=by rw[<- z];exact(Jp.mp t).1
   have I:=Jg hi;let#[h1,R]:=G i M _ t I;refine#[1,p,ta,hk,bd,lg,M,n,D,x[i],Z,b.same g,ok,FP.same g h1,R,λy H1 N W=>?_]
   refine#[g.trans N,by simp [d],λj v o c m=>?_]
   rw[J2]at c;split at c
   ·exact(u j v o c m).same N
   ·have F:j-ys.length=0:=by
     cases F:j-ys.length with
     |zero=>rfl
     |succ k=>rw[F]at c;cases c
    rw[F]at c;cases c
    obtain rfl:j=i:=by omega
    rw[Jk,I]at m;cases m;exact W
  ·rintro ys e d ⟨g,_,u⟩ l J
   refine q l _ (g.trans (Fp.upd J)) #[ys,qc,by rw[d,Jd,Jd,z],λi v o c m=>(u i v o c m).same (Fp.upd J)]
theorem jI(a:At K mg "presses_of" aB ["presses","name"])(T:F3 K mg tk):Df P w K mg base "presses_of" ["presses","name"] 1 ma:=by
 refine a.dq jx λf _ A _ s H W Q E U h=>?_
 ·let#[l,nm,u,rfl,#[C,O,L,F],lo,q]:=h
  exists _,(qg (qp (zv (own:=["press"]) (fr:=["name"]) (js:=[1]) Z (ze (qv 0)) Z (Z5 Z) Z (aq Z nofun nofun nofun Z Z Z) (λ_ _ _ _=>qh (i:=0) (show List.Nodup (["press","name"]:Α)from by decide +kernel) Z (Or.inl Z) (.inr Z)) (λ_ _ _ _=>(Z8 (QW.pt (Zr (qw dc (qv 0) zc (qu _)) (Zg (qw za (qF (ir (K:=K) Z) (qv 0) qf) (qv 1) (qu _))))) (qv 0) zc)))))
  refine#[0,l,Z,#[_,Fw.of O],Qj (K:=K) (xs:=C) (by rw[L,Jo];omega) (λi ys p=>Fp H p/\ys.length=i/\∀(j:Nat) (v:V) (o:Option (Str×Int×Int)),ys[j]? =↑v->(u.map (Qi nm))[j]? =↑o->HG p v o) #[Fp.refl _,Z,λj v o h=>(by cases h)] (λi ys p h=>Fw.of (h.1 _ _ O)) ?_ ?_]
  ·rintro i ys p v R r ⟨B,_,D⟩
   have hi:i<u.length:=by rw[<- L];exact(Jp.mp R).1
   have S:=Jg hi;have M:=(F i v _ R S).same B;have n:∀y,HG p y (Qi nm u[i])->Fp H p/\(ys++[y]).length=i+1/\∀(j:Nat) (v:V) (o:Option (Str×Int×Int)),(ys++[y])[j]? =↑v->(u.map (Qi nm))[j]? =↑o->HG p v o:=λy J=>by
    refine#[B,by simp [r],λj v o d z=>?_]
    rw[J2]at d;split at d
    ·exact D j v o d z
    ·have G:j-ys.length=0:=by
      cases G:j-ys.length with
      |zero=>rfl
      |succ k=>rw[G]at d;cases d
     rw[G]at d;cases d
     obtain rfl:j=i:=by omega
     rw[Jk,S]at z;cases z;exact J
   generalize u[i]=o at M n
   cases o with
   |none=>
    cases(show v= .non from M)
    exists 3
    refine zI (by simp) ?_
    refine zg ?_
    exact n .non Z
   |some x=>
    let#[g,age,c]:=x;let#[I,rfl,t]:=M;exists 3
    refine zr (by simp) ?_
    exists 0,I,2,FC.of t,Z,_,Z,Z,_,Z
    by_cases e:g=nm
    ·subst e
     refine zr (by simp) ?_
     refine#[0,n (.ref I) ?_]
     have d:Qi g ↑(g,age,c)=↑(g,age,c):=Jb Z
     rw[d]
     exact#[I,Z,t]
    ·refine zI (by simpa using e) ?_
     refine n .non ?_
     have d:Qi nm ↑(g,age,c)=none:=Jc e
     rw[d];rfl
  ·rintro ys p r ⟨B,_,D⟩ m N
   refine q m _ (B.trans (Fp.upd N)) #[ys,qc,by rw[r,Jd,L],λi v o d z=>(D i v o d z).same (Fp.upd N)]
end
section
variable{P:Ξ}{w:Ω}{K:ι}{mg:Fn}{base:Ψ}{tk:Nat->Tok}
theorem gO(a:At K mg "numbers_next" ZF ["recent","many","late"])(T:F3 K mg tk):Df P w K mg base "numbers_next" W8 1 fK:=by
 refine a.dq GC λf _ A _ s H S Q E N h=>?_
 ·let#[r,rs,d,late,rfl,e,U,W,B,q]:=h
  exists _,(qe (qx (i:=3) GC.nd Z (Or.inl Z) (Z8 (lj (qv 0) (λ_=>rfl)) (qr (aE Z) T.b_max Ey (qd qf (qd (qo zZ (qF zk (qv 0) (jL gS qf)) (qv 2)) qb))) qf))
   (qg (qp (fq (own:=["number"]) (fr:=["recent"]) (js:=[0]) Z (rK Z T.b_range (qd (qv 3) (qd (qv 1) qb))) Z (Z5 Z) Z (aq Z nofun nofun nofun Z Z Z) (λ_ _ _ _=>qh (i:=0) (show List.Nodup (["number","recent"]:Α)from by decide +kernel) Z (Or.inl Z) (.inr Z)) (λ_ _ _ _=>(qw (jJ (K:=K) Z) (qv 0) (qv 1) (by rfl))) (λ_ _ _ _=>(qv 0))))))
  have o:rs.getLastD 0<100:=by
   cases rs with
   |nil=>decide
   |cons a l=>exact B _ (GS.last_mem (by intro z;cases z))
  unfold bL bD;refine bj (t:=pT _ _ _) (λv H'=>v= .int ((rs.getLastD 0-late:Nat):Int)/\H'=H) (λO u=>?_) ?_
  ·rcases nY rs with rfl|⟨F,m,rfl⟩
   ·exists 0,false,.inr (.inl #[_,FC.of e,Z])
    refine zg ?_
    exact u _ _ #[by simp,Z]
   ·exists 0,true,.inr (.inl #[_,FC.of e,by simp [qM]])
    refine zQ ?_
    have C:(F++[m]).getLastD 0=m:=by rw[List.getLastD_eq_getLast?];simp
    rw[C]at u;exists 1,r,2,FC.of e,by unfold qM;rw[Jy];exact ko _ _,_,Z,_,_,Z,Z,_,_,Z
    refine u _ _ #[?_,Z]
    congr 1
    split<;>omega
  ·rintro v H' ⟨rfl,rfl⟩
   generalize hL:rs.getLastD 0-late=L at *
   exists _,Z,_,Z,_,_,Z,#[by omega,by omega,by omega,by omega]
   refine je (J:=gN (L:Int) ((d:Int)-(L:Int)).toNat) (n:=((d:Int)-(L:Int)).toNat) (by rw[Jo];omega) (λi x=>x= .int ((L:Int)+(i:Int))) (λi ys g=>g=H'/\ys=qM ((List.range (L+i)).filter λi=>decide (i∉rs)&&decide (rs.getLastD 0<=i+late))) #[Z,?_] (λi ys g hi p=>hi) (λys g p=>Je _) (λi ys g x R hi p y=>y) ?_ ?_
   ·have z:(List.range L).filter (λi=>decide (i∉rs)&&decide (rs.getLastD 0<=i+late))=[]:=by
     rw[List.filter_eq_nil_iff];intro a I
     have:=JN.mp I
     rw[JC,JB,JB];omega
    show []=qM ((List.range (L+0)).filter _)
    rw[Nat.add_zero,z];rfl
   ·rintro i ys g x hi ⟨rfl,rfl⟩ rfl
    exists 1,r,0,.inr (FC.of e),Z,fE rs
    have G:(L:Int)+(i:Int)=((L+i:Nat):Int):=by omega
    rw[G,kj,Jb Z];exists 0
    have D:(List.range (L+(i+1))).filter (λi=>decide (i∉rs)&&decide (rs.getLastD 0<=i+late))=(List.range (L+i)).filter (λi=>decide (i∉rs)&&decide (rs.getLastD 0<=i+late))++(if L+i∈rs then []else [L+i]):=by
     rw[<- Nat.add_assoc,List.range_succ,List.filter_append];congr 1
     have M:rs.getLastD 0<=L+i+late:=by omega
     by_cases c:L+i∈rs
     ·rw[Jb c];simp [c]
     ·rw[Jc c,List.filter_cons,Jb (by rw[JC,JB,JB];exact#[c,M])];rfl
    rw[D]
    by_cases c:L+i∈rs
    ·refine zI (by simp [c]) ?_
     exact#[Z,by rw[Jb c,Dc]]
    ·refine zr (by simp [c]) ?_
     exact#[32,by rw[Jc c];unfold qM;rw[Jy];rfl]
   ·rintro ys g ⟨rfl,rfl⟩ l j
    refine q l _ (Fp.upd j) j ?_
    rw[qc];congr 2
    have:=wH (n:=d) (late:=late) (rs:=rs) (i:=((d:Int)-(L:Int)).toNat) (by omega) (by omega)
    rw[hL]at this;rw[this]
end
section
variable{P:Ξ}{w:Ω}{K:ι}{mg:Fn}{base:Ψ}{tk:Nat->Tok}
theorem ik(a:At K mg "recent_with" ZS ["recent","number","late"])(T:F3 K mg tk):Df P w K mg base "recent_with" ["recent","number","late"] 1 gH:=by
 refine a.dq GH λf _ A _ s H vs Q E hr h=>?_
 ·let#[r,rs,i,late,rfl,C,hl,W,q]:=h
  exists _,(qe (qx (i:=3) GH.nd Z (Or.inr Z) (qr mx T.b_sorted PyProof.Rows.boot_sorted (qd (qo Zh (qv 0) (qy (qd (qv 1) qb))) qb)))
   (qg (qp (qN qY T.b_tuple JS (qd (fq (own:=["each"]) (fr:=["numbers","late"]) (js:=[3,2]) Z (ze (qv 3)) Z (kx Z Z) Z (j7 Z nofun nofun nofun Z Z Z Z Z Z) (λ_ _ _ _=>qh (i:=0) (show List.Nodup (["each","numbers","late"]:Α)from by decide +kernel) Z (Or.inl Z) (.inr Z)) (λ_ _ _ _=>(qw jR (qo qH (qv 0) (qv 2)) (qF (bA (K:=K) Z) (qv 1) (jL gS qf)) (qu _))) (λ_ _ _ _=>(qv 0))) qb)))))
  refine#[1,Fc,λS u=>?_]
  have L:=Fp.upd (o:= .tup [.int (i:Int)]) u
  refine#[r,S,qM rs,[.int (i:Int)],8,L _ _ C,qc,by unfold qM;rw[Jd,Jo];show rs.length+1<=_;omega,λN G U F=>?_]
  have Y:qM rs++[V.int (i:Int)]=((rs++[i]).map λn:Nat=>(n:Int)).map V.int:=by unfold qM;rw[Jy,Jy,JW];rfl
  rw[Y]at F;refine#[N,0,FC.of F,by rw[Jd,Jx];show rs.length+1<64;omega,λl ms B pm M=>?_]
  rw[oz pm M];have I:=Fp.upd (o:= .lst (((GS.srt (rs++[i])).map λn:Nat=>(n:Int)).map V.int)) B
  have d:Ft G l (.lst (((GS.srt (rs++[i])).map λn:Nat=>(n:Int)).map V.int)) l=↑(.lst (qM (GS.srt (rs++[i])))):=by rw[qc,JW];rfl
  have c:(GS.srt (rs++[i])).length=rs.length+1:=by unfold GS.srt;rw[List.length_mergeSort,Jx];rfl
  generalize hH3:Ft G l (.lst (((GS.srt (rs++[i])).map λn:Nat=>(n:Int)).map V.int))=H3 at I d
  let#[D,m,J]:∃D m,GS.srt (rs++[i])=D++[m]:=by
   rcases nY (GS.srt (rs++[i]))with z|z
   ·rw[z]at c;cases c
   ·exact z
  have R:(GS.srt (rs++[i])).getLastD 0=m:=by rw[J,List.getLastD_eq_getLast?];simp
  refine#[0,l,Z,#[_,Fw.of d],f7 (K:=K) (xs:=qM (GS.srt (rs++[i]))) (by unfold qM;rw[Jd,c,Jo];omega) (λj ys g=>g=H3/\ys=qM (((GS.srt (rs++[i])).take j).filter λe=>decide ((GS.srt (rs++[i])).getLastD 0<=e+late))) #[Z,by simp [qM]] (λj ys g p=>by rw[p.1];exact Fw.of d) ?_ ?_]
  ·rintro j ys g x v ⟨rfl,rfl⟩
   unfold qM at v;rw[Jk]at v;let#[e,he,rfl]:=C8.mp v;exists 49,l,2,Fw.of d,by rw[J];unfold qM;rw[Jy];exact ko _ _,_,_,Z,Z
   exists 0
   have O:((GS.srt (rs++[i])).take (j+1)).filter (λe=>decide ((GS.srt (rs++[i])).getLastD 0<=e+late))=((GS.srt (rs++[i])).take j).filter (λe=>decide ((GS.srt (rs++[i])).getLastD 0<=e+late))++(if m<=e+late then [e]else []):=by
    rw[J8,he,List.filter_append];congr 1
    rw[R]
    by_cases z:m<=e+late
    ·rw[Jb z];simp [z]
    ·rw[Jc z];simp [z]
   rw[O]
   by_cases z:m<=e+late
   ·refine zr (Jh (by omega)) ?_
    exact#[32,by rw[Jb z];unfold qM;rw[Jy];rfl]
   ·refine zI (Jj (by omega)) ?_
    exact#[Z,by rw[Jc z,Dc]]
  ·rintro ys g ⟨rfl,rfl⟩ X y
   refine#[X,0,.inl #[Fw.of qc,λt ht=>?_]]
   refine q t _ (((L.trans U).trans I).trans ((Fp.upd y).trans (Fp.upd ht))) ?_
   rw[qc];congr 2
   unfold GS.rwS qM;rw[CZ (by rw[Jd];exact Je _)]
end
section
variable{P:Ξ}{w:Ω}{K:ι}{mg:Fn}{base:Ψ}{tk:Nat->Tok}{C:Δ}
theorem pH(a:At K mg "ways_on" cv ["door","presses","button","recent","late"])(T:F3 K mg tk)(U:GB K C)(dI:Df P w K mg base "numbers_next" W8 1 fK)(xE:Df P w K mg base "button_behind" X6 4 (nZ K C))(xJ:Df P w K mg base "recent_with" ["recent","number","late"] 1 gH):Df P w K mg base "ways_on" W2 5 (lR K C):=by
 refine a.dq Gz λf _ A _ s H G Q E hr h=>?_
 ·let#[p,ta,hk,bd,lg,l,b,r,n,D,d,e,rs,late,rfl,hd,pq,lo,hb,b0,c2,d0,c1,q]:=h
  exists _,(qe (qx (i:=5) Gz.nd Z (Or.inl Z) (qT qb))
   (qe (zn JI Z (ze (ql dI hr.mo (qd (qv 3) (qd (qr qL T.b_len JM (qd (qv 1) qb)) (qd (qv 4) qb))))) (qh (i:=6) Gz.nd Z (Or.inl Z))
   (qg (qK (qw dc (qF qG (qv 1) (qv 6)) zc (qu _)) (qe (qx (i:=7) Gz.nd Z (Or.inl Z) (ql xE hr.mo (qd (qv 0) (qd (qv 2) (qd (qF qG (qv 1) (qv 6)) qb)))))
   (qg (qK (qw (wR hr) (qv 7) (qv 2) (qu _)) (qg (zG (QB J3 CT CU zH (qv 5) (qd (qy (qd (qv 6) (qd (qv 7) (qd (ql xJ hr.mo (qd (qv 3) (qd (qv 6) (qd (qv 4) qb)))) qb)))) qb)))) qB))) qB)))
   (qg (qp (qv 5)))))
  refine#[Fb,λu F=>?_]
  have s1:=Fp.upd (o:= .lst []) F
  let#[B,el,ll,c4]:=pq;refine#[1,l,0,.inl (Fw.of (s1 _ _ el)),0,r,rs,d.length,late,by rw[ll];rfl,s1 _ _ b0,by omega,by omega,λx hx=>by have:=c1 x hx;omega,λnl H2 s2 W hn=>?_]
  have M:H2 u=↑(.lst []):=s2 _ _ qc
  have nw:nl≠u:=λz=>by rw[z]at W;rw[qc]at W;cases W
  have S2:=s1.trans s2;have O:∀{g:Hp},Mv [u] H2 g->∀a xs,H2 a=↑(.tup xs)->g a=↑(.tup xs):=λm a xs z=>m a _ (qE (qC z M (by intro y;cases y))) z
  refine#[nl,Z,#[_,Fw.of hn],Qa (K:=K) (xs:=qM (GS.nn d.length late rs)) (λi σ g=>∃o6 o7 G,σ=[↑(.ref p),↑(.ref l),↑(.ref b),↑(.ref r),↑(.int (late:Int)),↑(.ref u),o6,o7]/\Mv [u] H2 g/\g u=↑(.lst G)/\G.length<=i/\LF g G (Zo D d late e rs ((GS.nn d.length late rs).take i))) #[15,[],Z,Mv.refl,M,Je _,Z,λi v x z=>(by cases z)] ?_ ?_ ?_]
  ·rintro i σ g _ ⟨_,_,_,_,m,_⟩
   exact Fw.of (m _ _ (qE nw) hn)
  ·rintro i x σ g hx ⟨o6,o7,G,rfl,m,hw,d1,wy⟩
   unfold qM at hx;rw[Jk]at hx;let#[j,hj,rfl]:=C8.mp hx;have c0:j<d.length:=by
    have:=JG hj
    unfold GS.nn at this;exact JN.mp (J4.mp this).1
   have a5:=ZN hj;have N:B[j]? =some B[j]:=Jg (by omega)
   have a2:d[j]? =some d[j]:=Jg c0
   have I:d.getD j none=d[j]:=by rw[JE,a2];rfl
   have a0:g l=↑(.lst B):=m _ _ (qE (qt (o:= .lst B) (by exact el) F)) (S2 _ _ el)
   have L:=c4 j _ _ N a2;exists 1,l,2,Fw.of a0,zW N,14
   have stay:∀{b2:Μ},¬(qJ d j=true/\qI D d j e≠e)->∀{Hy:Hp},Fp g Hy->∃p6 p7 R,[↑(V.ref p),↑(.ref l),↑(.ref b),↑(.ref r),↑(.int (late:Int)),↑(.ref u),↑(.int (j:Int)),b2]=[↑(V.ref p),↑(.ref l),↑(.ref b),↑(.ref r),↑(.int (late:Int)),↑(.ref u),p6,p7]/\Mv [u] H2 Hy/\Hy u=↑(.lst R)/\R.length<=i+1/\LF Hy R (Zo D d late e rs ((GS.nn d.length late rs).take (i+1))):=λ{b2} z Hy sy=>by
    exists 15,G,Z,m.trans (sy.mv),sy _ _ hw,by omega
    rw[a5,gR,Jc z,Dc];exact wy.to (λa xs e=>sy _ _ e)
   cases ho:d[j]with
   |none=>
    rw[ho]at L I;rw[show B[j]=V.non from L]
    refine zI (by simp) ?_
    exact stay (λz=>by have:=z.1;unfold qJ at this;rw[I]at this;cases this) (Fp.refl _)
   |some x=>
    let#[nm,age,c]:=x;rw[ho]at L I;let#[q0,a1,b3]:=L;have a3:B[j]? =↑(.ref q0):=by rw[N,a1]
    rw[a1];refine zr (by simp) ?_
    have a8:=O m _ _ (S2 _ _ b3);have sx:Fp H g:=λc o z=>m c o (qE (λy=>by rw[y,F]at z;cases z)) (S2 _ _ z)
    have a4:FT g b e:=hb.same sx
    have c3:Fu K C g p ta hk bd lg n D:=hd.same sx
    refine#[10,l,2,Fw.of a0,zW a3,p,ta,hk,bd,lg,b,q0,n,D,e,nm,age,c,Z,c3,a4,a8,λa' H3 s3 X=>?_]
    have b4:qI D d j e=(zU D e age c).2:=by unfold qI;rw[I]
    have b7:qJ d j=true:=by unfold qJ;rw[I];rfl
    rw[<- b4]at X;exists 1,jl (qI D d j e),jl e,nO _,nO _,Ju (sM _) ⋯,lU X,lU (a4.same s3),0
    by_cases J:qI D d j e=e
    ·refine zI (by simp [J]) ?_
     exact stay (λz=>z.2 J) s3
    ·refine zr (by simpa using λz=>J (ng z)) ?_
     have b5:=sx.trans s3;refine#[0,.inl #[37,Fw.of (s3 _ _ hw)],21,r,rs,j,late,Z,b5 _ _ b0,c2,by omega,λt H4 s4 ht=>#[Fe,λY b6=>?_]]
     have s5:=Fp.upd (o:= .tup [.int (j:Int),.ref a',.ref t]) b6
     have sq:=(s3.trans s4).trans s5;have b1:=sq _ _ hw;exists u,G,32,b1,by rw[Jo];have:=(Jp.mp hj).1;have:=GS.nn_len d.length late rs;omega
     have mw:Mv [u] g (Ft _ u (.lst (G++[.ref Y]))):=(sq.mv (S:=[u])).trans Mv.upd1
     exists 20,m.trans mw,qc,by simp;omega
     rw[a5,gR,Jb #[b7,J]];have h5:=qc (H:=H4) (a:=Y) (o:= .tup [.int (j:Int),.ref a',.ref t])
     have kT:∀a xs,Ft H4 Y (.tup [.int (j:Int),.ref a',.ref t]) a=↑(.tup xs)->Ft (Ft H4 Y (.tup [.int (j:Int),.ref a',.ref t])) u (.lst (G++[.ref Y])) a=↑(.tup xs):=λa xs z=>by
      rw[qi (qC z b1 (by intro y;cases y))];exact z
     refine(wy.to (λa xs z=>kT a xs (sq _ _ z))).snoc (IT.to kT #[Y,a',t,Z,h5,(X.same s4).same s5,s5 _ _ ht])
  ·rintro σ g ⟨o6,o7,G,rfl,m,hw,_,wy⟩
   rw[CZ (by unfold qM;rw[Jd];exact Je _)]at wy
   refine#[0,q u G g (λc o z=>?_) F hw wy]
   exact m c o (qE (λy=>by rw[y,F]at z;cases z)) (S2 _ _ z)
end
section
variable{P:Ξ}{w:Ω}{K:ι}{mg:Fn}{base:Ψ}{tk:Nat->Tok}
theorem ij(a:At K mg "_law_follows" ZQ ["_law_hearing","_law_number","_law_late"])(T:F3 K mg tk):Df P w K mg base "_law_follows" W4 1 eB:=by
 refine a.dq iJ λf _ A _ s H C Q E B h=>?_
 ·let#[t,h,i,late,rfl,v,y,q]:=h
  exists _,(qg (qp (Qb (zx cy (qv 1) (qv 0) (by rfl)) (Qu (qr (aJ Z) T.b_all Ew (qd (zv (own:=["_law_other"]) (fr:=["_law_number","_law_late"]) (js:=[1,2]) Z (gU (qv 0)) Z (kx Z Z) Z (j7 Z nofun nofun nofun Z Z Z Z Z Z) (λ_ _ _ _=>qh (i:=0) (show List.Nodup (["_law_other","_law_number","_law_late"]:Α)from by decide +kernel) Z (Or.inl Z) (.inr Z)) (λ_ _ _ _=>(zx ZY (qv 0) (qo qH (qv 1) (qv 2)) (qu _)))) qb))))))
  exists 1,t,0,.inr (FC.of v),Z,fE h
  rw[kj,Jb Z];exists 0
  by_cases c:i∈h
  ·refine zI (by simp [c]) ?_
   have e:decide (GS.fol late h i)=false:=Jj λz=>z.1 c
   have:=q H (Fp.refl H)
   rw[e]at this;exact this
  ·refine zr (by simp [c]) ?_
   refine#[0,t,Z,#[_,FC.of v],bQ (K:=K) (xs:=qM h) (by unfold qM;rw[Jd,Jo];omega) (λj ys g=>Fp H g/\ys=(h.take j).map λo=>V.bl (decide (o<=i+late))) #[Fp.refl _,by simp] (λj ys g p=>FC.of (p.1 _ _ v)) ?_ ?_]
   ·rintro j ys g x m n ⟨r,rfl⟩
    unfold qM at m;rw[Jk]at m;let#[o,d,rfl]:=C8.mp m;exists 42
    exists r
    rw[ZN d,Jy];congr 1
    show [V.bl _]=[V.bl _]
    congr 2
    rw[decide_eq_decide];omega
   ·rintro ys g n ⟨r,rfl⟩ l y
    have u:=Fp.upd (o:= .lst ((h.take (qM h).length).map λo=>V.bl (decide (o<=i+late)))) y
    rw[CZ (by unfold qM;rw[Jd];exact Je _)]at u⊢
    exists l,h.map λo=>decide (o<=i+late),Z,Fw.of (by rw[qc,JW];rfl)
    have:=q _ (r.trans u)
    have e:decide (GS.fol late h i)=(h.map λo=>decide (o<=i+late)).all id:=by
     rw[C2,JB,List.all_map,Dk];constructor
     ·rintro⟨_,z⟩ o d;exact Jh (z o d)
     ·intro z;exact#[c,λo d=>Jw (z o d)]
    rw[e]at this;exact this
end
end Lw
namespace L3
open PySem PySem.Spec PyProof.Rows L2 PySem.SeqAt
def jW:Ε->PK
 | []=> .nil
 |n::l=> .cons (.int (n:Int)) (jW l)
theorem nE:∀{a b:Ε},jW a=jW b->a=b
 | [],[],_=>rfl
 | [],_::_,h=>by cases h
 |_::_,[],h=>by cases h
 |x::a,y::b,h=>by
  injection h with h1 h2
  injection h1 with h1
  have e:x=y:=by have:(x:Int)=(y:Int):=h1;omega
  rw[e,nE h2]
theorem sr:∀(l:Ε),(jW l).dp<=1
 | []=>Je _
 |n::l=>Nat.max_le.mpr #[Je _,sr l]
theorem sY{H:Hp}:∀(l:Ε),fo H (jW l) (qM l)
 | []=>rfl
 |n::l=>#[7,sY l]
theorem BF{H:Hp}{a:Δ}{l:Ε}(h:H a=↑(.tup (qM l))):ab H (jW l) (.ref a):=by
 cases l with
 |nil=>exact#[a,Z,h]
 |cons n l=>exact#[a,0,h,sY (n::l)]
def Za(x:Kb×Ε):K8:=#[.cons (jl x.1) (.cons (jW x.2) .nil),Z,Nat.max_le.mpr #[by have:=sM x.1;omega,Nat.max_le.mpr #[by have:=sr x.2;omega,⋯]]]
theorem vM{x y:Kb×Ε}(h:Za x=Za y):x=y:=by
 have h:=JH Subtype.val h;injection h with h1 h2
 injection h2 with h2 _
 exact Prod.ext (ng h1) (nE h2)
theorem oo{H:Hp}{q a t:Δ}{e:Kb}{rs:Ε}(c:H q=↑(.tup [.ref a,.ref t]))(ha:FT H a e)(d:H t=↑(.tup (qM rs))):ab H (Za (e,rs)).1 (.ref q):=
 #[q,0,c,5,lU ha,5,BF d,Z]
structure Hh(P:Ξ)(w:Ω)(H:Hp)(d:Δ)(S:List (Kb×Ε)):Prop where
 ex:∃kvs:List (K8×Δ×V),HF P w H d kvs/\kvs.map (·.1)=S.map Za
section
variable{P:Ξ}{w:Ω}{H H':Hp}{d:Δ}{S:List (Kb×Ε)}
theorem Hh.new(h:H d=↑(ax P w d [])):Hh P w H d []:=#[[],#[h,λp a=>by cases a],Z]
theorem Hh.to(g:Hh P w H d S)(h1:H' d=H d)(h2:∀a xs,H a=↑(.tup xs)->H' a=↑(.tup xs)):Hh P w H' d S:=by
 let#[kvs,g,e]:=g.ex
 exact#[kvs,g.to h1 h2,e]
theorem Hh.has{kvs:List (K8×Δ×V)}(e:kvs.map (·.1)=S.map Za)(x:Kb×Ε):(ZV kvs (Za x)).isSome=decide (x∈S):=by
 rw[C2,vE,e,JB,Jv]
 exact#[λ⟨y,c,a⟩=>vM a▸c,λh=>#[x,h,Z]]
end
def Lq(H:Hp)(v:V)(h:Ε)(x:Kb×Ε):Prop:=∃q th a t,v= .ref q/\H q=↑(.tup [.ref th,.ref a,.ref t])/\H th=↑(.tup (qM h))/\FT H a x.1/\H t=↑(.tup (qM x.2))
theorem FT.to{H H':Hp}{a:Δ}{e:Kb}(hs:∀a xs,H a=↑(.tup xs)->H' a=↑(.tup xs))(h:FT H a e):FT H' a e:=by
 let#[z,f,d]:=h;exists z,hs _ _ f
 cases hw:e.wt with
 |none=>rw[hw]at d;exact d
 |some y=>let#[p,c]:=y;rw[hw]at d;let#[b,e,g]:=d;exact#[b,e,hs _ _ g]
theorem Lq.to{H H':Hp}{v:V}{h:Ε}{x:Kb×Ε}(hs:∀a xs,H a=↑(.tup xs)->H' a=↑(.tup xs))(g:Lq H v h x):Lq H' v h x:=by
 let#[q,th,a,t,e,h1,c,d,f]:=g
 exact#[q,th,a,t,e,hs _ _ h1,hs _ _ c,d.to hs,hs _ _ f]
def Lu(H:Hp)(k:Ε->Kb×Ε)(vs:Β)(hs:List Ε):Prop:=vs.length=hs.length/\∀(i:Nat) (v:V) (h:Ε),vs[i]? =↑v->hs[i]? =↑h->Lq H v h (k h)
theorem Lu.to{H H':Hp}{k:Ε->Kb×Ε}{vs:Β}{hs:List Ε}(g:∀a xs,H a=↑(.tup xs)->H' a=↑(.tup xs))(h:Lu H k vs hs):Lu H' k vs hs:=#[h.1,λi v x h1 c=>(h.2 i v x h1 c).to g]
theorem Lu.snoc{H:Hp}{k:Ε->Kb×Ε}{vs:Β}{hs:List Ε}{v:V}{h:Ε}(g:Lu H k vs hs)(hv:Lq H v h (k h)):Lu H k (vs++[v]) (hs++[h]):=by
 refine#[by simp [g.1],λi w y h1 a=>?_]
 rw[J2]at h1 a;rw[g.1]at h1;split at h1
 ·rename_i z
  rw[Jb z]at a;exact g.2 i w y h1 a
 ·rename_i z
  rw[Jc z]at a;cases hj:i-hs.length with
  |zero=>rw[hj]at h1 a;cases h1;cases a;exact hv
  |succ k=>rw[hj]at h1;cases h1
def Zz(D:Dr)(age c:Int)(e:Kb):Bool:=decide ((zU D e age c).1="near")
def ux(D:Dr)(a:List (Option (Str×Int×Int)))(late k:Nat)(b0:Kb)(age c:Int)(o:Option Ε):Prop:=
 (∃d g,(∀e,e<d->(GS.layer a.length late (qJ a) (qI D a) b0 e).1.find? (GS.good late k (qI D a) (Zz D age c) b0)=none)/\(GS.layer a.length late (qJ a) (qI D a) b0 d).1.find? (GS.good late k (qI D a) (Zz D age c) b0)=↑g/\o=↑(g++[k]))\/
 ((∀d,d<=a.length->(GS.layer a.length late (qJ a) (qI D a) b0 d).1.find? (GS.good late k (qI D a) (Zz D age c) b0)=none)/\o=none)
def G6(H:Hp)(v:V):Option Ε->Prop
 |none=>v= .non
 |some h=>∃q,v= .ref q/\H q=↑(.tup (qM h))
inductive Lr (K:ι) (C:Δ) (vs:Β) (H:Hp) (Q:VK):Prop
 |mk (p ta hk bd lg r:Δ) (n:Nat) (D:Dr) (qs:Τ) (k late:Nat) (h1:vs=[.ref p,.ref r,.int (k:Int),.int (late:Int)]) (h2:Fu K C H p ta hk bd lg n D) (h3:GR D) (h4:LQ K H r qs) (h5:qs.length<=9) (h6:k<qs.length) (h7:late<=3) (h8:∀v H' o,Fp H H'->G6 H' v o->(∀P,qs[k]? =↑P->(qR D P=none->o=none)/\∀nm age c b0,qR D P=↑(nm,age,c)->D.kn.lookup nm=↑b0->ux D ((qs.map (qR D)).map (Qi nm)) late k b0 age c o)->Q v H')
def n9(K:ι)(C:Δ):Sp:=λa H Q _=>Lr K C a H Q
theorem gY{c:TT}{tb:TS}{D:Gj}{σ:L2.St}{H:Hp}(Pv:Nat->L2.St->Hp->Prop){m0:Nat}(f:Pv m0 σ H)
  (hs:∀m σ H,Pv m σ H->c σ H λb H1=>if b=true then tb {D with nx:=λa H'=>∃d,d<m/\Pv d a H',ct:=λa H'=>∃d,d<m/\Pv d a H',bk:=D.nx} σ H1 else D.nx σ H1)
  (mono:∀σ H Q e,(∀b H1,Q b H1->e b H1)->c σ H Q->c σ H e):mh c tb D σ H:=by
 exists Pv,#[_,f]
 intro m σ H p;refine mono σ H _ _ (λb H1 q=>?_) (hs m σ H p)
 cases b with
 |true=>exact#[_,λa H' z=>z,q]
 |false=>exact q
end L3
namespace GS
theorem recOf_len(late:Nat)(h:Ε):(recOf late h).length<=h.length:=by
 induction h using snocInd with
 |nil=>exact Je _
 |snoc h i ih=>
  rw[recOf_snoc,Jx];unfold rwS;refine Ju (List.length_filter_le _ _) ?_
  unfold srt;rw[List.length_mergeSort,Jx]
  show(recOf late h).length+1<=h.length+1
  omega
theorem find_at{c:Type}{p:c->Bool}:∀{l:List c} {i:Nat} {g:c},l[i]? =↑g->p g=true->(∀j h,j<i->l[j]? =↑h->p h=false)->l.find? p=↑g
 | [],_,_,h,_,_=>by cases h
 |a::l,0,g,h,hp,_=>by
  injection h with h
  subst h;rw[J1,hp]
 |a::l,i+1,g,h,hp,hb=>by
  have e:=hb 0 a (by omega) Z
  rw[J1,e];exact find_at (l:=l) (i:=i) h hp λj x f d=>hb (j+1) x (by omega) d
theorem find_no{a:Type}{p:a->Bool}{l:List a}(h:∀j x,j<l.length->l[j]? =↑x->p x=false):l.find? p=none:=by
 rw[List.find?_eq_none];intro x d;let#[j,c,rfl]:=List.mem_iff_getElem.mp d;rw[h j _ c (Jg c)];exact JD
section
variable{B:Type}[DecidableEq B](n late:Nat)(pl:Nat->Bool)(mv:Nat->B->B)(b0:B)
theorem layer_stop{d:Nat}(h:(layer n late pl mv b0 d).1=[]):∀e,(layer n late pl mv b0 (d+e)).1=[]
 |0=>h
 |e+1=>by
  have c:=layer_stop h e;let#[R,h1,a,_]:=Zq n late pl mv b0 (d+e)
  rw[c]at h1;rw[<- Nat.add_assoc,a];exact List.sublist_nil.mp h1
theorem layer_acc(d:Nat):layer n late pl mv b0 (d+1)=((layer n late pl mv b0 d).1.flatMap (ways n late pl mv b0)).foldl (ins late mv b0) ([],(layer n late pl mv b0 d).2):=Z
theorem acc_snoc{C:List Ε}{h:Ε}(a:List Ε×List (B×Ε)):(C++[h]).foldl (ins late mv b0) a=ins late mv b0 (C.foldl (ins late mv b0) a) h:=by rw[List.foldl_append];rfl
end
section
variable{B:Type}[DecidableEq B](n late:Nat)(pl:Nat->Bool)(mv:Nat->B->B)(b0:B)
theorem nA:∀(C:List Ε) (a:List Ε×List (B×Ε)),(C.foldl (ins late mv b0) a).1.length<=a.1.length+C.length/\(C.foldl (ins late mv b0) a).2.length<=a.2.length+C.length
 | [],a=>#[Je _,Je _]
 |c::C,a=>by
  rw[List.foldl_cons,CP];let#[h1,d]:=nA C (ins late mv b0 a c)
  have e:(ins late mv b0 a c).1.length<=a.1.length+1/\(ins late mv b0 a c).2.length<=a.2.length+1:=by
   unfold ins;split
   ·exact#[C3 _,C3 _]
   ·rw[Jx,Jx]
    exact#[Je _,Je _]
  omega
def vR:Nat->Nat
 |0=>0
 |d+1=>vR d+mX n (d+1)
theorem jt:∀d,(layer n late pl mv b0 d).2.length<=vR n d
 |0=>Je _
 |d+1=>by
  have g:=jt d;let#[R,h1,e,c,_]:=Zq n late pl mv b0 d;have f:=layer_sub n late pl pl mv b0 (λ_ z=>z) (d+1)
  have h:=bR n late pl (d+1);have a:=f.length_le;rw[e]at a;rw[c,Jx,Jd];unfold vR;omega
theorem AF:∀n,n<=9->∀d,d<=10->vR n d<=986409:=by decide +kernel
theorem yT{d i j:Nat}{h:Ε}(f:(layer n late pl mv b0 d).1[i]? =↑h):(((layer n late pl mv b0 d).1.take i).flatMap (ways n late pl mv b0)++(ways n late pl mv b0 h).take j).length<=mX n (d+1):=by
 have e:((layer n late pl mv b0 d).1.take i).flatMap (ways n late pl mv b0)++ways n late pl mv b0 h=((layer n late pl mv b0 d).1.take (i+1)).flatMap (ways n late pl mv b0):=by
  rw[J8,f,List.flatMap_append];simp
 have h1:(((layer n late pl mv b0 d).1.take i).flatMap (ways n late pl mv b0)++(ways n late pl mv b0 h).take j).Sublist (((layer n late pl mv b0 d).1.take (i+1)).flatMap (ways n late pl mv b0)):=by
  rw[<- e]
  exact(List.Sublist.refl _).append (List.take_sublist _ _)
 have c:(((layer n late pl mv b0 d).1.take (i+1)).flatMap (ways n late pl mv b0)).Sublist (full n late pl (d+1)):=
  Qy ((List.take_sublist _ _).trans (layer_sub n late pl pl mv b0 (λ_ z=>z) d)) λa _=>fA n late pl pl mv b0 (λ_ z=>z) a
 exact Ju (h1.trans c).length_le (bR n late pl (d+1))
theorem acc_len{d i j:Nat}{h:Ε}(hn:n<=9)(hd:d<=9)(e:(layer n late pl mv b0 d).1[i]? =↑h):
  ((((layer n late pl mv b0 d).1.take i).flatMap (ways n late pl mv b0)++(ways n late pl mv b0 h).take j).foldl (ins late mv b0) ([],(layer n late pl mv b0 d).2)).1.length<=362880/\
  ((((layer n late pl mv b0 d).1.take i).flatMap (ways n late pl mv b0)++(ways n late pl mv b0 h).take j).foldl (ins late mv b0) ([],(layer n late pl mv b0 d).2)).2.length<=1400000:=by
 have h1:=yT n late pl mv b0 (j:=j) e
 let#[c,a]:=nA late mv b0 (((layer n late pl mv b0 d).1.take i).flatMap (ways n late pl mv b0)++(ways n late pl mv b0 h).take j) ([],(layer n late pl mv b0 d).2)
 have g:=rT n hn (d+1) (by omega)
 have l:=jt n late pl mv b0 d;have f:=AF n hn d (by omega)
 have c:_<=0+_:=c
 have a:_<=(layer n late pl mv b0 d).2.length+_:=a
 constructor
 ·omega
 ·omega
theorem pre_next{d i:Nat}{h:Ε}(a:(layer n late pl mv b0 d).1[i]? =↑h):((layer n late pl mv b0 d).1.take i).flatMap (ways n late pl mv b0)++ways n late pl mv b0 h=((layer n late pl mv b0 d).1.take (i+1)).flatMap (ways n late pl mv b0):=by
 rw[J8,a,List.flatMap_append];simp
end
end GS
namespace L3
open PySem PySem.Spec PyProof.Rows L2 PySem.SeqAt
theorem rQ{D:Dr}{a:List (Option (Str×Int×Int))}{late:Nat}{b0:Kb}{h:Ε}{j:Nat}{x:Nat×Kb×Ε}(e:(Zo D a late (GS.st (qI D a) b0 h) (GS.recOf late h) (GS.nn a.length late (GS.recOf late h)))[j]? =↑x):
  (GS.ways a.length late (qJ a) (qI D a) b0 h)[j]? =↑(h++[x.1])/\x.2=GS.key late (qI D a) b0 (h++[x.1]):=by
 unfold Zo at e;rw[Jk]at e;let#[i,hi,rfl]:=C8.mp e;exists ?_
 ·unfold GS.ways
  rw[Jk,hi];rfl
 ·unfold GS.key
  rw[GS.st_snoc,GS.recOf_snoc]
theorem ja{D:Dr}{a:List (Option (Str×Int×Int))}{late:Nat}{b0:Kb}{h:Ε}:(Zo D a late (GS.st (qI D a) b0 h) (GS.recOf late h) (GS.nn a.length late (GS.recOf late h))).length=(GS.ways a.length late (qJ a) (qI D a) b0 h).length:=by
 unfold Zo GS.ways;rw[Jd,Jd]
end L3
namespace Lw
open PySem L2 L3
section
variable{P:Ξ}{w:Ω}{K:ι}{mg:Fn}{base:Ψ}{tk:Nat->Tok}{C:Δ}
theorem mz(a:At K mg "may_open" bJ ["door","row","k","late"])(T:F3 K mg tk)(U:GB K C)(dJ:Df P w K mg base "plain_press" ["door","press"] 7 (fD K C))(xT:Df P w K mg base "plain_row" ["door","row"] 8 (f8 K C))(xO:Df P w K mg base "presses_of" ["presses","name"] 1 ma)(dC:Mf P w K mg base C "button_of" V2 1 (jN K C))(yH:Df P w K mg base "opens" X6 4 (rZ K C))(dI:Df P w K mg base "numbers_next" W8 1 fK)(yA:Df P w K mg base "ways_on" W2 5 (lR K C)):Df P w K mg base "may_open" ["door","row","k","late"] 9 (n9 K C):=by
 refine a.dq FB λf _ A _ s H vs Q E hr h=>?_
 ·let#[p,ta,hk,bd,lg,r,n,D,qs,k,late,rfl,hd,ok,rq,lq,o0,hl,q]:=h
  let#[rs,g1,lr,h6]:=id rq;exists _,(qe (qx (i:=4) FB.nd Z (Or.inl Z) (ql dJ hr.mo (qd (qv 0) (qd (qF (IW.or qG zk) (qv 1) (qv 2)) qb))))
   (qe (qK (qw Zn (qv 4) zc (qu _)) (qg (qp zc)) qB)
   (qe (qx (i:=5) FB.nd Z (Or.inl Z) (ql xO hr.mo (qd (ql xT hr.mo (qd (qv 0) (qd (qv 1) qb))) (qd (qF zk (qv 4) qf) qb))))
   (qe (qx (i:=6) FB.nd Z (Or.inl Z) (qT (qd (qy (qd (qy qb) (qd (zp dC U.cl hr.mo (qv 0) (qd (qF zk (qv 4) qf) qb)) (qd (qy qb) qb)))) qb)))
   (qe (qx (i:=7) FB.nd Z (Or.inl Z) wZ)
   (qe (kL JI (lj (qv 6) (λ_=>rfl))
   (qe (zn JI Z (ze (qv 6)) (Qf Z (qm (qh (i:=8) FB.nd Z (Or.inl Z)) (qm (qh (i:=9) FB.nd Z (Or.inl Z)) (qm (qh (i:=10) FB.nd Z (Or.inl Z)) qU))))
   (qg (qK (QW.pt (Zr (zE (ql yH hr.mo (qd (qv 0) (qd (qv 9) (qd (qv 4) qb))))) (Zg (qw sS (qv 2) (ql dI hr.mo (qd (qv 10) (qd (qr qL T.b_len JM (qd (qv 1) qb)) (qd (qv 3) qb)))) (by rfl))))) (qg (qp (qo Zh (qv 8) (qy (qd (qv 2) qb))))) qB)))
   (qe (qx (i:=11) FB.nd Z (Or.inl Z) (qT qb))
   (qe (zn JI Z (ze (qv 6)) (Qf Z (qm (qh (i:=8) FB.nd Z (Or.inl Z)) (qm (qh (i:=9) FB.nd Z (Or.inl Z)) (qm (qh (i:=10) FB.nd Z (Or.inl Z)) qU))))
   (qg (zn JI Z (ze (ql yA hr.mo (qd (qv 0) (qd (qv 5) (qd (qv 9) (qd (qv 10) (qd (qv 3) qb))))))) (Qf Z (qm (qh (i:=12) FB.nd Z (Or.inl Z)) (qm (qh (i:=13) FB.nd Z (Or.inl Z)) (qm (qh (i:=14) FB.nd Z (Or.inl Z)) qU))))
   (qg (qK (qw (rg hr) (qy (qd (qv 13) (qd (qv 14) qb))) (qv 7) (by rfl)) (qe (yx hr (qv 7) (qy (qd (qv 13) (qd (qv 14) qb))) bW)
   (qg (zG (QB J3 CT CU zH (qv 11) (qd (qy (qd (qo Zh (qv 8) (qy (qd (qv 12) qb))) (qd (qv 13) (qd (qv 14) qb)))) qb))))) qB)))))
   (qg (qx (i:=6) FB.nd Z (Or.inl Z) (qv 11)))))))
   (qg (qp zc))))))))
  have k1:rs[k]? =some rs[k]:=Jg (by omega)
  have d2:qs[k]? =some qs[k]:=Jg o0
  let#[pa,po]:=h6 k _ _ k1 d2;have j0:QQ (rs.map V.ref) (k:Int)=↑(.ref rs[k]):=zW (by rw[Jk,k1];rfl)
  unfold bL bD;refine bj (t:=jP _ _ _ _) (λv H'=>Fp H H'/\HG H' v (qR D qs[k])) (λQ' hQ=>?_) ?_
  ·exists 4
   rcases g1 with sq|sq
   ·refine .inl #[r,2,sq,j0,?_]
    exact#[p,ta,hk,bd,lg,rs[k],n,D,qs[k],Z,hd,ok,pa,po,λy H1 s1 h1=>hQ _ _ #[s1,h1]]
   ·refine .inr #[r,2,sq,j0,?_]
    exact#[p,ta,hk,bd,lg,rs[k],n,D,qs[k],Z,hd,ok,pa,po,λy H1 s1 h1=>hQ _ _ #[s1,h1]]
  ·rintro v H1 ⟨s1,hv⟩
   cases hpl:qR D qs[k]with
   |none=>
    rw[hpl]at hv
    cases(show v=V.non from hv)
    exists 3
    refine zr (Jh Z) ?_
    refine q .non H1 none s1 Z λP hP=>?_
    rw[d2]at hP;cases hP
    exact#[λ_=>rfl,λnm age c b0 e=>by rw[hpl]at e;cases e]
   |some x=>
    let#[nm,age,c]:=x;rw[hpl]at hv;let#[q0,rfl,e8]:=(show∃q0,v= .ref q0/\H1 q0=↑(.tup [.str nm,.int age,.int c])from hv)
    let#[b0,b2,u3]:∃b0,D.kn.lookup nm=↑b0/\qs[k].nm=nm:=by
     unfold qR at hpl;cases hrd:Zk D qs[k]with
     |none=>rw[hrd]at hpl;cases hpl
     |some y=>
      rw[hrd]at hpl
      change (if(D.kn.lookup qs[k].nm).isSome then ↑(qs[k].nm,qs[k].age,y.1)else none)=_ at hpl
      split at hpl
      ·rename_i hs
       injection hpl with hpl
       injection hpl with h1 h2
       rw[h1]at hs;let#[b0,b2]:=DK.mp hs
       exact#[b0,b2,h1]
      ·cases hpl
    exists 3
    refine zI (Jj (by intro z;cases z)) ?_
    have r9:=hd.same s1;have o3:LQ K H1 r qs:=#[rs,g1.elim (λz=> .inl (s1.seq z)) (λz=> .inr (Fp.sqt s1 z)),lr,λi x P e1 e2=>#[FP.same s1 (h6 i x P e1 e2).1,(h6 i x P e1 e2).2]]
    refine#[1,p,ta,hk,bd,lg,r,n,D,qs,Z,r9,ok,o3,by omega,λl1 H2 s2 o1=>?_]
    refine#[0,q0,2,FC.of (s2 _ _ e8),Z,l1,nm,0,o1,by rw[Jd];omega,λl2 H3 s3 l3=>?_]
    have S3:=(s1.trans s2).trans s3;have z0:0<=ζ:=by decide
    refine#[z0,λt1 r3=>?_]
    have s4:=Fp.upd (o:= .tup []) r3
    have l7:=hd.same (S3.trans s4);refine#[0,p,Z,l7.no,0,q0,2,FC.of (s4 _ _ (s3 _ _ (s2 _ _ e8))),Z,p,ta,hk,bd,lg,n,D,nm,Z,l7,λen=>absurd (b2.symm.trans en) (by intro z;cases z),λe xb he r1=>?_]
    obtain rfl:b0=e:=Jt (b2.symm.trans he)
    refine#[z0,λt2 s0=>?_]
    have s5:=Fp.upd (o:= .tup []) s0
    refine#[Fe,λq1 p3=>?_]
    have s6:=Fp.upd (o:= .tup [.ref t1,.ref xb,.ref t2]) p3
    refine#[Fc,λly L=>?_]
    have s7:=Fp.upd (o:= .lst [.ref q1]) L
    intro F d1;let#[Hs,g3]:∃Hs:Hp,Hs=Ft (Ft (Ft (Ft (Ft H3 t1 (.tup [])) t2 (.tup [])) q1 (.tup [.ref t1,.ref xb,.ref t2])) ly (.lst [.ref q1])) F (ax P w F []):=#[0]
    have s8:=Fp.upd (o:=ax P w F []) d1
    rw[<- g3]at s8;have n2:Hs F=↑(ax P w F []):=by rw[g3];exact qc
    have S8:=((((S3.trans s4).trans s5).trans s6).trans s7).trans s8;generalize hos:(qs.map (qR D)).map (Qi nm)=l at l3
    have r6:l.length=qs.length:=by rw[<- hos,Jd,Jd]
    have e0:GS.key late (qI D l) b0 []=(b0,[]):=Z
    have l0:∀c o,H c=↑o->c≠F:=λc o z y=>by rw[y]at z;have:=(((((S3.trans s4).trans s5).trans s6).trans s7)) _ _ z;rw[d1]at this;cases this
    have L:Hs ly=↑(.lst [.ref q1]):=s8 _ _ qc
    have r4:Lu Hs (GS.key late (qI D l) b0) [.ref q1] [[]]:=#[Z,λi v h e1 e2=>by
     cases i with
     |succ i=>cases e1
     |zero=>
      cases e1;cases e2;rw[e0]
      exact#[q1,t1,xb,t2,Z,(s7.trans s8) _ _ qc,(((s5.trans s6).trans s7).trans s8) _ _ qc,(((r1.same s5).same s6).same s7).same s8,((s6.trans s7).trans s8) _ _ qc]]
    refine gY (λm σ Hx=>∃d ly vs o8 o9 l5 g8 f6 g4 e6,m+d=l.length+2/\σ=[↑(.ref p),↑(.ref r),↑(.int (k:Int)),↑(.int (late:Int)),↑(.ref q0),↑(.ref l2),↑(.ref ly),↑(.ref F),o8,o9,l5,g8,f6,g4,e6]/\Mv [F] Hs Hx/\Hx ly=↑(.lst vs)/\Lu Hx (GS.key late (qI D l) b0) vs (GS.layer l.length late (qJ l) (qI D l) b0 d).1/\Hh P w Hx F (GS.layer l.length late (qJ l) (qI D l) b0 d).2/\∀d',d'<d->(GS.layer l.length late (qJ l) (qI D l) b0 d').1.find? (GS.good late k (qI D l) (Zz D age c) b0)=none) (m0:=l.length+2) (by subst g3;exact#[(0),ly,[.ref q1],57,Mv.refl,L,r4,Hh.new n2,λd' z=>by omega]) ?_ ?_
    ·rintro m σ Hx ⟨d,ly,vs,o8,o9,l5,g8,f6,g4,e6,v0,rfl,mv,L,nd,sa,h5⟩
     have sx:Fp H Hx:=λc o z=>mv c o (qE (l0 c o z)) (S8 _ _ z)
     exists 0,! vs.isEmpty,.inl #[vs,Fw.of L,Z]
     by_cases h4:vs=[]
     ·subst h4
      refine zg ?_
      have p2:(GS.layer l.length late (qJ l) (qI D l) b0 d).1=[]:=List.eq_nil_of_length_eq_zero nd.1.symm
      refine q .non Hx none sx Z λP hP=>?_
      rw[d2]at hP;cases hP;refine#[(λe=>nomatch (hpl.symm.trans e)),λt4 n1 c' g9 e eb=>?_]
      rw[hpl]at e;cases e
      obtain rfl:b0=g9:=Jt (b2.symm.trans eb)
      rw[hos];refine .inr #[λd' _=>?_,Z]
      by_cases o4:d'<d
      ·exact h5 d' o4
      ·have:=GS.layer_stop l.length late (qJ l) (qI D l) b0 p2 (d'-d)
       rw[show d+(d'-d)=d' by omega]at this
       rw[this];rfl
     ·refine zr (by cases vs with|nil=>exact absurd Z h4|cons _ _=>rfl) ?_
      have e3:∀c o,H3 c=↑o->c≠F:=λc o z y=>by rw[y]at z;have:=((((s4.trans s5).trans s6).trans s7)) _ _ z;rw[d1]at this;cases this
      have i2:Fp H3 Hx:=λc o z=>mv c o (qE (e3 c o z)) (((((s4.trans s5).trans s6).trans s7).trans s8) _ _ z)
      have n3:Hx q0=↑(.tup [.str nm,.int age,.int c]):=by
       have z:=s3 _ _ (s2 _ _ e8);exact mv _ _ (qE (λy=>by rw[y]at z;have:=((((s4.trans s5).trans s6).trans s7)) _ _ z;rw[d1]at this;cases this)) (((((s4.trans s5).trans s6).trans s7).trans s8) _ _ z)
      have n8:∀h,GS.key late (qI D l) b0 h=(GS.st (qI D l) b0 h,GS.recOf late h):=λ_=>rfl
      refine#[0,ly,Z,#[_,Fw.of L],Qa (K:=K) (xs:=vs) (λi σ Hz=>∃p8 p9 X,σ=[↑(.ref p),↑(.ref r),↑(.int (k:Int)),↑(.int (late:Int)),↑(.ref q0),↑(.ref l2),↑(.ref ly),↑(.ref F),p8,p9,X,g8,f6,g4,e6]/\Fp Hx Hz/\∀j h,j<i->(GS.layer l.length late (qJ l) (qI D l) b0 d).1[j]? =↑h->GS.good late k (qI D l) (Zz D age c) b0 h=false) #[20,Fp.refl _,λj h z=>by omega] (λi σ Hz _ ⟨_,_,_,_,sz,_⟩=>Fw.of (sz _ _ L)) ?_ ?_]
      ·rintro i v σ Hz hv ⟨p8,p9,X,rfl,sz,W⟩
       have hi:i<(GS.layer l.length late (qJ l) (qI D l) b0 d).1.length:=by rw[<- nd.1];exact(Jp.mp hv).1
       have hh:=Jg hi;let#[qn,th,an,tn,rfl,f3,f0,h3,h8]:=nd.2 i v _ hv hh;generalize hgh:(GS.layer l.length late (qJ l) (qI D l) b0 d).1[i]=u at *
       exists qn,0,FC.of (sz _ _ f3),6
       refine#[4,p,ta,hk,bd,lg,an,q0,n,D,_,nm,age,c,Z,hd.same (sx.trans sz),h3.same sz,sz _ _ n3,λH2 G=>?_]
       let#[u5,c3]:u.length<=100/\∀o∈u,o<l.length:=by
        have b1:u∈GS.full l.length late (qJ l) d:=(GS.layer_sub l.length late (qJ l) (qJ l) (qI D l) b0 (λ_ z=>z) d).subset (JG hh)
        let#[z1,z2]:=GS.nodup_of_full l.length late (qJ l) b1
        have:=GS.rest_len List.nodup_range z1 (λo ho=>JN.mpr (z2 o ho))
        rw[List.length_range]at this
        exact#[by omega,z2]
       have M:∀(b:Bool),(b=true↔GS.fol late u k/\(zU D (GS.st (qI D l) b0 u) age c).1="near")->GS.good late k (qI D l) (Zz D age c) b0 u=b:=λb hb=>by
        unfold GS.good Zz;rw[C2,JC,JB,JB];exact hb.symm
       exists 0
       by_cases d0:(zU D (GS.st (qI D l) b0 u) age c).1="near"
       ·refine zr (Jh d0) ?_
        have l4:Fp H H2:=(sx.trans sz).trans G
        refine#[4,r,rs.map V.ref,Z,g1.elim (λz=> .inl (l4.seq z)) (λz=> .inr (Fp.sqt l4 z)),0,tn,GS.recOf late u,l.length,late,by rw[Jd,lr,r6];rfl,(sz.trans G) _ _ h8,by omega,by omega,?_,λnl H4 p0 u8 hn=>?_]
        ·intro e he
         have:=c3 e ((GS.mem_recOf late u e).mp he).1
         omega
        ·have S4':=G.trans p0
         exists nl,0,.inl (Fw.of hn),Z,fE _
         rw[kj];exists 0
         by_cases d7:k∈GS.nn l.length late (GS.recOf late u)
         ·refine zr (by simpa using d7) ?_
          have g5:=M true #[λ_=>#[((GS.mem_nn l.length late).mp d7).2,d0],λ_=>rfl]
          refine#[1,Fc,λtk g6=>?_]
          have b6:=Fp.upd (o:= .tup [.int (k:Int)]) g6
          refine#[th,tk,qM u,[.int (k:Int)],8,((sz.trans S4').trans b6) _ _ f0,qc,by unfold qM;rw[Jd,Jo];show u.length+1<=_;omega,λpv Hv sv h7=>?_]
          refine q (.ref pv) Hv ↑(u++[k]) ((((sx.trans sz).trans S4').trans b6).trans sv) #[pv,Z,by rw[h7];unfold qM;rw[Jy];rfl] λP hP=>?_
          rw[d2]at hP;cases hP;refine#[(λe=>nomatch (hpl.symm.trans e)),λt4 n1 c' g9 e eb=>?_]
          rw[hpl]at e;cases e
          obtain rfl:b0=g9:=Jt (b2.symm.trans eb)
          rw[hos];exact .inl #[d,u,h5,GS.find_at hh g5 W,Z]
         ·refine zI (by simpa using d7) ?_
          refine#[20,sz.trans S4',λj h hj a4=>?_]
          rcases Nat.lt_or_ge j i with h1|h1
          ·exact W j h h1 a4
          ·obtain rfl:j=i:=by omega
           rw[hh]at a4;cases a4;exact M false #[(λz=>by cases z),λz=>absurd ((GS.mem_nn l.length late).mpr #[by omega,z.1]) d7]
       ·refine zI (Jj d0) ?_
        refine#[20,sz.trans G,λj h hj a4=>?_]
        rcases Nat.lt_or_ge j i with h1|h1
        ·exact W j h h1 a4
        ·obtain rfl:j=i:=by omega
         rw[hh]at a4;cases a4;exact M false #[(λz=>by cases z),λz=>absurd z.2 d0]
      ·rintro σ Hz ⟨p8,p9,X,rfl,sz,W⟩
       have a3:(GS.layer l.length late (qJ l) (qI D l) b0 d).1.find? (GS.good late k (qI D l) (Zz D age c) b0)=none:=GS.find_no λj x hj hx=>W j x (by rw[nd.1];exact hj) hx
       refine#[Fb,λJ S=>?_]
       have s9:=Fp.upd (o:= .lst []) S
       have O:=sz.trans s9;have n7:=qc (H:=Hz) (a:=J) (o:= .lst [])
       have fs:J≠F:=λy=>by
        let#[kvs,g,_]:=sa.ex;rw[y]at S
        have:=sz _ _ g.r
        rw[S]at this;cases this
       have fl:J≠ly:=λy=>by rw[y]at S;have:=sz _ _ L;rw[S]at this;cases this
       refine#[0,ly,Z,#[_,Fw.of (O _ _ L)],Qa (K:=K) (xs:=vs) (λi σ Hw=>∃p8 p9 X a1 a5 a8 fv,σ=[↑(.ref p),↑(.ref r),↑(.int (k:Int)),↑(.int (late:Int)),↑(.ref q0),↑(.ref l2),↑(.ref ly),↑(.ref F),p8,p9,X,↑(.ref J),a1,a5,a8]/\Mv [F,J] (Ft Hz J (.lst [])) Hw/\Hw J=↑(.lst fv)/\Lu Hw (GS.key late (qI D l) b0) fv ((((GS.layer l.length late (qJ l) (qI D l) b0 d).1.take i).flatMap (GS.ways l.length late (qJ l) (qI D l) b0)).foldl (GS.ins late (qI D l) b0) ([],(GS.layer l.length late (qJ l) (qI D l) b0 d).2)).1/\Hh P w Hw F ((((GS.layer l.length late (qJ l) (qI D l) b0 d).1.take i).flatMap (GS.ways l.length late (qJ l) (qI D l) b0)).foldl (GS.ins late (qI D l) b0) ([],(GS.layer l.length late (qJ l) (qI D l) b0 d).2)).2) #[38,[],Z,Mv.refl,n7,#[Z,λi v h e1 e2=>by cases e1],?_] ?_ ?_ ?_]
       ·let#[kvs,g,_]:=sa.ex
        exact sa.to ((O _ _ g.r).trans g.r.symm) (λa xs e=>O _ _ e)
       ·rintro i σ Hw _ ⟨_,_,_,_,_,_,_,_,m9,_⟩
        let#[kvs,g,_]:=sa.ex;have d5:ly≠F:=qC L g.r (by intro z;cases z)
        exact Fw.of (m9 _ _ (by simp only[Jl,Jz,JA];exactλz=>z.elim d5 (λz=>fl z.symm)) (O _ _ L))
       ·rintro i v σ Hw hv ⟨p8,p9,X,a1,a5,a8,fv,rfl,m9,c1,d3,b5⟩
        have hi:i<(GS.layer l.length late (qJ l) (qI D l) b0 d).1.length:=by rw[<- nd.1];exact(Jp.mp hv).1
        have hh:=Jg hi;let#[qn,th,an,tn,rfl,f3,f0,h3,h8]:=nd.2 i v _ hv hh;generalize hgh:(GS.layer l.length late (qJ l) (qI D l) b0 d).1[i]=u at *
        have b1:u∈GS.full l.length late (qJ l) d:=(GS.layer_sub l.length late (qJ l) (qJ l) (qI D l) b0 (λ_ z=>z) d).subset (JG hh)
        let#[z1,c3]:=GS.nodup_of_full l.length late (qJ l) b1
        have hT:∀a xs,Hx a=↑(.tup xs)->Hw a=↑(.tup xs):=λa xs z=>by
         let#[kvs,g,_]:=sa.ex;exact m9 _ _ (by simp only[Jl,Jz,JA];exactλw=>w.elim (qC z g.r (by intro y;cases y)) (λw=>by rw[w]at z;have:=sz _ _ z;rw[S]at this;cases this)) (O _ _ z)
        exists qn,0,FC.of (hT _ _ f3),6
        have u4:u.length=d:=GS.len_full l.length late (qJ l) b1
        have p7:=GS.rest_len List.nodup_range z1 (λo ho=>JN.mpr (c3 o ho))
        rw[List.length_range]at p7;have u7:=GS.recOf_len late u;have d5:∀c o,Hx c=↑o->c≠J:=λc o z y=>by rw[y]at z;have:=sz _ _ z;rw[S]at this;cases this
        have t0:Fp H Hw:=λc o z=>m9 c o (oE (l0 c o z) (d5 c o (sx _ _ z))) (O _ _ (sx _ _ z))
        have q5:Fu K C Hw p ta hk bd lg n D:=hd.same t0
        have n0:HU Hw l2 l:=l3.same (λc o z=>m9 c o (oE (e3 c o z) (d5 c o (i2 _ _ z))) (O _ _ (i2 _ _ z)))
        refine#[21,p,ta,hk,bd,lg,l2,an,tn,n,D,l,GS.st (qI D l) b0 u,GS.recOf late u,late,Z,q5,n0,by omega,h3.to hT,hT _ _ h8,by omega,by omega,λe he=>by have:=c3 e ((GS.mem_recOf late u e).mp he).1;omega,λwl p1 H2 G e5 f5 wy=>?_]
        let#[lw,u0]:=wy;rw[ja]at lw;have d9:d<=9:=by omega
        have t5:wl≠J:=λy=>by rw[y,c1]at e5;cases e5
        have r2:∀a xs,Hx a=↑(.tup xs)->H2 a=↑(.tup xs):=λa xs z=>G _ _ (hT _ _ z)
        have l9:=r2 _ _ f0;let#[p6,gw,ew]:=b5.ex;have g2:H2 F=↑(ax P w F p6):=G _ _ gw.r
        refine#[wl,Z,#[_,Fw.of f5],Qa (K:=K) (xs:=p1) (λj σ Hu=>∃a1 a5 a8 gv,σ=[↑(.ref p),↑(.ref r),↑(.int (k:Int)),↑(.int (late:Int)),↑(.ref q0),↑(.ref l2),↑(.ref ly),↑(.ref F),↑(.ref th),↑(.ref an),↑(.ref tn),↑(.ref J),a1,a5,a8]/\Mv [F,J] H2 Hu/\Hu J=↑(.lst gv)/\Lu Hu (GS.key late (qI D l) b0) gv ((((GS.layer l.length late (qJ l) (qI D l) b0 d).1.take i).flatMap (GS.ways l.length late (qJ l) (qI D l) b0)++(GS.ways l.length late (qJ l) (qI D l) b0 u).take (j)).foldl (GS.ins late (qI D l) b0) ([],(GS.layer l.length late (qJ l) (qI D l) b0 d).2)).1/\Hh P w Hu F ((((GS.layer l.length late (qJ l) (qI D l) b0 d).1.take i).flatMap (GS.ways l.length late (qJ l) (qI D l) b0)++(GS.ways l.length late (qJ l) (qI D l) b0 u).take (j)).foldl (GS.ins late (qI D l) b0) ([],(GS.layer l.length late (qJ l) (qI D l) b0 d).2)).2) #[30,fv,Z,Mv.refl,G _ _ c1,by rw[List.take_zero,Dc];exact d3.to (λa xs z=>G _ _ z),by rw[List.take_zero,Dc];exact b5.to (g2.trans gw.r.symm) (λa xs z=>G _ _ z)] ?_ ?_ ?_]
        ·rintro j σ Hu _ ⟨_,_,_,_,_,m2,_⟩
         exact Fw.of (m2 _ _ (oE (qC f5 g2 (by intro z;cases z)) t5) f5)
        ·rintro j v2 σ Hu l8 ⟨a1,a5,a8,gv,rfl,m2,d6,a0,b3⟩
         let#[I,d8]:∃I,(Zo D l late (GS.st (qI D l) b0 u) (GS.recOf late u) (GS.nn l.length late (GS.recOf late u)))[j]? =↑I:=by
          have hj:=(Jp.mp l8).1;rw[lw,<- ja]at hj
          exact#[_,Jg hj]
         let#[q2,a2,B,rfl,o2,r0,k8]:=u0 j v2 I l8 d8;let#[r7,R]:=rQ d8;have g6:=ZN r7;have eC:((GS.layer l.length late (qJ l) (qI D l) b0 d).1.take i).flatMap (GS.ways l.length late (qJ l) (qI D l) b0)++(GS.ways l.length late (qJ l) (qI D l) b0 u).take (j+1)=(((GS.layer l.length late (qJ l) (qI D l) b0 d).1.take i).flatMap (GS.ways l.length late (qJ l) (qI D l) b0)++(GS.ways l.length late (qJ l) (qI D l) b0 u).take j)++[u++[I.1]]:=by rw[g6,Dy]
         rw[eC,GS.acc_snoc];have i0:=GS.acc_len l.length late (qJ l) (qI D l) b0 (j:=j) (by omega:l.length<=9) d9 hh
         let#[p5,r8]:=i0;let#[kvs,gp,ek]:=b3.ex;generalize ((((GS.layer l.length late (qJ l) (qI D l) b0 d).1.take i).flatMap (GS.ways l.length late (qJ l) (qI D l) b0)++(GS.ways l.length late (qJ l) (qI D l) b0 u).take (j)).foldl (GS.ins late (qI D l) b0) ([],(GS.layer l.length late (qJ l) (qI D l) b0 d).2))=Y at a0 b3 p5 r8 ek⊢
         have c4:∀a xs,H2 a=↑(.tup xs)->Hu a=↑(.tup xs):=λa xs z=>m2 _ _ (oE (qC z g2 (by intro y;cases y)) (qC z (G _ _ c1) (by intro y;cases y))) z
         have k0:=c4 _ _ o2;have b4:=r0.to c4;have c0:=c4 _ _ k8;exists q2,0,FC.of k0,6
         refine#[1,Fd,λtq t3=>?_]
         have N:=Fp.upd (o:= .tup [.ref a2,.ref B]) t3
         have o6:(Ft Hu tq (.tup [.ref a2,.ref B])) tq=↑(.tup [.ref a2,.ref B]):=qc
         have q6:=gp.to (N _ _ gp.r |>.trans gp.r.symm) (λa xs z=>N _ _ z)
         have q4:ab (Ft Hu tq (.tup [.ref a2,.ref B])) (Za I.2).1 (.ref tq):=oo (e:=I.2.1) (rs:=I.2.2) o6 (b4.to (λa xs z=>N _ _ z)) (N _ _ c0)
         exists 0,tq,F,kvs,Za I.2,8,q6,q4,0
         rw[Hh.has ek]
         by_cases b7:I.2∈Y.2
         ·refine zI (by rw[Jh b7];rfl) ?_
          have ei:GS.ins late (qI D l) b0 Y (u++[I.1])=Y:=Jb (by rw[<- R];exact b7)
          rw[ei]
          exact#[30,gv,Z,m2.trans N.mv,N _ _ d6,a0.to (λa xs z=>N _ _ z),b3.to (N _ _ gp.r |>.trans gp.r.symm) (λa xs z=>N _ _ z)]
         ·refine zr (by rw[Jj b7];rfl) ?_
          have ei:GS.ins late (qI D l) b0 Y (u++[I.1])=(Y.1++[u++[I.1]],Y.2++[GS.key late (qI D l) b0 (u++[I.1])]):=Jc (by rw[<- R];exact b7)
          rw[ei,<- R];refine#[4,Fd,λtr r5=>?_]
          have j1:=Fp.upd (o:= .tup [.ref a2,.ref B]) r5
          have m5:(Ft (Ft Hu tq (.tup [.ref a2,.ref B])) tr (.tup [.ref a2,.ref B])) tr=↑(.tup [.ref a2,.ref B]):=qc
          have S12:=N.trans j1;generalize Ft (Ft Hu tq (.tup [.ref a2,.ref B])) tr (.tup [.ref a2,.ref B])=Hv at S12 j1 m5⊢
          have g0:=gp.to (S12 _ _ gp.r |>.trans gp.r.symm) (λa xs z=>S12 _ _ z)
          have k2:ab Hv (Za I.2).1 (.ref tr):=oo (e:=I.2.1) (rs:=I.2.2) m5 (b4.to (λa xs z=>S12 _ _ z)) (S12 _ _ c0)
          have a3:ZV kvs (Za I.2)=none:=by
           have:=Hh.has ek I.2
           rw[Jj b7]at this;cases z:ZV kvs (Za I.2)with
           |none=>rfl
           |some y=>rw[z]at this;cases this
          have u9:kvs.length=Y.2.length:=by have:=JH List.length ek;rwa [Jd,Jd]at this
          let#[Hd,f2]:∃Hd:Hp,Hd=Ft Hv F (ax P w F (ac kvs (Za I.2) tr (.bl true))):=#[0]
          exists F,Hd,Z,#[kvs,Za I.2,tr,g0,Z,k2,by rw[Jo];omega,f2]
          have d4:=g0.put k2 (.bl true) a3;have m3:Mv [F] Hv (Ft Hv F (ax P w F (ac kvs (Za I.2) tr (.bl true)))):=Mv.upd1
          rw[<- f2]at d4 m3;have o7:∀a xs,Hv a=↑(.tup xs)->Hd a=↑(.tup xs):=λa xs z=>m3 _ _ (qE (qC z g0.r (by intro y;cases y))) z
          clear f2;have h9:J≠F:=fs
          have i1:Hd J=↑(.lst gv):=m3 _ _ (qE h9) (S12 _ _ d6)
          have m6:∀a xs,Hu a=↑(.tup xs)->Hd a=↑(.tup xs):=λa xs z=>o7 _ _ (S12 _ _ z)
          refine#[0,.inl #[37,Fw.of i1],1,Fc,λtk l6=>?_]
          have b6:=Fp.upd (o:= .tup [.int (I.1:Int)]) l6
          refine#[th,tk,qM u,[.int (I.1:Int)],8,b6 _ _ (m6 _ _ (c4 _ _ l9)),qc,by unfold qM;rw[Jd,Jo];show u.length+1<=_;omega,λpv Hp' sv h7=>?_]
          refine#[1,Fe,λq3 o5=>?_]
          have f4:=Fp.upd (o:= .tup [.ref pv,.ref a2,.ref B]) o5
          have m7:(Ft Hp' q3 (.tup [.ref pv,.ref a2,.ref B])) q3=↑(.tup [.ref pv,.ref a2,.ref B]):=qc
          have S3':=(b6.trans sv).trans f4;have f1:=S3' _ _ i1;have m1:=f4 _ _ h7;generalize Ft Hp' q3 (.tup [.ref pv,.ref a2,.ref B])=He at S3' f4 m7 f1 m1⊢
          exists J,gv,32,f1,by rw[Jo];have:=a0.1;omega
          have m4:Mv [J] He (Ft He J (.lst (gv++[.ref q3]))):=Mv.upd1
          have e4:(Ft He J (.lst (gv++[.ref q3]))) J=↑(.lst (gv++[.ref q3])):=qc
          have c2:∀a xs,He a=↑(.tup xs)->Ft He J (.lst (gv++[.ref q3])) a=↑(.tup xs):=λa xs z=>m4 _ _ (qE (qC z f1 (by intro y;cases y))) z
          generalize Ft He J (.lst (gv++[.ref q3]))=Hf at m4 e4 c2⊢
          have g7:∀a xs,Hu a=↑(.tup xs)->Hf a=↑(.tup xs):=λa xs z=>c2 _ _ (S3' _ _ (m6 _ _ z))
          exists 36,?_,e4,?_
          ·intro c o hc z
           have q7:c≠F:=λy=>hc (by rw[y];simp)
           have u1:c≠J:=λy=>hc (by rw[y];simp)
           exact m4 _ _ (qE u1) (S3' _ _ (m3 _ _ (qE q7) (S12 _ _ (m2 _ _ hc z))))
          ·refine(a0.to g7).snoc #[q3,pv,a2,B,Z,c2 _ _ m7,?_,?_,?_]
           ·have:=c2 _ _ m1
            unfold qM at this⊢;rw[Jy];exact this
           ·rw[<- R];exact b4.to g7
           ·rw[<- R];exact g7 _ _ c0
          ·refine#[kvs++[(Za I.2,tr,.bl true)],d4.to ?_ (λa xs z=>c2 _ _ (S3' _ _ z)),by rw[Jy,Jy,ek];rfl]
           have z1:=m4 _ _ (qE (λy=>h9 y.symm)) (S3' _ _ d4.r)
           exact z1.trans d4.r.symm
        ·rintro σ Hu ⟨a1,a5,a8,gv,rfl,m2,d6,a0,b3⟩
         rw[lw,CZ (Je _),GS.pre_next l.length late (qJ l) (qI D l) b0 hh]at a0 b3
         exact#[38,gv,Z,m9.trans (G.mv.trans m2),d6,a0,b3]
       ·rintro σ Hw ⟨p8,p9,X,a1,a5,a8,fv,rfl,m9,c1,d3,b5⟩
        rw[nd.1,CZ (Je _),<- GS.layer_acc]at d3 b5;have u2:d<=l.length:=by
         rcases Nat.lt_or_ge l.length d with z|z
         ·have:=GS.full_end l.length late (qJ l) z
          have h0:=(GS.layer_sub l.length late (qJ l) (qJ l) (qI D l) b0 (λ_ z=>z) d)
          rw[this]at h0;have h1:=List.sublist_nil.mp h0;exact absurd (List.eq_nil_of_length_eq_zero (by rw[nd.1,h1];rfl)) h4
         ·exact z
        refine#[0,m-1,by omega,d+1,J,fv,45,by omega,Z,?_,c1,d3,b5,λd' u6=>?_]
        ·intro c o hc z
         have p4:c≠J:=λy=>by rw[y]at z;have:=sz _ _ (mv _ _ (by rw[y]at hc;exact hc) z);rw[S]at this;cases this
         exact m9 _ _ (by simp only[Jl,Jz,JA];exactλw=>w.elim (λw=>hc (by rw[w];simp)) p4) (O _ _ (mv _ _ hc z))
        ·rcases Nat.lt_or_ge d' d with z|z
         ·exact h5 d' z
         ·obtain rfl:d'=d:=by omega
          exact a3
    ·intro σ H' Q1 Q2 g hh
     let#[v,hv,k',ht,z]:=hh
     exact#[v,hv,k',ht,g _ _ z]
end
end Lw
namespace L3
open PySem PySem.Spec PyProof.Rows L2 PySem.SeqAt
theorem mC{K:ι}{js:Ε}{tc:TT}{te:TE}{σ:L2.St}{H:Hp}{Q:VK}{a:Δ}{xs:Β}(hn:xs.length<=ζ)(Pv:Nat->Β->Hp->Prop)(s:Pv 0 [] H)(hl:∀i ys H,Pv i ys H->Fw K H a xs)
  (hs:∀i ys H p x,xs[i]? =↑x->Pv i ys H->H p=none->tc (↑(.int (i:Nat))::↑x::Qc js σ) (Ft H p (.tup [.int (i:Nat),x])) λc d=>if c=true then te (↑(.int (i:Nat))::↑x::Qc js σ) d (λv r=>Pv (i+1) (ys++[v]) r)else Pv (i+1) ys d)
  (hd:∀ys H,Pv xs.length ys H->∀p,H p=none->Q (.ref p) (Ft H p (.lst ys))):kS 2 js (lQ K 2 (c7 (Qz 0) (c7 (Qz 1) px))) tc te σ Q (lL K a) H:=by
 exists λi m ys h H=>m=xs.length-i/\i<=xs.length/\ys.length<=i/\Pv i ys H/\∃o o',h=o::o'::Qc js σ,#[xs.length,by simp,JR _,Je _,s,none,none,Z]
 rintro i m ys h H ⟨rfl,hi,t,p,o,o',rfl⟩
 have q:=hl i ys H p
 by_cases f:i<xs.length
 ·refine .inr #[#[xs,xs[i],q,by simp [f]],by omega,λv H' y=>?_]
  let#[j,x,n,rfl,l,rfl]:=y;exists j,0,FC.of qc,9
  exact#[λv d=>Pv (i+1) (ys++[v]) d,λd=>Pv (i+1) ys d,λv d g=>#[xs.length-(i+1),by omega,Z,f,by simp;omega,g,5],λd g=>#[xs.length-(i+1),by omega,Z,f,by omega,g,5],hs i ys _ j x (l xs q) p n]
 ·have e:i=xs.length:=by omega
  subst e;exact .inl #[#[xs,q,Je _],hd ys H p]
def Qk(D:Dr)(ps:Τ)(i:Nat)(kn:Kw):Kw:=match ps[i]? with
 |some P=>(qV {D with kn:=kn} P).2
 |none=>kn
def lf:Β->Str
 | .str w::_=>w
 |_=>""
def aN(D:Dr)(ps:Τ)(k:Nat)(kn:Kw):Bool:=match ps[k]? with
 |some P=>decide (lf (qV {D with kn:=kn} P).1="open")
 |none=>false
def Qm(ps:Τ)(nm:Str)(i:Nat):Bool:=match ps[i]? with
 |some P=>decide (P.nm=nm)
 |none=>false
def eW(ps:Τ)(k:Nat):Str:=match ps[k]? with
 |some P=>P.nm
 |none=>""
def gW(D:Dr)(ps:Τ)(late k:Nat)(o:Option Ε):Prop:=
 (∃d g,(∀a,a<d->(GS.lev ps.length late k (Qm ps (eW ps k)) a).find? (GS.good late k (Qk D ps) (aN D ps k) D.kn)=none)/\(GS.lev ps.length late k (Qm ps (eW ps k)) d).find? (GS.good late k (Qk D ps) (aN D ps k) D.kn)=↑g/\o=↑(g++[k]))\/
 ((∀d,(GS.lev ps.length late k (Qm ps (eW ps k)) d).find? (GS.good late k (Qk D ps) (aN D ps k) D.kn)=none)/\o=none)
theorem pO(D:Dr)(P:Ps):∃w r,(qV D P).1= .str w::r:=by
 unfold qV q9;split
 ·exact#[5]
 ·split
  ·split
   ·exact#[5]
   ·split
    ·exact#[5]
    ·exact#[5]
  ·exact#[5]
theorem eZ{kn:Kw}{nm:Str}{e x:Kb}(h:kn.lookup nm=↑e):(qS kn nm x).lookup nm=↑x:=by
 have c:nm∈kn.map (·.1):=FD.mp (by rw[h];rfl)
 unfold qS;rw[Jb c];clear h
 induction kn with
 |nil=>cases c
 |cons a kn ih=>
  let#[n,y]:=a;rw[JL]
  by_cases e:n=nm
  ·subst e
   simp only[J6];unfold List.lookup;rw[CS]
  ·rw[Jc e]
   have d:(nm==n)=false:=Dt.mpr λz=>e z.symm
   unfold List.lookup;rw[d];refine ih ?_
   rcases Jl.mp c with z|z
   ·exact absurd z.symm e
   ·exact z
theorem GZ:decide (("held":Str)="open")=false:=by decide
theorem LS:decide (("open":Str)="open")=true:=by decide
theorem fz{D:Dr}{kn:Kw}{P:Ps}{e:Kb}(h:kn.lookup P.nm=↑e)(hs:(D.kn.lookup P.nm).isSome=true):
  (qV {D with kn:=kn} P).2.lookup P.nm=↑(match qR D P with|some x=>(zU D e x.2.1 x.2.2).2|none=>e)/\
  decide (lf (qV {D with kn:=kn} P).1="open")=(match qR D P with|some x=>decide ((zU D e x.2.1 x.2.2).1="near")|none=>false):=by
 have j:zm {D with kn:=kn} e P.age=zm D e P.age:=Z
 have i:qR D P=(Zk D P).bind λx=>↑(P.nm,P.age,x.1):=by
  unfold qR;congr 1
  funext x
  rw[Jb hs]
 rw[i];have a:qV {D with kn:=kn} P=if zm D e P.age=true then(match Qd D.t (zJ D P.age) P.nm P.ds with
   |none=>([.str "held",.str "false"],kn)
   |some (c,d)=>if(zh D.near D.far e P.age c).1="near" then([.str "open",.str P.nm,.int d],qS kn P.nm (zh D.near D.far e P.age c).2)else([.str "held",.str (zh D.near D.far e P.age c).1],qS kn P.nm (zh D.near D.far e P.age c).2))
  else([.str "held",.str "age"],kn):=by
  unfold qV q9;rw[show({D with kn:=kn}:Dr).kn.lookup P.nm=↑e from h]
  rfl
 unfold Zk;cases ht:zm D e P.age with
 |false=>
  rw[ht,Jc ⋯]at a
  rw[a];cases f:zT D P.age with
  |false=>
   rw[Jc ⋯]
   exact#[h,GZ]
  |true=>
   rw[Jb Z];cases hr:Qd D.t (zJ D P.age) P.nm P.ds with
   |none=>exact#[h,GZ]
   |some x=>
    have es:zU D e P.age x.1=(("age":Str),e):=by unfold zU;rw[ht,Jc ⋯]
    show List.lookup P.nm kn=some (zU D e P.age x.1).2/\_=decide ((zU D e P.age x.1).1="near")
    rw[es]
    exact#[h,GZ.trans (by decide:decide (("age":Str)="near")=false).symm]
 |true=>
  have f:zT D P.age=true:=by
   unfold zm at ht;rw[JC]at ht;exact ht.1
  rw[ht,Jb Z]at a;rw[f,Jb Z];cases hr:Qd D.t (zJ D P.age) P.nm P.ds with
  |none=>
   rw[hr]at a;rw[a]
   exact#[h,GZ]
  |some x=>
   let#[c,d]:=x;rw[hr]at a;have es:zU D e P.age c=zh D.near D.far e P.age c:=by unfold zU;rw[ht,Jb Z]
   show _=some (zU D e P.age c).2/\_=decide ((zU D e P.age c).1="near")
   rw[es]
   by_cases g:(zh D.near D.far e P.age c).1="near"
   ·have a:_=_:=a.trans (Jb g)
    rw[a,g]
    exact#[eZ h,LS.trans (by decide:decide (("near":Str)="near")=true).symm]
   ·have a:_=_:=a.trans (Jc g)
    rw[a,Jj g]
    exact#[eZ h,GZ]
theorem gM{c:Type}{p q:c->Bool}:∀{l:List c},(∀x∈l,p x=q x)->l.find? p=l.find? q
 | [],_=>rfl
 |a::l,h=>by
  rw[J1,J1,h a (by simp),gM (l:=l) λx d=>h x (JF _ d)]
theorem np(D:Dr)(ps:Τ)(h:Ε):(GS.st (Qk D ps) D.kn h).map (·.1)=D.kn.map (·.1):=by
 induction h using GS.snocInd with
 |nil=>rfl
 |snoc h i ih=>
  rw[GS.st_snoc];unfold Qk;split
  ·exact(si ..).trans ih
  ·exact ih
section
variable{D:Dr}{ps:Τ}{late k:Nat}{P:Ps}
theorem Ax{nm:Str}{i:Nat}(h:Qm ps nm i=true):∃R,ps[i]? =↑R/\R.nm=nm:=by
 unfold Qm at h;split at h
 ·rename_i R e;exact#[R,e,Jw h]
 ·cases h
theorem ww{nm:Str}{i:Nat}{R:Ps}(h:ps[i]? =↑R):((ps.map (qR D)).map (Qi nm)).getD i none=Qi nm (qR D R):=by
 rw[JE,Jk,Jk,h];rfl
theorem fj{R:Ps}{x:Str×Int×Int}(h:qR D R=↑x):x.1=R.nm/\x.2.1=R.age:=by
 unfold qR at h;cases hr:Zk D R with
 |none=>rw[hr]at h;cases h
 |some y=>
  rw[hr]at h
  change (if(D.kn.lookup R.nm).isSome then ↑(R.nm,R.age,y.1)else none)=↑x at h
  split at h
  ·cases h;exact#[8]
  ·cases h
theorem w9{nm:Str}{b0:Kb}(hb:D.kn.lookup nm=↑b0){n d:Nat}{h:Ε}(hm:h∈GS.full n late (Qm ps nm) d):(GS.st (Qk D ps) D.kn h).lookup nm=↑(GS.st (qI D ((ps.map (qR D)).map (Qi nm))) b0 h):=by
 induction d generalizing h with
 |zero=>rw[Jn.mp hm];exact hb
 |succ d a=>
  let#[p,g,hk]:=List.mem_flatMap.mp hm;let#[i,rfl,hi,j,l]:=(GS.mem_kids n late (Qm ps nm)).mp hk
  have a:=a g;let#[R,c,rfl]:=Ax j;have z:=(fz (D:=D) a (by rw[hb];rfl)).1
  have f:GS.st (Qk D ps) D.kn (p++[i])=(qV {D with kn:=GS.st (Qk D ps) D.kn p} R).2:=by
   rw[GS.st_snoc]
   show(match ps[i]? with|some P=>(qV {D with kn:=GS.st (Qk D ps) D.kn p} P).2|none=>_)=_
   rw[c]
  rw[f,z,GS.st_snoc];unfold qI;rw[ww c];cases hpl:qR D R with
  |none=>rfl
  |some x=>
   have e:Qi R.nm ↑x=↑x:=Jb (fj hpl).1
   rw[e]
theorem sf{o o':Option Ε}(A:ps[k]? =↑P)
  (h1:(qR D P=none->o=none)/\∀nm age c b0,qR D P=↑(nm,age,c)->D.kn.lookup nm=↑b0->ux D ((ps.map (qR D)).map (Qi nm)) late k b0 age c o)(h2:gW D ps late k o'):o=o':=by
 have hk:k<ps.length:=(Jp.mp A).1
 have F:eW ps k=P.nm:=by unfold eW;rw[A]
 have m:∀kn,aN D ps k kn=decide (lf (qV {D with kn:=kn} P).1="open"):=λkn=>by unfold aN;rw[A]
 unfold gW at h2;rw[F]at h2;simp only[GS.lev_find]at h2;cases hpl:qR D P with
 |none=>
  rw[h1.1 hpl];have B:∀d,(GS.full ps.length late (Qm ps P.nm) d).find? (GS.good late k (Qk D ps) (aN D ps k) D.kn)=none:=λd=>by
   rw[List.find?_eq_none];intro h C;unfold GS.good;rw[m]
   have:decide (lf (qV {D with kn:=GS.st (Qk D ps) D.kn h} P).1="open")=false:=by
    cases hl:(GS.st (Qk D ps) D.kn h).lookup P.nm with
    |none=>
     unfold qV;rw[yL (D:={D with kn:=GS.st (Qk D ps) D.kn h}) hl]
     exact GZ
    |some e=>
     have hs:(D.kn.lookup P.nm).isSome=true:=by
      rw[FD,<- np D ps h,<- FD,hl];rfl
     rw[(fz (D:=D) hl hs).2,hpl]
   rw[this,Bool.and_false];decide
  rcases h2 with⟨d,g,_,h,_⟩|⟨_,h⟩
  ·rw[B d]at h;cases h
  ·exact h.symm
 |some x=>
  let#[nm,age,c]:=x;let#[rfl,H]:nm=P.nm/\age=P.age:=fj hpl
  let#[b0,r]:∃b0,D.kn.lookup P.nm=↑b0:=by
   unfold qR at hpl;cases hr:Zk D P with
   |none=>rw[hr]at hpl;cases hpl
   |some y=>
    rw[hr]at hpl
    change (if(D.kn.lookup P.nm).isSome then ↑(P.nm,P.age,y.1)else none)=↑_ at hpl
    split at hpl
    ·rename_i z;exact DK.mp z
    ·cases hpl
  have h1:=h1.2 _ _ _ b0 hpl r;generalize hos:(ps.map (qR D)).map (Qi P.nm)=a at h1
  have w:a.length=ps.length:=by rw[<- hos,Jd,Jd]
  have j:∀d,(GS.full ps.length late (Qm ps P.nm) d).find? (GS.good late k (Qk D ps) (aN D ps k) D.kn)=(GS.full a.length late (Qm ps P.nm) d).find? (GS.good late k (qI D a) (Zz D age c) b0):=λd=>by
   rw[w];refine gM λh C=>?_
   have p:=w9 (D:=D) (ps:=ps) r C
   rw[hos]at p;unfold GS.good;rw[m,(fz (D:=D) p (by rw[r];rfl)).2,hpl]
   rfl
  simp only[j]at h2;have f:∀i,qJ a i=true->Qm ps P.nm i=true:=λi hi=>by
   unfold qJ at hi;unfold Qm;cases hR:ps[i]? with
   |none=>
    rw[<- hos,JE,Jk,Jk,hR]at hi;cases hi
   |some R=>
    rw[<- hos,ww hR]at hi;refine Jh ?_
    cases hq:qR D R with
    |none=>rw[hq]at hi;cases hi
    |some y=>
     rw[hq]at hi
     change (if y.1=P.nm then ↑y else none).isSome=true at hi
     split at hi
     ·rename_i z;exact(fj hq).1.symm.trans z
     ·cases hi
  have v:∀i b,Qm ps P.nm i=true->qJ a i=false->qI D a i b=b:=λi b _ hi=>by
   unfold qJ at hi;unfold qI;cases z:a.getD i none with
   |none=>rfl
   |some y=>rw[z]at hi;cases hi
  have t:k<a.length:=by omega
  unfold ux at h1;rcases h2 with⟨d,g,u,s,rfl⟩|⟨u,rfl⟩
  ·let#[f1,f2]:=GS.layer_finds a.length late k (Qm ps P.nm) (qJ a) (qI D a) (Zz D age c) b0 f v t u s
   have G:d<=a.length:=by
    rcases Nat.lt_or_ge a.length d with z|z
    ·rw[GS.full_end a.length late (Qm ps P.nm) z]at s;cases s
    ·exact z
   rcases h1 with⟨q,E,n,l,rfl⟩|⟨n,rfl⟩
   ·rcases Nat.lt_trichotomy d q with z|z|z
    ·rw[n d z]at f2;cases f2
    ·subst z
     rw[l]at f2;cases f2;rfl
    ·rw[f1 q z]at l;cases l
   ·rw[n d G]at f2;cases f2
  ·rcases h1 with⟨q,E,n,l,rfl⟩|⟨n,rfl⟩
   ·rw[GS.layer_none a.length late k (Qm ps P.nm) (qJ a) (qI D a) (Zz D age c) b0 f (u q)]at l;cases l
   ·rfl
end
def HL(H:Hp)(v:V)(h:Ε)(kn:Kw):Prop:=∃q th kd,v= .ref q/\H q=↑(.tup [.ref th,.ref kd])/\H th=↑(.tup (qM h))/\FR H kd kn
theorem HL.same{H H':Hp}{v:V}{h:Ε}{kn:Kw}(g:HL H v h kn)(s:Fp H H'):HL H' v h kn:=by
 let#[q,th,kd,e,h1,a,c]:=g
 exact#[q,th,kd,e,s _ _ h1,s _ _ a,c.same s]
def Iw(H:Hp)(f:Ε->Kw)(vs:Β)(hs:List Ε):Prop:=vs.length=hs.length/\∀(i:Nat) (v:V) (h:Ε),vs[i]? =↑v->hs[i]? =↑h->HL H v h (f h)
theorem Iw.same{H H':Hp}{f:Ε->Kw}{vs:Β}{hs:List Ε}(g:Iw H f vs hs)(s:Fp H H'):Iw H' f vs hs:=#[g.1,λi v h h1 a=>(g.2 i v h h1 a).same s]
theorem Iw.snoc{H:Hp}{f:Ε->Kw}{vs:Β}{hs:List Ε}{v:V}{h:Ε}(g:Iw H f vs hs)(hv:HL H v h (f h)):Iw H f (vs++[v]) (hs++[h]):=by
 refine#[by simp [g.1],λi w y h1 a=>?_]
 rw[J2]at h1 a;rw[g.1]at h1;split at h1
 ·rename_i z
  rw[Jb z]at a;exact g.2 i w y h1 a
 ·rename_i z
  rw[Jc z]at a;cases hj:i-hs.length with
  |zero=>rw[hj]at h1 a;cases h1;cases a;exact hv
  |succ k=>rw[hj]at h1;cases h1
def Bm(vs:Β):Prop:=∀v∈vs,∃a,v=V.ref a
theorem FR.push{H:Hp}{d lo:Δ}{kn:Kw}{c ys:Β}(h:FR H d kn)(e:H lo=↑(.lst c))(hr:Bm c):FR (Ft H lo (.lst ys)) d kn:=
 F0.to h (λo z=>by
  let#[kvs,f,_]:=h.di;rw[qi (qC f e (by intro z;cases z))];exact z) λa x z=>z.mv Mv.upd1 (NT.one e trivial) (qE (by
  let#[v,r,_]:=z;refine qC r e λq=>?_
  injection q with q
  rw[<- q]at hr;let#[b,g]:=hr _ (JJ ..)
  cases g))
theorem HL.push{H:Hp}{v:V}{h:Ε}{kn:Kw}{lo:Δ}{c ys:Β}(g:HL H v h kn)(e:H lo=↑(.lst c))(hr:Bm c):HL (Ft H lo (.lst ys)) v h kn:=by
 let#[q,th,kd,f,h1,d,i]:=g;have u:∀a xs,H a=↑(.tup xs)->Ft H lo (.lst ys) a=↑(.tup xs):=λa xs z=>by
  rw[qi (qC z e (by intro z;cases z))];exact z
 exact#[q,th,kd,f,u _ _ h1,u _ _ d,i.push e hr]
theorem Iw.rfs{H:Hp}{f:Ε->Kw}{vs:Β}{hs:List Ε}(g:Iw H f vs hs):Bm vs:=λv a=>by
 let#[i,hi]:=List.getElem?_of_mem a
 have h1:i<hs.length:=by rw[<- g.1];exact(Jp.mp hi).1
 let#[q,_,_,e,_]:=g.2 i v _ hi (Jg h1)
 exact#[q,e]
theorem Iw.push{H:Hp}{f:Ε->Kw}{lo:Δ}{a ys:Β}{hs:List Ε}(g:Iw H f a hs)(e:H lo=↑(.lst a)):Iw (Ft H lo (.lst ys)) f a hs:=
 #[g.1,λi v h h1 c=>(g.2 i v h h1 c).push e g.rfs]
inductive Iy (K:ι) (vs:Β) (H:Hp) (Q:VK):Prop
 |mk (a:Io) (rl:Δ) (D:Dr) (nms:Α) (ss:List Sc) (k late:Nat) (h1:vs=[.ref a.m,.ref rl,.int (k:Int),.int (late:Int)]) (h2:FQ K H a D nms) (h3:HP D nms) (h4:Ho H rl ss) (h5:∀s∈ss,GP D s) (h6:ss.length<=9) (h7:k<ss.length) (h8:late<=3) (h9:∀v H' o,Fp H H'->G6 H' v o->gW D (ss.map (zw D)) late k o->Q v H')
def iQ(K:ι):Sp:=λa H Q _=>Iy K a H Q
theorem kM(D:Dr)(s:Sc):(zw D s).nm=s.nm:=by
 unfold zw;split<;>rfl
end L3
namespace GS
section
variable(n late k:Nat)(own:Nat->Bool)
theorem lev_sub:∀d,(lev n late k own d).Sublist (full n late own d):=λd=>by
 rw[kX];exact List.filter_sublist
theorem lev_stop{d:Nat}(h:lev n late k own d=[]):∀e,lev n late k own (d+e)=[]
 |0=>h
 |e+1=>by
  rw[<- Nat.add_assoc]
  show(lev n late k own (d+e)).flatMap (kidsK n late k own)=[]
  rw[lev_stop h e];rfl
theorem kidsK_eq(h:Ε):kidsK n late k own h=((((List.range n).filter own).filter λi=>decide (fol late h i)).filter λi=>decide (i≠k)).map λi=>h++[i]:=by
 unfold kidsK;rw[List.filter_filter,List.filter_filter];congr 2
 funext i
 rw[Bool.and_comm (own i),Bool.and_comm,Bool.and_assoc]
theorem levp_len{d i:Nat}{h:Ε}{F:Ε}(hn:n<=9)(hd:d<=9)(f:(lev n late k own d)[i]? =↑h)(e:(F.map λi=>h++[i]).Sublist (kidsK n late k own h)):(((lev n late k own d).take i).flatMap (kidsK n late k own)++F.map λi=>h++[i]).length<=362880:=by
 have h1:(((lev n late k own d).take i).flatMap (kidsK n late k own)++F.map λi=>h++[i]).Sublist (((lev n late k own d).take (i+1)).flatMap (kidsK n late k own)):=by
  rw[J8,f,List.flatMap_append]
  exact(List.Sublist.refl _).append (by simpa using e)
 have c:(((lev n late k own d).take (i+1)).flatMap (kidsK n late k own)).Sublist (lev n late k own (d+1)):=Qy (List.take_sublist _ _) λa _=>List.Sublist.refl _
 exact Ju ((h1.trans c).trans (lev_sub n late k own (d+1))).length_le (Ju (bR n late own (d+1)) (rT n hn (d+1) (by omega)))
theorem levp_next{d i:Nat}{h:Ε}(a:(lev n late k own d)[i]? =↑h):((lev n late k own d).take i).flatMap (kidsK n late k own)++kidsK n late k own h=((lev n late k own d).take (i+1)).flatMap (kidsK n late k own):=by
 rw[J8,a,List.flatMap_append];simp
end
end GS
namespace Lw
open PySem L2 L3
section
variable{P:Ξ}{w:Ω}{K:ι}{mg:Fn}{base:Ψ}{tk:Nat->Tok}
theorem kF(a:At K mg "_law_least" a9 ["_law_world_here","_law_sent","_law_k","_law_late"])(T:F3 K mg tk)(xL:Df P w K mg base "_law_copy" ["_law_known"] 1 lA)(xN:Df P w K mg base "_law_answer" W0 1 (fQ K))(xK:Df P w K mg base "_law_follows" W4 1 eB):Df P w K mg base "_law_least" X5 2 (iQ K):=by
 refine a.dq FH λf _ A _ s H vs Q E hr h=>?_
 ·let#[wa,rl,D,m7,ss,k,late,rfl,wk,wo,sl,l3,ln,hk,lq,q]:=h
  let#[ps,I]:∃ps:Τ,ps=ss.map (zw D):=#[0]
  have l9:ps.length=ss.length:=by rw[I,Jd]
  rw[<- I]at q;let#[as,er,la,d1]:=id sl;have b7:=Jg (show k<as.length by omega)
  have a0:=Jg hk;have d6:=d1 k _ _ b7 a0;have f4:eW ps k=ss[k].nm:=by unfold eW;rw[I,Jk,a0];exact kM D _
  exists _,(qe (qx (i:=4) FH.nd Z (Or.inl Z) (qT (qd (qy (qd (qy qb) (qd (ql xL hr.mo (qd (qA hr (qv 0) qk) qb)) qb))) qb)))
   (qe (vA (i:=5) FH.nd Z (Or.inl Z) (own:=["_law_number","_law_spec"]) (fr:=["_law_sent","_law_k"]) (js:=[1,2]) Z (nK Z T.b_enumerate (qd (qv 1) qb)) Z (kx Z Z) Z (j7 Z nofun nofun nofun Z Z Z Z Z Z) (λ_ _ _ _=>om (K:=K) Z 2 Z (qm (qh (i:=0) (show List.Nodup (["_law_number","_law_spec","_law_sent","_law_k"]:Α)from by decide +kernel) Z (Or.inl Z) (.inr Z)) (qm (qh (i:=1) (show List.Nodup (["_law_number","_law_spec","_law_sent","_law_k"]:Α)from by decide +kernel) Z (Or.inl Z) (.inr Z)) qU))) (λ_ _ _ _=>(qw za (qF (ir (K:=K) Z) (qv 1) qf) (qF (ir (K:=K) Z) (qF (bA (K:=K) Z) (qv 2) (qv 3)) qf) (qu _))) (λ_ _ _ _=>(qv 0)))
   (qe (kL JI (qw (tO hr) (qv 4) (qT qb) (qu _))
   (qe (qx (i:=6) FH.nd Z (Or.inl Z) (qT qb))
   (qe (zn JI Z (ze (qv 4)) (Qf Z (qm (qh (i:=7) FH.nd Z (Or.inr Z)) (qm (qh (i:=8) FH.nd Z (Or.inl Z)) qU)))
   (qg (zn JI Z (ze (fq (own:=["_law_one"]) (fr:=["_law_late","_law_hearing"]) (js:=[3,7]) Z (ze (qv 5)) Z (kx Z Z) Z (j7 Z nofun nofun nofun Z Z Z Z Z Z) (λ_ _ _ _=>qh (i:=0) (show List.Nodup (["_law_one","_law_late","_law_hearing"]:Α)from by decide +kernel) Z (Or.inl Z) (.inr Z)) (λ_ _ _ _=>(zE (ql xK hr.mo (qd (qv 2) (qd (qv 0) (qd (qv 1) qb)))))) (λ_ _ _ _=>(qv 0)))) (qh (i:=9) FH.nd Z (Or.inl Z))
   (qe (qx (i:=10) FH.nd Z (Or.inl Z) (ql xL hr.mo (qd (qv 8) qb)))
   (qe (qx (i:=11) FH.nd Z (Or.inl Z) (ql xN hr.mo (qd (qv 0) (qd (qv 10) (qd (qF qG (qv 1) (qv 9)) qb)))))
   (qe (qK (QW.pt (Zr (qw za (qv 9) (qv 2) (qu _)) (Zg (qw za (qF zk (qv 11) qf) qk (qu _))))) (qg (qp (qo Zh (qv 7) (qy (qd (qv 9) qb))))) qB)
   (qg (qK (qw cS (qv 9) (qv 2) (qu _)) (qg (zG (QB J3 CT CU zH (qv 6) (qd (qy (qd (qo Zh (qv 7) (qy (qd (qv 9) qb))) (qd (qv 10) qb))) qb)))) qB))))))))
   (qg (qx (i:=4) FH.nd Z (Or.inl Z) (qv 6))))))
   (qg (qp zc)))))
  have z0:0<=ζ:=by decide
  refine#[z0,λt0 n2=>?_]
  have s1:=Fp.upd (o:= .tup []) n2
  have e1:(Ft H t0 (.tup [])) t0=↑(.tup []):=qc
  generalize Ft H t0 (.tup [])=H1 at s1 e1⊢
  have f3:=wk.same s1;refine#[0,wa.m,0,f3.g_known,wa.kd,D.kn,Z,f3.kb,wo.ok.nl,λS H2 s2 _ m2=>?_]
  refine#[Fd,λq1 l2=>?_]
  have s3:=Fp.upd (o:= .tup [.ref t0,.ref S]) l2
  have e3:(Ft H2 q1 (.tup [.ref t0,.ref S])) q1=↑(.tup [.ref t0,.ref S]):=qc
  generalize Ft H2 q1 (.tup [.ref t0,.ref S])=H3 at s3 e3⊢
  refine#[Fc,λly i2=>?_]
  have s4:=Fp.upd (o:= .lst [.ref q1]) i2
  have e4:(Ft H3 ly (.lst [.ref q1])) ly=↑(.lst [.ref q1]):=qc
  generalize Ft H3 ly (.lst [.ref q1])=H4 at s4 e4⊢
  have S4:=((s1.trans s2).trans s3).trans s4;have n1:Iw H4 (GS.st (Qk D ps) D.kn) [.ref q1] [[]]:=#[Z,λi v h g2 n7=>by
   cases i with
   |succ i=>cases g2
   |zero=>
    cases g2;cases n7
    exact#[q1,t0,S,Z,s4 _ _ e3,s4 _ _ (s3 _ _ (s2 _ _ e1)),(m2.same s3).same s4]]
  generalize hown:Qm ps (eW ps k)=own at *
  refine#[0,rl,Z,#[_,Fw.of (S4 _ _ er)],mC (K:=K) (xs:=as.map V.ref) (by rw[Jd,Jo];omega) (λi ys t=>Fp H4 t/\ys=qM ((List.range i).filter own)) #[Fp.refl _,Z] (λi ys t p=>Fw.of (p.1 _ _ (S4 _ _ er))) ?_ ?_]
  ·rintro i ys t p x M ⟨sx,rfl⟩ hp
   let#[b,hb,rfl]:∃b,as[i]? =↑b/\x= .ref b:=by
    rw[Jk]at M;let#[b,hb,e]:=C8.mp M
    exact#[b,hb,e.symm]
   have hi:i<ss.length:=by rw[<- la];exact(Jp.mp hb).1
   have g6:=Jg hi;have k1:=d1 i _ _ hb g6;have d4:=sx.trans (Fp.upd (o:= .tup [.int (i:Int),.ref b]) hp)
   have S5:=S4.trans d4;exists 0,b,2,FC.of (S5 _ _ k1),55,rl,15,.ref as[k],8,Fw.of (S5 _ _ er),zW (by rw[Jk,b7];rfl),as[k],2,FC.of (S5 _ _ d6),62
   have eo:own i=decide (ss[i].nm=ss[k].nm):=by
    rw[<- hown,f4];unfold Qm;rw[I,Jk,g6]
    show decide ((zw D ss[i]).nm=_)=_
    rw[kM]
   have m4:(List.range (i+1)).filter own=(List.range i).filter own++(if own i=true then [i]else []):=by
    rw[List.range_succ,List.filter_append];congr 1
    cases z:own i with
    |true=>rw[List.filter_cons,Jb z];rfl
    |false=>rw[List.filter_cons,Jc (by rw[z];decide)];rfl
   rw[m4,eo]
   by_cases hn:ss[i].nm=ss[k].nm
   ·refine zr (by rw[hn];exact Jh Z) ?_
    rw[Jh hn]
    exact#[0,d4,by unfold qM;rw[Jy];rfl]
   ·refine zI (Jj (by intro z;injection z with z;exact hn z)) ?_
    rw[Jj hn]
    exact#[d4,by rw[Jc ⋯,Dc]]
  rintro ys t ⟨sx,rfl⟩ ow h9
  rw[Jd,la]at *
  have s5:=Fp.upd (o:= .lst (qM ((List.range ss.length).filter own))) h9
  have e5:(Ft t ow (.lst (qM ((List.range ss.length).filter own)))) ow=↑(.lst (qM ((List.range ss.length).filter own))):=qc
  have S5:=sx.trans s5;generalize Ft t ow (.lst (qM ((List.range ss.length).filter own)))=H5 at S5 e5⊢
  have T5:=S4.trans S5;rw[<- l9]at e5;refine gY (λm σ t=>∃d lz vs o6 o7 o8 o9 oa ob,m+d=ss.length+2/\σ=[↑(.ref wa.m),↑(.ref rl),↑(.int (k:Int)),↑(.int (late:Int)),↑(.ref lz),↑(.ref ow),o6,o7,o8,o9,oa,ob]/\Fp H5 t/\t lz=↑(.lst vs)/\Iw t (GS.st (Qk D ps) D.kn) vs (GS.lev ps.length late k own d)/\∀J,J<d->(GS.lev ps.length late k own J).find? (GS.good late k (Qk D ps) (aN D ps k) D.kn)=none) (m0:=ss.length+2) #[(0),ly,45,by omega,Z,Fp.refl _,S5 _ _ e4,n1.same S5,λJ z=>by omega] ?_ ?_
  ·rintro m σ t ⟨d,lz,vs,o6,o7,o8,o9,oa,ob,o5,rfl,sx,L,lv,d5⟩
   refine#[0,z0,λle c3=>?_]
   have u1:=Fp.upd (o:= .lst []) c3
   exists lz,le,vs,8,Fw.of (u1 _ _ L),Fw.of qc,0
   replace sx:=sx.trans u1
   replace L:=u1 _ _ L
   replace lv:=lv.same u1
   generalize Ft t le (.lst [])=t at sx L lv⊢
   have b1:=T5.trans sx;have g9:=sx _ _ e5
   by_cases d3:vs=[]
   ·subst d3
    refine zg ?_
    have l1:GS.lev ps.length late k own d=[]:=List.eq_nil_of_length_eq_zero lv.1.symm
    refine q .non t none b1 Z (.inr #[λJ=>?_,Z])
    rw[hown]
    by_cases k2:J<d
    ·exact d5 J k2
    ·have:=GS.lev_stop ps.length late k own l1 (J-d)
     rw[show d+(J-d)=J by omega]at this
     rw[this];rfl
   ·refine zr (by cases vs with|nil=>exact absurd Z d3|cons _ _=>rfl) ?_
    refine#[z0,λlo f5=>?_]
    have s6:=Fp.upd (o:= .lst []) f5
    have e6:(Ft t lo (.lst [])) lo=↑(.lst []):=qc
    have n8:=lv.same s6;have Y:=s6 _ _ L;have S6:=b1.trans s6;have j1:=s6 _ _ g9;have X:∀c o,t c=↑o->c≠lo:=λc o z y=>by rw[y,f5]at z;cases z
    generalize Ft t lo (.lst [])=H6 at s6 e6 n8 Y S6 j1⊢
    refine#[0,lz,Z,#[_,Fw.of Y],Qa (K:=K) (xs:=vs) (λi σ Hy=>∃p7 p8 p9 pa pb lw,σ=[↑(.ref wa.m),↑(.ref rl),↑(.int (k:Int)),↑(.int (late:Int)),↑(.ref lz),↑(.ref ow),↑(.ref lo),p7,p8,p9,pa,pb]/\Mv [lo] H6 Hy/\Hy lo=↑(.lst lw)/\Iw Hy (GS.st (Qk D ps) D.kn) lw (((GS.lev ps.length late k own d).take i).flatMap (GS.kidsK ps.length late k own))/\∀j h,j<i->(GS.lev ps.length late k own d)[j]? =↑h->GS.good late k (Qk D ps) (aN D ps k) D.kn h=false) #[35,[],Z,Mv.refl,e6,#[Z,λi v h z=>by cases z],λj h z=>by omega] ?_ ?_ ?_]
    ·rintro i σ Hy _ ⟨_,_,_,_,_,_,_,m6,_⟩
     exact Fw.of (m6 _ _ (qE (X _ _ L)) Y)
    ·rintro i v σ Hy hv ⟨p7,p8,p9,pa,pb,lw,rfl,m6,b0,a5,G⟩
     have hi:i<(GS.lev ps.length late k own d).length:=by rw[<- lv.1];exact(Jp.mp hv).1
     have hh:=Jg hi;generalize hgh:(GS.lev ps.length late k own d)[i]=n at *
     have b3:n∈GS.full ps.length late own d:=(GS.lev_sub ps.length late k own d).subset (JG hh)
     let#[z1,k0]:=GS.nodup_of_full ps.length late own b3;have o2:=GS.len_full ps.length late own b3;have l6:=GS.rest_len List.nodup_range z1 (λo W=>JN.mpr (k0 o W))
     rw[List.length_range]at l6;have U:Fp t Hy:=λc o z=>m6 c o (qE (X c o z)) (s6 _ _ z)
     have Sy:=b1.trans U;let#[q2,th,kd,rfl,f1,b2,g7]:=lv.2 i v _ hv hh;have j0:=U _ _ f1;have i0:=U _ _ b2;have f6:(GS.st (Qk D ps) D.kn n).length<=60:=by
      have:=JH List.length (np D ps n)
      rw[Jd,Jd]at this;rw[this];exact wo.ok.nl
     exists q2,0,FC.of j0,9
     have g3:=U _ _ g9;refine#[0,ow,Z,#[_,Fw.of g3],f7 (K:=K) (xs:=qM ((List.range ps.length).filter own)) (by unfold qM;rw[Jd,Jo];have:=List.length_filter_le own (List.range ps.length);rw[List.length_range]at this;omega) (λj ys Hz=>Fp Hy Hz/\ys=qM ((((List.range ps.length).filter own).take j).filter λi=>decide (GS.fol late n i))) #[Fp.refl _,Z] (λj ys Hz p=>Fw.of (p.1 _ _ g3)) ?_ ?_]
     ·rintro j ys Hz x M ⟨sz,rfl⟩
      unfold qM at M;rw[Jk]at M;let#[o,W,rfl]:=C8.mp M;refine#[4,th,n,o,late,Z,sz _ _ i0,by omega,λH' s'=>#[0,?_]]
      have et:(((List.range ps.length).filter own).take (j+1)).filter (λi=>decide (GS.fol late n i))=(((List.range ps.length).filter own).take j).filter (λi=>decide (GS.fol late n i))++(if GS.fol late n o then [o]else []):=by
       rw[ZN W,List.filter_append];congr 1
       by_cases z:GS.fol late n o
       ·rw[Jb z];simp [z]
       ·rw[Jc z];simp [z]
      rw[et]
      by_cases z:GS.fol late n o
      ·refine zr (Jh z) ?_
       exact#[0,sz.trans s',by rw[Jb z];unfold qM;rw[Jy];rfl]
      ·refine zI (Jj z) ?_
       exact#[sz.trans s',by rw[Jc z,Dc]]
     rintro ys Hz ⟨sz,rfl⟩ fl c1
     rw[CZ (by unfold qM;rw[Jd];exact Je _)]
     let#[F,hF]:∃F:Ε,F=(((List.range ps.length).filter own).filter λi=>decide (GS.fol late n i)):=#[0]
     rw[<- hF];have s8:=Fp.upd (o:= .lst (qM F)) c1
     have e8:(Ft Hz fl (.lst (qM F))) fl=↑(.lst (qM F)):=qc
     have S8:=sz.trans s8;have l0:fl≠lo:=λy=>by rw[y]at c1;have:=sz _ _ b0;rw[c1]at this;cases this
     generalize Ft Hz fl (.lst (qM F))=H8 at s8 e8 S8⊢
     have l8:∀o∈F,o<ps.length/\own o=true/\GS.fol late n o:=λo W=>by
      rw[hF,J4,J4,JN,JB]at W
      exact#[W.1.1,W.1.2,W.2]
     have b6:GS.kidsK ps.length late k own n=(F.filter λi=>decide (i≠k)).map λi=>n++[i]:=by rw[GS.kidsK_eq,hF]
     have Q8:=Sy.trans S8;have h8:=S8 _ _ b0;have n0:∀c o,H c=↑o->c≠lo:=λc o z=>X c o (b1 _ _ z)
     refine#[fl,Z,#[_,Fw.of e8],Qa (K:=K) (xs:=qM F) (λj σ Hu=>∃p9 pa pb lu,σ=[↑(.ref wa.m),↑(.ref rl),↑(.int (k:Int)),↑(.int (late:Int)),↑(.ref lz),↑(.ref ow),↑(.ref lo),↑(.ref th),↑(.ref kd),p9,pa,pb]/\Mv [lo] H8 Hu/\Hu lo=↑(.lst lu)/\Iw Hu (GS.st (Qk D ps) D.kn) lu (((GS.lev ps.length late k own d).take i).flatMap (GS.kidsK ps.length late k own)++((F.take j).filter λi=>decide (i≠k)).map λi=>n++[i])/\(k∈F.take j->GS.good late k (Qk D ps) (aN D ps k) D.kn n=false)) #[30,lw,Z,Mv.refl,h8,by simpa using a5.same S8,λz=>by simp at z] ?_ ?_ ?_]
     ·rintro j σ Hu _ ⟨_,_,_,_,_,m9,_⟩
      exact Fw.of (m9 _ _ (qE l0) e8)
     ·rintro j x σ Hu M ⟨p9,l5,k8,lu,rfl,m9,a4,C,a8⟩
      unfold qM at M;rw[Jk]at M;let#[o,W,rfl]:=C8.mp M;let#[o4,o1,l7]:=l8 o (JG W)
      have c4:=ZN W;have Su:Fp H Hu:=λc u z=>m9 c u (qE (n0 c u z)) (Q8 _ _ z)
      have f2:∀c u,t c=↑u->Hu c=↑u:=λc u z=>m9 c u (qE (X c u z)) (S8 _ _ (U _ _ z))
      have b5:=f2 _ _ b2;have g0:=g7.same f2;have g1:=wk.same Su;have m1:=Su _ _ er;have e2:=Jg (show o<as.length by omega)
      have N:=Jg (show o<ss.length by omega)
      have g4:=Su _ _ (d1 o _ _ e2 N);have h7:ps[o]? =↑(zw D ss[o]):=(JH (λl:Τ=>l[o]?) I).trans (by rw[Jk,N];rfl)
      have d9:d<=9:=by omega
      have n3:=GS.levp_len ps.length late k own (F:=(F.take j).filter λi=>decide (i≠k)) (by omega) d9 hh (by rw[b6];exact((List.take_sublist _ _).filter _).map _)
      rw[<- C.1]at n3;refine#[0,kd,0,g0,f6,λkb Hc sc h5 l4=>?_]
      have m3:kb≠wa.m:=λz=>by have:=g1.di;rw[<- z,h5]at this;cases this
      refine#[10,rl,15,.ref as[o],8,Fw.of (sc _ _ m1),zW (by rw[Jk,e2];rfl),wa,kb,_,D,m7,_,ss[o],Z,g1.same sc,wo,l4,f6,m3,sc _ _ g4,l3 _ (JG N),λq3 H' m' d8 d7=>?_]
      have B:Fp Hu H':=λc u z=>m' _ _ (qE (qt z h5)) (sc _ _ z)
      let#[wd,rr,ew]:=pO {D with kn:=GS.st (Qk D ps) D.kn n} (zw D ss[o])
      rw[ew]at d8;have m5:GS.st (Qk D ps) D.kn (n++[o])=(qV {D with kn:=GS.st (Qk D ps) D.kn n} (zw D ss[o])).2:=by
       rw[GS.st_snoc]
       show(match ps[o]? with|some P=>(qV {D with kn:=GS.st (Qk D ps) D.kn n} P).2|none=>_)=_
       rw[h7]
      rw[<- m5]at d7;exists 19
      by_cases r:o=k
      ·refine zr (Jh (by rw[r])) ?_
       exists 0,q3,15,.str wd,8,FC.of d8,(show QQ (V.str wd::rr) ((0:Nat):Int)=_ from zW Z),14
       have g8:aN D ps k (GS.st (Qk D ps) D.kn n)=decide (wd="open"):=by
        unfold aN;rw[<- r,h7]
        show decide (lf (qV _ _).1="open")=_
        rw[ew];rfl
       by_cases a2:wd="open"
       ·refine zr (Jh (by rw[a2])) ?_
        have c2:GS.good late k (Qk D ps) (aN D ps k) D.kn n=true:=by
         unfold GS.good;rw[g8,Jh a2,Bool.and_true,JB,<- r];exact l7
        refine#[1,Fc,λtk O=>?_]
        have R:=Fp.upd (o:= .tup [.int (o:Int)]) O
        refine#[th,tk,qM n,[.int (o:Int)],8,R _ _ (B _ _ b5),qc,by unfold qM;rw[Jd,Jo];show n.length+1<=_;omega,λpv Hv sv a1=>?_]
        refine q (.ref pv) Hv ↑(n++[k]) (((Su.trans B).trans R).trans sv) #[pv,Z,by rw[a1,<- r];unfold qM;rw[Jy];rfl] (.inl #[d,n,?_,?_,Z])
        ·rw[hown];exact d5
        ·rw[hown];exact GS.find_at hh c2 G
       ·refine zI (Jj (by intro z;injection z with z;exact a2 z)) ?_
        exists 19
        refine zI (by rw[r];simp) ?_
        refine#[30,lu,Z,m9.trans B.mv,B _ _ a4,?_,λ_=>?_]
        ·rw[c4,List.filter_append]
         have:[o].filter (λi=>decide (i≠k))=[]:=by simp [r]
         rw[this,Dc];exact C.same B
        ·unfold GS.good
         rw[g8,Jj a2,Bool.and_false]
      ·refine zI (Jj (by intro z;injection z with z;exact r (by omega))) ?_
       exists 19
       refine zr (by rw[Jj (by intro z;injection z with z;exact r (by omega))];rfl) ?_
       have b4:=B _ _ a4;refine#[0,.inl #[37,Fw.of b4],1,Fc,λtk O=>?_]
       have R:=Fp.upd (o:= .tup [.int (o:Int)]) O
       refine#[th,tk,qM n,[.int (o:Int)],8,R _ _ (B _ _ b5),qc,by unfold qM;rw[Jd,Jo];show n.length+1<=_;omega,λpv Hv sv a1=>?_]
       refine#[0,Fd,λq4 i1=>?_]
       have c0:=Fp.upd (o:= .tup [.ref pv,.ref kb]) i1
       have f0:(Ft Hv q4 (.tup [.ref pv,.ref kb])) q4=↑(.tup [.ref pv,.ref kb]):=qc
       have S4':=(R.trans sv).trans c0;have a3:=S4' _ _ b4;have g5:=c0 _ _ a1;have h6:=d7.same S4';have e0:=(C.same B).same S4';have Sw:=B.trans S4';generalize Ft Hv q4 (.tup [.ref pv,.ref kb])=He at S4' c0 f0 a3 g5 h6 e0 Sw⊢
       exists lo,lu,32,a3,by rw[Jo];omega
       refine#[36,(m9.trans Sw.mv).trans Mv.upd1,qc,?_,λz=>?_]
       ·rw[c4,List.filter_append]
        have:[o].filter (λi=>decide (i≠k))=[o]:=by simp [r]
        rw[this,Jy,<- Dy];refine(e0.push a3).snoc (HL.push #[q4,pv,kb,Z,f0,?_,h6] a3 C.rfs)
        rw[g5];unfold qM;rw[Jy];rfl
       ·refine a8 ?_
        rw[c4,JK,Jn]at z;exact z.resolve_right (λy=>r y.symm)
     ·rintro σ Hu ⟨p9,l5,k8,lu,rfl,m9,a4,C,a8⟩
      rw[show(qM F).length=F.length by unfold qM;exact Jd _,Dh]at C a8
      rw[<- b6,GS.levp_next ps.length late k own hh]at C;refine#[35,lu,Z,?_,a4,C,λj h hj d2=>?_]
      ·exact(m6.trans S8.mv).trans m9
      ·rcases Nat.lt_or_ge j i with h1|h1
       ·exact G j h h1 d2
       ·obtain rfl:j=i:=by omega
        rw[hh]at d2;cases d2
        by_cases z:k∈F
        ·exact a8 z
        ·unfold GS.good
         rw[Bool.and_eq_false_iff];refine .inl (Jj λy=>z ?_)
         rw[hF,J4,J4,JN];refine#[#[by omega,?_],Jh y]
         rw[<- hown,f4];unfold Qm;rw[I,Jk,a0];exact Jh (kM D _)
    ·rintro σ Hy ⟨p7,p8,p9,pa,pb,lw,rfl,m6,b0,a5,G⟩
     rw[lv.1,CZ (Je _)]at a5;have d0:(GS.lev ps.length late k own d).find? (GS.good late k (Qk D ps) (aN D ps k) D.kn)=none:=GS.find_no λj x hj M=>G j x (by rw[lv.1];exact hj) M
     have o0:d<=ss.length:=by
      rcases Nat.lt_or_ge ss.length d with z|z
      ·have:=GS.full_end ps.length late own (d:=d) (by omega)
       have h0:=GS.lev_sub ps.length late k own d;rw[this]at h0;have h1:=List.sublist_nil.mp h0;exact absurd (List.eq_nil_of_length_eq_zero (by rw[lv.1,h1];rfl)) d3
      ·exact z
     refine#[0,m-1,by omega,d+1,lo,lw,38,by omega,Z,?_,b0,a5,λJ o3=>?_]
     ·intro c o z
      have z1:=sx _ _ z;exact m6 _ _ (qE (X _ _ z1)) (s6 _ _ z1)
     ·rcases Nat.lt_or_ge J d with z|z
      ·exact d5 J z
      ·obtain rfl:J=d:=by omega
       exact d0
  ·intro σ H' Q1 Q2 g hh
   let#[v,hv,z0,hh]:=hh;refine#[v,hv,z0,λle c3=>?_]
   let#[a,b,xs,h1,h2,h3,h4,v',a1,z]:=hh le c3
   exact#[a,b,xs,h1,h2,h3,h4,v',a1,g _ _ z]
end
section
variable{P:Ξ}{w:Ω}{K:ι}{mg:Fn}{base:Ψ}{tk:Nat->Tok}{C:Δ}
theorem ce(a:HJ K C "plain_step" "Door.plain_step" Qq ["self","button","age","count"])(T:F3 K mg tk)(U:GB K C)(m:Mf P w K mg base C "takes_from" X9 2 (cQ K C))(j:Df P w K mg base "step_by" X4 2 iG):Mf P w K mg base C "plain_step" x5 3 (fI K C):=by
 refine a.mq ZM λf _ A _ s H o Q E i h=>?_
 ·let#[p,ta,hk,bd,lg,x,n,D,e,age,c,rfl,b,g,q]:=h
  exists _,(qe (qK (QH (zE (zp m U.cl i.mo (qv 0) (qd (qv 1) (qd (qv 2) qb))))) (qg (qp (qy (qd qk (qd (qv 1) qb))))) qB)
   (qg (qp (ql j i.mo (qd (qv 1) (qd (qv 2) (qd (qv 3) (qd (zb (qv 0)) (qd (zb (qv 0)) qb)))))))))
  exists 0,p,Z,b.no,1,p,ta,hk,bd,lg,x,n,D,e,age,Z,b,g,0
  unfold zU at q;cases ht:zm D e age with
  |false=>
   rw[ht,Jc (by intro z;cases z)]at q
   refine zQ #[0,Fd,λl d=>?_]
   exact q l x _ (Fp.upd d) qc (g.same (Fp.upd d))
  |true=>
  rw[ht,Jb Z]at q;refine zg ?_
  exact#[10,p,0,b.h_near U,0,p,0,b.h_far U,x,e,age,c,D.near,D.far,Z,g,q]
end
section
variable{P:Ξ}{w:Ω}{K:ι}{mg:Fn}{base:Ψ}{tk:Nat->Tok}{C:Δ}
structure IV(K:ι)(H:Hp)(D:Dr)(rl pl:Δ)(ss:List Sc):Prop where
 sl:Ho H rl ss
 ps:HY H pl (ss.map (zw D))
 ok:∀s∈ss,GP D s
 ln:ss.length<=9
theorem IV.same{H H':Hp}{D:Dr}{rl pl:Δ}{ss:List Sc}(r:IV K H D rl pl ss)(s:Fp H H'):IV K H' D rl pl ss:=#[r.sl.same s,r.ps.same s,r.ok,r.ln]
theorem wN{H:Hp}{v a:V}{o:Option Ε}(h1:G6 H v o)(h2:G6 H a o)(hl:∀h,o=↑h->h.length<=100):HI H 4 v a:=by
 cases o with
 |none=>rw[show v=V.non from h1,show a=V.non from h2];exact .non _
 |some h=>
  let#[q,rfl,c]:=h1;let#[f,rfl,d]:=h2;have e:qM h=(h.map λn:Nat=>(n:Int)).map V.int:=by unfold qM;rw[JW];rfl
  rw[e]at c d;exact HI.ints (.inl c) (.inl d) (by rw[Jd,Jo];have:=hl h Z;omega)
theorem G6.same{H H':Hp}{v:V}{o:Option Ε}(h:G6 H v o)(s:Fp H H'):G6 H' v o:=by
 cases o with
 |none=>exact h
 |some x=>let#[q,e,a]:=h;exact#[q,e,s _ _ a]
theorem sB{D:Dr}{ps:Τ}{late k:Nat}{o:Option Ε}(h:gW D ps late k o)(hp:ps.length<=9):∀x,o=↑x->x.length<=100:=by
 rintro x rfl
 rcases h with⟨d,g,_,h,e⟩|⟨_,e⟩
 ·cases e
  have c:=(GS.lev_sub ps.length late k (Qm ps (eW ps k)) d).subset (List.mem_of_find?_eq_some h);let#[a,f]:=GS.nodup_of_full ps.length late (Qm ps (eW ps k)) c
  have:=GS.rest_len List.nodup_range a (λo i=>JN.mpr (f o i))
  rw[List.length_range]at this;rw[Jx]
  show g.length+1<=100
  omega
 ·cases e
theorem Bv{f:Δ}{fd:FuncData}(F:IC K "law" "law" Z3 f fd)(T:F3 K mg tk)(U:GB K C)(xA:Df P w K mg base "_law_box" W7 1 (jZ K))(dA:Df P w K mg base "_law_take" x4 1 QK)(xW:Df P w K mg base "_law_begun" W6 9 (iR K C))(xB:Df P w K mg base "_law_stands" ["_law_door_here"] 2 (gi K C))(xF:Df P w K mg base "_law_other_row" X7 5 (jc K))(xX:Df P w K mg base "_law_least" X5 2 (iQ K))(xY:Df P w K mg base "may_open" ["door","row","k","late"] 9 (n9 K C))(yK:∀n:Nat,n<=8->Df P w K mg base "_law_same" ["_law_found","_law_due"] (n+1) (AS n)):GN P w K mg base Z6 11 f fd ["_law_script"] (jO K):=by
 have xC:=yK 4 ⋯
 refine F.dq FX (λvs H Q E h=>?_) (λcdv A e1 s H vs Q E u h=>?_)
 ·let#[x,ns,rfl,_]:=h
  rfl
 ·let#[sc,ns,rfl,hS,g4,q]:=h
  exists _,(qe (zn JI Z (Qs Z T.b_range (qd (qo qH qf (qr (aO Z) T.b_min PyProof.Rows.boot_min (qd qf (qd (qr qL T.b_len JM (qd (qv 0) qb)) qb)))) qb)) (qh (i:=1) FX.nd Z (Or.inl Z))
   (qe (qx (i:=2) FX.nd Z (Or.inl Z) (ql xA u.mo (qd (qv 0) (qd (qo qH qf (qv 1)) qb))))
   (qe (qx (i:=3) FX.nd Z (Or.inl Z) (qF qG (qT (qd qf (qd qf (qd qf (qd qf (qd qf qb)))))) (ql dA u.mo (qd (qv 2) (qd qf qb)))))
   (qe (zj (ql xW u.mo (qd (qv 0) (qd (qv 1) (qd (qF qG (qT (qd qf (qd qf qb))) (qN jg T.b_int Ec (qd (zx za (qv 3) qf (qu _)) qb))) qb)))) (Qf Z (qm (qh (i:=2) FX.nd Z (Or.inl Z)) (qm (qh (i:=4) FX.nd Z (Or.inl Z)) (qm (qh (i:=5) FX.nd Z (Or.inl Z)) (qm (qh (i:=6) FX.nd Z (Or.inl Z)) (qm (qh (i:=7) FX.nd Z (Or.inl Z)) qU)))))))
   (qe (qx (i:=8) FX.nd Z (Or.inl Z) (ql xB u.mo (qd (qv 5) qb)))
   (qe (zj (ql xF u.mo (qd (qv 2) (qd (qv 4) (qd qf qb)))) (Qf Z (qm (qh (i:=9) FX.nd Z (Or.inl Z)) (qm (qh (i:=10) FX.nd Z (Or.inl Z)) qU))))
   (qg (zn JI Z (Qs Z T.b_range (qd (qr (aE Z) T.b_max Ey (qd (qr (bY (K:=K) Z) T.b_len JM (qd (qv 7) qb)) (qd (qr qL T.b_len JM (qd (qv 10) qb)) qb))) qb)) (qh (i:=11) FX.nd Z (Or.inl Z))
   (qg (zn JI Z (gU (qy (qd (qy (qd (qv 6) (qd (qv 7) qb))) (qd (qy (qd (qv 9) (qd (qv 10) qb))) qb)))) (Qf Z (qm (qh (i:=12) FX.nd Z (Or.inl Z)) (qm (qh (i:=13) FX.nd Z (Or.inl Z)) qU)))
   (qg (qK (qw cZ (qv 11) (qr qL T.b_len JM (qd (qv 13) qb)) (qu _)) (qe (qx (i:=14) FX.nd Z (Or.inl Z) (ql xX u.mo (qd (qv 4) (qd (qv 12) (qd (qv 11) (qd (qv 3) qb))))))
   (qg (qK (QW.pt (Q7 (QH (zE (ql xC u.mo (qd (ql xY u.mo (qd (qv 5) (qd (qv 13) (qd (qv 11) (qd (qv 3) qb))))) (qd (qv 14) qb))))) (QZ (qw (Ag u) (ql xB u.mo (qd (qv 5) qb)) (qv 8) (qu _))))) (qg (qp bW)) qB))) qB))))))))))))
   (qg (qp bW)))
  exists 0,sc,0,.inl hS,58,?_,?_
  ·split<;>omega
  ·split<;>omega
  refine ZP (Pv:=λi σ Hx=>Fp H Hx/\∃(o1 o2 o3 o4 o5 o6 o7 o8 o9 oa ob oc od oe:Μ),σ=[↑(.ref sc),o1,o2,o3,o4,o5,o6,o7,o8,o9,oa,ob,oc,od,oe]) #[Fp.refl _,25] ?_ ?_
  ·rintro k σ Hx hk ⟨sx,o1,o2,o3,o4,o5,o6,o7,o8,o9,oa,ob,oc,od,oe,rfl⟩
   have g9:k<6:=by
    refine JQ hk ?_
    split<;>omega
   refine#[13,sc,ns,40+k,(by rw[show(40:Int)+(0+(k:Int))=((40+k:Nat):Int) by omega];rfl),sx.seq hS,by omega,λb0 H1 d3 s1 a3=>?_]
   refine#[Fg,λll a1=>?_]
   have u1:=Fp.upd (o:= .lst [.int 0,.int 0,.int 1,.int 2,.int 3]) a1
   refine#[0,b0,5,(u1.grc a3).bx,by omega,⋯,⋯,λr H2 r0 r1 g2=>?_]
   have f4:Hx b0=none:=d3
   have S2:Fp Hx H2:=ff f4 (s1.trans u1) g2
   have f1:ll≠b0:=λe=>by
    let#[x,y,z,eb,_]:=id a3;rw[e,eb]at a1;cases a1
   have d4:=g2.kp _ _ f1 (qc (H:=H1) (a:=ll) (o:= .lst [.int 0,.int 0,.int 1,.int 2,.int 3]))
   let#[late,a0,a2]:∃late:Nat,QQ [V.int 0,.int 0,.int 1,.int 2,.int 3] r=↑(.int (late:Int))/\late<=3:=by
    have h5:r=0\/r=1\/r=2\/r=3\/r=4:=by omega
    rcases h5 with rfl|rfl|rfl|rfl|rfl
    ·exact#[(0),Z,by omega]
    ·exact#[(0),Z,by omega]
    ·exact#[(1),Z,by omega]
    ·exact#[(2),Z,by omega]
    ·exact#[(3),Z,by omega]
   exists ll,15,.int (late:Int),8,Fw.of d4,a0
   refine#[1,Fd,λl6 d1=>?_]
   have u3:=Fp.upd (o:= .lst [.int 6,.int 9]) d1
   have b6:(Ft H2 l6 (.lst [.int 6,.int 9])) l6=↑(.lst [.int 6,.int 9]):=qc
   have S3:=S2.trans u3;generalize Ft H2 l6 (.lst [.int 6,.int 9])=H3 at u3 b6 S3⊢
   refine#[32,.inr #[0,?_]]
   let#[d,X,h6]:∃d:Nat,QQ [V.int 6,.int 9] (if decide (V.int (late:Int)=V.int 0)=true then 1 else 0)=↑(.int (d:Int))/\d<=9:=by
    by_cases z:decide (V.int (late:Int)=V.int 0)=true
    ·rw[Jb z];exact#[(9),Z,by omega]
    ·rw[Jc z];exact#[(6),Z,by omega]
   exists l6,15,.int (d:Int),8,Fw.of b6,X
   have N:=sx.trans S3;refine#[sc,ns,k,d,by simp,N.seq hS,by omega,by omega,λq1 b rl pl wa G D L b7 ss H4 s4 d0 fb bx wk wo dl hL f3 sl pL d2 h7=>#[q1,0,FC.of d0,12,?_]]
   refine#[0,G,D,L,Z,dl,wo.ok,λqa H5 s5 st=>?_]
   have t:=(s5.grc bx).bx;refine#[1,b,wa,(1000),(4),D,b7,Z,t,by omega,wk.same s5,wo,⋯,λq2 g c a5 H6 g6 g8 g7 c3 f2 d7 c0 g5=>#[q2,0,FC.of c3,9,?_]]
   have c2:H b=none:=ZB fb N
   have S6:Fp H H6:=ff c2 (N.trans (s4.trans s5)) g6
   have Hm:=(wk.same s5).grc t g6;have d8:=(dl.same s5).grc t g6 f3;have c4:=st.grc t g6;have ra:IV K H6 D rl pl ss:=#[(sl.same s5).grc t g6,(pL.same s5).grc t g6,d2,by omega]
   have rb:IV K H6 D g c a5:=#[f2,d7,c0,by omega]
   let#[ap,ep,e5,_]:=id ra.ps;let#[h3,g3,b1,_]:=id rb.ps;have h4:=ra.ln;have h0:=rb.ln;rw[Jd]at e5 b1;exists 0,pl,0,.inl (Fw.of ep),0,c,0,.inl (Fw.of g3),_,_,Z,_,Z,?_,?_
   ·simp only[Jd];split<;>omega
   ·simp only[Jd];split<;>omega
   refine ZP (Pv:=λi σ Hy=>Fp H6 Hy/\∃(Y j l m:Μ),σ=[↑(.ref sc),↑(.int (0+(k:Int))),↑(.ref b),↑(.int (late:Int)),↑(.ref wa.m),↑(.ref G.p),↑(.ref rl),↑(.ref pl),↑(.ref qa),↑(.ref g),↑(.ref c),Y,j,l,m]) #[Fp.refl _,36] ?_ ?_
   ·rintro nr σ Hy h9 ⟨sy,Y,j,l,m,rfl⟩
    refine#[1,Fd,λB e3=>#[1,Fd,λI f0=>#[Fd,λt3 d5=>?_]]]
    have v1:=Fp.upd (o:= .tup [.ref rl,.ref pl]) e3
    have v2:=Fp.upd (o:= .tup [.ref g,.ref c]) f0
    have v3:=Fp.upd (o:= .tup [.ref B,.ref I]) d5
    have b2:=v3 _ _ (v2 _ _ (qc (H:=Hy) (a:=B) (o:= .tup [.ref rl,.ref pl])))
    have a4:=v3 _ _ (qc (H:=Ft Hy B (.tup [.ref rl,.ref pl])) (a:=I) (o:= .tup [.ref g,.ref c]))
    have S:(Ft (Ft (Ft Hy B (.tup [.ref rl,.ref pl])) I (.tup [.ref g,.ref c])) t3 (.tup [.ref B,.ref I])) t3=↑(.tup [.ref B,.ref I]):=qc
    have V3:=(v1.trans v2).trans v3;generalize Ft (Ft (Ft Hy B (.tup [.ref rl,.ref pl])) I (.tup [.ref g,.ref c])) t3 (.tup [.ref B,.ref I])=H7 at v3 b2 a4 S V3⊢
    have S7:=sy.trans V3;refine#[t3,Z,#[_,FC.of S],ni (K:=K) (xs:=[.ref B,.ref I]) (λi σ Hz=>Fp H7 Hz/\∃(j l m:Μ),σ=[↑(.ref sc),↑(.int (0+(k:Int))),↑(.ref b),↑(.int (late:Int)),↑(.ref wa.m),↑(.ref G.p),↑(.ref rl),↑(.ref pl),↑(.ref qa),↑(.ref g),↑(.ref c),↑(.int (0+(nr:Int))),j,l,m]) #[Fp.refl _,20] (λi σ Hz _ p=>FC.of (p.1 _ _ S)) ?_ ?_]
    ·rintro i x σ Hz hx ⟨sz,j,l,m,rfl⟩
     have Sz:=S7.trans sz;let#[tt,rr,pp,O,rfl,g0,J]:∃tt rr pp O,x= .ref tt/\Hz tt=↑(.tup [.ref rr,.ref pp])/\IV K Hz D rr pp O:=by
      match i,hx with
      |0,hx=>cases hx;exact#[B,rl,pl,ss,Z,sz _ _ b2,ra.same Sz]
      |1,hx=>cases hx;exact#[I,g,c,a5,Z,sz _ _ a4,rb.same Sz]
     have g1:=Hm.same Sz;have f6:=d8.same Sz;exists tt,0,FC.of g0,9
     let#[az,ez,R,hz]:=id J.ps;rw[Jd]at R;exists 1,pp,0,.inl (Fw.of ez),23
     by_cases M:nr<O.length
     ·refine zr (Jh (by rw[Jd,R];omega)) ?_
      have d6:=Jg M;refine#[10,wa,rr,D,b7,O,nr,late,(by simp),g1,wo,J.sl,J.ok,J.ln,M,a2,λv H8 o s8 hv hL=>?_]
      have b4:=f6.same s8;have e6:=J.same s8;let#[a8,e8,d9,h8]:=id e6.ps;refine#[10,G.p,G.ta,G.hk,G.bd,G.lg,pp,L.length,D,O.map (zw D),nr,late,(by simp),b4.dr,wo.ok,#[a8,.inl (Fw.of e8),d9,λi p P h1 h2=>#[h8 i p P h1 h2,?_]],by rw[Jd];exact J.ln,by rw[Jd];exact M,a2,λv2 H9 o2 s9 e4 hM=>?_]
      ·rw[Jk]at h2
       let#[s,f5,rfl]:=C8.mp h2;exact fP (J.ok s (JG f5)) wo.ok.tp
      have hP:(O.map (zw D))[nr]? =↑(zw D O[nr]):=by rw[Jk,d6];rfl
      obtain rfl:=sf hP (hM _ hP) hL
      have e2:=sB hL (by rw[Jd];exact J.ln)
      refine#[_,Z,_,_,Z,wN e4 (G6.same hv s9) e2,λH10 b3=>#[0,zg ?_]]
      have c1:=(b4.same s9).same b3;refine#[0,G,D,L,Z,c1,wo.ok,λq6 H11 e0 b5=>?_]
      have W:=((s8.trans s9).trans b3).trans e0
      exact#[0,(6),⋯,b5.eqk ((c4.same Sz).same W) (by omega),0,zg #[sz.trans W,20]]
     ·refine zI (Jj (by rw[Jd,R];omega)) ?_
      exact#[sz,20]
    ·rintro σ Hz ⟨sz,j,l,m,rfl⟩
     exact#[S7.trans sz,36]
   ·rintro σ Hy ⟨sy,Y,j,l,m,rfl⟩
    exact#[S6.trans sy,25]
  ·rintro σ Hx ⟨sx,o1,o2,o3,o4,o5,o6,o7,o8,o9,oa,ob,oc,od,oe,rfl⟩
   exact q _
end
theorem y8{l:W.OpenLaw}{w:Ω}{K:ι}{h:Ψ}{mg:Fn}{fa:Δ}(X:K.In h)(G:h.Ns η mg)(R:mg "law"=↑(.ref fa))
  {C:Δ}
  (q:W.nsIn K η "Door"=↑(↑(.ref C)))
  (Q:W.plainGet K C Str.empty=true)
  (H:W.hasDictIn K C=true)
  (E:W.plainOver K C=true)
  (B:W.findIn K (.ref C) "__setattr__"=↑(↑(.builtin "object.__setattr__")))
  (p:W.makesIn K C=true)
  (u:W.keepIn K (.ref C)=true)
  (Fa:W.findIn K (.ref C) "table"=↑none)
  (pi:W.findIn K (.ref C) "house_keys"=↑none)
  (Fm:W.findIn K (.ref C) "near"=↑none)
  (Fz:W.findIn K (.ref C) "far"=↑none)
  (Fr:W.findIn K (.ref C) "most"=↑none)
  (Db:W.findIn K (.ref C) "least_age"=↑none)
  (Dn:W.findIn K (.ref C) "buttons"=↑none)
  (Fs:W.findIn K (.ref C) "log"=↑none)
  (A0:Ac K mg "is_number" aQ)
  (A1:Ac K mg "is_digit" bK)
  (A2:Ac K mg "are_digits" aj)
  (A3:Ac K mg "back_table" ar)
  (A4:Ac K mg "coded" iD)
  (A5:Ac K mg "decoded" cw)
  (A6:Ac K mg "is_name" cB)
  (A7:Ac K mg "is_code" cN)
  (A8:Ac K mg "is_press" bH)
  (A9:Ac K mg "letter_digits" Zw)
  (A10:Ac K mg "key_of" e9)
  (A11:Ac K mg "count_digits" ZD)
  (A12:Ac K mg "press_of" bM)
  (A13:Ac K mg "read_press" ao)
  (A14:Ac K mg "word_of" cK)
  (A15:Ac K mg "step_by" cr)
  (A16:HM K C "__init__" "Door.__init__" Q4)
  (A17:HM K C "is_full" "Door.is_full" ZG)
  (A18:HM K C "button_of" "Door.button_of" Ze)
  (A19:HM K C "takes_age" "Door.takes_age" Zf)
  (A20:HM K C "takes_from" "Door.takes_from" QV)
  (A21:HM K C "plain_step" "Door.plain_step" Qq)
  (A22:HM K C "answer_to" "Door.answer_to" Zb)
  (A23:HM K C "hear" "Door.hear" be)
  (A24:HM K C "read_right" "Door.read_right" QR)
  (A25:HM K C "learn" "Door.learn" ag)
  (A26:HM K C "close_below" "Door.close_below" QD)
  (A27:HM K C "known_now" "Door.known_now" Zd)
  (A28:HM K C "closed_now" "Door.closed_now" QU)
  (A29:HM K C "log_now" "Door.log_now" ZH)
  (A30:Ac K mg "opens" iu)
  (A31:Ac K mg "button_behind" Zy)
  (A32:Ac K mg "plain_press" ZU)
  (A33:Ac K mg "plain_row" aR)
  (A34:Ac K mg "presses_of" aB)
  (A35:Ac K mg "numbers_next" ZF)
  (A36:Ac K mg "recent_with" ZS)
  (A37:Ac K mg "ways_on" cv)
  (A38:Ac K mg "may_open" bJ)
  (A39:Ac K mg "_law_box" cz)
  (A40:Ac K mg "_law_take" bw)
  (A41:Ac K mg "_law_table" ba)
  (A42:Ac K mg "_law_key" cH)
  (A43:Ac K mg "_law_names" aU)
  (A44:Ac K mg "_law_world" aT)
  (A45:Ac K mg "_law_press" aZ)
  (A46:Ac K mg "_law_door" bt)
  (A47:Ac K mg "_law_answer" ai)
  (A48:Ac K mg "_law_copy" bX)
  (A49:Ac K mg "_law_row" cM)
  (A50:Ac K mg "_law_follows" ZQ)
  (A51:Ac K mg "_law_same" bz)
  (A52:Ac K mg "_law_other_row" Zs)
  (A53:Ac K mg "_law_stands" al)
  (A54:Ac K mg "_law_begun" aW)
  (A55:Ac K mg "_law_least" a9)
  {n:Δ}{r j:Υ}{o:Array Ν}{t g d m a c:Γ}
  (D:W.nsIn K η "law"=↑(↑(.ref n)))
  (a3:K.lookup n=some #[t,r,.func (W.fnOf "law" "law" (Qx Z3) (zO Z3) (qj Z3) .none g d m j a c),o])
  (a2:W.codeIn K a "law"=true)
  (J:W.keepIn K (.ref n)=true)
  {t0:Tok}
  (S:W.nsIn K η "DIGITS"=↑(↑(.int 16 t0)))
  {t1:Tok}
  (L:W.nsIn K η "KEY_PLACES"=↑(↑(.int 4 t1)))
  {t2:Tok}
  (F:W.nsIn K η "LONGEST_NAME"=↑(↑(.int 8 t2)))
  {t3:Tok}
  (a8:W.nsIn K η "CODE_DIGITS"=↑(↑(.int 5 t3)))
  (z0:W.nsIn K η "isinstance"=↑none)
  (z1:W.nsIn K η "bool"=↑none)
  (z2:W.nsIn K η "int"=↑none)
  (z3:W.nsIn K η "tuple"=↑none)
  (z4:W.nsIn K η "all"=↑none)
  (z5:W.nsIn K η "len"=↑none)
  (z6:W.nsIn K η "abs"=↑none)
  (z7:W.nsIn K η "list"=↑none)
  (z8:W.nsIn K η "enumerate"=↑none)
  (z9:W.nsIn K η "range"=↑none)
  (a1:W.nsIn K η "max"=↑none)
  (A:W.nsIn K η "min"=↑none)
  (a4:W.nsIn K η "str"=↑none)
  (M:W.nsIn K η "zip"=↑none)
  (Y:W.nsIn K η "ord"=↑none)
  (b0:W.nsIn K η "sum"=↑none)
  (a5:W.nsIn K η "reversed"=↑none)
  (y:W.nsIn K η "sorted"=↑none)
  (a0:W.nsIn K η "dict"=↑none):
  ∃fd:FuncData,(∀(s:Θ) (v:Γ),BindsTo s fd #[[v],[]] [("_law_script",v)])/\∀base:Ψ,K.In base->base.Ns η mg->GN l.prog w K mg base Z6 11 fa fd ["_law_script"] (jO K):=by
 have e:=R.symm.trans (Do X G D);cases e;have T:F3 K mg (λi=>if i=0 then t0 else if i=1 then t1 else if i=2 then t2 else if i=3 then t3 else 0):=#[Do X G S,Do X G L,Do X G F,Do X G a8,JU X G z0,JU X G z1,JU X G z2,JU X G z3,JU X G z4,JU X G z5,JU X G z6,JU X G z7,JU X G z8,JU X G z9,JU X G a1,JU X G A,JU X G a4,JU X G M,JU X G Y,JU X G b0,JU X G a5,JU X G y,JU X G a0]
 refine#[W.fnOf "law" "law" (Qx Z3) (zO Z3) (qj Z3) .none g d m j a c,λs v=> .of_eq Z,λbase _ _=>?_]
 have U:GB K C:=#[#[Q,H,E,B],Fa,pi,Fm,Fz,Fr,Db,Dn,Fs]
 have dO:=j9 (P:=l.prog) (w:=w) (base:=base) A0.at T
 have x8:=mD A1.at T dO
 have xM:=jD A2.at T x8
 have xP:=jH (P:=l.prog) (w:=w) (base:=base) A3.at T
 have x:=vL (P:=l.prog) (w:=w) (base:=base) A4.at T
 have yF:=oU A5.at T xP
 have yB:=pE (P:=l.prog) (w:=w) (base:=base) A6.at T
 have yD:=pw A7.at T xM
 have dQ:=mQ A8.at T yB dO yD
 have xD:=fJ (P:=l.prog) (w:=w) (base:=base) A9.at T
 have O:=rc A10.at T xD x
 have xG:=gT (P:=l.prog) (w:=w) (base:=base) A11.at T
 have xZ:=mL A12.at T xG O x
 have dL:=jB A13.at T O yF
 have yC:=pe (P:=l.prog) (w:=w) (base:=base) A14.at T
 have dZ:=ph A15.at T yC
 have A16:=A16.at (ps:=X0)
 have yI:=hZ (P:=l.prog) (w:=w) (base:=base) A16 T U
 have yG:=yI.mi p u (Do X G q);have yJ:=(fW (P:=l.prog) (w:=w) (base:=base) A16 T U).mi p u (Do X G q)
 have xH:=fX (P:=l.prog) (w:=w) (base:=base) A17.at T U
 have N:=du (P:=l.prog) (w:=w) (base:=base) A18.at T U
 have dH:=eu (P:=l.prog) (w:=w) (base:=base) A19.at T U
 have I:=cE A20.at T U dH
 have A21:=A21.at (ps:=x5)
 have dE:=cF A21 T U I dZ;have G_Door_plain_step:=ce A21 T U I dZ;have dW:=dz A22.at T U N I dE dL
 have xU:=lK A23.at T U dQ dW
 have dD:=cn A24.at T U dQ dH dL
 have xQ:=jE A25.at T U dD xH
 have dP:=ca (P:=l.prog) (w:=w) (base:=base) A26.at T U
 have dX:=ef (P:=l.prog) (w:=w) (base:=base) A27.at T U
 have dU:=cm (P:=l.prog) (w:=w) (base:=base) A28.at T U
 have xI:=gt (P:=l.prog) (w:=w) (base:=base) A29.at T U
 have yH:=uz (P:=l.prog) (w:=w) (base:=base) A30.at T U G_Door_plain_step
 have xE:=fB (P:=l.prog) (w:=w) (base:=base) A31.at T U G_Door_plain_step
 have dJ:=im A32.at T U dD N
 have xT:=kW A33.at T U dJ
 have xO:=jI (P:=l.prog) (w:=w) (base:=base) A34.at T
 have dI:=gO (P:=l.prog) (w:=w) (base:=base) A35.at T
 have xJ:=ik (P:=l.prog) (w:=w) (base:=base) A36.at T
 have yA:=pH A37.at T U dI xE xJ
 have xY:=mz A38.at T U dJ xT xO N yH dI yA
 have xA:=oX (P:=l.prog) (w:=w) (base:=base) A39.at T
 have f:=mE (P:=l.prog) (w:=w) (base:=base) A40.at T
 have xV:=j6 A41.at T f
 have yE:=pN A42.at T f
 have xS:=lW A43.at T f
 have xR:=kJ A44.at T f xV yE xS
 have z:=kR A45.at T xZ O x
 have x6:=mI A46.at T U yJ xQ xU dP z
 have xN:=jK (P:=l.prog) (w:=w) (base:=base) A47.at T
 have xL:=my (P:=l.prog) (w:=w) (base:=base) A48.at T
 have dY:=pF A49.at T f
 have xK:=ij (P:=l.prog) (w:=w) (base:=base) A50.at T
 have xC:=eM (P:=l.prog) (w:=w) (base:=base) A51.at T
 have xF:=fO A52.at T f dY z
 have xB:=jG A53.at T U dX xI dU
 have xW:=lH A54.at T U xA f xR dY x6 z
 have xX:=kF A55.at T xL xN xK
 exact Bv (kE (st:=Z3) a3 a2 J) T U xA f xW xB xF xX xY xC
theorem Cm{l:W.OpenLaw}{q:Ξ}{c:Α}{m:(Str->Ν)->Ψ->Prop}{i:Ω->Ψ->Prop}{d:DefRec}{K:Params->ι}(hn:l.most=↑63)(e:d.params.defaults=[])
  (o:∀(w:Ω) (h:Ψ),i w h->(K w.params).In h)
  (F:∀(w:Ω) (mg:Fn) (g:Δ) (h:Ψ),(K w.params).In h->h.Ns η mg->mg d.name=↑(.ref g)->
   ∃fd:FuncData,(∀(s:Θ) (u:Γ),BindsTo s fd #[[u],[]] [("_law_script",u)])/\∀base:Ψ,(K w.params).In base->base.Ns η mg->GN l.prog w (K w.params) mg base Z6 11 g fd ["_law_script"] (jO (K w.params))):
  W.WalkO q c m i l.row.toRowW d [] (λf p=>PySem.call f p):=
 L2.wY (n:=63) (k:=11) (x:="_law_script") (CX:=λ_=>Z6) (sp:=λw=>jO (K w.params)) hn ⋯ e #[Z,⋯,⋯] o F (λ_ _ a ns r _ j=>#[a,ns,Z,j,r,λ_=>rfl]) λ_ _ _ _ _ z=>z
end Lw
structure PySem.W.Fast:Prop where(tw15651442558056333556 tw1860737671514605832 tw11995076072635940325 tw1122789386814142541 tw2251097545088215206 tw6811068947304183530 tw6111208535196228740 tw7080778806616531826 tw6077730769598383800 tw10018000255185378025 tw7797221739526149526 tw7343094260962462126 tw13838858171917888654 tw16255229134445084668 tw4826666069861222528 tw6385372966472002033 tw5267737996011081737 tw10160951018705942227 tw7113383122083932259 tw2926735751555047467 tw17571032942710269212 tw13756580607328131904 tw6734795273098522626 tw9411652468216782486 tw9180116331659340417 tw7049512435431478488 tw17446077503560737265 tw2419495087772263143 tw15779256375199723239 tw15250856525151978155 tw903933708978526210 tw4162794867025082282 tw6659421586550058017 tw15409802431500867269 tw17896470759124603514 tw13523119093571506294 tw5039496653275563305 tw4783801449241933717 tw17372413821682290924 tw10313420318903198299 tw17958459801033746775 tw10613580417033626673 tw1042954062939912250 tw9441956150355060897 tw15627848884049900819 tw9047552752588639460 tw4862407720412010797 tw6752007757362439005 tw11939012020628329674 tw8959058990454384918 tw5879546050293101672 tw2753010300064154886 tw2053682774850748178 tw1247860446907807487 tw12056423974570600712 tw12898001093658985290 tw11014891869626796685 tw11585813241872054222 tw6087451295472767036 tw10848357585146307988 tw8561175716533664217 tw6867300401067359858 tw11695693297860205087 tw1226914914317582594 tw7936904383621620650 tw3913547309156908066 tw13779972058020020629 tw10195613023177982754 tw1725308510244742545 tw1585821813324236612 tw779362678209633298 tw12535395955435848028 tw8771027869825967212 tw1125497874763799144 tw14524230425724051066 tw15460677447451844187 tw9783866092445751538 tw9647877917531864445 tw16033285920773011723 tw1582569797020206124 tw558000119325824812 tw6790338237049194655 tw3744790872921825947 tw1257883503946510210 tw14577784163382111297 tw10693506048504617561 tw9872678350983267556 tw10624224916107666099 tw15628772418454826556 tw16185639990376134498 tw8692357356166563767 tw10667257404142655759 tw13022120505959668520 tw2816325487779160828 tw5262832152449884668 tw17744347100517294011 tw7165916372867835332 tw2207973581916721643 tw4115004588217338325 tw15051734546386549308 tw4867635799877227815 tw8292383468318849773 tw16713443493052444584 tw5832553356872649168 tw2709375393738552257 tw18386899987905751133 tw9659595503793846041 tw3402475169413779535 tw1776563881701517574 tw13972188362069513391 tw18113247054747190696 tw5272611564289281490 tw7957862115368969903 tw11025733238206967953 tw11923462541405762923 tw14020794486646269827 tw5187941491569529597 tw14979287439611318684 tw12913334292368021681 tw283618749584430867 tw16782510852110474141 tw17154181837119051557 tw13608710578376844153 tw17118359013514552 tw15977980740766073837 tw14840483409683198702 tw11509756765163033980 tw6796472716508939153 tw14125915821280800404 tw3018710902609282523 tw16112969257339546457 tw14727915822189699234 tw18047561641636645884 tw8562982378118136129 tw16799528731160814318 tw4919960644595095287 tw5996163905193628585 tw17816720292385023535 tw13691588568832646555 tw14307468913501920527 tw6601725165818302371 tw17989303566610767403 tw2440992182514910309 tw11807360077682738227 tw11064265856789524897 tw3372970706501996374 tw9296428558375211503 tw4247489265341010939 tw18395265543491576194 tw6215808074830741947 tw6278486993517385917 tw10425188682239018181 tw15951678251157789261 tw5065284351955139878 tw8126576819217272256 tw12849740917217325710 tw878706205075811764 tw10772026893168197063 tw9724460658845699486 tw3295872784385244574 tw7794005648460887307 tw13606905419458235896 tw17530835131526125494 tw16738745048068023973 tw18415199887193571373 tw1629831665392336092 tw8039806274038260720 tw5679369469873822083 tw8118273898560828012 tw14548069386524405805 tw17942197760550693407 tw896070970364564557 tw3987766444102785344 tw10451528728345595953 tw487951029384700436 tw6867115594566945794 tw3564249587785366000 tw10756214262245547347 tw14825607710097668037 tw17697827116316765135 tw16023508088744773244 tw7994103458570269226 tw3272180796960320315 tw16134518374155873851 tw10046273941293371518 tw4942700032892433603 tw3672654607411944773 tw11304450967311541802 tw1532540046771448893 tw5653018675997542712 tw6558508411549381670 tw2583886630460674993 tw9595160943707446045 tw3633319355092912076 tw13560798518985266264 tw15011657858649131620 tw7495689462190469056 tw4611190323870341734 tw10308532310614203837 tw1354385367785739341 tw16010705765976068160 tw13029628218800129267 tw7454721008613713925 tw13476234284576717129 tw7641584851970846234 tw5723845773257860960 tw5332617208599032287 tw16207110864091873367 tw12763414928541868771 tw5190923956189140549 tw11974365189895572732 tw13309320678304360774 tw15648336210497168624 tw5672066733278865824 tw16288146819423858932 tw6027394922027542405 tw13510572197384522858 tw1714859336177182778 tw8116477182404901853 tw13837388833291614973 tw3891582780948731526 tw6171410342937941408 tw13473473928547324977 tw246496714723027736 tw6914231836373630289 tw4650563580398701359 tw5256423634841257949 tw8359641701470819976 tw7581679226410961795 tw10159824250637206261 tw6801056460922485128 tw18077361965760341768 tw11827852912234846005 tw16846107046297646053 tw6123160706599667669 tw3421263252394205013 tw4838417540428446010 tw3362103183246426680 tw6956149628950483260 tw9472639198381840667 tw5214812061609643075 tw118795762004900902 tw16670496145980579404 tw14212220571311638628 tw6625588193885976177 tw12300123620548280716 tw18044443942193391405 tw8039401443152173872 tw5462536511339728938 tw9320037631892056697 tw25317276948784031 tw9833793722406188541 tw7336543565917400181 tw12628359485297483047 tw16583204780714632836 tw5221706677277519258 tw13307347967444143694 tw12449250800747678247 tw11185887250845864414 tw13770226674802018879 tw14017369427472355953 tw9828860907185697602 tw4737591368080173893 tw14106945578742274633 tw2902903117824789980 tw6454818417882158750 tw3294085207150592713 tw11621806311231693124 tw10755780493811556290 tw1158882540417776379 tw8252825631533506036 tw11301967768161939224 tw15315634644962519400 tw3567919213590962392 tw8750247897675587718 tw4393808345609024395 tw8432938757807410860 tw4976689615358821294 tw18402632619659088742 tw11388148924453550379 tw2019453911713707656 tw16341798670635672499 tw12685239237409868954 tw1563442404173755459 tw14866005236304421690 tw8143587690533350771 tw13274604519654785654 tw3219485407880099109 tw6894651438294101653 tw7522098359338953237 tw15361613159478819566 tw14393105042799461614 tw16947692681365673919 tw8449024107414922216 tw11458618979420951453 tw10803875572625577295 tw2390248134088000707 tw15751045771392788212 tw5222851517888141897 tw14833525244065627926 tw6440643706515722575 tw13862884798221578327 tw5933086809211953236 tw9438955263468719326 tw15561134455884377767 tw17158808524540393626 tw13831100114508000445 tw5948957133184348676 tw15453833034574798922 tw10651640208219485216 tw16993906609059575496 tw13326586006792999797 tw13276877780678757137 tw2982513099437912091 tw9487356260694159868 tw13789901226933338736 tw4131060758620295659 tw3192232306953419115 tw12190361835466947961 tw6507547635387311411 tw10898053181628165520 tw16801002028128246941 tw5229418115765020862 tw15238898752392010056 tw16618217976369030151 tw15631063020390989287 tw18169611126752546441 tw13389255011951635184 tw17946076268765290613 tw3537787761681765885 tw1690310356262504519 tw2235136466451979340 tw9110968406657490709 tw1337862622121638786 tw6743790497053855844 tw16512783256710800049 tw10685020054343741675 tw15575533430203211462 tw1635974891212476316 tw6659073066666130184 tw15708013942267043282 tw5937291538626250577 tw4800412056014669614 tw3796697779688815281 tw11050157361636091614 tw9648512399222137202 tw10816827390829634833 tw9965793427812813827 tw17887747338424738973 tw17250054379346014634 tw1511999667914261152 tw18317793533891814476 tw7488528179104366889 tw3071889056330164189 tw611598886375250908 tw8832739506331373118 tw3860599478780558821 tw15793657061446477967 tw14140535533532195526 tw16644244687445288374 tw5831108934932281103 tw14464293774002618063 tw1317305667397859242 tw12833152674579398657 tw3063313089389302281 tw3019835254872439114 tw13720338037532402101 tw9656385937498822968 tw13657345655985519702 tw1435802743158456490 tw14359822722083603639 tw7287461010132683819 tw13815193148252004929 tw4695900918686584117 tw9502268762121539258 tw1840759804521616907 tw3451930923438425153 tw13363882396384786196 tw4815187468368574508 tw6807175959656965108 tw9789929204408368314 tw15737601789338190098 tw3434647649659795258 tw14076350123809311126 tw17569533635137524925 tw10966882005239789966 tw2153148652259742240 tw18183615733874377577 tw17631055916963473427 tw10369854859638510248 tw769307749169142334 tw9555317780426782897 tw7063010719801585218 tw7738750469639494210 tw14097487116358036349 tw11922737476550673605 tw8169767775824180200 tw13708695828110067932 tw10356729099368286330 tw10940301133753303878 tw14113764448059069981 tw2061965924111165644 tw16698465342388639205 tw9689087726695401314 tw13686979025251555097 tw7715110650471443238 tw10468519818596173489 tw5317262976229477328 tw11057853811688423107 tw13573058442338398371 tw5625541627856184758 tw16505988209976215979 tw6605320128578690982 tw10413642303113091368 tw3195740687316875414 tw10473524931300845739 tw13605134414913458087 tw17133773618876606920 tw14132833562544722950 tw15285610836003183832 tw14784011553167357868 tw1340903737847068267 tw10185506754062270316 tw5561788998432309657 tw13580384258224062187 tw17935044081883904845 tw13255405775686822690 tw14301518002724741721 tw1473857167191296773 tw2735602970497575415 tw8343365750902805093 tw10892070366974107252 tw5271938478148082319 tw11357937599253339856 tw8196231532393460750 tw2409520710324264975 tw11422803987051101669 tw14801805597116198465 tw17998497816558056820 tw7218237572806518648 tw12339894566338522667 tw1743339453725287223 tw9797835710219752072 tw12823411027253515435 tw5129424797850754488 tw5679361792962498776 tw8608040229464890491 tw12926009937704874393 tw11125065455628680446 tw6472845927986497088 tw2319909156901787335 tw5124062763363273446 tw4341483149417463366 tw12092480022000345561 tw6044019503426340524 tw12796507090805577566 tw11344604119755725691 tw17634330179602834232 tw2865884577841310592 tw10448160088589801216 tw16982303983869638175 tw6812492070305079633 tw3076865709035392198 tw13956098134293555064 tw4521842238811428511 tw5602129224301868061 tw9998937418010132342 tw10763606226296626633 tw12200237988399486351 tw9178978379930850488 tw3430915548891223860 tw16748338258974800294 tw10841180048571892335 tw11265005699101776303 tw10207888826658329755 tw15051956605826552808 tw14775677700745945518 tw13466400169393026344 tw12544688248574132930 tw17038237477549797427 tw7672857025798794980 tw8640875645944359510 tw10812664592268282609 tw6010533237240161471 tw3849607824154674239 tw11736842814749865962 tw8099290289828574102 tw8229090074855590254 tw2527288227867098225 tw1389067388910228055 tw10052678966972628132 tw11315730283258993799 tw14878929834445618409 tw8326853564459997234 tw11477172016627748494 tw1540498918886122944 tw10547932323716880836 tw4233619894133709603 tw10101902382819511080 tw17292239432656867543 tw12524669968819876629 tw16439683963768917952 tw5136655642474466885 tw16100684382220455296 tw4952559651127619930 tw17138337878902340348 tw6810886391635809470 tw8750204518336819784 tw15466343519100272747 tw14185607854524039287 tw14164498028758918069 tw11095281482448455396 tw16990561939972472387 tw1683491223963562150 tw5402117307618342792 tw17597425668676292799 tw3217692570582041826 tw4004497527619543158 tw6536909727786140976 tw11505537239475462701:True)
open PySem PySem.W PyProof.Rows
set_option maxRecDepth 100000 in
set_option maxHeartbeats 0 in
theorem PySem.Challenge.cw_rollcode_k25_what_may_open_holds : PySem.Challenge.rw_rollcode_k25_what_may_open.Holds := by
 w_on;o_law;k_head;(case hw=>w_witness2)
 k_fill
 refine Lw.Cm (l:=PySem.Challenge.rw_rollcode_k25_what_may_open) rfl rfl (fun w h Y=>PySem.W.kIn_of Y) ?F
 case F=>
  intro w mg fa h KX G hmg;refine' Lw.y8 KX G hmg ?aCD ?pgD ?hdD ?poD ?saD ?mkD ?kcD ?Fa ?pi ?Fm ?Fz ?Fr ?Db ?Dn ?Fs ?A0 ?A1 ?A2 ?A3 ?A4 ?A5 ?A6 ?A7 ?A8 ?A9 ?A10 ?A11 ?A12 ?A13 ?A14 ?A15 ?A16 ?A17 ?A18 ?A19 ?A20 ?A21 ?A22 ?A23 ?A24 ?A25 ?A26 ?A27 ?A28 ?A29 ?A30 ?A31 ?A32 ?A33 ?A34 ?A35 ?A36 ?A37 ?A38 ?A39 ?A40 ?A41 ?A42 ?A43 ?A44 ?A45 ?A46 ?A47 ?A48 ?A49 ?A50 ?A51 ?A52 ?A53 ?A54 ?A55 ?a56 ?l56 ?c56 ?k56 ?yg0 ?yg1 ?yg2 ?yg3 ?z0 ?z1 ?z2 ?z3 ?z4 ?z5 ?z6 ?z7 ?z8 ?z9 ?z10 ?z11 ?z12 ?z13 ?z14 ?z15 ?z16 ?z17 ?z18
  (case aCD|pgD|hdD|poD|saD|mkD|kcD|Fa|pi|Fm|Fz|Fr|Db|Dn|Fs=>k_is)
  (case A0|A1|A2|A3|A4|A5|A6|A7|A8|A9|A10|A11|A12|A13|A14|A15=>refine' L3.wC KX G ?ya ?yl ?yc ?yk;case ya|yl|yc|yk=>k_is)
  (case A16|A17|A18|A19|A20|A21|A22|A23|A24|A25|A26|A27|A28|A29=>refine' L3.y4 ?ya ?yi ?yl ?yc ?yk;case ya|yi|yl|yc|yk=>k_is)
  (case A30|A31|A32|A33|A34|A35|A36|A37|A38|A39|A40|A41|A42|A43|A44|A45|A46|A47|A48|A49|A50|A51|A52|A53|A54|A55=>refine' L3.wC KX G ?ya ?yl ?yc ?yk;case ya|yl|yc|yk=>k_is)
  (case a56|l56|c56|k56|yg0|yg1|yg2|yg3|z0|z1|z2|z3|z4|z5|z6|z7|z8|z9|z10|z11|z12|z13|z14|z15|z16|z17|z18=>k_is)