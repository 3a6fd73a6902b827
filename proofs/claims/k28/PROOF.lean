import PyProof.Rows.All
import Wide.All
import OpenK.AllK
import Wide.FinOn
import Lean
import PyProof.EqAt
import PyProof.EqKinds
import PyProof.TupleCall
import PySem.Challenge.RW_rollcode_k28_the_least_lost
import PyProof.StationsW
import PyProof.ExcClass2
import OpenK.KOwn
import PyProof.ExcBaseAll.ValueError
import PyProof.RulesAs
import PyProof.NsDelKeeps
import PyProof.Rows.Catch
import KE.KIsAll
import PyProof.ExcArgsOwn
import PyProof.Rows.CatchOwn
import PyProof.ExcAttrAll.ValueError
import PyProof.AttrMissHeap
import PyProof.Rows.SetFrom
import KE.KDictOf
import PyProof.DictWalks
import PyProof.Rows.DictUnroll
import PyProof.ExcInit
import PyProof.InstStoreFacts
import PyProof.FString
import OpenK.KCls
import PyProof.ListMulRoad
import PyProof.FactsAll.tuple_2
import PyProof.AutoSeq1
import PyProof.FactsAll.list_3
import PyProof.TupleKey
import PyProof.FactsAll.NoneType_1
import Wide.Seal
import PyProof.FactsAll.set
import PyProof.CollectWalk
import KE.KDictList
import PyProof.FactsAll.set_1
import PyProof.FactsAll.set_2
import PyProof.SetNew
import PyProof.MeetsSeq2
import KE.KLam
import KE.KSortTup
import KE.KSortKey
import PyProof.DictItems
import PyProof.Rows.TupDisplay
import KE.KMinKey
set_option genSizeOf false
set_option bootstrap.genMatcherCode false
set_option Elab.async false
set_option maxRecDepth 100000
set_option maxHeartbeats 4000000
set_option linter.unusedVariables false
set_option linter.all false
noncomputable section
def PySem.rpat:Nat→Lean.Term→Lean.MacroM (Lean.TSyntax `rcasesPat)
|0,_=>Lean.Macro.throwUnsupported
|n+1,t=>match t with
 |`(#[$xs,*])=>do
  let ys←xs.getElems.mapM fun x=>do `(Lean.Parser.Tactic.rcasesPatLo|$(←rpat n x):rcasesPat)
  `(rcasesPat|⟨$ys,*⟩)
 |`($x:ident)=>`(rcasesPat|$x:ident)
 |`(_)=>`(rcasesPat|_)
 |_=>Lean.Macro.throwUnsupported
local macro_rules|`(#[$xs,*])=>do
 let mut y:=#[]
 for x in xs.getElems do
  if let some n:=x.raw.isNatLit? then
   for c in ("_Z ___ZZ _Z_Z _Z_Z_Z _ZZ_Z __Z __ZZ ZZ Z__Z__ZZ Z__Z__Z__ZZ _Z_Z_Z_Z _Z__ZZ _______Z Z__Z__Z__Z__Z__ZZ ______Z _Z_Z__ZZ __ Z_Z _Z_Z_Z_Z__ZZ _Z__ZZ_Z__ZZ_Z__ZZ__ZZ ___Z Z_____Z _Z__ZZ_Z __ZZ_Z _Z_Z_Z__ZZ__ZZ_Z _Z_Z__ZZ_Z _Z_ _Z_Z_Z__ZZ_Z__ZZ_Z__ZZ__ZZ Z__ZZ_Z _Z_Z__ZZ__ZZ_Z_Z_Z__ZZ__Z ____________Z _____Z ___ _Z_Z_Z_Z_Z __ZZ_Z__ZZ __ZZ__ZZ_Z Z__ZZ Z_ __ZZ__ZZ _Z__ZZ_Z_Z__ZZ ZZZ Z_Z__ZZ Z_Z_Z _Z__ZZ__Z_Z_Z __ZZ__ZZ__ZZ _Z_ZZ_ZZ__ZZ _Z_Z_Z_Z_Z_Z _ZZ _Z_Z_Z__ZZ _Z__ZZ__ZZ ____ ZZ_Z Z_Z_Z__ZZ _____ __ZZ__ZZZ __Z__ZZ_Z Z__ZZZ_Z __ZZ_Z_Z Z__Z".splitOn " ")[n]!.toList do
    if c=='Z' then y:=y.push (←`(rfl)) else y:=y.push (←`(_))
  else y:=y.push x
 `(⟨$y,*⟩)
local macro_rules|`(-$x)=>if x.raw.isIdent||x.raw.isOfKind ``Lean.Parser.Term.proj then `(.ref $x) else Lean.Macro.throwUnsupported
local macro_rules|`(tactic|exists $xs,*)=>`(tactic|refine#[$xs,*, ?_])
local macro_rules|`(tactic|let $d:letDecl)=>do
 let d:=d.raw[0]
 let p←PySem.rpat 9 ⟨d[0]⟩
 let e:Lean.Term:=⟨d[4]⟩
 if d[2].getNumArgs==0 then `(tactic|obtain $p:rcasesPat := $e) else
 let y:Lean.Term:=⟨d[2][0][1]⟩
 `(tactic|obtain $p:rcasesPat : $y := $e)
local macro_rules|`(↑$x)=>`(some $x)
theorem Z.{u}{α:Sort u}{a:α}:a=a:=rfl
local macro_rules|`(nofun)=>`(by decide +kernel)
local macro_rules|`(⋯)=>`(by decide)
noncomputable abbrev x4:List PySem.Str:=["_law_box_here","_law_many"]
noncomputable abbrev x5:List PySem.Str:=["self","button","age","count"]
noncomputable abbrev X0:List PySem.Str:=["_law_box_here","_law_world_here","_law_many"]
noncomputable abbrev X1:List PySem.Str:=["table","key","digits"]
noncomputable abbrev X2:List PySem.Str:=["_law_world_here","_law_spec"]
noncomputable abbrev X3:List PySem.Str:=["_law_world_here","_law_sent","_law_numbers","_law_k"]
noncomputable abbrev X4:List PySem.Str:=["button","age","count","near","far"]
noncomputable abbrev X5:List PySem.Str:=["door","button","press"]
noncomputable abbrev X6:List PySem.Str:=["_law_box_here","_law_world_here","_law_most"]
noncomputable abbrev X7:List PySem.Str:=["thing"]
noncomputable abbrev X8:List PySem.Str:=["self","button","age"]
noncomputable abbrev X9:List PySem.Str:=["_law_world_here","_law_known","_law_spec"]
noncomputable abbrev W0:List PySem.Str:=["self","table","keys","near","far","most"]
noncomputable abbrev W1:List PySem.Str:=["table","key","name","age","count","deed"]
noncomputable abbrev W2:List PySem.Str:=["table","key","name"]
noncomputable abbrev W3:List PySem.Str:=["_law_world_here","_law_sent","_law_k"]
noncomputable abbrev W4:List PySem.Str:=["self","thing"]
noncomputable abbrev W5:List PySem.Str:=["_law_script","_law_k","_law_most"]
noncomputable abbrev W6:List PySem.Str:=["door","losses","press","number"]
noncomputable abbrev W7:List PySem.Str:=["table","key","press"]
noncomputable abbrev W8:List PySem.Str:=["self","age"]
noncomputable abbrev W9:List PySem.Str:=["_law_box_here"]
noncomputable abbrev V0:List PySem.Str:=["self","name"]
noncomputable abbrev V1:List PySem.Str:=["self"]
open PySem.W (Frag)
set_option compiler.extract_closed false
open Array renaming toList_append->KF,getElem?_toList->Ka,toList_push->L1,toList_reverse->M7,forIn_toList->OX,perm_iff_toList_perm->Oi,toList->Ov,mem_toList_iff->O1,getElem?_setIfInBounds->Re,getElem_extract->Ri,size_extract->Rj,getElem_toList->Rl
open PySem renaming wpAny_bind->Ja,wpAny_pure->Je,sizeLine_eq->Jt,wpAny_mono->JJ,wpAny_field->JK,wpAny_holding->JO,boot_len->JQ,wpAny_call_entry->J0,wpAny_rule->J4,wpAny_newObj_type->F0,wpAny_truthy_bool->GM,wpAny_seqItems->GQ,wpAny_of_eq->GR,wpAny_attempt->Ic,wpAny_setField_rec->Ie,wpAny_pyIter_tuple->Il,codeAny_builtin->Iu,wpAny_standAt->IE,wpAny_pyIter_list->IF,codeAny_mono->IH,wpAny_Call_Name_kw->II,call_meets->IL,wpAny_isInstance->IS,wpAny_specialOf->IT,mem_of_lookup->Lc,wpAny_setField->Ld,wpAny_loadPart'->Lf,wpAny_passesOwn->Li,wpAny_typeOf->Lk,wpAny_pyIter_enum->Ln,typeLookup_type->Lq,builtinLookup_eq_fast->Lr,isSubtype_type->Lu,tupleKind_room_in1->Lx,isSubtype_stop->LF,wpAny_pyIter_rangeiter->LN,Value->Γ,Addr->Δ,Shared->Θ,Program->Ξ,Expr->Φ,Heap->Ψ,World->Ω,Builtin->γ,Stmt->δ,wpAny->ε,sizeLine->ζ,mainGlobals->η,starEach->θ
open Nat renaming le_refl->Jd,le_trans->Jg,lt_of_lt_of_le->Jn,ne_of_lt->Jq,le_of_lt->Jv,le_add_right->JG,zero_le->JH,ne_of_gt->JT,le_of_eq->JZ,lt_irrefl->GJ,le_succ->GN,succ_le_succ->GP,lt_succ_self->Ib,min_le_right->Ip,lt_succ_of_lt->IM,add_le_add_left->Cs,lt_of_le_of_ne->G2,add_sub_of_le->KA,lt_of_le_of_lt->KB,add_assoc->KD,not_lt->KG,le_sub_one_of_lt->KH,sub_pos_of_lt->KJ,sub_le->KM,le_antisymm->KQ,add_lt_add_left->KS,pos_of_ne_zero->KU,zero_lt_of_lt->KZ,le_of_lt_succ->Kd,add_lt_of_lt_sub'->Ke,not_le->Kf,le_add_left->Kh,lt_trans->Ki,sub_self->Kk,le_max_left->Kl,add_le_add_right->Ko,min_eq_left->Ky,le_max_right->Kz,zero_add->K0,sub_lt_left_of_lt_add->K1,sub_add_cancel->K2,min_le_left->K3,lt_of_succ_lt->K4,add_right_comm->K9,add_comm->NH,max->NS,lt_of_not_le->NU,le_min->NV,not_le_of_lt->NX,max_le->NZ,le_of_not_lt->OB,min_eq_right->OK,le_add_right_of_le->Od,sub_lt_of_lt->Oe,lt_sub_iff_add_lt'->Og,max_eq_right->Ol,add_sub_add_left->Om,pow_le_pow_right->Os,le_of_sub_eq_zero->RP,le_sub_of_add_le->RQ,sub_eq_zero_of_le->RR,add_sub_assoc->RS,sub_le_sub_left->RT,add_sub_add_right->RU,not_lt_zero->RW,lt_add_of_pos_right->Rb,sub_le_sub_right->Rc,le_sub_of_add_le'->Rh,lt_of_lt_of_eq->Rk
open List renaming length_map->Jf,getElem?_eq_getElem->Ji,mem_singleton->Jm,getElem?_map->Jo,mem_cons->Jp,size_toArray->Js,mem_map->Ju,getElem?_eq_some_iff->Jw,mem_of_getElem?->Jy,length_append->Jz,map_cons->JC,mem_append->JD,not_mem_nil->JE,map_append->JI,mem_append_right->JL,mem_cons_self->JM,getD_eq_getElem?_getD->JN,length_take->JP,mem_cons_of_mem->JS,length_cons->J2,take_length->J5,append_assoc->Gw,getElem_mem->Gz,find?_cons->GA,mem_append_left->GB,append_nil->GC,map_map->GH,mem_filter->GK,getElem?_append_right->GU,length_singleton->GV,lookup_cons->GW,take_add_one->Ig,mem_range->Ih,nodup_cons->Ii,getElem?_append->Ik,getElem?_append_left->Io,nil_append->Iq,map_congr_left->Ir,take_of_length_le->Iy,nodup_append->Iz,of_mem_zip->IJ,any_cons->IK,all_eq_true->IP,cons_append->Lh,length_drop->Lj,length_set->Ll,replicate_succ->Lm,filterMap_cons->Ly,length_replicate->Lz,flatten_cons->LC,length_nil->LH,any_eq_true->LI,nodup_nil->LK,getElem?_set_self->LL,getElem?_set_ne->LM,toArray->B1,range->B2,replicate->D0,mem_iff_getElem->KN,lookup->KW,take_append_drop->Kg,length_range->Kj,foldl_append->Kp,filter_append->Kq,length_filter_le->Kr,map_take->Kt,drop_eq_getElem_cons->Kv,perm_append_comm->K5,getElem?_of_mem->K6,zip_cons_cons->K7,pairwise_iff_getElem->Ls,sublist_nil->NC,filter_filter->NG,forIn_cons->NK,perm_middle->NN,reverse_append->NY,mem_of_find?_eq_some->N1,filter_congr->N2,nodup_range->N3,getElem?_take_of_lt->N4,foldl->N6,map_nil->N7,ext_getElem->OC,map_drop->OD,forIn_nil->OE,drop_zero->OF,getElem_map->OG,pairwise_cons->OH,eraseIdx_eq_take_drop_succ->OI,eq_nil_of_length_eq_zero->OJ,all_map->OM,pairwise_map->OP,getElem?_drop->OT,reverse_reverse->OY,drop_drop->Oh,mem_map_of_mem->On,find?_eq_none->Oo,filter_sublist->Oq,getElem_inj->Ot,mem_filterMap->O0,getElem?_replicate->O5,take_sublist->PD,all_cons->P9,zipIdx_cons->Qd,zipIdx_nil->RA,take_zero->RB,getElem_set->RC,getElem?_eq_none->RE,mem_of_mem_take->RF,flatMap_cons->RG,lookup_cons_self->RH,getElem_toArray->RJ,take_succ->RL,length_zip->RM,countP_cons->RO,pairwise_append->RX,drop_eq_nil_of_le->RY,take_add->RZ,getElem?_take->Rg,sublist_append_left->Rm,find?_some->Ro,mem_flatMap->Rp,range_succ->Rq
open PySem.Heap renaming get?_push_of_some->Jh,lt_size->Jk,get?_push_size->Jr,size_push->J9,get?_update_other->GO,get?_update_self->LB
open Bool renaming false_ne_true->JB,and_eq_true->GF,false_and->Ia,true_and->IB,eq_false_iff->IC,eq_iff_iff->La,not_eq_true'->LW,false_eq_true->KI,not_true->Kc,and_eq_false_iff->OL,false_or->RI,or_eq_false_iff->RK,not_false->RN
open PySem.W renaming mg_none_of->JX,kia_one->J3,kia_tup->Lg,Frag->ι
open PyProof.Rows renaming boot_tuple->J7,boot_isinstance->J8,boot_list->IX,callWith_type1->IZ,slot_tuple_getitem->LA,boot_str->LJ,boot_int->LX,boot_all->LY,boot_max->LZ
open Int renaming toNat_natCast->GD,le_refl->GX,emod_nonneg->IU,emod_lt_of_pos->IV,le_trans->Iv,le_of_lt->KC,not_lt->KY,zero_add->Ku,lt_of_lt_of_le->OO,toNat_of_nonneg->OS,le_antisymm->Ra
open PySem.F renaming plainAttrs_list->GI,slot_list_append->GY,type_list_append->GZ,slot_tuple_iterator_next->LD,slot_zip_next->LG,slot_tuple_add->LO,entry_tuple_add->LP,args_tuple_add_2->LQ,slot_dict_get->LV
open Option renaming map_eq_some_iff->Ij,getD_some->IQ,isSome_iff_exists->Lb,isSome_map->Lv,map_some->NM,getD_none->Pd,toList_some->RD
open PySem.Obj renaming data_mapFields->Le,isFreed_of_fields->LU
namespace L0
noncomputable abbrev _root_.Β:=List PySem.Str
noncomputable abbrev _root_.Ε:=List Int
noncomputable abbrev _root_.Ζ:=List Nat
noncomputable abbrev _root_.Η:=List Γ
noncomputable abbrev _root_.Ι:=List Δ
noncomputable abbrev _root_.Κ:=List Φ
noncomputable abbrev _root_.Λ:=Option Int
noncomputable abbrev _root_.Ο:=Option Γ
noncomputable abbrev _root_.Ρ:=List PyProof.Rows.Keyed
noncomputable abbrev _root_.Τ:=List PySem.Env
noncomputable abbrev _root_.Χ:=Option Δ
noncomputable abbrev _root_.μ:=Option Nat
noncomputable abbrev _root_.ν:=List PySem.Keyword
noncomputable abbrev _root_.ξ:=Option Φ
abbrev Jb:=@if_neg
abbrev Jc:=@if_pos
noncomputable abbrev Jj:=@decide_eq_true
noncomputable abbrev Jl:=@decide_eq_false
noncomputable abbrev JA:=@of_decide_eq_true
noncomputable abbrev JF:=@or_false
noncomputable abbrev JU:=@if_false
noncomputable abbrev JW:=@if_true
noncomputable abbrev JY:=@congrArg
noncomputable abbrev GG:=@beq_self_eq_true
noncomputable abbrev ID:=@beq_eq_false_iff_ne
noncomputable abbrev IG:=@beq_iff_eq
noncomputable abbrev IW:=@beq_false_of_ne
noncomputable abbrev Lo:=@decide_eq_true_iff
noncomputable abbrev Jx:=@Option.some.inj
noncomputable abbrev JR:=@PySem.PassesOwn.never
noncomputable abbrev JV:=@Array.length_toList
noncomputable abbrev J1:=@PySem.Paired.length
noncomputable abbrev J6:=@PySem.Around.in1_units
noncomputable abbrev IR:=@PySem.Heap.SameBut.update
noncomputable abbrev LS:=@PySem.Calls.callWith_builtin
end L0
open L0
namespace L0
open PySem
noncomputable abbrev Hu:=Γ->Θ->Prop
abbrev HC:=Str->Ο
noncomputable abbrev HD:=List (Δ×Obj)
end L0
open L0
namespace L2
open PySem PySem.Spec PyProof.Rows
noncomputable abbrev qE:=Sum Int Str
noncomputable def cC:qE->Γ->Bool
 | .inl k,v=>Γ.isInt k v
 | .inr x,v=>Γ.isStrOf x v
noncomputable def FS(w:Ω):qE->Int
 | .inl k=>hashInt k
 | .inr x=>hashStr w x
theorem zC:∀{k:qE} {v:Γ},cC k v=true->(∃i t,k=Sum.inl i/\v=Γ.int i t)\/(∃x t,k=Sum.inr x/\v=Γ.str x t)
 | .inl i,v,h=>by
  let#[t,e]:=Γ.isInt_shape (k:=i) (v:=v) h
  exact .inl #[i,t,Z,e]
 | .inr x,v,h=>by
  let#[t,e]:=Γ.isStrOf_shape (x:=x) (v:=v) h
  exact .inr #[x,t,Z,e]
theorem vP(i:Int)(t:Tok):cC (.inl i) (.int i t)=true:=by simp [cC,Γ.isInt]
theorem uZ(x:Str)(t:Tok):cC (.inr x) (.str x t)=true:=by simp [cC,Γ.isStrOf]
theorem DH(a b:Int):decide ((Sum.inl a:qE)=Sum.inl b)=(a==b):=by
 by_cases e:a=b
 .subst e;simp
 .have h:¬(Sum.inl a:qE)=Sum.inl b:=λq=>e (Sum.inl.inj q)
  rw[Jl h]
  exact(ID.mpr e).symm
theorem Dk(a b:Str):decide ((Sum.inr a:qE)=Sum.inr b)=decide (a=b):=by
 by_cases e:a=b
 .subst e;simp
 .have h:¬(Sum.inr a:qE)=Sum.inr b:=λq=>e (Sum.inr.inj q)
  rw[Jl h,Jl e]
theorem DG(a:Int)(b:Str):decide ((Sum.inl a:qE)=Sum.inr b)=false:=Jl (λq=>nomatch q)
theorem E4(a:Str)(b:Int):decide ((Sum.inr a:qE)=Sum.inl b)=false:=Jl (λq=>nomatch q)
noncomputable def qR(prog:Ξ)(w:Ω):PySem.KeyKind prog w qE where
 is:=cC
 hash:=FS w
 inj:=λv a b g d=>by
  rcases zC g with⟨i,t,rfl,rfl⟩|⟨x,t,rfl,rfl⟩
  .rcases zC d with⟨j,u,rfl,e⟩|⟨y,u,rfl,e⟩
   .injection e with e1 _;rw[e1]
   .exact nomatch e
  .rcases zC d with⟨j,u,rfl,e⟩|⟨y,u,rfl,e⟩
   .exact nomatch e
   .injection e with e1 _;rw[e1]
 byValue:=λk v h=>by
  rcases zC h with⟨i,t,rfl,rfl⟩|⟨x,t,rfl,rfl⟩<;>rfl
 pyHash:=λc h=>by
  rcases zC c with⟨i,t,rfl,rfl⟩|⟨x,t,rfl,rfl⟩
  .exact wpAny_pyHash_int h
  .exact wpAny_pyHash_str h
 eqBool:=λf c h=>by
  rcases zC f with⟨i,t,rfl,rfl⟩|⟨x,t,rfl,rfl⟩
  .rcases zC c with⟨j,u,rfl,rfl⟩|⟨y,u,rfl,rfl⟩
   .rw[DH]at h;exact wpAny_eqBool_int h
   .rw[DG]at h;exact SeqAt.EqAt.int_str i t y u _ _ _ _ h
  .rcases zC c with⟨j,u,rfl,rfl⟩|⟨y,u,rfl,rfl⟩
   .rw[E4]at h;exact SeqAt.EqAt.str_int x t j u _ _ _ _ h
   .rw[Dk]at h;exact wpAny_eqBool_str h
 «strs»:=λk x t v h=>by
  rcases zC h with⟨i,u,rfl,e⟩|⟨y,u,rfl,e⟩
  .exact nomatch e
  .injection e with e1 _
   subst e1;cases v<;>rfl
theorem oX(prog:Ξ)(w:Ω)(i:Int)(t:Tok):(qR prog w).is (.inl i) (.int i t)=true:=vP i t
theorem oH(prog:Ξ)(w:Ω)(x:Str)(t:Tok):(qR prog w).is (.inr x) (.str x t)=true:=uZ x t
inductive V where
 |non|bl (b:Bool)|int (i:Int)|str (x:Str)|byt (b:Array UInt8)|flt (b:UInt64)|ref (a:Δ)|ty (n:String)
 deriving DecidableEq
noncomputable abbrev _root_.Μ:=Option V
noncomputable abbrev _root_.Α:=List V
noncomputable def HJ:V->Γ->Prop
 | .non,u=>u=Γ.none
 | .bl b,u=>u=Γ.bool b
 | .int i,u=>∃t,u=Γ.int i t
 | .str x,u=>∃t,u=Γ.str x t
 | .byt b,u=>∃t,u=Γ.bytes b t
 | .flt b,u=>∃t,u=Γ.float b t
 | .ref a,u=>u=Γ.ref a
 | .ty n,u=>u=Γ.type n
abbrev HL:Α->Η->Prop:=Paired HJ
theorem HL.length(r:HL xs us):xs.length=us.length:=J1 r
theorem HL.get:∀{xs:Α} {us:Η} {i:Nat} {x:V},HL xs us->xs[i]? =↑x->∃u,us[i]? =↑u/\HJ x u
 |_,_,_,_,.nil,e=>by simp at e
 |_,_,0,_,.cons r _,e=>by simp at e;subst e;exact#[0,r]
 |_,_,i+1,x,.cons _ t,e=>by
  let#[u,h1,a]:=HL.get (i:=i) (x:=x) t (by simpa using e)
  exact#[u,by simpa using h1,a]
theorem HL.set{x:V}{u:Γ}(r:HJ x u):∀{xs:Α} {us:Η} (i:Nat),HL xs us->HL (xs.set i x) (us.set i u)
 |_,_,_,.nil=> .nil
 |_,_,0,.cons _ t=> .cons r t
 |_,_,i+1,.cons q t=> .cons q (HL.set r i t)
theorem HL.append:∀{xs ys:Α} {us a:Η},HL xs us->HL ys a->HL (xs++ys) (us++a)
 |_,_,_,_,.nil,s=>s
 |_,_,_,_,.cons r t,s=> .cons r (HL.append t s)
theorem HL.take:∀{xs:Α} {us:Η} (n:Nat),HL xs us->HL (xs.take n) (us.take n)
 |_,_,0,_=> .nil
 |_,_,_+1,.nil=> .nil
 |_,_,n+1,.cons r t=> .cons r (HL.take n t)
theorem HL.drop:∀{xs:Α} {us:Η} (n:Nat),HL xs us->HL (xs.drop n) (us.drop n)
 |_,_,0,r=>r
 |_,_,_+1,.nil=> .nil
 |_,_,n+1,.cons _ t=>HL.drop n t
noncomputable def MN:Μ->Ο->Prop
 |some v,↑u=>HJ v u
 |none,none=>True
 |_,_=>False
def KV{κ:Type}:List (κ×V)->List (κ×Γ)->Prop:=Paired λ(p:κ×V) (q:κ×Γ)=>p.1=q.1/\HJ p.2 q.2
noncomputable def kV:qE->V
 | .inl i=> .int i
 | .inr x=> .str x
inductive HO where
 |lst (xs:Α)
 |tup (xs:Α)
 |dK (kvs:List (qE×V))|dT (kvs:List (List qE×V))
 |set (S:Int->Bool)(n:Nat)
 |ins (C dx:Δ)(fs:List (Str×V))
 |own (x:Δ)
 |xd (fs:List (Str×V))
 |met (f x:Δ)
 |rng (lo hi:Int)
 |frz (o:Obj)(u:HO)
 |tbl (ps:Array Γ)
 |ext (φ:Ψ->Prop)
noncomputable abbrev Hp:=Δ->Option HO
noncomputable def HG(H:Hp)(a:Δ)(o:HO):Hp:=λb=>if b=a then ↑o else H b
theorem qc:HG H a o a=↑o:=by unfold HG;rw[Jc Z]
theorem qh{a b:Δ}(h:b≠a):HG H a o b=H b:=by unfold HG;rw[Jb h]
theorem qD{H:Hp}{b:Δ}{o u:HO}(h:H a=↑o)(h':H b=↑u)(d:o≠u):a≠b:=by
 intro e;subst e;rw[h]at h';exact d (Jx h')
theorem qr{H:Hp}{b:Δ}{o:HO}(h:H a=↑o)(h':H b=none):a≠b:=by
 intro e;subst e;rw[h]at h';cases h'
section
variable(P:Ξ)(w:Ω)
noncomputable def HN(H:Hp)(h:Ψ)(a:Δ):HO->Prop
 | .lst xs=>xs.length<=ζ/\∃(its:Η) (n:Nat),HL xs its/\h.get? a=some {cls:= .type "list",data:= .seq its.toArray n}
 | .tup xs=>xs.length<=ζ/\∃its:Η,HL xs its/\IsTup h a its.toArray
 | .dK kvs=>kvs.length<=ζ/\(a==sysModules)=false/\∃d,KV kvs d/\h.DictOf (qR P w) a d
 | .dT kvs=>kvs.length<=ζ/\(a==sysModules)=false/\∃xs:List (List qE×Δ×Γ),
   Paired (λ(p:List qE×V) (q:List qE×Δ×Γ)=>p.1=q.1/\H q.2.1=↑(.tup (p.1.map kV))/\HJ p.2 q.2.2) kvs xs/\
   ∃o es e,h.get? a=↑o/\o.ExactDict/\o.data= .dict es e/\es.toList=xs.map (entryOfKey (tupleKind (qR P w)))/\(xs.map (·.1)).Nodup
 | .set S n=>h.SetOf (intKind P w) a S n
 | .ins C dx fs=>H dx=↑(.own a)/\fs.length<=1000/\dx≠a/\h.get? a=↑(PySem.W.instObj C dx)/\
   ∃mA,h.Ns1 dx mA/\(∀f,MN (fs.lookup f) (mA f))/\PySem.Within mA (fs.map (·.1))
 | .own _=>∃o,h.get? a=↑o
 | .xd fs=>∃mA,h.Ns1 a mA/\∀f,MN (fs.lookup f) (mA f)
 | .rng lo hi=>∃t u v,h.get? a=some {cls:= .type "range",data:= .fields (B1 [.int lo t,.int hi u,.int 1 v])}
 | .frz o u=>h.get? a=↑o/\HN H h a u
 | .tbl ps=>h.get? a=some {cls:= .none,data:= .fields ps}
 | .met f x=>h.get? a=↑(PySem.W.methodObj (-f) (-x))
 | .ext φ=>φ h/\(∃o,h.get? a=↑o)/\∀h1 c:Ψ,φ h1->(∀o,h1.get? a=↑o->c.get? a=↑o)->φ c
def M4(H:Hp)(h:Ψ):Prop:=∀a o,H a=↑o->HN P w H h a o
end
section
theorem HN.lt(x:HN P w H h a o):a<h.objs.size:=by
 cases o with
 |lst xs=>let#[_,_,_,_,e]:=x;exact Jk e
 |tup xs=>let#[_,_,_,p]:=x;exact p.lt
 |dK kvs=>let#[_,_,_,_,o,_,_,e,_]:=x;exact Jk e
 |dT kvs=>let#[_,_,_,_,o,_,_,e,_]:=x;exact Jk e
 |set S n=>let#[o,_,_,_,e,_]:=x;exact Jk e
 |ins C dx fs=>let#[_,_,_,e,_]:=x;exact Jk e
 |own y=>let#[_,e]:=x;exact Jk e
 |xd fs=>let#[_,#[_,_,_,e,_],_]:=x;exact Jk e
 |rng lo hi=>let#[_,_,_,e]:=x;exact Jk e
 |frz ob u=>let#[e,_]:=x;exact Jk e
 |tbl ps=>exact Jk (show h.get? a=↑_ from x)
 |met f y=>exact Jk (show h.get? a=↑_ from x)
 |ext φ=>let#[_,#[_,e],_]:=x;exact Jk e
theorem Paired.mapP{c d:Type}{F G:c->d->Prop}:∀{l₁:List c} {l₂:List d},Paired F l₁ l₂->(∀a b,F a b->G a b)->Paired G l₁ l₂
 |_,_,.nil,_=> .nil
 |_,_,.cons r t,f=> .cons (f _ _ r) (Paired.mapP t f)
theorem HN.stay(x:HN P w H h a o)(k:∀b u,(b=a\/H b=↑(.own a))->h.get? b=↑u->h'.get? b=↑u)
  (ho:∀b,H b=↑(.own a)->H' b=↑(.own a))(s:∀b xs,H b=↑(.tup xs)->H' b=↑(.tup xs)):HN P w H' h' a o:=by
 induction o with
 |lst xs=>let#[z,j,n,r,e]:=x;exact#[z,j,n,r,k _ _ (.inl Z) e]
 |tup xs=>let#[z,j,r,g,e,c]:=x;exact#[z,j,r,g,k _ _ (.inl Z) e,c]
 |dK kvs=>let#[z,y,m,r,g,es,i,e,c]:=x;exact#[z,y,m,r,g,es,i,k _ _ (.inl Z) e,c]
 |dT kvs=>
  let#[z,y,xs,r,g,es,i,e,c]:=x
  exact#[z,y,xs,Paired.mapP r λp q z=>#[z.1,s _ _ z.2.1,z.2.2],g,es,i,k _ _ (.inl Z) e,c]
 |set S n=>let#[g,es,i,t,e,c]:=x;exact#[g,es,i,t,k _ _ (.inl Z) e,c]
 |ins C dx fs=>
  let#[d,z,l,e,mA,#[od,es,i,A,c],r]:=x
  exact#[ho _ d,z,l,k _ _ (.inl Z) e,mA,#[od,es,i,k _ _ (.inr d) A,c],r]
 |own y=>let#[g,e]:=x;exact#[g,k _ _ (.inl Z) e]
 |xd fs=>let#[mA,#[od,es,i,e,c],r]:=x;exact#[mA,#[od,es,i,k _ _ (.inl Z) e,c],r]
 |rng lo hi=>let#[t,u,v,e]:=x;exact#[t,u,v,k _ _ (.inl Z) e]
 |frz g u ih=>let#[e,q]:=x;exact#[k _ _ (.inl Z) e,ih q]
 |tbl ps=>
  have e:h.get? a=some {cls:= .none,data:= .fields ps}:=x
  show h'.get? a=some {cls:= .none,data:= .fields ps}
  exact k a _ (.inl Z) e
 |met f y=>
  have e:h.get? a=↑(W.methodObj (-f) (-y)):=x
  show h'.get? a=↑(W.methodObj (-f) (-y))
  exact k a _ (.inl Z) e
 |ext φ=>let#[p,#[o,e],st]:=x;exact#[st _ _ p λo q=>k _ _ (.inl Z) q,#[o,k _ _ (.inl Z) e],st]
theorem M4.lt(x:M4 P w H h)(e:H a=↑o):a<h.objs.size:=(x a o e).lt
theorem M4.fresh(x:M4 P w H h)(e:h.objs.size<=a):H a=none:=by
 cases q:H a with
 |none=>rfl
 |some u=>exact absurd (Jn (x.lt q) e) (GJ _)
theorem M4.kept(x:M4 P w H h)(k:∀b u,h.get? b=↑u->h'.get? b=↑u):M4 P w H h':=λa o e=>
 (x a o e).stay (λb u _ q=>k b u q) (λ_ q=>q) λ_ _ q=>q
theorem M4.laid(x:M4 P w H h)(k:∀b u,h.get? b=↑u->h'.get? b=↑u)(hp:h.objs.size<=a)(new:HN P w (HG H a o) h' a o):M4 P w (HG H a o) h':=λb u e=>by
 have f:=x.fresh hp
 by_cases d:b=a
 .subst d;rw[qc]at e;cases e;exact new
 .rw[qh d]at e
  exact(x b u e).stay (λc v _ q=>k c v q) (λc q=>by rw[qh (qr q f)];exact q) λc xs q=>by rw[qh (qr q f)];exact q
end
def Rd(H:Hp)(a:Δ)(u:HO):Prop:=H a=↑u\/∃o,H a=↑(.frz o u)
theorem Rd.ok(r:Rd H a u)(x:M4 P w H h):HN P w H h a u:=by
 rcases r with r|⟨o,r⟩
 .exact x a u r
 .let#[_,q]:=x a _ r
  exact q
noncomputable def uO:Option HO->Prop
 |some (.lst _)=>True
 |some (.dK _)=>True
 |some (.dT _)=>True
 |some (.set _ _)=>True
 |some (.ins _ _ _)=>True
 |some (.ext _)=>True
 |_=>False
section
theorem M4.write(ok:M4 P w H h)(g:uO (H x))(he:e=x\/H e=↑(.own x))(k:∀b u,b≠e->h.get? b=↑u->h'.get? b=↑u)(l:∃u,h'.get? e=↑u)
  (new:HN P w (HG H x o') h' x o'):M4 P w (HG H x o') h':=λb u q=>by
 have d:∀c y,H c=↑(.own y)->c≠x:=λc y r z=>by subst z;rw[r]at g;exact g
 have f:∀c xs,H c=↑(.tup xs)->c≠x:=λc xs r z=>by subst z;rw[r]at g;exact g
 by_cases i:b=x
 .subst i;rw[qc]at q;cases q;exact new
 .rw[qh i]at q
  by_cases a:b=e
  .have m:H b=↑(.own x):=by
    rcases he with z|z
    .exact absurd (a.trans z) i
    .rw[a];exact z
   rw[q]at m;cases m
   let#[v,n]:=l
   exact#[v,by rw[a];exact n]
  .refine(ok b u q).stay (λc v j r=>k c v ?_ r) (λc r=>by rw[qh (d c b r)];exact r) λc xs r=>by rw[qh (f c xs r)];exact r
   rcases j with rfl|j
   .exact a
   .rintro rfl
    rcases he with z|z
    .exact d c b j z
    .rw[j]at z;cases z;exact i Z
end
structure Un(fs ex:Ι)(H H':Hp)(h h':Ψ):Prop where
 keep:∀b o,h.get? b=↑o->H b=none->b∉fs->b∉ex->h'.get? b=↑o
 slot:∀b o,h.get? b=↑o->H b=none->b∈fs->b∉ex->∃sl,h'.get? b=some {o with slots:=sl}
 free:∀b o,h.get? b=↑o->H b=none->b∉ex->H' b=none
 there:∀b o,h.get? b=↑o->b∉ex->∃o',h'.get? b=↑o'
 tups:∀b xs,H b=↑(.tup xs)->H' b=↑(.tup xs)
 frzs:∀b o u,H b=↑(.frz o u)->H' b=↑(.frz o u)
 tbls:∀b ps,H b=↑(.tbl ps)->∃more,H' b=↑(.tbl (ps++more))
section
variable{fs:Ι}
theorem Un.any(u:Un fs ex H H1 h h1){b:Δ}{ob:Obj}(q:h.get? b=↑ob)(n:H b=none)(hx:b∉ex):∃c,h1.get? b=some {ob with slots:=c}:=by
 by_cases a:b∈fs
 .exact u.slot b ob q n a hx
 .exact#[ob.slots,u.keep b ob q n a hx]
theorem Un.kept(k:∀b u,h.get? b=↑u->h'.get? b=↑u):Un fs ex H H h h':=
 #[λb a q _ _ _=>k b a q,λb a q _ _ _=>#[a.slots,k b a q],λ_ _ _ n _=>n,λb a q _=>#[a,k b a q],λ_ _ q=>q,λ_ _ _ q=>q,λ_ ps q=>#[(B1 []),by rw[q];simp]]
theorem Un.refl:Un fs ex H H h h:=Un.kept λ_ _ q=>q
theorem Un.laid(k:∀b u,h.get? b=↑u->h'.get? b=↑u)(hp:h.objs.size<=a)(hn:H a=none):Un fs ex H (HG H a o) h h' where
 keep:=λb u q _ _ _=>k b u q
 slot:=λb u q _ _ _=>#[u.slots,k b u q]
 free:=λb u q n _=>by rw[qh (Jq (Jn (Jk q) hp))];exact n
 there:=λb u q _=>#[u,k b u q]
 tups:=λb xs q=>by rw[qh (qr q hn)];exact q
 frzs:=λb u xs q=>by rw[qh (qr q hn)];exact q
 tbls:=λb ps q=>#[(B1 []),by rw[qh (qr q hn),q];simp]
theorem Un.write(c:uO (H x))(he:e=x\/H e=↑(.own x))(k:∀b u,b≠e->h.get? b=↑u->h'.get? b=↑u)(f:∃u,h'.get? e=↑u):Un fs ex H (HG H x o) h h':=by
 have g:∀b,H b=none->b≠x:=λb n z=>by subst z;rw[n]at c;exact c
 have i:∀b,H b=none->b≠e:=λb n z=>by
  subst z;rcases he with r|r
  .exact g b n r
  .rw[n]at r;cases r
 have d:∀b u,H b=↑u->¬uO ↑u->b≠x:=λb u q nm z=>by subst z;rw[q]at c;exact nm c
 refine#[λb u q n _ _=>k b u (i b n) q,λb u q n _ _=>#[u.slots,k b u (i b n) q],λb u q n _=>by rw[qh (g b n)];exact n,λb u q _=>?_,
  λb xs q=>by rw[qh (d b _ q λz=>z)];exact q,λb u xs q=>by rw[qh (d b _ q λz=>z)];exact q,λb ps q=>#[(B1 []),by rw[qh (d b _ q λz=>z),q];simp]]
 by_cases a:b=e
 .subst a;exact f
 .exact#[u,k b u a q]
end
noncomputable def AV(h:Ψ)(H:Hp):Ι:=(B2 h.objs.size).filter λa=>(H a).isSome
noncomputable def a7(h:Ψ)(H:Hp):Ψ:=PySem.W.hideAll h (AV h H)
theorem vN(h:Ψ)(H:Hp):(a7 h H).objs.size=h.objs.size:=W.hideAll_size _ _
theorem Aw{h:Ψ}{H:Hp}{b:Δ}{o:Obj}(e:h.get? b=↑o)(n:H b=none):(a7 h H).get? b=↑o:=
 W.hideAll_get _ e λa=>by
  have q:(H b).isSome=true:=(GK.mp a).2
  rw[n]at q;simp at q
theorem CH{b:Δ}{o:Obj}(e:(a7 h H).get? b=↑o):h.get? b=↑o/\H b=none:=by
 have a:h.get? b=↑o:=W.of_hideAll (AV h H) e
 exists a
 cases q:H b with
 |none=>rfl
 |some x=>
  have c:b∈AV h H:=GK.mpr #[Ih.mpr (Jk a),by simp [q]]
  have z:(a7 h H).get? b=none:=W.hideAll_none (AV h H) c
  rw[z]at e;cases e
structure PX(K:ι)(mg:HC)(base:Ψ):Prop where
 kin:K.In base
 glob:base.Ns η mg
 blt:∃mb,base.Ns builtinsNs mb/\∀x:Str,x≠"__name__"->mb x=bootBuiltins x
 nolimit:base.NoLimit
structure Cx where
 prog:Ξ
 w:Ω
 K:ι
 mg:Str->Ο
 base:Ψ
 A:Around
 N:Β
 s₀:Θ
 H₀:Hp
 env:Env
 outer:Τ
 stack:Τ
 ex:Ι
 fn:Str->Bool
 calm:Bool
 pn:List (Δ×Obj)
 xe:Γ->Θ->Prop
noncomputable def bo(l:Τ):Ι:=l.filterMap (·.frame)
noncomputable abbrev Cx.fs(X:Cx):Ι:=bo X.outer
def Ef(a:Scope)(x:Str):Prop:=a.names.lookup x=some .local\/a.names.lookup x=some .cell\/a.names.lookup x=some .free
def iE(a:Scope)(x:Str):Prop:=a.names.lookup x=some .local\/a.names.lookup x=some .cell
def FV(a:Env)(h:Ψ)(m:HC)(x:Str)(u:Γ):Prop:=
 (a.kindOf x=some .local/\m x=↑u)\/((a.kindOf x=some .cell\/a.kindOf x=some .free)/\∃c,a.cells.lookup x=↑c/\h.IsCell c ↑u)
structure Cx.Ok(X:Cx):Prop where
 mod:PX X.K X.mg X.base
 kind:X.env.scope.kind= .function
 glob:X.env.globals=η
 blt:X.env.builtins=builtinsNs
 above:X.s₀.heap.objs.size<=X.env.locals
 inj:∀x y c,X.env.cells.lookup x=↑c->X.env.cells.lookup y=↑c->x=y
 has:∀x,(X.env.kindOf x=some .cell\/X.env.kindOf x=some .free)->∃c,X.env.cells.lookup x=↑c
 cab:∀x c,X.fn x=true->X.env.cells.lookup x=↑c->X.s₀.heap.objs.size<=c
 hd:X.calm=true->X.A.handled=none
 frames:X.A.frames=↑X.stack
 stk:X.stack=X.outer\/(X.stack=X.env::X.outer/\X.env.frame=↑X.env.locals)
 exf:∀b∈X.ex,b≠X.env.locals/\∀x c,X.env.cells.lookup x=↑c->c≠b
 bs:∀b o,X.base.get? b=↑o->X.s₀.heap.get? b=↑o/\X.H₀ b=none
 bsz:X.base.objs.size<=X.s₀.heap.objs.size
 noex:∀b o,X.base.get? b=↑o->b∉X.ex
 exfs:∀b∈X.ex,b∉X.fs
 funs:X.s₀.heap.FunFrames X.base X.outer
 frf:∀b∈X.fs,X.H₀ b=none
structure HH(X:Cx)(pins:HD)(σ:List Μ)(H:Hp)(s:Θ):Prop where
 ok:X.Ok
 os:s.os=X.s₀.os
 bare:AllBare s.gens
 base:Un X.fs X.ex X.H₀ H X.s₀.heap s.heap
 loc:∃m,s.heap.Ns X.env.locals m/\∀(i:Nat) (x:Str) (v:V),X.N[i]? =↑x->σ[i]? =↑(↑v)->Ef X.env.scope x->∃u,HJ v u/\FV X.env s.heap m x u
 cell:∀x c,X.env.cells.lookup x=↑c->∃v,s.heap.IsCell c v
 free:H X.env.locals=none
 freeC:∀x c,X.env.cells.lookup x=↑c->H c=none
 pin:∀p∈X.pn++pins,s.heap.get? p.1=↑p.2/\H p.1=none/\p.1≠X.env.locals/\p.1∉X.fs/\∀v,p.2.data≠ .cell v
 hok:M4 X.prog X.w H s.heap
 len:σ.length=X.N.length
section
variable{X:Cx}
theorem Cx.Ok.nofr(ok:X.Ok){b:Δ}{o:Obj}(e:X.base.get? b=↑o):b∉X.fs:=λa=>by
 have:=(ok.funs.mem a).1
 rw[e]at this;cases this
theorem HH.bs(I:HH X pins σ H s):∀b o,X.base.get? b=↑o->s.heap.get? b=↑o/\H b=none:=λb o e=>
 #[I.base.keep b o (I.ok.bs b o e).1 (I.ok.bs b o e).2 (I.ok.nofr e) (I.ok.noex b o e),I.base.free b o (I.ok.bs b o e).1 (I.ok.bs b o e).2 (I.ok.noex b o e)]
theorem HH.bk(I:HH X pins σ H s):∀b o,X.base.get? b=↑o->s.heap.get? b=↑o:=λb o e=>(I.bs b o e).1
theorem HH.mod(I:HH X pins σ H s):PX X.K X.mg X.base:=I.ok.mod
theorem HH.kIn(I:HH X pins σ H s):X.K.In s.heap:=I.ok.mod.kin.keeps I.bk
theorem HH.lt(I:HH X pins σ H s):X.env.locals<s.heap.objs.size:=let⟨_,hn,_⟩:=I.loc;hn.lt
theorem HH.sz(I:HH X pins σ H s):X.s₀.heap.objs.size<=s.heap.objs.size:=Jg I.ok.above (Jv I.lt)
theorem HH.nofs(I:HH X pins σ H s){a:Δ}(h:s.heap.objs.size<=a):a∉X.fs:=λc=>by
 let#[_,o,d,_]:=I.ok.funs.mem c;exact absurd (Jn (Jk d) (Jg I.sz h)) (GJ _)
theorem HH.cne(I:HH X pins σ H s):∀x c,X.env.cells.lookup x=↑c->c≠X.env.locals:=λx c e z=>by
 let#[v,o,g,f]:=I.cell x c e;let#[m,#[o',es,h,a,d,_],_]:=I.loc;rw[z,a]at g;cases g;rw[d]at f;cases f
theorem HH.funs(I:HH X pins σ H s):s.heap.FunFrames X.base X.outer:=by
 have all:∀(l:Τ),(∀b∈bo l,b∈X.fs)->X.s₀.heap.FunFrames X.base l->s.heap.FunFrames X.base l:=by
  intro l
  induction l with
  |nil=>intro _ _;trivial
  |cons env r ih=>
   intro hs f;let#[hk,#[L,o,c,i,j,h],g]:=f;have d:L∈X.fs:=hs L (by unfold bo;rw[Ly,c];exact JM)
   let#[m,e]:=I.base.slot L o j (I.ok.frf L d) d λz=>I.ok.exfs L z d
   exact#[hk,#[L,_,c,i,e,h],ih (λb a=>hs b (by unfold bo;rw[Ly,c];exact JS _ a)) g]
 exact all X.outer (λ_ a=>a) I.ok.funs
theorem HH.stack(I:HH X pins σ H s):s.heap.FunFrames X.base X.stack:=by
 rcases I.ok.stk with e|⟨e,a⟩
 .rw[e];exact I.funs
 .rw[e]
  let#[m,c,_]:=I.loc;refine .cons (by rw[I.ok.kind];decide) a c ?_ I.funs
  exact Ψ.get?_none_of_le (Jg I.ok.bsz I.ok.above)
theorem HH.stkSub(I:HH X pins σ H s):∀b∈bo X.stack,b∈X.env.locals::X.fs:=λb a=>by
 rcases I.ok.stk with e|⟨e,c⟩
 .rw[e]at a;exact JS _ a
 .rw[e]at a
  unfold bo at a;rw[Ly,c]at a;exact a
theorem HH.stkFree(I:HH X pins σ H s):∀b∈bo X.stack,H b=none:=λb a=>by
 rcases Jp.mp (I.stkSub b a)with e|a
 .rw[e];exact I.free
 .let#[_,o,c,_]:=I.ok.funs.mem a
  exact I.base.free b o c (I.ok.frf b a) λz=>I.ok.exfs b z a
theorem HH.step{t':Nat}{d':Drawn}{ch:Ι}(I:HH X pins σ H s)
  (g:∀b∈ch,(b∈X.ex\/X.s₀.heap.objs.size<=b)/\b≠X.env.locals/\(∀x c,X.env.cells.lookup x=↑c->c≠b)/\∀p∈X.pn++pins,p.1≠b)
  (j:∀b o,b≠X.env.locals->b∉X.fs->b∉ch->s.heap.get? b=↑o->H b=none->h'.get? b=↑o)
  (A:∀b o,b≠X.env.locals->b∈X.fs->b∉ch->s.heap.get? b=↑o->H b=none->∃Q,h'.get? b=some {o with slots:=Q})(f:∀b o,b∉ch->s.heap.get? b=↑o->H b=none->H' b=none)
  (B:∀b o,b∉ch->s.heap.get? b=↑o->∃o',h'.get? b=↑o')
  (L:∀b xs,H b=↑(.tup xs)->H' b=↑(.tup xs))(E:∀b o u,H b=↑(.frz o u)->H' b=↑(.frz o u))(M:∀b ps,H b=↑(.tbl ps)->∃F,H' b=↑(.tbl (ps++F)))
  (ns:∀m,s.heap.Ns X.env.locals m->h'.Ns X.env.locals m)(P:M4 X.prog X.w H' h')(hg:AllBare g'):
  HH X pins σ H' {s with heap:=h',gens:=g',drawn:=d',toks:=t'}:=by
 have G:∀b o,X.s₀.heap.get? b=↑o->b≠X.env.locals:=λb o e=>Jq (Jn (Jk e) I.ok.above)
 have y:∀b o,X.s₀.heap.get? b=↑o->b∉X.ex->b∉ch:=λb o e a C=>by
  rcases(g b C).1 with z|z
  .exact a z
  .exact absurd (Jn (Jk e) z) (GJ _)
 have t:∀x c,X.env.cells.lookup x=↑c->∀v,s.heap.IsCell c v->h'.IsCell c v:=λx c e v ⟨o,D,O⟩=>by
  have h:c∉ch:=λz=>(g c z).2.2.1 x c e Z
  by_cases T:c∈X.fs
  .let#[Q,q]:=A c o (I.cne x c e) T h D (I.freeC x c e)
   exact#[_,q,O]
  .exact#[o,j c o (I.cne x c e) T h D (I.freeC x c e),O]
 refine#[I.ok,I.os,hg,#[λb o e n C a=>?_,λb o e n C a=>?_,λb o e n a=>?_,λb o e a=>?_,λb xs e=>L b xs (I.base.tups b xs e),λb o xs e=>E b o xs (I.base.frzs b o xs e),λb ps e=>?_],?_,λx c e=>?_,?_,λx c e=>?_,λp R=>?_,P,I.len]
 .exact j b o (G b o e) C (y b o e a) (I.base.keep b o e n C a) (I.base.free b o e n a)
 .let#[Q,w]:=I.base.slot b o e n C a
  let#[N,J]:=A b _ (G b o e) C (y b o e a) w (I.base.free b o e n a)
  exact#[N,J]
 .let#[o',w]:=I.base.there b o e a
  exact f b o' (y b o e a) w (I.base.free b o e n a)
 .let#[o',w]:=I.base.there b o e a
  exact B b o' (y b o e a) w
 .let#[Y,w]:=I.base.tbls b ps e
  let#[m2,J]:=M b _ w
  exact#[Y++m2,by rw[J,Array.append_assoc]]
 .let#[m,hn,hl]:=I.loc
  refine#[m,ns m hn,λi x v w J W=>?_]
  let#[u,r,l]:=hl i x v w J W;exists u,r
  rcases l with l|⟨k,c,e,z⟩
  .exact .inl l
  .exact .inr #[k,c,e,t x c e _ z]
 .let#[v,z]:=I.cell x c e
  exact#[v,t x c e v z]
 .let#[m,#[o,_,_,D,_],_]:=I.loc
  exact f _ o (λz=>(g _ z).2.1 Z) D I.free
 .let#[v,o,D,O]:=I.cell x c e
  exact f c o (λz=>(g c z).2.2.1 x c e Z) D (I.freeC x c e)
 .let#[e,n,U,S,d]:=I.pin p R
  have h:p.1∉ch:=λz=>(g p.1 z).2.2.2 p R Z
  exact#[j p.1 p.2 U S h e n,f p.1 p.2 h e n,U,S,d]
theorem HH.un{t':Nat}(I:HH X pins σ H s)(u:Un X.fs [] H H' s.heap h')(f:M4 X.prog X.w H' h'):HH X pins σ H' {s with heap:=h',toks:=t'}:=by
 let#[m,#[o,es,t,h,r],_]:=id I.loc;let#[q,l]:=u.any h I.free (by simp)
 exact I.step (g':=s.gens) (d':=s.drawn) (ch:=[]) (λ_ z=>nomatch z) (λb o _ d _ e n=>u.keep b o e n d (by simp)) (λb o _ d _ e n=>u.slot b o e n d (by simp)) (λb o _ e n=>u.free b o e n (by simp)) (λb o _ e=>u.there b o e (by simp)) u.tups u.frzs u.tbls (λp i=>by
  let#[o',c,g,a,j]:=i;rw[h]at a;cases a
  exact#[_,c,g,l,j]) f I.bare
theorem HH.call{t':Nat}{d':Drawn}{ch:Ι}(I:HH X pins σ H s)(u:Un (bo X.stack) ch H H' s.heap h')(h:M4 X.prog X.w H' h')(hg:AllBare g')
  (d:∀b∈ch,(b∈X.ex\/X.s₀.heap.objs.size<=b)/\b≠X.env.locals/\(∀x c,X.env.cells.lookup x=↑c->c≠b)/\∀p∈X.pn++pins,p.1≠b):
  HH X pins σ H' {s with heap:=h',gens:=g',drawn:=d',toks:=t'}:=by
 let#[m,#[o,es,A,l,r],_]:=id I.loc;let#[y,i]:=u.any l I.free λz=>(d _ z).2.1 Z
 exact I.step (ch:=ch) d (λb o i q a e n=>u.keep b o e n (λz=>(Jp.mp (I.stkSub b z)).elim i q) a) (λb o _ _ a e n=>u.any e n a) (λb o a e n=>u.free b o e n a) (λb o a e=>u.there b o e a) u.tups u.frzs u.tbls (λw t=>by
  let#[o',g,j,f,v]:=t;rw[l]at f;cases f
  exact#[_,g,j,i,v]) h hg
theorem HH.turned{t':Nat}{it:Δ}(I:HH X pins σ H s)(k:∀b o,b≠it->s.heap.get? b=↑o->h'.get? b=↑o)(hn:H it=none)(f:it≠X.env.locals)
  (h1:it∈X.ex\/X.s₀.heap.objs.size<=it)(h2:∀x c,X.env.cells.lookup x=↑c->c≠it)(j:∀p∈X.pn++pins,p.1≠it):HH X pins σ H {s with heap:=h',toks:=t'}:=by
 have d:∀b u,H b=↑u->b≠it:=λb u e z=>by rw[z,hn]at e;cases e
 refine I.step (g':=s.gens) (d':=s.drawn) (ch:=[it]) (λb h=>?_) (λb o _ _ a e _=>k b o (λz=>a (by simp [z])) e) (λb o _ _ a e _=>#[o.slots,k b o (λz=>a (by simp [z])) e]) (λ_ _ _ _ n=>n)
  (λb o a e=>#[o,k b o (λz=>a (by simp [z])) e]) (λ_ _ e=>e) (λ_ _ _ e=>e) (λb ps e=>#[(B1 []),by rw[e];simp]) (λm i=>?_) (λb u e=>?_) I.bare
 .have e:b=it:=by simpa using h
  subst e
  exact#[h1,f,h2,j]
 .let#[o,es,g,l,r]:=i
  exact#[o,es,g,k _ o (Ne.symm f) l,r]
 .refine(I.hok b u e).stay (λc v a q=>k c v ?_ q) (λ_ q=>q) λ_ _ q=>q
  rcases a with z|z
  .rw[z];exact d b u e
  .exact d c _ z
theorem HH.tok(I:HH X pins σ H s)(t:Nat):HH X pins σ H {s with toks:=t}:=I.un (h':=s.heap) (t':=t) Un.refl I.hok
theorem HH.kept{t':Nat}(I:HH X pins σ H s)(k:∀b u,s.heap.get? b=↑u->h'.get? b=↑u):HH X pins σ H {s with heap:=h',toks:=t'}:=I.un (Un.kept k) (I.hok.kept k)
theorem HH.laid{a:Δ}{t':Nat}(I:HH X pins σ H s)(k:∀b u,s.heap.get? b=↑u->h'.get? b=↑u)(hp:s.heap.objs.size<=a)(new:HN X.prog X.w (HG H a o) h' a o):
  HH X pins σ (HG H a o) {s with heap:=h',toks:=t'}:=I.un (Un.laid k hp (I.hok.fresh hp)) (I.hok.laid k hp new)
theorem HH.write{e:Δ}{t':Nat}(I:HH X pins σ H s)(c:uO (H x))(he:e=x\/H e=↑(.own x))(k:∀b u,b≠e->s.heap.get? b=↑u->h'.get? b=↑u)(a:∃u,h'.get? e=↑u)
  (new:HN X.prog X.w (HG H x o) h' x o):HH X pins σ (HG H x o) {s with heap:=h',toks:=t'}:=I.un (Un.write c he k a) (I.hok.write c he k a new)
theorem HH.pins_of{pins':HD}(I:HH X pins σ H s)(h:∀p∈pins',s.heap.get? p.1=↑p.2/\H p.1=none/\p.1≠X.env.locals/\p.1∉X.fs/\∀v,p.2.data≠ .cell v):HH X pins' σ H s:=
 #[I.ok,I.os,I.bare,I.base,I.loc,I.cell,I.free,I.freeC,λp a=>(JD.mp a).elim (λz=>I.pin p (GB _ z)) (h p),I.hok,I.len]
theorem nz{N:Β}(hN:N.Nodup){i j:Nat}{x:Str}(a:N[i]? =↑x)(b:N[j]? =↑x):i=j:=by
 let#[h1,c]:=Jw.mp a;let#[e,d]:=Jw.mp b
 exact(Ot hN).mp (c.trans d.symm)
theorem fu{i:Nat}{x:Str}{Q:Unit->Θ->Prop}(I:HH X pins σ H s)(hN:X.N.Nodup)(hi:X.N[i]? =↑x)(hx:iE X.env.scope x)(r:HJ v u)
  (h:∀s',HH X pins (σ.set i ↑v) H s'->(∃a,Ψ.SameBut a s.heap s'.heap/\(a=X.env.locals\/X.env.cells.lookup x=↑a))->Q () s')(hf:X.fn x=true\/X.env.scope.names.lookup x=some .local:=by first|exact .inl Z|exact .inr Z|assumption):ε M A (storeName X.env x u) Q E s:=by
 let#[m,hn,hl]:=id I.loc;have L:(X.env.scope.kind== .class||(X.env.scope.kind== .module&&X.env.locals != X.env.globals))=false:=by rw[I.ok.kind];rfl
 have B:i<σ.length:=by rw[I.len];exact(Jw.mp hi).1
 have cne:=I.cne;have g:∀{a:Δ} {h':Ψ},(∃o,s.heap.get? a=↑o/\H a=none)->Ψ.SameBut a s.heap h'->M4 X.prog X.w H h':=λ{a h'} ha hs b ob e=>by
  let#[_,_,t]:=ha;refine(I.hok b ob e).stay (λc R l q=>(hs.2 c ?_).trans q) (λ_ q=>q) λ_ _ q=>q
  rintro rfl
  rcases l with rfl|l
  .rw[t]at e;cases e
  .rw[t]at l;cases l
 rcases hx with hk|hk
 .refine wpAny_storeName_local hk hn (λh' U hs=>?_) L
  let#[oL,_,_,a0,_]:=id hn;refine h _ #[I.ok,I.os,I.bare,#[λb o e n F hx=>?_,λb o e n F hx=>?_,I.base.free,λb o e hx=>?_,I.base.tups,I.base.frzs,I.base.tbls],#[_,U,λj y v' f w T=>?_],λy c e=>?_,I.free,I.freeC,λp Y=>?_,g #[oL,a0,I.free] hs,by simpa using I.len] #[_,hs,.inl Z]
  .exact(hs.2 b (Jq (Jn (Jk e) I.ok.above))).trans (I.base.keep b o e n F hx)
  .let#[sl,f]:=I.base.slot b o e n F hx
   exact#[sl,(hs.2 b (Jq (Jn (Jk e) I.ok.above))).trans f]
  .let#[o',f]:=I.base.there b o e hx
   exact#[o',(hs.2 b (Jq (Jn (Jk e) I.ok.above))).trans f]
  .by_cases D:j=i
   .subst D
    rw[hi]at f;cases f
    rw[LL B]at w;cases w
    exact#[u,r,.inl #[hk,by simp]]
   .rw[LM (Ne.symm D)]at w
    let#[u',W,q]:=hl j y v' f w T;exists u',W
    rcases q with⟨k,e⟩|⟨k,c,e,z⟩
    .refine .inl #[k,?_]
     have:y≠x:=λe=>D (nz hN f (e▸hi))
     simp [this,e]
    .exact .inr #[k,c,e,z.sameBut hs (cne y c e)]
  .let#[R,z]:=I.cell y c e
   exact#[R,z.sameBut hs (cne y c e)]
  .let#[e,n,S,nf,d]:=I.pin p Y
   exact#[(hs.2 p.1 S).trans e,n,S,nf,d]
 .have C:X.fn x=true:=by
   rcases hf with z|z
   .exact z
   .rw[z]at hk;cases hk
  let#[c,l]:=I.ok.has x (.inl hk)
  let#[R,z]:=I.cell x c l;refine wpAny_storeName_cell I.ok.kind hk l z (λh' G hs=>?_)
  let#[oc,N,O]:=id z;refine h {s with heap:=h'} #[I.ok,I.os,I.bare,#[λb o e n F hx=>?_,λb o e n F hx=>?_,I.base.free,λb o e hx=>?_,I.base.tups,I.base.frzs,I.base.tbls],#[m,hn.sameBut hs (Ne.symm (cne x c l)),λj y v' f w T=>?_],λy P e=>?_,I.free,I.freeC,λp Y=>?_,g #[oc,N,I.freeC x c l] hs,by simpa using I.len] #[c,hs,.inr l]
  .exact(hs.2 b (Jq (Jn (Jk e) (I.ok.cab x c C l)))).trans (I.base.keep b o e n F hx)
  .let#[sl,f]:=I.base.slot b o e n F hx
   exact#[sl,(hs.2 b (Jq (Jn (Jk e) (I.ok.cab x c C l)))).trans f]
  .let#[o',f]:=I.base.there b o e hx
   exact#[o',(hs.2 b (Jq (Jn (Jk e) (I.ok.cab x c C l)))).trans f]
  .by_cases D:j=i
   .subst D
    rw[hi]at f;cases f
    rw[LL B]at w;cases w
    exact#[u,r,.inr #[.inl hk,c,l,G]]
   .rw[LM (Ne.symm D)]at w
    let#[u',W,q]:=hl j y v' f w T;exists u',W
    rcases q with q|⟨k,P,e,z'⟩
    .exact .inl q
    .refine .inr #[k,P,e,z'.sameBut hs ?_]
     rintro rfl
     exact D (nz hN f (I.ok.inj _ _ _ e l▸hi))
  .by_cases J:P=c
   .subst J;exact#[_,G]
   .let#[w2,z2]:=I.cell y P e
    exact#[w2,z2.sameBut hs J]
  .let#[e,n,S,nf,d]:=I.pin p Y
   refine#[(hs.2 p.1 ?_).trans e,n,S,nf,d]
   intro q;rw[q,N]at e;have q':oc=p.2:=Jx e
   exact d R (by rw[<- q'];exact O)
theorem lG{i:Nat}{x:Str}{Q:Unit->Θ->Prop}(I:HH X pins σ H s)(hN:X.N.Nodup)(hi:X.N[i]? =↑x)(hx:iE X.env.scope x)(r:HJ v u)
  (h:∀s',HH X pins (σ.set i ↑v) H s'->Q () s')(hf:X.fn x=true\/X.env.scope.names.lookup x=some .local:=by first|exact .inl Z|exact .inr Z|assumption):ε M A (storeName X.env x u) Q E s:=
 fu I hN hi hx r (λs' a _=>h s' a) hf
theorem HH.call'{s':Θ}{ch:Ι}(I:HH X pins σ H s)(ho:s'.os=s.os)(u:Un (bo X.stack) ch H H' s.heap s'.heap)(a:M4 X.prog X.w H' s'.heap)(hg:AllBare s'.gens)
  (d:∀b∈ch,(b∈X.ex\/X.s₀.heap.objs.size<=b)/\b≠X.env.locals/\(∀x c,X.env.cells.lookup x=↑c->c≠b)/\∀p∈X.pn++pins,p.1≠b):HH X pins σ H' s':=by
 let#[h',g',d',t',o']:=s';have e:o'=s.os:=ho
 subst e;exact I.call (g':=g') (t':=t') (d':=d') u a hg d
end
noncomputable abbrev XK:=Γ->Χ->Hp->Prop
abbrev St:=List Μ
noncomputable abbrev VK:=V->Hp->Prop
noncomputable abbrev TE:=St->Hp->VK->Prop
noncomputable abbrev TT:=St->Hp->(Bool->Hp->Prop)->Prop
noncomputable abbrev TA:=St->Hp->(Α->Hp->Prop)->Prop
structure MF where
 nx:St->Hp->Prop
 rt:VK
 bk:St->Hp->Prop:=λ_ _=>False
 ct:St->Hp->Prop:=λ_ _=>False
noncomputable abbrev TS:=MF->St->Hp->Prop
def EP(X:Cx)(pins:HD)(σ:St)(Q:VK)(u:Γ)(s':Θ):Prop:=∃v H',HH X pins σ H' s'/\HJ v u/\Q v H'
def TP(X:Cx)(pins:HD)(σ:St)(Q:Bool->Hp->Prop)(b:Bool)(s':Θ):Prop:=∃H',HH X pins σ H' s'/\Q b H'
def AP(X:Cx)(pins:HD)(σ:St)(Q:Α->Hp->Prop)(us:Η)(s':Θ):Prop:=∃a H',HH X pins σ H' s'/\HL a us/\Q a H'
def SP(X:Cx)(pins:HD)(D:MF)(f:Flow)(s':Θ):Prop:=
 match f with
 | .next=>∃a H',HH X pins a H' s'/\D.nx a H'
 | .brk=>∃a H',HH X pins a H' s'/\D.bk a H'
 | .cont=>∃a H',HH X pins a H' s'/\D.ct a H'
 | .ret u=>∃v a H',HH X pins a H' s'/\HJ v u/\D.rt v H'
def PE(X:Cx)(e:Φ)(t:TE):Prop:=
 ∀(pins:HD) (s:Θ) (σ:St) (H:Hp) (Q:VK),HH X pins σ H s->t σ H Q->ε (model X.prog X.w) X.A (eval e X.env) (EP X pins σ Q) X.xe s
def PT(X:Cx)(e:Φ)(t:TT):Prop:=
 ∀(pins:HD) (s:Θ) (σ:St) (H:Hp) (Q:Bool->Hp->Prop),HH X pins σ H s->t σ H Q->ε (model X.prog X.w) X.A (isTrue e X.env (eval e X.env)) (TP X pins σ Q) X.xe s
def PW(X:Cx)(e:Φ)(t:TT):Prop:=
 ∀(a:Sem Γ) (pins:HD) (s:Θ) (σ:St) (H:Hp) (Q:Bool->Hp->Prop),HH X pins σ H s->t σ H Q->ε (model X.prog X.w) X.A (isTrue e X.env a) (TP X pins σ Q) X.xe s
theorem PW.pt(h:PW X e t):PT X e t:=h _
def PA(X:Cx)(es:Κ)(t:TA):Prop:=
 ∀(pos:Pos) (pins:HD) (s:Θ) (σ:St) (H:Hp) (Q:Α->Hp->Prop),HH X pins σ H s->t σ H Q->ε (model X.prog X.w) X.A (spliced (backTo pos (θ es X.env))) (AP X pins σ Q) X.xe s
def PS(X:Cx)(st:δ)(t:TS):Prop:=
 ∀(pins:HD) (s:Θ) (σ:St) (H:Hp) (D:MF),HH X pins σ H s->t D σ H->ε (model X.prog X.w) X.A (exec st X.env) (SP X pins D) X.xe s
def NQ(X:Cx)(st:List δ)(t:TS):Prop:=
 ∀(pins:HD) (s:Θ) (σ:St) (H:Hp) (D:MF),HH X pins σ H s->t D σ H->ε (model X.prog X.w) X.A (execs st X.env) (SP X pins D) X.xe s
theorem qB{c:Type}{t:Sem c}{Q d:c->Θ->Prop}{M:Model}{A:Around}{E:Hu}{s:Θ}(h:ε M A t Q E s)(e:∀a s,Q a s->d a s):ε M A t d E s:=JJ h e λ_ _ x=>x
section
inductive Pj (i:Nat)(σ:L2.St)(H:Hp)(Q:VK):Prop
 |mk (v:_)(h1:σ[i]? =↑(↑v))(h2:Q v H)
noncomputable def EM(i:Nat):TE:=λσ H Q=>Pj i σ H Q
noncomputable def tC(v:V):TE:=λ_ H Q=>Q v H
theorem EJ{i:Nat}{x:Str}(hN:X.N[i]? =↑x)(hv:Ef X.env.scope x)(hd:(x==("__debug__":Str))=false:=by decide)(f:(x==("__classdict__":Str))=false:=by decide):PE X (.Name x pos) (EM i):=by
 intro pins s σ H Q I h;let#[v,e,h]:=h;let#[m,o,j]:=I.loc;let#[u,r,l]:=j i x v hN e hv;have d:EP X pins σ Q u s:=#[v,H,I,r,h]
 rcases l with⟨hk,n⟩|⟨hk,c,g,a⟩
 .exact wpAny_Name (wpAny_loadName_local I.ok.kind hk o n d) hd
 .rcases hk with hk|hk
  .exact wpAny_Name (wpAny_loadName_cell I.ok.kind hk g a d) hd
  .exact wpAny_Name (wpAny_loadName_free I.ok.kind hk g a d f) hd
theorem D9{i j pos}:PE X (.Constant (.int i) j pos) (tC (.int i)):=λ_ _ _ H _ I h=>wpAny_Constant_int #[.int i,H,I.tok _,#[0],h]
theorem Fh{b j pos}:PE X (.Constant (.bool b) j pos) (tC (.bl b)):=λ_ _ _ H _ I h=>Constant_bool #[.bl b,H,I,Z,h]
theorem E9{j pos}:PE X (.Constant .none j pos) (tC .non):=λ_ _ _ H _ I h=>Constant_none #[.non,H,I,Z,h]
theorem EK{x j pos}:PE X (.Constant (.str x) j pos) (tC (.str x)):=λ_ _ _ H _ I h=>Calls.Constant_str #[.str x,H,I.tok _,#[0],h]
def Gl(X:Cx)(x:Str):Prop:=X.env.kindOf x=some .globalImplicit
theorem fK{u:Γ}{Q:Hu}(I:HH X pins σ H s)(hg:Gl X x)(hm:X.mg x=↑u)(h:Q u s)
  (hd:(x==("__debug__":Str))=false:=by decide):ε (model X.prog X.w) X.A (eval (.Name x pos) X.env) Q E s:=
 Calls.Name_function_global I.ok.kind hg (Calls.loadGlobal_global (by rw[I.ok.glob];exact I.mod.glob.keeps I.bk) hm h) hd
theorem Zh{u:Γ}{Q:Hu}(I:HH X pins σ H s)(hg:Gl X x)(hm:X.mg x=none)(hv:bootBuiltins x=↑u)(h:Q u s)
  (hn:x≠"__name__":=by decide)(hd:(x==("__debug__":Str))=false:=by decide):ε (model X.prog X.w) X.A (eval (.Name x pos) X.env) Q E s:=by
 let#[c,h1,a]:=I.mod.blt;exact Calls.Name_function_global I.ok.kind hg (Calls.loadGlobal_builtin (by rw[I.ok.glob];exact I.mod.glob.keeps I.bk) hm (by rw[I.ok.blt];exact h1.keeps I.bk) ((a x hn).trans hv) h) hd
theorem Cl{u:Γ}(hg:Gl X x)(hm:X.mg x=↑u)(r:HJ v u)(hd:(x==("__debug__":Str))=false:=by decide):PE X (.Name x pos) (tC v):=
 λ_ _ _ H _ I h=>fK I hg hm #[v,H,I,r,h] hd
theorem Ci{u:Γ}(hg:Gl X x)(hm:X.mg x=none)(hv:bootBuiltins x=↑u)(r:HJ v u)(hn:x≠"__name__":=by decide)(hd:(x==("__debug__":Str))=false:=by decide):PE X (.Name x pos) (tC v):=
 λ_ _ _ H _ I h=>Zh I hg hm hv #[v,H,I,r,h] hn hd
variable{b:Φ}
def PC(X:Cx)(op:CmpOp)(a b:Φ)(t:TE):Prop:=
 ∀(pins:HD) (s:Θ) (σ:St) (H:Hp) (Q:VK),HH X pins σ H s->t σ H Q->
  ε (model X.prog X.w) X.A (eval a X.env) (λv d=>ε (model X.prog X.w) X.A (eval b X.env) (λu c=>ε (model X.prog X.w) X.A (compareOp op v u) (EP X pins σ Q) X.xe c) X.xe d) X.xe s
noncomputable def tB(t:TE):TT:=λσ H Q=>t σ H λx H1=>∃c,x= .bl c/\Q c H1
theorem wJ(h:PC X op a b t)(h1:behindInMarks op b=false:=by first|exact nobehind _ ⋯ ⋯|rfl):PT X (.Compare a [op] [b] pos) (tB t):=by
 intro pins s σ H Q I g;refine wpAny_isTrue_Compare1 (qB (h pins s σ H _ I g) λv n h1=>qB h1 λu l f=>qB f λc m j=>?_) h1
 let#[x,H1,e,i,q1]:=j;let#[d,rfl,q]:=q1;cases i;exact GM #[H1,e,q]
theorem Eg(h:PE X e t)(he:∀a,isTrue e X.env a=(do let v <- a;standAt e.pos;holding [v] (truthy v)):=by intro _;rfl):PT X e (tB t):=by
 intro pins s σ H Q I f;refine isTrue_plain (qB (h pins s σ H _ I f) λv j i=>?_) (he _)
 let#[x,H1,c,g,q1]:=i;let#[d,rfl,q]:=q1;cases g;exact GM #[H1,c,q]
noncomputable def DY(t u:TT):TT:=λσ H Q=>t σ H λc H1=>if c=true then u σ H1 Q else Q false H1
noncomputable def FL(t u:TT):TT:=λσ H Q=>t σ H λc H1=>if c=true then Q true H1 else u σ H1 Q
noncomputable def D6(t:TT):TT:=λσ H Q=>t σ H λc H1=>Q (! c) H1
theorem CK(ha:PT X a tA):PW X (.BoolOp .And [a] pos) tA:=by
 intro d pins s σ H Q I h;refine isTrue_and (qB (ha pins s σ H Q I h) λc f e=>?_)
 cases c with
 |true=>exact isTrue_and_nil e
 |false=>exact e
theorem Dg(ha:PT X a tA):PW X (.BoolOp .Or [a] pos) tA:=by
 intro d pins s σ H Q I h;refine isTrue_or (qB (ha pins s σ H Q I h) λc f e=>?_)
 cases c with
 |false=>exact isTrue_or_nil e
 |true=>exact e
theorem DT(ha:PT X a tA)(hb:PW X (.BoolOp .And (b::rest) pos) tB'):PW X (.BoolOp .And (a::b::rest) pos) (DY tA tB'):=by
 intro g pins s σ H Q I h;refine isTrue_and (qB (ha pins s σ H _ I h) λc f e=>?_)
 let#[H1,d,q1]:=e;cases c with
 |true=>exact hb g pins f σ H1 Q d q1
 |false=>exact#[H1,d,q1]
theorem Ff(ha:PT X a tA)(hb:PW X (.BoolOp .Or (b::rest) pos) tB'):PW X (.BoolOp .Or (a::b::rest) pos) (FL tA tB'):=by
 intro g pins s σ H Q I h;refine isTrue_or (qB (ha pins s σ H _ I h) λc f e=>?_)
 let#[H1,d,q1]:=e;cases c with
 |true=>exact#[H1,d,q1]
 |false=>exact hb g pins f σ H1 Q d q1
theorem DJ(ha:PT X a tA):PT X (.UnaryOp .Not a pos) (D6 tA):=by
 intro pins s σ H Q I h;exact isTrue_not (ha pins s σ H (λc H1=>Q (! c) H1) I h)
noncomputable def ux(ta tb:TE):TE:=λσ H Q=>ta σ H λx H1=>∃c,x= .bl c/\if c=true then tb σ H1 Q else Q (.bl false) H1
noncomputable def AM(ta:TE):TE:=λσ H Q=>ta σ H λx H1=>∃c,x= .bl c/\Q (.bl (! c)) H1
theorem C5{op}(h:PE X a t):PE X (.BoolOp op [a] pos) t:=λpins s σ H Q I c=>BoolOp_one (h pins s σ H Q I c)
theorem EZ(ha:PE X a ta)(hb:PE X (.BoolOp .And (b::rest) pos) tb):PE X (.BoolOp .And (a::b::rest) pos) (ux ta tb):=by
 intro pins s σ H Q I h;refine BoolOp_and (qB (ha pins s σ H _ I h) λv f g=>?_)
 let#[x,H1,d,e,q1]:=g;let#[c,rfl,q1]:=q1;cases e;refine GM ?_
 cases c with
 |true=>exact hb pins f σ H1 Q d q1
 |false=>exact#[.bl false,H1,d,Z,q1]
theorem EC(ha:PE X a ta):PE X (.UnaryOp .Not a pos) (AM ta):=by
 intro pins s σ H Q I h;refine UnaryOp_ (qB (ha pins s σ H _ I h) λv g f=>?_)
 let#[x,H1,e,d,q1]:=f;let#[c,rfl,q1]:=q1;cases d;exact not_of (GM #[.bl (! c),H1,e,Z,q1])
noncomputable def AY(t:TT)(ta tb:TE):TE:=λσ H Q=>t σ H λc H1=>if c=true then ta σ H1 Q else tb σ H1 Q
theorem Al(hc:PT X c tA)(ha:PE X a ta)(hb:PE X b tb):PE X (.IfExp c a b pos) (AY tA ta tb):=by
 intro pins s σ H Q I h;refine wpAny_IfExp (qB (hc pins s σ H _ I h) λd f g=>?_)
 let#[H1,e,q1]:=g;cases d with
 |true=>exact ha pins f σ H1 Q e q1
 |false=>exact hb pins f σ H1 Q e q1
end
def HK(K:ι)(H:Hp)(a:Δ)(xs:Α):Prop:=
 Rd H a (.lst xs)\/
  ∃(o:Obj) (c:Array Γ) (n:Nat),K.lookup a=↑o/\o.cls= .type "list"/\o.dict=none/\o.data= .seq c n/\c.size<=ζ/\HL xs c.toList
def HP(K:ι)(H:Hp)(a:Δ)(xs:Α):Prop:=
 Rd H a (.tup xs)\/
  ∃(o:Obj) (c:Array Γ) (n:Nat),K.lookup a=↑o/\o.cls= .type "tuple"/\o.data= .seq c n/\c.size<=ζ/\HL xs c.toList
noncomputable def FY:Γ->Μ
 | .none=>some .non
 | .bool b=>↑(.bl b)
 | .int i _=>↑(.int i)
 | .str x _=>↑(.str x)
 | .bytes b _=>↑(.byt b)
 | .float b _=>↑(.flt b)
 | .ref a=>↑(-a)
 | .type n=>↑(.ty n)
 |_=>none
theorem HJ.abs(r:HJ x u):FY u=↑x:=by
 cases x with
 |non=>cases r;rfl
 |bl _=>cases r;rfl
 |int _=>let#[t,rfl]:=r;rfl
 |str _=>let#[t,rfl]:=r;rfl
 |byt _=>let#[t,rfl]:=r;rfl
 |flt _=>let#[t,rfl]:=r;rfl
 |ref _=>cases r;rfl
 |ty _=>cases r;rfl
theorem HJ.inj(r:HJ x u)(q:HJ y u):x=y:=Jx (r.abs.symm.trans q.abs)
theorem HL.inj:∀{xs ys:Α} {us:Η},HL xs us->HL ys us->xs=ys
 :=by
 intro xs ys us h
 induction h generalizing ys with
 |nil=>intro g;cases g;rfl
 |cons r t ih=>intro g;cases g with
  |cons r' t'=>rw[r.inj r',ih t']
section
theorem HK.of{K:ι}(h:H a=↑(.lst xs)):HK K H a xs:= .inl (.inl h)
theorem HP.of{K:ι}(h:H a=↑(.tup xs)):HP K H a xs:= .inl (.inl h)
theorem HH.list(I:HH X pins σ H s)(h:HK X.K H a xs):∃c:Η,HL xs c/\PlainL s.heap a c.toArray/\xs.length<=ζ:=by
 rcases h with h|⟨o,c,n,hk,f,d,hs,g,r⟩
 .let#[z,c,n,r,e]:=h.ok I.hok
  exact#[c,r,#[_,n,e,40],z]
 .exists c.toList,r,#[o,n,I.kIn a o hk,f,d,by simpa using hs]
  have e:=r.length;simp only[JV]at e;lia
theorem HH.tuple(I:HH X pins σ H s)(h:HP X.K H a xs):∃c:Η,HL xs c/\IsTup s.heap a c.toArray/\xs.length<=ζ:=by
 rcases h with h|⟨o,c,n,hk,d,hs,f,r⟩
 .let#[z,c,r,p]:=h.ok I.hok
  exact#[c,r,p,z]
 .exists c.toList,r,#[o,I.kIn a o hk,d,n,by simpa using hs]
  have e:=r.length;simp only[JV]at e;lia
theorem HH.list_inj(I:HH X pins σ H s)(h:HK X.K H a xs)(h':HK X.K H a ys):xs=ys:=by
 let#[f,r,#[o,n,e,_,_,d],_]:=I.list h;let#[c,j,#[o',n',i,_,_,g],_]:=I.list h';rw[e]at i;cases i
 rw[d]at g;injection g with d1 _
 have:f=c:=by simpa using JY Ov d1
 subst this;exact r.inj j
theorem HH.tuple_inj(I:HH X pins σ H s)(h:HP X.K H a xs)(h':HP X.K H a ys):xs=ys:=by
 let#[f,r,#[o,e,_,n,d],_]:=I.tuple h;let#[c,j,#[o',i,_,n',g],_]:=I.tuple h';rw[e]at i;cases i
 rw[d]at g;injection g with d1 _
 have:f=c:=by simpa using JY Ov d1
 subst this;exact r.inj j
end
noncomputable abbrev Cx.wish(X:Cx)(E:Hu):Cx:={X with xe:=E}
noncomputable abbrev Cx.nox(X:Cx):Cx:=X.wish λ_ _=>False
theorem Cx.Ok.wish{X:Cx}(ok:X.Ok)(E:Hu):(X.wish E).Ok:=
 #[ok.mod,ok.kind,ok.glob,ok.blt,ok.above,ok.inj,ok.has,ok.cab,ok.hd,ok.frames,ok.stk,ok.exf,ok.bs,ok.bsz,ok.noex,ok.exfs,ok.funs,ok.frf]
theorem Cx.Ok.unwish{X:Cx}(ok:(X.wish E).Ok):X.Ok:=
 #[ok.mod,ok.kind,ok.glob,ok.blt,ok.above,ok.inj,ok.has,ok.cab,ok.hd,ok.frames,ok.stk,ok.exf,ok.bs,ok.bsz,ok.noex,ok.exfs,ok.funs,ok.frf]
section
variable{st:δ}
theorem HH.wish(I:HH X pins σ H s)(E:Hu):HH (X.wish E) pins σ H s:=#[I.ok.wish E,I.os,I.bare,I.base,I.loc,I.cell,I.free,I.freeC,I.pin,I.hok,I.len]
theorem HH.unwish(I:HH (X.wish E) pins σ H s):HH X pins σ H s:=#[I.ok.unwish,I.os,I.bare,I.base,I.loc,I.cell,I.free,I.freeC,I.pin,I.hok,I.len]
theorem SP.unwish(h:SP (X.wish E) pins D f s'):SP X pins D f s':=by
 cases f with
 |next=>let#[a,H',I,q]:=h;exact#[a,H',I.unwish,q]
 |brk=>let#[a,H',I,q]:=h;exact#[a,H',I.unwish,q]
 |cont=>let#[a,H',I,q]:=h;exact#[a,H',I.unwish,q]
 |ret u=>let#[v,a,H',I,r,q]:=h;exact#[v,a,H',I.unwish,r,q]
theorem NQ.nox{st:List δ}{t:TS}(h:NQ X.nox st t):NQ X st t:=λpins s σ H D I a=>
 JJ (h pins s σ H D (I.wish _) a) (λ_ _ q=>q.unwish) λ_ _ z=>False.elim z
noncomputable def uc:TS:=λD σ H=>D.nx σ H
noncomputable def ei(t u:TS):TS:=λD σ H=>t {D with nx:=u D} σ H
theorem BH:NQ X [] uc:=λ_ _ σ H _ I h=>wpAny_execs_nil #[σ,H,I,h]
theorem Ay(h1:PS X st t)(h2:NQ X rest u):NQ X (st::rest) (ei t u):=by
 intro pins s σ H D I h;refine wpAny_execs_cons (qB (h1 pins s σ H {D with nx:=u D} I h) λf d q=>?_)
 cases f with
 |next=>
  let#[a,H',c,q]:=q;exact h2 pins d a H' D c q
 |ret v=>exact q
 |brk=>exact q
 |cont=>exact q
theorem BF(h1:PS X st t):NQ X [st] t:=by
 intro pins s σ H D I h;refine wpAny_execs_cons (qB (h1 pins s σ H D I h) λf a q=>?_)
 cases f with
 |next=>exact wpAny_execs_nil q
 |ret v=>exact q
 |brk=>exact q
 |cont=>exact q
theorem HH.quiet{pins:HD}{σ:St}{H:Hp}{s:Θ}(I:HH X pins σ H s):interactive X.env=false:=by simp [interactive,I.ok.kind]
noncomputable def Bk(te:TE):TS:=λD σ H=>te σ H λ_ H1=>D.nx σ H1
theorem BN(he:PE X e te)(hs:swapsWith e none pos.line X.env=pure false:=by rfl):PS X (.Expr e pos) (Bk te):=by
 intro pins s σ H D I h;exact wpAny_Expr_any (qB (he pins s σ H _ I h) λv d ⟨x,H1,a,c,q1⟩=>#[σ,H1,a,q1]) I.quiet hs
noncomputable def EH(te:TE):TS:=λD σ H=>te σ H D.rt
theorem C9(he:PE X e te):PS X (.Return ↑e pos) (EH te):=by
 intro pins s σ H D I h;exact wpAny_Return_some (qB (he pins s σ H _ I h) λv d ⟨x,H1,c,a,q1⟩=>#[x,σ,H1,c,a,q1])
noncomputable def nQ(c:TT)(t u:TS):TS:=λD σ H=>c σ H λb H1=>if b=true then t D σ H1 else u D σ H1
theorem Fa{b:List δ}(hc:PT X c tc)(ha:NQ X a t)(hb:NQ X b u):PS X (.If c a b pos) (nQ tc t u):=by
 intro pins s σ H D I h;refine wpAny_If (qB (hc pins s σ H _ I h) λd f g=>?_)
 let#[H1,e,q1]:=g;cases d with
 |true=>exact ha pins f σ H1 D e q1
 |false=>exact hb pins f σ H1 D e q1
noncomputable def vX:TS:=λ_ _ _=>False
theorem vT:NQ X a vX:=λ_ _ _ _ _ _ h=>h.elim
end
noncomputable abbrev TG:=V->St->Hp->(St->Hp->Prop)->Prop
noncomputable abbrev ac:=Α->St->Hp->(St->Hp->Prop)->Prop
def PG(X:Cx)(a:Φ)(t:TG):Prop:=
 ∀(pins:HD) (s:Θ) (σ:St) (H:Hp) (v:V) (u:Γ) (Q:St->Hp->Prop),HH X pins σ H s->HJ v u->t v σ H Q->
  ε (model X.prog X.w) X.A (assign a X.env u) (λ_ s'=>∃c H',HH X pins c H' s'/\Q c H') X.xe s
def rH(X:Cx)(e:Κ)(t:ac):Prop:=
 ∀(pins:HD) (s:Θ) (σ:St) (H:Hp) (d:Α) (c:Η) (Q:St->Hp->Prop),HH X pins σ H s->HL d c->t d σ H Q->
  ε (model X.prog X.w) X.A (assignInOrder ((assignEach e X.env).map (·.2)) c) (λ_ s'=>∃a H',HH X pins a H' s'/\Q a H') X.xe s
noncomputable abbrev gP:=V->V->V->Hp->(Hp->Prop)->Prop
def nv(X:Cx)(t:gP):Prop:=
 ∀(pins:HD) (s:Θ) (σ:St) (H:Hp) (o i v:V) (a c u:Γ) (Q:Hp->Prop),HH X pins σ H s->HJ o a->HJ i c->HJ v u->t o i v H Q->
  ε (model X.prog X.w) X.A (setItem a c u) (λ_ s'=>∃H',HH X pins σ H' s'/\Q H') X.xe s
noncomputable abbrev uB:=V->V->Hp->VK->Prop
def Em(X:Cx)(op:Operator)(t:uB):Prop:=
 ∀(pins:HD) (s:Θ) (σ:St) (H:Hp) (x y:V) (v u:Γ) (Q:VK),HH X pins σ H s->HJ x v->HJ y u->t x y H Q->
  ε (model X.prog X.w) X.A (inplaceOp op v u) (EP X pins σ Q) X.xe s
section
noncomputable def QB(i:Nat):TG:=λv σ H Q=>Q (σ.set i ↑v) H
theorem C0{i:Nat}{x:Str}(hN:X.N.Nodup)(hi:X.N[i]? =↑x)(hx:iE X.env.scope x)(hf:X.fn x=true\/X.env.scope.names.lookup x=some .local:=by first|exact .inl Z|exact .inr Z|assumption):PG X (.Name x pos) (QB i):=by
 intro pins s σ H v u Q I r h;exact wpAny_assign_Name (lG I hN hi hx r (λs' a=>#[_,H,a,h]) hf)
noncomputable def sT:ac:=λa σ H Q=>a=[]/\Q σ H
inductive O7 (t:TG)(u:ac)(vs:Α)(σ:L2.St)(H:Hp)(Q:L2.St->Hp->Prop):Prop
 |mk (v:_)(r:_)(h1:vs=v::r)(h2:t v σ H λσ' H'=>u r σ' H' Q)
noncomputable def fB(t:TG)(u:ac):ac:=λa σ H Q=>O7 t u a σ H Q
theorem Co:rH X [] sT:=by
 intro pins s σ H c a Q I r h;let#[e,h]:=h;subst e;cases r;exact assignInOrder_nil #[σ,H,I,h]
theorem yg(h1:PG X e t)(h2:rH X es u)
  (hs:(assignEach (e::es) X.env).map (·.2)=assign e X.env::(assignEach es X.env).map (·.2):=by rfl):rH X (e::es) (fB t u):=by
 intro pins s σ H j i Q I r h;let#[v,l,d,h]:=h;subst d;cases r with
 |cons r rr=>
  rw[hs];refine assignInOrder_cons (qB (h1 pins s σ H _ _ _ I r h) λ_ f g=>?_)
  let#[a,H1,c,q1]:=g;exact h2 pins f a H1 _ _ Q c rr q1
inductive Pk (K:ι)(n:Nat)(t:ac)(v:V)(σ:L2.St)(H:Hp)(Q:L2.St->Hp->Prop):Prop
 |mk (a:_)(xs:_)(h1:v= .ref a)(h2:HP K H a xs)(h3:xs.length=n)(h4:t xs σ H Q)
noncomputable def mT(K:ι)(n:Nat)(t:ac):TG:=λv σ H Q=>Pk K n t v σ H Q
theorem mB{k:Nat}{n:Nat}(hc:X.calm=true)(h:rH X es t)
  (hn:(assignEach es X.env).length=n:=by rfl)(hst:(assignEach es X.env).findIdx? (·.1)=none:=by rfl):PG X (.Tuple es k pos) (mT X.K n t):=by
 intro pins s σ H v u Q I r c;let#[a,xs,p,j,g,c]:=c;subst p;cases r;let#[l,d,m,q]:=I.tuple j;refine assign_Tuple_tuple (I.ok.hd hc) m (by simp [hn,<- g,d.length]) hst λh' f=>?_
 have i:HH X pins σ H {s with heap:=h'}:=I.kept (t':=s.toks) λb o e=>f b o (Jq (Jk e)) e
 exact h pins _ σ H xs _ Q i (by simpa using d) c
noncomputable def Dw(to c:TE)(t:gP):TG:=λv σ H Q=>to σ H λo H1=>c σ H1 λi a=>t o i v a λd=>Q σ d
theorem EE{to:TE}(ho:PE X o to)(hi:PE X i e)(hs:nv X t)
  (ha:∀v,assign (.Subscript o i pos) X.env v=(do
   let a <- holding [v] (eval o X.env)
   let c <- holding [v,a] (eval i X.env)
   standAt pos
   holding [v,a,c] (setItem a c v)
   release [v,a,c] []):=by intro _;rfl):PG X (.Subscript o i pos) (Dw to e t):=by
 intro pins s σ H v u Q I r h;rw[ha];refine Ja (JO (qB (ho pins s σ H _ I h) λa w d=>?_))
 let#[x,H1,g,p,q1]:=d;refine Ja (JO (qB (hi pins w σ H1 _ g q1) λc n d=>?_))
 let#[y,l,f,q,q2]:=d;refine Ja (IE (Ja (JO (qB (hs pins n σ l x y v a c u _ f p q r q2) λ_ z d=>?_))))
 let#[j,m,q3]:=d;exact wpAny_release #[σ,j,m,q3]
noncomputable def gW(te:TE)(g:TG):TS:=λD σ H=>te σ H λx H1=>g x σ H1 D.nx
theorem EU(he:PE X e te)(hg:PG X tg g)(hs:swapsWithSole [tg] e pos.line X.env=pure false:=by rfl)(hw:swappedStores [tg] e X.env=pure none:=by rfl)
  (h1:(assignEach [tg] X.env).map (·.2)=[assign tg X.env]:=by rfl):PS X (.Assign [tg] e pos) (gW te g):=by
 intro pins s σ H D I h;refine wpAny_Assign_stores (qB (he pins s σ H _ I h) λv d f=>?_) hs hw
 let#[x,H1,a,c,q1]:=f;rw[h1];exact qB (hg pins d σ H1 x v _ a c q1) λ_ i q=>q
theorem Es{i:Nat}{x:Str}(hN:X.N.Nodup)(hi:X.N[i]? =↑x)(hx:iE X.env.scope x)(he:PE X e te)(hs:swapsWith e ↑(.Name x pos') pos.line X.env=pure false:=by rfl)(hf:X.fn x=true\/X.env.scope.names.lookup x=some .local:=by first|exact .inl Z|exact .inr Z|assumption):
  PS X (.Assign [.Name x pos'] e pos) (gW te (QB i)):=by
 intro pins s σ H D I h;refine wpAny_Assign_Name (qB (he pins s σ H _ I h) λv j f=>?_) hs
 let#[y,H1,c,d,q1]:=f;exact lG c hN hi hx d (λg a=>#[_,H1,a,q1]) hf
noncomputable def Bh(to l te:TE)(c:V->V->Hp->VK->Prop)(d:uB)(a:gP):TS:=λD σ H=>to σ H λo H1=>l σ H1 λi h=>c o i h λx g=>te σ g λy e=>d x y e λz f=>a o i z f λj=>D.nx σ j
def yf(X:Cx)(t:V->V->Hp->VK->Prop):Prop:=
 ∀(pins:HD) (s:Θ) (σ:St) (H:Hp) (o i:V) (a c:Γ) (Q:VK),HH X pins σ H s->HJ o a->HJ i c->t o i H Q->
  ε (model X.prog X.w) X.A (getItem a c) (EP X pins σ Q) X.xe s
theorem B8{to:TE}{d:V->V->Hp->VK->Prop}(ho:PE X o to)(hi:PE X i p)(hg:yf X d)(he:PE X e te)(hp:Em X op j)(hs:nv X c)
  (ha:∀f g new,augStore i f g new=(do holding [new,f,g] (setItem f g new);release [new,f,g] [];pure .next):=by intros;rfl):PS X (.AugAssign (.Subscript o i l) op e pos) (Bh to p te d j c):=by
 intro pins s σ H D I h;refine wpAny_AugAssign_SubscriptAny (qB (ho pins s σ H _ I h) λf Q a=>?_) ha
 let#[n,H1,F,q,q1]:=a;refine qB (hi pins Q σ H1 _ F q1) λg N a=>?_
 let#[t,z,u,r,q2]:=a;refine qB (hg pins N σ z n t f g _ u q r q2) λm x a=>?_
 let#[W,G,S,O,q3]:=a;refine qB (he pins x σ G _ S q3) λv w a=>?_
 let#[U,E,J,L,q4]:=a;refine qB (hp pins w σ E W U m v _ J O L q4) λnew P a=>?_
 let#[T,M,B,R,q5]:=a;exact qB (hs pins P σ M n t T f g new _ B q r R q5) λ_ Y ⟨A,C,y⟩=>#[σ,A,C,y]
noncomputable def Gk(f:Int->Int->Int):uB:=λx y H Q=>∃i j,x= .int i/\y= .int j/\Q (.int (f i j)) H
theorem D7:Em X .Add (Gk λi j=>i+j):=by
 intro pins s σ H x y v u Q I a d h;let#[i,j,c,e,q]:=h;subst c;subst e
 let#[t,rfl]:=a;let#[f,rfl]:=d;exact iadd_int #[.int _,H,I.tok _,#[0],q]
end
structure It where
 go:Nat->Hp->Prop
 yld:Nat->Hp->V->Hp->Prop
 stop:Nat->Hp->Prop
def Zp(X:Cx)(pins:HD)(H:Hp)(b:Δ):Prop:=
 H b=none/\b≠X.env.locals/\b∉X.fs/\(b∈X.ex\/X.s₀.heap.objs.size<=b)/\(∀x c,X.env.cells.lookup x=↑c->c≠b)/\∀p∈X.pn++pins,p.1≠b
theorem HH.fpOk{H':Hp}{b:Δ}(I:HH X pins σ H s)(hb:s.heap.objs.size<=b)(hn:H' b=none):Zp X pins H' b:=by
 refine#[hn,JT (Jn I.lt hb),I.nofs hb,.inr (Jg I.sz hb),λx c e z=>?_,λp a z=>?_]
 .let#[v,q]:=I.cell x c e
  exact absurd (Jn q.lt (by rw[z];exact hb)) (GJ _)
 .exact absurd (Jn (Jk (I.pin p a).1) (by rw[z];exact hb)) (GJ _)
structure Na(P:Ξ)(w:Ω)(K:ι)(tg:Φ)(J:It)(fp:Ι)(it:Δ)(tn:Nat->Ψ->Prop):Prop where
 mem:it∈fp
 obj:∀i h,tn i h->∀b∈fp,∃o,h.get? b=↑o/\∀v,o.data≠ .cell v
 keep:∀i h h',tn i h->(∀b∈fp,∀o,h.get? b=↑o->h'.get? b=↑o)->tn i h'
 item:∀(X:Cx),X.prog=P->X.w=w->X.K=K->X.calm=true->∀(i:Nat) (pins:HD) (s:Θ) (σ:St) (H:Hp) (E:Hu),HH X pins σ H s->(∀b∈fp,Zp X pins H b)->tn i s.heap->J.go i H->
  ε (model P w) X.A (pyNext (-it)) (λr s1=>∃u,r=↑u/\
   ε (model P w) X.A (letOwnedTupleGo tg (-it) u) (λ_ s2=>∃x H',HH X pins σ H' s2/\HJ x u/\J.yld i H x H'/\tn (i+1) s2.heap/\∀b∈fp,H' b=none) E s1) E s
 done:∀(X:Cx),X.prog=P->X.w=w->X.K=K->X.calm=true->∀(i:Nat) (pins:HD) (s:Θ) (σ:St) (H:Hp) (E:Hu),HH X pins σ H s->(∀b∈fp,Zp X pins H b)->tn i s.heap->J.stop i H->
  ε (model P w) X.A (pyNext (-it)) (λr s1=>r=none/\HH X pins σ H s1) E s
 self:∀(A:Around) (i:Nat) (s:Θ) (Q:Hu) (E:Hu),tn i s.heap->Q (-it) s->ε (model P w) A (pyIter (-it)) Q E s
noncomputable abbrev TI:=St->Hp->(It->Hp->Prop)->Prop
def FF(X:Cx)(pins:HD)(σ:St)(tg:Φ)(R:It->Hp->Prop)(a:Γ)(d:Θ):Prop:=
 ∃(c:Δ) (fp:Ι) (e:Nat->Ψ->Prop) (J:It) (H':Hp),a= .ref c/\HH X pins σ H' d/\Na X.prog X.w X.K tg J fp c e/\e 0 d.heap/\(∀b∈fp,Zp X pins H' b)/\R J H'
def PI(X:Cx)(tg a:Φ)(d:TI):Prop:=
 ∀(pins:HD) (s:Θ) (σ:St) (H:Hp) (R:It->Hp->Prop),HH X pins σ H s->d σ H R->
  ε (model X.prog X.w) X.A (eval a X.env) (λv c=>ε (model X.prog X.w) X.A (pyIter v) (FF X pins σ tg R) X.xe c) X.xe s
theorem cg{s:Θ}{tg:Φ}{it:Δ}{u:Γ}{o:Obj}{Q:Unit->Θ->Prop}(ho:s.heap.get? it=↑o)(hc:o.cls= .type n)(hd:o.data= .fields vs)
    (hn:["enumerate","zip","dict_itemiterator","dict_reverseitemiterator","odict_iterator","itertools.zip_longest","itertools.pairwise"].contains n=false)(a:Q () s):ε M A (letOwnedTupleGo tg (-it) u) Q E s:=by
  unfold letOwnedTupleGo;cases tg<;>first
    |exact Je a
    |(cases u<;>first
        |exact Je a
        | (refine Ja (wpAny_load ho ?_)
           rw[hc,hd]
           show ε M A (if(["enumerate","zip","dict_itemiterator","dict_reverseitemiterator","odict_iterator","itertools.zip_longest","itertools.pairwise"].contains n&&vs[0]? ==↑(rawInt _))=true then _ else _) Q E s
           rw[Jb (by intro h;rw[hn,Ia]at h;cases h)]
           exact Je a))
noncomputable def eO(K:ι)(a:Δ):It:=
 ⟨λi H=>∃xs x,HK K H a xs/\xs[i]? =↑x,λi H x H'=>H'=H/\∀xs,HK K H a xs->xs[i]? =↑x,λi H=>∃xs,HK K H a xs/\xs.length<=i⟩
noncomputable def iY(K:ι)(a:Δ):It:=
 ⟨λi H=>∃xs x,HP K H a xs/\xs[i]? =↑x,λi H x H'=>H'=H/\∀xs,HP K H a xs->xs[i]? =↑x,λi H=>∃xs,HP K H a xs/\xs.length<=i⟩
noncomputable def kP(lo:Int)(n:Nat):It:=⟨λi _=>i<n,λi H x H'=>H'=H/\x= .int (lo+i),λi _=>n<=i⟩
theorem jU{K:ι}(a it:Δ):Na P w K tg (eO K a) [it] it (λi h=>h.IsListIter it a i) where
 mem:=by simp
 obj:=λi h st b f=>by
  have e:b=it:=by simpa using f
  subst e;let#[o,e,c,d]:=st
  exact#[o,e,λv z=>by rw[d]at z;cases z]
 keep:=λi h h' st k=>st.at λo e=>k it (by simp) o e
 item:=by
  intro X D B C G i pins s σ H E I j st r;subst D B C;let#[xs,x,l,A]:=r;let#[n,F,p,J]:=I.list l;let#[u,O,Q]:=F.get A;let#[y,f1,f2,m,t,q]:=j it (by simp)
  refine wpAny_pyNext_list_item st p.isList (x:=u) (by simpa using O) λh' g M=>?_
  have L:HH X pins σ H {s with heap:=h'}:=I.turned (t':=s.toks) (λb o f e=>(M.2 b f).trans e) y f1 m t q
  let#[o,e,c,d]:=id g
  exact#[u,Z,cg (s:={s with heap:=h'}) e c d ⋯ #[x,H,L,Q,#[Z,λys R=>by rw[I.list_inj R l];exact A],g,λb f=>(j b f).1]]
 done:=by
  intro X D B C G i pins s σ H E I j st r;subst D B C;let#[xs,l,A]:=r;let#[n,F,p,J]:=I.list l;let#[y,f1,f2,m,t,q]:=j it (by simp)
  have S:=F.length;exact wpAny_pyNext_list_end (I.ok.hd G) st p.isList (by simp;lia) λh' N=>#[Z,I.turned (t':=s.toks) (λb o f e=>N b o f e) y f1 m t q]
 self:=λ_ _ _ _ _ st h=>wpAny_pyIter_listiter st h
theorem iC{K:ι}(a it:Δ):Na P w K tg (iY K a) [it] it (λi h=>h.IsTupleIter it a i) where
 mem:=by simp
 obj:=λi h st b g=>by
  have e:b=it:=by simpa using g
  subst e;let#[o,e,c,d]:=st
  exact#[o,e,λv z=>by rw[d]at z;cases z]
 keep:=λi h h' st k=>st.at λo e=>k it (by simp) o e
 item:=by
  intro X D B C G i pins s σ H E I l st r;subst D B C;let#[xs,x,m,A]:=r;let#[f,F,p,J]:=I.tuple m;let#[u,O,Q]:=F.get A;let#[y,f1,f2,n,t,q]:=l it (by simp)
  refine wpAny_pyNext_tuple_item st (show s.heap.IsTuple a f.toArray from p) (x:=u) (by simpa using O) λh' j M=>?_
  have L:HH X pins σ H {s with heap:=h'}:=I.turned (t':=s.toks) (λb o g e=>(M.2 b g).trans e) y f1 n t q
  let#[o,e,c,d]:=id j
  exact#[u,Z,cg (s:={s with heap:=h'}) e c d ⋯ #[x,H,L,Q,#[Z,λys R=>by rw[I.tuple_inj R m];exact A],j,λb g=>(l b g).1]]
 done:=by
  intro X D B C G i pins s σ H E I l st r;subst D B C;let#[xs,m,A]:=r;let#[f,F,p,J]:=I.tuple m;let#[y,f1,f2,n,t,q]:=l it (by simp)
  have S:=F.length;exact wpAny_pyNext_tuple_end (I.ok.hd G) st (show s.heap.IsTuple a f.toArray from p) (by simp;lia) λh' N=>#[Z,I.turned (t':=s.toks) (λb o g e=>N b o g e) y f1 n t q]
 self:=λ_ _ _ _ _ st h=>wpAny_pyIter_tupleiter st h
theorem tQ{K:ι}(it:Δ)(lo:Int)(n:Nat):Na P w K tg (kP lo n) [it] it (λi h=>IsRangeIter h it (lo+(i:Nat)*1) ((n:Int)-(i:Nat)) 1) where
 mem:=by simp
 obj:=λi h st b a=>by
  have e:b=it:=by simpa using a
  subst e
  exact#[_,st,λv z=>by
   have C:Data.fields _=Data.cell v:=z
   cases C]
 keep:=λi h h' st k=>k it (by simp) _ st
 item:=by
  intro X p g m q i pins s σ H E I d st r;subst p g m;let#[l,f1,f2,f,j,u]:=d it (by simp)
  have W:=Walks.range (prog:=X.prog) (w:=X.w) (I.ok.hd q) it lo 1 n
  refine W.item i s _ _ r st λv h' tk B c A=>?_
  let#[t,rfl]:=B;have y:HH X pins σ H {s with heap:=h',toks:=tk}:=I.turned (λb o a e=>A b o (by simpa using a) e) l f1 f j u
  refine#[0,cg (s:={s with heap:=h',toks:=tk}) (n:="range_iterator") c Z Z ⋯ #[.int (lo+i),H,y,#[t,?_],#[7],c,λb a=>(d b a).1]]
  rw[Int.mul_one]
 done:=by
  intro X p g m q i pins s σ H E I d st r;subst p g m;let#[l,f1,f2,f,j,u]:=d it (by simp)
  exact wpAny_pyNext_range_end (I.ok.hd q) st (by have:n<=i:=r;lia) λh' x=>#[Z,I.turned (t':=s.toks) (λb o a e=>x b o a e) l f1 f j u]
 self:=λ_ _ _ _ _ st h=>LN st h
section
noncomputable def Bn(K:ι)(tl:TE):TI:=λσ H R=>tl σ H λx H1=>∃a,x= .ref a/\(∃xs,HK K H1 a xs)/\R (eO K a) H1
noncomputable def DU(K:ι)(tl:TE):TI:=λσ H R=>tl σ H λx H1=>∃a,x= .ref a/\(∃xs,HP K H1 a xs)/\R (iY K a) H1
theorem BE(hl:PE X l tl):PI X tg l (Bn X.K tl):=by
 intro pins s σ H R I h;refine qB (hl pins s σ H _ I h) λv d m=>?_
 let#[x,H1,c,j,q1]:=m;let#[a,e,#[xs,f],q]:=q1;subst e;cases j;let#[g,r,p,n]:=c.list f;refine IF p.isList ?_
 refine#[d.heap.objs.size,[d.heap.objs.size],16,H1,Z,c.kept (t':=d.toks) λb o e=>Jh _ e,jU a _,#[_,Jr _ Z,7],λb i=>?_,q]
 have e:b=d.heap.objs.size:=by simpa using i
 subst e;exact c.fpOk (Jd _) (c.hok.fresh (Jd _))
theorem DC(hl:PE X l tl):PI X tg l (DU X.K tl):=by
 intro pins s σ H R I h;refine qB (hl pins s σ H _ I h) λv c m=>?_
 let#[x,H1,d,j,q1]:=m;let#[a,e,#[xs,g],q]:=q1;subst e;cases j;let#[f,r,p,n]:=d.tuple g;refine Il (show c.heap.IsTuple a f.toArray from p) ?_
 refine#[c.heap.objs.size,[c.heap.objs.size],16,H1,Z,d.kept (t':=c.toks) λb o e=>Jh _ e,iC a _,#[_,Jr _ Z,7],λb i=>?_,q]
 have e:b=c.heap.objs.size:=by simpa using i
 subst e;exact d.fpOk (Jd _) (d.hok.fresh (Jd _))
theorem yP{R:It->Hp->Prop}{lo hi:Int}{tk:Nat}(I:HH X pins σ H s)(h1: -(2 ^ 62)<=lo)(h2:lo<2 ^ 62)(h: -(2 ^ 62)<=hi)(d:hi<2 ^ 62)
  (q:R (kP lo (hi-lo).toNat) H):ε (model X.prog X.w) X.A (pyIter (-s.heap.objs.size)) (FF X pins σ tg R) E {s with heap:=s.heap.push {cls:= .type "range",data:= .fields (B1 [.int lo t,.int hi u,.int 1 v])},toks:=tk}:=by
 refine wpAny_pyIter_range (IsRange.new ..) (small_one h1 h2 h d) ?_
 have a:HH X pins σ H {s with heap:=s.heap.push {cls:= .type "range",data:= .fields (B1 [.int lo t,.int hi u,.int 1 v])},toks:=tk}:=I.kept λb o e=>Jh _ e
 refine#[(s.heap.push {cls:= .type "range",data:= .fields (B1 [.int lo t,.int hi u,.int 1 v])}).objs.size,[(s.heap.push {cls:= .type "range",data:= .fields (B1 [.int lo t,.int hi u,.int 1 v])}).objs.size],16,H,Z,
  a.kept (t':=tk) λb o e=>Jh _ e,tQ _ lo (hi-lo).toNat,?_,λb c=>?_,q]
 .have f:lo+((0:Nat):Int)*1=lo:=by simp
  have g:(((hi-lo).toNat:Nat):Int)-((0:Nat):Int)=γ.Range.rangeSize lo hi 1:=by rw[rangeSize_one];split<;>lia
  show IsRangeIter _ _ (lo+((0:Nat):Int)*1) ((((hi-lo).toNat:Nat):Int)-((0:Nat):Int)) 1
  rw[f,g];exact Jr _ Z
 .have e:b=(s.heap.push {cls:= .type "range",data:= .fields (B1 [.int lo t,.int hi u,.int 1 v])}).objs.size:=by simpa using c
  subst e;exact a.fpOk (Jd _) (a.hok.fresh (Jd _))
noncomputable def Bl(ta:TA):TI:=λσ H R=>ta σ H λa H1=>∃j:Int,a=[.int j]/\ -(2 ^ 62)<=j/\j<2 ^ 62/\R (kP 0 j.toNat) H1
theorem wO{a:Φ}{p:Pos}(hg:Gl X "range")(hm:X.mg "range"=none)(ha:PA X [a] ta)(hs:θ [a] X.env=[(false,eval a X.env)]:=by rfl):PI X tg (.Call (.Name "range" p) [a] [] pos) (Bl ta):=by
 intro pins s σ H R I h;refine Call_ (Zh I hg hm boot_range (IZ (qB (ha pos pins s σ H _ I h) λg l f=>?_) hs Z))
 let#[i,H1,c,d,q1]:=f;let#[j,e,q1,q2,q]:=q1;subst e;cases d with
 |cons r rr=>
  cases rr;let#[t,rfl]:=r;exact call_range_1 (yP c (by lia) (by lia) q1 q2 (by simpa using q))
noncomputable def Ec(f:TI)(g:TG)(tb:TS):TS:=λD σ H=>f σ H λJ H1=>∃W:Nat->Nat->St->Hp->Prop,(∃m,W 0 m σ H1)/\∀i m σ H,W i m σ H->
 (J.stop i H/\D.nx σ H)\/(J.go i H/\∃N:St->Hp->Prop,(∀a H',N a H'->∃d,d<m/\W (i+1) d a H')/\∀x H',J.yld i H x H'->g x σ H' λc e=>tb {D with nx:=N,ct:=N,bk:=D.nx} c e)
noncomputable def iA(fp:Ι)(h:Ψ):List (Δ×Obj):=fp.filterMap λb=>(h.get? b).map λo=>(b,o)
theorem ZD{fp:Ι}{h:Ψ}{b:Δ}{o:Obj}(hb:b∈fp)(e:h.get? b=↑o):(b,o)∈iA fp h:=O0.mpr #[b,hb,by rw[e];rfl]
theorem wP{p:Δ×Obj}(hp:p∈iA fp h):p.1∈fp/\h.get? p.1=↑p.2:=by
 let#[b,c,e]:=O0.mp hp;cases q:h.get? b with
 |none=>rw[q]at e;cases e
 |some o=>
  rw[q]at e;have a:(b,o)=p:=Jx e
  subst a
  exact#[c,q]
theorem HH.pinned{fp:Ι}(I:HH X pins σ H s)(hf:∀b∈fp,Zp X pins H b)(ho:∀b∈fp,∃o,s.heap.get? b=↑o/\∀v,o.data≠ .cell v):HH X (pins++iA fp s.heap) σ H s:=
 I.pins_of λp g=>(JD.mp g).elim (λz=>I.pin p (JL _ z)) λz=>by
  let#[c,e]:=wP z;let#[f,f1,f2,_]:=hf p.1 c;let#[o,a,d]:=ho p.1 c;rw[e]at a;cases a
  exact#[e,f,f1,f2,d]
theorem HH.unpinned{pins pl:HD}(I:HH X (pins++pl) σ H s):HH X pins σ H s:=I.pins_of λp a=>I.pin p (JL _ (GB _ a))
theorem ER(hp:PassesOwn (model X.prog X.w) X.A X.env X.xe)(hc:X.calm=true)(hi:PI X tg q wi)(hg:PG X tg g)(hb:NQ X body tb)
  (hs:∀x,foldedSetIterable q X.env x=pure x:=by intro _;rfl):PS X (.For tg q body [] pos) (Ec wi g tb):=by
 intro pins s σ H D I h;refine wpAny_For (qB (hi pins s σ H _ I h) λv s1 h1=>qB h1 λa0 s2 h2=>?_) hs
 let#[it,fp,tn,J,H2,e,I2,T,O,f2,W,#[m0,w0],G]:=h2;subst e;have t:∀{H':Hp},(∀b∈fp,H' b=none)->∀b∈fp,Zp X pins H' b:=λhn b hb=>#[hn b hb,(f2 b hb).2]
 refine codeAny_forLoop_any (λn s'=>∃i j H',HH X pins j H' s'/\tn i s'.heap/\(∀b∈fp,H' b=none)/\W i n j H') ?_ m0 #[(0),σ,H2,I2,O,λb hb=>(f2 b hb).1,w0]
 rintro n S ⟨i,l,L,I3,E,B,w3⟩
 rcases G i n l L w3 with⟨C,qn⟩|⟨go,N,hN,step⟩
 .refine Li hp (qB (T.done X Z Z Z hc i pins S l L X.xe I3 (t B) E C) λr s4 z=>?_)
  let#[P,I4]:=z;subst P;exact wpAny_execs_nil #[l,L,I4,qn]
 .refine Li hp (qB (T.item X Z Z Z hc i pins S l L X.xe I3 (t B) E go) λr s4 z=>?_)
  let#[u,P,h4]:=z;subst P;refine Li hp (qB h4 λ_ Y z=>?_)
  let#[x,U,I5,r5,y5,A,M]:=z;have I5':=I5.pinned (t M) (T.obj _ _ A);refine Li hp (qB (hg _ Y l U x u _ I5' r5 (step x U y5)) λ_ s6 z=>?_)
  let#[Q,H6,I6,q6]:=z;refine Li hp (qB (hb _ s6 Q H6 _ I6 q6) λf R y=>?_)
  have c:∀{a:St} {w:Hp},HH X (pins++iA fp Y.heap) a w R->N a w->∃m,m<n/\∃i j H',HH X pins j H' R/\tn i R.heap/\(∀b∈fp,H' b=none)/\W i m j H':=λ{a w} p F=>by
   let#[m',hm,w7]:=hN a w F;refine#[m',hm,i+1,a,w,p.unpinned,T.keep _ _ _ A λb hb o e=>(p.pin (b,o) (JL _ (JL _ (ZD hb e)))).1,λb hb=>?_,w7]
   let#[o,e,d]:=T.obj _ _ A b hb
   exact(p.pin (b,o) (JL _ (JL _ (ZD hb e)))).2.1
  cases f with
  |next=>let#[a,w,p,F]:=y;exact c p F
  |cont=>let#[a,w,p,F]:=y;exact c p F
  |brk=>let#[a,w,p,y]:=y;exact#[a,w,p.unpinned,y]
  |ret v=>let#[x7,a,w,p,r7,y]:=y;exact#[x7,a,w,p.unpinned,r7,y]
end
theorem Q2{K:ι}{xs:Α}{g:TG}{tb:TS}{D:MF}{σ:St}{H:Hp}(Pv:Nat->St->Hp->Prop)(l:Pv 0 σ H)(hl:∀i σ H,i<=xs.length->Pv i σ H->HK K H a xs)
  (hs:∀i x σ H,xs[i]? =↑x->Pv i σ H->g x σ H λc h=>tb {D with nx:=Pv (i+1),ct:=Pv (i+1),bk:=D.nx} c h)(hd:∀σ H,Pv xs.length σ H->D.nx σ H):
  ∃W:Nat->Nat->St->Hp->Prop,(∃m,W 0 m σ H)/\∀i m σ H,W i m σ H->
   ((eO K a).stop i H/\D.nx σ H)\/((eO K a).go i H/\∃N:St->Hp->Prop,(∀d H',N d H'->∃j,j<m/\W (i+1) j d H')/\∀x H',(eO K a).yld i H x H'->g x σ H' λc h=>tb {D with nx:=N,ct:=N,bk:=D.nx} c h):=by
 exists λi m σ H=>m=xs.length-i/\i<=xs.length/\Pv i σ H,#[xs.length,by simp,JH _,l]
 rintro i m σ H ⟨rfl,hi,p⟩
 have q:=hl i σ H hi p
 by_cases f:i<xs.length
 .refine .inr #[#[xs,xs[i],q,by simp [f]],Pv (i+1),λd H' n=>#[xs.length-(i+1),by lia,Z,f,n],λx H' y=>?_]
  let#[e,y]:=y;subst e;exact hs i x σ _ (y xs q) p
 .have e:i=xs.length:=by lia
  subst e;exact .inl #[#[xs,q,Jd _],hd σ H p]
theorem rD{K:ι}{xs:Α}{g:TG}{tb:TS}{D:MF}{σ:St}{H:Hp}(Pv:Nat->St->Hp->Prop)(l:Pv 0 σ H)(hl:∀i σ H,i<=xs.length->Pv i σ H->HP K H a xs)
  (hs:∀i x σ H,xs[i]? =↑x->Pv i σ H->g x σ H λc h=>tb {D with nx:=Pv (i+1),ct:=Pv (i+1),bk:=D.nx} c h)(hd:∀σ H,Pv xs.length σ H->D.nx σ H):
  ∃W:Nat->Nat->St->Hp->Prop,(∃m,W 0 m σ H)/\∀i m σ H,W i m σ H->
   ((iY K a).stop i H/\D.nx σ H)\/((iY K a).go i H/\∃N:St->Hp->Prop,(∀d H',N d H'->∃j,j<m/\W (i+1) j d H')/\∀x H',(iY K a).yld i H x H'->g x σ H' λc h=>tb {D with nx:=N,ct:=N,bk:=D.nx} c h):=by
 exists λi m σ H=>m=xs.length-i/\i<=xs.length/\Pv i σ H,#[xs.length,by simp,JH _,l]
 rintro i m σ H ⟨rfl,hi,p⟩
 have q:=hl i σ H hi p
 by_cases f:i<xs.length
 .refine .inr #[#[xs,xs[i],q,by simp [f]],Pv (i+1),λd H' n=>#[xs.length-(i+1),by lia,Z,f,n],λx H' y=>?_]
  let#[e,y]:=y;subst e;exact hs i x σ _ (y xs q) p
 .have e:i=xs.length:=by lia
  subst e;exact .inl #[#[xs,q,Jd _],hd σ H p]
theorem Zy{lo:Int}{n:Nat}{g:TG}{tb:TS}{D:MF}{σ:St}{H:Hp}(Pv:Nat->St->Hp->Prop)(j:Pv 0 σ H)
  (hs:∀i σ H,i<n->Pv i σ H->g (.int (lo+i)) σ H λa f=>tb {D with nx:=Pv (i+1),ct:=Pv (i+1),bk:=D.nx} a f)(hd:∀σ H,Pv n σ H->D.nx σ H):
  ∃W:Nat->Nat->St->Hp->Prop,(∃m,W 0 m σ H)/\∀i m σ H,W i m σ H->
   ((kP lo n).stop i H/\D.nx σ H)\/((kP lo n).go i H/\∃N:St->Hp->Prop,(∀c H',N c H'->∃h,h<m/\W (i+1) h c H')/\∀x H',(kP lo n).yld i H x H'->g x σ H' λa f=>tb {D with nx:=N,ct:=N,bk:=D.nx} a f):=by
 exists λi m σ H=>m=n-i/\i<=n/\Pv i σ H,#[n,by simp,JH _,j]
 rintro i m σ H ⟨rfl,hi,p⟩
 by_cases d:i<n
 .refine .inr #[d,Pv (i+1),λc H' l=>#[n-(i+1),by lia,Z,d,l],λx H' y=>?_]
  let#[e,y]:=y;subst e y;exact hs i σ _ d p
 .have e:i=n:=by lia
  subst e;exact .inl #[Jd _,hd σ H p]
noncomputable abbrev R2:=V->V->Hp->VK->Prop
def zj(X:Cx)(f:Γ->Γ->Sem Γ)(r:R2):Prop:=
 ∀(pins:HD) (s:Θ) (σ:St) (H:Hp) (x y:V) (v u:Γ) (Q:VK),HH X pins σ H s->HJ x v->HJ y u->r x y H Q->
  ε (model X.prog X.w) X.A (f v u) (EP X pins σ Q) X.xe s
def AS(X:Cx)(f:Γ->Sem Γ)(r:V->Hp->VK->Prop):Prop:=
 ∀(pins:HD) (s:Θ) (σ:St) (H:Hp) (x:V) (v:Γ) (Q:VK),HH X pins σ H s->HJ x v->r x H Q->
  ε (model X.prog X.w) X.A (f v) (EP X pins σ Q) X.xe s
def zt(X:Cx)(f:Γ)(r:Α->Hp->VK->Prop):Prop:=
 ∀(pins:HD) (s:Θ) (σ:St) (H:Hp) (xs:Α) (a:Η) (Q:VK),HH X pins σ H s->HL xs a->r xs H Q->
  ε (model X.prog X.w) X.A (call f a) (EP X pins σ Q) X.xe s
noncomputable def kC(r:R2)(ta tb:TE):TE:=λσ H Q=>ta σ H λx H1=>tb σ H1 λy a=>r x y a Q
noncomputable def FH(r:V->Hp->VK->Prop)(ta:TE):TE:=λσ H Q=>ta σ H λx H1=>r x H1 Q
inductive P6 (C:Int->Int->Prop)(g:Int->Int->V)(x:V)(y:V)(H:Hp)(Q:VK):Prop
 |mk (i:_)(j:_)(h1:x= .int i)(h2:y= .int j)(h3:C i j)(h4:Q (g i j) H)
noncomputable def rI(C:Int->Int->Prop)(g:Int->Int->V):R2:=λx y H Q=>P6 C g x y H Q
inductive P3 (g:Int->Int->V)(x:V)(y:V)(H:Hp)(Q:VK):Prop
 |mk (i:_)(j:_)(h1:x= .int i)(h2:y= .int j)(h3:Q (g i j) H)
noncomputable def kL(g:Int->Int->V):R2:=λx y H Q=>P3 g x y H Q
inductive P7 (g:Int->V)(x:V)(H:Hp)(Q:VK):Prop
 |mk (i:_)(h1:x= .int i)(h2:Q (g i) H)
def rU(g:Int->V):V->Hp->VK->Prop:=λx H Q=>P7 g x H Q
section
variable{b:Φ}
theorem Az(ha:PE X a ta)(hb:PE X b tb){R:V->V->Hp->Prop}(I:HH X pins σ H s)
  (h:ta σ H λx H1=>tb σ H1 λy c=>R x y c){f:Γ->Γ->Sem Γ}
  (hf:∀v u g x y c,HH X pins σ c g->HJ x v->HJ y u->R x y c->ε (model X.prog X.w) X.A (f v u) Q X.xe g):
  ε (model X.prog X.w) X.A (eval a X.env) (λv e=>ε (model X.prog X.w) X.A (eval b X.env) (λu d=>ε (model X.prog X.w) X.A (f v u) Q X.xe d) X.xe e) X.xe s:=by
 refine qB (ha pins s σ H _ I h) λv o i=>?_
 let#[x,H1,l,m,q1]:=i;refine qB (hb pins o σ H1 _ l q1) λu g i=>?_
 let#[y,c,j,n,q2]:=i;exact hf v u g x y c j m n q2
theorem Fb{op:Operator}(ho:zj X (binaryOp op) r)(ha:PE X a ta)(hb:PE X b tb):PE X (.BinOp a op b pos) (kC r ta tb):=by
 intro pins s σ H Q I h;exact wpAny_BinOp (Az ha hb I h λv u f x y e c g d q=>ho pins f σ e x y v u Q c g d q)
theorem Fc{op:UnaryOp}{r:V->Hp->VK->Prop}(ho:AS X (unaryOp op) r)(ha:PE X a ta):PE X (.UnaryOp op a pos) (FH r ta):=by
 intro pins s σ H Q I h;exact UnaryOp_ (qB (ha pins s σ H _ I h) λv e ⟨x,H1,d,c,q1⟩=>ho pins e σ H1 x v Q d c q1)
theorem Bq{f:Γ->Γ->Sem Γ}{C:Int->Int->Prop}{g:Int->Int->Int}
  (a:∀(i j:Int) (t u:Tok) (s:Θ) (Q:Hu) (E:Hu),C i j->Q (.int (g i j) s.toks) {s with toks:=s.toks+1}->ε (model X.prog X.w) X.A (f (.int i t) (.int j u)) Q E s):
  zj X f (rI C λi j=> .int (g i j)):=by
 intro pins s σ H x y v u Q I d c h;let#[i,j,rfl,rfl,e,q]:=h;let#[t,rfl]:=d;let#[l,rfl]:=c;exact a i j t l s _ _ e #[.int (g i j),H,I.tok _,#[0],q]
theorem DK{f:Γ->Γ->Sem Γ}{g:Int->Int->Int}
  (a:∀(i j:Int) (t u:Tok) (s:Θ) (Q:Hu) (E:Hu),Q (.int (g i j) s.toks) {s with toks:=s.toks+1}->ε (model X.prog X.w) X.A (f (.int i t) (.int j u)) Q E s):
  zj X f (kL λi j=> .int (g i j)):=by
 intro pins s σ H x y v u Q I c d h;let#[i,j,rfl,rfl,q]:=h;let#[t,rfl]:=c;let#[e,rfl]:=d;exact a i j t e s _ _ #[.int (g i j),H,I.tok _,#[0],q]
theorem sX{f:Γ->Γ->Sem Γ}{g:Int->Int->Bool}
  (a:∀(i j:Int) (t u:Tok) (s:Θ) (Q:Hu) (E:Hu),Q (.bool (g i j)) s->ε (model X.prog X.w) X.A (f (.int i t) (.int j u)) Q E s):
  zj X f (kL λi j=> .bl (g i j)):=by
 intro pins s σ H x y v u Q I c d h;let#[i,j,rfl,rfl,q]:=h;let#[t,rfl]:=c;let#[e,rfl]:=d;exact a i j t e s _ _ #[.bl (g i j),H,I,Z,q]
def FP(i j:Int):Prop:=0<j/\j<1073741824
def Gh(i j:Int):Prop:=0<=j/\j<=1000000/\i.natAbs<2 ^ 64
def O8(i j:Int):Prop:=(-(2 ^ 64)<i/\i<2 ^ 64)\/(-(2 ^ 64)<j/\j<2 ^ 64)
theorem O8.ok(h:O8 i j):IntMulOk i j:=by
 rcases h with⟨h1,a⟩|⟨h1,a⟩
 .exact .of_left (intBits_le_64 h1 a)
 .exact .of_right (intBits_le_64 h1 a)
theorem qL:zj X (binaryOp .Add) (kL λi j=> .int (i+j)):=DK λ_ _ _ _ _ _ _ q=>add_int q
theorem Qr:zj X (binaryOp .Sub) (kL λi j=> .int (i-j)):=DK λ_ _ _ _ _ _ _ q=>sub_int q
theorem Zj:zj X (binaryOp .Mult) (rI O8 λi j=> .int (i*j)):=Bq λ_ _ _ _ _ _ _ a q=>mul_int q a.ok
theorem Z4:zj X (binaryOp .FloorDiv) (rI FP λi j=> .int (i/j)):=Bq λi j _ _ _ _ _ a q=>by
 have h1:(0:Int)<j:=a.1
 have c:j<1073741824:=a.2
 exact floordiv_int (by lia) (by rw[Int.fdiv_eq_ediv_of_nonneg i (by lia)];exact q) (.inl (PyProof.noPylong_small (by lia)))
theorem zE:zj X (binaryOp .Mod) (rI (λ_ j=>0<j) λi j=> .int (i%j)):=Bq λi j _ _ _ _ _ a q=>by
 have h1:(0:Int)<j:=a
 exact mod_int' (by lia) (by rw[Int.fmod_eq_emod_of_nonneg i (by lia)];exact q)
theorem vh:zj X (binaryOp .Pow) (rI Gh λi j=> .int (i ^ j.toNat)):=Bq λ_ _ _ _ _ _ _ a q=>pow_int_small a.1 a.2.1 a.2.2 q
theorem Gu{f:Γ->Sem Γ}{g:Int->Int}
  (a:∀(i:Int) (t:Tok) (s:Θ) (Q:Hu) (E:Hu),Q (.int (g i) s.toks) {s with toks:=s.toks+1}->ε (model X.prog X.w) X.A (f (.int i t)) Q E s):
  AS X f (rU λi=> .int (g i)):=by
 intro pins s σ H x v Q I c h;let#[i,rfl,q]:=h;let#[t,rfl]:=c;exact a i t s _ _ #[.int (g i),H,I.tok _,#[0],q]
theorem v6:AS X (unaryOp .USub) (rU λi=> .int (Neg.neg i)):=Gu λ_ _ _ _ _ q=>neg_int q
end
noncomputable def EG:V->V->Bool
 | .non,.non=>true| .non,.int _=>true| .int _,.non=>true| .non,.bl _=>true| .bl _,.non=>true| .non,.str _=>true| .str _,.non=>true
 | .int _,.int _=>true| .bl _,.bl _=>true| .str _,.str _=>true| .byt _,.byt _=>true
 | .int _,.str _=>true| .str _,.int _=>true| .bl _,.str _=>true| .str _,.bl _=>true
 |_,_=>false
noncomputable def Gr:R2:=λx y H Q=>EG x y=true/\Q (.bl (decide (x=y))) H
noncomputable def Go:R2:=λx y H Q=>EG x y=true/\Q (.bl (! decide (x=y))) H
theorem pY:decide (V.int i=V.int j)=(i==j):=by
 rw[La];simp
theorem uX:decide (V.bl i=V.bl j)=(i==j):=by
 rw[La];simp
theorem rJ:decide (V.str i=V.str j)=(i==j):=by
 rw[La];simp
theorem rf:decide (V.byt i=V.byt j)=(i.toList==j.toList):=by
 rw[La];cases i;cases j;simp
section
variable{b:Φ}
theorem qO{Q:VK}{k a:Bool}(I:HH X pins σ H s)(q:Q (.bl k) H)(e:k=a):EP X pins σ Q (.bool a) s:=by
 subst e
 exact#[.bl k,H,I,Z,q]
theorem zy:zj X (compareOp .Eq) Gr:=by
 intro pins s σ H x y v u Q I d a h;let#[hs,q]:=h;cases x with
 |non=>
  cases d;cases y with
  |non=>cases a;exact PySem.EqNone.eq_none_none (qO I q (by simp))
  |bl j=>cases a;exact PySem.EqNone.eq_none_bool (qO I q (by simp))
  |int j=>let#[c,rfl]:=a;exact PySem.EqNone.eq_none_int (qO I q (by simp))
  |str j=>let#[c,rfl]:=a;exact PySem.EqNone.eq_none_str (qO I q (by simp))
  |_=>exact absurd (show false=true from hs) JB
 |bl i=>
  cases d;cases y with
  |non=>cases a;exact PySem.EqNone.eq_bool_none (qO I q (by simp))
  |bl j=>cases a;exact eq_bool (qO I q uX)
  |str j=>let#[c,rfl]:=a;exact PySem.EqMixed.eq_bool_str (qO I q (by simp))
  |_=>exact absurd (show false=true from hs) JB
 |int i=>
  let#[t,rfl]:=d;cases y with
  |non=>cases a;exact PySem.EqNone.eq_int_none (qO I q (by simp))
  |int j=>let#[c,rfl]:=a;exact eq_int (qO I q pY)
  |str j=>let#[c,rfl]:=a;exact PySem.EqMixed.eq_int_str (qO I q (by simp))
  |_=>exact absurd (show false=true from hs) JB
 |str i=>
  let#[t,rfl]:=d;cases y with
  |non=>cases a;exact PySem.EqNone.eq_str_none (qO I q (by simp))
  |bl j=>cases a;exact PySem.EqMixed.eq_str_bool (qO I q (by simp))
  |int j=>let#[c,rfl]:=a;exact PySem.EqMixed.eq_str_int (qO I q (by simp))
  |str j=>let#[c,rfl]:=a;exact eq_str (qO I q rJ)
  |_=>exact absurd (show false=true from hs) JB
 |byt i=>
  let#[t,rfl]:=d;cases y with
  |byt j=>let#[c,rfl]:=a;exact W.eq_bytes (qO I q rf)
  |_=>exact absurd (show false=true from hs) JB
 |_=>cases y<;>exact absurd (show false=true from hs) JB
theorem iz:zj X (compareOp .NotEq) Go:=by
 intro pins s σ H x y v u Q I d a h;let#[hs,q]:=h;cases x with
 |non=>
  cases d;cases y with
  |non=>cases a;exact PySem.EqNone.ne_none_none (qO I q (by simp))
  |bl j=>cases a;exact PySem.EqNone.ne_none_bool (qO I q (by simp))
  |int j=>let#[c,rfl]:=a;exact PySem.EqNone.ne_none_int (qO I q (by simp))
  |str j=>let#[c,rfl]:=a;exact PySem.EqNone.ne_none_str (qO I q (by simp))
  |_=>exact absurd (show false=true from hs) JB
 |bl i=>
  cases d;cases y with
  |non=>cases a;exact PySem.EqNone.ne_bool_none (qO I q (by simp))
  |bl j=>cases a;exact ne_bool (qO I q (JY not uX))
  |str j=>let#[c,rfl]:=a;exact PySem.EqMixed.ne_bool_str (qO I q (by simp))
  |_=>exact absurd (show false=true from hs) JB
 |int i=>
  let#[t,rfl]:=d;cases y with
  |non=>cases a;exact PySem.EqNone.ne_int_none (qO I q (by simp))
  |int j=>let#[c,rfl]:=a;exact ne_int (qO I q (JY not pY))
  |str j=>let#[c,rfl]:=a;exact PySem.EqMixed.ne_int_str (qO I q (by simp))
  |_=>exact absurd (show false=true from hs) JB
 |str i=>
  let#[t,rfl]:=d;cases y with
  |non=>cases a;exact PySem.EqNone.ne_str_none (qO I q (by simp))
  |bl j=>cases a;exact PySem.EqMixed.ne_str_bool (qO I q (by simp))
  |int j=>let#[c,rfl]:=a;exact PySem.EqMixed.ne_str_int (qO I q (by simp))
  |str j=>let#[c,rfl]:=a;exact ne_str (qO I q (JY not rJ))
  |_=>exact absurd (show false=true from hs) JB
 |byt i=>
  let#[t,rfl]:=d;cases y with
  |byt j=>let#[c,rfl]:=a;exact W.ne_bytes (qO I q (JY not rf))
  |_=>exact absurd (show false=true from hs) JB
 |_=>cases y<;>exact absurd (show false=true from hs) JB
theorem fw:zj X (compareOp .Lt) (kL λi j=> .bl (decide (i<j))):=sX λ_ _ _ _ _ _ _ q=>lt_int q
theorem bh:zj X (compareOp .LtE) (kL λi j=> .bl (decide (i<=j))):=sX λ_ _ _ _ _ _ _ q=>le_int q
theorem fE:zj X (compareOp .Gt) (kL λi j=> .bl (decide (j<i))):=sX λ_ _ _ _ _ _ _ q=>gt_int q
theorem tM:zj X (compareOp .GtE) (kL λi j=> .bl (decide (j<=i))):=sX λ_ _ _ _ _ _ _ q=>ge_int q
theorem am:zj X (compareOp .Is) (λx y H Q=>y= .non/\Q (.bl (decide (x= .non))) H):=by
 intro pins s σ H x y v u Q I a c h;let#[rfl,q]:=h;cases c;refine is_none_gen (qO I q ?_)
 cases x<;>first
  |(cases a;rfl)
  |(let#[t,rfl]:=a;rfl)
theorem fH:zj X (compareOp .IsNot) (λx y H Q=>y= .non/\Q (.bl (! decide (x= .non))) H):=by
 intro pins s σ H x y v u Q I a c h;let#[rfl,q]:=h;cases c;refine isnot_none_gen (qO I q ?_)
 cases x<;>first
  |(cases a;rfl)
  |(let#[t,rfl]:=a;rfl)
theorem qz(b:Φ){op:CmpOp}(h:op≠ .In:=by decide)(h2:op≠ .NotIn:=by decide):behindInMarks op b=false:=by
 have c:(op==CmpOp.In)=false:=by cases op<;>first|rfl|exact absurd Z h
 have a:(op==CmpOp.NotIn)=false:=by cases op<;>first|rfl|exact absurd Z h2
 cases b<;>simp [behindInMarks,c,a]
theorem Cy{op:CmpOp}(ho:zj X (compareOp op) r)(ha:PE X a ta)(hb:PE X b tb)(hm:behindInMarks op b=false):PE X (.Compare a [op] [b] pos) (kC r ta tb):=by
 intro pins s σ H Q I h;exact wpAny_Compare1 (Az ha hb I h λv u f x y e c g d q=>ho pins f σ e x y v u Q c g d q) hm
noncomputable def fO(t:TE):TT:=λσ H Q=>t σ H λx H'=>∃k,x= .bl k/\Q k H'
theorem B7{op:CmpOp}(ho:zj X (compareOp op) r)(ha:PE X a ta)(hb:PE X b tb)(hm:behindInMarks op b=false):PT X (.Compare a [op] [b] pos) (fO (kC r ta tb)):=by
 intro pins s σ H Q I h;refine wpAny_isTrue_Compare1 (qB (ha pins s σ H _ I h) λv p ⟨x,H1,f,n,q1⟩=>qB (hb pins p σ H1 _ f q1) λu l ⟨y,i,d,o,q2⟩=>
  qB (ho pins l σ i x y v u _ d n o q2) λc q ⟨z,g,j,m,k,e,q3⟩=>?_) hm
 subst e;cases m;exact GM #[g,j,q3]
noncomputable def iy(r e:R2)(ta tb tc:TE):TE:=λσ H Q=>ta σ H λx H1=>tb σ H1 λy d=>r x y d λz a=>∃k,z= .bl k/\
 (if k=true then tc σ a λf c=>e y f c Q else Q (.bl false) a)
theorem wX{op f:CmpOp}(ho:zj X (compareOp op) r)(ho':zj X (compareOp f) g)(ha:PE X a ta)(hb:PE X b tb)(hc:PE X c tc)
  (hm:lastMarks [op,f] [b,c]=false:=by with_unfolding_all rfl):PE X (.Compare a [op,f] [b,c] pos) (iy r g ta tb tc):=by
 intro pins s σ H Q I h;refine Compare_chain (qB (ha pins s σ H _ I h) λv G ⟨x,H1,t,E,q1⟩=>chain_link (qB (hb pins G σ H1 _ t q1) λu B ⟨y,p,m,j,q2⟩=>
  qB (ho pins B σ p x y v u _ m E j q2) λd o ⟨z,i,l,D,k,e,q3⟩=>?_)) hm
 subst e;cases D;refine GM ?_
 cases k with
 |false=>exact ite_ff #[.bl false,i,l,Z,q3]
 |true=>exact ite_tt (chain_last (qB (hc pins o σ i _ l q3) λF n ⟨C,q,w,A,q4⟩=>ho' pins n σ q y C u F Q w j A q4))
theorem Ah{op f:CmpOp}(ho:zj X (compareOp op) r)(ho':zj X (compareOp f) g)(ha:PE X a ta)(hb:PE X b tb)(hc:PE X c tc)
  (hm:lastMarks [op,f] [b,c]=false:=by with_unfolding_all rfl):PT X (.Compare a [op,f] [b,c] pos) (fO (iy r g ta tb tc)):=by
 intro pins s σ H Q I h;refine isTrue_chain (qB (ha pins s σ H _ I h) λv N ⟨x,H1,A,L,q1⟩=>test_link (qB (hb pins N σ H1 _ A q1) λu F ⟨y,p,m,j,q2⟩=>
  qB (ho pins F σ p x y v u _ m L j q2) λd o ⟨z,i,l,J,k,e,q3⟩=>?_)) hm
 subst e;cases J;refine GM ?_
 cases k with
 |false=>
  let#[Y,R,D]:=q3;cases R;exact ite_ff #[i,l,D]
 |true=>
  refine ite_tt (test_last (qB (hc pins o σ i _ l q3) λM n ⟨G,w,B,C,q4⟩=>qB (ho' pins n σ w y G u M _ B j C q4) λU T t=>?_))
  let#[S,E,q,P,W,O,q5]:=t;subst O;cases P;exact GM #[E,q,q5]
theorem aj:(ζ:Nat)<2 ^ 63:=by rw[Jt];decide
theorem Qv{x:V}(r:HL [x] us):∃u,us=[u]/\HJ x u:=by
 cases r with
 |cons r1 r2=>cases r2;exact#[0,r1]
theorem cL{x y:V}(r:HL [x,y] us):∃u a,us=[u,a]/\HJ x u/\HJ y a:=by
 cases r with
 |cons r1 r2=>
  cases r2 with
  |cons r3 r4=>cases r4;exact#[5,r1,r3]
theorem lZ:zt X (.builtin "abs") (λxs H Q=>∃i,xs=[.int i]/\Q (.int (if i<0 then (Neg.neg i) else i)) H):=by
 intro pins s σ H xs a Q I r h;let#[i,rfl,q]:=h;let#[u,rfl,t,rfl]:=Qv r;exact call_abs_int λu tk=>#[.int (if i<0 then (Neg.neg i) else i),H,I.tok _,#[0],q]
theorem fc(hc:X.calm=true):zt X (.builtin "max") (λxs H Q=>∃i j,xs=[.int i,.int j]/\Q (.int (if j>i then j else i)) H):=by
 intro pins s σ H xs c Q I r h;let#[i,j,rfl,q]:=h;let#[u,e,rfl,#[t,rfl],#[d,rfl]]:=cL r;refine max_two_ints (I.ok.hd hc) λh' tk k=>#[_,H,I.kept k,?_,q]
 by_cases a:j>i
 .rw[Jc a,Jc a];exact#[0]
 .rw[Jb a,Jb a];exact#[0]
theorem bz(hc:X.calm=true):zt X (.builtin "min") (λxs H Q=>∃i j,xs=[.int i,.int j]/\Q (.int (if j<i then j else i)) H):=by
 intro pins s σ H xs c Q I r h;let#[i,j,rfl,q]:=h;let#[u,e,rfl,#[t,rfl],#[d,rfl]]:=cL r;refine min_two_ints (I.ok.hd hc) λh' tk k=>#[_,H,I.kept k,?_,q]
 by_cases a:j<i
 .rw[Jc a,Jc a];exact#[0]
 .rw[Jb a,Jb a];exact#[0]
theorem wL:zt X (.type "int") (λxs H Q=>(∃i,xs=[.int i]/\Q (.int i) H)\/∃k,xs=[.bl k]/\Q (.int (if k then 1 else 0)) H):=by
 intro pins s σ H xs c Q I r h;rcases h with⟨i,rfl,q⟩|⟨k,rfl,q⟩
 .let#[u,rfl,t,rfl]:=Qv r
  exact call_int_int #[.int i,H,I,#[0],q]
 .let#[u,rfl,a]:=Qv r
  cases a;exact call_int_bool #[.int (if k then 1 else 0),H,I.tok _,#[0],q]
theorem mh:zt X (.builtin "ord") (λxs H Q=>∃x,xs=[.str x]/\x.length=1/\Q (.int (x.cps.getD 0 0:Nat)) H):=by
 intro pins s σ H xs c Q I r h;let#[x,rfl,a,q]:=h;let#[u,rfl,t,rfl]:=Qv r;exact ord_of_one a #[.int _,H,I.tok _,#[0],q]
end
structure NR(h:Ψ)(x dx C:Δ)(mA:HC):Prop where
 obj:h.get? x=↑(PySem.W.instObj C dx)
 ns:h.Ns1 dx mA
 ne:dx≠x
theorem vp{h:Ψ}(n:h.Ns1 dx mA):∃od,h.get? dx=↑od/\∀name,W.lookIn name od=↑(mA name):=by
 let#[o,es,l,j,i,hk,_,d]:=n;refine#[o,j,λname=>?_]
 have e:=d name;unfold nsFind findBy at e;rw[<- Array.find?_toList]at e;unfold W.lookIn;rw[i]
 dsimp only
 split
 .rename_i y q
  rw[q]at e;exact JY some e
 .rename_i q
  rw[q]at e;have a:es.toList.any (·.refKey)=false:=by
   rw[List.any_eq_false];intro y f;let#[z,t,c]:=hk y (O1.mp f)
   simp [DictEntry.refKey,c]
  have g:¬es.toList.any (·.refKey)=true:=by rw[a];exact JB
  rw[Jb g];exact JY some e
theorem NR.look(I:NR h x dx C mA):∃od,W.InstAt h x (W.instObj C dx) C ↑od/\∀name,W.lookIn name od=↑(mA name):=
 let⟨od,ho,hl⟩:=vp I.ns
 #[od,#[I.obj,7,ho],hl]
section
variable{K:ι}
theorem CG{a:Bool}{Q:Hu}(X:K.In s.heap)(I:NR s.heap x dx C mA)(hg:W.plainGet K C name=true)(e:W.hasDictIn K C=true)
  (ha:W.findIn K (-C) name=↑none)(hv:mA name=↑v)(c:W.handedIn v=true)(h:Q v {s with toks:=s.toks+1}):
  ε (model prog w) A (getAttr (-x) name a) Q E s:=by
 let#[od,J,d]:=I.look;exact W.get_value X J (W.plainGet_of hg).1 (W.findObj_own e ha Z (by rw[d,hv])) c h
theorem An{pl:Sem Bool}{Q:Γ×Η->Θ->Prop}(X:K.In s.heap)(I:NR s.heap x dx C mA)(hg:W.plainGet K C name=true)
  (hf:W.findIn K (-C) name=↑(↑(-f)))(c:W.isFn K (-f)=true)(hv:mA name=none)(h:Q (-f,[-x]) s):
  ε (model prog w) A (getMethod (-x) name pl) Q E s:=by
 let#[od,J,a]:=I.look;exact W.method_fn X J (W.plainGet_of hg).1 (W.plainGet_of hg).2 hf (IG.mp c) (by show(W.lookIn name od).map (·.isSome)=↑false;rw[a,hv];rfl) h
theorem Cb{Q:Unit->Θ->Prop}(X:K.In s.heap)(I:NR s.heap x dx C mA)
  (hs:W.findIn K (-C) "__setattr__"=↑(↑(.builtin "object.__setattr__")))(hp:W.plainOver K C=true)(n:W.takerIn K C name=↑none)(m:W.hasDictIn K C=true)
  (hw:PySem.Within mA ns)(hsz:ns.length<=ζ)
  (h:∀h',NR h' x dx C (λy=>if y=name then ↑v else mA y)->Ψ.SameBut dx s.heap h'->Q () {s with heap:=h',toks:=s.toks+2}):
  ε (model prog w) A (setAttr (-x) name v) Q E s:=by
 let#[od,J,q]:=I.look;refine W.set_plain X J hs (W.osa_open (s:={s with toks:=s.toks+1}) (r:=none) X J hp n λb=>?_)
 let#[u,o,g]:=W.any_some m;have l:s.heap.get? x=some #[-C,↑dx,.plain,(B1 [])]:=I.obj
 refine Ja (Je (Ja (Ja (wpAny_loadPart l (Ja (W.Looks.here (s:={s with toks:=s.toks+1}) (W.looks_clsIn X o) ?_))))))
 rw[g];refine Je (a:=↑dx) (Ja (Je (Ja ?_)))
 refine wpAny_nsSet1 (s:={s with toks:=s.toks+1}) I.ns λh' c d=>?_
 let#[t,p,j,f,i,e]:=c.count (PySem.Within.cons name v hw)
 refine Ja (wpAny_lookBehind f (by rw[i];exact pastItsLine_dict (Jg e (by rw[J2];lia))) ?_)
 exact Je (h _ #[(d.2 _ (Ne.symm I.ne)).trans I.obj,c,I.ne] d)
theorem Ab{R:Result->Θ->Prop}{vs:Η}{c:List (Str×Γ)}(X:K.In s.heap)(hm:W.makesIn K C=true)
  (hi:W.findIn K (-C) "__init__"=↑(↑(-f)))(hf:W.typeIn K (-f)=↑(.type "function"))
  (h:codeAny (model prog w) (A.under (.builtin "type.__call__" #[.ref C::vs,c])) (.call (-f) #[.ref (s.heap.objs.size+1)::vs,c]) (W.InitBack (s.heap.objs.size+1) R)
   {s with heap:=(s.heap.push W.emptyDict).push (W.instObj C s.heap.objs.size)}):
  codeAny (model prog w) A (.call (-C) #[vs,c]) R s:=by
 let#[i,g,d,t,e]:=s;exact W.make_core (W.makes_of X hm) (W.looks_findIn X hi) (λa=>W.bind_fn X a hf) (.inl Z) h
end
noncomputable def QJ(f:Str)(v:V):List (Str×V)->List (Str×V)
 | []=>[(f,v)]
 |(g,x)::r=>if g=f then(g,v)::r else(g,x)::QJ f v r
theorem gA(f g:Str)(v:V):∀fs:List (Str×V),(QJ f v fs).lookup g=if g=f then ↑v else fs.lookup g
 | []=>by
  show KW g [(f,v)]=_
  by_cases h:g=f
  .have a:(g==f)=true:=IG.mpr h
   simp only[KW,a,Jc h]
  .have a:(g==f)=false:=ID.mpr h
   simp only[KW,a,Jb h]
 |(k,x)::r=>by
  have c:=gA f g v r;rw[show QJ f v ((k,x)::r)=(if k=f then(k,v)::r else(k,x)::QJ f v r)from Z]
  by_cases hk:k=f
  .rw[Jc hk]
   by_cases h:g=k
   .have a:(g==k)=true:=IG.mpr h
    simp only[KW,a,Jc (h.trans hk)]
   .have a:(g==k)=false:=ID.mpr h
    simp only[KW,a,Jb (λe:g=f=>h (e.trans hk.symm))]
  .rw[Jb hk]
   by_cases h:g=k
   .have a:(g==k)=true:=IG.mpr h
    simp only[KW,a,Jb (λe:g=f=>hk (h.symm.trans e))]
   .have a:(g==k)=false:=ID.mpr h
    simp only[KW,a];exact c
theorem fj(f:Str)(v:V):∀fs:List (Str×V),f∈(QJ f v fs).map (·.1)/\∀g,g∈fs.map (·.1)->g∈(QJ f v fs).map (·.1)
 | []=>#[by simp [QJ],λg h=>by simp at h]
 |(k,x)::r=>by
  let#[i1,i2]:=fj f v r;rw[show QJ f v ((k,x)::r)=(if k=f then(k,v)::r else(k,x)::QJ f v r)from Z]
  by_cases hk:k=f
  .rw[Jc hk]
   subst hk
   exact#[by simp,λg h=>by simpa using h]
  .rw[Jb hk]
   refine#[?_,λg h=>?_]
   .rw[JC]
    exact JS _ i1
   .rw[JC]at h⊢
    rcases Jp.mp h with e|e
    .exact Jp.mpr (.inl e)
    .exact JS _ (i2 g e)
theorem gG(f:Str)(v:V):∀fs:List (Str×V),(QJ f v fs).length<=fs.length+1
 | []=>by simp [QJ]
 |(k,x)::r=>by
  have a:=gG f v r;rw[show QJ f v ((k,x)::r)=(if k=f then(k,v)::r else(k,x)::QJ f v r)from Z]
  by_cases hk:k=f
  .rw[Jc hk,J2,J2];lia
  .rw[Jb hk,J2,J2];lia
theorem MN.some_of{v:V}(r:MN ↑v o):∃u,o=↑u/\HJ v u:=by
 cases o with
 |none=>exact(show False from r).elim
 |some u=>exact#[u,Z,r]
theorem MN.none_of(r:MN none o):o=none:=by
 cases o with
 |none=>rfl
 |some u=>exact(show False from r).elim
theorem uU(r:HJ v u):W.handedIn u=true:=by
 cases v with
 |non=>cases(show u=Γ.none from r);rfl
 |bl b=>cases(show u=Γ.bool b from r);rfl
 |int i=>let#[t,e]:=(show∃t,u=Γ.int i t from r);cases e;rfl
 |str x=>let#[t,e]:=(show∃t,u=Γ.str x t from r);cases e;rfl
 |byt b=>let#[t,e]:=(show∃t,u=Γ.bytes b t from r);cases e;rfl
 |flt b=>let#[t,e]:=(show∃t,u=Γ.float b t from r);cases e;rfl
 |ref a=>cases(show u=Γ.ref a from r);rfl
 |ty n=>cases(show u=Γ.type n from r);rfl
section
variable{fs:List (Str×V)}
theorem fz(c:M4 P w H h)(e:H a=↑(.ins C dx fs)):∃mA,NR h a dx C mA/\(∀f,MN (fs.lookup f) (mA f))/\PySem.Within mA (fs.map (·.1))/\fs.length<=1000/\H dx=↑(.own a):=by
 let#[d,z,i,g,mA,n,r,q]:=(show HN P w H h a (.ins C dx fs)from c a _ e)
 exact#[mA,#[g,n,i],r,q,z,d]
end
structure Ob(K:ι)(C:Δ):Prop where
 pg:PySem.W.plainGet K C Str.empty=true
 hd:PySem.W.hasDictIn K C=true
 po:PySem.W.plainOver K C=true
 sa:PySem.W.findIn K (-C) "__setattr__"=↑(↑(.builtin "object.__setattr__"))
theorem Ob.get{K:ι}(c:Ob K C)(f:Str):W.plainGet K C f=true:=c.pg
def Ma(K:ι)(C:Δ)(f:Str):Prop:=PySem.W.findIn K (-C) f=↑none
theorem Ma.taker{K:ι}(n:Ma K C f):W.takerIn K C f=↑none:=by
 unfold W.takerIn;rw[show W.findIn K (-C) f=↑none from n]
 rfl
structure OV(K:ι)(C:Δ)(m:Str)(f:Δ):Prop where
 at_:PySem.W.findIn K (-C) m=↑(↑(-f))
 fn:PySem.W.isFn K (-f)=true
 kp:PySem.W.keepIn K (-f)=true
section
variable{fs:List (Str×V)}{b:Bool}
theorem sP{b:Bool}{Q:Hu}(I:HH X pins σ H s)(e:H a=↑(.ins C dx fs))(c:Ob X.K C)(n:Ma X.K C f)(l:fs.lookup f=↑v)
  (h:∀u s',HH X pins σ H s'->HJ v u->Q u s'):ε (model X.prog X.w) A (getAttr (-a) f b) Q E s:=by
 let#[mA,O,r,_,_,_]:=fz I.hok e;let#[u,g,d]:=MN.some_of (v:=v) (o:=mA f) (by rw[<- l];exact r f)
 exact CG I.kIn O (c.get f) c.hd n g (uU d) (h u _ (I.tok _) d)
theorem iI{pl:Sem Bool}{Q:Γ×Η->Θ->Prop}(I:HH X pins σ H s)(e:H a=↑(.ins C dx fs))(c:Ob X.K C)(k:OV X.K C m g)(l:fs.lookup m=none)
  (h:Q (-g,[-a]) s):ε (model X.prog X.w) A (getMethod (-a) m pl) Q E s:=by
 let#[mA,O,r,_,_,_]:=fz I.hok e;have d:mA m=none:=MN.none_of (by rw[<- l];exact r m)
 exact An I.kIn O (c.get m) k.at_ k.fn d h
theorem sU{Q:Unit->Θ->Prop}(I:HH X pins σ H s)(e:H a=↑(.ins C dx fs))(c:Ob X.K C)(n:Ma X.K C f)(hl:fs.length<1000)(l:HJ y u)
  (h:∀s',HH X pins σ (HG H a (.ins C dx (QJ f y fs))) s'->Q () s'):ε (model X.prog X.w) A (setAttr (-a) f u) Q E s:=by
 let#[mA,O,r,i,_,j]:=fz I.hok e;have v:(fs.map (·.1)).length<=ζ:=by rw[Jf,Jt];lia
 refine Cb I.kIn O c.sa c.po n.taker c.hd i v λh' d p=>h _ ?_
 have t:∃o,h'.get? dx=↑o:=let⟨o,_,_,e',_⟩:=d.ns;#[o,e']
 refine I.write (x:=a) (e:=dx) (by rw[e];exact True.intro) (.inr j) (λb q m z=>(p.2 b m).trans z) t ?_
 refine#[by rw[qh O.ne];exact j,?_,O.ne,d.obj,_,d.ns,λg=>?_,λg w=>?_]
 .have:=gG f y fs;lia
 .show MN ((QJ f y fs).lookup g) (if g=f then ↑u else mA g)
  rw[gA]
  by_cases q:g=f
  .rw[Jc q,Jc q];exact l
  .rw[Jb q,Jb q];exact r g
 .by_cases q:g=f
  .rw[q];exact(fj f y fs).1
  .refine(fj f y fs).2 g (i g λz=>w ?_)
   show(if g=f then ↑u else mA g)=none
   rw[Jb q];exact z
theorem HH.made(I:HH X pins σ H s):HH X pins σ (HG (HG H s.heap.objs.size (.own (s.heap.objs.size+1))) (s.heap.objs.size+1) (.ins C s.heap.objs.size []))
  {s with heap:=(s.heap.push W.emptyDict).push (W.instObj C s.heap.objs.size)}:=by
 have d:(s.heap.push W.emptyDict).get? s.heap.objs.size=↑W.emptyDict:=Jr s.heap Z
 have j:((s.heap.push W.emptyDict).push (W.instObj C s.heap.objs.size)).get? (s.heap.objs.size+1)=↑(W.instObj C s.heap.objs.size):=by
  have:=Jr (s.heap.push W.emptyDict) (o:=W.instObj C s.heap.objs.size) Z
  rwa [J9]at this
 have h:(s.heap.push W.emptyDict).Ns s.heap.objs.size (λ_=>none):=#[W.emptyDict,(B1 []),_,d,Z,(λe g=>absurd g (by simp)),λ_=>rfl]
 have f:=I.laid (a:=s.heap.objs.size) (o:= .own (s.heap.objs.size+1)) (h':=s.heap.push W.emptyDict) (t':=s.toks) (λb u q=>Jh _ q) (Jd _) #[_,d]
 refine f.laid (a:=s.heap.objs.size+1) (o:= .ins C s.heap.objs.size []) (t':=s.toks) (λb u q=>Jh _ q) (JZ (J9 _ _)) ?_
 have c:s.heap.objs.size≠s.heap.objs.size+1:=Jq (Ib _)
 refine#[by rw[qh c,qc],JH _,c,j,λ_=>none,(Ψ.Ns1.of_empty h).at λo q=>Jh _ q,λ_=>True.intro,λy i=>absurd Z i]
theorem Cz{prog:Ξ}{w:Ω}{a:Env}{e:Φ}{f:Str}{s:Θ}{Q:Hu}(hb:attributeBase e f a (eval e a)=eval e a)
  (h:ε (model prog w) A (eval e a) (λo c=>ε (model prog w) A (getAttr o f true) Q E c) E s):ε (model prog w) A (eval (.Attribute e f pos) a) Q E s:=
 Attribute_any_ h (by rw[arm_eval_Attribute,hb])
inductive Nb (K:ι)(H:Hp):V->Γ->Prop where
 |non:Nb K H .non (.type "NoneType")
 |bl (x:Bool):Nb K H (.bl x) (.type "bool")
 |int (i:Int):Nb K H (.int i) (.type "int")
 |str (x:Str):Nb K H (.str x) (.type "str")
 |flt (x:UInt64):Nb K H (.flt x) (.type "float")
 |lst {a:Δ} {xs:Α} (e:H a=↑(.lst xs)):Nb K H (-a) (.type "list")
 |frz {a:Δ} {o:Obj} {xs:Α} (e:H a=↑(.frz o (.lst xs))):Nb K H (-a) (.type "list")
 |tup {a:Δ} {xs:Α} (e:H a=↑(.tup xs)):Nb K H (-a) (.type "tuple")
 |dK {a:Δ} {kvs:List (qE×V)} (e:H a=↑(.dK kvs)):Nb K H (-a) (.type "dict")
 |dT {a:Δ} {kvs:List (List qE×V)} (e:H a=↑(.dT kvs)):Nb K H (-a) (.type "dict")
 | ins {a C dx:Δ} {fs:List (Str×V)} (e:H a=↑(.ins C dx fs)) (cl:Ob K C) (ha:PySem.W.findIn K (-C) "__class__"=↑(↑(.builtin "object.__class__")))
   (hn:PySem.W.specialIn K (.builtin "object.__class__") "__get__"=↑(↑(.builtin "getset_descriptor.__get__"))) (htk:PySem.W.takesIn K (.builtin "object.__class__")=↑true)
   (hm:PySem.W.mroIn K C (.type "object")=↑true):Nb K H (-a) (-C)
theorem vq(I:HH X pins σ H s)(d:HJ x u)(ty:Nb X.K H x t)(e:W.kitOne X.K t c=↑b)(h:∀tk,Q (.bool b) {s with toks:=tk}):
  ε (model X.prog X.w) A (call (.builtin "isinstance") [u,c]) Q E s:=by
 cases ty with
 |non=>cases(show u=Γ.none from d);exact J3 W.kitx_none I.kIn True.intro e (λz=>nomatch z) h
 |bl y=>cases(show u=Γ.bool y from d);exact J3 W.kitx_bool I.kIn True.intro e (λz=>nomatch z) h
 |int i=>let#[t,q]:=(show∃t,u=Γ.int i t from d);cases q;exact J3 W.kitx_int I.kIn True.intro e (λz=>nomatch z) h
 |str y=>let#[t,q]:=(show∃t,u=Γ.str y t from d);cases q;exact J3 W.kitx_str I.kIn True.intro e (λz=>nomatch z) h
 |flt y=>let#[t,q]:=(show∃t,u=Γ.float y t from d);cases q;exact J3 W.kitx_float I.kIn True.intro e (λz=>nomatch z) h
 | @lst a xs ea=>
  cases(show u=Γ.ref a from d)
  let#[_,_,n,_,h1]:=(show HN X.prog X.w H s.heap a (.lst xs)from I.hok a _ ea)
  exact J3 W.kitx_list I.kIn #[_,h1,Z] e (λz=>nomatch z) h
 | @frz a ob xs ea=>
  cases(show u=Γ.ref a from d)
  let#[_,_,_,n,_,h1]:=(show HN X.prog X.w H s.heap a (.frz ob (.lst xs))from I.hok a _ ea)
  exact J3 W.kitx_list I.kIn #[_,h1,Z] e (λz=>nomatch z) h
 | @tup a xs ea=>
  cases(show u=Γ.ref a from d)
  let#[_,_,_,p]:=(show HN X.prog X.w H s.heap a (.tup xs)from I.hok a _ ea)
  let#[o,h1,f,_]:=p;exact J3 W.kitx_tuple I.kIn #[o,h1,f] e (λz=>nomatch z) h
 | @dK a kvs ea=>
  cases(show u=Γ.ref a from d)
  let#[_,_,j,_,p]:=(show HN X.prog X.w H s.heap a (.dK kvs)from I.hok a _ ea)
  let#[o,es,g,h1,f,_]:=p;exact J3 W.kitx_dict I.kIn #[o,h1,f.1] e (λz=>nomatch z) h
 | @dT a kvs ea=>
  cases(show u=Γ.ref a from d)
  let#[_,_,xs,_,o,es,g,h1,f,_]:=(show HN X.prog X.w H s.heap a (.dT kvs)from I.hok a _ ea)
  exact J3 W.kitx_dict I.kIn #[o,h1,f.1] e (λz=>nomatch z) h
 | @ins a C dx fs ea cl ha hn htk hm=>
  cases(show u=Γ.ref a from d)
  let#[mA,O,_]:=fz I.hok ea;let#[od,J,_]:=O.look;exact J3 (W.kitx_own (cl.get _) cl.hd ha hn htk hm) I.kIn J e (λz=>nomatch z) h
end
structure HS(k:Nat)(A:Around):Prop where
 hd:A.handled=none
 dp:A.depth+3*k+5<recursionLimit
 un:A.units+16*k+200<cLine
theorem HS.mono{j k:Nat}(r:HS k A)(h:j<=k):HS j A:=#[r.hd,by have:=r.dp;lia,by have:=r.un;lia]
theorem HS.mo{j k:Nat}(r:HS k A)(h:j<=k:=by first|decide|omega):HS j A:=r.mono h
theorem HS.deeper{k:Nat}(r:HS (k+1) A)(a:Env):HS k (A.deeper a):=
 #[r.hd,by have:=r.dp;show A.depth+1+3*k+5<_;lia,by have:=r.un;show A.units+3+16*k+200<_;lia]
theorem HS.in1{k:Nat}(r:HS (k+1) A):HS k A.in1:=
 #[r.hd,by have:=r.dp;show A.depth+3*k+5<_;lia,by have:=r.un;show A.units+1+16*k+200<_;lia]
theorem t6{A:Around}{us:Η}{a:List (Str×Γ)}:(A.under (.builtin "type.__call__" #[.ref C::us,a])).depth=A.depth+1:=by
 first|rfl|simp [Around.under,Code.weight,Code.isCreation,Code.isGuard,Code.isCaller,Code.frames,Code.isFrame,guardIds]
theorem ui{A:Around}{us:Η}{a:List (Str×Γ)}:(A.under (.builtin "type.__call__" #[.ref C::us,a])).units=A.units+1:=by
 first|rfl|simp [Around.under,Code.cUnits,Code.frames,Code.isFrame]
theorem HS.make{k:Nat}(r:HS (k+1) A)(C:Δ)(us:Η)(a:List (Str×Γ)):HS k (A.under (.builtin "type.__call__" #[.ref C::us,a])):=
 #[r.hd,by have:=r.dp;rw[t6];lia,by have:=r.un;rw[ui];lia]
theorem HS.depth{k:Nat}(r:HS k A):A.depth<recursionLimit:=by have:=r.dp;lia
noncomputable def jv:TA:=λ_ H Q=>Q [] H
noncomputable def cF(ta:TE)(c:TA):TA:=λσ H Q=>ta σ H λx H1=>c σ H1 λxs a=>Q (x::xs) a
section
theorem DE:PA X [] jv:=λ_ _ _ _ H Q I h=>Calls.spliced_nil #[[],H,I,.nil,h]
theorem CZ(ha:PE X e te)(hr:PA X es t)(hs:θ (e::es) X.env=(false,eval e X.env)::θ es X.env:=by rfl):PA X (e::es) (cF te t):=by
 intro pos pins s σ H Q I h;rw[hs]
 show ε _ _ (spliced ((false,eval e X.env)::backTo pos (θ es X.env))) _ _ s
 refine Calls.spliced_cons (qB (ha pins s σ H _ I h) λu i j=>?_)
 let#[x,H1,c,f,q1]:=j;exact qB (hr pos pins i σ H1 _ c q1) λl m ⟨xs,d,a,g,q2⟩=>#[x::xs,d,a,.cons f g,q2]
noncomputable def D8(t:TA):TE:=λσ H Q=>t σ H λxs H1=>xs.length<=ζ/\∀p,H1 p=none->Q (-p) (HG H1 p (.tup xs))
noncomputable def ES(t:TA):TE:=λσ H Q=>t σ H λxs H1=>xs.length<=ζ/\∀p,H1 p=none->Q (-p) (HG H1 p (.lst xs))
theorem DA{x1}(h:PA X es t):PE X (.Tuple es x1 pos) (D8 t):=by
 intro pins s σ H Q I d;refine wpAny_Tuple_spliced (qB (h pos pins s σ H _ I d) λf a ⟨xs,H1,c,r,z,q⟩=>#[by rw[<- r.length];exact z,?_])
 have g:H1 a.heap.objs.size=none:=c.hok.fresh (Jd _)
 refine#[-a.heap.objs.size,HG H1 a.heap.objs.size (.tup xs),c.laid (t':=a.toks) (λb u e=>Jh _ e) (Jd _) ?_,Z,q _ g]
 exact#[z,f,r,#[_,Jr _ Z,17]]
theorem Dy(h:PA X es t):PE X (.List es pos) (ES t):=by
 intro pins s σ H Q I d;refine wpAny_List_spliced (qB (h pos pins s σ H _ I d) λf a ⟨xs,H1,c,r,z,q⟩=>#[by rw[<- r.length];exact z,?_])
 have g:H1 a.heap.objs.size=none:=c.hok.fresh (Jd _)
 refine#[-a.heap.objs.size,HG H1 a.heap.objs.size (.lst xs),c.laid (t':=a.toks) (λb u e=>Jh _ e) (Jd _) ?_,Z,q _ g]
 exact#[z,f,(0),r,Jr _ Z]
end
noncomputable abbrev Sp:=Α->Hp->VK->XK->Prop
noncomputable abbrev cV:=Τ->Hp->Θ->XK->Γ->Θ->Prop
structure Nc(P:Ξ)(w:Ω)(K:ι)(mg:HC)(base:Ψ)(A:Around)(outer:Τ)(s:Θ)(H:Hp):Prop where
 frames:A.frames=↑outer
 mod:PX K mg base
 bs:∀b o,base.get? b=↑o->s.heap.get? b=↑o/\H b=none
 bsz:base.objs.size<=s.heap.objs.size
 funs:s.heap.FunFrames base outer
 frf:∀b∈bo outer,H b=none
 hok:M4 P w H s.heap
 bare:AllBare s.gens
def CE(a:Τ)(P:Ξ)(w:Ω)(H:Hp)(s:Θ)(Q:VK)(u:Γ)(s':Θ):Prop:=
 ∃v H',s'.os=s.os/\AllBare s'.gens/\Un (bo a) [] H H' s.heap s'.heap/\M4 P w H' s'.heap/\HJ v u/\Q v H'
def CR(CX:cV)(a:Τ)(P:Ξ)(w:Ω)(H:Hp)(s:Θ)(Q:VK)(E:XK)(r:Result)(s':Θ):Prop:=
 match r with
 | .ok (.ret u)=>CE a P w H s Q u s'
 | .ok _=>False
 | .error e=>CX a H s E e s'
structure M5(P:Ξ)(w:Ω)(K:ι)(mg:HC)(base:Ψ)(CX:cV)(k:Nat)(f:Δ)(fd:FuncData)(ps:Β)(sp:Sp):Prop where
 len:∀vs H Q E,sp vs H Q E->vs.length=ps.length
 run:∀(A:Around) (outer:Τ) (s:Θ) (H:Hp) (args:Args) (us:Η) (vs:Α) (Q:VK) (E:XK),HS k A->Nc P w K mg base A outer s H->BindsTo s fd args (ps.zip us)->HL vs us->sp vs H Q E->
  codeAny (model P w) A (.call (-f) args) (CR CX outer P w H s Q E) s
theorem Nc.make{K:ι}(e:Nc P w K mg base A a s H)(C:Δ)(us:Η)(c:List (Str×Γ)):
  Nc P w K mg base (A.under (.builtin "type.__call__" #[.ref C::us,c])) a s H:=#[by first|exact e.frames|(simpa [Around.under,Code.envs,Code.isFrame,pushEnvs]using e.frames),e.mod,e.bs,e.bsz,e.funs,e.frf,e.hok,e.bare]
section
theorem HH.env0(I:HH X pins σ H s):Nc X.prog X.w X.K X.mg X.base X.A X.stack s H:=
 #[I.ok.frames,I.ok.mod,I.bs,Jg I.ok.bsz I.sz,I.stack,I.stkFree,I.hok,I.bare]
theorem HH.after(I:HH X pins σ H s)(h:CE X.stack X.prog X.w H s Q u s'):EP X pins σ Q u s':=by
 let#[v,H',i,a,un,e,r,q]:=h;let#[f,g,d,t,c]:=s'
 obtain rfl:c=s.os:=i
 exact#[v,H',I.call (h':=f) (g':=g) (d':=d) (t':=t) (ch:=[]) un e a (λb z=>absurd z (by simp)),r,q]
end
noncomputable def sN(sp:Sp)(dvs:Α)(E:XK)(t:TA):TE:=λσ H Q=>t σ H λa H1=>sp (a++dvs) H1 Q E
noncomputable def Bw(C:Δ)(sp:Sp)(dvs:Α)(E:XK)(t:TA):TE:=λσ H Q=>t σ H λc H1=>∀x dx,H1 x=none->H1 dx=none->dx≠x->
 sp (.ref x::(c++dvs)) (HG (HG H1 dx (.own x)) x (.ins C dx [])) (λv a=>v= .non/\Q (-x) a) E
def MK(K:ι)(fd:FuncData)(ps:Β)(ds:Η):Prop:=
 ∀(s:Θ) (a:Η),K.In s.heap->(a++ds).length=ps.length->BindsTo s fd #[a,[]] (ps.zip (a++ds))
theorem MK.all{K:ι}{fd:FuncData}{ps:Β}(h:∀a:Η,a.length=ps.length->bindArgs fd #[a,[]]=pure (ps.zip a)):MK K fd ps []:=λs a _ c=>by
 rw[GC]at c⊢;exact .of_eq (h a c)
def eW(CX:cV)(X:Cx)(E:XK):Prop:=∀(pins:HD) (σ:St) (H:Hp) (s:Θ) (e:Γ) (s':Θ),HH X pins σ H s->CX X.stack H s E e s'->X.xe e s'
section
variable{k:Nat}
theorem nD(F:M5 X.prog X.w X.K X.mg X.base CX k f fd ps sp)(hr:HS k X.A)(hb:MK X.K fd ps ds)(hd:HL dvs ds)(hx:eW CX X E)
  (I:HH X pins σ H s)(r:HL vs us)(h:sp (vs++dvs) H Q E):ε (model X.prog X.w) X.A (call (-f) us) (EP X pins σ Q) X.xe s:=by
 have c:HL (vs++dvs) (us++ds):=r.append hd
 have d:(us++ds).length=ps.length:=by rw[<- c.length];exact F.len _ _ _ _ h
 refine wpAny_call (IH (F.run X.A X.stack s H #[us,[]] (us++ds) (vs++dvs) Q E hr I.env0 (hb s us I.kIn d) c h) λr s' a=>?_)
 cases r with
 |error e=>exact hx pins σ H s e s' I a
 |ok fl=>
  cases fl with
  |ret u=>exact I.after a
  |next=>exact False.elim a
  |brk=>exact False.elim a
  |cont=>exact False.elim a
theorem CF(F:M5 X.prog X.w X.K X.mg X.base CX k f fd ps sp)(hr:HS k X.A)(hg:Gl X x)(hm:X.mg x=↑(-f))(hk:W.keepIn X.K (-f)=true)(hb:MK X.K fd ps ds)(hd:HL dvs ds)(hx:eW CX X E)
  (ha:PA X (e::es) t)(hdb:(x==("__debug__":Str))=false:=by decide)(he:θ (e::es) X.env=(false,eval e X.env)::θ es X.env:=by rfl)(hpl:(backTo pos (θ es X.env)).any (·.1)=false:=by rfl):
  PE X (.Call (.Name x p) (e::es) [] pos) (sN sp dvs E t):=by
 intro pins s σ H Q I h;refine II (fK I hg hm ?_ hdb)
 refine W.callWith_K (h₀:=X.base) I.ok.mod.kin hk (qB (ha pos pins s σ H _ I h) λc g ⟨d,H1,a,r,q⟩=>#[a.kIn,?_]) he hpl
 exact nD F hr hb hd hx a r q
structure Mk(K:ι)(C f:Δ):Prop where
 makes:PySem.W.makesIn K C=true
 init:PySem.W.findIn K (-C) "__init__"=↑(↑(-f))
 fn:PySem.W.isFn K (-f)=true
 kp:PySem.W.keepIn K (-C)=true
theorem yU{Q:VK}(M:Mk X.K C f)(F:M5 X.prog X.w X.K X.mg X.base CX k f fd ps sp)(hr:HS (k+1) X.A)(hb:MK X.K fd ps ds)(hd:HL dvs ds)
  (hx:eW CX X E)(I:HH X pins σ H s)(r:HL vs us)
  (h:∀x dx,H x=none->H dx=none->dx≠x->sp (.ref x::(vs++dvs)) (HG (HG H dx (.own x)) x (.ins C dx [])) (λv j=>v= .non/\Q (-x) j) E):
  ε (model X.prog X.w) X.A (call (-C) us) (EP X pins σ Q) X.xe s:=by
 have d:=h (s.heap.objs.size+1) s.heap.objs.size (I.hok.fresh (GN _)) (I.hok.fresh (Jd _)) (Jq (Ib _));have c:=HH.made (C:=C) I
 have g:HL (V.ref (s.heap.objs.size+1)::(vs++dvs)) (Γ.ref (s.heap.objs.size+1)::(us++ds)):= .cons Z (r.append hd)
 have i:(Γ.ref (s.heap.objs.size+1)::us++ds).length=ps.length:=by
  have e:=g.length;rw[F.len _ _ _ _ d]at e;exact e.symm
 refine wpAny_call (Ab (f:=f) I.kIn M.makes M.init (IG.mp M.fn) (IH (F.run _ X.stack _ _ #[Γ.ref (s.heap.objs.size+1)::us,[]] (Γ.ref (s.heap.objs.size+1)::(us++ds)) _ _ E (hr.make C us [])
  (c.env0.make C us []) (hb _ (Γ.ref (s.heap.objs.size+1)::us) c.kIn i) g d) λr s' a=>?_))
 cases r with
 |error e=>exact hx pins σ _ _ e s' c a
 |ok fl=>
  cases fl with
  |ret u=>
   let#[v,H',l,m,n,q3]:=c.after a;subst n
   exact#[m,#[V.ref (s.heap.objs.size+1),H',l,Z,q3]]
  |next=>exact False.elim a
  |brk=>exact False.elim a
  |cont=>exact False.elim a
theorem Cv(M:Mk X.K C f)(F:M5 X.prog X.w X.K X.mg X.base CX k f fd ps sp)(hr:HS (k+1) X.A)(hg:Gl X x)(hm:X.mg x=↑(-C))(hb:MK X.K fd ps ds)(hd:HL dvs ds)(hx:eW CX X E)
  (ha:PA X (e::es) t)(hdb:(x==("__debug__":Str))=false:=by decide)(he:θ (e::es) X.env=(false,eval e X.env)::θ es X.env:=by rfl)(hpl:(backTo pos (θ es X.env)).any (·.1)=false:=by rfl):
  PE X (.Call (.Name x p) (e::es) [] pos) (Bw C sp dvs E t):=by
 intro pins s σ H Q I h;refine II (fK I hg hm ?_ hdb)
 refine W.callWith_K (h₀:=X.base) I.ok.mod.kin M.kp (qB (ha pos pins s σ H _ I h) λc g ⟨d,H1,a,r,q⟩=>#[a.kIn,?_]) he hpl
 exact yU M F hr hb hd hx a r q
end
def PK(X:Cx)(kws:ν)(t:TA):Prop:=
 ∀(pos:Pos) (pins:HD) (s:Θ) (σ:St) (H:Hp) (Q:Α->Hp->Prop),HH X pins σ H s->t σ H Q->ε (model X.prog X.w) X.A (evalAll ((backToKw pos (keywordEach kws X.env)).map (·.2))) (AP X pins σ Q) X.xe s
section
theorem vy:PK X [] jv:=λ_ _ _ _ H Q I h=>wpAny_evalAll_nil #[[],H,I,.nil,h]
theorem jF(ha:PE X e te)(hr:PK X kws t):PK X (#[nm,e,kpos]::kws) (cF te t):=by
 intro pos pins s σ H Q I h
 show ε _ _ (evalAll ((do let v <- eval e X.env;standAt pos;pure v)::(backToKw pos (keywordEach kws X.env)).map (·.2))) _ _ s
 refine wpAny_evalAll_cons (Ja (qB (ha pins s σ H _ I h) λu i ⟨x,H1,c,f,q1⟩=>Ja (IE (Je ?_))))
 exact qB (hr pos pins i σ H1 _ c q1) λj l ⟨xs,d,a,g,q2⟩=>#[x::xs,d,a,.cons f g,q2]
end
structure HF(N P:Β)(sc:Scope):Prop where
 kind:sc.kind= .function
 co:sc.isCoroutine=false
 gen:sc.isGenerator=false
 nd:N.Nodup
 pre:N.take P.length=P
 par:∀x∈P,sc.names.lookup x=some .local\/sc.names.lookup x=some .cell
 nofree:∀y∈sc.names,y.2≠ .free
theorem j4{a:Str->Option NameKind}{x:Str}:∀{binds:List (Str×Γ)} {m:HC},(∀v,(x,v)∉binds)->bindL a binds m x=m x
 | [],_,_=>rfl
 |(n,v)::r,m,h=>by
  unfold bindL;rw[j4 λw c=>h w (JS _ c)]
  split
  .have:x≠n:=by rintro rfl;exact h v JM
   simp [this]
  .rfl
theorem jW{a:Str->Option NameKind}{x:Str}:∀{binds:List (Str×Γ)} {m:HC},(∀v,(x,v)∉binds)->bindC a binds m x=m x
 | [],_,_=>rfl
 |(n,v)::r,m,h=>by
  unfold bindC;rw[jW λw c=>h w (JS _ c)]
  split
  .rfl
  .have:x≠n:=by rintro rfl;exact h v JM
   simp [this]
theorem kh{a:Str->Option NameKind}{x:Str}{v:Γ}:∀{P:Β} {vs:Η} {i:Nat} {m:HC},P.Nodup->P[i]? =↑x->vs[i]? =↑v->a x=some .local->
  bindL a (P.zip vs) m x=↑v
 | [],_,_,_,_,h,_,_=>by simp at h
 |_::_,[],_,_,_,_,h,_=>by simp at h
 |p::P,w::vs,0,m,nd,h1,h2,hk=>by
  simp at h1 h2;subst h1;subst h2
  show bindL a ((p,w)::P.zip vs) m p=_
  unfold bindL;rw[j4 λv c=>(Ii.mp nd).1 (IJ c).1,Jc hk]
  simp
 |p::P,w::vs,i+1,m,nd,h1,h2,hk=>by
  show bindL a ((p,w)::P.zip vs) m x=_
  unfold bindL;exact kh (i:=i) (Ii.mp nd).2 (by simpa using h1) (by simpa using h2) hk
theorem kx{a:Str->Option NameKind}{x:Str}{v:Γ}:∀{P:Β} {vs:Η} {i:Nat} {m:HC},P.Nodup->P[i]? =↑x->vs[i]? =↑v->a x≠some .local->
  bindC a (P.zip vs) m x=↑v
 | [],_,_,_,_,h,_,_=>by simp at h
 |_::_,[],_,_,_,_,h,_=>by simp at h
 |p::P,w::vs,0,m,nd,h1,h2,hk=>by
  simp at h1 h2;subst h1;subst h2
  show bindC a ((p,w)::P.zip vs) m p=_
  unfold bindC;rw[jW λv c=>(Ii.mp nd).1 (IJ c).1,Jb hk]
  simp
 |p::P,w::vs,i+1,m,nd,h1,h2,hk=>by
  show bindC a ((p,w)::P.zip vs) m x=_
  unfold bindC;exact kx (i:=i) (Ii.mp nd).2 (by simpa using h1) (by simpa using h2) hk
noncomputable def ME(N:Β)(vs:Α):St:=vs.map some++D0 (N.length-vs.length) none
noncomputable def ZE(CX:cV)(P:Ξ)(w:Ω)(K:ι)(mg:HC)(base:Ψ)(N:Β)(gV:Str)(scope:Scope)(f:Δ)(c:Γ)(A:Around)(outer:Τ)(s:Θ)(H:Hp)(E:XK):Cx where
 prog:=P
 w:=w
 K:=K
 mg:=mg
 base:=base
 A:=A.deeper (envOfC gV scope s.heap.objs.size f c)
 N:=N
 s₀:=s
 H₀:=H
 env:=envOfC gV scope s.heap.objs.size f c
 outer:=outer
 stack:=envOfC gV scope s.heap.objs.size f c::outer
 ex:=[]
 calm:=true
 fn:=λ_=>true
 pn:=[]
 xe:=λe s'=>ε (model P w) (A.deeper (envOfC gV scope s.heap.objs.size f c)) (leaving (envOfC gV scope s.heap.objs.size f c) e) (λ_ a=>CX outer H s E e a) (λd a=>CX outer H s E d a) s'
theorem mX{a:Scope}{n:Nat}(h:a.names.lookup x=some .cell):∃c,(cellsFrom n a.names []).lookup x=↑c:=by
 have q:=W.cellsFrom_some a.names n [] (.inl h);exact Lb.mp q
theorem kG{K:ι}{gV:Str}{f:Δ}{t:Γ}{A:Around}{vs:Α}
  (S:HF N ps scope)(hd:A.handled=none)(e0:Nc P w K mg base A d s H)(hl:vs.length=ps.length)(r:HL vs us)
  (x:InCallC s s.heap.objs.size (bindL (envOfC gV scope s.heap.objs.size f t).kindOf (ps.zip us) λ_=>none) (cellsFrom (s.heap.objs.size+1) scope.names []) (bindC (envOfC gV scope s.heap.objs.size f t).kindOf (ps.zip us) λ_=>none) C):
  HH (ZE CX P w K mg base N gV scope f t A d s H E) [] (ME N vs) H C:=by
 have G:ps.length<=N.length:=by have:=JY List.length S.pre;rw[JP]at this;lia
 let#[h1,tk,rfl,hk]:=x.done;have j:∀b:Δ,b∉(ZE CX P w K mg base N gV scope f t A d s H E).ex:=λb z=>absurd (show b∈([]:Ι)from z) (by simp)
 exists #[e0.mod,S.kind,7,Jd _,λy z c h1 g=>?_,λy l=>?_,λy c _ h=>?_,λ_=>hd,Around.frames_deeper e0.frames,.inr #[7],λb z=>absurd z (j b),e0.bs,e0.bsz,λb _ _=>j b,λb z=>absurd z (j b),e0.funs,e0.frf],
  rfl,e0.bare,Un.kept hk,#[_,x.toInCall.ns,λi y v h1 g I=>?_],λy c h=>#[_,x.cell y c h],e0.hok.fresh (Jd _),λy c h=>?_,λp o=>absurd (show p∈([]:HD)from o) (by simp),e0.hok.kept hk
 .exact name_of_addr x.apart (Lc h1) (Lc g)
 .have l:scope.names.lookup y=some .cell\/scope.names.lookup y=some .free:=l
  rcases l with l|l
  .exact mX l
  .exact absurd Z (S.nofree _ (Lc l))
 .exact Jv (x.above y c (Lc h))
 .have hi:i<vs.length:=by
   unfold ME at g
   by_cases hi:i<vs.length
   .exact hi
   .rw[GU (by simpa using hi)]at g
    rw[O5]at g;split at g<;>cases g
  have D:vs[i]? =↑v:=by
   unfold ME at g;rw[Io (by simpa using hi),Jo]at g
   cases e:vs[i]? with
   |none=>rw[e]at g;cases g
   |some a=>rw[e]at g;cases g;rfl
  let#[u,B,F]:=r.get D;have o:ps[i]? =↑y:=by
   rw[<- S.pre,N4 (by lia)];exact h1
  have m:ps.Nodup:=by rw[<- S.pre];exact S.nd.sublist (PD _ _)
  exists u,F
  rcases S.par y (Jy o)with k|k
  .exact .inl #[k,kh m o B k]
  .let#[c,e]:=mX (n:=s.heap.objs.size+1) k
   refine .inr #[.inl k,c,e,?_]
   have q:=x.cell y c e;rw[kx m o B (by show scope.names.lookup y≠_;rw[k];decide)]at q
   exact q
 .exact e0.hok.fresh (Jv (x.above y c (Lc h)))
 .unfold ME
  show _=N.length
  rw[Jz,Jf,Lz];lia
theorem AJ{K:ι}{k:Nat}{kV oc:Γ}{od:Χ}
  {osl:Array Ο}{sp:Sp}(O:K.lookup f=some #[oc,od,.func (W.fnOf name gV params body scope C kV doc pm an cdv ct),osl])(p:W.codeIn K cdv gV=true)(S:HF N ps scope)
  (h:∀vs H Q E,sp vs H Q E->vs.length=ps.length)
  (d:∀(A:Around) (a:Τ) (s:Θ) (H:Hp) (vs:Α) (Q:VK) (E:XK),HS k (A.deeper (envOfC gV scope s.heap.objs.size f cdv))->sp vs H Q E->
   ∃t,NQ (ZE CX P w K mg base N gV scope f cdv A a s H E) body t/\t {nx:=λ_ H'=>Q .non H',rt:=Q} (ME N vs) H):
  M5 P w K mg base CX (k+1) f (W.fnOf name gV params body scope C kV doc pm an cdv ct) ps sp:=by
 refine#[h,λA a s H D X vs Q E m e0 Y r j=>?_]
 have U:=h _ _ _ _ j;have B:K.In s.heap:=e0.mod.kin.keeps λb o e=>(e0.bs b o e).1
 have l:s.heap.NoLimit:=e0.mod.nolimit.keeps λb o e=>(e0.bs b o e).1
 have g:∀y∈ps.zip X,scope.names.lookup y.1=some .local\/(scope.names.lookup y.1=some .cell/\((cellsFrom (s.heap.objs.size+1) scope.names []).lookup y.1).isSome=true):=λ⟨n,v⟩ hy=>by
  rcases S.par n (IJ hy).1 with q|q
  .exact .inl q
  .exact .inr #[q,W.cellsFrom_some _ _ _ (.inl q)]
 refine codeAny_call_function m.depth (B _ _ O) Z S.co S.gen Z (W.codeRec_of B p) (Y _ _ _ _ ?_)
 refine wpAny_newFunctionEnv_cells S.kind g λR G F x=>?_
 subst G;refine#[l.keeps x.toInCall.keep,codeAny_func ?_]
 let#[t,M,L]:=d A a s H vs Q E (m.deeper _) j
 have I:HH (ZE CX P w K mg base N gV scope f cdv A a s H E) [] (ME N vs) H F:=kG S m.hd e0 U r x
 refine JJ (M [] F (ME N vs) H _ I L) (λT s' hs=>?_) λe s' hs=>hs
 have i:∀{c:St} {H':Hp} {v:V} {u:Γ},HH (ZE CX P w K mg base N gV scope f cdv A a s H E) [] c H' s'->HJ v u->Q v H'->CE a P w H s Q u s':=
  λ{c H' v u} J z q=>#[v,H',J.os,J.bare,J.base,J.hok,z,q]
 cases T with
 |ret u=>
  let#[v,c,H',J,z,q]:=hs;exact i J z q
 |next=>
  let#[c,H',J,q]:=hs;exact i (v:=V.non) (u:=Γ.none) J Z q
 |brk=>
  let#[_,_,_,q]:=hs;exact False.elim q
 |cont=>
  let#[_,_,_,q]:=hs;exact False.elim q
section
variable{X:Cx}{x:Str}{e:Φ}{es:Κ}{t:TA}{id:String}{r:Α->Hp->VK->Prop}
noncomputable def By(r:Α->Hp->VK->Prop)(t:TA):TE:=λσ H Q=>t σ H λa H1=>r a H1 Q
theorem yY(hc:zt X (.builtin id) r)(hg:Gl X x)(hm:X.mg x=none)(hv:bootBuiltins x=↑(.builtin id))(ha:PA X (e::es) t)(hn:x≠"__name__":=by decide)(hdb:(x==("__debug__":Str))=false:=by decide)
  (he:θ (e::es) X.env=(false,eval e X.env)::θ es X.env:=by rfl)(hpl:(backTo pos (θ es X.env)).any (·.1)=false:=by rfl):PE X (.Call (.Name x p) (e::es) [] pos) (By r t):=by
 intro pins s σ H Q I h;refine II (Zh I hg hm hv ?_ hn hdb)
 exact PyProof.Rows.callWith_builtin1 (qB (ha pos pins s σ H _ I h) λc g ⟨d,H1,a,f,q1⟩=>hc pins g σ H1 d c Q a f q1) he hpl
theorem uV(hc:zt X (.type T) r)(hg:Gl X x)(hm:X.mg x=none)(hv:bootBuiltins x=↑(.type T))(ha:PA X (e::es) t)(hn:x≠"__name__":=by decide)(hdb:(x==("__debug__":Str))=false:=by decide)
  (he:θ (e::es) X.env=(false,eval e X.env)::θ es X.env:=by rfl)(hpl:(backTo pos (θ es X.env)).any (·.1)=false:=by rfl):PE X (.Call (.Name x p) (e::es) [] pos) (By r t):=by
 intro pins s σ H Q I h;refine II (Zh I hg hm hv ?_ hn hdb)
 exact IZ (qB (ha pos pins s σ H _ I h) λc g ⟨d,H1,a,f,q1⟩=>hc pins g σ H1 d c Q a f q1) he hpl
end
end L2
namespace HT
open PySem PyProof.Rows
theorem rcLt_int(A:Around)(s:Θ)(a:Int)(t:Tok)(c:Int)(u:Tok)(prog:Ξ)(w:Ω)(E:Hu)(Q:Hu)(h:Q (.bool (decide (a<c))) s):
  ε (model prog w) A (richCompare .Lt (.int a t) (.int c u)) Q E s:=
 (PyProof.Rows.lt_int h:ε (model prog w) A (compareOp .Lt (.int a t) (.int c u)) Q E s)
section
theorem cat_tup{b:Δ}{vs a:Η}{Q:Hu}(u:IsTup s.heap t vs.toArray)(hb:IsTup s.heap b a.toArray)(hv:vs≠[])
  (h1:a=[]->Q (-t) s)(h2:a≠[]->Q (-s.heap.objs.size) {s with heap:=s.heap.push {cls:= .type "tuple",data:= .seq (vs++a).toArray}})
  (hsz:vs.length+a.length<=ζ):ε (model prog w) A (binaryOp .Add (-t) (-b)) Q E s:=by
 let#[#[cls,q,data,o],j,r,n,p]:=id u;let#[#[m,g,l,d],c,h,n2,f]:=id hb;simp only at r p h f
 subst r p h f;have e:vs.toArray++a.toArray=(vs++a).toArray:=by simp
 by_cases i:a=[]
 .exact concat_meets #[_,j,Z] #[_,c,Z] noFill_tuple_add seq_tuple_add LO LP (LQ _ _)
   (tuple_addW1 t b vs.toArray a.toArray n n2 q g o d (by simpa using hv) (by simp [i])) #[j,c,h1 i]
 .refine concat_meets #[_,j,Z] #[_,c,Z] noFill_tuple_add seq_tuple_add LO LP (LQ _ _)
   (tuple_addW2 t b vs.toArray a.toArray n n2 q g o d (by simpa using hv) (by simpa using i) (by rw[Js,Js];exact hsz)) #[j,c,?_]
  rw[e];exact h2 i
noncomputable def sIx(n d:Nat):Λ->Nat
 |none=>d
 |some v=>if v<0 then(v+(n:Int)).toNat else min v.toNat n
theorem sIx_none(n d:Nat):sIx n d none=d:=Z
theorem sIx_nat(n d k:Nat):sIx n d ↑(k:Int)=min k n:=by
 show(if(k:Int)<0 then((k:Int)+(n:Int)).toNat else min (k:Int).toNat n)=min k n
 rw[Jb (by lia),GD]
theorem DV(n d:Nat)(hd:d<=n)(o:Λ):sIx n d o<=n:=by
 cases o with
 |none=>exact hd
 |some v=>
  show(if v<0 then(v+(n:Int)).toNat else min v.toNat n)<=n
  by_cases a:v<0
  .rw[Jc a];lia
  .rw[Jb a];exact Ip _ _
theorem rZ(v:Int)(n d:Nat):(if v<0 then max (v+(n:Int)) 0 else min v (n:Int))=((sIx n d ↑v:Nat):Int):=by
 show(if v<0 then max (v+(n:Int)) 0 else min v (n:Int))=(((if v<0 then(v+(n:Int)).toNat else min v.toNat n):Nat):Int)
 by_cases a:v<0
 .simp only[Jc a];lia
 .simp only[Jb a];lia
theorem tZ(lo hi:Λ)(n:Nat):γ.Slice.sliceAdjust lo hi 1 (n:Int)=(((sIx n 0 lo:Nat):Int),((sIx n n hi:Nat):Int)):=by
 have h1:¬((1:Int)<0):=by lia
 unfold γ.Slice.sliceAdjust;simp only[h1,JU];refine Prod.ext ?_ ?_
 .cases lo with
  |none=>rfl
  |some v=>exact rZ v n 0
 .cases hi with
  |none=>rfl
  |some v=>exact rZ v n n
theorem sF(i j:Nat):γ.Slice.slicePlaces (i:Int) (j:Int) 1=j-i:=by
 unfold γ.Slice.slicePlaces;have h1:(1:Int)>0:=by lia
 simp only[h1,JW,Int.ediv_one];split<;>lia
theorem jb{Q:Λ->Θ->Prop}(p:IsPart v o)(h:Q o s):ε (model prog w) A (γ.Slice.slicePartIndex v) Q E s:=by
 cases p with
 |none=>exact slicePart_none h
 |int i t=>exact slicePart_int h
theorem sliceApplied_gen{sl:Δ}{d e:Γ}{lo hi:Λ}{n:Nat}{Q:Int×Int×Nat->Θ->Prop}(hs:s.heap.IsSliceOf sl d e .none)(pl:IsPart d lo)(g:IsPart e hi)
  (h:Q (((sIx n 0 lo:Nat):Int),1,sIx n n hi-sIx n 0 lo) s):ε (model prog w) A (γ.Slice.sliceApplied (-sl) (pure (n:Int))) Q E s:=by
 let#[i,a,f,c]:=id hs;unfold γ.Slice.sliceApplied γ.Slice.sliceFields;refine Ja (Ja (JK a c (x:=d) Z (Ja (JK a c (x:=e) Z (Ja (JK a c (x:= .none) Z (Je ?_)))))))
 refine Ja (slicePart_none ?_)
 show ε _ _ (if((1:Int)==0)=true then _ else _) _ _ s
 rw[Jb ⋯]
 refine Ja (jb pl (Ja (jb g (Ja (Je ?_)))))
 show ε _ _ (match γ.Slice.sliceAdjust lo hi 1 (n:Int)with|(lo,hi)=>pure (lo,(1:Int),γ.Slice.slicePlaces lo hi 1)) _ _ s
 rw[tZ lo hi n]
 show ε _ _ (pure (((sIx n 0 lo:Nat):Int),(1:Int),γ.Slice.slicePlaces ((sIx n 0 lo:Nat):Int) ((sIx n n hi:Nat):Int) 1)) _ _ s
 rw[sF];exact Je h
theorem yp(xs:Array Γ)(i k:Nat):((B2 k).filterMap λ(m:Nat)=>xs[((i:Int)+(m:Int)*1).toNat]?).toArray=((xs.toList.drop i).take k).toArray:=by
 have e:(λ(m:Nat)=>xs[((i:Int)+(m:Int)*1).toNat]?)=λm=>xs[i+m]? :=by
  funext m
  have:((i:Int)+(m:Int)*1).toNat=i+m:=by lia
  rw[this]
 rw[e]
 have:=pick_run xs i k
 rw[List.filterMap_map]at this;have a:((λx=>xs[x]?)∘λx=>i+x)=λm=>xs[i+m]? :=Z
 rw[a]at this;rw[this]
theorem getItem_tuple_cut{t sl:Δ}{items:Array Γ}{i j:Γ}{lo hi:Λ}{Q:Hu}(c:IsTup s.heap t items)(hs:s.heap.IsSliceOf sl i j .none)(pl:IsPart i lo)(l:IsPart j hi)
  (hw:¬(sIx items.size 0 lo=0/\sIx items.size items.size hi=items.size))
  (h:Q (-s.heap.objs.size) {s with heap:=s.heap.push {cls:= .type "tuple",data:= .seq ((items.toList.drop (sIx items.size 0 lo)).take (sIx items.size items.size hi-sIx items.size 0 lo)).toArray}})
  (hsz:items.size<=ζ):ε (model prog w) A (getItem (-t) (-sl)) Q E s:=by
 have a:sizeOk (.seq ((items.toList.drop (sIx items.size 0 lo)).take (sIx items.size items.size hi-sIx items.size 0 lo)).toArray):=by
  show((items.toList.drop (sIx items.size 0 lo)).take (sIx items.size items.size hi-sIx items.size 0 lo)).toArray.size<=ζ
  rw[Js,JP,Lj,JV];lia
 have p:sIx items.size items.size hi<=items.size:=DV _ _ (Jd _) hi
 let#[n,d,e,o]:=id hs;have g:s.TypeIs (-sl) "slice":=#[n,d,e]
 unfold getItem
 try with_reducible refine JO ?_
 first|refine Ja (Je ?_)|skip
 refine Ja (wpAny_sequenceKey c.typeIs ⋯ ?_)
 refine Ja (wpAny_callSpecial?_slot (name:=Str.ofString "__getitem__") c.typeIs LA
  (J0 LA c.typeIs entry_tuple_getitem ?_ (args_tuple_getitem _ _)))
 show ε _ _ (γ.Tuple.tupleItemsOf (-t) >>= _) _ _ s
 refine Ja (tupleItemsOf_ c ?_)
 refine Ja (Lk g ?_)
 rw[Jc ⋯]
 refine Ja (sliceApplied_gen hs pl l ?_)
 have f:¬((((sIx items.size 0 lo:Nat):Int)==0&&(1:Int)==1&&(sIx items.size items.size hi-sIx items.size 0 lo)==items.size)=true):=by
  intro q;rw[GF,GF]at q;have q1:((sIx items.size 0 lo:Nat):Int)=0:=eq_of_beq q.1.1
  have q2:sIx items.size items.size hi-sIx items.size 0 lo=items.size:=eq_of_beq q.2
  exact hw #[by lia,by lia]
 show ε _ _ (if(((sIx items.size 0 lo:Nat):Int)==0&&(1:Int)==1&&(sIx items.size items.size hi-sIx items.size 0 lo)==items.size)=true then _ else _) _ _ s
 rw[Jb f,yp]
 first
  |exact Ja (m:=γ.Tuple.tupleExact _) (F0 (Je ⟨_,rfl,Je h⟩) a)
  |exact Ja (m:=γ.Tuple.tupleExact _) (F0 (Ja (Je (Je ⟨_,rfl,Je h⟩))) a)
  |exact Ja (Ja (m:=γ.Tuple.tupleExact _) (F0 (Je (Je ⟨_,rfl,Je h⟩)) a))
  |exact Ja (Ja (m:=γ.Tuple.tupleExact _) (F0 (Je ⟨_,rfl,Je h⟩) a))
end
end HT
namespace L2
open PySem PySem.Spec PyProof.Rows
noncomputable abbrev TO:=St->Hp->(Λ->Hp->Prop)->Prop
def PO(X:Cx)(e:ξ)(t:TO):Prop:=
 ∀(pins:HD) (s:Θ) (σ:St) (H:Hp) (Q:Λ->Hp->Prop),HH X pins σ H s->t σ H Q->
  ε (model X.prog X.w) X.A (evalPart e X.env) (λu s'=>∃o H',HH X pins σ H' s'/\IsPart u o/\Q o H') X.xe s
noncomputable def pF:TO:=λ_ H Q=>Q none H
noncomputable def AU(t:TE):TO:=λσ H Q=>t σ H λx H1=>∃i,x= .int i/\Q ↑i H1
section
variable{X:Cx}{e:Φ}{te:TE}{lo hi:ξ}{tl th:TO}{pos p2:Pos}
theorem B5:PO X none pF:=by
 intro pins s σ H Q I h;rw[evalPart_none];exact Je #[none,H,I,.none,h]
theorem BK(h:PE X e te):PO X ↑e (AU te):=by
 intro pins s σ H Q I c;rw[evalPart_some];refine qB (h pins s σ H _ I c) λu g f=>?_
 let#[x,H1,a,d,q1]:=f;let#[i,rfl,q]:=q1;let#[t,rfl]:=d
 exact#[↑i,H1,a,.int i t,q]
def wS(X:Cx)(r:V->Λ->Λ->Hp->VK->Prop):Prop:=
 ∀(pins:HD) (s:Θ) (σ:St) (H:Hp) (x:V) (v d c:Γ) (lo hi:Λ) (a:Δ) (Q:VK),HH X pins σ H s->HJ x v->s.heap.IsSliceOf a d c .none->IsPart d lo->IsPart c hi->r x lo hi H Q->
  ∃T id,typeLookup (.type T) "__getitem__"=pure ↑(.builtin id)/\s.TypeIs v T/\ε (model X.prog X.w) X.A (getItem v (-a)) (EP X pins σ Q) X.xe s
noncomputable def FG(r:V->Λ->Λ->Hp->VK->Prop)(te:TE)(tl th:TO):TE:=λσ H Q=>te σ H λx H1=>tl σ H1 λl a=>th σ a λu c=>r x l u c Q
theorem Aa{r:V->Λ->Λ->Hp->VK->Prop}(hr:wS X r)(he:PE X e te)(hl:PO X lo tl)(hu:PO X hi th):PE X (.Subscript e (.Slice lo hi none p2) pos) (FG r te tl th):=by
 intro pins s σ H Q I h;refine Subscript_ (qB (he pins s σ H _ I h) λv A f=>?_)
 let#[x,H1,j,z,q1]:=f;refine wpAny_Slice (qB (hl pins A σ H1 _ j q1) λc t ⟨l,n,i,pl,q2⟩=>qB (hu pins t σ n _ i q2) λd a f=>?_)
 let#[u,g,p,o,q3]:=f;rw[evalPart_none];refine Je ?_
 have m:HH X pins σ g {a with heap:=a.heap.push {cls:= .type "slice",data:= .fields (B1 [c,d,.none])}}:=p.kept (t':=a.toks) λb C q=>Jh _ q
 let#[T,id,B,w,y]:=hr pins {a with heap:=a.heap.push {cls:= .type "slice",data:= .fields (B1 [c,d,.none])}} σ g x v c d l u a.heap.objs.size Q m z (Ψ.IsSliceOf.new ..) pl o q3
 show ε (model X.prog X.w) X.A (subscriptTail e (.Slice lo hi none p2) v (-a.heap.objs.size)) (EP X pins σ Q) X.xe {a with heap:=a.heap.push {cls:= .type "slice",data:= .fields (B1 [c,d,.none])}}
 exact tail_any (ops:=[-a.heap.objs.size,v]) w B y (by with_unfolding_all rfl)
noncomputable def ZY(xs:Α)(lo hi:Λ):Α:=(xs.drop (HT.sIx xs.length 0 lo)).take (HT.sIx xs.length xs.length hi-HT.sIx xs.length 0 lo)
theorem gD(xs:Α)(lo hi:Λ):(ZY xs lo hi).length<=xs.length:=by
 unfold ZY;rw[JP,Lj];lia
inductive Pm (K:ι)(x:V)(lo:Λ)(hi:Λ)(H:Hp)(Q:VK):Prop
 |mk (a:_)(xs:_)(h1:x= .ref a)(h2:HP K H a xs)(h3:¬(HT.sIx xs.length 0 lo=0/\HT.sIx xs.length xs.length hi=xs.length))(h4:∀p,H p=none->Q (-p) (HG H p (.tup (ZY xs lo hi))))
def F3(K:ι):V->Λ->Λ->Hp->VK->Prop:=λx lo hi H Q=>Pm K x lo hi H Q
theorem Eb:wS X (F3 X.K):=by
 intro pins s σ H x v p t lo hi n Q I j hs pl i h;let#[a,xs,rfl,g,l,q]:=h;cases j;let#[d,r,e,f]:=I.tuple g;have c:d.toArray.size=xs.length:=by rw[Js];exact r.length.symm
 exists "tuple",_,PyProof.Rows.slot_tuple_getitem.lookup,e.typeIs
 refine HT.getItem_tuple_cut e hs pl i (by rw[c];exact l) ?_ (by rw[c];exact f)
 rw[c];refine#[-s.heap.objs.size,_,I.laid (t':=s.toks) (o:= .tup (ZY xs lo hi)) (λb m q=>Jh _ q) (Jd _) ?_,Z,q _ (I.hok.fresh (Jd _))]
 exact#[Jg (gD xs lo hi) f,_,(r.drop (HT.sIx xs.length 0 lo)).take (HT.sIx xs.length xs.length hi-HT.sIx xs.length 0 lo),IsTup.new _ _]
inductive O9 (K:ι)(x:V)(y:V)(H:Hp)(Q:VK):Prop
 |mk (a:_)(b:_)(xs:_)(ys:_)(h1:x= .ref a)(h2:y= .ref b)(h3:HP K H a xs)(h4:HP K H b ys)(h5:xs≠[])(h6:xs.length+ys.length<=ζ)(h7:(ys=[]->Q (-a) H))(h8:(ys≠[]->∀p,H p=none->Q (-p) (HG H p (.tup (xs++ys)))))
noncomputable def Fv(K:ι):R2:=λx y H Q=>O9 K x y H Q
theorem HL.nil_iff(r:HL xs us):us=[]↔xs=[]:=by
 cases r with
 |nil=>simp
 |cons _ _=>simp
theorem BV:zj X (binaryOp .Add) (Fv X.K):=by
 intro pins s σ H x y v u Q I n i h;let#[a,b,xs,ys,rfl,rfl,p,l,g,e,q1,q2]:=h;cases n;cases i;let#[j,d,m,_]:=I.tuple p;let#[f,c,p2,_]:=I.tuple l;refine HT.cat_tup m p2 (λz=>g (d.nil_iff.mp z)) (λz=>#[-a,H,I,Z,q1 (c.nil_iff.mp z)]) (λz=>?_) (by rw[<- d.length,<- c.length];exact e)
 refine#[-s.heap.objs.size,_,I.laid (t':=s.toks) (o:= .tup (xs++ys)) (λb r q=>Jh _ q) (Jd _) ?_,Z,q2 (λw=>z (c.nil_iff.mpr w)) _ (I.hok.fresh (Jd _))]
 exact#[by rw[Jz];exact e,_,d.append c,IsTup.new _ _]
end
noncomputable def cY(n:Nat)(i:Int):μ:=if 0<=i then(if i<n then ↑i.toNat else none)else if -(n:Int)<=i then some (i+n).toNat else none
noncomputable def ZQ{a:Type}(xs:List a)(i:Int):Option a:=(cY xs.length i).bind λj=>xs[j]?
theorem rS{n:Nat}{j:Nat}(h:cY n i=↑j):seqIndex? i n=↑j/\j<n/\ -(n:Int)<=i/\i<n:=by
 unfold cY at h
 by_cases a:0<=i
 .rw[Jc a]at h
  by_cases h1:i<n
  .rw[Jc h1]at h
   have e:i.toNat=j:=Jx h
   exact#[by rw[seqIndex_of a h1,e],by lia,by lia,h1]
  .rw[Jb h1]at h;cases h
 .rw[Jb a]at h
  by_cases h1: -(n:Int)<=i
  .rw[Jc h1]at h
   have e:(i+n).toNat=j:=Jx h
   exact#[by rw[seqIndex_neg (by lia) h1,e],by lia,h1,by lia]
  .rw[Jb h1]at h;cases h
theorem pJ{a:Type}{xs:List a}{i:Int}{v:a}(h:ZQ xs i=↑v):∃j,seqIndex? i xs.length=↑j/\xs[j]? =↑v/\j<xs.length/\ -(xs.length:Int)<=i/\i<xs.length:=by
 unfold ZQ at h;cases e:cY xs.length i with
 |none=>rw[e]at h;cases h
 |some j=>
  rw[e]at h;let#[h1,f,c,d]:=rS e
  exact#[j,h1,h,f,c,d]
theorem zI{a:Type}{xs:List a}{j:Nat}{v:a}(h:xs[j]? =↑v):ZQ xs (j:Int)=↑v:=by
 have c:j<xs.length:=(Jw.mp h).1
 have e:cY xs.length (j:Int)=↑j:=by
  unfold cY;rw[Jc (by lia),Jc (by lia)];simp
 unfold ZQ;rw[e];exact h
def sg(b:Φ):Prop:=∀o i,subscripted b false o i=operate [o,i] (getItem o i)
def Oz(X:Cx)(r:R2):Prop:=
 ∀(value a:Φ) (pins:HD) (s:Θ) (σ:St) (H:Hp) (x y:V) (v u:Γ) (Q:VK),HH X pins σ H s->HJ x v->HJ y u->r x y H Q->
  subscripted a false v u=operate [v,u] (getItem v u)->ε (model X.prog X.w) X.A (subscriptTail value a v u) (EP X pins σ Q) X.xe s
def pZ(X:Cx)(id:String)(r:V->Α->Hp->VK->Prop):Prop:=
 ∀(pins:HD) (s:Θ) (σ:St) (H:Hp) (x:V) (xs:Α) (v:Γ) (a:Η) (Q:VK),HH X pins σ H s->HJ x v->HL xs a->r x xs H Q->
  ε (model X.prog X.w) X.A (call (.builtin id) (v::a)) (EP X pins σ Q) X.xe s
section
variable{X:Cx}{a b:Φ}
theorem Oz.or(h:Oz X r)(h':Oz X c):Oz X (λx y H Q=>r x y H Q\/c x y H Q):=by
 intro value a pins s σ H x y v u Q I e d q hs;rcases q with q|q
 .exact h value a pins s σ H x y v u Q I e d q hs
 .exact h' value a pins s σ H x y v u Q I e d q hs
theorem Fm(hr:Oz X r)(ha:PE X a ta)(hb:PE X b tb)(hs:sg b):PE X (.Subscript a b pos) (kC r ta tb):=by
 intro pins s σ H Q I h;exact Subscript_ (Az ha hb I h λv u f x y e c g d q=>hr a b pins f σ e x y v u Q c g d q (hs _ _))
inductive Pn (K:ι)(x:V)(y:V)(H:Hp)(Q:VK):Prop
 |mk (p:_)(xs:_)(i:_)(v:_)(h1:x= .ref p)(h2:y= .int i)(h3:HK K H p xs)(h4:ZQ xs i=↑v)(h5:Q v H)
noncomputable def yj(K:ι):R2:=λx y H Q=>Pn K x y H Q
inductive Po (K:ι)(x:V)(y:V)(H:Hp)(Q:VK):Prop
 |mk (p:_)(xs:_)(i:_)(v:_)(h1:x= .ref p)(h2:y= .int i)(h3:HP K H p xs)(h4:ZQ xs i=↑v)(h5:Q v H)
noncomputable def xu(K:ι):R2:=λx y H Q=>Po K x y H Q
theorem qJ:Oz X (yj X.K):=by
 intro value d pins s σ H x y v u Q I D B h hs;let#[p,xs,i,z,rfl,rfl,m,A,q]:=h;cases D;let#[t,rfl]:=B;let#[e,r,pl,F]:=I.list m;let#[j,h1,E,J,C,n]:=pJ A;let#[w,l,f]:=r.get E;have o:=r.length;have G:=aj;have a:EP X pins σ Q w s:=#[z,H,I,f,q]
 by_cases g:0<=i
 .have c:i.toNat=j:=by
   rw[seqIndex_of g n]at h1;exact Jx h1
  exact item_listR pl.isList g (by lia) (by rw[c];simpa using l) a hs
 .have c:(i+(e.toArray.size:Int)).toNat=j:=by
   rw[seqIndex_neg (by lia) C]at h1
   rw[Js,<- o];exact Jx h1
  exact subscriptTail_builtinR (x:=w) pl.isList.typeIs slot_list_getitem.lookup
   (wpAny_getItem_list_neg (Q:=λr s'=>r=w/\EP X pins σ Q r s') pl.isList (by lia) (by rw[Js]<;>lia) (by lia) (by rw[c];simpa using l) #[Z,a]) hs
theorem zp:Oz X (xu X.K):=by
 intro value a pins s σ H x y v u Q I n l h hs;let#[p,xs,i,z,rfl,rfl,f,g,q]:=h;cases n;let#[t,rfl]:=l;let#[m,r,pl,D]:=I.tuple f;let#[j,h1,o,F,C,B]:=pJ g;let#[w,A,d]:=r.get o;have e:=r.length;have E:=aj;have c:EP X pins σ Q w s:=#[z,H,I,d,q]
 exact subscriptTail_builtinR (x:=w) pl.typeIs slot_tuple_getitem.lookup
  (getItem_tuple (j:=j) (Q:=λr s'=>r=w/\EP X pins σ Q r s') pl (by lia) (by lia) (by rw[Js,<- e];exact h1) (by simpa using A) #[Z,c]) hs
theorem tO(its:Η)(n j:Nat)(u:Γ):Obj.mapSeq (·.setIfInBounds j u) {cls:= .type "list",data:= .seq its.toArray n}={cls:= .type "list",data:= .seq (its.set j u).toArray n}:=by
 simp [Obj.mapSeq]
theorem HH.lst(I:HH X pins σ H s)(h:H p=↑(.lst xs)):
  ∃(its:Η) (n:Nat),HL xs its/\s.heap.get? p=some {cls:= .type "list",data:= .seq its.toArray n}/\xs.length<=ζ:=by
 let#[z,its,n,r,e]:=I.hok p _ h
 exact#[its,n,r,e,z]
theorem HH.lstUpd{its its':Η}{f:Obj->Obj}(I:HH X pins σ H s)(h:H p=↑(.lst xs))
  (ho:s.heap.get? p=some {cls:= .type "list",data:= .seq its.toArray n})(hf:f {cls:= .type "list",data:= .seq its.toArray n}={cls:= .type "list",data:= .seq its'.toArray n'})(r:HL ys its')(c:ys.length<=ζ)(t:Nat):
  HH X pins σ (HG H p (.lst ys)) {s with heap:=s.heap.update p f,toks:=t}:=by
 have e:(s.heap.update p f).get? p=some {cls:= .type "list",data:= .seq its'.toArray n'}:=by
  rw[LB f ho (by rw[hf]<;>rfl),hf]
 refine I.write (x:=p) (e:=p) (by rw[h];trivial) (.inl Z) (λb u a q=>(GO _ _ (Ne.symm a)).trans q) #[_,e] ?_
 exact#[c,its',n',r,e]
inductive Pa (o:V)(i:V)(v:V)(H:Hp)(Q:Hp->Prop):Prop
 |mk (p:_)(xs:_)(k:_)(j:_)(h1:o= .ref p)(h2:i= .int k)(h3:H p=↑(.lst xs))(h4:cY xs.length k=↑j)(h5:Q (HG H p (.lst (xs.set j v))))
def Fx:V->V->V->Hp->(Hp->Prop)->Prop:=λo i v H Q=>Pa o i v H Q
theorem Q7:nv X Fx:=by
 intro pins s σ H o i v B C u Q I y w A h;let#[p,xs,k,j,rfl,rfl,l,x,q]:=h;cases y;let#[t,rfl]:=w;let#[a,n,r,d,z]:=I.lst l;let#[h1,E,m,f]:=rS x;have c:=r.length;have D:=aj;have g:HH X pins σ (HG H p (.lst (xs.set j v))) {s with heap:=s.heap.update p (Obj.mapSeq (·.setIfInBounds j u))}:=
  I.lstUpd l d (tO a n j u) (r.set A j) (by rw[Ll];exact z) s.toks
 by_cases e:0<=k
 .have hk:k.toNat=j:=by
   rw[seqIndex_of e f]at h1;exact Jx h1
  exact W.ki_setAt d e (by lia) (by rw[Js,<- c];exact f) (by rw[hk];exact#[_,g,q])
 .have hk:(k+(a.toArray.size:Int)).toNat=j:=by
   rw[seqIndex_neg (by lia) m]at h1
   rw[Js,<- c];exact Jx h1
  exact W.ki_setBack d (by lia) (by rw[Js,<- c];exact m) (by lia) (by rw[hk];exact#[_,g,q])
theorem lQ(lo hi:Λ)(n:Nat):(sliceBounds lo hi none n).1=((HT.sIx n 0 lo:Nat):Int)/\(sliceBounds lo hi none n).2.1=((HT.sIx n n hi:Nat):Int)/\(sliceBounds lo hi none n).2.2=1:=by
 refine#[?_,?_,Z]
 .cases lo with
  |none=>simp [sliceBounds,HT.sIx]
  |some i=>
   simp only[sliceBounds,HT.sIx,Pd,show(1:Int)>0 by decide,JW]
   by_cases h:i<0
   .simp only[h,JW]<;>lia
   .simp only[h,JU]<;>lia
 .cases hi with
  |none=>simp [sliceBounds,HT.sIx]
  |some i=>
   simp only[sliceBounds,HT.sIx,Pd,show(1:Int)>0 by decide,JW]
   by_cases h:i<0
   .simp only[h,JW]<;>lia
   .simp only[h,JU]<;>lia
theorem lh(its:Η)(lo hi:Λ):slicePick its.toArray lo hi none=((its.drop (HT.sIx its.length 0 lo)).take (HT.sIx its.length its.length hi-HT.sIx its.length 0 lo)).toArray:=by
 let#[h1,a,c]:=lQ lo hi its.toArray.size;unfold slicePick;rw[h1,a,c];simp only[sliceRange_one,pick_run,Js]<;>rfl
inductive Pq (K:ι)(x:V)(lo:Λ)(hi:Λ)(H:Hp)(Q:VK):Prop
 |mk (a:_)(xs:_)(h1:x= .ref a)(h2:HK K H a xs)(h3:∀p,H p=none->Q (-p) (HG H p (.lst (ZY xs lo hi))))
def FW(K:ι):V->Λ->Λ->Hp->VK->Prop:=λx lo hi H Q=>Pq K x lo hi H Q
theorem pO:wS X (FW X.K):=by
 intro pins s σ H x v n p lo hi m Q I i hs pl f h;let#[a,xs,rfl,e,q]:=h;cases i;let#[g,r,d,j]:=I.list e;have c:=r.length;exists "list",_,slot_list_getitem.lookup,d.isList.typeIs
 refine wpAny_getItem_list_slice d.isList hs pl f .none (by simp) ?_ (by rw[Js]<;>lia)
 rw[lh,<- c];refine#[-s.heap.objs.size,_,I.laid (t':=s.toks) (o:= .lst (ZY xs lo hi)) (λb l q=>Jh _ q) (Jd _) ?_,Z,q _ (I.hok.fresh (Jd _))]
 exact#[Jg (gD xs lo hi) j,_,(0),(r.drop (HT.sIx xs.length 0 lo)).take (HT.sIx xs.length xs.length hi-HT.sIx xs.length 0 lo),Jr _ Z]
noncomputable def aF:V->Bool
 | .non=>true
 | .bl _=>true
 | .int _=>true
 | .str _=>true
 |_=>false
noncomputable def iP:V->V->Bool
 | .non,.non=>true
 | .bl a,.bl b=>a==b
 | .bl a,.int b=>(if a then 1 else 0)==b
 | .int a,.bl b=>a==(if b then 1 else 0)
 | .int a,.int b=>a==b
 | .str a,.str b=>a==b
 |_,_=>false
theorem El(e:HJ y u)(c:HJ x v)(g:aF y=true)(f:aF x=true):SeqAt.EqAt A s u v (iP y x):=by
 cases y with
 |non=>
  cases e;cases x with
  |non=>cases c;exact SeqAt.EqAt.same _
  |bl b=>cases c;exact SeqAt.EqAt.none_bool b
  |int b=>let#[t,rfl]:=c;exact SeqAt.EqAt.none_int b t
  |str b=>let#[t,rfl]:=c;exact SeqAt.EqAt.none_str b t
  |_=>exact absurd (show false=true from f) JB
 |bl a=>
  cases e;cases x with
  |non=>cases c;exact SeqAt.EqAt.bool_none a
  |bl b=>cases c;exact SeqAt.EqAt.bool_bool a b
  |int b=>let#[t,rfl]:=c;exact SeqAt.EqAt.bool_int a b t
  |str b=>let#[t,rfl]:=c;exact SeqAt.EqAt.bool_str a b t
  |_=>exact absurd (show false=true from f) JB
 |int a=>
  let#[d,rfl]:=e;cases x with
  |non=>cases c;exact SeqAt.EqAt.int_none a d
  |bl b=>cases c;exact SeqAt.EqAt.int_bool a d b
  |int b=>let#[t,rfl]:=c;exact SeqAt.EqAt.int_int a d b t
  |str b=>let#[t,rfl]:=c;exact SeqAt.EqAt.int_str a d b t
  |_=>exact absurd (show false=true from f) JB
 |str a=>
  let#[d,rfl]:=e;cases x with
  |non=>cases c;exact SeqAt.EqAt.str_none a d
  |bl b=>cases c;exact SeqAt.EqAt.str_bool a d b
  |int b=>let#[t,rfl]:=c;exact SeqAt.EqAt.str_int a d b t
  |str b=>let#[t,rfl]:=c;exact SeqAt.EqAt.str_str a d b t
  |_=>exact absurd (show false=true from f) JB
 |_=>exact absurd (show false=true from g) JB
noncomputable def iL(x:V)(u:Γ):Bool:=match u with
 | .none=>iP .non x
 | .bool b=>iP (.bl b) x
 | .int i _=>iP (.int i) x
 | .str z _=>iP (.str z) x
 |_=>false
theorem v8(r:HJ y u)(f:aF y=true):iL x u=iP y x:=by
 cases y with
 |non=>cases r;rfl
 |bl b=>cases r;rfl
 |int i=>let#[t,rfl]:=r;rfl
 |str z=>let#[t,rfl]:=r;rfl
 |_=>exact absurd (show false=true from f) JB
theorem jf{x:V}:∀{xs:Α} {us:Η},HL xs us->xs.all aF=true->us.any (iL x)=xs.any λy=>iP y x
 |_,_,.nil,_=>rfl
 |y::xs,u::us,.cons r t,f=>by
  rw[P9,GF]at f;rw[IK,IK,v8 r f.1,jf t f.2]
theorem ie{A:Around}{s:Θ}{x:V}{v:Γ}(d:HJ x v)(c:aF x=true):∀{xs:Α} {us:Η},HL xs us->xs.all aF=true->∀u∈us,SeqAt.EqAt A s u v (iL x u)
 |_,_,.nil,_=>λu a=>by cases a
 |y::xs,u::us,.cons r t,f=>λe a=>by
  rw[P9,GF]at f;rcases Jp.mp a with rfl|a
  .rw[v8 r f.1];exact El r d f.1 c
  .exact ie d c t f.2 e a
noncomputable def Bf(x:V)(xs:Α):Bool:=xs.any λy=>iP y x
inductive P4 (K:ι)(neg:Bool)(x:V)(y:V)(H:Hp)(Q:VK):Prop
 |mk (p:_)(xs:_)(h1:y= .ref p)(h2:(HK K H p xs\/HP K H p xs))(h3:aF x=true)(h4:xs.all aF=true)(h5:Q (.bl (if neg then ! Bf x xs else Bf x xs)) H)
noncomputable def FA(K:ι)(a:Bool):R2:=λx y H Q=>P4 K a x y H Q
theorem mW:zj X (compareOp .NotIn) (FA X.K true):=by
 intro pins s σ H x y v u Q I e g h;let#[p,xs,rfl,c,f,fs,q]:=h;cases g;rcases c with c|c
 .let#[a,r,pl,i]:=I.list c
  refine SeqAt.notIn_listAt (iL x) pl.isList (λw d=>ie e f r fs w (by simpa using d)) #[.bl _,H,I,Z,?_]
  rw[show a.toArray.any (iL x)=a.any (iL x) by simp,jf r fs]
  exact q
 .let#[a,r,pl,i]:=I.tuple c
  refine SeqAt.notIn_tupleAt (iL x) pl (λw d=>ie e f r fs w (by simpa using d)) #[.bl _,H,I,Z,?_]
  rw[show a.toArray.any (iL x)=a.any (iL x) by simp,jf r fs]
  exact q
theorem qN:zt X (.builtin "len") (λxs H Q=>∃p ys,xs=[-p]/\(HK X.K H p ys\/HP X.K H p ys)/\Q (.int ys.length) H):=by
 intro pins s σ H xs i Q I r h;let#[p,ys,rfl,c,q]:=h;let#[u,rfl,f]:=Qv r;cases f;have j:=aj;rcases c with c|c
 .let#[d,e,pl,g]:=I.list c
  have a:=e.length;exact Calls.call_len_list pl.isList (by simp only[Js]<;>lia) #[.int ys.length,H,I.tok _,#[s.toks+1,by rw[Js,a]],q]
 .let#[d,e,pl,g]:=I.tuple c
  have a:=e.length;exact len_tuple pl (by simp only[Js]<;>lia) #[.int ys.length,H,I.tok _,#[s.toks+1,by rw[Js,a]],q]
theorem mY:zt X (.builtin "len") (λxs H Q=>∃z,xs=[.str z]/\z.length<=ζ/\Q (.int z.length) H):=by
 intro pins s σ H xs a Q I r h;let#[z,rfl,d,q]:=h;let#[u,rfl,t,rfl]:=Qv r;have c:=aj;exact len_str (by lia) #[.int z.length,H,I.tok _,#[0],q]
theorem ZK:zt X (.type "list") (λxs H Q=>∃p ys,xs=[-p]/\(HK X.K H p ys\/HP X.K H p ys)/\∀l,H l=none->Q (-l) (HG H l (.lst ys))):=by
 intro pins s σ H xs y Q I r h;let#[p,ys,rfl,f,q]:=h;let#[u,rfl,x]:=Qv r;cases x;have m:∀(a:Η),HL ys a->ys.length<=ζ->∀(h':Ψ) (c:Nat),(∀b o',s.heap.get? b=↑o'->h'.get? b=↑o')->
   h'.get? s.heap.objs.size=some {cls:= .type "list",dict:=none,data:= .seq a.toArray c,slots:= (B1 [])}->EP X pins σ Q (-s.heap.objs.size) {s with heap:=h'}:=λa d j h' c i e=>
  #[-s.heap.objs.size,_,I.laid (t':=s.toks) i (Jd _) (show HN X.prog X.w _ h' _ (.lst ys)from#[j,a,c,d,e]),Z,q _ (I.hok.fresh (Jd _))]
 rcases f with f|f
 .let#[a,d,pl,j]:=I.list f
  have g:=d.length;let#[o,w,v,n,t]:=pl.isList;exact call_list_seq p (.inl Z) w v t (λh' c i e=>m a d j h' c i e) (by simp only[Js]<;>lia)
 .let#[a,d,pl,j]:=I.tuple f
  have g:=d.length;let#[o,w,v,n,t]:=pl;exact call_list_seq p (.inr Z) w v t (λh' c i e=>m a d j h' c i e) (by simp only[Js]<;>lia)
theorem qZ:zt X (.type "tuple") (λxs H Q=>∃p ys,xs=[-p]/\((HK X.K H p ys/\∀l,H l=none->Q (-l) (HG H l (.tup ys)))\/(HP X.K H p ys/\Q (-p) H))):=by
 intro pins s σ H xs t Q I r h;let#[p,ys,rfl,h]:=h;let#[u,rfl,n]:=Qv r;cases n;rcases h with⟨c,q⟩|⟨c,q⟩
 .let#[a,d,pl,i]:=I.list c
  have g:=d.length;refine call_tuple_list pl.isList (λh' m=>?_) (by simp only[Js]<;>lia)
  have f:HH X pins σ H {s with heap:=h'}:=I.kept (t':=s.toks) m
  have j:HH X pins σ (HG H h'.objs.size (.tup ys)) {s with heap:=h'.push {cls:= .type "tuple",data:= .seq a.toArray}}:=
   f.laid (t':=s.toks) (λb o e=>Jh _ e) (Jd _) (show HN X.prog X.w _ _ _ (.tup ys)from#[i,a,d,IsTup.new _ _])
  exact#[-h'.objs.size,_,j,Z,q _ (f.hok.fresh (Jd _))]
 .let#[a,d,pl,i]:=I.tuple c
  exact call_tuple_same pl #[-p,H,I,Z,q]
def FM(K:ι)(T:String)(x:V)(H:Hp):Prop:=match x with
 | .str _=>T="str"
 | .int _=>T="int"
 | .ref p=>(T="list"/\∃xs,HK K H p xs)\/(T="tuple"/\∃o,K.lookup p=↑o/\o.cls= .type "tuple"/\o.dict=none)\/
   (T="dict"/\((∃kvs,H p=↑(.dK kvs))\/∃kvs,H p=↑(.dT kvs)))\/(T="set"/\∃S n,H p=↑(.set S n))
 |_=>False
theorem DD(I:HH X pins σ H s)(r:HJ x v)(ty:FM X.K T x H):
  s.TypeIs v T/\∀a,v= .ref a->∃g,s.heap.get? a=↑g/\g.dict=none:=by
 cases x with
 |str z=>
  let#[t,rfl]:=r
  cases(show T="str" from ty)
  exact#[typeIs_str s z t,λ_ e=>nomatch e]
 |int i=>
  let#[t,rfl]:=r
  cases(show T="int" from ty)
  exact#[typeIs_int s i t,λ_ e=>nomatch e]
 |ref p=>
  cases r;rcases ty with⟨rfl,xs,h⟩|⟨rfl,o,hk,l,d⟩|⟨rfl,hk⟩|⟨rfl,S,n,hk⟩
  .let#[j,_,pl,_]:=I.list h
   refine#[pl.isList.typeIs,λa e=>?_]
   cases e;let#[o,n,e,c,d,_]:=pl
   exact#[o,e,d]
  .refine#[#[o,I.kIn p o hk,l],λa e=>?_]
   cases e
   exact#[o,I.kIn _ o hk,d]
  .have z:∃o,s.heap.get? p=↑o/\o.ExactDict:=by
    rcases hk with⟨kvs,hk⟩|⟨kvs,hk⟩
    .let#[_,_,_,_,o,_,_,e,ex,_]:=I.hok p _ hk
     exact#[o,e,ex]
    .let#[_,_,_,_,o,_,_,e,ex,_]:=I.hok p _ hk
     exact#[o,e,ex]
   let#[o,e,ex]:=z;refine#[#[o,e,ex.1],λa f=>?_]
   cases f
   exact#[o,e,ex.2.1]
  .let#[o,_,_,_,e,ex,_]:=I.hok p _ hk
   refine#[#[o,e,ex.1],λa f=>?_]
   cases f
   exact#[o,e,ex.2.1]
 |_=>exact False.elim ty
noncomputable def Er(K:ι)(T:String)(r:V->Α->Hp->VK->Prop)(to:TE)(t:TA):TE:=λσ H Q=>to σ H λx H1=>FM K T x H1/\t σ H1 λxs a=>r x xs a Q
variable{o e:Φ}{es:Κ}{to:TE}{t:TA}{name:Str}{apos cpos:Pos}{T id:String}{r:V->Α->Hp->VK->Prop}
theorem Fd(C:PlainAttrs T)(f:Slot T name id)(i:typeOf (.builtin id)=pure (.type "method_descriptor"))(hm:pZ X id r)(ho:PE X o to)(ha:PA X (e::es) t)
  (d:attributeBase o name X.env (eval o X.env)=eval o X.env:=by rfl)
  (g:((backTo cpos (θ (e::es) X.env)).all (λx=> ! x.1)&&(backToKw cpos (keywordEach [] X.env)).all (λx=>x.1.isSome)
   &&decide ((e::es).length+([]:ν).length+(if([]:ν).isEmpty then 0 else 1)<30))=true:=by rfl)
  (c:(apos.endLine==cpos.line)=true:=by rfl)(hs:θ (e::es) X.env=(false,eval e X.env)::θ es X.env:=by rfl)(a:(backTo cpos (θ es X.env)).any (·.1)=false:=by rfl):
  PE X (.Call (.Attribute o name apos) (e::es) [] cpos) (Er X.K T r to t):=by
 intro pins s σ H Q I h;refine wpAny_Call_method_late d g c Z (qB (ho pins s σ H _ I h) λv A w=>?_)
 let#[x,H1,j,l,ty,q1]:=w;let#[h1,q]:=DD j l ty;exists T,id,C,f,i,h1,q
 have m:=ha cpos pins A σ H1 _ j q1;rw[hs]at m⊢;refine LS (by show(false||(backTo cpos (θ es X.env)).any (·.1))=false;rw[a]<;>rfl) (Calls.evalArgs_plain ?_)
 exact qB m λB y ⟨p,u,n,z,q2⟩=>hm pins y σ u x p v B Q n l z q2
end
def Fy(X:Cx)(id:String)(r:V->Α->Hp->VK->Prop):Prop:=
 ∀(pins:HD) (s:Θ) (σ:St) (H:Hp) (x:V) (xs:Α) (v:Γ) (a:Η) (Q:VK),HH X pins σ H s->HJ x v->HL xs a->r x xs H Q->
  ε (model X.prog X.w) X.A (call (.builtin id) (v::a)) (EP X pins σ Q) X.xe s
theorem HL.one:∀{x:V} {us:Η},HL [x] us->∃u,us=[u]/\HJ x u
 :=by
 intro x us h;cases h with
 |cons r q=>cases q;exact#[0,r]
theorem HL.two:∀{x y:V} {us:Η},HL [x,y] us->∃u v,us=[u,v]/\HJ x u/\HJ y v
 :=by
 intro x y us h;cases h with
 |cons r q=>cases q with
  |cons q z=>cases z;exact#[5,r,q]
theorem HL.eraseIdx:∀{xs:Α} {us:Η} (i:Nat),HL xs us->HL (xs.eraseIdx i) (us.eraseIdx i)
 |_,_,_,.nil=> .nil
 |_,_,0,.cons _ t=>t
 |_,_,i+1,.cons r t=> .cons r (HL.eraseIdx i t)
theorem HL.rep{xs:Α}{us:Η}(h:HL xs us):∀k:Nat,HL (D0 k xs).flatten (D0 k us).flatten
 |0=> .nil
 |k+1=>by
  rw[Lm,Lm,LC,LC];exact HL.append h (HL.rep h k)
theorem kM{a:Type}:∀(l:List a) (i:Nat),(l.eraseIdx i).length<=l.length
 | [],_=>Jd _
 |_::_,0=>GN _
 |_::r,i+1=>GP (kM r i)
theorem kq(its:Η):∀(k:Nat) (a:Η),
  N6 (λd f=>d++f) a.toArray (D0 k its.toArray)=(a++(D0 k its).flatten).toArray
 |0,a=>by simp
 |k+1,a=>by
  have e:a.toArray++its.toArray=(a++its).toArray:=by simp
  have c:(a++its)++(D0 k its).flatten=a++(D0 (k+1) its).flatten:=by
   rw[Lm,LC,Gw]
  rw[<- c,<- kq its k (a++its),<- e,Lm,List.foldl_cons]
section
theorem HH.lset{its its':Η}{f:Array Γ->Array Γ}{t':Nat}(I:HH X pins σ H s)(d:H l=↑(.lst xs))
  (e:s.heap.get? l=some {cls:= .type "list",data:= .seq its.toArray n})(hf:f its.toArray=its'.toArray)(hv:HL ys its')(g:ys.length<=ζ):
  HH X pins σ (HG H l (.lst ys)) {s with heap:=s.heap.update l (Obj.mapSeq f),toks:=t'}:=by
 have q:=PySem.IsL.update e f;rw[hf]at q;refine I.write (x:=l) (e:=l) (by rw[d];exact trivial) (.inl Z) (λh u c a=>(GO s.heap (Obj.mapSeq f) (Ne.symm c)).trans a) #[_,q] ?_
 exact#[g,its',_,hv,q]
theorem HH.lnew{t':Nat}(I:HH X pins σ H s)(hv:HL ys its)(a:ys.length<=ζ):
  HH X pins σ (HG H s.heap.objs.size (.lst ys)) {s with heap:=s.heap.push {cls:= .type "list",data:= .seq its.toArray},toks:=t'}:=
 I.laid (λ_ _ q=>Jh _ q) (Jd _) #[a,its,(0),hv,Jr _ Z]
theorem HH.fresh(I:HH X pins σ H s):H s.heap.objs.size=none:=I.hok.fresh (Jd _)
theorem HH.lstM(I:HH X pins σ H s)(a:H l=↑(.lst xs)):xs.length<=ζ/\∃(its:Η) (n:Nat),HL xs its/\xs.length=its.length/\s.heap.get? l=some {cls:= .type "list",data:= .seq its.toArray n}:=by
 let#[z,its,n,r,e]:=I.hok l _ a
 exact#[z,its,n,r,r.length,e]
theorem Ae{n:Nat}(h:n<=ζ):γ.List.listTooLong n=false:=by
 unfold γ.List.listTooLong;exact Jl (by lia)
inductive OA (x:V)(vs:Α)(H:Hp)(Q:VK):Prop
 |mk (l:_)(xs:_)(y:_)(h1:x= .ref l)(h2:vs=[y])(h3:H l=↑(.lst xs))(h4:xs.length<ζ)(h5:Q .non (HG H l (.lst (xs++[y]))))
def pN:V->Α->Hp->VK->Prop:=λx a H Q=>OA x a H Q
theorem ww:Fy X "list.append" pN:=by
 intro pins s σ H x m v j Q I f g h;let#[l,xs,y,rfl,rfl,c,o,q]:=h;cases f;let#[u,rfl,d]:=g.one;let#[z,a,n,r,i,e]:=I.lstM c;refine IL F.slot_list_append #[_,e,Z] F.entry_list_append (F.args_list_append_2 _ _) (PySem.list_append l a.toArray n u (by rw[Js];lia)) #[e,?_]
 refine#[.non,_,I.lset (its':=a++[u]) c e (by simp) (r.append (.cons d .nil)) ?_,Z,q]
 rw[Jz,GV];lia
inductive OW (x:V)(vs:Α)(H:Hp)(Q:VK):Prop
 |mk (l:_)(xs:_)(i:_)(k:_)(y:_)(h1:x= .ref l)(h2:vs=[.int i])(h3:H l=↑(.lst xs))(h4: -(2 ^ 63)<=i)(h5:i<2 ^ 63)(h6:seqIndex? i xs.length=↑k)(h7:xs[k]? =↑y)(h8:Q y (HG H l (.lst (xs.eraseIdx k))))
def wR:V->Α->Hp->VK->Prop:=λx a H Q=>OW x a H Q
theorem xp:Fy X "list.pop" wR:=by
 intro pins s σ H x C v B Q I m p h;let#[l,xs,i,k,y,rfl,rfl,d,h1,A,hk,j,q]:=h;cases m;let#[u,rfl,g]:=p.one;let#[t,rfl]:=g;let#[z,a,n,r,f,e]:=I.lstM d;let#[w,o,c]:=r.get j;refine IL F.slot_list_pop #[_,e,Z] F.entry_list_pop (F.args_list_pop_2 _ _)
  (MeetsSeq.list_pop_at l a.toArray n i t k w (fitsIndex_both h1 A) (by rw[Js,<- f];exact hk) (by rw[<- Ka];exact o) (by rw[Js];lia)) #[e,?_]
 refine#[y,_,I.lset (its':=a.eraseIdx k) d e ?_ (r.eraseIdx k) ?_,c,q]
 .show a.toArray.eraseIdxIfInBounds k=(a.eraseIdx k).toArray
  rw[List.eraseIdxIfInBounds_toArray]
 .have:=kM xs k
  lia
inductive Pt (x:V)(y:V)(H:Hp)(Q:VK):Prop
 |mk (l:_)(b:_)(xs:_)(zs:_)(h1:x= .ref l)(h2:y= .ref b)(h3:H l=↑(.lst xs))(h4:H b=↑(.lst zs))(h5:xs.length+zs.length<=ζ)(h6:∀p,H p=none->Q (-p) (HG H p (.lst (xs++zs))))
noncomputable def F1:R2:=λx y H Q=>Pt x y H Q
theorem wg:zj X (binaryOp .Add) F1:=by
 intro pins s σ H x y v u Q I i d h;let#[l,b,xs,A,rfl,rfl,g,j,B,q]:=h;cases i;cases d;let#[z,c,n,r,t,e]:=I.lstM g;let#[w,a,n2,m,p,o]:=I.lstM j;refine PySem.P.add_list e o ?_ (by rw[Js,Js];lia)
 have f:c.toArray++a.toArray=(c++a).toArray:=by simp
 rw[f]
 exact#[.ref _,_,I.lnew (t':=s.toks) (r.append m) (by rw[Jz];lia),Z,q _ I.fresh]
inductive Pu (x:V)(y:V)(H:Hp)(Q:VK):Prop
 |mk (l:_)(k:_)(xs:_)(h1:x= .ref l)(h2:y= .int k)(h3:H l=↑(.lst xs))(h4: -(2 ^ 63)<=k)(h5:k<2 ^ 63)(h6:xs.length*k.toNat<=ζ)(h7:∀p,H p=none->Q (-p) (HG H p (.lst (D0 k.toNat xs).flatten)))
noncomputable def FT:R2:=λx y H Q=>Pu x y H Q
theorem BC{a:Type}(xs:List a)(k:Nat):(D0 k xs).flatten.length=k*xs.length:=by
 induction k with
 |zero=>simp
 |succ k ih=>rw[Lm,LC,Jz,ih,Nat.succ_mul,NH]
theorem nE:zj X (binaryOp .Mult) FT:=by
 intro pins s σ H x y v u Q I D B h;let#[l,k,xs,rfl,rfl,C,h1,G,w,q]:=h;cases D;let#[t,rfl]:=B;let#[z,c,n,r,A,e]:=I.lstM C;have f:c.toArray.size*k.toNat<=ζ:=by rw[Js,<- A];exact w
 have i:¬c.toArray.size*k.toNat>(2 ^ 63-1)/8:=by
  have:(ζ:Nat)<=(2 ^ 63-1)/8:=by decide
  lia
 have j:¬(!γ.List.listFitsIndex k)=true:=by
  rw[fitsIndex_both h1 G];exact JB
 have d:¬γ.List.listTooLong (c.toArray.size*k.toNat)=true:=by
  rw[Ae f];exact JB
 have g:N6 (λo p=>o++p) (B1 []) (D0 (if c.toArray.isEmpty=true then 0 else k.toNat) c.toArray)=(D0 k.toNat c).flatten.toArray:=by
  have E:∀m:Nat,N6 (λo p=>o++p) (B1 []) (D0 m c.toArray)=(D0 m c).flatten.toArray:=λm=>by
   have:=kq c m []
   rw[Iq]at this;exact this
  rw[E];cases c with
  |nil=>simp
  |cons a r'=>rw[Jb (by simp)]
 refine wpAny_binaryOp_repeat_ref (T:="list") (U:="int") ⋯ #[_,e,Z] (λs'=>typeIs_int s' k t) noFill_list_mul F.fills_int_mul F.slot_int_rmul repeat_list F.slot_int_index.lookup
  (IL F.slot_int_rmul (typeIs_int s k t) F.entry_int_rmul (F.args_int_rmul_2 _ _) (int___rmul___int_list k t l c.toArray n)
   #[e,Z,#[_,e,Z],IL F.slot_list_mul #[_,e,Z] F.entry_list_mul (F.args_list_mul_2 _ _) (AutoListH.list___mul___list_int_3 l c.toArray n k t j i d) #[e,?_]])
 rw[g]
 exact#[.ref _,_,I.lnew (t':=s.toks) (r.rep k.toNat) (by rw[BC,Nat.mul_comm];exact w),Z,q _ I.fresh]
end
end L2
namespace Att
open PySem PySem.W PySem.Calls PyProof.Rows
theorem iR:∀(ns:Ε) (vs:Η),WellAll P h vs (ns.map WData.int)->IntsAre vs ns:=by
 intro ns
 induction ns with
 |nil=>
  intro vs w;rw[N7]at w;cases w;exact .nil
 |cons n ns ih=>
  intro vs w;rw[JC]at w;cases w with
  |cons a b=>
   cases a;exact .cons _ _ (ih _ b)
theorem wV{l:OpenLaw}{n:Nat}(hn:l.most=↑n)
  (e:l.row.toRowW.claim.pre args=true)(m:WellAll P h c args):
  ∃a o ns,c=[Γ.ref a]/\args=[WData.list (ns.map WData.int)]/\h.get? a=some {cls:= .type "list",data:= .seq o.toArray}/\IntsAre o ns/\ns.length<=n:=by
 have j:WShape.hasAll [] args [.list .int]=true:=(pre_splitW e).1
 have p:l.pre.holds [] {args:=args}=true:=(pre_splitW e).2
 let#[d,r,rfl,h1,t]:=hasAllW_cons j
 obtain rfl:=hasAllW_nil t
 let#[xs,rfl,u]:=hasW_list h1;let#[ns,rfl]:=items_int u;have f:ns.length<=n:=by
  unfold OpenLaw.pre at p;have i:(WTm.not (.lt (.lit (.int (n:Int))) (.len (.arg 0)))).holds [] {args:=[.list (ns.map .int)]}=true:=by
   have i:=(holds_andW p).1;rw[hn]at i;exact i
  have g:=condW_of i (w_not (w_lt w_lit (w_len_list (w_arg Z))));rw[Jf]at g;refine OB λq=>?_
  have s:(n:Int)<((ns.length:Nat):Int):=by lia
  first
   |(rw[Jj s]at g;exact absurd g ⋯)
   |(simp at g;lia)
 cases m with
 |cons w1 w2=>
  cases w2;cases w1 with
  |list ho hall=>exact#[16,ns,7,ho,iR ns _ hall,f]
theorem uF(l:OpenLaw)(args:List WData):l.row.toRowW.claim.post args (.bool true) args=true:=
 postW_of (r:=l.row.toRowW) (X:=(true==true))
  (show WShape.has [] (.bool true) .bool=true by first|rfl|decide|simp [WShape.has,WShape.arms,WShape.armsAll])
  (show(WTm.eq .res (.lit (.bool true))).value [] {args:=args,res:=↑(.bool true),after:=args}=↑(.bool (true==true))from w_eq_bool (w_res Z) w_lit) Z
theorem attach_call{l:OpenLaw}{n:Nat}{z:(Str->Ο)->Ψ->Prop}{A:Ω->Ψ->Prop}{d:DefRec}
  (hn:l.most=↑n)(v:d.params.defaults=[])
  (call:∀(w:Ω) (e c:Θ) (mg u:HC) (m:Δ) (o:Obj) (pm s doc:Γ) (a:Δ) (vs:Η) (ns:Ε),
   Ground q g [] z w e mg u c.heap->A w c.heap->
   c.heap.get? m=↑o->o.data= .func (docDef d.name d.params d.body d.scope pm s doc)->c.heap.CodeRec s d.name->mg d.name=↑(-m)->
   c.heap.get? a=some {cls:= .type "list",data:= .seq vs.toArray}->IntsAre vs ns->ns.length<=n->c.gens= (B1 [])->
   codeAny (model l.prog w) callerA (.call (-m) #[[-a],[]]) (λr s'=>r= .ok (.ret (.bool true))/\OldK c.heap s'.heap/\s'.os=c.os/\AllBare s'.gens) c):
  WalkO q g z A l.row.toRowW d [] (λf vs=>PySem.call f vs):=by
 intro w e c mg u G Y m o pm s doc L kV H Q t D x O C B S j E P y N
 obtain rfl:L= .none:=Dflts.none D v
 obtain rfl:kV= .none:=Dflts.noKw D
 let#[a,vs,ns,rfl,rfl,p,h,i]:=wV hn j y;refine enter_call (IH (call w e c mg u m o pm s doc a vs ns G Y H (fd_plain Q) t x p h i O) λr s' I=>?_)
 let#[rfl,F,R,M]:=I
 exact#[.inl #[.bool true,.bool true,[],Z,λ_=>rfl,.bool true,uF l _,λ_=>#[List.Pairwise.nil,λ_ J=>(nomatch J)]],F,R,M]
end Att
namespace L2
open PySem PySem.Spec PyProof.Rows
theorem jZ:∀{vs:Η} {ns:Ε},IntsAre vs ns->HL (ns.map V.int) vs
 |_,_,.nil=> .nil
 |_,_,.cons n t h=> .cons #[t,Z] (jZ h)
noncomputable def Qe(s:δ)(j:Nat):δ:=match s with
 | .ClassDef _ _ _ body _ _ _ _ _ _ _=>body.getD j (.Pass #[(0),(0),(0),(0)])
 |_=> .Pass #[(0),(0),(0),(0)]
noncomputable def Qo(s:δ):Arguments:=match s with
 | .FunctionDef _ a _ _ _ _ _ _ _ _=>a
 |_=>{posonlyargs:=[],args:=[],vararg:=none,kwonlyargs:=[],kw_defaults:=[],kwarg:=none,defaults:=[]}
noncomputable def zi(s:δ):List δ:=match s with
 | .FunctionDef _ _ b _ _ _ _ _ _ _=>b
 |_=>[]
noncomputable def ql(s:δ):Scope:=match s with
 | .FunctionDef _ _ _ _ _ _ sc _ _ _=>sc
 |_=>{kind:= .function,names:=[],isGenerator:=false,isCoroutine:=false}
noncomputable abbrev ZS:cV:=λ_ _ _ _ _ _=>False
noncomputable abbrev E0:XK:=λ_ _ _=>False
theorem lE:eW ZS X E0:=λ_ _ _ _ _ _ _ h=>h.elim
structure Oc(K:ι)(x gV:Str)(st:δ)(f:Δ)(fd:FuncData):Prop where
 ex:∃(oc:Γ) (od:Χ) (kV doc pm:Γ) (an:Χ) (cdv ct:Γ) (osl:Array Ο),
  fd=PySem.W.fnOf x gV (Qo st) (zi st) (ql st) .none kV doc pm an cdv ct/\K.lookup f=some #[oc,od,.func fd,osl]/\PySem.W.codeIn K cdv gV=true
 kp:PySem.W.keepIn K (-f)=true
section
variable{K:ι}
theorem Oc.ok{st:δ}{k:Nat}{sp:Sp}(F:Oc K x gV st f fd)(S:HF N ps (ql st))(d:∀vs H Q E,sp vs H Q E->vs.length=ps.length)
  (c:∀(cdv:Γ) (A:Around) (a:Τ) (s:Θ) (H:Hp) (vs:Α) (Q:VK) (E:XK),HS k (A.deeper (envOfC gV (ql st) s.heap.objs.size f cdv))->sp vs H Q E->
   ∃t,NQ (ZE ZS P w K mg base N gV (ql st) f cdv A a s H E).nox (zi st) t/\t {nx:=λ_ H'=>Q .non H',rt:=Q} (ME N vs) H):M5 P w K mg base ZS (k+1) f fd ps sp:=by
 let#[oc,od,kV,doc,pm,an,cdv,ct,osl,rfl,j,g]:=F.ex;refine AJ j g S d λA a s H vs Q E i e=>?_
 let#[t,h,q]:=c cdv A a s H vs Q E i e
 exact#[t,h.nox,q]
theorem Oc.binds{st:δ}{ps:Β}(F:Oc K x gV st f fd)
  (h:∀(kV doc pm:Γ) (an:Χ) (cdv ct:Γ) (us:Η),us.length=ps.length->bindArgs (W.fnOf x gV (Qo st) (zi st) (ql st) .none kV doc pm an cdv ct) #[us,[]]=pure (ps.zip us)):MK K fd ps []:=by
 let#[oc,od,kV,doc,pm,an,cdv,ct,osl,rfl,c,a]:=F.ex;exact .all (h kV doc pm an cdv ct)
theorem nF{st:δ}{oc:Γ}{od:Χ}{osl:Array Ο}{kV:Γ}(l:K.lookup f=some #[oc,od,.func (W.fnOf x gV (Qo st) (zi st) (ql st) .none kV doc pm an cdv ct),osl])
  (c:W.codeIn K cdv gV=true)(k:W.keepIn K (-f)=true):Oc K x gV st f (W.fnOf x gV (Qo st) (zi st) (ql st) .none kV doc pm an cdv ct):=#[#[oc,od,kV,doc,pm,an,cdv,ct,osl,Z,l,c],k]
end
theorem zS{A B:Prop}(h:B):if false=true then A else B:=by
 rw[Jb JB];exact h
theorem Ql{A B:Prop}(h:A):if true=true then A else B:=by
 rw[Jc Z];exact h
theorem qQ{c A B:Prop} [Decidable c](h1:c->A)(h2:¬c->B):if c then A else B:=by
 by_cases h:c
 .rw[Jc h]
  exact h1 h
 .rw[Jb h]
  exact h2 h
theorem fD{c A B:Prop} [Decidable c](hc:c)(h:B):if(! decide c)=true then A else B:=by
 rw[Jj hc];exact zS h
def HE(H H':Hp):Prop:=∀b o,H b=↑o->H' b=↑o
theorem HE.refl(H:Hp):HE H H:=λ_ _ h=>h
theorem HE.trans(a:HE H H1)(b:HE H1 H2):HE H H2:=λc o h=>b c o (a c o h)
theorem HE.seq{K:ι}(e:HE H H')(h:HK K H a xs):HK K H' a xs:=by
 rcases h with(h|⟨o,h⟩)|h
 .exact .inl (.inl (e _ _ h))
 .exact .inl (.inr #[o,e _ _ h])
 .exact .inr h
end L2
namespace L3
open PySem PySem.Spec PyProof.Rows L2
noncomputable def zF(X:Cx)(N:Β)(scope:Scope)(a:List (Str×Δ))(C:Δ)(s:Θ)(H:Hp)(fp:Ι):Cx:=
 {X with N:=N,s₀:=s,H₀:=H,env:=compEnvC scope a C X.env,outer:=X.stack,ex:=fp,fn:=λ_=>false,pn:=[],xe:=λ_ _=>False}
structure Mw(X:Cx)(scope:Scope)(fr:Β)(js:Ζ):Prop where
 kind:scope.kind= .function
 names:∀x∈scope.names,x.2= .local->scope.names.lookup x.1=some .local
 nocell:∀x∈scope.names,x.2≠ .cell
 free:∀x∈scope.names,x.2= .free->x.1∈fr
 len:js.length=fr.length
 at_:∀(i j:Nat) (y:Str),js[i]? =↑j->fr[i]? =↑y->X.N[j]? =↑y/\X.env.kindOf y=some .cell/\(relabel scope X.env).names.lookup y=some .cell
theorem Zf{d:Type}{y:Str}:∀{l:List (Str×d)},y∈l.map (·.1)->∃c,l.lookup y=↑c
 | [],h=>by simp at h
 |(n,a)::r,h=>by
  cases e:y==n with
  |true=>exact#[a,by simp [GW,e]]
  |false=>
   have f:y∈r.map (·.1):=by
    rcases Jp.mp h with z|z
    .exact absurd z (by simpa using e)
    .exact z
   let#[c,g]:=Zf f
   exact#[c,by simp [GW,e,g]]
noncomputable def σ0(k:Nat)(js:Ζ)(σ:L2.St):L2.St:=D0 k none++js.map λj=>(σ[j]?).join
def uf(k:Nat)(js:Ζ)(g:TG)(te:TE)(σ:L2.St)(Q:VK)(J:It)(H1:Hp):Prop:=∃W:Nat->Nat->Α->L2.St->Hp->Prop,(∃m,W 0 m [] (σ0 k js σ) H1)/\∀i m ys e H,W i m ys e H->
 (J.stop i H/\∀p,H p=none->Q (-p) (HG H p (.lst ys)))\/(J.go i H/\ys.length<ζ/\∀x H',J.yld i H x H'->g x e H' λa f=>∃N:V->Hp->Prop,(∀v c,N v c->∃d,d<m/\W (i+1) d (ys++[v]) a c)/\te a f N)
noncomputable def iF(k:Nat)(js:Ζ)(a:TI)(g:TG)(te:TE):TE:=λσ H Q=>a σ H (uf k js g te σ Q)
section
theorem mZ{o a l:Φ}{it p:Γ}{e:Env}(I:Nat->Θ->Prop)
  (t:∀n s,I n s->ε (model prog w) A (pyNext it) (λr d=>match r with
   |none=>R (.ok .next) d
   | some v=>ε (model prog w) A (letOwnedTupleGo a it v) (λ_ c=>ε (model prog w) A (assign a e v) (λ_ j=>ε (model prog w) A (eval o e) (λx f=>
     ε (model prog w) A (call (.builtin "list.append") [p,x]) (λ_ g=>∃m,m<n/\I m g) (λ_ _=>False) f)
     (λ_ _=>False) j) (λ_ _=>False) c) (λ_ _=>False) d) (λ_ _=>False) s)
  (n:Nat)(h:I n s):
  codeAny (model prog w) A (.compLoop (.ListComp o [#[a,l,[],(0)]] scope pos) 0 it p e) R s:=by
 refine codeAny_loop Z I (λn s B=>?_) n h
 show ε _ _ ((compTurn (.ListComp o [#[a,l,[],(0)]] scope pos) 0 it p e).onRaise (λx=>do noteFrame x e;theTreesLotGoes x)) _ _ s
 refine wpAny_noted ?_
 rw[compTurn_list1];refine Ja (IE (Ja (JJ (t n s B) (λr d i=>?_) λ_ _ h'=>h'.elim)))
 cases r with
 |none=>exact Je i
 |some v=>
  refine Ja (JJ i (λ_ c q=>?_) λ_ _ h'=>h'.elim)
  exact Ja (JJ q (λ_ j y=>Ja (Ja (JJ y (λx f u=>Ja (JJ u
   (λ_ g z=>Je (Je #[Z,z])) λ_ _ h'=>h'.elim)) λ_ _ h'=>h'.elim))) λ_ _ h'=>h'.elim)
end
structure Pb(X:Cx)(pins:HD)(H:Hp)(C:Δ):Prop where
 free:H C=none
 loc:C≠X.env.locals
 new:X.s₀.heap.objs.size<=C
 cell:∀x c,X.env.cells.lookup x=↑c->c≠C
 pin:∀p∈X.pn++pins,p.1≠C
theorem m8{D:List (Str×Δ)}{fr own:Β}{fp:Ι}{tn:Nat->Ψ->Prop}{t:Ψ}{g:Nat}
  (r:∀y c,D.lookup y=↑c->X.env.cells.lookup y=↑c)(R:D.map (·.1)=fr)(S:Mw X scope fr js)(d:L2.HH X pins σ H2 a)(T:Na X.prog X.w X.K tg J fp it tn)(a3:tn 0 a.heap)(f2:∀b∈fp,Zp X pins H2 b)
  (hC:g=a.heap.objs.size+1)(H:∀b o,a.heap.get? b=↑o->t.get? b=↑o)(E:t.Ns g m):
  (∀b∈fp,b<a.heap.objs.size)/\L2.HH (zF X (own++fr) scope D g a H2 fp) [] (σ0 own.length js σ) H2 {a with heap:=t,toks:=a.toks+([]:List (Str×Γ)).length}/\a.heap.objs.size∉bo X.stack/\(∀x c,D.lookup x=↑c->c≠a.heap.objs.size)/\
  ∀{H':Hp} {pl:HD},(∀b∈fp,H' b=none)->(∀p∈pl,p.1=a.heap.objs.size)->∀b∈fp,Zp (zF X (own++fr) scope D g a H2 fp) pl H' b:=by
 have s:∀b,b<a.heap.objs.size->b≠g/\b≠a.heap.objs.size:=λb f=>#[by rw[hC];exact Jq (IM f),Jq f]
 let Y:Cx:=zF X (own++fr) scope D g a H2 fp
 have w:∀b∈fp,b<a.heap.objs.size:=λb f=>by let#[o,e,_]:=T.obj _ _ a3 b f;exact Jk e
 have Q:(zF X (own++fr) scope D g a H2 fp).Ok:=by
  refine#[d.ok.mod,S.kind,d.ok.glob,d.ok.blt,by show a.heap.objs.size<=g;lia,?_,?_,?_,d.ok.hd,d.ok.frames,.inl Z,?_,d.bs,Jg d.ok.bsz d.sz,?_,?_,d.stack,d.stkFree]
  .exactλx y c e1 e2=>d.ok.inj x y c (r x c e1) (r y c e2)
  .intro x hx
   have a6:(relabel scope X.env).names.lookup x=some .cell\/(relabel scope X.env).names.lookup x=some .free:=hx
   have hm:∃k,(x,k)∈scope.names/\k= .free:=by
    have O:∀W:NameKind,(W= .cell\/W= .free)->(relabel scope X.env).names.lookup x=↑W->∃k,(x,k)∈scope.names/\k= .free:=by
     intro W hk el;let#[#[n,k],h,e]:=Ju.mp (Lc el)
     dsimp only at e
     split at e
     .rename_i B
      cases e;exists k,h
      simp only[GF,IG]at B;exact B.1.1
     .cases e
      rcases hk with z|z
      .subst z;exact absurd Z (S.nocell _ h)
      .exact#[_,h,z]
    rcases a6 with z|z
    .exact O _ (.inl Z) z
    .exact O _ (.inr Z) z
   let#[k,h,hk]:=hm;exact Zf (l:=D) (by rw[R];exact S.free _ h hk)
  .exactλx c e _=>nomatch e
  .refineλb f=>#[?_,λx c e=>(f2 b f).2.2.2.2.1 x c (r x c e)]
   show b≠g
   exact(s b (w b f)).1
  .intro b o e f
   rcases(f2 b f).2.2.2.1 with z|z
   .exact d.ok.noex b o e z
   .exact absurd (Jn (Jk e) (Jg d.ok.bsz z)) (GJ _)
  .intro b f hf
   rcases Jp.mp (d.stkSub b hf)with z|z
   .exact(f2 b f).2.1 z
   .exact(f2 b f).2.2.1 z
 have M:(σ0 own.length js σ).length=(own++fr).length:=by unfold σ0;simp [S.len]
 have IY:HH Y [] (σ0 own.length js σ) H2 {a with heap:=t,toks:=a.toks+([]:List (Str×Γ)).length}:=by
  refine#[Q,Z,d.bare,Un.kept H,#[_,E,?_],?_,?_,?_,λp hp=>absurd (show p∈([]:HD)from hp) (by simp),d.hok.kept H,M]
  .intro i x v hN F _
   have I:(own++fr)[i]? =↑x:=hN
   unfold σ0 at F
   by_cases N:i<own.length
   .rw[Io (by simpa using N),O5]at F
    split at F<;>cases F
   .rw[GU (by simpa using OB N),Lz,Jo]at F
    rw[GU (OB N)]at I;cases ej:js[i-own.length]? with
    |none=>rw[ej]at F;cases F
    |some j=>
     rw[ej]at F;have a1:σ[j]? =↑(↑v):=by
      have G:(σ[j]?).join=↑v:=Jx F
      cases q:σ[j]? with
      |none=>rw[q]at G;cases G
      |some o=>rw[q]at G;have:o=↑v:=G;rw[this]
     let#[a2,hk,a4]:=S.at_ _ j x ej I;let#[m,hn,hl]:=d.loc;let#[u,ru,lk]:=hl j x v a2 a1 (.inr (.inl hk))
     refine#[u,ru,.inr ?_]
     rcases lk with⟨k1,_⟩|⟨_,c,ec,ic⟩
     .rw[hk]at k1;cases k1
     .let#[c',U]:=Zf (y:=x) (l:=D) (by rw[R];exact Jy I)
      have:c'=c:=by have:=r x c' U;rw[ec]at this;exact(Jx this).symm
      subst this;exists ?_,c',U
      .show(relabel scope X.env).names.lookup x=some .cell\/(relabel scope X.env).names.lookup x=some .free
       exact .inl a4
      .let#[oc,A,hd]:=ic
       exact#[oc,H _ _ A,hd]
  .intro x c e
   let#[v,oc,A,hd]:=d.cell x c (r x c e)
   exact#[v,oc,H _ _ A,hd]
  .exact d.hok.fresh (by show a.heap.objs.size<=g;lia)
  .exactλx c e=>d.freeC x c (r x c e)
 have L:a.heap.objs.size∉bo X.stack:=λhf=>by
  rcases Jp.mp (d.stkSub _ hf)with z|z
  .exact absurd (by rw[<- z];exact Jd _:a.heap.objs.size<=X.env.locals) (Kf.mpr d.lt)
  .exact d.nofs (Jd _) z
 have C:∀x c,D.lookup x=↑c->c≠a.heap.objs.size:=λx c e z=>by
  let#[v,oc,A,_]:=d.cell x c (r x c e)
  exact absurd (Jk A) (by rw[z];exact GJ _)
 have a0:∀{H':Hp} {pl:HD},(∀b∈fp,H' b=none)->(∀p∈pl,p.1=a.heap.objs.size)->∀b∈fp,Zp Y pl H' b:=λ{H' pl} hn hp b f=>
  #[hn b f,(s b (w b f)).1,Q.exfs b f,.inl f,λx c e=>(f2 b f).2.2.2.2.1 x c (r x c e),λp a5=>by
   have P:p∈pl:=by simpa [Y,zF]using a5
   rw[hp p P];exact Ne.symm (s b (w b f)).2]
 exact#[w,IY,L,C,a0]
theorem ni{pl:HD}{fp:Ι}{g:Nat}(m:L2.HH X pins σ H2 d)(f2:∀b∈fp,Zp X pins H2 b)(C:g=d.heap.objs.size+1)
  (r:L2.HH (zF X N scope D g d H2 fp) pl H l t)(a:l d.heap.objs.size=none)(w:HN X.prog X.w (HG l d.heap.objs.size ob) t.heap d.heap.objs.size ob):L2.HH X pins σ (HG l d.heap.objs.size ob) t/\Pb X pins (HG l d.heap.objs.size ob) g:=by
 have j:∀b,b<d.heap.objs.size->b≠g/\b≠d.heap.objs.size:=λb f=>#[by rw[C];exact Jq (IM f),Jq f]
 have A:d.heap.objs.size≠g:=by lia
 have B:=r.base;have F:l g=none:=r.free
 exists ?_
 .refine m.call' (s':=t) (ch:=fp) r.os #[B.keep,B.slot,λb o e n G=>?_,B.there,λb xs e=>?_,λb o u e=>?_,λb ps e=>?_] ?_ r.bare ?_
  .rw[qh (j b (Jk e)).2];exact B.free b o e n G
  .have i:=B.tups b xs e
   rw[qh (qr i a)];exact i
  .have i:=B.frzs b o u e
   rw[qh (qr i a)];exact i
  .let#[s,i]:=B.tbls b ps e
   exact#[s,by rw[qh (qr i a)];exact i]
  .intro b u e
   by_cases f:b=d.heap.objs.size
   .subst f
    rw[qc]at e;cases e
    exact w
   .rw[qh f]at e
    exact(r.hok b u e).stay (λc v _ q=>q) (λc q=>by rw[qh (qr q a)];exact q) λc xs q=>by rw[qh (qr q a)];exact q
  .exactλb f=>#[(f2 b f).2.2.2.1,(f2 b f).2.1,(f2 b f).2.2.2.2.1,(f2 b f).2.2.2.2.2]
 .have h:d.heap.objs.size<=g:=by lia
  refine#[by rw[qh (Ne.symm A)];exact F,?_,Jg m.sz h,λx c e z=>?_,λp E z=>?_]
  .exact JT (Jn m.lt h)
  .let#[v,oc,y,_]:=m.cell x c e
   exact absurd (Jn (Jk y) h) (by rw[z];exact GJ _)
  .exact absurd (Jn (Jk (m.pin p E).1) h) (by rw[z];exact GJ _)
theorem nq{scope:Scope}{cl:List (Str×Δ)}{b7:Pos}{fr own:Β}{use:Option (Γ->Sem Unit)}{Post:Hu}
  {s:Θ}{H:Hp}
  (hc:X.calm=true)(hi:PI X tg q wi)(a3:closureFor scope X.env=pure cl)(c3:∀y c,cl.lookup y=↑c->X.env.cells.lookup y=↑c)(c5:cl.map (·.1)=fr)
  (S:Mw X scope fr js)
  (hg:∀C s H fp,PG (zF X (own++fr) scope cl C s H fp) tg g)(he:∀C s H fp,PE (zF X (own++fr) scope cl C s H fp) a6 te)
  (hs:∀x,foldedSetIterable q X.env x=pure x)
  (I:L2.HH X pins σ H s)(h:iF own.length js wi g te σ H Q)
  (c2:∀(b4 C:Δ) (s5:Θ) (H':Hp) (m:HC),L2.HH X pins σ H' s5->s5.heap.Ns C m->Pb X pins H' C->Q (-b4) H'->compPost (model X.prog X.w) X.A X.xe use Post (-b4) C (.ok .next) s5):
  ε (model X.prog X.w) X.A (comprehension (.ListComp a6 [#[tg,q,[],(0)]] scope pos) scope X.env b7 (newList []) false (eval q X.env) use) Post X.xe s:=by
 refine wpAny_comprehension_free (use:=use) Z hs a3 S.kind S.names (qB (hi pins s σ H _ I h) λv s1 h1=>qB h1 λd4 j h2=>?_)
 let#[it,fp,tn,J,H2,e,I2,T,b1,f2,W,#[m0,w0],b6]:=h2;subst e;refine F0 (wpAny_newFunctionEnv S.nocell (by intro y hy;simp at hy) (λw f a=>?_) S.kind)
 dsimp only at f a⊢
 generalize hH2:j.heap.push {cls:= .type "list",dict:=none,data:= .seq ([]:Η).toArray}=G at f a⊢
 have hC:G.objs.size=j.heap.objs.size+1:=by rw[<- hH2,J9]
 have P:j.heap.objs.size≠G.objs.size:=by rw[hC];exact Jq (Ib _)
 have L:∀b,b<j.heap.objs.size->b≠G.objs.size/\b≠j.heap.objs.size:=λb t=>#[by rw[hC];exact Jq (IM t),Jq t]
 have b3:∀b o,j.heap.get? b=↑o->w.get? b=↑o:=λb o e=>a.extBut b o (L b (Jk e)).1 (Jh _ (hH2▸Jh _ e))
 have U:w.get? j.heap.objs.size=some {cls:= .type "list",data:= .seq ([]:Η).toArray 0}:=a.extBut _ _ P (Jh _ (hH2▸Jr _ Z))
 let Y:Cx:=zF X (own++fr) scope cl G.objs.size j H2 fp
 let#[b5,IY,D,F,a2]:=m8 (own:=own) (js:=js) c3 c5 S I2 T b1 f2 hC b3 f
 have a0:∀l:Θ,HH Y [] (σ0 own.length js σ) H2 l->tn 0 l.heap->l.heap.get? j.heap.objs.size=some {cls:= .type "list",data:= .seq ([]:Η).toArray 0}->
   codeAny (model X.prog X.w) X.A (.compLoop (.ListComp a6 [#[tg,q,[],(0)]] scope pos) 0 (-it) (-j.heap.objs.size) (compEnvC scope cl G.objs.size X.env))
    (compPost (model X.prog X.w) X.A X.xe use Post (-j.heap.objs.size) G.objs.size) l:=by
  intro l I3 c4 c7;refine mZ (λn s'=>∃i ys τ H' d k,HH Y [(j.heap.objs.size,{cls:= .type "list",data:= .seq d.toArray k})] τ H' s'/\tn i s'.heap/\(∀b∈fp,H' b=none)/\HL ys d/\ys.length<=ζ/\W i n ys τ H') ?_ m0 ?_
  .rintro n s4 ⟨i,ys,τ,H4,d,k,I4,b2,c0,vl,hz,w4⟩
   have d2:=I4.pin (j.heap.objs.size,{cls:= .type "list",data:= .seq d.toArray k}) (by simp [Y,zF])
   rcases b6 i n ys τ H4 w4 with⟨b0,qn⟩|⟨go,d3,step⟩
   .refine qB (T.done Y Z Z Z hc i _ s4 τ H4 _ I4 (a2 c0 (by simp)) b2 b0) λr s5 O=>?_
    let#[hr,I5]:=O;subst hr
    show compPost _ _ _ _ _ _ _ _ _
    let#[m5,d0,_]:=I5.loc;have a1:=I5.pin (j.heap.objs.size,{cls:= .type "list",data:= .seq d.toArray k}) (by simp [Y,zF])
    have R:H4 j.heap.objs.size=none:=a1.2.1
    have B:=I5.base;have nC:H4 G.objs.size=none:=I5.free
    let#[z1,z2]:=ni (ob:= .lst ys) I2 f2 hC I5 R #[hz,d,k,vl,a1.1]
    exact c2 j.heap.objs.size G.objs.size s5 (HG H4 j.heap.objs.size (.lst ys)) m5 z1 d0 z2 (qn _ R)
   .refine qB (T.item Y Z Z Z hc i _ s4 τ H4 _ I4 (a2 c0 (by simp)) b2 go) λr s5 O=>?_
    let#[u,hr,h5]:=O;subst hr;refine qB h5 λ_ s6 O=>?_
    let#[x,H6,I6,r6,y6,a5,c6]:=O;have I6':=I6.pinned (a2 c6 (by simp)) (T.obj _ _ a5)
    refine qB (hg _ _ _ _ _ s6 τ H6 x u _ I6' r6 (step x H6 y6)) λ_ s7 O=>?_
    let#[a4,H7,I7,N,hN,q7]:=O;refine qB (he _ _ _ _ _ s7 a4 H7 _ I7 q7) λv' s8 O=>?_
    let#[y,H8,I8,r8,n8]:=O;let#[m',d1,w8]:=hN _ _ n8;have E:=I8.pin (j.heap.objs.size,{cls:= .type "list",data:= .seq d.toArray k}) (by simp [zF])
    have A:∀b∈fp,∀o,s6.heap.get? b=↑o->s8.heap.get? b=↑o/\H8 b=none:=λb t o e=>by
     have:=I8.pin (b,o) (JL _ (JL _ (ZD t e)))
     exact#[this.1,this.2.1]
    refine wpAny_list_append_plain (items:=d.toArray) #[k,E.1] (λh' M c1=>?_) (by have:=vl.length;simp;lia)
    let#[k',M]:=M;have I9:HH Y [] a4 H8 {s8 with heap:=h'}:=by
     refine(I8.pins_of (pins':=[]) (by simp)).turned (t':=s8.toks) (it:=j.heap.objs.size) (λb o t e=>(c1.2 b t).trans e) E.2.1 ?_ (.inr (Jd _)) (λx c e=>F x c e) (λp hp=>absurd (show p∈([]:HD)from by simpa [Y,zF]using hp) (by simp))
     exact P
    have ea:(d.toArray.push v')=(d++[v']).toArray:=by simp
    rw[ea]at M;refine#[m',d1,i+1,ys++[y],a4,H8,d++[v'],k',I9.pins_of ?_,T.keep _ _ _ a5 λb t o e=>(c1.2 b (L b (b5 b t)).2).trans (A b t o e).1,λb t=>?_,vl.append (.cons r8 .nil),?_,w8]
    .intro p hp
     rw[Jm.mp hp]
     exact#[M,E.2.1,P,D,λv z=>by cases z]
    .let#[o,e,_]:=T.obj _ _ a5 b t
     exact(A b t o e).2
    .rw[Jz,GV];lia
  .refine#[(0),[],σ0 own.length js σ,H2,[],(0),I3.pins_of ?_,c4,λb t=>(f2 b t).1,.nil,JH _,w0]
   intro p hp;rw[Jm.mp hp]
   exact#[c7,I2.hok.fresh (Jd _),P,D,λv z=>by cases z]
 have st1:tn 0 w:=T.keep _ _ _ b1 λb _ o e=>b3 b o e
 exact codeAny_compStart_list (a0 _ IY st1 U) (T.self _ 0 _ _ _ st1 (a0 _ IY st1 U))
theorem BD{scope:Scope}{i:List (Str×Δ)}{fr own:Β}
  (hc:X.calm=true)(hi:PI X tg a t)(d:closureFor scope X.env=pure i)(r:∀y c,i.lookup y=↑c->X.env.cells.lookup y=↑c)(n:i.map (·.1)=fr)
  (S:Mw X scope fr js)
  (hg:∀C s H fp,PG (zF X (own++fr) scope i C s H fp) tg g)(he:∀C s H fp,PE (zF X (own++fr) scope i C s H fp) f te)
  (hs:∀x,foldedSetIterable a X.env x=pure x:=by intro _;rfl):
  PE X (.ListComp f [#[tg,a,[],(0)]] scope pos) (iF own.length js t g te):=by
 intro pins s σ H Q I h;rw[eval_ListComp];refine nq (use:=none) hc hi d r n S hg he hs I h λp C z H' m v w j q=>?_
 exact#[m,w,λh' l=>#[-p,H',v.turned (t':=z.toks) (λb o u e=>(l.2 b u).trans e) j.free j.loc (.inr j.new) j.cell j.pin,Z,q]]
theorem Cn{scope:Scope}{p:List (Str×Δ)}{j:Pos}{fr own:Β}{i:Nat}{y:Str}
  (hN:X.N.Nodup)(u:X.N[i]? =↑y)(hx:iE X.env.scope y)
  (hc:X.calm=true)(hi:PI X tg d J)(n:closureFor scope X.env=pure p)(E:∀y c,p.lookup y=↑c->X.env.cells.lookup y=↑c)(w:p.map (·.1)=fr)
  (S:Mw X scope fr js)
  (hg:∀C s H fp,PG (zF X (own++fr) scope p C s H fp) tg g)(he:∀C s H fp,PE (zF X (own++fr) scope p C s H fp) f te)
  (hs:∀x,foldedSetIterable d X.env x=pure x:=by intro _;rfl)(A:swapsWith (.ListComp f [#[tg,d,[],(0)]] scope pos) ↑(.Name y t) j.line X.env=pure true:=by rfl)
  (hf:X.fn y=true\/X.env.scope.names.lookup y=some .local:=by first|exact .inl Z|exact .inr Z|assumption):
  PS X (.Assign [.Name y t] (.ListComp f [#[tg,d,[],(0)]] scope pos) j) (gW (iF own.length js J g te) (QB i)):=by
 intro pins s σ H D I h;rw[exec_Assign_Name_used _ _ _ _ A];refine Ja (IE (Ja ?_))
 show ε _ X.A (do let _ <- comprehension (.ListComp f [#[tg,d,[],(0)]] scope pos) scope X.env _ (newList []) false (eval d X.env) ↑(assign (.Name y t) X.env)) _ _ s
 refine Ja (JJ (nq (use:=↑(assign (.Name y t) X.env)) (Post:=λ_ s'=>SP X pins D .next s') hc hi n E w S hg he hs I h ?_) (λ_ s' M=>Je (Je M)) λ_ _ e=>e)
 intro r C U H' m N R l q
 show ε _ X.A (assign (.Name y t) X.env (-r)) _ _ _
 refine wpAny_assign_Name (fu (v:= .ref r) N hN u hx Z (λQ O P=>?_) hf)
 let#[a,G,L]:=P;have B:C≠a:=by
  rcases L with z|z
  .rw[z];exact l.loc
  .exact Ne.symm (l.cell _ _ z)
 refine#[m,R.sameBut G B,λh' F=>?_]
 exact#[_,H',O.turned (t':=Q.toks) (λb o T e=>(F.2 b T).trans e) l.free l.loc (.inr l.new) l.cell l.pin,q]
section
variable{K:ι}
noncomputable abbrev zV(js:Ζ)(σ:L2.St):L2.St:=js.map λj=>(σ[j]?).join
abbrev aK(J:It)(js:Ζ)(te:TE)(σ:L2.St)(H1:Hp)(Q:VK):Prop:=uf 1 js (QB 0) te σ Q J H1
theorem ba{J:It}{n:Nat}(hn:n<=ζ)(c:Nat->V->Prop)(Pv:Nat->Α->Hp->Prop)(l:Pv 0 [] H)(g:∀i ys H,i<n->Pv i ys H->J.go i H)(hst:∀ys H,Pv n ys H->J.stop n H)
  (r:∀i ys H x H',i<n->Pv i ys H->J.yld i H x H'->H'=H/\c i x)
  (hs:∀i ys H x,i<n->ys.length=i->Pv i ys H->c i x->te (↑x::zV js σ) H λv d=>Pv (i+1) (ys++[v]) d)
  (hd:∀ys H,ys.length=n->Pv n ys H->∀p,H p=none->Q (-p) (HG H p (.lst ys))):aK J js te σ H Q:=by
 exists λi m ys h H=>m=n-i/\i<=n/\ys.length=i/\Pv i ys H/\∃o,h=o::zV js σ,#[n,by simp,JH _,Z,l,none,Z]
 rintro i m ys h H ⟨rfl,hi,f,p,o,rfl⟩
 by_cases a:i<n
 .refine .inr #[g i ys H a p,by lia,λx H' y=>?_]
  let#[e,j]:=r i ys H x H' a p y;subst e
  exact#[λv d=>Pv (i+1) (ys++[v]) d,λv d q=>#[n-(i+1),by lia,Z,a,by simp [f],q,0],hs i ys _ x a f p j]
 .have e:i=n:=by lia
  subst e;exact .inl #[hst ys H p,hd ys H f p]
theorem QK{xs:Α}(hn:xs.length<=ζ)(Pv:Nat->Α->Hp->Prop)(d:Pv 0 [] H)(hl:∀i ys H,Pv i ys H->HK K H a xs)
  (hs:∀i ys H x,xs[i]? =↑x->ys.length=i->Pv i ys H->te (↑x::zV js σ) H λv e=>Pv (i+1) (ys++[v]) e)
  (hd:∀ys H,ys.length=xs.length->Pv xs.length ys H->∀p,H p=none->Q (-p) (HG H p (.lst ys))):aK (eO K a) js te σ H Q:=
 ba hn (λi x=>xs[i]? =↑x) Pv d (λi ys H hi p=>#[xs,xs[i],hl _ _ _ p,by simp [hi]]) (λys H p=>#[xs,hl _ _ _ p,Jd _]) (λi ys H x H' _ p y=>#[y.1,y.2 xs (hl _ _ _ p)]) (λi ys H x _ hl p c=>hs i ys H x c hl p) hd
theorem gY{xs:Α}(hn:xs.length<=ζ)(Pv:Nat->Α->Hp->Prop)(d:Pv 0 [] H)(hl:∀i ys H,Pv i ys H->HP K H a xs)
  (hs:∀i ys H x,xs[i]? =↑x->ys.length=i->Pv i ys H->te (↑x::zV js σ) H λv e=>Pv (i+1) (ys++[v]) e)
  (hd:∀ys H,ys.length=xs.length->Pv xs.length ys H->∀p,H p=none->Q (-p) (HG H p (.lst ys))):aK (iY K a) js te σ H Q:=
 ba hn (λi x=>xs[i]? =↑x) Pv d (λi ys H hi p=>#[xs,xs[i],hl _ _ _ p,by simp [hi]]) (λys H p=>#[xs,hl _ _ _ p,Jd _]) (λi ys H x H' _ p y=>#[y.1,y.2 xs (hl _ _ _ p)]) (λi ys H x _ hl p c=>hs i ys H x c hl p) hd
theorem cJ{lo:Int}{n:Nat}(hn:n<=ζ)(Pv:Nat->Α->Hp->Prop)(c:Pv 0 [] H)
  (hs:∀i ys H,i<n->ys.length=i->Pv i ys H->te (↑(.int (lo+i))::zV js σ) H λv d=>Pv (i+1) (ys++[v]) d)
  (hd:∀ys H,ys.length=n->Pv n ys H->∀p,H p=none->Q (-p) (HG H p (.lst ys))):aK (kP lo n) js te σ H Q:=
 ba hn (λi x=>x= .int (lo+i)) Pv c (λi ys H hi p=>hi) (λys H p=>Jd _) (λi ys H x H' _ p y=>y) (λi ys H x hi e p a=>by subst a;exact hs i ys H hi e p) hd
end
end L3
namespace L3
open PySem PySem.Spec PyProof.Rows L2
section
theorem fG{h':Ψ}{t':Nat}{ch:Ι}{a:Δ}{xs:Α}(I:L2.HH X pins σ H s)(k:∀b o,b∉ch->s.heap.get? b=↑o->h'.get? b=↑o)(d:∀b∈ch,Zp X pins H b)
  (ho:∀b∈ch,∃o,h'.get? b=↑o)(ha:s.heap.objs.size<=a)(w:xs.length<=ζ)(hv:HL xs its)(t:IsTup h' a its.toArray):L2.HH X pins σ (HG H a (.tup xs)) {s with heap:=h',toks:=t'}:=by
 have i:H a=none:=I.hok.fresh ha
 have j:∀b o,s.heap.get? b=↑o->b≠a:=λb o e=>Jq (Jn (Jk e) ha)
 have h:∀b u,H b=↑u->b∉ch:=λb u e z=>by rw[(d b z).1]at e;cases e
 refine I.step (g':=s.gens) (d':=s.drawn) (ch:=ch) (λb f=>#[(d b f).2.2.2.1,(d b f).2.1,(d b f).2.2.2.2.1,(d b f).2.2.2.2.2]) (λb o _ _ g e _=>k b o g e) (λb o _ _ g e _=>#[o.slots,k b o g e])
  (λb o _ e n=>by rw[qh (j b o e)];exact n) (λb o g e=>#[o,k b o g e]) (λb ys e=>by rw[qh (qr e i)];exact e) (λb o u e=>by rw[qh (qr e i)];exact e)
  (λb ps e=>#[(B1 []),by rw[qh (qr e i),e];simp]) (λm l=>?_) (λb u e=>?_) I.bare
 .let#[o,es,p,ho,r]:=l
  exact#[o,es,p,k _ o (λz=>(d _ z).2.1 Z) ho,r]
 .by_cases f:b=a
  .subst f
   rw[qc]at e;cases e
   exact#[w,its,hv,t]
  .rw[qh f]at e
   refine(I.hok b u e).stay (λc v g q=>k c v ?_ q) (λc q=>by rw[qh (qr q i)];exact q) λc ys q=>by rw[qh (qr q i)];exact q
   rcases g with z|z
   .rw[z];exact h b u e
   .exact h c _ z
noncomputable def rM(K:ι)(a:Δ):It:=
 #[λi H=>∃xs x,HK K H a xs/\xs[i]? =↑x,λi H x H'=>∃p v,H p=none/\x= .ref p/\(∀xs,HK K H a xs->xs[i]? =↑v)/\H'=HG H p (.tup [.int i,v]),λi H=>∃xs,HK K H a xs/\xs.length<=i]
theorem j2{K:ι}{x1}(a e it:Δ)(r:e≠it):
  Na P w K (.Tuple t x1 pos) (rM K a) [e,it] e (λi h=>(∃c,IsEnum h e it i c)/\h.IsListIter it a i) where
 mem:=by simp
 obj:=λi h st b f=>by
  let#[#[c,g],#[o,F,M,hd]]:=st;rcases Jp.mp f with z|z
  .subst z
   refine#[_,g,λv z=>?_]
   have z':Data.fields _=Data.cell v:=z
   cases z'
  .rw[Jm.mp z]
   exact#[o,F,λv z=>by rw[hd]at z;cases z]
 keep:=λi h h' st k=>#[let⟨c,g⟩:=st.1;#[c,k e (by simp) _ g],st.2.at λo q=>k it (by simp) o q]
 item:=by
  intro X R O Q M i pins s σ H E I C st J;subst R O Q;let#[xs,x,D,N]:=J;let#[its,S,p,U]:=I.list D;let#[u,hu,ru]:=S.get N;let#[#[c,g],j]:=st;refine wpAny_pyNext_enum_item g j p.isList (x:=u) (by simpa using hu) r λh' F m ht W hk=>#[0,?_]
  refine wpAny_letOwnedTupleGo_enum F λL l d=>?_
  have n:e<s.heap.objs.size:=Jk g
  have B:it<s.heap.objs.size:=by let#[_,y,_]:=j;exact Jk y
  exists .ref s.heap.objs.size,HG H s.heap.objs.size (.tup [.int i,x]),?_,Z,#[_,x,I.hok.fresh (Jd _),Z,λys hy=>by rw[I.list_inj hy D];exact N,Z],#[#[_,by simpa using l],?_]
  .show L2.HH X pins σ _ {s with heap:=L,toks:=s.toks+1}
   refine fG (s:=s) (its:=[.int i s.toks,u]) I (ch:=[e,it]) (λb o f q=>?_) C (λb f=>?_) (Jd _) (by show 2<=ζ;decide) (.cons #[0] (.cons ru .nil)) ?_
   .have A:b≠e:=λz=>f (by simp [z])
    have G:b≠it:=λz=>f (by simp [z])
    exact(d.2 b A).trans (hk b o A G q)
   .rcases Jp.mp f with z|z
    .subst z;exact#[_,l]
    .rw[Jm.mp z]
     let#[o,y,_]:=m
     exact#[o,(d.2 it (Ne.symm r)).trans y]
   .exact#[_,(d.2 _ (JT n)).trans ht,17]
  .exact m.extBut d.extBut (Ne.symm r)
  .intro b f
   rw[qh]
   .exact(C b f).1
   .rcases Jp.mp f with z|z
    .subst z;exact Jq n
    .rw[Jm.mp z];exact Jq B
 done:=by
  intro X R O Q M i pins s σ H E I C st J;subst R O Q;let#[xs,D,N]:=J;let#[its,S,p,U]:=I.list D;let#[#[c,g],j]:=st;let#[f0,f1,f2,T,f4,Y]:=C it (by simp)
  have hl:=S.length;exact wpAny_pyNext_enum_end (I.ok.hd M) g j p.isList (by simp;lia) λh' eb=>#[Z,I.turned (t':=s.toks) (λb o f e=>eb b o f e) f0 f1 T f4 Y]
 self:=λ_ _ _ _ _ st h=>by
  let#[#[c,g],_]:=st;exact Ln g h
noncomputable def AO(K:ι)(ta:TA):TI:=λσ H R=>ta σ H λc H1=>∃a,c=[-a]/\(∃xs,HK K H1 a xs)/\R (rM K a) H1
theorem Bz{a:Φ}{p:Pos}{x1}(hg:Gl X "enumerate")(hm:X.mg "enumerate"=none)(ha:PA X [a] ta)(hs:θ [a] X.env=[(false,eval a X.env)]:=by rfl):
  PI X (.Tuple d x1 f) (.Call (.Name "enumerate" p) [a] [] pos) (AO X.K ta):=by
 intro pins s σ H R I h;refine Call_ (Zh I hg hm boot_enumerate (IZ (qB (ha pos pins s σ H _ I h) λC c v=>?_) hs Z))
 let#[A,H1,i,w,q1]:=v;let#[l,e,#[xs,t],q]:=q1;subst e;let#[u,rfl,y]:=w.one;cases y;let#[o,D,pl,B]:=i.list t;refine call_enumerate_list pl.isList λh' m j r hk=>Ln m ?_
 have n:L2.HH X pins σ H1 {c with heap:=h'}:=i.kept (t':=c.toks) hk
 refine#[c.heap.objs.size+1,[c.heap.objs.size+1,c.heap.objs.size],16,H1,Z,n,j2 l _ _ (JT (Ib _)),#[#[_,m],j],λb x=>?_,q]
 have g:c.heap.objs.size<=b:=by
  rcases Jp.mp x with z|z
  .rw[z];exact GN _
  .rw[Jm.mp z];exact Jd _
 exact i.fpOk g (i.hok.fresh g)
theorem im{K:ι}{xs:Α}{g:TG}{tb:TS}{D:MF}{σ:L2.St}{H:Hp}(Pv:Nat->L2.St->Hp->Prop)(l:Pv 0 σ H)(hl:∀i σ H,i<=xs.length->Pv i σ H->HK K H a xs)
  (hs:∀i x σ H p,xs[i]? =↑x->Pv i σ H->H p=none->g (-p) σ (HG H p (.tup [.int i,x])) λc h=>tb {D with nx:=Pv (i+1),ct:=Pv (i+1),bk:=D.nx} c h)(hd:∀σ H,Pv xs.length σ H->D.nx σ H):
  ∃W:Nat->Nat->L2.St->Hp->Prop,(∃m,W 0 m σ H)/\∀i m σ H,W i m σ H->
   ((rM K a).stop i H/\D.nx σ H)\/((rM K a).go i H/\∃N:L2.St->Hp->Prop,(∀d H',N d H'->∃j,j<m/\W (i+1) j d H')/\∀x H',(rM K a).yld i H x H'->g x σ H' λc h=>tb {D with nx:=N,ct:=N,bk:=D.nx} c h):=by
 exists λi m σ H=>m=xs.length-i/\i<=xs.length/\Pv i σ H,#[xs.length,by simp,JH _,l]
 rintro i m σ H ⟨rfl,hi,p⟩
 have q:=hl i σ H hi p
 by_cases f:i<xs.length
 .refine .inr #[#[xs,xs[i],q,by simp [f]],Pv (i+1),λd H' n=>#[xs.length-(i+1),by lia,Z,f,n],λx H' y=>?_]
  let#[s,v,r,rfl,o,rfl]:=y;exact hs i v σ H s (o xs q) p r
 .have e:i=xs.length:=by lia
  subst e;exact .inl #[#[xs,q,Jd _],hd σ H p]
end
noncomputable def QD(t c:String):Bool:=t==c||(t=="bool"&&c=="int")
noncomputable abbrev je:List String:=["NoneType","bool","int","str","list","tuple"]
noncomputable abbrev jt:List String:=["bool","int","str","list","tuple"]
theorem jm(K:ι):∀t∈je,∀c∈jt,W.kitOne K (.type t) (.type c)=↑(QD t c):=by
 intro t d c a;simp only[je,jt,Jp,JE,JF]at d a;rcases d with rfl|rfl|rfl|rfl|rfl|rfl<;>rcases a with rfl|rfl|rfl|rfl|rfl<;>kernel_rfl
section
theorem oz:zt X (.builtin "isinstance") (λxs H Q=>∃x c t,xs=[x,.ty c]/\Nb X.K H x (.type t)/\t∈je/\c∈jt/\Q (.bl (QD t c)) H):=by
 intro pins s σ H xs g Q I r h;let#[x,c,t,rfl,ty,d,e,q]:=h;let#[u,v,rfl,a,f]:=cL r
 cases(show v=Γ.type c from f)
 exact vq I a ty (jm X.K t d c e) λtk=>#[.bl _,H,I.tok tk,Z,q]
theorem ou:∀{bs:List Bool} {us:Η},HL (bs.map V.bl) us->us=bs.map Γ.bool
 | [],_,.nil=>rfl
 |b::bs,_,.cons r t=>by
  cases(show _=Γ.bool b from r)
  rw[ou t];rfl
theorem uv(bs:List Bool):((B2 bs.length).all λi=>(bs[i]?).getD true)=bs.all id:=by
 rw[La,IP,IP];constructor
 .intro h b c
  let#[i,hi,e]:=KN.mp c
  have:=h i (Ih.mpr hi)
  rw[Ji hi,IQ,e]at this;exact this
 .intro h i hi
  have a:=Ih.mp hi;rw[Ji a,IQ];exact h _ (Gz a)
theorem fe(hc:X.calm=true):zt X (.builtin "all") (λxs H Q=>∃(p:Δ) (bs:List Bool),xs=[-p]/\HK X.K H p (bs.map V.bl)/\Q (.bl (bs.all id)) H):=by
 intro pins s σ H xs y Q I r h;let#[p,bs,rfl,j,q]:=h;let#[u,rfl,m]:=Qv r;cases m;let#[c,t,pl,z]:=I.list j;have e:=ou t;have d:=pl.isList;have f:p<s.heap.objs.size:=by let#[_,e,_]:=d;exact Jk e
 refine call_all_walk (IF d ?_)
 refine#[s.heap.objs.size,[s.heap.objs.size,p],[s.heap.objs.size],c.toArray.size,16,λi=>(bs[i]?).getD true,Z,Walks.list (A:=X.A.in1) (I.ok.hd hc) _ p (Jq f) c.toArray,
  #[#[_,Jr _ Z,7],d.push _],λi v s' x B n g=>?_,λh' tk hk=>?_]
 .have a:c[i]? =↑v:=by simpa using n
  rw[e,Jo]at a;cases eb:bs[i]? with
  |none=>rw[eb]at a;cases a
  |some b=>
   rw[eb]at a
   cases(Jx a:Γ.bool b=v)
   simp only[eb,IQ]at g;exact GM g
 .have w:((B2 c.toArray.size).all λi=>(bs[i]?).getD true)=bs.all id:=by
   rw[Js,e,Jf];exact uv bs
  rw[w];refine#[.bl _,H,I.kept (h':=h') (t':=tk) λb o q=>hk b o (λl=>?_) (Jh _ q),Z,q]
  rw[Jm.mp l]at q;exact GJ _ (Jk q)
theorem vG:zt X (.type "range") (λxs H Q=>∃j:Int,xs=[.int j]/\∀p,H p=none->Q (-p) (HG H p (.rng 0 j))):=by
 intro pins s σ H xs c Q I r h;let#[j,rfl,q]:=h;let#[u,rfl,a]:=Qv r;let#[t,rfl]:=a;refine call_range_1 #[-s.heap.objs.size,_,I.laid (o:= .rng 0 j) (λb o e=>Jh _ e) (Jd _) #[32,Jr _ Z],Z,q _ (I.hok.fresh (Jd _))]
inductive Px (x:V)(lo:Λ)(hi:Λ)(H:Hp)(Q:VK):Prop
 |mk (a:_)(xs:_)(h1:x= .ref a)(h2:H a=↑(.tup xs))(h3:∀p H',HE H H'->H' p=↑(.tup (ZY xs lo hi))->(p=a\/H p=none)->Q (-p) H')
def F6:V->Λ->Λ->Hp->VK->Prop:=λx lo hi H Q=>Px x lo hi H Q
theorem c9{prog:Ξ}{w:Ω}{A:Around}{E:Hu}{s:Θ}{t sl:Δ}{items:Array Γ}{f g:Γ}{lo hi:Λ}{Q:Hu}(a:IsTup s.heap t items)(hs:s.heap.IsSliceOf sl f g .none)(pl:IsPart f lo)(i:IsPart g hi)
  (hw:HT.sIx items.size 0 lo=0/\HT.sIx items.size items.size hi=items.size)(h:Q (-t) s):ε (model prog w) A (getItem (-t) (-sl)) Q E s:=by
 let#[j,c,d,l]:=id hs;have e:s.TypeIs (-sl) "slice":=#[j,c,d]
 unfold getItem
 try with_reducible refine JO ?_
 first|refine Ja (Je ?_)|skip
 refine Ja (wpAny_sequenceKey a.typeIs ⋯ ?_)
 refine Ja (wpAny_callSpecial?_slot (name:=Str.ofString "__getitem__") a.typeIs LA
  (J0 LA a.typeIs entry_tuple_getitem ?_ (args_tuple_getitem _ _)))
 show ε _ _ (γ.Tuple.tupleItemsOf (-t) >>= _) _ _ s
 refine Ja (tupleItemsOf_ a ?_)
 refine Ja (Lk e ?_)
 rw[Jc ⋯]
 refine Ja (HT.sliceApplied_gen hs pl i ?_)
 show ε _ _ (if(((HT.sIx items.size 0 lo:Nat):Int)==0&&(1:Int)==1&&(HT.sIx items.size items.size hi-HT.sIx items.size 0 lo)==items.size)=true then _ else _) _ _ s
 rw[hw.1,hw.2,Jc (by simp)]
 refine Ja (m:=γ.Tuple.tupleIsExact _) ?_
 unfold γ.Tuple.tupleIsExact;refine Ja (Lk a.typeIs (Je ?_))
 rw[Jc (by rfl)]
 exact Ja (J4 (Je #[0,Je h]))
theorem pH:wS X F6:=by
 intro pins s σ H x v t u lo hi n Q I j hs pl i h;let#[a,xs,rfl,f,q]:=h
 by_cases d:HT.sIx xs.length 0 lo=0/\HT.sIx xs.length xs.length hi=xs.length
 .cases j
  let#[g,r,l,w]:=I.tuple (HP.of f)
  have c:g.toArray.size=xs.length:=by rw[Js];exact r.length.symm
  exists "tuple",_,PyProof.Rows.slot_tuple_getitem.lookup,l.typeIs
  refine c9 l hs pl i (by rw[c];exact d) #[-a,H,I,Z,q a H (HE.refl H) ?_ (.inl Z)]
  have:ZY xs lo hi=xs:=by unfold ZY;rw[d.1,d.2];simp
  rw[this];exact f
 .exact Eb pins s σ H _ v t u lo hi n Q I j hs pl i #[a,xs,Z,HP.of f,d,λp m=>q p _ (λb o e=>by rw[qh (qr e m)];exact e) qc (.inr m)]
inductive Pc (x:V)(y:V)(H:Hp)(Q:VK):Prop
 |mk (a:_)(b:_)(xs:_)(ys:_)(h1:x= .ref a)(h2:y= .ref b)(h3:H a=↑(.tup xs))(h4:H b=↑(.tup ys))(h5:xs.length+ys.length<=ζ)(h6:∀p H',HE H H'->H' p=↑(.tup (xs++ys))->Q (-p) H')
noncomputable def Ft:R2:=λx y H Q=>Pc x y H Q
theorem bV:zj X (binaryOp .Add) Ft:=by
 intro pins s σ H x y v u Q I A w h;let#[a,b,xs,ys,rfl,rfl,j,m,G,q]:=h
 by_cases D:xs=[]
 .subst D
  cases A;cases w;let#[F,N,M,_]:=I.tuple (HP.of j)
  let#[g,R,p2,_]:=I.tuple (HP.of m)
  cases N;let#[#[J,O,z,P],t,C,n,B]:=id M;let#[#[E,i,r,l],f,c,n2,d]:=id p2;simp only at C B c d
  subst C B c d;exact concat_meets #[_,t,Z] #[_,f,Z] noFill_tuple_add seq_tuple_add LO LP (LQ _ _)
   (tuple_addW0 a b _ g.toArray n n2 O i P l (by simp)) #[t,f,#[-b,H,I,Z,q b H (HE.refl H) m]]
 .refine BV pins s σ H _ _ v u Q I A w #[a,b,xs,ys,7,HP.of j,HP.of m,D,G,λe=>q a H (HE.refl H) (by subst e;simpa using j),λ_ p L=>q p _ (λb o e=>by rw[qh (qr e L)];exact e) qc]
theorem fM{ns:Ε}(r:HL (ns.map V.int) us)(j:Nat)(h:j<us.length)(h':j<ns.length):∃t,us[j]=Γ.int ns[j] t:=by
 let#[u,a,c]:=r.get (i:=j) (x:=V.int ns[j]) (by rw[Jo,Ji h'];rfl)
 rw[Ji h]at a;cases a;exact c
theorem om(ns a:Ε)(h:ns.length=a.length):((B2 ns.length).all λj=>(ns.getD j 0==a.getD j 0))=decide (ns=a):=by
 rw[La,IP,Lo];constructor
 .intro q
  refine OC h λi h1 c=>?_
  have:=q i (Ih.mpr h1)
  simp only[JN,Ji h1,Ji c,IQ,IG]at this;exact this
 .rintro rfl i _
  simp
end
noncomputable def Q8:Φ->Bool
 | .Starred .. =>false
 |_=>true
theorem bA{es:Κ}(h:Q8 e=true):θ (e::es) a=(false,eval e a)::θ es a:=by
 cases e<;>first|rfl|cases h
theorem Gt(ha:PE X e te)(hr:PA X es t)(h:Q8 e=true:=by rfl):PA X (e::es) (cF te t):=CZ ha hr (bA h)
structure Df(P:Ξ)(w:Ω)(K:ι)(mg:HC)(base:Ψ)(x:Str)(ps:Β)(k:Nat)(sp:Sp):Prop where
 ex:∃(f:Δ) (fd:FuncData),M5 P w K mg base ZS k f fd ps sp/\mg x=↑(-f)/\PySem.W.keepIn K (-f)=true/\MK K fd ps []
structure At(K:ι)(mg:HC)(x:Str)(st:δ)(ps:Β):Prop where
 ex:∃(f:Δ) (fd:FuncData),Oc K x x st f fd/\mg x=↑(-f)/\PySem.W.keepIn K (-f)=true/\MK K fd ps []
section
variable{K:ι}{k:Nat}
theorem At.df{x:Str}{st:δ}{ps:Β}{k:Nat}{sp:Sp}(a:At K mg x st ps)(S:HF N ps (ql st))(e:∀vs H Q E,sp vs H Q E->vs.length=ps.length)
  (d:∀(f:Δ) (cdv:Γ) (A:Around) (c:Τ) (s:Θ) (H:Hp) (vs:Α) (Q:VK) (E:XK),HS k (A.deeper (envOfC x (ql st) s.heap.objs.size f cdv))->sp vs H Q E->
   ∃t,NQ (ZE ZS P w K mg base N x (ql st) f cdv A c s H E).nox (zi st) t/\t {nx:=λ_ H'=>Q .non H',rt:=Q} (ME N vs) H):Df P w K mg base x ps (k+1) sp:=by
 let#[f,fd,F,m,g,bd]:=a.ex
 exact#[f,fd,F.ok S e (λcdv A c s H vs Q E i h=>d f cdv A c s H vs Q E i h),m,g,bd]
theorem EX(D:Df X.prog X.w X.K X.mg X.base x ps k sp)(hr:HS k X.A)(ha:PA X (e::es) t)(hg:Gl X x:=by rfl)(hdb:(x==("__debug__":Str))=false:=by decide)(he:θ (e::es) X.env=(false,eval e X.env)::θ es X.env:=by rfl)(hpl:(backTo pos (θ es X.env)).any (·.1)=false:=by rfl):
  PE X (.Call (.Name x p) (e::es) [] pos) (sN sp [] E0 t):=by
 let#[f,fd,ok,m,a,bd]:=D.ex;exact CF ok hr hg m a bd .nil lE ha hdb he hpl
end
theorem nH{scope:Scope}(e:scope.kind= .function)(c:∀x∈scope.names,x.2= .local->scope.names.lookup x.1=some .local)(a:∀x∈scope.names,x.2≠ .cell)
  (d:∀x∈scope.names,x.2= .free->x.1∈([]:Β)):Mw X scope [] []:=#[e,c,a,d,Z,λi j y h=>by simp at h]
theorem aq{X:Cx}{scope:Scope}{y:Str}{j:Nat}(e:scope.kind= .function)(c:∀x∈scope.names,x.2= .local->scope.names.lookup x.1=some .local)(a:∀x∈scope.names,x.2≠ .cell)
  (d:∀x∈scope.names,x.2= .free->x.1∈([y]:Β))(h1:X.N[j]? =↑y)(h2:X.env.kindOf y=some .cell)(h:(relabel scope X.env).names.lookup y=some .cell):Mw X scope [y] [j]:=
 #[e,c,a,d,Z,λi l m f g=>by
  cases i with
  |zero=>cases f;cases g;exact#[h1,h2,h]
  |succ i=>simp at f]
theorem ao{X:Cx}{c:Δ}(h:X.env.cells.lookup y=↑c):∀z d,([(y,c)]:List (Str×Δ)).lookup z=↑d->X.env.cells.lookup z=↑d:=λz d e=>by
 by_cases a:z=y
 .subst a
  simp at e
  rw[<- e];exact h
 .simp [GW,show(z==y)=false from by simpa using a]at e
theorem cM{X:Cx}{K:ι}(h:X.K=K):Oz X (yj K):=by subst h;exact qJ
theorem jg{X:Cx}{K:ι}(h:X.K=K):Oz X (xu K):=by subst h;exact zp
noncomputable abbrev jq(n m k:Int):HO:= .lst [.int n,.int m,.int k]
theorem _root_.L2.HE.upd{H:Hp}(h:H p=none):HE H (HG H p o):=λb u e=>by rw[qh (qr e h)];exact e
theorem Dq(c:Bool): -(2 ^ 64:Int)<(if c=true then(1:Int)else 0):=by cases c<;>decide
theorem E7(c:Bool):(if c=true then(1:Int)else 0)<(2 ^ 64:Int):=by cases c<;>decide
theorem rE{n j:Nat}(h:j<n):cY n (j:Int)=↑j:=by unfold cY;rw[Jc (by lia),Jc (by lia)];simp
noncomputable def jL(ns:Ε)(lo hi:Λ):Ε:=(ns.drop (HT.sIx ns.length 0 lo)).take (HT.sIx ns.length ns.length hi-HT.sIx ns.length 0 lo)
theorem xr(ns:Ε)(lo hi:Λ):ZY (ns.map V.int) lo hi=(jL ns lo hi).map V.int:=by unfold ZY jL;rw[Jf,Kt,OD]
theorem Am(ns:Ε)(lo hi:Λ):(jL ns lo hi).length=min (HT.sIx ns.length ns.length hi-HT.sIx ns.length 0 lo) (ns.length-HT.sIx ns.length 0 lo):=by unfold jL;rw[JP,Lj]
theorem Q0{ns:Ε}{i:Nat}{x:V}(h:(ns.map V.int)[i]? =↑x):∃z,x= .int z/\ns[i]? =↑z:=by
 rw[Jo]at h;cases e:ns[i]? with
 |none=>rw[e]at h;cases h
 |some z=>rw[e]at h;exact#[z,(Jx h).symm,Z]
theorem jJ{ns:Ε}{i:Nat}(h:i<ns.length):(ns.map V.int)[i]? =↑(.int ns[i]):=by rw[Jo,Ji h];rfl
theorem cT(ns:Ε)(i:Nat)(z:Int):(ns.map V.int).set i (.int z)=(ns.set i z).map V.int:=by rw[List.map_set]
noncomputable def Bv:Option HO->Option String
 |some (.lst _)=>↑"list"
 |some (.tup _)=>↑"tuple"
 |_=>none
noncomputable def kd(H:Hp):V->Option String
 | .non=>↑"NoneType"
 | .bl _=>↑"bool"
 | .int _=>↑"int"
 | .str _=>↑"str"
 | .ref a=>Bv (H a)
 |_=>none
theorem vC{t:String}(h:Bv o=↑t):(∃xs,o=↑(.lst xs)/\t="list")\/(∃xs,o=↑(.tup xs)/\t="tuple"):=by
 cases o with
 |none=>cases h
 |some u=>
  cases u with
  |lst xs=>cases h;exact .inl #[xs,7]
  |tup xs=>cases h;exact .inr #[xs,7]
  |_=>cases h
theorem jd{t:String}(h:kd H (-a)=↑t):(∃xs,H a=↑(.lst xs)/\t="list")\/(∃xs,H a=↑(.tup xs)/\t="tuple"):=vC h
theorem Fp{K:ι}{t:String}(h:kd H x=↑t):Nb K H x (.type t)/\t∈je:=by
 cases x with
 |non=>cases h;exact#[.non,by simp]
 |bl b=>cases h;exact#[.bl b,by simp]
 |int i=>cases h;exact#[.int i,by simp]
 |str x=>cases h;exact#[.str x,by simp]
 |byt b=>cases h
 |flt b=>cases h
 |ty b=>cases h
 |ref a=>
  rcases jd h with⟨xs,e,rfl⟩|⟨xs,e,rfl⟩
  .exact#[.lst e,by simp]
  .exact#[.tup e,by simp]
theorem fQ{t:String}(s:HE H H')(h:kd H x=↑t):kd H' x=↑t:=by
 cases x with
 |ref a=>
  rcases jd h with⟨xs,e,rfl⟩|⟨xs,e,rfl⟩
  .show Bv (H' a)=_;rw[s _ _ e];rfl
  .show Bv (H' a)=_;rw[s _ _ e];rfl
 |_=>exact h
noncomputable def cH:V->Bool
 | .int i=>decide (0<=i)&&decide (i<16)
 |_=>false
theorem aL{c:Type}{xs:List c}{r:Int}(d:0<=r)(h1:r<xs.length):∃v,ZQ xs r=↑v/\v∈xs:=by
 have a:r.toNat<xs.length:=by lia
 refine#[xs[r.toNat],?_,Gz a]
 have e:ZQ xs ((r.toNat:Nat):Int)=some xs[r.toNat]:=zI (Ji a)
 rwa [show((r.toNat:Nat):Int)=r by lia]at e
inductive rh(vs:Α)(H:Hp)(Q:VK)(_:XK):Prop
 |mk (x:_)(t:_)(h1:vs=[x])(h2:kd H x=↑t)(h3:Q (.bl (cH x)) H)
inductive lF(vs:Α)(H:Hp)(Q:VK)(_:XK):Prop
 |mk (p:_)(xs:_)(h1:vs=[-p])(h2:H p=↑(.tup xs))(h3:xs.length<=ζ)(h4:(∀x∈xs,∃t,kd H x=↑t))(h5:∀H',HE H H'->Q (.bl (xs.all cH)) H')
end L3
namespace L3
open PySem PySem.Spec L2
structure QE(X:Cx)(e:Φ)(t:TE):Prop where
 h:PE X e t
structure QT(X:Cx)(e:Φ)(t:TT):Prop where
 h:PT X e t
structure QW(X:Cx)(e:Φ)(t:TT):Prop where
 h:PW X e t
structure QA(X:Cx)(e:Κ)(t:TA):Prop where
 h:PA X e t
structure QS(X:Cx)(e:δ)(t:TS):Prop where
 h:PS X e t
structure Oy(X:Cx)(e:List δ)(t:TS):Prop where
 h:NQ X e t
structure QG(X:Cx)(e:Φ)(t:TG):Prop where
 h:PG X e t
structure Ph(X:Cx)(e:Κ)(t:ac):Prop where
 h:rH X e t
structure QO(X:Cx)(e:ξ)(t:TO):Prop where
 h:PO X e t
structure QI(X:Cx)(tg e:Φ)(t:TI):Prop where
 h:PI X tg e t
theorem qg{i j pos}:QE X (.Constant (.int i) j pos) (tC (.int i)):=#[D9]
theorem cr{b j pos}:QE X (.Constant (.bool b) j pos) (tC (.bl b)):=#[Fh]
theorem zk{j pos}:QE X (.Constant .none j pos) (tC .non):=#[E9]
theorem qm{x j pos}:QE X (.Constant (.str x) j pos) (tC (.str x)):=#[EK]
theorem zv{u:Γ}(hg:Gl X x)(hm:X.mg x=↑u)(r:HJ v u)(hd:(x==("__debug__":Str))=false:=by decide):QE X (.Name x pos) (tC v):=#[Cl (hg:=hg) (hm:=hm) (r:=r) (hd:=hd)]
theorem zL{u:Γ}(hg:Gl X x)(hm:X.mg x=none)(hv:bootBuiltins x=↑u)(r:HJ v u)(hn:x≠"__name__":=by decide)(hd:(x==("__debug__":Str))=false:=by decide):QE X (.Name x pos) (tC v):=#[Ci (hg:=hg) (hm:=hm) (hv:=hv) (r:=r) (hn:=hn) (hd:=hd)]
theorem qx{b:Φ}{op:Operator}(ho:zj X (binaryOp op) r)(ha:QE X a ta)(hb:QE X b tb):QE X (.BinOp a op b pos) (kC r ta tb):=#[Fb (ho:=ho) (ha:=ha.h) (hb:=hb.h)]
theorem AZ{op:UnaryOp}{r:V->Hp->VK->Prop}(ho:AS X (unaryOp op) r)(ha:QE X a ta):QE X (.UnaryOp op a pos) (FH r ta):=#[Fc (ho:=ho) (ha:=ha.h)]
theorem Qn{b:Φ}{op:CmpOp}(ho:zj X (compareOp op) r)(ha:QE X a ta)(hb:QE X b tb)(hm:behindInMarks op b=false):QE X (.Compare a [op] [b] pos) (kC r ta tb):=#[Cy (ho:=ho) (ha:=ha.h) (hb:=hb.h) (hm:=hm)]
theorem qA{b:Φ}{op:CmpOp}(ho:zj X (compareOp op) r)(ha:QE X a ta)(hb:QE X b tb)(hm:behindInMarks op b=false):QT X (.Compare a [op] [b] pos) (fO (kC r ta tb)):=#[B7 (ho:=ho) (ha:=ha.h) (hb:=hb.h) (hm:=hm)]
theorem gR{b:Φ}{op d:CmpOp}(ho:zj X (compareOp op) r)(ho':zj X (compareOp d) e)(ha:QE X a ta)(hb:QE X b tb)(hc:QE X c tc)(hm:lastMarks [op,d] [b,c]=false:=by with_unfolding_all rfl):QE X (.Compare a [op,d] [b,c] pos) (iy r e ta tb tc):=#[wX (ho:=ho) (ho':=ho') (ha:=ha.h) (hb:=hb.h) (hc:=hc.h) (hm:=hm)]
theorem yd{b:Φ}{op d:CmpOp}(ho:zj X (compareOp op) r)(ho':zj X (compareOp d) e)(ha:QE X a ta)(hb:QE X b tb)(hc:QE X c tc)(hm:lastMarks [op,d] [b,c]=false:=by with_unfolding_all rfl):QT X (.Compare a [op,d] [b,c] pos) (fO (iy r e ta tb tc)):=#[Ah (ho:=ho) (ho':=ho') (ha:=ha.h) (hb:=hb.h) (hc:=hc.h) (hm:=hm)]
theorem Q4{b:Φ}{rest:Κ}(ha:QE X a ta)(hb:QE X (.BoolOp .And (b::rest) pos) tb):QE X (.BoolOp .And (a::b::rest) pos) (ux ta tb):=#[EZ (ha:=ha.h) (hb:=hb.h)]
theorem ZJ{op}(h:QE X a t):QE X (.BoolOp op [a] pos) t:=#[C5 (h:=h.h)]
theorem uN(ha:QE X a ta):QE X (.UnaryOp .Not a pos) (AM ta):=#[EC (ha:=ha.h)]
theorem aW{b:Φ}{rest:Κ}(ha:QT X a tA)(hb:QW X (.BoolOp .And (b::rest) pos) tB'):QW X (.BoolOp .And (a::b::rest) pos) (DY tA tB'):=#[DT (ha:=ha.h) (hb:=hb.h)]
theorem ZG{b:Φ}{rest:Κ}(ha:QT X a tA)(hb:QW X (.BoolOp .Or (b::rest) pos) tB'):QW X (.BoolOp .Or (a::b::rest) pos) (FL tA tB'):=#[Ff (ha:=ha.h) (hb:=hb.h)]
theorem aN(ha:QT X a tA):QW X (.BoolOp .And [a] pos) tA:=#[CK (ha:=ha.h)]
theorem ZA(ha:QT X a tA):QW X (.BoolOp .Or [a] pos) tA:=#[Dg (ha:=ha.h)]
theorem QF(ha:QT X a tA):QT X (.UnaryOp .Not a pos) (D6 tA):=#[DJ (ha:=ha.h)]
theorem Qa(h:QE X e t)(he:∀a,isTrue e X.env a=(do let v <- a;standAt e.pos;holding [v] (truthy v)):=by intro _;rfl):QT X e (tB t):=#[Eg (h:=h.h) (he:=he)]
theorem cK{b:Φ}(hc:QT X c tA)(ha:QE X a ta)(hb:QE X b tb):QE X (.IfExp c a b pos) (AY tA ta tb):=#[Al (hc:=hc.h) (ha:=ha.h) (hb:=hb.h)]
theorem qd(ha:QE X e te)(hr:QA X es t)(h:Q8 e=true:=by rfl):QA X (e::es) (cF te t):=#[Gt (ha:=ha.h) (hr:=hr.h) (h:=h)]
theorem qb:QA X [] jv:=#[DE]
theorem qF{x1}(h:QA X es t):QE X (.Tuple es x1 pos) (D8 t):=#[DA (h:=h.h)]
theorem zb(h:QA X es t):QE X (.List es pos) (ES t):=#[Dy (h:=h.h)]
theorem qI{b:Φ}(hr:Oz X r)(ha:QE X a ta)(hb:QE X b tb)(hs:sg b:=by exactλ_ _=>rfl):QE X (.Subscript a b pos) (kC r ta tb):=#[Fm (hr:=hr) (ha:=ha.h) (hb:=hb.h) (hs:=hs)]
theorem cQ{r:V->Λ->Λ->Hp->VK->Prop}(hr:wS X r)(he:QE X e te)(hl:QO X lo tl)(hu:QO X hi th):QE X (.Subscript e (.Slice lo hi none p2) pos) (FG r te tl th):=#[Aa (hr:=hr) (he:=he.h) (hl:=hl.h) (hu:=hu.h)]
theorem fR:QO X none pF:=#[B5]
theorem fI(h:QE X e te):QO X ↑e (AU te):=#[BK (h:=h.h)]
theorem qy{x:Str}{p pos:Pos}{e:Φ}{es:Κ}{t:TA}{id:String}{r:Α->Hp->VK->Prop}(hc:zt X (.builtin id) r)(hm:X.mg x=none)(hv:bootBuiltins x=↑(.builtin id))(ha:QA X (e::es) t)(hg:Gl X x:=by rfl)(hn:x≠"__name__":=by decide)(hdb:(x==("__debug__":Str))=false:=by decide)(he:θ (e::es) X.env=(false,eval e X.env)::θ es X.env:=by rfl)(hpl:(backTo pos (θ es X.env)).any (·.1)=false:=by rfl):QE X (.Call (.Name x p) (e::es) [] pos) (By r t):=#[yY (hc:=hc) (hg:=hg) (hm:=hm) (hv:=hv) (ha:=ha.h) (hn:=hn) (hdb:=hdb) (he:=he) (hpl:=hpl)]
theorem qT{pos:Pos}{e:Φ}{es:Κ}{r:Α->Hp->VK->Prop}(hc:zt X (.type T) r)(hm:X.mg x=none)(hv:bootBuiltins x=↑(.type T))(ha:QA X (e::es) t)(hg:Gl X x:=by rfl)(hn:x≠"__name__":=by decide)(hdb:(x==("__debug__":Str))=false:=by decide)(he:θ (e::es) X.env=(false,eval e X.env)::θ es X.env:=by rfl)(hpl:(backTo pos (θ es X.env)).any (·.1)=false:=by rfl):QE X (.Call (.Name x p) (e::es) [] pos) (By r t):=#[uV (hc:=hc) (hg:=hg) (hm:=hm) (hv:=hv) (ha:=ha.h) (hn:=hn) (hdb:=hdb) (he:=he) (hpl:=hpl)]
theorem qt{k:Nat}{e:Φ}{es:Κ}{pos:Pos}(D:Df X.prog X.w X.K X.mg X.base x ps k sp)(hr:HS k X.A)(ha:QA X (e::es) t)(hg:Gl X x:=by rfl)(hdb:(x==("__debug__":Str))=false:=by decide)(he:θ (e::es) X.env=(false,eval e X.env)::θ es X.env:=by rfl)(hpl:(backTo pos (θ es X.env)).any (·.1)=false:=by rfl):QE X (.Call (.Name x p) (e::es) [] pos) (sN sp [] E0 t):=#[EX (D:=D) (hr:=hr) (ha:=ha.h) (hg:=hg) (hdb:=hdb) (he:=he) (hpl:=hpl)]
theorem qH:Oy X [] uc:=#[BH]
theorem qe{st:δ}(h1:QS X st t)(h2:Oy X rest u):Oy X (st::rest) (ei t u):=#[Ay (h1:=h1.h) (h2:=h2.h)]
theorem qj{st:δ}(h1:QS X st t):Oy X [st] t:=#[BF (h1:=h1.h)]
theorem qG{pos:Pos}{i:Nat}{x:Str}(hN:X.N.Nodup)(hi:X.N[i]? =↑x)(hx:iE X.env.scope x)(he:QE X e te)(hs:swapsWith e ↑(.Name x pos') pos.line X.env=pure false:=by rfl)(hf:X.fn x=true\/X.env.scope.names.lookup x=some .local:=by first|exact .inl Z|exact .inr Z|assumption):QS X (.Assign [.Name x pos'] e pos) (gW te (QB i)):=#[Es (hN:=hN) (hi:=hi) (hx:=hx) (he:=he.h) (hs:=hs) (hf:=hf)]
theorem zr{pos:Pos}(he:QE X e te)(hg:QG X tg g)(hs:swapsWithSole [tg] e pos.line X.env=pure false:=by rfl)(hw:swappedStores [tg] e X.env=pure none:=by rfl)(h1:(assignEach [tg] X.env).map (·.2)=[assign tg X.env]:=by rfl):QS X (.Assign [tg] e pos) (gW te g):=#[EU (he:=he.h) (hg:=hg.h) (hs:=hs) (hw:=hw) (h1:=h1)]
theorem qw(he:QE X e te):QS X (.Return ↑e pos) (EH te):=#[C9 (he:=he.h)]
theorem qM{b:List δ}(hc:QT X c tc)(ha:Oy X a t)(hb:Oy X b u):QS X (.If c a b pos) (nQ tc t u):=#[Fa (hc:=hc.h) (ha:=ha.h) (hb:=hb.h)]
theorem zo(hp:PassesOwn (model X.prog X.w) X.A X.env X.xe)(hc:X.calm=true)(hi:QI X tg a c)(hg:QG X tg g)(hb:Oy X body tb)(hs:∀x,foldedSetIterable a X.env x=pure x:=by intro _;rfl):QS X (.For tg a body [] pos) (Ec c g tb):=#[ER (hp:=hp) (hc:=hc) (hi:=hi.h) (hg:=hg.h) (hb:=hb.h) (hs:=hs)]
theorem zJ{pos:Pos}(he:QE X e te)(hs:swapsWith e none pos.line X.env=pure false:=by rfl):QS X (.Expr e pos) (Bk te):=#[BN (he:=he.h) (hs:=hs)]
theorem C1{to:TE}{c:V->V->Hp->VK->Prop}(ho:QE X o to)(hi:QE X i j)(hg:yf X c)(he:QE X e te)(hp:Em X op d)(hs:nv X a)(ha:∀g h new,augStore i g h new=(do holding [new,g,h] (setItem g h new);release [new,g,h] [];pure .next):=by intros;rfl):QS X (.AugAssign (.Subscript o i f) op e pos) (Bh to j te c d a):=#[B8 (ho:=ho.h) (hi:=hi.h) (hg:=hg) (he:=he.h) (hp:=hp) (hs:=hs) (ha:=ha)]
theorem zK(hl:QE X l tl):QI X tg l (Bn X.K tl):=#[BE (hl:=hl.h)]
theorem nY(hl:QE X l tl):QI X tg l (DU X.K tl):=#[DC (hl:=hl.h)]
theorem Qi{a:Φ}{p:Pos}(hg:Gl X "range")(hm:X.mg "range"=none)(ha:QA X [a] ta)(hs:θ [a] X.env=[(false,eval a X.env)]:=by rfl):QI X tg (.Call (.Name "range" p) [a] [] pos) (Bl ta):=#[wO (hg:=hg) (hm:=hm) (ha:=ha.h) (hs:=hs)]
theorem rC{a:Φ}{p:Pos}{x1}(hg:Gl X "enumerate")(hm:X.mg "enumerate"=none)(ha:QA X [a] ta)(hs:θ [a] X.env=[(false,eval a X.env)]:=by rfl):QI X (.Tuple c x1 d) (.Call (.Name "enumerate" p) [a] [] pos) (AO X.K ta):=#[Bz (hg:=hg) (hm:=hm) (ha:=ha.h) (hs:=hs)]
theorem qk{i:Nat}{x:Str}(hN:X.N.Nodup)(hi:X.N[i]? =↑x)(hx:iE X.env.scope x)(hf:X.fn x=true\/X.env.scope.names.lookup x=some .local:=by first|exact .inl Z|exact .inr Z|assumption):QG X (.Name x pos) (QB i):=#[C0 (hN:=hN) (hi:=hi) (hx:=hx) (hf:=hf)]
theorem QH{k:Nat}{n:Nat}(hc:X.calm=true)(h:Ph X es t)(hn:(assignEach es X.env).length=n:=by rfl)(hst:(assignEach es X.env).findIdx? (·.1)=none:=by rfl):QG X (.Tuple es k pos) (mT X.K n t):=#[mB (hc:=hc) (h:=h.h) (hn:=hn) (hst:=hst)]
theorem bf{to:TE}(ho:QE X o to)(hi:QE X i d)(hs:nv X t)(ha:∀v,assign (.Subscript o i pos) X.env v=(do
      let a <- holding [v] (eval o X.env)
      let c <- holding [v,a] (eval i X.env)
      standAt pos
      holding [v,a,c] (setItem a c v)
      release [v,a,c] []):=by intro _;rfl):QG X (.Subscript o i pos) (Dw to d t):=#[EE (ho:=ho.h) (hi:=hi.h) (hs:=hs) (ha:=ha)]
theorem qW:Ph X [] sT:=#[Co]
theorem qu(h1:QG X e t)(h2:Ph X es u)(hs:(assignEach (e::es) X.env).map (·.2)=assign e X.env::(assignEach es X.env).map (·.2):=by rfl):Ph X (e::es) (fB t u):=#[yg (h1:=h1.h) (h2:=h2.h) (hs:=hs)]
theorem QW.pt(h:QW X e t):QT X e t:=#[PW.pt h.h]
theorem qv(i:Nat){x:Str}(hN:X.N[i]? =↑x:=by rfl)(hv:Ef X.env.scope x:=by first|exact Or.inl Z|exact Or.inr (Or.inl Z)|exact Or.inr (Or.inr Z))(hd:(x==("__debug__":Str))=false:=by decide)
  (a:(x==("__classdict__":Str))=false:=by decide):QE X (.Name x pos) (EM i):=#[EJ hN hv hd a]
theorem zH{scope:Scope}{f:List (Str×Δ)}{fr own:Β}
  (hc:X.calm=true)(hi:QI X tg a j)(d:closureFor scope X.env=pure f)(i:∀y c,f.lookup y=↑c->X.env.cells.lookup y=↑c)(h:f.map (·.1)=fr)
  (S:Mw X scope fr js)
  (hg:∀C s H fp,QG (zF X (own++fr) scope f C s H fp) tg g)(he:∀C s H fp,QE (zF X (own++fr) scope f C s H fp) e te)
  (hs:∀x,foldedSetIterable a X.env x=pure x:=by intro _;rfl):
  QE X (.ListComp e [#[tg,a,[],(0)]] scope pos) (iF own.length js j g te):=#[BD hc hi.h d i h S (λC s H fp=>(hg C s H fp).h) (λC s H fp=>(he C s H fp).h) hs]
theorem BM{scope:Scope}{h:List (Str×Δ)}{d:Pos}{fr own:Β}{i:Nat}{y:Str}
  (hN:X.N.Nodup)(m:X.N[i]? =↑y)(hx:iE X.env.scope y)
  (hc:X.calm=true)(hi:QI X tg a o)(f:closureFor scope X.env=pure h)(n:∀y c,h.lookup y=↑c->X.env.cells.lookup y=↑c)(j:h.map (·.1)=fr)
  (S:Mw X scope fr js)
  (hg:∀C s H fp,QG (zF X (own++fr) scope h C s H fp) tg g)(he:∀C s H fp,QE (zF X (own++fr) scope h C s H fp) e te)
  (hs:∀x,foldedSetIterable a X.env x=pure x:=by intro _;rfl)(l:swapsWith (.ListComp e [#[tg,a,[],(0)]] scope pos) ↑(.Name y p) d.line X.env=pure true:=by rfl)
  (hf:X.fn y=true\/X.env.scope.names.lookup y=some .local:=by first|exact .inl Z|exact .inr Z|assumption):
  QS X (.Assign [.Name y p] (.ListComp e [#[tg,a,[],(0)]] scope pos) d) (gW (iF own.length js o g te) (QB i)):=#[Cn hN m hx hc hi.h f n j S (λC s H fp=>(hg C s H fp).h) (λC s H fp=>(he C s H fp).h) hs l hf]
section
variable{K:ι}
theorem At.dq{st:δ}{k:Nat}{sp:Sp}(a:At K mg x st ps)(S:HF N ps (ql st))
  (d:∀(f:Δ) (cdv:Γ) (A:Around) (c:Τ) (s:Θ) (H:Hp) (vs:Α) (Q:VK) (E:XK),HS k (A.deeper (PyProof.Rows.envOfC x (ql st) s.heap.objs.size f cdv))->sp vs H Q E->
   ∃t,Oy (ZE ZS P w K mg base N x (ql st) f cdv A c s H E).nox (zi st) t/\t {nx:=λ_ H'=>Q .non H',rt:=Q} (ME N vs) H)(e:∀vs H Q E,sp vs H Q E->vs.length=ps.length:=by intro vs H Q E h;first|(cases h;subst_vars;rfl)|((repeat first|let#[rfl,h]:=h|let#[_,h]:=h);all_goals rfl)):Df P w K mg base x ps (k+1) sp:=
 a.df S e λf cdv A c s H vs Q E g h=>let⟨t,q1,q2⟩:=d f cdv A c s H vs Q E g h;#[t,q1.h,q2]
theorem _root_.L2.Oc.dq{st:δ}{k:Nat}{sp:Sp}(F:Oc K x gV st f fd)(S:HF N ps (ql st))(d:∀vs H Q E,sp vs H Q E->vs.length=ps.length)
  (c:∀(cdv:Γ) (A:Around) (a:Τ) (s:Θ) (H:Hp) (vs:Α) (Q:VK) (E:XK),HS k (A.deeper (PyProof.Rows.envOfC gV (ql st) s.heap.objs.size f cdv))->sp vs H Q E->
   ∃t,Oy (ZE ZS P w K mg base N gV (ql st) f cdv A a s H E).nox (zi st) t/\t {nx:=λ_ H'=>Q .non H',rt:=Q} (ME N vs) H):M5 P w K mg base ZS (k+1) f fd ps sp:=
 F.ok S d λcdv A a s H vs Q E e h=>let⟨t,q1,q2⟩:=c cdv A a s H vs Q E e h;#[t,q1.h,q2]
theorem Fe{st:δ}(F:Oc K x x st f fd)(m:mg x=↑(-f))(b:MK K fd ps []):At K mg x st ps:=#[f,fd,F,m,F.kp,b]
end
end L3
namespace L3
open PySem PySem.Spec PyProof.Rows L2
noncomputable def Mu:Ε:=(B2 16).map λi=>((i:Nat):Int)
theorem yR:Mu.length=16:=by decide
theorem Cp{a:Type}{xs:List a}{z:Int}{j:Nat}{v:a}(e:z=(j:Int))(h:xs[j]? =↑v):ZQ xs z=↑v:=by rw[e];exact zI h
theorem jK{n j:Nat}{z:Int}(e:z=(j:Int))(h:j<n):cY n z=↑j:=by rw[e];exact rE h
theorem nW{z:Int}(h:z∈Mu):0<=z/\z<16:=by
 let#[i,hi,e]:=Ju.mp h
 have:=Ih.mp hi
 lia
end L3
namespace L3
open PySem PySem.Spec PyProof.Rows L2
open Sem (wp)
section
theorem tz{x:Γ}{Q:Hu}(a:s.heap.IsTupleIter it t i)(h:s.heap.IsTuple t its)(hx:its[i]? =↑x)
  (g:∀h',h'.IsTupleIter it t (i+1)->Ψ.SameBut it s.heap h'->Q x {s with heap:=h'}):ε (model prog w) A (γ.SmallTypes.nextOf (-it)) Q E s:=by
 let#[o,d,j,c]:=id a;let#[l,f,_,m,e]:=h;unfold γ.SmallTypes.nextOf;refine Ja (wpAny_callSpecial?_slot (name:=Str.ofString "__next__") a.typeIs LD
  (J0 LD a.typeIs F.entry_tuple_iterator_next ?_ (F.args_tuple_iterator_next_1 _)))
 show ε _ _ (field (-it) 0 >>= _) _ _ s
 refine Ja (JK d c (x:= .ref t) Z ?_)
 show ε _ _ (if(Γ.ref t==Γ.none)=true then _ else _) _ _ s
 rw[Jb (show¬((Γ.ref t==Γ.none)=true)from JB)]
 show ε _ _ (field (-it) 1 >>= _) _ _ s
 refine Ja (JK d c (x:= .int i 0) Z ?_)
 show ε _ _ (seqItems? (-t) >>= _) _ _ s
 refine Ja (GQ f e ?_)
 simp only[GD,hx];refine Ja (Ld d c (by simp) (Je #[x,Z,Je (g _ ?_ (IR ..))]))
 exact#[_,LB _ d (LU (Le c _)),(Obj.cls_mapFields ..).trans j,by
  rw[Le c];simp [rawInt]]
theorem jR(j:A.handled=none)(c:s.heap.IsTupleIter it t i)(l:s.heap.IsTuple t its)(hx:its[i]? =none)
  (n:∀h' e,Ψ.ExtBut it s.heap h'->(∃o,h'.get? e=↑o/\o.cls= .type "StopIteration")->E (-e) {s with heap:=h'}):
  ε (model prog w) A (γ.SmallTypes.nextOf (-it)) Q E s:=by
 let#[o,h,q,g]:=id c;let#[p,f,_,r,d]:=l;unfold γ.SmallTypes.nextOf;refine Ja (wpAny_callSpecial?_slot (name:=Str.ofString "__next__") c.typeIs LD
  (J0 LD c.typeIs F.entry_tuple_iterator_next ?_ (F.args_tuple_iterator_next_1 _)))
 show ε _ _ (field (-it) 0 >>= _) _ _ s
 refine Ja (JK h g (x:= .ref t) Z ?_)
 show ε _ _ (if(Γ.ref t==Γ.none)=true then _ else _) _ _ s
 rw[Jb (show¬((Γ.ref t==Γ.none)=true)from JB)]
 show ε _ _ (field (-it) 1 >>= _) _ _ s
 refine Ja (JK h g (x:= .int i 0) Z ?_)
 show ε _ _ (seqItems? (-t) >>= _) _ _ s
 refine Ja (GQ f d ?_)
 simp only[GD,hx];refine Ja (J4 (Ja (Ld h g (by simp) ?_)))
 show ε _ _ (newExc (.type "StopIteration") [] >>= _) _ _ _
 refine Ja ?_
 simp only[newExc,newTuple];refine Ja (F0 ?_ (by size_fits))
 refine Ja (m:=firstArgMember _ _) (GR (a:=Γ.none) (by first|rfl|(simp only[firstArgMember];rfl)) ?_)
 refine F0 ?_ (by size_fits)
 simp only[raiseNew];refine Ja (wpAny_handled ?_)
 first|rw[show A.in1.handled=none from j]|rw[j]
 refine Ja (Je (wpAny_throw ?_))
 exact n _ _ (((IR ..).extBut.push _).push _) #[_,Jr _ Z,Z]
end
theorem iw{A:Around}(g:A.handled=none)(it t:Δ)(d:t≠it)(its:Array Γ):
  Draws prog w A it [it,t] its.size (λi v=>its[i]? =↑v) (λi h=>h.IsTupleIter it t i/\h.IsTuple t its) where
 live:=λ_ _ st=>let⟨o,ho,_⟩:=st.1;#[o,ho]
 frame:=λ_ _ _ st hk=>#[st.1.at λo e=>hk it (by simp) o e,let⟨o,e,r⟩:=st.2;#[o,hk t (by simp) o e,r]]
 item:=λi s Q E hi st f=>by
  refine tz st.1 st.2 (x:=its[i]) (by simp [hi]) λh' c a=>?_
  exact f _ h' s.toks (by simp [hi]) #[c,let⟨o,e,r⟩:=st.2;#[o,a.extBut _ _ d e,r]] a
 done:=λs Q E st j=>jR g st.1 st.2 (by simp) j
open AutoSeq1 (wpAny_loadPart')in
theorem oG(l:Δ)(items:Array Γ)(n:Nat)(e:Χ)(sl:Array Ο):
  Meets (γ.«enumerate.__new__» #[[.type "enumerate",-l],[]]) (λ_ R s=>s.heap.get? l=some {cls:= .type "tuple",dict:=e,data:= .seq items n,slots:=sl}/\
   R (.ok (.ret (.ref (s.heap.push {cls:= .type "tuple_iterator",data:= .fields (B1 [-l,.int 0 0])}).objs.size)))
    {s with heap:=(s.heap.push {cls:= .type "tuple_iterator",data:= .fields (B1 [-l,.int 0 0])}).push {cls:= .type "enumerate",data:= .fields (B1 [.none,.bool false,-s.heap.objs.size,rawInt 0,.none,.none])}}):=
 .of_wp λprog w A R s h=>by
  let#[m,g,d,tk,j]:=s;let#[a,h]:=h
  have i:=sub_enumerate;have f:Ψ.IsTuple (Θ.heap #[m,g,d,tk,j]) l items:=#[_,a,Z,n,Z]
  wp_walk using Lf a
  refine wpAny_stack_any λst=>Je ?_
  split
  .rename_i c _ _ _ _ _
   cases(c==Γ.type "enumerate")
   .wp_walk using Lf a,Il f
    exact#[0,h]
   .wp_walk using Lf a,Il f
    exact#[0,h]
  .wp_walk using Lf a,Il f
   exact#[0,h]
section
theorem tY{Q:Hu}(q:s.heap.IsTuple l items)
  (h:∀h',IsEnum h' (s.heap.objs.size+1) s.heap.objs.size 0 .none->h'.IsTupleIter s.heap.objs.size l 0->(∀b o,s.heap.get? b=↑o->h'.get? b=↑o)->Q (.ref (s.heap.objs.size+1)) {s with heap:=h'}):
  ε (model prog w) A (call (.type "enumerate") [-l]) Q E s:=by
 let#[#[c,e,m,p],j,f,n,d]:=q
 replace f:c= .type "tuple":=f
 replace d:m= .seq items n:=d
 subst f d;refine callType_new F.called_enumerate ⋯ (F.typeCall_enumerate_1 _) (F.newCall_enumerate_1 _) (λa=>F.args_object_init_2 a _) F.entry_enumerate_new
  (oG l items n e p) #[j,?_]
 have i:(s.heap.push {cls:= .type "tuple_iterator",data:= .fields (B1 [-l,.int 0 0])}).objs.size=s.heap.objs.size+1:=J9 ..
 show _/\_
 rw[i];have g:IsEnum ((s.heap.push {cls:= .type "tuple_iterator",data:= .fields (B1 [-l,.int 0 0])}).push
   {cls:= .type "enumerate",data:= .fields (B1 [.none,.bool false,-s.heap.objs.size,rawInt 0,.none,.none])}) (s.heap.objs.size+1) s.heap.objs.size 0 .none:=by
  have:=Jr (s.heap.push {cls:= .type "tuple_iterator",data:= .fields (B1 [-l,.int 0 0])})
   (o:={cls:= .type "enumerate",data:= .fields (B1 [.none,.bool false,-s.heap.objs.size,rawInt 0,.none,.none])}) Z
  rw[i]at this;exact this
 exact#[#[_,g,Z],h _ g #[_,Jh _ (Jr _ Z),7] λb o x=>Jh _ (Jh _ x)]
end
noncomputable def nB(K:ι)(a:Δ):It:=
 #[λi H=>∃xs x,HP K H a xs/\xs[i]? =↑x,λi H x H'=>∃p v,H p=none/\x= .ref p/\(∀xs,HP K H a xs->xs[i]? =↑v)/\H'=HG H p (.tup [.int i,v]),λi H=>∃xs,HP K H a xs/\xs.length<=i]
theorem tw{K:ι}{x1}(a e it:Δ)(t:e≠it):
  Na P w K (.Tuple G x1 pos) (nB K a) [e,it] e (λi h=>(∃d,IsEnum h e it i d)/\h.IsTupleIter it a i) where
 mem:=by simp
 obj:=λi h st b r=>by
  let#[#[d,j],#[o,l,R,hd]]:=st;rcases Jp.mp r with z|z
  .subst z
   refine#[_,j,λv z=>?_]
   have z':Data.fields _=Data.cell v:=z
   cases z'
  .rw[Jm.mp z]
   exact#[o,l,λv z=>by rw[hd]at z;cases z]
 keep:=λi h h' st k=>#[let⟨d,j⟩:=st.1;#[d,k e (by simp) _ j],st.2.at λo q=>k it (by simp) o q]
 item:=by
  intro X hP hw hK R i pins s σ H E I O st U;subst hP hw hK;let#[xs,x,Q,hx]:=U;let#[its,rv,p,hz]:=I.tuple Q;let#[u,hu,ru]:=rv.get hx;let#[#[d,j],g]:=st;have a0:a≠e:=λz=>by
   subst z;let#[o,l,c,_]:=p;rw[j]at l;cases l;exact absurd (show Γ.type "enumerate"=Γ.type "tuple" from c) ⋯
  have L:a≠it:=λz=>by
   subst z;let#[o,l,c,_]:=p;let#[o',n,m,_]:=g;rw[l]at n;cases n;rw[c]at m;exact absurd m ⋯
  have Y:i<its.toArray.size:=by
   have:=(Jw.mp hu).1
   simpa using this
  refine wpAny_pyNext_enum_itemD (iw (A:=X.A.in1) (I.ok.hd R) it a L its.toArray) j #[g,p] Y t (by simp [t,Ne.symm a0]) λv h' tk hv l ⟨C,_⟩ ht a2 hk=>#[0,?_]
  have ev:v=u:=by
   have M:its[i]? =↑v:=by simpa using hv
   rw[hu]at M;exact(Jx M).symm
  subst ev;refine wpAny_letOwnedTupleGo_enum l λW B f=>?_
  have D:e<s.heap.objs.size:=Jk j
  have N:it<s.heap.objs.size:=by let#[_,y,_]:=g;exact Jk y
  exists .ref s.heap.objs.size,HG H s.heap.objs.size (.tup [.int i,x]),?_,Z,#[_,x,I.hok.fresh (Jd _),Z,λys hy=>by rw[I.tuple_inj hy Q];exact hx,Z],#[#[_,by simpa using B],?_]
  .show L2.HH X pins σ _ {s with heap:=W,toks:=tk+1}
   refine fG (s:=s) (its:=[.int i tk,v]) I (ch:=[e,it]) (λb o r q=>?_) O (λb r=>?_) (Jd _) (by show 2<=ζ;decide) (.cons #[0] (.cons ru .nil)) ?_
   .have J:b≠e:=λz=>r (by simp [z])
    have S:b≠it:=λz=>r (by simp [z])
    exact(f.2 b J).trans (hk b o J S q)
   .rcases Jp.mp r with z|z
    .subst z;exact#[_,B]
    .rw[Jm.mp z]
     let#[o,y,_]:=C
     exact#[o,(f.2 it (Ne.symm t)).trans y]
   .exact#[_,(f.2 _ (JT D)).trans ht,17]
  .exact C.extBut f.extBut (Ne.symm t)
  .intro b r
   rw[qh]
   .exact(O b r).1
   .rcases Jp.mp r with z|z
    .subst z;exact Jq D
    .rw[Jm.mp z];exact Jq N
 done:=by
  intro X hP hw hK R i pins s σ H E I O st U;subst hP hw hK;let#[xs,Q,hx]:=U;let#[its,rv,p,hz]:=I.tuple Q;let#[#[d,j],g]:=st;let#[f0,f1,f2,f3,f4,f5]:=O it (by simp)
  have hl:=rv.length;have L:a≠it:=λz=>by
   subst z;let#[o,l,c,_]:=p;let#[o',n,m,_]:=g;rw[l]at n;cases n;rw[c]at m;exact absurd m ⋯
  unfold pyNext;have hT:s.TypeIs (-e) "enumerate":=#[_,j,Z]
  refine Ja (Ic (wpAny_callSpecial?_slot (name:=Str.ofString "__next__") hT F.slot_enumerate_next
   (J0 F.slot_enumerate_next hT F.entry_enumerate_next ?_ (F.args_enumerate_next_1 _))))
  show ε _ _ (field (-e) 2 >>= _) _ _ _
  refine Ja (JK j Z (x:= .ref it) Z ?_)
  refine Ja (jR (I.ok.hd R) g p (by simp;lia) λh' ex eb a1=>?_)
  let#[o,l,c]:=a1;refine Ja (IS (T:="StopIteration") (b:=true) #[o,l,c] LF ?_)
  exact Je #[Z,I.turned (t':=s.toks) (λb o r e=>eb b o r e) f0 f1 f3 f4 f5]
 self:=λ_ _ _ _ _ st h=>by
  let#[#[d,j],_]:=st;exact Ln j h
section
noncomputable def vJ(K:ι)(ta:TA):TI:=λσ H R=>ta σ H λc H1=>∃a,c=[-a]/\((∃xs,HK K H1 a xs)/\R (rM K a) H1\/(∃xs,HP K H1 a xs)/\R (nB K a) H1)
theorem wZ{a:Φ}{p:Pos}{x1}(hg:Gl X "enumerate")(hm:X.mg "enumerate"=none)(ha:PA X [a] ta)(hs:θ [a] X.env=[(false,eval a X.env)]:=by rfl):
  PI X (.Tuple g x1 m) (.Call (.Name "enumerate" p) [a] [] pos) (vJ X.K ta):=by
 intro pins s σ H R I h;refine Call_ (Zh I hg hm boot_enumerate (IZ (qB (ha pos pins s σ H _ I h) λD c w=>?_) hs Z))
 let#[C,H1,f,x,q1]:=w;let#[l,e,q1]:=q1;subst e;let#[u,rfl,A]:=x.one;cases A;have o:∀b∈[c.heap.objs.size+1,c.heap.objs.size],Zp X pins H1 b:=λb y=>by
  have n:c.heap.objs.size<=b:=by
   rcases Jp.mp y with z|z
   .rw[z];exact GN _
   .rw[Jm.mp z];exact Jd _
  exact f.fpOk n (f.hok.fresh n)
 rcases q1 with⟨⟨xs,r⟩,q⟩|⟨⟨xs,r⟩,q⟩
 .let#[j,B,pl,v]:=f.list r
  refine call_enumerate_list pl.isList λh' i d t hk=>Ln i ?_
  exact#[c.heap.objs.size+1,[c.heap.objs.size+1,c.heap.objs.size],16,H1,Z,f.kept (t':=c.toks) hk,j2 l _ _ (JT (Ib _)),#[#[_,i],d],o,q]
 .let#[j,B,pl,v]:=f.tuple r
  refine tY (show c.heap.IsTuple l j.toArray from pl) λh' i d hk=>Ln i ?_
  exact#[c.heap.objs.size+1,[c.heap.objs.size+1,c.heap.objs.size],16,H1,Z,f.kept (t':=c.toks) hk,tw l _ _ (JT (Ib _)),#[#[_,i],d],o,q]
theorem uR{K:ι}{xs:Α}{g:TG}{tb:TS}{D:MF}{σ:L2.St}{H:Hp}(Pv:Nat->L2.St->Hp->Prop)(l:Pv 0 σ H)(hl:∀i σ H,i<=xs.length->Pv i σ H->HP K H a xs)
  (hs:∀i x σ H p,xs[i]? =↑x->Pv i σ H->H p=none->g (-p) σ (HG H p (.tup [.int i,x])) λc h=>tb {D with nx:=Pv (i+1),ct:=Pv (i+1),bk:=D.nx} c h)(hd:∀σ H,Pv xs.length σ H->D.nx σ H):
  ∃W:Nat->Nat->L2.St->Hp->Prop,(∃m,W 0 m σ H)/\∀i m σ H,W i m σ H->
   ((nB K a).stop i H/\D.nx σ H)\/((nB K a).go i H/\∃N:L2.St->Hp->Prop,(∀d H',N d H'->∃j,j<m/\W (i+1) j d H')/\∀x H',(nB K a).yld i H x H'->g x σ H' λc h=>tb {D with nx:=N,ct:=N,bk:=D.nx} c h):=by
 exists λi m σ H=>m=xs.length-i/\i<=xs.length/\Pv i σ H,#[xs.length,by simp,JH _,l]
 rintro i m σ H ⟨rfl,hi,p⟩
 have q:=hl i σ H hi p
 by_cases f:i<xs.length
 .refine .inr #[#[xs,xs[i],q,by simp [f]],Pv (i+1),λd H' n=>#[xs.length-(i+1),by lia,Z,f,n],λx H' y=>?_]
  let#[s,v,r,rfl,o,rfl]:=y;exact hs i v σ H s (o xs q) p r
 .have e:i=xs.length:=by lia
  subst e;exact .inl #[#[xs,q,Jd _],hd σ H p]
end
structure Ny(z TI TO i1 i2:Δ)(f1 f2:Ι):Prop where
 TIz:TI≠z
 TOz:TO≠z
 i1z:i1≠z
 i2z:i2≠z
 TITO:TI≠TO
 TIi1:TI≠i1
 TIi2:TI≠i2
 TOi1:TO≠i1
 TOi2:TO≠i2
 i12:i1≠i2
 z1:z∉f1
 z2:z∉f2
 t1:TO∉f1
 t2:TO∉f2
 x1:i2∉f1
 x2:i1∉f2
section
variable{TI TO:Δ}{n1 n2 k:Nat}{P1 P2:Nat->Γ->Prop}{S1 S2:Nat->Ψ->Prop}{b:Γ}
theorem vI{Q:Hu}(D1:Draws prog w A i1 f1 n1 P1 S1)(D2:Draws prog w A i2 f2 n2 P2 S2)(f:Ny z TI TO i1 i2 f1 f2)
  (X:IsZip s.heap z TI TO .none)(a3:IsPair s.heap TI (-i1) (-i2))(a2:IsPair s.heap TO a b)(q1:S1 k s.heap)(q2:S2 k s.heap)(k1:k<n1)(k2:k<n2)
  (hQ:∀x y h' tk,P1 k x->P2 k y->IsZip h' z TI TO (rawInt s.heap.objs.size)->IsPair h' TO x y->S1 (k+1) h'->S2 (k+1) h'->IsPair h' s.heap.objs.size x y->
   (∀c o,c≠z->c≠TO->c≠i1->c≠i2->s.heap.get? c=↑o->h'.get? c=↑o)->Q (-s.heap.objs.size) {s with heap:=h',toks:=tk}):
  ε (model prog w) A (γ.«zip.__next__» #[[-z],[]]) (λa6 s'=>∃v,a6= .done (.ret v)/\Q v s') E s:=by
 let#[hp,g,d,t0,os]:=s
 show ε _ _ (field (-z) 2 >>= _) _ _ _
 refine Ja (JK X Z (x:= .bool false) Z ?_)
 show ε _ _ (field (-z) 3 >>= _) _ _ _
 refine Ja (JK X Z (x:= .ref TI) Z ?_)
 refine Ja (GQ a3 Z ?_)
 show ε _ _ (γ.SmallTypes.ownedTupleIsFree (-z) >>= _) _ _ _
 refine Ja ?_
 unfold γ.SmallTypes.ownedTupleIsFree;refine Ja (JK X Z (x:= .none) Z (Je ?_))
 simp only[JW];refine Ja (J4 ?_)
 refine Ja (JK X Z (x:= .ref TO) Z ?_)
 refine Ja (Ie X (by simp) λt D m=>?_)
 replace D:IsZip t z TI TO .ellipsis:=D
 replace m:Ψ.SameBut z hp t:=m
 refine Ja ?_
 simp only[Qd,RA,NK,OE];refine Ja (Ja (wpAny_onRaise ?_))
 show ε _ _ (γ.SmallTypes.nextOf (-i1) >>= _) _ _ _
 have b0:S1 k t:=D1.frame _ _ _ q1 λc C o e=>m.extBut c o (λy=>f.z1 (y▸C)) e
 refine Ja (D1.item k #[t,g,d,t0,os] _ _ k1 b0 λx I R p1 a5 n=>Je ?_)
 replace n:Ψ.SameBut i1 t I:=n
 have F:IsPair I TO a b:=n.extBut _ _ f.TOi1 (m.extBut _ _ f.TOz a2)
 refine Ja (GQ F Z ?_)
 refine Ja (wpAny_updateSeq_pair F λu r i=>?_)
 replace r:IsPair u TO x b:=r
 replace i:Ψ.SameBut TO I u:=i
 refine Ja (wpAny_letGo (Je ?_))
 refine Ja (Ja (wpAny_onRaise ?_))
 show ε _ _ (γ.SmallTypes.nextOf (-i2) >>= _) _ _ _
 have b1:S2 k u:=D2.frame _ _ _ q2 λc C o e=>i.extBut c o (λy=>f.t2 (y▸C)) (n.extBut c o (λy=>f.x2 (y▸C)) (m.extBut c o (λy=>f.z2 (y▸C)) e))
 refine Ja (D2.item k #[u,g,d,R,os] _ _ k2 b1 λy J S p2 a1 l=>Je ?_)
 replace l:Ψ.SameBut i2 u J:=l
 have H:IsPair J TO x b:=l.extBut _ _ f.TOi2 r
 refine Ja (GQ H Z ?_)
 refine Ja (wpAny_updateSeq_pair H λh p j=>?_)
 replace p:IsPair h TO x y:=p
 replace j:Ψ.SameBut TO J h:=j
 refine Ja (wpAny_letGo (Je (Je ?_)))
 refine Ja (GQ p Z ?_)
 refine Ja (wpAny_newTuple ?_)
 have Y:h.objs.size=hp.objs.size:=by rw[j.1,l.1,i.1,n.1,m.1]
 have L:IsZip h z TI TO .ellipsis:=j.extBut _ _ f.TOz.symm (l.extBut _ _ f.i2z.symm (i.extBut _ _ f.TOz.symm (n.extBut _ _ f.i1z.symm D)))
 have W:∀c o,c≠z->c≠TO->c≠i1->c≠i2->hp.get? c=↑o->h.get? c=↑o:=λc o U c2 c3 c4 e=>
  j.extBut _ _ c2 (l.extBut _ _ c4 (i.extBut _ _ c2 (n.extBut _ _ c3 (m.extBut _ _ U e))))
 have b2:S1 (k+1) h:=D1.frame _ _ _ a5 λc C o e=>j.extBut c o (λy=>f.t1 (y▸C)) (l.extBut c o (λy=>f.x1 (y▸C)) (i.extBut c o (λy=>f.t1 (y▸C)) e))
 have a4:S2 (k+1) h:=D2.frame _ _ _ a1 λc C o e=>j.extBut c o (λy=>f.t2 (y▸C)) e
 have P:z<h.objs.size:=Jk L
 show ε _ _ (γ.SmallTypes.ownedTupleHandOut (-z) (-h.objs.size) >>= _) _ _ _
 refine Ja ?_
 unfold γ.SmallTypes.ownedTupleHandOut;have T:IsZip (h.push {cls:= .type "tuple",data:= .seq (B1 [x,y])}) z TI TO .ellipsis:=Jh _ L
 refine Ja (Ie T (by simp) λa0 B M=>?_)
 replace B:IsZip a0 z TI TO (rawInt h.objs.size):=B
 refine Ie B (by simp) λG q O=>?_
 replace q:IsZip G z TI TO (rawInt h.objs.size):=q
 have up:∀c o,c≠z->h.get? c=↑o->G.get? c=↑o:=λc o U e=>O.extBut _ _ U (M.extBut _ _ U (Jh _ e))
 have N:IsPair G h.objs.size x y:=O.extBut _ _ (JT P) (M.extBut _ _ (JT P) (Jr _ Z))
 rw[Y]at q N;refine Je #[0,?_]
 show Q (-h.objs.size) _
 rw[Y];exact hQ x y G S p1 p2 q (up _ _ f.TOz p) (D1.frame _ _ _ b2 λc C o e=>up c o (λy=>f.z1 (y▸C)) e) (D2.frame _ _ _ a4 λc C o e=>up c o (λy=>f.z2 (y▸C)) e) N λc o U c2 c3 c4 e=>up c o U (W c o U c2 c3 c4 e)
theorem yy{Q:Fin->Θ->Prop}(C:Draws prog w A i1 f1 n1 P1 S1)(a:Ny z TI TO i1 i2 f1 f2)
  (q:IsZip s.heap z TI TO .none)(u:IsPair s.heap TI (-i1) (-i2))(q1:S1 n1 s.heap)
  (I:∀h' e,(∀c o,c≠z->c≠i1->s.heap.get? c=↑o->h'.get? c=↑o)->(∃o,h'.get? e=↑o/\o.cls= .type "StopIteration")->E (-e) {s with heap:=h'}):
  ε (model prog w) A (γ.«zip.__next__» #[[-z],[]]) Q E s:=by
 let#[L,g,d,J,H]:=s
 show ε _ _ (field (-z) 2 >>= _) _ _ _
 refine Ja (JK q Z (x:= .bool false) Z ?_)
 show ε _ _ (field (-z) 3 >>= _) _ _ _
 refine Ja (JK q Z (x:= .ref TI) Z ?_)
 refine Ja (GQ u Z ?_)
 show ε _ _ (γ.SmallTypes.ownedTupleIsFree (-z) >>= _) _ _ _
 refine Ja ?_
 unfold γ.SmallTypes.ownedTupleIsFree;refine Ja (JK q Z (x:= .none) Z (Je ?_))
 simp only[JW];refine Ja (J4 ?_)
 refine Ja (JK q Z (x:= .ref TO) Z ?_)
 refine Ja (Ie q (by simp) λi j f=>?_)
 replace j:IsZip i z TI TO .ellipsis:=j
 replace f:Ψ.SameBut z L i:=f
 refine Ja ?_
 simp only[Qd,RA,NK,OE];refine Ja (Ja (wpAny_onRaise ?_))
 show ε _ _ (γ.SmallTypes.nextOf (-i1) >>= _) _ _ _
 have B:S1 n1 i:=C.frame _ _ _ q1 λc N o e=>f.extBut c o (λy=>a.z1 (y▸N)) e
 refine Ja (C.done #[i,g,d,J,H] _ _ B λn e h F=>?_)
 let#[M,p,t]:=F
 replace h:Ψ.ExtBut i1 i n:=h
 have m:IsZip n z TI TO .ellipsis:=h _ _ a.i1z.symm j
 have v:e≠z:=λx=>by subst x;rw[m]at p;cases p;simp at t
 refine Ie m (by simp) λr _ l=>I r e (λc o D G x=>l.extBut _ _ D (h _ _ G (f.extBut _ _ D x))) #[M,l.extBut _ _ v p,t]
end
noncomputable abbrev Bj(h:Ψ)(l1:Δ):Ψ:=h.push {cls:= .type "tuple_iterator",data:= .fields (B1 [-l1,.int 0 0])}
noncomputable abbrev Bi(h:Ψ)(l1 l2:Δ):Ψ:=(Bj h l1).push {cls:= .type "tuple_iterator",data:= .fields (B1 [-l2,.int 0 0])}
noncomputable abbrev AT(h:Ψ)(l1 l2:Δ):Ψ:=(Bi h l1 l2).push {cls:= .type "tuple",data:= .seq (B1 [-h.objs.size,.ref (Bj h l1).objs.size])}
noncomputable abbrev Bm(h:Ψ)(l1 l2:Δ):Ψ:=(AT h l1 l2).push {cls:= .type "tuple",data:= .seq (B1 [.none,.none])}
noncomputable abbrev rY(h:Ψ)(l1 l2:Δ):Ψ:=(Bm h l1 l2).push {cls:= .type "zip",data:= .fields (B1 [.none,.bool false,.bool false,.ref (Bi h l1 l2).objs.size,.ref (AT h l1 l2).objs.size])}
theorem tV(a c:Δ)(xs ys:Array Γ):
  Meets (γ.«zip.__new__» #[[.type "zip",-a,-c],[]]) (λ_ R s=>s.heap.IsTuple a xs/\s.heap.IsTuple c ys/\
   R (.ok (.ret (.ref (Bm s.heap a c).objs.size))) {s with heap:=rY s.heap a c}):=
 .of_wp λprog w A R s h=>by
  let#[p,g,d,tk,n]:=s;let#[i,l,h]:=h
  have m:=sub_zip;have f:Ψ.IsTuple (Θ.heap #[p,g,d,tk,n]) a xs:=i
  have j:Ψ.IsTuple (Θ.heap #[p.push {cls:= .type "tuple_iterator",data:= .fields (B1 [-a,.int 0 0])},g,d,tk,n]) c ys:=let⟨o,e,r⟩:=l;#[o,Jh _ e,r]
  wp_walk using Il f,Il j
  exact#[0,h]
section
theorem wf{Q:Hu}(l:s.heap.IsTuple a xs)(m:s.heap.IsTuple d ys)
  (h:∀h',IsZip h' (s.heap.objs.size+4) (s.heap.objs.size+2) (s.heap.objs.size+3) .none->IsPair h' (s.heap.objs.size+2) (-s.heap.objs.size) (.ref (s.heap.objs.size+1))->
   IsPair h' (s.heap.objs.size+3) .none .none->h'.IsTupleIter s.heap.objs.size a 0->h'.IsTupleIter (s.heap.objs.size+1) d 0->
   (∀c o,s.heap.get? c=↑o->h'.get? c=↑o)->Q (.ref (s.heap.objs.size+4)) {s with heap:=h'}):
  ε (model prog w) A (call (.type "zip") [-a,-d]) Q E s:=by
 refine callType_new F.called_zip ⋯ (F.typeCall_zip_2 _ _) (F.newCall_zip_2 _ _) (λi=>F.args_object_init_3 i _ _) F.entry_zip_new
  (tV a d xs ys) #[l,m,?_]
 have e:(Bj s.heap a).objs.size=s.heap.objs.size+1:=J9 ..
 have f:(Bi s.heap a d).objs.size=s.heap.objs.size+2:=by rw[J9,e]
 have j:(AT s.heap a d).objs.size=s.heap.objs.size+3:=by rw[J9,f]
 have q:(Bm s.heap a d).objs.size=s.heap.objs.size+4:=by rw[J9,j]
 have g:(rY s.heap a d).get? (Bm s.heap a d).objs.size=↑_:=Jr _ Z
 have n:(rY s.heap a d).get? (AT s.heap a d).objs.size=↑_:=Jh _ (Jr _ Z)
 have p:(rY s.heap a d).get? (Bi s.heap a d).objs.size=↑_:=Jh _ (Jh _ (Jr _ Z))
 have r:(rY s.heap a d).get? (Bj s.heap a).objs.size=↑_:=Jh _ (Jh _ (Jh _ (Jr _ Z)))
 have t:(rY s.heap a d).get? s.heap.objs.size=↑_:=Jh _ (Jh _ (Jh _ (Jh _ (Jr _ Z))))
 show _/\_
 rw[f,j,q]at g;rw[e,f]at p;rw[j]at n;rw[e]at r;rw[q]
 exact#[#[_,g,Z],h _ g p n #[_,t,7] #[_,r,7] λc o x=>
  Jh _ (Jh _ (Jh _ (Jh _ (Jh _ x))))]
theorem B3{h':Ψ}{t':Nat}{ch:Ι}(I:L2.HH X pins σ H s)(k:∀b o,b∉ch->s.heap.get? b=↑o->h'.get? b=↑o)(a:∀b∈ch,Zp X pins H b):L2.HH X pins σ H {s with heap:=h',toks:=t'}:=by
 have f:∀b u,H b=↑u->b∉ch:=λb u e z=>by rw[(a b z).1]at e;cases e
 refine I.step (g':=s.gens) (d':=s.drawn) (ch:=ch) (λb g=>#[(a b g).2.2.2.1,(a b g).2.1,(a b g).2.2.2.2.1,(a b g).2.2.2.2.2]) (λb o _ _ d e _=>k b o d e) (λb o _ _ d e _=>#[o.slots,k b o d e])
  (λ_ _ _ _ n=>n) (λb o d e=>#[o,k b o d e]) (λ_ _ e=>e) (λ_ _ _ e=>e) (λb ps e=>#[(B1 []),by rw[e];simp]) (λm i=>?_) (λb u e=>?_) I.bare
 .let#[o,es,h,j,r]:=i
  exact#[o,es,h,k _ o (λz=>(a _ z).2.1 Z) j,r]
 .refine(I.hok b u e).stay (λc v d q=>k c v ?_ q) (λ_ q=>q) λ_ _ q=>q
  rcases d with z|z
  .rw[z];exact f b u e
  .exact f c _ z
theorem sM{H:Hp}{b:Δ}(h:Rd H a u)(h':H b=none):a≠b:=by
 rcases h with h|⟨o,h⟩
 .exact qr h h'
 .exact qr h h'
noncomputable def Dj(a c:Δ):It:=
  #[λi H=>∃xs ys x y,Rd H a (.tup xs)/\Rd H c (.tup ys)/\xs[i]? =↑x/\ys[i]? =↑y,
   λi H v H'=>∃p x y,H p=none/\v= .ref p/\(∀xs,Rd H a (.tup xs)->xs[i]? =↑x)/\(∀ys,Rd H c (.tup ys)->ys[i]? =↑y)/\H'=HG H p (.tup [x,y]),
   λi H=>∃xs,Rd H a (.tup xs)/\xs.length=i]
theorem xi{w:Ω}{K:ι}{x1}(J R z TI TO i1 i2:Δ)(d1:TI≠z)(d2:TO≠z)(d3:i1≠z)(d4:i2≠z)(d5:TI≠TO)(d6:TI≠i1)(d7:TI≠i2)(d8:TO≠i1)(d9:TO≠i2)(m:i1≠i2):
  Na P w K (.Tuple S x1 pos) (Dj J R) [z,TI,TO,i1,i2] z (λi h=>IsZip h z TI TO .none/\IsPair h TI (-i1) (-i2)/\(∃a b,IsPair h TO a b)/\h.IsTupleIter i1 J i/\h.IsTupleIter i2 R i) where
 mem:=by simp
 obj:=λi h st b f=>by
  let#[G,j,#[a,b',l],#[o1,c1,_,a6],#[o2,b6,_,b4]]:=st;simp only[Jp,JE,JF]at f;rcases f with rfl|rfl|rfl|rfl|rfl
  .exact#[_,G,λv y=>by have y':Data.fields _=Data.cell v:=y;cases y']
  .exact#[_,j,λv y=>by have y':Data.seq _ _=Data.cell v:=y;cases y']
  .exact#[_,l,λv y=>by have y':Data.seq _ _=Data.cell v:=y;cases y']
  .exact#[_,c1,λv y=>by rw[a6]at y;cases y]
  .exact#[_,b6,λv y=>by rw[b4]at y;cases y]
 keep:=λi h h' st k=>by
  let#[G,j,#[a,b',l],h1,W]:=st
  exact#[k z (by simp) _ G,k TI (by simp) _ j,#[a,b',k TO (by simp) _ l],h1.at λo e=>k i1 (by simp) o e,W.at λo e=>k i2 (by simp) o e]
 item:=by
  intro X hP hw hK n i pins s σ H E I N st hg;subst hP hw hK;let#[xs,ys,x,y,r,O,hx,hy]:=hg;let#[its,rv,p,b7]:=I.tuple (.inl r)
  let#[D,b5,p2,c2]:=I.tuple (.inl O)
  let#[u,hu,ru]:=rv.get hx;let#[u2,a5,b0]:=b5.get hy;let#[G,j,#[a,b',l],h1,W]:=st;have n1:∀c∈[z,TI,TO,i1,i2],J≠c:=λc n=>sM r (N c n).1
  have n2:∀c∈[z,TI,TO,i1,i2],R≠c:=λc n=>sM O (N c n).1
  have d:Ny z TI TO i1 i2 [i1,J] [i2,R]:=#[d1,d2,d3,d4,d5,d6,d7,d8,d9,m,by simp [Ne.symm d3,Ne.symm (n1 z (by simp))],by simp [Ne.symm d4,Ne.symm (n2 z (by simp))],by simp [d8,Ne.symm (n1 TO (by simp))],by simp [d9,Ne.symm (n2 TO (by simp))],by simp [Ne.symm m,Ne.symm (n1 i2 (by simp))],by simp [m,Ne.symm (n2 i1 (by simp))]]
  have b3:i<its.toArray.size:=by have:=(Jw.mp hu).1;simpa using this
  have a3:i<D.toArray.size:=by have:=(Jw.mp a5).1;simpa using this
  have Y:s.TypeIs (-z) "zip":=#[_,G,Z]
  unfold pyNext;refine Ja (Ic (wpAny_callSpecial?_slot (name:=Str.ofString "__next__") Y LG
   (J0 LG Y F.entry_zip_next
    (vI (iw (A:=X.A.in1) (I.ok.hd n) i1 J (n1 i1 (by simp)) its.toArray) (iw (A:=X.A.in1) (I.ok.hd n) i2 R (n2 i2 (by simp)) D.toArray) d G j l #[h1,p] #[W,p2] b3 a3
     λv v2 h' tk hv c0 ho a4 q1 q2 ht hk=>Je #[0,?_]) (F.args_zip_next_1 _))))
  have ev:v=u:=by
   have t:its[i]? =↑v:=by simpa using hv
   rw[hu]at t;exact(Jx t).symm
  have b2:v2=u2:=by
   have t:D[i]? =↑v2:=by simpa using c0
   rw[a5]at t;exact(Jx t).symm
  subst ev b2;refine wpAny_letOwnedTupleGo_zip ho λB M g=>?_
  have lt:∀c∈[z,TI,TO,i1,i2],c<s.heap.objs.size:=λc n=>by
   simp only[Jp,JE,JF]at n;rcases n with rfl|rfl|rfl|rfl|rfl
   .exact Jk G
   .exact Jk j
   .exact Jk l
   .let#[_,e,_]:=h1;exact Jk e
   .let#[_,e,_]:=W;exact Jk e
  have L:IsPair B TI (-i1) (-i2):=g.extBut _ _ d1 (hk _ _ d1 d5 d6 d7 j)
  have C:IsPair B TO v v2:=g.extBut _ _ d2 a4
  have a0:B.IsTupleIter i1 J (i+1):=q1.1.extBut g.extBut d3
  have U:B.IsTupleIter i2 R (i+1):=q2.1.extBut g.extBut d4
  exists .ref s.heap.objs.size,HG H s.heap.objs.size (.tup [x,y]),?_,Z,#[_,x,y,I.hok.fresh (Jd _),Z,λzs Q=>by rw[I.tuple_inj (.inl Q) (.inl r)];exact hx,λzs Q=>by rw[I.tuple_inj (.inl Q) (.inl O)];exact hy,Z],#[M,L,#[16,C],a0,U]
  .show L2.HH X pins σ _ {s with heap:=B,toks:=tk}
   refine fG (s:=s) (its:=[v,v2]) I (ch:=[z,TI,TO,i1,i2]) (λb o f q=>?_) N (λb f=>?_) (Jd _) (by show 2<=ζ;decide) (.cons ru (.cons b0 .nil)) ?_
   .simp only[Jp,JE,JF,not_or]at f
    exact g.extBut b o f.1 (hk b o f.1 f.2.2.1 f.2.2.2.1 f.2.2.2.2 q)
   .simp only[Jp,JE,JF]at f
    rcases f with rfl|rfl|rfl|rfl|rfl
    .exact#[_,M]
    .exact#[_,L]
    .exact#[_,C]
    .let#[o,e,_]:=a0;exact#[o,e]
    .let#[o,e,_]:=U;exact#[o,e]
   .exact#[_,g.extBut _ _ (JT (lt z (by simp))) ht,17]
  .intro b f
   rw[qh (Jq (lt b f))]
   exact(N b f).1
 done:=by
  intro X hP hw hK n i pins s σ H E I N st hg;subst hP hw hK;let#[xs,r,hx]:=hg;let#[its,rv,p,b7]:=I.tuple (.inl r)
  let#[G,j,#[a,b',l],h1,W]:=st;have n1:∀c∈[z,TI,TO,i1,i2],J≠c:=λc n=>sM r (N c n).1
  have d:Ny z TI TO i1 i2 [i1,J] [i2]:=#[d1,d2,d3,d4,d5,d6,d7,d8,d9,m,by simp [Ne.symm d3,Ne.symm (n1 z (by simp))],by simp [Ne.symm d4],by simp [d8,Ne.symm (n1 TO (by simp))],by simp [d9],by simp [Ne.symm m,Ne.symm (n1 i2 (by simp))],by simp [m]]
  have hl:its.toArray.size=i:=by rw[Js,<- rv.length];exact hx
  have Y:s.TypeIs (-z) "zip":=#[_,G,Z]
  unfold pyNext;refine Ja (Ic (wpAny_callSpecial?_slot (name:=Str.ofString "__next__") Y LG
   (J0 LG Y F.entry_zip_next
    (yy (iw (A:=X.A.in1) (I.ok.hd n) i1 J (n1 i1 (by simp)) its.toArray) d G j #[by rw[hl];exact h1,p] λh' e hk he=>?_) (F.args_zip_next_1 _))))
  let#[o,ho,b1]:=he;refine Ja (IS (T:="StopIteration") (b:=true) #[o,ho,b1] LF ?_)
  refine Je #[Z,B3 (t':=s.toks) I (ch:=[z,i1]) (λb o f e=>?_) (λb f=>N b ?_)]
  .simp only[Jp,JE,JF,not_or]at f
   exact hk b o f.1 f.2 e
  .simp only[Jp,JE,JF]at f
   rcases f with rfl|rfl<;>simp
 self:=λ_ _ _ _ _ st h=>wpAny_pyIter_zip st.1 h
noncomputable def EA(ta:TA):TI:=λσ H R=>ta σ H λd H1=>∃a c xs ys,d=[-a,-c]/\Rd H1 a (.tup xs)/\Rd H1 c (.tup ys)/\R (Dj a c) H1
theorem Eu{a b:Φ}{p:Pos}{x1}(hg:Gl X "zip")(hm:X.mg "zip"=none)(ha:PA X [a,b] ta)(h1:Q8 a=true:=by rfl)(h2:Q8 b=true:=by rfl):
  PI X (.Tuple f x1 m) (.Call (.Name "zip" p) [a,b] [] pos) (EA ta):=by
 intro pins s σ H R I h;have g:θ [b] X.env=[(false,eval b X.env)]:=bA h2
 refine Call_ (Zh I hg hm boot_zip (IZ (qB (ha pos pins s σ H _ I h) λQ c F=>?_) (by rw[bA h1,g]) (by rw[g];rfl)))
 let#[P,H1,l,J,q1]:=F;let#[z,A,xs,ys,e,D,L,q]:=q1;subst e;let#[u,v,rfl,M,O]:=J.two;cases M;cases O;let#[t,C,G,w]:=l.tuple (.inl D)
 let#[r,N,p2,E]:=l.tuple (.inl L)
 have d:∀(n i j:Nat),i≠j->n+i≠n+j:=λn i j h=>by lia
 refine wf (show c.heap.IsTuple z t.toArray from G) (show c.heap.IsTuple A r.toArray from p2) λh' w y x h1 h2 hk=>wpAny_pyIter_zip w ?_
 refine#[c.heap.objs.size+4,[c.heap.objs.size+4,c.heap.objs.size+2,c.heap.objs.size+3,c.heap.objs.size,c.heap.objs.size+1],16,H1,Z,l.kept (t':=c.toks) hk,
  xi z A (c.heap.objs.size+4) (c.heap.objs.size+2) (c.heap.objs.size+3) c.heap.objs.size (c.heap.objs.size+1) (d _ 2 4 ⋯) (d _ 3 4 ⋯) (d _ 0 4 ⋯) (d _ 1 4 ⋯) (d _ 2 3 ⋯) (d _ 2 0 ⋯) (d _ 2 1 ⋯) (d _ 3 0 ⋯) (d _ 3 1 ⋯) (d _ 0 1 ⋯),#[w,y,#[16,x],h1,h2],λb B=>?_,q]
 have o:c.heap.objs.size<=b:=by
  simp only[Jp,JE,JF]at B;rcases B with rfl|rfl|rfl|rfl|rfl
  .exact JG _ 4
  .exact JG _ 2
  .exact JG _ 3
  .exact Jd _
  .exact JG _ 1
 exact l.fpOk o (l.hok.fresh o)
end
theorem yZ{K:ι}{te:TE}{H:Hp}{Q:VK}{xs ys:Α}(hl:xs.length=ys.length)(hn:xs.length<=ζ)(Pv:Nat->Α->Hp->Prop)(t:Pv 0 [] H)
  (hk:∀i a H,Pv i a H->Rd H n (.tup xs)/\Rd H l (.tup ys))
  (hs:∀i a H p x y,xs[i]? =↑x->ys[i]? =↑y->a.length=i->Pv i a H->H p=none->te (↑x::↑y::zV js σ) (HG H p (.tup [x,y])) λv g=>Pv (i+1) (a++[v]) g)
  (hd:∀a H,a.length=xs.length->Pv xs.length a H->∀p,H p=none->Q (-p) (HG H p (.lst a))):
  uf 2 js (mT K 2 (fB (QB 0) (fB (QB 1) sT))) te σ Q (Dj n l) H:=by
 exists λi m a j H=>m=xs.length-i/\i<=xs.length/\a.length=i/\Pv i a H/\∃o o',j=o::o'::zV js σ,#[xs.length,by simp,JH _,Z,t,none,none,Z]
 rintro i m a j H ⟨rfl,hi,c,p,o,o',rfl⟩
 let#[h,q]:=hk i a H p
 by_cases d:i<xs.length
 .have f:i<ys.length:=by lia
  refine .inr #[#[xs,ys,xs[i],ys[i],h,q,by simp [d],by simp [f]],by lia,λv H' y=>?_]
  let#[r,x,y,z,rfl,s,w,rfl]:=y;exists r,0,HP.of qc,8
  exact#[λv g=>Pv (i+1) (a++[v]) g,λv g u=>#[xs.length-(i+1),by lia,Z,d,by simp [c],u,5],hs i a _ r x y (s xs h) (w ys q) c p z]
 .have e:i=xs.length:=by lia
  subst e;exact .inl #[#[xs,h,Z],hd a H c p]
end L3
namespace L3
open PySem PySem.Spec PyProof.Rows L2 PySem.SeqAt
open Sem (wp)
open AutoSeq1 (wpAny_loadPart')
section
theorem Rd.same(s:HE H H')(h:Rd H a u):Rd H' a u:=by
 rcases h with h|⟨o,h⟩
 .exact .inl (s _ _ h)
 .exact .inr #[o,s _ _ h]
inductive OU (H:Hp):V->String->Prop where
 |int (i:Int):OU H (.int i) "int"
 |bl (b:Bool):OU H (.bl b) "bool"
 |tup {a:Δ} {xs:Α} (h:Rd H a (.tup xs)):OU H (-a) "tuple"
 |str (x:Str):OU H (.str x) "str"
 |non:OU H .non "NoneType"
 |lst {a:Δ} {xs:Α} (h:H a=↑(.lst xs)):OU H (-a) "list"
theorem sf(h:OU H x t):t∈je:=by cases h<;>simp
theorem si(K:ι){t:String}(f:t∈je):∀a:List String,(∀c∈a,c∈jt)->W.kitAny K (.type t) (a.map Γ.type)=↑(a.any (QD t))
 | [],_=>rfl
 |c::r,h=>by
  have e:=jm K t f c (h c JM);have i:=si K f r λd g=>h d (JS _ g)
  simp only[JC,W.kitAny,e,IK];cases QD t c with
  |true=>rfl
  |false=>simpa using i
theorem zM:zt X (.builtin "isinstance") (λxs H Q=>∃x c t,xs=[x,.ty c]/\OU H x t/\c∈jt/\Q (.bl (QD t c)) H):=by
 intro pins s σ H xs p Q I r h;let#[x,c,t,rfl,ty,j,q]:=h;let#[u,v,rfl,f,l]:=cL r
 cases(show v=Γ.type c from l)
 have e:=jm X.K t (sf ty) c j;have d:∀tk,EP X pins σ Q (.bool (QD t c)) {s with toks:=tk}:=λtk=>#[.bl _,H,I.tok tk,Z,q]
 cases ty with
 |int i=>let#[t,q]:=(show∃t,u=Γ.int i t from f);cases q;exact J3 W.kitx_int I.kIn True.intro e (λz=>nomatch z) d
 |bl b=>cases(show u=Γ.bool b from f);exact J3 W.kitx_bool I.kIn True.intro e (λz=>nomatch z) d
 | @tup a ys hr=>
  cases(show u=Γ.ref a from f)
  let#[g,_,#[o,h1,m,_],_]:=I.tuple (.inl hr)
  exact J3 W.kitx_tuple I.kIn #[o,h1,m] e (λz=>nomatch z) d
 |str x=>let#[t,q]:=(show∃t,u=Γ.str x t from f);cases q;exact J3 W.kitx_str I.kIn True.intro e (λz=>nomatch z) d
 |non=>cases(show u=Γ.none from f);exact J3 W.kitx_none I.kIn True.intro e (λz=>nomatch z) d
 | @lst a ys ea=>
  cases(show u=Γ.ref a from f)
  let#[_,_,n,_,h1]:=(show HN X.prog X.w H s.heap a (.lst ys)from I.hok a _ ea)
  exact J3 W.kitx_list I.kIn #[_,h1,Z] e (λz=>nomatch z) d
theorem oj:∀{a:List String} {us:Η},HL (a.map V.ty) us->us=a.map Γ.type
 | [],_,.nil=>rfl
 |c::a,_,.cons r t=>by
  cases(show _=Γ.type c from r)
  rw[oj t];rfl
theorem uM:zt X (.builtin "isinstance") (λxs H Q=>∃(x:V) (p:Δ) (l:List String) (t:String),xs=[x,-p]/\H p=↑(.tup (l.map V.ty))/\OU H x t/\(∀c∈l,c∈jt)/\Q (.bl (l.any (QD t))) H):=by
 intro pins s σ H xs L Q I r h;let#[x,p,l,t,rfl,G,ty,E,q]:=h;let#[u,v,rfl,j,D]:=cL r
 cases(show v=Γ.ref p from D)
 let#[y,w,#[#[C,M,B,J],m,g,n,f],_]:=I.tuple (HP.of G)
 replace g:C= .type "tuple":=g
 replace f:B= .seq y.toArray n:=f
 subst g f;have e:=si X.K (sf ty) l E;rw[<- oj w]at e;have d:∀tk,EP X pins σ Q (.bool (l.any (QD t))) {s with toks:=tk}:=λtk=>#[.bl _,H,I.tok tk,Z,q]
 cases ty with
 |int i=>let#[t,q]:=(show∃t,u=Γ.int i t from j);cases q;exact Lg W.kitx_int I.kIn True.intro m e (λz=>nomatch z) d
 |bl b=>cases(show u=Γ.bool b from j);exact Lg W.kitx_bool I.kIn True.intro m e (λz=>nomatch z) d
 | @tup a ys hr=>
  cases(show u=Γ.ref a from j)
  let#[A,_,#[o,h1,F,_],_]:=I.tuple (.inl hr)
  exact Lg W.kitx_tuple I.kIn #[o,h1,F] m e (λz=>nomatch z) d
 |str x=>let#[t,q]:=(show∃t,u=Γ.str x t from j);cases q;exact Lg W.kitx_str I.kIn True.intro m e (λz=>nomatch z) d
 |non=>cases(show u=Γ.none from j);exact Lg W.kitx_none I.kIn True.intro m e (λz=>nomatch z) d
 | @lst a ys ea=>
  cases(show u=Γ.ref a from j)
  let#[_,_,n,_,h1]:=(show HN X.prog X.w H s.heap a (.lst ys)from I.hok a _ ea)
  exact Lg W.kitx_list I.kIn #[_,h1,Z] m e (λz=>nomatch z) d
end
noncomputable def zD(t:Ε):Ε:=(B2 16).map λd=>((t.idxOf ((d:Nat):Int):Nat):Int)
theorem bj(t:Ε):(zD t).length=16:=by simp [zD]
section
variable{t:Ε}(p:t.Perm Mu)
include p
theorem uD:t.Nodup:=p.nodup_iff.mpr ⋯
theorem jw:t.length=16:=by rw[p.length_eq,yR]
theorem CV{d:Nat}(h:d<16):((d:Nat):Int)∈t:=p.mem_iff.mpr (Ju.mpr #[d,Ih.mpr h,Z])
theorem nT{i:Nat}(h:i<t.length):0<=t[i]/\t[i]<16:=nW (p.mem_iff.mp (Gz h))
theorem vF{i:Nat}(h:i<t.length):t.idxOf t[i]=i:=(uD p).idxOf_getElem i h
theorem Cc{d:Nat}(h:d<16):(zD t)[d]'(by rw[bj];exact h)=((t.idxOf ((d:Nat):Int):Nat):Int):=by simp [zD]
end
end L3
namespace L3
open PySem PySem.Spec L2
theorem bq:Oy X a vX:=#[vT]
theorem yO{a:Φ}{p:Pos}{x1}(hg:Gl X "enumerate")(hm:X.mg "enumerate"=none)(ha:QA X [a] ta)(hs:θ [a] X.env=[(false,eval a X.env)]:=by rfl):QI X (.Tuple c x1 d) (.Call (.Name "enumerate" p) [a] [] pos) (vJ X.K ta):=#[wZ (hg:=hg) (hm:=hm) (ha:=ha.h) (hs:=hs)]
theorem DB{a b:Φ}{p:Pos}{x1}(hg:Gl X "zip")(hm:X.mg "zip"=none)(ha:QA X [a,b] ta)(h1:Q8 a=true:=by rfl)(h2:Q8 b=true:=by rfl):QI X (.Tuple c x1 d) (.Call (.Name "zip" p) [a,b] [] pos) (EA ta):=#[Eu (hg:=hg) (hm:=hm) (ha:=ha.h) (h1:=h1) (h2:=h2)]
def Mn(H:Hp)(b:Δ)(c:Nat):Prop:=∃n m k:Int,H b=↑(jq n m k)/\0<=m/\m<4611686018427387904/\0<=k/\k<=c
structure Mj(b:Δ)(c:Nat)(H H':Hp):Prop where
 kp:∀a o,a≠b->H a=↑o->H' a=↑o
 bx:Mn H' b c
theorem Mn.mono{b:Δ}{d:Nat}(h:Mn H b c)(l:c<=d):Mn H b d:=by
 let#[n,m,k,e,f,g,a,i]:=h
 exact#[n,m,k,e,f,g,a,by lia]
theorem Mj.mono{b:Δ}{d:Nat}(h:Mj b c H H')(l:c<=d):Mj b d H H':=#[h.kp,h.bx.mono l]
theorem Mj.trans{b:Δ}(x:Mj b c H H1)(y:Mj b d H1 H2):Mj b d H H2:=#[λc o n e=>y.kp c o n (x.kp c o n e),y.bx]
theorem _root_.L2.HE.grc{b:Δ}(x:HE H H')(h:Mn H b c):Mj b c H H':=#[λc o _ e=>x c o e,let⟨n,m,k,e,r⟩:=h;#[n,m,k,x _ _ e,r]]
theorem Mj.same{b:Δ}(x:Mj b c H H1)(y:HE H1 H2):Mj b c H H2:=x.trans (y.grc x.bx)
theorem Qu{b:Δ}(hb:Mn H b c)(h:H l=none):l≠b:=λz=>by
 let#[_,_,_,e,_]:=hb;subst z;rw[e]at h;cases h
inductive Zv(vs:Α)(H:Hp)(Q:VK)(_:XK):Prop
 |mk (b:Δ)(many:Int)(c:Nat)(h1:vs=[-b,.int many])(h2:Mn H b c)(h3:c<1000000000)(h4:0<many)(h5:many<1073741824)(h6:∀r H',0<=r->r<many->Mj b (c+1) H H'->Q (.int r) H')
theorem ZR{H':Hp}(h:H' p=none)(s:HE H H'):H p=none:=by
 cases e:H p with
 |none=>rfl
 |some o=>rw[s _ _ e]at h;cases h
noncomputable def hV:V->Bool
 | .int _=>true
 |_=>false
theorem CU{t:String}(h:kd H x=↑t):hV x=(QD t "int"&& ! QD t "bool"):=by
 cases x with
 |non=>cases h;decide
 |bl b=>cases h;show false=_;decide
 |int i=>cases h;show true=_;decide
 |str x=>cases h;show false=_;decide
 |byt b=>cases h
 |flt b=>cases h
 |ty b=>cases h
 |ref a=>
  rcases jd h with⟨xs,e,rfl⟩|⟨xs,e,rfl⟩
  .show false=_;decide
  .show false=_;decide
theorem yh(h:hV x=true):∃i,x= .int i:=by
 cases x<;>first|exact#[0]|cases h
theorem vt(h:hV x=false):cH x=false:=by
 cases x<;>first|rfl|cases h
inductive gS(vs:Α)(H:Hp)(Q:VK)(_:XK):Prop
 |mk (x:_)(t:_)(h1:vs=[x])(h2:kd H x=↑t)(h3:Q (.bl (hV x)) H)
inductive Of (H:Hp):Nat->V->V->Prop where
 |int (n:Nat)(i:Int):Of H n (.int i) (.int i)
 |str (n:Nat)(x:Str):Of H n (.str x) (.str x)
 |non (n:Nat):Of H n .non .non
 | tup {n:Nat} {a b:Δ} {xs ys:Α} (h1:Rd H a (.tup xs)) (h2:Rd H b (.tup ys)) (hl:xs.length=ys.length) (hz:xs.length<=ζ)
   (hi:∀(i:Nat) (x y:V),xs[i]? =↑x->ys[i]? =↑y->Of H n x y):Of H (n+1) (-a) (-b)
theorem Of.ints{n:Nat}{b:Δ}{ns:Ε}(h1:Rd H a (.tup (ns.map V.int)))(h2:Rd H b (.tup (ns.map V.int)))(e:ns.length<=ζ):Of H (n+1) (-a) (-b):=
 .tup h1 h2 Z (by rw[Jf];exact e) λi x y d c=>by
  rw[d]at c;cases c;let#[z,rfl,_]:=Q0 d;exact .int _ _
theorem HE.sqt{K:ι}(e:HE H H')(h:HP K H a xs):HP K H' a xs:=by
 rcases h with h|h
 .exact .inl (Rd.same e h)
 .exact .inr h
noncomputable def Zb(t:Ε)(i:Nat):Ε:=(B2 16).map λd=>if((d:Nat):Int)∈t.take i then((t.idxOf ((d:Nat):Int):Nat):Int)else 0
theorem bX(t:Ε)(i:Nat):(Zb t i).length=16:=by simp [Zb]
theorem y9(t:Ε):Zb t 0=D0 16 0:=by simp only[Zb,RB,JE,JU];rfl
theorem vS{d:Nat}(h:d<16):(Zb t i)[d]'(by rw[bX];exact h)=if((d:Nat):Int)∈t.take i then((t.idxOf ((d:Nat):Int):Nat):Int)else 0:=by simp [Zb]
theorem CL{t:Ε}(p:t.Perm Mu):Zb t t.length=zD t:=by
 unfold Zb zD;refine Ir λd a=>?_
 rw[J5,Jc (CV p (Ih.mp a))]
theorem xz{t:Ε}(p:t.Perm Mu){i:Nat}(hi:i<t.length):(Zb t i).set t[i].toNat (i:Int)=Zb t (i+1):=by
 have b:=nT p hi;refine OC (by rw[Ll,bX,bX]) λd h1 c=>?_
 have f:d<16:=by rw[bX]at c;exact c
 rw[RC,vS f,vS f,Ig,Ji hi,RD]
 by_cases e:t[i].toNat=d
 .have a:((d:Nat):Int)=t[i]:=by lia
  rw[Jc e,Jc (by rw[a];exact JL _ (Jm.mpr Z)),a,vF p hi]
 .have a:((d:Nat):Int)≠t[i]:=by lia
  rw[Jb e];simp only[JD,Jm,a,JF]
inductive vV(K:ι)(vs:Α)(H:Hp)(Q:VK)(_:XK):Prop
 |mk (a:Δ)(t:Ε)(h1:vs=[-a])(h2:(HK K H a (t.map V.int)\/HP K H a (t.map V.int)))(h3:t.Perm Mu)(h4:∀p H',HE H H'->H' p=↑(.tup ((zD t).map V.int))->Q (-p) H')
theorem rP{X:Cx}{K:ι}(a:X.K=K){k:Nat}(n:Nat)(hc:X.calm=true)(h:Ph X es t)(hn:(assignEach es X.env).length=n:=by rfl)(hst:(assignEach es X.env).findIdx? (·.1)=none:=by rfl):QG X (.Tuple es k pos) (mT K n t):=by
 subst a
 exact#[mB (hc:=hc) (h:=h.h) (hn:=hn) (hst:=hst)]
end L3
namespace L3
open PySem PySem.Spec PyProof.Rows L2
open Sem (wp)
namespace RV
theorem vD:Slot "reversed" "__init__" "object.__init__":=
  .of (owner := "object") (n := "__init__") (by rw[Lq,Lr];kernel_rfl) nofun nofun nofun
    (by first | exact .inl nofun | exact .inr nofun) (by rw[Lu];kernel_rfl)
theorem called:TypeCalled "reversed" "reversed.__new__" "object.__init__":=
 #[nofun,nofun,#[16,F.mro_reversed],F.made_reversed,nofun,F.sub_reversed_self,vD]
theorem slot_next:Slot "reversed" "__next__" "reversed.__next__":=
  .of (owner := "reversed") (n := "__next__") (by rw[Lq,Lr];kernel_rfl) nofun nofun nofun
    (by first | exact .inl nofun | exact .inr nofun) (by rw[Lu];kernel_rfl)
theorem entry_next:entryFor table "reversed.__next__"=some γ.«reversed.__next__»:=entryFor_of_tree (by kernel_rfl)
theorem kE:Manifest.owners.lookup (String.ofList ['d', 'e', 's', 'r', 'e', 'v', 'e', 'r'].reverse)=↑Manifest.sig_reversed:=by kernel_rfl
theorem args_next(a:Γ):argsOk "reversed.__next__" #[[a],[]]:=by
 unfold argsOk;rw[signature?_of (id:="reversed.__next__") (n:=['_', '_', 't', 'x', 'e', 'n', '_', '_']) (o:=['d', 'e', 's', 'r', 'e', 'v', 'e', 'r']) (by kernel_rfl) kE]
 kernel_rfl
theorem slot_iter:Slot "reversed" "__iter__" "reversed.__iter__":=
  .of (owner := "reversed") (n := "__iter__") (by rw[Lq,Lr];kernel_rfl) nofun nofun nofun
    (by first | exact .inl nofun | exact .inr nofun) (by rw[Lu];kernel_rfl)
theorem args_iter(a:Γ):argsOk "reversed.__iter__" #[[a],[]]:=by
 unfold argsOk;rw[signature?_of (id:="reversed.__iter__") (n:=['_', '_', 'r', 'e', 't', 'i', '_', '_']) (o:=['d', 'e', 's', 'r', 'e', 'v', 'e', 'r']) (by kernel_rfl) kE]
 kernel_rfl
theorem entry_iter:entryFor table "reversed.__iter__"=some γ.«dict_keyiterator.__iter__»:=
  entryFor_alias (id':="dict_keyiterator.__iter__") (by kernel_rfl)
    (by first | rfl | decide +kernel | (unfold String.splitOn
                                        simp +decide [String.splitOnAux])) nofun (by kernel_rfl)
theorem no_tuple:typeLookup (.type "tuple") "__reversed__"=pure none:=by
 rw[Lq,Lr]
 kernel_rfl
theorem tup_dict:isSubtype (.type "tuple") (.type "dict")=pure false:=by
 rw[Lu]
 kernel_rfl
theorem ri_rev:isSubtype (.type "range_iterator") (.type "reversed")=pure false:=by
 rw[Lu]
 kernel_rfl
theorem tc1(a:Γ):checkTypeCall "reversed" #[[a],[]]=pure ():=by kernel_rfl
end RV
def M8(h:Ψ)(it t:Δ)(i:Int):Prop:=∃o,h.get? it=↑o/\o.cls= .type "reversed"/\o.data= .fields (B1 [-t,rawInt i])
theorem sQ(l:Δ)(items:Array Γ)(r:items.size<=ζ):
  Meets (γ.«reversed.__new__» #[[.type "reversed",-l],[]]) (λA R s=>s.heap.IsTuple l items/\
   R (.ok (.ret (-s.heap.objs.size))) {s with heap:=s.heap.push {cls:= .type "reversed",data:= .fields (B1 [-l,rawInt ((items.size:Int)-1)])},toks:=s.toks+2}):=
 .of_wp λprog w A R s h=>by
  let#[i,g,d,tk,f]:=s;let#[a,h]:=h
  have j:=F.sub_reversed_self;have m:Θ.TypeIs #[i,g,d,tk,f] (-l) "tuple":=let⟨o,e,c,_⟩:=a;#[o,e,c]
  have q:Ψ.IsTuple (Θ.heap #[i,g,d,tk,f]) l items:=a
  have p:=RV.tup_dict;have n:IsTup (Θ.heap #[i,g,d,tk,f]) l items:=a
  have t:=aj
  wp_walk using IT m RV.no_tuple,GR p,IT m F.slot_tuple_getitem.lookup,len_tuple n (by omega)
  exact#[0,h]
end L3
namespace L3
open PySem PySem.Spec PyProof.Rows L2
open Sem (wp)
noncomputable abbrev Bu(a b c:Int):Bool:=γ.Range.rangeFitsLong a&&γ.Range.rangeFitsLong b&&γ.Range.rangeFitsLong c&&γ.Range.rangeFitsLong (Neg.neg c)&&γ.Range.rangeFitsLong (a-c)&&γ.Range.rangeFitsLong (γ.Range.rangeSize a b c)
theorem oF(r:Δ)(a b c:Int)(t u v:Tok)(e:¬(! Bu a b c)=true):
  Meets (γ.«range.__reversed__» #[[-r],[]]) (λ_ R s=>s.heap.get? r=some {cls:= .type "range",dict:=none,data:= .fields (B1 [.int a t,.int b u,.int c v]),slots:= (B1 [])}/\
   R (.ok (.ret (-s.heap.objs.size))) {s with heap:=s.heap.push {cls:= .type (if Bu a b c then "range_iterator" else "longrange_iterator"),data:= .fields (B1 [rawInt (a+(γ.Range.rangeSize a b c-1)*c),rawInt (γ.Range.rangeSize a b c),rawInt (Neg.neg c)])}}):=
 .of_wp λprog w A R s h=>by let#[j,g,d,tk,i]:=s;let#[f,h]:=h;wp_walk;exact#[0,h]
theorem wH(n:Nat):γ.Range.rangeSize 0 n 1=n:=by
 unfold γ.Range.rangeSize;rw[Jc ⋯]
 split<;>lia
theorem uG{n:Nat}(hn:(n:Int)<2 ^ 62):Bu 0 n 1=true:=by
 unfold Bu;rw[wH];simp only[γ.Range.rangeFitsLong,GF,decide_eq_true_eq];lia
theorem sG(r:Δ)(n:Nat)(t u v:Tok)(hn:(n:Int)<2 ^ 62):
  Meets (γ.«range.__reversed__» #[[-r],[]]) (λ_ R s=>s.heap.get? r=some {cls:= .type "range",data:= .fields (B1 [.int 0 t,.int n u,.int 1 v])}/\
   R (.ok (.ret (-s.heap.objs.size))) {s with heap:=s.heap.push {cls:= .type "range_iterator",data:= .fields (B1 [rawInt ((n:Int)-1),rawInt n,rawInt (-1)])}}):=by
 have g:=oF r 0 n 1 t u v (by rw[uG hn];decide)
 rw[uG hn,wH,Jc Z,Int.mul_one,Ku]at g;exact g
section
variable{s:Θ}
theorem M8.typeIs(x:M8 s.heap it t i):s.TypeIs (-it) "reversed":=by
 let#[o,c,a,_]:=x
 exact#[o,c,a]
theorem oB{i:Nat}{x:Γ}{Q:Ο->Θ->Prop}(d:M8 s.heap it t (i:Int))(hl:IsTup s.heap t items)(hx:items[i]? =↑x)(p:items.size<=ζ)
  (l:∀h' tk,M8 h' it t ((i:Int)-1)->Ψ.SameBut it s.heap h'->Q ↑x {s with heap:=h',toks:=tk}):ε (model prog w) A (pyNext (-it)) Q E s:=by
 let#[o,g,m,f]:=id d;have n:s.TypeIs (-t) "tuple":=let⟨o,e,c,_⟩:=hl;#[o,e,c]
 have q:=aj;have h:i<items.size:=(Array.getElem?_eq_some_iff.mp hx).1
 unfold pyNext;refine Ja (Ic (wpAny_callSpecial?_slot (name:=Str.ofString "__next__") (M8.typeIs d) RV.slot_next
  (J0 RV.slot_next (M8.typeIs d) RV.entry_next ?_ (RV.args_next _))))
 unfold γ.«reversed.__next__»
 refine Ja (GR (a:=(Γ.ref it,[])) Z ?_)
 try dsimp only
 refine Ja (JK g f (x:= .ref t) Z ?_)
 refine Ja (JK g f (x:=rawInt (i:Int)) Z ?_)
 show ε _ _ (if(i:Int)<0 then _ else _) _ _ s
 rw[Jb (by lia)]
 try dsimp only
 refine Ja (IT n F.slot_tuple_getitem.lookup ?_)
 rw[Jb (show¬((↑(Γ.builtin "tuple.__getitem__")).isNone=true)from JB)]
 refine Ja (wpAny_mkInt ?_)
 have j:IsTup (Θ.heap {s with toks:=s.toks+1}) t items:=hl
 refine Ja (Ic (getItem_tuple j (by lia) (by lia) (by unfold seqIndex?;rw[Jb (show¬((i:Int)<0) by lia)];simp [h]) hx ?_))
 try dsimp only
 refine Ja (JK (s:={s with toks:=s.toks+1}) g f (x:=rawInt (i:Int)) Z ?_)
 show ε _ _ (setField (-it) 1 (rawInt ((i:Int)-1)) >>= _) _ _ _
 refine Ja (Ld (s:={s with toks:=s.toks+1}) g f (by simp) ?_)
 refine Je #[x,Z,Je (l _ _ ?_ (IR ..))]
 exact#[_,LB _ g (LU (Le f _)),(Obj.cls_mapFields ..).trans m,by
  rw[Le f];simp]
theorem sZ{Q:Ο->Θ->Prop}(g:A.handled=none)(c:M8 s.heap it t (-1))
  (h:∀h',Ψ.ExtBut it s.heap h'->Q none {s with heap:=h'}):ε (model prog w) A (pyNext (-it)) Q E s:=by
 let#[o,e,i,d]:=id c;unfold pyNext;refine Ja (Ic (wpAny_callSpecial?_slot (name:=Str.ofString "__next__") (M8.typeIs c) RV.slot_next
  (J0 RV.slot_next (M8.typeIs c) RV.entry_next ?_ (RV.args_next _))))
 unfold γ.«reversed.__next__»
 refine Ja (GR (a:=(Γ.ref it,[])) Z ?_)
 try dsimp only
 refine Ja (JK e d (x:= .ref t) Z ?_)
 refine Ja (JK e d (x:=rawInt (-1)) Z ?_)
 show ε _ _ (if(-1:Int)<0 then _ else _) _ _ s
 rw[Jc ⋯]
 refine Ja (J4 ?_)
 refine Ja ?_
 show ε _ _ (setField (-it) 1 (rawInt (-1)) >>= _) _ _ _
 refine Ja (Ld e d (by simp) ?_)
 have f:=LB (Obj.mapFields (·.setIfInBounds 1 (rawInt (-1)))) e (LU (Le d _))
 refine Ld f (Le d _) (by simp) ?_
 refine Ja ?_
 show ε _ _ (newExc (.type "StopIteration") [] >>= _) _ _ _
 refine Ja ?_
 simp only[newExc,newTuple];refine Ja (F0 ?_ (by size_fits))
 refine Ja (m:=firstArgMember _ _) (GR (a:=Γ.none) (by first|rfl|(simp only[firstArgMember];rfl)) ?_)
 refine F0 ?_ (by size_fits)
 simp only[raiseNew];refine Ja (wpAny_handled ?_)
 first|rw[show A.in1.handled=none from g]|rw[g]
 refine Ja (Je (wpAny_throw ?_))
 refine Ja (IS (T:="StopIteration") (b:=true) #[_,Jr _ Z,Z] LF ?_)
 exact Je (h _ (((((IR ..).trans (IR ..)).extBut).push _).push _))
theorem uC{Q:Hu}(a:M8 s.heap it t i)(h:Q (-it) s):ε (model prog w) A (pyIter (-it)) Q E s:=by
 refine wpAny_pyIter_slot (M8.typeIs a) RV.slot_iter (J0 RV.slot_iter (M8.typeIs a) RV.entry_iter ?_ (RV.args_iter _))
 show ε _ _ (ret (-it)) _ _ s
 exact Je #[0,"reversed",_,M8.typeIs a,RV.slot_next.lookup,h]
theorem C8{Q:Hu}(hl:s.heap.IsTuple l items)(c:items.size<=ζ)
  (h:∀h' tk,M8 h' s.heap.objs.size l ((items.size:Int)-1)->(∀b o,s.heap.get? b=↑o->h'.get? b=↑o)->Q (-s.heap.objs.size) {s with heap:=h',toks:=tk}):
  ε (model prog w) A (call (.type "reversed") [-l]) Q E s:=by
 refine callType_new RV.called ⋯ (RV.tc1 _) (F.newCall_reversed_1 _) (λa=>F.args_object_init_2 a _) F.entry_reversed_new (sQ l items c) #[hl,?_]
 exact#[#[_,Jr _ Z,Z],h _ _ #[_,Jr _ Z,7] λb o e=>Jh _ e]
theorem E8{r:Δ}{n:Nat}{Q:Hu}(hr:s.heap.get? r=some {cls:= .type "range",data:= .fields (B1 [.int 0 t,.int n u,.int 1 v])})(hn:(n:Int)<2 ^ 62)
    (h:∀h',IsRangeIter h' s.heap.objs.size ((n:Int)-1) n (-1)->(∀b o,s.heap.get? b=↑o->h'.get? b=↑o)->Q (-s.heap.objs.size) {s with heap:=h'}):
    ε (model prog w) A (call (.type "reversed") [-r]) Q E s:=by
  have f:s.TypeIs (-r) "range":=#[_,hr,Z]
  refine callType_other (U:="range_iterator") (Q₁:=λd c=>d= .ref s.heap.objs.size/\∃h',c={s with heap:=h'}/\IsRangeIter h' s.heap.objs.size ((n:Int)-1) n (-1)/\∀b o,s.heap.get? b=↑o->h'.get? b=↑o) nofun F.create_reversed #[16,F.mro_reversed] F.made_reversed RV.ri_rev (RV.tc1 _) ?_ ?_
  · refine codeAny_of_tree ?_
    show ε _ A.in1.in1 (do checkBuiltinCall "reversed.__new__" #[[.type "reversed",-r],[]];again (.builtin "reversed.__new__" #[[.type "reversed",-r],[]])) _ _ s
    refine Ja (GR (F.newCall_reversed_1 _) (Je #[plainId_quiet F.plain_reversed_new _,Iu F.entry_reversed_new ?_]))
    rw[Around.under_plainId F.plain_reversed_new _];unfold γ.«reversed.__new__»
    refine Ja (GR (newClass_reversed _) ?_)
    try dsimp only
    refine Ja (GR (a:=()) (by first|rfl|kernel_rfl) ?_)
    refine Ja (GR (a:=()) (by first|rfl|kernel_rfl) ?_)
    try dsimp only
    refine Ja (IT f F.slot_range_reversed.lookup ?_)
    try dsimp only
    refine Ja (GR (F.slot_range_reversed.bind _) ?_)
    try dsimp only
    first
    |rw[Jb (show¬((Γ.builtin "range.__reversed__"==Γ.none)=true)from JB)]
    | (show ε _ _ (if(Γ.builtin "range.__reversed__"==Γ.none)=true then _ else _) _ _ _
       rw[Jb (show¬((Γ.builtin "range.__reversed__"==Γ.none)=true)from JB)])
    refine Ja (J4 ?_)
    refine Ja (m:=runValue (.call (.builtin "range.__reversed__") ⟨[-r],[]⟩)) (show ε _ _ (call (.builtin "range.__reversed__") [-r]) _ _ _ from
      IL F.slot_range_reversed f F.entry_range_reversed (F.args_range_reversed_1 _) (sG r n t u v hn) ⟨hr,?_⟩)
    first
    |exact Je ⟨rfl,_,rfl,Jr _ rfl,λb o e=>Jh _ e⟩
    |exact Ja (Je (Je ⟨rfl,_,rfl,Jr _ rfl,λb o e=>Jh _ e⟩))
  · rintro d c ⟨rfl,h',rfl,hi,hk⟩
    exact⟨⟨_,hi,rfl⟩,h h' hi hk⟩
end
noncomputable def t7(K:ι)(a:Δ)(n:Nat):It:=
 ⟨λi H=>i<n/\∃xs,HK K H a xs/\xs.length=n,λi H x H'=>H'=H/\∀xs,HK K H a xs->xs[n-1-i]? =↑x,λi _=>n<=i⟩
noncomputable def tq(K:ι)(a:Δ)(n:Nat):It:=
 ⟨λi H=>i<n/\∃xs,HP K H a xs/\xs.length=n,λi H x H'=>H'=H/\∀xs,HP K H a xs->xs[n-1-i]? =↑x,λi _=>n<=i⟩
noncomputable def uu(n:Nat):It:=⟨λi _=>i<n,λi H x H'=>H'=H/\x= .int ((n:Int)-1-i),λi _=>n<=i⟩
theorem tK{K:ι}(a it:Δ)(n:Nat):Na P w K tg (t7 K a n) [it] it (λi h=>i<=n/\h.IsRevIter it a ((n:Int)-1-i)) where
 mem:=by simp
 obj:=λi h st b g=>by
  have e:b=it:=by simpa using g
  subst e;let#[_,o,e,c,d]:=st
  exact#[o,e,λv z=>by rw[d]at z;cases z]
 keep:=λi h h' st k=>#[st.1,st.2.at λo e=>k it (by simp) o e]
 item:=by
  intro X D B C G i pins s σ H E I m st t;subst D B C;let#[hi,xs,F,Y]:=t;let#[J,U,p,W]:=I.list F;have l:n-1-i<xs.length:=by lia
  let#[u,R,S]:=U.get (Ji l)
  let#[A,f1,f2,q,y,r]:=m it (by simp)
  have L:(n:Int)-1-i=((n-1-i:Nat):Int):=by lia
  have f:=st.2;rw[L]at f;refine wpAny_pyNext_rev_item f p.isList (x:=u) (by simpa using R) λh' j N=>?_
  have M:L2.HH X pins σ H {s with heap:=h'}:=I.turned (t':=s.toks) (λb o g e=>(N.2 b g).trans e) A f1 q y r
  let#[o,e,c,d]:=id j;refine#[u,Z,cg (s:={s with heap:=h'}) e c d ⋯ #[_,H,M,S,#[Z,λys T=>by rw[I.list_inj T F];exact Ji l],#[by lia,?_],λb g=>(m b g).1]]
  have O:((n-1-i:Nat):Int)-1=(n:Int)-1-((i+1:Nat):Int):=by lia
  rw[<- O];exact j
 done:=by
  intro X D B C G i pins s σ H E I m st t;subst D B C;let#[A,f1,f2,q,y,r]:=m it (by simp)
  have hi:i=n:=KQ st.1 t
  have f:=st.2;rw[show(n:Int)-1-i= -1 by lia]at f
  exact wpAny_pyNext_rev_end (I.ok.hd G) f λh' Q=>#[Z,I.turned (t':=s.toks) (λb o g e=>Q b o g e) A f1 q y r]
 self:=λ_ _ _ _ _ st h=>wpAny_pyIter_revIter st.2 h
theorem wD{K:ι}(a it:Δ)(n:Nat):Na P w K tg (tq K a n) [it] it (λi h=>i<=n/\M8 h it a ((n:Int)-1-i)) where
 mem:=by simp
 obj:=λi h st b g=>by
  have e:b=it:=by simpa using g
  subst e;let#[_,o,e,c,d]:=st
  exact#[o,e,λv z=>by rw[d]at z;cases z]
 keep:=λi h h' st k=>#[st.1,let⟨o,e,r⟩:=st.2;#[o,k it (by simp) o e,r]]
 item:=by
  intro X F C D L i pins s σ H E I m st y;subst F C D;let#[hi,xs,J,hn]:=y;let#[N,M,p,hz]:=I.tuple J;have G:=M.length;have l:n-1-i<xs.length:=by lia
  let#[u,U,W]:=M.get (Ji l)
  let#[B,f1,f2,q,A,t]:=m it (by simp)
  have O:(n:Int)-1-i=((n-1-i:Nat):Int):=by lia
  have f:=st.2;rw[O]at f;refine oB f p (x:=u) (by simpa using U) (by simp;lia) λh' tk j R=>?_
  have Q:L2.HH X pins σ H {s with heap:=h',toks:=tk}:=I.turned (t':=tk) (λb o g e=>(R.2 b g).trans e) B f1 q A t
  let#[o,e,c,d]:=id j;refine#[u,Z,cg (s:={s with heap:=h',toks:=tk}) e c d ⋯ #[_,H,Q,W,#[Z,λys Y=>by rw[I.tuple_inj Y J];exact Ji l],#[by lia,?_],λb g=>(m b g).1]]
  have S:((n-1-i:Nat):Int)-1=(n:Int)-1-((i+1:Nat):Int):=by lia
  rw[<- S];exact j
 done:=by
  intro X F C D L i pins s σ H E I m st y;subst F C D;let#[B,f1,f2,q,A,t]:=m it (by simp)
  have hi:i=n:=KQ st.1 y
  have f:=st.2;rw[show(n:Int)-1-i= -1 by lia]at f
  exact sZ (I.ok.hd L) f λh' T=>#[Z,I.turned (t':=s.toks) (λb o g e=>T b o g e) B f1 q A t]
 self:=λ_ _ _ _ _ st h=>uC st.2 h
theorem wv{K:ι}(it:Δ)(n:Nat):Na P w K tg (uu n) [it] it (λi h=>IsRangeIter h it ((n:Int)-1+(i:Nat)*(-1)) ((n:Int)-(i:Nat)) (-1)) where
 mem:=by simp
 obj:=λi h st b a=>by
  have e:b=it:=by simpa using a
  subst e
  exact#[_,st,λv z=>by
   have C:Data.fields _=Data.cell v:=z
   cases C]
 keep:=λi h h' st k=>k it (by simp) _ st
 item:=by
  intro X p g m q i pins s σ H E I d st r;subst p g m;let#[l,f1,f2,f,j,u]:=d it (by simp)
  have W:=Walks.range (prog:=X.prog) (w:=X.w) (I.ok.hd q) it ((n:Int)-1) (-1) n
  refine W.item i s _ _ r st λv h' tk B c A=>?_
  let#[t,rfl]:=B;have y:L2.HH X pins σ H {s with heap:=h',toks:=tk}:=I.turned (λb o a e=>A b o (by simpa using a) e) l f1 f j u
  refine#[0,cg (s:={s with heap:=h',toks:=tk}) (n:="range_iterator") c Z Z ⋯ #[.int ((n:Int)-1-i),H,y,#[t,?_],#[7],c,λb a=>(d b a).1]]
  rw[show(n:Int)-1+(i:Nat)*(-1)=(n:Int)-1-i by lia]
 done:=by
  intro X p g m q i pins s σ H E I d st r;subst p g m;let#[l,f1,f2,f,j,u]:=d it (by simp)
  exact wpAny_pyNext_range_end (I.ok.hd q) st (by have:n<=i:=r;lia) λh' x=>#[Z,I.turned (t':=s.toks) (λb o a e=>x b o a e) l f1 f j u]
 self:=λ_ _ _ _ _ st h=>LN st h
section
variable{K:ι}
theorem w9:bootBuiltins "reversed"=↑(.type "reversed"):=by kernel_rfl
noncomputable def Ez(K:ι)(ta:TA):TI:=λσ H R=>ta σ H λc H1=>∃a,c=[-a]/\((∃xs,HK K H1 a xs/\R (t7 K a xs.length) H1)\/(∃xs,HP K H1 a xs/\R (tq K a xs.length) H1)\/∃n:Nat,H1 a=↑(.rng 0 n)/\(n:Int)<2 ^ 62/\R (uu n) H1)
theorem Dn{a:Φ}{p:Pos}(hg:Gl X "reversed")(hm:X.mg "reversed"=none)(ha:PA X [a] ta)(hn:Q8 a=true:=by rfl):
  PI X tg (.Call (.Name "reversed" p) [a] [] pos) (Ez X.K ta):=by
 intro pins s σ H R I h;refine Call_ (Zh I hg hm w9 (IZ (qB (ha pos pins s σ H _ I h) λC d B=>?_) (bA hn) Z))
 let#[D,H1,g,z,q1]:=B;let#[l,e,q1]:=q1;subst e;let#[u,rfl,x]:=z.one;cases x;have i:∀b∈[d.heap.objs.size],Zp X pins H1 b:=λb w=>by
  rw[Jm.mp w];exact g.fpOk (Jd _) (g.hok.fresh (Jd _))
 rcases q1 with⟨xs,j,q⟩|⟨xs,j,q⟩|⟨n,j,m,q⟩
 .let#[c,r,pl,A]:=g.list j
  have f:=r.length;refine call_reversed_list pl.isList ?_
  have hi:(d.heap.push (revObj l ((c.toArray.size:Int)-1))).IsRevIter d.heap.objs.size l ((c.toArray.size:Int)-1):=#[_,Jr _ Z,7]
  refine wpAny_pyIter_revIter hi ?_
  refine#[d.heap.objs.size,[d.heap.objs.size],16,H1,Z,g.kept (t':=d.toks) λb o e=>Jh _ e,tK l _ xs.length,#[JH _,?_],i,q]
  rw[show(xs.length:Int)-1-((0:Nat):Int)=(c.toArray.size:Int)-1 by simp [f]]
  exact hi
 .let#[c,r,pl,A]:=g.tuple j
  have f:=r.length;refine C8 (show d.heap.IsTuple l c.toArray from pl) (by simp;lia) λh' tk hi hk=>uC hi ?_
  refine#[d.heap.objs.size,[d.heap.objs.size],16,H1,Z,g.kept (t':=tk) hk,wD l _ xs.length,#[JH _,?_],i,q]
  rw[show(xs.length:Int)-1-((0:Nat):Int)=(c.toArray.size:Int)-1 by simp [f]]
  exact hi
 .let#[t,u,v,y]:=g.hok l _ j
  refine E8 y m λh' hi hk=>LN hi ?_
  refine#[d.heap.objs.size,[d.heap.objs.size],16,H1,Z,g.kept (t':=d.toks) hk,wv _ n,?_,i,q]
  show IsRangeIter _ _ _ _ _
  rw[show(n:Int)-1+((0:Nat):Int)*(-1)=(n:Int)-1 by lia,show(n:Int)-((0:Nat):Int)=n by lia]
  exact hi
noncomputable def Ee(K:ι)(tl:TE):TI:=λσ H R=>tl σ H λx H1=>∃a,x= .ref a/\((∃xs,HK K H1 a xs)/\R (eO K a) H1\/(∃xs,HP K H1 a xs)/\R (iY K a) H1)
theorem Ek(hl:PE X l tl):PI X tg l (Ee X.K tl):=by
 intro pins s σ H R I h;refine qB (hl pins s σ H _ I h) λv c t=>?_
 let#[x,H1,d,m,q1]:=t;let#[a,e,q1]:=q1;subst e;cases m;have g:∀b∈[c.heap.objs.size],Zp X pins H1 b:=λb j=>by
  rw[Jm.mp j];exact d.fpOk (Jd _) (d.hok.fresh (Jd _))
 rcases q1 with⟨⟨xs,i⟩,q⟩|⟨⟨xs,i⟩,q⟩
 .let#[f,r,p,n]:=d.list i
  refine IF p.isList ?_
  exact#[c.heap.objs.size,[c.heap.objs.size],16,H1,Z,d.kept (t':=c.toks) λb o e=>Jh _ e,jU a _,#[_,Jr _ Z,7],g,q]
 .let#[f,r,p,n]:=d.tuple i
  refine Il (show c.heap.IsTuple a f.toArray from p) ?_
  exact#[c.heap.objs.size,[c.heap.objs.size],16,H1,Z,d.kept (t':=c.toks) λb o e=>Jh _ e,iC a _,#[_,Jr _ Z,7],g,q]
abbrev ab(J:It)(g:TG)(tb:TS)(D:MF)(σ:L2.St)(H:Hp):Prop:=∃W:Nat->Nat->L2.St->Hp->Prop,(∃m,W 0 m σ H)/\∀i m σ H,W i m σ H->
      (J.stop i H/\D.nx σ H)\/(J.go i H/\∃N:L2.St->Hp->Prop,(∀σ' H',N σ' H'->∃m',m'<m/\W (i+1) m' σ' H')/\∀x H',J.yld i H x H'->g x σ H' λσ2 H2=>tb {D with nx:=N,ct:=N,bk:=D.nx} σ2 H2)
theorem fA{J:It}{n:Nat}(Pv:Nat->L2.St->Hp->Prop)(f:Pv 0 σ H)(d:∀i σ H,i<n->Pv i σ H->J.go i H)(hst:∀H,J.stop n H)
  (hs:∀i x σ H H',i<n->Pv i σ H->J.yld i H x H'->g x σ H' λc h=>tb {D with nx:=Pv (i+1),ct:=Pv (i+1),bk:=D.nx} c h)(hd:∀σ H,Pv n σ H->D.nx σ H):ab J g tb D σ H:=by
 exists λi m σ H=>m=n-i/\i<=n/\Pv i σ H,#[n,by simp,JH _,f]
 rintro i m σ H ⟨rfl,hi,p⟩
 by_cases a:i<n
 .exact .inr #[d i σ H a p,Pv (i+1),λl H' j=>#[n-(i+1),by lia,Z,a,j],λx H' y=>hs i x σ H H' a p y]
 .have e:i=n:=by lia
  subst e;exact .inl #[hst H,hd σ H p]
theorem yr(Pv:Nat->L2.St->Hp->Prop)(e:Pv 0 σ H)(hl:∀i σ H,Pv i σ H->HK K H a xs)
  (hs:∀i x σ H,i<xs.length->xs[xs.length-1-i]? =↑x->Pv i σ H->g x σ H λc d=>tb {D with nx:=Pv (i+1),ct:=Pv (i+1),bk:=D.nx} c d)(hd:∀σ H,Pv xs.length σ H->D.nx σ H):ab (t7 K a xs.length) g tb D σ H:=
 fA Pv e (λi σ H hi p=>#[hi,xs,hl i σ H p,Z]) (λ_=>Jd _) (λi x σ H H' hi p y=>by
  let#[rfl,y]:=y;exact hs i x σ H' hi (y xs (hl i σ H' p)) p) hd
theorem yN(Pv:Nat->L2.St->Hp->Prop)(e:Pv 0 σ H)(hl:∀i σ H,Pv i σ H->HP K H a xs)
  (hs:∀i x σ H,i<xs.length->xs[xs.length-1-i]? =↑x->Pv i σ H->g x σ H λc d=>tb {D with nx:=Pv (i+1),ct:=Pv (i+1),bk:=D.nx} c d)(hd:∀σ H,Pv xs.length σ H->D.nx σ H):ab (tq K a xs.length) g tb D σ H:=
 fA Pv e (λi σ H hi p=>#[hi,xs,hl i σ H p,Z]) (λ_=>Jd _) (λi x σ H H' hi p y=>by
  let#[rfl,y]:=y;exact hs i x σ H' hi (y xs (hl i σ H' p)) p) hd
theorem xq{n:Nat}(Pv:Nat->L2.St->Hp->Prop)(d:Pv 0 σ H)
  (hs:∀i σ H,i<n->Pv i σ H->g (.int ((n:Int)-1-i)) σ H λa c=>tb {D with nx:=Pv (i+1),ct:=Pv (i+1),bk:=D.nx} a c)(hd:∀σ H,Pv n σ H->D.nx σ H):ab (uu n) g tb D σ H:=
 fA Pv d (λi σ H hi p=>hi) (λ_=>Jd _) (λi x σ H H' hi p y=>by
  let#[rfl,rfl]:=y;exact hs i σ H' hi p) hd
end
end L3
namespace L3
open PySem PySem.Spec L2
theorem ve{a:Φ}{p:Pos}(hg:Gl X "reversed")(hm:X.mg "reversed"=none)(ha:QA X [a] ta)(hn:Q8 a=true:=by rfl):QI X tg (.Call (.Name "reversed" p) [a] [] pos) (Ez X.K ta):=#[Dn (hg:=hg) (hm:=hm) (ha:=ha.h) (hn:=hn)]
theorem wz(hl:QE X l tl):QI X tg l (Ee X.K tl):=#[Ek (hl:=hl.h)]
def bB(x:Int):Prop:=0<=x/\x<16
def zA(r:Ε):Prop:=∀x∈r,bB x
noncomputable def AK(n i:Nat):Nat:=if i=0 then n-1 else i-1
noncomputable def ah(r:Ε)(i:Nat):Int:=r.getD (AK r.length i) 0
noncomputable def jD(t:Ε)(s:Int)(r:Ε)(i:Nat):Ε:=r.set i (t.getD ((r.getD i 0+s+i+ah r i)%16).toNat 0)
noncomputable def ij(b:Ε)(s:Int)(r:Ε)(i:Nat):Ε:=r.set i ((b.getD (r.getD i 0).toNat 0-s-i-ah r i)%16)
noncomputable def aA(t:Ε)(s:Int)(r:Ε):Nat->Ε
 |0=>r
 |n+1=>jD t s (aA t s r n) n
noncomputable def aX(b:Ε)(s:Int)(r:Ε):Nat->Ε
 |0=>r
 |n+1=>aX b s (ij b s r n) n
noncomputable def Qz(t:Ε):Ε->Ε->Ε
 | [],r=>r
 |s::ks,r=>Qz t ks (aA t s r r.length)
noncomputable def Zq(b:Ε):Ε->Ε->Ε
 | [],r=>r
 |s::ks,r=>aX b s (Zq b ks r) r.length
theorem AH:(jD t s r i).length=r.length:=Ll ..
theorem nA{b:Ε}:(ij b s r i).length=r.length:=Ll ..
theorem QZ{t:Ε}{s:Int}{r:Ε}:∀{n:Nat},(aA t s r n).length=r.length
 |0=>rfl
 |n+1=>by rw[aA,AH,QZ]
theorem mM{b:Ε}{s:Int}:∀{n:Nat} {r:Ε},(aX b s r n).length=r.length
 |0,_=>rfl
 |n+1,r=>by rw[aX,mM,nA]
theorem aZ{t:Ε}:∀{ks r:Ε},(Qz t ks r).length=r.length
 | [],_=>rfl
 |s::ks,r=>by rw[Qz,aZ,QZ]
theorem gK{b:Ε}:∀{ks r:Ε},(Zq b ks r).length=r.length
 | [],_=>rfl
 |s::ks,r=>by rw[Zq,mM,gK]
theorem nL(h:zA r)(hx:bB x):zA (r.set i x):=λy a=>by
 rcases List.mem_or_eq_of_mem_set a with z|z
 .exact h y z
 .rw[z];exact hx
theorem Za(x:Int):bB (x%16):=#[IU _ ⋯,IV _ ⋯]
theorem jB(h:zA r)(i:Nat):bB (r.getD i 0):=by
 rw[JN]
 by_cases hi:i<r.length
 .rw[Ji hi];exact h _ (Gz hi)
 .rw[RE (by lia)];exact#[⋯,⋯]
theorem yL{t:Ε}(p:t.Perm Mu):zA t:=λx a=>nW (p.mem_iff.mp a)
theorem xl{t:Ε}(p:t.Perm Mu)(h:zA r):zA (jD t s r i):=nL h (jB (yL p) _)
theorem mw{b:Ε}(h:zA r):zA (ij b s r i):=nL h (Za _)
theorem cz{t:Ε}(p:t.Perm Mu){s:Int}{r:Ε}(h:zA r):∀{n:Nat},zA (aA t s r n)
 |0=>h
 |n+1=>xl p (cz p h)
theorem lV{b:Ε}{s:Int}:∀{n:Nat} {r:Ε},zA r->zA (aX b s r n)
 |0,_,h=>h
 |n+1,_,h=>lV (n:=n) (mw h)
theorem gI{t:Ε}(p:t.Perm Mu):∀{ks r:Ε},zA r->zA (Qz t ks r)
 | [],_,h=>h
 |s::ks,_,h=>gI (ks:=ks) p (cz p h)
theorem m9{b:Ε}:∀{ks r:Ε},zA r->zA (Zq b ks r)
 | [],_,h=>h
 |s::ks,_,h=>lV (m9 (ks:=ks) h)
theorem k5{r:Ε}{i:Nat}(h:i<r.length):(r.set i x).getD i 0=x:=by
 rw[JN,LL h];rfl
theorem oV{r:Ε}{i j:Nat}(h:i≠j):(r.set i x).getD j 0=r.getD j 0:=by
 rw[JN,LM h,<- JN]
theorem Fl{n i:Nat}(h2:2<=n)(hi:i<n):i≠AK n i:=by unfold AK;split<;>lia
theorem EB{r:Ε}{i:Nat}(h2:2<=r.length)(hi:i<r.length):ah (r.set i x) i=ah r i:=by
 unfold ah;rw[Ll,oV (Fl h2 hi)]
theorem Ag{r:Ε}{i:Nat}(hi:i<r.length):r.set i (r.getD i 0)=r:=by
 rw[JN,Ji hi];exact List.set_getElem_self hi
theorem Av{t:Ε}(p:t.Perm Mu)(h:bB z):(zD t).getD (t.getD z.toNat 0).toNat 0=z:=by
 have c:z.toNat<t.length:=by rw[jw p];have:=h.1;have:=h.2;lia
 have e:t.getD z.toNat 0=t[z.toNat]:=by rw[JN,Ji c];rfl
 have bd:=nT p c;have a:t[z.toNat].toNat<(zD t).length:=by rw[bj];lia
 rw[e,JN,Ji a,IQ,Cc p (by rw[bj]at a;exact a)]
 have d:((t[z.toNat].toNat:Nat):Int)=t[z.toNat]:=by lia
 rw[d,vF p c]
 have:=h.1
 lia
theorem Af{t:Ε}(p:t.Perm Mu){i:Nat}(hr:zA r)(h2:2<=r.length)(hi:i<r.length):ij (zD t) s (jD t s r i) i=r:=by
 unfold ij jD;rw[k5 hi,EB h2 hi,List.set_set,Av p (Za _)];have a:=jB hr i;have e:((r.getD i 0+s+i+ah r i)%16-s-i-ah r i)%16=r.getD i 0:=by
  have:=a.1
  have:=a.2
  lia
 rw[e,Ag hi]
theorem mF{t:Ε}(p:t.Perm Mu){s:Int}{r:Ε}(hr:zA r)(h2:2<=r.length):∀{n:Nat},n<=r.length->aX (zD t) s (aA t s r n) n=r
 |0,_=>rfl
 |n+1,hn=>by
  rw[aA,aX,Af p (cz p hr) (by rw[QZ];exact h2) (by rw[QZ];lia)]
  exact mF p hr h2 (by lia)
theorem gL{t:Ε}(p:t.Perm Mu):∀{ks r:Ε},zA r->2<=r.length->Zq (zD t) ks (Qz t ks r)=r
 | [],_,_,_=>rfl
 |s::ks,r,hr,h2=>by
  rw[Zq,Qz,gL p (cz p hr) (by rw[QZ];exact h2),aZ,QZ,mF p hr h2 (Jd _)]
theorem mU(t:Ε):∀(ks:Ε) (s:Int) (r:Ε),Qz t (ks++[s]) r=aA t s (Qz t ks r) r.length
 | [],_,_=>rfl
 |a::ks,s,r=>by rw[Lh,Qz,mU t ks s,Qz,QZ]
def Sq(K:ι)(H:Hp)(a:Δ)(xs:Α):Prop:=HK K H a xs\/HP K H a xs
theorem Sq.same{K:ι}(e:HE H H')(h:Sq K H a xs):Sq K H' a xs:=h.elim (λh=> .inl (e.seq h)) λh=> .inr (HE.sqt e h)
theorem Sq.lst{K:ι}{H:Hp}(h:H a=↑(.lst xs)):Sq K H a xs:= .inl (HK.of h)
theorem Sq.tup{K:ι}{H:Hp}(h:H a=↑(.tup xs)):Sq K H a xs:= .inr (HP.of h)
inductive fN(K:ι)(vs:Α)(H:Hp)(Q:VK)(_:XK):Prop
 |mk (a b c:Δ)(t ks ds:Ε)(h1:vs=[-a,-b,-c])(h2:Sq K H a (t.map V.int))(h3:Sq K H b (ks.map V.int))(h4:Sq K H c (ds.map V.int))(h5:t.length=16)(h6:1<=ds.length)(h7:ds.length<64)(h8:∀p H',HE H H'->H p=none->H' p=↑(.tup ((Qz t ks ds).map V.int))->Q (-p) H')
inductive j9(K:ι)(vs:Α)(H:Hp)(Q:VK)(_:XK):Prop
 |mk (a b c:Δ)(t ks ds:Ε)(h1:vs=[-a,-b,-c])(h2:Sq K H a (t.map V.int))(h3:Sq K H b (ks.map V.int))(h4:Sq K H c (ds.map V.int))(h5:t.Perm Mu)(h6:zA ds)(h7:1<=ds.length)(h8:ds.length<64)(h9:∀p H',HE H H'->H p=none->H' p=↑(.tup ((Zq (zD t) ks ds).map V.int))->Q (-p) H')
theorem aY{r:Ε}{i:Nat}{z:Int}(e:z=(i:Int))(h:i<r.length):ZQ (r.map V.int) z=↑(.int (r.getD i 0)):=by
 rw[Cp e (jJ h),JN,Ji h];rfl
theorem v7{r:Ε}{i:Nat}{z:Int}(e:z=(i:Int)-1)(h:i<r.length):ZQ (r.map V.int) z=↑(.int (ah r i)):=by
 subst e;unfold ah AK
 by_cases c:i=0
 .subst c
  rw[Jc Z];have a:r.length-1<r.length:=by lia
  unfold ZQ cY;rw[Jf,Jb (by lia),Jc (by lia)]
  have d:((((0:Nat):Int)-1)+(r.length:Int)).toNat=r.length-1:=by lia
  show(r.map V.int)[((((0:Nat):Int)-1)+(r.length:Int)).toNat]? =_
  rw[d,jJ a,JN,Ji a];rfl
 .rw[Jb c]
  exact aY (by lia) (by lia)
theorem Sq.ix{K:ι}{v:V}{Q:VK}(h:Sq K H a xs)(e:ZQ xs i=↑v)(q:Q v H):yj K (-a) (.int i) H Q\/xu K (-a) (.int i) H Q:=
 h.elim (λh=> .inl #[a,xs,i,v,7,h,e,q]) λh=> .inr #[a,xs,i,v,7,h,e,q]
section
variable{K:ι}
theorem Cm(c:Sq K H0 a xs)(Pv:Nat->L2.St->Hp->Prop)(d:Pv 0 σ H)(hk:∀i f H',Pv i f H'->HE H0 H')
  (hs:∀i x σ H,xs[i]? =↑x->Pv i σ H->g x σ H λe h=>tb {D with nx:=Pv (i+1),ct:=Pv (i+1),bk:=D.nx} e h)(hd:∀σ H,Pv xs.length σ H->D.nx σ H):
  ((∃xs,HK K H a xs)/\ab (eO K a) g tb D σ H)\/((∃xs,HP K H a xs)/\ab (iY K a) g tb D σ H):=by
 rcases c with c|c
 .exact .inl #[#[xs,(hk _ _ _ d).seq c],Q2 Pv d (λi σ H _ p=>(hk i σ H p).seq c) hs hd]
 .exact .inr #[#[xs,HE.sqt (hk _ _ _ d) c],rD Pv d (λi σ H _ p=>HE.sqt (hk i σ H p) c) hs hd]
theorem AA(c:Sq K H0 a xs)(Pv:Nat->L2.St->Hp->Prop)(d:Pv 0 σ H)(hk:∀i f H',Pv i f H'->HE H0 H')
  (hs:∀i x σ H,i<xs.length->xs[xs.length-1-i]? =↑x->Pv i σ H->g x σ H λe h=>tb {D with nx:=Pv (i+1),ct:=Pv (i+1),bk:=D.nx} e h)(hd:∀σ H,Pv xs.length σ H->D.nx σ H):
  (∃xs,HK K H a xs/\ab (t7 K a xs.length) g tb D σ H)\/(∃xs,HP K H a xs/\ab (tq K a xs.length) g tb D σ H)\/(∃n:Nat,H a=↑(.rng 0 n)/\(n:Int)<2 ^ 62/\ab (uu n) g tb D σ H):=by
 rcases c with c|c
 .exact .inl #[xs,(hk _ _ _ d).seq c,yr Pv d (λi σ H p=>(hk i σ H p).seq c) hs hd]
 .exact .inr (.inl #[xs,HE.sqt (hk _ _ _ d) c,yN Pv d (λi σ H p=>HE.sqt (hk i σ H p) c) hs hd])
end
theorem ZL(s:HE H H2)(h:H l=none):HE H (HG H2 l o):=λd u e=>by
 rw[qh (qr e h)];exact s _ _ e
theorem jk{ks:Ε}{j:Nat}{s:Int}(h:ks[j]? =↑s):ks.take (j+1)=ks.take j++[s]:=by rw[Ig,h];rfl
theorem vo{ks:Ε}{j:Nat}{s:Int}(h:ks[j]? =↑s):ks.drop j=s::ks.drop (j+1):=by
 let#[a,e]:=Jw.mp h;rw[Kv a,e]
inductive N9 (H:Hp):Nat->V->V->Prop where
 |int (n:Nat)(i:Int):N9 H n (.int i) (.int i)
 |str (n:Nat)(x:Str):N9 H n (.str x) (.str x)
 |non (n:Nat):N9 H n .non .non
 |bl (n:Nat)(b:Bool):N9 H n (.bl b) (.bl b)
 | tup {n:Nat} {a b:Δ} {xs ys:Α} (h1:Rd H a (.tup xs)) (h2:Rd H b (.tup ys)) (hl:xs.length=ys.length)
   (hi:∀(i:Nat) (x y:V),xs[i]? =↑x->ys[i]? =↑y->N9 H n x y):N9 H (n+1) (-a) (-b)
 | lst {n:Nat} {a b:Δ} {xs ys:Α} (h1:H a=↑(.lst xs)) (h2:H b=↑(.lst ys)) (hl:xs.length=ys.length)
   (hi:∀(i:Nat) (x y:V),xs[i]? =↑x->ys[i]? =↑y->N9 H n x y):N9 H (n+1) (-a) (-b)
theorem b8(n:Nat):((B2 n).all λ_=>true)=true:=by simp
section
open SeqAt
theorem Qc(r:HL xs us){j:Nat}(h:j<us.length):∃x,xs[j]? =↑x/\HJ x us[j]:=by
 have e:=r.length;have c:j<xs.length:=by lia
 let#[u,a,d]:=r.get (Ji c)
 rw[Ji h]at a;cases a
 exact⟨_,Ji c,d⟩
theorem vj(I:L2.HH X pins σ H s)(h:N9 H n x y):∀{v u:Γ} {A:Around},HJ x v->HJ y u->A.units+n<cLine->EqAt A s v u true:=by
 induction h with
 |int n i=>rintro v u A ⟨t,rfl⟩ ⟨B,rfl⟩ _;have:=EqAt.int_int (A:=A) (s:=s) i t i B;rwa [GG]at this
 |str n z=>rintro v u A ⟨t,rfl⟩ ⟨B,rfl⟩ _;have:=EqAt.str_str (A:=A) (s:=s) z t z B;rwa [GG]at this
 |non n=>
  intro v u A g l _
  cases(show v=Γ.none from g)
  cases(show u=Γ.none from l)
  exact EqAt.same _
 |bl n b=>
  intro v u A g l _
  cases(show v=Γ.bool b from g)
  cases(show u=Γ.bool b from l)
  exact EqAt.same _
 | @tup n a b xs ys h1 h2 hl _ ih=>
  intro v u A g l C
  cases(show v=Γ.ref a from g)
  cases(show u=Γ.ref b from l)
  by_cases c:a=b
  .rw[c];exact EqAt.same _
  .let#[f,q1,r,_]:=I.tuple (.inl h1)
   let#[d,q2,p2,_]:=I.tuple (.inl h2)
   have E:=q1.length;have D:=q2.length;have e:=RcAt.tuples (A:=A) (e:=λ_=>true) (show s.heap.IsTuple a f.toArray from r) (show s.heap.IsTuple b d.toArray from p2) (by lia) (λj m o=>by
    let#[x,ex,w]:=Qc q1 (j:=j) (by simpa using m)
    let#[y,p,q]:=Qc q2 (j:=j) (by simpa using o)
    exact ih j x y ex p w q (by rw[J6];lia))
   rw[b8,show(f.toArray.size==d.toArray.size)=true by simp;lia]at e
   exact EqAt.of_refs c e
 | @lst n a b xs ys h1 h2 hl _ ih=>
  intro v u A g l C
  cases(show v=Γ.ref a from g)
  cases(show u=Γ.ref b from l)
  by_cases c:a=b
  .rw[c];exact EqAt.same _
  .let#[f,q1,r,_]:=I.list (HK.of h1)
   let#[d,q2,p2,_]:=I.list (HK.of h2)
   have E:=q1.length;have D:=q2.length;have e:=RcAt.lists (A:=A) (e:=λ_=>true) r.isList p2.isList (by simp;lia) (by lia) (λj m o=>by
    let#[x,ex,w]:=Qc q1 (j:=j) (by simpa using m)
    let#[y,p,q]:=Qc q2 (j:=j) (by simpa using o)
    exact ih j x y ex p w q (by rw[J6];lia))
   rw[b8]at e;exact EqAt.of_refs c e
theorem ET(I:L2.HH X pins σ H s){A:Around}(h:N9 H n x y)(l:HJ x v)(m:HJ y u)(hu:A.units+n<cLine):RcAt A s v u true/\RcNeAt A s v u false:=by
 cases h with
 |int n i=>
  let#[t,rfl]:=l;let#[w,rfl]:=m;have f:=RcAt.int_int (A:=A) (s:=s) i t i w
  have g:=RcNeAt.int_int (A:=A) (s:=s) i t i w
  rw[GG]at f g
  exact#[f,g]
 |str n z=>
  let#[t,rfl]:=l;let#[w,rfl]:=m;have f:=RcAt.str_str (A:=A) (s:=s) z t z w
  have g:=RcNeAt.str_str (A:=A) (s:=s) z t z w
  rw[GG]at f g
  exact#[f,g]
 |non n=>
  cases(show v=Γ.none from l)
  cases(show u=Γ.none from m)
  exact#[RcAt.none_none,RcNeAt.none_none]
 |bl n b=>
  cases(show v=Γ.bool b from l)
  cases(show u=Γ.bool b from m)
  have f:=RcAt.bool_bool (A:=A) (s:=s) b b
  have g:=RcNeAt.bool_bool (A:=A) (s:=s) b b
  rw[GG]at f g
  exact#[f,g]
 | @tup n a b xs ys h1 h2 hl ih=>
  cases(show v=Γ.ref a from l)
  cases(show u=Γ.ref b from m)
  let#[d,q1,r,_]:=I.tuple (.inl h1)
  let#[c,q2,p2,_]:=I.tuple (.inl h2)
  have F:=q1.length;have E:=q2.length;have q:∀j (o:j<d.toArray.size) (p:j<c.toArray.size),EqAt A.in1 s d.toArray[j] c.toArray[j] ((λ_=>true) j):=λj o p=>by
   let#[x,ex,D]:=Qc q1 (j:=j) (by simpa using o)
   let#[y,B,C]:=Qc q2 (j:=j) (by simpa using p)
   exact vj I (ih j x y ex B) D C (by rw[J6];lia)
  have f:=RcAt.tuples (A:=A) (e:=λ_=>true) (show s.heap.IsTuple a d.toArray from r) (show s.heap.IsTuple b c.toArray from p2) (by lia) q
  have g:=RcNeAt.tuples (A:=A) (e:=λ_=>true) (show s.heap.IsTuple a d.toArray from r) (show s.heap.IsTuple b c.toArray from p2) (by lia) q
  rw[b8,show(d.toArray.size==c.toArray.size)=true by simp;lia]at f g
  exact#[f,g]
 | @lst n a b xs ys h1 h2 hl ih=>
  cases(show v=Γ.ref a from l)
  cases(show u=Γ.ref b from m)
  let#[d,q1,r,_]:=I.list (HK.of h1)
  let#[c,q2,p2,_]:=I.list (HK.of h2)
  have F:=q1.length;have E:=q2.length;have q:∀j (o:j<d.toArray.size) (p:j<c.toArray.size),EqAt A.in1 s d.toArray[j] c.toArray[j] ((λ_=>true) j):=λj o p=>by
   let#[x,ex,D]:=Qc q1 (j:=j) (by simpa using o)
   let#[y,B,C]:=Qc q2 (j:=j) (by simpa using p)
   exact vj I (ih j x y ex B) D C (by rw[J6];lia)
  have f:=RcAt.lists (A:=A) (e:=λ_=>true) r.isList p2.isList (by simp;lia) (by lia) q
  have g:=RcNeAt.lists (A:=A) (e:=λ_=>true) r.isList p2.isList (by simp;lia) (by lia) q
  rw[b8]at f g
  exact#[f,g]
inductive Py (b:Bool)(x:V)(y:V)(H:Hp)(Q:VK):Prop
 |mk (n:_)(h1:n<=32)(h2:N9 H n x y)(h3:Q (.bl b) H)
noncomputable def F9(b:Bool):R2:=λx y H Q=>Py b x y H Q
theorem DI{k:Nat}(hr:HS k X.A):zj X (compareOp .NotEq) (F9 false):=by
 intro pins s σ H x y v u Q I c a h;let#[n,d,e,q]:=h
 exact(ET I e c a (by have:=hr.un;lia)).2 _ _ _ _ #[.bl _,H,I,Z,q]
end
end L3
namespace L3
open PySem PySem.Spec PyProof.Rows L2
open Sem (wp)
noncomputable def Br(x:Str):It:=#[λi _=>i<x.cps.size,λi H v H'=>H'=H/\∃c,x.cps[i]? =↑c/\v= .str #[(B1 [c])],λi _=>x.cps.size<=i]
theorem Ak{K:ι}(it:Δ)(x:Str)(t:Tok):Na P w K tg (Br x) [it] it (λi h=>h.IsStrIter it "str_ascii_iterator" x t i) where
 mem:=by simp
 obj:=λi h st b a=>by
  have e:b=it:=by simpa using a
  subst e;let#[o,e,c,d]:=st
  exact#[o,e,λv z=>by rw[d]at z;cases z]
 keep:=λi h h' st k=>let⟨o,e,r⟩:=st;#[o,k it (by simp) o e,r]
 item:=by
  intro X C A B y i pins s σ H E I g st n;subst C A B;let#[q,f1,f2,j,p,l]:=g it (by simp)
  have W:=Walks.strAscii (prog:=X.prog) (w:=X.w) (I.ok.hd y) it x t
  refine W.item i s _ _ n st λv h' tk G f L=>?_
  let#[c,u,m,rfl]:=G;have J:L2.HH X pins σ H {s with heap:=h',toks:=tk}:=I.turned (λb o a e=>L b o (by simpa using a) e) q f1 j p l
  let#[o,e,F,d]:=id f
  exact#[0,cg (s:={s with heap:=h',toks:=tk}) e F d ⋯ #[.str #[(B1 [c])],H,J,#[u,Z],#[Z,c,m,Z],f,λb a=>(g b a).1]]
 done:=by
  intro X C A B y i pins s σ H E I g st n;subst C A B;let#[q,f1,f2,j,p,l]:=g it (by simp)
  have D:x.cps.size<=i:=n
  exact wpAny_pyNext_ascii_end (I.ok.hd y) st (by simp [D]) λh' M=>#[Z,I.turned (t':=s.toks) (λb o a e=>M b o a e) q f1 j p l]
 self:=λ_ _ _ _ _ st h=>wpAny_pyIter_striter_ascii st h
section
noncomputable def En(tl:TE):TI:=λσ H R=>tl σ H λv H1=>∃x,v= .str x/\x.cps.all (· <128)=true/\R (Br x) H1
theorem Dv(hl:PE X l tl):PI X tg l (En tl):=by
 intro pins s σ H R I h;refine qB (hl pins s σ H _ I h) λv c i=>?_
 let#[x,H1,a,f,q1]:=i;let#[z,rfl,g,q]:=q1;let#[t,rfl]:=f;refine wpAny_pyIter_ascii g ?_
 refine#[c.heap.objs.size,[c.heap.objs.size],16,H1,Z,a.kept (t':=c.toks) λb o e=>Jh _ e,Ak _ z t,#[_,Jr _ Z,7],λb d=>?_,q]
 rw[Jm.mp d];exact a.fpOk (Jd _) (a.hok.fresh (Jd _))
theorem vQ(hl:QE X l tl):QI X tg l (En tl):=#[Dv hl.h]
end
theorem BO{x:Str}{g:TG}{tb:TS}{D:MF}{σ:L2.St}{H:Hp}(Pv:Nat->L2.St->Hp->Prop)(e:Pv 0 σ H)
  (hs:∀i c σ H,x.cps[i]? =↑c->Pv i σ H->g (.str #[(B1 [c])]) σ H λa d=>tb {D with nx:=Pv (i+1),ct:=Pv (i+1),bk:=D.nx} a d)(hd:∀σ H,Pv x.cps.size σ H->D.nx σ H):ab (Br x) g tb D σ H:=
 fA Pv e (λi σ H hi p=>hi) (λ_=>Jd _) (λi v σ H H' hi p y=>by
  let#[rfl,c,f,rfl]:=y;exact hs i c σ H' f p) hd
section
variable{X:Cx}{o e:Φ}{es:Κ}{to:TE}{t:TA}{name:Str}{apos cpos:Pos}{T id:String}{r:V->Α->Hp->VK->Prop}
theorem Q9(i:PlainAttrs T)(f:Slot T name id)(h:typeOf (.builtin id)=pure (.type "method_descriptor"))(hm:pZ X id r)(ho:QE X o to)(ha:QA X (e::es) t)
  (d:attributeBase o name X.env (eval o X.env)=eval o X.env:=by rfl)
  (g:((backTo cpos (θ (e::es) X.env)).all (λx=> ! x.1)&&(backToKw cpos (keywordEach [] X.env)).all (λx=>x.1.isSome)
   &&decide ((e::es).length+([]:ν).length+(if([]:ν).isEmpty then 0 else 1)<30))=true:=by rfl)
  (c:(apos.endLine==cpos.line)=true:=by rfl)(hs:θ (e::es) X.env=(false,eval e X.env)::θ es X.env:=by rfl)(a:(backTo cpos (θ es X.env)).any (·.1)=false:=by rfl):
  QE X (.Call (.Attribute o name apos) (e::es) [] cpos) (Er X.K T r to t):=#[Fd i f h hm ho.h ha.h d g c hs a]
theorem zY:pZ X "list.append" pN:=ww
end
theorem bI(ns:Ε):∀n,n<=ns.length->preSum (λi=>ns.getD i 0) n=(ns.take n).sum
 |0,_=>by simp [preSum]
 |n+1,h=>by
  have a:n<ns.length:=by lia
  rw[preSum,bI ns n (by lia),Ig,Ji a,RD,List.sum_append,JN,Ji a]
  simp
theorem vc{B:Int}:∀{ns:Ε},(∀z∈ns,0<=z/\z<=B)->0<=ns.sum/\ns.sum<=ns.length*B
 | [],_=>#[by simp,by simp]
 |n::r,h=>by
  have h1:=h n JM;have c:=vc (ns:=r) λz a=>h z (JS _ a)
  rw[List.sum_cons,J2];exists by lia
  have:(((r.length+1:Nat):Int))*B=r.length*B+B:=by rw[Int.natCast_add,Int.add_mul];simp
  lia
section
theorem jQ(hc:X.calm=true):zt X (.builtin "sum") (λxs H Q=>∃(p:Δ) (ns:Ε),xs=[-p]/\Sq X.K H p (ns.map V.int)/\ns.length<=1000/\(∀z∈ns,0<=z/\z<=1000000)/\Q (.int ns.sum) H):=by
 intro pins s σ H xs U Q I r h;let#[p,ns,rfl,w,T,L,q]:=h;let#[u,rfl,P]:=Qv r;cases P;have bd:∀n,n<=ns.length->0<=preSum (λi=>ns.getD i 0) n/\preSum (λi=>ns.getD i 0) n<=1000000000:=λn O=>by
  rw[bI ns n O];have h1:=vc (B:=1000000) (ns:=ns.take n) λz m=>L z (RF m)
  have S:(ns.take n).length<=1000:=by rw[JP];lia
  lia
 have C:∀j,j<ns.length->InLong ((λi=>ns.getD i 0) j)/\InLong (preSum (λi=>ns.getD i 0) (j+1)):=λj l=>by
  have W:=bd (j+1) (by lia)
  have R:0<=ns.getD j 0/\ns.getD j 0<=1000000:=by
   rw[JN,Ji l];exact L _ (Gz l)
  unfold InLong;simp only
  lia
 have G:preSum (λi=>ns.getD i 0) ns.length=ns.sum:=by rw[bI ns _ (Jd _),J5]
 have val:∀{a:Η},HL (ns.map V.int) a->∀(i:Nat) (v:Γ),a.toArray[i]? =↑v->∃t,v= .int ((λi=>ns.getD i 0) i) t:=λ{a} g i v M=>by
  have y:a[i]? =↑v:=by simpa using M
  have hi:i<a.length:=(Jw.mp y).1
  let#[x,ex,N]:=Qc g hi;let#[z,rfl,m]:=Q0 ex;let#[t,J]:=N;exists t
  rw[(Jw.mp y).2]at J;rw[J]
  show Γ.int z t=Γ.int (ns.getD i 0) t
  rw[JN,m];rfl
 rcases w with w|w
 .let#[a,g,pl,m]:=I.list w
  have c:ns.length=a.length:=by have:=g.length;rwa [Jf]at this
  have f:p<s.heap.objs.size:=by let#[_,e,_]:=pl.isList;exact Jk e
  refine call_sum_walk (IF pl.isList ?_)
  refine#[s.heap.objs.size,[s.heap.objs.size,p],[s.heap.objs.size],a.toArray.size,16,λi=>ns.getD i 0,Z,Walks.list (A:=X.A.in1) (I.ok.hd hc) _ p (Jq f) a.toArray,
   #[#[_,Jr _ Z,7],pl.isList.push _],λb d=>?_,val g,λj l=>C j (by simp at l;lia),λh' tk t' hk=>?_]
  .have sz:(s.heap.push {cls:= .type "list_iterator",data:= .fields (B1 [-p,.int 0 0])}).objs.size=s.heap.objs.size+1:=J9 ..
   simp only[Jp,JE,JF]at d
   show b<(Ψ.push s.heap _).objs.size
   rw[J9];rcases d with rfl|rfl
   .exact Ib _
   .exact IM f
  .have F:preSum (λi=>ns.getD i 0) a.toArray.size=ns.sum:=by rw[Js,<- c];exact G
   rw[F];refine#[.int _,H,I.kept (h':=h') (t':=tk) λb o q=>hk b o (λD=>?_) (Jh _ q),#[0],q]
   rw[Jm.mp D]at q;exact GJ _ (Jk q)
 .let#[a,g,pl,m]:=I.tuple w
  have c:ns.length=a.length:=by have:=g.length;rwa [Jf]at this
  have E:s.heap.IsTuple p a.toArray:=pl
  have f:p<s.heap.objs.size:=by let#[_,e,_]:=E;exact Jk e
  refine call_sum_walk (Il E ?_)
  refine#[s.heap.objs.size,[s.heap.objs.size,p],[s.heap.objs.size],a.toArray.size,16,λi=>ns.getD i 0,Z,Walks.tuple (A:=X.A.in1) (I.ok.hd hc) _ p (Jq f) a.toArray,
   #[#[_,Jr _ Z,7],let⟨o,e,r⟩:=E;#[o,Jh _ e,r]],λb d=>?_,val g,λj l=>C j (by simp at l;lia),λh' tk t' hk=>?_]
  .simp only[Jp,JE,JF]at d
   show b<(Ψ.push s.heap _).objs.size
   rw[J9];rcases d with rfl|rfl
   .exact Ib _
   .exact IM f
  .have F:preSum (λi=>ns.getD i 0) a.toArray.size=ns.sum:=by rw[Js,<- c];exact G
   rw[F];refine#[.int _,H,I.kept (h':=h') (t':=tk) λb o q=>hk b o (λD=>?_) (Jh _ q),#[0],q]
   rw[Jm.mp D]at q;exact GJ _ (Jk q)
end
end L3
namespace L3
open PySem PySem.Spec PyProof.Rows L2
section
theorem yu:yf X (λx y H Q=>∃(p:Δ) (xs:Α) (i:Nat) (v:V),x= .ref p/\y= .int (i:Int)/\H p=↑(.lst xs)/\xs[i]? =↑v/\Q v H):=by
 intro pins s σ H o i m z Q I g l h;let#[p,xs,j,v,rfl,rfl,e,a,q]:=h;cases g;let#[t,rfl]:=l;let#[d,r,pl,A]:=I.list (HK.of e)
 let#[u,c,f]:=r.get a;have n:=r.length;have B:=aj;have w:j<xs.length:=(Jw.mp a).1
 exact wpAny_getItem_list pl.isList (by lia) (by lia) (by simpa using c) #[v,H,I,f,q]
end
def ZF(z:Str):Prop:=(∀c∈z.cps.toList,97<=c/\c<=122)/\1<=z.cps.toList.length/\z.cps.toList.length<=8
theorem lJ(h:ZF z):z.cps.all (· <128)=true:=by
 rw[Array.all_eq_true'];intro c a
 have:=h.1 c (by simpa using a)
 simp;lia
noncomputable def yt(c:Nat):Ε:=[((c:Int)-97)%16,((c:Int)-97)/16]
noncomputable def Zn(a:Ζ):Ε:=a.flatMap yt
theorem wW(a:Ζ)(c:Nat):Zn (a++[c])=Zn a++yt c:=by simp [Zn]
theorem kJ(a:Ζ):(Zn a).length=2*a.length:=by
 induction a with
 |nil=>rfl
 |cons c r ih=>simp only[Zn,RG,Jz,J2]at ih⊢;rw[ih];simp [yt];lia
noncomputable def jN(ds:Ε)(j:Nat):Nat->Int
 |0=>0
 |n+1=>jN ds j n+if n%4=j then ds.getD n 0 else 0
noncomputable def aa(ds:Ε)(n:Nat):Ε:=[jN ds 0 n,jN ds 1 n,jN ds 2 n,jN ds 3 n]
theorem wN(ds:Ε)(n:Nat):(aa ds n).set (n%4) ((aa ds n).getD (n%4) 0+ds.getD n 0)=aa ds (n+1):=by
 have h:n%4=0\/n%4=1\/n%4=2\/n%4=3:=by lia
 rcases h with h|h|h|h<;>simp [aa,jN,h]
noncomputable def bJ(ds:Ε):Ε:=(aa ds ds.length).map (· %16)
theorem nO(ds:Ε):(bJ ds).length=4:=Z
inductive ki(vs:Α)(H:Hp)(Q:VK)(_:XK):Prop
 |mk (z:_)(h1:vs=[.str z])(h2:ZF z)(h3:∀l H',HE H H'->H l=none->H' l=↑(.lst ((Zn z.cps.toList).map V.int))->Q (-l) H')
inductive fJ(K:ι)(vs:Α)(H:Hp)(Q:VK)(_:XK):Prop
 |mk (a b:Δ)(z:Str)(t ks:Ε)(h1:vs=[-a,-b,.str z])(h2:Sq K H a (t.map V.int))(h3:Sq K H b (ks.map V.int))(h4:ZF z)(h5:t.length=16)(h6:∀p H',HE H H'->H p=none->H' p=↑(.tup ((Qz t ks (bJ (Zn z.cps.toList))).map V.int))->Q (-p) H')
theorem Cu{a:Ζ}{i c:Nat}(h:a[i]? =↑c):a.take (i+1)=a.take i++[c]:=by rw[Ig,h];rfl
theorem sC{z:Str}{i c:Nat}(h:z.cps[i]? =↑c):z.cps.toList[i]? =↑c:=by simpa using h
theorem xo{X:Cx}{scope:Scope}{y z:Str}{j k:Nat}(e:scope.kind= .function)(c:∀x∈scope.names,x.2= .local->scope.names.lookup x.1=some .local)(a:∀x∈scope.names,x.2≠ .cell)
  (d:∀x∈scope.names,x.2= .free->x.1∈([y,z]:Β))(h1:X.N[j]? =↑y)(h2:X.env.kindOf y=some .cell)(n:(relabel scope X.env).names.lookup y=some .cell)
  (m:X.N[k]? =↑z)(l:X.env.kindOf z=some .cell)(h:(relabel scope X.env).names.lookup z=some .cell):Mw X scope [y,z] [j,k]:=
 #[e,c,a,d,Z,λi o p f g=>by
  match i with
  |0=>cases f;cases g;exact#[h1,h2,n]
  |1=>cases f;cases g;exact#[m,l,h]
  |i+2=>simp at f]
theorem ym{X:Cx}{c d:Δ}(h:X.env.cells.lookup y=↑c)(g:X.env.cells.lookup z=↑d):∀u e,([(y,c),(z,d)]:List (Str×Δ)).lookup u=↑e->X.env.cells.lookup u=↑e:=λu e a=>by
 by_cases f:u=y
 .subst f
  simp at a
  rw[<- a];exact h
 .by_cases i:u=z
  .subst i
   simp [GW,show(u==y)=false from by simpa using f]at a
   rw[<- a];exact g
  .simp [GW,show(u==y)=false from by simpa using f,show(u==z)=false from by simpa using i]at a
end L3
namespace L3
open PySem PySem.Spec PyProof.Rows L2
open Sem (wp)
section
variable{prog:Ξ}{w:Ω}{A:Around}{E:Hu}{s:Θ}
theorem i3{it t:Δ}{items:Array Γ}(g:t≠it):∀(n i:Nat) (s:Θ) (Q:Η->Θ->Prop),s.heap.IsListIter it t i->s.heap.IsList t items->i+n<=items.size->
  (∀h',h'.IsListIter it t (i+n)->Ψ.SameBut it s.heap h'->Q ((items.toList.drop i).take n) {s with heap:=h'})->ε (model prog w) A (draw (-it) n) Q E s
 |0,i,s,Q,hit,_,_,hQ=>by
  show ε _ _ (pure []) Q E s
  refine Je ?_
  have:=hQ s.heap hit (Ψ.SameBut.refl ..)
  simpa using this
 |n+1,i,s,Q,hit,ht,hle,hQ=>by
  have l:i<items.size:=by lia
  show ε _ _ (pyNext (-it) >>= _) Q E s
  refine Ja (wpAny_pyNext_list_item hit ht (x:=items[i]) (by simp [l]) λh d a=>?_)
  have m:(Θ.heap {s with heap:=h}).IsList t items:=let⟨o,e,r⟩:=ht;#[o,a.extBut _ _ g e,r]
  refine Ja (JO (i3 g n (i+1) _ _ d m (by lia) λj c f=>Je ?_))
  have p:items.toList.drop i=items[i]::items.toList.drop (i+1):=by simp [Kv,l]
  have z:=hQ j (by rw[show i+(n+1)=i+1+n by lia];exact c) (a.trans f)
  rw[p,List.take_succ_cons]at z;exact z
theorem oy{a:List (Bool×(Γ->Sem Unit))}{Q:Unit->Θ->Prop}(u:A.handled=none)(l:s.heap.IsList t items)
  (hn:a.length=items.size)(i:a.findIdx? (·.1)=none)
  (h:∀h',Ψ.ExtBut s.heap.objs.size s.heap h'->ε (model prog w) A (assignInOrder (a.map (·.2)) items.toList) Q E {s with heap:=h'}):
  ε (model prog w) A (unpack (-t) a) Q E s:=by
 have p:t≠s.heap.objs.size:=by let#[o,v,_]:=l;exact Jq (Jk v)
 unfold unpack;rw[hn,i];refine Ja (JO ?_)
 unfold unpackItems;refine Ja ?_
 unfold notIterableAtAll;refine Ja (IT l.typeIs F.slot_list_iter.lookup ?_)
 refine Je ?_
 simp only[KI,JU];refine Ja (JO (IF l ?_))
 refine Ja (JO (i3 p items.size 0 _ _ #[_,Jr _ Z,7] (l.push _) (by lia) λj d c=>?_))
 have n:List.take items.size (List.drop 0 items.toList)=items.toList:=by
  rw[OF];exact Iy (by simp)
 rw[n];rw[Jb (by simp)]
 have g:j.IsList t items:=let⟨o,e,r⟩:=l.push _;#[o,c.extBut _ _ p e,r]
 refine Ja (JO (wpAny_pyNext_list_end u d g (by simp) λm f=>?_))
 simp only[Option.isSome_none,KI,JU];exact Je (h m λb o q e=>f b o q (c.extBut b o q (Jh _ e)))
inductive PB (K:ι)(n:Nat)(t:ac)(v:V)(σ:L2.St)(H:Hp)(Q:L2.St->Hp->Prop):Prop
 |mk (a:_)(xs:_)(h1:v= .ref a)(h2:Sq K H a xs)(h3:xs.length=n)(h4:t xs σ H Q)
noncomputable def EW(K:ι)(n:Nat)(t:ac):TG:=λv σ H Q=>PB K n t v σ H Q
theorem C6{k:Nat}{n:Nat}(hc:X.calm=true)(h:rH X es t)
  (hn:(assignEach es X.env).length=n:=by rfl)(hst:(assignEach es X.env).findIdx? (·.1)=none:=by rfl):PG X (.Tuple es k pos) (EW X.K n t):=by
 intro pins s σ H v u Q I r d;let#[a,xs,g,c,f,d]:=d;rcases c with c|c
 .subst g
  cases r;let#[m,i,p,q]:=I.list c;rw[assign_Tuple];refine Ja (IE (oy (I.ok.hd hc) p.isList (by simp [hn,<- f,i.length]) hst λh' j=>?_))
  have l:L2.HH X pins σ H {s with heap:=h'}:=I.kept (t':=s.toks) λb o e=>j b o (Jq (Jk e)) e
  exact h pins _ σ H xs _ Q l (by simpa using i) d
 .exact mB hc h hn hst pins s σ H v u Q I r #[a,xs,g,c,f,d]
theorem af{k:Nat}{n:Nat}(hc:X.calm=true)(h:Ph X es t)
  (hn:(assignEach es X.env).length=n:=by rfl)(hst:(assignEach es X.env).findIdx? (·.1)=none:=by rfl):QG X (.Tuple es k pos) (EW X.K n t):=#[C6 hc h.h hn hst]
end
end L3
namespace L3
open PySem PySem.Spec PyProof.Rows L2
noncomputable def zO(c d:Int):Ε:=[c%16,c/16%16,c/256,d]
noncomputable def aI(c d:Int):Ε:=zO c d++[(zO c d).sum%16]
noncomputable def bQ(t ks:Ε)(z:Str):Ε:=Qz t ks (bJ (Zn z.cps.toList))
noncomputable def aJ(t ks:Ε)(z:Str)(c d:Int):Ε:=Qz t (bQ t ks z) (aI c d)
noncomputable def jc(r:Ε):Option (Int×Int):=if r.getD 4 0=(r.getD 0 0+r.getD 1 0+r.getD 2 0+r.getD 3 0)%16 then ↑(r.getD 0 0+r.getD 1 0*16+r.getD 2 0*256,r.getD 3 0)else none
noncomputable def Qj(t ks:Ε)(z:Str)(ds:Ε):Option (Int×Int):=jc (Zq (zD t) (bQ t ks z) ds)
theorem cy(c d:Int):(aI c d).length=5:=Z
theorem n9(c d:Int):(zO c d).sum=c%16+c/16%16+c/256+d:=by simp [zO];lia
theorem hW{c:Int}(e:0<=c)(h1:c<4096)(hd:bB d):zA (aI c d):=λx a=>by
 simp only[aI,zO,Lh,Iq,Jp,JE,JF]at a;rcases a with rfl|rfl|rfl|rfl|rfl
 .exact Za _
 .exact Za _
 .exact#[by lia,by lia]
 .exact hd
 .exact Za _
theorem wE{c:Int}(a:0<=c)(h1:c<4096):jc (aI c d)=↑(c,d):=by
 have e:(aI c d)=[c%16,c/16%16,c/256,d,(c%16+c/16%16+c/256+d)%16]:=by unfold aI;rw[n9];rfl
 unfold jc;rw[e]
 show(if(c%16+c/16%16+c/256+d)%16=(c%16+c/16%16+c/256+d)%16 then ↑(c%16+c/16%16*16+c/256*256,d)else none)=_
 rw[Jc Z,show c%16+c/16%16*16+c/256*256=c by lia]
theorem CT{r:Ε}(hl:r.length=5):∃a b c d e:Int,r=[a,b,c,d,e]:=by
 match r,hl with
 | [a,b,c,d,e],_=>exact#[a,b,c,d,e,Z]
theorem wQ(t ks:Ε)(z:Str)(c d:Int):(aJ t ks z c d).length=5:=by unfold aJ;rw[aZ,cy]
theorem Aq{t:Ε}(p:t.Perm Mu){c:Int}(a:0<=c)(h1:c<4096)(hd:bB d):zA (aJ t ks z c d):=gI p (hW a h1 hd)
theorem eI{t:Ε}(p:t.Perm Mu){c:Int}(a:0<=c)(h1:c<4096)(hd:bB d):Qj t ks z (aJ t ks z c d)=↑(c,d):=by
 unfold Qj aJ;rw[gL p (hW a h1 hd) (by rw[cy];decide),wE a h1]
noncomputable def eV(H:Hp)(x:V):Option (Int×Int)->Prop
 |none=>x= .non
 |some (c,d)=>∃p,x= .ref p/\H p=↑(.tup [.int c,.int d])
inductive De(vs:Α)(H:Hp)(Q:VK)(_:XK):Prop
 |mk (c:Int)(h1:vs=[.int c])(h2:∀p H',HE H H'->H' p=↑(.tup [.int (c%16),.int (c/16%16),.int (c/256)])->Q (-p) H')
inductive rc(K:ι)(vs:Α)(H:Hp)(Q:VK)(_:XK):Prop
 |mk (a b:Δ)(z:Str)(age c d:Int)(t ks:Ε)(h1:vs=[-a,-b,.str z,.int age,.int c,.int d])(h2:Sq K H a (t.map V.int))(h3:Sq K H b (ks.map V.int))(h4:ZF z)(h5:t.length=16)(h6:0<=c)(h7:c<4096)(h8:bB d)(h9:∀p pc H',HE H H'->H' p=↑(.tup [.str z,.int age,-pc])->H' pc=↑(.tup ((aJ t ks z c d).map V.int))->Q (-p) H')
inductive nX(K:ι)(vs:Α)(H:Hp)(Q:VK)(_:XK):Prop
 |mk (a b pr pc:Δ)(z:Str)(age:Int)(t ks ds:Ε)(h1:vs=[-a,-b,-pr])(h2:Sq K H a (t.map V.int))(h3:Sq K H b (ks.map V.int))(h4:Sq K H pr [.str z,.int age,-pc])(h5:Sq K H pc (ds.map V.int))(h6:ZF z)(h7:t.Perm Mu)(h8:ds.length=5)(h9:zA ds)(h10:∀x H',HE H H'->eV H' x (Qj t ks z ds)->Q x H')
def bN(K:ι)(H:Hp)(a:Δ)(f:Str)(v:V):Prop:=∃C dx fs,H a=↑(.ins C dx fs)/\Ob K C/\Ma K C f/\fs.lookup f=↑v
def oi(K:ι)(H:Hp)(a:Δ)(f:Str)(v:V)(H':Hp):Prop:=∃C dx fs,H a=↑(.ins C dx fs)/\Ob K C/\Ma K C f/\fs.length<1000/\H'=HG H a (.ins C dx (QJ f v fs))
def FC(C:Δ)(H:Hp)(a:Δ)(m:Str):Prop:=∃dx fs,H a=↑(.ins C dx fs)/\fs.lookup m=none
noncomputable def Bo(K:ι)(ta:TE)(f:Str):TE:=λσ H Q=>ta σ H λx H1=>∃a v,x= .ref a/\bN K H1 a f v/\Q v H1
noncomputable def Fw(K:ι)(ta tv:TE)(f:Str):TS:=λD σ H=>tv σ H λy H1=>ta σ H1 λx d=>∃a c,x= .ref a/\oi K d a f y c/\D.nx σ c
noncomputable def vB(C:Δ)(m:Str)(sp:Sp)(ta:TE)(t:TA):TE:=λσ H Q=>ta σ H λx H1=>∃a,x= .ref a/\FC C H1 a m/\t σ H1 λd c=>sp (x::(d++[])) c Q E0
section
theorem zd(he:QE X e ta)(hb:attributeBase e f X.env (eval e X.env)=eval e X.env:=by rfl):QE X (.Attribute e f pos) (Bo X.K ta f):=#[by
 intro pins s σ H Q I h;refine Cz hb (qB (he.h pins s σ H _ I h) λu r o=>?_)
 let#[x,H1,g,m,a,v,ex,#[C,dx,fs,i,c,n,l],q]:=o;subst ex
 obtain rfl:u=Γ.ref a:=m
 exact sP g i c n l λt p d j=>#[v,H1,d,j,q]]
theorem ZB(ha:QE X o ta)(hv:QE X value tv)(hs:swapsWith value ↑(.Attribute o f pos') pos.line X.env=pure false:=by rfl):QS X (.Assign [.Attribute o f pos'] value pos) (Fw X.K ta tv f):=#[by
 intro pins s σ H D I h;refine plainObj_wpAny_Assign_Attribute (qB (hv.h pins s σ H _ I h) λu t ⟨y,H1,g,i,q⟩=>qB (ha.h pins t σ H1 _ g q) λe A v=>?_) hs
 let#[x,z,d,r,a,w,ex,#[C,dx,fs,j,c,n,l,p],q2]:=v;subst ex p
 obtain rfl:e=Γ.ref a:=r
 exact sU d j c n l i λB m=>#[σ,_,m,q2]]
end
structure Mf(P:Ξ)(w:Ω)(K:ι)(mg:HC)(base:Ψ)(C:Δ)(m:Str)(ps:Β)(k:Nat)(sp:Sp):Prop where
 ex:∃(f:Δ) (fd:FuncData),M5 P w K mg base ZS k f fd ps sp/\OV K C m f/\MK K fd ps []
structure ND(K:ι)(C:Δ)(m gV:Str)(st:δ)(ps:Β):Prop where
 ex:∃(f:Δ) (fd:FuncData),Oc K m gV st f fd/\OV K C m f/\MK K fd ps []
structure Mi(P:Ξ)(w:Ω)(K:ι)(mg:HC)(base:Ψ)(C:Δ)(x:Str)(ps:Β)(k:Nat)(sp:Sp):Prop where
 ex:∃(f:Δ) (fd:FuncData),M5 P w K mg base ZS k f fd ps sp/\Mk K C f/\mg x=↑(-C)/\MK K fd ps []
section
variable{K:ι}{X:Cx}{x:Str}{k:Nat}{o e:Φ}{es:Κ}{apos:Pos}{t:TA}{to:TE}{name:Str}{cpos:Pos}{T id:String}{r:V->Α->Hp->VK->Prop}
theorem ND.mq{m:Str}{st:δ}{ps:Β}{k:Nat}{sp:Sp}(a:ND K C m gV st ps)(S:HF N ps (ql st))
  (d:∀(f:Δ) (cdv:Γ) (A:Around) (c:Τ) (s:Θ) (H:Hp) (vs:Α) (Q:VK) (E:XK),HS k (A.deeper (envOfC gV (ql st) s.heap.objs.size f cdv))->sp vs H Q E->
   ∃t,Oy (ZE ZS P w K mg base N gV (ql st) f cdv A c s H E).nox (zi st) t/\t {nx:=λ_ H'=>Q .non H',rt:=Q} (ME N vs) H)(e:∀vs H Q E,sp vs H Q E->vs.length=ps.length:=by intro vs H Q E h;first|(cases h;subst_vars;rfl)|((repeat first|let#[rfl,h]:=h|let#[_,h]:=h);all_goals rfl)):Mf P w K mg base C m ps (k+1) sp:=by
 let#[f,fd,F,m,bd]:=a.ex
 exact#[f,fd,F.ok S e (λcdv A c s H vs Q E g h=>let⟨t,q1,q2⟩:=d f cdv A c s H vs Q E g h;#[t,q1.h,q2]),m,bd]
theorem Mf.mi{x:Str}{ps:Β}{k:Nat}{sp:Sp}(a:Mf P w K mg base C "__init__" ps k sp)(c:W.makesIn K C=true)(d:W.keepIn K (-C)=true)(hx:mg x=↑(-C)):Mi P w K mg base C x ps k sp:=
 let⟨f,fd,F,m,bd⟩:=a.ex;#[f,fd,F,#[c,m.at_,m.fn,d],hx,bd]
theorem zu{pl:Sem Bool}(M:Mf X.prog X.w X.K X.mg X.base C m ps k sp)(c:Ob X.K C)(hr:HS k X.A)(he:QE X o ta)(ha:QA X (e::es) t)
  (hst:θ (e::es) X.env=(false,eval e X.env)::θ es X.env:=by rfl)(hpl:(backTo pos (θ es X.env)).any (·.1)=false:=by rfl)
  (y:eval (.Call (.Attribute o m apos) (e::es) [] pos) X.env=(do
   let g <- eval o X.env
   standAt apos.atName
   let(f,first) <- holding [g] (getMethod g m pl)
   callWith pos f first (backTo pos (θ (e::es) X.env)) (backToKw pos (keywordEach [] X.env))):=by rfl):
  QE X (.Call (.Attribute o m apos) (e::es) [] pos) (vB C m sp ta t):=#[by
 let#[f,fd,F,j,v]:=M.ex;intro pins s σ H Q I h;refine W.methodCall_KW (pl:=pl) (qB (he.h pins s σ H _ I h) λu p z=>?_) y
 let#[x,H1,i,w,a,ex,#[dx,fs,n,l],q]:=z;subst ex
 obtain rfl:u=Γ.ref a:=w
 refine iI i n c j l ?_
 refine W.callWith_K (first:=[-a]) (h₀:=X.base) I.ok.mod.kin j.kp (qB (ha.h pos pins p σ H1 _ i q) λus B ⟨vs,A,d,r,q2⟩=>#[d.kIn,?_]) hst hpl
 exact nD (us:= .ref a::us) (vs:= .ref a::vs) F hr v .nil lE d (.cons Z r) q2]
theorem cA{pl:Sem Bool}(M:Mf X.prog X.w X.K X.mg X.base C m ps k sp)(c:Ob X.K C)(hr:HS k X.A)(he:QE X o ta)
  (p:eval (.Call (.Attribute o m apos) [] [] pos) X.env=(do
   let e <- eval o X.env
   standAt apos.atName
   let(f,first) <- holding [e] (getMethod e m pl)
   callWith pos f first (backTo pos (θ [] X.env)) (backToKw pos (keywordEach [] X.env))):=by rfl):
  QE X (.Call (.Attribute o m apos) [] [] pos) (vB C m sp ta jv):=#[by
 let#[f,fd,F,g,j]:=M.ex;intro pins s σ H Q I h;refine W.methodCall_KW (pl:=pl) (qB (he.h pins s σ H _ I h) λu t r=>?_) p
 let#[x,H1,d,n,a,ex,#[dx,fs,i,l],q]:=r;subst ex
 obtain rfl:u=Γ.ref a:=n
 refine iI d i c g l ?_
 exact W.callWith_K0 (first:=[-a]) d.kIn g.kp (nD (us:=[-a]) (vs:=[-a]) F hr j .nil lE d (.cons Z .nil) q)]
theorem CI(M:Mi X.prog X.w X.K X.mg X.base C x ps k sp)(hr:HS (k+1) X.A)(ha:QA X (e::es) t)(hg:Gl X x:=by rfl)(hdb:(x==("__debug__":Str))=false:=by decide)
  (he:θ (e::es) X.env=(false,eval e X.env)::θ es X.env:=by rfl)(hpl:(backTo pos (θ es X.env)).any (·.1)=false:=by rfl):
  QE X (.Call (.Name x p) (e::es) [] pos) (Bw C sp [] E0 t):=#[by
 let#[f,fd,F,c,a,d]:=M.ex;exact Cv c F hr hg a d .nil lE ha.h hdb he hpl]
theorem Ei(j:X.K=K)(i:PlainAttrs T)(f:Slot T name id)(h:typeOf (.builtin id)=pure (.type "method_descriptor"))(hm:pZ X id r)(ho:QE X o to)(ha:QA X (e::es) t)
  (d:attributeBase o name X.env (eval o X.env)=eval o X.env:=by rfl)
  (g:((backTo cpos (θ (e::es) X.env)).all (λx=> ! x.1)&&(backToKw cpos (keywordEach [] X.env)).all (λx=>x.1.isSome)
   &&decide ((e::es).length+([]:ν).length+(if([]:ν).isEmpty then 0 else 1)<30))=true:=by rfl)
  (c:(apos.endLine==cpos.line)=true:=by rfl)(hs:θ (e::es) X.env=(false,eval e X.env)::θ es X.env:=by rfl)(a:(backTo cpos (θ es X.env)).any (·.1)=false:=by rfl):
  QE X (.Call (.Attribute o name apos) (e::es) [] cpos) (Er K T r to t):=by
 subst j;exact Q9 i f h hm ho ha d g c hs a
theorem yz:pZ X "list.pop" wR:=xp
end
theorem jX{f:Str}{v:V}:∀{fs:List (Str×V)} (i:Nat),fs[i]? =↑(f,v)->(fs.map (·.1)).Nodup->fs.lookup f=↑v
 | [],i,h,_=>by cases h
 |(g,x)::r,0,h,_=>by
  cases Jx h
  exact RH
 |(g,x)::r,i+1,h,nd=>by
  have h':r[i]? =↑(f,v):=h
  have a:g∉r.map (·.1)/\(r.map (·.1)).Nodup:=Ii.mp nd
  have c:f∈r.map (·.1):=Ju.mpr #[(f,v),Jy h',Z]
  have d:f≠g:=λz=>a.1 (z▸c)
  rw[GW,IW d];exact jX i h' a.2
theorem km{f:Str}:∀{fs:List (Str×V)},f∉fs.map (·.1)->fs.lookup f=none
 | [],_=>rfl
 |(g,x)::r,h=>by
  have a:f≠g:=λz=>h (z▸JM ..)
  rw[GW,IW a];exact km λz=>h (JS _ z)
theorem rL{f:Str}{v u:V}:∀{fs:List (Str×V)} (i:Nat),fs[i]? =↑(f,u)->(fs.map (·.1)).Nodup->QJ f v fs=fs.set i (f,v)
 | [],i,h,_=>by cases h
 |(g,x)::r,0,h,_=>by
  cases Jx h
  show(if f=f then _ else _)=_
  rw[Jc Z];rfl
 |(g,x)::r,i+1,h,nd=>by
  have h':r[i]? =↑(f,u):=h
  have a:g∉r.map (·.1)/\(r.map (·.1)).Nodup:=Ii.mp nd
  have c:f∈r.map (·.1):=Ju.mpr #[(f,u),Jy h',Z]
  have d:¬g=f:=λz=>a.1 (z▸c)
  show(if g=f then _ else(g,x)::QJ f v r)=_
  rw[Jb d,rL i h' a.2];rfl
theorem nu{f:Str}{v:V}:∀{fs:List (Str×V)},f∉fs.map (·.1)->QJ f v fs=fs++[(f,v)]
 | [],_=>rfl
 |(g,x)::r,h=>by
  have a:¬g=f:=λz=>h (z▸JM ..)
  show(if g=f then _ else(g,x)::QJ f v r)=_
  rw[Jb a,nu λz=>h (JS _ z)];rfl
def Mv(S:Ι)(H H':Hp):Prop:=∀c o,c∉S->H c=↑o->H' c=↑o
theorem Mv.refl:Mv S H H:=λ_ _ _ e=>e
theorem Mv.trans(a:Mv S H H1)(b:Mv S H1 H2):Mv S H H2:=λc o n e=>b c o n (a c o n e)
theorem Mv.mono{d:Ι}(a:Mv S H H')(h:∀c,c∉d->c∉S):Mv d H H':=λc o n e=>a c o (h c n) e
theorem _root_.L2.HE.mv(a:HE H H'):Mv S H H':=λc o _ e=>a c o e
theorem Mv.upd1{a:Δ}:Mv [a] H (HG H a o):=λc u n e=>by
 rw[qh (λz=>n (Jm.mpr z))];exact e
theorem Mj.mv{b:Δ}(g:Mj b n H H'):Mv [b] H H':=λc o h e=>g.kp c o (λz=>h (Jm.mpr z)) e
noncomputable def Bs:HO->Prop
 | .tup _=>False
 | .frz _ (.dK _)=>True
 | .frz _ _=>False
 |_=>True
def NT(S:Ι)(H:Hp):Prop:=∀c,c∈S->∃o,H c=↑o/\Bs o
theorem Mv.rd(m:Mv S H H')(n:NT S H)(h:Rd H a (.tup xs)):Rd H' a (.tup xs):=by
 have c:a∉S:=λz=>by
  let#[o,e,no]:=n a z;rcases h with h|⟨o',h⟩
  .rw[e]at h;cases h;exact no
  .rw[e]at h;cases h;exact no
 rcases h with h|⟨o',h⟩
 .exact .inl (m _ _ c h)
 .exact .inr #[o',m _ _ c h]
theorem Mv.sqt{K:ι}(m:Mv S H H')(n:NT S H)(h:HP K H a xs):HP K H' a xs:=by
 rcases h with h|h
 .exact .inl (m.rd n h)
 .exact .inr h
inductive mV(vs:Α)(H:Hp)(Q:VK)(_:XK):Prop
 |mk (b:Δ)(c:Nat)(h1:vs=[-b])(h2:Mn H b c)(h3:c<100000000)(h4:∀p (t:Ε) H',Mj b (c+16) H H'->H p=none->H' p=↑(.tup (t.map V.int))->t.Perm Mu->Q (-p) H')
theorem Mj.fresh{b:Δ}(g:Mj b n H H')(hb:Mn H b n)(h:H' c=Option.none):H c=Option.none:=by
 cases e:H c with
 |none=>rfl
 |some o=>
  by_cases z:c=b
  .subst z
   let#[_,_,_,a,_]:=g.bx;rw[a]at h;cases h
  .rw[g.kp c o z e]at h;cases h
theorem yW{K:ι}{Q:VK}(h:Sq K H a xs)(q:∀l H',HE H H'->HP K H' l xs->Q (-l) H'):(HK K H a xs/\∀l,H l=none->Q (-l) (HG H l (.tup xs)))\/(HP K H a xs/\Q (-a) H):=
 h.elim (λh=> .inl #[h,λl c=>q l _ (HE.upd c) (HP.of qc)]) λh=> .inr #[h,q a H (HE.refl _) h]
theorem jH{K:ι}{H:Hp}{fs:List (Str×V)}(e:H p=↑(.ins C dx fs))(h:HP K H a xs):HP K (HG H p o) a xs:=by
 rcases h with(h|⟨u,h⟩)|h
 .exact .inl (.inl (by rw[qh (qD h e (by intro z;cases z))];exact h))
 .exact .inl (.inr #[u,by rw[qh (qD h e (by intro z;cases z))];exact h])
 .exact .inr h
theorem ax{X:Cx}{K:ι}(a:X.K=K):zt X (.builtin "len") (λxs H Q=>∃p ys,xs=[-p]/\(HK K H p ys\/HP K H p ys)/\Q (.int (ys.length:Nat)) H):=by
 subst a;exact qN
theorem ot{k n:Nat}(h:k<n):seqIndex? (k:Int) n=↑k:=by
 unfold seqIndex?
 simp
 omega
theorem pj:zt X (.type "tuple") (λxs H Q=>∃p ys,xs=[-p]/\Sq X.K H p ys/\∀l H',HE H H'->HP X.K H' l ys->Q (-l) H'):=by
 intro pins s σ H xs a Q I r h;let#[p,ys,e,hs,q]:=h;exact qZ pins s σ H xs a Q I r #[p,ys,e,yW hs q]
theorem EV{xs ys:Α}(i:Nat){x y:V}(hx:xs[i]? =↑x)(a:ys[i]? =↑y)(h:x≠y):HO.lst xs≠HO.lst ys:=λz=>by
 injection z with z
 rw[z,a]at hx;exact h (Jx hx).symm
theorem Ct{c:Type}{d:List c}{f:c->Δ}{ys:Α}(i:Nat){y:V}(g:ys[i]? =↑y)(h:∀a,y≠ .ref a):HO.lst (d.map λo=>V.ref (f o))≠HO.lst ys:=λz=>by
 injection z with z
 have e:=JY (λl=>l[i]?) z
 simp only[Jo,g]at e;cases q:d[i]? with
 |none=>rw[q]at e;cases e
 |some a=>rw[q]at e;exact h _ (Jx e).symm
section
variable{b:Δ}{n:Nat}
theorem qK{a x:Δ}(h:a≠x):a∉[x]:=λz=>h (Jm.mp z)
theorem Qm(hb:Mn H b n):NT [b] H:=λc a=>by
 let#[_,_,_,e,_]:=hb;rw[Jm.mp a]
 exact#[_,e,trivial]
end
theorem Fs(n:Nat)(h:n<=100:=by omega):n<ζ:=KB h ⋯
theorem NT.one{H:Hp}{o:HO}(e:H a=↑o)(n:Bs o):NT [a] H:=λc d=>#[o,by rw[Jm.mp d];exact e,n]
end L3
namespace L2
open PySem PySem.Spec PyProof.Rows
section
variable{κ:Type}[DecidableEq κ]
noncomputable def zZ(kvs:List (κ×V))(k:κ):Μ:=(kvs.find? λa=>decide (a.1=k)).map (·.2)
noncomputable def Ml(kvs:List (κ×V))(k:κ)(v:V):List (κ×V):=
 if(kvs.any λa=>decide (a.1=k))=true then kvs.map (λa=>if a.1=k then(a.1,v)else a)else kvs++[(k,v)]
theorem zP{p:κ×V}{r:List (κ×V)}{k:κ}(e:p.1=k):zZ (p::r) k=↑p.2:=by simp [zZ,GA,e]
theorem zQ{p:κ×V}{r:List (κ×V)}{k:κ}(e:¬p.1=k):zZ (p::r) k=zZ r k:=by simp [zZ,GA,e]
theorem cG(k:κ):∀kvs:List (κ×V),(kvs.any λa=>decide (a.1=k))=(zZ kvs k).isSome
 | []=>rfl
 |p::r=>by
  rw[IK]
  by_cases e:p.1=k
  .simp only[zP e,Jj e,Bool.true_or,Option.isSome_some]
  .rw[zQ e,Jl e,RI];exact cG k r
theorem mj(k j:κ)(y:V):∀kvs:List (κ×V),zZ (kvs.map λa=>if a.1=k then(a.1,y)else a) j=(zZ kvs j).map λx=>if j=k then y else x
 | []=>rfl
 |p::r=>by
  have c:=mj k j y r;rw[JC]
  by_cases h:p.1=k
  .rw[Jc h]
   by_cases e:p.1=j
   .rw[zP (p:=(p.1,y)) e,zP e,NM,Jc (e.symm.trans h)]
   .rw[zQ (p:=(p.1,y)) e,zQ e,c]
  .rw[Jb h]
   by_cases e:p.1=j
   .rw[zP (p:=p) e,zP e,NM,Jb (λz=>h (e.trans z))]
   .rw[zQ (p:=p) e,zQ e,c]
theorem jY(k j:κ)(y:V):∀kvs:List (κ×V),zZ kvs k=none->zZ (kvs++[(k,y)]) j=if j=k then ↑y else zZ kvs j
 | [],_=>by
  by_cases e:k=j
  .rw[Jc e.symm];exact zP (p:=(k,y)) e
  .rw[Jb (λz=>e z.symm)];exact zQ (p:=(k,y)) e
 |p::r,hn=>by
  rw[Lh];have hk:¬p.1=k:=λz=>by rw[zP z]at hn;cases hn
  rw[zQ hk]at hn;have a:=jY k j y r hn
  by_cases e:p.1=j
  .rw[zP e,zP e,Jb (λz=>hk (e.trans z))]
  .rw[zQ e,zQ e,a]
theorem mN(kvs:List (κ×V))(k j:κ)(y:V):zZ (Ml kvs k y) j=if j=k then ↑y else zZ kvs j:=by
 unfold Ml
 by_cases a:(kvs.any λd=>decide (d.1=k))=true
 .rw[Jc a,mj]
  rw[cG]at a
  by_cases e:j=k
  .let#[x,c]:=Lb.mp a
   rw[Jc e,e,c,NM,Jc Z]
  .rw[Jb e]
   cases zZ kvs j with
   |none=>rfl
   |some x=>rw[NM,Jb e]
 .rw[Jb a]
  refine jY k j y kvs ?_
  rw[cG]at a;cases q:zZ kvs k with
  |none=>rfl
  |some x=>rw[q]at a;exact(a Z).elim
theorem bM(kvs:List (κ×V))(k:κ)(v:V):(Ml kvs k v).length<=kvs.length+1:=by
 unfold Ml;split
 .rw[Jf];lia
 .rw[Jz,J2,LH];lia
theorem MN.isSome_eq(r:MN o u):o.isSome=u.isSome:=by
 cases o with
 |none=>cases u with
  |none=>rfl
  |some _=>exact(show False from r).elim
 |some _=>cases u with
  |none=>exact(show False from r).elim
  |some _=>rfl
theorem MN.getD(r:MN o u)(rd:HJ d d'):HJ (o.getD d) (u.getD d'):=by
 cases o with
 |none=>cases u with
  |none=>exact rd
  |some _=>exact(show False from r).elim
 |some _=>cases u with
  |none=>exact(show False from r).elim
  |some _=>exact r
theorem KV.val(r:KV kvs vs)(k:κ):MN (zZ kvs k) (valueAt vs k):=by
 unfold KV at r
 induction r with
 |nil=>exact True.intro
 | @cons p q ps qs h t ih=>
  let#[h1,c]:=h
  by_cases e:p.1=k
  .have a:q.1=k:=h1.symm.trans e
   have b:valueAt (q::qs) k=↑q.2:=by simp [valueAt,GA,a]
   rw[zP e,b];exact c
  .have a:¬q.1=k:=λz=>e (h1.trans z)
   have b:valueAt (q::qs) k=valueAt qs k:=by simp [valueAt,GA,a]
   rw[zQ e,b];exact ih
theorem KV.any(r:KV kvs vs)(k:κ):(kvs.any λa=>decide (a.1=k))=vs.any λa=>decide (a.1=k):=by
 unfold KV at r
 induction r with
 |nil=>rfl
 |cons h t ih=>rw[IK,IK,ih,h.1]
theorem KV.repl(r:KV kvs vs)(k:κ)(d:HJ y u):
  KV (kvs.map λa=>if a.1=k then(a.1,y)else a) (vs.map λa=>if a.1=k then(a.1,u)else a):=by
 unfold KV at r⊢
 induction r with
 |nil=>exact .nil
 | @cons p q ps qs h t ih=>
  rw[JC,JC];refine .cons ?_ ih
  let#[h1,c]:=h
  by_cases e:p.1=k
  .rw[Jc e,Jc (h1.symm.trans e)];exact#[h1,d]
  .rw[Jb e,Jb (λz=>e (h1.trans z))];exact#[h1,c]
theorem KV.put(r:KV kvs vs)(k:κ)(a:HJ y u):KV (Ml kvs k y) (stored vs k u):=by
 unfold Ml stored;rw[r.any k]
 by_cases e:(vs.any λc=>decide (c.1=k))=true
 .rw[Jc e,Jc e];exact r.repl k a
 .rw[Jb e,Jb e];exact Paired.snoc r #[Z,a]
theorem KV.keys{kvs:List (κ×V)}{vs:List (κ×Γ)}(r:KV kvs vs):kvs.map (·.1)=vs.map (·.1):=by
 unfold KV at r
 induction r with
 |nil=>rfl
 |cons h t ih=>rw[JC,JC,ih,h.1]
theorem KV.length(r:KV kvs vs):kvs.length=vs.length:=J1 r
end
theorem bt{k:qE}(r:HJ (kV k) u):(qR P w).is k u=true:=by
 cases k with
 |inl i=>let#[t,e]:=(show∃t,u=Γ.int i t from r);subst e;exact oX P w i t
 |inr x=>let#[t,e]:=(show∃t,u=Γ.str x t from r);subst e;exact oH P w x t
theorem kD{P:Ξ}{w:Ω}:∀{ks:List qE} {us:Η},HL (ks.map kV) us->ItemsAre (qR P w) ks us
 | [],_,r=>by rw[N7]at r;cases r;exact .nil
 |k::ks,_,r=>by
  rw[JC]at r;cases r with
  |cons h t=>exact .cons (bt h) (kD t)
abbrev KT(H:Hp):List (List qE×V)->List (List qE×Δ×Γ)->Prop:=Paired λp q=>p.1=q.1/\H q.2.1=↑(.tup (p.1.map kV))/\HJ p.2 q.2.2
theorem KT.val(r:KT H kvs xs)(k:List qE):MN (zZ kvs k) ((atKey xs k).map (·.2)):=by
 induction r with
 |nil=>exact True.intro
 | @cons p q ps qs h t ih=>
  let#[h1,_,c]:=h
  by_cases e:p.1=k
  .have a:q.1=k:=h1.symm.trans e
   have b:atKey (q::qs) k=↑q.2:=by simp [atKey,GA,a]
   rw[zP e,b];exact c
  .have a:¬q.1=k:=λz=>e (h1.trans z)
   have b:atKey (q::qs) k=atKey qs k:=by simp [atKey,GA,a]
   rw[zQ e,b];exact ih
theorem KT.repl(r:KT H kvs xs)(k:List qE)(f:HJ y u):
  KT H (kvs.map λa=>if a.1=k then(a.1,y)else a) (xs.map (putAt k u)):=by
 induction r with
 |nil=>exact .nil
 | @cons p q ps qs h t ih=>
  rw[JC,JC];refine .cons ?_ ih
  let#[h1,c,d]:=h;unfold putAt
  by_cases e:p.1=k
  .rw[Jc e,Jc (h1.symm.trans e)];exact#[h1,c,f]
  .rw[Jb e,Jb (λz=>e (h1.trans z))];exact#[h1,c,d]
theorem KT.put(r:KT H kvs xs)(k:List qE){b:Δ}(hb:H b=↑(.tup (k.map kV)))(a:HJ y u):
  KT H (Ml kvs k y) (storedH xs k b u):=by
 have e:(kvs.any λc=>decide (c.1=k))=(atKey xs k).isSome:=by
  rw[cG,(r.val k).isSome_eq,Lv]
 unfold Ml storedH;rw[e]
 by_cases q:(atKey xs k).isSome=true
 .rw[Jc q,Jc q];exact r.repl k a
 .rw[Jb q,Jb q];exact Paired.snoc r #[Z,hb,a]
theorem KT.keeps{H':Hp}(r:KT H kvs xs)(a:∀b ys,H b=↑(.tup ys)->H' b=↑(.tup ys)):KT H' kvs xs:=
 Paired.mapP r λ_ _ z=>#[z.1,a _ _ z.2.1,z.2.2]
section
theorem Bt(ok:M4 P w H h)(e:Rd H a u):HN P w H h a u:=e.ok ok
theorem br(ok:M4 P w H h)(e:Rd H a (.dK kvs)):kvs.length<=ζ/\(a==sysModules)=false/\∃c,KV kvs c/\h.DictOf (qR P w) a c:=
 show HN P w H h a (.dK kvs)from Bt ok e
theorem lC(ok:M4 P w H h)(e:H a=↑(.dK kvs)):kvs.length<=ζ/\(a==sysModules)=false/\∃c,KV kvs c/\h.DictOf (qR P w) a c:=br ok (.inl e)
theorem ce{ks:List qE}(ok:M4 P w H h)(e:H a=↑(.tup (ks.map kV))):(tupleKind (qR P w)).is h ks a:=by
 let#[_,c,r,o,h1,d,n,f]:=(show HN P w H h a (.tup (ks.map kV))from ok a _ e)
 exact#[o,c.toArray,n,h1,d,f,by simpa using kD r]
theorem cS(ok:M4 P w H h)(e:Rd H a (.dT kvs)):kvs.length<=ζ/\(a==sysModules)=false/\
  ∃xs,KT H kvs xs/\h.DictOfH (tupleKind (qR P w)) a xs:=by
 let#[z,y,xs,r,o,es,f,h1,i,j,g,d]:=(show HN P w H h a (.dT kvs)from Bt ok e)
 refine#[z,y,xs,r,o,es,f,h1,i,j,g,λx c=>?_,d]
 have all:∀{l:List (List qE×V)} {m:List (List qE×Δ×Γ)},KT H l m->∀x∈m,(tupleKind (qR P w)).is h x.1 x.2.1:=by
  intro l m q
  induction q with
  |nil=>intro x c;exact nomatch c
  | @cons p q ps qs hq t ih=>
   intro x c;rcases Jp.mp c with e|c
   .subst e
    exact ce ok (by rw[<- hq.1];exact hq.2.1)
   .exact ih x c
 exact all r x c
theorem Fo(ok:M4 P w H h)(e:H a=↑(.dT kvs)):kvs.length<=ζ/\(a==sysModules)=false/\
  ∃xs,KT H kvs xs/\h.DictOfH (tupleKind (qR P w)) a xs:=cS ok (.inl e)
end
def Md(H:Hp)(a:Δ)(y:V)(r:Μ):Prop:=
 (∃kvs k,Rd H a (.dK kvs)/\y=kV k/\r=zZ kvs k)\/∃kvs k b,Rd H a (.dT kvs)/\y= .ref b/\H b=↑(.tup (k.map kV))/\r=zZ kvs k
def M0(H:Hp)(a:Δ)(y v:V)(H':Hp):Prop:=
 (∃kvs k,H a=↑(.dK kvs)/\y=kV k/\kvs.length<ζ/\H'=HG H a (.dK (Ml kvs k v)))\/
 ∃kvs k b,H a=↑(.dT kvs)/\y= .ref b/\H b=↑(.tup (k.map kV))/\kvs.length<ζ/\H'=HG H a (.dT (Ml kvs k v))
theorem Md.k{H:Hp}{k:qE}(e:H a=↑(.dK kvs)):Md H a (kV k) (zZ kvs k):= .inl #[kvs,k,.inl e,7]
theorem M0.k{H:Hp}{k:qE}(e:H a=↑(.dK kvs))(hl:kvs.length<ζ):M0 H a (kV k) v (HG H a (.dK (Ml kvs k v))):= .inl #[kvs,k,e,Z,hl,Z]
section
theorem HH.big(I:HH X pins σ H s):sysModules<s.heap.objs.size:=by
 have h:η<s.heap.objs.size:=(I.mod.glob.keeps I.bk).lt
 exact Ki ⋯ h
theorem uS{Q:Hu}(hu:A.units+1<cLine)(I:HH X pins σ H s)(g:Md H a y ↑v)(q:HJ y u)(h:∀f s',HH X pins σ H s'->HJ v f->Q f s'):
  ε (model X.prog X.w) A (getItem (-a) u) Q E s:=by
 rcases g with⟨kvs,k,e,i,l⟩|⟨kvs,k,b,e,i,r,l⟩
 .subst i
  let#[z,w,t,c,m]:=br I.hok e;let#[f,j,d]:=MN.some_of (v:=v) (o:=valueAt t k) (by rw[l];exact c.val k)
  exact wpAny_getItem_of (bt q) m.mapOf j (h f _ (I.tok _) d)
 .subst i
  cases(show u=Γ.ref b from q)
  let#[z,w,xs,c,m]:=cS I.hok e;let#[f,j,d]:=MN.some_of (v:=v) (o:=(atKey xs k).map (·.2)) (by rw[l];exact c.val k)
  let#[p,x,n]:=Ij.mp j;refine wpAny_getItem_heap (Lx hu) (ce I.hok r) m x ?_
  rw[n];exact h f _ (I.tok _) d
theorem FQ{Q:Hu}(hu:A.units+1<cLine)(I:HH X pins σ H s)(g:Md H a y o)(j:HJ y u)(h:∀s',HH X pins σ H s'->Q (.bool o.isSome) s'):
  ε (model X.prog X.w) A (compareOp .In u (-a)) Q E s:=by
 rcases g with⟨kvs,k,e,d,l⟩|⟨kvs,k,b,e,d,m,l⟩
 .subst d
  let#[z,f,n,c,i]:=br I.hok e;refine wpAny_in_of (bt j) f i.mapOf ?_
  rw[<- (c.val k).isSome_eq,<- l];exact h _ (I.tok _)
 .subst d
  cases(show u=Γ.ref b from j)
  let#[z,f,xs,c,i]:=cS I.hok e;refine wpAny_in_heap (Lx hu) (ce I.hok m) f i ?_
  have q:=(c.val k).isSome_eq;rw[Lv]at q;rw[<- q,<- l];exact h _ (I.tok _)
theorem B9{Q:Hu}(hu:A.units+1<cLine)(I:HH X pins σ H s)(g:Md H a y o)(j:HJ y u)(h:∀s',HH X pins σ H s'->Q (.bool (! o.isSome)) s'):
  ε (model X.prog X.w) A (compareOp .NotIn u (-a)) Q E s:=by
 rcases g with⟨kvs,k,e,d,l⟩|⟨kvs,k,b,e,d,m,l⟩
 .subst d
  let#[z,f,n,c,i]:=br I.hok e;refine wpAny_notIn_of (bt j) f i.mapOf ?_
  rw[<- (c.val k).isSome_eq,<- l];exact h _ (I.tok _)
 .subst d
  cases(show u=Γ.ref b from j)
  let#[z,f,xs,c,i]:=cS I.hok e;refine wpAny_notIn_heap (Lx hu) (ce I.hok m) f i ?_
  have q:=(c.val k).isSome_eq;rw[Lv]at q;rw[<- q,<- l];exact h _ (I.tok _)
theorem bS{t':Nat}(I:HH X pins σ H s)(d:uO (H a))(hs:Ψ.SameBut a s.heap h')(he:∃q,h'.get? a=↑q)(new:HN X.prog X.w (HG H a ob) h' a ob):
  HH X pins σ (HG H a ob) {s with heap:=h',toks:=t'}:=
 I.write (x:=a) (e:=a) d (.inl Z) (λb q c z=>(hs.2 b c).trans z) he new
theorem mI{h':Ψ}{kvs:List (qE×V)}(z:kvs.length<=ζ)(hd:(a==sysModules)=false)(c:KV kvs vs)(d:h'.DictOf (qR P w) a vs):
  HN P w H' h' a (.dK kvs):=#[z,hd,vs,c,d]
theorem uT{Q:Unit->Θ->Prop}(hu:A.units+1<cLine)(I:HH X pins σ H s)(g:M0 H a y v H')(w:HJ y u)(C:HJ v r)(h:∀s',HH X pins σ H' s'->Q () s'):
  ε (model X.prog X.w) A (setItem (-a) u r) Q E s:=by
 rcases g with⟨kvs,k,e,n,l,j⟩|⟨kvs,k,b,e,n,x,l,j⟩
 .subst n j
  let#[z,o,F,d,p]:=lC I.hok e;have m:F.length<=ζ:=by rw[<- d.length];exact z
  have t:(Ml kvs k v).length<=ζ:=by have:=bM kvs k v;lia
  refine wpAny_setItem_pairs (hsz:=m) (bt w) p λh' f hs=>h _ ?_
  have D:∃q,h'.get? a=↑q:=let⟨q,_,_,i,_⟩:=f;#[q,i]
  exact bS I (by rw[e];exact True.intro) hs D (mI t o (d.put k C) f)
 .subst n j
  cases(show u=Γ.ref b from w)
  let#[z,o,xs,d,p]:=Fo I.hok e;have m:xs.length<=ζ:=by rw[<- J1 d];exact z
  have t:(Ml kvs k v).length<=ζ:=by have:=bM kvs k v;lia
  refine wpAny_setItem_heap (hsz:=m) (Lx hu) (ce I.hok x) p λh' f hs=>h _ ?_
  let#[q,es,M,i,G,N,J,_,L]:=f;refine bS I (by rw[e];exact True.intro) hs #[q,i] #[t,o,_,(d.put k x C).keeps λc ys B=>?_,q,es,M,i,G,N,J,L]
  rw[qh (qD B e (λz=>nomatch z))]
  exact B
theorem Fk{Q:Hu}(I:HH X pins σ H s)(e:Rd H a (.dK kvs))(h:∀t s',HH X pins σ H s'->Q (.int kvs.length t) s'):ε (model X.prog X.w) A (call (.builtin "len") [-a]) Q E s:=by
 let#[z,d,g,c,f]:=br I.hok e;refine call_len_dict d f (by rw[<- c.length];rw[Jt]at z;lia) ?_
 rw[<- c.length];exact h _ _ (I.tok _)
end
def sI(i:Φ):Prop:=∀a c,subscripted i false a c=operate [a,c] (getItem a c)
theorem sr{prog:Ξ}{w:Ω}{A:Around}{E:Hu}{s:Θ}{j:Env}{value a:Φ}{pos:Pos}{T id:String}{Q:Hu}
  (hl:typeLookup (.type T) "__getitem__"=pure ↑(.builtin id))(hs:sI a)
  (h:ε (model prog w) A (eval value j) (λo f=>ε (model prog w) A (eval a j) (λi c=>c.TypeIs o T/\ε (model prog w) A (getItem o i) Q E c) E f) E s):
  ε (model prog w) A (eval (.Subscript value a pos) j) Q E s:=by
 refine Subscript_ (JJ h (λo f l=>JJ l (λi c d=>?_) λ_ _ x=>x) λ_ _ x=>x)
 let#[n,d]:=d;unfold subscriptTail;refine Ja ?_
 rw[getitemInPython_of_ne n.not_modules];refine Ja (IT n hl ?_)
 have g:ε (model prog w) A (subscripted a false o i) (λr e=>ε (model prog w) A (letTemporaryGo value o r >>= λ_=>pure r) Q E e) E c:=by
  rw[hs o i];exact wpAny_operating (JJ d (λr e m=>Ja (wpAny_letTemporaryGo (Je m))) λ_ _ x=>x)
 first
  |exact Je (Ja g)
  |exact Ja (Je (Ja g))
  |exact Ja g
theorem oW(I:HH X pins σ H s)(g:Md H a y o):s.TypeIs (-a) "dict":=by
 rcases g with⟨kvs,k,e,_,_⟩|⟨kvs,k,b,e,_,_,_⟩
 .let#[_,_,d,_,c]:=br I.hok e
  exact c.typeIs
 .let#[_,_,xs,_,c]:=cS I.hok e
  exact c.typeIs
noncomputable def Bx(td ty:TE):TE:=λσ H Q=>td σ H λx H1=>ty σ H1 λy c=>∃a v,x= .ref a/\Md c a y ↑v/\Q v c
noncomputable def C2(ty td:TE):TE:=λσ H Q=>ty σ H λy H1=>td σ H1 λx c=>∃a o,x= .ref a/\Md c a y o/\Q (.bl o.isSome) c
noncomputable def rg(ty td:TE):TE:=λσ H Q=>ty σ H λy H1=>td σ H1 λx c=>∃a o,x= .ref a/\Md c a y o/\Q (.bl (! o.isSome)) c
noncomputable def AX(td ty tv:TE):TS:=λD σ H=>tv σ H λv H1=>td σ H1 λx d=>ty σ d λy e=>∃a c,x= .ref a/\M0 e a y v c/\D.nx σ c
section
theorem CS(hu:X.A.units+1<cLine)(ho:PE X o td)(hi:PE X i ty)(hs:sI i):PE X (.Subscript o i pos) (Bx td ty):=by
 intro pins s σ H Q I h;refine sr PySem.F.slot_dict_getitem.lookup hs (qB (ho pins s σ H _ I h) λu n ⟨x,H1,e,m,q1⟩=>qB (hi pins n σ H1 _ e q1) λq r p=>?_)
 let#[y,j,d,f,a,v,ex,g,q2]:=p;subst ex
 obtain rfl:u=Γ.ref a:=m
 exact#[oW d g,uS hu d g f λt w l c=>#[v,j,l,c,q2]]
theorem DL(hu:X.A.units+1<cLine)(hi:PE X i ty)(ho:PE X o td):PC X .In i o (C2 ty td):=by
 intro pins s σ H Q I h;refine qB (hi pins s σ H _ I h) λq n ⟨y,H1,e,f,q1⟩=>qB (ho pins n σ H1 _ e q1) λu r p=>?_
 let#[x,j,c,m,a,d,ex,g,q2]:=p;subst ex
 obtain rfl:u=Γ.ref a:=m
 exact FQ hu c g f λt l=>#[.bl d.isSome,j,l,Z,q2]
theorem wu(hu:X.A.units+1<cLine)(hi:PE X i ty)(ho:PE X o td):PC X .NotIn i o (rg ty td):=by
 intro pins s σ H Q I h;refine qB (hi pins s σ H _ I h) λq n ⟨y,H1,e,f,q1⟩=>qB (ho pins n σ H1 _ e q1) λu r p=>?_
 let#[x,j,c,m,a,d,ex,g,q2]:=p;subst ex
 obtain rfl:u=Γ.ref a:=m
 exact B9 hu c g f λt l=>#[.bl (! d.isSome),j,l,Z,q2]
theorem CQ(hu:X.A.units+1<cLine)(ho:PE X o td)(hi:PE X i ty)(hv:PE X value tv)(hs:swapsWith value ↑(.Subscript o i pos') pos.line X.env=pure false):
  PS X (.Assign [.Subscript o i pos'] value pos) (AX td ty tv):=by
 intro pins s σ H D I h;refine wpAny_Assign_Subscript (qB (hv pins s σ H _ I h) λr t ⟨v,H1,e,q,q1⟩=>qB (ho pins t σ H1 _ e q1) λu n ⟨x,l,c,p,q2⟩=>qB (hi pins n σ l _ c q2) λB C w=>?_) hs
 let#[y,A,m,j,a,d,ex,g,q3]:=w;subst ex
 obtain rfl:u=Γ.ref a:=p
 exact uT hu m g j q λz f=>#[σ,d,f,q3]
end
theorem mS(h:Ψ)(hb:sysModules<h.objs.size):HN P w H (h.push {cls:= .type "dict",data:= .dict (B1 [])}) h.objs.size (.dK []):=
 #[JH _,ID.mpr (Ne.symm (Jq hb)),[],.nil,Ψ.DictOf.new h]
noncomputable def wM:TE:=λ_ H Q=>∀p,H p=none->Q (-p) (HG H p (.dK []))
section
theorem AC:PE X (.Dict [] [] pos) wM:=λpins s σ H Q I h=>
 wpAny_Dict_empty #[-s.heap.objs.size,_,I.laid (a:=s.heap.objs.size) (o:= .dK []) (t':=s.toks) (λ_ _ q=>Jh _ q) (Jd _) (mS s.heap I.big),Z,h _ (I.hok.fresh (Jd _))]
end
noncomputable def eF:List (TE×TE)->St->Hp->(List (V×V)->Hp->Prop)->Prop
 | [],_,H,Q=>Q [] H
 |(tk,tv)::r,σ,H,Q=>tk σ H λx H1=>tv σ H1 λy a=>eF r σ a λps c=>Q ((x,y)::ps) c
abbrev VV:List (V×V)->List (Γ×Γ)->Prop:=Paired λp q=>HJ p.1 q.1/\HJ p.2 q.2
def wF(X:Cx)(pos:Pos)(keys:List ξ)(a:Κ)(c:List (TE×TE)):Prop:=
 ∀(pins:HD) (s:Θ) (σ:St) (H:Hp) (Q:List (V×V)->Hp->Prop),HH X pins σ H s->eF c σ H Q->
  ε (model X.prog X.w) X.A (evalPairs (pairTrees keys a X.env pos)) (λd s'=>∃ps H',HH X pins σ H' s'/\VV ps d/\Q ps H') X.xe s
theorem pG:wF X pos [] [] []:=λpins s σ H Q I h=>pairTrees_nil_walk #[[],H,I,.nil,h]
theorem lK{k:Φ}(hk:PE X k tk)(hv:PE X v tv)(hr:wF X pos ks vs a):
  wF X pos (↑k::ks) (v::vs) ((tk,tv)::a):=λpins s σ H Q I h=>
 pairTrees_cons_walk (qB (hk pins s σ H _ I h) λu n ⟨x,H1,e,m,q1⟩=>qB (hv pins n σ H1 _ e q1) λp l ⟨y,i,d,g,q2⟩=>
  qB (hr pins l σ i _ d q2) λo q ⟨ps,f,j,c,q3⟩=>#[(x,y)::ps,f,j,.cons #[m,g] c,q3])
noncomputable def Qh(kvs a:List (qE×V)):List (qE×V):=a.foldl (λc d=>Ml c d.1 d.2) kvs
theorem KV.merge:∀{a:List (qE×V)} {rs:List (qE×Γ)} {kvs:List (qE×V)} {vs:List (qE×Γ)},KV a rs->KV kvs vs->KV (Qh kvs a) (merged vs rs):=by
 intro a rs kvs vs r;unfold KV at r
 induction r generalizing kvs vs with
 |nil=>intro q;exact q
 | @cons p q ps qs h t ih=>
  intro c;have e:KV (Ml kvs p.1 p.2) (stored vs q.1 q.2):=by
   have:=c.put p.1 h.2
   rw[<- h.1];exact this
  exact ih e
theorem av:∀(a kvs:List (qE×V)),(Qh kvs a).length<=kvs.length+a.length
 | [],kvs=>by show kvs.length<=kvs.length+0;lia
 |p::r,kvs=>by
  have h1:=av r (Ml kvs p.1 p.2);have c:=bM kvs p.1 p.2
  show(Qh (Ml kvs p.1 p.2) r).length<=_
  rw[J2];lia
theorem i6{P:Ξ}{w:Ω}:∀{kvs:List (qE×V)} {d:List (Γ×Γ)},VV (kvs.map λe=>(kV e.1,e.2)) d->∃rs,Carries (qR P w) d rs/\KV kvs rs
 | [],_,r=>by rw[N7]at r;cases r;exact#[[],True.intro,.nil]
 |p::kvs,_,r=>by
  rw[JC]at r;cases r with
  | @cons a b as bs h t=>
   let#[rs,c,q]:=i6 (P:=P) (w:=w) t
   let#[g,f]:=b
   exact#[(p.1,f)::rs,#[bt h.1,Z,c],.cons #[Z,h.2] q]
noncomputable def AL(a:List (TE×TE)):TE:=λσ H Q=>∀p,H p=none->eF a σ (HG H p (.dK [])) λps c=>c p=↑(.dK [])/\∃kvs:List (qE×V),ps=kvs.map (λd=>(kV d.1,d.2))/\kvs.length<=15/\Q (-p) (HG c p (.dK (Qh [] kvs)))
theorem BI{keys:List ξ}(h:wF X pos keys d g)(f:keys.all (·.isSome)=true)(hl:keys.length=d.length)(u:keys≠[])
  (j:keys.length<=15):PE X (.Dict keys d pos) (AL g):=by
 intro pins s σ H Q I q;have C:=I.hok.fresh (Jd s.heap.objs.size);have x:=I.laid (a:=s.heap.objs.size) (o:= .dK []) (h':=s.heap.push {cls:= .type "dict",data:= .dict (B1 [])}) (t':=s.toks) (λ_ _ q=>Jh _ q) (Jd _) (mS s.heap I.big)
 refine wpAny_Dict_walk (knd:=qR X.prog X.w) f hl u j (qB (h pins _ σ _ _ x (q _ C)) λG J t=>?_)
 let#[ps,E,m,l,e,kvs,y,F,q2]:=t;subst y;let#[rs,c,r]:=i6 (P:=X.prog) (w:=X.w) l
 let#[z,A,D,v,B]:=lC m.hok e;cases v;refine#[rs,c,B,λh' i hs=>#[-s.heap.objs.size,_,?_,Z,q2]]
 have p:(Qh [] kvs).length<=ζ:=by
  have h1:=av kvs [];rw[LH]at h1;rw[Jt];lia
 have n:∃q,h'.get? s.heap.objs.size=↑q:=let⟨q,_,_,hq,_⟩:=i;#[q,hq]
 exact bS m (by rw[e];exact True.intro) hs n (mI p A (r.merge .nil) i)
structure M1(X:Cx)(o:Φ)(m:Str)(apos:Pos)(e:Φ)(cpos:Pos):Prop where
 base:attributeBase o m X.env (eval o X.env)=eval o X.env
 few:((backTo cpos (θ [e] X.env)).all (λx=> ! x.1)&&(backToKw cpos (keywordEach [] X.env)).all (λx=>x.1.isSome)
  &&decide (([e]:Κ).length+([]:ν).length+(if([]:ν).isEmpty then 0 else 1)<30))=true
 line:(apos.endLine==cpos.line)=true
 trees:backTo cpos (θ [e] X.env)=[(false,eval e X.env)]
def FB(H:Hp)(a:Δ):Prop:=(∃kvs,Rd H a (.dK kvs))\/∃kvs,Rd H a (.dT kvs)
theorem Ex(I:HH X pins σ H s)(d:FB H a):
  s.TypeIs (-a) "dict"/\(∀b,Γ.ref a= .ref b->∃c,s.heap.get? b=↑c/\c.dict=none)/\(a==sysModules)=false:=by
 rcases d with⟨kvs,e⟩|⟨kvs,e⟩
 .let#[_,g,i,_,f]:=br I.hok e
  refine#[f.typeIs,λb q=>?_,g]
  cases q;let#[c,_,_,h1,h,_]:=f
  exact#[c,h1,h.2.1]
 .let#[_,g,xs,_,f]:=cS I.hok e
  refine#[f.typeIs,λb q=>?_,g]
  cases q;let#[c,_,_,h1,h,_]:=f
  exact#[c,h1,h.2.1]
section
theorem Eo{Q:Hu}(hu:A.units+1<cLine)(I:HH X pins σ H s)(g:Md H a y o)(j:HJ y u)(h:∀m s',HH X pins σ H s'->HJ (o.getD .non) m->Q m s'):
  ε (model X.prog X.w) A (call (.builtin "dict.get") [-a,u]) Q E s:=by
 rcases g with⟨kvs,k,e,f,l⟩|⟨kvs,k,b,e,f,n,l⟩
 .subst f
  let#[z,i,p,c,d]:=br I.hok e;refine call_meetsIn LV d.typeIs PySem.F.entry_dict_get (PySem.F.args_dict_get_2 _ _) (meets_dict_get (qR X.prog X.w) a (bt j) i) #[_,d.mapOf,h _ _ (I.tok _) ?_]
  rw[l]
  exact(c.val k).getD Z
 .subst f
  cases(show u=Γ.ref b from j)
  let#[z,i,xs,c,d]:=cS I.hok e;refine call_meetsIn LV d.typeIs PySem.F.entry_dict_get (PySem.F.args_dict_get_2 _ _) (meetsH_dict_get (tupleKind (qR X.prog X.w)) a b i) #[Lx hu,k,xs,ce I.hok n,d,h _ _ (I.tok _) ?_]
  rw[l]
  exact(c.val k).getD Z
end
noncomputable def vx(td ty:TE):TE:=λσ H Q=>td σ H λx H1=>∃a,x= .ref a/\FB H1 a/\ty σ H1 λy c=>∃o,Md c a y o/\Q (o.getD .non) c
section
theorem xx(hu:X.A.units+1<cLine)(ho:PE X o td)(he:PE X e ty)(m:M1 X o "get" apos e cpos):PE X (.Call (.Attribute o "get" apos) [e] [] cpos) (vx td ty):=by
 intro pins s σ H Q I h;refine wpAny_Call_method m.base m.few m.line PySem.F.plainAttrs_dict LV PySem.F.type_dict_get (qB (ho pins s σ H _ I h) λu l v=>?_)
 let#[x,H1,f,q,a,ex,d,q1]:=v;subst ex
 obtain rfl:u=Γ.ref a:=q
 let#[r,t,_]:=Ex f d;exists r,t
 rw[m.trees];refine LS Z (Calls.evalArgs_plain (Calls.spliced_cons (qB (he pins l σ H1 _ f q1) λz A ⟨y,n,i,j,w,g,q2⟩=>Calls.spliced_nil ?_)))
 exact Eo hu i g j λB C p c=>#[_,n,p,c,q2]
theorem wb:zt X (.builtin "len") (λxs H Q=>∃a kvs,xs=[V.ref a]/\H a=↑(.dK kvs)/\Q (.int kvs.length) H):=by
 intro pins s σ H xs f Q I r h;let#[a,kvs,rfl,e,q]:=h;let#[u,rfl,c]:=Qv r;cases c;exact Fk I (.inl e) λt s' d=>#[.int kvs.length,H,d,#[t,Z],q]
end
end L2
namespace L3
open PySem PySem.Spec PyProof.Rows L2
open PySem.W (kdl_dict kdl_extend)
section
theorem nG{Q:Η->Θ->Prop}(l:A.handled=none)(hm:s.heap.DictAt (qR prog w) d kvs ep)(lo:(d==sysModules)=false)(hn:kvs.length<=ζ)
  (h:∀(vs:Η) (h':Ψ) (tk:Nat),s.heap.objs.size<h'.objs.size->(∀b o,s.heap.get? b=↑o->h'.get? b=↑o)->vs.length=kvs.length->(∀(j:Nat) (v:Γ),vs[j]? =↑v->∃k x,kvs[j]? =↑(k,x)/\(qR prog w).is k v=true)->Q vs {s with heap:=h',toks:=tk}):
  ε (model prog w) A (collect (-d)) Q E s:=by
 unfold collect;refine Ja (wpAny_runValue (Iu entry_proto_collect' ?_))
 show ε _ _ (do again (.builtin "list.__iadd__" #[[<- newList [],-d],[]])) _ _ s
 refine Ja (wpAny_newList (Je #[Code.quiet_builtin _ nofun,Iu entry_list_iadd' ?_]))
 rw[Around.under_plainId PySem.F.plain_list_iadd _];have f:d<s.heap.objs.size:=hm.lt_size
 refine kdl_extend (s:={s with heap:=s.heap.push (seqObj "list" (B1 []) 0)}) (R:=λr s'=>match r with
   | .ok (.ret v)=>ε (model prog w) A (match v with
    | .ref a=>(do
     let o <- load a
     match o.data with
     | .seq xs _=>pure xs.toList
     |_=>unsupported "internal:collect")
    |_=>unsupported "internal:collect") Q E s'
   | .ok _=>False
   | .error e=>E e s') (kdl_dict (knd:=qR prog w) (ep:=ep) (kvs:=kvs) lo) l (hm.push _) s.heap.objs.size (JT f) (JT f) _ 0 (Jr _ Z) (λh' tk c m hk i g=>?_) hn
 show ε (model prog w) A (do
   let o <- load s.heap.objs.size
   match o.data with
   | .seq xs _=>pure xs.toList
   |_=>unsupported "internal:collect") Q E {s with heap:=h',toks:=tk}
 refine Ja (wpAny_load i ?_)
 refine Je (h c.toList h' tk (Jk i) (λb o e=>hk b o (Jq (Jk e)) (Jh _ e)) (by rw[JV];exact g.1) λj v e=>g.2 j v (by rw[<- Ka];exact e))
theorem rO:∀{us:Η} {ss:Β},us.length=ss.length->(∀(j:Nat) (v:Γ),us[j]? =↑v->∃x t,ss[j]? =↑x/\v= .str x t)->StrsAre us ss
 | [],[],_,_=> .nil
 |u::us,x::ss,hl,h=>by
  let#[y,t,c,a]:=h 0 u Z;cases c;subst a;exact .cons _ _ (rO (Nat.succ.inj hl) λj v e=>h (j+1) v e)
 | [],_::_,hl,_=>by cases hl
 |_::_,[],hl,_=>by cases hl
theorem oC{ss:Β}{Q:Hu}(J:A.handled=none)(hm:s.heap.DictAt (qR prog w) d kvs ep)(lo:(d==sysModules)=false)(q:kvs.map (·.1)=ss.map Sum.inr)(t:ss.length<64)
  (h:∀(h':Ψ) (tk:Nat) (l:Δ) (its:Η) (n:Nat) (a:Β),s.heap.objs.size<=l->(∀b o,s.heap.get? b=↑o->h'.get? b=↑o)->h'.get? l=↑(seqObj "list" its.toArray n)->StrsAre its a->a.Perm ss->sortedS a=true->Q (-l) {s with heap:=h',toks:=tk}):
  ε (model prog w) A (call (.builtin "sorted") [-d]) Q E s:=by
 have c:kvs.length=ss.length:=by have:=JY List.length q;rwa [Jf,Jf]at this
 refine Calls.call_function_entry kind_sorted plain_sorted entry_sorted (args_sorted1 _) ?_
 unfold γ.«sorted»
 refine Ja (m:=checkCount "sorted" 1 1 _) (Je ?_)
 refine Ja (nG (ep:=ep) (kvs:=kvs) J hm lo (by rw[Jt];lia) λi h' tk u hk D M=>?_)
 have z:StrsAre i ss:=rO (D.trans c) λj v e=>by
  let#[k,x,L,S]:=M j v e;have p:(kvs.map (·.1))[j]? =↑k:=by rw[Jo,L];rfl
  rw[q,Jo]at p;cases e4:ss[j]? with
  |none=>rw[e4]at p;cases p
  |some y=>
   rw[e4]at p;have N:Sum.inr y=k:=Jx p
   subst N;have F:Γ.isStrOf y v=true:=S
   cases v<;>simp [Γ.isStrOf]at F
   subst F
   exact#[6]
 refine Ja (wpAny_newList ?_)
 have g:(h'.push (seqObj "list" i.toArray 0)).get? h'.objs.size=↑(seqObj "list" i.toArray 0):=Jr _ Z
 show ε _ _ _ _ _ {s with heap:=h'.push (seqObj "list" i.toArray 0),toks:=tk}
 refine Ja (JO (J0 slot_list_sort #[_,g,Z] entry_list_sort (list_sort_treeK (κ:=PyProof.Rows.strKind) strKind_oneLt g z.keysOf (λB C rest e=>keyKind_strs (by rw[<- e];exact z)) (by rw[D,c];exact t) λf O R=>#[0,?_]) (args_list_sort _)))
 let#[a,T,I,P]:=sorted_out_str z O R;let#[n',r]:∃n',(sortedHeap (h'.push (seqObj "list" i.toArray 0)) h'.objs.size i ((arrOf f).map (·.2))).get? h'.objs.size=↑(seqObj "list" ((arrOf f).map (·.2)) n'):=sortedHeap_at g
 refine Je #[0,h _ tk h'.objs.size ((arrOf f).map (·.2)).toList n' a (Jv u) (λb o e=>?_) (by rw[r]) T I P]
 have H:=hk b o e;have G:b<h'.objs.size:=Jk H
 rw[sortedHeap_old (Jq G) (by rw[J9];exact IM G)]
 exact Jh _ H
end
theorem kO:∀{us:Η} {ss:Β},StrsAre us ss->HL (ss.map V.str) us
 | [],[],.nil=> .nil
 |_,_::_,.cons _ _ t=> .cons #[0] (kO t)
theorem og{X:Cx}(hc:X.calm=true):zt X (.builtin "sorted") (λxs H Q=>∃(d:Δ) (kvs:List (qE×V)) (ss:Β),xs=[-d]/\H d=↑(.dK kvs)/\kvs.map (·.1)=ss.map Sum.inr/\ss.length<64/\
  ∀l c,H l=none->c.Perm ss->sortedS c=true->Q (-l) (HG H l (.lst (c.map V.str)))):=by
 intro pins s σ H xs M Q I r h;let#[d,kvs,ss,rfl,G,i,j,q]:=h;let#[u,rfl,F]:=Qv r;cases F;let#[z,lo,p,g,o,es,A,E,v,C,y,B,J]:=lC I.hok G;have e:p.map (·.1)=ss.map Sum.inr:=by rw[<- i,g.keys]
 refine oC (I.ok.hd hc) (#[o,es,E,v,C,y,B,J]:s.heap.DictAt (qR X.prog X.w) d p A) lo e j λh' tk l f n c t hk D L m x=>?_
 refine#[-l,_,I.laid (a:=l) (o:= .lst (c.map V.str)) (t':=tk) hk t ?_,Z,q l c (I.hok.fresh t) m x]
 have w:=kO L;refine#[?_,f,n,w,D]
 have:=m.length_eq
 rw[Jf,Jt];lia
end L3
namespace L3
open PySem PySem.Spec PyProof.Rows L2
open Sem (wp)
def lT(k:Nat)(js:Ζ)(g:TG)(tc:TT)(te:TE)(σ:L2.St)(Q:VK)(J:It)(H1:Hp):Prop:=∃W:Nat->Nat->Α->L2.St->Hp->Prop,(∃m,W 0 m [] (σ0 k js σ) H1)/\∀i m ys f H,W i m ys f H->
 (J.stop i H/\∀p,H p=none->Q (-p) (HG H p (.lst ys)))\/(J.go i H/\ys.length<ζ/\∀x H',J.yld i H x H'->g x f H' λa j=>∃(N:V->Hp->Prop) (h:Hp->Prop),(∀v d,N v d->∃e,e<m/\W (i+1) e (ys++[v]) a d)/\
  (∀d,h d->∃e,e<m/\W (i+1) e ys a d)/\tc a j λc d=>if c=true then te a d N else h d)
noncomputable def iq(k:Nat)(js:Ζ)(a:TI)(g:TG)(tc:TT)(te:TE):TE:=λσ H Q=>a σ H (lT k js g tc te σ Q)
section
theorem oE{u a o i:Φ}{it y:Γ}{c:Env}(I:Nat->Θ->Prop)
  (C:∀n s,I n s->ε (model prog w) A (pyNext it) (λr g=>match r with
   |none=>R (.ok .next) g
   | some v=>ε (model prog w) A (letOwnedTupleGo a it v) (λ_ f=>ε (model prog w) A (assign a c v) (λ_ q=>ε (model prog w) A (isTrue i c (eval i c)) (λok d=>
     if ok=true then ε (model prog w) A (eval u c) (λx p=>
      ε (model prog w) A (call (.builtin "list.append") [y,x]) (λ_ j=>∃m,m<n/\I m j) (λ_ _=>False) p) (λ_ _=>False) d else∃m,m<n/\I m d)
     (λ_ _=>False) q) (λ_ _=>False) f) (λ_ _=>False) g) (λ_ _=>False) s)
  (n:Nat)(h:I n s):
  codeAny (model prog w) A (.compLoop (.ListComp u [#[a,o,[i],(0)]] scope pos) 0 it y c) R s:=by
 refine codeAny_loop Z I (λn s E=>?_) n h
 show ε _ _ ((compTurn (.ListComp u [#[a,o,[i],(0)]] scope pos) 0 it y c).onRaise (λx=>do noteFrame x c;theTreesLotGoes x)) _ _ s
 refine wpAny_noted ?_
 rw[compTurn_list];refine Ja (IE (Ja (JJ (C n s E) (λr g l=>?_) λ_ _ h'=>h'.elim)))
 cases r with
 |none=>exact Je l
 |some v=>
  refine Ja (JJ l (λ_ f t=>?_) λ_ _ h'=>h'.elim)
  refine Ja (JJ t (λ_ q z=>Ja (wpAny_tests_one (JJ z (λok d e=>?_) λ_ _ h'=>h'.elim))) λ_ _ h'=>h'.elim)
  cases ok with
  |false=>exact Je #[Z,e]
  |true=>
   exact Ja (Ja (JJ e (λx p D=>Ja (JJ D (λ_ j B=>Je (Je #[Z,B])) λ_ _ h'=>h'.elim)) λ_ _ h'=>h'.elim))
end
theorem kj{scope:Scope}{cl:List (Str×Δ)}{c2:Pos}{fr own:Β}{use:Option (Γ->Sem Unit)}{Post:Hu}
  {s:Θ}{H:Hp}
  (hc:X.calm=true)(hi:PI X tg A wi)(a6:closureFor scope X.env=pure cl)(d0:∀y c,cl.lookup y=↑c->X.env.cells.lookup y=↑c)(d2:cl.map (·.1)=fr)
  (S:Mw X scope fr js)
  (hg:∀C s H fp,PG (zF X (own++fr) scope cl C s H fp) tg g)(ht:∀C s H fp,PT (zF X (own++fr) scope cl C s H fp) a5 tc)(he:∀C s H fp,PE (zF X (own++fr) scope cl C s H fp) b0 te)
  (hs:∀x,foldedSetIterable A X.env x=pure x)
  (I:L2.HH X pins σ H s)(h:iq own.length js wi g tc te σ H Q)
  (c5:∀(b7 C:Δ) (s5:Θ) (H':Hp) (m:HC),L2.HH X pins σ H' s5->s5.heap.Ns C m->Pb X pins H' C->Q (-b7) H'->compPost (model X.prog X.w) X.A X.xe use Post (-b7) C (.ok .next) s5):
  ε (model X.prog X.w) X.A (comprehension (.ListComp b0 [#[tg,A,[a5],(0)]] scope pos) scope X.env c2 (newList []) false (eval A X.env) use) Post X.xe s:=by
 refine wpAny_comprehension_free (use:=use) Z hs a6 S.kind S.names (qB (hi pins s σ H _ I h) λv s1 h1=>qB h1 λd8 l h2=>?_)
 let#[it,fp,tn,J,H2,e,I2,T,b3,f2,W,#[m0,w0],c1]:=h2;subst e;refine F0 (wpAny_newFunctionEnv S.nocell (by intro y hy;simp at hy) (λD q d=>?_) S.kind)
 dsimp only at q d⊢
 generalize hH2:l.heap.push {cls:= .type "list",dict:=none,data:= .seq ([]:Η).toArray}=G at q d⊢
 have hC:G.objs.size=l.heap.objs.size+1:=by rw[<- hH2,J9]
 have U:l.heap.objs.size≠G.objs.size:=by rw[hC];exact Jq (Ib _)
 have P:∀b,b<l.heap.objs.size->b≠G.objs.size/\b≠l.heap.objs.size:=λb j=>#[by rw[hC];exact Jq (IM j),Jq j]
 have b6:∀b o,l.heap.get? b=↑o->D.get? b=↑o:=λb o e=>d.extBut b o (P b (Jk e)).1 (Jh _ (hH2▸Jh _ e))
 have a1:D.get? l.heap.objs.size=some {cls:= .type "list",data:= .seq ([]:Η).toArray 0}:=d.extBut _ _ U (Jh _ (hH2▸Jr _ Z))
 let Y:Cx:=zF X (own++fr) scope cl G.objs.size l H2 fp
 let#[c0,IY,L,O,a4]:=m8 (own:=own) (js:=js) d0 d2 S I2 T b3 f2 hC b6 q
 have a2:∀t:Θ,HH Y [] (σ0 own.length js σ) H2 t->tn 0 t.heap->t.heap.get? l.heap.objs.size=some {cls:= .type "list",data:= .seq ([]:Η).toArray 0}->
   codeAny (model X.prog X.w) X.A (.compLoop (.ListComp b0 [#[tg,A,[a5],(0)]] scope pos) 0 (-it) (-l.heap.objs.size) (compEnvC scope cl G.objs.size X.env))
    (compPost (model X.prog X.w) X.A X.xe use Post (-l.heap.objs.size) G.objs.size) t:=by
  intro t I3 d1 d4;refine oE (λn s'=>∃i ys τ H' a k,HH Y [(l.heap.objs.size,{cls:= .type "list",data:= .seq a.toArray k})] τ H' s'/\tn i s'.heap/\(∀b∈fp,H' b=none)/\HL ys a/\ys.length<=ζ/\W i n ys τ H') ?_ m0 ?_
  .rintro n s4 ⟨i,ys,τ,H4,a,k,I4,b4,c3,vl,hz,w4⟩
   have d6:=I4.pin (l.heap.objs.size,{cls:= .type "list",data:= .seq a.toArray k}) (by simp [Y,zF])
   rcases c1 i n ys τ H4 w4 with⟨b2,qn⟩|⟨go,d7,step⟩
   .refine qB (T.done Y Z Z Z hc i _ s4 τ H4 _ I4 (a4 c3 (by simp)) b4 b2) λr s5 E=>?_
    let#[hr,I5]:=E;subst hr
    show compPost _ _ _ _ _ _ _ _ _
    let#[m5,d5,_]:=I5.loc;have a3:=I5.pin (l.heap.objs.size,{cls:= .type "list",data:= .seq a.toArray k}) (by simp [Y,zF])
    have a0:H4 l.heap.objs.size=none:=a3.2.1
    have B:=I5.base;have nC:H4 G.objs.size=none:=I5.free
    let#[z1,z2]:=ni (ob:= .lst ys) I2 f2 hC I5 a0 #[hz,a,k,vl,a3.1]
    exact c5 l.heap.objs.size G.objs.size s5 (HG H4 l.heap.objs.size (.lst ys)) m5 z1 d5 z2 (qn _ a0)
   .refine qB (T.item Y Z Z Z hc i _ s4 τ H4 _ I4 (a4 c3 (by simp)) b4 go) λr s5 E=>?_
    let#[u,hr,h5]:=E;subst hr;refine qB h5 λ_ s6 E=>?_
    let#[x,H6,I6,r6,y6,M,d3]:=E;have I6':=I6.pinned (a4 d3 (by simp)) (T.obj _ _ M)
    refine qB (hg _ _ _ _ _ s6 τ H6 x u _ I6' r6 (step x H6 y6)) λ_ s7 E=>?_
    let#[F,H7,I7,N,N0,hN,c7,q7]:=E;refine qB (ht _ _ _ _ _ s7 F H7 _ I7 q7) λok b5 E=>?_
    let#[H7',I7',c6]:=E;cases ok with
    |false=>
     let#[m',b1,w8]:=c7 _ c6;have w:=I7'.pin (l.heap.objs.size,{cls:= .type "list",data:= .seq a.toArray k}) (by simp [zF])
     have f:∀b∈fp,∀o,s6.heap.get? b=↑o->b5.heap.get? b=↑o/\H7' b=none:=λb j o e=>by
      have:=I7'.pin (b,o) (JL _ (JL _ (ZD j e)))
      exact#[this.1,this.2.1]
     refine#[m',b1,i+1,ys,F,H7',a,k,I7'.pins_of ?_,T.keep _ _ _ M λb j o e=>(f b j o e).1,λb j=>?_,vl,by lia,w8]
     .intro p hp
      rw[Jm.mp hp];exact w
     .let#[o,e,_]:=T.obj _ _ M b j
      exact(f b j o e).2
    |true=>
    refine qB (he _ _ _ _ _ b5 F H7' _ I7' c6) λv' s8 E=>?_
    let#[y,H8,I8,r8,n8]:=E;let#[m',b1,w8]:=hN _ _ n8;have w:=I8.pin (l.heap.objs.size,{cls:= .type "list",data:= .seq a.toArray k}) (by simp [zF])
    have f:∀b∈fp,∀o,s6.heap.get? b=↑o->s8.heap.get? b=↑o/\H8 b=none:=λb j o e=>by
     have:=I8.pin (b,o) (JL _ (JL _ (ZD j e)))
     exact#[this.1,this.2.1]
    refine wpAny_list_append_plain (items:=a.toArray) #[k,w.1] (λh' R c4=>?_) (by have:=vl.length;simp;lia)
    let#[k',R]:=R;have I9:HH Y [] F H8 {s8 with heap:=h'}:=by
     refine(I8.pins_of (pins':=[]) (by simp)).turned (t':=s8.toks) (it:=l.heap.objs.size) (λb o j e=>(c4.2 b j).trans e) w.2.1 ?_ (.inr (Jd _)) (λx c e=>O x c e) (λp hp=>absurd (show p∈([]:HD)from by simpa [Y,zF]using hp) (by simp))
     exact U
    have ea:(a.toArray.push v')=(a++[v']).toArray:=by simp
    rw[ea]at R;refine#[m',b1,i+1,ys++[y],F,H8,a++[v'],k',I9.pins_of ?_,T.keep _ _ _ M λb j o e=>(c4.2 b (P b (c0 b j)).2).trans (f b j o e).1,λb j=>?_,vl.append (.cons r8 .nil),?_,w8]
    .intro p hp
     rw[Jm.mp hp]
     exact#[R,w.2.1,U,L,λv z=>by cases z]
    .let#[o,e,_]:=T.obj _ _ M b j
     exact(f b j o e).2
    .rw[Jz,GV];lia
  .refine#[(0),[],σ0 own.length js σ,H2,[],(0),I3.pins_of ?_,d1,λb j=>(f2 b j).1,.nil,JH _,w0]
   intro p hp;rw[Jm.mp hp]
   exact#[d4,I2.hok.fresh (Jd _),U,L,λv z=>by cases z]
 have st1:tn 0 D:=T.keep _ _ _ b3 λb _ o e=>b6 b o e
 exact codeAny_compStart_list (a2 _ IY st1 a1) (T.self _ 0 _ _ _ st1 (a2 _ IY st1 a1))
theorem yv{scope:Scope}{f:List (Str×Δ)}{fr own:Β}
  (hc:X.calm=true)(hi:PI X tg a u)(d:closureFor scope X.env=pure f)(t:∀y c,f.lookup y=↑c->X.env.cells.lookup y=↑c)(p:f.map (·.1)=fr)
  (S:Mw X scope fr js)
  (hg:∀C s H fp,PG (zF X (own++fr) scope f C s H fp) tg g)(z:∀C s H fp,PT (zF X (own++fr) scope f C s H fp) j tc)(he:∀C s H fp,PE (zF X (own++fr) scope f C s H fp) i te)
  (hs:∀x,foldedSetIterable a X.env x=pure x:=by intro _;rfl):
  PE X (.ListComp i [#[tg,a,[j],(0)]] scope pos) (iq own.length js u g tc te):=by
 intro pins s σ H Q I h;rw[eval_ListComp];refine kj (use:=none) hc hi d t p S hg z he hs I h λr C B H' m w A l q=>?_
 exact#[m,A,λh' n=>#[-r,H',w.turned (t':=B.toks) (λb o v e=>(n.2 b v).trans e) l.free l.loc (.inr l.new) l.cell l.pin,Z,q]]
theorem wY{scope:Scope}{e:List (Str×Δ)}{fr own:Β}
  (hc:X.calm=true)(hi:QI X tg a l)(d:closureFor scope X.env=pure e)(j:∀y c,e.lookup y=↑c->X.env.cells.lookup y=↑c)(i:e.map (·.1)=fr)
  (S:Mw X scope fr js)
  (hg:∀C s H fp,QG (zF X (own++fr) scope e C s H fp) tg g)(m:∀C s H fp,QT (zF X (own++fr) scope e C s H fp) h tc)(he:∀C s H fp,QE (zF X (own++fr) scope e C s H fp) f te)
  (hs:∀x,foldedSetIterable a X.env x=pure x:=by intro _;rfl):
  QE X (.ListComp f [#[tg,a,[h],(0)]] scope pos) (iq own.length js l g tc te):=#[yv hc hi.h d j i S (λC s H fp=>(hg C s H fp).h) (λC s H fp=>(m C s H fp).h) (λC s H fp=>(he C s H fp).h) hs]
section
variable{K:ι}
abbrev lX(J:It)(js:Ζ)(tc:TT)(te:TE)(σ:L2.St)(H1:Hp)(Q:VK):Prop:=lT 1 js (QB 0) tc te σ Q J H1
theorem ko{J:It}{n:Nat}(hn:n<=ζ)(f:Nat->V->Prop)(Pv:Nat->Α->Hp->Prop)(r:Pv 0 [] H)(h:∀i ys H,i<n->Pv i ys H->J.go i H)(hst:∀ys H,Pv n ys H->J.stop n H)
  (s:∀i ys H x H',i<n->Pv i ys H->J.yld i H x H'->H'=H/\f i x)
  (hs:∀i ys H x,i<n->Pv i ys H->f i x->tc (↑x::zV js σ) H λc d=>if c=true then te (↑x::zV js σ) d (λv q=>Pv (i+1) (ys++[v]) q)else Pv (i+1) ys d)
  (hd:∀ys H,Pv n ys H->∀p,H p=none->Q (-p) (HG H p (.lst ys))):lX J js tc te σ H Q:=by
 exists λi m ys j H=>m=n-i/\i<=n/\ys.length<=i/\Pv i ys H/\∃o,j=o::zV js σ,#[n,by simp,JH _,Jd _,r,none,Z]
 rintro i m ys j H ⟨rfl,hi,t,p,o,rfl⟩
 by_cases a:i<n
 .refine .inr #[h i ys H a p,by lia,λx H' y=>?_]
  let#[e,l]:=s i ys H x H' a p y;subst e
  exact#[λv d=>Pv (i+1) (ys++[v]) d,λd=>Pv (i+1) ys d,λv d g=>#[n-(i+1),by lia,Z,a,by simp;lia,g,0],λd g=>#[n-(i+1),by lia,Z,a,by lia,g,0],hs i ys _ x a p l]
 .have e:i=n:=by lia
  subst e;exact .inl #[hst ys H p,hd ys H p]
theorem tu{xs:Α}(hn:xs.length<=ζ)(Pv:Nat->Α->Hp->Prop)(f:Pv 0 [] H)(hl:∀i ys H,Pv i ys H->HK K H a xs)
  (hs:∀i ys H x,xs[i]? =↑x->Pv i ys H->tc (↑x::zV js σ) H λc d=>if c=true then te (↑x::zV js σ) d (λv e=>Pv (i+1) (ys++[v]) e)else Pv (i+1) ys d)
  (hd:∀ys H,Pv xs.length ys H->∀p,H p=none->Q (-p) (HG H p (.lst ys))):lX (eO K a) js tc te σ H Q:=
 ko hn (λi x=>xs[i]? =↑x) Pv f (λi ys H hi p=>#[xs,xs[i],hl _ _ _ p,by simp [hi]]) (λys H p=>#[xs,hl _ _ _ p,Jd _]) (λi ys H x H' _ p y=>#[y.1,y.2 xs (hl _ _ _ p)]) (λi ys H x _ p g=>hs i ys H x g p) hd
theorem qC{k:Nat}(hr:HS k X.A)(ho:QE X o td)(hi:QE X i ty)(hs:sI i:=by exactλ_ _=>rfl):QE X (.Subscript o i pos) (Bx td ty):=#[CS (by have:=hr.un;lia) ho.h hi.h hs]
theorem Qx{k:Nat}(hr:HS k X.A)(ho:QE X o td)(hi:QE X i ty)(hv:QE X value tv)(hs:swapsWith value ↑(.Subscript o i pos') pos.line X.env=pure false:=by rfl):
  QS X (.Assign [.Subscript o i pos'] value pos) (AX td ty tv):=#[CQ (by have:=hr.un;lia) ho.h hi.h hv.h hs]
structure PY(X:Cx)(pos:Pos)(keys:List ξ)(values:Κ)(trs:List (TE×TE)):Prop where
 h:wF X pos keys values trs
theorem BY:PY X pos [] [] []:=#[pG]
theorem Z1{k:Φ}{tv:TE}(hk:QE X k tk)(hv:QE X v tv)(hr:PY X pos ks vs a):PY X pos (↑k::ks) (v::vs) ((tk,tv)::a):=#[lK hk.h hv.h hr.h]
theorem BL{keys:List ξ}(h:PY X pos keys a c)(d:keys.all (·.isSome)=true:=by rfl)(hl:keys.length=a.length:=by rfl)(f:keys≠[]:=by(intro z;cases z))
  (e:keys.length<=15:=by decide):QE X (.Dict keys a pos) (AL c):=#[BI h.h d hl f e]
end
theorem bT{k:qE}{v:V}:∀{kvs:List (qE×V)} (i:Nat),kvs[i]? =↑(k,v)->(kvs.map (·.1)).Nodup->zZ kvs k=↑v
 | [],i,h,_=>by cases h
 |p::r,0,h,_=>by
  cases Jx h
  exact zP Z
 |p::r,i+1,h,nd=>by
  have h':r[i]? =↑(k,v):=h
  have a:p.1∉r.map (·.1)/\(r.map (·.1)).Nodup:=Ii.mp nd
  have c:k∈r.map (·.1):=Ju.mpr #[(k,v),Jy h',Z]
  have d:p.1≠k:=λz=>a.1 (z▸c)
  rw[zQ d];exact bT i h' a.2
theorem xh{k:qE}{u:V}{kvs:List (qE×V)}(i:Nat)(h:kvs[i]? =↑(k,u))(f:(kvs.map (·.1)).Nodup):Ml kvs k v=kvs.set i (k,v):=by
 have c:i<kvs.length:=(Jw.mp h).1
 have a:=(Jw.mp h).2;unfold Ml;rw[Jc]
 .refine OC (by simp) λj h1 l=>?_
  rw[OG,RC];have d:j<kvs.length:=by simpa using h1
  by_cases e:i=j
  .subst e
   rw[Jc (by rw[a]),Jc Z,a]
  .rw[Jb e,Jb]
   intro z;have g:(kvs.map (·.1))[i]'(by simpa using c)=(kvs.map (·.1))[j]'(by simpa using d):=by rw[OG,OG,a,z]
   exact e ((Ot f).mp g)
 .rw[LI]
  exact#[kvs[i],Gz c,by rw[a];exact Jj Z]
theorem sB{k:qE}{kvs:List (qE×V)}(h:k∉kvs.map (·.1)):Ml kvs k v=kvs++[(k,v)]:=by
 unfold Ml;rw[Jb];intro z;let#[p,a,e]:=LI.mp z;exact h (Ju.mpr #[p,a,JA e])
end L3
namespace L3
open PySem PySem.Spec PyProof.Rows L2
section
theorem yS{k:Nat}(hr:HS k X.A)(ho:QE X o td)(ha:QE X e ty)(m:M1 X o "get" apos e cpos:=by exact#[Z,Z,Z,Z]):QE X (.Call (.Attribute o "get" apos) [e] [] cpos) (vx td ty):=#[xx (by have:=hr.un;lia) ho.h ha.h m]
theorem lM:QE X (.Dict [] [] pos) wM:=#[AC]
theorem Et{k:Nat}(hr:HS k X.A)(hi:QE X e ty)(ho:QE X o td)(h1:behindInMarks CmpOp.In o=false:=by rfl):QT X (.Compare e [.In] [o] pos) (fO (C2 ty td)):=#[wJ (DL (by have:=hr.un;lia) hi.h ho.h) (h1:=h1)]
theorem vn{k:Nat}(hr:HS k X.A)(hi:QE X e ty)(ho:QE X o td)(h1:behindInMarks CmpOp.NotIn o=false:=by rfl):QT X (.Compare e [.NotIn] [o] pos) (fO (rg ty td)):=#[wJ (wu (by have:=hr.un;lia) hi.h ho.h) (h1:=h1)]
end
structure Kb where
 age:Int
 last:Int
 wt:Option (Int×Int)
noncomputable abbrev Kw:=List (Str×Kb)
noncomputable def Wt(H:Hp)(v:V):Option (Int×Int)->Prop
 |none=>v= .non
 |some (x,c)=>∃w,v= .ref w/\H w=↑(.tup [.int x,.int c])
def Mm(H:Hp)(a:Δ)(e:Kb):Prop:=∃v,H a=↑(.tup [.int e.age,.int e.last,v])/\Wt H v e.wt
noncomputable def Qg(kn:Kw)(f:Str->Δ):List (qE×V):=kn.map λe=>(Sum.inr e.1,V.ref (f e.1))
def Nu(H:Hp)(d:Δ)(kn:Kw):Prop:=∃f:Kw×(Str->Δ),H d=↑(.dK (Qg f.1 f.2))/\(∀e∈kn,Mm H (f.2 e.1) e.2)/\f.1.Perm kn/\(kn.map (·.1)).Nodup
noncomputable def qP(kn:Kw)(nm:Str)(e:Kb):Kw:=if nm∈kn.map (·.1)then kn.map (λp=>if p.1=nm then(nm,e)else p)else kn++[(nm,e)]
theorem Mv.tup(m:Mv S H H')(n:NT S H)(h:H a=↑(.tup xs)):H' a=↑(.tup xs):=m _ _ (λz=>by
 let#[o,e,no]:=n a z;rw[e]at h;cases h;exact no) h
theorem Wt.mv(m:Mv S H H')(n:NT S H)(h:Wt H v o):Wt H' v o:=by
 cases o with
 |none=>exact h
 |some p=>let#[w,e,r]:=h;exact#[w,e,m.tup n r]
theorem Mm.mv(m:Mv S H H')(n:NT S H)(h:Mm H a e):Mm H' a e:=by
 let#[v,r,w]:=h
 exact#[v,m.tup n r,w.mv m n]
theorem Mm.same(s:HE H H')(h:Mm H a e):Mm H' a e:=h.mv (S:=[]) s.mv (λc h=>nomatch h)
theorem Nu.mv{d:Δ}(m:Mv S H H')(n:NT S H)(hd:d∉S)(h:Nu H d kn):Nu H' d kn:=by
 let#[f,r,w,p]:=h
 exact#[f,m _ _ hd r,λe a=>(w e a).mv m n,p]
theorem jE(f:Str->Δ)(nm:Str):∀kn:Kw,zZ (Qg kn f) (Sum.inr nm:qE)=(kn.lookup nm).map λ_=>V.ref (f nm)
 | []=>rfl
 |(m,e)::r=>by
  show zZ ((Sum.inr m,V.ref (f m))::Qg r f) (Sum.inr nm)=_
  by_cases q:m=nm
  .subst q
   rw[zP Z,RH];rfl
  .rw[zQ (by intro z;injection z with z;exact q z),GW,IW (λz=>q z.symm)]
   exact jE f nm r
theorem Qt{nm:Str}{e:Kb}:∀{kn:Kw},kn.lookup nm=↑e->(nm,e)∈kn
 |(m,x)::r,h=>by
  rw[GW]at h
  by_cases q:nm=m
  .subst q
   rw[GG]at h;cases h;exact JM ..
  .rw[IW q]at h
   exact JS _ (Qt h)
theorem HQ{nm:Str}:∀{kn:Kw},(kn.lookup nm).isSome=true↔nm∈kn.map (·.1)
 | []=>by simp
 |(m,x)::r=>by
  rw[GW,JC,Jp]
  by_cases q:nm=m
  .subst q;simp
  .rw[IW q]
   simp only[q,false_or];exact HQ
theorem j5(kn:Kw)(nm:Str)(e:Kb):(qP kn nm e).map (·.1)=if nm∈kn.map (·.1)then kn.map (·.1)else kn.map (·.1)++[nm]:=by
 unfold qP;split
 .rw[GH]
  refine Ir λp a=>?_
  simp only[Function.comp]
  by_cases y:p.1=nm
  .rw[Jc y,y]
  .rw[Jb y]
 .rw[JI];rfl
theorem fU{kn:Kw}(c:(kn.map (·.1)).Nodup)(nm:Str)(e:Kb):((qP kn nm e).map (·.1)).Nodup:=by
 rw[j5];split
 .exact c
 .rename_i z
  exact Iz.mpr #[c,by simp,λa f b d=>by rw[Jm.mp d];exactλw=>z (w▸f)]
theorem Zi{nm:Str}{e:Kb}:∀{kn:Kw},(kn.map (·.1)).Nodup->kn.lookup nm=↑e->∀p∈kn,p.1=nm->p=(nm,e)
 | [],_,h,_,a,_=>by cases a
 |(m,x)::r,nd,h,p,a,hn=>by
  have c:m∉r.map (·.1)/\(r.map (·.1)).Nodup:=Ii.mp nd
  rw[GW]at h
  by_cases q:nm=m
  .subst q
   rw[GG]at h;cases h;rcases Jp.mp a with rfl|a
   .rfl
   .exact absurd (Ju.mpr #[p,a,hn]) c.1
  .rw[IW q]at h
   rcases Jp.mp a with rfl|a
   .exact absurd hn.symm q
   .exact Zi c.2 h p a hn
theorem gt{a:Kw}(pm:a.Perm kn)(d:(kn.map (·.1)).Nodup)(nm:Str):a.lookup nm=kn.lookup nm:=by
 cases e:a.lookup nm with
 |none=>
  cases e':kn.lookup nm with
  |none=>rfl
  |some x=>
   have:(a.lookup nm).isSome=true:=HQ.mpr ((pm.map (·.1)).mem_iff.mpr (HQ.mp (by rw[e'];rfl)))
   rw[e]at this;cases this
 |some x=>
  let#[y,c]:∃y,kn.lookup nm=↑y:=Lb.mp (HQ.mpr (Ju.mpr #[_,pm.mem_iff.mp (Qt e),Z]))
  rw[c]
  have:=Zi d c _ (pm.mem_iff.mp (Qt e)) Z
  cases this;rfl
theorem Nu.get(h:Nu H d kn)(nm:Str):(kn.lookup nm=none/\Md H d (.str nm) none)\/∃e a,kn.lookup nm=↑e/\Md H d (.str nm) ↑(-a)/\Mm H a e:=by
 let#[#[l,f],j,i,pm,c]:=h;have g:=Md.k (k:=Sum.inr nm) j
 rw[jE,gt pm c]at g;cases q:kn.lookup nm with
 |none=>rw[q]at g;exact .inl #[Z,g]
 |some e=>rw[q]at g;exact .inr #[e,f nm,Z,g,i _ (Qt q)]
theorem bC{a:Kw}(pm:a.Perm kn)(nm:Str)(e:Kb):(qP a nm e).Perm (qP kn nm e):=by
 unfold qP
 by_cases z:nm∈kn.map (·.1)
 .rw[Jc ((pm.map (·.1)).mem_iff.mpr z),Jc z];exact pm.map _
 .rw[Jb (λw=>z ((pm.map (·.1)).mem_iff.mp w)),Jb z];exact pm.append_right _
theorem Nu.put(h:Nu H d kn)(nm:Str)(hl:kn.length<=100)(hb:Mm H a e):∃H',M0 H d (.str nm) (-a) H'/\Mv [d] H H'/\Nu H' d (qP kn nm e):=by
 let#[#[i,f],t,m,pm,x]:=h;have l:(Qg i f).length=kn.length:=(Jf _).trans pm.length_eq
 have hk:∀e∈i,Mm H (f e.1) e.2:=λe u=>m e (pm.mem_iff.mp u)
 refine#[_,M0.k (k:=Sum.inr nm) t (by rw[l];exact Fs _),Mv.upd1,(qP i nm e,λn=>if n=nm then a else f n),?_,?_,bC pm nm e,fU x nm e]
 .rw[qc]
  congr 2
  unfold Ml qP Qg;have s:((i.map λe=>((Sum.inr e.1:qE),V.ref (f e.1))).any λv=>decide (v.1=(Sum.inr nm:qE)))=true↔nm∈i.map (·.1):=by
   rw[LI];constructor
   .rintro⟨p,c,z⟩
    let#[q,g,rfl]:=Ju.mp c;have r:(Sum.inr q.1:qE)=Sum.inr nm:=JA z
    injection r with r
    exact Ju.mpr #[q,g,r]
   .intro z
    let#[q,g,e]:=Ju.mp z
    exact#[_,Ju.mpr #[q,g,Z],Jj (by rw[e])]
  by_cases z:nm∈i.map (·.1)
  .rw[Jc (s.mpr z),Jc z,GH,GH]
   refine Ir λp c=>?_
   simp only[Function.comp]
   by_cases y:p.1=nm
   .rw[Jc (by rw[y]),Jc y]
    simp [y]
   .rw[Jb (by intro w;injection w with w;exact y w),Jb y]
    simp [y]
  .rw[Jb (λw=>z (s.mp w)),Jb z,JI]
   congr 1
   .refine Ir λp c=>?_
    have y:¬p.1=nm:=λw=>z (Ju.mpr #[p,c,w])
    simp [y]
   .simp
 .have nt:NT [d] H:=NT.one t trivial
  intro p c;have c:=(bC pm nm e).mem_iff.mpr c;have j:=hb.mv (Mv.upd1 (o:= .dK (Ml (Qg i f) (Sum.inr nm) (-a)))) nt
  unfold qP at c;split at c
  .let#[q,g,rfl]:=Ju.mp c
   by_cases y:q.1=nm
   .rw[Jc y];simp only[JW];exact j
   .rw[Jb y]
    show Mm _ (if q.1=nm then a else f q.1) q.2
    rw[Jb y]
    exact(hk q g).mv Mv.upd1 nt
  .rename_i z
   rcases JD.mp c with g|g
   .have y:¬p.1=nm:=λw=>z (Ju.mpr #[p,g,w])
    show Mm _ (if p.1=nm then a else f p.1) p.2
    rw[Jb y]
    exact(hk p g).mv Mv.upd1 nt
   .rw[Jm.mp g];simp only[JW];exact j
def L7(K:ι)(H:Hp)(hk:Δ)(c:List Ε):Prop:=∃d:Ι,H hk=↑(.lst (d.map V.ref))/\d.length=c.length/\∀(i:Nat) (a:Δ) (e:Ε),d[i]? =↑a->c[i]? =↑e->HP K H a (e.map V.int)
theorem L7.mv{K:ι}{hk:Δ}(m:Mv S H H')(n:NT S H)(hd:hk∉S)(h:L7 K H hk c):L7 K H' hk c:=by
 let#[j,e,l,r]:=h
 exact#[j,m _ _ hd e,l,λi a d f g=>m.sqt n (r i a d f g)]
structure Dr where
 t:Ε
 kss:List Ε
 near:Int
 far:Int
 most:Int
 least:Int
 kn:Kw
noncomputable def dF(D:Dr)(ta hk bd lg:Δ):List (Str×V):=
 [("table",-ta),("house_keys",-hk),("near",.int D.near),("far",.int D.far),("most",.int D.most),("least_age",.int D.least),("buttons",-bd),("log",-lg)]
noncomputable def dN:Β:=["table","house_keys","near","far","most","least_age","buttons","log"]
theorem Fi:dN.Nodup:=by decide +kernel
theorem AQ(D:Dr)(ta hk bd lg:Δ):((dF D ta hk bd lg).map (·.1)).Nodup:=Fi
structure MS(K:ι)(C:Δ):Prop where
 cl:Ob K C
 n_table:Ma K C "table"
 n_house_keys:Ma K C "house_keys"
 n_near:Ma K C "near"
 n_far:Ma K C "far"
 n_most:Ma K C "most"
 n_least_age:Ma K C "least_age"
 n_buttons:Ma K C "buttons"
 n_log:Ma K C "log"
structure HI(K:ι)(C:Δ)(H:Hp)(p ta hk bd lg:Δ)(n:Nat)(D:Dr):Prop where
 ob:∃dx,H p=↑(.ins C dx (dF D ta hk bd lg))
 tb:HP K H ta (D.t.map V.int)
 ks:L7 K H hk D.kss
 kb:Nu H bd D.kn
 lo:∃rs:Ι,H lg=↑(.lst (rs.map V.ref))/\rs.length<=n
 ne:lg≠hk
section
variable{K:ι}{n:Nat}
theorem HI.has(b:HI K C H p ta hk bd lg n D)(U:MS K C)(i:Nat){f:Str}{v:V}(h:(dF D ta hk bd lg)[i]? =↑(f,v))(a:Ma K C f):bN K H p f v:=by
 let#[dx,e]:=b.ob
 exact#[C,dx,_,e,U.cl,a,jX i h (AQ ..)]
theorem HI.h_table(b:HI K C H p ta hk bd lg n D)(U:MS K C):bN K H p "table" (-ta):=b.has U 0 Z U.n_table
theorem HI.h_house_keys(b:HI K C H p ta hk bd lg n D)(U:MS K C):bN K H p "house_keys" (-hk):=b.has U 1 Z U.n_house_keys
theorem HI.h_near(b:HI K C H p ta hk bd lg n D)(U:MS K C):bN K H p "near" (.int D.near):=b.has U 2 Z U.n_near
theorem HI.h_far(b:HI K C H p ta hk bd lg n D)(U:MS K C):bN K H p "far" (.int D.far):=b.has U 3 Z U.n_far
theorem HI.h_most(b:HI K C H p ta hk bd lg n D)(U:MS K C):bN K H p "most" (.int D.most):=b.has U 4 Z U.n_most
theorem HI.h_least_age(b:HI K C H p ta hk bd lg n D)(U:MS K C):bN K H p "least_age" (.int D.least):=b.has U 5 Z U.n_least_age
theorem HI.h_buttons(b:HI K C H p ta hk bd lg n D)(U:MS K C):bN K H p "buttons" (-bd):=b.has U 6 Z U.n_buttons
theorem HI.h_log(b:HI K C H p ta hk bd lg n D)(U:MS K C):bN K H p "log" (-lg):=b.has U 7 Z U.n_log
theorem HI.no(b:HI K C H p ta hk bd lg n D){m:Str}(h:m∉dN:=by decide +kernel):FC C H p m:=by
 let#[dx,e]:=b.ob
 exact#[dx,_,e,km h]
theorem HI.mv(b:HI K C H p ta hk bd lg n D)(m:Mv S H H')(nt:NT S H)(hp:p∉S)(c:hk∉S)(hb:bd∉S)(hl:lg∉S):HI K C H' p ta hk bd lg n D:=by
 let#[dx,e]:=b.ob;let#[rs,a,l]:=b.lo
 exact#[#[dx,m _ _ hp e],m.sqt nt b.tb,b.ks.mv m nt c,b.kb.mv m nt hb,#[rs,m _ _ hl a,l],b.ne]
theorem HI.same(b:HI K C H p ta hk bd lg n D)(s:HE H H'):HI K C H' p ta hk bd lg n D:=b.mv (S:=[]) s.mv (λc h=>nomatch h) (λh=>nomatch h) (λh=>nomatch h) (λh=>nomatch h) (λh=>nomatch h)
end
inductive PF (x:V)(y:V)(H:Hp)(Q:VK):Prop
 |mk (o:Option (Int×Int))(b:Δ)(a c:Int)(h1:Wt H x o)(h2:y= .ref b)(h3:Rd H b (.tup [.int a,.int c]))(h4:Q (.bl (decide (o=↑(a,c)))) H)
noncomputable def FX:R2:=λx y H Q=>PF x y H Q
theorem Du{X:Cx}{k:Nat}(hr:HS k X.A):zj X (compareOp .Eq) FX:=by
 intro pins s σ H x y v u Q I B M h;let#[o,b,a,c,F,rfl,P,q]:=h;cases M;let#[g,D,p2,_]:=I.tuple (.inl P)
 have E:X.A.units<cLine:=by have:=hr.un;lia
 cases o with
 |none=>
  have l:x= .non:=F
  subst l;cases B;rw[Jl (by intro z;cases z)]at q
  exact SeqAt.RcAt.none_tuple p2 E _ _ _ _ #[.bl false,H,I,Z,q]
 |some pr=>
  let#[m,n]:=pr;let#[w,rfl,l]:=F;cases B;let#[i,C,O,_]:=I.tuple (.inl (.inl l))
  have r:=C.length;have p:=D.length;have J:=SeqAt.RcAt.tuples (A:=X.A) (e:=λj=>[m,n].getD j 0==[a,c].getD j 0) (show s.heap.IsTuple w i.toArray from O) (show s.heap.IsTuple b g.toArray from p2) E (λj h1 L=>by
   have f:j<i.length:=by simpa using h1
   have d:j<g.length:=by simpa using L
   let#[t,e]:=fM (ns:=[m,n]) C j f (by rw[<- r]at f;exact f)
   let#[S,R]:=fM (ns:=[a,c]) D j d (by rw[<- p]at d;exact d)
   simp only[RJ,e,R,JN,Ji (show j<[m,n].length by rw[<- r]at f;exact f),Ji (show j<[a,c].length by rw[<- p]at d;exact d),IQ]
   exact SeqAt.EqAt.int_int _ _ _ _)
  have G:i.toArray.size=2:=by rw[Js,<- r];rfl
  have N:g.toArray.size=2:=by rw[Js,<- p];rfl
  refine J _ _ _ _ #[.bl _,H,I,?_,q]
  show Γ.bool _=Γ.bool _
  congr 1
  rw[G,N,show min 2 2=([m,n]:Ε).length from Z,om [m,n] [a,c] Z]
  simp
noncomputable def uo(c l n f:Int):Str:=if c<=l then "old" else if c<=l+n then "near" else if c<=l+f then "far" else "beyond"
inductive p7(vs:Α)(H:Hp)(Q:VK)(_:XK):Prop
 |mk (c l n f:Int)(h1:vs=[.int c,.int l,.int n,.int f])(h2:Q (.str (uo c l n f)) H)
noncomputable def zh(a d:Int)(e:Kb)(age c:Int):Str×Kb:=
 if c<=e.last then("old",e)else if c<=e.last+a then("near",#[age,c,none])
 else if c<=e.last+d then(if e.wt=↑(age,c-1)then("near",#[age,c,none])else("far",#[e.age,e.last,↑(age,c)]))else("beyond",e)
inductive jo(vs:Α)(H:Hp)(Q:VK)(_:XK):Prop
 |mk (a:Δ)(e:Kb)(age c near far:Int)(h1:vs=[-a,.int age,.int c,.int near,.int far])(h2:Mm H a e)(h3:∀q a' H',HE H H'->H' q=↑(.tup [.str (zh near far e age c).1,-a'])->Mm H' a' (zh near far e age c).2->Q (-q) H')
noncomputable def zX(D:Dr)(age:Int):Bool:=decide (D.least<=age)&&decide (age<D.kss.length)
noncomputable def zn(D:Dr)(e:Kb)(age:Int):Bool:=zX D age&&decide (e.age<=age)
noncomputable def q8(D:Dr)(nm:Str)(age:Int)(r:Option (Int×Int)):Α×Kw:=
 match D.kn.lookup nm with
 |none=>([.str "held",.str "unknown"],D.kn)
 |some e=>if zn D e age=true then(match r with
   |none=>([.str "held",.str "false"],D.kn)
   |some (c,d)=>if(zh D.near D.far e age c).1="near" then([.str "open",.str nm,.int d],qP D.kn nm (zh D.near D.far e age c).2)else([.str "held",.str (zh D.near D.far e age c).1],qP D.kn nm (zh D.near D.far e age c).2))
  else([.str "held",.str "age"],D.kn)
structure Nd(D:Dr):Prop where
 tp:D.t.Perm Mu
 l0:0<=D.least
 kl:D.kss.length<=8
 nl:D.kn.length<=60
 nd:(D.kn.map (·.1)).Nodup
section
variable(K:ι)(C:Δ)
inductive pQ(vs:Α)(H:Hp)(Q:VK)(_:XK):Prop
 |mk (p ta hk bd lg:Δ)(n:Nat)(D:Dr)(h1:vs=[-p])(h2:HI K C H p ta hk bd lg n D)(h3:Q (.bl (decide (D.most<=(D.kn.length:Int)))) H)
inductive gT(vs:Α)(H:Hp)(Q:VK)(_:XK):Prop
 |mk (p ta hk bd lg:Δ)(n:Nat)(D:Dr)(age:Int)(h1:vs=[-p,.int age])(h2:HI K C H p ta hk bd lg n D)(h3:Q (.bl (zX D age)) H)
inductive fC(vs:Α)(H:Hp)(Q:VK)(_:XK):Prop
 |mk (p ta hk bd lg a:Δ)(n:Nat)(D:Dr)(e:Kb)(age:Int)(h1:vs=[-p,-a,.int age])(h2:HI K C H p ta hk bd lg n D)(h3:Mm H a e)(h4:Q (.bl (zn D e age)) H)
inductive lx(vs:Α)(H:Hp)(Q:VK)(_:XK):Prop
 |mk (p ta hk bd lg:Δ)(n:Nat)(D:Dr)(nm:Str)(h1:vs=[-p,.str nm])(h2:HI K C H p ta hk bd lg n D)(h3:(D.kn.lookup nm=none->Q .non H))(h4:(∀e a,D.kn.lookup nm=↑e->Mm H a e->Q (-a) H))
inductive rX(vs:Α)(H:Hp)(Q:VK)(_:XK):Prop
 |mk (p ta hk bd lg a:Δ)(n:Nat)(D:Dr)(e:Kb)(age c:Int)(h1:vs=[-p,-a,.int age,.int c])(h2:HI K C H p ta hk bd lg n D)(h3:Mm H a e)(h4:zn D e age=true)(h5:∀q a' H',HE H H'->H' q=↑(.tup [.str (zh D.near D.far e age c).1,-a'])->Mm H' a' (zh D.near D.far e age c).2->Q (-q) H')
def L8(H:Hp)(c:Δ)(nm:Str)(age:Int)(ds:Ε):Prop:=∃a,H c=↑(.tup [.str nm,.int age,-a])/\H a=↑(.tup (ds.map V.int))
noncomputable def zN(D:Dr)(age:Int):Ε:=D.kss.getD age.toNat []
inductive kK(vs:Α)(H:Hp)(Q:VK)(_:XK):Prop
 |mk (p ta hk bd lg pr:Δ)(n:Nat)(D:Dr)(nm:Str)(age:Int)(ds:Ε)(h1:vs=[-p,-pr])(h2:HI K C H p ta hk bd lg n D)(h3:Nd D)(h4:L8 H pr nm age ds)(h5:ZF nm)(h6:ds.length=5)(h7:zA ds)(h8:∀q H',Mv [bd] H H'->H' q=↑(.tup (q8 D nm age (Qj D.t (zN D age) nm ds)).1)->HI K C H' p ta hk bd lg n {D with kn:=(q8 D nm age (Qj D.t (zN D age) nm ds)).2}->Q (-q) H')
end
theorem L8.mv(m:Mv S H H')(n:NT S H)(h:L8 H a nm age ds):L8 H' a nm age ds:=by
 let#[e,d,c]:=h
 exact#[e,m.tup n d,m.tup n c]
theorem L8.same(s:HE H H')(h:L8 H a nm age ds):L8 H' a nm age ds:=by
 let#[e,d,c]:=h
 exact#[e,s _ _ d,s _ _ c]
theorem j3:zj X (compareOp .LtE) (λx y H Q=>∃i j,x= .str i/\y= .str j/\Q (.bl (! decide (j.cps.toList<i.cps.toList))) H):=by
 intro pins s σ H x y v u Q I c a h;let#[i,j,rfl,rfl,q]:=h;let#[t,rfl]:=c;let#[d,rfl]:=a;exact PySem.P.le_str (qO I q Z)
theorem y8{te:TE}{H:Hp}{Q:VK}{x:Str}(hn:x.cps.size<=ζ)(Pv:Nat->Α->Hp->Prop)(d:Pv 0 [] H)
  (hs:∀i ys H c,x.cps[i]? =↑c->ys.length=i->Pv i ys H->te (↑(.str #[(B1 [c])])::zV js σ) H λv f=>Pv (i+1) (ys++[v]) f)
  (hd:∀ys H,ys.length=x.cps.size->Pv x.cps.size ys H->∀p,H p=none->Q (-p) (HG H p (.lst ys))):aK (Br x) js te σ H Q:=
 ba hn (λi v=>∃c,x.cps[i]? =↑c/\v= .str #[(B1 [c])]) Pv d (λi ys H hi p=>hi) (λys H p=>Jd _) (λi ys H v H' _ p y=>y) (λi ys H v hi e p a=>by
  let#[c,g,rfl]:=a;exact hs i ys H c g e p) hd
theorem xm(h:zA ds):(ds.map V.int).all cH=true:=by
 rw[IP];intro x a;let#[i,hi,rfl]:=Ju.mp a
 have:=h i hi
 show(decide (0<=i)&&decide (i<16))=true
 rw[Jj this.1,Jj this.2];rfl
theorem Qf{c:Bool}{a b:Prop}(h:c=true)(x:a):if c=true then a else b:=by rw[Jc h];exact x
theorem Qk{c:Bool}{a b:Prop}(h:c=false)(x:b):if c=true then a else b:=by rw[Jb (by rw[h];intro z;cases z)];exact x
theorem Q5{K:ι}{H:Hp}{fs:List (Str×V)}(c:Ob K C)(e:H p=↑(.ins C dx fs))(n:Ma K C f)(i:Nat)(a:fs.map (·.1)=dN.take i:=by rfl)(hn:f∉dN.take i:=by decide +kernel):
  oi K H p f v (HG H p (.ins C dx (fs++[(f,v)]))):=#[C,dx,fs,e,c,n,by
  have h1:fs.length=(dN.take i).length:=by rw[<- a,Jf]
  have d:(dN.take i).length<=8:=by rw[JP];exact Ip _ _
  lia,by rw[nu (by rw[a];exact hn)]]
theorem L7.same{K:ι}{b:Δ}(s:HE H H')(h:L7 K H b a):L7 K H' b a:=h.mv (S:=[]) s.mv (λc h=>nomatch h) (λh=>nomatch h)
theorem Mv.nfree{x:Δ}(m:Mv S H H')(hn:x∉S)(h:H' x=none):H x=none:=by
 cases e:H x with
 |none=>rfl
 |some o=>rw[m x o hn e]at h;cases h
theorem L7.at{K:ι}{D:Dr}{age:Int}(h:L7 K H hk D.kss)(f:0<=age)(h1:age<D.kss.length):∃(xs:Α) (d:Δ),H hk=↑(.lst xs)/\ZQ xs age=↑(-d)/\HP K H d ((zN D age).map V.int):=by
 let#[c,e,l,r]:=h;let#[i,rfl]:∃i:Nat,age=(i:Int):=#[age.toNat,by lia]
 have hi:i<D.kss.length:=by lia
 have a:i<c.length:=by lia
 exists _,c[i],e,zI (by rw[Jo,Ji a];rfl)
 have:=r i c[i] D.kss[i] (Ji a) (Ji hi)
 unfold zN;rw[GD,JN,Ji hi];exact this
theorem jP(h:zn D e age=true)(c:0<=D.least):0<=age/\age<D.kss.length:=by
 unfold zn zX at h;rw[GF,GF]at h;have h1:=JA h.1.1;have a:=JA h.1.2;lia
theorem HI.putK{K:ι}(b:HI K C H p ta hk bd lg n D)(m:Mv [bd] H H')(g:Nu H' bd a):HI K C H' p ta hk bd lg n {D with kn:=a}:=by
 let#[dx,e]:=b.ob;let#[f,c,_]:=b.kb;let#[rs,d,l]:=b.lo;let#[i,h,_]:=id b.ks;have nt:NT [bd] H:=NT.one c trivial
 exact#[#[dx,m _ _ (qK (qD e c (by intro z;cases z))) e],m.sqt nt b.tb,b.ks.mv m nt (qK (qD h c (by intro z;cases z))),g,#[rs,m _ _ (qK (qD d c (by intro z;cases z))) d,l],b.ne]
theorem HI.putL{K:ι}{rs:Ι}(b:HI K C H p ta hk bd lg n D)(a:H lg=↑(.lst (rs.map V.ref)))(hl:rs.length<=n):HI K C (HG H lg (.lst (rs.map V.ref++[-r]))) p ta hk bd lg (n+1) D:=by
 let#[dx,e]:=b.ob;let#[f,c,_]:=id b.kb;have nt:NT [lg] H:=NT.one a trivial
 have m:Mv [lg] H (HG H lg (.lst (rs.map V.ref++[-r]))):=Mv.upd1
 exact#[#[dx,m _ _ (qK (qD e a (by intro z;cases z))) e],m.sqt nt b.tb,b.ks.mv m nt (qK b.ne.symm),b.kb.mv m nt (qK (qD c a (by intro z;cases z))),#[rs++[r],by rw[qc,JI];rfl,by rw[Jz];exact GP hl],b.ne]
theorem N9.pair{H:Hp}{b:Δ}(h1:H a=↑(.tup [.str z,.int i]))(h2:H b=↑(.tup [.str z,.int i])):N9 H 1 (-a) (-b):=
 .tup (n:=0) (.inl h1) (.inl h2) Z λj x y ex c=>by
  match j,ex,c with
  |0,ex,c=>cases ex;cases c;exact .str _ _
  |1,ex,c=>cases ex;cases c;exact .int _ _
  |j+2,ex,c=>cases ex
abbrev AI(a b:Str):Prop:=a.cps.toList<=b.cps.toList
theorem Db{a b:Str}(h:ltCps b.cps.toList a.cps.toList=false):AI a b:=by
 rw[ltCps_eq]at h;exact List.not_lt.mp (of_decide_eq_false h)
theorem j6:∀{l:Β} {p:Str},risingS p l=true->(p::l).Pairwise AI
 | [],p,_=>by simp
 |x::r,p,h=>by
  have h':(! ltCps x.cps.toList p.cps.toList&&risingS x r)=true:=h
  rw[GF,LW]at h';have d:=j6 h'.2;have a:=Db h'.1;refine OH.mpr #[λy c=>?_,d]
  rcases Jp.mp c with rfl|c
  .exact a
  .exact List.le_trans a ((OH.mp d).1 y c)
theorem iG{l:Β}(h:sortedS l=true):l.Pairwise AI:=by
 cases l with
 |nil=>exact .nil
 |cons x r=>exact j6 h
theorem oO{a b:Β}(g:a.Perm l)(d:sortedS a=true)(pb:b.Perm l)(f:sortedS b=true):a=b:=by
 refine List.Perm.eq_of_pairwise (le:=AI) (λx y _ _ h1 c=>?_) (iG d) (iG f) (g.trans pb.symm)
 have e:x.cps.toList=y.cps.toList:=List.le_antisymm h1 c
 cases x with
 |mk u=>cases y with
  |mk v=>
   have:u=v:=Array.toList_inj.mp e
   rw[this]
def Nv(H:Hp)(q:Δ)(ss:Β)(kn:Kw):Prop:=∃c:Ι,H q=↑(.tup (c.map V.ref))/\c.length=ss.length/\∀(i:Nat) (a:Δ) (nm:Str) (e:Kb),c[i]? =↑a->ss[i]? =↑nm->kn.lookup nm=↑e->∃v,H a=↑(.tup [.str nm,.int e.age,.int e.last,v])/\Wt H v e.wt
inductive mf(K:ι)(C:Δ)(vs:Α)(H:Hp)(Q:VK)(_:XK):Prop
 |mk (p ta hk bd lg:Δ)(n:Nat)(D:Dr)(h1:vs=[-p])(h2:HI K C H p ta hk bd lg n D)(h3:Nd D)(h4:∀q ss H',HE H H'->ss.Perm (D.kn.map (·.1))->sortedS ss=true->Nv H' q ss D.kn->Q (-q) H')
theorem CY{X:Cx}{K:ι}{f:Str}(a:X.K=K)(he:QE X e ta)(hb:attributeBase e f X.env (eval e X.env)=eval e X.env:=by rfl):QE X (.Attribute e f pos) (Bo K ta f):=by
 subst a;exact zd he hb
theorem rj(kn:Kw)(f:Str->Δ):(Qg kn f).map (·.1)=(kn.map (·.1)).map Sum.inr:=by
 unfold Qg;rw[GH,GH];rfl
theorem QU{kn:Kw}{nm:Str}(h:nm∈kn.map (·.1)):∃e,kn.lookup nm=↑e:=Lb.mp (HQ.mpr h)
theorem cn:∀(a kvs:List (qE×V)),((kvs++a).map (·.1)).Nodup->Qh kvs a=kvs++a
 | [],kvs,_=>by simp [Qh]
 |p::r,kvs,nd=>by
  have c:p.1∉kvs.map (·.1):=λz=>by
   rw[JI,JC]at nd
   exact(Iz.mp nd).2.2 _ z _ (JM ..) Z
  show Qh (Ml kvs p.1 p.2) r=_
  rw[sB c,cn r (kvs++[(p.1,p.2)]) (by rw[Gw];exact nd),Gw]
  rfl
inductive pR(vs:Α)(H:Hp)(Q:VK)(_:XK):Prop
 |mk (b:Δ)(many c:Nat)(h1:vs=[-b,.int (many:Int)])(h2:Mn H b c)(h3:c<100000000)(h4:many<=12)(h5:∀l (ns:Β) H',Mj b (c+many) H H'->H l=none->H' l=↑(.lst (ns.map V.str))->ns.length=many->ns.Nodup->(∀z∈ns,ZF z)->Q (-l) H')
theorem sK(a:Β)(k:Nat):(a.map V.str).eraseIdx k=(a.eraseIdx k).map V.str:=by
 rw[OI,OI,JI,Kt,OD]
theorem we{c zs:Β}{k:Nat}(h:k<c.length):(zs++[c[k]]++c.eraseIdx k).Perm (zs++c):=by
 rw[Gw];refine List.Perm.append_left zs ?_
 rw[OI];have e:c=c.take k++c[k]::c.drop (k+1):=by rw[<- Kv h,Kg]
 refine List.Perm.trans (NN (a:=c[k]) (l₁:=c.take k) (l₂:=c.drop (k+1))).symm ?_
 rw[<- e]
section
theorem Qw{as:Ι}{ys:Α}{y:V}(i:Nat)(c:ys[i]? =↑y)(h:∀a,y≠ .ref a):HO.lst (as.map V.ref)≠HO.lst ys:=Ct (f:=id) i c h
end
structure Oj(D:Dr)(e:Kb):Prop where
 a0:0<=e.age
 a1:e.age<D.kss.length
 l0:0<=e.last
 l1:e.last<4096
 w:∀x c,e.wt=↑(x,c)->0<=c/\c<4096
section
variable{ns:Β}
theorem gE(hn:1<=ns.length)(x y z:Int):HO.lst (ns.map V.str)≠jq x y z:=by
 cases ns with
 |nil=>cases hn
 |cons u r=>exact EV 0 (x:= .str u) (y:= .int x) Z Z (by intro z;cases z)
end
theorem mE{kn:Kw}{nm:Str}{e:Kb}:∀{l:Kw},(∀p∈l,p.1=nm->p=(nm,e))->l.map (λp=>if p.1=nm then(nm,e)else p)=l
 | [],_=>rfl
 |p::r,h=>by
  rw[JC,mE (kn:=kn) λq a=>h q (JS _ a)]
  by_cases y:p.1=nm
  .rw[Jc y,h p (JM ..) y]
  .rw[Jb y]
theorem uA{kn:Kw}{e:Kb}(a:(kn.map (·.1)).Nodup)(h:kn.lookup nm=↑e):qP kn nm e=kn:=by
 unfold qP;rw[Jc (HQ.mp (by rw[h];rfl))]
 exact mE (kn:=kn) (Zi a h)
theorem iS{kn:Kw}{e:Kb}(h:kn.lookup nm=↑e):(qP kn nm x).map (·.1)=kn.map (·.1):=by
 rw[j5,Jc (HQ.mp (by rw[h];rfl))]
section
theorem oR{lo:Int}{n:Nat}(hn:n<=ζ)(Pv:Nat->Α->Hp->Prop)(e:Pv 0 [] H)
  (hs:∀i ys H,i<n->Pv i ys H->tc (↑(.int (lo+i))::zV js σ) H λc a=>if c=true then te (↑(.int (lo+i))::zV js σ) a (λv d=>Pv (i+1) (ys++[v]) d)else Pv (i+1) ys a)
  (hd:∀ys H,Pv n ys H->∀p,H p=none->Q (-p) (HG H p (.lst ys))):lX (kP lo n) js tc te σ H Q:=
 ko hn (λi x=>x= .int (lo+i)) Pv e (λi ys H hi p=>hi) (λys H p=>Jd _) (λi ys H x H' _ p y=>y) (λi ys H x hi p f=>by subst f;exact hs i ys H hi p) hd
end
theorem HI.setF{K:ι}{H:Hp}{fs:List (Str×V)}{u:V}(i:Nat)(c:Ob K C)(a:Ma K C f)(e:H p=↑(.ins C dx fs))(hf:fs[i]? =↑(f,u))(d:(fs.map (·.1)).Nodup)(hl:fs.length<1000):
  oi K H p f v (HG H p (.ins C dx (fs.set i (f,v)))):=#[C,dx,fs,e,c,a,hl,by rw[rL i hf d]]
theorem _root_.L2.HE.put(s:HE H H1)(h:H x=none):HE H (HG H1 x o):=λc u e=>by
 rw[qh (qr e h)];exact s c u e
section
variable{K:ι}
theorem wc(U:MS K C)(e:H p=↑(.ins C dx (dF D ta hk bd lg)))(z:Int):oi K H p "least_age" (.int z) (HG H p (.ins C dx (dF {D with least:=z} ta hk bd lg))):=HI.setF 5 U.cl U.n_least_age e Z (AQ ..) (by show 8<1000;decide)
end
theorem As{kn:Kw}(f:(kn.map (·.1)).Nodup):(qP kn nm x).lookup nm=↑x:=by
 have a:(nm,x)∈qP kn nm x:=by
  unfold qP;split
  .rename_i h
   let#[p,d,e]:=Ju.mp h;exact Ju.mpr #[p,d,Jc e]
  .exact JL _ (Jm.mpr Z)
 let#[y,c]:=QU (Ju.mpr #[_,a,Z])
 have:=Zi (fU f nm x) c _ a Z
 cases this;exact c
theorem yV{x:V}{σ:L2.St}{f b c:L2.St->Hp->Prop}(h:f (σ.set i ↑x) H):QB i x σ H (MF.mk f r b c).nx:=h
section
inductive PH (K:ι)(x:V)(y:V)(H:Hp)(Q:VK):Prop
 |mk (a b:Δ)(xs:Α)(h1:x= .ref a)(h2:y= .ref b)(h3:HK K H a xs)(h4:HK K H b [])(h5:Q (.bl (! xs.isEmpty)) H)
noncomputable def F5(K:ι):R2:=λx y H Q=>PH K x y H Q
theorem Ey{k:Nat}(hr:HS k X.A):zj X (compareOp .NotEq) (F5 X.K):=by
 intro pins s σ H x y v u Q I p m h;let#[a,b,xs,rfl,rfl,w,o,q]:=h;cases p;cases m;have f:X.A.units+1<cLine:=by have:=hr.un;lia
 let#[d,t,i,_]:=I.list w;let#[c,B,p2,_]:=I.list o;have l:=t.length;have g:=B.length;cases xs with
 |nil=>
  have e:=SeqAt.RcNeAt.lists (A:=X.A) (e:=λ_=>true) i.isList p2.isList (by simp;lia) (K4 f) (λj h1 C=>by
   have n:j<c.length:=by simpa using C
   have:c.length=0:=by rw[<- g];rfl
   lia)
  refine e _ _ _ _ #[.bl _,H,I,?_,q]
  show Γ.bool _=Γ.bool _
  congr 1
  have z:d.toArray.size=0:=by rw[Js,<- l];rfl
  rw[z];rfl
 |cons x r=>
  refine SeqAt.RcNeAt.lists_lengths i.isList p2.isList (by
   have D:d.length=r.length+1:=by rw[<- l];rfl
   have E:c.length=0:=by rw[<- g];rfl
   simp;lia) (K4 f) _ _ _ _ #[.bl _,H,I,Z,q]
end
theorem Nv.same(h:Nv H q ss kn)(s:HE H H'):Nv H' q ss kn:=by
 let#[j,e,l,r]:=h
 exact#[j,s _ _ e,l,λi a nm x g d f=>let⟨v,a1,a2⟩:=r i a nm x g d f;#[v,s _ _ a1,a2.mv (S:=[]) s.mv (λc h=>nomatch h)]]
theorem HI.putLeast{K:ι}(b:HI K C H p ta hk bd lg n D)(U:MS K C)(z:Int):∃dx,oi K H p "least_age" (.int z) (HG H p (.ins C dx (dF {D with least:=z} ta hk bd lg)))/\Mv [p] H (HG H p (.ins C dx (dF {D with least:=z} ta hk bd lg)))/\HI K C (HG H p (.ins C dx (dF {D with least:=z} ta hk bd lg))) p ta hk bd lg n {D with least:=z}:=by
 let#[dx,e]:=b.ob;let#[f,c,_]:=id b.kb;let#[rs,a,l]:=b.lo;let#[g,d,_]:=id b.ks;have nt:NT [p] H:=NT.one e trivial
 have m:Mv [p] H (HG H p (.ins C dx (dF {D with least:=z} ta hk bd lg))):=Mv.upd1
 exact#[dx,wc U e z,m,#[dx,qc],m.sqt nt b.tb,b.ks.mv m nt (qK (qD d e (by intro z;cases z))),b.kb.mv m nt (qK (qD c e (by intro z;cases z))),#[rs,m _ _ (qK (qD a e (by intro z;cases z))) a,l],b.ne]
noncomputable def zW(D:Dr)(e:Kb)(age c:Int):Str×Kb:=if zn D e age=true then zh D.near D.far e age c else("age",e)
inductive gN(K:ι)(C:Δ)(vs:Α)(H:Hp)(Q:VK)(_:XK):Prop
 |mk (p ta hk bd lg a:Δ)(n:Nat)(D:Dr)(e:Kb)(age c:Int)(h1:vs=[-p,-a,.int age,.int c])(h2:HI K C H p ta hk bd lg n D)(h3:Mm H a e)(h4:∀q a' H',HE H H'->H' q=↑(.tup [.str (zW D e age c).1,-a'])->Mm H' a' (zW D e age c).2->Q (-q) H')
theorem BG{D:Dr}(h:D.kn.lookup nm=none):q8 D nm age r=([.str "held",.str "unknown"],D.kn):=by
 unfold q8;rw[h]
section
variable{nb:Nat}
theorem Mn.moved(hb:Mn H bx nb)(m:Mv S H H')(h:bx∉S):Mn H' bx nb:=by
 let#[a,d,c,e,r]:=hb
 exact#[a,d,c,m _ _ h e,r]
end
end L3
namespace PySem
open Sem (wp)
theorem lO:typeLookup (.type "list") "keys"=pure none:=by rw[Lq,Lr];kernel_rfl
theorem lY{prog:Ξ}{w:Ω}{A:Around}{s:Θ}{a:Δ}{o:Obj}{k:Nat}{Q:Ο->Θ->Prop}
  (hx:s.heap.get? a=↑o)(hc:o.cls= .type "list")(f:o.data= .seq xs k)(hd:o.dict=none)(q:A.handled=none)
  (h:∀h' tk e,Ψ.NewExcOf s.heap h' e "AttributeError"->Q none {s with heap:=h',toks:=tk}):
  ε (model prog w) A (getAttr? (-a) "keys") Q E s:=by
 let#[c,p,r,m]:=o;simp only at hc f hd
 subst hc f hd;let#[t,g,d,tk,n]:=s;have l:∀i,(#[t,g,d,i,n]:Θ).TypeIs (-a) "list":=λ_=>#[_,hx,Z]
 have f1:=sub_AttributeError;have u:=F.slot_list_getattribute.lookup;have y:=F.slot_list_getattribute.bind (-a);have z:=am_list_getattr_none;unfold getAttr? getAttrBy? getAttrBy
 repeat (any_goals (first|assumption|exact l _|((with_reducible show ε _ _ (call (Γ.builtin "list.__getattribute__") _ _) _ _ _);refine IL F.slot_list_getattribute (l _) am_entry_list_getattribute (F.args_list_getattribute_2 _ _) (meets_getattribute_miss_list a xs k m "keys" _ lO nofun (by size_fits)) #[hx,q,λh' i e j=>?_])|wp_step))
 let#[B,x,v]:=j.there
 show ε _ _ (getattributeRaised _ _ _ _ _ _ _) _ _ _
 unfold getattributeRaised
 repeat (any_goals (first|assumption|wp_step))
 exact h _ _ _ j.of
end PySem
namespace PyProof.Rows
open PySem PySem.Spec
theorem Zk:entryFor table "dict.update.loop"=some γ.«dict.update.loop»:=entryFor_of_tree (by kernel_rfl)
theorem zU:plainId "dict.update.loop"=true:=by decide +kernel
section
variable{wr:Ι}{n:Nat}{P:Nat->Γ->Prop}{St:Nat->Θ->Prop}
theorem tL{A:Around}{s:Θ}{Q:Η->Θ->Prop}{x y:Γ}(h:s.heap.IsTuple a (B1 [x,y]))(c:Q [x,y] s):ε (model prog w) A (γ.Dict.pairItems (-a)) Q E s:=by
 let#[o,e,f,m,d]:=id h;unfold γ.Dict.pairItems;refine Ja (Lk h.typeIs ?_)
 rw[Jc ⋯]
 exact Ja (GQ e d (Je c))
theorem aE{K:Type} [DecidableEq K]{knd:PySem.KeyKind prog w K}(W:WalksS prog w A.in1 I fp wr G n P St)(S:Δ)(u:S∉fp)(a:List (K×Γ))(hn:a.length=n)(ta:Nat->Δ)(g:Nat->Γ)
  (y:∀i,i<n->ta i∉S::wr)(l:∀i c,a[i]? =↑c->knd.is c.1 (g i)=true)(hP:∀i v,i<n->P i v->v= .ref (ta i))(hsz:n<=ζ):
  ∀(k i:Nat) (s:Θ),n-i=k->i<=n->St i s->s.heap.DictOf knd S (merged [] (a.take i))->(∀j c,a[j]? =↑c->s.heap.IsTuple (ta j) (B1 [g j,c.2]))->
   (∀s',Moved (S::wr) G s s'->s'.heap.DictOf knd S (merged [] a)->R (.ok (.ret .none)) s')->
   codeAny (model prog w) A (.builtin "dict.update.loop" #[[-S,-I,rawInt i,.none],[]]) R s:=by
 have F:S∉wr:=λh=>u (W.sub _ h)
 have f:∀b∈wr,b∈S::wr:=λb H=>JS _ H
 intro k
 induction k with
 |zero=>
  intro i s hk hi p J hT L;have Q:i=n:=by lia
  subst Q;refine Iu Zk ?_
  rw[Around.under_plainId zU _]
  show ε _ A.in1 (pyNext (-I) >>= _) _ _ s
  refine Ja (W.done s _ _ p λs' t=>?_)
  show ε _ A.in1 (γ.Dict.addKeywords S [] >>= _) _ _ s'
  refine Ja (Je ?_)
  rw[Iy (by lia)]at J
  exact Je (L s' (t.mono f) (by
   let#[o,es,T,m,rest]:=J
   exact#[o,es,T,t.heap S _ F m,rest]))
 |succ k ih=>
  intro i s hk hi p J hT L;have r:i<n:=by lia
  have d:a[i]? =some a[i]:=Ji (by lia)
  let#[c,O]:∃c,c=a[i]:=#[0]
  rw[<- O]at d;refine Iu Zk ?_
  rw[Around.under_plainId zU _]
  show ε _ A.in1 (pyNext (-I) >>= _) _ _ s
  refine Ja (W.item i s _ _ r p λv s' M D t=>?_)
  obtain rfl:=hP i v r M
  have N:s'.heap.DictOf knd S (merged [] (a.take i)):=by
   let#[o,es,T,m,rest]:=J
   exact#[o,es,T,t.heap S _ F m,rest]
  have B:∀j c,a[j]? =↑c->s'.heap.IsTuple (ta j) (B1 [g j,c.2]):=λj c e=>by
   have X:j<n:=by rw[<- hn];exact(Jw.mp e).1
   let#[o,m,rest]:=hT j c e
   exact#[o,t.heap _ _ (λz=>y j X (f _ z)) m,rest]
  have U:=B i c d
  show ε _ A.in1 (holding [Γ.ref (ta i)] _ >>= _) _ _ _
  refine Ja (JO ?_)
  refine Ja (wpAny_tryCatch (tL U ?_))
  show ε _ A.in1 (holding [g i,c.2] (dictSet S (g i) c.2)) _ _ _
  refine JO ?_
  unfold dictSet;refine JO ?_
  refine Ja (knd.pyHash (l i c d) ?_)
  refine wpAny_dictSetHashed_pairs (s:={s' with toks:=s'.toks+1}) (l i c d) N (λh' x q=>?_) (by have:=merged_length_le ([]:List (K×Γ)) (a.take i);have:=List.length_take_le i a;simp at *;lia)
  rw[<- merged_take_succ [] a i c d]at x;refine Je #[plainId_quiet zU _,?_]
  rw[show((i:Int)+1)=((i+1:Nat):Int)from Z]
  refine ih (i+1) _ (by lia) r (W.frame _ s' _ _ D (GN _) λb H o e=>?_) x (λj c e=>?_) λY E C=>?_
  .rw[q.2 b (λh:b=S=>u (by rw[<- h];exact H))];exact e
  .have X:j<n:=by rw[<- hn];exact(Jw.mp e).1
   let#[o,m,rest]:=B j c e
   exact#[o,by rw[q.2 _ (λh:ta j=S=>y j X (by rw[h];exact JM))];exact m,rest]
  .refine L Y (Moved.trans W.gtrans ((t.mono f).then_heap (GN _) λb o H e=>?_) E) C
   rw[q.2 b (λh:b=S=>H (by rw[h];exact JM))];exact e
end
end PyProof.Rows
namespace PySem
open PyProof.Rows
section
variable{K:Type}[DecidableEq K]{knd:PySem.KeyKind prog w K}{A:Around}{s:Θ}
theorem jO{l:Δ}{sl:Array Ο}{Q:Hu}(a:List (K×Γ))(ta:Nat->Δ)(n:Nat->Γ)(R:A.handled=none)
  (B:s.heap.get? l=some {cls:= .type "list",dict:=none,data:= .seq items I,slots:=sl})(hn:a.length=items.size)(H:∀(i:Nat) (v:Γ),items[i]? =↑v->v=Γ.ref (ta i))
  (C:∀j m,a[j]? =↑m->s.heap.IsTuple (ta j) (B1 [n j,m.2]))(y:∀i m,a[i]? =↑m->knd.is m.1 (n i)=true)(hsz:items.size<=ζ)
  (h:∀h' tk,h'.DictOf knd s.heap.objs.size (merged [] a)->(∀b o,b<s.heap.objs.size->s.heap.get? b=↑o->h'.get? b=↑o)->Q (-s.heap.objs.size) {s with heap:=h',toks:=tk}):
  ε (model prog w) A (call (.type "dict") [-l]) Q E s:=by
 refine callType_codes (Q₁:=λx g=>x= .ref s.heap.objs.size/\g={s with heap:=s.heap.push {cls:= .type "dict",data:= .dict (B1 [])}}) F.kt_called_dict (F.kt_typeCall_dict_1 _) F.entry_dict_init (kt_code_dict_new _ #[7]) ?_
 rintro x g ⟨rfl,rfl⟩
 have f:(s.heap.push {cls:= .type "dict",data:= .dict (B1 [])}).DictOf knd s.heap.objs.size []:=Ψ.DictOf.new s.heap
 have d:(s.heap.push {cls:= .type "dict",data:= .dict (B1 [])}).get? l=some {cls:= .type "list",dict:=none,data:= .seq items I,slots:=sl}:=Jh _ B
 have X:Θ.TypeIs {s with heap:=s.heap.push {cls:= .type "dict",data:= .dict (B1 [])}} (-l) "list":=#[_,d,Z]
 exists f.typeIs,F.args_dict_init_2 _ _
 unfold γ.«dict.__init__»
 refine Ja ?_
 unfold γ.Dict.selfAndRest;refine Ja (wpAny_notOrdered_dict f.typeIs ?_)
 show ε _ _ (pure (s.heap.objs.size,[Γ.ref l])) _ _ _
 refine Je ?_
 show ε _ _ (γ.Dict.updateFrom "dict.__init__" s.heap.objs.size (-l) [] .none) _ _ _
 unfold γ.Dict.updateFrom;refine Ja (Lk X ?_)
 rw[Jc ⋯]
 refine Ja (lY d Z Z Z (by simp [R]) λh1 a0 e1 u=>?_)
 rw[Jc (show(none:Ο).isNone=true from Z)]
 refine Ja (J4 ?_)
 have r:h1.IsList l items:=#[_,u.keeps _ _ d,Z,I,Z]
 refine Ja (IF r ?_)
 refine Je #[plainId_quiet zU _,?_]
 have q:l<s.heap.objs.size:=Jk B
 have L:h1.get? s.heap.objs.size≠none:=by
  have:(s.heap.push {cls:= .type "dict",data:= .dict (B1 [])}).get? s.heap.objs.size=↑_:=Jr _ Z
  rw[u.keeps _ _ this];intro z;cases z
 have c:s.heap.objs.size<h1.objs.size:=by
  cases hz:h1.get? s.heap.objs.size with
  |none=>exact absurd hz L
  |some o=>exact Jk hz
 have t:l≠h1.objs.size:=Jq (Ki q c)
 have O:A.in1.in1.handled=none:=by simp [R]
 have G:s.heap.objs.size∉[h1.objs.size,l]:=by
  simp only[Jp,Jm,JE,JF,not_or]
  exact#[Jq c,JT q]
 have N:∀j,j<items.size->ta j<s.heap.objs.size:=λj S=>by
  have e:a[j]? =↑(a[j]'(by lia)):=Ji (by lia)
  let#[o,p,_]:=C j _ e;exact Jk p
 refine aE (knd:=knd) ((Walks.list O _ l t items).toS) s.heap.objs.size G a hn ta n (λj S=>?_) y (λi v _ W=>H i v W) hsz (items.size-0) 0 _ (by lia) (JH _)
  #[#[_,Jr _ Z,7],r.push _] ?hS0 ?hT0 ?hR
 case hS0=>
  let#[o,es,ep,p,rest]:=f
  exact#[o,es,ep,Jh _ (u.keeps _ _ p),rest]
 case hT0=>
  intro j m e;let#[o,p,rest]:=C j m e
  exact#[o,Jh _ (u.keeps _ _ (Jh _ p)),rest]
 case hR=>
  intro s' D J;let#[h',g',d',P,M]:=s';have Y:g'=s.gens:=D.gens
  have ed:d'=s.drawn:=D.drawn
  have U:M=s.os:=D.os
  subst Y;subst ed;subst U
  refine#[Z,h h' P J λb o T e=>?_]
  exact D.heap b o (by simp only[Jp,Jm,JE,JF,not_or];exact#[Jq T,Jq (Ki T c)]) (Jh _ (u.keeps _ _ (Jh _ e)))
 .have:=N j S
  simp only[Jp,Jm,JE,JF,not_or]
  exact#[Jq this,Jq (Ki this c)]
end
end PySem
namespace L3
open PySem PySem.Spec PyProof.Rows L2
theorem Be:∀{kvs:List (qE×V)} {d:List (qE×Γ)},kvs.length=d.length->(∀(j:Nat) c e,kvs[j]? =↑c->d[j]? =↑e->c.1=e.1/\HJ c.2 e.2)->KV kvs d
 | [],[],_,_=> .nil
 | [],b::r,h,_=>by cases h
 |a::r,[],h,_=>by cases h
 |a::r,b::r',h,hj=> .cons (hj 0 a b Z Z) (Be (Nat.succ.inj h) λj c e f g=>hj (j+1) c e f g)
theorem ci{X:Cx}(C:X.calm=true):zt X (.type "dict") (λxs H Q=>∃(l:Δ) (as:Ι) (kvs:List (qE×V)),xs=[-l]/\H l=↑(.lst (as.map V.ref))/\as.length=kvs.length/\(∀(i:Nat) (a:Δ) (d:qE×V),as[i]? =↑a->kvs[i]? =↑d->H a=↑(.tup [kV d.1,d.2]))/\∀p,H p=none->Q (-p) (HG H p (.dK (Qh [] kvs)))):=by
 intro pins s σ H xs us Q I r h;let#[l,as,kvs,rfl,hl,w,W,q]:=h;let#[u,rfl,ru]:=Qv r;cases ru;let#[D,ri,#[o,n,ho,hc,hd,y],hz]:=I.list (HK.of hl)
 have m:D.length=as.length:=by rw[<- ri.length,Jf]
 have P:as.length<=ζ:=by rw[Jf]at hz;exact hz
 let#[a1,M,T,osl]:=o;simp only at hc hd y
 subst hc hd y;have G:∀j:Nat,∃p:Γ×Γ,∀(d:qE×V),kvs[j]? =↑d->HJ d.2 p.2/\s.heap.IsTuple (as.getD j 0) (B1 [p.1,p.2])/\(qR X.prog X.w).is d.1 p.1=true:=λj=>by
  cases hk:kvs[j]? with
  |none=>exact#[(.none,.none),λd e=>by cases e]
  |some d=>
   have F:j<as.length:=by rw[w];exact(Jw.mp hk).1
   have E:as[j]? =some as[j]:=Ji F
   let#[a0,r2,p2,_]:=I.tuple (.inl (.inl (W j _ d E hk)))
   let#[u1,u2,rfl,J,S]:=cL r2;refine#[(u1,u2),λg e=>?_]
   cases e;refine#[S,?_,bt J]
   rw[JN,E];exact p2
 let#[f,L]:=Classical.axiomOfChoice G;let#[c,t]:∃c:List (qE×Γ),c=(B2 kvs.length).map λj=>((kvs.getD j (.inl 0,.non)).1,(f j).2):=#[0]
 have A:c.length=kvs.length:=by rw[t,Jf,Kj]
 have z:∀j d,c[j]? =↑d->∃g,kvs[j]? =↑g/\d=(g.1,(f j).2):=λj d e=>by
  have F:j<kvs.length:=by rw[<- A];exact(Jw.mp e).1
  exists kvs[j],Ji F
  rw[t,Jo,List.getElem?_range F]at e;cases e
  show((kvs.getD j (Sum.inl 0,V.non)).1,(f j).2)=_
  rw[JN,Ji F];rfl
 have N:KV kvs c:=Be A.symm λj g d e1 e2=>by
  let#[a2,Y,rfl]:=z j d e2;rw[e1]at Y;cases Y
  exact#[Z,(L j g e1).1]
 refine jO (knd:=qR X.prog X.w) (sl:=osl) c (λj=>as.getD j 0) (λj=>(f j).1) (I.ok.hd C) ho (by rw[A,<- w,Js,m]) (λi v hv=>?_) (λj d e=>?_) (λj d e=>?_) (by rw[Js,m];exact P) (λh' tk dd hk=>?_)
 .have B:D[i]? =↑v:=by simpa using hv
  have hi:i<as.length:=by rw[<- m];exact(Jw.mp B).1
  have E:as[i]? =some as[i]:=Ji hi
  let#[x,ex,rx]:=Qc ri (j:=i) (by rw[m];exact hi)
  rw[Jo,E]at ex;cases ex;rw[Ji (by rw[m];exact hi)]at B
  cases B;rw[JN,E];exact rx
 .let#[g,U,rfl]:=z j d e
  exact(L j g U).2.1
 .let#[g,U,rfl]:=z j d e
  exact(L j g U).2.2
 .have R:(Qh [] kvs).length<=ζ:=by
   have h1:=av kvs [];simp at h1
   lia
  have O:KV (Qh [] kvs) (merged [] c):=KV.merge N .nil
  have I':=I.laid (a:=s.heap.objs.size) (o:= .dK (Qh [] kvs)) (h':=h') (t':=tk) (λb u e=>hk b u (Jk e) e) (Jd _) (mI R (ID.mpr (Ne.symm (Jq I.big))) O dd)
  exact#[.ref _,_,I',Z,q _ (I.hok.fresh (Jd _))]
noncomputable def C3(d:Δ)(o:Obj)(kvs:List (qE×V)):It:=
 #[λi H=>H d=↑(.frz o (.dK kvs))/\i<kvs.length,λi H x H'=>H'=H/\∃a,kvs[i]? =↑a/\x=kV a.1,λi H=>H d=↑(.frz o (.dK kvs))/\kvs.length<=i]
theorem Ap{k:qE}{u:Γ}(h:(qR P w).is k u=true):HJ (kV k) u:=by
 rcases zC (show cC k u=true from h)with⟨i,t,rfl,rfl⟩|⟨x,t,rfl,rfl⟩
 .exact#[t,Z]
 .exact#[t,Z]
theorem wG:∀{kvs:List (qE×V)} {vs:List (qE×Γ)},KV kvs vs->∀(i:Nat) a b,kvs[i]? =↑a->vs[i]? =↑b->a.1=b.1
 |_,_,.nil,i,a,b,h,_=>by cases h
 |_,_,.cons r t,0,a,b,h1,h2=>by cases h1;cases h2;exact r.1
 |_,_,.cons r t,i+1,a,b,h1,h2=>wG t i a b h1 h2
theorem vz{K:ι}(d it:Δ){o:Obj}(J:∀h:Ψ,h.get? d=↑o->h.DictAt (qR P w) d vs ep)(f:KV kvs vs):
  Na P w K tg (C3 d o kvs) [it] it (λi h=>h.IsKeyIter it d i vs.length ep) where
 mem:=by simp
 obj:=λi h st b g=>by
  have e:b=it:=by simpa using g
  subst e;let#[o,e,c,d]:=st
  exact#[o,e,λv z=>by rw[d]at z;cases z]
 keep:=λi h h' st k=>st.at λo e=>k it (by simp) o e
 item:=by
  intro X D B C G i pins s σ H E I m st r;subst D B C;let#[y,hi]:=r;have a:=(I.hok d _ y).1;have p:i<vs.length:=by rw[<- f.length];exact hi
  have F:vs[i]? =↑(vs[i].1,vs[i].2):=Ji p
  have hk:kvs[i]? =some kvs[i]:=Ji hi
  have x:kvs[i].1=vs[i].1:=wG f i _ _ hk F
  let#[A,f1,f2,n,t,q]:=m it (by simp)
  refine wpAny_pyNext_dict_item st (J _ a) F λu h' l j M=>?_
  have L:L2.HH X pins σ H {s with heap:=h'}:=I.turned (t':=s.toks) (λb o g e=>(M.2 b g).trans e) A f1 n t q
  exact#[u,Z,letGo_keyiter (s':={s with heap:=h'}) j #[kV kvs[i].1,H,L,by rw[x];exact Ap l,#[37,hk,Z],j,λb g=>(m b g).1]]
 done:=by
  intro X D B C G i pins s σ H E I m st r;subst D B C;let#[y,hi]:=r;have a:=(I.hok d _ y).1;let#[A,f1,f2,n,t,q]:=m it (by simp)
  have O:=f.length;exact wpAny_pyNext_dict_end (I.ok.hd G) st (J _ a) (RE (by omega)) λh' N=>#[Z,I.turned (t':=s.toks) (λb o g e=>N b o g e) A f1 n t q]
 self:=λ_ _ _ _ _ st h=>wpAny_pyIter_keyiter st h
noncomputable def Fq(tl:TE):TI:=λσ H R=>tl σ H λx H1=>∃d kvs,x= .ref d/\H1 d=↑(.dK kvs)/\∀o,R (C3 d o kvs) (HG H1 d (.frz o (.dK kvs)))
theorem CD(hl:QE X l tl):QI X tg l (Fq tl):=#[by
 intro pins s σ H R I h;refine qB (hl.h pins s σ H _ I h) λv a D=>?_
 let#[x,H1,j,C,q1]:=D;let#[d,kvs,e,t,q]:=q1;subst e;cases C;let#[z,lo,r,c,o,es,n,g,p,A,m,w,y]:=lC j.hok t;have f:∀h:Ψ,h.get? d=↑o->h.DictAt (qR X.prog X.w) d r n:=λh e=>#[o,es,e,p,A,m,w,y]
 refine wpAny_pyIter_dict lo (f _ g) ?_
 have i:=j.write (x:=d) (e:=d) (o:= .frz o (.dK kvs)) (h':=a.heap) (t':=a.toks) (by rw[t];exact True.intro) (.inl Z) (λb u _ e=>e) #[o,g] #[g,z,lo,r,c,o,es,n,g,p,A,m,w,y]
 refine#[a.heap.objs.size,[a.heap.objs.size],20,i.kept (t':=a.toks) λb o e=>Jh _ e,vz d _ f c,#[_,Jr _ Z,7],λb B=>?_,q o]
 have e:b=a.heap.objs.size:=by simpa using B
 subst e;exact i.fpOk (Jd _) (i.hok.fresh (Jd _))]
theorem HH.thaw{o:Obj}(I:L2.HH X pins σ H s)(hd:H d=↑(.frz o (.dK kvs)))(j:∀o u,X.H₀ d≠↑(.frz o u)):L2.HH X pins σ (HG H d (.dK kvs)) s:=by
 have m:∀b,H b=none->b≠d:=λb e z=>by subst z;rw[hd]at e;cases e
 have a:∀b,H b=none->HG H d (.dK kvs) b=none:=λb e=>by rw[qh (m b e)];exact e
 refine#[I.ok,I.os,I.bare,#[I.base.keep,I.base.slot,λb g q n i=>a b (I.base.free b g q n i),I.base.there,λb xs q=>?_,λb g u q=>?_,λb ps q=>?_],I.loc,I.cell,a _ I.free,λx c e=>a _ (I.freeC x c e),λp t=>?_,λb u q=>?_,I.len]
 .have:=I.base.tups b xs q
  rw[qh (λz=>by subst z;rw[hd]at this;cases this)];exact this
 .rw[qh (λz=>by subst z;exact j _ _ q)];exact I.base.frzs b g u q
 .let#[f,e]:=I.base.tbls b ps q
  exact#[f,by rw[qh (λz=>by subst z;rw[hd]at e;cases e)];exact e]
 .let#[r,p2,l]:=I.pin p t
  exact#[r,a _ p2,l]
 .have st:∀{b:Δ} {u:HO},HN X.prog X.w H s.heap b u->HN X.prog X.w (HG H d (.dK kvs)) s.heap b u:=λ{b u} x=>x.stay (λ_ _ _ e=>e) (λc e=>by rw[qh (λz=>by subst z;rw[hd]at e;cases e)];exact e) (λc xs e=>by rw[qh (λz=>by subst z;rw[hd]at e;cases e)];exact e)
  by_cases h:b=d
  .subst h
   rw[qc]at q;cases q;exact st (I.hok b _ hd).2
  .rw[qh h]at q
   exact st (I.hok b u q)
noncomputable def Fg(a:Hp)(te:TE):TE:=λσ H Q=>te σ H λv H'=>∃d o kvs,H' d=↑(.frz o (.dK kvs))/\(∀o u,a d≠↑(.frz o u))/\Q v (HG H' d (.dK kvs))
theorem CJ(he:QE X e te):QE X e (Fg X.H₀ te):=#[by
 intro pins s σ H Q I h;refine qB (he.h pins s σ H _ I h) λv j i=>?_
 let#[x,H1,c,f,d,o,kvs,g,a,q]:=i
 exact#[x,_,HH.thaw c g a,f,q]]
section
theorem vY{kvs:List (qE×V)}(hn:kvs.length<=ζ)(Pv:Nat->Α->Hp->Prop)(g:Pv 0 [] H)(hl:∀i ys H,Pv i ys H->H d=↑(.frz o (.dK kvs)))
  (hs:∀i ys H a,kvs[i]? =↑a->ys.length=i->Pv i ys H->te (↑(kV a.1)::zV js σ) H λv h=>Pv (i+1) (ys++[v]) h)
  (hd:∀ys H,ys.length=kvs.length->Pv kvs.length ys H->∀p,H p=none->Q (-p) (HG H p (.lst ys))):aK (C3 d o kvs) js te σ H Q:=
 ba hn (λi x=>∃a,kvs[i]? =↑a/\x=kV a.1) Pv g (λi ys H hi p=>#[hl _ _ _ p,hi]) (λys H p=>#[hl _ _ _ p,Jd _]) (λi ys H x H' _ p y=>y) (λi ys H x _ c p f=>by let#[a,e,rfl]:=f;exact hs i ys H a e c p) hd
end
theorem v9{H:Hp}(e:H d=↑(.dK kvs))(s:HE (HG H d (.frz o (.dK kvs))) H'):HE H (HG H' d (.dK kvs)):=λx u a=>by
 by_cases q:x=d
 .subst q
  rw[qc,<- a,e]
 .rw[qh q]
  exact s _ _ (by rw[qh q];exact a)
inductive NW (K:ι)(H:Hp):Nat->V->V->Prop where
 |int (n:Nat)(i:Int):NW K H n (.int i) (.int i)
 |str (n:Nat)(x:Str):NW K H n (.str x) (.str x)
 |non (n:Nat):NW K H n .non .non
 | tup {n:Nat} {a b:Δ} {xs ys:Α} (h1:HP K H a xs) (h2:HP K H b ys) (hl:xs.length=ys.length)
   (hi:∀(i:Nat) (x y:V),xs[i]? =↑x->ys[i]? =↑y->NW K H n x y):NW K H (n+1) (-a) (-b)
section
open SeqAt
theorem Di(I:L2.HH X pins σ H s)(h:NW X.K H n x y):∀{v u:Γ} {A:Around},HJ x v->HJ y u->A.units+n<cLine->EqAt A s v u true:=by
 induction h with
 |int n i=>rintro v u A ⟨t,rfl⟩ ⟨m,rfl⟩ _;have:=EqAt.int_int (A:=A) (s:=s) i t i m;rwa [GG]at this
 |str n z=>rintro v u A ⟨t,rfl⟩ ⟨m,rfl⟩ _;have:=EqAt.str_str (A:=A) (s:=s) z t z m;rwa [GG]at this
 |non n=>
  intro v u A g l _
  cases(show v=Γ.none from g)
  cases(show u=Γ.none from l)
  exact EqAt.same _
 | @tup n a b xs ys h1 h2 hl _ ih=>
  intro v u A g l C
  cases(show v=Γ.ref a from g)
  cases(show u=Γ.ref b from l)
  by_cases f:a=b
  .rw[f];exact EqAt.same _
  .let#[d,q1,w,_]:=I.tuple h1
   let#[c,q2,p2,_]:=I.tuple h2;have E:=q1.length;have D:=q2.length;have e:=RcAt.tuples (A:=A) (e:=λ_=>true) (show s.heap.IsTuple a d.toArray from w) (show s.heap.IsTuple b c.toArray from p2) (by lia) (λj o p=>by
    let#[x,ex,B]:=Qc q1 (j:=j) (by simpa using o)
    let#[y,q,r]:=Qc q2 (j:=j) (by simpa using p)
    exact ih j x y ex q B r (by rw[J6];lia))
   rw[b8,show(d.toArray.size==c.toArray.size)=true by simp;lia]at e
   exact EqAt.of_refs f e
theorem E6(I:L2.HH X pins σ H s){A:Around}(h:NW X.K H n x y)(m:HJ x v)(o:HJ y u)(hu:A.units+n<cLine):RcAt A s v u true/\RcNeAt A s v u false:=by
 cases h with
 |int n i=>
  let#[t,rfl]:=m;let#[l,rfl]:=o;have f:=RcAt.int_int (A:=A) (s:=s) i t i l
  have g:=RcNeAt.int_int (A:=A) (s:=s) i t i l
  rw[GG]at f g
  exact#[f,g]
 |str n z=>
  let#[t,rfl]:=m;let#[l,rfl]:=o;have f:=RcAt.str_str (A:=A) (s:=s) z t z l
  have g:=RcNeAt.str_str (A:=A) (s:=s) z t z l
  rw[GG]at f g
  exact#[f,g]
 |non n=>
  cases(show v=Γ.none from m)
  cases(show u=Γ.none from o)
  exact#[RcAt.none_none,RcNeAt.none_none]
 | @tup n a b xs ys h1 h2 hl ih=>
  cases(show v=Γ.ref a from m)
  cases(show u=Γ.ref b from o)
  let#[d,q1,w,_]:=I.tuple h1;let#[c,q2,p2,_]:=I.tuple h2;have F:=q1.length;have E:=q2.length;have r:∀j (p:j<d.toArray.size) (q:j<c.toArray.size),EqAt A.in1 s d.toArray[j] c.toArray[j] ((λ_=>true) j):=λj p q=>by
   let#[x,ex,D]:=Qc q1 (j:=j) (by simpa using p)
   let#[y,B,C]:=Qc q2 (j:=j) (by simpa using q)
   exact Di I (ih j x y ex B) D C (by rw[J6];lia)
  have f:=RcAt.tuples (A:=A) (e:=λ_=>true) (show s.heap.IsTuple a d.toArray from w) (show s.heap.IsTuple b c.toArray from p2) (by lia) r
  have g:=RcNeAt.tuples (A:=A) (e:=λ_=>true) (show s.heap.IsTuple a d.toArray from w) (show s.heap.IsTuple b c.toArray from p2) (by lia) r
  rw[b8,show(d.toArray.size==c.toArray.size)=true by simp;lia]at f g
  exact#[f,g]
inductive PJ (K:ι)(b:Bool)(x:V)(y:V)(H:Hp)(Q:VK):Prop
 |mk (n:_)(h1:n<=32)(h2:NW K H n x y)(h3:Q (.bl b) H)
noncomputable def F8(K:ι)(b:Bool):R2:=λx y H Q=>PJ K b x y H Q
theorem DQ{k:Nat}(hr:HS k X.A):zj X (compareOp .NotEq) (F8 X.K false):=by
 intro pins s σ H x y v u Q I c a h;let#[n,d,e,q]:=h
 exact(E6 I e c a (by have:=hr.un;lia)).2 _ _ _ _ #[.bl _,H,I,Z,q]
end
section
variable(K:ι)(C:Δ)
inductive ky(vs:Α)(H:Hp)(Q:VK)(_:XK):Prop
 |mk (p ta hk bd lg:Δ)(n:Nat)(D:Dr)(h1:vs=[-p])(h2:HI K C H p ta hk bd lg n D)(h3:Q (.int D.least) H)
end
structure Ac(K:ι)(mg:HC)(x:Str)(st:δ):Prop where
 ex:∃(f:Δ) (fd:FuncData),Oc K x x st f fd/\mg x=↑(-f)
structure NF(K:ι)(C:Δ)(m gV:Str)(st:δ):Prop where
 ex:∃(f:Δ) (fd:FuncData),Oc K m gV st f fd/\OV K C m f
section
variable{K:ι}{st:δ}{kV:Γ}
theorem Ba(X:K.In h)(G:h.Ns η mg)(a:W.nsIn K η x=↑(↑(-f)))(l:K.lookup f=some #[oc,od,.func (W.fnOf x x (Qo st) (zi st) (ql st) .none kV doc pm an cdv ct),osl])(c:W.codeIn K cdv x=true)(k:W.keepIn K (-f)=true):Ac K mg x st:=#[f,_,nF l c k,W.mg_of X G a]
theorem DM(a:W.findIn K (-C) m=↑(↑(-f)))(i:W.isFn K (-f)=true)(l:K.lookup f=some #[oc,od,.func (W.fnOf m gV (Qo st) (zi st) (ql st) .none kV doc pm an cdv ct),osl])(c:W.codeIn K cdv gV=true)(k:W.keepIn K (-f)=true):NF K C m gV st:=#[f,_,nF l c k,a,i,k]
theorem Gv{p:Η->Prop}(h:p []):∀a:Η,a.length=0->p a:=by
 intro a c;rw[OJ c];exact h
theorem pT{n:Nat}{p:Η->Prop}(h:∀a c,c.length=n->p (a::c)):∀c:Η,c.length=n+1->p c:=by
 intro c d;cases c with
 |nil=>cases d
 |cons a r=>exact h a r (Nat.succ.inj d)
theorem Zw{p:Η->Prop}(h:∀d,p [d]):∀c:Η,c.length=1->p c:=pT λa=>Gv (p:=λr=>p (a::r)) (h a)
theorem ai{p:Η->Prop}(h:∀e d,p [e,d]):∀c:Η,c.length=2->p c:=pT λa=>Zw (p:=λr=>p (a::r)) (h a)
theorem bg{p:Η->Prop}(h:∀f e d,p [f,e,d]):∀c:Η,c.length=3->p c:=pT λa=>ai (p:=λr=>p (a::r)) (h a)
theorem vm{p:Η->Prop}(h:∀g f e d,p [g,f,e,d]):∀c:Η,c.length=4->p c:=pT λa=>bg (p:=λr=>p (a::r)) (h a)
theorem FO{p:Η->Prop}(h:∀i g f e d,p [i,g,f,e,d]):∀c:Η,c.length=5->p c:=pT λa=>vm (p:=λr=>p (a::r)) (h a)
theorem FI{p:Η->Prop}(h:∀j i g e d f,p [j,i,g,e,d,f]):∀c:Η,c.length=6->p c:=pT λa=>FO (p:=λr=>p (a::r)) (h a)
theorem Ac.at(a:Ac K mg x st)(b:∀(kV doc pm:Γ) (an:Χ) (cdv ct:Γ) (us:Η),us.length=ps.length->bindArgs (W.fnOf x x (Qo st) (zi st) (ql st) .none kV doc pm an cdv ct) #[us,[]]=pure (ps.zip us):=by intro _ _ _ _ _ _;first|exact Zw λ_=>rfl|exact ai λ_ _=>rfl|exact bg λ_ _ _=>rfl|exact vm λ_ _ _ _=>rfl|exact FO λ_ _ _ _ _=>rfl|exact FI λ_ _ _ _ _ _=>rfl):At K mg x st ps:=by
 let#[_,_,F,m]:=a.ex;exact Fe F m (F.binds b)
theorem NF.at(a:NF K C m gV st)(b:∀(kV doc pm:Γ) (an:Χ) (cdv ct:Γ) (us:Η),us.length=ps.length->bindArgs (W.fnOf m gV (Qo st) (zi st) (ql st) .none kV doc pm an cdv ct) #[us,[]]=pure (ps.zip us):=by intro _ _ _ _ _ _;first|exact Zw λ_=>rfl|exact ai λ_ _=>rfl|exact bg λ_ _ _=>rfl|exact vm λ_ _ _ _=>rfl|exact FO λ_ _ _ _ _=>rfl|exact FI λ_ _ _ _ _ _=>rfl):ND K C m gV st ps:=by
 let#[_,_,F,m]:=a.ex
 exact#[16,F,m,F.binds b]
end
structure Ps where
 nm:Str
 age:Int
 ds:Ε
noncomputable abbrev _root_.Ν:=List Ps
def MP(H:Hp)(p:Δ)(P:Ps):Prop:=L8 H p P.nm P.age P.ds
structure Nm(P:Ps):Prop where
 nm:ZF P.nm
 l:P.ds.length=5
 dg:zA P.ds
noncomputable def Zz(D:Dr)(P:Ps):Option (Int×Int):=if zX D P.age=true then Qj D.t (zN D P.age) P.nm P.ds else none
noncomputable def vW(D:Dr)(P R:Ps):Str×Int×Kw:=match Zz D P with
 |none=>("press",0,D.kn)
 |some (c,_)=>match Zz D R with
  |none=>("press",1,D.kn)
  |some (c',_)=>if R.nm=P.nm/\R.age=P.age/\c'=c+1 then(match D.kn.lookup P.nm with
    |some _=>("known",0,D.kn)
    |none=>if(D.kn.length:Int)<D.most then("",0,qP D.kn P.nm #[P.age,c',none])else("full",0,D.kn))
   else("press",1,D.kn)
noncomputable def lU(c:Nat):Bool:=decide (97<=c)&&decide (c<=122)
noncomputable def DX(z:Str):Bool:=z.cps.toList.all lU
noncomputable def AW(z:Str):Bool:=decide (1<=z.length)&&decide (z.length<=8)&&DX z
theorem OZ:AW z=true↔ZF z:=by
 unfold AW DX ZF;rw[GF,GF,Lo,Lo,IP];have f:z.length=z.cps.toList.length:=Z
 rw[f];constructor
 .rintro⟨⟨h1,e⟩,a⟩
  refine#[λc d=>?_,h1,e]
  have:=a c d
  unfold lU at this;rw[GF,Lo,Lo]at this;exact this
 .rintro⟨a,h1,e⟩
  refine#[#[h1,e],λc d=>?_]
  unfold lU;rw[Jj (a c d).1,Jj (a c d).2];rfl
theorem io{a b:Nat}:([a]:Ζ)<[b]↔a<b:=by
 rw[List.cons_lt_cons_iff];constructor
 .rintro(h|⟨_,h⟩)
  .exact h
  .exact absurd h (List.not_lt_nil _)
 .exact .inl
theorem tS(c:Nat):(! decide ((#[(B1 [c])]:Str).cps.toList<("a":Str).cps.toList))=decide (97<=c)/\(! decide (("z":Str).cps.toList<(#[(B1 [c])]:Str).cps.toList))=decide (c<=122):=by
 have d:("a":Str).cps.toList=[97]:=by decide +kernel
 have a:("z":Str).cps.toList=[122]:=by decide +kernel
 rw[d,a]
 show(! decide ([c]<[97]))=_/\(! decide ([122]<[c]))=_
 constructor
 .by_cases h:97<=c
  .rw[Jj h,Jl (by rw[io];lia)];rfl
  .rw[Jl h,Jj (by rw[io];lia)];rfl
 .by_cases h:c<=122
  .rw[Jj h,Jl (by rw[io];lia)];rfl
  .rw[Jl h,Jj (by rw[io];lia)];rfl
theorem nw{t:String}(h:kd H x=↑t):OU H x t:=by
 cases x with
 |non=>cases h;exact .non
 |bl b=>cases h;exact .bl b
 |int i=>cases h;exact .int i
 |str x=>cases h;exact .str x
 |byt b=>cases h
 |flt b=>cases h
 |ty b=>cases h
 |ref a=>
  rcases jd h with⟨xs,e,rfl⟩|⟨xs,e,rfl⟩
  .exact .lst e
  .exact .tup (.inl e)
def FK(H:Hp)(x:V)(b:Bool):Prop:=(∃z,x= .str z/\z.cps.all (· <128)=true/\z.length<=100/\b=AW z)\/(∃t,kd H x=↑t/\QD t "str"=false/\b=false)
def PL(H:Hp)(x:V)(b:Bool):Prop:=(∃(p:Δ) (ds:Α),x= .ref p/\H p=↑(.tup ds)/\ds.length<=100/\(∀v∈ds,∃t,kd H v=↑t)/\b=(decide (ds.length=5)&&ds.all cH))\/(∃t,kd H x=↑t/\QD t "tuple"=false/\b=false)
inductive Pe (H:Hp)(x:V):Bool->Prop where
 |kd {t:String} (h:kd H x=↑t) (n:QD t "tuple"=false):Pe H x false
 |len {a:Δ} {xs:Α} (e:x= .ref a) (h:H a=↑(.tup xs)) (l:xs.length<=100) (n:xs.length≠3):Pe H x false
 |tup {a:Δ} {n y c:V} {bn bc:Bool} {ty:String} (e:x= .ref a) (h:H a=↑(.tup [n,y,c])) (hn:FK H n bn) (hy:L3.kd H y=↑ty) (hc:PL H c bc):Pe H x (bn&&hV y&&bc)
theorem PL.same{b:Bool}(s:HE H H')(h:PL H x b):PL H' x b:=h.elim (λ⟨p,ds,e,h1,a,c,d⟩=> .inl ⟨p,ds,e,s _ _ h1,a,(λv f=>let⟨t,ht⟩:=c v f;⟨t,fQ s ht⟩),d⟩) (λ⟨t,h1,a⟩=> .inr ⟨t,fQ s h1,a⟩)
def Tg(H:Hp)(x:V)(o:Option Ps):Prop:=match o with
 |none=>Pe H x false
 |some P=>∃a,x= .ref a/\MP H a P/\Nm P
theorem Tg.b(h:Tg H x o):Pe H x o.isSome:=by
 cases o with
 |none=>exact h
 |some P=>
  let#[f,e,#[c,h1,a],ok]:=h;have t:=Pe.tup (bn:=true) (bc:=true) e h1 (.inl #[P.nm,Z,lJ ok.nm,by have:=ok.nm.2.2;show P.nm.cps.toList.length<=100;lia,(OZ.mpr ok.nm).symm]) (ty:="int") Z (.inl #[c,0,a,by rw[Jf,ok.l];decide,(λv d=>by let#[i,_,rfl]:=Ju.mp d;exact#[0]),by rw[Jf,ok.l,xm ok.dg];rfl])
  exact t
inductive jT(vs:Α)(H:Hp)(Q:VK)(_:XK):Prop
 |mk (x:_)(b:_)(h1:vs=[x])(h2:FK H x b)(h3:∀H',HE H H'->Q (.bl b) H')
inductive jS(vs:Α)(H:Hp)(Q:VK)(_:XK):Prop
 |mk (x:_)(b:_)(h1:vs=[x])(h2:PL H x b)(h3:∀H',HE H H'->Q (.bl b) H')
inductive cu(vs:Α)(H:Hp)(Q:VK)(_:XK):Prop
 |mk (x:_)(b:_)(h1:vs=[x])(h2:Pe H x b)(h3:∀H',HE H H'->Q (.bl b) H')
section
variable(K:ι)(C:Δ)
inductive fv(vs:Α)(H:Hp)(Q:VK)(_:XK):Prop
 |mk (p ta hk bd lg:Δ)(n:Nat)(D:Dr)(x:V)(o:Option Ps)(h1:vs=[-p,x])(h2:HI K C H p ta hk bd lg n D)(h3:Nd D)(h4:Tg H x o)(h5:∀y H',HE H H'->eV H' y (o.bind (Zz D))->Q y H')
end
theorem nS{X:Cx}{scope:Scope}{r:List (Str×Δ)}{l:Pos}{fr own:Β}{i:Nat}{y:Str}
  (hN:X.N.Nodup)(w:X.N[i]? =↑y)(hx:iE X.env.scope y)
  (hc:X.calm=true)(hi:QI X tg d L)(p:closureFor scope X.env=pure r)(F:∀y c,r.lookup y=↑c->X.env.cells.lookup y=↑c)(A:r.map (·.1)=fr)
  (S:Mw X scope fr js)
  (hg:∀C s H fp,QG (zF X (own++fr) scope r C s H fp) tg g)(P:∀C s H fp,QT (zF X (own++fr) scope r C s H fp) f tc)(he:∀C s H fp,QE (zF X (own++fr) scope r C s H fp) j te)
  (hs:∀x,foldedSetIterable d X.env x=pure x:=by intro _;rfl)(B:swapsWith (.ListComp j [#[tg,d,[f],(0)]] scope pos) ↑(.Name y u) l.line X.env=pure true:=by rfl)
  (hf:X.fn y=true\/X.env.scope.names.lookup y=some .local:=by first|exact .inl Z|exact .inr Z|assumption):
  QS X (.Assign [.Name y u] (.ListComp j [#[tg,d,[f],(0)]] scope pos) l) (gW (iq own.length js L g tc te) (QB i)):=#[by
 intro pins s σ H D I h;rw[exec_Assign_Name_used _ _ _ _ B];refine Ja (IE (Ja ?_))
 show ε _ X.A (do let _ <- comprehension (.ListComp j [#[tg,d,[f],(0)]] scope pos) scope X.env _ (newList []) false (eval d X.env) ↑(assign (.Name y u) X.env)) _ _ s
 refine Ja (JJ (kj (use:=↑(assign (.Name y u) X.env)) (Post:=λ_ s'=>SP X pins D .next s') hc hi.h p F A S (λC s H fp=>(hg C s H fp).h) (λC s H fp=>(P C s H fp).h) (λC s H fp=>(he C s H fp).h) hs I h ?_) (λ_ s' N=>Je (Je N)) λ_ _ e=>e)
 intro t C Y H' m O U n q
 show ε _ X.A (assign (.Name y u) X.env (-t)) _ _ _
 refine wpAny_assign_Name (fu (v:= .ref t) O hN w hx Z (λT Q R=>?_) hf)
 let#[a,J,M]:=R;have E:C≠a:=by
  rcases M with z|z
  .rw[z];exact n.loc
  .exact Ne.symm (n.cell _ _ z)
 refine#[m,U.sameBut J E,λh' G=>?_]
 exact#[_,H',Q.turned (t':=T.toks) (λb o W e=>(G.2 b W).trans e) n.free n.loc (.inr n.new) n.cell n.pin,q]]
def Pf(K:ι)(H:Hp)(b:Δ)(c:List Ε):Prop:=∃d:Ι,HP K H b (d.map V.ref)/\d.length=c.length/\∀(i:Nat) (a:Δ) (e:Ε),d[i]? =↑a->c[i]? =↑e->HP K H a (e.map V.int)
theorem Pf.same{K:ι}{b:Δ}(h:Pf K H b c)(s:HE H H'):Pf K H' b c:=by
 let#[j,e,l,r]:=h
 exact#[j,HE.sqt s e,l,λi a d f g=>HE.sqt s (r i a d f g)]
theorem Pf.upd{K:ι}{b:Δ}{fs:List (Str×V)}(h:Pf K H b c)(e:H p=↑(.ins C dx fs)):Pf K (HG H p o) b c:=by
 let#[m,d,l,r]:=h
 exact#[m,jH e d,l,λi a f g j=>jH e (r i a f g j)]
inductive Rw where
 |learn (P R:Ps)
 |forget (nm:Str)
 |turn (ks:Ε)
 |close (age:Int)
 |hear (P:Ps)(ans:Α)
noncomputable abbrev _root_.Υ:=List Rw
noncomputable def pP:V->Prop
 | .int _=>True
 | .str _=>True
 |_=>False
noncomputable def Nw(H:Hp)(a:Δ):Rw->Prop
 | .learn P R=>∃c p2,Rd H a (.tup [.str "learn",-c,-p2])/\MP H c P/\MP H p2 R/\Nm P/\Nm R
 | .forget nm=>Rd H a (.tup [.str "forget",.str nm])
 | .turn ks=>∃k,Rd H a (.tup [.str "turn",-k])/\Rd H k (.tup (ks.map V.int))/\ks.length<=8
 | .close age=>Rd H a (.tup [.str "close",.int age])
 | .hear P ans=>∃p q,Rd H a (.tup [.str "hear",-p,-q])/\MP H p P/\Nm P/\H q=↑(.tup ans)/\ans.length<=3/\∀v∈ans,pP v
def MG(H:Hp)(rs:Ι)(L:Υ):Prop:=rs.length=L.length/\∀(i:Nat) (a:Δ) (r:Rw),rs[i]? =↑a->L[i]? =↑r->Nw H a r
def Nn(H:Hp)(lg:Δ)(L:Υ):Prop:=∃rs:Ι,H lg=↑(.lst (rs.map V.ref))/\MG H rs L
def Np(H:Hp)(t:Δ)(L:Υ):Prop:=∃rs:Ι,Rd H t (.tup (rs.map V.ref))/\MG H rs L
section
theorem Nw.mv(m:Mv S H H')(n:NT S H)(h:Nw H a r):Nw H' a r:=by
 cases r with
 |learn P R=>let#[g,p2,h1,c,d,e]:=h;exact#[g,p2,m.rd n h1,L8.mv m n c,L8.mv m n d,e]
 |forget nm=>exact m.rd n h
 |turn ks=>let#[k,h1,c,d]:=h;exact#[k,m.rd n h1,m.rd n c,d]
 |close age=>exact m.rd n h
 |hear P ans=>let#[p,q,h1,c,d,e,f]:=h;exact#[p,q,m.rd n h1,L8.mv m n c,d,m.tup n e,f]
theorem MG.mv(m:Mv S H H')(n:NT S H)(h:MG H rs L):MG H' rs L:=#[h.1,λi a r d c=>(h.2 i a r d c).mv m n]
theorem Nn.mv(m:Mv S H H')(n:NT S H)(hl:lg∉S)(h:Nn H lg L):Nn H' lg L:=by
 let#[rs,e,r]:=h
 exact#[rs,m _ _ hl e,r.mv m n]
theorem Np.mv(m:Mv S H H')(n:NT S H)(h:Np H t L):Np H' t L:=by
 let#[rs,e,r]:=h
 exact#[rs,m.rd n e,r.mv m n]
theorem iW:NT [] H:=λc h=>nomatch h
theorem MG.same(s:HE H H')(h:MG H rs L):MG H' rs L:=h.mv (S:=[]) s.mv iW
theorem Nn.same(s:HE H H')(h:Nn H lg L):Nn H' lg L:=h.mv (S:=[]) s.mv iW (λz=>nomatch z)
theorem Np.same(s:HE H H')(h:Np H t L):Np H' t L:=h.mv (S:=[]) s.mv iW
theorem MG.add(h:MG H rs L)(hr:Nw H a r):MG H (rs++[a]) (L++[r]):=by
 refine#[by simp [h.1],λi b q c d=>?_]
 by_cases hi:i<rs.length
 .rw[Io hi]at c
  rw[Io (by rw[<- h.1];exact hi)]at d
  exact h.2 i b q c d
 .rw[GU (by lia)]at c
  rw[GU (by rw[<- h.1];lia),<- h.1]at d
  cases e:i-rs.length with
  |zero=>rw[e]at c d;cases c;cases d;exact hr
  |succ k=>rw[e]at c;cases c
theorem Au(h:pP v):Of H n v v:=by
 cases v with
 |int i=>exact .int _ _
 |str i=>exact .str _ _
 |_=>exact h.elim
theorem MP.eqv(h1:MP H p P)(h2:MP H q P)(o:Nm P):Of H 2 (-p) (-q):=by
 let#[h,e,f]:=h1;let#[g,d,c]:=h2;refine .tup (.inl e) (.inl d) Z (by show 3<=ζ;decide) λi x y ex a=>?_
 match i,ex,a with
 |0,ex,a=>cases ex;cases a;exact .str _ _
 |1,ex,a=>cases ex;cases a;exact .int _ _
 |2,ex,a=>cases ex;cases a;exact .ints (.inl f) (.inl c) (by rw[o.l];decide)
 |i+3,ex,a=>cases ex
theorem Nw.eqv{b:Δ}(h1:Nw H a r)(h2:Nw H b r):Of H 3 (-a) (-b):=by
 cases r with
 |learn P R=>
  let#[m,p2,d,e,f,h,j]:=h1;let#[q1,q2,f1,f2,g,_]:=h2;refine .tup d f1 Z (by show 3<=ζ;decide) λi x y ex c=>?_
  match i,ex,c with
  |0,ex,c=>cases ex;cases c;exact .str _ _
  |1,ex,c=>cases ex;cases c;exact MP.eqv e f2 h
  |2,ex,c=>cases ex;cases c;exact MP.eqv f g j
  |i+3,ex,c=>cases ex
 |forget nm=>
  refine .tup (n:=2) h1 h2 Z (by show 2<=ζ;decide) λi x y ex c=>?_
  match i,ex,c with
  |0,ex,c=>cases ex;cases c;exact .str _ _
  |1,ex,c=>cases ex;cases c;exact .str _ _
  |i+2,ex,c=>cases ex
 |turn ks=>
  let#[q,d,e,f]:=h1;let#[o,f1,f2,_]:=h2;refine .tup (n:=2) d f1 Z (by show 2<=ζ;decide) λi x y ex c=>?_
  match i,ex,c with
  |0,ex,c=>cases ex;cases c;exact .str _ _
  |1,ex,c=>cases ex;cases c;exact .ints e f2 (by rw[Jt];lia)
  |i+2,ex,c=>cases ex
 |close age=>
  refine .tup (n:=2) h1 h2 Z (by show 2<=ζ;decide) λi x y ex c=>?_
  match i,ex,c with
  |0,ex,c=>cases ex;cases c;exact .str _ _
  |1,ex,c=>cases ex;cases c;exact .int _ _
  |i+2,ex,c=>cases ex
 |hear P ans=>
  let#[m,p2,d,e,h,f,p,l]:=h1;let#[q1,q2,f1,f2,_,g,_]:=h2;refine .tup d f1 Z (by show 3<=ζ;decide) λi x y ex c=>?_
  match i,ex,c with
  |0,ex,c=>cases ex;cases c;exact .str _ _
  |1,ex,c=>cases ex;cases c;exact MP.eqv e f2 h
  |2,ex,c=>
   cases ex;cases c
   refine .tup (n:=1) (.inl f) (.inl g) Z (by rw[Jt];lia) λi x y ex c=>?_
   rw[ex]at c;cases c
   exact Au (l _ (Jy ex))
  |i+3,ex,c=>cases ex
theorem Np.eqv(h1:Np H t L)(h2:Np H t' L)(hl:L.length<=2000000):Of H 4 (-t) (-t'):=by
 let#[rs,h,d,g]:=h1;let#[f,l,e,j]:=h2;refine .tup h l (by simp [d,e]) (by rw[Jf,d,Jt];lia) λi x y ex c=>?_
 rw[Jo]at ex c;cases q1:rs[i]? with
 |none=>rw[q1]at ex;cases ex
 |some a=>
  cases q2:f[i]? with
  |none=>rw[q2]at c;cases c
  |some b=>
   rw[q1]at ex;rw[q2]at c;cases ex;cases c
   have hi:i<L.length:=by rw[<- d];exact(Jw.mp q1).1
   exact(g i a _ q1 (Ji hi)).eqv (j i b _ q2 (Ji hi))
end
theorem _root_.L2.HP.up{K:ι}(h:HP [] H a xs):HP K H a xs:=h.elim .inl λ⟨_,_,_,z,_⟩=>nomatch z
theorem _root_.L2.HP.rd(h:HP [] H a xs):Rd H a (.tup xs):=h.elim id λ⟨_,_,_,z,_⟩=>nomatch z
theorem L7.up{K:ι}(h:L7 [] H a c):L7 K H a c:=by
 let#[j,e,l,r]:=h
 exact#[j,e,l,λi a d f g=>(r i a d f g).up]
inductive oq(K:ι)(C:Δ)(vs:Α)(H:Hp)(Q:VK)(_:XK):Prop
 |mk (p a b dx:Δ)(near far most:Int)(t:Ε)(kss:List Ε)(h1:vs=[-p,-a,-b,.int near,.int far,.int most])(h2:H p=↑(.ins C dx []))(h3:Sq K H a (t.map V.int))(h4:Pf [] H b kss)(h5:kss.length<=8)(h6:∀ta hk bd lg H',H hk=none->H bd=none->H lg=none->Mv [p] H H'->HI K C H' p ta hk bd lg 0 ⟨t,kss,near,far,most,0,[]⟩->L7 [] H' hk kss->Q .non H')
structure Da where
 p:Δ
 ta:Δ
 hk:Δ
 bd:Δ
 lg:Δ
structure Mr(K:ι)(C:Δ)(H:Hp)(a:Da)(D:Dr)(L:Υ):Prop where
 dr:HI K C H a.p a.ta a.hk a.bd a.lg L.length D
 lo:Nn H a.lg L
 kr:L7 [] H a.hk D.kss
section
variable{K:ι}
theorem Mr.mv(b:Mr K C H a D L)(m:Mv S H H')(nt:NT S H)(hp:a.p∉S)(c:a.hk∉S)(hb:a.bd∉S)(hl:a.lg∉S):Mr K C H' a D L:=#[b.dr.mv m nt hp c hb hl,b.lo.mv m nt hl,L7.mv m nt c b.kr]
theorem Mr.same(b:Mr K C H a D L)(s:HE H H'):Mr K C H' a D L:=#[b.dr.same s,b.lo.same s,L7.same s b.kr]
theorem Mr.push(b:HI K C H a.p a.ta a.hk a.bd a.lg L.length D)(c:H a.lg=↑(.lst (rs.map V.ref)))(d:MG H rs L)(f:L7 [] H a.hk D.kss)(hr:Nw H r rw):Mr K C (HG H a.lg (.lst (rs.map V.ref++[-r]))) a D (L++[rw]):=by
 have nt:NT [a.lg] H:=NT.one c trivial
 have e:=b.putL (r:=r) c (JZ d.1)
 rw[show L.length+1=(L++[rw]).length by simp]at e
 exact#[e,#[rs++[r],by rw[qc,JI];rfl,(d.add hr).mv Mv.upd1 nt],L7.mv Mv.upd1 nt (qK b.ne.symm) f]
theorem AN{a:List (qE×V)}(e:H bd=↑(.dK a))(b:HI K C H p ta hk bd lg n D):hk≠bd:=by
 let#[d,c,_]:=b.ks;exact qD c e (by intro z;cases z)
theorem DW{a:List (Str×V)}(e:H p=↑(.ins C dx a))(b:HI K C H p ta hk bd lg n D):hk≠p:=by
 let#[d,c,_]:=b.ks;exact qD c e (by intro z;cases z)
theorem HI.dl(b:HI K C H p ta hk bd lg 0 D)(c:L7 [] H hk D.kss):Mr K C H #[p,ta,hk,bd,lg] D []:=by
 let#[rs,e,l]:=id b.lo
 obtain rfl:rs=[]:=List.length_eq_zero_iff.mp (Nat.le_zero.mp l)
 exact#[b,#[[],e,Z,λi a r h=>by cases h],c]
end
inductive Dd where
 |learn (o1 o2:Option Ps)
 |forget (nm:Str)
 |turn (ks:Ε)
 |close (age:Int)
 |hear (o:Option Ps)
noncomputable def qX(D:Dr)(P:Ps):Α×Kw:=q8 D P.nm P.age (Qj D.t (zN D P.age) P.nm P.ds)
noncomputable def Gj(D:Dr):Dd->Option (Dr×Rw)
 | .learn ↑P ↑R=>if(vW D P R).1="" then ↑({D with kn:=(vW D P R).2.2},.learn P R)else none
 | .learn _ _=>none
 | .forget nm=>if D.kn.lookup nm=none then none else ↑({D with kn:=D.kn.filter λp=>decide (p.1≠nm)},.forget nm)
 | .turn ks=>if D.kss.length<8 then ↑({D with kss:=D.kss++[ks]},.turn ks)else none
 | .close age=>↑({D with least:=if age>D.least then age else D.least},.close age)
 | .hear ↑P=>↑({D with kn:=(qX D P).2},.hear P (qX D P).1)
 | .hear none=>none
section
variable(K:ι)(C:Δ)(x:Xa)
inductive rW(vs:Α)(H:Hp)(Q:VK)(_:XK):Prop
 |mk (a:Da)(D:Dr)(L:Υ)(x:V)(o:Option Ps)(h1:vs=[-a.p,x])(h2:Mr K C H a D L)(h3:L.length<=1000000)(h4:Nd D)(h5:Tg H x o)(h6:(o=none->∀q H',HE H H'->H' q=↑(.tup [.str "held",.str "bad"])->Q (-q) H'))(h7:∀P,o=↑P->∀pr q H',x= .ref pr->Mv [a.bd,a.lg] H H'->MP H' pr P->H' q=↑(.tup (qX D P).1)->Mr K C H' a {D with kn:=(qX D P).2} (L++[.hear P (qX D P).1])->Q (-q) H')
def Gp(H:Hp)(k:Δ)(ks:Ε):Prop:=H k=↑(.lst (ks.map V.int))\/Rd H k (.tup (ks.map V.int))
inductive nZ(vs:Α)(H:Hp)(Q:VK)(_:XK):Prop
 |mk (a:Da)(D:Dr)(L:Υ)(age:Int)(h1:vs=[-a.p,.int age])(h2:Mr K C H a D L)(h3:L.length<=1000000)(h4:∀D' r,Gj D (.close age)=↑(D',r)->∀H',Mv [a.p,a.lg] H H'->Mr K C H' a D' (L++[r])->Q .non H')
inductive vi(vs:Α)(H:Hp)(Q:VK)(_:XK):Prop
 |mk (a:Da)(D:Dr)(L:Υ)(h1:vs=[-a.p])(h2:Mr K C H a D L)(h3:∀t H',HE H H'->Np H' t L->Q (-t) H')
end
theorem oJ:zt X (.type "tuple") (λxs H Q=>∃a c,xs=[-a]/\Gp H a c/\∀t d,HE H d->Rd d t (.tup (c.map V.int))->Q (-t) d):=by
 intro pins s σ H xs f Q I r h;let#[a,c,e,h,q]:=h;refine qZ pins s σ H xs f Q I r #[a,c.map V.int,e,?_]
 rcases h with h|h
 .exact .inl #[HK.of h,λt g=>q t _ (HE.upd g) (.inl qc)]
 .exact .inr #[.inl h,q a _ (HE.refl _) h]
section
theorem kB(D:Dr)(nm:Str)(age:Int)(r:Option (Int×Int)):(q8 D nm age r).1.length<=3/\∀v∈(q8 D nm age r).1,pP v:=by
 have two:∀a b:Str,([V.str a,.str b]:Α).length<=3/\∀v∈([V.str a,.str b]:Α),pP v:=λa b=>#[by show 2<=3;decide,λv d=>by simp at d;rcases d with rfl|rfl<;>trivial]
 have c:∀(a b:Str) (i:Int),([V.str a,.str b,.int i]:Α).length<=3/\∀v∈([V.str a,.str b,.int i]:Α),pP v:=λa b i=>#[by show 3<=3;decide,λv d=>by simp at d;rcases d with rfl|rfl|rfl<;>trivial]
 unfold q8;split
 .exact two _ _
 .split
  .split
   .exact two _ _
   .split
    .exact c _ _ _
    .exact two _ _
  .exact two _ _
theorem vU(D:Dr)(P:Ps):(qX D P).1.length<=3:=(kB ..).1
theorem xf(D:Dr)(P:Ps):∀v∈(qX D P).1,pP v:=(kB ..).2
end
theorem CM{t u:TS}{D:MF}(G:L2.St->Hp->Prop)(h:∀c:MF,c.rt=D.rt->(∀a H',G a H'->c.nx a H')->t c σ H)(d:∀a H',G a H'->u D a H'):ei t u D σ H:=h {D with nx:=u D} rfl d
section
variable{K:ι}
noncomputable def dS(a:Da):Ι:=[a.p,a.hk,a.bd,a.lg]
theorem Mr.nt(d:Mr K C H a D L):NT (dS a) H:=λc e=>by
 let#[dx,g]:=id d.dr.ob;let#[j,h,_]:=id d.dr.kb;let#[l,i,_]:=id d.dr.ks;let#[rs,f,_]:=id d.lo;simp only[dS,Jp,JE,JF]at e;rcases e with rfl|rfl|rfl|rfl
 .exact#[_,g,trivial]
 .exact#[_,i,trivial]
 .exact#[_,h,trivial]
 .exact#[_,f,trivial]
end
theorem DP{t u:TS}{D:MF}{rt:VK}{bk ct:L2.St->Hp->Prop}(G:L2.St->Hp->Prop)(h:∀c:MF,c.rt=D.rt->(∀a H',G a H'->c.nx a H')->t c σ H)(d:∀a H',G a H'->u D a H'):MF.nx {nx:=ei t u D,rt:=rt,bk:=bk,ct:=ct} σ H:=h {D with nx:=u D} rfl d
section
variable{bk:L2.St->Hp->Prop}
theorem Dh(G:Bool->Hp->Prop)(h:∀a:Bool->Hp->Prop,(∀b H',G b H'->a b H')->tc σ H a)(h1:∀H',G true H'->t {D with nx:=r D} σ H')(h2:∀H',G false H'->u {D with nx:=r D} σ H'):ei (nQ tc t u) r D σ H:=h _ λb H' g=>by
 cases b with
 |true=>exact(Jc Z).mpr (h1 H' g)
 |false=>exact(Jb (by intro z;cases z)).mpr (h2 H' g)
theorem rV(G:Bool->Hp->Prop)(h:∀a:Bool->Hp->Prop,(∀b H',G b H'->a b H')->tc σ H a)(h1:∀H',G true H'->t {D with nx:=r D} σ H')(h2:∀H',G false H'->u {D with nx:=r D} σ H'):uc {nx:=ei (nQ tc t u) r D,rt:=rt,bk:=bk,ct:=ct} σ H:=Dh G h h1 h2
end
theorem lj{X:Cx}{K:ι}(h:X.K=K):zt X (.type "list") (λxs H Q=>∃p ys,xs=[-p]/\(HK K H p ys\/HP K H p ys)/\∀l,H l=none->Q (-l) (HG H l (.lst ys))):=by subst h;exact ZK
theorem Ea{k:Nat}:ZY xs none ↑(k:Int)=xs.take k:=by
 unfold ZY;rw[HT.sIx_nat,HT.sIx_none,OF,Nat.sub_zero]
 by_cases h:k<=xs.length
 .rw[Ky h]
 .rw[OK (by lia),Iy (by lia),Iy (by lia)]
section
variable{K:ι}
theorem Of.eqk(h:Of H n x y):NW K H n x y:=by
 induction h with
 |int n i=>exact .int n i
 |str n z=>exact .str n z
 |non n=>exact .non n
 |tup h1 h2 hl _ _ ih=>exact .tup (.inl h1) (.inl h2) hl ih
theorem yq{b:Δ}{ns:Ε}{n:Nat}(h1:HP K H a (ns.map V.int))(h2:HP K H b (ns.map V.int)):NW K H (n+1) (-a) (-b):=by
 refine .tup h1 h2 Z λi x y c d=>?_
 rw[c]at d;cases d
 rw[Jo]at c;cases h:ns[i]? with
 |none=>rw[h]at c;cases c
 |some v=>rw[h]at c;cases c;exact .int _ _
theorem uW{ss:Β}(h1:Nv H p ss h)(h2:Nv H q ss n)(hs:∀nm∈ss,nm∈h.map (·.1))(he:∀nm,n.lookup nm=h.lookup nm):NW K H 3 (-p) (-q):=by
 let#[t,r,l,w]:=h1;let#[bs,B,u,z]:=h2;refine .tup (HP.of r) (HP.of B) (by simp [l,u]) λi x y ex c=>?_
 rw[Jo]at ex c;cases q1:t[i]? with
 |none=>rw[q1]at ex;cases ex
 |some a=>
  cases q2:bs[i]? with
  |none=>rw[q2]at c;cases c
  |some b=>
   rw[q1]at ex;rw[q2]at c;cases ex;cases c
   have hi:i<ss.length:=by rw[<- l];exact(Jw.mp q1).1
   have m:=Ji hi;let#[e,g]:=QU (hs _ (Gz hi))
   let#[C,s,f]:=w i a _ e q1 m g;let#[o,A,d]:=z i b _ e q2 m (by rw[he];exact g)
   refine .tup (HP.of s) (HP.of A) Z λj x y ex c=>?_
   match j,ex,c with
   |0,ex,c=>cases ex;cases c;exact .str _ _
   |1,ex,c=>cases ex;cases c;exact .int _ _
   |2,ex,c=>cases ex;cases c;exact .int _ _
   |3,ex,c=>
    cases ex;cases c
    cases hw:e.wt with
    |none=>
     rw[hw]at f d;have f:C= .non:=f
     have d:o= .non:=d
     rw[f,d];exact .non _
    |some xc=>
     rw[hw]at f d;let#[E,rfl,v]:=f;let#[F,rfl,D]:=d;exact yq (ns:=[xc.1,xc.2]) (HP.of v) (HP.of D)
   |j+4,ex,c=>cases ex
theorem NW.up(h:NW K H n x y):NW K H (n+1) x y:=by
 induction h with
 |int n i=>exact .int _ i
 |str n z=>exact .str _ z
 |non n=>exact .non _
 |tup h1 h2 hl _ ih=>exact .tup h1 h2 hl ih
end
theorem sL(a:Da):a.p∈dS a:=by simp [dS]
theorem tT(a:Da):a.hk∈dS a:=by simp [dS]
theorem iJ(a:Da):a.bd∈dS a:=by simp [dS]
theorem fV(a:Da):a.lg∈dS a:=by simp [dS]
section
variable(K:ι)(C:Δ)
inductive j7(vs:Α)(H:Hp)(Q:VK)(_:XK):Prop
 |mk (a:Da)(D:Dr)(L:Υ)(p1 p2:Δ)(P R:Ps)(c d d':Int)(h1:vs=[-a.p,-p1,-p2])(h2:Mr K C H a D L)(h3:L.length<=1000000)(h4:Nd D)(h5:MP H p1 P)(h6:MP H p2 R)(h7:Nm P)(h8:Nm R)(h9:Zz D P=↑(c,d))(h10:Zz D R=↑(c+1,d'))(h11:R.nm=P.nm)(h12:R.age=P.age)(h13:D.kn.lookup R.nm=none)(h14:(D.kn.length:Int)<D.most)(h15:∀H',Mv [a.bd,a.lg] H H'->Mr K C H' a {D with kn:=qP D.kn R.nm ⟨R.age,c+1,none⟩} (L++[.learn P R])->Q .non H')
end
section
theorem Nv.mvN(h:Nv H q ss kn)(m:Mv S H H')(nt:NT S H):Nv H' q ss kn:=by
 let#[j,e,l,r]:=h;refine#[j,m.tup nt e,l,λi a nm x d g c=>?_]
 let#[v,f,w]:=r i a nm x d g c
 exact#[v,m.tup nt f,w.mv m nt]
end
theorem DF{tc:TT}{t u:TS}(G:Bool->Hp->Prop)(h:∀a:Bool->Hp->Prop,(∀b H',G b H'->a b H')->tc σ H a)(h1:∀H',G true H'->t D σ H')(h2:∀H',G false H'->u D σ H'):nQ tc t u D σ H:=h _ λb H' g=>by
 cases b with
 |true=>exact(Jc Z).mpr (h1 H' g)
 |false=>exact(Jb (by intro z;cases z)).mpr (h2 H' g)
theorem mO{b:Δ}{H:Hp}(hb:H b=none)(s:HE H H1)(g:Mj b n H1 H2):HE H H2:=λx o e=>g.kp x o (qr e hb) (s x o e)
theorem rn{H:Hp}{a:Da}(f1:H a.p=none)(f2:H a.hk=none)(d:H a.bd=none)(e:H a.lg=none):∀z∈dS a,H z=none:=λz c=>by
 simp only[dS,Jp,JE,JF]at c;rcases c with rfl|rfl|rfl|rfl<;>assumption
section
inductive ON (x:V)(vs:Α)(H:Hp)(Q:VK):Prop
 |mk (l:Δ)(xs:Α)(i:Int)(y:V)(h1:x= .ref l)(h2:vs=[.int i,y])(h3:H l=↑(.lst xs))(h4:0<=i)(h5:i<=xs.length)(h6:xs.length<ζ)(h7:Q .non (HG H l (.lst (xs.take i.toNat++y::xs.drop i.toNat))))
def Cj:V->Α->Hp->VK->Prop:=λx a H Q=>ON x a H Q
theorem uH:pZ X "list.insert" Cj:=by
 intro pins s σ H x D v C Q I j w h;let#[l,xs,i,y,rfl,rfl,f,B,hk,G,q]:=h;cases j;let#[E,u,rfl,c,g]:=w.two;let#[t,rfl]:=c;let#[z,a,n,r,A,e]:=I.lstM f;have d:a.length<ζ:=by lia
 have o:i<2 ^ 63:=by have:a.length<ζ:=d;rw[Jt]at this;lia
 have m:¬(!γ.List.listFitsIndex i)=true:=by rw[fitsIndex_both (by lia) o];decide
 refine IL F.slot_list_insert #[_,e,Z] F.entry_list_insert (F.args_list_insert_3 _ _ _) (PySem.AutoSeq1.list_insert_list_int_val_1 l a.toArray n i t u m (by rw[Js];lia)) #[e,?_]
 refine#[.non,_,I.lset (its':=a.take i.toNat++u::a.drop i.toNat) f e ?_ ((r.take i.toNat).append (.cons g (r.drop i.toNat))) ?_,Z,q]
 .simp only[Js]
  have p:min i.toNat a.length=i.toNat:=by lia
  rw[Jb (by lia),p]
  apply Array.ext'
  simp [Iy]
 .rw[Jz,J2,JP,Lj]
  lia
end
def Mp(P:Hp->Δ->Kb->Prop)(H:Hp)(d:Δ)(kn:Kw):Prop:=∃f:Kw×(Str->Δ),H d=↑(.dK (Qg f.1 f.2))/\(∀e∈kn,P H (f.2 e.1) e.2)/\f.1.Perm kn/\(kn.map (·.1)).Nodup
def MQ(H:Hp)(a:Δ)(e:Kb):Prop:=∃v,H a=↑(.lst [.int e.age,.int e.last,v])/\Wt H v e.wt
abbrev Me:=Mp MQ
section
theorem Mp.get(h:Mp P H d kn)(nm:Str):(kn.lookup nm=none/\Md H d (.str nm) none)\/∃e a,kn.lookup nm=↑e/\Md H d (.str nm) ↑(-a)/\P H a e:=by
 let#[#[l,f],j,i,pm,c]:=h;have g:=Md.k (k:=Sum.inr nm) j
 rw[jE,gt pm c]at g;cases q:kn.lookup nm with
 |none=>rw[q]at g;exact .inl #[Z,g]
 |some e=>rw[q]at g;exact .inr #[e,f nm,Z,g,i _ (Qt q)]
theorem Mp.di(h:Mp P H d kn):∃kvs,H d=↑(.dK kvs)/\kvs.length=kn.length:=by
 let#[f,e,_,pm,_]:=h
 exact#[_,e,(Jf _).trans pm.length_eq]
theorem Mp.to(h:Mp P H d kn)(hd:∀o,H d=↑o->H' d=↑o)(hp:∀a e,P H a e->P H' a e):Mp P H' d kn:=by
 let#[f,r,w,p]:=h
 exact#[f,hd _ r,λe c=>hp _ _ (w e c),p]
theorem Mp.put(h:Mp P H d kn)(nm:Str)(hl:kn.length<=100)(hb:P H a e)(hp:∀o a e,P H a e->P (HG H d (.dK o)) a e):∃H',M0 H d (.str nm) (-a) H'/\Mv [d] H H'/\Mp P H' d (qP kn nm e):=by
 let#[#[i,f],v,m,pm,x]:=h;have l:(Qg i f).length=kn.length:=(Jf _).trans pm.length_eq
 have hk:∀e∈i,P H (f e.1) e.2:=λe t=>m e (pm.mem_iff.mp t)
 refine#[_,M0.k (k:=Sum.inr nm) v (by rw[l];exact KB hl ⋯),Mv.upd1,(qP i nm e,λn=>if n=nm then a else f n),?_,?_,bC pm nm e,fU x nm e]
 .rw[qc]
  congr 2
  unfold Ml qP Qg;have s:((i.map λe=>((Sum.inr e.1:qE),V.ref (f e.1))).any λu=>decide (u.1=(Sum.inr nm:qE)))=true↔nm∈i.map (·.1):=by
   rw[LI];constructor
   .rintro⟨p,hp,z⟩
    let#[q,g,rfl]:=Ju.mp hp;have r:(Sum.inr q.1:qE)=Sum.inr nm:=JA z
    injection r with r
    exact Ju.mpr #[q,g,r]
   .intro z
    let#[q,g,e]:=Ju.mp z
    exact#[_,Ju.mpr #[q,g,Z],Jj (by rw[e])]
  by_cases z:nm∈i.map (·.1)
  .rw[Jc (s.mpr z),Jc z,GH,GH]
   refine Ir λp hp=>?_
   simp only[Function.comp]
   by_cases y:p.1=nm
   .rw[Jc (by rw[y]),Jc y]
    simp [y]
   .rw[Jb (by intro w;injection w with w;exact y w),Jb y]
    simp [y]
  .rw[Jb (λw=>z (s.mp w)),Jb z,JI]
   congr 1
   .refine Ir λp hp=>?_
    have y:¬p.1=nm:=λw=>z (Ju.mpr #[p,hp,w])
    simp [y]
   .simp
 .intro p c
  have c:=(bC pm nm e).mem_iff.mpr c;have j:=hp (Ml (Qg i f) (Sum.inr nm) (-a)) _ _ hb;unfold qP at c;split at c
  .let#[q,g,rfl]:=Ju.mp c
   by_cases y:q.1=nm
   .rw[Jc y];simp only[JW];exact j
   .rw[Jb y]
    show P _ (if q.1=nm then a else f q.1) q.2
    rw[Jb y];exact hp _ _ _ (hk q g)
  .rename_i z
   rcases JD.mp c with g|g
   .have y:¬p.1=nm:=λw=>z (Ju.mpr #[p,g,w])
    show P _ (if p.1=nm then a else f p.1) p.2
    rw[Jb y];exact hp _ _ _ (hk p g)
   .rw[Jm.mp g];simp only[JW];exact j
theorem MQ.mv(m:Mv S H H')(n:NT S H)(ha:a∉S)(h:MQ H a e):MQ H' a e:=by
 let#[v,r,w]:=h
 exact#[v,m _ _ ha r,w.mv m n]
theorem MQ.same(s:HE H H')(h:MQ H a e):MQ H' a e:=h.mv (S:=[]) s.mv iW (λh=>nomatch h)
theorem MQ.ned{b:Δ}(h:MQ H a e)(hb:H b=↑(.dK kvs)):a≠b:=by
 let#[v,r,_]:=h;exact qD r hb (by intro z;cases z)
theorem MQ.neb{b:Δ}(h:MQ H a e)(hb:Mn H b n):a≠b:=by
 let#[v,r,w]:=h;let#[x,y,z,d,_]:=hb;refine qD r d (λq=>?_)
 injection q with q
 injection q with _ q
 injection q with _ q
 injection q with q _
 cases hw:e.wt with
 |none=>rw[hw]at w;have w:v= .non:=w;rw[w]at q;cases q
 |some c=>rw[hw]at w;let#[p,rfl,_]:=w;cases q
theorem Me.same(h:Me H d kn)(s:HE H H'):Me H' d kn:=Mp.to h (λo e=>s _ _ e) (λa e h=>h.same s)
theorem Me.grc{b:Δ}(h:Me H d kn)(hb:Mn H b n)(g:Mj b n' H H'):Me H' d kn:=by
 let#[kvs,e,_]:=h.di;let#[x,y,z,f,_]:=id hb;exact Mp.to h (λo c=>g.kp _ _ (qD e f (by intro z;cases z)) c) (λa e h=>h.mv g.mv (Qm hb) (qK (h.neb hb)))
theorem Me.put(h:Me H d kn)(nm:Str)(hl:kn.length<=100)(hb:MQ H a e):∃H',M0 H d (.str nm) (-a) H'/\Mv [d] H H'/\Me H' d (qP kn nm e):=by
 let#[kvs,c,_]:=h.di;exact Mp.put h nm hl hb (λo a e h=>h.mv Mv.upd1 (NT.one c trivial) (qK (h.ned c)))
end
structure NO where
 m:Δ
 mt:Δ
 ml:Δ
 kd:Δ
 nl:Δ
noncomputable def eM(D:Dr)(a:NO):List (qE×V):=[(.inr "table",-a.mt),(.inr "keys",-a.ml),(.inr "near",.int D.near),(.inr "far",.int D.far),(.inr "shut",.int D.least),(.inr "known",-a.kd),(.inr "names",-a.nl)]
noncomputable def P8:List qE:=[.inr "table",.inr "keys",.inr "near",.inr "far",.inr "shut",.inr "known",.inr "names"]
theorem wq:P8.Nodup:=by decide +kernel
theorem oo(D:Dr)(a:NO):((eM D a).map (·.1)).Nodup:=wq
structure L5(K:ι)(H:Hp)(a:NO)(D:Dr)(ns:Β):Prop where
 di:H a.m=↑(.dK (eM D a))
 tb:HP K H a.mt (D.t.map V.int)
 ks:L7 [] H a.ml D.kss
 kb:Me H a.kd D.kn
 nm:H a.nl=↑(.lst (ns.map V.str))
 ne:a.m≠a.kd
 n1:1<=ns.length
section
variable{K:ι}
theorem L5.get(w:L5 K H a D ns)(i:Nat){k:qE}{v:V}(h:(eM D a)[i]? =↑(k,v)):Md H a.m (kV k) ↑v:=by
 have:=Md.k (k:=k) w.di
 rw[bT i h (oo ..)]at this;exact this
theorem L5.g_table(w:L5 K H a D ns):Md H a.m (.str "table") ↑(-a.mt):=w.get (k:= .inr "table") 0 Z
theorem L5.g_keys(w:L5 K H a D ns):Md H a.m (.str "keys") ↑(-a.ml):=w.get (k:= .inr "keys") 1 Z
theorem L5.g_near(w:L5 K H a D ns):Md H a.m (.str "near") ↑(.int D.near):=w.get (k:= .inr "near") 2 Z
theorem L5.g_far(w:L5 K H a D ns):Md H a.m (.str "far") ↑(.int D.far):=w.get (k:= .inr "far") 3 Z
theorem L5.g_shut(w:L5 K H a D ns):Md H a.m (.str "shut") ↑(.int D.least):=w.get (k:= .inr "shut") 4 Z
theorem L5.g_known(w:L5 K H a D ns):Md H a.m (.str "known") ↑(-a.kd):=w.get (k:= .inr "known") 5 Z
theorem L5.g_names(w:L5 K H a D ns):Md H a.m (.str "names") ↑(-a.nl):=w.get (k:= .inr "names") 6 Z
theorem L5.same(w:L5 K H a D ns)(s:HE H H'):L5 K H' a D ns:=#[s _ _ w.di,HE.sqt s w.tb,w.ks.same s,w.kb.same s,s _ _ w.nm,w.ne,w.n1]
theorem L5.grc{b:Δ}(w:L5 K H a D ns)(hb:Mn H b n)(g:Mj b n' H H'):L5 K H' a D ns:=by
 let#[x,y,z,c,_]:=id hb;let#[e,d,_]:=id w.ks
 exact#[g.kp _ _ (qD w.di c (by intro z;cases z)) w.di,g.mv.sqt (Qm hb) w.tb,w.ks.mv g.mv (Qm hb) (qK (qD d c (Qw 0 Z (by intro a z;cases z)))),w.kb.grc hb g,g.kp _ _ (qD w.nm c (gE w.n1 _ _ _)) w.nm,w.ne,w.n1]
end
theorem L7.grc{K:ι}{b ml:Δ}(ks:L7 K H ml c)(hb:Mn H b n)(g:Mj b n' H H'):L7 K H' ml c:=by
 let#[x,y,z,d,_]:=id hb;let#[f,e,_]:=id ks;exact ks.mv g.mv (Qm hb) (qK (qD e d (Qw 0 Z (by intro a z;cases z))))
structure Nz(D:Dr)(ns:Β):Prop where
 ok:Nd D
 k1:1<=D.kss.length
 n0:1<=D.near
 nf:D.near<=D.far
 f2:D.far<=2000
 lk:D.least<D.kss.length
 ms:D.most=12
 kb:∀e∈D.kn,Oj D e.2/\1<=e.2.last
 wt:∀e∈D.kn,∀x cc,e.2.wt=↑(x,cc)->x=e.2.age/\e.2.last+D.near<cc/\cc<=e.2.last+D.far
 nm:∀z∈ns,ZF z
 nn:D.kn.map (·.1)=ns
 nl:ns.length<=12
 n1:1<=ns.length
structure Sc where
 nm:Str
 age:Int
 c:Int
 d:Int
 f:Int
noncomputable abbrev _root_.β:=List Sc
def eA(H:Hp)(p:Δ)(s:Sc):Prop:=H p=↑(.tup [.str s.nm,.int s.age,.int s.c,.int s.d,.int s.f])
structure M3(D:Dr)(s:Sc):Prop where
 nm:ZF s.nm
 a0:0<=s.age
 a1:s.age<D.kss.length
 c0:0<=s.c
 c1:s.c<4096
 dg:bB s.d
 f0:0<=s.f
 f1:s.f<=3
noncomputable def Nk:Ε:=[-1, -9,8,1000000000000000000000000000000]
noncomputable def zB(D:Dr)(s:Sc):Int:=if s.f<=1 then s.age else if s.f=2 then D.kss.length+s.age else Nk.getD (s.c%4).toNat 0
noncomputable def QX(s:Sc):Ε:=zO s.c s.d++[((zO s.c s.d).sum+1+(s.f-1)*5)%16]
noncomputable def zg(D:Dr)(s:Sc):Ps:=if s.f=0 then#[s.nm,s.age,aJ D.t (zN D s.age) s.nm s.c s.d]else#[s.nm,zB D s,Qz D.t (bQ D.t (zN D s.age) s.nm) (QX s)]
section
theorem rT(h:M3 D s):zA (QX s):=λx a=>by
 have c:=h.c0;have d:=h.c1;simp only[QX,zO,Lh,Iq,Jp,JE,JF]at a;rcases a with rfl|rfl|rfl|rfl|rfl
 .exact Za _
 .exact Za _
 .exact#[by lia,by lia]
 .exact h.dg
 .exact Za _
theorem iX(h:M3 D s)(a:D.t.Perm Mu):Nm (zg D s):=by
 unfold zg;split
 .exact#[h.nm,wQ ..,Aq a h.c0 h.c1 h.dg]
 .exact#[h.nm,by show(Qz D.t _ (QX s)).length=5;rw[aZ];rfl,gI a (rT h)]
theorem yx(h:M3 D s)(ok:Nd D)(c:1<=D.kss.length):qX D (zg D s)=q8 D s.nm (zB D s) (if s.f=0 then ↑(s.c,s.d)else if s.f=1 then none else Qj D.t (zN D (zB D s)) s.nm (Qz D.t (bQ D.t (zN D s.age) s.nm) (QX s))):=by
 unfold qX zg
 by_cases a:s.f=0
 .rw[Jc a,Jc a]
  have e:zB D s=s.age:=by unfold zB;rw[Jc (by lia)]
  rw[e];simp only
  rw[eI ok.tp h.c0 h.c1 h.dg]
 .rw[Jb a,Jb a]
  simp only
  by_cases f1:s.f=1
  .rw[Jc f1]
   have e:zB D s=s.age:=by unfold zB;rw[Jc (by lia)]
   rw[e];congr 1
   unfold Qj;rw[gL ok.tp (rT h) (by show 2<=5;decide)]
   unfold jc QX;rw[n9,f1]
   show(if(s.c%16+s.c/16%16+s.c/256+s.d+1+(1-1)*5)%16=(s.c%16+s.c/16%16+s.c/256+s.d)%16 then _ else none)=none
   rw[Jb (by lia)]
  .rw[Jb f1]
theorem Cg(h:M3 D s)(hf:1<s.f)(g:D.kss.length<=8)(f:1<=D.kss.length)(c:0<=D.least):zX D (zB D s)=false:=by
 have d:=h.a0;have f1:=h.f1;have a:=h.c0;unfold zX zB;rw[Jb (by lia)]
 by_cases e:s.f=2
 .rw[Jc e,OL]
  exact .inr (Jl (by lia))
 .rw[Jb e]
  have:(s.c%4).toNat<4:=by lia
  rw[OL];generalize (s.c%4).toNat=j at this
  match j,this with
  |0,_=>exact .inl (Jl (by show¬D.least<= -1;lia))
  |1,_=>exact .inl (Jl (by show¬D.least<= -9;lia))
  |2,_=>exact .inr (Jl (by show¬(8:Int)<_;lia))
  |3,_=>exact .inr (Jl (by show¬(1000000000000000000000000000000:Int)<_;lia))
end
section
variable(K:ι)
inductive mJ(vs:Α)(H:Hp)(Q:VK)(_:XK):Prop
 |mk (kd:Δ)(kn:Kw)(h1:vs=[-kd])(h2:Me H kd kn)(h3:kn.length<=60)(h4:∀d H',HE H H'->H d=none->Me H' d kn->Q (-d) H')
inductive i5(vs:Α)(H:Hp)(Q:VK)(_:XK):Prop
 |mk (a:NO)(kd sp:Δ)(D:Dr)(ns:Β)(kn:Kw)(s:Sc)(h1:vs=[-a.m,-kd,-sp])(h2:L5 K H a D ns)(h3:Nz D ns)(h4:Me H kd kn)(h5:kn.length<=60)(h6:kd≠a.m)(h7:eA H sp s)(h8:M3 D s)(h9:∀q H',Mv [kd] H H'->H' q=↑(.tup (qX {D with kn:=kn} (zg D s)).1)->Me H' kd (qX {D with kn:=kn} (zg D s)).2->Q (-q) H')
inductive bp(vs:Α)(H:Hp)(Q:VK)(_:XK):Prop
 |mk (a:NO)(sp:Δ)(D:Dr)(ns:Β)(s:Sc)(h1:vs=[-a.m,-sp])(h2:L5 K H a D ns)(h3:D.t.Perm Mu)(h4:eA H sp s)(h5:M3 D s)(h6:∀pr H',HE H H'->MP H' pr (zg D s)->Q (-pr) H')
end
inductive PM (x:V)(y:V)(H:Hp)(Q:VK):Prop
 |mk (o:Option (Int×Int))(b:Δ)(a c:Int)(h1:Wt H x o)(h2:y= .ref b)(h3:Rd H b (.tup [.int a,.int c]))(h4:Q (.bl (! decide (o=↑(a,c)))) H)
noncomputable def FU:R2:=λx y H Q=>PM x y H Q
theorem Dx{X:Cx}{k:Nat}(hr:HS k X.A):zj X (compareOp .NotEq) FU:=by
 intro pins s σ H x y v u Q I B M h;let#[o,b,a,c,F,rfl,P,q]:=h;cases M;let#[g,D,p2,_]:=I.tuple (.inl P)
 have E:X.A.units<cLine:=by have:=hr.un;lia
 cases o with
 |none=>
  have l:x= .non:=F
  subst l;cases B;rw[Jl (by intro z;cases z)]at q
  exact SeqAt.RcNeAt.none_tuple p2 E _ _ _ _ #[.bl true,H,I,Z,q]
 |some pr=>
  let#[m,n]:=pr;let#[w,rfl,l]:=F;cases B;let#[i,C,O,_]:=I.tuple (.inl (.inl l))
  have r:=C.length;have p:=D.length;have J:=SeqAt.RcNeAt.tuples (A:=X.A) (e:=λj=>[m,n].getD j 0==[a,c].getD j 0) (show s.heap.IsTuple w i.toArray from O) (show s.heap.IsTuple b g.toArray from p2) E (λj h1 L=>by
   have f:j<i.length:=by simpa using h1
   have d:j<g.length:=by simpa using L
   let#[t,e]:=fM (ns:=[m,n]) C j f (by rw[<- r]at f;exact f)
   let#[S,R]:=fM (ns:=[a,c]) D j d (by rw[<- p]at d;exact d)
   simp only[RJ,e,R,JN,Ji (show j<[m,n].length by rw[<- r]at f;exact f),Ji (show j<[a,c].length by rw[<- p]at d;exact d),IQ]
   exact SeqAt.EqAt.int_int _ _ _ _)
  have G:i.toArray.size=2:=by rw[Js,<- r];rfl
  have N:g.toArray.size=2:=by rw[Js,<- p];rfl
  refine J _ _ _ _ #[.bl _,H,I,?_,q]
  show Γ.bool _=Γ.bool _
  congr 1
  rw[G,N,show min 2 2=([m,n]:Ε).length from Z,om [m,n] [a,c] Z]
  simp
theorem uE:∀(k:Kw) (c:Ι),(k.map (·.1)).Nodup->∃g:Str->Δ,∀(i:Nat) (e:Str×Kb) (l:Δ),k[i]? =↑e->c[i]? =↑l->g e.1=l
 | [],_,_=>#[λ_=>0,λi e l h=>by cases h]
 |(n,x)::k,[],_=>#[λ_=>0,λi e l h a=>by cases a]
 |(n,x)::k,l::c,nd=>by
  rw[JC,Ii]at nd;let#[g,j]:=uE k c nd.2;refine#[λm=>if m=n then l else g m,λi e d h1 a=>?_]
  match i,h1,a with
  |0,h1,a=>cases h1;cases a;exact Jc Z
  |i+1,h1,a=>
   have h1:k[i]? =↑e:=h1
   have f:¬e.1=n:=λz=>nd.1 (by rw[<- z];exact Ju.mpr #[e,Jy h1,Z])
   show(if e.1=n then l else g e.1)=d
   rw[Jb f];exact j i e d h1 a
theorem xa{a:Kw}{g:Str->Δ}(c:(a.map (·.1)).Nodup):Qh [] (Qg a g)=Qg a g:=by
 have:=cn (Qg a g) [] (by rw[Iq,rj];exact List.Pairwise.map _ (λx y (h:x≠y) z=>h (by injection z)) c)
 rwa [Iq]at this
def Pl(l:Δ)(e0:Kb):Hp->Δ->Kb->Prop:=λH a e=>if a=l then e=e0 else MQ H a e
theorem Me.pl{e0:Kb}(h:Me H d kn)(hl:H l=none):Mp (Pl l e0) H d kn:=by
 let#[f,r,w,p]:=h;refine#[f,r,λe c=>?_,p]
 let#[v,a,g]:=w e c;unfold Pl;rw[Jb (λz=>by rw[z,hl]at a;cases a)]
 exact#[v,a,g]
theorem i4{a l:Δ}{e e0:Kb}(m:Mv S H H')(n:NT S H)(hs:∀a e,MQ H a e->a≠l->a∉S)(h:Pl l e0 H a e):Pl l e0 H' a e:=by
 unfold Pl at h⊢
 by_cases z:a=l
 .rw[Jc z]at h⊢;exact h
 .rw[Jb z]at h⊢;exact MQ.mv m n (hs a e h z) h
theorem Mp.done{e0:Kb}(h:Mp (Pl l e0) H d kn)(hl:MQ H l e0):Me H d kn:=by
 let#[f,r,w,p]:=h;refine#[f,r,λe a=>?_,p]
 have:=w e a
 unfold Pl at this
 by_cases z:f.2 e.1=l
 .rw[Jc z]at this;rw[this,z];exact hl
 .rw[Jb z]at this;exact this
theorem Mp.putE{P:Hp->Δ->Kb->Prop}{a:Δ}{e:Kb}(h:Mp P H d kn)(e0:H d=↑(.dK c))(nm:Str)(hl:kn.length<=100)(hb:P H a e)(hp:∀o a e,P H a e->P (HG H d (.dK o)) a e):M0 H d (.str nm) (-a) (HG H d (.dK (Ml c (Sum.inr nm) (-a))))/\Mp P (HG H d (.dK (Ml c (Sum.inr nm) (-a)))) d (qP kn nm e):=by
 let#[H',dp,_,m]:=h.put nm hl hb hp;have j:H'=HG H d (.dK (Ml c (Sum.inr nm) (-a))):=by
  rcases dp with⟨kvs,k,f,g,_,l⟩|⟨kvs,k,b,f,_⟩
  .rw[e0]at f;cases f
   cases k with
   |inl i=>cases g
   |inr z=>injection g with g;rw[<- g]at l;exact l
  .rw[e0]at f;cases f
 subst j
 exact#[dp,m]
theorem Me.putL(h:Me H0 d kn)(hl:H0 l=none)(s:HE H0 H)(nm:Str)(hk:kn.length<=100):∃kvs,M0 H d (.str nm) (-l) (HG H d (.dK kvs))/\zZ kvs (Sum.inr nm:qE)=↑(-l)/\∀e,Mp (Pl l e) (HG H d (.dK kvs)) d (qP kn nm e):=by
 let#[j,e0,_]:=h.di;have c:=s _ _ e0;have step:∀e,Mp (Pl l e) H d kn:=λe=>Mp.to (Me.pl h hl) (λo z=>s _ _ z) (λa x f=>i4 (S:=[]) s.mv iW (λ_ _ _ _ z=>nomatch z) f)
 have i:∀e o a x,Pl l e H a x->Pl l e (HG H d (.dK o)) a x:=λe o a x f=>i4 Mv.upd1 (NT.one c trivial) (λa y m _=>qK (m.ned c)) f
 have g:∀e,Pl l e H l e:=λe=>by unfold Pl;rw[Jc Z]
 refine#[_,(Mp.putE (step #[(0),(0),none]) c nm hk (g _) (i _)).1,by rw[mN,Jc Z],λe=>(Mp.putE (step e) c nm hk (g e) (i e)).2]
inductive kN(K:ι)(vs:Α)(H:Hp)(Q:VK)(_:XK):Prop
 |mk (b:Δ)(g:Bool)(c:Nat)(h1:vs=[-b,.bl g])(h2:Mn H b c)(h3:c<1000000)(h4:∀(wa:NO) D ns H',Mj b (c+500) H H'->H wa.m=none->H wa.ml=none->H wa.kd=none->H wa.nl=none->L5 K H' wa D ns->Nz D ns->Q (-wa.m) H')
theorem ji{t:TE}{Q:VK}(G:V->Hp->Prop)(h:∀a:VK,(∀v H',G v H'->a v H')->t σ H a)(c:∀v H',G v H'->Q v H'):t σ H Q:=h Q c
noncomputable def Nq(a c:Int)(d ml kd:Δ):List (qE×V):=[(.inr "table",-d),(.inr "keys",-ml),(.inr "near",.int a),(.inr "far",.int c),(.inr "shut",.int 0),(.inr "known",-kd)]
theorem EI(a c:Int)(d ml kd:Δ):((Nq a c d ml kd).map (·.1)).Nodup:=(by decide +kernel:(([.inr "table",.inr "keys",.inr "near",.inr "far",.inr "shut",.inr "known"]:List qE)).Nodup)
theorem uK(a c:Int)(d ml kd:Δ):Qh [] (Nq a c d ml kd)=Nq a c d ml kd:=by
 have:=cn (Nq a c d ml kd) [] (EI ..)
 rwa [Iq]at this
theorem Cq(t:Ε)(d:List Ε)(a c:Int)(kn:Kw)(m e ml kd f:Δ):Ml (Nq a c e ml kd) (Sum.inr "names":qE) (-f)=eM #[t,d,a,c,(12),(0),kn] #[m,e,ml,kd,f]:=by
 rw[sB (λh=>(Iz.mp (show(((Nq a c e ml kd).map (·.1))++[(Sum.inr "names":qE)]).Nodup from wq)).2.2 _ h _ (Jm.mpr Z) Z)]
 rfl
structure N5(K:ι)(H:Hp)(a:NO)(D:Dr)(ns:Β)(l:Δ)(kvs:List (qE×V))(nm:Str)(age last:Int)(kn:Kw):Prop where
 di:H a.m=↑(.dK (eM D a))
 tb:HP K H a.mt (D.t.map V.int)
 ks:L7 [] H a.ml D.kss
 kg:∀e,Mp (Pl l e) H a.kd (qP kn nm e)
 ek:H a.kd=↑(.dK kvs)
 va:zZ kvs (Sum.inr nm:qE)=↑(-l)
 el:H l=↑(.lst [.int age,.int last,.non])
 nm:H a.nl=↑(.lst (ns.map V.str))
 ne:a.m≠a.kd
 n1:1<=ns.length
section
variable{K:ι}{H H':Hp}{a:NO}{D:Dr}{ns:Β}{l:Δ}{kvs:List (qE×V)}{nm:Str}{age last:Int}{kn:Kw}{b:Δ}{n n':Nat}
theorem N5.same(w:N5 K H a D ns l kvs nm age last kn)(s:HE H H'):N5 K H' a D ns l kvs nm age last kn:=#[s _ _ w.di,HE.sqt s w.tb,w.ks.same s,λe=>Mp.to (w.kg e) (λo z=>s _ _ z) (λa x c=>i4 (S:=[]) s.mv iW (λ_ _ _ _ z=>nomatch z) c),s _ _ w.ek,w.va,s _ _ w.el,s _ _ w.nm,w.ne,w.n1]
theorem N5.grc(w:N5 K H a D ns l kvs nm age last kn)(hb:Mn H b n)(g:Mj b n' H H'):N5 K H' a D ns l kvs nm age last kn:=by
 let#[x,y,z,c,_]:=id hb;refine#[g.kp _ _ (qD w.di c (by intro z;cases z)) w.di,g.mv.sqt (Qm hb) w.tb,w.ks.grc hb g,λe=>Mp.to (w.kg e) (λo q=>g.kp _ _ (qD w.ek c (by intro z;cases z)) q) (λa x d=>i4 g.mv (Qm hb) (λa y f _=>qK (f.neb hb)) d),g.kp _ _ (qD w.ek c (by intro z;cases z)) w.ek,w.va,g.kp _ _ (qD w.el c (λq=>?_)) w.el,g.kp _ _ (qD w.nm c (gE w.n1 _ _ _)) w.nm,w.ne,w.n1]
 injection q with q
 injection q with _ q
 injection q with _ q
 injection q with q _
 cases q
theorem N5.g_known(w:N5 K H a D ns l kvs nm age last kn):Md H a.m (.str "known") ↑(-a.kd):=by
 have:=Md.k (k:=(Sum.inr "known":qE)) w.di
 rw[bT 5 Z (oo ..)]at this;exact this
theorem N5.g_nm(w:N5 K H a D ns l kvs nm age last kn):Md H a.kd (.str nm) ↑(-l):=by
 have:=Md.k (k:=(Sum.inr nm:qE)) w.ek
 rw[w.va]at this;exact this
theorem N5.plain(w:N5 K H a D ns l kvs nm age last kn):L5 K H a {D with kn:=qP kn nm #[age,last,none]} ns:=#[w.di,w.tb,w.ks,(w.kg _).done #[.non,w.el,Z],w.nm,w.ne,w.n1]
theorem N5.wait(w:N5 K H a D ns l kvs nm age last kn)(d:H t=↑(.tup [.int x,.int cc])):L5 K (HG H l (.lst [.int age,.int last,-t])) a {D with kn:=qP kn nm #[age,last,↑(x,cc)]} ns:=by
 have m:Mv [l] H (HG H l (.lst [.int age,.int last,-t])):=Mv.upd1
 have nt:NT [l] H:=NT.one w.el trivial
 let#[g,f,_]:=id w.ks;refine#[m _ _ (qK (qD w.di w.el (by intro z;cases z))) w.di,m.sqt nt w.tb,w.ks.mv m nt (qK (qD f w.el (Qw 0 Z (by intro a z;cases z)))),?_,m _ _ (qK (qD w.nm w.el ?_)) w.nm,w.ne,w.n1]
 .refine(Mp.to (w.kg #[age,last,↑(x,cc)]) (λo q=>m _ _ (qK (qD w.ek w.el (by intro z;cases z))) q) (λa y c=>i4 m nt (λa z _ e=>qK e) c)).done #[-t,qc,t,Z,?_]
  exact m.tup nt d
 .have h1:=w.n1
  intro q;injection q with q
  cases ns with
  |nil=>cases h1
  |cons y r=>cases q
end
inductive mR(K:ι)(C:Δ)(vs:Α)(H:Hp)(Q:VK)(_:XK):Prop
 |mk (wa:NO)(D:Dr)(ns:Β)(h1:vs=[-wa.m])(h2:L5 K H wa D ns)(h3:Nz D ns)(h4:∀a L H',HE H H'->H a.p=none->H a.hk=none->H a.bd=none->H a.lg=none->Mr K C H' a D L->L.length<=30->Q (-a.p) H')
end L3
namespace Lw
open PySem L2 L3
theorem Hh:0<=ζ:=by decide
theorem Hi:1<=ζ:=by decide
theorem Hj:2<=ζ:=by decide
theorem Hl:3<=ζ:=by decide
theorem Hm:4<=ζ:=by decide
theorem Hn:5<=ζ:=by decide
theorem Ho:8<=ζ:=by decide
theorem Hq:10<=ζ:=by decide
theorem Hs:12<=ζ:=by decide
theorem Ht:16<=ζ:=by decide
noncomputable def qV(i:Nat):δ:=PySem.Challenge.pw_rollcode_k28_the_least_lost.main.body.getD i (.Pass #[(0),(0),(0),(0)])
noncomputable abbrev bL:δ:=qV 17
noncomputable abbrev cO:δ:=qV 18
noncomputable abbrev aT:δ:=qV 19
noncomputable abbrev aQ:δ:=qV 20
noncomputable abbrev jy:δ:=qV 21
noncomputable abbrev eB:δ:=qV 22
noncomputable abbrev fk:δ:=qV 27
noncomputable abbrev eR:δ:=qV 28
noncomputable abbrev cj:δ:=qV 29
noncomputable abbrev ZI:δ:=qV 30
noncomputable abbrev ii:δ:=qV 31
noncomputable abbrev Z6:δ:=qV 32
noncomputable abbrev cB:δ:=qV 33
noncomputable abbrev aO:δ:=qV 34
noncomputable abbrev eZ:δ:=qV 36
noncomputable abbrev dh:δ:=qV 37
noncomputable abbrev ay:δ:=Qe (qV 39) 0
noncomputable abbrev ZW:δ:=Qe (qV 39) 2
noncomputable abbrev Zu:δ:=Qe (qV 39) 8
noncomputable abbrev Zr:δ:=Qe (qV 39) 11
noncomputable abbrev Zg:δ:=Qe (qV 39) 10
noncomputable abbrev QC:δ:=Qe (qV 39) 9
noncomputable abbrev Zo:δ:=Qe (qV 39) 7
noncomputable abbrev bH:δ:=Qe (qV 39) 6
noncomputable abbrev Ze:δ:=Qe (qV 39) 12
noncomputable abbrev be:δ:=Qe (qV 39) 1
noncomputable abbrev Q6:δ:=Qe (qV 39) 5
noncomputable abbrev Zs:δ:=Qe (qV 39) 13
noncomputable abbrev Zd:δ:=Qe (qV 39) 15
noncomputable abbrev ZT:δ:=Qe (qV 39) 18
abbrev jG:δ:=qV 8
abbrev ZM:δ:=qV 9
abbrev ar:δ:=qV 5
abbrev bP:δ:=qV 6
abbrev aS:δ:=qV 7
noncomputable abbrev a8:δ:=qV 4
noncomputable abbrev ZH:δ:=qV 3
noncomputable abbrev aR:δ:=qV 2
noncomputable abbrev eU:δ:=qV 41
noncomputable abbrev cN:δ:=qV 42
noncomputable abbrev bK:δ:=qV 43
noncomputable abbrev fh:δ:=qV 44
noncomputable abbrev bG:δ:=qV 45
noncomputable abbrev bO:δ:=qV 46
noncomputable abbrev bF:δ:=qV 47
noncomputable abbrev cD:δ:=qV 48
noncomputable abbrev a9:δ:=qV 49
noncomputable abbrev cp:δ:=qV 50
noncomputable abbrev eT:δ:=qV 51
noncomputable abbrev cx:δ:=qV 54
noncomputable abbrev ZO:δ:=qV 55
noncomputable abbrev aV:δ:=qV 56
noncomputable abbrev bD:δ:=qV 57
noncomputable abbrev aP:δ:=qV 52
noncomputable abbrev Zm:δ:=qV 53
noncomputable abbrev eC:δ:=qV 58
noncomputable abbrev aH:δ:=qV 59
theorem qU{N P:Β}{c:Scope}(h1:c.kind= .function:=by rfl)(h2:c.isCoroutine=false:=by rfl)(g:c.isGenerator=false:=by rfl)(e:N.Nodup:=by decide +kernel)(a:N.take P.length=P:=by rfl)(d:∀x∈P,c.names.lookup x=some .local\/c.names.lookup x=some .cell:=by decide +kernel)(f:∀y∈c.names,y.2≠ .free:=by decide +kernel):HF N P c:=#[h1,h2,g,e,a,d,f]
theorem nV:HF (["thing"]:Β) (["thing"]:Β) (ql bL):=qU
theorem oZ:HF (["thing"]:Β) (["thing"]:Β) (ql cO):=qU
theorem kQ:HF (["things"]:Β) (["things"]:Β) (ql aT):=qU
theorem MD:HF (["table","back","place","digit"]:Β) (["table"]:Β) (ql aQ):=qU
theorem MT:HF (["table","key","digits","row","shift","place","ahead"]:Β) (["table","key","digits"]:Β) (ql jy):=qU
theorem Mz:HF (["table","key","digits","back","row","shift","place","ahead"]:Β) (["table","key","digits"]:Β) (ql eB):=qU
theorem tW:HF (["thing"]:Β) (["thing"]:Β) (ql fk):=qU
theorem tN:HF (["thing"]:Β) (["thing"]:Β) (ql eR):=qU
theorem ML:HF (["thing","name","age","code"]:Β) (["thing"]:Β) (ql cj):=qU
theorem Mb:HF (["name","digits","letter","place"]:Β) (["name"]:Β) (ql ZI):=qU
theorem MY:HF (["table","key","name","sums","place","digit"]:Β) (["table","key","name"]:Β) (ql ii):=qU
theorem iB:HF (["count"]:Β) (["count"]:Β) (ql Z6):=qU
theorem MU:HF (["table","key","name","age","count","deed","four","five"]:Β) (["table","key","name","age","count","deed"]:Β) (ql cB):=qU
theorem HV:HF (["table","key","press","name","age","code","low","middle","high","deed","check"]:Β) (["table","key","press"]:Β) (ql aO):=qU
theorem sS:HF (["count","last","near","far"]:Β) (["count","last","near","far"]:Β) (ql eZ):=qU
theorem MA:HF (["button","age","count","near","far","own_age","last","waiting","word"]:Β) (["button","age","count","near","far"]:Β) (ql dh):=qU
theorem jM:HF (["self","table","keys","near","far","most"]:Β) (["self","table","keys","near","far","most"]:Β) (ql ay):=qU
theorem iu:HF (["self"]:Β) (["self"]:Β) (ql ZW):=qU
theorem f9:HF (["self","name"]:Β) (["self","name"]:Β) (ql Zu):=qU
theorem gj:HF (["self","age"]:Β) (["self","age"]:Β) (ql Zr):=qU
theorem fi:HF (["self","button","age"]:Β) (["self","button","age"]:Β) (ql Zg):=qU
theorem ae:HF (["self","button","age","count"]:Β) (["self","button","age","count"]:Β) (ql QC):=qU
theorem HM:HF (["self","press","name","age","code","button","pair","count","deed","word","behind"]:Β) (["self","press"]:Β) (ql Zo):=qU
theorem Nf:HF (["self","thing","answer"]:Β) (["self","thing"]:Β) (ql bH):=qU
theorem eY:HF (["self","thing"]:Β) (["self","thing"]:Β) (ql Ze):=qU
theorem L6:HF (["self","one","other","first","second","name","age","code"]:Β) (["self","one","other"]:Β) (ql be):=qU
theorem cZ:HF (["self","age"]:Β) (["self","age"]:Β) (ql Q6):=qU
theorem ge:HF (["self"]:Β) (["self"]:Β) (ql Zs):=qU
theorem du:HF (["self"]:Β) (["self"]:Β) (ql Zd):=qU
theorem iV:HF (["self"]:Β) (["self"]:Β) (ql ZT):=qU
theorem Ng:HF (["door","button","press","name","age","count"]:Β) (["door","button","press"]:Β) (ql jG):=qU
theorem Mc:HF (["door","button","press","name","age","count"]:Β) (["door","button","press"]:Β) (ql ZM):=qU
theorem MV:HF (["door","press","pair"]:Β) (["door","press"]:Β) (ql ar):=qU
theorem my:HF (["door","row"]:Β) (["door","row"]:Β) (ql bP):=qU
theorem kX:HF (["presses","name"]:Β) (["presses","name"]:Β) (ql aS):=qU
theorem li:HF (["numbers"]:Β) (["numbers"]:Β) (ql a8):=qU
theorem HU:HF (["door","losses","press","number","ways","button","lost","least"]:Β) (["door","losses","press","number"]:Β) (ql ZH):=qU
theorem HY:HF (["door","row","k","press","losses","number","each","held"]:Β) (["door","row","k"]:Β) (ql aR):=qU
theorem MB:HF (["_law_script","_law_k","_law_cells","_law_cell","_law_fold","_law_one"]:Β) (["_law_script","_law_k"]:Β) (ql eU):=qU
theorem MW:HF (["_law_box_here","_law_many","_law_digit","_law_mix"]:Β) (["_law_box_here","_law_many"]:Β) (ql cN):=qU
theorem MR:HF (["_law_box_here","_law_table_here","_law_digit"]:Β) (["_law_box_here"]:Β) (ql bK):=qU
theorem Nr:HF (["_law_box_here","_law_long"]:Β) (["_law_box_here"]:Β) (ql fh):=qU
theorem Nh:HF (["_law_box_here","_law_many","_law_some"]:Β) (["_law_box_here","_law_many"]:Β) (ql bG):=qU
theorem HX:HF (["_law_box_here","_law_great","_law_many","_law_keys","_law_near","_law_far","_law_world_here","_law_name","_law_last","_law_count"]:Β) (["_law_box_here","_law_great"]:Β) (ql bO):=qU
theorem HW:HF (["_law_world_here","_law_spec","_law_name","_law_age","_law_count","_law_deed","_law_fault","_law_own_key","_law_digits","_law_code","_law_far_ages"]:Β) (["_law_world_here","_law_spec"]:Β) (ql bF):=qU
theorem Mo:HF (["_law_world_here","_law_door_here","_law_name","_law_age","_law_last","_law_waiting"]:Β) (["_law_world_here"]:Β) (ql cD):=qU
theorem HZ:HF (["_law_world_here","_law_known","_law_spec","_law_name","_law_age","_law_count","_law_deed","_law_fault","_law_last"]:Β) (["_law_world_here","_law_known","_law_spec"]:Β) (ql a9):=qU
theorem oQ:HF (["_law_known"]:Β) (["_law_known"]:Β) (ql cp):=qU
theorem L4:HF (["_law_box_here","_law_world_here","_law_many","_law_ahead","_law_ages","_law_name","_law_row_here","_law_k","_law_jump","_law_fault"]:Β) (["_law_box_here","_law_world_here","_law_many"]:Β) (ql eT):=qU
theorem gq:HF (["_law_found","_law_due_here"]:Β) (["_law_found","_law_due_here"]:Β) (ql cx):=qU
theorem MO:HF (["_law_box_here","_law_world_here","_law_most","_law_sent"]:Β) (["_law_box_here","_law_world_here","_law_most"]:Β) (ql ZO):=qU
theorem k6:HF (["_law_door_here"]:Β) (["_law_door_here"]:Β) (ql aV):=qU
theorem MJ:HF (["_law_script","_law_k","_law_most","_law_box_here","_law_world_here","_law_sent"]:Β) (["_law_script","_law_k","_law_most"]:Β) (ql bD):=qU
theorem MM:HF (["_law_world_here","_law_sent","_law_numbers","_law_k","_law_known","_law_number"]:Β) (["_law_world_here","_law_sent","_law_numbers","_law_k"]:Β) (ql aP):=qU
theorem Mt:HF (["_law_sent","_law_k","_law_found","_law_number"]:Β) (["_law_sent","_law_k"]:Β) (ql Zm):=qU
theorem M9:HF (["_law_world_here","_law_sent","_law_k","_law_own","_law_lost"]:Β) (["_law_world_here","_law_sent","_law_k"]:Β) (ql eC):=qU
theorem MC:HF (["_law_script","_law_k","_law_box_here","_law_world_here","_law_door_here","_law_sent","_law_row_here","_law_ahead","_law_more","_law_beside","_law_number","_law_specs","_law_handed"]:Β) (["_law_script"]:Β) (ql aH):=qU
structure Mq(K:ι)(mg:HC)(tk:Nat->Tok):Prop where
 g_DIGITS:mg "DIGITS"=↑(.int 16 (tk 0))
 g_KEY_PLACES:mg "KEY_PLACES"=↑(.int 4 (tk 1))
 g_LONGEST_NAME:mg "LONGEST_NAME"=↑(.int 8 (tk 2))
 g_CODE_DIGITS:mg "CODE_DIGITS"=↑(.int 5 (tk 3))
 b_isinstance:mg "isinstance"=none
 b_bool:mg "bool"=none
 b_int:mg "int"=none
 b_tuple:mg "tuple"=none
 b_all:mg "all"=none
 b_len:mg "len"=none
 b_abs:mg "abs"=none
 b_list:mg "list"=none
 b_enumerate:mg "enumerate"=none
 b_range:mg "range"=none
 b_max:mg "max"=none
 b_min:mg "min"=none
 b_str:mg "str"=none
 b_zip:mg "zip"=none
 b_ord:mg "ord"=none
 b_sum:mg "sum"=none
 b_reversed:mg "reversed"=none
 b_sorted:mg "sorted"=none
 b_dict:mg "dict"=none
section
variable{K:ι}{tk:Nat->Tok}
theorem n5(a:At K mg "is_number" bL ["thing"])(T:Mq K mg tk):Df P w K mg base "is_number" X7 1 gS:=by
 refine a.dq nV λf _ A _ s H e Q E d h=>?_
 .let#[x,t,rfl,hk,q]:=h
  let#[ty,c]:=Fp (K:=K) hk
  exists _,(qj (qw (Q4 (qy oz T.b_isinstance J8 (qd (qv 0) (qd (zL (v:= .ty "int") Z T.b_int LX Z) qb))) (ZJ (uN (qy oz T.b_isinstance J8 (qd (qv 0) (qd (zL (v:= .ty "bool") Z T.b_bool PyProof.Rows.boot_bool Z) qb))))))))
  rw[CU hk]at q;exists 0,x,"int",t,Z,ty,c,by simp,0
  cases hi:QD t "int" with
  |false=>
   refine zS ?_
   rw[hi,Ia]at q;exact q
  |true=>
   refine Ql ?_
   rw[hi,IB]at q
   exact#[0,x,"bool",t,Z,ty,c,by simp,0,q]
theorem ph(a:At K mg "is_digit" cO ["thing"])(T:Mq K mg tk)(g:Df P w K mg base "is_number" X7 1 gS):Df P w K mg base "is_digit" X7 2 rh:=by
 refine a.dq oZ λf _ A _ s H j Q E e h=>?_
 .let#[x,t,rfl,hk,q]:=h
  exists _,(qj (qw (Q4 (qt g e.mo (qd (qv 0) qb)) (ZJ (gR bh fw qg (qv 0) (zv (v:= .int 16) Z T.g_DIGITS #[0]))))))
  exists 0,x,t,Z,hk,0
  cases hn:hV x with
  |false=>
   refine zS ?_
   rw[vt hn]at q;exact q
  |true=>
   refine Ql ?_
   let#[i,rfl]:=yh hn;exists 22
   have c:Q (.bl (decide (0<=i)&&decide (i<16))) H:=q
   refine qQ (λd=>?_) (λd=>?_)
   .exists 6
    rw[d,IB]at c;exact c
   .rw[IC.mpr d,Ia]at c
    exact c
theorem k7(a:At K mg "are_digits" aT ["things"])(T:Mq K mg tk)(m:Df P w K mg base "is_digit" X7 2 rh):Df P w K mg base "are_digits" ["things"] 3 lF:=by
 refine a.dq kQ λf _ A _ s H u Q E o h=>?_
 .let#[p,xs,rfl,g,r,hk,q]:=h
  exists _,(qj (qw (qy (fe Z) T.b_all LY (qd (zH (own:=["thing"]) (fr:=[]) (js:=[]) Z (nY (qv 0)) Z (λ_ _ h=>nomatch h) Z (nH Z nofun nofun nofun) (λ_ _ _ _=>qk (i:=0) (show List.Nodup (["thing"]:Β)from by decide +kernel) Z (Or.inl Z) (.inr Z)) (λ_ _ _ _=>(qt m o.mo (qd (qv 0) qb)))) qb))))
  refine#[0,p,Z,#[xs,HP.of g],gY (xs:=xs) r (λi ys d=>ys=(xs.take i).map (λx=>V.bl (cH x))/\HE H d) #[by simp,HE.refl H] (λi ys d ⟨_,c⟩=>HP.of (c _ _ g)) ?_ ?_]
  .rintro i ys d x e _ ⟨rfl,c⟩
   let#[t,n]:=hk x (Jy e)
   refine#[0,x,t,Z,fQ c n,?_,c]
   rw[Ig,e];simp
  .rintro ys d _ ⟨rfl,c⟩ l j
   rw[J5];exists l,xs.map cH,Z,HK.of (by rw[GH];exact qc)
   rw[OM];exact q _ (c.trans (HE.upd j))
theorem tj(a:At K mg "is_name" fk ["thing"])(T:Mq K mg tk):Df P w K mg base "is_name" X7 1 jT:=by
 refine a.dq tW λf _ A _ s H B Q E C h=>?_
 .let#[x,b,rfl,o,q]:=h
  exists _,(qe (qM (QW.pt (ZG (QF (Qa (qy zM T.b_isinstance J8 (qd (qv 0) (qd (zL (v:= .ty "str") Z T.b_str LJ Z) qb))))) (ZA (QF (yd bh bh qg (qy mY T.b_len JQ (qd (qv 0) qb)) (zv (v:= .int 8) Z T.g_LONGEST_NAME #[0])))))) (qj (qw cr)) qH)
   (qj (qw (qy (fe Z) T.b_all LY (qd (zH (own:=["letter"]) (fr:=[]) (js:=[]) Z (vQ (qv 0)) Z (λ_ _ h=>nomatch h) Z (nH Z nofun nofun nofun) (λ_ _ _ _=>qk (i:=0) (show List.Nodup (["letter"]:Β)from by decide +kernel) Z (Or.inl Z) (.inr Z)) (λ_ _ _ _=>(gR j3 j3 qm (qv 0) qm))) qb)))))
  rcases o with⟨z,rfl,u,p,rfl⟩|⟨t,hk,hs,rfl⟩
  case inr=>
   exists 0,x,"str",t,Z,nw hk,by simp,0
   rw[hs];exact Ql (q _ (HE.refl _))
  have D:z.length=z.cps.toList.length:=Z
  exists 26,"str","str",Z,.str z,by simp,0
  refine zS ?_
  exists 0,z,Z,by rw[Jt];lia,_,_,Z,Z,_,Z
  unfold AW at q
  by_cases h1:1<=z.length
  case neg=>
   refine Qk (Jl (by lia)) #[0,Ql ?_]
   rw[Jl h1,Ia,Ia]at q;exact q _ (HE.refl _)
  refine Qf (Jj (by lia)) ?_
  exists 23
  rw[Jj h1,IB]at q
  by_cases m:z.length<=8
  case neg=>
   refine Qf (by rw[Jl (by lia:¬((z.length:Nat):Int)<=8)];rfl) ?_
   rw[Jl m,Ia]at q;exact q _ (HE.refl _)
  refine Qk (by rw[Jj (by lia:((z.length:Nat):Int)<=8)];rfl) ?_
  rw[Jj m,IB]at q;refine#[0,z,Z,u,y8 (by show z.cps.toList.length<=_;rw[Jt];lia) (λi ys e=>e=H/\ys=((z.cps.toList.take i).map lU).map V.bl) #[7] ?_ ?_]
  .rintro i ys e c y _ ⟨rfl,rfl⟩
   have g:=sC y;let#[n,r]:=tS c;exists 22
   rw[Ig,g,JI,JI]
   by_cases d:97<=c
   .refine Qf (by rw[n,Jj d]) #[_,_,Z,Z,Z,?_]
    rw[r]
    show _=_++[V.bl (decide (97<=c)&&decide (c<=122))]
    rw[Jj d,IB]
   .refine Qk (by rw[n,Jl d]) #[Z,?_]
    show _=_++[V.bl (decide (97<=c)&&decide (c<=122))]
    rw[Jl d,Ia]
  .rintro ys e p ⟨rfl,rfl⟩ l j
   exists l,z.cps.toList.map lU,Z,HK.of (by rw[show z.cps.size=z.cps.toList.length from Z,J5];exact qc)
   rw[OM];exact q _ (HE.upd j)
theorem sR(a:At K mg "is_code" eR ["thing"])(T:Mq K mg tk)(j:Df P w K mg base "are_digits" ["things"] 3 lF):Df P w K mg base "is_code" X7 4 jS:=by
 refine a.dq tN λf _ A _ s H m Q E i h=>?_
 .let#[x,b,rfl,g,q]:=h
  exists _,(qe (qM (QF (Qa (qy zM T.b_isinstance J8 (qd (qv 0) (qd (zL (v:= .ty "tuple") Z T.b_tuple J7 Z) qb))))) (qj (qw cr)) qH)
   (qj (qw (Q4 (Qn zy (qy qN T.b_len JQ (qd (qv 0) qb)) (zv (v:= .int 5) Z T.g_CODE_DIGITS #[0]) (qz _)) (ZJ (qt j i.mo (qd (qv 0) qb)))))))
  rcases g with⟨e,ds,rfl,d,l,hk,rfl⟩|⟨t,hk,hs,rfl⟩
  case inr=>
   exists 0,x,"tuple",t,Z,nw hk,by simp,0
   rw[hs];exact Ql (q _ (HE.refl _))
  exists 26,"tuple","tuple",Z,.tup (.inl d),by simp,0
  refine zS ?_
  exists 0,e,0,.inr (HP.of d),17
  by_cases c:ds.length=5
  .refine Qf (Jj (by rw[c];rfl)) ?_
   refine#[0,e,0,d,by rw[Jt];lia,hk,λH' s'=>?_]
   rw[Jj c,IB]at q;exact q _ s'
  .rw[Jl c,Ia]at q
   refine Qk (Jl (by intro z;injection z with z;lia)) ?_
   exact q _ (HE.refl _)
theorem pe(a:At K mg "is_press" cj ["thing"])(T:Mq K mg tk)(p:Df P w K mg base "is_name" X7 1 jT)(r:Df P w K mg base "is_number" X7 1 gS)(m:Df P w K mg base "is_code" X7 4 jS):Df P w K mg base "is_press" X7 5 cu:=by
 refine a.dq ML λf _ A _ s H B Q E g h=>?_
 .let#[x,b,rfl,j,q]:=h
  exists _,(qe (qM (QW.pt (ZG (QF (Qa (qy zM T.b_isinstance J8 (qd (qv 0) (qd (zL (v:= .ty "tuple") Z T.b_tuple J7 Z) qb))))) (ZA (qA iz (qy qN T.b_len JQ (qd (qv 0) qb)) qg (qz _))))) (qj (qw cr)) qH)
   (qe (zr (qv 0) (af Z (qu (qk (i:=1) ML.nd Z (Or.inl Z)) (qu (qk (i:=2) ML.nd Z (Or.inl Z)) (qu (qk (i:=3) ML.nd Z (Or.inl Z)) qW)))))
   (qj (qw (Q4 (qt p g.mo (qd (qv 1) qb)) (Q4 (qt r g.mo (qd (qv 2) qb)) (ZJ (qt m g.mo (qd (qv 3) qb)))))))))
  cases j with
  | @kd t hk hs=>
   exists 0,x,"tuple",t,Z,nw hk,by simp,0
   rw[hs];exact Ql (q _ (HE.refl _))
  | @len a xs e h l n=>
   subst e;exists 26,"tuple","tuple",Z,.tup (.inl h),by simp,0
   refine zS ?_
   exists 0,a,0,.inr (HP.of h),17
   refine Qf (by rw[Jl (by intro z;injection z with z;lia)];rfl) ?_
   exact q _ (HE.refl _)
  | @tup a n y c bn bc ty e h hn hy hc=>
   subst e;exists 26,"tuple","tuple",Z,.tup (.inl h),by simp,0
   refine zS ?_
   exists 0,a,0,.inr (HP.of h),17
   refine fD Z ?_
   exists 0,a,0,.tup h,9
   refine#[0,n,bn,Z,hn,λH1 d=>#[0,?_]]
   cases bn with
   |false=>exact zS (q _ d)
   |true=>
    refine Ql ?_
    exists 0,y,ty,Z,fQ d hy,0
    cases hnum:hV y with
    |false=>
     rw[hnum]at q;exact zS (q _ d)
    |true=>
     rw[hnum]at q;refine Ql ?_
     exact#[0,c,bc,Z,hc.same d,λu o=>q _ (d.trans o)]
theorem sW(a:At K mg "word_of" eZ ["count","last","near","far"])(T:Mq K mg tk):Df P w K mg base "word_of" ["count","last","near","far"] 1 p7:=by
 refine a.dq sS λf _ A _ s H e Q E d h=>?_
 .let#[c,l,n,f,rfl,q]:=h
  unfold uo at q;exists _,(qe (qM (qA bh (qv 0) (qv 1) (qz _)) (qj (qw qm)) qH)
   (qe (qM (qA bh (qv 0) (qx qL (qv 1) (qv 2)) (qz _)) (qj (qw qm)) qH)
   (qe (qM (qA bh (qv 0) (qx qL (qv 1) (qv 3)) (qz _)) (qj (qw qm)) qH)
   (qj (qw qm)))))
  exists 25
  refine qQ (λz=>?_) (λz=>?_)
  .rw[Jc (JA z)]at q;exact q
  .rw[Jb (λy=>z (Jj y))]at q
   exists 24
   refine qQ (λz=>?_) (λz=>?_)
   .rw[Jc (JA z)]at q;exact q
   .rw[Jb (λy=>z (Jj y))]at q
    exists 24
    refine qQ (λz=>?_) (λz=>?_)
    .rw[Jc (JA z)]at q;exact q
    .rw[Jb (λy=>z (Jj y))]at q;exact q
theorem t8(a:At K mg "step_by" dh ["button","age","count","near","far"])(T:Mq K mg tk)(L:Df P w K mg base "word_of" ["count","last","near","far"] 1 p7):Df P w K mg base "step_by" X4 2 jo:=by
 refine a.dq MA λf _ A _ s H N Q E J h=>?_
 .let#[a,e,age,c,g,n,rfl,#[v,G,I],q]:=h
  exists _,(qe (zr (qv 0) (af Z (qu (qk (i:=5) MA.nd Z (Or.inl Z)) (qu (qk (i:=6) MA.nd Z (Or.inl Z)) (qu (qk (i:=7) MA.nd Z (Or.inl Z)) qW)))))
   (qe (qG (i:=8) MA.nd Z (Or.inl Z) (qt L J.mo (qd (qv 2) (qd (qv 6) (qd (qv 3) (qd (qv 4) qb))))))
   (qe (qM (QW.pt (aW (qA zy (qv 8) qm (qz _)) (aN (qA (Du J) (qv 7) (qF (qd (qv 1) (qd (qx Qr (qv 2) qg) qb))) (qz _))))) (qj (qG (i:=8) MA.nd Z (Or.inl Z) qm)) qH)
   (qe (qM (qA zy (qv 8) qm (qz _)) (qj (qw (qF (qd (qv 8) (qd (qF (qd (qv 1) (qd (qv 2) (qd zk qb)))) qb))))) qH)
   (qe (qM (qA zy (qv 8) qm (qz _)) (qj (qw (qF (qd (qv 8) (qd (qF (qd (qv 5) (qd (qv 6) (qd (qF (qd (qv 1) (qd (qv 2) qb))) qb)))) qb))))) qH)
   (qj (qw (qF (qd (qv 8) (qd (qv 0) qb))))))))))
  exists 0,a,0,.tup G,9
  exists 10,c,e.last,g,n,Z
  unfold zh at q;unfold uo
  by_cases h1:c<=e.last
  .rw[Jc h1]
   rw[Jc h1]at q;exists 4
   refine qQ (λy=>absurd (JA y) nofun) (λ_=>?_)
   exists 4
   refine qQ (λy=>absurd (JA y) nofun) (λ_=>?_)
   exists 4
   refine qQ (λy=>absurd (JA y) nofun) (λ_=>?_)
   refine#[2,Hj,λq1 d=>?_]
   exact q q1 a _ (HE.upd d) qc (Mm.same (HE.upd d) #[v,G,I])
  .rw[Jb h1]
   rw[Jb h1]at q
   by_cases p:c<=e.last+g
   .rw[Jc p]
    rw[Jc p]at q;exists 4
    refine qQ (λy=>absurd (JA y) nofun) (λ_=>?_)
    exists 4
    refine qQ (λ_=>?_) (λy=>absurd (Jj Z) y)
    refine#[3,Hl,λt l=>#[Hj,λq1 d=>?_]]
    have m:=HE.upd (o:= .tup [.int age,.int c,.non]) l
    have j:=HE.upd (o:= .tup [.str "near",-t]) d
    exact q q1 t _ (m.trans j) qc #[.non,j _ _ qc,Z]
   .rw[Jb p]
    rw[Jb p]at q
    by_cases u:c<=e.last+n
    .rw[Jc u]
     rw[Jc u]at q;exists 4
     refine qQ (λ_=>?_) (λy=>absurd (Jj Z) y)
     refine#[48,Hj,λM D=>?_]
     have x:=HE.upd (o:= .tup [.int age,.int (c-1)]) D
     have C:=I.mv (S:=[]) x.mv (λc h=>nomatch h)
     exists e.wt,M,age,c-1,C,Z,.inl qc,0
     by_cases r:e.wt=↑(age,c-1)
     .rw[Jc r]at q
      refine Qf (Jj r) ?_
      exists 4
      refine qQ (λ_=>?_) (λy=>absurd (Jj Z) y)
      refine#[3,Hl,λt l=>#[Hj,λq1 d=>?_]]
      have m:=HE.upd (o:= .tup [.int age,.int c,.non]) l
      have j:=HE.upd (o:= .tup [.str "near",-t]) d
      exact q q1 t _ ((x.trans m).trans j) qc #[.non,j _ _ qc,Z]
     .rw[Jb r]at q
      refine Qk (Jl r) ?_
      exists 4
      refine qQ (λy=>absurd (JA y) nofun) (λ_=>?_)
      exists 4
      refine qQ (λ_=>?_) (λy=>absurd (Jj Z) y)
      refine#[33,Hj,λz B=>#[Hl,λt l=>#[Hj,λq1 d=>?_]]]
      have m:=HE.upd (o:= .tup [.int age,.int c]) B
      have j:=HE.upd (o:= .tup [.int e.age,.int e.last,-z]) l
      have F:=HE.upd (o:= .tup [.str "far",-t]) d
      exact q q1 t _ (((x.trans m).trans j).trans F) qc #[-z,F _ _ qc,z,Z,F _ _ (j _ _ qc)]
    .rw[Jb u]
     rw[Jb u]at q;exists 4
     refine qQ (λy=>absurd (JA y) nofun) (λ_=>?_)
     exists 4
     refine qQ (λy=>absurd (JA y) nofun) (λ_=>?_)
     exists 4
     refine qQ (λy=>absurd (JA y) nofun) (λ_=>?_)
     refine#[2,Hj,λq1 d=>?_]
     exact q q1 a _ (HE.upd d) qc (Mm.same (HE.upd d) #[v,G,I])
theorem iT(a:ND K C "is_full" "Door.is_full" ZW ["self"])(T:Mq K mg tk)(U:MS K C):Mf P w K mg base C "is_full" V1 1 (pQ K C):=by
 refine a.mq iu λf _ A _ s H g Q E i h=>?_
 .let#[p,ta,hk,bd,lg,n,D,rfl,b,q]:=h
  let#[d,e,_,c,_]:=b.kb;exists _,(qj (qw (Qn tM (qy wb T.b_len JQ (qd (zd (qv 0)) qb)) (zd (qv 0)) (qz _))))
  exists 0,p,0,b.h_buttons U,bd,0,e,0,p,0,b.h_most U,6
  rw[show(Qg d.1 d.2).length=D.kn.length from(Jf _).trans c.length_eq]
  exact q
theorem gh(a:ND K C "button_of" "Door.button_of" Zu ["self","name"])(T:Mq K mg tk)(U:MS K C):Mf P w K mg base C "button_of" V0 1 (lx K C):=by
 refine a.mq f9 λf _ A _ s H m Q E i h=>?_
 .let#[p,ta,hk,bd,lg,n,D,nm,rfl,b,q1,q2]:=h
  exists _,(qj (qw (yS i (zd (qv 0)) (qv 1))))
  let#[l,j,_]:=id b.kb;exists 0,p,0,b.h_buttons U,bd,Z,.inl #[_,.inl j],0
  rcases b.kb.get nm with⟨c,g⟩|⟨e,x,c,g,d⟩
  .exact#[_,g,q1 c]
  .exact#[_,g,q2 e x c d]
theorem f8(a:ND K C "takes_age" "Door.takes_age" Zr ["self","age"])(T:Mq K mg tk)(U:MS K C):Mf P w K mg base C "takes_age" W8 1 (gT K C):=by
 refine a.mq gj λf _ A _ s H g Q E e h=>?_
 .let#[p,ta,hk,bd,lg,n,D,age,rfl,b,q]:=h
  let#[d,c,la,_]:=b.ks;exists _,(qj (qw (gR bh fw (zd (qv 0)) (qv 1) (qy qN T.b_len JQ (qd (zd (qv 0)) qb)))))
  unfold zX at q;exists 0,p,0,b.h_least_age U,22
  refine qQ (λz=>?_) (λz=>?_)
  .rw[z,IB]at q
   exists 0,p,0,b.h_house_keys U,hk,0,.inl (HK.of c),6
   rw[Jf,la];exact q
  .rw[IC.mpr z,Ia]at q
   exact q
theorem ff(a:ND K C "takes_from" "Door.takes_from" Zg ["self","button","age"])(T:Mq K mg tk)(U:MS K C)(g:Mf P w K mg base C "takes_age" W8 1 (gT K C)):Mf P w K mg base C "takes_from" X8 2 (fC K C):=by
 refine a.mq fi λf _ A _ s H i Q E d h=>?_
 .let#[p,ta,hk,bd,lg,x,n,D,e,age,rfl,b,#[v,c,j],q]:=h
  exists _,(qj (qw (Q4 (zu g U.cl d.mo (qv 0) (qd (qv 2) qb)) (ZJ (Qn tM (qv 2) (qI zp (qv 1) qg) (qz _))))))
  unfold zn at q;exists 0,p,Z,b.no,0,p,ta,hk,bd,lg,n,D,age,Z,b,0
  refine qQ (λz=>?_) (λz=>?_)
  .rw[z,IB]at q
   exact#[2,x,1,HP.of c,36,q]
  .rw[IC.mpr z,Ia]at q
   exact q
theorem eN(a:ND K C "plain_step" "Door.plain_step" QC ["self","button","age","count"])(T:Mq K mg tk)(U:MS K C)(i:Mf P w K mg base C "takes_from" X8 2 (fC K C))(l:Df P w K mg base "step_by" X4 2 jo):Mf P w K mg base C "plain_step" x5 3 (rX K C):=by
 refine a.mq ae λf _ A _ s H m Q E g h=>?_
 .let#[p,ta,hk,bd,lg,x,n,D,e,age,c,rfl,b,d,j,q]:=h
  exists _,(qe (qM (QF (Qa (zu i U.cl g.mo (qv 0) (qd (qv 1) (qd (qv 2) qb))))) (qj (qw (qF (qd qm (qd (qv 1) qb))))) qH)
   (qj (qw (qt l g.mo (qd (qv 1) (qd (qv 2) (qd (qv 3) (qd (zd (qv 0)) (qd (zd (qv 0)) qb)))))))))
  exists 0,p,Z,b.no,2,p,ta,hk,bd,lg,x,n,D,e,age,Z,b,d,0
  rw[j];refine zS ?_
  exact#[10,p,0,b.h_near U,0,p,0,b.h_far U,x,e,age,c,D.near,D.far,Z,d,q]
theorem f7(a:ND K C "answer_to" "Door.answer_to" Zo ["self","press"])(T:Mq K mg tk)(U:MS K C)(dC:Mf P w K mg base C "button_of" V0 1 (lx K C))(dB:Mf P w K mg base C "takes_from" X8 2 (fC K C))(dD:Mf P w K mg base C "plain_step" x5 3 (rX K C))
  (dL:Df P w K mg base "read_press" W7 3 (nX K)):Mf P w K mg base C "answer_to" ["self","press"] 4 (kK K C):=by
 refine a.mq HM λf _ A _ s H vs Q E r h=>?_
 .let#[p,ta,hk,bd,lg,X,n,D,nm,age,ds,rfl,b,ok,#[pc,Y,R],hn,l5,F,q]:=h
  exists _,(qe (zr (qv 1) (af Z (qu (qk (i:=2) HM.nd Z (Or.inl Z)) (qu (qk (i:=3) HM.nd Z (Or.inl Z)) (qu (qk (i:=4) HM.nd Z (Or.inl Z)) qW)))))
   (qe (qG (i:=5) HM.nd Z (Or.inl Z) (zu dC U.cl r.mo (qv 0) (qd (qv 2) qb)))
   (qe (qM (qA am (qv 5) zk (qz _)) (qj (qw (qF (qd qm (qd qm qb))))) qH)
   (qe (qM (QF (Qa (zu dB U.cl r.mo (qv 0) (qd (qv 5) (qd (qv 3) qb))))) (qj (qw (qF (qd qm (qd qm qb))))) qH)
   (qe (qG (i:=6) HM.nd Z (Or.inl Z) (qt dL r.mo (qd (zd (qv 0)) (qd (qI qJ (zd (qv 0)) (qv 3)) (qd (qv 1) qb)))))
   (qe (qM (qA am (qv 6) zk (qz _)) (qj (qw (qF (qd qm (qd qm qb))))) qH)
   (qe (zr (qv 6) (af Z (qu (qk (i:=7) HM.nd Z (Or.inl Z)) (qu (qk (i:=8) HM.nd Z (Or.inl Z)) qW))))
   (qe (zr (zu dD U.cl r.mo (qv 0) (qd (qv 5) (qd (qv 3) (qd (qv 7) qb)))) (af Z (qu (qk (i:=9) HM.nd Z (Or.inl Z)) (qu (qk (i:=10) HM.nd Z (Or.inl Z)) qW))))
   (qe (Qx r (zd (qv 0)) (qv 2) (qv 10))
   (qe (qM (qA zy (qv 9) qm (qz _)) (qj (qw (qF (qd qm (qd (qv 2) (qd (qv 8) qb)))))) qH)
   (qj (qw (qF (qd qm (qd (qv 9) qb)))))))))))))))
  exists 0,X,0,.tup Y,9
  refine#[0,p,Z,b.no,0,p,ta,hk,bd,lg,n,D,nm,Z,b,λo=>?_,λe x o hx=>?_]
  .have m:q8 D nm age (Qj D.t (zN D age) nm ds)=([.str "held",.str "unknown"],D.kn):=by unfold q8;rw[o]
   rw[m]at q;exists 4
   refine qQ (λ_=>?_) (λy=>absurd (Jj Z) y)
   refine#[Hj,λq1 g=>?_]
   exact q q1 _ (HE.upd g).mv qc (b.same (HE.upd g))
  .exists 4
   refine qQ (λy=>nomatch (JA y)) (λ_=>?_)
   exists 0,p,Z,b.no,2,p,ta,hk,bd,lg,x,n,D,e,age,Z,b,hx,0
   cases ht:zn D e age with
   |false=>
    have m:q8 D nm age (Qj D.t (zN D age) nm ds)=([.str "held",.str "age"],D.kn):=by unfold q8;rw[o];simp only;rw[ht];rfl
    rw[m]at q;refine Ql ?_
    refine#[Hj,λq1 g=>?_]
    exact q q1 _ (HE.upd g).mv qc (b.same (HE.upd g))
   |true=>
    refine zS ?_
    let#[a0,a1]:=jP ht ok.l0;let#[xs,ak,eh,I,S]:=b.ks.at a0 a1;refine#[0,p,0,b.h_table U,0,p,0,b.h_house_keys U,0,hk,1,HK.of eh,I,0,ta,ak,X,pc,nm,age,D.t,zN D age,ds,Z,.inr b.tb,.inr S,.tup Y,.tup R,hn,ok.tp,l5,F,λy H1 u t=>?_]
    have B:=b.same u;have J:=hx.same u;have j:eV H1 y (Qj D.t (zN D age) nm ds):=t
    cases er:Qj D.t (zN D age) nm ds with
    |none=>
     rw[er]at j q;have M:y= .non:=j
     subst M;have m:q8 D nm age none=([.str "held",.str "false"],D.kn):=by unfold q8;rw[o];simp only;rw[ht];rfl
     rw[m]at q;exists 4
     refine qQ (λ_=>?_) (λy=>absurd (Jj Z) y)
     refine#[Hj,λq1 g=>?_]
     exact q q1 _ (u.trans (HE.upd g)).mv qc (B.same (HE.upd g))
    |some cd=>
     let#[c,d]:=cd;rw[er]at j q;let#[pp,M,O]:=j;subst M;exists 4
     refine qQ (λy=>nomatch (JA y)) (λ_=>?_)
     exists 0,pp,0,.tup O,8
     refine#[0,p,Z,B.no,3,p,ta,hk,bd,lg,x,n,D,e,age,c,Z,B,J,ht,λq1 a' H2 s2 g L=>#[q1,0,.tup g,8,?_]]
     have G:=B.same s2;let#[H3,dp,W,N]:=G.kb.put nm (by have:=ok.nl;lia) L
     exists 2,p,0,G.h_buttons U,0,bd,H3,Z,dp
     have b3:=G.putK W N;have mm:Mv [bd] H H3:=(u.trans s2).mv.trans W
     exists 4
     by_cases v:(zh D.near D.far e age c).1="near"
     .have m:q8 D nm age ↑(c,d)=([.str "open",.str nm,.int d],qP D.kn nm (zh D.near D.far e age c).2):=by unfold q8;rw[o];simp only;rw[Jc ht,Jc v]
      rw[m]at q;refine qQ (λ_=>?_) (λy=>absurd (Jj (by rw[v])) y)
      refine#[2,Hl,λq2 l=>?_]
      exact q q2 _ (mm.trans (HE.upd l).mv) qc (b3.same (HE.upd l))
     .have m:q8 D nm age ↑(c,d)=([.str "held",.str (zh D.near D.far e age c).1],qP D.kn nm (zh D.near D.far e age c).2):=by unfold q8;rw[o];simp only;rw[Jc ht,Jb v]
      rw[m]at q;refine qQ (λy=>absurd (JA y) (by intro z;injection z with z;exact v z)) (λ_=>?_)
      refine#[0,Hj,λq2 l=>?_]
      exact q q2 _ (mm.trans (HE.upd l).mv) qc (b3.same (HE.upd l))
theorem eE(a:ND K C "read_right" "Door.read_right" Ze ["self","thing"])(T:Mq K mg tk)(U:MS K C)(O:Df P w K mg base "is_press" X7 5 cu)(F:Mf P w K mg base C "takes_age" W8 1 (gT K C))(R:Df P w K mg base "read_press" W7 3 (nX K)):Mf P w K mg base C "read_right" W4 6 (fv K C):=by
 refine a.mq eY λf _ A _ s H X Q E r h=>?_
 .let#[p,ta,hk,bd,lg,n,D,x,o,rfl,b,ok,tg,q]:=h
  exists _,(qe (qM (QW.pt (ZG (QF (Qa (qt O r.mo (qd (qv 1) qb)))) (ZA (QF (Qa (zu F U.cl r.mo (qv 0) (qd (qI zp (qv 1) qg) qb))))))) (qj (qw zk)) qH)
   (qj (qw (qt R r.mo (qd (zd (qv 0)) (qd (qI qJ (zd (qv 0)) (qI zp (qv 1) qg)) (qd (qv 1) qb)))))))
  refine#[0,x,0,tg.b,λH1 i=>#[0,?_]]
  cases o with
  |none=>exact Ql (Ql (q .non _ i Z))
  |some PP=>
  let#[m,rfl,M,B,v,e]:=tg;have q:∀y H',HE H H'->eV H' y (Zz D PP)->Q y H':=q
  let#[nm,age,ds]:=PP;simp only at B v e
  refine zS ?_
  have d:=b.same i;let#[S,c,j]:=L8.same i M;exists 0,p,Z,d.no,0,m,1,HP.of c,Z,p,ta,hk,bd,lg,n,D,age,Z,d,0
  unfold Zz at q;cases ht:zX D age with
  |false=>
   rw[Jb (by rw[ht];intro z;cases z)]at q
   exact Ql (q _ _ i Z)
  |true=>
  rw[Jc ht]at q;refine zS ?_
  have t:zn D #[age,(0),none] age=true:=by unfold zn;rw[ht,Jj (GX _)];rfl
  let#[L,I]:=jP t ok.l0;let#[xs,J,W,l,u]:=d.ks.at L I
  exact#[0,p,0,d.h_table U,0,p,0,d.h_house_keys U,0,m,1,HP.of c,Z,hk,1,HK.of W,l,0,ta,J,m,S,nm,age,D.t,zN D age,ds,Z,.inr d.tb,.inr u,.tup c,.tup j,B,ok.tp,v,e,λy G N g=>q y G (i.trans N) g]
theorem fZ(a:ND K C "known_now" "Door.known_now" Zs ["self"])(T:Mq K mg tk)(U:MS K C):Mf P w K mg base C "known_now" V1 1 (mf K C):=by
 refine a.mq ge λf _ A _ s H vs Q E hr h=>?_
 .let#[p,ta,hk,bd,lg,n,D,rfl,b,ok,q]:=h
  let#[fn,hd,a5,N,_]:=id b.kb;exists _,(qj (qw (qT qZ T.b_tuple J7 (qd (zH (own:=["name"]) (fr:=["self"]) (js:=[0]) Z (zK (qy (og Z) T.b_sorted PyProof.Rows.boot_sorted (qd (zd (qv 0)) qb))) Z (ao Z) Z (aq Z nofun nofun nofun Z Z Z) (λ_ _ _ _=>qk (i:=0) (show List.Nodup (["name","self"]:Β)from by decide +kernel) Z (Or.inl Z) (.inr Z)) (λ_ _ _ _=>(qx bV (qF (qd (qv 0) qb)) (qC hr (CY (K:=K) Z (qv 1)) (qv 0))))) qb))))
  refine#[0,p,0,b.h_buttons U,bd,_,fn.1.map (·.1),Z,hd,rj _ _,by rw[Jf,N.length_eq];have:=ok.nl;lia,λl ss hl a3 so=>#[l,Z,#[_,HK.of qc],?_]]
  have pm:=a3.trans (N.map (·.1))
  have u1:=HE.upd (o:= .lst (ss.map V.str)) hl
  have ls:ss.length<=60:=by rw[pm.length_eq,Jf];exact ok.nl
  refine QK (K:=K) (xs:=ss.map V.str) (by rw[Jf,Jt];lia) (λi ys G=>HE (HG H l (.lst (ss.map V.str))) G/\∃d:Ι,ys=d.map V.ref/\d.length=i/\∀(j:Nat) (x:Δ) (nm:Str) (e:Kb),d[j]? =↑x->ss[j]? =↑nm->D.kn.lookup nm=↑e->∃v,G x=↑(.tup [.str nm,.int e.age,.int e.last,v])/\Wt G v e.wt) #[HE.refl _,[],7,λj x nm e h=>by(cases h)] (λi ys G ⟨B,_⟩=>B.seq (HK.of qc)) ?_ ?_
  .rintro i ys G x R a4 ⟨B,d,rfl,r,has⟩
   rw[Jo]at R;cases es:ss[i]? with
   |none=>rw[es]at R;cases R
   |some nm=>
    rw[es]at R
    obtain rfl:V.str nm=x:=Jx R
    have M:nm∈D.kn.map (·.1):=pm.mem_iff.mp (Jy es)
    let#[e,I]:=QU M;have b3:=b.same (u1.trans B);let#[e',x0,m,g,v0,L,O]:=(b3.kb.get nm).resolve_left (λz=>by rw[I]at z;cases z.1)
    rw[I]at m;cases m;refine#[0,Hi,λt ht=>?_]
    have F:=HE.upd (o:= .tup [.str nm]) ht
    have b4:=b3.same F;let#[e',x0,m,g,v0,L,O]:=(b4.kb.get nm).resolve_left (λz=>by rw[I]at z;cases z.1)
    rw[I]at m;cases m;refine#[0,p,0,b4.h_buttons U,0,bd,0,g,t,x0,6,qc,L,Hm,λq1 H5 X u=>?_]
    refine#[(B.trans F).trans X,d++[q1],by simp,by simp [r],λj y m2 e2 h1 J W=>?_]
    rw[Ik]at h1;split at h1
    .let#[v,Y,a2]:=has j y m2 e2 h1 J W
     exact#[v,X _ _ (F _ _ Y),a2.mv (S:=[]) (F.trans X).mv (λc h=>nomatch h)]
    .have hj:j-d.length=0:=by
      cases hj:j-d.length with
      |zero=>rfl
      |succ k=>rw[hj]at h1;cases h1
     rw[hj]at h1;cases h1
     obtain rfl:j=i:=by lia
     rw[es]at J;cases J;rw[I]at W;cases W
     exact#[v0,u,O.mv (S:=[]) X.mv (λc h=>nomatch h)]
  .rintro ys G a4 ⟨B,d,rfl,r,has⟩ l2 a0
   have F:=HE.upd (o:= .lst (d.map V.ref)) a0
   refine#[l2,0,.inl #[HK.of qc,λq1 u=>?_]]
   have u5:=HE.upd (o:= .tup (d.map V.ref)) u
   have S:=F.trans u5;refine q q1 ss _ ((u1.trans B).trans S) pm so #[d,qc,by rw[r,Jf],λj x nm e h1 J W=>?_]
   let#[v,Y,a2]:=has j x nm e h1 J W
   exact#[v,S _ _ Y,a2.mv (S:=[]) S.mv (λc h=>nomatch h)]
theorem mP(a:ND K C "hear" "Door.hear" bH ["self","thing"])(T:Mq K mg tk)(U:MS K C)(dR:Df P w K mg base "is_press" X7 5 cu)(X:Mf P w K mg base C "answer_to" ["self","press"] 4 (kK K C)):Mf P w K mg base C "hear" W4 6 (rW K C):=by
 refine a.mq Nf λf _ A _ s H vs Q E O h=>?_
 .let#[#[p,ta,hk,bd,lg],D,L,x,o,rfl,#[b,#[rs,B,R],M],n1,ok,tg,W,N]:=h
  simp only at b B M N
  exists _,(qe (qM (QF (Qa (qt dR O.mo (qd (qv 1) qb)))) (qj (qw (qF (qd qm (qd qm qb))))) qH)
   (qe (qG (i:=2) Nf.nd Z (Or.inl Z) (zu X U.cl O.mo (qv 0) (qd (qv 1) qb)))
   (qe (zJ (Q9 GI GY GZ zY (zd (qv 0)) (qd (qF (qd qm (qd (qv 1) (qd (qv 2) qb)))) qb)))
   (qj (qw (qv 2))))))
  refine#[0,x,0,tg.b,λH1 j=>#[0,?_]]
  cases o with
  |none=>exact Ql #[Hj,λq Y=>W Z q _ (j.trans (HE.upd Y)) qc]
  |some PP=>
  let#[v,rfl,S,e]:=tg;have q:=N PP Z;refine zS ?_
  have y:=b.same j;let#[f0,I,_]:=id y.kb;have l:NT [bd] H1:=NT.one I trivial
  refine#[0,p,Z,y.no,0,p,ta,hk,bd,lg,v,L.length,D,PP.nm,PP.age,PP.ds,Z,y,ok,L8.same j S,e.nm,e.l,e.dg,λq1 H2 t n J=>?_]
  have g:=t _ _ (qK (qD (j _ _ B) I (by intro z;cases z))) (j _ _ B)
  have G:=(R.same j).mv t l;refine#[0,p,0,J.h_log U,.inl #[37,HK.of g],2,Hl,λr F=>?_]
  have d:=HE.upd (o:= .tup [.str "hear",-v,-q1]) F
  have b3:=J.same d;have u:=L8.same d (L8.mv t l (L8.same j S));have m:NT [lg] _:=NT.one (d _ _ g) trivial
  refine#[lg,6,d _ _ g,by rw[Jf,R.1,Jt];lia,#[0,?_]]
  exact q v q1 _ Z (((j.mv.trans (t.mono (λc h z=>h (by rw[Jm.mp z];exact JM ..)))).trans d.mv).trans (Mv.upd1.mono (λc h z=>h (by rw[Jm.mp z];exact JS _ (JM ..))))) (L8.mv Mv.upd1 m u) (Mv.upd1.tup m (d _ _ n)) (Mr.push (a:=#[p,ta,hk,bd,lg]) b3 (d _ _ g) (G.same d) ((L7.mv t l (qK (AN I y)) (L7.same j M)).same d) #[v,q1,.inl qc,u,e,d _ _ n,vU D PP,xf D PP])
theorem db(a:ND K C "close_below" "Door.close_below" Q6 ["self","age"])(T:Mq K mg tk)(U:MS K C):Mf P w K mg base C "close_below" W8 1 (nZ K C):=by
 refine a.mq cZ λf _ A _ s H F Q E G h=>?_
 .let#[#[p,ta,hk,bd,lg],D,L,age,rfl,#[b,#[rs,i,t],v],n1,q]:=h
  simp only at b i v q
  exists _,(qe (ZB (qv 0) (qy (fc Z) T.b_max LZ (qd (zd (qv 0)) (qd (qv 1) qb))))
   (qj (zJ (Q9 GI GY GZ zY (zd (qv 0)) (qd (qF (qd qm (qd (qv 1) qb))) qb)))))
  have q:=q _ _ Z;let#[z,u]:∃z:Int,z=if age>D.least then age else D.least:=#[0]
  rw[<- u]at q;let#[B,g]:=id b.ob;let#[dx,x,m,n]:=b.putLeast U z;have d:=m _ _ (qK (qD i g (by intro z;cases z))) i
  have j:=t.mv m (NT.one g trivial);exists 0,p,0,b.h_least_age U,_,Z,_,_,Z,_,Z,p,0,by rw[<- u];exact x
  refine#[0,p,0,n.h_log U,.inl #[37,HK.of d],0,Hj,λr l=>?_]
  have e:=HE.upd (o:= .tup [.str "close",.int age]) l
  have y:=n.same e;exists lg,6,e _ _ d,by rw[Jf,t.1,Jt];lia
  exact q _ (((m.mono (λc h z=>h (by rw[Jm.mp z];exact JM ..))).trans e.mv).trans (Mv.upd1.mono (λc h z=>h (by rw[Jm.mp z];exact JS _ (JM ..))))) (Mr.push (a:=#[p,ta,hk,bd,lg]) y (e _ _ d) (j.same e) ((L7.mv m (NT.one g trivial) (qK (DW g b)) v).same e) (show Nw _ r (.close age)from .inl qc))
theorem iD(a:ND K C "log_now" "Door.log_now" ZT ["self"])(T:Mq K mg tk)(U:MS K C):Mf P w K mg base C "log_now" V1 1 (vi K C):=by
 refine a.mq iV λf _ A _ s H i Q E j h=>?_
 .let#[#[p,ta,hk,bd,lg],D,L,rfl,#[b,#[rs,c,e],g],q]:=h
  simp only at b c g
  exists _,(qj (qw (qT qZ T.b_tuple J7 (qd (zd (qv 0)) qb))))
  exact#[0,p,0,b.h_log U,lg,0,.inl #[HK.of c,λt d=>q t _ (HE.upd d) #[rs,.inl qc,e.same (HE.upd d)]]]
theorem lm(a:ND K C "learn" "Door.learn" be ["self","one","other"])(T:Mq K mg tk)(U:MS K C)(dE:Mf P w K mg base C "read_right" W4 6 (fv K C))(xH:Mf P w K mg base C "is_full" V1 1 (pQ K C)):Mf P w K mg base C "learn" ["self","one","other"] 7 (j7 K C):=by
 refine a.mq L6 λf _ A _ s H vs Q E F h=>?_
 .let#[#[p,ta,hk,bd,lg],D,L,G,p2,#[nm,age,b0],#[j,d,c0],c,d1,d2,rfl,#[b,#[rs,el,ro],kr],n1,ok,v,u,O,W,r1,r2,en,ea,N,b3,q]:=h
  simp only at b el kr q en ea N
  subst en;subst ea
  exists _,(qe (qG (i:=3) L6.nd Z (Or.inl Z) (zu dE U.cl F.mo (qv 0) (qd (qv 1) qb)))
   (qe (qM (qA am (qv 3) zk (qz _)) bq qH)
   (qe (qG (i:=4) L6.nd Z (Or.inl Z) (zu dE U.cl F.mo (qv 0) (qd (qv 2) qb)))
   (qe (qM (QW.pt (ZG (qA am (qv 4) zk (qz _)) (ZG (qA (DI F) (cQ pH (qv 2) fR (fI qg)) (cQ pH (qv 1) fR (fI qg)) (qz _)) (ZA (qA iz (qI zp (qv 4) qg) (qx qL (qI zp (qv 3) qg) qg) (qz _)))))) bq qH)
   (qe (zr (qv 1) (af Z (qu (qk (i:=5) L6.nd Z (Or.inl Z)) (qu (qk (i:=6) L6.nd Z (Or.inl Z)) (qu (qk (i:=7) L6.nd Z (Or.inl Z)) qW)))))
   (qe (qM (Et F (qv 5) (zd (qv 0))) bq qH)
   (qe (qM (Qa (cA xH U.cl F.mo (qv 0))) bq qH)
   (qe (Qx F (zd (qv 0)) (qv 5) (qF (qd (qv 6) (qd (qI zp (qv 4) qg) (qd zk qb)))))
   (qj (zJ (Q9 GI GY GZ zY (zd (qv 0)) (qd (qF (qd qm (qd (qv 1) (qd (qv 2) qb)))) qb))))))))))))
  refine#[0,p,Z,b.no,0,p,ta,hk,bd,lg,L.length,D,-G,↑_,Z,b,ok,#[G,Z,v,O],λy1 H1 X t1=>?_]
  have t1:eV H1 y1 (Zz D _):=t1
  rw[r1]at t1;let#[f1,rfl,a0]:=t1;refine#[4,qQ (λy=>nomatch (JA y)) (λ_=>?_)]
  have b1:=b.same X;refine#[0,p,Z,b1.no,0,p,ta,hk,bd,lg,L.length,D,-p2,↑_,Z,b1,ok,#[p2,Z,L8.same X u,W],λy2 H2 R t2=>?_]
  have t2:eV H2 y2 (Zz D _):=t2
  rw[r2]at t2;let#[f2,rfl,J]:=t2;have b2:=b1.same R;have M:=L8.same (X.trans R) v;have S:=L8.same (X.trans R) u;let#[c1,e1,_]:=id M;let#[c2,e2,_]:=id S;simp only at e1 e2
  exists 4
  refine qQ (λy=>nomatch (JA y)) (λ_=>?_)
  refine#[2,p2,0,e2,λt3 H3 s3 h3 _=>#[2,G,0,s3 _ _ e1,λt4 H4 s4 h4 _=>?_]]
  have a5:H4 t3=↑(.tup [.str j,.int d]):=s4 _ _ h3
  have a3:H4 t4=↑(.tup [.str j,.int d]):=h4
  have I:=(s3.trans s4);have SS:=(X.trans R).trans I;refine#[(1),⋯,N9.pair a5 a3,0,zS ?_]
  exists 0,f2,1,HP.of (I _ _ J),17,f1,1,HP.of (I _ _ (R _ _ a0)),56
  refine fD Z ?_
  have Y:=b2.same I;exists 0,G,0,.tup (I _ _ e1),9
  have g4:Md H4 bd (.str j) none:=by
   rcases Y.kb.get j with⟨_,g⟩|⟨e,x,e5,_⟩
   .exact g
   .rw[N]at e5;cases e5
  exists 2,p,0,Y.h_buttons U,bd,0,g4,0
  refine zS ?_
  exists 0,p,Z,Y.no,p,ta,hk,bd,lg,L.length,D,Z,Y,0
  refine qQ (λy=>absurd (JA y) (by lia)) (λ_=>?_)
  refine#[2,f2,1,HP.of (I _ _ J),Z,Hl,λt5 a6=>?_]
  have u5:=HE.upd (o:= .tup [.int d,.int (c+1),.non]) a6
  have b5:=Y.same u5;let#[f0,hd,_]:=id b5.kb;have n:=SS.trans u5;let#[H6,dp,t,a4]:=b5.kb.put j (a:=t5) (e:=#[d,c+1,none]) (by have:=ok.nl;lia) #[.non,qc,Z]
  exists 0,p,0,b5.h_buttons U,0,bd,H6,Z,dp
  have b6:=b5.putK t a4;have B:=t _ _ (qK (qD (n _ _ el) hd (by intro z;cases z))) (n _ _ el)
  have l:NT [bd] _:=NT.one hd trivial
  have a2:=(ro.same n).mv t l;refine#[0,p,0,b6.h_log U,.inl #[37,HK.of B],2,Hl,λr a1=>?_]
  have m:=HE.upd (o:= .tup [.str "learn",-G,-p2]) a1
  have b7:=b6.same m;exists lg,6,m _ _ B,by rw[Jf,ro.1,Jt];lia
  exact q _ (((n.mv.trans (t.mono (λc h z=>h (by rw[Jm.mp z];exact JM ..)))).trans m.mv).trans (Mv.upd1.mono (λc h z=>h (by rw[Jm.mp z];exact JS _ (JM ..))))) (Mr.push (a:=#[p,ta,hk,bd,lg]) b7 (m _ _ B) (a2.same m) ((L7.mv t l (qK (AN hd b5)) (L7.same n kr)).same m) #[G,p2,.inl qc,L8.same m (L8.mv t l (L8.same n v)),L8.same m (L8.mv t l (L8.same n u)),O,W])
theorem iN(a:ND K C "__init__" "Door.__init__" ay ["self","table","keys","near","far","most"])(T:Mq K mg tk)(U:MS K C):Mf P w K mg base C "__init__" W0 1 (oq K C):=by
 refine a.mq jM λf _ A _ s H vs Q E hr h=>?_
 .let#[p,a,b,dx,J,a5,O,t,r,rfl,hp,ha,hb,hl,q]:=h
  exists _,(qe (ZB (qv 0) (qT pj T.b_tuple J7 (qd (qv 1) qb)))
   (qe (ZB (qv 0) (zH (own:=["key"]) (fr:=[]) (js:=[]) Z (nY (qv 2)) Z (λ_ _ h=>nomatch h) Z (nH Z nofun nofun nofun) (λ_ _ _ _=>qk (i:=0) (show List.Nodup (["key"]:Β)from by decide +kernel) Z (Or.inl Z) (.inr Z)) (λ_ _ _ _=>(qT oJ T.b_tuple J7 (qd (qv 0) qb)))))
   (qe (ZB (qv 0) (qv 3))
   (qe (ZB (qv 0) (qv 4))
   (qe (ZB (qv 0) (qv 5))
   (qe (ZB (qv 0) qg)
   (qe (ZB (qv 0) lM)
   (qj (ZB (qv 0) (zb qb))))))))))
  refine#[0,a,0,ha,λta H2 R ht=>#[0,p,0,Q5 U.cl (R _ _ hp) U.n_table 0,?_]]
  have e2:=R _ _ hp;have a1:=(hb.same R).upd (o:= .ins C dx [("table",-ta)]) e2
  let#[as,eb,la,a2]:=a1;have a0:=jH (o:= .ins C dx [("table",-ta)]) e2 ht
  refine#[0,b,Z,#[_,eb.up],gY (K:=K) (xs:=as.map V.ref) (by rw[Jf,la,Jt];lia) (λi ys n=>HE (HG H2 p (.ins C dx [("table",-ta)])) n/\∃bs:Ι,ys=bs.map V.ref/\bs.length=i/\∀(j:Nat) (x:Δ) (I:Ε),bs[j]? =↑x->r[j]? =↑I->HP [] n x (I.map V.int)) #[HE.refl _,[],7,λj x I e=>by(cases e)] (λi ys n ⟨v,_⟩=>(HE.sqt v eb).up) ?_ ?_]
  .rintro i ys n x N a4 ⟨v,bs,rfl,G,D⟩
   rw[Jo]at N;cases ea:as[i]? with
   |none=>rw[ea]at N;cases N
   |some x0=>
    rw[ea]at N
    obtain rfl:V.ref x0=x:=Jx N
    have hi:i<r.length:=by rw[<- la];exact(Jw.mp ea).1
    have X:=a2 i x0 r[i] ea (Ji hi);refine#[0,x0,0,.inr (HE.sqt v X).rd,λl H4 s4 a3=>#[v.trans s4,bs++[l],by simp,by simp [G],λj y I u m=>?_]]
    rw[Ik]at u;split at u
    .exact HE.sqt s4 (D j y I u m)
    .have hj:j-bs.length=0:=by
      cases hj:j-bs.length with
      |zero=>rfl
      |succ k=>rw[hj]at u;cases u
     rw[hj]at u;cases u
     have:j=i:=by lia
     subst this;rw[Ji hi]at m;cases m;exact .inl a3
  .rintro ys n a4 ⟨v,bs,rfl,G,D⟩ hk F
   have W:=HE.upd (o:= .lst (bs.map V.ref)) F
   have e3:=W _ _ (v _ _ qc);exists 0,p,0,Q5 U.cl e3 U.n_house_keys 1
   exists 2,p,0,Q5 U.cl qc U.n_near 2
   exists 2,p,0,Q5 U.cl qc U.n_far 3
   exists 2,p,0,Q5 U.cl qc U.n_most 4
   exists 0,p,0,Q5 U.cl qc U.n_least_age 5
   refineλbd d=>#[0,p,0,Q5 U.cl (by rw[qh (qr qc d)];exact qc) U.n_buttons 6,?_]
   have z:=qr qc d;refine#[Hh,λlg g=>#[0,p,0,Q5 U.cl (by rw[qh (qr qc g)];exact qc) U.n_log 7,?_]]
   have L:=qr qc g;have m3:Mv [p] H n:=((R.mv (S:=[p])).trans Mv.upd1).trans v.mv
   have c:hk≠p:=(qr (v _ _ qc) F).symm
   have m4:Mv [p] H (HG n hk (.lst (bs.map V.ref))):=m3.trans W.mv
   have M:∀o1 o2 o3 o4 o5,Mv [p] (HG n hk (.lst (bs.map V.ref))) (HG (HG (HG (HG (HG (HG n hk (.lst (bs.map V.ref))) p o1) p o2) p o3) p o4) p o5):=λo1 o2 o3 o4 o5=>(((Mv.upd1.trans Mv.upd1).trans Mv.upd1).trans Mv.upd1).trans Mv.upd1
   have M6:Mv [p] (HG n hk (.lst (bs.map V.ref))) _:=(((M _ _ _ _ _).trans (HE.upd d).mv).trans Mv.upd1).trans (HE.upd (o:= .lst []) g).mv
   have Y:=M6.trans (Mv.upd1 (o:= .ins C dx (dF #[t,r,J,a5,O,(0),[]] ta hk bd lg)))
   have nt:NT [p] (HG n hk (.lst (bs.map V.ref))):=NT.one e3 trivial
   have B:bd≠lg:=qr (by rw[qh z.symm];exact qc) g
   have KR:=L7.mv Y nt (qK c) (show L7 [] _ hk r from#[bs,qc,by rw[G,Jf,la],λj x I u m=>HE.sqt W (D j x I u m)])
   refine q ta hk bd lg _ (m3.nfree (qK c) F) ((m4.trans (M _ _ _ _ _)).nfree (qK z.symm) d) ((m4.trans ((((M _ _ _ _ _).trans (HE.upd d).mv).trans Mv.upd1))).nfree (qK L.symm) g) (m4.trans Y) #[#[dx,qc],?_,L7.up KR,?_,?_,?_] KR
   .exact Y.sqt nt (HE.sqt W (HE.sqt v a0))
   .exact#[([],λ_=>0),by rw[qh z.symm,qh B,qh z.symm];exact qc,λe he=>by(cases he),.refl _,LK]
   .exact#[[],by rw[qh L.symm];exact qc,Jd _]
   .refine(qr (o:= .lst (bs.map V.ref)) ?_ g).symm
    rw[qh c];rw[qh (qr (o:= .lst (bs.map V.ref)) (by rw[qh c,qh c,qh c,qh c,qh c];exact qc) d)]
    rw[qh c,qh c,qh c,qh c,qh c];exact qc
theorem eQ(a:ND K C "closed_now" "Door.closed_now" Zd ["self"])(T:Mq K mg tk)(U:MS K C):Mf P w K mg base C "closed_now" V1 1 (ky K C):=by
 refine a.mq du λf _ A _ s H d Q E c h=>?_
 .let#[p,ta,hk,bd,lg,n,D,rfl,b,q]:=h
  exists _,(qj (qw (zd (qv 0))))
  exact#[0,p,0,b.h_least_age U,q]
end
noncomputable def wT(K:ι):Sp:=λc H Q _=>∃(a:Δ) (ns:Ε) (k:Nat),c=[-a,.int k]/\HK K H a (ns.map V.int)/\k<=1000/\∀b H',H b=none->HE H H'->Mn H' b 0->Q (-b) H'
noncomputable def vg:Sp:=λd H Q _=>∃(b:Δ) (c:Nat),d=[-b]/\Mn H b c/\c<100000000/\∀p (a:Ε) H',Mj b (c+10) H H'->H p=none->H' p=↑(.tup (a.map V.int))->zA a->1<=a.length->a.length<=8->Q (-p) H'
section
variable{P:Ξ}{w:Ω}{K:ι}{mg:HC}{base:Ψ}{tk:Nat->Tok}
theorem oU(a:At K mg "_law_take" cN ["_law_box_here","_law_many"])(T:Mq K mg tk):Df P w K mg base "_law_take" x4 1 Zv:=by
 refine a.dq MW λf _ A _ s H x Q E y h=>?_
 .let#[b,p,c,rfl,#[n,m,k,g,v,r,u,C],l,j,h1,q]:=h
  exists _,(qe (qM (qA fE (qI qJ (qv 0) qg) qg (qz _)) (qe (qG (i:=2) MW.nd Z (Or.inl Z) (qx zE (qI qJ (qv 0) qg) (qv 1)))
   (qe (zr (qx Z4 (qI qJ (qv 0) qg) (qv 1)) (bf (qv 0) qg Q7))
   (qj (qw (qv 2))))) qH)
   (qe (zr (qx qL (qI qJ (qv 0) qg) qg) (bf (qv 0) qg Q7))
   (qe (qG (i:=3) MW.nd Z (Or.inl Z) (qx zE (qx qL (qx qL (qx Zj (qI qJ (qv 0) qg) qg) (qx Zj (qI qJ (qv 0) qg) qg)) qg) qg))
   (qe (zr (qx qL (qx zE (qx Zj (qv 3) (qv 3)) qg) (qI qJ (qv 0) qg)) (bf (qv 0) qg Q7))
   (qj (qw (qx zE (qx Z4 (qI qJ (qv 0) qg) qg) (qv 1))))))))
  exists 0,b,1,HK.of g,28
  refine qQ (λ_=>?_) (λ_=>?_)
  .exists 0,b,1,HK.of g,41,j
   exists 0,b,1,HK.of g,41,#[j,h1],0,b,16,(0),7,g,Z
   exists 0
   refine q _ _ (IU _ (by lia)) (IV _ j) #[λc o l e=>?_,32,qc,v,r,u,by lia]
   rw[qh l];exact e
  .exists 0,b,1,HK.of g,28,b,16,(2),7,g,Z
   have d:(HG H b (jq n m (k+1))) b=↑(jq n m (k+1)):=qc
   exists 0,b,1,HK.of d,36,.inr #[⋯,⋯],0,b,1,HK.of d,36,.inr #[⋯,⋯],44,(by decide:(0:Int)<2305843009213693921)
   have B:=IU (m*48271+(k+1)*39373+11) (by decide:(2305843009213693921:Int)≠0)
   have z:=IV (m*48271+(k+1)*39373+11) (by decide:(0:Int)<2305843009213693921)
   exists 15,.inl #[by lia,by lia],6,(by decide:(0:Int)<2305843009213693907),0,b,1,HK.of d,28,b,16,(1),7,d,Z
   have t:=IU ((m*48271+(k+1)*39373+11)%2305843009213693921*((m*48271+(k+1)*39373+11)%2305843009213693921)) (by decide:(2305843009213693907:Int)≠0)
   have i1:=IV ((m*48271+(k+1)*39373+11)%2305843009213693921*((m*48271+(k+1)*39373+11)%2305843009213693921)) (by decide:(0:Int)<2305843009213693907)
   exists 0,b,1,HK.of qc,36,#[⋯,⋯],11,j
   refine q _ _ (IU _ (by lia)) (IV _ j) #[λc o l e=>?_,32,qc,Int.add_nonneg t (by lia),OO (Int.add_lt_add_right i1 _) (by lia),by lia,by lia]
   rw[qh l,qh l];exact e
theorem sO(a:At K mg "_law_box" eU ["_law_script","_law_k"])(T:Mq K mg tk):Df P w K mg base "_law_box" ["_law_script","_law_k"] 1 (wT K):=by
 refine a.dq MB λf _ A _ s H vs Q E hr h=>?_
 .let#[b,ns,k,rfl,hS,X,q]:=h
  exists _,(qe (qG (i:=2) MB.nd Z (Or.inl Z) (qT ZK T.b_list IX (qd (cQ pO (qv 0) fR (fI qg)) qb)))
   (qe (qG (i:=3) MB.nd Z (Or.inl Z) (qI qJ (qx wg (qv 2) (qx nE (zb (qd qg qb)) (qx qL (qv 1) qg))) (qv 1)))
   (qe (qG (i:=4) MB.nd Z (Or.inl Z) qg)
   (qe (zo JR Z (zK (qv 2)) (qk (i:=5) MB.nd Z (Or.inl Z))
   (qj (qG (i:=4) MB.nd Z (Or.inl Z) (qx zE (qx qL (qx Zj (qv 4) qg) (qv 5)) qg))))
   (qj (qw (zb (qd (qx Zj (qy lZ T.b_abs PyProof.Rows.boot_abs (qd (qv 3) qb)) (qT wL T.b_int LX (qd (Qn tM (qy lZ T.b_abs PyProof.Rows.boot_abs (qd (qv 3) qb)) (qx vh qg qg) (qz _)) qb))) (qd (qx zE (qx qL (qx qL (qv 3) (qx Zj qg (qv 4))) (qx Zj qg (qv 1))) qg) (qd qg qb))))))))))
  refine#[2,b,0,hS,λl hl=>?_]
  rw[xr];have O:(jL ns none ↑63).length<=63:=by
   rw[Am]
   have:HT.sIx ns.length ns.length ↑63<=63:=by unfold HT.sIx;simp only;split<;>lia
   lia
  generalize jL ns none ↑63=c at O⊢
  have Y:=HE.upd (o:= .lst (c.map V.int)) hl
  refine#[l,0,.inl (HK.of qc),λg u=>?_]
  have M:=Y.trans (HE.upd (o:= .lst (c.map V.int)) u)
  have t:(HG (HG H l (.lst (c.map V.int))) g (.lst (c.map V.int))) g=↑(.lst (c.map V.int)):=qc
  generalize HG (HG H l (.lst (c.map V.int))) g (.lst (c.map V.int))=U at M t⊢
  refine#[0,Hi,λI m=>?_]
  have B:=HE.upd (o:= .lst [.int 0]) m
  refine#[11,I,6,qc,by lia,by lia,by show 1*_<=_;rw[Jt];lia,λL v=>?_]
  have e4:(D0 ((k:Int)+1).toNat [V.int 0]).flatten=(D0 (k+1) (0:Int)).map V.int:=by
   rw[show((k:Int)+1).toNat=k+1 by lia]
   simp [List.flatten_replicate_singleton]
  rw[e4];have r:=HE.upd (o:= .lst ((D0 (k+1) (0:Int)).map V.int)) v
  refine#[g,L,6,r _ _ (B _ _ t),qc,by rw[Jf,Jf,Lz,Jt];lia,λG D=>?_]
  rw[<- JI];have C:k<(c++D0 (k+1) (0:Int)).length:=by rw[Jz,Lz];lia
  exists 0,G,16,.int (c++D0 (k+1) (0:Int))[k],7,HK.of qc,zI (by rw[Jo,Ji C];rfl)
  have F:=HE.upd (o:= .lst ((c++D0 (k+1) (0:Int)).map V.int)) D
  generalize (c++D0 (k+1) (0:Int))[k]=d
  have S:=M.trans (B.trans (r.trans F));have n:=F _ _ (r _ _ (B _ _ t));generalize HG (HG (HG U I (.lst [.int 0])) L (.lst ((D0 (k+1) (0:Int)).map V.int))) G (.lst ((c++D0 (k+1) (0:Int)).map V.int))=W at S n⊢
  exists 0,g,Z,#[_,HK.of n]
  refine Q2 (K:=K) (a:=g) (xs:=c.map V.int) (λi σ j=>j=W/\∃(z:Int) (o:Μ),σ=[↑(-b),↑(.int (k:Int)),↑(-g),↑(.int d),↑(.int z),o]/\0<=z/\z<2305843009213693951) #[58,⋯,⋯] (λi σ j _ ⟨e,_⟩=>by subst e;exact HK.of n) ?_ ?_
  .rintro i x σ j hx ⟨rfl,z,o,rfl,R,N⟩
   let#[y,rfl,hy]:=Q0 hx;refine#[11,.inl #[by lia,by lia],49,(by decide:(0:Int)<2305843009213693951),58,IU _ ⋯,IV _ ⋯]
  .rintro σ j ⟨rfl,z,o,rfl,R,N⟩
   refine#[18,#[⋯,⋯,⋯],6,.inr #[0,?_]]
   exists 6,.inr #[Dq _,E7 _],15,.inl #[⋯,⋯],34,.inl #[⋯,⋯],38,(by decide:(0:Int)<2305843009213693951)
   have g0:=IU (d+39373*z+7919*(k:Int)) (by decide:(2305843009213693951:Int)≠0)
   have g1:=IV (d+39373*z+7919*(k:Int)) (by decide:(0:Int)<2305843009213693951)
   exact#[Hl,λp J=>q _ _ (ZR J S) (S.trans (HE.upd J)) #[32,qc,g0,by lia,⋯,⋯]]
theorem mL(a:At K mg "_law_table" bK ["_law_box_here"])(T:Mq K mg tk)(J:Df P w K mg base "_law_take" x4 1 Zv):Df P w K mg base "_law_table" W9 2 mV:=by
 refine a.dq MR λf _ A _ s H R Q E L h=>?_
 .let#[b,c,rfl,F,U,q]:=h
  exists _,(qe (qG (i:=1) MR.nd Z (Or.inl Z) (zb qb))
   (qe (zo JR Z (Qi Z T.b_range (qd qg qb)) (qk (i:=2) MR.nd Z (Or.inl Z))
   (qj (zJ (Q9 GI PySem.F.slot_list_insert PySem.F.type_list_insert uH (qv 1) (qd (qt J L.mo (qd (qv 0) (qd (qx qL (qv 2) qg) qb))) (qd (qv 2) qb))))))
   (qj (qw (qT qZ T.b_tuple J7 (qd (qv 1) qb))))))
  refine#[Hh,λl C=>?_]
  have g:l≠b:=Qu F C
  refine#[(16),Z,⋯,⋯,Zy (n:=16) (Pv:=λi σ y=>Mj b (c+i) H y/\∃(d:Ε) (o:Μ),y l=↑(.lst (d.map V.int))/\d.Perm (Mu.take i)/\σ=[↑(-b),↑(-l),o]) #[(HE.upd C).grc F,[],_,qc,.refl _,Z] ?_ ?_]
  .rintro i σ y hi ⟨p,d,o,v,pm,rfl⟩
   have I:d.length=i:=by rw[pm.length_eq,JP,show Mu.length=16 from Z];lia
   refine#[0,.inl #[37,HK.of v],15,b,5,p.bx,by lia,by lia,by lia,λx S N O G=>?_]
   have D:=G.kp _ _ g v;exists 0,l,1,D,N,by rw[Jf,I];lia,by rw[Jf,I,Jt];lia
   refine#[#[λc o u e=>?_,?_],d.take x.toNat++(i:Int)::d.drop x.toNat,_,?_,?_,Z]
   .by_cases z:c=l
    .subst z
     rw[e]at C;cases C
    .rw[qh z];exact G.kp _ _ u (p.kp _ _ u e)
   .let#[n,m,M,e,r]:=G.bx
    exact#[n,m,M,by rw[qh g.symm];exact e,r]
   .rw[qc,JI,JC,Kt,OD]
    simp
   .refine(NN.trans (List.Perm.cons _ (by rw[Kg]))).trans ?_
    have B:Mu.take (i+1)=Mu.take i++[(i:Int)]:=(by decide:∀j:Nat,j<16->Mu.take (j+1)=Mu.take j++[(j:Int)]) i hi
    rw[B]
    exact(List.Perm.cons _ pm).trans (K5 (l₁:=[(i:Int)]))
  .rintro σ y ⟨p,d,o,v,pm,rfl⟩
   refine#[0,l,0,.inl #[HK.of v,λt B=>?_]]
   exact q t d _ (p.same (HE.upd B)) (p.fresh (F.mono (by lia)) B) qc pm
theorem tP(a:At K mg "_law_key" fh ["_law_box_here"])(T:Mq K mg tk)(m:Df P w K mg base "_law_take" x4 1 Zv):Df P w K mg base "_law_key" W9 2 vg:=by
 refine a.dq Nr λf _ A _ s H vs Q E B h=>?_
 .let#[b,c,rfl,L,hc,q]:=h
  exists _,(qe (qG (i:=1) Nr.nd Z (Or.inl Z) (qI qJ (zb (qd qg (qd qg (qd qg (qd qg (qd (qx qL qg (qt m B.mo (qd (qv 0) (qd qg qb)))) qb)))))) (qt m B.mo (qd (qv 0) (qd qg qb)))))
   (qj (qw (qT qZ T.b_tuple J7 (qd (zH (own:=["_law_k"]) (fr:=["_law_box_here"]) (js:=[0]) Z (Qi Z T.b_range (qd (qv 1) qb)) Z (ao Z) Z (aq Z nofun nofun nofun Z Z Z) (λ_ _ _ _=>qk (i:=0) (show List.Nodup (["_law_k","_law_box_here"]:Β)from by decide +kernel) Z (Or.inl Z) (.inr Z)) (λ_ _ _ _=>(qt m B.mo (qd (qv 1) (qd qg qb))))) qb)))))
  refine#[0,b,5,L,by lia,⋯,⋯,λr H1 r0 r1 C=>#[6,Hn,λl J=>?_]]
  have N:=HE.upd (o:= .lst [.int 1,.int 2,.int 4,.int 8,.int (1+r)]) J
  refine#[0,b,5,(N.grc C.bx).bx,by lia,⋯,⋯,λr2 g D u M=>?_]
  let#[v,S,j]:=aL (xs:=[V.int 1,.int 2,.int 4,.int 8,.int (1+r)]) D u
  let#[n,rfl,n1,n8]:∃z:Nat,v= .int (z:Int)/\1<=z/\z<=8:=by
   simp only[Jp,JE,JF]at j;rcases j with rfl|rfl|rfl|rfl|rfl
   .exact#[(1),Z,⋯,⋯]
   .exact#[(2),Z,⋯,⋯]
   .exact#[(4),Z,⋯,⋯]
   .exact#[(8),Z,⋯,⋯]
   .exact#[(1+r).toNat,by congr 1;lia,by lia,by lia]
  have e:Mj b (c+2) H g:=((C.same N).trans M).mono (by lia)
  exists l,1,HK.of (M.kp _ _ (Qu C.bx J) qc),S,2,by lia,by lia
  rw[GD];refine cJ (n:=n) (Jg (by lia:n<=8) ⋯) (λi ys g=>Mj b (c+2+i) H g/\∃d:Ε,ys=d.map V.int/\zA d) #[e,[],Z,λ_ h=>nomatch h] ?_ ?_
  .rintro i ys g hi W ⟨e,d,rfl,hk⟩
   refine#[0,b,5,e.bx,by lia,⋯,⋯,λx H3 Y O X=>#[e.trans X,d++[x],by simp,λz R=>?_]]
   rcases JD.mp R with y|y
   .exact hk z y
   .rw[Jm.mp y];exact#[Y,O]
  .rintro ys g F ⟨e,d,rfl,hk⟩ p U
   rw[Jf]at F;refine#[p,0,.inl #[HK.of qc,λt I=>?_]]
   have G:=e.same (HE.upd (o:= .lst (d.map V.int)) U)
   exact q t d _ ((G.same (HE.upd I)).mono (by lia)) (G.fresh (L.mono (by lia)) I) qc hk (by lia) (by lia)
theorem lp(a:At K mg "back_table" aQ ["table"])(T:Mq K mg tk):Df P w K mg base "back_table" ["table"] 1 (vV K):=by
 refine a.dq MD λf _ A _ s H vs Q E hr h=>?_
 .let#[c,t,rfl,D,pm,q]:=h
  exists _,(qe (qG (i:=1) MD.nd Z (Or.inl Z) (qx nE (zb (qd qg qb)) (zv (v:= .int 16) Z T.g_DIGITS #[0])))
   (qe (zo JR Z (yO Z T.b_enumerate (qd (qv 0) qb)) (QH Z (qu (qk (i:=2) MD.nd Z (Or.inl Z)) (qu (qk (i:=3) MD.nd Z (Or.inl Z)) qW)))
   (qj (zr (qv 2) (bf (qv 1) (qv 3) Q7))))
   (qj (qw (qT qZ T.b_tuple J7 (qd (qv 1) qb))))))
  refine#[Hi,λp Y=>#[p,(16),47,qc,⋯,⋯,Ht,λl R=>?_]]
  have e0:(D0 (16:Int).toNat [V.int 0]).flatten=(Zb t 0).map V.int:=by rw[y9];rfl
  rw[e0];have X:=(HE.upd (o:= .lst [V.int 0]) Y)
  have J:=X.trans (HE.upd (o:= .lst ((Zb t 0).map V.int)) R)
  have step:∀(i:Nat) (x:V) (g:Hp) (r:Δ),(t.map V.int)[i]? =↑x->g l=↑(.lst ((Zb t i).map V.int))->HE H g->g r=none->
    ∃j:Nat,∃z:Int,x= .int z/\cY ((Zb t i).map V.int).length z=↑j/\(HG g r (.tup [.int i,x])) l=↑(.lst ((Zb t i).map V.int))/\
     (HG (HG g r (.tup [.int i,x])) l (.lst (((Zb t i).map V.int).set j (.int i)))) l=↑(.lst ((Zb t (i+1)).map V.int))/\HE H (HG (HG g r (.tup [.int i,x])) l (.lst (((Zb t i).map V.int).set j (.int i)))):=by
   intro i x g r G n m u;let#[z,rfl,W]:=Q0 G;have hi:i<t.length:=(Jw.mp W).1
   have ez:t[i]=z:=(Jw.mp W).2
   have bd:=nT pm hi;have sp:=HE.upd (o:= .tup [.int i,.int z]) u
   refine#[z.toNat,z,Z,jK (by lia) (by rw[Jf,bX];lia),sp _ _ n,?_,λd o e=>?_]
   .rw[qc,cT,<- ez,xz pm hi]
   .have U:d≠l:=λy=>by
     rw[y]at e;rw[X _ _ e]at R;cases R
    rw[qh U];exact sp _ _ (m _ _ e)
  have F:∀(o:Μ) (o':Μ) (g:Hp),g l=↑(.lst ((Zb t t.length).map V.int))->HE H g->∀I,g I=none->Q (-I) (HG g I (.tup ((Zb t t.length).map V.int))):=λ_ _ g n m I N=>
   q _ _ (m.trans (HE.upd N)) (by rw[qc,CL pm])
  rcases D with D|D
  .refine#[0,c,Z,.inl #[#[_,J.seq D],?_]]
   refine im (K:=K) (a:=c) (xs:=t.map V.int) (λi σ g=>∃(B C:Μ),σ=[↑(-c),↑(-l),B,C]/\g l=↑(.lst ((Zb t i).map V.int))/\HE H g) #[none,none,Z,qc,J] (λi σ g _ ⟨_,_,_,_,m⟩=>m.seq D) ?_ ?_
   .rintro i x σ g r G ⟨B,C,rfl,n,m⟩ u
    let#[j,z,rfl,S,L,O,M]:=step i x g r G n m u;exists r,0,HP.of qc,8
    exact#[3,l,16,j,7,L,S,5,O,M]
   .rintro σ g ⟨B,C,rfl,n,m⟩
    rw[Jf]at n
    exact#[0,l,0,.inl #[HK.of n,F B C g n m]]
  .refine#[0,c,Z,.inr #[#[_,HE.sqt J D],?_]]
   refine uR (K:=K) (a:=c) (xs:=t.map V.int) (λi σ g=>∃(B C:Μ),σ=[↑(-c),↑(-l),B,C]/\g l=↑(.lst ((Zb t i).map V.int))/\HE H g) #[none,none,Z,qc,J] (λi σ g _ ⟨_,_,_,_,m⟩=>HE.sqt m D) ?_ ?_
   .rintro i x σ g r G ⟨B,C,rfl,n,m⟩ u
    let#[j,z,rfl,S,L,O,M]:=step i x g r G n m u;exists r,0,HP.of qc,8
    exact#[3,l,16,j,7,L,S,5,O,M]
   .rintro σ g ⟨B,C,rfl,n,m⟩
    rw[Jf]at n
    exact#[0,l,0,.inl #[HK.of n,F B C g n m]]
theorem xn(a:At K mg "coded" jy ["table","key","digits"])(T:Mq K mg tk):Df P w K mg base "coded" X1 1 (fN K):=by
 refine a.dq MT λf _ A _ s H vs Q E hr h=>?_
 .let#[a,b,c,t,N,ds,rfl,W,hb,R,lt,l1,X,q]:=h
  exists _,(qe (qG (i:=3) MT.nd Z (Or.inl Z) (qT ZK T.b_list IX (qd (qv 2) qb)))
   (qe (zo JR Z (wz (qv 1)) (qk (i:=4) MT.nd Z (Or.inl Z))
   (qj (zo JR Z (Qi Z T.b_range (qd (qy qN T.b_len JQ (qd (qv 2) qb)) qb)) (qk (i:=5) MT.nd Z (Or.inl Z))
   (qe (qG (i:=6) MT.nd Z (Or.inl Z) (qI qJ (qv 3) (qx Qr (qv 5) qg)))
   (qj (zr (qI (Oz.or qJ zp) (qv 0) (qx zE (qx qL (qx qL (qx qL (qI qJ (qv 3) (qv 5)) (qv 4)) (qv 5)) (qv 6)) (zv (v:= .int 16) Z T.g_DIGITS #[0]))) (bf (qv 3) (qv 5) Q7)))))))
   (qj (qw (qT qZ T.b_tuple J7 (qd (qv 3) qb))))))
  refine#[0,c,0,R,λl S=>?_]
  have Y:HE H _:=HE.upd (o:= .lst (ds.map V.int)) S
  refine#[0,b,Z,Cm (K:=K) (H0:=H) hb (λj σ G=>HE H G/\∃M g u,σ=[↑(-a),↑(-b),↑(-c),↑(-l),M,g,u]/\G l=↑(.lst ((Qz t (N.take j) ds).map V.int))) #[Y,20,qc] (λj U H' h=>h.1) ?_ ?_]
  .rintro j x σ G hx ⟨C,M,g,u,rfl,z⟩
   let#[d,rfl,L]:=Q0 hx;rw[jk L,mU];have D:(Qz t (N.take j) ds).length=ds.length:=aZ
   generalize Qz t (N.take j) ds=r at z D
   exists 0,c,0,R.same C,0,?_,?_
   .lia
   .rw[Jf];lia
   rw[show((((ds.map V.int).length:Nat):Int)).toNat=ds.length by rw[Jf];rfl]
   refine Zy (n:=ds.length) (Pv:=λi σ I=>HE H I/\∃g u,σ=[↑(-a),↑(-b),↑(-c),↑(-l),↑(.int d),g,u]/\I l=↑(.lst ((aA t d r i).map V.int))) #[C,5,z] ?_ ?_
   .rintro i σ I hi ⟨F,g,u,rfl,e⟩
    have y:(aA t d r i).length=ds.length:=by rw[QZ,D]
    generalize hr':aA t d r i=B at e y
    have m:i<B.length:=by lia
    exists 15,l,1,HK.of e,v7 (i:=i) (by lia) m
    exists 3,l,1,HK.of e,aY (i:=i) (by lia) m,19,(by decide:(0:Int)<16)
    have J:=Za (B.getD i 0+d+(0+(i:Int))+ah B i)
    refine(W.same F).ix (aY (i:=((B.getD i 0+d+(0+(i:Int))+ah B i)%16).toNat) (by have:=J.1;lia) (by rw[lt];have:=J.1;have:=J.2;lia)) ?_
    exists 2,l,16,i,7,e,jK (by lia) (by rw[Jf];exact m),ZL F S,5
    rw[qc,cT,aA,hr',jD,Ku]
   .rintro σ I ⟨F,g,u,rfl,e⟩
    exact#[F,20,e]
  .rintro σ G ⟨C,M,g,u,rfl,z⟩
   rw[Jf,J5]at z
   exact#[0,l,0,.inl #[HK.of z,λp O=>q p _ (C.trans (HE.upd O)) (ZR O C) qc]]
theorem sY(a:At K mg "decoded" eB ["table","key","digits"])(T:Mq K mg tk)(xN:Df P w K mg base "back_table" ["table"] 1 (vV K)):Df P w K mg base "decoded" X1 2 (j9 K):=by
 refine a.dq Mz λf _ A _ s H vs Q E hr h=>?_
 .let#[a,b,c,t,e,ds,rfl,ha,hb,hc,pm,U,l1,a2,q]:=h
  exists _,(qe (qG (i:=3) Mz.nd Z (Or.inl Z) (qt xN hr.mo (qd (qv 0) qb)))
   (qe (qG (i:=4) Mz.nd Z (Or.inl Z) (qT ZK T.b_list IX (qd (qv 2) qb)))
   (qe (zo JR Z (ve Z T.b_reversed (qd (qv 1) qb)) (qk (i:=5) Mz.nd Z (Or.inl Z))
   (qj (zo JR Z (ve Z T.b_reversed (qd (qT vG T.b_range PyProof.Rows.boot_range (qd (qy qN T.b_len JQ (qd (qv 2) qb)) qb)) qb)) (qk (i:=6) Mz.nd Z (Or.inl Z))
   (qe (qG (i:=7) Mz.nd Z (Or.inl Z) (qI qJ (qv 4) (qx Qr (qv 6) qg)))
   (qj (zr (qx zE (qx Qr (qx Qr (qx Qr (qI zp (qv 3) (qI qJ (qv 4) (qv 6))) (qv 5)) (qv 6)) (qv 7)) (zv (v:= .int 16) Z T.g_DIGITS #[0])) (bf (qv 4) (qv 6) Q7)))))))
   (qj (qw (qT qZ T.b_tuple J7 (qd (qv 4) qb)))))))
  refine#[0,a,t,Z,ha,pm,λpb H1 J W=>?_]
  refine#[0,c,0,hc.same J,λl hl=>?_]
  have C:HE H1 _:=HE.upd (o:= .lst (ds.map V.int)) hl
  refine#[0,b,Z,AA (K:=K) (H0:=H1) (hb.same J) (λj σ R=>HE H1 R/\∃Y B D,σ=[↑(-a),↑(-b),↑(-c),↑(-pb),↑(-l),Y,B,D]/\R l=↑(.lst ((Zq (zD t) (e.drop (e.length-j)) ds).map V.int))) #[C,20,by rw[Nat.sub_zero,List.drop_length];exact qc] (λj a1 H' h=>h.1) ?_ ?_]
  .rintro j x σ R hj hx ⟨C,Y,B,D,rfl,F⟩
   let#[d,rfl,I]:=Q0 hx;rw[Jf]at hj I;have ed:e.drop (e.length-(j+1))=d::e.drop (e.length-j):=by
    have:=vo I
    rw[show e.length-1-j+1=e.length-j by lia]at this
    rw[show e.length-(j+1)=e.length-1-j by lia]
    exact this
   rw[ed,Zq];have M:(Zq (zD t) (e.drop (e.length-j)) ds).length=ds.length:=gK
   have G:zA (Zq (zD t) (e.drop (e.length-j)) ds):=m9 U
   generalize Zq (zD t) (e.drop (e.length-j)) ds=r at F M G
   refine#[0,c,0,(hc.same J).same C,0,λpr L=>#[pr,Z,.inr (.inr #[ds.length,?_,by lia,?_])]]
   .rw[qc,Jf]
   have X:=C.trans (HE.upd (o:= .rng 0 ((ds.map V.int).length:Nat)) L)
   have a0:=HE.upd (o:= .rng 0 ((ds.map V.int).length:Nat)) L _ _ F
   refine xq (n:=ds.length) (Pv:=λi σ S=>HE H1 S/\∃B D y,σ=[↑(-a),↑(-b),↑(-c),↑(-pb),↑(-l),↑(.int d),B,D]/\S l=↑(.lst (y.map V.int))/\y.length=ds.length/\zA y/\aX (zD t) d y (ds.length-i)=aX (zD t) d r ds.length) #[X,16,r,Z,a0,M,G,Z] ?_ ?_
   .rintro i σ S hi ⟨O,B,D,y,rfl,g,z,m,N⟩
    have u:ds.length-1-i<y.length:=by lia
    have ep:(ds.length:Int)-1-i=((ds.length-1-i:Nat):Int):=by lia
    rw[ep];generalize hpl:ds.length-1-i=pl at u
    rw[show ds.length-i=pl+1 by lia,aX]at N
    exists 15,l,1,HK.of g,v7 (i:=pl) Z u
    have dr:=jB m pl;exists 3,l,1,HK.of g,aY (i:=pl) Z u,pb,1,HP.of (O _ _ W),aY (i:=(y.getD pl 0).toNat) (by have:=dr.1;lia) (by rw[bj];have:=dr.1;have:=dr.2;lia)
    exists 19,(by decide:(0:Int)<16)
    exists 2,l,16,pl,7,g,rE (by rw[Jf];exact u),ZL O hl,16,ij (zD t) d y pl,Z,?_,by rw[nA];exact z,mw m
    .rw[qc,cT,ij]
    .rw[show ds.length-(i+1)=pl by lia];exact N
   .rintro σ S ⟨O,B,D,y,rfl,g,z,m,N⟩
    rw[Kk,aX]at N;rw[N]at g
    exact#[O,20,g]
  .rintro σ R ⟨C,Y,B,D,rfl,F⟩
   rw[Jf,Kk,OF]at F
   exact#[0,l,0,.inl #[HK.of F,λp hp=>q p _ ((J.trans C).trans (HE.upd hp)) (ZR hp (J.trans C)) qc]]
theorem il(a:At K mg "letter_digits" ZI ["name"])(T:Mq K mg tk):Df P w K mg base "letter_digits" ["name"] 1 ki:=by
 refine a.dq Mb λf _ A _ s H y Q E B h=>?_
 .let#[z,rfl,r,q]:=h
  exists _,(qe (qG (i:=1) Mb.nd Z (Or.inl Z) (zb qb))
   (qe (zo JR Z (vQ (qv 0)) (qk (i:=2) Mb.nd Z (Or.inl Z))
   (qe (qG (i:=3) Mb.nd Z (Or.inl Z) (qx Qr (qy mh T.b_ord PyProof.Rows.boot_ord (qd (qv 2) qb)) (qy mh T.b_ord PyProof.Rows.boot_ord (qd qm qb))))
   (qe (zJ (Q9 GI GY GZ zY (qv 1) (qd (qx zE (qv 3) (zv (v:= .int 16) Z T.g_DIGITS #[0])) qb)))
   (qj (zJ (Q9 GI GY GZ zY (qv 1) (qd (qx Z4 (qv 3) (zv (v:= .int 16) Z T.g_DIGITS #[0])) qb)))))))
   (qj (qw (qv 1)))))
  refine#[Hh,λl g=>?_]
  refine#[0,z,Z,lJ r,BO (λi σ d=>HE H d/\∃m p,σ=[↑(.str z),↑(-l),m,p]/\d l=↑(.lst ((Zn (z.cps.toList.take i)).map V.int))) #[HE.upd g,5,qc] ?_ ?_]
  .rintro i c σ d t ⟨n,m,p,rfl,e⟩
   have o:=sC t;rw[Cu o,wW];have j:(Zn (z.cps.toList.take i)).length<=16:=by rw[kJ,JP];have:=r.2.2;lia
   generalize Zn (z.cps.toList.take i)=ds at e j
   have x:((((#[(B1 [c])]:Str).cps.getD 0 0:Nat):Int)-((("a":Str).cps.getD 0 0:Nat):Int))=(c:Int)-97:=Z
   have big:(100:Nat)<ζ:=by decide
   exists 45
   show ei _ _ _ [↑(V.str z),↑(V.ref l),↑(V.str #[(B1 [c])]),↑(V.int ((c:Int)-97))] d
   exists 0,.inl #[37,HK.of e],11,(by decide:(0:Int)<16),l,6,e,by rw[Jf];lia
   have u:HE H (HG d l (.lst (ds.map V.int++[V.int (((c:Int)-97)%16)]))):=ZL n g
   exists 0,.inl #[37,HK.of qc],11,#[⋯,⋯],l,6,qc,by rw[Jz,Jf,GV];lia,ZL u g,_,_,Z
   rw[qc,JI,Gw];rfl
  .rintro σ d ⟨n,m,p,rfl,e⟩
   rw[show z.cps.size=z.cps.toList.length from Z,J5]at e
   exact#[0,q l d n g e]
theorem vZ(a:At K mg "key_of" ii ["table","key","name"])(T:Mq K mg tk)(xC:Df P w K mg base "letter_digits" ["name"] 1 ki)(dQ:Df P w K mg base "coded" X1 1 (fN K)):Df P w K mg base "key_of" W2 2 (fJ K):=by
 refine a.dq MY λf _ A _ s H vs Q E hr h=>?_
 .let#[a,b,z,t,ks,rfl,ha,hb,X,lt,q]:=h
  exists _,(qe (qG (i:=3) MY.nd Z (Or.inl Z) (qx nE (zb (qd qg qb)) (zv (v:= .int 4) Z T.g_KEY_PLACES #[0])))
   (qe (zo JR Z (rC Z T.b_enumerate (qd (qt xC hr.mo (qd (qv 2) qb)) qb)) (QH Z (qu (qk (i:=4) MY.nd Z (Or.inl Z)) (qu (qk (i:=5) MY.nd Z (Or.inl Z)) qW)))
   (qj (C1 (qv 3) (qx zE (qv 4) (zv (v:= .int 4) Z T.g_KEY_PLACES #[0])) yu (qv 5) D7 Q7)))
   (qj (qw (qt dQ hr.mo (qd (qv 0) (qd (qv 1) (qd (zH (own:=["total"]) (fr:=[]) (js:=[]) Z (zK (qv 3)) Z (λ_ _ h=>nomatch h) Z (nH Z nofun nofun nofun) (λ_ _ _ _=>qk (i:=0) (show List.Nodup (["total"]:Β)from by decide +kernel) Z (Or.inl Z) (.inr Z)) (λ_ _ _ _=>(qx zE (qv 0) (zv (v:= .int 16) Z T.g_DIGITS #[0])))) qb))))))))
  refine#[Hi,λp0 M=>#[p0,(4),47,qc,⋯,⋯,Hm,λl hl=>?_]]
  have s1:=(HE.upd (o:= .lst [V.int 0]) M)
  have s2:=s1.trans (HE.upd (o:= .lst (D0 (4:Int).toNat [V.int 0]).flatten) hl)
  have W:H l=none:=ZR hl s1
  refine#[0,z,Z,X,λF H1 Y c g=>?_]
  have I:=Y _ _ (qc (H:=HG H p0 (.lst [V.int 0])) (a:=l) (o:= .lst (D0 (4:Int).toNat [V.int 0]).flatten))
  have U:F≠l:=λy=>by rw[y,qc]at c;cases c
  generalize hds:Zn z.cps.toList=ds at g q
  have a0:ds.length<=16:=by rw[<- hds,kJ];have:=X.2.2;lia
  refine#[F,Z,#[_,HK.of g],im (K:=K) (a:=F) (xs:=ds.map V.int) (λi σ d=>∃(O G:Μ),σ=[↑(-a),↑(-b),↑(.str z),↑(-l),O,G]/\d l=↑(.lst ((aa ds i).map V.int))/\d F=↑(.lst (ds.map V.int))/\HE H d)
   #[none,none,Z,I,g,s2.trans Y] (λi σ d _ ⟨_,_,_,_,hd,_⟩=>HK.of hd) ?_ ?_]
  .rintro i x σ d pp R ⟨O,G,rfl,n,u,m⟩ S
   let#[dg,rfl,r]:=Q0 R;have hi:i<ds.length:=(Jw.mp r).1
   have eg:ds.getD i 0=dg:=by rw[JN,r];rfl
   have j:=HE.upd (o:= .tup [.int i,.int dg]) S
   have B:=j _ _ n;have J:i%4<(aa ds i).length:=Nat.mod_lt i ⋯
   have e4:(i:Int)%4=((i%4:Nat):Int):=by lia
   exists pp,0,HP.of qc,8
   exists 15,(by decide:(0:Int)<4),l,_,i%4,.int ((aa ds i).getD (i%4) 0),Z,(by show V.int ((i:Int)%4)=_;rw[e4]),B,?_,11,l,16,i%4,7,B,jK e4 (by rw[Jf];exact J),5,?_,?_
   .rw[jJ J,JN,Ji J];rfl
   .rw[qc,cT,<- eg,wN]
   .rw[qh U];exact j _ _ u
   .exact ZL (m.trans j) W
  .rintro σ d ⟨O,G,rfl,n,u,m⟩
   rw[Jf]at n;refine#[3,l,Z,#[_,HK.of n],QK (xs:=(aa ds ds.length).map V.int) (Hm) (λi ys C=>ys=((bJ ds).take i).map V.int/\C=d) #[by simp,Z] (λi ys C ⟨_,e⟩=>by rw[e];exact HK.of n) ?_ ?_]
   .rintro i ys C x R _ ⟨rfl,rfl⟩
    let#[y,rfl,hy]:=Q0 R;refine#[11,(by decide:(0:Int)<16),?_,Z]
    have:(bJ ds)[i]? =↑(y%16):=by unfold bJ;rw[Jo,hy];rfl
    rw[Ig,this];simp
   .rintro ys C a1 ⟨rfl,rfl⟩ p hp
    rw[show(bJ ds).take ((aa ds ds.length).map V.int).length=bJ ds from Z]
    have D:=HE.upd (o:= .lst ((bJ ds).map V.int)) hp
    exact#[a,b,p,t,ks,bJ ds,Z,(ha.same m).same D,(hb.same m).same D,.lst qc,lt,by rw[nO];decide,by rw[nO];decide,λp' H' s' L N=>q p' H' ((m.trans D).trans s') (ZR L (m.trans D)) N]
theorem i9(a:At K mg "count_digits" Z6 ["count"])(T:Mq K mg tk):Df P w K mg base "count_digits" ["count"] 1 De:=by
 refine a.dq iB λf _ A _ s H g Q E e h=>?_
 .let#[c,rfl,q]:=h
  exists _,(qj (qw (qF (qd (qx zE (qv 0) (zv (v:= .int 16) Z T.g_DIGITS #[0])) (qd (qx zE (qx Z4 (qv 0) (zv (v:= .int 16) Z T.g_DIGITS #[0])) (zv (v:= .int 16) Z T.g_DIGITS #[0])) (qd (qx Z4 (qv 0) qg) qb))))))
  exact#[11,(by decide:(0:Int)<16),11,#[⋯,⋯],6,(by decide:(0:Int)<16),11,#[⋯,⋯],Hl,λp d=>q p _ (HE.upd d) qc]
theorem rK{c d:Int}(a:0<=c)(h1:c<4096)(hd:bB d):∀z∈zO c d,0<=z/\z<=1000000:=λz e=>by
 have:=hW a h1 hd z (GB _ e)
 exact#[this.1,Iv (KC this.2) ⋯]
theorem oY(a:At K mg "press_of" cB ["table","key","name","age","count","deed"])(T:Mq K mg tk)(xJ:Df P w K mg base "count_digits" ["count"] 1 De)(dM:Df P w K mg base "key_of" W2 2 (fJ K))(dQ:Df P w K mg base "coded" X1 1 (fN K)):Df P w K mg base "press_of" W1 3 (rc K):=by
 refine a.dq MU λf _ A _ s H vs Q E m h=>?_
 .let#[a,b,z,age,c,d,t,G,rfl,I,hb,S,lt,O,c1,hd,q]:=h
  exists _,(qe (qG (i:=6) MU.nd Z (Or.inl Z) (qx bV (qt xJ m.mo (qd (qv 4) qb)) (qF (qd (qv 5) qb))))
   (qe (qG (i:=7) MU.nd Z (Or.inl Z) (qx bV (qv 6) (qF (qd (qx zE (qy (jQ Z) T.b_sum PyProof.Rows.boot_sum (qd (qv 6) qb)) (zv (v:= .int 16) Z T.g_DIGITS #[0])) qb))))
   (qj (qw (qF (qd (qv 2) (qd (qv 3) (qd (qt dQ m.mo (qd (qv 0) (qd (qt dM m.mo (qd (qv 0) (qd (qv 1) (qd (qv 2) qb)))) (qd (qv 7) qb)))) qb))))))))
  refine#[0,c,Z,λp1 H1 s1 u=>?_]
  refine#[0,Hi,λp2 n=>?_]
  have N:=HE.upd (o:= .tup [V.int d]) n
  refine#[p1,p2,6,N _ _ u,qc,Hm,λB Y U C=>?_]
  have e:Y B=↑(.tup ((zO c d).map V.int)):=C
  have S3:=(s1.trans N).trans U;refine#[2,B,zO c d,Z,.tup e,by show 4<=1000;decide,rK O c1 hd,6,(by decide:(0:Int)<16),Hi,λR l=>?_]
  have J:=HE.upd (o:= .tup [V.int ((zO c d).sum%16)]) l
  refine#[B,R,6,J _ _ e,qc,Hn,λM X s5 r=>?_]
  have g:X M=↑(.tup ((aI c d).map V.int)):=r
  have j:=(S3.trans J).trans s5;refine#[46,a,b,z,t,G,Z,I.same j,hb.same j,S,lt,λpk H6 x _ y=>?_]
  refine#[0,a,pk,M,t,bQ t G z,aI c d,Z,(I.same j).same x,.tup y,.tup (x _ _ g),lt,by rw[cy];decide,by rw[cy];decide,λL H7 s7 _ D=>?_]
  refine#[Hl,λp W=>?_]
  have F:=HE.upd (o:= .tup [V.str z,.int age,-L]) W
  exact q p L _ (((j.trans x).trans s7).trans F) qc (F _ _ D)
theorem kY(a:At K mg "read_press" aO ["table","key","press"])(T:Mq K mg tk)(U:Df P w K mg base "key_of" W2 2 (fJ K))(J:Df P w K mg base "decoded" X1 2 (j9 K)):Df P w K mg base "read_press" W7 3 (nX K):=by
 refine a.dq HV λf _ A _ s H vs Q E D h=>?_
 .let#[a,b,L,Y,z,age,t,l,ds,rfl,B,X,r,u,I,pm,G,m,q]:=h
  exists _,(qe (zr (qv 2) (af Z (qu (qk (i:=3) HV.nd Z (Or.inl Z)) (qu (qk (i:=4) HV.nd Z (Or.inl Z)) (qu (qk (i:=5) HV.nd Z (Or.inl Z)) qW)))))
   (qe (zr (qt J D.mo (qd (qv 0) (qd (qt U D.mo (qd (qv 0) (qd (qv 1) (qd (qv 3) qb)))) (qd (qv 5) qb)))) (QH Z (qu (qk (i:=6) HV.nd Z (Or.inl Z)) (qu (qk (i:=7) HV.nd Z (Or.inl Z)) (qu (qk (i:=8) HV.nd Z (Or.inl Z)) (qu (qk (i:=9) HV.nd Z (Or.inl Z)) (qu (qk (i:=10) HV.nd Z (Or.inl Z)) qW)))))))
   (qe (qM (qA iz (qv 10) (qx zE (qx qL (qx qL (qx qL (qv 6) (qv 7)) (qv 8)) (qv 9)) (zv (v:= .int 16) Z T.g_DIGITS #[0])) (qz _)) (qj (qw zk)) qH)
   (qj (qw (qF (qd (qx qL (qx qL (qv 6) (qx Zj (qv 7) (zv (v:= .int 16) Z T.g_DIGITS #[0]))) (qx Zj (qv 8) qg)) (qd (qv 9) qb))))))))
  exists 0,L,0,r,9
  refine#[10,a,b,z,t,l,Z,B,X,I,jw pm,λR H1 o _ n=>?_]
  refine#[0,a,R,Y,t,bQ t l z,ds,Z,B.same o,.tup n,u.same o,pm,m,by lia,by lia,λpd C O _ g=>?_]
  have F:∀x H',HE C H'->eV H' x (jc (Zq (zD t) (bQ t l z) ds))->Q x H':=λx H' s' M=>q x H' ((o.trans O).trans s') M
  have W:(Zq (zD t) (bQ t l z) ds).length=5:=by rw[gK,G]
  let#[lo,mi,hi,d,j,er]:=CT W;rw[er]at g F;exists pd,0,HP.of g,13
  exists 27,(by decide:(0:Int)<16),17
  have q2:∀x H',HE C H'->eV H' x (if j=(lo+mi+hi+d)%16 then ↑(lo+mi*16+hi*256,d)else none)->Q x H':=F
  by_cases e:j=(lo+mi+hi+d)%16
  .rw[Jc e]at q2
   refine fD (c:=V.int j=V.int ((lo+mi+hi+d)%16)) (by rw[e]) ?_
   refine#[15,.inr #[⋯,⋯],34,.inr #[⋯,⋯],23,Hj,λp N=>?_]
   exact q2 _ _ (HE.upd N) #[p,Z,qc]
  .rw[Jb e]at q2
   refine qQ (λ_=>q2 _ _ (HE.refl _) Z) (λy=>absurd ?_ y)
   have:¬V.int j=V.int ((lo+mi+hi+d)%16):=λS=>e (by injection S)
   show(! decide (V.int j=V.int ((lo+mi+hi+d)%16)))=true
   rw[Jl this];rfl
inductive O6 (n:Nat)(vs:Α)(H:Hp)(Q:VK):Prop
 |mk (x y:V)(h1:vs=[x,y])(h2:(∃i:Int,0<n/\x= .int i/\y= .int i)\/(0<n/\x= .non/\y= .non)\/∃(c d:Δ)(ns:Ε),1<n/\x= .ref c/\y= .ref d/\H c=↑(.tup (ns.map V.int))/\H d=↑(.tup (ns.map V.int))/\ns.length<=ζ)(h3:∀H',HE H H'->Q (.bl true) H')
noncomputable def C7(n:Nat):Sp:=λa H Q _=>O6 n a H Q
theorem gn(a:At K mg "_law_same" cx ["_law_found","_law_due_here"])(T:Mq K mg tk):∀n:Nat,n<=8->Df P w K mg base "_law_same" ["_law_found","_law_due_here"] (n+1) (C7 n)
 |0,_=>by
  refine a.dq gq λf _ A _ s H N Q E G h=>?_
  .let#[_,_,rfl,h,_]:=h
   rcases h with⟨_,h,_⟩|⟨h,_⟩|⟨_,_,_,h,_⟩<;>lia
 |n+1,hn=>by
  have S:=gn a T n (by lia)
  refine a.dq gq λf _ A _ s H N Q E G h=>?_
  .let#[x,y,rfl,h,q]:=h
   exists _,(qe (qM (Qa (qy uM T.b_isinstance J8 (qd (qv 1) (qd (qF (qd (zL (v:= .ty "list") Z T.b_list IX Z) (qd (zL (v:= .ty "tuple") Z T.b_tuple J7 Z) qb))) qb)))) (qe (qM (QW.pt (ZG (qA iz (qy zM T.b_isinstance J8 (qd (qv 0) (qd (zL (v:= .ty "list") Z T.b_list IX Z) qb))) (qy zM T.b_isinstance J8 (qd (qv 1) (qd (zL (v:= .ty "list") Z T.b_list IX Z) qb))) (qz _)) (ZA (qA iz (qy zM T.b_isinstance J8 (qd (qv 0) (qd (zL (v:= .ty "tuple") Z T.b_tuple J7 Z) qb))) (qy zM T.b_isinstance J8 (qd (qv 1) (qd (zL (v:= .ty "tuple") Z T.b_tuple J7 Z) qb))) (qz _))))) (qj (qw cr)) qH)
   (qj (qw (Q4 (Qn zy (qy qN T.b_len JQ (qd (qv 0) qb)) (qy qN T.b_len JQ (qd (qv 1) qb)) (qz _)) (ZJ (qy (fe Z) T.b_all LY (qd (zH (own:=["_law_one","_law_other"]) (fr:=[]) (js:=[]) Z (DB Z T.b_zip (qd (qv 0) (qd (qv 1) qb))) Z (λ_ _ h=>nomatch h) Z (nH Z nofun nofun nofun) (λ_ _ _ _=>rP (K:=K) Z 2 Z (qu (qk (i:=0) (show List.Nodup (["_law_one","_law_other"]:Β)from by decide +kernel) Z (Or.inl Z) (.inr Z)) (qu (qk (i:=1) (show List.Nodup (["_law_one","_law_other"]:Β)from by decide +kernel) Z (Or.inl Z) (.inr Z)) qW))) (λ_ _ _ _=>(qt S G.mo (qd (qv 0) (qd (qv 1) qb))))) qb))))))) qH)
   (qe (qM (QW.pt (ZG (qA am (qv 1) zk (qz _)) (ZA (Qa (qy zM T.b_isinstance J8 (qd (qv 1) (qd (zL (v:= .ty "str") Z T.b_str LJ Z) qb))))))) (qj (qw (Q4 (Qn zy (qv 0) (qv 1) (qz _)) (ZJ (Qn zy (qy zM T.b_isinstance J8 (qd (qv 0) (qd (zL (v:= .ty "str") Z T.b_str LJ Z) qb))) (qy zM T.b_isinstance J8 (qd (qv 1) (qd (zL (v:= .ty "str") Z T.b_str LJ Z) qb))) (qz _)))))) qH)
   (qj (qw (Q4 (qy zM T.b_isinstance J8 (qd (qv 0) (qd (zL (v:= .ty "int") Z T.b_int LX Z) qb))) (Q4 (uN (qy zM T.b_isinstance J8 (qd (qv 0) (qd (zL (v:= .ty "bool") Z T.b_bool PyProof.Rows.boot_bool Z) qb)))) (ZJ (Qn zy (qv 0) (qv 1) (qz _)))))))))
   rcases h with⟨i,_,rfl,rfl⟩|⟨_,rfl,rfl⟩|⟨c,d,ns,X,rfl,rfl,h1,F,O⟩
   .refine#[0,Hj,λp e=>#[_,p,["list","tuple"],"int",Z,qc,.int i,by simp,0,?_]]
    rw[show(["list","tuple"].any (QD "int"))=false from by decide]
    refine zS #[4,?_]
    refine qQ (λz=>nomatch (JA z)) (λ_=>#[26,"str","int",Z,.int i,by simp,0,?_])
    rw[show QD "int" "str"=false from by decide]
    refine zS #[26,"int","int",Z,.int i,by simp,0,?_]
    rw[show QD "int" "int"=true from by decide]
    refine Ql #[26,"bool","int",Z,.int i,by simp,0,?_]
    rw[show QD "int" "bool"=false from by decide]
    refine#[0,Ql #[_,Z,_,Z,Z,?_]]
    rw[Jj Z];exact q _ (HE.upd e)
   .refine#[0,Hj,λp e=>#[_,p,["list","tuple"],"NoneType",Z,qc,.non,by simp,0,?_]]
    rw[show(["list","tuple"].any (QD "NoneType"))=false from by decide]
    refine zS #[4,?_]
    refine qQ (λ_=>#[_,Z,_,Z,Z,_,Z,?_]) (λz=>absurd (Jj Z) z)
    refine qQ (λ_=>?_) (λy=>absurd (Jj Z) y)
    exists 26,"str","NoneType",Z,.non,by simp,26,"str","NoneType",Z,.non,by simp,Z
    rw[Jj Z];exact q _ (HE.upd e)
   .refine#[0,Hj,λp e=>#[_,p,["list","tuple"],"tuple",Z,qc,.tup (.inl (HE.upd e _ _ F)),by simp,0,?_]]
    rw[show(["list","tuple"].any (QD "tuple"))=true from by decide]
    have B:HE H _:=HE.upd (o:= .tup (["list","tuple"].map V.ty)) e
    have I:∀{H'},HE H H'->Rd H' c (.tup (ns.map V.int)):=λs=> .inl (s _ _ h1)
    have J:∀{H'},HE H H'->Rd H' d (.tup (ns.map V.int)):=λs=> .inl (s _ _ F)
    have j:=I B;have r:=J B;refine Ql #[26,"list","tuple",Z,.tup j,by simp,26,"list","tuple",Z,.tup r,by simp,17,?_]
    refine fD Z #[26,"tuple","tuple",Z,.tup j,by simp,26,"tuple","tuple",Z,.tup r,by simp,17,?_]
    refine fD Z ?_
    exists 0,c,0,.inr (.inl j),0,d,0,.inr (.inl r),17
    refine qQ (λ_=>?_) (λz=>absurd (Jj Z) z)
    refine#[2,c,d,5,j,r,yZ Z (by rw[Jf];exact O) (λi m l=>m=(D0 i true).map V.bl/\HE H l) #[Z,B] (λi m l ⟨_,g⟩=>#[I g,J g]) ?_ ?_]
    .rintro i m l Y x y L D u ⟨rfl,g⟩ C
     have R:=g.trans (HE.upd (o:= .tup [x,y]) C)
     rw[Jo]at L D;let#[z,U,rfl]:=Ij.mp L;rw[U]at D;cases D;refine#[_,Z,_,Z,_,_,Z,.inl #[z,by lia,7],λW M=>#[?_,R.trans M]]
     rw[List.replicate_succ',JI];rfl
    .rintro m l u ⟨rfl,g⟩ p2 t
     exists p2,0,HK.of qc
     rw[show(D0 (ns.map V.int).length true).all id=true from by simp]
     exact q _ (g.trans (HE.upd t))
theorem kZ(a:At K mg "_law_answer" a9 ["_law_world_here","_law_known","_law_spec"])(T:Mq K mg tk):Df P w K mg base "_law_answer" X9 1 (i5 K):=by
 refine a.dq HZ λf _ A _ s H vs Q E C h=>?_
 .let#[wa,kd,sp,D,ns,kn,#[nm,age,c,d,l],rfl,wk,M,W,hl,b7,hs,u,q]:=h
  exists _,(qe (zr (qv 2) (QH Z (qu (qk (i:=3) HZ.nd Z (Or.inl Z)) (qu (qk (i:=4) HZ.nd Z (Or.inl Z)) (qu (qk (i:=5) HZ.nd Z (Or.inl Z)) (qu (qk (i:=6) HZ.nd Z (Or.inl Z)) (qu (qk (i:=7) HZ.nd Z (Or.inl Z)) qW)))))))
   (qe (qM (vn C (qv 3) (qv 1)) (qj (qw (qF (qd qm (qd qm qb))))) qH)
   (qe (qM (QW.pt (ZG (qA fE (qv 7) qg (qz _)) (ZG (qA fw (qv 4) (qC C (qv 0) qm) (qz _)) (ZA (qA fw (qv 4) (qI qJ (qC C (qv 1) (qv 3)) qg) (qz _)))))) (qj (qw (qF (qd qm (qd qm qb))))) qH)
   (qe (qM (qA zy (qv 7) qg (qz _)) (qj (qw (qF (qd qm (qd qm qb))))) qH)
   (qe (qG (i:=8) HZ.nd Z (Or.inl Z) (qI qJ (qC C (qv 1) (qv 3)) qg))
   (qe (qM (qA bh (qv 5) (qv 8) (qz _)) (qj (qw (qF (qd qm (qd qm qb))))) qH)
   (qe (qM (qA fE (qv 5) (qx qL (qv 8) (qC C (qv 0) qm)) (qz _)) (qj (qw (qF (qd qm (qd qm qb))))) qH)
   (qe (qM (QW.pt (aW (qA fE (qv 5) (qx qL (qv 8) (qC C (qv 0) qm)) (qz _)) (aN (qA (Dx C) (qI qJ (qC C (qv 1) (qv 3)) qg) (qF (qd (qv 4) (qd (qx Qr (qv 5) qg) qb))) (qz _))))) (qe (Qx C (qv 1) (qv 3) (zb (qd (qI qJ (qC C (qv 1) (qv 3)) qg) (qd (qv 8) (qd (qF (qd (qv 4) (qd (qv 5) qb))) qb)))))
   (qj (qw (qF (qd qm (qd qm qb)))))) qH)
   (qe (Qx C (qv 1) (qv 3) (zb (qd (qv 4) (qd (qv 5) (qd zk qb)))))
   (qj (qw (qF (qd qm (qd (qv 3) (qd (qv 6) qb)))))))))))))))
  have a6:Nd {D with kn:=kn}:=by
   let#[_,_,_,pm,nd]:=W
   exact#[M.ok.tp,M.ok.l0,M.ok.kl,hl,nd]
  have t:qX {D with kn:=kn} (zg D #[nm,age,c,d,l])=q8 {D with kn:=kn} nm (zB D #[nm,age,c,d,l]) (if l=0 then ↑(c,d)else if l=1 then none else Qj D.t (zN D (zB D #[nm,age,c,d,l])) nm (Qz D.t (bQ D.t (zN D age) nm) (QX #[nm,age,c,d,l]))):=yx (D:={D with kn:=kn}) (s:=#[nm,age,c,d,l]) #[u.nm,u.a0,u.a1,u.c0,u.c1,u.dg,u.f0,u.f1] a6 M.k1
  have f0:0<=l:=u.f0
  have f3:l<=3:=u.f1
  have a0:0<=age:=u.a0
  have a1:age<D.kss.length:=u.a1
  exists 0,sp,0,HP.of hs,13
  have n:∀(z:Str),qX {D with kn:=kn} (zg D #[nm,age,c,d,l])=([.str "held",.str z],kn)->∀q1,H q1=none->Q (-q1) (HG H q1 (.tup [.str "held",.str z])):=λz eJ q1 j=>by
   rw[eJ]at q;exact q q1 _ (HE.upd j).mv qc (Me.same W (HE.upd j))
  rcases W.get nm with⟨J,g⟩|⟨e,x,J,g,v,hx,hw⟩
  .refine#[2,kd,0,g,0,Ql ?_]
   refine#[Hj,λq1 j=>n _ ?_ q1 j]
   rw[t];unfold q8;simp only;rw[J]
  .refine#[2,kd,0,g,0,zS ?_]
   have a4:∀r,zn {D with kn:=kn} e (zB D #[nm,age,c,d,l])=false->q8 {D with kn:=kn} nm (zB D #[nm,age,c,d,l]) r=([.str "held",.str "age"],kn):=λr m=>by
    unfold q8;simp only;rw[J];simp only;rw[m];rfl
   have L:l<=1->zB D #[nm,age,c,d,l]=age:=λh=>by unfold zB;rw[Jc h]
   refine rV (λbb H'=>H'=H/\bb=(decide (l>1)||(decide (age<D.least)||decide (age<e.age)))) (λQ' X=>?_) (λH' ⟨eH,m⟩=>?_) (λH' ⟨eH,m⟩=>?_)
   .exists 22
    refine qQ (λy=>X _ _ #[Z,by rw[y];rfl]) (λy=>?_)
    exists 2,wa.m,0,wk.g_shut,23
    refine qQ (λz=>X _ _ #[Z,by rw[IC.mpr y,z];rfl]) (λz=>?_)
    exact#[3,kd,0,g,x,1,HK.of hx,28,X _ _ #[Z,by rw[IC.mpr y,IC.mpr z];rfl]]
   .subst eH
    refine#[Hj,λq1 j=>n _ ?_ q1 j]
    rw[t];refine a4 _ ?_
    by_cases hf:l>1
    .unfold zn
     rw[show zX {D with kn:=kn} (zB D #[nm,age,c,d,l])=zX D (zB D #[nm,age,c,d,l])from Z,Cg u hf M.ok.kl M.k1 M.ok.l0];rfl
    .rw[L (by lia)]
     rw[Jl hf,RI]at m;unfold zn zX;rcases Bool.or_eq_true_iff.mp m.symm with h|h
     .rw[Jl (show¬D.least<=age by have:=JA h;lia)];rfl
     .rw[Jl (show¬e.age<=age by have:=JA h;lia),Bool.and_false]
   .subst eH
    have m:=m.symm;rw[RK,RK]at m;have g1:=of_decide_eq_false m.1;have g2:=of_decide_eq_false m.2.1;have g3:=of_decide_eq_false m.2.2;have eb:=L (by lia)
    rw[eb]at t;have tb:zn {D with kn:=kn} e age=true:=by unfold zn zX;rw[Jj (show D.least<=age by lia),Jj (show age<D.kss.length from a1),Jj (by lia:e.age<=age)];rfl
    exists 4
    by_cases O:l=1
    .refine Qf (Jj (by rw[O])) ?_
     refine#[Hj,λq1 j=>n _ ?_ q1 j]
     rw[t,Jb (show¬l=0 by lia),Jc O];unfold q8;simp only;rw[J];simp only;rw[Jc tb]
    .have b3:l=0:=by lia
     refine Qk (Jl (by intro z;injection z with z;exact O z)) ?_
     rw[Jc b3]at t;have p:qX {D with kn:=kn} (zg D #[nm,age,c,d,l])=if(zh D.near D.far e age c).1="near" then([.str "open",.str nm,.int d],qP kn nm (zh D.near D.far e age c).2)else([.str "held",.str (zh D.near D.far e age c).1],qP kn nm (zh D.near D.far e age c).2):=by rw[t];unfold q8;simp only;rw[J];simp only;rw[Jc tb]
     have F:=uA a6.nd J;have a5:¬(("old":Str)="near"):=by decide +kernel
     have a3:¬(("far":Str)="near"):=by decide +kernel
     have b0:¬(("beyond":Str)="near"):=by decide +kernel
     have nf:=M.nf;unfold zh at p;exists 2,kd,0,g,x,1,HK.of hx,Z
     exists 25
     by_cases h1:c<=e.last
     .rw[Jc h1,Jb (show¬(("old",e):Str×Kb).1="near" from a5),F]at p
      exact Qf (Jj h1) #[Hj,λq1 j=>n _ p q1 j]
     .rw[Jb h1]at p
      refine Qk (Jl h1) ?_
      exists 3,wa.m,0,wk.g_far,35
      by_cases h2:c>e.last+D.far
      .rw[Jb (show¬c<=e.last+D.near by lia),Jb (show¬c<=e.last+D.far by lia),Jb (show¬(("beyond",e):Str×Kb).1="near" from b0),F]at p
       exact Qf (Jj h2) #[Hj,λq1 j=>n _ p q1 j]
      .refine Qk (Jl h2) ?_
       have R:∀H1,HE H' H1->qX {D with kn:=kn} (zg D #[nm,age,c,d,l])=([.str "open",.str nm,.int d],qP kn nm #[age,c,none])->∀I,H1 I=none->∃G,M0 (HG H1 I (.lst [.int age,.int c,.non])) kd (.str nm) (-I) G/\∀q1,G q1=none->Q (-q1) (HG G q1 (.tup [.str "open",.str nm,.int d])):=λH1 N eJ I B=>by
        have Y:=HE.upd (o:= .lst [.int age,.int c,.non]) B
        let#[G,dp,m3,U]:=Me.put (Me.same (Me.same W N) Y) nm (a:=I) (e:=#[age,c,none]) (by lia) #[.non,qc,Z]
        refine#[G,dp,λq1 j=>?_]
        rw[eJ]at q;exact q q1 _ (((N.trans Y).mv.trans m3).trans (HE.upd j).mv) qc (Me.same U (HE.upd j))
       refine rV (λbb Hx=>HE H' Hx/\bb=(decide (c>e.last+D.near)&& ! decide (e.wt=↑(age,c-1)))) (λQ' X=>?_) (λH1 ⟨N,m⟩=>?_) (λH1 ⟨N,m⟩=>?_)
       .exists 3,wa.m,0,wk.g_near,35
        refine qQ (λy=>?_) (λy=>X _ _ #[HE.refl _,by rw[IC.mpr y];rfl])
        refine#[2,kd,0,g,x,1,HK.of hx,52,Hj,λt0 b4=>?_]
        have u0:=HE.upd (o:= .tup [.int age,.int (c-1)]) b4
        have b2:=hw.mv (S:=[]) u0.mv (λc h=>nomatch h)
        exact#[e.wt,t0,age,c-1,b2,Z,.inl qc,0,X _ _ #[u0,by rw[y];rfl]]
       .have m:=m.symm
        rw[Bool.and_eq_true_iff]at m;have h3:=JA m.1;have h4:¬e.wt=↑(age,c-1):=λz=>by have:=m.2;rw[Jj z]at this;cases this
        rw[Jb (show¬c<=e.last+D.near by lia),Jc (show c<=e.last+D.far by lia),Jb h4,Jb (show¬(("far",_):Str×Kb).1="near" from a3)]at p
        let#[e',x',a2,g',v',b5,b6]:=((Me.same W N).get nm).resolve_left (λz=>by rw[J]at z;cases z.1)
        rw[J]at a2;cases a2
        refine#[2,kd,0,g',x',1,HK.of b5,Z,_,Z,_,Z,_,Z,Hj,λt1 b1=>?_]
        have u1:=HE.upd (o:= .tup [.int age,.int c]) b1
        refine#[Hl,λI B=>?_]
        have Y:=HE.upd (o:= .lst [.int e.age,.int e.last,-t1]) B
        let#[G,dp,m3,U]:=Me.put (Me.same (Me.same (Me.same W N) u1) Y) nm (a:=I) (e:=#[e.age,e.last,↑(age,c)]) (by lia) #[-t1,qc,t1,Z,Y _ _ qc]
        exists 2,kd,G,Z,dp
        refine#[Hj,λq1 j=>?_]
        rw[p]at q;exact q q1 _ (((N.trans (u1.trans Y)).mv.trans m3).trans (HE.upd j).mv) qc (Me.same U (HE.upd j))
       .have eJ:qX {D with kn:=kn} (zg D #[nm,age,c,d,l])=([.str "open",.str nm,.int d],qP kn nm #[age,c,none]):=by
         have m:=m.symm;rw[OL]at m;rcases m with h|h
         .have h:=of_decide_eq_false h
          rw[Jc (show c<=e.last+D.near by lia),Jc Z]at p
          exact p
         .have h:e.wt=↑(age,c-1):=JA (by cases z:decide (e.wt=↑(age,c-1))with|true=>rfl|false=>rw[z]at h;cases h)
          by_cases h3:c<=e.last+D.near
          .rw[Jc h3,Jc Z]at p;exact p
          .rw[Jb h3,Jc (show c<=e.last+D.far by lia),Jc h,Jc Z]at p;exact p
        refine#[2,Hl,λI B=>?_]
        let#[G,dp,q3]:=R H1 N eJ I B
        exact#[2,kd,G,Z,dp,2,Hl,λq1 j=>q3 q1 j]
theorem oK(a:At K mg "_law_copy" cp ["_law_known"])(T:Mq K mg tk):Df P w K mg base "_law_copy" ["_law_known"] 1 mJ:=by
 refine a.dq oQ λf _ A _ s H vs Q E hr h=>?_
 .let#[kd,kn,rfl,b,hl,q]:=h
  let#[m,F,a4,G,a2]:=id b;exists _,(qj (qw (qT (ci Z) T.b_dict PyProof.Rows.boot_dict (qd (CJ (zH (own:=["_law_name"]) (fr:=["_law_known"]) (js:=[0]) Z (CD (qv 0)) Z (ao Z) Z (aq Z nofun nofun nofun Z Z Z) (λ_ _ _ _=>qk (i:=0) (show List.Nodup (["_law_name","_law_known"]:Β)from by decide +kernel) Z (Or.inl Z) (.inr Z)) (λ_ _ _ _=>(qF (qd (qv 0) (qd (qT (lj (K:=K) Z) T.b_list IX (qd (qC hr (qv 1) (qv 0)) qb)) qb)))))) qb))))
  refine#[0,kd,0,F,λob=>?_]
  have b5:m.1.length<=60:=by rw[G.length_eq];exact hl
  have W:(m.1.map (·.1)).Nodup:=(G.map (·.1)).nodup_iff.mpr a2
  have b4:((Qg m.1 m.2).map (·.1)).Nodup:=by
   unfold Qg;rw[GH];exact List.Pairwise.map (l:=m.1) _ (λx y (h:x.1≠y.1) z=>h (by injection z)) (OP.mp W)
  refine vY (by unfold Qg;rw[Jf,Jt];lia) (λi ys D=>HE (HG H kd (.frz ob (.dK (Qg m.1 m.2)))) D/\∃n R:Ι,ys=n.map V.ref/\n.length=i/\R.length=i/\∀(j:Nat) (x l:Δ) (e:Str×Kb),n[j]? =↑x->R[j]? =↑l->m.1[j]? =↑e->D x=↑(.tup [.str e.1,-l])/\MQ D l e.2) #[HE.refl _,[],[],40,λj x l e h=>by(cases h)] (λi ys D ⟨I,_⟩=>I _ _ qc) ?_ ?_
  .rintro i ys D kv C b1 ⟨I,n,R,rfl,B,J,has⟩
   let#[e,he,rfl]:∃e,m.1[i]? =↑e/\kv=(Sum.inr e.1,V.ref (m.2 e.1)):=by
    unfold Qg at C;rw[Jo]at C;cases z:m.1[i]? with
    |none=>rw[z]at C;cases C
    |some e=>rw[z]at C;cases C;exact#[e,7]
   have a1:=a4 e (G.mem_iff.mp (Jy he));let#[v,hv,hw]:=MQ.same I (a1.mv (Mv.upd1 (o:= .frz ob (.dK (Qg m.1 m.2)))) (NT.one F trivial) (qK (a1.ned F)))
   refine#[3,kd,0,.inl #[_,Sum.inr e.1,.inr #[ob,I _ _ qc],Z,(bT i C b4).symm],5,.inl (HK.of hv),λl N=>?_]
   have u5:=HE.upd (o:= .lst [.int e.2.age,.int e.2.last,v]) N
   refine#[Hj,λt ht=>?_]
   have u6:=HE.upd (o:= .tup [.str e.1,-l]) ht
   have S6:=u5.trans u6;refine#[I.trans S6,n++[t],R++[l],by simp,by simp [B],by simp [J],λj x l' e' hj O X=>?_]
   by_cases b0:j<n.length
   .rw[Io b0]at hj
    rw[Io (by lia)]at O
    let#[h1,h2]:=has j x l' e' hj O X
    exact#[S6 _ _ h1,h2.same S6]
   .have a0:=(Jw.mp hj).1
    rw[Jz]at a0;have a5:j=n.length:=by have:j<n.length+1:=a0;lia
    subst a5;rw[GU (Jd _),Kk]at hj;rw[GU (by lia),show n.length-R.length=0 by lia]at O
    rw[B,he]at X;cases hj;cases O;cases X
    exact#[qc,v,u6 _ _ qc,hw.mv (S:=[]) S6.mv (λc h=>nomatch h)]
  .rintro ys D b6 ⟨I,n,R,rfl,B,J,has⟩ l N
   have L:=HE.upd (o:= .lst (n.map V.ref)) N
   have b3:l≠kd:=(qr (I _ _ qc) N).symm
   exists kd,ob,_,L _ _ (I _ _ qc),(λo u z=>by have z':H kd=_:=z;rw[F]at z';cases z')
   have S5:=v9 F (I.trans L);have a6:(Qg m.1 m.2).length=m.1.length:=Jf _
   rw[a6]at B J;let#[g,hg]:=uE m.1 R W;have m5:Mv [kd] (HG D l (.lst (n.map V.ref))) (HG (HG D l (.lst (n.map V.ref))) kd (.dK (Qg m.1 m.2))):=Mv.upd1
   have U:=L _ _ (I _ _ (qc (H:=H) (a:=kd) (o:= .frz ob (.dK (Qg m.1 m.2)))))
   have Y:∀(i:Nat) (x:Δ) (e:Str×Kb),n[i]? =↑x->m.1[i]? =↑e->(HG (HG D l (.lst (n.map V.ref))) kd (.dK (Qg m.1 m.2))) x=↑(.tup [.str e.1,.ref (g e.1)])/\MQ (HG (HG D l (.lst (n.map V.ref))) kd (.dK (Qg m.1 m.2))) (g e.1) e.2:=λi x e e1 M=>by
    have hi:i<R.length:=by rw[J,<- B];exact(Jw.mp e1).1
    have e3:=Ji hi;let#[h1,h2]:=has i x _ e e1 e3 M;rw[hg i e _ M e3];let#[v,hv,hw]:=h2;exists m5 _ _ (qK (qD (L _ _ h1) U (by intro z;cases z))) (L _ _ h1),v,m5 _ _ (qK (qD (L _ _ hv) U (by intro z;cases z))) (L _ _ hv)
    cases hwt:e.2.wt with
    |none=>rw[hwt]at hw;exact hw
    |some c=>
     rw[hwt]at hw;let#[p,r,h]:=hw
     exact#[p,r,m5 _ _ (qK (qD (L _ _ h) U (by intro z;cases z))) (L _ _ h)]
   have a3:(HG (HG D l (.lst (n.map V.ref))) kd (.dK (Qg m.1 m.2))) l=↑(.lst (n.map V.ref)):=by rw[qh b3];exact qc
   generalize HG (HG D l (.lst (n.map V.ref))) kd (.dK (Qg m.1 m.2))=H5 at S5 Y a3⊢
   refine#[l,n,Qg m.1 g,Z,a3,by unfold Qg;rw[B,Jf],λi x kv e1 M=>?_,λd hd=>?_]
   .unfold Qg at M
    rw[Jo]at M;cases z:m.1[i]? with
    |none=>rw[z]at M;cases M
    |some e=>rw[z]at M;cases M;exact(Y i x e e1 z).1
   .rw[xa W]
    have u6:=HE.upd (o:= .dK (Qg m.1 g)) hd
    refine q d _ (S5.trans u6) (ZR hd S5) #[(m.1,g),qc,λe he=>?_,G,a2]
    let#[i,hi]:=K6 (G.mem_iff.mpr he)
    have b2:i<n.length:=by rw[B];exact(Jw.mp hi).1
    exact((Y i _ e (Ji b2) hi).2).same u6
theorem nh(a:At K mg "_law_press" bF ["_law_world_here","_law_spec"])(T:Mq K mg tk)(xZ:Df P w K mg base "press_of" W1 3 (rc K))(dM:Df P w K mg base "key_of" W2 2 (fJ K))(dQ:Df P w K mg base "coded" X1 1 (fN K)):Df P w K mg base "_law_press" X2 4 (bp K):=by
 refine a.dq HW λf _ A _ s H vs Q E n h=>?_
 .let#[g,sp,D,ns,#[nm,age,c,d,e],rfl,u,tp,hs,r,q]:=h
  exists _,(qe (zr (qv 1) (QH Z (qu (qk (i:=2) HW.nd Z (Or.inl Z)) (qu (qk (i:=3) HW.nd Z (Or.inl Z)) (qu (qk (i:=4) HW.nd Z (Or.inl Z)) (qu (qk (i:=5) HW.nd Z (Or.inl Z)) (qu (qk (i:=6) HW.nd Z (Or.inl Z)) qW)))))))
   (qe (qG (i:=7) HW.nd Z (Or.inl Z) (qI qJ (qC n (qv 0) qm) (qv 3)))
   (qe (qM (qA zy (qv 6) qg (qz _)) (qj (qw (qt xZ n.mo (qd (qC n (qv 0) qm) (qd (qv 7) (qd (qv 2) (qd (qv 3) (qd (qv 4) (qd (qv 5) qb))))))))) qH)
   (qe (qG (i:=8) HW.nd Z (Or.inl Z) (zb (qd (qx zE (qv 4) qg) (qd (qx zE (qx Z4 (qv 4) qg) qg) (qd (qx Z4 (qv 4) qg) (qd (qv 5) qb))))))
   (qe (zJ (Q9 GI GY GZ zY (qv 8) (qd (qx zE (qx qL (qx qL (qy (jQ Z) T.b_sum PyProof.Rows.boot_sum (qd (qv 8) qb)) qg) (qx Zj (qx Qr (qv 6) qg) qg)) qg) qb)))
   (qe (qG (i:=9) HW.nd Z (Or.inl Z) (qt dQ n.mo (qd (qC n (qv 0) qm) (qd (qt dM n.mo (qd (qC n (qv 0) qm) (qd (qv 7) (qd (qv 2) qb)))) (qd (qT qZ T.b_tuple J7 (qd (qv 8) qb)) qb)))))
   (qe (qG (i:=10) HW.nd Z (Or.inl Z) (zb (qd (AZ v6 qg) (qd (AZ v6 qg) (qd qg (qd (qx vh qg qg) qb))))))
   (qj (qw (qF (qd (qv 2) (qd (qI qJ (zb (qd (qv 3) (qd (qx qL (qy qN T.b_len JQ (qd (qC n (qv 0) qm) qb)) (qv 3)) (qd (qI qJ (qv 10) (qx zE (qv 4) qg)) qb)))) (qx Qr (qv 6) qg)) (qd (qv 9) qb)))))))))))))
  have tl:=jw tp;have f0:0<=e:=r.f0
  have f3:e<=3:=r.f1
  have c0:0<=c:=r.c0
  have c1:c<4096:=r.c1
  have hn:ZF nm:=r.nm
  have hd:bB d:=r.dg
  exists 0,sp,0,HP.of hs,13
  let#[xs,O,eh,J,y]:=u.ks.at r.a0 r.a1;have B:HP K H O ((zN D age).map V.int):=y.up
  exists 0,g.m,0,u.g_keys,0,g.ml,1,HK.of eh,J
  exists 4
  by_cases C:e=0
  .refine Qf (Jj (by rw[C])) ?_
   refine#[0,g.m,0,u.g_table,33,g.mt,O,nm,age,c,d,D.t,zN D age,Z,.inr u.tb,.inr B,hn,tl,c0,c1,hd,λp F H' s' h1 h2=>q p H' s' ?_]
   unfold zg;rw[Jc C]
   exact#[F,h1,h2]
  .refine Qk (Jl (by intro z;injection z with z;exact C z)) ?_
   refine#[11,(by decide:(0:Int)<16),11,#[⋯,⋯],6,(by decide:(0:Int)<16),11,#[⋯,⋯],0,Hm,λl hl=>?_]
   have u1:=HE.upd (o:= .lst ((zO c d).map V.int)) hl
   have I:(HG H l (.lst ((zO c d).map V.int))) l=↑(.lst ((zO c d).map V.int)):=qc
   have fl:=hl;exists 0,.inl #[37,HK.of I],0,l,zO c d,Z,.inl (HK.of I),by show 4<=1000;decide,rK c0 c1 hd,_,_,Z,Z,_,Z,_,_,Z,Z,_,_,Z,Z,.inr #[⋯,⋯],_,_,Z,Z,_,_,Z,Z,(by decide:(0:Int)<16),l,_,_,Z,Z,I,by show 4<ζ;decide
   have U:HE H (HG (HG H l (.lst ((zO c d).map V.int))) l (.lst ((zO c d).map V.int++[.int (((zO c d).sum+1+(e-1)*5)%16)]))):=u1.put fl
   have e2:(HG (HG H l (.lst ((zO c d).map V.int))) l (.lst ((zO c d).map V.int++[.int (((zO c d).sum+1+(e-1)*5)%16)]))) l=↑(.lst ((QX #[nm,age,c,d,e]).map V.int)):=qc
   have m:=u.same U;refine#[0,g.m,0,m.g_table,0,g.m,0,m.g_table,2,g.mt,O,nm,D.t,zN D age,Z,.inr m.tb,.inr (HE.sqt U B),hn,tl,λpk H3 L _ S=>?_]
   refine#[0,l,0,.inl #[HK.of (L _ _ e2),λtt X=>?_]]
   have N:=HE.upd (o:= .tup ((QX #[nm,age,c,d,e]).map V.int)) X
   refine#[g.mt,pk,tt,D.t,bQ D.t (zN D age) nm,QX #[nm,age,c,d,e],Z,.inr (HE.sqt (L.trans N) m.tb),.inr (HP.of (N _ _ S)),.inr (HP.of qc),tl,by show 1<=5;decide,by show 5<64;decide,λF H5 s5 _ a0=>?_]
   have S5:=U.trans (L.trans (N.trans s5));refine#[15,#[⋯,⋯,⋯],Hm,λY M=>?_]
   have R:=HE.upd (o:= .lst [.int (-1),.int (-9),.int 8,.int (10 ^ (30:Int).toNat)]) M
   have e6:(HG H5 Y (.lst [.int (-1),.int (-9),.int 8,.int (10 ^ (30:Int).toNat)])) Y=↑(.lst [.int (-1),.int (-9),.int 8,.int (10 ^ (30:Int).toNat)]):=qc
   have Nq:=(u.same S5).same R;let#[as,W,la,_]:=id Nq.ks;have v:ZQ [V.int (-1),.int (-9),.int 8,.int (10 ^ (30:Int).toNat)] (c%4)=↑(.int (Nk.getD (c%4).toNat 0)):=by
    let#[j,t,h4]:∃j:Nat,c%4=(j:Int)/\j<4:=#[(c%4).toNat,by lia,by lia]
    rw[t];refine zI ?_
    rw[GD]
    match j,h4 with
    |0,_=>rfl
    |1,_=>rfl
    |2,_=>rfl
    |3,_=>rfl
   refine#[3,g.m,0,Nq.g_keys,g.ml,0,.inl (HK.of W),39,(by decide:(0:Int)<4),Y,1,HK.of e6,v,Hl,λl7 G=>?_]
   rw[Jf,la];have u7:=HE.upd (o:= .lst [.int age,.int ((D.kss.length:Int)+age),.int (Nk.getD (c%4).toNat 0)]) G
   have x:ZQ [V.int age,.int ((D.kss.length:Int)+age),.int (Nk.getD (c%4).toNat 0)] (e-1)=↑(.int (zB D #[nm,age,c,d,e])):=by
    let#[j,t,h3]:∃j:Nat,e-1=(j:Int)/\j<3:=#[(e-1).toNat,by lia,by lia]
    rw[t];refine zI ?_
    unfold zB
    match j,h3,t with
    |0,_,t=>rw[Jc (show e<=1 by lia)];rfl
    |1,_,t=>rw[Jb (show¬e<=1 by lia),Jc (show e=2 by lia)];rfl
    |2,_,t=>rw[Jb (show¬e<=1 by lia),Jb (show¬e=2 by lia)];rfl
   refine#[11,l7,1,HK.of qc,x,0,Hl,λp hp=>?_]
   have u8:=HE.upd (o:= .tup [.str nm,.int (zB D #[nm,age,c,d,e]),-F]) hp
   refine q p _ (S5.trans (R.trans (u7.trans u8))) ?_
   unfold zg;rw[Jb C]
   exact#[F,qc,(R.trans (u7.trans u8)) _ _ a0]
end
noncomputable def MZ:Β:=["a","b","ab","ba","aa","gate","gates","button","buttonaa","buttonab","z","zzzzzzzz"]
section
variable{K:ι}{tk:Nat->Tok}
theorem ng(a:At K mg "_law_names" bG ["_law_box_here","_law_many"])(T:Mq K mg tk)(O:Df P w K mg base "_law_take" x4 1 Zv):Df P w K mg base "_law_names" x4 2 pR:=by
 refine a.dq Nh λf _ A _ s H vs Q E U h=>?_
 .let#[b,C,c,rfl,I,hc,S,q]:=h
  exists _,(qe (qG (i:=2) Nh.nd Z (Or.inr Z) (zb (qd qm (qd qm (qd qm (qd qm (qd qm (qd qm (qd qm (qd qm (qd qm (qd qm (qd qm (qd qm qb))))))))))))))
   (qj (qw (zH (own:=["_law_k"]) (fr:=["_law_some","_law_box_here"]) (js:=[2,0]) Z (Qi Z T.b_range (qd (qv 1) qb)) Z (ym Z Z) Z (xo Z nofun nofun nofun Z Z Z Z Z Z) (λ_ _ _ _=>qk (i:=0) (show List.Nodup (["_law_k","_law_some","_law_box_here"]:Β)from by decide +kernel) Z (Or.inl Z) (.inr Z)) (λ_ _ _ _=>(Ei (K:=K) Z GI PySem.F.slot_list_pop PySem.F.type_list_pop yz (qv 1) (qd (qt O U.mo (qd (qv 2) (qd (qy (ax (K:=K) Z) T.b_len JQ (qd (qv 1) qb)) qb))) qb)))))))
  refine#[Hs,λl F=>?_]
  have W:=HE.upd (o:= .lst (MZ.map V.str)) F
  have t:l≠b:=Qu I F
  exists 2,by lia,by lia
  rw[GD];refine cJ (n:=C) (Jg S ⋯) (λi ys D=>Mj b (c+i) H D/\∃d j:Β,D l=↑(.lst (d.map V.str))/\ys=j.map V.str/\d.length+i=12/\(j++d).Perm MZ) #[W.grc I,MZ,[],qc,7,.refl _] ?_ ?_
  .rintro i ys D hi Y ⟨u,d,j,g,rfl,G,pm⟩
   exists 0,.inl #[37,HK.of g]
   refine#[2,l,0,.inl (HK.of g),b,5,u.bx,by lia,by rw[Jf];lia,by rw[Jf];lia,λx H3 x0 N J=>?_]
   rw[Jf]at N;let#[k,rfl]:∃k:Nat,x=(k:Int):=#[x.toNat,by lia]
   have hk:k<d.length:=by lia
   have L:=J.kp _ _ t g;exists l,16,k,.str d[k],7,L,by lia,by lia,?_,?_
   .rw[Jf];exact ot hk
   .rw[Jo,Ji hk];rfl
   .exists #[λc o y e=>?_,?_],d.eraseIdx k,j++[d[k]],?_,by simp,?_
    .by_cases z:c=l
     .subst z
      rw[e]at F;cases F
     .rw[qh z];exact J.kp _ _ y (u.kp _ _ y e)
    .let#[n,m,k',e,r]:=J.bx
     exact#[n,m,k',by rw[qh t.symm];exact e,r]
    .rw[qc,sK]
    .rw[List.length_eraseIdx_of_lt hk];lia
    .exact(we hk).trans pm
  .rintro ys D B ⟨u,d,j,g,rfl,G,pm⟩ p M
   rw[Jf]at B;have X:(j++d).Nodup:=pm.nodup_iff.mpr nofun
   refine q p j _ (u.same (HE.upd M)) (u.fresh (I.mono (by lia)) M) qc B (Iz.mp X).1 (λz R=>?_)
   have v:=pm.mem_iff.mp (GB _ R);simp only[MZ,Jp,JE,JF]at v;rcases v with rfl|rfl|rfl|rfl|rfl|rfl|rfl|rfl|rfl|rfl|rfl|rfl
   all_goals exact#[nofun,nofun,nofun]
end
end Lw
namespace L3
open PySem PySem.Spec PyProof.Rows L2
theorem ZP{t u:TS}(h:∀c:MF,(∀a H',u D a H'->c.nx a H')->t c σ H):ei t u D σ H:=h {D with nx:=u D} λ_ _ h=>h
end L3
namespace Lw
open PySem L2 L3
section
variable{K:ι}{tk:Nat->Tok}
theorem n4(a:At K mg "_law_world" bO ["_law_box_here","_law_great"])(T:Mq K mg tk)(L:Df P w K mg base "_law_take" x4 1 Zv)(xV:Df P w K mg base "_law_table" W9 2 mV)(yD:Df P w K mg base "_law_key" W9 2 vg)(xT:Df P w K mg base "_law_names" x4 2 pR):Df P w K mg base "_law_world" ["_law_box_here","_law_great"] 3 (kN K):=by
 refine a.dq HX λf _ A _ s H vs Q E F h=>?_
 .let#[b,g,c,rfl,hb,hc,q]:=h
  exists _,(qe (qG (i:=2) HX.nd Z (Or.inl Z) (cK (Qa (qv 1)) (qx qL qg (qt L F.mo (qd (qv 0) (qd qg qb)))) (qx qL qg (qt L F.mo (qd (qv 0) (qd qg qb))))))
   (qe (BM (i:=3) HX.nd Z (Or.inl Z) (own:=["_law_k"]) (fr:=["_law_box_here"]) (js:=[0]) Z (Qi Z T.b_range (qd (cK (Qa (qv 1)) qg (qx qL qg (qt L F.mo (qd (qv 0) (qd qg qb))))) qb)) Z (ao Z) Z (aq Z nofun nofun nofun Z Z Z) (λ_ _ _ _=>qk (i:=0) (show List.Nodup (["_law_k","_law_box_here"]:Β)from by decide +kernel) Z (Or.inl Z) (.inr Z)) (λ_ _ _ _=>(qt yD F.mo (qd (qv 1) qb))))
   (qe (qG (i:=4) HX.nd Z (Or.inl Z) (qI qJ (zb (qd (qx qL qg (qt L F.mo (qd (qv 0) (qd qg qb)))) (qd (qx qL qg (qt L F.mo (qd (qv 0) (qd qg qb)))) (qd qg qb)))) (qt L F.mo (qd (qv 0) (qd qg qb)))))
   (qe (qG (i:=5) HX.nd Z (Or.inl Z) (qx qL (qv 4) (qI qJ (zb (qd qg (qd qg (qd qg (qd (qt L F.mo (qd (qv 0) (qd qg qb))) qb))))) (qt L F.mo (qd (qv 0) (qd qg qb))))))
   (qe (qG (i:=6) HX.nd Z (Or.inl Z) (BL (Z1 qm (qt xV F.mo (qd (qv 0) qb)) (Z1 qm (qv 3) (Z1 qm (qv 4) (Z1 qm (qv 5) (Z1 qm qg (Z1 qm lM BY))))))))
   (qe (Qx F (qv 6) qm (qt xT F.mo (qd (qv 0) (qd (qv 2) qb))))
   (qe (zo JR Z (zK (qC F (qv 6) qm)) (qk (i:=7) HX.nd Z (Or.inl Z))
   (qe (qG (i:=8) HX.nd Z (Or.inl Z) (qI qJ (zb (qd qg (qd qg (qd qg (qd qg (qd qg (qd qg (qd (qx Qr qg (qt L F.mo (qd (qv 0) (qd qg qb)))) (qd (qx qL qg (qt L F.mo (qd (qv 0) (qd qg qb)))) qb))))))))) (qt L F.mo (qd (qv 0) (qd qg qb)))))
   (qe (Qx F (qC F (qv 6) qm) (qv 7) (zb (qd (qt L F.mo (qd (qv 0) (qd (qy qN T.b_len JQ (qd (qv 3) qb)) qb))) (qd (qv 8) (qd zk qb)))))
   (qe (qG (i:=9) HX.nd Z (Or.inl Z) (qx qL (qx qL (qx qL (qv 8) (qv 4)) qg) (qt L F.mo (qd (qv 0) (qd (qy (fc Z) T.b_max LZ (qd qg (qd (qx Qr (qv 5) (qv 4)) qb))) qb)))))
   (qj (qM (QW.pt (aW (qA fE (qv 5) (qv 4) (qz _)) (aW (qA fw (qv 9) qg (qz _)) (aN (qA zy (qt L F.mo (qd (qv 0) (qd qg qb))) qg (qz _)))))) (qj (zr (qF (qd (qI qJ (qC F (qC F (qv 6) qm) (qv 7)) qg) (qd (qv 9) qb))) (bf (qC F (qC F (qv 6) qm) (qv 7)) qg Q7))) qH))))))
   (qe (qM (qA zy (qt L F.mo (qd (qv 0) (qd qg qb))) qg (qz _)) (qj (Qx F (qv 6) qm (qt L F.mo (qd (qv 0) (qd (qy qN T.b_len JQ (qd (qv 3) qb)) qb))))) qH)
   (qj (qw (qv 6)))))))))))
  refine CM (λj0 H'=>∃G:Nat,1<=G/\G<=9/\Mj b (c+1) H H'/\j0=[↑(-b),↑(.bl g),↑(.int (G:Int)),none,none,none,none,none,none,none]) (λD' u2 g0=>?_) ?_
  .exists 2
   cases g with
   |true=>
    refine Ql #[0,b,5,hb,by lia,⋯,⋯,λr H1 r0 r1 R=>#[6,g0 _ _ #[(7+r).toNat,by lia,by lia,R,?_]]]
    rw[OS (by lia)];rfl
   |false=>
    refine zS #[0,b,5,hb,by lia,⋯,⋯,λr H1 r0 r1 R=>#[6,g0 _ _ #[(1+r).toNat,by lia,by lia,R,?_]]]
    rw[OS (by lia)];rfl
  rintro j0 H1 ⟨G,v1,t4,R,rfl⟩
  refine ZP λD1 d1=>?_
  refine ji (t:=AY _ _ _) (λv H'=>∃nk:Nat,v= .int (nk:Int)/\1<=nk/\nk<=8/\Mj b (c+2) H H') (λQ' hQ=>?_) (λv H2 ⟨nk,ev,k1,k8,Y⟩=>?_)
  .exists 2
   cases g with
   |true=>exact Ql (hQ _ _ #[(8),Z,⋯,⋯,R.mono (by lia)])
   |false=>
    refine zS #[0,b,5,R.bx,by lia,⋯,⋯,λr H2 r0 r1 Y=>#[6,hQ _ _ #[(1+r).toNat,?_,by lia,by lia,(R.trans Y).mono (by lia)]]]
    rw[OS (by lia)]
  subst ev;exists 0,by lia,by lia
  rw[GD];refine cJ (n:=nk) (by rw[Jt];lia) (λi ys H4=>Mj b (c+2+10*i) H H4/\∃(N:Ι) (D:List Ε),ys=N.map V.ref/\N.length=i/\D.length=i/\∀(j:Nat) (x:Δ) (ks:Ε),N[j]? =↑x->D[j]? =↑ks->H4 x=↑(.tup (ks.map V.int))) #[Y,[],[],40,λj x ks e=>by(cases e)] ?_ ?_
  .rintro i ys H4 hi o4 ⟨G4,N,D,rfl,g3,b6,c7⟩
   refine#[0,b,0,G4.bx,by lia,λx ks H5 g5 _ I dk _ _=>?_]
   refine#[(G4.trans g5).mono (by lia),N++[x],D++[ks],by simp,by simp [g3],by simp [b6],λj y l7 h1 h2=>?_]
   rw[Ik]at h1 h2
   by_cases hj:j<i
   .rw[Jc (by lia)]at h1 h2
    have hy:=c7 j y l7 h1 h2;let#[x1,x2,x3,eb,_]:=G4.bx;exact g5.kp _ _ (qD hy eb (by intro z;cases z)) hy
   .rw[Jb (by lia)]at h1 h2
    have d0:j-N.length=0:=by
     cases d0:j-N.length with
     |zero=>rfl
     |succ k=>rw[d0]at h1;cases h1
    have q0:j-D.length=0:=by lia
    rw[d0]at h1;rw[q0]at h2;cases h1;cases h2;exact I
  rintro ys H4 o4 ⟨G4,N,D,rfl,g3,b6,c7⟩ ml h3
  have u5:=HE.upd (o:= .lst (N.map V.ref)) h3
  have e5:(HG H4 ml (.lst (N.map V.ref))) ml=↑(.lst (N.map V.ref)):=qc
  have G5:Mj b (c+82) H _:=(G4.same u5).mono (by lia)
  have c3:∀(j:Nat) (x:Δ) (ks:Ε),N[j]? =↑x->D[j]? =↑ks->(HG H4 ml (.lst (N.map V.ref))) x=↑(.tup (ks.map V.int)):=λj x ks h1 h2=>u5 _ _ (c7 j x ks h1 h2)
  have d9:H ml=none:=G4.fresh (hb.mono (by lia)) h3
  generalize HG H4 ml (.lst (N.map V.ref))=H5 at e5 G5 c3⊢
  have n8:L7 [] H5 ml D:=#[N,e5,by lia,λi a z h1 h2=>HP.of (c3 i a z h1 h2)]
  refine d1 _ _ ?_
  refine ZP λD2 d2=>?_
  refine#[0,b,5,G5.bx,by lia,⋯,⋯,λr1 H6 k2 h0 g6=>#[6,?_]]
  refine#[0,b,5,g6.bx,by lia,⋯,⋯,λr2 H7 p9 m0 g7=>#[6,Hl,λl8 h8=>?_]]
  have u8:=HE.upd (o:= .lst [.int (1+r1),.int (1+r2),.int 64]) h8
  refine#[0,b,5,(u8.grc g7.bx).bx,by lia,⋯,⋯,λr3 H9 e6 f3 g9=>?_]
  let#[v,hv,h6]:=aL (xs:=[V.int (1+r1),.int (1+r2),.int 64]) e6 f3
  let#[d,rfl,n0,t5]:∃z:Int,v= .int z/\1<=z/\z<=64:=by
   simp only[Jp,JE,JF]at h6;rcases h6 with rfl|rfl|rfl
   .exact#[0,by lia,by lia]
   .exact#[0,by lia,by lia]
   .exact#[0,⋯,⋯]
  exists l8,1,HK.of (g9.kp _ _ (Qu g7.bx h8) qc),hv
  refine d2 _ _ ?_
  have n3:L7 [] H9 ml D:=(((n8.grc G5.bx g6).grc g6.bx g7).same u8).grc (u8.grc g7.bx).bx g9
  have G9:Mj b (c+85) H H9:=((((G5.trans g6).trans g7).same u8).trans g9).mono (by lia)
  refine ZP λD3 d3=>?_
  refine#[2,b,5,G9.bx,by lia,⋯,⋯,λr4 Ha s8 v0 ga=>#[Hm,λlb h7=>?_]]
  have ub:=HE.upd (o:= .lst [.int 0,.int 1,.int 2,.int r4]) h7
  refine#[0,b,5,(ub.grc ga.bx).bx,by lia,⋯,⋯,λr5 Hc l5 m5 gc=>?_]
  let#[v2,o6,c2]:=aL (xs:=[V.int 0,.int 1,.int 2,.int r4]) l5 m5
  let#[p,rfl,o0,o1]:∃z:Int,v2= .int z/\0<=z/\z<=30:=by
   simp only[Jp,JE,JF]at c2;rcases c2 with rfl|rfl|rfl|rfl<;>first|exact#[0,⋯,⋯]|exact#[0,by lia,by lia]
  exists lb,1,HK.of (gc.kp _ _ (Qu ga.bx h7) qc),o6,6
  refine d3 _ _ ?_
  have m2:L7 [] Hc ml D:=((n3.grc G9.bx ga).same ub).grc (ub.grc ga.bx).bx gc
  have Gc:Mj b (c+87) H Hc:=(((G9.trans ga).same ub).trans gc).mono (by lia)
  refine ZP λD4 d4=>?_
  refineλm hm=>?_
  have um:=HE.upd (o:= .dK []) hm
  have Gm:=Gc.same um;refine#[0,b,0,Gm.bx,by lia,λW t Hd gd t1 o5 pt=>?_]
  have Gd:=Gm.trans gd;let#[x1,x2,x3,eb,_]:=id Gm.bx;have em:(HG Hc m (.dK [])) m=↑(HO.dK []):=qc
  have b2:m≠b:=qD em eb (by intro z;cases z)
  have b7:=gd.kp _ _ b2 em;have h4:L7 [] Hd ml D:=(m2.same um).grc Gm.bx gd
  refine#[3,λkd e7=>?_]
  have uk:=HE.upd (o:= .dK []) e7
  have f4:m≠kd:=qr b7 e7
  exists uk _ _ b7,Nq d (d+p) W ml kd,Z,by show 6<=15;decide
  rw[uK];have fm:H m=none:=Gc.fresh (hb.mono (by lia)) hm
  have b4:H kd=none:=Gd.fresh (hb.mono (by lia)) e7
  have Ge:Mj b (c+110) H (HG (HG Hd kd (.dK [])) m (.dK (Nq d (d+p) W ml kd))):=by
   have G8:=Gd.same uk;exists λx o I e=>?_
   .rw[qh (qr e fm)];exact G8.kp x o I e
   .let#[y1,y2,y3,e,e1,e2,e3,e4]:=G8.bx
    exact#[y1,y2,y3,by rw[qh b2.symm];exact e,e1,e2,e3,by lia]
  have k9:NT [m] (HG Hd kd (.dK [])):=NT.one (uk _ _ b7) trivial
  have me:Mv [m] (HG Hd kd (.dK [])) (HG (HG Hd kd (.dK [])) m (.dK (Nq d (d+p) W ml kd))):=Mv.upd1
  let#[t3,s2,_]:=id h4;have f0:L7 [] (HG (HG Hd kd (.dK [])) m (.dK (Nq d (d+p) W ml kd))) ml D:=(h4.same uk).mv me k9 (qK (qD s2 b7 (by intro z;cases z)))
  have h5:HP K (HG (HG Hd kd (.dK [])) m (.dK (Nq d (d+p) W ml kd))) W (t.map V.int):=me.sqt k9 (HP.of (uk _ _ o5))
  have k4:(HG (HG Hd kd (.dK [])) m (.dK (Nq d (d+p) W ml kd))) m=↑(.dK (Nq d (d+p) W ml kd)):=qc
  have a2:(HG (HG Hd kd (.dK [])) m (.dK (Nq d (d+p) W ml kd))) kd=↑(.dK []):=by rw[qh f4.symm];exact qc
  generalize HG (HG Hd kd (.dK [])) m (.dK (Nq d (d+p) W ml kd))=He at Ge f0 h5 k4 a2⊢
  refine d4 _ _ ?_
  refine ZP λD5 d5=>?_
  refine#[2,b,G,0,Ge.bx,by lia,by lia,λnl C Hf gf p1 l4 s5 nd p0=>?_]
  have Gf:=Ge.trans gf;have b5:=gf.kp _ _ b2 k4;have l9:=M0.k (k:=(Sum.inr "names":qE)) (v:= .ref nl) b5 (by show 6<ζ;decide)
  exists 0,m,0,l9
  rw[Cq t D d (d+p) [] m W ml kd nl];let#[u,U]:∃u:NO,u=#[m,W,ml,kd,nl]:=#[0]
  let#[B,J]:∃B:Dr,B=#[t,D,d,d+p,(12),(0),[]]:=#[0]
  have ug:Mv [m] Hf (HG Hf m (.dK (eM #[t,D,d,d+p,(12),(0),[]] #[m,W,ml,kd,nl]))):=Mv.upd1
  have i2:NT [m] Hf:=NT.one b5 trivial
  let#[z1,z2,z3,s4,_]:=id Ge.bx;have o2:=gf.kp _ _ (qD a2 s4 (by intro z;cases z)) a2
  have b3:L5 K (HG Hf m (.dK (eM B u))) u B C:=by
   rw[U,J];let#[s6,n2,_]:=id (f0.grc Ge.bx gf)
   exact#[qc,ug.sqt i2 (gf.mv.sqt (Qm Ge.bx) h5),(f0.grc Ge.bx gf).mv ug i2 (qK (qD n2 b5 (by intro z;cases z))),#[([],λ_=>0),ug _ _ (qK f4.symm) o2,(λe he=>by cases he),.refl _,LK],ug _ _ (qK (qD l4 b5 (by intro z;cases z))) l4,f4,by lia]
  have a3:H nl=none:=Ge.fresh (hb.mono (by lia)) p1
  have Gg:Mj b (c+120) H (HG Hf m (.dK (eM B u))):=by
   exists λx o I e=>?_
   .rw[qh (qr e fm)];exact Gf.kp x o I e
   .let#[y1,y2,y3,e,e1,e2,e3,e4]:=Gf.bx
    exact#[y1,y2,y3,by rw[qh b2.symm];exact e,e1,e2,e3,by lia]
  rw[<- J,<- U];generalize HG Hf m (.dK (eM B u))=Hg at b3 Gg⊢
  refine d5 _ _ ?_
  have p4:u.m=m:=by rw[U]
  have f1:u.ml=ml:=by rw[U]
  have n1:u.nl=nl:=by rw[U]
  have m4:u.kd=kd:=by rw[U]
  rw[<- p4]at fm⊢;rw[<- f1]at d9;rw[<- n1]at a3;rw[<- m4]at b4;have dn:B.near=d:=by rw[J]
  have df:B.far=d+p:=by rw[J]
  have dk:B.kss.length=D.length:=by rw[J]
  have p3:B.kn=[]:=by rw[J]
  exists 0,u.m,0,b3.g_names,u.nl,Z,#[_,HK.of b3.nm]
  refine Q2 (K:=K) (xs:=C.map V.str) (Pv:=λi σ Hx=>∃(kn:Kw) (o7 o8 o9:Μ),Mj b (c+120+10*i) H Hx/\L5 K Hx u {B with kn:=kn} C/\kn.map (·.1)=C.take i/\(∀e∈kn,Oj B e.2/\1<=e.2.last)/\(∀e∈kn,∀x cc,e.2.wt=↑(x,cc)->x=e.2.age/\e.2.last+B.near<cc/\cc<=e.2.last+B.far)/\σ=[↑(-b),↑(.bl g),↑(.int (G:Int)),↑(-ml),↑(.int d),↑(.int (d+p)),↑(-u.m),o7,o8,o9]) #[[],32,Gg.mono (by lia),by rw[<- p3];exact b3,Z,(λe he=>by cases he),(λe he=>by cases he),Z] (λi σ Hx _ ⟨_,_,_,_,_,wx,_⟩=>HK.of wx.nm) ?_ ?_
  .rintro i v σ Hx hv ⟨kn,o7,o8,o9,Gx,wx,ek,f2,f5,rfl⟩
   let#[nm,rfl,a6]:∃nm,v= .str nm/\C[i]? =↑nm:=by
    rw[Jo]at hv;cases z:C[i]? with
    |none=>rw[z]at hv;cases hv
    |some y=>rw[z]at hv;cases hv;exact#[y,7]
   have hi:i<C.length:=(Jw.mp a6).1
   have b6:kn.length=i:=by have:=JY List.length ek;rw[Jf,JP]at this;lia
   have k0:nm∉kn.map (·.1):=λz=>by
    rw[ek]at z;have q7:(C.take i++C.drop i).Nodup:=by rw[Kg];exact nd
    refine(Iz.mp q7).2.2 nm z nm (Jy (i:=0) ?_) Z
    rw[OT];exact a6
   refine#[0,b,5,Gx.bx,by lia,⋯,⋯,λr1 H1 k2 h0 R=>#[6,?_]]
   refine#[0,b,5,R.bx,by lia,⋯,⋯,λr2 H2 p9 m0 Y=>#[6,Ho,λl3 l2=>?_]]
   have u3:=HE.upd (o:= .lst [.int 1,.int 2,.int 15,.int 255,.int 256,.int 4000,.int (4095-r1),.int (1+r2)]) l2
   refine#[0,b,5,(u3.grc Y.bx).bx,by lia,⋯,⋯,λr3 H4 e6 f3 g4=>?_]
   let#[v3,q6,c4]:=aL (xs:=[V.int 1,.int 2,.int 15,.int 255,.int 256,.int 4000,.int (4095-r1),.int (1+r2)]) e6 f3
   let#[last,rfl,c1,t2]:∃z:Int,v3= .int z/\1<=z/\z<=4095:=by
    simp only[Jp,JE,JF]at c4;rcases c4 with rfl|rfl|rfl|rfl|rfl|rfl|rfl|rfl<;>first|exact#[0,⋯,⋯]|exact#[0,by lia,by lia]
   exists l3,1,HK.of (g4.kp _ _ (Qu Y.bx l2) qc),q6
   have w4:=(((wx.grc Gx.bx R).grc R.bx Y).same u3).grc (u3.grc Y.bx).bx g4;have G4':Mj b (c+120+10*i+3) H H4:=((((Gx.trans R).trans Y).same u3).trans g4).mono (by lia)
   let#[c6,a4,c5,_]:=id w4.ks;rw[f1]at a4;have M:(c6.map V.ref).length=D.length:=by rw[Jf,c5];exact dk
   refine#[2,ml,0,.inl (HK.of a4),b,5,G4'.bx,by lia,by rw[M];lia,by rw[M];lia,λage H5 a0 a1 g5=>#[0,Hl,λX e8=>?_]]
   rw[M]at a1;have w5:=w4.grc G4'.bx g5;have u6:=HE.upd (o:= .lst [.int age,.int last,.non]) e8
   let#[kvs,dp,h9,r7]:=Me.putL w5.kb e8 u6 nm (by show kn.length<=100;lia)
   have w6:=w5.same u6;exists 0,u.m,0,w6.g_known,0,u.kd,0,dp
   have m7:Mv [u.kd] (HG H5 X (.lst [.int age,.int last,.non])) (HG (HG H5 X (.lst [.int age,.int last,.non])) u.kd (.dK kvs)):=Mv.upd1
   let#[u7,a5,_]:=w6.kb.di;have i1:NT [u.kd] (HG H5 X (.lst [.int age,.int last,.non])):=NT.one a5 trivial
   let#[s9,p5,_]:=id w6.ks;have wp:N5 K (HG (HG H5 X (.lst [.int age,.int last,.non])) u.kd (.dK kvs)) u B C X kvs nm age last kn:=#[m7 _ _ (qK w6.ne) w6.di,m7.sqt i1 w6.tb,w6.ks.mv m7 i1 (qK (qD p5 a5 (by intro z;cases z))),r7,qc,h9,m7 _ _ (qK (qD qc a5 (by intro z;cases z))) qc,m7 _ _ (qK (qD w6.nm a5 (by intro z;cases z))) w6.nm,w6.ne,w6.n1]
   have G7:Mj b (c+120+10*i+4) H (HG (HG H5 X (.lst [.int age,.int last,.non])) u.kd (.dK kvs)):=by
    have Gy:=((G4'.trans g5).same u6);exists λx o I e=>?_
    .rw[qh (qr e b4)];exact Gy.kp x o I e
    .let#[y1,y2,y3,e,e1,e2,e3,e4]:=Gy.bx
     exact#[y1,y2,y3,by rw[qh (qD a5 e (by intro z;cases z)).symm];exact e,e1,e2,e3,by lia]
   have f6:H X=none:=(G4'.trans g5).fresh (hb.mono (by lia)) e8
   generalize HG (HG H5 X (.lst [.int age,.int last,.non])) u.kd (.dK kvs)=H7 at wp G7⊢
   have c0:∀(e:Kb) (H':Hp) (o9:Μ) (n':Nat),Mj b n' H H'->n'<=c+120+10*(i+1)->L5 K H' u {B with kn:=qP kn nm e} C->Oj B e/\1<=e.last->(∀x cc,e.wt=↑(x,cc)->x=e.age/\e.last+B.near<cc/\cc<=e.last+B.far)->∃(kn:Kw) (o7 o8 p2:Μ),Mj b (c+120+10*(i+1)) H H'/\L5 K H' u {B with kn:=kn} C/\kn.map (·.1)=C.take (i+1)/\(∀e∈kn,Oj B e.2/\1<=e.2.last)/\(∀e∈kn,∀x cc,e.2.wt=↑(x,cc)->x=e.2.age/\e.2.last+B.near<cc/\cc<=e.2.last+B.far)/\[↑(-b),↑(.bl g),↑(.int (G:Int)),↑(-ml),↑(.int d),↑(.int (d+p)),↑(-u.m),↑(.str nm),↑(.int last),o9]=[↑(-b),↑(.bl g),↑(.int (G:Int)),↑(-ml),↑(.int d),↑(.int (d+p)),↑(-u.m),o7,o8,p2]:=λe H' o9 n' G' n7 w' ke kw=>by
    have ep:qP kn nm e=kn++[(nm,e)]:=by unfold qP;rw[Jb k0]
    refine#[qP kn nm e,32,G'.mono n7,w',?_,λx I=>?_,λx I=>?_,Z]
    .rw[ep,JI,ek,RL,a6];rfl
    .rw[ep]at I
     rcases JD.mp I with I|I
     .exact f2 x I
     .rw[Jm.mp I];exact ke
    .rw[ep]at I
     rcases JD.mp I with I|I
     .exact f5 x I
     .rw[Jm.mp I];exact kw
   have O:Oj B #[age,last,none]:=#[a0,by show age<(B.kss.length:Int);rw[dk];exact a1,by show 0<=last;lia,by show last<4096;lia,λx y z=>by cases z]
   refine#[29,b,5,G7.bx,by lia,by split<;>lia,by split<;>lia,λr8 H8 u4 j1 g8=>#[6,?_]]
   have d7:=wp.grc G7.bx g8;have G8:=G7.trans g8;exists 25
   refine qQ (λy1=>?_) (λ_=>c0 #[age,last,none] _ _ _ G8 (by lia) d7.plain #[O,c1] (λx cc z=>by cases z))
   exists 22
   refine qQ (λy2=>?_) (λ_=>c0 #[age,last,none] _ _ _ G8 (by lia) d7.plain #[O,c1] (λx cc z=>by cases z))
   refine#[0,b,5,G8.bx,by lia,⋯,⋯,λr9 H9 u9 s7 g9=>#[17,?_]]
   have b1:=d7.grc G8.bx g9;have G9':=G8.trans g9;refine qQ (λ_=>?_) (λ_=>c0 #[age,last,none] _ _ _ G9' (by lia) b1.plain #[O,c1] (λx cc z=>by cases z))
   have h1:=JA y1;have h2:=JA y2;refine#[0,u.m,0,b1.g_known,0,u.kd,0,b1.g_nm,X,1,HK.of b1.el,17,Hj,λt0 o3=>?_]
   have u0:=HE.upd (o:= .tup [.int age,.int (last+d+1+r8)]) o3
   have b0:=b1.same u0;exists 0,u.m,0,b0.g_known,0,u.kd,0,b0.g_nm,X,16,(2),7,b0.el,Z
   have w':=b0.wait (t:=t0) (x:=age) (cc:=last+d+1+r8) qc
   have G0:=G9'.same u0;refine c0 #[age,last,↑(age,last+d+1+r8)] _ _ (c+120+10*i+6) #[λx o I e=>?_,?_] (by lia) w' #[#[O.a0,O.a1,O.l0,O.l1,λx y z=>?_],c1] (λx cc z=>?_)
   .show HG _ X _ x=_
    rw[qh (qr e f6)];exact G0.kp x o I e
   .let#[m6,p6,s3,e,e1,e2,e3,e4]:=G0.bx
    have m1:b≠X:=(qD b0.el e (λq=>by injection q with q;injection q with _ q;injection q with _ q;injection q with q _;cases q)).symm
    exact#[m6,p6,s3,by show HG _ X _ b=_;rw[qh m1];exact e,e1,e2,e3,by lia]
   .cases z;exact#[by lia,by lia]
   .cases z
    exists Z,?_
    .show last+B.near<_;rw[dn];lia
    .show _<=last+B.far;rw[df];revert j1;split<;>intro j1<;>lia
  .rintro σ Hx ⟨kn,o7,o8,o9,Gx,wx,ek,f2,f5,rfl⟩
   have i0:∀l:Int,0<=l->l<D.length->Nz {B with kn:=kn,least:=l} C:=λl l0 l1=>by
    have d6:kn.map (·.1)=C:=by rw[ek,Jf,J5]
    have b6:kn.length=C.length:=by have:=JY List.length d6;rwa [Jf]at this
    refine#[#[by rw[J];exact pt,l0,by show B.kss.length<=8;lia,by show kn.length<=60;lia,by show(kn.map (·.1)).Nodup;rw[d6];exact nd],by show 1<=B.kss.length;lia,by show 1<=B.near;lia,by show B.near<=B.far;lia,by show B.far<=2000;lia,by show l<(B.kss.length:Int);lia,by rw[J],λe he=>?_,f5,p0,d6,by lia,by lia]
    have z:=f2 e he
    exact#[#[z.1.a0,z.1.a1,z.1.l0,z.1.l1,z.1.w],z.2]
   rw[Jf]at Gx;refine#[0,b,5,Gx.bx,by lia,⋯,⋯,λr1 H1 k2 h0 R=>#[17,?_]]
   have w1:=wx.grc Gx.bx R;have G1':=Gx.trans R;have eD:({B with kn:=kn}:Dr)={B with kn:=kn,least:=0}:=by rw[J]
   refine qQ (λ_=>?_) (λ_=>#[0,q u _ C _ (G1'.mono (by lia)) fm d9 b4 a3 w1 (by rw[eD];exact i0 0 (by lia) (by lia))])
   let#[c6,a4,c5,_]:=id w1.ks;rw[f1]at a4;have M:(c6.map V.ref).length=D.length:=by rw[Jf,c5];exact dk
   refine#[2,ml,0,.inl (HK.of a4),b,5,G1'.bx,by lia,by rw[M];lia,by rw[M];lia,λsh H2 s0 s1 Y=>?_]
   rw[M]at s1;have S:=w1.grc G1'.bx Y;have G2':=G1'.trans Y;have dp:=M0.k (k:=(Sum.inr "shut":qE)) (v:= .int sh) S.di (KB (show 7<=100 by decide) ⋯)
   rw[xh 4 Z (oo ..)]at dp;exists 0,u.m,0,dp
   have m3:Mv [u.m] H2 (HG H2 u.m (.dK (eM {B with kn:=kn,least:=sh} u))):=Mv.upd1
   have d8:NT [u.m] H2:=NT.one S.di trivial
   let#[u1,r6,_]:=id S.ks;have w3:L5 K (HG H2 u.m (.dK (eM {B with kn:=kn,least:=sh} u))) u {B with kn:=kn,least:=sh} C:=#[qc,m3.sqt d8 S.tb,S.ks.mv m3 d8 (qK (qD r6 S.di (by intro z;cases z))),Mp.to S.kb (λo z=>m3 _ _ (qK S.ne.symm) z) (λa e h=>h.mv m3 d8 (qK (h.ned S.di))),m3 _ _ (qK (qD S.nm S.di (by intro z;cases z))) S.nm,S.ne,S.n1]
   refine#[0,q u _ C _ #[λx o I e=>?_,?_] fm d9 b4 a3 w3 (i0 sh s0 s1)]
   .show HG H2 u.m _ x=_
    rw[qh (qr e fm)];exact G2'.kp x o I e
   .let#[y1,y2,y3,e,e1,e2,e3,e4]:=G2'.bx
    exact#[y1,y2,y3,by show HG H2 u.m _ b=_;rw[qh (qD S.di e (by intro z;cases z)).symm];exact e,e1,e2,e3,by lia]
theorem oM(a:At K mg "_law_door" cD ["_law_world_here"])(T:Mq K mg tk)(U:MS K C)(yH:Mi P w K mg base C "Door" W0 1 (oq K C))(xQ:Mf P w K mg base C "learn" ["self","one","other"] 7 (j7 K C))(xR:Mf P w K mg base C "hear" W4 6 (rW K C))(dP:Mf P w K mg base C "close_below" W8 1 (nZ K C))(dG:Df P w K mg base "_law_press" X2 4 (bp K)):Df P w K mg base "_law_door" ["_law_world_here"] 8 (mR K C):=by
 refine a.dq Mo λf _ A _ s H vs Q E m h=>?_
 .let#[j,D,ns,rfl,J,d,q]:=h
  exists _,(qe (qG (i:=1) Mo.nd Z (Or.inl Z) (CI yH m.mo (qd (qC m (qv 0) qm) (qd (qT qZ T.b_tuple J7 (qd (qC m (qv 0) qm) qb)) (qd (qC m (qv 0) qm) (qd (qC m (qv 0) qm) (qd qg qb)))))))
   (qe (zo JR Z (zK (qC m (qv 0) qm)) (qk (i:=2) Mo.nd Z (Or.inl Z))
   (qe (zr (qC m (qC m (qv 0) qm) (qv 2)) (af Z (qu (qk (i:=3) Mo.nd Z (Or.inl Z)) (qu (qk (i:=4) Mo.nd Z (Or.inl Z)) (qu (qk (i:=5) Mo.nd Z (Or.inl Z)) qW)))))
   (qe (zJ (zu xQ U.cl m.mo (qv 1) (qd (qt dG m.mo (qd (qv 0) (qd (qF (qd (qv 2) (qd (qv 3) (qd (qx Qr (qv 4) qg) (qd qg (qd qg qb)))))) qb))) (qd (qt dG m.mo (qd (qv 0) (qd (qF (qd (qv 2) (qd (qv 3) (qd (qv 4) (qd qg (qd qg qb)))))) qb))) qb))))
   (qj (qM (qA fH (qv 5) zk (qz _)) (qj (zJ (zu xR U.cl m.mo (qv 1) (qd (qt dG m.mo (qd (qv 0) (qd (qF (qd (qv 2) (qd (qv 3) (qd (qI zp (qv 5) qg) (qd qg (qd qg qb)))))) qb))) qb)))) qH)))))
   (qe (qM (qA fE (qC m (qv 0) qm) qg (qz _)) (qj (zJ (zu dP U.cl m.mo (qv 1) (qd (qC m (qv 0) qm) qb)))) qH)
   (qj (qw (qv 1))))))
  have k1:=d.k1;have k8:=d.ok.kl;let#[as,eh,la,c5]:=id J.ks;refine ZP λD1 d1=>?_
  refine#[0,j.m,0,J.g_table,0,j.m,0,J.g_keys,j.ml,0,.inl #[HK.of eh,λtt f0=>?_]]
  have R:=HE.upd (o:= .tup (as.map V.ref)) f0
  have a2:=J.same R;refine#[0,j.m,0,a2.g_near,0,j.m,0,a2.g_far,λx dx nx c3 d5=>?_]
  have sJ:HE (HG H tt (.tup (as.map V.ref))) (HG (HG (HG H tt (.tup (as.map V.ref))) dx (.own x)) x (.ins C dx [])):=(HE.upd c3).trans (HE.upd (by rw[qh d5.symm];exact nx))
  refine#[x,j.mt,tt,dx,D.near,D.far,(12),D.t,D.kss,Z,qc,.inr (HE.sqt sJ a2.tb),#[as,HP.of (sJ _ _ qc),la,λi a z h1 h2=>HE.sqt (R.trans sJ) (c5 i a z h1 h2)],k8,λta hk bd lg H2 h1 h2 h3 mv dr e4=>#[Z,?_]]
  have S2:HE H H2:=λc o e=>mv c o (qK (qr (R _ _ e) nx)) (sJ c o (R _ _ e))
  have fp:H x=none:=ZR nx R
  have f1:=ZR (ZR h1 sJ) R;have f2:=ZR (ZR h2 sJ) R;have f3:=ZR (ZR h3 sJ) R;have b5:Mr K C H2 #[x,ta,hk,bd,lg] #[D.t,D.kss,D.near,D.far,(12),(0),[]] []:=dr.dl e4
  let#[g,a1]:∃g:Da,g=#[x,ta,hk,bd,lg]:=#[0]
  have hx:x=g.p:=by rw[a1]
  rw[<- a1]at b5;have fd:∀z∈dS g,H z=none:=by rw[a1];exact rn fp f1 f2 f3
  have b0:=J.same S2;refine d1 _ _ ?_
  exists 0,j.m,0,b0.g_names,j.nl,Z,#[_,HK.of b0.nm]
  have f5:({D with least:=0,kn:=D.kn.take 0}:Dr)=#[D.t,D.kss,D.near,D.far,(12),(0),[]]:=by rw[<- d.ms];rfl
  refine Q2 (K:=K) (xs:=ns.map V.str) (Pv:=λi σ X=>∃(L:Υ) (o2 o3 o4 o5:Μ),HE H X/\Mr K C X g {D with least:=0,kn:=D.kn.take i} L/\L.length<=2*i/\σ=[↑(-j.m),↑(-g.p),o2,o3,o4,o5]) #[[],50,S2,(by rw[f5];exact b5),⋯,by rw[hx];rfl] (λi σ X _ ⟨_,_,_,_,_,S,_⟩=>HK.of (S _ _ J.nm)) ?_ ?_
  .rintro i v σ X hv ⟨L,o2,o3,o4,o5,S,dl,hL,rfl⟩
   let#[nm,rfl,u]:∃nm,v= .str nm/\ns[i]? =↑nm:=by
    rw[Jo]at hv;cases z:ns[i]? with
    |none=>rw[z]at hv;cases hv
    |some y=>rw[z]at hv;cases hv;exact#[y,7]
   have hi:i<ns.length:=(Jw.mp u).1
   have e2:=d.nl;have b3:D.kn.length=ns.length:=by have:=JY List.length d.nn;rwa [Jf]at this
   let#[e,a5]:∃e,D.kn[i]? =↑(nm,e):=by
    have h0:=u;rw[<- d.nn,Jo]at h0;cases z:D.kn[i]? with
    |none=>rw[z]at h0;cases h0
    |some y=>rw[z]at h0;let#[y1,y2]:=y;cases h0;exact#[y2,Z]
   have n:=J.same S;have t:=Jy a5;let#[e',x0,f4,gg,vv,d4,N]:=(n.kb.get nm).resolve_left (λz=>by have:=QU (Ju.mpr #[_,t,Z]);let#[y,hy]:=this;rw[hy]at z;cases z.1)
   obtain rfl:e=e':=by have:=Zi d.ok.nd f4 (nm,e) t Z;injection this
   have B:=d.kb _ t;have a4:=d.wt _ t;simp only at B a4
   have a3:=B.1.a0;have Y:=B.1.a1;have g0:=B.1.l1;have g1:=B.2;have hn:=d.nm nm (Jy u);have I:=d.ok.tp;have z5:bB 0:=#[⋯,⋯]
   have sc:∀c,0<=c->c<4096->M3 D #[nm,e.age,c,(0),(0)]:=λc c0 c1=>#[hn,a3,Y,c0,c1,z5,by show(0:Int)<=0;decide,by show(0:Int)<=3;decide]
   have O:∀c,zg D #[nm,e.age,c,(0),(0)]=#[nm,e.age,aJ D.t (zN D e.age) nm c 0]:=λc=>by unfold zg;rw[Jc Z]
   refine ZP λE1 k9=>?_
   exists 0,j.m,0,n.g_known,0,j.kd,0,gg,x0,0,.inl (HK.of d4),9
   refine k9 _ _ ?_
   refine ZP λE2 g2=>?_
   refine#[0,g.p,Z,dl.dr.no,18,Hn,λd2 b4=>?_]
   have v1:=HE.upd (o:= .tup [.str nm,.int e.age,.int (e.last-1),.int 0,.int 0]) b4
   refine#[j,d2,D,ns,#[nm,e.age,e.last-1,(0),(0)],Z,n.same v1,I,qc,sc _ (by lia) (by lia),λp1 H3 s3 d8=>?_]
   have S3:=v1.trans s3;refine#[10,Hn,λf6 a6=>?_]
   have v2:=HE.upd (o:= .tup [.str nm,.int e.age,.int e.last,.int 0,.int 0]) a6
   refine#[j,f6,D,ns,#[nm,e.age,e.last,(0),(0)],Z,(n.same S3).same v2,I,qc,sc _ (by lia) (by lia),λp2 H5 s5 e6=>?_]
   have S5:=S3.trans (v2.trans s5);have b7:=dl.same S5;have ht:zX {D with least:=0,kn:=D.kn.take i} e.age=true:=by unfold zX;rw[Jj (show(0:Int)<=e.age from a3),Jj (show e.age<(D.kss.length:Int)from Y)];rfl
   have a0:Nd {D with least:=0,kn:=D.kn.take i}:=#[I,GX _,d.ok.kl,by show(D.kn.take i).length<=60;rw[JP];lia,by show((D.kn.take i).map (·.1)).Nodup;rw[Kt];exact d.ok.nd.sublist (PD ..)]
   have G:nm∉(D.kn.take i).map (·.1):=λz=>by
    rw[Kt,d.nn]at z;have e3:(ns.take i++ns.drop i).Nodup:=by rw[Kg,<- d.nn];exact d.ok.nd
    refine(Iz.mp e3).2.2 nm z nm (Jy (i:=0) ?_) Z
    rw[OT];exact u
   have e8:(D.kn.take i).lookup nm=none:=by
    cases z:(D.kn.take i).lookup nm with
    |none=>rfl
    |some y=>exact absurd (Ju.mpr #[_,Qt z,Z]) G
   have r1:∀c,0<=c->c<4096->Zz {D with least:=0,kn:=D.kn.take i} (zg D #[nm,e.age,c,(0),(0)])=↑(c,0):=λc c0 c1=>by
    rw[O];unfold Zz;simp only;rw[ht,Jc Z];exact eI I c0 c1 z5
   refine#[g,_,L,p1,p2,zg D #[nm,e.age,e.last-1,(0),(0)],zg D #[nm,e.age,e.last,(0),(0)],e.last-1,(0),(0),Z,b7,by lia,a0,L8.same (v2.trans s5) d8,e6,iX (sc _ (by lia) (by lia)) I,iX (sc _ (by lia) (by lia)) I,r1 _ (by lia) (by lia),by rw[r1 _ (by lia) (by lia)];congr 2;lia,by rw[O,O],by rw[O,O],by rw[O];exact e8,by show((D.kn.take i).length:Int)<D.most;rw[JP,d.ms];lia,λH6 m6 W=>?_]
   refine g2 _ _ ?_
   rw[O e.last,show e.last-1+1=e.last by lia]at W
   simp only at W
   have ep:∀y,qP (D.kn.take i) nm y=D.kn.take i++[(nm,y)]:=λy=>by unfold qP;rw[Jb G]
   rw[ep]at W;have M:Mv (dS g) H5 H6:=m6.mono λc h z=>h (by simp only[Jp,JE,JF]at z;rcases z with rfl|rfl;exact iJ _;exact fV _)
   have S6:HE H H6:=λc o F=>M c o (λz=>by rw[fd c z]at F;cases F) (S5 _ _ (S _ _ F))
   have b6:D.kn.take (i+1)=D.kn.take i++[(nm,e)]:=by rw[RL,a5];rfl
   exists 4
   cases hwt:e.wt with
   |none=>
    rw[hwt]at N;have d0:vv= .non:=N
    refine fD d0 ?_
    have ee:(#[e.age,e.last,none]:Kb)=e:=by rw[<- hwt]
    rw[ee,<- b6]at W
    exact#[53,S6,W,by rw[Jz];show L.length+1<=_;lia,Z]
   |some xc=>
    let#[x9,l]:=xc;rw[hwt]at N;let#[p9,rfl,d7]:=N;let#[rfl,c1,c2]:=a4 x9 l hwt;have cb:=B.1.w _ _ hwt;refine Qf (by rw[Jl (by intro z;cases z)];rfl) ?_
    have c6:H6 p9=↑(.tup [.int e.age,.int l]):=M.tup b7.nt (S5 _ _ d7)
    refine#[0,g.p,Z,W.dr.no,10,p9,1,HP.of c6,Z,Hn,λc4 b2=>?_]
    have v3:=HE.upd (o:= .tup [.str nm,.int e.age,.int l,.int 0,.int 0]) b2
    refine#[j,c4,D,ns,#[nm,e.age,l,(0),(0)],Z,(J.same S6).same v3,I,qc,sc _ cb.1 cb.2,λp3 H8 s8 d3=>?_]
    have c7:Nd {D with least:=0,kn:=D.kn.take i++[(nm,#[e.age,e.last,none])]}:=#[I,GX _,d.ok.kl,by show(D.kn.take i++[_]).length<=60;rw[Jz,JP];show _+1<=60;lia,by rw[<- ep];exact fU a0.nd nm _]
    refine#[g,16,-p3,↑(zg D #[nm,e.age,l,(0),(0)]),Z,W.same (v3.trans s8),by rw[Jz];show L.length+1<=1000000;lia,c7,#[p3,Z,d3,iX (sc _ cb.1 cb.2) I],(λz=>nomatch z),λP d9 g4 q2 He g5 me _ g3 de=>?_]
    obtain rfl:_=P:=Jx d9
    have e1:(qX {D with least:=0,kn:=D.kn.take i++[(nm,#[e.age,e.last,none])]} (zg D #[nm,e.age,l,(0),(0)])).2=D.kn.take (i+1):=by
     have lk:(D.kn.take i++[(nm,(#[e.age,e.last,none]:Kb))]).lookup nm=some #[e.age,e.last,none]:=by rw[<- ep];exact As a0.nd
     rw[O];unfold qX;simp only
     rw[show Qj D.t (zN {D with least:=0,kn:=D.kn.take i++[(nm,#[e.age,e.last,none])]} e.age) nm (aJ D.t (zN D e.age) nm l 0)=↑(l,0)from eI I cb.1 cb.2 z5]
     unfold q8;simp only
     rw[lk];simp only
     rw[Jc (by unfold zn zX;rw[Jj (show(0:Int)<=e.age from a3),Jj (show e.age<(D.kss.length:Int)from Y),Jj (GX e.age)];rfl)]
     have es:zh D.near D.far #[e.age,e.last,none] e.age l=(("far":Str),(#[e.age,e.last,↑(e.age,l)]:Kb)):=by
      unfold zh;have n0:=d.n0;rw[Jb (show¬l<=e.last by lia),Jb (show¬l<=e.last+D.near by lia),Jc (show l<=e.last+D.far by lia),Jb (by intro z;cases z)]
     have b1:¬(("far":Str)="near"):=by decide +kernel
     rw[es,Jb (show¬(("far":Str),(#[e.age,e.last,↑(e.age,l)]:Kb)).1="near" from b1)]
     show qP (D.kn.take i++[(nm,_)]) nm #[e.age,e.last,↑(e.age,l)]=_
     have ee:(#[e.age,e.last,↑(e.age,l)]:Kb)=e:=by rw[<- hwt]
     unfold qP;rw[Jc (by simp),JI,b6,ee]
     congr 1
     .refine(Ir λp hp=>?_).trans (List.map_id _)
      rw[Jb (λz=>G (Ju.mpr #[p,hp,z]))];rfl
     .simp
    rw[e1]at de;have e7:Mv (dS g) H8 He:=me.mono λc h z=>h (by simp only[Jp,JE,JF]at z;rcases z with rfl|rfl;exact iJ _;exact fV _)
    refine#[53,(λc o F=>e7 c o (λz=>by rw[fd c z]at F;cases F) ((v3.trans s8) _ _ (S6 _ _ F))),de,by rw[Jz,Jz];show L.length+1+1<=_;lia,Z]
  .rintro σ X ⟨L,o2,o3,o4,o5,S,dl,hL,rfl⟩
   have b3:D.kn.length=ns.length:=by have:=JY List.length d.nn;rwa [Jf]at this
   have e2:=d.nl;have l0:=d.ok.l0;rw[Jf]at dl hL;rw[show D.kn.take ns.length=D.kn by rw[<- b3,J5]]at dl
   have n:=J.same S;exists 0,j.m,0,n.g_shut,23
   refine qQ (λy=>?_) (λy=>?_)
   .refine#[0,g.p,Z,dl.dr.no,0,j.m,0,n.g_shut,g,_,L,D.least,Z,dl,by lia,λD' r e5 H' m' d'=>?_]
    let#[rfl,rfl]:_=D'/\_=r:=by injection e5 with w;injection w with w1 w2;exact#[w1,w2]
    have hy:=JA y;have eD:({D with least:=if D.least>0 then D.least else 0}:Dr)=D:=by rw[Jc hy]
    have M:Mv (dS g) X H':=m'.mono λc h z=>h (by simp only[Jp,JE,JF]at z;rcases z with rfl|rfl;exact sL _;exact fV _)
    refine#[0,q g _ H' (λc o F=>M c o (λz=>by rw[fd c z]at F;cases F) (S _ _ F)) (fd _ (sL _)) (fd _ (tT _)) (fd _ (iJ _)) (fd _ (fV _)) (eD▸d') (by rw[Jz];show L.length+1<=30;lia)]
   .have hy:D.least=0:=by have h:=of_decide_eq_false (IC.mpr y);lia
    have eD:({D with least:=0}:Dr)=D:=by rw[<- hy]
    exact#[0,q g _ X S (fd _ (sL _)) (fd _ (tT _)) (fd _ (iJ _)) (fd _ (fV _)) (eD▸dl) (by lia)]
end
end Lw
namespace L3
open PySem PySem.Spec PyProof.Rows L2
theorem B6{K:ι}{te:TE}{Q:VK}{xs:Α}(c:Sq K H0 a xs)(hn:xs.length<=ζ)(Pv:Nat->Α->Hp->Prop)(d:Pv 0 [] H)(ps:∀i ys H',Pv i ys H'->HE H0 H')
  (hs:∀i ys H' x,xs[i]? =↑x->ys.length=i->Pv i ys H'->te (↑x::zV js σ) H' λv e=>Pv (i+1) (ys++[v]) e)
  (hd:∀ys H',ys.length=xs.length->Pv xs.length ys H'->∀p,H' p=none->Q (-p) (HG H' p (.lst ys))):((∃xs,HK K H a xs)/\aK (eO K a) js te σ H Q)\/((∃xs,HP K H a xs)/\aK (iY K a) js te σ H Q):=by
 rcases c with c|c
 .exact .inl #[#[_,(ps _ _ _ d).seq c],QK hn Pv d (λi ys H' p=>(ps i ys H' p).seq c) hs hd]
 .exact .inr #[#[_,HE.sqt (ps _ _ _ d) c],gY hn Pv d (λi ys H' p=>HE.sqt (ps i ys H' p) c) hs hd]
theorem wC(D:Dr)(nm:Str)(age:Int)(r:Option (Int×Int)):(q8 D nm age r).2.map (·.1)=D.kn.map (·.1):=by
 unfold q8;cases e:D.kn.lookup nm with
 |none=>rfl
 |some x=>
  simp only
  split
  .split
   .rfl
   .split
    .exact iS e
    .exact iS e
  .rfl
structure PN(K:ι)(H:Hp)(r:Δ)(qs:Ν):Prop where
 h:∃rs:Ι,Sq K H r (rs.map V.ref)/\rs.length=qs.length/\∀(i:Nat) (p:Δ) (P:Ps),rs[i]? =↑p->qs[i]? =↑P->MP H p P/\Nm P
def L9(H:Hp)(d:Δ)(ns:Β)(lo hi:Int)(n:Nat):Prop:=∃kvs:List (qE×V),H d=↑(.dK kvs)/\kvs.length<=n/\∀nm∈ns,∃z:Int,zZ kvs (Sum.inr nm:qE)=↑(.int z)/\lo<=z/\z<=hi
theorem y7(kvs:List (qE×V))(k:qE)(v:V):(Ml kvs k v).length<=kvs.length+1:=by
 unfold Ml;split
 .rw[Jf];lia
 .rw[Jz];exact Jd _
section
variable{lo hi:Int}{n:Nat}
theorem L9.get(h:L9 H d ns lo hi n)(hn:nm∈ns):∃z:Int,Md H d (.str nm) ↑(.int z)/\lo<=z/\z<=hi:=by
 let#[kvs,e,_,r]:=h;let#[z,c,a]:=r nm hn;have g:=Md.k (k:=(Sum.inr nm:qE)) e
 rw[c]at g
 exact#[z,g,a]
theorem L9.put(h:L9 H d ns lo hi n)(nm:Str){z:Int}(f:lo<=z)(a:z<=hi)(hn:n<=1000):∃H',M0 H d (.str nm) (.int z) H'/\Mv [d] H H'/\L9 H' d ns lo hi (n+1):=by
 let#[kvs,e,l,r]:=h;refine#[_,M0.k (k:=(Sum.inr nm:qE)) e (by rw[Jt];lia),Mv.upd1,_,qc,Jg (y7 ..) (by lia),λy c=>?_]
 rw[mN]
 by_cases q:(Sum.inr y:qE)=Sum.inr nm
 .rw[Jc q];exact#[z,Z,f,a]
 .rw[Jb q];exact r y c
theorem L9.to(h:L9 H d ns lo hi n)(hd:∀o,H d=↑o->H' d=↑o):L9 H' d ns lo hi n:=by
 let#[kvs,e,l,r]:=h
 exact#[kvs,hd _ e,l,r]
theorem L9.same(h:L9 H d ns lo hi n)(s:HE H H'):L9 H' d ns lo hi n:=h.to λo e=>s _ _ e
theorem L9.grc{b:Δ}(h:L9 H d ns lo hi n)(hb:Mn H b m)(g:Mj b c H H'):L9 H' d ns lo hi n:=by
 let#[kvs,e,_]:=id h;let#[x,y,z,a,_]:=id hb;exact h.to λo q=>g.kp _ _ (qD e a (by intro z;cases z)) q
theorem L9.of{zs:Ε}(e:H d=↑(.dK kvs))(hk:kvs.map (·.1)=ns.map Sum.inr)(q:ns.Nodup)(hl:ns.length<=n)(o:∀(i:Nat) (j:qE×V),kvs[i]? =↑j->∃z:Int,j.2= .int z/\lo<=z/\z<=hi):L9 H d ns lo hi n:=by
 have a:kvs.length=ns.length:=by have:=JY List.length hk;rwa [Jf,Jf]at this
 have g:(kvs.map (·.1)).Nodup:=by rw[hk];exact List.Pairwise.map _ (λx y (h:x≠y) z=>h (by injection z)) q
 refine#[kvs,e,by lia,λnm s=>?_]
 let#[i,hi]:=K6 s
 have c:i<kvs.length:=by rw[a];exact(Jw.mp hi).1
 have f:=Ji c;let#[z,p,m]:=o i _ f;have l:(kvs.map (·.1))[i]? =↑(Sum.inr nm):=by rw[hk,Jo,hi];rfl
 rw[Jo,f]at l;have r:kvs[i].1=Sum.inr nm:=Jx l
 refine#[z,?_,m]
 exact bT i (by rw[f];congr 1;exact Prod.ext r p) g
end
def Nl(H:Hp)(rl:Δ)(ss:β):Prop:=∃c:Ι,H rl=↑(.lst (c.map V.ref))/\c.length=ss.length/\∀(i:Nat) (a:Δ) (s:Sc),c[i]? =↑a->ss[i]? =↑s->eA H a s
section
theorem Nl.mv(h:Nl H rl ss)(m:Mv S H H')(nt:NT S H)(hr:rl∉S):Nl H' rl ss:=by
 let#[d,e,l,r]:=h
 exact#[d,m _ _ hr e,l,λi a s h1 c=>m.tup nt (r i a s h1 c)]
theorem Nl.same(h:Nl H rl ss)(s:HE H H'):Nl H' rl ss:=h.mv (S:=[]) s.mv iW (λh=>nomatch h)
theorem Nl.grc{b:Δ}(h:Nl H rl ss)(hb:Mn H b n)(g:Mj b n' H H'):Nl H' rl ss:=by
 let#[d,e,_]:=id h;let#[x,y,z,c,_]:=id hb;exact h.mv g.mv (Qm hb) (qK (qD e c (Qw 0 Z (by intro a z;cases z))))
theorem Nl.add{as:Ι}(e:H rl=↑(.lst (as.map V.ref)))(l:as.length=ss.length)(r:∀(i:Nat) (a:Δ) (s:Sc),as[i]? =↑a->ss[i]? =↑s->eA H a s)(hs:eA H a s):Nl (HG H rl (.lst (as.map V.ref++[-a]))) rl (ss++[s]):=by
 have m:Mv [rl] H (HG H rl (.lst (as.map V.ref++[-a]))):=Mv.upd1
 have nt:NT [rl] H:=NT.one e trivial
 refine#[as++[a],by rw[qc,JI];rfl,by simp [l],λi x y h1 d=>?_]
 rw[Ik]at h1 d
 by_cases f:i<as.length
 .rw[Jc f]at h1;rw[Jc (by lia)]at d
  exact m.tup nt (r i x y h1 d)
 .rw[Jb f]at h1;rw[Jb (by lia)]at d
  have c:i-as.length=0:=by
   cases c:i-as.length with
   |zero=>rfl
   |succ k=>rw[c]at h1;cases h1
  rw[c]at h1;rw[show i-ss.length=0 by lia]at d
  cases h1;cases d
  exact m.tup nt hs
end
inductive jh(K:ι)(vs:Α)(H:Hp)(Q:VK)(_:XK):Prop
 |mk (b:Δ)(wa:NO)(c many:Nat)(D:Dr)(ns:Β)(h1:vs=[-b,-wa.m,.int (many:Int)])(h2:Mn H b c)(h3:c<100000)(h4:L5 K H wa D ns)(h5:Nz D ns)(h6:many<=12)(h7:∀rl (ss:β) H',Mj b (c+200) H H'->H rl=none->Nl H' rl ss->(∀s∈ss,M3 D s)->ss.length=many->Q (-rl) H')
def Ni(H:Hp)(q:Δ)(D:Dr)(L:Υ):Prop:=∃(k lg:Δ) (ss:Β),H q=↑(.tup [-k,-lg,.int D.least])/\ss.Perm (D.kn.map (·.1))/\sortedS ss=true/\Nv H k ss D.kn/\Np H lg L
section
variable{K:ι}
theorem Ni.mv(h:Ni H q D L)(m:Mv S H H')(nt:NT S H):Ni H' q D L:=by
 let#[k,lg,ss,e,pm,a,c,lt]:=h
 exact#[k,lg,ss,m.tup nt e,pm,a,c.mvN m nt,lt.mv m nt]
theorem Ni.same(h:Ni H q D L)(s:HE H H'):Ni H' q D L:=h.mv (S:=[]) s.mv iW
theorem Ni.eqk(h1:Ni H q D L)(h2:Ni H p D L)(hl:L.length<=2000000):NW K H 6 (-q) (-p):=by
 let#[k,lg,ss,e,pm,m,o,lt]:=h1;let#[s,n,f,r,l,d,g,c]:=h2
 obtain rfl:ss=f:=oO pm m l d
 refine .tup (HP.of e) (HP.of r) Z λi x y ex a=>?_
 match i,ex,a with
 |0,ex,a=>cases ex;cases a;exact(uW o g (λnm h=>pm.mem_iff.mp h) (λnm=>rfl)).up.up
 |1,ex,a=>cases ex;cases a;exact(lt.eqv c hl).eqk.up
 |2,ex,a=>cases ex;cases a;exact .int _ _
 |j+3,ex,a=>cases ex
end
def NJ(H:Hp)(pl:Δ)(ps:Ν):Prop:=∃c:Ι,H pl=↑(.lst (c.map V.ref))/\c.length=ps.length/\∀(i:Nat) (a:Δ) (P:Ps),c[i]? =↑a->ps[i]? =↑P->MP H a P
inductive ip(K:ι)(C:Δ)(vs:Α)(H:Hp)(Q:VK)(_:XK):Prop
 |mk (a:Da)(D:Dr)(L:Υ)(h1:vs=[-a.p])(h2:Mr K C H a D L)(h3:Nd D)(h4:∀q H',HE H H'->Ni H' q D L->Q (-q) H')
inductive kI(K:ι)(vs:Α)(H:Hp)(Q:VK)(_:XK):Prop
 |mk (b:Δ)(wa:NO)(c most:Nat)(D:Dr)(ns:Β)(h1:vs=[-b,-wa.m,.int (most:Int)])(h2:Mn H b c)(h3:c<90000)(h4:L5 K H wa D ns)(h5:Nz D ns)(h6:most<=11)(h7:∀q rl pl (ss:β) H',Mj b (c+201) H H'->H rl=none->H pl=none->H' q=↑(.tup [-rl,-pl])->Nl H' rl ss->NJ H' pl (ss.map (zg D))->(∀s∈ss,M3 D s)->ss.length<=most->Q (-q) H')
inductive j8(K:ι)(C:Δ)(vs:Α)(H:Hp)(Q:VK)(_:XK):Prop
 |mk (sc:Δ)(ns:Ε)(k most:Nat)(h1:vs=[-sc,.int (k:Int),.int (most:Int)])(h2:HK K H sc (ns.map V.int))(h3:k<=1000)(h4:most<=11)(h5:∀q b rl pl (wa:NO)(a:Da)(D:Dr)(L:Υ)(nms:Β)(ss:β) H',HE H H'->H' q=↑(.tup [-b,-wa.m,-a.p,-rl,-pl])->H b=none->Mn H' b 1000->L5 K H' wa D nms->Nz D nms->Mr K C H' a D L->L.length<=30->b∉dS a->Nl H' rl ss->NJ H' pl (ss.map (zg D))->(∀s∈ss,M3 D s)->ss.length<=most->Q (-q) H')
end L3
namespace Lw
open PySem L2 L3
section
variable{K:ι}{tk:Nat->Tok}
theorem ma{ns:Β}{te:TE}{H:Hp}{P:VK}{lo hi:Int}(J:ns.length<=12)(r:ns.Nodup)(B:H M=↑(.lst (ns.map V.str)))
  (F:∀(i:Nat) (nm:Str) (A:Hp) (G:VK),ns[i]? =↑nm->HE H A->(∀z:Int,lo<=z->z<=hi->∀t,A t=none->G (-t) (HG A t (.tup [.str nm,.int z])))->te (↑(.str nm)::zV js σ) A G)
  (hd:∀(l:Δ) (as:Ι) (kvs:List (qE×V)) (H1:Hp),H1 l=↑(.lst (as.map V.ref))->as.length=kvs.length->(∀(i:Nat) (a:Δ) (n:qE×V),as[i]? =↑a->kvs[i]? =↑n->H1 a=↑(.tup [kV n.1,n.2]))->(∀g,H1 g=none->H g=none/\HE H (HG H1 g (.dK (Qh [] kvs)))/\L9 (HG H1 g (.dK (Qh [] kvs))) g ns lo hi 12)->P (-l) H1):aK (eO K M) js te σ H P:=by
 refine QK (K:=K) (xs:=ns.map V.str) (by rw[Jf,Jt];lia) (λi ys w=>HE H w/\∃(as:Ι) (zs:Ε),ys=as.map V.ref/\as.length=i/\zs.length=i/\(∀z∈zs,lo<=z/\z<=hi)/\∀(j:Nat) (x:Δ) (nm:Str) (z:Int),as[j]? =↑x->ns[j]? =↑nm->zs[j]? =↑z->w x=↑(.tup [.str nm,.int z])) #[HE.refl _,[],[],40,(λz h=>nomatch h),λj x nm z h=>by cases h] (λi ys w p=>HK.of (p.1 _ _ B)) ?_ ?_
 .rintro i ys w v N I ⟨q,as,zs,rfl,la,C,D,E⟩
  rw[Jo]at N;let#[nm,d,rfl]:=Ij.mp N;refine F i nm w _ d q λz Q S t R=>?_
  have O:=HE.upd (o:= .tup [.str nm,.int z]) R
  refine#[q.trans O,as++[t],zs++[z],by simp,by simp [la],by simp [C],(λy h=>(JD.mp h).elim (D y) λh=>by rw[Jm.mp h];exact#[Q,S]),λj x L y h1 f m=>?_]
  rw[Ik]at h1 m
  by_cases U:j<i
  .rw[Jc (by lia)]at h1 m
   exact O _ _ (E j x L y h1 f m)
  .rw[Jb (by lia)]at h1 m
   have e:j-as.length=0:=by
    cases e:j-as.length with
    |zero=>rfl
    |succ k=>rw[e]at h1;cases h1
   rw[e]at h1;rw[show j-zs.length=0 by lia]at m
   cases h1;cases m
   obtain rfl:j=i:=by lia
   rw[d]at f;cases f;exact qc
 rintro ys HA3 I ⟨q,as,zs,rfl,la,C,D,E⟩ l T
 rw[Jf]at la C;have HAu:=HE.upd (o:= .lst (as.map V.ref)) T
 have u:(ns.zip zs).length=ns.length:=by rw[RM];lia
 have c:∀(i:Nat) (p:Str×Int),(ns.zip zs)[i]? =↑p->ns[i]? =↑p.1/\zs[i]? =↑p.2:=λi p h=>by rw[List.getElem?_zip_eq_some]at h;exact h
 refine hd l as ((ns.zip zs).map λp=>((Sum.inr p.1:qE),V.int p.2)) _ qc (by rw[Jf,u,la]) (λi x n h1 f=>?_) λg s=>?_
 .rw[Jo]at f
  let#[p,z,rfl]:=Ij.mp f;exact HAu _ _ (E i x p.1 p.2 h1 (c i p z).1 (c i p z).2)
 have HAk:((ns.zip zs).map λp=>((Sum.inr p.1:qE),V.int p.2)).map (·.1)=ns.map Sum.inr:=by
  rw[GH]
  show(ns.zip zs).map (λp=>(Sum.inr p.1:qE))=_
  rw[show(λp:Str×Int=>(Sum.inr p.1:qE))=(Sum.inr∘Prod.fst)from Z,<- GH,List.map_fst_zip (by lia)]
 rw[cn _ [] (by rw[Iq,HAk];exact List.Pairwise.map _ (λx y (h:x≠y) z=>h (by injection z)) r),Iq]
 exact#[ZR s (q.trans HAu),(q.trans HAu).trans (HE.upd s),L9.of (zs:=zs) qc HAk r J (λi n h=>by
  rw[Jo]at h;let#[p,z,rfl]:=Ij.mp h
  exact#[p.2,Z,D p.2 (Jy (c i p z).2)])]
theorem tR(a:At K mg "_law_row" eT ["_law_box_here","_law_world_here","_law_many"])(T:Mq K mg tk)(dA:Df P w K mg base "_law_take" x4 1 Zv):Df P w K mg base "_law_row" X0 2 (jh K):=by
 refine a.dq L4 λf _ A _ s H vs Q E g h=>?_
 .let#[b,u,c,B,D,ns,rfl,hb,hc,wk,W,hm,q]:=h
  exists _,(qe (qG (i:=3) L4.nd Z (Or.inl Z) (qT (ci Z) T.b_dict PyProof.Rows.boot_dict (qd (zH (own:=["_law_name"]) (fr:=["_law_world_here"]) (js:=[1]) Z (zK (qC g (qv 1) qm)) Z (ao Z) Z (aq Z nofun nofun nofun Z Z Z) (λ_ _ _ _=>qk (i:=0) (show List.Nodup (["_law_name","_law_world_here"]:Β)from by decide +kernel) Z (Or.inl Z) (.inr Z)) (λ_ _ _ _=>(qF (qd (qv 0) (qd (qI (cM (K:=K) Z) (qC g (qC g (qv 1) qm) (qv 0)) qg) qb))))) qb)))
   (qe (qG (i:=4) L4.nd Z (Or.inl Z) (qT (ci Z) T.b_dict PyProof.Rows.boot_dict (qd (zH (own:=["_law_name"]) (fr:=["_law_world_here"]) (js:=[1]) Z (zK (qC g (qv 1) qm)) Z (ao Z) Z (aq Z nofun nofun nofun Z Z Z) (λ_ _ _ _=>qk (i:=0) (show List.Nodup (["_law_name","_law_world_here"]:Β)from by decide +kernel) Z (Or.inl Z) (.inr Z)) (λ_ _ _ _=>(qF (qd (qv 0) (qd (qI (cM (K:=K) Z) (qC g (qC g (qv 1) qm) (qv 0)) qg) qb))))) qb)))
   (qe (zo JR Z (zK (qC g (qv 1) qm)) (qk (i:=5) L4.nd Z (Or.inl Z))
   (qj (qM (QW.pt (aW (qA fH (qI qJ (qC g (qC g (qv 1) qm) (qv 5)) qg) zk (qz _)) (aN (qA zy (qt dA g.mo (qd (qv 0) (qd qg qb))) qg (qz _))))) (qj (Qx g (qv 3) (qv 5) (qI zp (qI qJ (qC g (qC g (qv 1) qm) (qv 5)) qg) qg))) qH)))
   (qe (qG (i:=6) L4.nd Z (Or.inl Z) (zb qb))
   (qe (zo JR Z (Qi Z T.b_range (qd (qv 2) qb)) (qk (i:=7) L4.nd Z (Or.inl Z))
   (qe (qG (i:=5) L4.nd Z (Or.inl Z) (qI qJ (qC g (qv 1) qm) (qt dA g.mo (qd (qv 0) (qd (qy (bz Z) T.b_min PyProof.Rows.boot_min (qd qg (qd (qy qN T.b_len JQ (qd (qC g (qv 1) qm) qb)) qb))) qb)))))
   (qe (qG (i:=8) L4.nd Z (Or.inl Z) (qI qJ (zb (qd qg (qd qg (qd qg (qd qg (qd qg (qd (qC g (qv 1) qm) (qd (qx qL (qC g (qv 1) qm) qg) (qd (qC g (qv 1) qm) (qd (qx qL (qC g (qv 1) qm) qg) (qd qg qb))))))))))) (qt dA g.mo (qd (qv 0) (qd qg qb)))))
   (qe (Qx g (qv 3) (qv 5) (qy (bz Z) T.b_min PyProof.Rows.boot_min (qd qg (qd (qx qL (qC g (qv 3) (qv 5)) (qv 8)) qb))))
   (qe (qM (qA zy (qt dA g.mo (qd (qv 0) (qd qg qb))) qg (qz _)) (qj (Qx g (qv 4) (qv 5) (qy (bz Z) T.b_min PyProof.Rows.boot_min (qd (qx Qr (qy qN T.b_len JQ (qd (qC g (qv 1) qm) qb)) qg) (qd (qx qL (qC g (qv 4) (qv 5)) qg) qb))))) qH)
   (qe (qG (i:=9) L4.nd Z (Or.inl Z) (cK (qA zy (qt dA g.mo (qd (qv 0) (qd qg qb))) qg (qz _)) (qI qJ (zb (qd qg (qd qg (qd qg (qd qg (qd qg (qd qg (qd qg (qd qg qb))))))))) (qt dA g.mo (qd (qv 0) (qd qg qb)))) qg))
   (qj (qM (QW.pt (aW (qA (Ey g) (qv 6) (zb qb) (qz _)) (aN (qA zy (qt dA g.mo (qd (qv 0) (qd qg qb))) qg (qz _))))) (qj (zJ (Q9 GI GY GZ zY (qv 6) (qd (qI qJ (qv 6) (qt dA g.mo (qd (qv 0) (qd (qy qN T.b_len JQ (qd (qv 6) qb)) qb)))) qb)))) (qj (qM (qA zy (qt dA g.mo (qd (qv 0) (qd qg qb))) qg (qz _)) (qj (zJ (Q9 GI GY GZ zY (qv 6) (qd (qF (qd qm (qd (qC g (qv 4) (qv 5)) (qd (qC g (qv 3) (qv 5)) (qd qg (qd (qv 9) qb)))))) qb)))) (qj (zJ (Q9 GI GY GZ zY (qv 6) (qd (qF (qd (qv 5) (qd (qC g (qv 4) (qv 5)) (qd (qC g (qv 3) (qv 5)) (qd (qt dA g.mo (qd (qv 0) (qd qg qb))) (qd (qv 9) qb)))))) qb))))))))))))))
   (qj (qw (qv 6))))))))
  have h5:=W.nl;have k1:=W.k1;have k8:=W.ok.kl;have e1:ns.Nodup:=W.nn▸W.ok.nd
  have O:∀nm∈ns,∃e,D.kn.lookup nm=↑e/\Oj D e/\1<=e.last/\∀x cc,e.wt=↑(x,cc)->0<=cc/\cc<4096/\1<=cc:=λnm hn=>by
   rw[<- W.nn]at hn;let#[e,S]:=QU hn;have z:=W.kb _ (Qt S);have n0:=W.n0
   exact#[e,S,z.1,z.2,λx cc hw=>#[(z.1.w x cc hw).1,(z.1.w x cc hw).2,by have:=(W.wt _ (Qt S) x cc hw).2.1;have:=z.2;simp only at *;lia]]
  refine ZP λD1 d1=>?_
  refine#[0,u.m,0,wk.g_names,u.nl,Z,#[_,HK.of wk.nm],ma (lo:=1) (hi:=4095) h5 e1 wk.nm (λi nm F G hn s3 hG=>?_) λl as kvs H1 h1 h2 h3 hf=>#[l,as,kvs,Z,h1,h2,h3,λC c2=>?_]]
  .have w3:=wk.same s3
   let#[e,S,a5,d7,_]:=O nm (Jy hn)
   let#[e',x0,J,gg,vv,a6,a1]:=(w3.kb.get nm).resolve_left (λz=>by rw[S]at z;cases z.1)
   rw[S]at J;cases J
   exact#[2,u.m,0,w3.g_known,0,u.kd,0,gg,x0,1,HK.of a6,Z,Hj,λt ht=>hG e.last d7 (by have:=a5.l1;lia) t ht]
  let#[HAf,HAs,HAi]:=hf C c2;generalize HG H1 C _=HA at HAs HAi⊢
  refine d1 _ _ ?_
  have N:=wk.same HAs;refine ZP λD2 d2=>?_
  refine#[0,u.m,0,N.g_names,u.nl,Z,#[_,HK.of N.nm],ma (lo:=0) (hi:=((D.kss.length:Int)-1)) h5 e1 N.nm (λi nm F G hn s3 hG=>?_) λl as kvs H1 h1 h2 h3 hf=>#[l,as,kvs,Z,h1,h2,h3,λI c2=>?_]]
  .have w3:=N.same s3
   let#[e,S,a5,d7,_]:=O nm (Jy hn)
   let#[e',x0,J,gg,vv,a6,a1]:=(w3.kb.get nm).resolve_left (λz=>by rw[S]at z;cases z.1)
   rw[S]at J;cases J
   exact#[2,u.m,0,w3.g_known,0,u.kd,0,gg,x0,1,HK.of a6,Z,Hj,λt ht=>hG e.age a5.a0 (by have:=a5.a1;lia) t ht]
  let#[HBf,HBs,HBi]:=hf I c2;generalize HG H1 I _=HB at HBs HBi⊢
  refine d2 _ _ ?_
  have b3:=N.same HBs;have IA:=HAi.same HBs;have b6:C≠I:=λz=>by let#[kv,e,_]:=HAi;rw[z,HBf]at e;cases e
  have S0:=HAs.trans HBs;have fg:H I=none:=ZR HBf HAs
  have G0:Mj b c H HB:=#[λx o _ e=>S0 _ _ e,(S0.grc hb).bx]
  have put:∀{F H':Hp} {d:Δ} {n:Nat},Mj b n H F->H d=none->Mv [d] F H'->(∀x y z:Int,F d≠↑(jq x y z))->Mj b n H H':=λ{F H' d n} G fd m nb=>#[λx o hx e=>m _ _ (qK (qr e fd)) (G.kp x o hx e),G.bx.moved m (qK (λz=>by let#[x1,x2,x3,e,_]:=G.bx;rw[z]at e;exact nb _ _ _ e))]
  have c5:∀{F:Hp} {d:Δ} {lo hi:Int} {n:Nat},L9 F d ns lo hi n->∀x y z:Int,F d≠↑(jq x y z):=λh x y z w=>by let#[kv,e,_]:=h;rw[e]at w;cases w
  refine ZP λD3 d3=>?_
  exists 0,u.m,0,b3.g_names,u.nl,Z,#[_,HK.of b3.nm]
  refine Q2 (K:=K) (xs:=ns.map V.str) (Pv:=λi σ F=>∃(o5:Μ),Mj b (c+i) H F/\L9 F C ns 1 4095 (12+i)/\L9 F I ns 0 ((D.kss.length:Int)-1) 12/\σ=[↑(-b),↑(-u.m),↑(.int (B:Int)),↑(-C),↑(-I),o5,none,none,none,none]) #[_,G0,IA,HBi,Z] (λi σ F _ ⟨_,G,_⟩=>HK.of (wk.grc hb G).nm) ?_ ?_
  .rintro i v σ F hv ⟨o5,G,ia,ig,rfl⟩
   let#[nm,rfl,b4]:∃nm,v= .str nm/\ns[i]? =↑nm:=by
    rw[Jo]at hv;cases z:ns[i]? with
    |none=>rw[z]at hv;cases hv
    |some y=>rw[z]at hv;cases hv;exact#[y,7]
   have hi:i<ns.length:=(Jw.mp b4).1
   have wx:=wk.grc hb G;let#[e,S,a5,d7,l4]:=O nm (Jy b4)
   let#[e',x0,J,gg,vv,a6,a1]:=(wx.kb.get nm).resolve_left (λz=>by rw[S]at z;cases z.1)
   rw[S]at J;cases J
   have stay:∀{H':Hp} {n':Nat} {o:Μ},Mj b n' H H'->n'<=c+(i+1)->L9 H' C ns 1 4095 (12+i)->L9 H' I ns 0 ((D.kss.length:Int)-1) 12->∃(o5:Μ),Mj b (c+(i+1)) H H'/\L9 H' C ns 1 4095 (12+(i+1))/\L9 H' I ns 0 ((D.kss.length:Int)-1) 12/\[↑(-b),↑(-u.m),↑(.int (B:Int)),↑(-C),↑(-I),o,none,none,none,none]=[↑(-b),↑(-u.m),↑(.int (B:Int)),↑(-C),↑(-I),o5,none,none,none,none]:=λ{H' n' o} M a4 h1 h2=>#[o,M.mono a4,let⟨kv,e,l,r⟩:=h1;#[kv,e,by lia,r],h2,Z]
   exists 0,u.m,0,wx.g_known,0,u.kd,0,gg,x0,1,HK.of a6,51
   refine qQ (λy=>?_) (λ_=>stay G (by lia) ia ig)
   refine#[0,b,5,G.bx,by lia,⋯,⋯,λr H1 r0 r1 g1=>#[17,?_]]
   have G1:=G.trans g1;refine qQ (λ_=>?_) (λ_=>stay G1 (by lia) (ia.grc G.bx g1) (ig.grc G.bx g1))
   have w1:=wk.grc hb G1;let#[e',x1,J,o6,r4,o4,f0]:=(w1.kb.get nm).resolve_left (λz=>by rw[S]at z;cases z.1)
   rw[S]at J;cases J
   cases hw:e.wt with
   |none=>rw[hw]at a1;have a1:vv= .non:=a1;rw[a1]at y;simp at y
   |some xc=>
    rw[hw]at f0;let#[p,rfl,hp]:=f0;have s4:=l4 _ _ hw;let#[H2,dp,m2,p1]:=(ia.grc G.bx g1).put nm (z:=xc.2) (by lia) (by lia) (by lia)
    exists 0,u.m,0,w1.g_known,0,u.kd,0,o6,x1,1,HK.of o4,Z,p,1,HP.of hp,42,C,H2,Z,dp
    exact#[_,(put G1 HAf m2 (c5 (ia.grc G.bx g1))).mono (by lia),by rw[show 12+(i+1)=12+i+1 by lia];exact p1,(ig.grc G.bx g1).to (λo q=>m2 _ _ (qK b6.symm) q),Z]
  rintro σ F ⟨o5,G,ia,ig,rfl⟩
  rw[Jf]at G ia;refine d3 _ _ ?_
  refine ZP λD4 d4=>?_
  refine#[Hh,λrl h8=>?_]
  have ur:=HE.upd (o:= .lst []) h8
  have e8:H rl=none:=G.fresh (hb.mono (by lia)) h8
  have Gr0:Mj b (c+12) H (HG F rl (.lst [])):=(G.same ur).mono (by lia)
  have f3:Nl (HG F rl (.lst [])) rl []:=#[[],qc,Z,λi a s h=>(by cases h)]
  have h0:=ia.same ur;have g4:=ig.same ur;generalize HG F rl (.lst [])=Hr at Gr0 f3 h0 g4⊢
  refine d4 _ _ ?_
  exists 2,by lia,by lia
  rw[GD];refine Zy (n:=B) (Pv:=λi σ F=>∃(ss:β) (o5 o7 o8 o9:Μ),Mj b (c+12+10*i) H F/\L9 F C ns 1 4095 (24+i)/\L9 F I ns 0 ((D.kss.length:Int)-1) (12+i)/\Nl F rl ss/\ss.length=i/\(∀s∈ss,M3 D s)/\σ=[↑(-b),↑(-u.m),↑(.int (B:Int)),↑(-C),↑(-I),o5,↑(-rl),o7,o8,o9]) #[[],50,Gr0,(let⟨kv,e,l,r⟩:=h0;#[kv,e,by lia,r]),g4,f3,Z,(λs h=>nomatch h),Z] ?_ ?_
  .rintro i σ Hy hi ⟨ss,o5,o7,o8,o9,G,ia,ig,sl,ls,b1,rfl⟩
   have n1:=W.n1;have wy:=wk.grc hb G;refine ZP λE1 f1=>?_
   refine#[0,u.m,0,wy.g_names,2,u.m,0,wy.g_names,u.nl,0,.inl (HK.of wy.nm),5,b,5,G.bx,by lia,by rw[Jf];split<;>lia,by rw[Jf];split<;>lia,λxj H1 j0 j1 g1=>?_]
   rw[Jf]at j1;let#[j,rfl]:∃j:Nat,xj=(j:Int):=#[xj.toNat,by lia]
   have hj:j<ns.length:=by revert j1;split<;>intro j1<;>lia
   have G1:=G.trans g1;have w1:=wk.grc hb G1;exists u.nl,16,.str ns[j],7,HK.of w1.nm,zI (by rw[Jo,Ji hj];rfl)
   have X:=Gz hj;generalize ns[j]=nm at X
   refine f1 _ _ ?_
   refine ZP λE2 g2=>?_
   refine#[0,u.m,0,w1.g_near,0,u.m,0,w1.g_near,23,u.m,0,w1.g_far,0,u.m,0,w1.g_far,6,Hq,λl2 e5=>?_]
   have u2:=HE.upd (o:= .lst [.int 1,.int 1,.int 1,.int 1,.int 2,.int D.near,.int (D.near+1),.int D.far,.int (D.far+1),.int 0]) e5
   refine#[0,b,5,(u2.grc G1.bx).bx,by lia,⋯,⋯,λr3 H3 m0 o2 g3=>?_]
   let#[v,hv,a3]:=aL (xs:=[V.int 1,.int 1,.int 1,.int 1,.int 2,.int D.near,.int (D.near+1),.int D.far,.int (D.far+1),.int 0]) m0 o2
   have n0:=W.n0;have nf:=W.nf;have f2:=W.f2;let#[U,rfl,s0]:∃z:Int,v= .int z/\0<=z:=by
    simp only[Jp,JE,JF]at a3;rcases a3 with rfl|rfl|rfl|rfl|rfl|rfl|rfl|rfl|rfl|rfl<;>first|exact#[0,⋯]|exact#[0,by lia]
   exists l2,1,HK.of (g3.kp _ _ (Qu G1.bx e5) qc),hv
   refine g2 _ _ ?_
   have G3:Mj b (c+12+10*i+2) H H3:=((G1.same u2).trans g3).mono (by lia)
   have b2:=((ia.grc G.bx g1).same u2).grc (u2.grc G1.bx).bx g3;have k9:=((ig.grc G.bx g1).same u2).grc (u2.grc G1.bx).bx g3;have f6:=((sl.grc G.bx g1).same u2).grc (u2.grc G1.bx).bx g3;let#[z,gz,z0,z1]:=b2.get X;let#[H4,p2,m4,p3]:=b2.put nm (z:=if z+U<4095 then z+U else 4095) (by split<;>lia) (by split<;>lia) (by lia)
   exists 2,C,0,gz,43,C,H4,Z,p2
   let#[q6,g7,_]:=id b2;have l5:NT [C] H3:=NT.one g7 trivial
   let#[r2,m7,_]:=id f6;have G4:=put G3 HAf m4 (c5 b2);have l1:=k9.to (λo q0=>m4 _ _ (qK b6.symm) q0)
   have l7:=f6.mv m4 l5 (qK (qD m7 g7 (by intro z;cases z)))
   refine DP (λg0 H'=>Mj b (c+12+10*i+3) H H'/\L9 H' C ns 1 4095 (24+(i+1))/\L9 H' I ns 0 ((D.kss.length:Int)-1) (12+(i+1))/\Nl H' rl ss/\g0=[↑(-b),↑(-u.m),↑(.int (B:Int)),↑(-C),↑(-I),↑(.str nm),↑(-rl),↑(.int (0+(i:Int))),↑(.int U),o9]) (λD' s2 d9=>?_) ?_
   .refine#[0,b,5,G4.bx,by lia,⋯,⋯,λr H5 r0 r1 g5=>#[17,?_]]
    have G5:=G4.trans g5;have o3:=p3.grc G4.bx g5;have b0:=l1.grc G4.bx g5;have c0:=l7.grc G4.bx g5;have b5:L9 H5 C ns 1 4095 (24+(i+1)):=by rw[show 24+(i+1)=24+i+1 by lia];exact o3
    refine qQ (λ_=>?_) (λ_=>d9 _ _ #[G5.mono (by lia),b5,(let⟨kv,e,l,r⟩:=b0;#[kv,e,by lia,r]),c0,Z])
    have w5:=wk.grc hb G5;let#[l3,l6,i1,_]:=id w5.ks;let#[y,gy,y0,y1]:=b0.get X;let#[H6,n8,m6,n3]:=b0.put nm (z:=if y+1<(D.kss.length:Int)-1 then y+1 else(D.kss.length:Int)-1) (by split<;>lia) (by split<;>lia) (by lia)
    have h9:(l3.map V.ref).length=D.kss.length:=by rw[Jf];exact i1
    exists 0,u.m,0,w5.g_keys,u.ml,0,.inl (HK.of l6),57,I,0,gy,_,_,Z,Z,_,_,Z
    rw[h9];exists 2,I,H6,Z,n8
    let#[r8,g6,_]:=id b0;let#[r7,i2,_]:=id c0;exact d9 _ _ #[(put G5 fg m6 (c5 b0)).mono (by lia),b5.to (λo q0=>m6 _ _ (qK b6) q0),by rw[show 12+(i+1)=12+i+1 by lia];exact n3,c0.mv m6 (NT.one g6 trivial) (qK (qD i2 g6 (by intro z;cases z))),Z]
   rintro g0 H7 ⟨G7,p6,k4,m5,rfl⟩
   refine ji (t:=AY _ _ _) (λv H'=>∃ft:Int,v= .int ft/\0<=ft/\ft<=3/\Mj b (c+12+10*i+5) H7 H') (λQ' hQ=>?_) (λv H8 ⟨ft,ev,e3,f5,g8⟩=>?_)
   .refine#[0,b,5,G7.bx,by lia,⋯,⋯,λr H8 r0 r1 g8=>#[17,?_]]
    refine qQ (λ_=>?_) (λ_=>hQ _ _ #[(0),Z,⋯,⋯,g8.mono (by lia)])
    refine#[Ho,λl9 e6=>?_]
    have u9:=HE.upd (o:= .lst [.int 0,.int 0,.int 0,.int 0,.int 0,.int 1,.int 2,.int 3]) e6
    refine#[0,b,5,(u9.grc g8.bx).bx,by lia,⋯,⋯,λr9 H9 p0 l0 g9=>?_]
    let#[v,hv,a3]:=aL (xs:=[V.int 0,.int 0,.int 0,.int 0,.int 0,.int 1,.int 2,.int 3]) p0 l0
    refine#[l9,1,HK.of (g9.kp _ _ (Qu g8.bx e6) qc),hv,hQ _ _ ?_]
    have gg:Mj b (c+12+10*i+5) H7 H9:=((g8.same u9).trans g9).mono (by lia)
    simp only[Jp,JE,JF]at a3;rcases a3 with rfl|rfl|rfl|rfl|rfl|rfl|rfl|rfl<;>exact#[0,⋯,⋯,gg]
   subst ev;have G8:=G7.trans g8;have h6:=p6.grc G7.bx g8;have f4:=k4.grc G7.bx g8;have c3:=m5.grc G7.bx g8;have h7:ZF "nobody":=#[nofun,nofun,nofun]
   have n2:bB 3:=#[⋯,⋯]
   have d6:∀(s:Sc) (x:Δ) (as:Ι) (Hz:Hp) (n':Nat),Mj b n' H Hz->n'<=c+12+10*(i+1)->L9 Hz C ns 1 4095 (24+(i+1))->L9 Hz I ns 0 ((D.kss.length:Int)-1) (12+(i+1))->Hz rl=↑(.lst (as.map V.ref))->as.length=ss.length->(∀(i:Nat) (a:Δ) (s:Sc),as[i]? =↑a->ss[i]? =↑s->eA Hz a s)->eA Hz x s->M3 D s->∃(c6:β) (o5 o7 o8 o9:Μ),Mj b (c+12+10*(i+1)) H (HG Hz rl (.lst (as.map V.ref++[-x])))/\L9 (HG Hz rl (.lst (as.map V.ref++[-x]))) C ns 1 4095 (24+(i+1))/\L9 (HG Hz rl (.lst (as.map V.ref++[-x]))) I ns 0 ((D.kss.length:Int)-1) (12+(i+1))/\Nl (HG Hz rl (.lst (as.map V.ref++[-x]))) rl c6/\c6.length=i+1/\(∀s∈c6,M3 D s)/\[↑(-b),↑(-u.m),↑(.int (B:Int)),↑(-C),↑(-I),↑(.str nm),↑(-rl),↑(.int (0+(i:Int))),↑(.int U),↑(.int ft)]=[↑(-b),↑(-u.m),↑(.int (B:Int)),↑(-C),↑(-I),o5,↑(-rl),o7,o8,o9]:=λs x as Hz n' M a4 Y a0 er l8 hs hx p5=>by
    let#[r5,ea,_]:=id Y;let#[q7,eg,_]:=id a0;refine#[ss++[s],50,(put M e8 Mv.upd1 (λx y z w=>by rw[er]at w;exact Qw (as:=as) 0 Z (by intro a z;cases z) (Jx w))).mono a4,Y.to (λo q0=>by rw[qh (qD ea er (by intro z;cases z))];exact q0),a0.to (λo q0=>by rw[qh (qD eg er (by intro z;cases z))];exact q0),Nl.add er l8 hs hx,by simp [ls],λy hy=>(JD.mp hy).elim (b1 y) λh=>by rw[Jm.mp h];exact p5,Z]
   refine yV ?_
   refine DF (λbb H'=>∃n',Mj b n' H H'/\n'<=c+12+10*i+6/\L9 H' C ns 1 4095 (24+(i+1))/\L9 H' I ns 0 ((D.kss.length:Int)-1) (12+(i+1))/\Nl H' rl ss/\(bb=true->1<=ss.length)) (λQ' hQ=>?_) (λH' ⟨n',M,a4,Y,a0,a2,h1⟩=>?_) (λH' ⟨n',M,a4,Y,a0,a2,_⟩=>?_)
   .let#[n7,o0,o1,_]:=id c3
    refine#[0,Hh,λle i0=>?_]
    have ue:=HE.upd (o:= .lst []) i0
    exists rl,le,47,HK.of (ue _ _ o0),HK.of qc,0
    have Ge:=G8.same ue;refine qQ (λy=>?_) (λ_=>hQ _ _ #[_,Ge,by lia,h6.same ue,f4.same ue,c3.same ue,λz=>nomatch z])
    refine#[0,b,5,Ge.bx,by lia,⋯,⋯,λr H9 r0 r1 g9=>#[17,hQ _ _ #[_,Ge.trans g9,by lia,(h6.same ue).grc Ge.bx g9,(f4.same ue).grc Ge.bx g9,(c3.same ue).grc Ge.bx g9,λ_=>?_]]]
    rw[<- o1];cases n7 with
    |nil=>simp at y
    |cons p r=>show 1<=r.length+1;lia
   .have h1:=h1 Z
    let#[R,L,c1,c4]:=id a2;refine#[0,.inl #[37,HK.of L],3,rl,0,.inl (HK.of L),b,5,M.bx,by lia,by rw[Jf];lia,by rw[Jf];lia,λxk Ha k0 m1 ga=>?_]
    rw[Jf]at m1;let#[k,rfl]:∃k:Nat,xk=(k:Int):=#[xk.toNat,by lia]
    have hk:k<R.length:=by lia
    have r6:=a2.grc M.bx ga;have d5:=ga.kp _ _ (by let#[y1,y2,y3,eb,_]:=M.bx;exact qD L eb (Qw 0 Z (by intro a z;cases z))) L
    have e2:∀(i:Nat) (a:Δ) (s:Sc),R[i]? =↑a->ss[i]? =↑s->eA Ha a s:=λi a s h1 h2=>ga.mv.tup (Qm M.bx) (c4 i a s h1 h2)
    have e4:k<ss.length:=by lia
    exists rl,16,.ref R[k],7,HK.of d5,zI (by rw[Jo,Ji hk];rfl),rl,6,d5,by rw[Jf,Jt];lia
    exact d6 ss[k] R[k] R Ha _ (M.trans ga) (by lia) (Y.grc M.bx ga) (a0.grc M.bx ga) d5 c1 e2 (e2 k _ _ (Ji hk) (Ji e4)) (b1 _ (Gz e4))
   .refine#[0,b,5,M.bx,by lia,⋯,⋯,λr Ha r0 r1 ga=>#[17,?_]]
    have Ga:=M.trans ga;have b7:=Y.grc M.bx ga;have c7:=a0.grc M.bx ga;let#[R,L,c1,c4]:=id (a2.grc M.bx ga)
    let#[y,gy,y0,y1]:=c7.get X;let#[z9,e7,s1,p9]:=b7.get X;refine qQ (λ_=>?_) (λ_=>?_)
    .refine#[0,.inl #[37,HK.of L],2,I,0,gy,2,C,0,e7,0,Hn,λtt d8=>?_]
     have ut:=HE.upd (o:= .tup [.str "nobody",.int y,.int z9,.int 3,.int ft]) d8
     exists rl,6,ut _ _ L,by rw[Jf,Jt];lia
     exact d6 #["nobody",y,z9,(3),ft] tt R _ _ (Ga.same ut) (by lia) (b7.same ut) (c7.same ut) (ut _ _ L) c1 (λi a s h1 h2=>ut _ _ (c4 i a s h1 h2)) qc #[h7,y0,by show y<(D.kss.length:Int);lia,by show 0<=z9;lia,by show z9<4096;lia,n2,e3,f5]
    .refine#[0,.inl #[37,HK.of L],3,I,0,gy,2,C,0,e7,0,b,5,Ga.bx,by lia,⋯,⋯,λd Hb d0 d1 gb=>#[0,Hn,λtt d8=>?_]]
     have Gb:=Ga.trans gb;let#[m3,h4,k2,p4]:=id ((a2.grc M.bx ga).grc Ga.bx gb)
     have ut:=HE.upd (o:= .tup [.str nm,.int y,.int z9,.int d,.int ft]) d8
     exists rl,6,ut _ _ h4,by rw[Jf,Jt];lia
     exact d6 #[nm,y,z9,d,ft] tt m3 _ _ (Gb.same ut) (by lia) ((b7.grc Ga.bx gb).same ut) ((c7.grc Ga.bx gb).same ut) (ut _ _ h4) k2 (λi a s h1 h2=>ut _ _ (p4 i a s h1 h2)) qc #[W.nm nm X,y0,by show y<(D.kss.length:Int);lia,by show 0<=z9;lia,by show z9<4096;lia,#[d0,d1],e3,f5]
  .rintro σ Hy ⟨ss,o5,o7,o8,o9,G,ia,ig,sl,ls,b1,rfl⟩
   exact#[0,q rl ss _ (G.mono (by lia)) e8 sl b1 ls]
theorem kR(a:At K mg "_law_stands" aV ["_law_door_here"])(T:Mq K mg tk)(U:MS K C)(n:Mf P w K mg base C "known_now" V1 1 (mf K C))(u:Mf P w K mg base C "log_now" V1 1 (vi K C))(p:Mf P w K mg base C "closed_now" V1 1 (ky K C)):Df P w K mg base "_law_stands" ["_law_door_here"] 2 (ip K C):=by
 refine a.dq k6 λf _ A _ s H y Q E e h=>?_
 .let#[x,D,L,rfl,b,ok,q]:=h
  exists _,(qj (qw (qF (qd (cA n U.cl e.mo (qv 0)) (qd (cA u U.cl e.mo (qv 0)) (qd (cA p U.cl e.mo (qv 0)) qb))))))
  refine#[0,x.p,Z,b.dr.no,x.p,x.ta,x.hk,x.bd,x.lg,L.length,D,Z,b.dr,ok,λk ss H1 j pm l m=>?_]
  have g:=b.same j;refine#[0,x.p,Z,g.dr.no,x,D,L,Z,g,λlg v d lt=>?_]
  have i:=g.same d;refine#[0,x.p,Z,i.dr.no,x.p,x.ta,x.hk,x.bd,x.lg,L.length,D,Z,i.dr,Hl,λt r=>?_]
  have c:=HE.upd (o:= .tup [-k,-lg,.int D.least]) r
  exact q t _ (j.trans (d.trans c)) #[k,lg,ss,qc,pm,l,m.same (d.trans c),lt.same c]
theorem gQ(a:At K mg "_law_other_row" ZO ["_law_box_here","_law_world_here","_law_most"])(T:Mq K mg tk)(dA:Df P w K mg base "_law_take" x4 1 Zv)(dY:Df P w K mg base "_law_row" X0 2 (jh K))(dG:Df P w K mg base "_law_press" X2 4 (bp K)):Df P w K mg base "_law_other_row" X6 5 (kI K):=by
 refine a.dq MO λf _ A _ s H vs Q E N h=>?_
 .let#[b,wa,c,a0,D,ns,rfl,B,hc,wk,wo,hm,q]:=h
  exists _,(qe (qG (i:=3) MO.nd Z (Or.inl Z) (qt dY N.mo (qd (qv 0) (qd (qv 1) (qd (qt dA N.mo (qd (qv 0) (qd (qx qL (qv 2) qg) qb))) qb)))))
   (qj (qw (qF (qd (qv 3) (qd (zH (own:=["_law_spec"]) (fr:=["_law_world_here"]) (js:=[1]) Z (zK (qv 3)) Z (ao Z) Z (aq Z nofun nofun nofun Z Z Z) (λ_ _ _ _=>qk (i:=0) (show List.Nodup (["_law_spec","_law_world_here"]:Β)from by decide +kernel) Z (Or.inl Z) (.inr Z)) (λ_ _ _ _=>(qt dG N.mo (qd (qv 1) (qd (qv 0) qb))))) qb))))))
  refine#[18,b,5,B,by lia,by lia,by lia,λr H1 r0 r1 G=>?_]
  let#[C,rfl]:∃j:Nat,r=(j:Int):=#[r.toNat,by lia]
  refine#[b,wa,_,C,D,ns,Z,G.bx,by lia,wk.grc B G,wo,by lia,λrl ss H2 g2 X sl p a1=>?_]
  have M:=G.trans g2;have J:=wk.grc B M;let#[y,e0,n,h0]:=id sl;exists 2,rl,Z,#[_,HK.of e0]
  refine QK (K:=K) (xs:=y.map V.ref) (by rw[Jf,n,Jt];lia) (λi ys m=>HE H2 m/\∃d:Ι,ys=d.map V.ref/\d.length=i/\∀(j:Nat) (x:Δ) (s:Sc),d[j]? =↑x->ss[j]? =↑s->MP m x (zg D s)) #[HE.refl _,[],7,λj x s h=>(by cases h)] (λi ys m ⟨sz,_⟩=>HK.of (sz _ _ e0)) ?_ ?_
  .rintro i ys m v t W ⟨sz,d,rfl,la,I⟩
   rw[Jo]at t;cases es:y[i]? with
   |none=>rw[es]at t;cases t
   |some x0=>
    rw[es]at t
    obtain rfl:V.ref x0=v:=Jx t
    have hi:i<ss.length:=by rw[<- n];exact(Jw.mp es).1
    have u:=Ji hi;refine#[2,wa,x0,D,ns,ss[i],Z,J.same sz,wo.ok.tp,sz _ _ (h0 i x0 _ es u),p _ (Gz hi),λpr Hw sw U=>?_]
    refine#[sz.trans sw,d++[pr],by simp,by simp [la],λj x s h1 g=>?_]
    rw[Ik]at h1;split at h1
    .exact L8.same sw (I j x s h1 g)
    .have R:j-d.length=0:=by
      cases R:j-d.length with
      |zero=>rfl
      |succ k=>rw[R]at h1;cases h1
     rw[R]at h1;cases h1
     obtain rfl:j=i:=by lia
     rw[u]at g;cases g;exact U
  rintro ys m W ⟨sz,d,rfl,la,I⟩ pl F
  rw[Jf]at la;have up:=HE.upd (o:= .lst (d.map V.ref)) F
  have pL:NJ (HG m pl (.lst (d.map V.ref))) pl (ss.map (zg D)):=#[d,qc,by rw[Jf,la,n],λi x P h1 g=>by
   rw[Jo]at g;cases z:ss[i]? with
   |none=>rw[z]at g;cases g
   |some s=>rw[z]at g;cases g;exact L8.same up (I i x s h1 z)]
  refine#[Hj,λqq O=>?_]
  have L:=HE.upd (o:= .tup [-rl,-pl]) O
  have S:=sz.trans (up.trans L);have Y:NJ (HG (HG m pl (.lst (d.map V.ref))) qq (.tup [-rl,-pl])) pl (ss.map (zg D)):=let⟨x,e,l,r⟩:=pL;#[x,L _ _ e,l,λi a P h1 g=>L8.same L (r i a P h1 g)]
  exact q qq rl pl ss _ ((M.same S).mono (by lia)) (G.fresh (B.mono (by lia)) X) (M.fresh (B.mono (by lia)) (ZR F sz)) qc (sl.same S) Y p (by lia)
theorem mK(a:At K mg "_law_begun" bD ["_law_script","_law_k","_law_most"])(T:Mq K mg tk)(U:MS K C)(yF:Df P w K mg base "_law_box" ["_law_script","_law_k"] 1 (wT K))(dA:Df P w K mg base "_law_take" x4 1 Zv)(xS:Df P w K mg base "_law_world" ["_law_box_here","_law_great"] 3 (kN K))(dY:Df P w K mg base "_law_row" X0 2 (jh K))(x6:Df P w K mg base "_law_door" ["_law_world_here"] 8 (mR K C))(dG:Df P w K mg base "_law_press" X2 4 (bp K)):Df P w K mg base "_law_begun" W5 9 (j8 K C):=by
 refine a.dq MJ λf _ A _ s H vs Q E p h=>?_
 .let#[sc,ns,k,a5,rfl,hS,hk,hm,q]:=h
  exists _,(qe (qG (i:=3) MJ.nd Z (Or.inl Z) (qt yF p.mo (qd (qv 0) (qd (qv 1) qb))))
   (qe (qG (i:=4) MJ.nd Z (Or.inr Z) (qt xS p.mo (qd (qv 3) (qd (Q4 (Qn zy (qv 1) qg (qz _)) (ZJ (Qn zy (qt dA p.mo (qd (qv 3) (qd qg qb))) qg (qz _)))) qb))))
   (qe (qG (i:=5) MJ.nd Z (Or.inl Z) (qt dY p.mo (qd (qv 3) (qd (qv 4) (qd (qt dA p.mo (qd (qv 3) (qd (qx qL (qv 2) qg) qb))) qb)))))
   (qj (qw (qF (qd (qv 3) (qd (qv 4) (qd (qt x6 p.mo (qd (qv 4) qb)) (qd (qv 5) (qd (zH (own:=["_law_spec"]) (fr:=["_law_world_here"]) (js:=[4]) Z (zK (qv 5)) Z (ao Z) Z (aq Z nofun nofun nofun Z Z Z) (λ_ _ _ _=>qk (i:=0) (show List.Nodup (["_law_spec","_law_world_here"]:Β)from by decide +kernel) Z (Or.inl Z) (.inr Z)) (λ_ _ _ _=>(qt dG p.mo (qd (qv 1) (qd (qv 0) qb))))) qb)))))))))))
  refine#[2,sc,ns,k,Z,hS,by lia,λb H1 hb s1 bx=>?_]
  exists 0
  refine ji (t:=ux _ _) (λv H'=>∃g:Bool,v= .bl g/\Mj b 1 H1 H') (λQ' hQ=>?_) (λv H2 ⟨g,ev,Y⟩=>?_)
  .exists 4
   refine qQ (λ_=>?_) (λ_=>hQ _ _ #[false,Z,λx o _ e=>e,bx.mono (by lia)])
   exact#[0,b,5,bx,by lia,⋯,⋯,λr H2 r0 r1 Y=>#[Z,hQ _ _ #[0,Y]]]
  subst ev;refine#[b,g,(1),Z,Y.bx,by lia,λy D m H3 X f1 f2 f3 f4 wk W=>?_]
  refine#[18,b,5,X.bx,by lia,by lia,by lia,λr H4 r0 r1 N=>?_]
  let#[O,rfl]:∃j:Nat,r=(j:Int):=#[r.toNat,by lia]
  refine#[b,y,_,O,D,m,Z,N.bx,by lia,wk.grc X.bx N,W,by lia,λrl ss H5 R b0 sl B a6=>?_]
  have F:=(wk.grc X.bx N).grc N.bx R;have S5:HE H H5:=mO hb s1 (((Y.trans X).trans N).trans R)
  refine#[3,y,D,m,Z,F,W,λda L H6 M p1 p2 p3 p4 dl hL=>?_]
  have Nq:=F.same M;have fd:=rn p1 p2 p3 p4;let#[J,e0,u,h0]:=id (sl.same M)
  exists 2,rl,Z,#[_,HK.of e0]
  refine QK (K:=K) (xs:=J.map V.ref) (by rw[Jf,u,Jt];lia) (λi ys n=>HE H6 n/\∃c:Ι,ys=c.map V.ref/\c.length=i/\∀(j:Nat) (x:Δ) (s:Sc),c[j]? =↑x->ss[j]? =↑s->MP n x (zg D s)) #[HE.refl _,[],7,λj x s h=>(by cases h)] (λi ys n ⟨sz,_⟩=>HK.of (sz _ _ e0)) ?_ ?_
  .rintro i ys n v G a3 ⟨sz,c,rfl,la,ha⟩
   rw[Jo]at G;cases es:J[i]? with
   |none=>rw[es]at G;cases G
   |some x0=>
    rw[es]at G
    obtain rfl:V.ref x0=v:=Jx G
    have hi:i<ss.length:=by rw[<- u];exact(Jw.mp es).1
    have I:=Ji hi;refine#[2,y,x0,D,m,ss[i],Z,Nq.same sz,W.ok.tp,sz _ _ (h0 i x0 _ es I),B _ (Gz hi),λpr Hw sw a2=>?_]
    refine#[sz.trans sw,c++[pr],by simp,by simp [la],λj x s h1 d=>?_]
    rw[Ik]at h1;split at h1
    .exact L8.same sw (ha j x s h1 d)
    .have hj:j-c.length=0:=by
      cases hj:j-c.length with
      |zero=>rfl
      |succ k=>rw[hj]at h1;cases h1
     rw[hj]at h1;cases h1
     obtain rfl:j=i:=by lia
     rw[I]at d;cases d;exact a2
  rintro ys n a3 ⟨sz,c,rfl,la,ha⟩ pl a4
  rw[Jf]at la;have up:=HE.upd (o:= .lst (c.map V.ref)) a4
  have pL:NJ (HG n pl (.lst (c.map V.ref))) pl (ss.map (zg D)):=#[c,qc,by rw[Jf,la,u],λi x P h1 d=>by
   rw[Jo]at d;cases z:ss[i]? with
   |none=>rw[z]at d;cases d
   |some s=>rw[z]at d;cases d;exact L8.same up (ha i x s h1 z)]
  refine#[Hn,λqq a1=>?_]
  have uq:=HE.upd (o:= .tup [-b,-y.m,-da.p,-rl,-pl]) a1
  have S:=sz.trans (up.trans uq);have a0:NJ (HG (HG n pl (.lst (c.map V.ref))) qq (.tup [-b,-y.m,-da.p,-rl,-pl])) pl (ss.map (zg D)):=let⟨x,e,l,r⟩:=pL;#[x,uq _ _ e,l,λi a P h1 d=>L8.same uq (r i a P h1 d)]
  refine q qq b rl pl y da D L m ss _ (S5.trans (M.trans S)) qc hb (((M.trans S).grc R.bx).bx.mono (by lia)) (Nq.same S) W (dl.same S) hL (λz=>?_) ((sl.same M).same S) a0 B (by lia)
  let#[y1,y2,y3,eb,_]:=R.bx;rw[fd b z]at eb;cases eb
end
end Lw
namespace L3
open PySem PySem.Spec PyProof.Rows L2 PySem.SeqAt
inductive PK
 |int (n:Int)
 |non
 |nil
 |cons (x xs:PK)
deriving DecidableEq
noncomputable def PK.dr:PK->Nat×Nat
 | .int _=>(1,0)
 | .non=>(1,0)
 | .nil=>(1,0)
 | .cons x xs=>(x.dr.1+xs.dr.2+1,x.dr.1+xs.dr.2)
noncomputable def PK.hs:PK->Int×Ε
 | .int n=>(hashInt n,[])
 | .non=>(reduceHash 0xFCA86420,[])
 | .nil=>(reduceHash (γ.Tuple.tupleHashOf []),[])
 | .cons x xs=>(reduceHash (γ.Tuple.tupleHashOf (x.hs.1::xs.hs.2)),x.hs.1::xs.hs.2)
noncomputable def PK.dp:PK->Nat
 | .int _=>0
 | .non=>0
 | .nil=>1
 | .cons x xs=>NS (x.dp+1) xs.dp
def NL(h:Ψ)(L:Η->Prop)(v:Γ):Prop:=∃a o c m,v= .ref a/\h.get? a=↑o/\o.cls= .type "tuple"/\o.data= .seq c m/\L c.toList
noncomputable def jA(h:Ψ):PK->(Γ->Prop)×(Η->Prop)
 | .int n=>(λv=>∃t,v= .int n t,λ_=>False)
 | .non=>(λv=>v= .none,λ_=>False)
 | .nil=>(NL h (λa=>a=[]),λa=>a=[])
 | .cons x xs=>(NL h (λa=>∃v r,a=v::r/\(jA h x).1 v/\(jA h xs).2 r),λa=>∃v r,a=v::r/\(jA h x).1 v/\(jA h xs).2 r)
def Qb(h:Ψ)(k:PK)(v:Γ):Prop:=(jA h k).1 v
def zG(h:Ψ)(k:PK)(vs:Η):Prop:=(jA h k).2 vs
noncomputable def PK.tup:PK->Bool
 | .int _=>false
 | .non=>false
 |_=>true
theorem Qp{h:Ψ}:∀{k:PK},k.tup=true->∀{v:Γ},Qb h k v↔NL h (zG h k) v
 | .int _,e,_=>by cases e
 | .non,e,_=>by cases e
 | .nil,_,_=>Iff.rfl
 | .cons _ _,_,_=>Iff.rfl
theorem bR{h:Ψ}:∀(k:PK),(∀{v c},Qb h k v->Qb h c v->k=c)/\(∀{d c},zG h k d->zG h c d->k=c)
 | .int n=>by
  refine#[?_,λg _=>(show False from g).elim]
  rintro v c ⟨t,rfl⟩ g
  cases c with
  |int m=>let#[u,e]:=g;injection e with e;rw[e]
  |non=>cases(show Γ.int n t= .none from g)
  |nil=>let#[a,_,_,_,e,_]:=g;cases e
  |cons x xs=>let#[a,_,_,_,e,_]:=g;cases e
 | .non=>by
  refine#[?_,λg _=>(show False from g).elim]
  intro v c B g
  cases(show v= .none from B)
  cases c with
  |int m=>let#[u,e]:=g;cases e
  |non=>rfl
  |nil=>let#[a,_,_,_,e,_]:=g;cases e
  |cons x xs=>let#[a,_,_,_,e,_]:=g;cases e
 | .nil=>by
  have L:∀{d:Η} {c:PK},zG h .nil d->zG h c d->PK.nil=c:=by
   intro d c B g
   cases(show d=[]from B)
   cases c with
   |int m=>exact(show False from g).elim
   |non=>exact(show False from g).elim
   |nil=>rfl
   |cons x xs=>let#[v,r,e,_]:=g;cases e
  refine#[?_,L]
  rintro v c ⟨a,o,p,m,rfl,q,F,w,A⟩ g
  have s:c.tup=true:=by
   cases c with
   |int m=>let#[u,e]:=g;cases e
   |non=>cases(show Γ.ref a= .none from g)
   |nil=>rfl
   |cons x xs=>rfl
  let#[b,o',i,D,e,l,_,f,j]:=(Qp s).mp g
  cases e
  obtain rfl:o=o':=Jx (q.symm.trans l)
  rw[w]at f;injection f with h1 _
  subst h1;exact L A j
 | .cons x xs=>by
  have ix:=bR (h:=h) x
  have z:=bR (h:=h) xs
  have L:∀{d:Η} {c:PK},zG h (.cons x xs) d->zG h c d->PK.cons x xs=c:=by
   rintro d c ⟨v,r,rfl,h1,C⟩ g
   cases c with
   |int m=>exact(show False from g).elim
   |non=>exact(show False from g).elim
   |nil=>cases(show v::r=[]from g)
   |cons y ys=>
    let#[I,H,e,E,G]:=g;injection e with e1 e2
    subst e1 e2;rw[ix.1 h1 E,z.2 C G]
  refine#[?_,L]
  rintro v c ⟨a,o,p,m,rfl,q,F,w,A⟩ g
  have s:c.tup=true:=by
   cases c with
   |int m=>let#[u,e]:=g;cases e
   |non=>cases(show Γ.ref a= .none from g)
   |nil=>rfl
   |cons x xs=>rfl
  let#[b,o',i,D,e,l,_,f,j]:=(Qp s).mp g
  cases e
  obtain rfl:o=o':=Jx (q.symm.trans l)
  rw[w]at f;injection f with h1 _
  subst h1;exact L A j
theorem eG{h h':Ψ}(hs:∀a o xs n,h.get? a=↑o->o.data= .seq xs n->h'.get? a=↑o):∀(k:PK),(∀{v},Qb h k v->Qb h' k v)/\(∀{d},zG h k d->zG h' k d)
 | .int n=>#[λg=>g,λg=>g]
 | .non=>#[λg=>g,λg=>g]
 | .nil=>#[by
   rintro v ⟨a,o,c,m,rfl,l,i,e,f⟩
   exact#[a,o,c,m,Z,hs _ _ _ _ l e,i,e,f],λg=>g]
 | .cons x xs=>by
  have ix:=eG hs x;have j:=eG hs xs;have L:∀{d:Η},zG h (.cons x xs) d->zG h' (.cons x xs) d:=by
   rintro d ⟨v,r,rfl,h1,p⟩
   exact#[v,r,Z,ix.1 h1,j.2 p]
  refine#[?_,L]
  rintro v ⟨a,o,c,m,rfl,l,i,e,f⟩
  exact#[a,o,c,m,Z,hs _ _ _ _ l e,i,e,L f]
section
variable{prog:Ξ}{w:Ω}{A:Around}{E:Hu}{s:Θ}
theorem gm{L:Η->Prop}{l:Ε}{c:Nat}{Q:Int->Θ->Prop}(hu:A.units<cLine)(hk:NL s.heap L v)
  (p:∀{vs:Η} {b:Array Int} {Q:Array Int->Θ->Prop},L vs->(∀e,e.toList=b.toList++l->Q e {s with toks:=s.toks+c})->ε (model prog w) A.in1 (forIn vs b λx r=>do let h <- pyHash x;pure PUnit.unit;pure (ForInStep.yield (r.push h))) Q E s)
  (h:Q (reduceHash (γ.Tuple.tupleHashOf l)) {s with toks:=s.toks+(c+1)}):ε (model prog w) A (pyHash v) Q E s:=by
 let#[a,o,d,m,rfl,f,n,j,g]:=hk;have q:s.TypeIs (-a) "tuple":=#[o,f,n]
 refine W.pyHash_slot (T:="tuple") q F.slot_tuple_hash F.entry_tuple_hash (F.args_tuple_hash_1 _) (beq_builtin_none _) (.inr hu) ?_
 show ε _ _ (γ.Tuple.tupleItemsOf (-a) >>= _) _ _ s
 refine Ja (wpAny_tupleItemsOf f j ?_)
 refine Ja ?_
 rw[<- OX];refine p g λb i=>?_
 show ε _ _ (retInt (γ.Tuple.tupleHashOf b.toList)) _ _ _
 rw[i];exact Ja (wpAny_mkInt (Je #[5,h]))
theorem e9:∀(k:PK),(∀{v:Γ} {A:Around} {s:Θ} {Q:Int->Θ->Prop},A.units+k.dp<cLine->Qb s.heap k v->Q k.hs.1 {s with toks:=s.toks+k.dr.1}->ε (model prog w) A (pyHash v) Q E s)/\
  (∀{vs:Η} {A:Around} {s:Θ} {b:Array Int} {Q:Array Int->Θ->Prop},A.units+k.dp<=cLine->zG s.heap k vs->(∀a,a.toList=b.toList++k.hs.2->Q a {s with toks:=s.toks+k.dr.2})->ε (model prog w) A (forIn vs b λx r=>do let h <- pyHash x;pure PUnit.unit;pure (ForInStep.yield (r.push h))) Q E s)
 | .int n=>by
  refine#[?_,λ_ g _=>(show False from g).elim]
  rintro v A s Q d ⟨t,rfl⟩ h
  exact wpAny_pyHash_int h
 | .non=>by
  refine#[?_,λ_ g _=>(show False from g).elim]
  .intro v A s Q d g h
   cases(show v= .none from g)
   exact W.pyHash_slot (T:="NoneType") Z F.slot_NoneType_hash F.entry_NoneType_hash (F.args_NoneType_hash_1 _) (beq_builtin_none _) (.inr (by simpa [PK.dp]using d)) (Ja (Je (Ja (wpAny_mkInt (Je #[5,h])))))
 | .nil=>by
  have L:∀{vs:Η} {A:Around} {s:Θ} {b:Array Int} {Q:Array Int->Θ->Prop},vs=[]->(∀a,a.toList=b.toList++[]->Q a {s with toks:=s.toks+0})->ε (model prog w) A (forIn vs b λx r=>do let h <- pyHash x;pure PUnit.unit;pure (ForInStep.yield (r.push h))) Q E s:=by
   intro vs A s b Q e h;subst e;exact Je (h b (by simp))
  refine#[?_,λ_ g h=>L g h]
  intro v A s Q d g h;exact gm (L:=λvs=>vs=[]) (by have:=d;lia) g (λg h=>L g h) h
 | .cons x xs=>by
  have ix:=e9 x;have f:=e9 xs;have L:∀{vs:Η} {A:Around} {s:Θ} {b:Array Int} {Q:Array Int->Θ->Prop},A.units+(PK.cons x xs).dp<=cLine->zG s.heap (.cons x xs) vs->(∀a,a.toList=b.toList++(PK.cons x xs).hs.2->Q a {s with toks:=s.toks+(PK.cons x xs).dr.2})->ε (model prog w) A (forIn vs b λx r=>do let h <- pyHash x;pure PUnit.unit;pure (ForInStep.yield (r.push h))) Q E s:=by
   rintro vs A s b Q d ⟨v,r,rfl,h1,o⟩ h
   have i:A.units+x.dp<cLine:=by have:x.dp+1<=(PK.cons x xs).dp:=Kl _ _;lia
   have j:A.units+xs.dp<=cLine:=by have:xs.dp<=(PK.cons x xs).dp:=Kz _ _;lia
   rw[NK];refine Ja (Ja (ix.1 i h1 ?_))
   refine Ja (Je (Je ?_))
   refine f.2 j o λa m=>?_
   have:=h a (by rw[m];simp [PK.hs])
   simpa [PK.dr,KD]using this
  refine#[?_,L]
  intro v A s Q d g h;have p:1<=(PK.cons x xs).dp:=Jg (by lia) (Kl _ _)
  exact gm (L:=zG s.heap (.cons x xs)) (l:=(PK.cons x xs).hs.2) (c:=(PK.cons x xs).dr.2) (by lia) g (λg h=>L (by rw[J6];lia) g h) h
noncomputable def PK.sz:PK->Nat
 | .int _=>1
 | .non=>1
 | .nil=>1
 | .cons x xs=>x.sz+xs.sz+1
theorem PK.sz_pos:∀k:PK,1<=k.sz
 | .int _=>Jd _
 | .non=>Jd _
 | .nil=>Jd _
 | .cons _ _=>Kh _ _
theorem NL.is{L:Η->Prop}(g:NL h L v):∃a c,v= .ref a/\h.IsTuple a c/\L c.toList:=by
 let#[a,o,c,m,rfl,i,f,e,d]:=g
 exact#[a,c,Z,#[o,i,f,m,e],d]
theorem BU{x y:PK}{u v:Γ}{Q:Bool->Θ->Prop}(hx:x.tup=true)(hy:y.tup=true)(hu:A.units<cLine)(gu:Qb s.heap x u)(gv:Qb s.heap y v)
  (step:∀{i S:PK} {u v:Γ} {Q:Bool->Θ->Prop},i.sz<x.sz->i.dp<x.dp->Qb s.heap i u->Qb s.heap S v->Q (decide (i=S)) s->ε (model prog w) A.in1 (eqBool u v) Q E s)
  (h:Q (decide (x=y)) s):ε (model prog w) A (eqBool u v) Q E s:=by
 have a2:=gu;have a1:=gv;let#[a,oa,xs,na,rfl,L,a3,U,Y]:=(Qp hx).mp gu
 let#[b,ob,ys,nb,rfl,J,a0,T,a4]:=(Qp hy).mp gv
 have P:s.TypeIs (-a) "tuple":=#[oa,L,a3]
 have R:s.TypeIs (-b) "tuple":=#[ob,J,a0]
 unfold eqBool;refine JO ?_
 show ε _ _ (if(Γ.ref a==Γ.ref b)=true then _ else _) Q E s
 by_cases B:(Γ.ref a==Γ.ref b)=true
 .rw[Jc B]
  have e:a=b:=by have:=eq_of_beq B;injection this
  subst e
  obtain rfl:=(bR x).1 a2 a1
  exact Ja (J4 (Je (by simpa using h)))
 rw[Jb B];refine Ja (wpAny_richCompare_same_room (op:= .Eq) P R F.slot_tuple_eq
   (J0 F.slot_tuple_eq P F.entry_tuple_eq ?_ (F.args_tuple_eq_2 _ _)) hu)
 show ε _ _ (isInstance (-b) (.type "tuple") >>= _) _ _ s
 refine Ja (IS R isSubtype_tuple_tuple ?_)
 simp only[Kc,KI,JU];refine Ja (wpAny_tupleItemsOf L U ?_)
 refine Ja (wpAny_tupleItemsOf J T ?_)
 refine Ja ?_
 refine wpAny_forIn_list _
  (λrest r s'=>r.1=none/\s'=s/\∃t o j g,rest=List.zip j g/\zG s.heap t j/\zG s.heap o g/\t.sz<=x.sz/\t.dp<=x.dp/\decide (t=o)=decide (x=y)/\(j.length==g.length)=(xs.size==ys.size))
  _ ?_ ?_ _ _ #[7,x,y,xs.toList,ys.toList,Z,Y,a4,Jd _,Jd _,Z,by simp]
 .rintro⟨u,v⟩ rest r s' ⟨W,rfl,t,o,j,g,C,f,c,z,G,l,n⟩
  cases j with
  |nil=>simp at C
  |cons u' xs''=>
   cases g with
   |nil=>simp at C
   |cons v' ys''=>
    simp only[K7,List.cons.injEq,Prod.mk.injEq]at C;let#[#[rfl,rfl],rfl]:=C;let#[i,d,rfl,h1,H]:∃i d,t= .cons i d/\Qb s'.heap i u/\zG s'.heap d xs'':=by
     cases t with
     |int m=>exact(show False from f).elim
     |non=>exact(show False from f).elim
     |nil=>cases(show u::xs''=[]from f)
     |cons p q=>let#[_,_,e,X,g2]:=f;injection e with e1 e2;subst e1 e2;exact#[p,q,Z,X,g2]
    let#[S,O,rfl,h2,D]:∃i d,o= .cons i d/\Qb s'.heap i v/\zG s'.heap d ys'':=by
     cases o with
     |int m=>exact(show False from c).elim
     |non=>exact(show False from c).elim
     |nil=>cases(show v::ys''=[]from c)
     |cons p q=>let#[_,_,e,X,g2]:=c;injection e with e1 e2;subst e1 e2;exact#[p,q,Z,X,g2]
    have z1:i.sz<x.sz:=by have:=PK.sz_pos d;simp only[PK.sz]at z;lia
    have z2:i.dp<x.dp:=by have:i.dp+1<=(PK.cons i d).dp:=Kl _ _;lia
    refine Ja (step z1 z2 h1 h2 ?_)
    by_cases hk:i=S
    .subst hk
     rw[Jj Z];simp only[Kc,KI,JU];refine Je #[7,d,O,xs'',ys'',Z,H,D,by simp only[PK.sz]at z;lia,Jg (Kz _ _) G,?_,by simpa using n]
     rw[<- l]
     by_cases I:d=O
     .simp [I]
     .simp [I]
    .rw[Jl hk]
     simp only[RN,JW];have hf:decide (x=y)=false:=by rw[<- l];simp [hk]
     rw[hf]at h;exact Ja (Je (Je (Je #[0,(λe=>nomatch e),GM h])))
 .rintro⟨r1,r2⟩ s' ⟨W,rfl,t,o,j,g,C,f,c,z,G,l,n⟩
  simp only at W
  subst W;refine Je ?_
  have N:(xs.size==ys.size)=decide (x=y):=by
   rw[<- l,<- n];cases j with
   |nil=>
    have ex:t= .nil:=by
     cases t with
     |int m=>exact(show False from f).elim
     |non=>exact(show False from f).elim
     |nil=>rfl
     |cons p q=>let#[_,_,e,_]:=f;cases e
    subst ex;cases g with
    |nil=>
     have M:o= .nil:=by
      cases o with
      |int m=>exact(show False from c).elim
      |non=>exact(show False from c).elim
      |nil=>rfl
      |cons p q=>let#[_,_,e,_]:=c;cases e
     subst M;simp
    |cons v r=>
     have M:o≠ .nil:=by rintro rfl;cases(show v::r=[]from c)
     simp [Ne.symm M]
   |cons u q=>
    have ex:t≠ .nil:=by rintro rfl;cases(show u::q=[]from f)
    cases g with
    |nil=>
     have M:o= .nil:=by
      cases o with
      |int m=>exact(show False from c).elim
      |non=>exact(show False from c).elim
      |nil=>rfl
      |cons p q=>let#[_,_,e,_]:=c;cases e
     subst M;simp [ex]
    |cons v r=>simp at C
  show∃v,Fin.done (Flow.ret (.bool (xs.size==ys.size)))=Fin.done (.ret v)/\v≠Γ.notImplemented/\ε (model prog w) A (truthOfDropped v) Q E s'
  rw[N]
  exact#[0,(λe=>nomatch e),GM h]
theorem QL{k:PK}(g:Qb h k v):(∃n t,k= .int n/\v= .int n t)\/(k= .non/\v= .none)\/(k.tup=true/\∃a c,v= .ref a/\h.IsTuple a c):=by
 cases k with
 |int n=>let#[t,rfl]:=g;exact .inl #[n,t,7]
 |non=>cases(show v= .none from g);exact .inr (.inl #[7])
 |nil=>let#[a,c,e,d,_]:=NL.is ((Qp (k:= .nil) Z).mp g);exact .inr (.inr #[Z,a,c,e,d])
 |cons x xs=>let#[a,c,e,d,_]:=NL.is ((Qp (k:= .cons x xs) Z).mp g);exact .inr (.inr #[Z,a,c,e,d])
theorem iH{k:PK}{n:Int}(h:k.tup=true):k≠ .int n:=by rintro rfl;cases h
theorem iK{k:PK}(h:k.tup=true):k≠ .non:=by rintro rfl;cases h
theorem bi:∀(n:Nat) {x y:PK} {u v:Γ} {A:Around} {s:Θ} {Q:Bool->Θ->Prop},x.sz<=n->A.units+x.dp<cLine->Qb s.heap x u->Qb s.heap y v->Q (decide (x=y)) s->ε (model prog w) A (eqBool u v) Q E s
 |0,x,_,_,_,_,_,_,hz,_,_,_,_=>by have:=PK.sz_pos x;lia
 |n+1,x,y,u,v,A,s,Q,hz,hu,gu,gv,h=>by
  have c:A.units<cLine:=by lia
  rcases QL gu with⟨a,t,rfl,rfl⟩|⟨rfl,rfl⟩|⟨i,a,C,rfl,ta⟩
  .rcases QL gv with⟨b,g,rfl,rfl⟩|⟨rfl,rfl⟩|⟨f,b,j,rfl,tb⟩
   .refine EqAt.int_int a t b g prog w E Q ?_
    have e:(a==b)=decide (PK.int a=PK.int b):=by
     by_cases d:a=b
     .subst d;simp
     .rw[Jl (by intro z;injection z with z;exact d z)];simpa using d
    rw[e];exact h
   .exact EqAt.int_none a t prog w E Q (by rw[Jl (by intro z;cases z)]at h;exact h)
   .exact EqAt.int_tuple a t tb c prog w E Q (by rw[Jl (λz=>iH f z.symm)]at h;exact h)
  .rcases QL gv with⟨b,g,rfl,rfl⟩|⟨rfl,rfl⟩|⟨f,b,j,rfl,tb⟩
   .exact EqAt.none_int b g prog w E Q (by rw[Jl (by intro z;cases z)]at h;exact h)
   .exact EqAt.same .none prog w E Q (by rw[Jj Z]at h;exact h)
   .exact EqAt.none_tuple tb c prog w E Q (by rw[Jl (λz=>iK f z.symm)]at h;exact h)
  .rcases QL gv with⟨b,g,rfl,rfl⟩|⟨rfl,rfl⟩|⟨f,b,j,rfl,tb⟩
   .exact EqAt.tuple_int b g ta c prog w E Q (by rw[Jl (iH i)]at h;exact h)
   .exact EqAt.tuple_none ta c prog w E Q (by rw[Jl (iK i)]at h;exact h)
   .refine BU i f c gu gv (λ{B r u v Q} o p m l q=>bi n (by lia) (by rw[J6];lia) m l q) h
theorem Qs{k:PK}{v:Γ}{r:Η}(g:zG h k (v::r)):∃x xs,k= .cons x xs/\Qb h x v/\zG h xs r:=by
 cases k with
 |int m=>exact(show False from g).elim
 |non=>exact(show False from g).elim
 |nil=>cases(show v::r=[]from g)
 |cons p q=>let#[_,_,e,c,a]:=g;injection e with e1 e2;subst e1 e2;exact#[p,q,Z,c,a]
theorem PK.dp_tup:∀{k:PK},k.tup=true->1<=k.dp
 | .int _,h=>by cases h
 | .non,h=>by cases h
 | .nil,_=>Jd _
 | .cons _ _,_=>Jg (Kh _ _) (Kl _ _)
theorem AF:∀(d:Nat) {k:PK} {v:Γ} {s:Θ} {Q:Bool->Θ->Prop},k.dp<=d->Qb s.heap k v->Q true s->ε (model prog w) A (eqIsQuiet d v) Q E s:=by
 intro d
 induction d with
 |zero=>
  intro k v s Q m g h;rcases QL g with⟨a,t,rfl,rfl⟩|⟨rfl,rfl⟩|⟨e,a,H,rfl,ta⟩
  .rw[eqIsQuiet_byValue _ Z];exact Je h
  .rw[eqIsQuiet_byValue _ Z];exact Je h
  .have:=PK.dp_tup e;lia
 |succ d ih=>
  intro k v s Q m g h;rcases QL g with⟨a,t,rfl,rfl⟩|⟨rfl,rfl⟩|⟨e,_⟩
  .rw[eqIsQuiet_byValue _ Z];exact Je h
  .rw[eqIsQuiet_byValue _ Z];exact Je h
  let#[a,o,c,n,rfl,q,B,f,hi]:=(Qp e).mp g
  have p:s.TypeIs (-a) "tuple":=#[o,q,B]
  unfold eqIsQuiet;refine Ja (IT p F.slot_tuple_eq.lookup ?_)
  show ε _ _ (isInstance (-a) (.type "tuple") >>= _) _ _ s
  refine Ja (IS p isSubtype_tuple_tuple ?_)
  simp only[Kc,KI,JU];refine Ja (GQ q f ?_)
  refine Ja ?_
  show ε _ _ (forIn c _ _) _ _ s
  rw[<- OX];refine wpAny_forIn_list _ (λrest r s'=>r.1=none/\s'=s/\∃l,zG s.heap l rest/\l.dp<=d+1) _ ?_ ?_ _ _ #[7,k,hi,m]
  .rintro v rest r s' ⟨j,rfl,l,u,i⟩
   let#[x,xs,rfl,y,C]:=Qs u;have z:x.dp<=d:=by have:x.dp+1<=(PK.cons x xs).dp:=Kl _ _;lia
   refine Ja (ih z y ?_)
   simp only[Kc,KI,JU];exact Je #[7,xs,C,Jg (Kz _ _) i]
  .rintro⟨D,G⟩ s' ⟨j,rfl,_⟩
   simp only at j
   subst j;exact Je h
end
noncomputable def E5(prog:Ξ)(w:Ω)(d:Nat)(hd:d<=8):HeapKind prog w {k:PK // k.tup=true/\k.dp<=d} where
 is:=λh k a=>Qb h k.1 (-a)
 hash:=λk=>k.1.hs.1
 draws:=λk=>k.1.dr.1
 room:=λA=>A.units+d<cLine
 inj:=λm t=>Subtype.ext ((bR _).1 m t)
 keeps:=by
  intro h h' k a b o es B g v i hs;refine(eG (λc o' xs n l f=>?_) k.1).1 g
  have j:c≠b:=by
   rintro rfl
   obtain rfl:o'=o:=Jx (l.symm.trans v)
   rw[i]at f;exact nomatch f
  exact(hs.2 c j).trans l
 pyHash:=by
  intro A E s k a Q p g h
  exact(e9 k.1).1 (by have:=k.2.2;lia) g h
 eqBool:=by
  intro A E s x y a b Q p r u h;refine bi x.1.sz (Jd _) (by have:=x.2.2;lia) r u ?_
  have e:decide (x.1=y.1)=decide (x=y):=by
   by_cases z:x=y
   .subst z;simp
   .rw[Jl z,Jl (λq=>z (Subtype.ext q))]
  rw[e];exact h
 quiet:=by
  intro A E s k a Q g h;exact AF 8 (Jg k.2.2 hd) g h
end L3
namespace L3
open PySem PySem.Spec PyProof.Rows L2
noncomputable abbrev K8:={k:PK // k.tup=true/\k.dp<=4}
noncomputable abbrev iZ(P:Ξ)(w:Ω):HeapKind P w K8:=E5 P w 4 ⋯
abbrev KP:List (K8×Δ×V)->List (K8×Δ×Γ)->Prop:=Paired λp q=>p.1=q.1/\p.2.1=q.2.1/\HJ p.2.2 q.2.2
def Gq(P:Ξ)(w:Ω)(d:Δ)(kvs:List (K8×Δ×V))(h:Ψ):Prop:=
 kvs.length<=ζ/\(d==sysModules)=false/\∃(xs:List (K8×Δ×Γ)) (o:Obj) (es:Array DictEntry) (a:Nat),KP kvs xs/\h.get? d=↑o/\o.ExactDict/\o.data= .dict es a/\es.toList=xs.map (entryOfKey (iZ P w))/\(xs.map (·.1)).Nodup
noncomputable def zw(P:Ξ)(w:Ω)(d:Δ)(kvs:List (K8×Δ×V)):HO:= .ext (Gq P w d kvs)
noncomputable def jj(H:Hp):PK->(V->Prop)×(Α->Prop)
 | .int n=>(λv=>v= .int n,λ_=>False)
 | .non=>(λv=>v= .non,λ_=>False)
 | .nil=>(λv=>∃a,v= .ref a/\H a=↑(.tup []),λc=>c=[])
 | .cons x xs=>(λv=>∃a c,v= .ref a/\H a=↑(.tup c)/\∃y r,c=y::r/\(jj H x).1 y/\(jj H xs).2 r,λc=>∃y r,c=y::r/\(jj H x).1 y/\(jj H xs).2 r)
def Q3(H:Hp)(k:PK)(v:V):Prop:=(jj H k).1 v
def gM(H:Hp)(k:PK)(vs:Α):Prop:=(jj H k).2 vs
theorem ZU{H H':Hp}(hs:∀a xs,H a=↑(.tup xs)->H' a=↑(.tup xs)):∀(k:PK),(∀{v},Q3 H k v->Q3 H' k v)/\(∀{c},gM H k c->gM H' k c)
 | .int n=>#[λg=>g,λg=>g]
 | .non=>#[λg=>g,λg=>g]
 | .nil=>by
  refine#[?_,λg=>g]
  rintro v ⟨a,rfl,e⟩
  exact#[a,Z,hs _ _ e]
 | .cons x xs=>by
  have ix:=ZU hs x;have d:=ZU hs xs;have L:∀{c:Α},gM H (.cons x xs) c->gM H' (.cons x xs) c:=by
   rintro c ⟨v,r,rfl,h1,h⟩
   exact#[v,r,Z,ix.1 h1,d.2 h]
  refine#[?_,L]
  rintro v ⟨a,c,rfl,e,f⟩
  exact#[a,c,Z,hs _ _ e,L f]
theorem QR{P:Ξ}{w:Ω}{H:Hp}{h:Ψ}(ok:M4 P w H h):∀(k:PK),(∀{v:V} {u:Γ},Q3 H k v->HJ v u->Qb h k u)/\(∀{vs:Α} {us:Η},gM H k vs->HL vs us->zG h k us)
 | .int n=>by
  refine#[?_,λg _=>(show False from g).elim]
  intro v u g r
  cases(show v= .int n from g)
  exact r
 | .non=>by
  refine#[?_,λg _=>(show False from g).elim]
  intro v u g r
  cases(show v= .non from g)
  exact r
 | .nil=>by
  exists ?_
  .rintro v u ⟨a,rfl,j⟩ r
   cases(show u= .ref a from r)
   let#[_,c,d,o,h1,f,n,l]:=(show HN P w H h a (.tup [])from ok a _ j)
   cases d
   exact#[a,o,_,n,Z,h1,f,l,Z]
  .intro vs us g r
   cases(show vs=[]from g)
   cases r;rfl
 | .cons x xs=>by
  have ix:=QR ok x;have i:=QR ok xs;have L:∀{vs:Α} {us:Η},gM H (.cons x xs) vs->HL vs us->zG h (.cons x xs) us:=by
   rintro vs us ⟨v,r,rfl,h1,f⟩ d
   cases d with
   |cons a b=>exact#[5,ix.1 h1 a,i.2 f b]
  refine#[?_,L]
  rintro v u ⟨a,vs,rfl,j,m⟩ r
  cases(show u= .ref a from r)
  let#[_,c,d,o,h1,f,n,l]:=(show HN P w H h a (.tup vs)from ok a _ j)
  exists a,o,c.toArray,n,Z,h1,f,l
  have e:c.toArray.toList=c:=by simp
  show zG h (.cons x xs) c.toArray.toList
  rw[e];exact L m d
structure MX(P:Ξ)(w:Ω)(H:Hp)(d:Δ)(kvs:List (K8×Δ×V)):Prop where
 r:H d=↑(zw P w d kvs)
 ks:∀p∈kvs,Q3 H p.1.1 (-p.2.1)
noncomputable def aU(kvs:List (K8×Δ×V))(k:K8):Μ:=(kvs.find? λp=>decide (p.1=k)).map (·.2.2)
noncomputable def Z0(kvs:List (K8×Δ×V))(k:K8)(a:Δ)(v:V):List (K8×Δ×V):=if(aU kvs k).isSome then kvs.map (λp=>if p.1=k then(p.1,p.2.1,v)else p)else kvs++[(k,a,v)]
theorem KP.val(r:KP kvs xs)(k:K8):MN (aU kvs k) ((atKey xs k).map (·.2)):=by
 unfold aU atKey
 induction r with
 |nil=>exact True.intro
 | @cons p q ps qs h t ih=>
  rw[GA,GA,h.1]
  by_cases e:q.1=k
  .rw[Jj e];exact h.2.2
  .rw[Jl e];exact ih
theorem KP.put(r:KP kvs xs)(k:K8)(a:Δ)(c:HJ v u):KP (Z0 kvs k a v) (storedH xs k a u):=by
 have q:=(r.val k).isSome_eq;unfold Z0 storedH;rw[Lv]at q;rw[q]
 by_cases e:(atKey xs k).isSome=true
 .rw[Jc e,Jc e]
  clear q e
  induction r with
  |nil=>exact .nil
  | @cons p q ps qs h t ih=>
   rw[JC,JC];refine .cons ?_ ih
   unfold putAt;rw[h.1]
   by_cases e:q.1=k
   .rw[Jc e,Jc e];exact#[Z,h.2.1,c]
   .rw[Jb e,Jb e];exact h
 .rw[Jb e,Jb e]
  exact Paired.snoc r #[7,c]
theorem gF(kvs:List (K8×Δ×V))(k:K8)(a:Δ)(v:V):(Z0 kvs k a v).length<=kvs.length+1:=by
 unfold Z0;split
 .rw[Jf];lia
 .rw[Jz];exact Jd _
section
theorem lA(I:HH X pins σ H s)(g:MX X.prog X.w H d kvs):kvs.length<=ζ/\(d==sysModules)=false/\∃xs,KP kvs xs/\s.heap.DictOfH (iZ X.prog X.w) d xs:=by
 let#[#[z,j,xs,o,es,h,c,h1,n,u,i,f],_]:=(show HN X.prog X.w H s.heap d (zw X.prog X.w d kvs)from I.hok d _ g.r)
 refine#[z,j,xs,c,o,es,h,h1,n,u,i,?_,f]
 have all:∀{l:List (K8×Δ×V)} {m:List (K8×Δ×Γ)},KP l m->(∀p∈l,Q3 H p.1.1 (-p.2.1))->∀x∈m,(iZ X.prog X.w).is s.heap x.1 x.2.1:=by
  intro l m q
  induction q with
  |nil=>intro _ x a;exact nomatch a
  | @cons p q ps qs hq t ih=>
   intro hk x a;rcases Jp.mp a with e|a
   .subst e
    have:=hk p (JM ..)
    rw[hq.1,hq.2.1]at this
    exact(QR I.hok x.1.1).1 this Z
   .exact ih (λp r=>hk p (JS _ r)) x a
 exact all c g.ks
theorem wm{k:Nat}(hr:HS k X.A):zj X (compareOp .NotIn) (λx y H Q=>∃(b d:Δ) (kvs:List (K8×Δ×V)) (k:K8),x= .ref b/\y= .ref d/\MX X.prog X.w H d kvs/\Q3 H k.1 (-b)/\Q (.bl (!(aU kvs k).isSome)) H):=by
 intro pins s σ H x y u v Q I i f h;let#[b,d,kvs,k,rfl,rfl,g,e,q]:=h
 cases(show u=Γ.ref b from i)
 cases(show v=Γ.ref d from f)
 let#[z,j,xs,a,l]:=lA I g;refine wpAny_notIn_heap (knd:=iZ X.prog X.w) (k:=k) (show X.A.in1.units+4<cLine by rw[J6];have:=hr.un;lia) ((QR I.hok k.1).1 e Z) j l ?_
 have c:=(a.val k).isSome_eq;rw[Lv]at c;rw[<- c]
 exact#[.bl (!(aU kvs k).isSome),H,I.tok _,Z,q]
end
inductive PQ (P:Ξ)(w:Ω)(H:Hp)(a:Δ)(y v:V)(H':Hp):Prop
 |mk (kvs:List (K8×Δ×V))(k:K8)(b:Δ)(h1:MX P w H a kvs)(h2:y= .ref b)(h3:Q3 H k.1 (-b))(h4:kvs.length<ζ)(h5:H'=HG H a (zw P w a (Z0 kvs k b v)))
noncomputable def Fr(P:Ξ)(w:Ω)(td ty tv:TE):TS:=λD σ H=>tv σ H λv H1=>td σ H1 λx d=>ty σ d λy e=>∃a c,x= .ref a/\PQ P w e a y v c/\D.nx σ c
section
theorem vf{H H':Hp}{A:Around}{Q:Unit->Θ->Prop}(hu:A.units+6<cLine)(I:HH X pins σ H s)(g:PQ X.prog X.w H a y v H')(p:HJ y u)(N:HJ v r)(h:∀s',HH X pins σ H' s'->Q () s'):
  ε (model X.prog X.w) A (setItem (-a) u r) Q E s:=by
 let#[kvs,k,b,g,rfl,x,P,rfl]:=g
 cases(show u=Γ.ref b from p)
 let#[z,F,xs,c,G]:=lA I g;have e:xs.length<=ζ:=by rw[<- J1 c];exact z
 refine wpAny_setItem_heap (knd:=iZ X.prog X.w) (k:=k) (hsz:=e) (show A.in1.units+4<cLine by rw[J6];lia) ((QR I.hok k.1).1 x Z) G λh' j hs=>h _ ?_
 let#[q,es,D,d,l,O,t,_,B]:=j;refine bS I (by rw[g.r];exact True.intro) hs #[q,d] #[#[?_,F,_,q,es,D,c.put k b N,d,l,O,t,B],#[q,d],?_]
 .have:=gF kvs k b v;lia
 .rintro h1 l ⟨m,C,ys,o',i,f,o,L,n,J,w,M⟩ st
  exact#[m,C,ys,o',i,f,o,st _ L,n,J,w,M]
theorem BT{k:Nat}(hr:HS k X.A)(ho:QE X o td)(hi:QE X i ty)(hv:QE X value tv)(hs:swapsWith value ↑(.Subscript o i pos') pos.line X.env=pure false:=by rfl):
  QS X (.Assign [.Subscript o i pos'] value pos) (Fr X.prog X.w td ty tv):=#[by
 intro pins s σ H D I h;refine wpAny_Assign_Subscript (qB (hv.h pins s σ H _ I h) λr t ⟨v,H1,e,q,q1⟩=>qB (ho.h pins t σ H1 _ e q1) λu n ⟨x,l,c,p,q2⟩=>qB (hi.h pins n σ l _ c q2) λB C w=>?_) hs
 let#[y,A,m,j,a,d,ex,g,q3]:=w;subst ex
 obtain rfl:u=Γ.ref a:=p
 exact vf (by have:=hr.un;lia) m g j q λz f=>#[σ,d,f,q3]]
noncomputable def DN(P:Ξ)(w:Ω):TE:=λσ H Q=>∀a,H a=none->Q (-a) (HG H a (zw P w a []))
theorem lR{P:Ξ}{w:Ω}{H:Hp}(h:Ψ)(hb:sysModules<h.objs.size):HN P w H (h.push {cls:= .type "dict",data:= .dict (B1 [])}) h.objs.size (zw P w h.objs.size []):=by
 have g:(h.push {cls:= .type "dict",data:= .dict (B1 [])}).get? h.objs.size=some {cls:= .type "dict",data:= .dict (B1 [])}:=Jr _ Z
 exists #[JH _,by simpa using JT hb,[],_,(B1 []),(0),.nil,g,#[40],7,LK],#[_,g]
 rintro h1 o ⟨d,e,ys,o',a,c,l,n,i,m,j,f⟩ st
 exact#[d,e,ys,o',a,c,l,st _ n,i,m,j,f]
theorem Cr:QE X (.Dict [] [] pos) (DN X.prog X.w):=#[λpins s σ H Q I h=>
 wpAny_Dict_empty #[-s.heap.objs.size,_,I.laid (a:=s.heap.objs.size) (o:=zw X.prog X.w s.heap.objs.size []) (t':=s.toks) (λ_ _ q=>Jh _ q) (Jd _) (lR s.heap I.big),Z,h _ (I.hok.fresh (Jd _))]]
theorem MX.to(g:MX P w H d kvs)(h1:H' d=H d)(h2:∀a xs,H a=↑(.tup xs)->H' a=↑(.tup xs)):MX P w H' d kvs:=
 #[h1.trans g.r,λp c=>(ZU h2 p.1.1).1 (g.ks p c)]
end
end L3
namespace GS
theorem snocInd{c:Type}{P:List c->Prop}(nil:P [])(snoc:∀h i,P h->P (h++[i]))(h:List c):P h:=by
 have:∀l:List c,P l.reverse:=by
  intro l
  induction l with
  |nil=>exact nil
  |cons a l ih=>rw[List.reverse_cons];exact snoc _ _ ih
 have:=this h.reverse
 rwa [OY]at this
section
variable{B:Type}[DecidableEq B](mv:Nat->B->B)(b0:B)
noncomputable def st(h:Ζ):B:=h.foldl (λb i=>mv i b) b0
theorem st_snoc(h:Ζ)(i:Nat):st mv b0 (h++[i])=mv i (st mv b0 h):=by simp [st]
end
end GS
namespace L3
open PySem PySem.Spec PyProof.Rows L2
section
variable{K:ι}
theorem NJ.mv{pl:Δ}(h:NJ H pl ps)(m:Mv S H H')(nt:NT S H)(hr:pl∉S):NJ H' pl ps:=by
 let#[d,e,l,r]:=h
 exact#[d,m _ _ hr e,l,λi a P h1 c=>L8.mv m nt (r i a P h1 c)]
theorem NJ.same{pl:Δ}(h:NJ H pl ps)(s:HE H H'):NJ H' pl ps:=h.mv (S:=[]) s.mv iW (λh=>nomatch h)
theorem NJ.grc{pl b:Δ}(h:NJ H pl ps)(hb:Mn H b n)(g:Mj b n' H H'):NJ H' pl ps:=by
 let#[d,e,_]:=id h;let#[x,y,z,c,_]:=id hb;exact h.mv g.mv (Qm hb) (qK (qD e c (Qw 0 Z (by intro a z;cases z))))
theorem Ni.grc{b:Δ}(h:Ni H q D L)(hb:Mn H b n)(g:Mj b n' H H'):Ni H' q D L:=h.mv g.mv (Qm hb)
theorem Mr.grc{b:Δ}(d:Mr K C H a D L)(hb:Mn H b n)(g:Mj b n' H H')(nb:b∉dS a):Mr K C H' a D L:=d.mv g.mv (Qm hb) (qK (λz=>nb (z▸sL _))) (qK (λz=>nb (z▸tT _))) (qK (λz=>nb (z▸iJ _))) (qK (λz=>nb (z▸fV _)))
end
end L3
namespace L3
open PySem PySem.Spec PyProof.Rows L2
end L3
namespace L3
open PySem PySem.Spec PyProof.Rows L2 PySem.SeqAt
noncomputable def NA(H:Hp)(v:V):Option (Str×Int×Int)->Prop
 |none=>v= .non
 |some (nm,age,c)=>∃q,v= .ref q/\H q=↑(.tup [.str nm,.int age,.int c])
theorem NA.same(s:HE H H')(h:NA H v o):NA H' v o:=by
 cases o with
 |none=>exact h
 |some x=>let#[nm,age,c]:=x;let#[q,e,a]:=h;exact#[q,e,s _ _ a]
noncomputable def qY(D:Dr)(P:Ps):Option (Str×Int×Int):=(Zz D P).bind λx=>if(D.kn.lookup P.nm).isSome then ↑(P.nm,P.age,x.1)else none
def AD(H:Hp)(l:Δ)(c:List (Option (Str×Int×Int))):Prop:=∃a:Α,H l=↑(.lst a)/\a.length=c.length/\∀(i:Nat) (v:V) (o:Option (Str×Int×Int)),a[i]? =↑v->c[i]? =↑o->NA H v o
noncomputable def Zl(nm:Str):Option (Str×Int×Int)->Option (Str×Int×Int)
 |none=>none
 |some x=>if x.1=nm then ↑x else none
section
variable(K:ι)(C:Δ)
inductive uJ(vs:Α)(H:Hp)(Q:VK)(_:XK):Prop
 |mk (p ta hk bd lg a q:Δ)(n:Nat)(D:Dr)(e:Kb)(nm:Str)(age c:Int)(h1:vs=[-p,-a,-q])(h2:HI K C H p ta hk bd lg n D)(h3:Mm H a e)(h4:H q=↑(.tup [.str nm,.int age,.int c]))(h5:∀H',HE H H'->Q (.bl (decide ((zW D e age c).1="near"))) H')
inductive sd(vs:Α)(H:Hp)(Q:VK)(_:XK):Prop
 |mk (p ta hk bd lg a q:Δ)(n:Nat)(D:Dr)(e:Kb)(nm:Str)(age c:Int)(h1:vs=[-p,-a,-q])(h2:HI K C H p ta hk bd lg n D)(h3:Mm H a e)(h4:H q=↑(.tup [.str nm,.int age,.int c]))(h5:∀a' H',HE H H'->Mm H' a' (zW D e age c).2->Q (-a') H')
inductive gX(vs:Α)(H:Hp)(Q:VK)(_:XK):Prop
 |mk (p ta hk bd lg pr:Δ)(n:Nat)(D:Dr)(P:Ps)(h1:vs=[-p,-pr])(h2:HI K C H p ta hk bd lg n D)(h3:Nd D)(h4:MP H pr P)(h5:Nm P)(h6:∀y H',HE H H'->NA H' y (qY D P)->Q y H')
inductive i8(vs:Α)(H:Hp)(Q:VK)(_:XK):Prop
 |mk (p ta hk bd lg r:Δ)(n:Nat)(D:Dr)(qs:Ν)(h1:vs=[-p,-r])(h2:HI K C H p ta hk bd lg n D)(h3:Nd D)(h4:PN K H r qs)(h5:qs.length<=100)(h6:∀l H',HE H H'->AD H' l (qs.map (qY D))->Q (-l) H')
end
inductive lH(vs:Α)(H:Hp)(Q:VK)(_:XK):Prop
 |mk (l:Δ)(nm:Str)(os:List (Option (Str×Int×Int)))(h1:vs=[-l,.str nm])(h2:AD H l os)(h3:os.length<=100)(h4:∀m H',HE H H'->AD H' m (os.map (Zl nm))->Q (-m) H')
noncomputable def q9(rs:Ζ):Α:=rs.map λn:Nat=>V.int (n:Int)
theorem Ar(rs:Ζ):(q9 rs).all aF=true:=by
 unfold q9;rw[OM];exact IP.mpr λx _=>rfl
theorem Eh(rs:Ζ)(j:Nat):Bf (.int (j:Int)) (q9 rs)=decide (j∈rs):=by
 unfold Bf q9;rw[List.any_map]
 induction rs with
 |nil=>rfl
 |cons a rs ih=>
  rw[IK,ih];have e:(Function.comp (λy=>iP y (.int (j:Int))) (λn:Nat=>V.int (n:Int))) a=decide (j=a):=by
   show((a:Int)==(j:Int))=decide (j=a)
   by_cases h:j=a
   .subst h;simp
   .rw[Jl h];simpa using λz:(a:Int)=j=>h (by lia)
  rw[e]
  by_cases h:j=a
  .subst h;simp
  .simp [h]
theorem lu{X:Cx}{K:ι}(e:X.K=K):zj X (compareOp .NotIn) (FA K true):=by subst e;exact mW
noncomputable def EO:Option (Int×Int)->PK
 |none=> .non
 |some (a,c)=> .cons (.int a) (.cons (.int c) .nil)
noncomputable def cW(e:Kb):PK:= .cons (.int e.age) (.cons (.int e.last) (.cons (EO e.wt) .nil))
theorem Cf{b:Option (Int×Int)}(h:EO a=EO b):a=b:=by
 cases a with
 |none=>cases b with
  |none=>rfl
  |some y=>let#[c,d]:=y;cases h
 |some x=>
  let#[p,q]:=x;cases b with
  |none=>cases h
  |some y=>
   let#[c,d]:=y;injection h with h1 h2
   injection h1 with h1
   injection h2 with h2 _
   injection h2 with h2
   rw[h1,h2]
theorem rm(h:cW e=cW c):e=c:=by
 let#[a,l,w]:=e;let#[g,f,d]:=c;injection h with h1 h2
 injection h1 with h1
 injection h2 with h2 h3
 injection h2 with h2
 injection h3 with h3 _
 rw[show a=g from h1,show l=f from h2,show w=d from Cf h3]
theorem rR(e:Kb):(cW e).tup=true:=Z
theorem vL(e:Kb):(cW e).dp<=2:=by
 let#[a,l,w]:=e;cases w with
 |none=>exact(by decide:(PK.cons (.int 0) (.cons (.int 0) (.cons .non .nil))).dp<=2)
 |some x=>let#[p,q]:=x;exact(by decide:(PK.cons (.int 0) (.cons (.int 0) (.cons (.cons (.int 0) (.cons (.int 0) .nil)) .nil))).dp<=2)
theorem vd(h:Mm H a e):Q3 H (cW e) (-a):=by
 let#[v,f,c]:=h;refine#[a,0,f,38,v,0,?_,Z]
 cases hwt:e.wt with
 |none=>rw[hwt]at c;exact c
 |some x=>
  let#[p,q]:=x;rw[hwt]at c;let#[b,rfl,d]:=c
  exact#[b,0,d,54]
noncomputable def cX(D:Dr)(a:List (Option (Str×Int×Int)))(i:Nat)(e:Kb):Kb:=match a.getD i none with
 |some x=>(zW D e x.2.1 x.2.2).2
 |none=>e
noncomputable def Q1(a:List (Option (Str×Int×Int)))(i:Nat):Bool:=(a.getD i none).isSome
instance:DecidableEq Kb:=λx y=>if h:x.age=y.age/\x.last=y.last/\x.wt=y.wt then .isTrue (by cases x;cases y;let#[rfl,rfl,rfl]:=h;rfl)else .isFalse (λe=>h (by subst e;exact#[rfl,rfl,rfl]))
theorem Qq{a:Type}{l:List a}{i:Nat}{x:a}(h:l[i]? =↑x):l.take (i+1)=l.take i++[x]:=by rw[Ig,h];rfl
end L3
namespace Lw
open PySem L2 L3
section
variable{K:ι}{tk:Nat->Tok}
theorem yQ(a:At K mg "opens" jG ["door","button","press"])(T:Mq K mg tk)(U:MS K C)(l:Mf P w K mg base C "plain_step" x5 3 (gN K C)):Df P w K mg base "opens" X5 4 (uJ K C):=by
 refine a.dq Ng λf _ A _ s H r Q E j h=>?_
 .let#[p,ta,hk,bd,lg,x,q,n,D,e,nm,age,c,rfl,b,d,g,ok]:=h
  exists _,(qe (zr (qv 2) (QH Z (qu (qk (i:=3) Ng.nd Z (Or.inl Z)) (qu (qk (i:=4) Ng.nd Z (Or.inl Z)) (qu (qk (i:=5) Ng.nd Z (Or.inl Z)) qW)))))
   (qj (qw (Qn zy (qI zp (zu l U.cl j.mo (qv 0) (qd (qv 1) (qd (qv 4) (qd (qv 5) qb)))) qg) qm (qz _)))))
  exists 0,q,0,HP.of g,9
  refine#[0,p,Z,b.no,3,p,ta,hk,bd,lg,x,n,D,e,age,c,Z,b,d,λq1 t H1 m h1 o=>?_]
  exists q1,1,HP.of h1,Z
  have:=ok H1 m
  exact#[Z,by simpa using this]
theorem gZ(a:At K mg "button_behind" ZM ["door","button","press"])(T:Mq K mg tk)(U:MS K C)(o:Mf P w K mg base C "plain_step" x5 3 (gN K C)):Df P w K mg base "button_behind" X5 4 (sd K C):=by
 refine a.dq Mc λf _ A _ s H t Q E l h=>?_
 .let#[p,ta,hk,bd,lg,x,q,n,D,e,nm,age,c,rfl,b,d,g,ok]:=h
  exists _,(qe (zr (qv 2) (QH Z (qu (qk (i:=3) Mc.nd Z (Or.inl Z)) (qu (qk (i:=4) Mc.nd Z (Or.inl Z)) (qu (qk (i:=5) Mc.nd Z (Or.inl Z)) qW)))))
   (qj (qw (qI zp (zu o U.cl l.mo (qv 0) (qd (qv 1) (qd (qv 4) (qd (qv 5) qb)))) qg))))
  exists 0,q,0,HP.of g,9
  refine#[0,p,Z,b.no,3,p,ta,hk,bd,lg,x,n,D,e,age,c,Z,b,d,λq1 m H1 r h1 j=>?_]
  exact#[q1,1,HP.of h1,Z,ok m H1 r j]
theorem jr(a:At K mg "plain_press" ar ["door","press"])(T:Mq K mg tk)(U:MS K C)(M:Mf P w K mg base C "read_right" W4 6 (fv K C))(N:Mf P w K mg base C "button_of" V0 1 (lx K C)):Df P w K mg base "plain_press" ["door","press"] 7 (gX K C):=by
 refine a.dq MV λf _ A _ s H S Q E F h=>?_
 .let#[p,ta,hk,bd,lg,l,n,D,#[nm,age,ds],rfl,b,ok,G,R,q]:=h
  exists _,(qe (qG (i:=2) MV.nd Z (Or.inl Z) (zu M U.cl F.mo (qv 0) (qd (qv 1) qb)))
   (qe (qM (QW.pt (ZG (qA am (qv 2) zk (qz _)) (ZA (qA am (zu N U.cl F.mo (qv 0) (qd (qI zp (qv 1) qg) qb)) zk (qz _))))) (qj (qw zk)) qH)
   (qj (qw (qF (qd (qI zp (qv 1) qg) (qd (qI zp (qv 1) qg) (qd (qI zp (qv 2) qg) qb))))))))
  refine#[0,p,Z,b.no,0,p,ta,hk,bd,lg,n,D,_,some #[nm,age,ds],Z,b,ok,#[l,Z,G,R],λy H1 j m=>?_]
  have I:=b.same j;let#[X,g,O]:=L8.same j G;cases hrd:Zz D #[nm,age,ds]with
  |none=>
   rw[show(↑(#[nm,age,ds]:Ps)).bind (Zz D)=none from hrd]at m
   cases(show y= .non from m)
   exists 4
   refine Qf (Jj Z) ?_
   refine Ql ?_
   exact q _ _ j (by unfold qY;rw[hrd];rfl)
  |some cc=>
   let#[c,d]:=cc;rw[show(↑(#[nm,age,ds]:Ps)).bind (Zz D)=↑(c,d)from hrd]at m
   let#[o,rfl,u]:=(show∃o,y= .ref o/\H1 o=↑(.tup [.int c,.int d])from m)
   exists 4
   refine Qk (Jl (by intro z;cases z)) ?_
   refine#[0,p,Z,I.no,#[0,l,1,HP.of g,Z,p,ta,hk,bd,lg,n,D,nm,Z,I,λL=>?_,λe x J W=>?_]]
   .have t:D.kn.lookup nm=none:=L
    exists 17
    refine Qf (Jj Z) ?_
    refine q _ _ j ?_
    have r:qY D #[nm,age,ds]=none:=by unfold qY;rw[hrd];show(if(D.kn.lookup nm).isSome then ↑(nm,age,c)else none)=none;rw[t];rfl
    rw[r];rfl
   .exists 17
    refine Qk (Jl (by intro z;cases z)) ?_
    have v:D.kn.lookup nm=↑e:=J
    have r:qY D #[nm,age,ds]=↑(nm,age,c):=by unfold qY;rw[hrd];show(if(D.kn.lookup nm).isSome then ↑(nm,age,c)else none)=_;rw[v];rfl
    refine#[0,l,1,HP.of g,17,l,1,HP.of g,17,o,1,HP.of u,Z,Hl,λq1 B=>?_]
    refine q _ _ (j.trans (HE.upd B)) ?_
    rw[r]
    exact#[q1,Z,qc]
theorem lP(a:At K mg "plain_row" bP ["door","row"])(T:Mq K mg tk)(U:MS K C)(W:Df P w K mg base "plain_press" ["door","press"] 7 (gX K C)):Df P w K mg base "plain_row" ["door","row"] 8 (i8 K C):=by
 refine a.dq my λf _ A _ s H X Q E R h=>?_
 .let#[p,ta,hk,bd,lg,r,n,D,u,rfl,b,ok,#[rs,x,B,G],Y,q]:=h
  exists _,(qj (qw (zH (own:=["press"]) (fr:=["door"]) (js:=[0]) Z (wz (qv 1)) Z (ao Z) Z (aq Z nofun nofun nofun Z Z Z) (λ_ _ _ _=>qk (i:=0) (show List.Nodup (["press","door"]:Β)from by decide +kernel) Z (Or.inl Z) (.inr Z)) (λ_ _ _ _=>(qt W R.mo (qd (qv 1) (qd (qv 0) qb)))))))
  refine#[0,r,Z,B6 (H0:=H) (xs:=rs.map V.ref) x (by rw[Jf,B,Jt];lia) (λi ys g=>HE H g/\ys.length=i/\∀(j:Nat) (v:V) (o:Option (Str×Int×Int)),ys[j]? =↑v->(u.map (qY D))[j]? =↑o->NA g v o) #[HE.refl _,Z,λj v o h=>(by cases h)] (λi ys g h=>h.1) ?_ ?_]
  .rintro i ys g v L d ⟨e,_,F⟩
   rw[Jo]at L;let#[J,t,rfl]:=Ij.mp L;have hi:i<u.length:=by rw[<- B];exact(Jw.mp t).1
   have I:=Ji hi;let#[h1,O]:=G i J _ t I;refine#[2,p,ta,hk,bd,lg,J,n,D,u[i],Z,b.same e,ok,L8.same e h1,O,λy H1 M S=>?_]
   refine#[e.trans M,by simp [d],λj v o c m=>?_]
   rw[Ik]at c;split at c
   .exact(F j v o c m).same M
   .have z:j-ys.length=0:=by
     cases z:j-ys.length with
     |zero=>rfl
     |succ k=>rw[z]at c;cases c
    rw[z]at c;cases c
    obtain rfl:j=i:=by lia
    rw[Jo,I]at m;cases m;exact S
  .rintro ys g d ⟨e,_,F⟩ l N
   refine q l _ (e.trans (HE.upd N)) #[ys,qc,by rw[d,Jf,Jf,B],λi v o c m=>(F i v o c m).same (HE.upd N)]
theorem k3(a:At K mg "presses_of" aS ["presses","name"])(T:Mq K mg tk):Df P w K mg base "presses_of" ["presses","name"] 1 lH:=by
 refine a.dq kX λf _ A _ s H U Q E W h=>?_
 .let#[l,nm,t,rfl,#[I,N,C,G],lo,q]:=h
  exists _,(qj (qw (zH (own:=["press"]) (fr:=["name"]) (js:=[1]) Z (zK (qv 0)) Z (ao Z) Z (aq Z nofun nofun nofun Z Z Z) (λ_ _ _ _=>qk (i:=0) (show List.Nodup (["press","name"]:Β)from by decide +kernel) Z (Or.inl Z) (.inr Z)) (λ_ _ _ _=>(cK (QW.pt (aW (qA fH (qv 0) zk (qz _)) (aN (qA zy (qI (jg (K:=K) Z) (qv 0) qg) (qv 1) (qz _))))) (qv 0) zk)))))
  refine#[0,l,Z,#[_,HK.of N],QK (K:=K) (xs:=I) (by rw[C,Jt];lia) (λi ys p=>HE H p/\ys.length=i/\∀(j:Nat) (v:V) (o:Option (Str×Int×Int)),ys[j]? =↑v->(t.map (Zl nm))[j]? =↑o->NA p v o) #[HE.refl _,Z,λj v o h=>(by cases h)] (λi ys p h=>HK.of (h.1 _ _ N)) ?_ ?_]
  .rintro i ys p v S r ⟨B,_,M⟩
   have hi:i<t.length:=by rw[<- C];exact(Jw.mp S).1
   have O:=Ji hi;have F:=(G i v _ S O).same B;have n:∀y,NA p y (Zl nm t[i])->HE H p/\(ys++[y]).length=i+1/\∀(j:Nat) (v:V) (o:Option (Str×Int×Int)),(ys++[y])[j]? =↑v->(t.map (Zl nm))[j]? =↑o->NA p v o:=λy J=>by
    refine#[B,by simp [r],λj v o d z=>?_]
    rw[Ik]at d;split at d
    .exact M j v o d z
    .have L:j-ys.length=0:=by
      cases L:j-ys.length with
      |zero=>rfl
      |succ k=>rw[L]at d;cases d
     rw[L]at d;cases d
     obtain rfl:j=i:=by lia
     rw[Jo,O]at z;cases z;exact J
   generalize t[i]=o at F n
   cases o with
   |none=>
    cases(show v= .non from F)
    exists 4
    refine Qk (by simp) ?_
    refine zS ?_
    exact n .non Z
   |some x=>
    let#[g,age,c]:=x;let#[D,rfl,u]:=F;exists 4
    refine Qf (by simp) ?_
    exists 0,D,1,HP.of u,Z,_,Z,Z,_,Z
    by_cases e:g=nm
    .subst e
     refine Qf (by simp) ?_
     refine#[0,n (-D) ?_]
     have d:Zl g ↑(g,age,c)=↑(g,age,c):=Jc Z
     rw[d]
     exact#[D,Z,u]
    .refine Qk (by simpa using e) ?_
     refine n .non ?_
     have d:Zl nm ↑(g,age,c)=none:=Jb e
     rw[d];rfl
  .rintro ys p r ⟨B,_,M⟩ m R
   refine q m _ (B.trans (HE.upd R)) #[ys,qc,by rw[r,Jf,C],λi v o d z=>(M i v o d z).same (HE.upd R)]
end
end Lw
namespace L3
open PySem PySem.Spec PyProof.Rows L2
noncomputable def Ou(q:Str)(c:Δ):HO:= .ext λh=>∃o a t,h.get? c=↑o/\o.data= .fields a/\a[1]? =↑(.str q t)
noncomputable def Oa(gV:Str)(params:Arguments)(body:Φ)(scope:Scope)(pm:Γ)(c f:Δ):HO:= .ext λh=>∃a,h.get? f=↑(PySem.W.kla_obj "<lambda>" gV params body scope [] pm c a)
def NB(H:Hp)(pos:Pos)(q:Str)(ps:Array Γ):Prop:=ps= (B1 [])\/∃c,ps= (B1 [rawInt pos.line,rawInt pos.col,-c])/\H c=↑(Ou q c)
theorem NB.same(s:HE H H')(h:NB H pos q ps):NB H' pos q ps:=by
 rcases h with h|⟨c,h,a⟩
 .exact .inl h
 .exact .inr #[c,h,s _ _ a]
theorem Ed{h:Ψ}{c:Δ}(x:∃o a t,h.get? c=↑o/\o.data= .fields a/\a[1]? =↑(.str q t)):HN P w H h c (Ou q c):=by
 exists x,let⟨o,_,_,e,_⟩:=x;#[o,e]
 rintro h1 d ⟨o,a,t,e,r⟩ st
 exact#[o,a,t,st _ e,r]
theorem vM{h:Ψ}{gV:Str}{params:Arguments}{body:Φ}{scope:Scope}{pm:Γ}{c f:Δ}{a:Γ}(x:h.get? f=↑(W.kla_obj "<lambda>" gV params body scope [] pm c a)):
  HN P w H h f (Oa gV params body scope pm c f):=by
 exists #[a,x],#[_,x]
 rintro h1 d ⟨a,e⟩ st
 exact#[a,st _ e]
theorem Oa.code(x:HN P w H h f (Oa gV params body scope pm c f)):∃a,h.get? f=↑(W.kla_obj "<lambda>" gV params body scope [] pm c a):=x.1
theorem Ou.code(x:HN P w H h c (Ou q c)):h.CodeRec (-c) q:=by
 let#[#[o,a,t,e,d,n],_]:=x
 exact#[c,o,a,t,Z,e,d,n]
inductive PR (q:Str)(params:Arguments)(body:Φ)(scope:Scope)(pos:Pos)(pm:Γ)(P:Δ)(H:Hp)(Q:VK):Prop
 |mk (Hx:_)(ps:_)(h1:H=HG Hx P (.tbl ps))(h2:Hx P=none)(h3:NB Hx pos q ps)(h4:∀f c ps' Hx',HE Hx Hx'->Hx' P=none->NB Hx' pos q ps'->Hx f=none->Hx' f=↑(Oa q params body scope pm c f)->Hx' c=↑(Ou q c)->Q (-f) (HG Hx' P (.tbl ps')))
noncomputable def F7(q:Str)(params:Arguments)(body:Φ)(scope:Scope)(pos:Pos)(pm:Γ)(P:Δ):TE:=λσ H Q=>PR q params body scope pos pm P H Q
section
theorem Ep(l:X.env.code= .ref c)(hC:W.CodeHd X.base c P)(hB:X.base.BuiltinsAt X.mg P)(O:defaultsOf params X.env=([],[]))(L:closureFor scope X.env=pure []):
  QE X (.Lambda params body scope pos) (F7 (X.env.qual++"<lambda>") params body scope pos ((X.mg "__name__").getD .none) P):=#[by
 intro pins s σ H Q I h;let#[g,ps,rfl,Y,ht,q]:=h;have i:(HG g P (.tbl ps)) P=↑(.tbl ps):=qc
 have S:s.heap.get? P=↑(W.tabObj ps):=I.hok P _ i
 have C:=hC.keeps I.bk;have gl:=I.mod.glob.keeps I.bk;have a0:η≠P:=λe=>by
  let#[o,_,_,ho,_]:=I.mod.glob;rw[e]at ho
  have:=(I.bs _ _ ho).2
  rw[i]at this;cases this
 have B:s.heap.BuiltinsAt X.mg P:=by
  let#[bm,ob,a1,a2,a3,a4,a5,a6]:=hB
  exact#[bm,ob,a1,a2,a3,a4,I.bk _ _ a5,a6]
 have w:∀{b:Δ},(HG g P (.tbl ps)) b=none->g b=none:=λ{b} e=>by
  by_cases z:b=P
  .subst z;exact Y
  .rw[qh z]at e;exact e
 have b0:∀{b:Δ} {u:HO},b≠P->g b=↑u->(HG g P (.tbl ps)) b=↑u:=λ{b u} z e=>by rw[qh z];exact e
 refine W.kla_eval O ?_
 rcases id ht with e0|⟨a,e0,p⟩
 .subst e0
  refine W.kla_makeFunction L I.ok.glob gl l C S trivial Z a0 B λa N h' tk hx j x F M=>?_
  let#[b2,oc,vs,t,e2,b1,hd,hv]:=F;cases e2;have fr:∀{b:Δ} {o:Obj},s.heap.get? b=↑o->b≠a/\b≠h'.objs.size:=λ{b o} e=>by
   have:=Jk e
   exact#[Jq (Jn this j),Jq (Ki (Jn this j) x)]
  have f:∀{b:Δ} {u:HO},(HG g P (.tbl (B1 []))) b=↑u->b≠a/\b≠h'.objs.size:=λ{b u} e=>by
   have:=I.hok.lt e
   exact#[Jq (Jn this j),Jq (Ki (Jn this j) x)]
  have cP:P≠a:=(fr S).1
  have R:P≠h'.objs.size:=(fr S).2
  have T:a≠h'.objs.size:=Jq x
  have nc:g a=none:=w (I.hok.fresh j)
  have E:g h'.objs.size=none:=w (I.hok.fresh (Jv (KB j x)))
  have U:∀b o,b≠P->s.heap.get? b=↑o->(h'.push (W.kla_obj "<lambda>" (X.env.qual++"<lambda>") params body scope [] ((X.mg "__name__").getD .none) a N)).get? b=↑o:=λb o z e=>Jh _ (hx b o z e)
  exists .ref h'.objs.size,HG (HG (HG g a (Ou (X.env.qual++"<lambda>") a)) h'.objs.size (Oa (X.env.qual++"<lambda>") params body scope ((X.mg "__name__").getD .none) a h'.objs.size)) P (.tbl ((B1 [])++ (B1 [rawInt pos.line,rawInt pos.col,-a]))),?_,Z
  .refine I.step (g':=s.gens) (d':=s.drawn) (ch:=[]) (λ_ z=>nomatch z) (λb o _ _ _ e n=>U b o (λz=>by rw[z,i]at n;cases n) e) (λb o _ _ _ e n=>#[o.slots,U b o (λz=>by rw[z,i]at n;cases n) e]) (λb o _ e n=>?_) (λb o _ e=>?_) (λb xs e=>?_) (λb o u e=>?_) (λb qs e=>?_) (λm hm=>?_) (λb u e=>?_) I.bare
   .have z:b≠P:=λz=>by rw[z,i]at n;cases n
    rw[qh z,qh (fr e).2,qh (fr e).1];exact w n
   .by_cases z:b=P
    .subst z;exact#[_,Jh _ M]
    .exact#[o,U b o z e]
   .have z:b≠P:=qD e i (by intro z;cases z)
    rw[qh z,qh (f e).2,qh (f e).1];rw[qh z]at e;exact e
   .have z:b≠P:=qD e i (by intro z;cases z)
    rw[qh z,qh (f e).2,qh (f e).1];rw[qh z]at e;exact e
   .by_cases z:b=P
    .subst z
     rw[i]at e;cases e
     exact#[_,qc]
    .exists (B1 [])
     rw[qh z,qh (f e).2,qh (f e).1];rw[qh z]at e;rw[e];simp
   .have z:P≠X.env.locals:=qr i I.free
    exact(hm.extBut hx z.symm).push _
   .by_cases z:b=P
    .subst z
     rw[qc]at e;cases e
     exact Jh _ M
    rw[qh z]at e
    by_cases z2:b=h'.objs.size
    .subst z2
     rw[qc]at e;cases e
     exact vM (Jr _ Z)
    rw[qh z2]at e
    by_cases z3:b=a
    .subst z3
     rw[qc]at e;cases e
     exact Ed #[oc,vs,t,Jh _ b1,hd,hv]
    rw[qh z3]at e;refine(I.hok b u (b0 z e)).stay (λd v A r=>U d v ?_ r) (λd r=>?_) λd xs r=>?_
    .rcases A with rfl|A
     .exact z
     .exact qD A i (by intro z;cases z)
    .have y:d≠P:=qD r i (by intro z;cases z)
     rw[qh y,qh (f r).2,qh (f r).1];rw[qh y]at r;exact r
    .have y:d≠P:=qD r i (by intro z;cases z)
     rw[qh y,qh (f r).2,qh (f r).1];rw[qh y]at r;exact r
  .have hc:(HG (HG g a (Ou (X.env.qual++"<lambda>") a)) h'.objs.size (Oa (X.env.qual++"<lambda>") params body scope ((X.mg "__name__").getD .none) a h'.objs.size)) a=↑(Ou (X.env.qual++"<lambda>") a):=by rw[qh T,qc]
   refine q _ a _ _ ((HE.upd nc).trans (HE.upd (by rw[qh T.symm];exact E))) (by rw[qh R,qh cP];exact Y) (.inr #[a,by simp,hc]) E qc hc
 .subst e0
  refine W.kla_makeFunctionHit (cv:= .ref a) L I.ok.glob gl l C S (by trivial) (by simp [codeAmong,rawInt]) B λN h' tk hk G=>?_
  have cP:a≠P:=λz=>by rw[z,Y]at p;cases p
  have E:(HG g P (.tbl (B1 [rawInt pos.line,rawInt pos.col,-a]))) h'.objs.size=none:=I.hok.fresh G
  have R:P≠h'.objs.size:=λz=>by rw[<- z,i]at E;cases E
  have D:=w E;have T:a≠h'.objs.size:=λz=>by rw[z,D]at p;cases p
  have J:(HG g h'.objs.size (Oa (X.env.qual++"<lambda>") params body scope ((X.mg "__name__").getD .none) a h'.objs.size)) a=↑(Ou (X.env.qual++"<lambda>") a):=by rw[qh T];exact p
  have q':=q h'.objs.size a _ (HG g h'.objs.size (Oa (X.env.qual++"<lambda>") params body scope ((X.mg "__name__").getD .none) a h'.objs.size)) (HE.upd D) (by rw[qh R];exact Y) (.inr #[a,Z,J]) D qc J
  refine#[-h'.objs.size,_,?_,Z,q']
  have e:HG (HG g h'.objs.size (Oa (X.env.qual++"<lambda>") params body scope ((X.mg "__name__").getD .none) a h'.objs.size)) P (.tbl (B1 [rawInt pos.line,rawInt pos.col,-a]))=HG (HG g P (.tbl (B1 [rawInt pos.line,rawInt pos.col,-a]))) h'.objs.size (Oa (X.env.qual++"<lambda>") params body scope ((X.mg "__name__").getD .none) a h'.objs.size):=by
   funext b
   unfold HG
   by_cases z:b=P
   .rw[Jc z,Jb (λy=>R (z.symm.trans y)),Jc z]
   .rw[Jb z,Jb z]
  rw[e];exact I.laid (λb u r=>Jh _ (hk b u r)) G (vM (Jr _ Z))]
end
theorem BP{K:ι}{k:Nat}
  {vs:Α}
  (hr:HS (k+1) A)(e0:Nc P w K mg base A a s H)(hf:H f=↑(Oa gV params body scope pm c f))(hc:H c=↑(Ou gV c))(S:HF N ps scope)
  (hb:∀g,BindsTo s (W.kla_fn "<lambda>" gV params body scope [] pm (-c) g) args (ps.zip us))(hl:vs.length=ps.length)(r:HL vs us)
  (d:HS k (A.deeper (envOfC gV scope s.heap.objs.size f (-c)))->PE (ZE CX P w K mg base N gV scope f (-c) A a s H E) body t)(m:t (ME N vs) H Q):
  codeAny (model P w) A (.call (-f) args) (CR CX a P w H s Q E) s:=by
 let#[g,D]:=Oa.code (e0.hok f _ hf)
 have j:=Ou.code (e0.hok c _ hc);have i:s.heap.NoLimit:=e0.mod.nolimit.keeps λb o e=>(e0.bs b o e).1
 have h:∀y∈ps.zip us,scope.names.lookup y.1=some .local\/(scope.names.lookup y.1=some .cell/\((cellsFrom (s.heap.objs.size+1) scope.names []).lookup y.1).isSome=true):=λ⟨n,v⟩ z=>by
  rcases S.par n (IJ z).1 with q|q
  .exact .inl q
  .exact .inr #[q,W.cellsFrom_some _ _ _ (.inl q)]
 refine W.kla_callFunE hr.depth D Z S.co S.gen Z j (hb g _ _ _ _ ?_)
 refine wpAny_newFunctionEnv_cells S.kind h λC p l x=>?_
 subst p;refine#[i.keeps x.toInCall.keep,W.kla_codeExpr ?_]
 have I:HH (ZE CX P w K mg base N gV scope f (-c) A a s H E) [] (ME N vs) H l:=kG S hr.hd e0 hl r x
 refine JJ (d (hr.deeper _) [] l (ME N vs) H _ I m) (λu s' hs=>?_) λe s' hs=>hs
 let#[v,H',J,B,q]:=hs
 exact#[v,H',J.os,J.bare,J.base,J.hok,B,q]
end L3
namespace L3
open PySem PySem.Spec PyProof.Rows L2 PySem.SeqAt
noncomputable def PK.lt:PK->PK->Bool
 | .int a,.int b=>decide (a<b)
 | .nil,.cons _ _=>true
 | .cons x xs,.cons y ys=>if x=y then PK.lt xs ys else PK.lt x y
 |_,_=>false
noncomputable def PK.cm:PK->PK->Bool
 | .int _,.int _=>true
 | .nil,.nil=>true
 | .nil,.cons _ _=>true
 | .cons _ _,.nil=>true
 | .cons x xs,.cons y ys=>if x=y then PK.cm xs ys else PK.cm x y
 |_,_=>false
theorem PK.lt_irr:∀x:PK,PK.lt x x=false
 | .int a=>by simp [PK.lt]
 | .non=>rfl
 | .nil=>rfl
 | .cons x xs=>by unfold PK.lt;rw[Jc Z];exact PK.lt_irr xs
theorem PK.lt_trans:∀{x y z:PK},PK.lt x y=true->PK.lt y z=true->PK.lt x z=true
 | .int a,y,z,h1,h2=>by
  cases y<;>try (simp [PK.lt]at h1;done)
  cases z<;>try (simp [PK.lt]at h2;done)
  simp [PK.lt]at h1 h2⊢;lia
 | .non,y,z,h1,h2=>by cases y<;>simp [PK.lt]at h1
 | .nil,y,z,h1,h2=>by
  cases y<;>try (simp [PK.lt]at h1;done)
  cases z<;>try (simp [PK.lt]at h2;done)
  rfl
 | .cons x xs,y,z,h1,h2=>by
  cases y with
  |int _=>simp [PK.lt]at h1
  |non=>simp [PK.lt]at h1
  |nil=>simp [PK.lt]at h1
  |cons y ys=>
   cases z with
   |int _=>simp [PK.lt]at h2
   |non=>simp [PK.lt]at h2
   |nil=>simp [PK.lt]at h2
   |cons z zs=>
    unfold PK.lt at h1 h2⊢
    by_cases d:x=y
    .subst d
     rw[Jc Z]at h1
     by_cases c:x=z
     .subst c
      rw[Jc Z]at h2⊢;exact PK.lt_trans h1 h2
     .rw[Jb c]at h2⊢;exact h2
    .rw[Jb d]at h1
     by_cases c:y=z
     .subst c
      rw[Jb d];exact h1
     .rw[Jb c]at h2
      have e:=PK.lt_trans h1 h2
      by_cases f:x=z
      .subst f;rw[PK.lt_irr]at e;cases e
      .rw[Jb f];exact e
theorem PK.lt_tri:∀{x y:PK},PK.cm x y=true->PK.lt x y=false->PK.lt y x=false->x=y
 | .int a,y,hc,h1,h2=>by
  cases y<;>try (simp [PK.cm]at hc;done)
  rename_i b
  simp [PK.lt]at h1 h2
  have e:a=b:=by lia
  rw[e]
 | .non,y,hc,h1,h2=>by cases y<;>simp [PK.cm]at hc
 | .nil,y,hc,h1,h2=>by
  cases y<;>try (simp [PK.cm]at hc;done)
  .rfl
  .simp [PK.lt]at h1
 | .cons x xs,y,hc,h1,h2=>by
  cases y with
  |int _=>simp [PK.cm]at hc
  |non=>simp [PK.cm]at hc
  |nil=>simp [PK.lt]at h2
  |cons y ys=>
   unfold PK.lt at h1 h2;unfold PK.cm at hc
   by_cases e:x=y
   .subst e
    rw[Jc Z]at h1 h2 hc;rw[PK.lt_tri hc h1 h2]
   .rw[Jb e]at h1 hc
    rw[Jb (λz=>e z.symm)]at h2
    exact absurd (PK.lt_tri hc h1 h2) e
noncomputable def gB(L:List PK)(k:PK):Int:=((L.countP λx=>PK.lt x k:Nat):Int)
theorem wA{L:List PK}{x y:PK}(hx:x∈L)(c:y∈L)(hc:PK.cm x y=true):decide (gB L x<gB L y)=PK.lt x y:=by
 have mono:∀{x y:PK},PK.lt x y=true->x∈L->gB L x<gB L y:=by
  clear hx c hc;intro x y h hx
  have:L.countP (λz=>PK.lt z x)<L.countP (λz=>PK.lt z y):=by
   induction L with
   |nil=>cases hx
   |cons a l ih=>
    rw[RO,RO];have le:l.countP (λz=>PK.lt z x)<=l.countP (λz=>PK.lt z y):=List.countP_mono_left λz _ f=>PK.lt_trans f h
    have g:(if PK.lt a x=true then 1 else 0)<=(if PK.lt a y=true then 1 else 0):=by
     by_cases q:PK.lt a x=true
     .rw[Jc q,Jc (PK.lt_trans q h)];exact Jd 1
     .rw[Jb q];exact JH _
    rcases Jp.mp hx with e|e
    .subst e
     rw[PK.lt_irr,Jb ⋯,Jc h];lia
    .have:=ih e
     lia
  unfold gB;lia
 cases h:PK.lt x y with
 |true=>exact Jj (mono h hx)
 |false=>
  refine Jl λd=>?_
  cases h2:PK.lt y x with
  |true=>have:=mono h2 c;lia
  |false=>rw[PK.lt_tri hc h h2]at d;lia
section
variable{prog:Ξ}{w:Ω}{A:Around}{E:Hu}{s:Θ}
theorem Z7{k:PK}(g:zG h k []):k= .nil:=by
 cases k with
 |int m=>exact(show False from g).elim
 |non=>exact(show False from g).elim
 |nil=>rfl
 |cons p q=>let#[_,_,e,_]:=g;cases e
theorem Ej(h:PK.cm x y=true):x.tup=y.tup:=by
 cases x<;>cases y<;>simp [PK.cm,PK.tup]at h⊢
theorem lD:∀(n:Nat) {x y:PK} {u v:Γ} {A:Around} {s:Θ} {E:Hu} {Q:Hu},x.sz<=n->PK.cm x y=true->A.units+x.dp<cLine->Qb s.heap x u->Qb s.heap y v->Q (.bool (PK.lt x y)) s->ε (model prog w) A (richCompare .Lt u v) Q E s
 |0,x,_,_,_,_,_,_,_,hz,_,_,_,_,_=>by have:=PK.sz_pos x;lia
 |n+1,x,y,u,v,A,s,E,Q,hz,hc,hu,gu,gv,h=>by
  have R:A.units<cLine:=by lia
  rcases QL gu with⟨a,t,rfl,rfl⟩|⟨rfl,rfl⟩|⟨hx,a,ia,rfl,ta⟩
  .rcases QL gv with⟨b,t',rfl,rfl⟩|⟨rfl,rfl⟩|⟨hy,b,ib,rfl,tb⟩
   .exact HT.rcLt_int A s a t b t' prog w E Q h
   .cases hc
   .cases y<;>first|(cases hc;done)|(cases hy;done)
  .cases y<;>cases hc
  have hy:y.tup=true:=by rw[<- Ej hc];exact hx
  let#[a',oa,xs,na,e1,I,Y,S,U]:=(Qp hx).mp gu
  let#[b,ob,ys,nb,rfl,H,X,P,a0]:=(Qp hy).mp gv
  cases e1;have N:s.TypeIs (-a) "tuple":=#[oa,I,Y]
  have O:s.TypeIs (-b) "tuple":=#[ob,H,X]
  refine wpAny_richCompare_same_room (op:= .Lt) N O F.slot_tuple_lt (J0 F.slot_tuple_lt N F.entry_tuple_lt ?_ (F.args_tuple_lt_2 _ _)) R
  show ε _ _ (isInstance (-b) (.type "tuple") >>= _) _ _ s
  refine Ja (IS O isSubtype_tuple_tuple ?_)
  simp only[Kc,KI,JU];refine Ja (wpAny_tupleItemsOf I S ?_)
  refine Ja (wpAny_tupleItemsOf H P ?_)
  refine Ja ?_
  refine wpAny_forIn_list _
   (λrest r s'=>r.1=none/\s'=s/\∃z M f d,rest=List.zip f d/\zG s.heap z f/\zG s.heap M d/\z.sz<=x.sz/\z.dp<=x.dp/\PK.cm z M=true/\PK.lt z M=PK.lt x y/\d.length+xs.size=f.length+ys.size)
   _ ?_ ?_ _ _ #[7,x,y,xs.toList,ys.toList,Z,U,a0,Jd _,Jd _,hc,Z,by simp;lia]
  .rintro⟨u,v⟩ rest r s' ⟨T,rfl,z,M,f,d,i,o,l,B,D,j,g,c⟩
   cases f with
   |nil=>simp at i
   |cons u' xs''=>
    cases d with
    |nil=>simp at i
    |cons v' ys''=>
     simp only[K7,List.cons.injEq,Prod.mk.injEq]at i;let#[#[rfl,rfl],rfl]:=i;let#[p,m,rfl,h1,G]:=Qs o;let#[k2,L,rfl,h2,C]:=Qs l;have z1:p.sz<x.sz:=by have:=PK.sz_pos m;simp only[PK.sz]at B;lia
     have z2:p.dp<x.dp:=by have:p.dp+1<=(PK.cons p m).dp:=Kl _ _;lia
     refine Ja (bi p.sz (Jd _) (by rw[J6];lia) h1 h2 ?_)
     unfold PK.cm at j;unfold PK.lt at g
     by_cases hk:p=k2
     .subst hk
      rw[Jj Z];rw[Jc Z]at j g;simp only[Kc,KI,JU];exact Je #[7,m,L,xs'',ys'',Z,G,C,by simp only[PK.sz]at B;lia,Jg (Kz _ _) D,j,by rw[g];cases x<;>cases y<;>rfl,by simp at c;lia]
     .rw[Jl hk]
      rw[Jb hk]at j g;simp only[RN,JW];refine Ja (J4 (Ja (lD n (by lia) j (by rw[J6];lia) h1 h2 ?_)))
      have e:PK.lt p k2=PK.lt x y:=by rw[g];cases x<;>cases y<;>rfl
      rw[e];exact Ja (Je (Je (Je #[0,(λe=>nomatch e),h])))
  .rintro⟨r1,r2⟩ s' ⟨T,rfl,z,M,f,d,i,o,l,B,D,j,g,c⟩
   simp only at T
   subst T;refine Je ?_
   have J:decide (xs.size<ys.size)=PK.lt x y:=by
    rw[<- g];cases f with
    |nil=>
     have ex:=Z7 o;subst ex;cases d with
     |nil=>
      have W:=Z7 l;subst W;simp at c
      exact(Jl (by lia)).trans Z
     |cons v r=>
      let#[k2,L,rfl,_,_]:=Qs l;simp at c
      exact(Jj (by lia)).trans Z
    |cons u q=>
     let#[p,m,rfl,_,_]:=Qs o;cases d with
     |nil=>
      have W:=Z7 l;subst W;simp at c
      exact(Jl (by lia)).trans Z
     |cons v r=>simp at i
   show∃v,Fin.done (Flow.ret (.bool (decide (xs.size<ys.size))))=Fin.done (.ret v)/\v≠Γ.notImplemented/\Q v s'
   rw[J]
   exact#[0,(λe=>nomatch e),h]
end
end L3
set_option linter.unusedSectionVars false
namespace S1
open PySem PyProof.Rows
theorem al{b n s i:Nat}(h:b+n<=s)(hi:i<n):b+i<s:=Jn (KS hi b) h
theorem pl{n:Nat}(h:0<n):n-1<n:=Nat.sub_one_lt_of_lt h
theorem Zc{n s:Nat}(h:0<n)(hs:n<=s):n-1<s:=Jn (pl h) hs
theorem pb{b n:Nat}(h:0<n):b+n-1<b+n:=pl (Jn h (Kh n b))
theorem za{n s:Nat}(h:n<=s):0+n<=s:=Jg (JZ (K0 n)) h
theorem np{m k:Nat}(h:¬m-k>0):m<=k:=RP (Nat.eq_zero_of_not_pos h)
theorem pg{m:Nat}(a:1<m)(e:¬m-1=1):1<m-1:=G2 (KH a) (Ne.symm e)
theorem q5{a i j:Nat}(h:a<=i+j):a+1<=i+1+j:=by rw[K9];exact GP h
theorem zm{n o:Nat}(h:max 0 n+1<=o):n<o:=by rwa [Nat.zero_max]at h
theorem e0{r l n:Nat}(h:r+max 0 n<=n+l):r<=l:=by rw[Nat.zero_max,NH n]at h;exact Nat.le_of_add_le_add_right h
theorem FE{m r x s:Nat}(h:m<r)(a:r+x<=s):m+(x+1)<=s:=Jn (Nat.add_lt_add_right h x) a
theorem vK{l r:Nat}(h:¬l ≥ r):l+(r-l)/2<r:=
 Jn (KS (Nat.div_lt_self (KJ (NU h)) (Ib 1)) l) (JZ (KA (Jv (NU h))))
theorem md{l r:Nat}(h:¬l ≥ r):(l+r)/2<r:=by lia
theorem ml{l r:Nat}(h:l<=r):l<=(l+r)/2:=by lia
theorem FJ{i j k:Nat}(h:i<=k/\k<j):i<=i+j-1-k:=RQ (KH (KS h.2 i))
theorem FD{i j k:Nat}(h:i<=k/\k<j):i+j-1-k<j:=by lia
theorem mn{o m:Nat}:m-min o m=m-o:=by
 rcases Nat.le_total o m with h|h
 .rw[Ky h]
 .rw[OK h,Kk,RR h]
theorem sj{a b j s:Nat}(h:a<=j/\j<s)(e:s=a+b):j-a<b:=K1 h.1 (e▸h.2)
theorem sk{a k n:Nat}(h:k<n):a+k+(n-k-1)=a+n-1:=by
 rw[<- RS (KJ h),KD,KA (Jv h)]
theorem Dz{s i:Nat}(h1:s-(0+1)<=i)(h2:i<s):i=s-1:=KQ (KH h2) h1
theorem q1{n m y s:Nat}(h:0<n)(a:n+m+y<=s):n-1+m+1<=s:=by
 rw[K9,K2 h];exact Jg (JG _ _) a
theorem q2{n m y s:Nat}(h:0<n)(a:n+m+y<=s):n-1+m+(y+1)<=s:=by
 rw[<- KD,K9 _ y,K9 _ m,K2 h];exact a
theorem q3{n m y s:Nat}(h:0<m)(a:n+m+y<=s):n+(m-1)+1<=s:=by
 rw[KD,K2 h];exact Jg (JG _ _) a
theorem q4{n m y s:Nat}(h:0<m)(a:n+m+y<=s):n+(m-1)+(y+1)<=s:=by
 rw[NH y,<- KD,KD n,K2 h];exact a
class KO where
 kp:Keyed->Int
 IntP:Keyed->Prop
 kind:SortKind
open KO
class KL [KO] (prog:Ξ) (w:Ω) (A:Around) (s:Θ):Prop where
 lt:∀{E:Hu} {x y:Keyed} {Q:Bool->Θ->Prop},IntP x->IntP y->Q (decide (kp x<kp y)) s->ε (model prog w) A (keyLt' kind x.1 y.1) Q E s
variable[KO]
noncomputable def K(xs:Array Keyed)(i:Nat):Int:=match xs[i]? with
 |some p=>kp p
 |none=>0
theorem ZX{xs ys:Array Keyed}{i j:Nat}(h:xs[i]? =ys[j]?):K xs i=K ys j:=by unfold K;rw[h]
theorem yM{xs:Array Keyed}{a d:Nat}(hs:a<xs.size)(hd:d<=a)(k:Nat):
  K (bubble xs a d) k=if k=a-d then K xs a else if a-d<k/\k<=a then K xs (k-1)else K xs k:=by
 have e:=getElem?_bubble hs d hd k
 by_cases h1:k=a-d
 .rw[Jc h1]at e⊢;exact ZX e
 .rw[Jb h1]at e⊢
  by_cases c:a-d<k/\k<=a
  .rw[Jc c]at e⊢;exact ZX e
  .rw[Jb c]at e⊢;exact ZX e
theorem cU{xs:Array Keyed}{i j:Nat}(a:j<=xs.size)(k:Nat):
  K (mirror xs i j ((j-i)/2)) k=if i<=k/\k<j then K xs (i+j-1-k)else K xs k:=by
 have e:=getElem?_mirror_all (i:=i) a k
 by_cases h1:i<=k/\k<j
 .rw[Jc h1]at e⊢;exact ZX e
 .rw[Jb h1]at e⊢;exact ZX e
theorem Z5{xs:Array Keyed}{i j:Nat}(c:j<=xs.size)(a:∀k,i<=k->k<j->K xs k=K xs (j-1))(k:Nat):
  K (mirror xs i j ((j-i)/2)) k=K xs k:=by
 rw[cU c];split
 next h=>rw[a _ (FJ h) (FD h),a k h.1 h.2]
 .rfl
structure SB(a₀:Array Keyed)(st:SortSt):Prop where
 perm:(arrOf st).Perm a₀
 kind:kindOf st=KO.kind
 failed:failedOf st=none
noncomputable def bv:Bool->Keyed->Array Keyed->Nat->Nat->Nat->StateT SortSt Sem μ:=sortPriv% PySem.Builtin.gallop
noncomputable def xw:Array Keyed->Array Keyed->StateT SortSt Sem (Array Keyed):=sortPriv% PySem.Builtin.mergeLo
noncomputable def xt:Array Keyed->Array Keyed->StateT SortSt Sem (Array Keyed):=sortPriv% PySem.Builtin.mergeHi
noncomputable abbrev Qy(st:SortSt)(g:Nat):SortSt:=SortSt.mk' (kindOf st) (arrOf st) (pendingOf st) g (failedOf st)
section
variable{prog:Ξ}{w:Ω}{A:Around}{s:Θ}[KL prog w A s]
theorem fq{st:SortSt}{Q:Option Bool->SortSt->Prop}(hk:kindOf st=KO.kind)(hx:IntP x)(a:IntP y)
  (h:Q ↑(decide (kp x<kp y)) st):wpS (model prog w) A E s (lt' x y) Q st:=by
 rw[lt'_eq];refine wpS_bind (wpS_get ?_)
 rw[hk];exact wpS_bind (wpS_lift (Ic (KL.lt hx a #[Z,wpS_pure h])))
theorem qS{st:SortSt}{xs:Array Keyed}{i:Nat}{Q:Keyed->SortSt->Prop}(hi:i<xs.size)(h:Q xs[i] st):
  wpS (model prog w) A E s (elem' xs i) Q st:=by
 rw[elem'_eq,getElem?_pos xs i hi];exact wpS_pure h
theorem Ew(left:Bool)(d:Keyed)(xs:Array Keyed)(b n a:Nat):bv left d xs b n a=(do
 let c (i:Nat):StateT SortSt Sem (Option Bool):=do
  let x <- elem' xs (b+i)
  if left then lt' x d else return (<- lt' d x).map (!·)
 let mut l0:=0
 let mut o:=1
 let mut lo:=0
 let mut hi:=0
 let ↑r0 <- c a|return none
 if r0 then
  let e:=n-a
  for _ in [0:n] do
   if o ≥ e then break
   let ↑more <- c (a+o)|return none
   if ! more then break
   l0:=o
   o:=2*o+1
  lo:=a+l0+1
  hi:=a+min o e
 else
  let e:=a+1
  for _ in [0:n] do
   if o ≥ e then break
   let ↑fd <- c (a-o)|return none
   if fd then break
   l0:=o
   o:=2*o+1
  lo:=a+1-min o e
  hi:=a-l0
 for _ in [0:n] do
  if lo ≥ hi then break
  let m:=lo+(hi-lo)/2
  let ↑more <- c m|return none
  if more then lo:=m+1 else hi:=m
 return ↑hi):=Z
theorem rB{st:SortSt}{left:Bool}{xs:Array Keyed}{b n a:Nat}{Q:μ->SortSt->Prop}(P:Nat->Bool)
  (hk:kindOf st=KO.kind)(v:IntP t)(hsz:b+n<=xs.size)(d:a<n)
  (hx:∀i (h:b+i<xs.size),i<n->IntP xs[b+i]/\P i=if left then decide (kp xs[b+i]<kp t)else ! decide (kp t<kp xs[b+i]))
  (H:∀i j,i<=j->j<n->P j=true->P i=true)
  (h:∀k,k<=n->(∀i,i<k->P i=true)->(∀i,k<=i->i<n->P i=false)->Q ↑k st):
  wpS (model prog w) A E s (bv left t xs b n a) Q st:=by
 have J:∀i j,i<=j->j<n->P i=false->P j=false:=by
  intro i j L F hi;cases e:P j
  .rfl
  .rw[H i j L F e]at hi;cases hi
 rw[Ew]
 extract_lets byd l0 o jp m1 m2
 have G:∀i,i<n->∀{N:Option Bool->SortSt->Prop},N ↑(P i) st->wpS (model prog w) A E s (byd i) N st:=by
  intro i hi N D;have C:b+i<xs.size:=al hsz hi
  let#[h1,g]:=hx i C hi;refine wpS_bind (qS C ?_)
  cases left
  .rw[Jb ⋯]at g⊢
   exact wpS_bind (fq hk v h1 (wpS_pure (by rw[g]at D;exact D)))
  .rw[Jc Z]at g⊢
   exact fq hk h1 v (by rw[g]at D;exact D)
 clear_value byd
 have F:∀l o lo hi,lo<=hi->hi<=n->(∀i,i<lo->P i=true)->(∀i,hi<=i->i<n->P i=false)->
   wpS (model prog w) A E s (jp () l o lo hi) Q st:=by
  intro l o lo hi M z R O;refine wpS_bind (wpS_mono (wpS_forRange (I:=λx c f=>f=st/\∃l r,c=(none,l,r)/\l<=r/\r<=n/\r+x<=n+l/\
    (∀i,i<l->P i=true)/\∀i,r<=i->i<n->P i=false)
   (Q:=λc f=>f=st/\∃l r,c=(none,l,r)/\l=r/\r<=n/\(∀i,i<l->P i=true)/\∀i,r<=i->i<n->P i=false)
   ?ga1 ?gb1 #[Z,lo,hi,Z,M,z,Od z,R,O]) ?gc1)
  case ga1=>
   rintro x c f _ B ⟨rfl,l,r,rfl,h1,g,q,m,y⟩
   dsimp only
   by_cases p:l ≥ r
   .rw[Jc p]
    exact wpS_pure #[Z,l,r,Z,KQ h1 p,g,m,y]
   .rw[Jb p]
    refine wpS_bind (G _ (Jn (vK p) g) ?_)
    dsimp only
    cases e:P (l+(r-l)/2)
    .rw[Jb ⋯]
     exact wpS_pure #[Z,l,0,JG _ _,Jg (Jv (vK p)) g,FE (vK p) q,m,λi QM eK=>J _ i QM eK e]
    .rw[Jc Z]
     exact wpS_pure #[37,r,Z,vK p,g,GP (Jg q (Cs (JG l _) n)),λi QM=>H i _ (Kd QM) (Jn (vK p) g) e,y]
  case gb1=>
   rintro c f ⟨rfl,l,r,rfl,h1,g,q,m,y⟩
   exact#[Z,l,r,Z,KQ h1 (e0 q),g,m,y]
  case gc1=>
   rintro c f ⟨rfl,l,r,rfl,rfl,g,m,y⟩
   exact wpS_pure (h l g m y)
 clear_value jp
 refine wpS_bind (G a d ?_)
 dsimp only
 cases e0:P a
 .rw[Jb ⋯]
  refine wpS_bind (wpS_mono (wpS_forRange (I:=λx c f=>f=st/\∃l o,c=(none,l,o)/\x+1<=o/\l<o/\l<=a/\P (a-l)=false)
   (Q:=λc f=>f=st/\∃l o,c=(none,l,o)/\l<o/\l<=a/\P (a-l)=false/\(a+1<=o\/P (a-o)=true))
   ?ga2 ?gb2 #[Z,(0),(1),Z,Jd 1,Nat.one_pos,JH _,e0]) ?gc2)
  case ga2=>
   rintro x c f _ B ⟨rfl,l,o,rfl,h1,g,q,m⟩
   dsimp only
   by_cases p:o ≥ m2
   .rw[Jc p]
    exact wpS_pure #[Z,l,o,Z,g,q,m,.inl p]
   .rw[Jb p]
    have u:o<a+1:=NU p
    refine wpS_bind (G _ (Oe d) ?_)
    dsimp only
    cases e:P (a-o)
    .rw[Jb ⋯]
     exact wpS_pure #[Z,o,0,by lia,by lia,Kd u,e]
    .rw[Jc Z]
     exact wpS_pure #[Z,l,o,Z,g,q,m,.inr e]
  case gb2=>
   rintro c f ⟨rfl,l,o,rfl,h1,g,q,m⟩
   exact#[Z,l,o,Z,g,q,m,.inl (Jg d (Jv (zm h1)))]
  case gc2=>
   rintro c f ⟨rfl,l,o,rfl,h1,g,q,m⟩
   dsimp only
   refine F _ _ _ _ (show a+1-min o (a+1)<=_ from Jg (RT (NV.2 #[h1,GP g]) _) (JZ (RU a 1 l))) (Jv (Oe d)) (λi hi=>?_) λi QM eK=>J _ i QM eK q
   change i<a+1-min o (a+1)at hi
   rw[mn]at hi;rcases m with m|m
   .rw[RR m]at hi;exact absurd hi (RW _)
   .exact H i _ (RQ (Kd (Nat.add_lt_of_lt_sub hi))) (Oe d) m
 .rw[Jc Z]
  refine wpS_bind (wpS_mono (wpS_forRange (I:=λx c f=>f=st/\∃l o,c=(none,l,o)/\x+1<=o/\l<o/\a+l<n/\P (a+l)=true)
   (Q:=λc f=>f=st/\∃l o,c=(none,l,o)/\l<o/\a+l<n/\P (a+l)=true/\(n-a<=o\/P (a+o)=false))
   ?ga3 ?gb3 #[Z,(0),(1),Z,Jd 1,Nat.one_pos,d,e0]) ?gc3)
  case ga3=>
   rintro x c f _ B ⟨rfl,l,o,rfl,h1,g,q,m⟩
   dsimp only
   by_cases p:o ≥ m1
   .rw[Jc p]
    exact wpS_pure #[Z,l,o,Z,g,q,m,.inl p]
   .rw[Jb p]
    have u:o<n-a:=NU p
    refine wpS_bind (G _ (Ke u) ?_)
    dsimp only
    cases e:P (a+o)
    .rw[Jc ⋯]
     exact wpS_pure #[Z,l,o,Z,g,q,m,.inr e]
    .rw[Jb ⋯]
     exact wpS_pure #[Z,o,0,by lia,by lia,Ke u,e]
  case gb3=>
   rintro c f ⟨rfl,l,o,rfl,h1,g,q,m⟩
   exact#[Z,l,o,Z,g,q,m,.inl (Jg (KM n a) (Jv (zm h1)))]
  case gc3=>
   rintro c f ⟨rfl,l,o,rfl,h1,g,q,m⟩
   dsimp only
   refine F _ _ _ _ (show _<=a+min o (n-a)from Cs (NV.2 #[h1,Og.2 g]) a) (Jg (Cs (Ip _ _) _) (JZ (KA (Jv d)))) (λi hi=>H i _ (Kd hi) g q) λi QM eK=>?_
   change a+min o (n-a)<=i at QM
   rcases m with m|m
   .rw[OK m,KA (Jv d)]at QM;exact absurd QM (NX eK)
   .exact J _ i (by lia) eK m
end
end S1
set_option linter.unusedSectionVars false
namespace S1
open PySem PyProof.Rows KO
variable[KO]
def Le2(xs ys:Ρ):Prop:=∀x∈xs,∀y∈ys,kp x<=kp y
def Pw(xs:Ρ):Prop:=xs.Pairwise (λx y=>kp x<=kp y)
def zx(T R:Ρ):Prop:=Pw R/\R.Perm T
theorem pw_append{xs ys:Ρ}:Pw (xs++ys)↔Pw xs/\Pw ys/\Le2 xs ys:=by
 unfold Pw Le2;exact RX
structure MI(T U A B:Ρ):Prop where
 u:Pw U
 a:Pw A
 b:Pw B
 ua:Le2 U A
 ub:Le2 U B
 perm:(U++(A++B)).Perm T
theorem Le2.app{V:Ρ}(h1:Le2 U W)(h2:Le2 V W):Le2 (U++V) W:=by
 intro x a y c;rcases JD.mp a with a|a
 .exact h1 x a y c
 .exact h2 x a y c
theorem MI.takeA{e f:Ρ}(h:MI T U (e++f) B)(hl:Le2 e B):MI T (U++e) f B:=by
 have d:=pw_append.mp h.a;exists pw_append.mpr #[h.u,d.1,λx a y c=>h.ua x a y (GB _ c)],d.2.1,h.b,?_,h.ub.app hl
 .exact Le2.app (λx a y c=>h.ua x a y (JL _ c)) d.2.2
 .have:=h.perm
  simpa only[Gw]using this
theorem MI.takeB{d f:Ρ}(h:MI T U A (d++f))(hl:Le2 d A):MI T (U++d) A f:=by
 have c:=pw_append.mp h.b;exists pw_append.mpr #[h.u,c.1,λx a y e=>h.ub x a y (GB _ e)],h.a,c.2.1,h.ua.app hl,?_
 .exact Le2.app (λx a y e=>h.ub x a y (JL _ e)) c.2.2
 .refine List.Perm.trans ?_ h.perm
  rw[Gw];refine List.Perm.append_left U ?_
  rw[<- Gw,<- Gw];exact List.Perm.append_right f K5
theorem MI.doneA(h:MI T U A []):zx T (U++A):=
 #[pw_append.mpr #[h.u,h.a,h.ua],by simpa using h.perm]
theorem MI.doneB(h:MI T U [] B):zx T (U++B):=
 #[pw_append.mpr #[h.u,h.b,h.ub],by simpa using h.perm]
theorem MI.lastA(h:MI T U A B)(hl:Le2 B A):zx T (U++B++A):=
 #[pw_append.mpr #[pw_append.mpr #[h.u,h.b,h.ub],h.a,h.ua.app hl],
  List.Perm.trans (by rw[Gw];exact List.Perm.append_left U K5) h.perm]
theorem Z2(a:Array Keyed)(i:Nat):(a.extract i a.size).toList=a.toList.drop i:=by
 rw[Array.toList_extract];simp only[List.extract_eq_take_drop];exact Iy (by simp)
theorem nj(a:Array Keyed)(i k:Nat):(a.extract i (i+k)).toList=(a.toList.drop i).take k:=by
 simp
theorem kA(a:Array Keyed){i:Nat}(h:i<a.size):a.toList.drop i=a[i]::a.toList.drop (i+1):=by
 rw[Kv (by simpa using h)];simp
theorem ir(a:Array Keyed)(i k:Nat):a.toList.drop i=(a.toList.drop i).take k++a.toList.drop (i+k):=by
 rw[<- Oh,Kg]
theorem Z8{a:Array Keyed}{x:Keyed}(h:x∈a.toList.drop i):∃m,∃c:m<a.size,i<=m/\a[m]=x:=by
 let#[k,hk,rfl]:=KN.mp h;simp at hk
 exact#[i+k,Ke hk,JG _ _,by simp]
theorem mQ{a:Array Keyed}{i k:Nat}{x:Keyed}(h:x∈(a.toList.drop i).take k):∃m,∃c:i+m<a.size,m<k/\a[i+m]=x:=by
 let#[m,c,rfl]:=KN.mp h;simp at c
 exact#[m,Ke (Jn c (Ip _ _)),Jn c (K3 _ _),by simp]
def Srt(a:Array Keyed):Prop:=∀i j (hi:i<a.size) (c:j<a.size),i<=j->kp a[i]<=kp a[j]
theorem Srt.pw(h:Srt a):Pw a.toList:=by
 unfold Pw;rw[Ls];intro i j hi d c
 simpa using h i j (by simpa using hi) (by simpa using d) (Jv c)
def Mg(a b o:Array Keyed)(i j:Nat):Prop:=MI (a.toList++b.toList) o.toList (a.toList.drop i) (b.toList.drop j)
section
variable{b:Array Keyed}{i j:Nat}
theorem Mg.pushB(h:Mg a b o i j)(ha:Srt a)(hb:Srt b)(hi:i<a.size)(d:j<b.size)(hl:kp b[j]<=kp a[i]):Mg a b (o.push b[j]) i (j+1):=by
 unfold Mg at h⊢;rw[kA b d,show b[j]::b.toList.drop (j+1)=[b[j]]++b.toList.drop (j+1)from Z]at h
 rw[L1];refine h.takeB λx c y f=>?_
 rw[Jm.mp c];let#[m,e,h1,rfl]:=Z8 f;exact Iv hl (ha _ _ hi e h1)
theorem Mg.pushA(h:Mg a b o i j)(ha:Srt a)(hb:Srt b)(hi:i<a.size)(d:j<b.size)(hl:kp a[i]<=kp b[j]):Mg a b (o.push a[i]) (i+1) j:=by
 unfold Mg at h⊢;rw[kA a hi,show a[i]::a.toList.drop (i+1)=[a[i]]++a.toList.drop (i+1)from Z]at h
 rw[L1];refine h.takeA λx c y f=>?_
 rw[Jm.mp c];let#[m,e,h1,rfl]:=Z8 f;exact Iv hl (hb _ _ d e h1)
theorem Mg.extA(h:Mg a b o i j)(ha:Srt a)(hb:Srt b){k:Nat}(e:j<b.size)(hl:∀m (hm:i+m<a.size),m<k->kp a[i+m]<=kp b[j]):
  Mg a b (o++a.extract i (i+k)) (i+k) j:=by
 unfold Mg at h⊢;rw[ir a i k]at h;rw[KF,nj];refine h.takeA λx d y f=>?_
 let#[m,hm,h1,rfl]:=mQ d;let#[l,c,g,rfl]:=Z8 f;exact Iv (hl m hm h1) (hb _ _ e c g)
theorem Mg.extB(h:Mg a b o i j)(ha:Srt a)(hb:Srt b){k:Nat}(hi:i<a.size)(hl:∀m (hm:j+m<b.size),m<k->kp b[j+m]<=kp a[i]):
  Mg a b (o++b.extract j (j+k)) i (j+k):=by
 unfold Mg at h⊢;rw[ir b j k]at h;rw[KF,nj];refine h.takeB λx d y e=>?_
 let#[m,hm,h1,rfl]:=mQ d;let#[g,c,f,rfl]:=Z8 e;exact Iv (hl m hm h1) (ha _ _ hi c f)
theorem Mg.doneB(h:Mg a b o i j)(c:b.size<=j):zx (a.toList++b.toList) (o++a.extract i a.size++b.extract j b.size).toList:=by
 unfold Mg at h;rw[KF,KF,Z2,Z2];have e:b.toList.drop j=[]:=RY (by simpa using c)
 rw[e]at h⊢;rw[GC];exact h.doneA
theorem Mg.doneA(h:Mg a b o i j)(hi:a.size<=i):zx (a.toList++b.toList) (o++a.extract i a.size++b.extract j b.size).toList:=by
 unfold Mg at h;rw[KF,KF,Z2,Z2];have e:a.toList.drop i=[]:=RY (by simpa using hi)
 rw[e]at h⊢;rw[GC];exact h.doneB
theorem Mg.last(h:Mg a b o i j)(hi:i+1=a.size)(hl:∀m (hm:m<b.size),kp b[m]<=kp a[a.size-1]):
  zx (a.toList++b.toList) (o++b.extract j b.size++a.extract i a.size).toList:=by
 unfold Mg at h;rw[KF,KF,Z2,Z2];refine h.lastA λx d y g=>?_
 let#[m,hm,h1,rfl]:=Z8 d;let#[f,c,l,rfl]:=Z8 g;have e:f=a.size-1:=KQ (KH c) (Nat.sub_le_of_le_add (hi▸GP l))
 subst e;exact hl m hm
end
theorem BQ(a b:Array Keyed):xw a b=(do
 rule "list.sort.merge-lo"
 let c:=a.size+b.size
 let dn (o:Array Keyed) (i j:Nat):=o++a.extract i a.size++b.extract j b.size
 let la (o:Array Keyed) (i j:Nat):=o++b.extract j b.size++a.extract i a.size
 let mut o:Array Keyed:= (B1 [<- elem' b 0])
 let mut i:=0
 let mut j:=1
 if j==b.size then return dn o i j
 if i+1==a.size then return la o i j
 let mut g:=gallopOf (<- get)
 for _ in [0:c] do
  let mut ca:=0
  let mut cb:=0
  for _ in [0:c] do
   let ↑bw <- lt' (<- elem' b j) (<- elem' a i)|return dn o i j
   if bw then
    o:=o.push (<- elem' b j);j:=j+1;cb:=cb+1;ca:=0
    if j==b.size then return dn o i j
    if cb ≥ g then break
   else
    o:=o.push (<- elem' a i);i:=i+1;ca:=ca+1;cb:=0
    if i+1==a.size then return la o i j
    if ca ≥ g then break
  rule "list.sort.gallop"
  g:=g+1
  for _ in [0:c] do
   if g>1 then g:=g-1
   modify (Qy · g)
   let ↑k <- bv false (<- elem' b j) a i (a.size-i) 0|return dn o i j
   ca:=k
   if k>0 then
    o:=o++a.extract i (i+k);i:=i+k
    if i+1==a.size then return la o i j
    if i==a.size then return dn o i j
   o:=o.push (<- elem' b j);j:=j+1
   if j==b.size then return dn o i j
   let ↑k <- bv true (<- elem' a i) b j (b.size-j) 0|return dn o i j
   cb:=k
   if k>0 then
    o:=o++b.extract j (j+k);j:=j+k
    if j==b.size then return dn o i j
   o:=o.push (<- elem' a i);i:=i+1
   if i+1==a.size then return la o i j
   if ca<7&&cb<7 then break
  g:=g+1
  modify (Qy · g)
 unsupported "internal:list.sort.merge-bound"):=Z
end S1
set_option linter.unusedSectionVars false
namespace S1
open PySem PyProof.Rows KO
variable[KO]
section
variable{prog:Ξ}{w:Ω}{A:Around}{s:Θ}[KL prog w A s]
abbrev Gs(st st':SortSt):Prop:=∃g,st'=Qy st g
def Ints(a:Array Keyed):Prop:=∀i (h:i<a.size),IntP a[i]
def lB(xs:Array Keyed)(b n:Nat):Prop:=∀i j (hi:i<xs.size) (a:j<xs.size),b<=i->i<=j->j<b+n->kp xs[i]<=kp xs[j]
theorem gO{st:SortSt}{xs:Array Keyed}{b d:Nat}{Q:μ->SortSt->Prop}
  (hk:kindOf st=KO.kind)(e:IntP c)(r:Ints xs)(hs:lB xs b n)(hsz:b+n<=xs.size)(a:d<n)
  (h:∀k,k<=n->(∀m (hm:b+m<xs.size),m<k->kp xs[b+m]<=kp c)->(∀m (hm:b+m<xs.size),k<=m->m<n->kp c<kp xs[b+m])->Q ↑k st):
  wpS (model prog w) A E s (bv false c xs b n d) Q st:=by
 refine rB (λm=>if hm:b+m<xs.size then ! decide (kp c<kp xs[b+m])else false) hk e hsz a ?_ ?_ ?_
 .intro i hi _
  exact#[r _ hi,by rw[dif_pos hi,Jb ⋯]]
 .intro i j f l q
  have h1:=al hsz l;have g:=al hsz (KB f l)
  have:=hs (b+i) (b+j) g h1 (JG _ _) (Cs f b) (KS l b)
  simp only[dif_pos h1,dif_pos g,LW,decide_eq_false_iff_not]at q⊢;exactλh=>q (OO h this)
 .intro k o u t
  refine h k o (λm hm p=>?_) λm hm h1 g=>?_
  .have:=u m p
   simp only[dif_pos hm,LW,decide_eq_false_iff_not]at this;exact KY.mp this
  .have:=t m h1 g
   simp only[dif_pos hm,Bool.not_eq_false',decide_eq_true_eq]at this;exact this
theorem gH{st:SortSt}{xs:Array Keyed}{b d:Nat}{Q:μ->SortSt->Prop}
  (hk:kindOf st=KO.kind)(e:IntP c)(r:Ints xs)(hs:lB xs b n)(hsz:b+n<=xs.size)(a:d<n)
  (h:∀k,k<=n->(∀m (hm:b+m<xs.size),m<k->kp xs[b+m]<kp c)->(∀m (hm:b+m<xs.size),k<=m->m<n->kp c<=kp xs[b+m])->Q ↑k st):
  wpS (model prog w) A E s (bv true c xs b n d) Q st:=by
 refine rB (λm=>if hm:b+m<xs.size then decide (kp xs[b+m]<kp c)else false) hk e hsz a ?_ ?_ ?_
 .intro i hi _
  exact#[r _ hi,by rw[dif_pos hi,Jc Z]]
 .intro i j f l q
  have h1:=al hsz l;have g:=al hsz (KB f l)
  have:=hs (b+i) (b+j) g h1 (JG _ _) (Cs f b) (KS l b)
  simp only[dif_pos h1,dif_pos g,decide_eq_true_eq]at q⊢;exact Int.lt_of_le_of_lt this q
 .intro k o u t
  refine h k o (λm hm p=>?_) λm hm h1 g=>?_
  .have:=u m p
   simpa only[dif_pos hm,decide_eq_true_eq]using this
  .have:=t m h1 g
   simp only[dif_pos hm,decide_eq_false_iff_not]at this;exact KY.mp this
theorem Srt.srtIn(h:Srt xs)(b n:Nat):lB xs b n:=λi j hi c _ a _=>h i j hi c a
theorem Mg.start{b:Array Keyed}(ha:Srt a)(hb:Srt b)(e:0<a.size)(nb:0<b.size)(d:kp b[0]<=kp a[0]):Mg a b (B1 [b[0]]) 0 1:=by
 have h:Mg a b (B1 []) 0 0:=#[.nil,ha.pw,hb.pw,λx c=>(nomatch c),λx c=>(nomatch c),List.Perm.refl _]
 exact h.pushB ha hb e nb d
noncomputable abbrev tJ:=Option (Array Keyed)×Array Keyed×Nat×Nat×Nat×Nat×Nat
section
variable(a b:Array Keyed)(dn la:Array Keyed->Nat->Nat->Array Keyed)
noncomputable def Bp(o:Array Keyed)(i j g d c:Nat):StateT SortSt Sem (ForInStep tJ):=do
 let x <- elem' a i
 if i+1+1==a.size then pure (.done (↑(la (o.push x) (i+1) j),o.push x,i+1,j,g,d,c))
 else if decide (d<7)&&decide (c<7)then pure (.done (none,o.push x,i+1,j,g,d,c))
 else pure (.yield (none,o.push x,i+1,j,g,d,c))
noncomputable def Bd(o:Array Keyed)(i j g c d:Nat):StateT SortSt Sem (ForInStep tJ):=do
 let x <- elem' b j
 if j+1==b.size then pure (.done (↑(dn (o.push x) i (j+1)),o.push x,i,j+1,g,c,d))
 else do
  let y <- elem' a i
  let z <- bv true y b (j+1) (b.size-(j+1)) 0
  match z with
  |some k=>
   if k>0 then
    if j+1+k==b.size then
     pure (.done (↑(dn (o.push x++b.extract (j+1) (j+1+k)) i (j+1+k)),o.push x++b.extract (j+1) (j+1+k),i,j+1+k,g,c,k))
    else Bp a la (o.push x++b.extract (j+1) (j+1+k)) i (j+1+k) g c k
   else Bp a la (o.push x) i (j+1) g c k
  |_=>pure (.done (↑(dn (o.push x) i (j+1)),o.push x,i,j+1,g,c,d))
noncomputable def vA(o:Array Keyed)(i j g d c:Nat):StateT SortSt Sem (ForInStep tJ):=do
 modify (Qy · g)
 let x <- elem' b j
 let z <- bv false x a i (a.size-i) 0
 match z with
 |some k=>
  if k>0 then
   if i+k+1==a.size then
    pure (.done (↑(la (o++a.extract i (i+k)) (i+k) j),o++a.extract i (i+k),i+k,j,g,k,c))
   else if i+k==a.size then
    pure (.done (↑(dn (o++a.extract i (i+k)) (i+k) j),o++a.extract i (i+k),i+k,j,g,k,c))
   else Bd a b dn la (o++a.extract i (i+k)) (i+k) j g k c
  else Bd a b dn la o i j g k c
 |_=>pure (.done (↑(dn o i j),o,i,j,g,d,c))
end
def LR(a b:Array Keyed)(st:SortSt)(B:Nat)(r:ForInStep tJ)(f:SortSt):Prop:=Gs st f/\match r with
 | .done c=>(∃R o i j g e d,c=(↑R,o,i,j,g,e,d)/\zx (a.toList++b.toList) R.toList)\/
   ∃o i j g e d,c=(none,o,i,j,g,e,d)/\Mg a b o i j/\i+1<a.size/\j<b.size/\B<=i+j
 | .yield c=>∃o i j g e d,c=(none,o,i,j,g,e,d)/\Mg a b o i j/\i+1<a.size/\j<b.size/\B<=i+j
section
variable{st:SortSt}{b:Array Keyed}
theorem rA(ha:Srt a)(hb:Srt b)(f:Gs st st1)
  (p:∀{o:Array Keyed} {i j:Nat},Mg a b o i j->i+1=a.size->zx (a.toList++b.toList) (la o i j).toList)
  {B:Nat}(l:Mg a b o i j)(hi:i<a.size)(QM:i+1<a.size)(c:j<b.size)(d:kp a[i]<=kp b[j])(h:B<=i+j):
  wpS (model prog w) A E s (Bp a la o i j g m n) (LR a b st B) st1:=by
 unfold Bp;have h1:=l.pushA ha hb hi c d;refine wpS_bind (qS hi ?_)
 by_cases e:i+1+1=a.size
 .rw[Jc (by simpa using e)]
  exact wpS_pure #[f,.inl #[12,p h1 e]]
 rw[Jb (by simpa using e)]
 split
 .exact wpS_pure #[f,.inr #[14,h1,G2 QM e,c,Jg h (Ko (GN i) j)]]
 .exact wpS_pure #[f,14,h1,G2 QM e,c,Jg h (Ko (GN i) j)]
theorem pV(hk:kindOf st1=KO.kind)(ha:Srt a)(hb:Srt b)(I:Ints a)(z:Ints b)(h:Gs st st1)
  (y:∀{o:Array Keyed} {i j:Nat},Mg a b o i j->b.size<=j->zx (a.toList++b.toList) (dn o i j).toList)
  (x:∀{o:Array Keyed} {i j:Nat},Mg a b o i j->i+1=a.size->zx (a.toList++b.toList) (la o i j).toList)
  {B:Nat}(C:Mg a b o i j)(hi:i<a.size)(QM:i+1<a.size)(f:j<b.size)(p:kp b[j]<=kp a[i])(u:B<=i+j):
  wpS (model prog w) A E s (Bd a b dn la o i j g F G) (LR a b st B) st1:=by
 unfold Bd;have h1:=C.pushB ha hb hi f p;refine wpS_bind (qS f ?_)
 by_cases e:j+1=b.size
 .rw[Jc (by simpa using e)]
  exact wpS_pure #[h,.inl #[12,y h1 (JZ e.symm)]]
 rw[Jb (by simpa using e)]
 have c:j+1<b.size:=G2 f e
 refine wpS_bind (qS hi (wpS_bind (gH hk (I _ hi) z (hb.srtIn _ _) (JZ (KA f)) (KJ c) λk r H t=>?_)))
 dsimp only
 by_cases q:k>0
 .rw[Jc q]
  have v:=h1.extB ha hb (k:=k) hi λm D n=>KC (H m D n)
  by_cases l:j+1+k=b.size
  .rw[Jc (by simpa using l)]
   exact wpS_pure #[h,.inl #[12,y v (JZ l.symm)]]
  .rw[Jb (by simpa using l)]
   have d:j+1+k<b.size:=G2 (Jg (Cs r _) (JZ (KA f))) l
   exact rA ha hb h x v hi QM d (t k d (Jd _) (Og.2 d)) (Jg u (Cs (Od (GN j)) i))
 .rw[Jb q]
  exact rA ha hb h x h1 hi QM c (t 0 c (KG.mp q) (KJ c)) (Nat.le_succ_of_le u)
theorem BR(hk:kindOf st1=KO.kind)(ha:Srt a)(hb:Srt b)(u:Ints a)(n:Ints b)(H:Gs st st1)
  (z:∀{o:Array Keyed} {i j:Nat},Mg a b o i j->b.size<=j->zx (a.toList++b.toList) (dn o i j).toList)
  (G:∀{o:Array Keyed} {i j:Nat},Mg a b o i j->a.size<=i->zx (a.toList++b.toList) (dn o i j).toList)
  (t:∀{o:Array Keyed} {i j:Nat},Mg a b o i j->i+1=a.size->zx (a.toList++b.toList) (la o i j).toList)
  {B:Nat}(y:Mg a b o i j)(QM:i+1<a.size)(h:j<b.size)(x:B<=i+j):
  wpS (model prog w) A E s (vA a b dn la o i j g C D) (LR a b st B) st1:=by
 unfold vA;have c:i<a.size:=K4 QM
 have f:=JZ (KA (Jv c));refine wpS_bind (wpS_modify (wpS_bind (qS h (wpS_bind (gO hk (n _ h) u (ha.srtIn _ _) f (KJ c) λk r F v=>?_)))))
 have e:Gs st (Qy st1 g):=by let#[I,rfl]:=H;exact#[g,Z]
 dsimp only
 by_cases q:k>0
 .rw[Jc q]
  have p:=y.extA ha hb (k:=k) h F
  by_cases l:i+k+1=a.size
  .rw[Jc (by simpa using l)]
   exact wpS_pure #[e,.inl #[12,t p l]]
  rw[Jb (by simpa using l)]
  by_cases m:i+k=a.size
  .rw[Jc (by simpa using m)]
   exact wpS_pure #[e,.inl #[12,G p (JZ m.symm)]]
  .rw[Jb (by simpa using m)]
   have d:i+k<a.size:=G2 (Jg (Cs r i) f) m
   exact pV (st1:=Qy st1 g) hk ha hb u n e z t p d (G2 d l) h (KC (v k d (Jd _) (Og.2 d))) (Jg x (Ko (JG i k) j))
 .rw[Jb q]
  exact pV (st1:=Qy st1 g) hk ha hb u n e z t y c QM h (KC (v 0 c (KG.mp q) (KJ c))) x
end
theorem yK{st:SortSt}{b:Array Keyed}{Q:Array Keyed->SortSt->Prop}(hk:kindOf st=KO.kind)(ha:Srt a)(hb:Srt b)(Y:Ints a)(S:Ints b)
  (T:0<a.size)(nb:0<b.size)(h0:kp b[0]<=kp a[0])(hl:∀m (hm:m<b.size),kp b[m]<=kp a[a.size-1])
  (h:∀R d,Gs st d->zx (a.toList++b.toList) R.toList->Q R d):wpS (model prog w) A E s (xw a b) Q st:=by
 rw[BQ];refine wpS_bind (wpS_lift (J4 #[Z,?_]))
 extract_lets tot dn la z0 z1
 refine wpS_bind (qS nb ?_)
 have L:=Mg.start ha hb T nb h0;have G:∀{o:Array Keyed} {i j:Nat},Mg a b o i j->b.size<=j->zx (a.toList++b.toList) (dn o i j).toList:=λh1 n=>h1.doneB n
 have hA:∀{o:Array Keyed} {i j:Nat},Mg a b o i j->a.size<=i->zx (a.toList++b.toList) (dn o i j).toList:=λh1 n=>h1.doneA n
 have O:∀{o:Array Keyed} {i j:Nat},Mg a b o i j->i+1=a.size->zx (a.toList++b.toList) (la o i j).toList:=λh1 n=>h1.last n hl
 clear_value dn la
 extract_lets o0
 subst z0 z1 o0 tot
 by_cases C:(1:Nat)=b.size
 .rw[Jc (by simpa using C)]
  exact wpS_pure (h _ st #[gallopOf st,Z] (G L (JZ C.symm)))
 rw[Jb (by simpa using C)]
 by_cases F:(0:Nat)+1=a.size
 .rw[Jc (by simpa using F)]
  exact wpS_pure (h _ st #[gallopOf st,Z] (O L F))
 rw[Jb (by simpa using F)]
 refine wpS_bind (wpS_get ?_)
 dsimp only
 refine wpS_bind (wpS_mono (wpS_forRange
  (I:=λx c d=>Gs st d/\∃o i j g,c=(none,o,i,j,g)/\Mg a b o i j/\i+1<a.size/\j<b.size/\x+1<=i+j)
  (Q:=λc d=>Gs st d/\∃R o i j g,c=(↑R,o,i,j,g)/\zx (a.toList++b.toList) R.toList)
  ?gs ?gf #[#[gallopOf st,Z],_,_,_,_,Z,L,G2 T F,G2 nb C,Jd _]) ?gp)
 case gf=>
  rintro c d ⟨_,o,i,j,g,rfl,_,n,p,q⟩
  lia
 case gp=>
  rintro c d ⟨N,R,o,i,j,g,rfl,v⟩
  exact wpS_pure (h _ _ N v)
 case gs=>
  rintro x c st1 _ hx ⟨⟨D,rfl⟩,o1,i1,U,g,rfl,J,QM,P,H⟩
  dsimp only
  refine wpS_bind (wpS_mono (wpS_forRange
   (I:=λx c d=>d=Qy st D/\∃o i j f l,c=(none,o,i,j,f,l)/\Mg a b o i j/\i+1<a.size/\j<b.size/\i1+U+x<=i+j)
   (Q:=λc d=>d=Qy st D/\((∃R o i j f l,c=(↑R,o,i,j,f,l)/\zx (a.toList++b.toList) R.toList)\/
    ∃o i j f l,c=(none,o,i,j,f,l)/\Mg a b o i j/\i+1<a.size/\j<b.size/\i1+U+1<=i+j))
   ?hs ?hf #[21,J,QM,P,Jd _]) ?hp)
  case hf=>
   rintro c d ⟨rfl,o,i,j,f,l,rfl,h1,n,p,q⟩
   exact#[Z,.inr #[o,i,j,f,l,Z,h1,n,p,by lia]]
  case hs=>
   rintro y c d _ hy ⟨rfl,o,i,j,f,l,rfl,h1,n,p,q⟩
   have hi:i<a.size:=K4 n
   dsimp only
   refine wpS_bind (qS p (wpS_bind (qS hi (wpS_bind (fq hk (S _ p) (Y _ hi) ?_)))))
   dsimp only
   by_cases u:kp b[j]<kp a[i]
   .rw[Jc (by simpa using u)]
    have t:=h1.pushB ha hb hi p (KC u);refine wpS_bind (qS p ?_)
    by_cases e:j+1=b.size
    .rw[Jc (by simpa using e)]
     exact wpS_pure #[Z,.inl #[14,G t (JZ e.symm)]]
    .rw[Jb (by simpa using e)]
     by_cases z:l+1 ≥ g
     .rw[Jc z]
      exact wpS_pure #[Z,.inr #[31,t,n,G2 p e,GP (Jg (JG _ _) q)]]
     .rw[Jb z]
      exact wpS_pure #[21,t,n,G2 p e,GP q]
   .rw[Jb (by simpa using u)]
    have t:=h1.pushA ha hb hi p (KY.mp u);refine wpS_bind (qS hi ?_)
    by_cases e:i+1+1=a.size
    .rw[Jc (by simpa using e)]
     exact wpS_pure #[Z,.inl #[14,O t e]]
    .rw[Jb (by simpa using e)]
     by_cases z:f+1 ≥ g
     .rw[Jc z]
      exact wpS_pure #[Z,.inr #[31,t,G2 n e,p,q5 (Jg (JG _ _) q)]]
     .rw[Jb z]
      exact wpS_pure #[21,t,G2 n e,p,q5 q]
  case hp=>
   rintro c d ⟨rfl,(⟨R,o,i,j,f,l,rfl,v⟩|⟨o,i,j,f,l,rfl,h1,n,p,q⟩)⟩
   .exact wpS_pure #[#[D,Z],R,o,i,j,g,Z,v]
   dsimp only
   refine wpS_bind (wpS_lift (J4 #[Z,?_]))
   refine wpS_bind (wpS_mono (wpS_forRange
    (I:=λy c d=>Gs st d/\∃o i j g f l,c=(none,o,i,j,g,f,l)/\Mg a b o i j/\i+1<a.size/\j<b.size/\x+1+1<=i+j)
    (Q:=λc d=>Gs st d/\((∃R o i j g f l,c=(↑R,o,i,j,g,f,l)/\zx (a.toList++b.toList) R.toList)\/
     ∃o i j g f l,c=(none,o,i,j,g,f,l)/\Mg a b o i j/\i+1<a.size/\j<b.size/\x+1+1<=i+j))
    ?ks ?kf #[#[D,Z],14,h1,n,p,Jg (GP H) q]) ?kp)
   case kf=>
    rintro c d ⟨N,o,i,j,g,f,l,rfl,h1,n,p,q⟩
    exact#[N,.inr #[o,i,j,g,f,l,Z,h1,n,p,q]]
   case kp=>
    rintro c d ⟨⟨B,rfl⟩,(⟨R,o,i,j,g,f,l,rfl,v⟩|⟨o,i,j,g,f,l,rfl,h1,n,p,q⟩)⟩
    .exact wpS_pure #[#[B,Z],R,o,i,j,g,Z,v]
    .exact wpS_bind (wpS_modify (wpS_pure #[#[0],o,i,j,0,h1,n,p,q]))
   case ks=>
    clear h1 n p q
    rintro y c d _ hy ⟨⟨B,rfl⟩,o,i,j,g,f,l,rfl,h1,n,p,q⟩
    have hi:i<a.size:=K4 n
    show wpS _ _ _ _ (if g>1 then vA a b dn la o i j (g-1) f l else vA a b dn la o i j g f l) _ _
    have X:∀W,wpS (model prog w) A E s (vA a b dn la o i j W f l) (LR a b st (x+1+1)) (Qy st B):=λW=>
     BR (st1:=Qy st B) hk ha hb Y S #[B,Z] G hA O h1 n p q
    split
    .refine wpS_mono (X _) λr d M=>?_
     cases r<;>exact M
    .refine wpS_mono (X _) λr d M=>?_
     cases r<;>exact M
end
end S1
set_option linter.unusedSectionVars false
namespace S1
open PySem PyProof.Rows KO
variable[KO]
structure MH(T U A B:Ρ):Prop where
 u:Pw U
 a:Pw A
 b:Pw B
 au:Le2 A U
 bu:Le2 B U
 perm:(A++B++U).Perm T
theorem Le2.appR{V:Ρ}(h1:Le2 W U)(h2:Le2 W V):Le2 W (U++V):=by
 intro x c y a;rcases JD.mp a with a|a
 .exact h1 x c y a
 .exact h2 x c y a
theorem MH.takeA{f e:Ρ}(h:MH T U (f++e) B)(hl:Le2 B e):MH T (e++U) f B:=by
 have d:=pw_append.mp h.a;exists pw_append.mpr #[d.2.1,h.u,λx a y c=>h.au x (JL _ a) y c],d.1,h.b,?_,hl.appR h.bu
 .exact d.2.2.appR λx a y c=>h.au x (GB _ a) y c
 .refine List.Perm.trans ?_ h.perm
  simp only[Gw];refine List.Perm.append_left f ?_
  rw[<- Gw,<- Gw];exact List.Perm.append_right U K5
theorem MH.takeB{f e:Ρ}(h:MH T U A (f++e))(hl:Le2 A e):MH T (e++U) A f:=by
 have c:=pw_append.mp h.b;exists pw_append.mpr #[c.2.1,h.u,λx a y d=>h.bu x (JL _ a) y d],h.a,c.1,hl.appR h.au,?_
 .exact c.2.2.appR λx a y d=>h.bu x (GB _ a) y d
 .have:=h.perm
  simpa only[Gw]using this
theorem MH.doneA(h:MH T U [] B):zx T (B++U):=#[pw_append.mpr #[h.b,h.u,h.bu],h.perm]
theorem MH.doneB(h:MH T U A []):zx T (A++U):=#[pw_append.mpr #[h.a,h.u,h.au],by simpa using h.perm]
theorem MH.first(h:MH T U A B)(hl:Le2 B A):zx T (B++A++U):=
 #[pw_append.mpr #[pw_append.mpr #[h.b,h.a,hl],h.u,h.bu.app h.au],List.Perm.trans (List.Perm.append_right U K5) h.perm]
theorem ZZ(a:Array Keyed)(n:Nat):(a.extract 0 n).toList=a.toList.take n:=by simp
theorem fY(a:Array Keyed)(i n:Nat):(a.extract i n).toList=(a.toList.drop i).take (n-i):=by simp
theorem Qq(a:Array Keyed){n:Nat}(c:0<n)(h:n-1<a.size):a.toList.take n=a.toList.take (n-1)++[a[n-1]]:=by
 let#[m,rfl]:∃m,n=m+1:=#[n-1,(K2 c).symm]
 have d:m<a.toList.length:=by simpa using h
 rw[List.take_succ_eq_append_getElem d];simp
theorem iU(a:Array Keyed){i n:Nat}(h:i<=n):a.toList.take n=a.toList.take i++(a.toList.drop i).take (n-i):=by
 have e:=(KA h).symm
 conv=>lhs;rw[e]
 rw[RZ]
theorem Zx{a:Array Keyed}{x:Keyed}(h:x∈a.toList.take n):∃m,∃c:m<a.size,m<n/\a[m]=x:=by
 let#[m,c,rfl]:=KN.mp h;simp at c
 exact#[m,Jn c (Ip _ _),Jn c (K3 _ _),by simp]
theorem jz{a:Array Keyed}{n:Nat}{x:Keyed}(h:x∈(a.toList.drop i).take (n-i)):∃m,∃c:m<a.size,i<=m/\m<n/\a[m]=x:=by
 let#[m,c,rfl]:=KN.mp h;simp at c
 exact#[i+m,Ke (Jn c (Ip _ _)),JG _ _,Ke (Jn c (K3 _ _)),by simp]
def Mh(a b o:Array Keyed)(n m:Nat):Prop:=MH (a.toList++b.toList) o.toList.reverse (a.toList.take n) (b.toList.take m)
section
variable{b:Array Keyed}{n m:Nat}
theorem Mh.pushA(h:Mh a b o n m)(ha:Srt a)(hb:Srt b)(d:0<n)(f:0<m)(hn:n-1<a.size)(hm:m-1<b.size)(hl:kp b[m-1]<=kp a[n-1]):
  Mh a b (o.push a[n-1]) (n-1) m:=by
 unfold Mh at h⊢;rw[Qq a d hn]at h;rw[L1,NY];refine h.takeA λx c y e=>?_
 rw[Jm.mp e];let#[k,hk,h1,rfl]:=Zx c;exact Iv (hb _ _ hk hm (KH h1)) hl
theorem Mh.pushB(h:Mh a b o n m)(ha:Srt a)(hb:Srt b)(f:0<n)(d:0<m)(hn:n-1<a.size)(hm:m-1<b.size)(hl:kp a[n-1]<=kp b[m-1]):
  Mh a b (o.push b[m-1]) n (m-1):=by
 unfold Mh at h⊢;rw[Qq b d hm]at h;rw[L1,NY];refine h.takeB λx c y e=>?_
 rw[Jm.mp e];let#[k,hk,h1,rfl]:=Zx c;exact Iv (ha _ _ hk hn (KH h1)) hl
theorem Mh.extA(h:Mh a b o n m)(ha:Srt a)(hb:Srt b){i:Nat}(hi:i<=n)(l:0<m)(hm:m-1<b.size)(hl:∀k (hk:k<a.size),i<=k->k<n->kp b[m-1]<=kp a[k]):
  Mh a b (o++(a.extract i n).reverse) i m:=by
 unfold Mh at h⊢;rw[iU a hi]at h;rw[KF,M7,fY,NY,OY];refine h.takeA λx d y f=>?_
 let#[k,hk,h1,rfl]:=Zx d;let#[e,c,g,j,rfl]:=jz f;exact Iv (hb _ _ hk hm (KH h1)) (hl e c g j)
theorem Mh.extB(h:Mh a b o n m)(ha:Srt a)(hb:Srt b){i:Nat}(hi:i<=m)(l:0<n)(hn:n-1<a.size)(hl:∀k (hk:k<b.size),i<=k->k<m->kp a[n-1]<=kp b[k]):
  Mh a b (o++(b.extract i m).reverse) n i:=by
 unfold Mh at h⊢;rw[iU b hi]at h;rw[KF,M7,fY,NY,OY];refine h.takeB λx d y f=>?_
 let#[k,hk,h1,rfl]:=Zx d;let#[e,c,g,j,rfl]:=jz f;exact Iv (ha _ _ hk hn (KH h1)) (hl e c g j)
theorem Mh.doneA(h:Mh a b o n m)(e:n=0):zx (a.toList++b.toList) (a.extract 0 n++b.extract 0 m++o.reverse).toList:=by
 subst e;unfold Mh at h;rw[KF,KF,ZZ,ZZ,M7];exact h.doneA
theorem Mh.doneB(h:Mh a b o n m)(e:m=0):zx (a.toList++b.toList) (a.extract 0 n++b.extract 0 m++o.reverse).toList:=by
 subst e;unfold Mh at h;rw[KF,KF,ZZ,ZZ,M7];rw[RB,GC];exact h.doneB
theorem Mh.first(h:Mh a b o n m)(e:m=1)(nb:0<b.size)(hl:∀k (hk:k<a.size),kp b[0]<=kp a[k]):
  zx (a.toList++b.toList) (b.extract 0 m++a.extract 0 n++o.reverse).toList:=by
 subst e;unfold Mh at h;rw[KF,KF,ZZ,ZZ,M7];refine h.first λx d y g=>?_
 let#[k,hk,h1,rfl]:=Zx d;let#[f,c,i,rfl]:=Zx g;have e:k=0:=by lia
 subst e;exact hl f c
theorem Mh.start(ha:Srt a)(hb:Srt b)(d:0<a.size)(nb:0<b.size)(hl:kp b[b.size-1]<=kp a[a.size-1]):Mh a b (B1 [a[a.size-1]]) (a.size-1) b.size:=by
 have h:Mh a b (B1 []) a.size b.size:=by
  unfold Mh;rw[Iy (by simp),Iy (by simp)]
  exact#[.nil,ha.pw,hb.pw,λx _ y c=>(nomatch c),λx _ y c=>(nomatch c),by simp]
 exact h.pushA ha hb d nb (pl d) (pl nb) hl
end
theorem B4(a b:Array Keyed):xt a b=(do
 rule "list.sort.merge-hi"
 let c:=a.size+b.size
 let dn (o:Array Keyed) (n m:Nat):=a.extract 0 n++b.extract 0 m++o.reverse
 let fb (o:Array Keyed) (n m:Nat):=b.extract 0 m++a.extract 0 n++o.reverse
 let mut n:=a.size-1
 let mut m:=b.size
 let mut o:Array Keyed:= (B1 [<- elem' a n])
 if n==0 then return dn o n m
 if m==1 then return fb o n m
 let mut g:=gallopOf (<- get)
 for _ in [0:c] do
  let mut ca:=0
  let mut cb:=0
  for _ in [0:c] do
   let ↑aw <- lt' (<- elem' b (m-1)) (<- elem' a (n-1))|return dn o n m
   if aw then
    n:=n-1;o:=o.push (<- elem' a n);ca:=ca+1;cb:=0
    if n==0 then return dn o n m
    if ca ≥ g then break
   else
    m:=m-1;o:=o.push (<- elem' b m);cb:=cb+1;ca:=0
    if m==1 then return fb o n m
    if cb ≥ g then break
  rule "list.sort.gallop"
  g:=g+1
  for _ in [0:c] do
   if g>1 then g:=g-1
   modify (Qy · g)
   let ↑at_ <- bv false (<- elem' b (m-1)) a 0 n (n-1)|return dn o n m
   let k:=n-at_
   ca:=k
   if k>0 then
    o:=o++(a.extract at_ n).reverse;n:=at_
    if n==0 then return dn o n m
   m:=m-1;o:=o.push (<- elem' b m)
   if m==1 then return fb o n m
   let ↑at_ <- bv true (<- elem' a (n-1)) b 0 m (m-1)|return dn o n m
   let k:=m-at_
   cb:=k
   if k>0 then
    o:=o++(b.extract at_ m).reverse;m:=at_
    if m==1 then return fb o n m
    if m==0 then return dn o n m
   n:=n-1;o:=o.push (<- elem' a n)
   if n==0 then return dn o n m
   if ca<7&&cb<7 then break
  g:=g+1
  modify (Qy · g)
 unsupported "internal:list.sort.merge-bound"):=Z
noncomputable abbrev tE:=Option (Array Keyed)×Nat×Nat×Array Keyed×Nat×Nat×Nat
section
variable(a b:Array Keyed)(dn fb:Array Keyed->Nat->Nat->Array Keyed)
noncomputable def AR(o:Array Keyed)(n m g d c:Nat):StateT SortSt Sem (ForInStep tE):=do
 let x <- elem' a (n-1)
 if n-1==0 then pure (.done (↑(dn (o.push x) (n-1) m),n-1,m,o.push x,g,d,c))
 else if decide (d<7)&&decide (c<7)then pure (.done (none,n-1,m,o.push x,g,d,c))
 else pure (.yield (none,n-1,m,o.push x,g,d,c))
noncomputable def eK(o:Array Keyed)(n m g c d:Nat):StateT SortSt Sem (ForInStep tE):=do
 let x <- elem' b (m-1)
 if m-1==1 then pure (.done (↑(fb (o.push x) n (m-1)),n,m-1,o.push x,g,c,d))
 else do
  let y <- elem' a (n-1)
  let z <- bv true y b 0 (m-1) (m-1-1)
  match z with
  |some k=>
   if m-1-k>0 then
    if k==1 then
     pure (.done (↑(fb (o.push x++(b.extract k (m-1)).reverse) n k),n,k,o.push x++(b.extract k (m-1)).reverse,g,c,m-1-k))
    else if k==0 then
     pure (.done (↑(dn (o.push x++(b.extract k (m-1)).reverse) n k),n,k,o.push x++(b.extract k (m-1)).reverse,g,c,m-1-k))
    else AR a dn (o.push x++(b.extract k (m-1)).reverse) n k g c (m-1-k)
   else AR a dn (o.push x) n (m-1) g c (m-1-k)
  |_=>pure (.done (↑(dn (o.push x) n (m-1)),n,m-1,o.push x,g,c,d))
noncomputable def QM(o:Array Keyed)(n m g d c:Nat):StateT SortSt Sem (ForInStep tE):=do
 modify (Qy · g)
 let x <- elem' b (m-1)
 let z <- bv false x a 0 n (n-1)
 match z with
 |some k=>
  if n-k>0 then
   if k==0 then
    pure (.done (↑(dn (o++(a.extract k n).reverse) k m),k,m,o++(a.extract k n).reverse,g,n-k,c))
   else eK a b dn fb (o++(a.extract k n).reverse) k m g (n-k) c
  else eK a b dn fb o n m g (n-k) c
 |_=>pure (.done (↑(dn o n m),n,m,o,g,d,c))
end
def HR(a b:Array Keyed)(st:SortSt)(B:Nat)(r:ForInStep tE)(f:SortSt):Prop:=Gs st f/\match r with
 | .done c=>(∃R o n m g e d,c=(↑R,n,m,o,g,e,d)/\zx (a.toList++b.toList) R.toList)\/
   ∃o n m g e d,c=(none,n,m,o,g,e,d)/\Mh a b o n m/\0<n/\1<m/\n<=a.size/\m<=b.size/\n+m<=B
 | .yield c=>∃o n m g e d,c=(none,n,m,o,g,e,d)/\Mh a b o n m/\0<n/\1<m/\n<=a.size/\m<=b.size/\n+m<=B
section
variable{prog:Ξ}{w:Ω}{A:Around}{s:Θ}[KL prog w A s]
variable{st:SortSt}{b:Array Keyed}
theorem sn(ha:Srt a)(hb:Srt b)(f:Gs st st1)
  (p:∀{o:Array Keyed} {n m:Nat},Mh a b o n m->n=0->zx (a.toList++b.toList) (dn o n m).toList)
  {B:Nat}(i:Mh a b o n m)(l:0<n)(c:1<m)(r:n<=a.size)(nb:m<=b.size)(hn:n-1<a.size)(hm:m-1<b.size)
  (d:kp b[m-1]<=kp a[n-1])(h:n+m<=B):
  wpS (model prog w) A E s (AR a dn o n m g j q) (HR a b st B) st1:=by
 unfold AR;have h1:=i.pushA ha hb l (KZ c) hn hm d;refine wpS_bind (qS hn ?_)
 by_cases e:n-1=0
 .rw[Jc (by simpa using e)]
  exact wpS_pure #[f,.inl #[12,p h1 e]]
 rw[Jb (by simpa using e)]
 split
 .exact wpS_pure #[f,.inr #[14,h1,KU e,c,Jv hn,nb,Jg (Ko (KM n 1) m) h]]
 .exact wpS_pure #[f,14,h1,KU e,c,Jv hn,nb,Jg (Ko (KM n 1) m) h]
theorem pC(hk:kindOf st1=KO.kind)(ha:Srt a)(hb:Srt b)(O:Ints a)(H:Ints b)(l:Gs st st1)
  (F:∀{o:Array Keyed} {n m:Nat},Mh a b o n m->n=0->zx (a.toList++b.toList) (dn o n m).toList)
  (N:∀{o:Array Keyed} {n m:Nat},Mh a b o n m->m=0->zx (a.toList++b.toList) (dn o n m).toList)
  (G:∀{o:Array Keyed} {n m:Nat},Mh a b o n m->m=1->zx (a.toList++b.toList) (fb o n m).toList)
  {B:Nat}(I:Mh a b o n m)(p:0<n)(r:1<m)(D:n<=a.size)(nb:m<=b.size)(hn:n-1<a.size)(hm:m-1<b.size)
  (v:kp a[n-1]<=kp b[m-1])(C:n+m<=B):
  wpS (model prog w) A E s (eK a b dn fb o n m g J L) (HR a b st B) st1:=by
 unfold eK;have h1:=I.pushB ha hb p (KZ r) hn hm v;refine wpS_bind (qS hm ?_)
 by_cases e:m-1=1
 .rw[Jc (by simpa using e)]
  exact wpS_pure #[l,.inl #[12,G h1 e]]
 rw[Jb (by simpa using e)]
 refine wpS_bind (qS hn (wpS_bind (gH hk (O _ hn) H (hb.srtIn _ _) (za (Jv hm)) (pl (KJ r)) λk f x z=>?_)))
 simp only[K0]at x z
 dsimp only
 by_cases y:m-1-k>0
 .rw[Jc y]
  have h:=h1.extB ha hb (i:=k) f p hn λc M h1 h=>z c M h1 h
  by_cases q:k=1
  .rw[Jc (by simpa using q)]
   exact wpS_pure #[l,.inl #[12,G h q]]
  rw[Jb (by simpa using q)]
  by_cases u:k=0
  .rw[Jc (by simpa using u)]
   exact wpS_pure #[l,.inl #[12,N h u]]
  .rw[Jb (by simpa using u)]
   have d:=Jg f (Jv hm);have t:=KU u;exact sn ha hb l F h p (G2 t (Ne.symm q)) D d hn (Zc t d) (KC (x (k-1) (Zc t d) (pl t))) (Jg (Cs (Jg f (KM m 1)) n) C)
 .rw[Jb y]
  have j:=KB (KM _ 1) hm;exact sn ha hb l F h1 p (pg r e) D (Jv hm) hn j (KC (x (m-1-1) j (Jn (pl (KJ r)) (np y)))) (Jg (Cs (KM m 1) n) C)
theorem CN(hk:kindOf st1=KO.kind)(ha:Srt a)(hb:Srt b)(z:Ints a)(t:Ints b)(M:Gs st st1)
  (y:∀{o:Array Keyed} {n m:Nat},Mh a b o n m->n=0->zx (a.toList++b.toList) (dn o n m).toList)
  (I:∀{o:Array Keyed} {n m:Nat},Mh a b o n m->m=0->zx (a.toList++b.toList) (dn o n m).toList)
  (H:∀{o:Array Keyed} {n m:Nat},Mh a b o n m->m=1->zx (a.toList++b.toList) (fb o n m).toList)
  {B:Nat}(G:Mh a b o n m)(h:0<n)(x:1<m)(l:n<=a.size)(nb:m<=b.size)(F:n+m<=B):
  wpS (model prog w) A E s (QM a b dn fb o n m g J L) (HR a b st B) st1:=by
 unfold QM;have D:=KZ x;have j:=Zc D nb;refine wpS_bind (wpS_modify (wpS_bind (qS j (wpS_bind (gO hk (t _ j) z (ha.srtIn _ _) (za l) (pl h) λk d u C=>?_)))))
 simp only[K0]at u C;have e:Gs st (Qy st1 g):=by let#[O,rfl]:=M;exact#[g,Z]
 dsimp only
 by_cases v:n-k>0
 .rw[Jc v]
  have q:=G.extA ha hb (i:=k) d D j λc N h1 q=>KC (C c N h1 q)
  by_cases p:k=0
  .rw[Jc (by simpa using p)]
   exact wpS_pure #[e,.inl #[12,y q p]]
  .rw[Jb (by simpa using p)]
   have f:=Jg d l;have r:=KU p;exact pC (st1:=Qy st1 g) hk ha hb z t e y I H q r x f nb (Zc r f) j (u (k-1) (Zc r f) (pl r)) (Jg (Ko d m) F)
 .rw[Jb v]
  exact pC (st1:=Qy st1 g) hk ha hb z t e y I H G h x l nb (Zc h l) j (u (n-1) (Zc h l) (Jn (pl h) (np v))) F
theorem ye{Q:Array Keyed->SortSt->Prop}(hk:kindOf st=KO.kind)(ha:Srt a)(hb:Srt b)(ia:Ints a)(ib:Ints b)
  (X:0<a.size)(nb:0<b.size)(h0:∀k (hk:k<a.size),kp b[0]<=kp a[k])(hl:kp b[b.size-1]<=kp a[a.size-1])
  (h:∀R d,Gs st d->zx (a.toList++b.toList) R.toList->Q R d):wpS (model prog w) A E s (xt a b) Q st:=by
 rw[B4];refine wpS_bind (wpS_lift (J4 #[Z,?_]))
 extract_lets tot dn fb z0 z1
 have hz:=pl X;refine wpS_bind (qS (i:=z0) hz ?_)
 have W:=Mh.start ha hb X nb hl;have hA:∀{o:Array Keyed} {n m:Nat},Mh a b o n m->n=0->zx (a.toList++b.toList) (dn o n m).toList:=λh1 e=>h1.doneA e
 have hD:∀{o:Array Keyed} {n m:Nat},Mh a b o n m->m=0->zx (a.toList++b.toList) (dn o n m).toList:=λh1 e=>h1.doneB e
 have hL:∀{o:Array Keyed} {n m:Nat},Mh a b o n m->m=1->zx (a.toList++b.toList) (fb o n m).toList:=λh1 e=>h1.first e nb h0
 clear_value dn fb
 extract_lets o0
 subst z0 z1 o0 tot
 by_cases M:a.size-1=0
 .rw[Jc (by simpa using M)]
  refine wpS_pure (h _ st #[gallopOf st,Z] ?_)
  exact hA W M
 rw[Jb (by simpa using M)]
 by_cases O:b.size=1
 .rw[Jc (by simpa using O)]
  refine wpS_pure (h _ st #[gallopOf st,Z] ?_)
  exact hL W O
 rw[Jb (by simpa using O)]
 refine wpS_bind (wpS_get ?_)
 dsimp only
 refine wpS_bind (wpS_mono (wpS_forRange
  (I:=λx c d=>Gs st d/\∃o n m g,c=(none,n,m,o,g)/\Mh a b o n m/\0<n/\1<m/\n<=a.size/\m<=b.size/\n+m+x+1<=a.size+b.size)
  (Q:=λc d=>Gs st d/\∃(R:Array Keyed) (o:Array Keyed) (n m g:Nat),c=(↑R,n,m,o,g)/\zx (a.toList++b.toList) R.toList)
  ?gs ?gf ?gi) ?gp)
 case gi=>exact#[#[gallopOf st,Z],(B1 [a[a.size-1]]),a.size-1,b.size,0,W,KU M,G2 nb (Ne.symm O),KM _ _,Jd _,q1 (y:=0) X (Jd _)]
 case gf=>
  rintro c d ⟨_,o,i,j,g,rfl,_,p,t,u⟩
  lia
 case gp=>
  rintro c d ⟨hG,R,o,i,j,g,rfl,H⟩
  exact wpS_pure (h _ _ hG H)
 case gs=>
  rintro x c st1 _ hx ⟨⟨N,rfl⟩,o1,n1,m1,g,rfl,T,a0,P,a2,U,a3⟩
  dsimp only
  refine wpS_bind (wpS_mono (wpS_forRange
   (I:=λx c d=>d=Qy st N/\∃o n m f l,c=(none,n,m,o,f,l)/\Mh a b o n m/\0<n/\1<m/\n<=a.size/\m<=b.size/\n+m+x<=n1+m1)
   (Q:=λc d=>d=Qy st N/\((∃R o n m f l,c=(↑R,n,m,o,f,l)/\zx (a.toList++b.toList) R.toList)\/
    ∃o n m f l,c=(none,n,m,o,f,l)/\Mh a b o n m/\0<n/\1<m/\n<=a.size/\m<=b.size/\n+m+1<=n1+m1))
   ?hs ?hf #[21,T,a0,P,a2,U,Jd _]) ?hp)
  case hf=>
   rintro c d ⟨rfl,o,i,j,f,l,rfl,h1,p,t,u,v,z⟩
   exact#[Z,.inr #[o,i,j,f,l,Z,h1,p,t,u,v,by lia]]
  case hs=>
   rintro y c d _ hy ⟨rfl,o,n,m,f,l,rfl,h1,p,t,u,v,z⟩
   have G:=KZ t;have F:=Zc p u;have D:=Zc G v
   dsimp only
   refine wpS_bind (qS D (wpS_bind (qS F (wpS_bind (fq hk (ib _ D) (ia _ F) ?_)))))
   dsimp only
   by_cases C:kp b[m-1]<kp a[n-1]
   .rw[Jc (by simpa using C)]
    have q:=h1.pushA ha hb p G F D (KC C);refine wpS_bind (qS F ?_)
    by_cases e:n-1=0
    .rw[Jc (by simpa using e)]
     exact wpS_pure #[Z,.inl #[14,hA q e]]
    .rw[Jb (by simpa using e)]
     by_cases J:f+1 ≥ g
     .rw[Jc J]
      exact wpS_pure #[Z,.inr #[31,q,KU e,t,Jv F,v,q1 p z]]
     .rw[Jb J]
      exact wpS_pure #[21,q,KU e,t,Jv F,v,q2 p z]
   .rw[Jb (by simpa using C)]
    have q:=h1.pushB ha hb p G F D (KY.mp C);refine wpS_bind (qS D ?_)
    by_cases e:m-1=1
    .rw[Jc (by simpa using e)]
     exact wpS_pure #[Z,.inl #[14,hL q e]]
    .rw[Jb (by simpa using e)]
     by_cases J:l+1 ≥ g
     .rw[Jc J]
      exact wpS_pure #[Z,.inr #[31,q,p,pg t e,u,Jv D,q3 G z]]
     .rw[Jb J]
      exact wpS_pure #[21,q,p,pg t e,u,Jv D,q4 G z]
  case hp=>
   rintro c d ⟨rfl,(⟨R,o,i,j,f,l,rfl,H⟩|⟨o,n,m,f,l,rfl,h1,p,t,u,v,z⟩)⟩
   .exact wpS_pure #[#[N,Z],R,o,i,j,g,Z,H]
   dsimp only
   refine wpS_bind (wpS_lift (J4 #[Z,?_]))
   let#[B,S,a1]:∃B,n+m<=B/\B+x+2<=a.size+b.size:=#[_,Jd _,by lia]
   refine wpS_bind (wpS_mono (wpS_forRange
    (I:=λy c d=>Gs st d/\∃o n m g f l,c=(none,n,m,o,g,f,l)/\Mh a b o n m/\0<n/\1<m/\n<=a.size/\m<=b.size/\n+m<=B)
    (Q:=λc d=>Gs st d/\((∃R o n m g f l,c=(↑R,n,m,o,g,f,l)/\zx (a.toList++b.toList) R.toList)\/
     ∃o n m g f l,c=(none,n,m,o,g,f,l)/\Mh a b o n m/\0<n/\1<m/\n<=a.size/\m<=b.size/\n+m<=B))
    ?ks ?kf #[#[N,Z],14,h1,p,t,u,v,S]) ?kp)
   case kf=>
    rintro c d ⟨hG,o,i,j,g,f,l,rfl,h1⟩
    exact#[hG,.inr #[o,i,j,g,f,l,Z,h1]]
   case kp=>
    rintro c d ⟨⟨L,rfl⟩,(⟨R,o,i,j,g,f,l,rfl,H⟩|⟨o,i,j,g,f,l,rfl,h1,p,t,u,v,z⟩)⟩
    .exact wpS_pure #[#[L,Z],R,o,i,j,g,Z,H]
    .exact wpS_bind (wpS_modify (wpS_pure #[#[0],o,i,j,0,h1,p,t,u,v,Jg (Ko z (x+2)) a1]))
   case ks=>
    clear h1 p t u v z
    rintro y c d _ hy ⟨⟨L,rfl⟩,o,n,m,g,f,l,rfl,h1,p,t,u,v,z⟩
    show wpS _ _ _ _ (if g>1 then QM a b dn fb o n m (g-1) f l else QM a b dn fb o n m g f l) _ _
    have hX:∀g',wpS (model prog w) A E s (QM a b dn fb o n m g' f l) (HR a b st (B)) (Qy st L):=λg'=>
     CN (st1:=Qy st L) hk ha hb ia ib #[L,Z] hA hD hL h1 p t u v z
    split
    .refine wpS_mono (hX _) λr d Y=>?_
     cases r<;>exact Y
    .refine wpS_mono (hX _) λr d Y=>?_
     cases r<;>exact Y
end
end S1
set_option linter.unusedSectionVars false
namespace S1
open PySem PyProof.Rows KO
variable[KO]
def SI(xs:Array Keyed)(b n:Nat):Prop:=∀i j,b<=i->i<=j->j<b+n->K xs i<=K xs j
def NI(xs:Array Keyed)(b n:Nat):Prop:=∀i j,b<=i->i<=j->j<b+n->K xs j<=K xs i
def Bef(st a:SortSt)(lo:Nat):Prop:=pendingOf a=pendingOf st/\∀i,i<lo->K (arrOf a) i=K (arrOf st) i
theorem Bef.refl(st:SortSt)(lo:Nat):Bef st st lo:=#[Z,λ_ _=>rfl]
theorem Bef.trans{st c a:SortSt}{lo:Nat}(h:Bef st c lo)(h':Bef c a lo):Bef st a lo:=
 #[h'.1.trans h.1,λi hi=>(h'.2 i hi).trans (h.2 i hi)]
theorem SI.one(xs:Array Keyed)(b:Nat):SI xs b 1:=λi j h1 a c=>by
 have e:i=j:=by lia
 subst e;exact GX _
theorem NI.one(xs:Array Keyed)(b:Nat):NI xs b 1:=λi j h1 a c=>by
 have e:i=j:=by lia
 subst e;exact GX _
theorem SI.snoc{b:Nat}(h:SI xs b n)(h1:1<=n)(hl:K xs (b+n-1)<=K xs (b+n)):SI xs b (n+1):=by
 intro i j hi a f
 by_cases e:j<b+n
 .exact h i j hi a e
 .have d:=KQ (Kd f) (KG.mp e)
  subst d
  by_cases c:i=b+n
  .subst c;exact GX _
  .exact Iv (h i (b+n-1) hi (KH (G2 a c)) (pb h1)) hl
theorem NI.snoc{b:Nat}(h:NI xs b n)(h1:1<=n)(hl:K xs (b+n)<=K xs (b+n-1)):NI xs b (n+1):=by
 intro i j hi a f
 by_cases e:j<b+n
 .exact h i j hi a e
 .have d:=KQ (Kd f) (KG.mp e)
  subst d
  by_cases c:i=b+n
  .subst c;exact GX _
  .exact Iv hl (h i (b+n-1) hi (KH (G2 a c)) (pb h1))
theorem NI.congr{b:Nat}(h:NI xs b n)(e:∀k,K ys k=K xs k):NI ys b n:=λi j h1 a c=>by
 rw[e,e];exact h i j h1 a c
theorem NI.turned{b:Nat}(h:NI xs b n)(hs:b+n<=xs.size):SI (mirror xs b (b+n) ((b+n-b)/2)) b n:=by
 intro i j h1 a c;rw[cU hs,cU hs,Jc #[h1,KB a c],Jc #[Jg h1 a,c]];exact h _ _ (FJ #[Jg h1 a,c]) (RT a _) (FD #[h1,KB a c])
noncomputable abbrev C4:=Option μ×Nat
noncomputable abbrev E3:=Option μ×Nat×Nat
noncomputable def lI(lo a d:Nat):StateT SortSt Sem C4:=forIn [a:d] ((none,a):C4) λ_ c=>do
 match <- ltAt' (lo+c.snd) (lo+c.snd-1)with
 |some sm=>if sm=true then pure (.done (none,c.snd))else pure (.yield (none,c.snd+1))
 |_=>pure (.done (↑none,c.snd))
noncomputable def wK(lo n a:Nat):StateT SortSt Sem μ:=do
 reverseSlice' lo (lo+n)
 let c <- lI lo n a
 match c.fst with
 |some r=>pure r
 |none=>pure ↑c.snd
noncomputable def sV(lo n a:Nat):StateT SortSt Sem E3:=forIn [n:a] ((none,n,0):E3) λ_ c=>do
 match <- ltAt' (lo+c.snd.fst) (lo+c.snd.fst-1)with
 |some sm=>
  if sm=true then
   if c.snd.snd>0 then do
    reverseSlice' (lo+c.snd.fst-(c.snd.snd+1)) (lo+c.snd.fst)
    pure (.yield (none,c.snd.fst+1,0))
   else pure (.yield (none,c.snd.fst+1,0))
  else do
   match <- ltAt' (lo+c.snd.fst-1) (lo+c.snd.fst)with
   |some la=>
    if la=true then pure (.done (none,c.snd.fst,c.snd.snd))
    else pure (.yield (none,c.snd.fst+1,c.snd.snd+1))
   |_=>pure (.done (↑none,c.snd.fst,c.snd.snd))
 |_=>pure (.done (↑none,c.snd.fst,c.snd.snd))
noncomputable def uY(lo n a:Nat):StateT SortSt Sem μ:=do
 liftM (rule "list.sort.descending-run")
 let c <- sV lo (n+1) a
 match c.fst with
 |some r=>pure r
 |none=>
  if c.snd.snd>0 then do
   reverseSlice' (lo+c.snd.fst-(c.snd.snd+1)) (lo+c.snd.fst)
   wK lo c.snd.fst a
  else wK lo c.snd.fst a
theorem EF(lo a:Nat):countRun' lo a=(do
  let c <- lI lo 1 a
  match c.fst with
  |some r=>pure r
  |none=>if(c.snd==a)=true then pure ↑c.snd else if c.snd>1 then(do
   match <- ltAt' lo (lo+c.snd-1)with
   | some ro=>if ro=true then pure ↑c.snd else do
     reverseSlice' lo (lo+c.snd)
     uY lo c.snd a
   |_=>pure none)else uY lo c.snd a):=by
 rw[countRun'_eq];unfold uY wK sV lI
 dsimp only
 congr 1
 funext c
 let#[r,n]:=c;cases r with
 |some r=>rfl
 |none=>
  dsimp only
  split
  .rfl
  .split
   .congr 1
    funext x
    cases x with
    |none=>rfl
    |some ro=>
     dsimp only
     split
     .rfl
     .congr 1
      funext u
      congr 1;funext v;congr 1;congr 1;funext c;let#[r,n2,q]:=c
      cases r with
      |some r=>rfl
      |none=>
       dsimp only
       split
       .congr 1;funext v;congr 1;funext v;congr 1;funext c;let#[r,d]:=c;cases r<;>rfl
       .congr 1;funext v;congr 1;funext c;let#[r,d]:=c;cases r<;>rfl
   .congr 1;funext v;congr 1;congr 1;funext c;let#[r,n2,q]:=c
    cases r with
    |some r=>rfl
    |none=>
     dsimp only
     split
     .congr 1;funext v;congr 1;funext v;congr 1;funext c;let#[r,d]:=c;cases r<;>rfl
     .congr 1;funext v;congr 1;funext c;let#[r,d]:=c;cases r<;>rfl
section
variable{prog:Ξ}{w:Ω}{A:Around}{s:Θ}[KL prog w A s]
theorem SB.size{st:SortSt}(h:SB a₀ st):(arrOf st).size=a₀.size:=h.perm.size_eq
theorem SB.arr{st:SortSt}(h:SB a₀ st){xs:Array Keyed}(hp:xs.Perm (arrOf st)):SB a₀ (setArr st xs):=#[hp.trans h.perm,h.kind,h.failed]
theorem SB.ints{st:SortSt}(h:SB a₀ st)(a:Ints a₀):Ints (arrOf st):=by
 intro i hi;have d:(arrOf st)[i]∈a₀.toList:=(Oi.mp h.perm).mem_iff.mp (by simp)
 let#[j,c,e]:=KN.mp d;rw[<- e];simpa using a j (by simpa using c)
theorem K_at{xs:Array Keyed}{i:Nat}(h:i<xs.size):K xs i=kp xs[i]:=by
 unfold K;rw[getElem?_pos xs i h]
theorem b9{st:SortSt}{i j:Nat}{Q:Option Bool->SortSt->Prop}(d:SB a₀ st)(e:Ints a₀)(hi:i<a₀.size)(f:j<a₀.size)
  (h:Q ↑(decide (K (arrOf st) i<K (arrOf st) j)) st):wpS (model prog w) A E s (ltAt' i j) Q st:=by
 have a:i<(arrOf st).size:=by rw[d.size];exact hi
 have c:j<(arrOf st).size:=by rw[d.size];exact f
 rw[ltAt'_eq];refine wpS_bind (wpS_get (wpS_bind (qS a (wpS_bind (qS c (fq d.kind (d.ints e _ a) (d.ints e _ c) ?_))))))
 rw[K_at a,K_at c]at h;exact h
theorem mH{st:SortSt}{lo a i:Nat}{Q:C4->SortSt->Prop}(o:Ints a₀)(hn:lo+i<=a₀.size)(ha:1<=a)(l:a<=i)(p:SB a₀ st)(hs:SI (arrOf st) lo a)
  (h:∀n,a<=n->n<=i->SI (arrOf st) lo n->(n=i\/K (arrOf st) (lo+n)<K (arrOf st) (lo+n-1))->Q (none,n) st):
  wpS (model prog w) A E s (lI lo a i) Q st:=by
 unfold lI;refine wpS_forRange (I:=λx c d=>d=st/\c=(none,x)/\SI (arrOf st) lo x) ?ps ?pf #[7,hs]
 case pf=>
  rintro c d ⟨rfl,rfl,f⟩
  have e:=Ol l;rw[e]at f⊢;exact h i l (Jd _) f (.inl Z)
 case ps=>
  rintro x c d j g ⟨rfl,rfl,f⟩
  refine wpS_bind (b9 p o (al hn g) (KB (KM _ 1) (al hn g)) ?_)
  dsimp only
  by_cases m:K (arrOf d) (lo+x)<K (arrOf d) (lo+x-1)
  .rw[Jc (by simpa using m)]
   exact wpS_pure (h x j (Jv g) f (.inr m))
  .rw[Jb (by simpa using m)]
   exact wpS_pure #[7,f.snoc (Jg ha j) (KY.mp m)]
theorem fW{st:SortSt}{i j:Nat}{Q:Unit->SortSt->Prop}(h:Q () (setArr st (mirror (arrOf st) i j ((j-i)/2)))):
  wpS (model prog w) A E s (reverseSlice' i j) Q st:=by
 rw[reverseSlice'_eq];exact wpS_modify h
theorem rQ{st:SortSt}{lo n f:Nat}{Q:μ->SortSt->Prop}(p:Ints a₀)(hn:lo+f<=a₀.size)(h1:1<=n)(c:n<=f)(o:SB a₀ st)
  (hs:NI (arrOf st) lo n)(h:∀m a,SB a₀ a->1<=m->m<=f->Bef st a lo->SI (arrOf a) lo m->Q ↑m a):
  wpS (model prog w) A E s (wK lo n f) Q st:=by
 unfold wK;have e:lo+n<=(arrOf st).size:=by rw[o.size];exact Jg (Cs c lo) hn
 refine wpS_bind (fW ?_)
 have d:SB a₀ (setArr st (mirror (arrOf st) lo (lo+n) ((lo+n-lo)/2))):=o.arr (mirror_perm _ _ _ _)
 refine wpS_bind (mH p hn h1 c d (hs.turned e) λm j g l _=>wpS_pure (h m _ d (Jg h1 j) g #[Z,λi hi=>?_] l))
 show K (mirror (arrOf st) lo (lo+n) ((lo+n-lo)/2)) i=_
 rw[cU e,Jb λh=>NX hi h.1]
theorem yo{st:SortSt}{lo n C:Nat}{Q:E3->SortSt->Prop}(L:Ints a₀)(hn:lo+C<=a₀.size)(h1:1<=n)(v:n<=C)(M:SB a₀ st)
  (hs:NI (arrOf st) lo n)
  (h:∀m q a,SB a₀ a->n<=m->m<=C->Bef st a lo->NI (arrOf a) lo m->q+1<=m->
   (∀i,lo+m-(q+1)<=i->i<lo+m->K (arrOf a) i=K (arrOf a) (lo+m-1))->Q (none,m,q) a):
  wpS (model prog w) A E s (sV lo n C) Q st:=by
 unfold sV;refine wpS_forRange (I:=λx c a=>∃q,c=(none,x,q)/\SB a₀ a/\Bef st a lo/\NI (arrOf a) lo x/\q+1<=x/\
   (∀i,lo+x-(q+1)<=i->i<lo+x->K (arrOf a) i=K (arrOf a) (lo+x-1))) ?ps ?pf #[(0),Z,M,Bef.refl _ _,hs,h1,λi h1 l=>by rw[Dz h1 l]]
 case pf=>
  rintro c a ⟨q,rfl,d,p,f,r,o⟩
  have e:=Ol v;rw[e]at f r o⊢;exact h C q a d v (Jd _) p f r o
 case ps=>
  rintro x c a H B ⟨q,rfl,d,p,f,r,o⟩
  have g:=al hn B;have j:=KB (KM (lo+x) 1) g;have t:=Jg (Kh 1 q) r;have G:lo+x<=(arrOf a).size:=by rw[d.size];exact Jv g
  refine wpS_bind (b9 d L g j ?_)
  dsimp only
  by_cases F:K (arrOf a) (lo+x)<K (arrOf a) (lo+x-1)
  .rw[Jc (by simpa using F)]
   have y:=f.snoc t (KC F)
   by_cases u:q>0
   .rw[Jc u]
    have J:=Z5 G o;refine wpS_bind (fW (wpS_pure #[(0),Z,d.arr (mirror_perm _ _ _ _),p.trans #[Z,λi _=>J i],y.congr J,Kh 1 x,λi h1 l=>by rw[Dz h1 l]]))
   .rw[Jb u]
    exact wpS_pure #[(0),Z,d,p,y,Kh 1 x,λi h1 l=>by rw[Dz h1 l]]
  .rw[Jb (by simpa using F)]
   refine wpS_bind (b9 d L j g ?_)
   dsimp only
   by_cases D:K (arrOf a) (lo+x-1)<K (arrOf a) (lo+x)
   .rw[Jc (by simpa using D)]
    exact wpS_pure (h x q a d H (Jv B) p f r o)
   .rw[Jb (by simpa using D)]
    have N:=Ra (KY.mp D) (KY.mp F);refine wpS_pure #[q+1,Z,d,p,f.snoc t (KY.mp D),GP r,λi h1 l=>?_]
    rw[show lo+(x+1)-1=lo+x from Z]
    by_cases z:i=lo+x
    .subst z;rfl
    .rw[N];exact o i (Jg (JZ (RU (lo+x) 1 (q+1)).symm) h1) (G2 (Kd l) z)
theorem pE{st:SortSt}{lo n j:Nat}{Q:μ->SortSt->Prop}(u:Ints a₀)(hn:lo+j<=a₀.size)(t:n+1<=j)(G:SB a₀ st)
  (hs:NI (arrOf st) lo (n+1))(h:∀m a,SB a₀ a->1<=m->m<=j->Bef st a lo->SI (arrOf a) lo m->Q ↑m a):
  wpS (model prog w) A E s (uY lo n j) Q st:=by
 unfold uY;refine wpS_bind (wpS_lift (J4 #[Z,?_]))
 refine wpS_bind (yo u hn (Kh 1 n) t G hs λm q a c o e B g H F=>?_)
 dsimp only
 have r:lo+m<=(arrOf a).size:=by rw[c.size];exact Jg (Cs e lo) hn
 have D:=Jg (Kh 1 n) o
 by_cases f:q>0
 .rw[Jc f]
  have C:=Z5 r F;have p:Bef a (setArr a (mirror (arrOf a) (lo+m-(q+1)) (lo+m) ((lo+m-(lo+m-(q+1)))/2))) lo:=#[Z,λi _=>C i]
  exact wpS_bind (fW (rQ u hn D e (c.arr (mirror_perm _ _ _ _)) (g.congr C) λk d z l v x y=>
   h k d z l v (B.trans (p.trans x)) y))
 .rw[Jb f]
  exact rQ u hn D e c g λk d z l v x y=>h k d z l v (B.trans x) y
theorem BS{st:SortSt}{lo u:Nat}{Q:μ->SortSt->Prop}(y:Ints a₀)(hn:lo+u<=a₀.size)(h1:1<=u)(q:SB a₀ st)
  (h:∀m g,SB a₀ g->1<=m->m<=u->Bef st g lo->SI (arrOf g) lo m->Q ↑m g):
  wpS (model prog w) A E s (countRun' lo u) Q st:=by
 rw[EF];refine wpS_bind (mH y hn (Jd 1) h1 q (SI.one _ _) λn c a l G=>?_)
 dsimp only
 by_cases d:n=u
 .rw[Jc (by simpa using d)]
  exact wpS_pure (h n st q c a (Bef.refl _ _) l)
 .rw[Jb (by simpa using d)]
  have v:=G.resolve_left d
  by_cases o:n>1
  .rw[Jc o]
   refine wpS_bind (b9 q y (Jn (Rb h1) hn) (Jn (pb c) (Jg (Cs a lo) hn)) ?_)
   dsimp only
   by_cases p:K (arrOf st) lo<K (arrOf st) (lo+n-1)
   .rw[Jc (by simpa using p)]
    exact wpS_pure (h n st q c a (Bef.refl _ _) l)
   .rw[Jb (by simpa using p)]
    have D:lo+n<=(arrOf st).size:=by rw[q.size];exact Jg (Cs a lo) hn
    have f:∀k,lo<=k->k<lo+n->K (arrOf st) k=K (arrOf st) (lo+n-1):=by
     intro k t r;have I:=l lo k (Jd _) t r;have J:=l k (lo+n-1) t (KH r) (pb c);exact Ra J (Iv (KY.mp p) I)
    have H:=Z5 D f;have C:Bef st (setArr st (mirror (arrOf st) lo (lo+n) ((lo+n-lo)/2))) lo:=#[Z,λi _=>H i]
    refine wpS_bind (fW (pE y hn (G2 a d) (q.arr (mirror_perm _ _ _ _)) (NI.congr ?_ H) λk F B x z L M=>
     h k F B x z (C.trans L) M))
    refine NI.snoc (λi j B x z=>?_) c (KC v)
    rw[f i B (KB x z),f j (Jg B x) z];exact GX _
  .rw[Jb o]
   have e:=KQ (KG.mp o) c;subst e;exact pE y hn (G2 a d) q ((NI.one _ _).snoc (Jd _) (KC v)) h
theorem Ce{st:SortSt}{lo n ok:Nat}{Q:Bool->SortSt->Prop}(h0:Ints a₀)(hn:lo+n<=a₀.size)(J:ok<=n)(H:1<=ok)(hB:SB a₀ st)(hs:SI (arrOf st) lo ok)
  (h:∀f,SB a₀ f->Bef st f lo->SI (arrOf f) lo n->Q true f):wpS (model prog w) A E s (binarySort' lo n ok) Q st:=by
 rw[binarySort'_eq];refine wpS_bind (wpS_mono (wpS_forRange (I:=λk c f=>c=(none,())/\SB a₀ f/\Bef st f lo/\SI (arrOf f) lo k)
  (Q:=λc f=>c=(none,())/\SB a₀ f/\Bef st f lo/\SI (arrOf f) lo n) ?ps ?pf ?pi) ?pp)
 case pp=>
  rintro c f ⟨rfl,m,D,g⟩
  exact wpS_pure (h f m D g)
 case pi=>
  rw[Nat.max_eq_left H]
  exact#[Z,hB,Bef.refl _ _,hs]
 case pf=>
  rintro c f ⟨hc,m,D,g⟩
  rw[Ol (NZ.2 #[J,Jg H J])]at g
  exact#[hc,m,D,g]
 case ps=>
  rintro k c f a1 L ⟨rfl,m,D,g⟩
  have hk:=al hn L;refine wpS_bind (wpS_mono (wpS_forRange (I:=λx c d=>d=f/\∃l r,c=(none,l,r)/\l<=r/\r<=k/\r+x<=k+l/\
    (∀i,i<l->K (arrOf f) (lo+i)<=K (arrOf f) (lo+k))/\(∀i,r<=i->i<k->K (arrOf f) (lo+k)<K (arrOf f) (lo+i)))
   (Q:=λc d=>d=f/\∃l r,c=(none,l,r)/\l<=k/\
    (∀i,i<l->K (arrOf f) (lo+i)<=K (arrOf f) (lo+k))/\(∀i,l<=i->i<k->K (arrOf f) (lo+k)<K (arrOf f) (lo+i))) ?qs ?qf ?qi) ?qp)
  case qi=>exact#[Z,(0),k,Z,JH _,Jd _,Jd _,λi hi=>(RW _ hi).elim,λi C o=>(NX o C).elim]
  case qf=>
   rintro c d ⟨rfl,l,r,rfl,C,o,P,B,z⟩
   have e:=KQ C (e0 P);subst e
   exact#[Z,l,l,Z,o,B,z]
  case qs=>
   rintro x c d _ a0 ⟨rfl,l,r,rfl,C,o,P,B,z⟩
   dsimp only
   by_cases O:l ≥ r
   .rw[Jc O]
    have e:=KQ C O;subst e;exact wpS_pure #[Z,l,l,Z,o,B,z]
   .rw[Jb O]
    have G:=md O;have m2:=ml C;refine wpS_bind (b9 m h0 hk (al hn (Jn G (Jg o (Jv L)))) ?_)
    dsimp only
    by_cases R:K (arrOf d) (lo+k)<K (arrOf d) (lo+(l+r)/2)
    .rw[Jc (by simpa using R)]
     exact wpS_pure #[Z,l,(l+r)/2,Z,m2,Jg (Jv G) o,FE G P,B,λi M p=>
      OO R (g _ _ (JG _ _) (Cs M lo) (KS p lo))]
    .rw[Jb (by simpa using R)]
     exact wpS_pure #[Z,(l+r)/2+1,r,Z,G,o,GP (Jg P (Cs m2 k)),λi M=>
      Iv (g (lo+i) (lo+(l+r)/2) (JG _ _) (Cs (Kd M) lo) (KS (Jn G o) lo)) (KY.mp R),z]
  case qp=>
   rintro c d ⟨rfl,l,r,rfl,o,B,z⟩
   show wpS _ _ _ _ (do moveDown' (lo+k) (lo+l);pure (ForInStep.yield (none,()))) _ _
   rw[moveDown'_eq];have T:lo+k<(arrOf d).size:=by rw[m.size];exact hk
   have u:=λi=>yM T (KM (lo+k) (lo+l)) i
   rw[Nat.sub_sub_self (Cs o lo)]at u;refine wpS_bind (wpS_modify (wpS_pure #[Z,m.arr (bubble_perm _ _ _),D.trans #[Z,λi hi=>?_],?_]))
   .show K (bubble (arrOf d) (lo+k) (lo+k-(lo+l))) i=_
    have F:=Jn hi (JG lo l);rw[u,Jb (Jq F),Jb λh=>Nat.lt_asymm F h.1]
   .intro i j M p q
    show K (bubble (arrOf d) (lo+k) (lo+k-(lo+l))) i<=K (bubble (arrOf d) (lo+k) (lo+k-(lo+l))) j
    let#[i,rfl]:∃i',i=lo+i':=#[i-lo,(KA M).symm]
    let#[j,rfl]:∃j',j=lo+j':=#[j-lo,(KA (Jg (JG lo i) p)).symm]
    have X:∀i,K (bubble (arrOf d) (lo+k) (lo+k-(lo+l))) (lo+i)=if i=l then K (arrOf d) (lo+k)else if l<i/\i<=k then K (arrOf d) (lo+(i-1))else K (arrOf d) (lo+i):=by
     intro i;rw[u];simp only[Nat.add_left_cancel_iff,Nat.add_lt_add_iff_left,Nat.add_le_add_iff_left];split
     .rfl
     .split
      next h=>rw[RS (KZ h.1)]
      .rfl
    have p:=Nat.le_of_add_le_add_left p;have q:=Kd (Nat.lt_of_add_lt_add_left q);have W:∀{x y},x<=y->y<k->K (arrOf d) (lo+x)<=K (arrOf d) (lo+y):=λa b=>g _ _ (JG _ _) (Cs a lo) (KS b lo)
    rw[X,X]
    by_cases S:i=l
    .rw[Jc S]
     by_cases t:j=l
     .rw[Jc t];exact GX _
     .have v:=G2 (S▸p) (Ne.symm t)
      rw[Jb t,Jc #[v,q]];exact KC (z _ (KH v) (Zc (KZ v) q))
    .rw[Jb S]
     by_cases t:l<i
     .have v:=Jn t p
      rw[Jc #[t,Jg p q],Jb (JT v),Jc #[v,q]];exact W (Rc p 1) (Zc (KZ v) q)
     .have Y:=G2 (KG.mp t) S
      rw[Jb λh=>t h.1]
      by_cases U:j=l
      .rw[Jc U];exact B _ Y
      .rw[Jb U]
       by_cases N:l<j
       .rw[Jc #[N,q]];exact W (Jg (Jv Y) (KH N)) (Zc (KZ N) q)
       .rw[Jb λh=>N h.1];exact W p (Jn (G2 (KG.mp N) U) o)
end
end S1
set_option linter.unusedSectionVars false
namespace S1
open PySem PyProof.Rows KO
variable[KO]
noncomputable def wr(xs:Array Keyed)(b:Nat)(l:Ρ)(n:Nat):Array Keyed:=(l.zipIdx n).foldl (λa (p,j)=>a.setIfInBounds (b+j) p) xs
theorem mD(b:Nat):∀(l:Ρ) (n:Nat) (xs:Array Keyed),b+n+l.length<=xs.size->∀i,
  (wr xs b l n)[i]? =if b+n<=i/\i<b+n+l.length then l[i-(b+n)]? else xs[i]?
 | [],n,xs,_,i=>by
  rw[Jb (by simp only[LH];lia)];rfl
 |x::l,n,xs,h,i=>by
  show(wr (xs.setIfInBounds (b+n) x) b l (n+1))[i]? =_
  simp only[J2]at h;rw[mD b l (n+1) _ (by rw[Array.size_setIfInBounds];rw[<- KD,K9];exact h) i]
  simp only[J2]
  by_cases e:i=b+n
  .subst e
   rw[Jb (by lia),Jc (by lia),Re,Jc Z,Jc (by lia),Kk];rfl
  .by_cases a:b+(n+1)<=i/\i<b+(n+1)+l.length
   .rw[Jc a,Jc (by lia),show i-(b+n)=(i-(b+(n+1)))+1 from(K2 (KJ a.1)).symm];rfl
   .rw[Jb a,Jb (by lia),Re,Jb (by lia)]
theorem Cd{xs:Array Keyed}{b:Nat}{l:Ρ}(h:b+l.length<=xs.size):
  (wr xs b l 0).toList=xs.toList.take b++(l++xs.toList.drop (b+l.length)):=by
 apply List.ext_getElem?
 intro i;rw[Ka,mD b l 0 xs h i,Nat.add_zero];have c:(xs.toList.take b).length=b:=by rw[JP,JV,Ky (Jg (JG _ _) h)]
 by_cases e:i<b
 .rw[Jb λh=>NX e h.1,Io (c.symm▸e),Rg,Jc e,Ka]
 .rw[GU (c.symm▸KG.mp e),c]
  by_cases a:i<b+l.length
  .rw[Jc #[KG.mp e,a],Io (K1 (KG.mp e) a)]
  .have d:=KG.mp a
   rw[Jb λh=>a h.2,GU (Rh d),OT,Ka,Nat.sub_sub,KA d]
theorem CO{xs:Array Keyed}{b:Nat}{l:Ρ}(h:b+l.length<=xs.size)(hp:l.Perm ((xs.toList.drop b).take l.length)):(wr xs b l 0).Perm xs:=by
 rw[Oi,Cd h];have e:xs.toList=xs.toList.take b++((xs.toList.drop b).take l.length++xs.toList.drop (b+l.length)):=by
  rw[<- Oh,Kg,Kg]
 conv=>rhs;rw[e]
 exact List.Perm.append_left _ (List.Perm.append_right _ hp)
theorem B0(xs:Array Keyed){i j k:Nat}(h1:i<=j)(h2:j<=k):(xs.extract i j).toList++(xs.extract j k).toList=(xs.toList.drop i).take (k-i):=by
 rw[fY,fY];have e:xs.toList.drop j=(xs.toList.drop i).drop (j-i):=by rw[Oh,KA h1]
 rw[e,<- Nat.sub_add_sub_cancel h2 h1,NH (k-j),RZ]
theorem CB{xs:Array Keyed}{j:Nat}{p:Keyed}(h:p∈(xs.toList.drop i).take (j-i)):∃m,i<=m/\m<j/\kp p=K xs m:=by
 let#[m,c,a,d,e]:=jz h
 exact#[m,a,d,by rw[K_at c,e]]
theorem QY{xs:Array Keyed}{m:Nat}(h:m<(xs.extract i j).size):kp (xs.extract i j)[m]=K xs (i+m):=by
 have h1:i+m<xs.size:=by simp at h;exact Jn (Ke h) (Ip _ _)
 rw[K_at h1,Ri]
theorem SI.ext{b i j:Nat}(h:SI xs b n)(h1:b<=i)(h2:j<=b+n):Srt (xs.extract i j):=by
 intro p q d c a;rw[QY,QY]
 have:i+q<j:=by simp at c;exact Jn (Ke c) (K3 _ _)
 exact h _ _ (Jg h1 (JG _ _)) (Cs a i) (Jn this h2)
theorem Ints.ext(h:Ints xs)(i j:Nat):Ints (xs.extract i j):=by
 intro m a;rw[Ri];exact h _ _
theorem SI.srtIn{b:Nat}(h:SI xs b n):lB xs b n:=λi j hi d c a e=>by
 rw[<- K_at hi,<- K_at d];exact h i j c a e
theorem uQ{xs:Array Keyed}{R:Array Keyed}{a f nb k d:Nat}(hk:k<f)(hn:d<=nb)(J:0<nb)(hsz:a+f+nb<=xs.size)
  (D:SI xs a f)(B:SI xs (a+f) nb)(f1:∀m,m<k->K xs (a+m)<=K xs (a+f))(f2:∀m,d<=m->m<nb->K xs (a+f-1)<=K xs (a+f+m))
  (A:zx ((xs.toList.drop (a+k)).take (a+f+d-(a+k))) R.toList):
  SI (wr xs (a+k) R.toList 0) a (f+nb)/\(∀j,(j<a\/a+f+nb<=j)->K (wr xs (a+k) R.toList 0) j=K xs j)/\(wr xs (a+k) R.toList 0).Perm xs:=by
 have g:R.toList.length=f+d-k:=by
  rw[A.2.length_eq,JP,Lj,JV,Ky (Rc (Jg (Cs hn _) hsz) _),KD,Om]
 have l:a+f+d=a+k+(f+d-k):=by rw[KD,KD a k,KA (Od (Jv hk))]
 have p:a+k+R.toList.length<=xs.size:=by rw[g,<- l];exact Jg (Cs hn _) hsz
 have E:∀j,K (wr xs (a+k) R.toList 0) j=if a+k<=j/\j<a+f+d then K R (j-(a+k))else K xs j:=by
  intro j;have e:=mD (a+k) R.toList 0 xs p j;rw[Nat.add_zero,g,<- l]at e
  by_cases c:a+k<=j/\j<a+f+d
  .rw[Jc c];rw[Jc c]at e
   exact ZX (e.trans (Ka ..))
  .rw[Jb c];rw[Jb c]at e
   exact ZX e
 have w:∀j,j<f+d-k->∃m,a+k<=m/\m<a+f+d/\K R j=K xs m:=by
  intro j I;have o:j<R.size:=by rw[<- JV,g];exact I
  have:R[j]∈R.toList:=by simp
  let#[m,z,u,x]:=CB (A.2.mem_iff.mp this)
  exact#[m,z,u,by rw[K_at o,x]]
 refine#[?_,?_,CO p ?_]
 .intro i j r s t
  rw[<- KD]at t;have F:=KZ hk;rw[E,E]
  by_cases q:a+k<=i/\i<a+f+d
  .rw[Jc q]
   by_cases n:a+k<=j/\j<a+f+d
   .rw[Jc n]
    have v:i-(a+k)<R.size:=by rw[<- JV,g];exact sj q l
    have o:j-(a+k)<R.size:=by rw[<- JV,g];exact sj n l
    rw[K_at v,K_at o]
    by_cases e:i=j
    .subst e;exact GX _
    .have:=Ls.mp A.1 (i-(a+k)) (j-(a+k)) (by simpa using v) (by simpa using o) (Nat.sub_lt_sub_right q.1 (G2 s e))
     simpa using this
   .rw[Jb n]
    let#[m,z,u,x]:=w (i-(a+k)) (sj q l)
    rw[x];have C:a+f+d<=j:=KG.mp λh=>n #[Jg q.1 s,h]
    have y:=Jg (JG _ d) C
    by_cases e:m<a+f
    .refine Iv (D m (a+f-1) (Jg (JG _ _) z) (KH e) (pb F)) ?_
     have:=f2 (j-(a+f)) (Rh C) (K1 y t)
     rwa [KA y]at this
    .exact B m j (KG.mp e) (Jv (Jn u C)) t
  .rw[Jb q]
   by_cases n:a+k<=j/\j<a+f+d
   .have di:i<a+k:=Kf.mp λh=>q #[h,KB s n.2]
    rw[Jc n];let#[m,z,u,x]:=w (j-(a+k)) (sj n l)
    rw[x]
    by_cases e:m<a+f
    .exact D i m r (Jv (Jn di z)) e
    .have:=f1 (i-a) (K1 r di)
     rw[KA r]at this;exact Iv this (B (a+f) m (Jd _) (KG.mp e) (Jn u (Cs hn _)))
   .rw[Jb n]
    by_cases G:j<a+f
    .exact D i j r s G
    .by_cases H:a+f<=i
     .exact B i j H s t
     .have di:i<a+k:=Kf.mp λh=>q #[h,Jn (Kf.mp H) (JG _ _)]
      have:=f1 (i-a) (K1 r di)
      rw[KA r]at this;exact Iv this (B (a+f) j (Jd _) (KG.mp G) t)
 .intro j I
  rw[E,Jb (by lia)]
 .rw[g]
  have:=A.2
  rwa [KD,Om]at this
theorem BW(i:Nat):mergeAt' i=(do
 let s <- get
 let(↑(sa,na,pw),↑(sb,nb,_)):=((pendingOf s)[i]?,(pendingOf s)[i+1]?)|unsupported "internal:list.sort.pending"
 set (setPending s (((pendingOf s).setIfInBounds i (sa,na+nb,pw)).eraseIdxIfInBounds (i+1)))
 let ↑k <- bv false (<- elem' (arrOf s) sb) (arrOf s) sa na 0|return false
 let(sa,na):=(sa+k,na-k)
 if na==0 then return true
 let ↑nb <- bv true (<- elem' (arrOf s) (sa+na-1)) (arrOf s) sb nb (nb-1)|return false
 if nb==0 then return true
 let x:=(arrOf s).extract sa sb
 let y:=(arrOf s).extract sb (sb+nb)
 let mg <- if na<=nb then xw x y else xt x y
 modify λs=>setArr s (wr (arrOf s) sa mg.toList 0)
 return (failedOf (<- get)).isNone):=Z
section
variable{prog:Ξ}{w:Ω}{A:Around}{s:Θ}[KL prog w A s]
theorem BB{σ:Type}{M:Model}{st a:σ}{Q:PUnit->σ->Prop}(h:Q #[] a):wpS M A E s (set a:StateT σ Sem PUnit) Q st:=by
 unfold wpS;rw[StateT.run_set];exact Je #[Z,h]
theorem AE{st:SortSt}{i a c M nb pw U:Nat}{Q:Bool->SortSt->Prop}(h0:Ints a₀)(l:SB a₀ st)
  (e1:(pendingOf st)[i]? =↑(a,c,pw))(e2:(pendingOf st)[i+1]? =↑(M,nb,U))(X:M=a+c)(n1:0<c)(n2:0<nb)(hsz:M+nb<=a₀.size)
  (F:SI (arrOf st) a c)(G:SI (arrOf st) M nb)
  (h:∀f,SB a₀ f->pendingOf f=((pendingOf st).setIfInBounds i (a,c+nb,pw)).eraseIdxIfInBounds (i+1)->SI (arrOf f) a (c+nb)->
   (∀j,(j<a\/a+c+nb<=j)->K (arrOf f) j=K (arrOf st) j)->Q true f):wpS (model prog w) A E s (mergeAt' i) Q st:=by
 subst X;rw[BW];refine wpS_bind (wpS_get ?_)
 rw[e1,e2]
 dsimp only
 have e:a+c+nb<=(arrOf st).size:=by rw[l.size];exact hsz
 have B:=l.ints h0;have z:a+c<(arrOf st).size:=Jn (Rb n2) e
 refine wpS_bind (BB (wpS_bind (qS z (wpS_bind (gO l.kind (B _ z) B F.srtIn (Jv z) n1 λk D hT hF=>?_)))))
 have fT:∀m,m<k->K (arrOf st) (a+m)<=K (arrOf st) (a+c):=by
  intro m o;have d:=KB (Cs (Jg (Jv o) D) a) z;rw[K_at d,K_at z];exact hT m d o
 dsimp only
 have u:(∀m,m<c->K (arrOf st) (a+m)<=K (arrOf st) (a+c))->SI (arrOf st) a (c+nb):=by
  intro hh p q v Y P;rw[<- KD]at P
  by_cases N:q<a+c
  .exact F p q v Y N
  .by_cases L:a+c<=p
   .exact G p q L Y P
   .have:=hh (p-a) (K1 v (Kf.mp L))
    rw[KA v]at this;exact Iv this (G (a+c) q (Jd _) (KG.mp N) P)
 by_cases J:c-k=0
 .rw[Jc (by simpa using J)]
  exact wpS_pure (h _ #[l.perm,l.kind,l.failed] Z (u λm o=>fT m (Jn o (RP J))) λ_ _=>rfl)
 rw[Jb (by simpa using J)]
 have n:=Nat.lt_of_sub_ne_zero J;have H:K (arrOf st) (a+c)<K (arrOf st) (a+k):=by
  have d:=Ki (KS n a) z;rw[K_at d,K_at z];exact hF k d (Jd _) n
 have e3:a+k+(c-k)-1=a+c-1:=by rw[KD,KA D]
 rw[e3];have O:=KB (KM (a+c) 1) z;refine wpS_bind (qS O (wpS_bind (gH l.kind (B _ O) B G.srtIn e (pl n2) λb r W S=>?_)))
 have fF:∀m,b<=m->m<nb->K (arrOf st) (a+c-1)<=K (arrOf st) (a+c+m):=by
  intro m x I;have d:=al e I;rw[K_at d,K_at O];exact S m d x I
 have fL:∀m,m<b->K (arrOf st) (a+c+m)<=K (arrOf st) (a+c-1):=by
  intro m x;have d:=al e (Jn x r);rw[K_at d,K_at O];exact KC (W m d x)
 dsimp only
 by_cases v:b=0
 .rw[Jc (by simpa using v)]
  refine wpS_pure (h _ #[l.perm,l.kind,l.failed] Z (u λm o=>?_) λ_ _=>rfl)
  have:=fF 0 (JZ v) n2
  exact Iv (F _ _ (JG _ _) (KH (KS o a)) (pb n1)) this
 rw[Jb (by simpa using v)]
 have t:((arrOf st).extract (a+k) (a+c)).size=c-k:=by rw[Rj,Ky (Jv z),Om]
 have y:((arrOf st).extract (a+c) (a+c+b)).size=b:=by rw[Rj,Ky (Jg (Cs r _) e),Nat.add_sub_cancel_left]
 have T:∀m,m<c-k->K (arrOf st) (a+c)<=K (arrOf st) (a+k+m):=λm o=>
  Iv (KC H) (F _ _ (JG _ _) (JG _ _) (KD a k m▸KS (Ke o) a))
 have C:∀(R:Array Keyed) (f:SortSt),Gs (setPending st (((pendingOf st).setIfInBounds i (a,c+nb,pw)).eraseIdxIfInBounds (i+1))) f->
   zx (((arrOf st).extract (a+k) (a+c)).toList++((arrOf st).extract (a+c) (a+c+b)).toList) R.toList->
   wpS (model prog w) A E s (do
    modify λs=>setArr s (wr (arrOf s) (a+k) R.toList 0)
    return (failedOf (<- get)).isNone) Q f:=by
  rintro R f ⟨g,rfl⟩ hR
  rw[B0 _ (Cs D a) (JG _ _)]at hR;let#[N,L,d3]:=uQ n r n2 e F G fT fF hR;refine wpS_bind (wpS_modify (wpS_bind (wpS_get (wpS_pure ?_))))
  have ef:(failedOf st).isNone=true:=by rw[l.failed];rfl
  show Q (failedOf st).isNone _
  rw[ef];exact h _ #[d3.trans l.perm,l.kind,l.failed] Z N L
 split
 .refine wpS_bind (yK l.kind (F.ext (JG _ _) (Jd _)) (G.ext (Jd _) (Cs r _)) (B.ext _ _) (B.ext _ _) (t▸KJ n) (Rk (KU v) y.symm) ?_ ?_ C)
  .rw[QY,QY];exact KC H
  .intro m o
   rw[QY,QY,t,sk n];exact fL m (y▸o)
 .refine wpS_bind (ye l.kind (F.ext (JG _ _) (Jd _)) (G.ext (Jd _) (Cs r _)) (B.ext _ _) (B.ext _ _) (t▸KJ n) (Rk (KU v) y.symm) ?_ ?_ C)
  .intro m o
   rw[QY,QY];exact T m (t▸o)
  .rw[QY,QY,t,y,sk n]
   exact fL _ (pl (KU v))
end
end S1
set_option linter.unusedSectionVars false
namespace S1
open PySem PyProof.Rows KO
variable[KO]
noncomputable def Ch(xs:Array Keyed):Nat->List (Nat×Nat×Nat)->Nat->Prop
 |b,[],e=>b=e
 |b,r::l,e=>r.1=b/\0<r.2.1/\SI xs b r.2.1/\Ch xs (b+r.2.1) l e
theorem Ch.app{xs:Array Keyed}:∀{l:List (Nat×Nat×Nat)} {b e:Nat} {a:List (Nat×Nat×Nat)},Ch xs b (l++a) e↔∃m,Ch xs b l m/\Ch xs m a e
 | [],b,e,a=>#[λh=>#[b,Z,h],λ⟨m,h1,c⟩=>by cases h1;exact c]
 |r::l,b,e,a=>by
  show(r.1=b/\0<r.2.1/\SI xs b r.2.1/\Ch xs (b+r.2.1) (l++a) e)↔_
  rw[Ch.app];constructor
  .rintro⟨h1,c,g,m,f,d⟩;exact#[m,#[h1,c,g,f],d]
  .rintro⟨m,⟨h1,c,g,f⟩,d⟩;exact#[h1,c,g,m,f,d]
theorem Ch.le{xs:Array Keyed}:∀{l:List (Nat×Nat×Nat)} {b e:Nat},Ch xs b l e->b+l.length<=e
 | [],b,e,h=>by cases h;simp
 |r::l,b,e,h=>by
  let#[h1,c,d,a]:=h
  have:=a.le
  simp only[J2];lia
theorem SI.same{b:Nat}(h:SI xs b n)(e:∀i,b<=i->i<b+n->K ys i=K xs i):SI ys b n:=λi j h1 c a=>by
 rw[e i h1 (by lia),e j (by lia) a];exact h i j h1 c a
theorem Ch.same{xs ys:Array Keyed}:∀{l:List (Nat×Nat×Nat)} {b e:Nat},Ch xs b l e->(∀i,b<=i->i<e->K ys i=K xs i)->Ch ys b l e
 | [],b,e,h,_=>h
 |r::l,b,e,h,he=>by
  let#[h1,f,g,d]:=h
  have:=d.le
  exact#[h1,f,g.same λi c a=>he i c (by lia),d.same λi c a=>he i (by lia) a]
section
variable{prog:Ξ}{w:Ω}{A:Around}{s:Θ}[KL prog w A s]
theorem pD{st:SortSt}{i lo:Nat}{l:List (Nat×Nat×Nat)}{Q:Bool->SortSt->Prop}(O:Ints a₀)(L:SB a₀ st)(hp:(pendingOf st).toList=l)(B:Ch (arrOf st) 0 l lo)
  (N:lo<=a₀.size)(hi:i+1<l.length)
  (h:∀a v,SB a₀ a->(pendingOf a).toList=v->v.length+1=l.length->Ch (arrOf a) 0 v lo->(∀j,lo<=j->K (arrOf a) j=K (arrOf st) j)->Q true a):
  wpS (model prog w) A E s (mergeAt' i) Q st:=by
 subst hp;let#[c,p,r,f,d,n]:∃c p r f,(pendingOf st).toList=c++p::r::f/\c.length=i:=by
  refine#[(pendingOf st).toList.take i,(pendingOf st).toList[i],(pendingOf st).toList[i+1],(pendingOf st).toList.drop (i+2),?_,by simp;simp at hi;lia]
  conv=>lhs;rw[<- Kg i (pendingOf st).toList]
  rw[Kv (by lia),Kv (by lia)]
 let#[u,C,pw]:=p;let#[R,nb,q]:=r;rw[d]at B;let#[m,t,#[H,y,z,g,G,D,e]]:=Ch.app.mp B
 dsimp only at H y z g G D e
 subst H;have M:=e.le;subst n;have J:(pendingOf st)[c.length]? =↑(u,C,pw):=by
  rw[<- Ka,d,GU (Jd _),Kk];rfl
 have S:(pendingOf st)[c.length+1]? =↑(R,nb,q):=by
  rw[<- Ka,d,GU (by lia),show c.length+1-c.length=1 by lia];rfl
 refine AE O L J S g y G (by lia) z (by rw[g];exact D) λa T I P x=>?_
 have o:(pendingOf a).toList=c++(u,C+nb,pw)::f:=by
  rw[I,Array.toList_eraseIdxIfInBounds,Array.toList_setIfInBounds,d,List.set_append_right _ _ (Jd _),Kk,List.set_cons_zero,List.eraseIdx_append_of_length_le (by lia),show c.length+1-c.length=1 by lia]
  rfl
 refine h a _ T o (by rw[d];simp;lia) (Ch.app.mpr #[u,t.same λj _ F=>x j (.inl F),Z,by dsimp only;lia,P,?_]) λj F=>x j (.inr (by lia))
 dsimp only
 rw[<- KD];exact e.same λj h1 _=>x j (.inr h1)
theorem EL{n:Nat}(h:1<n):n-2+1<n:=by lia
structure Rn(a₀:Array Keyed)(st:SortSt)(lo:Nat):Prop where
 base:SB a₀ st
 ch:Ch (arrOf st) 0 (pendingOf st).toList lo
theorem Ch.pow{xs:Array Keyed}(q:Nat):∀{l:List (Nat×Nat×Nat)} {b e:Nat} (i:Nat),Ch xs b l e->Ch xs b (l.modify i λx=>(x.fst,x.2.fst,q)) e
 | [],b,e,i,h=>by rw[List.modify_nil];exact h
 |r::l,b,e,0,h=>by rw[List.modify_zero_cons];exact h
 |r::l,b,e,i+1,h=>by
  rw[List.modify_succ_cons];let#[h1,a,d,c]:=h
  exact#[h1,a,d,c.pow q i]
theorem wpS_runs{st:SortSt}{Q:Unit->SortSt->Prop}(X:Ints a₀)(hB:SB a₀ st)(hp:pendingOf st= (B1 []))(h2:2<=a₀.size)
  (h:∀a,(arrOf a).Perm a₀->failedOf a=none->SI (arrOf a) 0 a₀.size->Q () a):wpS (model prog w) A E s sortRuns' Q st:=by
 rw[sortRuns'_eq];refine wpS_bind (wpS_get ?_)
 dsimp only
 simp only[hB.size];generalize minRun' a₀.size a₀.size 0=W
 refine wpS_bind (wpS_mono (wpS_forRange
  (I:=λx c a=>∃lo,c=(none,lo)/\Rn a₀ a lo/\lo<=a₀.size/\x<=lo)
  (Q:=λc a=>c=(none,a₀.size)/\Rn a₀ a a₀.size) ?ps ?pf #[(0),Z,#[hB,by rw[hp];rfl],by lia,by lia]) ?pp)
 case pf=>
  rintro c a ⟨lo,rfl,C,c1,c2⟩
  have e:lo=a₀.size:=by lia
  subst e;exact#[Z,C]
 case ps=>
  rintro x c a _ hx ⟨lo,rfl,C,c1,c2⟩
  dsimp only
  by_cases z:lo ≥ a₀.size
  .rw[Jc z]
   have e:lo=a₀.size:=by lia
   subst e;exact wpS_pure #[Z,C]
  rw[Jb z];have y:=JZ (KA c1);have U:0<a₀.size-lo:=KJ (Kf.mp z)
  refine wpS_bind (BS X y U C.base λm f M D T hF N=>?_)
  dsimp only
  have S:Ch (arrOf f) 0 (pendingOf f).toList lo:=by rw[hF.1];exact C.ch.same λi _ hi=>hF.2 i hi
  have O:∀(n:Nat) (d:SortSt),SB a₀ d->Ch (arrOf d) 0 (pendingOf d).toList lo->1<=n->lo+n<=a₀.size->SI (arrOf d) lo n->
    ∃j,(none,lo+n)=((none,j):Option PUnit×Nat)/\Rn a₀ (setPending d ((pendingOf d).push (lo,n,0))) j/\j<=a₀.size/\x+1<=j:=by
   intro n d l p o G Y;refine#[lo+n,Z,#[#[l.perm,l.kind,l.failed],?_],G,by lia]
   show Ch (arrOf d) 0 ((pendingOf d).push (lo,n,0)).toList (lo+n)
   rw[L1];exact Ch.app.mpr #[lo,p,Z,o,Y,Z]
  have P:∀(n:Nat),1<=n->lo+n<=a₀.size->∀d:SortSt,SB a₀ d->Ch (arrOf d) 0 (pendingOf d).toList lo->SI (arrOf d) lo n->
    wpS (model prog w) A E s (do
     modify λs=>setPending s ((pendingOf s).push (lo,n,0))
     pure (ForInStep.yield ((none,lo+n):Option PUnit×Nat))) (λr a=>match r with
      | .done c'=>c'=(none,a₀.size)/\Rn a₀ a a₀.size
      | .yield c'=>∃j,c'=(none,j)/\Rn a₀ a j/\j<=a₀.size/\x+1<=j) d:=λn l p d o G Y=>
   wpS_bind (wpS_modify (wpS_pure (O n d o G l p Y)))
  by_cases B:m<W
  case' pos=>
   rw[Jc B];refine wpS_bind (wpS_lift (J4 #[Z,?_]))
   refine wpS_bind (Ce X (Jg (Cs (K3 _ _) lo) y) (NV.2 #[T,Jv B]) D M N λd F R u=>?_)
   have H:Ch (arrOf d) 0 (pendingOf d).toList lo:=by rw[R.1];exact S.same λi _ hi=>R.2 i hi
   have v:1<=min (a₀.size-lo) W:=NV.2 #[U,Jg D (Jv B)]
   have t:lo+min (a₀.size-lo) W<=a₀.size:=Jg (Cs (K3 _ _) lo) y
   revert v t u;generalize min (a₀.size-lo) W=n
   intro u v t;simp only[Kc,KI,JU]
  case' neg=>
   rw[Jb B];have t:lo+m<=a₀.size:=Jg (Cs T lo) y
   generalize m=n at *
   generalize f=d at *
   have v:=D;have u:=N;have F:=M;have H:=S
  all_goals
   refine wpS_bind (wpS_get ?_)
   cases hb:(pendingOf d).back? with
   |none=>exact P n v t d F H u
   |some r=>
    let#[s1,n1,p1]:=r
    dsimp only
    generalize power' a₀.size (2*s1+n1) (2*s1+n1+n1+n) a₀.size=q
    refine wpS_bind (wpS_mono (wpS_forRange (I:=λx c a=>c=(none,())/\SB a₀ a/\Ch (arrOf a) 0 (pendingOf a).toList lo/\SI (arrOf a) lo n)
     (Q:=λc a=>c=(none,())/\SB a₀ a/\Ch (arrOf a) 0 (pendingOf a).toList lo/\SI (arrOf a) lo n) ?rs (λc a hh=>hh) #[Z,F,H,u]) ?rp)
    case rp=>
     rintro c a ⟨rfl,l,p,o⟩
     refine wpS_bind (wpS_modify (P n v t _ #[l.perm,l.kind,l.failed] ?_ o))
     show Ch (arrOf a) 0 ((pendingOf a).modify ((pendingOf a).size-1) λx=>(x.fst,x.2.fst,q)).toList lo
     rw[Array.toList_modify];exact p.pow q _
    case rs=>
     rintro x c a _ hx ⟨rfl,l,p,o⟩
     refine wpS_bind (wpS_get ?_)
     by_cases h1:(pendingOf a).size>1
     .rw[Jc h1]
      have h2:(pendingOf a).size-2<(pendingOf a).size:=Nat.sub_lt (KZ h1) Nat.zero_lt_two
      rw[getElem?_pos (pendingOf a) _ h2]
      dsimp only
      split
      .exact wpS_pure #[Z,l,p,o]
      .refine wpS_bind (pD X l Z p c1 (by rw[JV];exact EL h1) λd l' d1 d2 d3 d4 d5=>?_)
       simp only[Kc,KI,JU];exact wpS_pure #[Z,d1,by rw[d2];exact d4,o.same λi hi _=>d5 i hi]
     .rw[Jb h1]
      exact wpS_pure #[Z,l,p,o]
 case pp=>
  rintro c a ⟨rfl,C⟩
  dsimp only
  refine wpS_bind (wpS_mono (wpS_forRange (I:=λx c a=>c=(none,())/\Rn a₀ a a₀.size/\((pendingOf a).size<=1\/(pendingOf a).size+x<=a₀.size))
   (Q:=λc a=>c=(none,())/\Rn a₀ a a₀.size/\(pendingOf a).size<=1) ?qs ?qf ?qi) ?qp)
  case qi=>
   have:=C.ch.le
   exact#[Z,C,.inr (by rw[<- JV];lia)]
  case qf=>
   rintro c f ⟨rfl,g,J⟩
   exists Z,g
   lia
  case qp=>
   rintro c f ⟨rfl,g,J⟩
   refine wpS_pure (h f g.base.perm g.base.failed ?_)
   have L:=g.ch;rw[<- JV]at J
   match hl:(pendingOf f).toList,L,J with
   | [],L,_=>
    have:(0:Nat)=a₀.size:=L
    lia
   | [r],L,_=>
    let#[l,p,o,G]:=L;have e:0+r.2.1=a₀.size:=G
    rw[K0]at e;rw[e]at o;exact o
   |_::_::_,_,J=>simp at J
  case qs=>
   rintro x c f _ hx ⟨rfl,g,J⟩
   refine wpS_bind (wpS_get ?_)
   by_cases z:(pendingOf f).size<=1
   .rw[Jc z];exact wpS_pure #[Z,g,z]
   rw[Jb z];have a0:∀(c:Prop) [Decidable c],(if c then(pendingOf f).size-2-1 else(pendingOf f).size-2)+1<(pendingOf f).toList.length:=by
    intro c _;rw[JV];split
    .exact KB (GP (KM _ 1)) (EL (Kf.mp z))
    .exact EL (Kf.mp z)
   refine wpS_bind (pD X g.base Z g.ch (Jd _) (a0 _) λd l' l p o G Y=>?_)
   simp only[Kc,KI,JU];refine wpS_pure #[Z,#[l,by rw[p];exact G],?_]
   rw[<- p,JV,JV]at o;lia
end
end S1
namespace L3
open PySem PySem.Spec PyProof.Rows L2 PySem.SeqAt
def gC(k:PK):Prop:=(∃a xs,k= .cons (.int a) xs)/\k.dp<=4
open Classical in
noncomputable def iO(h:Ψ)(v:Γ):PK:=if e:∃k,Qb h k v then e.choose else .nil
theorem bY{k:PK}(g:Qb h k v):iO h v=k:=by
 have e:∃k,Qb h k v:=#[k,g]
 unfold iO;rw[dif_pos e]
 exact(bR _).1 e.choose_spec g
@[reducible] noncomputable def Bg (h:Ψ) (L:List PK):S1.KO:=#[λp=>gB L (iO h p.1),λp=>∃k∈L,Qb h k p.1,tuples' true]
section
variable{prog:Ξ}{w:Ω}{A:Around}{s:Θ}{Q:Bool->Θ->Prop}
theorem wI:∀(us vs:Η) {x y:PK} {i:Nat} {a:Bool},1<=i->PK.cm x y=true->A.units+x.dp<cLine->zG s.heap x us->zG s.heap y vs->a=decide (us.length<vs.length)->Q (PK.lt x y) s->W.KatLex prog w A true a Q (us.zip vs) i s
 | [],vs,x,y,i,a,hi,hc,hu,gx,gy,hf,h=>by
  have ex:=Z7 gx;subst ex;rw[List.zip_nil_left];refine W.kat_nil ?_
  cases vs with
  |nil=>have j:=Z7 gy;subst j;rw[hf];exact h
  |cons v r=>let#[m,l,rfl,_,_]:=Qs gy;rw[hf];exact h
 |u::us,[],x,y,i,a,hi,hc,hu,gx,gy,hf,h=>by
  let#[d,c,rfl,_,_]:=Qs gx;have j:=Z7 gy;subst j;rw[List.zip_nil_right];refine W.kat_nil ?_
  rw[hf];exact h
 |u::us,v::vs,x,y,i,a,hi,hc,hu,gx,gy,hf,h=>by
  let#[d,c,rfl,h1,g]:=Qs gx;let#[m,l,rfl,n,f]:=Qs gy;have o:d.dp+1<=(PK.cons d c).dp:=Kl _ _
  have p:c.dp<=(PK.cons d c).dp:=Kz _ _
  rw[K7];refine W.kat_cons (bi d.sz (Jd _) (by lia) h1 n ?_)
  unfold PK.cm at hc;unfold PK.lt at h
  by_cases hk:d=m
  .subst hk
   rw[Jj Z];rw[Jc Z]at hc h;refine W.kat_yes (wI us vs (by lia) hc (by lia) g f ?_ h)
   rw[hf];simp
  .rw[Jl hk]
   rw[Jb hk]at hc h;refine W.kat_no ?_
   have e:(true&&i==0)=false:=by simp;lia
   rw[e];exact W.kat_one _ _ (lD d.sz (Jd _) hc (by lia) h1 n h)
theorem DO(hx:gC x)(G:gC y)(hc:PK.cm x y=true)(hu:A.units+4<cLine)(C:Qb s.heap x u)(p:Qb s.heap y v)(h:Q (PK.lt x y) s):ε (model prog w) A (keyLt' (tuples' true) u v) Q E s:=by
 let#[#[a,xs,rfl],dx]:=hx;let#[#[b,ys,rfl],R]:=G;let#[L,P,is,O,rfl,e,D,f,g]:=(Qp Z).mp C
 let#[M,J,js,nb,rfl,d,B,c,i]:=(Qp Z).mp p
 let#[_,l,j,#[q,rfl],r]:=g;let#[_,m,n,#[I,rfl],H]:=i;have N:xs.dp<=(PK.cons (PK.int a) xs).dp:=Kz _ _
 refine W.kat_lt e f d c ?_
 have o:is.size=l.length+1:=by rw[<- JV,j,J2]
 have t:js.size=m.length+1:=by rw[<- JV,n,J2]
 rw[j,n,K7];refine W.kat_cons (EqAt.int_int a q b I prog w _ _ ?_)
 unfold PK.cm at hc;unfold PK.lt at h
 by_cases hk:a=b
 .subst hk
  rw[GG];rw[Jc Z]at hc h;exact W.kat_yes (wI l m (Jd _) hc (by lia) r H (by rw[o,t];simp) h)
 .rw[IW hk]
  have F:PK.int a≠PK.int b:=λz=>hk (by injection z)
  rw[Jb F]at hc h;exact W.kat_no (oneLt_int h)
theorem Gn{L:List PK}(c:∀x∈L,gC x)(hc:∀x∈L,∀y∈L,PK.cm x y=true)(hu:A.units+4<cLine):@S1.KL (Bg s.heap L) prog w A s:=by
 letI:=Bg s.heap L
 refine @S1.KL.mk (Bg s.heap L) prog w A s λ{E x y Q} f j h=>?_
 let#[k,hk,g]:=f;let#[i,a,d]:=j;have e:decide (gB L (iO s.heap x.1)<gB L (iO s.heap y.1))=PK.lt k i:=by rw[bY g,bY d];exact wA hk a (hc _ hk _ a)
 refine DO (c _ hk) (c _ a) (hc _ hk _ a) hu g d ?_
 rw[<- e];exact h
theorem ja:∀(vs:Η),(∀v∈vs,∃k,gC k/\Qb s.heap k v)->∃fs,W.KatTups s.heap vs fs/\fs.length=vs.length/\∀f∈fs,∃n t,f= .int n t
 | [],_=>#[[],.nil,Z,λ_ h=>nomatch h]
 |v::vs,h=>by
  let#[fs,h1,q,r]:=ja vs λv m=>h v (JS _ m)
  let#[k,#[#[a,xs,rfl],_],g]:=h v (JM ..)
  let#[w,u,is,y,rfl,d,l,j,c]:=(Qp Z).mp g
  let#[_,x,o,#[p,rfl],z]:=c;refine#[.int a p::fs,.cons d l j ?_ h1,by simp [q],λf i=>?_]
  .rw[<- Ka,o];rfl
  .rcases Jp.mp i with e|i
   .exact#[16,e]
   .exact r f i
theorem Fn{a:Δ}{keys vs:Η}{L:List PK}{d:Nat}{P:PySem.Fin->Θ->Prop}(hu:A.units+4<cLine)(m:keys.length=vs.length)(M:∀x∈L,gC x)(hc:∀x∈L,∀y∈L,PK.cm x y=true)
  (hk:∀v∈keys,∃k∈L,Qb s.heap k v)
  (h:∀(ps:Ρ) (st:SortSt),ps.Perm (keys.zip vs)->(ps.Pairwise λp q=>PK.lt (iO s.heap q.1) (iO s.heap p.1)=false)->arrOf st=ps.toArray->failedOf st=none->ε (model prog w) A (ksk_tail a false d (-kS) st) P E s):
  ε (model prog w) A (ksk_end a false vs.toArray d (-kS) keys.toArray) P E s:=by
 unfold ksk_end
 dsimp only
 simp only[KI,JU];have G:keys.toArray.zip vs.toArray=(keys.zip vs).toArray:=by simp
 by_cases l:vs.toArray.size<2
 .rw[Jc l,Jc l]
  refine Ja (Je (Ja (Je ?_)))
  dsimp only
  refine h (keys.zip vs) _ (.refl _) ?_ G Z
  have C:(keys.zip vs).length<2:=by rw[RM,m];simp at l;lia
  match e:keys.zip vs,C with
  | [],_=>exact .nil
  | [p],_=>exact List.pairwise_singleton _ _
  |_::_::_,C=>simp at C;lia
 .rw[Jb l,Jb l]
  let#[fs,f1,f2,O]:=ja (s:=s) keys λv z=>let⟨k,hk,g⟩:=hk v z;#[k,M k hk,g]
  have R:2<=vs.length:=by simp at l;lia
  refine Ja (W.kat_kind (T:= .type "int") f1 (by lia) (λv z=>?_) Z ?_)
  .let#[n,t,rfl]:=O v z
   exact W.Looks.of_pure Z
  letI:=Bg s.heap L
  haveI:=Gn (prog:=prog) (w:=w) (A:=A) (s:=s) M hc hu
  have hI:S1.Ints (keys.toArray.zip vs.toArray):=by
   intro i hi;have e:(keys.toArray.zip vs.toArray).toList=keys.zip vs:=by rw[G]
   have hm:(keys.toArray.zip vs.toArray)[i]∈(keys.zip vs):=e▸O1.mpr (Array.getElem_mem hi)
   exact hk _ (IJ hm).1
  refine Ja (JJ (S1.wpS_runs (E:=E) (a₀:=keys.toArray.zip vs.toArray) (st:=SortSt.mk' (tuples' true) (keys.toArray.zip vs.toArray) (B1 []) 7 none)
   (Q:=λ_ c=>(arrOf c).Perm (keys.toArray.zip vs.toArray)/\failedOf c=none/\S1.SI (arrOf c) 0 (keys.toArray.zip vs.toArray).size)
   hI #[Array.Perm.refl _,7] Z (by simp;lia) λc b1 S b3=>#[b1,S,b3]) ?_ λ_ _ e=>e)
  rintro⟨⟨⟩,c⟩ s' ⟨rfl,I,U,hs⟩
  dsimp only
  have f:(arrOf c).toList.Perm (keys.zip vs):=by have:=Oi.mp I;simpa using this
  refine h (arrOf c).toList c f ?_ (by simp) U
  rw[Ls];intro i j hi hj u;have o:i<(arrOf c).size:=by simpa using hi
  have F:j<(arrOf c).size:=by simpa using hj
  have B:(arrOf c).Perm (keys.toArray.zip vs.toArray):=I
  have q:=hs i j (JH _) (Jv u) (by rw[<- B.size_eq];lia)
  have q':gB L (iO s'.heap ((arrOf c)[i]).1)<=gB L (iO s'.heap ((arrOf c)[j]).1):=by
   have H:S1.K (arrOf c) i<=S1.K (arrOf c) j:=q
   rw[S1.K_at o,S1.K_at F]at H;exact H
  have w1:(arrOf c)[i]∈(arrOf c).toList:=by simp
  have X:(arrOf c)[j]∈(arrOf c).toList:=by simp
  let#[Y,J,g1]:=hk _ (IJ (f.mem_iff.mp w1)).1
  let#[k2,N,g2]:=hk _ (IJ (f.mem_iff.mp X)).1
  have D:Qb s'.heap Y ((arrOf c)[i]).1:=g1
  have r:Qb s'.heap k2 ((arrOf c)[j]).1:=g2
  rw[Rl,Rl];rw[bY D,bY r]at q'⊢;rw[<- wA N J (hc _ N _ J)];exact Jl (by lia)
end
def Z9(X:Cx)(A:Around)(f:Δ)(a:V->PK)(xs:Α)(H2:Hp):Prop:=
 ∀(pins:HD) (σ:L2.St) (H:Hp) (s:Θ) (x:V) (u:Γ),HH X pins σ H s->HE H2 H->x∈xs->HJ x u->ε (model X.prog X.w) A (call (-f) [u]) (EP X pins σ (λk H'=>HE H H'/\Q3 H' (a x) k)) (λ_ _=>False) s
theorem QV{d c:Type}{F:d->c->Prop}:∀{l₁:List d} {l₂:List c} {i:Nat} {b:c},Paired F l₁ l₂->l₂[i]? =↑b->∃a,l₁[i]? =↑a/\F a b
 |_,_,_,_,.nil,e=>by cases e
 |_,_,0,_,.cons h _,e=>by cases e;exact#[0,h]
 |_,_,i+1,_,.cons _ t,e=>QV (i:=i) t e
theorem fo(s:HE H H'){k:PK}(h:Q3 H k v):Q3 H' k v:=(ZU (λa xs e=>s _ _ e) k).1 h
theorem dz{d g:Type}(f:d->g):∀(ps:List g) (l:List d),ps.Perm (l.map f)->∃c:List d,c.Perm l/\c.map f=ps
 | [],l,h=>by
  have e:l=[]:=by cases l with|nil=>rfl|cons a t=>have:=h.length_eq;simp at this
  subst e
  exact#[[],.refl _,Z]
 |p::ps,l,h=>by
  let#[x,i,rfl]:=Ju.mp (h.mem_iff.mp (JM ..))
  let#[n,j,rfl]:=List.append_of_mem i;rw[JI,JC]at h;have h':ps.Perm ((n++j).map f):=by
   rw[JI]
   exact(h.trans NN).cons_inv
  let#[c,m,e]:=dz f ps _ h'
  exact#[x::c,(m.cons x).trans NN.symm,by rw[JC,e]]
section
structure Nx(X:Cx)(pins:HD)(b:Δ):Prop where
 s0:X.s₀.heap.objs.size<=b
 loc:b≠X.env.locals
 cell:∀x c,X.env.cells.lookup x=↑c->c≠b
 pin:∀p∈X.pn++pins,p.1≠b
 fs:b∉X.fs
theorem Nx.new(I:HH X pins σ H s){b:Δ}(h:s.heap.objs.size<=b):Nx X pins b:=by
 have a:∀{c:Δ} {o:Obj},s.heap.get? c=↑o->c≠b:=λ{c o} e=>Jq (Jn (Jk e) h)
 refine#[Jg I.sz h,JT (Jn I.lt h),λx c e=>?_,λp d=>a (I.pin p d).1,I.nofs h]
 let#[v,o,f,_]:=I.cell x c e;exact a f
theorem HH.laid2{h':Ψ}{t':Nat}(I:HH X pins σ H s)(i:Nx X pins a)(ok:Nx X pins kS)(x:H a=none)(y:H kS=none)(B:∃o,s.heap.get? a=↑o)(k:∀b o,b≠a->b≠kS->s.heap.get? b=↑o->h'.get? b=↑o)
  (new:HN X.prog X.w (HG H a (.lst ys)) h' a (.lst ys))(p:∃o,h'.get? kS=↑o):HH X pins σ (HG H a (.lst ys)) {s with heap:=h',toks:=t'}:=by
 have g:∀{b:Δ},b∉[a,kS]->b≠a/\b≠kS:=λ{b} h=>#[λz=>h (by simp [z]),λz=>h (by simp [z])]
 have d:∀{b:Δ} {u:HO},H b=↑u->b≠a/\b≠kS:=λ{b u} e=>#[qr e x,qr e y]
 refine I.step (g':=s.gens) (d':=s.drawn) (ch:=[a,kS]) (λb j=>?_) (λb o _ _ f e _=>k b o (g f).1 (g f).2 e) (λb o _ _ f e _=>#[o.slots,k b o (g f).1 (g f).2 e]) (λb o f e n=>by rw[qh (g f).1];exact n)
  (λb o f e=>#[o,k b o (g f).1 (g f).2 e]) (λb xs e=>by rw[qh (d e).1];exact e) (λb o u e=>by rw[qh (d e).1];exact e) (λb ps e=>#[(B1 []),by rw[qh (d e).1,e];simp]) (λm t=>?_) (λb u e=>?_) I.bare
 .have l:b=a\/b=kS:=by simpa using j
  rcases l with rfl|rfl
  .exact#[.inr i.s0,i.loc,i.cell,i.pin]
  .exact#[.inr ok.s0,ok.loc,ok.cell,ok.pin]
 .let#[o,es,w,A,r]:=t
  exact#[o,es,w,k _ o (Ne.symm i.loc) (Ne.symm ok.loc) A,r]
 .by_cases j:b=a
  .subst j
   rw[qc]at e;cases e
   exact new
  .rw[qh j]at e
   refine(I.hok b u e).stay (λc v f q=>k c v ?_ ?_ q) (λc q=>by rw[qh (d q).1];exact q) λc xs q=>by rw[qh (d q).1];exact q
   .rcases f with rfl|f
    .exact j
    .exact(d f).1
   .rcases f with rfl|f
    .exact(d e).2
    .exact(d f).2
def EQ(X:Cx)(pins:HD)(σ:L2.St)(H2:Hp)(d:V->PK)(xs:Α)(a kS:Δ)(oA:Obj)(i:Nat)(s:Θ):Prop:=
 ∃(H:Hp) (c:Η) (e:Nat),HH X (pins++[(a,oA),(kS,seqObj "list" c.toArray e)]) σ H s/\HE H2 H/\Paired (λx k=>∃v,HJ v k/\Q3 H (d x) v) (xs.take i) c
theorem lN{p q:Δ×Obj}:q∈pins++[p]->q∈pins\/q=p:=λh=>by simpa using h
theorem vO{n:V->PK}{xs:Α}{oA:Obj}{A:Around}{C:Nat}{P:PySem.Fin->Θ->Prop}(hu:A.units+8<cLine)
  (b2:oA=seqObj "list" (B1 []) C)(oa:Nx X pins a)(ok:Nx X pins kS)(S:a≠kS)(rx:HL xs vs)(hz:xs.length<=ζ)(T:Z9 X A f n xs H2)(hH:∀x∈xs,gC (n x))(hc:∀x∈xs,∀y∈xs,PK.cm (n x) (n y)=true)
  (h0:EQ X pins σ H2 n xs a kS oA 0 s)
  (h:∀(ys:Α) (H':Hp) (s':Θ),HH X pins σ H' s'->HE H2 H'->H' a=↑(.lst ys)->ys.Perm xs->(ys.Pairwise λx y=>PK.lt (n y) (n x)=false)->P (.done (.ret .none)) s'):
  ε (model X.prog X.w) A (ksk_rest a (-f) false vs.toArray C (-kS)) P (λ_ _=>False) s:=by
 subst b2;unfold ksk_rest;refine Ja (J4 ?_)
 rw[<- OX];refine Ja (ksk_fold (λi s=>EQ X pins σ H2 n xs a kS (seqObj "list" (B1 []) C) i s) vs 0 s h0 (λj u s' hj hI=>?_) λs' hI=>?_)
 .let#[H,w,e,I,U,N]:=hI
  let#[x,G,ru]:=QV rx hj;have hm:x∈xs:=Jy G
  refine Ja (Ic (JJ (T _ σ H s' x u I U hm ru) (λk m hk=>?_) λ_ _ z=>z.elim))
  let#[v,H',I',rv,a0,pv]:=hk;have D:=I'.pin (kS,seqObj "list" w.toArray e) (by simp)
  have W:=I'.pin (a,seqObj "list" (B1 []) C) (by simp)
  dsimp only
  have F:w.length=(xs.take (0+j)).length:=(J1 N).symm
  have c0:j<xs.length:=(Jw.mp G).1
  have b6:w.length=j:=by rw[F,JP];lia
  refine Ja (listUpdate_at D.1 Z ?_ (by rw[Js];lia) (by simp;lia))
  have I1:HH X (pins++[(a,seqObj "list" (B1 []) C)]) σ H' m:=I'.pins_of λp d=>I'.pin p (by
   rcases lN d with d|rfl
   .simp [d]
   .simp)
  have b1:∀p∈X.pn++(pins++[(a,seqObj "list" (B1 []) C)]),p.1≠kS:=λp d=>by
   rcases JD.mp d with d|d
   .exact ok.pin p (GB _ d)
   .rcases lN d with d|rfl
    .exact ok.pin p (JL _ d)
    .exact S
  let#[c2,a6]:∃c2,(m.heap.update kS (Obj.mapSeq (·.push k))).get? kS=↑(seqObj "list" (w++[k]).toArray c2):=by
   have q:=get?_update_seq D.1 (·.push k)
   rw[show(w.toArray.push k)=(w++[k]).toArray by simp]at q
   exact#[_,q]
  have kp:∀b o,b≠kS->m.heap.get? b=↑o->(m.heap.update kS (Obj.mapSeq (·.push k))).get? b=↑o:=λb o z q=>(GO m.heap _ (Ne.symm z)).trans q
  have I2:HH X (pins++[(a,seqObj "list" (B1 []) C)]) σ H' {m with heap:=m.heap.update kS (Obj.mapSeq (·.push k))}:=I1.turned (t':=m.toks) kp D.2.1 ok.loc (.inr ok.s0) ok.cell b1
  refine Je #[Z,H',w++[k],c2,I2.pins_of λp d=>?_,U.trans a0,?_]
  .have O:p∈pins++[(a,seqObj "list" (B1 []) C)]\/p=(kS,seqObj "list" (w++[k]).toArray c2):=by
    simp only[JD,Jp,JE,JF]at d⊢;rcases d with q|q|q
    .exact .inl (.inl q)
    .exact .inl (.inr q)
    .exact .inr q
   rcases O with O|rfl
   .exact I2.pin p (JL _ O)
   .exact#[a6,D.2.1,ok.loc,ok.fs,λv z=>nomatch z]
  .have e2:xs.take (0+j+1)=xs.take (0+j)++[x]:=by rw[K0,Ig,G];rfl
   rw[e2];exact Paired.snoc (Paired.mapP N λx k ⟨v,r,g⟩=>#[v,r,fo a0 g]) #[v,rv,pv]
 .let#[H,w,e,I,U,N]:=hI
  have B:vs.length=xs.length:=rx.length.symm
  rw[K0,B,J5]at N;have F:w.length=xs.length:=(J1 N).symm
  have D:=I.pin (kS,seqObj "list" w.toArray e) (by simp)
  have W:=I.pin (a,seqObj "list" (B1 []) C) (by simp)
  refine Ja (listItems_at D.1 Z ?_)
  have a1:∀{x:V} {k:Γ},(∃v,HJ v k/\Q3 H (n x) v)->Qb s'.heap (n x) k:=λ{x k} ⟨v,r,g⟩=>(QR I.hok _).1 g r
  let#[M,b5,b0,b3]:∃M:List (V×Keyed),M.map (·.1)=xs/\M.map (·.2)=w.zip vs/\∀p∈M,Qb s'.heap (n p.1) p.2.1/\HJ p.1 p.2.2:=by
   clear hc hH T h hz B F I D W;revert U;intro U;clear h0
   induction N generalizing vs with
   |nil=>cases rx;exact#[[],7,λ_ h=>nomatch h]
   | @cons x k xs w Y t ih=>
    cases rx with
    |cons r rt=>
     let#[M,h1,h2,h3]:=ih rt
     exact#[(x,(k,_))::M,by rw[JC,h1],by rw[JC,h2,K7],λp d=>by
      rcases Jp.mp d with rfl|d
      .exact#[a1 Y,r]
      .exact h3 p d]
  refine Fn (L:=xs.map n) (by lia) (by rw[F,B]) (λk hk=>let⟨x,G,e⟩:=Ju.mp hk;e▸hH x G) (λk hk k' b4=>let⟨x,G,e⟩:=Ju.mp hk;let⟨y,hy,e'⟩:=Ju.mp b4;e▸e'▸hc x G y hy) (λv hv=>?_) λps st d hw a4 hf=>?_
  .let#[i,hi,e]:=KN.mp hv
   let#[x,G,q]:=QV N (Ji hi)
   exact#[n x,On (Jy G),e▸a1 q]
  rw[<- b0]at d;let#[E,p1,e3]:=dz (·.2) ps M d
  have m1:∀p∈E,Qb s'.heap (n p.1) p.2.1/\HJ p.1 p.2.2:=λp d=>b3 p (p1.mem_iff.mp d)
  have a3:∀{l:List (V×Keyed)},(∀p∈l,Qb s'.heap (n p.1) p.2.1/\HJ p.1 p.2.2)->HL (l.map (·.1)) (l.map (·.2.2)):=by
   intro l
   induction l with
   |nil=>intro _;exact .nil
   |cons p l ih=>intro hl;exact .cons (hl p (JM ..)).2 (ih λq Y=>hl q (JS _ Y))
  have s1:=IR s'.heap kS (Obj.mapSeq λ_=>((B1 []):Array Γ))
  have Q:(s'.heap.update kS (Obj.mapSeq λ_=>((B1 []):Array Γ))).get? a=↑(seqObj "list" (B1 []) C):=(s1.2 a S).trans W.1
  have a2:(arrOf st).map (·.2)=(E.map (·.2.2)).toArray:=by
   rw[a4,<- e3];simp
  have J:(E.map (·.1)).Perm xs:=by have:=p1.map (·.1);rw[b5]at this;exact this
  have b7:E.length=xs.length:=by have:=J.length_eq;simpa using this
  unfold ksk_tail
  dsimp only
  rw[a2];refine Ja (listUpdate_at D.1 Z ?_ (by rw[Js];lia) (JH _))
  refine Ja (wpAny_letGo ?_)
  refine Ja (seqEpoch_at Q Z ?_)
  refine Ja (listUpdate_at Q Z ?_ (JH _) (by simp;lia))
  rw[hf];simp only[bne_self_eq_false,KI,JU];have R:∃c,((s'.heap.update kS (Obj.mapSeq λ_=>((B1 []):Array Γ))).update a (Obj.mapSeq λ_=>(E.map (·.2.2)).toArray)).get? a=↑(seqObj "list" (E.map (·.2.2)).toArray c):=#[_,get?_update_seq Q λ_=>(E.map (·.2.2)).toArray]
  let#[c,R]:=R;have I0:HH X pins σ H s':=I.pins_of λp d=>I.pin p (by simp [d])
  refine Je (h (E.map (·.1)) (HG H a (.lst (E.map (·.1)))) _ (HH.laid2 (t':=s'.toks) I0 oa ok W.2.1 D.2.1 #[_,W.1] (λb o z1 z2 q=>?_) ?_ ?_) (U.trans (HE.upd W.2.1)) qc J ?_)
  .exact(GO _ _ (Ne.symm z1)).trans ((s1.2 b z2).trans q)
  .exact#[by rw[Jf];lia,16,a3 m1,R]
  .let#[ck,a5]:∃ck,(s'.heap.update kS (Obj.mapSeq λ_=>((B1 []):Array Γ))).get? kS=↑(seqObj "list" (B1 []) ck):=#[_,get?_update_seq D.1 λ_=> (B1 [])]
   exact#[_,(GO _ _ S).trans a5]
  .rw[OP]
   rw[<- e3,OP]at hw;refine List.Pairwise.imp_of_mem (λ{p q} d Y z=>?_) hw
   rw[bY (m1 p d).1,bY (m1 q Y).1]at z;exact z
theorem tX{r:V->PK}{xs:Α}{v:Γ}{Q:VK}(I:L2.HH X pins σ H2 s)(hr:HS 1 X.A)(L:HL xs us)(C:xs.length<=ζ)
  (A:∀(M:Η->Θ->Prop),(∀h' tk,s.heap.objs.size<=h'.objs.size->(∀b o,s.heap.get? b=↑o->h'.get? b=↑o)->M us {s with heap:=h',toks:=tk})->ε (model X.prog X.w) X.A.in1 (collect v) M X.xe s)
  (T:Z9 X X.A.in1.in1 f r xs H2)(U:∀x∈xs,gC (r x))(hc:∀x∈xs,∀y∈xs,PK.cm (r x) (r y)=true)
  (h:∀(D:Δ) (ys:Α) (H':Hp),H2 D=none->HE H2 H'->H' D=↑(.lst ys)->ys.Perm xs->(ys.Pairwise λx y=>PK.lt (r y) (r x)=false)->Q (-D) H'):
  ε (model X.prog X.w) X.A (call (.builtin "sorted") [v] [(Str.ofString "key",-f)]) (EP X pins σ Q) X.xe s:=by
 have a:xs.length=us.length:=L.length
 refine call_function_entry_kw kind_sorted plain_sorted entry_sorted (ksk_s1 _ _) ?_
 unfold γ.«sorted»
 refine Ja (m:=checkCount "sorted" 1 1 _) (Je ?_)
 refine Ja (A _ λh1 g t O=>?_)
 refine Ja (wpAny_newList ?_ (by rw[<- a];exact C))
 have i:(h1.push (seqObj "list" us.toArray 0)).get? h1.objs.size=↑(seqObj "list" us.toArray 0):=Jr _ Z
 show ε _ _ _ _ _ {s with heap:=h1.push (seqObj "list" us.toArray 0),toks:=g}
 refine Ja (JO (wpAny_call_entry_kw slot_list_sort #[_,i,Z] entry_list_sort ?body (ksk_l1 _ _)))
 case body=>
  show ε (model X.prog X.w) X.A.in1.in1 (γ.«list.sort» #[[-h1.objs.size],[(Str.ofString "key",-f)]]) _ _ _
  rw[ksk_t1];unfold ksk_tree;let#[u,B]:∃u,((h1.push (seqObj "list" us.toArray 0)).update h1.objs.size (Obj.mapSeq λ_=>((B1 []):Array Γ))).get? h1.objs.size=↑(seqObj "list" (B1 []) u):=#[_,get?_update_seq i λ_=> (B1 [])]
  refine Ja (listItems_at i Z ?_)
  refine Ja (listUpdate_at i Z ?_ (by rw[Js,<- a];exact C) (JH _))
  refine Ja (seqEpoch_at B Z ?_)
  refine Ja (wpAny_newTuple ?_ (by show us.length<=_;rw[<- a];exact C))
  refine Ja (wpAny_newList ?_ (JH _))
  refine JO ?_
  let#[c,j]:∃c:Ψ,c=((h1.push (seqObj "list" us.toArray 0)).update h1.objs.size (Obj.mapSeq λ_=>((B1 []):Array Γ))).push (seqObj "tuple" us.toArray 0):=#[0]
  have H:c.get? h1.objs.size=↑(seqObj "list" (B1 []) u):=by rw[j];exact Jh _ B
  have R:∀b o,s.heap.get? b=↑o->c.get? b=↑o:=λb o e=>by
   have lt:=Jn (Jk e) t;rw[j];refine Jh _ ?_
   rw[GO _ _ (JT lt)];exact Jh _ (O b o e)
  have F:h1.objs.size<c.objs.size:=Jk H
  show ε (model X.prog X.w) X.A.in1.in1 (ksk_rest h1.objs.size (-f) false us.toArray u (.ref (((h1.push (seqObj "list" us.toArray 0)).update h1.objs.size (Obj.mapSeq λ_=>((B1 []):Array Γ))).push (seqObj "tuple" us.toArray 0)).objs.size)) _ _ {s with heap:=(((h1.push (seqObj "list" us.toArray 0)).update h1.objs.size (Obj.mapSeq λ_=>((B1 []):Array Γ))).push (seqObj "tuple" us.toArray 0)).push (seqObj "list" (B1 []) 0),toks:=g}
  rw[<- j];have J:L2.HH X pins σ H2 {s with heap:=c.push (seqObj "list" (B1 []) 0),toks:=g}:=I.kept λb o e=>Jh _ (R b o e)
  have n:Nx X pins h1.objs.size:=Nx.new I t
  have l:Nx X pins c.objs.size:=Nx.new I (Jg t (Jv F))
  have w:H2 h1.objs.size=none:=I.hok.fresh t
  have G:H2 c.objs.size=none:=I.hok.fresh (Jg t (Jv F))
  refine JJ (vO (s:={s with heap:=c.push (seqObj "list" (B1 []) 0),toks:=g}) (oA:=seqObj "list" (B1 []) u) (H2:=H2) (by rw[J6,J6];have:=hr.un;lia) Z n l (Jq F) L C T U hc #[H2,[],(0),J.pins_of λp E=>?_,HE.refl H2,.nil]
   (P:=λd s'=>∃v,d= .done (.ret v)/\ε (model X.prog X.w) X.A.in1 (ret (-h1.objs.size)) (λd s'=>∃v,d= .done (.ret v)/\EP X pins σ Q v s') X.xe s') λys H' s' W N S pm pw=>#[0,Je #[0,#[-h1.objs.size,H',W,Z,h _ ys H' w N S pm pw]]]) (λd s' q=>q) λ_ _ z=>z.elim
  simp only[JD,Jp,JE,JF]at E;rcases E with E|rfl|rfl
  .exact J.pin p (JL _ E)
  .exact#[Jh _ H,w,n.loc,n.fs,λv z=>nomatch z]
  .exact#[Jr _ Z,G,l.loc,l.fs,λv z=>nomatch z]
theorem vw{H:Hp}(I:L2.HH X pins σ H s)(hl:HK X.K H l xs):∃f,HL xs f/\xs.length<=ζ/\∀(A:Around) (E:Hu) (a:Η->Θ->Prop),(∀h' tk,s.heap.objs.size<=h'.objs.size->(∀b o,s.heap.get? b=↑o->h'.get? b=↑o)->a f {s with heap:=h',toks:=tk})->ε (model X.prog X.w) A (collect (-l)) a E s:=by
 let#[c,g,pl,h]:=I.list hl;have d:=g.length;let#[o,n,i,m,p,j]:=pl;refine#[c,g,h,λA E a q=>collect_list #[o,i,m,n,j] ?_ (by lia)]
 refine q _ s.toks (by rw[Ψ.size_update,size_push'];exact GN _) λb o e=>?_
 rw[GO _ _ (JT (Jk e))];exact Jh _ e
end
inductive PU (K:ι)(TT:Δ->(V->PK)->Α->Hp->Prop)(vs zs:Α)(H2:Hp)(Q:VK):Prop
 |mk (l:Δ)(xs:Α)(f:Δ)(kf:V->PK)(h1:vs=[-l])(h2:zs=[-f])(h3:HK K H2 l xs)(h4:TT f kf xs H2)(h5:∀x∈xs,gC (kf x))(h6:∀x∈xs,∀y∈xs,PK.cm (kf x) (kf y)=true)
  (h7:∀(D:Δ) (ys:Α) (H':Hp),H2 D=none->HE H2 H'->H' D=↑(.lst ys)->ys.Perm xs->(ys.Pairwise λx y=>PK.lt (kf y) (kf x)=false)->Q (-D) H')
noncomputable def Dc(K:ι)(TT:Δ->(V->PK)->Α->Hp->Prop)(t tk:TA):TE:=λσ H Q=>t σ H λd H1=>tk σ H1 λc a=>PU K TT d c a Q
theorem Ax{p pos kpos:Pos}{e:Φ}(TT:Δ->(V->PK)->Α->Hp->Prop)(v:∀f c xs d,TT f c xs d->Z9 X X.A.in1.in1 f c xs d)(hr:HS 1 X.A)(hg:Gl X "sorted")(hm:X.mg "sorted"=none)(ha:QA X [e] t)(hk:QE X m tk)
  (h1:θ [e] X.env=(false,eval e X.env)::θ [] X.env:=by rfl)(h2:(backTo pos (θ [e] X.env)).any (·.1)=false:=by rfl):
  QE X (.Call (.Name "sorted" p) [e] [#[↑"key",m,kpos]] pos) (Dc X.K TT t (cF tk jv)):=#[by
 intro pins s σ H Q I h;refine II (Zh I hg hm (show bootBuiltins "sorted"=↑(.builtin "sorted")from Z) ?_)
 refine callWith_builtin_kwB h2 Z (evalArgs_kw2 Z ?_ h1)
 refine qB (ha.h pos pins s σ H _ I h) λD B i=>?_
 let#[L,H1,w,r,q]:=i;refine qB ((jF (nm:=↑"key") (kpos:=kpos) hk.h vy) pos pins B σ H1 _ w q) λN O i=>?_
 let#[M,d,j,n,q2]:=i;let#[l,xs,f,c,A,G,C,x,F,z,q2]:=q2;subst A G;let#[u,rfl,E]:=Qv r;let#[J,rfl,g]:=Qv n
 cases(show u=Γ.ref l from E)
 cases(show J=Γ.ref f from g)
 let#[D,y,o,a]:=vw j C;exact tX j hr y o (a _ _) (v _ _ _ _ x) F z q2]
section
structure O4(h:Ψ)(d:Δ)(o:Obj)(es:Array DictEntry)(ep:Nat):Prop where
 at':h.get? d=↑o
 ex:o.ExactDict
 dat:o.data= .dict es ep
theorem tG{Q:Hu}(hm:O4 s.heap d o es ep)(hd:(d==sysModules)=false)
  (h:Q (-s.heap.objs.size) {s with heap:=s.heap.push {cls:= .type "dict_items",data:= .fields (B1 [-d])}}):ε (model prog w) A (call (.builtin "dict.items") [-d]) Q E s:=by
 have a:s.TypeIs (-d) "dict":=#[o,hm.at',hm.ex.1]
 refine J0 F.slot_dict_items a F.entry_dict_items ?_ (F.args_dict_items_1 _)
 unfold γ.«dict.items»
 refine Ja ?_
 unfold γ.Dict.noArgs;refine Ja (wpAny_notOrdered_dict a ?_)
 show ε _ _ (pure d) _ _ s
 refine Je ?_
 show ε _ _ (γ.Dict.showsAll d >>= _) _ _ s
 unfold γ.Dict.showsAll;rw[Jb (by rw[hd];exact JB)]
 exact Ja (Je (Ja (F0 (Je #[0,h]))))
theorem uj{Q:Hu}(hv:s.heap.IsItemsView v d)(hm:O4 s.heap d o es ep)
  (f:Q (-s.heap.objs.size) {s with heap:=s.heap.push {cls:= .type "dict_itemiterator",data:= .fields (B1 [.none,.bool false,-d,.int 0 0,.int es.size 0,.int ep 0,.none,.none])}}):ε (model prog w) A (pyIter (-v)) Q E s:=by
 let#[h,e,g,c]:=id hv;refine wpAny_pyIter_slot hv.typeIs F.slot_dict_items_iter (J0 F.slot_dict_items_iter hv.typeIs F.entry_dict_items_iter ?_ (F.args_dict_items_iter_1 _))
 unfold γ.«dict_items.__iter__»
 refine Ja (Je (Ja ?_))
 unfold γ.Dict_items.dictOf;refine Ja (JK e c (x:= .ref d) Z (Je (Ja ?_)))
 unfold γ.Dict_items.newIterator;refine Ja (wpAny_dictEntries hm.at' hm.dat (Ja (wpAny_dictEpoch hm.at' hm.dat ?_)))
 have a:γ.Dict_items.ownsTuple "dict_itemiterator"=true:=by decide
 simp only[a,JW];refine F0 (Je #[0,"dict_itemiterator",_,#[_,Jr _ Z,Z],F.slot_dict_itemiterator_next.lookup,?_])
  (by simp only[sizeOk,γ.Dict_items.ownedTupleFields,Js,Jz,J2,LH,Jt];lia)
 simpa [rawInt,γ.Dict_items.ownedTupleFields]using f
theorem tI{ok:Γ}{Q:Ο->Θ->Prop}(j:IsItemIter s.heap it d i n ep ok W)(hm:O4 s.heap d o es ep)(hn:es.size=n)(hi:i<es.size)
  (hQ:∀h',IsItemIterOut h' it d (i+1) n ep es[i].key es[i].val s.heap.objs.size->h'.get? s.heap.objs.size=some {cls:= .type "tuple",data:= .seq (B1 [es[i].key,es[i].val])}->h'.objs.size=s.heap.objs.size+1->
   (∀b u,b≠it->s.heap.get? b=↑u->h'.get? b=↑u)->Q ↑(-s.heap.objs.size) {s with heap:=h'}):ε (model prog w) A (pyNext (-it)) Q E s:=by
 let#[G,g,dr,tk,os]:=s;let#[Y,a2,R]:=hm;have l:∀{h:Ψ} {i:Nat} {a b:Γ},IsItemIter h it d i n ep a b->Θ.TypeIs #[h,g,dr,tk,os] (-it) "dict_itemiterator":=λx=>#[_,x,Z]
 unfold pyNext;refine Ja (Ic (wpAny_callSpecial?_slot (name:=Str.ofString "__next__") (l j) F.slot_dict_itemiterator_next
  (J0 F.slot_dict_itemiterator_next (l j) F.entry_dict_itemiterator_next ?_ (F.args_dict_itemiterator_next_1 _))))
 refine Ja (Je (Ja (Ja ?_)))
 refine Ja (wpAny_typeNameOfWhole_itemiter (l j) (Je (Ja (wpAny_fieldsOf j Z ?_))))
 have T:γ.Dict_items.ownsTuple "dict_itemiterator"=true:=by decide
 simp only[T,JW]
 show ε _ _ (if(Γ.ref d==Γ.none)=true then _ else _) _ _ _
 rw[Jb (show¬((Γ.ref d==Γ.none)=true)from JB)]
 refine Ja (Je (Ja (wpAny_dictEntries Y R ?_)))
 rw[Jb (by rw[hn];simp)]
 refine Ja (Je (Ja (wpAny_dictEpoch Y R ?_)))
 rw[Jb (by simp)]
 refine Je ?_
 simp only[show¬((i:Int)<0)from by lia,JU,GD,Array.getElem?_eq_getElem hi]
 refine Ja (Ja (wpAny_typeNameOfWhole_itemiter (l j) (Je (Ja (wpAny_isOneOf_itemiter (l j) ?_)))))
 show ε _ _ (setField (-it) 3 (rawInt ((i:Int)+1)) >>= _) _ _ #[G,g,dr,tk,os]
 refine Ja (Ie j (by simp) λf P M=>?_)
 have I:Ψ.SameBut it G f:=M
 have B:IsItemIter f it d (i+1) n ep ok W:=by
  have e:((i+1:Nat):Int)=(i:Int)+1:=by lia
  unfold IsItemIter;rw[e];simpa [rawInt]using P
 refine Ja (JO (Ja (wpAny_isOneOf_itemiter (l B) (Ja (wpAny_isOneOf_itemiter (l B) ?_)))))
 show ε _ _ (γ.Dict_items.pairFromOwner (-it) 6 es[i].key es[i].val) _ _ #[f,g,dr,tk,os]
 unfold γ.Dict_items.pairFromOwner;refine Ja (wpAny_newTuple ?_)
 have D:f.objs.size=G.objs.size:=I.1
 let#[c,U]:∃c,c=f.push {cls:= .type "tuple",data:= .seq (B1 [es[i].key,es[i].val])}:=#[0]
 have p:IsItemIter c it d (i+1) n ep ok W:=by rw[U];exact Jh _ B
 have X:c.get? G.objs.size=some {cls:= .type "tuple",data:= .seq (B1 [es[i].key,es[i].val])}:=by rw[U,<- D];exact Jr _ Z
 have a1:c.objs.size=G.objs.size+1:=by rw[U,J9,D]
 have S:∀b u,b≠it->G.get? b=↑u->c.get? b=↑u:=λb u H e=>by rw[U];exact Jh _ (I.extBut b u H e)
 have a0:it<G.objs.size:=Jk j
 show ε _ _ (γ.Dict_items.ownedTupleIsFree (-it) >>= _) _ _ #[f.push {cls:= .type "tuple",data:= .seq (B1 [es[i].key,es[i].val])},g,dr,tk,os]
 rw[D,<- U];refine Ja ?_
 unfold γ.Dict_items.ownedTupleIsFree;refine Ja (JK p Z (x:= .none) Z (Je ?_))
 simp only[JW];refine Ja (JK p Z (x:=ok) Z (Ja (JK p Z (x:=W) Z ?_)))
 refine Ja (Ie p (by simp) λC L q=>Ja (Ie (show IsItemIter C it d (i+1) n ep es[i].key W from L) (by simp) λt J z=>?_))
 refine Ja (Ie (show IsItemIter t it d (i+1) n ep es[i].key es[i].val from J) (by simp) λy N r=>?_)
 refine Ja (Ie (show IsItemIterOut y it d (i+1) n ep es[i].key es[i].val G.objs.size from N) (by simp) λm O v=>?_)
 have st:∀b u,b≠it->c.get? b=↑u->m.get? b=↑u:=λb u H e=>Ψ.SameBut.extBut v b u H (Ψ.SameBut.extBut r b u H (Ψ.SameBut.extBut z b u H (Ψ.SameBut.extBut q b u H e)))
 refine Ja (wpAny_letGo (Je (Je #[0,Je (hQ m O (st _ _ (JT a0) X) ?_ λb u H e=>st b u H (S b u H e))])))
 show m.objs.size=G.objs.size+1
 have a3:C.objs.size=c.objs.size:=q.1
 have a4:t.objs.size=C.objs.size:=z.1
 have a5:y.objs.size=t.objs.size:=r.1
 have a6:m.objs.size=y.objs.size:=v.1
 lia
theorem sH{ok:Γ}{Q:Ο->Θ->Prop}(p:A.handled=none)(c:IsItemIter s.heap it d i n ep ok j)(hm:O4 s.heap d o es ep)(hn:es.size=n)(hi:es.size<=i)
  (l:∀h',Ψ.ExtBut it s.heap h'->Q none {s with heap:=h'}):ε (model prog w) A (pyNext (-it)) Q E s:=by
 let#[e,q,f]:=hm;have h:s.TypeIs (-it) "dict_itemiterator":=#[_,c,Z]
 unfold pyNext;refine Ja (Ic (wpAny_callSpecial?_slot (name:=Str.ofString "__next__") h F.slot_dict_itemiterator_next
  (J0 F.slot_dict_itemiterator_next h F.entry_dict_itemiterator_next ?_ (F.args_dict_itemiterator_next_1 _))))
 refine Ja (Je (Ja (Ja ?_)))
 refine Ja (wpAny_typeNameOfWhole_itemiter h (Je (Ja (wpAny_fieldsOf c Z ?_))))
 have g:γ.Dict_items.ownsTuple "dict_itemiterator"=true:=by decide
 simp only[g,JW]
 show ε _ _ (if(Γ.ref d==Γ.none)=true then _ else _) _ _ s
 rw[Jb (show¬((Γ.ref d==Γ.none)=true)from JB)]
 refine Ja (Je (Ja (wpAny_dictEntries e f ?_)))
 rw[Jb (by rw[hn];simp)]
 refine Ja (Je (Ja (wpAny_dictEpoch e f ?_)))
 rw[Jb (by simp)]
 refine Je ?_
 simp only[show¬((i:Int)<0)from by lia,JU,GD,Array.getElem?_eq_none hi]
 refine Ja (Ja (wpAny_typeNameOfWhole_itemiter h (Je ?_)))
 show ε _ _ (setField (-it) 2 .none >>= _) _ _ s
 refine Ja (Ld c Z (by simp) ?_)
 show ε _ _ (newExc (.type "StopIteration") [] >>= _) _ _ _
 refine Ja ?_
 simp only[newExc,newTuple];refine Ja (F0 ?_ (by size_fits))
 refine Ja (m:=firstArgMember _ _) (GR (a:=Γ.none) (by first|rfl|(simp only[firstArgMember];rfl)) ?_)
 refine F0 ?_ (by size_fits)
 simp only[raiseNew];refine Ja (wpAny_handled ?_)
 rw[show A.in1.handled=none from p]
 refine Ja (Je (wpAny_throw ?_))
 refine Ja (IS (T:="StopIteration") (b:=true) #[_,Jr _ Z,Z] LF ?_)
 exact Je (l _ (((IR ..).extBut.push _).push _))
theorem c8:entryFor table "dict_itemiterator.__iter__"=some γ.«dict_keyiterator.__iter__»:=entryFor_alias (id':="dict_keyiterator.__iter__") (by kernel_rfl) Z nofun (by kernel_rfl)
theorem ud{ok:Γ}{Q:Hu}(c:IsItemIter s.heap it d i n ep ok e)(h:Q (-it) s):ε (model prog w) A (pyIter (-it)) Q E s:=by
 have a:s.TypeIs (-it) "dict_itemiterator":=#[_,c,Z]
 refine wpAny_pyIter_slot a F.slot_dict_itemiterator_iter (J0 F.slot_dict_itemiterator_iter a c8 ?_ (F.args_dict_itemiterator_iter_1 _))
 show ε _ _ (ret (-it)) _ _ s
 exact Je #[0,"dict_itemiterator",_,a,F.slot_dict_itemiterator_next.lookup,h]
end
inductive PV (x y:V)(H:Hp)(Q:VK):Prop
 |mk (k1 k2:PK)(h1:PK.cm k1 k2=true)(h2:k1.dp<=4)(h3:Q3 H k1 x)(h4:Q3 H k2 y)(h5:Q (.bl (PK.lt k1 k2)) H)
theorem BJ{X:Cx}{k:Nat}(hr:HS k X.A):zj X (compareOp .Lt) PV:=by
 intro pins s σ H x y v u Q I e c h;let#[a,d,i,j,g,f,q]:=h;have i1:=(QR I.hok a).1 g e;have i2:=(QR I.hok d).1 f c;exact lD a.sz (Jd _) i (by have:=hr.un;lia) i1 i2 ⟨.bl _,H,I,Z,q⟩
noncomputable def Fu(P:Ξ)(w:Ω)(td ty:TE):TE:=λσ H Q=>td σ H λx H1=>ty σ H1 λy c=>∃a b kvs k v,x= .ref a/\y= .ref b/\MX P w c a kvs/\Q3 c k.1 (-b)/\aU kvs k=↑v/\Q v c
theorem CW{X:Cx}{k:Nat}(hr:HS k X.A)(ho:QE X o td)(hi:QE X i ty)(hs:sI i:=by exactλ_ _=>rfl):QE X (.Subscript o i pos) (Fu X.prog X.w td ty):=#[by
 intro pins s σ H Q I h;refine sr PySem.F.slot_dict_getitem.lookup hs (qB (ho.h pins s σ H _ I h) λu D ⟨x,H1,A,C,q1⟩=>qB (hi.h pins D σ H1 _ A q1) λE G t=>?_)
 let#[y,m,c,l,a,b,kvs,f,v,ex,B,g,w,n,q2]:=t;subst ex B
 cases(show u=Γ.ref a from C)
 cases(show E=Γ.ref b from l)
 let#[z,J,xs,d,j]:=lA c g;have r:=d.val f;rw[n]at r;let#[L,F,e]:=MN.some_of r;let#[p,q,rfl]:=Ij.mp F
 exact#[j.typeIs,wpAny_getItem_heap (knd:=iZ X.prog X.w) (k:=f) (show X.A.in1.units+4<cLine by rw[J6];have:=hr.un;lia) ((QR c.hok f.1).1 w Z) j q #[v,m,c.tok _,e,q2]]]
noncomputable def DZ(P:Ξ)(w:Ω)(tk tv:TE):TE:=λσ H Q=>∀d,H d=none->eF [(tk,tv)] σ (HG H d (zw P w d [])) λps a=>∃(k:K8) (b:Δ) (v:V),ps=[(-b,v)]/\Q3 a k.1 (-b)/\a d=↑(zw P w d [])/\Q (-d) (HG a d (zw P w d [(k,b,v)]))
theorem yT{X:Cx}(hr:HS n X.A)(hk:QE X e tk)(hv:QE X v tv):QE X (.Dict [↑e] [v] pos) (DZ X.prog X.w tk tv):=#[by
 intro pins s σ H Q I q;have W:=I.hok.fresh (Jd s.heap.objs.size);have N:=I.laid (a:=s.heap.objs.size) (o:=zw X.prog X.w s.heap.objs.size []) (h':=s.heap.push {cls:= .type "dict",data:= .dict (B1 [])}) (t':=s.toks) (λ_ _ q=>Jh _ q) (Jd _) (lR s.heap I.big)
 refine wpAny_Dict_any Z Z (by intro z;cases z) (by show 1<=15;decide) ?_
 refine qB ((lK (pos:=pos) hk.h hv.h pG) pins _ σ _ _ N (q _ W)) λP s2 J=>?_
 let#[ps,B,c,f,k,b,v,e,L,w,q2]:=J
 .subst e
  let#[#[D,vu],rfl,F,rv]:∃p:Γ×Γ,P=[p]/\HJ (-b) p.1/\HJ v p.2:=by
   cases f with
   |cons h t=>cases t;exact#[0,h.1,h.2]
  cases(show D=Γ.ref b from F)
  have g:MX X.prog X.w B s.heap.objs.size []:=#[w,λp G=>nomatch G]
  let#[z,l,xs,rl,S]:=lA c g;cases rl;unfold storeAll;rw[NK];refine Ja (Ja (wpAny_dictSet_heap (knd:=iZ X.prog X.w) (k:=k) (show X.A.units+4<cLine by have:=hr.un;lia) ((QR c.hok k.1).1 L Z) S (λh' r hs=>?_) (by show 0<=_;exact JH _)))
  refine Je ?_
  show ε _ _ (forIn [] PUnit.unit _) _ _ _
  rw[OE];refine Je #[-s.heap.objs.size,_,?_,Z,q2]
  let#[j,es,R,d,u,h3,C,_,M]:=r;refine bS c (by rw[w];exact True.intro) hs #[j,d] #[#[by show 1<=ζ;decide,l,_,j,es,R,?_,d,u,h3,C,M],#[j,d],?_]
  .exact .cons #[7,rv] .nil
  .rintro h1 u ⟨x,O,ys,o',m,i,A,U,y,T,E,Y⟩ st
   exact#[x,O,ys,o',m,i,A,st _ U,y,T,E,Y]]
theorem zT{c d:Type}{F:c->d->Prop}:∀{l₁:List c} {l₂:List d} {i:Nat} {a:c},Paired F l₁ l₂->l₁[i]? =↑a->∃b,l₂[i]? =↑b/\F a b
 |_,_,_,_,.nil,e=>by cases e
 |_,_,0,_,.cons h _,e=>by cases e;exact#[0,h]
 |_,_,i+1,_,.cons _ t,e=>zT (i:=i) t e
noncomputable def bW(d v:Δ):HO:= .ext λh=>h.IsItemsView v d
noncomputable def Ev(P:Ξ)(w:Ω)(td:TE):TE:=λσ H Q=>td σ H λx H1=>∃d o kvs,x= .ref d/\H1 d=↑(.frz o (zw P w d kvs))/\∀v,H1 v=none->Q (-v) (HG H1 v (bW d v))
theorem nN{apos cpos:Pos}(ho:QE X o td)(f:attributeBase o "items" X.env (eval o X.env)=eval o X.env:=by rfl)(c:(apos.endLine==cpos.line)=true:=by rfl):
  QE X (.Call (.Attribute o "items" apos) [] [] cpos) (Ev X.prog X.w td):=#[by
 intro pins s σ H Q I h;refine wpAny_Call_method0_late f c (qB (ho.h pins s σ H _ I h) λv i t=>?_)
 let#[x,H1,l,u,d,o',kvs,ex,g,q1]:=t;subst ex
 cases(show v=Γ.ref d from u)
 let#[_,#[z,w,xs,m,es,G,r,h1,j,B,D,E],_]:=(show HN X.prog X.w H1 i.heap d (.frz o' (zw X.prog X.w d kvs))from l.hok d _ g)
 refine#["dict","dict.items",F.plainAttrs_dict,F.slot_dict_items,F.type_dict_items,#[m,h1,j.1],λa e=>by injection e with e;subst e;exact#[m,h1,j.2.1],LS Z (PySem.evalArgs_none (tG #[h1,j,B] w ?_))]
 have A:=l.hok.fresh (Jd i.heap.objs.size);refine#[-i.heap.objs.size,_,l.laid (a:=i.heap.objs.size) (o:=bW d i.heap.objs.size) (t':=i.toks) (λ_ _ q=>Jh _ q) (Jd _) #[?_,#[_,Jr _ Z],?_],Z,q1 _ A]
 .exact#[_,Jr _ Z,7]
 .rintro C J ⟨o',p,y,n⟩ st
  exact#[o',st _ p,y,n]]
noncomputable def rN(P:Ξ)(w:Ω)(d:Δ)(o:Obj)(kvs:List (K8×Δ×V)):It:=
 #[λi H=>H d=↑(.frz o (zw P w d kvs))/\i<kvs.length,λi H x H'=>∃p a,H p=none/\x= .ref p/\kvs[i]? =↑a/\H'=HG H p (.tup [-a.2.1,a.2.2]),λi H=>H d=↑(.frz o (zw P w d kvs))/\kvs.length<=i]
theorem uh{K:ι}{x1}(d it:Δ){o:Obj}(n:KP kvs xs)(hx:o.ExactDict)(hd:o.data= .dict es ep)(he:es.toList=xs.map (entryOfKey (iZ P w)))(a0:d≠it):
  Na P w K (.Tuple p x1 pos) (rN P w d o kvs) [it] it (λi h=>∃ok F,IsItemIter h it d i es.size ep ok F) where
 mem:=by simp
 obj:=λi h st b f=>by
  have e:b=it:=by simpa using f
  subst e;let#[_,_,e]:=st
  exact#[_,e,λv z=>nomatch z]
 keep:=λi h h' st k=>by
  let#[a,b,e]:=st
  exact#[a,b,k it (by simp) _ e]
 item:=by
  intro X L G J S i pins s σ H E I A st C;subst L G J;let#[l,hi]:=C;have m:=(I.hok d _ l).1;let#[ok,F,c]:=st;have T:es.size=xs.length:=by rw[<- JV,he,Jf]
  have z2:kvs.length=xs.length:=J1 n
  have B:i<es.size:=by lia
  have t:kvs[i]? =some kvs[i]:=Ji hi
  let#[q,Y,R]:=zT n t;have y:es[i]=entryOfKey (iZ X.prog X.w) q:=by
   have N:es.toList[i]? =some es[i]:=by simp
   rw[he,Jo,Y]at N
   exact(Jx N).symm
  let#[D,f1,f2,M,Q,O]:=A it (by simp)
  refine tI c #[m,hx,hd] Z B λh' W ht U hk=>#[0,?_]
  have x:it<s.heap.objs.size:=Jk c
  refine wpAny_letOwnedTupleGo_items W λa1 g j=>?_
  exists .ref s.heap.objs.size,HG H s.heap.objs.size (.tup [.ref kvs[i].2.1,kvs[i].2.2]),?_,Z,#[16,I.hok.fresh (Jd _),Z,t,Z],#[16,g]
  .refine fG (s:=s) (its:=[-q.2.1,q.2.2]) I (ch:=[it]) (t':=s.toks) (λb u f e=>?_) A (λb f=>?_) (Jd _) (by show 2<=ζ;decide) (.cons ?_ (.cons R.2.2 .nil)) ?_
   .have r:b≠it:=λz=>f (by simp [z])
    exact(j.2 b r).trans (hk b u r e)
   .have e:b=it:=by simpa using f
    subst e
    exact#[_,g]
   .show Γ.ref q.2.1=Γ.ref kvs[i].2.1
    rw[R.2.1]
   .exists _,(j.2 _ (JT x)).trans ht,Z,(0)
    show Data.seq (B1 [es[i].key,es[i].val]) 0=_
    rw[y];rfl
  .intro b f
   have e:b=it:=by simpa using f
   subst e;rw[qh (Jq x)];exact D
 done:=by
  intro X L G J S i pins s σ H E I A st C;subst L G J;let#[l,hi]:=C;have m:=(I.hok d _ l).1;let#[ok,F,c]:=st;have T:es.size=xs.length:=by rw[<- JV,he,Jf]
  have z2:kvs.length=xs.length:=J1 n
  let#[D,f1,f2,M,Q,O]:=A it (by simp)
  exact sH (I.ok.hd S) c #[m,hx,hd] Z (by lia) λh' eb=>#[Z,I.turned (t':=s.toks) (λb o f e=>eb b o f e) D f1 M Q O]
 self:=λ_ _ _ _ _ st h=>by
  let#[a,b,e]:=st;exact ud e h
noncomputable def Dp(P:Ξ)(w:Ω)(te:TE):TI:=λσ H R=>te σ H λx H1=>∃v d o kvs,x= .ref v/\H1 v=↑(bW d v)/\H1 d=↑(.frz o (zw P w d kvs))/\R (rN P w d o kvs) H1
theorem n6{x1}(hl:QE X l te):QI X (.Tuple c x1 g) l (Dp X.prog X.w te):=#[by
 intro pins s σ H R I h;refine qB (hl.h pins s σ H _ I h) λt a y=>?_
 let#[x,H1,f,A,v,d,o,kvs,e,w,B,q]:=y;subst e
 cases(show t=Γ.ref v from A)
 have i:a.heap.IsItemsView v d:=(show HN X.prog X.w H1 a.heap v (bW d v)from f.hok v _ w).1
 let#[h1,#[z,lo,xs,o',es,E,j,n,p,r,u,D],_]:=(show HN X.prog X.w H1 a.heap d (.frz o (zw X.prog X.w d kvs))from f.hok d _ B)
 obtain rfl:o'=o:=Jx (n.symm.trans h1)
 refine uj i #[h1,p,r] ?_
 have m:d<a.heap.objs.size:=Jk h1
 refine#[a.heap.objs.size,[a.heap.objs.size],20,f.kept (t':=a.toks) λb o e=>Jh _ e,uh d _ j p r u (Jq m),#[16,Jr _ Z],λb C=>?_,q]
 have e:b=a.heap.objs.size:=by simpa using C
 subst e;exact f.fpOk (Jd _) (f.hok.fresh (Jd _))]
noncomputable def F2(P:Ξ)(w:Ω)(te:TE):TE:=λσ H Q=>te σ H λv H'=>∃d kvs,v= .ref d/\H' d=↑(zw P w d kvs)/\∀o,Q v (HG H' d (.frz o (zw P w d kvs)))
theorem wn(he:QE X e te):QE X e (F2 X.prog X.w te):=#[by
 intro pins s σ H Q I h;refine qB (he.h pins s σ H _ I h) λv a i=>?_
 let#[x,H1,c,g,d,kvs,ex,f,q]:=i;subst ex;have ok:=(show HN X.prog X.w H1 a.heap d (zw X.prog X.w d kvs)from c.hok d _ f)
 let#[o,h1]:=ok.2.1
 exact#[-d,_,c.write (x:=d) (e:=d) (o:= .frz o (zw X.prog X.w d kvs)) (h':=a.heap) (t':=a.toks) (by rw[f];exact True.intro) (.inl Z) (λb u _ e=>e) #[o,h1] #[h1,ok],g,q o]]
section
theorem vH{g:TG}{tb:TS}{D:MF}{σ:L2.St}{H:Hp}(Pv:Nat->L2.St->Hp->Prop)(n:Pv 0 σ H)(hl:∀i σ H,i<=kvs.length->Pv i σ H->H d=↑(.frz o (zw P w d kvs)))
  (hs:∀i f σ H p,kvs[i]? =↑f->Pv i σ H->H p=none->g (-p) σ (HG H p (.tup [-f.2.1,f.2.2])) λa j=>tb {D with nx:=Pv (i+1),ct:=Pv (i+1),bk:=D.nx} a j)(hd:∀σ H,Pv kvs.length σ H->D.nx σ H):
  ∃W:Nat->Nat->L2.St->Hp->Prop,(∃m,W 0 m σ H)/\∀i m σ H,W i m σ H->
   ((rN P w d o kvs).stop i H/\D.nx σ H)\/((rN P w d o kvs).go i H/\∃N:L2.St->Hp->Prop,(∀c H',N c H'->∃l,l<m/\W (i+1) l c H')/\∀x H',(rN P w d o kvs).yld i H x H'->g x σ H' λa j=>tb {D with nx:=N,ct:=N,bk:=D.nx} a j):=by
 exists λi m σ H=>m=kvs.length-i/\i<=kvs.length/\Pv i σ H,#[kvs.length,by simp,JH _,n]
 rintro i m σ H ⟨rfl,hi,p⟩
 have q:=hl i σ H hi p
 by_cases h:i<kvs.length
 .refine .inr #[#[q,h],Pv (i+1),λc H' r=>#[kvs.length-(i+1),by lia,Z,h,r],λx H' y=>?_]
  let#[u,f,t,rfl,s,rfl]:=y;exact hs i f σ H u s p t
 .have e:i=kvs.length:=by lia
  subst e;exact .inl #[#[q,Jd _],hd σ H p]
def FR(X:Cx)(pins:HD)(σ:L2.St)(H2:Hp)(a:V->PK)(xs:Α)(l S I:Δ)(j i:Nat)(s:Θ):Prop:=
 ∃(H:Hp) (u d:Γ) (x e:V) (c:Nat) (f:Obj),L2.HH X (pins++[(S,seqObj "list" (B1 [u,d]) c),(I,f)]) σ H s/\HE H2 H/\s.heap.IsListIter I l j/\xs[i]? =↑x/\HJ x u/\HJ e d/\Q3 H (a x) e/\
  ∀(m:Nat) (y:V),m<j->xs[m]? =↑y->PK.lt (a y) (a x)=false
theorem lS{a b p:Δ×Obj}(h:p∈pins++[a,b]):p∈pins\/p=a\/p=b:=by simpa [JD]using h
theorem HH.own2{b:Δ}{h':Ψ}{t':Nat}(l:L2.HH X pins σ H s)(j:Nx X pins a)(ob:Nx X pins b)(x:H a=none)(nb:H b=none)(k:∀c o,c≠a->c≠b->s.heap.get? c=↑o->h'.get? c=↑o):L2.HH X pins σ H {s with heap:=h',toks:=t'}:=by
 have i:∀c u,H c=↑u->c≠a/\c≠b:=λc u e=>#[qr e x,qr e nb]
 have g:∀{c:Δ},c∉[a,b]->c≠a/\c≠b:=λ{c} h=>#[λz=>h (by simp [z]),λz=>h (by simp [z])]
 refine l.step (g':=s.gens) (d':=s.drawn) (ch:=[a,b]) (λc f=>?_) (λc o _ _ f e _=>k c o (g f).1 (g f).2 e) (λc o _ _ f e _=>#[o.slots,k c o (g f).1 (g f).2 e]) (λ_ _ _ _ n=>n)
  (λc o f e=>#[o,k c o (g f).1 (g f).2 e]) (λ_ _ e=>e) (λ_ _ _ e=>e) (λc ps e=>#[(B1 []),by rw[e];simp]) (λm w=>?_) (λc u e=>?_) l.bare
 .have p:c=a\/c=b:=by simpa using f
  rcases p with rfl|rfl
  .exact#[.inr j.s0,j.loc,j.cell,j.pin]
  .exact#[.inr ob.s0,ob.loc,ob.cell,ob.pin]
 .let#[o,es,t,y,r]:=w
  exact#[o,es,t,k _ o (Ne.symm j.loc) (Ne.symm ob.loc) y,r]
 .refine(l.hok c u e).stay (λd v f q=>?_) (λ_ q=>q) λ_ _ q=>q
  rcases f with rfl|f
  .exact k _ _ (i _ u e).1 (i _ u e).2 q
  .exact k _ _ (i _ _ f).1 (i _ _ f).2 q
theorem HH.pinned2{a b:Δ}{l i d e:Obj}{h':Ψ}{t':Nat}(I:L2.HH X (pins++[(a,l),(b,i)]) σ H s)(g:Nx X pins a)(ob:Nx X pins b)(m:a≠b)(k:∀c o,c≠a->c≠b->s.heap.get? c=↑o->h'.get? c=↑o)
  (q:h'.get? a=↑d)(r:h'.get? b=↑e)(n1:∀v,d.data≠ .cell v)(n2:∀v,e.data≠ .cell v):L2.HH X (pins++[(a,d),(b,e)]) σ H {s with heap:=h',toks:=t'}:=by
 have j:=I.pin (a,l) (by simp)
 have pb:=I.pin (b,i) (by simp)
 have n:L2.HH X pins σ H s:=I.pins_of λp f=>I.pin p (by simp [f])
 have h:L2.HH X pins σ H {s with heap:=h',toks:=t'}:=HH.own2 n g ob j.2.1 pb.2.1 k
 refine h.pins_of λp f=>?_
 rcases lS f with f|rfl|rfl
 .exact h.pin p (JL _ f)
 .exact#[q,j.2.1,g.loc,g.fs,n1]
 .exact#[r,pb.2.1,ob.loc,ob.fs,n2]
theorem BZ(h1:PK.lt y x=true)(h2:PK.lt z x=false):PK.lt z y=false:=by
 cases h:PK.lt z y with
 |false=>rfl
 |true=>rw[PK.lt_trans h h1]at h2;cases h2
theorem y4{l:Δ}{B:V->PK}{xs:Α}{kw:List (Str×Γ)}{R:Result->Θ->Prop}(hr:HS 1 X.A)(oS:Nx X pins S)(oI:Nx X pins I)(n:S≠I)(a1:l≠I)(b3:∀H,HE H2 H->HK X.K H l xs)
  (T:Z9 X X.A.in1 f B xs H2)(hH:∀x∈xs,(B x).dp<=4)(hc:∀x∈xs,∀y∈xs,PK.cm (B x) (B y)=true)
  (hR:∀(x:V) (u:Γ) (H':Hp) (s':Θ),L2.HH X pins σ H' s'->HE H2 H'->x∈xs->HJ x u->(∀y∈xs,PK.lt (B y) (B x)=false)->R (.ok (.ret u)) s'):
  ∀(r j i:Nat) (s:Θ),xs.length-j=r->j<=xs.length->FR X pins σ H2 B xs l S I j i s->codeAny (model X.prog X.w) X.A (.builtin "min.loop" #[[-I,-f,-S],kw]) R s:=by
 have h:(toString "min"++toString ".loop":String)="min.loop":=by decide
 intro r
 induction r with
 |zero=>
  rintro j i s b6 hj ⟨H,u,E,x,vb,c,o0,C,J,L,hx,hu,a0,gk,hb⟩
  have b7:j=xs.length:=by lia
  have pS:=C.pin (S,seqObj "list" (B1 [u,E]) c) (by simp)
  have pI:=C.pin (I,o0) (by simp)
  let#[g,rv,pl,hz]:=C.list (b3 H J)
  have U:g.length=xs.length:=rv.length.symm
  have W:=Walks.list (prog:=X.prog) (w:=X.w) (A:=X.A.in1) hr.hd I l a1 g.toArray
  refine Iu PySem.F.entry_min_loop ?_
  rw[Around.under_plainId PySem.F.plain_min_loop _]
  show ε _ X.A.in1 (seqItems? (-S) >>= _) _ _ _
  refine Ja (GQ pS.1 Z ?_)
  show ε _ X.A.in1 (tryCatch (pyNext (-I)) _ >>= _) _ _ _
  refine Ja (wpAny_tryCatch (W.done _ _ _ #[by rw[Js,U,<- b7];exact L,pl.isList] λh' Y q=>?_))
  have eS:h'.get? S=↑(seqObj "list" (B1 [u,E]) c):=q S _ (by simpa using n) pS.1
  show ε _ X.A.in1 (updateSeq S (λ_=> (B1 [])) >>= _) _ _ _
  refine Ja ?_
  refine wpAny_updateSeq eS Z (Ja (wpAny_letGo (Je ?_)))
  have Q:x∈xs:=Jy hx
  let#[c2,a2]:∃c2,(h'.update S (Obj.mapSeq λ_=> (B1 []))).get? S=↑(seqObj "list" (B1 []) c2):=#[_,get?_update_seq eS λ_=> (B1 [])]
  have Iw:L2.HH X pins σ H {s with heap:=h'.update S (Obj.mapSeq λ_=> (B1 [])),toks:=Y}:=by
   have I0:L2.HH X pins σ H s:=C.pins_of λp hp=>C.pin p (by simp [hp])
   exact HH.own2 I0 oS oI pS.2.1 pI.2.1 λc o z1 z2 e=>(GO _ _ (Ne.symm z1)).trans (q c o (by simpa using z2) e)
  exact hR x u H _ Iw J Q hu λy G=>by
   let#[m,hm,e]:=KN.mp G;exact hb m y (by lia) (by rw[<- e];exact Ji hm)
 |succ r ih=>
  rintro j i s b6 hj ⟨H,u,E,x,vb,c,o0,C,J,L,hx,hu,a0,gk,hb⟩
  have t:j<xs.length:=by lia
  have pS:=C.pin (S,seqObj "list" (B1 [u,E]) c) (by simp)
  have pI:=C.pin (I,o0) (by simp)
  let#[g,rv,pl,hz]:=C.list (b3 H J)
  have U:g.length=xs.length:=rv.length.symm
  have W:=Walks.list (prog:=X.prog) (w:=X.w) (A:=X.A.in1) hr.hd I l a1 g.toArray
  refine Iu PySem.F.entry_min_loop ?_
  rw[Around.under_plainId PySem.F.plain_min_loop _]
  show ε _ X.A.in1 (seqItems? (-S) >>= _) _ _ _
  refine Ja (GQ pS.1 Z ?_)
  show ε _ X.A.in1 (tryCatch (pyNext (-I)) _ >>= _) _ _ _
  refine Ja (wpAny_tryCatch (W.item j _ _ _ (by rw[Js,U];exact t) #[L,pl.isList] λv h' Y hP b1 q=>?_))
  have hv:g[j]? =↑v:=by simpa using hP
  let#[a,a5,a6,P]:=id b1.1;have nI:∀w,a.data≠ .cell w:=λw z=>by rw[P]at z;cases z
  have eS:h'.get? S=↑(seqObj "list" (B1 [u,E]) c):=q S _ (by simpa using n) pS.1
  have I1:L2.HH X (pins++[(S,seqObj "list" (B1 [u,E]) c),(I,a)]) σ H {s with heap:=h',toks:=Y}:=
   HH.pinned2 C oS oI n (λd o z1 z2 e=>q d o (by simpa using z2) e) eS a5 (λw z=>nomatch z) nI
  have D:xs[j]? =some xs[j]:=Ji t
  have N:xs[j]∈xs:=Gz t
  have Q:x∈xs:=Jy hx
  let#[v2,b4,ry]:=rv.get D;rw[hv]at b4;cases b4
  show ε _ X.A.in1 (tryCatch (holding [v] (call (-f) [v])) _ >>= _) _ _ _
  refine Ja (wpAny_tryCatch (JO (JJ (T _ σ H _ xs[j] v I1 J N ry) (λM O he=>?_) λ_ _ hF=>hF.elim)))
  let#[vk,H2',I2,rk,F,b0]:=he;have a3:=I2.pin (S,seqObj "list" (B1 [u,E]) c) (by simp)
  have a4:=I2.pin (I,a) (by simp)
  have i1:=(QR I2.hok _).1 b0 rk;have i2:=(QR I2.hok _).1 (fo F gk) a0;have b5:X.A.in1.units+(B xs[j]).dp<cLine:=by rw[J6];have:=hr.un;have:=hH _ N;lia
  show ε _ X.A.in1 (tryCatch (holding [v,M] (richCompare .Lt M E >>= _)) _ >>= _) _ _ _
  refine Ja (wpAny_tryCatch (JO (Ja (lD _ (Jd _) (hc _ N _ Q) b5 i1 i2 ?_))))
  refine Ja (JO (GM ?_))
  refine Ja (wpAny_letGo (Je ?_))
  cases hb':PK.lt (B xs[j]) (B x)with
  |true=>
   let#[c2,a2]:∃c2,(O.heap.update S (Obj.mapSeq λ_=> (B1 [v,M]))).get? S=↑(seqObj "list" (B1 [v,M]) c2):=#[_,get?_update_seq a3.1 λ_=> (B1 [v,M])]
   simp only[JW];refine Ja ?_
   refine wpAny_updateSeq a3.1 Z (Ja (wpAny_letGo ?_))
   rw[h];have b2:(O.heap.update S (Obj.mapSeq λ_=> (B1 [v,M]))).get? I=↑a:=(GO _ _ n).trans a4.1
   refine Je #[plainId_quiet PySem.F.plain_min_loop _,ih (j+1) j _ (by lia) t #[H2',v,M,xs[j],vk,c2,a,?_,J.trans F,#[a,b2,a6,P],D,ry,rk,b0,λm y hm G=>?_]]
   .exact HH.pinned2 (t':=O.toks) I2 oS oI n (λd o z1 z2 e=>(GO _ _ (Ne.symm z1)).trans e) a2 b2 (λw z=>nomatch z) nI
   .by_cases e:m=j
    .subst e
     rw[D]at G;cases G
     exact PK.lt_irr _
    .exact BZ hb' (hb m y (by lia) G)
  |false=>
   simp only[KI,JU];refine Ja (wpAny_letGo ?_)
   rw[h];refine Je #[plainId_quiet PySem.F.plain_min_loop _,ih (j+1) i _ (by lia) t #[H2',u,E,x,vb,c,a,I2,J.trans F,#[a,a4.1,a6,P],hx,hu,a0,fo F gk,λm y hm G=>?_]]
   by_cases e:m=j
   .subst e
    rw[D]at G;cases G
    exact hb'
   .exact hb m y (by lia) G
theorem Ai{K:ι}(e:HE H H')(h:HK K H a xs):HK K H' a xs:=by
 rcases h with(h|⟨o,h⟩)|h
 .exact .inl (.inl (e _ _ h))
 .exact .inl (.inr #[o,e _ _ h])
 .exact .inr h
theorem oT(a v d:Γ):argsOk "min" #[[a],[(Str.ofString "key",v),(Str.ofString "default",d)]]:=by unfold argsOk;kernel_rfl
theorem Ca{J:V->PK}{xs:Α}{Q:VK}(N:L2.HH X pins σ H2 s)(hr:HS 1 X.A)(hl:HK X.K H2 l xs)(T:Z9 X X.A.in1 f J xs H2)(hH:∀x∈xs,(J x).dp<=4)(hc:∀x∈xs,∀y∈xs,PK.cm (J x) (J y)=true)
  (rd:HJ dw M)(h0:xs=[]->Q dw H2)(h1:∀(x:V) (H':Hp),HE H2 H'->x∈xs->(∀y∈xs,PK.lt (J y) (J x)=false)->Q x H'):
  ε (model X.prog X.w) X.A (call (.builtin "min") [-l] [(Str.ofString "key",-f),(Str.ofString "default",M)]) (EP X pins σ Q) X.xe s:=by
 have n:(toString "min"++toString ".loop":String)="min.loop":=by decide
 let#[j,rv,pl,hz]:=N.list hl;have a6:j.length=xs.length:=rv.length.symm
 have O:=pl.isList;have b1:l<s.heap.objs.size:=by let#[o,e,_]:=id O;exact Jk e
 refine kmk_tree PySem.F.kind_min PySem.F.plain_min PySem.F.entry_min (oT _ _ _) ?_
 show ε _ X.A.in1 (γ.Builtins.bindParams "min" ["key","default"] 0 #[[],[(Str.ofString "key",-f),(Str.ofString "default",M)]] >>= _) _ _ s
 refine Ja (GR (show γ.Builtins.bindParams "min" ["key","default"] 0 #[[],[(Str.ofString "key",-f),(Str.ofString "default",M)]]=pure [↑(-f),↑M]from Z) ?_)
 refine Ja (Je ?_)
 refine Ja (IF O ?_)
 refine Ja (wpAny_newList ?_ (JH _))
 rw[n];let#[a,U]:∃a:Obj,a={cls:= .type "list_iterator",data:= .fields (B1 [-l,.int 0 0])}:=#[0]
 have b0:(s.heap.push a).get? s.heap.objs.size=↑a:=Jr _ (by rw[U];rfl)
 rw[<- U];have B:(s.heap.push a).objs.size=s.heap.objs.size+1:=size_push' ..
 have i:Nx X pins s.heap.objs.size:=Nx.new N (Jd _)
 have h:Nx X pins (s.heap.push a).objs.size:=Nx.new N (by rw[B];exact GN _)
 have q:(s.heap.push a).objs.size≠s.heap.objs.size:=by rw[B];exact Nat.succ_ne_self _
 have P:l≠s.heap.objs.size:=Jq b1
 have E:H2 s.heap.objs.size=none:=N.hok.fresh (Jd _)
 have G:H2 (s.heap.push a).objs.size=none:=N.hok.fresh (by rw[B];exact GN _)
 refine Je #[plainId_quiet PySem.F.plain_min_loop _,?_]
 show codeAny (model X.prog X.w) X.A (.builtin "min.loop" #[[-s.heap.objs.size,-f,.ref (s.heap.push a).objs.size],[(Str.ofString "default",M)]]) _ {s with heap:=(s.heap.push a).push (seqObj "list" (B1 []) 0)}
 have I1:L2.HH X pins σ H2 {s with heap:=(s.heap.push a).push (seqObj "list" (B1 []) 0)}:=N.kept λb o e=>Jh _ (Jh _ e)
 have S:((s.heap.push a).push (seqObj "list" (B1 []) 0)).get? (s.heap.push a).objs.size=↑(seqObj "list" (B1 []) 0):=Jr _ Z
 have b6:((s.heap.push a).push (seqObj "list" (B1 []) 0)).get? s.heap.objs.size=↑a:=Jh _ b0
 have R:((s.heap.push a).push (seqObj "list" (B1 []) 0)).IsListIter s.heap.objs.size l 0:=#[a,b6,by rw[U],by rw[U];rfl]
 have a3:PlainL ((s.heap.push a).push (seqObj "list" (B1 []) 0)) l j.toArray:=pl.keeps λb o e=>Jh _ (Jh _ e)
 have W:=Walks.list (prog:=X.prog) (w:=X.w) (A:=X.A.in1) hr.hd s.heap.objs.size l P j.toArray
 have nI:∀w,a.data≠ .cell w:=λw z=>by rw[U]at z;cases z
 refine Iu PySem.F.entry_min_loop ?_
 rw[Around.under_plainId PySem.F.plain_min_loop _]
 show ε _ X.A.in1 (seqItems? (.ref (s.heap.push a).objs.size) >>= _) _ _ _
 refine Ja (GQ S Z ?_)
 show ε _ X.A.in1 (tryCatch (pyNext (-s.heap.objs.size)) _ >>= _) _ _ _
 by_cases D:xs.length=0
 .have ez:0=j.toArray.size:=by rw[Js,a6,D]
  refine Ja (wpAny_tryCatch (W.done _ _ _ #[ez▸R,a3.isList] λh' I r=>?_))
  refine Ja (J4 (Je ?_))
  exact#[dw,H2,HH.own2 I1 h i G E λc o z1 z2 e=>r c o (by simpa using z2) e,rd,h0 (OJ D)]
 .have t:0<xs.length:=KU D
  refine Ja (wpAny_tryCatch (W.item 0 _ _ _ (by rw[Js,a6];exact t) #[R,a3.isList] λv h' I hP a1 r=>?_))
  have hv:j[0]? =↑v:=by simpa using hP
  let#[g,a0,b4,a4]:=id a1.1;have Y:∀w,g.data≠ .cell w:=λw z=>by rw[a4]at z;cases z
  have eS:h'.get? (s.heap.push a).objs.size=↑(seqObj "list" (B1 []) 0):=r _ _ (by simpa using q) S
  have I2:L2.HH X (pins++[((s.heap.push a).objs.size,seqObj "list" (B1 []) 0),(s.heap.objs.size,g)]) σ H2 {s with heap:=h',toks:=I}:=by
   have I1':=HH.own2 (t':=I) I1 h i G E λc o z1 z2 e=>r c o (by simpa using z2) e
   refine I1'.pins_of λp hp=>?_
   rcases lS hp with hp|rfl|rfl
   .exact I1'.pin p (JL _ hp)
   .exact#[eS,G,h.loc,h.fs,λw z=>nomatch z]
   .exact#[a0,E,i.loc,i.fs,Y]
  have C:xs[0]? =some xs[0]:=Ji t
  have b5:xs[0]∈xs:=Gz t
  let#[v2,a5,ry]:=rv.get C;rw[hv]at a5;cases a5
  show ε _ X.A.in1 (tryCatch (holding [v] (call (-f) [v])) _ >>= _) _ _ _
  refine Ja (wpAny_tryCatch (JO (JJ (T _ σ H2 _ xs[0] v I2 (HE.refl _) b5 ry) (λL F he=>?_) λ_ _ hF=>hF.elim)))
  let#[vk,H3,I3,rk,sm,gk]:=he;have pS:=I3.pin ((s.heap.push a).objs.size,seqObj "list" (B1 []) 0) (by simp)
  have pI:=I3.pin (s.heap.objs.size,g) (by simp)
  let#[c2,b2]:∃c2,(F.heap.update (s.heap.push a).objs.size (Obj.mapSeq λ_=> (B1 [v,L]))).get? (s.heap.push a).objs.size=↑(seqObj "list" (B1 [v,L]) c2):=#[_,get?_update_seq pS.1 λ_=> (B1 [v,L])]
  have a2:(F.heap.update (s.heap.push a).objs.size (Obj.mapSeq λ_=> (B1 [v,L]))).get? s.heap.objs.size=↑g:=(GO _ _ q).trans pI.1
  show ε _ X.A.in1 (updateSeq (s.heap.push a).objs.size (λ_=> (B1 [v,L])) >>= _) _ _ _
  refine Ja ?_
  refine wpAny_updateSeq pS.1 Z ?_
  rw[n];refine Je #[plainId_quiet PySem.F.plain_min_loop _,y4 (σ:=σ) (pins:=pins) hr h i q P (λH e=>Ai e hl) T hH hc (λx u H' s' I' b3 hx ru hb=>#[x,H',I',ru,h1 x H' b3 hx hb]) _ 1 0 _ Z t
   #[H3,v,L,xs[0],vk,c2,g,HH.pinned2 (t':=F.toks) I3 h i q (λd o z1 z2 e=>(GO _ _ (Ne.symm z1)).trans e) b2 a2 (λw z=>nomatch z) Y,sm,#[g,a2,b4,a4],C,ry,rk,gk,λm y hm hy=>?_]]
  have e:m=0:=by lia
  subst e;rw[C]at hy;cases hy
  exact PK.lt_irr _
end
inductive P5 (K:ι)(TT:Δ->(V->PK)->Α->Hp->Prop)(vs zs:Α)(H2:Hp)(Q:VK):Prop
 |mk (l:Δ)(xs:Α)(f:Δ)(kf:V->PK)(dw:V)(e1:vs=[-l])(e2:zs=[-f,dw])(e3:HK K H2 l xs)(e4:TT f kf xs H2)(e5:∀x∈xs,(kf x).dp<=4)(e6:∀x∈xs,∀y∈xs,PK.cm (kf x) (kf y)=true)(e7:xs=[]->Q dw H2)
  (e8:∀(x:V) (H':Hp),HE H2 H'->x∈xs->(∀y∈xs,PK.lt (kf y) (kf x)=false)->Q x H')
noncomputable def Fj(K:ι)(TT:Δ->(V->PK)->Α->Hp->Prop)(t tk:TA):TE:=λσ H Q=>t σ H λd H1=>tk σ H1 λc a=>P5 K TT d c a Q
theorem yw{p pos kpos a:Pos}{e:Φ}(TT:Δ->(V->PK)->Α->Hp->Prop)(w:∀f c xs d,TT f c xs d->Z9 X X.A.in1 f c xs d)(hr:HS 1 X.A)(hg:Gl X "min")(hm:X.mg "min"=none)(ha:QA X [e] t)(hk:QE X m tk)(hd:QE X n td)
  (h1:θ [e] X.env=(false,eval e X.env)::θ [] X.env:=by rfl)(h2:(backTo pos (θ [e] X.env)).any (·.1)=false:=by rfl):
  QE X (.Call (.Name "min" p) [e] [#[↑"key",m,kpos],#[↑"default",n,a]] pos) (Fj X.K TT t (cF tk (cF td jv))):=#[by
 intro pins s σ H Q I h;refine II (Zh I hg hm (show bootBuiltins "min"=↑(.builtin "min")from Z) ?_)
 refine callWith_builtin_kwB h2 Z (evalArgs_kw2 Z ?_ h1)
 refine qB (ha.h pos pins s σ H _ I h) λO B j=>?_
 let#[J,H1,x,r,q]:=j;refine qB ((jF (nm:=↑"key") (kpos:=kpos) hk.h (jF (nm:=↑"default") (kpos:=a) hd.h vy)) pos pins B σ H1 _ x q) λM N j=>?_
 let#[L,d,o,v,q2]:=j;let#[l,xs,f,c,P,A,F,C,y,D,z,q2,q3]:=q2;subst A F;let#[u,rfl,E]:=Qv r;let#[G,R,rfl,i,g]:=cL v
 cases(show u=Γ.ref l from E)
 cases(show G=Γ.ref f from i)
 exact Ca o hr C (w _ _ _ _ y) D z g q2 q3]
noncomputable def ze:Ε->PK
 | []=> .nil
 |n::ns=> .cons (.int n) (ze ns)
noncomputable def Zt(ns:Ε):PK:= .cons (.int ns.length) (.cons (ze ns) .nil)
theorem re:∀ns:Ε,(ze ns).dp<=1
 | []=>Jd _
 |n::ns=>by
  have:=re ns
  show NS ((PK.int n).dp+1) (ze ns).dp<=1
  exact NZ.mpr #[Jd _,this]
theorem px(ns:Ε):(Zt ns).dp<=2:=by
 have:=re ns
 show NS 1 (NS ((ze ns).dp+1) 1)<=2
 exact NZ.mpr #[by lia,NZ.mpr #[by lia,by lia]]
theorem Cw(ns:Ε):gC (Zt ns):=#[#[5],Jg (px ns) ⋯]
theorem oh:∀{a b:Ε},ze a=ze b->a=b
 | [],[],_=>rfl
 | [],_::_,h=>by cases h
 |_::_,[],h=>by cases h
 |x::a,y::b,h=>by
  injection h with h1 h2
  injection h1 with h1
  rw[h1,oh h2]
theorem yX{b:Ε}(h:Zt a=Zt b):a=b:=by
 injection h with _ h
 injection h with h _
 exact oh h
theorem pX:∀a b:Ε,PK.cm (ze a) (ze b)=true
 | [],[]=>rfl
 | [],_::_=>rfl
 |_::_,[]=>rfl
 |x::a,y::b=>by
  show(if PK.int x=PK.int y then PK.cm (ze a) (ze b)else PK.cm (.int x) (.int y))=true
  split
  .exact pX a b
  .rfl
theorem jI(a b:Ε):PK.cm (Zt a) (Zt b)=true:=by
 show(if PK.int a.length=PK.int b.length then(if ze a=ze b then PK.cm .nil .nil else PK.cm (ze a) (ze b))else PK.cm (.int _) (.int _))=true
 split
 .split
  .rfl
  .exact pX a b
 .rfl
theorem nR{H:Hp}:∀(ns:Ε),gM H (ze ns) (ns.map V.int)
 | []=>rfl
 |n::ns=>#[.int n,ns.map V.int,7,nR ns]
theorem xy{H:Hp}{ns:Ε}(h:H p=↑(.tup (ns.map V.int))):Q3 H (ze ns) (-p):=by
 cases ns with
 |nil=>exact#[p,Z,h]
 |cons n ns=>exact#[p,0,h,.int n,ns.map V.int,7,nR ns]
theorem fX{H:Hp}{ns:Ε}(h:H p=↑(.tup (ns.map V.int)))(a:H q=↑(.tup [.int ns.length,-p])):Q3 H (Zt ns) (-q):=
 #[q,0,a,.int ns.length,[-p],7,-p,[],Z,xy h,Z]
theorem Nc.at'{K:ι}{c:Around}(e:Nc P w K mg base A a s H)(h:c.frames=A.frames):Nc P w K mg base c a s H:=
 #[h.trans e.frames,e.mod,e.bs,e.bsz,e.funs,e.frf,e.hok,e.bare]
theorem Aj{X:Cx}{c:V->PK}{xs:Α}{y:Str}{k:Nat}(D:Df X.prog X.w X.K X.mg X.base nm [y] k sp)(hm:X.mg nm=↑(-f))(hr:HS k A)(j:A.frames=X.A.frames)
  (hs:∀x∈xs,∀H,HE H2 H->sp [x] H (λv H'=>HE H H'/\Q3 H' (c x) v) E0):Z9 X A f c xs H2:=by
 intro pins σ H s x u I h d g;let#[i,fd,ok,m,n,bd]:=D.ex
 obtain rfl:i=f:=by rw[hm]at m;injection m with m;injection m with m;exact m.symm
 have l:HL [x] [u]:= .cons g .nil
 have b:=bd s [u] I.kIn Z;rw[GC]at b;refine wpAny_call (IH (ok.run A X.stack s H #[[u],[]] [u] [x] _ E0 hr (Nc.at' I.env0 j) b l (hs x d H h)) λr s' a=>?_)
 cases r with
 |error e=>exact(show False from a).elim
 |ok fl=>
  cases fl with
  |ret u=>exact I.after a
  |next=>exact False.elim a
  |brk=>exact False.elim a
  |cont=>exact False.elim a
theorem v4{X:Cx}{j:V->PK}{xs:Α}{H2:Hp}{k:Nat}{y:Str}(hf:H2 f=↑(Oa gV params body scope pm c f))(hc:H2 c=↑(Ou gV c))(S:HF N [y] scope)
  (hr:HS (k+1) A)(n:A.frames=X.A.frames)(hb:∀(g:Γ) (s:Θ) (u:Γ),BindsTo s (W.kla_fn "<lambda>" gV params body scope [] pm (-c) g) #[[u],[]] [(y,u)])
  (d:∀(s:Θ) (H:Hp),HS k (A.deeper (PyProof.Rows.envOfC gV scope s.heap.objs.size f (-c)))->QE (ZE ZS X.prog X.w X.K X.mg X.base N gV scope f (-c) A X.stack s H E0) body t)
  (a:∀x∈xs,∀H,HE H2 H->t (ME N [x]) H (λv H'=>HE H H'/\Q3 H' (j x) v)):Z9 X A f j xs H2:=by
 intro pins σ H s x u I i l m;have o:HL [x] [u]:= .cons m .nil
 refine wpAny_call (IH (BP (args:=#[[u],[]]) (us:=[u]) (vs:=[x]) (CX:=ZS) (E:=E0) hr (Nc.at' I.env0 n) (i _ _ hf) (i _ _ hc) S (λg=>hb g s u) Z o (λh=>(d s H h).h) (a x l H i)) λr s' a=>?_)
 cases r with
 |error e=>exact(show False from a).elim
 |ok fl=>
  cases fl with
  |ret u=>exact I.after a
  |next=>exact False.elim a
  |brk=>exact False.elim a
  |cont=>exact False.elim a
section
variable{K:ι}
theorem oN(hn:kvs.length<=ζ)(Pv:Nat->Α->Hp->Prop)(s:Pv 0 [] H)(hl:∀i ys H,Pv i ys H->H d=↑(.frz o (zw P w d kvs)))
  (hs:∀i ys H p a,kvs[i]? =↑a->Pv i ys H->H p=none->tc (↑(-a.2.1)::↑a.2.2::zV js σ) (HG H p (.tup [-a.2.1,a.2.2])) λc f=>if c=true then te (↑(-a.2.1)::↑a.2.2::zV js σ) f (λv r=>Pv (i+1) (ys++[v]) r)else Pv (i+1) ys f)
  (hd:∀ys H,Pv kvs.length ys H->∀p,H p=none->Q (-p) (HG H p (.lst ys))):lT 2 js (mT K 2 (fB (QB 0) (fB (QB 1) sT))) tc te σ Q (rN P w d o kvs) H:=by
 exists λi m ys j H=>m=kvs.length-i/\i<=kvs.length/\ys.length<=i/\Pv i ys H/\∃o o',j=o::o'::zV js σ,#[kvs.length,by simp,JH _,Jd _,s,none,none,Z]
 rintro i m ys j H ⟨rfl,hi,t,p,o,o',rfl⟩
 have q:=hl i ys H p
 by_cases g:i<kvs.length
 .refine .inr #[#[q,g],by lia,λv H' y=>?_]
  let#[l,a,u,rfl,n,rfl]:=y;exists l,0,HP.of qc,8
  exact#[λv f=>Pv (i+1) (ys++[v]) f,λf=>Pv (i+1) ys f,λv f h=>#[kvs.length-(i+1),by lia,Z,g,by simp;lia,h,5],λf h=>#[kvs.length-(i+1),by lia,Z,g,by lia,h,5],hs i ys _ l a n p u]
 .have e:i=kvs.length:=by lia
  subst e;exact .inl #[#[q,Jd _],hd ys H p]
end
theorem Mm.to{H H':Hp}{a:Δ}(hs:∀a xs,H a=↑(.tup xs)->H' a=↑(.tup xs))(h:Mm H a e):Mm H' a e:=by
 let#[z,f,d]:=h;exists z,hs _ _ f
 cases hw:e.wt with
 |none=>rw[hw]at d;exact d
 |some y=>let#[p,c]:=y;rw[hw]at d;let#[b,e,g]:=d;exact#[b,e,hs _ _ g]
noncomputable def QP(D:Dr)(age c:Int)(e:Kb):Bool:=decide ((zW D e age c).1="near")
end L3
namespace GS
theorem find_at{c:Type}{p:c->Bool}:∀{l:List c} {i:Nat} {g:c},l[i]? =↑g->p g=true->(∀j h,j<i->l[j]? =↑h->p h=false)->l.find? p=↑g
 | [],_,_,h,_,_=>by cases h
 |a::l,0,g,h,hp,_=>by
  injection h with h
  subst h;rw[GA,hp]
 |a::l,i+1,g,h,hp,hb=>by
  have e:=hb 0 a (by lia) Z
  rw[GA,e];exact find_at (l:=l) (i:=i) h hp λj x f d=>hb (j+1) x (by lia) d
theorem find_no{c:Type}{p:c->Bool}{l:List c}(h:∀j x,j<l.length->l[j]? =↑x->p x=false):l.find? p=none:=by
 rw[Oo];intro x d;let#[j,a,rfl]:=KN.mp d;rw[h j _ a (Ji a)];exact JB
end GS
namespace L3
open PySem PySem.Spec PyProof.Rows L2 PySem.SeqAt
noncomputable def aB(D:Dr)(ps:Ν)(i:Nat)(kn:Kw):Kw:=match ps[i]? with
 |some P=>(qX {D with kn:=kn} P).2
 |none=>kn
noncomputable def tU:Α->Str
 | .str w::_=>w
 |_=>""
noncomputable def Bb(D:Dr)(ps:Ν)(k:Nat)(kn:Kw):Bool:=match ps[k]? with
 |some P=>decide (tU (qX {D with kn:=kn} P).1="open")
 |none=>false
noncomputable def ZN(ps:Ν)(nm:Str)(i:Nat):Bool:=match ps[i]? with
 |some P=>decide (P.nm=nm)
 |none=>false
noncomputable def aD(ps:Ν)(k:Nat):Str:=match ps[k]? with
 |some P=>P.nm
 |none=>""
theorem tD(D:Dr)(P:Ps):∃w r,(qX D P).1= .str w::r:=by
 unfold qX q8;split
 .exact#[5]
 .split
  .split
   .exact#[5]
   .split
    .exact#[5]
    .exact#[5]
  .exact#[5]
theorem gw{kn:Kw}{e:Kb}(h:kn.lookup nm=↑e):(qP kn nm x).lookup nm=↑x:=by
 have c:nm∈kn.map (·.1):=HQ.mp (by rw[h];rfl)
 unfold qP;rw[Jc c];clear h
 induction kn with
 |nil=>cases c
 |cons a kn ih=>
  let#[n,y]:=a;rw[JC]
  by_cases e:n=nm
  .subst e
   simp only[JW];unfold KW;rw[GG]
  .rw[Jb e]
   have d:(nm==n)=false:=ID.mpr λz=>e z.symm
   unfold KW;rw[d];refine ih ?_
   rcases Jp.mp c with z|z
   .exact absurd z.symm e
   .exact z
theorem Nj:decide (("held":Str)="open")=false:=by decide
theorem Pg:decide (("open":Str)="open")=true:=by decide
theorem hU{D:Dr}{kn:Kw}{P:Ps}{e:Kb}(h:kn.lookup P.nm=↑e)(hs:(D.kn.lookup P.nm).isSome=true):
  (qX {D with kn:=kn} P).2.lookup P.nm=↑(match qY D P with|some x=>(zW D e x.2.1 x.2.2).2|none=>e)/\
  decide (tU (qX {D with kn:=kn} P).1="open")=(match qY D P with|some x=>decide ((zW D e x.2.1 x.2.2).1="near")|none=>false):=by
 have j:zn {D with kn:=kn} e P.age=zn D e P.age:=Z
 have i:qY D P=(Zz D P).bind λx=>↑(P.nm,P.age,x.1):=by
  unfold qY;congr 1
  funext x
  rw[Jc hs]
 rw[i];have a:qX {D with kn:=kn} P=if zn D e P.age=true then(match Qj D.t (zN D P.age) P.nm P.ds with
   |none=>([.str "held",.str "false"],kn)
   |some (c,d)=>if(zh D.near D.far e P.age c).1="near" then([.str "open",.str P.nm,.int d],qP kn P.nm (zh D.near D.far e P.age c).2)else([.str "held",.str (zh D.near D.far e P.age c).1],qP kn P.nm (zh D.near D.far e P.age c).2))
  else([.str "held",.str "age"],kn):=by
  unfold qX q8;rw[show({D with kn:=kn}:Dr).kn.lookup P.nm=↑e from h]
  rfl
 unfold Zz;cases ht:zn D e P.age with
 |false=>
  rw[ht,Jb ⋯]at a
  rw[a];cases f:zX D P.age with
  |false=>
   rw[Jb ⋯]
   exact#[h,Nj]
  |true=>
   rw[Jc Z];cases hr:Qj D.t (zN D P.age) P.nm P.ds with
   |none=>exact#[h,Nj]
   |some x=>
    have es:zW D e P.age x.1=(("age":Str),e):=by unfold zW;rw[ht,Jb ⋯]
    show KW P.nm kn=some (zW D e P.age x.1).2/\_=decide ((zW D e P.age x.1).1="near")
    rw[es]
    exact#[h,Nj.trans (by decide:decide (("age":Str)="near")=false).symm]
 |true=>
  have f:zX D P.age=true:=by
   unfold zn at ht;rw[GF]at ht;exact ht.1
  rw[ht,Jc Z]at a;rw[f,Jc Z];cases hr:Qj D.t (zN D P.age) P.nm P.ds with
  |none=>
   rw[hr]at a;rw[a]
   exact#[h,Nj]
  |some x=>
   let#[c,d]:=x;rw[hr]at a;have es:zW D e P.age c=zh D.near D.far e P.age c:=by unfold zW;rw[ht,Jc Z]
   show _=some (zW D e P.age c).2/\_=decide ((zW D e P.age c).1="near")
   rw[es]
   by_cases g:(zh D.near D.far e P.age c).1="near"
   .have a:_=_:=a.trans (Jc g)
    rw[a,g]
    exact#[gw h,Pg.trans (by decide:decide (("near":Str)="near")=true).symm]
   .have a:_=_:=a.trans (Jb g)
    rw[a,Jl g]
    exact#[gw h,Nj]
theorem cR{c:Type}{p q:c->Bool}:∀{l:List c},(∀x∈l,p x=q x)->l.find? p=l.find? q
 | [],_=>rfl
 |a::l,h=>by
  rw[GA,GA,h a (by simp),cR (l:=l) λx d=>h x (JS _ d)]
theorem pB(D:Dr)(ps:Ν)(h:Ζ):(GS.st (aB D ps) D.kn h).map (·.1)=D.kn.map (·.1):=by
 induction h using GS.snocInd with
 |nil=>rfl
 |snoc h i ih=>
  rw[GS.st_snoc];unfold aB;split
  .exact(wC ..).trans ih
  .exact ih
section
theorem DR(h:ZN ps nm i=true):∃R,ps[i]? =↑R/\R.nm=nm:=by
 unfold ZN at h;split at h
 .rename_i R e;exact#[R,e,JA h]
 .cases h
theorem ik{x:Str×Int×Int}(h:qY D R=↑x):x.1=R.nm/\x.2.1=R.age:=by
 unfold qY at h;cases hr:Zz D R with
 |none=>rw[hr]at h;cases h
 |some y=>
  rw[hr]at h
  change (if(D.kn.lookup R.nm).isSome then ↑(R.nm,R.age,y.1)else none)=↑x at h
  split at h
  .cases h;exact#[7]
  .cases h
end
theorem mz(D:Dr)(s:Sc):(zg D s).nm=s.nm:=by
 unfold zg;split<;>rfl
end L3
set_option linter.unusedSectionVars false
namespace GL
open L3
noncomputable def toZ(a:Ζ):Ε:=a.map λn:Nat=>(n:Int)
noncomputable def ltN(a b:Ζ):Bool:=PK.lt (Zt (toZ a)) (Zt (toZ b))
theorem p8:∀{a b:Ζ},toZ a=toZ b->a=b
 | [],[],_=>rfl
 | [],_::_,h=>by cases h
 |_::_,[],h=>by cases h
 |x::a,y::b,h=>by
  unfold toZ at h;rw[JC,JC]at h;injection h with h1 h2
  rw[show x=y by lia,p8 (show toZ a=toZ b from h2)]
theorem toZ_len(a:Ζ):(toZ a).length=a.length:=Jf ..
theorem ltN_irr(a:Ζ):ltN a a=false:=PK.lt_irr _
theorem ltN_trans{b:Ζ}(h1:ltN a b=true)(h2:ltN b c=true):ltN a c=true:=PK.lt_trans h1 h2
theorem jn{b:Ζ}(h1:ltN a b=false)(h2:ltN b a=false):a=b:=p8 (yX (PK.lt_tri (jI _ _) h1 h2))
theorem jC(a b:Ε):PK.lt (Zt a) (Zt b)=if(a.length:Int)=b.length then PK.lt (ze a) (ze b)else decide ((a.length:Int)<b.length):=by
 show(if PK.int a.length=PK.int b.length then(if ze a=ze b then PK.lt .nil .nil else PK.lt (ze a) (ze b))else decide _)=_
 by_cases h:(a.length:Int)=b.length
 .rw[Jc h,Jc (by rw[h])]
  by_cases e:ze a=ze b
  .rw[Jc e,e,PK.lt_irr (ze b)];rfl
  .rw[Jb e]
 .rw[Jb h,Jb (by intro z;injection z with z;exact h z)]
theorem ltN_len{a b:Ζ}(h:a.length<b.length):ltN a b=true:=by
 unfold ltN;rw[jC,Jb (by rw[toZ_len,toZ_len];lia)]
 exact Jj (by rw[toZ_len,toZ_len];lia)
theorem eu(x y:Int)(a b:Ε):PK.lt (ze (x::a)) (ze (y::b))=if x=y then PK.lt (ze a) (ze b)else decide (x<y):=by
 show(if PK.int x=PK.int y then PK.lt (ze a) (ze b)else decide (x<y))=_
 by_cases h:x=y
 .rw[Jc h,Jc (by rw[h])]
 .rw[Jb h,Jb (by intro z;injection z with z;exact h z)]
theorem jV:∀{a b:Ε} (n:Int),a.length=b.length->PK.lt (ze a) (ze b)=true->PK.lt (ze (a++[n])) (ze (b++[n]))=true
 | [],[],_,_,h=>by cases h
 | [],_::_,_,h,_=>by cases h
 |_::_,[],_,h,_=>by cases h
 |x::a,y::b,n,hl,h=>by
  rw[eu]at h;rw[Lh,Lh,eu]
  by_cases e:x=y
  .rw[Jc e]at h⊢
   exact jV n (Nat.succ.inj hl) h
  .rw[Jb e]at h⊢
   exact h
theorem xv{b:Ζ}(n:Nat)(h:ltN a b=true):ltN (a++[n]) (b++[n])=true:=by
 unfold ltN at h⊢;have e:∀c:Ζ,toZ (c++[n])=toZ c++[(n:Int)]:=λc=>by unfold toZ;rw[JI];rfl
 rw[jC]at h;rw[e,e,jC,Jz,Jz]
 by_cases d:((toZ a).length:Int)=(toZ b).length
 .rw[Jc d]at h
  rw[Jc (by simp only[GV];lia)]
  exact jV _ (by lia) h
 .rw[Jb d]at h
  have h:=JA h;rw[Jb (by simp only[GV];lia)]
  exact Jj (by simp only[GV];lia)
theorem uy{b:Ζ}(n:Nat)(h:ltN a b=false):ltN (a++[n]) (b++[n])=false:=by
 cases h2:ltN (a++[n]) (b++[n])with
 |false=>rfl
 |true=>
  cases h3:ltN b a with
  |true=>
   have:=ltN_trans (xv n h3) h2
   rw[ltN_irr]at this;cases this
  |false=>
   rw[jn h h3,ltN_irr]at h2;cases h2
theorem kH{b:Ζ}(h1:ltN a b=false)(h2:ltN b c=false):ltN a c=false:=by
 cases h:ltN a c with
 |false=>rfl
 |true=>
  cases h3:ltN b a with
  |true=>rw[ltN_trans h3 h]at h2;cases h2
  |false=>rw[jn h1 h3]at h;rw[h2]at h;cases h
noncomputable def subs(ns:Ζ):List Ζ:=ns.foldl (λf n=>f++f.map (· ++[n])) [[]]
theorem subs_snoc(ns:Ζ)(n:Nat):subs (ns++[n])=subs ns++(subs ns).map (· ++[n]):=by unfold subs;rw[Kp];rfl
theorem mem_subs{S:Ζ}:S∈subs ns↔S.Sublist ns:=by
 induction ns using GS.snocInd generalizing S with
 |nil=>
  show S∈[[]]↔_
  rw[Jm]
  exact#[λh=>h▸ .slnil,λh=>NC.mp h]
 |snoc ns n ih=>
  rw[subs_snoc,JD,Ju];constructor
  .rintro(h|⟨T,h,rfl⟩)
   .exact(ih.mp h).trans (Rm _ _)
   .exact(ih.mp h).append (.refl _)
  .intro h
   let#[c,g,rfl,h1,d]:=List.sublist_append_iff.mp h;rcases List.sublist_cons_iff.mp d with a|⟨r,e,a⟩
   .have e:=NC.mp a
    subst e;rw[GC];exact .inl (ih.mpr h1)
   .have f:=NC.mp a
    subst f;subst e;exact .inr #[c,ih.mpr h1,Z]
theorem subs_len(ns:Ζ):(subs ns).length=2 ^ ns.length:=by
 induction ns using GS.snocInd with
 |nil=>rfl
 |snoc ns n ih=>rw[subs_snoc,Jz,Jf,ih,Jz,GV,Nat.pow_succ];lia
section
variable{B:Type}[DecidableEq B](mv:Nat->B->B)(b0:B)
noncomputable def run(ns S:Ζ):B:=GS.st mv b0 (ns.filter λi=>decide (i∉S))
noncomputable def ins(L:List (B×Ζ))(p:B×Ζ):List (B×Ζ):=match L.find? (λq=>decide (q.1=p.1))with
 |none=>L++[p]
 |some q=>if ltN p.2 q.2=true then L.map (λq=>if q.1=p.1 then(q.1,p.2)else q)else L
noncomputable def ways(L:List (B×Ζ))(n:Nat):List (B×Ζ):=L.flatMap λq=>[(mv n q.1,q.2),(q.1,q.2++[n])]
noncomputable def step(L:List (B×Ζ))(n:Nat):List (B×Ζ):=(ways mv L n).foldl ins []
noncomputable def all(ns:Ζ):List (B×Ζ):=ns.foldl (step mv) [(b0,[])]
structure Good(W M:List (B×Ζ)):Prop where
 nd:(M.map (·.1)).Nodup
 sub:∀p∈M,p∈W
 min:∀p∈M,∀q∈W,q.1=p.1->ltN q.2 p.2=false
 has:∀q∈W,∃p∈M,p.1=q.1
variable{mv b0}
theorem AB(g:Good W M)(p:B×Ζ):Good (W++[p]) (ins M p):=by
 unfold ins;cases hf:M.find? (λq=>decide (q.1=p.1))with
 |none=>
  rw[Oo]at hf;have x:∀q∈M,q.1≠p.1:=λq c e=>hf q c (Jj e)
  refine#[?_,λq c=>?_,λq c r d e=>?_,λq c=>?_]
  .rw[JI,Iz]
   refine#[g.nd,by simp,λa A b D=>?_]
   let#[q,c,rfl]:=Ju.mp A;have w:b=p.1:=by simpa using D
   rw[w];exact x q c
  .rcases JD.mp c with c|c
   .exact GB _ (g.sub q c)
   .exact JL _ c
  .rcases JD.mp c with c|c
   .rcases JD.mp d with d|d
    .exact g.min q c r d e
    .rw[Jm.mp d]at e;exact absurd e.symm (x q c)
   .rw[Jm.mp c]at e⊢
    rcases JD.mp d with d|d
    .let#[z,l,s]:=g.has r d
     exact absurd (s.trans e) (x z l)
    .rw[Jm.mp d];exact ltN_irr _
  .rcases JD.mp c with c|c
   .let#[z,l,s]:=g.has q c
    exact#[z,GB _ l,s]
   .exact#[p,by simp,by rw[Jm.mp c]]
 |some q0=>
  have f:=N1 hf;have e0:q0.1=p.1:=JA (Ro (p:=λq:B×Ζ=>decide (q.1=p.1)) hf)
  have t:∀q∈M,q.1=p.1->q=q0:=λq c e=>by
   let#[i,hi,rfl]:=KN.mp c;let#[j,C,rfl]:=KN.mp f;have z:i=j:=by
    have n:i<(M.map (·.1)).length:=by simpa using hi
    have u:j<(M.map (·.1)).length:=by simpa using C
    have pw:=Ls.mp g.nd;have y:(M.map (·.1))[i]=(M.map (·.1))[j]:=by simpa using e.trans e0.symm
    rcases Nat.lt_trichotomy i j with z|z|z
    .exact absurd y (pw i j n u z)
    .exact z
    .exact absurd y.symm (pw j i u n z)
   subst z;rfl
  dsimp only
  by_cases m:ltN p.2 q0.2=true
  .rw[Jc m]
   have keys:(M.map λq=>if q.1=p.1 then(q.1,p.2)else q).map (·.1)=M.map (·.1):=by
    rw[GH];refine Ir λq _=>?_
    show(if q.1=p.1 then(q.1,p.2)else q).1=q.1
    split<;>rfl
   have o:∀q∈(M.map λq=>if q.1=p.1 then(q.1,p.2)else q),q=p\/(q∈M/\q.1≠p.1):=λq c=>by
    let#[z,l,rfl]:=Ju.mp c
    by_cases e:z.1=p.1
    .rw[Jc e];exact .inl (Prod.ext e Z)
    .rw[Jb e];exact .inr #[l,e]
   refine#[by rw[keys];exact g.nd,λq c=>?_,λq c r d e=>?_,λq c=>?_]
   .rcases o q c with rfl|⟨c,_⟩
    .simp
    .exact GB _ (g.sub q c)
   .rcases o q c with rfl|⟨c,v⟩
    .rcases JD.mp d with d|d
     .have h1:=g.min q0 f r d (e.trans e0.symm)
      cases h:ltN r.2 q.2 with
      |false=>rfl
      |true=>rw[ltN_trans h m]at h1;cases h1
     .rw[Jm.mp d];exact ltN_irr _
    .rcases JD.mp d with d|d
     .exact g.min q c r d e
     .rw[Jm.mp d]at e;exact absurd e.symm v
   .have:∃z∈M,z.1=q.1:=by
     rcases JD.mp c with c|c
     .exact g.has q c
     .exact#[q0,f,by rw[Jm.mp c];exact e0]
    let#[z,l,s]:=this;exists _,On l
    rw[<- s]
    show(if z.1=p.1 then(z.1,p.2)else z).1=z.1
    split<;>rfl
  .rw[Jb m]
   have m:ltN p.2 q0.2=false:=by simpa using m
   refine#[g.nd,λq c=>GB _ (g.sub q c),λq c r d e=>?_,λq c=>?_]
   .rcases JD.mp d with d|d
    .exact g.min q c r d e
    .have E:=Jm.mp d
     subst E;rw[t q c e.symm];exact m
   .rcases JD.mp c with c|c
    .exact g.has q c
    .exact#[q0,f,by rw[Jm.mp c];exact e0]
theorem good_fold(W:List (B×Ζ)):Good W (W.foldl ins []):=by
 induction W using GS.snocInd with
 |nil=>exact(show Good [] []from#[LK,λ_ h=>(nomatch h),λ_ h=>(nomatch h),λ_ h=>(nomatch h)])
 |snoc W p ih=>rw[Kp];exact AB ih p
structure Kept(mv:Nat->B->B)(b0:B)(ns:Ζ)(L:List (B×Ζ)):Prop where
 nd:(L.map (·.1)).Nodup
 sub:∀p∈L,p.2.Sublist ns/\run mv b0 ns p.2=p.1
 min:∀p∈L,∀S,S.Sublist ns->run mv b0 ns S=p.1->ltN S p.2=false
 has:∀S,S.Sublist ns->∃p∈L,p.1=run mv b0 ns S
theorem nU{S:Ζ}{n:Nat}(a:S.Sublist ns)(hn:n∉ns):run mv b0 (ns++[n]) S=mv n (run mv b0 ns S):=by
 unfold run;rw[Kq,show [n].filter (λi=>decide (i∉S))=[n]from by simp;exactλh=>hn (a.subset h),GS.st_snoc]
theorem mG{S:Ζ}{n:Nat}(a:S.Sublist ns)(hn:n∉ns):run mv b0 (ns++[n]) (S++[n])=run mv b0 ns S:=by
 unfold run;rw[Kq,show [n].filter (λi=>decide (i∉S++[n]))=[]from by simp,GC]
 congr 1
 refine N2 λi hi=>?_
 have:i≠n:=λe=>hn (e▸hi)
 simp [this]
theorem uL{n:Nat}(k:Kept mv b0 ns L)(hn:n∉ns):Kept mv b0 (ns++[n]) (step mv L n):=by
 have g:=good_fold (ways mv L n);have d:∀q,q∈ways mv L n↔∃p∈L,q=(mv n p.1,p.2)\/q=(p.1,p.2++[n]):=λq=>by
  unfold ways;rw[Rp];simp
 have m:∀S,S.Sublist (ns++[n])->S.Sublist ns\/∃T,T.Sublist ns/\S=T++[n]:=λS c=>by
  have:=mem_subs.mpr c
  rw[subs_snoc,JD,Ju]at this;rcases this with h|⟨T,h,e⟩
  .exact .inl (mem_subs.mp h)
  .exact .inr #[T,mem_subs.mp h,e.symm]
 have i:∀S,S.Sublist (ns++[n])->∃q∈ways mv L n,q.1=run mv b0 (ns++[n]) S/\ltN S q.2=false:=λS c=>by
  rcases m S c with h|⟨T,h,rfl⟩
  .let#[p,a,e]:=k.has S h
   exact#[(mv n p.1,p.2),(d _).mpr #[p,a,.inl Z],by rw[nU h hn,e],k.min p a S h e.symm]
  .let#[p,a,e]:=k.has T h
   exact#[(p.1,p.2++[n]),(d _).mpr #[p,a,.inr Z],by rw[mG h hn,e],uy n (k.min p a T h e.symm)]
 refine#[g.nd,λp a=>?_,λp a S c e=>?_,λS c=>?_]
 .obtain⟨q,f,e|e⟩:=(d p).mp (g.sub p a)
  .let#[h1,l]:=k.sub q f
   rw[e]
   exact#[h1.trans (Rm _ _),by rw[nU h1 hn,l]]
  .let#[h1,l]:=k.sub q f
   rw[e]
   exact#[h1.append (.refl _),by rw[mG h1 hn,l]]
 .let#[q,f,j,o]:=i S c
  exact kH o (g.min p a q f (j.trans e))
 .let#[q,f,j,o]:=i S c
  let#[p,a,r]:=g.has q f
  exact#[p,a,r.trans j]
theorem kept_all{ns:Ζ}(d:ns.Nodup):Kept mv b0 ns (all mv b0 ns):=by
 induction ns using GS.snocInd with
 |nil=>
  refine#[by simp [all],λp a=>?_,λp a S c e=>?_,λS c=>?_]
  .have:p=(b0,[]):=by simpa [all]using a
   subst this;exact#[.slnil,Z]
  .have:p=(b0,[]):=by simpa [all]using a
   subst this;rw[NC.mp c];exact ltN_irr _
  .exact#[(b0,[]),by simp [all],by rw[NC.mp c];rfl]
 |snoc ns n ih=>
  let#[h1,g,f]:=Iz.mp d;unfold all at ih⊢;rw[Kp];exact uL (ih h1) λh=>f n h n (by simp) Z
def LeastL(mv:Nat->B->B)(b0:B)(bad:B->Bool)(ns:Ζ)(o:Option Ζ):Prop:=match o with
 |none=>∀S,S.Sublist ns->bad (run mv b0 ns S)=false
 |some x=>x.Sublist ns/\bad (run mv b0 ns x)=true/\∀S,S.Sublist ns->bad (run mv b0 ns S)=true->ltN S x=false
theorem leastL_unique{bad:B->Bool}(h:LeastL mv b0 bad ns o)(h':LeastL mv b0 bad ns o'):o=o':=by
 cases o with
 |none=>
  cases o' with
  |none=>rfl
  |some y=>have:=h y h'.1;rw[h'.2.1]at this;cases this
 |some x=>
  cases o' with
  |none=>have:=h' x h.1;rw[h.2.1]at this;cases this
  |some y=>rw[jn (h'.2.2 x h.1 h.2.1) (h.2.2 y h'.1 h'.2.1)]
theorem least_all{bad:B->Bool}{ns:Ζ}(m:ns.Nodup){o:Option Ζ}
  (h:(o=none/\((all mv b0 ns).filter λp=>bad p.1)=[])\/∃x,o=↑x/\x∈((all mv b0 ns).filter λp=>bad p.1).map (·.2)/\∀y∈((all mv b0 ns).filter λp=>bad p.1).map (·.2),ltN y x=false):LeastL mv b0 bad ns o:=by
 have k:=kept_all (mv:=mv) (b0:=b0) m
 rcases h with⟨rfl,h⟩|⟨x,rfl,i,l⟩
 .intro S c
  let#[p,a,e]:=k.has S c
  have:=List.filter_eq_nil_iff.mp h p a
  rw[<- e];simpa using this
 .let#[p,a,rfl]:=Ju.mp i
  let#[a,j]:=GK.mp a;let#[h1,n]:=k.sub p a;refine#[h1,by rw[n];exact j,λS c d=>?_]
  let#[q,g,e]:=k.has S c;have f:q.2∈((all mv b0 ns).filter λp=>bad p.1).map (·.2):=On (GK.mpr #[g,by rw[e];exact d])
  exact kH (k.min q g S c e.symm) (l _ f)
theorem least_more{bad:B->Bool}{ns:Ζ}(t:ns.Nodup)(pl:Nat->Bool)(zc:∀i∈ns,pl i=false->∀b,mv i b=b)(h:LeastL mv b0 bad ns o):LeastL mv b0 bad (ns.filter pl) o:=by
 have e:∀l:Ζ,(∀i∈l,i∈ns)->GS.st mv b0 (l.filter pl)=GS.st mv b0 l:=by
  intro l
  induction l using GS.snocInd with
  |nil=>intro _;rfl
  |snoc l i d=>
   intro c;have d:=d λj q=>c j (by simp [q])
   rw[Kq,GS.st_snoc];cases hp:pl i with
   |true=>rw[show [i].filter pl=[i] by simp [hp],GS.st_snoc,d]
   |false=>rw[show [i].filter pl=[] by simp [hp],GC,d,zc i (c i (by simp)) hp]
 have f:∀S:Ζ,run mv b0 (ns.filter pl) S=run mv b0 ns S:=λS=>by
  unfold run;rw[<- e _ λi hi=>(GK.mp hi).1,NG,NG]
  congr 1
  refine N2 λi _=>?_
  rw[Bool.and_comm]
 have a:∀S:Ζ,S.Sublist (ns.filter pl)->S.Sublist ns:=λS h=>h.trans Oq
 cases o with
 |none=>exactλS g=>by rw[f];exact h S (a S g)
 |some x=>
  let#[h1,m,n]:=h;have p:x=x.filter pl:=by
   have s:run mv b0 ns (x.filter pl)=run mv b0 ns x:=by
    unfold run;rw[<- e _ λi hi=>(GK.mp hi).1,<- e (ns.filter λi=>decide (i∉x)) λi hi=>(GK.mp hi).1,NG,NG]
    congr 1
    refine N2 λi _=>?_
    cases hp:pl i with
    |false=>rfl
    |true=>simp [GK,hp]
   have:=n (x.filter pl) (Oq.trans h1) (by rw[s];exact m)
   have c:x.length<=(x.filter pl).length:=by
    rcases Nat.lt_or_ge (x.filter pl).length x.length with z|z
    .rw[ltN_len z]at this;cases this
    .exact z
   exact(Oq.eq_of_length_le c).symm
  refine#[by rw[p];exact h1.filter pl,by rw[f];exact m,λS g r=>n S (a S g) (by rw[<- f];exact r)]
theorem least_first{bad:B->Bool}{d:List Ζ}(hp:d.Perm (subs ns))(hw:d.Pairwise λx y=>ltN y x=false):LeastL mv b0 bad ns (d.find? λS=>bad (run mv b0 ns S)):=by
 cases h:d.find? λS=>bad (run mv b0 ns S)with
 |none=>
  intro S f
  have:=Oo.mp h S (hp.mem_iff.mpr (mem_subs.mpr f))
  simpa using this
 |some x=>
  have g:=N1 h;refine#[mem_subs.mp (hp.mem_iff.mp g),Ro (p:=λS=>bad (run mv b0 ns S)) h,λS f i=>?_]
  have c:=hp.mem_iff.mpr (mem_subs.mpr f);let#[h1,l,bs,e,j]:=List.find?_eq_some_iff_append.mp h
  rw[e]at c hw;rcases JD.mp c with a|a
  .have:=j S a
   rw[i]at this;cases this
  .rcases Jp.mp a with rfl|a
   .exact ltN_irr _
   .exact(OH.mp (RX.mp hw).2.1).1 S a
end
end GL
set_option linter.unusedSectionVars false
namespace L3
open PySem PySem.Spec PyProof.Rows L2 PySem.SeqAt
noncomputable def bE(D:Dr)(ps:Ν)(k:Nat)(h:Ζ):Bool:=Bb D ps k (GS.st (aB D ps) D.kn h)
noncomputable def zf(ps:Ν)(k:Nat):Ζ:=(B2 k).filter (ZN ps (aD ps k))
noncomputable def aC(D:Dr)(ps:Ν)(k:Nat)(nm:Str):List (Option (Str×Int×Int)):=((ps.take k).map (qY D)).map (Zl nm)
def tF(D:Dr)(ps:Ν)(k:Nat)(P:Ps)(o:Option Ζ):Prop:=
 (qY D P=none->o=some [])/\∀nm age c b0,qY D P=↑(nm,age,c)->D.kn.lookup nm=↑b0->GL.LeastL (cX D (aC D ps k nm)) b0 (λb=> ! QP D age c b) ((B2 k).filter (Q1 (aC D ps k nm))) o
def Ao(D:Dr)(ps:Ν)(k:Nat)(o:Option Ζ):Prop:=
 ∃a:List Ζ,a.Perm (GL.subs (zf ps k))/\(a.Pairwise λx y=>GL.ltN y x=false)/\o=a.find? λS=> ! bE D ps k ((zf ps k).filter λi=>decide (i∉S))
section
variable{k:Nat}
theorem uI{i:Nat}{R:Ps}(hi:i<k)(h:ps[i]? =↑R):(aC D ps k nm).getD i none=Zl nm (qY D R):=by
 unfold aC;rw[JN,Jo,Jo,N4 hi,h];rfl
theorem Dt{b0:Kb}(hb:D.kn.lookup nm=↑b0){h:Ζ}(hm:∀i∈h,i<k/\ZN ps nm i=true):(GS.st (aB D ps) D.kn h).lookup nm=↑(GS.st (cX D (aC D ps k nm)) b0 h):=by
 induction h using GS.snocInd with
 |nil=>exact hb
 |snoc p i a=>
  have a:=a λj d=>hm j (by simp [d])
  let#[hi,g]:=hm i (by simp)
  let#[R,c,rfl]:=DR g;have z:=(hU (D:=D) a (by rw[hb];rfl)).1
  have f:GS.st (aB D ps) D.kn (p++[i])=(qX {D with kn:=GS.st (aB D ps) D.kn p} R).2:=by
   rw[GS.st_snoc]
   show(match ps[i]? with|some P=>(qX {D with kn:=GS.st (aB D ps) D.kn p} P).2|none=>_)=_
   rw[c]
  rw[f,z,GS.st_snoc];unfold cX;rw[uI hi c];cases hpl:qY D R with
  |none=>rfl
  |some x=>
   have e:Zl R.nm ↑x=↑x:=Jc (ik hpl).1
   rw[e]
theorem Nt{i:Nat}:i∈zf ps k↔i<k/\ZN ps (aD ps k) i=true:=by
 unfold zf;rw[GK,Ih]
theorem t9(p:ps[k]? =↑P)(h1:tF D ps k P o)(h2:Ao D ps k o'):o=o':=by
 have hk:k<ps.length:=(Jw.mp p).1
 have t:aD ps k=P.nm:=by unfold aD;rw[p]
 have u:(zf ps k).Nodup:=(N3).filter _
 have d:∀kn,Bb D ps k kn=decide (tU (qX {D with kn:=kn} P).1="open"):=λkn=>by unfold Bb;rw[p]
 let#[w,s,r,rfl]:=h2;cases hpl:qY D P with
 |none=>
  rw[h1.1 hpl];have m:∀h:Ζ,bE D ps k h=false:=λh=>by
   unfold bE;rw[d];cases hl:(GS.st (aB D ps) D.kn h).lookup P.nm with
   |none=>
    unfold qX;rw[BG (D:={D with kn:=GS.st (aB D ps) D.kn h}) hl]
    exact Nj
   |some e=>
    have hs:(D.kn.lookup P.nm).isSome=true:=by
     rw[HQ,<- pB D ps h,<- HQ,hl];rfl
    rw[(hU (D:=D) hl hs).2,hpl]
  have f:=GL.least_first (mv:=λ_ (b:Bool)=>b) (b0:=true) (bad:=λ_=>true) s r
  have g:GL.LeastL (λ_ (b:Bool)=>b) true (λ_=>true) (zf ps k) (some []):=by
   refine#[List.nil_sublist _,Z,λS _ _=>?_]
   cases z:GL.ltN S []with
   |false=>rfl
   |true=>
    cases S with
    |nil=>rw[GL.ltN_irr]at z;cases z
    |cons a S=>
     have y:GL.ltN [] (a::S)=true:=GL.ltN_len (by simp)
     have:=GL.ltN_trans y z
     rw[GL.ltN_irr]at this;cases this
  rw[GL.leastL_unique g f];exact cR λS _=>by rw[m];rfl
 |some x=>
  let#[nm,age,c]:=x;let#[rfl,v]:nm=P.nm/\age=P.age:=ik hpl
  let#[b0,n]:∃b0,D.kn.lookup P.nm=↑b0:=by
   unfold qY at hpl;cases hr:Zz D P with
   |none=>rw[hr]at hpl;cases hpl
   |some y=>
    rw[hr]at hpl
    change (if(D.kn.lookup P.nm).isSome then ↑(P.nm,P.age,y.1)else none)=↑_ at hpl
    split at hpl
    .rename_i z;exact Lb.mp z
    .cases hpl
  have h1:=h1.2 _ _ _ b0 hpl n;have j:∀S,(! bE D ps k ((zf ps k).filter λi=>decide (i∉S)))=(λb=> ! QP D age c b) (GL.run (cX D (aC D ps k P.nm)) b0 (zf ps k) S):=λS=>by
   have l:=Dt (D:=D) (ps:=ps) (k:=k) n (h:=(zf ps k).filter λi=>decide (i∉S)) λi hi=>by
    have:=Nt.mp (GK.mp hi).1
    rw[t]at this;exact this
   unfold bE GL.run;rw[d,(hU (D:=D) l (by rw[n];rfl)).2,hpl]
   rfl
  have f:=GL.least_first (mv:=cX D (aC D ps k P.nm)) (b0:=b0) (bad:=λb=> ! QP D age c b) s r
  have f2:=GL.least_more u (Q1 (aC D ps k P.nm)) (λi _ hi b=>by
   unfold Q1 at hi;unfold cX;cases z:(aC D ps k P.nm).getD i none with
   |none=>rfl
   |some y=>rw[z]at hi;cases hi) f
  have es:(zf ps k).filter (Q1 (aC D ps k P.nm))=(B2 k).filter (Q1 (aC D ps k P.nm)):=by
   unfold zf;rw[NG];refine N2 λi hi=>?_
   have hi:=Ih.mp hi;cases hpi:Q1 (aC D ps k P.nm) i with
   |false=>rfl
   |true=>
    have q:ps[i]? =some ps[i]:=Ji (by omega)
    have:ZN ps (aD ps k) i=true:=by
     unfold Q1 at hpi;rw[uI hi q]at hpi;unfold ZN;rw[q,t];refine Jj ?_
     cases hq:qY D ps[i]with
     |none=>rw[hq]at hpi;cases hpi
     |some y=>
      rw[hq]at hpi
      change (if y.1=P.nm then ↑y else none).isSome=true at hpi
      split at hpi
      .rename_i z;exact(ik hq).1.symm.trans z
      .cases hpi
    rw[this];rfl
  rw[es]at f2;rw[GL.leastL_unique h1 f2];exact cR λS _=>(j S).symm
end
def OQ(H:Hp)(a:K8×Δ×V)(p:Kb×Ζ):Prop:=a.1.1=cW p.1/\Mm H a.2.1 p.1/\∃q,a.2.2= .ref q/\H q=↑(.tup (q9 p.2))
theorem OQ.to{H H':Hp}(hs:∀a xs,H a=↑(.tup xs)->H' a=↑(.tup xs))(h:OQ H c p):OQ H' c p:=by
 let#[h1,d,q,f,e]:=h
 exact#[h1,d.to hs,q,f,hs _ _ e]
def N8(P:Ξ)(w:Ω)(H:Hp)(d:Δ)(L:List (Kb×Ζ)):Prop:=∃o kvs,H d=↑(.frz o (zw P w d kvs))/\Paired (OQ H) kvs L
theorem N8.same(s:HE H H')(h:N8 P w H d L):N8 P w H' d L:=by
 let#[o,kvs,h1,c]:=h
 exact#[o,kvs,s _ _ h1,Paired.mapP c λf p z=>z.to λa xs e=>s _ _ e]
def OR(H:Hp)(v:V)(p:Kb×Ζ):Prop:=∃t a q,v= .ref t/\H t=↑(.tup [-a,-q])/\Mm H a p.1/\H q=↑(.tup (q9 p.2))
theorem OR.to{H H':Hp}(hs:∀a xs,H a=↑(.tup xs)->H' a=↑(.tup xs))(h:OR H v p):OR H' v p:=by
 let#[t,a,q,e,h1,c,d]:=h
 exact#[t,a,q,e,hs _ _ h1,c.to hs,hs _ _ d]
theorem bU(l:Ζ):q9 l=(GL.toZ l).map V.int:=by unfold q9 GL.toZ;rw[GH];rfl
theorem EY(d:Paired (OQ H) kvs L){b:Kb}{k:K8}(hk:k.1=cW b):
  (aU kvs k=none/\L.find? (λq=>decide (q.1=b))=none)\/∃a l,aU kvs k=↑(-a)/\L.find? (λq=>decide (q.1=b))=↑(b,l)/\H a=↑(.tup (q9 l)):=by
 unfold aU
 induction d with
 |nil=>exact .inl #[7]
 | @cons kv p ps qs h t ih=>
  rw[GA,GA];let#[h1,i,q,g,f]:=h
  by_cases e:p.1=b
  .have c:kv.1=k:=Subtype.ext (by rw[h1,hk,e])
   rw[Jj e,Jj c];refine .inr #[q,p.2,by rw[<- g];rfl,by rw[<- e],f]
  .have c:kv.1≠k:=λz=>e (rm (by rw[<- h1,<- hk,z]))
   rw[Jl e,Jl c];exact ih
theorem uP(f:Paired (OQ H) kvs L){b:Kb}{k:K8}(hk:k.1=cW b)(hb:Mm H a b)(d:H q=↑(.tup (q9 l))):
  Paired (OQ H) (Z0 kvs k a (-q)) (if(aU kvs k).isSome=true then L.map (λz=>if z.1=b then(z.1,l)else z)else L++[(b,l)]):=by
 unfold Z0
 by_cases e:(aU kvs k).isSome=true
 .rw[Jc e,Jc e]
  clear e
  induction f with
  |nil=>exact .nil
  | @cons kv p ps qs h t ih=>
   rw[JC,JC];refine .cons ?_ ih
   let#[h1,g,i,m,j]:=h
   by_cases e:p.1=b
   .have c:kv.1=k:=Subtype.ext (by rw[h1,hk,e])
    rw[Jc e,Jc c]
    exact#[h1,g,q,Z,d]
   .have c:kv.1≠k:=λz=>e (rm (by rw[<- h1,<- hk,z]))
    rw[Jb e,Jb c]
    exact#[h1,g,i,m,j]
 .rw[Jb e,Jb e]
  exact Paired.snoc f #[hk,hb,q,Z,d]
theorem MX.put2(g:MX P w H d kvs){k:K8}{b:Δ}(hk:Q3 H k.1 (-b))(v:V):MX P w (HG H d (zw P w d (Z0 kvs k b v))) d (Z0 kvs k b v):=by
 have h:∀a xs,H a=↑(.tup xs)->HG H d (zw P w d (Z0 kvs k b v)) a=↑(.tup xs):=λa xs e=>by
  rw[qh (qD e g.r (by intro z;cases z))];exact e
 refine#[qc,λp c=>(ZU h p.1.1).1 ?_]
 unfold Z0 at c;split at c
 .let#[z,f,rfl]:=Ju.mp c
  have:=g.ks z f
  split<;>exact this
 .rcases JD.mp c with c|c
  .exact g.ks p c
  .rw[Jm.mp c];exact hk
theorem CA{L:List (Kb×Ζ)}{p:Kb×Ζ}(h:L.find? (λq=>decide (q.1=p.1))=none):GL.ins L p=L++[p]:=by unfold GL.ins;rw[h]
theorem rF{L:List (Kb×Ζ)}{p q:Kb×Ζ}(h:L.find? (λq=>decide (q.1=p.1))=↑q):GL.ins L p=if GL.ltN p.2 q.2=true then L.map (λz=>if z.1=p.1 then(z.1,p.2)else z)else L:=by unfold GL.ins;rw[h]
theorem vR{mv:Nat->Kb->Kb}{L:List (Kb×Ζ)}{i:Nat}{p:Kb×Ζ}(h:L[i]? =↑p):GL.ways mv (L.take (i+1)) n=GL.ways mv (L.take i) n++[(mv n p.1,p.2)]++[(p.1,p.2++[n])]:=by
 unfold GL.ways;rw[Ig,h,List.flatMap_append];simp
theorem gJ{mv:Nat->Kb->Kb}(L:List (Kb×Ζ)):(GL.ways mv L n).length=2*L.length:=by
 unfold GL.ways
 induction L with
 |nil=>rfl
 |cons p L ih=>rw[RG,Jz,ih,J2];simp;lia
theorem BX(L:List (Kb×Ζ))(p:Kb×Ζ):(GL.ins L p).length<=L.length+1:=by
 unfold GL.ins;split
 .rw[Jz];exact Jd _
 .split
  .rw[Jf];lia
  .lia
theorem yb(W:List (Kb×Ζ)):(W.foldl GL.ins []).length<=W.length:=by
 induction W using GS.snocInd with
 |nil=>exact Jd _
 |snoc W p ih=>
  rw[Kp,Jz];exact Jg (BX _ p) (by simp;lia)
theorem yn{mv:Nat->Kb->Kb}(L:List (Kb×Ζ)):(GL.step mv L n).length<=2*L.length:=by
 unfold GL.step;exact Jg (yb _) (by rw[gJ];exact Jd _)
theorem tm{mv mv':Nat->Kb->Kb}(h:∀b,mv n b=mv' n b)(L:List (Kb×Ζ)):GL.step mv L n=GL.step mv' L n:=by
 unfold GL.step GL.ways;congr 2
 funext q
 rw[h]
theorem rG{mv:Nat->Kb->Kb}(ns:Ζ):(GL.all mv b0 ns).length<=2 ^ ns.length:=by
 unfold GL.all
 induction ns using GS.snocInd with
 |nil=>exact Jd _
 |snoc ns n ih=>
  rw[Kp,Jz,GV,Nat.pow_succ];exact Jg (yn _) (by lia)
theorem nK{mv:Nat->Kb->Kb}{pl:Nat->Bool}{i:Nat}:GL.all mv b0 ((B2 (i+1)).filter pl)=if pl i=true then GL.step mv (GL.all mv b0 ((B2 i).filter pl)) i else GL.all mv b0 ((B2 i).filter pl):=by
 rw[Rq,Kq]
 by_cases h:pl i=true
 .rw[Jc h,show [i].filter pl=[i] by simp [h]]
  unfold GL.all;rw[Kp];rfl
 .rw[Jb h,show [i].filter pl=[] by simp [h],GC]
section
variable(P:Ξ)(w:Ω)(K:ι)(C:Δ)
inductive cq(vs:Α)(H:Hp)(Q:VK)(_:XK):Prop
 |mk (q:Δ)(l:Ζ)(h1:vs=[-q])(h2:H q=↑(.tup (q9 l)))(h3:l.length<=1000)(h4:∀t H',HE H H'->H' t=↑(.tup [.int (l.length:Int),-q])->Q (-t) H')
inductive iM(vs:Α)(H:Hp)(Q:VK)(_:XK):Prop
 |mk (p ta hk bd lg d q:Δ)(m n:Nat)(D:Dr)(L:List (Kb×Ζ))(nm:Str)(age c:Int)(h1:vs=[-p,-d,-q,.int (n:Int)])(h2:HI K C H p ta hk bd lg m D)(h3:N8 P w H d L)(h4:H q=↑(.tup [.str nm,.int age,.int c]))(h5:L.length<=2000)(h6:∀x∈L,x.2.length<=900)
  (h7:∀d' H',HE H H'->N8 P w H' d' (GL.step (λ_ b=>(zW D b age c).2) L n)->Q (-d') H')
noncomputable def ju(H:Hp)(v:V):Option Ζ->Prop
 |none=>v= .non
 |some l=>∃q,v= .ref q/\H q=↑(.tup (q9 l))
inductive lL(vs:Α)(H:Hp)(Q:VK)(_:XK):Prop
 |mk (p ta hk bd lg r:Δ)(n:Nat)(D:Dr)(qs:Ν)(k:Nat)(h1:vs=[-p,-r,.int (k:Int)])(h2:HI K C H p ta hk bd lg n D)(h3:Nd D)(h4:NJ H r qs)(h5:∀x∈qs,Nm x)(h6:qs.length<=10)(h7:k<qs.length)
  (h8:∀v H' o,HE H H'->ju H' v o->(∀P,qs[k]? =↑P->tF D qs k P o)->Q v H')
end
end L3
namespace Lw
open PySem L2 L3
section
variable{K:ι}{tk:Nat->Tok}
theorem kU(a:At K mg "size_first" a8 ["numbers"])(T:Mq K mg tk):Df P w K mg base "size_first" ["numbers"] 1 cq:=by
 refine a.dq li λf _ A _ s H g Q E i h=>?_
 .let#[q,l,rfl,c,e,k]:=h
  exists _,(qj (qw (qF (qd (qy qN T.b_len JQ (qd (qv 0) qb)) (qd (qv 0) qb)))))
  refine#[0,q,0,.inr (HP.of c),0,Hj,λt d=>?_]
  refine k t _ (HE.upd d) ?_
  rw[qc];unfold q9;rw[Jf]
theorem hZ(a:At K mg "losses_behind" ZH ["door","losses","press","number"])(T:Mq K mg tk)(xA:Df P w K mg base "button_behind" X5 4 (sd K C))(dI:Df P w K mg base "size_first" ["numbers"] 1 cq):Df P w K mg base "losses_behind" W6 5 (iM P w K C):=by
 refine a.dq HU λf _ A _ s H F Q E hr h=>?_
 .let#[p,ta,hk,bd,lg,d,q,m,n,D,L,nm,age,c,rfl,hd,#[o,kvs,ed,pr],hq,hL,e2,k]:=h
  exists _,(qe (qG (i:=4) HU.nd Z (Or.inl Z) (zb qb))
   (qe (zo JR Z (n6 (nN (qv 1))) (QH Z (qu (qk (i:=5) HU.nd Z (Or.inl Z)) (qu (qk (i:=6) HU.nd Z (Or.inl Z)) qW)))
   (qe (zJ (Q9 GI GY GZ zY (qv 4) (qd (qF (qd (qt xA hr.mo (qd (qv 0) (qd (qv 5) (qd (qv 2) qb)))) (qd (qv 6) qb))) qb)))
   (qj (zJ (Q9 GI GY GZ zY (qv 4) (qd (qF (qd (qv 5) (qd (qx bV (qv 6) (qF (qd (qv 3) qb))) qb))) qb))))))
   (qe (qG (i:=7) HU.nd Z (Or.inl Z) Cr)
   (qe (zo JR Z (zK (qv 4)) (QH Z (qu (qk (i:=5) HU.nd Z (Or.inl Z)) (qu (qk (i:=6) HU.nd Z (Or.inl Z)) qW)))
   (qj (qM (QW.pt (ZG (qA (wm hr) (qv 5) (qv 7) (by rfl)) (ZA (qA (BJ hr) (qt dI hr.mo (qd (qv 6) qb)) (qt dI hr.mo (qd (CW hr (qv 7) (qv 5)) qb)) (qz _))))) (qj (BT hr (qv 7) (qv 5) (qv 6))) qH)))
   (qj (qw (wn (qv 7))))))))
  refine#[Hh,λB b4=>?_]
  have s1:=HE.upd (o:= .lst []) b4
  let#[mv,d2]:∃mv:Nat->Kb->Kb,mv=λ_ b=>(zW D b age c).2:=#[0]
  rw[<- d2]at k;refine#[0,d,o,kvs,Z,s1 _ _ ed,λv hv=>?_]
  have s2:=s1.trans (HE.upd (o:=bW d v) hv)
  have d1:(HG (HG H B (.lst [])) v (bW d v)) B=↑(.lst []):=HE.upd (o:=bW d v) hv _ _ qc
  have d7:(HG (HG H B (.lst [])) v (bW d v)) v=↑(bW d v):=qc
  generalize HG (HG H B (.lst [])) v (bW d v)=H2 at s2 d1 d7
  refine#[v,d,o,kvs,Z,d7,s2 _ _ ed,vH (P:=P) (w:=w) (kvs:=kvs) (o:=o) (d:=d) (λi σ Y=>∃o5 o6 o7 F,σ=[↑(-p),↑(-d),↑(-q),↑(.int (n:Int)),↑(-B),o5,o6,o7]/\HE H Y/\Y B=↑(.lst F)/\Paired (OR Y) F (GL.ways mv (L.take i) n)) #[32,[],Z,s2,d1,.nil] ?_ ?_ ?_]
  .rintro i σ Y _ ⟨_,_,_,_,_,sx,_⟩
   exact sx _ _ ed
  .rintro i ⟨kk,G,kw⟩ σ Y pt f3 ⟨o5,o6,o7,F,rfl,sx,hw,pw⟩ g5
   let#[#[b,l],e1,h1,hb,N,e5,U]:=zT pr f3
   dsimp only at h1 hb e5 U
   subst e5;have d3:=Jy e1;have h0:=e2 _ d3
   dsimp only at h0
   exists pt,0,HP.of qc,8
   have u0:=HE.upd (o:= .tup [-G,-N]) g5
   dsimp only
   generalize HG Y pt (.tup [-G,-N])=H0 at u0⊢
   have b6:=sx.trans u0;have f5:F.length=2*(L.take i).length:=by rw[J1 pw,gJ]
   have a2:(L.take i).length<=2000:=Jg (by rw[JP];exact Ip _ _) hL
   refine#[0,.inl #[37,HK.of (u0 _ _ hw)],3,p,ta,hk,bd,lg,G,q,m,D,b,nm,age,c,Z,hd.same b6,hb.same b6,b6 _ _ hq,λa' H3 s3 h3=>?_]
   refine#[0,Hj,λt1 g4=>?_]
   have u4:=HE.upd (o:= .tup [-a',-N]) g4
   have e4:=qc (H:=H3) (a:=t1) (o:= .tup [-a',-N])
   generalize HG H3 t1 (.tup [-a',-N])=H4 at u4 e4⊢
   have a5:=(u0.trans s3).trans u4;exists B,F,47,a5 _ _ hw,by rw[Jt];lia
   have f2:=a5 _ _ hw;have kT:∀a xs,H4 a=↑(.tup xs)->HG H4 B (.lst (F++[-t1])) a=↑(.tup xs):=λa xs z=>by
    rw[qh (qD z f2 (by intro y;cases y))];exact z
   have b7:(HG H4 B (.lst (F++[-t1]))) B=↑(.lst (F++[-t1])):=qc
   have d4:HE H (HG H4 B (.lst (F++[-t1]))):=λx y z=>by
    rw[qh (qr z b4)];exact((sx.trans a5) _ _ z)
   generalize HG H4 B (.lst (F++[-t1]))=H5 at kT b7 d4⊢
   have a4:∀a xs,Y a=↑(.tup xs)->H5 a=↑(.tup xs):=λa xs z=>kT _ _ (a5 _ _ z)
   refine#[0,.inl #[37,HK.of b7],3,Hi,λt2 g3=>?_]
   have u6:=HE.upd (o:= .tup [.int (n:Int)]) g3
   have e6:=qc (H:=H5) (a:=t2) (o:= .tup [.int (n:Int)])
   generalize HG H5 t2 (.tup [.int (n:Int)])=H6 at u6 e6⊢
   have g6:H6 N=↑(.tup (q9 l)):=u6 _ _ (a4 _ _ (sx _ _ U))
   refine#[N,t2,6,g6,e6,by unfold q9;rw[Jf,Jt];show l.length+1<=_;lia,λt3 H7 s7 h7=>?_]
   refine#[Hj,λt4 g8=>?_]
   have u8:=HE.upd (o:= .tup [-G,-t3]) g8
   have e8:=qc (H:=H7) (a:=t4) (o:= .tup [-G,-t3])
   generalize HG H7 t4 (.tup [-G,-t3])=H8 at u8 e8⊢
   have c0:=(u6.trans s7).trans u8;have d0:=c0 _ _ b7;exists B,6,d0,by rw[Jz,GV,Jt];lia
   have c4:∀a xs,H8 a=↑(.tup xs)->HG H8 B (.lst (F++[-t1]++[-t4])) a=↑(.tup xs):=λa xs z=>by
    rw[qh (qD z d0 (by intro y;cases y))];exact z
   have a0:∀a xs,H5 a=↑(.tup xs)->HG H8 B (.lst (F++[-t1]++[-t4])) a=↑(.tup xs):=λa xs z=>c4 _ _ (c0 _ _ z)
   exists 32,F++[-t1]++[-t4],Z,λx y z=>?_,qc
   .rw[qh (qr z b4)];exact c0 _ _ (d4 _ _ z)
   .rw[vR e1]
    refine Paired.snoc (Paired.snoc (Paired.mapP pw λx y z=>z.to λa xs e=>a0 _ _ (a4 _ _ e)) ?_) ?_
    .refine#[t1,a',N,Z,a0 _ _ (kT _ _ e4),?_,a0 _ _ (a4 _ _ (sx _ _ U))]
     rw[d2]
     exact(h3.same u4).to λa xs e=>a0 _ _ (kT _ _ e)
    .refine#[t4,G,t3,Z,c4 _ _ e8,(hb.same sx).to λa xs e=>a0 _ _ (a4 _ _ e),c4 _ _ (u8 _ _ ?_)]
     rw[h7];unfold q9;rw[JI];rfl
  .rintro σ Y ⟨o5,o6,o7,F,rfl,sx,hw,pw⟩
   have g7:kvs.length=L.length:=J1 pr
   rw[g7,J5]at pw;have f5:F.length=2*L.length:=by rw[J1 pw,gJ]
   intro j b3;have b0:=HE.upd (o:=zw P w j []) b3
   have g0:MX P w (HG Y j (zw P w j [])) j []:=#[qc,λp hp=>nomatch hp]
   have g9:B≠j:=qr hw b3
   have c1:H j=none:=ZR b3 sx
   have b5:=sx.trans b0;have c5:=b0 _ _ hw;have b2:Paired (OR (HG Y j (zw P w j []))) F (GL.ways mv L n):=Paired.mapP pw λx y z=>z.to λa xs e=>b0 _ _ e
   refine(show QB 7 (-j) _ (HG Y j (zw P w j [])) _ from ?_)
   generalize HG Y j (zw P w j [])=Hb at b0 g0 b5 c5 b2⊢
   have f1:∀{Hy:Hp},Mv [j] Hb Hy->∀a xs,Hb a=↑(.tup xs)->Hy a=↑(.tup xs):=λmm a xs z=>mm a _ (qK (qD z g0.r (by intro y;cases y))) z
   have f6:(GL.ways mv L n).length=F.length:=(J1 b2).symm
   refine#[0,B,Z,#[_,HK.of c5],Q2 (K:=K) (xs:=F) (λi σ Hy=>∃o5 o6 r,σ=[↑(-p),↑(-d),↑(-q),↑(.int (n:Int)),↑(-B),o5,o6,↑(-j)]/\Mv [j] Hb Hy/\MX P w Hy j r/\r.length<=i/\Paired (OQ Hy) r (((GL.ways mv L n).take i).foldl GL.ins [])) #[16,[],Z,Mv.refl,g0,Jd _,.nil] ?_ ?_ ?_]
   .rintro i σ Hy _ ⟨_,_,_,_,mm,_⟩
    exact HK.of (mm _ _ (qK g9) c5)
   .rintro i x σ Hy hx ⟨o5,o6,r,rfl,mm,g,e7,W⟩
    let#[#[b,l],d9,t,G,N,rfl,ht,hb,U]:=zT b2 hx
    dsimp only at hb U
    have kT:=f1 mm;have c3:=hb.to kT;have a6:=kT _ _ U;exists t,0,HP.of (kT _ _ ht),8
    have M:=vd c3;let#[k8,b1]:∃k8:K8,k8.1=cW b:=#[#[cW b,rR _,Jg (vL _) ⋯],Z]
    rw[<- b1]at M;have h5:HE H Hy:=λx y z=>mm x y (qK (qr z c1)) (b5 _ _ z)
    have h6:i<F.length:=(Jw.mp hx).1
    have c7:((GL.ways mv L n).take (i+1)).foldl GL.ins []=GL.ins (((GL.ways mv L n).take i).foldl GL.ins []) (b,l):=by
     rw[Qq d9,Kp];rfl
    have c6:r.length<ζ:=by rw[Jt];lia
    have put:∀{Hz:Hp} {J:List (K8×Δ×V)} {L3:List (Kb×Ζ)},HE Hy Hz->MX P w Hz j r->Z0 r k8 G (-N)=J->Paired (OQ Hz) J L3->L3=GL.ins (((GL.ways mv L n).take i).foldl GL.ins []) (b,l)->
      ∃p5 p6 c2,[↑(V.ref p),↑(-d),↑(-q),↑(.int (n:Int)),↑(-B),↑(-G),↑(-N),↑(-j)]=[↑(V.ref p),↑(-d),↑(-q),↑(.int (n:Int)),↑(-B),p5,p6,↑(-j)]/\Mv [j] Hb (HG Hz j (zw P w j J))/\MX P w (HG Hz j (zw P w j J)) j c2/\c2.length<=i+1/\Paired (OQ (HG Hz j (zw P w j J))) c2 (((GL.ways mv L n).take (i+1)).foldl GL.ins []):=by
     intro Hz J L3 sz gz e pz eL;subst e;have kz:∀a xs,Hz a=↑(.tup xs)->HG Hz j (zw P w j (Z0 r k8 G (-N))) a=↑(.tup xs):=λa xs z=>by rw[qh (qD z gz.r (by intro y;cases y))];exact z
     exists 20,mm.trans ((sz.mv (S:=[j])).trans Mv.upd1),gz.put2 ((ZU (λa xs z=>sz _ _ z) k8.1).1 M) _,Jg (gF ..) (by lia)
     rw[c7,<- eL];exact Paired.mapP pz λx y z=>z.to kz
    exists 2,G,j,r,k8,7,g,M,0
    rcases EY W b1 with⟨X,a3⟩|⟨qa,l',X,a3,e3⟩
    .refine Qf (by rw[X];rfl) ?_
     refine Qf (by rfl) ?_
     exists 3,j,0,.mk r k8 G g Z M c6 Z
     refine put (HE.refl _) g Z (uP W b1 c3 a6) ?_
     rw[X,CA a3];rfl
    .refine Qk (by rw[X];rfl) ?_
     have a1:∀z∈(GL.ways mv L n),z.2.length<=901:=λz hz=>by
      unfold GL.ways at hz;let#[y,hy,hz]:=Rp.mp hz
      have:=e2 y hy
      simp only[Jp,JE,JF]at hz;rcases hz with rfl|rfl
      .exact Jg this (by lia)
      .rw[Jz,GV];lia
     have h4:l.length<=1000:=Jg (a1 _ (Jy d9)) (by lia)
     have f4:l'.length<=1000:=by
      have g1:=(GL.good_fold ((GL.ways mv L n).take i)).sub _ (N1 a3);exact Jg (a1 _ (RF g1)) (by lia)
     refine#[0,.mk N l Z a6 h4 λt1 H1 I h1=>?_]
     have g1:MX P w H1 j r:=g.to ((I _ _ g.r).trans g.r.symm) λa xs z=>I _ _ z
     refine#[2,j,G,r,k8,47,g1,fo I M,X,.mk qa l' Z (I _ _ e3) f4 λt2 H2' O h2=>?_]
     have d5:=(I.trans O) _ _ a6;have d8:=(I.trans O) _ _ e3;rw[bU]at d5 d8;refine .mk (Zt (GL.toZ l)) (Zt (GL.toZ l')) (jI _ _) (Jg (px _) ⋯) (fX d5 (by rw[GL.toZ_len];exact O _ _ h1)) (fX d8 (by rw[GL.toZ_len];exact h2)) #[0,?_]
     have g2:MX P w H2' j r:=g1.to ((O _ _ g1.r).trans g1.r.symm) λa xs z=>O _ _ z
     have R:=I.trans O;have f0:Paired (OQ H2') r (((GL.ways mv L n).take i).foldl GL.ins []):=Paired.mapP W λx y z=>z.to λa xs e=>R _ _ e
     have d6:=uP f0 b1 (c3.same R) (R _ _ a6);rw[X,Jc (show(↑(V.ref qa)).isSome=true from Z)]at d6
     cases a2:GL.ltN l l' with
     |true=>
      refine Qf (by exact a2) ?_
      exists 3,j,0,.mk r k8 G g2 Z (fo R M) c6 Z
      refine put R g2 Z d6 ?_
      rw[rF a3]
      dsimp only
      rw[Jc a2]
     |false=>
      refine Qk (by exact a2) ?_
      exists 20,mm.trans (R.mv (S:=[j])),g2,by lia
      rw[c7,rF a3]
      dsimp only
      rw[Jb (by rw[a2];decide)]
      exact f0
   .rintro σ Hy ⟨o5,o6,r,rfl,mm,g,e7,W⟩
    rw[<- f6,J5]at W;refine#[0,j,r,Z,g.r,λo2=>?_]
    have u:=g.r;refine k j _ (λx y z=>?_) #[o2,r,qc,?_]
    .rw[qh (qr z c1)]
     exact mm x y (qK (qr z c1)) (b5 _ _ z)
    .refine Paired.mapP W λx y z=>z.to λa xs e=>?_
     rw[qh (qD e g.r (by intro y;cases y))];exact e
end
end Lw
namespace L3
open PySem PySem.Spec PyProof.Rows L2 PySem.SeqAt
noncomputable def zc(H:Hp)(P:Δ):Hp:=λb=>if b=P then none else H b
section
theorem bZ:zc H P P=none:=by unfold zc;rw[Jc Z]
theorem QQ(h:a≠P):zc H P a=H a:=by unfold zc;rw[Jb h]
theorem gU(h:zc H P a=↑o):a≠P/\H a=↑o:=by
 by_cases z:a=P
 .subst z;rw[bZ]at h;cases h
 .exact#[z,by rw[QQ z]at h;exact h]
theorem zR:HE (zc H P) H:=λb o e=>(gU e).2
theorem QN(s:HE H H'):HE (zc H P) (zc H' P):=λb o e=>by
 let#[z,e]:=gU e;rw[QQ z];exact s _ _ e
theorem BA(h:H P=↑o):HG (zc H P) P o=H:=by
 funext b
 unfold HG zc
 by_cases z:b=P
 .subst z;rw[Jc Z];exact h.symm
 .rw[Jb z,Jb z]
theorem pW(h:H P=none):zc (HG H P o) P=H:=by
 funext b
 by_cases z:b=P
 .subst z;rw[bZ];exact h.symm
 .rw[QQ z,qh z]
theorem wj{u:HO}(h:H P=↑u)(ha:H a=↑o)(c:o≠u):zc H P a=↑o:=by rw[QQ (qD ha h c)];exact ha
end
noncomputable def EN(P:Δ)(sp:Sp)(t:TA):TE:=λσ H Q=>t σ H λc H1=>∃ps,H1 P=↑(.tbl ps)/\sp (c++[]) (zc H1 P) (λv a=>a P=none->Q v (HG a P (.tbl ps))) E0
theorem cw{X:Cx}{k:Nat}{e:Φ}{es:Κ}{pos:Pos}(D:Df X.prog X.w X.K X.mg X.base x ps k sp)(hr:HS k X.A)(ha:QA X (e::es) t)(hg:Gl X x:=by rfl)(hdb:(x==("__debug__":Str))=false:=by decide)
  (he:θ (e::es) X.env=(false,eval e X.env)::θ es X.env:=by rfl)(hpl:(backTo pos (θ es X.env)).any (·.1)=false:=by rfl):QE X (.Call (.Name x p) (e::es) [] pos) (EN P sp t):=#[by
 let#[f,fd,ok,m,kp,bd]:=D.ex;intro pins s σ H Q I h;refine II (fK I hg m ?_ hdb)
 refine W.callWith_K (h₀:=X.base) I.ok.mod.kin kp (qB (ha.h pos pins s σ H _ I h) λE B ⟨N,H1,g,r,J,d,q⟩=>#[g.kIn,?_]) he hpl
 have C:∀{b:Δ},H1 b=none->zc H1 P b=none:=λ{b} e=>by
  by_cases z:b=P
  .rw[z];exact bZ
  .rw[QQ z];exact e
 have e0:=g.env0;have M:M4 X.prog X.w (zc H1 P) B.heap:=λb u e=>by
  let#[z,e]:=gU e
  exact(g.hok b u e).stay (λ_ _ _ q=>q) (λc q=>wj d q (by intro z;cases z)) λc xs q=>wj d q (by intro z;cases z)
 have U:Nc X.prog X.w X.K X.mg X.base X.A X.stack B (zc H1 P):=#[e0.frames,e0.mod,λb o z=>#[(e0.bs b o z).1,C (e0.bs b o z).2],e0.bsz,e0.funs,λb F=>C (e0.frf b F),M,e0.bare]
 have S:HL (N++[]) (E++[]):=r.append .nil
 have hl:(E++[]).length=ps.length:=by rw[<- S.length];exact ok.len _ _ _ _ q
 have O:=(show HN X.prog X.w H1 B.heap P (.tbl J)from g.hok P _ d)
 have nP:P∉bo X.stack:=λz=>by have:=g.stkFree P z;rw[d]at this;cases this
 refine wpAny_call (IH (ok.run X.A X.stack B (zc H1 P) #[E,[]] (E++[]) (N++[]) _ E0 hr U (bd B E g.kIn hl) S q) λr s' i=>?_)
 cases r with
 |error e=>exact(show False from i).elim
 |ok fl=>
  cases fl with
  |next=>exact False.elim i
  |brk=>exact False.elim i
  |cont=>exact False.elim i
  |ret u=>
   let#[v,G,T,j,un,l,rv,q2]:=i;have A:G P=none:=un.free P _ O bZ (by simp)
   have L:=un.keep P _ O bZ nP (by simp)
   refine g.after (Q:=Q) #[v,HG G P (.tbl J),T,j,#[λb o z n F a=>un.keep b o z (C n) F a,λb o z n F a=>un.slot b o z (C n) F a,λb o z n a=>?_,un.there,λb xs z=>?_,λb o u z=>?_,λb Y z=>?_],λb u z=>?_,rv,q2 A]
   .have y:b≠P:=λy=>by rw[y,d]at n;cases n
    rw[qh y];exact un.free b o z (C n) a
   .have y:b≠P:=qD z d (by intro z;cases z)
    rw[qh y];exact un.tups b xs (by rw[QQ y];exact z)
   .have y:b≠P:=qD z d (by intro z;cases z)
    rw[qh y];exact un.frzs b o u (by rw[QQ y];exact z)
   .by_cases y:b=P
    .subst y
     rw[d]at z;cases z
     exact#[(B1 []),by rw[qc];simp]
    .rw[qh y];exact un.tbls b Y (by rw[QQ y];exact z)
   .by_cases y:b=P
    .subst y
     rw[qc]at z;cases z
     exact L
    .rw[qh y]at z
     have R:∀{c:Δ} {w:HO},G c=↑w->HG G P (.tbl J) c=↑w:=λ{c w} e=>by rw[qh (qr e A)];exact e
     exact(l b u z).stay (λ_ _ _ q=>q) (λc q=>R q) λc xs q=>R q]
structure PZ(K:ι)(mg:HC)(x:Str)(st:δ)(ps:Β)(c:Δ):Prop where
 ex:∃(f:Δ) (oc:Γ) (od:Χ) (kV doc pm:Γ) (an:Χ) (ct:Γ) (osl:Array Ο),
  K.lookup f=some #[oc,od,.func (PySem.W.fnOf x x (Qo st) (zi st) (ql st) .none kV doc pm an (-c) ct),osl]/\PySem.W.codeIn K (-c) x=true/\mg x=↑(-f)/\PySem.W.keepIn K (-f)=true/\
  MK K (PySem.W.fnOf x x (Qo st) (zi st) (ql st) .none kV doc pm an (-c) ct) ps []
theorem At.code{K:ι}{st:δ}{c P:Δ}(a:At K mg x st ps)(g:K.In h)(G:h.Ns η mg)(l:W.tabIn K x=↑(c,P)):PZ K mg x st ps c:=by
 let#[f,fd,F,m,j,bd]:=a.ex;let#[oc,od,kV,doc,pm,an,cdv,ct,osl,rfl,i,d]:=F.ex;have e:cdv= .ref c:=W.law_code g G l m (g _ _ i) Z
 subst e
 exact#[f,oc,od,kV,doc,pm,an,ct,osl,i,d,m,j,bd]
theorem PZ.dq{K:ι}{st:δ}{k:Nat}{sp:Sp}(a:PZ K mg x st ps c)(S:HF N ps (ql st))(g:∀vs H Q E,sp vs H Q E->vs.length=ps.length)
  (e:∀(f:Δ) (A:Around) (d:Τ) (s:Θ) (H:Hp) (vs:Α) (Q:VK) (E:XK),HS k (A.deeper (PyProof.Rows.envOfC x (ql st) s.heap.objs.size f (-c)))->sp vs H Q E->
   ∃t,Oy (ZE ZS P w K mg base N x (ql st) f (-c) A d s H E).nox (zi st) t/\t {nx:=λ_ H'=>Q .non H',rt:=Q} (ME N vs) H):Df P w K mg base x ps (k+1) sp:=by
 let#[f,oc,od,kV,doc,pm,an,ct,osl,n,i,m,j,bd]:=a.ex;refine#[f,_,AJ n i S g (λA d s H vs Q E l h=>?_),m,j,bd]
 let#[t,q1,q2]:=e f A d s H vs Q E l h
 exact#[t,q1.h.nox,q2]
def lw(P:Δ)(H:Hp):Prop:=H P=↑(.tbl (B1 []))/\∀b,b≠P->H b=none\/∃o xs,H b=↑(.frz o (.lst xs))
theorem v5{K:ι}{k:Nat}{a:Δ}{x:Str}{f:Θ}{vs:Η}
  (KX:K.In f.heap)(G:f.heap.Ns η mg)(hb:f.heap.Ns builtinsNs mb)(b2:∀x:Str,x≠"__name__"->mb x=bootBuiltins x)(R:f.heap.NoLimit)(hg:f.gens= (B1 []))
  (ha:f.heap.get? a=some {cls:= .type "list",data:= .seq vs.toArray})(hi:IntsAre vs ns)(hl:ns.length<=ζ)(hr:HS k callerA)
  (hC:W.CodeHd f.heap c P)(C:f.heap.get? P=↑(W.tabObj (B1 [])))(b7:∃Q l,mg "__builtins__"=↑(-Q)/\Q≠builtinsNs/\f.heap.get? Q=↑l/\l.cls= .type "module"/\l.dict=↑builtinsNs/\l.data= .plain)
  (F:∀base:Ψ,K.In base->base.Ns η mg->W.CodeHd base c P->base.BuiltinsAt mg P->M5 Pr w K mg base CX k fa fd [x] sp)(I:∀(s:Θ) (u:Γ),BindsTo s fd #[[u],[]] [(x,u)])
  (c1:∀H:Hp,lw P H->HK K H a (ns.map V.int)->sp [-a] H (λv _=>v= .bl true) λ_ _ _=>False)(b4:K.lookup P=none)
  (c2:∀H e s',CX [] H f (λ_ _ _=>False) e s'->False):
  codeAny (model Pr w) callerA (.call (-fa) #[[-a],[]]) (λr s'=>r= .ok (.ret (.bool true))/\OldK f.heap s'.heap/\s'.os=f.os/\AllBare s'.gens) f:=by
 have rv:=jZ hi;have J:=hi.length;have b0:a≠P:=λz=>by rw[z,C]at ha;cases ha
 have p:∀H:Hp,lw P H->HK K H a (ns.map V.int)->M4 Pr w H f.heap->(∀b,H b≠none->b=a\/b=P)->(H a≠none->K.lookup a=none)->
   codeAny (model Pr w) callerA (.call (-fa) #[[-a],[]]) (λr s'=>r= .ok (.ret (.bool true))/\OldK f.heap s'.heap/\s'.os=f.os/\AllBare s'.gens) f:=by
  intro H hO hS X hA hK;have B:∀{b:Δ},b≠a->b≠P->H b=none:=λ{b} z1 z2=>by
   cases q:H b with
   |none=>rfl
   |some u=>exact((hA b (by rw[q];simp)).elim z1 z2).elim
  have g:∀{b:Δ} {o:Obj},f.heap.get? b=↑o->H b=none->(a7 f.heap H).get? b=↑o:=λe n=>Aw e n
  have b1:∀{b:Δ} {o:Obj},f.heap.get? b=↑o->o.cls≠ .none->o.cls≠ .type "list"->H b=none:=λ{b o} e h1 h2=>B (λz=>by rw[z,ha]at e;cases e;exact h2 Z) (λz=>by rw[z,C]at e;cases e;exact h1 Z)
  have b5:∀{b:Δ} {o:Obj} {es:Array DictEntry} {S:Nat},f.heap.get? b=↑o->o.data= .dict es S->H b=none:=λ{b o es S} e d=>B (λz=>by rw[z,ha]at e;cases e;cases d) (λz=>by rw[z,C]at e;cases e;cases d)
  have j:∀{b:Δ} {m:HC},f.heap.Ns b m->(a7 f.heap H).Ns b m:=λ{b m} ⟨o,es,S,e,d,r⟩=>#[o,es,S,g e (b5 e d),d,r]
  have N:K.In (a7 f.heap H):=λb o e=>g (KX b o e) (by
   cases q:H b with
   |none=>rfl
   |some u=>
    rcases hA b (by rw[q];simp)with z|z
    .subst z;rw[hK (by rw[q];simp)]at e;cases e
    .subst z;rw[b4]at e;cases e)
  have hM:PX K mg (a7 f.heap H):=#[N,j G,#[mb,j hb,b2],let⟨mc,h1,h2⟩:=R;#[mc,j h1,h2]]
  have e0:Nc Pr w K mg (a7 f.heap H) callerA [] f H:=#[Z,hM,λb o e=>CH e,JZ (vN _ _),trivial,λb hb=>absurd (show b∈([]:Ι)from hb) (by simp),X,.of_eq hg]
  have b6:W.CodeHd (a7 f.heap H) c P:=by
   let#[o,vs,T,tf,E,tg,b3,a0,tt,M,U,r]:=hC
   exact#[o,vs,T,tf,E,tg,b3,a0,tt,g M (b1 M (by rw[U];nofun) (by rw[U];intro z;injection z with z;exact absurd z ⋯)),U,r]
  have c0:(a7 f.heap H).BuiltinsAt mg P:=by
   let#[Q,l,a1,a2,L,a4,a5,a6]:=b7;refine#[Q,l,a1,a2,λz=>?_,λz=>?_,g L (b1 L (by rw[a4];nofun) (by rw[a4];intro z;injection z with z;exact absurd z ⋯)),a4,a5,a6]
   .subst z
    let#[o,es,S,e,d,_]:=G;rw[L]at e;cases e
    rw[d]at a6;cases a6
   .subst z
    rw[C]at L;cases L;cases a4
  refine IH ((F _ N (j G) b6 c0).run callerA [] f H #[[-a],[]] [-a] [-a] _ _ hr e0 (I f (-a)) (.cons Z .nil) (c1 H hO hS)) λr s' h=>?_
  cases r with
  |error e=>exact(c2 H e s' h).elim
  |ok fl=>
   cases fl with
   |next=>exact False.elim h
   |brk=>exact False.elim h
   |cont=>exact False.elim h
   |ret u=>
    let#[v,H',os,O,un,D,r',q]:=h;have q':v= .bl true:=q
    subst q'
    obtain rfl:u=Γ.bool true:=r'
    have t:∀b o,b≠P->f.heap.get? b=↑o->s'.heap.get? b=↑o:=λb o i e=>by
     cases q:H b with
     |none=>exact un.keep b o e q (by intro z;exact absurd (show b∈([]:Ι)from z) (by simp)) (by simp)
     |some u=>
      rcases hO.2 b i with z|⟨l,xs,z⟩
      .rw[q]at z;cases z
      .have z2:=un.frzs b l _ z
       let#[M,_]:=X b _ z;let#[U,_]:=D b _ z2;rw[e]at M;cases M
       exact U
    let#[A,hm]:=un.tbls P _ hO.1;have Y:s'.heap.get? P=↑(W.tabObj ((B1 [])++A)):=D P _ hm
    refine#[Z,#[λb o e=>?_,λb o e=>?_],os,O]
    .by_cases i:b=P
     .subst i
      rw[C]at e;cases e
      exact .inr (.inl #[(hC.tab C).isCodeTable,Z,(B1 []),A,Z,Y])
     .exact .inl (t b o i e)
    .by_cases i:b=P
     .subst i;exact#[_,Y]
     .exact#[o,t b o i e]
 cases hk:K.lookup a with
 |some o=>
  have e:=KX a o hk;rw[ha]at e;cases e;refine p (λb=>if b=P then ↑(.tbl (B1 []))else none) #[Jc Z,λb z=> .inl (Jb z)] (.inr #[_,vs.toArray,_,hk,40,by rw[Js,J];exact hl,by simpa using rv]) (λb u z=>?_) (λb z=>?_) λz=>absurd (Jb b0) z
  .by_cases y:b=P
   .subst y
    cases(Jc Z).symm.trans z
    exact C
   .cases(Jb y).symm.trans z
  .by_cases y:b=P
   .exact .inr y
   .exact absurd (Jb y) z
 |none=>
  refine p (λb=>if b=P then ↑(.tbl (B1 []))else if b=a then ↑(.frz {cls:= .type "list",data:= .seq vs.toArray} (.lst (ns.map V.int)))else none) #[Jc Z,λb z=>?_] (.inl (.inr #[{cls:= .type "list",data:= .seq vs.toArray},(Jb b0).trans (Jc Z)])) (λb u z=>?_) (λb z=>?_) λ_=>hk
  .by_cases hb:b=a
   .exact .inr #[16,(Jb z).trans (Jc hb)]
   .exact .inl ((Jb z).trans (Jb hb))
  .by_cases y:b=P
   .subst y
    cases(Jc Z).symm.trans z
    exact C
   .have z:=(Jb y).symm.trans z
    by_cases hb:b=a
    .cases(Jc hb).symm.trans z
     subst hb
     exact#[ha,by rw[Jf];exact hl,vs,_,rv,ha]
    .cases(Jb hb).symm.trans z
  .by_cases y:b=P
   .exact .inr y
   .by_cases hb:b=a
    .exact .inl hb
    .exact absurd ((Jb y).trans (Jb hb)) z
theorem lW{K:ι}{P:Δ}(a:K.In h)(d:h.get? P=↑(W.tabObj (B1 [])))(c:W.noTabs K=true):K.lookup P=none:=by
 cases e:K.lookup P with
 |none=>rfl
 |some o=>
  have q:=a P o e;rw[d]at q;cases q
  have f:=IP.mp c (P,_) (W.mem_of_lookupK e);exact absurd (show false=true from f) JB
theorem AG{l:W.OpenLaw}{n k:Nat}{q:Ξ}{S:(Str->Ο)->Ψ->Prop}{M:Ω->Ψ->Prop}{d d':DefRec}{K:Params->ι}{sp:Ω->Δ->Sp}{x y:Str}{c P:Δ}
  (hn:l.most=↑n)(B:n<=ζ)(D:d.params.defaults=[])(hr:HS k callerA)
  (U:∀(w:Ω) (h:Ψ),M w h->(K w.params).In h)(p:(recsOf q).find? (λe=>e.name==y)=↑d')(i:∀w:Ω,W.tabIn (K w.params) y=↑(c,P))(C:∀w:Ω,W.noTabs (K w.params)=true)
  (F:∀(w:Ω) (mg:HC) (A:Δ) (h:Ψ),(K w.params).In h->h.Ns η mg->mg d.name=↑(-A)->W.tabIn (K w.params) y=↑(c,P)->
   ∃fd:FuncData,(∀(s:Θ) (u:Γ),BindsTo s fd #[[u],[]] [(x,u)])/\
    ∀base:Ψ,(K w.params).In base->base.Ns η mg->W.CodeHd base c P->base.BuiltinsAt mg P->M5 l.prog w (K w.params) mg base CX k A fd [x] (sp w P))
  (I:∀(w:Ω) (H:Hp) (a:Δ) (ns:Ε),ns.length<=n->lw P H->HK (K w.params) H a (ns.map V.int)->sp w P [-a] H (λv _=>v= .bl true) λ_ _ _=>False)
  (J:∀(H:Hp) (s:Θ) (e:Γ) (s':Θ),CX [] H s (λ_ _ _=>False) e s'->False):
  W.WalkO q m S M l.row.toRowW d [] (λf L=>PySem.call f L):=by
 refine Att.attach_call hn D λw N r mg mb A o pm cd doc a L ns G Y ho hd X E t j g T=>?_
 have z:=U w _ Y;let#[fd,hb,Q]:=F w mg A _ z G.T.g E (i w)
 let#[R,O]:=W.tab_of G.T z p (i w)
 exact v5 z G.T.g G.T.b G.T.builtins G.T.nolimit T t j (Jg g B) hr R O G.T.bmain Q hb (λH hO hS=>I w H a ns g hO hS) (lW z O (C w)) λH e s'=>J H r e s'
noncomputable def Bc:V->Λ
 | .int n=>↑n
 |_=>none
noncomputable def ZC(H:Hp):V->PK
 | .ref p=>match H p with
  |some (.tup xs)=>Zt (xs.filterMap Bc)
  |_=> .nil
 |_=> .nil
theorem jl(ns:Ε):(ns.map V.int).filterMap Bc=ns:=by
 induction ns with
 |nil=>rfl
 |cons n ns ih=>rw[JC,Ly];show n::_=_;rw[ih]
theorem ZV{H:Hp}(h:H p=↑(.tup (q9 l))):ZC H (-p)=Zt (GL.toZ l):=by
 unfold ZC
 dsimp only
 rw[h]
 dsimp only
 rw[bU,jl]
def sE(H:Hp)(xs:Α):Prop:=∀x∈xs,∃p l,x= .ref p/\H p=↑(.tup (q9 l))/\l.length<=1000
def Fz(d:Δ):Δ->(V->PK)->Α->Hp->Prop:=λf c xs a=>f=d/\c=ZC a/\sE a xs
theorem tH{X:Cx}(D:Df X.prog X.w X.K X.mg X.base "size_first" ["numbers"] 1 cq)(hm:X.mg "size_first"=↑(-i))(hr:HS 1 A)(o:A.frames=X.A.frames):
  ∀f e xs c,Fz i f e xs c->Z9 X A f e xs c:=by
 rintro f e xs c ⟨rfl,rfl,j⟩
 refine Aj D hm hr o λx d H h=>?_
 let#[p,l,rfl,g,m]:=j x d;refine .mk p l Z (h _ _ g) m λt H' s n=>#[s,?_]
 rw[ZV g];have a:=s _ _ (h _ _ g);rw[bU]at a;exact fX a (by rw[GL.toZ_len];exact n)
theorem wU{xs:Α}(h:sE H xs):∀x∈xs,gC (ZC H x):=λx a=>by
 let#[p,l,rfl,c,_]:=h x a;rw[ZV c];exact Cw _
theorem ED{xs:Α}(h:sE H xs):∀x∈xs,(ZC H x).dp<=4:=λx a=>(wU h x a).2
theorem wB{xs:Α}(h:sE H xs):∀x∈xs,∀y∈xs,PK.cm (ZC H x) (ZC H y)=true:=λx a y d=>by
 let#[p,l,rfl,e,_]:=h x a;let#[q,f,rfl,c,_]:=h y d;rw[ZV e,ZV c];exact jI _ _
theorem pU{H:Hp}(hp:H p=↑(.tup (q9 l)))(c:H q=↑(.tup (q9 a))):PK.lt (ZC H (-p)) (ZC H (-q))=GL.ltN l a:=by
 rw[ZV hp,ZV c];rfl
def NP(H:Hp)(vs:Α)(a:List Ζ):Prop:=Paired (λv l=>∃p,v=V.ref p/\H p=↑(.tup (q9 l))) vs a
theorem NP.same(s:HE H H')(h:NP H vs a):NP H' vs a:=Paired.mapP h λv l ⟨p,e,z⟩=>#[p,e,s _ _ z]
theorem NP.nsL{a:List Ζ}(h:NP H vs a)(hl:∀l∈a,l.length<=1000):sE H vs:=λx c=>by
 let#[i,hi]:=K6 c
 let#[l,h1,p,e,d]:=zT h hi
 exact#[p,l,e,d,hl l (Jy h1)]
theorem NP.perm{ys:Α}(h:NP H vs g)(hp:ys.Perm vs):∃m,m.Perm g/\NP H ys m:=by
 let#[c,h1,i,j]:∃c:List (V×Ζ),c.map (·.1)=vs/\c.map (·.2)=g/\∀p∈c,∃q,p.1=V.ref q/\H q=↑(.tup (q9 p.2)):=by
  clear hp
  induction h with
  |nil=>exact#[[],7,λ_ h=>nomatch h]
  | @cons a b as bs h t ih=>
   let#[c,h1,i,j]:=ih
   exact#[(a,b)::c,by rw[JC,h1],by rw[JC,i],λp hp=>by
    rcases Jp.mp hp with rfl|hp
    .exact h
    .exact j p hp]
 rw[<- h1]at hp;let#[d,f,e]:=dz (·.1) ys c hp
 exists d.map (·.2),by rw[<- i];exact f.map _
 rw[<- e]
 have:∀p∈d,∃q,p.1=V.ref q/\H q=↑(.tup (q9 p.2)):=λp hp=>j p (f.mem_iff.mp hp)
 clear e f hp;unfold NP
 induction d with
 |nil=>exact .nil
 |cons a l ih=>exact .cons (this a (JM ..)) (ih λp hp=>this p (JS _ hp))
theorem NP.pair(h:NP H ys c)(hw:ys.Pairwise λx y=>PK.lt (ZC H y) (ZC H x)=false):c.Pairwise λx y=>GL.ltN y x=false:=by
 rw[Ls]at hw⊢;intro i j hi f a;have m:=J1 h;let#[n,d,p,f1,l]:=QV h (Ji hi)
 let#[o,e,p2,f2,g]:=QV h (Ji f)
 have:=hw i j (by lia) (by lia) a
 rw[Ji (by lia)]at d e
 cases d;cases e
 rw[f1,f2,pU g l]at this;exact this
def FN(q:Str)(params:Arguments)(body:Φ)(scope:Scope)(pm:Γ):Δ->(V->PK)->Α->Hp->Prop:=λf d xs a=>∃c,a f=↑(Oa q params body scope pm c f)/\a c=↑(Ou q c)/\d=ZC a/\sE a xs
section
variable(P0:Δ)(pos:Pos)(q:Str)(K:ι)
def Z3(H:Hp):Prop:=∃ps,H P0=↑(.tbl ps)/\NB (zc H P0) pos q ps
inductive gr(vs:Α)(H:Hp)(Q:VK)(_:XK):Prop
 |mk (rl:Δ)(D:Dr)(ss:β)(k:Nat)(h1:vs=[-rl,.int (k:Int)])(h2:Z3 P0 pos q H)(h3:Nl (zc H P0) rl ss)(h6:ss.length<=10)(h7:k<ss.length)
  (h9:∀l H' ys Ms,Z3 P0 pos q H'->HE (zc H P0) (zc H' P0)->H' l=↑(.lst ys)->NP H' ys Ms->Ms.Perm (GL.subs (zf (ss.map (zg D)) k))->(Ms.Pairwise λx y=>GL.ltN y x=false)->Q (-l) H')
inductive se(vs:Α)(H:Hp)(Q:VK)(_:XK):Prop
 |mk (a:NO)(rl nl:Δ)(D:Dr)(nms:Β)(ss:β)(k:Nat)(hs:Ζ)(h1:vs=[-a.m,-rl,-nl,.int (k:Int)])(h2:L5 K H a D nms)(h3:Nz D nms)(h4:Nl H rl ss)(h5:∀s∈ss,M3 D s)(h6:ss.length<=10)(h7:k<ss.length)(h8:H nl=↑(.lst (q9 hs)))(h10:hs.length<=10)(h11:∀i∈hs,i<ss.length)
  (h9:∀H',HE H H'->Q (.bl (bE D (ss.map (zg D)) k hs)) H')
inductive sA(vs:Α)(H:Hp)(Q:VK)(_:XK):Prop
 |mk (a:NO)(rl:Δ)(D:Dr)(nms:Β)(ss:β)(k:Nat)(h1:vs=[-a.m,-rl,.int (k:Int)])(h0:Z3 P0 pos q H)(h2:L5 K (zc H P0) a D nms)(h3:Nz D nms)(h4:Nl (zc H P0) rl ss)(h5:∀s∈ss,M3 D s)(h6:ss.length<=10)(h7:k<ss.length)
  (h9:∀v H' o,Z3 P0 pos q H'->HE (zc H P0) (zc H' P0)->ju H' v o->Ao D (ss.map (zg D)) k o->Q v H')
end
end L3
namespace Lw
open PySem L2 L3
section
variable{K:ι}{tk:Nat->Tok}
theorem kW(a:At K mg "least_lost" aR ["door","row","k"])(T:Mq K mg tk)(U:MS K C)(dJ:Df P w K mg base "plain_press" ["door","press"] 7 (gX K C))(xU:Df P w K mg base "plain_row" ["door","row"] 8 (i8 K C))(xO:Df P w K mg base "presses_of" ["presses","name"] 1 lH)(dC:Mf P w K mg base C "button_of" V0 1 (lx K C))(yG:Df P w K mg base "opens" X5 4 (uJ K C))(xD:Df P w K mg base "losses_behind" W6 5 (iM P w K C))(dI:Df P w K mg base "size_first" ["numbers"] 1 cq):Df P w K mg base "least_lost" ["door","row","k"] 9 (lL K C):=by
 let#[fS,_,_,c5,_,_]:=dI.ex;refine a.dq HY λf _ A _ s H vs Q E X h=>?_
 .let#[p,ta,hk,bd,lg,r,n,D,g,k,rfl,hd,ok,#[M,er,e7,c1],d7,lq,c0,q]:=h
  exists _,(qe (qG (i:=3) HY.nd Z (Or.inr Z) (qt dJ X.mo (qd (qv 0) (qd (qI qJ (qv 1) (qv 2)) qb))))
   (qe (qM (qA am (qv 3) zk (qz _)) (qj (qw (qF qb))) qH)
   (qe (qG (i:=4) HY.nd Z (Or.inl Z) (wn (yT X (zu dC U.cl X.mo (qv 0) (qd (qI zp (qv 3) qg) qb)) (qF qb))))
   (qe (zo JR Z (rC Z T.b_enumerate (qd (qt xO X.mo (qd (qt xU X.mo (qd (qv 0) (qd (cQ pO (qv 1) fR (fI (qv 2))) qb))) (qd (qI zp (qv 3) qg) qb))) qb)) (QH Z (qu (qk (i:=5) HY.nd Z (Or.inl Z)) (qu (qk (i:=6) HY.nd Z (Or.inl Z)) qW)))
   (qj (qM (qA fH (qv 6) zk (qz _)) (qj (qG (i:=4) HY.nd Z (Or.inl Z) (qt xD X.mo (qd (qv 0) (qd (qv 4) (qd (qv 6) (qd (qv 5) qb))))))) qH)))
   (qe (nS (i:=7) HY.nd Z (Or.inl Z) (own:=["button","lost"]) (fr:=["press","door"]) (js:=[3,0]) Z (n6 (nN (qv 4))) Z (ym Z Z) Z (xo Z nofun nofun nofun Z Z Z Z Z Z) (λ_ _ _ _=>rP (K:=K) Z 2 Z (qu (qk (i:=0) (show List.Nodup (["button","lost","press","door"]:Β)from by decide +kernel) Z (Or.inl Z) (.inr Z)) (qu (qk (i:=1) (show List.Nodup (["button","lost","press","door"]:Β)from by decide +kernel) Z (Or.inl Z) (.inr Z)) qW))) (λ_ _ _ _=>(QF (Qa (qt yG X.mo (qd (qv 3) (qd (qv 0) (qd (qv 2) qb))))))) (λ_ _ _ _=>(qv 1)))
   (qj (qw (yw (Fz fS) (tH dI c5 (X.mono (by decide:2<=8)).in1 Z) X.mo (by rfl) T.b_min (qd (qv 7) qb) (zv (v:= .ref fS) (by rfl) c5 Z) zk))))))))
  have d0:M[k]? =some M[k]:=Ji (by lia)
  have b1:g[k]? =some g[k]:=Ji c0
  have pa:=c1 k _ _ d0 b1;have po:=d7 _ (Gz c0);have g5:ZQ (M.map V.ref) (k:Int)=↑(.ref M[k]):=zI (by rw[Jo,d0];rfl)
  refine#[3,r,1,HK.of er,g5,p,ta,hk,bd,lg,M[k],n,D,g[k],Z,hd,ok,pa,po,λv H1 s1 hv=>?_]
  cases hpl:qY D g[k]with
  |none=>
   rw[hpl]at hv
   cases(show v=V.non from hv)
   exists 4
   refine Qf (Jj Z) ?_
   refine#[Hh,λt ht=>?_]
   refine q (-t) _ (some []) (s1.trans (HE.upd ht)) #[t,Z,qc] λP hP=>?_
   rw[b1]at hP;cases hP
   exact#[λ_=>rfl,λnm age c b0 e=>by rw[hpl]at e;cases e]
  |some x=>
   let#[nm,age,c]:=x;rw[hpl]at hv;let#[q0,rfl,a6]:=(show∃q0,v= .ref q0/\H1 q0=↑(.tup [.str nm,.int age,.int c])from hv)
   let#[b0,B,h7]:∃b0,D.kn.lookup nm=↑b0/\g[k].nm=nm:=by
    unfold qY at hpl;cases hrd:Zz D g[k]with
    |none=>rw[hrd]at hpl;cases hpl
    |some y=>
     rw[hrd]at hpl
     change (if(D.kn.lookup g[k].nm).isSome then ↑(g[k].nm,g[k].age,y.1)else none)=_ at hpl
     split at hpl
     .rename_i hs
      injection hpl with hpl
      injection hpl with h1 h2
      rw[h1]at hs;let#[b0,B]:=Lb.mp hs
      exact#[b0,B,h1]
     .cases hpl
   exists 4
   refine Qk (Jl (by intro z;cases z)) ?_
   have g3:=hd.same s1;intro d b5;have s2:=HE.upd (o:=zw P w d []) b5
   have u:(HG H1 d (zw P w d [])) d=↑(zw P w d []):=qc
   let#[H2,c6]:∃H2,H2=HG H1 d (zw P w d []):=#[0]
   rw[<- c6]at s2 u;refine(show eF _ _ (HG H1 d (zw P w d [])) _ from ?_)
   rw[<- c6];have a3:=g3.same s2;refine#[0,p,Z,a3.no,0,q0,1,HP.of (s2 _ _ a6),Z,p,ta,hk,bd,lg,n,D,nm,Z,a3,λen=>absurd (B.symm.trans en) (by intro z;cases z),λe xb he d9=>?_]
   obtain rfl:b0=e:=Jx (B.symm.trans he)
   refine#[Hh,λt2 f5=>?_]
   have s3:=HE.upd (o:= .tup []) f5
   have e3:=qc (H:=H2) (a:=t2) (o:= .tup [])
   generalize HG H2 t2 (.tup [])=H3 at s3 e3⊢
   let#[k8,d3]:∃k8:K8,k8.1=cW b0:=#[#[cW b0,rR _,Jg (vL _) ⋯],Z]
   have a1:=vd (d9.same s3);rw[<- d3]at a1;exists k8,xb,0,a1,s3 _ _ u
   refine#[d,[(k8,xb,-t2)],Z,qc,λo=>?_]
   have a0:∀x y,H1 x=↑y->x≠d:=λx y z=>qr z b5
   let#[H4,G]:∃H4,H4=HG (HG H3 d (zw P w d [(k8,xb,-t2)])) d (.frz o (zw P w d [(k8,xb,-t2)])):=#[0]
   have s4:HE H1 H4:=λx y z=>by
    rw[G,qh (a0 x y z),qh (a0 x y z)];exact s3 _ _ (s2 _ _ z)
   have k4:∀a xs,H3 a=↑(.tup xs)->H4 a=↑(.tup xs):=λa xs z=>by
    have y:a≠d:=qD z (s3 _ _ u) (by intro y;cases y)
    rw[G,qh y,qh y];exact z
   have g0:N8 P w H4 d [(b0,[])]:=by
    refine#[o,_,by rw[G];exact qc,.cons #[d3,(d9.same s3).to k4,t2,Z,k4 _ _ e3] .nil]
   refine(show QB 4 (-d) _ (HG (HG H3 d (zw P w d [(k8,xb,-t2)])) d (.frz o (zw P w d [(k8,xb,-t2)]))) _ from ?_)
   rw[<- G];clear G k4 e3 a1 u a3;have S4:=s1.trans s4;have h4:=hd.same S4;refine#[10,r,0,HK.of (S4 _ _ er),λsl e8=>?_]
   rw[Ea];have s5:=HE.upd (o:= .lst ((M.map V.ref).take k)) e8
   have e5:=qc (H:=H4) (a:=sl) (o:= .lst ((M.map V.ref).take k))
   generalize HG H4 sl (.lst ((M.map V.ref).take k))=H5 at s5 e5⊢
   have S5:=S4.trans s5;have f3:PN K H5 sl (g.take k):=by
    refine#[M.take k,.inl (HK.of (by rw[Kt];exact e5)),by rw[JP,JP,e7],λi x P e1 e2=>?_]
    rw[Rg]at e1 e2;split at e1
    .rename_i b6
     rw[Jc b6]at e2
     exact#[L8.same S5 (c1 i x P e1 e2),d7 _ (Jy e2)]
    .cases e1
   refine#[p,ta,hk,bd,lg,sl,n,D,g.take k,Z,hd.same S5,ok,f3,by rw[JP];lia,λl1 H6 s6 b2=>?_]
   refine#[0,q0,1,HP.of ((s5.trans s6) _ _ (s4 _ _ a6)),Z,l1,nm,0,b2,by rw[Jf,JP];lia,λl2 H7 s7 f1=>?_]
   have S7:=(S5.trans s6).trans s7;have f4:=g0.same ((s5.trans s6).trans s7);let#[f2,d4,a4,b3]:=f1;have h0:((g.take k).map (qY D)).map (Zl nm)=aC D g k nm:=Z
   rw[h0]at a4 b3;have c7:(aC D g k nm).length=k:=by unfold aC;rw[Jf,Jf,JP];lia
   generalize hos:aC D g k nm=m at a4 b3 c7
   have h5:(B2 0).filter (Q1 m)=[]:=Z
   refine#[l2,Z,#[_,HK.of d4],im (K:=K) (xs:=f2) (λi σ S=>∃dl o5 o6 o7,σ=[↑(-p),↑(-r),↑(.int (k:Int)),↑(-q0),↑(-dl),o5,o6,o7]/\HE H7 S/\N8 P w S dl (GL.all (cX D m) b0 ((B2 i).filter (Q1 m)))) #[d,20,HE.refl _,f4] (λi σ S _ h=>by
    let#[_,_,_,_,_,sx,_]:=h;exact HK.of (sx _ _ d4)) ?_ ?_]
   .rintro i x σ S pt hx ⟨dl,o5,o6,o7,rfl,sx,ls⟩ W
    have b6:i<k:=by have:=(Jw.mp hx).1;lia
    have e4:i<m.length:=by lia
    have ho:=Ji e4;have hp:=(b3 i x _ hx ho).same (sx.trans (HE.upd (o:= .tup [.int (i:Int),x]) W))
    have Y:m.getD i none=m[i]:=by rw[JN,ho];rfl
    exists pt,0,HP.of qc,8
    have R:=HE.upd (o:= .tup [.int (i:Int),x]) W
    dsimp only
    generalize HG S pt (.tup [.int (i:Int),x])=H0 at R hp⊢
    have a5:=sx.trans R;generalize m[i]=ox at hp Y
    cases ox with
    |none=>
     cases(show x= .non from hp)
     exists 4
     refine Qk (by simp) ?_
     exists dl,20,a5
     rw[nK,Jb (by unfold Q1;rw[Y];decide)]
     exact ls.same R
    |some y=>
     let#[e6,I,c2]:=y;let#[q1,rfl,O]:=hp;exists 4
     refine Qf (by simp) ?_
     have S0:=S7.trans a5;have nd:=(N3 (n:=i)).filter (Q1 m)
     have kp:=GL.kept_all (mv:=cX D m) (b0:=b0) nd
     have F:((B2 i).filter (Q1 m)).length<=10:=Jg (Kr _ _) (by rw[Kj];lia)
     refine#[10,.mk p ta hk bd lg dl q1 n i D _ e6 I c2 Z (hd.same S0) (ls.same R) O ?_ ?_ λd' H8 s8 g4=>?_]
     .exact Jg (rG _) (Jg (Os ⋯ F) ⋯)
     .exactλz hz=>Jg (kp.sub z hz).1.length_le (by lia)
     .exists d',20,a5.trans s8
      rw[nK,Jc (by unfold Q1;rw[Y];rfl)]
      have e:∀b,cX D m i b=(λ(_:Nat) b=>(zW D b I c2).2) i b:=λb=>by unfold cX;rw[Y]
      rw[tm (mv':=λ(_:Nat) b=>(zW D b I c2).2) e]
      exact g4
   .rintro σ S ⟨dl,o5,o6,o7,rfl,sx,ls⟩
    rw[a4,c7]at ls;have c4:=S7.trans sx;have g6:=hd.same c4;have g8:S q0=↑(.tup [.str nm,.int age,.int c]):=(((s4.trans s5).trans s6).trans (s7.trans sx)) _ _ a6
    generalize hL:GL.all (cX D m) b0 ((B2 k).filter (Q1 m))=L at ls
    let#[o',kvs,ed,pr]:=ls;have F:((B2 k).filter (Q1 m)).length<=10:=Jg (Kr _ _) (by rw[Kj];lia)
    have h6:L.length<=1024:=by
     rw[<- hL];exact Jg (rG _) (Jg (Os ⋯ F) ⋯)
    have kp:=GL.kept_all (mv:=cX D m) (b0:=b0) ((N3 (n:=k)).filter (Q1 m))
    rw[hL]at kp;have d1:kvs.length=L.length:=J1 pr
    refine#[0,dl,o',kvs,Z,ed,λv hv=>?_]
    have sv:=HE.upd (o:=bW dl v) hv
    have ev:=qc (H:=S) (a:=v) (o:=bW dl v)
    generalize HG S v (bW dl v)=Hv at sv ev
    refine#[v,dl,o',kvs,Z,ev,sv _ _ ed,oN (P:=P) (w:=w) (K:=K) (by rw[d1,Jt];lia) (λi ys Hy=>HE Hv Hy/\NP Hy ys (((L.take i).filter λp=> ! QP D age c p.1).map (·.2))) #[HE.refl _,.nil] (λi ys Hy h=>h.1 _ _ (sv _ _ ed)) ?_ ?_]
    .rintro i ys Hy pt ⟨kk,ka,kw⟩ f0 ⟨sy,nr⟩ W
     let#[#[b,l],g7,h1,hb,q1,d5,O]:=zT pr f0
     dsimp only at h1 hb d5 O
     subst d5;have R:=HE.upd (o:= .tup [-ka,-q1]) W
     dsimp only
     generalize HG Hy pt (.tup [-ka,-q1])=H0 at R⊢
     have s0:=(sv.trans sy).trans R;refine#[3,p,ta,hk,bd,lg,ka,q0,n,D,b,nm,age,c,Z,g6.same s0,hb.same s0,s0 _ _ g8,λH9 s9=>?_]
     have d8:=(sy.trans R).trans s9;have b7:=(nr.same (R.trans s9));have J:((L.take (i+1)).filter λp=> ! QP D age c p.1).map (·.2)=((L.take i).filter λp=> ! QP D age c p.1).map (·.2)++if QP D age c b=true then []else [l]:=by
      rw[Qq g7,Kq,JI];congr 1
      by_cases z:QP D age c b=true
      .rw[Jc z];simp [z]
      .rw[Jb z];simp [z]
     cases z:QP D age c b with
     |true=>
      rw[Jc z,GC]at J;rw[J];exists 0
      refine Qk (by unfold QP at z;rw[z];rfl) ?_
      exact#[d8,b7]
     |false=>
      rw[Jb (by rw[z];decide)]at J
      rw[J];exists 0
      refine Qf (by unfold QP at z;rw[z];rfl) ?_
      exact#[0,d8,Paired.snoc b7 #[q1,Z,(s0.trans s9) _ _ O]]
    .rintro ys Hy ⟨sy,nr⟩ hl g2
     rw[d1,J5]at nr;have uz:=HE.upd (o:= .lst ys) g2
     have ez:=qc (H:=Hy) (a:=hl) (o:= .lst ys)
     generalize HG Hy hl (.lst ys)=Hz at uz ez⊢
     have N:=nr.same uz;have Sz:=((c4.trans sv).trans sy).trans uz;have c3:∀l∈(L.filter λp=> ! QP D age c p.1).map (·.2),l.length<=1000:=λl hl=>by
      let#[z,hz,rfl]:=Ju.mp hl;exact Jg (kp.sub z (GK.mp hz).1).1.length_le (by lia)
     have a2:=N.nsL c3;have d6:∀o,((o=none/\(L.filter λp=> ! QP D age c p.1)=[])\/∃x,o=↑x/\x∈(L.filter λp=> ! QP D age c p.1).map (·.2)/\∀y∈(L.filter λp=> ! QP D age c p.1).map (·.2),GL.ltN y x=false)->∀P,g[k]? =↑P->tF D g k P o:=λo ho P hP=>by
      rw[b1]at hP;cases hP;refine#[λe=>(by rw[hpl]at e;cases e),λh8 h3 c' b' e f6=>?_]
      rw[hpl]at e;cases e
      obtain rfl:b0=b':=Jx (B.symm.trans f6)
      rw[hos];refine GL.least_all ((N3 (n:=k)).filter (Q1 m)) ?_
      rw[hL];exact ho
     refine#[0,.mk hl ys fS (ZC Hz) .non Z Z (HK.of ez) #[7,a2] (ED a2) (wB a2) (λe0=>?_) λx H' s' hx d2=>?_]
     .refine q .non Hz none Sz Z (d6 none (.inl #[Z,?_]))
      subst e0
      have:=J1 N
      rw[Jf]at this;exact OJ this.symm
     .let#[i,hi]:=K6 hx
      let#[l,b2,pq,rfl,b4]:=zT N hi;refine q _ H' ↑l (Sz.trans s') #[pq,Z,s' _ _ b4] (d6 _ (.inr #[l,Z,Jy b2,λy hy=>?_]))
      let#[j,hj]:=K6 hy
      let#[v2,g1,p2,rfl,g9]:=QV N hj
      have:=d2 _ (Jy g1)
      rw[pU g9 b4]at this;exact this
theorem lv(a:At K mg "_law_let_in" aP ["_law_world_here","_law_sent","_law_numbers","_law_k"])(T:Mq K mg tk)(xX:Df P w K mg base "_law_copy" ["_law_known"] 1 mJ)(xE:Df P w K mg base "_law_answer" X9 1 (i5 K)):Df P w K mg base "_law_let_in" X3 2 (se K):=by
 refine a.dq MM λf _ A _ s H vs Q E U h=>?_
 .let#[F,rl,nl,D,M,ss,k,hs,rfl,I,wo,sl,J,ln,hk,C,lhs,a4,q]:=h
  let#[ps,p]:∃ps:Ν,ps=ss.map (zg D):=#[0]
  rw[<- p]at q;let#[X,er,la,S]:=id sl;have t:=Ji (show k<X.length by omega)
  have g:=Ji hk;exists _,(qe (qG (i:=4) MM.nd Z (Or.inl Z) (qt xX U.mo (qd (qC U (qv 0) qm) qb)))
   (qe (zo JR Z (zK (qv 2)) (qk (i:=5) MM.nd Z (Or.inl Z))
   (qj (zJ (qt xE U.mo (qd (qv 0) (qd (qv 4) (qd (qI qJ (qv 1) (qv 5)) qb)))))))
   (qj (qw (Qn zy (qI zp (qt xE U.mo (qd (qv 0) (qd (qv 4) (qd (qI qJ (qv 1) (qv 3)) qb)))) qg) qm (qz _))))))
  refine#[0,F.m,0,I.g_known,F.kd,D.kn,Z,I.kb,wo.ok.nl,λd H2 Y y a1=>?_]
  have fr:∀c u,H c=↑u->c≠d:=λc u z=>qr z y
  have O:∀h,(GS.st (aB D ps) D.kn h).length<=60:=λh=>by
   have:=JY List.length (pB D ps h)
   rw[Jf,Jf]at this;rw[this];exact wo.ok.nl
  refine#[0,nl,Z,#[_,HK.of (Y _ _ C)],Q2 (K:=K) (xs:=q9 hs) (λj σ v=>∃o5,σ=[↑(-F.m),↑(-rl),↑(-nl),↑(.int (k:Int)),↑(-d),o5]/\Mv [d] H2 v/\Me v d (GS.st (aB D ps) D.kn (hs.take j))) #[0,Mv.refl,a1] ?_ ?_ ?_]
  .rintro j σ v _ ⟨_,_,m,_⟩
   exact HK.of (m _ _ (qK (fr _ _ C)) (Y _ _ C))
  .rintro j x σ v hx ⟨o5,rfl,m,W⟩
   unfold q9 at hx;rw[Jo]at hx;let#[o,ho,rfl]:=Ij.mp hx;have a0:=a4 o (Jy ho);have N:=Ji (show o<X.length by omega)
   have n:=Ji a0;have r:HE H v:=λc u z=>m c u (qK (fr c u z)) (Y _ _ z)
   have R:=r _ _ (S o _ _ N n);have a3:=I.same r;have B:d≠F.m:=λz=>by have:=I.di;rw[<- z,y]at this;cases this
   refine#[10,rl,16,.ref X[o],7,HK.of (r _ _ er),zI (by rw[Jo,N];rfl),F,d,_,D,M,_,ss[o],Z,a3,wo,W,O _,B,R,J _ (Jy n),λq3 H' m' G L=>?_]
   exists 0,m.trans m'
   rw[Qq ho,GS.st_snoc];have a5:ps[o]? =↑(zg D ss[o]):=(JY (λl:Ν=>l[o]?) p).trans (by rw[Jo,n];rfl)
   have e:aB D ps o (GS.st (aB D ps) D.kn (hs.take j))=(qX {D with kn:=GS.st (aB D ps) D.kn (hs.take j)} (zg D ss[o])).2:=by unfold aB;rw[a5]
   rw[e];exact L
  .rintro σ v ⟨o5,rfl,m,W⟩
   rw[show(q9 hs).length=hs.length from Jf _,J5]at W
   have r:HE H v:=λc u z=>m c u (qK (fr c u z)) (Y _ _ z)
   have B:d≠F.m:=λz=>by have:=I.di;rw[<- z,y]at this;cases this
   refine#[10,rl,16,.ref X[k],7,HK.of (r _ _ er),zI (by rw[Jo,t];rfl),F,d,_,D,M,_,ss[k],Z,I.same r,wo,W,O _,B,r _ _ (S k _ _ t g),J _ (Jy g),λq3 H' m' G L=>?_]
   let#[wd,rr,ew]:=tD {D with kn:=GS.st (aB D ps) D.kn hs} (zg D ss[k])
   rw[ew]at G;exists q3,16,.str wd,7,HP.of G,(show ZQ (V.str wd::rr) ((0:Nat):Int)=_ from zI Z)
   have a2:bE D ps k hs=decide (wd="open"):=by
    unfold bE Bb;rw[p,Jo,g]
    show decide (tU (qX _ _).1="open")=_
    rw[<- p,ew];rfl
   have:=q H' λc u z=>m' c u (qK (fr c u z)) (r _ _ z)
   rw[a2]at this
   exact#[Z,by simpa using this]
end
noncomputable def nJ:Φ:=match zi Zm with
 | [_,_,.Return ↑(.Call _ _ [kw] _) _]=>kw.value
 |_=> .Name "" default
noncomputable def F4:Arguments:=match nJ with
 | .Lambda p _ _ _=>p
 |_=>default
noncomputable def FZ:Φ:=match nJ with
 | .Lambda _ b _ _=>b
 |_=>nJ
noncomputable def Ds:Scope:=match nJ with
 | .Lambda _ _ s _=>s
 |_=>default
noncomputable def ag:Pos:=match nJ with
 | .Lambda _ _ _ p=>p
 |_=>default
noncomputable def cI:Str:="_law_choices.<locals>."++"<lambda>"
theorem i7{d e:Type}{F:d->e->Prop}:∀{l₁ a:List d} {l₂ c:List e},Paired F l₁ l₂->Paired F a c->Paired F (l₁++a) (l₂++c)
 |_,_,_,_,.nil,h=>h
 |_,_,_,_,.cons h t,h2=> .cons h (i7 t h2)
theorem vE{ps:Ν}{ss:β}{own:Nat->Bool}{k i:Nat}{a b:Sc}(d:ps=ss.map (zg D))(c:ZN ps (aD ps k)=own)(e:aD ps k=b.nm)(h:ss[i]? =↑a):own i=decide (a.nm=b.nm):=by
 rw[<- c,e];unfold ZN;rw[d,Jo,h]
 show decide ((zg D a).nm=_)=_
 rw[mz]
theorem kF(own:Nat->Bool)(i:Nat):(B2 (i+1)).filter own=(B2 i).filter own++(if own i=true then [i]else []):=by
 rw[Rq,Kq];cases z:own i<;>simp [z]
theorem CC:HF ["_law_some"] ["_law_some"] Ds:=qU
theorem mC{X:Cx}{tk:Nat->Tok}(T:Mq X.K X.mg tk)(hr:HS 3 X.A){i:V->PK}(h:FN cI F4 FZ Ds pm f i xs H2):Z9 X X.A.in1.in1 f i xs H2:=by
 let#[c,v,w,rfl,m]:=h;refine v4 (k:=0) v w CC hr.in1.in1 Z (λq s u=> .of_eq Z) (t:=_) (λs H y=>(qF (qd (qy (ax (K:=X.K) Z) T.b_len JQ (qd (qv 0) qb)) (qd (qv 0) qb)))) λx g H n=>?_
 let#[p,l,rfl,j,z]:=m x g;have d:=n _ _ j;refine#[0,p,0,.inr (HP.of d),0,(Hj),λt r=>?_]
 have s:=HE.upd (o:= .tup [.int ((q9 l).length:Int),-p]) r
 exists s
 rw[ZV j];have a:=s _ _ d;have e:(HG H t (.tup [.int ((q9 l).length:Int),-p])) t=↑(.tup [.int (GL.toZ l).length,-p]):=by
  rw[qc,GL.toZ_len,show(q9 l).length=l.length from Jf _]
 generalize HG H t (.tup [.int ((q9 l).length:Int),-p])=A at a e⊢
 rw[bU]at a;exact fX a e
section
variable{K:ι}{tk:Nat->Tok}
theorem jx(a:PZ K mg "_law_choices" Zm ["_law_sent","_law_k"] c)(T:Mq K mg tk)(hC:W.CodeHd base c P0)(hB:base.BuiltinsAt mg P0):Df P w K mg base "_law_choices" ["_law_sent","_law_k"] 4 (gr P0 ag cI):=by
 refine a.dq Mt (λm H Q E h=>?_) (λf A d3 s H m Q E hr h=>?_)
 .let#[_,_,_,_,rfl,_]:=h
  rfl
 .let#[rl,D,ss,k,rfl,tb,sl,ln,hk,q]:=h
  let#[ps,C]:∃ps:Ν,ps=ss.map (zg D):=#[0]
  have d9:ps.length=ss.length:=by rw[C,Jf]
  rw[<- C]at q;have b4:=sl.same (zR (H:=H))
  let#[U,er,la,a0]:=id b4;have G:=Ji (show k<U.length by lia)
  have L:=Ji hk;have a3:=a0 k _ _ G L;have c5:aD ps k=ss[k].nm:=by unfold aD;rw[C,Jo,L];exact mz D _
  generalize hown:ZN ps (aD ps k)=own at *
  exists _,(qe (qG (i:=2) Mt.nd Z (Or.inl Z) (zb (qd (qF qb) qb)))
   (qe (zo JR Z (Qi Z T.b_range (qd (qv 1) qb)) (qk (i:=3) Mt.nd Z (Or.inr Z))
   (qj (qM (qA zy (qI zp (qI qJ (qv 0) (qv 3)) qg) (qI zp (qI qJ (qv 0) (qv 1)) qg) (qz _)) (qj (qG (i:=2) Mt.nd Z (Or.inl Z) (qx wg (qv 2) (zH (own:=["_law_some"]) (fr:=["_law_number"]) (js:=[3]) Z (zK (qv 2)) Z (ao Z) Z (aq Z nofun nofun nofun Z Z Z) (λ_ _ _ _=>qk (i:=0) (show List.Nodup (["_law_some","_law_number"]:Β)from by decide +kernel) Z (Or.inl Z) (.inr Z)) (λ_ _ _ _=>(qx bV (qv 0) (qF (qd (qv 1) qb)))))))) qH)))
   (qj (qw (Ax (FN _ _ _ _ ((mg "__name__").getD .none)) (λf kf xs H2 h=>mC T (hr.mono (by decide:3<=3)) h) (hr.mono (by decide:1<=3)) (by rfl) T.b_sorted (qd (qv 2) qb) (Ep Z hC hB Z Z))))))
  have z0:0<=ζ:=by decide
  refine#[z0,λF c3=>?_]
  have s1:=HE.upd (o:= .tup []) c3
  have e1:(HG H F (.tup [])) F=↑(.tup []):=qc
  generalize HG H F (.tup [])=H1 at s1 e1⊢
  refine#[Hi,λly c4=>?_]
  have s2:=HE.upd (o:= .lst [-F]) c4
  have e2:(HG H1 ly (.lst [-F])) ly=↑(.lst [-F]):=qc
  generalize HG H1 ly (.lst [-F])=H2 at s2 e2⊢
  have S2:=s1.trans s2;have ek:((k:Nat):Int).toNat=k:=GD k
  refine#[0,(k:Int),Z,by lia,by lia,Zy (n:=((k:Nat):Int).toNat) (Pv:=λi σ I=>∃y o3 m,σ=[↑(-rl),↑(.int (k:Int)),↑(-y),o3]/\HE H2 I/\I y=↑(.lst m)/\NP I m (GL.subs ((B2 i).filter own))) #[ly,none,0,HE.refl _,e2,.cons #[F,Z,s2 _ _ e1] .nil] ?_ ?_]
  .rintro i σ I d5 ⟨y,o3,m,rfl,sx,g,d⟩
   rw[show(0+(i:Int))=(i:Int)from Ku _]
   have hi:i<k:=by lia
   have a5:=Ji (show i<U.length by lia)
   have b2:=Ji (show i<ss.length by lia)
   have d1:=a0 i _ _ a5 b2;have J:=S2.trans sx;have eo:=vE C hown c5 b2;have t:=kF own i;let#[ns,b3]:∃ns,ns=(B2 i).filter own:=#[0]
   have c1:ns.length<=9:=by rw[b3];have:=Kr own (B2 i);rw[Kj]at this;lia
   rw[<- b3]at d t;have X:=GL.subs_len ns;have pw:2 ^ ns.length<=2 ^ 9:=Os (by lia) c1
   have R:=J1 d;exists 2,rl,16,.ref U[i],7,HK.of (J _ _ er),zI (by rw[Jo,a5];rfl),U[i],1,HP.of (J _ _ d1),42,rl,16,.ref U[k],7,HK.of (J _ _ er),zI (by rw[Jo,G];rfl),U[k],1,HP.of (J _ _ a3),51
   by_cases hn:ss[i].nm=ss[k].nm
   .refine Qf (by rw[hn];exact Jj Z) ?_
    rw[Jj hn]at eo;rw[Jc eo]at t;refine#[2,y,Z,#[_,HK.of g],QK (K:=K) (xs:=m) (by rw[R,X,Jt];lia) (λj ys u=>HE I u/\NP u ys (((GL.subs ns).take j).map (· ++[i]))) #[HE.refl _,.nil] (λj ys u p=>HK.of (p.1 _ _ g)) ?_ ?_]
    .rintro j ys u x hx b0 ⟨B,ny⟩
     let#[l,hl,p,rfl,hp]:=zT d hx;have d8:=((GL.mem_subs.mp (Jy hl)).length_le);refine#[2,Hi,λtk b5=>?_]
     have N:=HE.upd (o:= .tup [.int (i:Int)]) b5
     refine#[p,tk,q9 l,[.int (i:Int)],7,N _ _ (B _ _ hp),qc,by unfold q9;rw[Jf,Jt];show l.length+1<=_;lia,λpv Hv sv c2=>?_]
     exists (B.trans N).trans sv
     rw[Qq hl,JI];exact Paired.snoc (ny.same (N.trans sv)) #[pv,Z,by rw[c2];unfold q9;rw[JI];rfl]
    .rintro ys u b0 ⟨B,ny⟩ cl b7
     have S:=HE.upd (o:= .lst ys) b7
     rw[R,J5]at ny;refine#[y,cl,m,ys,7,S _ _ (B _ _ g),qc,by rw[b0,R,X,Jt];lia,λnl d4=>?_]
     have a4:=HE.upd (o:= .lst (m++ys)) d4
     have S4:=(B.trans S).trans a4;exists nl,5,sx.trans S4,qc
     rw[t,GL.subs_snoc];exact i7 (d.same S4) (ny.same (S.trans a4))
   .refine Qk (Jl (by intro z;injection z with z;exact hn z)) ?_
    rw[Jl hn]at eo;rw[Jb (by rw[eo];decide),GC]at t
    exact#[y,5,sx,g,by rw[t];exact d]
  .rintro σ I ⟨y,o3,m,rfl,sx,g,d⟩
   rw[ek]at d;have J:=S2.trans sx;have c7:(B2 k).filter own=zf ps k:=by unfold zf;rw[hown]
   rw[c7]at d;have d7:(zf ps k).length<=9:=by unfold zf;have:=Kr (ZN ps (aD ps k)) (B2 k);rw[Kj]at this;lia
   have b6:∀l∈GL.subs (zf ps k),l.length<=1000:=λl hl=>by have:=(GL.mem_subs.mp hl).length_le;lia
   let#[qs,hP,hE]:=tb;have O:=J _ _ hP;have b1:y≠P0:=λz=>by rw[z,O]at g;cases g
   refine#[0,zc I P0,qs,(BA O).symm,bZ,hE.same (QN J),λlf lc r u B Y d0 _ c0 c6=>?_]
   have a2:zc I P0 y=↑(.lst m):=by rw[QQ b1];exact g
   have up:∀b o,u b=↑o->(HG u P0 (.tbl r)) b=↑o:=λb o z=>by rw[qh (qr z Y)];exact z
   have a6:=up _ _ (B _ _ a2);have M:NP (HG u P0 (.tbl r)) m (GL.subs (zf ps k)):=Paired.mapP d λv l ⟨p,e,z⟩=>#[p,e,up _ _ (B _ _ (by rw[QQ (qD z O (by intro z;cases z))];exact z))]
   have nl:=M.nsL b6;refine#[y,m,lf,ZC _,7,HK.of a6,#[lc,up _ _ c0,up _ _ c6,Z,nl],wU nl,wB nl,λDl ys H' d6 sD eD pm pw=>?_]
   let#[Ms,pM,nM]:=M.perm pm;have d2:=sD _ _ (show(HG u P0 (.tbl r)) P0=↑(.tbl r)from qc)
   have a1:HE u (zc H' P0):=λb o z=>by
    rw[QQ (qr z Y)];exact sD _ _ (up _ _ z)
   refine q Dl H' ys Ms #[r,d2,d0.same a1] ((QN J).trans (B.trans a1)) eD (nM.same sD) pM ?_
   exact(nM.pair pw).imp id
theorem aM(h:Z3 P0 pos q H)(s:HE H H'):Z3 P0 pos q H':=by
 let#[ps,h1,a]:=h
 exact#[ps,s _ _ h1,a.same (QN s)]
theorem cE(h:Z3 P0 pos q H){a:Δ}{o:HO}(e:H a=↑o)(ho:∀ps,o≠ .tbl ps):zc H P0 a=↑o:=by
 let#[ps,h1,c]:=h;rw[QQ (qD e h1 (ho ps))];exact e
theorem uw(a:At K mg "_law_due" eC ["_law_world_here","_law_sent","_law_k"])(T:Mq K mg tk)(xK:Df P w K mg base "_law_choices" ["_law_sent","_law_k"] 4 (gr P0 ag cI))(xL:Df P w K mg base "_law_let_in" X3 2 (se K)):Df P w K mg base "_law_due" W3 5 (sA P0 ag cI K):=by
 refine a.dq M9 λf _ A _ s H vs Q E hr h=>?_
 .let#[wa,rl,D,a4,ss,k,rfl,tb,wk,wo,sl,a2,ln,hk,q]:=h
  let#[ps,c]:∃ps:Ν,ps=ss.map (zg D):=#[0]
  have b6:ps.length=ss.length:=by rw[c,Jf]
  rw[<- c]at q;have a1:=sl.same (zR (H:=H))
  let#[F,er,la,M]:=id a1;have u:=Ji (show k<F.length by lia)
  have t:=Ji hk;have L:=M k _ _ u t;have b1:aD ps k=ss[k].nm:=by unfold aD;rw[c,Jo,t];exact mz D _
  generalize hown:ZN ps (aD ps k)=own at *
  have ek:((k:Nat):Int).toNat=k:=GD k
  exists _,(qe (nS (i:=3) M9.nd Z (Or.inl Z) (own:=["_law_number"]) (fr:=["_law_sent","_law_k"]) (js:=[1,2]) Z (Qi Z T.b_range (qd (qv 2) qb)) Z (ym Z Z) Z (xo Z nofun nofun nofun Z Z Z Z Z Z) (λ_ _ _ _=>qk (i:=0) (show List.Nodup (["_law_number","_law_sent","_law_k"]:Β)from by decide +kernel) Z (Or.inl Z) (.inr Z)) (λ_ _ _ _=>(qA zy (qI (jg (K:=K) Z) (qI (cM (K:=K) Z) (qv 1) (qv 0)) qg) (qI (jg (K:=K) Z) (qI (cM (K:=K) Z) (qv 1) (qv 2)) qg) (qz _))) (λ_ _ _ _=>(qv 0)))
   (qe (zo JR Z (zK (qt xK hr.mo (qd (qv 1) (qd (qv 2) qb)))) (qk (i:=4) M9.nd Z (Or.inr Z))
   (qj (qM (QF (Qa (qt xL hr.mo (qd (qv 0) (qd (qv 1) (qd (wY (own:=["_law_number"]) (fr:=["_law_lost"]) (js:=[4]) Z (zK (qv 3)) Z (ao Z) Z (aq Z nofun nofun nofun Z Z Z) (λ_ _ _ _=>qk (i:=0) (show List.Nodup (["_law_number","_law_lost"]:Β)from by decide +kernel) Z (Or.inl Z) (.inr Z)) (λ_ _ _ _=>(qA (lu (K:=K) Z) (qv 0) (qv 1) (by rfl))) (λ_ _ _ _=>(qv 0))) (qd (qv 2) qb))))))) (qj (qw (qv 4))) qH)))
   (qj (qw zk))))
  refine#[0,(k:Int),Z,by lia,by lia,oR (n:=((k:Nat):Int).toNat) (by rw[ek,Jt];lia) (λi ys d=>HE H d/\ys=q9 ((B2 i).filter own)) #[HE.refl _,Z] ?_ ?_]
  .rintro i ys d c0 ⟨B,rfl⟩
   rw[show(0+(i:Int))=(i:Int)from Ku _]
   have hi:i<k:=by lia
   have N:=Ji (show i<F.length by lia)
   have J:=Ji (show i<ss.length by lia)
   have a0:=M i _ _ N J;have eo:=vE c hown b1 J;have a6:=kF own i;exists 2,rl,16,.ref F[i],7,HK.of (B _ _ er),zI (by rw[Jo,N];rfl),F[i],1,HP.of (B _ _ a0),42,rl,16,.ref F[k],7,HK.of (B _ _ er),zI (by rw[Jo,u];rfl),F[k],1,HP.of (B _ _ L),51
   rw[a6,eo]
   by_cases hn:ss[i].nm=ss[k].nm
   .refine Qf (by rw[hn];exact Jj Z) ?_
    rw[Jj hn]
    exact#[0,B,by unfold q9;rw[JI];rfl]
   .refine Qk (Jl (by intro z;injection z with z;exact hn z)) ?_
    rw[Jl hn]
    exact#[B,by rw[Jb ⋯,GC]]
  rintro ys d ⟨sx,rfl⟩ G b4
  rw[ek]at *
  have a5:(B2 k).filter own=zf ps k:=by unfold zf;rw[hown]
  rw[a5];have b7:(zf ps k).length<=9:=by unfold zf;have:=Kr (ZN ps (aD ps k)) (B2 k);rw[Kj]at this;lia
  have s1:=sx.trans (HE.upd (o:= .lst (q9 (zf ps k))) b4)
  have e1:(HG d G (.lst (q9 (zf ps k)))) G=↑(.lst (q9 (zf ps k))):=qc
  generalize HG d G (.lst (q9 (zf ps k)))=H1 at s1 e1⊢
  have R:=aM tb s1;have h1:=QN (P:=P0) s1
  refine#[2,rl,D,ss,k,Z,R,sl.same h1,ln,hk,λl H2 zs W I O hl nr Y pw=>?_]
  rw[<- c]at Y;have b3:=zR _ _ (O _ _ (cE R e1 (by intro ps z;cases z)))
  have h2:=h1.trans O;have H2s:HE (zc H P0) H2:=h2.trans zR
  have b5:=Y.length_eq;refine#[l,Z,#[_,HK.of hl],Q2 (K:=K) (xs:=zs) (λj σ d=>∃o4,σ=[↑(-wa.m),↑(-rl),↑(.int (k:Int)),↑(-G),o4]/\HE H2 d/\∀S∈W.take j,bE D ps k ((zf ps k).filter λi=>decide (i∉S))=true) #[0,HE.refl _,by simp] ?_ ?_ ?_]
  .rintro j σ d _ ⟨_,_,r,_⟩
   exact HK.of (r _ _ hl)
  .rintro j x σ d y ⟨o4,rfl,r,m⟩
   let#[S,hS,p,rfl,hp]:=zT nr y;have b2:∀i∈zf ps k,i<k:=λi hi=>(Nt.mp hi).1
   have v:=r _ _ b3;refine#[3,G,Z,#[_,HK.of v],tu (K:=K) (xs:=q9 (zf ps k)) (by unfold q9;rw[Jf,Jt];lia) (λj ys C=>HE d C/\ys=q9 (((zf ps k).take j).filter λi=>decide (i∉S))) #[HE.refl _,Z] (λj ys C p=>HK.of (p.1 _ _ v)) ?_ ?_]
   .rintro j' ys C x y ⟨sz,rfl⟩
    unfold q9 at y;rw[Jo]at y;let#[o,ho,rfl]:=Ij.mp y;exists 2,p,0,.inr (HP.of (sz _ _ (r _ _ hp))),Z,Ar S
    rw[Eh,Jc Z];exists 0
    rw[Qq ho,Kq]
    by_cases g:o∈S
    .refine Qk (by simp [g]) ?_
     exact#[sz,by rw[show [o].filter (λi=>decide (i∉S))=[] by simp [g],GC]]
    .refine Qf (by simp [g]) ?_
     exact#[0,sz,by rw[show [o].filter (λi=>decide (i∉S))=[o] by simp [g]];unfold q9;rw[JI];rfl]
   .rintro ys C ⟨sz,rfl⟩ U b0
    rw[show(q9 (zf ps k)).length=(zf ps k).length from Jf _,J5]
    let#[hs,e]:∃hs,hs=(zf ps k).filter λi=>decide (i∉S):=#[0]
    rw[<- e];have lhs:hs.length<=10:=by rw[e];have:=Kr (λi=>decide (i∉S)) (zf ps k);lia
    have s4:=sz.trans (HE.upd (o:= .lst (q9 hs)) b0)
    have e4:(HG C U (.lst (q9 hs))) U=↑(.lst (q9 hs)):=qc
    generalize HG C U (.lst (q9 hs))=H4 at s4 e4⊢
    have S4:=H2s.trans (r.trans s4);refine#[0,wa,rl,U,D,a4,ss,k,hs,Z,wk.same S4,wo,sl.same S4,a2,ln,hk,e4,lhs,λi hi=>?_,λH5 s5=>?_]
    .rw[e]at hi
     have:=(Nt.mp (GK.mp hi).1).1
     lia
    .rw[<- c]
     have X:=(r.trans s4).trans s5;exists 0
     cases hb:bE D ps k hs with
     |true=>
      refine zS ?_
      refine#[0,X,λT hT=>?_]
      rw[Qq hS,JD,Jm]at hT;rcases hT with hT|rfl
      .exact m T hT
      .rw[<- e];exact hb
     |false=>
      refine Ql ?_
      exists 0
      refine q (-p) H5 ↑S (aM I X) (h2.trans (QN X)) #[p,Z,X _ _ hp] #[W,Y,pw,?_]
      refine(GS.find_at hS (by rw[<- e,hb];rfl) λi h a3 hi=>?_).symm
      rw[m h (Jy (show(W.take j)[i]? =↑h by rw[N4 a3];exact hi))];rfl
  .rintro σ d ⟨o4,rfl,r,m⟩
   refine q .non d none (aM I r) (h2.trans (QN r)) Z #[W,Y,pw,?_]
   refine(GS.find_no λi x hi y=>?_).symm
   rw[m x (by rw[J1 nr,J5];exact Jy y)];rfl
theorem dc(a:ND K C "plain_step" "Door.plain_step" QC ["self","button","age","count"])(T:Mq K mg tk)(U:MS K C)(j:Mf P w K mg base C "takes_from" X8 2 (fC K C))(l:Df P w K mg base "step_by" X4 2 jo):Mf P w K mg base C "plain_step" x5 3 (gN K C):=by
 refine a.mq ae λf _ A _ s H m Q E i h=>?_
 .let#[p,ta,hk,bd,lg,x,n,D,e,age,c,rfl,b,g,q]:=h
  exists _,(qe (qM (QF (Qa (zu j U.cl i.mo (qv 0) (qd (qv 1) (qd (qv 2) qb))))) (qj (qw (qF (qd qm (qd (qv 1) qb))))) qH)
   (qj (qw (qt l i.mo (qd (qv 1) (qd (qv 2) (qd (qv 3) (qd (zd (qv 0)) (qd (zd (qv 0)) qb)))))))))
  exists 0,p,Z,b.no,2,p,ta,hk,bd,lg,x,n,D,e,age,Z,b,g,0
  unfold zW at q;cases ht:zn D e age with
  |false=>
   rw[ht,Jb (by intro z;cases z)]at q
   refine Ql #[0,Hj,λq1 d=>?_]
   exact q q1 x _ (HE.upd d) qc (g.same (HE.upd d))
  |true=>
  rw[ht,Jc Z]at q;refine zS ?_
  exact#[10,p,0,b.h_near U,0,p,0,b.h_far U,x,e,age,c,D.near,D.far,Z,g,q]
theorem xg{b:Nat}(h:NB H pos q ps)(bx:Mn H b n)(g:Mj b n' H H'):NB H' pos q ps:=by
 rcases h with h|⟨c,h,a⟩
 .exact .inl h
 .refine .inr #[c,h,g.kp _ _ (λe=>?_) a]
  let#[x,y,z,d,_]:=id bx;rw[e,d]at a;cases a
theorem aG(c:NB a pos q ps)(hn:a P0=none):∃H',HG a P0 (.tbl ps)=H'/\zc H' P0=a/\Z3 P0 pos q H':=
 #[0,pW hn,ps,qc,by rw[pW hn];exact c]
structure Ox(K:ι)(H:Hp)(D:Dr)(rl pl:Δ)(ss:β):Prop where
 sl:Nl H rl ss
 ps:NJ H pl (ss.map (zg D))
 ok:∀s∈ss,M3 D s
 ln:ss.length<=10
theorem Ox.same{pl:Δ}(r:Ox K H D rl pl ss)(s:HE H H'):Ox K H' D rl pl ss:=#[r.sl.same s,r.ps.same s,r.ok,r.ln]
theorem Ck{Q:VK}(h1:ju H v o)(h2:ju H a o)(hl:∀h,o=↑h->h.length<=100)(q:∀H',HE H H'->Q (.bl true) H'):O6 2 [v,a] H Q:=by
 cases o with
 |none=>
  obtain rfl:v=V.non:=h1
  obtain rfl:a=V.non:=h2
  exact#[5,.inr (.inl #[⋯,7]),q]
 |some h=>
  let#[c,rfl,f]:=h1;let#[d,rfl,e]:=h2;rw[bU]at f e
  exact#[5,.inr (.inr #[c,d,_,⋯,7,f,e,by rw[GL.toZ_len,Jt];have:=hl h Z;lia]),q]
theorem Do(h:ju H v o)(tb:Z3 P0 pos q H)(s:HE (zc H P0) (zc H' P0)):ju H' v o:=by
 cases o with
 |none=>exact h
 |some x=>let#[q,e,a]:=h;exact#[q,e,zR _ _ (s _ _ (cE tb a (by intro ps z;cases z)))]
theorem CP{k:Nat}(h:Ao D ps k o)(hk:k<=10):∀x,o=↑x->x.length<=100:=by
 rintro x rfl
 let#[f,c,_,e]:=h;have a:=c.mem_iff.mp (N1 e.symm);have h1:=(GL.mem_subs.mp a).length_le;have d:(zf ps k).length<=k:=by unfold zf;have:=Kr (ZN ps (aD ps k)) (B2 k);rw[Kj]at this;exact this
 lia
inductive iQ(P0:Δ)(K:ι)(vs:Α)(H:Hp)(Q:VK)(_:XK):Prop
 |mk (a:Δ)(ns:Ε)(h1:vs=[-a])(h0:lw P0 H)(h2:HK K H a (ns.map V.int))(h3:ns.length<=63)(h4:∀H',Q (.bl true) H')
theorem DS(F:Oc K "law" "law" aH f fd)(T:Mq K mg tk)(U:MS K C)(xW:Df P w K mg base "_law_begun" W5 9 (j8 K C))(xF:Df P w K mg base "_law_stands" ["_law_door_here"] 2 (ip K C))(xG:Df P w K mg base "_law_other_row" X6 5 (kI K))(yE:Df P w K mg base "_law_due" W3 5 (sA P0 ag cI K))(xP:Df P w K mg base "least_lost" ["door","row","k"] 9 (lL K C))(yJ:∀n:Nat,n<=8->Df P w K mg base "_law_same" ["_law_found","_law_due_here"] (n+1) (C7 n)):M5 P w K mg base ZS 11 f fd ["_law_script"] (iQ P0 K):=by
 have xB:=yJ 2 ⋯
 refine F.dq MC (λvs H Q E h=>?_) (λcdv A g9 s H vs Q E J h=>?_)
 .let#[x,ns,rfl,_]:=h
  rfl
 .let#[sc,ns,rfl,hO,hS,j0,q]:=h
  have tb:Z3 P0 ag cI H:=#[(B1 []),hO.1,.inl Z]
  have g2:HK K (zc H P0) sc (ns.map V.int):=by
   rcases hS with h|h
   .rcases h with h|⟨o,h⟩
    .exact .inl (.inl (cE tb h (by intro ps z;cases z)))
    .exact .inl (.inr #[o,cE tb h (by intro ps z;cases z)])
   .exact .inr h
  exists _,(qe (zo JR Z (Qi Z T.b_range (qd (qx qL qg (qy (bz Z) T.b_min PyProof.Rows.boot_min (qd qg (qd (qy qN T.b_len JQ (qd (qv 0) qb)) qb)))) qb)) (qk (i:=1) MC.nd Z (Or.inl Z))
   (qe (zr (cw (P:=P0) xW J.mo (qd (qv 0) (qd (qv 1) (qd qg qb)))) (QH Z (qu (qk (i:=2) MC.nd Z (Or.inl Z)) (qu (qk (i:=3) MC.nd Z (Or.inl Z)) (qu (qk (i:=4) MC.nd Z (Or.inl Z)) (qu (qk (i:=5) MC.nd Z (Or.inl Z)) (qu (qk (i:=6) MC.nd Z (Or.inl Z)) qW)))))))
   (qe (qG (i:=7) MC.nd Z (Or.inl Z) (cw (P:=P0) xF J.mo (qd (qv 4) qb)))
   (qe (zr (cw (P:=P0) xG J.mo (qd (qv 2) (qd (qv 3) (qd qg qb)))) (QH Z (qu (qk (i:=8) MC.nd Z (Or.inl Z)) (qu (qk (i:=9) MC.nd Z (Or.inl Z)) qW))))
   (qe (zo JR Z (Qi Z T.b_range (qd (qy (fc Z) T.b_max LZ (qd (qy (ax (K:=K) Z) T.b_len JQ (qd (qv 6) qb)) (qd (qy qN T.b_len JQ (qd (qv 9) qb)) qb))) qb)) (qk (i:=10) MC.nd Z (Or.inl Z))
   (qj (zo JR Z (nY (qF (qd (qF (qd (qv 5) (qd (qv 6) qb))) (qd (qF (qd (qv 8) (qd (qv 9) qb))) qb)))) (QH Z (qu (qk (i:=11) MC.nd Z (Or.inl Z)) (qu (qk (i:=12) MC.nd Z (Or.inl Z)) qW)))
   (qj (qM (qA fw (qv 10) (qy qN T.b_len JQ (qd (qv 12) qb)) (qz _)) (qj (qM (QF (Qa (qt xB J.mo (qd (qt xP J.mo (qd (qv 4) (qd (qv 12) (qd (qv 10) qb)))) (qd (qt yE J.mo (qd (qv 3) (qd (qv 11) (qd (qv 10) qb)))) qb))))) (qj (qw cr)) qH)) qH)))))
   (qj (qM (qA (DQ J) (cw (P:=P0) xF J.mo (qd (qv 4) qb)) (qv 7) (qz _)) (qj (qw cr)) qH)))))))
   (qj (qw cr)))
  exists 0,sc,0,.inl hS,55,?_,?_
  .split<;>lia
  .split<;>lia
  refine Zy (Pv:=λi σ Hx=>HE (zc H P0) (zc Hx P0)/\Z3 P0 ag cI Hx/\∃(o1 o2 o3 o4 o5 o6 o7 o8 o9 oa ob oc:Μ),σ=[↑(-sc),o1,o2,o3,o4,o5,o6,o7,o8,o9,oa,ob,oc]) #[HE.refl _,tb,30] ?_ ?_
  .rintro k σ Hx hk ⟨sx,b0,o1,o2,o3,o4,o5,o6,o7,o8,o9,oa,ob,oc,rfl⟩
   rw[show(0+(k:Int))=(k:Int)from Ku _]
   have l0:k<6:=by
    refine Jn hk ?_
    split<;>lia
   let#[b5,f2,h1]:=id b0;refine ZP λD1 d1=>?_
   refine#[2,b5,f2,sc,ns,k,(10),by simp,sx.seq g2,by lia,by lia,λq1 b rl pl wa y D L a2 ss G4 s4 c4 fb bx wk wo dl hL e1 sl pL c7 l1 c2=>?_]
   let#[H4,e4,h4,f3]:=aG (h1.same s4) c2
   rw[e4];clear e4;subst h4;exists q1,0,HP.of (zR _ _ c4),13
   refine d1 _ _ ?_
   let#[h3,c5,i0]:=id f3;refine ZP λD2 d2=>?_
   refine#[0,h3,c5,y,D,L,Z,dl,wo.ok,λqa G5 B st f5=>?_]
   let#[H5,e5,h5,g7]:=aG (i0.same B) f5
   rw[e5];clear e5;subst h5;refine d2 _ _ ?_
   have e:=(B.grc bx).bx;let#[g0,c0,d5]:=id g7;refine ZP λD3 d3=>?_
   refine#[2,g0,c0,b,wa,(1000),(5),D,a2,Z,e,by lia,wk.same B,wo,⋯,λq2 c Zc b1 G6 g6 l2 k1 f6 b7 e8 a3 j1 g1=>?_]
   let#[H6,e6,h6,c6]:=aG (xg d5 e g6) g1
   rw[e6];clear e6;subst h6;exists q2,0,HP.of (zR _ _ f6),8
   refine d3 _ _ ?_
   have g3:zc H P0 b=none:=ZR fb sx
   have S6:HE (zc H P0) (zc H6 P0):=mO g3 (sx.trans (s4.trans B)) g6
   have Nq:=(wk.same B).grc e g6;have a4:=(dl.same B).grc e g6 e1;have d0:=st.grc e g6;have ra:Ox K (zc H6 P0) D rl pl ss:=#[(sl.same B).grc e g6,(pL.same B).grc e g6,c7,by lia]
   have rb:Ox K (zc H6 P0) D c Zc b1:=#[b7,e8,a3,by lia]
   let#[ap,ep,g8,_]:=id ra.ps;let#[k4,b4,b2,_]:=id rb.ps;have b6:=zR _ _ ep;have a5:=zR _ _ b4;have k0:=ra.ln;have k9:=rb.ln;rw[Jf]at g8 b2;refine ZP λD4 d4=>?_
   exists 0,pl,0,.inl (HK.of b6),0,Zc,0,.inl (HK.of a5),_,_,Z,_,Z,?_,?_
   .simp only[Jf];split<;>lia
   .simp only[Jf];split<;>lia
   refine Zy (Pv:=λi σ N=>HE (zc H6 P0) (zc N P0)/\Z3 P0 ag cI N/\∃(a0 g d:Μ),σ=[↑(-sc),↑(.int (k:Int)),↑(-b),↑(-wa.m),↑(-y.p),↑(-rl),↑(-pl),↑(-qa),↑(-c),↑(-Zc),a0,g,d]) #[HE.refl _,c6,20] ?_ ?_
   .rintro M σ N k2 ⟨sy,Y,a0,g,d,rfl⟩
    rw[show(0+(M:Int))=(M:Int)from Ku _]
    refine#[2,Hj,λl d8=>#[2,Hj,λt d6=>#[Hj,λt3 d9=>?_]]]
    have v1:=HE.upd (o:= .tup [-rl,-pl]) d8
    have v2:=HE.upd (o:= .tup [-c,-Zc]) d6
    have v3:=HE.upd (o:= .tup [-l,-t]) d9
    have u:=v3 _ _ (v2 _ _ (qc (H:=N) (a:=l) (o:= .tup [-rl,-pl])))
    have m:=v3 _ _ (qc (H:=HG N l (.tup [-rl,-pl])) (a:=t) (o:= .tup [-c,-Zc]))
    have X:(HG (HG (HG N l (.tup [-rl,-pl])) t (.tup [-c,-Zc])) t3 (.tup [-l,-t])) t3=↑(.tup [-l,-t]):=qc
    have V3:=(v1.trans v2).trans v3;generalize HG (HG (HG N l (.tup [-rl,-pl])) t (.tup [-c,-Zc])) t3 (.tup [-l,-t])=H7 at v3 u m X V3⊢
    have j:=aM Y V3;have S7:=sy.trans (QN V3);have u:=cE j u (by intro ps z;cases z)
    have m:=cE j m (by intro ps z;cases z)
    have a1:=cE j X (by intro ps z;cases z)
    refine#[t3,Z,#[_,HP.of X],rD (K:=K) (xs:=[-l,-t]) (λi σ O=>HE (zc H7 P0) (zc O P0)/\Z3 P0 ag cI O/\∃(g d:Μ),σ=[↑(-sc),↑(.int (k:Int)),↑(-b),↑(-wa.m),↑(-y.p),↑(-rl),↑(-pl),↑(-qa),↑(-c),↑(-Zc),↑(.int (M:Int)),g,d]) #[HE.refl _,j,5] (λi σ O _ p=>HP.of (zR _ _ (p.1 _ _ a1))) ?_ ?_]
    .rintro i x σ O hx ⟨sz,r,g,d,rfl⟩
     have Sz:=S7.trans sz;let#[tt,rr,pp,R,rfl,c3,G]:∃tt rr pp R,x= .ref tt/\zc O P0 tt=↑(.tup [-rr,-pp])/\Ox K (zc O P0) D rr pp R:=by
      match i,hx with
      |0,hx=>cases hx;exact#[l,rl,pl,ss,Z,sz _ _ u,ra.same Sz]
      |1,hx=>cases hx;exact#[t,c,Zc,b1,Z,sz _ _ m,rb.same Sz]
     have d7:=Nq.same Sz;have g5:=a4.same Sz;have I:=zR (H:=O) (P:=P0)
     exists tt,0,HP.of (zR _ _ c3),8
     let#[az,ez,S,hz]:=id G.ps;rw[Jf]at S;exists 2,pp,0,.inl (HK.of (zR _ _ ez)),23
     by_cases W:M<R.length
     .refine Qf (Jj (by rw[Jf,S];lia)) ?_
      have f1:=Ji W;have k8:=G.ln;refine#[3,y.p,y.ta,y.hk,y.bd,y.lg,pp,L.length,D,R.map (zg D),M,(by simp),(g5.same I).dr,wo.ok,G.ps.same I,λP hP=>?_,by rw[Jf];exact G.ln,by rw[Jf];exact W,λv H8 o s8 hv hL=>?_]
      .let#[s,h2,rfl]:=Ju.mp hP
       exact iX (G.ok s h2) wo.ok.tp
      have b3:=aM r s8;have h8:=QN (P:=P0) s8
      refine#[3,wa,rr,D,a2,R,M,(by simp),b3,d7.same h8,wo,G.sl.same h8,G.ok,G.ln,W,λv2 H9 o2 e2 h9 e3 hD=>?_]
      have hP:(R.map (zg D))[M]? =↑(zg D R[M]):=by rw[Jo,f1];rfl
      obtain rfl:=t9 hP (hL _ hP) hD
      have c1:=CP hD (by lia)
      refine Ck (Do hv b3 h9) e3 c1 λH10 a6=>#[0,zS ?_]
      exact#[sz.trans ((h8.trans h9).trans (QN a6)),aM e2 a6,5]
     .refine Qk (Jl (by rw[Jf,S];lia)) ?_
      exact#[sz,r,5]
    .rintro σ O ⟨sz,r,g,d,rfl⟩
     exact#[S7.trans sz,r,20]
   .rintro σ N ⟨sy,Y,a0,g,d,rfl⟩
    refine d4 _ _ ?_
    have h0:=a4.same sy;let#[i1,f4,f0]:=id Y;refine#[0,i1,f4,y,D,L,Z,h0,wo.ok,λq6 G7 s7 g4 i2=>?_]
    let#[H7,e7,h7,j]:=aG (f0.same s7) i2
    rw[e7];clear e7;subst h7
    exact#[0,(6),⋯,(g4.same zR).eqk (((d0.same sy).same s7).same zR) (by lia),0,zS #[S6.trans (sy.trans s7),j,30]]
  .rintro σ Hx ⟨sx,b0,o1,o2,o3,o4,o5,o6,o7,o8,o9,oa,ob,oc,rfl⟩
   exact q _
end
theorem Dm{l:W.OpenLaw}{K:ι}(X:K.In h)(G:h.Ns η mg)(Y:mg "law"=↑(-fa)){c0 P0:Δ}(ht:W.tabIn K "_law_choices"=↑(c0,P0))
  
  (N:W.nsIn K η "Door"=↑(↑(-C)))
  (D:W.plainGet K C Str.empty=true)
  (a3:W.hasDictIn K C=true)
  (I:W.plainOver K C=true)
  (R:W.findIn K (-C) "__setattr__"=↑(↑(.builtin "object.__setattr__")))
  (z:W.makesIn K C=true)
  (Q:W.keepIn K (-C)=true)
  (Hk:W.findIn K (-C) "table"=↑none)
  (tx:W.findIn K (-C) "house_keys"=↑none)
  (Id:W.findIn K (-C) "near"=↑none)
  (Ix:W.findIn K (-C) "far"=↑none)
  (Im:W.findIn K (-C) "most"=↑none)
  (GE:W.findIn K (-C) "least_age"=↑none)
  (GT:W.findIn K (-C) "buttons"=↑none)
  (IN:W.findIn K (-C) "log"=↑none)
  (A0:Ac K mg "is_number" bL)
  (A1:Ac K mg "is_digit" cO)
  (A2:Ac K mg "are_digits" aT)
  (A3:Ac K mg "back_table" aQ)
  (A4:Ac K mg "coded" jy)
  (A5:Ac K mg "decoded" eB)
  (A6:Ac K mg "is_name" fk)
  (A7:Ac K mg "is_code" eR)
  (A8:Ac K mg "is_press" cj)
  (A9:Ac K mg "letter_digits" ZI)
  (A10:Ac K mg "key_of" ii)
  (A11:Ac K mg "count_digits" Z6)
  (A12:Ac K mg "press_of" cB)
  (A13:Ac K mg "read_press" aO)
  (A14:Ac K mg "word_of" eZ)
  (A15:Ac K mg "step_by" dh)
  (A16:NF K C "__init__" "Door.__init__" ay)
  (A17:NF K C "is_full" "Door.is_full" ZW)
  (A18:NF K C "button_of" "Door.button_of" Zu)
  (A19:NF K C "takes_age" "Door.takes_age" Zr)
  (A20:NF K C "takes_from" "Door.takes_from" Zg)
  (A21:NF K C "plain_step" "Door.plain_step" QC)
  (A22:NF K C "answer_to" "Door.answer_to" Zo)
  (A23:NF K C "hear" "Door.hear" bH)
  (A24:NF K C "read_right" "Door.read_right" Ze)
  (A25:NF K C "learn" "Door.learn" be)
  (A26:NF K C "close_below" "Door.close_below" Q6)
  (A27:NF K C "known_now" "Door.known_now" Zs)
  (A28:NF K C "closed_now" "Door.closed_now" Zd)
  (A29:NF K C "log_now" "Door.log_now" ZT)
  (A30:Ac K mg "opens" jG)
  (A31:Ac K mg "button_behind" ZM)
  (A32:Ac K mg "plain_press" ar)
  (A33:Ac K mg "plain_row" bP)
  (A34:Ac K mg "presses_of" aS)
  (A35:Ac K mg "size_first" a8)
  (A36:Ac K mg "losses_behind" ZH)
  (A37:Ac K mg "least_lost" aR)
  (A38:Ac K mg "_law_box" eU)
  (A39:Ac K mg "_law_take" cN)
  (A40:Ac K mg "_law_table" bK)
  (A41:Ac K mg "_law_key" fh)
  (A42:Ac K mg "_law_names" bG)
  (A43:Ac K mg "_law_world" bO)
  (A44:Ac K mg "_law_press" bF)
  (A45:Ac K mg "_law_door" cD)
  (A46:Ac K mg "_law_answer" a9)
  (A47:Ac K mg "_law_copy" cp)
  (A48:Ac K mg "_law_row" eT)
  (A49:Ac K mg "_law_same" cx)
  (A50:Ac K mg "_law_other_row" ZO)
  (A51:Ac K mg "_law_stands" aV)
  (A52:Ac K mg "_law_begun" bD)
  (A53:Ac K mg "_law_let_in" aP)
  (A54:Ac K mg "_law_choices" Zm)
  (A55:Ac K mg "_law_due" eC)
  {q:Χ}{o:Array Ο}{p:Γ}
  (A:W.nsIn K η "law"=↑(↑(-n)))
  (a2:K.lookup n=some #[p,q,.func (W.fnOf "law" "law" (Qo aH) (zi aH) (ql aH) .none d g f j a c),o])
  (a0:W.codeIn K a "law"=true)
  (x:W.keepIn K (-n)=true)
  
  (H:W.nsIn K η "DIGITS"=↑(↑(.int 16 t0)))
  
  (a1:W.nsIn K η "KEY_PLACES"=↑(↑(.int 4 t1)))
  
  (O:W.nsIn K η "LONGEST_NAME"=↑(↑(.int 8 t2)))
  
  (E:W.nsIn K η "CODE_DIGITS"=↑(↑(.int 5 t3)))
  (z0:W.nsIn K η "isinstance"=↑none)
  (z1:W.nsIn K η "bool"=↑none)
  (z2:W.nsIn K η "int"=↑none)
  (z3:W.nsIn K η "tuple"=↑none)
  (z4:W.nsIn K η "all"=↑none)
  (z5:W.nsIn K η "len"=↑none)
  (z6:W.nsIn K η "abs"=↑none)
  (z7:W.nsIn K η "list"=↑none)
  (z8:W.nsIn K η "enumerate"=↑none)
  (z9:W.nsIn K η "range"=↑none)
  (J:W.nsIn K η "max"=↑none)
  (a4:W.nsIn K η "min"=↑none)
  (a5:W.nsIn K η "str"=↑none)
  (r:W.nsIn K η "zip"=↑none)
  (S:W.nsIn K η "ord"=↑none)
  (B:W.nsIn K η "sum"=↑none)
  (L:W.nsIn K η "reversed"=↑none)
  (M:W.nsIn K η "sorted"=↑none)
  (t:W.nsIn K η "dict"=↑none):
  ∃fd:FuncData,(∀(s:Θ) (v:Γ),BindsTo s fd #[[v],[]] [("_law_script",v)])/\∀base:Ψ,K.In base->base.Ns η mg->W.CodeHd base c0 P0->base.BuiltinsAt mg P0->M5 l.prog w K mg base ZS 11 fa fd ["_law_script"] (iQ P0 K):=by
 have e:=Y.symm.trans (W.mg_of X G A);cases e;have T:Mq K mg (λi=>if i=0 then t0 else if i=1 then t1 else if i=2 then t2 else if i=3 then t3 else 0):=#[W.mg_of X G H,W.mg_of X G a1,W.mg_of X G O,W.mg_of X G E,JX X G z0,JX X G z1,JX X G z2,JX X G z3,JX X G z4,JX X G z5,JX X G z6,JX X G z7,JX X G z8,JX X G z9,JX X G J,JX X G a4,JX X G a5,JX X G r,JX X G S,JX X G B,JX X G L,JX X G M,JX X G t]
 refine#[W.fnOf "law" "law" (Qo aH) (zi aH) (ql aH) .none d g f j a c,λs v=> .of_eq Z,λbase _ _ hC hB=>?_]
 have U:MS K C:=#[#[D,a3,I,R],Hk,tx,Id,Ix,Im,GE,GT,IN]
 have dO:=n5 (P:=l.prog) (w:=w) (base:=base) A0.at T
 have xY:=ph A1.at T dO
 have xM:=k7 A2.at T xY
 have xN:=lp (P:=l.prog) (w:=w) (base:=base) A3.at T
 have F:=xn (P:=l.prog) (w:=w) (base:=base) A4.at T
 have yC:=sY A5.at T xN
 have x8:=tj (P:=l.prog) (w:=w) (base:=base) A6.at T
 have yB:=sR A7.at T xM
 have dR:=pe A8.at T x8 dO yB
 have xC:=il (P:=l.prog) (w:=w) (base:=base) A9.at T
 have dM:=vZ A10.at T xC F
 have xJ:=i9 (P:=l.prog) (w:=w) (base:=base) A11.at T
 have xZ:=oY A12.at T xJ dM F
 have dL:=kY A13.at T dM yC
 have yA:=sW (P:=l.prog) (w:=w) (base:=base) A14.at T
 have dZ:=t8 A15.at T yA
 have yI:=(iN (P:=l.prog) (w:=w) (base:=base) A16.at T U).mi z Q (W.mg_of X G N)
 have xH:=iT (P:=l.prog) (w:=w) (base:=base) A17.at T U
 have y:=gh (P:=l.prog) (w:=w) (base:=base) A18.at T U
 have dH:=f8 (P:=l.prog) (w:=w) (base:=base) A19.at T U
 have u:=ff A20.at T U dH
 have A21:=A21.at (ps:=x5)
 have dD:=eN A21 T U u dZ;have G_Door_plain_step:=dc A21 T U u dZ;have dW:=f7 A22.at T U y u dD dL
 have xR:=mP A23.at T U dR dW
 have dE:=eE A24.at T U dR dH dL
 have xQ:=lm A25.at T U dE xH
 have dP:=db (P:=l.prog) (w:=w) (base:=base) A26.at T U
 have dX:=fZ (P:=l.prog) (w:=w) (base:=base) A27.at T U
 have dU:=eQ (P:=l.prog) (w:=w) (base:=base) A28.at T U
 have xI:=iD (P:=l.prog) (w:=w) (base:=base) A29.at T U
 have yG:=yQ (P:=l.prog) (w:=w) (base:=base) A30.at T U G_Door_plain_step
 have xA:=gZ (P:=l.prog) (w:=w) (base:=base) A31.at T U G_Door_plain_step
 have dJ:=jr A32.at T U dE y
 have xU:=lP A33.at T U dJ
 have xO:=k3 (P:=l.prog) (w:=w) (base:=base) A34.at T
 have dI:=kU (P:=l.prog) (w:=w) (base:=base) A35.at T
 have xD:=hZ A36.at T xA dI
 have xP:=kW A37.at T U dJ xU xO y yG xD dI
 have yF:=sO (P:=l.prog) (w:=w) (base:=base) A38.at T
 have m:=oU (P:=l.prog) (w:=w) (base:=base) A39.at T
 have xV:=mL A40.at T m
 have yD:=tP A41.at T m
 have xT:=ng A42.at T m
 have xS:=n4 A43.at T m xV yD xT
 have dG:=nh A44.at T xZ dM F
 have x6:=oM A45.at T U yI xQ xR dP dG
 have xE:=kZ (P:=l.prog) (w:=w) (base:=base) A46.at T
 have xX:=oK (P:=l.prog) (w:=w) (base:=base) A47.at T
 have dY:=tR A48.at T m
 have xB:=gn (P:=l.prog) (w:=w) (base:=base) A49.at T
 have xG:=gQ A50.at T m dY dG
 have xF:=kR A51.at T U dX xI dU
 have xW:=mK A52.at T U yF m xS dY x6 dG
 have xL:=lv A53.at T xX xE
 have xK:=jx (P:=l.prog) (w:=w) (base:=base) (A54.at.code X G ht) T hC hB
 have yE:=uw A55.at T xK xL
 exact DS (nF (st:=aH) a2 a0 x) T U xW xF xG yE xP xB
theorem Gi{l:W.OpenLaw}{y:(Str->Ο)->Ψ->Prop}{o:Ω->Ψ->Prop}{d d':DefRec}{K:Params->ι}{c0 P0:Δ}(hn:l.most=↑63)(m:d.params.defaults=[])
  (t:∀(w:Ω) (h:Ψ),o w h->(K w.params).In h)(g:(PyProof.Rows.recsOf q).find? (λe=>e.name==("_law_choices":Str))=↑d')(i:∀w:Ω,W.tabIn (K w.params) "_law_choices"=↑(c0,P0))(j:∀w:Ω,W.noTabs (K w.params)=true)
  (F:∀(w:Ω) (mg:HC) (p:Δ) (h:Ψ),(K w.params).In h->h.Ns η mg->mg d.name=↑(-p)->W.tabIn (K w.params) "_law_choices"=↑(c0,P0)->
   ∃fd:FuncData,(∀(s:Θ) (u:Γ),BindsTo s fd #[[u],[]] [("_law_script",u)])/\∀base:Ψ,(K w.params).In base->base.Ns η mg->W.CodeHd base c0 P0->base.BuiltinsAt mg P0->M5 l.prog w (K w.params) mg base ZS 11 p fd ["_law_script"] (iQ P0 (K w.params))):
  W.WalkO q c y o l.row.toRowW d [] (λf v=>PySem.call f v):=
 AG (n:=63) (k:=11) (x:="_law_script") (CX:=ZS) (sp:=λw P=>iQ P (K w.params)) hn ⋯ m #[Z,⋯,⋯] t g i j F (λ_ _ a ns r A B=>#[a,ns,Z,A,B,r,λ_=>rfl]) λ_ _ _ _ z=>z
end Lw
structure PySem.W.Fast:Prop where(tw10984536340935701351 tw9987929213301125478 tw14401432699785825630 tw8452687686726196715 tw951410509873378076 tw14604854391890671888 tw7867489682680473188 tw540078178424962523 tw47483576385786692 tw1123617373838527648 tw6192083175864050538 tw14580681237238961729 tw13305435293293952931 tw8988286144868470162 tw11701064104414618738 tw4229300324398763431 tw5868765068611396124 tw2147591463150893160 tw18435164024094954334 tw17523834567982775371 tw8398817851629014175 tw5574261852397287563 tw4287615567291235164 tw15758362034706731366 tw14165304613807474919 tw17946151180175128138 tw14754603652759052837 tw1878269332091871986 tw3775156776146682872 tw15056220118321061620 tw18242589361608471765 tw153760772292330897 tw15470505443028898621 tw6735833713357268748 tw4650815945348474884 tw10772014236868814797 tw11312000474983068853 tw16877016903632582709 tw17955848343857053894 tw11637874978843749721 tw14550942325771288729 tw10378364222378196440 tw6646305615425878356 tw2438453650932331414 tw785792217430225580 tw16201143698028300531 tw5929273526531013667 tw6667351361960546412 tw176553357214413556 tw18409147448345582171 tw11278339152532900914 tw606846219861971763 tw13329654220671112307 tw11071876901613580510 tw3965435524755827913 tw3018112637984166729 tw16980213026669882747 tw9305160279314891817 tw11659191611103170640 tw10610797331613081606 tw7670490199819788174 tw11080719706661085494 tw17695973119461787740 tw5627599333277348418 tw16756323057054494545 tw7112584347635580978 tw12511772808523474930 tw17983272545263977457 tw5108399088989063419 tw10000776702051778316 tw2150050794911990358 tw9277189754640840493 tw4015298110120888192 tw6723140000338014896 tw2963030190166554041 tw14888153367861409898 tw17689842109813169829 tw5927832573399551515 tw7228869473511140525 tw3761336466339258031 tw2500163219310215977 tw5339670266704367493 tw413419447952327060 tw3644628514044149730 tw4600125748353128364 tw5563477806521706914 tw13350057939609113899 tw2200372994294010338 tw16664621040260456658 tw5221515829297371049 tw13888930260519971993 tw7963891795013082492 tw10051686016627986390 tw13228091733735636730 tw8431285779793352943 tw8427402330993541874 tw15114130818538373659 tw8047339975106230702 tw18094995030689169488 tw17539459295677673563 tw16126032769740199015 tw11862596592324017845 tw3158163820234777658 tw15677810088481518471 tw3323381071857930219 tw2100405009465238051 tw2241965775491854333 tw17850532950913367918 tw8820804441167767725 tw15469941828351466999 tw6842299803340963831 tw2687218003368671962 tw10328485795483995534 tw7445360237421734233 tw2602028125129070076 tw9899395133755080562 tw17369466919124228726 tw14425743037908145909 tw10388343559776936984 tw6324074176051115237 tw11467630120033886044 tw6039804313021658820 tw18128009146341166941 tw13294759189376189517 tw10236735435527230273 tw16750111387126027826 tw13283116655722530418 tw6780212327811707067 tw10533365524131638339 tw16144279434946953048 tw2376357668443768591 tw17594652227900805073 tw4580264810604626486 tw9688445924694436236 tw14252989135459077309 tw10550441105209005099 tw5522755062274757594 tw2281569133671969648 tw5805079112702464426 tw8844743369090320978 tw4850436687150033674 tw5735333865498617157 tw5739609369085070135 tw16188399925418198847 tw7009032106533631604 tw16906958196504221509 tw6507646855126660383 tw10962501101163262459 tw576269986955952653 tw14282739548859905226 tw12069138516007385330 tw11391351895110121458 tw8153891866019588678 tw554918348003810123 tw11541751187403085914 tw16415754162010509339 tw8913013195649698743 tw4055556067602410452 tw2322095333002176730 tw18027325130174714242 tw12814929053562208491 tw18164115898535775882 tw2961902612103977781 tw5441803403170930677 tw12121175724710949594 tw8166214683273283211 tw10042118588197299101 tw17223737257590092339 tw9460081034419622306 tw13551279011022856040 tw17171247118129418395 tw1913540529274983671 tw4760550939850439319 tw11483378755878192445 tw14419193037797083760 tw1299684152055072814 tw3324376798389088705 tw12494766056929909503 tw13582660327561037115 tw13117292020364663422 tw11528278769943991522 tw14131704672587914517 tw1426602095640212815 tw205174147779757347 tw8597178617361283727 tw16324623099748949342 tw6863553279625711662 tw18296578615281636403 tw129285822788567804 tw13034256822335934653 tw11510741756107936078 tw17484107947503123858 tw6626459219986973021 tw8664073377346049627 tw13911721261040689004 tw7739141015793335943 tw14128146215084541406 tw2831136315852356489 tw4368915599001631582 tw6858380946295347999 tw11732528649562980292 tw3968557267324533326 tw17606793145988102937 tw9935631589688618229 tw4982068214498657960 tw17321448259947675897 tw4541490797409383819 tw167174292425968396 tw13447015959421401587 tw5040189932721470312 tw16776507472874127875 tw17538743936189013430 tw583906755925672238 tw12535112394781987877 tw2071344349797602943 tw6119655993472611555 tw14808587513750418381 tw14177920945873953315 tw15062890288331447312 tw4960642376432931884 tw12926075702227354335 tw15542821134499625900 tw5334050664408591373 tw17691434986194231962 tw5676303364596920056 tw3489951032484742710 tw2476208892217435752 tw13755223841367669186 tw10484656972682093098 tw15686167374404305156 tw12755415819763867874 tw6290805381014753478 tw15842690749329795486 tw4164293663697216917 tw9313475259394037446 tw16009789223105336430 tw13076505273651917709 tw17811906743109894154 tw5999469385222020115 tw1105495636567401807 tw9162725780277845216 tw3614391289654045438 tw667123588205129993 tw13879440872499926520 tw18359094929138930941 tw15978514045712351835 tw5769582135017061028 tw12662148484851929729 tw3986878686879029272 tw8520716776944572627 tw5756971001015552448 tw8152438270357526907 tw9243928436830238262 tw7345932719894283312 tw15305581639153919629 tw15450406421044770262 tw274633209712166685 tw1480719749210286920 tw18328502501729927751 tw5591082185902177369 tw17335089483929381840 tw15793244393336415759 tw11717734975550006918 tw278142314703260108 tw15333282029820313396 tw2861932496302399564 tw6098327883166763963 tw5939525717043043869 tw15584795123049275571 tw16846341252646641906 tw1596785132750127041 tw6615292469241879240 tw16341487206126604957 tw2153917672775824460 tw10397544223919881511 tw15194957207864982088 tw14495839450216237592 tw6212363508708877840 tw17071352689433239530 tw12562922948227336131 tw3244635673802204438 tw16433285929321409720 tw7114573935784150017 tw7369380411270620438 tw11047047670732115919 tw14151938598489113932 tw16223323327286866645 tw12133182791028123558 tw3056637430103280712 tw14694950835107591209 tw14972199806815555392 tw12643539994544849387 tw12117259063069329030 tw3657868502611819529 tw1279501054633638569 tw17089282162924917145 tw1069869007607992725 tw6819162077449475030 tw11645714012676244596 tw3676299370996106936 tw14795285566772450713 tw10911970587443028025 tw14101120215019411468 tw15653576408186454004 tw6967133034964890553 tw16898168441946438751 tw8818318301351304518 tw455702436701729025 tw353933430292407273 tw16583540518744886398 tw6367801689435314156 tw16622497235371588082 tw16019533047491595383 tw1146384870385496015 tw7079320156103508877 tw4251090369493889742 tw2664722863129584046 tw14015317523771086566 tw14608402393890622348 tw16586399476647985949 tw11450073020085727146 tw18384325355146645326 tw3656061548522194315 tw11165384565552940932 tw14965627762047217381 tw3855041129360159975 tw9232332822072280360 tw12566224523940510553 tw14169949146093199321 tw15586514927878118744 tw18102994332383362585 tw7685290528260245635 tw1917431709840263291 tw13179755977577919322 tw6230160630546646198 tw15019442141641563336 tw15142200674646667458 tw17268145719439368456 tw14432988137490449954 tw14857855689128356710 tw2631541550218662428 tw13185357392121333001 tw4271233825798030080 tw17281614979814271684 tw13604296884642226017 tw15356516718654675605 tw10204073416373324716 tw11245365706275157411 tw4291239662282399843 tw4929708513272895855:True)
open PySem PySem.W PyProof.Rows
end
set_option maxRecDepth 100000 in
set_option maxHeartbeats 0 in
theorem PySem.Challenge.cw_rollcode_k28_the_least_lost_holds : PySem.Challenge.rw_rollcode_k28_the_least_lost.Holds := by
 w_on;o_law;k_head;(case hw=>w_witness2)
 k_fill
 refine' Lw.Gi (c0:=461) (P0:=459) (l:=PySem.Challenge.rw_rollcode_k28_the_least_lost) rfl rfl (fun w h Y=>PySem.W.km_in_of Y) ?hrec ?htab ?hno ?F
 case hrec=>rfl
 case htab=>intro w;kernel_rfl
 case hno=>intro w;kernel_rfl
 case F=>
  intro w mg fa h KX G hmg ht;refine' Lw.Dm KX G hmg ht ?aCD ?pgD ?hdD ?poD ?saD ?mkD ?kcD ?Hk ?tx ?Id ?Ix ?Im ?GE ?GT ?IN ?A0 ?A1 ?A2 ?A3 ?A4 ?A5 ?A6 ?A7 ?A8 ?A9 ?A10 ?A11 ?A12 ?A13 ?A14 ?A15 ?A16 ?A17 ?A18 ?A19 ?A20 ?A21 ?A22 ?A23 ?A24 ?A25 ?A26 ?A27 ?A28 ?A29 ?A30 ?A31 ?A32 ?A33 ?A34 ?A35 ?A36 ?A37 ?A38 ?A39 ?A40 ?A41 ?A42 ?A43 ?A44 ?A45 ?A46 ?A47 ?A48 ?A49 ?A50 ?A51 ?A52 ?A53 ?A54 ?A55 ?a56 ?l56 ?c56 ?k56 ?yg0 ?yg1 ?yg2 ?yg3 ?z0 ?z1 ?z2 ?z3 ?z4 ?z5 ?z6 ?z7 ?z8 ?z9 ?z10 ?z11 ?z12 ?z13 ?z14 ?z15 ?z16 ?z17 ?z18
  (case aCD|pgD|hdD|poD|saD|mkD|kcD|Hk|tx|Id|Ix|Im|GE|GT|IN=>k_is)
  (case A0|A1|A2|A3|A4|A5|A6|A7|A8|A9|A10|A11|A12|A13|A14|A15=>refine' L3.Ba KX G ?ya ?yl ?yc ?yk;case ya|yl|yc|yk=>k_is)
  (case A16|A17|A18|A19|A20|A21|A22|A23|A24|A25|A26|A27|A28|A29=>refine' L3.DM ?ya ?yi ?yl ?yc ?yk;case ya|yi|yl|yc|yk=>k_is)
  (case A30|A31|A32|A33|A34|A35|A36|A37|A38|A39|A40|A41|A42|A43|A44|A45|A46|A47|A48|A49|A50|A51|A52|A53|A54|A55=>refine' L3.Ba KX G ?ya ?yl ?yc ?yk;case ya|yl|yc|yk=>k_is)
  (case a56|l56|c56|k56|yg0|yg1|yg2|yg3|z0|z1|z2|z3|z4|z5|z6|z7|z8|z9|z10|z11|z12|z13|z14|z15|z16|z17|z18=>k_is)