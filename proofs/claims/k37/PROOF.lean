import PyProof.Rows.All
import Wide.All
import OpenK.AllK
import Wide.FinOn
import Lean
import PyProof.EqAt
import PyProof.EqKinds
import PyProof.TupleCall
import PySem.Challenge.RW_rollcode_k37_shared_by_turns
import PyProof.StationsW
import PyProof.ExcClass2
import OpenK.KOwn
import PyProof.ExcBaseAll.ValueError
import PyProof.RulesAs
import PyProof.NsDelKeeps
import PyProof.Rows.Catch
import KE.KIsAll
import PyProof.ExcArgsOwn
import PyProof.Rows.CatchOwn
import PyProof.ExcAttrAll.ValueError
import PyProof.AttrMissHeap
import PyProof.Rows.SetFrom
import KE.KDictOf
import PyProof.DictWalks
import PyProof.Rows.DictUnroll
import PyProof.ExcInit
import PyProof.InstStoreFacts
import PyProof.FString
import OpenK.KCls
import PyProof.ListMulRoad
import PyProof.FactsAll.tuple_2
import PyProof.FactsAll.set
import PyProof.CollectWalk
import KE.KDictList
import PyProof.FactsAll.set_1
import PyProof.FactsAll.set_2
import PyProof.SetNew
import PyProof.MeetsSeq2
import PyProof.DictCompW
import PyProof.DictValues
import PyProof.AutoSeq1
import PyProof.FactsAll.list_3
import PyProof.DictItems
import PyProof.Rows.RegStrFacts
set_option genSizeOf false
set_option bootstrap.genMatcherCode false
set_option Elab.async false
set_option maxRecDepth 100000
set_option maxHeartbeats 4000000
set_option linter.unusedVariables false
set_option linter.all false
noncomputable section
def PySem.rpat:Nat→Lean.Term→Lean.MacroM (Lean.TSyntax `rcasesPat)
|0,_=>Lean.Macro.throwUnsupported
|n+1,t=>match t with
 |`(#[$xs,*])=>do
  let ys←xs.getElems.mapM fun x=>do `(Lean.Parser.Tactic.rcasesPatLo|$(←rpat n x):rcasesPat)
  `(rcasesPat|⟨$ys,*⟩)
 |`($x:ident)=>`(rcasesPat|$x:ident)
 |`(_)=>`(rcasesPat|_)
 |_=>Lean.Macro.throwUnsupported
local macro_rules|`(#[$xs,*])=>do
 let mut y:=#[]
 for x in xs.getElems do
  if let some n:=x.raw.isNatLit? then
   for c in ("_Z ___ZZ _Z_Z _ZZ_Z _Z_Z_Z Z__Z__ZZ __ZZ Z__Z__Z__ZZ Z_Z ZZ _Z_Z_Z_Z _Z__ZZ _Z__ZZ_Z __Z __ZZ_Z __ _Z_Z__ZZ _Z_ ___Z _Z__ZZ_Z__ZZ_Z__ZZ__ZZ _____Z _Z_Z_Z__ZZ__ZZ_Z ____Z _Z_ZZ _Z_Z_Z__ZZ_Z__ZZ_Z__ZZ__ZZ Z__ZZ _Z_Z_Z_Z__ZZ _Z__ZZ_Z__ZZ _Z_Z_Z_Z_Z_Z _Z_Z_Z__ZZ__ZZ__Z__ZZ_Z Z__Z__Z__ZZZ Z__Z _______Z _Z__ZZ_Z_Z__ZZ__ZZ__Z _Z_Z__ZZ__Z _Z_Z__ZZ_Z _Z__ZZ__ZZ ______Z _Z_Z__ZZ__Z__ZZ__Z ___ ZZZ _ZZ Z__Z__Z__Z__Z__ZZ Z_ __ZZ__ZZ _Z_Z__ZZ__Z__Z _Z_Z_Z_Z_Z__ZZ _Z_Z_Z_Z__ZZ_Z _Z__Z_Z Z__ZZ_Z Z_Z__ZZ __ZZ__Z __ZZ__ZZ__ZZ _Z_ZZ_ZZ__ZZ _Z__ZZ__ZZ_Z Z__Z_Z__ZZ_Z Z__Z_Z Z__Z__ZZ__Z ______ _Z_Z_Z__ZZ _Z_Z_Z_Z_Z __ZZ_Z__ZZ Z__Z__Z__Z Z_Z_Z__ZZ Z__Z__ZZZ Z__ZZZ_Z Z__ZZ__Z ZZZZ".splitOn " ")[n]!.toList do
    if c=='Z' then y:=y.push (←`(rfl)) else y:=y.push (←`(_))
  else y:=y.push x
 `(⟨$y,*⟩)
local macro_rules|`(-$x)=>if x.raw.isIdent||x.raw.isOfKind ``Lean.Parser.Term.proj then `(.ref $x) else Lean.Macro.throwUnsupported
local macro_rules|`(tactic|exists $xs,*)=>`(tactic|refine#[$xs,*, ?_])
local macro_rules|`(tactic|let $d:letDecl)=>do
 let d:=d.raw[0]
 let p←PySem.rpat 9 ⟨d[0]⟩
 let e:Lean.Term:=⟨d[4]⟩
 if d[2].getNumArgs==0 then `(tactic|obtain $p:rcasesPat := $e) else
 let y:Lean.Term:=⟨d[2][0][1]⟩
 `(tactic|obtain $p:rcasesPat : $y := $e)
local macro_rules|`(↑$x)=>`(some $x)
theorem Z.{u}{α:Sort u}{a:α}:a=a:=rfl
local macro_rules|`(nofun)=>`(by decide +kernel)
local macro_rules|`(⋯)=>`(by decide)
abbrev q0:List PySem.Str:=["_law_box_here","_law_many"]
abbrev w5:List PySem.Str:=["one","first","other","second"]
abbrev w6:List PySem.Str:=["_law_own","_law_plain"]
abbrev X0:List PySem.Str:=["self","button","age","count"]
abbrev X1:List PySem.Str:=["self","table","keys","near","far","most"]
noncomputable abbrev X2:List PySem.Str:=["_law_code","_law_pair_here","_law_name","_law_told"]
abbrev X3:List PySem.Str:=["_law_owns","_law_drawn_here"]
abbrev X4:List PySem.Str:=["_law_box_here"]
abbrev X5:List PySem.Str:=["_law_code","_law_plain","_law_deed_here"]
abbrev X6:List PySem.Str:=["self","name"]
abbrev X7:List PySem.Str:=["_law_box_here","_law_entry"]
abbrev X8:List PySem.Str:=["table","key","digits"]
noncomputable abbrev X9:List PySem.Str:=["_law_code","_law_pair_here","_law_plain","_law_places"]
abbrev W0:List PySem.Str:=["button","age","count","near","far"]
abbrev W1:List PySem.Str:=["self","button","age"]
abbrev W3:List PySem.Str:=["_law_found","_law_due"]
abbrev W4:List PySem.Str:=["thing"]
abbrev W5:List PySem.Str:=["table","key","name","age","count","deed"]
abbrev W6:List PySem.Str:=["one","other"]
abbrev W7:List PySem.Str:=["_law_near","_law_far","_law_keys"]
abbrev W8:List PySem.Str:=["self"]
abbrev W9:List PySem.Str:=["_law_box_here","_law_drawn_here"]
abbrev V0:List PySem.Str:=["table","key","press"]
abbrev V1:List PySem.Str:=["door","button","age"]
abbrev V2:List PySem.Str:=["self","age"]
abbrev V3:List PySem.Str:=["table","key","name"]
abbrev V4:List PySem.Str:=["self","thing"]
abbrev V5:List PySem.Str:=["_law_base"]
open PySem.W (Frag)
set_option compiler.extract_closed false
open Or renaming inl->Pr,inr->SV
open Sum renaming inr->Pt,inl->TR
open Decidable renaming byContradiction->Pu,not_not->SX
open PySem.SetTable renaming sizeAbove->Px,bits->P6,below->P7,fits->R6,eraseAt->R7,grown->R8,turns->SH,laid->SM,fill->SN,leap->SZ,layClean->Sy
open True renaming intro->P5
open PySem.SetTable.layClean renaming free->P8
open List.Perm renaming refl->RP
open PySem.Str renaming ofString->RS
open PySem.Around renaming under_plainId->R3
open PyProof.Rows.F renaming plain_set_update_loop->R4,entry_set_update_loop->SL
open PySem.MeetsSeq2 renaming wpAny_forIn_array->R9
open Option.some renaming injEq->SG
open PySem.Data renaming cell->SJ,fields->Sf
open PUnit renaming unit->SO
open List.Pairwise renaming nil->SU
open PySem.SetTable.below renaming go->SW
open ForInStep renaming yield->Sk
open PySem.SeqAt.EqAt renaming same->Sn,int_int->Ss,str_str->TL,of_refs->TM
open PySem.Code renaming quiet_builtin->Sv
open PySem.SeqAt.RcAt renaming tuples->Sx
open Array renaming getElem?_toList->KI,getD->KU,size_map->Kl,getElem?_eq_none->K1,isEmpty_iff_size_eq_zero->K4,toList->OA,getElem_toList->Ox,toList_push->PB,toList_extract->Pb
open PySem renaming wpAny_bind->Ja,wpAny_pure->Jd,wpAny_mono->Jx,sizeLine_eq->JD,wpAny_holding->JM,wpAny_field->JX,wpAny_call_entry->JY,boot_len->J5,wpAny_newObj_type->J6,wpAny_standAt->Ib,wpAny_rule->Ih,wpAny_of_eq->Iy,wpAny_setField->II,wpAny_attempt->IQ,wpAny_truthy_bool->IT,wpAny_seqItems->IW,wpAny_isInstance->IX,codeAny_builtin->I0,wpAny_pyIter_tuple->Ld,isSubtype_type->Li,codeAny_mono->Lm,call_meets->Lo,wpAny_specialOf->Ls,wpAny_pyIter_list->LA,mem_of_lookup->LB,wpAny_typeOf->LC,wpAny_loadPart'->LG,typeLookup_type->LI,builtinLookup_eq_fast->LJ,wpAny_passesOwn->LO,wpAny_pyIter_enum->LQ,isSubtype_stop->LU,wpAny_setField_rec->LV,tupleKind_room_in1->LW,wpAny_Call_Name_kw->L4,wpAny_pyIter_zip->Ml,wpAny_pyIter_rangeiter->Mq,Value->Γ,Addr->Δ,Shared->Θ,Program->Ξ,Expr->Φ,Heap->Ψ,World->Ω,Builtin->γ,Stmt->δ,wpAny->ε,sizeLine->ζ,mainGlobals->η,starEach->θ,compareOp->Py,Around->Rj,KeyKind->SC,intKind->TF,strKind->TH
open List renaming length_map->Je,mem_cons->Jg,getElem?_eq_getElem->Jh,mem_singleton->Ji,getElem?_map->Jo,mem_cons_self->Jr,size_toArray->Js,not_mem_nil->Jt,mem_cons_of_mem->Jv,getElem?_eq_some_iff->Jw,length_append->Jy,mem_map->JC,getD_eq_getElem?_getD->JG,map_append->JI,mem_append->JP,mem_append_right->JQ,length_cons->JR,map_cons->JS,mem_range->JT,filterMap_cons->JW,getElem?_append_left->J3,any_cons->J4,getElem?_append_right->J9,length_take->G5,append_nil->Ic,take_add_one->Ie,mem_of_getElem?->Ij,take_length->Ip,map_map->Ir,lookup_cons->Iv,nodup_cons->IG,getElem_mem->IH,length_singleton->IM,append_assoc->IU,all_eq_true->IV,length_set->Lg,nodup_append->Lj,map_nil->Ln,map_congr_left->Lr,find?_cons->Lx,replicate_succ->LF,nodup_nil->LK,mem_filter->LL,mem_append_left->LN,length_drop->LP,getElem?_range->LX,getElem?_set_self->LY,getElem?_set_ne->LZ,flatten_cons->L7,any_eq_true->Mm,getElem?_append->Mn,getElem?_eq_none->MA,toArray->AA,range->Ag,replicate->Dj,length_range->E1,mem_iff_getElem->HB,filterMap_nil->KA,any_nil->KB,findSome?_cons->KC,ext_getElem->KD,flatMap_cons->KF,exists_of_findSome?_eq_some->KG,lookup->KH,take_append_drop->KJ,flatMap_nil->KL,getElem_toArray->KM,pairwise_cons->KN,flatMap_append->KO,eraseIdx_eq_take_drop_succ->KP,filter_sublist->KQ,eq_nil_of_length_eq_zero->KS,filterMap_map->KY,foldl_cons->KZ,filter_cons->Kd,getElem?_set->Kf,pairwise_iff_getElem->Kg,range_succ->Kh,getElem?_toArray->Kj,of_mem_zip->Ko,foldl->Kp,nil_append->Kq,map_take->Kt,drop_eq_getElem_cons->Ku,drop_zero->Kv,perm_middle->Ky,length_eq_zero_iff->Kz,pairwise_append->K0,length_eraseIdx_of_lt->K5,count_cons->K6,findSome?_eq_none_iff->K8,mem_filterMap->OB,any_eq_false->OC,getElem?_replicate->OD,length_replicate->OE,range'_succ->ON,range_eq_range'->OO,map_drop->OQ,zipIdx_cons->OR,zipIdx_nil->OS,forIn_cons->OT,forIn_nil->OU,cons_append->OY,take_of_length_le->Ol,lookup_cons_self->Os,length_nil->Ot,le_antisymm->Ou,ext_getElem?->Ov,pairwise_lt_range->Oz,findIdx?->O0,findIdx?_eq_some_iff_getElem->O1,findIdx?_eq_none_iff->O8,length_eraseIdx->PF,find?_eq_none->PY,getElem_cons_drop->PZ,filterMap_append->Pa,eraseIdx_sublist->Pc,erase_of_not_mem->Pd,mem_erase_of_ne->Pe,getElem_take->Pg,perm_ext_iff_of_nodup->Ph,replicate_succ'->Pk,length_dropLast->Pm,filter_append->Po,Nodup->P4
open Nat renaming le_refl->Jf,ne_of_lt->Jm,zero_le->JB,le_trans->JN,lt_of_lt_of_le->JV,ne_of_gt->J1,lt_succ_self->G0,lt_irrefl->Ia,lt_succ_of_lt->Ik,le_succ->IL,le_add_right->IZ,le_of_lt->LM,le_of_eq->L0,not_lt_zero->I1,lt_of_le_of_lt->Ka,lt_trans->Ke,mod_lt->Ki,zero_add->Kk,le_of_not_lt->Kr,succ_pos->K2,min_le_right->OF,succ_le_succ->OH,sub_one_lt_of_lt->OM,lt_of_succ_lt->OP,le_antisymm->OW,pos_of_ne_zero->Oi,add_right_comm->PM,div_div_eq_div_mul->PX
open PySem.Heap renaming get?_push_of_some->Jk,lt_size->Jl,get?_push_size->Jp,size_push->JU,get?_update_self->Lf,get?_update_other->LD
open PyProof.Rows renaming boot_isinstance->JA,boot_tuple->JL,boot_list->Ig,callWith_type1->Le,boot_int->Lk,boot_bool->Ll,boot_str->Lz,slot_tuple_getitem->L6,boot_all->Mo,boot_max->Mp,boot_min->RL,boot_sorted->Rp,seqObj->R5,boot_range->SD,boot_set->SF
open Bool renaming and_eq_true->JF,false_ne_true->JK,false_and->Ii,eq_iff_iff->Iu,true_and->Iz,eq_false_iff->Ly,not_eq_true'->MD,false_eq_true->D2,not_true->KW,or_false->PL,not_eq_true->Pf
open Option renaming map_eq_some_iff->JO,getD_some->IP,isSome_iff_exists->L5,isSome_map->MB,map->K3,ne_none_iff_exists'->K9,getD_none->OG,toList_some->OV,map_map->PH,map_some->PJ,map_eq_none_iff->Pj
open PySem.W renaming mg_none_of->JZ,kia_one->J8,mg_of->IR,kia_tup->LH,Frag->ι,nsIn->Rm,findIn->SA,emptyDict->SE,findIn->SQ,keepIn->SR,fnOf->TB,instObj->TJ,keepIn->TK,kitx_list->TQ
open Int renaming le_refl->GZ,toNat_natCast->Iw,emod_nonneg->La,emod_lt_of_pos->Lc,zero_add->Kc,lt_trans->K7,toNat_of_nonneg->OX
open PySem.F renaming plainAttrs_list->Il,slot_list_append->IJ,type_list_append->IK,slot_zip_next->Lh,slot_tuple_iterator_next->L8,entry_zip_next->Mc,args_zip_next_1->Me,slot_tuple_add->Mr,entry_tuple_add->Ms,args_tuple_add_2->Mu,slot_dict_get->MC,args_tuple_iterator_next_1->Sh,entry_tuple_iterator_next->Sm
open PySem.Obj renaming data_mapFields->Lq,isFreed_of_fields->L9,mapSeq->SY,mapFields->TC,putSet->TN
open PySem.Calls renaming callWith_builtin->Mw,evalArgs_plain->Mz,call_function_entry->SK,spliced_cons->So,spliced_nil->Sw
namespace L0
abbrev _root_.Α:=List PySem.Str
abbrev _root_.Β:=List Int
abbrev _root_.Ζ:=List Γ
abbrev _root_.Η:=List Δ
abbrev _root_.Ι:=List Φ
abbrev _root_.Κ:=List Nat
abbrev _root_.Λ:=Option Int
abbrev _root_.Ν:=Option Γ
abbrev _root_.Τ:=List PySem.Env
abbrev _root_.Χ:=Option Nat
abbrev _root_.β:=Option Δ
abbrev _root_.μ:=Option Φ
abbrev _root_.ν:=List Bool
abbrev _root_.ξ:=List PySem.Keyword
abbrev Jb:=@if_neg
abbrev Jc:=@if_pos
abbrev Jj:=@decide_eq_true
abbrev Jn:=@decide_eq_false
abbrev Ju:=@or_false
abbrev Jz:=@of_decide_eq_true
abbrev JH:=@if_false
abbrev J0:=@congrArg
abbrev J7:=@beq_iff_eq
abbrev Io:=@if_true
abbrev Iq:=@beq_self_eq_true
abbrev IS:=@beq_eq_false_iff_ne
abbrev Lv:=@beq_false_of_ne
abbrev LS:=@decide_eq_true_iff
abbrev Jq:=@Array.length_toList
abbrev JE:=@Option.some.inj
abbrev JJ:=@PySem.PassesOwn.never
abbrev G6:=@PySem.Heap.SameBut.update
abbrev Lu:=@PySem.Around.in1_units
end L0
open L0
namespace L0
open PySem
abbrev HG:=Γ->Θ->Prop
abbrev HH:=Str->Ν
abbrev HI:=List (Δ×Obj)
end L0
open L0
namespace L2
open PySem PySem.Spec PyProof.Rows
abbrev qJ:=Sum Int Str
def gx:qJ->Γ->Bool
 | .inl k,v=>Γ.isInt k v
 | .inr x,v=>Γ.isStrOf x v
def GI(w:Ω):qJ->Int
 | .inl k=>hashInt k
 | .inr x=>hashStr w x
theorem zU:∀{k:qJ} {v:Γ},gx k v=true->(∃i t,k=TR i/\v=Γ.int i t)\/(∃x t,k=Pt x/\v=Γ.str x t)
 | .inl i,v,h=>by
  let#[t,e]:=Γ.isInt_shape (k:=i) (v:=v) h
  exact .inl #[i,t,Z,e]
 | .inr x,v,h=>by
  let#[t,e]:=Γ.isStrOf_shape (x:=x) (v:=v) h
  exact .inr #[x,t,Z,e]
theorem wR(i:Int)(t:Tok):gx (.inl i) (.int i t)=true:=by simp [gx,Γ.isInt]
theorem wJ(x:Str)(t:Tok):gx (.inr x) (.str x t)=true:=by simp [gx,Γ.isStrOf]
theorem Ep(a b:Int):decide ((TR a:qJ)=TR b)=(a==b):=by
 by_cases e:a=b
 .subst e;simp
 .have h:¬(TR a:qJ)=TR b:=λq=>e (Sum.inl.inj q)
  rw[Jn h]
  exact(IS.mpr e).symm
theorem Eo(a b:Str):decide ((Pt a:qJ)=Pt b)=decide (a=b):=by
 by_cases e:a=b
 .subst e;simp
 .have h:¬(Pt a:qJ)=Pt b:=λq=>e (Sum.inr.inj q)
  rw[Jn h,Jn e]
theorem EJ(a:Int)(b:Str):decide ((TR a:qJ)=Pt b)=false:=Jn (λq=>nomatch q)
theorem EI(a:Str)(b:Int):decide ((Pt a:qJ)=TR b)=false:=Jn (λq=>nomatch q)
noncomputable def qS(prog:Ξ)(w:Ω):SC prog w qJ where
 is:=gx
 hash:=GI w
 inj:=λv a b f d=>by
  rcases zU f with⟨i,t,rfl,rfl⟩|⟨x,t,rfl,rfl⟩
  .rcases zU d with⟨j,u,rfl,e⟩|⟨y,u,rfl,e⟩
   .injection e with e1 _;rw[e1]
   .exact nomatch e
  .rcases zU d with⟨j,u,rfl,e⟩|⟨y,u,rfl,e⟩
   .exact nomatch e
   .injection e with e1 _;rw[e1]
 byValue:=λk v h=>by
  rcases zU h with⟨i,t,rfl,rfl⟩|⟨x,t,rfl,rfl⟩<;>rfl
 pyHash:=λc h=>by
  rcases zU c with⟨i,t,rfl,rfl⟩|⟨x,t,rfl,rfl⟩
  .exact wpAny_pyHash_int h
  .exact wpAny_pyHash_str h
 eqBool:=λg c h=>by
  rcases zU g with⟨i,t,rfl,rfl⟩|⟨x,t,rfl,rfl⟩
  .rcases zU c with⟨j,u,rfl,rfl⟩|⟨y,u,rfl,rfl⟩
   .rw[Ep]at h;exact wpAny_eqBool_int h
   .rw[EJ]at h;exact SeqAt.EqAt.int_str i t y u _ _ _ _ h
  .rcases zU c with⟨j,u,rfl,rfl⟩|⟨y,u,rfl,rfl⟩
   .rw[EI]at h;exact SeqAt.EqAt.str_int x t j u _ _ _ _ h
   .rw[Eo]at h;exact wpAny_eqBool_str h
 «strs»:=λk x t v h=>by
  rcases zU h with⟨i,u,rfl,e⟩|⟨y,u,rfl,e⟩
  .exact nomatch e
  .injection e with e1 _
   subst e1;cases v<;>rfl
theorem pX(prog:Ξ)(w:Ω)(i:Int)(t:Tok):(qS prog w).is (.inl i) (.int i t)=true:=wR i t
theorem rj(prog:Ξ)(w:Ω)(x:Str)(t:Tok):(qS prog w).is (.inr x) (.str x t)=true:=wJ x t
inductive V where
 |non|bl (b:Bool)|int (i:Int)|str (x:Str)|byt (b:Array UInt8)|flt (b:UInt64)|ref (a:Δ)|ty (n:String)
 deriving DecidableEq
abbrev _root_.Μ:=Option V
abbrev _root_.Ε:=List V
noncomputable def HV:V->Γ->Prop
 | .non,u=>u=Γ.none
 | .bl b,u=>u=Γ.bool b
 | .int i,u=>∃t,u=Γ.int i t
 | .str x,u=>∃t,u=Γ.str x t
 | .byt b,u=>∃t,u=Γ.bytes b t
 | .flt b,u=>∃t,u=Γ.float b t
 | .ref a,u=>u=Γ.ref a
 | .ty n,u=>u=Γ.type n
abbrev HS:Ε->Ζ->Prop:=Paired HV
theorem HS.length(r:HS xs us):xs.length=us.length:=Paired.length r
theorem HS.get:∀{xs:Ε} {us:Ζ} {i:Nat} {x:V},HS xs us->xs[i]? =↑x->∃u,us[i]? =↑u/\HV x u
 |_,_,_,_,.nil,e=>by simp at e
 |_,_,0,_,.cons r _,e=>by simp at e;subst e;exact#[0,r]
 |_,_,i+1,x,.cons _ t,e=>by
  let#[u,h1,a]:=HS.get (i:=i) (x:=x) t (by simpa using e)
  exact#[u,by simpa using h1,a]
theorem HS.set{x:V}{u:Γ}(r:HV x u):∀{xs:Ε} {us:Ζ} (i:Nat),HS xs us->HS (xs.set i x) (us.set i u)
 |_,_,_,.nil=> .nil
 |_,_,0,.cons _ t=> .cons r t
 |_,_,i+1,.cons q t=> .cons q (HS.set r i t)
theorem HS.append:∀{xs ys:Ε} {us a:Ζ},HS xs us->HS ys a->HS (xs++ys) (us++a)
 |_,_,_,_,.nil,s=>s
 |_,_,_,_,.cons r t,s=> .cons r (HS.append t s)
theorem HS.take:∀{xs:Ε} {us:Ζ} (n:Nat),HS xs us->HS (xs.take n) (us.take n)
 |_,_,0,_=> .nil
 |_,_,_+1,.nil=> .nil
 |_,_,n+1,.cons r t=> .cons r (HS.take n t)
theorem HS.drop:∀{xs:Ε} {us:Ζ} (n:Nat),HS xs us->HS (xs.drop n) (us.drop n)
 |_,_,0,r=>r
 |_,_,_+1,.nil=> .nil
 |_,_,n+1,.cons _ t=>HS.drop n t
def NK:Μ->Ν->Prop
 |some v,↑u=>HV v u
 |none,none=>True
 |_,_=>False
def KV{κ:Type}:List (κ×V)->List (κ×Γ)->Prop:=Paired λ(p:κ×V) (q:κ×Γ)=>p.1=q.1/\HV p.2 q.2
def kV:qJ->V
 | .inl i=> .int i
 | .inr x=> .str x
inductive HO where
 |lst (xs:Ε)
 |tup (xs:Ε)
 |dK (kvs:List (qJ×V))|dT (kvs:List (List qJ×V))
 |set (S:Int->Bool)(n:Nat)
 |ins (C dx:Δ)(fs:List (Str×V))
 |own (x:Δ)
 |xd (fs:List (Str×V))
 |met (f x:Δ)
 |rng (lo hi:Int)
 |frz (o:Obj)(u:HO)
 |tbl (ps:Array Γ)
 |ext (φ:Ψ->Prop)
abbrev Hp:=Δ->Option HO
def HM(H:Hp)(a:Δ)(o:HO):Hp:=λb=>if b=a then ↑o else H b
theorem qb:HM H a o a=↑o:=by unfold HM;rw[Jc Z]
theorem qp{a b:Δ}(h:b≠a):HM H a o b=H b:=by unfold HM;rw[Jb h]
theorem zO{H:Hp}{b:Δ}{o u:HO}(h:H a=↑o)(h':H b=↑u)(d:o≠u):a≠b:=by
 intro e;subst e;rw[h]at h';exact d (JE h')
theorem qm{H:Hp}{b:Δ}{o:HO}(h:H a=↑o)(h':H b=none):a≠b:=by
 intro e;subst e;rw[h]at h';cases h'
section
variable(P:Ξ)(w:Ω)
noncomputable def ML(H:Hp)(h:Ψ)(a:Δ):HO->Prop
 | .lst xs=>xs.length<=ζ/\∃(its:Ζ) (n:Nat),HS xs its/\h.get? a=some {cls:= .type "list",data:= .seq its.toArray n}
 | .tup xs=>xs.length<=ζ/\∃its:Ζ,HS xs its/\IsTup h a its.toArray
 | .dK kvs=>kvs.length<=ζ/\(a==sysModules)=false/\∃vs,KV kvs vs/\h.DictOf (qS P w) a vs
 | .dT kvs=>kvs.length<=ζ/\(a==sysModules)=false/\∃xs:List (List qJ×Δ×Γ),
   Paired (λ(p:List qJ×V) (q:List qJ×Δ×Γ)=>p.1=q.1/\H q.2.1=↑(.tup (p.1.map kV))/\HV p.2 q.2.2) kvs xs/\
   ∃o es ep,h.get? a=↑o/\o.ExactDict/\o.data= .dict es ep/\es.toList=xs.map (entryOfKey (tupleKind (qS P w)))/\(xs.map (·.1)).Nodup
 | .set S n=>h.SetOf (intKind P w) a S n
 | .ins C dx fs=>H dx=↑(.own a)/\fs.length<=1000/\dx≠a/\h.get? a=↑(PySem.W.instObj C dx)/\
   ∃mA,h.Ns1 dx mA/\(∀f,NK (fs.lookup f) (mA f))/\PySem.Within mA (fs.map (·.1))
 | .own _=>∃o,h.get? a=↑o
 | .xd fs=>∃mA,h.Ns1 a mA/\∀f,NK (fs.lookup f) (mA f)
 | .rng lo hi=>∃t u v,h.get? a=some {cls:= .type "range",data:= .fields (AA [.int lo t,.int hi u,.int 1 v])}
 | .frz o u=>h.get? a=↑o/\ML H h a u
 | .tbl ps=>h.get? a=some {cls:= .none,data:= .fields ps}
 | .met f x=>h.get? a=↑(PySem.W.methodObj (-f) (-x))
 | .ext φ=>φ h/\(∃o,h.get? a=↑o)/\∀h1 c:Ψ,φ h1->(∀o,h1.get? a=↑o->c.get? a=↑o)->φ c
def NW(H:Hp)(h:Ψ):Prop:=∀a o,H a=↑o->ML P w H h a o
end
section
theorem ML.lt(x:ML P w H h a o):a<h.objs.size:=by
 cases o with
 |lst xs=>let#[_,_,_,_,e]:=x;exact Jl e
 |tup xs=>let#[_,_,_,p]:=x;exact p.lt
 |dK kvs=>let#[_,_,_,_,o,_,_,e,_]:=x;exact Jl e
 |dT kvs=>let#[_,_,_,_,o,_,_,e,_]:=x;exact Jl e
 |set S n=>let#[o,_,_,_,e,_]:=x;exact Jl e
 |ins C dx fs=>let#[_,_,_,e,_]:=x;exact Jl e
 |own y=>let#[_,e]:=x;exact Jl e
 |xd fs=>let#[_,#[_,_,_,e,_],_]:=x;exact Jl e
 |rng lo hi=>let#[_,_,_,e]:=x;exact Jl e
 |frz ob u=>let#[e,_]:=x;exact Jl e
 |tbl ps=>exact Jl (show h.get? a=↑_ from x)
 |met f y=>exact Jl (show h.get? a=↑_ from x)
 |ext φ=>let#[_,#[_,e],_]:=x;exact Jl e
theorem Paired.mapP{c d:Type}{F G:c->d->Prop}:∀{l₁:List c} {l₂:List d},Paired F l₁ l₂->(∀a b,F a b->G a b)->Paired G l₁ l₂
 |_,_,.nil,_=> .nil
 |_,_,.cons r t,f=> .cons (f _ _ r) (Paired.mapP t f)
theorem ML.stay(x:ML P w H h a o)(k:∀b u,(b=a\/H b=↑(.own a))->h.get? b=↑u->h'.get? b=↑u)
  (ho:∀b,H b=↑(.own a)->H' b=↑(.own a))(l:∀b xs,H b=↑(.tup xs)->H' b=↑(.tup xs)):ML P w H' h' a o:=by
 induction o with
 |lst xs=>let#[z,i,n,r,e]:=x;exact#[z,i,n,r,k _ _ (.inl Z) e]
 |tup xs=>let#[z,i,r,g,e,c]:=x;exact#[z,i,r,g,k _ _ (.inl Z) e,c]
 |dK kvs=>let#[z,y,vs,r,g,es,ep,e,c]:=x;exact#[z,y,vs,r,g,es,ep,k _ _ (.inl Z) e,c]
 |dT kvs=>
  let#[z,y,xs,r,g,es,ep,e,c]:=x
  exact#[z,y,xs,Paired.mapP r λp q z=>#[z.1,l _ _ z.2.1,z.2.2],g,es,ep,k _ _ (.inl Z) e,c]
 |set S n=>let#[g,es,ep,t,e,c]:=x;exact#[g,es,ep,t,k _ _ (.inl Z) e,c]
 |ins C dx fs=>
  let#[d,z,ne,e,mA,#[od,es,ep,j,c],r]:=x
  exact#[ho _ d,z,ne,k _ _ (.inl Z) e,mA,#[od,es,ep,k _ _ (.inr d) j,c],r]
 |own y=>let#[g,e]:=x;exact#[g,k _ _ (.inl Z) e]
 |xd fs=>let#[mA,#[od,es,ep,e,c],r]:=x;exact#[mA,#[od,es,ep,k _ _ (.inl Z) e,c],r]
 |rng lo hi=>let#[t,u,v,e]:=x;exact#[t,u,v,k _ _ (.inl Z) e]
 |frz g u ih=>let#[e,q]:=x;exact#[k _ _ (.inl Z) e,ih q]
 |tbl ps=>
  have e:h.get? a=some {cls:= .none,data:= .fields ps}:=x
  show h'.get? a=some {cls:= .none,data:= .fields ps}
  exact k a _ (.inl Z) e
 |met f y=>
  have e:h.get? a=↑(W.methodObj (-f) (-y)):=x
  show h'.get? a=↑(W.methodObj (-f) (-y))
  exact k a _ (.inl Z) e
 |ext φ=>let#[p,#[o,e],st]:=x;exact#[st _ _ p λo q=>k _ _ (.inl Z) q,#[o,k _ _ (.inl Z) e],st]
theorem NW.lt(x:NW P w H h)(e:H a=↑o):a<h.objs.size:=(x a o e).lt
theorem NW.fresh(x:NW P w H h)(e:h.objs.size<=a):H a=none:=by
 cases q:H a with
 |none=>rfl
 |some u=>exact absurd (JV (x.lt q) e) (Ia _)
theorem NW.kept(x:NW P w H h)(k:∀b u,h.get? b=↑u->h'.get? b=↑u):NW P w H h':=λa o e=>
 (x a o e).stay (λb u _ q=>k b u q) (λ_ q=>q) λ_ _ q=>q
theorem NW.laid(x:NW P w H h)(k:∀b u,h.get? b=↑u->h'.get? b=↑u)(hp:h.objs.size<=a)(d:ML P w (HM H a o) h' a o):NW P w (HM H a o) h':=λb u e=>by
 have f:=x.fresh hp
 by_cases g:b=a
 .subst g;rw[qb]at e;cases e;exact d
 .rw[qp g]at e
  exact(x b u e).stay (λc v _ q=>k c v q) (λc q=>by rw[qp (qm q f)];exact q) λc xs q=>by rw[qp (qm q f)];exact q
end
def Rd(H:Hp)(a:Δ)(u:HO):Prop:=H a=↑u\/∃o,H a=↑(.frz o u)
theorem Rd.of{H:Hp}{u:HO}(h:H a=↑u):Rd H a u:= .inl h
theorem Rd.ok(r:Rd H a u)(x:NW P w H h):ML P w H h a u:=by
 rcases r with r|⟨o,r⟩
 .exact x a u r
 .let#[_,q]:=x a _ r
  exact q
noncomputable def wP:Option HO->Prop
 |some (.lst _)=>True
 |some (.dK _)=>True
 |some (.dT _)=>True
 |some (.set _ _)=>True
 |some (.ins _ _ _)=>True
 |some (.ext _)=>True
 |_=>False
section
theorem NW.write(ok:NW P w H h)(g:wP (H x))(he:e=x\/H e=↑(.own x))(k:∀b u,b≠e->h.get? b=↑u->h'.get? b=↑u)(l:∃u,h'.get? e=↑u)
  (m:ML P w (HM H x o') h' x o'):NW P w (HM H x o') h':=λb u q=>by
 have d:∀c y,H c=↑(.own y)->c≠x:=λc y r z=>by subst z;rw[r]at g;exact g
 have f:∀c xs,H c=↑(.tup xs)->c≠x:=λc xs r z=>by subst z;rw[r]at g;exact g
 by_cases i:b=x
 .subst i;rw[qb]at q;cases q;exact m
 .rw[qp i]at q
  by_cases a:b=e
  .have n:H b=↑(.own x):=by
    rcases he with z|z
    .exact absurd (a.trans z) i
    .rw[a];exact z
   rw[q]at n;cases n
   let#[v,o]:=l
   exact#[v,by rw[a];exact o]
  .refine(ok b u q).stay (λc v j r=>k c v ?_ r) (λc r=>by rw[qp (d c b r)];exact r) λc xs r=>by rw[qp (f c xs r)];exact r
   rcases j with rfl|j
   .exact a
   .rintro rfl
    rcases he with z|z
    .exact d c b j z
    .rw[j]at z;cases z;exact i Z
end
structure Un(fs ex:Η)(H H':Hp)(h h':Ψ):Prop where
 keep:∀b o,h.get? b=↑o->H b=none->b∉fs->b∉ex->h'.get? b=↑o
 slot:∀b o,h.get? b=↑o->H b=none->b∈fs->b∉ex->∃sl,h'.get? b=some {o with slots:=sl}
 free:∀b o,h.get? b=↑o->H b=none->b∉ex->H' b=none
 there:∀b o,h.get? b=↑o->b∉ex->∃o',h'.get? b=↑o'
 tups:∀b xs,H b=↑(.tup xs)->H' b=↑(.tup xs)
 frzs:∀b o u,H b=↑(.frz o u)->H' b=↑(.frz o u)
 tbls:∀b ps,H b=↑(.tbl ps)->∃more,H' b=↑(.tbl (ps++more))
section
variable{fs:Η}
theorem Un.any(u:Un fs ex H H1 h h1){b:Δ}{ob:Obj}(q:h.get? b=↑ob)(n:H b=none)(hx:b∉ex):∃c,h1.get? b=some {ob with slots:=c}:=by
 by_cases a:b∈fs
 .exact u.slot b ob q n a hx
 .exact#[ob.slots,u.keep b ob q n a hx]
theorem Un.kept(k:∀b u,h.get? b=↑u->h'.get? b=↑u):Un fs ex H H h h':=
 #[λb a q _ _ _=>k b a q,λb a q _ _ _=>#[a.slots,k b a q],λ_ _ _ n _=>n,λb a q _=>#[a,k b a q],λ_ _ q=>q,λ_ _ _ q=>q,λ_ ps q=>#[(AA []),by rw[q];simp]]
theorem Un.refl:Un fs ex H H h h:=Un.kept λ_ _ q=>q
theorem Un.laid(k:∀b u,h.get? b=↑u->h'.get? b=↑u)(hp:h.objs.size<=a)(hn:H a=none):Un fs ex H (HM H a o) h h' where
 keep:=λb u q _ _ _=>k b u q
 slot:=λb u q _ _ _=>#[u.slots,k b u q]
 free:=λb u q n _=>by rw[qp (Jm (JV (Jl q) hp))];exact n
 there:=λb u q _=>#[u,k b u q]
 tups:=λb xs q=>by rw[qp (qm q hn)];exact q
 frzs:=λb u xs q=>by rw[qp (qm q hn)];exact q
 tbls:=λb ps q=>#[(AA []),by rw[qp (qm q hn),q];simp]
theorem Un.write(c:wP (H x))(he:e=x\/H e=↑(.own x))(k:∀b u,b≠e->h.get? b=↑u->h'.get? b=↑u)(d:∃u,h'.get? e=↑u):Un fs ex H (HM H x o) h h':=by
 have i:∀b,H b=none->b≠x:=λb n z=>by subst z;rw[n]at c;exact c
 have g:∀b,H b=none->b≠e:=λb n z=>by
  subst z;rcases he with r|r
  .exact i b n r
  .rw[n]at r;cases r
 have f:∀b u,H b=↑u->¬wP ↑u->b≠x:=λb u q nm z=>by subst z;rw[q]at c;exact nm c
 refine#[λb u q n _ _=>k b u (g b n) q,λb u q n _ _=>#[u.slots,k b u (g b n) q],λb u q n _=>by rw[qp (i b n)];exact n,λb u q _=>?_,
  λb xs q=>by rw[qp (f b _ q λz=>z)];exact q,λb u xs q=>by rw[qp (f b _ q λz=>z)];exact q,λb ps q=>#[(AA []),by rw[qp (f b _ q λz=>z),q];simp]]
 by_cases a:b=e
 .subst a;exact d
 .exact#[u,k b u a q]
end
def Cd(h:Ψ)(H:Hp):Η:=(Ag h.objs.size).filter λa=>(H a).isSome
def dc(h:Ψ)(H:Hp):Ψ:=PySem.W.hideAll h (Cd h H)
theorem vQ(h:Ψ)(H:Hp):(dc h H).objs.size=h.objs.size:=W.hideAll_size _ _
theorem Bd{h:Ψ}{H:Hp}{b:Δ}{o:Obj}(e:h.get? b=↑o)(n:H b=none):(dc h H).get? b=↑o:=
 W.hideAll_get _ e λa=>by
  have q:(H b).isSome=true:=(LL.mp a).2
  rw[n]at q;simp at q
theorem Ct{b:Δ}{o:Obj}(e:(dc h H).get? b=↑o):h.get? b=↑o/\H b=none:=by
 have e':h.get? b=↑o:=W.of_hideAll (Cd h H) e
 exists e'
 cases q:H b with
 |none=>rfl
 |some x=>
  have a:b∈Cd h H:=LL.mpr #[JT.mpr (Jl e'),by simp [q]]
  have z:(dc h H).get? b=none:=W.hideAll_none (Cd h H) a
  rw[z]at e;cases e
structure RT(K:ι)(mg:HH)(base:Ψ):Prop where
 kin:K.In base
 glob:base.Ns η mg
 blt:∃mb,base.Ns builtinsNs mb/\∀x:Str,x≠"__name__"->mb x=bootBuiltins x
 nolimit:base.NoLimit
structure Cx where
 prog:Ξ
 w:Ω
 K:ι
 mg:Str->Ν
 base:Ψ
 A:Rj
 N:Α
 s₀:Θ
 H₀:Hp
 env:Env
 outer:Τ
 stack:Τ
 ex:Η
 fn:Str->Bool
 calm:Bool
 pn:List (Δ×Obj)
 xe:Γ->Θ->Prop
def cJ(l:Τ):Η:=l.filterMap (·.frame)
abbrev Cx.fs(X:Cx):Η:=cJ X.outer
def Er(a:Scope)(x:Str):Prop:=a.names.lookup x=some .local\/a.names.lookup x=some .cell\/a.names.lookup x=some .free
def fQ(a:Scope)(x:Str):Prop:=a.names.lookup x=some .local\/a.names.lookup x=some .cell
def GH(a:Env)(h:Ψ)(m:HH)(x:Str)(u:Γ):Prop:=
 (a.kindOf x=some .local/\m x=↑u)\/((a.kindOf x=some .cell\/a.kindOf x=some .free)/\∃c,a.cells.lookup x=↑c/\h.IsCell c ↑u)
structure Cx.Ok(X:Cx):Prop where
 mod:RT X.K X.mg X.base
 kind:X.env.scope.kind= .function
 glob:X.env.globals=η
 blt:X.env.builtins=builtinsNs
 above:X.s₀.heap.objs.size<=X.env.locals
 inj:∀x y c,X.env.cells.lookup x=↑c->X.env.cells.lookup y=↑c->x=y
 has:∀x,(X.env.kindOf x=some .cell\/X.env.kindOf x=some .free)->∃c,X.env.cells.lookup x=↑c
 cab:∀x c,X.fn x=true->X.env.cells.lookup x=↑c->X.s₀.heap.objs.size<=c
 hd:X.calm=true->X.A.handled=none
 frames:X.A.frames=↑X.stack
 stk:X.stack=X.outer\/(X.stack=X.env::X.outer/\X.env.frame=↑X.env.locals)
 exf:∀b∈X.ex,b≠X.env.locals/\∀x c,X.env.cells.lookup x=↑c->c≠b
 bs:∀b o,X.base.get? b=↑o->X.s₀.heap.get? b=↑o/\X.H₀ b=none
 bsz:X.base.objs.size<=X.s₀.heap.objs.size
 noex:∀b o,X.base.get? b=↑o->b∉X.ex
 exfs:∀b∈X.ex,b∉X.fs
 funs:X.s₀.heap.FunFrames X.base X.outer
 frf:∀b∈X.fs,X.H₀ b=none
structure HN(X:Cx)(R0:HI)(σ:List Μ)(H:Hp)(s:Θ):Prop where
 ok:X.Ok
 os:s.os=X.s₀.os
 bare:AllBare s.gens
 base:Un X.fs X.ex X.H₀ H X.s₀.heap s.heap
 loc:∃m,s.heap.Ns X.env.locals m/\∀(i:Nat) (x:Str) (v:V),X.N[i]? =↑x->σ[i]? =↑(↑v)->Er X.env.scope x->∃u,HV v u/\GH X.env s.heap m x u
 cell:∀x c,X.env.cells.lookup x=↑c->∃v,s.heap.IsCell c v
 free:H X.env.locals=none
 freeC:∀x c,X.env.cells.lookup x=↑c->H c=none
 pin:∀p∈X.pn++R0,s.heap.get? p.1=↑p.2/\H p.1=none/\p.1≠X.env.locals/\p.1∉X.fs/\∀v,p.2.data≠ .cell v
 hok:NW X.prog X.w H s.heap
 len:σ.length=X.N.length
section
variable{X:Cx}
theorem Cx.Ok.nofr(ok:X.Ok){b:Δ}{o:Obj}(e:X.base.get? b=↑o):b∉X.fs:=λa=>by
 have:=(ok.funs.mem a).1
 rw[e]at this;cases this
theorem HN.bs(I:HN X R0 σ H s):∀b o,X.base.get? b=↑o->s.heap.get? b=↑o/\H b=none:=λb o e=>
 #[I.base.keep b o (I.ok.bs b o e).1 (I.ok.bs b o e).2 (I.ok.nofr e) (I.ok.noex b o e),I.base.free b o (I.ok.bs b o e).1 (I.ok.bs b o e).2 (I.ok.noex b o e)]
theorem HN.bk(I:HN X R0 σ H s):∀b o,X.base.get? b=↑o->s.heap.get? b=↑o:=λb o e=>(I.bs b o e).1
theorem HN.mod(I:HN X R0 σ H s):RT X.K X.mg X.base:=I.ok.mod
theorem HN.kIn(I:HN X R0 σ H s):X.K.In s.heap:=I.ok.mod.kin.keeps I.bk
theorem HN.lt(I:HN X R0 σ H s):X.env.locals<s.heap.objs.size:=let⟨_,hn,_⟩:=I.loc;hn.lt
theorem HN.sz(I:HN X R0 σ H s):X.s₀.heap.objs.size<=s.heap.objs.size:=JN I.ok.above (LM I.lt)
theorem HN.nofs(I:HN X R0 σ H s){a:Δ}(h:s.heap.objs.size<=a):a∉X.fs:=λd=>by
 let#[_,o,c,_]:=I.ok.funs.mem d;exact absurd (JV (Jl c) (JN I.sz h)) (Ia _)
theorem HN.cne(I:HN X R0 σ H s):∀x c,X.env.cells.lookup x=↑c->c≠X.env.locals:=λx c e z=>by
 let#[v,o,f,g]:=I.cell x c e;let#[m,#[o',es,ep,a,d,_],_]:=I.loc;rw[z,a]at f;cases f;rw[d]at g;cases g
theorem HN.funs(I:HN X R0 σ H s):s.heap.FunFrames X.base X.outer:=by
 have all:∀(l:Τ),(∀b∈cJ l,b∈X.fs)->X.s₀.heap.FunFrames X.base l->s.heap.FunFrames X.base l:=by
  intro l
  induction l with
  |nil=>intro _ _;trivial
  |cons env r ih=>
   intro f g;let#[hk,#[L,o,d,h,j,m],i]:=g;have a:L∈X.fs:=f L (by unfold cJ;rw[JW,d];exact Jr)
   let#[n,e]:=I.base.slot L o j (I.ok.frf L a) a λz=>I.ok.exfs L z a
   exact#[hk,#[L,_,d,h,e,m],ih (λb c=>f b (by unfold cJ;rw[JW,d];exact Jv _ c)) i]
 exact all X.outer (λ_ c=>c) I.ok.funs
theorem HN.stack(I:HN X R0 σ H s):s.heap.FunFrames X.base X.stack:=by
 rcases I.ok.stk with e|⟨e,c⟩
 .rw[e];exact I.funs
 .rw[e]
  let#[m,a,_]:=I.loc;refine .cons (by rw[I.ok.kind];decide) c a ?_ I.funs
  exact Ψ.get?_none_of_le (JN I.ok.bsz I.ok.above)
theorem HN.stkSub(I:HN X R0 σ H s):∀b∈cJ X.stack,b∈X.env.locals::X.fs:=λb a=>by
 rcases I.ok.stk with e|⟨e,c⟩
 .rw[e]at a;exact Jv _ a
 .rw[e]at a
  unfold cJ at a;rw[JW,c]at a;exact a
theorem HN.stkFree(I:HN X R0 σ H s):∀b∈cJ X.stack,H b=none:=λb a=>by
 rcases Jg.mp (I.stkSub b a)with e|a
 .rw[e];exact I.free
 .let#[_,o,c,_]:=I.ok.funs.mem a
  exact I.base.free b o c (I.ok.frf b a) λz=>I.ok.exfs b z a
theorem HN.step{t':Nat}{d':Drawn}{ch:Η}(I:HN X R0 σ H s)
  (j:∀b∈ch,(b∈X.ex\/X.s₀.heap.objs.size<=b)/\b≠X.env.locals/\(∀x c,X.env.cells.lookup x=↑c->c≠b)/\∀p∈X.pn++R0,p.1≠b)
  (keep:∀b o,b≠X.env.locals->b∉X.fs->b∉ch->s.heap.get? b=↑o->H b=none->h'.get? b=↑o)
  (y:∀b o,b≠X.env.locals->b∈X.fs->b∉ch->s.heap.get? b=↑o->H b=none->∃N,h'.get? b=some {o with slots:=N})(f:∀b o,b∉ch->s.heap.get? b=↑o->H b=none->H' b=none)
  (A:∀b o,b∉ch->s.heap.get? b=↑o->∃o',h'.get? b=↑o')
  (J:∀b xs,H b=↑(.tup xs)->H' b=↑(.tup xs))(D:∀b o u,H b=↑(.frz o u)->H' b=↑(.frz o u))(E:∀b ps,H b=↑(.tbl ps)->∃more,H' b=↑(.tbl (ps++more)))
  (ns:∀m,s.heap.Ns X.env.locals m->h'.Ns X.env.locals m)(K:NW X.prog X.w H' h')(hg:AllBare g'):
  HN X R0 σ H' {s with heap:=h',gens:=g',drawn:=d',toks:=t'}:=by
 have G:∀b o,X.s₀.heap.get? b=↑o->b≠X.env.locals:=λb o e=>Jm (JV (Jl e) I.ok.above)
 have w:∀b o,X.s₀.heap.get? b=↑o->b∉X.ex->b∉ch:=λb o e a B=>by
  rcases(j b B).1 with z|z
  .exact a z
  .exact absurd (JV (Jl e) z) (Ia _)
 have g:∀x c,X.env.cells.lookup x=↑c->∀v,s.heap.IsCell c v->h'.IsCell c v:=λx c e v ⟨o,C,M⟩=>by
  have h:c∉ch:=λz=>(j c z).2.2.1 x c e Z
  by_cases Q:c∈X.fs
  .let#[N,q]:=y c o (I.cne x c e) Q h C (I.freeC x c e)
   exact#[_,q,M]
  .exact#[o,keep c o (I.cne x c e) Q h C (I.freeC x c e),M]
 refine#[I.ok,I.os,hg,#[λb o e n B a=>?_,λb o e n B a=>?_,λb o e n a=>?_,λb o e a=>?_,λb xs e=>J b xs (I.base.tups b xs e),λb o xs e=>D b o xs (I.base.frzs b o xs e),λb ps e=>?_],?_,λx c e=>?_,?_,λx c e=>?_,λp O=>?_,K,I.len]
 .exact keep b o (G b o e) B (w b o e a) (I.base.keep b o e n B a) (I.base.free b o e n a)
 .let#[N,t]:=I.base.slot b o e n B a
  let#[L,F]:=y b _ (G b o e) B (w b o e a) t (I.base.free b o e n a)
  exact#[L,F]
 .let#[o',t]:=I.base.there b o e a
  exact f b o' (w b o e a) t (I.base.free b o e n a)
 .let#[o',t]:=I.base.there b o e a
  exact A b o' (w b o e a) t
 .let#[T,t]:=I.base.tbls b ps e
  let#[S,F]:=E b _ t
  exact#[T++S,by rw[F,Array.append_assoc]]
 .let#[m,R,U]:=I.loc
  refine#[m,ns m R,λi x v t F W=>?_]
  let#[u,r,l]:=U i x v t F W;exists u,r
  rcases l with l|⟨k,c,e,z⟩
  .exact .inl l
  .exact .inr #[k,c,e,g x c e _ z]
 .let#[v,z]:=I.cell x c e
  exact#[v,g x c e v z]
 .let#[m,#[o,_,_,C,_],_]:=I.loc
  exact f _ o (λz=>(j _ z).2.1 Z) C I.free
 .let#[v,o,C,M]:=I.cell x c e
  exact f c o (λz=>(j c z).2.2.1 x c e Z) C (I.freeC x c e)
 .let#[e,n,ne,P,d]:=I.pin p O
  have h:p.1∉ch:=λz=>(j p.1 z).2.2.2 p O Z
  exact#[keep p.1 p.2 ne P h e n,f p.1 p.2 h e n,ne,P,d]
theorem HN.un{t':Nat}(I:HN X R0 σ H s)(u:Un X.fs [] H H' s.heap h')(d:NW X.prog X.w H' h'):HN X R0 σ H' {s with heap:=h',toks:=t'}:=by
 let#[m,#[o,es,ep,h,r],_]:=id I.loc;let#[q,l]:=u.any h I.free (by simp)
 exact I.step (g':=s.gens) (d':=s.drawn) (ch:=[]) (λ_ z=>nomatch z) (λb o _ c _ e n=>u.keep b o e n c (by simp)) (λb o _ c _ e n=>u.slot b o e n c (by simp)) (λb o _ e n=>u.free b o e n (by simp)) (λb o _ e=>u.there b o e (by simp)) u.tups u.frzs u.tbls (λp j=>by
  let#[o',g,f,a,i]:=j;rw[h]at a;cases a
  exact#[_,g,f,l,i]) d I.bare
theorem HN.call{t':Nat}{d':Drawn}{ch:Η}(I:HN X R0 σ H s)(u:Un (cJ X.stack) ch H H' s.heap h')(h:NW X.prog X.w H' h')(hg:AllBare g')
  (f:∀b∈ch,(b∈X.ex\/X.s₀.heap.objs.size<=b)/\b≠X.env.locals/\(∀x c,X.env.cells.lookup x=↑c->c≠b)/\∀p∈X.pn++R0,p.1≠b):
  HN X R0 σ H' {s with heap:=h',gens:=g',drawn:=d',toks:=t'}:=by
 let#[m,#[o,es,ep,l,r],_]:=id I.loc;let#[y,g]:=u.any l I.free λz=>(f _ z).2.1 Z
 exact I.step (ch:=ch) f (λb o g v a e n=>u.keep b o e n (λz=>(Jg.mp (I.stkSub b z)).elim g v) a) (λb o _ _ a e n=>u.any e n a) (λb o a e n=>u.free b o e n a) (λb o a e=>u.there b o e a) u.tups u.frzs u.tbls (λw t=>by
  let#[o',j,i,d,q]:=t;rw[l]at d;cases d
  exact#[_,j,i,g,q]) h hg
theorem HN.turned{t':Nat}{it:Δ}(I:HN X R0 σ H s)(k:∀b o,b≠it->s.heap.get? b=↑o->h'.get? b=↑o)(hn:H it=none)(f:it≠X.env.locals)
  (h1:it∈X.ex\/X.s₀.heap.objs.size<=it)(h2:∀x c,X.env.cells.lookup x=↑c->c≠it)(j:∀p∈X.pn++R0,p.1≠it):HN X R0 σ H {s with heap:=h',toks:=t'}:=by
 have d:∀b u,H b=↑u->b≠it:=λb u e z=>by rw[z,hn]at e;cases e
 refine I.step (g':=s.gens) (d':=s.drawn) (ch:=[it]) (λb h=>?_) (λb o _ _ a e _=>k b o (λz=>a (by simp [z])) e) (λb o _ _ a e _=>#[o.slots,k b o (λz=>a (by simp [z])) e]) (λ_ _ _ _ n=>n)
  (λb o a e=>#[o,k b o (λz=>a (by simp [z])) e]) (λ_ _ e=>e) (λ_ _ _ e=>e) (λb ps e=>#[(AA []),by rw[e];simp]) (λm i=>?_) (λb u e=>?_) I.bare
 .have e:b=it:=by simpa using h
  subst e
  exact#[h1,f,h2,j]
 .let#[o,es,ep,g,r]:=i
  exact#[o,es,ep,k _ o (Ne.symm f) g,r]
 .refine(I.hok b u e).stay (λc v a q=>k c v ?_ q) (λ_ q=>q) λ_ _ q=>q
  rcases a with z|z
  .rw[z];exact d b u e
  .exact d c _ z
theorem HN.tok(I:HN X R0 σ H s)(t:Nat):HN X R0 σ H {s with toks:=t}:=I.un (h':=s.heap) (t':=t) Un.refl I.hok
theorem HN.kept{t':Nat}(I:HN X R0 σ H s)(k:∀b u,s.heap.get? b=↑u->h'.get? b=↑u):HN X R0 σ H {s with heap:=h',toks:=t'}:=I.un (Un.kept k) (I.hok.kept k)
theorem HN.laid{a:Δ}{t':Nat}(I:HN X R0 σ H s)(k:∀b u,s.heap.get? b=↑u->h'.get? b=↑u)(hp:s.heap.objs.size<=a)(c:ML X.prog X.w (HM H a o) h' a o):
  HN X R0 σ (HM H a o) {s with heap:=h',toks:=t'}:=I.un (Un.laid k hp (I.hok.fresh hp)) (I.hok.laid k hp c)
theorem HN.write{e:Δ}{t':Nat}(I:HN X R0 σ H s)(d:wP (H x))(he:e=x\/H e=↑(.own x))(k:∀b u,b≠e->s.heap.get? b=↑u->h'.get? b=↑u)(a:∃u,h'.get? e=↑u)
  (c:ML X.prog X.w (HM H x o) h' x o):HN X R0 σ (HM H x o) {s with heap:=h',toks:=t'}:=I.un (Un.write d he k a) (I.hok.write d he k a c)
theorem HN.pins_of{pins':HI}(I:HN X R0 σ H s)(h:∀p∈pins',s.heap.get? p.1=↑p.2/\H p.1=none/\p.1≠X.env.locals/\p.1∉X.fs/\∀v,p.2.data≠ .cell v):HN X pins' σ H s:=
 #[I.ok,I.os,I.bare,I.base,I.loc,I.cell,I.free,I.freeC,λp a=>(JP.mp a).elim (λz=>I.pin p (LN _ z)) (h p),I.hok,I.len]
theorem pv{N:Α}(hN:N.Nodup){i j:Nat}{x:Str}(a:N[i]? =↑x)(b:N[j]? =↑x):i=j:=by
 let#[h1,d]:=Jw.mp a;let#[e,c]:=Jw.mp b
 exact(List.getElem_inj hN).mp (d.trans c.symm)
theorem bG{i:Nat}{x:Str}{Q:Unit->Θ->Prop}(I:HN X R0 σ H s)(hN:X.N.Nodup)(hi:X.N[i]? =↑x)(hx:fQ X.env.scope x)(r:HV v u)
  (h:∀s',HN X R0 (σ.set i ↑v) H s'->(∃a,Ψ.SameBut a s.heap s'.heap/\(a=X.env.locals\/X.env.cells.lookup x=↑a))->Q () s')(hf:X.fn x=true\/X.env.scope.names.lookup x=some .local:=by first|exact .inl Z|exact .inr Z|assumption):ε M A (storeName X.env x u) Q E s:=by
 let#[m,R,hl]:=id I.loc;have L:(X.env.scope.kind== .class||(X.env.scope.kind== .module&&X.env.locals != X.env.globals))=false:=by rw[I.ok.kind];rfl
 have C:i<σ.length:=by rw[I.len];exact(Jw.mp hi).1
 have cne:=I.cne;have l:∀{a:Δ} {h':Ψ},(∃o,s.heap.get? a=↑o/\H a=none)->Ψ.SameBut a s.heap h'->NW X.prog X.w H h':=λ{a h'} ha f b ob e=>by
  let#[_,_,w]:=ha;refine(I.hok b ob e).stay (λc P t q=>(f.2 c ?_).trans q) (λ_ q=>q) λ_ _ q=>q
  rintro rfl
  rcases t with rfl|t
  .rw[w]at e;cases e
  .rw[w]at t;cases t
 rcases hx with hk|hk
 .refine wpAny_storeName_local hk R (λh' T f=>?_) L
  let#[oL,_,_,S,_]:=id R;refine h _ #[I.ok,I.os,I.bare,#[λb o e n G hx=>?_,λb o e n G hx=>?_,I.base.free,λb o e hx=>?_,I.base.tups,I.base.frzs,I.base.tbls],#[_,T,λj y v' g B e3=>?_],λy c e=>?_,I.free,I.freeC,λp U=>?_,l #[oL,S,I.free] f,by simpa using I.len] #[_,f,.inl Z]
  .exact(f.2 b (Jm (JV (Jl e) I.ok.above))).trans (I.base.keep b o e n G hx)
  .let#[sl,g]:=I.base.slot b o e n G hx
   exact#[sl,(f.2 b (Jm (JV (Jl e) I.ok.above))).trans g]
  .let#[o',g]:=I.base.there b o e hx
   exact#[o',(f.2 b (Jm (JV (Jl e) I.ok.above))).trans g]
  .by_cases D:j=i
   .subst D
    rw[hi]at g;cases g
    rw[LY C]at B;cases B
    exact#[u,r,.inl #[hk,by simp]]
   .rw[LZ (Ne.symm D)]at B
    let#[W,Y,q]:=hl j y v' g B e3;exists W,Y
    rcases q with⟨k,e⟩|⟨k,c,e,z⟩
    .refine .inl #[k,?_]
     have:y≠x:=λe=>D (pv hN g (e▸hi))
     simp [this,e]
    .exact .inr #[k,c,e,z.sameBut f (cne y c e)]
  .let#[P,z]:=I.cell y c e
   exact#[P,z.sameBut f (cne y c e)]
  .let#[e,n,ne,nf,d]:=I.pin p U
   exact#[(f.2 p.1 ne).trans e,n,ne,nf,d]
 .have F:X.fn x=true:=by
   rcases hf with z|z
   .exact z
   .rw[z]at hk;cases hk
  let#[c,t]:=I.ok.has x (.inl hk)
  let#[P,z]:=I.cell x c t;refine wpAny_storeName_cell I.ok.kind hk t z (λh' O f=>?_)
  let#[oc,J,N]:=id z;refine h {s with heap:=h'} #[I.ok,I.os,I.bare,#[λb o e n G hx=>?_,λb o e n G hx=>?_,I.base.free,λb o e hx=>?_,I.base.tups,I.base.frzs,I.base.tbls],#[m,R.sameBut f (Ne.symm (cne x c t)),λj y v' g B e3=>?_],λy c' e=>?_,I.free,I.freeC,λp U=>?_,l #[oc,J,I.freeC x c t] f,by simpa using I.len] #[c,f,.inr t]
  .exact(f.2 b (Jm (JV (Jl e) (I.ok.cab x c F t)))).trans (I.base.keep b o e n G hx)
  .let#[sl,g]:=I.base.slot b o e n G hx
   exact#[sl,(f.2 b (Jm (JV (Jl e) (I.ok.cab x c F t)))).trans g]
  .let#[o',g]:=I.base.there b o e hx
   exact#[o',(f.2 b (Jm (JV (Jl e) (I.ok.cab x c F t)))).trans g]
  .by_cases D:j=i
   .subst D
    rw[hi]at g;cases g
    rw[LY C]at B;cases B
    exact#[u,r,.inr #[.inl hk,c,t,O]]
   .rw[LZ (Ne.symm D)]at B
    let#[W,Y,q]:=hl j y v' g B e3;exists W,Y
    rcases q with q|⟨k,c',e,z'⟩
    .exact .inl q
    .refine .inr #[k,c',e,z'.sameBut f ?_]
     rintro rfl
     exact D (pv hN g (I.ok.inj _ _ _ e t▸hi))
  .by_cases K:c'=c
   .subst K;exact#[_,O]
   .let#[w2,z2]:=I.cell y c' e
    exact#[w2,z2.sameBut f K]
  .let#[e,n,ne,nf,d]:=I.pin p U
   refine#[(f.2 p.1 ?_).trans e,n,ne,nf,d]
   intro q;rw[q,J]at e;have q':oc=p.2:=JE e
   exact d P (by rw[<- q'];exact N)
theorem c9{i:Nat}{x:Str}{Q:Unit->Θ->Prop}(I:HN X R0 σ H s)(hN:X.N.Nodup)(hi:X.N[i]? =↑x)(hx:fQ X.env.scope x)(r:HV v u)
  (h:∀s',HN X R0 (σ.set i ↑v) H s'->Q () s')(hf:X.fn x=true\/X.env.scope.names.lookup x=some .local:=by first|exact .inl Z|exact .inr Z|assumption):ε M A (storeName X.env x u) Q E s:=
 bG I hN hi hx r (λs' a _=>h s' a) hf
theorem HN.call'{s':Θ}{ch:Η}(I:HN X R0 σ H s)(ho:s'.os=s.os)(u:Un (cJ X.stack) ch H H' s.heap s'.heap)(d:NW X.prog X.w H' s'.heap)(hg:AllBare s'.gens)
  (a:∀b∈ch,(b∈X.ex\/X.s₀.heap.objs.size<=b)/\b≠X.env.locals/\(∀x c,X.env.cells.lookup x=↑c->c≠b)/\∀p∈X.pn++R0,p.1≠b):HN X R0 σ H' s':=by
 let#[h',g',d',t',o']:=s';have e:o'=s.os:=ho
 subst e;exact I.call (g':=g') (t':=t') (d':=d') u d hg a
end
abbrev XK:=Γ->β->Hp->Prop
abbrev St:=List Μ
abbrev VK:=V->Hp->Prop
abbrev TE:=St->Hp->VK->Prop
abbrev TT:=St->Hp->(Bool->Hp->Prop)->Prop
abbrev TA:=St->Hp->(Ε->Hp->Prop)->Prop
structure Ng where
 nx:St->Hp->Prop
 rt:VK
 bk:St->Hp->Prop:=λ_ _=>False
 ct:St->Hp->Prop:=λ_ _=>False
abbrev TS:=Ng->St->Hp->Prop
def EP(X:Cx)(R0:HI)(σ:St)(Q:VK)(u:Γ)(s':Θ):Prop:=∃v H',HN X R0 σ H' s'/\HV v u/\Q v H'
def TP(X:Cx)(R0:HI)(σ:St)(Q:Bool->Hp->Prop)(b:Bool)(s':Θ):Prop:=∃H',HN X R0 σ H' s'/\Q b H'
def AP(X:Cx)(R0:HI)(σ:St)(Q:Ε->Hp->Prop)(us:Ζ)(s':Θ):Prop:=∃vs H',HN X R0 σ H' s'/\HS vs us/\Q vs H'
def SP(X:Cx)(R0:HI)(D:Ng)(f:Flow)(s':Θ):Prop:=
 match f with
 | .next=>∃a H',HN X R0 a H' s'/\D.nx a H'
 | .brk=>∃a H',HN X R0 a H' s'/\D.bk a H'
 | .cont=>∃a H',HN X R0 a H' s'/\D.ct a H'
 | .ret u=>∃v a H',HN X R0 a H' s'/\HV v u/\D.rt v H'
def PE(X:Cx)(e:Φ)(t:TE):Prop:=
 ∀(R0:HI) (s:Θ) (σ:St) (H:Hp) (Q:VK),HN X R0 σ H s->t σ H Q->ε (model X.prog X.w) X.A (eval e X.env) (EP X R0 σ Q) X.xe s
def PT(X:Cx)(e:Φ)(t:TT):Prop:=
 ∀(R0:HI) (s:Θ) (σ:St) (H:Hp) (Q:Bool->Hp->Prop),HN X R0 σ H s->t σ H Q->ε (model X.prog X.w) X.A (isTrue e X.env (eval e X.env)) (TP X R0 σ Q) X.xe s
def PW(X:Cx)(e:Φ)(t:TT):Prop:=
 ∀(a:Sem Γ) (R0:HI) (s:Θ) (σ:St) (H:Hp) (Q:Bool->Hp->Prop),HN X R0 σ H s->t σ H Q->ε (model X.prog X.w) X.A (isTrue e X.env a) (TP X R0 σ Q) X.xe s
theorem PW.pt(h:PW X e t):PT X e t:=h _
def PA(X:Cx)(es:Ι)(t:TA):Prop:=
 ∀(pos:Pos) (R0:HI) (s:Θ) (σ:St) (H:Hp) (Q:Ε->Hp->Prop),HN X R0 σ H s->t σ H Q->ε (model X.prog X.w) X.A (spliced (backTo pos (θ es X.env))) (AP X R0 σ Q) X.xe s
def PS(X:Cx)(st:δ)(t:TS):Prop:=
 ∀(R0:HI) (s:Θ) (σ:St) (H:Hp) (D:Ng),HN X R0 σ H s->t D σ H->ε (model X.prog X.w) X.A (exec st X.env) (SP X R0 D) X.xe s
def On(X:Cx)(st:List δ)(t:TS):Prop:=
 ∀(R0:HI) (s:Θ) (σ:St) (H:Hp) (D:Ng),HN X R0 σ H s->t D σ H->ε (model X.prog X.w) X.A (execs st X.env) (SP X R0 D) X.xe s
theorem qz{d:Type}{t:Sem d}{Q c:d->Θ->Prop}{M:Model}{A:Rj}{E:HG}{s:Θ}(h:ε M A t Q E s)(e:∀a s,Q a s->c a s):ε M A t c E s:=Jx h e λ_ _ x=>x
section
inductive RA (i:Nat)(σ:L2.St)(H:Hp)(Q:VK):Prop
 |mk (v:_)(h1:σ[i]? =↑(↑v))(h2:Q v H)
def DY(i:Nat):TE:=λσ H Q=>RA i σ H Q
def tC(v:V):TE:=λ_ H Q=>Q v H
theorem Fv{i:Nat}{x:Str}(hN:X.N[i]? =↑x)(hv:Er X.env.scope x)(hd:(x==("__debug__":Str))=false:=by decide)(f:(x==("__classdict__":Str))=false:=by decide):PE X (.Name x pos) (DY i):=by
 intro R0 s σ H Q I h;let#[v,e,h]:=h;let#[m,n,j]:=I.loc;let#[u,r,l]:=j i x v hN e hv;have d:EP X R0 σ Q u s:=#[v,H,I,r,h]
 rcases l with⟨hk,o⟩|⟨hk,c,g,a⟩
 .exact wpAny_Name (wpAny_loadName_local I.ok.kind hk n o d) hd
 .rcases hk with hk|hk
  .exact wpAny_Name (wpAny_loadName_cell I.ok.kind hk g a d) hd
  .exact wpAny_Name (wpAny_loadName_free I.ok.kind hk g a d f) hd
theorem Fm{i j pos}:PE X (.Constant (.int i) j pos) (tC (.int i)):=λ_ _ _ H _ I h=>wpAny_Constant_int #[.int i,H,I.tok _,#[0],h]
theorem FT{b j pos}:PE X (.Constant (.bool b) j pos) (tC (.bl b)):=λ_ _ _ H _ I h=>Constant_bool #[.bl b,H,I,Z,h]
theorem FG{j pos}:PE X (.Constant .none j pos) (tC .non):=λ_ _ _ H _ I h=>Constant_none #[.non,H,I,Z,h]
theorem EW{x j pos}:PE X (.Constant (.str x) j pos) (tC (.str x)):=λ_ _ _ H _ I h=>Calls.Constant_str #[.str x,H,I.tok _,#[0],h]
def Gl(X:Cx)(x:Str):Prop:=X.env.kindOf x=some .globalImplicit
theorem jO{u:Γ}{Q:HG}(I:HN X R0 σ H s)(hg:Gl X x)(hm:X.mg x=↑u)(h:Q u s)
  (hd:(x==("__debug__":Str))=false:=by decide):ε (model X.prog X.w) X.A (eval (.Name x pos) X.env) Q E s:=
 Calls.Name_function_global I.ok.kind hg (Calls.loadGlobal_global (by rw[I.ok.glob];exact I.mod.glob.keeps I.bk) hm h) hd
theorem Zp{u:Γ}{Q:HG}(I:HN X R0 σ H s)(hg:Gl X x)(hm:X.mg x=none)(hv:bootBuiltins x=↑u)(h:Q u s)
  (hn:x≠"__name__":=by decide)(hd:(x==("__debug__":Str))=false:=by decide):ε (model X.prog X.w) X.A (eval (.Name x pos) X.env) Q E s:=by
 let#[c,h1,a]:=I.mod.blt;exact Calls.Name_function_global I.ok.kind hg (Calls.loadGlobal_builtin (by rw[I.ok.glob];exact I.mod.glob.keeps I.bk) hm (by rw[I.ok.blt];exact h1.keeps I.bk) ((a x hn).trans hv) h) hd
theorem Dv{u:Γ}(hg:Gl X x)(hm:X.mg x=↑u)(r:HV v u)(hd:(x==("__debug__":Str))=false:=by decide):PE X (.Name x pos) (tC v):=
 λ_ _ _ H _ I h=>jO I hg hm #[v,H,I,r,h] hd
theorem CC{u:Γ}(hg:Gl X x)(hm:X.mg x=none)(hv:bootBuiltins x=↑u)(r:HV v u)(hn:x≠"__name__":=by decide)(hd:(x==("__debug__":Str))=false:=by decide):PE X (.Name x pos) (tC v):=
 λ_ _ _ H _ I h=>Zp I hg hm hv #[v,H,I,r,h] hn hd
variable{b:Φ}
def PC(X:Cx)(op:CmpOp)(a b:Φ)(t:TE):Prop:=
 ∀(R0:HI) (s:Θ) (σ:St) (H:Hp) (Q:VK),HN X R0 σ H s->t σ H Q->
  ε (model X.prog X.w) X.A (eval a X.env) (λv d=>ε (model X.prog X.w) X.A (eval b X.env) (λu c=>ε (model X.prog X.w) X.A (Py op v u) (EP X R0 σ Q) X.xe c) X.xe d) X.xe s
def tB(t:TE):TT:=λσ H Q=>t σ H λx H1=>∃c,x= .bl c/\Q c H1
theorem vH(h:PC X op a b t)(h1:behindInMarks op b=false:=by first|exact nobehind _ ⋯ ⋯|rfl):PT X (.Compare a [op] [b] pos) (tB t):=by
 intro R0 s σ H Q I f;refine wpAny_isTrue_Compare1 (qz (h R0 s σ H _ I f) λv o h1=>qz h1 λu n j=>qz j λc m e=>?_) h1
 let#[x,H1,l,i,g]:=e;let#[d,rfl,q]:=g;cases i;exact IT #[H1,l,q]
theorem FA(h:PE X e t)(he:∀a,isTrue e X.env a=(do let v <- a;standAt e.pos;holding [v] (truthy v)):=by intro _;rfl):PT X e (tB t):=by
 intro R0 s σ H Q I f;refine isTrue_plain (qz (h R0 s σ H _ I f) λv l c=>?_) (he _)
 let#[x,H1,j,i,g]:=c;let#[d,rfl,q]:=g;cases i;exact IT #[H1,j,q]
noncomputable def Fy(t u:TT):TT:=λσ H Q=>t σ H λc H1=>if c=true then u σ H1 Q else Q false H1
noncomputable def Gu(t u:TT):TT:=λσ H Q=>t σ H λc H1=>if c=true then Q true H1 else u σ H1 Q
def Ev(t:TT):TT:=λσ H Q=>t σ H λc H1=>Q (! c) H1
theorem De(ha:PT X a tA):PW X (.BoolOp .And [a] pos) tA:=by
 intro d R0 s σ H Q I h;refine isTrue_and (qz (ha R0 s σ H Q I h) λc f e=>?_)
 cases c with
 |true=>exact isTrue_and_nil e
 |false=>exact e
theorem Fb(ha:PT X a tA):PW X (.BoolOp .Or [a] pos) tA:=by
 intro d R0 s σ H Q I h;refine isTrue_or (qz (ha R0 s σ H Q I h) λc f e=>?_)
 cases c with
 |false=>exact isTrue_or_nil e
 |true=>exact e
theorem Eg(ha:PT X a tA)(hb:PW X (.BoolOp .And (b::rest) pos) tB'):PW X (.BoolOp .And (a::b::rest) pos) (Fy tA tB'):=by
 intro i R0 s σ H Q I h;refine isTrue_and (qz (ha R0 s σ H _ I h) λc g f=>?_)
 let#[H1,e,d]:=f;cases c with
 |true=>exact hb i R0 g σ H1 Q e d
 |false=>exact#[H1,e,d]
theorem F6(ha:PT X a tA)(hb:PW X (.BoolOp .Or (b::rest) pos) tB'):PW X (.BoolOp .Or (a::b::rest) pos) (Gu tA tB'):=by
 intro i R0 s σ H Q I h;refine isTrue_or (qz (ha R0 s σ H _ I h) λc g f=>?_)
 let#[H1,e,d]:=f;cases c with
 |true=>exact#[H1,e,d]
 |false=>exact hb i R0 g σ H1 Q e d
theorem Fr(ha:PT X a tA):PT X (.UnaryOp .Not a pos) (Ev tA):=by
 intro R0 s σ H Q I h;exact isTrue_not (ha R0 s σ H (λc H1=>Q (! c) H1) I h)
noncomputable def B0(ta tb:TE):TE:=λσ H Q=>ta σ H λx H1=>∃c,x= .bl c/\if c=true then tb σ H1 Q else Q (.bl false) H1
def B2(ta:TE):TE:=λσ H Q=>ta σ H λx H1=>∃c,x= .bl c/\Q (.bl (! c)) H1
theorem EX{op}(h:PE X a t):PE X (.BoolOp op [a] pos) t:=λR0 s σ H Q I c=>BoolOp_one (h R0 s σ H Q I c)
theorem Ej(ha:PE X a ta)(hb:PE X (.BoolOp .And (b::rest) pos) tb):PE X (.BoolOp .And (a::b::rest) pos) (B0 ta tb):=by
 intro R0 s σ H Q I h;refine BoolOp_and (qz (ha R0 s σ H _ I h) λv g f=>?_)
 let#[x,H1,e,i,d]:=f;let#[c,rfl,d]:=d;cases i;refine IT ?_
 cases c with
 |true=>exact hb R0 g σ H1 Q e d
 |false=>exact#[.bl false,H1,e,Z,d]
theorem Fp(ha:PE X a ta):PE X (.UnaryOp .Not a pos) (B2 ta):=by
 intro R0 s σ H Q I h;refine UnaryOp_ (qz (ha R0 s σ H _ I h) λv i e=>?_)
 let#[x,H1,g,f,d]:=e;let#[c,rfl,d]:=d;cases f;exact not_of (IT #[.bl (! c),H1,g,Z,d])
noncomputable def Gt(t:TT)(ta tb:TE):TE:=λσ H Q=>t σ H λc H1=>if c=true then ta σ H1 Q else tb σ H1 Q
theorem Aj(hc:PT X c tA)(ha:PE X a ta)(hb:PE X b tb):PE X (.IfExp c a b pos) (Gt tA ta tb):=by
 intro R0 s σ H Q I h;refine wpAny_IfExp (qz (hc R0 s σ H _ I h) λd f i=>?_)
 let#[H1,g,e]:=i;cases d with
 |true=>exact ha R0 f σ H1 Q g e
 |false=>exact hb R0 f σ H1 Q g e
end
def HQ(K:ι)(H:Hp)(a:Δ)(xs:Ε):Prop:=
 Rd H a (.lst xs)\/
  ∃(o:Obj) (c:Array Γ) (n:Nat),K.lookup a=↑o/\o.cls= .type "list"/\o.dict=none/\o.data= .seq c n/\c.size<=ζ/\HS xs c.toList
def HX(K:ι)(H:Hp)(a:Δ)(xs:Ε):Prop:=
 Rd H a (.tup xs)\/
  ∃(o:Obj) (c:Array Γ) (n:Nat),K.lookup a=↑o/\o.cls= .type "tuple"/\o.data= .seq c n/\c.size<=ζ/\HS xs c.toList
noncomputable def GL:Γ->Μ
 | .none=>some .non
 | .bool b=>↑(.bl b)
 | .int i _=>↑(.int i)
 | .str x _=>↑(.str x)
 | .bytes b _=>↑(.byt b)
 | .float b _=>↑(.flt b)
 | .ref a=>↑(-a)
 | .type n=>↑(.ty n)
 |_=>none
theorem HV.abs(r:HV x u):GL u=↑x:=by
 cases x with
 |non=>cases r;rfl
 |bl _=>cases r;rfl
 |int _=>let#[t,rfl]:=r;rfl
 |str _=>let#[t,rfl]:=r;rfl
 |byt _=>let#[t,rfl]:=r;rfl
 |flt _=>let#[t,rfl]:=r;rfl
 |ref _=>cases r;rfl
 |ty _=>cases r;rfl
theorem HV.inj(r:HV x u)(q:HV y u):x=y:=JE (r.abs.symm.trans q.abs)
theorem HS.inj:∀{xs ys:Ε} {us:Ζ},HS xs us->HS ys us->xs=ys
 :=by
 intro xs ys us h
 induction h generalizing ys with
 |nil=>intro g;cases g;rfl
 |cons r t ih=>intro g;cases g with
  |cons r' t'=>rw[r.inj r',ih t']
section
theorem HQ.of{K:ι}(h:H a=↑(.lst xs)):HQ K H a xs:= .inl (.inl h)
theorem HX.of{K:ι}(h:H a=↑(.tup xs)):HX K H a xs:= .inl (.inl h)
theorem HN.list(I:HN X R0 σ H s)(h:HQ X.K H a xs):∃c:Ζ,HS xs c/\PlainL s.heap a c.toArray/\xs.length<=ζ:=by
 rcases h with h|⟨o,c,n,hk,g,f,d,i,r⟩
 .let#[z,c,n,r,e]:=h.ok I.hok
  exact#[c,r,#[_,n,e,40],z]
 .exists c.toList,r,#[o,n,I.kIn a o hk,g,f,by simpa using d]
  have e:=r.length;simp only[Jq]at e;lia
theorem HN.tuple(I:HN X R0 σ H s)(h:HX X.K H a xs):∃c:Ζ,HS xs c/\IsTup s.heap a c.toArray/\xs.length<=ζ:=by
 rcases h with h|⟨o,c,n,hk,f,d,g,r⟩
 .let#[z,c,r,p]:=h.ok I.hok
  exact#[c,r,p,z]
 .exists c.toList,r,#[o,I.kIn a o hk,f,n,by simpa using d]
  have e:=r.length;simp only[Jq]at e;lia
theorem HN.list_inj(I:HN X R0 σ H s)(h:HQ X.K H a xs)(h':HQ X.K H a ys):xs=ys:=by
 let#[f,r,#[o,n,e,_,_,d],_]:=I.list h;let#[c,i,#[o',j,e',_,_,g],_]:=I.list h';rw[e]at e';cases e'
 rw[d]at g;injection g with d1 _
 have:f=c:=by simpa using J0 OA d1
 subst this;exact r.inj i
theorem HN.tuple_inj(I:HN X R0 σ H s)(h:HX X.K H a xs)(h':HX X.K H a ys):xs=ys:=by
 let#[f,r,#[o,e,_,n,d],_]:=I.tuple h;let#[c,i,#[o',e',_,j,g],_]:=I.tuple h';rw[e]at e';cases e'
 rw[d]at g;injection g with d1 _
 have:f=c:=by simpa using J0 OA d1
 subst this;exact r.inj i
end
abbrev Cx.wish(X:Cx)(E:HG):Cx:={X with xe:=E}
abbrev Cx.nox(X:Cx):Cx:=X.wish λ_ _=>False
theorem Cx.Ok.wish{X:Cx}(ok:X.Ok)(E:HG):(X.wish E).Ok:=
 #[ok.mod,ok.kind,ok.glob,ok.blt,ok.above,ok.inj,ok.has,ok.cab,ok.hd,ok.frames,ok.stk,ok.exf,ok.bs,ok.bsz,ok.noex,ok.exfs,ok.funs,ok.frf]
theorem Cx.Ok.unwish{X:Cx}(ok:(X.wish E).Ok):X.Ok:=
 #[ok.mod,ok.kind,ok.glob,ok.blt,ok.above,ok.inj,ok.has,ok.cab,ok.hd,ok.frames,ok.stk,ok.exf,ok.bs,ok.bsz,ok.noex,ok.exfs,ok.funs,ok.frf]
section
variable{X:Cx}{st:δ}{rest:List δ}{t u:TS}
theorem HN.wish(I:HN X R0 σ H s)(E:HG):HN (X.wish E) R0 σ H s:=#[I.ok.wish E,I.os,I.bare,I.base,I.loc,I.cell,I.free,I.freeC,I.pin,I.hok,I.len]
theorem HN.unwish(I:HN (X.wish E) R0 σ H s):HN X R0 σ H s:=#[I.ok.unwish,I.os,I.bare,I.base,I.loc,I.cell,I.free,I.freeC,I.pin,I.hok,I.len]
theorem SP.unwish(h:SP (X.wish E) R0 D f s'):SP X R0 D f s':=by
 cases f with
 |next=>let#[a,H',I,q]:=h;exact#[a,H',I.unwish,q]
 |brk=>let#[a,H',I,q]:=h;exact#[a,H',I.unwish,q]
 |cont=>let#[a,H',I,q]:=h;exact#[a,H',I.unwish,q]
 |ret u=>let#[v,a,H',I,r,q]:=h;exact#[v,a,H',I.unwish,r,q]
theorem On.nox{st:List δ}{t:TS}(h:On X.nox st t):On X st t:=λR0 s σ H D I a=>
 Jx (h R0 s σ H D (I.wish _) a) (λ_ _ q=>q.unwish) λ_ _ z=>False.elim z
def BZ:TS:=λD σ H=>D.nx σ H
def fV(t u:TS):TS:=λD σ H=>t {D with nx:=u D} σ H
theorem Dn:On X [] BZ:=λ_ _ σ H _ I h=>wpAny_execs_nil #[σ,H,I,h]
theorem AV(h1:PS X st t)(h2:On X rest u):On X (st::rest) (fV t u):=by
 intro R0 s σ H D I h;refine wpAny_execs_cons (qz (h1 R0 s σ H {D with nx:=u D} I h) λf d q=>?_)
 cases f with
 |next=>
  let#[a,H',c,q]:=q;exact h2 R0 d a H' D c q
 |ret v=>exact q
 |brk=>exact q
 |cont=>exact q
theorem CV(h1:PS X st t):On X [st] t:=by
 intro R0 s σ H D I h;refine wpAny_execs_cons (qz (h1 R0 s σ H D I h) λf a q=>?_)
 cases f with
 |next=>exact wpAny_execs_nil q
 |ret v=>exact q
 |brk=>exact q
 |cont=>exact q
theorem HN.quiet{R0:HI}{σ:St}{H:Hp}{s:Θ}(I:HN X R0 σ H s):interactive X.env=false:=by simp [interactive,I.ok.kind]
def Cn(te:TE):TS:=λD σ H=>te σ H λ_ H1=>D.nx σ H1
theorem C4(he:PE X e te)(hs:swapsWith e none pos.line X.env=pure false:=by rfl):PS X (.Expr e pos) (Cn te):=by
 intro R0 s σ H D I h;exact wpAny_Expr_any (qz (he R0 s σ H _ I h) λv f ⟨x,H1,c,d,a⟩=>#[σ,H1,c,a]) I.quiet hs
def D3(te:TE):TS:=λD σ H=>te σ H D.rt
theorem Fo(he:PE X e te):PS X (.Return ↑e pos) (D3 te):=by
 intro R0 s σ H D I h;exact wpAny_Return_some (qz (he R0 s σ H _ I h) λv f ⟨x,H1,d,a,c⟩=>#[x,σ,H1,d,a,c])
noncomputable def tR(c:TT)(t u:TS):TS:=λD σ H=>c σ H λb H1=>if b=true then t D σ H1 else u D σ H1
theorem Gb{b:List δ}(hc:PT X c tc)(ha:On X a t)(hb:On X b u):PS X (.If c a b pos) (tR tc t u):=by
 intro R0 s σ H D I h;refine wpAny_If (qz (hc R0 s σ H _ I h) λd f i=>?_)
 let#[H1,g,e]:=i;cases d with
 |true=>exact ha R0 f σ H1 D g e
 |false=>exact hb R0 f σ H1 D g e
def xh:TS:=λ_ _ _=>False
theorem ya:On X a xh:=λ_ _ _ _ _ _ h=>h.elim
end
abbrev TG:=V->St->Hp->(St->Hp->Prop)->Prop
abbrev ZV:=Ε->St->Hp->(St->Hp->Prop)->Prop
def PG(X:Cx)(a:Φ)(t:TG):Prop:=
 ∀(R0:HI) (s:Θ) (σ:St) (H:Hp) (v:V) (u:Γ) (Q:St->Hp->Prop),HN X R0 σ H s->HV v u->t v σ H Q->
  ε (model X.prog X.w) X.A (assign a X.env u) (λ_ s'=>∃c H',HN X R0 c H' s'/\Q c H') X.xe s
def rN(X:Cx)(d:Ι)(t:ZV):Prop:=
 ∀(R0:HI) (s:Θ) (σ:St) (H:Hp) (vs:Ε) (c:Ζ) (Q:St->Hp->Prop),HN X R0 σ H s->HS vs c->t vs σ H Q->
  ε (model X.prog X.w) X.A (assignInOrder ((assignEach d X.env).map (·.2)) c) (λ_ s'=>∃a H',HN X R0 a H' s'/\Q a H') X.xe s
abbrev hW:=V->V->V->Hp->(Hp->Prop)->Prop
def mD(X:Cx)(t:hW):Prop:=
 ∀(R0:HI) (s:Θ) (σ:St) (H:Hp) (o i v:V) (a c u:Γ) (Q:Hp->Prop),HN X R0 σ H s->HV o a->HV i c->HV v u->t o i v H Q->
  ε (model X.prog X.w) X.A (setItem a c u) (λ_ s'=>∃H',HN X R0 σ H' s'/\Q H') X.xe s
abbrev vK:=V->V->Hp->VK->Prop
def Ff(X:Cx)(op:Operator)(t:vK):Prop:=
 ∀(R0:HI) (s:Θ) (σ:St) (H:Hp) (x y:V) (v u:Γ) (Q:VK),HN X R0 σ H s->HV x v->HV y u->t x y H Q->
  ε (model X.prog X.w) X.A (inplaceOp op v u) (EP X R0 σ Q) X.xe s
section
def Qf(i:Nat):TG:=λv σ H Q=>Q (σ.set i ↑v) H
theorem DO{i:Nat}{x:Str}(hN:X.N.Nodup)(hi:X.N[i]? =↑x)(hx:fQ X.env.scope x)(hf:X.fn x=true\/X.env.scope.names.lookup x=some .local:=by first|exact .inl Z|exact .inr Z|assumption):PG X (.Name x pos) (Qf i):=by
 intro R0 s σ H v u Q I r h;exact wpAny_assign_Name (c9 I hN hi hx r (λs' a=>#[_,H,a,h]) hf)
def nQ:ZV:=λvs σ H Q=>vs=[]/\Q σ H
inductive Rc (t:TG)(u:ZV)(vs:Ε)(σ:L2.St)(H:Hp)(Q:L2.St->Hp->Prop):Prop
 |mk (v:_)(r:_)(h1:vs=v::r)(h2:t v σ H λσ' H'=>u r σ' H' Q)
def bK(t:TG)(u:ZV):ZV:=λvs σ H Q=>Rc t u vs σ H Q
theorem CJ:rN X [] nQ:=by
 intro R0 s σ H vs a Q I r h;let#[e,h]:=h;subst e;cases r;exact assignInOrder_nil #[σ,H,I,h]
theorem BC(h1:PG X e t)(h2:rN X es u)
  (hs:(assignEach (e::es) X.env).map (·.2)=assign e X.env::(assignEach es X.env).map (·.2):=by rfl):rN X (e::es) (bK t u):=by
 intro R0 s σ H vs j Q I r h;let#[v,l,g,h]:=h;subst g;cases r with
 |cons r rr=>
  rw[hs];refine assignInOrder_cons (qz (h1 R0 s σ H _ _ _ I r h) λ_ d c=>?_)
  let#[a,H1,i,f]:=c;exact h2 R0 d a H1 _ _ Q i rr f
inductive RB (K:ι)(n:Nat)(t:ZV)(v:V)(σ:L2.St)(H:Hp)(Q:L2.St->Hp->Prop):Prop
 |mk (a:_)(xs:_)(h1:v= .ref a)(h2:HX K H a xs)(h3:xs.length=n)(h4:t xs σ H Q)
def nW(K:ι)(n:Nat)(t:ZV):TG:=λv σ H Q=>RB K n t v σ H Q
theorem mX{k:Nat}{n:Nat}(hc:X.calm=true)(h:rN X es t)
  (hn:(assignEach es X.env).length=n:=by rfl)(hst:(assignEach es X.env).findIdx? (·.1)=none:=by rfl):PG X (.Tuple es k pos) (nW X.K n t):=by
 intro R0 s σ H v u Q I r c;let#[a,xs,l,p,g,c]:=c;subst l;cases r;let#[f,d,i,q]:=I.tuple p;refine assign_Tuple_tuple (I.ok.hd hc) i (by simp [hn,<- g,d.length]) hst λh' j=>?_
 have m:HN X R0 σ H {s with heap:=h'}:=I.kept (t':=s.toks) λb o e=>j b o (Jm (Jl e)) e
 exact h R0 _ σ H xs _ Q m (by simpa using d) c
noncomputable def D4(to c:TE)(t:hW):TG:=λv σ H Q=>to σ H λo H1=>c σ H1 λi d=>t o i v d λa=>Q σ a
theorem EU(ho:PE X o to)(hi:PE X i e)(hs:mD X t)
  (ha:∀v,assign (.Subscript o i pos) X.env v=(do
   let a <- holding [v] (eval o X.env)
   let d <- holding [v,a] (eval i X.env)
   standAt pos
   holding [v,a,d] (setItem a d v)
   release [v,a,d] []):=by intro _;rfl):PG X (.Subscript o i pos) (D4 to e t):=by
 intro R0 s σ H v u Q I r h;rw[ha];refine Ja (JM (qz (ho R0 s σ H _ I h) λa p c=>?_))
 let#[x,H1,B,j,w]:=c;refine Ja (JM (qz (hi R0 p σ H1 _ B w) λd g c=>?_))
 let#[y,n,m,z,l]:=c;refine Ja (Ib (Ja (JM (qz (hs R0 g σ n x y v a d u _ m j z r l) λ_ C c=>?_))))
 let#[A,f,q]:=c;exact wpAny_release #[σ,A,f,q]
def cU(te:TE)(g:TG):TS:=λD σ H=>te σ H λx H1=>g x σ H1 D.nx
theorem DT(he:PE X e te)(hg:PG X tg g)(hs:swapsWithSole [tg] e pos.line X.env=pure false:=by rfl)(hw:swappedStores [tg] e X.env=pure none:=by rfl)
  (h1:(assignEach [tg] X.env).map (·.2)=[assign tg X.env]:=by rfl):PS X (.Assign [tg] e pos) (cU te g):=by
 intro R0 s σ H D I h;refine wpAny_Assign_stores (qz (he R0 s σ H _ I h) λv c a=>?_) hs hw
 let#[x,H1,i,f,d]:=a;rw[h1];exact qz (hg R0 c σ H1 x v _ i f d) λ_ j q=>q
theorem Ea{i:Nat}{x:Str}(hN:X.N.Nodup)(hi:X.N[i]? =↑x)(hx:fQ X.env.scope x)(he:PE X e te)(hs:swapsWith e ↑(.Name x pos') pos.line X.env=pure false:=by rfl)(hf:X.fn x=true\/X.env.scope.names.lookup x=some .local:=by first|exact .inl Z|exact .inr Z|assumption):
  PS X (.Assign [.Name x pos'] e pos) (cU te (Qf i)):=by
 intro R0 s σ H D I h;refine wpAny_Assign_Name (qz (he R0 s σ H _ I h) λv l a=>?_) hs
 let#[y,H1,g,f,d]:=a;exact c9 g hN hi hx f (λj c=>#[_,H1,c,d]) hf
noncomputable def FB(i j:Nat)(ta:TA):TS:=λD σ H=>ta σ H λvs H1=>∃v w,vs=[v,w]/\D.nx ((σ.set i ↑v).set j ↑w) H1
theorem EC{i j:Nat}{x y:Str}{a b:Φ}{pt:Pos}{kt k2 pt2}(hc:X.calm=true)(hN:X.N.Nodup)(hi:X.N[i]? =↑x)(A:X.N[j]? =↑y)(n:i≠j)
  (hx:X.env.scope.names.lookup x=some .local)(z:X.env.scope.names.lookup y=some .local)(ha:PA X [a,b] ta)
  (hw:swappedStores [.Tuple [.Name x m,.Name y t] kt pt] (.Tuple [a,b] k2 pt2) X.env=pure (some [x,y]))
  (hs:swapsWithSole [.Tuple [.Name x m,.Name y t] kt pt] (.Tuple [a,b] k2 pt2) pos.line X.env=pure false:=by rfl):
  PS X (.Assign [.Tuple [.Name x m,.Name y t] kt pt] (.Tuple [a,b] k2 pt2) pos) (FB i j ta):=by
 intro R0 s σ H D I h;rw[exec_Assign_arm];refine Ja (Ib ?_)
 rw[hs];refine Ja (Jd ?_)
 rw[Jb ⋯]
 refine Ja (Tuple_ (qz (ha _ R0 s σ H _ I h) λJ d B=>?_))
 let#[vs,H1,F,M,r]:=B;let#[v,w,E,r]:=r;subst E;let#[f,c,rfl,G,l]:∃f c,J=[f,c]/\HV v f/\HV w c:=by
  cases M with
  |cons p q=>
   cases q with
   |cons p' q'=>
    cases q'
    exact#[13,p,p']
 refine J6 ?_ (by show 2<=ζ;decide)
 have L:HN X R0 σ H1 {d with heap:=d.heap.push {cls:= .type "tuple",data:= .seq [f,c].toArray}}:=F.kept (t':=d.toks) λb o e=>Jk _ e
 rw[hw];refine Ja (Jd ?_)
 show ε (model X.prog X.w) X.A (do rule "assign.swapped-stores";let items <- unpackItems (-d.heap.objs.size) 2 none;assignInOrder [λv=>bindName X.env y v,λv=>bindName X.env x v] items.reverse;pure Flow.next) _ _ _
 refine Ja (Ih (Ja (unpackItems_tuple (items:= (AA [f,c])) (I.ok.hd hc) (IsTup.new d.heap _) λh' g=>?_)))
 have K:=L.kept (h':=h') (t':=d.toks) λb o e=>g b o (Jm (Jl e)) e
 show ε _ _ (assignInOrder [λv=>bindName X.env y v,λv=>bindName X.env x v] [c,f] >>= λ_=>pure Flow.next) _ _ _
 refine Ja (assignInOrder_cons (wpAny_bindName (c9 K hN A (.inl z) l (λN C=>?_) (.inr z))))
 refine assignInOrder_cons (wpAny_bindName (c9 C hN hi (.inl hx) G (λO u=>assignInOrder_nil (Jd ?_)) (.inr hx)))
 rw[List.set_comm _ _ (Ne.symm n)]at u
 exact#[_,H1,u,r]
noncomputable def B7(to h te:TE)(c:V->V->Hp->VK->Prop)(d:vK)(a:hW):TS:=λD σ H=>to σ H λo H1=>h σ H1 λi j=>c o i j λx l=>te σ l λy e=>d x y e λz g=>a o i z g λf=>D.nx σ f
def AX(X:Cx)(t:V->V->Hp->VK->Prop):Prop:=
 ∀(R0:HI) (s:Θ) (σ:St) (H:Hp) (o i:V) (a c:Γ) (Q:VK),HN X R0 σ H s->HV o a->HV i c->t o i H Q->
  ε (model X.prog X.w) X.A (getItem a c) (EP X R0 σ Q) X.xe s
theorem Dx{d:V->V->Hp->VK->Prop}(ho:PE X o to)(hi:PE X i r)(hg:AX X d)(he:PE X e te)(hp:Ff X op l)(hs:mD X f)
  (ha:∀g j a,augStore i g j a=(do holding [a,g,j] (setItem g j a);release [a,g,j] [];pure .next):=by intros;rfl):PS X (.AugAssign (.Subscript o i m) op e pos) (B7 to r te d l f):=by
 intro R0 s σ H D I h;refine wpAny_AugAssign_SubscriptAny (qz (ho R0 s σ H _ I h) λg M c=>?_) ha
 let#[u,H1,F,t,q1]:=c;refine qz (hi R0 M σ H1 _ F q1) λj y c=>?_
 let#[p,W,T,q,z]:=c;refine qz (hg R0 y σ W u p g j _ T t q z) λn Y c=>?_
 let#[x3,H3,R,C,O]:=c;refine qz (he R0 Y σ H3 _ R O) λv s4 c=>?_
 let#[x,G,E,w,P]:=c;refine qz (hp R0 s4 σ G x3 x n v _ E C w P) λa L c=>?_
 let#[Q,K,B,U,S]:=c;exact qz (hs R0 L σ K u p Q g j a _ B t q U S) λ_ s6 ⟨J,N,A⟩=>#[σ,J,N,A]
noncomputable def GR(f:Int->Int->Int):vK:=λx y H Q=>∃i j,x= .int i/\y= .int j/\Q (.int (f i j)) H
theorem Fk:Ff X .Add (GR λi j=>i+j):=by
 intro R0 s σ H x y v u Q I d e h;let#[i,j,c,a,q]:=h;subst c;subst a
 let#[t,rfl]:=d;let#[f,rfl]:=e;exact iadd_int #[.int _,H,I.tok _,#[0],q]
end
structure It where
 go:Nat->Hp->Prop
 yld:Nat->Hp->V->Hp->Prop
 stop:Nat->Hp->Prop
def Zm(X:Cx)(R0:HI)(H:Hp)(b:Δ):Prop:=
 H b=none/\b≠X.env.locals/\b∉X.fs/\(b∈X.ex\/X.s₀.heap.objs.size<=b)/\(∀x c,X.env.cells.lookup x=↑c->c≠b)/\∀p∈X.pn++R0,p.1≠b
theorem HN.fpOk{H':Hp}{b:Δ}(I:HN X R0 σ H s)(hb:s.heap.objs.size<=b)(hn:H' b=none):Zm X R0 H' b:=by
 refine#[hn,J1 (JV I.lt hb),I.nofs hb,.inr (JN I.sz hb),λx c e z=>?_,λp a z=>?_]
 .let#[v,q]:=I.cell x c e
  exact absurd (JV q.lt (by rw[z];exact hb)) (Ia _)
 .exact absurd (JV (Jl (I.pin p a).1) (by rw[z];exact hb)) (Ia _)
structure N5(P:Ξ)(w:Ω)(K:ι)(tg:Φ)(J:It)(fp:Η)(it:Δ)(tn:Nat->Ψ->Prop):Prop where
 mem:it∈fp
 obj:∀i h,tn i h->∀b∈fp,∃o,h.get? b=↑o/\∀v,o.data≠ .cell v
 keep:∀i h h',tn i h->(∀b∈fp,∀o,h.get? b=↑o->h'.get? b=↑o)->tn i h'
 item:∀(X:Cx),X.prog=P->X.w=w->X.K=K->X.calm=true->∀(i:Nat) (R0:HI) (s:Θ) (σ:St) (H:Hp) (E:HG),HN X R0 σ H s->(∀b∈fp,Zm X R0 H b)->tn i s.heap->J.go i H->
  ε (model P w) X.A (pyNext (-it)) (λr s1=>∃u,r=↑u/\
   ε (model P w) X.A (letOwnedTupleGo tg (-it) u) (λ_ s2=>∃x H',HN X R0 σ H' s2/\HV x u/\J.yld i H x H'/\tn (i+1) s2.heap/\∀b∈fp,H' b=none) E s1) E s
 done:∀(X:Cx),X.prog=P->X.w=w->X.K=K->X.calm=true->∀(i:Nat) (R0:HI) (s:Θ) (σ:St) (H:Hp) (E:HG),HN X R0 σ H s->(∀b∈fp,Zm X R0 H b)->tn i s.heap->J.stop i H->
  ε (model P w) X.A (pyNext (-it)) (λr s1=>r=none/\HN X R0 σ H s1) E s
 self:∀(A:Rj) (i:Nat) (s:Θ) (Q:HG) (E:HG),tn i s.heap->Q (-it) s->ε (model P w) A (pyIter (-it)) Q E s
abbrev TI:=St->Hp->(It->Hp->Prop)->Prop
def Gs(X:Cx)(R0:HI)(σ:St)(tg:Φ)(R:It->Hp->Prop)(a:Γ)(d:Θ):Prop:=
 ∃(c:Δ) (fp:Η) (e:Nat->Ψ->Prop) (J:It) (H':Hp),a= .ref c/\HN X R0 σ H' d/\N5 X.prog X.w X.K tg J fp c e/\e 0 d.heap/\(∀b∈fp,Zm X R0 H' b)/\R J H'
def PI(X:Cx)(tg a:Φ)(c:TI):Prop:=
 ∀(R0:HI) (s:Θ) (σ:St) (H:Hp) (R:It->Hp->Prop),HN X R0 σ H s->c σ H R->
  ε (model X.prog X.w) X.A (eval a X.env) (λv d=>ε (model X.prog X.w) X.A (pyIter v) (Gs X R0 σ tg R) X.xe d) X.xe s
theorem eI{s:Θ}{tg:Φ}{it:Δ}{u:Γ}{o:Obj}{Q:Unit->Θ->Prop}(ho:s.heap.get? it=↑o)(hc:o.cls= .type n)(hd:o.data= .fields vs)
    (hn:["enumerate","zip","dict_itemiterator","dict_reverseitemiterator","odict_iterator","itertools.zip_longest","itertools.pairwise"].contains n=false)(a:Q () s):ε M A (letOwnedTupleGo tg (-it) u) Q E s:=by
  unfold letOwnedTupleGo;cases tg<;>first
    |exact Jd a
    |(cases u<;>first
        |exact Jd a
        | (refine Ja (wpAny_load ho ?_)
           rw[hc,hd]
           show ε M A (if(["enumerate","zip","dict_itemiterator","dict_reverseitemiterator","odict_iterator","itertools.zip_longest","itertools.pairwise"].contains n&&vs[0]? ==↑(rawInt _))=true then _ else _) Q E s
           rw[Jb (by intro h;rw[hn,Ii]at h;cases h)]
           exact Jd a))
noncomputable def fF(K:ι)(a:Δ):It:=
 ⟨λi H=>∃xs x,HQ K H a xs/\xs[i]? =↑x,λi H x H'=>H'=H/\∀xs,HQ K H a xs->xs[i]? =↑x,λi H=>∃xs,HQ K H a xs/\xs.length<=i⟩
noncomputable def lE(K:ι)(a:Δ):It:=
 ⟨λi H=>∃xs x,HX K H a xs/\xs[i]? =↑x,λi H x H'=>H'=H/\∀xs,HX K H a xs->xs[i]? =↑x,λi H=>∃xs,HX K H a xs/\xs.length<=i⟩
noncomputable def j9(lo:Int)(n:Nat):It:=⟨λi _=>i<n,λi H x H'=>H'=H/\x= .int (lo+i),λi _=>n<=i⟩
theorem kI{K:ι}(a it:Δ):N5 P w K tg (fF K a) [it] it (λi h=>h.IsListIter it a i) where
 mem:=by simp
 obj:=λi h st b f=>by
  have e:b=it:=by simpa using f
  subst e;let#[o,e,c,d]:=st
  exact#[o,e,λv z=>by rw[d]at z;cases z]
 keep:=λi h h' st k=>st.at λo e=>k it (by simp) o e
 item:=by
  intro X A C B G i R0 s σ H E I j st r;subst A C B;let#[xs,x,l,q]:=r;let#[m,t,p,O]:=I.list l;let#[u,N,Q]:=t.get q;let#[F,f1,f2,y,n,D]:=j it (by simp)
  refine wpAny_pyNext_list_item st p.isList (x:=u) (by simpa using N) λh' g J=>?_
  have L:HN X R0 σ H {s with heap:=h'}:=I.turned (t':=s.toks) (λb o f e=>(J.2 b f).trans e) F f1 y n D
  let#[o,e,c,d]:=id g
  exact#[u,Z,eI (s:={s with heap:=h'}) e c d ⋯ #[x,H,L,Q,#[Z,λys M=>by rw[I.list_inj M l];exact q],g,λb f=>(j b f).1]]
 done:=by
  intro X A C B G i R0 s σ H E I j st r;subst A C B;let#[xs,l,q]:=r;let#[m,t,p,O]:=I.list l;let#[F,f1,f2,y,n,D]:=j it (by simp)
  have S:=t.length;exact wpAny_pyNext_list_end (I.ok.hd G) st p.isList (by simp;lia) λh' R=>#[Z,I.turned (t':=s.toks) (λb o f e=>R b o f e) F f1 y n D]
 self:=λ_ _ _ _ _ st h=>wpAny_pyIter_listiter st h
theorem jh{K:ι}(a it:Δ):N5 P w K tg (lE K a) [it] it (λi h=>h.IsTupleIter it a i) where
 mem:=by simp
 obj:=λi h st b g=>by
  have e:b=it:=by simpa using g
  subst e;let#[o,e,c,d]:=st
  exact#[o,e,λv z=>by rw[d]at z;cases z]
 keep:=λi h h' st k=>st.at λo e=>k it (by simp) o e
 item:=by
  intro X A C B G i R0 s σ H E I l st r;subst A C B;let#[xs,x,m,q]:=r;let#[f,t,p,O]:=I.tuple m;let#[u,N,Q]:=t.get q;let#[F,f1,f2,y,n,D]:=l it (by simp)
  refine wpAny_pyNext_tuple_item st (show s.heap.IsTuple a f.toArray from p) (x:=u) (by simpa using N) λh' j J=>?_
  have L:HN X R0 σ H {s with heap:=h'}:=I.turned (t':=s.toks) (λb o g e=>(J.2 b g).trans e) F f1 y n D
  let#[o,e,c,d]:=id j
  exact#[u,Z,eI (s:={s with heap:=h'}) e c d ⋯ #[x,H,L,Q,#[Z,λys M=>by rw[I.tuple_inj M m];exact q],j,λb g=>(l b g).1]]
 done:=by
  intro X A C B G i R0 s σ H E I l st r;subst A C B;let#[xs,m,q]:=r;let#[f,t,p,O]:=I.tuple m;let#[F,f1,f2,y,n,D]:=l it (by simp)
  have S:=t.length;exact wpAny_pyNext_tuple_end (I.ok.hd G) st (show s.heap.IsTuple a f.toArray from p) (by simp;lia) λh' R=>#[Z,I.turned (t':=s.toks) (λb o g e=>R b o g e) F f1 y n D]
 self:=λ_ _ _ _ _ st h=>wpAny_pyIter_tupleiter st h
theorem uI{K:ι}(it:Δ)(lo:Int)(n:Nat):N5 P w K tg (j9 lo n) [it] it (λi h=>IsRangeIter h it (lo+(i:Nat)*1) ((n:Int)-(i:Nat)) 1) where
 mem:=by simp
 obj:=λi h st b a=>by
  have e:b=it:=by simpa using a
  subst e
  exact#[_,st,λv z=>by
   have y:Sf _=SJ v:=z
   cases y]
 keep:=λi h h' st k=>k it (by simp) _ st
 item:=by
  intro X l p j g i R0 s σ H E I d st f;subst l p j;let#[m,f1,f2,r,q,u]:=d it (by simp)
  have W:=Walks.range (prog:=X.prog) (w:=X.w) (I.ok.hd g) it lo 1 n
  refine W.item i s _ _ f st λv h' tk x c B=>?_
  let#[t,rfl]:=x;have C:HN X R0 σ H {s with heap:=h',toks:=tk}:=I.turned (λb o a e=>B b o (by simpa using a) e) m f1 r q u
  refine#[0,eI (s:={s with heap:=h',toks:=tk}) (n:="range_iterator") c Z Z ⋯ #[.int (lo+i),H,C,#[t,?_],#[9],c,λb a=>(d b a).1]]
  rw[Int.mul_one]
 done:=by
  intro X l p j g i R0 s σ H E I d st f;subst l p j;let#[m,f1,f2,r,q,u]:=d it (by simp)
  exact wpAny_pyNext_range_end (I.ok.hd g) st (by have:n<=i:=f;lia) λh' A=>#[Z,I.turned (t':=s.toks) (λb o a e=>A b o a e) m f1 r q u]
 self:=λ_ _ _ _ _ st h=>Mq st h
section
noncomputable def Co(K:ι)(tl:TE):TI:=λσ H R=>tl σ H λx H1=>∃a,x= .ref a/\(∃xs,HQ K H1 a xs)/\R (fF K a) H1
noncomputable def Fz(K:ι)(tl:TE):TI:=λσ H R=>tl σ H λx H1=>∃a,x= .ref a/\(∃xs,HX K H1 a xs)/\R (lE K a) H1
theorem Cr(hl:PE X l tl):PI X tg l (Co X.K tl):=by
 intro R0 s σ H R I h;refine qz (hl R0 s σ H _ I h) λv c g=>?_
 let#[x,H1,d,m,j]:=g;let#[a,e,#[xs,n],q]:=j;subst e;cases m;let#[f,t,p,r]:=d.list n;refine LA p.isList ?_
 refine#[c.heap.objs.size,[c.heap.objs.size],15,H1,Z,d.kept (t':=c.toks) λb o e=>Jk _ e,kI a _,#[_,Jp _ Z,9],λb i=>?_,q]
 have e:b=c.heap.objs.size:=by simpa using i
 subst e;exact d.fpOk (Jf _) (d.hok.fresh (Jf _))
theorem Ey(hl:PE X l tl):PI X tg l (Fz X.K tl):=by
 intro R0 s σ H R I h;refine qz (hl R0 s σ H _ I h) λv c g=>?_
 let#[x,H1,d,m,j]:=g;let#[a,e,#[xs,n],q]:=j;subst e;cases m;let#[f,t,p,r]:=d.tuple n;refine Ld (show c.heap.IsTuple a f.toArray from p) ?_
 refine#[c.heap.objs.size,[c.heap.objs.size],15,H1,Z,d.kept (t':=c.toks) λb o e=>Jk _ e,jh a _,#[_,Jp _ Z,9],λb i=>?_,q]
 have e:b=c.heap.objs.size:=by simpa using i
 subst e;exact d.fpOk (Jf _) (d.hok.fresh (Jf _))
theorem nG{R:It->Hp->Prop}{lo hi:Int}{tk:Nat}(I:HN X R0 σ H s)(h1: -(2 ^ 62)<=lo)(h2:lo<2 ^ 62)(h: -(2 ^ 62)<=hi)(d:hi<2 ^ 62)
  (q:R (j9 lo (hi-lo).toNat) H):ε (model X.prog X.w) X.A (pyIter (-s.heap.objs.size)) (Gs X R0 σ tg R) E {s with heap:=s.heap.push {cls:= .type "range",data:= .fields (AA [.int lo t,.int hi u,.int 1 v])},toks:=tk}:=by
 refine wpAny_pyIter_range (IsRange.new ..) (small_one h1 h2 h d) ?_
 have a:HN X R0 σ H {s with heap:=s.heap.push {cls:= .type "range",data:= .fields (AA [.int lo t,.int hi u,.int 1 v])},toks:=tk}:=I.kept λb o e=>Jk _ e
 refine#[(s.heap.push {cls:= .type "range",data:= .fields (AA [.int lo t,.int hi u,.int 1 v])}).objs.size,[(s.heap.push {cls:= .type "range",data:= .fields (AA [.int lo t,.int hi u,.int 1 v])}).objs.size],15,H,Z,
  a.kept (t':=tk) λb o e=>Jk _ e,uI _ lo (hi-lo).toNat,?_,λb g=>?_,q]
 .have f:lo+((0:Nat):Int)*1=lo:=by simp
  have c:(((hi-lo).toNat:Nat):Int)-((0:Nat):Int)=γ.Range.rangeSize lo hi 1:=by rw[rangeSize_one];split<;>lia
  show IsRangeIter _ _ (lo+((0:Nat):Int)*1) ((((hi-lo).toNat:Nat):Int)-((0:Nat):Int)) 1
  rw[f,c];exact Jp _ Z
 .have e:b=(s.heap.push {cls:= .type "range",data:= .fields (AA [.int lo t,.int hi u,.int 1 v])}).objs.size:=by simpa using g
  subst e;exact a.fpOk (Jf _) (a.hok.fresh (Jf _))
noncomputable def BR(ta:TA):TI:=λσ H R=>ta σ H λvs H1=>∃j:Int,vs=[.int j]/\ -(2 ^ 62)<=j/\j<2 ^ 62/\R (j9 0 j.toNat) H1
noncomputable def Cq(ta:TA):TI:=λσ H R=>ta σ H λvs H1=>∃i j:Int,vs=[.int i,.int j]/\(-(2 ^ 62)<=i/\i<2 ^ 62/\ -(2 ^ 62)<=j/\j<2 ^ 62)/\R (j9 i (j-i).toNat) H1
theorem wU{a:Φ}{p:Pos}(hg:Gl X "range")(hm:X.mg "range"=none)(ha:PA X [a] ta)(hs:θ [a] X.env=[(false,eval a X.env)]:=by rfl):PI X tg (.Call (.Name "range" p) [a] [] pos) (BR ta):=by
 intro R0 s σ H R I h;refine Call_ (Zp I hg hm boot_range (Le (qz (ha pos R0 s σ H _ I h) λl m f=>?_) hs Z))
 let#[vs,H1,i,g,c]:=f;let#[j,e,c,d,q]:=c;subst e;cases g with
 |cons r rr=>
  cases rr;let#[t,rfl]:=r;exact call_range_1 (nG i (by lia) (by lia) c d (by simpa using q))
theorem vX{a b:Φ}{p:Pos}(hg:Gl X "range")(hm:X.mg "range"=none)(ha:PA X [a,b] ta)(hs:θ [a,b] X.env=[(false,eval a X.env),(false,eval b X.env)]:=by rfl)(hs2:θ [b] X.env=[(false,eval b X.env)]:=by rfl):
  PI X tg (.Call (.Name "range" p) [a,b] [] pos) (Cq ta):=by
 intro R0 s σ H R I h;refine Call_ (Zp I hg hm boot_range (Le (qz (ha pos R0 s σ H _ I h) λo u f=>?_) (by rw[hs,hs2]) (by rw[hs2];rfl)))
 let#[vs,H1,n,l,c]:=f;let#[i,j,e,#[c,d,g,m],q]:=c;subst e;cases l with
 |cons r rr=>
  cases rr with
  |cons r' rr=>
   cases rr;let#[t,rfl]:=r;let#[v,rfl]:=r';exact call_range_2 (nG n c d g m q)
noncomputable def Bv(e:TI)(g:TG)(tb:TS):TS:=λD σ H=>e σ H λJ H1=>∃W:Nat->Nat->St->Hp->Prop,(∃m,W 0 m σ H1)/\∀i m σ H,W i m σ H->
 (J.stop i H/\D.nx σ H)\/(J.go i H/\∃N:St->Hp->Prop,(∀a H',N a H'->∃d,d<m/\W (i+1) d a H')/\∀x H',J.yld i H x H'->g x σ H' λc f=>tb {D with nx:=N,ct:=N,bk:=D.nx} c f)
noncomputable def am(fp:Η)(h:Ψ):List (Δ×Obj):=fp.filterMap λb=>(h.get? b).map λo=>(b,o)
theorem Qu{fp:Η}{h:Ψ}{b:Δ}{o:Obj}(hb:b∈fp)(e:h.get? b=↑o):(b,o)∈am fp h:=OB.mpr #[b,hb,by rw[e];rfl]
theorem lB{p:Δ×Obj}(hp:p∈am fp h):p.1∈fp/\h.get? p.1=↑p.2:=by
 let#[b,a,e]:=OB.mp hp;cases q:h.get? b with
 |none=>rw[q]at e;cases e
 |some o=>
  rw[q]at e;have e':(b,o)=p:=JE e
  subst e'
  exact#[a,q]
theorem HN.pinned{fp:Η}(I:HN X R0 σ H s)(hf:∀b∈fp,Zm X R0 H b)(ho:∀b∈fp,∃o,s.heap.get? b=↑o/\∀v,o.data≠ .cell v):HN X (R0++am fp s.heap) σ H s:=
 I.pins_of λp c=>(JP.mp c).elim (λz=>I.pin p (JQ _ z)) λz=>by
  let#[a,e]:=lB z;let#[f,f1,f2,_]:=hf p.1 a;let#[o,e',d]:=ho p.1 a;rw[e]at e';cases e'
  exact#[e,f,f1,f2,d]
theorem HN.unpinned{R0 pl:HI}(I:HN X (R0++pl) σ H s):HN X R0 σ H s:=I.pins_of λp a=>I.pin p (JQ _ (LN _ a))
theorem FH(hp:PassesOwn (model X.prog X.w) X.A X.env X.xe)(hc:X.calm=true)(hi:PI X tg l wi)(hg:PG X tg g)(hb:On X y tb)
  (hs:∀x,foldedSetIterable l X.env x=pure x:=by intro _;rfl):PS X (.For tg l y [] pos) (Bv wi g tb):=by
 intro R0 s σ H D I h;refine wpAny_For (qz (hi R0 s σ H _ I h) λv s1 h1=>qz h1 λa1 s2 h2=>?_) hs
 let#[it,fp,R,J,H2,e,I2,T,O,f2,W,#[m0,w0],turn]:=h2;subst e;have t:∀{H':Hp},(∀b∈fp,H' b=none)->∀b∈fp,Zm X R0 H' b:=λhn b hb=>#[hn b hb,(f2 b hb).2]
 refine codeAny_forLoop_any (λn s'=>∃i p H',HN X R0 p H' s'/\R i s'.heap/\(∀b∈fp,H' b=none)/\W i n p H') ?_ m0 #[(0),σ,H2,I2,O,λb hb=>(f2 b hb).1,w0]
 rintro n s3 ⟨i,j,K,Y,C,E,w3⟩
 rcases turn i n j K w3 with⟨G,qn⟩|⟨go,N,hN,step⟩
 .refine LO hp (qz (T.done X Z Z Z hc i R0 s3 j K X.xe Y (t E) C G) λr s4 A=>?_)
  let#[L,I4]:=A;subst L;exact wpAny_execs_nil #[j,K,I4,qn]
 .refine LO hp (qz (T.item X Z Z Z hc i R0 s3 j K X.xe Y (t E) C go) λr s4 A=>?_)
  let#[u,L,h4]:=A;subst L;refine LO hp (qz h4 λ_ U A=>?_)
  let#[x,S,I5,r5,y5,B,M]:=A;have I5':=I5.pinned (t M) (T.obj _ _ B);refine LO hp (qz (hg _ U j S x u _ I5' r5 (step x S y5)) λ_ s6 A=>?_)
  let#[Q,H6,I6,q6]:=A;refine LO hp (qz (hb _ s6 Q H6 _ I6 q6) λf P z=>?_)
  have c:∀{a:St} {q:Hp},HN X (R0++am fp U.heap) a q P->N a q->∃m,m<n/\∃i p H',HN X R0 p H' P/\R i P.heap/\(∀b∈fp,H' b=none)/\W i m p H':=λ{a q} w F=>by
   let#[m',hm,w7]:=hN a q F;refine#[m',hm,i+1,a,q,w.unpinned,T.keep _ _ _ B λb hb o e=>(w.pin (b,o) (JQ _ (JQ _ (Qu hb e)))).1,λb hb=>?_,w7]
   let#[o,e,d]:=T.obj _ _ B b hb
   exact(w.pin (b,o) (JQ _ (JQ _ (Qu hb e)))).2.1
  cases f with
  |next=>let#[a,q,w,F]:=z;exact c w F
  |cont=>let#[a,q,w,F]:=z;exact c w F
  |brk=>let#[a,q,w,z]:=z;exact#[a,q,w.unpinned,z]
  |ret v=>let#[x7,a,q,w,r7,z]:=z;exact#[x7,a,q,w.unpinned,r7,z]
end
theorem zQ{K:ι}{xs:Ε}{g:TG}{tb:TS}{D:Ng}{σ:St}{H:Hp}(Pv:Nat->St->Hp->Prop)(l:Pv 0 σ H)(hl:∀i σ H,i<=xs.length->Pv i σ H->HQ K H a xs)
  (hs:∀i x σ H,xs[i]? =↑x->Pv i σ H->g x σ H λd h=>tb {D with nx:=Pv (i+1),ct:=Pv (i+1),bk:=D.nx} d h)(hd:∀σ H,Pv xs.length σ H->D.nx σ H):
  ∃W:Nat->Nat->St->Hp->Prop,(∃m,W 0 m σ H)/\∀i m σ H,W i m σ H->
   ((fF K a).stop i H/\D.nx σ H)\/((fF K a).go i H/\∃N:St->Hp->Prop,(∀c H',N c H'->∃j,j<m/\W (i+1) j c H')/\∀x H',(fF K a).yld i H x H'->g x σ H' λd h=>tb {D with nx:=N,ct:=N,bk:=D.nx} d h):=by
 exists λi m σ H=>m=xs.length-i/\i<=xs.length/\Pv i σ H,#[xs.length,by simp,JB _,l]
 rintro i m σ H ⟨rfl,hi,p⟩
 have q:=hl i σ H hi p
 by_cases f:i<xs.length
 .refine .inr #[#[xs,xs[i],q,by simp [f]],Pv (i+1),λc H' n=>#[xs.length-(i+1),by lia,Z,f,n],λx H' y=>?_]
  let#[e,y]:=y;subst e;exact hs i x σ _ (y xs q) p
 .have e:i=xs.length:=by lia
  subst e;exact .inl #[#[xs,q,Jf _],hd σ H p]
theorem gu{K:ι}{xs:Ε}{g:TG}{tb:TS}{D:Ng}{σ:St}{H:Hp}(Pv:Nat->St->Hp->Prop)(l:Pv 0 σ H)(hl:∀i σ H,i<=xs.length->Pv i σ H->HX K H a xs)
  (hs:∀i x σ H,xs[i]? =↑x->Pv i σ H->g x σ H λd h=>tb {D with nx:=Pv (i+1),ct:=Pv (i+1),bk:=D.nx} d h)(hd:∀σ H,Pv xs.length σ H->D.nx σ H):
  ∃W:Nat->Nat->St->Hp->Prop,(∃m,W 0 m σ H)/\∀i m σ H,W i m σ H->
   ((lE K a).stop i H/\D.nx σ H)\/((lE K a).go i H/\∃N:St->Hp->Prop,(∀c H',N c H'->∃j,j<m/\W (i+1) j c H')/\∀x H',(lE K a).yld i H x H'->g x σ H' λd h=>tb {D with nx:=N,ct:=N,bk:=D.nx} d h):=by
 exists λi m σ H=>m=xs.length-i/\i<=xs.length/\Pv i σ H,#[xs.length,by simp,JB _,l]
 rintro i m σ H ⟨rfl,hi,p⟩
 have q:=hl i σ H hi p
 by_cases f:i<xs.length
 .refine .inr #[#[xs,xs[i],q,by simp [f]],Pv (i+1),λc H' n=>#[xs.length-(i+1),by lia,Z,f,n],λx H' y=>?_]
  let#[e,y]:=y;subst e;exact hs i x σ _ (y xs q) p
 .have e:i=xs.length:=by lia
  subst e;exact .inl #[#[xs,q,Jf _],hd σ H p]
theorem Qv{lo:Int}{n:Nat}{g:TG}{tb:TS}{D:Ng}{σ:St}{H:Hp}(Pv:Nat->St->Hp->Prop)(j:Pv 0 σ H)
  (hs:∀i σ H,i<n->Pv i σ H->g (.int (lo+i)) σ H λc f=>tb {D with nx:=Pv (i+1),ct:=Pv (i+1),bk:=D.nx} c f)(hd:∀σ H,Pv n σ H->D.nx σ H):
  ∃W:Nat->Nat->St->Hp->Prop,(∃m,W 0 m σ H)/\∀i m σ H,W i m σ H->
   ((j9 lo n).stop i H/\D.nx σ H)\/((j9 lo n).go i H/\∃N:St->Hp->Prop,(∀a H',N a H'->∃h,h<m/\W (i+1) h a H')/\∀x H',(j9 lo n).yld i H x H'->g x σ H' λc f=>tb {D with nx:=N,ct:=N,bk:=D.nx} c f):=by
 exists λi m σ H=>m=n-i/\i<=n/\Pv i σ H,#[n,by simp,JB _,j]
 rintro i m σ H ⟨rfl,hi,p⟩
 by_cases d:i<n
 .refine .inr #[d,Pv (i+1),λa H' l=>#[n-(i+1),by lia,Z,d,l],λx H' y=>?_]
  let#[e,y]:=y;subst e y;exact hs i σ _ d p
 .have e:i=n:=by lia
  subst e;exact .inl #[Jf _,hd σ H p]
abbrev R2:=V->V->Hp->VK->Prop
def zx(X:Cx)(f:Γ->Γ->Sem Γ)(r:R2):Prop:=
 ∀(R0:HI) (s:Θ) (σ:St) (H:Hp) (x y:V) (v u:Γ) (Q:VK),HN X R0 σ H s->HV x v->HV y u->r x y H Q->
  ε (model X.prog X.w) X.A (f v u) (EP X R0 σ Q) X.xe s
def Cf(X:Cx)(f:Γ->Sem Γ)(r:V->Hp->VK->Prop):Prop:=
 ∀(R0:HI) (s:Θ) (σ:St) (H:Hp) (x:V) (v:Γ) (Q:VK),HN X R0 σ H s->HV x v->r x H Q->
  ε (model X.prog X.w) X.A (f v) (EP X R0 σ Q) X.xe s
def zj(X:Cx)(f:Γ)(r:Ε->Hp->VK->Prop):Prop:=
 ∀(R0:HI) (s:Θ) (σ:St) (H:Hp) (xs:Ε) (a:Ζ) (Q:VK),HN X R0 σ H s->HS xs a->r xs H Q->
  ε (model X.prog X.w) X.A (call f a) (EP X R0 σ Q) X.xe s
noncomputable def kh(r:R2)(ta tb:TE):TE:=λσ H Q=>ta σ H λx H1=>tb σ H1 λy a=>r x y a Q
def Gp(r:V->Hp->VK->Prop)(ta:TE):TE:=λσ H Q=>ta σ H λx H1=>r x H1 Q
inductive RY (C:Int->Int->Prop)(g:Int->Int->V)(x:V)(y:V)(H:Hp)(Q:VK):Prop
 |mk (i:_)(j:_)(h1:x= .int i)(h2:y= .int j)(h3:C i j)(h4:Q (g i j) H)
def rI(C:Int->Int->Prop)(g:Int->Int->V):R2:=λx y H Q=>RY C g x y H Q
inductive RW (g:Int->Int->V)(x:V)(y:V)(H:Hp)(Q:VK):Prop
 |mk (i:_)(j:_)(h1:x= .int i)(h2:y= .int j)(h3:Q (g i j) H)
def kN(g:Int->Int->V):R2:=λx y H Q=>RW g x y H Q
inductive RZ (g:Int->V)(x:V)(H:Hp)(Q:VK):Prop
 |mk (i:_)(h1:x= .int i)(h2:Q (g i) H)
def rU(g:Int->V):V->Hp->VK->Prop:=λx H Q=>RZ g x H Q
section
variable{b:Φ}
theorem AY(ha:PE X a ta)(hb:PE X b tb){R:V->V->Hp->Prop}(I:HN X R0 σ H s)
  (h:ta σ H λx H1=>tb σ H1 λy c=>R x y c){f:Γ->Γ->Sem Γ}
  (hf:∀v u g x y c,HN X R0 σ c g->HV x v->HV y u->R x y c->ε (model X.prog X.w) X.A (f v u) Q X.xe g):
  ε (model X.prog X.w) X.A (eval a X.env) (λv e=>ε (model X.prog X.w) X.A (eval b X.env) (λu d=>ε (model X.prog X.w) X.A (f v u) Q X.xe d) X.xe e) X.xe s:=by
 refine qz (ha R0 s σ H _ I h) λv o i=>?_
 let#[x,H1,q,n,m]:=i;refine qz (hb R0 o σ H1 _ q m) λu g i=>?_
 let#[y,c,l,p,j]:=i;exact hf v u g x y c l n p j
theorem FN{op:Operator}(ho:zx X (binaryOp op) r)(ha:PE X a ta)(hb:PE X b tb):PE X (.BinOp a op b pos) (kh r ta tb):=by
 intro R0 s σ H Q I h;exact wpAny_BinOp (AY ha hb I h λv u c x y g f d e q=>ho R0 c σ g x y v u Q f d e q)
theorem FK{op:UnaryOp}{r:V->Hp->VK->Prop}(ho:Cf X (unaryOp op) r)(ha:PE X a ta):PE X (.UnaryOp op a pos) (Gp r ta):=by
 intro R0 s σ H Q I h;exact UnaryOp_ (qz (ha R0 s σ H _ I h) λv f ⟨x,H1,e,c,d⟩=>ho R0 f σ H1 x v Q e c d)
theorem Cj{f:Γ->Γ->Sem Γ}{C:Int->Int->Prop}{g:Int->Int->Int}
  (a:∀(i j:Int) (t u:Tok) (s:Θ) (Q:HG) (E:HG),C i j->Q (.int (g i j) s.toks) {s with toks:=s.toks+1}->ε (model X.prog X.w) X.A (f (.int i t) (.int j u)) Q E s):
  zx X f (rI C λi j=> .int (g i j)):=by
 intro R0 s σ H x y v u Q I d c h;let#[i,j,rfl,rfl,l,q]:=h;let#[t,rfl]:=d;let#[e,rfl]:=c;exact a i j t e s _ _ l #[.int (g i j),H,I.tok _,#[0],q]
theorem Eh{f:Γ->Γ->Sem Γ}{g:Int->Int->Int}
  (a:∀(i j:Int) (t u:Tok) (s:Θ) (Q:HG) (E:HG),Q (.int (g i j) s.toks) {s with toks:=s.toks+1}->ε (model X.prog X.w) X.A (f (.int i t) (.int j u)) Q E s):
  zx X f (kN λi j=> .int (g i j)):=by
 intro R0 s σ H x y v u Q I d c h;let#[i,j,rfl,rfl,q]:=h;let#[t,rfl]:=d;let#[e,rfl]:=c;exact a i j t e s _ _ #[.int (g i j),H,I.tok _,#[0],q]
theorem tZ{f:Γ->Γ->Sem Γ}{g:Int->Int->Bool}
  (a:∀(i j:Int) (t u:Tok) (s:Θ) (Q:HG) (E:HG),Q (.bool (g i j)) s->ε (model X.prog X.w) X.A (f (.int i t) (.int j u)) Q E s):
  zx X f (kN λi j=> .bl (g i j)):=by
 intro R0 s σ H x y v u Q I d c h;let#[i,j,rfl,rfl,q]:=h;let#[t,rfl]:=d;let#[e,rfl]:=c;exact a i j t e s _ _ #[.bl (g i j),H,I,Z,q]
def GK(i j:Int):Prop:=0<j/\j<1073741824
def Gz(i j:Int):Prop:=0<=j/\j<=1000000/\i.natAbs<2 ^ 64
def Re(i j:Int):Prop:=(-(2 ^ 64)<i/\i<2 ^ 64)\/(-(2 ^ 64)<j/\j<2 ^ 64)
theorem Re.ok(h:Re i j):IntMulOk i j:=by
 rcases h with⟨h1,a⟩|⟨h1,a⟩
 .exact .of_left (intBits_le_64 h1 a)
 .exact .of_right (intBits_le_64 h1 a)
theorem qM:zx X (binaryOp .Add) (kN λi j=> .int (i+j)):=Eh λ_ _ _ _ _ _ _ q=>add_int q
theorem Qy:zx X (binaryOp .Sub) (kN λi j=> .int (i-j)):=Eh λ_ _ _ _ _ _ _ q=>sub_int q
theorem ZQ:zx X (binaryOp .Mult) (rI Re λi j=> .int (i*j)):=Cj λ_ _ _ _ _ _ _ a q=>mul_int q a.ok
theorem cH:zx X (binaryOp .FloorDiv) (rI GK λi j=> .int (i/j)):=Cj λi j _ _ _ _ _ a q=>by
 have h1:(0:Int)<j:=a.1
 have c:j<1073741824:=a.2
 exact floordiv_int (by lia) (by rw[Int.fdiv_eq_ediv_of_nonneg i (by lia)];exact q) (.inl (PyProof.noPylong_small (by lia)))
theorem Qx:zx X (binaryOp .Mod) (rI (λ_ j=>0<j) λi j=> .int (i%j)):=Cj λi j _ _ _ _ _ a q=>by
 have h1:(0:Int)<j:=a
 exact mod_int' (by lia) (by rw[Int.fmod_eq_emod_of_nonneg i (by lia)];exact q)
theorem E8:zx X (binaryOp .Pow) (rI Gz λi j=> .int (i ^ j.toNat)):=Cj λ_ _ _ _ _ _ _ a q=>pow_int_small a.1 a.2.1 a.2.2 q
theorem GQ{f:Γ->Sem Γ}{g:Int->Int}
  (a:∀(i:Int) (t:Tok) (s:Θ) (Q:HG) (E:HG),Q (.int (g i) s.toks) {s with toks:=s.toks+1}->ε (model X.prog X.w) X.A (f (.int i t)) Q E s):
  Cf X f (rU λi=> .int (g i)):=by
 intro R0 s σ H x v Q I c h;let#[i,rfl,q]:=h;let#[t,rfl]:=c;exact a i t s _ _ #[.int (g i),H,I.tok _,#[0],q]
theorem iQ:Cf X (unaryOp .USub) (rU λi=> .int (Neg.neg i)):=GQ λ_ _ _ _ _ q=>neg_int q
end
noncomputable def Fs:V->V->Bool
 | .non,.non=>true| .non,.int _=>true| .int _,.non=>true| .non,.bl _=>true| .bl _,.non=>true| .non,.str _=>true| .str _,.non=>true
 | .int _,.int _=>true| .bl _,.bl _=>true| .str _,.str _=>true| .byt _,.byt _=>true
 | .int _,.str _=>true| .str _,.int _=>true| .bl _,.str _=>true| .str _,.bl _=>true
 |_,_=>false
def GT:R2:=λx y H Q=>Fs x y=true/\Q (.bl (decide (x=y))) H
def GV:R2:=λx y H Q=>Fs x y=true/\Q (.bl (! decide (x=y))) H
theorem rW:decide (V.int i=V.int j)=(i==j):=by
 rw[Iu];simp
theorem wL:decide (V.bl i=V.bl j)=(i==j):=by
 rw[Iu];simp
theorem sj:decide (V.str i=V.str j)=(i==j):=by
 rw[Iu];simp
theorem tJ:decide (V.byt i=V.byt j)=(i.toList==j.toList):=by
 rw[Iu];cases i;cases j;simp
section
variable{b:Φ}
theorem qW{Q:VK}{k a:Bool}(I:HN X R0 σ H s)(q:Q (.bl k) H)(e:k=a):EP X R0 σ Q (.bool a) s:=by
 subst e
 exact#[.bl k,H,I,Z,q]
theorem zt:zx X (Py .Eq) GT:=by
 intro R0 s σ H x y v u Q I e a h;let#[d,q]:=h;cases x with
 |non=>
  cases e;cases y with
  |non=>cases a;exact PySem.EqNone.eq_none_none (qW I q (by simp))
  |bl j=>cases a;exact PySem.EqNone.eq_none_bool (qW I q (by simp))
  |int j=>let#[c,rfl]:=a;exact PySem.EqNone.eq_none_int (qW I q (by simp))
  |str j=>let#[c,rfl]:=a;exact PySem.EqNone.eq_none_str (qW I q (by simp))
  |_=>exact absurd (show false=true from d) JK
 |bl i=>
  cases e;cases y with
  |non=>cases a;exact PySem.EqNone.eq_bool_none (qW I q (by simp))
  |bl j=>cases a;exact eq_bool (qW I q wL)
  |str j=>let#[c,rfl]:=a;exact PySem.EqMixed.eq_bool_str (qW I q (by simp))
  |_=>exact absurd (show false=true from d) JK
 |int i=>
  let#[t,rfl]:=e;cases y with
  |non=>cases a;exact PySem.EqNone.eq_int_none (qW I q (by simp))
  |int j=>let#[c,rfl]:=a;exact eq_int (qW I q rW)
  |str j=>let#[c,rfl]:=a;exact PySem.EqMixed.eq_int_str (qW I q (by simp))
  |_=>exact absurd (show false=true from d) JK
 |str i=>
  let#[t,rfl]:=e;cases y with
  |non=>cases a;exact PySem.EqNone.eq_str_none (qW I q (by simp))
  |bl j=>cases a;exact PySem.EqMixed.eq_str_bool (qW I q (by simp))
  |int j=>let#[c,rfl]:=a;exact PySem.EqMixed.eq_str_int (qW I q (by simp))
  |str j=>let#[c,rfl]:=a;exact eq_str (qW I q sj)
  |_=>exact absurd (show false=true from d) JK
 |byt i=>
  let#[t,rfl]:=e;cases y with
  |byt j=>let#[c,rfl]:=a;exact W.eq_bytes (qW I q tJ)
  |_=>exact absurd (show false=true from d) JK
 |_=>cases y<;>exact absurd (show false=true from d) JK
theorem ac:zx X (Py .NotEq) GV:=by
 intro R0 s σ H x y v u Q I e a h;let#[d,q]:=h;cases x with
 |non=>
  cases e;cases y with
  |non=>cases a;exact PySem.EqNone.ne_none_none (qW I q (by simp))
  |bl j=>cases a;exact PySem.EqNone.ne_none_bool (qW I q (by simp))
  |int j=>let#[c,rfl]:=a;exact PySem.EqNone.ne_none_int (qW I q (by simp))
  |str j=>let#[c,rfl]:=a;exact PySem.EqNone.ne_none_str (qW I q (by simp))
  |_=>exact absurd (show false=true from d) JK
 |bl i=>
  cases e;cases y with
  |non=>cases a;exact PySem.EqNone.ne_bool_none (qW I q (by simp))
  |bl j=>cases a;exact ne_bool (qW I q (J0 not wL))
  |str j=>let#[c,rfl]:=a;exact PySem.EqMixed.ne_bool_str (qW I q (by simp))
  |_=>exact absurd (show false=true from d) JK
 |int i=>
  let#[t,rfl]:=e;cases y with
  |non=>cases a;exact PySem.EqNone.ne_int_none (qW I q (by simp))
  |int j=>let#[c,rfl]:=a;exact ne_int (qW I q (J0 not rW))
  |str j=>let#[c,rfl]:=a;exact PySem.EqMixed.ne_int_str (qW I q (by simp))
  |_=>exact absurd (show false=true from d) JK
 |str i=>
  let#[t,rfl]:=e;cases y with
  |non=>cases a;exact PySem.EqNone.ne_str_none (qW I q (by simp))
  |bl j=>cases a;exact PySem.EqMixed.ne_str_bool (qW I q (by simp))
  |int j=>let#[c,rfl]:=a;exact PySem.EqMixed.ne_str_int (qW I q (by simp))
  |str j=>let#[c,rfl]:=a;exact ne_str (qW I q (J0 not sj))
  |_=>exact absurd (show false=true from d) JK
 |byt i=>
  let#[t,rfl]:=e;cases y with
  |byt j=>let#[c,rfl]:=a;exact W.ne_bytes (qW I q (J0 not tJ))
  |_=>exact absurd (show false=true from d) JK
 |_=>cases y<;>exact absurd (show false=true from d) JK
theorem bF:zx X (Py .Lt) (kN λi j=> .bl (decide (i<j))):=tZ λ_ _ _ _ _ _ _ q=>lt_int q
theorem ae:zx X (Py .LtE) (kN λi j=> .bl (decide (i<=j))):=tZ λ_ _ _ _ _ _ _ q=>le_int q
theorem BT:zx X (Py .Gt) (kN λi j=> .bl (decide (j<i))):=tZ λ_ _ _ _ _ _ _ q=>gt_int q
theorem iS:zx X (Py .GtE) (kN λi j=> .bl (decide (j<=i))):=tZ λ_ _ _ _ _ _ _ q=>ge_int q
theorem zW:zx X (Py .Is) (λx y H Q=>y= .non/\Q (.bl (decide (x= .non))) H):=by
 intro R0 s σ H x y v u Q I a c h;let#[rfl,q]:=h;cases c;refine is_none_gen (qW I q ?_)
 cases x<;>first
  |(cases a;rfl)
  |(let#[t,rfl]:=a;rfl)
theorem Z7:zx X (Py .IsNot) (λx y H Q=>y= .non/\Q (.bl (! decide (x= .non))) H):=by
 intro R0 s σ H x y v u Q I a c h;let#[rfl,q]:=h;cases c;refine isnot_none_gen (qW I q ?_)
 cases x<;>first
  |(cases a;rfl)
  |(let#[t,rfl]:=a;rfl)
theorem qq(b:Φ){op:CmpOp}(h:op≠ .In:=by decide)(h2:op≠ .NotIn:=by decide):behindInMarks op b=false:=by
 have c:(op==CmpOp.In)=false:=by cases op<;>first|rfl|exact absurd Z h
 have a:(op==CmpOp.NotIn)=false:=by cases op<;>first|rfl|exact absurd Z h2
 cases b<;>simp [behindInMarks,c,a]
theorem Cv{op:CmpOp}(ho:zx X (Py op) r)(ha:PE X a ta)(hb:PE X b tb)(hm:behindInMarks op b=false):PE X (.Compare a [op] [b] pos) (kh r ta tb):=by
 intro R0 s σ H Q I h;exact wpAny_Compare1 (AY ha hb I h λv u c x y g f d e q=>ho R0 c σ g x y v u Q f d e q) hm
def gC(t:TE):TT:=λσ H Q=>t σ H λx H'=>∃k,x= .bl k/\Q k H'
theorem CU{op:CmpOp}(ho:zx X (Py op) r)(ha:PE X a ta)(hb:PE X b tb)(hm:behindInMarks op b=false):PT X (.Compare a [op] [b] pos) (gC (kh r ta tb)):=by
 intro R0 s σ H Q I h;refine wpAny_isTrue_Compare1 (qz (ha R0 s σ H _ I h) λv o ⟨x,H1,w,g,m⟩=>qz (hb R0 o σ H1 _ w m) λu f ⟨y,n,l,q,i⟩=>
  qz (ho R0 f σ n x y v u _ l g q i) λc A ⟨z,t,d,j,k,e,p⟩=>?_) hm
 subst e;cases j;exact IT #[t,d,p]
noncomputable def jq(r d:R2)(ta tb tc:TE):TE:=λσ H Q=>ta σ H λx H1=>tb σ H1 λy f=>r x y f λz a=>∃k,z= .bl k/\
 (if k=true then tc σ a λe c=>d y e c Q else Q (.bl false) a)
theorem AD{op f:CmpOp}(ho:zx X (Py op) r)(ho':zx X (Py f) l)(ha:PE X a ta)(hb:PE X b tb)(hc:PE X c tc)
  (hm:lastMarks [op,f] [b,c]=false:=by with_unfolding_all rfl):PE X (.Compare a [op,f] [b,c] pos) (jq r l ta tb tc):=by
 intro R0 s σ H Q I h;refine Compare_chain (qz (ha R0 s σ H _ I h) λv L ⟨x,H1,A,C,K⟩=>chain_link (qz (hb R0 L σ H1 _ A K) λu o ⟨y,F,E,g,p⟩=>
  qz (ho R0 o σ F x y v u _ E C g p) λd G ⟨z,m,j,q,k,e,i⟩=>?_)) hm
 subst e;cases q;refine IT ?_
 cases k with
 |false=>exact ite_ff #[.bl false,m,j,Z,i]
 |true=>exact ite_tt (chain_last (qz (hc R0 G σ m _ j i) λJ M ⟨t,B,w,n,D⟩=>ho' R0 M σ B y t u J Q w g n D))
theorem Am{op f:CmpOp}(ho:zx X (Py op) r)(ho':zx X (Py f) l)(ha:PE X a ta)(hb:PE X b tb)(hc:PE X c tc)
  (hm:lastMarks [op,f] [b,c]=false:=by with_unfolding_all rfl):PT X (.Compare a [op,f] [b,c] pos) (gC (jq r l ta tb tc)):=by
 intro R0 s σ H Q I h;refine isTrue_chain (qz (ha R0 s σ H _ I h) λv T ⟨x,H1,C,E,S⟩=>test_link (qz (hb R0 T σ H1 _ C S) λu o ⟨y,O,M,g,p⟩=>
  qz (ho R0 o σ O x y v u _ M E g p) λd P ⟨z,m,j,t,k,e,i⟩=>?_)) hm
 subst e;cases t;refine IT ?_
 cases k with
 |false=>
  let#[k',e',F]:=i;cases e';exact ite_ff #[m,j,F]
 |true=>
  refine ite_tt (test_last (qz (hc R0 P σ m _ j i) λR U ⟨A,D,B,n,J⟩=>qz (ho' R0 U σ D y A u R _ B g n J) λY W w=>?_))
  let#[z2,G,q,N,k2,L,K]:=w;subst L;cases N;exact IT #[G,q,K]
theorem ai:(ζ:Nat)<2 ^ 63:=by rw[JD];decide
theorem zT{x:V}(r:HS [x] us):∃u,us=[u]/\HV x u:=by
 cases r with
 |cons r1 r2=>cases r2;exact#[0,r1]
theorem gt{x y:V}(r:HS [x,y] us):∃u a,us=[u,a]/\HV x u/\HV y a:=by
 cases r with
 |cons r1 r2=>
  cases r2 with
  |cons r3 r4=>cases r4;exact#[13,r1,r3]
theorem mS:zj X (.builtin "abs") (λxs H Q=>∃i,xs=[.int i]/\Q (.int (if i<0 then (Neg.neg i) else i)) H):=by
 intro R0 s σ H xs a Q I r h;let#[i,rfl,q]:=h;let#[u,rfl,t,rfl]:=zT r;exact call_abs_int λu tk=>#[.int (if i<0 then (Neg.neg i) else i),H,I.tok _,#[0],q]
theorem bR(hc:X.calm=true):zj X (.builtin "max") (λxs H Q=>∃i j,xs=[.int i,.int j]/\Q (.int (if j>i then j else i)) H):=by
 intro R0 s σ H xs d Q I r h;let#[i,j,rfl,q]:=h;let#[u,c,rfl,#[t,rfl],#[e,rfl]]:=gt r;refine max_two_ints (I.ok.hd hc) λh' tk k=>#[_,H,I.kept k,?_,q]
 by_cases a:j>i
 .rw[Jc a,Jc a];exact#[0]
 .rw[Jb a,Jb a];exact#[0]
theorem Zb(hc:X.calm=true):zj X (.builtin "min") (λxs H Q=>∃i j,xs=[.int i,.int j]/\Q (.int (if j<i then j else i)) H):=by
 intro R0 s σ H xs d Q I r h;let#[i,j,rfl,q]:=h;let#[u,c,rfl,#[t,rfl],#[e,rfl]]:=gt r;refine min_two_ints (I.ok.hd hc) λh' tk k=>#[_,H,I.kept k,?_,q]
 by_cases a:j<i
 .rw[Jc a,Jc a];exact#[0]
 .rw[Jb a,Jb a];exact#[0]
theorem yy:zj X (.type "int") (λxs H Q=>(∃i,xs=[.int i]/\Q (.int i) H)\/∃k,xs=[.bl k]/\Q (.int (if k then 1 else 0)) H):=by
 intro R0 s σ H xs c Q I r h;rcases h with⟨i,rfl,q⟩|⟨k,rfl,q⟩
 .let#[u,rfl,t,rfl]:=zT r
  exact call_int_int #[.int i,H,I,#[0],q]
 .let#[u,rfl,a]:=zT r
  cases a;exact call_int_bool #[.int (if k then 1 else 0),H,I.tok _,#[0],q]
theorem mQ:zj X (.builtin "ord") (λxs H Q=>∃x,xs=[.str x]/\x.length=1/\Q (.int (x.cps.getD 0 0:Nat)) H):=by
 intro R0 s σ H xs c Q I r h;let#[x,rfl,a,q]:=h;let#[u,rfl,t,rfl]:=zT r;exact ord_of_one a #[.int _,H,I.tok _,#[0],q]
end
structure Oo(h:Ψ)(x dx C:Δ)(mA:HH):Prop where
 obj:h.get? x=↑(PySem.W.instObj C dx)
 ns:h.Ns1 dx mA
 ne:dx≠x
theorem vM{h:Ψ}(n:h.Ns1 dx mA):∃od,h.get? dx=↑od/\∀name,W.lookIn name od=↑(mA name):=by
 let#[o,es,ep,d,i,hk,_,g]:=n;refine#[o,d,λname=>?_]
 have e:=g name;unfold nsFind findBy at e;rw[<- Array.find?_toList]at e;unfold W.lookIn;rw[i]
 dsimp only
 split
 .rename_i y q
  rw[q]at e;exact J0 some e
 .rename_i q
  rw[q]at e;have a:es.toList.any (·.refKey)=false:=by
   rw[OC];intro y f;let#[z,t,c]:=hk y (Array.mem_toList_iff.mp f)
   simp [DictEntry.refKey,c]
  have j:¬es.toList.any (·.refKey)=true:=by rw[a];exact JK
  rw[Jb j];exact J0 some e
theorem Oo.look(I:Oo h x dx C mA):∃od,W.InstAt h x (TJ C dx) C ↑od/\∀name,W.lookIn name od=↑(mA name):=
 let⟨od,ho,hl⟩:=vM I.ns
 #[od,#[I.obj,9,ho],hl]
section
variable{K:ι}
theorem Dg{a:Bool}{Q:HG}(X:K.In s.heap)(I:Oo s.heap x dx C mA)(hg:W.plainGet K C name=true)(e:W.hasDictIn K C=true)
  (ha:SA K (-C) name=↑none)(hv:mA name=↑v)(c:W.handedIn v=true)(h:Q v {s with toks:=s.toks+1}):
  ε (model prog w) A (getAttr (-x) name a) Q E s:=by
 let#[od,J,d]:=I.look;exact W.get_value X J (W.plainGet_of hg).1 (W.findObj_own e ha Z (by rw[d,hv])) c h
theorem Aa{pl:Sem Bool}{Q:Γ×Ζ->Θ->Prop}(X:K.In s.heap)(I:Oo s.heap x dx C mA)(hg:W.plainGet K C name=true)
  (hf:SA K (-C) name=↑(↑(-f)))(a:W.isFn K (-f)=true)(hv:mA name=none)(h:Q (-f,[-x]) s):
  ε (model prog w) A (getMethod (-x) name pl) Q E s:=by
 let#[od,J,c]:=I.look;exact W.method_fn X J (W.plainGet_of hg).1 (W.plainGet_of hg).2 hf (J7.mp a) (by show(W.lookIn name od).map (·.isSome)=↑false;rw[c,hv];rfl) h
theorem DI{Q:Unit->Θ->Prop}(X:K.In s.heap)(I:Oo s.heap x dx C mA)
  (hs:SA K (-C) "__setattr__"=↑(↑(.builtin "object.__setattr__")))(hp:W.plainOver K C=true)(m:W.takerIn K C name=↑none)(l:W.hasDictIn K C=true)
  (hw:PySem.Within mA ns)(hsz:ns.length<=ζ)
  (h:∀h',Oo h' x dx C (λy=>if y=name then ↑v else mA y)->Ψ.SameBut dx s.heap h'->Q () {s with heap:=h',toks:=s.toks+2}):
  ε (model prog w) A (setAttr (-x) name v) Q E s:=by
 let#[od,J,q]:=I.look;refine W.set_plain X J hs (W.osa_open (s:={s with toks:=s.toks+1}) (r:=none) X J hp m λb=>?_)
 let#[cd,p,g]:=W.any_some l;have n:s.heap.get? x=some #[-C,↑dx,.plain,(AA [])]:=I.obj
 refine Ja (Jd (Ja (Ja (wpAny_loadPart n (Ja (W.Looks.here (s:={s with toks:=s.toks+1}) (W.looks_clsIn X p) ?_))))))
 rw[g];refine Jd (a:=↑dx) (Ja (Jd (Ja ?_)))
 refine wpAny_nsSet1 (s:={s with toks:=s.toks+1}) I.ns λh' d c=>?_
 let#[t,o,j,i,e,f]:=d.count (PySem.Within.cons name v hw)
 refine Ja (wpAny_lookBehind i (by rw[e];exact pastItsLine_dict (JN f (by rw[JR];lia))) ?_)
 exact Jd (h _ #[(c.2 _ (Ne.symm I.ne)).trans I.obj,d,I.ne] c)
theorem Be{R:Result->Θ->Prop}{vs:Ζ}{c:List (Str×Γ)}(X:K.In s.heap)(hm:W.makesIn K C=true)
  (hi:SA K (-C) "__init__"=↑(↑(-f)))(hf:W.typeIn K (-f)=↑(.type "function"))
  (h:codeAny (model prog w) (A.under (.builtin "type.__call__" #[.ref C::vs,c])) (.call (-f) #[.ref (s.heap.objs.size+1)::vs,c]) (W.InitBack (s.heap.objs.size+1) R)
   {s with heap:=(s.heap.push SE).push (TJ C s.heap.objs.size)}):
  codeAny (model prog w) A (.call (-C) #[vs,c]) R s:=by
 let#[i,g,d,t,e]:=s;exact W.make_core (W.makes_of X hm) (W.looks_findIn X hi) (λa=>W.bind_fn X a hf) (.inl Z) h
end
noncomputable def QC(f:Str)(v:V):List (Str×V)->List (Str×V)
 | []=>[(f,v)]
 |(g,x)::r=>if g=f then(g,v)::r else(g,x)::QC f v r
theorem gY(f g:Str)(v:V):∀fs:List (Str×V),(QC f v fs).lookup g=if g=f then ↑v else fs.lookup g
 | []=>by
  show KH g [(f,v)]=_
  by_cases h:g=f
  .have a:(g==f)=true:=J7.mpr h
   simp only[KH,a,Jc h]
  .have a:(g==f)=false:=IS.mpr h
   simp only[KH,a,Jb h]
 |(k,x)::r=>by
  have c:=gY f g v r;rw[show QC f v ((k,x)::r)=(if k=f then(k,v)::r else(k,x)::QC f v r)from Z]
  by_cases hk:k=f
  .rw[Jc hk]
   by_cases h:g=k
   .have a:(g==k)=true:=J7.mpr h
    simp only[KH,a,Jc (h.trans hk)]
   .have a:(g==k)=false:=IS.mpr h
    simp only[KH,a,Jb (λe:g=f=>h (e.trans hk.symm))]
  .rw[Jb hk]
   by_cases h:g=k
   .have a:(g==k)=true:=J7.mpr h
    simp only[KH,a,Jb (λe:g=f=>hk (h.symm.trans e))]
   .have a:(g==k)=false:=IS.mpr h
    simp only[KH,a];exact c
theorem gg(f:Str)(v:V):∀fs:List (Str×V),f∈(QC f v fs).map (·.1)/\∀g,g∈fs.map (·.1)->g∈(QC f v fs).map (·.1)
 | []=>#[by simp [QC],λg h=>by simp at h]
 |(k,x)::r=>by
  let#[i1,i2]:=gg f v r;rw[show QC f v ((k,x)::r)=(if k=f then(k,v)::r else(k,x)::QC f v r)from Z]
  by_cases hk:k=f
  .rw[Jc hk]
   subst hk
   exact#[by simp,λg h=>by simpa using h]
  .rw[Jb hk]
   refine#[?_,λg h=>?_]
   .rw[JS]
    exact Jv _ i1
   .rw[JS]at h⊢
    rcases Jg.mp h with e|e
    .exact Jg.mpr (.inl e)
    .exact Jv _ (i2 g e)
theorem gW(f:Str)(v:V):∀fs:List (Str×V),(QC f v fs).length<=fs.length+1
 | []=>by simp [QC]
 |(k,x)::r=>by
  have a:=gW f v r;rw[show QC f v ((k,x)::r)=(if k=f then(k,v)::r else(k,x)::QC f v r)from Z]
  by_cases hk:k=f
  .rw[Jc hk,JR,JR];lia
  .rw[Jb hk,JR,JR];lia
theorem NK.some_of{v:V}(r:NK ↑v o):∃u,o=↑u/\HV v u:=by
 cases o with
 |none=>exact(show False from r).elim
 |some u=>exact#[u,Z,r]
theorem NK.none_of(r:NK none o):o=none:=by
 cases o with
 |none=>rfl
 |some u=>exact(show False from r).elim
theorem xq(r:HV v u):W.handedIn u=true:=by
 cases v with
 |non=>cases(show u=Γ.none from r);rfl
 |bl b=>cases(show u=Γ.bool b from r);rfl
 |int i=>let#[t,e]:=(show∃t,u=Γ.int i t from r);cases e;rfl
 |str x=>let#[t,e]:=(show∃t,u=Γ.str x t from r);cases e;rfl
 |byt b=>let#[t,e]:=(show∃t,u=Γ.bytes b t from r);cases e;rfl
 |flt b=>let#[t,e]:=(show∃t,u=Γ.float b t from r);cases e;rfl
 |ref a=>cases(show u=Γ.ref a from r);rfl
 |ty n=>cases(show u=Γ.type n from r);rfl
section
variable{fs:List (Str×V)}
theorem gB(c:NW P w H h)(e:H a=↑(.ins C dx fs)):∃mA,Oo h a dx C mA/\(∀f,NK (fs.lookup f) (mA f))/\PySem.Within mA (fs.map (·.1))/\fs.length<=1000/\H dx=↑(.own a):=by
 let#[d,z,ne,g,mA,n,r,q]:=(show ML P w H h a (.ins C dx fs)from c a _ e)
 exact#[mA,#[g,n,ne],r,q,z,d]
end
structure OK(K:ι)(C:Δ):Prop where
 pg:PySem.W.plainGet K C Str.empty=true
 hd:PySem.W.hasDictIn K C=true
 po:PySem.W.plainOver K C=true
 sa:SQ K (-C) "__setattr__"=↑(↑(.builtin "object.__setattr__"))
theorem OK.get{K:ι}(c:OK K C)(f:Str):W.plainGet K C f=true:=c.pg
def MT(K:ι)(C:Δ)(f:Str):Prop:=SQ K (-C) f=↑none
theorem MT.taker{K:ι}(n:MT K C f):W.takerIn K C f=↑none:=by
 unfold W.takerIn;rw[show SA K (-C) f=↑none from n]
 rfl
structure PU(K:ι)(C:Δ)(m:Str)(f:Δ):Prop where
 at_:SQ K (-C) m=↑(↑(-f))
 fn:PySem.W.isFn K (-f)=true
 kp:SR K (-f)=true
section
variable{fs:List (Str×V)}{b:Bool}
theorem uu{b:Bool}{Q:HG}(I:HN X R0 σ H s)(e:H a=↑(.ins C dx fs))(c:OK X.K C)(n:MT X.K C f)(l:fs.lookup f=↑v)
  (h:∀u s',HN X R0 σ H s'->HV v u->Q u s'):ε (model X.prog X.w) A (getAttr (-a) f b) Q E s:=by
 let#[mA,O,r,_,_,_]:=gB I.hok e;let#[u,g,d]:=NK.some_of (v:=v) (o:=mA f) (by rw[<- l];exact r f)
 exact Dg I.kIn O (c.get f) c.hd n g (xq d) (h u _ (I.tok _) d)
theorem i9{pl:Sem Bool}{Q:Γ×Ζ->Θ->Prop}(I:HN X R0 σ H s)(e:H a=↑(.ins C dx fs))(c:OK X.K C)(k:PU X.K C m g)(l:fs.lookup m=none)
  (h:Q (-g,[-a]) s):ε (model X.prog X.w) A (getMethod (-a) m pl) Q E s:=by
 let#[mA,O,r,_,_,_]:=gB I.hok e;have d:mA m=none:=NK.none_of (by rw[<- l];exact r m)
 exact Aa I.kIn O (c.get m) k.at_ k.fn d h
theorem uG{Q:Unit->Θ->Prop}(I:HN X R0 σ H s)(e:H a=↑(.ins C dx fs))(c:OK X.K C)(n:MT X.K C f)(hl:fs.length<1000)(t:HV y u)
  (h:∀s',HN X R0 σ (HM H a (.ins C dx (QC f y fs))) s'->Q () s'):ε (model X.prog X.w) A (setAttr (-a) f u) Q E s:=by
 let#[mA,O,r,i,_,j]:=gB I.hok e;have m:(fs.map (·.1)).length<=ζ:=by rw[Je,JD];lia
 refine DI I.kIn O c.sa c.po n.taker c.hd i m λh' d p=>h _ ?_
 have w:∃o,h'.get? dx=↑o:=let⟨o,_,_,e',_⟩:=d.ns;#[o,e']
 refine I.write (x:=a) (e:=dx) (by rw[e];exact P5) (.inr j) (λb q v z=>(p.2 b v).trans z) w ?_
 refine#[by rw[qp O.ne];exact j,?_,O.ne,d.obj,_,d.ns,λg=>?_,λg l=>?_]
 .have:=gW f y fs;lia
 .show NK ((QC f y fs).lookup g) (if g=f then ↑u else mA g)
  rw[gY]
  by_cases q:g=f
  .rw[Jc q,Jc q];exact t
  .rw[Jb q,Jb q];exact r g
 .by_cases q:g=f
  .rw[q];exact(gg f y fs).1
  .refine(gg f y fs).2 g (i g λz=>l ?_)
   show(if g=f then ↑u else mA g)=none
   rw[Jb q];exact z
theorem HN.made(I:HN X R0 σ H s):HN X R0 σ (HM (HM H s.heap.objs.size (.own (s.heap.objs.size+1))) (s.heap.objs.size+1) (.ins C s.heap.objs.size []))
  {s with heap:=(s.heap.push SE).push (TJ C s.heap.objs.size)}:=by
 have c:(s.heap.push SE).get? s.heap.objs.size=↑SE:=Jp s.heap Z
 have d:((s.heap.push SE).push (TJ C s.heap.objs.size)).get? (s.heap.objs.size+1)=↑(TJ C s.heap.objs.size):=by
  have:=Jp (s.heap.push SE) (o:=TJ C s.heap.objs.size) Z
  rwa [JU]at this
 have f:(s.heap.push SE).Ns s.heap.objs.size (λ_=>none):=#[SE,(AA []),_,c,Z,(λe g=>absurd g (by simp)),λ_=>rfl]
 have i:=I.laid (a:=s.heap.objs.size) (o:= .own (s.heap.objs.size+1)) (h':=s.heap.push SE) (t':=s.toks) (λb u q=>Jk _ q) (Jf _) #[_,c]
 refine i.laid (a:=s.heap.objs.size+1) (o:= .ins C s.heap.objs.size []) (t':=s.toks) (λb u q=>Jk _ q) (L0 (JU _ _)) ?_
 have ne:s.heap.objs.size≠s.heap.objs.size+1:=Jm (G0 _)
 refine#[by rw[qp ne,qb],JB _,ne,d,λ_=>none,(Ψ.Ns1.of_empty f).at λo q=>Jk _ q,λ_=>P5,λy h=>absurd Z h]
theorem CO{a:Env}{e:Φ}{f:Str}{s:Θ}{Q:HG}(hb:attributeBase e f a (eval e a)=eval e a)
  (h:ε (model prog w) A (eval e a) (λo c=>ε (model prog w) A (getAttr o f true) Q E c) E s):ε (model prog w) A (eval (.Attribute e f pos) a) Q E s:=
 Attribute_any_ h (by rw[arm_eval_Attribute,hb])
inductive NX (K:ι)(H:Hp):V->Γ->Prop where
 |non:NX K H .non (.type "NoneType")
 |bl (x:Bool):NX K H (.bl x) (.type "bool")
 |int (i:Int):NX K H (.int i) (.type "int")
 |str (x:Str):NX K H (.str x) (.type "str")
 |flt (x:UInt64):NX K H (.flt x) (.type "float")
 |lst {a:Δ} {xs:Ε} (e:H a=↑(.lst xs)):NX K H (-a) (.type "list")
 |frz {a:Δ} {o:Obj} {xs:Ε} (e:H a=↑(.frz o (.lst xs))):NX K H (-a) (.type "list")
 |tup {a:Δ} {xs:Ε} (e:H a=↑(.tup xs)):NX K H (-a) (.type "tuple")
 |dK {a:Δ} {kvs:List (qJ×V)} (e:H a=↑(.dK kvs)):NX K H (-a) (.type "dict")
 |dT {a:Δ} {kvs:List (List qJ×V)} (e:H a=↑(.dT kvs)):NX K H (-a) (.type "dict")
 | ins {a C dx:Δ} {fs:List (Str×V)} (e:H a=↑(.ins C dx fs)) (cl:OK K C) (ha:SQ K (-C) "__class__"=↑(↑(.builtin "object.__class__")))
   (hn:PySem.W.specialIn K (.builtin "object.__class__") "__get__"=↑(↑(.builtin "getset_descriptor.__get__"))) (htk:PySem.W.takesIn K (.builtin "object.__class__")=↑true)
   (hm:PySem.W.mroIn K C (.type "object")=↑true):NX K H (-a) (-C)
theorem vS(I:HN X R0 σ H s)(d:HV x u)(ty:NX X.K H x t)(e:W.kitOne X.K t c=↑b)(h:∀tk,Q (.bool b) {s with toks:=tk}):
  ε (model X.prog X.w) A (call (.builtin "isinstance") [u,c]) Q E s:=by
 cases ty with
 |non=>cases(show u=Γ.none from d);exact J8 W.kitx_none I.kIn P5 e (λz=>nomatch z) h
 |bl y=>cases(show u=Γ.bool y from d);exact J8 W.kitx_bool I.kIn P5 e (λz=>nomatch z) h
 |int i=>let#[t,q]:=(show∃t,u=Γ.int i t from d);cases q;exact J8 W.kitx_int I.kIn P5 e (λz=>nomatch z) h
 |str y=>let#[t,q]:=(show∃t,u=Γ.str y t from d);cases q;exact J8 W.kitx_str I.kIn P5 e (λz=>nomatch z) h
 |flt y=>let#[t,q]:=(show∃t,u=Γ.float y t from d);cases q;exact J8 W.kitx_float I.kIn P5 e (λz=>nomatch z) h
 | @lst a xs ea=>
  cases(show u=Γ.ref a from d)
  let#[_,_,n,_,h1]:=(show ML X.prog X.w H s.heap a (.lst xs)from I.hok a _ ea)
  exact J8 TQ I.kIn #[_,h1,Z] e (λz=>nomatch z) h
 | @frz a ob xs ea=>
  cases(show u=Γ.ref a from d)
  let#[_,_,_,n,_,h1]:=(show ML X.prog X.w H s.heap a (.frz ob (.lst xs))from I.hok a _ ea)
  exact J8 TQ I.kIn #[_,h1,Z] e (λz=>nomatch z) h
 | @tup a xs ea=>
  cases(show u=Γ.ref a from d)
  let#[_,_,_,p]:=(show ML X.prog X.w H s.heap a (.tup xs)from I.hok a _ ea)
  let#[o,h1,f,_]:=p;exact J8 W.kitx_tuple I.kIn #[o,h1,f] e (λz=>nomatch z) h
 | @dK a kvs ea=>
  cases(show u=Γ.ref a from d)
  let#[_,_,vs,_,p]:=(show ML X.prog X.w H s.heap a (.dK kvs)from I.hok a _ ea)
  let#[o,es,ep,h1,f,_]:=p;exact J8 W.kitx_dict I.kIn #[o,h1,f.1] e (λz=>nomatch z) h
 | @dT a kvs ea=>
  cases(show u=Γ.ref a from d)
  let#[_,_,xs,_,o,es,ep,h1,f,_]:=(show ML X.prog X.w H s.heap a (.dT kvs)from I.hok a _ ea)
  exact J8 W.kitx_dict I.kIn #[o,h1,f.1] e (λz=>nomatch z) h
 | @ins a C dx fs ea cl ha hn htk hm=>
  cases(show u=Γ.ref a from d)
  let#[mA,O,_]:=gB I.hok ea;let#[od,J,_]:=O.look;exact J8 (W.kitx_own (cl.get _) cl.hd ha hn htk hm) I.kIn J e (λz=>nomatch z) h
end
structure MK(k:Nat)(A:Rj):Prop where
 hd:A.handled=none
 dp:A.depth+3*k+5<recursionLimit
 un:A.units+16*k+200<cLine
theorem MK.mono{j k:Nat}(r:MK k A)(h:j<=k):MK j A:=#[r.hd,by have:=r.dp;lia,by have:=r.un;lia]
theorem MK.mo{j k:Nat}(r:MK k A)(h:j<=k:=by first|decide|omega):MK j A:=r.mono h
theorem MK.deeper{k:Nat}(r:MK (k+1) A)(a:Env):MK k (A.deeper a):=
 #[r.hd,by have:=r.dp;show A.depth+1+3*k+5<_;lia,by have:=r.un;show A.units+3+16*k+200<_;lia]
theorem uv{A:Rj}{us:Ζ}{a:List (Str×Γ)}:(A.under (.builtin "type.__call__" #[.ref C::us,a])).depth=A.depth+1:=by
 first|rfl|simp [Around.under,Code.weight,Code.isCreation,Code.isGuard,Code.isCaller,Code.frames,Code.isFrame,guardIds]
theorem vh{A:Rj}{us:Ζ}{a:List (Str×Γ)}:(A.under (.builtin "type.__call__" #[.ref C::us,a])).units=A.units+1:=by
 first|rfl|simp [Around.under,Code.cUnits,Code.frames,Code.isFrame]
theorem MK.make{k:Nat}(r:MK (k+1) A)(C:Δ)(us:Ζ)(a:List (Str×Γ)):MK k (A.under (.builtin "type.__call__" #[.ref C::us,a])):=
 #[r.hd,by have:=r.dp;rw[uv];lia,by have:=r.un;rw[vh];lia]
theorem MK.depth{k:Nat}(r:MK k A):A.depth<recursionLimit:=by have:=r.dp;lia
theorem MK.units{k:Nat}(r:MK k A):A.units+64<cLine:=by have:=r.un;lia
def Ad:TA:=λ_ H Q=>Q [] H
def um(ta:TE)(a:TA):TA:=λσ H Q=>ta σ H λx H1=>a σ H1 λxs c=>Q (x::xs) c
section
theorem Ek:PA X [] Ad:=λ_ _ _ _ H Q I h=>Sw #[[],H,I,.nil,h]
theorem CF(ha:PE X e te)(hr:PA X es t)(hs:θ (e::es) X.env=(false,eval e X.env)::θ es X.env:=by rfl):PA X (e::es) (um te t):=by
 intro pos R0 s σ H Q I h;rw[hs]
 show ε _ _ (spliced ((false,eval e X.env)::backTo pos (θ es X.env))) _ _ s
 refine So (qz (ha R0 s σ H _ I h) λu f c=>?_)
 let#[x,H1,m,j,g]:=c;exact qz (hr pos R0 f σ H1 _ m g) λo n ⟨xs,i,d,l,a⟩=>#[x::xs,i,d,.cons j l,a]
noncomputable def E7(t:TA):TE:=λσ H Q=>t σ H λxs H1=>xs.length<=ζ/\∀p,H1 p=none->Q (-p) (HM H1 p (.tup xs))
noncomputable def Fi(t:TA):TE:=λσ H Q=>t σ H λxs H1=>xs.length<=ζ/\∀p,H1 p=none->Q (-p) (HM H1 p (.lst xs))
theorem ER{x1}(h:PA X es t):PE X (.Tuple es x1 pos) (E7 t):=by
 intro R0 s σ H Q I g;refine wpAny_Tuple_spliced (qz (h pos R0 s σ H _ I g) λd a ⟨xs,H1,c,r,z,q⟩=>#[by rw[<- r.length];exact z,?_])
 have f:H1 a.heap.objs.size=none:=c.hok.fresh (Jf _)
 refine#[-a.heap.objs.size,HM H1 a.heap.objs.size (.tup xs),c.laid (t':=a.toks) (λb u e=>Jk _ e) (Jf _) ?_,Z,q _ f]
 exact#[z,d,r,#[_,Jp _ Z,8]]
theorem E3(h:PA X es t):PE X (.List es pos) (Fi t):=by
 intro R0 s σ H Q I g;refine wpAny_List_spliced (qz (h pos R0 s σ H _ I g) λd a ⟨xs,H1,c,r,z,q⟩=>#[by rw[<- r.length];exact z,?_])
 have f:H1 a.heap.objs.size=none:=c.hok.fresh (Jf _)
 refine#[-a.heap.objs.size,HM H1 a.heap.objs.size (.lst xs),c.laid (t':=a.toks) (λb u e=>Jk _ e) (Jf _) ?_,Z,q _ f]
 exact#[z,d,(0),r,Jp _ Z]
end
abbrev Sp:=Ε->Hp->VK->XK->Prop
abbrev hJ:=Τ->Hp->Θ->XK->Γ->Θ->Prop
structure Oq(P:Ξ)(w:Ω)(K:ι)(mg:HH)(base:Ψ)(A:Rj)(outer:Τ)(s:Θ)(H:Hp):Prop where
 frames:A.frames=↑outer
 mod:RT K mg base
 bs:∀b o,base.get? b=↑o->s.heap.get? b=↑o/\H b=none
 bsz:base.objs.size<=s.heap.objs.size
 funs:s.heap.FunFrames base outer
 frf:∀b∈cJ outer,H b=none
 hok:NW P w H s.heap
 bare:AllBare s.gens
def CE(a:Τ)(P:Ξ)(w:Ω)(H:Hp)(s:Θ)(Q:VK)(u:Γ)(s':Θ):Prop:=
 ∃v H',s'.os=s.os/\AllBare s'.gens/\Un (cJ a) [] H H' s.heap s'.heap/\NW P w H' s'.heap/\HV v u/\Q v H'
def CR(CX:hJ)(a:Τ)(P:Ξ)(w:Ω)(H:Hp)(s:Θ)(Q:VK)(E:XK)(r:Result)(s':Θ):Prop:=
 match r with
 | .ok (.ret u)=>CE a P w H s Q u s'
 | .ok _=>False
 | .error e=>CX a H s E e s'
structure NU(P:Ξ)(w:Ω)(K:ι)(mg:HH)(base:Ψ)(CX:hJ)(k:Nat)(f:Δ)(fd:FuncData)(ps:Α)(sp:Sp):Prop where
 len:∀vs H Q E,sp vs H Q E->vs.length=ps.length
 run:∀(A:Rj) (outer:Τ) (s:Θ) (H:Hp) (args:Args) (us:Ζ) (vs:Ε) (Q:VK) (E:XK),MK k A->Oq P w K mg base A outer s H->BindsTo s fd args (ps.zip us)->HS vs us->sp vs H Q E->
  codeAny (model P w) A (.call (-f) args) (CR CX outer P w H s Q E) s
theorem Oq.make{K:ι}(e:Oq P w K mg base A a s H)(C:Δ)(us:Ζ)(c:List (Str×Γ)):
  Oq P w K mg base (A.under (.builtin "type.__call__" #[.ref C::us,c])) a s H:=#[by first|exact e.frames|(simpa [Around.under,Code.envs,Code.isFrame,pushEnvs]using e.frames),e.mod,e.bs,e.bsz,e.funs,e.frf,e.hok,e.bare]
section
theorem HN.env0(I:HN X R0 σ H s):Oq X.prog X.w X.K X.mg X.base X.A X.stack s H:=
 #[I.ok.frames,I.ok.mod,I.bs,JN I.ok.bsz I.sz,I.stack,I.stkFree,I.hok,I.bare]
theorem HN.after(I:HN X R0 σ H s)(h:CE X.stack X.prog X.w H s Q u s'):EP X R0 σ Q u s':=by
 let#[v,H',f,a,un,c,r,q]:=h;let#[i,g,d,t,e]:=s'
 obtain rfl:e=s.os:=f
 exact#[v,H',I.call (h':=i) (g':=g) (d':=d) (t':=t) (ch:=[]) un c a (λb z=>absurd z (by simp)),r,q]
end
noncomputable def uT(sp:Sp)(dvs:Ε)(E:XK)(t:TA):TE:=λσ H Q=>t σ H λvs H1=>sp (vs++dvs) H1 Q E
noncomputable def Cp(C:Δ)(sp:Sp)(dvs:Ε)(E:XK)(t:TA):TE:=λσ H Q=>t σ H λvs H1=>∀x dx,H1 x=none->H1 dx=none->dx≠x->
 sp (.ref x::(vs++dvs)) (HM (HM H1 dx (.own x)) x (.ins C dx [])) (λv a=>v= .non/\Q (-x) a) E
def NH(K:ι)(fd:FuncData)(ps:Α)(ds:Ζ):Prop:=
 ∀(s:Θ) (a:Ζ),K.In s.heap->(a++ds).length=ps.length->BindsTo s fd #[a,[]] (ps.zip (a++ds))
theorem NH.all{K:ι}{fd:FuncData}{ps:Α}(h:∀a:Ζ,a.length=ps.length->bindArgs fd #[a,[]]=pure (ps.zip a)):NH K fd ps []:=λs a _ c=>by
 rw[Ic]at c⊢;exact .of_eq (h a c)
def gj(CX:hJ)(X:Cx)(E:XK):Prop:=∀(R0:HI) (σ:St) (H:Hp) (s:Θ) (e:Γ) (s':Θ),HN X R0 σ H s->CX X.stack H s E e s'->X.xe e s'
section
variable{k:Nat}
theorem pj(F:NU X.prog X.w X.K X.mg X.base CX k f fd ps sp)(hr:MK k X.A)(hb:NH X.K fd ps ds)(hd:HS dvs ds)(hx:gj CX X E)
  (I:HN X R0 σ H s)(r:HS vs us)(h:sp (vs++dvs) H Q E):ε (model X.prog X.w) X.A (call (-f) us) (EP X R0 σ Q) X.xe s:=by
 have c:HS (vs++dvs) (us++ds):=r.append hd
 have d:(us++ds).length=ps.length:=by rw[<- c.length];exact F.len _ _ _ _ h
 refine wpAny_call (Lm (F.run X.A X.stack s H #[us,[]] (us++ds) (vs++dvs) Q E hr I.env0 (hb s us I.kIn d) c h) λr s' a=>?_)
 cases r with
 |error e=>exact hx R0 σ H s e s' I a
 |ok fl=>
  cases fl with
  |ret u=>exact I.after a
  |next=>exact False.elim a
  |brk=>exact False.elim a
  |cont=>exact False.elim a
theorem CD(F:NU X.prog X.w X.K X.mg X.base CX k f fd ps sp)(hr:MK k X.A)(hg:Gl X x)(hm:X.mg x=↑(-f))(hk:TK X.K (-f)=true)(hb:NH X.K fd ps ds)(hd:HS dvs ds)(hx:gj CX X E)
  (ha:PA X (e::es) t)(hdb:(x==("__debug__":Str))=false:=by decide)(he:θ (e::es) X.env=(false,eval e X.env)::θ es X.env:=by rfl)(hpl:(backTo pos (θ es X.env)).any (·.1)=false:=by rfl):
  PE X (.Call (.Name x p) (e::es) [] pos) (uT sp dvs E t):=by
 intro R0 s σ H Q I h;refine L4 (jO I hg hm ?_ hdb)
 refine W.callWith_K (h₀:=X.base) I.ok.mod.kin hk (qz (ha pos R0 s σ H _ I h) λd c ⟨vs,H1,a,r,q⟩=>#[a.kIn,?_]) he hpl
 exact pj F hr hb hd hx a r q
structure Mk(K:ι)(C f:Δ):Prop where
 makes:PySem.W.makesIn K C=true
 init:SQ K (-C) "__init__"=↑(↑(-f))
 fn:PySem.W.isFn K (-f)=true
 kp:SR K (-C)=true
theorem Bl{Q:VK}(M:Mk X.K C f)(F:NU X.prog X.w X.K X.mg X.base CX k f fd ps sp)(hr:MK (k+1) X.A)(hb:NH X.K fd ps ds)(hd:HS dvs ds)
  (hx:gj CX X E)(I:HN X R0 σ H s)(r:HS vs us)
  (h:∀x dx,H x=none->H dx=none->dx≠x->sp (.ref x::(vs++dvs)) (HM (HM H dx (.own x)) x (.ins C dx [])) (λv m=>v= .non/\Q (-x) m) E):
  ε (model X.prog X.w) X.A (call (-C) us) (EP X R0 σ Q) X.xe s:=by
 have g:=h (s.heap.objs.size+1) s.heap.objs.size (I.hok.fresh (IL _)) (I.hok.fresh (Jf _)) (Jm (G0 _));have c:=HN.made (C:=C) I
 have d:HS (V.ref (s.heap.objs.size+1)::(vs++dvs)) (Γ.ref (s.heap.objs.size+1)::(us++ds)):= .cons Z (r.append hd)
 have j:(Γ.ref (s.heap.objs.size+1)::us++ds).length=ps.length:=by
  have e:=d.length;rw[F.len _ _ _ _ g]at e;exact e.symm
 refine wpAny_call (Be (f:=f) I.kIn M.makes M.init (J7.mp M.fn) (Lm (F.run _ X.stack _ _ #[Γ.ref (s.heap.objs.size+1)::us,[]] (Γ.ref (s.heap.objs.size+1)::(us++ds)) _ _ E (hr.make C us [])
  (c.env0.make C us []) (hb _ (Γ.ref (s.heap.objs.size+1)::us) c.kIn j) d g) λr s' a=>?_))
 cases r with
 |error e=>exact hx R0 σ _ _ e s' c a
 |ok fl=>
  cases fl with
  |ret u=>
   let#[v,H',i,l,n,o]:=c.after a;subst n
   exact#[l,#[V.ref (s.heap.objs.size+1),H',i,Z,o]]
  |next=>exact False.elim a
  |brk=>exact False.elim a
  |cont=>exact False.elim a
theorem C9(M:Mk X.K C f)(F:NU X.prog X.w X.K X.mg X.base CX k f fd ps sp)(hr:MK (k+1) X.A)(hg:Gl X x)(hm:X.mg x=↑(-C))(hb:NH X.K fd ps ds)(hd:HS dvs ds)(hx:gj CX X E)
  (ha:PA X (e::es) t)(hdb:(x==("__debug__":Str))=false:=by decide)(he:θ (e::es) X.env=(false,eval e X.env)::θ es X.env:=by rfl)(hpl:(backTo pos (θ es X.env)).any (·.1)=false:=by rfl):
  PE X (.Call (.Name x p) (e::es) [] pos) (Cp C sp dvs E t):=by
 intro R0 s σ H Q I h;refine L4 (jO I hg hm ?_ hdb)
 refine W.callWith_K (h₀:=X.base) I.ok.mod.kin M.kp (qz (ha pos R0 s σ H _ I h) λd c ⟨vs,H1,a,r,q⟩=>#[a.kIn,?_]) he hpl
 exact Bl M F hr hb hd hx a r q
end
structure HK(N P:Α)(sc:Scope):Prop where
 kind:sc.kind= .function
 co:sc.isCoroutine=false
 gen:sc.isGenerator=false
 nd:N.Nodup
 pre:N.take P.length=P
 par:∀x∈P,sc.names.lookup x=some .local\/sc.names.lookup x=some .cell
 nofree:∀y∈sc.names,y.2≠ .free
theorem ly{a:Str->Option NameKind}{x:Str}:∀{binds:List (Str×Γ)} {m:HH},(∀v,(x,v)∉binds)->bindL a binds m x=m x
 | [],_,_=>rfl
 |(n,v)::r,m,h=>by
  unfold bindL;rw[ly λw c=>h w (Jv _ c)]
  split
  .have:x≠n:=by rintro rfl;exact h v Jr
   simp [this]
  .rfl
theorem km{a:Str->Option NameKind}{x:Str}:∀{binds:List (Str×Γ)} {m:HH},(∀v,(x,v)∉binds)->bindC a binds m x=m x
 | [],_,_=>rfl
 |(n,v)::r,m,h=>by
  unfold bindC;rw[km λw c=>h w (Jv _ c)]
  split
  .rfl
  .have:x≠n:=by rintro rfl;exact h v Jr
   simp [this]
theorem kY{a:Str->Option NameKind}{x:Str}{v:Γ}:∀{P:Α} {vs:Ζ} {i:Nat} {m:HH},P.Nodup->P[i]? =↑x->vs[i]? =↑v->a x=some .local->
  bindL a (P.zip vs) m x=↑v
 | [],_,_,_,_,h,_,_=>by simp at h
 |_::_,[],_,_,_,_,h,_=>by simp at h
 |p::P,w::vs,0,m,nd,h1,h2,hk=>by
  simp at h1 h2;subst h1;subst h2
  show bindL a ((p,w)::P.zip vs) m p=_
  unfold bindL;rw[ly λv c=>(IG.mp nd).1 (Ko c).1,Jc hk]
  simp
 |p::P,w::vs,i+1,m,nd,h1,h2,hk=>by
  show bindL a ((p,w)::P.zip vs) m x=_
  unfold bindL;exact kY (i:=i) (IG.mp nd).2 (by simpa using h1) (by simpa using h2) hk
theorem ki{a:Str->Option NameKind}{x:Str}{v:Γ}:∀{P:Α} {vs:Ζ} {i:Nat} {m:HH},P.Nodup->P[i]? =↑x->vs[i]? =↑v->a x≠some .local->
  bindC a (P.zip vs) m x=↑v
 | [],_,_,_,_,h,_,_=>by simp at h
 |_::_,[],_,_,_,_,h,_=>by simp at h
 |p::P,w::vs,0,m,nd,h1,h2,hk=>by
  simp at h1 h2;subst h1;subst h2
  show bindC a ((p,w)::P.zip vs) m p=_
  unfold bindC;rw[km λv c=>(IG.mp nd).1 (Ko c).1,Jb hk]
  simp
 |p::P,w::vs,i+1,m,nd,h1,h2,hk=>by
  show bindC a ((p,w)::P.zip vs) m x=_
  unfold bindC;exact ki (i:=i) (IG.mp nd).2 (by simpa using h1) (by simpa using h2) hk
def Zq(N:Α)(vs:Ε):St:=vs.map some++Dj (N.length-vs.length) none
noncomputable def cr(CX:hJ)(P:Ξ)(w:Ω)(K:ι)(mg:HH)(base:Ψ)(N:Α)(R1:Str)(a:Scope)(f:Δ)(cd:Γ)(A:Rj)(outer:Τ)(s:Θ)(H:Hp)(E:XK):Cx where
 prog:=P
 w:=w
 K:=K
 mg:=mg
 base:=base
 A:=A.deeper (envOfC R1 a s.heap.objs.size f cd)
 N:=N
 s₀:=s
 H₀:=H
 env:=envOfC R1 a s.heap.objs.size f cd
 outer:=outer
 stack:=envOfC R1 a s.heap.objs.size f cd::outer
 ex:=[]
 calm:=true
 fn:=λ_=>true
 pn:=[]
 xe:=λe s'=>ε (model P w) (A.deeper (envOfC R1 a s.heap.objs.size f cd)) (leaving (envOfC R1 a s.heap.objs.size f cd) e) (λ_ c=>CX outer H s E e c) (λe' c=>CX outer H s E e' c) s'
theorem mK{a:Scope}{n:Nat}(h:a.names.lookup x=some .cell):∃c,(cellsFrom n a.names []).lookup x=↑c:=by
 have q:=W.cellsFrom_some a.names n [] (.inl h);exact L5.mp q
theorem xu{K:ι}{R1:Str}{f:Δ}{cd:Γ}{A:Rj}{vs:Ε}
  (S:HK N ps d)(hd:A.handled=none)(l:Oq P w K mg base A g s H)(hl:vs.length=ps.length)(r:HS vs us)
  (x:InCallC s s.heap.objs.size (bindL (envOfC R1 d s.heap.objs.size f cd).kindOf (ps.zip us) λ_=>none) (cellsFrom (s.heap.objs.size+1) d.names []) (bindC (envOfC R1 d s.heap.objs.size f cd).kindOf (ps.zip us) λ_=>none) D):
  HN (cr CX P w K mg base N R1 d f cd A g s H E) [] (Zq N vs) H D:=by
 have F:ps.length<=N.length:=by have:=J0 List.length S.pre;rw[G5]at this;lia
 let#[h1,tk,rfl,hk]:=x.done;have o:∀b:Δ,b∉(cr CX P w K mg base N R1 d f cd A g s H E).ex:=λb z=>absurd (show b∈([]:Η)from z) (by simp)
 exists #[l.mod,S.kind,9,Jf _,λy z c h1 j=>?_,λy m=>?_,λy c _ h=>?_,λ_=>hd,Around.frames_deeper l.frames,.inr #[9],λb z=>absurd z (o b),l.bs,l.bsz,λb _ _=>o b,λb z=>absurd z (o b),l.funs,l.frf],
  rfl,l.bare,Un.kept hk,#[_,x.toInCall.ns,λi y v h1 j J=>?_],λy c h=>#[_,x.cell y c h],l.hok.fresh (Jf _),λy c h=>?_,λp t=>absurd (show p∈([]:HI)from t) (by simp),l.hok.kept hk
 .exact name_of_addr x.apart (LB h1) (LB j)
 .have m:d.names.lookup y=some .cell\/d.names.lookup y=some .free:=m
  rcases m with m|m
  .exact mK m
  .exact absurd Z (S.nofree _ (LB m))
 .exact LM (x.above y c (LB h))
 .have hi:i<vs.length:=by
   unfold Zq at j
   by_cases hi:i<vs.length
   .exact hi
   .rw[J9 (by simpa using hi)]at j
    rw[OD]at j;split at j<;>cases j
  have I:vs[i]? =↑v:=by
   unfold Zq at j;rw[J3 (by simpa using hi),Jo]at j
   cases e:vs[i]? with
   |none=>rw[e]at j;cases j
   |some a=>rw[e]at j;cases j;rfl
  let#[u,C,G]:=r.get I;have t:ps[i]? =↑y:=by
   rw[<- S.pre,List.getElem?_take_of_lt (by lia)];exact h1
  have B:ps.Nodup:=by rw[<- S.pre];exact S.nd.sublist (List.take_sublist _ _)
  exists u,G
  rcases S.par y (Ij t)with k|k
  .exact .inl #[k,kY B t C k]
  .let#[c,e]:=mK (n:=s.heap.objs.size+1) k
   refine .inr #[.inl k,c,e,?_]
   have q:=x.cell y c e;rw[ki B t C (by show d.names.lookup y≠_;rw[k];decide)]at q
   exact q
 .exact l.hok.fresh (LM (x.above y c (LB h)))
 .unfold Zq
  show _=N.length
  rw[Jy,Je,OE];lia
theorem FQ{K:ι}{k:Nat}{kV oc:Γ}{od:β}
  {osl:Array Ν}{sp:Sp}(lk:K.lookup f=some #[oc,od,.func (TB name R1 d g a L kV doc pm an cdv ct),osl])(F:W.codeIn K cdv R1=true)(S:HK N ps a)
  (len:∀vs H Q E,sp vs H Q E->vs.length=ps.length)
  (j:∀(A:Rj) (c:Τ) (s:Θ) (H:Hp) (vs:Ε) (Q:VK) (E:XK),MK k (A.deeper (envOfC R1 a s.heap.objs.size f cdv))->sp vs H Q E->
   ∃t,On (cr CX P w K mg base N R1 a f cdv A c s H E) g t/\t {nx:=λ_ H'=>Q .non H',rt:=Q} (Zq N vs) H):
  NU P w K mg base CX (k+1) f (TB name R1 d g a L kV doc pm an cdv ct) ps sp:=by
 refine#[len,λA c s H G us vs Q E B p Y r z=>?_]
 have hl:=len _ _ _ _ z;have M:K.In s.heap:=p.mod.kin.keeps λb o e=>(p.bs b o e).1
 have C:s.heap.NoLimit:=p.mod.nolimit.keeps λb o e=>(p.bs b o e).1
 have i:∀y∈ps.zip us,a.names.lookup y.1=some .local\/(a.names.lookup y.1=some .cell/\((cellsFrom (s.heap.objs.size+1) a.names []).lookup y.1).isSome=true):=λ⟨n,v⟩ X=>by
  rcases S.par n (Ko X).1 with q|q
  .exact .inl q
  .exact .inr #[q,W.cellsFrom_some _ _ _ (.inl q)]
 refine codeAny_call_function B.depth (M _ _ lk) Z S.co S.gen Z (W.codeRec_of M F) (Y _ _ _ _ ?_)
 refine wpAny_newFunctionEnv_cells S.kind i λT U O x=>?_
 subst U;refine#[C.keeps x.toInCall.keep,codeAny_func ?_]
 let#[t,ht,hq]:=j A c s H vs Q E (B.deeper _) z
 have I:HN (cr CX P w K mg base N R1 a f cdv A c s H E) [] (Zq N vs) H O:=xu S B.hd p hl r x
 refine Jx (ht [] O (Zq N vs) H _ I hq) (λR s' l=>?_) λe s' l=>l
 have m:∀{h:St} {H':Hp} {v:V} {u:Γ},HN (cr CX P w K mg base N R1 a f cdv A c s H E) [] h H' s'->HV v u->Q v H'->CE c P w H s Q u s':=
  λ{h H' v u} J D q=>#[v,H',J.os,J.bare,J.base,J.hok,D,q]
 cases R with
 |ret u=>
  let#[v,h,H',J,D,q]:=l;exact m J D q
 |next=>
  let#[h,H',J,q]:=l;exact m (v:=V.non) (u:=Γ.none) J Z q
 |brk=>
  let#[_,_,_,q]:=l;exact False.elim q
 |cont=>
  let#[_,_,_,q]:=l;exact False.elim q
section
variable{X:Cx}{x:Str}{e:Φ}{es:Ι}{t:TA}{id:String}{r:Ε->Hp->VK->Prop}
def BU(r:Ε->Hp->VK->Prop)(t:TA):TE:=λσ H Q=>t σ H λvs H1=>r vs H1 Q
theorem AU(hc:zj X (.builtin id) r)(hg:Gl X x)(hm:X.mg x=none)(hv:bootBuiltins x=↑(.builtin id))(ha:PA X (e::es) t)(hn:x≠"__name__":=by decide)(hdb:(x==("__debug__":Str))=false:=by decide)
  (he:θ (e::es) X.env=(false,eval e X.env)::θ es X.env:=by rfl)(hpl:(backTo pos (θ es X.env)).any (·.1)=false:=by rfl):PE X (.Call (.Name x p) (e::es) [] pos) (BU r t):=by
 intro R0 s σ H Q I h;refine L4 (Zp I hg hm hv ?_ hn hdb)
 exact PyProof.Rows.callWith_builtin1 (qz (ha pos R0 s σ H _ I h) λa c ⟨vs,H1,g,f,d⟩=>hc R0 c σ H1 vs a Q g f d) he hpl
theorem wx(hc:zj X (.type T) r)(hg:Gl X x)(hm:X.mg x=none)(hv:bootBuiltins x=↑(.type T))(ha:PA X (e::es) t)(hn:x≠"__name__":=by decide)(hdb:(x==("__debug__":Str))=false:=by decide)
  (he:θ (e::es) X.env=(false,eval e X.env)::θ es X.env:=by rfl)(hpl:(backTo pos (θ es X.env)).any (·.1)=false:=by rfl):PE X (.Call (.Name x p) (e::es) [] pos) (BU r t):=by
 intro R0 s σ H Q I h;refine L4 (Zp I hg hm hv ?_ hn hdb)
 exact Le (qz (ha pos R0 s σ H _ I h) λa c ⟨vs,H1,g,f,d⟩=>hc R0 c σ H1 vs a Q g f d) he hpl
end
end L2
namespace HT
open PySem PyProof.Rows
section
theorem cat_tup{b:Δ}{vs a:Ζ}{Q:HG}(u:IsTup s.heap t vs.toArray)(hb:IsTup s.heap b a.toArray)(hv:vs≠[])
  (h1:a=[]->Q (-t) s)(h2:a≠[]->Q (-s.heap.objs.size) {s with heap:=s.heap.push {cls:= .type "tuple",data:= .seq (vs++a).toArray}})
  (hsz:vs.length+a.length<=ζ):ε (model prog w) A (binaryOp .Add (-t) (-b)) Q E s:=by
 let#[#[cls,r,data,o],i,q,n,p]:=id u;let#[#[m,g,l,d],c,h,n2,f]:=id hb;simp only at q p h f
 subst q p h f;have e:vs.toArray++a.toArray=(vs++a).toArray:=by simp
 by_cases j:a=[]
 .exact concat_meets #[_,i,Z] #[_,c,Z] noFill_tuple_add seq_tuple_add Mr Ms (Mu _ _)
   (tuple_addW1 t b vs.toArray a.toArray n n2 r g o d (by simpa using hv) (by simp [j])) #[i,c,h1 j]
 .refine concat_meets #[_,i,Z] #[_,c,Z] noFill_tuple_add seq_tuple_add Mr Ms (Mu _ _)
   (tuple_addW2 t b vs.toArray a.toArray n n2 r g o d (by simpa using hv) (by simpa using j) (by rw[Js,Js];exact hsz)) #[i,c,?_]
  rw[e];exact h2 j
noncomputable def sIx(n d:Nat):Λ->Nat
 |none=>d
 |some v=>if v<0 then(v+(n:Int)).toNat else min v.toNat n
theorem EE(n d:Nat)(hd:d<=n)(o:Λ):sIx n d o<=n:=by
 cases o with
 |none=>exact hd
 |some v=>
  show(if v<0 then(v+(n:Int)).toNat else min v.toNat n)<=n
  by_cases a:v<0
  .rw[Jc a];lia
  .rw[Jb a];exact OF _ _
theorem sO(v:Int)(n d:Nat):(if v<0 then max (v+(n:Int)) 0 else min v (n:Int))=((sIx n d ↑v:Nat):Int):=by
 show(if v<0 then max (v+(n:Int)) 0 else min v (n:Int))=(((if v<0 then(v+(n:Int)).toNat else min v.toNat n):Nat):Int)
 by_cases a:v<0
 .simp only[Jc a];lia
 .simp only[Jb a];lia
theorem ux(lo hi:Λ)(n:Nat):γ.Slice.sliceAdjust lo hi 1 (n:Int)=(((sIx n 0 lo:Nat):Int),((sIx n n hi:Nat):Int)):=by
 have h1:¬((1:Int)<0):=by lia
 unfold γ.Slice.sliceAdjust;simp only[h1,JH];refine Prod.ext ?_ ?_
 .cases lo with
  |none=>rfl
  |some v=>exact sO v n 0
 .cases hi with
  |none=>rfl
  |some v=>exact sO v n n
theorem tQ(i j:Nat):γ.Slice.slicePlaces (i:Int) (j:Int) 1=j-i:=by
 unfold γ.Slice.slicePlaces;have h1:(1:Int)>0:=by lia
 simp only[h1,Io,Int.ediv_one];split<;>lia
theorem jk{Q:Λ->Θ->Prop}(p:IsPart v o)(h:Q o s):ε (model prog w) A (γ.Slice.slicePartIndex v) Q E s:=by
 cases p with
 |none=>exact slicePart_none h
 |int i t=>exact slicePart_int h
theorem sliceApplied_gen{lo:Λ}{n:Nat}{Q:Int×Int×Nat->Θ->Prop}(hs:s.heap.IsSliceOf f e d .none)(pl:IsPart e lo)(i:IsPart d hi)
  (h:Q (((sIx n 0 lo:Nat):Int),1,sIx n n hi-sIx n 0 lo) s):ε (model prog w) A (γ.Slice.sliceApplied (-f) (pure (n:Int))) Q E s:=by
 let#[j,c,g,a]:=id hs;unfold γ.Slice.sliceApplied γ.Slice.sliceFields;refine Ja (Ja (JX c a (x:=e) Z (Ja (JX c a (x:=d) Z (Ja (JX c a (x:= .none) Z (Jd ?_)))))))
 refine Ja (slicePart_none ?_)
 show ε _ _ (if((1:Int)==0)=true then _ else _) _ _ s
 rw[Jb ⋯]
 refine Ja (jk pl (Ja (jk i (Ja (Jd ?_)))))
 show ε _ _ (match γ.Slice.sliceAdjust lo hi 1 (n:Int)with|(lo,hi)=>pure (lo,(1:Int),γ.Slice.slicePlaces lo hi 1)) _ _ s
 rw[ux lo hi n]
 show ε _ _ (pure (((sIx n 0 lo:Nat):Int),(1:Int),γ.Slice.slicePlaces ((sIx n 0 lo:Nat):Int) ((sIx n n hi:Nat):Int) 1)) _ _ s
 rw[tQ];exact Jd h
theorem Bf(xs:Array Γ)(i k:Nat):((Ag k).filterMap λ(m:Nat)=>xs[((i:Int)+(m:Int)*1).toNat]?).toArray=((xs.toList.drop i).take k).toArray:=by
 have e:(λ(m:Nat)=>xs[((i:Int)+(m:Int)*1).toNat]?)=λm=>xs[i+m]? :=by
  funext m
  have:((i:Int)+(m:Int)*1).toNat=i+m:=by lia
  rw[this]
 rw[e]
 have:=pick_run xs i k
 rw[KY]at this;have a:((λx=>xs[x]?)∘λx=>i+x)=λm=>xs[i+m]? :=Z
 rw[a]at this;rw[this]
theorem getItem_tuple_cut{lo:Λ}{Q:HG}(c:IsTup s.heap t items)(hs:s.heap.IsSliceOf i l j .none)(pl:IsPart l lo)(p:IsPart j hi)
  (hw:¬(sIx items.size 0 lo=0/\sIx items.size items.size hi=items.size))
  (h:Q (-s.heap.objs.size) {s with heap:=s.heap.push {cls:= .type "tuple",data:= .seq ((items.toList.drop (sIx items.size 0 lo)).take (sIx items.size items.size hi-sIx items.size 0 lo)).toArray}})
  (hsz:items.size<=ζ):ε (model prog w) A (getItem (-t) (-i)) Q E s:=by
 have a:sizeOk (.seq ((items.toList.drop (sIx items.size 0 lo)).take (sIx items.size items.size hi-sIx items.size 0 lo)).toArray):=by
  show((items.toList.drop (sIx items.size 0 lo)).take (sIx items.size items.size hi-sIx items.size 0 lo)).toArray.size<=ζ
  rw[Js,G5,LP,Jq];lia
 have r:sIx items.size items.size hi<=items.size:=EE _ _ (Jf _) hi
 let#[n,g,e,o]:=id hs;have d:s.TypeIs (-i) "slice":=#[n,g,e]
 unfold getItem
 try with_reducible refine JM ?_
 first|refine Ja (Jd ?_)|skip
 refine Ja (wpAny_sequenceKey c.typeIs ⋯ ?_)
 refine Ja (wpAny_callSpecial?_slot (name:=RS "__getitem__") c.typeIs L6
  (JY L6 c.typeIs entry_tuple_getitem ?_ (args_tuple_getitem _ _)))
 show ε _ _ (γ.Tuple.tupleItemsOf (-t) >>= _) _ _ s
 refine Ja (tupleItemsOf_ c ?_)
 refine Ja (LC d ?_)
 rw[Jc ⋯]
 refine Ja (sliceApplied_gen hs pl p ?_)
 have f:¬((((sIx items.size 0 lo:Nat):Int)==0&&(1:Int)==1&&(sIx items.size items.size hi-sIx items.size 0 lo)==items.size)=true):=by
  intro q;rw[JF,JF]at q;have v:((sIx items.size 0 lo:Nat):Int)=0:=eq_of_beq q.1.1
  have u:sIx items.size items.size hi-sIx items.size 0 lo=items.size:=eq_of_beq q.2
  exact hw #[by lia,by lia]
 show ε _ _ (if(((sIx items.size 0 lo:Nat):Int)==0&&(1:Int)==1&&(sIx items.size items.size hi-sIx items.size 0 lo)==items.size)=true then _ else _) _ _ s
 rw[Jb f,Bf]
 first
  |exact Ja (m:=γ.Tuple.tupleExact _) (J6 (Jd ⟨_,rfl,Jd h⟩) a)
  |exact Ja (m:=γ.Tuple.tupleExact _) (J6 (Ja (Jd (Jd ⟨_,rfl,Jd h⟩))) a)
  |exact Ja (Ja (m:=γ.Tuple.tupleExact _) (J6 (Jd (Jd ⟨_,rfl,Jd h⟩)) a))
  |exact Ja (Ja (m:=γ.Tuple.tupleExact _) (J6 (Jd ⟨_,rfl,Jd h⟩) a))
end
end HT
namespace L2
open PySem PySem.Spec PyProof.Rows
abbrev TO:=St->Hp->(Λ->Hp->Prop)->Prop
def PO(X:Cx)(e:μ)(t:TO):Prop:=
 ∀(R0:HI) (s:Θ) (σ:St) (H:Hp) (Q:Λ->Hp->Prop),HN X R0 σ H s->t σ H Q->
  ε (model X.prog X.w) X.A (evalPart e X.env) (λu s'=>∃o H',HN X R0 σ H' s'/\IsPart u o/\Q o H') X.xe s
def sH:TO:=λ_ H Q=>Q none H
def Ch(t:TE):TO:=λσ H Q=>t σ H λx H1=>∃i,x= .int i/\Q ↑i H1
theorem uV{ns:Β}:∀{us:Ζ},HS (ns.map V.int) us->IntsAre us ns:=by
 induction ns with
 |nil=>intro us r;rw[Ln]at r;cases r;exact .nil
 |cons n ns ih=>
  intro us r;rw[JS]at r;cases r with
  |cons r1 r2=>
   let#[t,e]:=r1;subst e;exact .cons n t (ih r2)
section
variable{lo:μ}
theorem CI:PO X none sH:=by
 intro R0 s σ H Q I h;rw[evalPart_none];exact Jd #[none,H,I,.none,h]
theorem CY(h:PE X e te):PO X ↑e (Ch te):=by
 intro R0 s σ H Q I d;rw[evalPart_some];refine qz (h R0 s σ H _ I d) λu j c=>?_
 let#[x,H1,g,a,f]:=c;let#[i,rfl,q]:=f;let#[t,rfl]:=a
 exact#[↑i,H1,g,.int i t,q]
def xt(X:Cx)(r:V->Λ->Λ->Hp->VK->Prop):Prop:=
 ∀(R0:HI) (s:Θ) (σ:St) (H:Hp) (x:V) (v c a:Γ) (lo hi:Λ) (d:Δ) (Q:VK),HN X R0 σ H s->HV x v->s.heap.IsSliceOf d c a .none->IsPart c lo->IsPart a hi->r x lo hi H Q->
  ∃T id,typeLookup (.type T) "__getitem__"=pure ↑(.builtin id)/\s.TypeIs v T/\ε (model X.prog X.w) X.A (getItem v (-d)) (EP X R0 σ Q) X.xe s
noncomputable def Gr(r:V->Λ->Λ->Hp->VK->Prop)(te:TE)(tl th:TO):TE:=λσ H Q=>te σ H λx H1=>tl σ H1 λl c=>th σ c λu a=>r x l u a Q
theorem AK{r:V->Λ->Λ->Hp->VK->Prop}(hr:xt X r)(he:PE X e te)(hl:PO X lo tl)(hu:PO X hi th):PE X (.Subscript e (.Slice lo hi none p2) pos) (Gr r te tl th):=by
 intro R0 s σ H Q I h;refine Subscript_ (qz (he R0 s σ H _ I h) λv E f=>?_)
 let#[x,H1,o,t,D]:=f;refine wpAny_Slice (qz (hl R0 E σ H1 _ o D) λd i ⟨l,C,B,pl,m⟩=>qz (hu R0 i σ C _ B m) λc a f=>?_)
 let#[u,g,z,w,y]:=f;rw[evalPart_none];refine Jd ?_
 have n:HN X R0 σ g {a with heap:=a.heap.push {cls:= .type "slice",data:= .fields (AA [d,c,.none])}}:=z.kept (t':=a.toks) λb F q=>Jk _ q
 let#[T,id,j,A,p]:=hr R0 {a with heap:=a.heap.push {cls:= .type "slice",data:= .fields (AA [d,c,.none])}} σ g x v d c l u a.heap.objs.size Q n t (Ψ.IsSliceOf.new ..) pl w y
 show ε (model X.prog X.w) X.A (subscriptTail e (.Slice lo hi none p2) v (-a.heap.objs.size)) (EP X R0 σ Q) X.xe {a with heap:=a.heap.push {cls:= .type "slice",data:= .fields (AA [d,c,.none])}}
 exact tail_any (ops:=[-a.heap.objs.size,v]) A j p (by with_unfolding_all rfl)
noncomputable def Q4(xs:Ε)(lo hi:Λ):Ε:=(xs.drop (HT.sIx xs.length 0 lo)).take (HT.sIx xs.length xs.length hi-HT.sIx xs.length 0 lo)
theorem hV(xs:Ε)(lo hi:Λ):(Q4 xs lo hi).length<=xs.length:=by
 unfold Q4;rw[G5,LP];lia
inductive RC (K:ι)(x:V)(lo:Λ)(hi:Λ)(H:Hp)(Q:VK):Prop
 |mk (a:_)(xs:_)(h1:x= .ref a)(h2:HX K H a xs)(h3:¬(HT.sIx xs.length 0 lo=0/\HT.sIx xs.length xs.length hi=xs.length))(h4:∀p,H p=none->Q (-p) (HM H p (.tup (Q4 xs lo hi))))
def GA(K:ι):V->Λ->Λ->Hp->VK->Prop:=λx lo hi H Q=>RC K x lo hi H Q
theorem Ft:xt X (GA X.K):=by
 intro R0 s σ H x v u n lo hi p Q I g j pl l h;let#[a,xs,rfl,m,i,q]:=h;cases g;let#[d,r,f,e]:=I.tuple m;have c:d.toArray.size=xs.length:=by rw[Js];exact r.length.symm
 exists "tuple",_,PyProof.Rows.slot_tuple_getitem.lookup,f.typeIs
 refine HT.getItem_tuple_cut f j pl l (by rw[c];exact i) ?_ (by rw[c];exact e)
 rw[c];refine#[-s.heap.objs.size,_,I.laid (t':=s.toks) (o:= .tup (Q4 xs lo hi)) (λb t q=>Jk _ q) (Jf _) ?_,Z,q _ (I.hok.fresh (Jf _))]
 exact#[JN (hV xs lo hi) e,_,(r.drop (HT.sIx xs.length 0 lo)).take (HT.sIx xs.length xs.length hi-HT.sIx xs.length 0 lo),IsTup.new _ _]
inductive Rg (K:ι)(x:V)(y:V)(H:Hp)(Q:VK):Prop
 |mk (a:_)(b:_)(xs:_)(ys:_)(h1:x= .ref a)(h2:y= .ref b)(h3:HX K H a xs)(h4:HX K H b ys)(h5:xs≠[])(h6:xs.length+ys.length<=ζ)(h7:(ys=[]->Q (-a) H))(h8:(ys≠[]->∀p,H p=none->Q (-p) (HM H p (.tup (xs++ys)))))
def F3(K:ι):R2:=λx y H Q=>Rg K x y H Q
theorem HS.nil_iff(r:HS xs us):us=[]↔xs=[]:=by
 cases r with
 |nil=>simp
 |cons _ _=>simp
theorem rY:zx X (binaryOp .Add) (F3 X.K):=by
 intro R0 s σ H x y v u Q I l j h;let#[a,b,xs,ys,rfl,rfl,n,p,t,e,r,m]:=h;cases l;cases j;let#[i,d,g,_]:=I.tuple n;let#[f,c,p2,_]:=I.tuple p;refine HT.cat_tup g p2 (λz=>t (d.nil_iff.mp z)) (λz=>#[-a,H,I,Z,r (c.nil_iff.mp z)]) (λz=>?_) (by rw[<- d.length,<- c.length];exact e)
 refine#[-s.heap.objs.size,_,I.laid (t':=s.toks) (o:= .tup (xs++ys)) (λb A q=>Jk _ q) (Jf _) ?_,Z,m (λw=>z (c.nil_iff.mpr w)) _ (I.hok.fresh (Jf _))]
 exact#[by rw[Jy];exact e,_,d.append c,IsTup.new _ _]
end
noncomputable def cD(n:Nat)(i:Int):Χ:=if 0<=i then(if i<n then ↑i.toNat else none)else if -(n:Int)<=i then some (i+n).toNat else none
def QJ{a:Type}(xs:List a)(i:Int):Option a:=(cD xs.length i).bind λj=>xs[j]?
theorem tP{n:Nat}{j:Nat}(h:cD n i=↑j):seqIndex? i n=↑j/\j<n/\ -(n:Int)<=i/\i<n:=by
 unfold cD at h
 by_cases a:0<=i
 .rw[Jc a]at h
  by_cases h1:i<n
  .rw[Jc h1]at h
   have e:i.toNat=j:=JE h
   exact#[by rw[seqIndex_of a h1,e],by lia,by lia,h1]
  .rw[Jb h1]at h;cases h
 .rw[Jb a]at h
  by_cases h1: -(n:Int)<=i
  .rw[Jc h1]at h
   have e:(i+n).toNat=j:=JE h
   exact#[by rw[seqIndex_neg (by lia) h1,e],by lia,h1,by lia]
  .rw[Jb h1]at h;cases h
theorem sR{a:Type}{xs:List a}{i:Int}{v:a}(h:QJ xs i=↑v):∃j,seqIndex? i xs.length=↑j/\xs[j]? =↑v/\j<xs.length/\ -(xs.length:Int)<=i/\i<xs.length:=by
 unfold QJ at h;cases e:cD xs.length i with
 |none=>rw[e]at h;cases h
 |some j=>
  rw[e]at h;let#[h1,c,f,d]:=tP e
  exact#[j,h1,h,c,f,d]
theorem Qs{a:Type}{xs:List a}{j:Nat}{v:a}(h:xs[j]? =↑v):QJ xs (j:Int)=↑v:=by
 have c:j<xs.length:=(Jw.mp h).1
 have e:cD xs.length (j:Int)=↑j:=by
  unfold cD;rw[Jc (by lia),Jc (by lia)];simp
 unfold QJ;rw[e];exact h
def rO(b:Φ):Prop:=∀o i,subscripted b false o i=operate [o,i] (getItem o i)
def PN(X:Cx)(r:R2):Prop:=
 ∀(value a:Φ) (R0:HI) (s:Θ) (σ:St) (H:Hp) (x y:V) (v u:Γ) (Q:VK),HN X R0 σ H s->HV x v->HV y u->r x y H Q->
  subscripted a false v u=operate [v,u] (getItem v u)->ε (model X.prog X.w) X.A (subscriptTail value a v u) (EP X R0 σ Q) X.xe s
def pL(X:Cx)(id:String)(r:V->Ε->Hp->VK->Prop):Prop:=
 ∀(R0:HI) (s:Θ) (σ:St) (H:Hp) (x:V) (xs:Ε) (v:Γ) (a:Ζ) (Q:VK),HN X R0 σ H s->HV x v->HS xs a->r x xs H Q->
  ε (model X.prog X.w) X.A (call (.builtin id) (v::a)) (EP X R0 σ Q) X.xe s
section
variable{X:Cx}{b:Φ}
theorem PN.or(h:PN X r)(h':PN X e):PN X (λx y H Q=>r x y H Q\/e x y H Q):=by
 intro value a R0 s σ H x y v u Q I d c q f;rcases q with q|q
 .exact h value a R0 s σ H x y v u Q I d c q f
 .exact h' value a R0 s σ H x y v u Q I d c q f
theorem Gf(hr:PN X r)(ha:PE X a ta)(hb:PE X b tb)(hs:rO b):PE X (.Subscript a b pos) (kh r ta tb):=by
 intro R0 s σ H Q I h;exact Subscript_ (AY ha hb I h λv u c x y g f d e q=>hr a b R0 c σ g x y v u Q f d e q (hs _ _))
inductive RD (K:ι)(x:V)(y:V)(H:Hp)(Q:VK):Prop
 |mk (p:_)(xs:_)(i:_)(v:_)(h1:x= .ref p)(h2:y= .int i)(h3:HQ K H p xs)(h4:QJ xs i=↑v)(h5:Q v H)
def EH(K:ι):R2:=λx y H Q=>RD K x y H Q
inductive RE (K:ι)(x:V)(y:V)(H:Hp)(Q:VK):Prop
 |mk (p:_)(xs:_)(i:_)(v:_)(h1:x= .ref p)(h2:y= .int i)(h3:HX K H p xs)(h4:QJ xs i=↑v)(h5:Q v H)
def Ae(K:ι):R2:=λx y H Q=>RE K x y H Q
theorem qF:PN X (EH X.K):=by
 intro value e R0 s σ H x y v u Q I n B h l;let#[p,xs,i,z,rfl,rfl,F,D,q]:=h;cases n;let#[t,rfl]:=B;let#[d,r,pl,K]:=I.list F;let#[j,h1,o,J,C,A]:=sR D;let#[w,m,f]:=r.get o;have E:=r.length;have G:=ai;have a:EP X R0 σ Q w s:=#[z,H,I,f,q]
 by_cases g:0<=i
 .have c:i.toNat=j:=by
   rw[seqIndex_of g A]at h1;exact JE h1
  exact item_listR pl.isList g (by lia) (by rw[c];simpa using m) a l
 .have c:(i+(d.toArray.size:Int)).toNat=j:=by
   rw[seqIndex_neg (by lia) C]at h1
   rw[Js,<- E];exact JE h1
  exact subscriptTail_builtinR (x:=w) pl.isList.typeIs slot_list_getitem.lookup
   (wpAny_getItem_list_neg (Q:=λr s'=>r=w/\EP X R0 σ Q r s') pl.isList (by lia) (by rw[Js]<;>lia) (by lia) (by rw[c];simpa using m) #[Z,a]) l
theorem qN:PN X (Ae X.K):=by
 intro value c R0 s σ H x y v u Q I f g h o;let#[p,xs,i,z,rfl,rfl,m,n,q]:=h;cases f;let#[t,rfl]:=g;let#[e,r,pl,C]:=I.tuple m;let#[j,h1,B,F,E,G]:=sR n;let#[w,A,a]:=r.get B;have l:=r.length;have D:=ai;have d:EP X R0 σ Q w s:=#[z,H,I,a,q]
 exact subscriptTail_builtinR (x:=w) pl.typeIs slot_tuple_getitem.lookup
  (getItem_tuple (j:=j) (Q:=λr s'=>r=w/\EP X R0 σ Q r s') pl (by lia) (by lia) (by rw[Js,<- l];exact h1) (by simpa using A) #[Z,d]) o
theorem vb(its:Ζ)(n j:Nat)(u:Γ):SY (·.setIfInBounds j u) {cls:= .type "list",data:= .seq its.toArray n}={cls:= .type "list",data:= .seq (its.set j u).toArray n}:=by
 simp [SY]
theorem HN.lst(I:HN X R0 σ H s)(h:H p=↑(.lst xs)):
  ∃(its:Ζ) (n:Nat),HS xs its/\s.heap.get? p=some {cls:= .type "list",data:= .seq its.toArray n}/\xs.length<=ζ:=by
 let#[z,its,n,r,e]:=I.hok p _ h
 exact#[its,n,r,e,z]
theorem HN.lstUpd{its its':Ζ}{a:Nat}{f:Obj->Obj}(I:HN X R0 σ H s)(h:H p=↑(.lst xs))
  (ho:s.heap.get? p=some {cls:= .type "list",data:= .seq its.toArray n})(hf:f {cls:= .type "list",data:= .seq its.toArray n}={cls:= .type "list",data:= .seq its'.toArray a})(r:HS ys its')(hz:ys.length<=ζ)(t:Nat):
  HN X R0 σ (HM H p (.lst ys)) {s with heap:=s.heap.update p f,toks:=t}:=by
 have e:(s.heap.update p f).get? p=some {cls:= .type "list",data:= .seq its'.toArray a}:=by
  rw[Lf f ho (by rw[hf]<;>rfl),hf]
 refine I.write (x:=p) (e:=p) (by rw[h];trivial) (.inl Z) (λb u c q=>(LD _ _ (Ne.symm c)).trans q) #[_,e] ?_
 exact#[hz,its',a,r,e]
inductive Rh (o:V)(i:V)(v:V)(H:Hp)(Q:Hp->Prop):Prop
 |mk (p:_)(xs:_)(k:_)(j:_)(h1:o= .ref p)(h2:i= .int k)(h3:H p=↑(.lst xs))(h4:cD xs.length k=↑j)(h5:Q (HM H p (.lst (xs.set j v))))
def FX:V->V->V->Hp->(Hp->Prop)->Prop:=λo i v H Q=>Rh o i v H Q
theorem Q6:mD X FX:=by
 intro R0 s σ H o i v D E u Q I x A y h;let#[p,xs,k,j,rfl,rfl,l,w,q]:=h;cases x;let#[t,rfl]:=A;let#[a,n,r,c,z]:=I.lst l;let#[h1,C,g,m]:=tP w;have d:=r.length;have B:=ai;have f:HN X R0 σ (HM H p (.lst (xs.set j v))) {s with heap:=s.heap.update p (SY (·.setIfInBounds j u))}:=
  I.lstUpd l c (vb a n j u) (r.set y j) (by rw[Lg];exact z) s.toks
 by_cases e:0<=k
 .have hk:k.toNat=j:=by
   rw[seqIndex_of e m]at h1;exact JE h1
  exact W.ki_setAt c e (by lia) (by rw[Js,<- d];exact m) (by rw[hk];exact#[_,f,q])
 .have hk:(k+(a.toArray.size:Int)).toNat=j:=by
   rw[seqIndex_neg (by lia) g]at h1
   rw[Js,<- d];exact JE h1
  exact W.ki_setBack c (by lia) (by rw[Js,<- d];exact g) (by lia) (by rw[hk];exact#[_,f,q])
theorem mE(lo hi:Λ)(n:Nat):(sliceBounds lo hi none n).1=((HT.sIx n 0 lo:Nat):Int)/\(sliceBounds lo hi none n).2.1=((HT.sIx n n hi:Nat):Int)/\(sliceBounds lo hi none n).2.2=1:=by
 refine#[?_,?_,Z]
 .cases lo with
  |none=>simp [sliceBounds,HT.sIx]
  |some i=>
   simp only[sliceBounds,HT.sIx,OG,show(1:Int)>0 by decide,Io]
   by_cases h:i<0
   .simp only[h,Io]<;>lia
   .simp only[h,JH]<;>lia
 .cases hi with
  |none=>simp [sliceBounds,HT.sIx]
  |some i=>
   simp only[sliceBounds,HT.sIx,OG,show(1:Int)>0 by decide,Io]
   by_cases h:i<0
   .simp only[h,Io]<;>lia
   .simp only[h,JH]<;>lia
theorem lP(its:Ζ)(lo hi:Λ):slicePick its.toArray lo hi none=((its.drop (HT.sIx its.length 0 lo)).take (HT.sIx its.length its.length hi-HT.sIx its.length 0 lo)).toArray:=by
 let#[h1,c,a]:=mE lo hi its.toArray.size;unfold slicePick;rw[h1,c,a];simp only[sliceRange_one,pick_run,Js]<;>rfl
inductive RF (K:ι)(x:V)(lo:Λ)(hi:Λ)(H:Hp)(Q:VK):Prop
 |mk (a:_)(xs:_)(h1:x= .ref a)(h2:HQ K H a xs)(h3:∀p,H p=none->Q (-p) (HM H p (.lst (Q4 xs lo hi))))
def GJ(K:ι):V->Λ->Λ->Hp->VK->Prop:=λx lo hi H Q=>RF K x lo hi H Q
theorem gI:xt X (GJ X.K):=by
 intro R0 s σ H x v t m lo hi n Q I g i pl j h;let#[a,xs,rfl,l,q]:=h;cases g;let#[f,r,d,e]:=I.list l;have c:=r.length;exists "list",_,slot_list_getitem.lookup,d.isList.typeIs
 refine wpAny_getItem_list_slice d.isList i pl j .none (by simp) ?_ (by rw[Js]<;>lia)
 rw[lP,<- c];refine#[-s.heap.objs.size,_,I.laid (t':=s.toks) (o:= .lst (Q4 xs lo hi)) (λb p q=>Jk _ q) (Jf _) ?_,Z,q _ (I.hok.fresh (Jf _))]
 exact#[JN (hV xs lo hi) e,_,(0),(r.drop (HT.sIx xs.length 0 lo)).take (HT.sIx xs.length xs.length hi-HT.sIx xs.length 0 lo),Jp _ Z]
noncomputable def BP:V->Bool
 | .non=>true
 | .bl _=>true
 | .int _=>true
 | .str _=>true
 |_=>false
noncomputable def Gq:V->V->Bool
 | .non,.non=>true
 | .bl a,.bl b=>a==b
 | .bl a,.int b=>(if a then 1 else 0)==b
 | .int a,.bl b=>a==(if b then 1 else 0)
 | .int a,.int b=>a==b
 | .str a,.str b=>a==b
 |_,_=>false
theorem EA(e:HV y u)(c:HV x v)(g:BP y=true)(f:BP x=true):SeqAt.EqAt A s u v (Gq y x):=by
 cases y with
 |non=>
  cases e;cases x with
  |non=>cases c;exact SeqAt.EqAt.same _
  |bl b=>cases c;exact SeqAt.EqAt.none_bool b
  |int b=>let#[t,rfl]:=c;exact SeqAt.EqAt.none_int b t
  |str b=>let#[t,rfl]:=c;exact SeqAt.EqAt.none_str b t
  |_=>exact absurd (show false=true from f) JK
 |bl a=>
  cases e;cases x with
  |non=>cases c;exact SeqAt.EqAt.bool_none a
  |bl b=>cases c;exact SeqAt.EqAt.bool_bool a b
  |int b=>let#[t,rfl]:=c;exact SeqAt.EqAt.bool_int a b t
  |str b=>let#[t,rfl]:=c;exact SeqAt.EqAt.bool_str a b t
  |_=>exact absurd (show false=true from f) JK
 |int a=>
  let#[d,rfl]:=e;cases x with
  |non=>cases c;exact SeqAt.EqAt.int_none a d
  |bl b=>cases c;exact SeqAt.EqAt.int_bool a d b
  |int b=>let#[t,rfl]:=c;exact Ss a d b t
  |str b=>let#[t,rfl]:=c;exact SeqAt.EqAt.int_str a d b t
  |_=>exact absurd (show false=true from f) JK
 |str a=>
  let#[d,rfl]:=e;cases x with
  |non=>cases c;exact SeqAt.EqAt.str_none a d
  |bl b=>cases c;exact SeqAt.EqAt.str_bool a d b
  |int b=>let#[t,rfl]:=c;exact SeqAt.EqAt.str_int a d b t
  |str b=>let#[t,rfl]:=c;exact SeqAt.EqAt.str_str a d b t
  |_=>exact absurd (show false=true from f) JK
 |_=>exact absurd (show false=true from g) JK
theorem qT:zj X (.builtin "len") (λxs H Q=>∃p ys,xs=[-p]/\(HQ X.K H p ys\/HX X.K H p ys)/\Q (.int ys.length) H):=by
 intro R0 s σ H xs j Q I r h;let#[p,ys,rfl,c,q]:=h;let#[u,rfl,g]:=zT r;cases g;have i:=ai;rcases c with c|c
 .let#[d,e,pl,f]:=I.list c
  have a:=e.length;exact Calls.call_len_list pl.isList (by simp only[Js]<;>lia) #[.int ys.length,H,I.tok _,#[s.toks+1,by rw[Js,a]],q]
 .let#[d,e,pl,f]:=I.tuple c
  have a:=e.length;exact len_tuple pl (by simp only[Js]<;>lia) #[.int ys.length,H,I.tok _,#[s.toks+1,by rw[Js,a]],q]
theorem pP:zj X (.builtin "len") (λxs H Q=>∃z,xs=[.str z]/\z.length<=ζ/\Q (.int z.length) H):=by
 intro R0 s σ H xs d Q I r h;let#[z,rfl,c,q]:=h;let#[u,rfl,t,rfl]:=zT r;have a:=ai;exact len_str (by lia) #[.int z.length,H,I.tok _,#[0],q]
theorem fT:zj X (.type "list") (λxs H Q=>∃p ys,xs=[-p]/\(HQ X.K H p ys\/HX X.K H p ys)/\∀l,H l=none->Q (-l) (HM H l (.lst ys))):=by
 intro R0 s σ H xs x Q I r h;let#[p,ys,rfl,g,q]:=h;let#[u,rfl,w]:=zT r;cases w;have j:∀(a:Ζ),HS ys a->ys.length<=ζ->∀(h':Ψ) (c':Nat),(∀b o',s.heap.get? b=↑o'->h'.get? b=↑o')->
   h'.get? s.heap.objs.size=some {cls:= .type "list",dict:=none,data:= .seq a.toArray c',slots:= (AA [])}->EP X R0 σ Q (-s.heap.objs.size) {s with heap:=h'}:=λa c d h' c' i e=>
  #[-s.heap.objs.size,_,I.laid (t':=s.toks) i (Jf _) (show ML X.prog X.w _ h' _ (.lst ys)from#[d,a,c',c,e]),Z,q _ (I.hok.fresh (Jf _))]
 rcases g with g|g
 .let#[a,c,pl,d]:=I.list g
  have f:=c.length;let#[o,m,v,n,t]:=pl.isList;exact call_list_seq p (.inl Z) m v t (λh' c' i e=>j a c d h' c' i e) (by simp only[Js]<;>lia)
 .let#[a,c,pl,d]:=I.tuple g
  have f:=c.length;let#[o,m,v,n,t]:=pl;exact call_list_seq p (.inr Z) m v t (λh' c' i e=>j a c d h' c' i e) (by simp only[Js]<;>lia)
theorem zp:zj X (.type "tuple") (λxs H Q=>∃p ys,xs=[-p]/\((HQ X.K H p ys/\∀l,H l=none->Q (-l) (HM H l (.tup ys)))\/(HX X.K H p ys/\Q (-p) H))):=by
 intro R0 s σ H xs t Q I r h;let#[p,ys,rfl,h]:=h;let#[u,rfl,j]:=zT r;cases j;rcases h with⟨d,q⟩|⟨d,q⟩
 .let#[a,c,pl,f]:=I.list d
  have g:=c.length;refine call_tuple_list pl.isList (λh' m=>?_) (by simp only[Js]<;>lia)
  have i:HN X R0 σ H {s with heap:=h'}:=I.kept (t':=s.toks) m
  have n:HN X R0 σ (HM H h'.objs.size (.tup ys)) {s with heap:=h'.push {cls:= .type "tuple",data:= .seq a.toArray}}:=
   i.laid (t':=s.toks) (λb o e=>Jk _ e) (Jf _) (show ML X.prog X.w _ _ _ (.tup ys)from#[f,a,c,IsTup.new _ _])
  exact#[-h'.objs.size,_,n,Z,q _ (i.hok.fresh (Jf _))]
 .let#[a,c,pl,f]:=I.tuple d
  exact call_tuple_same pl #[-p,H,I,Z,q]
def Gg(K:ι)(T:String)(x:V)(H:Hp):Prop:=match x with
 | .str _=>T="str"
 | .int _=>T="int"
 | .ref p=>(T="list"/\∃xs,HQ K H p xs)\/(T="tuple"/\∃o,K.lookup p=↑o/\o.cls= .type "tuple"/\o.dict=none)\/
   (T="dict"/\((∃kvs,H p=↑(.dK kvs))\/∃kvs,H p=↑(.dT kvs)))\/(T="set"/\∃S n,H p=↑(.set S n))
 |_=>False
theorem Eu(I:HN X R0 σ H s)(r:HV x v)(ty:Gg X.K T x H):
  s.TypeIs v T/\∀a,v= .ref a->∃g,s.heap.get? a=↑g/\g.dict=none:=by
 cases x with
 |str z=>
  let#[t,rfl]:=r
  cases(show T="str" from ty)
  exact#[typeIs_str s z t,λ_ e=>nomatch e]
 |int i=>
  let#[t,rfl]:=r
  cases(show T="int" from ty)
  exact#[typeIs_int s i t,λ_ e=>nomatch e]
 |ref p=>
  cases r;rcases ty with⟨rfl,xs,l⟩|⟨rfl,o,hk,j,f⟩|⟨rfl,hk⟩|⟨rfl,S,n,hk⟩
  .let#[h,_,pl,_]:=I.list l
   refine#[pl.isList.typeIs,λa e=>?_]
   cases e;let#[o,n,e,c,f,_]:=pl
   exact#[o,e,f]
  .refine#[#[o,I.kIn p o hk,j],λa e=>?_]
   cases e
   exact#[o,I.kIn _ o hk,f]
  .have z:∃o,s.heap.get? p=↑o/\o.ExactDict:=by
    rcases hk with⟨kvs,hk⟩|⟨kvs,hk⟩
    .let#[_,_,_,_,o,_,_,e,ex,_]:=I.hok p _ hk
     exact#[o,e,ex]
    .let#[_,_,_,_,o,_,_,e,ex,_]:=I.hok p _ hk
     exact#[o,e,ex]
   let#[o,e,ex]:=z;refine#[#[o,e,ex.1],λa d=>?_]
   cases d
   exact#[o,e,ex.2.1]
  .let#[o,_,_,_,e,ex,_]:=I.hok p _ hk
   refine#[#[o,e,ex.1],λa d=>?_]
   cases d
   exact#[o,e,ex.2.1]
 |_=>exact False.elim ty
noncomputable def DU(K:ι)(T:String)(r:V->Ε->Hp->VK->Prop)(to:TE)(t:TA):TE:=λσ H Q=>to σ H λx H1=>Gg K T x H1/\t σ H1 λxs a=>r x xs a Q
variable{o e:Φ}{es:Ι}{to:TE}{t:TA}{name:Str}{apos cpos:Pos}{T id:String}{r:V->Ε->Hp->VK->Prop}
theorem F2(pa:PlainAttrs T)(g:Slot T name id)(i:typeOf (.builtin id)=pure (.type "method_descriptor"))(hm:pL X id r)(ho:PE X o to)(ha:PA X (e::es) t)
  (d:attributeBase o name X.env (eval o X.env)=eval o X.env:=by rfl)
  (f:((backTo cpos (θ (e::es) X.env)).all (λx=> ! x.1)&&(backToKw cpos (keywordEach [] X.env)).all (λx=>x.1.isSome)
   &&decide ((e::es).length+([]:ξ).length+(if([]:ξ).isEmpty then 0 else 1)<30))=true:=by rfl)
  (c:(apos.endLine==cpos.line)=true:=by rfl)(hs:θ (e::es) X.env=(false,eval e X.env)::θ es X.env:=by rfl)(a:(backTo cpos (θ es X.env)).any (·.1)=false:=by rfl):
  PE X (.Call (.Attribute o name apos) (e::es) [] cpos) (DU X.K T r to t):=by
 intro R0 s σ H Q I h;refine wpAny_Call_method_late d f c Z (qz (ho R0 s σ H _ I h) λv y q=>?_)
 let#[x,H1,l,m,ty,C]:=q;let#[h1,u]:=Eu l m ty;exists T,id,pa,g,i,h1,u
 have j:=ha cpos R0 y σ H1 _ l C;rw[hs]at j⊢;refine Mw (by show(false||(backTo cpos (θ es X.env)).any (·.1))=false;rw[a]<;>rfl) (Mz ?_)
 exact qz j λz n ⟨vs,B,A,w,p⟩=>hm R0 n σ B x vs v z Q A m w p
end
def FE(X:Cx)(id:String)(r:V->Ε->Hp->VK->Prop):Prop:=
 ∀(R0:HI) (s:Θ) (σ:St) (H:Hp) (x:V) (xs:Ε) (v:Γ) (a:Ζ) (Q:VK),HN X R0 σ H s->HV x v->HS xs a->r x xs H Q->
  ε (model X.prog X.w) X.A (call (.builtin id) (v::a)) (EP X R0 σ Q) X.xe s
theorem HS.one:∀{x:V} {us:Ζ},HS [x] us->∃u,us=[u]/\HV x u
 :=by
 intro x us h;cases h with
 |cons r q=>cases q;exact#[0,r]
theorem HS.two:∀{x y:V} {us:Ζ},HS [x,y] us->∃u v,us=[u,v]/\HV x u/\HV y v
 :=by
 intro x y us h;cases h with
 |cons r q=>cases q with
  |cons q z=>cases z;exact#[13,r,q]
theorem HS.eraseIdx:∀{xs:Ε} {us:Ζ} (i:Nat),HS xs us->HS (xs.eraseIdx i) (us.eraseIdx i)
 |_,_,_,.nil=> .nil
 |_,_,0,.cons _ t=>t
 |_,_,i+1,.cons r t=> .cons r (HS.eraseIdx i t)
theorem HS.rep{xs:Ε}{us:Ζ}(h:HS xs us):∀k:Nat,HS (Dj k xs).flatten (Dj k us).flatten
 |0=> .nil
 |k+1=>by
  rw[LF,LF,L7,L7];exact HS.append h (HS.rep h k)
theorem ko{a:Type}:∀(l:List a) (i:Nat),(l.eraseIdx i).length<=l.length
 | [],_=>Jf _
 |_::_,0=>IL _
 |_::r,i+1=>OH (ko r i)
theorem kT(its:Ζ):∀(k:Nat) (a:Ζ),
  Kp (λf c=>f++c) a.toArray (Dj k its.toArray)=(a++(Dj k its).flatten).toArray
 |0,a=>by simp
 |k+1,a=>by
  have e:a.toArray++its.toArray=(a++its).toArray:=by simp
  have d:(a++its)++(Dj k its).flatten=a++(Dj (k+1) its).flatten:=by
   rw[LF,L7,IU]
  rw[<- d,<- kT its k (a++its),<- e,LF,KZ]
section
theorem HN.lset{its its':Ζ}{f:Array Γ->Array Γ}{t':Nat}(I:HN X R0 σ H s)(a:H l=↑(.lst xs))
  (e:s.heap.get? l=some {cls:= .type "list",data:= .seq its.toArray n})(hf:f its.toArray=its'.toArray)(hv:HS ys its')(hz:ys.length<=ζ):
  HN X R0 σ (HM H l (.lst ys)) {s with heap:=s.heap.update l (SY f),toks:=t'}:=by
 have q:=PySem.IsL.update e f;rw[hf]at q;refine I.write (x:=l) (e:=l) (by rw[a];exact trivial) (.inl Z) (λg u c d=>(LD s.heap (SY f) (Ne.symm c)).trans d) #[_,q] ?_
 exact#[hz,its',_,hv,q]
theorem HN.lnew{t':Nat}(I:HN X R0 σ H s)(hv:HS ys its)(hz:ys.length<=ζ):
  HN X R0 σ (HM H s.heap.objs.size (.lst ys)) {s with heap:=s.heap.push {cls:= .type "list",data:= .seq its.toArray},toks:=t'}:=
 I.laid (λ_ _ q=>Jk _ q) (Jf _) #[hz,its,(0),hv,Jp _ Z]
theorem HN.fresh(I:HN X R0 σ H s):H s.heap.objs.size=none:=I.hok.fresh (Jf _)
theorem HN.lstM(I:HN X R0 σ H s)(a:H l=↑(.lst xs)):xs.length<=ζ/\∃(its:Ζ) (n:Nat),HS xs its/\xs.length=its.length/\s.heap.get? l=some {cls:= .type "list",data:= .seq its.toArray n}:=by
 let#[z,its,n,r,e]:=I.hok l _ a
 exact#[z,its,n,r,r.length,e]
theorem oy{n:Nat}(h:n<=ζ):γ.List.listTooLong n=false:=by
 unfold γ.List.listTooLong;exact Jn (by lia)
inductive O5 (x:V)(vs:Ε)(H:Hp)(Q:VK):Prop
 |mk (l:_)(xs:_)(y:_)(h1:x= .ref l)(h2:vs=[y])(h3:H l=↑(.lst xs))(h4:xs.length<ζ)(h5:Q .non (HM H l (.lst (xs++[y]))))
def rS:V->Ε->Hp->VK->Prop:=λx vs H Q=>O5 x vs H Q
theorem vN:FE X "list.append" rS:=by
 intro R0 s σ H x vs v m Q I d f h;let#[l,xs,y,rfl,rfl,c,i,q]:=h;cases d;let#[u,rfl,g]:=f.one;let#[z,a,n,r,j,e]:=I.lstM c;refine Lo F.slot_list_append #[_,e,Z] F.entry_list_append (F.args_list_append_2 _ _) (PySem.list_append l a.toArray n u (by rw[Js];lia)) #[e,?_]
 refine#[.non,_,I.lset (its':=a++[u]) c e (by simp) (r.append (.cons g .nil)) ?_,Z,q]
 rw[Jy,IM];lia
inductive O6 (x:V)(vs:Ε)(H:Hp)(Q:VK):Prop
 |mk (l:_)(b:_)(xs:_)(zs:_)(h1:x= .ref l)(h2:vs=[-b])(h3:H l=↑(.lst xs))(h4:H b=↑(.lst zs))(h5:xs.length+zs.length<=ζ)(h6:Q .non (HM H l (.lst (xs++zs))))
def sQ:V->Ε->Hp->VK->Prop:=λx vs H Q=>O6 x vs H Q
theorem wj:FE X "list.extend" sQ:=by
 intro R0 s σ H x vs v C Q I j o h;let#[l,b,xs,zs,rfl,rfl,g,t,y,q]:=h;cases j;let#[u,rfl,p]:=o.one;cases p;let#[z,c,n,r,A,e]:=I.lstM g;let#[B,a,n2,w,m,i]:=I.lstM t;have f:c.toArray.size+a.toArray.size<=ζ:=by rw[Js,Js];lia
 have d:¬(! c.toArray.isEmpty&&γ.List.listTooLong (c.toArray.size+a.toArray.size))=true:=by
  rw[oy f,Bool.and_false];exact JK
 refine Lo F.slot_list_extend #[_,e,Z] F.entry_list_extend (F.args_list_extend_2 _ _)
  (AutoSeq1.list_extend_list_list_0 l c.toArray n b a.toArray n2 d (by rw[Js];lia) (by lia)) #[e,i,?_]
 refine#[.non,_,I.lset (its':=c++a) g e (by simp) (r.append w) ?_,Z,q]
 rw[Jy];lia
inductive PV (x:V)(vs:Ε)(H:Hp)(Q:VK):Prop
 |mk (l:_)(xs:_)(i:_)(k:_)(y:_)(h1:x= .ref l)(h2:vs=[.int i])(h3:H l=↑(.lst xs))(h4: -(2 ^ 63)<=i)(h5:i<2 ^ 63)(h6:seqIndex? i xs.length=↑k)(h7:xs[k]? =↑y)(h8:Q y (HM H l (.lst (xs.eraseIdx k))))
def wN:V->Ε->Hp->VK->Prop:=λx vs H Q=>PV x vs H Q
theorem Bo:FE X "list.pop" wN:=by
 intro R0 s σ H x vs v B Q I g j h;let#[l,xs,i,k,y,rfl,rfl,d,h1,A,hk,o,q]:=h;cases g;let#[u,rfl,m]:=j.one;let#[t,rfl]:=m;let#[z,a,n,r,f,e]:=I.lstM d;let#[w,p,c]:=r.get o;refine Lo F.slot_list_pop #[_,e,Z] F.entry_list_pop (F.args_list_pop_2 _ _)
  (MeetsSeq.list_pop_at l a.toArray n i t k w (fitsIndex_both h1 A) (by rw[Js,<- f];exact hk) (by rw[<- KI];exact p) (by rw[Js];lia)) #[e,?_]
 refine#[y,_,I.lset (its':=a.eraseIdx k) d e ?_ (r.eraseIdx k) ?_,c,q]
 .show a.toArray.eraseIdxIfInBounds k=(a.eraseIdx k).toArray
  rw[List.eraseIdxIfInBounds_toArray]
 .have:=ko xs k
  lia
inductive RG (x:V)(y:V)(H:Hp)(Q:VK):Prop
 |mk (l:_)(k:_)(xs:_)(h1:x= .ref l)(h2:y= .int k)(h3:H l=↑(.lst xs))(h4: -(2 ^ 63)<=k)(h5:k<2 ^ 63)(h6:xs.length*k.toNat<=ζ)(h7:∀p,H p=none->Q (-p) (HM H p (.lst (Dj k.toNat xs).flatten)))
def Gy:R2:=λx y H Q=>RG x y H Q
theorem CQ{a:Type}(xs:List a)(k:Nat):(Dj k xs).flatten.length=k*xs.length:=by
 induction k with
 |zero=>simp
 |succ k ih=>rw[LF,L7,Jy,ih,Nat.succ_mul,Nat.add_comm]
theorem vW:zx X (binaryOp .Mult) Gy:=by
 intro R0 s σ H x y v u Q I D C h;let#[l,k,xs,rfl,rfl,A,h1,E,w,q]:=h;cases D;let#[t,rfl]:=C;let#[z,c,n,r,B,e]:=I.lstM A;have i:c.toArray.size*k.toNat<=ζ:=by rw[Js,<- B];exact w
 have f:¬c.toArray.size*k.toNat>(2 ^ 63-1)/8:=by
  have:(ζ:Nat)<=(2 ^ 63-1)/8:=by decide
  lia
 have j:¬(!γ.List.listFitsIndex k)=true:=by
  rw[fitsIndex_both h1 E];exact JK
 have d:¬γ.List.listTooLong (c.toArray.size*k.toNat)=true:=by
  rw[oy i];exact JK
 have g:Kp (λp o=>p++o) (AA []) (Dj (if c.toArray.isEmpty=true then 0 else k.toNat) c.toArray)=(Dj k.toNat c).flatten.toArray:=by
  have G:∀m:Nat,Kp (λp o=>p++o) (AA []) (Dj m c.toArray)=(Dj m c).flatten.toArray:=λm=>by
   have:=kT c m []
   rw[Kq]at this;exact this
  rw[G];cases c with
  |nil=>simp
  |cons a r'=>rw[Jb (by simp)]
 refine wpAny_binaryOp_repeat_ref (T:="list") (U:="int") ⋯ #[_,e,Z] (λs'=>typeIs_int s' k t) noFill_list_mul F.fills_int_mul F.slot_int_rmul repeat_list F.slot_int_index.lookup
  (Lo F.slot_int_rmul (typeIs_int s k t) F.entry_int_rmul (F.args_int_rmul_2 _ _) (int___rmul___int_list k t l c.toArray n)
   #[e,Z,#[_,e,Z],Lo F.slot_list_mul #[_,e,Z] F.entry_list_mul (F.args_list_mul_2 _ _) (AutoListH.list___mul___list_int_3 l c.toArray n k t j f d) #[e,?_]])
 rw[g]
 exact#[.ref _,_,I.lnew (t':=s.toks) (r.rep k.toNat) (by rw[CQ,Nat.mul_comm];exact w),Z,q _ I.fresh]
end
end L2
namespace Att
open PySem PySem.W PySem.Calls PyProof.Rows
theorem iZ:∀(ns:Β) (vs:Ζ),WellAll P h vs (ns.map WData.int)->IntsAre vs ns:=by
 intro ns
 induction ns with
 |nil=>
  intro vs w;rw[Ln]at w;cases w;exact .nil
 |cons n ns ih=>
  intro vs w;rw[JS]at w;cases w with
  |cons a b=>
   cases a;exact .cons _ _ (ih _ b)
theorem vq{l:OpenLaw}{n:Nat}(hn:l.most=↑n)
  (e:l.row.toRowW.claim.pre args=true)(m:WellAll P h f args):
  ∃a vs c,f=[Γ.ref a]/\args=[WData.list (c.map WData.int)]/\h.get? a=some {cls:= .type "list",data:= .seq vs.toArray}/\IntsAre vs c/\c.length<=n:=by
 have o:WShape.hasAll [] args [.list .int]=true:=(pre_splitW e).1
 have p:l.pre.holds [] {args:=args}=true:=(pre_splitW e).2
 let#[d,r,rfl,h1,s]:=hasAllW_cons o
 obtain rfl:=hasAllW_nil s
 let#[xs,rfl,u]:=hasW_list h1;let#[c,rfl]:=items_int u;have g:c.length<=n:=by
  unfold OpenLaw.pre at p;have i:(WTm.not (.lt (.lit (.int (n:Int))) (.len (.arg 0)))).holds [] {args:=[.list (c.map .int)]}=true:=by
   have i:=(holds_andW p).1;rw[hn]at i;exact i
  have j:=condW_of i (w_not (w_lt w_lit (w_len_list (w_arg Z))));rw[Je]at j;refine Kr λq=>?_
  have t:(n:Int)<((c.length:Nat):Int):=by lia
  first
   |(rw[Jj t]at j;exact absurd j ⋯)
   |(simp at j;lia)
 cases m with
 |cons w1 w2=>
  cases w2;cases w1 with
  |list ho hall=>exact#[15,c,9,ho,iZ c _ hall,g]
theorem vI(l:OpenLaw)(args:List WData):l.row.toRowW.claim.post args (.bool true) args=true:=
 postW_of (r:=l.row.toRowW) (X:=(true==true))
  (show WShape.has [] (.bool true) .bool=true by first|rfl|decide|simp [WShape.has,WShape.arms,WShape.armsAll])
  (show(WTm.eq .res (.lit (.bool true))).value [] {args:=args,res:=↑(.bool true),after:=args}=↑(.bool (true==true))from w_eq_bool (w_res Z) w_lit) Z
theorem attach_call{l:OpenLaw}{n:Nat}{C:(Str->Ν)->Ψ->Prop}{y:Ω->Ψ->Prop}{d:DefRec}
  (hn:l.most=↑n)(s:d.params.defaults=[])
  (call:∀(w:Ω) (e c:Θ) (mg x:HH) (i:Δ) (o:Obj) (pm cd doc:Γ) (a:Δ) (vs:Ζ) (ns:Β),
   Ground q g [] C w e mg x c.heap->y w c.heap->
   c.heap.get? i=↑o->o.data= .func (docDef d.name d.params d.body d.scope pm cd doc)->c.heap.CodeRec cd d.name->mg d.name=↑(-i)->
   c.heap.get? a=some {cls:= .type "list",data:= .seq vs.toArray}->IntsAre vs ns->ns.length<=n->c.gens= (AA [])->
   codeAny (model l.prog w) callerA (.call (-i) #[[-a],[]]) (λr s'=>r= .ok (.ret (.bool true))/\OldK c.heap s'.heap/\s'.os=c.os/\AllBare s'.gens) c):
  WalkO q g C y l.row.toRowW d [] (λf vs=>PySem.call f vs):=by
 intro w e c mg x G Y i o pm cd doc K kV E N u B t I z D Q m A M v L
 obtain rfl:K= .none:=Dflts.none B s
 obtain rfl:kV= .none:=Dflts.noKw B
 let#[a,vs,ns,rfl,rfl,p,h,j]:=vq hn m v;refine enter_call (Lm (call w e c mg x i o pm cd doc a vs ns G Y E (fd_plain N) u t p h j I) λr s' P=>?_)
 let#[rfl,F,H,J]:=P
 exact#[.inl #[.bool true,.bool true,[],Z,λ_=>rfl,.bool true,vI l _,λ_=>#[SU,λ_ O=>(nomatch O)]],F,H,J]
end Att
namespace L2
open PySem PySem.Spec PyProof.Rows
theorem gq:∀{vs:Ζ} {ns:Β},IntsAre vs ns->HS (ns.map V.int) vs
 |_,_,.nil=> .nil
 |_,_,.cons n t h=> .cons #[t,Z] (gq h)
def Bb(H:Hp):Prop:=∀b,H b=none\/∃o xs,H b=↑(.frz o (.lst xs))
theorem AH{K:ι}{k:Nat}{a:Δ}{x:Str}{c:Θ}{vs:Ζ}
  (S:K.In c.heap)(D:c.heap.Ns η mg)(hb:c.heap.Ns builtinsNs L)(G:∀x:Str,x≠"__name__"->L x=bootBuiltins x)(B:c.heap.NoLimit)(hg:c.gens= (AA []))
  (ha:c.heap.get? a=some {cls:= .type "list",data:= .seq vs.toArray})(hi:IntsAre vs ns)(hl:ns.length<=ζ)(hr:MK k callerA)
  (F:∀base:Ψ,K.In base->base.Ns η mg->NU P w K mg base CX k E fd [x] sp)(j:∀(s:Θ) (u:Γ),BindsTo s fd #[[u],[]] [(x,u)])
  (J:∀H:Hp,Bb H->HQ K H a (ns.map V.int)->sp [-a] H (λv _=>v= .bl true) λ_ _ _=>False)
  (I:∀H e s',CX [] H c (λ_ _ _=>False) e s'->False):
  codeAny (model P w) callerA (.call (-E) #[[-a],[]]) (λr s'=>r= .ok (.ret (.bool true))/\OldK c.heap s'.heap/\s'.os=c.os/\AllBare s'.gens) c:=by
 have Q:=gq hi;have C:=hi.length;have i:∀H:Hp,Bb H->HQ K H a (ns.map V.int)->NW P w H c.heap->(∀b,H b≠none->b=a)->(H a≠none->K.lookup a=none)->
   codeAny (model P w) callerA (.call (-E) #[[-a],[]]) (λr s'=>r= .ok (.ret (.bool true))/\OldK c.heap s'.heap/\s'.os=c.os/\AllBare s'.gens) c:=by
  intro H R hS p O hK;have f:∀{b:Δ} {o:Obj},c.heap.get? b=↑o->H b=none->(dc c.heap H).get? b=↑o:=λe n=>Bd e n
  have M:∀{b:Δ} {o:Obj} {es:Array DictEntry} {ep:Nat},c.heap.get? b=↑o->o.data= .dict es ep->H b=none:=λ{b o es ep} e d=>by
   cases q:H b with
   |none=>rfl
   |some u=>
    have e':b=a:=O b (by rw[q];simp)
    subst e';rw[ha]at e;cases e
    have W:Data.seq vs.toArray _=Data.dict es ep:=d
    cases W
  have g:∀{b:Δ} {m:HH},c.heap.Ns b m->(dc c.heap H).Ns b m:=λ{b m} ⟨o,es,ep,e,d,r⟩=>#[o,es,ep,f e (M e d),d,r]
  have t:K.In (dc c.heap H):=λb o e=>f (S b o e) (by
   cases q:H b with
   |none=>rfl
   |some u=>
    have e':b=a:=O b (by rw[q];simp)
    subst e';rw[hK (by rw[q];simp)]at e;cases e)
  have T:RT K mg (dc c.heap H):=#[t,g D,#[L,g hb,G],let⟨mc,h1,h2⟩:=B;#[mc,g h1,h2]]
  have e0:Oq P w K mg (dc c.heap H) callerA [] c H:=#[Z,T,λb o e=>Ct e,L0 (vQ _ _),trivial,λb hb=>absurd (show b∈([]:Η)from hb) (by simp),p,.of_eq hg]
  refine Lm ((F _ t (g D)).run callerA [] c H #[[-a],[]] [-a] [-a] _ _ hr e0 (j c (-a)) (.cons Z .nil) (J H R hS)) λr s' h=>?_
  cases r with
  |error e=>exact(I H e s' h).elim
  |ok fl=>
   cases fl with
   |next=>exact False.elim h
   |brk=>exact False.elim h
   |cont=>exact False.elim h
   |ret u=>
    let#[v,H',X,y,un,A,r',q]:=h;have U:v= .bl true:=q
    subst U
    obtain rfl:u=Γ.bool true:=r'
    refine#[Z,OldK.of_keep λb o e=>?_,X,y]
    cases q:H b with
    |none=>exact un.keep b o e q (by intro z;exact absurd (show b∈([]:Η)from z) (by simp)) (by simp)
    |some u=>
     rcases R b with z|⟨ob,xs,z⟩
     .rw[q]at z;cases z
     .have z2:=un.frzs b ob _ z
      let#[N,_]:=p b _ z;let#[Y,_]:=A b _ z2;rw[e]at N;cases N
      exact Y
 cases hk:K.lookup a with
 |some o=>
  have e:=S a o hk;rw[ha]at e;cases e;refine i (λ_=>none) (λ_=> .inl Z) (.inr #[_,vs.toArray,_,hk,40,by rw[Js,C];exact hl,by simpa using Q]) (λb u z=>by have l:(none:Option HO)=↑u:=z;cases l) (λb z=>absurd Z z) λz=>absurd Z z
 |none=>
  refine i (λb=>if b=a then ↑(.frz {cls:= .type "list",data:= .seq vs.toArray} (.lst (ns.map V.int)))else none) (λb=>?_) (.inl (.inr #[{cls:= .type "list",data:= .seq vs.toArray},Jc Z])) (λb u z=>?_) (λb z=>?_) λ_=>hk
  .by_cases hb:b=a
   .exact .inr #[15,Jc hb]
   .exact .inl (Jb hb)
  .by_cases hb:b=a
   .have l:=(Jc hb).symm.trans z
    cases l;subst hb
    exact#[ha,by rw[Je];exact hl,vs,_,Q,ha]
   .have l:=(Jb hb).symm.trans z
    cases l
  .by_cases hb:b=a
   .exact hb
   .exact absurd (Jb hb) z
theorem CH{l:W.OpenLaw}{n k:Nat}{O:(Str->Ν)->Ψ->Prop}{B:Ω->Ψ->Prop}{d:DefRec}{K:Params->ι}{CX:Ω->hJ}{sp:Ω->Sp}{x:Str}
  (hn:l.most=↑n)(r:n<=ζ)(t:d.params.defaults=[])(hr:MK k callerA)
  (E:∀(w:Ω) (h:Ψ),B w h->(K w.params).In h)
  (F:∀(w:Ω) (mg:HH) (p:Δ) (h:Ψ),(K w.params).In h->h.Ns η mg->mg d.name=↑(-p)->
   ∃fd:FuncData,(∀(s:Θ) (u:Γ),BindsTo s fd #[[u],[]] [(x,u)])/\
    ∀base:Ψ,(K w.params).In base->base.Ns η mg->NU l.prog w (K w.params) mg base (CX w) k p fd [x] (sp w))
  (A:∀(w:Ω) (H:Hp) (a:Δ) (ns:Β),ns.length<=n->Bb H->HQ (K w.params) H a (ns.map V.int)->sp w [-a] H (λv _=>v= .bl true) λ_ _ _=>False)
  (z:∀(w:Ω) (H:Hp) (s:Θ) (e:Γ) (s':Θ),CX w [] H s (λ_ _ _=>False) e s'->False):
  W.WalkO q i O B l.row.toRowW d [] (λf vs=>PySem.call f vs):=by
 refine Att.attach_call hn t λw C j mg S p o pm cd doc a vs ns G Y Q R M y m g c J=>?_
 have D:=E w _ Y;let#[fd,L,I]:=F w mg p _ D G.T.g y;exact AH D G.T.g G.T.b G.T.builtins G.T.nolimit J m g (JN c r) hr I L (λH P N=>A w H a ns c P N) λH e s'=>z w H j e s'
noncomputable def zF(s:δ)(j:Nat):δ:=match s with
 | .ClassDef _ _ _ body _ _ _ _ _ _ _=>body.getD j (.Pass #[(0),(0),(0),(0)])
 |_=> .Pass #[(0),(0),(0),(0)]
noncomputable def QX(s:δ):Arguments:=match s with
 | .FunctionDef _ a _ _ _ _ _ _ _ _=>a
 |_=>{posonlyargs:=[],args:=[],vararg:=none,kwonlyargs:=[],kw_defaults:=[],kwarg:=none,defaults:=[]}
noncomputable def zR(s:δ):List δ:=match s with
 | .FunctionDef _ _ b _ _ _ _ _ _ _=>b
 |_=>[]
noncomputable def qi(s:δ):Scope:=match s with
 | .FunctionDef _ _ _ _ _ _ sc _ _ _=>sc
 |_=>{kind:= .function,names:=[],isGenerator:=false,isCoroutine:=false}
abbrev be:hJ:=λ_ _ _ _ _ _=>False
abbrev E0:XK:=λ_ _ _=>False
theorem mB:gj be X E0:=λ_ _ _ _ _ _ _ h=>h.elim
structure OL(K:ι)(x R1:Str)(st:δ)(f:Δ)(fd:FuncData):Prop where
 ex:∃(oc:Γ) (od:β) (kV doc pm:Γ) (an:β) (cdv ct:Γ) (osl:Array Ν),
  fd=PySem.W.fnOf x R1 (QX st) (zR st) (qi st) .none kV doc pm an cdv ct/\K.lookup f=some #[oc,od,.func fd,osl]/\PySem.W.codeIn K cdv R1=true
 kp:SR K (-f)=true
section
variable{K:ι}
theorem OL.ok{x R1:Str}{st:δ}{f:Δ}{fd:FuncData}{N ps:Α}{k:Nat}{sp:Sp}(F:OL K x R1 st f fd)(S:HK N ps (qi st))(len:∀vs H Q E,sp vs H Q E->vs.length=ps.length)
  (c:∀(cdv:Γ) (A:Rj) (a:Τ) (s:Θ) (H:Hp) (vs:Ε) (Q:VK) (E:XK),MK k (A.deeper (envOfC R1 (qi st) s.heap.objs.size f cdv))->sp vs H Q E->
   ∃t,On (cr be P w K mg base N R1 (qi st) f cdv A a s H E).nox (zR st) t/\t {nx:=λ_ H'=>Q .non H',rt:=Q} (Zq N vs) H):NU P w K mg base be (k+1) f fd ps sp:=by
 let#[oc,od,kV,doc,pm,an,cdv,ct,osl,rfl,i,e]:=F.ex;refine FQ i e S len λA a s H vs Q E g d=>?_
 let#[t,h,q]:=c cdv A a s H vs Q E g d
 exact#[t,h.nox,q]
theorem OL.binds{x R1:Str}{st:δ}{f:Δ}{fd:FuncData}{ps:Α}(F:OL K x R1 st f fd)
  (h:∀(kV doc pm:Γ) (an:β) (cdv ct:Γ) (us:Ζ),us.length=ps.length->bindArgs (TB x R1 (QX st) (zR st) (qi st) .none kV doc pm an cdv ct) #[us,[]]=pure (ps.zip us)):NH K fd ps []:=by
 let#[oc,od,kV,doc,pm,an,cdv,ct,osl,rfl,c,a]:=F.ex;exact .all (h kV doc pm an cdv ct)
theorem pK{x R1:Str}{st:δ}{f:Δ}{oc:Γ}{od an:β}{osl:Array Ν}{kV doc pm cdv ct:Γ}(l:K.lookup f=some #[oc,od,.func (TB x R1 (QX st) (zR st) (qi st) .none kV doc pm an cdv ct),osl])
  (c:W.codeIn K cdv R1=true)(k:TK K (-f)=true):OL K x R1 st f (TB x R1 (QX st) (zR st) (qi st) .none kV doc pm an cdv ct):=#[#[oc,od,kV,doc,pm,an,cdv,ct,osl,Z,l,c],k]
end
theorem F9{k:Nat}(hr:MK k A):A.units+1<cLine:=Ka (Nat.add_le_add_left (by decide:1<=64) _) hr.units
theorem zh{A B:Prop}(h:B):if false=true then A else B:=by
 rw[Jb JK];exact h
theorem zo{A B:Prop}(h:A):if true=true then A else B:=by
 rw[Jc Z];exact h
theorem qZ{c A B:Prop} [Decidable c](h1:c->A)(h2:¬c->B):if c then A else B:=by
 by_cases h:c
 .rw[Jc h]
  exact h1 h
 .rw[Jb h]
  exact h2 h
theorem aE{c A B:Prop} [Decidable c](hc:c)(h:B):if(! decide c)=true then A else B:=by
 rw[Jj hc];exact zh h
def HJ(H H':Hp):Prop:=∀b o,H b=↑o->H' b=↑o
theorem HJ.refl(H:Hp):HJ H H:=λ_ _ h=>h
theorem HJ.trans(a:HJ H H1)(b:HJ H1 d):HJ H d:=λc o h=>b c o (a c o h)
theorem HJ.seq{K:ι}(e:HJ H H')(h:HQ K H a xs):HQ K H' a xs:=by
 rcases h with(h|⟨o,h⟩)|h
 .exact .inl (.inl (e _ _ h))
 .exact .inl (.inr #[o,e _ _ h])
 .exact .inr h
end L2
namespace L3
open PySem PySem.Spec PyProof.Rows L2
theorem jN{i n:Nat}(h:i<n):n-(i+1)<n-i:=Nat.sub_lt_sub_left h (G0 i)
theorem Gk{i n:Nat}(h:i<n):n-1-i<n:=Ka (Nat.sub_le _ _) (OM h)
theorem Ez{i n:Nat}(h:i<n):(n:Int)-1-i=((n-1-i:Nat):Int):=by lia
theorem Cg{i n:Nat}(h:i<n):((n-1-i:Nat):Int)-1=(n:Int)-1-((i+1:Nat):Int):=by lia
theorem GM{z:Int}(h:z<16):z.toNat<16:=by lia
theorem GS{z:Int}{n:Nat}(a:0<=z)(h:z<n):z.toNat<n:=(Int.toNat_lt a).2 h
noncomputable def qY(X:Cx)(N:Α)(a:Scope)(c:List (Str×Δ))(C:Δ)(s:Θ)(H:Hp)(fp:Η):Cx:=
 {X with N:=N,s₀:=s,H₀:=H,env:=compEnvC a c C X.env,outer:=X.stack,ex:=fp,fn:=λ_=>false,pn:=[],xe:=λ_ _=>False}
structure MU(X:Cx)(scope:Scope)(fr:Α)(js:Κ):Prop where
 kind:scope.kind= .function
 names:∀x∈scope.names,x.2= .local->scope.names.lookup x.1=some .local
 nocell:∀x∈scope.names,x.2≠ .cell
 free:∀x∈scope.names,x.2= .free->x.1∈fr
 len:js.length=fr.length
 at_:∀(i j:Nat) (y:Str),js[i]? =↑j->fr[i]? =↑y->X.N[j]? =↑y/\X.env.kindOf y=some .cell/\(relabel scope X.env).names.lookup y=some .cell
theorem Zl{f:Type}{y:Str}:∀{l:List (Str×f)},y∈l.map (·.1)->∃c,l.lookup y=↑c
 | [],h=>by simp at h
 |(n,a)::r,h=>by
  cases e:y==n with
  |true=>exact#[a,by simp [Iv,e]]
  |false=>
   have d:y∈r.map (·.1):=by
    rcases Jg.mp h with z|z
    .exact absurd z (by simpa using e)
    .exact z
   let#[c,g]:=Zl d
   exact#[c,by simp [Iv,e,g]]
noncomputable def σ0(k:Nat)(js:Κ)(σ:L2.St):L2.St:=Dj k none++js.map λj=>(σ[j]?).join
def ji(k:Nat)(js:Κ)(g:TG)(te:TE)(σ:L2.St)(Q:VK)(J:It)(H1:Hp):Prop:=∃W:Nat->Nat->Ε->L2.St->Hp->Prop,(∃m,W 0 m [] (σ0 k js σ) H1)/\∀i m ys d H,W i m ys d H->
 (J.stop i H/\∀p,H p=none->Q (-p) (HM H p (.lst ys)))\/(J.go i H/\ys.length<ζ/\∀x H',J.yld i H x H'->g x d H' λa f=>∃N:V->Hp->Prop,(∀v e,N v e->∃c,c<m/\W (i+1) c (ys++[v]) a e)/\te a f N)
noncomputable def jd(k:Nat)(js:Κ)(a:TI)(g:TG)(te:TE):TE:=λσ H Q=>a σ H (ji k js g te σ Q)
section
theorem mG{p a l:Φ}{it t:Γ}{c:Env}(I:Nat->Θ->Prop)
  (turn:∀n s,I n s->ε (model prog w) A (pyNext it) (λr f=>match r with
   |none=>R (.ok .next) f
   | some v=>ε (model prog w) A (letOwnedTupleGo a it v) (λ_ d=>ε (model prog w) A (assign a c v) (λ_ o=>ε (model prog w) A (eval p c) (λx g=>
     ε (model prog w) A (call (.builtin "list.append") [t,x]) (λ_ j=>∃m,m<n/\I m j) (λ_ _=>False) g)
     (λ_ _=>False) o) (λ_ _=>False) d) (λ_ _=>False) f) (λ_ _=>False) s)
  (n:Nat)(h:I n s):
  codeAny (model prog w) A (.compLoop (.ListComp p [#[a,l,[],(0)]] e pos) 0 it t c) R s:=by
 refine codeAny_loop Z I (λn s B=>?_) n h
 show ε _ _ ((compTurn (.ListComp p [#[a,l,[],(0)]] e pos) 0 it t c).onRaise (λx=>do noteFrame x c;theTreesLotGoes x)) _ _ s
 refine wpAny_noted ?_
 rw[compTurn_list1];refine Ja (Ib (Ja (Jx (turn n s B) (λr f i=>?_) λ_ _ h'=>h'.elim)))
 cases r with
 |none=>exact Jd i
 |some v=>
  refine Ja (Jx i (λ_ d q=>?_) λ_ _ h'=>h'.elim)
  exact Ja (Jx q (λ_ o z=>Ja (Ja (Jx z (λx g u=>Ja (Jx u
   (λ_ j y=>Jd (Jd #[Z,y])) λ_ _ h'=>h'.elim)) λ_ _ h'=>h'.elim))) λ_ _ h'=>h'.elim)
end
structure O7(X:Cx)(R0:HI)(H:Hp)(C:Δ):Prop where
 free:H C=none
 loc:C≠X.env.locals
 new:X.s₀.heap.objs.size<=C
 cell:∀x c,X.env.cells.lookup x=↑c->c≠C
 pin:∀p∈X.pn++R0,p.1≠C
theorem eV{E:List (Str×Δ)}{fr own:Α}{K:Hp}{fp:Η}{tn:Nat->Ψ->Prop}{w:Ψ}{g:Nat}
  (r:∀y c,E.lookup y=↑c->X.env.cells.lookup y=↑c)(P:E.map (·.1)=fr)(S:MU X a fr js)(f:L2.HN X R0 σ K d)(T:N5 X.prog X.w X.K tg J fp it tn)(a6:tn 0 d.heap)(f2:∀b∈fp,Zm X R0 K b)
  (hC:g=d.heap.objs.size+1)(I:∀b o,d.heap.get? b=↑o->w.get? b=↑o)(G:w.Ns g m):
  (∀b∈fp,b<d.heap.objs.size)/\L2.HN (qY X (own++fr) a E g d K fp) [] (σ0 own.length js σ) K {d with heap:=w,toks:=d.toks+([]:List (Str×Γ)).length}/\d.heap.objs.size∉cJ X.stack/\(∀x c,E.lookup x=↑c->c≠d.heap.objs.size)/\
  ∀{H':Hp} {pl:HI},(∀b∈fp,H' b=none)->(∀p∈pl,p.1=d.heap.objs.size)->∀b∈fp,Zm (qY X (own++fr) a E g d K fp) pl H' b:=by
 have t:∀b,b<d.heap.objs.size->b≠g/\b≠d.heap.objs.size:=λb h=>#[by rw[hC];exact Jm (Ik h),Jm h]
 let Y:Cx:=qY X (own++fr) a E g d K fp
 have A:∀b∈fp,b<d.heap.objs.size:=λb h=>by let#[o,e,_]:=T.obj _ _ a6 b h;exact Jl e
 have U:(qY X (own++fr) a E g d K fp).Ok:=by
  refine#[f.ok.mod,S.kind,f.ok.glob,f.ok.blt,by show d.heap.objs.size<=g;lia,?_,?_,?_,f.ok.hd,f.ok.frames,.inl Z,?_,f.bs,JN f.ok.bsz f.sz,?_,?_,f.stack,f.stkFree]
  .exactλx y c e1 e2=>f.ok.inj x y c (r x c e1) (r y c e2)
  .intro x hx
   have a2:(relabel a X.env).names.lookup x=some .cell\/(relabel a X.env).names.lookup x=some .free:=hx
   have hm:∃k,(x,k)∈a.names/\k= .free:=by
    have Q:∀kk:NameKind,(kk= .cell\/kk= .free)->(relabel a X.env).names.lookup x=↑kk->∃k,(x,k)∈a.names/\k= .free:=by
     intro kk hk el;let#[#[n,k],s,e]:=JC.mp (LB el)
     dsimp only at e
     split at e
     .rename_i D
      cases e;exists k,s
      simp only[JF,J7]at D;exact D.1.1
     .cases e
      rcases hk with z|z
      .subst z;exact absurd Z (S.nocell _ s)
      .exact#[_,s,z]
    rcases a2 with z|z
    .exact Q _ (.inl Z) z
    .exact Q _ (.inr Z) z
   let#[k,s,hk]:=hm;exact Zl (l:=E) (by rw[P];exact S.free _ s hk)
  .exactλx c e _=>nomatch e
  .refineλb h=>#[?_,λx c e=>(f2 b h).2.2.2.2.1 x c (r x c e)]
   show b≠g
   exact(t b (A b h)).1
  .intro b o e h
   rcases(f2 b h).2.2.2.1 with z|z
   .exact f.ok.noex b o e z
   .exact absurd (JV (Jl e) (JN f.ok.bsz z)) (Ia _)
  .intro b h hf
   rcases Jg.mp (f.stkSub b hf)with z|z
   .exact(f2 b h).2.1 z
   .exact(f2 b h).2.2.1 z
 have L:(σ0 own.length js σ).length=(own++fr).length:=by unfold σ0;simp [S.len]
 have IY:HN Y [] (σ0 own.length js σ) K {d with heap:=w,toks:=d.toks+([]:List (Str×Γ)).length}:=by
  refine#[U,Z,f.bare,Un.kept I,#[_,G,?_],?_,?_,?_,λp hp=>absurd (show p∈([]:HI)from hp) (by simp),f.hok.kept I,L]
  .intro i x v hN F _
   have N:(own++fr)[i]? =↑x:=hN
   unfold σ0 at F
   by_cases M:i<own.length
   .rw[J3 (by simpa using M),OD]at F
    split at F<;>cases F
   .rw[J9 (by simpa using Kr M),OE,Jo]at F
    rw[J9 (Kr M)]at N;cases ej:js[i-own.length]? with
    |none=>rw[ej]at F;cases F
    |some j=>
     rw[ej]at F;have a3:σ[j]? =↑(↑v):=by
      have H:(σ[j]?).join=↑v:=JE F
      cases q:σ[j]? with
      |none=>rw[q]at H;cases H
      |some o=>rw[q]at H;have:o=↑v:=H;rw[this]
     let#[a5,hk,a4]:=S.at_ _ j x ej N;let#[m,hn,hl]:=f.loc;let#[u,ru,lk]:=hl j x v a5 a3 (.inr (.inl hk))
     refine#[u,ru,.inr ?_]
     rcases lk with⟨k1,_⟩|⟨_,c,ec,ic⟩
     .rw[hk]at k1;cases k1
     .let#[c',W]:=Zl (y:=x) (l:=E) (by rw[P];exact Ij N)
      have:c'=c:=by have:=r x c' W;rw[ec]at this;exact(JE this).symm
      subst this;exists ?_,c',W
      .show(relabel a X.env).names.lookup x=some .cell\/(relabel a X.env).names.lookup x=some .free
       exact .inl a4
      .let#[oc,C,hd]:=ic
       exact#[oc,I _ _ C,hd]
  .intro x c e
   let#[v,oc,C,hd]:=f.cell x c (r x c e)
   exact#[v,oc,I _ _ C,hd]
  .exact f.hok.fresh (by show d.heap.objs.size<=g;lia)
  .exactλx c e=>f.freeC x c (r x c e)
 have O:d.heap.objs.size∉cJ X.stack:=λhf=>by
  rcases Jg.mp (f.stkSub _ hf)with z|z
  .exact absurd (by rw[<- z];exact Jf _:d.heap.objs.size<=X.env.locals) (Nat.not_le.mpr f.lt)
  .exact f.nofs (Jf _) z
 have B:∀x c,E.lookup x=↑c->c≠d.heap.objs.size:=λx c e z=>by
  let#[v,oc,C,_]:=f.cell x c (r x c e)
  exact absurd (Jl C) (by rw[z];exact Ia _)
 have a7:∀{H':Hp} {pl:HI},(∀b∈fp,H' b=none)->(∀p∈pl,p.1=d.heap.objs.size)->∀b∈fp,Zm Y pl H' b:=λ{H' pl} hn hp b h=>
  #[hn b h,(t b (A b h)).1,U.exfs b h,.inl h,λx c e=>(f2 b h).2.2.2.2.1 x c (r x c e),λp a1=>by
   have R:p∈pl:=by simpa [Y,qY]using a1
   rw[hp p R];exact Ne.symm (t b (A b h)).2]
 exact#[A,IY,O,B,a7]
theorem eU{fp:Η}{g:Nat}(s:L2.HN X R0 σ A d)(f2:∀b∈fp,Zm X R0 A b)(H:g=d.heap.objs.size+1)
  (r:L2.HN (qY X N l G g d A fp) pl E m t)(a:m d.heap.objs.size=none)(w:ML X.prog X.w (HM m d.heap.objs.size ob) t.heap d.heap.objs.size ob):L2.HN X R0 σ (HM m d.heap.objs.size ob) t/\O7 X R0 (HM m d.heap.objs.size ob) g:=by
 have j:∀b,b<d.heap.objs.size->b≠g/\b≠d.heap.objs.size:=λb f=>#[by rw[H];exact Jm (Ik f),Jm f]
 have C:d.heap.objs.size≠g:=by lia
 have B:=r.base;have I:m g=none:=r.free
 exists ?_
 .refine s.call' (s':=t) (ch:=fp) r.os #[B.keep,B.slot,λb o e n D=>?_,B.there,λb xs e=>?_,λb o u e=>?_,λb ps e=>?_] ?_ r.bare ?_
  .rw[qp (j b (Jl e)).2];exact B.free b o e n D
  .have i:=B.tups b xs e
   rw[qp (qm i a)];exact i
  .have i:=B.frzs b o u e
   rw[qp (qm i a)];exact i
  .let#[more,i]:=B.tbls b ps e
   exact#[more,by rw[qp (qm i a)];exact i]
  .intro b u e
   by_cases f:b=d.heap.objs.size
   .subst f
    rw[qb]at e;cases e
    exact w
   .rw[qp f]at e
    exact(r.hok b u e).stay (λc v _ q=>q) (λc q=>by rw[qp (qm q a)];exact q) λc xs q=>by rw[qp (qm q a)];exact q
  .exactλb f=>#[(f2 b f).2.2.2.1,(f2 b f).2.1,(f2 b f).2.2.2.2.1,(f2 b f).2.2.2.2.2]
 .have h:d.heap.objs.size<=g:=by lia
  refine#[by rw[qp (Ne.symm C)];exact I,?_,JN s.sz h,λx c e z=>?_,λp F z=>?_]
  .exact J1 (JV s.lt h)
  .let#[v,oc,y,_]:=s.cell x c e
   exact absurd (JV (Jl y) h) (by rw[z];exact Ia _)
  .exact absurd (JV (Jl (s.pin p F).1) h) (by rw[z];exact Ia _)
theorem mM{a:Scope}{cl:List (Str×Δ)}{c0:Pos}{fr own:Α}{use:Option (Γ->Sem Unit)}{Post:HG}
  {s:Θ}{H:Hp}
  (hc:X.calm=true)(hi:PI X tg t wi)(a6:closureFor a X.env=pure cl)(d2:∀y c,cl.lookup y=↑c->X.env.cells.lookup y=↑c)(c1:cl.map (·.1)=fr)
  (S:MU X a fr js)
  (hg:∀C s H fp,PG (qY X (own++fr) a cl C s H fp) tg g)(he:∀C s H fp,PE (qY X (own++fr) a cl C s H fp) a5 te)
  (hs:∀x,foldedSetIterable t X.env x=pure x)
  (I:L2.HN X R0 σ H s)(h:jd own.length js wi g te σ H Q)
  (b6:∀(b5 C:Δ) (s5:Θ) (H':Hp) (m:HH),L2.HN X R0 σ H' s5->s5.heap.Ns C m->O7 X R0 H' C->Q (-b5) H'->compPost (model X.prog X.w) X.A X.xe use Post (-b5) C (.ok .next) s5):
  ε (model X.prog X.w) X.A (comprehension (.ListComp a5 [#[tg,t,[],(0)]] a pos) a X.env c0 (newList []) false (eval t X.env) use) Post X.xe s:=by
 refine wpAny_comprehension_free (use:=use) Z hs a6 S.kind S.names (qz (hi R0 s σ H _ I h) λv s1 h1=>qz h1 λd5 j h2=>?_)
 let#[it,fp,tn,J,H2,e,I2,T,b2,f2,W,#[m0,w0],turn]:=h2;subst e;refine J6 (wpAny_newFunctionEnv S.nocell (by intro y hy;simp at hy) (λA l d=>?_) S.kind)
 dsimp only at l d⊢
 generalize hH2:j.heap.push {cls:= .type "list",dict:=none,data:= .seq ([]:Ζ).toArray}=G at l d⊢
 have hC:G.objs.size=j.heap.objs.size+1:=by rw[<- hH2,JU]
 have M:j.heap.objs.size≠G.objs.size:=by rw[hC];exact Jm (G0 _)
 have E:∀b,b<j.heap.objs.size->b≠G.objs.size/\b≠j.heap.objs.size:=λb w=>#[by rw[hC];exact Jm (Ik w),Jm w]
 have b7:∀b o,j.heap.get? b=↑o->A.get? b=↑o:=λb o e=>d.extBut b o (E b (Jl e)).1 (Jk _ (hH2▸Jk _ e))
 have R:A.get? j.heap.objs.size=some {cls:= .type "list",data:= .seq ([]:Ζ).toArray 0}:=d.extBut _ _ M (Jk _ (hH2▸Jp _ Z))
 let Y:Cx:=qY X (own++fr) a cl G.objs.size j H2 fp
 let#[b8,IY,F,D,a4]:=eV (own:=own) (js:=js) d2 c1 S I2 T b2 f2 hC b7 l
 have U:∀q:Θ,HN Y [] (σ0 own.length js σ) H2 q->tn 0 q.heap->q.heap.get? j.heap.objs.size=some {cls:= .type "list",data:= .seq ([]:Ζ).toArray 0}->
   codeAny (model X.prog X.w) X.A (.compLoop (.ListComp a5 [#[tg,t,[],(0)]] a pos) 0 (-it) (-j.heap.objs.size) (compEnvC a cl G.objs.size X.env))
    (compPost (model X.prog X.w) X.A X.xe use Post (-j.heap.objs.size) G.objs.size) q:=by
  intro q I3 d1 d0;refine mG (λn s'=>∃i ys τ H' f k,HN Y [(j.heap.objs.size,{cls:= .type "list",data:= .seq f.toArray k})] τ H' s'/\tn i s'.heap/\(∀b∈fp,H' b=none)/\HS ys f/\ys.length<=ζ/\W i n ys τ H') ?_ m0 ?_
  .rintro n s4 ⟨i,ys,τ,H4,f,k,I4,b0,b4,vl,hz,w4⟩
   have d3:=I4.pin (j.heap.objs.size,{cls:= .type "list",data:= .seq f.toArray k}) (by simp [Y,qY])
   rcases turn i n ys τ H4 w4 with⟨b3,qn⟩|⟨go,d4,step⟩
   .refine qz (T.done Y Z Z Z hc i _ s4 τ H4 _ I4 (a4 b4 (by simp)) b0 b3) λr s5 O=>?_
    let#[hr,I5]:=O;subst hr
    show compPost _ _ _ _ _ _ _ _ _
    let#[m5,c4,_]:=I5.loc;have a1:=I5.pin (j.heap.objs.size,{cls:= .type "list",data:= .seq f.toArray k}) (by simp [Y,qY])
    have a2:H4 j.heap.objs.size=none:=a1.2.1
    have B:=I5.base;have nC:H4 G.objs.size=none:=I5.free
    let#[z1,z2]:=eU (ob:= .lst ys) I2 f2 hC I5 a2 #[hz,f,k,vl,a1.1]
    exact b6 j.heap.objs.size G.objs.size s5 (HM H4 j.heap.objs.size (.lst ys)) m5 z1 c4 z2 (qn _ a2)
   .refine qz (T.item Y Z Z Z hc i _ s4 τ H4 _ I4 (a4 b4 (by simp)) b0 go) λr s5 O=>?_
    let#[u,hr,h5]:=O;subst hr;refine qz h5 λ_ s6 O=>?_
    let#[x,H6,I6,r6,y6,a7,c3]:=O;have I6':=I6.pinned (a4 c3 (by simp)) (T.obj _ _ a7)
    refine qz (hg _ _ _ _ _ s6 τ H6 x u _ I6' r6 (step x H6 y6)) λ_ s7 O=>?_
    let#[a3,H7,I7,N,hN,q7]:=O;refine qz (he _ _ _ _ _ s7 a3 H7 _ I7 q7) λv' s8 O=>?_
    let#[y,H8,I8,r8,n8]:=O;let#[m',c2,w8]:=hN _ _ n8;have L:=I8.pin (j.heap.objs.size,{cls:= .type "list",data:= .seq f.toArray k}) (by simp [qY])
    have K:∀b∈fp,∀o,s6.heap.get? b=↑o->s8.heap.get? b=↑o/\H8 b=none:=λb w o e=>by
     have:=I8.pin (b,o) (JQ _ (JQ _ (Qu w e)))
     exact#[this.1,this.2.1]
    refine wpAny_list_append_plain (items:=f.toArray) #[k,L.1] (λh' P b1=>?_) (by have:=vl.length;simp;lia)
    let#[k',P]:=P;have I9:HN Y [] a3 H8 {s8 with heap:=h'}:=by
     refine(I8.pins_of (pins':=[]) (by simp)).turned (t':=s8.toks) (it:=j.heap.objs.size) (λb o w e=>(b1.2 b w).trans e) L.2.1 ?_ (.inr (Jf _)) (λx c e=>D x c e) (λp hp=>absurd (show p∈([]:HI)from by simpa [Y,qY]using hp) (by simp))
     exact M
    have ea:(f.toArray.push v')=(f++[v']).toArray:=by simp
    rw[ea]at P;refine#[m',c2,i+1,ys++[y],a3,H8,f++[v'],k',I9.pins_of ?_,T.keep _ _ _ a7 λb w o e=>(b1.2 b (E b (b8 b w)).2).trans (K b w o e).1,λb w=>?_,vl.append (.cons r8 .nil),?_,w8]
    .intro p hp
     rw[Ji.mp hp]
     exact#[P,L.2.1,M,F,λv z=>by cases z]
    .let#[o,e,_]:=T.obj _ _ a7 b w
     exact(K b w o e).2
    .rw[Jy,IM];lia
  .refine#[(0),[],σ0 own.length js σ,H2,[],(0),I3.pins_of ?_,d1,λb w=>(f2 b w).1,.nil,JB _,w0]
   intro p hp;rw[Ji.mp hp]
   exact#[d0,I2.hok.fresh (Jf _),M,F,λv z=>by cases z]
 have a8:tn 0 A:=T.keep _ _ _ b2 λb _ o e=>b7 b o e
 exact codeAny_compStart_list (U _ IY a8 R) (T.self _ 0 _ _ _ a8 (U _ IY a8 R))
theorem C8{a:Scope}{i:List (Str×Δ)}{fr own:Α}
  (hc:X.calm=true)(hi:PI X tg d u)(f:closureFor a X.env=pure i)(n:∀y c,i.lookup y=↑c->X.env.cells.lookup y=↑c)(p:i.map (·.1)=fr)
  (S:MU X a fr js)
  (hg:∀C s H fp,PG (qY X (own++fr) a i C s H fp) tg g)(he:∀C s H fp,PE (qY X (own++fr) a i C s H fp) l te)
  (hs:∀x,foldedSetIterable d X.env x=pure x:=by intro _;rfl):
  PE X (.ListComp l [#[tg,d,[],(0)]] a pos) (jd own.length js u g te):=by
 intro R0 s σ H Q I h;rw[eval_ListComp];refine mM (use:=none) hc hi f n p S hg he hs I h λr C A H' m w v j q=>?_
 exact#[m,v,λh' t=>#[-r,H',w.turned (t':=A.toks) (λb o z e=>(t.2 b z).trans e) j.free j.loc (.inr j.new) j.cell j.pin,Z,q]]
theorem Dh{d:Scope}{r:List (Str×Δ)}{l:Pos}{fr own:Α}{K:TI}{i:Nat}{y:Str}
  (hN:X.N.Nodup)(w:X.N[i]? =↑y)(hx:fQ X.env.scope y)
  (hc:X.calm=true)(hi:PI X tg f K)(n:closureFor d X.env=pure r)(B:∀y c,r.lookup y=↑c->X.env.cells.lookup y=↑c)(A:r.map (·.1)=fr)
  (S:MU X d fr js)
  (hg:∀C s H fp,PG (qY X (own++fr) d r C s H fp) tg g)(he:∀C s H fp,PE (qY X (own++fr) d r C s H fp) j te)
  (hs:∀x,foldedSetIterable f X.env x=pure x:=by intro _;rfl)(F:swapsWith (.ListComp j [#[tg,f,[],(0)]] d pos) ↑(.Name y u) l.line X.env=pure true:=by rfl)
  (hf:X.fn y=true\/X.env.scope.names.lookup y=some .local:=by first|exact .inl Z|exact .inr Z|assumption):
  PS X (.Assign [.Name y u] (.ListComp j [#[tg,f,[],(0)]] d pos) l) (cU (jd own.length js K g te) (Qf i)):=by
 intro R0 s σ H D I h;rw[exec_Assign_Name_used _ _ _ _ F];refine Ja (Ib (Ja ?_))
 show ε _ X.A (do let _ <- comprehension (.ListComp j [#[tg,f,[],(0)]] d pos) d X.env _ (newList []) false (eval f X.env) ↑(assign (.Name y u) X.env)) _ _ s
 refine Ja (Jx (mM (use:=↑(assign (.Name y u) X.env)) (Post:=λ_ s'=>SP X R0 D .next s') hc hi n B A S hg he hs I h ?_) (λ_ s' T=>Jd (Jd T)) λ_ _ e=>e)
 intro t C U H' m M L p q
 show ε _ X.A (assign (.Name y u) X.env (-t)) _ _ _
 refine wpAny_assign_Name (bG (v:= .ref t) M hN w hx Z (λP R N=>?_) hf)
 let#[a,G,O]:=N;have E:C≠a:=by
  rcases O with z|z
  .rw[z];exact p.loc
  .exact Ne.symm (p.cell _ _ z)
 refine#[m,L.sameBut G E,λh' J=>?_]
 exact#[_,H',R.turned (t':=P.toks) (λb o Q e=>(J.2 b Q).trans e) p.free p.loc (.inr p.new) p.cell p.pin,q]
section
variable{K:ι}
abbrev zY(js:Κ)(σ:L2.St):L2.St:=js.map λj=>(σ[j]?).join
abbrev i5(J:It)(js:Κ)(te:TE)(σ:L2.St)(H1:Hp)(Q:VK):Prop:=ji 1 js (Qf 0) te σ Q J H1
theorem eN{J:It}{n:Nat}(hn:n<=ζ)(c:Nat->V->Prop)(Pv:Nat->Ε->Hp->Prop)(j:Pv 0 [] H)(g:∀i ys H,i<n->Pv i ys H->J.go i H)(hst:∀ys H,Pv n ys H->J.stop n H)
  (l:∀i ys H x H',i<n->Pv i ys H->J.yld i H x H'->H'=H/\c i x)
  (hs:∀i ys H x,i<n->ys.length=i->Pv i ys H->c i x->te (↑x::zY js σ) H λv d=>Pv (i+1) (ys++[v]) d)
  (hd:∀ys H,ys.length=n->Pv n ys H->∀p,H p=none->Q (-p) (HM H p (.lst ys))):i5 J js te σ H Q:=by
 exists λi m ys h H=>m=n-i/\i<=n/\ys.length=i/\Pv i ys H/\∃o,h=o::zY js σ,#[n,by simp,JB _,Z,j,none,Z]
 rintro i m ys h H ⟨rfl,hi,f,p,o,rfl⟩
 by_cases a:i<n
 .refine .inr #[g i ys H a p,by lia,λx H' y=>?_]
  let#[e,q]:=l i ys H x H' a p y;subst e
  exact#[λv d=>Pv (i+1) (ys++[v]) d,λv d r=>#[n-(i+1),jN a,Z,a,by simp [f],r,0],hs i ys _ x a f p q]
 .have e:i=n:=by lia
  subst e;exact .inl #[hst ys H p,hd ys H f p]
theorem ZC{xs:Ε}(hn:xs.length<=ζ)(Pv:Nat->Ε->Hp->Prop)(c:Pv 0 [] H)(hl:∀i ys H,Pv i ys H->HQ K H a xs)
  (hs:∀i ys H x,xs[i]? =↑x->ys.length=i->Pv i ys H->te (↑x::zY js σ) H λv d=>Pv (i+1) (ys++[v]) d)
  (hd:∀ys H,ys.length=xs.length->Pv xs.length ys H->∀p,H p=none->Q (-p) (HM H p (.lst ys))):i5 (fF K a) js te σ H Q:=
 eN hn (λi x=>xs[i]? =↑x) Pv c (λi ys H hi p=>#[xs,xs[i],hl _ _ _ p,by simp [hi]]) (λys H p=>#[xs,hl _ _ _ p,Jf _]) (λi ys H x H' _ p y=>#[y.1,y.2 xs (hl _ _ _ p)]) (λi ys H x _ hl p e=>hs i ys H x e hl p) hd
theorem bv{xs:Ε}(hn:xs.length<=ζ)(Pv:Nat->Ε->Hp->Prop)(c:Pv 0 [] H)(hl:∀i ys H,Pv i ys H->HX K H a xs)
  (hs:∀i ys H x,xs[i]? =↑x->ys.length=i->Pv i ys H->te (↑x::zY js σ) H λv d=>Pv (i+1) (ys++[v]) d)
  (hd:∀ys H,ys.length=xs.length->Pv xs.length ys H->∀p,H p=none->Q (-p) (HM H p (.lst ys))):i5 (lE K a) js te σ H Q:=
 eN hn (λi x=>xs[i]? =↑x) Pv c (λi ys H hi p=>#[xs,xs[i],hl _ _ _ p,by simp [hi]]) (λys H p=>#[xs,hl _ _ _ p,Jf _]) (λi ys H x H' _ p y=>#[y.1,y.2 xs (hl _ _ _ p)]) (λi ys H x _ hl p e=>hs i ys H x e hl p) hd
theorem aL{lo:Int}{n:Nat}(hn:n<=ζ)(Pv:Nat->Ε->Hp->Prop)(c:Pv 0 [] H)
  (hs:∀i ys H,i<n->ys.length=i->Pv i ys H->te (↑(.int (lo+i))::zY js σ) H λv d=>Pv (i+1) (ys++[v]) d)
  (hd:∀ys H,ys.length=n->Pv n ys H->∀p,H p=none->Q (-p) (HM H p (.lst ys))):i5 (j9 lo n) js te σ H Q:=
 eN hn (λi x=>x= .int (lo+i)) Pv c (λi ys H hi p=>hi) (λys H p=>Jf _) (λi ys H x H' _ p y=>y) (λi ys H x hi a p e=>by subst e;exact hs i ys H hi a p) hd
end
end L3
namespace L3
open PySem PySem.Spec PyProof.Rows L2
section
theorem gF{h':Ψ}{t':Nat}{ch:Η}{a:Δ}{xs:Ε}(I:L2.HN X R0 σ H s)(k:∀b o,b∉ch->s.heap.get? b=↑o->h'.get? b=↑o)(d:∀b∈ch,Zm X R0 H b)
  (ho:∀b∈ch,∃o,h'.get? b=↑o)(ha:s.heap.objs.size<=a)(hz:xs.length<=ζ)(hv:HS xs its)(l:IsTup h' a its.toArray):L2.HN X R0 σ (HM H a (.tup xs)) {s with heap:=h',toks:=t'}:=by
 have i:H a=none:=I.hok.fresh ha
 have j:∀b o,s.heap.get? b=↑o->b≠a:=λb o e=>Jm (JV (Jl e) ha)
 have h:∀b u,H b=↑u->b∉ch:=λb u e z=>by rw[(d b z).1]at e;cases e
 refine I.step (g':=s.gens) (d':=s.drawn) (ch:=ch) (λb f=>#[(d b f).2.2.2.1,(d b f).2.1,(d b f).2.2.2.2.1,(d b f).2.2.2.2.2]) (λb o _ _ g e _=>k b o g e) (λb o _ _ g e _=>#[o.slots,k b o g e])
  (λb o _ e n=>by rw[qp (j b o e)];exact n) (λb o g e=>#[o,k b o g e]) (λb ys e=>by rw[qp (qm e i)];exact e) (λb o u e=>by rw[qp (qm e i)];exact e)
  (λb ps e=>#[(AA []),by rw[qp (qm e i),e];simp]) (λm p=>?_) (λb u e=>?_) I.bare
 .let#[o,es,ep,ho,r]:=p
  exact#[o,es,ep,k _ o (λz=>(d _ z).2.1 Z) ho,r]
 .by_cases f:b=a
  .subst f
   rw[qb]at e;cases e
   exact#[hz,its,hv,l]
  .rw[qp f]at e
   refine(I.hok b u e).stay (λc v g q=>k c v ?_ q) (λc q=>by rw[qp (qm q i)];exact q) λc ys q=>by rw[qp (qm q i)];exact q
   rcases g with z|z
   .rw[z];exact h b u e
   .exact h c _ z
noncomputable def sL(K:ι)(a:Δ):It:=
 #[λi H=>∃xs x,HQ K H a xs/\xs[i]? =↑x,λi H x H'=>∃p v,H p=none/\x= .ref p/\(∀xs,HQ K H a xs->xs[i]? =↑v)/\H'=HM H p (.tup [.int i,v]),λi H=>∃xs,HQ K H a xs/\xs.length<=i]
theorem kL{K:ι}{x1}(a e it:Δ)(r:e≠it):
  N5 P w K (.Tuple A x1 pos) (sL K a) [e,it] e (λi h=>(∃c,IsEnum h e it i c)/\h.IsListIter it a i) where
 mem:=by simp
 obj:=λi h st b f=>by
  let#[#[c,g],#[o,F,S,hd]]:=st;rcases Jg.mp f with z|z
  .subst z
   refine#[_,g,λv z=>?_]
   have U:Sf _=SJ v:=z
   cases U
  .rw[Ji.mp z]
   exact#[o,F,λv z=>by rw[hd]at z;cases z]
 keep:=λi h h' st k=>#[let⟨c,g⟩:=st.1;#[c,k e (by simp) _ g],st.2.at λo q=>k it (by simp) o q]
 item:=by
  intro X N R O S i R0 s σ H E I C st J;subst N R O;let#[xs,x,D,G]:=J;let#[its,L,p,hz]:=I.list D;let#[u,Y,ru]:=L.get G;let#[#[c,g],j]:=st;refine wpAny_pyNext_enum_item g j p.isList (x:=u) (by simpa using Y) r λh' F n ht a1 hk=>#[0,?_]
  refine wpAny_letOwnedTupleGo_enum F λQ m d=>?_
  have l:e<s.heap.objs.size:=Jl g
  have t:it<s.heap.objs.size:=by let#[_,y,_]:=j;exact Jl y
  exists .ref s.heap.objs.size,HM H s.heap.objs.size (.tup [.int i,x]),?_,Z,#[_,x,I.hok.fresh (Jf _),Z,λys W=>by rw[I.list_inj W D];exact G,Z],#[#[_,by simpa using m],?_]
  .show L2.HN X R0 σ _ {s with heap:=Q,toks:=s.toks+1}
   refine gF (s:=s) (its:=[.int i s.toks,u]) I (ch:=[e,it]) (λb o f q=>?_) C (λb f=>?_) (Jf _) (by show 2<=ζ;decide) (.cons #[0] (.cons ru .nil)) ?_
   .have B:b≠e:=λz=>f (by simp [z])
    have M:b≠it:=λz=>f (by simp [z])
    exact(d.2 b B).trans (hk b o B M q)
   .rcases Jg.mp f with z|z
    .subst z;exact#[_,m]
    .rw[Ji.mp z]
     let#[o,y,_]:=n
     exact#[o,(d.2 it (Ne.symm r)).trans y]
   .exact#[_,(d.2 _ (J1 l)).trans ht,8]
  .exact n.extBut d.extBut (Ne.symm r)
  .intro b f
   rw[qp]
   .exact(C b f).1
   .rcases Jg.mp f with z|z
    .subst z;exact Jm l
    .rw[Ji.mp z];exact Jm t
 done:=by
  intro X N R O S i R0 s σ H E I C st J;subst N R O;let#[xs,D,G]:=J;let#[its,L,p,hz]:=I.list D;let#[#[c,g],j]:=st;let#[f0,f1,f2,f3,T,f5]:=C it (by simp)
  have hl:=L.length;exact wpAny_pyNext_enum_end (I.ok.hd S) g j p.isList (by simp;lia) λh' eb=>#[Z,I.turned (t':=s.toks) (λb o f e=>eb b o f e) f0 f1 f3 T f5]
 self:=λ_ _ _ _ _ st h=>by
  let#[#[c,g],_]:=st;exact LQ g h
noncomputable def BX(K:ι)(ta:TA):TI:=λσ H R=>ta σ H λvs H1=>∃a,vs=[-a]/\(∃xs,HQ K H1 a xs)/\R (sL K a) H1
theorem DJ{a:Φ}{p:Pos}{x1}(hg:Gl X "enumerate")(hm:X.mg "enumerate"=none)(ha:PA X [a] ta)(hs:θ [a] X.env=[(false,eval a X.env)]:=by rfl):
  PI X (.Tuple f x1 g) (.Call (.Name "enumerate" p) [a] [] pos) (BX X.K ta):=by
 intro R0 s σ H R I h;refine Call_ (Zp I hg hm boot_enumerate (Le (qz (ha pos R0 s σ H _ I h) λC c o=>?_) hs Z))
 let#[vs,H1,i,r,A]:=o;let#[l,e,#[xs,w],q]:=A;subst e;let#[u,rfl,y]:=r.one;cases y;let#[n,B,pl,D]:=i.list w;refine call_enumerate_list pl.isList λh' m j v hk=>LQ m ?_
 have x:L2.HN X R0 σ H1 {c with heap:=h'}:=i.kept (t':=c.toks) hk
 refine#[c.heap.objs.size+1,[c.heap.objs.size+1,c.heap.objs.size],15,H1,Z,x,kL l _ _ (J1 (G0 _)),#[#[_,m],j],λb t=>?_,q]
 have d:c.heap.objs.size<=b:=by
  rcases Jg.mp t with z|z
  .rw[z];exact IL _
  .rw[Ji.mp z];exact Jf _
 exact i.fpOk d (i.hok.fresh d)
theorem nN{K:ι}{xs:Ε}{g:TG}{tb:TS}{D:Ng}{σ:L2.St}{H:Hp}(Pv:Nat->L2.St->Hp->Prop)(l:Pv 0 σ H)(hl:∀i σ H,i<=xs.length->Pv i σ H->HQ K H a xs)
  (hs:∀i x σ H p,xs[i]? =↑x->Pv i σ H->H p=none->g (-p) σ (HM H p (.tup [.int i,x])) λd h=>tb {D with nx:=Pv (i+1),ct:=Pv (i+1),bk:=D.nx} d h)(hd:∀σ H,Pv xs.length σ H->D.nx σ H):
  ∃W:Nat->Nat->L2.St->Hp->Prop,(∃m,W 0 m σ H)/\∀i m σ H,W i m σ H->
   ((sL K a).stop i H/\D.nx σ H)\/((sL K a).go i H/\∃N:L2.St->Hp->Prop,(∀c H',N c H'->∃j,j<m/\W (i+1) j c H')/\∀x H',(sL K a).yld i H x H'->g x σ H' λd h=>tb {D with nx:=N,ct:=N,bk:=D.nx} d h):=by
 exists λi m σ H=>m=xs.length-i/\i<=xs.length/\Pv i σ H,#[xs.length,by simp,JB _,l]
 rintro i m σ H ⟨rfl,hi,p⟩
 have q:=hl i σ H hi p
 by_cases f:i<xs.length
 .refine .inr #[#[xs,xs[i],q,by simp [f]],Pv (i+1),λc H' o=>#[xs.length-(i+1),by lia,Z,f,o],λx H' y=>?_]
  let#[s,v,n,rfl,r,rfl]:=y;exact hs i v σ H s (r xs q) p n
 .have e:i=xs.length:=by lia
  subst e;exact .inl #[#[xs,q,Jf _],hd σ H p]
end
def zz(t c:String):Bool:=t==c||(t=="bool"&&c=="int")
abbrev iK:List String:=["NoneType","bool","int","str","list","tuple"]
abbrev iG:List String:=["bool","int","str","list","tuple"]
theorem jH(K:ι):∀t∈iK,∀c∈iG,W.kitOne K (.type t) (.type c)=↑(zz t c):=by
 intro t d c a;simp only[iK,iG,Jg,Jt,Ju]at d a;rcases d with rfl|rfl|rfl|rfl|rfl|rfl<;>rcases a with rfl|rfl|rfl|rfl|rfl<;>kernel_rfl
section
theorem im:zj X (.builtin "isinstance") (λxs H Q=>∃x c t,xs=[x,.ty c]/\NX X.K H x (.type t)/\t∈iK/\c∈iG/\Q (.bl (zz t c)) H):=by
 intro R0 s σ H xs g Q I r h;let#[x,c,t,rfl,ty,e,f,q]:=h;let#[u,v,rfl,d,a]:=gt r
 cases(show v=Γ.type c from a)
 exact vS I d ty (jH X.K t e c f) λtk=>#[.bl _,H,I.tok tk,Z,q]
theorem ng:∀{bs:ν} {us:Ζ},HS (bs.map V.bl) us->us=bs.map Γ.bool
 | [],_,.nil=>rfl
 |b::bs,_,.cons r t=>by
  cases(show _=Γ.bool b from r)
  rw[ng t];rfl
theorem vn(bs:ν):((Ag bs.length).all λi=>(bs[i]?).getD true)=bs.all id:=by
 rw[Iu,IV,IV];constructor
 .intro h b c
  let#[i,hi,e]:=HB.mp c
  have:=h i (JT.mpr hi)
  rw[Jh hi,IP,e]at this;exact this
 .intro h i hi
  have a:=JT.mp hi;rw[Jh a,IP];exact h _ (IH a)
theorem bJ(hc:X.calm=true):zj X (.builtin "all") (λxs H Q=>∃(p:Δ) (bs:ν),xs=[-p]/\HQ X.K H p (bs.map V.bl)/\Q (.bl (bs.all id)) H):=by
 intro R0 s σ H xs z Q I r h;let#[p,bs,rfl,w,q]:=h;let#[u,rfl,n]:=zT r;cases n;let#[c,l,pl,x]:=I.list w;have e:=ng l;have d:=pl.isList;have f:p<s.heap.objs.size:=by let#[_,e,_]:=d;exact Jl e
 refine call_all_walk (LA d ?_)
 refine#[s.heap.objs.size,[s.heap.objs.size,p],[s.heap.objs.size],c.toArray.size,15,λi=>(bs[i]?).getD true,Z,Walks.list (A:=X.A.in1) (I.ok.hd hc) _ p (Jm f) c.toArray,
  #[#[_,Jp _ Z,9],d.push _],λi v s' y E' t g=>?_,λh' tk hk=>?_]
 .have a:c[i]? =↑v:=by simpa using t
  rw[e,Jo]at a;cases eb:bs[i]? with
  |none=>rw[eb]at a;cases a
  |some b=>
   rw[eb]at a
   cases(JE a:Γ.bool b=v)
   simp only[eb,IP]at g;exact IT g
 .have j:((Ag c.toArray.size).all λi=>(bs[i]?).getD true)=bs.all id:=by
   rw[Js,e,Je];exact vn bs
  rw[j];refine#[.bl _,H,I.kept (h':=h') (t':=tk) λb o q=>hk b o (λm=>?_) (Jk _ q),Z,q]
  rw[Ji.mp m]at q;exact Ia _ (Jl q)
theorem ra:zx X (Py .IsNot) (λx y H Q=>∃a b,x= .bl a/\y= .bl b/\Q (.bl (! decide (a=b))) H):=by
 intro R0 s σ H x y v u Q I d c h;let#[a,b,rfl,rfl,q]:=h
 cases(show v=Γ.bool a from d)
 cases(show u=Γ.bool b from c)
 refine wpAny_isNot_plain Z #[.bl _,H,I,?_,q]
 cases a<;>cases b<;>rfl
theorem lF:zj X (.type "range") (λxs H Q=>∃j:Int,xs=[.int j]/\∀p,H p=none->Q (-p) (HM H p (.rng 0 j))):=by
 intro R0 s σ H xs c Q I r h;let#[j,rfl,q]:=h;let#[u,rfl,a]:=zT r;let#[t,rfl]:=a;refine call_range_1 #[-s.heap.objs.size,_,I.laid (o:= .rng 0 j) (λb o e=>Jk _ e) (Jf _) #[39,Jp _ Z],Z,q _ (I.hok.fresh (Jf _))]
theorem t9(hc:X.calm=true):zj X (.type "list") (λxs H Q=>∃(p:Δ) (j:Nat),xs=[-p]/\H p=↑(.rng 0 (j:Int))/\j<=2 ^ 24/\∀l,H l=none->Q (-l) (HM H l (.lst ((Ag j).map λi=>V.int (i:Nat))))):=by
 intro R0 s σ H xs d Q I r h;let#[p,j,rfl,z,x,q]:=h;let#[u,rfl,A]:=zT r;cases A;let#[t,u,v,e]:=I.hok p _ z;refine call_list_range (n:=j) (I.ok.hd hc) (show IsRange s.heap p 0 (j:Int) 1 t u v from e) (small_one (by lia) (by lia) (by lia) (by lia)) (by rw[rangeSize_one];split<;>lia) x λh' tk c c' hk o a=>?_
 refine#[-s.heap.objs.size,_,I.laid (h':=h') (t':=tk) hk (Jf _) ?_,Z,q _ (I.hok.fresh (Jf _))]
 have w:∀(d:Ζ) (n k:Nat),d.length=n->(∀i v,d[i]? =↑v->∃t,v=Γ.int ((k+i:Nat):Int) t)->HS ((List.range' k n).map λi=>V.int (i:Nat)) d:=by
  intro d
  induction d with
  |nil=>intro n k m _;cases m;exact .nil
  |cons u d ih=>
   intro n k m y;cases n with
   |zero=>cases m
   |succ n=>
    rw[ON,JS];let#[t,f]:=y 0 u Z;refine .cons #[t,by simpa using f] (ih n (k+1) (by simpa using m) λi v hi=>?_)
    let#[t,f]:=y (i+1) v hi
    exact#[t,by rw[f];congr 1;lia]
 have g:HS ((Ag j).map λi=>V.int (i:Nat)) c.toList:=by
  rw[OO];refine w _ _ 0 (by rw[Jq];exact a.1) λi v hi=>?_
  let#[t,f]:=a.2 i v (by rw[<- KI];exact hi)
  exact#[t,by rw[f];congr 1;lia]
 exact#[by simp only[Je,E1];exact JN x (by rw[JD];decide),c.toList,c',g,o]
inductive RH (x:V)(lo:Λ)(hi:Λ)(H:Hp)(Q:VK):Prop
 |mk (a:_)(xs:_)(h1:x= .ref a)(h2:H a=↑(.tup xs))(h3:∀p H',HJ H H'->H' p=↑(.tup (Q4 xs lo hi))->(p=a\/H p=none)->Q (-p) H')
def Gx:V->Λ->Λ->Hp->VK->Prop:=λx lo hi H Q=>RH x lo hi H Q
theorem fA{s:Θ}{lo:Λ}{Q:HG}(a:IsTup s.heap t items)(hs:s.heap.IsSliceOf f i g .none)(pl:IsPart i lo)(n:IsPart g hi)
  (hw:HT.sIx items.size 0 lo=0/\HT.sIx items.size items.size hi=items.size)(h:Q (-t) s):ε (model prog w) A (getItem (-t) (-f)) Q E s:=by
 let#[j,e,d,l]:=id hs;have c:s.TypeIs (-f) "slice":=#[j,e,d]
 unfold getItem
 try with_reducible refine JM ?_
 first|refine Ja (Jd ?_)|skip
 refine Ja (wpAny_sequenceKey a.typeIs ⋯ ?_)
 refine Ja (wpAny_callSpecial?_slot (name:=RS "__getitem__") a.typeIs L6
  (JY L6 a.typeIs entry_tuple_getitem ?_ (args_tuple_getitem _ _)))
 show ε _ _ (γ.Tuple.tupleItemsOf (-t) >>= _) _ _ s
 refine Ja (tupleItemsOf_ a ?_)
 refine Ja (LC c ?_)
 rw[Jc ⋯]
 refine Ja (HT.sliceApplied_gen hs pl n ?_)
 show ε _ _ (if(((HT.sIx items.size 0 lo:Nat):Int)==0&&(1:Int)==1&&(HT.sIx items.size items.size hi-HT.sIx items.size 0 lo)==items.size)=true then _ else _) _ _ s
 rw[hw.1,hw.2,Jc (by simp)]
 refine Ja (m:=γ.Tuple.tupleIsExact _) ?_
 unfold γ.Tuple.tupleIsExact;refine Ja (LC a.typeIs (Jd ?_))
 rw[Jc (by rfl)]
 exact Ja (Ih (Jd #[0,Jd h]))
theorem cO:xt X Gx:=by
 intro R0 s σ H x v w t lo hi u Q I j m pl n h;let#[a,xs,rfl,g,q]:=h
 by_cases d:HT.sIx xs.length 0 lo=0/\HT.sIx xs.length xs.length hi=xs.length
 .cases j
  let#[f,r,l,y]:=I.tuple (HX.of g)
  have c:f.toArray.size=xs.length:=by rw[Js];exact r.length.symm
  exists "tuple",_,PyProof.Rows.slot_tuple_getitem.lookup,l.typeIs
  refine fA l m pl n (by rw[c];exact d) #[-a,H,I,Z,q a H (HJ.refl H) ?_ (.inl Z)]
  have:Q4 xs lo hi=xs:=by unfold Q4;rw[d.1,d.2];simp
  rw[this];exact g
 .exact Ft R0 s σ H _ v w t lo hi u Q I j m pl n #[a,xs,Z,HX.of g,d,λp i=>q p _ (λb o e=>by rw[qp (qm e i)];exact e) qb (.inr i)]
inductive Ri (x:V)(y:V)(H:Hp)(Q:VK):Prop
 |mk (a:_)(b:_)(xs:_)(ys:_)(h1:x= .ref a)(h2:y= .ref b)(h3:H a=↑(.tup xs))(h4:H b=↑(.tup ys))(h5:xs.length+ys.length<=ζ)(h6:∀p H',HJ H H'->H' p=↑(.tup (xs++ys))->Q (-p) H')
def Ge:R2:=λx y H Q=>Ri x y H Q
theorem ZX:zx X (binaryOp .Add) Ge:=by
 intro R0 s σ H x y v u Q I t A h;let#[a,b,xs,ys,rfl,rfl,i,j,K,q]:=h
 by_cases z:xs=[]
 .subst z
  cases t;cases A;let#[F,N,L,_]:=I.tuple (HX.of i)
  let#[c,P,p2,_]:=I.tuple (HX.of j)
  cases N;let#[#[J,O,C,M],w,E,n,B]:=id L;let#[#[D,l,m,r],f,d,n2,g]:=id p2;simp only at E B d g
  subst E B d g;exact concat_meets #[_,w,Z] #[_,f,Z] noFill_tuple_add seq_tuple_add Mr Ms (Mu _ _)
   (tuple_addW0 a b _ c.toArray n n2 O l M r (by simp)) #[w,f,#[-b,H,I,Z,q b H (HJ.refl H) j]]
 .refine rY R0 s σ H _ _ v u Q I t A #[a,b,xs,ys,9,HX.of i,HX.of j,z,K,λe=>q a H (HJ.refl H) (by subst e;simpa using i),λ_ p G=>q p _ (λb o e=>by rw[qp (qm e G)];exact e) qb]
theorem aQ{ns:Β}(r:HS (ns.map V.int) us)(j:Nat)(h:j<us.length)(h':j<ns.length):∃t,us[j]=Γ.int ns[j] t:=by
 let#[u,a,c]:=r.get (i:=j) (x:=V.int ns[j]) (by rw[Jo,Jh h'];rfl)
 rw[Jh h]at a;cases a;exact c
theorem oF(ns ms:Β)(h:ns.length=ms.length):((Ag ns.length).all λj=>(ns.getD j 0==ms.getD j 0))=decide (ns=ms):=by
 rw[Iu,IV,LS];constructor
 .intro q
  refine KD h λi h1 a=>?_
  have:=q i (JT.mpr h1)
  simp only[JG,Jh h1,Jh a,IP,J7]at this;exact this
 .rintro rfl i _
  simp
inductive RI (K:ι)(neg:Bool)(x:V)(y:V)(H:Hp)(Q:VK):Prop
 |mk (a b:Δ)(ns ms:Β)(h1:x= .ref a)(h2:y= .ref b)(h3:HQ K H a (ns.map V.int))(h4:HQ K H b (ms.map V.int))(h5:Q (.bl (if neg then ! decide (ns=ms)else decide (ns=ms))) H)
def GG(K:ι)(a:Bool):R2:=λx y H Q=>RI K a x y H Q
theorem El(hu:X.A.units+1<cLine):zx X (Py .Eq) (GG X.K false):=by
 intro R0 s σ H x y v u Q I r B h;let#[a,b,g,f,rfl,rfl,w,C,q]:=h;cases r;cases B;let#[d,p,n,_]:=I.list w;let#[c,m,p2,_]:=I.list C;have D:g.length=d.length:=by have:=p.length;rwa [Je]at this
 have E:f.length=c.length:=by have:=m.length;rwa [Je]at this
 by_cases o:g.length=f.length
 .refine SeqAt.eq_listAt (e:=λj=>g.getD j 0==f.getD j 0) n.isList p2.isList (by simp;lia) (OP hu) (λj h1 A=>?_) #[.bl _,H,I,?_,q]
  .have l:j<d.length:=by simpa using h1
   have i:j<c.length:=by simpa using A
   let#[t,e]:=aQ p j l (by lia)
   let#[F,e']:=aQ m j i (by lia)
   simp only[KM,e,e',JG,Jh (show j<g.length by lia),Jh (show j<f.length by lia),IP]
   exact Ss _ _ _ _
  .show Γ.bool _=Γ.bool _
   simp only[Js,<- D,oF g f o];rfl
 .refine SeqAt.eq_list_lengthsAt n.isList p2.isList (by simp;lia) (OP hu) #[.bl _,H,I,?_,q]
  show Γ.bool false=Γ.bool _
  simp only[D2,JH];rw[Jn λz=>o (by rw[z])]
end
def Qj:Φ->Bool
 | .Starred .. =>false
 |_=>true
theorem ZF{es:Ι}(h:Qj e=true):θ (e::es) a=(false,eval e a)::θ es a:=by
 cases e<;>first|rfl|cases h
theorem GY(ha:PE X e te)(hr:PA X es t)(h:Qj e=true:=by rfl):PA X (e::es) (um te t):=CF ha hr (ZF h)
structure Df(P:Ξ)(w:Ω)(K:ι)(mg:HH)(base:Ψ)(x:Str)(ps:Α)(k:Nat)(sp:Sp):Prop where
 ex:∃(f:Δ) (fd:FuncData),NU P w K mg base be k f fd ps sp/\mg x=↑(-f)/\SR K (-f)=true/\NH K fd ps []
structure At(K:ι)(mg:HH)(x:Str)(st:δ)(ps:Α):Prop where
 ex:∃(f:Δ) (fd:FuncData),OL K x x st f fd/\mg x=↑(-f)/\SR K (-f)=true/\NH K fd ps []
section
variable{K:ι}{k:Nat}
theorem At.df{x:Str}{st:δ}{ps N:Α}{k:Nat}{sp:Sp}(a:At K mg x st ps)(S:HK N ps (qi st))(len:∀vs H Q E,sp vs H Q E->vs.length=ps.length)
  (d:∀(f:Δ) (cdv:Γ) (A:Rj) (c:Τ) (s:Θ) (H:Hp) (vs:Ε) (Q:VK) (E:XK),MK k (A.deeper (envOfC x (qi st) s.heap.objs.size f cdv))->sp vs H Q E->
   ∃t,On (cr be P w K mg base N x (qi st) f cdv A c s H E).nox (zR st) t/\t {nx:=λ_ H'=>Q .non H',rt:=Q} (Zq N vs) H):Df P w K mg base x ps (k+1) sp:=by
 let#[f,fd,F,m,g,bd]:=a.ex
 exact#[f,fd,F.ok S len (λcdv A c s H vs Q E e h=>d f cdv A c s H vs Q E e h),m,g,bd]
theorem Ee(D:Df X.prog X.w X.K X.mg X.base x ps k sp)(hr:MK k X.A)(ha:PA X (e::es) t)(hg:Gl X x:=by rfl)(hdb:(x==("__debug__":Str))=false:=by decide)(he:θ (e::es) X.env=(false,eval e X.env)::θ es X.env:=by rfl)(hpl:(backTo pos (θ es X.env)).any (·.1)=false:=by rfl):
  PE X (.Call (.Name x p) (e::es) [] pos) (uT sp [] E0 t):=by
 let#[f,fd,ok,m,a,bd]:=D.ex;exact CD ok hr hg m a bd .nil mB ha hdb he hpl
end
theorem cf{a:Scope}(f:a.kind= .function)(d:∀x∈a.names,x.2= .local->a.names.lookup x.1=some .local)(c:∀x∈a.names,x.2≠ .cell)
  (e:∀x∈a.names,x.2= .free->x.1∈([]:Α)):MU X a [] []:=#[f,d,c,e,Z,λi j y h=>by simp at h]
theorem fO{X:Cx}{a:Scope}{y:Str}{j:Nat}(f:a.kind= .function)(d:∀x∈a.names,x.2= .local->a.names.lookup x.1=some .local)(c:∀x∈a.names,x.2≠ .cell)
  (e:∀x∈a.names,x.2= .free->x.1∈([y]:Α))(h1:X.N[j]? =↑y)(h2:X.env.kindOf y=some .cell)(l:(relabel a X.env).names.lookup y=some .cell):MU X a [y] [j]:=
 #[f,d,c,e,Z,λi m n g h=>by
  cases i with
  |zero=>cases g;cases h;exact#[h1,h2,l]
  |succ i=>simp at g]
theorem fD{X:Cx}{c:Δ}(h:X.env.cells.lookup y=↑c):∀z d,([(y,c)]:List (Str×Δ)).lookup z=↑d->X.env.cells.lookup z=↑d:=λz d e=>by
 by_cases a:z=y
 .subst a
  simp at e
  rw[<- e];exact h
 .simp [Iv,show(z==y)=false from by simpa using a]at e
theorem jY{X:Cx}{K:ι}(h:X.K=K):PN X (Ae K):=by subst h;exact qN
abbrev ui(n m k:Int):HO:= .lst [.int n,.int m,.int k]
theorem _root_.L2.HJ.upd{H:Hp}(h:H p=none):HJ H (HM H p o):=λb u e=>by rw[qp (qm e h)];exact e
theorem xk(c:Bool): -(2 ^ 64:Int)<(if c=true then(1:Int)else 0):=by cases c<;>decide
theorem xz(c:Bool):(if c=true then(1:Int)else 0)<(2 ^ 64:Int):=by cases c<;>decide
theorem sN{n j:Nat}(h:j<n):cD n (j:Int)=↑j:=by unfold cD;rw[Jc (by lia),Jc (by lia)];simp
noncomputable def ZI(ns:Β)(lo hi:Λ):Β:=(ns.drop (HT.sIx ns.length 0 lo)).take (HT.sIx ns.length ns.length hi-HT.sIx ns.length 0 lo)
theorem aY(ns:Β)(lo hi:Λ):Q4 (ns.map V.int) lo hi=(ZI ns lo hi).map V.int:=by unfold Q4 ZI;rw[Je,Kt,OQ]
theorem AI(ns:Β)(lo hi:Λ):(ZI ns lo hi).length=min (HT.sIx ns.length ns.length hi-HT.sIx ns.length 0 lo) (ns.length-HT.sIx ns.length 0 lo):=by unfold ZI;rw[G5,LP]
theorem Q9{ns:Β}{i:Nat}{x:V}(h:(ns.map V.int)[i]? =↑x):∃z,x= .int z/\ns[i]? =↑z:=by
 rw[Jo]at h;cases e:ns[i]? with
 |none=>rw[e]at h;cases h
 |some z=>rw[e]at h;exact#[z,(JE h).symm,Z]
theorem jP{ns:Β}{i:Nat}(h:i<ns.length):(ns.map V.int)[i]? =↑(.int ns[i]):=by rw[Jo,Jh h];rfl
theorem cV(ns:Β)(i:Nat)(z:Int):(ns.map V.int).set i (.int z)=(ns.set i z).map V.int:=by rw[List.map_set]
noncomputable def Cc:Option HO->Option String
 |some (.lst _)=>↑"list"
 |some (.tup _)=>↑"tuple"
 |_=>none
noncomputable def kd(H:Hp):V->Option String
 | .non=>↑"NoneType"
 | .bl _=>↑"bool"
 | .int _=>↑"int"
 | .str _=>↑"str"
 | .ref a=>Cc (H a)
 |_=>none
theorem wB{t:String}(h:Cc o=↑t):(∃xs,o=↑(.lst xs)/\t="list")\/(∃xs,o=↑(.tup xs)/\t="tuple"):=by
 cases o with
 |none=>cases h
 |some u=>
  cases u with
  |lst xs=>cases h;exact .inl #[xs,9]
  |tup xs=>cases h;exact .inr #[xs,9]
  |_=>cases h
theorem je{t:String}(h:kd H (-a)=↑t):(∃xs,H a=↑(.lst xs)/\t="list")\/(∃xs,H a=↑(.tup xs)/\t="tuple"):=wB h
theorem FU{K:ι}{t:String}(h:kd H x=↑t):NX K H x (.type t)/\t∈iK:=by
 cases x with
 |non=>cases h;exact#[.non,by simp]
 |bl b=>cases h;exact#[.bl b,by simp]
 |int i=>cases h;exact#[.int i,by simp]
 |str x=>cases h;exact#[.str x,by simp]
 |byt b=>cases h
 |flt b=>cases h
 |ty b=>cases h
 |ref a=>
  rcases je h with⟨xs,e,rfl⟩|⟨xs,e,rfl⟩
  .exact#[.lst e,by simp]
  .exact#[.tup e,by simp]
theorem gD{t:String}(s:HJ H H')(h:kd H x=↑t):kd H' x=↑t:=by
 cases x with
 |ref a=>
  rcases je h with⟨xs,e,rfl⟩|⟨xs,e,rfl⟩
  .show Cc (H' a)=_;rw[s _ _ e];rfl
  .show Cc (H' a)=_;rw[s _ _ e];rfl
 |_=>exact h
def eM:V->Bool
 | .int i=>decide (0<=i)&&decide (i<16)
 |_=>false
theorem ZY{d:Type}{xs:List d}{r:Int}(c:0<=r)(h1:r<xs.length):∃v,QJ xs r=↑v/\v∈xs:=by
 have a:=GS c h1;refine#[xs[r.toNat],?_,IH a]
 have e:QJ xs ((r.toNat:Nat):Int)=some xs[r.toNat]:=Qs (Jh a)
 rwa [show((r.toNat:Nat):Int)=r by lia]at e
inductive mj(K:ι)(vs:Ε)(H:Hp)(Q:VK)(_:XK):Prop
 |mk (a:Δ)(ns:Β)(h1:vs=[-a])(h2:HQ K H a (ns.map V.int))(h3:ns.length<=63)(h4:∀H',Q (.bl true) H')
inductive tf(vs:Ε)(H:Hp)(Q:VK)(_:XK):Prop
 |mk (x:_)(t:_)(h1:vs=[x])(h2:kd H x=↑t)(h3:Q (.bl (eM x)) H)
inductive nK(vs:Ε)(H:Hp)(Q:VK)(_:XK):Prop
 |mk (p:_)(xs:_)(h1:vs=[-p])(h2:H p=↑(.tup xs))(h3:xs.length<=ζ)(h4:(∀x∈xs,∃t,kd H x=↑t))(h5:∀H',HJ H H'->Q (.bl (xs.all eM)) H')
end L3
namespace L3
open PySem PySem.Spec L2
structure QE(X:Cx)(e:Φ)(t:TE):Prop where
 h:PE X e t
structure QT(X:Cx)(e:Φ)(t:TT):Prop where
 h:PT X e t
structure QW(X:Cx)(e:Φ)(t:TT):Prop where
 h:PW X e t
structure QA(X:Cx)(e:Ι)(t:TA):Prop where
 h:PA X e t
structure QS(X:Cx)(e:δ)(t:TS):Prop where
 h:PS X e t
structure O9(X:Cx)(e:List δ)(t:TS):Prop where
 h:On X e t
structure QG(X:Cx)(e:Φ)(t:TG):Prop where
 h:PG X e t
structure Rk(X:Cx)(e:Ι)(t:ZV):Prop where
 h:rN X e t
structure QO(X:Cx)(e:μ)(t:TO):Prop where
 h:PO X e t
structure QI(X:Cx)(tg e:Φ)(t:TI):Prop where
 h:PI X tg e t
theorem qf{i j pos}:QE X (.Constant (.int i) j pos) (tC (.int i)):=#[Fm]
theorem Zg{b j pos}:QE X (.Constant (.bool b) j pos) (tC (.bl b)):=#[FT]
theorem qP{j pos}:QE X (.Constant .none j pos) (tC .non):=#[FG]
theorem qy{x j pos}:QE X (.Constant (.str x) j pos) (tC (.str x)):=#[EW]
theorem zm{u:Γ}(hg:Gl X x)(hm:X.mg x=↑u)(r:HV v u)(hd:(x==("__debug__":Str))=false:=by decide):QE X (.Name x pos) (tC v):=#[Dv (hg:=hg) (hm:=hm) (r:=r) (hd:=hd)]
theorem qH{u:Γ}(hg:Gl X x)(hm:X.mg x=none)(hv:bootBuiltins x=↑u)(r:HV v u)(hn:x≠"__name__":=by decide)(hd:(x==("__debug__":Str))=false:=by decide):QE X (.Name x pos) (tC v):=#[CC (hg:=hg) (hm:=hm) (hv:=hv) (r:=r) (hn:=hn) (hd:=hd)]
theorem qr{b:Φ}{op:Operator}(ho:zx X (binaryOp op) r)(ha:QE X a ta)(hb:QE X b tb):QE X (.BinOp a op b pos) (kh r ta tb):=#[FN (ho:=ho) (ha:=ha.h) (hb:=hb.h)]
theorem mw{op:UnaryOp}{r:V->Hp->VK->Prop}(ho:Cf X (unaryOp op) r)(ha:QE X a ta):QE X (.UnaryOp op a pos) (Gp r ta):=#[FK (ho:=ho) (ha:=ha.h)]
theorem ze{b:Φ}{op:CmpOp}(ho:zx X (Py op) r)(ha:QE X a ta)(hb:QE X b tb)(hm:behindInMarks op b=false):QE X (.Compare a [op] [b] pos) (kh r ta tb):=#[Cv (ho:=ho) (ha:=ha.h) (hb:=hb.h) (hm:=hm)]
theorem qw{b:Φ}{op:CmpOp}(ho:zx X (Py op) r)(ha:QE X a ta)(hb:QE X b tb)(hm:behindInMarks op b=false):QT X (.Compare a [op] [b] pos) (gC (kh r ta tb)):=#[CU (ho:=ho) (ha:=ha.h) (hb:=hb.h) (hm:=hm)]
theorem iE{b:Φ}{op d:CmpOp}(ho:zx X (Py op) r)(ho':zx X (Py d) e)(ha:QE X a ta)(hb:QE X b tb)(hc:QE X c tc)(hm:lastMarks [op,d] [b,c]=false:=by with_unfolding_all rfl):QE X (.Compare a [op,d] [b,c] pos) (jq r e ta tb tc):=#[AD (ho:=ho) (ho':=ho') (ha:=ha.h) (hb:=hb.h) (hc:=hc.h) (hm:=hm)]
theorem m9{b:Φ}{op d:CmpOp}(ho:zx X (Py op) r)(ho':zx X (Py d) e)(ha:QE X a ta)(hb:QE X b tb)(hc:QE X c tc)(hm:lastMarks [op,d] [b,c]=false:=by with_unfolding_all rfl):QT X (.Compare a [op,d] [b,c] pos) (gC (jq r e ta tb tc)):=#[Am (ho:=ho) (ho':=ho') (ha:=ha.h) (hb:=hb.h) (hc:=hc.h) (hm:=hm)]
theorem zG{b:Φ}{rest:Ι}(ha:QE X a ta)(hb:QE X (.BoolOp .And (b::rest) pos) tb):QE X (.BoolOp .And (a::b::rest) pos) (B0 ta tb):=#[Ej (ha:=ha.h) (hb:=hb.h)]
theorem QH{op}(h:QE X a t):QE X (.BoolOp op [a] pos) t:=#[EX (h:=h.h)]
theorem bz(ha:QE X a ta):QE X (.UnaryOp .Not a pos) (B2 ta):=#[Fp (ha:=ha.h)]
theorem bm{b:Φ}{rest:Ι}(ha:QT X a tA)(hb:QW X (.BoolOp .And (b::rest) pos) tB'):QW X (.BoolOp .And (a::b::rest) pos) (Fy tA tB'):=#[Eg (ha:=ha.h) (hb:=hb.h)]
theorem Qd{b:Φ}{rest:Ι}(ha:QT X a tA)(hb:QW X (.BoolOp .Or (b::rest) pos) tB'):QW X (.BoolOp .Or (a::b::rest) pos) (Gu tA tB'):=#[F6 (ha:=ha.h) (hb:=hb.h)]
theorem aM(ha:QT X a tA):QW X (.BoolOp .And [a] pos) tA:=#[De (ha:=ha.h)]
theorem zP(ha:QT X a tA):QW X (.BoolOp .Or [a] pos) tA:=#[Fb (ha:=ha.h)]
theorem Qk(ha:QT X a tA):QT X (.UnaryOp .Not a pos) (Ev tA):=#[Fr (ha:=ha.h)]
theorem zk(h:QE X e t)(he:∀a,isTrue e X.env a=(do let v <- a;standAt e.pos;holding [v] (truthy v)):=by intro _;rfl):QT X e (tB t):=#[FA (h:=h.h) (he:=he)]
theorem Aw{b:Φ}(hc:QT X c tA)(ha:QE X a ta)(hb:QE X b tb):QE X (.IfExp c a b pos) (Gt tA ta tb):=#[Aj (hc:=hc.h) (ha:=ha.h) (hb:=hb.h)]
theorem qc(ha:QE X e te)(hr:QA X es t)(h:Qj e=true:=by rfl):QA X (e::es) (um te t):=#[GY (ha:=ha.h) (hr:=hr.h) (h:=h)]
theorem qa:QA X [] Ad:=#[Ek]
theorem qu{x1}(h:QA X es t):QE X (.Tuple es x1 pos) (E7 t):=#[ER (h:=h.h)]
theorem q9(h:QA X es t):QE X (.List es pos) (Fi t):=#[E3 (h:=h.h)]
theorem qx{b:Φ}(hr:PN X r)(ha:QE X a ta)(hb:QE X b tb)(hs:rO b:=by exactλ_ _=>rfl):QE X (.Subscript a b pos) (kh r ta tb):=#[Gf (hr:=hr) (ha:=ha.h) (hb:=hb.h) (hs:=hs)]
theorem QQ{lo:μ}{r:V->Λ->Λ->Hp->VK->Prop}(hr:xt X r)(he:QE X e te)(hl:QO X lo tl)(hu:QO X hi th):QE X (.Subscript e (.Slice lo hi none p2) pos) (Gr r te tl th):=#[AK (hr:=hr) (he:=he.h) (hl:=hl.h) (hu:=hu.h)]
theorem Ze:QO X none sH:=#[CI]
theorem Zh(h:QE X e te):QO X ↑e (Ch te):=#[CY (h:=h.h)]
theorem qk{x:Str}{p pos:Pos}{e:Φ}{es:Ι}{t:TA}{id:String}{r:Ε->Hp->VK->Prop}(hc:zj X (.builtin id) r)(hm:X.mg x=none)(hv:bootBuiltins x=↑(.builtin id))(ha:QA X (e::es) t)(hg:Gl X x:=by rfl)(hn:x≠"__name__":=by decide)(hdb:(x==("__debug__":Str))=false:=by decide)(he:θ (e::es) X.env=(false,eval e X.env)::θ es X.env:=by rfl)(hpl:(backTo pos (θ es X.env)).any (·.1)=false:=by rfl):QE X (.Call (.Name x p) (e::es) [] pos) (BU r t):=#[AU (hc:=hc) (hg:=hg) (hm:=hm) (hv:=hv) (ha:=ha.h) (hn:=hn) (hdb:=hdb) (he:=he) (hpl:=hpl)]
theorem qI{pos:Pos}{e:Φ}{es:Ι}{r:Ε->Hp->VK->Prop}(hc:zj X (.type T) r)(hm:X.mg x=none)(hv:bootBuiltins x=↑(.type T))(ha:QA X (e::es) t)(hg:Gl X x:=by rfl)(hn:x≠"__name__":=by decide)(hdb:(x==("__debug__":Str))=false:=by decide)(he:θ (e::es) X.env=(false,eval e X.env)::θ es X.env:=by rfl)(hpl:(backTo pos (θ es X.env)).any (·.1)=false:=by rfl):QE X (.Call (.Name x p) (e::es) [] pos) (BU r t):=#[wx (hc:=hc) (hg:=hg) (hm:=hm) (hv:=hv) (ha:=ha.h) (hn:=hn) (hdb:=hdb) (he:=he) (hpl:=hpl)]
theorem qo{k:Nat}{e:Φ}{es:Ι}{pos:Pos}(D:Df X.prog X.w X.K X.mg X.base x ps k sp)(hr:MK k X.A)(ha:QA X (e::es) t)(hg:Gl X x:=by rfl)(hdb:(x==("__debug__":Str))=false:=by decide)(he:θ (e::es) X.env=(false,eval e X.env)::θ es X.env:=by rfl)(hpl:(backTo pos (θ es X.env)).any (·.1)=false:=by rfl):QE X (.Call (.Name x p) (e::es) [] pos) (uT sp [] E0 t):=#[Ee (D:=D) (hr:=hr) (ha:=ha.h) (hg:=hg) (hdb:=hdb) (he:=he) (hpl:=hpl)]
theorem qt:O9 X [] BZ:=#[Dn]
theorem qd(h1:QS X st t)(h2:O9 X rest u):O9 X (st::rest) (fV t u):=#[AV (h1:=h1.h) (h2:=h2.h)]
theorem qe(h1:QS X st t):O9 X [st] t:=#[CV (h1:=h1.h)]
theorem qA{pos:Pos}{i:Nat}{x:Str}(hN:X.N.Nodup)(hi:X.N[i]? =↑x)(hx:fQ X.env.scope x)(he:QE X e te)(hs:swapsWith e ↑(.Name x pos') pos.line X.env=pure false:=by rfl)(hf:X.fn x=true\/X.env.scope.names.lookup x=some .local:=by first|exact .inl Z|exact .inr Z|assumption):QS X (.Assign [.Name x pos'] e pos) (cU te (Qf i)):=#[Ea (hN:=hN) (hi:=hi) (hx:=hx) (he:=he.h) (hs:=hs) (hf:=hf)]
theorem za{pos:Pos}(he:QE X e te)(hg:QG X tg g)(hs:swapsWithSole [tg] e pos.line X.env=pure false:=by rfl)(hw:swappedStores [tg] e X.env=pure none:=by rfl)(h1:(assignEach [tg] X.env).map (·.2)=[assign tg X.env]:=by rfl):QS X (.Assign [tg] e pos) (cU te g):=#[DT (he:=he.h) (hg:=hg.h) (hs:=hs) (hw:=hw) (h1:=h1)]
theorem qj(he:QE X e te):QS X (.Return ↑e pos) (D3 te):=#[Fo (he:=he.h)]
theorem qB{b:List δ}(hc:QT X c tc)(ha:O9 X a t)(hb:O9 X b u):QS X (.If c a b pos) (tR tc t u):=#[Gb (hc:=hc.h) (ha:=ha.h) (hb:=hb.h)]
theorem zf(hp:PassesOwn (model X.prog X.w) X.A X.env X.xe)(hc:X.calm=true)(hi:QI X tg a d)(hg:QG X tg g)(hb:O9 X c tb)(hs:∀x,foldedSetIterable a X.env x=pure x:=by intro _;rfl):QS X (.For tg a c [] pos) (Bv d g tb):=#[FH (hp:=hp) (hc:=hc) (hi:=hi.h) (hg:=hg.h) (hb:=hb.h) (hs:=hs)]
theorem zc{pos:Pos}(he:QE X e te)(hs:swapsWith e none pos.line X.env=pure false:=by rfl):QS X (.Expr e pos) (Cn te):=#[C4 (he:=he.h) (hs:=hs)]
theorem Dc{d:V->V->Hp->VK->Prop}(ho:QE X o to)(hi:QE X i l)(hg:AX X d)(he:QE X e te)(hp:Ff X op f)(hs:mD X c)(ha:∀h j a,augStore i h j a=(do holding [a,h,j] (setItem h j a);release [a,h,j] [];pure .next):=by intros;rfl):QS X (.AugAssign (.Subscript o i g) op e pos) (B7 to l te d f c):=#[Dx (ho:=ho.h) (hi:=hi.h) (hg:=hg) (he:=he.h) (hp:=hp) (hs:=hs) (ha:=ha)]
theorem zv(hl:QE X l tl):QI X tg l (Co X.K tl):=#[Cr (hl:=hl.h)]
theorem aq(hl:QE X l tl):QI X tg l (Fz X.K tl):=#[Ey (hl:=hl.h)]
theorem zM{a:Φ}{p:Pos}(hg:Gl X "range")(hm:X.mg "range"=none)(ha:QA X [a] ta)(hs:θ [a] X.env=[(false,eval a X.env)]:=by rfl):QI X tg (.Call (.Name "range" p) [a] [] pos) (BR ta):=#[wU (hg:=hg) (hm:=hm) (ha:=ha.h) (hs:=hs)]
theorem kR{a b:Φ}{p:Pos}(hg:Gl X "range")(hm:X.mg "range"=none)(ha:QA X [a,b] ta)(hs:θ [a,b] X.env=[(false,eval a X.env),(false,eval b X.env)]:=by rfl)(hs2:θ [b] X.env=[(false,eval b X.env)]:=by rfl):QI X tg (.Call (.Name "range" p) [a,b] [] pos) (Cq ta):=#[vX (hg:=hg) (hm:=hm) (ha:=ha.h) (hs:=hs) (hs2:=hs2)]
theorem DL{a:Φ}{p:Pos}{x1}(hg:Gl X "enumerate")(hm:X.mg "enumerate"=none)(ha:QA X [a] ta)(hs:θ [a] X.env=[(false,eval a X.env)]:=by rfl):QI X (.Tuple d x1 c) (.Call (.Name "enumerate" p) [a] [] pos) (BX X.K ta):=#[DJ (hg:=hg) (hm:=hm) (ha:=ha.h) (hs:=hs)]
theorem qg{i:Nat}{x:Str}(hN:X.N.Nodup)(hi:X.N[i]? =↑x)(hx:fQ X.env.scope x)(hf:X.fn x=true\/X.env.scope.names.lookup x=some .local:=by first|exact .inl Z|exact .inr Z|assumption):QG X (.Name x pos) (Qf i):=#[DO (hN:=hN) (hi:=hi) (hx:=hx) (hf:=hf)]
theorem cv{k:Nat}{n:Nat}(hc:X.calm=true)(h:Rk X es t)(hn:(assignEach es X.env).length=n:=by rfl)(hst:(assignEach es X.env).findIdx? (·.1)=none:=by rfl):QG X (.Tuple es k pos) (nW X.K n t):=#[mX (hc:=hc) (h:=h.h) (hn:=hn) (hst:=hst)]
theorem bu(ho:QE X o to)(hi:QE X i d)(hs:mD X t)(ha:∀v,assign (.Subscript o i pos) X.env v=(do
      let a <- holding [v] (eval o X.env)
      let c <- holding [v,a] (eval i X.env)
      standAt pos
      holding [v,a,c] (setItem a c v)
      release [v,a,c] []):=by intro _;rfl):QG X (.Subscript o i pos) (D4 to d t):=#[EU (ho:=ho.h) (hi:=hi.h) (hs:=hs) (ha:=ha)]
theorem qK:Rk X [] nQ:=#[CJ]
theorem qh(h1:QG X e t)(h2:Rk X es u)(hs:(assignEach (e::es) X.env).map (·.2)=assign e X.env::(assignEach es X.env).map (·.2):=by rfl):Rk X (e::es) (bK t u):=#[BC (h1:=h1.h) (h2:=h2.h) (hs:=hs)]
theorem QW.pt(h:QW X e t):QT X e t:=#[PW.pt h.h]
theorem qv(i:Nat){x:Str}(hN:X.N[i]? =↑x:=by rfl)(hv:Er X.env.scope x:=by first|exact Pr Z|exact SV (Pr Z)|exact SV (SV Z))(hd:(x==("__debug__":Str))=false:=by decide)
  (a:(x==("__classdict__":Str))=false:=by decide):QE X (.Name x pos) (DY i):=#[Fv hN hv hd a]
theorem zZ{a:Scope}{f:List (Str×Δ)}{fr own:Α}
  (hc:X.calm=true)(hi:QI X tg d l)(e:closureFor a X.env=pure f)(i:∀y c,f.lookup y=↑c->X.env.cells.lookup y=↑c)(j:f.map (·.1)=fr)
  (S:MU X a fr js)
  (hg:∀C s H fp,QG (qY X (own++fr) a f C s H fp) tg g)(he:∀C s H fp,QE (qY X (own++fr) a f C s H fp) h te)
  (hs:∀x,foldedSetIterable d X.env x=pure x:=by intro _;rfl):
  QE X (.ListComp h [#[tg,d,[],(0)]] a pos) (jd own.length js l g te):=#[C8 hc hi.h e i j S (λC s H fp=>(hg C s H fp).h) (λC s H fp=>(he C s H fp).h) hs]
theorem cL{a:Scope}{j:List (Str×Δ)}{e:Pos}{fr own:Α}{i:Nat}{y:Str}
  (hN:X.N.Nodup)(n:X.N[i]? =↑y)(hx:fQ X.env.scope y)
  (hc:X.calm=true)(hi:QI X tg d p)(f:closureFor a X.env=pure j)(l:∀y c,j.lookup y=↑c->X.env.cells.lookup y=↑c)(o:j.map (·.1)=fr)
  (S:MU X a fr js)
  (hg:∀C s H fp,QG (qY X (own++fr) a j C s H fp) tg g)(he:∀C s H fp,QE (qY X (own++fr) a j C s H fp) h te)
  (hs:∀x,foldedSetIterable d X.env x=pure x:=by intro _;rfl)(m:swapsWith (.ListComp h [#[tg,d,[],(0)]] a pos) ↑(.Name y q) e.line X.env=pure true:=by rfl)
  (hf:X.fn y=true\/X.env.scope.names.lookup y=some .local:=by first|exact .inl Z|exact .inr Z|assumption):
  QS X (.Assign [.Name y q] (.ListComp h [#[tg,d,[],(0)]] a pos) e) (cU (jd own.length js p g te) (Qf i)):=#[Dh hN n hx hc hi.h f l o S (λC s H fp=>(hg C s H fp).h) (λC s H fp=>(he C s H fp).h) hs m hf]
section
variable{K:ι}
theorem At.dq{k:Nat}{sp:Sp}(a:At K mg x st ps)(S:HK N ps (qi st))
  (d:∀(f:Δ) (cdv:Γ) (A:Rj) (c:Τ) (s:Θ) (H:Hp) (vs:Ε) (Q:VK) (E:XK),MK k (A.deeper (PyProof.Rows.envOfC x (qi st) s.heap.objs.size f cdv))->sp vs H Q E->
   ∃t,O9 (cr be P w K mg base N x (qi st) f cdv A c s H E).nox (zR st) t/\t {nx:=λ_ H'=>Q .non H',rt:=Q} (Zq N vs) H)(len:∀vs H Q E,sp vs H Q E->vs.length=ps.length:=by intro vs H Q E h;first|(cases h;subst_vars;rfl)|((repeat first|let#[rfl,h]:=h|let#[_,h]:=h);all_goals rfl)):Df P w K mg base x ps (k+1) sp:=
 a.df S len λf cdv A c s H vs Q E e h=>let⟨t,q1,q2⟩:=d f cdv A c s H vs Q E e h;#[t,q1.h,q2]
theorem _root_.L2.OL.dq{k:Nat}{sp:Sp}(F:OL K x R1 st f fd)(S:HK N ps (qi st))(len:∀vs H Q E,sp vs H Q E->vs.length=ps.length)
  (c:∀(cdv:Γ) (A:Rj) (a:Τ) (s:Θ) (H:Hp) (vs:Ε) (Q:VK) (E:XK),MK k (A.deeper (PyProof.Rows.envOfC R1 (qi st) s.heap.objs.size f cdv))->sp vs H Q E->
   ∃t,O9 (cr be P w K mg base N R1 (qi st) f cdv A a s H E).nox (zR st) t/\t {nx:=λ_ H'=>Q .non H',rt:=Q} (Zq N vs) H):NU P w K mg base be (k+1) f fd ps sp:=
 F.ok S len λcdv A a s H vs Q E d h=>let⟨t,q1,q2⟩:=c cdv A a s H vs Q E d h;#[t,q1.h,q2]
theorem Ga(F:OL K x x st f fd)(m:mg x=↑(-f))(b:NH K fd ps []):At K mg x st ps:=#[f,fd,F,m,F.kp,b]
end
end L3
namespace L3
open PySem PySem.Spec PyProof.Rows L2
def Nf:Β:=(Ag 16).map λi=>((i:Nat):Int)
theorem pC:Nf.length=16:=by decide
theorem E4:((Ag 16).map λi=>V.int ((i:Nat):Int))=Nf.map V.int:=by decide +kernel
theorem DM{a:Type}{xs:List a}{z:Int}{j:Nat}{v:a}(e:z=(j:Int))(h:xs[j]? =↑v):QJ xs z=↑v:=by rw[e];exact Qs h
theorem jR{n j:Nat}{z:Int}(e:z=(j:Int))(h:j<n):cD n z=↑j:=by rw[e];exact sN h
theorem pF{z:Int}(h:z∈Nf):0<=z/\z<16:=by
 let#[i,hi,e]:=JC.mp h
 have:=JT.mp hi
 lia
end L3
namespace L3
open PySem PySem.Spec PyProof.Rows L2
open Sem (wp)
section
theorem uM{x:Γ}{Q:HG}(a:s.heap.IsTupleIter it t i)(j:s.heap.IsTuple t its)(hx:its[i]? =↑x)
  (g:∀h',h'.IsTupleIter it t (i+1)->Ψ.SameBut it s.heap h'->Q x {s with heap:=h'}):ε (model prog w) A (γ.SmallTypes.nextOf (-it)) Q E s:=by
 let#[o,d,h,c]:=id a;let#[l,e,_,m,f]:=j;unfold γ.SmallTypes.nextOf;refine Ja (wpAny_callSpecial?_slot (name:=RS "__next__") a.typeIs L8
  (JY L8 a.typeIs Sm ?_ (Sh _)))
 show ε _ _ (field (-it) 0 >>= _) _ _ s
 refine Ja (JX d c (x:= .ref t) Z ?_)
 show ε _ _ (if(Γ.ref t==Γ.none)=true then _ else _) _ _ s
 rw[Jb (show¬((Γ.ref t==Γ.none)=true)from JK)]
 show ε _ _ (field (-it) 1 >>= _) _ _ s
 refine Ja (JX d c (x:= .int i 0) Z ?_)
 show ε _ _ (seqItems? (-t) >>= _) _ _ s
 refine Ja (IW e f ?_)
 simp only[Iw,hx];refine Ja (II d c (by simp) (Jd #[x,Z,Jd (g _ ?_ (G6 ..))]))
 exact#[_,Lf _ d (L9 (Lq c _)),(Obj.cls_mapFields ..).trans h,by
  rw[Lq c];simp [rawInt]]
theorem k6(j:A.handled=none)(c:s.heap.IsTupleIter it t i)(l:s.heap.IsTuple t its)(hx:its[i]? =none)
  (n:∀h' e,Ψ.ExtBut it s.heap h'->(∃o,h'.get? e=↑o/\o.cls= .type "StopIteration")->E (-e) {s with heap:=h'}):
  ε (model prog w) A (γ.SmallTypes.nextOf (-it)) Q E s:=by
 let#[o,d,p,g]:=id c;let#[q,f,_,r,h]:=l;unfold γ.SmallTypes.nextOf;refine Ja (wpAny_callSpecial?_slot (name:=RS "__next__") c.typeIs L8
  (JY L8 c.typeIs Sm ?_ (Sh _)))
 show ε _ _ (field (-it) 0 >>= _) _ _ s
 refine Ja (JX d g (x:= .ref t) Z ?_)
 show ε _ _ (if(Γ.ref t==Γ.none)=true then _ else _) _ _ s
 rw[Jb (show¬((Γ.ref t==Γ.none)=true)from JK)]
 show ε _ _ (field (-it) 1 >>= _) _ _ s
 refine Ja (JX d g (x:= .int i 0) Z ?_)
 show ε _ _ (seqItems? (-t) >>= _) _ _ s
 refine Ja (IW f h ?_)
 simp only[Iw,hx];refine Ja (Ih (Ja (II d g (by simp) ?_)))
 show ε _ _ (newExc (.type "StopIteration") [] >>= _) _ _ _
 refine Ja ?_
 simp only[newExc,newTuple];refine Ja (J6 ?_ (by size_fits))
 refine Ja (m:=firstArgMember _ _) (Iy (a:=Γ.none) (by first|rfl|(simp only[firstArgMember];rfl)) ?_)
 refine J6 ?_ (by size_fits)
 simp only[raiseNew];refine Ja (wpAny_handled ?_)
 first|rw[show A.in1.handled=none from j]|rw[j]
 refine Ja (Jd (wpAny_throw ?_))
 exact n _ _ (((G6 ..).extBut.push _).push _) #[_,Jp _ Z,Z]
end
theorem iV{A:Rj}(g:A.handled=none)(it t:Δ)(d:t≠it)(its:Array Γ):
  Draws prog w A it [it,t] its.size (λi v=>its[i]? =↑v) (λi h=>h.IsTupleIter it t i/\h.IsTuple t its) where
 live:=λ_ _ st=>let⟨o,ho,_⟩:=st.1;#[o,ho]
 frame:=λ_ _ _ st hk=>#[st.1.at λo e=>hk it (by simp) o e,let⟨o,e,r⟩:=st.2;#[o,hk t (by simp) o e,r]]
 item:=λi s Q E hi st f=>by
  refine uM st.1 st.2 (x:=its[i]) (by simp [hi]) λh' a c=>?_
  exact f _ h' s.toks (by simp [hi]) #[a,let⟨o,e,r⟩:=st.2;#[o,c.extBut _ _ d e,r]] c
 done:=λs Q E st j=>k6 g st.1 st.2 (by simp) j
open AutoSeq1 (wpAny_loadPart')in
theorem rH(l:Δ)(items:Array Γ)(n:Nat)(e:β)(o:Array Ν):
  Meets (γ.«enumerate.__new__» #[[.type "enumerate",-l],[]]) (λ_ R s=>s.heap.get? l=some {cls:= .type "tuple",dict:=e,data:= .seq items n,slots:=o}/\
   R (.ok (.ret (.ref (s.heap.push {cls:= .type "tuple_iterator",data:= .fields (AA [-l,.int 0 0])}).objs.size)))
    {s with heap:=(s.heap.push {cls:= .type "tuple_iterator",data:= .fields (AA [-l,.int 0 0])}).push {cls:= .type "enumerate",data:= .fields (AA [.none,.bool false,-s.heap.objs.size,rawInt 0,.none,.none])}}):=
 .of_wp λprog w A R s h=>by
  let#[m,g,d,tk,j]:=s;let#[a,h]:=h
  have i:=sub_enumerate;have f:Ψ.IsTuple (Θ.heap #[m,g,d,tk,j]) l items:=#[_,a,Z,n,Z]
  wp_walk using LG a
  refine wpAny_stack_any λst=>Jd ?_
  split
  .rename_i c _ _ _ _ _
   cases(c==Γ.type "enumerate")
   .wp_walk using LG a,Ld f
    exact#[0,h]
   .wp_walk using LG a,Ld f
    exact#[0,h]
  .wp_walk using LG a,Ld f
   exact#[0,h]
section
theorem tY{Q:HG}(p:s.heap.IsTuple l items)
  (h:∀h',IsEnum h' (s.heap.objs.size+1) s.heap.objs.size 0 .none->h'.IsTupleIter s.heap.objs.size l 0->(∀b o,s.heap.get? b=↑o->h'.get? b=↑o)->Q (.ref (s.heap.objs.size+1)) {s with heap:=h'}):
  ε (model prog w) A (call (.type "enumerate") [-l]) Q E s:=by
 let#[#[c,a,j,q],m,f,n,e]:=p
 replace f:c= .type "tuple":=f
 replace e:j= .seq items n:=e
 subst f e;refine callType_new F.called_enumerate ⋯ (F.typeCall_enumerate_1 _) (F.newCall_enumerate_1 _) (λd=>F.args_object_init_2 d _) F.entry_enumerate_new
  (rH l items n a q) #[m,?_]
 have g:(s.heap.push {cls:= .type "tuple_iterator",data:= .fields (AA [-l,.int 0 0])}).objs.size=s.heap.objs.size+1:=JU ..
 show _/\_
 rw[g];have i:IsEnum ((s.heap.push {cls:= .type "tuple_iterator",data:= .fields (AA [-l,.int 0 0])}).push
   {cls:= .type "enumerate",data:= .fields (AA [.none,.bool false,-s.heap.objs.size,rawInt 0,.none,.none])}) (s.heap.objs.size+1) s.heap.objs.size 0 .none:=by
  have:=Jp (s.heap.push {cls:= .type "tuple_iterator",data:= .fields (AA [-l,.int 0 0])})
   (o:={cls:= .type "enumerate",data:= .fields (AA [.none,.bool false,-s.heap.objs.size,rawInt 0,.none,.none])}) Z
  rw[g]at this;exact this
 exact#[#[_,i,Z],h _ i #[_,Jk _ (Jp _ Z),9] λb o x=>Jk _ (Jk _ x)]
end
noncomputable def nB(K:ι)(a:Δ):It:=
 #[λi H=>∃xs x,HX K H a xs/\xs[i]? =↑x,λi H x H'=>∃p v,H p=none/\x= .ref p/\(∀xs,HX K H a xs->xs[i]? =↑v)/\H'=HM H p (.tup [.int i,v]),λi H=>∃xs,HX K H a xs/\xs.length<=i]
theorem tV{K:ι}{x1}(a e it:Δ)(t:e≠it):
  N5 P w K (.Tuple L x1 pos) (nB K a) [e,it] e (λi h=>(∃d,IsEnum h e it i d)/\h.IsTupleIter it a i) where
 mem:=by simp
 obj:=λi h st b m=>by
  let#[#[d,l],#[o,j,Q,hd]]:=st;rcases Jg.mp m with z|z
  .subst z
   refine#[_,l,λv z=>?_]
   have z':Sf _=SJ v:=z
   cases z'
  .rw[Ji.mp z]
   exact#[o,j,λv z=>by rw[hd]at z;cases z]
 keep:=λi h h' st k=>#[let⟨d,l⟩:=st.1;#[d,k e (by simp) _ l],st.2.at λo q=>k it (by simp) o q]
 item:=by
  intro X hP hw hK Q i R0 s σ H E I O st Y;subst hP hw hK;let#[xs,x,R,W]:=Y;let#[its,rv,p,hz]:=I.tuple R;let#[u,hu,ru]:=rv.get W;let#[#[d,l],g]:=st;have a3:a≠e:=λz=>by
   subst z;let#[o,j,c,_]:=p;rw[l]at j;cases j;exact absurd (show Γ.type "enumerate"=Γ.type "tuple" from c) ⋯
  have J:a≠it:=λz=>by
   subst z;let#[o,j,c,_]:=p;let#[o',n,r,_]:=g;rw[j]at n;cases n;rw[c]at r;exact absurd r ⋯
  have S:i<its.toArray.size:=by
   have:=(Jw.mp hu).1
   simpa using this
  refine wpAny_pyNext_enum_itemD (iV (A:=X.A.in1) (I.ok.hd Q) it a J its.toArray) l #[g,p] S t (by simp [t,Ne.symm a3]) λv h' tk hv j ⟨D,_⟩ ht a4 hk=>#[0,?_]
  have ev:v=u:=by
   have M:its[i]? =↑v:=by simpa using hv
   rw[hu]at M;exact(JE M).symm
  subst ev;refine wpAny_letOwnedTupleGo_enum j λa2 C f=>?_
  have B:e<s.heap.objs.size:=Jl l
  have G:it<s.heap.objs.size:=by let#[_,y,_]:=g;exact Jl y
  exists .ref s.heap.objs.size,HM H s.heap.objs.size (.tup [.int i,x]),?_,Z,#[_,x,I.hok.fresh (Jf _),Z,λys hy=>by rw[I.tuple_inj hy R];exact W,Z],#[#[_,by simpa using C],?_]
  .show L2.HN X R0 σ _ {s with heap:=a2,toks:=tk+1}
   refine gF (s:=s) (its:=[.int i tk,v]) I (ch:=[e,it]) (λb o m q=>?_) O (λb m=>?_) (Jf _) (by show 2<=ζ;decide) (.cons #[0] (.cons ru .nil)) ?_
   .have N:b≠e:=λz=>m (by simp [z])
    have a1:b≠it:=λz=>m (by simp [z])
    exact(f.2 b N).trans (hk b o N a1 q)
   .rcases Jg.mp m with z|z
    .subst z;exact#[_,C]
    .rw[Ji.mp z]
     let#[o,y,_]:=D
     exact#[o,(f.2 it (Ne.symm t)).trans y]
   .exact#[_,(f.2 _ (J1 B)).trans ht,8]
  .exact D.extBut f.extBut (Ne.symm t)
  .intro b m
   rw[qp]
   .exact(O b m).1
   .rcases Jg.mp m with z|z
    .subst z;exact Jm B
    .rw[Ji.mp z];exact Jm G
 done:=by
  intro X hP hw hK Q i R0 s σ H E I O st Y;subst hP hw hK;let#[xs,R,W]:=Y;let#[its,rv,p,hz]:=I.tuple R;let#[#[d,l],g]:=st;let#[f0,f1,f2,f3,f4,f5]:=O it (by simp)
  have hl:=rv.length;have J:a≠it:=λz=>by
   subst z;let#[o,j,c,_]:=p;let#[o',n,r,_]:=g;rw[j]at n;cases n;rw[c]at r;exact absurd r ⋯
  unfold pyNext;have hT:s.TypeIs (-e) "enumerate":=#[_,l,Z]
  refine Ja (IQ (wpAny_callSpecial?_slot (name:=RS "__next__") hT F.slot_enumerate_next
   (JY F.slot_enumerate_next hT F.entry_enumerate_next ?_ (F.args_enumerate_next_1 _))))
  show ε _ _ (field (-e) 2 >>= _) _ _ _
  refine Ja (JX l Z (x:= .ref it) Z ?_)
  refine Ja (k6 (I.ok.hd Q) g p (by simp;lia) λh' ex eb U=>?_)
  let#[o,j,c]:=U;refine Ja (IX (T:="StopIteration") (b:=true) #[o,j,c] LU ?_)
  exact Jd #[Z,I.turned (t':=s.toks) (λb o m e=>eb b o m e) f0 f1 f3 f4 f5]
 self:=λ_ _ _ _ _ st h=>by
  let#[#[d,l],_]:=st;exact LQ l h
section
noncomputable def xr(K:ι)(ta:TA):TI:=λσ H R=>ta σ H λvs H1=>∃a,vs=[-a]/\((∃xs,HQ K H1 a xs)/\R (sL K a) H1\/(∃xs,HX K H1 a xs)/\R (nB K a) H1)
theorem AS{a:Φ}{p:Pos}{x1}(hg:Gl X "enumerate")(hm:X.mg "enumerate"=none)(ha:PA X [a] ta)(hs:θ [a] X.env=[(false,eval a X.env)]:=by rfl):
  PI X (.Tuple j x1 o) (.Call (.Name "enumerate" p) [a] [] pos) (xr X.K ta):=by
 intro R0 s σ H R I h;refine Call_ (Zp I hg hm boot_enumerate (Le (qz (ha pos R0 s σ H _ I h) λD c v=>?_) hs Z))
 let#[vs,H1,f,x,t]:=v;let#[l,e,t]:=t;subst e;let#[u,rfl,C]:=x.one;cases C;have n:∀b∈[c.heap.objs.size+1,c.heap.objs.size],Zm X R0 H1 b:=λb y=>by
  have i:c.heap.objs.size<=b:=by
   rcases Jg.mp y with z|z
   .rw[z];exact IL _
   .rw[Ji.mp z];exact Jf _
  exact f.fpOk i (f.hok.fresh i)
 rcases t with⟨⟨xs,r⟩,q⟩|⟨⟨xs,r⟩,q⟩
 .let#[g,w,pl,B]:=f.list r
  refine call_enumerate_list pl.isList λh' m d A hk=>LQ m ?_
  exact#[c.heap.objs.size+1,[c.heap.objs.size+1,c.heap.objs.size],15,H1,Z,f.kept (t':=c.toks) hk,kL l _ _ (J1 (G0 _)),#[#[_,m],d],n,q]
 .let#[g,w,pl,B]:=f.tuple r
  refine tY (show c.heap.IsTuple l g.toArray from pl) λh' m d hk=>LQ m ?_
  exact#[c.heap.objs.size+1,[c.heap.objs.size+1,c.heap.objs.size],15,H1,Z,f.kept (t':=c.toks) hk,tV l _ _ (J1 (G0 _)),#[#[_,m],d],n,q]
theorem wv{K:ι}{xs:Ε}{g:TG}{tb:TS}{D:Ng}{σ:L2.St}{H:Hp}(Pv:Nat->L2.St->Hp->Prop)(l:Pv 0 σ H)(hl:∀i σ H,i<=xs.length->Pv i σ H->HX K H a xs)
  (hs:∀i x σ H p,xs[i]? =↑x->Pv i σ H->H p=none->g (-p) σ (HM H p (.tup [.int i,x])) λd h=>tb {D with nx:=Pv (i+1),ct:=Pv (i+1),bk:=D.nx} d h)(hd:∀σ H,Pv xs.length σ H->D.nx σ H):
  ∃W:Nat->Nat->L2.St->Hp->Prop,(∃m,W 0 m σ H)/\∀i m σ H,W i m σ H->
   ((nB K a).stop i H/\D.nx σ H)\/((nB K a).go i H/\∃N:L2.St->Hp->Prop,(∀c H',N c H'->∃j,j<m/\W (i+1) j c H')/\∀x H',(nB K a).yld i H x H'->g x σ H' λd h=>tb {D with nx:=N,ct:=N,bk:=D.nx} d h):=by
 exists λi m σ H=>m=xs.length-i/\i<=xs.length/\Pv i σ H,#[xs.length,by simp,JB _,l]
 rintro i m σ H ⟨rfl,hi,p⟩
 have q:=hl i σ H hi p
 by_cases f:i<xs.length
 .refine .inr #[#[xs,xs[i],q,by simp [f]],Pv (i+1),λc H' o=>#[xs.length-(i+1),by lia,Z,f,o],λx H' y=>?_]
  let#[s,v,n,rfl,r,rfl]:=y;exact hs i v σ H s (r xs q) p n
 .have e:i=xs.length:=by lia
  subst e;exact .inl #[#[xs,q,Jf _],hd σ H p]
end
structure N6(z TI TO i1 i2:Δ)(f1 f2:Η):Prop where
 TIz:TI≠z
 TOz:TO≠z
 i1z:i1≠z
 i2z:i2≠z
 TITO:TI≠TO
 TIi1:TI≠i1
 TIi2:TI≠i2
 TOi1:TO≠i1
 TOi2:TO≠i2
 i12:i1≠i2
 z1:z∉f1
 z2:z∉f2
 t1:TO∉f1
 t2:TO∉f2
 x1:i2∉f1
 x2:i1∉f2
section
variable{TI TO:Δ}{n1 n2 k:Nat}{P1 P2:Nat->Γ->Prop}{S1 S2:Nat->Ψ->Prop}{b:Γ}
theorem kG{Q:HG}(D1:Draws prog w A i1 f1 n1 P1 S1)(Y:Draws prog w A i2 f2 n2 P2 S2)(f:N6 z TI TO i1 i2 f1 f2)
  (hz:IsZip s.heap z TI TO .none)(a4:IsPair s.heap TI (-i1) (-i2))(b0:IsPair s.heap TO a b)(q1:S1 k s.heap)(q2:S2 k s.heap)(k1:k<n1)(k2:k<n2)
  (hQ:∀x y h' tk,P1 k x->P2 k y->IsZip h' z TI TO (rawInt s.heap.objs.size)->IsPair h' TO x y->S1 (k+1) h'->S2 (k+1) h'->IsPair h' s.heap.objs.size x y->
   (∀c o,c≠z->c≠TO->c≠i1->c≠i2->s.heap.get? c=↑o->h'.get? c=↑o)->Q (-s.heap.objs.size) {s with heap:=h',toks:=tk}):
  ε (model prog w) A (γ.«zip.__next__» #[[-z],[]]) (λa5 s'=>∃v,a5= .done (.ret v)/\Q v s') E s:=by
 let#[hp,g,d,t0,os]:=s
 show ε _ _ (field (-z) 2 >>= _) _ _ _
 refine Ja (JX hz Z (x:= .bool false) Z ?_)
 show ε _ _ (field (-z) 3 >>= _) _ _ _
 refine Ja (JX hz Z (x:= .ref TI) Z ?_)
 refine Ja (IW a4 Z ?_)
 show ε _ _ (γ.SmallTypes.ownedTupleIsFree (-z) >>= _) _ _ _
 refine Ja ?_
 unfold γ.SmallTypes.ownedTupleIsFree;refine Ja (JX hz Z (x:= .none) Z (Jd ?_))
 simp only[Io];refine Ja (Ih ?_)
 refine Ja (JX hz Z (x:= .ref TO) Z ?_)
 refine Ja (LV hz (by simp) λt B l=>?_)
 replace B:IsZip t z TI TO .ellipsis:=B
 replace l:Ψ.SameBut z hp t:=l
 refine Ja ?_
 simp only[OR,OS,OT,OU];refine Ja (Ja (wpAny_onRaise ?_))
 show ε _ _ (γ.SmallTypes.nextOf (-i1) >>= _) _ _ _
 have a6:S1 k t:=D1.frame _ _ _ q1 λc D o e=>l.extBut c o (λy=>f.z1 (y▸D)) e
 refine Ja (D1.item k #[t,g,d,t0,os] _ _ k1 a6 λx N P p1 a3 i=>Jd ?_)
 replace i:Ψ.SameBut i1 t N:=i
 have F:IsPair N TO a b:=i.extBut _ _ f.TOi1 (l.extBut _ _ f.TOz b0)
 refine Ja (IW F Z ?_)
 refine Ja (wpAny_updateSeq_pair F λu q n=>?_)
 replace q:IsPair u TO x b:=q
 replace n:Ψ.SameBut TO N u:=n
 refine Ja (wpAny_letGo (Jd ?_))
 refine Ja (Ja (wpAny_onRaise ?_))
 show ε _ _ (γ.SmallTypes.nextOf (-i2) >>= _) _ _ _
 have a8:S2 k u:=Y.frame _ _ _ q2 λc D o e=>n.extBut c o (λy=>f.t2 (y▸D)) (i.extBut c o (λy=>f.x2 (y▸D)) (l.extBut c o (λy=>f.z2 (y▸D)) e))
 refine Ja (Y.item k #[u,g,d,P,os] _ _ k2 a8 λy I U p2 a2 j=>Jd ?_)
 replace j:Ψ.SameBut i2 u I:=j
 have G:IsPair I TO x b:=j.extBut _ _ f.TOi2 q
 refine Ja (IW G Z ?_)
 refine Ja (wpAny_updateSeq_pair G λh p m=>?_)
 replace p:IsPair h TO x y:=p
 replace m:Ψ.SameBut TO I h:=m
 refine Ja (wpAny_letGo (Jd (Jd ?_)))
 refine Ja (IW p Z ?_)
 refine Ja (wpAny_newTuple ?_)
 have X:h.objs.size=hp.objs.size:=by rw[m.1,j.1,n.1,i.1,l.1]
 have J:IsZip h z TI TO .ellipsis:=m.extBut _ _ f.TOz.symm (j.extBut _ _ f.i2z.symm (n.extBut _ _ f.TOz.symm (i.extBut _ _ f.i1z.symm B)))
 have S:∀c o,c≠z->c≠TO->c≠i1->c≠i2->hp.get? c=↑o->h.get? c=↑o:=λc o R c2 c3 c4 e=>
  m.extBut _ _ c2 (j.extBut _ _ c4 (n.extBut _ _ c2 (i.extBut _ _ c3 (l.extBut _ _ R e))))
 have a7:S1 (k+1) h:=D1.frame _ _ _ a3 λc D o e=>m.extBut c o (λy=>f.t1 (y▸D)) (j.extBut c o (λy=>f.x1 (y▸D)) (n.extBut c o (λy=>f.t1 (y▸D)) e))
 have a1:S2 (k+1) h:=Y.frame _ _ _ a2 λc D o e=>m.extBut c o (λy=>f.t2 (y▸D)) e
 have O:z<h.objs.size:=Jl J
 show ε _ _ (γ.SmallTypes.ownedTupleHandOut (-z) (-h.objs.size) >>= _) _ _ _
 refine Ja ?_
 unfold γ.SmallTypes.ownedTupleHandOut;have T:IsZip (h.push {cls:= .type "tuple",data:= .seq (AA [x,y])}) z TI TO .ellipsis:=Jk _ J
 refine Ja (LV T (by simp) λW C K=>?_)
 replace C:IsZip W z TI TO (rawInt h.objs.size):=C
 refine LV C (by simp) λH r L=>?_
 replace r:IsZip H z TI TO (rawInt h.objs.size):=r
 have up:∀c o,c≠z->h.get? c=↑o->H.get? c=↑o:=λc o R e=>L.extBut _ _ R (K.extBut _ _ R (Jk _ e))
 have M:IsPair H h.objs.size x y:=L.extBut _ _ (J1 O) (K.extBut _ _ (J1 O) (Jp _ Z))
 rw[X]at r M;refine Jd #[0,?_]
 show Q (-h.objs.size) _
 rw[X];exact hQ x y H U p1 p2 r (up _ _ f.TOz p) (D1.frame _ _ _ a7 λc D o e=>up c o (λy=>f.z1 (y▸D)) e) (Y.frame _ _ _ a1 λc D o e=>up c o (λy=>f.z2 (y▸D)) e) M λc o R c2 c3 c4 e=>up c o R (S c o R c2 c3 c4 e)
theorem oP{Q:Fin->Θ->Prop}(B:Draws prog w A i1 f1 n1 P1 S1)(a:N6 z TI TO i1 i2 f1 f2)
  (hz:IsZip s.heap z TI TO .none)(t:IsPair s.heap TI (-i1) (-i2))(L:S1 n1 s.heap)
  (J:∀h' e,(∀c o,c≠z->c≠i1->s.heap.get? c=↑o->h'.get? c=↑o)->(∃o,h'.get? e=↑o/\o.cls= .type "StopIteration")->E (-e) {s with heap:=h'}):
  ε (model prog w) A (γ.«zip.__next__» #[[-z],[]]) Q E s:=by
 let#[F,g,d,D,I]:=s
 show ε _ _ (field (-z) 2 >>= _) _ _ _
 refine Ja (JX hz Z (x:= .bool false) Z ?_)
 show ε _ _ (field (-z) 3 >>= _) _ _ _
 refine Ja (JX hz Z (x:= .ref TI) Z ?_)
 refine Ja (IW t Z ?_)
 show ε _ _ (γ.SmallTypes.ownedTupleIsFree (-z) >>= _) _ _ _
 refine Ja ?_
 unfold γ.SmallTypes.ownedTupleIsFree;refine Ja (JX hz Z (x:= .none) Z (Jd ?_))
 simp only[Io];refine Ja (Ih ?_)
 refine Ja (JX hz Z (x:= .ref TO) Z ?_)
 refine Ja (LV hz (by simp) λi j h=>?_)
 replace j:IsZip i z TI TO .ellipsis:=j
 replace h:Ψ.SameBut z F i:=h
 refine Ja ?_
 simp only[OR,OS,OT,OU];refine Ja (Ja (wpAny_onRaise ?_))
 show ε _ _ (γ.SmallTypes.nextOf (-i1) >>= _) _ _ _
 have v:S1 n1 i:=B.frame _ _ _ L λc M o e=>h.extBut c o (λy=>a.z1 (y▸M)) e
 refine Ja (B.done #[i,g,d,D,I] _ _ v λn e f G=>?_)
 let#[H,p,r]:=G
 replace f:Ψ.ExtBut i1 i n:=f
 have l:IsZip n z TI TO .ellipsis:=f _ _ a.i1z.symm j
 have u:e≠z:=λx=>by subst x;rw[l]at p;cases p;simp at r
 refine LV l (by simp) λq _ m=>J q e (λc o C K x=>m.extBut _ _ C (f _ _ K (h.extBut _ _ C x))) #[H,m.extBut _ _ u p,r]
end
noncomputable abbrev B6(h:Ψ)(l1:Δ):Ψ:=h.push {cls:= .type "tuple_iterator",data:= .fields (AA [-l1,.int 0 0])}
noncomputable abbrev B9(h:Ψ)(l1 l2:Δ):Ψ:=(B6 h l1).push {cls:= .type "tuple_iterator",data:= .fields (AA [-l2,.int 0 0])}
noncomputable abbrev Cm(h:Ψ)(l1 l2:Δ):Ψ:=(B9 h l1 l2).push {cls:= .type "tuple",data:= .seq (AA [-h.objs.size,.ref (B6 h l1).objs.size])}
noncomputable abbrev B4(h:Ψ)(l1 l2:Δ):Ψ:=(Cm h l1 l2).push {cls:= .type "tuple",data:= .seq (AA [.none,.none])}
noncomputable abbrev sT(h:Ψ)(l1 l2:Δ):Ψ:=(B4 h l1 l2).push {cls:= .type "zip",data:= .fields (AA [.none,.bool false,.bool false,.ref (B9 h l1 l2).objs.size,.ref (Cm h l1 l2).objs.size])}
theorem uJ(a c:Δ)(xs ys:Array Γ):
  Meets (γ.«zip.__new__» #[[.type "zip",-a,-c],[]]) (λ_ R s=>s.heap.IsTuple a xs/\s.heap.IsTuple c ys/\
   R (.ok (.ret (.ref (B4 s.heap a c).objs.size))) {s with heap:=sT s.heap a c}):=
 .of_wp λprog w A R s h=>by
  let#[n,g,d,tk,m]:=s;let#[l,f,h]:=h
  have p:=sub_zip;have j:Ψ.IsTuple (Θ.heap #[n,g,d,tk,m]) a xs:=l
  have i:Ψ.IsTuple (Θ.heap #[n.push {cls:= .type "tuple_iterator",data:= .fields (AA [-a,.int 0 0])},g,d,tk,m]) c ys:=let⟨o,e,r⟩:=f;#[o,Jk _ e,r]
  wp_walk using Ld j,Ld i
  exact#[0,h]
section
theorem vL{Q:HG}(i:s.heap.IsTuple a xs)(e:s.heap.IsTuple d ys)
  (h:∀h',IsZip h' (s.heap.objs.size+4) (s.heap.objs.size+2) (s.heap.objs.size+3) .none->IsPair h' (s.heap.objs.size+2) (-s.heap.objs.size) (.ref (s.heap.objs.size+1))->
   IsPair h' (s.heap.objs.size+3) .none .none->h'.IsTupleIter s.heap.objs.size a 0->h'.IsTupleIter (s.heap.objs.size+1) d 0->
   (∀c o,s.heap.get? c=↑o->h'.get? c=↑o)->Q (.ref (s.heap.objs.size+4)) {s with heap:=h'}):
  ε (model prog w) A (call (.type "zip") [-a,-d]) Q E s:=by
 refine callType_new F.called_zip ⋯ (F.typeCall_zip_2 _ _) (F.newCall_zip_2 _ _) (λg=>F.args_object_init_3 g _ _) F.entry_zip_new
  (uJ a d xs ys) #[i,e,?_]
 have l:(B6 s.heap a).objs.size=s.heap.objs.size+1:=JU ..
 have f:(B9 s.heap a d).objs.size=s.heap.objs.size+2:=by rw[JU,l]
 have z3:(Cm s.heap a d).objs.size=s.heap.objs.size+3:=by rw[JU,f]
 have n:(B4 s.heap a d).objs.size=s.heap.objs.size+4:=by rw[JU,z3]
 have j:(sT s.heap a d).get? (B4 s.heap a d).objs.size=↑_:=Jp _ Z
 have q:(sT s.heap a d).get? (Cm s.heap a d).objs.size=↑_:=Jk _ (Jp _ Z)
 have p:(sT s.heap a d).get? (B9 s.heap a d).objs.size=↑_:=Jk _ (Jk _ (Jp _ Z))
 have m:(sT s.heap a d).get? (B6 s.heap a).objs.size=↑_:=Jk _ (Jk _ (Jk _ (Jp _ Z)))
 have r:(sT s.heap a d).get? s.heap.objs.size=↑_:=Jk _ (Jk _ (Jk _ (Jk _ (Jp _ Z))))
 show _/\_
 rw[f,z3,n]at j;rw[l,f]at p;rw[z3]at q;rw[l]at m;rw[n]
 exact#[#[_,j,Z],h _ j p q #[_,r,9] #[_,m,9] λc o x=>
  Jk _ (Jk _ (Jk _ (Jk _ (Jk _ x))))]
theorem sU{h':Ψ}{t':Nat}{ch:Η}(I:L2.HN X R0 σ H s)(k:∀b o,b∉ch->s.heap.get? b=↑o->h'.get? b=↑o)(a:∀b∈ch,Zm X R0 H b):L2.HN X R0 σ H {s with heap:=h',toks:=t'}:=by
 have f:∀b u,H b=↑u->b∉ch:=λb u e z=>by rw[(a b z).1]at e;cases e
 refine I.step (g':=s.gens) (d':=s.drawn) (ch:=ch) (λb g=>#[(a b g).2.2.2.1,(a b g).2.1,(a b g).2.2.2.2.1,(a b g).2.2.2.2.2]) (λb o _ _ d e _=>k b o d e) (λb o _ _ d e _=>#[o.slots,k b o d e])
  (λ_ _ _ _ n=>n) (λb o d e=>#[o,k b o d e]) (λ_ _ e=>e) (λ_ _ _ e=>e) (λb ps e=>#[(AA []),by rw[e];simp]) (λm i=>?_) (λb u e=>?_) I.bare
 .let#[o,es,ep,h,r]:=i
  exact#[o,es,ep,k _ o (λz=>(a _ z).2.1 Z) h,r]
 .refine(I.hok b u e).stay (λc v d q=>k c v ?_ q) (λ_ q=>q) λ_ _ q=>q
  rcases d with z|z
  .rw[z];exact f b u e
  .exact f c _ z
theorem gG{H:Hp}{b:Δ}(h:Rd H a u)(h':H b=none):a≠b:=by
 rcases h with h|⟨o,h⟩
 .exact qm h h'
 .exact qm h h'
noncomputable def EQ(a c:Δ):It:=
  #[λi H=>∃xs ys x y,Rd H a (.tup xs)/\Rd H c (.tup ys)/\xs[i]? =↑x/\ys[i]? =↑y,
   λi H v H'=>∃p x y,H p=none/\v= .ref p/\(∀xs,Rd H a (.tup xs)->xs[i]? =↑x)/\(∀ys,Rd H c (.tup ys)->ys[i]? =↑y)/\H'=HM H p (.tup [x,y]),
   λi H=>∃xs,Rd H a (.tup xs)/\xs.length=i]
theorem Ap{w:Ω}{K:ι}{x1}(G Q z TI TO i1 i2:Δ)(d1:TI≠z)(d2:TO≠z)(d3:i1≠z)(d4:i2≠z)(d5:TI≠TO)(d6:TI≠i1)(d7:TI≠i2)(d8:TO≠i1)(d9:TO≠i2)(m:i1≠i2):
  N5 P w K (.Tuple W x1 pos) (EQ G Q) [z,TI,TO,i1,i2] z (λi h=>IsZip h z TI TO .none/\IsPair h TI (-i1) (-i2)/\(∃a b,IsPair h TO a b)/\h.IsTupleIter i1 G i/\h.IsTupleIter i2 Q i) where
 mem:=by simp
 obj:=λi h st b f=>by
  let#[F,j,#[a,b',l],#[o1,b2,_,b6],#[o2,b3,_,b4]]:=st;simp only[Jg,Jt,Ju]at f;rcases f with rfl|rfl|rfl|rfl|rfl
  .exact#[_,F,λv y=>by have y':Sf _=SJ v:=y;cases y']
  .exact#[_,j,λv y=>by have y':Data.seq _ _=SJ v:=y;cases y']
  .exact#[_,l,λv y=>by have y':Data.seq _ _=SJ v:=y;cases y']
  .exact#[_,b2,λv y=>by rw[b6]at y;cases y]
  .exact#[_,b3,λv y=>by rw[b4]at y;cases y]
 keep:=λi h h' st k=>by
  let#[F,j,#[a,b',l],h1,U]:=st
  exact#[k z (by simp) _ F,k TI (by simp) _ j,#[a,b',k TO (by simp) _ l],h1.at λo e=>k i1 (by simp) o e,U.at λo e=>k i2 (by simp) o e]
 item:=by
  intro X hP hw hK n i R0 s σ H E I N st hg;subst hP hw hK;let#[xs,ys,x,y,r,O,hx,hy]:=hg;let#[its,rv,p,b5]:=I.tuple (.inl r)
  let#[t,b1,p2,b8]:=I.tuple (.inl O)
  let#[u,hu,ru]:=rv.get hx;let#[u2,a4,b7]:=b1.get hy;let#[F,j,#[a,b',l],h1,U]:=st;have n1:∀c∈[z,TI,TO,i1,i2],G≠c:=λc n=>gG r (N c n).1
  have n2:∀c∈[z,TI,TO,i1,i2],Q≠c:=λc n=>gG O (N c n).1
  have d:N6 z TI TO i1 i2 [i1,G] [i2,Q]:=#[d1,d2,d3,d4,d5,d6,d7,d8,d9,m,by simp [Ne.symm d3,Ne.symm (n1 z (by simp))],by simp [Ne.symm d4,Ne.symm (n2 z (by simp))],by simp [d8,Ne.symm (n1 TO (by simp))],by simp [d9,Ne.symm (n2 TO (by simp))],by simp [Ne.symm m,Ne.symm (n1 i2 (by simp))],by simp [m,Ne.symm (n2 i1 (by simp))]]
  have a6:i<its.toArray.size:=by have:=(Jw.mp hu).1;simpa using this
  have R:i<t.toArray.size:=by have:=(Jw.mp a4).1;simpa using this
  have S:s.TypeIs (-z) "zip":=#[_,F,Z]
  unfold pyNext;refine Ja (IQ (wpAny_callSpecial?_slot (name:=RS "__next__") S Lh
   (JY Lh S Mc
    (kG (iV (A:=X.A.in1) (I.ok.hd n) i1 G (n1 i1 (by simp)) its.toArray) (iV (A:=X.A.in1) (I.ok.hd n) i2 Q (n2 i2 (by simp)) t.toArray) d F j l #[h1,p] #[U,p2] a6 R
     λv v2 h' tk hv a8 ho a3 q1 q2 ht hk=>Jd #[0,?_]) (Me _))))
  have ev:v=u:=by
   have B:its[i]? =↑v:=by simpa using hv
   rw[hu]at B;exact(JE B).symm
  have a7:v2=u2:=by
   have B:t[i]? =↑v2:=by simpa using a8
   rw[a4]at B;exact(JE B).symm
  subst ev a7;refine wpAny_letOwnedTupleGo_zip ho λD L g=>?_
  have lt:∀c∈[z,TI,TO,i1,i2],c<s.heap.objs.size:=λc n=>by
   simp only[Jg,Jt,Ju]at n;rcases n with rfl|rfl|rfl|rfl|rfl
   .exact Jl F
   .exact Jl j
   .exact Jl l
   .let#[_,e,_]:=h1;exact Jl e
   .let#[_,e,_]:=U;exact Jl e
  have J:IsPair D TI (-i1) (-i2):=g.extBut _ _ d1 (hk _ _ d1 d5 d6 d7 j)
  have C:IsPair D TO v v2:=g.extBut _ _ d2 a3
  have a5:D.IsTupleIter i1 G (i+1):=q1.1.extBut g.extBut d3
  have Y:D.IsTupleIter i2 Q (i+1):=q2.1.extBut g.extBut d4
  exists .ref s.heap.objs.size,HM H s.heap.objs.size (.tup [x,y]),?_,Z,#[_,x,y,I.hok.fresh (Jf _),Z,λzs M=>by rw[I.tuple_inj (.inl M) (.inl r)];exact hx,λzs M=>by rw[I.tuple_inj (.inl M) (.inl O)];exact hy,Z],#[L,J,#[15,C],a5,Y]
  .show L2.HN X R0 σ _ {s with heap:=D,toks:=tk}
   refine gF (s:=s) (its:=[v,v2]) I (ch:=[z,TI,TO,i1,i2]) (λb o f q=>?_) N (λb f=>?_) (Jf _) (by show 2<=ζ;decide) (.cons ru (.cons b7 .nil)) ?_
   .simp only[Jg,Jt,Ju,not_or]at f
    exact g.extBut b o f.1 (hk b o f.1 f.2.2.1 f.2.2.2.1 f.2.2.2.2 q)
   .simp only[Jg,Jt,Ju]at f
    rcases f with rfl|rfl|rfl|rfl|rfl
    .exact#[_,L]
    .exact#[_,J]
    .exact#[_,C]
    .let#[o,e,_]:=a5;exact#[o,e]
    .let#[o,e,_]:=Y;exact#[o,e]
   .exact#[_,g.extBut _ _ (J1 (lt z (by simp))) ht,8]
  .intro b f
   rw[qp (Jm (lt b f))]
   exact(N b f).1
 done:=by
  intro X hP hw hK n i R0 s σ H E I N st hg;subst hP hw hK;let#[xs,r,hx]:=hg;let#[its,rv,p,b5]:=I.tuple (.inl r)
  let#[F,j,#[a,b',l],h1,U]:=st;have n1:∀c∈[z,TI,TO,i1,i2],G≠c:=λc n=>gG r (N c n).1
  have d:N6 z TI TO i1 i2 [i1,G] [i2]:=#[d1,d2,d3,d4,d5,d6,d7,d8,d9,m,by simp [Ne.symm d3,Ne.symm (n1 z (by simp))],by simp [Ne.symm d4],by simp [d8,Ne.symm (n1 TO (by simp))],by simp [d9],by simp [Ne.symm m,Ne.symm (n1 i2 (by simp))],by simp [m]]
  have hl:its.toArray.size=i:=by rw[Js,<- rv.length];exact hx
  have S:s.TypeIs (-z) "zip":=#[_,F,Z]
  unfold pyNext;refine Ja (IQ (wpAny_callSpecial?_slot (name:=RS "__next__") S Lh
   (JY Lh S Mc
    (oP (iV (A:=X.A.in1) (I.ok.hd n) i1 G (n1 i1 (by simp)) its.toArray) d F j #[by rw[hl];exact h1,p] λh' e hk he=>?_) (Me _))))
  let#[o,ho,b0]:=he;refine Ja (IX (T:="StopIteration") (b:=true) #[o,ho,b0] LU ?_)
  refine Jd #[Z,sU (t':=s.toks) I (ch:=[z,i1]) (λb o f e=>?_) (λb f=>N b ?_)]
  .simp only[Jg,Jt,Ju,not_or]at f
   exact hk b o f.1 f.2 e
  .simp only[Jg,Jt,Ju]at f
   rcases f with rfl|rfl<;>simp
 self:=λ_ _ _ _ _ st h=>Ml st.1 h
noncomputable def DP(ta:TA):TI:=λσ H R=>ta σ H λvs H1=>∃a c xs ys,vs=[-a,-c]/\Rd H1 a (.tup xs)/\Rd H1 c (.tup ys)/\R (EQ a c) H1
theorem Es{a b:Φ}{p:Pos}{x1}(hg:Gl X "zip")(hm:X.mg "zip"=none)(ha:PA X [a,b] ta)(h1:Qj a=true:=by rfl)(h2:Qj b=true:=by rfl):
  PI X (.Tuple m x1 r) (.Call (.Name "zip" p) [a,b] [] pos) (DP ta):=by
 intro R0 s σ H R I h;have o:θ [b] X.env=[(false,eval b X.env)]:=ZF h2
 refine Call_ (Zp I hg hm boot_zip (Le (qz (ha pos R0 s σ H _ I h) λP c D=>?_) (by rw[ZF h1,o]) (by rw[o];rfl)))
 let#[vs,H1,l,G,O]:=D;let#[B,z,xs,ys,e,E,J,q]:=O;subst e;let#[u,v,rfl,N,F]:=G.two;cases N;cases F;let#[t,L,M,x]:=l.tuple (.inl E)
 let#[f,K,p2,C]:=l.tuple (.inl J)
 have d:∀(n i j:Nat),i≠j->n+i≠n+j:=λn i j h=>by lia
 refine vL (show c.heap.IsTuple B t.toArray from M) (show c.heap.IsTuple z f.toArray from p2) λh' x w y h1 h2 hk=>Ml x ?_
 refine#[c.heap.objs.size+4,[c.heap.objs.size+4,c.heap.objs.size+2,c.heap.objs.size+3,c.heap.objs.size,c.heap.objs.size+1],15,H1,Z,l.kept (t':=c.toks) hk,
  Ap B z (c.heap.objs.size+4) (c.heap.objs.size+2) (c.heap.objs.size+3) c.heap.objs.size (c.heap.objs.size+1) (d _ 2 4 ⋯) (d _ 3 4 ⋯) (d _ 0 4 ⋯) (d _ 1 4 ⋯) (d _ 2 3 ⋯) (d _ 2 0 ⋯) (d _ 2 1 ⋯) (d _ 3 0 ⋯) (d _ 3 1 ⋯) (d _ 0 1 ⋯),#[x,w,#[15,y],h1,h2],λb A=>?_,q]
 have g:c.heap.objs.size<=b:=by
  simp only[Jg,Jt,Ju]at A;rcases A with rfl|rfl|rfl|rfl|rfl
  .exact IZ _ 4
  .exact IZ _ 2
  .exact IZ _ 3
  .exact Jf _
  .exact IZ _ 1
 exact l.fpOk g (l.hok.fresh g)
end
theorem Al{K:ι}{te:TE}{H:Hp}{Q:VK}{xs ys:Ε}(hl:xs.length=ys.length)(hn:xs.length<=ζ)(Pv:Nat->Ε->Hp->Prop)(r:Pv 0 [] H)
  (hk:∀i zs H,Pv i zs H->Rd H q (.tup xs)/\Rd H h (.tup ys))
  (hs:∀i zs H p x y,xs[i]? =↑x->ys[i]? =↑y->zs.length=i->Pv i zs H->H p=none->te (↑x::↑y::zY js σ) (HM H p (.tup [x,y])) λv f=>Pv (i+1) (zs++[v]) f)
  (hd:∀zs H,zs.length=xs.length->Pv xs.length zs H->∀p,H p=none->Q (-p) (HM H p (.lst zs))):
  ji 2 js (nW K 2 (bK (Qf 0) (bK (Qf 1) nQ))) te σ Q (EQ q h) H:=by
 exists λi m zs n H=>m=xs.length-i/\i<=xs.length/\zs.length=i/\Pv i zs H/\∃o o',n=o::o'::zY js σ,#[xs.length,by simp,JB _,Z,r,none,none,Z]
 rintro i m zs n H ⟨rfl,hi,a,p,o,o',rfl⟩
 let#[g,j]:=hk i zs H p
 by_cases c:i<xs.length
 .have d:i<ys.length:=by lia
  refine .inr #[#[xs,ys,xs[i],ys[i],g,j,by simp [c],by simp [d]],by lia,λv H' y=>?_]
  let#[l,x,y,s,rfl,u,t,rfl]:=y;exists l,0,HX.of qb,5
  exact#[λv f=>Pv (i+1) (zs++[v]) f,λv f w=>#[xs.length-(i+1),jN c,Z,c,by simp [a],w,13],hs i zs _ l x y (u xs g) (t ys j) a p s]
 .have e:i=xs.length:=by lia
  subst e;exact .inl #[#[xs,g,Z],hd zs H a p]
end L3
namespace L3
open PySem PySem.Spec PyProof.Rows L2 PySem.SeqAt
open Sem (wp)
open AutoSeq1 (wpAny_loadPart')
section
theorem Rd.same(s:HJ H H')(h:Rd H a u):Rd H' a u:=by
 rcases h with h|⟨o,h⟩
 .exact .inl (s _ _ h)
 .exact .inr #[o,s _ _ h]
inductive PQ (H:Hp):V->String->Prop where
 |int (i:Int):PQ H (.int i) "int"
 |bl (b:Bool):PQ H (.bl b) "bool"
 |tup {a:Δ} {xs:Ε} (h:Rd H a (.tup xs)):PQ H (-a) "tuple"
 |str (x:Str):PQ H (.str x) "str"
 |non:PQ H .non "NoneType"
 |lst {a:Δ} {xs:Ε} (h:H a=↑(.lst xs)):PQ H (-a) "list"
theorem sM(h:PQ H x t):t∈iK:=by cases h<;>simp
theorem tN(K:ι){t:String}(f:t∈iK):∀a:List String,(∀c∈a,c∈iG)->W.kitAny K (.type t) (a.map Γ.type)=↑(a.any (zz t))
 | [],_=>rfl
 |c::r,h=>by
  have e:=jH K t f c (h c Jr);have i:=tN K f r λd g=>h d (Jv _ g)
  simp only[JS,W.kitAny,e,J4];cases zz t c with
  |true=>rfl
  |false=>simpa using i
theorem qL:zj X (.builtin "isinstance") (λxs H Q=>∃x c t,xs=[x,.ty c]/\PQ H x t/\c∈iG/\Q (.bl (zz t c)) H):=by
 intro R0 s σ H xs p Q I r h;let#[x,c,t,rfl,ty,m,q]:=h;let#[u,v,rfl,f,j]:=gt r
 cases(show v=Γ.type c from j)
 have e:=jH X.K t (sM ty) c m;have d:∀tk,EP X R0 σ Q (.bool (zz t c)) {s with toks:=tk}:=λtk=>#[.bl _,H,I.tok tk,Z,q]
 cases ty with
 |int i=>let#[t,q]:=(show∃t,u=Γ.int i t from f);cases q;exact J8 W.kitx_int I.kIn P5 e (λz=>nomatch z) d
 |bl b=>cases(show u=Γ.bool b from f);exact J8 W.kitx_bool I.kIn P5 e (λz=>nomatch z) d
 | @tup a ys hr=>
  cases(show u=Γ.ref a from f)
  let#[g,_,#[o,h1,l,_],_]:=I.tuple (.inl hr)
  exact J8 W.kitx_tuple I.kIn #[o,h1,l] e (λz=>nomatch z) d
 |str x=>let#[t,q]:=(show∃t,u=Γ.str x t from f);cases q;exact J8 W.kitx_str I.kIn P5 e (λz=>nomatch z) d
 |non=>cases(show u=Γ.none from f);exact J8 W.kitx_none I.kIn P5 e (λz=>nomatch z) d
 | @lst a ys ea=>
  cases(show u=Γ.ref a from f)
  let#[_,_,n,_,h1]:=(show ML X.prog X.w H s.heap a (.lst ys)from I.hok a _ ea)
  exact J8 TQ I.kIn #[_,h1,Z] e (λz=>nomatch z) d
theorem mP:∀{a:List String} {us:Ζ},HS (a.map V.ty) us->us=a.map Γ.type
 | [],_,.nil=>rfl
 |c::a,_,.cons r t=>by
  cases(show _=Γ.type c from r)
  rw[mP t];rfl
theorem ZB:zj X (.builtin "isinstance") (λxs H Q=>∃(x:V) (p:Δ) (l:List String) (t:String),xs=[x,-p]/\H p=↑(.tup (l.map V.ty))/\PQ H x t/\(∀c∈l,c∈iG)/\Q (.bl (l.any (zz t))) H):=by
 intro R0 s σ H xs J Q I r h;let#[x,p,l,t,rfl,D,ty,G,q]:=h;let#[u,v,rfl,m,E]:=gt r
 cases(show v=Γ.ref p from E)
 let#[w,y,#[#[F,L,B,K],j,f,n,g],_]:=I.tuple (HX.of D)
 replace f:F= .type "tuple":=f
 replace g:B= .seq w.toArray n:=g
 subst f g;have e:=tN X.K (sM ty) l G;rw[<- mP y]at e;have d:∀tk,EP X R0 σ Q (.bool (l.any (zz t))) {s with toks:=tk}:=λtk=>#[.bl _,H,I.tok tk,Z,q]
 cases ty with
 |int i=>let#[t,q]:=(show∃t,u=Γ.int i t from m);cases q;exact LH W.kitx_int I.kIn P5 j e (λz=>nomatch z) d
 |bl b=>cases(show u=Γ.bool b from m);exact LH W.kitx_bool I.kIn P5 j e (λz=>nomatch z) d
 | @tup a ys hr=>
  cases(show u=Γ.ref a from m)
  let#[A,_,#[o,h1,C,_],_]:=I.tuple (.inl hr)
  exact LH W.kitx_tuple I.kIn #[o,h1,C] j e (λz=>nomatch z) d
 |str x=>let#[t,q]:=(show∃t,u=Γ.str x t from m);cases q;exact LH W.kitx_str I.kIn P5 j e (λz=>nomatch z) d
 |non=>cases(show u=Γ.none from m);exact LH W.kitx_none I.kIn P5 j e (λz=>nomatch z) d
 | @lst a ys ea=>
  cases(show u=Γ.ref a from m)
  let#[_,_,n,_,h1]:=(show ML X.prog X.w H s.heap a (.lst ys)from I.hok a _ ea)
  exact LH TQ I.kIn #[_,h1,Z] j e (λz=>nomatch z) d
end
def zI(t:Β):Β:=(Ag 16).map λd=>((t.idxOf ((d:Nat):Int):Nat):Int)
theorem bS(t:Β):(zI t).length=16:=by simp [zI]
section
variable{t:Β}(p:t.Perm Nf)
include p
theorem xc:t.Nodup:=p.nodup_iff.mpr ⋯
theorem tH:t.length=16:=by rw[p.length_eq,pC]
theorem Db{d:Nat}(h:d<16):((d:Nat):Int)∈t:=p.mem_iff.mpr (JC.mpr #[d,JT.mpr h,Z])
theorem ox{i:Nat}(h:i<t.length):0<=t[i]/\t[i]<16:=pF (p.mem_iff.mp (IH h))
theorem wm{i:Nat}(h:i<t.length):t.idxOf t[i]=i:=(xc p).idxOf_getElem i h
theorem Ds{d:Nat}(h:d<16):(zI t)[d]'(by rw[bS];exact h)=((t.idxOf ((d:Nat):Int):Nat):Int):=by simp [zI]
end
end L3
namespace L3
open PySem PySem.Spec L2
theorem Qg:O9 X a xh:=#[ya]
theorem BA{a:Φ}{p:Pos}{x1}(hg:Gl X "enumerate")(hm:X.mg "enumerate"=none)(ha:QA X [a] ta)(hs:θ [a] X.env=[(false,eval a X.env)]:=by rfl):QI X (.Tuple d x1 c) (.Call (.Name "enumerate" p) [a] [] pos) (xr X.K ta):=#[AS (hg:=hg) (hm:=hm) (ha:=ha.h) (hs:=hs)]
theorem DR{a b:Φ}{p:Pos}{x1}(hg:Gl X "zip")(hm:X.mg "zip"=none)(ha:QA X [a,b] ta)(h1:Qj a=true:=by rfl)(h2:Qj b=true:=by rfl):QI X (.Tuple d x1 c) (.Call (.Name "zip" p) [a,b] [] pos) (DP ta):=#[Es (hg:=hg) (hm:=hm) (ha:=ha.h) (h1:=h1) (h2:=h2)]
def MZ(H:Hp)(b:Δ)(c:Nat):Prop:=∃n m k:Int,H b=↑(ui n m k)/\0<=m/\m<4611686018427387904/\0<=k/\k<=c
structure NM(b:Δ)(c:Nat)(H H':Hp):Prop where
 kp:∀a o,a≠b->H a=↑o->H' a=↑o
 bx:MZ H' b c
theorem MZ.mono{b:Δ}{d:Nat}(h:MZ H b c)(l:c<=d):MZ H b d:=by
 let#[n,m,k,e,f,g,a,i]:=h
 exact#[n,m,k,e,f,g,a,by lia]
theorem NM.mono{b:Δ}{d:Nat}(h:NM b c H H')(l:c<=d):NM b d H H':=#[h.kp,h.bx.mono l]
theorem NM.refl{b:Δ}(h:MZ H b c):NM b c H H:=#[λ_ _ _ e=>e,h]
theorem NM.trans{b:Δ}(x:NM b c H H1)(y:NM b d H1 a):NM b d H a:=#[λc o n e=>y.kp c o n (x.kp c o n e),y.bx]
theorem _root_.L2.HJ.grc{b:Δ}(x:HJ H H')(h:MZ H b c):NM b c H H':=#[λc o _ e=>x c o e,let⟨n,m,k,e,r⟩:=h;#[n,m,k,x _ _ e,r]]
theorem NM.same{b:Δ}(x:NM b c H H1)(y:HJ H1 a):NM b c H a:=x.trans (y.grc x.bx)
theorem zJ{b:Δ}(hb:MZ H b c)(h:H l=none):l≠b:=λz=>by
 let#[_,_,_,e,_]:=hb;subst z;rw[e]at h;cases h
inductive wW(K:ι)(vs:Ε)(H:Hp)(Q:VK)(_:XK):Prop
 |mk (a:Δ)(ns:Β)(k:Nat)(h1:vs=[-a,.int k])(h2:HQ K H a (ns.map V.int))(h3:∀b H',H b=none->HJ H H'->MZ H' b 0->Q (-b) H')
inductive Zf(vs:Ε)(H:Hp)(Q:VK)(_:XK):Prop
 |mk (b:Δ)(many:Int)(c:Nat)(h1:vs=[-b,.int many])(h2:MZ H b c)(h3:c<1000000000)(h4:0<many)(h5:many<1073741824)(h6:∀r H',0<=r->r<many->NM b (c+1) H H'->Q (.int r) H')
theorem QV{H':Hp}(h:H' p=none)(s:HJ H H'):H p=none:=by
 cases e:H p with
 |none=>rfl
 |some o=>rw[s _ _ e]at h;cases h
def ip:V->Bool
 | .int _=>true
 |_=>false
theorem Cy{t:String}(h:kd H x=↑t):ip x=(zz t "int"&& ! zz t "bool"):=by
 cases x with
 |non=>cases h;decide
 |bl b=>cases h;show false=_;decide
 |int i=>cases h;show true=_;decide
 |str x=>cases h;show false=_;decide
 |byt b=>cases h
 |flt b=>cases h
 |ty b=>cases h
 |ref a=>
  rcases je h with⟨xs,e,rfl⟩|⟨xs,e,rfl⟩
  .show false=_;decide
  .show false=_;decide
theorem AR(h:ip x=true):∃i,x= .int i:=by
 cases x<;>first|exact#[0]|cases h
theorem yc(h:ip x=false):eM x=false:=by
 cases x<;>first|rfl|cases h
inductive il(vs:Ε)(H:Hp)(Q:VK)(_:XK):Prop
 |mk (x:_)(t:_)(h1:vs=[x])(h2:kd H x=↑t)(h3:Q (.bl (ip x)) H)
theorem HJ.sqt{K:ι}(e:HJ H H')(h:HX K H a xs):HX K H' a xs:=by
 rcases h with h|h
 .exact .inl (Rd.same e h)
 .exact .inr h
noncomputable def Zi(t:Β)(i:Nat):Β:=(Ag 16).map λd=>if((d:Nat):Int)∈t.take i then((t.idxOf ((d:Nat):Int):Nat):Int)else 0
theorem cF(t:Β)(i:Nat):(Zi t i).length=16:=by simp [Zi]
theorem An(t:Β):Zi t 0=Dj 16 0:=by simp only[Zi,List.take_zero,Jt,JH];rfl
theorem wz{d:Nat}(h:d<16):(Zi t i)[d]'(by rw[cF];exact h)=if((d:Nat):Int)∈t.take i then((t.idxOf ((d:Nat):Int):Nat):Int)else 0:=by simp [Zi]
theorem CA{t:Β}(p:t.Perm Nf):Zi t t.length=zI t:=by
 unfold Zi zI;refine Lr λd a=>?_
 rw[Ip,Jc (Db p (JT.mp a))]
theorem Bz{t:Β}(p:t.Perm Nf){i:Nat}(hi:i<t.length):(Zi t i).set t[i].toNat (i:Int)=Zi t (i+1):=by
 have b:=ox p hi;refine KD (by rw[Lg,cF,cF]) λd h1 c=>?_
 have a:d<16:=by rw[cF]at c;exact c
 rw[List.getElem_set,wz a,wz a,Ie,Jh hi,OV]
 by_cases e:t[i].toNat=d
 .have e':((d:Nat):Int)=t[i]:=by lia
  rw[Jc e,Jc (by rw[e'];exact JQ _ (Ji.mpr Z)),e',wm p hi]
 .have e':((d:Nat):Int)≠t[i]:=by lia
  rw[Jb e];simp only[JP,Ji,e',Ju]
inductive vF(K:ι)(vs:Ε)(H:Hp)(Q:VK)(_:XK):Prop
 |mk (a:Δ)(t:Β)(h1:vs=[-a])(h2:(HQ K H a (t.map V.int)\/HX K H a (t.map V.int)))(h3:t.Perm Nf)(h4:∀p H',HJ H H'->H' p=↑(.tup ((zI t).map V.int))->Q (-p) H')
theorem jI{X:Cx}{K:ι}(a:X.K=K){k:Nat}(n:Nat)(hc:X.calm=true)(h:Rk X es t)(hn:(assignEach es X.env).length=n:=by rfl)(hst:(assignEach es X.env).findIdx? (·.1)=none:=by rfl):QG X (.Tuple es k pos) (nW K n t):=by
 subst a
 exact#[mX (hc:=hc) (h:=h.h) (hn:=hn) (hst:=hst)]
end L3
namespace L3
open PySem PySem.Spec PyProof.Rows L2
open Sem (wp)
namespace RV
theorem y7:Slot "reversed" "__init__" "object.__init__":=
  .of (owner := "object") (n := "__init__") (by rw[LI,LJ];kernel_rfl) nofun nofun nofun
    (by first | exact .inl nofun | exact .inr nofun) (by rw[Li];kernel_rfl)
theorem called:TypeCalled "reversed" "reversed.__new__" "object.__init__":=
 #[nofun,nofun,#[15,F.mro_reversed],F.made_reversed,nofun,F.sub_reversed_self,y7]
theorem slot_next:Slot "reversed" "__next__" "reversed.__next__":=
  .of (owner := "reversed") (n := "__next__") (by rw[LI,LJ];kernel_rfl) nofun nofun nofun
    (by first | exact .inl nofun | exact .inr nofun) (by rw[Li];kernel_rfl)
theorem entry_next:entryFor table "reversed.__next__"=some γ.«reversed.__next__»:=entryFor_of_tree (by kernel_rfl)
theorem lv:Manifest.owners.lookup (String.ofList ['d', 'e', 's', 'r', 'e', 'v', 'e', 'r'].reverse)=↑Manifest.sig_reversed:=by kernel_rfl
theorem args_next(a:Γ):argsOk "reversed.__next__" #[[a],[]]:=by
 unfold argsOk;rw[signature?_of (id:="reversed.__next__") (n:=['_', '_', 't', 'x', 'e', 'n', '_', '_']) (o:=['d', 'e', 's', 'r', 'e', 'v', 'e', 'r']) (by kernel_rfl) lv]
 kernel_rfl
theorem slot_iter:Slot "reversed" "__iter__" "reversed.__iter__":=
  .of (owner := "reversed") (n := "__iter__") (by rw[LI,LJ];kernel_rfl) nofun nofun nofun
    (by first | exact .inl nofun | exact .inr nofun) (by rw[Li];kernel_rfl)
theorem args_iter(a:Γ):argsOk "reversed.__iter__" #[[a],[]]:=by
 unfold argsOk;rw[signature?_of (id:="reversed.__iter__") (n:=['_', '_', 'r', 'e', 't', 'i', '_', '_']) (o:=['d', 'e', 's', 'r', 'e', 'v', 'e', 'r']) (by kernel_rfl) lv]
 kernel_rfl
theorem entry_iter:entryFor table "reversed.__iter__"=some γ.«dict_keyiterator.__iter__»:=
  entryFor_alias (id':="dict_keyiterator.__iter__") (by kernel_rfl)
    (by first | rfl | decide +kernel | (unfold String.splitOn
                                        simp +decide [String.splitOnAux])) nofun (by kernel_rfl)
theorem no_tuple:typeLookup (.type "tuple") "__reversed__"=pure none:=by
 rw[LI,LJ]
 kernel_rfl
theorem tup_dict:isSubtype (.type "tuple") (.type "dict")=pure false:=by
 rw[Li]
 kernel_rfl
theorem ri_rev:isSubtype (.type "range_iterator") (.type "reversed")=pure false:=by
 rw[Li]
 kernel_rfl
theorem tc1(a:Γ):checkTypeCall "reversed" #[[a],[]]=pure ():=by kernel_rfl
end RV
def NV(h:Ψ)(it t:Δ)(i:Int):Prop:=∃o,h.get? it=↑o/\o.cls= .type "reversed"/\o.data= .fields (AA [-t,rawInt i])
theorem ub(l:Δ)(items:Array Γ)(hz:items.size<=ζ):
  Meets (γ.«reversed.__new__» #[[.type "reversed",-l],[]]) (λA R s=>s.heap.IsTuple l items/\
   R (.ok (.ret (-s.heap.objs.size))) {s with heap:=s.heap.push {cls:= .type "reversed",data:= .fields (AA [-l,rawInt ((items.size:Int)-1)])},toks:=s.toks+2}):=
 .of_wp λprog w A R s h=>by
  let#[i,g,d,tk,a]:=s;let#[f,h]:=h
  have m:=F.sub_reversed_self;have j:Θ.TypeIs #[i,g,d,tk,a] (-l) "tuple":=let⟨o,e,c,_⟩:=f;#[o,e,c]
  have r:Ψ.IsTuple (Θ.heap #[i,g,d,tk,a]) l items:=f
  have p:=RV.tup_dict;have n:IsTup (Θ.heap #[i,g,d,tk,a]) l items:=f
  have q:=ai
  wp_walk using Ls j RV.no_tuple,Iy p,Ls j F.slot_tuple_getitem.lookup,len_tuple n (by omega)
  exact#[0,h]
end L3
namespace L3
open PySem PySem.Spec PyProof.Rows L2
open Sem (wp)
noncomputable abbrev Ce(a b c:Int):Bool:=γ.Range.rangeFitsLong a&&γ.Range.rangeFitsLong b&&γ.Range.rangeFitsLong c&&γ.Range.rangeFitsLong (Neg.neg c)&&γ.Range.rangeFitsLong (a-c)&&γ.Range.rangeFitsLong (γ.Range.rangeSize a b c)
theorem rB(r:Δ)(a b c:Int)(t u v:Tok)(e:¬(! Ce a b c)=true):
  Meets (γ.«range.__reversed__» #[[-r],[]]) (λ_ R s=>s.heap.get? r=some {cls:= .type "range",dict:=none,data:= .fields (AA [.int a t,.int b u,.int c v]),slots:= (AA [])}/\
   R (.ok (.ret (-s.heap.objs.size))) {s with heap:=s.heap.push {cls:= .type (if Ce a b c then "range_iterator" else "longrange_iterator"),data:= .fields (AA [rawInt (a+(γ.Range.rangeSize a b c-1)*c),rawInt (γ.Range.rangeSize a b c),rawInt (Neg.neg c)])}}):=
 .of_wp λprog w A R s h=>by let#[j,g,d,tk,f]:=s;let#[i,h]:=h;wp_walk;exact#[0,h]
theorem vR(n:Nat):γ.Range.rangeSize 0 n 1=n:=by
 unfold γ.Range.rangeSize;rw[Jc ⋯]
 split<;>lia
theorem yu{n:Nat}(hn:(n:Int)<2 ^ 62):Ce 0 n 1=true:=by
 unfold Ce;rw[vR];simp only[γ.Range.rangeFitsLong,JF,decide_eq_true_eq];lia
theorem uk(r:Δ)(n:Nat)(t u v:Tok)(hn:(n:Int)<2 ^ 62):
  Meets (γ.«range.__reversed__» #[[-r],[]]) (λ_ R s=>s.heap.get? r=some {cls:= .type "range",data:= .fields (AA [.int 0 t,.int n u,.int 1 v])}/\
   R (.ok (.ret (-s.heap.objs.size))) {s with heap:=s.heap.push {cls:= .type "range_iterator",data:= .fields (AA [rawInt ((n:Int)-1),rawInt n,rawInt (-1)])}}):=by
 have g:=rB r 0 n 1 t u v (by rw[yu hn];decide)
 rw[yu hn,vR,Jc Z,Int.mul_one,Kc]at g;exact g
section
variable{s:Θ}
theorem NV.typeIs(x:NV s.heap it t i):s.TypeIs (-it) "reversed":=by
 let#[o,a,c,_]:=x
 exact#[o,a,c]
theorem rg{i:Nat}{x:Γ}{Q:Ν->Θ->Prop}(d:NV s.heap it t (i:Int))(hl:IsTup s.heap t items)(hx:items[i]? =↑x)(hz:items.size<=ζ)
  (j:∀h' tk,NV h' it t ((i:Int)-1)->Ψ.SameBut it s.heap h'->Q ↑x {s with heap:=h',toks:=tk}):ε (model prog w) A (pyNext (-it)) Q E s:=by
 let#[o,g,l,f]:=id d;have m:s.TypeIs (-t) "tuple":=let⟨o,e,c,_⟩:=hl;#[o,e,c]
 have p:=ai;have h:i<items.size:=(Array.getElem?_eq_some_iff.mp hx).1
 unfold pyNext;refine Ja (IQ (wpAny_callSpecial?_slot (name:=RS "__next__") (NV.typeIs d) RV.slot_next
  (JY RV.slot_next (NV.typeIs d) RV.entry_next ?_ (RV.args_next _))))
 unfold γ.«reversed.__next__»
 refine Ja (Iy (a:=(Γ.ref it,[])) Z ?_)
 try dsimp only
 refine Ja (JX g f (x:= .ref t) Z ?_)
 refine Ja (JX g f (x:=rawInt (i:Int)) Z ?_)
 show ε _ _ (if(i:Int)<0 then _ else _) _ _ s
 rw[Jb (by lia)]
 try dsimp only
 refine Ja (Ls m F.slot_tuple_getitem.lookup ?_)
 rw[Jb (show¬((↑(Γ.builtin "tuple.__getitem__")).isNone=true)from JK)]
 refine Ja (wpAny_mkInt ?_)
 have n:IsTup (Θ.heap {s with toks:=s.toks+1}) t items:=hl
 refine Ja (IQ (getItem_tuple n (by lia) (by lia) (by unfold seqIndex?;rw[Jb (show¬((i:Int)<0) by lia)];simp [h]) hx ?_))
 try dsimp only
 refine Ja (JX (s:={s with toks:=s.toks+1}) g f (x:=rawInt (i:Int)) Z ?_)
 show ε _ _ (setField (-it) 1 (rawInt ((i:Int)-1)) >>= _) _ _ _
 refine Ja (II (s:={s with toks:=s.toks+1}) g f (by simp) ?_)
 refine Jd #[x,Z,Jd (j _ _ ?_ (G6 ..))]
 exact#[_,Lf _ g (L9 (Lq f _)),(Obj.cls_mapFields ..).trans l,by
  rw[Lq f];simp]
theorem uD{Q:Ν->Θ->Prop}(g:A.handled=none)(c:NV s.heap it t (-1))
  (h:∀h',Ψ.ExtBut it s.heap h'->Q none {s with heap:=h'}):ε (model prog w) A (pyNext (-it)) Q E s:=by
 let#[o,e,i,d]:=id c;unfold pyNext;refine Ja (IQ (wpAny_callSpecial?_slot (name:=RS "__next__") (NV.typeIs c) RV.slot_next
  (JY RV.slot_next (NV.typeIs c) RV.entry_next ?_ (RV.args_next _))))
 unfold γ.«reversed.__next__»
 refine Ja (Iy (a:=(Γ.ref it,[])) Z ?_)
 try dsimp only
 refine Ja (JX e d (x:= .ref t) Z ?_)
 refine Ja (JX e d (x:=rawInt (-1)) Z ?_)
 show ε _ _ (if(-1:Int)<0 then _ else _) _ _ s
 rw[Jc ⋯]
 refine Ja (Ih ?_)
 refine Ja ?_
 show ε _ _ (setField (-it) 1 (rawInt (-1)) >>= _) _ _ _
 refine Ja (II e d (by simp) ?_)
 have f:=Lf (TC (·.setIfInBounds 1 (rawInt (-1)))) e (L9 (Lq d _))
 refine II f (Lq d _) (by simp) ?_
 refine Ja ?_
 show ε _ _ (newExc (.type "StopIteration") [] >>= _) _ _ _
 refine Ja ?_
 simp only[newExc,newTuple];refine Ja (J6 ?_ (by size_fits))
 refine Ja (m:=firstArgMember _ _) (Iy (a:=Γ.none) (by first|rfl|(simp only[firstArgMember];rfl)) ?_)
 refine J6 ?_ (by size_fits)
 simp only[raiseNew];refine Ja (wpAny_handled ?_)
 first|rw[show A.in1.handled=none from g]|rw[g]
 refine Ja (Jd (wpAny_throw ?_))
 refine Ja (IX (T:="StopIteration") (b:=true) #[_,Jp _ Z,Z] LU ?_)
 exact Jd (h _ (((((G6 ..).trans (G6 ..)).extBut).push _).push _))
theorem vG{Q:HG}(a:NV s.heap it t i)(h:Q (-it) s):ε (model prog w) A (pyIter (-it)) Q E s:=by
 refine wpAny_pyIter_slot (NV.typeIs a) RV.slot_iter (JY RV.slot_iter (NV.typeIs a) RV.entry_iter ?_ (RV.args_iter _))
 show ε _ _ (ret (-it)) _ _ s
 exact Jd #[0,"reversed",_,NV.typeIs a,RV.slot_next.lookup,h]
theorem Fd{Q:HG}(hl:s.heap.IsTuple l items)(hz:items.size<=ζ)
  (h:∀h' tk,NV h' s.heap.objs.size l ((items.size:Int)-1)->(∀b o,s.heap.get? b=↑o->h'.get? b=↑o)->Q (-s.heap.objs.size) {s with heap:=h',toks:=tk}):
  ε (model prog w) A (call (.type "reversed") [-l]) Q E s:=by
 refine callType_new RV.called ⋯ (RV.tc1 _) (F.newCall_reversed_1 _) (λa=>F.args_object_init_2 a _) F.entry_reversed_new (ub l items hz) #[hl,?_]
 exact#[#[_,Jp _ Z,Z],h _ _ #[_,Jp _ Z,9] λb o e=>Jk _ e]
theorem Ec{r:Δ}{n:Nat}{Q:HG}(hr:s.heap.get? r=some {cls:= .type "range",data:= .fields (AA [.int 0 t,.int n u,.int 1 v])})(hn:(n:Int)<2 ^ 62)
    (h:∀h',IsRangeIter h' s.heap.objs.size ((n:Int)-1) n (-1)->(∀b o,s.heap.get? b=↑o->h'.get? b=↑o)->Q (-s.heap.objs.size) {s with heap:=h'}):
    ε (model prog w) A (call (.type "reversed") [-r]) Q E s:=by
  have f:s.TypeIs (-r) "range":=#[_,hr,Z]
  refine callType_other (U:="range_iterator") (Q₁:=λd c=>d= .ref s.heap.objs.size/\∃h',c={s with heap:=h'}/\IsRangeIter h' s.heap.objs.size ((n:Int)-1) n (-1)/\∀b o,s.heap.get? b=↑o->h'.get? b=↑o) nofun F.create_reversed #[15,F.mro_reversed] F.made_reversed RV.ri_rev (RV.tc1 _) ?_ ?_
  · refine codeAny_of_tree ?_
    show ε _ A.in1.in1 (do checkBuiltinCall "reversed.__new__" #[[.type "reversed",-r],[]];again (.builtin "reversed.__new__" #[[.type "reversed",-r],[]])) _ _ s
    refine Ja (Iy (F.newCall_reversed_1 _) (Jd #[plainId_quiet F.plain_reversed_new _,I0 F.entry_reversed_new ?_]))
    rw[R3 F.plain_reversed_new _];unfold γ.«reversed.__new__»
    refine Ja (Iy (newClass_reversed _) ?_)
    try dsimp only
    refine Ja (Iy (a:=()) (by first|rfl|kernel_rfl) ?_)
    refine Ja (Iy (a:=()) (by first|rfl|kernel_rfl) ?_)
    try dsimp only
    refine Ja (Ls f F.slot_range_reversed.lookup ?_)
    try dsimp only
    refine Ja (Iy (F.slot_range_reversed.bind _) ?_)
    try dsimp only
    first
    |rw[Jb (show¬((Γ.builtin "range.__reversed__"==Γ.none)=true)from JK)]
    | (show ε _ _ (if(Γ.builtin "range.__reversed__"==Γ.none)=true then _ else _) _ _ _
       rw[Jb (show¬((Γ.builtin "range.__reversed__"==Γ.none)=true)from JK)])
    refine Ja (Ih ?_)
    refine Ja (m:=runValue (.call (.builtin "range.__reversed__") ⟨[-r],[]⟩)) (show ε _ _ (call (.builtin "range.__reversed__") [-r]) _ _ _ from
      Lo F.slot_range_reversed f F.entry_range_reversed (F.args_range_reversed_1 _) (uk r n t u v hn) ⟨hr,?_⟩)
    first
    |exact Jd ⟨rfl,_,rfl,Jp _ rfl,λb o e=>Jk _ e⟩
    |exact Ja (Jd (Jd ⟨rfl,_,rfl,Jp _ rfl,λb o e=>Jk _ e⟩))
  · rintro d c ⟨rfl,h',rfl,hi,hk⟩
    exact⟨⟨_,hi,rfl⟩,h h' hi hk⟩
end
noncomputable def tW(K:ι)(a:Δ)(n:Nat):It:=
 ⟨λi H=>i<n/\∃xs,HQ K H a xs/\xs.length=n,λi H x H'=>H'=H/\∀xs,HQ K H a xs->xs[n-1-i]? =↑x,λi _=>n<=i⟩
noncomputable def uz(K:ι)(a:Δ)(n:Nat):It:=
 ⟨λi H=>i<n/\∃xs,HX K H a xs/\xs.length=n,λi H x H'=>H'=H/\∀xs,HX K H a xs->xs[n-1-i]? =↑x,λi _=>n<=i⟩
noncomputable def uA(n:Nat):It:=⟨λi _=>i<n,λi H x H'=>H'=H/\x= .int ((n:Int)-1-i),λi _=>n<=i⟩
theorem vp{K:ι}(a it:Δ)(n:Nat):N5 P w K tg (tW K a n) [it] it (λi h=>i<=n/\h.IsRevIter it a ((n:Int)-1-i)) where
 mem:=by simp
 obj:=λi h st b g=>by
  have e:b=it:=by simpa using g
  subst e;let#[_,o,e,c,d]:=st
  exact#[o,e,λv z=>by rw[d]at z;cases z]
 keep:=λi h h' st k=>#[st.1,st.2.at λo e=>k it (by simp) o e]
 item:=by
  intro X y B A F i R0 s σ H E I m st r;subst y B A;let#[hi,xs,G,M]:=r;let#[L,Q,p,Y]:=I.list G;have l:n-1-i<xs.length:=M.symm▸Gk hi
  let#[u,S,U]:=Q.get (Jh l)
  let#[D,f1,f2,t,q,C]:=m it (by simp)
  have N:=Ez hi;have f:=st.2;rw[N]at f;refine wpAny_pyNext_rev_item f p.isList (x:=u) (by simpa using S) λh' j J=>?_
  have O:L2.HN X R0 σ H {s with heap:=h'}:=I.turned (t':=s.toks) (λb o g e=>(J.2 b g).trans e) D f1 t q C
  let#[o,e,c,d]:=id j;refine#[u,Z,eI (s:={s with heap:=h'}) e c d ⋯ #[_,H,O,U,#[Z,λys R=>by rw[I.list_inj R G];exact Jh l],#[by lia,?_],λb g=>(m b g).1]]
  have T:=Cg hi;rw[<- T];exact j
 done:=by
  intro X y B A F i R0 s σ H E I m st r;subst y B A;let#[D,f1,f2,t,q,C]:=m it (by simp)
  have hi:i=n:=OW st.1 r
  have f:=st.2;rw[show(n:Int)-1-i= -1 by lia]at f
  exact wpAny_pyNext_rev_end (I.ok.hd F) f λh' W=>#[Z,I.turned (t':=s.toks) (λb o g e=>W b o g e) D f1 t q C]
 self:=λ_ _ _ _ _ st h=>wpAny_pyIter_revIter st.2 h
theorem wu{K:ι}(a it:Δ)(n:Nat):N5 P w K tg (uz K a n) [it] it (λi h=>i<=n/\NV h it a ((n:Int)-1-i)) where
 mem:=by simp
 obj:=λi h st b g=>by
  have e:b=it:=by simpa using g
  subst e;let#[_,o,e,c,d]:=st
  exact#[o,e,λv z=>by rw[d]at z;cases z]
 keep:=λi h h' st k=>#[st.1,let⟨o,e,r⟩:=st.2;#[o,k it (by simp) o e,r]]
 item:=by
  intro X A C B L i R0 s σ H E I m st t;subst A C B;let#[hi,xs,M,Q]:=t;let#[O,G,p,hz]:=I.tuple M;have J:=G.length;have l:n-1-i<xs.length:=Q.symm▸Gk hi
  let#[u,U,Y]:=G.get (Jh l)
  let#[F,f1,f2,y,q,D]:=m it (by simp)
  have R:=Ez hi;have f:=st.2;rw[R]at f;refine rg f p (x:=u) (by simpa using U) (by simp;lia) λh' tk j N=>?_
  have S:L2.HN X R0 σ H {s with heap:=h',toks:=tk}:=I.turned (t':=tk) (λb o g e=>(N.2 b g).trans e) F f1 y q D
  let#[o,e,c,d]:=id j;refine#[u,Z,eI (s:={s with heap:=h',toks:=tk}) e c d ⋯ #[_,H,S,Y,#[Z,λys T=>by rw[I.tuple_inj T M];exact Jh l],#[by lia,?_],λb g=>(m b g).1]]
  have W:=Cg hi;rw[<- W];exact j
 done:=by
  intro X A C B L i R0 s σ H E I m st t;subst A C B;let#[F,f1,f2,y,q,D]:=m it (by simp)
  have hi:i=n:=OW st.1 t
  have f:=st.2;rw[show(n:Int)-1-i= -1 by lia]at f
  exact uD (I.ok.hd L) f λh' eb=>#[Z,I.turned (t':=s.toks) (λb o g e=>eb b o g e) F f1 y q D]
 self:=λ_ _ _ _ _ st h=>vG st.2 h
theorem xp{K:ι}(it:Δ)(n:Nat):N5 P w K tg (uA n) [it] it (λi h=>IsRangeIter h it ((n:Int)-1+(i:Nat)*(-1)) ((n:Int)-(i:Nat)) (-1)) where
 mem:=by simp
 obj:=λi h st b a=>by
  have e:b=it:=by simpa using a
  subst e
  exact#[_,st,λv z=>by
   have y:Sf _=SJ v:=z
   cases y]
 keep:=λi h h' st k=>k it (by simp) _ st
 item:=by
  intro X l p j g i R0 s σ H E I d st f;subst l p j;let#[m,f1,f2,r,q,u]:=d it (by simp)
  have W:=Walks.range (prog:=X.prog) (w:=X.w) (I.ok.hd g) it ((n:Int)-1) (-1) n
  refine W.item i s _ _ f st λv h' tk x c B=>?_
  let#[t,rfl]:=x;have C:L2.HN X R0 σ H {s with heap:=h',toks:=tk}:=I.turned (λb o a e=>B b o (by simpa using a) e) m f1 r q u
  refine#[0,eI (s:={s with heap:=h',toks:=tk}) (n:="range_iterator") c Z Z ⋯ #[.int ((n:Int)-1-i),H,C,#[t,?_],#[9],c,λb a=>(d b a).1]]
  rw[show(n:Int)-1+(i:Nat)*(-1)=(n:Int)-1-i by lia]
 done:=by
  intro X l p j g i R0 s σ H E I d st f;subst l p j;let#[m,f1,f2,r,q,u]:=d it (by simp)
  exact wpAny_pyNext_range_end (I.ok.hd g) st (by have:n<=i:=f;lia) λh' A=>#[Z,I.turned (t':=s.toks) (λb o a e=>A b o a e) m f1 r q u]
 self:=λ_ _ _ _ _ st h=>Mq st h
section
variable{K:ι}
theorem Aq:bootBuiltins "reversed"=↑(.type "reversed"):=by kernel_rfl
noncomputable def FC(K:ι)(ta:TA):TI:=λσ H R=>ta σ H λvs H1=>∃a,vs=[-a]/\((∃xs,HQ K H1 a xs/\R (tW K a xs.length) H1)\/(∃xs,HX K H1 a xs/\R (uz K a xs.length) H1)\/∃n:Nat,H1 a=↑(.rng 0 n)/\(n:Int)<2 ^ 62/\R (uA n) H1)
theorem Ew{a:Φ}{p:Pos}(hg:Gl X "reversed")(hm:X.mg "reversed"=none)(ha:PA X [a] ta)(hn:Qj a=true:=by rfl):
  PI X tg (.Call (.Name "reversed" p) [a] [] pos) (FC X.K ta):=by
 intro R0 s σ H R I h;refine Call_ (Zp I hg hm Aq (Le (qz (ha pos R0 s σ H _ I h) λD d z=>?_) (ZF hn) Z))
 let#[vs,H1,g,C,w]:=z;let#[l,e,w]:=w;subst e;let#[u,rfl,y]:=C.one;cases y;have i:∀b∈[d.heap.objs.size],Zm X R0 H1 b:=λb B=>by
  rw[Ji.mp B];exact g.fpOk (Jf _) (g.hok.fresh (Jf _))
 rcases w with⟨xs,m,q⟩|⟨xs,m,q⟩|⟨n,m,j,q⟩
 .let#[c,r,pl,x]:=g.list m
  have f:=r.length;refine call_reversed_list pl.isList ?_
  have hi:(d.heap.push (revObj l ((c.toArray.size:Int)-1))).IsRevIter d.heap.objs.size l ((c.toArray.size:Int)-1):=#[_,Jp _ Z,9]
  refine wpAny_pyIter_revIter hi ?_
  refine#[d.heap.objs.size,[d.heap.objs.size],15,H1,Z,g.kept (t':=d.toks) λb o e=>Jk _ e,vp l _ xs.length,#[JB _,?_],i,q]
  rw[show(xs.length:Int)-1-((0:Nat):Int)=(c.toArray.size:Int)-1 by simp [f]]
  exact hi
 .let#[c,r,pl,x]:=g.tuple m
  have f:=r.length;refine Fd (show d.heap.IsTuple l c.toArray from pl) (by simp;lia) λh' tk hi hk=>vG hi ?_
  refine#[d.heap.objs.size,[d.heap.objs.size],15,H1,Z,g.kept (t':=tk) hk,wu l _ xs.length,#[JB _,?_],i,q]
  rw[show(xs.length:Int)-1-((0:Nat):Int)=(c.toArray.size:Int)-1 by simp [f]]
  exact hi
 .let#[t,u,v,A]:=g.hok l _ m
  refine Ec A j λh' hi hk=>Mq hi ?_
  refine#[d.heap.objs.size,[d.heap.objs.size],15,H1,Z,g.kept (t':=d.toks) hk,xp _ n,?_,i,q]
  show IsRangeIter _ _ _ _ _
  rw[show(n:Int)-1+((0:Nat):Int)*(-1)=(n:Int)-1 by lia,show(n:Int)-((0:Nat):Int)=n by lia]
  exact hi
noncomputable def AL(K:ι)(tl:TE):TI:=λσ H R=>tl σ H λx H1=>∃a,x= .ref a/\((∃xs,HQ K H1 a xs)/\R (fF K a) H1\/(∃xs,HX K H1 a xs)/\R (lE K a) H1)
theorem ED(hl:PE X l tl):PI X tg l (AL X.K tl):=by
 intro R0 s σ H R I h;refine qz (hl R0 s σ H _ I h) λv c r=>?_
 let#[x,H1,d,u,i]:=r;let#[a,e,i]:=i;subst e;cases u;have g:∀b∈[c.heap.objs.size],Zm X R0 H1 b:=λb t=>by
  rw[Ji.mp t];exact d.fpOk (Jf _) (d.hok.fresh (Jf _))
 rcases i with⟨⟨xs,j⟩,q⟩|⟨⟨xs,j⟩,q⟩
 .let#[f,n,p,m]:=d.list j
  refine LA p.isList ?_
  exact#[c.heap.objs.size,[c.heap.objs.size],15,H1,Z,d.kept (t':=c.toks) λb o e=>Jk _ e,kI a _,#[_,Jp _ Z,9],g,q]
 .let#[f,n,p,m]:=d.tuple j
  refine Ld (show c.heap.IsTuple a f.toArray from p) ?_
  exact#[c.heap.objs.size,[c.heap.objs.size],15,H1,Z,d.kept (t':=c.toks) λb o e=>Jk _ e,jh a _,#[_,Jp _ Z,9],g,q]
abbrev ab(J:It)(g:TG)(tb:TS)(D:Ng)(σ:L2.St)(H:Hp):Prop:=∃W:Nat->Nat->L2.St->Hp->Prop,(∃m,W 0 m σ H)/\∀i m σ H,W i m σ H->
      (J.stop i H/\D.nx σ H)\/(J.go i H/\∃N:L2.St->Hp->Prop,(∀σ' H',N σ' H'->∃m',m'<m/\W (i+1) m' σ' H')/\∀x H',J.yld i H x H'->g x σ H' λσ2 H2=>tb {D with nx:=N,ct:=N,bk:=D.nx} σ2 H2)
theorem gA{J:It}{n:Nat}(Pv:Nat->L2.St->Hp->Prop)(h:Pv 0 σ H)(d:∀i σ H,i<n->Pv i σ H->J.go i H)(hst:∀H,J.stop n H)
  (hs:∀i x σ H H',i<n->Pv i σ H->J.yld i H x H'->g x σ H' λc l=>tb {D with nx:=Pv (i+1),ct:=Pv (i+1),bk:=D.nx} c l)(hd:∀σ H,Pv n σ H->D.nx σ H):ab J g tb D σ H:=by
 exists λi m σ H=>m=n-i/\i<=n/\Pv i σ H,#[n,by simp,JB _,h]
 rintro i m σ H ⟨rfl,hi,p⟩
 by_cases a:i<n
 .exact .inr #[d i σ H a p,Pv (i+1),λf H' j=>#[n-(i+1),jN a,Z,a,j],λx H' y=>hs i x σ H H' a p y]
 .have e:i=n:=by lia
  subst e;exact .inl #[hst H,hd σ H p]
theorem Bt(Pv:Nat->L2.St->Hp->Prop)(d:Pv 0 σ H)(hl:∀i σ H,Pv i σ H->HQ K H a xs)
  (hs:∀i x σ H,i<xs.length->xs[xs.length-1-i]? =↑x->Pv i σ H->g x σ H λc e=>tb {D with nx:=Pv (i+1),ct:=Pv (i+1),bk:=D.nx} c e)(hd:∀σ H,Pv xs.length σ H->D.nx σ H):ab (tW K a xs.length) g tb D σ H:=
 gA Pv d (λi σ H hi p=>#[hi,xs,hl i σ H p,Z]) (λ_=>Jf _) (λi x σ H H' hi p y=>by
  let#[rfl,y]:=y;exact hs i x σ H' hi (y xs (hl i σ H' p)) p) hd
theorem Bk(Pv:Nat->L2.St->Hp->Prop)(d:Pv 0 σ H)(hl:∀i σ H,Pv i σ H->HX K H a xs)
  (hs:∀i x σ H,i<xs.length->xs[xs.length-1-i]? =↑x->Pv i σ H->g x σ H λc e=>tb {D with nx:=Pv (i+1),ct:=Pv (i+1),bk:=D.nx} c e)(hd:∀σ H,Pv xs.length σ H->D.nx σ H):ab (uz K a xs.length) g tb D σ H:=
 gA Pv d (λi σ H hi p=>#[hi,xs,hl i σ H p,Z]) (λ_=>Jf _) (λi x σ H H' hi p y=>by
  let#[rfl,y]:=y;exact hs i x σ H' hi (y xs (hl i σ H' p)) p) hd
theorem BK{n:Nat}(Pv:Nat->L2.St->Hp->Prop)(c:Pv 0 σ H)
  (hs:∀i σ H,i<n->Pv i σ H->g (.int ((n:Int)-1-i)) σ H λa d=>tb {D with nx:=Pv (i+1),ct:=Pv (i+1),bk:=D.nx} a d)(hd:∀σ H,Pv n σ H->D.nx σ H):ab (uA n) g tb D σ H:=
 gA Pv c (λi σ H hi p=>hi) (λ_=>Jf _) (λi x σ H H' hi p y=>by
  let#[rfl,rfl]:=y;exact hs i σ H' hi p) hd
end
end L3
namespace L3
open PySem PySem.Spec L2
theorem xn{a:Φ}{p:Pos}(hg:Gl X "reversed")(hm:X.mg "reversed"=none)(ha:QA X [a] ta)(hn:Qj a=true:=by rfl):QI X tg (.Call (.Name "reversed" p) [a] [] pos) (FC X.K ta):=#[Ew (hg:=hg) (hm:=hm) (ha:=ha.h) (hn:=hn)]
theorem yb(hl:QE X l tl):QI X tg l (AL X.K tl):=#[ED (hl:=hl.h)]
def bO(x:Int):Prop:=0<=x/\x<16
def zH(r:Β):Prop:=∀x∈r,bO x
def BS(n i:Nat):Nat:=if i=0 then n-1 else i-1
def ah(r:Β)(i:Nat):Int:=r.getD (BS r.length i) 0
noncomputable def jE(t:Β)(s:Int)(r:Β)(i:Nat):Β:=r.set i (t.getD ((r.getD i 0+s+i+ah r i)%16).toNat 0)
noncomputable def ij(b:Β)(s:Int)(r:Β)(i:Nat):Β:=r.set i ((b.getD (r.getD i 0).toNat 0-s-i-ah r i)%16)
def ay(t:Β)(s:Int)(r:Β):Nat->Β
 |0=>r
 |n+1=>jE t s (ay t s r n) n
def aU(b:Β)(s:Int)(r:Β):Nat->Β
 |0=>r
 |n+1=>aU b s (ij b s r n) n
def Zc(t:Β):Β->Β->Β
 | [],r=>r
 |s::ks,r=>Zc t ks (ay t s r r.length)
def Zv(b:Β):Β->Β->Β
 | [],r=>r
 |s::ks,r=>aU b s (Zv b ks r) r.length
theorem AW:(jE t s r i).length=r.length:=Lg ..
theorem oX{b:Β}:(ij b s r i).length=r.length:=Lg ..
theorem Za{t:Β}{s:Int}{r:Β}:∀{n:Nat},(ay t s r n).length=r.length
 |0=>rfl
 |n+1=>by rw[ay,AW,Za]
theorem pH{b:Β}{s:Int}:∀{n:Nat} {r:Β},(aU b s r n).length=r.length
 |0,_=>rfl
 |n+1,r=>by rw[aU,pH,oX]
theorem c5{t:Β}:∀{ks r:Β},(Zc t ks r).length=r.length
 | [],_=>rfl
 |s::ks,r=>by rw[Zc,c5,Za]
theorem iH{b:Β}:∀{ks r:Β},(Zv b ks r).length=r.length
 | [],_=>rfl
 |s::ks,r=>by rw[Zv,pH,iH]
theorem mT(h:zH r)(hx:bO x):zH (r.set i x):=λy a=>by
 rcases List.mem_or_eq_of_mem_set a with z|z
 .exact h y z
 .rw[z];exact hx
theorem aO(x:Int):bO (x%16):=#[La _ ⋯,Lc _ ⋯]
theorem j7(h:zH r)(i:Nat):bO (r.getD i 0):=by
 rw[JG]
 by_cases hi:i<r.length
 .rw[Jh hi];exact h _ (IH hi)
 .rw[MA (by lia)];exact#[⋯,⋯]
theorem AQ{t:Β}(p:t.Perm Nf):zH t:=λx a=>pF (p.mem_iff.mp a)
theorem BG{t:Β}(p:t.Perm Nf)(h:zH r):zH (jE t s r i):=mT h (j7 (AQ p) _)
theorem nq{b:Β}(h:zH r):zH (ij b s r i):=mT h (aO _)
theorem cR{t:Β}(p:t.Perm Nf){s:Int}{r:Β}(h:zH r):∀{n:Nat},zH (ay t s r n)
 |0=>h
 |n+1=>BG p (cR p h)
theorem nA{b:Β}{s:Int}:∀{n:Nat} {r:Β},zH r->zH (aU b s r n)
 |0,_,h=>h
 |n+1,_,h=>nA (n:=n) (nq h)
theorem oh{t:Β}(p:t.Perm Nf):∀{ks r:Β},zH r->zH (Zc t ks r)
 | [],_,h=>h
 |s::ks,_,h=>oh (ks:=ks) p (cR p h)
theorem pI{b:Β}:∀{ks r:Β},zH r->zH (Zv b ks r)
 | [],_,h=>h
 |s::ks,_,h=>nA (pI (ks:=ks) h)
theorem lW{r:Β}{i:Nat}(h:i<r.length):(r.set i x).getD i 0=x:=by
 rw[JG,LY h];rfl
theorem rf{r:Β}{i j:Nat}(h:i≠j):(r.set i x).getD j 0=r.getD j 0:=by
 rw[JG,LZ h,<- JG]
theorem FR{n i:Nat}(h2:2<=n)(hi:i<n):i≠BS n i:=by unfold BS;split<;>lia
theorem Fx{r:Β}{i:Nat}(h2:2<=r.length)(hi:i<r.length):ah (r.set i x) i=ah r i:=by
 unfold ah;rw[Lg,rf (FR h2 hi)]
theorem AM{r:Β}{i:Nat}(hi:i<r.length):r.set i (r.getD i 0)=r:=by
 rw[JG,Jh hi];exact List.set_getElem_self hi
theorem BD{t:Β}(p:t.Perm Nf)(h:bO z):(zI t).getD (t.getD z.toNat 0).toNat 0=z:=by
 have a:z.toNat<t.length:=by rw[tH p];have:=h.1;have:=h.2;lia
 have e:t.getD z.toNat 0=t[z.toNat]:=by rw[JG,Jh a];rfl
 have bd:=ox p a;have c:t[z.toNat].toNat<(zI t).length:=by rw[bS];exact GM bd.2
 rw[e,JG,Jh c,IP,Ds p (by rw[bS]at c;exact c)]
 have d:=OX bd.1;rw[d,wm p a]
 have:=h.1
 lia
theorem BL{t:Β}(p:t.Perm Nf){i:Nat}(hr:zH r)(h2:2<=r.length)(hi:i<r.length):ij (zI t) s (jE t s r i) i=r:=by
 unfold ij jE;rw[lW hi,Fx h2 hi,List.set_set,BD p (aO _)];have a:=j7 hr i;have e:((r.getD i 0+s+i+ah r i)%16-s-i-ah r i)%16=r.getD i 0:=by
  have:=a.1
  have:=a.2
  lia
 rw[e,AM hi]
theorem pM{t:Β}(p:t.Perm Nf){s:Int}{r:Β}(hr:zH r)(h2:2<=r.length):∀{n:Nat},n<=r.length->aU (zI t) s (ay t s r n) n=r
 |0,_=>rfl
 |n+1,hn=>by
  rw[ay,aU,BL p (cR p hr) (by rw[Za];exact h2) (by rw[Za];lia)]
  exact pM p hr h2 (by lia)
theorem nw{t:Β}(p:t.Perm Nf):∀{ks r:Β},zH r->2<=r.length->Zv (zI t) ks (Zc t ks r)=r
 | [],_,_,_=>rfl
 |s::ks,r,hr,h2=>by
  rw[Zv,Zc,nw p (cR p hr) (by rw[Za];exact h2),c5,Za,pM p hr h2 (Jf _)]
theorem nY(t:Β):∀(ks:Β) (s:Int) (r:Β),Zc t (ks++[s]) r=ay t s (Zc t ks r) r.length
 | [],_,_=>rfl
 |a::ks,s,r=>by rw[OY,Zc,nY t ks s,Zc,Za]
def Sq(K:ι)(H:Hp)(a:Δ)(xs:Ε):Prop:=HQ K H a xs\/HX K H a xs
theorem Sq.same{K:ι}(e:HJ H H')(h:Sq K H a xs):Sq K H' a xs:=h.elim (λh=> .inl (e.seq h)) λh=> .inr (HJ.sqt e h)
theorem Sq.lst{K:ι}{H:Hp}(h:H a=↑(.lst xs)):Sq K H a xs:= .inl (HQ.of h)
theorem Sq.tup{K:ι}{H:Hp}(h:H a=↑(.tup xs)):Sq K H a xs:= .inr (HX.of h)
inductive jJ(K:ι)(vs:Ε)(H:Hp)(Q:VK)(_:XK):Prop
 |mk (a b c:Δ)(t ks ds:Β)(h1:vs=[-a,-b,-c])(h2:Sq K H a (t.map V.int))(h3:Sq K H b (ks.map V.int))(h4:Sq K H c (ds.map V.int))(h5:t.length=16)(h6:1<=ds.length)(h7:ds.length<64)(h8:∀p H',HJ H H'->H p=none->H' p=↑(.tup ((Zc t ks ds).map V.int))->Q (-p) H')
inductive ku(K:ι)(vs:Ε)(H:Hp)(Q:VK)(_:XK):Prop
 |mk (a b c:Δ)(t ks ds:Β)(h1:vs=[-a,-b,-c])(h2:Sq K H a (t.map V.int))(h3:Sq K H b (ks.map V.int))(h4:Sq K H c (ds.map V.int))(h5:t.Perm Nf)(h6:zH ds)(h7:1<=ds.length)(h8:ds.length<64)(h9:∀p H',HJ H H'->H p=none->H' p=↑(.tup ((Zv (zI t) ks ds).map V.int))->Q (-p) H')
theorem a9{r:Β}{i:Nat}{z:Int}(e:z=(i:Int))(h:i<r.length):QJ (r.map V.int) z=↑(.int (r.getD i 0)):=by
 rw[DM e (jP h),JG,Jh h];rfl
theorem yZ{r:Β}{i:Nat}{z:Int}(e:z=(i:Int)-1)(h:i<r.length):QJ (r.map V.int) z=↑(.int (ah r i)):=by
 subst e;unfold ah BS
 by_cases a:i=0
 .subst a
  rw[Jc Z];have c:=OM h;unfold QJ cD;rw[Je,Jb (by lia),Jc (by lia)]
  have d:((((0:Nat):Int)-1)+(r.length:Int)).toNat=r.length-1:=by lia
  show(r.map V.int)[((((0:Nat):Int)-1)+(r.length:Int)).toNat]? =_
  rw[d,jP c,JG,Jh c];rfl
 .rw[Jb a]
  exact a9 (Int.ofNat_sub (Oi a)).symm (Ka (Nat.sub_le i 1) h)
theorem Sq.ix{K:ι}{v:V}{Q:VK}(h:Sq K H a xs)(e:QJ xs i=↑v)(q:Q v H):EH K (-a) (.int i) H Q\/Ae K (-a) (.int i) H Q:=
 h.elim (λh=> .inl #[a,xs,i,v,9,h,e,q]) λh=> .inr #[a,xs,i,v,9,h,e,q]
section
variable{K:ι}
theorem C2(c:Sq K H0 a xs)(Pv:Nat->L2.St->Hp->Prop)(d:Pv 0 σ H)(hk:∀i e H',Pv i e H'->HJ H0 H')
  (hs:∀i x σ H,xs[i]? =↑x->Pv i σ H->g x σ H λf h=>tb {D with nx:=Pv (i+1),ct:=Pv (i+1),bk:=D.nx} f h)(hd:∀σ H,Pv xs.length σ H->D.nx σ H):
  ((∃xs,HQ K H a xs)/\ab (fF K a) g tb D σ H)\/((∃xs,HX K H a xs)/\ab (lE K a) g tb D σ H):=by
 rcases c with c|c
 .exact .inl #[#[xs,(hk _ _ _ d).seq c],zQ Pv d (λi σ H _ p=>(hk i σ H p).seq c) hs hd]
 .exact .inr #[#[xs,HJ.sqt (hk _ _ _ d) c],gu Pv d (λi σ H _ p=>HJ.sqt (hk i σ H p) c) hs hd]
theorem Bu(c:Sq K H0 a xs)(Pv:Nat->L2.St->Hp->Prop)(d:Pv 0 σ H)(hk:∀i e H',Pv i e H'->HJ H0 H')
  (hs:∀i x σ H,i<xs.length->xs[xs.length-1-i]? =↑x->Pv i σ H->g x σ H λf h=>tb {D with nx:=Pv (i+1),ct:=Pv (i+1),bk:=D.nx} f h)(hd:∀σ H,Pv xs.length σ H->D.nx σ H):
  (∃xs,HQ K H a xs/\ab (tW K a xs.length) g tb D σ H)\/(∃xs,HX K H a xs/\ab (uz K a xs.length) g tb D σ H)\/(∃n:Nat,H a=↑(.rng 0 n)/\(n:Int)<2 ^ 62/\ab (uA n) g tb D σ H):=by
 rcases c with c|c
 .exact .inl #[xs,(hk _ _ _ d).seq c,Bt Pv d (λi σ H p=>(hk i σ H p).seq c) hs hd]
 .exact .inr (.inl #[xs,HJ.sqt (hk _ _ _ d) c,Bk Pv d (λi σ H p=>HJ.sqt (hk i σ H p) c) hs hd])
end
theorem ZO(s:HJ H a)(h:H l=none):HJ H (HM a l o):=λd u e=>by
 rw[qp (qm e h)];exact s _ _ e
theorem jC{ks:Β}{j:Nat}{s:Int}(h:ks[j]? =↑s):ks.take (j+1)=ks.take j++[s]:=by rw[Ie,h];rfl
theorem wY{ks:Β}{j:Nat}{s:Int}(h:ks[j]? =↑s):ks.drop j=s::ks.drop (j+1):=by
 let#[a,e]:=Jw.mp h;rw[Ku a,e]
inductive OI (H:Hp):Nat->V->V->Prop where
 |int (n:Nat)(i:Int):OI H n (.int i) (.int i)
 |str (n:Nat)(x:Str):OI H n (.str x) (.str x)
 |non (n:Nat):OI H n .non .non
 |bl (n:Nat)(b:Bool):OI H n (.bl b) (.bl b)
 | tup {n:Nat} {a b:Δ} {xs ys:Ε} (h1:Rd H a (.tup xs)) (h2:Rd H b (.tup ys)) (hl:xs.length=ys.length)
   (hi:∀(i:Nat) (x y:V),xs[i]? =↑x->ys[i]? =↑y->OI H n x y):OI H (n+1) (-a) (-b)
 | lst {n:Nat} {a b:Δ} {xs ys:Ε} (h1:H a=↑(.lst xs)) (h2:H b=↑(.lst ys)) (hl:xs.length=ys.length)
   (hi:∀(i:Nat) (x y:V),xs[i]? =↑x->ys[i]? =↑y->OI H n x y):OI H (n+1) (-a) (-b)
theorem cy(n:Nat):((Ag n).all λ_=>true)=true:=by simp
section
open SeqAt
theorem zK(r:HS xs us){j:Nat}(h:j<us.length):∃x,xs[j]? =↑x/\HV x us[j]:=by
 have e:=r.length;have c:j<xs.length:=by lia
 let#[u,a,d]:=r.get (Jh c)
 rw[Jh h]at a;cases a
 exact⟨_,Jh c,d⟩
theorem yv(I:L2.HN X R0 σ H s)(h:OI H n x y):∀{v u:Γ} {A:Rj},HV x v->HV y u->A.units+n<cLine->EqAt A s v u true:=by
 induction h with
 |int n i=>rintro v u A ⟨t,rfl⟩ ⟨C,rfl⟩ _;have:=EqAt.int_int (A:=A) (s:=s) i t i C;rwa [Iq]at this
 |str n z=>rintro v u A ⟨t,rfl⟩ ⟨C,rfl⟩ _;have:=TL (A:=A) (s:=s) z t z C;rwa [Iq]at this
 |non n=>
  intro v u A g l _
  cases(show v=Γ.none from g)
  cases(show u=Γ.none from l)
  exact Sn _
 |bl n b=>
  intro v u A g l _
  cases(show v=Γ.bool b from g)
  cases(show u=Γ.bool b from l)
  exact Sn _
 | @tup n a b xs ys h1 h2 hl _ ih=>
  intro v u A g l F
  cases(show v=Γ.ref a from g)
  cases(show u=Γ.ref b from l)
  by_cases d:a=b
  .rw[d];exact Sn _
  .let#[f,o,p,_]:=I.tuple (.inl h1)
   let#[c,m,p2,_]:=I.tuple (.inl h2)
   have G:=o.length;have E:=m.length;have e:=Sx (A:=A) (e:=λ_=>true) (show s.heap.IsTuple a f.toArray from p) (show s.heap.IsTuple b c.toArray from p2) (by lia) (λj D w=>by
    let#[x,ex,r]:=zK o (j:=j) (by simpa using D)
    let#[y,B,q]:=zK m (j:=j) (by simpa using w)
    exact ih j x y ex B r q (by rw[Lu];lia))
   rw[cy,show(f.toArray.size==c.toArray.size)=true by simp;lia]at e
   exact TM d e
 | @lst n a b xs ys h1 h2 hl _ ih=>
  intro v u A g l F
  cases(show v=Γ.ref a from g)
  cases(show u=Γ.ref b from l)
  by_cases d:a=b
  .rw[d];exact Sn _
  .let#[f,o,p,_]:=I.list (HQ.of h1)
   let#[c,m,p2,_]:=I.list (HQ.of h2)
   have G:=o.length;have E:=m.length;have e:=RcAt.lists (A:=A) (e:=λ_=>true) p.isList p2.isList (by simp;lia) (by lia) (λj D w=>by
    let#[x,ex,r]:=zK o (j:=j) (by simpa using D)
    let#[y,B,q]:=zK m (j:=j) (by simpa using w)
    exact ih j x y ex B r q (by rw[Lu];lia))
   rw[cy]at e;exact TM d e
theorem EZ(I:L2.HN X R0 σ H s){A:Rj}(h:OI H n x y)(l:HV x v)(m:HV y u)(hu:A.units+n<cLine):RcAt A s v u true/\RcNeAt A s v u false:=by
 cases h with
 |int n i=>
  let#[t,rfl]:=l;let#[B,rfl]:=m;have g:=RcAt.int_int (A:=A) (s:=s) i t i B
  have f:=RcNeAt.int_int (A:=A) (s:=s) i t i B
  rw[Iq]at g f
  exact#[g,f]
 |str n z=>
  let#[t,rfl]:=l;let#[B,rfl]:=m;have g:=RcAt.str_str (A:=A) (s:=s) z t z B
  have f:=RcNeAt.str_str (A:=A) (s:=s) z t z B
  rw[Iq]at g f
  exact#[g,f]
 |non n=>
  cases(show v=Γ.none from l)
  cases(show u=Γ.none from m)
  exact#[RcAt.none_none,RcNeAt.none_none]
 |bl n b=>
  cases(show v=Γ.bool b from l)
  cases(show u=Γ.bool b from m)
  have g:=RcAt.bool_bool (A:=A) (s:=s) b b
  have f:=RcNeAt.bool_bool (A:=A) (s:=s) b b
  rw[Iq]at g f
  exact#[g,f]
 | @tup n a b xs ys h1 h2 hl ih=>
  cases(show v=Γ.ref a from l)
  cases(show u=Γ.ref b from m)
  let#[d,w,o,_]:=I.tuple (.inl h1)
  let#[c,p,p2,_]:=I.tuple (.inl h2)
  have J:=w.length;have G:=p.length;have q:∀j (C:j<d.toArray.size) (r:j<c.toArray.size),EqAt A.in1 s d.toArray[j] c.toArray[j] ((λ_=>true) j):=λj C r=>by
   let#[x,ex,D]:=zK w (j:=j) (by simpa using C)
   let#[y,F,E]:=zK p (j:=j) (by simpa using r)
   exact yv I (ih j x y ex F) D E (by rw[Lu];lia)
  have g:=Sx (A:=A) (e:=λ_=>true) (show s.heap.IsTuple a d.toArray from o) (show s.heap.IsTuple b c.toArray from p2) (by lia) q
  have f:=RcNeAt.tuples (A:=A) (e:=λ_=>true) (show s.heap.IsTuple a d.toArray from o) (show s.heap.IsTuple b c.toArray from p2) (by lia) q
  rw[cy,show(d.toArray.size==c.toArray.size)=true by simp;lia]at g f
  exact#[g,f]
 | @lst n a b xs ys h1 h2 hl ih=>
  cases(show v=Γ.ref a from l)
  cases(show u=Γ.ref b from m)
  let#[d,w,o,_]:=I.list (HQ.of h1)
  let#[c,p,p2,_]:=I.list (HQ.of h2)
  have J:=w.length;have G:=p.length;have q:∀j (C:j<d.toArray.size) (r:j<c.toArray.size),EqAt A.in1 s d.toArray[j] c.toArray[j] ((λ_=>true) j):=λj C r=>by
   let#[x,ex,D]:=zK w (j:=j) (by simpa using C)
   let#[y,F,E]:=zK p (j:=j) (by simpa using r)
   exact yv I (ih j x y ex F) D E (by rw[Lu];lia)
  have g:=RcAt.lists (A:=A) (e:=λ_=>true) o.isList p2.isList (by simp;lia) (by lia) q
  have f:=RcNeAt.lists (A:=A) (e:=λ_=>true) o.isList p2.isList (by simp;lia) (by lia) q
  rw[cy]at g f
  exact#[g,f]
inductive RJ (b:Bool)(x:V)(y:V)(H:Hp)(Q:VK):Prop
 |mk (n:_)(h1:n<=32)(h2:OI H n x y)(h3:Q (.bl b) H)
def GC(b:Bool):R2:=λx y H Q=>RJ b x y H Q
theorem Fj{k:Nat}(hr:MK k X.A):zx X (Py .NotEq) (GC false):=by
 intro R0 s σ H x y v u Q I a c h;let#[n,d,e,q]:=h
 exact(EZ I e a c (by have:=hr.un;lia)).2 _ _ _ _ #[.bl _,H,I,Z,q]
end
end L3
namespace L3
open PySem PySem.Spec PyProof.Rows L2
open Sem (wp)
noncomputable def BY(x:Str):It:=#[λi _=>i<x.cps.size,λi H v H'=>H'=H/\∃c,x.cps[i]? =↑c/\v= .str #[(AA [c])],λi _=>x.cps.size<=i]
theorem Af{K:ι}(it:Δ)(x:Str)(t:Tok):N5 P w K tg (BY x) [it] it (λi h=>h.IsStrIter it "str_ascii_iterator" x t i) where
 mem:=by simp
 obj:=λi h st b a=>by
  have e:b=it:=by simpa using a
  subst e;let#[o,e,c,d]:=st
  exact#[o,e,λv z=>by rw[d]at z;cases z]
 keep:=λi h h' st k=>let⟨o,e,r⟩:=st;#[o,k it (by simp) o e,r]
 item:=by
  intro X n q p D i R0 s σ H E I g st l;subst n q p;let#[A,f1,f2,m,j,y]:=g it (by simp)
  have W:=Walks.strAscii (prog:=X.prog) (w:=X.w) (I.ok.hd D) it x t
  refine W.item i s _ _ l st λv h' tk F f J=>?_
  let#[c,u,B,rfl]:=F;have G:L2.HN X R0 σ H {s with heap:=h',toks:=tk}:=I.turned (λb o a e=>J b o (by simpa using a) e) A f1 m j y
  let#[o,e,M,d]:=id f
  exact#[0,eI (s:={s with heap:=h',toks:=tk}) e M d ⋯ #[.str #[(AA [c])],H,G,#[u,Z],#[Z,c,B,Z],f,λb a=>(g b a).1]]
 done:=by
  intro X n q p D i R0 s σ H E I g st l;subst n q p;let#[A,f1,f2,m,j,y]:=g it (by simp)
  have C:x.cps.size<=i:=l
  exact wpAny_pyNext_ascii_end (I.ok.hd D) st (by simp [C]) λh' L=>#[Z,I.turned (t':=s.toks) (λb o a e=>L b o a e) A f1 m j y]
 self:=λ_ _ _ _ _ st h=>wpAny_pyIter_striter_ascii st h
section
noncomputable def EM(tl:TE):TI:=λσ H R=>tl σ H λv H1=>∃x,v= .str x/\x.cps.all (· <128)=true/\R (BY x) H1
theorem FD(hl:PE X l tl):PI X tg l (EM tl):=by
 intro R0 s σ H R I h;refine qz (hl R0 s σ H _ I h) λv a d=>?_
 let#[x,H1,c,j,i]:=d;let#[z,rfl,f,q]:=i;let#[t,rfl]:=j;refine wpAny_pyIter_ascii f ?_
 refine#[a.heap.objs.size,[a.heap.objs.size],15,H1,Z,c.kept (t':=a.toks) λb o e=>Jk _ e,Af _ z t,#[_,Jp _ Z,9],λb g=>?_,q]
 rw[Ji.mp g];exact c.fpOk (Jf _) (c.hok.fresh (Jf _))
theorem yq(hl:QE X l tl):QI X tg l (EM tl):=#[FD hl.h]
end
theorem CG{x:Str}{g:TG}{tb:TS}{D:Ng}{σ:L2.St}{H:Hp}(Pv:Nat->L2.St->Hp->Prop)(d:Pv 0 σ H)
  (hs:∀i c σ H,x.cps[i]? =↑c->Pv i σ H->g (.str #[(AA [c])]) σ H λa f=>tb {D with nx:=Pv (i+1),ct:=Pv (i+1),bk:=D.nx} a f)(hd:∀σ H,Pv x.cps.size σ H->D.nx σ H):ab (BY x) g tb D σ H:=
 gA Pv d (λi σ H hi p=>hi) (λ_=>Jf _) (λi v σ H H' hi p y=>by
  let#[rfl,c,e,rfl]:=y;exact hs i c σ H' e p) hd
section
variable{X:Cx}{o e:Φ}{es:Ι}{to:TE}{t:TA}{name:Str}{apos cpos:Pos}{T id:String}{r:V->Ε->Hp->VK->Prop}
theorem Q0(pa:PlainAttrs T)(f:Slot T name id)(h:typeOf (.builtin id)=pure (.type "method_descriptor"))(hm:pL X id r)(ho:QE X o to)(ha:QA X (e::es) t)
  (c:attributeBase o name X.env (eval o X.env)=eval o X.env:=by rfl)
  (g:((backTo cpos (θ (e::es) X.env)).all (λx=> ! x.1)&&(backToKw cpos (keywordEach [] X.env)).all (λx=>x.1.isSome)
   &&decide ((e::es).length+([]:ξ).length+(if([]:ξ).isEmpty then 0 else 1)<30))=true:=by rfl)
  (d:(apos.endLine==cpos.line)=true:=by rfl)(hs:θ (e::es) X.env=(false,eval e X.env)::θ es X.env:=by rfl)(a:(backTo cpos (θ es X.env)).any (·.1)=false:=by rfl):
  QE X (.Call (.Attribute o name apos) (e::es) [] cpos) (DU X.K T r to t):=#[F2 pa f h hm ho.h ha.h c g d hs a]
theorem zV:pL X "list.append" rS:=vN
theorem cI:∀{ys:Α} {us:Ζ},HS (ys.map V.str) us->StrsAre us ys
 | [],_,.nil=> .nil
 |y::ys,_,.cons r t=>by
  let#[u,rfl]:=(show∃u,_=Γ.str y u from r)
  exact .cons _ _ (cI t)
end
theorem bW(ns:Β):∀n,n<=ns.length->preSum (λi=>ns.getD i 0) n=(ns.take n).sum
 |0,_=>by simp [preSum]
 |n+1,h=>by
  have a:n<ns.length:=by lia
  rw[preSum,bW ns n (by lia),Ie,Jh a,OV,List.sum_append,JG,Jh a]
  simp
theorem wZ{B:Int}:∀{ns:Β},(∀z∈ns,0<=z/\z<=B)->0<=ns.sum/\ns.sum<=ns.length*B
 | [],_=>#[by simp,by simp]
 |n::r,h=>by
  have h1:=h n Jr;have c:=wZ (ns:=r) λz a=>h z (Jv _ a)
  rw[List.sum_cons,JR];exists by lia
  have:(((r.length+1:Nat):Int))*B=r.length*B+B:=by rw[Int.natCast_add,Int.add_mul];simp
  lia
section
theorem yd(hc:X.calm=true):zj X (.builtin "sum") (λxs H Q=>∃(p:Δ) (ns:Β),xs=[-p]/\Sq X.K H p (ns.map V.int)/\ns.length<=1000/\(∀z∈ns,0<=z/\z<=1000000)/\Q (.int ns.sum) H):=by
 intro R0 s σ H xs S Q I r h;let#[p,ns,rfl,C,T,G,q]:=h;let#[u,rfl,N]:=zT r;cases N;have bd:∀n,n<=ns.length->0<=preSum (λi=>ns.getD i 0) n/\preSum (λi=>ns.getD i 0) n<=1000000000:=λn K=>by
  rw[bW ns n K];have h1:=wZ (B:=1000000) (ns:=ns.take n) λz y=>G z (List.mem_of_mem_take y)
  have P:(ns.take n).length<=1000:=by rw[G5];lia
  lia
 have w:∀j,j<ns.length->InLong ((λi=>ns.getD i 0) j)/\InLong (preSum (λi=>ns.getD i 0) (j+1)):=λj l=>by
  have R:=bd (j+1) (by lia)
  have O:0<=ns.getD j 0/\ns.getD j 0<=1000000:=by
   rw[JG,Jh l];exact G _ (IH l)
  unfold InLong;simp only
  lia
 have eS:preSum (λi=>ns.getD i 0) ns.length=ns.sum:=by rw[bW ns _ (Jf _),Ip]
 have val:∀{a:Ζ},HS (ns.map V.int) a->∀(i:Nat) (v:Γ),a.toArray[i]? =↑v->∃t,v= .int ((λi=>ns.getD i 0) i) t:=λ{a} g i v M=>by
  have m:a[i]? =↑v:=by simpa using M
  have hi:i<a.length:=(Jw.mp m).1
  let#[x,ex,L]:=zK g hi;let#[z,rfl,y]:=Q9 ex;let#[t,J]:=L;exists t
  rw[(Jw.mp m).2]at J;rw[J]
  show Γ.int z t=Γ.int (ns.getD i 0) t
  rw[JG,y];rfl
 rcases C with C|C
 .let#[a,g,pl,y]:=I.list C
  have f:ns.length=a.length:=by have:=g.length;rwa [Je]at this
  have d:p<s.heap.objs.size:=by let#[_,e,_]:=pl.isList;exact Jl e
  refine call_sum_walk (LA pl.isList ?_)
  refine#[s.heap.objs.size,[s.heap.objs.size,p],[s.heap.objs.size],a.toArray.size,15,λi=>ns.getD i 0,Z,Walks.list (A:=X.A.in1) (I.ok.hd hc) _ p (Jm d) a.toArray,
   #[#[_,Jp _ Z,9],pl.isList.push _],λb c=>?_,val g,λj l=>w j (by simp at l;lia),λh' tk t' hk=>?_]
  .have sz:(s.heap.push {cls:= .type "list_iterator",data:= .fields (AA [-p,.int 0 0])}).objs.size=s.heap.objs.size+1:=JU ..
   simp only[Jg,Jt,Ju]at c
   show b<(Ψ.push s.heap _).objs.size
   rw[JU];rcases c with rfl|rfl
   .exact G0 _
   .exact Ik d
  .have E:preSum (λi=>ns.getD i 0) a.toArray.size=ns.sum:=by rw[Js,<- f];exact eS
   rw[E];refine#[.int _,H,I.kept (h':=h') (t':=tk) λb o q=>hk b o (λF=>?_) (Jk _ q),#[0],q]
   rw[Ji.mp F]at q;exact Ia _ (Jl q)
 .let#[a,g,pl,y]:=I.tuple C
  have f:ns.length=a.length:=by have:=g.length;rwa [Je]at this
  have D:s.heap.IsTuple p a.toArray:=pl
  have d:p<s.heap.objs.size:=by let#[_,e,_]:=D;exact Jl e
  refine call_sum_walk (Ld D ?_)
  refine#[s.heap.objs.size,[s.heap.objs.size,p],[s.heap.objs.size],a.toArray.size,15,λi=>ns.getD i 0,Z,Walks.tuple (A:=X.A.in1) (I.ok.hd hc) _ p (Jm d) a.toArray,
   #[#[_,Jp _ Z,9],let⟨o,e,r⟩:=D;#[o,Jk _ e,r]],λb c=>?_,val g,λj l=>w j (by simp at l;lia),λh' tk t' hk=>?_]
  .simp only[Jg,Jt,Ju]at c
   show b<(Ψ.push s.heap _).objs.size
   rw[JU];rcases c with rfl|rfl
   .exact G0 _
   .exact Ik d
  .have E:preSum (λi=>ns.getD i 0) a.toArray.size=ns.sum:=by rw[Js,<- f];exact eS
   rw[E];refine#[.int _,H,I.kept (h':=h') (t':=tk) λb o q=>hk b o (λF=>?_) (Jk _ q),#[0],q]
   rw[Ji.mp F]at q;exact Ia _ (Jl q)
end
end L3
namespace L3
open PySem PySem.Spec PyProof.Rows L2
section
theorem Ai:AX X (λx y H Q=>∃(p:Δ) (xs:Ε) (i:Nat) (v:V),x= .ref p/\y= .int (i:Int)/\H p=↑(.lst xs)/\xs[i]? =↑v/\Q v H):=by
 intro R0 s σ H o i z B Q I g l h;let#[p,xs,j,v,rfl,rfl,c,a,q]:=h;cases g;let#[t,rfl]:=l;let#[d,r,pl,m]:=I.list (HQ.of c)
 let#[u,f,e]:=r.get a;have w:=r.length;have A:=ai;have n:j<xs.length:=(Jw.mp a).1
 exact wpAny_getItem_list pl.isList (by lia) (by lia) (by simpa using f) #[v,H,I,e,q]
end
def ZL(z:Str):Prop:=(∀c∈z.cps.toList,97<=c/\c<=122)/\1<=z.cps.toList.length/\z.cps.toList.length<=8
theorem nO(h:ZL z):z.cps.all (· <128)=true:=by
 rw[Array.all_eq_true'];intro c a
 have:=h.1 c (by simpa using a)
 simp;lia
def BH(c:Nat):Β:=[((c:Int)-97)%16,((c:Int)-97)/16]
def Zr(a:Κ):Β:=a.flatMap BH
theorem vy(a:Κ)(c:Nat):Zr (a++[c])=Zr a++BH c:=by simp [Zr]
theorem kM(a:Κ):(Zr a).length=2*a.length:=by
 induction a with
 |nil=>rfl
 |cons c r ih=>simp only[Zr,KF,Jy,JR]at ih⊢;rw[ih];simp [BH];lia
noncomputable def jS(ds:Β)(j:Nat):Nat->Int
 |0=>0
 |n+1=>jS ds j n+if n%4=j then ds.getD n 0 else 0
def Z8(ds:Β)(n:Nat):Β:=[jS ds 0 n,jS ds 1 n,jS ds 2 n,jS ds 3 n]
theorem yh(ds:Β)(n:Nat):(Z8 ds n).set (n%4) ((Z8 ds n).getD (n%4) 0+ds.getD n 0)=Z8 ds (n+1):=by
 have h:n%4=0\/n%4=1\/n%4=2\/n%4=3:=by lia
 rcases h with h|h|h|h<;>simp [Z8,jS,h]
def bX(ds:Β):Β:=(Z8 ds ds.length).map (· %16)
theorem oG(ds:Β):(bX ds).length=4:=Z
inductive kO(vs:Ε)(H:Hp)(Q:VK)(_:XK):Prop
 |mk (z:_)(h1:vs=[.str z])(h2:ZL z)(h3:∀l H',HJ H H'->H l=none->H' l=↑(.lst ((Zr z.cps.toList).map V.int))->Q (-l) H')
inductive jy(K:ι)(vs:Ε)(H:Hp)(Q:VK)(_:XK):Prop
 |mk (a b:Δ)(z:Str)(t ks:Β)(h1:vs=[-a,-b,.str z])(h2:Sq K H a (t.map V.int))(h3:Sq K H b (ks.map V.int))(h4:ZL z)(h5:t.length=16)(h6:∀p H',HJ H H'->H p=none->H' p=↑(.tup ((Zc t ks (bX (Zr z.cps.toList))).map V.int))->Q (-p) H')
theorem DB{a:Κ}{i c:Nat}(h:a[i]? =↑c):a.take (i+1)=a.take i++[c]:=by rw[Ie,h];rfl
theorem sY{z:Str}{i c:Nat}(h:z.cps[i]? =↑c):z.cps.toList[i]? =↑c:=by simpa using h
theorem E5{X:Cx}{a:Scope}{y z:Str}{j k:Nat}(f:a.kind= .function)(d:∀x∈a.names,x.2= .local->a.names.lookup x.1=some .local)(c:∀x∈a.names,x.2≠ .cell)
  (e:∀x∈a.names,x.2= .free->x.1∈([y,z]:Α))(h1:X.N[j]? =↑y)(h2:X.env.kindOf y=some .cell)(o:(relabel a X.env).names.lookup y=some .cell)
  (n:X.N[k]? =↑z)(l:X.env.kindOf z=some .cell)(m:(relabel a X.env).names.lookup z=some .cell):MU X a [y,z] [j,k]:=
 #[f,d,c,e,Z,λi p q g h=>by
  match i with
  |0=>cases g;cases h;exact#[h1,h2,o]
  |1=>cases g;cases h;exact#[n,l,m]
  |i+2=>simp at g]
theorem Fl{X:Cx}{c d:Δ}(h:X.env.cells.lookup y=↑c)(g:X.env.cells.lookup z=↑d):∀u e,([(y,c),(z,d)]:List (Str×Δ)).lookup u=↑e->X.env.cells.lookup u=↑e:=λu e a=>by
 by_cases f:u=y
 .subst f
  simp at a
  rw[<- a];exact h
 .by_cases i:u=z
  .subst i
   simp [Iv,show(u==y)=false from by simpa using f]at a
   rw[<- a];exact g
  .simp [Iv,show(u==y)=false from by simpa using f,show(u==z)=false from by simpa using i]at a
end L3
namespace L3
open PySem PySem.Spec PyProof.Rows L2
open Sem (wp)
section
variable{prog:Ξ}{w:Ω}{A:Rj}{E:HG}{s:Θ}
theorem jo{it t:Δ}{items:Array Γ}(h:t≠it):∀(n i:Nat) (s:Θ) (Q:Ζ->Θ->Prop),s.heap.IsListIter it t i->s.heap.IsList t items->i+n<=items.size->
  (∀h',h'.IsListIter it t (i+n)->Ψ.SameBut it s.heap h'->Q ((items.toList.drop i).take n) {s with heap:=h'})->ε (model prog w) A (draw (-it) n) Q E s
 |0,i,s,Q,hit,_,_,hQ=>by
  show ε _ _ (pure []) Q E s
  refine Jd ?_
  have:=hQ s.heap hit (Ψ.SameBut.refl ..)
  simpa using this
 |n+1,i,s,Q,hit,ht,hle,hQ=>by
  have j:i<items.size:=by lia
  show ε _ _ (pyNext (-it) >>= _) Q E s
  refine Ja (wpAny_pyNext_list_item hit ht (x:=items[i]) (by simp [j]) λg c a=>?_)
  have m:(Θ.heap {s with heap:=g}).IsList t items:=let⟨o,e,r⟩:=ht;#[o,a.extBut _ _ h e,r]
  refine Ja (JM (jo h n (i+1) _ _ c m (by lia) λl d f=>Jd ?_))
  have p:items.toList.drop i=items[i]::items.toList.drop (i+1):=by simp [Ku,j]
  have z:=hQ l (by rw[show i+(n+1)=i+1+n by lia];exact d) (a.trans f)
  rw[p,List.take_succ_cons]at z;exact z
theorem oJ{a:List (Bool×(Γ->Sem Unit))}{Q:Unit->Θ->Prop}(u:A.handled=none)(m:s.heap.IsList t items)
  (hn:a.length=items.size)(g:a.findIdx? (·.1)=none)
  (h:∀h',Ψ.ExtBut s.heap.objs.size s.heap h'->ε (model prog w) A (assignInOrder (a.map (·.2)) items.toList) Q E {s with heap:=h'}):
  ε (model prog w) A (unpack (-t) a) Q E s:=by
 have p:t≠s.heap.objs.size:=by let#[o,v,_]:=m;exact Jm (Jl v)
 unfold unpack;rw[hn,g];refine Ja (JM ?_)
 unfold unpackItems;refine Ja ?_
 unfold notIterableAtAll;refine Ja (Ls m.typeIs F.slot_list_iter.lookup ?_)
 refine Jd ?_
 simp only[D2,JH];refine Ja (JM (LA m ?_))
 refine Ja (JM (jo p items.size 0 _ _ #[_,Jp _ Z,9] (m.push _) (by lia) λl d c=>?_))
 have j:List.take items.size (List.drop 0 items.toList)=items.toList:=by
  rw[Kv];exact Ol (by simp)
 rw[j];rw[Jb (by simp)]
 have f:l.IsList t items:=let⟨o,e,r⟩:=m.push _;#[o,c.extBut _ _ p e,r]
 refine Ja (JM (wpAny_pyNext_list_end u d f (by simp) λn i=>?_))
 simp only[Option.isSome_none,D2,JH];exact Jd (h n λb o q e=>i b o q (c.extBut b o q (Jk _ e)))
inductive RK (K:ι)(n:Nat)(t:ZV)(v:V)(σ:L2.St)(H:Hp)(Q:L2.St->Hp->Prop):Prop
 |mk (a:_)(xs:_)(h1:v= .ref a)(h2:Sq K H a xs)(h3:xs.length=n)(h4:t xs σ H Q)
def uE(K:ι)(n:Nat)(t:ZV):TG:=λv σ H Q=>RK K n t v σ H Q
theorem yi{k:Nat}{n:Nat}(hc:X.calm=true)(h:rN X es t)
  (hn:(assignEach es X.env).length=n:=by rfl)(hst:(assignEach es X.env).findIdx? (·.1)=none:=by rfl):PG X (.Tuple es k pos) (uE X.K n t):=by
 intro R0 s σ H v u Q I r d;let#[a,xs,i,c,f,d]:=d;rcases c with c|c
 .subst i
  cases r;let#[j,g,l,q]:=I.list c;rw[assign_Tuple];refine Ja (Ib (oJ (I.ok.hd hc) l.isList (by simp [hn,<- f,g.length]) hst λh' m=>?_))
  have p:L2.HN X R0 σ H {s with heap:=h'}:=I.kept (t':=s.toks) λb o e=>m b o (Jm (Jl e)) e
  exact h R0 _ σ H xs _ Q p (by simpa using g) d
 .exact mX hc h hn hst R0 s σ H v u Q I r #[a,xs,i,c,f,d]
theorem zg{k:Nat}{n:Nat}(hc:X.calm=true)(h:Rk X es t)
  (hn:(assignEach es X.env).length=n:=by rfl)(hst:(assignEach es X.env).findIdx? (·.1)=none:=by rfl):QG X (.Tuple es k pos) (uE X.K n t):=#[yi hc h.h hn hst]
end
end L3
namespace L3
open PySem PySem.Spec PyProof.Rows L2
def aF(c d:Int):Β:=[c%16,c/16%16,c/256,d]
def aB(c d:Int):Β:=aF c d++[(aF c d).sum%16]
def jX(t ks:Β)(z:Str):Β:=Zc t ks (bX (Zr z.cps.toList))
def du(t ks:Β)(z:Str)(c d:Int):Β:=Zc t (jX t ks z) (aB c d)
noncomputable def mr(r:Β):Option (Int×Int):=if r.getD 4 0=(r.getD 0 0+r.getD 1 0+r.getD 2 0+r.getD 3 0)%16 then ↑(r.getD 0 0+r.getD 1 0*16+r.getD 2 0*256,r.getD 3 0)else none
noncomputable def ZN(t ks:Β)(z:Str)(ds:Β):Option (Int×Int):=mr (Zv (zI t) (jX t ks z) ds)
theorem dz(c d:Int):(aB c d).length=5:=Z
theorem Bc(c d:Int):(aF c d).sum=c%16+c/16%16+c/256+d:=by simp [aF];lia
theorem ib{c:Int}(e:0<=c)(h1:c<4096)(hd:bO d):zH (aB c d):=λx a=>by
 simp only[aB,aF,OY,Kq,Jg,Jt,Ju]at a;rcases a with rfl|rfl|rfl|rfl|rfl
 .exact aO _
 .exact aO _
 .exact#[Int.ediv_nonneg e ⋯,Int.ediv_lt_of_lt_mul ⋯ h1]
 .exact hd
 .exact aO _
theorem wH{c:Int}(a:0<=c)(h1:c<4096):mr (aB c d)=↑(c,d):=by
 have e:(aB c d)=[c%16,c/16%16,c/256,d,(c%16+c/16%16+c/256+d)%16]:=by unfold aB;rw[Bc];rfl
 unfold mr;rw[e]
 show(if(c%16+c/16%16+c/256+d)%16=(c%16+c/16%16+c/256+d)%16 then ↑(c%16+c/16%16*16+c/256*256,d)else none)=_
 rw[Jc Z,show c%16+c/16%16*16+c/256*256=c by lia]
theorem Cs{r:Β}(hl:r.length=5):∃a b c d e:Int,r=[a,b,c,d,e]:=by
 match r,hl with
 | [a,b,c,d,e],_=>exact#[a,b,c,d,e,Z]
theorem wV(t ks:Β)(z:Str)(c d:Int):(du t ks z c d).length=5:=by unfold du;rw[c5,dz]
theorem Bx{t:Β}(p:t.Perm Nf){c:Int}(a:0<=c)(h1:c<4096)(hd:bO d):zH (du t ks z c d):=oh p (ib a h1 hd)
theorem lj{t:Β}(p:t.Perm Nf){c:Int}(a:0<=c)(h1:c<4096)(hd:bO d):ZN t ks z (du t ks z c d)=↑(c,d):=by
 unfold ZN du;rw[nw p (ib a h1 hd) (by rw[dz];decide),wH a h1]
noncomputable def fS(H:Hp)(x:V):Option (Int×Int)->Prop
 |none=>x= .non
 |some (c,d)=>∃p,x= .ref p/\H p=↑(.tup [.int c,.int d])
inductive E9(vs:Ε)(H:Hp)(Q:VK)(_:XK):Prop
 |mk (c:Int)(h1:vs=[.int c])(h2:∀p H',HJ H H'->H' p=↑(.tup [.int (c%16),.int (c/16%16),.int (c/256)])->Q (-p) H')
inductive tm(K:ι)(vs:Ε)(H:Hp)(Q:VK)(_:XK):Prop
 |mk (a b:Δ)(z:Str)(age c d:Int)(t ks:Β)(h1:vs=[-a,-b,.str z,.int age,.int c,.int d])(h2:Sq K H a (t.map V.int))(h3:Sq K H b (ks.map V.int))(h4:ZL z)(h5:t.length=16)(h6:0<=c)(h7:c<4096)(h8:bO d)(h9:∀p pc H',HJ H H'->H' p=↑(.tup [.str z,.int age,-pc])->H' pc=↑(.tup ((du t ks z c d).map V.int))->Q (-p) H')
inductive oK(K:ι)(vs:Ε)(H:Hp)(Q:VK)(_:XK):Prop
 |mk (a b pr pc:Δ)(z:Str)(age:Int)(t ks ds:Β)(h1:vs=[-a,-b,-pr])(h2:Sq K H a (t.map V.int))(h3:Sq K H b (ks.map V.int))(h4:Sq K H pr [.str z,.int age,-pc])(h5:Sq K H pc (ds.map V.int))(h6:ZL z)(h7:t.Perm Nf)(h8:ds.length=5)(h9:zH ds)(h10:∀x H',HJ H H'->fS H' x (ZN t ks z ds)->Q x H')
theorem vt{X:Cx}{pos:Pos}{i j:Nat}{x y:Str}{a b:Φ}{pt:Pos}{kt k2 pt2}(hc:X.calm=true)(hN:X.N.Nodup)(hi:X.N[i]? =↑x)(f:X.N[j]? =↑y)(d:i≠j)
  (hx:X.env.scope.names.lookup x=some .local)(g:X.env.scope.names.lookup y=some .local)(ha:QA X [a,b] ta)
  (hw:swappedStores [.Tuple [.Name x c,.Name y e] kt pt] (.Tuple [a,b] k2 pt2) X.env=pure (some [x,y]):=by rfl)
  (hs:swapsWithSole [.Tuple [.Name x c,.Name y e] kt pt] (.Tuple [a,b] k2 pt2) pos.line X.env=pure false:=by rfl):
  QS X (.Assign [.Tuple [.Name x c,.Name y e] kt pt] (.Tuple [a,b] k2 pt2) pos) (FB i j ta):=#[EC hc hN hi f d hx g ha.h hw hs]
def cu(K:ι)(H:Hp)(a:Δ)(f:Str)(v:V):Prop:=∃C dx fs,H a=↑(.ins C dx fs)/\OK K C/\MT K C f/\fs.lookup f=↑v
def oO(K:ι)(H:Hp)(a:Δ)(f:Str)(v:V)(H':Hp):Prop:=∃C dx fs,H a=↑(.ins C dx fs)/\OK K C/\MT K C f/\fs.length<1000/\H'=HM H a (.ins C dx (QC f v fs))
def Gn(C:Δ)(H:Hp)(a:Δ)(m:Str):Prop:=∃dx fs,H a=↑(.ins C dx fs)/\fs.lookup m=none
noncomputable def BW(K:ι)(ta:TE)(f:Str):TE:=λσ H Q=>ta σ H λx H1=>∃a v,x= .ref a/\cu K H1 a f v/\Q v H1
noncomputable def F7(K:ι)(ta tv:TE)(f:Str):TS:=λD σ H=>tv σ H λy H1=>ta σ H1 λx d=>∃a c,x= .ref a/\oO K d a f y c/\D.nx σ c
noncomputable def ye(C:Δ)(m:Str)(sp:Sp)(ta:TE)(t:TA):TE:=λσ H Q=>ta σ H λx H1=>∃a,x= .ref a/\Gn C H1 a m/\t σ H1 λvs c=>sp (x::(vs++[])) c Q E0
section
theorem qU(he:QE X e ta)(hb:attributeBase e f X.env (eval e X.env)=eval e X.env:=by rfl):QE X (.Attribute e f pos) (BW X.K ta f):=#[by
 intro R0 s σ H Q I h;refine CO hb (qz (he.h R0 s σ H _ I h) λu t j=>?_)
 let#[x,H1,o,g,a,v,ex,#[C,dx,fs,d,c,n,l],q]:=j;subst ex
 obtain rfl:u=Γ.ref a:=g
 exact uu o d c n l λr p m i=>#[v,H1,m,i,q]]
theorem zX(ha:QE X o ta)(hv:QE X value tv)(hs:swapsWith value ↑(.Attribute o f pos') pos.line X.env=pure false:=by rfl):QS X (.Assign [.Attribute o f pos'] value pos) (F7 X.K ta tv f):=#[by
 intro R0 s σ H D I h;refine plainObj_wpAny_Assign_Attribute (qz (hv.h R0 s σ H _ I h) λu v ⟨y,H1,w,i,q⟩=>qz (ha.h R0 v σ H1 _ w q) λj A r=>?_) hs
 let#[x,B,t,g,a,E,ex,#[C,dx,fs,d,c,n,l,p],m]:=r;subst ex p
 obtain rfl:j=Γ.ref a:=g
 exact uG t d c n l i λz e=>#[σ,_,e,m]]
end
structure Mf(P:Ξ)(w:Ω)(K:ι)(mg:HH)(base:Ψ)(C:Δ)(m:Str)(ps:Α)(k:Nat)(sp:Sp):Prop where
 ex:∃(f:Δ) (fd:FuncData),NU P w K mg base be k f fd ps sp/\PU K C m f/\NH K fd ps []
structure Ob(K:ι)(C:Δ)(m R1:Str)(st:δ)(ps:Α):Prop where
 ex:∃(f:Δ) (fd:FuncData),OL K m R1 st f fd/\PU K C m f/\NH K fd ps []
structure Mi(P:Ξ)(w:Ω)(K:ι)(mg:HH)(base:Ψ)(C:Δ)(x:Str)(ps:Α)(k:Nat)(sp:Sp):Prop where
 ex:∃(f:Δ) (fd:FuncData),NU P w K mg base be k f fd ps sp/\Mk K C f/\mg x=↑(-C)/\NH K fd ps []
section
variable{K:ι}{X:Cx}{x:Str}{k:Nat}{o e:Φ}{es:Ι}{apos:Pos}{t:TA}{to:TE}{name:Str}{cpos:Pos}{T id:String}{r:V->Ε->Hp->VK->Prop}
theorem Ob.mq{m R1:Str}{st:δ}{ps N:Α}{k:Nat}{sp:Sp}(a:Ob K C m R1 st ps)(S:HK N ps (qi st))
  (d:∀(f:Δ) (cdv:Γ) (A:Rj) (c:Τ) (s:Θ) (H:Hp) (vs:Ε) (Q:VK) (E:XK),MK k (A.deeper (envOfC R1 (qi st) s.heap.objs.size f cdv))->sp vs H Q E->
   ∃t,O9 (cr be P w K mg base N R1 (qi st) f cdv A c s H E).nox (zR st) t/\t {nx:=λ_ H'=>Q .non H',rt:=Q} (Zq N vs) H)(len:∀vs H Q E,sp vs H Q E->vs.length=ps.length:=by intro vs H Q E h;first|(cases h;subst_vars;rfl)|((repeat first|let#[rfl,h]:=h|let#[_,h]:=h);all_goals rfl)):Mf P w K mg base C m ps (k+1) sp:=by
 let#[f,fd,F,m,bd]:=a.ex
 exact#[f,fd,F.ok S len (λcdv A c s H vs Q E e h=>let⟨t,q1,q2⟩:=d f cdv A c s H vs Q E e h;#[t,q1.h,q2]),m,bd]
theorem Mf.mi{x:Str}{ps:Α}{k:Nat}{sp:Sp}(a:Mf P w K mg base C "__init__" ps k sp)(c:W.makesIn K C=true)(d:TK K (-C)=true)(hx:mg x=↑(-C)):Mi P w K mg base C x ps k sp:=
 let⟨f,fd,F,m,bd⟩:=a.ex;#[f,fd,F,#[c,m.at_,m.fn,d],hx,bd]
theorem zb{pl:Sem Bool}(M:Mf X.prog X.w X.K X.mg X.base C m ps k sp)(c:OK X.K C)(hr:MK k X.A)(he:QE X o ta)(ha:QA X (e::es) t)
  (hst:θ (e::es) X.env=(false,eval e X.env)::θ es X.env:=by rfl)(hpl:(backTo pos (θ es X.env)).any (·.1)=false:=by rfl)
  (w:eval (.Call (.Attribute o m apos) (e::es) [] pos) X.env=(do
   let d <- eval o X.env
   standAt apos.atName
   let(f,first) <- holding [d] (getMethod d m pl)
   callWith pos f first (backTo pos (θ (e::es) X.env)) (backToKw pos (keywordEach [] X.env))):=by rfl):
  QE X (.Call (.Attribute o m apos) (e::es) [] pos) (ye C m sp ta t):=#[by
 let#[f,fd,F,g,z]:=M.ex;intro R0 s σ H Q I h;refine W.methodCall_KW (pl:=pl) (qz (he.h R0 s σ H _ I h) λu A y=>?_) w
 let#[x,H1,j,p,a,ex,#[dx,fs,n,l],q]:=y;subst ex
 obtain rfl:u=Γ.ref a:=p
 refine i9 j n c g l ?_
 refine W.callWith_K (first:=[-a]) (h₀:=X.base) I.ok.mod.kin g.kp (qz (ha.h pos R0 A σ H1 _ j q) λus B ⟨vs,D,i,r,v⟩=>#[i.kIn,?_]) hst hpl
 exact pj (us:= .ref a::us) (vs:= .ref a::vs) F hr z .nil mB i (.cons Z r) v]
theorem Zz{pl:Sem Bool}(M:Mf X.prog X.w X.K X.mg X.base C m ps k sp)(c:OK X.K C)(hr:MK k X.A)(he:QE X o ta)
  (n:eval (.Call (.Attribute o m apos) [] [] pos) X.env=(do
   let e <- eval o X.env
   standAt apos.atName
   let(f,first) <- holding [e] (getMethod e m pl)
   callWith pos f first (backTo pos (θ [] X.env)) (backToKw pos (keywordEach [] X.env))):=by rfl):
  QE X (.Call (.Attribute o m apos) [] [] pos) (ye C m sp ta Ad):=#[by
 let#[f,fd,F,g,r]:=M.ex;intro R0 s σ H Q I h;refine W.methodCall_KW (pl:=pl) (qz (he.h R0 s σ H _ I h) λu t p=>?_) n
 let#[x,H1,d,j,a,ex,#[dx,fs,i,l],q]:=p;subst ex
 obtain rfl:u=Γ.ref a:=j
 refine i9 d i c g l ?_
 exact W.callWith_K0 (first:=[-a]) d.kIn g.kp (pj (us:=[-a]) (vs:=[-a]) F hr r .nil mB d (.cons Z .nil) q)]
theorem Dw(M:Mi X.prog X.w X.K X.mg X.base C x ps k sp)(hr:MK (k+1) X.A)(ha:QA X (e::es) t)(hg:Gl X x:=by rfl)(hdb:(x==("__debug__":Str))=false:=by decide)
  (he:θ (e::es) X.env=(false,eval e X.env)::θ es X.env:=by rfl)(hpl:(backTo pos (θ es X.env)).any (·.1)=false:=by rfl):
  QE X (.Call (.Name x p) (e::es) [] pos) (Cp C sp [] E0 t):=#[by
 let#[f,fd,F,a,d,c]:=M.ex;exact C9 a F hr hg d c .nil mB ha.h hdb he hpl]
theorem EB(i:X.K=K)(pa:PlainAttrs T)(f:Slot T name id)(h:typeOf (.builtin id)=pure (.type "method_descriptor"))(hm:pL X id r)(ho:QE X o to)(ha:QA X (e::es) t)
  (c:attributeBase o name X.env (eval o X.env)=eval o X.env:=by rfl)
  (g:((backTo cpos (θ (e::es) X.env)).all (λx=> ! x.1)&&(backToKw cpos (keywordEach [] X.env)).all (λx=>x.1.isSome)
   &&decide ((e::es).length+([]:ξ).length+(if([]:ξ).isEmpty then 0 else 1)<30))=true:=by rfl)
  (d:(apos.endLine==cpos.line)=true:=by rfl)(hs:θ (e::es) X.env=(false,eval e X.env)::θ es X.env:=by rfl)(a:(backTo cpos (θ es X.env)).any (·.1)=false:=by rfl):
  QE X (.Call (.Attribute o name apos) (e::es) [] cpos) (DU K T r to t):=by
 subst i;exact Q0 pa f h hm ho ha c g d hs a
theorem By:pL X "list.pop" wN:=Bo
end
theorem kS{f:Str}{v:V}:∀{fs:List (Str×V)} (i:Nat),fs[i]? =↑(f,v)->(fs.map (·.1)).Nodup->fs.lookup f=↑v
 | [],i,h,_=>by cases h
 |(g,x)::r,0,h,_=>by
  cases JE h
  exact Os
 |(g,x)::r,i+1,h,nd=>by
  have h':r[i]? =↑(f,v):=h
  have a:g∉r.map (·.1)/\(r.map (·.1)).Nodup:=IG.mp nd
  have c:f∈r.map (·.1):=JC.mpr #[(f,v),Ij h',Z]
  have ne:f≠g:=λz=>a.1 (z▸c)
  rw[Iv,Lv ne];exact kS i h' a.2
theorem kU{f:Str}:∀{fs:List (Str×V)},f∉fs.map (·.1)->fs.lookup f=none
 | [],_=>rfl
 |(g,x)::r,h=>by
  have ne:f≠g:=λz=>h (z▸Jr ..)
  rw[Iv,Lv ne];exact kU λz=>h (Jv _ z)
theorem r9{f:Str}{v u:V}:∀{fs:List (Str×V)} (i:Nat),fs[i]? =↑(f,u)->(fs.map (·.1)).Nodup->QC f v fs=fs.set i (f,v)
 | [],i,h,_=>by cases h
 |(g,x)::r,0,h,_=>by
  cases JE h
  show(if f=f then _ else _)=_
  rw[Jc Z];rfl
 |(g,x)::r,i+1,h,nd=>by
  have h':r[i]? =↑(f,u):=h
  have a:g∉r.map (·.1)/\(r.map (·.1)).Nodup:=IG.mp nd
  have c:f∈r.map (·.1):=JC.mpr #[(f,u),Ij h',Z]
  have ne:¬g=f:=λz=>a.1 (z▸c)
  show(if g=f then _ else(g,x)::QC f v r)=_
  rw[Jb ne,r9 i h' a.2];rfl
theorem mY{f:Str}{v:V}:∀{fs:List (Str×V)},f∉fs.map (·.1)->QC f v fs=fs++[(f,v)]
 | [],_=>rfl
 |(g,x)::r,h=>by
  have ne:¬g=f:=λz=>h (z▸Jr ..)
  show(if g=f then _ else(g,x)::QC f v r)=_
  rw[Jb ne,mY λz=>h (Jv _ z)];rfl
def Mv(S:Η)(H H':Hp):Prop:=∀c o,c∉S->H c=↑o->H' c=↑o
theorem Mv.trans(a:Mv S H H1)(b:Mv S H1 d):Mv S H d:=λc o n e=>b c o n (a c o n e)
theorem Mv.mono{d:Η}(a:Mv S H H')(h:∀c,c∉d->c∉S):Mv d H H':=λc o n e=>a c o (h c n) e
theorem _root_.L2.HJ.mv(a:HJ H H'):Mv S H H':=λc o _ e=>a c o e
theorem Mv.upd1{a:Δ}:Mv [a] H (HM H a o):=λc u n e=>by
 rw[qp (λz=>n (Ji.mpr z))];exact e
theorem NM.mv{b:Δ}(g:NM b n H H'):Mv [b] H H':=λc o h e=>g.kp c o (λz=>h (Ji.mpr z)) e
noncomputable def Ck:HO->Prop
 | .tup _=>False
 | .frz _ (.dK _)=>True
 | .frz _ _=>False
 |_=>True
def NT(S:Η)(H:Hp):Prop:=∀c,c∈S->∃o,H c=↑o/\Ck o
theorem Mv.rd(m:Mv S H H')(n:NT S H)(h:Rd H a (.tup xs)):Rd H' a (.tup xs):=by
 have c:a∉S:=λz=>by
  let#[o,e,no]:=n a z;rcases h with h|⟨o',h⟩
  .rw[e]at h;cases h;exact no
  .rw[e]at h;cases h;exact no
 rcases h with h|⟨o',h⟩
 .exact .inl (m _ _ c h)
 .exact .inr #[o',m _ _ c h]
theorem Mv.sqt{K:ι}(m:Mv S H H')(n:NT S H)(h:HX K H a xs):HX K H' a xs:=by
 rcases h with h|h
 .exact .inl (m.rd n h)
 .exact .inr h
inductive nu(vs:Ε)(H:Hp)(Q:VK)(_:XK):Prop
 |mk (b:Δ)(c:Nat)(h1:vs=[-b])(h2:MZ H b c)(h3:c<100000000)(h4:∀p (t:Β) H',NM b (c+16) H H'->H p=none->H' p=↑(.tup (t.map V.int))->t.Perm Nf->Q (-p) H')
inductive jv(vs:Ε)(H:Hp)(Q:VK)(_:XK):Prop
 |mk (b:Δ)(c:Nat)(h1:vs=[-b])(h2:MZ H b c)(h3:c<100000000)(h4:∀p (ks:Β) H',NM b (c+9) H H'->H p=none->H' p=↑(.tup (ks.map V.int))->zH ks->1<=ks.length->ks.length<=8->Q (-p) H')
theorem NM.fresh{b:Δ}(g:NM b n H H')(hb:MZ H b n)(h:H' c=Option.none):H c=Option.none:=by
 cases e:H c with
 |none=>rfl
 |some o=>
  by_cases z:c=b
  .subst z
   let#[_,_,_,e',_]:=g.bx;rw[e']at h;cases h
  .rw[g.kp c o z e]at h;cases h
theorem Au{K:ι}{Q:VK}(h:Sq K H a xs)(q:∀l H',HJ H H'->HX K H' l xs->Q (-l) H'):(HQ K H a xs/\∀l,H l=none->Q (-l) (HM H l (.tup xs)))\/(HX K H a xs/\Q (-a) H):=
 h.elim (λh=> .inl #[h,λl c=>q l _ (HJ.upd c) (HX.of qb)]) λh=> .inr #[h,q a H (HJ.refl _) h]
theorem gM{K:ι}{H:Hp}{fs:List (Str×V)}(e:H p=↑(.ins C dx fs))(h:HX K H a xs):HX K (HM H p o) a xs:=by
 rcases h with(h|⟨u,h⟩)|h
 .exact .inl (.inl (by rw[qp (zO h e (by intro z;cases z))];exact h))
 .exact .inl (.inr #[u,by rw[qp (zO h e (by intro z;cases z))];exact h])
 .exact .inr h
theorem me{X:Cx}{K:ι}(a:X.K=K):zj X (.builtin "len") (λxs H Q=>∃p ys,xs=[-p]/\(HQ K H p ys\/HX K H p ys)/\Q (.int (ys.length:Nat)) H):=by
 subst a;exact qT
theorem oz{k n:Nat}(h:k<n):seqIndex? (k:Int) n=↑k:=by
 unfold seqIndex?
 simp [Int.not_lt.2 (Int.natCast_nonneg k),h]
theorem AT{ms zs:Β}{k:Nat}(h:k<ms.length):(zs++[ms[k]]++ms.eraseIdx k).Perm (zs++ms):=by
 rw[IU];refine List.Perm.append_left zs ?_
 rw[KP];have e:ms=ms.take k++ms[k]::ms.drop (k+1):=by rw[<- Ku h,KJ]
 refine List.Perm.trans (Ky (a:=ms[k]) (l₁:=ms.take k) (l₂:=ms.drop (k+1))).symm ?_
 rw[<- e]
theorem ug(ms:Β)(k:Nat):(ms.map V.int).eraseIdx k=(ms.eraseIdx k).map V.int:=by
 rw[KP,KP,JI,Kt,OQ]
theorem bT:zj X (.type "tuple") (λxs H Q=>∃p ys,xs=[-p]/\Sq X.K H p ys/\∀l H',HJ H H'->HX X.K H' l ys->Q (-l) H'):=by
 intro R0 s σ H xs c Q I r h;let#[p,ys,e,a,q]:=h;exact zp R0 s σ H xs c Q I r #[p,ys,e,Au a q]
section
variable{b:Δ}{n:Nat}
theorem qQ{a x:Δ}(h:a≠x):a∉[x]:=λz=>h (Ji.mp z)
theorem zL(hb:MZ H b n):NT [b] H:=λc a=>by
 let#[_,_,_,e,_]:=hb;rw[Ji.mp a]
 exact#[_,e,trivial]
end
theorem MZ.mv{b:Δ}(h:MZ H b n)(m:Mv S H H')(ne:b∉S):MZ H' b n:=by
 let#[c,d,a,e,r]:=h
 exact#[c,d,a,m _ _ ne e,r]
theorem mn(n:Nat)(h:n<=100:=by omega):n<ζ:=Ka h ⋯
theorem NT.one{H:Hp}{o:HO}(e:H a=↑o)(n:Ck o):NT [a] H:=λc d=>#[o,by rw[Ji.mp d];exact e,n]
end L3
namespace L2
open PySem PySem.Spec PyProof.Rows
section
variable{κ:Type}[DecidableEq κ]
def QZ(kvs:List (κ×V))(k:κ):Μ:=(kvs.find? λa=>decide (a.1=k)).map (·.2)
noncomputable def MX(kvs:List (κ×V))(k:κ)(v:V):List (κ×V):=
 if(kvs.any λa=>decide (a.1=k))=true then kvs.map (λa=>if a.1=k then(a.1,v)else a)else kvs++[(k,v)]
noncomputable def aH(kvs:List (κ×V))(k:κ):List (κ×V):=kvs.filter λa=>decide (a.1≠k)
theorem bi{p:κ×V}{r:List (κ×V)}{k:κ}(e:p.1=k):QZ (p::r) k=↑p.2:=by simp [QZ,Lx,e]
theorem aW{p:κ×V}{r:List (κ×V)}{k:κ}(e:¬p.1=k):QZ (p::r) k=QZ r k:=by simp [QZ,Lx,e]
theorem nU(k:κ):∀kvs:List (κ×V),(kvs.any λa=>decide (a.1=k))=(QZ kvs k).isSome
 | []=>rfl
 |p::r=>by
  rw[J4]
  by_cases e:p.1=k
  .simp only[bi e,Jj e,Bool.true_or,Option.isSome_some]
  .rw[aW e,Jn e,Bool.false_or];exact nU k r
theorem Z9(kvs:List (κ×V))(k:κ)(v:V):(MX kvs k v).length<=kvs.length+1:=by
 unfold MX;split
 .rw[Je];lia
 .rw[Jy,JR,Ot];lia
theorem NK.isSome_eq(r:NK o u):o.isSome=u.isSome:=by
 cases o with
 |none=>cases u with
  |none=>rfl
  |some _=>exact(show False from r).elim
 |some _=>cases u with
  |none=>exact(show False from r).elim
  |some _=>rfl
theorem NK.getD(r:NK o u)(rd:HV d d'):HV (o.getD d) (u.getD d'):=by
 cases o with
 |none=>cases u with
  |none=>exact rd
  |some _=>exact(show False from r).elim
 |some _=>cases u with
  |none=>exact(show False from r).elim
  |some _=>exact r
theorem KV.val(r:KV kvs vs)(k:κ):NK (QZ kvs k) (valueAt vs k):=by
 unfold KV at r
 induction r with
 |nil=>exact P5
 | @cons p q ps qs h t ih=>
  let#[h1,a]:=h
  by_cases e:p.1=k
  .have e':q.1=k:=h1.symm.trans e
   have b:valueAt (q::qs) k=↑q.2:=by simp [valueAt,Lx,e']
   rw[bi e,b];exact a
  .have e':¬q.1=k:=λz=>e (h1.trans z)
   have b:valueAt (q::qs) k=valueAt qs k:=by simp [valueAt,Lx,e']
   rw[aW e,b];exact ih
theorem KV.any(r:KV kvs vs)(k:κ):(kvs.any λa=>decide (a.1=k))=vs.any λa=>decide (a.1=k):=by
 unfold KV at r
 induction r with
 |nil=>rfl
 |cons h t ih=>rw[J4,J4,ih,h.1]
theorem KV.repl(r:KV kvs vs)(k:κ)(c:HV y u):
  KV (kvs.map λa=>if a.1=k then(a.1,y)else a) (vs.map λa=>if a.1=k then(a.1,u)else a):=by
 unfold KV at r⊢
 induction r with
 |nil=>exact .nil
 | @cons p q ps qs h t ih=>
  rw[JS,JS];refine .cons ?_ ih
  let#[h1,d]:=h
  by_cases e:p.1=k
  .rw[Jc e,Jc (h1.symm.trans e)];exact#[h1,c]
  .rw[Jb e,Jb (λz=>e (h1.trans z))];exact#[h1,d]
theorem KV.put(r:KV kvs vs)(k:κ)(a:HV y u):KV (MX kvs k y) (stored vs k u):=by
 unfold MX stored;rw[r.any k]
 by_cases e:(vs.any λc=>decide (c.1=k))=true
 .rw[Jc e,Jc e];exact r.repl k a
 .rw[Jb e,Jb e];exact Paired.snoc r #[Z,a]
theorem KV.drop(r:KV kvs vs)(k:κ):KV (aH kvs k) (without vs k):=by
 unfold KV at r⊢;unfold aH without
 induction r with
 |nil=>exact .nil
 | @cons p q ps qs h t ih=>
  let#[h1,c]:=h;rw[Kd,Kd]
  by_cases e:p.1=k
  .have a:¬decide (p.1≠k)=true:=by simp [e]
   have b:¬decide (q.1≠k)=true:=by simp [h1.symm.trans e]
   rw[Jb a,Jb b];exact ih
  .have e':¬q.1=k:=λz=>e (h1.trans z)
   have a:decide (p.1≠k)=true:=by simp [e]
   have b:decide (q.1≠k)=true:=by simp [e']
   rw[Jc a,Jc b];exact .cons #[h1,c] ih
theorem KV.keys{kvs:List (κ×V)}{vs:List (κ×Γ)}(r:KV kvs vs):kvs.map (·.1)=vs.map (·.1):=by
 unfold KV at r
 induction r with
 |nil=>rfl
 |cons h t ih=>rw[JS,JS,ih,h.1]
theorem KV.length(r:KV kvs vs):kvs.length=vs.length:=Paired.length r
theorem BO(kvs:List (κ×V))(k:κ):(aH kvs k).length<=kvs.length:=List.length_filter_le _ _
end
theorem aC{k:qJ}(r:HV (kV k) u):(qS P w).is k u=true:=by
 cases k with
 |inl i=>let#[t,e]:=(show∃t,u=Γ.int i t from r);subst e;exact pX P w i t
 |inr x=>let#[t,e]:=(show∃t,u=Γ.str x t from r);subst e;exact rj P w x t
theorem kW{P:Ξ}{w:Ω}:∀{ks:List qJ} {us:Ζ},HS (ks.map kV) us->ItemsAre (qS P w) ks us
 | [],_,r=>by rw[Ln]at r;cases r;exact .nil
 |k::ks,_,r=>by
  rw[JS]at r;cases r with
  |cons h t=>exact .cons (aC h) (kW t)
abbrev KT(H:Hp):List (List qJ×V)->List (List qJ×Δ×Γ)->Prop:=Paired λp q=>p.1=q.1/\H q.2.1=↑(.tup (p.1.map kV))/\HV p.2 q.2.2
theorem KT.val(r:KT H kvs xs)(k:List qJ):NK (QZ kvs k) ((atKey xs k).map (·.2)):=by
 induction r with
 |nil=>exact P5
 | @cons p q ps qs h t ih=>
  let#[h1,_,a]:=h
  by_cases e:p.1=k
  .have e':q.1=k:=h1.symm.trans e
   have b:atKey (q::qs) k=↑q.2:=by simp [atKey,Lx,e']
   rw[bi e,b];exact a
  .have e':¬q.1=k:=λz=>e (h1.trans z)
   have b:atKey (q::qs) k=atKey qs k:=by simp [atKey,Lx,e']
   rw[aW e,b];exact ih
theorem KT.repl(r:KT H kvs xs)(k:List qJ)(d:HV y u):
  KT H (kvs.map λa=>if a.1=k then(a.1,y)else a) (xs.map (putAt k u)):=by
 induction r with
 |nil=>exact .nil
 | @cons p q ps qs h t ih=>
  rw[JS,JS];refine .cons ?_ ih
  let#[h1,c,f]:=h;unfold putAt
  by_cases e:p.1=k
  .rw[Jc e,Jc (h1.symm.trans e)];exact#[h1,c,d]
  .rw[Jb e,Jb (λz=>e (h1.trans z))];exact#[h1,c,f]
theorem KT.put(r:KT H kvs xs)(k:List qJ){b:Δ}(hb:H b=↑(.tup (k.map kV)))(a:HV y u):
  KT H (MX kvs k y) (storedH xs k b u):=by
 have e:(kvs.any λc=>decide (c.1=k))=(atKey xs k).isSome:=by
  rw[nU,(r.val k).isSome_eq,MB]
 unfold MX storedH;rw[e]
 by_cases q:(atKey xs k).isSome=true
 .rw[Jc q,Jc q];exact r.repl k a
 .rw[Jb q,Jb q];exact Paired.snoc r #[Z,hb,a]
theorem KT.keeps{H':Hp}(r:KT H kvs xs)(a:∀b ys,H b=↑(.tup ys)->H' b=↑(.tup ys)):KT H' kvs xs:=
 Paired.mapP r λ_ _ z=>#[z.1,a _ _ z.2.1,z.2.2]
section
theorem B1(ok:NW P w H h)(e:Rd H a u):ML P w H h a u:=e.ok ok
theorem aI(ok:NW P w H h)(e:Rd H a (.dK kvs)):kvs.length<=ζ/\(a==sysModules)=false/\∃vs,KV kvs vs/\h.DictOf (qS P w) a vs:=
 show ML P w H h a (.dK kvs)from B1 ok e
theorem mC(ok:NW P w H h)(e:H a=↑(.dK kvs)):kvs.length<=ζ/\(a==sysModules)=false/\∃vs,KV kvs vs/\h.DictOf (qS P w) a vs:=aI ok (.inl e)
theorem cA{ks:List qJ}(ok:NW P w H h)(e:H a=↑(.tup (ks.map kV))):(tupleKind (qS P w)).is h ks a:=by
 let#[_,c,r,o,h1,f,n,d]:=(show ML P w H h a (.tup (ks.map kV))from ok a _ e)
 exact#[o,c.toArray,n,h1,f,d,by simpa using kW r]
theorem c7(ok:NW P w H h)(e:Rd H a (.dT kvs)):kvs.length<=ζ/\(a==sysModules)=false/\
  ∃xs,KT H kvs xs/\h.DictOfH (tupleKind (qS P w)) a xs:=by
 let#[z,y,xs,r,o,es,ep,h1,d,g,f,i]:=(show ML P w H h a (.dT kvs)from B1 ok e)
 refine#[z,y,xs,r,o,es,ep,h1,d,g,f,λx c=>?_,i]
 have all:∀{l:List (List qJ×V)} {m:List (List qJ×Δ×Γ)},KT H l m->∀x∈m,(tupleKind (qS P w)).is h x.1 x.2.1:=by
  intro l m q
  induction q with
  |nil=>intro x c;exact nomatch c
  | @cons p q ps qs hq t ih=>
   intro x c;rcases Jg.mp c with e|c
   .subst e
    exact cA ok (by rw[<- hq.1];exact hq.2.1)
   .exact ih x c
 exact all r x c
theorem F8(ok:NW P w H h)(e:H a=↑(.dT kvs)):kvs.length<=ζ/\(a==sysModules)=false/\
  ∃xs,KT H kvs xs/\h.DictOfH (tupleKind (qS P w)) a xs:=c7 ok (.inl e)
end
def NB(H:Hp)(a:Δ)(y:V)(r:Μ):Prop:=
 (∃kvs k,Rd H a (.dK kvs)/\y=kV k/\r=QZ kvs k)\/∃kvs k b,Rd H a (.dT kvs)/\y= .ref b/\H b=↑(.tup (k.map kV))/\r=QZ kvs k
def N8(H:Hp)(a:Δ)(y v:V)(H':Hp):Prop:=
 (∃kvs k,H a=↑(.dK kvs)/\y=kV k/\kvs.length<ζ/\H'=HM H a (.dK (MX kvs k v)))\/
 ∃kvs k b,H a=↑(.dT kvs)/\y= .ref b/\H b=↑(.tup (k.map kV))/\kvs.length<ζ/\H'=HM H a (.dT (MX kvs k v))
theorem NB.k{H:Hp}{k:qJ}(e:H a=↑(.dK kvs)):NB H a (kV k) (QZ kvs k):= .inl #[kvs,k,.inl e,9]
theorem N8.k{H:Hp}{k:qJ}(e:H a=↑(.dK kvs))(hl:kvs.length<ζ):N8 H a (kV k) v (HM H a (.dK (MX kvs k v))):= .inl #[kvs,k,e,Z,hl,Z]
section
variable{k:qJ}
theorem HN.big(I:HN X R0 σ H s):sysModules<s.heap.objs.size:=by
 have h:η<s.heap.objs.size:=(I.mod.glob.keeps I.bk).lt
 exact Ke ⋯ h
theorem yW{Q:HG}(hu:A.units+1<cLine)(I:HN X R0 σ H s)(g:NB H a y ↑v)(q:HV y u)(h:∀f s',HN X R0 σ H s'->HV v f->Q f s'):
  ε (model X.prog X.w) A (getItem (-a) u) Q E s:=by
 rcases g with⟨kvs,k,e,i,l⟩|⟨kvs,k,b,e,i,t,l⟩
 .subst i
  let#[z,w,vs,d,n]:=aI I.hok e;let#[f,j,c]:=NK.some_of (v:=v) (o:=valueAt vs k) (by rw[l];exact d.val k)
  exact wpAny_getItem_of (aC q) n.mapOf j (h f _ (I.tok _) c)
 .subst i
  cases(show u=Γ.ref b from q)
  let#[z,w,xs,d,n]:=c7 I.hok e;let#[f,j,c]:=NK.some_of (v:=v) (o:=(atKey xs k).map (·.2)) (by rw[l];exact d.val k)
  let#[p,r,m]:=JO.mp j;refine wpAny_getItem_heap (LW hu) (cA I.hok t) n r ?_
  rw[m];exact h f _ (I.tok _) c
theorem GB{Q:HG}(hu:A.units+1<cLine)(I:HN X R0 σ H s)(g:NB H a y o)(j:HV y u)(h:∀s',HN X R0 σ H s'->Q (.bool o.isSome) s'):
  ε (model X.prog X.w) A (Py .In u (-a)) Q E s:=by
 rcases g with⟨kvs,k,e,d,l⟩|⟨kvs,k,b,e,d,m,l⟩
 .subst d
  let#[z,f,vs,c,i]:=aI I.hok e;refine wpAny_in_of (aC j) f i.mapOf ?_
  rw[<- (c.val k).isSome_eq,<- l];exact h _ (I.tok _)
 .subst d
  cases(show u=Γ.ref b from j)
  let#[z,f,xs,c,i]:=c7 I.hok e;refine wpAny_in_heap (LW hu) (cA I.hok m) f i ?_
  have q:=(c.val k).isSome_eq;rw[MB]at q;rw[<- q,<- l];exact h _ (I.tok _)
theorem Dm{Q:HG}(hu:A.units+1<cLine)(I:HN X R0 σ H s)(g:NB H a y o)(j:HV y u)(h:∀s',HN X R0 σ H s'->Q (.bool (! o.isSome)) s'):
  ε (model X.prog X.w) A (Py .NotIn u (-a)) Q E s:=by
 rcases g with⟨kvs,k,e,d,l⟩|⟨kvs,k,b,e,d,m,l⟩
 .subst d
  let#[z,f,vs,c,i]:=aI I.hok e;refine wpAny_notIn_of (aC j) f i.mapOf ?_
  rw[<- (c.val k).isSome_eq,<- l];exact h _ (I.tok _)
 .subst d
  cases(show u=Γ.ref b from j)
  let#[z,f,xs,c,i]:=c7 I.hok e;refine wpAny_notIn_heap (LW hu) (cA I.hok m) f i ?_
  have q:=(c.val k).isSome_eq;rw[MB]at q;rw[<- q,<- l];exact h _ (I.tok _)
theorem gL{t':Nat}(I:HN X R0 σ H s)(f:wP (H a))(hs:Ψ.SameBut a s.heap h')(he:∃q,h'.get? a=↑q)(c:ML X.prog X.w (HM H a ob) h' a ob):
  HN X R0 σ (HM H a ob) {s with heap:=h',toks:=t'}:=
 I.write (x:=a) (e:=a) f (.inl Z) (λb q d z=>(hs.2 b d).trans z) he c
theorem iN{h':Ψ}{kvs:List (qJ×V)}(z:kvs.length<=ζ)(hd:(a==sysModules)=false)(c:KV kvs vs)(d:h'.DictOf (qS P w) a vs):
  ML P w H' h' a (.dK kvs):=#[z,hd,vs,c,d]
theorem wb{Q:Unit->Θ->Prop}(hu:A.units+1<cLine)(I:HN X R0 σ H s)(g:N8 H a y v H')(x:HV y u)(B:HV v r)(h:∀s',HN X R0 σ H' s'->Q () s'):
  ε (model X.prog X.w) A (setItem (-a) u r) Q E s:=by
 rcases g with⟨kvs,k,e,m,l,j⟩|⟨kvs,k,b,e,m,C,l,j⟩
 .subst m j
  let#[z,n,vs,d,w]:=mC I.hok e;have o:vs.length<=ζ:=by rw[<- d.length];exact z
  have p:(MX kvs k v).length<=ζ:=by have:=Z9 kvs k v;lia
  refine wpAny_setItem_pairs (hsz:=o) (aC x) w λh' f t=>h _ ?_
  have L:∃q,h'.get? a=↑q:=let⟨q,_,_,i,_⟩:=f;#[q,i]
  exact gL I (by rw[e];exact P5) t L (iN p n (d.put k B) f)
 .subst m j
  cases(show u=Γ.ref b from x)
  let#[z,n,xs,d,w]:=F8 I.hok e;have o:xs.length<=ζ:=by rw[<- Paired.length d];exact z
  have p:(MX kvs k v).length<=ζ:=by have:=Z9 kvs k v;lia
  refine wpAny_setItem_heap (hsz:=o) (LW hu) (cA I.hok C) w λh' f t=>h _ ?_
  let#[q,es,ep,i,F,G,K,_,J]:=f;refine gL I (by rw[e];exact P5) t #[q,i] #[p,n,_,(d.put k C B).keeps λc ys D=>?_,q,es,ep,i,F,G,K,J]
  rw[qp (zO D e (λz=>nomatch z))]
  exact D
theorem FM{v:V}{more:Ζ}{Q:HG}(I:HN X R0 σ H s)(e:H a=↑(.dK kvs))(j:HV (kV k) u)(l:QZ kvs k=↑v)(hm:more=[]\/∃x,more=[x])
  (h:∀d s',HN X R0 σ (HM H a (.dK (aH kvs k))) s'->HV v d->Q d s'):ε (model X.prog X.w) A (call (.builtin "dict.pop") (.ref a::u::more)) Q E s:=by
 let#[z,n,vs,c,m]:=mC I.hok e;let#[d,w,g]:=NK.some_of (v:=v) (o:=valueAt vs k) (by rw[<- l];exact c.val k)
 have p:(keyPart u).isSome=true:=by
  cases k with
  |inl i=>let#[t,q]:=(show∃t,u=Γ.int i t from j);subst q;rfl
  |inr x=>let#[t,q]:=(show∃t,u=Γ.str x t from j);subst q;rfl
 have y:argsOk "dict.pop" #[.ref a::u::more,[]]:=by
  rcases hm with q|⟨x,q⟩
  .subst q;exact PySem.F.args_dict_pop_2 _ _
  .subst q;exact PySem.F.args_dict_pop_3 _ _ _
 refine call_meetsIn PySem.F.slot_dict_pop m.typeIs PySem.F.entry_dict_pop y (meets_dict_pop_there (qS X.prog X.w) a (aC j) more hm p)
  #[vs,d,m,by rw[<- c.length];exact z,w,λh' f B=>h d _ ?_ g]
 have r:∃q,h'.get? a=↑q:=let⟨q,_,_,hq,_⟩:=f;#[q,hq]
 exact gL I (by rw[e];exact P5) B r (iN (JN (BO kvs k) z) n (c.drop k) f)
theorem Gd{Q:HG}(I:HN X R0 σ H s)(e:Rd H a (.dK kvs))(h:∀t s',HN X R0 σ H s'->Q (.int kvs.length t) s'):ε (model X.prog X.w) A (call (.builtin "len") [-a]) Q E s:=by
 let#[z,f,vs,c,d]:=aI I.hok e;refine call_len_dict f d (by rw[<- c.length];rw[JD]at z;lia) ?_
 rw[<- c.length];exact h _ _ (I.tok _)
end
def Br(i:Φ):Prop:=∀a c,subscripted i false a c=operate [a,c] (getItem a c)
theorem Di{prog:Ξ}{w:Ω}{A:Rj}{E:HG}{s:Θ}{g:Env}{value a:Φ}{pos:Pos}{T id:String}{Q:HG}
  (hl:typeLookup (.type T) "__getitem__"=pure ↑(.builtin id))(hs:Br a)
  (h:ε (model prog w) A (eval value g) (λo f=>ε (model prog w) A (eval a g) (λi c=>c.TypeIs o T/\ε (model prog w) A (getItem o i) Q E c) E f) E s):
  ε (model prog w) A (eval (.Subscript value a pos) g) Q E s:=by
 refine Subscript_ (Jx h (λo f l=>Jx l (λi c d=>?_) λ_ _ x=>x) λ_ _ x=>x)
 let#[n,d]:=d;unfold subscriptTail;refine Ja ?_
 rw[getitemInPython_of_ne n.not_modules];refine Ja (Ls n hl ?_)
 have j:ε (model prog w) A (subscripted a false o i) (λr e=>ε (model prog w) A (letTemporaryGo value o r >>= λ_=>pure r) Q E e) E c:=by
  rw[hs o i];exact wpAny_operating (Jx d (λr e m=>Ja (wpAny_letTemporaryGo (Jd m))) λ_ _ x=>x)
 first
  |exact Jd (Ja j)
  |exact Ja (Jd (Ja j))
  |exact Ja j
theorem rA(I:HN X R0 σ H s)(g:NB H a y o):s.TypeIs (-a) "dict":=by
 rcases g with⟨kvs,k,e,_,_⟩|⟨kvs,k,b,e,_,_,_⟩
 .let#[_,_,vs,_,c]:=aI I.hok e
  exact c.typeIs
 .let#[_,_,xs,_,c]:=c7 I.hok e
  exact c.typeIs
noncomputable def B5(td ty:TE):TE:=λσ H Q=>td σ H λx H1=>ty σ H1 λy c=>∃a v,x= .ref a/\NB c a y ↑v/\Q v c
noncomputable def EK(ty td:TE):TE:=λσ H Q=>ty σ H λy H1=>td σ H1 λx c=>∃a o,x= .ref a/\NB c a y o/\Q (.bl o.isSome) c
noncomputable def rV(ty td:TE):TE:=λσ H Q=>ty σ H λy H1=>td σ H1 λx c=>∃a o,x= .ref a/\NB c a y o/\Q (.bl (! o.isSome)) c
noncomputable def Cb(td ty tv:TE):TS:=λD σ H=>tv σ H λv H1=>td σ H1 λx e=>ty σ e λy d=>∃a c,x= .ref a/\N8 d a y v c/\D.nx σ c
section
variable{td:TE}
theorem C6(hu:X.A.units+1<cLine)(ho:PE X o td)(hi:PE X i ty)(hs:Br i):PE X (.Subscript o i pos) (B5 td ty):=by
 intro R0 s σ H Q I h;refine Di PySem.F.slot_dict_getitem.lookup hs (qz (ho R0 s σ H _ I h) λu q ⟨x,H1,r,f,n⟩=>qz (hi R0 q σ H1 _ r n) λz w m=>?_)
 let#[y,p,d,j,a,v,ex,g,l]:=m;subst ex
 obtain rfl:u=Γ.ref a:=f
 exact#[rA d g,yW hu d g j λA t e c=>#[v,p,e,c,l]]
theorem ET(hu:X.A.units+1<cLine)(hi:PE X i ty)(ho:PE X o td):PC X .In i o (EK ty td):=by
 intro R0 s σ H Q I h;refine qz (hi R0 s σ H _ I h) λw q ⟨y,H1,r,f,n⟩=>qz (ho R0 q σ H1 _ r n) λu v l=>?_
 let#[x,p,m,d,a,e,ex,g,j]:=l;subst ex
 obtain rfl:u=Γ.ref a:=d
 exact GB hu m g f λt c=>#[.bl e.isSome,p,c,Z,j]
theorem yw(hu:X.A.units+1<cLine)(hi:PE X i ty)(ho:PE X o td):PC X .NotIn i o (rV ty td):=by
 intro R0 s σ H Q I h;refine qz (hi R0 s σ H _ I h) λw q ⟨y,H1,r,f,n⟩=>qz (ho R0 q σ H1 _ r n) λu v l=>?_
 let#[x,p,m,d,a,e,ex,g,j]:=l;subst ex
 obtain rfl:u=Γ.ref a:=d
 exact Dm hu m g f λt c=>#[.bl (! e.isSome),p,c,Z,j]
theorem C3(hu:X.A.units+1<cLine)(ho:PE X o td)(hi:PE X i ty)(hv:PE X value tv)(hs:swapsWith value ↑(.Subscript o i pos') pos.line X.env=pure false):
  PS X (.Assign [.Subscript o i pos'] value pos) (Cb td ty tv):=by
 intro R0 s σ H D I h;refine wpAny_Assign_Subscript (qz (hv R0 s σ H _ I h) λr B ⟨v,H1,l,n,A⟩=>qz (ho R0 B σ H1 _ l A) λu c ⟨x,z,w,d,e⟩=>qz (hi R0 c σ z _ w e) λE C f=>?_) hs
 let#[y,F,t,m,a,p,ex,g,q]:=f;subst ex
 obtain rfl:u=Γ.ref a:=d
 exact wb hu t g m n λG j=>#[σ,p,j,q]
end
theorem nP(h:Ψ)(hb:sysModules<h.objs.size):ML P w H (h.push {cls:= .type "dict",data:= .dict (AA [])}) h.objs.size (.dK []):=
 #[JB _,IS.mpr (Ne.symm (Jm hb)),[],.nil,Ψ.DictOf.new h]
def yt:TE:=λ_ H Q=>∀p,H p=none->Q (-p) (HM H p (.dK []))
section
theorem Bs:PE X (.Dict [] [] pos) yt:=λR0 s σ H Q I h=>
 wpAny_Dict_empty #[-s.heap.objs.size,_,I.laid (a:=s.heap.objs.size) (o:= .dK []) (t':=s.toks) (λ_ _ q=>Jk _ q) (Jf _) (nP s.heap I.big),Z,h _ (I.hok.fresh (Jf _))]
end
noncomputable def oC:List (TE×TE)->St->Hp->(List (V×V)->Hp->Prop)->Prop
 | [],_,H,Q=>Q [] H
 |(tk,tv)::r,σ,H,Q=>tk σ H λx H1=>tv σ H1 λy c=>oC r σ c λps a=>Q ((x,y)::ps) a
abbrev VV:List (V×V)->List (Γ×Γ)->Prop:=Paired λp q=>HV p.1 q.1/\HV p.2 q.2
def xf(X:Cx)(pos:Pos)(keys:List μ)(a:Ι)(c:List (TE×TE)):Prop:=
 ∀(R0:HI) (s:Θ) (σ:St) (H:Hp) (Q:List (V×V)->Hp->Prop),HN X R0 σ H s->oC c σ H Q->
  ε (model X.prog X.w) X.A (evalPairs (pairTrees keys a X.env pos)) (λvs s'=>∃ps H',HN X R0 σ H' s'/\VV ps vs/\Q ps H') X.xe s
theorem DA:xf X pos [] [] []:=λR0 s σ H Q I h=>pairTrees_nil_walk #[[],H,I,.nil,h]
theorem AN{k:Φ}(hk:PE X k tk)(hv:PE X v tv)(hr:xf X pos ks vs a):
  xf X pos (↑k::ks) (v::vs) ((tk,tv)::a):=λR0 s σ H Q I h=>
 pairTrees_cons_walk (qz (hk R0 s σ H _ I h) λu n ⟨x,H1,q,f,l⟩=>qz (hv R0 n σ H1 _ q l) λw e ⟨y,m,j,g,i⟩=>
  qz (hr R0 e σ m _ j i) λt r ⟨ps,p,d,c,o⟩=>#[(x,y)::ps,p,d,.cons #[f,g] c,o])
noncomputable def ZP(kvs more:List (qJ×V)):List (qJ×V):=more.foldl (λa c=>MX a c.1 c.2) kvs
theorem KV.merge:∀{more:List (qJ×V)} {rs:List (qJ×Γ)} {kvs:List (qJ×V)} {vs:List (qJ×Γ)},KV more rs->KV kvs vs->KV (ZP kvs more) (merged vs rs):=by
 intro more rs kvs vs r;unfold KV at r
 induction r generalizing kvs vs with
 |nil=>intro q;exact q
 | @cons p q ps qs h t ih=>
  intro a;have e:KV (MX kvs p.1 p.2) (stored vs q.1 q.2):=by
   have:=a.put p.1 h.2
   rw[<- h.1];exact this
  exact ih e
theorem fc:∀(more kvs:List (qJ×V)),(ZP kvs more).length<=kvs.length+more.length
 | [],kvs=>by show kvs.length<=kvs.length+0;lia
 |p::r,kvs=>by
  have h1:=fc r (MX kvs p.1 p.2);have a:=Z9 kvs p.1 p.2
  show(ZP (MX kvs p.1 p.2) r).length<=_
  rw[JR];lia
theorem iX{P:Ξ}{w:Ω}:∀{kvs:List (qJ×V)} {d:List (Γ×Γ)},VV (kvs.map λe=>(kV e.1,e.2)) d->∃rs,Carries (qS P w) d rs/\KV kvs rs
 | [],_,r=>by rw[Ln]at r;cases r;exact#[[],P5,.nil]
 |p::kvs,_,r=>by
  rw[JS]at r;cases r with
  | @cons a b as bs h t=>
   let#[rs,c,q]:=iX (P:=P) (w:=w) t
   let#[g,f]:=b
   exact#[(p.1,f)::rs,#[aC h.1,Z,c],.cons #[Z,h.2] q]
noncomputable def B8(a:List (TE×TE)):TE:=λσ H Q=>∀p,H p=none->oC a σ (HM H p (.dK [])) λps d=>d p=↑(.dK [])/\∃kvs:List (qJ×V),ps=kvs.map (λc=>(kV c.1,c.2))/\kvs.length<=15/\Q (-p) (HM d p (.dK (ZP [] kvs)))
theorem CB{keys:List μ}(h:xf X pos keys d i)(f:keys.all (·.isSome)=true)(hl:keys.length=d.length)(n:keys≠[])
  (j:keys.length<=15):PE X (.Dict keys d pos) (B8 i):=by
 intro R0 s σ H Q I q;have p:=I.hok.fresh (Jf s.heap.objs.size);have v:=I.laid (a:=s.heap.objs.size) (o:= .dK []) (h':=s.heap.push {cls:= .type "dict",data:= .dict (AA [])}) (t':=s.toks) (λ_ _ q=>Jk _ q) (Jf _) (nP s.heap I.big)
 refine wpAny_Dict_walk (knd:=qS X.prog X.w) f hl n j (qz (h R0 _ σ _ _ v (q _ p)) λG F t=>?_)
 let#[ps,K,m,l,e,kvs,ep,J,r]:=t;subst ep;let#[rs,c,A]:=iX (P:=X.prog) (w:=X.w) l
 let#[z,B,x,u,E]:=mC m.hok e;cases u;refine#[rs,c,E,λh' g D=>#[-s.heap.objs.size,_,?_,Z,r]]
 have C:(ZP [] kvs).length<=ζ:=by
  have h1:=fc kvs [];rw[Ot]at h1;rw[JD];lia
 have y:∃q,h'.get? s.heap.objs.size=↑q:=let⟨q,_,_,hq,_⟩:=g;#[q,hq]
 exact gL m (by rw[e];exact P5) D y (iN C B (A.merge .nil) g)
structure M1(X:Cx)(o:Φ)(m:Str)(apos:Pos)(e:Φ)(cpos:Pos):Prop where
 base:attributeBase o m X.env (eval o X.env)=eval o X.env
 few:((backTo cpos (θ [e] X.env)).all (λx=> ! x.1)&&(backToKw cpos (keywordEach [] X.env)).all (λx=>x.1.isSome)
  &&decide (([e]:Ι).length+([]:ξ).length+(if([]:ξ).isEmpty then 0 else 1)<30))=true
 line:(apos.endLine==cpos.line)=true
 trees:backTo cpos (θ [e] X.env)=[(false,eval e X.env)]
def D9(H:Hp)(a:Δ):Prop:=(∃kvs,Rd H a (.dK kvs))\/∃kvs,Rd H a (.dT kvs)
theorem wS(I:HN X R0 σ H s)(d:D9 H a):
  s.TypeIs (-a) "dict"/\(∀b,Γ.ref a= .ref b->∃c,s.heap.get? b=↑c/\c.dict=none)/\(a==sysModules)=false:=by
 rcases d with⟨kvs,e⟩|⟨kvs,e⟩
 .let#[_,g,vs,_,f]:=aI I.hok e
  refine#[f.typeIs,λb q=>?_,g]
  cases q;let#[c,_,_,h1,h,_]:=f
  exact#[c,h1,h.2.1]
 .let#[_,g,xs,_,f]:=c7 I.hok e
  refine#[f.typeIs,λb q=>?_,g]
  cases q;let#[c,_,_,h1,h,_]:=f
  exact#[c,h1,h.2.1]
section
theorem FF{Q:HG}(hu:A.units+1<cLine)(I:HN X R0 σ H s)(g:NB H a y o)(j:HV y u)(h:∀m s',HN X R0 σ H s'->HV (o.getD .non) m->Q m s'):
  ε (model X.prog X.w) A (call (.builtin "dict.get") [-a,u]) Q E s:=by
 rcases g with⟨kvs,k,e,f,l⟩|⟨kvs,k,b,e,f,n,l⟩
 .subst f
  let#[z,i,vs,c,d]:=aI I.hok e;refine call_meetsIn MC d.typeIs PySem.F.entry_dict_get (PySem.F.args_dict_get_2 _ _) (meets_dict_get (qS X.prog X.w) a (aC j) i) #[_,d.mapOf,h _ _ (I.tok _) ?_]
  rw[l]
  exact(c.val k).getD Z
 .subst f
  cases(show u=Γ.ref b from j)
  let#[z,i,xs,c,d]:=c7 I.hok e;refine call_meetsIn MC d.typeIs PySem.F.entry_dict_get (PySem.F.args_dict_get_2 _ _) (meetsH_dict_get (tupleKind (qS X.prog X.w)) a b i) #[LW hu,k,xs,cA I.hok n,d,h _ _ (I.tok _) ?_]
  rw[l]
  exact(c.val k).getD Z
end
noncomputable def w9(td ty:TE):TE:=λσ H Q=>td σ H λx H1=>∃a,x= .ref a/\D9 H1 a/\ty σ H1 λy c=>∃o,NB c a y o/\Q (o.getD .non) c
noncomputable def yX(td ty:TE):TE:=λσ H Q=>td σ H λx H1=>∃a,x= .ref a/\D9 H1 a/\ty σ H1 λy c=>∃kvs k v,c a=↑(.dK kvs)/\y=kV k/\QZ kvs k=↑v/\Q v (HM c a (.dK (aH kvs k)))
section
variable{td:TE}
theorem Bq(hu:X.A.units+1<cLine)(ho:PE X o td)(he:PE X e ty)(m:M1 X o "get" apos e cpos):PE X (.Call (.Attribute o "get" apos) [e] [] cpos) (w9 td ty):=by
 intro R0 s σ H Q I h;refine wpAny_Call_method m.base m.few m.line PySem.F.plainAttrs_dict MC PySem.F.type_dict_get (qz (ho R0 s σ H _ I h) λu z l=>?_)
 let#[x,H1,f,i,a,ex,d,w]:=l;subst ex
 obtain rfl:u=Γ.ref a:=i
 let#[n,q,_]:=wS f d;exists n,q
 rw[m.trees];refine Mw Z (Mz (So (qz (he R0 z σ H1 _ f w) λD A ⟨y,v,t,p,B,g,j⟩=>Sw ?_)))
 exact FF hu t g p λE C r c=>#[_,v,r,c,j]
theorem vE:zj X (.builtin "len") (λxs H Q=>∃a kvs,xs=[V.ref a]/\H a=↑(.dK kvs)/\Q (.int kvs.length) H):=by
 intro R0 s σ H xs f Q I r h;let#[a,kvs,rfl,d,q]:=h;let#[u,rfl,c]:=zT r;cases c;exact Gd I (.inl d) λt s' e=>#[.int kvs.length,H,e,#[t,Z],q]
end
end L2
namespace L3
open PySem PySem.Spec PyProof.Rows L2
open PySem.W (kdl_dict kdl_extend)
section
theorem n5{Q:Ζ->Θ->Prop}(l:A.handled=none)(hm:s.heap.DictAt (qS prog w) d kvs ep)(lo:(d==sysModules)=false)(hn:kvs.length<=ζ)
  (h:∀(vs:Ζ) (h':Ψ) (tk:Nat),s.heap.objs.size<h'.objs.size->(∀b o,s.heap.get? b=↑o->h'.get? b=↑o)->vs.length=kvs.length->(∀(j:Nat) (v:Γ),vs[j]? =↑v->∃k x,kvs[j]? =↑(k,x)/\(qS prog w).is k v=true)->Q vs {s with heap:=h',toks:=tk}):
  ε (model prog w) A (collect (-d)) Q E s:=by
 unfold collect;refine Ja (wpAny_runValue (I0 entry_proto_collect' ?_))
 show ε _ _ (do again (.builtin "list.__iadd__" #[[<- newList [],-d],[]])) _ _ s
 refine Ja (wpAny_newList (Jd #[Sv _ nofun,I0 entry_list_iadd' ?_]))
 rw[R3 PySem.F.plain_list_iadd _];have f:d<s.heap.objs.size:=hm.lt_size
 refine kdl_extend (s:={s with heap:=s.heap.push (R5 "list" (AA []) 0)}) (R:=λr s'=>match r with
   | .ok (.ret v)=>ε (model prog w) A (match v with
    | .ref a=>(do
     let o <- load a
     match o.data with
     | .seq xs _=>pure xs.toList
     |_=>unsupported "internal:collect")
    |_=>unsupported "internal:collect") Q E s'
   | .ok _=>False
   | .error e=>E e s') (kdl_dict (knd:=qS prog w) (ep:=ep) (kvs:=kvs) lo) l (hm.push _) s.heap.objs.size (J1 f) (J1 f) _ 0 (Jp _ Z) (λh' tk c c' hk i g=>?_) hn
 show ε (model prog w) A (do
   let o <- load s.heap.objs.size
   match o.data with
   | .seq xs _=>pure xs.toList
   |_=>unsupported "internal:collect") Q E {s with heap:=h',toks:=tk}
 refine Ja (wpAny_load i ?_)
 refine Jd (h c.toList h' tk (Jl i) (λb o e=>hk b o (Jm (Jl e)) (Jk _ e)) (by rw[Jq];exact g.1) λj v e=>g.2 j v (by rw[<- KI];exact e))
theorem jU:∀{us:Ζ} {a:Α},us.length=a.length->(∀(j:Nat) (v:Γ),us[j]? =↑v->∃x t,a[j]? =↑x/\v= .str x t)->StrsAre us a
 | [],[],_,_=> .nil
 |u::us,x::a,hl,h=>by
  let#[y,t,d,c]:=h 0 u Z;cases d;subst c;exact .cons _ _ (jU (Nat.succ.inj hl) λj v e=>h (j+1) v e)
 | [],_::_,hl,_=>by cases hl
 |_::_,[],hl,_=>by cases hl
theorem re{i:Α}{Q:HG}(P:A.handled=none)(hm:s.heap.DictAt (qS prog w) d kvs ep)(lo:(d==sysModules)=false)(q:kvs.map (·.1)=i.map Pt)(t:i.length<64)
  (h:∀(h':Ψ) (tk:Nat) (l:Δ) (its:Ζ) (n:Nat) (a:Α),s.heap.objs.size<=l->(∀b o,s.heap.get? b=↑o->h'.get? b=↑o)->h'.get? l=↑(R5 "list" its.toArray n)->StrsAre its a->a.Perm i->sortedS a=true->Q (-l) {s with heap:=h',toks:=tk}):
  ε (model prog w) A (call (.builtin "sorted") [-d]) Q E s:=by
 have c:kvs.length=i.length:=by have:=J0 List.length q;rwa [Je,Je]at this
 refine SK kind_sorted plain_sorted entry_sorted (args_sorted1 _) ?_
 unfold γ.«sorted»
 refine Ja (m:=checkCount "sorted" 1 1 _) (Jd ?_)
 refine Ja (n5 (ep:=ep) (kvs:=kvs) P hm lo (by rw[JD];lia) λp h' tk u hk I L=>?_)
 have C:StrsAre p i:=jU (I.trans c) λj v e=>by
  let#[k,x,N,S]:=L j v e;have r:(kvs.map (·.1))[j]? =↑k:=by rw[Jo,N];rfl
  rw[q,Jo]at r;cases e4:i[j]? with
  |none=>rw[e4]at r;cases r
  |some y=>
   rw[e4]at r;have O:Pt y=k:=JE r
   subst O;have H:Γ.isStrOf y v=true:=S
   cases v<;>simp [Γ.isStrOf]at H
   subst H
   exact#[6]
 refine Ja (wpAny_newList ?_)
 have g:(h'.push (R5 "list" p.toArray 0)).get? h'.objs.size=↑(R5 "list" p.toArray 0):=Jp _ Z
 show ε _ _ _ _ _ {s with heap:=h'.push (R5 "list" p.toArray 0),toks:=tk}
 refine Ja (JM (JY slot_list_sort #[_,g,Z] entry_list_sort (list_sort_treeK (κ:=PyProof.Rows.strKind) strKind_oneLt g C.keysOf (λG F rest e=>keyKind_strs (by rw[<- e];exact C)) (by rw[I,c];exact t) λf T K=>#[0,?_]) (args_list_sort _)))
 let#[a,R,J,M]:=sorted_out_str C T K;let#[B,z]:∃B,(sortedHeap (h'.push (R5 "list" p.toArray 0)) h'.objs.size p ((arrOf f).map (·.2))).get? h'.objs.size=↑(R5 "list" ((arrOf f).map (·.2)) B):=sortedHeap_at g
 refine Jd #[0,h _ tk h'.objs.size ((arrOf f).map (·.2)).toList B a (LM u) (λb o e=>?_) (by rw[z]) R J M]
 have e':=hk b o e;have D:b<h'.objs.size:=Jl e'
 rw[sortedHeap_old (Jm D) (by rw[JU];exact Ik D)]
 exact Jk _ e'
end
theorem bN:∀{us:Ζ} {a:Α},StrsAre us a->HS (a.map V.str) us
 | [],[],.nil=> .nil
 |_,_::_,.cons _ _ t=> .cons #[0] (bN t)
theorem nr{X:Cx}(hc:X.calm=true):zj X (.builtin "sorted") (λxs H Q=>∃(d:Δ) (kvs:List (qJ×V)) (f:Α),xs=[-d]/\H d=↑(.dK kvs)/\kvs.map (·.1)=f.map Pt/\f.length<64/\
  ∀l c,H l=none->c.Perm f->sortedS c=true->Q (-l) (HM H l (.lst (c.map V.str)))):=by
 intro R0 s σ H xs K Q I r h;let#[d,kvs,f,rfl,D,j,i,q]:=h;let#[u,rfl,E]:=zT r;cases E;let#[z,lo,vs,m,o,es,ep,G,x,y,C,w,A]:=mC I.hok D;have e:vs.map (·.1)=f.map Pt:=by rw[<- j,m.keys]
 refine re (I.ok.hd hc) (#[o,es,G,x,y,C,w,A]:s.heap.DictAt (qS X.prog X.w) d vs ep) lo e i λh' tk l g n c t hk F B p v=>?_
 refine#[-l,_,I.laid (a:=l) (o:= .lst (c.map V.str)) (t':=tk) hk t ?_,Z,q l c (I.hok.fresh t) p v]
 have J:=bN B;refine#[?_,g,n,J,F]
 have:=p.length_eq
 rw[Je,JD];lia
end L3
namespace L3
open PySem PySem.Spec PyProof.Rows L2
open Sem (wp)
def wQ(k:Nat)(js:Κ)(g:TG)(tc:TT)(te:TE)(σ:L2.St)(Q:VK)(J:It)(H1:Hp):Prop:=∃W:Nat->Nat->Ε->L2.St->Hp->Prop,(∃m,W 0 m [] (σ0 k js σ) H1)/\∀i m ys h H,W i m ys h H->
 (J.stop i H/\∀p,H p=none->Q (-p) (HM H p (.lst ys)))\/(J.go i H/\ys.length<ζ/\∀x H',J.yld i H x H'->g x h H' λa j=>∃(N:V->Hp->Prop) (f:Hp->Prop),(∀v d,N v d->∃e,e<m/\W (i+1) e (ys++[v]) a d)/\
  (∀d,f d->∃e,e<m/\W (i+1) e ys a d)/\tc a j λc d=>if c=true then te a d N else f d)
noncomputable def vB(k:Nat)(js:Κ)(a:TI)(g:TG)(tc:TT)(te:TE):TE:=λσ H Q=>a σ H (wQ k js g tc te σ Q)
section
theorem pW{z a p j:Φ}{it y:Γ}{d:Env}(I:Nat->Θ->Prop)
  (turn:∀n s,I n s->ε (model prog w) A (pyNext it) (λr e=>match r with
   |none=>R (.ok .next) e
   | some v=>ε (model prog w) A (letOwnedTupleGo a it v) (λ_ f=>ε (model prog w) A (assign a d v) (λ_ t=>ε (model prog w) A (isTrue j d (eval j d)) (λok c=>
     if ok=true then ε (model prog w) A (eval z d) (λx q=>
      ε (model prog w) A (call (.builtin "list.append") [y,x]) (λ_ o=>∃m,m<n/\I m o) (λ_ _=>False) q) (λ_ _=>False) c else∃m,m<n/\I m c)
     (λ_ _=>False) t) (λ_ _=>False) f) (λ_ _=>False) e) (λ_ _=>False) s)
  (n:Nat)(h:I n s):
  codeAny (model prog w) A (.compLoop (.ListComp z [#[a,p,[j],(0)]] g pos) 0 it y d) R s:=by
 refine codeAny_loop Z I (λn s E=>?_) n h
 show ε _ _ ((compTurn (.ListComp z [#[a,p,[j],(0)]] g pos) 0 it y d).onRaise (λx=>do noteFrame x d;theTreesLotGoes x)) _ _ s
 refine wpAny_noted ?_
 rw[compTurn_list];refine Ja (Ib (Ja (Jx (turn n s E) (λr e l=>?_) λ_ _ h'=>h'.elim)))
 cases r with
 |none=>exact Jd l
 |some v=>
  refine Ja (Jx l (λ_ f u=>?_) λ_ _ h'=>h'.elim)
  refine Ja (Jx u (λ_ t D=>Ja (wpAny_tests_one (Jx D (λok c i=>?_) λ_ _ h'=>h'.elim))) λ_ _ h'=>h'.elim)
  cases ok with
  |false=>exact Jd #[Z,i]
  |true=>
   exact Ja (Ja (Jx i (λx q C=>Ja (Jx C (λ_ o B=>Jd (Jd #[Z,B])) λ_ _ h'=>h'.elim)) λ_ _ h'=>h'.elim))
end
theorem xy{a:Scope}{cl:List (Str×Δ)}{c4:Pos}{fr own:Α}{use:Option (Γ->Sem Unit)}{Post:HG}
  {s:Θ}{H:Hp}
  (hc:X.calm=true)(hi:PI X tg A wi)(a8:closureFor a X.env=pure cl)(d5:∀y c,cl.lookup y=↑c->X.env.cells.lookup y=↑c)(d0:cl.map (·.1)=fr)
  (S:MU X a fr js)
  (hg:∀C s H fp,PG (qY X (own++fr) a cl C s H fp) tg g)(ht:∀C s H fp,PT (qY X (own++fr) a cl C s H fp) b1 tc)(he:∀C s H fp,PE (qY X (own++fr) a cl C s H fp) a7 te)
  (hs:∀x,foldedSetIterable A X.env x=pure x)
  (I:L2.HN X R0 σ H s)(h:vB own.length js wi g tc te σ H Q)
  (b8:∀(b7 C:Δ) (s5:Θ) (H':Hp) (m:HH),L2.HN X R0 σ H' s5->s5.heap.Ns C m->O7 X R0 H' C->Q (-b7) H'->compPost (model X.prog X.w) X.A X.xe use Post (-b7) C (.ok .next) s5):
  ε (model X.prog X.w) X.A (comprehension (.ListComp a7 [#[tg,A,[b1],(0)]] a pos) a X.env c4 (newList []) false (eval A X.env) use) Post X.xe s:=by
 refine wpAny_comprehension_free (use:=use) Z hs a8 S.kind S.names (qz (hi R0 s σ H _ I h) λv s1 h1=>qz h1 λd9 q h2=>?_)
 let#[it,fp,tn,J,H2,e,I2,T,b4,f2,W,#[m0,w0],turn]:=h2;subst e;refine J6 (wpAny_newFunctionEnv S.nocell (by intro y hy;simp at hy) (λE t f=>?_) S.kind)
 dsimp only at t f⊢
 generalize hH2:q.heap.push {cls:= .type "list",dict:=none,data:= .seq ([]:Ζ).toArray}=G at t f⊢
 have hC:G.objs.size=q.heap.objs.size+1:=by rw[<- hH2,JU]
 have R:q.heap.objs.size≠G.objs.size:=by rw[hC];exact Jm (G0 _)
 have M:∀b,b<q.heap.objs.size->b≠G.objs.size/\b≠q.heap.objs.size:=λb l=>#[by rw[hC];exact Jm (Ik l),Jm l]
 have c0:∀b o,q.heap.get? b=↑o->E.get? b=↑o:=λb o e=>f.extBut b o (M b (Jl e)).1 (Jk _ (hH2▸Jk _ e))
 have a1:E.get? q.heap.objs.size=some {cls:= .type "list",data:= .seq ([]:Ζ).toArray 0}:=f.extBut _ _ R (Jk _ (hH2▸Jp _ Z))
 let Y:Cx:=qY X (own++fr) a cl G.objs.size q H2 fp
 let#[c2,IY,P,K,a6]:=eV (own:=own) (js:=js) d5 d0 S I2 T b4 f2 hC c0 t
 have a2:∀w:Θ,HN Y [] (σ0 own.length js σ) H2 w->tn 0 w.heap->w.heap.get? q.heap.objs.size=some {cls:= .type "list",data:= .seq ([]:Ζ).toArray 0}->
   codeAny (model X.prog X.w) X.A (.compLoop (.ListComp a7 [#[tg,A,[b1],(0)]] a pos) 0 (-it) (-q.heap.objs.size) (compEnvC a cl G.objs.size X.env))
    (compPost (model X.prog X.w) X.A X.xe use Post (-q.heap.objs.size) G.objs.size) w:=by
  intro w I3 d4 d3;refine pW (λn s'=>∃i ys τ H' d k,HN Y [(q.heap.objs.size,{cls:= .type "list",data:= .seq d.toArray k})] τ H' s'/\tn i s'.heap/\(∀b∈fp,H' b=none)/\HS ys d/\ys.length<=ζ/\W i n ys τ H') ?_ m0 ?_
  .rintro n s4 ⟨i,ys,τ,H4,d,k,I4,b2,b6,vl,hz,w4⟩
   have d7:=I4.pin (q.heap.objs.size,{cls:= .type "list",data:= .seq d.toArray k}) (by simp [Y,qY])
   rcases turn i n ys τ H4 w4 with⟨b5,qn⟩|⟨go,d8,step⟩
   .refine qz (T.done Y Z Z Z hc i _ s4 τ H4 _ I4 (a6 b6 (by simp)) b2 b5) λr s5 L=>?_
    let#[hr,I5]:=L;subst hr
    show compPost _ _ _ _ _ _ _ _ _
    let#[m5,d2,_]:=I5.loc;have a3:=I5.pin (q.heap.objs.size,{cls:= .type "list",data:= .seq d.toArray k}) (by simp [Y,qY])
    have a4:H4 q.heap.objs.size=none:=a3.2.1
    have B:=I5.base;have nC:H4 G.objs.size=none:=I5.free
    let#[z1,z2]:=eU (ob:= .lst ys) I2 f2 hC I5 a4 #[hz,d,k,vl,a3.1]
    exact b8 q.heap.objs.size G.objs.size s5 (HM H4 q.heap.objs.size (.lst ys)) m5 z1 d2 z2 (qn _ a4)
   .refine qz (T.item Y Z Z Z hc i _ s4 τ H4 _ I4 (a6 b6 (by simp)) b2 go) λr s5 L=>?_
    let#[u,hr,h5]:=L;subst hr;refine qz h5 λ_ s6 L=>?_
    let#[x,H6,I6,r6,y6,O,d1]:=L;have I6':=I6.pinned (a6 d1 (by simp)) (T.obj _ _ O)
    refine qz (hg _ _ _ _ _ s6 τ H6 x u _ I6' r6 (step x H6 y6)) λ_ s7 L=>?_
    let#[F,H7,I7,N,N0,hN,d6,q7]:=L;refine qz (ht _ _ _ _ _ s7 F H7 _ I7 q7) λok c1 L=>?_
    let#[H7',I7',c3]:=L;cases ok with
    |false=>
     let#[m',a5,w8]:=d6 _ c3;have D:=I7'.pin (q.heap.objs.size,{cls:= .type "list",data:= .seq d.toArray k}) (by simp [qY])
     have j:∀b∈fp,∀o,s6.heap.get? b=↑o->c1.heap.get? b=↑o/\H7' b=none:=λb l o e=>by
      have:=I7'.pin (b,o) (JQ _ (JQ _ (Qu l e)))
      exact#[this.1,this.2.1]
     refine#[m',a5,i+1,ys,F,H7',d,k,I7'.pins_of ?_,T.keep _ _ _ O λb l o e=>(j b l o e).1,λb l=>?_,vl,by lia,w8]
     .intro p hp
      rw[Ji.mp hp];exact D
     .let#[o,e,_]:=T.obj _ _ O b l
      exact(j b l o e).2
    |true=>
    refine qz (he _ _ _ _ _ c1 F H7' _ I7' c3) λv' s8 L=>?_
    let#[y,H8,I8,r8,n8]:=L;let#[m',a5,w8]:=hN _ _ n8;have D:=I8.pin (q.heap.objs.size,{cls:= .type "list",data:= .seq d.toArray k}) (by simp [qY])
    have j:∀b∈fp,∀o,s6.heap.get? b=↑o->s8.heap.get? b=↑o/\H8 b=none:=λb l o e=>by
     have:=I8.pin (b,o) (JQ _ (JQ _ (Qu l e)))
     exact#[this.1,this.2.1]
    refine wpAny_list_append_plain (items:=d.toArray) #[k,D.1] (λh' U b3=>?_) (by have:=vl.length;simp;lia)
    let#[k',U]:=U;have I9:HN Y [] F H8 {s8 with heap:=h'}:=by
     refine(I8.pins_of (pins':=[]) (by simp)).turned (t':=s8.toks) (it:=q.heap.objs.size) (λb o l e=>(b3.2 b l).trans e) D.2.1 ?_ (.inr (Jf _)) (λx c e=>K x c e) (λp hp=>absurd (show p∈([]:HI)from by simpa [Y,qY]using hp) (by simp))
     exact R
    have ea:(d.toArray.push v')=(d++[v']).toArray:=by simp
    rw[ea]at U;refine#[m',a5,i+1,ys++[y],F,H8,d++[v'],k',I9.pins_of ?_,T.keep _ _ _ O λb l o e=>(b3.2 b (M b (c2 b l)).2).trans (j b l o e).1,λb l=>?_,vl.append (.cons r8 .nil),?_,w8]
    .intro p hp
     rw[Ji.mp hp]
     exact#[U,D.2.1,R,P,λv z=>by cases z]
    .let#[o,e,_]:=T.obj _ _ O b l
     exact(j b l o e).2
    .rw[Jy,IM];lia
  .refine#[(0),[],σ0 own.length js σ,H2,[],(0),I3.pins_of ?_,d4,λb l=>(f2 b l).1,.nil,JB _,w0]
   intro p hp;rw[Ji.mp hp]
   exact#[d3,I2.hok.fresh (Jf _),R,P,λv z=>by cases z]
 have b0:tn 0 E:=T.keep _ _ _ b4 λb _ o e=>c0 b o e
 exact codeAny_compStart_list (a2 _ IY b0 a1) (T.self _ 0 _ _ _ b0 (a2 _ IY b0 a1))
section
variable{K:ι}{td:TE}
abbrev wg(J:It)(js:Κ)(tc:TT)(te:TE)(σ:L2.St)(H1:Hp)(Q:VK):Prop:=wQ 1 js (Qf 0) tc te σ Q J H1
theorem yl{J:It}{n:Nat}(hn:n<=ζ)(f:Nat->V->Prop)(Pv:Nat->Ε->Hp->Prop)(l:Pv 0 [] H)(g:∀i ys H,i<n->Pv i ys H->J.go i H)(hst:∀ys H,Pv n ys H->J.stop n H)
  (r:∀i ys H x H',i<n->Pv i ys H->J.yld i H x H'->H'=H/\f i x)
  (hs:∀i ys H x,i<n->Pv i ys H->f i x->tc (↑x::zY js σ) H λc d=>if c=true then te (↑x::zY js σ) d (λv q=>Pv (i+1) (ys++[v]) q)else Pv (i+1) ys d)
  (hd:∀ys H,Pv n ys H->∀p,H p=none->Q (-p) (HM H p (.lst ys))):wg J js tc te σ H Q:=by
 exists λi m ys j H=>m=n-i/\i<=n/\ys.length<=i/\Pv i ys H/\∃o,j=o::zY js σ,#[n,by simp,JB _,Jf _,l,none,Z]
 rintro i m ys j H ⟨rfl,hi,t,p,o,rfl⟩
 by_cases a:i<n
 .refine .inr #[g i ys H a p,by lia,λx H' y=>?_]
  let#[e,s]:=r i ys H x H' a p y;subst e
  exact#[λv d=>Pv (i+1) (ys++[v]) d,λd=>Pv (i+1) ys d,λv d h=>#[n-(i+1),jN a,Z,a,by simp;lia,h,0],λd h=>#[n-(i+1),jN a,Z,a,by lia,h,0],hs i ys _ x a p s]
 .have e:i=n:=by lia
  subst e;exact .inl #[hst ys H p,hd ys H p]
theorem tT{xs:Ε}(hn:xs.length<=ζ)(Pv:Nat->Ε->Hp->Prop)(f:Pv 0 [] H)(hl:∀i ys H,Pv i ys H->HQ K H a xs)
  (hs:∀i ys H x,xs[i]? =↑x->Pv i ys H->tc (↑x::zY js σ) H λc d=>if c=true then te (↑x::zY js σ) d (λv e=>Pv (i+1) (ys++[v]) e)else Pv (i+1) ys d)
  (hd:∀ys H,Pv xs.length ys H->∀p,H p=none->Q (-p) (HM H p (.lst ys))):wg (fF K a) js tc te σ H Q:=
 yl hn (λi x=>xs[i]? =↑x) Pv f (λi ys H hi p=>#[xs,xs[i],hl _ _ _ p,by simp [hi]]) (λys H p=>#[xs,hl _ _ _ p,Jf _]) (λi ys H x H' _ p y=>#[y.1,y.2 xs (hl _ _ _ p)]) (λi ys H x _ p g=>hs i ys H x g p) hd
theorem zB{k:Nat}(hr:MK k X.A)(ho:QE X o td)(hi:QE X i ty)(hs:Br i:=by exactλ_ _=>rfl):QE X (.Subscript o i pos) (B5 td ty):=#[C6 (by have:=hr.un;lia) ho.h hi.h hs]
theorem QM{k:Nat}(hr:MK k X.A)(ho:QE X o td)(hi:QE X i ty)(hv:QE X value tv)(hs:swapsWith value ↑(.Subscript o i pos') pos.line X.env=pure false:=by rfl):
  QS X (.Assign [.Subscript o i pos'] value pos) (Cb td ty tv):=#[C3 (by have:=hr.un;lia) ho.h hi.h hv.h hs]
structure RU(X:Cx)(pos:Pos)(keys:List μ)(values:Ι)(trs:List (TE×TE)):Prop where
 h:xf X pos keys values trs
theorem CZ:RU X pos [] [] []:=#[DA]
theorem bp{k:Φ}{tv:TE}(hk:QE X k tk)(hv:QE X v tv)(hr:RU X pos ks vs a):RU X pos (↑k::ks) (v::vs) ((tk,tv)::a):=#[AN hk.h hv.h hr.h]
theorem Cw{keys:List μ}(h:RU X pos keys a d)(c:keys.all (·.isSome)=true:=by rfl)(hl:keys.length=a.length:=by rfl)(f:keys≠[]:=by(intro z;cases z))
  (e:keys.length<=15:=by decide):QE X (.Dict keys a pos) (B8 d):=#[CB h.h c hl f e]
end
theorem tL{k:qJ}{v:V}:∀{kvs:List (qJ×V)} (i:Nat),kvs[i]? =↑(k,v)->(kvs.map (·.1)).Nodup->QZ kvs k=↑v
 | [],i,h,_=>by cases h
 |p::r,0,h,_=>by
  cases JE h
  exact bi Z
 |p::r,i+1,h,nd=>by
  have h':r[i]? =↑(k,v):=h
  have a:p.1∉r.map (·.1)/\(r.map (·.1)).Nodup:=IG.mp nd
  have c:k∈r.map (·.1):=JC.mpr #[(k,v),Ij h',Z]
  have ne:p.1≠k:=λz=>a.1 (z▸c)
  rw[aW ne];exact tL i h' a.2
theorem C7{k:qJ}{kvs:List (qJ×V)}(h:k∉kvs.map (·.1)):MX kvs k v=kvs++[(k,v)]:=by
 unfold MX;rw[Jb];intro z;let#[p,a,e]:=Mm.mp z;exact h (JC.mpr #[p,a,Jz e])
end L3
namespace L3
open PySem PySem.Spec PyProof.Rows L2
section
variable{td:TE}
theorem mJ{k:Nat}(hr:MK k X.A)(ho:QE X o td)(ha:QE X e ty)(m:M1 X o "get" apos e cpos:=by exact#[67]):QE X (.Call (.Attribute o "get" apos) [e] [] cpos) (w9 td ty):=#[Bq (by have:=hr.un;lia) ho.h ha.h m]
theorem iC:QE X (.Dict [] [] pos) yt:=#[Bs]
theorem oU{k:Nat}(hr:MK k X.A)(hi:QE X e ty)(ho:QE X o td)(h1:behindInMarks CmpOp.In o=false:=by rfl):QT X (.Compare e [.In] [o] pos) (gC (EK ty td)):=#[vH (ET (by have:=hr.un;lia) hi.h ho.h) (h1:=h1)]
theorem kB{k:Nat}(hr:MK k X.A)(hi:QE X e ty)(ho:QE X o td)(h1:behindInMarks CmpOp.NotIn o=false:=by rfl):QT X (.Compare e [.NotIn] [o] pos) (gC (rV ty td)):=#[vH (yw (by have:=hr.un;lia) hi.h ho.h) (h1:=h1)]
end
structure Kb where
 age:Int
 last:Int
 wt:Option (Int×Int)
abbrev _root_.Ο:=Option Kb
abbrev Kw:=List (Str×Kb)
noncomputable def Wt(H:Hp)(v:V):Option (Int×Int)->Prop
 |none=>v= .non
 |some (x,c)=>∃w,v= .ref w/\H w=↑(.tup [.int x,.int c])
def Na(H:Hp)(a:Δ)(e:Kb):Prop:=∃v,H a=↑(.tup [.int e.age,.int e.last,v])/\Wt H v e.wt
noncomputable def bI(kn:Kw)(f:Str->Δ):List (qJ×V):=kn.map λe=>(Pt e.1,V.ref (f e.1))
def NC(H:Hp)(d:Δ)(kn:Kw):Prop:=∃f:Kw×(Str->Δ),H d=↑(.dK (bI f.1 f.2))/\(∀e∈kn,Na H (f.2 e.1) e.2)/\f.1.Perm kn/\(kn.map (·.1)).Nodup
noncomputable def zr(kn:Kw)(nm:Str)(e:Kb):Kw:=if nm∈kn.map (·.1)then kn.map (λp=>if p.1=nm then(nm,e)else p)else kn++[(nm,e)]
theorem Mv.tup(m:Mv S H H')(n:NT S H)(h:H a=↑(.tup xs)):H' a=↑(.tup xs):=m _ _ (λz=>by
 let#[o,e,no]:=n a z;rw[e]at h;cases h;exact no) h
theorem Wt.mv(m:Mv S H H')(n:NT S H)(h:Wt H v o):Wt H' v o:=by
 cases o with
 |none=>exact h
 |some p=>let#[w,e,r]:=h;exact#[w,e,m.tup n r]
theorem Na.mv(m:Mv S H H')(n:NT S H)(h:Na H a e):Na H' a e:=by
 let#[v,r,w]:=h
 exact#[v,m.tup n r,w.mv m n]
theorem Na.same(s:HJ H H')(h:Na H a e):Na H' a e:=h.mv (S:=[]) s.mv (λc h=>nomatch h)
theorem NC.mv{d:Δ}(m:Mv S H H')(n:NT S H)(hd:d∉S)(h:NC H d kn):NC H' d kn:=by
 let#[f,r,w,p]:=h
 exact#[f,m _ _ hd r,λe a=>(w e a).mv m n,p]
theorem NC.same(s:HJ H H')(h:NC H d kn):NC H' d kn:=h.mv (S:=[]) s.mv (λc h=>nomatch h) (λh=>nomatch h)
theorem gH(f:Str->Δ)(nm:Str):∀a:Kw,QZ (bI a f) (Pt nm:qJ)=(a.lookup nm).map λ_=>V.ref (f nm)
 | []=>rfl
 |(m,e)::r=>by
  show QZ ((Pt m,V.ref (f m))::bI r f) (Pt nm)=_
  by_cases q:m=nm
  .subst q
   rw[bi Z,Os];rfl
  .rw[aW (by intro z;injection z with z;exact q z),Iv,Lv (λz=>q z.symm)]
   exact gH f nm r
theorem QP{nm:Str}{e:Kb}:∀{kn:Kw},kn.lookup nm=↑e->(nm,e)∈kn
 |(m,x)::r,h=>by
  rw[Iv]at h
  by_cases q:nm=m
  .subst q
   rw[Iq]at h;cases h;exact Jr ..
  .rw[Lv q]at h
   exact Jv _ (QP h)
theorem HZ{nm:Str}:∀{kn:Kw},(kn.lookup nm).isSome=true↔nm∈kn.map (·.1)
 | []=>by simp
 |(m,x)::r=>by
  rw[Iv,JS,Jg]
  by_cases q:nm=m
  .subst q;simp
  .rw[Lv q]
   simp only[q,false_or];exact HZ
theorem bP(kn:Kw)(nm:Str)(e:Kb):(zr kn nm e).map (·.1)=if nm∈kn.map (·.1)then kn.map (·.1)else kn.map (·.1)++[nm]:=by
 unfold zr;split
 .rw[Ir]
  refine Lr λp a=>?_
  simp only[Function.comp]
  by_cases y:p.1=nm
  .rw[Jc y,y]
  .rw[Jb y]
 .rw[JI];rfl
theorem AE(kn:Kw)(nm:Str)(e:Kb):(zr kn nm e).length<=kn.length+1:=by
 have:=J0 List.length (bP kn nm e)
 rw[Je]at this;rw[this];split
 .rw[Je];lia
 .rw[Jy,Je];exact Jf _
theorem j0{kn:Kw}(c:(kn.map (·.1)).Nodup)(nm:Str)(e:Kb):((zr kn nm e).map (·.1)).Nodup:=by
 rw[bP];split
 .exact c
 .rename_i z
  exact Lj.mpr #[c,by simp,λa d b f=>by rw[Ji.mp f];exactλw=>z (w▸d)]
theorem Zo{nm:Str}{e:Kb}:∀{kn:Kw},(kn.map (·.1)).Nodup->kn.lookup nm=↑e->∀p∈kn,p.1=nm->p=(nm,e)
 | [],_,h,_,a,_=>by cases a
 |(m,x)::r,nd,h,p,a,hn=>by
  have c:m∉r.map (·.1)/\(r.map (·.1)).Nodup:=IG.mp nd
  rw[Iv]at h
  by_cases q:nm=m
  .subst q
   rw[Iq]at h;cases h;rcases Jg.mp a with rfl|a
   .rfl
   .exact absurd (JC.mpr #[p,a,hn]) c.1
  .rw[Lv q]at h
   rcases Jg.mp a with rfl|a
   .exact absurd hn.symm q
   .exact Zo c.2 h p a hn
theorem cm{a:Kw}(pm:a.Perm kn)(d:(kn.map (·.1)).Nodup)(nm:Str):a.lookup nm=kn.lookup nm:=by
 cases e:a.lookup nm with
 |none=>
  cases e':kn.lookup nm with
  |none=>rfl
  |some x=>
   have:(a.lookup nm).isSome=true:=HZ.mpr ((pm.map (·.1)).mem_iff.mpr (HZ.mp (by rw[e'];rfl)))
   rw[e]at this;cases this
 |some x=>
  let#[y,c]:∃y,kn.lookup nm=↑y:=L5.mp (HZ.mpr (JC.mpr #[_,pm.mem_iff.mp (QP e),Z]))
  rw[c]
  have:=Zo d c _ (pm.mem_iff.mp (QP e)) Z
  cases this;rfl
theorem NC.get(h:NC H d kn)(nm:Str):(kn.lookup nm=none/\NB H d (.str nm) none)\/∃e a,kn.lookup nm=↑e/\NB H d (.str nm) ↑(-a)/\Na H a e:=by
 let#[#[l,f],i,c,pm,j]:=h;have g:=NB.k (k:=Pt nm) i
 rw[gH,cm pm j]at g;cases q:kn.lookup nm with
 |none=>rw[q]at g;exact .inl #[Z,g]
 |some e=>rw[q]at g;exact .inr #[e,f nm,Z,g,c _ (QP q)]
theorem lp{a:Kw}(pm:a.Perm kn)(nm:Str)(e:Kb):(zr a nm e).Perm (zr kn nm e):=by
 unfold zr
 by_cases z:nm∈kn.map (·.1)
 .rw[Jc ((pm.map (·.1)).mem_iff.mpr z),Jc z];exact pm.map _
 .rw[Jb (λw=>z ((pm.map (·.1)).mem_iff.mp w)),Jb z];exact pm.append_right _
theorem NC.put(h:NC H d kn)(nm:Str)(hl:kn.length<=100)(hb:Na H a e):∃H',N8 H d (.str nm) (-a) H'/\Mv [d] H H'/\NC H' d (zr kn nm e):=by
 let#[#[i,f],t,m,pm,u]:=h;have l:(bI i f).length=kn.length:=(Je _).trans pm.length_eq
 have hk:∀e∈i,Na H (f e.1) e.2:=λe x=>m e (pm.mem_iff.mp x)
 refine#[_,N8.k (k:=Pt nm) t (by rw[l];exact mn _),Mv.upd1,(zr i nm e,λn=>if n=nm then a else f n),?_,?_,lp pm nm e,j0 u nm e]
 .rw[qb]
  congr 2
  unfold MX zr bI;have s:((i.map λe=>((Pt e.1:qJ),V.ref (f e.1))).any λv=>decide (v.1=(Pt nm:qJ)))=true↔nm∈i.map (·.1):=by
   rw[Mm];constructor
   .rintro⟨p,c,z⟩
    let#[q,g,rfl]:=JC.mp c;have r:(Pt q.1:qJ)=Pt nm:=Jz z
    injection r with r
    exact JC.mpr #[q,g,r]
   .intro z
    let#[q,g,e]:=JC.mp z
    exact#[_,JC.mpr #[q,g,Z],Jj (by rw[e])]
  by_cases z:nm∈i.map (·.1)
  .rw[Jc (s.mpr z),Jc z,Ir,Ir]
   refine Lr λp c=>?_
   simp only[Function.comp]
   by_cases y:p.1=nm
   .rw[Jc (by rw[y]),Jc y]
    simp [y]
   .rw[Jb (by intro w;injection w with w;exact y w),Jb y]
    simp [y]
  .rw[Jb (λw=>z (s.mp w)),Jb z,JI]
   congr 1
   .refine Lr λp c=>?_
    have y:¬p.1=nm:=λw=>z (JC.mpr #[p,c,w])
    simp [y]
   .simp
 .have nt:NT [d] H:=NT.one t trivial
  intro p c;have c:=(lp pm nm e).mem_iff.mpr c;have j:=hb.mv (Mv.upd1 (o:= .dK (MX (bI i f) (Pt nm) (-a)))) nt
  unfold zr at c;split at c
  .let#[q,g,rfl]:=JC.mp c
   by_cases y:q.1=nm
   .rw[Jc y];simp only[Io];exact j
   .rw[Jb y]
    show Na _ (if q.1=nm then a else f q.1) q.2
    rw[Jb y]
    exact(hk q g).mv Mv.upd1 nt
  .rename_i z
   rcases JP.mp c with g|g
   .have y:¬p.1=nm:=λw=>z (JC.mpr #[p,g,w])
    show Na _ (if p.1=nm then a else f p.1) p.2
    rw[Jb y]
    exact(hk p g).mv Mv.upd1 nt
   .rw[Ji.mp g];simp only[Io];exact j
def MP(K:ι)(H:Hp)(hk:Δ)(kss:List Β):Prop:=∃c:Η,H hk=↑(.lst (c.map V.ref))/\c.length=kss.length/\∀(i:Nat) (a:Δ) (d:Β),c[i]? =↑a->kss[i]? =↑d->HX K H a (d.map V.int)
theorem MP.mv{K:ι}{hk:Δ}(m:Mv S H H')(n:NT S H)(hd:hk∉S)(h:MP K H hk kss):MP K H' hk kss:=by
 let#[g,e,l,r]:=h
 exact#[g,m _ _ hd e,l,λi a d f c=>m.sqt n (r i a d f c)]
structure Dr where
 t:Β
 kss:List Β
 near:Int
 far:Int
 most:Int
 least:Int
 kn:Kw
noncomputable def dF(D:Dr)(ta hk bd lg:Δ):List (Str×V):=
 [("table",-ta),("house_keys",-hk),("near",.int D.near),("far",.int D.far),("most",.int D.most),("least_age",.int D.least),("buttons",-bd),("log",-lg)]
noncomputable def dN:Α:=["table","house_keys","near","far","most","least_age","buttons","log"]
theorem F5:dN.Nodup:=by decide +kernel
theorem Cl(D:Dr)(ta hk bd lg:Δ):((dF D ta hk bd lg).map (·.1)).Nodup:=F5
structure ND(K:ι)(C:Δ):Prop where
 cl:OK K C
 n_table:MT K C "table"
 n_house_keys:MT K C "house_keys"
 n_near:MT K C "near"
 n_far:MT K C "far"
 n_most:MT K C "most"
 n_least_age:MT K C "least_age"
 n_buttons:MT K C "buttons"
 n_log:MT K C "log"
structure HL(K:ι)(C:Δ)(H:Hp)(p ta hk bd lg:Δ)(n:Nat)(D:Dr):Prop where
 ob:∃dx,H p=↑(.ins C dx (dF D ta hk bd lg))
 tb:HX K H ta (D.t.map V.int)
 ks:MP K H hk D.kss
 kb:NC H bd D.kn
 lo:∃rs:Η,H lg=↑(.lst (rs.map V.ref))/\rs.length<=n
 ne:lg≠hk
section
variable{K:ι}{n:Nat}
theorem HL.has(b:HL K C H p ta hk bd lg n D)(U:ND K C)(i:Nat){f:Str}{v:V}(h:(dF D ta hk bd lg)[i]? =↑(f,v))(a:MT K C f):cu K H p f v:=by
 let#[dx,e]:=b.ob
 exact#[C,dx,_,e,U.cl,a,kS i h (Cl ..)]
theorem HL.h_table(b:HL K C H p ta hk bd lg n D)(U:ND K C):cu K H p "table" (-ta):=b.has U 0 Z U.n_table
theorem HL.h_house_keys(b:HL K C H p ta hk bd lg n D)(U:ND K C):cu K H p "house_keys" (-hk):=b.has U 1 Z U.n_house_keys
theorem HL.h_near(b:HL K C H p ta hk bd lg n D)(U:ND K C):cu K H p "near" (.int D.near):=b.has U 2 Z U.n_near
theorem HL.h_far(b:HL K C H p ta hk bd lg n D)(U:ND K C):cu K H p "far" (.int D.far):=b.has U 3 Z U.n_far
theorem HL.h_most(b:HL K C H p ta hk bd lg n D)(U:ND K C):cu K H p "most" (.int D.most):=b.has U 4 Z U.n_most
theorem HL.h_least_age(b:HL K C H p ta hk bd lg n D)(U:ND K C):cu K H p "least_age" (.int D.least):=b.has U 5 Z U.n_least_age
theorem HL.h_buttons(b:HL K C H p ta hk bd lg n D)(U:ND K C):cu K H p "buttons" (-bd):=b.has U 6 Z U.n_buttons
theorem HL.h_log(b:HL K C H p ta hk bd lg n D)(U:ND K C):cu K H p "log" (-lg):=b.has U 7 Z U.n_log
theorem HL.no(b:HL K C H p ta hk bd lg n D){m:Str}(h:m∉dN:=by decide +kernel):Gn C H p m:=by
 let#[dx,e]:=b.ob
 exact#[dx,_,e,kU h]
theorem HL.mv(b:HL K C H p ta hk bd lg n D)(m:Mv S H H')(nt:NT S H)(hp:p∉S)(a:hk∉S)(hb:bd∉S)(hl:lg∉S):HL K C H' p ta hk bd lg n D:=by
 let#[dx,e]:=b.ob;let#[rs,c,l]:=b.lo
 exact#[#[dx,m _ _ hp e],m.sqt nt b.tb,b.ks.mv m nt a,b.kb.mv m nt hb,#[rs,m _ _ hl c,l],b.ne]
theorem HL.same(b:HL K C H p ta hk bd lg n D)(s:HJ H H'):HL K C H' p ta hk bd lg n D:=b.mv (S:=[]) s.mv (λc h=>nomatch h) (λh=>nomatch h) (λh=>nomatch h) (λh=>nomatch h) (λh=>nomatch h)
end
inductive RM (x:V)(y:V)(H:Hp)(Q:VK):Prop
 |mk (o:Option (Int×Int))(b:Δ)(a c:Int)(h1:Wt H x o)(h2:y= .ref b)(h3:Rd H b (.tup [.int a,.int c]))(h4:Q (.bl (decide (o=↑(a,c)))) H)
def Gw:R2:=λx y H Q=>RM x y H Q
theorem v9{X:Cx}{k:Nat}(hr:MK k X.A):zx X (Py .Eq) Gw:=by
 intro R0 s σ H x y v u Q I B K h;let#[o,b,a,c,E,rfl,L,q]:=h;cases K;let#[d,C,p2,_]:=I.tuple (.inl L)
 have D:X.A.units<cLine:=by have:=hr.un;lia
 cases o with
 |none=>
  have l:x= .non:=E
  subst l;cases B;rw[Jn (by intro z;cases z)]at q
  exact SeqAt.RcAt.none_tuple p2 D _ _ _ _ #[.bl false,H,I,Z,q]
 |some pr=>
  let#[n,m]:=pr;let#[w,rfl,l]:=E;cases B;let#[i,F,O,_]:=I.tuple (.inl (.inl l))
  have r:=F.length;have p:=C.length;have G:=SeqAt.RcAt.tuples (A:=X.A) (e:=λj=>[n,m].getD j 0==[a,c].getD j 0) (show s.heap.IsTuple w i.toArray from O) (show s.heap.IsTuple b d.toArray from p2) D (λj h1 J=>by
   have g:j<i.length:=by simpa using h1
   have f:j<d.length:=by simpa using J
   let#[t,e]:=aQ (ns:=[n,m]) F j g (by rw[<- r]at g;exact g)
   let#[P,e']:=aQ (ns:=[a,c]) C j f (by rw[<- p]at f;exact f)
   simp only[KM,e,e',JG,Jh (show j<[n,m].length by rw[<- r]at g;exact g),Jh (show j<[a,c].length by rw[<- p]at f;exact f),IP]
   exact Ss _ _ _ _)
  have M:i.toArray.size=2:=by rw[Js,<- r];rfl
  have N:d.toArray.size=2:=by rw[Js,<- p];rfl
  refine G _ _ _ _ #[.bl _,H,I,?_,q]
  show Γ.bool _=Γ.bool _
  congr 1
  rw[M,N,show min 2 2=([n,m]:Β).length from Z,oF [n,m] [a,c] Z]
  simp
noncomputable def uZ(c l n f:Int):Str:=if c<=l then "old" else if c<=l+n then "near" else if c<=l+f then "far" else "beyond"
inductive sV(vs:Ε)(H:Hp)(Q:VK)(_:XK):Prop
 |mk (c l n f:Int)(h1:vs=[.int c,.int l,.int n,.int f])(h2:Q (.str (uZ c l n f)) H)
noncomputable def zD(a d:Int)(e:Kb)(age c:Int):Str×Kb:=
 if c<=e.last then("old",e)else if c<=e.last+a then("near",#[age,c,none])
 else if c<=e.last+d then(if e.wt=↑(age,c-1)then("near",#[age,c,none])else("far",#[e.age,e.last,↑(age,c)]))else("beyond",e)
inductive ju(vs:Ε)(H:Hp)(Q:VK)(_:XK):Prop
 |mk (a:Δ)(e:Kb)(age c near far:Int)(h1:vs=[-a,.int age,.int c,.int near,.int far])(h2:Na H a e)(h3:∀q a' H',HJ H H'->H' q=↑(.tup [.str (zD near far e age c).1,-a'])->Na H' a' (zD near far e age c).2->Q (-q) H')
def Q2(D:Dr)(age:Int):Bool:=decide (D.least<=age)&&decide (age<D.kss.length)
def qO(D:Dr)(e:Kb)(age:Int):Bool:=Q2 D age&&decide (e.age<=age)
noncomputable def zu(D:Dr)(nm:Str)(age:Int)(r:Option (Int×Int)):Ε×Kw:=
 match D.kn.lookup nm with
 |none=>([.str "held",.str "unknown"],D.kn)
 |some e=>if qO D e age=true then(match r with
   |none=>([.str "held",.str "false"],D.kn)
   |some (c,d)=>if(zD D.near D.far e age c).1="near" then([.str "open",.str nm,.int d],zr D.kn nm (zD D.near D.far e age c).2)else([.str "held",.str (zD D.near D.far e age c).1],zr D.kn nm (zD D.near D.far e age c).2))
  else([.str "held",.str "age"],D.kn)
structure Nw(D:Dr):Prop where
 tp:D.t.Perm Nf
 l0:0<=D.least
 kl:D.kss.length<=8
 nl:D.kn.length<=60
 nd:(D.kn.map (·.1)).Nodup
section
variable(K:ι)(C:Δ)
inductive tG(vs:Ε)(H:Hp)(Q:VK)(_:XK):Prop
 |mk (p ta hk bd lg:Δ)(n:Nat)(D:Dr)(h1:vs=[-p])(h2:HL K C H p ta hk bd lg n D)(h3:Q (.bl (decide (D.most<=(D.kn.length:Int)))) H)
inductive iJ(vs:Ε)(H:Hp)(Q:VK)(_:XK):Prop
 |mk (p ta hk bd lg:Δ)(n:Nat)(D:Dr)(age:Int)(h1:vs=[-p,.int age])(h2:HL K C H p ta hk bd lg n D)(h3:Q (.bl (Q2 D age)) H)
inductive cQ(vs:Ε)(H:Hp)(Q:VK)(_:XK):Prop
 |mk (p ta hk bd lg a:Δ)(n:Nat)(D:Dr)(e:Kb)(age:Int)(h1:vs=[-p,-a,.int age])(h2:HL K C H p ta hk bd lg n D)(h3:Na H a e)(h4:Q (.bl (qO D e age)) H)
inductive gw(vs:Ε)(H:Hp)(Q:VK)(_:XK):Prop
 |mk (p ta hk bd lg:Δ)(n:Nat)(D:Dr)(nm:Str)(h1:vs=[-p,.str nm])(h2:HL K C H p ta hk bd lg n D)(h3:(D.kn.lookup nm=none->Q .non H))(h4:(∀e a,D.kn.lookup nm=↑e->Na H a e->Q (-a) H))
inductive rT(vs:Ε)(H:Hp)(Q:VK)(_:XK):Prop
 |mk (p ta hk bd lg a:Δ)(n:Nat)(D:Dr)(e:Kb)(age c:Int)(h1:vs=[-p,-a,.int age,.int c])(h2:HL K C H p ta hk bd lg n D)(h3:Na H a e)(h4:qO D e age=true)(h5:∀q a' H',HJ H H'->H' q=↑(.tup [.str (zD D.near D.far e age c).1,-a'])->Na H' a' (zD D.near D.far e age c).2->Q (-q) H')
def Nb(H:Hp)(c:Δ)(nm:Str)(age:Int)(ds:Β):Prop:=∃a,H c=↑(.tup [.str nm,.int age,-a])/\H a=↑(.tup (ds.map V.int))
def QY(D:Dr)(age:Int):Β:=D.kss.getD age.toNat []
inductive kZ(vs:Ε)(H:Hp)(Q:VK)(_:XK):Prop
 |mk (p ta hk bd lg pr:Δ)(n:Nat)(D:Dr)(nm:Str)(age:Int)(ds:Β)(h1:vs=[-p,-pr])(h2:HL K C H p ta hk bd lg n D)(h3:Nw D)(h4:Nb H pr nm age ds)(h5:ZL nm)(h6:ds.length=5)(h7:zH ds)(h8:∀q H',Mv [bd] H H'->H' q=↑(.tup (zu D nm age (ZN D.t (QY D age) nm ds)).1)->HL K C H' p ta hk bd lg n {D with kn:=(zu D nm age (ZN D.t (QY D age) nm ds)).2}->Q (-q) H')
end
theorem Nb.mv(m:Mv S H H')(n:NT S H)(h:Nb H a nm age ds):Nb H' a nm age ds:=by
 let#[c,e,d]:=h
 exact#[c,m.tup n e,m.tup n d]
theorem Nb.same(s:HJ H H')(h:Nb H a nm age ds):Nb H' a nm age ds:=by
 let#[c,e,d]:=h
 exact#[c,s _ _ e,s _ _ d]
theorem kj:zx X (Py .LtE) (λx y H Q=>∃i j,x= .str i/\y= .str j/\Q (.bl (! decide (j.cps.toList<i.cps.toList))) H):=by
 intro R0 s σ H x y v u Q I c a h;let#[i,j,rfl,rfl,q]:=h;let#[t,rfl]:=c;let#[d,rfl]:=a;exact PySem.P.le_str (qW I q Z)
theorem Ao{te:TE}{H:Hp}{Q:VK}{x:Str}(hn:x.cps.size<=ζ)(Pv:Nat->Ε->Hp->Prop)(a:Pv 0 [] H)
  (hs:∀i ys H c,x.cps[i]? =↑c->ys.length=i->Pv i ys H->te (↑(.str #[(AA [c])])::zY js σ) H λv f=>Pv (i+1) (ys++[v]) f)
  (hd:∀ys H,ys.length=x.cps.size->Pv x.cps.size ys H->∀p,H p=none->Q (-p) (HM H p (.lst ys))):i5 (BY x) js te σ H Q:=
 eN hn (λi v=>∃c,x.cps[i]? =↑c/\v= .str #[(AA [c])]) Pv a (λi ys H hi p=>hi) (λys H p=>Jf _) (λi ys H v H' _ p y=>y) (λi ys H v hi d p e=>by
  let#[c,g,rfl]:=e;exact hs i ys H c g d p) hd
theorem Bg(h:zH ds):(ds.map V.int).all eM=true:=by
 rw[IV];intro x a;let#[i,hi,rfl]:=JC.mp a
 have:=h i hi
 show(decide (0<=i)&&decide (i<16))=true
 rw[Jj this.1,Jj this.2];rfl
theorem Qp{c:Bool}{a b:Prop}(h:c=true)(x:a):if c=true then a else b:=by rw[Jc h];exact x
theorem QF{c:Bool}{a b:Prop}(h:c=false)(x:b):if c=true then a else b:=by rw[Jb (by rw[h];intro z;cases z)];exact x
theorem zy{K:ι}{H:Hp}{fs:List (Str×V)}(c:OK K C)(e:H p=↑(.ins C dx fs))(n:MT K C f)(i:Nat)(a:fs.map (·.1)=dN.take i:=by rfl)(hn:f∉dN.take i:=by decide +kernel):
  oO K H p f v (HM H p (.ins C dx (fs++[(f,v)]))):=#[C,dx,fs,e,c,n,by
  have h1:fs.length=(dN.take i).length:=by rw[<- a,Je]
  have d:(dN.take i).length<=8:=by rw[G5];exact OF _ _
  lia,by rw[mY (by rw[a];exact hn)]]
theorem MP.upd{K:ι}{b:Δ}{H:Hp}{fs:List (Str×V)}(e:H p=↑(.ins C dx fs))(h:MP K H b kss):MP K (HM H p o) b kss:=by
 let#[c,a,l,r]:=id h;exact h.mv Mv.upd1 (NT.one e trivial) (qQ (zO a e (by intro z;cases z)))
theorem MP.same{K:ι}{b:Δ}(s:HJ H H')(h:MP K H b kss):MP K H' b kss:=h.mv (S:=[]) s.mv (λc h=>nomatch h) (λh=>nomatch h)
theorem Mv.nfree{x:Δ}(m:Mv S H H')(hn:x∉S)(h:H' x=none):H x=none:=by
 cases e:H x with
 |none=>rfl
 |some o=>rw[m x o hn e]at h;cases h
theorem MP.at{K:ι}{D:Dr}{age:Int}(h:MP K H hk D.kss)(f:0<=age)(h1:age<D.kss.length):∃(xs:Ε) (d:Δ),H hk=↑(.lst xs)/\QJ xs age=↑(-d)/\HX K H d ((QY D age).map V.int):=by
 let#[c,e,l,r]:=h;let#[i,rfl]:∃i:Nat,age=(i:Int):=#[age.toNat,by lia]
 have hi:i<D.kss.length:=by lia
 have a:i<c.length:=by lia
 exists _,c[i],e,Qs (by rw[Jo,Jh a];rfl)
 have:=r i c[i] D.kss[i] (Jh a) (Jh hi)
 unfold QY;rw[Iw,JG,Jh hi];exact this
theorem ZG(h:qO D e age=true)(a:0<=D.least):0<=age/\age<D.kss.length:=by
 unfold qO Q2 at h;rw[JF,JF]at h;have h1:=Jz h.1.1;have c:=Jz h.1.2;lia
theorem HL.putK{K:ι}(b:HL K C H p ta hk bd lg n D)(m:Mv [bd] H H')(g:NC H' bd a):HL K C H' p ta hk bd lg n {D with kn:=a}:=by
 let#[dx,e]:=b.ob;let#[f,c,_]:=b.kb;let#[rs,d,l]:=b.lo;let#[i,h,_]:=id b.ks;have nt:NT [bd] H:=NT.one c trivial
 exact#[#[dx,m _ _ (qQ (zO e c (by intro z;cases z))) e],m.sqt nt b.tb,b.ks.mv m nt (qQ (zO h c (by intro z;cases z))),g,#[rs,m _ _ (qQ (zO d c (by intro z;cases z))) d,l],b.ne]
theorem HL.putL{K:ι}{rs:Η}(b:HL K C H p ta hk bd lg n D)(a:H lg=↑(.lst (rs.map V.ref)))(hl:rs.length<=n):HL K C (HM H lg (.lst (rs.map V.ref++[-r]))) p ta hk bd lg (n+1) D:=by
 let#[dx,e]:=b.ob;let#[f,c,_]:=id b.kb;have nt:NT [lg] H:=NT.one a trivial
 have m:Mv [lg] H (HM H lg (.lst (rs.map V.ref++[-r]))):=Mv.upd1
 exact#[#[dx,m _ _ (qQ (zO e a (by intro z;cases z))) e],m.sqt nt b.tb,b.ks.mv m nt (qQ b.ne.symm),b.kb.mv m nt (qQ (zO c a (by intro z;cases z))),#[rs++[r],by rw[qb,JI];rfl,by rw[Jy];exact OH hl],b.ne]
theorem OI.pair{H:Hp}{b:Δ}(h1:H a=↑(.tup [.str z,.int i]))(h2:H b=↑(.tup [.str z,.int i])):OI H 1 (-a) (-b):=
 .tup (n:=0) (.inl h1) (.inl h2) Z λj x y ex c=>by
  match j,ex,c with
  |0,ex,c=>cases ex;cases c;exact .str _ _
  |1,ex,c=>cases ex;cases c;exact .int _ _
  |j+2,ex,c=>cases ex
abbrev wT(a b:Str):Prop:=a.cps.toList<=b.cps.toList
theorem EL{a b:Str}(h:ltCps b.cps.toList a.cps.toList=false):wT a b:=by
 rw[ltCps_eq]at h;exact List.not_lt.mp (of_decide_eq_false h)
theorem kJ:∀{l:Α} {p:Str},risingS p l=true->(p::l).Pairwise wT
 | [],p,_=>by simp
 |x::r,p,h=>by
  have h':(! ltCps x.cps.toList p.cps.toList&&risingS x r)=true:=h
  rw[JF,MD]at h';have d:=kJ h'.2;have a:=EL h'.1;refine KN.mpr #[λy c=>?_,d]
  rcases Jg.mp c with rfl|c
  .exact a
  .exact List.le_trans a ((KN.mp d).1 y c)
theorem aJ{l:Α}(h:sortedS l=true):l.Pairwise wT:=by
 cases l with
 |nil=>exact .nil
 |cons x r=>exact kJ h
theorem hU{a b:Α}(pa:a.Perm l)(f:sortedS a=true)(g:b.Perm l)(c:sortedS b=true):a=b:=by
 refine List.Perm.eq_of_pairwise (le:=wT) (λx y _ _ h1 d=>?_) (aJ f) (aJ c) (pa.trans g.symm)
 have e:x.cps.toList=y.cps.toList:=Ou h1 d
 cases x with
 |mk u=>cases y with
  |mk v=>
   have:u=v:=Array.toList_inj.mp e
   rw[this]
def GF(H:Hp)(q:Δ)(d:Α)(kn:Kw):Prop:=∃c:Η,H q=↑(.tup (c.map V.ref))/\c.length=d.length/\∀(i:Nat) (a:Δ) (nm:Str) (e:Kb),c[i]? =↑a->d[i]? =↑nm->kn.lookup nm=↑e->∃v,H a=↑(.tup [.str nm,.int e.age,.int e.last,v])/\Wt H v e.wt
inductive pE(K:ι)(C:Δ)(vs:Ε)(H:Hp)(Q:VK)(_:XK):Prop
 |mk (p ta hk bd lg:Δ)(n:Nat)(D:Dr)(h1:vs=[-p])(h2:HL K C H p ta hk bd lg n D)(h3:Nw D)(h4:∀q ss H',HJ H H'->ss.Perm (D.kn.map (·.1))->sortedS ss=true->GF H' q ss D.kn->Q (-q) H')
theorem DF{X:Cx}{K:ι}{f:Str}(a:X.K=K)(he:QE X e ta)(hb:attributeBase e f X.env (eval e X.env)=eval e X.env:=by rfl):QE X (.Attribute e f pos) (BW K ta f):=by
 subst a;exact qU he hb
theorem Dz(kn:Kw)(f:Str->Δ):(bI kn f).map (·.1)=(kn.map (·.1)).map Pt:=by
 unfold bI;rw[Ir,Ir];rfl
theorem az{kn:Kw}{nm:Str}(h:nm∈kn.map (·.1)):∃e,kn.lookup nm=↑e:=L5.mp (HZ.mpr h)
theorem nZ:∀(more kvs:List (qJ×V)),((kvs++more).map (·.1)).Nodup->ZP kvs more=kvs++more
 | [],kvs,_=>by simp [ZP]
 |p::r,kvs,nd=>by
  have a:p.1∉kvs.map (·.1):=λz=>by
   rw[JI,JS]at nd
   exact(Lj.mp nd).2.2 _ z _ (Jr ..) Z
  show ZP (MX kvs p.1 p.2) r=_
  rw[C7 a,nZ r (kvs++[(p.1,p.2)]) (by rw[IU];exact nd),IU]
  rfl
theorem pA{e:Str×Kb}(h:e∈zr kn nm x):e∈kn\/e=(nm,x):=by
 unfold zr at h;split at h
 .let#[p,a,rfl]:=JC.mp h
  by_cases y:p.1=nm
  .rw[Jc y];exact .inr Z
  .rw[Jb y];exact .inl a
 .rcases JP.mp h with h|h
  .exact .inl h
  .exact .inr (Ji.mp h)
theorem nV{kn:Kw}{nm:Str}{e:Kb}:∀{l:Kw},(∀p∈l,p.1=nm->p=(nm,e))->l.map (λp=>if p.1=nm then(nm,e)else p)=l
 | [],_=>rfl
 |p::r,h=>by
  rw[JS,nV (kn:=kn) λq a=>h q (Jv _ a)]
  by_cases y:p.1=nm
  .rw[Jc y,h p (Jr ..) y]
  .rw[Jb y]
theorem kP{kn:Kw}{e:Kb}(a:(kn.map (·.1)).Nodup)(h:kn.lookup nm=↑e):zr kn nm e=kn:=by
 unfold zr;rw[Jc (HZ.mp (by rw[h];rfl))]
 exact nV (kn:=kn) (Zo a h)
theorem uK{kn:Kw}{e:Kb}(h:kn.lookup nm=↑e):(zr kn nm x).map (·.1)=kn.map (·.1):=by
 rw[bP,Jc (HZ.mp (by rw[h];rfl))]
theorem CK{X:Cx}:∀u e,([]:List (Str×Δ)).lookup u=↑e->X.env.cells.lookup u=↑e:=λu e h=>by cases h
theorem iu{X:Cx}{c:Δ}{l:List (Str×Δ)}(h:X.env.cells.lookup y=↑c)(r:∀u e,l.lookup u=↑e->X.env.cells.lookup u=↑e):∀u e,((y,c)::l).lookup u=↑e->X.env.cells.lookup u=↑e:=λu e a=>by
 by_cases d:u=y
 .subst d
  simp at a
  rw[<- a];exact h
 .rw[Iv,show(u==y)=false from by simpa using d]at a
  exact r u e a
end L3
namespace L2
open PySem PySem.Spec PyProof.Rows
section
theorem y9{Q:HG}(I:HN X R0 σ H s)(e:Rd H a (.dK kvs))(h:∀p s',H p=none->HN X R0 σ (HM H p (.dK kvs)) s'->Q (-p) s'):ε (model X.prog X.w) A (call (.type "dict") [-a]) Q E s:=by
 let#[z,j,vs,c,g]:=aI I.hok e;refine kt_call_dict j g (by rw[<- c.length];exact z) λh' d i=>?_
 refine h _ _ (I.hok.fresh (Jf _)) (I.laid (a:=s.heap.objs.size) (o:= .dK kvs) (t':=s.toks) (λb q f=>?_) (Jf _) (iN z (IS.mpr (Ne.symm (Jm I.big))) c d))
 exact(i.2 b (Jm (Jl f))).trans (Jk _ f)
end
end L2
namespace L3
open PySem PySem.Spec PyProof.Rows L2
theorem i0:zj X (.type "dict") (λxs H Q=>∃(d:Δ) (kvs:List (qJ×V)),xs=[-d]/\H d=↑(.dK kvs)/\∀p,H p=none->Q (-p) (HM H p (.dK kvs))):=by
 intro R0 s σ H xs g Q I r h;let#[d,kvs,rfl,f,q]:=h;let#[u,rfl,c]:=zT r;cases c;exact y9 I (.inl f) λp s' a e=>#[-p,_,e,Z,q p a]
theorem HL.setF{K:ι}{H:Hp}{fs:List (Str×V)}{u:V}(i:Nat)(c:OK K C)(a:MT K C f)(e:H p=↑(.ins C dx fs))(hf:fs[i]? =↑(f,u))(d:(fs.map (·.1)).Nodup)(hl:fs.length<1000):
  oO K H p f v (HM H p (.ins C dx (fs.set i (f,v)))):=#[C,dx,fs,e,c,a,hl,by rw[r9 i hf d]]
section
variable{K:ι}
theorem xg(U:ND K C)(e:H p=↑(.ins C dx (dF D ta hk bd lg)))(z:Int):oO K H p "least_age" (.int z) (HM H p (.ins C dx (dF {D with least:=z} ta hk bd lg))):=HL.setF 5 U.cl U.n_least_age e Z (Cl ..) (by show 8<1000;decide)
end
theorem mR{kn:Kw}(f:(kn.map (·.1)).Nodup):(zr kn nm x).lookup nm=↑x:=by
 have c:(nm,x)∈zr kn nm x:=by
  unfold zr;split
  .rename_i h
   let#[p,d,e]:=JC.mp h;exact JC.mpr #[p,d,Jc e]
  .exact JQ _ (Ji.mpr Z)
 let#[y,a]:=az (JC.mpr #[_,c,Z])
 have:=Zo (j0 f nm x) a _ c Z
 cases this;exact a
end L3
namespace L2
open PySem PySem.Spec PyProof.Rows
section
variable{td:TE}
theorem BI(ho:PE X o td)(he:PE X e ty)(m:M1 X o "pop" apos e cpos):PE X (.Call (.Attribute o "pop" apos) [e] [] cpos) (yX td ty):=by
 intro R0 s σ H Q I h;refine wpAny_Call_method m.base m.few m.line PySem.F.plainAttrs_dict PySem.F.slot_dict_pop PySem.F.type_dict_pop (qz (ho R0 s σ H _ I h) λu B j=>?_)
 let#[x,H1,f,g,a,ex,d,A]:=j;subst ex
 obtain rfl:u=Γ.ref a:=g
 let#[n,q,_]:=wS f d;exists n,q
 rw[m.trees];refine Mw Z (Mz (So (qz (he R0 B σ H1 _ f A) λF C ⟨y,D,w,p,kvs,k,v,z,t,l,i⟩=>Sw ?_)))
 subst t;exact FM w z p l (.inl Z) λG E r c=>#[v,_,r,c,i]
end
end L2
namespace L3
open PySem PySem.Spec PyProof.Rows L2
section
variable{td:TE}
theorem nv(ho:QE X o td)(he:QE X e ty)(m:M1 X o "pop" apos e cpos:=by exact#[67]):QE X (.Call (.Attribute o "pop" apos) [e] [] cpos) (yX td ty):=#[BI ho.h he.h m]
end
theorem NC.drop(h:NC H d kn)(nm:Str):∃kvs,H d=↑(.dK kvs)/\NC (HM H d (.dK (aH kvs (Pt nm:qJ)))) d (kn.filter λp=>decide (p.1≠nm)):=by
 let#[#[c,f],a,hk,pm,i]:=h;have nt:NT [d] H:=NT.one a trivial
 exists _,a,(c.filter λp=>decide (p.1≠nm),f),?_,λe g=>?_,pm.filter _
 .rw[qb]
  congr 2
  unfold aH bI;rw[List.filter_map];congr 1
  refine List.filter_congr λp _=>?_
  simp only[Function.comp];rw[decide_eq_decide]
  exact#[λz w=>z (by rw[w]),λz w=>z (by injection w)]
 .exact(hk e (LL.mp g).1).mv Mv.upd1 nt
 .exact(KQ.map _).nodup i
theorem vP{K:ι}{H:Hp}{as:Η}{kss:List Β}{ks:Β}(e:H hk=↑(.lst (as.map V.ref)))(l:as.length=kss.length)(r:∀(i:Nat) (a:Δ) (ks:Β),as[i]? =↑a->kss[i]? =↑ks->HX K H a (ks.map V.int))(f:HX K H t (ks.map V.int)):MP K (HM H hk (.lst (as.map V.ref++[-t]))) hk (kss++[ks]):=by
 have nt:NT [hk] H:=NT.one e trivial
 refine#[as++[t],by rw[qb,JI];rfl,by rw[Jy,Jy,l];rfl,λi a q c d=>?_]
 rw[Mn]at c d;rw[l]at c
 by_cases hi:i<kss.length
 .rw[Jc hi]at c d
  exact Mv.upd1.sqt nt (r i a q c d)
 .rw[Jb hi]at c d
  cases hz:i-kss.length with
  |zero=>
   rw[hz]at c d;cases c;cases d;exact Mv.upd1.sqt nt f
  |succ k=>rw[hz]at c;cases c
theorem HL.putH{K:ι}(b:HL K C H p ta hk bd lg n D)(m:Mv [hk] H H')(ks:MP K H' hk kss'):HL K C H' p ta hk bd lg n {D with kss:=kss'}:=by
 let#[dx,e]:=b.ob;let#[f,d,_]:=id b.kb;let#[rs,c,l]:=b.lo;let#[g,a,_]:=id b.ks;have nt:NT [hk] H:=NT.one a trivial
 exact#[#[dx,m _ _ (qQ (zO e a (by intro z;cases z))) e],m.sqt nt b.tb,ks,b.kb.mv m nt (qQ (zO d a (by intro z;cases z))),#[rs,m _ _ (qQ b.ne) c,l],b.ne]
theorem HL.putLeast{K:ι}(b:HL K C H p ta hk bd lg n D)(U:ND K C)(z:Int):∃dx,oO K H p "least_age" (.int z) (HM H p (.ins C dx (dF {D with least:=z} ta hk bd lg)))/\Mv [p] H (HM H p (.ins C dx (dF {D with least:=z} ta hk bd lg)))/\HL K C (HM H p (.ins C dx (dF {D with least:=z} ta hk bd lg))) p ta hk bd lg n {D with least:=z}:=by
 let#[dx,e]:=b.ob;let#[f,d,_]:=id b.kb;let#[rs,a,l]:=b.lo;let#[g,c,_]:=id b.ks;have nt:NT [p] H:=NT.one e trivial
 have m:Mv [p] H (HM H p (.ins C dx (dF {D with least:=z} ta hk bd lg))):=Mv.upd1
 exact#[dx,xg U e z,m,#[dx,qb],m.sqt nt b.tb,b.ks.mv m nt (qQ (zO c e (by intro z;cases z))),b.kb.mv m nt (qQ (zO d e (by intro z;cases z))),#[rs,m _ _ (qQ (zO a e (by intro z;cases z))) a,l],b.ne]
noncomputable def qR(D:Dr)(e:Kb)(age c:Int):Str×Kb:=if qO D e age=true then zD D.near D.far e age c else("age",e)
inductive iy(K:ι)(C:Δ)(vs:Ε)(H:Hp)(Q:VK)(_:XK):Prop
 |mk (p ta hk bd lg a:Δ)(n:Nat)(D:Dr)(e:Kb)(age c:Int)(h1:vs=[-p,-a,.int age,.int c])(h2:HL K C H p ta hk bd lg n D)(h3:Na H a e)(h4:∀q a' H',HJ H H'->H' q=↑(.tup [.str (qR D e age c).1,-a'])->Na H' a' (qR D e age c).2->Q (-q) H')
inductive P0 (K:ι)(H:Hp):Nat->V->V->Prop where
 |int (n:Nat)(i:Int):P0 K H n (.int i) (.int i)
 |str (n:Nat)(x:Str):P0 K H n (.str x) (.str x)
 |non (n:Nat):P0 K H n .non .non
 | tup {n:Nat} {a b:Δ} {xs ys:Ε} (h1:HX K H a xs) (h2:HX K H b ys) (hl:xs.length=ys.length)
   (hi:∀(i:Nat) (x y:V),xs[i]? =↑x->ys[i]? =↑y->P0 K H n x y):P0 K H (n+1) (-a) (-b)
section
open SeqAt
theorem Fg(I:L2.HN X R0 σ H s)(h:P0 X.K H n x y):∀{v u:Γ} {A:Rj},HV x v->HV y u->A.units+n<cLine->EqAt A s v u true:=by
 induction h with
 |int n i=>rintro v u A ⟨t,rfl⟩ ⟨l,rfl⟩ _;have:=EqAt.int_int (A:=A) (s:=s) i t i l;rwa [Iq]at this
 |str n z=>rintro v u A ⟨t,rfl⟩ ⟨l,rfl⟩ _;have:=TL (A:=A) (s:=s) z t z l;rwa [Iq]at this
 |non n=>
  intro v u A g m _
  cases(show v=Γ.none from g)
  cases(show u=Γ.none from m)
  exact Sn _
 | @tup n a b xs ys h1 h2 hl _ ih=>
  intro v u A g m F
  cases(show v=Γ.ref a from g)
  cases(show u=Γ.ref b from m)
  by_cases f:a=b
  .rw[f];exact Sn _
  .let#[d,p,q,_]:=I.tuple h1
   let#[c,o,p2,_]:=I.tuple h2;have G:=p.length;have E:=o.length;have e:=Sx (A:=A) (e:=λ_=>true) (show s.heap.IsTuple a d.toArray from q) (show s.heap.IsTuple b c.toArray from p2) (by lia) (λj D B=>by
    let#[x,ex,w]:=zK p (j:=j) (by simpa using D)
    let#[y,C,r]:=zK o (j:=j) (by simpa using B)
    exact ih j x y ex C w r (by rw[Lu];lia))
   rw[cy,show(d.toArray.size==c.toArray.size)=true by simp;lia]at e
   exact TM f e
theorem Fq(I:L2.HN X R0 σ H s){A:Rj}(h:P0 X.K H n x y)(m:HV x v)(o:HV y u)(hu:A.units+n<cLine):RcAt A s v u true/\RcNeAt A s v u false:=by
 cases h with
 |int n i=>
  let#[t,rfl]:=m;let#[l,rfl]:=o;have g:=RcAt.int_int (A:=A) (s:=s) i t i l
  have f:=RcNeAt.int_int (A:=A) (s:=s) i t i l
  rw[Iq]at g f
  exact#[g,f]
 |str n z=>
  let#[t,rfl]:=m;let#[l,rfl]:=o;have g:=RcAt.str_str (A:=A) (s:=s) z t z l
  have f:=RcNeAt.str_str (A:=A) (s:=s) z t z l
  rw[Iq]at g f
  exact#[g,f]
 |non n=>
  cases(show v=Γ.none from m)
  cases(show u=Γ.none from o)
  exact#[RcAt.none_none,RcNeAt.none_none]
 | @tup n a b xs ys h1 h2 hl ih=>
  cases(show v=Γ.ref a from m)
  cases(show u=Γ.ref b from o)
  let#[d,B,p,_]:=I.tuple h1;let#[c,q,p2,_]:=I.tuple h2;have J:=B.length;have G:=q.length;have r:∀j (C:j<d.toArray.size) (w:j<c.toArray.size),EqAt A.in1 s d.toArray[j] c.toArray[j] ((λ_=>true) j):=λj C w=>by
   let#[x,ex,D]:=zK B (j:=j) (by simpa using C)
   let#[y,F,E]:=zK q (j:=j) (by simpa using w)
   exact Fg I (ih j x y ex F) D E (by rw[Lu];lia)
  have g:=Sx (A:=A) (e:=λ_=>true) (show s.heap.IsTuple a d.toArray from p) (show s.heap.IsTuple b c.toArray from p2) (by lia) r
  have f:=RcNeAt.tuples (A:=A) (e:=λ_=>true) (show s.heap.IsTuple a d.toArray from p) (show s.heap.IsTuple b c.toArray from p2) (by lia) r
  rw[cy,show(d.toArray.size==c.toArray.size)=true by simp;lia]at g f
  exact#[g,f]
inductive RN (K:ι)(b:Bool)(x:V)(y:V)(H:Hp)(Q:VK):Prop
 |mk (n:_)(h1:n<=32)(h2:P0 K H n x y)(h3:Q (.bl b) H)
def GE(K:ι)(b:Bool):R2:=λx y H Q=>RN K b x y H Q
theorem Ei{k:Nat}(hr:MK k X.A):zx X (Py .NotEq) (GE X.K false):=by
 intro R0 s σ H x y v u Q I a c h;let#[n,d,e,q]:=h
 exact(Fq I e a c (by have:=hr.un;lia)).2 _ _ _ _ #[.bl _,H,I,Z,q]
end
section
variable(K:ι)(C:Δ)
inductive sZ(vs:Ε)(H:Hp)(Q:VK)(_:XK):Prop
 |mk (p ta hk bd lg:Δ)(n:Nat)(D:Dr)(h1:vs=[-p])(h2:HL K C H p ta hk bd lg n D)(h3:∀t (as:Η) H',HJ H H'->HX K H' t (as.map V.ref)->as.length=D.kss.length->(∀(i:Nat)(a:Δ)(ks:Β),as[i]? =↑a->D.kss[i]? =↑ks->HX K H' a (ks.map V.int))->Q (-t) H')
inductive lq(vs:Ε)(H:Hp)(Q:VK)(_:XK):Prop
 |mk (p ta hk bd lg:Δ)(n:Nat)(D:Dr)(h1:vs=[-p])(h2:HL K C H p ta hk bd lg n D)(h3:Q (.int D.least) H)
inductive fZ(vs:Ε)(H:Hp)(Q:VK)(_:XK):Prop
 |mk (p ta hk bd lg:Δ)(n:Nat)(D:Dr)(h1:vs=[-p])(h2:HL K C H p ta hk bd lg n D)(h3:∀t H',HJ H H'->H' t=↑(.tup [.int D.near,.int D.far,.int D.most])->Q (-t) H')
end
structure Ac(K:ι)(mg:HH)(x:Str)(st:δ):Prop where
 ex:∃(f:Δ) (fd:FuncData),OL K x x st f fd/\mg x=↑(-f)
structure Od(K:ι)(C:Δ)(m R1:Str)(st:δ):Prop where
 ex:∃(f:Δ) (fd:FuncData),OL K m R1 st f fd/\PU K C m f
section
variable{K:ι}{mg:HH}{h:Ψ}{x m R1:Str}{st:δ}{C f:Δ}{oc:Γ}{od an:β}{osl:Array Ν}{kV doc pm cdv ct:Γ}{ps:Α}
theorem F4(X:K.In h)(G:h.Ns η mg)(a:Rm K η x=↑(↑(-f)))(l:K.lookup f=some #[oc,od,.func (TB x x (QX st) (zR st) (qi st) .none kV doc pm an cdv ct),osl])(c:W.codeIn K cdv x=true)(k:TK K (-f)=true):Ac K mg x st:=#[f,_,pK l c k,IR X G a]
theorem D7(a:SA K (-C) m=↑(↑(-f)))(i:W.isFn K (-f)=true)(l:K.lookup f=some #[oc,od,.func (TB m R1 (QX st) (zR st) (qi st) .none kV doc pm an cdv ct),osl])(c:W.codeIn K cdv R1=true)(k:TK K (-f)=true):Od K C m R1 st:=#[f,_,pK l c k,a,i,k]
theorem GW{p:Ζ->Prop}(h:p []):∀a:Ζ,a.length=0->p a:=by
 intro a c;rw[KS c];exact h
theorem tz{n:Nat}{p:Ζ->Prop}(h:∀a c,c.length=n->p (a::c)):∀c:Ζ,c.length=n+1->p c:=by
 intro c d;cases c with
 |nil=>cases d
 |cons a r=>exact h a r (Nat.succ.inj d)
theorem Q5{p:Ζ->Prop}(h:∀a0,p [a0]):∀c:Ζ,c.length=1->p c:=tz λa=>GW (p:=λr=>p (a::r)) (h a)
theorem Q1{p:Ζ->Prop}(h:∀a0 d,p [a0,d]):∀c:Ζ,c.length=2->p c:=tz λa=>Q5 (p:=λr=>p (a::r)) (h a)
theorem eZ{p:Ζ->Prop}(h:∀a0 d e,p [a0,d,e]):∀c:Ζ,c.length=3->p c:=tz λa=>Q1 (p:=λr=>p (a::r)) (h a)
theorem kH{p:Ζ->Prop}(h:∀a0 e f d,p [a0,e,f,d]):∀c:Ζ,c.length=4->p c:=tz λa=>eZ (p:=λr=>p (a::r)) (h a)
theorem Gh{p:Ζ->Prop}(h:∀a0 g f d e,p [a0,g,f,d,e]):∀c:Ζ,c.length=5->p c:=tz λa=>kH (p:=λr=>p (a::r)) (h a)
theorem Go{p:Ζ->Prop}(h:∀a0 i f d e g,p [a0,i,f,d,e,g]):∀c:Ζ,c.length=6->p c:=tz λa=>Gh (p:=λr=>p (a::r)) (h a)
theorem Ac.at(a:Ac K mg x st)(b:∀(kV doc pm:Γ) (an:β) (cdv ct:Γ) (us:Ζ),us.length=ps.length->bindArgs (TB x x (QX st) (zR st) (qi st) .none kV doc pm an cdv ct) #[us,[]]=pure (ps.zip us):=by intro _ _ _ _ _ _;first|exact Q5 λ_=>rfl|exact Q1 λ_ _=>rfl|exact eZ λ_ _ _=>rfl|exact kH λ_ _ _ _=>rfl|exact Gh λ_ _ _ _ _=>rfl|exact Go λ_ _ _ _ _ _=>rfl):At K mg x st ps:=by
 let#[_,_,F,m]:=a.ex;exact Ga F m (F.binds b)
theorem Od.at(a:Od K C m R1 st)(b:∀(kV doc pm:Γ) (an:β) (cdv ct:Γ) (us:Ζ),us.length=ps.length->bindArgs (TB m R1 (QX st) (zR st) (qi st) .none kV doc pm an cdv ct) #[us,[]]=pure (ps.zip us):=by intro _ _ _ _ _ _;first|exact Q5 λ_=>rfl|exact Q1 λ_ _=>rfl|exact eZ λ_ _ _=>rfl|exact kH λ_ _ _ _=>rfl|exact Gh λ_ _ _ _ _=>rfl|exact Go λ_ _ _ _ _ _=>rfl):Ob K C m R1 st ps:=by
 let#[_,_,F,m]:=a.ex
 exact#[15,F,m,F.binds b]
end
structure Ps where
 nm:Str
 age:Int
 ds:Β
def cS(H:Hp)(p:Δ)(P:Ps):Prop:=Nb H p P.nm P.age P.ds
structure Oy(P:Ps):Prop where
 nm:ZL P.nm
 l:P.ds.length=5
 dg:zH P.ds
noncomputable def fP(D:Dr)(P:Ps):Option (Int×Int):=if Q2 D P.age=true then ZN D.t (QY D P.age) P.nm P.ds else none
noncomputable def ww(D:Dr)(P R:Ps):Str×Int×Kw:=match fP D P with
 |none=>("press",0,D.kn)
 |some (c,_)=>match fP D R with
  |none=>("press",1,D.kn)
  |some (c',_)=>if R.nm=P.nm/\R.age=P.age/\c'=c+1 then(match D.kn.lookup P.nm with
    |some _=>("known",0,D.kn)
    |none=>if(D.kn.length:Int)<D.most then("",0,zr D.kn P.nm #[P.age,c',none])else("full",0,D.kn))
   else("press",1,D.kn)
def nD(c:Nat):Bool:=decide (97<=c)&&decide (c<=122)
def EY(z:Str):Bool:=z.cps.toList.all nD
def BQ(z:Str):Bool:=decide (1<=z.length)&&decide (z.length<=8)&&EY z
theorem P3:BQ z=true↔ZL z:=by
 unfold BQ EY ZL;rw[JF,JF,LS,LS,IV];have f:z.length=z.cps.toList.length:=Z
 rw[f];constructor
 .rintro⟨⟨h1,e⟩,a⟩
  refine#[λc d=>?_,h1,e]
  have:=a c d
  unfold nD at this;rw[JF,LS,LS]at this;exact this
 .rintro⟨a,h1,e⟩
  refine#[#[h1,e],λc d=>?_]
  unfold nD;rw[Jj (a c d).1,Jj (a c d).2];rfl
theorem jc{a b:Nat}:([a]:Κ)<[b]↔a<b:=by
 rw[List.cons_lt_cons_iff];constructor
 .rintro(h|⟨_,h⟩)
  .exact h
  .exact absurd h (List.not_lt_nil _)
 .exact .inl
theorem uR(c:Nat):(! decide ((#[(AA [c])]:Str).cps.toList<("a":Str).cps.toList))=decide (97<=c)/\(! decide (("z":Str).cps.toList<(#[(AA [c])]:Str).cps.toList))=decide (c<=122):=by
 have d:("a":Str).cps.toList=[97]:=by decide +kernel
 have a:("z":Str).cps.toList=[122]:=by decide +kernel
 rw[d,a]
 show(! decide ([c]<[97]))=_/\(! decide ([122]<[c]))=_
 constructor
 .by_cases h:97<=c
  .rw[Jj h,Jn (by rw[jc];lia)];rfl
  .rw[Jn h,Jj (by rw[jc];lia)];rfl
 .by_cases h:c<=122
  .rw[Jj h,Jn (by rw[jc];lia)];rfl
  .rw[Jn h,Jj (by rw[jc];lia)];rfl
theorem mO{t:String}(h:kd H x=↑t):PQ H x t:=by
 cases x with
 |non=>cases h;exact .non
 |bl b=>cases h;exact .bl b
 |int i=>cases h;exact .int i
 |str x=>cases h;exact .str x
 |byt b=>cases h
 |flt b=>cases h
 |ty b=>cases h
 |ref a=>
  rcases je h with⟨xs,e,rfl⟩|⟨xs,e,rfl⟩
  .exact .lst e
  .exact .tup (.inl e)
def Gj(H:Hp)(x:V)(b:Bool):Prop:=(∃z,x= .str z/\z.cps.all (· <128)=true/\z.length<=100/\b=BQ z)\/(∃t,kd H x=↑t/\zz t "str"=false/\b=false)
def RO(H:Hp)(x:V)(b:Bool):Prop:=(∃(p:Δ) (ds:Ε),x= .ref p/\H p=↑(.tup ds)/\ds.length<=100/\(∀v∈ds,∃t,kd H v=↑t)/\b=(decide (ds.length=5)&&ds.all eM))\/(∃t,kd H x=↑t/\zz t "tuple"=false/\b=false)
inductive Ro (H:Hp)(x:V):Bool->Prop where
 |kd {t:String} (h:kd H x=↑t) (n:zz t "tuple"=false):Ro H x false
 |len {a:Δ} {xs:Ε} (e:x= .ref a) (h:H a=↑(.tup xs)) (l:xs.length<=100) (n:xs.length≠3):Ro H x false
 |tup {a:Δ} {n y c:V} {bn bc:Bool} {ty:String} (e:x= .ref a) (h:H a=↑(.tup [n,y,c])) (hn:Gj H n bn) (hy:L3.kd H y=↑ty) (hc:RO H c bc):Ro H x (bn&&ip y&&bc)
theorem RO.same{b:Bool}(s:HJ H H')(h:RO H x b):RO H' x b:=h.elim (λ⟨p,ds,e,h1,a,c,d⟩=> .inl ⟨p,ds,e,s _ _ h1,a,(λv f=>let⟨t,ht⟩:=c v f;⟨t,gD s ht⟩),d⟩) (λ⟨t,h1,a⟩=> .inr ⟨t,gD s h1,a⟩)
def Tg(H:Hp)(x:V)(o:Option Ps):Prop:=match o with
 |none=>Ro H x false
 |some P=>∃a,x= .ref a/\cS H a P/\Oy P
theorem Tg.b(h:Tg H x o):Ro H x o.isSome:=by
 cases o with
 |none=>exact h
 |some P=>
  let#[f,e,#[a,h1,c],ok]:=h;have t:=Ro.tup (bn:=true) (bc:=true) e h1 (.inl #[P.nm,Z,nO ok.nm,by have:=ok.nm.2.2;show P.nm.cps.toList.length<=100;lia,(P3.mpr ok.nm).symm]) (ty:="int") Z (.inl #[a,0,c,by rw[Je,ok.l];decide,(λv d=>by let#[i,_,rfl]:=JC.mp d;exact#[0]),by rw[Je,ok.l,Bg ok.dg];rfl])
  exact t
inductive lh(vs:Ε)(H:Hp)(Q:VK)(_:XK):Prop
 |mk (x:_)(b:_)(h1:vs=[x])(h2:Gj H x b)(h3:∀H',HJ H H'->Q (.bl b) H')
inductive kK(vs:Ε)(H:Hp)(Q:VK)(_:XK):Prop
 |mk (x:_)(b:_)(h1:vs=[x])(h2:RO H x b)(h3:∀H',HJ H H'->Q (.bl b) H')
inductive eB(vs:Ε)(H:Hp)(Q:VK)(_:XK):Prop
 |mk (x:_)(b:_)(h1:vs=[x])(h2:Ro H x b)(h3:∀H',HJ H H'->Q (.bl b) H')
section
variable(K:ι)(C:Δ)
inductive lC(vs:Ε)(H:Hp)(Q:VK)(_:XK):Prop
 |mk (p ta hk bd lg:Δ)(n:Nat)(D:Dr)(x:V)(o:Option Ps)(h1:vs=[-p,x])(h2:HL K C H p ta hk bd lg n D)(h3:Nw D)(h4:Tg H x o)(h5:∀y H',HJ H H'->fS H' y (o.bind (fP D))->Q y H')
end
theorem Mf.weak{K:ι}{k:Nat}{d:Sp}(M:Mf P w K mg base C m ps k sp)(h:∀vs H Q E,d vs H Q E->sp vs H Q E):Mf P w K mg base C m ps k d:=by
 let#[f,fd,F,i,e]:=M.ex
 exact#[f,fd,#[λvs H Q E q=>F.len vs H Q E (h vs H Q E q),λA a s H c o vs Q E l g e j n=>F.run A a s H c o vs Q E l g e j (h _ _ _ _ n)],i,e]
end L3
namespace L3
open PySem PySem.Spec PyProof.Rows L2
open Sem (wp)
section
noncomputable def Av(a c:Δ):It:=
  #[λi H=>∃xs ys x y,Rd H a (.lst xs)/\Rd H c (.lst ys)/\xs[i]? =↑x/\ys[i]? =↑y,
   λi H v H'=>∃p x y,H p=none/\v= .ref p/\(∀xs,Rd H a (.lst xs)->xs[i]? =↑x)/\(∀ys,Rd H c (.lst ys)->ys[i]? =↑y)/\H'=HM H p (.tup [x,y]),
   λi H=>∃xs,Rd H a (.lst xs)/\xs.length=i]
theorem wF{K:ι}{x1}(G Q z TI TO i1 i2:Δ)(d1:TI≠z)(d2:TO≠z)(d3:i1≠z)(d4:i2≠z)(d5:TI≠TO)(d6:TI≠i1)(d7:TI≠i2)(d8:TO≠i1)(d9:TO≠i2)(m:i1≠i2):
  N5 P w K (.Tuple W x1 pos) (Av G Q) [z,TI,TO,i1,i2] z (λi h=>IsZip h z TI TO .none/\IsPair h TI (-i1) (-i2)/\(∃a b,IsPair h TO a b)/\h.IsListIter i1 G i/\h.IsListIter i2 Q i) where
 mem:=by simp
 obj:=λi h st b f=>by
  let#[F,j,#[a,b',l],#[o1,b2,_,b6],#[o2,b3,_,b4]]:=st;simp only[Jg,Jt,Ju]at f;rcases f with rfl|rfl|rfl|rfl|rfl
  .exact#[_,F,λv y=>by have y':Sf _=SJ v:=y;cases y']
  .exact#[_,j,λv y=>by have y':Data.seq _ _=SJ v:=y;cases y']
  .exact#[_,l,λv y=>by have y':Data.seq _ _=SJ v:=y;cases y']
  .exact#[_,b2,λv y=>by rw[b6]at y;cases y]
  .exact#[_,b3,λv y=>by rw[b4]at y;cases y]
 keep:=λi h h' st k=>by
  let#[F,j,#[a,b',l],h1,U]:=st
  exact#[k z (by simp) _ F,k TI (by simp) _ j,#[a,b',k TO (by simp) _ l],h1.at λo e=>k i1 (by simp) o e,U.at λo e=>k i2 (by simp) o e]
 item:=by
  intro X hP hw hK n i R0 s σ H E I N st hg;subst hP hw hK;let#[xs,ys,x,y,r,O,hx,hy]:=hg;let#[its,rv,p,b5]:=I.list (.inl r)
  let#[t,b1,p2,b8]:=I.list (.inl O)
  let#[u,hu,ru]:=rv.get hx;let#[u2,a4,b7]:=b1.get hy;let#[F,j,#[a,b',l],h1,U]:=st;have n1:∀c∈[z,TI,TO,i1,i2],G≠c:=λc n=>gG r (N c n).1
  have n2:∀c∈[z,TI,TO,i1,i2],Q≠c:=λc n=>gG O (N c n).1
  have d:N6 z TI TO i1 i2 [i1,G] [i2,Q]:=#[d1,d2,d3,d4,d5,d6,d7,d8,d9,m,by simp [Ne.symm d3,Ne.symm (n1 z (by simp))],by simp [Ne.symm d4,Ne.symm (n2 z (by simp))],by simp [d8,Ne.symm (n1 TO (by simp))],by simp [d9,Ne.symm (n2 TO (by simp))],by simp [Ne.symm m,Ne.symm (n1 i2 (by simp))],by simp [m,Ne.symm (n2 i1 (by simp))]]
  have a6:i<its.toArray.size:=by have:=(Jw.mp hu).1;simpa using this
  have R:i<t.toArray.size:=by have:=(Jw.mp a4).1;simpa using this
  have S:s.TypeIs (-z) "zip":=#[_,F,Z]
  unfold pyNext;refine Ja (IQ (wpAny_callSpecial?_slot (name:=RS "__next__") S Lh
   (JY Lh S Mc
    (kG (Draws.list (A:=X.A.in1) (I.ok.hd n) i1 G (n1 i1 (by simp)) its.toArray) (Draws.list (A:=X.A.in1) (I.ok.hd n) i2 Q (n2 i2 (by simp)) t.toArray) d F j l #[h1,p.isList] #[U,p2.isList] a6 R
     λv v2 h' tk hv a8 ho a3 q1 q2 ht hk=>Jd #[0,?_]) (Me _))))
  have ev:v=u:=by
   have B:its[i]? =↑v:=by simpa using hv
   rw[hu]at B;exact(JE B).symm
  have a7:v2=u2:=by
   have B:t[i]? =↑v2:=by simpa using a8
   rw[a4]at B;exact(JE B).symm
  subst ev a7;refine wpAny_letOwnedTupleGo_zip ho λD L g=>?_
  have lt:∀c∈[z,TI,TO,i1,i2],c<s.heap.objs.size:=λc n=>by
   simp only[Jg,Jt,Ju]at n;rcases n with rfl|rfl|rfl|rfl|rfl
   .exact Jl F
   .exact Jl j
   .exact Jl l
   .let#[_,e,_]:=h1;exact Jl e
   .let#[_,e,_]:=U;exact Jl e
  have J:IsPair D TI (-i1) (-i2):=g.extBut _ _ d1 (hk _ _ d1 d5 d6 d7 j)
  have C:IsPair D TO v v2:=g.extBut _ _ d2 a3
  have a5:D.IsListIter i1 G (i+1):=q1.1.extBut g.extBut d3
  have Y:D.IsListIter i2 Q (i+1):=q2.1.extBut g.extBut d4
  exists .ref s.heap.objs.size,HM H s.heap.objs.size (.tup [x,y]),?_,Z,#[_,x,y,I.hok.fresh (Jf _),Z,λzs M=>by rw[I.list_inj (.inl M) (.inl r)];exact hx,λzs M=>by rw[I.list_inj (.inl M) (.inl O)];exact hy,Z],#[L,J,#[15,C],a5,Y]
  .show L2.HN X R0 σ _ {s with heap:=D,toks:=tk}
   refine gF (s:=s) (its:=[v,v2]) I (ch:=[z,TI,TO,i1,i2]) (λb o f q=>?_) N (λb f=>?_) (Jf _) (by show 2<=ζ;decide) (.cons ru (.cons b7 .nil)) ?_
   .simp only[Jg,Jt,Ju,not_or]at f
    exact g.extBut b o f.1 (hk b o f.1 f.2.2.1 f.2.2.2.1 f.2.2.2.2 q)
   .simp only[Jg,Jt,Ju]at f
    rcases f with rfl|rfl|rfl|rfl|rfl
    .exact#[_,L]
    .exact#[_,J]
    .exact#[_,C]
    .let#[o,e,_]:=a5;exact#[o,e]
    .let#[o,e,_]:=Y;exact#[o,e]
   .exact#[_,g.extBut _ _ (J1 (lt z (by simp))) ht,8]
  .intro b f
   rw[qp (Jm (lt b f))]
   exact(N b f).1
 done:=by
  intro X hP hw hK n i R0 s σ H E I N st hg;subst hP hw hK;let#[xs,r,hx]:=hg;let#[its,rv,p,b5]:=I.list (.inl r)
  let#[F,j,#[a,b',l],h1,U]:=st;have n1:∀c∈[z,TI,TO,i1,i2],G≠c:=λc n=>gG r (N c n).1
  have d:N6 z TI TO i1 i2 [i1,G] [i2]:=#[d1,d2,d3,d4,d5,d6,d7,d8,d9,m,by simp [Ne.symm d3,Ne.symm (n1 z (by simp))],by simp [Ne.symm d4],by simp [d8,Ne.symm (n1 TO (by simp))],by simp [d9],by simp [Ne.symm m,Ne.symm (n1 i2 (by simp))],by simp [m]]
  have hl:its.toArray.size=i:=by rw[Js,<- rv.length];exact hx
  have S:s.TypeIs (-z) "zip":=#[_,F,Z]
  unfold pyNext;refine Ja (IQ (wpAny_callSpecial?_slot (name:=RS "__next__") S Lh
   (JY Lh S Mc
    (oP (Draws.list (A:=X.A.in1) (I.ok.hd n) i1 G (n1 i1 (by simp)) its.toArray) d F j #[by rw[hl];exact h1,p.isList] λh' e hk he=>?_) (Me _))))
  let#[o,ho,b0]:=he;refine Ja (IX (T:="StopIteration") (b:=true) #[o,ho,b0] LU ?_)
  refine Jd #[Z,sU (t':=s.toks) I (ch:=[z,i1]) (λb o f e=>?_) (λb f=>N b ?_)]
  .simp only[Jg,Jt,Ju,not_or]at f
   exact hk b o f.1 f.2 e
  .simp only[Jg,Jt,Ju]at f
   rcases f with rfl|rfl<;>simp
 self:=λ_ _ _ _ _ st h=>Ml st.1 h
noncomputable def BV(ta:TA):TI:=λσ H R=>ta σ H λvs H1=>∃a c xs ys,vs=[-a,-c]/\Rd H1 a (.lst xs)/\Rd H1 c (.lst ys)/\R (Av a c) H1
theorem CW{a b:Φ}{p:Pos}{x1}(hg:Gl X "zip")(hm:X.mg "zip"=none)(ha:PA X [a,b] ta)(h1:Qj a=true:=by rfl)(h2:Qj b=true:=by rfl):
  PI X (.Tuple l x1 o) (.Call (.Name "zip" p) [a,b] [] pos) (BV ta):=by
 intro R0 s σ H R I h;have m:θ [b] X.env=[(false,eval b X.env)]:=ZF h2
 refine Call_ (Zp I hg hm PyProof.Rows.boot_zip (Le (qz (ha pos R0 s σ H _ I h) λP c C=>?_) (by rw[ZF h1,m]) (by rw[m];rfl)))
 let#[vs,H1,g,F,N]:=C;let#[O,A,xs,ys,e,D,G,q]:=N;subst e;let#[u,v,rfl,M,E]:=F.two;cases M;cases E;let#[z,K,L,t]:=g.list (.inl D)
 let#[x,J,p2,B]:=g.list (.inl G)
 have d:∀(n i j:Nat),i≠j->n+i≠n+j:=λn i j h=>by lia
 refine call_zip_2 L.isList p2.isList λh' t r w h1 h2 _ hk=>Ml t ?_
 refine#[c.heap.objs.size+4,[c.heap.objs.size+4,c.heap.objs.size+2,c.heap.objs.size+3,c.heap.objs.size,c.heap.objs.size+1],15,H1,Z,g.kept (t':=c.toks) hk,
  wF O A (c.heap.objs.size+4) (c.heap.objs.size+2) (c.heap.objs.size+3) c.heap.objs.size (c.heap.objs.size+1) (d _ 2 4 ⋯) (d _ 3 4 ⋯) (d _ 0 4 ⋯) (d _ 1 4 ⋯) (d _ 2 3 ⋯) (d _ 2 0 ⋯) (d _ 2 1 ⋯) (d _ 3 0 ⋯) (d _ 3 1 ⋯) (d _ 0 1 ⋯),#[t,r,#[15,w],h1,h2],λb y=>?_,q]
 have f:c.heap.objs.size<=b:=by
  simp only[Jg,Jt,Ju]at y;rcases y with rfl|rfl|rfl|rfl|rfl
  .exact IZ _ 4
  .exact IZ _ 2
  .exact IZ _ 3
  .exact Jf _
  .exact IZ _ 1
 exact g.fpOk f (g.hok.fresh f)
end
theorem yx{K:ι}{te:TE}{H:Hp}{Q:VK}{xs ys:Ε}(hl:xs.length=ys.length)(hn:xs.length<=ζ)(Pv:Nat->Ε->Hp->Prop)(r:Pv 0 [] H)
  (hk:∀i zs H,Pv i zs H->Rd H q (.lst xs)/\Rd H h (.lst ys))
  (hs:∀i zs H p x y,xs[i]? =↑x->ys[i]? =↑y->zs.length=i->Pv i zs H->H p=none->te (↑x::↑y::zY js σ) (HM H p (.tup [x,y])) λv f=>Pv (i+1) (zs++[v]) f)
  (hd:∀zs H,zs.length=xs.length->Pv xs.length zs H->∀p,H p=none->Q (-p) (HM H p (.lst zs))):
  ji 2 js (nW K 2 (bK (Qf 0) (bK (Qf 1) nQ))) te σ Q (Av q h) H:=by
 exists λi m zs n H=>m=xs.length-i/\i<=xs.length/\zs.length=i/\Pv i zs H/\∃o o',n=o::o'::zY js σ,#[xs.length,by simp,JB _,Z,r,none,none,Z]
 rintro i m zs n H ⟨rfl,hi,a,p,o,o',rfl⟩
 let#[g,j]:=hk i zs H p
 by_cases c:i<xs.length
 .have d:i<ys.length:=by lia
  refine .inr #[#[xs,ys,xs[i],ys[i],g,j,by simp [c],by simp [d]],by lia,λv H' y=>?_]
  let#[l,x,y,s,rfl,u,t,rfl]:=y;exists l,0,HX.of qb,5
  exact#[λv f=>Pv (i+1) (zs++[v]) f,λv f w=>#[xs.length-(i+1),jN c,Z,c,by simp [a],w,13],hs i zs _ l x y (u xs g) (t ys j) a p s]
 .have e:i=xs.length:=by lia
  subst e;exact .inl #[#[xs,g,Z],hd zs H a p]
theorem CS{a b:Φ}{p:Pos}{x1}(hg:Gl X "zip")(hm:X.mg "zip"=none)(ha:QA X [a,b] ta)(h1:Qj a=true:=by rfl)(h2:Qj b=true:=by rfl):
  QI X (.Tuple d x1 c) (.Call (.Name "zip" p) [a,b] [] pos) (BV ta):=#[CW hg hm ha.h h1 h2]
inductive OJ (H:Hp):Nat->V->V->Prop where
 |int (n:Nat)(i:Int):OJ H n (.int i) (.int i)
 |str (n:Nat)(x:Str):OJ H n (.str x) (.str x)
 |non (n:Nat):OJ H n .non .non
 | tup {n:Nat} {a b:Δ} {xs ys:Ε} (h1:Rd H a (.tup xs)) (h2:Rd H b (.tup ys)) (hl:xs.length=ys.length) (hz:xs.length<=ζ)
   (hi:∀(i:Nat) (x y:V),xs[i]? =↑x->ys[i]? =↑y->OJ H n x y):OJ H (n+1) (-a) (-b)
 | lst {n:Nat} {a b:Δ} {xs ys:Ε} (h1:H a=↑(.lst xs)) (h2:H b=↑(.lst ys)) (hl:xs.length=ys.length) (hz:xs.length<=ζ)
   (hi:∀(i:Nat) (x y:V),xs[i]? =↑x->ys[i]? =↑y->OJ H n x y):OJ H (n+1) (-a) (-b)
theorem OJ.same(s:HJ H H'):∀{n:Nat} {x y:V},OJ H n x y->OJ H' n x y:=λh=>by
 induction h with
 |int n i=>exact .int n i
 |str n x=>exact .str n x
 |non n=>exact .non n
 |tup h1 h2 hl hz _ ih=>exact .tup (Rd.same s h1) (Rd.same s h2) hl hz ih
 |lst h1 h2 hl hz _ ih=>exact .lst (s _ _ h1) (s _ _ h2) hl hz ih
inductive Fa(n:Nat)(vs:Ε)(H:Hp)(Q:VK)(_:XK):Prop
 |mk (x:_)(y:_)(h1:vs=[x,y])(h2:OJ H n x y)(h3:∀H',HJ H H'->Q (.bl true) H')
end L3
namespace L3
open PySem PySem.Spec PyProof.Rows L2
theorem rJ:pL X "list.extend" sQ:=wj
theorem Bj{X:Cx}{d:Scope}{t:List (Str×Δ)}{n:Pos}{fr own:Α}{i:Nat}{y:Str}
  (hN:X.N.Nodup)(A:X.N[i]? =↑y)(hx:fQ X.env.scope y)
  (hc:X.calm=true)(hi:QI X tg f L)(p:closureFor d X.env=pure t)(E:∀y c,t.lookup y=↑c->X.env.cells.lookup y=↑c)(B:t.map (·.1)=fr)
  (S:MU X d fr js)
  (hg:∀C s H fp,QG (qY X (own++fr) d t C s H fp) tg g)(U:∀C s H fp,QT (qY X (own++fr) d t C s H fp) j tc)(he:∀C s H fp,QE (qY X (own++fr) d t C s H fp) l te)
  (hs:∀x,foldedSetIterable f X.env x=pure x:=by intro _;rfl)(G:swapsWith (.ListComp l [#[tg,f,[j],(0)]] d pos) ↑(.Name y w) n.line X.env=pure true:=by rfl)
  (hf:X.fn y=true\/X.env.scope.names.lookup y=some .local:=by first|exact .inl Z|exact .inr Z|assumption):
  QS X (.Assign [.Name y w] (.ListComp l [#[tg,f,[j],(0)]] d pos) n) (cU (vB own.length js L g tc te) (Qf i)):=#[by
 intro R0 s σ H D I h;rw[exec_Assign_Name_used _ _ _ _ G];refine Ja (Ib (Ja ?_))
 show ε _ X.A (do let _ <- comprehension (.ListComp l [#[tg,f,[j],(0)]] d pos) d X.env _ (newList []) false (eval f X.env) ↑(assign (.Name y w) X.env)) _ _ s
 refine Ja (Jx (xy (use:=↑(assign (.Name y w) X.env)) (Post:=λ_ s'=>SP X R0 D .next s') hc hi.h p E B S (λC s H fp=>(hg C s H fp).h) (λC s H fp=>(U C s H fp).h) (λC s H fp=>(he C s H fp).h) hs I h ?_) (λ_ s' W=>Jd (Jd W)) λ_ _ e=>e)
 intro u C Y H' m N M r q
 show ε _ X.A (assign (.Name y w) X.env (-u)) _ _ _
 refine wpAny_assign_Name (bG (v:= .ref u) N hN A hx Z (λQ T O=>?_) hf)
 let#[a,J,P]:=O;have F:C≠a:=by
  rcases P with z|z
  .rw[z];exact r.loc
  .exact Ne.symm (r.cell _ _ z)
 refine#[m,M.sameBut J F,λh' K=>?_]
 exact#[_,H',T.turned (t':=Q.toks) (λb o R e=>(K.2 b R).trans e) r.free r.loc (.inr r.new) r.cell r.pin,q]]
def Pn(K:ι)(H:Hp)(b:Δ)(kss:List Β):Prop:=∃c:Η,HX K H b (c.map V.ref)/\c.length=kss.length/\∀(i:Nat) (a:Δ) (d:Β),c[i]? =↑a->kss[i]? =↑d->HX K H a (d.map V.int)
theorem Pn.same{K:ι}{b:Δ}(h:Pn K H b kss)(s:HJ H H'):Pn K H' b kss:=by
 let#[f,e,l,r]:=h
 exact#[f,HJ.sqt s e,l,λi a d g c=>HJ.sqt s (r i a d g c)]
theorem Pn.upd{K:ι}{b:Δ}{fs:List (Str×V)}(h:Pn K H b kss)(e:H p=↑(.ins C dx fs)):Pn K (HM H p o) b kss:=by
 let#[f,d,l,r]:=h
 exact#[f,gM e d,l,λi a g j c=>gM e (r i a g j c)]
theorem Eb{X:Cx}{a h f:Δ}(h1:X.env.cells.lookup g=↑a)(h2:X.env.cells.lookup c=↑h)(i:X.env.cells.lookup d=↑f):
  ∀u e,([(g,a),(c,h),(d,f)]:List (Str×Δ)).lookup u=↑e->X.env.cells.lookup u=↑e:=iu h1 (iu h2 (iu i CK))
theorem Fh{X:Cx}{a:Scope}{j e h:Str}{p n o:Nat}(g:a.kind= .function)(d:∀x∈a.names,x.2= .local->a.names.lookup x.1=some .local)(c:∀x∈a.names,x.2≠ .cell)
  (f:∀x∈a.names,x.2= .free->x.1∈([j,e,h]:Α))(z:X.N[p]? =↑j)(r:X.env.kindOf j=some .cell)(y:(relabel a X.env).names.lookup j=some .cell)
  (u:X.N[n]? =↑e)(q:X.env.kindOf e=some .cell)(s:(relabel a X.env).names.lookup e=some .cell)(v:X.N[o]? =↑h)(t:X.env.kindOf h=some .cell)(w:(relabel a X.env).names.lookup h=some .cell):MU X a [j,e,h] [p,n,o]:=
 #[g,d,c,f,Z,λi A B l m=>by
  match i with
  |0=>cases l;cases m;exact#[z,r,y]
  |1=>cases l;cases m;exact#[u,q,s]
  |2=>cases l;cases m;exact#[v,t,w]
  |i+3=>simp at l]
inductive Rw where
 |learn (P R:Ps)
 |forget (nm:Str)
 |turn (ks:Β)
 |close (age:Int)
 |hear (P:Ps)(ans:Ε)
abbrev _root_.Ρ:=List Rw
def vT:V->Prop
 | .int _=>True
 | .str _=>True
 |_=>False
noncomputable def Oj(H:Hp)(a:Δ):Rw->Prop
 | .learn P R=>∃c p2,Rd H a (.tup [.str "learn",-c,-p2])/\cS H c P/\cS H p2 R/\Oy P/\Oy R
 | .forget nm=>Rd H a (.tup [.str "forget",.str nm])
 | .turn ks=>∃k,Rd H a (.tup [.str "turn",-k])/\Rd H k (.tup (ks.map V.int))/\ks.length<=8
 | .close age=>Rd H a (.tup [.str "close",.int age])
 | .hear P ans=>∃p q,Rd H a (.tup [.str "hear",-p,-q])/\cS H p P/\Oy P/\H q=↑(.tup ans)/\ans.length<=3/\∀v∈ans,vT v
def Nz(H:Hp)(rs:Η)(L:Ρ):Prop:=rs.length=L.length/\∀(i:Nat) (a:Δ) (r:Rw),rs[i]? =↑a->L[i]? =↑r->Oj H a r
def N9(H:Hp)(lg:Δ)(L:Ρ):Prop:=∃rs:Η,H lg=↑(.lst (rs.map V.ref))/\Nz H rs L
section
theorem Oj.mv(m:Mv S H H')(n:NT S H)(h:Oj H a r):Oj H' a r:=by
 cases r with
 |learn P R=>let#[f,p2,h1,c,d,e]:=h;exact#[f,p2,m.rd n h1,Nb.mv m n c,Nb.mv m n d,e]
 |forget nm=>exact m.rd n h
 |turn ks=>let#[k,h1,c,d]:=h;exact#[k,m.rd n h1,m.rd n c,d]
 |close age=>exact m.rd n h
 |hear P ans=>let#[p,q,h1,c,d,e,g]:=h;exact#[p,q,m.rd n h1,Nb.mv m n c,d,m.tup n e,g]
theorem Nz.mv(m:Mv S H H')(n:NT S H)(h:Nz H rs L):Nz H' rs L:=#[h.1,λi a r d c=>(h.2 i a r d c).mv m n]
theorem N9.mv(m:Mv S H H')(n:NT S H)(hl:lg∉S)(h:N9 H lg L):N9 H' lg L:=by
 let#[rs,e,r]:=h
 exact#[rs,m _ _ hl e,r.mv m n]
theorem fi:NT [] H:=λc h=>nomatch h
theorem Nz.same(s:HJ H H')(h:Nz H rs L):Nz H' rs L:=h.mv (S:=[]) s.mv fi
theorem N9.same(s:HJ H H')(h:N9 H lg L):N9 H' lg L:=h.mv (S:=[]) s.mv fi (λz=>nomatch z)
theorem Nz.add(h:Nz H rs L)(hr:Oj H a r):Nz H (rs++[a]) (L++[r]):=by
 refine#[by simp [h.1],λi b q c d=>?_]
 by_cases hi:i<rs.length
 .rw[J3 hi]at c
  rw[J3 (by rw[<- h.1];exact hi)]at d
  exact h.2 i b q c d
 .rw[J9 (by lia)]at c
  rw[J9 (by rw[<- h.1];lia),<- h.1]at d
  cases e:i-rs.length with
  |zero=>rw[e]at c d;cases c;cases d;exact hr
  |succ k=>rw[e]at c;cases c
end
theorem _root_.L2.HX.up{K:ι}(h:HX [] H a xs):HX K H a xs:=h.elim .inl λ⟨_,_,_,z,_⟩=>nomatch z
theorem _root_.L2.HX.rd(h:HX [] H a xs):Rd H a (.tup xs):=h.elim id λ⟨_,_,_,z,_⟩=>nomatch z
theorem MP.up{K:ι}(h:MP [] H a kss):MP K H a kss:=by
 let#[f,e,l,r]:=h
 exact#[f,e,l,λi a d g c=>(r i a d g c).up]
inductive Dq(K:ι)(C:Δ)(vs:Ε)(H:Hp)(Q:VK)(_:XK):Prop
 |mk (p a b dx:Δ)(near far most:Int)(t:Β)(kss:List Β)(h1:vs=[-p,-a,-b,.int near,.int far,.int most])(h2:H p=↑(.ins C dx []))(h3:Sq K H a (t.map V.int))(h4:MP [] H b kss)(h5:kss.length<=8)(h6:∀ta hk bd lg H',H hk=none->H bd=none->H lg=none->Mv [p] H H'->HL K C H' p ta hk bd lg 0 ⟨t,kss,near,far,most,0,[]⟩->MP [] H' hk kss->Q .non H')
inductive pO(K:ι)(C:Δ)(vs:Ε)(H:Hp)(Q:VK)(_:XK):Prop
 |mk (p a b dx:Δ)(near far most:Int)(t:Β)(kss:List Β)(h1:vs=[-p,-a,-b,.int near,.int far,.int most])(h2:H p=↑(.ins C dx []))(h3:Sq K H a (t.map V.int))(h4:Pn [] H b kss)(h5:kss.length<=8)(h6:∀ta hk bd lg H',H hk=none->H bd=none->H lg=none->Mv [p] H H'->HL K C H' p ta hk bd lg 0 ⟨t,kss,near,far,most,0,[]⟩->MP [] H' hk kss->Q .non H')
structure Da where
 p:Δ
 ta:Δ
 hk:Δ
 bd:Δ
 lg:Δ
structure M8(K:ι)(C:Δ)(H:Hp)(a:Da)(D:Dr)(L:Ρ):Prop where
 dr:HL K C H a.p a.ta a.hk a.bd a.lg L.length D
 lo:N9 H a.lg L
 kr:MP [] H a.hk D.kss
section
variable{K:ι}
theorem M8.mv(b:M8 K C H a D L)(m:Mv S H H')(nt:NT S H)(hp:a.p∉S)(c:a.hk∉S)(hb:a.bd∉S)(hl:a.lg∉S):M8 K C H' a D L:=#[b.dr.mv m nt hp c hb hl,b.lo.mv m nt hl,MP.mv m nt c b.kr]
theorem M8.same(b:M8 K C H a D L)(s:HJ H H'):M8 K C H' a D L:=#[b.dr.same s,b.lo.same s,MP.same s b.kr]
theorem M8.push(b:HL K C H a.p a.ta a.hk a.bd a.lg L.length D)(c:H a.lg=↑(.lst (rs.map V.ref)))(d:Nz H rs L)(f:MP [] H a.hk D.kss)(hr:Oj H r rw):M8 K C (HM H a.lg (.lst (rs.map V.ref++[-r]))) a D (L++[rw]):=by
 have nt:NT [a.lg] H:=NT.one c trivial
 have e:=b.putL (r:=r) c (L0 d.1)
 rw[show L.length+1=(L++[rw]).length by simp]at e
 exact#[e,#[rs++[r],by rw[qb,JI];rfl,(d.add hr).mv Mv.upd1 nt],MP.mv Mv.upd1 nt (qQ b.ne.symm) f]
theorem tX(e:H bd=↑(.dK c))(b:HL K C H p ta hk bd lg n D):hk≠bd:=by
 let#[d,a,_]:=b.ks;exact zO a e (by intro z;cases z)
theorem FJ(e:H p=↑(.ins C dx c))(b:HL K C H p ta hk bd lg n D):hk≠p:=by
 let#[d,a,_]:=b.ks;exact zO a e (by intro z;cases z)
theorem HL.dl(b:HL K C H p ta hk bd lg 0 D)(c:MP [] H hk D.kss):M8 K C H #[p,ta,hk,bd,lg] D []:=by
 let#[rs,e,l]:=id b.lo
 obtain rfl:rs=[]:=Kz.mp (Nat.le_zero.mp l)
 exact#[b,#[[],e,Z,λi a r h=>by cases h],c]
end
inductive Dd where
 |learn (o1 o2:Option Ps)
 |forget (nm:Str)
 |turn (ks:Β)
 |close (age:Int)
 |hear (o:Option Ps)
def aK(D:Dr)(P:Ps):Ε×Kw:=zu D P.nm P.age (ZN D.t (QY D P.age) P.nm P.ds)
noncomputable def Fw(D:Dr):Dd->Option (Dr×Rw)
 | .learn ↑P ↑R=>if(ww D P R).1="" then ↑({D with kn:=(ww D P R).2.2},.learn P R)else none
 | .learn _ _=>none
 | .forget nm=>if D.kn.lookup nm=none then none else ↑({D with kn:=D.kn.filter λp=>decide (p.1≠nm)},.forget nm)
 | .turn ks=>if D.kss.length<8 then ↑({D with kss:=D.kss++[ks]},.turn ks)else none
 | .close age=>↑({D with least:=if age>D.least then age else D.least},.close age)
 | .hear ↑P=>↑({D with kn:=(aK D P).2},.hear P (aK D P).1)
 | .hear none=>none
section
variable(K:ι)(C:Δ)(x:Xa)
inductive tF(vs:Ε)(H:Hp)(Q:VK)(_:XK):Prop
 |mk (a:Da)(D:Dr)(L:Ρ)(x:V)(o:Option Ps)(h1:vs=[-a.p,x])(h2:M8 K C H a D L)(h3:L.length<=1000000)(h4:Nw D)(h5:Tg H x o)(h6:(o=none->∀q H',HJ H H'->H' q=↑(.tup [.str "held",.str "bad"])->Q (-q) H'))(h7:∀P,o=↑P->∀pr q H',x= .ref pr->Mv [a.bd,a.lg] H H'->cS H' pr P->H' q=↑(.tup (aK D P).1)->M8 K C H' a {D with kn:=(aK D P).2} (L++[.hear P (aK D P).1])->Q (-q) H')
def Gm(H:Hp)(k:Δ)(ks:Β):Prop:=H k=↑(.lst (ks.map V.int))\/Rd H k (.tup (ks.map V.int))
inductive oH(vs:Ε)(H:Hp)(Q:VK)(_:XK):Prop
 |mk (a:Da)(D:Dr)(L:Ρ)(age:Int)(h1:vs=[-a.p,.int age])(h2:M8 K C H a D L)(h3:L.length<=1000000)(h4:∀D' r,Fw D (.close age)=↑(D',r)->∀H',Mv [a.p,a.lg] H H'->M8 K C H' a D' (L++[r])->Q .non H')
end
theorem b9:zj X (.type "tuple") (λxs H Q=>∃kt a,xs=[-kt]/\Gm H kt a/\∀t c,HJ H c->Rd c t (.tup (a.map V.int))->Q (-t) c):=by
 intro R0 s σ H xs f Q I r h;let#[kt,a,e,h,q]:=h;refine zp R0 s σ H xs f Q I r #[kt,a.map V.int,e,?_]
 rcases h with h|h
 .exact .inl #[HQ.of h,λt d=>q t _ (HJ.upd d) (.inl qb)]
 .exact .inr #[.inl h,q kt _ (HJ.refl _) h]
section
theorem lH(D:Dr)(nm:Str)(age:Int)(r:Option (Int×Int)):(zu D nm age r).1.length<=3/\∀v∈(zu D nm age r).1,vT v:=by
 have two:∀a b:Str,([V.str a,.str b]:Ε).length<=3/\∀v∈([V.str a,.str b]:Ε),vT v:=λa b=>#[by show 2<=3;decide,λv d=>by simp at d;rcases d with rfl|rfl<;>trivial]
 have c:∀(a b:Str) (i:Int),([V.str a,.str b,.int i]:Ε).length<=3/\∀v∈([V.str a,.str b,.int i]:Ε),vT v:=λa b i=>#[by show 3<=3;decide,λv d=>by simp at d;rcases d with rfl|rfl|rfl<;>trivial]
 unfold zu;split
 .exact two _ _
 .split
  .split
   .exact two _ _
   .split
    .exact c _ _ _
    .exact two _ _
  .exact two _ _
theorem vw(D:Dr)(P:Ps):(aK D P).1.length<=3:=(lH ..).1
theorem Ah(D:Dr)(P:Ps):∀v∈(aK D P).1,vT v:=(lH ..).2
end
theorem C5{t u:TS}{D:Ng}(G:L2.St->Hp->Prop)(h:∀D':Ng,D'.rt=D.rt->(∀a H',G a H'->D'.nx a H')->t D' σ H)(c:∀a H',G a H'->u D a H'):fV t u D σ H:=h {D with nx:=u D} rfl c
section
variable{K:ι}
theorem Pn.mv{b:Δ}(h:Pn K H b kss)(m:Mv S H H')(n:NT S H):Pn K H' b kss:=by
 let#[f,e,l,r]:=h
 exact#[f,m.sqt n e,l,λi a d g c=>m.sqt n (r i a d g c)]
end
structure MS(D:Dr)(e:Kb):Prop where
 a0:0<=e.age
 a1:e.age<D.kss.length
 l0:1<=e.last
 l1:e.last<4096
 w:∀x c,e.wt=↑(x,c)->e.age<=x/\x<D.kss.length/\e.last+D.near<c/\c<=e.last+D.far/\0<=c/\c<4096
section
variable{K:ι}
def dS(a:Da):Η:=[a.p,a.hk,a.bd,a.lg]
theorem M8.nt(d:M8 K C H a D L):NT (dS a) H:=λc e=>by
 let#[dx,ep]:=id d.dr.ob;let#[i,h,_]:=id d.dr.kb;let#[j,g,_]:=id d.dr.ks;let#[rs,f,_]:=id d.lo;simp only[dS,Jg,Jt,Ju]at e;rcases e with rfl|rfl|rfl|rfl
 .exact#[_,ep,trivial]
 .exact#[_,g,trivial]
 .exact#[_,h,trivial]
 .exact#[_,f,trivial]
theorem M8.outD(d:M8 K C H a D L)(hx:H x=↑(.dK xs))(n1:x≠a.bd):x∉dS a:=λc=>by
 let#[dx,ep]:=id d.dr.ob;let#[g,e,_]:=id d.dr.ks;let#[rs,f,_]:=id d.lo;simp only[dS,Jg,Jt,Ju]at c;rcases c with z|z|z|z
 .rw[z,ep]at hx;cases hx
 .rw[z,e]at hx;cases hx
 .exact n1 z
 .rw[z,f]at hx;cases hx
end
theorem MS.mono{D':Dr}(k:MS D e)(h:D.kss.length<=D'.kss.length)(hn:D'.near=D.near:=by rfl)(hf:D'.far=D.far:=by rfl):MS D' e:=#[k.a0,by have:=k.a1;lia,k.l0,k.l1,λx c z=>by have y:=k.w x c z;rw[hn,hf];exact#[y.1,Int.lt_of_lt_of_le y.2.1 (Int.ofNat_le.2 h),y.2.2]]
theorem mW{age c:Int}(k:MS D e)(a0:e.age<=age)(f:age<D.kss.length)(g:0<=c)(d:c<4096):MS D (zD D.near D.far e age c).2:=by
 have i:=k.a0;have j:=k.l0;have a:e.last<c->MS D #[age,c,none]:=λh=>#[by show 0<=age;lia,f,by show 1<=c;lia,d,λx y z=>by cases z]
 unfold zD;split
 .exact k
 .split
  .exact a (by lia)
  .split
   .split
    .exact a (by lia)
    .exact#[k.a0,k.a1,k.l0,k.l1,λx y z=>by cases z;exact#[a0,f,by show e.last+D.near<c;lia,by show c<=e.last+D.far;lia,g,d]]
   .exact k
theorem c8(h:qO D e age=true):e.age<=age:=by
 unfold qO at h;rw[JF]at h;exact Jz h.2
theorem QL{v:V}{σ:L2.St}{t u:TS}{D:Ng}{rt:VK}{bk ct:L2.St->Hp->Prop}(G:L2.St->Hp->Prop)(h:∀D':Ng,D'.rt=D.rt->(∀a H',G a H'->D'.nx a H')->t D' (σ.set i ↑v) H)(c:∀a H',G a H'->u D a H'):Qf i v σ H (Ng.nx {nx:=fV t u D,rt:=rt,bk:=bk,ct:=ct}):=h {D with nx:=u D} rfl c
theorem Fn{t u:TS}{D:Ng}{rt:VK}{bk ct:L2.St->Hp->Prop}(G:L2.St->Hp->Prop)(h:∀D':Ng,D'.rt=D.rt->(∀a H',G a H'->D'.nx a H')->t D' σ H)(c:∀a H',G a H'->u D a H'):Ng.nx {nx:=fV t u D,rt:=rt,bk:=bk,ct:=ct} σ H:=h {D with nx:=u D} rfl c
theorem Ed{K:ι}{D:Dr}{age:Int}{as:Η}(g:as.length=D.kss.length)(d:∀(i:Nat) (a:Δ) (ks:Β),as[i]? =↑a->D.kss[i]? =↑ks->HX K H a (ks.map V.int))(f:0<=age)(h1:age<D.kss.length):∃e,QJ (as.map V.ref) age=↑(-e)/\HX K H e ((QY D age).map V.int):=by
 let#[i,rfl]:∃i:Nat,age=(i:Int):=#[age.toNat,by lia]
 have hi:i<D.kss.length:=by lia
 have c:i<as.length:=by lia
 exists as[i],Qs (by rw[Jo,Jh c];rfl)
 have:=d i as[i] D.kss[i] (Jh c) (Jh hi)
 unfold QY;rw[Iw,JG,Jh hi];exact this
theorem GX{a:Da}(m:Mv [a.p,a.lg] H H'):Mv (dS a) H H':=m.mono λc h z=>h (by simp only[dS,Jg,Jt,Ju]at z⊢;rcases z with z|z<;>simp [z])
theorem Wt.same(s:HJ H H')(h:Wt H v o):Wt H' v o:=h.mv (S:=[]) s.mv fi
theorem eR{kn:Kw}{nm:Str}(h:nm∉kn.map (·.1)):kn.lookup nm=none:=by
 cases e:kn.lookup nm with
 |none=>rfl
 |some x=>exact absurd (HZ.mp (by rw[e];rfl)) h
theorem D5{x:Δ}(h:x∈dS a):x=a.p\/x=a.hk\/x=a.bd\/x=a.lg:=by
 simpa only[dS,Jg,Jt,Ju]using h
theorem EN(a:Da):a.p∈dS a:=by simp [dS]
theorem uy(a:Da):a.hk∈dS a:=by simp [dS]
theorem vc(a:Da):a.bd∈dS a:=by simp [dS]
theorem ml(a:Da):a.lg∈dS a:=by simp [dS]
theorem vC{a:Da}(m:Mv [a.bd,a.lg] H H'):Mv (dS a) H H':=m.mono (λc h z=>h (by simp [dS]at z⊢;rcases z with z|z<;>simp [z]))
noncomputable def ZE(D:Dr)(kd:Δ):List (qJ×V):=[(.inr "near",.int D.near),(.inr "far",.int D.far),(.inr "keys",.int (D.kss.length:Int)),(.inr "closed",.int D.least),(.inr "known",-kd)]
theorem wk(D:Dr)(kd:Δ):((ZE D kd).map (·.1)).Nodup:=by
 have:([.inr "near",.inr "far",.inr "keys",.inr "closed",.inr "known"]:List qJ).Nodup:=by decide +kernel
 exact this
theorem BF(D:Dr)(kd:Δ):ZP [] (ZE D kd)=ZE D kd:=by
 have:=nZ (ZE D kd) [] (wk D kd)
 rwa [Kq]at this
structure MJ(H:Hp)(m kd:Δ)(D:Dr):Prop where
 di:H m=↑(.dK (ZE D kd))
 kn:NC H kd D.kn
 ne:m≠kd
section
variable{kd:Δ}
theorem MJ.get(a:MJ H m kd D)(i:Nat){k:qJ}{x:V}(h:(ZE D kd)[i]? =↑(k,x)):NB H m (kV k) ↑x:=by
 have:=NB.k (k:=k) a.di
 rw[tL i h (wk ..)]at this;exact this
theorem MJ.g_near(a:MJ H m kd D):NB H m (.str "near") ↑(.int D.near):=a.get (k:= .inr "near") 0 Z
theorem MJ.g_far(a:MJ H m kd D):NB H m (.str "far") ↑(.int D.far):=a.get (k:= .inr "far") 1 Z
theorem MJ.g_keys(a:MJ H m kd D):NB H m (.str "keys") ↑(.int (D.kss.length:Int)):=a.get (k:= .inr "keys") 2 Z
theorem MJ.g_closed(a:MJ H m kd D):NB H m (.str "closed") ↑(.int D.least):=a.get (k:= .inr "closed") 3 Z
theorem MJ.g_known(a:MJ H m kd D):NB H m (.str "known") ↑(-kd):=a.get (k:= .inr "known") 4 Z
theorem MJ.mv(a:MJ H m kd D)(v:Mv S H H')(n:NT S H)(h1:m∉S)(h2:kd∉S):MJ H' m kd D:=#[v _ _ h1 a.di,a.kn.mv v n h2,a.ne]
theorem MJ.same(a:MJ H m kd D)(s:HJ H H'):MJ H' m kd D:=a.mv (S:=[]) s.mv fi (λh=>nomatch h) (λh=>nomatch h)
theorem MJ.putK(a:MJ H m kd D)(v:Mv [kd] H H')(d:NC H' kd c):MJ H' m kd {D with kn:=c}:=#[v _ _ (qQ a.ne) a.di,d,a.ne]
theorem uP(D:Dr)(kd:Δ)(z:Int):L2.MX (ZE D kd) (Pt "closed":qJ) (.int z)=ZE {D with least:=z} kd:=by
 unfold L2.MX ZE;rw[Jc (by simp [J4])]
 have h1:¬((Pt ("near":Str):Sum Int Str)=Pt ("closed":Str)):=by decide +kernel
 have c:¬((Pt ("far":Str):Sum Int Str)=Pt ("closed":Str)):=by decide +kernel
 have a:¬((Pt ("keys":Str):Sum Int Str)=Pt ("closed":Str)):=by decide +kernel
 have d:¬((Pt ("known":Str):Sum Int Str)=Pt ("closed":Str)):=by decide +kernel
 simp only[JS,Ln,Jb h1,Jb c,Jb a,Jb d,Io]
theorem MJ.close(a:MJ H m kd D)(z:Int):∃H',N8 H m (.str "closed") (.int z) H'/\Mv [m] H H'/\MJ H' m kd {D with least:=z}:=by
 refine#[_,N8.k (k:=Pt "closed") a.di (mn _ (by show 5<=100;decide)),Mv.upd1,by rw[qb,uP],a.kn.mv Mv.upd1 (NT.one a.di trivial) (qQ a.ne.symm),a.ne]
end
structure Em where
 e:Δ
 a:Da
 m:Δ
 kd:Δ
def eS(x:Em):Η:=dS x.a++[x.m,x.kd]
structure NR(K:ι)(C:Δ)(H:Hp)(x:Em)(D:Dr)(L:Ρ)(E:Dr):Prop where
 tu:H x.e=↑(.tup [-x.a.p,-x.m])
 dl:M8 K C H x.a D L
 md:MJ H x.m x.kd E
 n1:x.m≠x.a.bd
 n2:x.kd≠x.a.bd
section
variable{K:ι}
theorem wO(h:z∈eS x):z∈dS x.a\/z=x.m\/z=x.kd:=by
 rcases JP.mp h with h|h
 .exact .inl h
 .simp only[Jg,Jt,Ju]at h;exact .inr h
theorem nR(h:z∈dS x.a):z∈eS x:=JP.mpr (.inl h)
theorem GD:x.m∈eS x:=JP.mpr (.inr (by simp))
theorem GO:x.kd∈eS x:=JP.mpr (.inr (by simp))
theorem NR.nt(b:NR K C H x D L E):NT (eS x) H:=λz a=>by
 rcases wO a with h|rfl|rfl
 .exact b.dl.nt z h
 .exact#[_,b.md.di,trivial]
 .let#[f,e,_]:=b.md.kn;exact#[_,e,trivial]
theorem NR.some(b:NR K C H x D L E)(h:z∈eS x):H z≠none:=λw=>by
 let#[o,e,_]:=b.nt z h;rw[w]at e;cases e
theorem NR.mv(b:NR K C H x D L E)(m:Mv S H H')(nt:NT S H)(h:∀z∈eS x,z∉S):NR K C H' x D L E:=#[m.tup nt b.tu,b.dl.mv m nt (h _ (nR (EN _))) (h _ (nR (uy _))) (h _ (nR (vc _))) (h _ (nR (ml _))),b.md.mv m nt (h _ GD) (h _ GO),b.n1,b.n2]
theorem NR.same(b:NR K C H x D L E)(s:HJ H H'):NR K C H' x D L E:=b.mv (S:=[]) s.mv fi (λz _ h=>nomatch h)
theorem NR.m_out(b:NR K C H x D L E):x.m∉dS x.a:=b.dl.outD b.md.di b.n1
theorem NR.k_out(b:NR K C H x D L E):x.kd∉dS x.a:=by
 let#[f,e,_]:=b.md.kn;exact b.dl.outD e b.n2
theorem NR.door(b:NR K C H x D L E)(m:Mv (dS x.a) H H')(d:M8 K C H' x.a D' L'):NR K C H' x D' L' E:=#[m.tup b.dl.nt b.tu,d,b.md.mv m b.dl.nt b.m_out b.k_out,b.n1,b.n2]
theorem NR.model(b:NR K C H x D L E)(m:Mv [x.m,x.kd] H H')(c:MJ H' x.m x.kd E'):NR K C H' x D L E':=by
 have nt:NT [x.m,x.kd] H:=λz a=>b.nt z (JP.mpr (.inr a))
 have o:∀z∈dS x.a,z∉[x.m,x.kd]:=λz a w=>by
  simp only[Jg,Jt,Ju]at w;rcases w with rfl|rfl
  .exact b.m_out a
  .exact b.k_out a
 exact#[m.tup nt b.tu,b.dl.mv m nt (o _ (EN _)) (o _ (uy _)) (o _ (vc _)) (o _ (ml _)),c,b.n1,b.n2]
theorem cw(m:Mv (dS x.a) H H'):Mv (eS x) H H':=m.mono λc h z=>h (nR z)
theorem cx(m:Mv [x.m,x.kd] H H'):Mv (eS x) H H':=m.mono λc h z=>h (JP.mpr (.inr z))
end
abbrev En:=Em×Dr×Ρ
abbrev _root_.Υ:=List En
structure Pw(K:ι)(C:Δ)(H0 H:Hp)(b:Δ)(c:Nat)(pl:Δ)(xs:Υ):Prop where
 s:Mv [b] H0 H
 bx:MZ H b c
 b0:H0 b≠none
 en:∀(i:Nat) (x:En),xs[i]? =↑x->NR K C H x.1 x.2.1 x.2.2 x.2.1
 dj:∀(i j:Nat) (x y:En),i≠j->xs[i]? =↑x->xs[j]? =↑y->∀z∈eS x.1,z∉eS y.1
 fr:∀(i:Nat) (x:En),xs[i]? =↑x->∀z∈eS x.1,H0 z=none
 pe:H pl=↑(.lst (xs.map λx=> .ref x.1.e))
 np:∀(i:Nat) (x:En),xs[i]? =↑x->pl∉eS x.1
 fp:H0 pl=none
section
variable{K:ι}{b:Δ}{c c':Nat}{i:Nat}
theorem Pw.nb(p:Pw K C H0 H b c pl xs)(hi:xs[i]? =↑x):b∉eS x.1:=λz=>p.b0 (p.fr i x hi b z)
theorem Pw.npb(p:Pw K C H0 H b c pl xs):pl≠b:=λz=>p.b0 (z▸p.fp)
theorem Pw.grc(p:Pw K C H0 H b c pl xs)(g:NM b c' H H'):Pw K C H0 H' b c' pl xs:=by
 have m:Mv [b] H H':=λc o h e=>g.kp c o (λz=>h (Ji.mpr z)) e
 exact#[p.s.trans m,g.bx,p.b0,λi x hi=>(p.en i x hi).mv m (zL p.bx) (λz a w=>p.nb hi (Ji.mp w▸a)),p.dj,p.fr,g.kp _ _ p.npb p.pe,p.np,p.fp]
theorem Pw.same(p:Pw K C H0 H b c pl xs)(s:HJ H H'):Pw K C H0 H' b c pl xs:=p.grc (s.grc p.bx)
theorem Pw.mono(p:Pw K C H0 H b c pl xs)(h:c<=c'):Pw K C H0 H b c' pl xs:=#[p.s,p.bx.mono h,p.b0,p.en,p.dj,p.fr,p.pe,p.np,p.fp]
theorem Pw.step(p:Pw K C H0 H b c pl xs)(hi:xs[i]? =↑x)(m:Mv (eS x.1) H H')(e:NR K C H' x.1 D' L' D'):Pw K C H0 H' b c pl (xs.set i (x.1,D',L')):=by
 have v:i<xs.length:=(Jw.mp hi).1
 have nt:=(p.en i x hi).nt;have l:∀{j:Nat} {y:En},(xs.set i (x.1,D',L'))[j]? =↑y->(j=i/\y=(x.1,D',L'))\/(j≠i/\xs[j]? =↑y):=λ{j y} h=>by
  rw[Kf]at h;split at h
  .rename_i z
   subst z;injection h with h
   exact .inl #[Z,h.symm]
  .rename_i z
   exact .inr #[λw=>z w.symm,h]
 have same:∀{j:Nat} {y:En},(xs.set i (x.1,D',L'))[j]? =↑y->∃d,xs[j]? =↑d/\d.1=y.1:=λh=>by
  rcases l h with⟨rfl,rfl⟩|⟨_,h⟩
  .exact#[x,hi,Z]
  .exact#[_,h,Z]
 refine#[λc o u e=>m c o (λz=>?_) (p.s c o u e),p.bx.mv m (p.nb hi),p.b0,λj y a=>?_,λj k y z r a hk=>?_,λj y a=>?_,?_,λj y a=>?_,p.fp]
 .rw[p.fr i x hi c z]at e;cases e
 .rcases l a with⟨rfl,rfl⟩|⟨n,a⟩
  .exact e
  .exact(p.en j y a).mv m nt (λz q w=>p.dj j i y x n a hi z q w)
 .let#[d,g,f]:=same a
  let#[t,q,s]:=same hk;rw[<- f,<- s];exact p.dj j k d t r g q
 .let#[d,g,f]:=same a
  rw[<- f];exact p.fr j d g
 .have:(xs.set i (x.1,D',L')).map (λx=>V.ref x.1.e)=xs.map λx=>V.ref x.1.e:=by
   refine Ov λj=>?_
   rw[Jo,Jo,Kf];split
   .rename_i z
    subst z;rw[hi];rfl
   .rfl
  rw[this];exact m _ _ (p.np i x hi) p.pe
 .let#[d,g,f]:=same a
  rw[<- f];exact p.np j d g
theorem Pw.at(p:Pw K C H0 H b c pl xs)(hi:xs[i]? =↑x):QJ (xs.map λx=>V.ref x.1.e) (i:Int)=↑(-x.1.e):=Qs (by rw[Jo,hi];rfl)
end
noncomputable def qE(D:Dr)(nm:Str)(age c:Int):Str:=match D.kn.lookup nm with
 |none=>""
 |some e=>if qO D e age=true then(if c-e.last<1\/c-e.last>D.far then "" else if c-e.last<=D.near\/e.wt=↑(age,c-1)then "open" else "wait")else ""
def HP(D:Dr)(nm:Str)(age c:Int):Kw:=(zu D nm age ↑(c,0)).2
theorem wc(D:Dr)(nm:Str)(age c d:Int):(zu D nm age ↑(c,d)).2=HP D nm age c:=by
 unfold HP zu;split
 .rfl
 .split
  .simp only
   split
   .rfl
   .rfl
  .rfl
theorem uC{D:Dr}{nm:Str}{age c:Int}(o:(D.kn.map (·.1)).Nodup)(p:D.near<=D.far):HP D nm age c=match D.kn.lookup nm with
  |none=>D.kn
  |some e=>if qE D nm age c="open" then zr D.kn nm #[age,c,none]else if qE D nm age c="wait" then zr D.kn nm #[e.age,e.last,↑(age,c)]else D.kn:=by
 unfold HP;cases e1:D.kn.lookup nm with
 |none=>unfold zu;rw[e1]
 |some e=>
  simp only
  have g:¬(("":Str)="open"):=by decide
  have f:¬(("":Str)="wait"):=by decide
  have l:¬(("wait":Str)="open"):=by decide
  have d:=kP o e1
  by_cases i:qO D e age=true
  .have j:(zu D nm age ↑(c,0)).2=zr D.kn nm (zD D.near D.far e age c).2:=by
    unfold zu;rw[e1];simp only
    rw[Jc i];split<;>rfl
   have a:qE D nm age c=(if c-e.last<1\/c-e.last>D.far then("":Str)else if c-e.last<=D.near\/e.wt=↑(age,c-1)then("open":Str)else("wait":Str)):=by
    unfold qE;rw[e1];simp only
    rw[Jc i]
   rw[j];unfold zD
   by_cases h1:c<=e.last
   .rw[Jc (show c-e.last<1\/c-e.last>D.far from .inl (by lia))]at a
    rw[Jc h1,a,Jb g,Jb f];exact d
   .rw[Jb h1]
    by_cases m:c<=e.last+D.near
    .rw[Jb (show¬(c-e.last<1\/c-e.last>D.far) by lia),Jc (show c-e.last<=D.near\/_ from .inl (by lia))]at a
     rw[Jc m,a,Jc Z]
    .rw[Jb m]
     by_cases n:c<=e.last+D.far
     .rw[Jb (show¬(c-e.last<1\/c-e.last>D.far) by lia)]at a
      rw[Jc n]
      by_cases h:e.wt=↑(age,c-1)
      .rw[Jc (show c-e.last<=D.near\/_ from .inr h)]at a
       rw[Jc h,a,Jc Z]
      .rw[Jb (show¬(c-e.last<=D.near\/e.wt=↑(age,c-1))fromλz=>z.elim (λz=>by lia) h)]at a
       rw[Jb h,a,Jb l,Jc Z]
     .rw[Jc (show c-e.last<1\/c-e.last>D.far from .inr (by lia))]at a
      rw[Jb n,a,Jb g,Jb f];exact d
  .have j:(zu D nm age ↑(c,0)).2=D.kn:=by
    unfold zu;rw[e1];simp only
    rw[Jb i]
   have a:qE D nm age c="":=by
    unfold qE;rw[e1];simp only
    rw[Jb i]
   rw[j,a,Jb g,Jb f]
section
variable(K:ι)(C:Δ)
inductive kQ(vs:Ε)(H:Hp)(Q:VK)(_:XK):Prop
 |mk (a:Da)(D:Dr)(L:Ρ)(p1 p2:Δ)(P R:Ps)(c d d':Int)(h1:vs=[-a.p,-p1,-p2])(h2:M8 K C H a D L)(h3:L.length<=1000000)(h4:Nw D)(h5:cS H p1 P)(h6:cS H p2 R)(h7:Oy P)(h8:Oy R)(h9:fP D P=↑(c,d))(h10:fP D R=↑(c+1,d'))(h11:R.nm=P.nm)(h12:R.age=P.age)(h13:D.kn.lookup R.nm=none)(h14:(D.kn.length:Int)<D.most)(h15:∀H',Mv [a.bd,a.lg] H H'->M8 K C H' a {D with kn:=zr D.kn R.nm ⟨R.age,c+1,none⟩} (L++[.learn P R])->Q .non H')
end
noncomputable def zw(D:Dr)(e:Kb)(age:Int):List (Int×Int):=if qO D e age=true then
  (if e.last+1<4096 then [(e.last+1,if 4095<e.last+D.near then 4095 else e.last+D.near)]else [])++
  (match e.wt with
   |none=>[]
   |some (x,w)=>if x=age/\w+1<=(if 4095<e.last+D.far then 4095 else e.last+D.far)then [(w+1,w+1)]else [])
 else []
noncomputable def Qe(D:Dr)(nm:Str)(age:Int):List (Int×Int):=match D.kn.lookup nm with
 |none=>[]
 |some e=>zw D e age
def Oe(H:Hp)(t:Δ)(zs:List (Int×Int)):Prop:=∃c:Η,H t=↑(.tup (c.map V.ref))/\c.length=zs.length/\∀(i:Nat) (a:Δ) (z:Int×Int),c[i]? =↑a->zs[i]? =↑z->H a=↑(.tup [.int z.1,.int z.2])
def Ry(H:Hp)(t:Δ)(zs:List (Int×Int)):Prop:=∃c:Η,H t=↑(.lst (c.map V.ref))/\c.length=zs.length/\∀(i:Nat) (a:Δ) (z:Int×Int),c[i]? =↑a->zs[i]? =↑z->H a=↑(.tup [.int z.1,.int z.2])
section
variable{z:Int×Int}
theorem Oe.mv(m:Mv S H H')(n:NT S H)(h:Oe H t zs):Oe H' t zs:=by
 let#[d,e,l,r]:=h
 exact#[d,m.tup n e,l,λi a z f c=>m.tup n (r i a z f c)]
theorem Oe.same(s:HJ H H')(h:Oe H t zs):Oe H' t zs:=h.mv (S:=[]) s.mv fi
theorem Ry.add{as:Η}(e:H t=↑(.lst (as.map V.ref)))(l:as.length=zs.length)(r:∀(i:Nat) (a:Δ) (z:Int×Int),as[i]? =↑a->zs[i]? =↑z->H a=↑(.tup [.int z.1,.int z.2]))(hx:H x=↑(.tup [.int z.1,.int z.2])):Ry (HM H t (.lst (as.map V.ref++[-x]))) t (zs++[z]):=by
 have nt:NT [t] H:=NT.one e trivial
 refine#[as++[x],by rw[qb,JI];rfl,by simp [l],λi a y c d=>(Mv.upd1 (a:=t)).tup nt ?_]
 by_cases hi:i<as.length
 .rw[J3 hi]at c
  rw[J3 (by rw[<- l];exact hi)]at d
  exact r i a y c d
 .rw[J9 (by lia)]at c
  rw[J9 (by rw[<- l];lia),<- l]at d
  cases q:i-as.length with
  |zero=>rw[q]at c d;cases c;cases d;exact hx
  |succ k=>rw[q]at c;cases c
end
section
variable(K:ι)(C:Δ)
noncomputable def PR(H:Hp)(v:V):Ο->Prop
 |none=>v= .non
 |some e=>∃a,v= .ref a/\Na H a e
inductive ua(vs:Ε)(H:Hp)(Q:VK)(_:XK):Prop
 |mk (p ta hk bd lg:Δ)(n:Nat)(D:Dr)(v:V)(o:Ο)(age:Int)(h1:vs=[-p,v,.int age])(h2:HL K C H p ta hk bd lg n D)(h3:PR H v o)(h4:∀t H',HJ H H'->Oe H' t (match(generalizing:=false) o with|none=>[]|some e=>zw D e age)->Q (-t) H')
inductive rZ(vs:Ε)(H:Hp)(Q:VK)(_:XK):Prop
 |mk (p ta hk bd lg:Δ)(n:Nat)(D:Dr)(nm:Str)(age:Int)(h1:vs=[-p,.str nm,.int age])(h2:HL K C H p ta hk bd lg n D)(h3:∀t H',HJ H H'->Oe H' t (Qe D nm age)->Q (-t) H')
inductive sw(vs:Ε)(H:Hp)(Q:VK)(_:XK):Prop
 |mk (D:Dr)(h1:vs=[.int D.near,.int D.far,.int (D.kss.length:Int)])(h2:D.least=0)(h3:D.kn=[])(h4:∀m kd H',HJ H H'->H m=none->H kd=none->MJ H' m kd D->Q (-m) H')
inductive cK(vs:Ε)(H:Hp)(Q:VK)(_:XK):Prop
 |mk (m kd p:Δ)(D:Dr)(nm:Str)(age c:Int)(h1:vs=[-m,-p])(h2:MJ H m kd D)(h3:H p=↑(.tup [.str nm,.int age,.int c]))(h4:∀H',HJ H H'->Q (.str (qE D nm age c)) H')
inductive jZ(vs:Ε)(H:Hp)(Q:VK)(_:XK):Prop
 |mk (m kd p:Δ)(D:Dr)(nm:Str)(age c:Int)(h1:vs=[-m,-p])(h2:MJ H m kd D)(h3:H p=↑(.tup [.str nm,.int age,.int c]))(h4:Nw D)(h5:D.near<=D.far)(h6:∀H',Mv [m,kd] H H'->MJ H' m kd {D with kn:=HP D nm age c}->Q (.bl (decide (qE D nm age c="open"))) H')
structure NA(H:Hp)(cd tb kt:Δ)(t:Β)(kss:List Β):Prop where
 e:H cd=↑(.tup [-tb,-kt])
 tb:Rd H tb (.tup (t.map V.int))
 ks:Pn [] H kt kss
noncomputable def QR(t:Β)(kss:List Β)(nm:Str)(age c d:Int):Ps:=#[nm,age,du t (kss.getD age.toNat []) nm c d]
inductive iB(vs:Ε)(H:Hp)(Q:VK)(_:XK):Prop
 |mk (cd tb kt p:Δ)(t:Β)(kss:List Β)(nm:Str)(age c d:Int)(h1:vs=[-cd,-p,.int d])(h2:NA H cd tb kt t kss)(h3:H p=↑(.tup [.str nm,.int age,.int c]))(h4:t.Perm Nf)(h5:ZL nm)(h6:0<=age)(h7:age<kss.length)(h8:0<=c)(h9:c<4096)(h10:bO d)(h11:∀pr H',HJ H H'->cS H' pr (QR t kss nm age c d)->Q (-pr) H')
end
section
variable{S:Η}{H H':Hp}{cd tb kt:Δ}{t:Β}{kss:List Β}
theorem NA.mv(h:NA H cd tb kt t kss)(m:Mv S H H')(n:NT S H):NA H' cd tb kt t kss:=#[m.tup n h.e,m.rd n h.tb,h.ks.mv m n]
theorem NA.same(h:NA H cd tb kt t kss)(s:HJ H H'):NA H' cd tb kt t kss:=h.mv (S:=[]) s.mv fi
end
end L3
namespace S0
open PySem PyProof.Rows
def Rs(xs:Array Nat):Prop:=xs.toList.Pairwise (· < ·)
theorem Rs.at(h:Rs xs){i j:Nat}(hi:i<xs.size)(c:j<xs.size)(a:i<j):xs[i]<xs[j]:=by
 have:=Kg.mp h i j (by simpa using hi) (by simpa using c) a
 simpa using this
theorem jB{xs:Array Nat}(h:Rs xs)(j:Nat):∀(f lo hi:Nat),lo<=hi->hi<=xs.size->hi-lo<=f->(∀i (hx:i<xs.size),i<lo->xs[i]<j)->(∀i (hx:i<xs.size),hi<=i->j<=xs[i])->
  SW xs j f lo hi<=xs.size/\(∀i (hx:i<xs.size),i<SW xs j f lo hi->xs[i]<j)/\(∀i (hx:i<xs.size),SW xs j f lo hi<=i->j<=xs[i])
 |0,lo,hi,h1,h2,h3,h4,h5=>by
  have e:lo=hi:=by lia
  subst e
  exact#[h2,h4,h5]
 |f+1,lo,hi,h1,h2,h3,h4,h5=>by
  unfold SW
  by_cases c:lo<hi
  .rw[Jc c]
   have l:(lo+hi)/2<xs.size:=by lia
   dsimp only
   have m:xs.getD ((lo+hi)/2) j=xs[(lo+hi)/2]:=by simp [KU,l]
   rw[m]
   by_cases g:xs[(lo+hi)/2]<j
   .rw[Jc g]
    refine jB h j f _ _ (by lia) h2 (by lia) (λi a d=>?_) h5
    by_cases e:i=(lo+hi)/2
    .subst e;exact g
    .exact Ke (h.at a l (by lia)) g
   .rw[Jb g]
    refine jB h j f _ _ (by lia) (by lia) (by lia) h4 λi a d=>?_
    by_cases e:i=(lo+hi)/2
    .subst e;lia
    .have:=h.at l a (by lia)
     lia
  .rw[Jb c]
   exact#[by lia,h4,λi hx d=>h5 i hx (by lia)]
theorem eP{xs:Array Nat}(h:Rs xs)(j:Nat):P7 xs j<=xs.size/\(∀i (hi:i<xs.size),i<P7 xs j->xs[i]<j)/\(∀i (hx:i<xs.size),P7 xs j<=i->j<=xs[i]):=
 jB h j xs.size 0 xs.size (JB _) (Jf _) (by lia) (λi _ h=>absurd h (I1 _)) λi hx hi=>absurd hx (by lia)
theorem Rs.put(h:Rs xs)(i:(xs[P7 xs j]? ==↑j)=false):Rs (SetTable.insertAt xs (P7 xs j) j):=by
 let#[h1,s,r]:=eP h j;generalize P7 xs j=p at *
 unfold Rs;rw[SetTable.toList_insertAt,K0];have o:(xs.toList.take p++xs.toList.drop p).Pairwise (· < ·):=by rw[KJ];exact h
 let#[t,n,l]:=K0.mp o;have lo:∀x∈xs.toList.take p,x<j:=by
  intro x a;let#[m,g,rfl]:=HB.mp a;simp at g
  simpa using s m (by lia) (by lia)
 have hi:∀x∈xs.toList.drop p,j<x:=by
  intro x a;let#[m,g,rfl]:=HB.mp a;simp at g
  have c:p+m<xs.size:=by lia
  have d:p<xs.size:=by lia
  have u:j<=xs[p]:=r p d (Jf _)
  have v:xs[p]≠j:=by
   intro e;rw[getElem?_pos xs p d,e]at i;simp at i
  simp only[List.getElem_drop,Ox]
  by_cases q:m=0
  .subst q;simp only[Nat.add_zero];lia
  .have:=h.at d c (by lia)
   lia
 refine#[t,KN.mpr #[hi,n],λx a y f=>?_]
 rcases Jg.mp f with rfl|f
 .exact lo x a
 .exact l x a y f
theorem eO{t:SetTable}{h:Int}:∀(f:Nat) (p:SetTable.Probe) {j:Nat} {d:Χ},(∀a,p.dummy=↑a->t.slot a= .dummy)->
  SetTable.probe.go t (λ_=>h+1) h f p=↑(.empty j d)->t.slot j= .empty/\∀a,d=↑a->t.slot a= .dummy
 |0,p,j,d,hp,e=>nomatch e
 |f+1,p,j,d,hp,e=>by
  unfold SetTable.probe.go at e;have g:∀q:SetTable.Probe,(t.advance q).dummy=q.dummy:=λq=>by
   unfold SetTable.advance;split
   .rfl
   .rfl
  cases hs:t.slot p.j with
  |empty=>
   rw[hs]at e;simp only[SG,SetTable.Met.empty.injEq]at e;let#[rfl,rfl]:=e
   exact#[hs,hp]
  |dummy=>
   rw[hs]at e;refine eO f _ (λa h'=>?_) e
   rw[g]at h';have h':↑p.j=↑a:=h'
   injection h' with h'
   rw[<- h'];exact hs
  |live i=>
   rw[hs]at e;have c:((h+1:Int)==h)=false:=by simp;lia
   simp only[c,D2,JH]at e;exact eO f _ (λa h'=>hp a (by rw[<- g p];exact h')) e
theorem vU{t:SetTable}{j:Nat}{b:Bool}(e:t.freeSlot h=↑(j,b)):∀i,t.slot j≠ .live i:=by
 unfold SetTable.freeSlot at e;split at e
 .rename_i c d g
  let#[l,f]:=eO _ _ (λc h'=>by cases h') g
  simp only[SG,Prod.mk.injEq]at e;let#[a,_]:=e;intro i z;cases d with
  |none=>
   have a:c=j:=a
   rw[<- a,l]at z;cases z
  |some k=>
   have a:k=j:=a
   rw[<- a,f k Z]at z;cases z
 .cases e
def TOk(t:SetTable):Prop:=t.plain=true->Rs t.place
theorem TOk.standIn(t:SetTable)(n:Nat):TOk (t.standIn n):=λh=>nomatch h
theorem DV(h:TOk t)(c:∀i,t.slot j≠ .live i):TOk (t.put j).1:=by
 intro a;have h1:=h a;unfold SetTable.put
 dsimp only
 refine h1.put ?_
 cases e:(t.place[P7 t.place j]? ==↑j)with
 |false=>rfl
 |true=>
  refine absurd ?_ (c (P7 t.place j))
  unfold SetTable.slot
  dsimp only
  rw[e];rfl
theorem vA(h:TOk t)(es:Array (Int×Γ))(c:Int)(x:Γ):TOk (layNew t es c x).2.1/\(layNew t es c x).2.1.led=t.led:=by
 unfold layNew;split
 .rename_i a e d
  dsimp only
  have hk:=DV (j:=a) h (vU d)
  unfold SetTable.orStandIn;split
  .exact#[hk,Z]
  .exact#[TOk.standIn _ _,Z]
 .exact#[TOk.standIn _ _,Z]
theorem iA(f:Nat->Χ):∀l:Κ,(l.filterMap λj=>(f j).map (j,·)).map (·.1)=l.filter λj=>(f j).isSome
 | []=>rfl
 |j::l=>by
  rw[JW,Kd];cases e:f j with
  |none=>simpa using iA f l
  |some k=>simpa using iA f l
theorem sI{mask fg mv:Nat}{led plain:Bool}{hs:Array Int}{t:SetTable}{o:Array Nat}(e:SM mask fg mv led plain hs=↑(t,o)):Rs t.place/\t.dummies= (AA [])/\t.led=led:=by
 unfold SM at e;cases hl:Sy mask hs with
 |none=>rw[hl]at e;exact nomatch e
 |some ow=>
  rw[hl]at e;have e':↑(({mask,place:=(((Ag (mask+1)).filterMap λj=>(ow.getD j none).map (j,·)).map (·.1)).toArray,dummies:= (AA []),finger:=fg,led,moves:=mv,plain}:SetTable),(((Ag (mask+1)).filterMap λj=>(ow.getD j none).map (j,·)).map (·.2)).toArray)=↑(t,o):=e
  injection e' with e'
  injection e' with e1 e2
  subst e1;refine#[?_,9]
  unfold Rs
  dsimp only
  rw[iA];exact List.Pairwise.filter _ Oz
theorem Ak(t:SetTable)(es:Array (Int×Γ))(c:Nat):TOk (relayAll t es c).2.1/\(relayAll t es c).2.1.led=t.led:=by
 unfold relayAll;split
 .rename_i h a e
  dsimp only
  let#[f,g,d]:=sI e;split
  .exact#[λ_=>f,d]
  .exact#[TOk.standIn _ _,Z]
 .exact#[TOk.standIn _ _,Z]
end S0
namespace S0
open PySem PySem.Spec PyProof.Rows
def zC(w:Ω):Bool:=w.params.followText "set-order"
def TW(w:Ω)(t:SetTable):Prop:=zC w=true\/(t.led=true/\TOk t)
section
variable{prog:Ξ}{w:Ω}{K:Type}[DecidableEq K](knd:SC prog w K)(kf:Γ->K)
def SetK(h:Ψ)(a:Δ)(ks:List K):Prop:=∃o es ep t,h.get? a=↑o/\o.ExactSet/\o.data= .set es ep t/\t.fits es.size=true/\es.size<scanBound/\
 ElemsOf knd es.toList/\(es.toList.map λe=>kf e.2).Perm ks/\TW w t
variable{knd kf}
theorem SetK.at{h':Ψ}(x:SetK knd kf h a ks)(e:∀o,h.get? a=↑o->h'.get? a=↑o):SetK knd kf h' a ks:=by
 let#[o,es,ep,t,h1,r]:=x
 exact#[o,es,ep,t,e _ h1,r]
theorem SetK.lt(x:SetK knd kf h a ks):a<h.objs.size:=by
 let#[o,es,ep,t,h1,r]:=x;exact Jl h1
theorem SetK.len(x:SetK knd kf h a ks):ks.length<scanBound:=by
 let#[o,es,ep,t,h1,i,j,f,d,g,c,e]:=x;rw[<- c.length_eq,Je,Jq];exact d
theorem nj(a:∀k v,knd.is k v=true->kf v=k){es:Array (Int×Γ)}(f:ElemsOf knd es.toList)(k:K):
  k∈(es.toList.map λe=>kf e.2)↔∃e∈es.toList,knd.is k e.2=true:=by
 rw[JC];constructor
 .rintro⟨e,d,rfl⟩
  let#[#[g,c,_],_]:=f e d
  exact#[e,d,by rw[a g _ c];exact c]
 .rintro⟨e,d,hk⟩
  exact#[e,d,a k _ hk]
theorem ZH{h:Ψ}{a:Δ}{o:Obj}(ho:h.get? a=↑o)(hd:o.data= .set es ep t)(c:Array (Int×Γ))(t':SetTable):
  (h.update a (TN c t')).get? a=some {o with data:= .set c (ep+1) t'}:=by
 have:=Lf (TN c t') ho (by rw[putSet_of c t' hd];rfl)
 rw[putSet_of c t' hd]at this;exact this
theorem va(a1:∀k v,knd.is k v=true->kf v=k){k:K}{Q:Bool->Θ->Prop}(l:knd.is k x=true)(D:x.scannable=true)
  (hS:SetK knd kf s.heap a ks)(M:ks.length+1<scanBound)
  (h:∀h',Ψ.SameBut a s.heap h'->SetK knd kf h' a (if k∈ks then ks else ks++[k])->Q (decide (k∉ks)) {s with heap:=h'}):
  ε (model prog w) A (setAddHashed a x (knd.hash k)) Q E s:=by
 let#[o,es,ep,t,O,H,hd,hf,hb,p,q,R]:=hS;have u:k∈ks↔∃e∈es.toList,knd.is k e.2=true:=by rw[<- q.mem_iff];exact nj a1 p k
 have a2:es.size=ks.length:=by rw[<- q.length_eq,Je,Jq]
 unfold setAddHashed setAddHashedIn;refine JM (Ja (wpAny_setState_of O hd hf ?_))
 dsimp only
 rw[byScan_of D hb p];simp only[↓reduceIte];unfold setAddByScan;refine Ja (Ja (Ih (Ja (wpAny_setScan_of l O hd hf p ?_))))
 cases hr:O0 (λe=>knd.is k e.2) es.toList with
 |some j=>
  let#[hj,a3,_]:=O1.mp hr
  have hk:k∈ks:=u.mpr #[es.toList[j],IH hj,a3]
  refine Jd (Jd ?_)
  have:=h s.heap (Ψ.SameBut.refl a s.heap) (by rw[Jc hk];exact#[o,es,ep,t,O,H,hd,hf,hb,p,q,R])
  rw[Jn (by simpa using hk)]at this
  exact this
 |none=>
  have hk:k∉ks:=λz=>by
   let#[e,he,F]:=u.mp z
   have:=O8.mp hr e he
   rw[F]at this;cases this
  have T:∀(b:Bool) {m:Θ} {Q':Unit->Θ->Prop},Q' () m->ε (model prog w) A (match b with|true=>rule "set.scan.the-table-gave-way"|false=>pure ()) Q' E m:=
   λb m Q' hq=>by cases b<;>first|exact Jd hq|exact Ih hq
  have f:=layNew_perm t es (knd.hash k) x;have g:=layNew_fits t es (knd.hash k) x;have n:TW w (layNew t es (knd.hash k) x).2.1:=by
   rcases R with z|⟨W,z2⟩
   .exact .inl z
   .let#[G,B]:=vA z2 es (knd.hash k) x
    exact .inr #[B.trans W,G]
  dsimp only
  generalize hL:layNew t es (knd.hash k) x=L at f g n⊢
  let#[d,t1,wd,a4]:=L
  dsimp only at f g n⊢
  rw[PB]at f;have y:ElemsOf knd d.toList:=(p.push l D).perm f
  have r:(d.toList.map λe=>kf e.2).Perm (ks++[k]):=by
   refine(f.map _).trans ?_
   rw[JI];refine q.append ?_
   show [kf x].Perm [k]
   rw[a1 k x l]
  have U:d.size=ks.length+1:=by rw[<- Jq,f.length_eq,Jy,Jq,a2];rfl
  have I:d.size<scanBound:=by rw[U];exact M
  have S:∀i:SetTable,i.fits d.size=true->TW w i->∀(c:Option Bool->Θ->Prop),(∀h',Ψ.SameBut a s.heap h'->SetK knd kf h' a (ks++[k])->c ↑true {s with heap:=h'})->
    ε (model prog w) A (do
     storeSet a d i
     if(! wd&&i.tooFull)=true then do
       (match(relayAll i d (R8 d.size)).2.2 with|true=>rule "set.scan.the-table-gave-way"|false=>pure ())
       storeSet a (relayAll i d (R8 d.size)).1 (relayAll i d (R8 d.size)).2.1
       pure ↑true
      else pure ↑true) c E s:=by
   intro i f2 w2 c hZ;refine Ja (wpAny_storeSet_of O hd ?_ (fits_of_scanBound I))
   have J:=ZH O hd d i;have Y:=G6 s.heap a (TN d i);split
   .have F:=relayAll_perm i d (R8 d.size)
    have C:=relayAll_fits i d (R8 d.size);let#[k1,k2]:=Ak i d (R8 d.size)
    have wr:TW w (relayAll i d (R8 d.size)).2.1:=by
     rcases w2 with z|⟨W,z2⟩
     .exact .inl z
     .exact .inr #[k2.trans W,k1]
    generalize relayAll i d (R8 d.size)=Rl at F C wr⊢
    let#[N,t3,g2]:=Rl
    dsimp only at F C wr⊢
    have P:N.size<scanBound:=by rw[<- Jq,F.length_eq,Jq];exact I
    refine Ja (T _ (Ja (wpAny_storeSet_of J Z ?_ (fits_of_scanBound P))))
    exact Jd (hZ _ (Y.trans (G6 _ a _)) #[_,N,_,t3,ZH J Z N t3,H,Z,C,P,y.perm F,(F.map _).trans r,wr])
   .exact Jd (hZ _ Y #[_,d,_,i,J,H,Z,f2,I,y,r,w2])
  have X:∀h',Ψ.SameBut a s.heap h'->SetK knd kf h' a (ks++[k])->Q true {s with heap:=h'}:=λh' G B=>by
   have:=h h' G (by rw[Jb hk];exact B)
   rw[Jj (by simpa using hk)]at this
   exact this
  refine Ja (T _ ?_)
  split
  .refine Ja ?_
   rw[hashByValue_scannable 8 D];refine Jd ?_
   refine S _ ?_ ?_ _ λh' G B=>Jd (X h' G B)
   .split
    .exact g
    .exact SetTable.fits_plain_off g
   .split
    .exact n
    .rcases n with z|⟨W,z2⟩
     .exact .inl z
     .exact .inr #[W,λz=>nomatch z]
  .refine Ja (Jd ?_)
   simp only[↓reduceIte];exact S _ g n _ λh' G B=>Jd (X h' G B)
end
noncomputable def Zs{K:Type} [DecidableEq K](a:List K)(k:K):List K:=if k∈a then a else a++[k]
noncomputable def cz{K:Type} [DecidableEq K](val:Nat->K)(i:Nat):List K:=((Ag i).map val).foldl Zs []
theorem pG{K:Type} [DecidableEq K](val:Nat->K)(i:Nat):cz val (i+1)=Zs (cz val i) (val i):=by
 unfold cz;rw[Kh,JI,List.foldl_append];rfl
theorem sS{K:Type} [DecidableEq K](val:Nat->K):∀i,(cz val i).length<=i
 |0=>Jf _
 |i+1=>by
  rw[pG];unfold Zs
  have:=sS val i
  split
  .lia
  .rw[Jy,IM];lia
def ddL{K:Type} [DecidableEq K](l:List K):List K:=l.foldl Zs []
theorem vJ{K:Type} [DecidableEq K] [Inhabited K](l:List K):cz (λi=>l.getD i default) l.length=ddL l:=by
 unfold cz ddL;congr 1
 apply KD
 .simp
 .intro i h1 a
  simp [JG,a]
noncomputable abbrev Qw(led:Bool):Obj:={cls:= .type "set",dict:=none,data:= .set (AA []) 0 (.fresh 0 0 led)}
section
variable{prog:Ξ}{w:Ω}{K:Type}[DecidableEq K]{knd:SC prog w K}{kf:Γ->K}
theorem Cu{h:Ψ}{a:Δ}(hg:h.get? a=↑(Qw (! zC w))):SetK knd kf h a []:=by
 exists _,(AA []),(0),_,hg,#[40],9,by unfold scanBound;simp,(λe c=>nomatch c),List.Perm.nil
 cases e:zC w with
 |true=>exact .inl e
 |false=>exact .inr #[Z,λ_=>SU]
section
variable{A:Rj}{R:Result->Θ->Prop}{I:Δ}{fp wr:Η}{G:Array GenState->Array GenState->Prop}{n:Nat}{P:Nat->Γ->Prop}{St:Nat->Θ->Prop}
theorem EV(E:∀k v,knd.is k v=true->kf v=k)(W:WalksS prog w A.in1 I fp wr G n P St)(S:Δ)(j:S∉fp)
  (val:Nat->K)(q:∀i v,P i v->knd.is (val i) v=true/\v.scannable=true)(hb:n+1<scanBound):
  ∀(k i:Nat) (s:Θ),n-i=k->i<=n->St i s->SetK knd kf s.heap S (cz val i)->
   (∀s',Moved (S::wr) G s s'->SetK knd kf s'.heap S (cz val n)->R (.ok (.ret .none)) s')->
   codeAny (model prog w) A (.builtin "set.update.loop" #[[-S,-I],[]]) R s:=by
 have g:S∉wr:=λh=>j (W.sub _ h)
 have a:∀b∈wr,b∈S::wr:=λb hb=>Jv _ hb
 intro k
 induction k with
 |zero=>
  intro i s hk hi c D C;have u:i=n:=by lia
  subst u;refine I0 SL ?_
  rw[R3 R4 _]
  show ε _ A.in1 (pyNext (-I) >>= _) _ _ s
  refine Ja (W.done s _ _ c λs' r=>?_)
  show ε _ A.in1 (ret Γ.none) _ _ s'
  exact Jd (C s' (r.mono a) (D.at λo e=>r.heap S _ g e))
 |succ k ih=>
  intro i s hk hi c D C;have f:i<n:=by lia
  refine I0 SL ?_
  rw[R3 R4 _]
  show ε _ A.in1 (pyNext (-I) >>= _) _ _ s
  refine Ja (W.item i s _ _ f c λv s' H p r=>?_)
  let#[l,z]:=q i v H;have F:SetK knd kf s'.heap S (cz val i):=D.at λo e=>r.heap S _ g e
  show ε _ A.in1 (holding [v] (setAdd S v) >>= _) _ _ s'
  refine Ja (JM ?_)
  unfold setAdd;refine JM (Ja (knd.pyHash (k:=val i) l ?_))
  have:=sS val i
  refine va (s:={s' with toks:=s'.toks+1}) E l z F (by lia) λh' t x=>?_
  have B:SetK knd kf h' S (cz val (i+1)):=by rw[pG];exact x
  refine Jd #[plainId_quiet R4 _,ih (i+1) _ (by lia) f (W.frame _ s' _ _ p (IL _) λb hb o e=>?_) B λy m d=>?_]
  .rw[t.2 b (λh:b=S=>j (by rw[<- h];exact hb))];exact e
  .refine C y (Moved.trans W.gtrans ((r.mono a).then_heap (IL _) λb o hb e=>?_) m) d
   rw[t.2 b (λh:b=S=>hb (by rw[h];exact Jr))];exact e
end
variable{A:Rj}{s:Θ}
theorem FS(a:Γ){Q₁:HG}(h:Q₁ (-s.heap.objs.size) {s with heap:=s.heap.push (Qw (! zC w))}):
  codeAny (model prog w) A (.call (.builtin "set.__new__") #[[.type "set",a],[]]) (wants Q₁ E) s:=by
 refine codeAny_of_tree ?_
 show ε _ A.in1 (do checkBuiltinCall "set.__new__" #[[.type "set",a],[]];again (.builtin "set.__new__" #[[.type "set",a],[]])) _ _ s
 refine Ja (Iy (PySem.F.newCall_set_1 a) (Jd #[plainId_quiet PySem.F.plain_set_new _,I0 PySem.F.entry_set_new ?_]))
 rw[R3 PySem.F.plain_set_new _];unfold γ.«set.__new__» γ.Frozenset.newClass
 have c:=sub_set_self;let#[e,g,d,tk,f]:=s
 dsimp only
 wp_walk
 refine wpAny_askSetting (Jd ?_)
 dsimp only
 simp only[newObj];refine Ja (wpAny_alloc (Jd ?_))
 exact Jd h
def Ci(knd:SC prog w K)(kf:Γ->K)(s:Θ)(ks:List K)(r:Γ)(a:Θ):Prop:=
 r= .none/\∃h' tk,a={s with heap:=h',toks:=tk}/\SetK knd kf h' s.heap.objs.size ks/\∀b o,b<s.heap.objs.size->s.heap.get? b=↑o->h'.get? b=↑o
theorem DW(h:∀k v,knd.is k v=true->kf v=k){val:Nat->K}(x:A.handled=none)(C:s.heap.IsList t items)
  (hv:∀i v,items[i]? =↑v->knd.is (val i) v=true/\v.scannable=true)(hb:items.size+1<scanBound):
  ε (model prog w) A.in1.in1 (γ.«set.__init__» #[[-s.heap.objs.size,-t],[]]) (λf s'=>∃v,f= .done (.ret v)/\Ci knd kf s (cz val items.size) v s') E {s with heap:=s.heap.push (Qw (! zC w))}:=by
 let#[#[oc,od,G,B],l,p,n,q]:=C;simp only at p q
 subst p q;have d:(s.heap.push (Qw (! zC w))).get? t=some #[.type "list",od,.seq items n,B]:=Jk _ l
 have f1:=PySem.F.sub_list_set;have f2:=PySem.F.sub_list_frozenset;have H:(Γ.type "list"==Γ.type "dict")=false:=by decide
 have m:(s.heap.push (Qw (! zC w))).IsList t items:=#[_,d,Z,n,Z]
 have F:(s.heap.push (Qw (! zC w))).get? s.heap.objs.size=↑(Qw (! zC w)):=Jp _ Z
 unfold γ.«set.__init__» noKeywords γ.Frozenset.updateFrom
 generalize hPI:pyIter=PI
 wp_walk
 subst hPI;refine LA m (Ja (wpAny_runValue ?_))
 have lt:t<s.heap.objs.size:=Jl l
 have sz:(s.heap.push (Qw (! zC w))).objs.size=s.heap.objs.size+1:=JU ..
 have r:A.in1.in1.in1.handled=none:=by simp [x]
 have u:t≠(s.heap.push (Qw (! zC w))).objs.size:=by rw[sz];exact Jm (Ik lt)
 have D:s.heap.objs.size∉[(s.heap.push (Qw (! zC w))).objs.size,t]:=by
  rw[sz];simp only[Jg,Jt,Ju,not_or]
  exact#[Jm (G0 _),J1 lt]
 refine EV h ((Walks.list r _ t u items).toS) s.heap.objs.size D val hv hb items.size 0 _ (by lia) (JB _) #[#[_,Jp _ Z,9],m.push _] (Cu (Jk _ F)) λs' mv j=>?_
 let#[h',y,z,g,c]:=s'
 obtain rfl:y=s.gens:=mv.gens
 obtain rfl:z=s.drawn:=mv.drawn
 obtain rfl:c=s.os:=mv.os
 show ε _ _ _ _ _ _
 refine Jd ?_
 show ε _ _ (ret Γ.none) _ _ _
 refine Jd #[41,h',g,Z,j,λb o a e=>mv.heap b o ?_ (Jk _ (Jk _ e))]
 rw[sz];simp only[Jg,Jt,Ju,not_or]
 exact#[Jm a,Jm (Ik a)]
theorem we(n:∀k v,knd.is k v=true->kf v=k){val:Nat->K}{Q:HG}(y:A.handled=none)(C:s.heap.IsList t items)
  (hv:∀i v,items[i]? =↑v->knd.is (val i) v=true/\v.scannable=true)(hb:items.size+1<scanBound)
  (h:∀(h':Ψ) (tk:Nat),SetK knd kf h' s.heap.objs.size (cz val items.size)->(∀b o,s.heap.get? b=↑o->h'.get? b=↑o)->Q (-s.heap.objs.size) {s with heap:=h',toks:=tk}):
  ε (model prog w) A (call (.type "set") [-t]) Q E s:=by
 let#[c,tl,u]:=PySem.F.called_set.mro;have H:=PySem.F.called_set.made;have G:=PySem.F.called_set.sub;have D:=PySem.F.called_set.notType;have F:=PySem.F.called_set.canCreate;have I:=PySem.F.typeCall_set_1 (-t);refine wpAny_call (codeAny_of_tree ?_)
 show ε _ _ (callAny (.type "set") _) _ _ _
 refine Jd #[Sv _ nofun,I0 PySem.F.entry_type_call ?_]
 rw[Around.under_plain (weight_type_call_type "set" [-t] []) Z]
 repeat (any_goals (first|assumption|wp_step))
 refine Lm (FS (-t) (E:=E) (Q₁:=λg f=>g= .ref s.heap.objs.size/\f={s with heap:=s.heap.push (Qw (! zC w))}) #[9]) λr f l=>?_
 cases r with
 |error e=>exact l
 |ok fl=>
  cases fl with
  |ret g=>
   let#[rfl,rfl]:=l;have x:Θ.TypeIs {s with heap:=s.heap.push (Qw (! zC w))} (-s.heap.objs.size) "set":=#[_,Jp _ Z,Z]
   have n1:=PySem.F.called_set.init.lookup;have n2:=PySem.F.called_set.init.bind (-s.heap.objs.size)
   repeat (any_goals (first|assumption|wp_step))
   refine Lm (codeAny_call_builtin (R:=wants (Ci knd kf s (cz val items.size)) E) PySem.F.called_set.init.plain PySem.F.entry_set_init (check_set_init_1 x (Jx (DW n y C hv hb) (λB s' ⟨v,e,d⟩=>by subst e;exact d) λ_ _ z=>z))) λj q a=>?_
   cases j with
   |error e=>exact a
   |ok fl₂=>
    cases fl₂ with
    |ret r=>
     let#[rfl,h',tk,rfl,p,m]:=a
     repeat (any_goals (first|assumption|wp_step))
     exact h _ _ p λb o e=>m b o (Jl e) e
    |_=>exact a.elim
  |_=>exact l.elim
end
theorem dw{a:Type}:∀(l:List a) (i:Nat) (x:a),l[i]? =↑x->(x::l.eraseIdx i).Perm l
 | [],i,x,h=>by simp at h
 |y::l,0,x,h=>by simp at h;subst h;exact RP _
 |y::l,i+1,x,h=>by
  have c:=dw l i x (by simpa using h)
  rw[List.eraseIdx_cons_succ]
  exact(List.Perm.swap y x _).trans (c.cons y)
theorem rR{c:Type}(next:Nat->Nat):∀(f k:Nat) (l:List c) (out:Array c),l.length=f->(pickOrder.go next f k l out).toList.Perm (out.toList++l)
 |0,k,l,out,h=>by
  have e:l=[]:=Kz.mp h
  subst e;unfold pickOrder.go;simp
 |f+1,k,l,out,h=>by
  unfold pickOrder.go;have d:next k%l.length<l.length:=Ki _ (by lia)
  have a:=Jh d;rw[a]
  dsimp only
  have g:=dw l _ _ a;refine(rR next f (k+1) _ _ (by rw[PF,Jc d];lia)).trans ?_
  rw[PB,IU];exact List.Perm.append_left _ g
theorem kg{a:Type}(next:Nat->Nat)(xs:Array a):(pickOrder next xs).toList.Perm xs.toList:=by
 have:=rR next xs.size 0 xs.toList (AA []) (by simp)
 simpa [pickOrder]using this
section
variable{M:Model}{A:Rj}{E:HG}
theorem nh{s:Θ}{n:Nat}{Q:Nat->Θ->Prop}(hn:n≠0)(h:∀i,i<n->Q i {s with drawn:=s.drawn.bump a}):ε M A (choose a n) Q E s:=
 λ_ _ _=>#[hn,h _ (Ki _ (Oi hn))]
theorem jn{c:Type}:∀(n:Nat) (xs:List c) {s:Θ} {Q:List c->Θ->Prop},xs.length<=n->(∀ys d,ys.Perm xs->Q ys {s with drawn:=d})->ε M A (drawOrder n xs) Q E s
 |0,xs,s,Q,hl,h=>by
  have e:xs=[]:=Kz.mp (by lia)
  subst e;exact Jd (h [] s.drawn (RP _))
 |n+1,[],s,Q,hl,h=>Jd (h [] s.drawn (RP _))
 |n+1,x::xs,s,Q,hl,h=>by
  show ε M A (do
   let i <- choose .order (x::xs).length
   match(x::xs)[i]? with
   |some y=>return y::(<- drawOrder n ((x::xs).eraseIdx i))
   |none=>unsupported "internal:drawOrder") Q E s
  refine Ja (nh (by simp) λi hi=>?_)
  have a:=Jh hi;rw[a]
  dsimp only
  refine Ja (jn n _ (by rw[PF,Jc hi];simp at hl⊢;lia) λys d f=>Jd (h _ d ?_))
  exact(f.cons _).trans (dw _ _ _ a)
end
noncomputable abbrev nJ(f:Γ)(i:Nat)(a:Δ)(n ep:Nat):Obj:={cls:= .type "set_iterator",data:= .fields (AA [f,.int i 0,-a,.int n 0,.int ep 0])}
def Way(w:Ω)(a T:Δ)(es:Array (Int×Γ))(ep:Nat)(t:SetTable)(vs:Ζ)(i:Nat)(f:Γ)(h:Ψ):Prop:=
 (zC w=true/\(∃z:Nat,f= .int z 0)/\vs=(pickOrder (w.params.setOrder a ep) es).toList.map (·.2))\/
 (zC w=false/\(! t.plain&&decide (es.size>1))=false/\t.led=true/\Rs t.place/\(∃z:Nat,f= .int z 0/\P7 t.place z=i)/\vs=es.toList.map (·.2))\/
 (∃ps:Κ,f= .ref T/\h.IsTuple T (ps.map λp:Nat=>Γ.int (p:Int) 0).toArray/\vs.map some=ps.map λp=>es[p]?.map (·.2))
theorem Way.keep{h':Ψ}(x:Way w a T es ep t vs i f h)
  (e:∀o,h.get? T=↑o->h'.get? T=↑o):Way w a T es ep t vs i f h':=by
 rcases x with x|x|⟨ps,d,⟨o,c,g⟩,j⟩
 .exact .inl x
 .exact .inr (.inl x)
 .exact .inr (.inr #[ps,d,#[o,e _ c,g],j])
theorem uX(a:Δ)(c d ep:Nat):setNext a c d ep=(do
 let(es,ec,t) <- setState a
 if <- setsByText then
  if ec != ep then unsupported "set_iterator.__next__:elements-changed"
  return ((<- setWalk a)[d]?).map λe=>(e.2,c)
 if ! t.plain&&es.size>1 then unsupported "set_iterator.__next__:the-table-is-plain-no-more"
 (do if ! t.led&& ! es.isEmpty then unsupported "set:maker-not-led":Sem Unit)
 let i:=P7 t.place c
 return match es[i]?,t.place[i]? with
  |some (_,x),↑j=>↑(x,j+1)
  |_,_=>none):=Z
section
theorem Q7{Q:Bool->Θ->Prop}(h:Q (zC w) s):ε (model prog w) A setsByText Q E s:=
 Ja (wpAny_askSetting (Jd h))
variable{ep:Nat}{i:Nat}
theorem rM{Q:Option (Γ×Nat)->Θ->Prop}(ho:s.heap.get? a=↑o)(hd:o.data= .set es ep t)(hf:t.fits es.size=true){z:Nat}(W:Way w a T es ep t vs i (.int z 0) s.heap)
  (h:∀r,r.map (·.1)=vs[i]? ->(∀f:Nat,r.map (·.2)=↑f->Way w a T es ep t vs (i+1) (.int f 0) s.heap)->Q r s):ε (model prog w) A (setNext a z i ep) Q E s:=by
 rw[uX];refine Ja (wpAny_setState_of ho hd hf ?_)
 dsimp only
 refine Ja (Q7 ?_)
 rcases W with⟨d,⟨u,l⟩,j⟩|⟨d,l,j,m,⟨u,v,D⟩,q⟩|⟨ps,d,_⟩
 .rw[d,Jc Z]
  simp only[bne_self_eq_false,D2,JH];refine Ja ?_
  unfold setWalk;refine Ja (wpAny_setState_of ho hd hf ?_)
  dsimp only
  refine Ja (Q7 ?_)
  rw[d,Jc Z];refine Ja (wpAny_askSetting (Jd (Jd (h _ ?_ λf _=> .inl #[d,#[f,Z],j]))))
  rw[j,Jo,PH,KI];rfl
 .rw[d,Jb ⋯,l]
  simp only[D2,JH,j,KW,Ii];refine Ja (Jd ?_)
  have C:z=u:=by injection v with v;lia
  subst C;rw[D];have B:t.place.size=es.size:=by
   simp only[R6,JF,J7]at hf;exact hf.1
  refine Jd (h _ ?_ λf g=> .inr (.inl #[d,l,j,m,#[f,Z,?_],q]))
  .rw[q,Jo,KI]
   by_cases hi:i<es.size
   .rw[getElem?_pos es i hi,getElem?_pos t.place i (by lia)];rfl
   .rw[K1 (by lia)];rfl
  .by_cases hi:i<es.size
   .have e:i<t.place.size:=by lia
    rw[getElem?_pos es i hi,getElem?_pos t.place i e]at g;simp only[PJ,SG]at g;subst g;let#[H,x,y]:=eP m (t.place[i]+1)
    generalize P7 t.place (t.place[i]+1)=p at *
    have I:¬p<=i:=λc=>by have:=y i e c;lia
    have F:¬i+2<=p:=λc=>by
     have n:i+1<t.place.size:=by lia
     have J:=x (i+1) n (by lia)
     have G:=m.at e n (by lia)
     lia
    lia
   .rw[K1 (by lia)]at g;simp at g
 .cases d
end
theorem slot_si_next:Slot "set_iterator" "__next__" "set_iterator.__next__":=
 .of (owner:="set_iterator") (n:="__next__") (by rw[LI,LJ];kernel_rfl) nofun nofun nofun
  (by first|exact .inl nofun|exact .inr nofun) (by rw[Li];kernel_rfl)
theorem fk:entryFor table "set_iterator.__next__"=some γ.«set_iterator.__next__»:=entryFor_of_tree (by kernel_rfl)
theorem fM(a:Γ):argsOk "set_iterator.__next__" #[[a],[]]:=by unfold argsOk;kernel_rfl
theorem fI:Slot "set_iterator" "__iter__" "set_iterator.__iter__":=
 .of (owner:="set_iterator") (n:="__iter__") (by rw[LI,LJ];kernel_rfl) nofun nofun nofun
  (by first|exact .inl nofun|exact .inr nofun) (by rw[Li];kernel_rfl)
theorem lL:entryFor table "set_iterator.__iter__"=some γ.«dict_keyiterator.__iter__»:=
 entryFor_alias (id':="dict_keyiterator.__iter__") (by kernel_rfl) Z nofun (by kernel_rfl)
theorem pN(a:Γ):argsOk "set_iterator.__iter__" #[[a],[]]:=by unfold argsOk;kernel_rfl
theorem jw:entryFor table "set.__iter__"=some γ.«frozenset.__iter__»:=
 entryFor_alias (id':="frozenset.__iter__") (by kernel_rfl) Z nofun (by kernel_rfl)
section
variable{ep:Nat}{i:Nat}
theorem gK{h:Ψ}{I:Δ}{o:Obj}(ho:h.get? I=↑o)(hd:o.data= .fields xs)(k:Nat)(x:Γ):
  (h.update I (TC (·.setIfInBounds k x))).get? I=some {o with data:= .fields (xs.setIfInBounds k x)}:=by
 rw[Lf _ ho (L9 (Lq hd _))];let#[c,d,a,e]:=o
 dsimp only at hd
 subst hd;rfl
theorem Du{I:Δ}{v:Γ}{Q:Ν->Θ->Prop}(d:s.heap.get? I=↑(nJ f i a es.size ep))(ho:s.heap.get? a=↑o)(hd:o.data= .set es ep t)(hf:t.fits es.size=true)
  (W:Way w a T es ep t vs i f s.heap)(N:T≠I)(hv:vs[i]? =↑v)
  (u:∀C h',Ψ.SameBut I s.heap h'->h'.get? I=↑(nJ C (i+1) a es.size ep)->Way w a T es ep t vs (i+1) C h'->Q ↑v {s with heap:=h'}):
  ε (model prog w) A (pyNext (-I)) Q E s:=by
 have m:s.TypeIs (-I) "set_iterator":=#[_,d,Z]
 unfold pyNext;refine Ja (IQ (wpAny_callSpecial?_slot (name:=RS "__next__") m slot_si_next (JY slot_si_next m fk ?_ (fM _))))
 unfold γ.«set_iterator.__next__»
 refine Ja (Jd (Ja (wpAny_fieldsOf d Z ?_)))
 dsimp only
 refine Ja ?_
 unfold setEntries;refine Ja (wpAny_setState_of ho hd hf (Jd ?_))
 dsimp only
 simp only[bne_self_eq_false,D2,JH];have keep:∀(k:Nat) (x:Γ),∀(h:Ψ),∀o,h.get? T=↑o->(h.update I (TC (·.setIfInBounds k x))).get? T=↑o:=λk x h o e=>by
  rw[LD _ _ (Ne.symm N)];exact e
 have c:∀(E':HG) (z:Nat),f= .int z 0->ε (model prog w) A.in1 (do
   match <- setNext a z i ep with
   |some (x,next)=>
    setField (-I) 0 (rawInt next)
    setField (-I) 1 (rawInt ((i:Int)+1))
    ret x
   |none=>setField (-I) 2 .none;raiseNew (<- newExc (.type "StopIteration") [])) (λc s'=>∃v,c= .done (.ret v)/\(ε (model prog w) A (pure ↑v) Q E s')) E' s:=by
  intro E' z M;subst M;refine Ja (rM ho hd hf W λr h1 l=>?_)
  rw[hv]at h1;cases r with
  |none=>cases h1
  |some p=>
   let#[x,j]:=p;simp only[PJ,SG]at h1;subst h1
   dsimp only
   refine Ja (II d Z (by simp) ?_)
   have g:=gK d Z 0 (rawInt (j:Int))
   refine Ja (II g Z (by simp) ?_)
   have F:=gK g Z 1 (rawInt ((i:Int)+1))
   refine Jd #[0,Jd (u (.int j 0) _ ((G6 ..).trans (G6 ..)) ?_ ((l j Z).keep λo e=>keep _ _ _ _ (keep _ _ _ _ e)))]
   rw[F];simp [rawInt]
 rcases id W with⟨_,⟨z,rfl⟩,_⟩|⟨_,_,_,_,⟨z,rfl,_⟩,_⟩|⟨ps,rfl,⟨D,y,L,n,B⟩,q⟩
 .exact c _ z Z
 .exact c _ z Z
 .dsimp only
  refine Ja (IW y B ?_)
  dsimp only
  have h1:(vs.map some)[i]? =↑(↑v):=by rw[Jo,hv];rfl
  rw[q,Jo]at h1;let#[p,H,l]:=JO.mp h1;let#[e,K,G]:=JO.mp l;have J:((ps.map λp:Nat=>Γ.int (p:Int) 0).toArray)[((i:Nat):Int).toNat]? =↑(.int (p:Int) 0):=by
   rw[Iw,Kj,Jo,H];rfl
  rw[J]
  dsimp only
  refine Ja ?_
  unfold setNextDrawn;refine Ja (wpAny_setState_of ho hd hf ?_)
  dsimp only
  rw[Iw,Iw,K];simp only[bne_self_eq_false,D2,JH];refine Jd (Ja (II d Z (by simp) ?_))
  have g:=gK d Z 1 (rawInt ((i:Int)+1))
  refine Jd #[0,Jd ?_]
  rw[G];refine u (-T) _ (G6 ..) ?_ (.inr (.inr #[ps,Z,#[D,keep _ _ _ _ y,L,n,B],q]))
  rw[g];simp [rawInt]
theorem wX{B:Rj}{s:Θ}{Q:Ν->Θ->Prop}(f:B.handled=none)(h:∀h',(∀b o,s.heap.get? b=↑o->h'.get? b=↑o)->Q none {s with heap:=h'}):
  ε (model prog w) B.in1 (newExc (.type "StopIteration") [] >>= raiseNew) (λ(d:Fin) s'=>∃v,d= .done (.ret v)/\ε (model prog w) B (pure ↑v) Q E s')
   (λe s'=>ε (model prog w) B (do
     let c <- isInstance e (Γ.type "StopIteration")
     if c=true then pure none else throw e) Q E s') s:=by
 refine Ja ?_
 simp only[newExc,newTuple];refine Ja (J6 ?_ (by size_fits))
 refine Ja (m:=firstArgMember _ _) (Iy (a:=Γ.none) (by first|rfl|(simp only[firstArgMember];rfl)) ?_)
 refine J6 ?_ (by size_fits)
 simp only[raiseNew];refine Ja (wpAny_handled ?_)
 rw[show B.in1.handled=none from f]
 refine Ja (Jd (wpAny_throw ?_))
 refine Ja (IX (T:="StopIteration") (b:=true) #[_,Jp _ Z,Z] LU ?_)
 exact Jd (h _ λb o e=>Jk _ (Jk _ e))
theorem Ef{I:Δ}{Q:Ν->Θ->Prop}(m:A.handled=none)(j:s.heap.get? I=↑(nJ f i a es.size ep))(ho:s.heap.get? a=↑o)(hd:o.data= .set es ep t)(hf:t.fits es.size=true)
  (W:Way w a T es ep t vs i f s.heap)(hv:vs[i]? =none)
  (l:∀h',(∀b o,b≠I->s.heap.get? b=↑o->h'.get? b=↑o)->Q none {s with heap:=h'}):
  ε (model prog w) A (pyNext (-I)) Q E s:=by
 have q:s.TypeIs (-I) "set_iterator":=#[_,j,Z]
 unfold pyNext;refine Ja (IQ (wpAny_callSpecial?_slot (name:=RS "__next__") q slot_si_next (JY slot_si_next q fk ?_ (fM _))))
 unfold γ.«set_iterator.__next__»
 refine Ja (Jd (Ja (wpAny_fieldsOf j Z ?_)))
 dsimp only
 refine Ja ?_
 unfold setEntries;refine Ja (wpAny_setState_of ho hd hf (Jd ?_))
 dsimp only
 simp only[bne_self_eq_false,D2,JH];have g:∀(k:Nat) (x:Γ) (h:Ψ) (b:Δ) (o:Obj),b≠I->h.get? b=↑o->(h.update I (TC (·.setIfInBounds k x))).get? b=↑o:=λk x h b o n e=>by
  rw[LD _ _ (Ne.symm n)];exact e
 have d:∀(z:Nat),f= .int z 0->ε (model prog w) A.in1 (do
   match <- setNext a z i ep with
   |some (x,next)=>
    setField (-I) 0 (rawInt next)
    setField (-I) 1 (rawInt ((i:Int)+1))
    ret x
   | none=>setField (-I) 2 .none;raiseNew (<- newExc (.type "StopIteration") [])) (λd s'=>∃v,d= .done (.ret v)/\(ε (model prog w) A (pure ↑v) Q E s')) (λe s'=>ε (model prog w) A (do
     let c <- isInstance e (Γ.type "StopIteration")
     if c=true then pure none else throw e) Q E s') s:=by
  intro z u;subst u;refine Ja (rM ho hd hf W λr h1 J=>?_)
  rw[hv]at h1;cases r with
  |some p=>cases h1
  |none=>
   dsimp only
   refine Ja (II j Z (by simp) ?_)
   exact wX m λh' hk=>l h' λb o n e=>hk b o (g _ _ _ _ _ n e)
 rcases id W with⟨_,⟨z,rfl⟩,_⟩|⟨_,_,_,_,⟨z,rfl,_⟩,_⟩|⟨ps,rfl,⟨G,D,H,n,F⟩,B⟩
 .exact d z Z
 .exact d z Z
 .dsimp only
  refine Ja (IW D F ?_)
  dsimp only
  have h1:(vs.map some)[i]? =none:=by rw[Jo,hv];rfl
  rw[B,Jo]at h1;have y:((ps.map λp:Nat=>Γ.int (p:Int) 0).toArray)[((i:Nat):Int).toNat]? =none:=by
   rw[Iw,Kj,Jo];cases hp:ps[i]? with
   |none=>rfl
   |some p=>rw[hp]at h1;cases h1
  rw[y]
  dsimp only
  refine Ja (II j Z (by simp) ?_)
  have C:=gK j Z 0 (rawInt 0);refine Ja (II C Z (by simp) ?_)
  exact wX m λh' hk=>l h' λb o n e=>hk b o (g _ _ _ _ _ n (g _ _ _ _ _ n e))
theorem BN{I:Δ}(u:A.handled=none)(x:T≠I)(y:a≠I)(hl:vs.length=es.size):Walks prog w A I [I,a,T] [I] es.size (λi v=>vs[i]? =↑v)
  (λi h=>(∃o,h.get? a=↑o/\o.data= .set es ep t/\t.fits es.size=true)/\∃f,h.get? I=↑(nJ f i a es.size ep)/\Way w a T es ep t vs i f h) where
 sub:=λb j=>by simp at j;simp [j]
 frame:=λi h h' ⟨⟨o,l,g⟩,f,d,n⟩ hk=>#[#[o,hk a (by simp) o l,g],f,hk I (by simp) _ d,n.keep λo e=>hk T (by simp) o e]
 item:=λi s Q E hi ⟨⟨o,l,g,c⟩,f,d,n⟩ m=>by
  have q:vs[i]? =some vs[i]:=Jh (by omega)
  refine Du d l g c n x q λz h' r h1 B=>m _ h' s.toks q #[#[o,by rw[r.2 a y];exact l,g,c],z,h1,B] λb o j e=>?_
  rw[r.2 b (λh=>j (by simp [h]))];exact e
 done:=λs Q E ⟨⟨o,l,g,c⟩,f,d,n⟩ m=>Ef u d l g c n (MA (by omega)) λh' hk=>m h' s.toks λb o j e=>hk b o (λh=>j (by simp [h])) e
 self:=λi s Q E ⟨_,f,d,_⟩ m=>by
  have p:s.TypeIs (-I) "set_iterator":=#[_,d,Z]
  refine wpAny_pyIter_slot p fI (JY fI p lL ?_ (pN _))
  show ε _ _ (ret (-I)) _ _ s
  exact Jd #[0,"set_iterator",_,p,slot_si_next.lookup,m]
end
section
variable{es:Array (Int×Γ)}{ep:Nat}
theorem uQ(h:Rs xs):P7 xs 0=0:=by
 let#[h1,a,c]:=eP h 0;generalize P7 xs 0=p at *
 cases p with
 |zero=>rfl
 |succ p=>exact absurd (a 0 (by lia) (by lia)) (I1 _)
theorem Rs.few{xs:Array Nat}(h:xs.size<=1):Rs xs:=by
 unfold Rs;rw[Kg];intro i j hi a c;simp at hi a
 lia
theorem vi{ps:Κ}(hp:ps.Perm (Ag es.size)):∃vs:Ζ,vs.map some=(ps.map λp=>es[p]?.map (·.2))/\vs.Perm (es.toList.map (·.2)):=by
 exists ps.map λp=>(es[p]?.map (·.2)).getD .none,?_
 .rw[Ir]
  refine Lr λp h=>?_
  have a:p<es.size:=JT.mp (hp.mem_iff.mp h)
  show ↑((es[p]?.map (·.2)).getD .none)=_
  rw[getElem?_pos es p a];rfl
 .refine(hp.map _).trans (List.Perm.of_eq ?_)
  apply KD
  .simp
  .intro i h1 c
   simp at h1
   simp [h1]
theorem EF{Q:HG}(ho:s.heap.get? a=↑o)(m:o.ExactSet)(hd:o.data= .set es ep t)(hf:t.fits es.size=true)(hb:es.size<scanBound)(x:TW w t)
  (q:∀(h':Ψ) (d:Drawn) (I T:Δ) (vs:Ζ) (f:Γ),s.heap.objs.size<=I->T≠I->a≠I->(T=a\/s.heap.objs.size<=T)->(∀b o,s.heap.get? b=↑o->h'.get? b=↑o)->vs.Perm (es.toList.map (·.2))->
   h'.get? I=↑(nJ f 0 a es.size ep)->Way w a T es ep t vs 0 f h'->Q (-I) {s with heap:=h',drawn:=d}):
  ε (model prog w) A (pyIter (-a)) Q E s:=by
 have r:s.TypeIs (-a) "set":=#[o,ho,m.1]
 have h:a<s.heap.objs.size:=Jl ho
 refine wpAny_pyIter_slot r PySem.F.slot_set_iter (JY PySem.F.slot_set_iter r jw ?_ (PySem.F.args_set_iter_1 _))
 unfold γ.«frozenset.__iter__»
 refine Ja ?_
 show ε _ _ (pure a) _ _ _
 refine Jd (Ja ?_)
 unfold γ.Frozenset.sizeOf setEntries;refine Ja (Ja (wpAny_setState_of ho hd hf (Jd (Jd ?_))))
 refine Ja ?_
 unfold setDrawn;refine Ja (wpAny_setState_of ho hd hf ?_)
 dsimp only
 refine Ja (Q7 (Jd ?_))
 show ε _ _ (if(! zC w&&(! t.plain&&decide (es.size>1)))=true then _ else _) _ _ _
 by_cases g:(! zC w&&(! t.plain&&decide (es.size>1)))=true
 .rw[Jc g]
  refine Ja (jn _ _ (by simp) λps d l=>?_)
  let#[vs,B,F]:=vi l;refine Ja (wpAny_newTuple (items:=ps.map λi:Nat=>rawInt (i:Int)) ?_ (by rw[Je,l.length_eq,E1];exact fits_of_scanBound hb))
  have p:(s.heap.push {cls:= .type "tuple",data:= .seq (ps.map λi:Nat=>rawInt (i:Int)).toArray}).get? s.heap.objs.size=some {cls:= .type "tuple",data:= .seq (ps.map λi:Nat=>rawInt (i:Int)).toArray}:=Jp _ Z
  have n:=Jk {cls:= .type "tuple",data:= .seq (ps.map λi:Nat=>rawInt (i:Int)).toArray} ho
  unfold setEpoch;refine Ja (Ja (wpAny_setState_of (s:={s with heap:=s.heap.push {cls:= .type "tuple",data:= .seq (ps.map λi:Nat=>rawInt (i:Int)).toArray},drawn:=d}) n hd hf (Jd ?_)))
  unfold newFields;refine Ja (J6 (Jd #[0,"set_iterator",_,#[_,Jp _ Z,Z],slot_si_next.lookup,?_]))
  refine q _ d _ s.heap.objs.size vs (-s.heap.objs.size) (by rw[JU];exact IL _) (by rw[JU];exact Jm (G0 _)) (by rw[JU];exact Jm (Ik h)) (.inr (Jf _))
   (λb o e=>Jk _ (Jk _ e)) F (Jp _ Z) (.inr (.inr #[ps,Z,?_,B]))
  exact#[_,Jk _ p,Z,(0),Z]
 .rw[Jb g]
  refine Ja (Jd ?_)
  unfold setEpoch;refine Ja (Ja (wpAny_setState_of ho hd hf (Jd ?_)))
  unfold newFields;refine Ja (J6 (Jd #[0,"set_iterator",_,#[_,Jp _ Z,Z],slot_si_next.lookup,?_]))
  have u:∀vs:Ζ,vs.Perm (es.toList.map (·.2))->Way w a a es ep t vs 0 (.int (0:Nat) 0) (s.heap.push (nJ (.int (0:Nat) 0) 0 a es.size ep))->Q (-s.heap.objs.size) {s with heap:=s.heap.push (nJ (.int (0:Nat) 0) 0 a es.size ep)}:=λvs C v=>
   q _ s.drawn _ a vs (.int (0:Nat) 0) (Jf _) (Jm h) (Jm h) (.inl Z) (λb o e=>Jk _ e) C (Jp _ Z) v
  cases hbt:zC w with
  |true=>exact u _ ((kg _ es).map _) (.inl #[hbt,#[(0),Z],Z])
  |false=>
   rw[hbt]at g;have c:(! t.plain&&decide (es.size>1))=false:=by simpa using g
   rcases x with z|⟨D,y⟩
   .rw[hbt]at z;cases z
   .have j:Rs t.place:=by
     cases l:t.plain with
     |true=>exact y l
     |false=>
      rw[l]at c;refine Rs.few ?_
      simp only[R6,JF,J7]at hf;simp at c
      lia
    exact u _ (RP _) (.inr (.inl #[hbt,c,D,j,#[(0),Z,uQ j],Z]))
theorem AF{Q:Bool->Θ->Prop}(e:s.TypeIs (-a) "set")(h:Q false s):ε (model prog w) A (γ.List.listLengthHint (-a)) Q E s:=by
 unfold γ.List.listLengthHint;refine Ja (Ls e PySem.F.slot_set_len.lookup ?_)
 generalize hid:("set.__len__":String)=d
 wp_delta
 rw[show splitId d=↑("set","__len__")from by subst hid;decide +kernel]
 subst hid;refine Ja (IX (T:="set") (b:=true) e (by rw[Li];kernel_rfl) ?_)
 refine wpAny_ite_split (λc=>absurd c ⋯) (λ_=>?_)
 refine wpAny_ite_split (λ_=>?_) (λc=>absurd nofun c)
 exact Ja (LC e (Jd h))
theorem kX{Q:Ζ->Θ->Prop}(hh:A.handled=none)(ho:s.heap.get? a=↑o)(p:o.ExactSet)(hd:o.data= .set es ep t)(hf:t.fits es.size=true)(hb:es.size<scanBound)(Y:TW w t)
  (h:∀(vs:Ζ) (h':Ψ) (tk:Nat) (d:Drawn),(∀b o,s.heap.get? b=↑o->h'.get? b=↑o)->s.heap.objs.size<=h'.objs.size->vs.Perm (es.toList.map (·.2))->Q vs {s with heap:=h',toks:=tk,drawn:=d}):
  ε (model prog w) A (collect (-a)) Q E s:=by
 unfold collect;refine Ja (wpAny_runValue (I0 entry_proto_collect' ?_))
 show ε _ _ (do again (.builtin "list.__iadd__" #[[<- newList [],-a],[]])) _ _ s
 refine Ja (wpAny_newList (Jd #[Sv _ nofun,I0 entry_list_iadd' ?_]))
 rw[R3 PySem.F.plain_list_iadd _];have l:a<s.heap.objs.size:=Jl ho
 have K:(s.heap.push (R5 "list" (AA []) 0)).get? s.heap.objs.size=↑(R5 "list" (AA []) 0):=Jp _ Z
 have n:=Jk (R5 "list" (AA []) 0) ho
 show ε _ _ (γ.List.listExtendWith (-s.heap.objs.size) (-a) (-s.heap.objs.size)) _ _ {s with heap:=s.heap.push (R5 "list" (AA []) 0)}
 unfold γ.List.listExtendWith;have H:Θ.TypeIs {s with heap:=s.heap.push (R5 "list" (AA []) 0)} (-a) "set":=#[o,n,p.1]
 refine Ja (LC H ?_)
 have e1:γ.List.listSameRef (-s.heap.objs.size) (-a)=false:=by
  simp [γ.List.listSameRef,J1 l]
 have e2:(Γ.type "set"==Γ.type "list")=false:=by decide
 have e3:(Γ.type "set"==Γ.type "tuple")=false:=by decide
 simp only[e1,e2,e3,PL,D2,JH];refine Ja (EF n p hd hf hb Y λh1 d I T vs f D U b3 G F P b7 b8=>?_)
 have sz:(s.heap.push (R5 "list" (AA []) 0)).objs.size=s.heap.objs.size+1:=JU ..
 dsimp only at D G
 rw[sz]at D G;have M:Θ.TypeIs {s with heap:=h1,drawn:=d} (-a) "set":=#[o,F _ _ n,p.1]
 refine Ja (JM (AF M ?_))
 have q:=F _ _ K;have L:vs.length=es.size:=by rw[P.length_eq,Je,Jq]
 have W:=BN (prog:=prog) (w:=w) (A:=A.in1) (ep:=ep) (t:=t) (by simp [hh]) U b3 L
 have nL:s.heap.objs.size∉[I,a,T]:=by
  simp only[Jg,Jt,Ju,not_or];exists by lia,J1 l
  rcases G with z|z
  .rw[z];exact J1 l
  .lia
 have x:∀(h:Ψ) (m:Nat),(∀b o,b≠s.heap.objs.size->h1.get? b=↑o->h.get? b=↑o)->h.get? s.heap.objs.size=some {cls:= .type "list",data:= .seq (AA []) m}->
   ∀R:Result->Θ->Prop,(∀(g:Array Γ) (h':Ψ) (tk c':Nat),g.toList=vs->(∀b o,s.heap.get? b=↑o->h'.get? b=↑o)->h'.get? s.heap.objs.size=some {cls:= .type "list",dict:=none,data:= .seq g c',slots:= (AA [])}->
    R (.ok (.ret (-s.heap.objs.size))) {s with heap:=h',toks:=tk,drawn:=d})->
   codeAny (model prog w) A (.builtin "list.extend.loop" #[[-s.heap.objs.size,-I,-s.heap.objs.size],[]]) R {s with heap:=h,drawn:=d}:=by
  intro h m hk r R hR;have nI:I≠s.heap.objs.size:=J1 D
  refine codeAny_extend_loopS W.toS (fits_of_scanBound hb) s.heap.objs.size nL _ es.size 0 _ (AA []) m (by lia) (JB _) #[#[o,hk _ _ (Jm l) (F _ _ n),hd,hf],f,hk _ _ nI b7,b8.keep λo e=>hk _ _ ?_ e] r (ItemsOf.nil _) λs' c c' O N i=>?_
  .rcases G with z|z
   .rw[z];exact Jm l
   .lia
  .rw[Moved.eq_with O]
   refine hR c s'.heap s'.toks c' ?_ (λb o e=>O.heap b o (λy=>?_) (hk b o (Jm (Jl e)) (F _ _ (Jk _ e)))) N
   .apply Ov
    intro j;rw[KI]
    by_cases X:j<es.size
    .have u:j<c.size:=by rw[i.1];exact X
     have:=i.2 j c[j] (getElem?_pos c j u)
     rw[getElem?_pos c j u,this]
    .rw[K1 (by rw[i.1];lia),MA (by lia)]
   .have v:=Jl e
    rcases Jg.mp y with z|z
    .exact absurd z (Jm v)
    .exact absurd (Ji.mp z) (Jm (Ke v D))
 have B:∀(g:Array Γ) (h':Ψ) (tk c':Nat),g.toList=vs->(∀b o,s.heap.get? b=↑o->h'.get? b=↑o)->h'.get? s.heap.objs.size=some {cls:= .type "list",dict:=none,data:= .seq g c',slots:= (AA [])}->
   ε (model prog w) A (do
    let o <- load s.heap.objs.size
    match o.data with
    | .seq xs _=>pure xs.toList
    |_=>unsupported "internal:collect") Q E {s with heap:=h',toks:=tk,drawn:=d}:=by
  intro g h' tk c' c1 c2 S;refine Ja (wpAny_load S (Jd (h _ h' tk d c2 (LM (Jl S)) ?_)))
  rw[c1];exact P
 refine wpAny_ite_split (λ_=>?_) (λ_=>Jd #[plainId_quiet PySem.F.plain_extend_loop _,x h1 0 (λ_ _ _ e=>e) q _ B])
 refine Ja (Ih (Ja ?_))
 show ε _ _ (updateSeq s.heap.objs.size (·.push .none) >>= λ_=>updateSeq s.heap.objs.size (·.pop)) _ _ _
 refine Ja (wpAny_updateSeq q Z ?_)
 have C:=Lf (SY (·.push Γ.none)) q Z
 refine wpAny_updateSeq (hz:=by seq_fits) C Z ?_
 have J:=Lf (SY (·.pop)) C Z
 refine Jd #[plainId_quiet PySem.F.plain_extend_loop _,x _ _ (λb o hb e=>?_) J _ B]
 exact(LD _ _ (Ne.symm hb)).trans ((LD _ _ (Ne.symm hb)).trans e)
end
end S0
namespace L3
open PySem PySem.Spec PyProof.Rows L2 S0
noncomputable def bh(prog:Ξ)(w:Ω)(a:Δ)(ks:Β):HO:= .ext λh=>SetK (TF prog w) numOf h a ks
theorem wq(prog:Ξ)(w:Ω):∀k v,(TF prog w).is k v=true->numOf v=k:=λk v h=>by
 let#[t,rfl]:=Γ.isInt_shape h;rfl
theorem _root_.L2.HN.drw(I:HN X R0 σ H s)(d:Drawn):HN X R0 σ H {s with drawn:=d}:=
 #[I.ok,I.os,I.bare,I.base,I.loc,I.cell,I.free,I.freeC,I.pin,I.hok,I.len]
section
theorem iP(hc:X.calm=true):zj X (.type "set") (λxs H Q=>∃(p:Δ) (ns:Β),xs=[-p]/\HQ X.K H p (ns.map V.int)/\ns.length+1<scanBound/\∀l,H l=none->Q (-l) (HM H l (bh X.prog X.w l (ddL ns)))):=by
 intro R0 s σ H xs A Q I r h;let#[p,ns,rfl,j,z,q]:=h;let#[u,rfl,m]:=zT r;cases m;let#[a,f,pt,_]:=I.list j;have d:=f.length;rw[Je]at d;have w:IntsAre a ns:=uV f
 refine we (knd:=TF X.prog X.w) (kf:=numOf) (val:=λi=>ns.getD i default) (wq _ _) (I.ok.hd hc) pt.isList (λi v g=>?_) (by rw[Js];omega) λh' tk c x=>?_
 .let#[t,rfl]:=IntsAre.int_at w i v (by rw[Kj]at g;exact g)
  exact#[intKind_is _ _ _ _,Z]
 .have e:a.toArray.size=ns.length:=by rw[Js];exact d.symm
  rw[e,vJ]at c;refine#[-s.heap.objs.size,_,I.laid (t':=tk) (o:=bh X.prog X.w s.heap.objs.size (ddL ns)) x (Jf _) #[c,?_,λh1 B y n=>y.at n],Z,q _ (I.hok.fresh (Jf _))]
  let#[o,_,_,_,e,_]:=c
  exact#[o,e]
end
end L3
namespace S0
open PySem PySem.Spec PyProof.Rows
theorem t8(a:Δ):setWalk a=(do
 let(es,epoch,t) <- setState a
 if <- setsByText then return pickOrder ((<- ask).params.setOrder a epoch) es
 if ! t.plain&&es.size>1 then return (<- drawOrder es.size es.toList).toArray
 (do if ! t.led&&es.size>1 then unsupported "set:maker-not-led":Sem Unit)
 return es):=Z
section
variable{prog:Ξ}{w:Ω}{K:Type}[DecidableEq K]{knd:SC prog w K}{kf:Γ->K}
variable{A:Rj}{E:HG}{s:Θ}
theorem DE{Q:Bool->Θ->Prop}{bs:Η}(D:∀b∈bs,∃g,SetK knd kf s.heap b g)(h:Q true s):ε (model prog w) A (setsQuiet bs) Q E s:=by
 unfold setsQuiet;refine Ja (wpAny_forIn_list _ (λrest b s'=>b.1=none/\s'=s/\∀x∈rest,∃g,SetK knd kf s.heap x g) _ ?_ ?_ bs _ #[9,D])
 .rintro x rest b s' ⟨n,rfl,q⟩
  let#[g,o,es,ep,t,r,z,B,v,_,p,_,_]:=q x Jr;unfold setEntries;refine Ja (Ja (wpAny_setState_of r B v (Jd ?_)))
  refine Ja (R9 _ (λc i j=>i.1=none/\j=s'/\∀e∈c,e.2.scannable=true) _ ?_ ?_ es _ #[9,λe l=>(p e l).2])
  .rintro⟨h1,y⟩ u i j ⟨d,rfl,f⟩
   have m:=f _ Jr;have a:∀e∈u,e.2.scannable=true:=λe l=>f e (Jv _ l)
   cases y<;>first|(cases m;done)|exact Jd #[9,a]
  .rintro⟨C,F⟩ j ⟨d,rfl,_⟩
   simp only at d
   subst d;exact Jd #[9,λy m=>q y (Jv _ m)]
 .rintro⟨G,i⟩ s' ⟨n,rfl,_⟩
  simp only at n
  subst n;exact Jd h
theorem Z3{Q:Bool->Θ->Prop}(c:s.TypeIs (-a) "set")(h:Q true s):ε (model prog w) A (γ.Frozenset.isAnySet (-a)) Q E s:=by
 unfold γ.Frozenset.isAnySet;refine Ja (IX c sub_set_self ?_)
 exact Jd h
theorem SetK.type{h:Ψ}{s:Θ}(x:SetK knd kf s.heap a ks):s.TypeIs (-a) "set":=by
 let#[o,es,ep,t,h1,c,_]:=x
 exact#[o,h1,c.1]
theorem oY{K:Type} [DecidableEq K]:∀(l a:List K),a.Nodup->(l.foldl Zs a).Nodup
 | [],a,h=>h
 |k::l,a,h=>by
  refine oY l _ ?_
  unfold Zs;split
  .exact h
  .rw[Lj]
   exact#[h,by simp,λx d y c=>by rw[Ji.mp c];rintro rfl;contradiction]
theorem xl{K:Type} [DecidableEq K]:∀(l a:List K) (k:K),k∈l.foldl Zs a↔k∈a\/k∈l
 | [],a,k=>by simp
 |x::l,a,k=>by
  rw[KZ,xl l _ k];unfold Zs;split
  .rename_i c
   constructor
   .rintro(h|h)
    .exact .inl h
    .exact .inr (Jv _ h)
   .rintro(h|h)
    .exact .inl h
    .rcases Jg.mp h with rfl|h
     .exact .inl c
     .exact .inr h
  .rw[JP,Ji,Jg]
   constructor
   .rintro((h|h)|h)
    .exact .inl h
    .exact .inr (.inl h)
    .exact .inr (.inr h)
   .rintro(h|h|h)
    .exact .inl (.inl h)
    .exact .inl (.inr h)
    .exact .inr h
theorem wo{K:Type} [DecidableEq K]:∀(l a:List K),(l.foldl Zs a).length<=a.length+l.length
 | [],a=>by simp
 |x::l,a=>by
  have:=wo l (Zs a x)
  rw[KZ,JR];have c:(Zs a x).length<=a.length+1:=by
   unfold Zs;split
   .lia
   .rw[Jy,IM];lia
  lia
theorem pD{Q:HG}(h:Q (-s.heap.objs.size) {s with heap:=s.heap.push (Qw (! zC w))}):ε (model prog w) A (newSet (.type "set")) Q E s:=by
 unfold newSet;let#[a,g,d,tk,c]:=s
 wp_walk
 refine wpAny_askSetting (Jd ?_)
 dsimp only
 simp only[newObj];exact Ja (wpAny_alloc (Jd h))
end
end S0
namespace L3
open PySem PySem.Spec PyProof.Rows L2 S0
def c6:Γ->Str
 | .str x _=>x
 |_=>Str.empty
noncomputable def aS(prog:Ξ)(w:Ω)(a:Δ)(ks:Α):HO:= .ext λh=>SetK (TH prog w) c6 h a ks
theorem yr(prog:Ξ)(w:Ω):∀k v,(TH prog w).is k v=true->c6 v=k:=λk v h=>by
 let#[t,rfl]:=Γ.isStrOf_shape h;rfl
section
theorem vO{Q:HG}(U:A.handled=none)(hS:SetK (TH prog w) c6 s.heap a ks)(R:ks.length<64)
  (h:∀(h':Ψ) (tk:Nat) (d:Drawn) (l:Δ) (its:Ζ) (n:Nat) (z:Α),s.heap.objs.size<=l->(∀b o,s.heap.get? b=↑o->h'.get? b=↑o)->h'.get? l=↑(R5 "list" its.toArray n)->
   StrsAre its z->z.Perm ks->sortedS z=true->Q (-l) {s with heap:=h',toks:=tk,drawn:=d}):
  ε (model prog w) A (call (.builtin "sorted") [-a]) Q E s:=by
 let#[o,es,ep,t,O,B,Y,S,I,G,q,y]:=hS;refine SK kind_sorted plain_sorted entry_sorted (args_sorted1 _) ?_
 unfold γ.«sorted»
 refine Ja (m:=checkCount "sorted" 1 1 _) (Jd ?_)
 refine Ja (kX U O B Y S I y λvs h' tk d hk hz u=>?_)
 have F:StrsAre vs (vs.map c6):=by
  refine jU (by rw[Je]) λj v e=>?_
  let#[P,W,rfl]:=JC.mp (u.mem_iff.mp (Ij e))
  let#[#[k,h1,_],_]:=G P W;let#[T,H]:=Γ.isStrOf_shape h1;refine#[k,T,by rw[Jo,e,H];rfl,H]
 have p:(vs.map c6).Perm ks:=by
  refine(u.map c6).trans ?_
  rw[Ir];exact q
 have C:vs.length<=ζ:=by
  rw[u.length_eq,Je,Jq];exact fits_of_scanBound I
 have i:vs.length<64:=by
  have:=p.length_eq
  rw[Je]at this;lia
 refine Ja (wpAny_newList ?_ C)
 have f:(h'.push (R5 "list" vs.toArray 0)).get? h'.objs.size=↑(R5 "list" vs.toArray 0):=Jp _ Z
 show ε _ _ _ _ _ {s with heap:=h'.push (R5 "list" vs.toArray 0),toks:=tk,drawn:=d}
 refine Ja (JM (JY slot_list_sort #[_,f,Z] entry_list_sort (list_sort_treeK (κ:=PyProof.Rows.strKind) strKind_oneLt f F.keysOf (λK J rest e=>keyKind_strs (by rw[<- e];exact F)) i λc a1 M=>#[0,?_]) (args_list_sort _)))
 let#[x,X,L,N]:=sorted_out_str F a1 M;let#[D,r]:∃D,(sortedHeap (h'.push (R5 "list" vs.toArray 0)) h'.objs.size vs ((arrOf c).map (·.2))).get? h'.objs.size=↑(R5 "list" ((arrOf c).map (·.2)) D):=sortedHeap_at f
 refine Jd #[0,h _ tk d h'.objs.size ((arrOf c).map (·.2)).toList D x hz (λb o e=>?_) (by rw[r]) X (L.trans p) N]
 have e':=hk b o e;have g:b<h'.objs.size:=Jl e'
 rw[sortedHeap_old (Jm g) (by rw[JU];exact Ik g)]
 exact Jk _ e'
end
theorem bE:∀{us:Ζ} {a:Α},StrsAre us a->∀(i:Nat) (v:Γ),us[i]? =↑v->∃t,v= .str (a.getD i default) t
 |_,_,.nil,i,v,e=>by simp at e
 |_,_,.cons x t r,0,v,e=>by
  simp at e;subst e;exact#[t,Z]
 |_,_,.cons x t r,i+1,v,e=>by
  have e':=bE r i v (by simpa using e)
  simpa [JG]using e'
section
theorem iM(hc:X.calm=true):zj X (.type "set") (λxs H Q=>∃(p:Δ) (a:Α),xs=[-p]/\HQ X.K H p (a.map V.str)/\a.length+1<scanBound/\∀l,H l=none->Q (-l) (HM H l (aS X.prog X.w l (ddL a)))):=by
 intro R0 s σ H xs B Q I r h;let#[p,a,rfl,n,A,q]:=h;let#[u,rfl,w]:=zT r;cases w;let#[c,j,pt,_]:=I.list n;have f:=j.length;rw[Je]at f;refine we (knd:=TH X.prog X.w) (kf:=c6) (val:=λi=>a.getD i default) (yr _ _) (I.ok.hd hc) pt.isList (λi v m=>?_) (by rw[Js];lia) λh' tk g y=>?_
 .have d:c[i]? =↑v:=by rw[Kj]at m;exact m
  have hi:i<a.length:=by rw[f];exact(Jw.mp d).1
  let#[t,rfl]:=bE (cI j) i v d
  exact#[strKind_is _ _ _ _,Z]
 .have e:c.toArray.size=a.length:=by rw[Js];exact f.symm
  rw[e,vJ]at g;refine#[-s.heap.objs.size,_,I.laid (t':=tk) (o:=aS X.prog X.w s.heap.objs.size (ddL a)) y (Jf _) #[g,?_,λh1 C z x=>z.at x],Z,q _ (I.hok.fresh (Jf _))]
  let#[o,_,_,_,e,_]:=g
  exact#[o,e]
theorem lT(hc:X.calm=true):zj X (.builtin "sorted") (λxs H Q=>∃(p:Δ) (ks:Α),xs=[-p]/\H p=↑(aS X.prog X.w p ks)/\ks.length<64/\
  ∀l (c:Α),H l=none->c.Perm ks->sortedS c=true->Q (-l) (HM H l (.lst (c.map V.str)))):=by
 intro R0 s σ H xs y Q I r h;let#[p,ks,rfl,j,f,q]:=h;let#[u,rfl,m]:=zT r;cases m;let#[x,_]:=I.hok p _ j;refine vO (I.ok.hd hc) x f λh' tk d l e n c i hk v w g t=>?_
 refine#[-l,_,(I.laid (a:=l) (o:= .lst (c.map V.str)) (t':=tk) hk i ?_).drw d,Z,q l c (I.hok.fresh i) g t]
 refine#[?_,e,n,bN w,v]
 have:=g.length_eq
 rw[Je,JD];lia
end
theorem bQ{K:Type} [DecidableEq K](l:List K):(ddL l).Nodup:=oY l [] LK
theorem ZD{K:Type} [DecidableEq K](l:List K)(k:K):k∈ddL l↔k∈l:=by unfold ddL;rw[xl];simp
theorem gJ{K:Type} [DecidableEq K](l:List K):(ddL l).length<=l.length:=by have:=wo l ([]:List K);simpa [ddL]using this
end L3
namespace L3
open PySem PySem.Spec PyProof.Rows L2
def FI(k:Nat)(js:Κ)(g:TG)(l:TI)(u:TG)(te:TE)(σ:L2.St)(Q:VK)(J:It)(H1:Hp):Prop:=∃W:Nat->Nat->Ε->L2.St->Hp->Prop,(∃m,W 0 m [] (σ0 k js σ) H1)/\∀i m ys q H,W i m ys q H->
 (J.stop i H/\∀p,H p=none->Q (-p) (HM H p (.lst ys)))\/(J.go i H/\∀x H',J.yld i H x H'->g x q H' λd y=>l d y λn z=>∃j:Nat->Nat->Ε->L2.St->Hp->Prop,(∃h,j 0 h ys d z)/\∀i2 h zs a e,j i2 h zs a e->
  (n.stop i2 e/\∃t,t<m/\W (i+1) t zs a e)\/(n.go i2 e/\zs.length<ζ/\∀o r,n.yld i2 e o r->u o a r λf w=>∃N:V->Hp->Prop,(∀v s,N v s->∃c,c<h/\j (i2+1) c (zs++[v]) f s)/\te f w N))
noncomputable def xj(k:Nat)(js:Κ)(c:TI)(g:TG)(a:TI)(d:TG)(te:TE):TE:=λσ H Q=>c σ H (FI k js g a d te σ Q)
section
theorem nF(f tg e g a:Φ)(d:Scope)(pos:Pos)(it h:Γ)(c:Env):
  compTurn (.ListComp f [#[tg,e,[],(0)],#[g,a,[],(0)]] d pos) 0 it h c=(standAt e.pos >>= λ_=>pyNext it >>= λr=>match r with
   |none=>pure (.done .next)
   |some v=>letOwnedTupleGo tg it v >>= λ_=>assign tg c v >>= λ_=>
    eval a c >>= λx=>standAt a.pos >>= λ_=>foldedSetIterable a c x >>= λx=>holding [x] (pyIter x) >>= λi2=>runOwn (.compStart (.ListComp f [#[tg,e,[],(0)],#[g,a,[],(0)]] d pos) 1 i2 h c) c >>= λ_=>
     again (.compLoop (.ListComp f [#[tg,e,[],(0)],#[g,a,[],(0)]] d pos) 0 it h c)):=by rfl
theorem p8(g tg f e a:Φ)(c:Scope)(pos:Pos)(it h:Γ)(d:Env):
  compTurn (.ListComp g [#[tg,f,[],(0)],#[e,a,[],(0)]] c pos) 1 it h d=(standAt a.pos >>= λ_=>pyNext it >>= λr=>match r with
   |none=>pure (.done .next)
   |some v=>letOwnedTupleGo e it v >>= λ_=>assign e d v >>= λ_=>
    (eval g d >>= λx=>call (.builtin "list.append") [h,x] >>= λ_=>pure ()) >>= λ_=>
     again (.compLoop (.ListComp g [#[tg,f,[],(0)],#[e,a,[],(0)]] c pos) 1 it h d)):=by rfl
theorem rq{u tg o g e:Φ}{it q:Γ}{a:Env}(I:Nat->Θ->Prop)
  (turn:∀n s,I n s->ε (model prog w) A (pyNext it) (λr f=>match r with
   |none=>R (.ok .next) f
   | some v=>ε (model prog w) A (letOwnedTupleGo g it v) (λ_ c=>ε (model prog w) A (assign g a v) (λ_ p=>ε (model prog w) A (eval u a) (λx i=>
     ε (model prog w) A (call (.builtin "list.append") [q,x]) (λ_ l=>∃m,m<n/\I m l) (λ_ _=>False) i)
     (λ_ _=>False) p) (λ_ _=>False) c) (λ_ _=>False) f) (λ_ _=>False) s)
  (n:Nat)(h:I n s):
  codeAny (model prog w) A (.compLoop (.ListComp u [#[tg,o,[],(0)],#[g,e,[],(0)]] d pos) 1 it q a) R s:=by
 refine codeAny_loop Z I (λn s C=>?_) n h
 show ε _ _ ((compTurn (.ListComp u [#[tg,o,[],(0)],#[g,e,[],(0)]] d pos) 1 it q a).onRaise (λx=>do noteFrame x a;theTreesLotGoes x)) _ _ s
 refine wpAny_noted ?_
 rw[p8];refine Ja (Ib (Ja (Jx (turn n s C) (λr f j=>?_) λ_ _ h'=>h'.elim)))
 cases r with
 |none=>exact Jd j
 |some v=>
  refine Ja (Jx j (λ_ c t=>?_) λ_ _ h'=>h'.elim)
  exact Ja (Jx t (λ_ p B=>Ja (Ja (Jx B (λx i y=>Ja (Jx y
   (λ_ l z=>Jd (Jd #[Z,z])) λ_ _ h'=>h'.elim)) λ_ _ h'=>h'.elim))) λ_ _ h'=>h'.elim)
theorem om{tg e y a:Φ}{it:Γ}{c:Env}(hs2:∀x,foldedSetIterable a c x=pure x)(I:Nat->Θ->Prop)
  (turn:∀n s,I n s->ε (model prog w) A (pyNext it) (λr g=>match r with
   |none=>R (.ok .next) g
   | some v=>ε (model prog w) A (letOwnedTupleGo tg it v) (λ_ i=>ε (model prog w) A (assign tg c v) (λ_ q=>ε (model prog w) A (eval a c) (λx p=>
     ε (model prog w) A (pyIter x) (λi2 l=>codeAny (model prog w) A (.compStart (.ListComp B [#[tg,e,[],(0)],#[y,a,[],(0)]] d pos) 1 i2 z c) (λr o=>match r with| .ok _=>∃m,m<n/\I m o| .error _=>False) l) (λ_ _=>False) p)
     (λ_ _=>False) q) (λ_ _=>False) i) (λ_ _=>False) g) (λ_ _=>False) s)
  (n:Nat)(h:I n s):
  codeAny (model prog w) A (.compLoop (.ListComp B [#[tg,e,[],(0)],#[y,a,[],(0)]] d pos) 0 it z c) R s:=by
 refine codeAny_loop Z I (λn s F=>?_) n h
 show ε _ _ ((compTurn (.ListComp B [#[tg,e,[],(0)],#[y,a,[],(0)]] d pos) 0 it z c).onRaise (λx=>do noteFrame x c;theTreesLotGoes x)) _ _ s
 refine wpAny_noted ?_
 rw[nF];refine Ja (Ib (Ja (Jx (turn n s F) (λr g j=>?_) λ_ _ h'=>h'.elim)))
 cases r with
 |none=>exact Jd j
 |some v=>
  refine Ja (Jx j (λ_ i u=>?_) λ_ _ h'=>h'.elim)
  refine Ja (Jx u (λ_ q E=>Ja (Jx E (λx p D=>?_) λ_ _ h'=>h'.elim)) λ_ _ h'=>h'.elim)
  refine Ja (Ib (Ja ?_))
  rw[hs2];refine Jd (Ja (JM (Jx D (λi2 l C=>?_) λ_ _ h'=>h'.elim)))
  refine Ja (wpAny_runOwn (Lm C λr o t=>?_))
  cases r with
  |ok f=>exact Jd #[Z,t]
  |error x=>exact t.elim
theorem oW{elt tg iter tg2 iter2 scope pos it acc env}
  (c:codeAny (model prog w) A (.compLoop (.ListComp elt [#[tg,iter,[],(0)],#[tg2,iter2,[],(0)]] scope pos) 1 it acc env) R s)
  (h:ε (model prog w) A (pyIter it) (λa s'=>codeAny (model prog w) A (.compLoop (.ListComp elt [#[tg,iter,[],(0)],#[tg2,iter2,[],(0)]] scope pos) 1 a acc env) R s')
   (notedBy (model prog w) A env λx s'=>R (.error x) s') s):
  codeAny (model prog w) A (.compStart (.ListComp elt [#[tg,iter,[],(0)],#[tg2,iter2,[],(0)]] scope pos) 1 it acc env) R s:=by
 refine codeAny_of_tree ?_
 show ε _ _ ((compStart (.ListComp elt [#[tg,iter,[],(0)],#[tg2,iter2,[],(0)]] scope pos) 1 it acc env).onRaise (λx=>do noteFrame x env;standAt theWindowsPlace)) _ _ s
 refine wpAny_notedAt ?_
 unfold compStart
 show ε _ _ (ask >>= _) _ _ s
 refine Ja (wpAny_askSetting (wpAny_ite ?_))
 split
 .first
   |exact Ja (Jd (Jd (And.intro rfl c)))
   |exact Jd (And.intro rfl c)
 .first
   |exact Ja (Ih (Ja (Ib (Ja (Jx h (λa s' h'=>Jd (And.intro rfl h')) λ_ _ x=>x)))))
   |(refine Ja (Ih ?_);show ε _ _ (standAt iter2.pos >>= _) _ _ s;exact Ja (Ib (Ja (Jx h (λa s' h'=>Jd (And.intro rfl h')) λ_ _ x=>x))))
end
theorem yf{a:Scope}{P:List (Str×Δ)}{f1:Pos}{fr own:Α}{use:Option (Γ->Sem Unit)}{Post:HG}
  {s:Θ}{H:Hp}
  (hc:X.calm=true)(hi:PI X tg A wi)(c2:closureFor a X.env=pure P)(h6:∀y c,P.lookup y=↑c->X.env.cells.lookup y=↑c)(f3:P.map (·.1)=fr)
  (S:MU X a fr js)
  (hg:∀C s H fp,PG (qY X (own++fr) a P C s H fp) tg g)(g1:∀C s H fp,PI (qY X (own++fr) a P C s H fp) a4 t d7)(h3:∀C s H fp,PG (qY X (own++fr) a P C s H fp) a4 g2)(he:∀C s H fp,PE (qY X (own++fr) a P C s H fp) a5 te)
  (hs:∀x,foldedSetIterable A X.env x=pure x)(hs2:∀C x,foldedSetIterable t (compEnvC a P C X.env) x=pure x)
  (I:L2.HN X R0 σ H s)(h:xj own.length js wi g d7 g2 te σ H Q)
  (e4:∀(e3 C:Δ) (s5:Θ) (H':Hp) (m:HH),L2.HN X R0 σ H' s5->s5.heap.Ns C m->O7 X R0 H' C->Q (-e3) H'->compPost (model X.prog X.w) X.A X.xe use Post (-e3) C (.ok .next) s5):
  ε (model X.prog X.w) X.A (comprehension (.ListComp a5 [⟨tg,A,[],0⟩,⟨a4,t,[],0⟩] a pos) a X.env f1 (newList []) false (eval A X.env) use) Post X.xe s:=by
 refine wpAny_comprehension_free (use:=use) Z hs c2 S.kind S.names (qz (hi R0 s σ H _ I h) λv s1 h1=>qz h1 λj6 f h2=>?_)
 let#[it,fp,tn,J,H2,e,I2,T,d8,f2,W,#[m0,w0],turn]:=h2;subst e;refine J6 (wpAny_newFunctionEnv S.nocell (by intro y hy;simp at hy) (λM D q=>?_) S.kind)
 dsimp only at D q⊢
 generalize hH2:f.heap.push {cls:= .type "list",dict:=none,data:= .seq ([]:Ζ).toArray}=G at D q⊢
 have hC:G.objs.size=f.heap.objs.size+1:=by rw[<- hH2,JU]
 have R:f.heap.objs.size≠G.objs.size:=by rw[hC];exact Jm (G0 _)
 have a1:∀b,b<f.heap.objs.size->b≠G.objs.size/\b≠f.heap.objs.size:=λb d=>#[by rw[hC];exact Jm (Ik d),Jm d]
 have e7:∀b o,f.heap.get? b=↑o->M.get? b=↑o:=λb o e=>q.extBut b o (a1 b (Jl e)).1 (Jk _ (hH2▸Jk _ e))
 have a8:M.get? f.heap.objs.size=some {cls:= .type "list",data:= .seq ([]:Ζ).toArray 0}:=q.extBut _ _ R (Jk _ (hH2▸Jp _ Z))
 let Y:Cx:=qY X (own++fr) a P G.objs.size f H2 fp
 let#[f0,IY,K,U,b7]:=eV (own:=own) (js:=js) h6 f3 S I2 T d8 f2 hC e7 D
 have b0:∀F:Θ,HN Y [] (σ0 own.length js σ) H2 F->tn 0 F.heap->F.heap.get? f.heap.objs.size=some {cls:= .type "list",data:= .seq ([]:Ζ).toArray 0}->
   codeAny (model X.prog X.w) X.A (.compLoop (.ListComp a5 [#[tg,A,[],(0)],#[a4,t,[],(0)]] a pos) 0 (-it) (-f.heap.objs.size) (compEnvC a P G.objs.size X.env))
    (compPost (model X.prog X.w) X.A X.xe use Post (-f.heap.objs.size) G.objs.size) F:=by
  intro F I3 h4 g6;refine om (hs2 _) (λn s'=>∃i ys τ H' l k,HN Y [(f.heap.objs.size,{cls:= .type "list",data:= .seq l.toArray k})] τ H' s'/\tn i s'.heap/\(∀b∈fp,H' b=none)/\HS ys l/\ys.length<=ζ/\W i n ys τ H') ?_ m0 ?_
  .rintro n s4 ⟨i,ys,τ,H4,l,k,I4,d6,e0,vl,hz,w4⟩
   have i1:=I4.pin (f.heap.objs.size,{cls:= .type "list",data:= .seq l.toArray k}) (by simp [Y,qY])
   rcases turn i n ys τ H4 w4 with⟨d9,qn⟩|⟨go,step⟩
   .refine qz (T.done Y Z Z Z hc i _ s4 τ H4 _ I4 (b7 e0 (by simp)) d6 d9) λr s5 E=>?_
    let#[hr,I5]:=E;subst hr
    show compPost _ _ _ _ _ _ _ _ _
    let#[m5,g5,_]:=I5.loc;have b3:=I5.pin (f.heap.objs.size,{cls:= .type "list",data:= .seq l.toArray k}) (by simp [Y,qY])
    have b5:H4 f.heap.objs.size=none:=b3.2.1
    have B:=I5.base;have nC:H4 G.objs.size=none:=I5.free
    let#[z1,z2]:=eU (ob:= .lst ys) I2 f2 hC I5 b5 #[hz,l,k,vl,b3.1]
    exact e4 f.heap.objs.size G.objs.size s5 (HM H4 f.heap.objs.size (.lst ys)) m5 z1 g5 z2 (qn _ b5)
   .refine qz (T.item Y Z Z Z hc i _ s4 τ H4 _ I4 (b7 e0 (by simp)) d6 go) λr s5 E=>?_
    let#[u,hr,h5]:=E;subst hr;refine qz h5 λ_ s6 E=>?_
    let#[x,H6,I6,r6,y6,c4,g4]:=E;have I6':=I6.pinned (b7 g4 (by simp)) (T.obj _ _ c4)
    refine qz (hg _ _ _ _ _ s6 τ H6 x u _ I6' r6 (step x H6 y6)) λ_ s7 E=>?_
    let#[d5,H7,I7,q7]:=E;refine qz (g1 _ _ _ _ _ s7 d5 H7 _ I7 q7) λv7 s8 h8=>qz h8 λj1 s9 h9=>?_
    let#[g8,a6,g0,J2,H9,e9,I9,T2,e1,f9,W2,#[m2,w2],c3]:=h9;subst e9;have c0:∀{H':Hp} {w:Ζ} {k':Nat},(∀b∈a6,H' b=none)->∀b∈a6,Zm Y ((f.heap.objs.size,{cls:= .type "list",data:= .seq w.toArray k'})::am fp s6.heap) H' b:=λ{H' w k'} hn b d=>
     #[hn b d,(f9 b d).2.1,(f9 b d).2.2.1,(f9 b d).2.2.2.1,(f9 b d).2.2.2.2.1,λp O=>by
      have h7:p∈(f.heap.objs.size,{cls:= .type "list",data:= .seq w.toArray k'})::am fp s6.heap:=by simpa [Y,qY]using O
      rcases Jg.mp h7 with z|z
      .rw[z]
       exact(f9 b d).2.2.2.2.2 (f.heap.objs.size,{cls:= .type "list",data:= .seq l.toArray k}) (by simp [qY])
      .exact(f9 b d).2.2.2.2.2 p (by simp [qY,z])]
    have L2:codeAny (model X.prog X.w) X.A (.compLoop (.ListComp a5 [#[tg,A,[],(0)],#[a4,t,[],(0)]] a pos) 1 (-g8) (-f.heap.objs.size) (compEnvC a P G.objs.size X.env)) (λr b1=>match r with
      | .ok _=>∃m,m<n/\∃i ys τ H' l k,HN Y [(f.heap.objs.size,{cls:= .type "list",data:= .seq l.toArray k})] τ H' b1/\tn i b1.heap/\(∀b∈fp,H' b=none)/\HS ys l/\ys.length<=ζ/\W i m ys τ H'
      | .error _=>False) s9:=by
     refine rq (λn2 s'=>∃(i2:Nat) (zs:Ε) (e5:L2.St) (H':Hp) (w:Ζ) (k':Nat),HN Y ((f.heap.objs.size,{cls:= .type "list",data:= .seq w.toArray k'})::am fp s6.heap) e5 H' s'/\g0 i2 s'.heap/\(∀b∈a6,H' b=none)/\HS zs w/\zs.length<=ζ/\W2 i2 n2 zs e5 H') ?_ m2 #[(0),ys,d5,H9,l,k,I9,e1,λb d=>(f9 b d).1,vl,hz,w2]
     rintro n2 sA ⟨i2,zs,a3,HA,j,kA,IA,e2,e6,b6,h0,wA⟩
     have j2:=IA.pin (f.heap.objs.size,{cls:= .type "list",data:= .seq j.toArray kA}) (by simp [Y,qY])
     rcases c3 i2 n2 zs a3 HA wA with⟨c1,m',f5,w'⟩|⟨f4,j3,d3⟩
     .refine qz (T2.done Y Z Z Z hc i2 _ sA a3 HA _ IA (c0 e6) e2 c1) λr sB E=>?_
      let#[d4,IB]:=E;subst d4;have b4:=IB.pin (f.heap.objs.size,{cls:= .type "list",data:= .seq j.toArray kA}) (by simp [Y,qY])
      have L:∀b∈fp,∀o,s6.heap.get? b=↑o->sB.heap.get? b=↑o/\HA b=none:=λb d o e=>by
       have:=IB.pin (b,o) (JQ _ (Jv _ (Qu d e)))
       exact#[this.1,this.2.1]
      refine#[m',f5,i+1,zs,a3,HA,j,kA,IB.pins_of ?_,T.keep _ _ _ c4 λb d o e=>(L b d o e).1,λb d=>?_,b6,h0,w']
      .intro p O
       rw[Ji.mp O]
       exact#[b4.1,b4.2.1,R,K,λv z=>by cases z]
      .let#[o,e,_]:=T.obj _ _ c4 b d
       exact(L b d o e).2
     .refine qz (T2.item Y Z Z Z hc i2 _ sA a3 HA _ IA (c0 e6) e2 f4) λr sB E=>?_
      let#[u2,d4,hB]:=E;subst d4;refine qz hB λ_ sC E=>?_
      let#[x2,HC,IC,rC,yC,d2,g7]:=E;have IC':=IC.pinned (c0 g7) (T2.obj _ _ d2);refine qz (h3 _ _ _ _ _ sC a3 HC x2 u2 _ IC' rC (d3 x2 HC yC)) λ_ sD E=>?_
      let#[d1,HD,ID,N,hN,qD]:=E;refine qz (he _ _ _ _ _ sD d1 HD _ ID qD) λv' sE E=>?_
      let#[y,HE,IE,rE,nE]:=E;let#[g3,e8,wE]:=hN _ _ nE;have a2:=IE.pin (f.heap.objs.size,{cls:= .type "list",data:= .seq j.toArray kA}) (by simp [qY])
      have L:∀p∈am fp s6.heap,sE.heap.get? p.1=↑p.2/\HE p.1=none/\p.1≠Y.env.locals/\p.1∉Y.fs/\∀v,p.2.data≠ .cell v:=λp O=>
       IE.pin p (JQ _ (LN _ (Jv _ O)))
      have b2:∀b∈a6,∀o,sC.heap.get? b=↑o->sE.heap.get? b=↑o/\HE b=none:=λb d o e=>by
       have:=IE.pin (b,o) (JQ _ (JQ _ (Qu d e)))
       exact#[this.1,this.2.1]
      refine wpAny_list_append_plain (items:=j.toArray) #[kA,a2.1] (λh' a7 b8=>?_) (by have:=b6.length;simp;lia)
      let#[k',a7]:=a7;have IF:HN Y [] d1 HE {sE with heap:=h'}:=by
       refine(IE.pins_of (pins':=[]) (by simp)).turned (t':=sE.toks) (it:=f.heap.objs.size) (λb o d e=>(b8.2 b d).trans e) a2.2.1 ?_ (.inr (Jf _)) (λx c e=>U x c e) (λp O=>absurd (show p∈([]:HI)from by simpa [Y,qY]using O) (by simp))
       exact R
      have ea:(j.toArray.push v')=(j++[v']).toArray:=by simp
      rw[ea]at a7;refine#[g3,e8,i2+1,zs++[y],d1,HE,j++[v'],k',IF.pins_of ?_,T2.keep _ _ _ d2 λb d o e=>?_,λb d=>?_,b6.append (.cons rE .nil),?_,wE]
      .intro p O
       rcases Jg.mp O with z|z
       .rw[z]
        exact#[a7,a2.2.1,R,K,λv z=>by cases z]
       .let#[p1,p2]:=L p z
        exact#[(b8.2 p.1 (a1 p.1 (f0 p.1 (lB z).1)).2).trans p1,p2]
      .refine(b8.2 b λz=>?_).trans (b2 b d o e).1
       exact(f9 b d).2.2.2.2.2 (f.heap.objs.size,{cls:= .type "list",data:= .seq l.toArray k}) (by simp [qY]) z.symm
      .let#[o,e,_]:=T2.obj _ _ d2 b d
       exact(b2 b d o e).2
      .rw[Jy,IM];lia
    exact oW L2 (T2.self _ 0 _ _ _ e1 L2)
  .refine#[(0),[],σ0 own.length js σ,H2,[],(0),I3.pins_of ?_,h4,λb d=>(f2 b d).1,.nil,JB _,w0]
   intro p O;rw[Ji.mp O]
   exact#[g6,I2.hok.fresh (Jf _),R,K,λv z=>by cases z]
 have d0:tn 0 M:=T.keep _ _ _ d8 λb _ o e=>e7 b o e
 exact codeAny_compStart_list (b0 _ IY d0 a8) (T.self _ 0 _ _ _ d0 (b0 _ IY d0 a8))
theorem Bw{a:Scope}{i:List (Str×Δ)}{fr own:Α}
  (hc:X.calm=true)(hi:QI X tg f D)(j:closureFor a X.env=pure i)(u:∀y c,i.lookup y=↑c->X.env.cells.lookup y=↑c)(t:i.map (·.1)=fr)
  (S:MU X a fr js)
  (hg:∀C s H fp,QG (qY X (own++fr) a i C s H fp) tg g)(w:∀C s H fp,QI (qY X (own++fr) a i C s H fp) l d n)(z:∀C s H fp,QG (qY X (own++fr) a i C s H fp) l B)(he:∀C s H fp,QE (qY X (own++fr) a i C s H fp) r te)
  (hs:∀x,foldedSetIterable f X.env x=pure x:=by intro _;rfl)(hs2:∀C x,foldedSetIterable d (compEnvC a i C X.env) x=pure x:=by intro _ _;rfl):
  QE X (.ListComp r [#[tg,f,[],(0)],#[l,d,[],(0)]] a pos) (xj own.length js D g n B te):=by
 refine#[λR0 s σ H Q I h=>?_]
 rw[eval_ListComp];refine yf (use:=none) hc hi.h j u t S (λC s H fp=>(hg C s H fp).h) (λC s H fp=>(w C s H fp).h) (λC s H fp=>(z C s H fp).h) (λC s H fp=>(he C s H fp).h) hs hs2 I h λv C J H' m F E p q=>?_
 exact#[m,E,λh' A=>#[-v,H',F.turned (t':=J.toks) (λb o G e=>(A.2 b G).trans e) p.free p.loc (.inr p.new) p.cell p.pin,Z,q]]
end L3
namespace S0
open PySem PySem.Spec PyProof.Rows
def rQ(M x:Nat):Nat:=(x*5+1)%M
def bZ(M:Nat):Nat->Nat->Nat
 |0,x=>x
 |n+1,x=>bZ M n (rQ M x)
theorem cY(M:Nat):∀(a b x:Nat),bZ M (a+b) x=bZ M b (bZ M a x)
 |0,b,x=>by rw[Kk];rfl
 |a+1,b,x=>by rw[PM];exact cY M a b (rQ M x)
def Fe(M:Nat):Nat->Nat->Κ
 |0,_=>[]
 |n+1,x=>x::Fe M n (rQ M x)
theorem y8(M:Nat):∀(n x j:Nat),j∈Fe M n x->∃m,m<n/\bZ M m x=j
 |0,x,j,h=>nomatch h
 |n+1,x,j,h=>by
  rcases Jg.mp h with rfl|h
  .exact#[(0),K2 _,Z]
  .let#[m,a,e]:=y8 M n _ j h
   exact#[m+1,by lia,e]
noncomputable def B3(M:Nat):Bool:=(bZ M M 0==0)&&(Ag M).all λj=>(Fe M M 0).contains j
def Qr(M:Nat):Prop:=B3 M=true
theorem wI:Qr 8:=by unfold Qr;decide +kernel
theorem Dp:Qr 16:=by unfold Qr;decide +kernel
theorem CP:Qr 32:=by unfold Qr;decide +kernel
theorem DD:Qr 64:=by unfold Qr;decide +kernel
theorem BJ:Qr 128:=by unfold Qr;decide +kernel
theorem AZ:Qr 256:=by unfold Qr;decide +kernel
theorem Bm{n:Nat}(h:n<256):Qr (Px n)/\n<Px n/\Px n<=256:=by
 have a:∀n<256,(Px n=8\/Px n=16\/Px n=32\/Px n=64\/Px n=128\/Px n=256)/\n<Px n:=by decide +kernel
 let#[h1,c]:=a n h;rcases h1 with e|e|e|e|e|e<;>(rw[e]at c⊢;refine#[?_,c,⋯])
 .exact wI
 .exact Dp
 .exact CP
 .exact DD
 .exact BJ
 .exact AZ
theorem FV{i j:Nat}(h:Qr M)(hi:i<M)(f:j<M):∃m,m<M/\bZ M m i=j:=by
 unfold Qr B3 at h;rw[JF,J7,IV]at h;let#[e,h1]:=h;have get:∀x,x<M->∃m,m<M/\bZ M m 0=x:=λx g=>y8 M M 0 x (by have:=h1 x (JT.mpr g);simpa using this)
 let#[a,n,c]:=get i hi;let#[b,o,d]:=get j f
 by_cases l:a<=b
 .exists b-a,by lia
  rw[<- c,<- cY,show a+(b-a)=b by lia,d]
 .exists M-a+b,by lia
  rw[<- c,<- cY,show a+(M-a+b)=M+b by lia,cY,e,d]
noncomputable def Z5(mask:Nat):Nat->Nat×Nat->Nat×Nat
 |0,p=>p
 |n+1,p=>Z5 mask n (SZ mask p.1 p.2)
theorem hX(mask:Nat):∀(a b:Nat) (p:Nat×Nat),Z5 mask (a+b) p=Z5 mask b (Z5 mask a p)
 |0,b,p=>by rw[Kk];rfl
 |a+1,b,p=>by rw[PM];exact hX mask a b _
theorem oI(mask:Nat):∀(n:Nat) (p:Nat×Nat),(Z5 mask n p).2=p.2/32 ^ n
 |0,p=>by show p.2=_;rw[Nat.pow_zero,Nat.div_one]
 |n+1,p=>by
  show(Z5 mask n (SZ mask p.1 p.2)).2=_
  rw[oI mask n]
  show p.2/32/32 ^ n=_
  rw[PX,Nat.pow_succ,Nat.mul_comm]
theorem lG(mask:Nat):∀(n i p:Nat),p/32=0->(Z5 mask n (i,p)).1=bZ (mask+1) n i
 |0,i,p,h=>rfl
 |n+1,i,p,h=>by
  have e:SZ mask i p=(rQ (mask+1) i,0):=by
   unfold SZ rQ;rw[h,Nat.add_zero]
  show(Z5 mask n (SZ mask i p)).1=bZ (mask+1) n (rQ (mask+1) i)
  rw[e];exact lG mask n _ 0 Z
theorem Dl(h:Int):P6 h<2 ^ 64:=by
 unfold P6;have h1:=Lc h (show(0:Int)<2 ^ 64 by decide)
 have a:=La h (show(2 ^ 64:Int)≠0 by decide)
 lia
theorem D6{mask j:Nat}(hm:Qr (mask+1))(g:j<=mask)(h:Int)(i:Nat):∃n,n<SH mask/\(Z5 mask n (i,P6 h)).1=j:=by
 have l:=Dl h;have c:(Z5 mask 12 (i,P6 h)).2/32=0:=by
  rw[oI]
  show P6 h/32 ^ 12/32=0
  rw[PX];exact Nat.div_eq_of_lt (JV l ⋯)
 have d:(Z5 mask 12 (i,P6 h)).1<mask+1:=by
  rw[show(12:Nat)=11+1 from Z,hX mask 11 1]
  exact Ki _ (K2 _)
 let#[m,f,e]:=FV hm d (Nat.lt_succ_of_le g)
 exists 12+m,by unfold SH;lia
 rw[hX];generalize Z5 mask 12 (i,P6 h)=p at *
 let#[a,b]:=p;rw[lG mask m a b c];exact e
theorem lu{mask:Nat}{ow:Array Χ}:∀(a i p:Nat),P8 mask ow a i p=none->∀n,n<a->(ow.getD (Z5 mask n (i,p)).1 ↑0).isNone=false
 |0,i,p,h,n,hn=>absurd hn (I1 _)
 |a+1,i,p,h,n,hn=>by
  unfold P8 at h;split at h
  .cases h
  .rename_i c
   cases n with
   |zero=>
    have:=PY.mp c 0 (JT.mpr (by unfold SetTable.runEnd;split<;>lia))
    exact Ly.mpr this
   |succ n=>exact lu a _ _ h n (by lia)
theorem lD{mask:Nat}{ow:Array Χ}{j:Nat}:∀(a i p:Nat),P8 mask ow a i p=↑j->(ow.getD j ↑0).isNone=true
 |0,i,p,h=>nomatch h
 |a+1,i,p,h=>by
  unfold P8 at h;split at h
  .rename_i k c
   cases h
   have:=List.find?_some c
   exact this
  .exact lD a _ _ h
def OwOk(mask:Nat)(ow:Array Χ)(k:Nat):Prop:=ow.size=mask+1/\(ow.toList.filterMap id).Perm (Ag k)
theorem mH:∀l:List Χ,(∀x∈l,x.isNone=false)->(l.filterMap id).length=l.length
 | [],_=>rfl
 |x::l,h=>by
  have c:=h x Jr;cases x with
  |none=>cases c
  |some y=>
   rw[JW]
   show(y::l.filterMap id).length=_
   rw[JR,JR,mH l λz a=>h z (Jv _ a)]
theorem OwOk.step{mask k:Nat}{ow:Array Χ}(hm:Qr (mask+1))(o:OwOk mask ow k)(hk:k<=mask)(h:Int):
  ∃j,P8 mask ow (SH mask) (P6 h%(mask+1)) (P6 h)=↑j/\OwOk mask (ow.setIfInBounds j ↑k) (k+1):=by
 let#[s,a]:=o;cases e:P8 mask ow (SH mask) (P6 h%(mask+1)) (P6 h)with
 |none=>
  exfalso
  have all:∀x∈ow.toList,x.isNone=false:=λx t=>by
   let#[j,c,rfl]:=HB.mp t;have f:j<ow.size:=by rw[<- Jq];exact c
   let#[n,g,r]:=D6 hm (show j<=mask by lia) h (P6 h%(mask+1))
   have:=lu _ _ _ e n g
   rw[r]at this
   simpa [KU,f]using this
  have h1:(ow.toList.filterMap id).length=ow.toList.length:=mH _ all
  have l:(ow.toList.filterMap id).length=(Ag k).length:=a.length_eq
  rw[E1]at l;rw[l,Jq]at h1;lia
 |some j=>
  exists j,Z,by rw[Array.size_setIfInBounds];exact s
  have d:=lD _ _ _ e;have c:j<ow.size:=by
   refine Nat.lt_of_not_le λz=>?_
   rw[KU,dif_neg (by lia)]at d
   cases d
  have g:ow[j]=none:=by
   rw[KU,dif_pos c]at d;exact Option.isNone_iff_eq_none.mp d
  have m:j<ow.toList.length:=by rw[Jq];exact c
  have i:ow.toList[j]=none:=by rw[Ox];exact g
  rw[Array.toList_setIfInBounds];have q:ow.toList=ow.toList.take j++none::ow.toList.drop (j+1):=by
   rw[<- i,PZ,KJ]
  have p:ow.toList.set j ↑k=ow.toList.take j++↑k::ow.toList.drop (j+1):=by rw[List.set_eq_take_append_cons_drop,Jc m]
  rw[p,Pa,JW]
  show((ow.toList.take j).filterMap id++k::(ow.toList.drop (j+1)).filterMap id).Perm _
  rw[q,Pa,JW]at a;have a:((ow.toList.take j).filterMap id++(ow.toList.drop (j+1)).filterMap id).Perm (Ag k):=a
  rw[Kh];refine Ky.trans ?_
  exact(List.Perm.cons k a).trans (List.perm_append_singleton k _).symm
theorem rL{mask:Nat}(hm:Qr (mask+1)):∀(hs:Β) (ow:Array Χ) (k:Nat),OwOk mask ow k->k+hs.length<=mask+1->
  ∃a,hs.foldl (λ(c:Option (Array Χ×Nat)) (h:Int)=>do
   let(owner,k) <- c
   let j <- P8 mask owner (SH mask) (P6 h%(mask+1)) (P6 h)
   pure (owner.setIfInBounds j ↑k,k+1)) ↑(ow,k)=↑(a,k+hs.length)/\OwOk mask a (k+hs.length)
 | [],ow,k,o,_=>#[ow,Z,o]
 |h::hs,ow,k,o,hl=>by
  rw[JR]at hl;let#[j,e,d]:=o.step hm (by lia) h
  let#[a,e',o']:=rL hm hs _ _ d (by lia)
  refine#[a,?_,by rw[JR,show k+(hs.length+1)=k+1+hs.length by lia];exact o']
  rw[KZ,JR,show k+(hs.length+1)=k+1+hs.length by lia,<- e']
  congr 1
  show(do
   let j <- P8 mask ow (SH mask) (P6 h%(mask+1)) (P6 h)
   pure (ow.setIfInBounds j ↑k,k+1))=↑(ow.setIfInBounds j ↑k,k+1)
  rw[e];rfl
theorem rb(n:Nat):((Dj n (none:Χ)).filterMap id)=[]:=by
 induction n with
 |zero=>rfl
 |succ n ih=>rw[LF,JW];exact ih
theorem rn{mask:Nat}(hm:Qr (mask+1)){hs:Array Int}(hn:hs.size<=mask+1):∃ow,Sy mask hs=↑ow/\OwOk mask ow hs.size:=by
 have a:OwOk mask (Array.replicate (mask+1) none) 0:=#[Array.size_replicate,by rw[Array.toList_replicate,rb];exact RP _]
 let#[ow,e,o]:=rL hm hs.toList _ 0 a (by rw[Jq];lia)
 rw[Kk,Jq]at e o;refine#[ow,?_,o]
 unfold Sy;rw[<- Array.foldl_toList];exact J0 (K3 (·.1)) e
theorem ik(f:Nat->Χ):∀l:Κ,(l.filterMap λj=>(f j).map (j,·)).map (·.2)=l.filterMap f
 | []=>rfl
 |j::l=>by
  rw[JW,JW];cases e:f j with
  |none=>simpa using ik f l
  |some k=>simpa using ik f l
theorem uh(ow:Array Χ):(Ag ow.size).filterMap (λj=>ow.getD j none)=ow.toList.filterMap id:=by
 have e:(Ag ow.size).map (λj=>ow.getD j none)=ow.toList:=by
  refine KD (by rw[Je,E1,Jq]) λi h1 a=>?_
  have hi:i<ow.size:=by rw[Jq]at a;exact a
  simp [KU,hi]
 rw[<- e,KY];rfl
theorem kD{mask fg mv:Nat}{led plain:Bool}{hs:Array Int}(hm:Qr (mask+1))(hn:hs.size<=mask):
  ∃t o,SM mask fg mv led plain hs=↑(t,o)/\t.fits hs.size=true/\o.toList.Perm (Ag hs.size)/\Rs t.place/\t.dummies= (AA [])/\t.led=led/\t.plain=plain/\t.mask=mask:=by
 let#[ow,e,a,d]:=rn (hs:=hs) hm (by lia)
 have c:SM mask fg mv led plain hs=↑({mask,place:=(((Ag (mask+1)).filterMap λj=>(ow.getD j none).map (j,·)).map (·.1)).toArray,dummies:= (AA []),finger:=fg,led,moves:=mv,plain},(((Ag (mask+1)).filterMap λj=>(ow.getD j none).map (j,·)).map (·.2)).toArray):=by
  unfold SM;rw[e];rfl
 let#[h1,g,h]:=sI c;have f:((Ag (mask+1)).filterMap λj=>(ow.getD j none).map (j,·)).map (·.2)=ow.toList.filterMap id:=by
  rw[ik,<- a];exact uh ow
 have len:((Ag (mask+1)).filterMap λj=>(ow.getD j none).map (j,·)).length=hs.size:=by
  have:=J0 List.length f
  rw[Je,d.length_eq,E1]at this;exact this
 refine#[15,c,?_,?_,h1,g,h,9]
 .unfold R6 SN
  dsimp only
  rw[Js,Je,len];simp [hn]
 .dsimp only
  rw[f];exact d
theorem pS(a:Δ)(c:Nat):setRelay a c=(do
 let(es,_,t) <- setState a
 if Px c>ζ then unsupported "set:memory"
 let(es,t) <- (do
  let ↑(t,order):=t.relaid (es.map (·.1)) c|unsupported "internal:set-table-without-room"
  let d:=order.filterMap (es[·]?)
  if d.size != es.size then unsupported "internal:set-table-lost-an-element"
  pure (d,t):Sem (Array (Int×Γ)×SetTable))
 storeSet a es t):=Z
theorem g9(s o:Δ)(a:Sem Unit):setMerge s o a=(do
 if s==o then return
 let(eo,epoch,to) <- setState o
 if eo.isEmpty then return
 setRoomFor s eo.size
 let(_,_,ts) <- setState s
 match ts.road to with
 | .slotForSlot=>storeSet s eo {to with finger:=ts.finger,led:=ts.led&&to.led,moves:=ts.moves,plain:=ts.plain&&to.plain}
 | .clean=>
  let(es,t) <- (do
   let ↑(t,order):=SM ts.mask ts.finger ts.moves (led:=ts.led&&to.led) (plain:=ts.plain&&to.plain) (eo.map (·.1))|unsupported "internal:set-table-without-room"
   let c:=order.filterMap (eo[·]?)
   if c.size != eo.size then unsupported "internal:set-table-lost-an-element"
   pure (c,t):Sem (Array (Int×Γ)×SetTable))
  storeSet s es t
 | .oneByOne=>
  for (h,x)in <- setWalkUnseen o [s] ↑s do
   let _ <- holding [x] (setAddHashed s x h)
   a
   if(<- setState o).2.1 != epoch then unsupported "set.changed-during-merge"):=Z
theorem iR{d:Type}{es:Array d}{o:Array Nat}(h:o.toList.Perm (Ag es.size)):(o.filterMap (es[·]?)).toList.Perm es.toList:=by
 rw[Array.toList_filterMap];refine(h.filterMap _).trans ?_
 have e:(Ag es.size).filterMap (es[·]?)=es.toList:=by
  have c:(Ag es.size).map (es[·]?)=es.toList.map some:=by
   refine KD (by simp) λi h1 a=>?_
   have hi:i<es.size:=by simpa using a
   simp [hi]
  have:(Ag es.size).filterMap (es[·]?)=((Ag es.size).map (es[·]?)).filterMap id:=by rw[KY];rfl
  rw[this,c,KY];exact List.filterMap_some
 rw[e]
section
variable{w:Ω}{K:Type}[DecidableEq K]{knd:SC prog w K}{kf:Γ->K}
variable{s:Θ}
theorem sG{a:Δ}{o:Obj}{c:Nat}{Q:Unit->Θ->Prop}(ho:s.heap.get? a=↑o)(hd:o.data= .set es ep t)(hf:t.fits es.size=true)(hw:c<256)(hn:es.size<=c)
  (h:∀f d,f.toList.Perm es.toList->d.fits f.size=true->Rs d.place->d.dummies= (AA [])->d.led=t.led->d.plain=t.plain->Qr (d.mask+1)->c<=d.mask->Q () {s with heap:=s.heap.update a (TN f d)}):
  ε (model prog w) A (setRelay a c) Q E s:=by
 let#[l,p2,z]:=Bm hw;rw[pS];refine Ja (wpAny_setState_of ho hd hf ?_)
 dsimp only
 have j:¬Px c>ζ:=by rw[JD];lia
 rw[Jb j];have q:Px c-1+1=Px c:=by lia
 let#[d,or,g,p,n,x,y,u,v,r]:=kD (mask:=Px c-1) (fg:=t.finger) (mv:=t.movedTo (Px c-1)) (led:=t.led) (plain:=t.plain) (hs:=es.map (·.1)) (by rw[q];exact l) (by rw[Kl];lia)
 have g:t.relaid (es.map (·.1)) c=↑(d,or):=g
 rw[Kl]at p n;have m:=iR (es:=es) n
 have e:(or.filterMap (es[·]?)).size=es.size:=by rw[<- Jq,m.length_eq,Jq]
 have i:es.size<=ζ:=by rw[JD];lia
 refine Ja ?_
 rw[g]
 dsimp only
 rw[e];simp only[bne_self_eq_false,D2,JH];exact Jd (wpAny_storeSet_of ho hd (h _ _ m (by rw[e];exact p) x y u v (by rw[r,q];exact l) (by rw[r];lia)) (by rw[e];exact i))
def FrK(w:Ω)(h:Ψ)(a:Δ)(n:Nat):Prop:=∃o ep t,h.get? a=↑o/\o.ExactSet/\o.data= .set (AA []) ep t/\t.fits 0=true/\t.dummies= (AA [])/\Qr (t.mask+1)/\n<=t.mask/\TW w t
theorem FrK.k(x:FrK w h a n):SetK knd kf h a []:=by
 let#[o,ep,t,h1,g,i,d,m,l,j,c]:=x
 exact#[o,(AA []),ep,t,h1,g,i,d,⋯,(λe f=>nomatch f),RP _,c]
theorem CN{n:Nat}{Q:Unit->Θ->Prop}(q:FrK w s.heap a 0)(hn:n<=100)(h:∀h',Ψ.SameBut a s.heap h'->FrK w h' a n->Q () {s with heap:=h'}):ε (model prog w) A (setRoomFor a n) Q E s:=by
 let#[o,ep,t,h1,j,g,e,l,r,I,p]:=q;unfold setRoomFor;refine Ja (wpAny_setState_of h1 g e ?_)
 dsimp only
 have f:t.place.size=0:=by
  unfold R6 at e;rw[JF,J7]at e;exact e.1
 have d:t.fill=0:=by unfold SN;rw[f,l];rfl
 unfold SetTable.roomFor;rw[d,f]
 by_cases c:(0+n)*5 ≥ t.mask*3
 .rw[Jc c]
  dsimp only
  refine sG h1 g e (by lia) (JB _) λi m u C F v x H y J=>?_
  have D:i= (AA []):=by
   have:=u.length_eq
   rw[Jq]at this;exact Array.eq_empty_of_size_eq_zero this
  subst D;refine h _ (G6 s.heap a _) #[15,m,ZH h1 g (AA []) m,j,Z,C,v,y,by lia,?_]
  rcases p with z|⟨B,G⟩
  .exact .inl z
  .exact .inr #[x.trans B,λ_=>F]
 .rw[Jb c]
  exact Jd (h s.heap (Ψ.SameBut.refl a s.heap) #[o,ep,t,h1,j,g,e,l,r,by lia,p])
theorem TW.both{fg mv:Nat}(a:TW w t)(b:TW w u)(hp:u.dummies= (AA [])):TW w {u with finger:=fg,led:=t.led&&u.led,moves:=mv,plain:=t.plain&&u.plain}:=by
 rcases a with z|⟨d,f⟩
 .exact .inl z
 .rcases b with y|⟨c,e⟩
  .exact .inl y
  .refine .inr #[by show(t.led&&u.led)=true;rw[d,c];rfl,λh=>?_]
   have h:(t.plain&&u.plain)=true:=h
   rw[JF]at h;exact e h.2
theorem ig{a b:Δ}{p:Sem Unit}{Q:Unit->Θ->Prop}(H:a≠b)(x:FrK w s.heap a 0)(X:SetK knd kf s.heap b g)(lb:g.length<=100)
  (h:∀h',Ψ.SameBut a s.heap h'->SetK knd kf h' a g->(g=[]->FrK w h' a 0)->Q () {s with heap:=h'}):ε (model prog w) A (setMerge a b p) Q E s:=by
 let#[ob,e,S,tb,Y,b2,U,P,F,O,B,M]:=id X;have i:e.size=g.length:=by rw[<- B.length_eq,Je,Jq]
 rw[g9];have v:(a==b)=false:=by rw[IS];exact H
 rw[v];simp only[D2,JH];refine Ja (wpAny_setState_of Y U P ?_)
 dsimp only
 by_cases c:e.isEmpty=true
 .rw[Jc c]
  have e0:g=[]:=by
   rw[K4,i]at c;exact KS c
  subst e0;exact Jd (h s.heap (Ψ.SameBut.refl a s.heap) x.k λ_=>x)
 .rw[Jb c]
  refine Ja (CN x (by lia) λh1 n G=>?_)
  let#[o,ep,t,q,J,l,u,q5,T,q7,I]:=id G;refine Ja (wpAny_setState_of (s:={s with heap:=h1}) q l u ?_)
  dsimp only
  have C:t.place.size=0:=by
   unfold R6 at u;rw[JF,J7]at u;exact u.1
  have f:t.fill=0:=by unfold SN;rw[C,q5];rfl
  have m:g≠[]:=λz=>c (by rw[K4,i,z];rfl)
  have j:e.size<=ζ:=fits_of_scanBound F
  have er:t.road tb=if t.mask==tb.mask&&tb.dummies.isEmpty then .slotForSlot else .clean:=by
   unfold SetTable.road;rw[f];rfl
  rw[er]
  by_cases r:(t.mask==tb.mask&&tb.dummies.isEmpty)=true
  .rw[Jc r]
   rw[JF,Array.isEmpty_iff]at r;refine wpAny_storeSet_of (s:={s with heap:=h1}) q l ?_ j
   refine h _ (n.trans (G6 h1 a _)) #[_,e,15,ZH q l e _,J,Z,?_,F,O,B,TW.both I M r.2] λz=>absurd z m
   exact P
  .rw[Jb r]
   let#[N,or,el,R,L,W,r4,r5,r6,r7]:=kD (mask:=t.mask) (fg:=t.finger) (mv:=t.moves) (led:=t.led&&tb.led) (plain:=t.plain&&tb.plain) (hs:=e.map (·.1)) T (by rw[Kl];exact q7)
   rw[Kl]at R L;have D:=iR (es:=e) L
   have d:(or.filterMap (e[·]?)).size=e.size:=by rw[<- Jq,D.length_eq,Jq]
   dsimp only
   refine Ja ?_
   rw[el]
   dsimp only
   rw[d];simp only[bne_self_eq_false,D2,JH];refine Jd (wpAny_storeSet_of (s:={s with heap:=h1}) q l ?_ (by rw[d];exact j))
   refine h _ (n.trans (G6 h1 a _)) #[39,N,ZH q l _ N,J,Z,by rw[d];exact R,by rw[d];exact F,O.perm D,(D.map _).trans B,?_] λz=>absurd z m
   rcases I with z|⟨z1,z2⟩
   .exact .inl z
   .rcases M with y|⟨y1,y2⟩
    .exact .inl y
    .exact .inr #[by rw[r5,z1,y1];rfl,λ_=>W]
end
section
variable{prog:Ξ}{w:Ω}{K:Type}[DecidableEq K]{knd:SC prog w K}{kf:Γ->K}
variable{A:Rj}{E:HG}{s:Θ}
theorem DQ{n:Nat}{Q:Unit->Θ->Prop}(m:SetK knd kf s.heap a ks)(hn:ks.length+n<=100)(h:∀h',Ψ.SameBut a s.heap h'->SetK knd kf h' a ks->Q () {s with heap:=h'}):ε (model prog w) A (setRoomFor a n) Q E s:=by
 let#[o,es,ep,t,h1,r,i,e,u,q,l,B]:=id m;have p:es.size=ks.length:=by rw[<- l.length_eq,Je,Jq]
 unfold setRoomFor;refine Ja (wpAny_setState_of h1 i e ?_)
 dsimp only
 have g:t.place.size=es.size:=by
  unfold R6 at e;rw[JF,J7]at e;exact e.1
 unfold SetTable.roomFor;rw[g]
 by_cases c:(t.fill+n)*5 ≥ t.mask*3
 .rw[Jc c]
  dsimp only
  refine sG h1 i e (by lia) (by lia) λd j f y C D v H F I=>?_
  have sz:d.size=es.size:=by rw[<- Jq,f.length_eq,Jq]
  refine h _ (G6 s.heap a _) #[_,d,_,j,ZH h1 i d j,r,Z,y,by rw[sz];exact u,q.perm f,(f.map _).trans l,?_]
  rcases B with z|⟨x,G⟩
  .exact .inl z
  .exact .inr #[v.trans x,λ_=>C]
 .rw[Jb c]
  exact Jd (h s.heap (Ψ.SameBut.refl a s.heap) m)
theorem tD{a:Δ}{o:Obj}{Q:Array (Int×Γ)->Θ->Prop}(ho:s.heap.get? a=↑o)(D:o.ExactSet)(hd:o.data= .set es ep t)(hf:t.fits es.size=true)(hb:es.size<scanBound)(I:ElemsOf knd es.toList)(C:TW w t)
  (F:SetK knd kf s.heap r M)
  (h:∀d h',d.toList.Perm es.toList->Ψ.SameBut r s.heap h'->SetK knd kf h' r M->Q d {s with heap:=h'}):ε (model prog w) A (setWalkUnseen a [r] ↑r) Q E s:=by
 have same:∀d,d.toList.Perm es.toList->Q d s:=λd p=>h d s.heap p (Ψ.SameBut.refl r s.heap) F
 have Bp:(zC w||(t.led&&t.plain)||decide (es.size<=1))=true->ε (model prog w) A (setWalk a) Q E s:=λc=>by
  rw[t8];refine Ja (wpAny_setState_of ho hd hf ?_)
  dsimp only
  refine Ja (Q7 ?_)
  cases f:zC w with
  |true=>
   rw[Jc Z];exact Ja (wpAny_askSetting (Jd (same _ (kg _ es))))
  |false=>
   rw[Jb ⋯]
   rw[f]at c;have B:t.led=true:=by
    rcases C with z|⟨n,_⟩
    .rw[f]at z;cases z
    .exact n
   have H:(! t.plain&&decide (es.size>1))=false:=by
    rw[B]at c;cases hp:t.plain with
    |true=>rfl
    |false=>rw[hp]at c;simp at c;simp;lia
   rw[H];simp only[D2,JH,B,KW,Ii];exact Ja (Jd (Jd (same _ (RP _))))
 unfold setWalkUnseen;refine Ja (wpAny_setState_of ho hd hf ?_)
 dsimp only
 refine Ja (Q7 ?_)
 by_cases c:(zC w||(t.led&&t.plain)||decide (es.size<=1))=true
 .rw[Jc c]
  exact Bp c
 .rw[Jb c]
  have f:zC w=false:=by
   cases e:zC w with
   |true=>rw[e]at c;simp at c
   |false=>rfl
  have B:t.led=true:=by
   rcases C with z|⟨n,_⟩
   .rw[f]at z;cases z
   .exact n
  refine Ja (DE (knd:=knd) (kf:=kf) (λx J=>?_) ?_)
  .simp only[Jg,Jt,Ju]at J
   rcases J with rfl|rfl
   .exact#[_,o,es,ep,t,ho,D,hd,hf,hb,I,RP _,C]
   .exact#[_,F]
  .simp only[KW,D2,JH]
   refine Ja (Ih ?_)
   let#[P,v,N,y,g,q,i,l,m,u,j,G]:=F;refine Ja (wpAny_setState_of g i l ?_)
   dsimp only
   by_cases L:((y.led&& ! t.led)||(y.plain&& ! t.plain))=true
   .rw[Jc L]
    refine Ja (wpAny_storeSet_of g i (Jd ?_) (fits_of_scanBound m))
    refine h _ _ (RP _) (G6 s.heap r _) #[_,v,15,ZH g i v _,q,Z,l,m,u,j,?_]
    rcases G with z|⟨n,O⟩
    .exact .inl z
    .refine .inr #[by show(y.led&&t.led)=true;rw[n,B];rfl,λz=>?_]
     have z:(y.plain&&t.plain)=true:=z
     rw[JF]at z;exact O z.1
   .rw[Jb L]
    exact Jd (same _ (RP _))
theorem AO(z:∀k v,knd.is k v=true->kf v=k){a b:Δ}(B:b≠a){o:Obj}{l:List K}{Q:PUnit->Θ->Prop}(hd:o.data= .set es ep t)(hf:t.fits es.size=true)(c:Array (Int×Γ))(r:ElemsOf knd c.toList)(hn:l.length+c.size+1<scanBound)
  (m:∀(s':Θ) (O:Unit->Θ->Prop),s'.heap.get? b=↑o->O () s'->ε (model prog w) A j O E s')
  (ho:s.heap.get? b=↑o)(W:SetK knd kf s.heap a l)(p:l.Nodup)
  (h:∀h' f,Ψ.SameBut a s.heap h'->SetK knd kf h' a f->f.Nodup->(∀k,k∈f↔k∈l\/k∈(c.toList.map λe=>kf e.2))->Q #[] {s with heap:=h'}):
  ε (model prog w) A (forIn c SO λx _=>do
   let _ <- holding [x.2] (setAddHashed a x.2 x.1)
   j
   if(<- setState b).2.1 != ep then do
    unsupported "set.changed-during-merge"
    pure (Sk SO)
   else pure (Sk SO)) Q E s:=by
 let#[H,g,J,tk,I]:=s;refine R9 _ (λrest _ s'=>∃h' done f,s'=#[h',g,J,tk,I]/\c.toList=done++rest/\Ψ.SameBut a H h'/\SetK knd kf h' a f/\f.Nodup/\(∀k,k∈f↔k∈l\/k∈(done.map λe=>kf e.2))/\f.length<=l.length+done.length) _ ?_ ?_ c _ #[H,[],l,9,Ψ.SameBut.refl a H,W,p,λk=>by simp,Jf _]
 .rintro⟨T,x⟩ rest _ s' ⟨h',done,f,rfl,e,C,n,p,d,len⟩
  have S:(T,x)∈c.toList:=by rw[e];exact JQ _ Jr
  let#[#[k,hk,i],q]:=r _ S
  dsimp only at hk i q⊢
  subst i;have X:done.length+1<=c.size:=by
   have:=J0 List.length e
   rw[Jq,Jy,JR]at this;lia
  have U:kf x=k:=z k x hk
  refine Ja (JM (va (s:=#[h',g,J,tk,I]) z hk q n (by lia) λF u M=>?_))
  have y:F.get? b=↑o:=by rw[u.2 b B,C.2 b B];exact ho
  refine Ja (m _ _ y (Ja (wpAny_setState_of (s:=#[F,g,J,tk,I]) y hd hf ?_)))
  simp only[bne_self_eq_false,D2,JH];refine Jd #[F,done++[(knd.hash k,x)],0,by rw[e,IU];rfl,C.trans u,M,?_,λR=>?_,?_]
  .split
   .exact p
   .rename_i D
    rw[Lj]
    exact#[p,by simp,λx1 N Y G P=>D (by rw[Ji.mp G]at P;rw[<- P];exact N)]
  .rw[JI,JP]
   show _↔_\/_\/R∈[kf x]
   rw[U,Ji];split
   .rename_i L
    rw[d];constructor
    .rintro(h1|h1)
     .exact .inl h1
     .exact .inr (.inl h1)
    .rintro(h1|h1|rfl)
     .exact .inl h1
     .exact .inr h1
     .exact(d R).mp L
   .rw[JP,d,Ji,or_assoc]
  .rw[Jy,IM]
   split
   .lia
   .rw[Jy,IM];lia
 .rintro _ s' ⟨h',done,f,rfl,e,C,n,p,d,len⟩
  rw[Ic]at e;refine h h' f C n p (by rw[e];exact d)
theorem C1(N:∀k v,knd.is k v=true->kf v=k){a b:Δ}{Q:Unit->Θ->Prop}(d:a≠b)(U:SetK knd kf s.heap a f)(hB:SetK knd kf s.heap b x)(ne:f≠[])(X:f.Nodup)(la:f.length+x.length<=100)
  (i:∀(s':Θ) (y:Unit->Θ->Prop),(∀o,s.heap.get? b=↑o->s'.heap.get? b=↑o)->y () s'->ε (model prog w) A g y E s')
  (h:∀h' l,Ψ.SameBut a s.heap h'->SetK knd kf h' a l->l.Nodup->(∀k,k∈l↔k∈f\/k∈x)->Q () {s with heap:=h'}):ε (model prog w) A (setMerge a b g) Q E s:=by
 let#[ob,R,a1,tb,H,b2,D,I,b5,W,S,b8]:=id hB;have F:R.size=x.length:=by rw[<- S.length_eq,Je,Jq]
 rw[g9];have C:(a==b)=false:=by rw[IS];exact d
 rw[C];simp only[D2,JH];refine Ja (wpAny_setState_of H D I ?_)
 dsimp only
 by_cases c:R.isEmpty=true
 .rw[Jc c]
  have e0:x=[]:=by
   rw[K4,F]at c;exact KS c
  subst e0;exact Jd (h s.heap f (Ψ.SameBut.refl a s.heap) U X λk=>by simp)
 .rw[Jb c]
  refine Ja (DQ U (by lia) λh1 q m=>?_)
  let#[o,ea,ep,t,q1,q2,q3,B,q5,q6,q7,q8]:=id m;refine Ja (wpAny_setState_of (s:={s with heap:=h1}) q1 q3 B ?_)
  dsimp only
  have a2:t.place.size=ea.size:=by
   unfold R6 at B;rw[JF,J7]at B;exact B.1
  have a3:ea.size=f.length:=by rw[<- q7.length_eq,Je,Jq]
  have a4:f.length≠0:=λz=>ne (KS z)
  have er:t.road tb= .oneByOne:=by
   unfold SetTable.road SN;rw[Jc];rw[bne_iff_ne];lia
  rw[er]
  dsimp only
  have u:h1.get? b=↑ob:=by rw[q.2 b d.symm];exact H
  refine Ja (tD (s:={s with heap:=h1}) (a:=b) (r:=a) u b2 D I b5 W b8 m λj T G n O=>?_)
  have a5:j.size=R.size:=by rw[<- Jq,G.length_eq,Jq]
  have J:T.get? b=↑ob:=by rw[n.2 b d.symm];exact u
  have e4:scanBound=4096:=Z
  refine Ja (AO (s:={s with heap:=T}) N d.symm D I j (W.perm G) (by lia) (λs' y z hq=>i s' y (λo Y=>?_) hq) J O X λh3 l P M L p=>Jd ?_)
  .rw[H]at Y;cases Y;exact z
  .refine h h3 l ((q.trans n).trans P) M L λk=>?_
   rw[p,(G.map λe=>kf e.2).mem_iff,S.mem_iff]
theorem ou:entryFor table "set.__or__"=some γ.«frozenset.__or__»:=
 entryFor_alias (id':="frozenset.__or__") (by kernel_rfl) Z nofun (by kernel_rfl)
theorem FL(x y:Γ):γ.«frozenset.__or__» #[[x,y],[]]=(do
 if !(<- γ.Frozenset.isAnySet x <&&> γ.Frozenset.isAnySet y)then
  rule s!"frozenset.{"__or__"}.declined"
  return <- ret .notImplemented
 ret (<- (λ(id:String) (l:Δ) (r:Γ)=>(do
  let a <- γ.Frozenset.copyOf l
  if r != .ref l then holding [a] (γ.Frozenset.updateFrom id (<- γ.Frozenset.addrOf a) r)
  return a:Sem Γ)) s!"frozenset.{"__or__"}" (<- γ.Frozenset.addrOf x) y)):=Z
theorem wG{h:Ψ}{a:Δ}(ha:h.get? a=↑(Qw (! zC w))):FrK w h a 0:=by
 exists _,(0),_,ha,#[40],40,wI,JB _
 cases hb:zC w with
 |true=>exact .inl hb
 |false=>exact .inr #[Z,λ_=>SU]
theorem Gv(O:∀k v,knd.is k v=true->kf v=k){a b:Δ}{Q:HG}(P:a≠b)(H:SetK knd kf s.heap a m)(G:SetK knd kf s.heap b l)(na:m.Nodup)(nb:l.Nodup)(la:m.length+l.length<=100)
  (h:∀h' d,(∀c o,s.heap.get? c=↑o->h'.get? c=↑o)->SetK knd kf h' s.heap.objs.size d->d.Nodup->(∀k,k∈d↔k∈m\/k∈l)->Q (-s.heap.objs.size) {s with heap:=h'}):
  ε (model prog w) A (binaryOp .BitOr (-a) (-b)) Q E s:=by
 have j:=H.type (h:=s.heap)
 have t:=G.type (h:=s.heap)
 refine wpAny_binaryOp_same (op:= .BitOr) (T:="set") j t PySem.F.fills_set_or PySem.F.slot_set_or (JY PySem.F.slot_set_or j ou ?_ (PySem.F.args_set_or_2 _ _))
 rw[FL];refine Ja (Ja (Z3 j ?_))
 show ε _ _ (γ.Frozenset.isAnySet (Γ.ref b)) _ _ _
 refine Z3 t ?_
 simp only[KW,D2,JH];refine Ja (Jd (Ja ?_))
 unfold γ.Frozenset.copyOf γ.Frozenset.baseOf;refine Ja (Ja (Ja (IX j sub_set_self (Jd ?_))))
 rw[Jc Z];refine Ja (pD ?_)
 refine Ja (Jd ?_)
 have hr:(s.heap.push (Qw (! zC w))).get? s.heap.objs.size=↑(Qw (! zC w)):=Jp _ Z
 have r:∀c o,s.heap.get? c=↑o->(s.heap.push (Qw (! zC w))).get? c=↑o:=λc o e=>Jk _ e
 have J:SetK knd kf (s.heap.push (Qw (! zC w))) a m:=H.at (r a)
 have N:SetK knd kf (s.heap.push (Qw (! zC w))) b l:=G.at (r b)
 have D:=H.lt;have L:=G.lt;have C:s.heap.objs.size≠a:=(Jm D).symm
 have p:s.heap.objs.size≠b:=(Jm L).symm
 refine Ja (ig (s:={s with heap:=s.heap.push (Qw (! zC w))}) C (wG hr) J (by lia) λh1 x I B=>Jd ?_)
 have F:((Γ.ref b:Γ) != Γ.ref a)=true:=by
  rw[bne_iff_ne];intro e;cases e;exact P Z
 rw[Jc F];have i:SetK knd kf h1 b l:=N.at λo1 e1=>by rw[x.2 b p.symm];exact e1
 have y:Θ.TypeIs {s with heap:=h1} (-b) "set":=i.type (s:={s with heap:=h1}) (h:=s.heap)
 refine Ja (Jd (Ja (JM ?_)))
 unfold γ.Frozenset.updateFrom;refine Ja (Z3 y ?_)
 rw[Jc Z];refine Ja (Ja (Jd (Jd ?_)))
 unfold γ.Frozenset.merge;let#[ob,eb,Y,tb,S,b2,R,W,_]:=id i;refine Ja (wpAny_setEpoch_of (s:={s with heap:=h1}) S R W ?_)
 have u:∀g d,Ψ.SameBut s.heap.objs.size h1 g->SetK knd kf g s.heap.objs.size d->d.Nodup->(∀k,k∈d↔k∈m\/k∈l)->Q (-s.heap.objs.size) {s with heap:=g}:=λg d f hk M n=>by
  refine h g d (λc o e=>?_) hk M n
  have X:c≠s.heap.objs.size:=Jm (Jl e)
  rw[f.2 c X,x.2 c X];exact r c o e
 by_cases U:m=[]
 .subst U
  refine ig (s:={s with heap:=h1}) p (B Z) i (by lia) λg f q _=>?_
  exact Jd (Jd #[0,(λe=>nomatch e),u g l f q nb λk=>by simp])
 .refine C1 (s:={s with heap:=h1}) O p I i U na la (λs' Q' z hq=>?_) λg d f q M n=>?_
  .unfold γ.Frozenset.unchanged
   refine Ja (wpAny_setEpoch_of (s:=s') (z _ S) R W ?_)
   simp only[bne_self_eq_false,D2,JH];exact Jd hq
  .exact Jd (Jd #[0,(λe=>nomatch e),u g d f q M n])
end
theorem cT{a:Type}(xs:Array a)(i:Nat):(R7 xs i).toList=xs.toList.eraseIdx i:=by
 unfold R7;rw[Array.toList_append,Pb,Pb,KP];congr 1
 simp
 exact Ol (by simp)
theorem rc{a:Type}{l:List a}{j:Nat}(c:j<l.length):(l[j]::l.eraseIdx j).Perm l:=by
 rw[KP];refine Ky.symm.trans ?_
 rw[PZ,KJ]
theorem Rs.erase(h:Rs xs)(i:Nat):Rs (R7 xs i):=by
 unfold Rs;rw[cT];exact List.Pairwise.sublist (Pc _ _) h
theorem DG{t:SetTable}{i:Nat}(hf:t.fits n=true)(hi:i<n):(t.drop i).fits (n-1)=true/\(TOk t->TOk (t.drop i))/\(t.drop i).led=t.led:=by
 unfold R6 at hf;rw[JF,J7,decide_eq_true_eq]at hf;have c:i<t.place.size:=by lia
 have e:t.place[i]? =some t.place[i]:=getElem?_pos t.place i c
 unfold SetTable.drop;rw[e]
 dsimp only
 have f:(R7 t.place i).size=n-1:=by rw[<- Jq,cT,K5 (by rw[Jq];exact c),Jq];lia
 have d:(SetTable.insertAt t.dummies (P7 t.dummies t.place[i]) t.place[i]).size=t.dummies.size+1:=by
  rw[<- Jq,SetTable.toList_insertAt,Jy,JR,G5,LP,Jq];lia
 refine#[?_,λh a=>(h a).erase i,Z]
 unfold R6 SN
 dsimp only
 rw[f,d];unfold SN at hf;rw[JF,J7,decide_eq_true_eq]
 exact#[Z,by lia]
section
variable{K:Type}[DecidableEq K]{knd:SC prog w K}{kf:Γ->K}
variable{s:Θ}
theorem yj(p:∀k v,knd.is k v=true->kf v=k){k:K}{Q:Bool->Θ->Prop}(i:knd.is k x=true)(B:x.scannable=true)
  (J:SetK knd kf s.heap a ks)
  (h:∀h',Ψ.SameBut a s.heap h'->SetK knd kf h' a (ks.erase k)->Q (decide (k∈ks)) {s with heap:=h'}):
  ε (model prog w) A (setDiscardHashed a x (knd.hash k)) Q E s:=by
 let#[o,es,ep,t,l,F,n,r,M,c,f,D]:=id J;have d:k∈ks↔∃e∈es.toList,knd.is k e.2=true:=by rw[<- f.mem_iff];exact nj p c k
 unfold setDiscardHashed setFind setFindIn;refine Ja (Ja (wpAny_setState_of l n r ?_))
 dsimp only
 rw[byScan_of B M c];simp only[↓reduceIte];refine Ja (Ih (Ja (wpAny_setScan_of i l n r c ?_)))
 cases hr:O0 (λe=>knd.is k e.2) es.toList with
 |none=>
  have hk:k∉ks:=λz=>by
   let#[e,u,C]:=d.mp z
   have:=O8.mp hr e u
   rw[C]at this;cases this
  dsimp only
  refine Jd (Jd ?_)
  have:=h s.heap (Ψ.SameBut.refl a s.heap) (by rw[Pd hk];exact J)
  rw[Jn hk]at this;exact this
 |some j=>
  let#[q,m,_]:=O1.mp hr
  have hk:k∈ks:=d.mpr #[es.toList[j],IH q,m]
  have y:j<es.size:=by rw[<- Jq];exact q
  dsimp only
  refine Jd ?_
  dsimp only
  rw[Kk];refine Ja (wpAny_setState_of l n r ?_)
  dsimp only
  let#[R,L,N]:=DG r y;have G:=cT es j;have sz:(R7 es j).size=es.size-1:=by rw[<- Jq,G,K5 q,Jq]
  have g:(R7 es j).size<scanBound:=by lia
  refine Ja (wpAny_storeSet_of l n (Ja (wpAny_point (Jd ?_))) (fits_of_scanBound g))
  have C:(es.toList[j]::es.toList.eraseIdx j).Perm es.toList:=rc q
  have H:kf es.toList[j].2=k:=p k _ m
  have:=h _ (G6 s.heap a (TN (R7 es j) (t.drop j))) #[_,_,_,_,ZH l n _ _,F,Z,by rw[sz];exact R,g,?_,?_,?_]
  .rw[Jj hk]at this;exact this
  .intro e u
   rw[G]at u;exact c e ((Pc _ _).subset u)
  .rw[G]
   have I:=(C.map λe=>kf e.2).trans f
   rw[JS,H]at I
   exact(List.cons_perm_iff_perm_erase.mp I).2
  .rcases D with z|⟨O,P⟩
   .exact .inl z
   .exact .inr #[N.trans O,L P]
theorem wD(I:∀k v,knd.is k v=true->kf v=k){a b:Δ}(id:String)(S:b≠a){o:Obj}{m:List K}{Q:PUnit->Θ->Prop}(hd:o.data= .set es ep t)(hf:t.fits es.size=true)(i:Array (Int×Γ))(O:ElemsOf knd i.toList)(P:(i.toList.map λe=>kf e.2).Nodup)(hn:m.length+i.size+1<scanBound)
  (ho:s.heap.get? b=↑o)(hS:SetK knd kf s.heap a m)(H:m.Nodup)
  (h:∀h' j,Ψ.SameBut a s.heap h'->SetK knd kf h' a j->j.Nodup->j.length<=m.length+i.size->(∀k,k∈j↔¬(k∈m↔k∈(i.toList.map λe=>kf e.2)))->Q #[] {s with heap:=h'}):
  ε (model prog w) A (forIn i SO λx _=>do
   holding [x.2] (do
    let d <- setDiscardHashed a x.2 x.1
    if(! d)=true then do
     let _ <- setAddHashed a x.2 x.1
     pure SO
    else pure SO)
   γ.Frozenset.unchanged id b ep
   pure (Sk SO)) Q E s:=by
 let#[X,g,M,tk,L]:=s;refine R9 _ (λrest _ s'=>∃h' done j,s'=#[h',g,M,tk,L]/\i.toList=done++rest/\Ψ.SameBut a X h'/\SetK knd kf h' a j/\j.Nodup/\(∀k,k∈j↔¬(k∈m↔k∈(done.map λe=>kf e.2)))/\j.length<=m.length+done.length) _ ?_ ?_ i _ #[X,[],m,9,Ψ.SameBut.refl a X,hS,H,λk=>by simp,Jf _]
 .rintro⟨hh,x⟩ rest _ s' ⟨h',done,j,rfl,e,W,G,H,C,len⟩
  have hx:(hh,x)∈i.toList:=by rw[e];exact JQ _ Jr
  let#[#[k,hk,q],F]:=O _ hx
  dsimp only at hk q F⊢
  subst q;have kx:kf x=k:=I k x hk
  have a6:done.length+1<=i.size:=by
   have:=J0 List.length e
   rw[Jq,Jy,JR]at this;lia
  have D:k∉(done.map λe=>kf e.2):=λz=>by
   rw[e,JI,Lj]at P;exact P.2.2 k z k (by rw[JS];show k∈kf x::_;rw[kx];exact Jr) Z
  have mk:k∈j↔k∈m:=by
   rw[C k];constructor
   .intro z
    refine Pu λy=>z #[λu=>absurd u y,λu=>absurd u D]
   .intro z y
    exact D (y.mp z)
  have R:∀B l,Ψ.SameBut a h' B->SetK knd kf B a l->l.Nodup->(∀p,p∈l↔(if p=k then k∉j else p∈j))->l.length<=j.length+1->∀(f:Θ->Prop),(∀s',(∃h' done j,s'=(#[h',g,M,tk,L]:Θ)/\i.toList=done++rest/\Ψ.SameBut a X h'/\SetK knd kf h' a j/\j.Nodup/\(∀k,k∈j↔¬(k∈m↔k∈(done.map λe=>kf e.2)))/\j.length<=m.length+done.length)->f s')->ε (model prog w) A (do
    γ.Frozenset.unchanged id b ep
    pure (Sk SO)) (λN s'=>match N with| .yield _=>f s'| .done b'=>Q b' s') E #[B,g,M,tk,L]:=by
   intro B l n r Y T a5 f hZ;unfold γ.Frozenset.unchanged;have a2:B.get? b=↑o:=by rw[n.2 b S,W.2 b S];exact ho
   refine Ja (Ja (wpAny_setEpoch_of (s:=#[B,g,M,tk,L]) a2 hd hf ?_))
   simp only[bne_self_eq_false,D2,JH];refine Jd (Jd (hZ _ #[B,done++[(knd.hash k,x)],l,Z,by rw[e,IU];rfl,W.trans n,r,Y,λp=>?_,by rw[Jy,IM];lia]))
   rw[T,JI,JP]
   show _↔¬(_↔_\/p∈[kf x])
   rw[kx,Ji]
   by_cases c:p=k
   .subst c
    rw[Jc Z,mk];constructor
    .intro z y;exact z (y.mpr (.inr Z))
    .intro z y;exact z #[λ_=> .inr Z,λ_=>y]
   .rw[Jb c,C p]
    simp only[c,Ju]
  refine Ja (JM (Ja (yj (s:=#[h',g,M,tk,L]) I hk F G λB n r=>?_)))
  by_cases J:k∈j
  .rw[Jj J,Jb ⋯]
   refine Jd ?_
   refine Jx (R B _ n r (H.erase k) (λp=>?_) (JN (List.length_erase_le ..) (IL _)) _ λs' z=>z) (λN s' z=>by cases N<;>exact z) λ_ _ z=>z
   by_cases c:p=k
   .subst c
    rw[Jc Z]
    exact#[λz=>absurd z (List.Nodup.not_mem_erase H),λz=>absurd J z]
   .rw[Jb c];exact Pe c
  .rw[Jn J,Jc (show(! false)=true from Z)]
   rw[Pd J]at r;refine Ja (va (s:=#[B,g,M,tk,L]) I hk F r (by lia) λh3 a3 U=>Jd ?_)
   rw[Jb J]at U;refine Jx (R h3 _ (n.trans a3) U ?_ (λp=>?_) (by rw[Jy];exact Jf _) _ λs' z=>z) (λN s' z=>by cases N<;>exact z) λ_ _ z=>z
   .rw[Lj]
    exact#[H,by simp,λx1 a4 y1 a1 e1=>J (by rw[Ji.mp a1]at e1;rw[<- e1];exact a4)]
   .rw[JP,Ji]
    by_cases c:p=k
    .rw[Jc c];exact#[λ_=>J,λ_=> .inr c]
    .rw[Jb c];exact#[λz=>z.resolve_right c,.inl]
 .rintro _ s' ⟨h',done,j,rfl,e,W,G,H,C,len⟩
  rw[Ic]at e;refine h h' j W G H (by rw[<- Jq,e];exact len) (by rw[e];exact C)
theorem lR:entryFor table "set.__xor__"=some γ.«frozenset.__xor__»:=
 entryFor_alias (id':="frozenset.__xor__") (by kernel_rfl) Z nofun (by kernel_rfl)
theorem EG(x y:Γ):γ.«frozenset.__xor__» #[[x,y],[]]=(do
 if !(<- γ.Frozenset.isAnySet x <&&> γ.Frozenset.isAnySet y)then
  rule s!"frozenset.{"__xor__"}.declined"
  return <- ret .notImplemented
 ret (<- (λ(id:String) (l:Δ) (r:Γ)=>(do
  let a <- γ.Frozenset.newFrom id (<- γ.Frozenset.baseOf l) r
  holding [a] (γ.Frozenset.symmetricDifferenceUpdate id (<- γ.Frozenset.addrOf a) (-l))
  return a:Sem Γ)) s!"frozenset.{"__xor__"}" (<- γ.Frozenset.addrOf x) y)):=Z
theorem FW(S:∀k v,knd.is k v=true->kf v=k){a b:Δ}{Q:HG}(b7:a≠b)(F:SetK knd kf s.heap a f)(D:SetK knd kf s.heap b m)(na:f.Nodup)(nb:m.Nodup)(la:f.length+m.length<=1000)(lb:m.length<=100)
  (h:∀h' p,(∀c o,s.heap.get? c=↑o->h'.get? c=↑o)->SetK knd kf h' s.heap.objs.size p->p.Nodup->p.length<=f.length+m.length->(∀k,k∈p↔¬(k∈f↔k∈m))->Q (-s.heap.objs.size) {s with heap:=h'}):
  ε (model prog w) A (binaryOp .BitXor (-a) (-b)) Q E s:=by
 have g:=F.type (h:=s.heap)
 have q:=D.type (h:=s.heap)
 refine wpAny_binaryOp_same (op:= .BitXor) (T:="set") g q PySem.F.fills_set_xor PySem.F.slot_set_xor (JY PySem.F.slot_set_xor g lR ?_ (PySem.F.args_set_xor_2 _ _))
 rw[EG];refine Ja (Ja (Z3 g ?_))
 show ε _ _ (γ.Frozenset.isAnySet (Γ.ref b)) _ _ _
 refine Z3 q ?_
 simp only[KW,D2,JH];refine Ja (Jd (Ja ?_))
 unfold γ.Frozenset.newFrom γ.Frozenset.baseOf;refine Ja (Ja (IX g sub_set_self (Jd ?_)))
 rw[Jc Z];refine Ja (Ja (pD ?_))
 have hr:(s.heap.push (Qw (! zC w))).get? s.heap.objs.size=↑(Qw (! zC w)):=Jp _ Z
 have n:∀c o,s.heap.get? c=↑o->(s.heap.push (Qw (! zC w))).get? c=↑o:=λc o e=>Jk _ e
 have I:SetK knd kf (s.heap.push (Qw (! zC w))) a f:=F.at (n a)
 have l:SetK knd kf (s.heap.push (Qw (! zC w))) b m:=D.at (n b)
 have B:=F.lt;have J:=D.lt;have d:s.heap.objs.size≠a:=(Jm B).symm
 have H:s.heap.objs.size≠b:=(Jm J).symm
 refine Ja (Jd (Ja (JM ?_)))
 unfold γ.Frozenset.updateFrom;have z:Θ.TypeIs {s with heap:=s.heap.push (Qw (! zC w))} (-b) "set":=l.type (s:={s with heap:=s.heap.push (Qw (! zC w))}) (h:=s.heap)
 refine Ja (Z3 z ?_)
 rw[Jc Z];refine Ja (Ja (Jd (Jd ?_)))
 unfold γ.Frozenset.merge;let#[ob,eb,b5,tb,b1,b2,b3,b4,_]:=id l;refine Ja (wpAny_setEpoch_of (s:={s with heap:=s.heap.push (Qw (! zC w))}) b1 b3 b4 ?_)
 refine ig (s:={s with heap:=s.heap.push (Qw (! zC w))}) H (wG hr) l lb λh1 u G _=>Jd ?_
 have y:SetK knd kf h1 a f:=I.at λo1 e1=>by rw[u.2 a d.symm];exact e1
 have i:Θ.TypeIs {s with heap:=h1} (-a) "set":=y.type (s:={s with heap:=h1}) (h:=s.heap)
 refine Ja (Jd (Ja (JM ?_)))
 unfold γ.Frozenset.symmetricDifferenceUpdate;have C:((Γ.ref a:Γ)==Γ.ref s.heap.objs.size)=false:=by
  rw[IS];intro e;cases e;exact d Z
 rw[C];simp only[D2,JH];refine Ja (LC i ?_)
 have M:((Γ.type "set":Γ)==Γ.type "dict")=false:=by decide
 rw[M];simp only[D2,JH];refine Ja (Z3 i ?_)
 rw[Jc Z];refine Ja (Jd (Ja (Jd ?_)))
 let#[oa,ea,b6,ta,a1,a2,R,U,a5,a6,a7,a8]:=id y;refine Ja (wpAny_setEpoch_of (s:={s with heap:=h1}) a1 R U ?_)
 refine JM (Ja (tD (s:={s with heap:=h1}) a1 a2 R U a5 a6 a8 G λj h2 L r X=>?_))
 have b8:j.size=f.length:=by rw[<- Jq,L.length_eq,Jq,<- a7.length_eq,Je,Jq]
 have N:h2.get? a=↑oa:=by rw[r.2 a d.symm];exact a1
 have e4:scanBound=4096:=Z
 have x:(j.toList.map λe=>kf e.2).Perm f:=(L.map λe=>kf e.2).trans a7
 refine Ja (wD (s:={s with heap:=h2}) S (toString "frozenset."++toString "__xor__") d.symm R U j (a6.perm L) (x.nodup_iff.mpr na) (by lia) N X nb λh3 p W Y P b0 t=>Jd (Jd (Jd #[0,(λe=>nomatch e),?_])))
 refine h h3 p (λc o e=>?_) Y P (by lia) λk=>?_
 .have O:c≠s.heap.objs.size:=Jm (Jl e)
  rw[W.2 c O,r.2 c O,u.2 c O];exact n c o e
 .rw[t,x.mem_iff]
  exact not_congr #[Iff.symm,Iff.symm]
end
end S0
namespace L3
open PySem PySem.Spec PyProof.Rows L2 S0
section
theorem uY{Q:HG}(J:A.handled=none)(S:SetK (TF prog w) numOf s.heap a ks)(G:ks.length<64)
  (h:∀(h':Ψ) (tk:Nat) (d:Drawn) (l:Δ) (its:Ζ) (n:Nat) (ns:Β),s.heap.objs.size<=l->(∀b o,s.heap.get? b=↑o->h'.get? b=↑o)->h'.get? l=↑(R5 "list" its.toArray n)->
   IntsAre its ns->ns.Perm ks->ns.Pairwise (· <= ·)->Q (-l) {s with heap:=h',toks:=tk,drawn:=d}):
  ε (model prog w) A (call (.builtin "sorted") [-a]) Q E s:=by
 let#[o,es,ep,t,D,u,P,H,B,z,j,r]:=S;refine SK kind_sorted plain_sorted entry_sorted (args_sorted1 _) ?_
 unfold γ.«sorted»
 refine Ja (m:=checkCount "sorted" 1 1 _) (Jd ?_)
 refine Ja (kX J D u P H B r λvs h' tk d hk R q=>?_)
 have O:IntsAre vs (vs.map numOf):=by
  refine intsAre_map vs λv C=>?_
  let#[e,L,rfl]:=JC.mp (q.mem_iff.mp C)
  let#[#[k,h1,_],_]:=z e L;let#[I,F]:=Γ.isInt_shape h1
  exact#[k,I,F]
 have i:(vs.map numOf).Perm ks:=by
  refine(q.map numOf).trans ?_
  rw[Ir];exact j
 have x:vs.length<=ζ:=by
  rw[q.length_eq,Je,Jq];exact fits_of_scanBound B
 have g:vs.length<64:=by
  have:=i.length_eq
  rw[Je]at this;omega
 refine Ja (wpAny_newList ?_ x)
 have c:(h'.push (R5 "list" vs.toArray 0)).get? h'.objs.size=↑(R5 "list" vs.toArray 0):=Jp _ Z
 show ε _ _ _ _ _ {s with heap:=h'.push (R5 "list" vs.toArray 0),toks:=tk,drawn:=d}
 refine Ja (JM (JY slot_list_sort #[_,c,Z] entry_list_sort (list_sort_tree c O g λout ns N K M=>#[0,?_]) (args_list_sort _)))
 let#[y,p]:∃y,(sortedHeap (h'.push (R5 "list" vs.toArray 0)) h'.objs.size vs out).get? h'.objs.size=↑(R5 "list" out y):=sortedHeap_at c
 refine Jd #[0,h _ tk d h'.objs.size out.toList y ns R (λb o e=>?_) (by rw[p]) N (K.trans i) M]
 have e':=hk b o e;have f:b<h'.objs.size:=Jl e'
 rw[sortedHeap_old (Jm f) (by rw[JU];exact Ik f)]
 exact Jk _ e'
theorem lU(hc:X.calm=true):zj X (.builtin "sorted") (λxs H Q=>∃(p:Δ) (ks:Β),xs=[-p]/\H p=↑(bh X.prog X.w p ks)/\ks.length<64/\
  ∀l (ms:Β),H l=none->ms.Perm ks->ms.Pairwise (· <= ·)->Q (-l) (HM H l (.lst (ms.map V.int)))):=by
 intro R0 s σ H xs z Q I r h;let#[p,ks,rfl,t,f,q]:=h;let#[u,rfl,v]:=zT r;cases v;let#[m,_]:=I.hok p _ t;have e:=SetK.len m;refine uY (I.ok.hd hc) m f λh' tk d l c n j i hk x y g w=>?_
 refine#[-l,_,(I.laid (a:=l) (o:= .lst (j.map V.int)) (t':=tk) hk i ?_).drw d,Z,q l j (I.hok.fresh i) g w]
 refine#[?_,c,n,gq y,x]
 rw[Je,g.length_eq];exact fits_of_scanBound e
inductive RQ (X:Cx)(x:V)(y:V)(H:Hp)(Q:VK):Prop
 |mk (a b:Δ)(ka kb:Α)(h1:x= .ref a)(h2:y= .ref b)(h3:a≠b)(h4:H a=↑(aS X.prog X.w a ka))(h5:H b=↑(aS X.prog X.w b kb))(h6:ka.Nodup)(h7:kb.Nodup)(h8:ka.length+kb.length<=100)(h9:∀l ks,H l=none->ks.Nodup->(∀k,k∈ks↔k∈ka\/k∈kb)->Q (-l) (HM H l (aS X.prog X.w l ks)))
def GN(X:Cx):R2:=λx y H Q=>RQ X x y H Q
theorem DX:zx X (binaryOp .BitOr) (GN X):=by
 intro R0 s σ H x y v u Q I g r h;let#[a,b,C,E,rfl,rfl,d,j,t,l,nb,i,q]:=h;cases g;cases r;let#[p,_]:=I.hok a _ j;let#[n,_]:=I.hok b _ t;refine Gv (yr _ _) d p n l nb i λh' m B f z c=>?_
 refine#[-s.heap.objs.size,_,I.laid (t':=s.toks) (o:=aS X.prog X.w s.heap.objs.size m) B (Jf _) #[f,?_,λh1 D w A=>w.at A],Z,q _ _ (I.hok.fresh (Jf _)) z c]
 let#[o,_,_,_,e,_]:=f
 exact#[o,e]
inductive Rq (X:Cx)(x:V)(y:V)(H:Hp)(Q:VK):Prop
 |mk (a b:Δ)(ka kb:Β)(h1:x= .ref a)(h2:y= .ref b)(h3:a≠b)(h4:H a=↑(bh X.prog X.w a ka))(h5:H b=↑(bh X.prog X.w b kb))(h6:ka.Nodup)(h7:kb.Nodup)(h8:ka.length+kb.length<=1000)(h9:kb.length<=100)(h10:∀l ks,H l=none->ks.Nodup->ks.length<=ka.length+kb.length->(∀k,k∈ks↔¬(k∈ka↔k∈kb))->Q (-l) (HM H l (bh X.prog X.w l ks)))
def FO(X:Cx):R2:=λx y H Q=>Rq X x y H Q
theorem Dt:zx X (binaryOp .BitXor) (FO X):=by
 intro R0 s σ H x y v u Q I g r h;let#[a,b,D,F,rfl,rfl,d,j,t,l,nb,i,C,q]:=h;cases g;cases r;let#[p,_]:=I.hok a _ j;let#[n,_]:=I.hok b _ t;refine FW (wq _ _) d p n l nb i C λh' m B f z len c=>?_
 refine#[-s.heap.objs.size,_,I.laid (t':=s.toks) (o:=bh X.prog X.w s.heap.objs.size m) B (Jf _) #[f,?_,λh1 E w A=>w.at A],Z,q _ _ (I.hok.fresh (Jf _)) z len c]
 let#[o,_,_,_,e,_]:=f
 exact#[o,e]
end
end L3
namespace L3
open PySem PySem.Spec PyProof.Rows L2 SeqAt
def tU(t:Str):Γ->Bool
 | .str x _=>x==t
 |_=>false
theorem gU(t:Str):∀{its:Ζ} {a:Α},StrsAre its a->its.countP (tU t)=a.count t
 |_,_,.nil=>rfl
 |_,_,.cons x tk r=>by
  rw[List.countP_cons,K6,gU t r];rfl
theorem vz:pL X "list.count" (λx vs H Q=>∃(l:Δ) (c:Α) (t:Str),x= .ref l/\vs=[.str t]/\H l=↑(.lst (c.map V.str))/\Q (.int (c.count t:Nat)) H):=by
 intro R0 s σ H x xs v C Q I i m h;let#[l,c,t,rfl,rfl,g,q]:=h;cases i;let#[u,rfl,p]:=m.one;let#[tk,rfl]:=p;let#[z,a,n,o,d]:=I.hok l _ g;have e:=cI o;refine Lo F.slot_list_count #[_,d,Z] F.entry_list_count (F.args_list_count_2 _ _) (list_countAt l _ n none _ (.str t tk) (tU t)) #[d,λy r=>?_,?_]
 .let#[j,f,rfl]:=HB.mp (show y∈a by simpa using r)
  let#[B,w]:=bE e j _ (Jh f)
  rw[w];exact TL (A:=X.A.in1) (s:=s) _ B t tk
 .exists .int _,H,I.tok _,#[0]
  show Q (.int ((a.toArray.toList.countP (tU t):Nat):Int)) H
  rw[List.toList_toArray,gU t e];exact q
section
theorem Do{A:Rj}(I:L2.HN X R0 σ H s){a b:Δ}{z c:Int×Int}(h1:H a=↑(.tup [.int z.1,.int z.2]))(h2:H b=↑(.tup [.int c.1,.int c.2]))(hu:A.units<cLine):EqAt A s (-a) (-b) (decide (z=c)):=by
 by_cases i:a=b
 .subst i
  rw[h1]at h2;injection h2 with h2
  injection h2 with h2
  have e:z=c:=by
   simp only[List.cons.injEq,V.int.injEq,and_true]at h2;exact Prod.ext h2.1 h2.2
  rw[Jj e];exact Sn _
 .let#[h,p,q,_]:=I.tuple (HX.of (K:=X.K) h1)
  let#[d,o,p2,_]:=I.tuple (HX.of (K:=X.K) h2)
  have n:=p.length;have l:=o.length;have e:=Sx (A:=A) (e:=λj=>[z.1,z.2].getD j 0==[c.1,c.2].getD j 0) (show s.heap.IsTuple a h.toArray from q) (show s.heap.IsTuple b d.toArray from p2) hu (λj h1 h2=>by
   have f:j<h.length:=by simpa using h1
   have g:j<d.length:=by simpa using h2
   let#[t,e]:=aQ (ns:=[z.1,z.2]) p j f (by rw[<- n]at f;exact f)
   let#[u,e']:=aQ (ns:=[c.1,c.2]) o j g (by rw[<- l]at g;exact g)
   simp only[KM,e,e',JG,Jh (show j<[z.1,z.2].length by rw[<- n]at f;exact f),Jh (show j<[c.1,c.2].length by rw[<- l]at g;exact g),IP]
   exact EqAt.int_int _ _ _ _)
  have es:h.toArray.size=2:=by rw[Js];exact n.symm
  have m:d.toArray.size=2:=by rw[Js];exact l.symm
  rw[es,m]at e;have e:RcAt A s (-a) (-b) ((z.1==c.1&&(z.2==c.2&&true))&&true):=e
  have r:((z.1==c.1&&(z.2==c.2&&true))&&true)=decide (z=c):=by
   rw[Iu];simp [Prod.ext_iff]
  rw[r]at e;exact TM i e
inductive RR (x:V)(y:V)(H:Hp)(Q:VK):Prop
 |mk (a b:Δ)(zs ws:List (Int×Int))(h1:x= .ref a)(h2:y= .ref b)(h3:Oe H a zs)(h4:Oe H b ws)(h5:Q (.bl (decide (zs≠ws))) H)
def GP:R2:=λx y H Q=>RR x y H Q
theorem D8{k:Nat}(hr:MK k X.A):zx X (Py .NotEq) GP:=by
 intro R0 s σ H x y v u Q I i o h;let#[a,b,zs,f,rfl,rfl,#[W,G,T,S],#[bs,O,L,J],q]:=h;cases i;cases o;let#[d,F,P,_]:=I.tuple (HX.of (K:=X.K) G)
 let#[c,r,p2,_]:=I.tuple (HX.of (K:=X.K) O)
 have t:=F.length;have z:=r.length;rw[Je]at t z;have U:X.A.units+2<cLine:=by have:=hr.un;lia
 have e:=RcNeAt.tuples (A:=X.A) (e:=λj=>decide (zs.getD j (0,0)=f.getD j (0,0))) (show s.heap.IsTuple a d.toArray from P) (show s.heap.IsTuple b c.toArray from p2) (by lia) (λj h1 m=>by
  have p:j<d.length:=by simpa using h1
  have n:j<c.length:=by simpa using m
  let#[x,ex,i]:=zK F p;let#[y,B,o]:=zK r n;rw[Jo]at ex B;let#[D,l,rfl]:=JO.mp ex;let#[w,g,rfl]:=JO.mp B;have E:j<zs.length:=by lia
  have C:j<f.length:=by lia
  simp only[KM];rw[show d[j]=Γ.ref D from i,show c[j]=Γ.ref w from o,JG,JG,Jh E,Jh C,IP,IP]
  exact Do I (S j D _ l (Jh E)) (J j w _ g (Jh C)) (by rw[Lu];lia))
 have R:(!((Ag (min d.toArray.size c.toArray.size)).all (λj=>decide (zs.getD j (0,0)=f.getD j (0,0)))&&d.toArray.size==c.toArray.size))=decide (zs≠f):=by
  rw[Js,Js,<- t,<- z,T,L];rw[Iu,MD,decide_eq_true_eq,<- Pf,JF,IV,J7];refine not_congr #[λ⟨h1,m⟩=>?_,λh=>?_]
  .refine KD m λj N M=>?_
   have:=Jz (h1 j (JT.mpr (by lia)))
   rw[JG,JG,Jh N,Jh M]at this;exact this
  .subst h
   exact#[λj _=>Jj Z,Z]
 rw[R]at e;exact e _ _ _ _ #[.bl _,H,I,Z,q]
end
end L3
namespace L3
open PySem PySem.Spec PyProof.Rows L2
section
variable{age c:Int}
theorem dy{D:Dr}{nm:Str}{age c:Int}:HP D nm age c=D.kn\/∃e,D.kn.lookup nm=↑e/\qO D e age=true/\HP D nm age c=zr D.kn nm (zD D.near D.far e age c).2:=by
 unfold HP zu;cases e1:D.kn.lookup nm with
 |none=>exact .inl Z
 |some e=>
  simp only
  by_cases a:qO D e age=true
  .rw[Jc a]
   exact .inr #[e,Z,a,by split<;>rfl]
  .rw[Jb a];exact .inl Z
theorem f8(a:t.Perm Nf)(hn:ZL nm)(e:0<=c)(f:c<4096)(hd:bO d):Oy (QR t kss nm age c d):=#[hn,wV ..,Bx a e f hd]
end
def Oc(f:Nat->Dr->Dr)(k:Nat)(xs a:Υ):Prop:=a.length=xs.length/\∀(i:Nat) (x:En),xs[i]? =↑x->∃L',a[i]? =↑(x.1,f i x.2.1,L')/\L'.length<=x.2.2.length+k
theorem Oc.refl(xs:Υ):Oc (λ_ D=>D) 0 xs xs:=#[Z,λi x a=>#[x.2.2,a,Jf _]]
theorem Oc.set{f g:Nat->Dr->Dr}{k i:Nat}{x:En}{L' L'':Ρ}(h:Oc f k xs c)(hx:xs[i]? =↑x)(e:c[i]? =↑(x.1,f i x.2.1,L'))(hl:L''.length<=L'.length+1)(hg:g i x.2.1=D')(ho:∀j,j≠i->g j=f j):Oc g (k+1) xs (c.set i (x.1,D',L'')):=by
 refine#[by rw[Lg];exact h.1,λj y d=>?_]
 let#[M,a,l]:=h.2 j y d
 by_cases z:j=i
 .subst z
  rw[hx]at d;cases d
  rw[e]at a
  have:L'=M:=by injection a with a;injection a with _ a;injection a
  subst this
  exact#[L'',by rw[LY (by rw[h.1];exact(Jw.mp hx).1),hg],by lia]
 .exact#[M,by rw[LZ (λw=>z w.symm),ho j z];exact a,by lia]
theorem Oc.mono{f:Nat->Dr->Dr}{k c:Nat}(h:Oc f k xs a)(l:k<=c):Oc f c xs a:=#[h.1,λi x d=>let⟨L',e,q⟩:=h.2 i x d;#[L',e,by lia]]
theorem Oc.ext{f g:Nat->Dr->Dr}{k:Nat}(h:Oc f k xs a)(e:∀i x,xs[i]? =↑x->f i x.2.1=g i x.2.1):Oc g k xs a:=#[h.1,λi x c=>let⟨L',q,r⟩:=h.2 i x c;#[L',by rw[q,e i x c],r]]
noncomputable def P9(H:Hp)(v:V):Option (Int×Int)->Prop
 |none=>v= .non
 |some (a,l)=>∃t,v= .ref t/\H t=↑(.tup [.int a,.int l])
def NY(H:Hp)(tl:Δ)(a:List (Option (Int×Int))):Prop:=∃vs:Ε,H tl=↑(.lst vs)/\vs.length=a.length/\∀(i:Nat) (v:V) (o:Option (Int×Int)),vs[i]? =↑v->a[i]? =↑o->P9 H v o
theorem P9.mv(m:Mv S H H')(n:NT S H)(h:P9 H v o):P9 H' v o:=by
 cases o with
 |none=>exact h
 |some p=>let#[t,e,r]:=h;exact#[t,e,m.tup n r]
theorem NY.mv(h:NY H tl a)(m:Mv S H H')(n:NT S H)(hs:tl∉S):NY H' tl a:=by
 let#[vs,e,l,r]:=h
 exact#[vs,m _ _ hs e,l,λi v o d c=>(r i v o d c).mv m n]
theorem NY.same(h:NY H tl a)(s:HJ H H'):NY H' tl a:=h.mv (S:=[]) s.mv fi (λh=>nomatch h)
noncomputable def bA(nm:Str)(D:Dr):Option (Int×Int)->Dr
 |none=>D
 |some (a,l)=>{D with kn:=zr D.kn nm #[a,l,none]}
section
theorem kF:zj X (.type "range") (λxs H Q=>∃i j:Int,xs=[.int i,.int j]/\∀p,H p=none->Q (-p) (HM H p (.rng i j))):=by
 intro R0 s σ H xs d Q I r h;let#[i,j,rfl,q]:=h;let#[u,v,rfl,c,a]:=gt r;let#[t,rfl]:=c;let#[f,rfl]:=a;refine call_range_2 #[-s.heap.objs.size,_,I.laid (o:= .rng i j) (λb o e=>Jk _ e) (Jf _) #[39,Jp _ Z],Z,q _ (I.hok.fresh (Jf _))]
def Qq(a:Int)(n:Nat):Ε:=(Ag n).map λi:Nat=>V.int (a+(i:Int))
theorem gX(hc:X.calm=true):zj X (.type "list") (λxs H Q=>∃(p:Δ) (a:Int) (n:Nat),xs=[-p]/\H p=↑(.rng a (a+(n:Int)))/\ -(2 ^ 60)<=a/\a<=2 ^ 60/\n<=2 ^ 24/\∀l,H l=none->Q (-l) (HM H l (.lst (Qq a n)))):=by
 intro R0 s σ H xs f Q I r h;let#[p,a,j,rfl,A,D,C,y,q]:=h;let#[u,rfl,B]:=zT r;cases B;let#[t,u,v,e]:=I.hok p _ A;refine call_list_range (n:=j) (I.ok.hd hc) (show IsRange s.heap p a (a+(j:Int)) 1 t u v from e) (small_one (by lia) (by lia) (by lia) (by lia)) (by rw[rangeSize_one];split<;>lia) y λh' tk d c' hk w c=>?_
 refine#[-s.heap.objs.size,_,I.laid (h':=h') (t':=tk) hk (Jf _) ?_,Z,q _ (I.hok.fresh (Jf _))]
 have x:∀(f:Ζ) (n k:Nat),f.length=n->(∀i v,f[i]? =↑v->∃t,v=Γ.int (a+((k+i:Nat):Int)) t)->HS ((List.range' k n).map λi:Nat=>V.int (a+(i:Int))) f:=by
  intro f
  induction f with
  |nil=>intro n k o _;cases o;exact .nil
  |cons u f ih=>
   intro n k o z;cases n with
   |zero=>cases o
   |succ n=>
    rw[ON,JS];let#[t,g]:=z 0 u Z;refine .cons #[t,by simpa using g] (ih n (k+1) (by simpa using o) λi v hi=>?_)
    let#[t,g]:=z (i+1) v hi
    exact#[t,by rw[g];congr 1;lia]
 have m:HS (Qq a j) d.toList:=by
  unfold Qq;rw[OO];refine x _ _ 0 (by rw[Jq];exact c.1) λi v hi=>?_
  let#[t,g]:=c.2 i v (by rw[<- KI];exact hi)
  exact#[t,by rw[g];first|rfl|(congr 1;lia)]
 exact#[by unfold Qq;simp only[Je,E1];exact JN y (by rw[JD];decide),d.toList,c',m,w]
end
theorem oo(a:Int)(n:Nat):(Qq a n).length=n:=by unfold Qq;rw[Je,E1]
theorem jT{i:Nat}{x:V}(h:(Qq a n)[i]? =↑x):x= .int (a+(i:Int))/\i<n:=by
 unfold Qq at h;rw[Jo]at h;have hi:i<n:=by
  cases q:(Ag n)[i]? with
  |none=>rw[q]at h;cases h
  |some y=>have:=(Jw.mp q).1;rwa [E1]at this
 rw[LX hi]at h;cases h
 exact#[Z,hi]
noncomputable def ZW(n:Int)(S:List (Int×Int)):List (Int×Int):=S.filterMap λp=>if p.1<n then ↑(p.1,if p.2<n-1 then p.2 else n-1)else none
noncomputable def QU(n:Int)(S:List (Int×Int)):Bool:=S.any λp=>decide (p.1<=n)&&decide (n<=p.2)
inductive Rz:List (Int×Int)->Prop where
 |nil:Rz []
 |one (f l:Int)(h:f<=l):Rz [(f,l)]
 |two (f l g:Int)(h:f<=l)(h2:l+1<g):Rz [(f,l),(g,g)]
noncomputable def Bh(F:List (Int×Int))(n:Int):List (Int×Int):=match F.getLast? with
 |some (f,l)=>if l=n-1 then F.dropLast++[(f,n)]else F++[(n,n)]
 |none=>[(n,n)]
theorem li(h:Rz S)(n:Int):ZW (n+1) S=if QU n S=true then Bh (ZW n S) n else ZW n S:=by
 cases h with
 |nil=>rfl
 |one f l h=>
  unfold ZW QU Bh
  by_cases h1:f<n
  .by_cases d:n<=l
   .have c:(if f<n+1 then ↑(f,if l<n+1-1 then l else n+1-1)else none)=↑(f,n):=by rw[Jc (by lia),Jb (by lia)];congr 2;lia
    have a:(if f<n then ↑(f,if l<n-1 then l else n-1)else none)=↑(f,n-1):=by rw[Jc h1,Jb (by lia)]
    simp only[JW,KA,c,a,J4,KB];rw[Jj (by lia:f<=n),Jj d]
    simp
   .have c:(if f<n+1 then ↑(f,if l<n+1-1 then l else n+1-1)else none)=↑(f,l):=by rw[Jc (by lia),Jc (by lia)]
    have a:(if f<n then ↑(f,if l<n-1 then l else n-1)else none)=↑(f,l):=by rw[Jc h1];congr 2;split<;>lia
    simp only[JW,KA,c,a,J4,KB];rw[Jn d];simp
  .by_cases d:f=n
   .subst d
    have c:(if f<f+1 then ↑(f,if l<f+1-1 then l else f+1-1)else none)=↑(f,f):=by rw[Jc (by lia),Jb (by lia)];congr 2;lia
    have a:(if f<f then ↑(f,if l<f-1 then l else f-1)else none)=none:=by rw[Jb (by lia)]
    simp only[JW,KA,c,a,J4,KB];rw[Jj (GZ f),Jj h];simp
   .have c:(if f<n+1 then ↑(f,if l<n+1-1 then l else n+1-1)else none)=none:=by rw[Jb (by lia)]
    have a:(if f<n then ↑(f,if l<n-1 then l else n-1)else none)=none:=by rw[Jb h1]
    simp only[JW,KA,c,a,J4,KB];rw[Jn (by lia:¬f<=n)]
    simp
 |two f l g h hg=>
  unfold ZW QU Bh
  by_cases h1:f<n
  .by_cases d:n<=l
   .have c:(if f<n+1 then ↑(f,if l<n+1-1 then l else n+1-1)else none)=↑(f,n):=by rw[Jc (by lia),Jb (by lia)];congr 2;lia
    have a:(if f<n then ↑(f,if l<n-1 then l else n-1)else none)=↑(f,n-1):=by rw[Jc h1,Jb (by lia)]
    have i:(if g<n+1 then ↑(g,if g<n+1-1 then g else n+1-1)else none)=none:=by rw[Jb (by lia)]
    have e:(if g<n then ↑(g,if g<n-1 then g else n-1)else none)=none:=by rw[Jb (by lia)]
    simp only[JW,KA,c,a,i,e,J4,KB];rw[Jj (by lia:f<=n),Jj d]
    simp
   .have c:(if f<n+1 then ↑(f,if l<n+1-1 then l else n+1-1)else none)=↑(f,l):=by rw[Jc (by lia),Jc (by lia)]
    have a:(if f<n then ↑(f,if l<n-1 then l else n-1)else none)=↑(f,l):=by rw[Jc h1];congr 2;split<;>lia
    by_cases j:g<n
    .have i:(if g<n+1 then ↑(g,if g<n+1-1 then g else n+1-1)else none)=↑(g,g):=by rw[Jc (by lia),Jc (by lia)]
     have e:(if g<n then ↑(g,if g<n-1 then g else n-1)else none)=↑(g,g):=by rw[Jc j];congr 2;split<;>lia
     simp only[JW,KA,c,a,i,e,J4,KB];rw[Jn d,Jn (by lia:¬n<=g)]
     simp
    .by_cases m:g=n
     .subst m
      have i:(if g<g+1 then ↑(g,if g<g+1-1 then g else g+1-1)else none)=↑(g,g):=by rw[Jc (by lia),Jb (by lia)];congr 2;lia
      have e:(if g<g then ↑(g,if g<g-1 then g else g-1)else none)=none:=by rw[Jb (by lia)]
      simp only[JW,KA,c,a,i,e,J4,KB];rw[Jj (GZ g)];simp
      lia
     .have i:(if g<n+1 then ↑(g,if g<n+1-1 then g else n+1-1)else none)=none:=by rw[Jb (by lia)]
      have e:(if g<n then ↑(g,if g<n-1 then g else n-1)else none)=none:=by rw[Jb j]
      simp only[JW,KA,c,a,i,e,J4,KB];rw[Jn d,Jn (by lia:¬g<=n)]
      simp
  .have i:(if g<n+1 then ↑(g,if g<n+1-1 then g else n+1-1)else none)=none:=by rw[Jb (by lia)]
   have e:(if g<n then ↑(g,if g<n-1 then g else n-1)else none)=none:=by rw[Jb (by lia)]
   by_cases d:f=n
   .subst d
    have c:(if f<f+1 then ↑(f,if l<f+1-1 then l else f+1-1)else none)=↑(f,f):=by rw[Jc (by lia),Jb (by lia)];congr 2;lia
    have a:(if f<f then ↑(f,if l<f-1 then l else f-1)else none)=none:=by rw[Jb (by lia)]
    simp only[JW,KA,c,a,i,e,J4,KB];rw[Jj (GZ f),Jj h];simp
   .have c:(if f<n+1 then ↑(f,if l<n+1-1 then l else n+1-1)else none)=none:=by rw[Jb (by lia)]
    have a:(if f<n then ↑(f,if l<n-1 then l else n-1)else none)=none:=by rw[Jb h1]
    simp only[JW,KA,c,a,i,e,J4,KB];rw[Jn (by lia:¬f<=n),Jn (by lia:¬g<=n)]
    simp
theorem kE{S:List (Int×Int)}{n:Int}(h:∀p∈S,n<=p.1):ZW n S=[]:=by
 unfold ZW;rw[List.filterMap_eq_nil_iff];intro p a;rw[Jb (by have:=h p a;lia)]
theorem oA{S:List (Int×Int)}{n:Int}(h:∀p∈S,p.1<=p.2/\p.2<n):ZW n S=S:=by
 unfold ZW
 induction S with
 |nil=>rfl
 |cons p r ih=>
  have:=h p (Jr ..)
  rw[JW,Jc (by lia)]
  simp only
  rw[ih (λq c=>h q (Jv _ c))]
  congr 1
  let#[a,b]:=p;simp only at this⊢
  congr 1
  split<;>lia
section
def AB(n f:Int):Prop:=1<=n/\n<=4/\n<=f/\f<=12
inductive lc(vs:Ε)(H:Hp)(Q:VK)(_:XK):Prop
 |mk (b:Δ)(c:Nat)(h1:vs=[-b])(h2:MZ H b c)(h3:c<100000000)(h4:∀l x y (n f n' f':Int) H',NM b (c+7) H H'->H' l=↑(.lst [-x,-y])->H' x=↑(.tup [.int n,.int f])->H' y=↑(.tup [.int n',.int f'])->AB n f->AB n' f'->H l=none->Q (-l) H')
end
theorem NY.two{H:Hp}{v d:V}(e:H tl=↑(.lst [v,d]))(h:P9 H v o)(h':P9 H d o'):NY H tl [o,o']:=#[[v,d],e,Z,λi u w a c=>by
 match i,a,c with
 |0,a,c=>cases a;cases c;exact h
 |1,a,c=>cases a;cases c;exact h'
 |i+2,a,c=>cases a]
theorem vD{nms:Α}{nm:Str}{j:Nat}(c:nms.Nodup)(e:nms[j]? =↑nm):nm∉nms.take j:=λz=>by
 let#[k,hk,a]:=HB.mp z;rw[Pg]at a;rw[G5]at hk
 exact(Kg.mp c) k j (by lia) (Jw.mp e).1 (by lia) (a.trans (Jw.mp e).2.symm)
section
variable(K:ι)(C:Δ)
inductive jf(vs:Ε)(H:Hp)(Q:VK)(_:XK):Prop
 |mk (a:Da)(D:Dr)(L:Ρ)(nm:Str)(h1:vs=[-a.p,.str nm])(h2:M8 K C H a D L)(h3:L.length<=1000000)(h4:D.kn.lookup nm≠none)(h5:∀D' r,Fw D (.forget nm)=↑(D',r)->∀H',Mv [a.bd,a.lg] H H'->M8 K C H' a D' (L++[r])->Q .non H')
inductive oN(vs:Ε)(H:Hp)(Q:VK)(_:XK):Prop
 |mk (a:Da)(D:Dr)(L:Ρ)(k:Δ)(ks:Β)(h1:vs=[-a.p,-k])(h2:M8 K C H a D L)(h3:L.length<=1000000)(h4:D.kss.length<8)(h5:Gm H k ks)(h6:ks.length<=8)(h7:∀D' r,Fw D (.turn ks)=↑(D',r)->∀H',Mv [a.hk,a.lg] H H'->M8 K C H' a D' (L++[r])->Q .non H')
end
end L3
namespace Lw
open PySem L2 L3
theorem Hh:0<=ζ:=by decide
theorem Hl:1<=ζ:=by decide
theorem Ho:2<=ζ:=by decide
theorem Ht:3<=ζ:=by decide
theorem Hu:4<=ζ:=by decide
theorem Hw:5<=ζ:=by decide
theorem HF:16<=ζ:=by decide
noncomputable def qX(i:Nat):δ:=PySem.Challenge.pw_rollcode_k37_shared_by_turns.main.body.getD i (.Pass #[(0),(0),(0),(0)])
abbrev cp:δ:=qX 3
abbrev cX:δ:=qX 4
abbrev bt:δ:=qX 5
abbrev aT:δ:=qX 6
abbrev jM:δ:=qX 7
abbrev fB:δ:=qX 8
abbrev fK:δ:=qX 15
abbrev gi:δ:=qX 16
abbrev eu:δ:=qX 17
abbrev ZR:δ:=qX 18
abbrev iD:δ:=qX 19
abbrev Z1:δ:=qX 20
abbrev dv:δ:=qX 21
abbrev bw:δ:=qX 22
abbrev f7:δ:=qX 44
abbrev gp:δ:=qX 45
abbrev Zt:δ:=zF (qX 47) 0
abbrev Z0:δ:=zF (qX 47) 2
abbrev Zx:δ:=zF (qX 47) 8
abbrev Zy:δ:=zF (qX 47) 11
abbrev Zj:δ:=zF (qX 47) 10
abbrev QB:δ:=zF (qX 47) 9
abbrev Zw:δ:=zF (qX 47) 7
abbrev bU:δ:=zF (qX 47) 6
abbrev Zk:δ:=zF (qX 47) 12
abbrev bq:δ:=zF (qX 47) 1
abbrev aA:δ:=zF (qX 47) 3
abbrev ZM:δ:=zF (qX 47) 4
abbrev Q3:δ:=zF (qX 47) 5
abbrev ZA:δ:=zF (qX 47) 13
abbrev ZK:δ:=zF (qX 47) 14
abbrev Zn:δ:=zF (qX 47) 15
abbrev Zd:δ:=zF (qX 47) 16
abbrev ZZ:δ:=qX 25
abbrev db:δ:=qX 24
abbrev au:δ:=qX 27
abbrev bD:δ:=qX 32
abbrev ci:δ:=qX 30
abbrev ax:δ:=qX 29
abbrev ar:δ:=qX 28
abbrev bC:δ:=qX 31
abbrev fG:δ:=qX 26
abbrev jD:δ:=qX 33
abbrev eW:δ:=qX 35
abbrev ZT:δ:=qX 34
abbrev f6:δ:=qX 49
abbrev cW:δ:=qX 50
abbrev cq:δ:=qX 51
abbrev gh:δ:=qX 52
abbrev ca:δ:=qX 53
abbrev cZ:δ:=qX 55
abbrev da:δ:=qX 56
abbrev cg:δ:=qX 57
abbrev bf:δ:=qX 58
abbrev cn:δ:=qX 59
abbrev aX:δ:=qX 60
abbrev br:δ:=qX 63
abbrev fL:δ:=qX 64
abbrev aZ:δ:=qX 54
abbrev fU:δ:=qX 65
abbrev fR:δ:=qX 66
abbrev bY:δ:=qX 67
abbrev cj:δ:=qX 68
abbrev eE:δ:=qX 69
abbrev iw:δ:=qX 71
abbrev bV:δ:=qX 70
abbrev aG:δ:=qX 72
theorem qV{N P:Α}{c:Scope}(h1:c.kind= .function:=by rfl)(h2:c.isCoroutine=false:=by rfl)(f:c.isGenerator=false:=by rfl)(a:N.Nodup:=by decide +kernel)(g:N.take P.length=P:=by rfl)(e:∀x∈P,c.names.lookup x=some .local\/c.names.lookup x=some .cell:=by decide +kernel)(d:∀y∈c.names,y.2≠ .free:=by decide +kernel):HK N P c:=#[h1,h2,f,a,g,e,d]
theorem oQ:HK (["thing"]:Α) (["thing"]:Α) (qi cp):=qV
theorem rG:HK (["thing"]:Α) (["thing"]:Α) (qi cX):=qV
theorem lQ:HK (["things"]:Α) (["things"]:Α) (qi bt):=qV
theorem Np:HK (["table","back","place","digit"]:Α) (["table"]:Α) (qi aT):=qV
theorem NN:HK (["table","key","digits","row","shift","place","ahead"]:Α) (["table","key","digits"]:Α) (qi jM):=qV
theorem Nh:HK (["table","key","digits","back","row","shift","place","ahead"]:Α) (["table","key","digits"]:Α) (qi fB):=qV
theorem vo:HK (["thing"]:Α) (["thing"]:Α) (qi fK):=qV
theorem vj:HK (["thing"]:Α) (["thing"]:Α) (qi gi):=qV
theorem NG:HK (["thing","name","age","code"]:Α) (["thing"]:Α) (qi eu):=qV
theorem MY:HK (["name","digits","letter","place"]:Α) (["name"]:Α) (qi ZR):=qV
theorem NQ:HK (["table","key","name","sums","place","digit"]:Α) (["table","key","name"]:Α) (qi iD):=qV
theorem jb:HK (["count"]:Α) (["count"]:Α) (qi Z1):=qV
theorem NO:HK (["table","key","name","age","count","deed","four","five"]:Α) (["table","key","name","age","count","deed"]:Α) (qi dv):=qV
theorem MF:HK (["table","key","press","name","age","code","low","middle","high","deed","check"]:Α) (["table","key","press"]:Α) (qi bw):=qV
theorem vm:HK (["count","last","near","far"]:Α) (["count","last","near","far"]:Α) (qi f7):=qV
theorem Ni:HK (["button","age","count","near","far","own_age","last","waiting","word"]:Α) (["button","age","count","near","far"]:Α) (qi gp):=qV
theorem cP:HK (["self","table","keys","near","far","most"]:Α) (["self","table","keys","near","far","most"]:Α) (qi Zt):=qV
theorem jm:HK (["self"]:Α) (["self"]:Α) (qi Z0):=qV
theorem gQ:HK (["self","name"]:Α) (["self","name"]:Α) (qi Zx):=qV
theorem gR:HK (["self","age"]:Α) (["self","age"]:Α) (qi Zy):=qV
theorem gr:HK (["self","button","age"]:Α) (["self","button","age"]:Α) (qi Zj):=qV
theorem ao:HK (["self","button","age","count"]:Α) (["self","button","age","count"]:Α) (qi QB):=qV
theorem HW:HK (["self","press","name","age","code","button","pair","count","deed","word","behind"]:Α) (["self","press"]:Α) (qi Zw):=qV
theorem NZ:HK (["self","thing","answer"]:Α) (["self","thing"]:Α) (qi bU):=qV
theorem fJ:HK (["self","thing"]:Α) (["self","thing"]:Α) (qi Zk):=qV
theorem MR:HK (["self","one","other","first","second","name","age","code"]:Α) (["self","one","other"]:Α) (qi bq):=qV
theorem jK:HK (["self","name"]:Α) (["self","name"]:Α) (qi aA):=qV
theorem NJ:HK (["self","key","turned"]:Α) (["self","key"]:Α) (qi ZM):=qV
theorem fo:HK (["self","age"]:Α) (["self","age"]:Α) (qi Q3):=qV
theorem gN:HK (["self"]:Α) (["self"]:Α) (qi ZA):=qV
theorem iL:HK (["self"]:Α) (["self"]:Α) (qi ZK):=qV
theorem gl:HK (["self"]:Α) (["self"]:Α) (qi Zn):=qV
theorem fq:HK (["self"]:Α) (["self"]:Α) (qi Zd):=qV
theorem ME:HK (["door","button","age","near","far","most","own_age","last","waiting","stretches","after"]:Α) (["door","button","age"]:Α) (qi ZZ):=qV
theorem rF:HK (["door","name","age"]:Α) (["door","name","age"]:Α) (qi db):=qV
theorem jx:HK (["door"]:Α) (["door"]:Α) (qi au):=qV
theorem ma:HK (["one","first","other","second"]:Α) (["one","first","other","second"]:Α) (qi bD):=qV
theorem pB:HK (["stretches"]:Α) (["stretches"]:Α) (qi ci):=qV
theorem j8:HK (["these","those"]:Α) (["these","those"]:Α) (qi ax):=qV
theorem Nc:HK (["one","first","other","second","age","these","those"]:Α) (["one","first","other","second"]:Α) (qi ar):=qV
theorem MG:HK (["one","first","other","second","age","end","count","word","here","there","press"]:Α) (["one","first","other","second"]:Α) (qi bC):=qV
theorem Nj:HK (["one","other","names","name","press","pair"]:Α) (["one","other"]:Α) (qi fG):=qV
theorem Bn:HK (["one","other"]:Α) (["one","other"]:Α) (qi jD):=qV
theorem MM:HK (["door","row","buttons","told","name","age","count","word","behind"]:Α) (["door","row"]:Α) (qi eW):=qV
theorem Nk:HK (["one","other","row","these","those"]:Α) (["one","other","row"]:Α) (qi ZT):=qV
theorem Nl:HK (["_law_script","_law_k","_law_cell","_law_fold","_law_one_here"]:Α) (["_law_script","_law_k"]:Α) (qi f6):=qV
theorem Nu:HK (["_law_box_here","_law_many","_law_digit","_law_m","_law_turn"]:Α) (["_law_box_here","_law_many"]:Α) (qi cW):=qV
theorem N1:HK (["_law_box_here","_law_rest"]:Α) (["_law_box_here"]:Α) (qi cq):=qV
theorem uH:HK (["_law_box_here"]:Α) (["_law_box_here"]:Α) (qi gh):=qV
theorem mI:HK (["_law_near","_law_far","_law_keys"]:Α) (["_law_near","_law_far","_law_keys"]:Α) (qi ca):=qV
theorem M9:HK (["_law_own","_law_plain","_law_name","_law_age","_law_count","_law_row","_law_gone"]:Α) (["_law_own","_law_plain"]:Α) (qi cZ):=qV
theorem Nv:HK (["_law_own","_law_plain","_law_word_here","_law_name","_law_age","_law_count"]:Α) (["_law_own","_law_plain"]:Α) (qi da):=qV
theorem Nx:HK (["_law_code","_law_plain","_law_deed_here","_law_name","_law_age","_law_count"]:Α) (["_law_code","_law_plain","_law_deed_here"]:Α) (qi cg):=qV
theorem M0:HK (["_law_code","_law_pair_here","_law_name","_law_told","_law_place","_law_age","_law_last","_law_presses"]:Α) (["_law_code","_law_pair_here","_law_name","_law_told"]:Α) (qi bf):=qV
theorem N3:HK (["_law_code","_law_pair_here","_law_plain","_law_places","_law_place"]:Α) (["_law_code","_law_pair_here","_law_plain","_law_places"]:Α) (qi cn):=qV
theorem Nq:HK (["_law_box_here","_law_near","_law_far","_law_other"]:Α) (["_law_box_here"]:Α) (qi aX):=qV
theorem mf:HK (["_law_base"]:Α) (["_law_base"]:Α) (qi br):=qV
theorem Nm:HK (["_law_owns","_law_drawn_here","_law_name","_law_age","_law_count","_law_plain","_law_words"]:Α) (["_law_owns","_law_drawn_here"]:Α) (qi fL):=qV
theorem NS:HK (["_law_own","_law_made"]:Α) (["_law_own"]:Α) (qi aZ):=qV
theorem MV:HK (["_law_owns","_law_drawn_here","_law_name","_law_age","_law_count","_law_plain","_law_made","_law_own","_law_told"]:Α) (["_law_owns","_law_drawn_here"]:Α) (qi fU):=qV
theorem Oa:HK (["_law_box_here","_law_names"]:Α) (["_law_box_here"]:Α) (qi fR):=qV
theorem gm:HK (["_law_found","_law_due"]:Α) (["_law_found","_law_due"]:Α) (qi bY):=qV
theorem MN:HK (["_law_box_here","_law_drawn_here","_law_names","_law_many","_law_base","_law_code","_law_pair_here","_law_name","_law_told"]:Α) (["_law_box_here","_law_drawn_here"]:Α) (qi cj):=qV
theorem HY:HK (["_law_box_here","_law_entry","_law_code","_law_pair_here","_law_names","_law_many","_law_base","_law_way","_law_place","_law_door","_law_own","_law_name","_law_age","_law_key_here","_law_plain"]:Α) (["_law_box_here","_law_entry"]:Α) (qi eE):=qV
theorem xv:HK (["_law_found","_law_due"]:Α) (["_law_found","_law_due"]:Α) (qi iw):=qV
theorem HU:HK (["_law_box_here","_law_entry","_law_code","_law_pair_here","_law_drawn_here","_law_one_here","_law_here","_law_other","_law_there","_law_due","_law_name","_law_age","_law_stretches","_law_opened","_law_told","_law_first","_law_last"]:Α) (["_law_box_here","_law_entry"]:Α) (qi bV):=qV
theorem NP:HK (["_law_script","_law_k","_law_box_here","_law_entries","_law_turn","_law_at","_law_other","_law_held"]:Α) (["_law_script"]:Α) (qi aG):=qV
structure MW(K:ι)(mg:HH)(tk:Nat->Tok):Prop where
 g_DIGITS:mg "DIGITS"=↑(.int 16 (tk 0))
 g_KEY_PLACES:mg "KEY_PLACES"=↑(.int 4 (tk 1))
 g_LONGEST_NAME:mg "LONGEST_NAME"=↑(.int 8 (tk 2))
 g_CODE_DIGITS:mg "CODE_DIGITS"=↑(.int 5 (tk 3))
 g_COUNTS:mg "COUNTS"=↑(.int 4096 (tk 4))
 g_AGES:mg "AGES"=↑(.int 8 (tk 5))
 b_isinstance:mg "isinstance"=none
 b_bool:mg "bool"=none
 b_int:mg "int"=none
 b_tuple:mg "tuple"=none
 b_all:mg "all"=none
 b_any:mg "any"=none
 b_len:mg "len"=none
 b_abs:mg "abs"=none
 b_list:mg "list"=none
 b_enumerate:mg "enumerate"=none
 b_range:mg "range"=none
 b_max:mg "max"=none
 b_min:mg "min"=none
 b_str:mg "str"=none
 b_zip:mg "zip"=none
 b_ord:mg "ord"=none
 b_sum:mg "sum"=none
 b_reversed:mg "reversed"=none
 b_sorted:mg "sorted"=none
 b_dict:mg "dict"=none
 b_set:mg "set"=none
section
variable{K:ι}{tk:Nat->Tok}
theorem og(a:At K mg "is_number" cp ["thing"])(T:MW K mg tk):Df P w K mg base "is_number" W4 1 il:=by
 refine a.dq oQ λf _ A _ s H vs Q E d h=>?_
 .let#[x,t,rfl,hk,q]:=h
  let#[ty,c]:=FU (K:=K) hk
  exists _,(qe (qj (zG (qk im T.b_isinstance JA (qc (qv 0) (qc (qH (v:= .ty "int") Z T.b_int Lk Z) qa))) (QH (bz (qk im T.b_isinstance JA (qc (qv 0) (qc (qH (v:= .ty "bool") Z T.b_bool Ll Z) qa))))))))
  rw[Cy hk]at q;exists 0,x,"int",t,Z,ty,c,by simp,0
  cases hi:zz t "int" with
  |false=>
   refine zh ?_
   rw[hi,Ii]at q;exact q
  |true=>
   refine zo ?_
   rw[hi,Iz]at q
   exact#[0,x,"bool",t,Z,ty,c,by simp,0,q]
theorem rh(a:At K mg "is_digit" cX ["thing"])(T:MW K mg tk)(g:Df P w K mg base "is_number" W4 1 il):Df P w K mg base "is_digit" W4 2 tf:=by
 refine a.dq rG λf _ A _ s H vs Q E e h=>?_
 .let#[x,t,rfl,hk,q]:=h
  exists _,(qe (qj (zG (qo g e.mo (qc (qv 0) qa)) (QH (iE ae bF qf (qv 0) (zm (v:= .int 16) Z T.g_DIGITS #[0]))))))
  exists 0,x,t,Z,hk,0
  cases hn:ip x with
  |false=>
   refine zh ?_
   rw[yc hn]at q;exact q
  |true=>
   refine zo ?_
   let#[i,rfl]:=AR hn;exists 12
   have c:Q (.bl (decide (0<=i)&&decide (i<16))) H:=q
   refine qZ (λd=>?_) (λd=>?_)
   .exists 6
    rw[d,Iz]at c;exact c
   .rw[Ly.mpr d,Ii]at c
    exact c
theorem lX(a:At K mg "are_digits" bt ["things"])(T:MW K mg tk)(r:Df P w K mg base "is_digit" W4 2 tf):Df P w K mg base "are_digits" ["things"] 3 nK:=by
 refine a.dq lQ λf _ A _ s H vs Q E o h=>?_
 .let#[p,xs,rfl,e,j,hk,q]:=h
  exists _,(qe (qj (qk (bJ Z) T.b_all Mo (qc (zZ (own:=["thing"]) (fr:=[]) (js:=[]) Z (aq (qv 0)) Z (λ_ _ h=>nomatch h) Z (cf Z nofun nofun nofun) (λ_ _ _ _=>qg (i:=0) (show P4 (["thing"]:Α)from by decide +kernel) Z (Pr Z) (.inr Z)) (λ_ _ _ _=>(qo r o.mo (qc (qv 0) qa)))) qa))))
  refine#[0,p,Z,#[xs,HX.of e],bv (xs:=xs) j (λi ys d=>ys=(xs.take i).map (λx=>V.bl (eM x))/\HJ H d) #[by simp,HJ.refl H] (λi ys d ⟨_,c⟩=>HX.of (c _ _ e)) ?_ ?_]
  .rintro i ys d x g _ ⟨rfl,c⟩
   let#[t,n]:=hk x (Ij g)
   refine#[0,x,t,Z,gD c n,?_,c]
   rw[Ie,g];simp
  .rintro ys d _ ⟨rfl,c⟩ l m
   rw[Ip];exists l,xs.map eM,Z,HQ.of (by rw[Ir];exact qb)
   rw[List.all_map];exact q _ (c.trans (HJ.upd m))
theorem ve(a:At K mg "is_name" fK ["thing"])(T:MW K mg tk):Df P w K mg base "is_name" W4 1 lh:=by
 refine a.dq vo λf _ A _ s H vs Q E D h=>?_
 .let#[x,b,rfl,B,q]:=h
  exists _,(qd (qB (QW.pt (Qd (Qk (zk (qk qL T.b_isinstance JA (qc (qv 0) (qc (qH (v:= .ty "str") Z T.b_str Lz Z) qa))))) (zP (Qk (m9 ae ae qf (qk pP T.b_len J5 (qc (qv 0) qa)) (zm (v:= .int 8) Z T.g_LONGEST_NAME #[0])))))) (qe (qj Zg)) qt)
   (qe (qj (qk (bJ Z) T.b_all Mo (qc (zZ (own:=["letter"]) (fr:=[]) (js:=[]) Z (yq (qv 0)) Z (λ_ _ h=>nomatch h) Z (cf Z nofun nofun nofun) (λ_ _ _ _=>qg (i:=0) (show P4 (["letter"]:Α)from by decide +kernel) Z (Pr Z) (.inr Z)) (λ_ _ _ _=>(iE kj kj qy (qv 0) qy))) qa)))))
  rcases B with⟨z,rfl,o,r,rfl⟩|⟨t,hk,y,rfl⟩
  case inr=>
   exists 0,x,"str",t,Z,mO hk,by simp,0
   rw[y];exact zo (q _ (HJ.refl _))
  have C:z.length=z.cps.toList.length:=Z
  exists 17,"str","str",Z,.str z,by simp,0
  refine zh ?_
  exists 0,z,Z,by rw[JD];omega,_,_,Z,Z,_,Z
  unfold BQ at q
  by_cases h1:1<=z.length
  case neg=>
   refine QF (Jn (by omega)) #[0,zo ?_]
   rw[Jn h1,Ii,Ii]at q;exact q _ (HJ.refl _)
  refine Qp (Jj (by omega)) ?_
  exists 14
  rw[Jj h1,Iz]at q
  by_cases m:z.length<=8
  case neg=>
   refine Qp (by rw[Jn (by omega:¬((z.length:Nat):Int)<=8)];rfl) ?_
   rw[Jn m,Ii]at q;exact q _ (HJ.refl _)
  refine QF (by rw[Jj (by omega:((z.length:Nat):Int)<=8)];rfl) ?_
  rw[Jj m,Iz]at q;refine#[0,z,Z,o,Ao (by show z.cps.toList.length<=_;rw[JD];omega) (λi ys j=>j=H/\ys=((z.cps.toList.take i).map nD).map V.bl) #[9] ?_ ?_]
  .rintro i ys j c u _ ⟨rfl,rfl⟩
   have g:=sY u;let#[n,p]:=uR c;exists 12
   rw[Ie,g,JI,JI]
   by_cases d:97<=c
   .refine Qp (by rw[n,Jj d]) #[_,_,Z,Z,Z,?_]
    rw[p]
    show _=_++[V.bl (decide (97<=c)&&decide (c<=122))]
    rw[Jj d,Iz]
   .refine QF (by rw[n,Jn d]) #[Z,?_]
    show _=_++[V.bl (decide (97<=c)&&decide (c<=122))]
    rw[Jn d,Ii]
  .rintro ys j r ⟨rfl,rfl⟩ l e
   exists l,z.cps.toList.map nD,Z,HQ.of (by rw[show z.cps.size=z.cps.toList.length from Z,Ip];exact qb)
   rw[List.all_map];exact q _ (HJ.upd e)
theorem uU(a:At K mg "is_code" gi ["thing"])(T:MW K mg tk)(g:Df P w K mg base "are_digits" ["things"] 3 nK):Df P w K mg base "is_code" W4 4 kK:=by
 refine a.dq vj λf _ A _ s H vs Q E i h=>?_
 .let#[x,b,rfl,l,q]:=h
  exists _,(qd (qB (Qk (zk (qk qL T.b_isinstance JA (qc (qv 0) (qc (qH (v:= .ty "tuple") Z T.b_tuple JL Z) qa))))) (qe (qj Zg)) qt)
   (qe (qj (zG (ze zt (qk qT T.b_len J5 (qc (qv 0) qa)) (zm (v:= .int 5) Z T.g_CODE_DIGITS #[0]) (qq _)) (QH (qo g i.mo (qc (qv 0) qa)))))))
  rcases l with⟨e,ds,rfl,c,m,hk,rfl⟩|⟨t,hk,j,rfl⟩
  case inr=>
   exists 0,x,"tuple",t,Z,mO hk,by simp,0
   rw[j];exact zo (q _ (HJ.refl _))
  exists 17,"tuple","tuple",Z,.tup (.inl c),by simp,0
  refine zh ?_
  exists 0,e,0,.inr (HX.of c),8
  by_cases d:ds.length=5
  .refine Qp (Jj (by rw[d];rfl)) ?_
   refine#[0,e,0,c,by rw[JD];omega,hk,λH' s'=>?_]
   rw[Jj d,Iz]at q;exact q _ s'
  .rw[Jn d,Ii]at q
   refine QF (Jn (by intro z;injection z with z;omega)) ?_
   exact q _ (HJ.refl _)
theorem pY(a:At K mg "is_press" eu ["thing"])(T:MW K mg tk)(p:Df P w K mg base "is_name" W4 1 lh)(r:Df P w K mg base "is_number" W4 1 il)(j:Df P w K mg base "is_code" W4 4 kK):Df P w K mg base "is_press" W4 5 eB:=by
 refine a.dq NG λf _ A _ s H vs Q E g h=>?_
 .let#[x,b,rfl,o,q]:=h
  exists _,(qd (qB (QW.pt (Qd (Qk (zk (qk qL T.b_isinstance JA (qc (qv 0) (qc (qH (v:= .ty "tuple") Z T.b_tuple JL Z) qa))))) (zP (qw ac (qk qT T.b_len J5 (qc (qv 0) qa)) qf (qq _))))) (qe (qj Zg)) qt)
   (qd (za (qv 0) (zg Z (qh (qg (i:=1) NG.nd Z (Pr Z)) (qh (qg (i:=2) NG.nd Z (Pr Z)) (qh (qg (i:=3) NG.nd Z (Pr Z)) qK)))))
   (qe (qj (zG (qo p g.mo (qc (qv 1) qa)) (zG (qo r g.mo (qc (qv 2) qa)) (QH (qo j g.mo (qc (qv 3) qa)))))))))
  cases o with
  | @kd t hk hs=>
   exists 0,x,"tuple",t,Z,mO hk,by simp,0
   rw[hs];exact zo (q _ (HJ.refl _))
  | @len a xs e h l n=>
   subst e;exists 17,"tuple","tuple",Z,.tup (.inl h),by simp,0
   refine zh ?_
   exists 0,a,0,.inr (HX.of h),8
   refine Qp (by rw[Jn (by intro z;injection z with z;omega)];rfl) ?_
   exact q _ (HJ.refl _)
  | @tup a n y c bn bc ty e h hn hy hc=>
   subst e;exists 17,"tuple","tuple",Z,.tup (.inl h),by simp,0
   refine zh ?_
   exists 0,a,0,.inr (HX.of h),8
   refine aE Z ?_
   exists 0,a,0,.tup h,7
   refine#[0,n,bn,Z,hn,λH1 d=>#[0,?_]]
   cases bn with
   |false=>exact zh (q _ d)
   |true=>
    refine zo ?_
    exists 0,y,ty,Z,gD d hy,0
    cases hnum:ip y with
    |false=>
     rw[hnum]at q;exact zh (q _ d)
    |true=>
     rw[hnum]at q;refine zo ?_
     exact#[0,c,bc,Z,hc.same d,λu m=>q _ (d.trans m)]
theorem tS(a:At K mg "word_of" f7 ["count","last","near","far"])(T:MW K mg tk):Df P w K mg base "word_of" ["count","last","near","far"] 1 sV:=by
 refine a.dq vm λf _ A _ s H vs Q E d h=>?_
 .let#[c,l,n,f,rfl,q]:=h
  unfold uZ at q;exists _,(qd (qB (qw ae (qv 0) (qv 1) (qq _)) (qe (qj qy)) qt)
   (qd (qB (qw ae (qv 0) (qr qM (qv 1) (qv 2)) (qq _)) (qe (qj qy)) qt)
   (qd (qB (qw ae (qv 0) (qr qM (qv 1) (qv 3)) (qq _)) (qe (qj qy)) qt)
   (qe (qj qy)))))
  exists 35
  refine qZ (λz=>?_) (λz=>?_)
  .rw[Jc (Jz z)]at q;exact q
  .rw[Jb (λy=>z (Jj y))]at q
   exists 21
   refine qZ (λz=>?_) (λz=>?_)
   .rw[Jc (Jz z)]at q;exact q
   .rw[Jb (λy=>z (Jj y))]at q
    exists 21
    refine qZ (λz=>?_) (λz=>?_)
    .rw[Jc (Jz z)]at q;exact q
    .rw[Jb (λy=>z (Jj y))]at q;exact q
theorem vg(a:At K mg "step_by" gp ["button","age","count","near","far"])(T:MW K mg tk)(N:Df P w K mg base "word_of" ["count","last","near","far"] 1 sV):Df P w K mg base "step_by" W0 2 ju:=by
 refine a.dq Ni λf _ A _ s H vs Q E L h=>?_
 .let#[a,e,age,c,j,m,rfl,#[v,F,J],q]:=h
  exists _,(qd (za (qv 0) (zg Z (qh (qg (i:=5) Ni.nd Z (Pr Z)) (qh (qg (i:=6) Ni.nd Z (Pr Z)) (qh (qg (i:=7) Ni.nd Z (Pr Z)) qK)))))
   (qd (qA (i:=8) Ni.nd Z (Pr Z) (qo N L.mo (qc (qv 2) (qc (qv 6) (qc (qv 3) (qc (qv 4) qa))))))
   (qd (qB (QW.pt (bm (qw zt (qv 8) qy (qq _)) (aM (qw (v9 L) (qv 7) (qu (qc (qv 1) (qc (qr Qy (qv 2) qf) qa))) (qq _))))) (qe (qA (i:=8) Ni.nd Z (Pr Z) qy)) qt)
   (qd (qB (qw zt (qv 8) qy (qq _)) (qe (qj (qu (qc (qv 8) (qc (qu (qc (qv 1) (qc (qv 2) (qc qP qa)))) qa))))) qt)
   (qd (qB (qw zt (qv 8) qy (qq _)) (qe (qj (qu (qc (qv 8) (qc (qu (qc (qv 5) (qc (qv 6) (qc (qu (qc (qv 1) (qc (qv 2) qa))) qa)))) qa))))) qt)
   (qe (qj (qu (qc (qv 8) (qc (qv 0) qa))))))))))
  exists 0,a,0,.tup F,7
  exists 10,c,e.last,j,m,Z
  unfold zD at q;unfold uZ
  by_cases h1:c<=e.last
  .rw[Jc h1]
   rw[Jc h1]at q;exists 3
   refine qZ (λy=>absurd (Jz y) nofun) (λ_=>?_)
   exists 3
   refine qZ (λy=>absurd (Jz y) nofun) (λ_=>?_)
   exists 3
   refine qZ (λy=>absurd (Jz y) nofun) (λ_=>?_)
   refine#[2,Ho,λg d=>?_]
   exact q g a _ (HJ.upd d) qb (Na.same (HJ.upd d) #[v,F,J])
  .rw[Jb h1]
   rw[Jb h1]at q
   by_cases r:c<=e.last+j
   .rw[Jc r]
    rw[Jc r]at q;exists 3
    refine qZ (λy=>absurd (Jz y) nofun) (λ_=>?_)
    exists 3
    refine qZ (λ_=>?_) (λy=>absurd (Jj Z) y)
    refine#[4,Ht,λt p=>#[Ho,λg d=>?_]]
    have n:=HJ.upd (o:= .tup [.int age,.int c,.non]) p
    have l:=HJ.upd (o:= .tup [.str "near",-t]) d
    exact q g t _ (n.trans l) qb #[.non,l _ _ qb,Z]
   .rw[Jb r]
    rw[Jb r]at q
    by_cases u:c<=e.last+m
    .rw[Jc u]
     rw[Jc u]at q;exists 3
     refine qZ (λ_=>?_) (λy=>absurd (Jj Z) y)
     refine#[59,Ho,λM D=>?_]
     have G:=HJ.upd (o:= .tup [.int age,.int (c-1)]) D
     have I:=J.mv (S:=[]) G.mv (λc h=>nomatch h)
     exists e.wt,M,age,c-1,I,Z,.inl qb,0
     by_cases x:e.wt=↑(age,c-1)
     .rw[Jc x]at q
      refine Qp (Jj x) ?_
      exists 3
      refine qZ (λ_=>?_) (λy=>absurd (Jj Z) y)
      refine#[4,Ht,λt p=>#[Ho,λg d=>?_]]
      have n:=HJ.upd (o:= .tup [.int age,.int c,.non]) p
      have l:=HJ.upd (o:= .tup [.str "near",-t]) d
      exact q g t _ ((G.trans n).trans l) qb #[.non,l _ _ qb,Z]
     .rw[Jb x]at q
      refine QF (Jn x) ?_
      exists 3
      refine qZ (λy=>absurd (Jz y) nofun) (λ_=>?_)
      exists 3
      refine qZ (λ_=>?_) (λy=>absurd (Jj Z) y)
      refine#[60,Ho,λC B=>#[Ht,λt p=>#[Ho,λg d=>?_]]]
      have n:=HJ.upd (o:= .tup [.int age,.int c]) B
      have l:=HJ.upd (o:= .tup [.int e.age,.int e.last,-C]) p
      have z:=HJ.upd (o:= .tup [.str "far",-t]) d
      exact q g t _ (((G.trans n).trans l).trans z) qb #[-C,z _ _ qb,C,Z,z _ _ (l _ _ qb)]
    .rw[Jb u]
     rw[Jb u]at q;exists 3
     refine qZ (λy=>absurd (Jz y) nofun) (λ_=>?_)
     exists 3
     refine qZ (λy=>absurd (Jz y) nofun) (λ_=>?_)
     exists 3
     refine qZ (λy=>absurd (Jz y) nofun) (λ_=>?_)
     refine#[2,Ho,λg d=>?_]
     exact q g a _ (HJ.upd d) qb (Na.same (HJ.upd d) #[v,F,J])
theorem jz(a:Ob K C "__init__" "Door.__init__" Zt ["self","table","keys","near","far","most"])(T:MW K mg tk)(U:ND K C):Mf P w K mg base C "__init__" X1 1 (Dq K C):=by
 refine a.mq cP λf _ A _ s H vs Q E hr h=>?_
 .let#[p,a,b,dx,I,a1,N,t,kss,rfl,hp,ha,hb,hl,q]:=h
  exists _,(qd (zX (qv 0) (qI bT T.b_tuple JL (qc (qv 1) qa)))
   (qd (zX (qv 0) (zZ (own:=["key"]) (fr:=[]) (js:=[]) Z (zv (qv 2)) Z (λ_ _ h=>nomatch h) Z (cf Z nofun nofun nofun) (λ_ _ _ _=>qg (i:=0) (show P4 (["key"]:Α)from by decide +kernel) Z (Pr Z) (.inr Z)) (λ_ _ _ _=>(qI b9 T.b_tuple JL (qc (qv 0) qa)))))
   (qd (zX (qv 0) (qv 3))
   (qd (zX (qv 0) (qv 4))
   (qd (zX (qv 0) (qv 5))
   (qd (zX (qv 0) qf)
   (qd (zX (qv 0) iC)
   (qe (zX (qv 0) (q9 qa))))))))))
  refine#[0,a,0,ha,λta H2 O ht=>#[0,p,0,zy U.cl (O _ _ hp) U.n_table 0,?_]]
  have e2:=O _ _ hp;have a2:=(hb.same O).upd (o:= .ins C dx [("table",-ta)]) e2
  let#[as,eb,Y,a5]:=a2;have a6:=gM (o:= .ins C dx [("table",-ta)]) e2 ht
  refine#[0,b,Z,#[_,HQ.of eb],ZC (K:=K) (xs:=as.map V.ref) (by rw[Je,Y,JD];omega) (λi ys n=>HJ (HM H2 p (.ins C dx [("table",-ta)])) n/\∃bs:Η,ys=bs.map V.ref/\bs.length=i/\∀(j:Nat) (x:Δ) (z:Β),bs[j]? =↑x->kss[j]? =↑z->HX [] n x (z.map V.int)) #[HJ.refl _,[],9,λj x z e=>by(cases e)] (λi ys n ⟨v,_⟩=>v.seq (HQ.of eb)) ?_ ?_]
  .rintro i ys n x L W ⟨v,bs,rfl,F,D⟩
   rw[Jo]at L;cases ea:as[i]? with
   |none=>rw[ea]at L;cases L
   |some x0=>
    rw[ea]at L
    obtain rfl:V.ref x0=x:=JE L
    have hi:i<kss.length:=by rw[<- Y];exact(Jw.mp ea).1
    have a3:=a5 i x0 kss[i] ea (Jh hi);refine#[0,x0,0,.inr (HJ.sqt v a3).rd,λl H4 s4 a4=>#[v.trans s4,bs++[l],by simp,by simp [F],λj y z u m=>?_]]
    rw[Mn]at u;split at u
    .exact HJ.sqt s4 (D j y z u m)
    .have X:j-bs.length=0:=by
      cases X:j-bs.length with
      |zero=>rfl
      |succ k=>rw[X]at u;cases u
     rw[X]at u;cases u
     have:j=i:=by omega
     subst this;rw[Jh hi]at m;cases m;exact .inl a4
  .rintro ys n W ⟨v,bs,rfl,F,D⟩ hk B
   have R:=HJ.upd (o:= .lst (bs.map V.ref)) B
   have e3:=R _ _ (v _ _ qb);exists 0,p,0,zy U.cl e3 U.n_house_keys 1
   exists 2,p,0,zy U.cl qb U.n_near 2
   exists 2,p,0,zy U.cl qb U.n_far 3
   exists 2,p,0,zy U.cl qb U.n_most 4
   exists 0,p,0,zy U.cl qb U.n_least_age 5
   refineλbd d=>#[0,p,0,zy U.cl (by rw[qp (qm qb d)];exact qb) U.n_buttons 6,?_]
   have r:=qm qb d;refine#[Hh,λlg g=>#[0,p,0,zy U.cl (by rw[qp (qm qb g)];exact qb) U.n_log 7,?_]]
   have J:=qm qb g;have m3:Mv [p] H n:=((O.mv (S:=[p])).trans Mv.upd1).trans v.mv
   have c:hk≠p:=(qm (v _ _ qb) B).symm
   have m4:Mv [p] H (HM n hk (.lst (bs.map V.ref))):=m3.trans R.mv
   have M:∀o1 o2 o3 o4 o5,Mv [p] (HM n hk (.lst (bs.map V.ref))) (HM (HM (HM (HM (HM (HM n hk (.lst (bs.map V.ref))) p o1) p o2) p o3) p o4) p o5):=λo1 o2 o3 o4 o5=>(((Mv.upd1.trans Mv.upd1).trans Mv.upd1).trans Mv.upd1).trans Mv.upd1
   have M6:Mv [p] (HM n hk (.lst (bs.map V.ref))) _:=(((M _ _ _ _ _).trans (HJ.upd d).mv).trans Mv.upd1).trans (HJ.upd (o:= .lst []) g).mv
   have M7:=M6.trans (Mv.upd1 (o:= .ins C dx (dF #[t,kss,I,a1,N,(0),[]] ta hk bd lg)))
   have nt:NT [p] (HM n hk (.lst (bs.map V.ref))):=NT.one e3 trivial
   have G:bd≠lg:=qm (by rw[qp r.symm];exact qb) g
   have KR:=MP.mv M7 nt (qQ c) (show MP [] _ hk kss from#[bs,qb,by rw[F,Je,Y],λj x z u m=>HJ.sqt R (D j x z u m)])
   refine q ta hk bd lg _ (m3.nfree (qQ c) B) ((m4.trans (M _ _ _ _ _)).nfree (qQ r.symm) d) ((m4.trans ((((M _ _ _ _ _).trans (HJ.upd d).mv).trans Mv.upd1))).nfree (qQ J.symm) g) (m4.trans M7) #[#[dx,qb],?_,MP.up KR,?_,?_,?_] KR
   .exact M7.sqt nt (HJ.sqt R (HJ.sqt v a6))
   .exact#[([],λ_=>0),by rw[qp r.symm,qp G,qp r.symm];exact qb,λe he=>by(cases he),.refl _,LK]
   .exact#[[],by rw[qp J.symm];exact qb,Jf _]
   .refine(qm (o:= .lst (bs.map V.ref)) ?_ g).symm
    rw[qp c];rw[qp (qm (o:= .lst (bs.map V.ref)) (by rw[qp c,qp c,qp c,qp c,qp c];exact qb) d)]
    rw[qp c,qp c,qp c,qp c,qp c];exact qb
theorem i3(a:Ob K C "is_full" "Door.is_full" Z0 ["self"])(T:MW K mg tk)(U:ND K C):Mf P w K mg base C "is_full" W8 1 (tG K C):=by
 refine a.mq jm λf _ A _ s H vs Q E g h=>?_
 .let#[p,ta,hk,bd,lg,n,D,rfl,b,q]:=h
  let#[d,e,_,c,_]:=b.kb;exists _,(qe (qj (ze iS (qk vE T.b_len J5 (qc (qU (qv 0)) qa)) (qU (qv 0)) (qq _))))
  exists 0,p,0,b.h_buttons U,bd,0,e,0,p,0,b.h_most U,6
  rw[show(bI d.1 d.2).length=D.kn.length from(Je _).trans c.length_eq]
  exact q
theorem gS(a:Ob K C "button_of" "Door.button_of" Zx ["self","name"])(T:MW K mg tk)(U:ND K C):Mf P w K mg base C "button_of" X6 1 (gw K C):=by
 refine a.mq gQ λf _ A _ s H vs Q E i h=>?_
 .let#[p,ta,hk,bd,lg,n,D,nm,rfl,b,j,d]:=h
  exists _,(qe (qj (mJ i (qU (qv 0)) (qv 1))))
  let#[o,m,_]:=id b.kb;exists 0,p,0,b.h_buttons U,bd,Z,.inl #[_,.inl m],0
  rcases b.kb.get nm with⟨c,g⟩|⟨e,x,c,g,l⟩
  .exact#[_,g,j c]
  .exact#[_,g,d e x c l]
theorem gT(a:Ob K C "takes_age" "Door.takes_age" Zy ["self","age"])(T:MW K mg tk)(U:ND K C):Mf P w K mg base C "takes_age" V2 1 (iJ K C):=by
 refine a.mq gR λf _ A _ s H vs Q E e h=>?_
 .let#[p,ta,hk,bd,lg,n,D,age,rfl,b,q]:=h
  let#[g,d,c,_]:=b.ks;exists _,(qe (qj (iE ae bF (qU (qv 0)) (qv 1) (qk qT T.b_len J5 (qc (qU (qv 0)) qa)))))
  unfold Q2 at q;exists 0,p,0,b.h_least_age U,12
  refine qZ (λz=>?_) (λz=>?_)
  .rw[z,Iz]at q
   exists 0,p,0,b.h_house_keys U,hk,0,.inl (HQ.of d),6
   rw[Je,c];exact q
  .rw[Ly.mpr z,Ii]at q
   exact q
theorem fN(a:Ob K C "takes_from" "Door.takes_from" Zj ["self","button","age"])(T:MW K mg tk)(U:ND K C)(c:Mf P w K mg base C "takes_age" V2 1 (iJ K C)):Mf P w K mg base C "takes_from" W1 2 (cQ K C):=by
 refine a.mq gr λf _ A _ s H vs Q E d h=>?_
 .let#[p,ta,hk,bd,lg,x,n,D,e,age,rfl,b,#[v,g,i],q]:=h
  exists _,(qe (qj (zG (zb c U.cl d.mo (qv 0) (qc (qv 2) qa)) (QH (ze iS (qv 2) (qx qN (qv 1) qf) (qq _))))))
  unfold qO at q;exists 0,p,Z,b.no,0,p,ta,hk,bd,lg,n,D,age,Z,b,0
  refine qZ (λz=>?_) (λz=>?_)
  .rw[z,Iz]at q
   exact#[2,x,1,HX.of g,25,q]
  .rw[Ly.mpr z,Ii]at q
   exact q
theorem gc(a:Ob K C "plain_step" "Door.plain_step" QB ["self","button","age","count"])(T:MW K mg tk)(U:ND K C)(l:Mf P w K mg base C "takes_from" W1 2 (cQ K C))(j:Df P w K mg base "step_by" W0 2 ju):Mf P w K mg base C "plain_step" X0 3 (rT K C):=by
 refine a.mq ao λf _ A _ s H vs Q E d h=>?_
 .let#[p,ta,hk,bd,lg,x,n,D,e,age,c,rfl,b,g,i,q]:=h
  exists _,(qd (qB (Qk (zk (zb l U.cl d.mo (qv 0) (qc (qv 1) (qc (qv 2) qa))))) (qe (qj (qu (qc qy (qc (qv 1) qa))))) qt)
   (qe (qj (qo j d.mo (qc (qv 1) (qc (qv 2) (qc (qv 3) (qc (qU (qv 0)) (qc (qU (qv 0)) qa)))))))))
  exists 0,p,Z,b.no,2,p,ta,hk,bd,lg,x,n,D,e,age,Z,b,g,0
  rw[i];refine zh ?_
  exact#[10,p,0,b.h_near U,0,p,0,b.h_far U,x,e,age,c,D.near,D.far,Z,g,q]
theorem gP(a:Ob K C "answer_to" "Door.answer_to" Zw ["self","press"])(T:MW K mg tk)(U:ND K C)(dB:Mf P w K mg base C "button_of" X6 1 (gw K C))(dC:Mf P w K mg base C "takes_from" W1 2 (cQ K C))(dD:Mf P w K mg base C "plain_step" X0 3 (rT K C))
  (dR:Df P w K mg base "read_press" V0 3 (oK K)):Mf P w K mg base C "answer_to" ["self","press"] 4 (kZ K C):=by
 refine a.mq HW λf _ A _ s H vs Q E t h=>?_
 .let#[p,ta,hk,bd,lg,pr,n,D,nm,age,ds,rfl,b,ok,#[pc,hp,J],hn,l5,W,q]:=h
  exists _,(qd (za (qv 1) (zg Z (qh (qg (i:=2) HW.nd Z (Pr Z)) (qh (qg (i:=3) HW.nd Z (Pr Z)) (qh (qg (i:=4) HW.nd Z (Pr Z)) qK)))))
   (qd (qA (i:=5) HW.nd Z (Pr Z) (zb dB U.cl t.mo (qv 0) (qc (qv 2) qa)))
   (qd (qB (qw zW (qv 5) qP (qq _)) (qe (qj (qu (qc qy (qc qy qa))))) qt)
   (qd (qB (Qk (zk (zb dC U.cl t.mo (qv 0) (qc (qv 5) (qc (qv 3) qa))))) (qe (qj (qu (qc qy (qc qy qa))))) qt)
   (qd (qA (i:=6) HW.nd Z (Pr Z) (qo dR t.mo (qc (qU (qv 0)) (qc (qx qF (qU (qv 0)) (qv 3)) (qc (qv 1) qa)))))
   (qd (qB (qw zW (qv 6) qP (qq _)) (qe (qj (qu (qc qy (qc qy qa))))) qt)
   (qd (za (qv 6) (zg Z (qh (qg (i:=7) HW.nd Z (Pr Z)) (qh (qg (i:=8) HW.nd Z (Pr Z)) qK))))
   (qd (za (zb dD U.cl t.mo (qv 0) (qc (qv 5) (qc (qv 3) (qc (qv 7) qa)))) (zg Z (qh (qg (i:=9) HW.nd Z (Pr Z)) (qh (qg (i:=10) HW.nd Z (Pr Z)) qK))))
   (qd (QM t (qU (qv 0)) (qv 2) (qv 10))
   (qd (qB (qw zt (qv 9) qy (qq _)) (qe (qj (qu (qc qy (qc (qv 2) (qc (qv 8) qa)))))) qt)
   (qe (qj (qu (qc qy (qc (qv 9) qa)))))))))))))))
  exists 0,pr,0,.tup hp,7
  refine#[0,p,Z,b.no,0,p,ta,hk,bd,lg,n,D,nm,Z,b,λr=>?_,λe x r hx=>?_]
  .have m:zu D nm age (ZN D.t (QY D age) nm ds)=([.str "held",.str "unknown"],D.kn):=by unfold zu;rw[r]
   rw[m]at q;exists 3
   refine qZ (λ_=>?_) (λy=>absurd (Jj Z) y)
   refine#[Ho,λo g=>?_]
   exact q o _ (HJ.upd g).mv qb (b.same (HJ.upd g))
  .exists 3
   refine qZ (λy=>nomatch (Jz y)) (λ_=>?_)
   exists 0,p,Z,b.no,2,p,ta,hk,bd,lg,x,n,D,e,age,Z,b,hx,0
   cases ht:qO D e age with
   |false=>
    have m:zu D nm age (ZN D.t (QY D age) nm ds)=([.str "held",.str "age"],D.kn):=by unfold zu;rw[r];simp only;rw[ht];rfl
    rw[m]at q;refine zo ?_
    refine#[Ho,λo g=>?_]
    exact q o _ (HJ.upd g).mv qb (b.same (HJ.upd g))
   |true=>
    refine zh ?_
    let#[a0,a1]:=ZG ht ok.l0;let#[xs,ak,eh,R,S]:=b.ks.at a0 a1;refine#[0,p,0,b.h_table U,0,p,0,b.h_house_keys U,0,hk,1,HQ.of eh,R,0,ta,ak,pr,pc,nm,age,D.t,QY D age,ds,Z,.inr b.tb,.inr S,.tup hp,.tup J,hn,ok.tp,l5,W,λy H1 F u=>?_]
    have v:=b.same F;have X:=hx.same F;have j:fS H1 y (ZN D.t (QY D age) nm ds):=u
    cases er:ZN D.t (QY D age) nm ds with
    |none=>
     rw[er]at j q;have O:y= .non:=j
     subst O;have m:zu D nm age none=([.str "held",.str "false"],D.kn):=by unfold zu;rw[r];simp only;rw[ht];rfl
     rw[m]at q;exists 3
     refine qZ (λ_=>?_) (λy=>absurd (Jj Z) y)
     refine#[Ho,λo g=>?_]
     exact q o _ (F.trans (HJ.upd g)).mv qb (v.same (HJ.upd g))
    |some cd=>
     let#[c,d]:=cd;rw[er]at j q;let#[pp,O,G]:=j;subst O;exists 3
     refine qZ (λy=>nomatch (Jz y)) (λ_=>?_)
     exists 0,pp,0,.tup G,5
     refine#[0,p,Z,v.no,4,p,ta,hk,bd,lg,x,n,D,e,age,c,Z,v,X,ht,λo a' H2 Y g L=>#[o,0,.tup g,5,?_]]
     have I:=v.same Y;let#[H3,dp,m3,M]:=I.kb.put nm (by have:=ok.nl;omega) L
     exists 2,p,0,I.h_buttons U,0,bd,H3,Z,dp
     have b3:=I.putK m3 M;have mm:Mv [bd] H H3:=(F.trans Y).mv.trans m3
     exists 3
     by_cases B:(zD D.near D.far e age c).1="near"
     .have m:zu D nm age ↑(c,d)=([.str "open",.str nm,.int d],zr D.kn nm (zD D.near D.far e age c).2):=by unfold zu;rw[r];simp only;rw[Jc ht,Jc B]
      rw[m]at q;refine qZ (λ_=>?_) (λy=>absurd (Jj (by rw[B])) y)
      refine#[2,Ht,λN l=>?_]
      exact q N _ (mm.trans (HJ.upd l).mv) qb (b3.same (HJ.upd l))
     .have m:zu D nm age ↑(c,d)=([.str "held",.str (zD D.near D.far e age c).1],zr D.kn nm (zD D.near D.far e age c).2):=by unfold zu;rw[r];simp only;rw[Jc ht,Jb B]
      rw[m]at q;refine qZ (λy=>absurd (Jz y) (by intro z;injection z with z;exact B z)) (λ_=>?_)
      refine#[0,Ho,λN l=>?_]
      exact q N _ (mm.trans (HJ.upd l).mv) qb (b3.same (HJ.upd l))
theorem gk(a:Ob K C "read_right" "Door.read_right" Zk ["self","thing"])(T:MW K mg tk)(U:ND K C)(O:Df P w K mg base "is_press" W4 5 eB)(R:Mf P w K mg base C "takes_age" V2 1 (iJ K C))(G:Df P w K mg base "read_press" V0 3 (oK K)):Mf P w K mg base C "read_right" V4 6 (lC K C):=by
 refine a.mq fJ λf _ A _ s H vs Q E m h=>?_
 .let#[p,ta,hk,bd,lg,n,D,x,o,rfl,b,ok,tg,q]:=h
  exists _,(qd (qB (QW.pt (Qd (Qk (zk (qo O m.mo (qc (qv 1) qa)))) (zP (Qk (zk (zb R U.cl m.mo (qv 0) (qc (qx qN (qv 1) qf) qa))))))) (qe (qj qP)) qt)
   (qe (qj (qo G m.mo (qc (qU (qv 0)) (qc (qx qF (qU (qv 0)) (qx qN (qv 1) qf)) (qc (qv 1) qa)))))))
  refine#[0,x,0,tg.b,λH1 j=>#[0,?_]]
  cases o with
  |none=>exact zo (zo (q .non _ j Z))
  |some PP=>
  let#[r,rfl,I,v,B,i]:=tg;have q:∀y H',HJ H H'->fS H' y (fP D PP)->Q y H':=q
  let#[nm,age,ds]:=PP;simp only at v B i
  refine zh ?_
  have d:=b.same j;let#[M,c,e]:=Nb.same j I;exists 0,p,Z,d.no,0,r,1,HX.of c,Z,p,ta,hk,bd,lg,n,D,age,Z,d,0
  unfold fP at q;cases ht:Q2 D age with
  |false=>
   rw[Jb (by rw[ht];intro z;cases z)]at q
   exact zo (q _ _ j Z)
  |true=>
  rw[Jc ht]at q;refine zh ?_
  have u:qO D #[age,(0),none] age=true:=by unfold qO;rw[ht,Jj (GZ _)];rfl
  let#[a0,S]:=ZG u ok.l0;let#[xs,L,J,t,l]:=d.ks.at a0 S
  exact#[0,p,0,d.h_table U,0,p,0,d.h_house_keys U,0,r,1,HX.of c,Z,hk,1,HQ.of J,t,0,ta,L,r,M,nm,age,D.t,QY D age,ds,Z,.inr d.tb,.inr l,.tup c,.tup e,v,ok.tp,B,i,λy N F g=>q y N (j.trans F) g]
theorem gO(a:Ob K C "known_now" "Door.known_now" ZA ["self"])(T:MW K mg tk)(U:ND K C):Mf P w K mg base C "known_now" W8 1 (pE K C):=by
 refine a.mq gN λf _ A _ s H vs Q E hr h=>?_
 .let#[p,ta,hk,bd,lg,n,D,rfl,b,ok,q]:=h
  let#[fn,hd,a6,J,_]:=id b.kb;exists _,(qe (qj (qI zp T.b_tuple JL (qc (zZ (own:=["name"]) (fr:=["self"]) (js:=[0]) Z (zv (qk (nr Z) T.b_sorted Rp (qc (qU (qv 0)) qa))) Z (fD Z) Z (fO Z nofun nofun nofun Z Z Z) (λ_ _ _ _=>qg (i:=0) (show P4 (["name","self"]:Α)from by decide +kernel) Z (Pr Z) (.inr Z)) (λ_ _ _ _=>(qr ZX (qu (qc (qv 0) qa)) (zB hr (DF (K:=K) Z (qv 1)) (qv 0))))) qa))))
  refine#[0,p,0,b.h_buttons U,bd,_,fn.1.map (·.1),Z,hd,Dz _ _,by rw[Je,J.length_eq];have:=ok.nl;omega,λl r hl a5 so=>#[l,Z,#[_,HQ.of qb],?_]]
  have pm:=a5.trans (J.map (·.1))
  have u1:=HJ.upd (o:= .lst (r.map V.str)) hl
  have ls:r.length<=60:=by rw[pm.length_eq,Je];exact ok.nl
  refine ZC (K:=K) (xs:=r.map V.str) (by rw[Je,JD];omega) (λi ys I=>HJ (HM H l (.lst (r.map V.str))) I/\∃m:Η,ys=m.map V.ref/\m.length=i/\∀(j:Nat) (x:Δ) (nm:Str) (e:Kb),m[j]? =↑x->r[j]? =↑nm->D.kn.lookup nm=↑e->∃v,I x=↑(.tup [.str nm,.int e.age,.int e.last,v])/\Wt I v e.wt) #[HJ.refl _,[],9,λj x nm e h=>by(cases h)] (λi ys I ⟨G,_⟩=>G.seq (HQ.of qb)) ?_ ?_
  .rintro i ys I x L a3 ⟨G,m,rfl,u,has⟩
   rw[Jo]at L;cases es:r[i]? with
   |none=>rw[es]at L;cases L
   |some nm=>
    rw[es]at L
    obtain rfl:V.str nm=x:=JE L
    have W:nm∈D.kn.map (·.1):=pm.mem_iff.mp (Ij es)
    let#[e,O]:=az W;have b3:=b.same (u1.trans G);let#[e',x0,d,g,v0,X,R]:=(b3.kb.get nm).resolve_left (λz=>by rw[O]at z;cases z.1)
    rw[O]at d;cases d;refine#[0,Hl,λt ht=>?_]
    have F:=HJ.upd (o:= .tup [.str nm]) ht
    have b4:=b3.same F;let#[e',x0,d,g,v0,X,R]:=(b4.kb.get nm).resolve_left (λz=>by rw[O]at z;cases z.1)
    rw[O]at d;cases d;refine#[0,p,0,b4.h_buttons U,0,bd,0,g,t,x0,6,qb,X,Hu,λq1 H5 Y B=>?_]
    refine#[(G.trans F).trans Y,m++[q1],by simp,by simp [u],λj y m2 e2 h1 N M=>?_]
    rw[Mn]at h1;split at h1
    .let#[v,a1,a2]:=has j y m2 e2 h1 N M
     exact#[v,Y _ _ (F _ _ a1),a2.mv (S:=[]) (F.trans Y).mv (λc h=>nomatch h)]
    .have hj:j-m.length=0:=by
      cases hj:j-m.length with
      |zero=>rfl
      |succ k=>rw[hj]at h1;cases h1
     rw[hj]at h1;cases h1
     obtain rfl:j=i:=by omega
     rw[es]at N;cases N;rw[O]at M;cases M
     exact#[v0,B,R.mv (S:=[]) Y.mv (λc h=>nomatch h)]
  .rintro ys I a3 ⟨G,m,rfl,u,has⟩ l2 a4
   have F:=HJ.upd (o:= .lst (m.map V.ref)) a4
   refine#[l2,0,.inl #[HQ.of qb,λq1 B=>?_]]
   have u5:=HJ.upd (o:= .tup (m.map V.ref)) B
   have S:=F.trans u5;refine q q1 r _ ((u1.trans G).trans S) pm so #[m,qb,by rw[u,Je],λj x nm e h1 N M=>?_]
   let#[v,a1,a2]:=has j x nm e h1 N M
   exact#[v,S _ _ a1,a2.mv (S:=[]) S.mv (λc h=>nomatch h)]
theorem mL(a:Ob K C "hear" "Door.hear" bU ["self","thing"])(T:MW K mg tk)(U:ND K C)(dZ:Df P w K mg base "is_press" W4 5 eB)(xC:Mf P w K mg base C "answer_to" ["self","press"] 4 (kZ K C)):Mf P w K mg base C "hear" V4 6 (tF K C):=by
 refine a.mq NZ λf _ A _ s H vs Q E N h=>?_
 .let#[#[p,ta,hk,bd,lg],D,L,x,o,rfl,#[b,#[rs,F,O],W],n1,ok,tg,Y,S]:=h
  simp only at b F W S
  exists _,(qd (qB (Qk (zk (qo dZ N.mo (qc (qv 1) qa)))) (qe (qj (qu (qc qy (qc qy qa))))) qt)
   (qd (qA (i:=2) NZ.nd Z (Pr Z) (zb xC U.cl N.mo (qv 0) (qc (qv 1) qa)))
   (qd (zc (Q0 Il IJ IK zV (qU (qv 0)) (qc (qu (qc qy (qc (qv 1) (qc (qv 2) qa)))) qa)))
   (qe (qj (qv 2))))))
  refine#[0,x,0,tg.b,λH1 j=>#[0,?_]]
  cases o with
  |none=>exact zo #[Ho,λq hq=>Y Z q _ (j.trans (HJ.upd hq)) qb]
  |some PP=>
  let#[v,rfl,R,g]:=tg;have q:=S PP Z;refine zh ?_
  have y:=b.same j;let#[f0,I,_]:=id y.kb;have l:NT [bd] H1:=NT.one I trivial
  refine#[0,p,Z,y.no,0,p,ta,hk,bd,lg,v,L.length,D,PP.nm,PP.age,PP.ds,Z,y,ok,Nb.same j R,g.nm,g.l,g.dg,λJ H2 n u M=>?_]
  have e:=n _ _ (qQ (zO (j _ _ F) I (by intro z;cases z))) (j _ _ F)
  have B:=(O.same j).mv n l;refine#[0,p,0,M.h_log U,.inl #[43,HQ.of e],2,Ht,λr G=>?_]
  have d:=HJ.upd (o:= .tup [.str "hear",-v,-J]) G
  have X:=M.same d;have m:=Nb.same d (Nb.mv n l (Nb.same j R));have t:NT [lg] _:=NT.one (d _ _ e) trivial
  refine#[lg,6,d _ _ e,by rw[Je,O.1,JD];omega,#[0,?_]]
  exact q v J _ Z (((j.mv.trans (n.mono (λc h z=>h (by rw[Ji.mp z];exact Jr ..)))).trans d.mv).trans (Mv.upd1.mono (λc h z=>h (by rw[Ji.mp z];exact Jv _ (Jr ..))))) (Nb.mv Mv.upd1 t m) (Mv.upd1.tup t (d _ _ u)) (M8.push (a:=#[p,ta,hk,bd,lg]) X (d _ _ e) (B.same d) ((MP.mv n l (qQ (tX I y)) (MP.same j W)).same d) #[v,J,.inl qb,m,g,d _ _ u,vw D PP,Ah D PP])
theorem ft(a:Ob K C "close_below" "Door.close_below" Q3 ["self","age"])(T:MW K mg tk)(U:ND K C):Mf P w K mg base C "close_below" V2 1 (oH K C):=by
 refine a.mq fo λf _ A _ s H vs Q E B h=>?_
 .let#[#[p,ta,hk,bd,lg],D,L,age,rfl,#[b,#[rs,g,u],n],n1,q]:=h
  simp only at b g n q
  exists _,(qd (zX (qv 0) (qk (bR Z) T.b_max Mp (qc (qU (qv 0)) (qc (qv 1) qa))))
   (qe (zc (Q0 Il IJ IK zV (qU (qv 0)) (qc (qu (qc qy (qc (qv 1) qa))) qa)))))
  have q:=q _ _ Z;let#[z,l]:∃z:Int,z=if age>D.least then age else D.least:=#[0]
  rw[<- l]at q;let#[y,ep]:=id b.ob;let#[dx,v,m,t]:=b.putLeast U z;have d:=m _ _ (qQ (zO g ep (by intro z;cases z))) g
  have j:=u.mv m (NT.one ep trivial);exists 0,p,0,b.h_least_age U,48,p,0,by rw[<- l];exact v
  refine#[0,p,0,t.h_log U,.inl #[43,HQ.of d],0,Ho,λr i=>?_]
  have e:=HJ.upd (o:= .tup [.str "close",.int age]) i
  have x:=t.same e;exists lg,6,e _ _ d,by rw[Je,u.1,JD];omega
  exact q _ (((m.mono (λc h z=>h (by rw[Ji.mp z];exact Jr ..))).trans e.mv).trans (Mv.upd1.mono (λc h z=>h (by rw[Ji.mp z];exact Jv _ (Jr ..))))) (M8.push (a:=#[p,ta,hk,bd,lg]) x (e _ _ d) (j.same e) ((MP.mv m (NT.one ep trivial) (qQ (FJ ep b)) n).same e) (show Oj _ r (.close age)from .inl qb))
theorem lV(a:Ob K C "learn" "Door.learn" bq ["self","one","other"])(T:MW K mg tk)(U:ND K C)(dQ:Mf P w K mg base C "read_right" V4 6 (lC K C))(xL:Mf P w K mg base C "is_full" W8 1 (tG K C)):Mf P w K mg base C "learn" ["self","one","other"] 7 (kQ K C):=by
 refine a.mq MR λf _ A _ s H vs Q E F h=>?_
 .let#[#[p,ta,hk,bd,lg],D,L,I,p2,#[nm,age,b3],#[j,d,b8],c,d1,d2,rfl,#[b,#[rs,el,ro],kr],n1,ok,n,u,N,a1,r1,r2,en,ea,W,b0,q]:=h
  simp only at b el kr q en ea W
  subst en;subst ea
  exists _,(qd (qA (i:=3) MR.nd Z (Pr Z) (zb dQ U.cl F.mo (qv 0) (qc (qv 1) qa)))
   (qd (qB (qw zW (qv 3) qP (qq _)) Qg qt)
   (qd (qA (i:=4) MR.nd Z (Pr Z) (zb dQ U.cl F.mo (qv 0) (qc (qv 2) qa)))
   (qd (qB (QW.pt (Qd (qw zW (qv 4) qP (qq _)) (Qd (qw (Fj F) (QQ cO (qv 2) Ze (Zh qf)) (QQ cO (qv 1) Ze (Zh qf)) (qq _)) (zP (qw ac (qx qN (qv 4) qf) (qr qM (qx qN (qv 3) qf) qf) (qq _)))))) Qg qt)
   (qd (za (qv 1) (zg Z (qh (qg (i:=5) MR.nd Z (Pr Z)) (qh (qg (i:=6) MR.nd Z (Pr Z)) (qh (qg (i:=7) MR.nd Z (Pr Z)) qK)))))
   (qd (qB (oU F (qv 5) (qU (qv 0))) Qg qt)
   (qd (qB (zk (Zz xL U.cl F.mo (qv 0))) Qg qt)
   (qd (QM F (qU (qv 0)) (qv 5) (qu (qc (qv 6) (qc (qx qN (qv 4) qf) (qc qP qa)))))
   (qe (zc (Q0 Il IJ IK zV (qU (qv 0)) (qc (qu (qc qy (qc (qv 1) (qc (qv 2) qa)))) qa))))))))))))
  refine#[0,p,Z,b.no,0,p,ta,hk,bd,lg,L.length,D,-I,↑_,Z,b,ok,#[I,Z,n,N],λy1 H1 O t1=>?_]
  have t1:fS H1 y1 (fP D _):=t1
  rw[r1]at t1;let#[f1,rfl,a7]:=t1;refine#[3,qZ (λy=>nomatch (Jz y)) (λ_=>?_)]
  have b1:=b.same O;refine#[0,p,Z,b1.no,0,p,ta,hk,bd,lg,L.length,D,-p2,↑_,Z,b1,ok,#[p2,Z,Nb.same O u,a1],λy2 H2 J t2=>?_]
  have t2:fS H2 y2 (fP D _):=t2
  rw[r2]at t2;let#[f2,rfl,M]:=t2;have b2:=b1.same J;have Y:=Nb.same (O.trans J) n;have X:=Nb.same (O.trans J) u;let#[c1,e1,_]:=id Y;let#[c2,e2,_]:=id X;simp only at e1 e2
  exists 3
  refine qZ (λy=>nomatch (Jz y)) (λ_=>?_)
  refine#[2,p2,0,e2,λt3 H3 s3 h3 _=>#[2,I,0,s3 _ _ e1,λt4 H4 s4 h4 _=>?_]]
  have a8:H4 t3=↑(.tup [.str j,.int d]):=s4 _ _ h3
  have a4:H4 t4=↑(.tup [.str j,.int d]):=h4
  have G:=(s3.trans s4);have SS:=(O.trans J).trans G;refine#[(1),⋯,OI.pair a8 a4,0,zh ?_]
  exists 0,f2,1,HX.of (G _ _ M),8,f1,1,HX.of (G _ _ (J _ _ a7)),65
  refine aE Z ?_
  have S:=b2.same G;exists 0,I,0,.tup (G _ _ e1),7
  have g4:NB H4 bd (.str j) none:=by
   rcases S.kb.get j with⟨_,g⟩|⟨e,x,e5,_⟩
   .exact g
   .rw[W]at e5;cases e5
  exists 2,p,0,S.h_buttons U,bd,0,g4,0
  refine zh ?_
  exists 0,p,Z,S.no,p,ta,hk,bd,lg,L.length,D,Z,S,0
  refine qZ (λy=>absurd (Jz y) (by omega)) (λ_=>?_)
  refine#[2,f2,1,HX.of (G _ _ M),Z,Ht,λt5 a3=>?_]
  have u5:=HJ.upd (o:= .tup [.int d,.int (c+1),.non]) a3
  have R:=S.same u5;let#[f0,hd,_]:=id R.kb;have B:=SS.trans u5;let#[H6,dp,t,a2]:=R.kb.put j (a:=t5) (e:=#[d,c+1,none]) (by have:=ok.nl;omega) #[.non,qb,Z]
  exists 0,p,0,R.h_buttons U,0,bd,H6,Z,dp
  have b6:=R.putK t a2;have v:=t _ _ (qQ (zO (B _ _ el) hd (by intro z;cases z))) (B _ _ el)
  have l:NT [bd] _:=NT.one hd trivial
  have a5:=(ro.same B).mv t l;refine#[0,p,0,b6.h_log U,.inl #[43,HQ.of v],2,Ht,λr a6=>?_]
  have m:=HJ.upd (o:= .tup [.str "learn",-I,-p2]) a6
  have b7:=b6.same m;exists lg,6,m _ _ v,by rw[Je,ro.1,JD];omega
  exact q _ (((B.mv.trans (t.mono (λc h z=>h (by rw[Ji.mp z];exact Jr ..)))).trans m.mv).trans (Mv.upd1.mono (λc h z=>h (by rw[Ji.mp z];exact Jv _ (Jr ..))))) (M8.push (a:=#[p,ta,hk,bd,lg]) b7 (m _ _ v) (a5.same m) ((MP.mv t l (qQ (tX hd R)) (MP.same B kr)).same m) #[I,p2,.inl qb,Nb.same m (Nb.mv t l (Nb.same B n)),Nb.same m (Nb.mv t l (Nb.same B u)),N,a1])
theorem jF(a:Ob K C "forget" "Door.forget" aA ["self","name"])(T:MW K mg tk)(U:ND K C):Mf P w K mg base C "forget" X6 1 (jf K C):=by
 refine a.mq jK λf _ A _ s H vs Q E O h=>?_
 .let#[#[p,ta,hk,bd,lg],D,L,nm,rfl,#[b,#[rs,y,G],M],n1,m,q]:=h
  simp only at b y M q
  exists _,(qd (qB (kB O (qv 1) (qU (qv 0))) Qg qt)
   (qd (zc (nv (qU (qv 0)) (qv 1)))
   (qe (zc (Q0 Il IJ IK zV (qU (qv 0)) (qc (qu (qc qy (qc (qv 1) qa))) qa))))))
  let#[e,Y,I,g,X]:=(b.kb.get nm).resolve_left (λz=>m z.1)
  have q:=q _ _ (Jb (by rw[I];intro z;cases z))
  refine#[2,p,0,b.h_buttons U,bd,0,g,0,zh ?_]
  let#[F,l,W,n,S]:=id b.kb;let#[kvs,i,x]:=b.kb.drop nm;have t:kvs=bI F.1 F.2:=by rw[l]at i;injection i with z;injection z with z;exact z.symm
  have N:QZ kvs (Pt nm:qJ)=↑(.ref (F.2 nm)):=by rw[t,gH,cm n S,I];rfl
  exists 0,p,0,b.h_buttons U,bd,Z,.inl #[_,.inl l],0,kvs,.inr nm,_,i,Z,N
  have J:=b.putK Mv.upd1 x;have u:Mv [bd] H (HM H bd (.dK (aH kvs (Pt nm)))):=Mv.upd1
  have d:=u _ _ (qQ (zO y l (by intro z;cases z))) y
  have v:=G.mv u (NT.one l trivial);refine#[0,p,0,J.h_log U,.inl #[43,HQ.of d],0,Ho,λr B=>?_]
  have j:=HJ.upd (o:= .tup [.str "forget",.str nm]) B
  have R:=J.same j;exists lg,6,j _ _ d,by rw[Je,G.1,JD];omega
  exact q _ (((Mv.upd1.mono (λc h z=>h (by rw[Ji.mp z];exact Jr ..))).trans j.mv).trans (Mv.upd1.mono (λc h z=>h (by rw[Ji.mp z];exact Jv _ (Jr ..))))) (M8.push (a:=#[p,ta,hk,bd,lg]) R (j _ _ d) (v.same j) ((MP.mv u (NT.one l trivial) (qQ (tX l b)) M).same j) (show Oj _ r (.forget nm)from .inl qb))
theorem iF(a:Ob K C "turn_key" "Door.turn_key" ZM ["self","key"])(T:MW K mg tk)(U:ND K C):Mf P w K mg base C "turn_key" ["self","key"] 1 (oN K C):=by
 refine a.mq NJ λf _ A _ s H vs Q E hr h=>?_
 .let#[#[p,ta,hk,bd,lg],D,L,kt,ks,rfl,#[b,#[rs,el,ro],kr],n1,k7,R,B,q]:=h
  simp only at b el kr q
  exists _,(qd (qB (qw iS (qk qT T.b_len J5 (qc (qU (qv 0)) qa)) (zm (v:= .int 8) Z T.g_AGES #[0]) (qq _)) Qg qt)
   (qd (qA (i:=2) NJ.nd Z (Pr Z) (qI b9 T.b_tuple JL (qc (qv 1) qa)))
   (qd (zc (Q0 Il IJ IK zV (qU (qv 0)) (qc (qv 2) qa)))
   (qe (zc (Q0 Il IJ IK zV (qU (qv 0)) (qc (qu (qc qy (qc (qv 2) qa))) qa)))))))
  let#[X,d,u,n]:=id b.ks;exists 0,p,0,b.h_house_keys U,hk,0,.inl (HQ.of d),14
  rw[Je,u];have q:=q _ _ (Jc k7);refine QF (Jn (by omega)) ?_
  refine#[0,kt,ks,Z,R,λt H2 l J=>?_]
  have x:=b.same l;let#[X,d,u,n]:=id x.ks;have I:lg≠hk:=b.ne
  exists 0,p,0,x.h_house_keys U,.inl #[43,HQ.of d],0,hk,6,d,by rw[Je,u,JD];omega
  have Y:=x.putH Mv.upd1 (vP d u n (.inl J));let#[W,j,M,m]:=MP.same l kr
  obtain rfl:X=W:=by rw[d]at j;injection j with z;injection z with z;exact(List.map_inj_right (λ_ _ h=>by injection h)).mp z
  have G:=vP j M m (.inl J);have y:Mv [hk] H2 (HM H2 hk (.lst (X.map V.ref++[-t]))):=Mv.upd1
  have e:=y _ _ (qQ I) (l _ _ el);have O:=(ro.same l).mv y (NT.one d trivial);have F:=y.rd (NT.one d trivial) J;refine#[0,p,0,Y.h_log U,.inl #[43,HQ.of e],0,Ho,λr N=>?_]
  have g:=HJ.upd (o:= .tup [.str "turn",-t]) N
  have b7:=Y.same g;exists lg,6,g _ _ e,by rw[Je,ro.1,JD];omega
  exact q _ (((l.mv.trans (Mv.upd1.mono (λc h z=>h (by rw[Ji.mp z];exact Jr ..)))).trans g.mv).trans (Mv.upd1.mono (λc h z=>h (by rw[Ji.mp z];exact Jv _ (Jr ..))))) (M8.push (a:=#[p,ta,hk,bd,lg]) b7 (g _ _ e) (O.same g) (G.same g) #[t,.inl qb,g.mv.rd (S:=[]) fi F,B])
theorem i6(a:Ob K C "__init__" "Door.__init__" Zt ["self","table","keys","near","far","most"])(T:MW K mg tk)(U:ND K C):Mf P w K mg base C "__init__" X1 1 (pO K C):=by
 refine a.mq cP λf _ A _ s H vs Q E hr h=>?_
 .let#[p,a,b,dx,I,a1,N,t,kss,rfl,hp,ha,hb,hl,q]:=h
  exists _,(qd (zX (qv 0) (qI bT T.b_tuple JL (qc (qv 1) qa)))
   (qd (zX (qv 0) (zZ (own:=["key"]) (fr:=[]) (js:=[]) Z (aq (qv 2)) Z (λ_ _ h=>nomatch h) Z (cf Z nofun nofun nofun) (λ_ _ _ _=>qg (i:=0) (show P4 (["key"]:Α)from by decide +kernel) Z (Pr Z) (.inr Z)) (λ_ _ _ _=>(qI b9 T.b_tuple JL (qc (qv 0) qa)))))
   (qd (zX (qv 0) (qv 3))
   (qd (zX (qv 0) (qv 4))
   (qd (zX (qv 0) (qv 5))
   (qd (zX (qv 0) qf)
   (qd (zX (qv 0) iC)
   (qe (zX (qv 0) (q9 qa))))))))))
  refine#[0,a,0,ha,λta H2 O ht=>#[0,p,0,zy U.cl (O _ _ hp) U.n_table 0,?_]]
  have e2:=O _ _ hp;have a2:=(hb.same O).upd (o:= .ins C dx [("table",-ta)]) e2
  let#[as,eb,Y,a5]:=a2;have a6:=gM (o:= .ins C dx [("table",-ta)]) e2 ht
  refine#[0,b,Z,#[_,eb.up],bv (K:=K) (xs:=as.map V.ref) (by rw[Je,Y,JD];omega) (λi ys n=>HJ (HM H2 p (.ins C dx [("table",-ta)])) n/\∃bs:Η,ys=bs.map V.ref/\bs.length=i/\∀(j:Nat) (x:Δ) (z:Β),bs[j]? =↑x->kss[j]? =↑z->HX [] n x (z.map V.int)) #[HJ.refl _,[],9,λj x z e=>by(cases e)] (λi ys n ⟨v,_⟩=>(HJ.sqt v eb).up) ?_ ?_]
  .rintro i ys n x L W ⟨v,bs,rfl,F,D⟩
   rw[Jo]at L;cases ea:as[i]? with
   |none=>rw[ea]at L;cases L
   |some x0=>
    rw[ea]at L
    obtain rfl:V.ref x0=x:=JE L
    have hi:i<kss.length:=by rw[<- Y];exact(Jw.mp ea).1
    have a3:=a5 i x0 kss[i] ea (Jh hi);refine#[0,x0,0,.inr (HJ.sqt v a3).rd,λl H4 s4 a4=>#[v.trans s4,bs++[l],by simp,by simp [F],λj y z u m=>?_]]
    rw[Mn]at u;split at u
    .exact HJ.sqt s4 (D j y z u m)
    .have X:j-bs.length=0:=by
      cases X:j-bs.length with
      |zero=>rfl
      |succ k=>rw[X]at u;cases u
     rw[X]at u;cases u
     have:j=i:=by omega
     subst this;rw[Jh hi]at m;cases m;exact .inl a4
  .rintro ys n W ⟨v,bs,rfl,F,D⟩ hk B
   have R:=HJ.upd (o:= .lst (bs.map V.ref)) B
   have e3:=R _ _ (v _ _ qb);exists 0,p,0,zy U.cl e3 U.n_house_keys 1
   exists 2,p,0,zy U.cl qb U.n_near 2
   exists 2,p,0,zy U.cl qb U.n_far 3
   exists 2,p,0,zy U.cl qb U.n_most 4
   exists 0,p,0,zy U.cl qb U.n_least_age 5
   refineλbd d=>#[0,p,0,zy U.cl (by rw[qp (qm qb d)];exact qb) U.n_buttons 6,?_]
   have r:=qm qb d;refine#[Hh,λlg g=>#[0,p,0,zy U.cl (by rw[qp (qm qb g)];exact qb) U.n_log 7,?_]]
   have J:=qm qb g;have m3:Mv [p] H n:=((O.mv (S:=[p])).trans Mv.upd1).trans v.mv
   have c:hk≠p:=(qm (v _ _ qb) B).symm
   have m4:Mv [p] H (HM n hk (.lst (bs.map V.ref))):=m3.trans R.mv
   have M:∀o1 o2 o3 o4 o5,Mv [p] (HM n hk (.lst (bs.map V.ref))) (HM (HM (HM (HM (HM (HM n hk (.lst (bs.map V.ref))) p o1) p o2) p o3) p o4) p o5):=λo1 o2 o3 o4 o5=>(((Mv.upd1.trans Mv.upd1).trans Mv.upd1).trans Mv.upd1).trans Mv.upd1
   have M6:Mv [p] (HM n hk (.lst (bs.map V.ref))) _:=(((M _ _ _ _ _).trans (HJ.upd d).mv).trans Mv.upd1).trans (HJ.upd (o:= .lst []) g).mv
   have M7:=M6.trans (Mv.upd1 (o:= .ins C dx (dF #[t,kss,I,a1,N,(0),[]] ta hk bd lg)))
   have nt:NT [p] (HM n hk (.lst (bs.map V.ref))):=NT.one e3 trivial
   have G:bd≠lg:=qm (by rw[qp r.symm];exact qb) g
   have KR:=MP.mv M7 nt (qQ c) (show MP [] _ hk kss from#[bs,qb,by rw[F,Je,Y],λj x z u m=>HJ.sqt R (D j x z u m)])
   refine q ta hk bd lg _ (m3.nfree (qQ c) B) ((m4.trans (M _ _ _ _ _)).nfree (qQ r.symm) d) ((m4.trans ((((M _ _ _ _ _).trans (HJ.upd d).mv).trans Mv.upd1))).nfree (qQ J.symm) g) (m4.trans M7) #[#[dx,qb],?_,MP.up KR,?_,?_,?_] KR
   .exact M7.sqt nt (HJ.sqt R (HJ.sqt v a6))
   .exact#[([],λ_=>0),by rw[qp r.symm,qp G,qp r.symm];exact qb,λe he=>by(cases he),.refl _,LK]
   .exact#[[],by rw[qp J.symm];exact qb,Jf _]
   .refine(qm (o:= .lst (bs.map V.ref)) ?_ g).symm
    rw[qp c];rw[qp (qm (o:= .lst (bs.map V.ref)) (by rw[qp c,qp c,qp c,qp c,qp c];exact qb) d)]
    rw[qp c,qp c,qp c,qp c,qp c];exact qb
theorem fv(a:Ob K C "bounds_told" "Door.bounds_told" Zd ["self"])(T:MW K mg tk)(U:ND K C):Mf P w K mg base C "bounds_told" W8 1 (fZ K C):=by
 refine a.mq fq λf _ A _ s H vs Q E d h=>?_
 .let#[p,ta,hk,bd,lg,n,D,rfl,b,q]:=h
  exists _,(qe (qj (qu (qc (qU (qv 0)) (qc (qU (qv 0)) (qc (qU (qv 0)) qa))))))
  exact#[0,p,0,b.h_near U,0,p,0,b.h_far U,0,p,0,b.h_most U,Ht,λt c=>q t _ (HJ.upd c) qb]
theorem ia(a:Ob K C "keys_now" "Door.keys_now" ZK ["self"])(T:MW K mg tk)(U:ND K C):Mf P w K mg base C "keys_now" W8 1 (sZ K C):=by
 refine a.mq iL λf _ A _ s H vs Q E v h=>?_
 .let#[p,ta,hk,bd,lg,n,D,rfl,b,q]:=h
  exists _,(qe (qj (qI bT T.b_tuple JL (qc (qU (qv 0)) qa))))
  let#[l,o,j,c]:=id b.ks;refine#[0,p,0,b.h_house_keys U,hk,0,.inl (HQ.of o),λt m d g=>?_]
  exact q t l m d g j λi a r u e=>HJ.sqt d (c i a r u e)
theorem fE(a:Ob K C "closed_now" "Door.closed_now" Zn ["self"])(T:MW K mg tk)(U:ND K C):Mf P w K mg base C "closed_now" W8 1 (lq K C):=by
 refine a.mq gl λf _ A _ s H vs Q E c h=>?_
 .let#[p,ta,hk,bd,lg,n,D,rfl,b,q]:=h
  exists _,(qe (qj (qU (qv 0))))
  exact#[0,p,0,b.h_least_age U,q]
theorem pT(a:At K mg "_law_take" cW ["_law_box_here","_law_many"])(T:MW K mg tk):Df P w K mg base "_law_take" q0 1 Zf:=by
 refine a.dq Nu λf _ A _ s H vs Q E B h=>?_
 .let#[b,l,c,rfl,#[n,m,k,g,t,u,v,C],p,j,h1,q]:=h
  exists _,(qd (qB (qw BT (qx qF (qv 0) qf) qf (qq _)) (qd (qA (i:=2) Nu.nd Z (Pr Z) (qr Qx (qx qF (qv 0) qf) (qv 1)))
   (qd (za (qr cH (qx qF (qv 0) qf) (qv 1)) (bu (qv 0) qf Q6))
   (qe (qj (qv 2))))) qt)
   (qd (za (qr qM (qx qF (qv 0) qf) qf) (bu (qv 0) qf Q6))
   (qd (qA (i:=3) Nu.nd Z (Pr Z) (qr qM (qx qF (qv 0) qf) (qr ZQ qf (qx qF (qv 0) qf))))
   (qd (zf JJ Z (zM Z T.b_range (qc qf qa)) (qg (i:=4) Nu.nd Z (Pr Z))
   (qe (qA (i:=3) Nu.nd Z (Pr Z) (qr Qx (qr qM (qr qM (qr ZQ (qv 3) (qv 3)) (qr ZQ qf (qx qF (qv 0) qf))) qf) qf))))
   (qe (qj (qr Qx (qr cH (qv 3) qf) (qv 1))))))))
  exists 0,b,1,HQ.of g,49
  refine qZ (λ_=>?_) (λ_=>?_)
  .exists 0,b,1,HQ.of g,50,j
   exists 0,b,1,HQ.of g,50,#[j,h1],0,b,15,(0),9,g,Z
   exists 0
   refine q _ _ (La _ (by omega)) (Lc _ j) #[λc o p e=>?_,39,qb,t,u,v,by omega]
   rw[qp p];exact e
  .exists 0,b,1,HQ.of g,49,b,15,(2),9,g,Z
   have d:(HM H b (ui n m (k+1))) b=↑(ui n m (k+1)):=qb
   exists 0,b,1,HQ.of d,8,b,1,HQ.of d,25,.inl #[⋯,⋯],6
   refine#[(3),Z,⋯,⋯,Qv (n:=3) (Pv:=λi σ r=>r=HM H b (ui n m (k+1))/\∃(z:Int) (o:Μ),σ=[↑(-b),↑(.int l),none,↑(.int z),o]/\0<=z/\z<2 ^ 64) #[31,by omega,by omega] ?_ ?_]
   .rintro i σ r hi ⟨rfl,z,o,rfl,x,y⟩
    exists 16,.inl #[by omega,by omega],0,b,1,HQ.of d,25,.inl #[⋯,⋯],52,(by decide:(0:Int)<2305843009213693951),31,?_
    .exact La _ ⋯
    .exact K7 (Lc _ ⋯) ⋯
   .rintro σ r ⟨rfl,z,o,rfl,x,y⟩
    exists 11,#[⋯,⋯],11,j
    refine q _ _ (La _ (by omega)) (Lc _ j) #[λc o p e=>?_,39,qb,t,u,by omega,by omega]
    rw[qp p];exact e
theorem uF(a:At K mg "_law_box" f6 ["_law_script","_law_k"])(T:MW K mg tk):Df P w K mg base "_law_box" ["_law_script","_law_k"] 1 (wW K):=by
 refine a.dq Nl λf _ A _ s H vs Q E G h=>?_
 .let#[b,c,k,rfl,n,q]:=h
  exists _,(qd (za (qu (qc qf (qc qf qa))) (cv Z (qh (qg (i:=2) Nl.nd Z (Pr Z)) (qh (qg (i:=3) Nl.nd Z (Pr Z)) qK))))
   (qd (qB (qw bF (qv 1) (qk qT T.b_len J5 (qc (qv 0) qa)) (qq _)) (qe (qA (i:=2) Nl.nd Z (Pr Z) (qx qF (qv 0) (qv 1)))) qt)
   (qd (zf JJ Z (zv (QQ gI (qv 0) Ze (Zh qf))) (qg (i:=4) Nl.nd Z (Pr Z))
   (qe (qA (i:=3) Nl.nd Z (Pr Z) (qr Qx (qr qM (qr ZQ (qv 3) qf) (qv 4)) qf))))
   (qe (qj (q9 (qc (qr ZQ (qk mS T.b_abs PyProof.Rows.boot_abs (qc (qv 2) qa)) (qI yy T.b_int Lk (qc (ze iS (qk mS T.b_abs PyProof.Rows.boot_abs (qc (qv 2) qa)) (qr E8 qf qf) (qq _)) qa))) (qc (qr Qx (qr qM (qr qM (qr ZQ (qv 3) qf) (qv 2)) (qr ZQ qf (qv 1))) qf) (qc qf qa)))))))))
  refine#[Ho,λD B=>#[D,0,HX.of qb,5,?_]]
  have g:=HJ.upd (o:= .tup [.int 0,.int 7]) B
  exists 2,b,0,.inl (g.seq n),14
  refine qZ (λhk=>?_) (λ_=>?_)
  .have t:k<c.length:=by have:=Jz hk;rw[Je]at this;omega
   exists 2,b,15,.int c[k],9,g.seq n,Qs (by rw[Jo,Jh t];rfl)
   refine#[2,b,0,g.seq n,λl r=>#[l,Z,#[_,HQ.of qb],?_]]
   rw[aY];have j:=g.trans (HJ.upd (o:= .lst ((ZI c none ↑63).map V.int)) r)
   refine zQ (K:=K) (a:=l) (xs:=(ZI c none ↑63).map V.int) (λi σ d=>d=HM (HM H D (.tup [.int 0,.int 7])) l (.lst ((ZI c none ↑63).map V.int))/\∃(z:Int) (o:Μ),σ=[↑(-b),↑(.int (k:Int)),↑(.int c[k]),↑(.int z),o]/\0<=z/\z<2147483647) #[31,⋯,⋯] (λi σ d _ ⟨e,_⟩=>by subst e;exact HQ.of qb) ?_ ?_
   .rintro i x σ d v ⟨rfl,z,o,rfl,u,C⟩
    let#[y,rfl,F]:=Q9 v;refine#[11,.inr #[⋯,⋯],36,(by decide:(0:Int)<2147483647),31,La _ ⋯,Lc _ ⋯]
   .rintro σ d ⟨rfl,z,o,rfl,u,C⟩
    refine#[26,#[⋯,⋯,⋯],6,.inr #[0,?_]]
    exists 6,.inr #[xk _,xz _],11,.inr #[⋯,⋯],27,.inl #[⋯,⋯],44,(by decide:(0:Int)<2305843009213693951)
    exact#[Ht,λp m=>q _ _ (QV m j) (j.trans (HJ.upd m)) #[39,qb,La _ ⋯,K7 (Lc _ ⋯) ⋯,⋯,⋯]]
  .refine#[2,b,0,g.seq n,λl r=>#[l,Z,#[_,HQ.of qb],?_]]
   rw[aY];have j:=g.trans (HJ.upd (o:= .lst ((ZI c none ↑63).map V.int)) r)
   refine zQ (K:=K) (a:=l) (xs:=(ZI c none ↑63).map V.int) (λi σ d=>d=HM (HM H D (.tup [.int 0,.int 7])) l (.lst ((ZI c none ↑63).map V.int))/\∃(z:Int) (o:Μ),σ=[↑(-b),↑(.int (k:Int)),↑(.int 0),↑(.int z),o]/\0<=z/\z<2147483647) #[31,⋯,⋯] (λi σ d _ ⟨e,_⟩=>by subst e;exact HQ.of qb) ?_ ?_
   .rintro i x σ d v ⟨rfl,z,o,rfl,u,C⟩
    let#[y,rfl,F]:=Q9 v;refine#[11,.inr #[⋯,⋯],36,(by decide:(0:Int)<2147483647),31,La _ ⋯,Lc _ ⋯]
   .rintro σ d ⟨rfl,z,o,rfl,u,C⟩
    refine#[26,#[⋯,⋯,⋯],6,.inr #[0,?_]]
    exists 6,.inr #[xk _,xz _],11,.inr #[⋯,⋯],27,.inl #[⋯,⋯],44,(by decide:(0:Int)<2305843009213693951)
    exact#[Ht,λp m=>q _ _ (QV m j) (j.trans (HJ.upd m)) #[39,qb,La _ ⋯,K7 (Lc _ ⋯) ⋯,⋯,⋯]]
theorem oZ(a:At K mg "_law_table" cq ["_law_box_here"])(T:MW K mg tk)(S:Df P w K mg base "_law_take" q0 1 Zf):Df P w K mg base "_law_table" X4 2 nu:=by
 refine a.dq N1 λf _ A _ s H vs Q E O h=>?_
 .let#[b,c,rfl,D,hc,q]:=h
  exists _,(qd (qA (i:=1) N1.nd Z (SV Z) (qI (t9 Z) T.b_list Ig (qc (qI lF T.b_range SD (qc qf qa)) qa)))
   (qe (qj (qI zp T.b_tuple JL (qc (zZ (own:=["_law_k"]) (fr:=["_law_rest","_law_box_here"]) (js:=[1,0]) Z (zM Z T.b_range (qc qf qa)) Z (Fl Z Z) Z (E5 Z nofun nofun nofun Z Z Z Z Z Z) (λ_ _ _ _=>qg (i:=0) (show P4 (["_law_k","_law_rest","_law_box_here"]:Α)from by decide +kernel) Z (Pr Z) (.inr Z)) (λ_ _ _ _=>(EB (K:=K) Z Il PySem.F.slot_list_pop PySem.F.type_list_pop By (qv 1) (qc (qo S O.mo (qc (qv 2) (qc (qk (me (K:=K) Z) T.b_len J5 (qc (qv 1) qa)) qa))) qa)))) qa)))))
  refine#[0,λr g=>#[r,(16),Z,qb,⋯,λl C=>?_]]
  rw[E4];have Y:=(HJ.upd (o:= .rng 0 16) g).trans (HJ.upd (o:= .lst (Nf.map V.int)) C)
  have u:l≠b:=zJ ((HJ.upd g).grc D).bx C
  refine#[0,⋯,⋯,aL (n:=16) ⋯ (λi ys B=>NM b (c+i) H B/\∃d zs:Β,B l=↑(.lst (d.map V.int))/\ys=zs.map V.int/\d.length+i=16/\(zs++d).Perm Nf) #[Y.grc D,Nf,[],qb,Z,by rw[pC],.refl _] ?_ ?_]
  .rintro i ys B hi N ⟨y,d,zs,v,rfl,F,pm⟩
   exists 0,.inl #[43,HQ.of v]
   refine#[2,l,0,.inl (HQ.of v),b,13,y.bx,by omega,by rw[Je];omega,by rw[Je];omega,λx H3 x0 U I=>?_]
   rw[Je]at U;let#[k,rfl]:∃k:Nat,x=(k:Int):=#[x.toNat,by omega]
   have hk:k<d.length:=by omega
   have G:=I.kp _ _ u v;exists l,15,k,.int d[k],9,G,by omega,by omega,?_,?_
   .rw[Je];exact oz hk
   .rw[Jo,Jh hk];rfl
   .exists #[λc o j e=>?_,?_],d.eraseIdx k,zs++[d[k]],?_,by simp,?_
    .by_cases z:c=l
     .subst z
      rw[HJ.upd g _ _ e]at C;cases C
     .rw[qp z];exact I.kp _ _ j (y.kp _ _ j e)
    .let#[n,m,W,e,r]:=I.bx
     exact#[n,m,W,by rw[qp u.symm];exact e,r]
    .rw[qb,ug]
    .rw[K5 hk];omega
    .exact(AT hk).trans pm
  .rintro ys B M ⟨y,d,zs,v,rfl,F,pm⟩ p R
   have X:d=[]:=KS (by omega)
   subst X;rw[Ic]at pm;refine#[p,0,.inl #[HQ.of qb,λt L=>?_]]
   have J:=y.same (HJ.upd (o:= .lst (zs.map V.int)) R)
   exact q t zs _ (J.same (HJ.upd L)) (J.fresh (D.mono (by omega)) L) qb pm
theorem uf(a:At K mg "_law_key" gh ["_law_box_here"])(T:MW K mg tk)(m:Df P w K mg base "_law_take" q0 1 Zf):Df P w K mg base "_law_key" X4 2 jv:=by
 refine a.dq uH λf _ A _ s H vs Q E l h=>?_
 .let#[b,c,rfl,u,U,q]:=h
  exists _,(qe (qj (qI zp T.b_tuple JL (qc (zZ (own:=["_law_k"]) (fr:=["_law_box_here"]) (js:=[0]) Z (zM Z T.b_range (qc (qr qM qf (qo m l.mo (qc (qv 0) (qc qf qa)))) qa)) Z (fD Z) Z (fO Z nofun nofun nofun Z Z Z) (λ_ _ _ _=>qg (i:=0) (show P4 (["_law_k","_law_box_here"]:Α)from by decide +kernel) Z (Pr Z) (.inr Z)) (λ_ _ _ _=>(qo m l.mo (qc (qv 1) (qc qf qa))))) qa))))
  refine#[0,b,13,u,by omega,⋯,⋯,λr H1 N O G=>#[14,by omega,by omega,?_]]
  let#[n,rfl,R]:∃n:Nat,r=(n:Int)/\n<8:=#[r.toNat,by omega,by omega]
  have D:(1+(n:Int)).toNat=n+1:=by omega
  rw[D];refine aL (n:=n+1) (JN (by omega:n+1<=8) ⋯) (λi ys j=>NM b (c+1+i) H j/\∃d:Β,ys=d.map V.int/\zH d) #[G,[],Z,λ_ h=>nomatch h] ?_ ?_
  .rintro i ys j hi C ⟨e,d,rfl,hk⟩
   refine#[0,b,13,e.bx,by omega,⋯,⋯,λx S F J M=>#[e.trans M,d++[x],by simp,λz L=>?_]]
   rcases JP.mp L with y|y
   .exact hk z y
   .rw[Ji.mp y];exact#[F,J]
  .rintro ys j g ⟨e,d,rfl,hk⟩ p I
   rw[Je]at g;refine#[p,0,.inl #[HQ.of qb,λt B=>?_]]
   have v:=e.same (HJ.upd (o:= .lst (d.map V.int)) I)
   exact q t d _ ((v.same (HJ.upd B)).mono (by omega)) (v.fresh (u.mono (by omega)) B) qb hk (by omega) (by omega)
theorem lY(a:At K mg "back_table" aT ["table"])(T:MW K mg tk):Df P w K mg base "back_table" ["table"] 1 (vF K):=by
 refine a.dq Np λf _ A _ s H vs Q E hr h=>?_
 .let#[c,t,rfl,D,pm,q]:=h
  exists _,(qd (qA (i:=1) Np.nd Z (Pr Z) (qr vW (q9 (qc qf qa)) (zm (v:= .int 16) Z T.g_DIGITS #[0])))
   (qd (zf JJ Z (BA Z T.b_enumerate (qc (qv 0) qa)) (cv Z (qh (qg (i:=2) Np.nd Z (Pr Z)) (qh (qg (i:=3) Np.nd Z (Pr Z)) qK)))
   (qe (za (qv 2) (bu (qv 1) (qv 3) Q6))))
   (qe (qj (qI zp T.b_tuple JL (qc (qv 1) qa))))))
  refine#[Hl,λp hp=>#[p,(16),41,qb,⋯,⋯,HF,λl U=>?_]]
  have e0:(Dj (16:Int).toNat [V.int 0]).flatten=(Zi t 0).map V.int:=by rw[An];rfl
  rw[e0];have X:=(HJ.upd (o:= .lst [V.int 0]) hp)
  have I:=X.trans (HJ.upd (o:= .lst ((Zi t 0).map V.int)) U)
  have step:∀(i:Nat) (x:V) (g:Hp) (u:Δ),(t.map V.int)[i]? =↑x->g l=↑(.lst ((Zi t i).map V.int))->HJ H g->g u=none->
    ∃j:Nat,∃z:Int,x= .int z/\cD ((Zi t i).map V.int).length z=↑j/\(HM g u (.tup [.int i,x])) l=↑(.lst ((Zi t i).map V.int))/\
     (HM (HM g u (.tup [.int i,x])) l (.lst (((Zi t i).map V.int).set j (.int i)))) l=↑(.lst ((Zi t (i+1)).map V.int))/\HJ H (HM (HM g u (.tup [.int i,x])) l (.lst (((Zi t i).map V.int).set j (.int i)))):=by
   intro i x g u F n m r;let#[z,rfl,W]:=Q9 F;have hi:i<t.length:=(Jw.mp W).1
   have Y:t[i]=z:=(Jw.mp W).2
   have bd:=ox pm hi;have sp:=HJ.upd (o:= .tup [.int i,.int z]) r
   refine#[z.toNat,z,Z,jR (by omega) (by rw[Je,cF];omega),sp _ _ n,?_,λd o e=>?_]
   .rw[qb,cV,<- Y,Bz pm hi]
   .have O:d≠l:=λy=>by
     rw[y]at e;rw[X _ _ e]at U;cases U
    rw[qp O];exact sp _ _ (m _ _ e)
  have G:∀(o:Μ) (o':Μ) (g:Hp),g l=↑(.lst ((Zi t t.length).map V.int))->HJ H g->∀J,g J=none->Q (-J) (HM g J (.tup ((Zi t t.length).map V.int))):=λ_ _ g n m J N=>
   q _ _ (m.trans (HJ.upd N)) (by rw[qb,CA pm])
  rcases D with D|D
  .refine#[0,c,Z,.inl #[#[_,I.seq D],?_]]
   refine nN (K:=K) (a:=c) (xs:=t.map V.int) (λi σ g=>∃(C B:Μ),σ=[↑(-c),↑(-l),C,B]/\g l=↑(.lst ((Zi t i).map V.int))/\HJ H g) #[none,none,Z,qb,I] (λi σ g _ ⟨_,_,_,_,m⟩=>m.seq D) ?_ ?_
   .rintro i x σ g u F ⟨C,B,rfl,n,m⟩ r
    let#[j,z,rfl,L,M,R,S]:=step i x g u F n m r;exists u,0,HX.of qb,5
    exact#[4,l,15,j,9,M,L,13,R,S]
   .rintro σ g ⟨C,B,rfl,n,m⟩
    rw[Je]at n
    exact#[0,l,0,.inl #[HQ.of n,G C B g n m]]
  .refine#[0,c,Z,.inr #[#[_,HJ.sqt I D],?_]]
   refine wv (K:=K) (a:=c) (xs:=t.map V.int) (λi σ g=>∃(C B:Μ),σ=[↑(-c),↑(-l),C,B]/\g l=↑(.lst ((Zi t i).map V.int))/\HJ H g) #[none,none,Z,qb,I] (λi σ g _ ⟨_,_,_,_,m⟩=>HJ.sqt m D) ?_ ?_
   .rintro i x σ g u F ⟨C,B,rfl,n,m⟩ r
    let#[j,z,rfl,L,M,R,S]:=step i x g u F n m r;exists u,0,HX.of qb,5
    exact#[4,l,15,j,9,M,L,13,R,S]
   .rintro σ g ⟨C,B,rfl,n,m⟩
    rw[Je]at n
    exact#[0,l,0,.inl #[HQ.of n,G C B g n m]]
theorem Ab(a:At K mg "coded" jM ["table","key","digits"])(T:MW K mg tk):Df P w K mg base "coded" X8 1 (jJ K):=by
 refine a.dq NN λf _ A _ s H vs Q E hr h=>?_
 .let#[a,b,c,t,L,ds,rfl,U,Y,S,lt,l1,a1,q]:=h
  exists _,(qd (qA (i:=3) NN.nd Z (Pr Z) (qI fT T.b_list Ig (qc (qv 2) qa)))
   (qd (zf JJ Z (yb (qv 1)) (qg (i:=4) NN.nd Z (Pr Z))
   (qe (zf JJ Z (zM Z T.b_range (qc (qk qT T.b_len J5 (qc (qv 2) qa)) qa)) (qg (i:=5) NN.nd Z (Pr Z))
   (qd (qA (i:=6) NN.nd Z (Pr Z) (qx qF (qv 3) (qr Qy (qv 5) qf)))
   (qe (za (qx (PN.or qF qN) (qv 0) (qr Qx (qr qM (qr qM (qr qM (qx qF (qv 3) (qv 5)) (qv 4)) (qv 5)) (qv 6)) (zm (v:= .int 16) Z T.g_DIGITS #[0]))) (bu (qv 3) (qv 5) Q6)))))))
   (qe (qj (qI zp T.b_tuple JL (qc (qv 3) qa))))))
  refine#[0,c,0,S,λl R=>?_]
  have s1:HJ H _:=HJ.upd (o:= .lst (ds.map V.int)) R
  refine#[0,b,Z,C2 (K:=K) (H0:=H) Y (λj σ F=>HJ H F/\∃M m u,σ=[↑(-a),↑(-b),↑(-c),↑(-l),M,m,u]/\F l=↑(.lst ((Zc t (L.take j) ds).map V.int))) #[s1,18,qb] (λj X H' h=>h.1) ?_ ?_]
  .rintro j x σ F W ⟨y,M,m,u,rfl,z⟩
   let#[d,rfl,N]:=Q9 W;rw[jC N,nY];have C:(Zc t (L.take j) ds).length=ds.length:=c5
   generalize Zc t (L.take j) ds=r at z C
   exists 0,c,0,S.same y,0,?_,?_
   .omega
   .rw[Je];omega
   rw[show((((ds.map V.int).length:Nat):Int)).toNat=ds.length by rw[Je];rfl]
   refine Qv (n:=ds.length) (Pv:=λi σ I=>HJ H I/\∃m u,σ=[↑(-a),↑(-b),↑(-c),↑(-l),↑(.int d),m,u]/\I l=↑(.lst ((ay t d r i).map V.int))) #[y,13,z] ?_ ?_
   .rintro i σ I hi ⟨G,m,u,rfl,e⟩
    have B:(ay t d r i).length=ds.length:=by rw[Za,C]
    generalize hr':ay t d r i=D at e B
    have g:i<D.length:=by omega
    exists 16,l,1,HQ.of e,yZ (i:=i) (by omega) g
    exists 4,l,1,HQ.of e,a9 (i:=i) (by omega) g,19,(by decide:(0:Int)<16)
    have J:=aO (D.getD i 0+d+(0+(i:Int))+ah D i)
    refine(U.same G).ix (a9 (i:=((D.getD i 0+d+(0+(i:Int))+ah D i)%16).toNat) (by have:=J.1;omega) (by rw[lt];have:=J.1;have:=J.2;omega)) ?_
    exists 2,l,15,i,9,e,jR (by omega) (by rw[Je];exact g),ZO G R,13
    rw[qb,cV,ay,hr',jE,Kc]
   .rintro σ I ⟨G,m,u,rfl,e⟩
    exact#[G,18,e]
  .rintro σ F ⟨y,M,m,u,rfl,z⟩
   rw[Je,Ip]at z
   exact#[0,l,0,.inl #[HQ.of z,λp O=>q p _ (y.trans (HJ.upd O)) (QV O y) qb]]
theorem uO(a:At K mg "decoded" fB ["table","key","digits"])(T:MW K mg tk)(xV:Df P w K mg base "back_table" ["table"] 1 (vF K)):Df P w K mg base "decoded" X8 2 (ku K):=by
 refine a.dq Nh λf _ A _ s H vs Q E hr h=>?_
 .let#[a,b,c,t,e,ds,rfl,ha,hb,hc,pm,a1,l1,a3,q]:=h
  exists _,(qd (qA (i:=3) Nh.nd Z (Pr Z) (qo xV hr.mo (qc (qv 0) qa)))
   (qd (qA (i:=4) Nh.nd Z (Pr Z) (qI fT T.b_list Ig (qc (qv 2) qa)))
   (qd (zf JJ Z (xn Z T.b_reversed (qc (qv 1) qa)) (qg (i:=5) Nh.nd Z (Pr Z))
   (qe (zf JJ Z (xn Z T.b_reversed (qc (qI lF T.b_range SD (qc (qk qT T.b_len J5 (qc (qv 2) qa)) qa)) qa)) (qg (i:=6) Nh.nd Z (Pr Z))
   (qd (qA (i:=7) Nh.nd Z (Pr Z) (qx qF (qv 4) (qr Qy (qv 6) qf)))
   (qe (za (qr Qx (qr Qy (qr Qy (qr Qy (qx qN (qv 3) (qx qF (qv 4) (qv 6))) (qv 5)) (qv 6)) (qv 7)) (zm (v:= .int 16) Z T.g_DIGITS #[0])) (bu (qv 4) (qv 6) Q6)))))))
   (qe (qj (qI zp T.b_tuple JL (qc (qv 4) qa)))))))
  refine#[0,a,t,Z,ha,pm,λpb H1 F U=>?_]
  refine#[0,c,0,hc.same F,λl hl=>?_]
  have B:HJ H1 _:=HJ.upd (o:= .lst (ds.map V.int)) hl
  refine#[0,b,Z,Bu (K:=K) (H0:=H1) (hb.same F) (λj σ O=>HJ H1 O/\∃X C D,σ=[↑(-a),↑(-b),↑(-c),↑(-pb),↑(-l),X,C,D]/\O l=↑(.lst ((Zv (zI t) (e.drop (e.length-j)) ds).map V.int))) #[B,18,by rw[Nat.sub_zero,List.drop_length];exact qb] (λj a2 H' h=>h.1) ?_ ?_]
  .rintro j x σ O hj hx ⟨B,X,C,D,rfl,N⟩
   let#[d,rfl,J]:=Q9 hx;rw[Je]at hj J;have ed:e.drop (e.length-(j+1))=d::e.drop (e.length-j):=by
    have:=wY J
    rw[show e.length-1-j+1=e.length-j by omega]at this
    rw[show e.length-(j+1)=e.length-1-j by omega]
    exact this
   rw[ed,Zv];have G:(Zv (zI t) (e.drop (e.length-j)) ds).length=ds.length:=iH
   have I:zH (Zv (zI t) (e.drop (e.length-j)) ds):=pI a1
   generalize Zv (zI t) (e.drop (e.length-j)) ds=r at N G I
   refine#[0,c,0,(hc.same F).same B,0,λpr L=>#[pr,Z,.inr (.inr #[ds.length,?_,by omega,?_])]]
   .rw[qb,Je]
   have Y:=B.trans (HJ.upd (o:= .rng 0 ((ds.map V.int).length:Nat)) L)
   have W:=HJ.upd (o:= .rng 0 ((ds.map V.int).length:Nat)) L _ _ N
   refine BK (n:=ds.length) (Pv:=λi σ S=>HJ H1 S/\∃C D y,σ=[↑(-a),↑(-b),↑(-c),↑(-pb),↑(-l),↑(.int d),C,D]/\S l=↑(.lst (y.map V.int))/\y.length=ds.length/\zH y/\aU (zI t) d y (ds.length-i)=aU (zI t) d r ds.length) #[Y,15,r,Z,W,G,I,Z] ?_ ?_
   .rintro i σ S hi ⟨R,C,D,y,rfl,g,z,m,M⟩
    have u:ds.length-1-i<y.length:=by omega
    have ep:(ds.length:Int)-1-i=((ds.length-1-i:Nat):Int):=by omega
    rw[ep];generalize hpl:ds.length-1-i=pl at u
    rw[show ds.length-i=pl+1 by omega,aU]at M
    exists 16,l,1,HQ.of g,yZ (i:=pl) Z u
    have dr:=j7 m pl;exists 4,l,1,HQ.of g,a9 (i:=pl) Z u,pb,1,HX.of (R _ _ U),a9 (i:=(y.getD pl 0).toNat) (by have:=dr.1;omega) (by rw[bS];have:=dr.1;have:=dr.2;omega)
    exists 19,(by decide:(0:Int)<16)
    exists 2,l,15,pl,9,g,sN (by rw[Je];exact u),ZO R hl,15,ij (zI t) d y pl,Z,?_,by rw[oX];exact z,nq m
    .rw[qb,cV,ij]
    .rw[show ds.length-(i+1)=pl by omega];exact M
   .rintro σ S ⟨R,C,D,y,rfl,g,z,m,M⟩
    rw[Nat.sub_self,aU]at M;rw[M]at g
    exact#[R,18,g]
  .rintro σ O ⟨B,X,C,D,rfl,N⟩
   rw[Je,Nat.sub_self,Kv]at N
   exact#[0,l,0,.inl #[HQ.of N,λp hp=>q p _ ((F.trans B).trans (HJ.upd hp)) (QV hp (F.trans B)) qb]]
theorem io(a:At K mg "letter_digits" ZR ["name"])(T:MW K mg tk):Df P w K mg base "letter_digits" ["name"] 1 kO:=by
 refine a.dq MY λf _ A _ s H vs Q E x h=>?_
 .let#[z,rfl,r,q]:=h
  exists _,(qd (qA (i:=1) MY.nd Z (Pr Z) (q9 qa))
   (qd (zf JJ Z (yq (qv 0)) (qg (i:=2) MY.nd Z (Pr Z))
   (qd (qA (i:=3) MY.nd Z (Pr Z) (qr Qy (qk mQ T.b_ord PyProof.Rows.boot_ord (qc (qv 2) qa)) (qk mQ T.b_ord PyProof.Rows.boot_ord (qc qy qa))))
   (qd (zc (Q0 Il IJ IK zV (qv 1) (qc (qr Qx (qv 3) (zm (v:= .int 16) Z T.g_DIGITS #[0])) qa)))
   (qe (zc (Q0 Il IJ IK zV (qv 1) (qc (qr cH (qv 3) (zm (v:= .int 16) Z T.g_DIGITS #[0])) qa)))))))
   (qe (qj (qv 1)))))
  refine#[Hh,λl g=>?_]
  refine#[0,z,Z,nO r,CG (λi σ d=>HJ H d/\∃o p,σ=[↑(.str z),↑(-l),o,p]/\d l=↑(.lst ((Zr (z.cps.toList.take i)).map V.int))) #[HJ.upd g,13,qb] ?_ ?_]
  .rintro i c σ d u ⟨m,o,p,rfl,e⟩
   have n:=sY u;rw[DB n,vy];have j:(Zr (z.cps.toList.take i)).length<=16:=by rw[kM,G5];have:=r.2.2;omega
   generalize Zr (z.cps.toList.take i)=ds at e j
   have y:((((#[(AA [c])]:Str).cps.getD 0 0:Nat):Int)-((("a":Str).cps.getD 0 0:Nat):Int))=(c:Int)-97:=Z
   have big:(100:Nat)<ζ:=by decide
   exists 53
   show fV _ _ _ [↑(V.str z),↑(V.ref l),↑(V.str #[(AA [c])]),↑(V.int ((c:Int)-97))] d
   exists 0,.inl #[43,HQ.of e],11,(by decide:(0:Int)<16),l,6,e,by rw[Je];omega
   have t:HJ H (HM d l (.lst (ds.map V.int++[V.int (((c:Int)-97)%16)]))):=ZO m g
   exists 0,.inl #[43,HQ.of qb],11,#[⋯,⋯],l,6,qb,by rw[Jy,Je,IM];omega,ZO t g,_,_,Z
   rw[qb,JI,IU];rfl
  .rintro σ d ⟨m,o,p,rfl,e⟩
   rw[show z.cps.size=z.cps.toList.length from Z,Ip]at e
   exact#[0,q l d m g e]
theorem vY(a:At K mg "key_of" iD ["table","key","name"])(T:MW K mg tk)(xG:Df P w K mg base "letter_digits" ["name"] 1 kO)(xR:Df P w K mg base "coded" X8 1 (jJ K)):Df P w K mg base "key_of" V3 2 (jy K):=by
 refine a.dq NQ λf _ A _ s H vs Q E Y h=>?_
 .let#[a,b,z,t,ks,rfl,ha,hb,hz,lt,q]:=h
  exists _,(qd (qA (i:=3) NQ.nd Z (Pr Z) (qr vW (q9 (qc qf qa)) (zm (v:= .int 4) Z T.g_KEY_PLACES #[0])))
   (qd (zf JJ Z (DL Z T.b_enumerate (qc (qo xG Y.mo (qc (qv 2) qa)) qa)) (cv Z (qh (qg (i:=4) NQ.nd Z (Pr Z)) (qh (qg (i:=5) NQ.nd Z (Pr Z)) qK)))
   (qe (Dc (qv 3) (qr Qx (qv 4) (zm (v:= .int 4) Z T.g_KEY_PLACES #[0])) Ai (qv 5) Fk Q6)))
   (qe (qj (qo xR Y.mo (qc (qv 0) (qc (qv 1) (qc (zZ (own:=["total"]) (fr:=[]) (js:=[]) Z (zv (qv 3)) Z (λ_ _ h=>nomatch h) Z (cf Z nofun nofun nofun) (λ_ _ _ _=>qg (i:=0) (show P4 (["total"]:Α)from by decide +kernel) Z (Pr Z) (.inr Z)) (λ_ _ _ _=>(qr Qx (qv 0) (zm (v:= .int 16) Z T.g_DIGITS #[0])))) qa))))))))
  refine#[Hl,λX J=>#[X,(4),41,qb,⋯,⋯,Hu,λl hl=>?_]]
  have s1:=(HJ.upd (o:= .lst [V.int 0]) J)
  have s2:=s1.trans (HJ.upd (o:= .lst (Dj (4:Int).toNat [V.int 0]).flatten) hl)
  have N:H l=none:=QV hl s1
  refine#[0,z,Z,hz,λC H1 s3 c d=>?_]
  have U:=s3 _ _ (qb (H:=HM H X (.lst [V.int 0])) (a:=l) (o:= .lst (Dj (4:Int).toNat [V.int 0]).flatten))
  have R:C≠l:=λy=>by rw[y,qb]at c;cases c
  generalize hds:Zr z.cps.toList=ds at d q
  have a2:ds.length<=16:=by rw[<- hds,kM];have:=hz.2.2;omega
  refine#[C,Z,#[_,HQ.of d],nN (K:=K) (a:=C) (xs:=ds.map V.int) (λi σ j=>∃(S W:Μ),σ=[↑(-a),↑(-b),↑(.str z),↑(-l),S,W]/\j l=↑(.lst ((Z8 ds i).map V.int))/\j C=↑(.lst (ds.map V.int))/\HJ H j)
   #[none,none,Z,U,d,s2.trans s3] (λi σ j _ ⟨_,_,_,_,hd,_⟩=>HQ.of hd) ?_ ?_]
  .rintro i x σ j pp I ⟨S,W,rfl,B,r,m⟩ G
   let#[dg,rfl,u]:=Q9 I;have hi:i<ds.length:=(Jw.mp u).1
   have eg:ds.getD i 0=dg:=by rw[JG,u];rfl
   have g:=HJ.upd (o:= .tup [.int i,.int dg]) G
   have n:=g _ _ B;have O:i%4<(Z8 ds i).length:=Ki i ⋯
   have e4:(i:Int)%4=((i%4:Nat):Int):=by omega
   exists pp,0,HX.of qb,5
   exists 16,(by decide:(0:Int)<4),l,_,i%4,.int ((Z8 ds i).getD (i%4) 0),Z,(by show V.int ((i:Int)%4)=_;rw[e4]),n,?_,11,l,15,i%4,9,n,jR e4 (by rw[Je];exact O),13,?_,?_
   .rw[jP O,JG,Jh O];rfl
   .rw[qb,cV,<- eg,yh]
   .rw[qp R];exact g _ _ r
   .exact ZO (m.trans g) N
  .rintro σ j ⟨S,W,rfl,B,r,m⟩
   rw[Je]at B;refine#[4,l,Z,#[_,HQ.of B],ZC (xs:=(Z8 ds ds.length).map V.int) (Hu) (λi ys F=>ys=((bX ds).take i).map V.int/\F=j) #[by simp,Z] (λi ys F ⟨_,e⟩=>by rw[e];exact HQ.of B) ?_ ?_]
   .rintro i ys F x I _ ⟨rfl,rfl⟩
    let#[y,rfl,hy]:=Q9 I;refine#[11,(by decide:(0:Int)<16),?_,Z]
    have:(bX ds)[i]? =↑(y%16):=by unfold bX;rw[Jo,hy];rfl
    rw[Ie,this];simp
   .rintro ys F a1 ⟨rfl,rfl⟩ p hp
    rw[show(bX ds).take ((Z8 ds ds.length).map V.int).length=bX ds from Z]
    have D:=HJ.upd (o:= .lst ((bX ds).map V.int)) hp
    exact#[a,b,p,t,ks,bX ds,Z,(ha.same m).same D,(hb.same m).same D,.lst qb,lt,by rw[oG];decide,by rw[oG];decide,λp' H' s' L M=>q p' H' ((m.trans D).trans s') (QV L (m.trans D)) M]
theorem iY(a:At K mg "count_digits" Z1 ["count"])(T:MW K mg tk):Df P w K mg base "count_digits" ["count"] 1 E9:=by
 refine a.dq jb λf _ A _ s H vs Q E e h=>?_
 .let#[c,rfl,q]:=h
  exists _,(qe (qj (qu (qc (qr Qx (qv 0) (zm (v:= .int 16) Z T.g_DIGITS #[0])) (qc (qr Qx (qr cH (qv 0) (zm (v:= .int 16) Z T.g_DIGITS #[0])) (zm (v:= .int 16) Z T.g_DIGITS #[0])) (qc (qr cH (qv 0) qf) qa))))))
  exact#[11,(by decide:(0:Int)<16),11,#[⋯,⋯],6,(by decide:(0:Int)<16),11,#[⋯,⋯],Ht,λp d=>q p _ (HJ.upd d) qb]
theorem DC{c d:Int}(e:0<=c)(h1:c<4096)(hd:bO d):∀z∈aF c d,0<=z/\z<=1000000:=λz a=>by
 have:=ib e h1 hd z (LN _ a)
 exact#[this.1,Int.le_trans (Int.le_of_lt this.2) ⋯]
theorem pV(a:At K mg "press_of" dv ["table","key","name","age","count","deed"])(T:MW K mg tk)(R:Df P w K mg base "count_digits" ["count"] 1 E9)(xM:Df P w K mg base "key_of" V3 2 (jy K))(xR:Df P w K mg base "coded" X8 1 (jJ K)):Df P w K mg base "press_of" W5 3 (tm K):=by
 refine a.dq NO λf _ A _ s H vs Q E x h=>?_
 .let#[a,b,z,age,c,d,t,I,rfl,G,X,hz,lt,S,c1,hd,q]:=h
  exists _,(qd (qA (i:=6) NO.nd Z (Pr Z) (qr ZX (qo R x.mo (qc (qv 4) qa)) (qu (qc (qv 5) qa))))
   (qd (qA (i:=7) NO.nd Z (Pr Z) (qr ZX (qv 6) (qu (qc (qr Qx (qk (yd Z) T.b_sum PyProof.Rows.boot_sum (qc (qv 6) qa)) (zm (v:= .int 16) Z T.g_DIGITS #[0])) qa))))
   (qe (qj (qu (qc (qv 2) (qc (qv 3) (qc (qo xR x.mo (qc (qv 0) (qc (qo xM x.mo (qc (qv 0) (qc (qv 1) (qc (qv 2) qa)))) (qc (qv 7) qa)))) qa))))))))
  refine#[0,c,Z,λp1 H1 s1 n=>?_]
  refine#[0,Hl,λp2 B=>?_]
  have J:=HJ.upd (o:= .tup [V.int d]) B
  refine#[p1,p2,6,J _ _ n,qb,Hu,λD H3 s3 m=>?_]
  have e:H3 D=↑(.tup ((aF c d).map V.int)):=m
  have O:=(s1.trans J).trans s3;refine#[2,D,aF c d,Z,.tup e,by show 4<=1000;decide,DC S c1 hd,6,(by decide:(0:Int)<16),Hl,λp4 r=>?_]
  have L:=HJ.upd (o:= .tup [V.int ((aF c d).sum%16)]) r
  refine#[D,p4,6,L _ _ e,qb,Hw,λN W Y l=>?_]
  have g:W N=↑(.tup ((aB c d).map V.int)):=l
  have j:=(O.trans L).trans Y;refine#[28,a,b,z,t,I,Z,G.same j,X.same j,hz,lt,λpk H6 y _ C=>?_]
  refine#[0,a,pk,N,t,jX t I z,aB c d,Z,(G.same j).same y,.tup C,.tup (y _ _ g),lt,by rw[dz];decide,by rw[dz];decide,λM H7 s7 _ u=>?_]
  refine#[Ht,λp U=>?_]
  have F:=HJ.upd (o:= .tup [V.str z,.int age,-M]) U
  exact q p M _ (((j.trans y).trans s7).trans F) qb (F _ _ u)
theorem lO(a:At K mg "read_press" bw ["table","key","press"])(T:MW K mg tk)(X:Df P w K mg base "key_of" V3 2 (jy K))(U:Df P w K mg base "decoded" X8 2 (ku K)):Df P w K mg base "read_press" V0 3 (oK K):=by
 refine a.dq MF λf _ A _ s H vs Q E C h=>?_
 .let#[a,b,M,W,z,age,t,m,ds,rfl,D,N,r,n,Y,pm,R,u,q]:=h
  exists _,(qd (za (qv 2) (zg Z (qh (qg (i:=3) MF.nd Z (Pr Z)) (qh (qg (i:=4) MF.nd Z (Pr Z)) (qh (qg (i:=5) MF.nd Z (Pr Z)) qK)))))
   (qd (za (qo U C.mo (qc (qv 0) (qc (qo X C.mo (qc (qv 0) (qc (qv 1) (qc (qv 3) qa)))) (qc (qv 5) qa)))) (cv Z (qh (qg (i:=6) MF.nd Z (Pr Z)) (qh (qg (i:=7) MF.nd Z (Pr Z)) (qh (qg (i:=8) MF.nd Z (Pr Z)) (qh (qg (i:=9) MF.nd Z (Pr Z)) (qh (qg (i:=10) MF.nd Z (Pr Z)) qK)))))))
   (qd (qB (qw ac (qv 10) (qr Qx (qr qM (qr qM (qr qM (qv 6) (qv 7)) (qv 8)) (qv 9)) (zm (v:= .int 16) Z T.g_DIGITS #[0])) (qq _)) (qe (qj qP)) qt)
   (qe (qj (qu (qc (qr qM (qr qM (qv 6) (qr ZQ (qv 7) (zm (v:= .int 16) Z T.g_DIGITS #[0]))) (qr ZQ (qv 8) qf)) (qc (qv 9) qa))))))))
  exists 0,M,0,r,7
  refine#[10,a,b,z,t,m,Z,D,N,Y,tH pm,λO H1 B _ o=>?_]
  refine#[0,a,O,W,t,jX t m z,ds,Z,D.same B,.tup o,n.same B,pm,u,by omega,by omega,λJ G I _ g=>?_]
  have F:∀x H',HJ G H'->fS H' x (mr (Zv (zI t) (jX t m z) ds))->Q x H':=λx H' s' S=>q x H' ((B.trans I).trans s') S
  have hl:(Zv (zI t) (jX t m z) ds).length=5:=by rw[iH,R]
  let#[lo,mi,hi,d,j,er]:=Cs hl;rw[er]at g F;exists J,0,HX.of g,42
  exists 24,(by decide:(0:Int)<16),8
  have l:∀x H',HJ G H'->fS H' x (if j=(lo+mi+hi+d)%16 then ↑(lo+mi*16+hi*256,d)else none)->Q x H':=F
  by_cases e:j=(lo+mi+hi+d)%16
  .rw[Jc e]at l
   refine aE (c:=V.int j=V.int ((lo+mi+hi+d)%16)) (by rw[e]) ?_
   refine#[16,.inr #[⋯,⋯],61,.inr #[⋯,⋯],14,Ho,λp L=>?_]
   exact l _ _ (HJ.upd L) #[p,Z,qb]
  .rw[Jb e]at l
   refine qZ (λ_=>l _ _ (HJ.refl _) Z) (λy=>absurd ?_ y)
   have:¬V.int j=V.int ((lo+mi+hi+d)%16):=λw'=>e (by injection w')
   show(! decide (V.int j=V.int ((lo+mi+hi+d)%16)))=true
   rw[Jn this];rfl
end
end Lw
namespace L3
open PySem PySem.Spec PyProof.Rows L2
def qG(a b:Int):Int:=if a<b then b else a
def QD(a b:Int):Int:=if b<a then b else a
def zS(D:Dr)(e:Kb)(D':Dr)(e':Kb):Int:=QD (e.last+D.far) (e'.last+D'.far)
noncomputable def Qt(lo hi:Int)(p:Int->Bool):Λ:=((Ag (hi-lo).toNat).map λi:Nat=>lo+(i:Int)).find? p
theorem nH{e:Kb}{c:Int}(h:c<=e.last):(qR D e age c).2=e:=by
 unfold qR zD;rw[Jc h];split<;>rfl
theorem ZS{lo:Int}{p:Int->Bool}{c:Int}(h:Qt lo hi p=↑c):lo<=c/\c<hi/\p c=true/\∀x,lo<=x->x<c->p x=false:=by
 unfold Qt at h;let#[h1,a,bs,e,l]:=List.find?_eq_some_iff_append.mp h
 have len:=J0 List.length e;rw[Je,E1,Jy,JR]at len;have m:c=lo+(a.length:Int):=by
  have z:((Ag (hi-lo).toNat).map λi:Nat=>lo+(i:Int))[a.length]? =↑c:=by rw[e];simp
  rw[Jo,LX (by lia)]at z
  exact(JE z).symm
 refine#[by lia,by lia,h1,λx j f=>?_]
 have g:x∈a:=by
  have d:(x-lo).toNat<a.length:=by lia
  have z:((Ag (hi-lo).toNat).map λi:Nat=>lo+(i:Int))[(x-lo).toNat]? =↑x:=by
   rw[Jo,LX (by lia)]
   show ↑(lo+((x-lo).toNat:Int))=↑x
   congr 1;lia
  rw[e,J3 d]at z;exact Ij z
 have:=l x g
 simpa using this
theorem i4{lo:Int}{p:Int->Bool}(h:Qt lo hi p=none):∀x,lo<=x->x<hi->p x=false:=by
 intro x h1 a
 have:=PY.mp h x (JC.mpr #[(x-lo).toNat,JT.mpr (by lia),by lia])
 simpa using this
theorem Ba{lo hi:Int}{p:Int->Bool}{c:Int}(h1:lo<=c)(h2:c<hi)(a:p c=true)(h:∀x,lo<=x->x<c->p x=false):Qt lo hi p=↑c:=by
 cases e:Qt lo hi p with
 |none=>rw[i4 e c h1 h2]at a;cases a
 |some d=>
  let#[i,j,f,g]:=ZS e;rcases Int.lt_trichotomy c d with z|z|z
  .rw[g c h1 z]at a;cases a
  .rw[z]
  .rw[h d i z]at f;cases f
theorem ym{lo hi:Int}{p:Int->Bool}(h:∀x,lo<=x->x<hi->p x=false):Qt lo hi p=none:=by
 cases e:Qt lo hi p with
 |none=>rfl
 |some d=>
  let#[f,c,a,g]:=ZS e;rw[h d f c]at a;cases a
section
variable(K:ι)(C:Δ)
inductive ir(vs:Ε)(H:Hp)(Q:VK)(_:XK):Prop
 |mk (p ta hk bd lg:Δ)(n:Nat)(D:Dr)(h1:vs=[-p])(h2:HL K C H p ta hk bd lg n D)(h3:Nw D)(h4:∀l (ss:Α) H',HJ H H'->ss.Perm (D.kn.map (·.1))->H' l=↑(.lst (ss.map V.str))->Q (-l) H')
inductive sP(vs:Ε)(H:Hp)(Q:VK)(_:XK):Prop
 |mk (p ta hk bd lg a:Δ)(n:Nat)(D:Dr)(e:Kb)(p' ta' hk' bd' lg' a':Δ)(n':Nat)(D':Dr)(e':Kb)(h1:vs=[-p,-a,-p',-a'])(h2:HL K C H p ta hk bd lg n D)(h3:Na H a e)(h4:HL K C H p' ta' hk' bd' lg' n' D')(h5:Na H a' e')(h6:∀H',HJ H H'->Q (.int (zS D e D' e')) H')
end
theorem jj{d:Type} [DecidableEq d]:∀{l m:List d},l.Nodup->(∀x∈l,x∈m)->l.length<=m.length
 | [],m,_,_=>JB _
 |x::l,m,hn,hs=>by
  let#[n1,n2]:=IG.mp hn;have c:=hs x (Jr ..);have g:=jj (l:=l) (m:=m.erase x) n2 (λy a=>(Pe (λe:y=x=>n1 (by rw[<- e];exact a))).mpr (hs y (Jv _ a)))
  have h1:=List.length_erase_of_mem c;have f:=List.length_pos_of_mem c;rw[JR];omega
structure Rr(t:Β)(kss:List Β)(D:Dr):Prop where
 ok:Nw D
 t:D.t=t
 ks:D.kss=kss
 rm:(D.kn.length:Int)<D.most
theorem ja{age c:Int}(h:Rr t kss D)(a:D.least<=age)(e:age<kss.length)(f:0<=c)(g:c<4096)(hd:bO d):fP D (QR t kss nm age c d)=↑(c,d):=by
 unfold fP Q2 QR;simp only
 rw[Jj a,h.ks,Jj e,Jc (show(true&&true)=true from Z),h.t,show QY D age=kss.getD age.toNat [] by unfold QY;rw[h.ks]]
 exact lj (h.t▸h.ok.tp) f g hd
theorem jr(D:Dr)(nm:Str)(age c:Int):(HP D nm age c).map (·.1)=D.kn.map (·.1):=by
 rcases dy (D:=D) (nm:=nm) (age:=age) (c:=c)with e|⟨e,d,f,a⟩
 .rw[e]
 .rw[a];exact uK d
theorem aD{D:Dr}{e:Kb}(d:(D.kn.map (·.1)).Nodup)(he:D.kn.lookup nm=↑e):(HP D nm age c).lookup nm=some (qR D e age c).2:=by
 unfold HP zu qR;rw[he];simp only
 by_cases a:qO D e age=true
 .rw[Jc a,Jc a]
  split
  .exact mR d
  .exact mR d
 .rw[Jb a,Jb a];exact he
theorem Nw.hearK(h:Nw D)(nm:Str)(age c:Int):Nw {D with kn:=L3.HP D nm age c}:=by
 have k:=jr D nm age c;have l:(L3.HP D nm age c).length=D.kn.length:=by have:=J0 List.length k;simpa using this
 exact#[h.tp,h.l0,h.kl,by show(L3.HP D nm age c).length<=60;rw[l];exact h.nl,by show((L3.HP D nm age c).map (·.1)).Nodup;rw[k];exact h.nd]
theorem yn(D:Dr)(kd a:Δ):L2.MX (ZE D kd) (Pt "known":qJ) (-a)=ZE D a:=by
 unfold L2.MX ZE;rw[Jc (by simp [J4])]
 have h1:¬((Pt ("near":Str):Sum Int Str)=Pt ("known":Str)):=by decide +kernel
 have d:¬((Pt ("far":Str):Sum Int Str)=Pt ("known":Str)):=by decide +kernel
 have c:¬((Pt ("keys":Str):Sum Int Str)=Pt ("known":Str)):=by decide +kernel
 have e:¬((Pt ("closed":Str):Sum Int Str)=Pt ("known":Str)):=by decide +kernel
 simp only[JS,Ln,Jb h1,Jb d,Jb c,Jb e,Io]
inductive nM(vs:Ε)(H:Hp)(Q:VK)(_:XK):Prop
 |mk (m kd:Δ)(D:Dr)(h1:vs=[-m])(h2:MJ H m kd D)(h3:∀m' kd' H',HJ H H'->H m'=none->H kd'=none->MJ H' m' kd' D->Q (-m') H')
noncomputable def Qh{a:Type}(lo:Int)(n:Nat)(f:Int->Option a):Option a:=((Ag n).map λi:Nat=>lo+(i:Int)).findSome? f
theorem cG{a d:Type}{l:List a}{f:a->Option d}(h:∀x∈l,f x=none):l.findSome? f=none:=by
 induction l with
 |nil=>rfl
 |cons x r ih=>rw[KC,h x Jr];exact ih λy c=>h y (Jv _ c)
theorem cE{c d:Type}{l:List c}{f:c->Option d}{i:Nat}{x:c}{y:d}(hx:l[i]? =↑x)(g:f x=↑y)(h:∀j z,j<i->l[j]? =↑z->f z=none):l.findSome? f=↑y:=by
 induction l generalizing i with
 |nil=>cases hx
 |cons a r ih=>
  rw[KC];cases i with
  |zero=>cases hx;rw[g]
  |succ i=>
   rw[h 0 a (K2 _) Z];exact ih hx λj z m e=>h (j+1) z (by lia) e
theorem iq{a d:Type}{l:List a}{f g:a->Option d}(h:∀x∈l,f x=g x):l.findSome? f=l.findSome? g:=by
 induction l with
 |nil=>rfl
 |cons x r ih=>rw[KC,KC,h x Jr,ih λy c=>h y (Jv _ c)]
theorem lf{c g:Type}{l:List c}{f:c->Option g}(p:c->Bool)(h:∀x∈l,p x=false->f x=none):(l.filter p).findSome? f=l.findSome? f:=by
 induction l with
 |nil=>rfl
 |cons x r a=>
  have a:=a λy d=>h y (Jv _ d)
  rw[Kd,KC];cases e:p x with
  |true=>rw[Jc Z,KC,a]
  |false=>rw[Jb ⋯,h x Jr e];exact a
theorem cC{lo x:Int}(h:x∈(Ag n).map λi:Nat=>lo+(i:Int)):lo<=x/\x<lo+n:=by
 let#[i,hi,rfl]:=JC.mp h
 have:=JT.mp hi
 lia
theorem zA{c:Type}{lo:Int}{n:Nat}{f:Int->Option c}(h:∀x,lo<=x->x<lo+n->f x=none):Qh lo n f=none:=cG λx a=>h x (cC a).1 (cC a).2
theorem QN{c:Type}{lo:Int}{n i:Nat}{f:Int->Option c}{y:c}(hi:i<n)(d:f (lo+(i:Int))=↑y)(h:∀x,lo<=x->x<lo+i->f x=none):Qh lo n f=↑y:=by
 refine cE (i:=i) (x:=lo+(i:Int)) (by rw[Jo,LX hi];rfl) d λj z e a=>?_
 rw[Jo,LX (by lia)]at a
 cases a;exact h _ (show lo<=lo+(j:Int) by lia) (show lo+(j:Int)<lo+(i:Int) by lia)
theorem af{c:Type}{lo:Int}{n:Nat}{f g:Int->Option c}(h:∀x,lo<=x->x<lo+n->f x=g x):Qh lo n f=Qh lo n g:=iq λx a=>h x (cC a).1 (cC a).2
noncomputable def qC(S:List (Int×Int)):Β:=S.flatMap λp=>(Ag (p.2+1-p.1).toNat).map λi:Nat=>p.1+(i:Int)
theorem ii(S:List (Int×Int))(n:Int):n∈qC S↔QU n S=true:=by
 unfold qC QU;rw[List.mem_flatMap,Mm];refine exists_congr λp=>and_congr_right λ_=>?_
 rw[JF,decide_eq_true_eq,decide_eq_true_eq,JC];constructor
 .rintro⟨i,hi,rfl⟩
  have:=JT.mp hi
  lia
 .rintro⟨h1,a⟩
  exact#[(n-p.1).toNat,JT.mpr (by lia),by lia]
structure NF(S:List (Int×Int)):Prop where
 two:Rz S
 bd:∀p∈S,0<=p.1/\p.1<=p.2/\p.2<=4095/\p.2-p.1<=63
 cnt:(qC S).length<=66
theorem NF.nil:NF []:=#[.nil,(λp h=>nomatch h),JB _]
theorem nX{x y:Int}(h:y-x<=63):(qC [(x,y)]).length<=64:=by
 unfold qC;rw[KF,KL,Ic,Je,E1]
 show(y+1-x).toNat<=64
 lia
theorem AJ{x y z:Int}(h:y-x<=63):(qC [(x,y),(z,z)]).length<=66:=by
 have e:qC [(x,y),(z,z)]=qC [(x,y)]++qC [(z,z)]:=by unfold qC;rw[<- KO];rfl
 have h1:=nX h;have a:(qC [(z,z)]).length<=1:=by
  unfold qC;rw[KF,KL,Ic,Je,E1]
  show(z+1-z).toNat<=1
  lia
 rw[e,Jy];lia
theorem NF.out(h:NF S){n:Int}(hn:n<0\/4096<=n):QU n S=false:=by
 unfold QU;rw[OC];intro p a z;rw[JF,decide_eq_true_eq,decide_eq_true_eq]at z
 have:=h.bd p a
 lia
def PD(S c:List (Int×Int)):Prop:=∀a:Β,a.Nodup->(∀k,k∈a↔¬(k∈qC S↔k∈qC c))->a.length<64
theorem PD.few(h:(qC S).length+(qC c).length<64):PD S c:=λe d a=>by
 have:e.length<=(qC S++qC c).length:=jj d λk hk=>by
  have hk:=(a k).mp hk;rw[JP]
  by_cases z:k∈qC S
  .exact .inl z
  .exact .inr (Pu λy=>hk #[λq=>absurd q z,λq=>absurd q y])
 rw[Jy]at this;lia
theorem FY(h:NF S)(h':NF c)(he:∀n,QU n S=QU n c):S=c:=by
 have d:∀k:Nat,ZW (k:Int) S=ZW (k:Int) c:=λk=>by
  induction k with
  |zero=>
   show ZW 0 S=ZW 0 c
   rw[kE λp a=>(h.bd p a).1,kE λp a=>(h'.bd p a).1]
  |succ k ih=>
   have e:((k+1:Nat):Int)=(k:Int)+1:=by lia
   rw[e,li h.two,li h'.two,he,ih]
 have:=d 4096
 rw[oA λp a=>#[(h.bd p a).2.1,by have:=(h.bd p a).2.2.1;lia],oA λp a=>#[(h'.bd p a).2.1,by have:=(h'.bd p a).2.2.1;lia]]at this
 exact this
def Q8(S a:List (Int×Int))(n:Int):Bool:=decide (QU n S≠QU n a)
def Qb(S a:List (Int×Int)):Int:=(Qt 0 4096 (Q8 S a)).getD 0
theorem uW(S a:List (Int×Int)):Q8 S a=Q8 a S:=by
 funext n
 exact decide_eq_decide.mpr #[Ne.symm,Ne.symm]
theorem vk(S a:List (Int×Int)):Qb S a=Qb a S:=by unfold Qb;rw[uW]
theorem eQ(h:NF S)(h':NF a)(ne:S≠a):Qt 0 4096 (Q8 S a)=↑(Qb S a):=by
 cases e:Qt 0 4096 (Q8 S a)with
 |some c=>unfold Qb;rw[e];rfl
 |none=>
  refine absurd (FY h h' λn=>?_) ne
  by_cases d:n<0\/4096<=n
  .rw[h.out d,h'.out d]
  .have:=of_decide_eq_false (i4 e n (by lia) (by lia))
   exact SX.mp this
theorem uj{ms:Β}(h:NF S)(h':NF a)(hm:∀k,k∈ms↔¬(k∈qC S↔k∈qC a))(hp:ms.Pairwise (· <= ·))(ne:S≠a):ms[0]? =↑(Qb S a):=by
 let#[o,n,f,g]:=ZS (eQ h h' ne)
 have c:∀k,k∈ms↔Q8 S a k=true:=λk=>by
  rw[hm,ii,ii];unfold Q8;rw[decide_eq_true_eq];exact not_congr Iu.symm
 cases ms with
 |nil=>exact absurd ((c _).mpr f) Jt
 |cons x r=>
  have d:=(c x).mp Jr;have i:Qb S a∈x::r:=(c _).mpr f
  have l:x<=Qb S a:=by
   rcases Jg.mp i with e|e
   .rw[e];exact GZ _
   .exact(KN.mp hp).1 _ e
  have j:¬x<Qb S a:=λz=>by
   have m:0<=x:=by
    refine Int.not_lt.mp λy=>?_
    have:=Jz d
    rw[h.out (.inl y),h'.out (.inl y)]at this;exact this Z
   rw[g x m z]at d;cases d
  show ↑x=_
  congr 1
  lia
noncomputable def zn(D:Dr)(age:Int)(o:Ο):List (Int×Int):=match o with
 |none=>[]
 |some e=>zw D e age
noncomputable def QK(D:Dr)(o:Ο)(D':Dr)(o':Ο):Option (Int×Int):=Qh 0 D.kss.length λa=>if zn D a o=zn D' a o' then none else ↑(a,Qb (zn D a o) (zn D' a o'))
theorem sX{D D':Dr}(hk:D.kss.length=D'.kss.length)(o o':Ο):QK D o D' o'=QK D' o' D o:=by
 unfold QK;rw[hk];refine af λa _ _=>?_
 by_cases z:zn D a o=zn D' a o'
 .rw[Jc z,Jc z.symm]
 .rw[Jb z,Jb (Ne.symm z),vk]
theorem aV(h:QK D o D' o'=none){a:Int}(a0:0<=a)(c:a<D.kss.length):zn D a o=zn D' a o':=by
 unfold QK Qh at h
 have:=K8.mp h a (JC.mpr #[a.toNat,JT.mpr (by lia),by lia])
 by_cases z:zn D a o=zn D' a o'
 .exact z
 .rw[Jb z]at this;cases this
structure MQ(D:Dr):Prop where
 n0:1<=D.near
 n1:D.near<=64
 nf:D.near<=D.far
 f1:D.far<=1024
 l0:0<=D.least
 lk:D.least<D.kss.length
def bj(D:Dr):Ο->Prop
 |none=>True
 |some e=>MS D e
theorem gs(d:MQ D)(k:MS D e)(age:Int):NF (zw D e age):=by
 have j:=d.n0;have n1:=d.n1;have l:=k.l0;have m:=k.l1;unfold zw
 by_cases f:qO D e age=true
 case neg=>rw[Jb f];exact NF.nil
 rw[Jc f]
 by_cases h1:e.last+1<4096
 .rw[Jc h1]
  have g:(if 4095<e.last+D.near then 4095 else e.last+D.near)-(e.last+1)<=63:=by split<;>lia
  have one:NF [(e.last+1,if 4095<e.last+D.near then 4095 else e.last+D.near)]:=#[.one _ _ (by split<;>lia),λp a=>by rw[Ji.mp a];simp only;split<;>lia,JN (nX g) ⋯]
  cases ew:e.wt with
  |none=>exact one
  |some xw=>
   let#[x,w]:=xw;have h:=k.w x w ew;simp only
   by_cases c:x=age/\w+1<=(if 4095<e.last+D.far then 4095 else e.last+D.far)
   .rw[Jc c]
    have i:=c.2;refine#[.two _ _ _ (by split<;>lia) (by split<;>lia),λp a=>?_,AJ g]
    rcases Jg.mp a with rfl|a
    .exact one.bd _ Jr
    .rw[Ji.mp a];simp only;split at i<;>lia
   .rw[Jb c,Ic];exact one
 .rw[Jb h1]
  cases ew:e.wt with
  |none=>exact NF.nil
  |some xw=>
   let#[x,w]:=xw;have h:=k.w x w ew;simp only
   rw[Jb (λz=>by have:=z.2;split at this<;>lia)]
   exact NF.nil
theorem aN(d:MQ D)(k:bj D o)(age:Int):NF (zn D age o):=by
 cases o with
 |none=>exact NF.nil
 |some e=>exact gs d k age
theorem Z2{c:Int}(d:MQ D)(k:MS D e)(f:0<=c)(g:c<4096):MS D (qR D e age c).2:=by
 unfold qR
 by_cases a:qO D e age=true
 .rw[Jc a];exact mW k (c8 a) (ZG a d.l0).2 f g
 .rw[Jb a];exact k
theorem Bi{D:Dr}(n1:D.near<=13)(age:Int):(qC (zw D e age)).length<=28:=by
 have one:∀{x y:Int},y-x<=13->((Ag (y+1-x).toNat).map λi:Nat=>x+(i:Int)).length<=14:=λ{x y} h=>by
  rw[Je,E1];lia
 have a:∀A B:List (Int×Int),qC (A++B)=qC A++qC B:=λA B=>by unfold qC;rw[KO]
 unfold zw;split
 .rw[a,Jy]
  have h1:(qC (if e.last+1<4096 then [(e.last+1,if 4095<e.last+D.near then 4095 else e.last+D.near)]else [])).length<=14:=by
   split
   .unfold qC
    rw[KF,KL,Ic];exact one (by split<;>lia)
   .exact JB _
  have c:∀(p:Prop) [Decidable p] (z:Int),(qC (if p then [(z,z)]else [])).length<=14:=λp _ z=>by
   split
   .unfold qC
    rw[KF,KL,Ic];exact one (by lia)
   .exact JB _
  cases e.wt with
  |none=>exact JN h1 ⋯
  |some xw=>exact JN (Nat.add_le_add h1 (c _ _)) (by decide:14+14<=28)
 .exact JB _
def Rt(D:Dr)(o:Ο)(D':Dr)(o':Ο):Prop:=∀a,PD (zn D a o) (zn D' a o')
theorem Rt.narrow{D D':Dr}{o':Ο}(h:D.near<=13)(h':D'.near<=13):Rt D o D' o':=λa=>PD.few (by
 have c:∀{D:Dr} {o:Ο},D.near<=13->(qC (zn D a o)).length<=28:=λ{D o} h=>by
  cases o with
  |none=>exact JB _
  |some e=>exact Bi h a
 have:=c (o:=o) h
 have:=c (o:=o') h'
 lia)
noncomputable def aa(D:Dr)(o:Ο)(D':Dr)(o':Ο):Option ((Int×Int)×Int×Int):=match o,o' with
 |some e,↑e'=>Qh (zS D e D' e') (QD (zS D e D' e'+2) 4096-zS D e D' e').toNat λc=>(QK D (some (qR D e (qG e.age D.least) c).2) D' (some (qR D' e' (qG e.age D.least) c).2)).map λp=>((qG e.age D.least,c),p)
 |_,_=>none
theorem Z6(d:MQ D)(k:MS D e)(h1:e.last+1<4096):zw D e a≠[]↔qG e.age D.least<=a/\a<D.kss.length:=by
 unfold zw
 by_cases c:qO D e a=true
 .rw[Jc c,Jc h1]
  refine#[λ_=>?_,λ_ z=>by cases z]
  have h:=c8 c;have j:=(ZG c d.l0).2;unfold qO Q2 at c;rw[JF,JF]at c;have i:=Jz c.1.1;unfold qG;split<;>lia
 .rw[Jb c]
  refine#[λz=>absurd Z z,λ⟨f,g⟩=>absurd ?_ c]
  unfold qO Q2
  have:e.age<=a/\D.least<=a:=by unfold qG at f;split at f<;>lia
  rw[Jj this.2,Jj g,Jj this.1];rfl
theorem iI(d:MQ D)(k:MS D e)(h1:¬e.last+1<4096)(a:Int):zw D e a=[]:=by
 have g:=d.n0;unfold zw
 by_cases c:qO D e a=true
 .rw[Jc c,Jb h1]
  cases ew:e.wt with
  |none=>rfl
  |some xw=>
   let#[x,w]:=xw;have f:=k.w x w ew;simp only
   rw[Jb (λz=>by have:=z.2;split at this<;>lia)];rfl
 .rw[Jb c]
def Gi(D:Dr)(o:Ο)(D':Dr)(o':Ο):Prop:=Rt D o D' o'/\∀e e',o=↑e->o'=↑e'->∀c,zS D e D' e'<=c->c<4096->Rt D (some (qR D e (qG e.age D.least) c).2) D' (some (qR D' e' (qG e.age D.least) c).2)
def Ra(D D':Dr):Prop:=∀nm,Gi D (D.kn.lookup nm) D' (D'.kn.lookup nm)
theorem Ra.narrow{D D':Dr}(h:D.near<=13)(h':D'.near<=13):Ra D D':=λnm=>#[Rt.narrow h h',λ_ _ _ _ _ _ _=>Rt.narrow h h']
abbrev zi:=List (Str×Int×Int)
noncomputable def Ql(D D':Dr)(nm:Str):Option zi:=(QK D (D.kn.lookup nm) D' (D'.kn.lookup nm)).map λp=>[(nm,p.1,p.2)]
noncomputable def Zu(D D':Dr)(nm:Str):Option zi:=(aa D (D.kn.lookup nm) D' (D'.kn.lookup nm)).map λp=>[(nm,p.1.1,p.1.2),(nm,p.2.1,p.2.2)]
noncomputable def zE(D D':Dr)(ns:Α):Option zi:=match ns.findSome? (Ql D D')with
 |some r=>↑r
 |none=>ns.findSome? (Zu D D')
def pJ(D:Dr):Prop:=∀nm,bj D (D.kn.lookup nm)
theorem BE{ns:Α}{r:zi}(no:ns.findSome? (Ql D D')=none)(h:zE D D' ns=↑r):r.length=2:=by
 unfold zE at h;rw[no]at h;let#[nm,_,e]:=KG h
 unfold Zu at e;let#[p,_,rfl]:=JO.mp e;rfl
theorem uN{ns ms:Α}(h1:ns.Nodup)(h2:ms.Nodup)(c:sortedS ns=true)(a:sortedS ms=true)(h:∀k,k∈ns↔k∈ms):ns=ms:=
 hU ((Ph h1 h2).mpr h) c (RP _) a
def Qi(D:Dr)(nm:Str)(a c:Int):Bool:=decide (qE D nm a c="open")
noncomputable def mZ(D D':Dr)(lo:Int)(n:Nat)(nm:Str)(a:Int):Option zi:=Qh lo n λc=>if Qi D nm a c=Qi D' nm a c then none else some [(nm,a,c)]
noncomputable def Qc(D D':Dr)(c:Nat)(lo:Int)(n:Nat)(nm:Str):Option zi:=Qh 0 c λa=>mZ D D' lo n nm a
theorem DN{c d:Type}(lo:Int)(n:Nat)(f:Int->Option c)(g:c->d):(Qh lo n f).map g=Qh lo n λa=>(f a).map g:=by
 unfold Qh
 induction ((Ag n).map λi:Nat=>lo+(i:Int))with
 |nil=>rfl
 |cons x r ih=>
  rw[KC,KC];cases e:f x with
  |some y=>rfl
  |none=>exact ih
theorem yo{a:Type}(lo:Int)(n:Nat)(p:Int->Bool)(g:Int->a):(Qh lo n λc=>if p c=true then ↑(g c)else none)=(Qt lo (lo+n) p).map g:=by
 unfold Qh Qt;rw[show(lo+(n:Int)-lo).toNat=n by lia]
 induction ((Ag n).map λi:Nat=>lo+(i:Int))with
 |nil=>rfl
 |cons x r ih=>
  rw[KC,Lx];cases e:p x with
  |true=>rfl
  |false=>exact ih
theorem PR.same(h:PR H v o)(s:HJ H H'):PR H' v o:=by
 cases o with
 |none=>exact h
 |some e=>let#[a,c,h1]:=h;exact#[a,c,h1.same s]
theorem RX{D:Dr}{Q:VK}(h:∀v,PR H v (D.kn.lookup nm)->Q v H):(D.kn.lookup nm=none->Q .non H)/\(∀e a,D.kn.lookup nm=↑e->Na H a e->Q (-a) H):=
 #[λe=>h _ (by rw[e];rfl),λe a c h1=>h _ (by rw[c];exact#[a,Z,h1])]
theorem kC{S:List (Int×Int)}{i:Nat}{z:Int×Int}(h:S[i]? =↑z):qC (S.take (i+1))=qC (S.take i)++(Ag (z.2+1-z.1).toNat).map λk:Nat=>z.1+(k:Int):=by
 unfold qC;rw[Ie,h,KO]
 show _++List.flatMap _ [z]=_
 rw[KF,KL,Ic]
noncomputable def N4(H:Hp)(v:V):Option zi->Prop
 |none=>v= .non
 |some r=>∃(t:Δ) (as:Η),v= .ref t/\H t=↑(.tup (as.map V.ref))/\as.length=r.length/\∀(i:Nat) (a:Δ) (z:Str×Int×Int),as[i]? =↑a->r[i]? =↑z->H a=↑(.tup [.str z.1,.int z.2.1,.int z.2.2])
theorem N4.same(h:N4 H v o)(s:HJ H H'):N4 H' v o:=by
 cases o with
 |none=>exact h
 |some r=>
  let#[t,j,e,h1,c,g]:=h
  exact#[t,j,e,s _ _ h1,c,λi a z f d=>s _ _ (g i a z f d)]
theorem N4.eqk{K:ι}(h:N4 H v o)(g:N4 H u o):P0 K H 2 v u:=by
 cases o with
 |none=>
  have h:v= .non:=h
  have g:u= .non:=g
  rw[h,g];exact .non 2
 |some r=>
  let#[t,w,rfl,h1,e,p]:=h;let#[s,bs,rfl,q,f,m]:=g;refine .tup (HX.of h1) (HX.of q) (by rw[Je,Je,e,f]) λi x y ex c=>?_
  rw[Jo]at ex c;let#[a,d,rfl]:=JO.mp ex;let#[b,l,rfl]:=JO.mp c;have hi:i<r.length:=by rw[<- e];exact(Jw.mp d).1
  refine .tup (n:=0) (HX.of (p i a _ d (Jh hi))) (HX.of (m i b _ l (Jh hi))) Z λj x y ex c=>?_
  match j,ex,c with
  |0,ex,c=>cases ex;cases c;exact .str _ _
  |1,ex,c=>cases ex;cases c;exact .int _ _
  |2,ex,c=>cases ex;cases c;exact .int _ _
  |j+3,ex,c=>cases ex
theorem N4.eqw(h:N4 H v o)(g:N4 H u o)(hl:∀r,o=↑r->r.length<=2):OJ H 2 v u:=by
 cases o with
 |none=>
  have h:v= .non:=h
  have g:u= .non:=g
  rw[h,g];exact .non 2
 |some r=>
  let#[t,w,rfl,h1,d,p]:=h;let#[s,bs,rfl,q,f,m]:=g
  have:=hl r Z
  refine .tup (Rd.of h1) (Rd.of q) (by rw[Je,Je,d,f]) (by rw[Je,d,JD];lia) λi x y ex c=>?_
  rw[Jo]at ex c;let#[a,e,rfl]:=JO.mp ex;let#[b,l,rfl]:=JO.mp c;have hi:i<r.length:=by rw[<- d];exact(Jw.mp e).1
  refine .tup (n:=0) (Rd.of (p i a _ e (Jh hi))) (Rd.of (m i b _ l (Jh hi))) Z (by show 3<=ζ;decide) λj x y ex c=>?_
  match j,ex,c with
  |0,ex,c=>cases ex;cases c;exact .str _ _
  |1,ex,c=>cases ex;cases c;exact .int _ _
  |2,ex,c=>cases ex;cases c;exact .int _ _
  |j+3,ex,c=>cases ex
theorem N4.one{H:Hp}{z:Str×Int×Int}(h:H t=↑(.tup [-a]))(h1:H a=↑(.tup [.str z.1,.int z.2.1,.int z.2.2])):N4 H (-t) (some [z]):=by
 refine#[t,[a],Z,h,Z,λi b y c d=>?_]
 cases i with
 |zero=>cases c;cases d;exact h1
 |succ i=>cases c
noncomputable def GU(H:Hp)(v:V):Option ((Int×Int)×Int×Int)->Prop
 |none=>v= .non
 |some p=>∃(t x y:Δ),v= .ref t/\H t=↑(.tup [-x,-y])/\H x=↑(.tup [.int p.1.1,.int p.1.2])/\H y=↑(.tup [.int p.2.1,.int p.2.2])
section
variable(K:ι)(C:Δ)
inductive oM(vs:Ε)(H:Hp)(Q:VK)(_:XK):Prop
 |mk (t:Δ)(S:List (Int×Int))(h1:vs=[-t])(h2:Oe H t S)(h3:NF S)(h4:∀l H',HJ H H'->H' l=↑(.lst ((qC S).map V.int))->Q (-l) H')
inductive tI(vs:Ε)(H:Hp)(Q:VK)(_:XK):Prop
 |mk (t t':Δ)(S S':List (Int×Int))(h1:vs=[-t,-t'])(h2:Oe H t S)(h3:Oe H t' S')(h4:NF S)(h5:NF S')(h6:S≠S')(h7:PD S S')(h8:∀H',HJ H H'->Q (.int (Qb S S')) H')
inductive Ar(vs:Ε)(H:Hp)(Q:VK)(_:XK):Prop
 |mk (p ta hk bd lg:Δ)(n:Nat)(D:Dr)(v:V)(o:Ο)(p' ta' hk' bd' lg':Δ)(n':Nat)(D':Dr)(v':V)(o':Ο)(h1:vs=[-p,v,-p',v'])(h2:HL K C H p ta hk bd lg n D)(h3:PR H v o)(h4:HL K C H p' ta' hk' bd' lg' n' D')(h5:PR H v' o')(h6:MQ D)(h7:MQ D')(h8:bj D o)(h9:bj D' o')(h10:D.kss.length<=8)(h11:Rt D o D' o')(h12:∀u H',HJ H H'->P9 H' u (QK D o D' o')->Q u H')
inductive wM(vs:Ε)(H:Hp)(Q:VK)(_:XK):Prop
 |mk (p ta hk bd lg:Δ)(n:Nat)(D:Dr)(v:V)(o:Ο)(p' ta' hk' bd' lg':Δ)(n':Nat)(D':Dr)(v':V)(o':Ο)(h1:vs=[-p,v,-p',v'])(h2:HL K C H p ta hk bd lg n D)(h3:PR H v o)(h4:HL K C H p' ta' hk' bd' lg' n' D')(h5:PR H v' o')(h6:MQ D)(h7:MQ D')(h8:bj D o)(h9:bj D' o')(h10:D.kss.length<=8)(h11:Gi D o D' o')(h12:∀u H',HJ H H'->GU H' u (aa D o D' o')->Q u H')
structure OZ(D:Dr):Prop where
 ok:Nw D
 dn:MQ D
 kn:pJ D
 few:D.kn.length<=30
inductive jp(vs:Ε)(H:Hp)(Q:VK)(_:XK):Prop
 |mk (p ta hk bd lg:Δ)(n:Nat)(D:Dr)(p' ta' hk' bd' lg':Δ)(n':Nat)(D':Dr)(h1:vs=[-p,-p'])(h2:HL K C H p ta hk bd lg n D)(h3:HL K C H p' ta' hk' bd' lg' n' D')(h4:OZ D)(h5:OZ D')(h6:Ra D D')(h7:∀u ns H',HJ H H'->ns.Nodup->(∀k,k∈ns↔k∈D.kn.map (·.1)\/k∈D'.kn.map (·.1))->sortedS ns=true->N4 H' u (zE D D' ns)->Q u H')
inductive sW(vs:Ε)(H:Hp)(Q:VK)(_:XK):Prop
 |mk (p ta hk bd lg:Δ)(n:Nat)(D:Dr)(p' ta' hk' bd' lg':Δ)(n':Nat)(D':Dr)(h1:vs=[-p,-p'])(h2:HL K C H p ta hk bd lg n D)(h3:HL K C H p' ta' hk' bd' lg' n' D')(h4:OZ D)(h5:OZ D')(h6:Ra D D')(h7:∀ns H',HJ H H'->ns.Nodup->(∀k,k∈ns↔k∈D.kn.map (·.1)\/k∈D'.kn.map (·.1))->sortedS ns=true->Q (.bl (zE D D' ns).isNone) H')
end
inductive DS(K:ι)(C:Δ)(vs:Ε)(H:Hp)(Q:VK)(_:XK):Prop
 |mk (p ta hk bd lg:Δ)(n:Nat)(D:Dr)(nm:Str)(h1:vs=[-p,.str nm])(h2:HL K C H p ta hk bd lg n D)(h3:∀v,PR H v (D.kn.lookup nm)->Q v H)
theorem Mf.ofO{K:ι}(a:Mf P w K mg base C "button_of" X6 1 (gw K C)):Mf P w K mg base C "button_of" X6 1 (DS K C):=
 a.weak λvs H Q E ⟨p,ta,hk,bd,lg,n,D,nm,e,b,q⟩=>#[p,ta,hk,bd,lg,n,D,nm,e,b,(L3.RX q).1,(L3.RX q).2]
end L3
namespace Lw
open PySem L2 L3
section
variable{K:ι}{tk:Nat->Tok}
theorem iW(a:At K mg "stretches_of" ZZ ["door","button","age"])(T:MW K mg tk)(U:ND K C)(dC:Mf P w K mg base C "takes_from" W1 2 (cQ K C))(dE:Mf P w K mg base C "bounds_told" W8 1 (fZ K C)):Df P w K mg base "stretches_of" V1 3 (ua K C):=by
 refine a.dq ME λf _ A _ s H vs Q E hr h=>?_
 .let#[p,ta,hk,bd,lg,n,D,v,o,age,rfl,b,O,q]:=h
  exists _,(qd (qB (QW.pt (Qd (qw zW (qv 1) qP (qq _)) (zP (Qk (zk (zb dC U.cl hr.mo (qv 0) (qc (qv 1) (qc (qv 2) qa)))))))) (qe (qj (qu qa))) qt)
   (qd (za (Zz dE U.cl hr.mo (qv 0)) (zg Z (qh (qg (i:=3) ME.nd Z (Pr Z)) (qh (qg (i:=4) ME.nd Z (Pr Z)) (qh (qg (i:=5) ME.nd Z (Pr Z)) qK)))))
   (qd (za (qv 1) (zg Z (qh (qg (i:=6) ME.nd Z (Pr Z)) (qh (qg (i:=7) ME.nd Z (Pr Z)) (qh (qg (i:=8) ME.nd Z (Pr Z)) qK)))))
   (qd (qA (i:=9) ME.nd Z (Pr Z) (q9 qa))
   (qd (qB (qw bF (qr qM (qv 7) qf) (zm (v:= .int 4096) Z T.g_COUNTS #[0]) (qq _)) (qe (zc (Q0 Il IJ IK zV (qv 9) (qc (qu (qc (qr qM (qv 7) qf) (qc (qk (Zb Z) T.b_min RL (qc (qr qM (qv 7) (qv 3)) (qc (qr Qy (zm (v:= .int 4096) Z T.g_COUNTS #[0]) qf) qa))) qa))) qa)))) qt)
   (qd (qB (QW.pt (bm (qw Z7 (qv 8) qP (qq _)) (aM (qw zt (qx qN (qv 8) qf) (qv 2) (qq _))))) (qd (qA (i:=10) ME.nd Z (Pr Z) (qr qM (qx qN (qv 8) qf) qf))
   (qe (qB (qw ae (qv 10) (qk (Zb Z) T.b_min RL (qc (qr qM (qv 7) (qv 4)) (qc (qr Qy (zm (v:= .int 4096) Z T.g_COUNTS #[0]) qf) qa))) (qq _)) (qe (zc (Q0 Il IJ IK zV (qv 9) (qc (qu (qc (qv 10) (qc (qv 10) qa))) qa)))) qt))) qt)
   (qe (qj (qI zp T.b_tuple JL (qc (qv 9) qa))))))))))
  have j:(∀t H',HJ H H'->Oe H' t []->Q (-t) H')->∀t,H t=none->Q (-t) (HM H t (.tup [])):=λq t G=>q t _ (HJ.upd G) #[[],qb,Z,λi a z h=>by cases h]
  cases o with
  |none=>
   have O:v= .non:=O
   subst O
   exact#[3,Qp (Jj Z) (zo #[Hh,j q])]
  |some e=>
  let#[x,rfl,X,hx,hw]:=O;refine#[3,qZ (λy=>nomatch (Jz y)) (λ_=>?_)]
  exists 0,p,Z,b.no,2,p,ta,hk,bd,lg,x,n,D,e,age,Z,b,#[X,hx,hw],0
  have q:∀t H',HJ H H'->Oe H' t (zw D e age)->Q (-t) H':=q
  unfold zw at q;cases G:qO D e age with
  |false=>
   rw[Jb (by rw[G];intro z;cases z)]at q
   exact zo #[Hh,j q]
  |true=>
  rw[Jc G]at q;let#[L,W]:∃L:List (Int×Int),(if e.last+1<4096 then [(e.last+1,if 4095<e.last+D.near then 4095 else e.last+D.near)]else [])=L:=#[0]
  rw[W]at q;have hA:L.length<=1:=by rw[<- W];split<;>simp
  refine zh ?_
  refine#[0,p,Z,b.no,p,ta,hk,bd,lg,n,D,Z,b,λt1 H1 Y a1=>#[t1,0,.tup a1,7,?_]]
  exists 0,x,0,.tup (Y _ _ hx),7
  refine#[Hh,λI M=>?_]
  have u2:=HJ.upd (o:= .lst []) M
  have u:=QV M Y;refine QL (λF H'=>HJ H H'/\Ry H' I L/\F=[↑(-p),↑(-x),↑(.int age),↑(.int D.near),↑(.int D.far),↑(.int D.most),↑(.int e.age),↑(.int e.last),↑X,↑(-I),none]) (λD' a3 d=>?_) ?_
  .exists 54
   by_cases h1:e.last+1<4096
   .refine Qp (Jj h1) ?_
    refine#[0,.inl #[43,HQ.of qb],33,Ho,λy B=>#[I,6,(HJ.upd B) _ _ qb,by show 0<ζ;decide,d _ _ #[?_,?_,Z]]]
    .exactλc o e=>by rw[qp (qm e u)];exact HJ.upd B _ _ (u2 _ _ (Y _ _ e))
    .rw[<- W,Jc h1]
     exact Ry.add (as:=[]) (zs:=[]) ((HJ.upd B) _ _ qb) Z (λi a z h=>by cases h) qb
   .refine QF (Jn h1) (d _ _ #[Y.trans u2,?_,Z])
    rw[<- W,Jb h1]
    exact#[[],qb,Z,λi a z h=>by cases h]
  rintro _ H3 ⟨N,m,rfl⟩
  refine C5 (λF H'=>HJ H H'/\Ry H' I (L++(match e.wt with
   |none=>[]
   |some (x,w)=>if x=age/\w+1<=(if 4095<e.last+D.far then 4095 else e.last+D.far)then [(w+1,w+1)]else []))/\∃o,F=[↑(-p),↑(-x),↑(.int age),↑(.int D.near),↑(.int D.far),↑(.int D.most),↑(.int e.age),↑(.int e.last),↑X,↑(-I),o]) (λD' a3 d=>?_) ?_
  .have l:=hw.same N
   cases ew:e.wt with
   |none=>
    rw[ew]at l;have a2:X= .non:=l
    subst a2;simp only
    exact#[3,QF Z (zh (d _ _ #[N,by rw[ew];simp only;rw[Ic];exact m,0]))]
   |some xw=>
   let#[x',w']:=xw;rw[ew]at l;let#[wa,rfl,J]:=l;simp only
   refine#[3,Qp Z ?_]
   exists 0,wa,1,HX.of J,Z,_,Z,Z,_,Z
   by_cases S:x'=age
   case neg=>
    refine QF (Jn (by intro z;injection z with z;exact S z)) (d _ _ #[N,?_,0])
    rw[ew];simp only
    rw[Jb (λz=>S z.1),Ic];exact m
   refine Qp (Jj (by rw[S])) ?_
   exists 0,wa,1,HX.of J,25
   exists 29
   by_cases R:w'+1<=(if 4095<e.last+D.far then 4095 else e.last+D.far)
   .refine Qp (Jj R) ?_
    let#[as,g,r,has]:=m;refine#[0,.inl #[43,HQ.of g],2,Ho,λy B=>#[I,6,(HJ.upd B) _ _ g,by rw[Je,r,JD];omega,d _ _ #[?_,?_,0]]]
    .exactλc o e=>by rw[qp (qm e u)];exact HJ.upd B _ _ (N _ _ e)
    .rw[ew];simp only
     rw[Jc #[S,R]];exact Ry.add ((HJ.upd B) _ _ g) r (λi a z e1 e2=>HJ.upd B _ _ (has i a z e1 e2)) qb
   .refine QF (Jn R) (d _ _ #[N,?_,0])
    rw[ew];simp only
    rw[Jb (λz=>R z.2),Ic];exact m
  rintro _ H4 ⟨s4,⟨as,g,r,has⟩,o,rfl⟩
  exact#[0,I,0,.inl #[HQ.of g,λt G=>q t _ (s4.trans (HJ.upd G)) #[as,qb,r,λi a z e1 e2=>HJ.upd G _ _ (has i a z e1 e2)]]]
theorem pU(a:At K mg "opens_at" db ["door","name","age"])(T:MW K mg tk)(U:ND K C)(g:Mf P w K mg base C "button_of" X6 1 (gw K C))(j:Df P w K mg base "stretches_of" V1 3 (ua K C)):Df P w K mg base "opens_at" ["door","name","age"] 4 (rZ K C):=by
 refine a.dq rF λf _ A _ s H vs Q E d h=>?_
 .let#[p,ta,hk,bd,lg,n,D,nm,age,rfl,b,q]:=h
  exists _,(qe (qj (qo j d.mo (qc (qv 0) (qc (zb g U.cl d.mo (qv 0) (qc (qv 1) qa)) (qc (qv 2) qa))))))
  unfold Qe at q;refine#[2,p,Z,b.no,0,p,ta,hk,bd,lg,n,D,nm,Z,b,λc=>?_,λe x c i=>?_]
  .rw[c]at q
   exact#[0,p,ta,hk,bd,lg,n,D,.non,none,age,Z,b,Z,q]
  .rw[c]at q
   exact#[0,p,ta,hk,bd,lg,n,D,-x,↑e,age,Z,b,#[x,Z,i],q]
theorem fu(a:Ob K C "plain_step" "Door.plain_step" QB ["self","button","age","count"])(T:MW K mg tk)(U:ND K C)(m:Mf P w K mg base C "takes_from" W1 2 (cQ K C))(l:Df P w K mg base "step_by" W0 2 ju):Mf P w K mg base C "plain_step" X0 3 (iy K C):=by
 refine a.mq ao λf _ A _ s H vs Q E i h=>?_
 .let#[p,ta,hk,bd,lg,x,n,D,e,age,c,rfl,b,g,q]:=h
  exists _,(qd (qB (Qk (zk (zb m U.cl i.mo (qv 0) (qc (qv 1) (qc (qv 2) qa))))) (qe (qj (qu (qc qy (qc (qv 1) qa))))) qt)
   (qe (qj (qo l i.mo (qc (qv 1) (qc (qv 2) (qc (qv 3) (qc (qU (qv 0)) (qc (qU (qv 0)) qa)))))))))
  exists 0,p,Z,b.no,2,p,ta,hk,bd,lg,x,n,D,e,age,Z,b,g,0
  unfold qR at q;cases ht:qO D e age with
  |false=>
   rw[ht,Jb (by intro z;cases z)]at q
   refine zo #[0,Ho,λj d=>?_]
   exact q j x _ (HJ.upd d) qb (g.same (HJ.upd d))
  |true=>
  rw[ht,Jc Z]at q;refine zh ?_
  exact#[10,p,0,b.h_near U,0,p,0,b.h_far U,x,e,age,c,D.near,D.far,Z,g,q]
theorem jQ(a:At K mg "names_known" au ["door"])(T:MW K mg tk)(U:ND K C)(B:Mf P w K mg base C "known_now" W8 1 (pE K C)):Df P w K mg base "names_known" ["door"] 2 (ir K C):=by
 refine a.dq jx λf _ A _ s H vs Q E y h=>?_
 .let#[p,ta,hk,bd,lg,n,D,rfl,b,ok,q]:=h
  exists _,(qe (qj (zZ (own:=["row"]) (fr:=[]) (js:=[]) Z (aq (Zz B U.cl y.mo (qv 0))) Z (λ_ _ h=>nomatch h) Z (cf Z nofun nofun nofun) (λ_ _ _ _=>qg (i:=0) (show P4 (["row"]:Α)from by decide +kernel) Z (Pr Z) (.inr Z)) (λ_ _ _ _=>(qx (jY (K:=K) Z) (qv 0) qf)))))
  refine#[0,p,Z,b.no,p,ta,hk,bd,lg,n,D,Z,b,ok,λI c H1 J pm M F=>?_]
  let#[L,t,o,has]:=F;have N:c.length<=60:=by rw[pm.length_eq,Je];exact ok.nl
  refine#[I,Z,#[_,HX.of t],bv (K:=K) (xs:=L.map V.ref) (by rw[Je,o,JD];omega) (λi ys j=>ys=(c.take i).map V.str/\HJ H1 j) #[by simp,HJ.refl _] (λi ys j ⟨_,d⟩=>HX.of (d _ _ t)) ?_ ?_]
  .rintro i ys j x r m ⟨rfl,d⟩
   rw[Jo]at r;let#[u,g,rfl]:=JO.mp r;have hi:i<c.length:=by rw[<- o];exact(Jw.mp g).1
   have es:c[i]? =some c[i]:=Jh hi
   let#[e,z]:=az (pm.mem_iff.mp (IH hi))
   let#[v,h1,_]:=has i u c[i] e g es z
   refine#[0,u,1,HX.of (d _ _ h1),Z,?_,d]
   rw[Ie,es,JI];rfl
  .rintro ys j m ⟨rfl,d⟩ l G
   refine q l c _ ((J.trans d).trans (HJ.upd G)) pm ?_
   rw[qb,Je,o,Ip]
theorem lI(a:At K mg "lesser_end" bD ["one","first","other","second"])(T:MW K mg tk)(U:ND K C)(u:Mf P w K mg base C "bounds_told" W8 1 (fZ K C)):Df P w K mg base "lesser_end" w5 2 (sP K C):=by
 refine a.dq ma λf _ A _ s H vs Q E t h=>?_
 .let#[p,ta,hk,bd,lg,x,n,D,e,r,g,i,o,j,L,J,D',e',rfl,b,#[v,B,_],G,#[M,d,_],q]:=h
  exists _,(qe (qj (qk (Zb Z) T.b_min RL (qc (qr qM (qx qN (qv 1) qf) (qx qN (Zz u U.cl t.mo (qv 0)) qf)) (qc (qr qM (qx qN (qv 3) qf) (qx qN (Zz u U.cl t.mo (qv 2)) qf)) qa)))))
  refine#[0,x,1,HX.of B,8,p,Z,b.no,p,ta,hk,bd,lg,n,D,Z,b,λF H1 m c=>#[F,1,HX.of c,25,?_]]
  have y:=G.same m
  exact#[0,L,1,HX.of (m _ _ d),8,r,Z,y.no,r,g,i,o,j,J,D',Z,y,λI N z l=>#[I,1,HX.of l,66,q _ (m.trans z)]]
theorem oV(a:At K mg "counts_in" ci ["stretches"])(T:MW K mg tk):Df P w K mg base "counts_in" ["stretches"] 1 oM:=by
 refine a.dq pB λf _ A _ s H vs Q E hr h=>?_
 .let#[t,S,rfl,pr,ok,q]:=h
  exists _,(qe (qj (Bw (own:=["first","last","count"]) (fr:=[]) (js:=[]) Z (aq (qv 0)) Z (λ_ _ h=>nomatch h) Z (cf Z nofun nofun nofun) (λ_ _ _ _=>jI (K:=K) Z 2 Z (qh (qg (i:=0) (show P4 (["first","last","count"]:Α)from by decide +kernel) Z (Pr Z) (.inr Z)) (qh (qg (i:=1) (show P4 (["first","last","count"]:Α)from by decide +kernel) Z (Pr Z) (.inr Z)) qK))) (λ_ _ _ _=>(kR Z T.b_range (qc (qv 0) (qc (qr qM (qv 1) qf) qa)))) (λ_ _ _ _=>qg (i:=2) (show P4 (["first","last","count"]:Α)from by decide +kernel) Z (Pr Z) (.inr Z)) (λ_ _ _ _=>(qv 2)))))
  let#[C,u,I,has]:=id pr;have cl:∀i,(qC (S.take i)).length<=66:=λi=>by
   refine JN ?_ ok.cnt
   have e:qC S=qC (S.take i)++qC (S.drop i):=by unfold qC;rw[<- KO,KJ]
   rw[e,Jy];exact IZ _ _
  exists 0,t,Z,#[_,HX.of u]
  exists λi m ys g l=>m=S.length-i/\i<=S.length/\l=H/\ys=(qC (S.take i)).map V.int/\∃R F B,g=[R,F,B],#[S.length,by simp,JB _,Z,Z,_,_,_,Z]
  rintro i m ys g l ⟨rfl,hi,rfl,rfl,R,F,B,rfl⟩
  by_cases c:i<S.length
  .have o:S[i]? =some S[i]:=Jh c
   let#[z,ez]:∃z,z=S[i]:=#[0]
   rw[<- ez]at o;have j:i<C.length:=by rw[I];exact c
   have L:(C.map V.ref)[i]? =↑(.ref C[i]):=by rw[Jo,Jh j];rfl
   refine .inr #[#[15,HX.of u,L],λx H' y=>?_]
   let#[eH,J]:H'=l/\(C.map V.ref)[i]? =↑x:=#[y.1,y.2 _ (HX.of u)]
   subst eH;rw[L]at J;cases J;have hb:=ok.bd z (Ij o);exists 13,HX.of (has i _ z (Jh j) o),5
   exists 34,#[by omega,by omega,by omega,by omega]
   let#[n,r]:∃n,n=(z.2+1-z.1).toNat:=#[0]
   have Y:=cl (i+1);rw[kC o,<- r,Jy,Je,E1]at Y;exists λi2 O zs g l=>O=n-i2/\i2<=n/\l=H'/\zs=(qC (S.take i)).map V.int++(Ag i2).map (λk:Nat=>V.int (z.1+(k:Int)))/\∃B,g=[↑(.int z.1),↑(.int z.2),B],#[n,by simp,JB _,Z,by simp,0]
   rintro i2 O zs g Hy ⟨rfl,a1,rfl,rfl,X,rfl⟩
   by_cases d:i2<n
   .refine .inr #[by rw[<- r];exact d,by rw[Jy,Je,Je,E1,JD];omega,λW M U=>?_]
    let#[D,rfl]:M=Hy/\W= .int (z.1+(i2:Int)):=U
    subst D;refine#[λv N=>v= .int (z.1+(i2:Int))/\N=M,λv N G=>#[n-(i2+1),by omega,Z,d,G.2,?_,0],#[_,Z,Z,Z]]
    rw[G.1,Kh,JI,IU];rfl
   .obtain rfl:i2=n:=by omega
    refine .inl #[by rw[<- r];exact Jf _,S.length-(i+1),by omega,Z,c,Z,?_,18]
    rw[kC o,<- r,JI,Ir];rfl
  .obtain rfl:i=S.length:=by omega
   refine .inl #[#[_,HX.of u,by rw[Je,I];exact Jf _],λp hp=>q p _ (HJ.upd hp) ?_]
   rw[qb,Ip]
theorem jW(a:At K mg "least_apart" ax ["these","those"])(T:MW K mg tk)(D:Df P w K mg base "counts_in" ["stretches"] 1 oM):Df P w K mg base "least_apart" ["these","those"] 2 tI:=by
 refine a.dq j8 λf _ A _ s H vs Q E x h=>?_
 .let#[t,L,S,m,rfl,J,n,ok,c,ne,xs,q]:=h
  exists _,(qe (qj (qx qF (qk (lU Z) T.b_sorted Rp (qc (qr Dt (qI (iP Z) T.b_set SF (qc (qo D x.mo (qc (qv 0) qa)) qa)) (qI (iP Z) T.b_set SF (qc (qo D x.mo (qc (qv 1) qa)) qa))) qa)) qf)))
  have c1:=ok.cnt;have Y:=c.cnt;have X:PySem.scanBound=4096:=Z
  refine#[0,t,S,Z,J,ok,λW H1 z G=>#[W,qC S,Z,HQ.of G,by omega,λi r=>?_]]
  have B:=HJ.upd (o:=bh P w i (S0.ddL (qC S))) r
  refine#[0,L,m,Z,(n.same z).same B,c,λI H2 v O=>#[I,qC m,Z,HQ.of O,by omega,λC d=>?_]]
  have y:=HJ.upd (o:=bh P w C (S0.ddL (qC m))) d
  have g:=v _ _ (qb (H:=H1) (a:=i) (o:=bh P w i (S0.ddL (qC S))))
  have d1:=gJ (qC S);have d2:=gJ (qC m);refine#[i,C,6,qm g d,y _ _ g,qb,bQ _,bQ _,by omega,by omega,λz3 p u N len e=>?_]
  have F:=HJ.upd (o:=bh P w z3 p) u
  refine#[z3,p,Z,qb,xs p N (λk=>by rw[e,ZD,ZD]),λl ms U pm pw=>?_]
  have M:=HJ.upd (o:= .lst (ms.map V.int)) U
  have R:=uj (ms:=ms) ok c (λk=>by rw[pm.mem_iff,e,ZD,ZD]) pw ne
  exact#[l,1,HQ.of qb,Qs (j:=0) (by rw[Jo,R];rfl),q _ (((((z.trans B).trans v).trans y).trans F).trans M)]
theorem jG(a:At K mg "press_apart" ar ["one","first","other","second"])(T:MW K mg tk)(U:ND K C)(xJ:Mf P w K mg base C "keys_now" W8 1 (sZ K C))(dI:Df P w K mg base "stretches_of" V1 3 (ua K C))(xP:Df P w K mg base "least_apart" ["these","those"] 2 tI):Df P w K mg base "press_apart" w5 4 (Ar K C):=by
 refine a.dq Nc λf _ A _ s H vs Q E e h=>?_
 .let#[p,ta,hk,bd,lg,n,D,v,o,S,u,B,l,L,n',D',v',o',rfl,b,hv,b',J,dn,M,k,k',k8,xs,q]:=h
  exists _,(qd (zf JJ Z (zM Z T.b_range (qc (qk qT T.b_len J5 (qc (Zz xJ U.cl e.mo (qv 0)) qa)) qa)) (qg (i:=4) Nc.nd Z (Pr Z))
   (qd (qA (i:=5) Nc.nd Z (Pr Z) (qo dI e.mo (qc (qv 0) (qc (qv 1) (qc (qv 4) qa)))))
   (qd (qA (i:=6) Nc.nd Z (Pr Z) (qo dI e.mo (qc (qv 2) (qc (qv 3) (qc (qv 4) qa)))))
   (qe (qB (qw (D8 e) (qv 5) (qv 6) (qq _)) (qe (qj (qu (qc (qv 4) (qc (qo xP e.mo (qc (qv 5) (qc (qv 6) qa))) qa))))) qt)))))
   (qe (qj qP)))
  refine#[0,p,Z,b.no,p,ta,hk,bd,lg,n,D,Z,b,λt0 as H0 s0 sq W _=>#[t0,0,.inr sq,0,by omega,by rw[Je,W];omega,?_]]
  rw[Je,W,Iw];refine Qv (n:=D.kss.length) (Pv:=λi σ Hx=>HJ H Hx/\(∀x:Int,0<=x->x<0+(i:Int)->zn D x o=zn D' x o')/\∃G O N,σ=[↑(-p),↑v,↑(-S),↑v',G,O,N]) #[s0,λx h1 h2=>by omega,18] ?_ ?_
  .rintro i σ H1 hi ⟨j,no,G,O,N,rfl⟩
   let#[A,Y]:∃A:Int,A=0+(i:Int):=#[0]
   rw[<- Y]at no⊢;refine#[4,p,ta,hk,bd,lg,n,D,v,o,A,Z,b.same j,hv.same j,λt H2 s2 d=>?_]
   have S2:=j.trans s2;refine#[4,S,u,B,l,L,n',D',v',o',A,Z,b'.same S2,J.same S2,λI H3 s3 c=>?_]
   have d:Oe H3 t (zn D A o):=Oe.same s3 d
   have c:Oe H3 I (zn D' A o'):=c
   have R:=S2.trans s3;refine#[2,t,I,6,d,c,0,qZ (λy=>?_) (λy=>?_)]
   .have ne:=Jz y
    refine#[4,t,I,13,d,c,aN dn k A,aN M k' A,ne,xs A,λH4 s4=>#[Ho,λX m=>?_]]
    have r:QK D o D' o'=↑(A,Qb (zn D A o) (zn D' A o')):=by
     unfold QK;refine QN hi (by rw[<- Y];exact Jb ne) λx g F=>Jc (no x g (by omega))
    have:=q (-X) _ ((R.trans s4).trans (HJ.upd (o:= .tup [.int A,.int (Qb (zn D A o) (zn D' A o'))]) m))
    rw[r]at this;exact this #[X,Z,qb]
   .have eq:=SX.mp (λz=>y (Jj z))
    refine#[R,λx g F=>?_,18]
    by_cases hx:x<A
    .exact no x g hx
    .obtain rfl:x=A:=by omega
     exact eq
  .rintro σ H1 ⟨j,no,G,O,N,rfl⟩
   have r:QK D o D' o'=none:=zA λx g F=>Jc (no x g F)
   have:=q .non _ j
   rw[r]at this;exact this Z
theorem lJ(a:At K mg "pair_apart" bC ["one","first","other","second"])(T:MW K mg tk)(U:ND K C)(xA:Mf P w K mg base C "closed_now" W8 1 (lq K C))(dD:Mf P w K mg base C "plain_step" X0 3 (iy K C))(xU:Df P w K mg base "lesser_end" w5 2 (sP K C))(dP:Df P w K mg base "press_apart" w5 4 (Ar K C)):Df P w K mg base "pair_apart" w5 5 (wM K C):=by
 refine a.dq MG λf _ A _ s H vs Q E I h=>?_
 .let#[p,ta,hk,bd,lg,n,D,v,o,G,l,m,t,r,n',D',v',o',rfl,b,Y,b',j,S,d,k,O,k8,xs,q]:=h
  exists _,(qd (qB (QW.pt (Qd (qw zW (qv 1) qP (qq _)) (zP (qw zW (qv 3) qP (qq _))))) (qe (qj qP)) qt)
   (qd (qA (i:=4) MG.nd Z (Pr Z) (qk (bR Z) T.b_max Mp (qc (qx qN (qv 1) qf) (qc (Zz xA U.cl I.mo (qv 0)) qa))))
   (qd (qA (i:=5) MG.nd Z (Pr Z) (qo xU I.mo (qc (qv 0) (qc (qv 1) (qc (qv 2) (qc (qv 3) qa))))))
   (qd (zf JJ Z (kR Z T.b_range (qc (qv 5) (qc (qk (Zb Z) T.b_min RL (qc (qr qM (qv 5) qf) (qc (zm (v:= .int 4096) Z T.g_COUNTS #[0]) qa))) qa))) (qg (i:=6) MG.nd Z (Pr Z))
   (qd (za (zb dD U.cl I.mo (qv 0) (qc (qv 1) (qc (qv 4) (qc (qv 6) qa)))) (zg Z (qh (qg (i:=7) MG.nd Z (Pr Z)) (qh (qg (i:=8) MG.nd Z (Pr Z)) qK))))
   (qd (za (zb dD U.cl I.mo (qv 2) (qc (qv 3) (qc (qv 4) (qc (qv 6) qa)))) (zg Z (qh (qg (i:=7) MG.nd Z (Pr Z)) (qh (qg (i:=9) MG.nd Z (Pr Z)) qK))))
   (qd (qA (i:=10) MG.nd Z (Pr Z) (qo dP I.mo (qc (qv 0) (qc (qv 8) (qc (qv 2) (qc (qv 9) qa))))))
   (qe (qB (qw Z7 (qv 10) qP (qq _)) (qe (qj (qu (qc (qu (qc (qv 4) (qc (qv 6) qa))) (qc (qv 10) qa))))) qt))))))
   (qe (qj qP))))))
  cases o with
  |none=>
   have Y:v= .non:=Y
   subst Y
   exact#[3,Qp (Jj Z) (zo (q .non H (HJ.refl _) Z))]
  |some e=>
  let#[x,rfl,hx]:=Y;refine#[3,qZ (λy=>nomatch (Jz y)) (λ_=>?_)]
  cases o' with
  |none=>
   have j:v'= .non:=j
   subst j
   exact#[3,zo (q .non H (HJ.refl _) Z)]
  |some e'=>
  let#[x',rfl,M]:=j;refine#[3,zh ?_]
  have k:MS D e:=k
  have O:MS D' e':=O
  let#[w1,h1,b1]:=id hx;exists 0,x,1,HX.of h1,8,p,Z,b.no,p,ta,hk,bd,lg,n,D,Z,b,13
  refine#[10,p,ta,hk,bd,lg,x,n,D,e,G,l,m,t,r,x',n',D',e',Z,b,hx,b',M,λH1 s1=>?_]
  let#[A,eA]:∃A,A=qG e.age D.least:=#[0]
  let#[L,g]:∃L,L=zS D e D' e':=#[0]
  have Lb:0<=L/\L<=6000:=by
   have:=k.l0
   have:=k.l1
   have:=O.l0
   have:=O.l1
   have:=S.n0
   have:=S.nf
   have:=S.f1
   have:=d.n0
   have:=d.nf
   have:=d.f1
   rw[g];unfold zS QD;split<;>omega
  exists 45,#[by rw[<- g];omega,by rw[<- g];omega,by rw[<- g];split<;>omega,by rw[<- g];split<;>omega]
  have N:aa D ↑e D' ↑e'=Qh L (QD (L+2) 4096-L).toNat λc=>(QK D (some (qR D e A c).2) D' (some (qR D' e' A c).2)).map λp=>((A,c),p):=by rw[g,eA];rfl
  refine Qv (lo:=zS D e D' e') (Pv:=λi σ Hx=>HJ H Hx/\(∀y:Int,L<=y->y<L+(i:Int)->QK D (some (qR D e A y).2) D' (some (qR D' e' A y).2)=none)/\∃o6 o7 o8 o9 oa,σ=[↑(-p),↑(-x),↑(-G),↑(-x'),↑(.int A),↑(.int L),o6,o7,o8,o9,oa]) #[s1,λy h1 h2=>by omega,_,_,_,_,_,by rw[g,eA];rfl] ?_ ?_
  .rintro i σ H2 hi ⟨z,no,o6,o7,o8,o9,oa,rfl⟩
   rw[<- g]at hi⊢;have hi:i<(QD (L+2) 4096-L).toNat:=hi
   have F:(i:Int)<QD (L+2) 4096-L:=by omega
   have R:0<=L+(i:Int)/\L+(i:Int)<4096:=by unfold QD at F;split at F<;>omega
   refine#[0,p,Z,(b.same z).no,4,p,ta,hk,bd,lg,x,n,D,e,A,0,b.same z,hx.same z,λq1 a1 H3 s3 b0 a8=>#[q1,0,.tup b0,5,?_]]
   have X:=z.trans s3;refine#[0,G,Z,(b'.same X).no,4,G,l,m,t,r,x',n',D',e',A,0,b'.same X,M.same X,λq2 a2 H4 s4 a3 a7=>#[q2,0,.tup a3,5,?_]]
   have S4:=X.trans s4;refine#[10,p,ta,hk,bd,lg,n,D,-a1,some (qR D e A (L+(i:Int))).2,G,l,m,t,r,n',D',-a2,some (qR D' e' A (L+(i:Int))).2,Z,b.same S4,#[a1,Z,a8.same s4],b'.same S4,#[a2,Z,a7],S,d,Z2 S k R.1 R.2,Z2 d O R.1 R.2,k8,(by rw[eA];exact xs.2 e e' Z Z _ (by omega) R.2),λu H5 s5 B=>?_]
   have S5:=S4.trans s5;cases ep:QK D (some (qR D e A (L+(i:Int))).2) D' (some (qR D' e' A (L+(i:Int))).2)with
   |none=>
    rw[ep]at B;have B:u= .non:=B
    subst B;refine#[3,zh #[S5,λy W J=>?_,20]]
    by_cases hy:y<L+(i:Int)
    .exact no y W hy
    .obtain rfl:y=L+(i:Int):=by omega
     exact ep
   |some pr=>
    rw[ep]at B;let#[tt,rfl,a6]:=B;refine#[3,zo ?_]
    refine#[2,Ho,λr1 a4=>#[0,Ho,λr2 a5=>?_]]
    have u1:=HJ.upd (o:= .tup [.int A,.int (L+(i:Int))]) a4
    have u2:=HJ.upd (o:= .tup [-r1,-tt]) a5
    have e1:aa D ↑e D' ↑e'=↑((A,L+(i:Int)),pr):=by
     rw[N];exact QN hi (by rw[ep];rfl) λy W J=>by rw[no y W J];rfl
    have:=q (-r2) _ ((S5.trans u1).trans u2)
    rw[e1]at this;exact this #[r2,r1,tt,Z,qb,u2 _ _ qb,u2 _ _ (u1 _ _ a6)]
  .rintro σ H2 ⟨z,no,o6,o7,o8,o9,oa,rfl⟩
   have e1:aa D ↑e D' ↑e'=none:=by
    rw[N];refine zA λy W J=>?_
    rw[no y W (by rw[g]at J⊢;exact J)];rfl
   have:=q .non _ z
   rw[e1]at this;exact this Z
theorem uB(a:At K mg "telling" fG ["one","other"])(T:MW K mg tk)(U:ND K C)(yT:Mf P w K mg base C "button_of" X6 1 (gw K C))(dM:Df P w K mg base "names_known" ["door"] 2 (ir K C))(dP:Df P w K mg base "press_apart" w5 4 (Ar K C))(xX:Df P w K mg base "pair_apart" w5 5 (wM K C)):Df P w K mg base "telling" W6 6 (jp K C):=by
 have dB:=yT.ofO;refine a.dq Nj λf _ A _ s H vs Q E hr h=>?_
 .let#[p,ta,hk,bd,lg,n,D,Y,J,I,R,F,n',D',rfl,b,b',td,l,xs,q]:=h
  exists _,(qd (qA (i:=2) Nj.nd Z (Pr Z) (qk (lT Z) T.b_sorted Rp (qc (qr DX (qI (iM Z) T.b_set SF (qc (qo dM hr.mo (qc (qv 0) qa)) qa)) (qI (iM Z) T.b_set SF (qc (qo dM hr.mo (qc (qv 1) qa)) qa))) qa)))
   (qd (zf JJ Z (zv (qv 2)) (qg (i:=3) Nj.nd Z (SV Z))
   (qd (qA (i:=4) Nj.nd Z (Pr Z) (qo dP hr.mo (qc (qv 0) (qc (zb dB U.cl hr.mo (qv 0) (qc (qv 3) qa)) (qc (qv 1) (qc (zb dB U.cl hr.mo (qv 1) (qc (qv 3) qa)) qa))))))
   (qe (qB (qw Z7 (qv 4) qP (qq _)) (qe (qj (qu (qc (qr ZX (qu (qc (qv 3) qa)) (qv 4)) qa)))) qt))))
   (qd (zf JJ Z (zv (qv 2)) (qg (i:=3) Nj.nd Z (SV Z))
   (qd (qA (i:=5) Nj.nd Z (Pr Z) (qo xX hr.mo (qc (qv 0) (qc (zb dB U.cl hr.mo (qv 0) (qc (qv 3) qa)) (qc (qv 1) (qc (zb dB U.cl hr.mo (qv 1) (qc (qv 3) qa)) qa))))))
   (qe (qB (qw Z7 (qv 5) qP (qq _)) (qe (qj (qI zp T.b_tuple JL (qc (zZ (own:=["press"]) (fr:=["name"]) (js:=[3]) Z (aq (qv 5)) Z (fD Z) Z (fO Z nofun nofun nofun Z Z Z) (λ_ _ _ _=>qg (i:=0) (show P4 (["press","name"]:Α)from by decide +kernel) Z (Pr Z) (.inr Z)) (λ_ _ _ _=>(qr ZX (qu (qc (qv 1) qa)) (qv 0)))) qa)))) qt))))
   (qe (qj qP)))))
  have c0:∀{D:Dr} {ss:Α},OZ D->ss.Perm (D.kn.map (·.1))->ss.length<=30:=λtd pm=>by rw[pm.length_eq,Je];exact td.few
  refine#[0,p,ta,hk,bd,lg,n,D,Z,b,td.ok,λn1 B H1 s1 b1 e1=>?_]
  have d5:=c0 td b1;have sb:PySem.scanBound=4096:=Z
  refine#[n1,B,Z,HQ.of e1,by omega,λz1 b8=>?_]
  have u1:=HJ.upd (o:=aS P w z1 (S0.ddL B)) b8
  refine#[0,Y,J,I,R,F,n',D',Z,(b'.same s1).same u1,l.ok,λn2 O H2 s2 b0 e2=>?_]
  have d0:=c0 l b0;have d1:=gJ B;have d2:=gJ O;refine#[n2,O,Z,HQ.of e2,by omega,λz2 c=>?_]
  have u2:=HJ.upd (o:=aS P w z2 (S0.ddL O)) c
  have a8:=s2 _ _ (qb (H:=H1) (a:=z1) (o:=aS P w z1 (S0.ddL B)))
  refine#[z1,z2,6,qm a8 c,u2 _ _ a8,qb,bQ _,bQ _,by omega,λz3 ks b5 nd b3=>?_]
  have u3:=HJ.upd (o:=aS P w z3 ks) b5
  have kl:ks.length<=60:=by
   have:=jj (m:=B++O) nd λk hk=>JP.mpr (((b3 k).mp hk).imp (ZD B k).mp (ZD O k).mp)
   rw[Jy]at this;omega
  refine#[z3,ks,Z,qb,by omega,λS e b7 a2 c4=>?_]
  have u5:=HJ.upd (o:= .lst (e.map V.str)) b7
  have S5:=((((s1.trans u1).trans s2).trans u2).trans u3).trans u5;have b6:∀k,k∈e↔k∈D.kn.map (·.1)\/k∈D'.kn.map (·.1):=λk=>by
   rw[a2.mem_iff,b3,ZD,ZD,b1.mem_iff,b0.mem_iff]
  have d3:e.Nodup:=a2.nodup_iff.mpr nd
  have nl:e.length<=60:=by rw[a2.length_eq];exact kl
  have q:∀u H',HJ H H'->N4 H' u (zE D D' e)->Q u H':=λu H' s t=>q u e H' s d3 b6 c4 t
  have k8:=td.ok.kl;clear u1 u2 u3 u5 a8 b3 a2 b1 b0 d1 d2 d5 d0 kl nd b8 c b5 b7 e1 e2 s1 s2;refine QL (λd8 H'=>HJ H H'/\H' S=↑(.lst (e.map V.str))/\e.findSome? (Ql D D')=none/\∃o3 W X,d8=[↑(-p),↑(-Y),↑(-S),o3,W,X]) (λD0 e0 d9=>?_) ?_
  .exists 0,S,Z,#[_,HQ.of qb]
   refine zQ (K:=K) (a:=S) (xs:=e.map V.str) (λi σ N=>HJ H N/\N S=↑(.lst (e.map V.str))/\(∀j z,j<i->e[j]? =↑z->Ql D D' z=none)/\∃o3 W X,σ=[↑(-p),↑(-Y),↑(-S),o3,W,X]) #[S5,qb,λj z g _=>absurd g (I1 _),18] (λi σ N _ h=>HQ.of h.2.1) ?_ ?_
   .rintro i z σ H6 hz ⟨d,e6,no,o3,W,X,rfl⟩
    rw[Jo]at hz;let#[nm,G,rfl]:=JO.mp hz;refine#[2,p,Z,(b.same d).no,0,p,ta,hk,bd,lg,n,D,nm,Z,b.same d,λv1 a5=>?_]
    refine#[2,Y,Z,(b'.same d).no,0,Y,J,I,R,F,n',D',nm,Z,b'.same d,λv2 a4=>?_]
    refine#[p,ta,hk,bd,lg,n,D,v1,_,Y,J,I,R,F,n',D',v2,0,b.same d,a5,b'.same d,a4,td.dn,l.dn,td.kn nm,l.kn nm,k8,(xs nm).1,λu H7 s7 v=>?_]
    have S7:=d.trans s7;cases ep:QK D (D.kn.lookup nm) D' (D'.kn.lookup nm)with
    |none=>
     rw[ep]at v;have v:u= .non:=v
     subst v;refine#[3,zh #[S7,s7 _ _ e6,λj z g c=>?_,18]]
     by_cases a7:j<i
     .exact no j z a7 c
     .obtain rfl:j=i:=by omega
      have ez:z=nm:=JE (c.symm.trans G)
      rw[ez];unfold Ql;rw[ep];rfl
    |some pr=>
     rw[ep]at v;let#[tt,rfl,a1]:=v;refine#[3,zo ?_]
     refine#[0,Hl,λt0 L=>#[0,t0,tt,6,qb,(HJ.upd L) _ _ a1,Ht,λpp H9 s9 b2=>#[Hl,λr a3=>?_]]]
     have u9:=HJ.upd (o:= .tup [-pp]) a3
     have e1:zE D D' e=some [(nm,pr.1,pr.2)]:=by
      unfold zE;rw[cE (f:=Ql D D') G (show Ql D D' nm=some [(nm,pr.1,pr.2)] by unfold Ql;rw[ep];rfl) no]
     have:=q (-r) _ (((S7.trans (HJ.upd L)).trans s9).trans u9)
     rw[e1]at this;rw[e0];exact this (N4.one qb (u9 _ _ b2))
   .rintro σ H6 ⟨d,e6,no,o3,W,X,rfl⟩
    refine d9 _ _ #[d,e6,cG λx hx=>?_,18]
    let#[j,g,rfl]:=HB.mp hx;exact no j _ (by rw[Je];exact g) (Jh g)
  clear S5
  rintro σ H5 ⟨s5,e5,b4,o3,W,X,rfl⟩
  have et:zE D D' e=e.findSome? (Zu D D'):=by unfold zE;rw[b4]
  rw[et]at q;exists 0,S,Z,#[_,HQ.of e5]
  refine zQ (K:=K) (a:=S) (xs:=e.map V.str) (λi σ N=>HJ H N/\N S=↑(.lst (e.map V.str))/\(∀j z,j<i->e[j]? =↑z->Zu D D' z=none)/\∃o3 W X,σ=[↑(-p),↑(-Y),↑(-S),o3,W,X]) #[s5,e5,λj z g _=>absurd g (I1 _),18] (λi σ N _ h=>HQ.of h.2.1) ?_ ?_
  .rintro i z σ H6 hz ⟨d,e6,no,o3,W,X,rfl⟩
   rw[Jo]at hz;let#[nm,G,rfl]:=JO.mp hz;refine#[2,p,Z,(b.same d).no,0,p,ta,hk,bd,lg,n,D,nm,Z,b.same d,λv1 a5=>?_]
   refine#[2,Y,Z,(b'.same d).no,0,Y,J,I,R,F,n',D',nm,Z,b'.same d,λv2 a4=>?_]
   refine#[p,ta,hk,bd,lg,n,D,v1,_,Y,J,I,R,F,n',D',v2,0,b.same d,a5,b'.same d,a4,td.dn,l.dn,td.kn nm,l.kn nm,k8,xs nm,λu H7 s7 v=>?_]
   have S7:=d.trans s7;cases ep:aa D (D.kn.lookup nm) D' (D'.kn.lookup nm)with
   |none=>
    rw[ep]at v;have v:u= .non:=v
    subst v;refine#[3,zh #[S7,s7 _ _ e6,λj z g c=>?_,18]]
    by_cases a7:j<i
    .exact no j z a7 c
    .obtain rfl:j=i:=by omega
     have ez:z=nm:=JE (c.symm.trans G)
     rw[ez];unfold Zu;rw[ep];rfl
   |some pr=>
    rw[ep]at v;let#[tt,x1,x2,rfl,a1,c3,d6]:=v;refine#[3,zo ?_]
    exists 0,tt,Z,#[_,HX.of a1]
    let#[zs,a6]:∃zs:zi,zs=[(nm,pr.1.1,pr.1.2),(nm,pr.2.1,pr.2.2)]:=#[0]
    refine bv (K:=K) (a:=tt) (xs:=[-x1,-x2]) (Ho) (λi ys N=>HJ H7 N/\∃M:Η,ys=M.map V.ref/\M.length=i/\∀(j:Nat) (a:Δ) (z:Str×Int×Int),M[j]? =↑a->zs[j]? =↑z->N a=↑(.tup [.str z.1,.int z.2.1,.int z.2.2])) #[HJ.refl _,[],9,λj a z h=>by cases h] (λi ys N h=>HX.of (h.1 _ _ a1)) ?_ ?_
    .rintro i2 ys H8 x hx c1 ⟨s8,M,rfl,la,has⟩
     let#[xa,y,rfl,c2,d4]:∃(xa:Δ) (y:Int×Int),x= .ref xa/\H7 xa=↑(.tup [.int y.1,.int y.2])/\∀z,zs[i2]? =↑z->z=(nm,y.1,y.2):=by
      rw[a6]
      match i2,hx with
      |0,hx=>cases hx;exact#[x1,pr.1,Z,c3,λz h=>by cases h;rfl]
      |1,hx=>cases hx;exact#[x2,pr.2,Z,d6,λz h=>by cases h;rfl]
     refine#[0,Hl,λt0 L=>#[0,t0,xa,6,qb,(HJ.upd L) _ _ (s8 _ _ c2),Ht,λpp H9 s9 b2=>?_]]
     have S9:=(HJ.upd (o:= .tup [.str nm]) L).trans s9
     refine#[s8.trans S9,M++[pp],by simp,by simp [la],λj a z h1 h2=>?_]
     by_cases g:j<M.length
     .rw[J3 g]at h1
      exact S9 _ _ (has j a z h1 h2)
     .rw[J9 (by omega)]at h1
      cases ej:j-M.length with
      |succ k=>rw[ej]at h1;cases h1
      |zero=>
       rw[ej]at h1;cases h1
       obtain rfl:j=i2:=by omega
       rw[d4 z h2];exact b2
    .rintro ys H8 c1 ⟨s8,M,rfl,la,has⟩ l8 d7
     have u8:=HJ.upd (o:= .lst (M.map V.ref)) d7
     refine#[l8,0,.inl #[HQ.of qb,λr a3=>?_]]
     have u9:=HJ.upd (o:= .tup (M.map V.ref)) a3
     have e1:e.findSome? (Zu D D')=↑zs:=cE (f:=Zu D D') G (show Zu D D' nm=↑zs by rw[a6];unfold Zu;rw[ep];rfl) no
     have:=q (-r) _ (((S7.trans s8).trans u8).trans u9)
     rw[e1]at this;exact this #[r,M,Z,qb,by rw[a6];exact la,λj a z h1 h2=>u9 _ _ (u8 _ _ (has j a z h1 h2))]
  .rintro σ H6 ⟨d,e6,no,o3,W,X,rfl⟩
   have e1:e.findSome? (Zu D D')=none:=cG λx hx=>by
    let#[j,g,rfl]:=HB.mp hx;exact no j _ (by rw[Je];exact g) (Jh g)
   have:=q .non _ d
   rw[e1]at this;exact this Z
theorem AG(a:At K mg "agree" jD ["one","other"])(T:MW K mg tk)(o:Df P w K mg base "telling" W6 6 (jp K C)):Df P w K mg base "agree" W6 7 (sW K C):=by
 refine a.dq Bn λf _ A _ s H vs Q E B h=>?_
 .let#[p,ta,hk,bd,lg,n,D,y,c,i,l,j,z,D',rfl,b,x,td,d,xs,q]:=h
  exists _,(qe (qj (ze zW (qo o B.mo (qc (qv 0) (qc (qv 1) qa))) qP (qq _))))
  refine#[2,p,ta,hk,bd,lg,n,D,y,c,i,l,j,z,D',Z,b,x,td,d,xs,λu m H1 F v g G tl=>#[Z,?_]]
  have:=q m H1 F v g G
  cases e:zE D D' m with
  |none=>
   rw[e]at this tl;have tl:u= .non:=tl
   subst tl;exact this
  |some r=>
   rw[e]at this tl;let#[t,I,rfl,_]:=tl;exact this
end
end Lw
namespace L3
open PySem PySem.Spec PyProof.Rows L2
def v8(k:Nat)(js:Κ)(g:TG)(tk tv:TE)(σ:L2.St)(Q:VK)(J:It)(H1:Hp):Prop:=∃W:Nat->Nat->List (qJ×V)->L2.St->Hp->Prop,(∃m,W 0 m [] (σ0 k js σ) H1)/\∀i m ys e H,W i m ys e H->
 (J.stop i H/\∀p,H p=none->Q (-p) (HM H p (.dK ys)))\/(J.go i H/\ys.length<ζ/\∀x H',J.yld i H x H'->g x e H' λa h=>∃N:qJ->V->Hp->Prop,(∀k v c,N k v c->∃d,d<m/\W (i+1) d (MX ys k v) a c)/\tk a h λx c=>∃k,x=kV k/\tv a c λv f=>N k v f)
noncomputable def oS(k:Nat)(js:Κ)(a:TI)(g:TG)(tk tv:TE):TE:=λσ H Q=>a σ H (v8 k js g tk tv σ Q)
section
theorem lZ{C B a i:Φ}{it:Γ}{D:Δ}{c:Env}(I:Nat->Θ->Prop)
  (turn:∀n s,I n s->ε (model prog w) A (pyNext it) (λr d=>match r with
   |none=>R (.ok .next) d
   | some v=>ε (model prog w) A (letOwnedTupleGo a it v) (λ_ e=>ε (model prog w) A (assign a c v) (λ_ o=>ε (model prog w) A (eval C c) (λF t=>ε (model prog w) A (eval B c) (λG j=>
     ε (model prog w) A (dictSet D F G) (λ_ l=>∃m,m<n/\I m l) (λ_ _=>False) j) (λ_ _=>False) t)
     (λ_ _=>False) o) (λ_ _=>False) e) (λ_ _=>False) d) (λ_ _=>False) s)
  (n:Nat)(h:I n s):
  codeAny (model prog w) A (.compLoop (.DictComp C B [#[a,i,[],(0)]] f pos) 0 it (-D) c) R s:=by
 refine codeAny_loop Z I (λn s H=>?_) n h
 show ε _ _ ((compTurn (.DictComp C B [#[a,i,[],(0)]] f pos) 0 it (-D) c).onRaise (λx=>do noteFrame x c;theTreesLotGoes x)) _ _ s
 refine wpAny_noted ?_
 rw[compTurn_dict];refine Ja (Ib (Ja (Jx (turn n s H) (λr d g=>?_) λ_ _ h'=>h'.elim)))
 cases r with
 |none=>exact Jd g
 |some v=>
  refine Ja (Jx g (λ_ e p=>?_) λ_ _ h'=>h'.elim)
  refine Ja (Jx p (λ_ o z=>?_) λ_ _ h'=>h'.elim)
  exact Ja (Jd (Ja (Ja (Jx z (λF j q=>Ja (JM (Jx q (λG l y=>Ja (Ib (JM (Jx y (λ_ E u=>Jd #[Z,u]) λ_ _ h'=>h'.elim)))) λ_ _ h'=>h'.elim))) λ_ _ h'=>h'.elim))))
end
theorem gV{h:Ψ}{o:Obj}(d:h.DictOf (qS P w) a vs)(e:h.get? a=↑o)(v:Ν):o.data≠ .cell v:=by
 let#[o',es,ep,h1,f,c,_]:=d;rw[h1]at e;cases e
 rw[c];intro z;cases z
theorem vV{a:Scope}{cl:List (Str×Δ)}{c4:Pos}{fr own:Α}{use:Option (Γ->Sem Unit)}{Post:HG}
  {s:Θ}{H:Hp}
  (hc:X.calm=true)(hi:PI X tg q wi)(a6:closureFor a X.env=pure cl)(d8:∀y c,cl.lookup y=↑c->X.env.cells.lookup y=↑c)(d0:cl.map (·.1)=fr)
  (S:MU X a fr js)
  (hg:∀C s H fp,PG (qY X (own++fr) a cl C s H fp) tg g)(hk:∀C s H fp,PE (qY X (own++fr) a cl C s H fp) kx tk)(hv:∀C s H fp,PE (qY X (own++fr) a cl C s H fp) vx tv)
  (hs:∀x,foldedSetIterable q X.env x=pure x)
  (I:L2.HN X R0 σ H s)(h:oS own.length js wi g tk tv σ H Q)
  (c1:∀(c0 C:Δ) (s5:Θ) (H':Hp) (m:HH),L2.HN X R0 σ H' s5->s5.heap.Ns C m->O7 X R0 H' C->Q (-c0) H'->compPost (model X.prog X.w) X.A X.xe use Post (-c0) C (.ok .next) s5):
  ε (model X.prog X.w) X.A (comprehension (.DictComp kx vx [#[tg,q,[],(0)]] a pos) a X.env c4 newDict false (eval q X.env) use) Post X.xe s:=by
 refine wpAny_comprehension_free (use:=use) Z hs a6 S.kind S.names (qz (hi R0 s σ H _ I h) λv s1 h1=>qz h1 λe1 d h2=>?_)
 let#[it,fp,tn,J,H2,e,I2,T,b6,f2,W,#[m0,w0],turn]:=h2;subst e;refine J6 (wpAny_newFunctionEnv S.nocell (by intro y hy;simp at hy) (λA j f=>?_) S.kind)
 dsimp only at j f⊢
 have a2:(d.heap.push {cls:= .type "dict",dict:=none,data:= .dict (AA [])}).DictOf (qS X.prog X.w) d.heap.objs.size []:=Ψ.DictOf.new d.heap
 generalize hH2:d.heap.push {cls:= .type "dict",dict:=none,data:= .dict (AA [])}=G at j f a2⊢
 have hC:G.objs.size=d.heap.objs.size+1:=by rw[<- hH2,JU]
 have P:d.heap.objs.size≠G.objs.size:=by rw[hC];exact Jm (G0 _)
 have F:∀b,b<d.heap.objs.size->b≠G.objs.size/\b≠d.heap.objs.size:=λb t=>#[by rw[hC];exact Jm (Ik t),Jm t]
 have c2:∀b o,d.heap.get? b=↑o->A.get? b=↑o:=λb o e=>f.extBut b o (F b (Jl e)).1 (Jk _ (hH2▸Jk _ e))
 have R:A.DictOf (qS X.prog X.w) d.heap.objs.size []:=a2.at λo e=>f.extBut _ _ P (Jk _ e)
 let Y:Cx:=qY X (own++fr) a cl G.objs.size d H2 fp
 let#[c3,IY,K,D,a5]:=eV (own:=own) (js:=js) d8 d0 S I2 T b6 f2 hC c2 j
 have a1:∀l:Θ,HN Y [] (σ0 own.length js σ) H2 l->tn 0 l.heap->l.heap.DictOf (qS X.prog X.w) d.heap.objs.size []->
   codeAny (model X.prog X.w) X.A (.compLoop (.DictComp kx vx [#[tg,q,[],(0)]] a pos) 0 (-it) (-d.heap.objs.size) (compEnvC a cl G.objs.size X.env))
    (compPost (model X.prog X.w) X.A X.xe use Post (-d.heap.objs.size) G.objs.size) l:=by
  intro l I3 d6 a7;refine lZ (λn s'=>∃i ys τ H' w ob,HN Y [(d.heap.objs.size,ob)] τ H' s'/\tn i s'.heap/\(∀b∈fp,H' b=none)/\KV ys w/\s'.heap.DictOf (qS X.prog X.w) d.heap.objs.size w/\ys.length<=ζ/\W i n ys τ H') ?_ m0 ?_
  .rintro n s4 ⟨i,ys,τ,H4,w,ob,I4,b2,b8,vl,dd,hz,w4⟩
   have U:=I4.pin (d.heap.objs.size,ob) (by simp [Y,qY])
   rcases turn i n ys τ H4 w4 with⟨b7,qn⟩|⟨go,e0,step⟩
   .refine qz (T.done Y Z Z Z hc i _ s4 τ H4 _ I4 (a5 b8 (by simp)) b2 b7) λr s5 E=>?_
    let#[hr,I5]:=E;subst hr
    show compPost _ _ _ _ _ _ _ _ _
    let#[m5,d5,_]:=I5.loc;have a3:=I5.pin (d.heap.objs.size,ob) (by simp [Y,qY])
    have a4:H4 d.heap.objs.size=none:=a3.2.1
    have B:=I5.base;have nC:H4 G.objs.size=none:=I5.free
    have d2:s5.heap.DictOf (qS X.prog X.w) d.heap.objs.size w:=dd.at λo e=>by rw[U.1]at e;cases e;exact a3.1
    let#[z1,z2]:=eU (ob:= .dK ys) I2 f2 hC I5 a4 #[hz,Lv (J1 (JV (Ke ⋯ ((I2.mod.glob.keeps I2.bk).lt)) (Jf _))),w,vl,d2]
    exact c1 d.heap.objs.size G.objs.size s5 (HM H4 d.heap.objs.size (.dK ys)) m5 z1 d5 z2 (qn _ a4)
   .refine qz (T.item Y Z Z Z hc i _ s4 τ H4 _ I4 (a5 b8 (by simp)) b2 go) λr s5 E=>?_
    let#[u,hr,h5]:=E;subst hr;refine qz h5 λ_ s6 E=>?_
    let#[x,H6,I6,r6,y6,a8,d3]:=E;have I6':=I6.pinned (a5 d3 (by simp)) (T.obj _ _ a8)
    refine qz (hg _ _ _ _ _ s6 τ H6 x u _ I6' r6 (step x H6 y6)) λ_ s7 E=>?_
    let#[O,H7,I7,N,hN,q7]:=E;refine qz (hk _ _ _ _ _ s7 O H7 _ I7 q7) λk' d7 E=>?_
    let#[yk,H7',I7',rk,kk,ek,d9]:=E;subst ek;refine qz (hv _ _ _ _ _ d7 O H7' _ I7' d9) λv' s8 E=>?_
    let#[y,H8,I8,r8,n8]:=E;let#[m',d1,w8]:=hN _ _ _ n8;have M:=I8.pin (d.heap.objs.size,ob) (by simp [qY])
    have d4:s8.heap.DictOf (qS X.prog X.w) d.heap.objs.size w:=dd.at λo e=>by rw[U.1]at e;cases e;exact M.1
    have L:∀b∈fp,∀o,s6.heap.get? b=↑o->s8.heap.get? b=↑o/\H8 b=none:=λb t o e=>by
     have:=I8.pin (b,o) (JQ _ (JQ _ (Qu t e)))
     exact#[this.1,this.2.1]
    refine wpAny_dictSet_pairs (aC rk) d4 (λh' b1 b4=>?_) (by have:=vl.length;omega)
    have I9:HN Y [] O H8 {s8 with heap:=h',toks:=s8.toks+1}:=by
     refine(I8.pins_of (pins':=[]) (by simp)).turned (t':=s8.toks+1) (it:=d.heap.objs.size) (λb o t e=>(b4.2 b t).trans e) M.2.1 ?_ (.inr (Jf _)) (λx c e=>D x c e) (λp hp=>absurd (show p∈([]:HI)from by simpa [Y,qY]using hp) (by simp))
     exact P
    let#[o9,b3,_]:=Ψ.dictOf_iff.mp b1;refine#[m',d1,i+1,MX ys kk y,O,H8,_,o9,I9.pins_of ?_,T.keep _ _ _ a8 λb t o e=>(b4.2 b (F b (c3 b t)).2).trans (L b t o e).1,λb t=>?_,vl.put kk r8,b1,?_,w8]
    .intro p hp
     rw[Ji.mp hp]
     exact#[b3,M.2.1,P,K,λv z=>gV b1 b3 v z]
    .let#[o,e,_]:=T.obj _ _ a8 b t
     exact(L b t o e).2
    .have:=Z9 ys kk y;omega
  .let#[o3,b5,_]:=Ψ.dictOf_iff.mp a7
   refine#[(0),[],σ0 own.length js σ,H2,[],o3,I3.pins_of ?_,d6,λb t=>(f2 b t).1,.nil,a7,JB _,w0]
   intro p hp;rw[Ji.mp hp]
   exact#[b5,I2.hok.fresh (Jf _),P,K,λv z=>gV a7 b5 v z]
 have b0:tn 0 A:=T.keep _ _ _ b6 λb _ o e=>c2 b o e
 exact codeAny_compStart_dict (a1 _ IY b0 R) (T.self _ 0 _ _ _ b0 (a1 _ IY b0 R))
theorem AC{d:Scope}{p:List (Str×Δ)}{j:Pos}{fr own:Α}{i:Nat}{y:Str}
  (hN:X.N.Nodup)(A:X.N[i]? =↑y)(hx:fQ X.env.scope y)
  (hc:X.calm=true)(hi:PI X tg f L)(l:closureFor d X.env=pure p)(E:∀y c,p.lookup y=↑c->X.env.cells.lookup y=↑c)(B:p.map (·.1)=fr)
  (S:MU X d fr js)
  (hg:∀C s H fp,PG (qY X (own++fr) d p C s H fp) tg g)(hk:∀C s H fp,PE (qY X (own++fr) d p C s H fp) w tk)(hv:∀C s H fp,PE (qY X (own++fr) d p C s H fp) u tv)
  (hs:∀x,foldedSetIterable f X.env x=pure x:=by intro _;rfl)(G:swapsWith (.DictComp w u [#[tg,f,[],(0)]] d pos) ↑(.Name y t) j.line X.env=pure true:=by rfl)
  (hf:X.fn y=true\/X.env.scope.names.lookup y=some .local:=by first|exact .inl Z|exact .inr Z|assumption):
  PS X (.Assign [.Name y t] (.DictComp w u [#[tg,f,[],(0)]] d pos) j) (cU (oS own.length js L g tk tv) (Qf i)):=by
 intro R0 s σ H D I h;rw[exec_Assign_Name_used _ _ _ _ G];refine Ja (Ib (Ja ?_))
 show ε _ X.A (do let _ <- comprehension (.DictComp w u [#[tg,f,[],(0)]] d pos) d X.env _ newDict false (eval f X.env) ↑(assign (.Name y t) X.env)) _ _ s
 refine Ja (Jx (vV (use:=↑(assign (.Name y t) X.env)) (Post:=λ_ s'=>SP X R0 D .next s') hc hi l E B S hg hk hv hs I h ?_) (λ_ s' U=>Jd (Jd U)) λ_ _ e=>e)
 intro r C W H' m N M n q
 show ε _ X.A (assign (.Name y t) X.env (-r)) _ _ _
 refine wpAny_assign_Name (bG (v:= .ref r) N hN A hx Z (λQ T O=>?_) hf)
 let#[a,J,P]:=O;have F:C≠a:=by
  rcases P with z|z
  .rw[z];exact n.loc
  .exact Ne.symm (n.cell _ _ z)
 refine#[m,M.sameBut J F,λh' K=>?_]
 exact#[_,H',T.turned (t':=Q.toks) (λb o R e=>(K.2 b R).trans e) n.free n.loc (.inr n.new) n.cell n.pin,q]
end L3
namespace L3
open PySem PySem.Spec PyProof.Rows L2
def Qo(x:Int):Int:=if 4095<x then 4095 else x
theorem E6{l c x y:Int}(hc:l<c)(h:Qo (l+x)=Qo (l+y)):Qo (c+x)=Qo (c+y):=by
 unfold Qo at h⊢;split at h<;>split at h<;>split<;>split<;>lia
theorem Ca{l c x y:Int}(h:Qo (l+x)=Qo (l+y))(a:c<=4095)(z:c<=l+x):c<=l+y:=by
 unfold Qo at h;split at h<;>split at h<;>lia
noncomputable def Qz(D:Dr)(e:Kb)(a:Int):Λ:=match e.wt with
 |none=>none
 |some (x,w)=>if x=a/\w+1<=Qo (e.last+D.far)then ↑(w+1)else none
theorem cM{e:Kb}(h1:e.last+1<4096)(c:qO D e a=true):zw D e a=(e.last+1,Qo (e.last+D.near))::(Qz D e a).toList.map λx=>(x,x):=by
 unfold zw Qz Qo;rw[Jc c,Jc h1];cases e.wt with
 |none=>rfl
 |some p=>
  let#[x,w]:=p;simp only
  by_cases h:x=a/\w+1<=(if 4095<e.last+D.far then 4095 else e.last+D.far)
  .rw[Jc h,Jc h];rfl
  .rw[Jb h,Jb h];rfl
theorem Nn:qO D e a=true↔qG e.age D.least<=a/\a<D.kss.length:=by
 unfold qO Q2 qG;rw[JF,JF,decide_eq_true_eq,decide_eq_true_eq,decide_eq_true_eq];constructor
 .rintro⟨⟨h1,c⟩,d⟩
  split<;>lia
 .rintro⟨h1,c⟩
  split at h1<;>lia
theorem yY{D:Dr}{e:Kb}{a:Int}(c:¬(qG e.age D.least<=a/\a<D.kss.length)):zw D e a=[]:=by
 unfold zw;rw[Jb λz=>c (Nn.mp z)]
theorem Dy{o o':Λ}(h:(o.toList.map λx:Int=>(x,x))=o'.toList.map λx=>(x,x)):o=o':=by
 cases o with
 |none=>cases o' with
  |none=>rfl
  |some y=>cases h
 |some x=>cases o' with
  |none=>cases h
  |some y=>simp at h;rw[h]
structure Of(D:Dr)(e:Kb)(D':Dr)(e':Kb):Prop where
 h1:e.last+1<4096
 l:e'.last=e.last
 A:qG e'.age D'.least=qG e.age D.least
 K:D'.kss.length=D.kss.length
 n:Qo (e.last+D'.near)=Qo (e.last+D.near)
theorem Of.symm(s:Of D e D' e'):Of D' e' D e:=#[by rw[s.l];exact s.h1,s.l.symm,s.A.symm,s.K.symm,by rw[s.l];exact s.n.symm]
theorem Of.str(s:Of D e D' e')(a:Int):zw D e a=zw D' e' a↔(qG e.age D.least<=a->a<D.kss.length->Qz D e a=Qz D' e' a):=by
 by_cases h:qG e.age D.least<=a/\a<D.kss.length
 .have h':qG e'.age D'.least<=a/\a<D'.kss.length:=by rw[s.A,s.K];exact h
  rw[cM s.h1 (Nn.mpr h),cM (by rw[s.l];exact s.h1) (Nn.mpr h'),s.l,s.n]
  constructor
  .intro z _ _
   injection z with _ z
   exact Dy z
  .intro z
   rw[z h.1 h.2]
 .have h':¬(qG e'.age D'.least<=a/\a<D'.kss.length):=by rw[s.A,s.K];exact h
  rw[yY h,yY h']
  exact#[λ_ h1 c=>absurd #[h1,c] h,λ_=>rfl]
theorem Of.pa(s:Of D e D' e')(d:0<=qG e.age D.least):QK D ↑e D' ↑e'=none↔∀a,qG e.age D.least<=a->a<D.kss.length->Qz D e a=Qz D' e' a:=by
 constructor
 .intro h a h1 c
  exact(s.str a).mp (aV h (by lia) c) h1 c
 .intro h
  exact zA λa _ _=>Jc ((s.str a).mpr (h a))
theorem FP(d:MQ D)(d':MQ D')(k:MS D e)(f:MS D' e')(hk:D.kss.length=D'.kss.length)(no:QK D ↑e D' ↑e'=none)(h1:e.last+1<4096):Of D e D' e':=by
 have a0:=k.a0;have p:=f.a0;have v:=k.a1;have n:=f.a1;have s:=d.lk;have o:=d'.lk;have t:=d.l0;have q:=d'.l0;have c:0<=qG e.age D.least/\qG e.age D.least<D.kss.length:=by unfold qG;split<;>lia
 have i:0<=qG e'.age D'.least/\qG e'.age D'.least<D'.kss.length:=by unfold qG;split<;>lia
 have all:∀a:Int,0<=a->a<D.kss.length->zw D e a=zw D' e' a:=λa m h1=>aV no m h1
 have g:e'.last+1<4096:=Pu λg=>by
  have h:=(Z6 d k h1 (a:=qG e.age D.least)).mpr #[GZ _,c.2]
  rw[all _ c.1 c.2,iI d' f g]at h;exact h Z
 have l:qG e.age D.least=qG e'.age D'.least:=by
  have h:=(Z6 d k h1 (a:=qG e.age D.least)).mpr #[GZ _,c.2]
  rw[all _ c.1 c.2]at h;have u:=(Z6 d' f g).mp h;have p2:=(Z6 d' f g (a:=qG e'.age D'.least)).mpr #[GZ _,i.2]
  rw[<- all _ i.1 (by rw[hk];exact i.2)]at p2
  have r:=(Z6 d k h1).mp p2;lia
 have:=all _ c.1 c.2
 rw[cM h1 (Nn.mpr #[GZ _,c.2]),cM g (Nn.mpr #[by rw[<- l];exact GZ _,by rw[<- hk];exact c.2])]at this
 injection this with z _
 injection z with z1 z2
 have j:e'.last=e.last:=by lia
 rw[j]at z2
 exact#[h1,j,l.symm,hk.symm,z2.symm]
def ZJ(D:Dr)(e:Kb)(a c:Int):Prop:=e.last<c/\(c<=e.last+D.near\/(c<=e.last+D.far/\e.wt=↑(a,c-1)))
theorem iU(g:qO D e a=true)(h:ZJ D e a c):(qR D e a c).2=#[a,c,none]:=by
 unfold qR zD;rw[Jc g,Jb (by have:=h.1;lia)]
 by_cases d:c<=e.last+D.near
 .rw[Jc d]
 .let#[f,i]:=h.2.resolve_left d
  rw[Jb d,Jc f,Jc i]
theorem xm{c:Int}(d:qO D e a=true)(h:¬ZJ D e a c)(h1:e.last<c)(h2:c<=e.last+D.far):(qR D e a c).2=#[e.age,e.last,↑(a,c)]:=by
 unfold qR zD;rw[Jc d,Jb (by lia),Jb λz=>h #[h1,.inl z],Jc h2,Jb λz=>h #[h1,.inr #[h2,z]]]
theorem Z4{D:Dr}{c:Int}(f:D.near<=D.far)(h:qO D e a=false\/c<=e.last\/e.last+D.far<c):(qR D e a c).2=e:=by
 rcases h with h|h|h
 .unfold qR;rw[Jb (by rw[h];decide)]
 .exact nH h
 .by_cases d:c<=e.last
  .exact nH d
  .unfold qR zD
   split
   .rw[Jb (by lia),Jb (by lia)]
   .rfl
theorem aP(d:MQ D)(k:MS D e){c:Int}(i:c<=4095)(hn:¬c<=e.last+D.near)(h:e.last<c):ZJ D e a c↔Qz D e a=↑c:=by
 unfold ZJ Qz;cases ew:e.wt with
 |none=>exact#[λz=>absurd z.2 (λy=>y.elim hn λy=>by cases y.2),λz=>by cases z]
 |some p=>
  let#[x,w]:=p;simp only
  constructor
  .rintro⟨_,z|⟨j,f⟩⟩
   .exact absurd z hn
   .injection f with f
    injection f with f z3
    subst f;rw[Jc #[Z,by unfold Qo;split<;>lia]]
    congr 1;lia
  .intro z
   split at z
   .rename_i y
    injection z with z
    let#[rfl,g]:=y;refine#[h,.inr #[by unfold Qo at g;split at g<;>lia,by congr 2;lia]]
   .cases z
section
variable{a c:Int}
theorem Of.open_iff(s:Of D e D' e')(d:MQ D)(d':MQ D')(k:MS D e)(g:MS D' e')(ow:Qz D e a=Qz D' e' a)(i:c<=4095):ZJ D e a c↔ZJ D' e' a c:=by
 have f:∀{D D':Dr} {e e':Kb},Of D e D' e'->MQ D->MQ D'->MS D e->MS D' e'->Qz D e a=Qz D' e' a->ZJ D e a c->ZJ D' e' a c:=λ{D D' e e'} s d d' k g ow h=>by
  have m:=s.l;have n:=s.n;have o:=h.1
  by_cases l:c<=e.last+D.near
  .refine#[by lia,.inl ?_]
   rw[m];exact Ca n.symm i l
  .have j:¬c<=e'.last+D'.near:=by
    rw[m];exactλz=>l (Ca n i z)
   have:=(aP d k i l o).mp h
   rw[ow]at this
   exact(aP d' g i j (by lia)).mpr this
 exact#[f s d d' k g ow,f s.symm d' d g k ow.symm]
theorem Of.opened(s:Of D e D' e')(d:MQ D)(d':MQ D')(g:qG e.age D.least<=a)(hc:e.last<c)(n:c<=4095)(a0:0<=a):QK D (some #[a,c,none]) D' (some #[a,c,none])=none:=by
 have f:qG e'.age D'.least<=a:=by rw[s.A];exact g
 have j:qG a D.least=a:=by unfold qG at g⊢;split at g<;>split<;>lia
 have m:qG a D'.least=a:=by unfold qG at f⊢;split at f<;>split<;>lia
 by_cases h:c+1<4096
 .have l:Of D #[a,c,none] D' #[a,c,none]:=by
   exists h,Z,by show qG a D'.least=qG a D.least;rw[j,m],s.K
   exact E6 hc s.n
  exact(l.pa (by show 0<=qG a D.least;rw[j];exact a0)).mpr λ_ _ _=>rfl
 .have i:∀(D:Dr) (x:Int),zw D #[a,c,none] x=[]:=λD x=>by
   unfold zw;split
   .rfl
   .rfl
  exact zA λx _ _=>Jc (by show zw D _ x=zw D' _ x;rw[i,i])
theorem bg{D:Dr}{d l a c:Int}:Qz D #[d,l,↑(a,c)] x=if a=x/\c+1<=Qo (l+D.far)then ↑(c+1)else none:=Z
noncomputable def fW(D:Dr)(e:Kb)(a c:Int):Kb:=if c<=e.last+D.far then#[e.age,e.last,↑(a,c)]else e
theorem gy(d:D.near<=D.far)(f:qO D e a=true)(h:¬ZJ D e a c)(h1:e.last<c):(qR D e a c).2=fW D e a c:=by
 unfold fW;split
 .rename_i z;exact xm f h h1 z
 .rename_i z;exact Z4 d (.inr (.inr (by lia)))
theorem cB:(fW D e a c).last=e.last/\(fW D e a c).age=e.age:=by unfold fW;split<;>exact#[9]
theorem Of.fW(s:Of D e D' e'):Of D (fW D e a c) D' (L3.fW D' e' a c):=by
 have f1:=cB (D:=D) (e:=e) (a:=a) (c:=c)
 have f2:=cB (D:=D') (e:=e') (a:=a) (c:=c)
 exact#[by rw[f1.1];exact s.h1,by rw[f1.1,f2.1];exact s.l,by rw[f1.2,f2.2];exact s.A,s.K,by rw[f1.1];exact s.n]
noncomputable def Qa(D:Dr)(e:Kb)(D':Dr)(e':Kb)(a c:Int):Option (Int×Int):=QK D (some (qR D e a c).2) D' (some (qR D' e' a c).2)
structure Og(D:Dr)(e:Kb)(D':Dr)(e':Kb):Prop where
 s:Of D e D' e'
 d:MQ D
 d':MQ D'
 k:MS D e
 k':MS D' e'
 no:QK D ↑e D' ↑e'=none
theorem Og.a0(t:Og D e D' e'):0<=qG e.age D.least/\qG e.age D.least<D.kss.length:=by
 have:=t.k.a0
 have:=t.k.a1
 have:=t.d.l0
 have:=t.d.lk
 unfold qG;split<;>lia
theorem Og.symm(t:Og D e D' e'):Og D' e' D e:=#[t.s.symm,t.d',t.d,t.k',t.k,by rw[sX t.s.K];exact t.no]
theorem Og.ow(t:Og D e D' e'){a:Int}(h1:qG e.age D.least<=a)(h2:a<D.kss.length):Qz D e a=Qz D' e' a:=(t.s.pa t.a0.1).mp t.no a h1 h2
theorem j5(h:D.kss.length=D'.kss.length)(a c:Int):Qa D e D' e' a c=Qa D' e' D e a c:=sX h _ _
theorem F1{a x:Int}(h:Qz D e a=↑x):x<=Qo (e.last+D.far):=by
 unfold Qz at h;cases ew:e.wt with
 |none=>rw[ew]at h;cases h
 |some p=>
  rw[ew]at h;let#[y,w]:=p;simp only at h
  split at h
  .rename_i z;injection h with h;lia
  .cases h
theorem i7(x:Int):Qo x<=x/\Qo x<=4095:=by unfold Qo;split<;>lia
theorem nz{x y:Int}(h:y<=x)(h2:y<=4095):y<=Qo x:=by unfold Qo;split<;>lia
theorem Og.ne(t:Og D e D' e'){a c:Int}(f:c<=4095)(h:Qa D e D' e' a c≠none):(qG e.age D.least<=a/\a<D.kss.length)/\e.last<c/\¬ZJ D e a c:=by
 have h1:qG e.age D.least<=a/\a<D.kss.length:=Pu λz=>h (by
  unfold Qa;have j:qO D e a=false:=Ly.mpr λy=>z (Nn.mp y)
  have g:qO D' e' a=false:=Ly.mpr λy=>z (by have:=Nn.mp y;rw[t.s.A,t.s.K]at this;exact this)
  rw[Z4 t.d.nf (.inl j),Z4 t.d'.nf (.inl g)];exact t.no)
 have d:e.last<c:=Pu λz=>h (by
  unfold Qa;rw[Z4 t.d.nf (.inr (.inl (by lia))),Z4 t.d'.nf (.inr (.inl (by rw[t.s.l];lia)))];exact t.no)
 refine#[h1,d,λz=>h ?_]
 have i:=(t.s.open_iff t.d t.d' t.k t.k' (t.ow h1.1 h1.2) f).mp z;unfold Qa;rw[iU (Nn.mpr h1) z,iU (Nn.mpr (by rw[t.s.A,t.s.K];exact h1)) i]
 exact t.s.opened t.d t.d' h1.1 d f (by have:=t.a0;lia)
theorem Og.is(t:Og D e D' e'){a c:Int}(g:c<=4095)(h1:qG e.age D.least<=a/\a<D.kss.length)(h2:e.last<c)(f:¬ZJ D e a c):Qa D e D' e' a c=none↔∀x,qG e.age D.least<=x->x<D.kss.length->Qz D (fW D e a c) x=Qz D' (fW D' e' a c) x:=by
 have d:¬ZJ D' e' a c:=λz=>f ((t.s.open_iff t.d t.d' t.k t.k' (t.ow h1.1 h1.2) g).mpr z)
 unfold Qa;rw[gy t.d.nf (Nn.mpr h1) f h2,gy t.d'.nf (Nn.mpr (by rw[t.s.A,t.s.K];exact h1)) d (by rw[t.s.l];exact h2)]
 have f1:=cB (D:=D) (e:=e) (a:=a) (c:=c)
 have:=(t.s.fW (a:=a) (c:=c)).pa (by rw[f1.2];exact t.a0.1)
 rw[f1.2]at this;exact this
theorem gE{a c:Int}(h:c<=e.last+D.far):fW D e a c=#[e.age,e.last,↑(a,c)]:=Jc h
theorem iO{a c:Int}(h:e.last+D.far<c):fW D e a c=e:=Jb (by lia)
theorem Og.wit1(t:Og D e D' e')(hf:D'.far<=D.far){a c:Int}(K:c<=4095)(h:Qa D e D' e' a c≠none):
  e.last+D'.far<=c/\((e.last+D'.far<=4095/\Qa D e D' e' (qG e.age D.least) (e.last+D'.far)≠none)\/(e.last+D'.far+1<=4095/\Qa D e D' e' (qG e.age D.least) (e.last+D'.far+1)≠none)):=by
 let#[h1,G,F]:=t.ne K h;have X:=t.d.nf;have O:=t.d'.nf;have S:=t.d.n0;have P:=t.d'.n0;have i:=t.s.l;have o:=t.a0;let#[A,f]:∃A,A=qG e.age D.least:=#[0]
 have N:¬c<=e.last+D.near:=λz=>F #[G,.inl z]
 have C:=t.ow (a:=A) (by rw[f];exact GZ _) (by rw[f];exact o.2)
 have d:∀{x a:Int},Qz D' e' a=↑x->x<=e.last+D'.far:=λ{x a} z=>by
  have I:=F1 z;have L:=(i7 (e'.last+D'.far)).1;rw[i]at L I;lia
 let#[x,g,n,l]:∃x,qG e.age D.least<=x/\x<D.kss.length/\Qz D (fW D e a c) x≠Qz D' (fW D' e' a c) x:=Classical.byContradiction λz=>h ((t.is K h1 G F).mpr λx s r=>Pu λw=>z #[x,s,r,w])
 rw[<- f]at o g⊢;have next:e.last+D'.far+1<=4095->D'.far<D.far->e.last+D.near<e.last+D'.far+1->((∃y,A<=y/\y<D.kss.length/\Qz D e y≠none)\/e.last+D'.far+2<=Qo (e.last+D.far))->Qa D e D' e' A (e.last+D'.far+1)≠none:=λH R U Q z=>by
  have no:¬ZJ D e A (e.last+D'.far+1):=λy=>by
   have:=(aP t.d t.k H (by lia) (by lia)).mp y
   rw[C]at this
   have:=d this
   lia
  have m:qG e.age D.least<=A/\A<D.kss.length:=by rw[<- f];exact#[GZ _,o.2]
  have all:=(t.is H m (by lia) no).mp z
  rw[gE (D:=D) (e:=e) (by lia),iO (D:=D') (e:=e') (by rw[i];lia)]at all
  have n2:¬e.last+D'.far+2<=Qo (e.last+D.far):=λy=>by
   have:=all A m.1 m.2
   rw[bg,Jc #[Z,by lia]]at this
   have:=d this.symm
   lia
  rcases Q with⟨y,s,r,w⟩|y
  .have:=all y (by rw[<- f];exact s) r
   rw[bg,Jb (λq=>n2 (by have:=q.2;lia)),<- t.ow (by rw[<- f];exact s) r]at this
   exact w this.symm
  .exact n2 y
 by_cases Y:c<=e.last+D'.far
 .rw[gE (D:=D) (e:=e) (by lia),gE (D:=D') (e:=e') (by rw[i];lia),bg,bg,i]at l
  have B:a=x/\c+1<=Qo (e.last+D.far)/\¬c+1<=Qo (e.last+D'.far):=by
   by_cases j:a=x/\c+1<=Qo (e.last+D.far)
   .refine#[j.1,j.2,λq=>l ?_]
    rw[Jc j,Jc #[j.1,q]]
   .refine absurd ?_ l
    rw[Jb j,Jb λq=>j #[q.1,?_]]
    have:=q.2
    have L:=i7 (e.last+D'.far);exact nz (by lia) (by lia)
  let#[_,T,J]:=B;have I:=i7 (e.last+D.far);have W:c=e.last+D'.far:=Pu λz=>J (nz (by lia) (by lia))
  exists by lia
  by_cases E:ZJ D e A (e.last+D'.far)
  .right
   have M:=(aP t.d t.k (by lia) (by lia) (by lia)).mp E
   exact#[by lia,next (by lia) (by lia) (by lia) (.inl #[A,GZ _,o.2,by rw[M];exactλz=>by cases z])]
  .left
   refine#[by lia,λz=>?_]
   have m:qG e.age D.least<=A/\A<D.kss.length:=by rw[<- f];exact#[GZ _,o.2]
   have all:=(t.is (by lia) m (by lia) E).mp z A m.1 m.2
   rw[gE (D:=D) (e:=e) (by lia),gE (D:=D') (e:=e') (by rw[i];lia),bg,bg,Jc #[Z,by lia],Jb (λq=>J (by have:=q.2;rw[i]at this;lia))]at all
   cases all
 .have v:c<=e.last+D.far:=Pu λz=>l (by
   rw[iO (D:=D) (e:=e) (by lia),iO (D:=D') (e:=e') (by rw[i];lia)]
   exact t.ow (by rw[<- f];exact g) n)
  rw[gE (D:=D) (e:=e) v,iO (D:=D') (e:=e') (by rw[i];lia),bg]at l
  have p:e.last+D.near<e.last+D'.far+1:=Pu λz=>by
   have u:=t.s.n;unfold Qo at u;split at u<;>split at u<;>lia
  refine#[by lia,.inr #[by lia,next (by lia) (by lia) p ?_]]
  by_cases j:c+1<=Qo (e.last+D.far)
  .exact .inr (by lia)
  .rw[Jb λq=>j q.2]at l
   exact .inl #[x,g,n,by rw[t.ow (by rw[<- f];exact g) n];exact l.symm]
theorem Og.wit(t:Og D e D' e'){a c:Int}(g:c<=4095)(h:Qa D e D' e' a c≠none):
  zS D e D' e'<=c/\((zS D e D' e'<=4095/\Qa D e D' e' (qG e.age D.least) (zS D e D' e')≠none)\/(zS D e D' e'+1<=4095/\Qa D e D' e' (qG e.age D.least) (zS D e D' e'+1)≠none)):=by
 have f:=t.s.l
 by_cases i:D'.far<=D.far
 .have d:zS D e D' e'=e.last+D'.far:=by unfold zS QD;rw[f];split<;>lia
  rw[d];exact t.wit1 i g h
 .have d:zS D e D' e'=e'.last+D.far:=by unfold zS QD;rw[f];split<;>lia
  rw[d];have h':Qa D' e' D e a c≠none:=by rw[j5 t.s.K];exact h
  have:=t.symm.wit1 (by lia) g h'
  rw[t.s.A]at this;rw[j5 t.s.K.symm,j5 t.s.K.symm];exact this
theorem Og.all{J:Type}(t:Og D e D' e')(g:Int->Int->Int×Int->J){lo:Int}{n:Nat}(M:lo<=zS D e D' e')(N:lo+n<=4096)(F:∀c,c<=4095->c<=zS D e D' e'+1->c<lo+n):
  (Qh 0 D.kss.length λa=>Qh lo n λc=>(Qa D e D' e' a c).map (g a c))=(aa D ↑e D' ↑e').map λq=>g q.1.1 q.1.2 q.2:=by
 let#[G,H]:=t.a0;let#[A,v]:∃A,A=qG e.age D.least:=#[0]
 let#[L,u]:∃L,L=zS D e D' e':=#[0]
 have ep:aa D ↑e D' ↑e'=Qh L (QD (L+2) 4096-L).toNat λc=>(Qa D e D' e' A c).map λp=>((A,c),p):=by rw[u,v];rfl
 have wit:∀{a c:Int},c<=4095->Qa D e D' e' a c≠none->L<=c/\((L<=4095/\Qa D e D' e' A L≠none)\/(L+1<=4095/\Qa D e D' e' A (L+1)≠none)):=λ{a c} f h=>by rw[u,v];exact t.wit f h
 have B:∀{a c:Int},c<=4095->a<A->Qa D e D' e' a c=none:=λ{a c} f h=>Pu λz=>by
  have:=(t.ne f z).1.1
  lia
 rw[<- v]at G H;rw[<- u]at M F;rw[ep];have d:∀i:Nat,(i=0\/i=1)->L+(i:Int)<=4095->(∀j:Nat,j<i->Qa D e D' e' A (L+(j:Int))=none)->∀p,Qa D e D' e' A (L+(i:Int))=↑p->(Qh 0 D.kss.length λa=>Qh lo n λc=>(Qa D e D' e' a c).map (g a c))=(Qh L (QD (L+2) 4096-L).toNat λc=>(Qa D e D' e' A c).map λp=>((A,c),p)).map λq=>g q.1.1 q.1.2 q.2:=λi hi h1 E p m=>by
  have r:Qh L (QD (L+2) 4096-L).toNat (λc=>(Qa D e D' e' A c).map λp=>((A,c),p))=↑((A,L+(i:Int)),p):=by
   refine QN (i:=i) (by unfold QD;split<;>lia) (by rw[m];rfl) λx I K=>?_
   have:=E (x-L).toNat (by lia)
   rw[show L+((x-L).toNat:Int)=x by lia]at this
   rw[this];rfl
  rw[r];have O:=F (L+(i:Int)) h1 (by lia)
  refine QN (i:=A.toNat) (by lia) ?_ λx I K=>zA λc s f=>by rw[B (by lia) (by lia)];rfl
  rw[show(0:Int)+(A.toNat:Int)=A by lia]
  refine QN (i:=(L+(i:Int)-lo).toNat) (by lia) (by rw[show lo+((L+(i:Int)-lo).toNat:Int)=L+(i:Int) by lia,m];rfl) λc s f=>?_
  have:Qa D e D' e' A c=none:=Pu λz=>by
   have w:=(wit (by lia) z).1
   have:=E (c-L).toNat (by lia)
   rw[show L+((c-L).toNat:Int)=c by lia]at this
   exact z this
  rw[this];rfl
 by_cases o:L<=4095/\Qa D e D' e' A L≠none
 .let#[p,m]:=K9.mp o.2
  exact d 0 (.inl Z) (by lia) (λj C=>absurd C (I1 _)) p (by rw[show L+((0:Nat):Int)=L by lia];exact m)
 by_cases h1:L+1<=4095/\Qa D e D' e' A (L+1)≠none
 .let#[p,m]:=K9.mp h1.2
  refine d 1 (.inr Z) (by lia) (λj C=>?_) p m
  obtain rfl:j=0:=by lia
  rw[show L+((0:Nat):Int)=L by lia]
  exact Pu λz=>o #[by lia,z]
 have l:∀{a c:Int},c<=4095->Qa D e D' e' a c=none:=λ{a c} f=>Pu λz=>by
  rcases(wit f z).2 with y|y
  .exact o y
  .exact h1 y
 rw[zA λa _ _=>zA λc s f=>by rw[l (by lia)];rfl,zA λc s f=>by rw[l (by unfold QD at f;split at f<;>lia)];rfl]
 rfl
theorem tM(i:D.near<=D.far)(he:D.kn.lookup nm=↑e):qE D nm a c="open"↔qO D e a=true/\ZJ D e a c:=by
 have d:¬(("":Str)="open"):=by decide
 have h:¬(("wait":Str)="open"):=by decide
 unfold qE ZJ;rw[he];simp only
 by_cases f:qO D e a=true
 .rw[Jc f]
  by_cases h1:c-e.last<1\/c-e.last>D.far
  .rw[Jc h1]
   exact#[λz=>absurd z d,λz=>absurd z.2 λy=>by rcases y.2 with q|q<;>lia]
  .rw[Jb h1]
   by_cases g:c-e.last<=D.near\/e.wt=↑(a,c-1)
   .rw[Jc g]
    exact#[λ_=>#[f,by lia,g.imp (λ_=>by lia) λq=>#[by lia,q]],λ_=>rfl]
   .rw[Jb g]
    exact#[λz=>absurd z h,λz=>absurd (z.2.2.imp (λq=>by lia) λq=>q.2) g]
 .rw[Jb f]
  exact#[λz=>absurd z d,λz=>absurd z.1 f]
theorem wC(d:MQ D)(k:MS D e)(i:c<=4095):QU c (zw D e a)=true↔qO D e a=true/\ZJ D e a c:=by
 have m:=d.n0;have n:=d.nf;have o:=k.l1
 by_cases f:qO D e a=true
 .by_cases h1:e.last+1<4096
  .rw[cM h1 f]
   unfold QU;rw[J4,Bool.or_eq_true,JF,decide_eq_true_eq,decide_eq_true_eq];have ow:(((Qz D e a).toList.map λx=>(x,x)).any λp=>decide (p.1<=c)&&decide (c<=p.2))=true↔Qz D e a=↑c:=by
    cases Qz D e a with
    |none=>exact#[(λz=>by cases z),λz=>by cases z]
    |some x=>
     show((decide (x<=c)&&decide (c<=x))||false)=true↔_
     rw[PL,JF,decide_eq_true_eq,decide_eq_true_eq,SG];lia
   rw[ow];simp only
   by_cases g:c<=e.last+D.near
   .constructor
    .rintro(z|z)
     .exact#[f,by lia,.inl g]
     .have:=ow_gt d k z
      lia
    .rintro⟨_,z,_⟩
     exact .inl #[by lia,nz g i]
   .have l:¬(e.last+1<=c/\c<=Qo (e.last+D.near)):=λz=>by
     have:=i7 (e.last+D.near)
     lia
    constructor
    .rintro(z|z)
     .exact absurd z l
     .have j:e.last<c:=by lia
      exact#[f,(aP d k i g j).mpr z]
    .rintro⟨_,z⟩
     exact .inr ((aP d k i g z.1).mp z)
  .rw[iI d k h1]
   exact#[(λz=>by cases z),λz=>by have:=z.2.1;lia]
 .have:zw D e a=[]:=by unfold zw;rw[Jb f]
  rw[this]
  exact#[(λz=>by cases z),λz=>absurd z.1 f]
where
 ow_gt {D:Dr} {e:Kb} {a x:Int} (d:MQ D) (k:MS D e) (h:Qz D e a=↑x):e.last+D.near<x:=by
  unfold Qz at h;cases ew:e.wt with
  |none=>rw[ew]at h;cases h
  |some p=>
   let#[y,w]:=p;rw[ew]at h
   have:=k.w y w ew
   simp only at h
   split at h
   .injection h with h;lia
   .cases h
theorem mF(d:MQ D)(k:MS D e)(h:QU c (zw D e a)=true):e.last<c/\c<=e.last+D.far/\c<=4095:=by
 have f:c<=4095:=Pu λz=>by rw[(gs d k a).out (.inr (by lia))]at h;cases h
 let#[_,h1,g]:=(wC d k f).mp h
 have i:=d.nf
 exact#[h1,g.elim (λz=>by lia) λz=>z.1,f]
theorem aR(d:MQ D)(k:bj D (D.kn.lookup nm))(f:c<=4095):Qi D nm a c=QU c (zn D a (D.kn.lookup nm)):=by
 unfold Qi;rw[Iu,decide_eq_true_eq];cases he:D.kn.lookup nm with
 |none=>
  have:qE D nm a c="":=by unfold qE;rw[he]
  rw[this]
  exact#[λz=>absurd z ⋯,λz=>by cases z]
 |some e=>
  rw[he]at k;rw[tM d.nf he]
  exact(wC d k f).symm
theorem rX{lo:Int}{n:Nat}(d:MQ D)(d':MQ D')(k:bj D (D.kn.lookup nm))(g:bj D' (D'.kn.lookup nm))(r:0<=lo)(p:lo+n<=4096)
  (hb:∀a x,zn D a (D.kn.lookup nm)≠zn D' a (D'.kn.lookup nm)->QU x (zn D a (D.kn.lookup nm))=true\/QU x (zn D' a (D'.kn.lookup nm))=true->lo<=x/\x<lo+n):Qc D D' D.kss.length lo n nm=Ql D D' nm:=by
 unfold Qc Ql QK;rw[DN];refine af λa _ _=>?_
 have hb:=hb a;let#[S,eS]:∃S,S=zn D a (D.kn.lookup nm):=#[0]
 let#[e,f]:∃e,e=zn D' a (D'.kn.lookup nm):=#[0]
 have i:mZ D D' lo n nm a=(Qt lo (lo+n) (Q8 S e)).map λc=>[(nm,a,c)]:=by
  rw[<- yo];refine af λc t m=>?_
  rw[aR d k (by lia),aR d' g (by lia),<- eS,<- f]
  unfold Q8
  by_cases z:QU c S=QU c e
  .rw[Jc z,Jn (λy=>y z),Jb ⋯]
  .rw[Jb z,Jj z,Jc Z]
 rw[i,<- eS,<- f];rw[<- eS,<- f]at hb
 by_cases z:S=e
 .rw[Jc z]
  have:Qt lo (lo+n) (Q8 S e)=none:=ym λx _ _=>by
   unfold Q8;rw[z];exact Jn λy=>y Z
  rw[this];rfl
 .rw[Jb z]
  let#[q,o,h,j]:=ZS (eQ (by rw[eS];exact aN d k a) (by rw[f];exact aN d' g a) z)
  have w:=hb (Qb S e) z (by
   have:=Jz h
   cases y:QU (Qb S e) S with
   |true=>exact .inl Z
   |false=>cases y':QU (Qb S e) e with
    |true=>exact .inr Z
    |false=>rw[y,y']at this;exact absurd Z this)
  rw[Ba w.1 w.2 h λx s l=>j x (by lia) l];rfl
end
noncomputable def bo(D D':Dr)(d:Nat)(lo:Int)(n:Nat)(nm:Str):Option zi:=Qh 0 d λa=>Qh lo n λc=>
 if qE D nm a c=""/\qE D' nm a c="" then none else(Qc {D with kn:=HP D nm a c} {D' with kn:=HP D' nm a c} d lo n nm).map λr=>(nm,a,c)::r
section
theorem tO(he:D.kn.lookup nm=↑e)(h:qE D nm a c="")(d:D.near<=D.far):(qR D e a c).2=e:=by
 unfold qE at h;rw[he]at h;simp only at h
 by_cases f:qO D e a=true
 .rw[Jc f]at h
  by_cases h1:c-e.last<1\/c-e.last>D.far
  .exact Z4 d (h1.elim (λz=> .inr (.inl (by lia))) λz=> .inr (.inr (by lia)))
  .rw[Jb h1]at h
   split at h
   .exact absurd h ⋯
   .exact absurd h ⋯
 .exact Z4 d (.inl (Ly.mpr f))
theorem bH{c:Int}(he:D.kn.lookup nm=↑e)(h1:¬e.last+1<4096)(d:c<=4095):qE D nm a c="":=by
 unfold qE;rw[he];simp only
 split
 .rw[Jc (.inl (by lia))]
 .rfl
theorem bM(he:D.kn.lookup nm=none):qE D nm a c="":=by unfold qE;rw[he]
theorem jA(d:MQ D)(k:MS D e)(h:∀a:Int,0<=a->a<D.kss.length->zw D e a=[]):¬e.last+1<4096:=λh1=>by
 have:=k.a0
 have:=k.a1
 have:=d.l0
 have:=d.lk
 have c:0<=qG e.age D.least/\qG e.age D.least<D.kss.length:=by unfold qG;split<;>lia
 exact(Z6 d k h1 (a:=qG e.age D.least)).mpr #[GZ _,c.2] (h _ c.1 c.2)
theorem BM{base:Int}{n:Nat}{r:Int}(ok:Nw D)(K:Nw D')(d:MQ D)(d':MQ D')(k:pJ D)(k':pJ D')(hk:D.kss.length=D'.kss.length)(b0:0<=base)(Q:base+n<=4096)(G:∀x,x<=4095->x<=base+(r+2)->x<base+n)
  (lo:∀nm e,D.kn.lookup nm=↑e->base<e.last/\e.last+D.far<=base+r)(N:∀nm e,D'.kn.lookup nm=↑e->base<e.last/\e.last+D'.far<=base+r)(no:Ql D D' nm=none):bo D D' D.kss.length base n nm=Zu D D' nm:=by
 unfold Ql at no;rw[Pj]at no;have kn:=k nm;have g:=k' nm;have quiet:(∀a c:Int,c<=4095->qE D nm a c=""/\qE D' nm a c="")->bo D D' D.kss.length base n nm=none:=λh=>zA λa _ _=>zA λc _ i=>Jc (h a c (by lia))
 unfold Zu;cases he:D.kn.lookup nm with
 |none=>
  rw[he]at no;cases he':D'.kn.lookup nm with
  |none=>exact quiet λa c _=>#[bM he,bM he']
  |some e'=>
   rw[he']at no g;have J:=jA d' g λa o h1=>(aV no o (by rw[hk];exact h1)).symm
   exact quiet λa c i=>#[bM he,bH he' J i]
 |some e=>
  rw[he]at no kn;cases he':D'.kn.lookup nm with
  |none=>
   rw[he']at no;have J:=jA d kn λa o h1=>aV no o h1
   exact quiet λa c i=>#[bH he J i,bM he']
  |some e'=>
   rw[he']at no g;have kn:MS D e:=kn
   have g:MS D' e':=g
   by_cases h1:e.last+1<4096
   .have t:Og D e D' e':=#[FP d d' kn g hk no h1,d,d',kn,g,no]
    let#[p1,p2]:=lo nm e he;let#[a2,a1]:=N nm e' he';have W:=d.n0;have O:=d.nf;have l:=d'.nf;have L:=d'.n0;have ge:base<=zS D e D' e':=by unfold zS QD;split<;>lia
    have le:zS D e D' e'<=base+r:=by unfold zS QD;split<;>lia
    have u:∀a c:Int,c<=4095->0<=c->(if qE D nm a c=""/\qE D' nm a c="" then none else(Qc {D with kn:=HP D nm a c} {D' with kn:=HP D' nm a c} D.kss.length base n nm).map λr=>(nm,a,c)::r)=(Qa D e D' e' a c).map λp=>[(nm,a,c),(nm,p.1,p.2)]:=λa c i F=>by
     by_cases A:qE D nm a c=""/\qE D' nm a c=""
     .rw[Jc A]
      unfold Qa;rw[tO he A.1 O,tO he' A.2 l,no];rfl
     .rw[Jb A]
      have H:=aD (age:=a) (c:=c) ok.nd he
      have m:=aD (age:=a) (c:=c) K.nd he'
      have R:=Z2 (age:=a) d kn F (by lia)
      have s:=Z2 (age:=a) d' g F (by lia)
      have dd:MQ {D with kn:=HP D nm a c}:=#[d.n0,d.n1,d.nf,d.f1,d.l0,d.lk]
      have E:MQ {D' with kn:=HP D' nm a c}:=#[d'.n0,d'.n1,d'.nf,d'.f1,d'.l0,d'.lk]
      have Y:Qc {D with kn:=HP D nm a c} {D' with kn:=HP D' nm a c} D.kss.length base n nm=Ql {D with kn:=HP D nm a c} {D' with kn:=HP D' nm a c} nm:=by
       refine rX (D:={D with kn:=HP D nm a c}) (D':={D' with kn:=HP D' nm a c}) dd E (by show bj _ ((HP D nm a c).lookup nm);rw[H];exact R.mono (Jf _)) (by show bj _ ((HP D' nm a c).lookup nm);rw[m];exact s.mono (Jf _)) b0 Q λx y ne j=>?_
       have ne:zn D x ((HP D nm a c).lookup nm)≠zn D' x ((HP D' nm a c).lookup nm):=ne
       have j:QU y (zn D x ((HP D nm a c).lookup nm))=true\/QU y (zn D' x ((HP D' nm a c).lookup nm))=true:=j
       rw[H,m]at ne j;have U:Qa D e D' e' a c≠none:=λz=>by
        by_cases w:0<=x/\x<(D.kss.length:Int)
        .exact ne (aV z w.1 w.2)
        .refine ne ?_
         have M:=d.l0;have I:=d'.l0;have nt:∀{D:Dr} {f:Kb},0<=D.least->¬(0<=x/\x<(D.kss.length:Int))->zw D f x=[]:=λ{D f} M h=>by
          unfold zw;rw[Jb λq=>h (ZG q M)]
         show zw D _ x=zw D' _ x
         rw[nt M w,nt I (by rw[<- hk];exact w)]
       let#[B,S,T]:=t.ne i U;have C:¬ZJ D' e' a c:=λz=>T ((t.s.open_iff t.d t.d' t.k t.k' (t.ow B.1 B.2) i).mpr z)
       have f1:=gy O (Nn.mpr B) T S;have f2:=gy l (Nn.mpr (by rw[t.s.A,t.s.K];exact B)) C (by rw[t.s.l];exact S)
       rcases j with j|j
       .have:=mF d R j
        rw[f1,cB.1]at this
        exact#[by lia,G y this.2.2 (by lia)]
       .have:=mF d' s j
        rw[f2,cB.1]at this
        exact#[by lia,G y this.2.2 (by lia)]
      rw[Y];unfold Ql
      show K3 _ (K3 _ (QK D ((HP D nm a c).lookup nm) D' ((HP D' nm a c).lookup nm)))=_
      rw[H,m,PH];rfl
    have:=t.all (λa c p=>[(nm,a,c),(nm,p.1,p.2)]) ge Q λc i c2=>G c i (by lia)
    rw[<- this];unfold bo;exact af λa _ _=>af λc F i=>u a c (by lia) (by lia)
   .have X:¬e'.last+1<4096:=jA d' g λa o v=>by
     rw[<- hk]at v
     have:=aV no o v
     rw[show zn D a ↑e=[]from iI d kn h1 a]at this
     exact this.symm
    rw[quiet λa c i=>#[bH he h1 i,bH he' X i]]
    have:aa D ↑e D' ↑e'=none:=zA λx x1 P=>by
     have W:=d.n0;have O:=d.nf;have L:=d'.n0;have l:=d'.nf
     have:4096<=zS D e D' e':=by unfold zS QD;split<;>lia
     unfold QD at P;split at P<;>lia
    rw[this];rfl
end
end L3
namespace L3
open PySem PySem.Spec PyProof.Rows L2 SeqAt
section
theorem BB{a:Scope}{h:List (Str×Δ)}{e:Pos}{fr own:Α}{i:Nat}{y:Str}
  (hN:X.N.Nodup)(m:X.N[i]? =↑y)(hx:fQ X.env.scope y)
  (hc:X.calm=true)(hi:QI X tg d q)(f:closureFor a X.env=pure h)(j:∀y c,h.lookup y=↑c->X.env.cells.lookup y=↑c)(n:h.map (·.1)=fr)
  (S:MU X a fr js)
  (hg:∀C s H fp,QG (qY X (own++fr) a h C s H fp) tg g)(hk:∀C s H fp,QE (qY X (own++fr) a h C s H fp) o tk)(hv:∀C s H fp,QE (qY X (own++fr) a h C s H fp) p tv)
  (hs:∀x,foldedSetIterable d X.env x=pure x:=by intro _;rfl)(l:swapsWith (.DictComp o p [#[tg,d,[],(0)]] a pos) ↑(.Name y r) e.line X.env=pure true:=by rfl)
  (hf:X.fn y=true\/X.env.scope.names.lookup y=some .local:=by first|exact .inl Z|exact .inr Z|assumption):
  QS X (.Assign [.Name y r] (.DictComp o p [#[tg,d,[],(0)]] a pos) e) (cU (oS own.length js q g tk tv) (Qf i)):=
 #[AC hN m hx hc hi.h f j n S (λC s H fp=>(hg C s H fp).h) (λC s H fp=>(hk C s H fp).h) (λC s H fp=>(hv C s H fp).h) hs l hf]
theorem uS{K:ι}{tk tv:TE}{H:Hp}{Q:VK}{xs:Ε}(hn:xs.length<=ζ)(Pv:Nat->List (qJ×V)->Hp->Prop)(j:Pv 0 [] H)(hl:∀i ys H,Pv i ys H->HQ K H a xs)
  (hs:∀i ys H x,xs[i]? =↑x->ys.length=i->Pv i ys H->tk (↑x::zY js σ) H λu d=>∃k,u=kV k/\tv (↑x::zY js σ) d λv l=>Pv (i+1) (MX ys k v) l/\(MX ys k v).length=i+1)
  (hd:∀ys H,Pv xs.length ys H->∀p,H p=none->Q (-p) (HM H p (.dK ys))):v8 1 js (Qf 0) tk tv σ Q (fF K a) H:=by
 exists λi m ys g H=>m=xs.length-i/\i<=xs.length/\ys.length=i/\Pv i ys H/\∃o,g=o::zY js σ,#[xs.length,by simp,JB _,Z,j,none,Z]
 rintro i m ys g H ⟨rfl,hi,f,p,o,rfl⟩
 by_cases c:i<xs.length
 .refine .inr #[#[xs,xs[i],hl _ _ _ p,by simp [c]],by lia,λx H' y=>?_]
  let#[e,n]:H'=H/\xs[i]? =↑x:=#[y.1,y.2 xs (hl _ _ _ p)]
  subst e
  exact#[λk v d=>Pv (i+1) (MX ys k v) d/\(MX ys k v).length=i+1,λk v d h=>#[xs.length-(i+1),by lia,Z,c,h.2,h.1,0],hs i ys _ x n f p]
 .obtain rfl:i=xs.length:=by lia
  exact .inl #[#[xs,hl _ _ _ p,Jf _],hd ys H p]
inductive Ru (x:V)(y:V)(H:Hp)(Q:VK):Prop
 |mk (a b:Δ)(bs cs:ν)(h1:x= .ref a)(h2:y= .ref b)(h3:H a=↑(.lst (bs.map V.bl)))(h4:H b=↑(.lst (cs.map V.bl)))(h5:bs.length=cs.length)(h6:Q (.bl (decide (bs=cs))) H)
def Gc:R2:=λx y H Q=>Ru x y H Q
theorem C0{k:Nat}(hr:MK k X.A):zx X (Py .Eq) Gc:=by
 intro R0 s σ H x y v u Q I B E h;let#[a,b,bs,c,rfl,rfl,C,L,R,q]:=h;cases B;cases E;let#[f,t,O,_]:=I.list (HQ.of (K:=X.K) C)
 let#[d,n,p2,_]:=I.list (HQ.of (K:=X.K) L)
 have p:=t.length;have M:=n.length;rw[Je]at p M;have T:X.A.units+2<cLine:=by have:=hr.un;lia
 have g:∀{zs:ν} {i:Ζ},HS (zs.map V.bl) i->∀j (h:j<i.length),i[j]= .bool (zs.getD j false):=λ{zs i} r j h=>by
  let#[z,o,S]:=zK r (j:=j) h
  rw[Jo]at o;let#[w,N,rfl]:=JO.mp o;rw[JG,N];exact S
 have e:=RcAt.lists (A:=X.A) (e:=λj=>bs.getD j false==c.getD j false) O.isList p2.isList (by simp;lia) (by lia) (λj h1 D=>by
  have m:j<f.length:=by simpa using h1
  have l:j<d.length:=by simpa using D
  simp only[KM];rw[g t j m,g n j l]
  have:=EA (A:=X.A.in1) (s:=s) (y:= .bl (bs.getD j false)) (x:= .bl (c.getD j false)) Z Z Z Z
  have F:Gq (.bl (bs.getD j false)) (.bl (c.getD j false))=(bs.getD j false==c.getD j false):=by
   cases bs.getD j false<;>cases c.getD j false<;>rfl
  rw[F]at this;exact this)
 have P:((Ag f.toArray.size).all λj=>bs.getD j false==c.getD j false)=decide (bs=c):=by
  rw[Js,<- p];rw[Iu,decide_eq_true_eq,IV];refine#[λh1=>?_,λh=>?_]
  .refine KD R λj J G=>?_
   have:=eq_of_beq (h1 j (JT.mpr (by lia)))
   rw[JG,JG,Jh J,Jh G]at this;exact this
  .subst h
   exactλj _=>Iq _
 rw[P]at e;exact e _ _ _ _ #[.bl _,H,I,Z,q]
end
def eY:Dr->zi->Dr
 |D,[]=>D
 |D,z::r=>eY {D with kn:=HP D z.1 z.2.1 z.2.2} r
noncomputable def Qn:Dr->zi->ν
 |_,[]=>[]
 |D,z::r=>Qi D z.1 z.2.1 z.2.2::Qn {D with kn:=HP D z.1 z.2.1 z.2.2} r
section
variable{D:Dr}
theorem DH(zs:zi)(z:Str×Int×Int):eY D (zs++[z])={eY D zs with kn:=HP (eY D zs) z.1 z.2.1 z.2.2}:=by
 induction zs generalizing D with
 |nil=>rfl
 |cons y r ih=>exact ih
theorem Ax(zs:zi)(z:Str×Int×Int):Qn D (zs++[z])=Qn D zs++[Qi (eY D zs) z.1 z.2.1 z.2.2]:=by
 induction zs generalizing D with
 |nil=>rfl
 |cons y r ih=>show _::Qn _ (r++[z])=_;rw[ih];rfl
theorem Fu(zs:zi):eY D zs={D with kn:=(eY D zs).kn}:=by
 induction zs generalizing D with
 |nil=>rfl
 |cons y r ih=>show eY _ r=_;rw[ih];rfl
theorem bB(zs:zi):(Qn D zs).length=zs.length:=by
 induction zs generalizing D with
 |nil=>rfl
 |cons y r ih=>show(_::Qn _ r).length=_;rw[JR,ih];rfl
theorem DZ(ok:Nw D)(zs:zi):Nw (eY D zs):=by
 induction zs generalizing D with
 |nil=>exact ok
 |cons y r ih=>exact ih (ok.hearK y.1 y.2.1 y.2.2)
theorem Ay{e:Kb}(i:D.near<=D.far)(he:D.kn.lookup nm=↑e):decide ((qR D e a c).1="near")=Qi D nm a c:=by
 unfold Qi;have w:=tM (a:=a) (c:=c) i he
 refine decide_eq_decide.mpr ?_
 rw[w];unfold qR zD ZJ
 by_cases f:qO D e a=true
 .rw[Jc f]
  by_cases h1:c<=e.last
  .rw[Jc h1]
   exact#[λz=>absurd z (show¬(("old":Str)="near") by decide),λz=>absurd z.2.1 (by lia)]
  .rw[Jb h1]
   by_cases d:c<=e.last+D.near
   .rw[Jc d]
    exact#[λ_=>#[f,by lia,.inl d],λ_=>rfl]
   .rw[Jb d]
    by_cases h:c<=e.last+D.far
    .rw[Jc h]
     by_cases g:e.wt=↑(a,c-1)
     .rw[Jc g]
      exact#[λ_=>#[f,by lia,.inr #[h,g]],λ_=>rfl]
     .rw[Jb g]
      exact#[λz=>absurd z (show¬(("far":Str)="near") by decide),λz=>by rcases z.2.2 with y|y;exact absurd y d;exact absurd y.2 g]
    .rw[Jb h]
     exact#[λz=>absurd z (show¬(("beyond":Str)="near") by decide),λz=>by rcases z.2.2 with y|y;exact absurd y d;exact absurd y.1 h]
 .rw[Jb f]
  exact#[λz=>absurd z (show¬(("age":Str)="near") by decide),λz=>absurd z.1 f]
theorem ES(he:D.kn.lookup nm=none):Qi D nm a c=false:=by
 unfold Qi qE;rw[he];exact Jn (show¬(("":Str)="open") by decide)
theorem vZ{e:Kb}(f:(D.kn.map (·.1)).Nodup)(he:D.kn.lookup nm=↑e):HP D nm a c=zr D.kn nm (qR D e a c).2:=by
 unfold HP zu qR;rw[he];simp only
 by_cases d:qO D e a=true
 .rw[Jc d,Jc d]
  split<;>rfl
 .rw[Jb d,Jb d]
  exact(kP f he).symm
theorem ny(bs:ν):Q4 (bs.map V.bl) none ↑(-1)=bs.dropLast.map V.bl:=by
 unfold Q4;have e:HT.sIx (bs.map V.bl).length (bs.map V.bl).length ↑(-1)=bs.length-1:=by
  rw[Je]
  show(if(-1:Int)<0 then(-1+(bs.length:Int)).toNat else min (-1:Int).toNat bs.length)=_
  rw[Jc ⋯]
  lia
 rw[e]
 show((bs.map V.bl).drop 0).take (bs.length-1-0)=_
 rw[Kv,Nat.sub_zero,List.dropLast_eq_take,Kt]
theorem tK{bs:ν}(h:0<bs.length):∃x:Bool,bs.getLast? =↑x/\QJ (bs.map V.bl) (-1)=↑(.bl x):=by
 have a:bs[bs.length-1]? =some bs[bs.length-1]:=Jh (by lia)
 exists bs[bs.length-1],by rw[List.getLast?_eq_getElem?,a]
 unfold QJ cD;rw[Je,Jb ⋯,Jc (by lia)]
 show(bs.map V.bl)[(-1+(bs.length:Int)).toNat]? =_
 rw[show(-1+(bs.length:Int)).toNat=bs.length-1 by lia,Jo,a];rfl
theorem DK{H:Hp}{c:Α}{g:Str->Δ}(h:(D.kn.map (·.1)).Nodup)(pm:c.Perm (D.kn.map (·.1)))(hd:H d=↑(.dK (c.map λnm=>(Pt nm,V.ref (g nm)))))(hg:∀nm∈c,∀e,D.kn.lookup nm=↑e->Na H (g nm) e):NC H d D.kn:=by
 have look:∀e∈D.kn,D.kn.lookup e.1=↑e.2:=λe a=>by
  let#[b,f]:=L5.mp (HZ.mpr (JC.mpr #[e,a,Z]))
  rw[f,Zo h f e a Z]
 refine#[(c.map λnm=>(nm,(D.kn.lookup nm).getD #[(0),(0),none]),g),?_,λe a=>hg e.1 (pm.mem_iff.mpr (JC.mpr #[e,a,Z])) e.2 (look e a),?_,h]
 .rw[hd]
  unfold bI;rw[Ir];rfl
 .refine(pm.map _).trans ?_
  rw[Ir]
  have:D.kn.map ((λnm=>(nm,(D.kn.lookup nm).getD #[(0),(0),none]))∘λx=>x.1)=D.kn:=by
   conv=>rhs;rw[<- List.map_id D.kn]
   refine Lr λe a=>?_
   show(e.1,(D.kn.lookup e.1).getD #[(0),(0),none])=e
   rw[look e a];rfl
  rw[this]
end
noncomputable def ZU(D D':Dr)(zs:zi):Bool:=decide ((Qn D zs).dropLast=(Qn D' zs).dropLast)&& ! decide ((Qn D zs).getLast? =(Qn D' zs).getLast?)
end L3
namespace L3
open PySem PySem.Spec PyProof.Rows L2
theorem CM{X:Cx}{K:ι}(a:X.K=K){k:Nat}(n:Nat)(hc:X.calm=true)(h:Rk X es t)(hn:(assignEach es X.env).length=n:=by rfl)(hst:(assignEach es X.env).findIdx? (·.1)=none:=by rfl):QG X (.Tuple es k pos) (uE K n t):=by
 subst a
 exact#[yi (hc:=hc) (h:=h.h) (hn:=hn) (hst:=hst)]
theorem uc{K:ι}{te:TE}{H:Hp}{Q:VK}{xs:Ε}(hn:xs.length<=ζ)(Pv:Nat->Ε->Hp->Prop)(l:Pv 0 [] H)(hl:∀i ys H,Pv i ys H->HQ K H a xs)
  (hs:∀i ys H x,xs[i]? =↑x->ys.length=i->Pv i ys H->∃p h g,x= .ref p/\Sq K H p [h,g]/\te (↑h::↑g::zY js σ) H λv f=>Pv (i+1) (ys++[v]) f)
  (hd:∀ys H,ys.length=xs.length->Pv xs.length ys H->∀p,H p=none->Q (-p) (HM H p (.lst ys))):
  ji 2 js (uE K 2 (bK (Qf 0) (bK (Qf 1) nQ))) te σ Q (fF K a) H:=by
 exists λi m zs j H=>m=xs.length-i/\i<=xs.length/\zs.length=i/\Pv i zs H/\∃o o',j=o::o'::zY js σ,#[xs.length,by simp,JB _,Z,l,none,none,Z]
 rintro i m zs j H ⟨rfl,hi,c,p,o,o',rfl⟩
 by_cases d:i<xs.length
 .refine .inr #[#[xs,xs[i],hl _ _ _ p,by simp [d]],by lia,λx H' y=>?_]
  let#[e,s]:H'=H/\xs[i]? =↑x:=#[y.1,y.2 xs (hl _ _ _ p)]
  subst e;let#[r,h,g,rfl,n,q]:=hs i zs _ x s c p;exists r,0,n,5
  exact#[λv f=>Pv (i+1) (zs++[v]) f,λv f t=>#[xs.length-(i+1),by lia,Z,d,by simp [c],t,13],q]
 .have e:i=xs.length:=by lia
  subst e;exact .inl #[#[xs,hl _ _ _ p,Jf _],hd zs H c p]
theorem jg{tc:TT}{t u:TS}(G:Bool->Hp->Prop)(h:∀a:Bool->Hp->Prop,(∀b H',G b H'->a b H')->tc σ H a)(h1:∀H',G true H'->t D σ H')(h2:∀H',G false H'->u D σ H'):tR tc t u D σ H:=h _ λb H' g=>by
 cases b with
 |true=>exact(Jc Z).mpr (h1 H' g)
 |false=>exact(Jb (by intro z;cases z)).mpr (h2 H' g)
end L3
namespace L3
open PySem PySem.Spec PyProof.Rows L2
open PySem.W (kdl_dict kdl_call)
section
theorem ke:∀{us:Ζ} {a:Α},HS (a.map V.str) us->StrsAre us a
 | [],[],_=> .nil
 | [],_::_,h=>by cases h
 |_::_,[],h=>by cases h
 |u::us,x::a,h=>by
  cases h with
  |cons r t=>let#[c,rfl]:=r;exact .cons _ _ (ke t)
theorem fY:zj X (.builtin "sorted") (λxs H Q=>∃(p:Δ) (c:Α),xs=[-p]/\H p=↑(.lst (c.map V.str))/\c.length<64/\
  ∀l a,H l=none->a.Perm c->sortedS a=true->Q (-l) (HM H l (.lst (a.map V.str)))):=by
 intro R0 s σ H xs y Q I r h;let#[p,c,rfl,n,w,q]:=h;let#[u,rfl,t]:=zT r;cases t;let#[d,g,j,_]:=I.list (HQ.of n)
 have m:=g.length;rw[Je]at m;refine sorted_strs j.isList (ke g) (by lia) λout a x f i=>?_
 let#[e,v]:=sortedAll_at s.heap d out;refine#[.ref (s.heap.objs.size+1),_,I.laid (t':=s.toks) (o:= .lst (a.map V.str)) (λb o q=>sortedAll_old q) (IL _) ?_,Z,q _ a (I.hok.fresh (IL _)) f i]
 have z:a.length=c.length:=f.length_eq
 exact#[by rw[Je,JD];lia,out.toList,e,bN x,v]
end
end L3
namespace L3
open PySem PySem.Spec PyProof.Rows L2
section
variable{K:ι}
def O4(H:Hp)(a:Δ)(H':Hp):Prop:=∃c,Mv c H H'/\NT c H/\a∉c
theorem O4.refl:O4 H a H:=#[[],λ_ _ _ e=>e,fi,λh=>nomatch h]
theorem O4.sql(s:O4 H a H')(h:HQ [] H a xs):HQ K H' a xs:=by
 let#[c,m,nt,d]:=s;rcases h with(h|⟨o,h⟩)|⟨o,e,n,h,_⟩
 .exact .inl (.inl (m _ _ d h))
 .exact .inl (.inr #[o,m _ _ d h])
 .cases h
theorem O4.sqt(s:O4 H a H')(h:HX [] H a xs):HX K H' a xs:=by
 let#[c,m,nt,e]:=s;rcases h with h|⟨o,d,n,h,_⟩
 .exact .inl (m.rd nt h)
 .cases h
end
end L3
namespace L3
open PySem PySem.Spec PyProof.Rows L2 SeqAt
inductive Rv (x:V)(y:V)(H:Hp)(Q:VK):Prop
 |mk (a b:Δ)(ss ts:Α)(h1:x= .ref a)(h2:y= .ref b)(h3:H a=↑(.lst (ss.map V.str)))(h4:H b=↑(.lst (ts.map V.str)))(h5:ss.length=ts.length)(h6:Q (.bl (decide (ss≠ts))) H)
def FZ:R2:=λx y H Q=>Rv x y H Q
theorem CT{X:Cx}{k:Nat}(hr:MK k X.A):zx X (Py .NotEq) FZ:=by
 intro R0 s σ H x y v u Q I r B h;let#[a,b,i,l,rfl,rfl,w,F,M,q]:=h;cases r;cases B;let#[d,p,J,_]:=I.list (HQ.of (K:=X.K) w)
 let#[c,n,p2,_]:=I.list (HQ.of (K:=X.K) F)
 have o:=p.length;have G:=n.length;rw[Je]at o G;have N:X.A.units+2<cLine:=by have:=hr.un;lia
 have e:=RcNeAt.lists (A:=X.A) (e:=λj=>i.getD j default==l.getD j default) J.isList p2.isList (by simp;lia) (by lia) (λj h1 z=>by
  have m:j<d.length:=by simpa using h1
  have f:j<c.length:=by simpa using z
  let#[t,E]:=bE (cI p) j _ (Jh m)
  let#[O,g]:=bE (cI n) j _ (Jh f)
  simp only[KM];rw[E,g];exact TL _ _ _ _)
 have L:(!(Ag d.toArray.size).all λj=>i.getD j default==l.getD j default)=decide (i≠l):=by
  rw[Js,<- o];rw[Iu,MD,decide_eq_true_eq,<- Pf,IV];refine not_congr #[λh1=>?_,λh=>?_]
  .refine KD M λj D C=>?_
   have:=eq_of_beq (h1 j (JT.mpr (by lia)))
   rw[JG,JG,Jh D,Jh C]at this;exact this
  .subst h
   exactλj _=>Iq _
 rw[L]at e;exact e _ _ _ _ #[.bl _,H,I,Z,q]
noncomputable def zd(d base:Int):Nat:=((if base+d<4095 then base+d else 4095)-base+1).toNat
theorem cN{d base:Int}(a:0<=d)(c:base<=4095):(zd d base:Int)=(if base+d<4095 then base+d else 4095)-base+1:=by unfold zd;split<;>lia
inductive bL(d:Int)(vs:Ε)(H:Hp)(Q:VK)(_:XK):Prop
 |mk (base:Int)(h1:vs=[.int base])(h2:0<=base)(h3:base<=4090)(h4:∀l H',HJ H H'->H' l=↑(.lst (Qq base (zd d base)))->Q (-l) H')
inductive mU(d:Int)(vs:Ε)(H:Hp)(Q:VK)(_:XK):Prop
 |mk (ol m1 kd1 m2 kd2 dr nl:Δ)(D D':Dr)(nms:Α)(many:Nat)(base:Int)(h1:vs=[-ol,-dr])(h2:H ol=↑(.lst [-m1,-m2]))(h3:MJ H m1 kd1 D)(h4:MJ H m2 kd2 D')(h5:H dr=↑(.tup [-nl,.int (many:Int),.int base]))(h6:H nl=↑(.lst (nms.map V.str)))(h7:nms.length<64)(h8:many<=8)(h9:0<=base)(h10:base<=4090)(h11:∀u ms H',HJ H H'->ms.Perm nms->sortedS ms=true->N4 H' u (ms.findSome? (Qc D D' many base (zd d base)))->Q u H')
inductive yp(d:Int)(vs:Ε)(H:Hp)(Q:VK)(_:XK):Prop
 |mk (ol m1 kd1 m2 kd2 dr nl:Δ)(D D':Dr)(nms:Α)(many:Nat)(base:Int)(h1:vs=[-ol,-dr])(h2:H ol=↑(.lst [-m1,-m2]))(h3:MJ H m1 kd1 D)(h4:MJ H m2 kd2 D')(h5:Nw D)(h6:Nw D')(h7:D.near<=D.far)(h8:D'.near<=D'.far)(h9:H dr=↑(.tup [-nl,.int (many:Int),.int base]))(h10:H nl=↑(.lst (nms.map V.str)))(h11:nms.length<64)(h12:many<=8)(h13:0<=base)(h14:base<=4090)(h15:∀u ms H',HJ H H'->ms.Perm nms->sortedS ms=true->N4 H' u (ms.findSome? (bo D D' many base (zd d base)))->Q u H')
structure Rx(t:Β)(kss:List Β)(D:Dr):Prop where
 ok:Nw D
 t:D.t=t
 ks:D.kss=kss
 f0:D.near<=D.far
theorem oR{c:Int}(h:Rx t kss D)(a:0<=c)(e:c<4096)(hd:bO d):aK D (QR t kss nm age c d)=zu D nm age ↑(c,d):=by
 unfold aK QR;simp only
 rw[h.t,show QY D age=kss.getD age.toNat [] by unfold QY;rw[h.ks],lj (h.t▸h.ok.tp) a e hd]
inductive ph(K:ι)(C:Δ)(vs:Ε)(H:Hp)(Q:VK)(_:XK):Prop
 |mk (cd tb kt pl p ps b:Δ)(c:Nat)(H0:Hp)(t:Β)(kss:List Β)(xs:Υ)(nm:Str)(age n:Int)(is:Κ)(h1:vs=[-cd,-pl,-p,-ps])(h2:Pw K C H0 H b c pl xs)(h3:xs.length=2)(h4:NA H cd tb kt t kss)(h5:ZL nm)(h6:0<=age)(h7:age<kss.length)(h8:0<=n)(h9:n<4096)(h10:H p=↑(.tup [.str nm,.int age,.int n]))(h11:Rd H ps (.tup (is.map λi:Nat=>V.int (i:Int))))(h12:is.Nodup)(h13:(∀i∈is,i<2))(h14:(∀(i:Nat)(x:En),xs[i]? =↑x->Rx t kss x.2.1/\x.2.2.length<=900))(h15:∀H' xs',Pw K C H0 H' b c pl xs'->NA H' cd tb kt t kss->Oc (λi D=>if i∈is then{D with kn:=HP D nm age n}else D) 2 xs xs'->Q .non H')
structure Om(nms:Α)(many:Nat)(base:Int):Prop where
 nd:nms.Nodup
 nm:∀z∈nms,ZL z
 l1:1<=nms.length
 l3:nms.length<=3
 m1:1<=many
 m3:many<=3
 b0:0<=base
 b1:base<=4083
theorem Cz{r:zi}(h:zE D D' ns=↑r):r.length<=2:=by
 cases e:ns.findSome? (Ql D D')with
 |none=>exact L0 (BE e h)
 |some s=>
  unfold zE at h;rw[e]at h;cases h;let#[nm,_,e]:=KG e
  unfold Ql at e;let#[p,_,rfl]:=JO.mp e
  exact(by decide:1<=2)
inductive tE(vs:Ε)(H:Hp)(Q:VK)(_:XK):Prop
 |mk (b:Δ)(c:Nat)(h1:vs=[-b])(h2:MZ H b c)(h3:c<100000000)(h4:∀q nl nms many base H',NM b (c+3) H H'->H' q=↑(.tup [-nl,.int ((many:Nat):Int),.int base])->H' nl=↑(.lst (nms.map V.str))->H nl=none->Om nms many base->Q (-q) H')
end L3
namespace L3
open PySem PySem.Spec PyProof.Rows L2
theorem jl{a:Type}{xs:List a}(h:xs.length=2):∃x y,xs=[x,y]:=by
 cases xs with
 |nil=>cases h
 |cons x r=>cases r with
  |nil=>cases h
  |cons y r=>cases r with
   |nil=>exact#[x,y,Z]
   |cons z r=>cases h
structure Pq(K:ι)(C:Δ)(H0 H:Hp)(b:Δ)(c:Nat)(xs:Υ):Prop where
 s:Mv [b] H0 H
 bx:MZ H b c
 b0:H0 b≠none
 en:∀(i:Nat) (x:En),xs[i]? =↑x->NR K C H x.1 x.2.1 x.2.2 x.2.1
 dj:∀(i j:Nat) (x y:En),i≠j->xs[i]? =↑x->xs[j]? =↑y->∀z∈eS x.1,z∉eS y.1
 fr:∀(i:Nat) (x:En),xs[i]? =↑x->∀z∈eS x.1,H0 z=none
section
variable{K:ι}{b:Δ}{c c':Nat}{i:Nat}
theorem Pq.nb(p:Pq K C H0 H b c xs)(hi:xs[i]? =↑x):b∉eS x.1:=λz=>p.b0 (p.fr i x hi b z)
theorem Pq.grc(p:Pq K C H0 H b c xs)(g:NM b c' H H'):Pq K C H0 H' b c' xs:=by
 have m:Mv [b] H H':=λc o h e=>g.kp c o (λz=>h (Ji.mpr z)) e
 exact#[p.s.trans m,g.bx,p.b0,λi x hi=>(p.en i x hi).mv m (zL p.bx) (λz a w=>p.nb hi (Ji.mp w▸a)),p.dj,p.fr]
theorem Pq.same(p:Pq K C H0 H b c xs)(s:HJ H H'):Pq K C H0 H' b c xs:=p.grc (s.grc p.bx)
theorem Pq.add{y:Em}(p:Pq K C H0 H b c xs)(s:HJ H n)(e:NR K C n y D [] D)(f:∀z∈eS y,H z=none):Pq K C H0 n b c (xs++[(y,D,[])]):=by
 have pa:=p.same s;have a:∀{j:Nat} {w:En},(xs++[(y,D,[])])[j]? =↑w->xs[j]? =↑w\/(j=xs.length/\w=(y,D,[])):=λ{j w} h=>by
  by_cases d:j<xs.length
  .rw[J3 d]at h;exact .inl h
  .rw[J9 (by lia)]at h
   cases q:j-xs.length with
   |zero=>rw[q]at h;cases h;exact .inr #[by lia,Z]
   |succ k=>rw[q]at h;cases h
 have t:∀z∈eS y,H0 z=none:=λz l=>by
  cases q:H0 z with
  |none=>rfl
  |some o=>
   by_cases w:z=b
   .subst w;let#[_,_,_,r,_]:=p.bx;rw[f z l]at r;cases r
   .have:=p.s z o (qQ w) q;rw[f z l]at this;cases this
 refine#[pa.s,pa.bx,p.b0,λj w d=>?_,λj k w u m d hk=>?_,λj w d=>?_]
 .rcases a d with d|⟨_,rfl⟩
  .exact pa.en j w d
  .exact e
 .rcases a d with g|⟨A,rfl⟩
  .rcases a hk with i|⟨_,rfl⟩
   .exact p.dj j k w u m g i
   .exactλz l v=>(p.en j w g).some l (f z v)
  .rcases a hk with i|⟨x,rfl⟩
   .exactλz l v=>(p.en k u i).some v (f z l)
   .lia
 .rcases a d with g|⟨_,rfl⟩
  .exact p.fr j w g
  .exact t
theorem Pq.pw(p:Pq K C H0 H b c xs)(hpl:H pl=none):Pw K C H0 (HM H pl (.lst (xs.map λx=> .ref x.1.e))) b c pl xs:=by
 have u:=HJ.upd (o:= .lst (xs.map λx=>V.ref x.1.e)) hpl
 have q:=p.same u;have nb:pl≠b:=λz=>by let#[_,_,_,e,_]:=p.bx;rw[z,e]at hpl;cases hpl
 exists q.s,q.bx,q.b0,q.en,q.dj,q.fr,qb,λi x hi z=>?_
 .exact(p.en i x hi).some z hpl
 .cases e:H0 pl with
  |none=>rfl
  |some o=>have:=p.s pl o (qQ nb) e;rw[hpl]at this;cases this
end
def fj(D:Dr)(z:Str×Int×Int):Dr:={D with kn:=HP D z.1 z.2.1 z.2.2}
def fh(D:Dr)(z:Str×Int×Int):Bool:=Qi D z.1 z.2.1 z.2.2
section
theorem xb(z:Str×Int×Int):ZU D D' [z]= ! decide (fh D z=fh D' z):=by
 unfold ZU
 show(decide (([]:ν)=[])&& ! decide (↑(fh D z)=↑(fh D' z)))=_
 rw[Jj Z,Iz];congr 1
 exact decide_eq_decide.mpr #[λh=>JE h,λh=>J0 some h]
theorem yz(z y:Str×Int×Int):ZU D D' [z,y]=(decide (fh D z=fh D' z)&& ! decide (fh (fj D z) y=fh (fj D' z) y)):=by
 unfold ZU
 show(decide ([fh D z]=[fh D' z])&& ! decide (↑(fh (fj D z) y)=↑(fh (fj D' z) y)))=_
 congr 1
 .exact decide_eq_decide.mpr #[λh=>(List.cons.inj h).1,λh=>by rw[h]]
 .congr 1
  exact decide_eq_decide.mpr #[λh=>JE h,λh=>J0 some h]
end
theorem Sq.k{K:ι}(h:Sq [] H a xs):Sq K H a xs:=h.elim (λh=> .inl (O4.refl.sql h)) λh=> .inr (O4.refl.sqt h)
def z3(z:Str×Int×Int):Ε:=[.str z.1,.int z.2.1,.int z.2.2]
def Rb(H:Hp)(v:V)(zs:zi):Prop:=∃(t:Δ) (c:Η),v= .ref t/\Sq [] H t (c.map V.ref)/\c.length=zs.length/\∀(i:Nat) (a:Δ) (z:Str×Int×Int),c[i]? =↑a->zs[i]? =↑z->Sq [] H a (z3 z)
theorem Rb.same(h:Rb H v zs)(s:HJ H H'):Rb H' v zs:=by
 let#[t,d,e,h1,l,f]:=h
 exact#[t,d,e,h1.same s,l,λi a z c g=>(f i a z c g).same s]
theorem Rb.of{zs:zi}(h:N4 H v ↑zs):Rb H v zs:=by
 let#[t,d,e,h1,l,f]:=h
 exact#[t,d,e,.tup h1,l,λi a z c g=> .tup (f i a z c g)]
theorem Dk{K:ι}{H:Hp}{g:TG}{tb:TS}{D:Ng}{σ:L2.St}(c:Sq [] H0 a xs)(Pv:Nat->L2.St->Hp->Prop)(d:Pv 0 σ H)(ps:∀i σ H',Pv i σ H'->HJ H0 H')
  (hs:∀i x σ H,xs[i]? =↑x->Pv i σ H->g x σ H λe h=>tb {D with nx:=Pv (i+1),ct:=Pv (i+1),bk:=D.nx} e h)(hd:∀σ H,Pv xs.length σ H->D.nx σ H){f:TI}(hw:f=AL K (λ_ H Q=>Q (-a) H)):Bv f g tb D σ H:=by
 subst hw;exists a,Z
 rcases c with c|c
 .exact .inl #[#[_,O4.refl.sql (HJ.seq (ps 0 σ H d) c)],zQ Pv d (λi σ H' _ p=>O4.refl.sql (HJ.seq (ps i σ H' p) c)) hs hd]
 .exact .inr #[#[_,O4.refl.sqt (HJ.sqt (ps 0 σ H d) c)],gu Pv d (λi σ H' _ p=>O4.refl.sqt (HJ.sqt (ps i σ H' p) c)) hs hd]
section
variable(K:ι)(C:Δ)
inductive tj(vs:Ε)(H:Hp)(Q:VK)(_:XK):Prop
 |mk (p ta hk bd lg:Δ)(n:Nat)(D:Dr)(v:V)(zs:zi)(h1:vs=[-p,v])(h2:HL K C H p ta hk bd lg n D)(h3:Nw D)(h4:D.near<=D.far)(h5:Rb H v zs)(h6:zs.length<=100)(h7:∀l H',HJ H H'->H' l=↑(.lst ((Qn D zs).map V.bl))->Q (-l) H')
inductive rK(vs:Ε)(H:Hp)(Q:VK)(_:XK):Prop
 |mk (p ta hk bd lg:Δ)(n:Nat)(D:Dr)(p' ta' hk' bd' lg':Δ)(n':Nat)(D':Dr)(v:V)(zs:zi)(h1:vs=[-p,-p',v])(h2:HL K C H p ta hk bd lg n D)(h3:HL K C H p' ta' hk' bd' lg' n' D')(h4:Nw D)(h5:Nw D')(h6:D.near<=D.far)(h7:D'.near<=D'.far)(h8:Rb H v zs)(h9:zs.length<=100)(h10:zs≠[])(h11:∀H',HJ H H'->Q (.bl (ZU D D' zs)) H')
end
theorem xo{p:Int×Int}(d:MQ D)(d':MQ D')(k:bj D (D.kn.lookup nm))(c:bj D' (D'.kn.lookup nm))(h:QK D (D.kn.lookup nm) D' (D'.kn.lookup nm)=↑p):Qi D nm p.1 p.2≠Qi D' nm p.1 p.2:=by
 unfold QK Qh at h;let#[a,j,e]:=KG h
 split at e
 .cases e
 .rename_i ne
  cases e;have g:=eQ (aN d k a) (aN d' c a) ne;let#[i,h1,f,_]:=ZS g;rw[aR d k (by lia),aR d' c (by lia)]
  exact Jz f
theorem t7{r:zi}(ok:Nw D)(o:Nw D')(d:MQ D)(d':MQ D')(k:pJ D)(n:pJ D')(h:zE D D' ns=↑r):ZU D D' r=true/\r≠[]/\r.length<=2:=by
 unfold zE at h;cases e:ns.findSome? (Ql D D')with
 |some q=>
  rw[e]at h;cases h;let#[nm,_,e]:=KG e
  unfold Ql at e;let#[p,i,rfl]:=JO.mp e;refine#[?_,by simp,by simp]
  rw[xb]
  have:=xo d d' (k nm) (n nm) i
  show(! decide (Qi D nm p.1 p.2=Qi D' nm p.1 p.2))=true
  rw[Jn this];rfl
 |none=>
  rw[e]at h;let#[nm,z,y]:=KG h
  have no:QK D (D.kn.lookup nm) D' (D'.kn.lookup nm)=none:=by
   have:=K8.mp e nm z
   unfold Ql at this;exact Pj.mp this
  unfold Zu at y;let#[p,i,rfl]:=JO.mp y;refine#[?_,by simp,by simp]
  rw[yz];cases e1:D.kn.lookup nm with
  |none=>rw[e1]at i;cases i
  |some x=>
  cases e3:D'.kn.lookup nm with
  |none=>rw[e1,e3]at i;cases i
  |some x'=>
  rw[e1,e3]at i no;unfold aa Qh at i;let#[c,F,A]:=KG i
  let#[q,G,rfl]:=JO.mp A;have j:=k nm;have g:=n nm;rw[e1]at j;rw[e3]at g;have j:MS D x:=j
  have g:MS D' x':=g
  let#[t,w]:=cC F;have K:=d.n0;have f1:=d'.n0;have H:=d.nf;have L:=d'.nf;have I:=j.l0;have J:=g.l0;have l:0<=c:=by
   unfold zS QD at t;split at t<;>lia
  have u:c<4096:=by
   unfold QD at w;split at w<;>lia
  have C:0<=qG x.age D.least:=by unfold qG;have:=j.a0;have:=d.l0;split<;>lia
  have E:qG x.age D.least<D.kss.length:=by unfold qG;have:=j.a1;have:=d.lk;split<;>lia
  have same:Qi D nm (qG x.age D.least) c=Qi D' nm (qG x.age D.least) c:=by
   rw[aR d (k nm) (by lia),aR d' (n nm) (by lia),e1,e3,aV no C E]
  show(decide (Qi D nm _ c=Qi D' nm _ c)&& ! decide (Qi (fj D (nm,_,c)) nm q.1 q.2=Qi (fj D' (nm,_,c)) nm q.1 q.2))=true
  rw[Jj same,Iz];have v:(fj D (nm,qG x.age D.least,c)).kn.lookup nm=some (qR D x (qG x.age D.least) c).2:=aD ok.nd e1
  have m:(fj D' (nm,qG x.age D.least,c)).kn.lookup nm=some (qR D' x' (qG x.age D.least) c).2:=aD o.nd e3
  have a:MS D (qR D x (qG x.age D.least) c).2:=Z2 d j l u
  have f:MS D' (qR D' x' (qG x.age D.least) c).2:=Z2 d' g l u
  have a:bj (fj D (nm,qG x.age D.least,c)) (some (qR D x (qG x.age D.least) c).2):=(show MS _ _ from#[a.a0,a.a1,a.l0,a.l1,a.w])
  have f:bj (fj D' (nm,qG x.age D.least,c)) (some (qR D' x' (qG x.age D.least) c).2):=(show MS _ _ from#[f.a0,f.a1,f.l0,f.l1,f.w])
  have B:MQ (fj D (nm,qG x.age D.least,c)):=#[d.n0,d.n1,d.nf,d.f1,d.l0,d.lk]
  have s:MQ (fj D' (nm,qG x.age D.least,c)):=#[d'.n0,d'.n1,d'.nf,d'.f1,d'.l0,d'.lk]
  have:=xo (nm:=nm) (p:=q) B s (by rw[v];exact a) (by rw[m];exact f) (by rw[v,m];exact G)
  rw[Jn this];rfl
theorem N4.grc{b:Δ}(h:N4 H v o)(hb:MZ H b c)(g:NM b c' H H'):N4 H' v o:=by
 cases o with
 |none=>exact h
 |some r=>
  let#[t,d,e,h1,l,f]:=h
  exact#[t,d,e,g.mv.tup (zL hb) h1,l,λi a z m j=>g.mv.tup (zL hb) (f i a z m j)]
end L3
namespace Lw
open PySem L2 L3
section
variable{K:ι}{tk:Nat->Tok}
theorem oB(a:At K mg "_law_model" ca ["_law_near","_law_far","_law_keys"])(T:MW K mg tk):Df P w K mg base "_law_model" W7 1 sw:=by
 refine a.dq mI λf _ A _ s H vs Q E n h=>?_
 .let#[D,rfl,l,hk,q]:=h
  exists _,(qe (qj (Cw (bp qy (qv 0) (bp qy (qv 1) (bp qy (qv 2) (bp qy qf (bp qy iC CZ))))))))
  refineλm j=>#[4,λkd d=>#[?_,?_]]
  .rw[qp (qm qb d)];exact qb
  exists ZE D kd,by unfold ZE;rw[l];rfl,by show 5<=15;decide
  rw[BF];have g:kd≠m:=(qm qb d).symm
  refine q m kd _ (λc o e=>?_) j ?_ #[qb,#[([],λ_=>0),?_,?_,?_,?_],g.symm]
  .have nm:c≠m:=qm e j
   have i:c≠kd:=qm (by rw[qp nm];exact e) d
   rw[qp nm,qp i,qp nm];exact e
  .rw[qp g]at d;exact d
  .rw[qp g];exact qb
  .rw[hk];exactλe h=>nomatch h
  .rw[hk]
  .rw[hk];exact LK
theorem rD(a:At K mg "_law_word" cZ ["_law_own","_law_plain"])(T:MW K mg tk):Df P w K mg base "_law_word" w6 1 cK:=by
 refine a.dq M9 λf _ A _ s H vs Q E j h=>?_
 .let#[m,kd,p,D,nm,age,c,rfl,d,L,q]:=h
  exists _,(qd (za (qv 1) (zg Z (qh (qg (i:=2) M9.nd Z (Pr Z)) (qh (qg (i:=3) M9.nd Z (Pr Z)) (qh (qg (i:=4) M9.nd Z (Pr Z)) qK)))))
   (qd (qA (i:=5) M9.nd Z (Pr Z) (mJ j (zB j (qv 0) qy) (qv 2)))
   (qd (qB (QW.pt (Qd (qw zW (qv 5) qP (qq _)) (zP (Qk (m9 ae bF (qk (bR Z) T.b_max Mp (qc (zB j (qv 0) qy) (qc (qx qN (qv 5) qf) qa))) (qv 3) (zB j (qv 0) qy)))))) (qe (qj qy)) qt)
   (qd (qA (i:=6) M9.nd Z (Pr Z) (qr Qy (qv 4) (qx qN (qv 5) qf)))
   (qd (qB (QW.pt (Qd (qw bF (qv 6) qf (qq _)) (zP (qw BT (qv 6) (zB j (qv 0) qy) (qq _))))) (qe (qj qy)) qt)
   (qe (qj (Aw (QW.pt (Qd (qw ae (qv 6) (zB j (qv 0) qy) (qq _)) (zP (qw (v9 j) (qx qN (qv 5) qf) (qu (qc (qv 3) (qc (qr Qy (qv 4) qf) qa))) (qq _))))) qy qy))))))))
  exists 0,p,0,.tup L,7
  let#[R,I,_]:=id d.kn;unfold qE at q;rcases d.kn.get nm with⟨F,g⟩|⟨e,x,F,g,v,G,N⟩
  .rw[F]at q
   exists 0,m,0,d.g_known,kd,Z,.inl #[_,.inl I],17,g
   exact#[3,Qp (Jj Z) (zo (q _ (HJ.refl H)))]
  .rw[F]at q
   simp only at q
   exists 0,m,0,d.g_known,kd,Z,.inl #[_,.inl I],17,g
   refine#[3,qZ (λy=>nomatch (Jz y)) (λ_=>?_)]
   exists 0,m,0,d.g_closed,0,x,1,HX.of G,55
   have J:qO D e age=(decide ((if D.least<e.age then e.age else D.least)<=age)&&decide (age<(D.kss.length:Int))):=by
    have O:((if D.least<e.age then e.age else D.least)<=age)↔(D.least<=age/\e.age<=age):=by split<;>omega
    unfold qO Q2;rw[show decide ((if D.least<e.age then e.age else D.least)<=age)=(decide (D.least<=age)&&decide (e.age<=age))from by rw[<- Bool.decide_and];exact decide_eq_decide.mpr O]
    cases decide (D.least<=age)<;>cases decide (e.age<=age)<;>cases decide (age<(D.kss.length:Int))<;>rfl
   rw[J]at q
   by_cases h1:(if D.least<e.age then e.age else D.least)<=age
   case neg=>
    rw[Jn h1,Ii,Jb (by intro z;cases z)]at q
    exact QF (Jn h1) #[0,zo (q _ (HJ.refl H))]
   rw[Jj h1,Iz]at q;refine Qp (Jj h1) ?_
   exists 0,m,0,d.g_keys,14
   by_cases l:age<(D.kss.length:Int)
   case neg=>
    rw[Jn l,Jb (by intro z;cases z)]at q
    rw[Jn l];exact zo (q _ (HJ.refl H))
   rw[Jj l,Jc Z]at q;rw[Jj l];refine zh ?_
   exists 2,x,1,HX.of G,25
   exists 12
   by_cases B:c-e.last<1
   .rw[Jc (.inl B)]at q
    exact Qp (Jj B) (zo (q _ (HJ.refl H)))
   refine QF (Jn B) ?_
   exists 2,m,0,d.g_far,14
   by_cases n:c-e.last>D.far
   .rw[Jc (.inr n)]at q
    exact Qp (Jj n) (q _ (HJ.refl H))
   refine QF (Jn n) ?_
   rw[Jb (show¬(c-e.last<1\/c-e.last>D.far)fromλz=>z.elim B n)]at q
   exists 2,m,0,d.g_near,14
   by_cases C:c-e.last<=D.near
   .rw[Jc (.inl C)]at q
    exact Qp (Jj C) (zo (q _ (HJ.refl H)))
   refine QF (Jn C) ?_
   refine#[0,x,1,HX.of G,63,Ho,λt M=>?_]
   have u:=HJ.upd (o:= .tup [.int age,.int (c-1)]) M
   exists e.wt,t,age,c-1,N.same u,Z,.inl qb,0
   by_cases r:e.wt=↑(age,c-1)
   .rw[Jc (.inr r)]at q
    exact Qp (Jj r) (q _ u)
   .rw[Jb (λz=>z.elim C r)]at q
    exact QF (Jn r) (q _ u)
theorem pR(a:At K mg "_law_hear" da ["_law_own","_law_plain"])(T:MW K mg tk)(dG:Df P w K mg base "_law_word" w6 1 cK):Df P w K mg base "_law_hear" w6 2 jZ:=by
 refine a.dq Nv λf _ A _ s H vs Q E n h=>?_
 .let#[m,kd,p,D,nm,age,c,rfl,md,hp,ok,nf,q]:=h
  exists _,(qd (za (qu (qc (qo dG n.mo (qc (qv 0) (qc (qv 1) qa))) (qc (qv 1) qa))) (zg Z (qh (qg (i:=2) Nv.nd Z (Pr Z)) (qh (zg Z (qh (qg (i:=3) Nv.nd Z (Pr Z)) (qh (qg (i:=4) Nv.nd Z (Pr Z)) (qh (qg (i:=5) Nv.nd Z (Pr Z)) qK)))) qK))))
   (qd (qB (qw zt (qv 2) qy (qq _)) (qe (QM n (zB n (qv 0) qy) (qv 3) (qu (qc (qv 4) (qc (qv 5) (qc qP qa)))))) qt)
   (qd (qB (qw zt (qv 2) qy (qq _)) (qe (QM n (zB n (qv 0) qy) (qv 3) (qr ZX (QQ cO (zB n (zB n (qv 0) qy) (qv 3)) Ze (Zh qf)) (qu (qc (qu (qc (qv 4) (qc (qv 5) qa))) qa))))) qt)
   (qe (qj (ze zt (qv 2) qy (qq _)))))))
  refine#[2,m,kd,p,D,nm,age,c,Z,md,hp,λH1 s1=>#[0,Ho,λt ht=>?_]]
  have u:=HJ.upd (o:= .tup [.str (qE D nm age c),-p]) ht
  have S2:=s1.trans u;have d:=md.same S2;have R:=S2 _ _ hp;exists t,0,.tup qb,Z,_,_,Z,_,_,Z,p,0,.tup R,30
  have j:=uC (age:=age) (c:=c) (nm:=nm) ok.nd nf
  generalize HM H1 t (.tup [.str (qE D nm age c),-p])=H2 at *
  exists 3
  let#[f0,hd,_]:=id d.kn
  by_cases h1:qE D nm age c="open"
  .refine Qp (Jj (by rw[h1])) ?_
   cases G:D.kn.lookup nm with
   |none=>unfold qE at h1;rw[G]at h1;exact absurd h1 (show¬(("":Str)="open") by decide)
   |some e=>
   rw[G]at j;simp only at j
   rw[Jc h1]at j;refine#[2,Ht,λt3 O=>?_]
   have u3:=HJ.upd (o:= .tup [.int age,.int c,.non]) O
   have F:=d.same u3;let#[H4,X,m4,S]:=F.kn.put nm (a:=t3) (e:=#[age,c,none]) (by have:=ok.nl;omega) #[.non,qb,Z]
   exists 0,m,0,F.g_known,0,kd,H4,Z,X
   have J:=F.putK m4 S;refine#[3,QF (Jn (by rw[h1];intro z;injection z with z;exact absurd z ⋯)) ?_]
   exists 41
   rw[<- j]at J
   have:=q H4 ((S2.trans u3).mv.trans (m4.mono λc h z=>h (by rw[Ji.mp z];simp))) J
   rw[Jj (show V.str (qE D nm age c)=V.str "open" by rw[h1])]
   rw[Jj h1]at this;exact this
  .refine QF (Jn (by intro z;injection z with z;exact h1 z)) ?_
   exists 3
   have L:∀H',Mv [m,kd] H H'->MJ H' m kd {D with kn:=HP D nm age c}->Q (.bl (decide (V.str (qE D nm age c)=V.str "open"))) H':=λH' m' d'=>by
    have:=q H' m' d'
    rw[Jn h1]at this;rw[Jn (show¬V.str (qE D nm age c)=V.str "open" by intro z;injection z with z;exact h1 z)]
    exact this
   by_cases C:qE D nm age c="wait"
   .refine Qp (Jj (by rw[C])) ?_
    rcases d.kn.get nm with⟨G,g⟩|⟨e,x,G,g,v,hx,hw⟩
    .unfold qE at C;rw[G]at C;exact absurd C (show¬(("":Str)="wait") by decide)
    rw[G]at j;simp only at j
    rw[Jb h1,Jc C]at j;refine#[0,m,0,d.g_known,0,kd,0,g,0,x,0,hx,λy H3 s3 N _=>?_]
    have N:H3 y=↑(.tup [.int e.age,.int e.last]):=N
    refine#[2,Ho,λB U=>#[Hl,λt5 M=>?_]]
    have u4:=HJ.upd (o:= .tup [.int age,.int c]) U
    have W:=HJ.upd (o:= .tup [-B]) M
    have e4:(HM (HM H3 B (.tup [.int age,.int c])) t5 (.tup [-B])) B=↑(.tup [.int age,.int c]):=W _ _ qb
    refine#[y,t5,6,W _ _ (u4 _ _ N),qb,Ht,λt6 H6 s6 l=>?_]
    have l:H6 t6=↑(.tup [.int e.age,.int e.last,-B]):=l
    have S6:=((s3.trans u4).trans W).trans s6;have r:=d.same S6;let#[H7,X,m7,Y]:=r.kn.put nm (a:=t6) (e:=#[e.age,e.last,↑(age,c)]) (by have:=ok.nl;omega) #[-B,l,B,Z,s6 _ _ e4]
    exists 0,m,0,r.g_known,0,kd,H7,Z,X
    have I:=r.putK m7 Y;rw[<- j]at I
    exact#[41,L H7 ((S2.trans S6).mv.trans (m7.mono λc h z=>h (by rw[Ji.mp z];simp))) I]
   .refine QF (Jn (by intro z;injection z with z;exact C z)) ?_
    refine#[41,L H2 S2.mv ?_]
    have:HP D nm age c=D.kn:=by
     rw[j];cases D.kn.lookup nm with
     |none=>rfl
     |some e=>simp only;rw[Jb h1,Jb C]
    rw[this];exact d
theorem mN(a:At K mg "_law_press" cg ["_law_code","_law_plain","_law_deed_here"])(T:MW K mg tk)(o:Df P w K mg base "press_of" W5 3 (tm K)):Df P w K mg base "_law_press" X5 4 iB:=by
 refine a.dq Nx λf _ A _ s H vs Q E r h=>?_
 .let#[cd,tb,kt,p,t,kss,nm,age,c,d,rfl,e,z,u,n,a0,L,x,F,I,q]:=h
  exists _,(qd (za (qv 1) (zg Z (qh (qg (i:=3) Nx.nd Z (Pr Z)) (qh (qg (i:=4) Nx.nd Z (Pr Z)) (qh (qg (i:=5) Nx.nd Z (Pr Z)) qK)))))
   (qe (qj (qo o r.mo (qc (qx qN (qv 0) qf) (qc (qx qN (qx qN (qv 0) qf) (qv 4)) (qc (qv 3) (qc (qv 4) (qc (qv 5) (qc (qv 2) qa))))))))))
  exists 0,p,0,.tup z,7
  let#[M,m,B,l]:=id e.ks;let#[C,j,g]:=Ed (D:=#[t,kss,(0),(0),(0),(0),[]]) B l a0 L
  refine#[0,cd,1,HX.of e.e,8,cd,1,HX.of e.e,8,kt,1,m.up,j,10,tb,C,nm,age,c,d,t,0,.inr (.inl e.tb),.inr g.up,n,by rw[u.length_eq];rfl,x,F,I,λy G H1 J h1 v=>q y H1 J #[G,h1,v]]
theorem l9(a:At K mg "_law_copied" aZ ["_law_own"])(T:MW K mg tk):Df P w K mg base "_law_copied" ["_law_own"] 1 nM:=by
 refine a.dq NS λf _ A _ s H vs Q E B h=>?_
 .let#[m,kd,D,rfl,C,q]:=h
  exists _,(qd (qA (i:=1) NS.nd Z (Pr Z) (qI i0 T.b_dict PyProof.Rows.boot_dict (qc (qv 0) qa)))
   (qd (QM B (qv 1) qy (qI i0 T.b_dict PyProof.Rows.boot_dict (qc (zB B (qv 0) qy) qa)))
   (qe (qj (qv 1)))))
  refine#[0,m,0,C.di,λj g=>?_]
  have v:=HJ.upd (o:= .dK (ZE D kd)) g
  have p:=C.same v;let#[y,J,x,r,u]:=id p.kn;refine#[0,m,0,p.g_known,kd,0,J,λn d=>?_]
  have t:=HJ.upd (o:= .dK (bI y.1 y.2)) d
  have F:=t _ _ (qb (H:=H) (a:=j) (o:= .dK (ZE D kd)))
  have l:n≠j:=(qm (qb (H:=H) (a:=j) (o:= .dK (ZE D kd))) d).symm
  refine#[0,j,0,N8.k (k:=Pt "known") F (mn _ (by show 5<=100;decide)),#[0,?_]]
  refine q j n _ (λc o G=>?_) g (QV d v) #[by rw[qb,yn],#[y,?_,λe I=>?_,r,u],l.symm]
  .rw[qp (qm G g)];exact t _ _ (v _ _ G)
  .rw[qp l];exact qb
  .have z:=x e I
   exact(z.same t).mv (S:=[j]) Mv.upd1 (NT.one F trivial)
end
end Lw
namespace L3
open PySem PySem.Spec PyProof.Rows L2 SeqAt
structure Ny(t:Β)(kss:List Β)(base:Int)(nms:Α)(D:Dr):Prop where
 hr:Rx t kss D
 dn:MQ D
 f12:D.far<=12
 mo:D.most=12
 kl:∀e∈D.kn,MS D e.2/\base<e.2.last/\e.2.last<=base+15
 sub:∀z∈D.kn.map (·.1),z∈nms
section
variable{base:Int}{age c:Int}
theorem Ny.few(h:Ny t kss base nms D):D.kn.length<=nms.length:=by
 have:=jj h.hr.ok.nd h.sub
 rwa [Je]at this
theorem Ny.td(h:Ny t kss base nms D)(a:nms.length<=3):OZ D:=#[h.hr.ok,h.dn,λnm=>by
 cases e:D.kn.lookup nm with
 |none=>exact trivial
 |some b=>exact(h.kl _ (QP e)).1,by have:=h.few;omega]
theorem Ny.lo(h:Ny t kss base nms D)(nm:Str)(e:Kb)(he:D.kn.lookup nm=↑e):base<e.last/\e.last+D.far<=base+28:=by
 let#[_,c,a]:=h.kl _ (QP he)
 have:=h.f12
 simp only at c a
 omega
theorem Ny.lr(h:Ny t kss base nms D)(a:nms.length<=3):Rr t kss D:=#[h.hr.ok,h.hr.t,h.hr.ks,by have:=h.few;have:=h.mo;omega]
theorem Ny.learn(h:Ny t kss base nms D)(n:nms.length<=3)(hn:nm∈nms)(a0:0<=age)(j:age<kss.length)(m:1<=c)(f:c<4096)(g:base<c)(l:c<=base+15):Ny t kss base nms {D with kn:=zr D.kn nm #[age,c,none]}:=by
 have i:=AE D.kn nm #[age,c,none];have o:=h.few;have k:MS {D with kn:=zr D.kn nm #[age,c,none]} #[age,c,none]:=#[a0,by show age<(D.kss.length:Int);rw[h.hr.ks];exact j,m,f,λx y z=>by cases z]
 refine#[#[#[h.hr.ok.tp,h.hr.ok.l0,h.hr.ok.kl,by show(zr _ _ _).length<=60;omega,j0 h.hr.ok.nd _ _],h.hr.t,h.hr.ks,h.hr.f0],#[h.dn.n0,h.dn.n1,h.dn.nf,h.dn.f1,h.dn.l0,h.dn.lk],h.f12,h.mo,λe d=>?_,λz a=>?_]
 .rcases pA d with d|rfl
  .have:=h.kl e d
   exact#[this.1.mono (Jf _),this.2]
  .exact#[k,g,l]
 .have a:z∈(zr D.kn nm #[age,c,none]).map (·.1):=a
  rw[bP]at a;split at a
  .exact h.sub z a
  .rcases JP.mp a with a|a
   .exact h.sub z a
   .rw[Ji.mp a];exact hn
theorem Ny.lrn{o:Option (Int×Int)}(h:Ny t kss base nms D)(c:nms.length<=3)(hn:nm∈nms)(ho:∀a l,o=↑(a,l)->0<=a/\a<kss.length/\1<=l/\l<4096/\base<l/\l<=base+15):Ny t kss base nms (bA nm D o):=by
 cases o with
 |none=>exact h
 |some p=>
  let#[a,l]:=p;let#[h1,f,i,d,g,e]:=ho a l Z;exact h.learn c hn h1 f i d g e
theorem Ny.hear(h:Ny t kss base nms D)(n:0<=c)(j:c<4096)(ch:c<=base+15):Ny t kss base nms {D with kn:=HP D nm age c}:=by
 have ok:=h.hr.ok.hearK nm age c;refine#[#[ok,h.hr.t,h.hr.ks,h.hr.f0],#[h.dn.n0,h.dn.n1,h.dn.nf,h.dn.f1,h.dn.l0,h.dn.lk],h.f12,h.mo,λe a=>?_,λz g=>h.sub z (by rw[<- jr D nm age c];exact g)]
 have a:e∈HP D nm age c:=a
 rcases dy (D:=D) (nm:=nm) (age:=age) (c:=c)with m|⟨b,l,f,i⟩
 .rw[m]at a
  have:=h.kl e a
  exact#[this.1.mono (Jf _),this.2]
 .rw[i]at a
  rcases pA a with a|rfl
  .have:=h.kl e a
   exact#[this.1.mono (Jf _),this.2]
  .have q:=h.kl _ (QP l)
   exists (mW q.1 (c8 f) (ZG f h.dn.l0).2 n j).mono (Jf _)
   have d:=q.2;simp only at d⊢
   unfold zD;split
   .exact d
   .split
    .exact#[by show base<c;omega,ch]
    .split
     .split
      .exact#[by show base<c;omega,ch]
      .exact d
     .exact d
theorem Ny.more{nms':Α}(h:Ny t kss base nms D)(hs:∀z∈nms,z∈nms'):Ny t kss base nms' D:=#[h.hr,h.dn,h.f12,h.mo,h.kl,λz a=>hs z (h.sub z a)]
theorem Ny.forget(h:Ny t kss base nms D):Ny t kss base nms {D with kn:=D.kn.filter λp=>decide (p.1≠nm)}:=by
 have a:(D.kn.filter λp=>decide (p.1≠nm)).Sublist D.kn:=KQ
 refine#[#[#[h.hr.ok.tp,h.hr.ok.l0,h.hr.ok.kl,JN a.length_le h.hr.ok.nl,(a.map _).nodup h.hr.ok.nd],h.hr.t,h.hr.ks,h.hr.f0],#[h.dn.n0,h.dn.n1,h.dn.nf,h.dn.f1,h.dn.l0,h.dn.lk],h.f12,h.mo,λe d=>?_,λz c=>h.sub z ((a.map _).subset c)]
 have:=h.kl e (a.subset d)
 exact#[this.1.mono (Jf _),this.2]
theorem Ny.close(h:Ny t kss base nms D)(a0:0<=age)(c:age<kss.length):Ny t kss base nms {D with least:=if age>D.least then age else D.least}:=by
 refine#[#[#[h.hr.ok.tp,by have:=h.hr.ok.l0;show 0<=(if age>D.least then age else D.least);split<;>omega,h.hr.ok.kl,h.hr.ok.nl,h.hr.ok.nd],h.hr.t,h.hr.ks,h.hr.f0],#[h.dn.n0,h.dn.n1,h.dn.nf,h.dn.f1,by have:=h.hr.ok.l0;show 0<=(if age>D.least then age else D.least);split<;>omega,by have:=h.dn.lk;show(if age>D.least then age else D.least)<(D.kss.length:Int);rw[h.hr.ks]at this⊢;split<;>omega],h.f12,h.mo,λe a=>?_,h.sub]
 have:=h.kl e a
 exact#[this.1.mono (Jf _),this.2]
theorem Ny.turn{ks:Β}(h:Ny t kss base nms D)(d:kss.length<3):Ny t (kss++[ks]) base nms {D with kss:=D.kss++[ks]}:=by
 have hk:=h.hr.ks;have a:(D.kss++[ks]).length=D.kss.length+1:=by rw[Jy];rfl
 refine#[#[#[h.hr.ok.tp,h.hr.ok.l0,by show(D.kss++[ks]).length<=8;rw[a,hk];omega,h.hr.ok.nl,h.hr.ok.nd],h.hr.t,by show D.kss++[ks]=kss++[ks];rw[hk],h.hr.f0],#[h.dn.n0,h.dn.n1,h.dn.nf,h.dn.f1,h.dn.l0,by have:=h.dn.lk;show D.least<((D.kss++[ks]).length:Int);rw[a];omega],h.f12,h.mo,λe c=>?_,h.sub]
 have:=h.kl e c
 exact#[this.1.mono (by show D.kss.length<=(D.kss++[ks]).length;rw[a];omega),this.2]
theorem Ny.win(h:Ny t kss base nms D)(c:nms.length<=3)(f:0<=base)(i:base<=4083)(hx:QU x (zn D a (D.kn.lookup nm))=true):base<=x/\x<base+(zd 30 base:Int):=by
 rw[cN ⋯ (by omega)]
 cases e:D.kn.lookup nm with
 |none=>rw[e]at hx;cases hx
 |some k=>
  rw[e]at hx;have ok:=(h.td c).kn nm;rw[e]at ok;let#[h1,j,l]:=mF h.dn ok hx;let#[g,d]:=h.lo nm k e;split<;>omega
theorem Ny.due(h:Ny t kss base nms D)(h':Ny t kss base nms D')(g:nms.length<=3)(f:0<=base)(j:base<=4083)(ms:Α):zE D D' ms=match ms.findSome? (Qc D D' kss.length base (zd 30 base))with
  |some r=>↑r
  |none=>ms.findSome? (bo D D' kss.length base (zd 30 base)):=by
 have td:=h.td g;have c:=h'.td g;have hk:D.kss.length=D'.kss.length:=by rw[h.hr.ks,h'.hr.ks]
 rw[<- h.hr.ks];have l:ms.findSome? (Qc D D' D.kss.length base (zd 30 base))=ms.findSome? (Ql D D'):=iq λnm _=>rX td.dn c.dn (td.kn nm) (c.kn nm) f (by rw[cN ⋯ (by omega)];split<;>omega) λa x _ d=>by
  rcases d with d|d
  .exact h.win g f j d
  .exact h'.win g f j d
 unfold zE;rw[l];cases e:ms.findSome? (Ql D D')with
 |some r=>rfl
 |none=>exact(iq λnm i=>BM td.ok c.ok td.dn c.dn td.kn c.kn hk f (by rw[cN ⋯ (by omega)];split<;>omega) (λx n m=>by rw[cN ⋯ (by omega)];split<;>omega) h.lo h'.lo (K8.mp e nm i)).symm
end
theorem rP:∀{l c:Β},l.Pairwise (· < ·)->c.Pairwise (· < ·)->(∀x,x∈l↔x∈c)->l=c
 | [],[],_,_,_=>rfl
 | [],y::c,_,_,h=>absurd ((h y).mpr (Jr ..)) (Jt)
 |x::l,[],_,_,h=>absurd ((h x).mp (Jr ..)) (Jt)
 |x::l,y::c,p,p',h=>by
  let#[d,p2]:=KN.mp p;let#[f,g]:=KN.mp p';have e:x=y:=by
   rcases Jg.mp ((h x).mp (Jr ..))with z|z
   .exact z
   .rcases Jg.mp ((h y).mpr (Jr ..))with u|u
    .exact u.symm
    .have:=f x z
     have:=d y u
     omega
  subst e;rw[rP p2 g λz=>?_]
  constructor
  .intro a
   rcases Jg.mp ((h z).mp (Jv _ a))with u|u
   .have:=d z a;omega
   .exact u
  .intro a
   rcases Jg.mp ((h z).mpr (Jv _ a))with u|u
   .have:=f z a;omega
   .exact u
theorem i8(x:Int)(n:Nat):((Ag n).map λi:Nat=>x+(i:Int)).Pairwise (· < ·):=by
 rw[List.pairwise_map];exact Oz.imp λ{a b} h=>by omega
theorem CL{S:List (Int×Int)}(h:Rz S)(hb:∀p∈S,p.1<=p.2):(qC S).Pairwise (· < ·):=by
 unfold qC;cases h with
 |nil=>exact SU
 |one x y hxy=>
  rw[KF,KL,Ic];exact i8 _ _
 |two x y z h1 h2=>
  rw[KF,KF,KL,Ic];refine K0.mpr #[i8 _ _,i8 _ _,λa d b c=>?_]
  let#[i,hi,rfl]:=JC.mp d;let#[j,e,rfl]:=JC.mp c
  have:=JT.mp hi
  have:=JT.mp e
  simp only at *
  omega
theorem Ny.opened(h:Ny t kss base nms D)(l:nms.length<=3)(r:0<=base)(s:base<=4083):(((Ag (zd 30 base)).map λi:Nat=>base+(i:Int)).filter λc=>decide (qE D nm a c="open"))=qC (Qe D nm a):=by
 have td:=h.td l;have m:Qe D nm a=zn D a (D.kn.lookup nm):=Z
 have g:NF (zn D a (D.kn.lookup nm)):=by
  cases e:D.kn.lookup nm with
  |none=>exact .nil
  |some k=>have:=td.kn nm;rw[e]at this;exact gs td.dn this a
 refine rP ((i8 _ _).sublist KQ) (CL g.two λp o=>(g.bd p o).2.1) λx=>?_
 rw[m,ii,LL,JC];have f:∀c:Int,c<=4095->(decide (qE D nm a c="open")=QU c (zn D a (D.kn.lookup nm))):=λc n=>aR td.dn (td.kn nm) n
 have j:=cN (d:=30) (base:=base) ⋯ (by omega)
 constructor
 .rintro⟨⟨i,hi,rfl⟩,q⟩
  have:=JT.mp hi
  rw[<- f _ (by split at j<;>omega)]
  exact q
 .intro q
  let#[u,v]:=h.win l r s q;exists #[(x-base).toNat,JT.mpr (by omega),by omega]
  rw[f x (by split at j<;>omega)]
  exact q
structure Oh where
 el:Δ
 pl:Δ
 nl:Δ
 a:Em
 a':Em
def Qm(E:Oh):Η:=eS E.a++eS E.a'
def zN(E:Oh):Η:=E.el::Qm E
structure MO(K:ι)(C:Δ)(H:Hp)(E:Oh)(t:Β)(kss:List Β)(base:Int)(nms:Α)(D D':Dr)(n:Nat):Prop where
 ent:∃cd dr tb kt,H E.el=↑(.lst [-cd,-E.pl,-dr])/\NA H cd tb kt t kss/\H dr=↑(.tup [-E.nl,.int (kss.length:Int),.int base])
 nl:H E.nl=↑(.lst (nms.map V.str))
 pl:H E.pl=↑(.lst [-E.a.e,-E.a'.e])
 e0:∃L,L.length<=n/\NR K C H E.a D L D
 e1:∃L,L.length<=n/\NR K C H E.a' D' L D'
 dj:∀z∈eS E.a,z∉eS E.a'
 ne:E.el∉Qm E
 np:E.pl∉Qm E
 nn:E.nl∉Qm E
 np':E.pl≠E.el
 nn':E.nl≠E.el
 few:Om nms kss.length base
 s0:Ny t kss base nms D
 s1:Ny t kss base nms D'
section
variable{K:ι}{C:Δ}{S:Η}{H H':Hp}{E:Oh}{t:Β}{kss:List Β}{base:Int}{nms:Α}{D D':Dr}{n m:Nat}{b:Δ}{c c':Nat}{z:Δ}
theorem j4(h:z∈Qm E):z∈eS E.a\/z∈eS E.a':=JP.mp h
theorem jt(h:z∈eS E.a):z∈Qm E:=LN _ h
theorem mh(h:z∈eS E.a'):z∈Qm E:=JQ _ h
theorem MO.nt(e:MO K C H E t kss base nms D D' n):NT (Qm E) H:=λz a=>by
 rcases j4 a with h|h
 .let#[_,_,x]:=e.e0;exact x.nt z h
 .let#[_,_,x]:=e.e1;exact x.nt z h
theorem MO.ntF(e:MO K C H E t kss base nms D D' n):NT (zN E) H:=λz a=>by
 rcases Jg.mp a with rfl|h
 .let#[_,_,_,_,x,_]:=e.ent;exact#[_,x,trivial]
 .exact e.nt z h
theorem MO.mv(e:MO K C H E t kss base nms D D' n)(mv:Mv S H H')(nt:NT S H)(h1:∀z∈zN E,z∉S)(h2:E.pl∉S)(j:E.nl∉S):MO K C H' E t kss base nms D D' n:=by
 let#[cd,g,tb,kt,l,i,f]:=e.ent;let#[L,h,y]:=e.e0;let#[L',c,d]:=e.e1
 exact#[#[cd,g,tb,kt,mv _ _ (h1 _ (Jr ..)) l,i.mv mv nt,mv.tup nt f],mv _ _ j e.nl,mv _ _ h2 e.pl,#[L,h,y.mv mv nt λz a=>h1 z (Jv _ (jt a))],#[L',c,d.mv mv nt λz a=>h1 z (Jv _ (mh a))],e.dj,e.ne,e.np,e.nn,e.np',e.nn',e.few,e.s0,e.s1]
theorem MO.grc(e:MO K C H E t kss base nms D D' n)(d:MZ H b c)(g:NM b c' H H')(hb:b∉zN E)(hp:b≠E.pl)(hn:b≠E.nl):MO K C H' E t kss base nms D D' n:=e.mv (S:=[b]) (λx o h q=>g.kp x o (λz=>h (Ji.mpr z)) q) (zL d) (λz a w=>hb (Ji.mp w▸a)) (qQ hp.symm) (qQ hn.symm)
theorem MO.same(e:MO K C H E t kss base nms D D' n)(s:HJ H H'):MO K C H' E t kss base nms D D' n:=e.mv (S:=[]) s.mv fi (λ_ _ h=>nomatch h) (λh=>nomatch h) (λh=>nomatch h)
theorem MO.mono(e:MO K C H E t kss base nms D D' n)(h:n<=m):MO K C H E t kss base nms D D' m:=by
 let#[L,d,y]:=e.e0;let#[L',a,c]:=e.e1
 exact#[e.ent,e.nl,e.pl,#[L,JN d h,y],#[L',JN a h,c],e.dj,e.ne,e.np,e.nn,e.np',e.nn',e.few,e.s0,e.s1]
def gZ(E:Oh)(H:Hp):Hp:=λz=>if z∈E.pl::Qm E then none else H z
theorem iT(h:z∈E.pl::Qm E):gZ E H z=none:=Jc h
theorem jV(h:z∉E.pl::Qm E):gZ E H z=H z:=Jb h
theorem MO.pw(e:MO K C H E t kss base nms D D' n)(y:NR K C H E.a D L D)(h:NR K C H E.a' D' L' D')(g:MZ H b c)(hb:b∉E.pl::Qm E):Pw K C (gZ E H) H b c E.pl [(E.a,D,L),(E.a',D',L')]:=by
 have d:∀{i:Nat} {x:En},[(E.a,D,L),(E.a',D',L')][i]? =↑x->(i=0/\x=(E.a,D,L))\/(i=1/\x=(E.a',D',L')):=λ{i x} a=>by
  match i,a with
  |0,a=>cases a;exact .inl #[9]
  |1,a=>cases a;exact .inr #[9]
  |k+2,a=>cases a
 refine#[λx o _ a=>?_,g,λz=>?_,λi x a=>?_,λi j x z m a f=>?_,λi x a z f=>?_,e.pl,λi x a z=>?_,iT (Jr ..)]
 .by_cases w:x∈E.pl::Qm E
  .rw[iT w]at a;cases a
  .rw[jV w]at a;exact a
 .rw[jV hb]at z
  let#[_,_,_,q,_]:=g;rw[q]at z;cases z
 .rcases d a with⟨_,rfl⟩|⟨_,rfl⟩
  .exact y
  .exact h
 .rcases d a with⟨h1,rfl⟩|⟨h1,rfl⟩<;>rcases d f with⟨p,rfl⟩|⟨p,rfl⟩
  .omega
  .exact e.dj
  .exactλu l v=>e.dj u v l
  .omega
 .rcases d a with⟨_,rfl⟩|⟨_,rfl⟩
  .exact iT (Jv _ (jt f))
  .exact iT (Jv _ (mh f))
 .rcases d a with⟨_,rfl⟩|⟨_,rfl⟩
  .exact e.np (jt z)
  .exact e.np (mh z)
theorem Pw.mv37{L L':Ρ}(p:Pw K C (gZ E H) H' b c' E.pl [(E.a,F,L),(E.a',F',L')])(e:MO K C H E t kss base nms D D' n):Mv (b::Qm E) H H':=λx o h a=>by
 by_cases w:x=E.pl
 .subst w
  rw[e.pl]at a;cases a;exact p.pe
 .refine p.s x o (qQ λz=>h (z▸Jr ..)) ?_
  rw[jV λz=>?_]
  .exact a
  .rcases Jg.mp z with z|z
   .exact w z
   .exact h (Jv _ z)
theorem EO{xs:Υ}(p:H' E.pl=↑(.lst (xs.map λx=> .ref x.1.e)))(o:∀(i:Nat) (x:En),xs[i]? =↑x->NR K C H' x.1 x.2.1 x.2.2 x.2.1)(e:MO K C H E t kss base nms D D' n)(h2:xs.length=2)(hx:∀(i:Nat) (x:En),xs[i]? =↑x->(i=0->x.1=E.a)/\(i=1->x.1=E.a')/\Ny t kss' base nms x.2.1/\x.2.2.length<=m)(h:∃cd l tb kt,H' E.el=↑(.lst [-cd,-E.pl,-l])/\NA H' cd tb kt t kss'/\H' l=↑(.tup [-E.nl,.int (kss'.length:Int),.int base]))(hn:H' E.nl=↑(.lst (nms.map V.str)))(few:Om nms kss'.length base):∃F F',MO K C H' E t kss' base nms F F' m:=by
 let#[#[q,F,L],#[r,F',L'],rfl]:=jl h2;let#[d,_,c,a]:=hx 0 _ Z;let#[_,f,j,g]:=hx 1 _ Z
 obtain rfl:q=E.a:=d Z
 obtain rfl:r=E.a':=f Z
 exact#[F,F',h,hn,p,#[L,a,o 0 _ Z],#[L',g,o 1 _ Z],e.dj,e.ne,e.np,e.nn,e.np',e.nn',few,c,j]
theorem Pw.mvL37(p:Pw K C (gZ E H) H' b c' E.pl xs)(e:MO K C H E t kss base nms D D' n)(h2:xs.length=2)(hx:∀(i:Nat) (x:En),xs[i]? =↑x->(i=0->x.1=E.a)/\(i=1->x.1=E.a')):Mv (b::Qm E) H H':=by
 let#[#[a,F,L],#[c,F',L'],rfl]:=jl h2
 obtain rfl:a=E.a:=(hx 0 _ Z).1 Z
 obtain rfl:c=E.a':=(hx 1 _ Z).2 Z
 exact p.mv37 e
theorem MO.ntB(e:MO K C H E t kss base nms D D' n)(d:MZ H b c):NT (b::Qm E) H:=λz a=>by
 rcases Jg.mp a with rfl|h
 .exact zL d _ (Ji.mpr Z)
 .exact e.nt z h
theorem Pw.backL37(p:Pw K C (gZ E H) H' b c' E.pl xs)(e:MO K C H E t kss base nms D D' n)(g:MZ H b c)(hb:b∉zN E)(hn:b≠E.nl)(h2:xs.length=2)(hx:∀(i:Nat) (x:En),xs[i]? =↑x->(i=0->x.1=E.a)/\(i=1->x.1=E.a')/\Ny t kss base nms x.2.1/\x.2.2.length<=m):∃F F',Mv (b::zN E) H H'/\MO K C H' E t kss base nms F F' m:=by
 have M:=p.mvL37 e h2 λi x h=>#[(hx i x h).1,(hx i x h).2.1]
 have N:=e.ntB g;let#[cd,f,tb,kt,l,j,d]:=e.ent;have a:∀{z:Δ},z≠b->z∉Qm E->z∉b::Qm E:=λh1 h2 h=>(Jg.mp h).elim h1 h2
 let#[F,F',e']:=EO p.pe p.en e h2 hx #[cd,f,tb,kt,M _ _ (a (λz=>hb (z▸Jr ..)) e.ne) l,j.mv M N,M.tup N d] (M _ _ (a hn.symm e.nn) e.nl) e.few
 exact#[F,F',M.mono λc h z=>h ((Jg.mp z).elim (λz=>z▸Jr ..) λz=>Jv _ (Jv _ z)),e']
end
theorem yg(D:Dr)(kd:Δ)(k:Β):L2.MX (ZE D kd) (Pt "keys":qJ) (.int ((D.kss.length:Int)+1))=ZE {D with kss:=D.kss++[k]} kd:=by
 unfold L2.MX ZE;rw[Jc (by simp [J4])]
 have h1:¬((Pt ("near":Str):Sum Int Str)=Pt ("keys":Str)):=by decide +kernel
 have c:¬((Pt ("far":Str):Sum Int Str)=Pt ("keys":Str)):=by decide +kernel
 have a:¬((Pt ("closed":Str):Sum Int Str)=Pt ("keys":Str)):=by decide +kernel
 have d:¬((Pt ("known":Str):Sum Int Str)=Pt ("keys":Str)):=by decide +kernel
 have e:((D.kss++[k]).length:Int)=(D.kss.length:Int)+1:=by rw[Jy];rfl
 simp only[JS,Ln,Jb h1,Jb c,Jb a,Jb d,Io,e]
theorem MJ.turn{kd:Δ}(a:MJ H m kd D)(k:Β):∃H',N8 H m (.str "keys") (.int ((D.kss.length:Int)+1)) H'/\Mv [m] H H'/\MJ H' m kd {D with kss:=D.kss++[k]}:=by
 refine#[_,N8.k (k:=Pt "keys") a.di (mn _ (by show 5<=100;decide)),Mv.upd1,by rw[qb,yg],a.kn.mv Mv.upd1 (NT.one a.di trivial) (qQ a.ne.symm),a.ne]
theorem Ex{tc:TT}{t u:TS}{rt:VK}{bk ct:L2.St->Hp->Prop}(G:Bool->Hp->Prop)(h:∀a:Bool->Hp->Prop,(∀b H',G b H'->a b H')->tc σ H a)(h1:∀H',G true H'->t D σ H')(h2:∀H',G false H'->u D σ H'):Ng.nx {nx:=tR tc t u D,rt:=rt,bk:=bk,ct:=ct} σ H:=jg G h h1 h2
theorem As{D D':Dr}{ns ms:Α}(n1:ns.Nodup)(n2:ms.Nodup)(f:sortedS ns=true)(c:sortedS ms=true)(h:∀k,k∈ns↔k∈D.kn.map (·.1)\/k∈D'.kn.map (·.1))(hs:∀k,k∈D.kn.map (·.1)\/k∈D'.kn.map (·.1)->k∈ms):zE D D' ns=zE D D' ms:=by
 have e:ns=ms.filter λk=>decide (k∈D.kn.map (·.1)\/k∈D'.kn.map (·.1)):=by
  have pm:ns.Perm (ms.filter λk=>decide (k∈D.kn.map (·.1)\/k∈D'.kn.map (·.1))):=(Ph n1 (KQ.nodup n2)).mpr λk=>by
   rw[LL,decide_eq_true_eq]
   exact#[λw=>#[hs k ((h k).mp w),(h k).mp w],λw=>(h k).mpr w.2]
  refine List.Perm.eq_of_pairwise (le:=wT) (λx y _ _ h1 g=>?_) (aJ f) ((aJ c).sublist KQ) pm
  have e:x.cps.toList=y.cps.toList:=Ou h1 g
  cases x with
  |mk u=>cases y with
   |mk v=>exact J0 Str.mk (Array.ext' e)
 have no:∀k,decide (k∈D.kn.map (·.1)\/k∈D'.kn.map (·.1))=false->D.kn.lookup k=none/\D'.kn.lookup k=none:=λk hk=>by
  have:=of_decide_eq_false hk
  exact#[eR λz=>this (.inl z),eR λz=>this (.inr z)]
 have i:∀k∈ms,decide (k∈D.kn.map (·.1)\/k∈D'.kn.map (·.1))=false->Ql D D' k=none:=λk _ hk=>by
  let#[a,b]:=no k hk;unfold Ql;rw[a,b]
  have:QK D none D' none=none:=zA λx _ _=>Jc Z
  rw[this];rfl
 have d:∀k∈ms,decide (k∈D.kn.map (·.1)\/k∈D'.kn.map (·.1))=false->Zu D D' k=none:=λk _ hk=>by
  let#[a,b]:=no k hk;unfold Zu;rw[a,b];rfl
 unfold zE;rw[e,lf _ i,lf _ d]
section
variable(K:ι)(C:Δ)
inductive k9(vs:Ε)(H:Hp)(Q:VK)(_:XK):Prop
 |mk (b dr nl:Δ)(c:Nat)(nms:Α)(many:Nat)(base:Int)(h1:vs=[-b,-dr])(h2:MZ H b c)(h3:c<1000000)(h4:H dr=↑(.tup [-nl,.int (many:Int),.int base]))(h5:H nl=↑(.lst (nms.map V.str)))(h6:nl≠b)(h7:Om nms many base)(h8:∀E t kss D D' H',NM b (c+100) H H'->MO K C H' E t kss base nms D D' 6->E.nl=nl->H E.pl=none->(∀z∈zN E,H z=none)->Q (-E.el) H')
inductive n9(vs:Ε)(H:Hp)(Q:VK)(_:XK):Prop
 |mk (E:Oh)(b:Δ)(c:Nat)(t:Β)(kss:List Β)(base:Int)(nms:Α)(D D':Dr)(n:Nat)(h1:vs=[-b,-E.el])(h2:MZ H b c)(h3:c<1000000)(h4:MO K C H E t kss base nms D D' n)(h5:b∉zN E)(h6:b≠E.pl)(h7:b≠E.nl)(h8:n<=800)(h9:∀kss' F F' H',Mv (b::zN E) H H'->MZ H' b (c+20)->MO K C H' E t kss' base nms F F' (n+2)->Q .non H')
inductive kq(vs:Ε)(H:Hp)(Q:VK)(_:XK):Prop
 |mk (E:Oh)(b:Δ)(c:Nat)(t:Β)(kss:List Β)(base:Int)(nms:Α)(D D':Dr)(n:Nat)(h1:vs=[-b,-E.el])(h2:MZ H b c)(h3:c<1000000)(h4:MO K C H E t kss base nms D D' n)(h5:b∉zN E)(h6:b≠E.pl)(h7:b≠E.nl)(h8:∀H',NM b (c+4) H H'->Q (.bl true) H')
end
inductive fX(K:ι)(C:Δ)(vs:Ε)(H:Hp)(Q:VK)(_:XK):Prop
 |mk (cd tb kt pl tl b:Δ)(c:Nat)(H0:Hp)(t:Β)(kss:List Β)(xs:Υ)(nm:Str)(os:List (Option (Int×Int)))(h1:vs=[-cd,-pl,.str nm,-tl])(h2:Pw K C H0 H b c pl xs)(h3:xs.length=2)(h4:NA H cd tb kt t kss)(h5:ZL nm)(h6:NY H tl os)(h7:os.length=2)(h8:(∀(i:Nat)(x:En),xs[i]? =↑x->tl∉eS x.1))(h9:(∀(i:Nat)(x:En),xs[i]? =↑x->Rr t kss x.2.1/\(∀a l,os.getD i none=↑(a,l)->x.2.1.least<=a/\x.2.1.kn.lookup nm=none)/\x.2.1.kn.length<=11/\x.2.2.length<=900))(h10:(∀a l,↑(a,l)∈os->0<=a/\a<kss.length/\1<=l/\l<4096))(h11:∀H' xs',Pw K C H0 H' b c pl xs'->NA H' cd tb kt t kss->Oc (λi D=>bA nm D (os.getD i none)) 2 xs xs'->(∀c ys,H c=↑(.tup ys)->H' c=↑(.tup ys))->Q .non H')
def NL(E F:Oh):Prop:=(∀z∈zN E,z∉zN F)/\E.pl∉zN F/\E.nl∉zN F/\F.pl∉zN E/\F.nl∉zN E
theorem NL.symm(h:NL E F):NL F E:=#[λz h1 a=>h.1 z a h1,h.2.2.2.1,h.2.2.2.2,h.2.1,h.2.2.1]
theorem MO.apart{K:ι}{F:Oh}(e:MO K C H E t kss base nms D D' n)(f1:∀z∈zN F,H z=none)(f2:H F.pl=none)(f:H F.nl=none):NL E F:=by
 have a:∀z∈zN E,H z≠none:=λz c w=>by let#[o,x,_]:=e.ntF z c;rw[w]at x;cases x
 exact#[λz h1 d=>a z h1 (f1 z d),λh=>(by have:=f1 _ h;rw[e.pl]at this;cases this),λh=>(by have:=f1 _ h;rw[e.nl]at this;cases this),λh=>a _ h f2,λh=>a _ h f]
theorem MO.other{K:ι}{b:Δ}(e:MO K C H E t kss base nms D D' n)(f:MO K C H F t' kss' a nms' G i j)(g:NL E F)(l:MZ H b c)(hb:b∉zN E)(hp:b≠E.pl)(hn:b≠E.nl)(m:Mv (b::zN F) H H'):MO K C H' E t kss base nms D D' n:=by
 have N:NT (b::zN F) H:=λz d=>by
  rcases Jg.mp d with rfl|h
  .exact zL l _ (Ji.mpr Z)
  .exact f.ntF z h
 exact e.mv m N (λz d w=>(Jg.mp w).elim (λq=>hb (q▸d)) (g.1 z d)) (λw=>(Jg.mp w).elim (λq=>hp q.symm) g.2.1) (λw=>(Jg.mp w).elim (λq=>hn q.symm) g.2.2.1)
theorem N4.mvW(h:N4 H v o)(m:Mv S H H')(n:NT S H):N4 H' v o:=by
 cases o with
 |none=>exact h
 |some r=>
  let#[t,f,e,h1,j,g]:=h
  exact#[t,f,e,m.tup n h1,j,λi a z d c=>m.tup n (g i a z d c)]
theorem MO.ntFB{K:ι}{b:Δ}(e:MO K C H E t kss base nms D D' n)(d:MZ H b c):NT (b::zN E) H:=λz a=>by
 rcases Jg.mp a with rfl|h
 .exact zL d _ (Ji.mpr Z)
 .exact e.ntF z h
end L3
namespace Lw
open PySem L2 L3
section
variable{P:Ξ}{w:Ω}{K:ι}{mg:HH}{base:Ψ}{tk:Nat->Tok}{C:Δ}
theorem jL(a:At K mg "_law_learnt" bf ["_law_code","_law_pair_here","_law_name","_law_told"])(T:MW K mg tk)(U:ND K C)(xT:Mf P w K mg base C "learn" ["self","one","other"] 7 (kQ K C))(dW:Df P w K mg base "_law_press" X5 4 iB):Df P w K mg base "_law_learnt" X2 8 (fX K C):=by
  refine a.dq M0 λf _ A _ s H vs Q E hr h=>?_
  · let#[cd,tb,kt,pl,tl,b,c,H0,t,kss,xs,nm,G,rfl,pw,lx,hc,hn,ho,lo,d6,hx,d0,q]:=h
    exists _,(qe (zf JJ Z (zM Z T.b_range (qc qf qa)) (qg (i:=4) M0.nd Z (Pr Z))
      (qe (qB (qw Z7 (qx qF (qv 3) (qv 4)) qP (qq _)) (qd (za (qx qF (qv 3) (qv 4)) (zg Z (qh (qg (i:=5) M0.nd Z (SV Z)) (qh (qg (i:=6) M0.nd Z (Pr Z)) qK))))
      (qd (cL (i:=7) M0.nd Z (Pr Z) (own:=["_law_count"]) (fr:=["_law_name","_law_code","_law_age"]) (js:=[2,0,5]) Z (aq (qu (qc (qr Qy (qv 6) qf) (qc (qv 6) qa)))) Z (Eb Z Z Z) Z (Fh Z nofun nofun nofun Z Z Z Z Z Z Z Z Z) (λ_ _ _ _=>qg (i:=0) (show P4 (["_law_count","_law_name","_law_code","_law_age"]:Α)from by decide +kernel) Z (Pr Z) (.inr Z)) (λ_ _ _ _=>(qo dW hr.mo (qc (qv 2) (qc (qu (qc (qv 1) (qc (qv 3) (qc (qv 0) qa)))) (qc qf qa))))))
      (qd (zc (zb xT U.cl hr.mo (qx qN (qx qF (qv 1) (qv 4)) qf) (qc (qx qF (qv 7) qf) (qc (qx qF (qv 7) qf) qa))))
      (qe (QM hr (zB hr (qx qN (qx qF (qv 1) (qv 4)) qf) qy) (qv 2) (qu (qc (qv 5) (qc (qv 6) (qc qP qa))))))))) qt))))
    exists 0,⋯,⋯
    refine Qv (n:=2) (Pv:=λj σ X=>∃r,Pw K C H0 X b c pl r/\NA X cd tb kt t kss/\NY X tl G/\(∀c ys,H c=↑(.tup ys)->X c=↑(.tup ys))/\Oc (λi D=>if i<j then bA nm D (G.getD i none)else D) j xs r/\∃o4 o5 o6 o7,σ=[↑(-cd),↑(-pl),↑(.str nm),↑(-tl),o4,o5,o6,o7]) #[xs,pw,hc,ho,(λ_ _ h=>h),(Oc.refl xs).ext (λi x hi=>by simp),22] ?_ ?_
    · rintro j σ X hj ⟨r,I,S,W,Y,st,o4,o5,o6,o7,rfl⟩
      have e9:j<xs.length:=by rw[lx];exact hj
      have ex:=Jh e9;let#[x,rx]:∃x,x=xs[j]:=#[0]
      rw[<- rx]at ex;let#[L1,v,ll]:=st.2 j x ex;simp only[Ia,JH]at v;let#[dp,l0,g2,g4]:=hx j x ex;have en:=I.en j _ v;simp only at en
      let#[vs,b6,c2,e0]:=id W;have hv:j<vs.length:=by rw[c2,lo];exact hj
      have a6:j<G.length:=by rw[lo];exact hj
      have b0:QJ vs (0+(j:Int))=some vs[j]:=by rw[Kc];exact Qs (Jh hv)
      have F:=e0 j vs[j] G[j] (Jh hv) (Jh a6);have O:G.getD j none=G[j]:=by rw[JG,Jh a6];rfl
      have b4:∀{f:Nat->Dr->Dr} {a2:Υ},Oc f (j+1) xs a2->f j x.2.1=bA nm x.2.1 G[j]->(∀i,i≠j->f i=λD=>if i<j then bA nm D (G.getD i none)else D)->Oc (λi D=>if i<j+1 then bA nm D (G.getD i none)else D) (j+1) xs a2:=λh e1 e2=>h.ext λi y hi=>by
        by_cases z:i=j
        · subst z
          rw[ex]at hi;cases hi
          rw[e1,Jc (by omega),O]
        · rw[e2 i z]
          simp only
          by_cases w:i<j
          · rw[Jc w,Jc (by omega)]
          · rw[Jb w,Jb (by omega)]
      exists 2,tl,vs,6,HQ.of b6,b0,8
      cases eo:G[j]with
      | none=>
        rw[eo]at F;have F:vs[j]= .non:=F
        refine QF (by rw[F];rfl) #[r,I,S,W,Y,?_,22]
        exact b4 (st.mono (by omega)) (by rw[eo];simp [bA]) (λi hi=>rfl)
      |some al=>
      let#[u,l]:=al;rw[eo]at F;let#[tt,b7,d1]:=F;let#[a0,a1,g1,g0]:=d0 u l (eo▸IH a6)
      refine Qp (by rw[b7];rfl) ?_
      exists 2,tl,vs,6,HQ.of b6,b0,tt,_,b7,.tup d1,5
      refine#[12,Ho,λtq f0=>#[tq,Z,#[_,HX.of qb],?_]]
      have uq:=HJ.upd (o:= .tup [.int (l-1),.int l]) f0
      have b5:=S.same uq;have d4:(HM X tq (.tup [.int (l-1),.int l])) tq=↑(.tup [.int (l-1),.int l]):=qb
      have d7:=I.same uq;have e8:=W.same uq;generalize HM X tq (.tup [.int (l-1),.int l])=Hq at *
      refine bv (K:=K) (a:=tq) (xs:=[.int (l-1),.int l]) (Ho) (λi ys Hy=>HJ Hq Hy/\∃N:Η,ys=N.map V.ref/\N.length=i/\∀(k:Nat) (p:Δ),N[k]? =↑p->cS Hy p (QR t kss nm u (l-1+(k:Int)) 0)) #[HJ.refl _,[],9,λk p h=>by cases h] (λi ys Hy h=>HX.of (h.1 _ _ d4)) ?_ ?_
      · rintro i ys Hy z hz c1 ⟨sy,N,rfl,a4,R⟩
        have c4:i<2:=(Jw.mp hz).1
        have ez:z= .int (l-1+(i:Int)):=by
          match i,c4,hz with
          |0,_,hz=>cases hz;show V.int (l-1)=V.int (l-1+0);rw[Int.add_zero]
          |1,_,hz=>cases hz;show V.int l=V.int (l-1+1);rw[Int.sub_add_cancel]
        subst ez;refine#[10,Ht,λp hp=>?_]
        have up:=HJ.upd (o:= .tup [.str nm,.int u,.int (l-1+(i:Int))]) hp
        refine#[cd,tb,kt,p,t,kss,nm,u,l-1+(i:Int),(0),Z,(b5.same sy).same up,qb,(dp.t▸dp.ok.tp),hn,a0,a1,by omega,by omega,#[⋯,⋯],λpr Hz sz d2=>#[(sy.trans up).trans sz,N++[pr],by simp,by simp [a4],λk p' hk=>?_]]
        by_cases b3:k<N.length
        · rw[J3 b3]at hk
          exact Nb.same (up.trans sz) (R k p' hk)
        · rw[J9 (by omega)]at hk
          cases ek:k-N.length with
          | zero => rw[ek]at hk;cases hk;obtain rfl:k=i:=by omega
                    exact d2
          |succ m=>rw[ek]at hk;cases hk
      rintro ys Hy c1 ⟨sy,N,rfl,a4,R⟩ J a8
      let#[L,M,rfl]:∃L M,N=[L,M]:=by
        match N,a4 with
        | [L,M],_=>exact#[L,M,Z]
      have ur:=HJ.upd (o:= .lst (([L,M]:Η).map V.ref)) a8
      have Sr:=sy.trans ur;have a3:(HM Hy J (.lst (([L,M]:Η).map V.ref))) J=↑(.lst [-L,-M]):=qb
      have b1:=Nb.same ur (R 0 L Z);have f1:=Nb.same ur (R 1 M Z);have B:=d7.same Sr;have e6:=e8.same Sr;have d9:=b5.same Sr;generalize HM Hy J (.lst (([L,M]:Η).map V.ref))=Hr at *
      have er:=B.en j _ v;simp only at er
      have b2:QJ (r.map λx=>V.ref x.1.e) (0+(j:Int))=↑(-x.1.e):=by rw[Kc];exact B.at (x:=(x.1,x.2.1,L1)) v
      exists 2,pl,1,HQ.of B.pe,b2,x.1.e,1,HX.of er.tu,Z,x.1.a.p,Z,er.dl.dr.no,0,J,1,HQ.of a3,8,J,1,HQ.of a3,Z
      have g3:l-1+((1:Nat):Int)=l-1+1:=Z
      have e7:l-1+((0:Nat):Int)=l-1:=Int.add_zero _
      rw[e7]at b1;have d3:=ja (nm:=nm) (d:=0) dp (l0 u l (O.trans eo)).1 a1 (show 0<=l-1 by omega) (by omega) #[⋯,⋯]
      have f9:=ja (nm:=nm) (c:=l-1+1) (d:=0) dp (l0 u l (O.trans eo)).1 a1 (by omega) (by omega) #[⋯,⋯]
      have tp:t.Perm Nf:=dp.t▸dp.ok.tp
      refine#[x.1.a,x.2.1,L1,L,M,QR t kss nm u (l-1) 0,QR t kss nm u (l-1+1) 0,l-1,(0),(0),Z,er.dl,by omega,dp.ok,b1,f1,f8 tp hn (by omega) (by omega) #[⋯,⋯],f8 tp hn (by omega) (by omega) #[⋯,⋯],d3,f9,9,(l0 u l (O.trans eo)).2,dp.rm,λHs ms ds=>?_]
      have c0:=vC ms;have es:=er.door c0 ds;have a7:Mv (eS x.1) Hr Hs:=cw c0
      have d8:=B.np j _ v;have f2:Hs pl=↑(.lst (r.map λx=> .ref x.1.e)):=a7 _ _ d8 B.pe
      have Nr:NT (eS x.1) Hr:=er.nt
      refine#[2,Ht,λt3 f3=>?_]
      have u3:=HJ.upd (o:= .tup [.int u,.int l,.non]) f3
      have e3:=es.same u3;have a5:=e3.md;let#[H4,c3,m4,d5]:=a5.kn.put nm (a:=t3) (e:=#[u,l,none]) (by omega) #[.non,qb,Z]
      exists 2,pl,1,HQ.of (u3 _ _ f2),b2,x.1.e,1,HX.of e3.tu,Z,x.1.m,0,a5.g_known,0,x.1.kd,H4,Z,c3
      have e5:=a5.putK m4 d5;have b8:Mv [x.1.m,x.1.kd] _ H4:=m4.mono (λc h z=>h (by rw[Ji.mp z];simp))
      have e4:=e3.model b8 e5;have Mall:Mv (eS x.1) Hr H4:=(a7.trans u3.mv).trans (cx b8)
      have f5:l-1+1=l:=by omega
      rw[f5]at e4;have f4:NR K C H4 x.1 {x.2.1 with kn:=zr x.2.1.kn nm #[u,l,none]} (L1++[.learn (QR t kss nm u (l-1) 0) (QR t kss nm u l 0)]) {x.2.1 with kn:=zr x.2.1.kn nm #[u,l,none]}:=e4
      refine#[_,B.step v Mall f4,d9.mv Mall Nr,e6.mv Mall Nr (d6 j x ex),(λc ys h=>Mall.tup Nr (Sr _ _ (uq _ _ (Y c ys h)))),?_,22]
      exact b4 (Oc.set (x:=x) (g:=λi D=>if i=j then bA nm D G[j]else if i<j then bA nm D (G.getD i none)else D) st ex (by simp only[Ia,JH];exact v) (by simp) (by simp only[Io];rw[eo];rfl) (λi hi=>by funext D;rw[Jb hi])) (by simp) (λi hi=>by funext D;rw[Jb hi])
    · rintro σ X ⟨r,I,S,W,Y,st,o4,o5,o6,o7,rfl⟩
      exact q X r I S (st.ext λi x hi=>by
        have:i<2:=by rw[<- lx];exact(Jw.mp hi).1
        rw[Jc this]) Y
theorem oE(a:At K mg "_law_heard" cn ["_law_code","_law_pair_here","_law_plain","_law_places"])(T:MW K mg tk)(U:ND K C)(x6:Mf P w K mg base C "hear" V4 6 (tF K C))(dW:Df P w K mg base "_law_press" X5 4 iB)(dL:Df P w K mg base "_law_hear" w6 2 jZ):Df P w K mg base "_law_heard" X9 7 (ph K C):=by
 refine a.dq N3 λf _ A _ s H vs Q E hr h=>?_
 .let#[cd,tb,kt,pl,p,ps,b,c,H0,t,kss,xs,nm,age,n,is,rfl,pw,lx,hc,hn,a0,a1,n0,n1,hp,M,W,Y,hx,q]:=h
  exists _,(qe (zf JJ Z (aq (qv 3)) (qg (i:=4) N3.nd Z (Pr Z))
   (qd (zc (zb x6 U.cl hr.mo (qx qN (qx qF (qv 1) (qv 4)) qf) (qc (qo dW hr.mo (qc (qv 0) (qc (qv 2) (qc qf qa)))) qa)))
   (qe (zc (qo dL hr.mo (qc (qx qN (qx qF (qv 1) (qv 4)) qf) (qc (qv 2) qa))))))))
  exists 0,ps,Z,#[_,.inl M]
  have N:is.length<=2:=by
   match is,W,Y with
   | [],_,_=>exact JB _
   | [_],_,_=>exact(by decide:1<=2)
   | [_,_],_,_=>exact Jf 2
   |x::y::z::r,nd,h=>
    have h1:=h x (by simp)
    have h2:=h y (by simp)
    have h3:=h z (by simp)
    simp only[IG,Jg,not_or]at nd;omega
  refine gu (K:=K) (a:=ps) (xs:=is.map λi:Nat=>V.int (i:Int)) (λj σ v=>∃e,Pw K C H0 v b c pl e/\NA v cd tb kt t kss/\v p=↑(.tup [.str nm,.int age,.int n])/\Rd v ps (.tup (is.map λi:Nat=>V.int (i:Int)))/\Oc (λi D=>if i∈is.take j then{D with kn:=HP D nm age n}else D) j xs e/\∃o4,σ=[↑(-cd),↑(-pl),↑(-p),↑(-ps),o4]) #[xs,pw,hc,hp,M,(Oc.refl xs).ext (λi x hi=>by simp),0] (λj σ v _ h=>let⟨_,_,_,_,r,_⟩:=h;.inl r) ?_ ?_
  .rintro j z σ v X ⟨e,l,o,m,u,st,o4,rfl⟩
   rw[Jo]at X;cases ei:is[j]? with
   |none=>rw[ei]at X;cases X
   |some i=>
   rw[ei]at X;cases X;have R:=Ij ei;have hi:=Y i R;have hj:j<is.length:=(Jw.mp ei).1
   have a5:i<xs.length:=by rw[lx];exact hi
   have ex:=Jh a5;let#[x,rx]:∃x,x=xs[i]:=#[0]
   rw[<- rx]at ex;have S:i∉is.take j:=λz=>by
    let#[k,hk,ek]:=HB.mp z;rw[Pg]at ek;rw[G5]at hk
    exact(Kg.mp W) k j (by omega) hj (by omega) (ek.trans (Jw.mp ei).2.symm)
   let#[L1,g,ll]:=st.2 i x ex;have g:e[i]? =↑(x.1,x.2.1,L1):=by rw[g];show ↑(x.1,(if i∈is.take j then _ else x.2.1),L1)=_;rw[Jb S]
   let#[L,b4]:=hx i x ex;have tp:t.Perm Nf:=L.t▸L.ok.tp
   have en:=l.en i _ g;simp only at en
   have O:QJ (e.map λx=>V.ref x.1.e) (i:Int)=↑(-x.1.e):=l.at (x:=(x.1,x.2.1,L1)) g
   refine#[2,pl,1,HQ.of l.pe,O,x.1.e,1,HX.of en.tu,Z,x.1.a.p,Z,en.dl.dr.no,2,cd,tb,kt,p,t,kss,nm,age,n,(3),Z,o,m,tp,hn,a0,a1,n0,n1,#[⋯,⋯],λpr H2 J b0=>?_]
   have I:=l.same J;have B:=en.same J;have a7:=f8 (kss:=kss) (age:=age) tp hn n0 n1 (d:=3) #[⋯,⋯]
   refine#[x.1.a,x.2.1,L1,-pr,↑(QR t kss nm age n 3),Z,B.dl,by omega,L.ok,#[pr,Z,b0,a7],(λz=>by cases z),λPP hP b3 q' H3 b2 m3 _ _ d3=>?_]
   cases hP;rw[oR L n0 n1 #[⋯,⋯],wc]at d3
   have a2:=vC m3;have G:=B.door a2 d3;have F:Mv (eS x.1) H2 H3:=cw a2
   have b1:=I.np i _ g;have a4:H3 pl=↑(.lst (e.map λx=> .ref x.1.e)):=F _ _ b1 I.pe
   have N2:NT (eS x.1) H2:=B.nt
   have a3:=F.tup N2 (J _ _ m);refine#[2,pl,1,HQ.of a4,O,x.1.e,1,HX.of G.tu,8,x.1.m,x.1.kd,p,x.2.1,nm,age,n,Z,G.md,a3,L.ok,L.f0,λH4 m4 a6=>?_]
   have a8:=G.model m4 a6;have Mall:Mv (eS x.1) H2 H4:=F.trans (cx m4)
   refine#[_,I.step g Mall a8,(o.same J).mv Mall N2,Mall.tup N2 (J _ _ m),Mall.rd N2 (Rd.same J u),?_,0]
   refine Oc.set (x:=x) st ex (by show _=↑(x.1,(if i∈is.take j then _ else x.2.1),L1);rw[Jb S];exact g) (by simp) ?_ (λk hk=>?_)
   .show(if i∈is.take (j+1)then _ else _)=_
    rw[Jc (by rw[Ie,ei];simp)]
   .funext D
    have:k∈is.take (j+1)↔k∈is.take j:=by rw[Ie,ei];simp;exactλz=>absurd z hk
    by_cases z:k∈is.take j
    .rw[Jc z,Jc (this.mpr z)]
    .rw[Jb z,Jb (λw=>z (this.mp w))]
  .rintro σ v ⟨e,l,o,m,u,st,o4,rfl⟩
   refine q v e l o ?_
   rw[Je,Ip]at st;exact st.mono N
theorem gn(a:At K mg "_law_alike" bY ["_law_found","_law_due"])(T:MW K mg tk):∀n:Nat,n<=8->Df P w K mg base "_law_alike" W3 (n+1) (Fa n)
 |0,_=>by
  refine a.dq gm λf _ A _ s H vs Q E F h=>?_
  .let#[x,y,rfl,e,q]:=h
   exists _,(qd (qB (zk (qk ZB T.b_isinstance JA (qc (qv 1) (qc (qu (qc (qH (v:= .ty "list") Z T.b_list Ig Z) (qc (qH (v:= .ty "tuple") Z T.b_tuple JL Z) qa))) qa)))) Qg qt)
   (qd (qB (QW.pt (Qd (zk (qk qL T.b_isinstance JA (qc (qv 1) (qc (qH (v:= .ty "str") Z T.b_str Lz Z) qa)))) (zP (qw zW (qv 1) qP (qq _))))) (qe (qj (ze zt (qv 0) (qv 1) (qq _)))) qt)
   (qe (qj (zG (qk qL T.b_isinstance JA (qc (qv 0) (qc (qH (v:= .ty "int") Z T.b_int Lk Z) qa))) (zG (bz (qk qL T.b_isinstance JA (qc (qv 0) (qc (qH (v:= .ty "bool") Z T.b_bool Ll Z) qa)))) (QH (ze zt (qv 0) (qv 1) (qq _)))))))))
   cases e with
   |int _ i=>
    refine#[0,Ho,λp g=>#[_,p,["list","tuple"],"int",Z,qb,.int i,by simp,0,?_]]
    rw[show(["list","tuple"].any (zz "int"))=false from by decide]
    refine zh #[17,"str","int",Z,.int i,by simp,0,?_]
    rw[show zz "int" "str"=false from by decide]
    refine zh #[3,?_]
    refine qZ (λz=>nomatch (Jz z)) (λ_=>#[17,"int","int",Z,.int i,by simp,0,?_])
    rw[show zz "int" "int"=true from by decide]
    refine zo #[17,"bool","int",Z,.int i,by simp,0,?_]
    rw[show zz "int" "bool"=false from by decide]
    refine#[0,zo #[23,?_]]
    rw[Jj Z];exact q _ (HJ.upd g)
   |str _ z=>
    refine#[0,Ho,λp g=>#[_,p,["list","tuple"],"str",Z,qb,.str z,by simp,0,?_]]
    rw[show(["list","tuple"].any (zz "str"))=false from by decide]
    refine zh #[17,"str","str",Z,.str z,by simp,0,?_]
    rw[show zz "str" "str"=true from by decide]
    refine zo (zo #[23,?_])
    rw[Jj Z];exact q _ (HJ.upd g)
   |non _=>
    refine#[0,Ho,λp g=>#[_,p,["list","tuple"],"NoneType",Z,qb,.non,by simp,0,?_]]
    rw[show(["list","tuple"].any (zz "NoneType"))=false from by decide]
    refine zh #[17,"str","NoneType",Z,.non,by simp,0,?_]
    rw[show zz "NoneType" "str"=false from by decide]
    refine zh #[3,?_]
    refine qZ (λ_=>#[23,?_]) (λz=>absurd (Jj Z) z)
    rw[Jj Z];exact q _ (HJ.upd g)
 |n+1,hn=>by
  have L:=gn a T n (by omega)
  refine a.dq gm λf _ A _ s H vs Q E F h=>?_
  .let#[x,y,rfl,e,q]:=h
   cases e with
   |int _ i=>
    exists _,(qd (qB (zk (qk ZB T.b_isinstance JA (qc (qv 1) (qc (qu (qc (qH (v:= .ty "list") Z T.b_list Ig Z) (qc (qH (v:= .ty "tuple") Z T.b_tuple JL Z) qa))) qa)))) Qg qt)
   (qd (qB (QW.pt (Qd (zk (qk qL T.b_isinstance JA (qc (qv 1) (qc (qH (v:= .ty "str") Z T.b_str Lz Z) qa)))) (zP (qw zW (qv 1) qP (qq _))))) (qe (qj (ze zt (qv 0) (qv 1) (qq _)))) qt)
   (qe (qj (zG (qk qL T.b_isinstance JA (qc (qv 0) (qc (qH (v:= .ty "int") Z T.b_int Lk Z) qa))) (zG (bz (qk qL T.b_isinstance JA (qc (qv 0) (qc (qH (v:= .ty "bool") Z T.b_bool Ll Z) qa)))) (QH (ze zt (qv 0) (qv 1) (qq _)))))))))
    refine#[0,Ho,λp g=>#[_,p,["list","tuple"],"int",Z,qb,.int i,by simp,0,?_]]
    rw[show(["list","tuple"].any (zz "int"))=false from by decide]
    refine zh #[17,"str","int",Z,.int i,by simp,0,?_]
    rw[show zz "int" "str"=false from by decide]
    refine zh #[3,?_]
    refine qZ (λz=>nomatch (Jz z)) (λ_=>#[17,"int","int",Z,.int i,by simp,0,?_])
    rw[show zz "int" "int"=true from by decide]
    refine zo #[17,"bool","int",Z,.int i,by simp,0,?_]
    rw[show zz "int" "bool"=false from by decide]
    refine#[0,zo #[23,?_]]
    rw[Jj Z];exact q _ (HJ.upd g)
   |str _ z=>
    exists _,(qd (qB (zk (qk ZB T.b_isinstance JA (qc (qv 1) (qc (qu (qc (qH (v:= .ty "list") Z T.b_list Ig Z) (qc (qH (v:= .ty "tuple") Z T.b_tuple JL Z) qa))) qa)))) Qg qt)
   (qd (qB (QW.pt (Qd (zk (qk qL T.b_isinstance JA (qc (qv 1) (qc (qH (v:= .ty "str") Z T.b_str Lz Z) qa)))) (zP (qw zW (qv 1) qP (qq _))))) (qe (qj (ze zt (qv 0) (qv 1) (qq _)))) qt)
   (qe (qj (zG (qk qL T.b_isinstance JA (qc (qv 0) (qc (qH (v:= .ty "int") Z T.b_int Lk Z) qa))) (zG (bz (qk qL T.b_isinstance JA (qc (qv 0) (qc (qH (v:= .ty "bool") Z T.b_bool Ll Z) qa)))) (QH (ze zt (qv 0) (qv 1) (qq _)))))))))
    refine#[0,Ho,λp g=>#[_,p,["list","tuple"],"str",Z,qb,.str z,by simp,0,?_]]
    rw[show(["list","tuple"].any (zz "str"))=false from by decide]
    refine zh #[17,"str","str",Z,.str z,by simp,0,?_]
    rw[show zz "str" "str"=true from by decide]
    refine zo (zo #[23,?_])
    rw[Jj Z];exact q _ (HJ.upd g)
   |non _=>
    exists _,(qd (qB (zk (qk ZB T.b_isinstance JA (qc (qv 1) (qc (qu (qc (qH (v:= .ty "list") Z T.b_list Ig Z) (qc (qH (v:= .ty "tuple") Z T.b_tuple JL Z) qa))) qa)))) Qg qt)
   (qd (qB (QW.pt (Qd (zk (qk qL T.b_isinstance JA (qc (qv 1) (qc (qH (v:= .ty "str") Z T.b_str Lz Z) qa)))) (zP (qw zW (qv 1) qP (qq _))))) (qe (qj (ze zt (qv 0) (qv 1) (qq _)))) qt)
   (qe (qj (zG (qk qL T.b_isinstance JA (qc (qv 0) (qc (qH (v:= .ty "int") Z T.b_int Lk Z) qa))) (zG (bz (qk qL T.b_isinstance JA (qc (qv 0) (qc (qH (v:= .ty "bool") Z T.b_bool Ll Z) qa)))) (QH (ze zt (qv 0) (qv 1) (qq _)))))))))
    refine#[0,Ho,λp g=>#[_,p,["list","tuple"],"NoneType",Z,qb,.non,by simp,0,?_]]
    rw[show(["list","tuple"].any (zz "NoneType"))=false from by decide]
    refine zh #[17,"str","NoneType",Z,.non,by simp,0,?_]
    rw[show zz "NoneType" "str"=false from by decide]
    refine zh #[3,?_]
    refine qZ (λ_=>#[23,?_]) (λz=>absurd (Jj Z) z)
    rw[Jj Z];exact q _ (HJ.upd g)
   | @tup _ c d xs ys h1 h2 hl hz hi=>
    exists _,(qd (qB (zk (qk ZB T.b_isinstance JA (qc (qv 1) (qc (qu (qc (qH (v:= .ty "list") Z T.b_list Ig Z) (qc (qH (v:= .ty "tuple") Z T.b_tuple JL Z) qa))) qa)))) (qd (qB (QW.pt (Qd (qw ac (qk qL T.b_isinstance JA (qc (qv 0) (qc (qH (v:= .ty "list") Z T.b_list Ig Z) qa))) (qk qL T.b_isinstance JA (qc (qv 1) (qc (qH (v:= .ty "list") Z T.b_list Ig Z) qa))) (qq _)) (zP (qw ac (qk qL T.b_isinstance JA (qc (qv 0) (qc (qH (v:= .ty "tuple") Z T.b_tuple JL Z) qa))) (qk qL T.b_isinstance JA (qc (qv 1) (qc (qH (v:= .ty "tuple") Z T.b_tuple JL Z) qa))) (qq _))))) (qe (qj Zg)) qt)
   (qd (qB (qw ac (qk qT T.b_len J5 (qc (qv 0) qa)) (qk qT T.b_len J5 (qc (qv 1) qa)) (qq _)) (qe (qj Zg)) qt)
   (qe (qj (qk (bJ Z) T.b_all Mo (qc (zZ (own:=["_law_part","_law_more"]) (fr:=[]) (js:=[]) Z (DR Z T.b_zip (qc (qv 0) (qc (qv 1) qa))) Z (λ_ _ h=>nomatch h) Z (cf Z nofun nofun nofun) (λ_ _ _ _=>jI (K:=K) Z 2 Z (qh (qg (i:=0) (show P4 (["_law_part","_law_more"]:Α)from by decide +kernel) Z (Pr Z) (.inr Z)) (qh (qg (i:=1) (show P4 (["_law_part","_law_more"]:Α)from by decide +kernel) Z (Pr Z) (.inr Z)) qK))) (λ_ _ _ _=>(qo L F.mo (qc (qv 0) (qc (qv 1) qa))))) qa)))))) qt)
   (qd (qB (QW.pt (Qd (zk (qk qL T.b_isinstance JA (qc (qv 1) (qc (qH (v:= .ty "str") Z T.b_str Lz Z) qa)))) (zP (qw zW (qv 1) qP (qq _))))) (qe (qj (ze zt (qv 0) (qv 1) (qq _)))) qt)
   (qe (qj (zG (qk qL T.b_isinstance JA (qc (qv 0) (qc (qH (v:= .ty "int") Z T.b_int Lk Z) qa))) (zG (bz (qk qL T.b_isinstance JA (qc (qv 0) (qc (qH (v:= .ty "bool") Z T.b_bool Ll Z) qa)))) (QH (ze zt (qv 0) (qv 1) (qq _)))))))))
    refine#[0,Ho,λp g=>#[_,p,["list","tuple"],"tuple",Z,qb,.tup (Rd.same (HJ.upd g) h2),by simp,0,?_]]
    rw[show(["list","tuple"].any (zz "tuple"))=true from by decide]
    have B:HJ H _:=HJ.upd (o:= .tup (["list","tuple"].map V.ty)) g
    have r:=Rd.same B h1;have l:=Rd.same B h2;refine zo #[17,"list","tuple",Z,.tup r,by simp,17,"list","tuple",Z,.tup l,by simp,8,?_]
    refine aE Z #[17,"tuple","tuple",Z,.tup r,by simp,17,"tuple","tuple",Z,.tup l,by simp,8,?_]
    refine aE Z ?_
    exists 0,c,0,.inr (.inl r),0,d,0,.inr (.inl l),8
    refine aE (by rw[hl]) ?_
    refine#[2,c,d,xs,ys,Z,r,l,Al hl hz (λi zs m=>zs=(Dj i true).map V.bl/\HJ H m) #[Z,B] (λi zs m ⟨_,j⟩=>#[Rd.same j h1,Rd.same j h2]) ?_ ?_]
    .rintro i zs m N x y I G u ⟨rfl,j⟩ t
     have D:=j.trans (HJ.upd (o:= .tup [x,y]) t)
     refine#[2,x,y,Z,(hi i x y I G).same D,λM J=>#[?_,D.trans J]]
     rw[Pk,JI];rfl
    .rintro zs m u ⟨rfl,j⟩ p2 C
     exists p2,0,HQ.of qb
     rw[show(Dj xs.length true).all id=true from by simp]
     exact q _ (j.trans (HJ.upd C))
   | @lst _ c d xs ys h1 h2 hl hz hi=>
    exists _,(qd (qB (zk (qk ZB T.b_isinstance JA (qc (qv 1) (qc (qu (qc (qH (v:= .ty "list") Z T.b_list Ig Z) (qc (qH (v:= .ty "tuple") Z T.b_tuple JL Z) qa))) qa)))) (qd (qB (QW.pt (Qd (qw ac (qk qL T.b_isinstance JA (qc (qv 0) (qc (qH (v:= .ty "list") Z T.b_list Ig Z) qa))) (qk qL T.b_isinstance JA (qc (qv 1) (qc (qH (v:= .ty "list") Z T.b_list Ig Z) qa))) (qq _)) (zP (qw ac (qk qL T.b_isinstance JA (qc (qv 0) (qc (qH (v:= .ty "tuple") Z T.b_tuple JL Z) qa))) (qk qL T.b_isinstance JA (qc (qv 1) (qc (qH (v:= .ty "tuple") Z T.b_tuple JL Z) qa))) (qq _))))) (qe (qj Zg)) qt)
   (qd (qB (qw ac (qk qT T.b_len J5 (qc (qv 0) qa)) (qk qT T.b_len J5 (qc (qv 1) qa)) (qq _)) (qe (qj Zg)) qt)
   (qe (qj (qk (bJ Z) T.b_all Mo (qc (zZ (own:=["_law_part","_law_more"]) (fr:=[]) (js:=[]) Z (CS Z T.b_zip (qc (qv 0) (qc (qv 1) qa))) Z (λ_ _ h=>nomatch h) Z (cf Z nofun nofun nofun) (λ_ _ _ _=>jI (K:=K) Z 2 Z (qh (qg (i:=0) (show P4 (["_law_part","_law_more"]:Α)from by decide +kernel) Z (Pr Z) (.inr Z)) (qh (qg (i:=1) (show P4 (["_law_part","_law_more"]:Α)from by decide +kernel) Z (Pr Z) (.inr Z)) qK))) (λ_ _ _ _=>(qo L F.mo (qc (qv 0) (qc (qv 1) qa))))) qa)))))) qt)
   (qd (qB (QW.pt (Qd (zk (qk qL T.b_isinstance JA (qc (qv 1) (qc (qH (v:= .ty "str") Z T.b_str Lz Z) qa)))) (zP (qw zW (qv 1) qP (qq _))))) (qe (qj (ze zt (qv 0) (qv 1) (qq _)))) qt)
   (qe (qj (zG (qk qL T.b_isinstance JA (qc (qv 0) (qc (qH (v:= .ty "int") Z T.b_int Lk Z) qa))) (zG (bz (qk qL T.b_isinstance JA (qc (qv 0) (qc (qH (v:= .ty "bool") Z T.b_bool Ll Z) qa)))) (QH (ze zt (qv 0) (qv 1) (qq _)))))))))
    refine#[0,Ho,λp g=>#[_,p,["list","tuple"],"list",Z,qb,.lst (HJ.upd g _ _ h2),by simp,0,?_]]
    rw[show(["list","tuple"].any (zz "list"))=true from by decide]
    have B:HJ H _:=HJ.upd (o:= .tup (["list","tuple"].map V.ty)) g
    have r:=B _ _ h1;have l:=B _ _ h2;refine zo #[17,"list","list",Z,.lst r,by simp,17,"list","list",Z,.lst l,by simp,8,?_]
    refine aE Z #[17,"tuple","list",Z,.lst r,by simp,17,"tuple","list",Z,.lst l,by simp,8,?_]
    refine aE Z ?_
    exists 0,c,0,.inl (HQ.of r),0,d,0,.inl (HQ.of l),8
    refine aE (by rw[hl]) ?_
    refine#[2,c,d,xs,ys,Z,.inl r,.inl l,yx hl hz (λi zs m=>zs=(Dj i true).map V.bl/\HJ H m) #[Z,B] (λi zs m ⟨_,j⟩=>#[.inl (j _ _ h1),.inl (j _ _ h2)]) ?_ ?_]
    .rintro i zs m N x y I G u ⟨rfl,j⟩ t
     have D:=j.trans (HJ.upd (o:= .tup [x,y]) t)
     refine#[2,x,y,Z,(hi i x y I G).same D,λM J=>#[?_,D.trans J]]
     rw[Pk,JI];rfl
    .rintro zs m u ⟨rfl,j⟩ p2 C
     exists p2,0,HQ.of qb
     rw[show(Dj xs.length true).all id=true from by simp]
     exact q _ (j.trans (HJ.upd C))
def wf:Sp:=λvs H Q _=>∃x:Bool,vs=[.bl x,.bl x]/\Q (.bl true) H
theorem wK(a:At K mg "_law_is" iw ["_law_found","_law_due"])(T:MW K mg tk):Df P w K mg base "_law_is" W3 1 wf:=by
 refine a.dq xv λf _ A _ s H vs Q E c h=>?_
 .let#[x,rfl,q]:=h
  exists _,(qe (qj (zG (qk im T.b_isinstance JA (qc (qv 0) (qc (qH (v:= .ty "bool") Z T.b_bool Ll Z) qa))) (QH (ze zt (qv 0) (qv 1) (qq _))))))
  exists 0,.bl x,"bool","bool",Z,.bl x,by simp [iK],by simp [iG]
  rw[show zz "bool" "bool"=true from by decide]
  refine#[0,zo #[23,?_]]
  rw[Jj Z];exact q
theorem pZ(a:At K mg "openings" eW ["door","row"])(T:MW K mg tk)(U:ND K C)(dB:Mf P w K mg base C "button_of" X6 1 (gw K C))(dD:Mf P w K mg base C "plain_step" X0 3 (iy K C))(dM:Df P w K mg base "names_known" ["door"] 2 (ir K C)):Df P w K mg base "openings" ["door","row"] 4 (tj K C):=by
 refine a.dq MM λf _ A _ s H vs Q E hr h=>?_
 .let#[p,ta,hk,bd,lg,n,D,v,zs,rfl,b,ok,nf,tl,zl,q]:=h
  exists _,(qd (BB (i:=2) MM.nd Z (Pr Z) (own:=["name"]) (fr:=["door"]) (js:=[0]) Z (zv (qo dM hr.mo (qc (qv 0) qa))) Z (fD Z) Z (fO Z nofun nofun nofun Z Z Z) (λ_ _ _ _=>qg (i:=0) (show P4 (["name","door"]:Α)from by decide +kernel) Z (Pr Z) (.inr Z)) (λ_ _ _ _=>(qv 0)) (λ_ _ _ _=>(zb dB U.cl hr.mo (qv 1) (qc (qv 0) qa))))
   (qd (qA (i:=3) MM.nd Z (Pr Z) (q9 qa))
   (qd (zf JJ Z (yb (qv 1)) (zg Z (qh (qg (i:=4) MM.nd Z (Pr Z)) (qh (qg (i:=5) MM.nd Z (Pr Z)) (qh (qg (i:=6) MM.nd Z (Pr Z)) qK))))
   (qd (qA (i:=7) MM.nd Z (Pr Z) qy)
   (qd (qB (oU hr (qv 4) (qv 2)) (qd (za (zb dD U.cl hr.mo (qv 0) (qc (zB hr (qv 2) (qv 4)) (qc (qv 5) (qc (qv 6) qa)))) (zg Z (qh (qg (i:=7) MM.nd Z (Pr Z)) (qh (qg (i:=8) MM.nd Z (Pr Z)) qK))))
   (qe (QM hr (qv 2) (qv 4) (qv 8)))) qt)
   (qe (zc (Q0 Il IJ IK zV (qv 3) (qc (ze zt (qv 7) qy (qq _)) qa)))))))
   (qe (qj (qv 3))))))
  let#[t,as,rfl,ht,la,has]:=tl;refine#[0,p,ta,hk,bd,lg,n,D,Z,b,ok,λl m H1 s1 pm I=>#[l,Z,#[_,HQ.of I],?_]]
  have sl:m.length<=60:=by rw[pm.length_eq,Je];exact ok.nl
  have Y:m.Nodup:=pm.nodup_iff.mpr ok.nd
  have b1:=b.same s1;refine uS (K:=K) (a:=l) (xs:=m.map V.str) (by rw[Je,JD];omega) (λi ys r=>r=H1/\∃g:Str->Δ,ys=(m.take i).map (λnm=>(Pt nm,V.ref (g nm)))/\∀nm∈m.take i,∀e,D.kn.lookup nm=↑e->Na H1 (g nm) e) #[Z,λ_=>0,Z,λnm h=>by simp at h] (λi ys r h=>by rw[h.1];exact HQ.of I) ?_ ?_
  .rintro i ys r x hx c1 ⟨rfl,g,rfl,hg⟩
   rw[Jo]at hx;let#[nm,B,rfl]:=JO.mp hx;have hi:i<m.length:=(Jw.mp B).1
   have u:m.take (i+1)=m.take i++[nm]:=by rw[Ie,B];rfl
   have a4:nm∉m.take i:=λz=>by
    rw[<- KJ (i+1) m,u]at Y
    exact(Lj.mp (Lj.mp Y).1).2.2 nm z nm Jr Z
   exists 0,.inr nm,Z
   refine#[0,p,Z,b1.no,0,p,ta,hk,bd,lg,n,D,nm,Z,b1,λe=>?_,λe x e2 hx=>?_]
   .have:=HZ.mpr (pm.mem_iff.mp (Ij B))
    rw[e]at this;cases this
   .have pk:MX ((m.take i).map (λnm=>((Pt nm:qJ),V.ref (g nm)))) (Pt nm) (-x)=(m.take (i+1)).map (λz=>((Pt z:qJ),V.ref (if z=nm then x else g z))):=by
     unfold MX;rw[Jb (by
      rw[Mm]
      rintro⟨kv,b5,z⟩
      let#[y,hy,rfl]:=JC.mp b5;have z:=Jz z;injection z with z
      exact a4 (z▸hy)),u,JI]
     congr 1
     .refine Lr λy hy=>?_
      rw[Jb (λz:y=nm=>a4 (z▸hy))]
     .show _=[((Pt nm:qJ),V.ref (if nm=nm then x else g nm))];rw[Jc Z]
    exists #[Z,λz=>if z=nm then x else g z,pk,λz J e3 h3=>?_]
    .rw[u]at J
     by_cases G:z=nm
     .show Na _ (if z=nm then x else g z) e3
      rw[Jc G];rw[G,e2]at h3;cases h3;exact hx
     .show Na _ (if z=nm then x else g z) e3
      rw[Jb G];rcases JP.mp J with J|J
      .exact hg z J e3 h3
      .exact absurd (Ji.mp J) G
    .rw[pk,Je,G5];omega
  rintro ys r ⟨rfl,g,rfl,hg⟩ d hd
  have u1:=HJ.upd (o:= .dK ((m.take (m.map V.str).length).map λnm=>((Pt nm:qJ),V.ref (g nm)))) hd
  have b2:NC (HM r d (.dK ((m.take (m.map V.str).length).map λnm=>((Pt nm:qJ),V.ref (g nm))))) d D.kn:=by
   have e:m.take (m.map V.str).length=m:=by rw[Je,Ip]
   refine DK (g:=g) ok.nd pm (by rw[qb,e]) λnm B e2 h2=>?_
   let#[v2,h3,h4]:=hg nm (by rw[e];exact B) e2 h2
   exact#[v2,u1 _ _ h3,h4.same u1]
  have b4:=QV hd s1;have S1:=s1.trans u1;generalize HM r d (.dK ((m.take (m.map V.str).length).map λnm=>((Pt nm:qJ),V.ref (g nm))))=H2 at *
  clear u1 hg I b1 hd pm Y sl;refine#[Hh,λto a2=>?_]
  have u2:=HJ.upd (o:= .lst []) a2
  have b0:=QV a2 S1;refine QL (λL H'=>HJ H H'/\H' to=↑(.lst ((Qn D zs).map V.bl))/\∃o2 o4 o5 o6 o7 M,L=[↑(-p),↑(-t),o2,↑(-to),o4,o5,o6,o7,M]) (λD0 c3 b6=>?_) ?_
  .exists 0
   refine Dk (K:=K) ht (λj σ r=>HJ H r/\NC r d (eY D (zs.take j)).kn/\r to=↑(.lst ((Qn D (zs.take j)).map V.bl))/\∃o4 o5 o6 o7 M,σ=[↑(-p),↑(-t),↑(-d),↑(-to),o4,o5,o6,o7,M]) #[S1.trans u2,b2.same u2,qb,20] (λj σ r h=>h.1) ?_ ?_ Z
   .rintro j z σ r J ⟨S,kx,O,o4,o5,o6,o7,M,rfl⟩
    rw[Jo]at J;let#[aj,a3,rfl]:=JO.mp J;have hj:j<zs.length:=by rw[<- la];exact(Jw.mp a3).1
    let#[#[nm,age,c],ez]:∃z,zs[j]? =↑z:=#[_,Jh hj]
    have a6:=(has j aj _ a3 ez).same S;have u:zs.take (j+1)=zs.take j++[(nm,age,c)]:=by rw[Ie,ez];rfl
    have a1:=DZ ok (zs.take j);have X:=Fu (D:=D) (zs.take j)
    let#[R,W]:∃F,F=eY D (zs.take j):=#[0]
    rw[<- W]at a1 X kx;have a7:(eY D (zs.take (j+1))).kn=HP R nm age c:=by rw[u,DH,<- W]
    have b3:Qn D (zs.take (j+1))=Qn D (zs.take j)++[Qi R nm age c]:=by rw[u,Ax,<- W]
    have b7:R.near<=R.far:=by rw[X];exact nf
    exists aj,0,a6.k,7
    refine QL (λL H'=>∃(wd:Str) (M:Μ),HJ H H'/\NC H' d (HP R nm age c)/\H' to=↑(.lst ((Qn D (zs.take j)).map V.bl))/\decide (V.str wd=V.str "near")=Qi R nm age c/\L=[↑(-p),↑(-t),↑(-d),↑(-to),↑(.str nm),↑(.int age),↑(.int c),↑(.str wd),M]) (λD' c0 N=>?_) ?_
    .rcases kx.get nm with⟨I,g1⟩|⟨e,x,I,g1,hx⟩
     .refine#[2,d,0,g1,0,zh (N _ _ #["unknown",_,S,?_,O,?_,Z])]
      .rcases dy (D:=R) (nm:=nm) (age:=age) (c:=c)with h|⟨e,h,_⟩
       .rw[h];exact kx
       .rw[I]at h;cases h
      .rw[ES I]
       exact Jn (by intro z;injection z with z;exact absurd z ⋯)
     .refine#[2,d,0,g1,0,zo ?_]
      have bx:=b.same S;refine#[0,p,Z,bx.no,2,d,0,g1,2,p,ta,hk,bd,lg,x,n,D,e,age,c,Z,bx,hx,λq' a' H3 s3 b8 a5=>#[q',0,.tup b8,5,?_]]
      have st:qR D e age c=qR R e age c:=by rw[X];rfl
      rw[st]at a5;let#[H4,dp,m4,k4]:=(kx.same s3).put nm (by have:=a1.nl;omega) a5
      refine#[4,d,H4,Z,dp,N _ _ #[15,λc o e=>m4 c o (qQ (qm e b4)) (s3 _ _ (S _ _ e)),?_,m4 _ _ (qQ ?_) (s3 _ _ O),?_,Z]]
      .rw[vZ a1.nd I];exact k4
      .let#[f0,e0,_]:=id kx
       exact zO O e0 (by intro z;cases z)
      .rw[<- Ay b7 I,st]
       exact decide_eq_decide.mpr #[λz=>by injection z,λz=>by rw[z]]
    rintro L H5 ⟨wd,c2,s5,k5,t5,ew,rfl⟩
    exists 0,.inl #[43,HQ.of t5],41,to,6,t5,by rw[Je,bB,G5,JD];omega
    have mt:Mv [to] H5 (HM H5 to (.lst ((Qn D (zs.take j)).map V.bl++[.bl (decide (V.str wd=V.str "near"))]))):=Mv.upd1
    have a8:NT [to] H5:=NT.one t5 trivial
    refine#[λc o e=>mt c o (qQ (qm e b0)) (s5 _ _ e),?_,?_,20]
    .rw[a7]
     refine k5.mv mt a8 (qQ ?_)
     let#[f0,e0,_]:=id k5
     exact(zO t5 e0 (by intro z;cases z)).symm
    .rw[b3,qb,ew,JI];rfl
   .rintro σ r ⟨S,kx,O,o4,o5,o6,o7,M,rfl⟩
    refine b6 _ _ #[S,?_,37]
    rw[Je,la,Ip]at O;exact O
  rintro σ r ⟨S,O,o2,o4,o5,o6,o7,M,rfl⟩
  exact#[0,q to r S O]
theorem ie(a:At K mg "shows_telling" ZT ["one","other","row"])(T:MW K mg tk)(X:Df P w K mg base "openings" ["door","row"] 4 (tj K C)):Df P w K mg base "shows_telling" ["one","other","row"] 5 (rK K C):=by
 refine a.dq Nk λf _ A _ s H vs Q E g h=>?_
 .let#[p,ta,hk,bd,lg,n,D,p',j,u,M,F,n',D',v,zs,rfl,b,b',ok,G,nf,t,tl,N,z0,q]:=h
  exists _,(qd (qA (i:=3) Nk.nd Z (Pr Z) (qo X g.mo (qc (qv 0) (qc (qv 2) qa))))
   (qd (qA (i:=4) Nk.nd Z (Pr Z) (qo X g.mo (qc (qv 1) (qc (qv 2) qa))))
   (qe (qj (zG (ze (C0 g) (QQ gI (qv 3) Ze (Zh (mw iQ qf))) (QQ gI (qv 4) Ze (Zh (mw iQ qf))) (qq _)) (QH (ze ac (qx qF (qv 3) (mw iQ qf)) (qx qF (qv 4) (mw iQ qf)) (qq _))))))))
  refine#[2,p,ta,hk,bd,lg,n,D,v,zs,Z,b,ok,nf,tl,N,λW H1 J e1=>?_]
  refine#[2,p',j,u,M,F,n',D',v,zs,Z,b'.same J,G,t,tl.same J,N,λR H2 O U=>?_]
  have c:=O _ _ e1;have Y:0<zs.length:=List.length_pos_iff.mpr z0
  let#[x,L,m]:=tK (bs:=Qn D zs) (by rw[bB];exact Y)
  let#[y,r,l]:=tK (bs:=Qn D' zs) (by rw[bB];exact Y)
  refine#[4,W,0,HQ.of c,λm1 I=>?_]
  have d:=HJ.upd (o:= .lst (Q4 ((Qn D zs).map V.bl) none ↑(-1))) I
  refine#[4,R,0,HQ.of (d _ _ U),λm2 B=>?_]
  have e:=HJ.upd (o:= .lst (Q4 ((Qn D' zs).map V.bl) none ↑(-1))) B
  have S:=((J.trans O).trans d).trans e;refine#[m1,m2,(Qn D zs).dropLast,(Qn D' zs).dropLast,9,by rw[<- ny];exact e _ _ qb,by rw[<- ny];exact qb,by rw[Pm,Pm,bB,bB],0,qZ (λh=>?_) (λh=>?_)]
  .have h:=Jz h
   exists 2,W,1,HQ.of (e _ _ (d _ _ c)),m,2,R,1,HQ.of (e _ _ (d _ _ U)),l,Z
   have:=q _ S
   unfold ZU at this;rw[Jj h,L,r,Iz]at this;rw[show decide (V.bl x=V.bl y)=decide (↑x=↑y)from decide_eq_decide.mpr #[λz=>by injection z with z;rw[z],λz=>by injection z with z;rw[z]]]
   exact this
  .have:=q _ S
   unfold ZU at this;rw[Jn (λz=>h (Jj z)),Ii]at this
   exact this
theorem lS(a:At K mg "_law_window" br ["_law_base"])(T:MW K mg tk):Df P w K mg base "_law_window" V5 1 (bL 30):=by
 refine a.dq mf λf _ A _ s H vs Q E i h=>?_
 .let#[c,rfl,g,j,q]:=h
  exists _,(qe (qj (qI (gX Z) T.b_list Ig (qc (qI kF T.b_range SD (qc (qv 0) (qc (qr qM (qk (Zb Z) T.b_min RL (qc qf (qc (qr qM (qv 0) qf) qa))) qf) qa))) qa))))
  refine#[38,λr d=>#[r,c,((if c+30<4095 then c+30 else 4095)-c+1).toNat,Z,?_,by omega,by omega,?_,λl e=>?_]]
  .rw[qb]
   congr 2
   rw[OX (by split<;>omega)];omega
  .split<;>omega
  .exact q l _ ((HJ.upd d).trans (HJ.upd e)) qb
theorem vd(a:At K mg "_law_one" fL ["_law_owns","_law_drawn_here"])(T:MW K mg tk)(dG:Df P w K mg base "_law_word" w6 1 cK)(dH:Df P w K mg base "_law_window" V5 1 (bL 30)):Df P w K mg base "_law_one" X3 2 (mU 30):=by
 refine a.dq Nm λf _ A _ s H vs Q E hr h=>?_
 .let#[ol,m1,b6,m2,b4,R,nl,D,D',nms,g,e,rfl,a3,md,c0,L,b8,a1,m8,b0,b1,q]:=h
  exists _,(qd (zf JJ Z (zv (qk fY T.b_sorted Rp (qc (qx qN (qv 1) qf) qa))) (qg (i:=2) Nm.nd Z (Pr Z))
   (qe (zf JJ Z (zM Z T.b_range (qc (qx qN (qv 1) qf) qa)) (qg (i:=3) Nm.nd Z (Pr Z))
   (qe (zf JJ Z (zv (qo dH hr.mo (qc (qx qN (qv 1) qf) qa))) (qg (i:=4) Nm.nd Z (Pr Z))
   (qd (qA (i:=5) Nm.nd Z (SV Z) (qu (qc (qv 2) (qc (qv 3) (qc (qv 4) qa)))))
   (qd (cL (i:=6) Nm.nd Z (Pr Z) (own:=["_law_own"]) (fr:=["_law_plain"]) (js:=[5]) Z (zv (qv 0)) Z (fD Z) Z (fO Z nofun nofun nofun Z Z Z) (λ_ _ _ _=>qg (i:=0) (show P4 (["_law_own","_law_plain"]:Α)from by decide +kernel) Z (Pr Z) (.inr Z)) (λ_ _ _ _=>(qo dG hr.mo (qc (qv 0) (qc (qv 1) qa)))))
   (qe (qB (qw zt (Q0 Il PySem.F.slot_list_count PySem.F.type_list_count vz (qv 6) (qc qy qa)) qf (qq _)) (qe (qj (qu (qc (qv 5) qa)))) qt)))))))))
   (qe (qj qP)))
  refine#[0,R,1,HX.of L,Z,nl,nms,Z,b8,a1,λl5 I b2 pm so=>#[l5,Z,#[_,HQ.of qb],?_]]
  have u5:=HJ.upd (o:= .lst (I.map V.str)) b2
  have q:∀u H',HJ H H'->N4 H' u (I.findSome? (Qc D D' g e (zd 30 e)))->Q u H':=λu H' s t=>q u I H' s pm so t
  have lm:I.length<64:=by rw[pm.length_eq];exact a1
  have wn:zd 30 e<=41:=by unfold zd;split<;>omega
  refine zQ (K:=K) (a:=l5) (xs:=I.map V.str) (λi σ l=>HJ H l/\l l5=↑(.lst (I.map V.str))/\(∀j z,j<i->I[j]? =↑z->Qc D D' g e (zd 30 e) z=none)/\∃o2 M p B v,σ=[↑(-ol),↑(-R),o2,M,p,B,v]) #[u5,qb,λj z hj _=>absurd hj (I1 _),20] (λi σ l _ h=>HQ.of h.2.1) ?_ ?_
  .rintro i z σ H6 hz ⟨s6,e6,no,o2,M,p,B,v,rfl⟩
   rw[Jo]at hz;let#[nm,U,rfl]:=JO.mp hz;exists 0,R,1,HX.of (s6 _ _ L),8,by omega,by omega
   rw[Iw];refine Qv (n:=g) (Pv:=λk σ l=>HJ H l/\l l5=↑(.lst (I.map V.str))/\(∀x:Int,0<=x->x<0+(k:Int)->mZ D D' e (zd 30 e) nm x=none)/\∃M p B v,σ=[↑(-ol),↑(-R),↑(.str nm),M,p,B,v]) #[s6,e6,λx h1 h2=>by omega,22] ?_ ?_
   .rintro k σ H7 hk ⟨W,e7,m,M,p,B,v,rfl⟩
    let#[d,eA]:∃d:Int,d=0+(k:Int):=#[0]
    rw[<- eA]at m⊢;refine#[0,R,1,HX.of (W _ _ L),Z,e,Z,b0,b1,λwl H8 s8 e8=>#[wl,Z,#[_,HQ.of e8],?_]]
    have e8:H8 wl=↑(.lst (Qq e (zd 30 e))):=e8
    refine zQ (K:=K) (a:=wl) (xs:=Qq e (zd 30 e)) (λc σ l=>HJ H8 l/\(∀x:Int,e<=x->x<e+(c:Int)->Qi D nm d x=Qi D' nm d x)/\∃p B v,σ=[↑(-ol),↑(-R),↑(.str nm),↑(.int d),p,B,v]) #[HJ.refl _,λx h1 h2=>by omega,18] (λc σ l _ h=>HQ.of (h.1 _ _ e8)) ?_ ?_
    .rintro c z σ H9 hc ⟨s9,C,p,B,v,rfl⟩
     let#[rfl,b5]:=jT hc;let#[X,eX]:∃X:Int,X=e+(c:Int):=#[0]
     rw[<- eX]at C⊢;have S9:=(W.trans s8).trans s9;refine#[4,Ht,λO b7=>?_]
     have up:=HJ.upd (o:= .tup [.str nm,.int d,.int X]) b7
     have J:(HM H9 O (.tup [.str nm,.int d,.int X])) O=↑(.tup [.str nm,.int d,.int X]):=qb
     have Sa:=S9.trans up;exists 0,ol,Z,#[_,HQ.of (Sa _ _ a3)]
     generalize HM H9 O (.tup [.str nm,.int d,.int X])=Ha at *
     refine ZC (K:=K) (a:=ol) (xs:=[-m1,-m2]) (Ho) (λi ys l=>HJ Ha l/\ys=([qE D nm d X,qE D' nm d X].take i).map V.str) #[HJ.refl _,Z] (λi ys l h=>HQ.of (h.1 _ _ (Sa _ _ a3))) ?_ ?_
     .rintro j ys Hb x F a5 ⟨G,rfl⟩
      have Sb:=Sa.trans G
      match j,F with
      |0,F=>
       cases F
       exact#[2,m1,b6,O,D,nm,d,X,Z,md.same Sb,G _ _ J,λHc sc=>#[G.trans sc,Z]]
      |1,F=>
       cases F
       exact#[2,m2,b4,O,D',nm,d,X,Z,c0.same Sb,G _ _ J,λHc sc=>#[G.trans sc,Z]]
     .rintro ys Hb a5 ⟨G,rfl⟩ b3 S
      have uw:=HJ.upd (o:= .lst (([qE D nm d X,qE D' nm d X].take 2).map V.str)) S
      exists 0,.inl #[43,HQ.of qb],b3,[qE D nm d X,qE D' nm d X],"open",9,qb,8
      have Y:([qE D nm d X,qE D' nm d X].count ("open":Str)=1)↔¬(Qi D nm d X=Qi D' nm d X):=by
       unfold Qi;rw[K6,K6,List.count_nil]
       by_cases z1:qE D nm d X="open"<;>by_cases z2:qE D' nm d X="open"<;>simp [z1,z2]
      refine qZ (λy=>?_) (λy=>?_)
      .have a6:¬(Qi D nm d X=Qi D' nm d X):=Y.mp (by have:=Jz y;injection this with this;omega)
       refine#[0,Hl,λr a4=>?_]
       have ur:=HJ.upd (o:= .tup [-O]) a4
       have e1:mZ D D' e (zd 30 e) nm d=some [(nm,d,X)]:=by
        unfold mZ;exact QN b5 (by rw[<- eX];exact Jb a6) λx N x1=>Jc (C x N (by omega))
       have e2:Qc D D' g e (zd 30 e) nm=some [(nm,d,X)]:=by
        unfold Qc;exact QN hk (by rw[<- eA];exact e1) λx N x1=>m x N (by omega)
       have:=q (-r) _ (((Sa.trans G).trans uw).trans ur)
       rw[cE (f:=Qc D D' g e (zd 30 e)) U e2 no]at this
       exact this (N4.one (z:=(nm,d,X)) qb (ur _ _ (uw _ _ (G _ _ J))))
      .have a8:Qi D nm d X=Qi D' nm d X:=SX.mp λz=>y (Jj (by rw[Y.mpr z];rfl))
       refine#[((s9.trans up).trans G).trans uw,λx N x1=>?_,18]
       by_cases F:x<X
       .exact C x N F
       .obtain rfl:x=X:=by omega
        exact a8
    .rintro σ H9 ⟨s9,C,p,B,v,rfl⟩
     refine#[(W.trans s8).trans s9,s9 _ _ (s8 _ _ e7),λx N x1=>?_,22]
     by_cases F:x<d
     .exact m x N F
     .obtain rfl:x=d:=by omega
      unfold mZ;exact zA λy y0 y1=>Jc (C y y0 (by rw[oo];exact y1))
   .rintro σ H7 ⟨W,e7,m,M,p,B,v,rfl⟩
    refine#[W,e7,λj z hj a2=>?_,20]
    by_cases a7:j<i
    .exact no j z a7 a2
    .obtain rfl:j=i:=by omega
     have ez:z=nm:=JE (a2.symm.trans U)
     rw[ez];unfold Qc;exact zA m
  .rintro σ H6 ⟨s6,e6,no,o2,M,p,B,v,rfl⟩
   have e1:I.findSome? (Qc D D' g e (zd 30 e))=none:=cG λx F=>by
    let#[j,hj,rfl]:=HB.mp F;exact no j _ (by rw[Je];exact hj) (Jh hj)
   have:=q .non _ s6
   rw[e1]at this;exact this Z
theorem vf(a:At K mg "_law_two" fU ["_law_owns","_law_drawn_here"])(T:MW K mg tk)(dG:Df P w K mg base "_law_word" w6 1 cK)(dL:Df P w K mg base "_law_hear" w6 2 jZ)(dH:Df P w K mg base "_law_window" V5 1 (bL 30))(xW:Df P w K mg base "_law_copied" ["_law_own"] 1 nM)(xF:Df P w K mg base "_law_one" X3 2 (mU 30)):Df P w K mg base "_law_two" X3 3 (yp 30):=by
 refine a.dq MV λf _ A _ s H vs Q E hr h=>?_
 .let#[ol,m1,d5,m2,d4,dr,nl,D,D',nms,e,g,rfl,a6,md,W,h3,g5,h7,h6,a2,h4,f9,m8,b0,b1,q]:=h
  exists _,(qd (zf JJ Z (zv (qk fY T.b_sorted Rp (qc (qx qN (qv 1) qf) qa))) (qg (i:=2) MV.nd Z (Pr Z))
   (qe (zf JJ Z (zM Z T.b_range (qc (qx qN (qv 1) qf) qa)) (qg (i:=3) MV.nd Z (Pr Z))
   (qe (zf JJ Z (zv (qo dH hr.mo (qc (qx qN (qv 1) qf) qa))) (qg (i:=4) MV.nd Z (Pr Z))
   (qd (qA (i:=5) MV.nd Z (SV Z) (qu (qc (qv 2) (qc (qv 3) (qc (qv 4) qa)))))
   (qe (qB (qw (CT hr) (zZ (own:=["_law_own"]) (fr:=["_law_plain"]) (js:=[5]) Z (zv (qv 0)) Z (fD Z) Z (fO Z nofun nofun nofun Z Z Z) (λ_ _ _ _=>qg (i:=0) (show P4 (["_law_own","_law_plain"]:Α)from by decide +kernel) Z (Pr Z) (.inr Z)) (λ_ _ _ _=>(qo dG hr.mo (qc (qv 0) (qc (qv 1) qa))))) (q9 (qc qy (qc qy qa))) (qq _)) (qd (cL (i:=6) MV.nd Z (Pr Z) (own:=["_law_own"]) (fr:=[]) (js:=[]) Z (zv (qv 0)) Z (λ_ _ h=>nomatch h) Z (cf Z nofun nofun nofun) (λ_ _ _ _=>qg (i:=0) (show P4 (["_law_own"]:Α)from by decide +kernel) Z (Pr Z) (.inr Z)) (λ_ _ _ _=>(qo xW hr.mo (qc (qv 0) qa))))
   (qd (zf JJ Z (zv (qv 6)) (qg (i:=7) MV.nd Z (Pr Z))
   (qe (zc (qo dL hr.mo (qc (qv 7) (qc (qv 5) qa))))))
   (qd (qA (i:=8) MV.nd Z (Pr Z) (qo xF hr.mo (qc (qv 6) (qc (qu (qc (q9 (qc (qv 2) qa)) (qc (qx qN (qv 1) qf) (qc (qx qN (qv 1) qf) qa)))) qa))))
   (qe (qB (qw Z7 (qv 8) qP (qq _)) (qe (qj (qr ZX (qu (qc (qv 5) qa)) (qv 8)))) qt))))) qt))))))))
   (qe (qj qP)))
  refine#[0,dr,1,HX.of a2,Z,nl,nms,Z,h4,f9,λl5 ms g1 pm so=>#[l5,Z,#[_,HQ.of qb],?_]]
  have u5:=HJ.upd (o:= .lst (ms.map V.str)) g1
  have q:∀u H',HJ H H'->N4 H' u (ms.findSome? (bo D D' e g (zd 30 g)))->Q u H':=λu H' s t=>q u ms H' s pm so t
  refine zQ (K:=K) (a:=l5) (xs:=ms.map V.str) (λi σ m=>HJ H m/\m l5=↑(.lst (ms.map V.str))/\(∀j z,j<i->ms[j]? =↑z->bo D D' e g (zd 30 g) z=none)/\∃o2 o3 S L J F G,σ=[↑(-ol),↑(-dr),o2,o3,S,L,J,F,G]) #[u5,qb,λj z hj _=>absurd hj (I1 _),32] (λi σ m _ h=>HQ.of h.2.1) ?_ ?_
  .rintro i z σ H6 O ⟨s6,e6,no,o2,o3,S,L,J,F,G,rfl⟩
   rw[Jo]at O;let#[nm,b6,rfl]:=JO.mp O;let#[fC,eC]:∃fC:Int->Int->Option zi,fC=λa c=>if qE D nm a c=""/\qE D' nm a c="" then none else(Qc {D with kn:=HP D nm a c} {D' with kn:=HP D' nm a c} e g (zd 30 g) nm).map λr=>(nm,a,c)::r:=#[0]
   have eT:bo D D' e g (zd 30 g) nm=Qh 0 e λa=>Qh g (zd 30 g) λc=>fC a c:=by rw[eC];rfl
   exists 0,dr,1,HX.of (s6 _ _ a2),8,by omega,by omega
   rw[Iw];refine Qv (n:=e) (Pv:=λk σ m=>HJ H m/\m l5=↑(.lst (ms.map V.str))/\(∀x:Int,0<=x->x<0+(k:Int)->(Qh g (zd 30 g) λc=>fC x c)=none)/\∃o3 S L J F G,σ=[↑(-ol),↑(-dr),↑(.str nm),o3,S,L,J,F,G]) #[s6,e6,λx h1 h2=>by omega,37] ?_ ?_
   .rintro k σ H7 hk ⟨s7,e7,a1,o3,S,L,J,F,G,rfl⟩
    let#[d,eA]:∃d:Int,d=0+(k:Int):=#[0]
    rw[<- eA]at a1⊢;refine#[0,dr,1,HX.of (s7 _ _ a2),Z,g,Z,b0,b1,λwl H8 s8 e8=>#[wl,Z,#[_,HQ.of e8],?_]]
    refine zQ (K:=K) (a:=wl) (xs:=Qq g (zd 30 g)) (λc σ m=>HJ H8 m/\(∀x:Int,g<=x->x<g+(c:Int)->fC d x=none)/\∃S L J F G,σ=[↑(-ol),↑(-dr),↑(.str nm),↑(.int d),S,L,J,F,G]) #[HJ.refl _,λx h1 h2=>by omega,20] (λc σ m _ h=>HQ.of (h.1 _ _ e8)) ?_ ?_
    .rintro c z σ H9 hc ⟨s9,a4,S,L,J,F,G,rfl⟩
     let#[rfl,g2]:=jT hc;let#[X,eX]:∃X:Int,X=g+(c:Int):=#[0]
     rw[<- eX]at a4⊢;have S9:=(s7.trans s8).trans s9;have d2:∀{Hn:Hp},HJ H9 Hn->fC d X=none->∀L J F G,(λc σ m=>HJ H8 m/\(∀x:Int,g<=x->x<g+(c:Int)->fC d x=none)/\∃S L J F G,σ=[↑(V.ref ol),↑(-dr),↑(.str nm),↑(.int d),S,L,J,F,G]:Nat->List Μ->Hp->Prop) (c+1) [↑(-ol),↑(-dr),↑(.str nm),↑(.int d),↑(.int X),L,J,F,G] Hn:=λsn h0 L J F G=>#[s9.trans sn,λx x0 x1=>by
      by_cases hx:x<X
      .exact a4 x x0 hx
      .obtain rfl:x=X:=by omega
       exact h0,20]
     refine#[4,Ht,λpp g6=>?_]
     have up:=HJ.upd (o:= .tup [.str nm,.int d,.int X]) g6
     have a8:(HM H9 pp (.tup [.str nm,.int d,.int X])) pp=↑(.tup [.str nm,.int d,.int X]):=qb
     have Sa:=S9.trans up;exists 0,ol,Z,#[_,HQ.of (Sa _ _ a6)]
     generalize HM H9 pp (.tup [.str nm,.int d,.int X])=Ha at *
     refine ZC (K:=K) (a:=ol) (xs:=[-m1,-m2]) (Ho) (λi ys m=>HJ Ha m/\ys=([qE D nm d X,qE D' nm d X].take i).map V.str) #[HJ.refl _,Z] (λi ys m h=>HQ.of (h.1 _ _ (Sa _ _ a6))) ?_ ?_
     .rintro j ys Hb x hx a5 ⟨sb,rfl⟩
      have Sb:=Sa.trans sb
      match j,hx with
      |0,hx=>
       cases hx
       exact#[2,m1,d5,pp,D,nm,d,X,Z,md.same Sb,sb _ _ a8,λHc sc=>#[sb.trans sc,Z]]
      |1,hx=>
       cases hx
       exact#[2,m2,d4,pp,D',nm,d,X,Z,W.same Sb,sb _ _ a8,λHc sc=>#[sb.trans sc,Z]]
     .rintro ys Hb a5 ⟨sb,rfl⟩ d1 a7
      have uw:=HJ.upd (o:= .lst (([qE D nm d X,qE D' nm d X].take 2).map V.str)) a7
      refine#[Ho,λel b8=>?_]
      have ue:=HJ.upd (o:= .lst [.str "",.str ""]) b8
      exists d1,el,[qE D nm d X,qE D' nm d X],["",""],9,ue _ _ qb,qb,8
      have d6:([qE D nm d X,qE D' nm d X]=([("":Str),("":Str)]))↔(qE D nm d X=""/\qE D' nm d X=""):=by simp
      have S10:=(sb.trans uw).trans ue;refine qZ (λy=>?_) (λy=>?_)
      case refine_2=>
       have f5:=d6.mp (SX.mp λz=>y (Jj z))
       refine d2 (up.trans S10) (by rw[eC];exact Jc f5) _ _ _ _
      have d8:¬(qE D nm d X=""/\qE D' nm d X=""):=λz=>Jz y (d6.mpr z)
      have c0:fC d X=(Qc {D with kn:=HP D nm d X} {D' with kn:=HP D' nm d X} e g (zd 30 g) nm).map λr=>(nm,d,X)::r:=by rw[eC];exact Jb d8
      have SB:=Sa.trans S10;have b4:=S10 _ _ a8;have g3:=up.trans S10;generalize HM (HM Hb d1 (.lst (([qE D nm d X,qE D' nm d X].take 2).map V.str))) el (.lst [.str "",.str ""])=R at *
      clear uw ue S10 sb b8 a7 a5;refine#[0,ol,Z,#[_,HQ.of (SB _ _ a6)],ZC (K:=K) (xs:=[-m1,-m2]) (Ho) (λi ys m=>HJ R m/\((i=0/\ys=[])\/(i=1/\∃x I,ys=[-x]/\R x=none/\R I=none/\MJ m x I D)\/(i=2/\∃x I y Y,ys=[-x,-y]/\R x=none/\R I=none/\MJ m x I D/\R y=none/\R Y=none/\MJ m y Y D'/\x≠y/\x≠Y/\I≠y/\I≠Y))) #[HJ.refl _,.inl #[9]] (λi ys m h=>HQ.of (h.1 _ _ (SB _ _ a6))) ?_ ?_]
      .rintro i ys m z O a5 ⟨sx,⟨rfl,rfl⟩|⟨rfl,x,I,rfl,fx,b5,mx⟩|⟨rfl,_⟩⟩
       .cases O
        refine#[0,m1,d5,D,Z,md.same (SB.trans sx),λm' b2 Hy sy f1 f2 W=>#[sx.trans sy,.inr (.inl #[Z,m',b2,Z,QV f1 sx,QV f2 sx,W])]]
       .cases O
        refine#[0,m2,d4,D',Z,W.same (SB.trans sx),λm' b2 Hy sy f1 f2 W=>#[sx.trans sy,.inr (.inr #[Z,x,I,m',b2,Z,fx,b5,mx.same sy,QV f1 sx,QV f2 sx,W,?_,?_,?_,?_])]]
        .exact qm mx.di f1
        .exact qm mx.di f2
        .let#[_,hd,_]:=mx.kn;exact qm hd f1
        .let#[_,hd,_]:=mx.kn;exact qm hd f2
       .cases O
      .rintro ys m a5 ⟨sx,⟨h0,_⟩|⟨h0,_⟩|⟨_,x,I,N,Y,rfl,fx,b5,mx,fy,h5,my,n1,n2,n3,n4⟩⟩ l hl
       .cases h0
       .cases h0
       have u:=HJ.upd (o:= .lst [-x,-N]) hl
       have el:HM m l (.lst [-x,-N]) l=↑(.lst [-x,-N]):=qb
       have f3:=mx.same u;have g4:=my.same u;have d9:l≠x:=(qm mx.di hl).symm
       have d7:l≠I:=by let#[_,hd,_]:=mx.kn;exact(qm hd hl).symm
       have f4:l≠N:=(qm my.di hl).symm
       have c1:l≠Y:=by let#[_,hd,_]:=my.kn;exact(qm hd hl).symm
       have su:=sx.trans u;have C:∀{z kz w:Δ},w≠z->w≠kz->w∉[z,kz]:=λh1 h2 h=>by
        rcases Jg.mp h with h|h
        .exact h1 h
        .exact h2 (Ji.mp h)
       have a3:∀{z kz:Δ} {Ha Hb:Hp},R z=none->R kz=none->HJ R Ha->Mv [z,kz] Ha Hb->HJ R Hb:=λf1 f2 sa mv w o ew=>mv _ _ (C (qm ew f1) (qm ew f2)) (sa _ _ ew)
       have c2:∀{z kz:Δ} {D:Dr} {Ha:Hp},MJ Ha z kz D->NT [z,kz] Ha:=λ{z kz D Ha} md w hw=>by
        rcases Jg.mp hw with h|h
        .rw[h];exact#[_,md.di,trivial]
        .rw[Ji.mp h];let#[_,hd,_]:=md.kn;exact#[_,hd,trivial]
       generalize HM m l (.lst [-x,-N])=H1 at *
       refine QL (λg7 H'=>HJ R H'/\H' l=↑(.lst [-x,-N])/\MJ H' x I {D with kn:=HP D nm d X}/\MJ H' N Y {D' with kn:=HP D' nm d X}/\∃F,g7=[↑(-ol),↑(-dr),↑(.str nm),↑(.int d),↑(.int X),↑(-pp),↑(-l),F,G]) (λD0 i1 g8=>?_) ?_
       .refine#[0,l,Z,#[_,HQ.of el],zQ (K:=K) (a:=l) (xs:=[-x,-N]) (λj σ Hz=>HJ R Hz/\Hz l=↑(.lst [-x,-N])/\MJ Hz x I (if 1<=j then{D with kn:=HP D nm d X}else D)/\MJ Hz N Y (if 2<=j then{D' with kn:=HP D' nm d X}else D')/\∃F,σ=[↑(-ol),↑(-dr),↑(.str nm),↑(.int d),↑(.int X),↑(-pp),↑(-l),F,G]) #[su,el,f3,g4,0] (λj σ Hz _ h=>HQ.of h.2.1) ?_ ?_]
        .rintro j z σ Hz O ⟨sz,U,B,p,F,rfl⟩
         match j,O with
         |0,O=>
          cases O;have B:MJ Hz x I D:=B
          have p:MJ Hz N Y D':=p
          refine#[2,x,I,pp,D,nm,d,X,Z,B,sz _ _ b4,h3,h7,λH4 M b3=>?_]
          exact#[a3 fx b5 sz M,M _ _ (C d9 d7) U,b3,p.mv M (c2 B) (C n1.symm n3.symm) (C n2.symm n4.symm),0]
         |1,O=>
          cases O;have B:MJ Hz x I {D with kn:=HP D nm d X}:=B
          have p:MJ Hz N Y D':=p
          refine#[2,N,Y,pp,D',nm,d,X,Z,p,sz _ _ b4,g5,h6,λH4 M b3=>?_]
          exact#[a3 fy h5 sz M,M _ _ (C f4 c1) U,B.mv M (c2 p) (C n1 n2) (C n3 n4),b3,0]
         |j+2,O=>cases O
        .rintro σ Hz ⟨sz,U,B,p,F,rfl⟩
         exact g8 _ _ #[sz,U,B,p,0]
       rintro σ Hz ⟨sz,U,B,p,h9,rfl⟩
       have Sz:=SB.trans sz;refine#[2,Hl,λc3 b7=>?_]
       have un:=HJ.upd (o:= .lst [.str nm]) b7
       refine#[0,dr,1,HX.of (un _ _ (Sz _ _ a2)),8,dr,1,HX.of (un _ _ (Sz _ _ a2)),Z,Ht,λg0 c4=>?_]
       have ud:=HJ.upd (o:= .tup [-c3,.int (e:Int),.int g]) c4
       have Su:=un.trans ud;refine#[l,x,I,N,Y,g0,c3,15,[nm],e,g,Z,Su _ _ U,B.same Su,p.same Su,qb,ud _ _ qb,by show 1<64;decide,m8,b0,b1,λv e4 Hv sv f0 h8 tv=>?_]
       obtain rfl:e4=[nm]:=List.perm_singleton.mp f0
       have e1:[nm].findSome? (Qc {D with kn:=HP D nm d X} {D' with kn:=HP D' nm d X} e g (zd 30 g))=Qc {D with kn:=HP D nm d X} {D' with kn:=HP D' nm d X} e g (zd 30 g) nm:=by
        rw[KC,List.findSome?_nil];cases Qc {D with kn:=HP D nm d X} {D' with kn:=HP D' nm d X} e g (zd 30 g) nm<;>rfl
       rw[e1]at tv;have Sall:=(sz.trans Su).trans sv;cases eo:Qc {D with kn:=HP D nm d X} {D' with kn:=HP D' nm d X} e g (zd 30 g) nm with
       |none=>
        rw[eo]at tv;have tv:v= .non:=tv
        subst tv;refine#[3,zh ?_]
        exact d2 (g3.trans Sall) (by rw[c0,eo];rfl) _ _ _ _
       |some r=>
        rw[eo]at tv;let#[tt,as,rfl,e9,la,has]:=tv;refine#[3,zo ?_]
        have rl:r.length<=1:=by
         have:∀{r:zi},Qc {D with kn:=HP D nm d X} {D' with kn:=HP D' nm d X} e g (zd 30 g) nm=↑r->r.length=1:=λ{r} h=>by
          unfold Qc Qh at h;let#[a,_,h]:=KG h
          unfold mZ Qh at h;let#[c,_,h]:=KG h
          split at h
          .cases h
          .cases h;rfl
         rw[this eo];exact Jf _
        refine#[0,Hl,λt0 d3=>#[0,t0,tt,6,qb,(HJ.upd d3) _ _ e9,by rw[Je,la,JD];show 1+_<=_;omega,λrr Hr sr e0=>?_]]
        have ut:=HJ.upd (o:= .tup [-pp]) d3
        have e2:Qh g (zd 30 g) (λc=>fC d c)=↑((nm,d,X)::r):=QN g2 (by rw[<- eX,c0,eo];rfl) λx x0 x1=>a4 x x0 (by omega)
        have e3:bo D D' e g (zd 30 g) nm=↑((nm,d,X)::r):=by
         rw[eT];exact QN hk (by rw[<- eA];exact e2) λx x0 x1=>a1 x x0 (by omega)
        have:=q (-rr) Hr (((SB.trans Sall).trans ut).trans sr)
        rw[cE (f:=bo D D' e g (zd 30 g)) b6 e3 no]at this
        refine this #[rr,pp::as,Z,e0,by rw[JR,JR,la],λj b z h1 h2=>?_]
        cases j with
        |zero=>cases h1;cases h2;exact sr _ _ (ut _ _ (Sall _ _ b4))
        |succ j=>exact sr _ _ (ut _ _ (has j b z h1 h2))
    .rintro σ H9 ⟨s9,a4,S,L,J,F,G,rfl⟩
     refine#[(s7.trans s8).trans s9,s9 _ _ (s8 _ _ e7),λx x0 x1=>?_,37]
     by_cases hx:x<d
     .exact a1 x x0 hx
     .obtain rfl:x=d:=by omega
      exact zA λy y0 y1=>a4 y y0 (by rw[oo];exact y1)
   .rintro σ H7 ⟨s7,e7,a1,o3,S,L,J,F,G,rfl⟩
    refine#[s7,e7,λj z hj d0=>?_,32]
    by_cases e5:j<i
    .exact no j z e5 d0
    .obtain rfl:j=i:=by omega
     have ez:z=nm:=JE (d0.symm.trans b6)
     rw[ez,eT];exact zA a1
  .rintro σ H6 ⟨s6,e6,no,o2,o3,S,L,J,F,G,rfl⟩
   have e1:ms.findSome? (bo D D' e g (zd 30 g))=none:=cG λx hx=>by
    let#[j,hj,rfl]:=HB.mp hx;exact no j _ (by rw[Je];exact hj) (Jh hj)
   have:=q .non _ s6
   rw[e1]at this;exact this Z
theorem uL(a:At K mg "_law_few" fR ["_law_box_here"])(T:MW K mg tk)(dA:Df P w K mg base "_law_take" q0 1 Zf):Df P w K mg base "_law_few" X4 2 tE:=by
 refine a.dq Oa λf _ A _ s H vs Q E S h=>?_
 .let#[b,c,rfl,hb,hc,q]:=h
  exists _,(qd (qA (i:=1) Oa.nd Z (Pr Z) (qx qF (q9 (qc (q9 (qc qy (qc qy qa))) (qc (q9 (qc qy qa)) (qc (q9 (qc qy (qc qy qa))) (qc (q9 (qc qy qa)) qa))))) (qo dA S.mo (qc (qv 0) (qc qf qa)))))
   (qe (qj (qu (qc (qv 1) (qc (qr qM qf (qo dA S.mo (qc (qv 0) (qc qf qa)))) (qc (qx qF (q9 (qc qf (qc qf (qc qf (qc qf qa))))) (qo dA S.mo (qc (qv 0) (qc qf qa)))) qa)))))))
  refine#[Ho,λl h1=>#[Hl,λd X=>#[Ho,λg U=>#[Hl,λj h4=>#[Hu,λB F=>?_]]]]]
  have D:=HJ.upd (o:= .lst [.str "a",.str "ab"]) h1
  have y:=HJ.upd (o:= .lst [.str "b"]) X
  have v:=HJ.upd (o:= .lst [.str "aaaaaaab",.str "aaaaaaaa"]) U
  have C:=HJ.upd (o:= .lst [.str "zz"]) h4
  have u:=HJ.upd (o:= .lst [-l,-d,-g,-j]) F
  have I:∀x∈[V.ref l,-d,-g,-j],∃n nms,x= .ref n/\Om nms 1 0/\H n=none/\(HM (HM (HM (HM (HM H l (.lst [.str "a",.str "ab"])) d (.lst [.str "b"])) g (.lst [.str "aaaaaaab",.str "aaaaaaaa"])) j (.lst [.str "zz"])) B (.lst [-l,-d,-g,-j])) n=↑(.lst (nms.map V.str)):=by
   intro x M;simp only[Jg,Jt,Ju]at M;rcases M with rfl|rfl|rfl|rfl
   .exact#[l,["a","ab"],Z,#[nofun,λz m=>(by simp only[Jg,Jt,Ju]at m;rcases m with rfl|rfl<;>exact#[nofun,nofun,nofun]),⋯,⋯,⋯,⋯,⋯,⋯],h1,(u _ _ (C _ _ (v _ _ (y _ _ qb))))]
   .exact#[d,["b"],Z,#[nofun,λz m=>(by simp only[Jg,Jt,Ju]at m;subst m;exact#[nofun,nofun,nofun]),⋯,⋯,⋯,⋯,⋯,⋯],(QV X D),(u _ _ (C _ _ (v _ _ qb)))]
   .exact#[g,["aaaaaaab","aaaaaaaa"],Z,#[nofun,λz m=>(by simp only[Jg,Jt,Ju]at m;rcases m with rfl|rfl<;>exact#[nofun,nofun,nofun]),⋯,⋯,⋯,⋯,⋯,⋯],(QV (QV U y) D),(u _ _ (C _ _ qb))]
   .exact#[j,["zz"],Z,#[nofun,λz m=>(by simp only[Jg,Jt,Ju]at m;subst m;exact#[nofun,nofun,nofun]),⋯,⋯,⋯,⋯,⋯,⋯],(QV (QV (QV h4 v) y) D),(u _ _ qb)]
  have S6:=(((D.trans y).trans v).trans C).trans u;have e6:(HM (HM (HM (HM (HM H l (.lst [.str "a",.str "ab"])) d (.lst [.str "b"])) g (.lst [.str "aaaaaaab",.str "aaaaaaaa"])) j (.lst [.str "zz"])) B (.lst [-l,-d,-g,-j])) B=↑(.lst [-l,-d,-g,-j]):=qb
  have n6:B≠b:=λz=>by let#[_,_,_,e,_]:=hb;rw[z]at F;rw[(((D.trans y).trans v).trans C) _ _ e]at F;cases F
  generalize (HM (HM (HM (HM (HM H l (.lst [.str "a",.str "ab"])) d (.lst [.str "b"])) g (.lst [.str "aaaaaaab",.str "aaaaaaaa"])) j (.lst [.str "zz"])) B (.lst [-l,-d,-g,-j]))=H6 at *
  clear D y v C u h1 X U h4 F;have g6:=S6.grc hb;refine#[0,b,(4),c,Z,g6.bx,by omega,⋯,⋯,λr1 H1 a2 R g1=>?_]
  let#[x,M,hm]:=ZY (xs:=[V.ref l,-d,-g,-j]) a2 R
  let#[n,nms,rfl,L,fn,en]:=I x hm;have r:n≠b:=λz=>by let#[_,_,_,e,_]:=hb;rw[z,e]at fn;cases fn
  exists B,1,HQ.of (g1.kp _ _ n6 e6),M
  have G1:=g6.trans g1;refine#[2,b,(2),c+1,Z,G1.bx,by omega,⋯,⋯,λW H2 a3 a4 g2=>#[6,Hu,λl7 h7=>?_]]
  have G2:=G1.trans g2;have u7:=HJ.upd (o:= .lst [.int 0,.int 0,.int 4076,.int 4083]) h7
  have n7:=zJ G2.bx h7;have G3:=G2.same u7;refine#[0,b,(4),c+1+1,Z,G3.bx,by omega,⋯,⋯,λr3 H3 a1 O g3=>?_]
  let#[x2,Y,G]:=ZY (xs:=[V.int 0,.int 0,.int 4076,.int 4083]) a1 O
  let#[p,rfl,b0,b1]:∃p:Int,x2= .int p/\0<=p/\p<=4083:=by
   simp only[Jg,Jt,Ju]at G;rcases G with rfl|rfl|rfl|rfl<;>exact#[0,⋯,⋯]
  have G4:=G3.trans g3;refine#[l7,1,HQ.of (g3.kp _ _ n7 qb),Y,Ht,λt ht=>?_]
  let#[J,N]:∃J:Nat,1+W=(J:Int):=#[(1+W).toNat,by omega]
  show Q (-t) (HM H3 t (.tup [-n,.int (1+W),.int p]))
  rw[N];have ut:=HJ.upd (o:= .tup [-n,.int (J:Int),.int p]) ht
  exact q t n nms J p _ ((G4.same ut).mono (by omega)) qb (ut _ _ (g3.kp _ _ r (u7 _ _ (g2.kp _ _ r (g1.kp _ _ r en))))) fn #[L.nd,L.nm,L.l1,L.l3,by omega,by omega,b0,b1]
theorem mV(a:At K mg "_law_begun" cj ["_law_box_here","_law_drawn_here"])(T:MW K mg tk)(U:ND K C)(yQ:Mi P w K mg base C "Door" X1 1 (pO K C))(dA:Df P w K mg base "_law_take" q0 1 Zf)(yA:Df P w K mg base "_law_table" X4 2 nu)(xE:Df P w K mg base "_law_key" X4 2 jv)(xZ:Df P w K mg base "_law_bounds" X4 2 lc)(yB:Df P w K mg base "_law_model" W7 1 sw)(xY:Df P w K mg base "_law_learnt" X2 8 (fX K C)):Df P w K mg base "_law_begun" W9 9 (k9 K C):=by
 refine a.dq MN λf _ A _ s H vs Q E hr h=>?_
 .let#[b,dr,nl,c,nms,a4,ba,rfl,hb,hc,a1,Y,a8,ok,q]:=h
  have m1:=ok.m1;have m3:=ok.m3;have b0:=ok.b0;have b1:=ok.b1;have l1:=ok.l1;have l3:=ok.l3;exists _,(qd (za (qv 1) (zg Z (qh (qg (i:=2) MN.nd Z (Pr Z)) (qh (qg (i:=3) MN.nd Z (SV Z)) (qh (qg (i:=4) MN.nd Z (Pr Z)) qK)))))
   (qd (qA (i:=5) MN.nd Z (SV Z) (qu (qc (qo yA hr.mo (qc (qv 0) qa)) (qc (qI zp T.b_tuple JL (qc (zZ (own:=["_law_k"]) (fr:=["_law_box_here"]) (js:=[0]) Z (zM Z T.b_range (qc (qv 3) qa)) Z (fD Z) Z (fO Z nofun nofun nofun Z Z Z) (λ_ _ _ _=>qg (i:=0) (show P4 (["_law_k","_law_box_here"]:Α)from by decide +kernel) Z (Pr Z) (.inr Z)) (λ_ _ _ _=>(QQ cO (qo xE hr.mo (qc (qv 1) qa)) Ze (Zh qf)))) qa)) qa))))
   (qd (cL (i:=6) MN.nd Z (Pr Z) (own:=["_law_near","_law_far"]) (fr:=["_law_many","_law_code"]) (js:=[3,5]) Z (zv (qo xZ hr.mo (qc (qv 0) qa))) Z (Fl Z Z) Z (E5 Z nofun nofun nofun Z Z Z Z Z Z) (λ_ _ _ _=>CM (K:=K) Z 2 Z (qh (qg (i:=0) (show P4 (["_law_near","_law_far","_law_many","_law_code"]:Α)from by decide +kernel) Z (Pr Z) (.inr Z)) (qh (qg (i:=1) (show P4 (["_law_near","_law_far","_law_many","_law_code"]:Α)from by decide +kernel) Z (Pr Z) (.inr Z)) qK))) (λ_ _ _ _=>(qu (qc (Dw yQ hr.mo (qc (qx (jY (K:=K) Z) (qv 3) qf) (qc (qx (jY (K:=K) Z) (qv 3) qf) (qc (qv 0) (qc (qv 1) (qc qf qa)))))) (qc (qo yB hr.mo (qc (qv 0) (qc (qv 1) (qc (qv 2) qa)))) qa)))))
   (qd (zf JJ Z (zv (qv 2)) (qg (i:=7) MN.nd Z (Pr Z))
   (qd (qA (i:=8) MN.nd Z (Pr Z) (qu (qc (qo dA hr.mo (qc (qv 0) (qc (qv 3) qa))) (qc (qk (Zb Z) T.b_min RL (qc qf (qc (qr qM (qr qM (qv 4) qf) (qo dA hr.mo (qc (qv 0) (qc qf qa)))) qa))) qa))))
   (qe (zc (qo xY hr.mo (qc (qv 5) (qc (qv 6) (qc (qv 7) (qc (q9 (qc (qv 8) (qc (qx qF (q9 (qc (qv 8) (qc (qv 8) (qc qP qa)))) (qo dA hr.mo (qc (qv 0) (qc qf qa)))) qa))) qa)))))))))
   (qe (qj (q9 (qc (qv 5) (qc (qv 6) (qc (qv 1) qa))))))))))
  exists 0,dr,0,.tup a1,7
  refine#[0,b,c,Z,hb,by omega,λtb t H1 g1 b7 h9 tp=>?_]
  exists 2,by omega,by omega
  rw[Iw];have m0:tb≠b:=λz=>by let#[_,_,_,e,_]:=hb;rw[z,e]at b7;cases b7
  refine aL (n:=a4) (JN m3 ⋯) (λi ys Hx=>NM b (c+16+9*i) H Hx/\Hx tb=↑(.tup (t.map V.int))/\∃(J:Η) (kss:List Β),ys=J.map V.ref/\J.length=i/\kss.length=i/\∀(j:Nat) (x:Δ) (z:Β),J[j]? =↑x->kss[j]? =↑z->Hx x=↑(.tup (z.map V.int))) #[g1,h9,[],[],40,λj x z e=>by cases e] ?_ ?_
  .rintro i ys Hx hi a5 ⟨G,et,J,kss,rfl,lA,lK,a3⟩
   refine#[0,b,c+16+9*i,Z,G.bx,by omega,λp ks H2 g2 fp ep dk l1 l8=>#[0,p,0,ep,λy H3 s3 M _=>?_]]
   rw[aY]at M;have kp:∀{x:Δ} {xs:Ε},Hx x=↑(.tup xs)->H3 x=↑(.tup xs):=λ{x xs} e=>s3 _ _ (g2.kp _ _ (λz=>by let#[_,_,_,eb,_]:=G.bx;rw[z,eb]at e;cases e) e)
   refine#[((G.trans g2).same s3).mono (by omega),kp et,J++[y],kss++[ZI ks none ↑2],by simp,by simp [lA],by simp [lK],λj x z W e2=>?_]
   by_cases hj:j<J.length
   .rw[J3 hj]at W
    rw[J3 (by omega)]at e2
    exact kp (a3 j x z W e2)
   .rw[J9 (by omega)]at W
    rw[J9 (by omega)]at e2
    cases ej:j-J.length with
    |zero=>rw[ej]at W;rw[show j-kss.length=0 by omega]at e2;cases W;cases e2;exact M
    |succ k=>rw[ej]at W;cases W
  rintro ys Hx a5 ⟨G,et,J,kss,rfl,lA,lK,a3⟩ l0 c3
  obtain rfl:kss.length=a4:=lK
  refine#[l0,0,.inl #[HQ.of qb,λkt d9=>#[Ho,λcd e8=>?_]]]
  have u1:=HJ.upd (o:= .lst (J.map V.ref)) c3
  have u2:=HJ.upd (o:= .tup (J.map V.ref)) d9
  have u3:=HJ.upd (o:= .tup [-tb,-kt]) e8
  have S3:=(u1.trans u2).trans u3;have hC:NA (HM (HM (HM Hx l0 (.lst (J.map V.ref))) kt (.tup (J.map V.ref))) cd (.tup [-tb,-kt])) cd tb kt t kss:=#[qb,.inl (S3 _ _ et),J,.inl (.inl (u3 _ _ qb)),lA,λj x z W e2=> .inl (.inl (S3 _ _ (a3 j x z W e2)))]
  have G3:=G.same S3;generalize HM (HM (HM Hx l0 (.lst (J.map V.ref))) kt (.tup (J.map V.ref))) cd (.tup [-tb,-kt])=H3 at *
  clear a3 et u1 u2 u3 c3 d9 e8;have j6:H b≠none:=λz=>by let#[_,_,_,e,_]:=hb;rw[z]at e;cases e
  refine#[0,b,0,G3.bx,by omega,λbl O x2 n1 f1 n2 f2 H4 g4 b5 e4 d3 l7 m5 g8=>?_]
  have G4:=G3.trans g4;have c2:=hC.mv (S:=[b]) (λc o h e=>g4.kp c o (λz=>h (Ji.mpr z)) e) (zL G3.bx)
  have L:Pq K C H H4 b _ []:=#[λc o h e=>G4.kp c o (λz=>h (Ji.mpr z)) e,G4.bx,j6,(λi x h=>by cases h),(λi j x y _ h=>by cases h),(λi x h=>by cases h)]
  let#[nn,d7]:∃nn:Nat->Int,nn=λi=>if i=0 then n1 else n2:=#[0]
  let#[ff,e6]:∃ff:Nat->Int,ff=λi=>if i=0 then f1 else f2:=#[0]
  have h4:∀i,AB (nn i) (ff i):=λi=>by rw[d7,e6];simp only;split<;>assumption
  exists bl,Z,#[_,HQ.of b5]
  refine uc (K:=K) (a:=bl) (xs:=[-O,-x2]) (Ho) (λi ys r=>∃xs,Pq K C H r b (c+16+9*3+7) xs/\xs.length=i/\ys=(xs.map λx=>V.ref x.1.e)/\(∀(j:Nat) (x:En),xs[j]? =↑x->x.2.1=#[t,kss,nn j,ff j,(12),(0),[]]/\x.2.2=[])/\NA r cd tb kt t kss/\r bl=↑(.lst [-O,-x2])/\r O=↑(.tup [.int n1,.int f1])/\r x2=↑(.tup [.int n2,.int f2])) #[[],#[L.s,L.bx.mono (by omega),L.b0,L.en,L.dj,L.fr],9,(λi x h=>by cases h),c2,b5,e4,d3] (λi ys r h=>by let#[_,_,_,_,_,_,h,_]:=h;exact HQ.of h) ?_ ?_
  .rintro i ys r z ez a5 ⟨xs,pq,lx,rfl,d,g,f5,c1,d5⟩
   let#[p,rfl,ep]:∃p,z= .ref p/\r p=↑(.tup [.int (nn i),.int (ff i)]):=by
    rw[d7,e6]
    match i,ez with
    |0,ez=>cases ez;exact#[0,c1]
    |1,ez=>cases ez;exact#[0,d5]
    |k+2,ez=>cases ez
   exists p,13,.inr (HX.of ep)
   refine#[0,cd,1,HX.of g.e,8,cd,1,HX.of g.e,Z,_,Z,_,Z,λx dx nx j2 j3=>?_]
   have sJ:HJ r (HM (HM r dx (.own x)) x (.ins C dx [])):=(HJ.upd j2).trans (HJ.upd (by rw[qp j3.symm];exact nx))
   let#[D,eD]:∃D:Dr,D=#[t,kss,nn i,ff i,(12),(0),[]]:=#[0]
   refine#[x,tb,kt,dx,nn i,ff i,(12),t,kss,Z,qb,.inr (.inl (Rd.same sJ g.tb)),g.ks.same sJ,by omega,λta hk R lg H2 h1 h2 h3 mv k1 kr=>#[Z,?_]]
   have sK:HJ r H2:=λc o e=>mv c o (qQ (qm e nx)) (sJ c o e)
   have dl:M8 K C H2 #[x,ta,hk,R,lg] D []:=by rw[eD];exact HL.dl k1 kr
   have fz:∀z∈dS #[x,ta,hk,R,lg],r z=none:=λz F=>by
    rcases D5 F with rfl|rfl|rfl|rfl
    .exact nx
    .exact QV h1 sJ
    .exact QV h2 sJ
    .exact QV h3 sJ
   refine#[4,D,by rw[eD];rfl,by rw[eD],by rw[eD],λm kd H6 s6 fm b8 md=>#[Ho,λe he=>?_]]
   have u7:=HJ.upd (o:= .tup [-x,-m]) he
   have S7:=(sK.trans s6).trans u7;let#[f0,d6,_]:=id dl.dr.kb;have l2:NR K C (HM H6 e (.tup [-x,-m])) #[e,#[x,ta,hk,R,lg],m,kd] D [] D:=#[qb,(dl.same s6).same u7,md.same u7,(qm d6 fm).symm,(qm d6 b8).symm]
   have fe:∀z∈eS #[e,#[x,ta,hk,R,lg],m,kd],r z=none:=λz F=>by
    rcases wO F with F|rfl|rfl
    .exact fz z F
    .exact QV fm sK
    .exact QV b8 sK
   refine#[xs++[(#[e,#[x,ta,hk,R,lg],m,kd],D,[])],pq.add S7 l2 fe,by simp [lx],by simp,λj y M=>?_,g.same S7,S7 _ _ f5,S7 _ _ c1,S7 _ _ d5]
   by_cases hj:j<xs.length
   .rw[J3 hj]at M;exact d j y M
   .rw[J9 (by omega)]at M
    cases ej:j-xs.length with
    |succ k=>rw[ej]at M;cases M
    |zero=>
     rw[ej]at M;cases M
     obtain rfl:j=i:=by omega
     exact#[eD,Z]
  rintro ys r a5 ⟨xs,pq,lx,rfl,d,g,_⟩ pl e9
  have a2:xs.length=2:=lx
  have hq:∀(i:Nat) (x:En),xs[i]? =↑x->Ny t kss ba (nms.take 0) x.2.1/\x.2.2.length<=2*0/\x.2.1.least=0:=λi x hx=>by
   let#[W,e2]:=d i x hx;let#[q1,q2,q3,q4]:=h4 i;rw[W,e2]
   exact#[#[#[#[tp,GZ _,by show kss.length<=8;omega,JB _,LK],9,q3],#[q1,by show nn i<=64;omega,q3,by show ff i<=1024;omega,GZ _,by show(0:Int)<kss.length;omega],q4,Z,(λe he=>nomatch he),(λz F=>nomatch F)],Jf _,Z]
  have pw:=pq.pw e9;have l6:H pl=none:=pw.fp
  have e5:=g.same (HJ.upd (o:= .lst (xs.map λx=>V.ref x.1.e)) e9)
  generalize HM r pl (.lst (xs.map λx=>V.ref x.1.e))=H5 at *
  clear d g pq L c2 b5 e4 d3 g8 hC G4;refine QL (λk5 H'=>∃xs oa ob,Pw K C H H' b (c+80) pl xs/\xs.length=2/\(∀(i:Nat) (x:En),xs[i]? =↑x->Ny t kss ba nms x.2.1/\x.2.2.length<=6)/\NA H' cd tb kt t kss/\k5=[↑(-b),↑(-dr),↑(-nl),↑(.int (kss.length:Int)),↑(.int ba),↑(-cd),↑(-pl),oa,ob]) (λD' m4 k7=>?_) ?_
  .exists 0,nl,Z,#[_,HQ.of (pw.s _ _ (qQ a8) Y)]
   refine zQ (K:=K) (a:=nl) (xs:=nms.map V.str) (λj σ Hz=>∃xs,Pw K C H Hz b (c+60+3*j) pl xs/\xs.length=2/\(∀(i:Nat) (x:En),xs[i]? =↑x->Ny t kss ba (nms.take j) x.2.1/\x.2.2.length<=2*j/\x.2.1.least=0)/\NA Hz cd tb kt t kss/\∃oa ob,σ=[↑(-b),↑(-dr),↑(-nl),↑(.int (kss.length:Int)),↑(.int ba),↑(-cd),↑(-pl),oa,ob]) #[xs,pw.mono (by omega),a2,hq,e5,13] (λj σ Hz _ h=>by let#[_,p,_]:=h;exact HQ.of (p.s _ _ (qQ a8) Y)) ?_ ?_
   .rintro j z σ Hz F ⟨xs,pw,lx,d,a7,oa,ob,rfl⟩
    rw[Jo]at F;let#[nm,en,rfl]:=JO.mp F;have hj:j<nms.length:=(Jw.mp en).1
    have g3:=ok.nm nm (Ij en);refine#[2,b,13,pw.bx,by omega,by omega,by omega,λag Ha X a6 ga=>?_]
    have d0:=pw.grc ga;refine#[12,b,(7),0,d0.bx,by omega,⋯,⋯,λr2 Hb l5 m2 gb=>#[51,Ho,λB j1=>?_]]
    let#[I,c0]:∃I,I=(if ba+1+r2<4095 then ba+1+r2 else 4095):=#[0]
    have u:1<=I/\I<4096/\ba<I/\I<=ba+15:=by rw[c0];split<;>omega
    rw[<- c0];have v0:=HJ.upd (o:= .tup [.int ag,.int I]) j1
    have b3:=(d0.grc gb).same v0;have e0:(HM Hb B (.tup [.int ag,.int I])) B=↑(.tup [.int ag,.int I]):=qb
    have Mb:Mv [b] Hz (HM Hb B (.tup [.int ag,.int I])):=λx o h e=>v0 _ _ (gb.kp _ _ (λz=>h (Ji.mpr z)) (ga.kp _ _ (λz=>h (Ji.mpr z)) e))
    have g0:=a7.mv Mb (zL pw.bx);generalize HM Hb B (.tup [.int ag,.int I])=Hc at *
    refine#[28,Ht,λl4 e7=>?_]
    have v4:=HJ.upd (o:= .lst [-B,-B,.non]) e7
    have k3:=zJ b3.bx e7;have d4:=b3.same v4;refine#[0,b,(3),0,d4.bx,by omega,⋯,⋯,λr4 Hf g6 k4 gf=>?_]
    let#[v,hv,d2]:=ZY (xs:=[V.ref B,-B,.non]) g6 k4
    have d8:=d4.grc gf;have Mf:Mv [b] Hc Hf:=λx o h e=>gf.kp _ _ (λz=>h (Ji.mpr z)) (v4 _ _ e)
    have Ne:=zL b3.bx;have g5:=g0.mv Mf Ne;have f4:=gf.kp _ _ k3 (show(HM Hc l4 (.lst [-B,-B,.non])) l4=↑(.lst [-B,-B,.non])from qb)
    have b4:=Mf.tup Ne e0;let#[o,ho,k0]:∃o:Option (Int×Int),(o=none\/o=↑(ag,I))/\P9 Hf v o:=by
     simp only[Jg,Jt,Ju]at d2;rcases d2 with rfl|rfl|rfl
     .exact#[_,.inr Z,B,Z,b4]
     .exact#[_,.inr Z,B,Z,b4]
     .exact#[none,.inl Z,Z]
    have b2:∀a l,o=↑(a,l)->a=ag/\l=I:=λa l e=>by
     rcases ho with z|z
     .rw[z]at e;cases e
     .rw[z]at e;cases e;exact#[9]
    refine#[l4,1,HQ.of f4,hv,Ho,λtl d1=>?_]
    have v6:=HJ.upd (o:= .lst [-B,v]) d1
    have k8:=d8.same v6;have h8:∀(i:Nat) (x:En),xs[i]? =↑x->tl∉eS x.1:=λi x hx z=>(d8.en i x hx).some z d1
    refine#[cd,tb,kt,pl,tl,b,_,H,t,kss,xs,nm,[↑(ag,I),o],Z,k8,lx,g5.same v6,g3,NY.two qb #[B,Z,v6 _ _ b4] (k0.mv (S:=[]) v6.mv fi),Z,h8,λi x hx=>?_,λa l h=>?_,λHn g7 i1 k2 st _=>?_]
    .let#[h1,h5,h0]:=d i x hx
     refine#[h1.lr (by rw[G5];omega),λa l e=>#[?_,eR λz=>vD ok.nd en (h1.sub nm z)],by have:=h1.few;rw[G5]at this;omega,by omega]
     rw[h0]
     match i,e with
     |0,e=>cases e;exact X
     |1,e=>rw[(b2 a l e).1];exact X
     |i+2,e=>cases e
    .simp only[Jg,Jt,Ju]at h
     rcases h with h|h
     .cases h;exact#[X,a6,u.1,u.2.1]
     .let#[rfl,rfl]:=b2 a l h.symm;exact#[X,a6,u.1,u.2.1]
    .refine#[g7,i1.mono (by omega),st.1.trans lx,λi y M=>?_,k2,13]
     have hi:i<xs.length:=by rw[<- st.1];exact(Jw.mp M).1
     let#[L',e,le]:=st.2 i xs[i] (Jh hi)
     let#[h1,h5,h0]:=d i xs[i] (Jh hi)
     rw[e]at M;cases M;have ll:xs[i].2.1.least=(bA nm xs[i].2.1 ([↑(ag,I),o].getD i none)).least:=by
      unfold bA;split<;>rfl
     have c4:nm∈nms.take (j+1):=by rw[Ie,en];simp
     have h7:=h1.more (nms':=nms.take (j+1)) λz F=>(List.take_prefix_take_left (by omega)).subset F
     refine#[?_,by show L'.length<=2*(j+1);omega,ll▸h0]
     refine h7.lrn (by rw[G5];omega) c4 λa l h=>?_
     have:a=ag/\l=I:=by
      match i,h with
      |0,h=>cases h;exact#[9]
      |1,h=>exact b2 a l h
      |i+2,h=>cases h
     let#[rfl,rfl]:=this
     exact#[X,a6,u.1,u.2.1,u.2.2.1,u.2.2.2]
   .rintro σ Hz ⟨xs,pw,lx,d,a7,oa,ob,rfl⟩
    have i2:(nms.map V.str).length=nms.length:=Je _
    rw[i2]at pw d;refine k7 _ _ #[xs,15,pw.mono (by omega),lx,λi x hx=>?_,a7,Z]
    let#[h1,h2,_]:=d i x hx;rw[Ip]at h1
    exact#[h1,by omega]
  clear pw a2 hq e5
  rintro σ r ⟨xs,oa,ob,pw,a2,d,g,rfl⟩
  let#[x0,O,rfl]:=jl a2;let#[s0,f9]:=d 0 x0 Z;let#[s1,h6]:=d 1 O Z;refine#[4,Ht,λel N=>?_]
  have u9:=HJ.upd (o:= .lst [-cd,-pl,-dr]) N
  have p9:=pw.same u9;have e3:H nl≠none:=λz=>by rw[z]at Y;cases Y
  have fz:∀z∈eS x0.1++eS O.1,H z=none:=λz F=>(JP.mp F).elim (pw.fr 0 x0 Z z) (pw.fr 1 O Z z)
  have b6:∀{x:Δ} {o:HO},x≠b->H x=↑o->(HM r el (.lst [-cd,-pl,-dr])) x=↑o:=λn e=>p9.s _ _ (qQ n) e
  have f3:H el=none:=by
   cases e:H el with
   |none=>rfl
   |some o=>have:=pw.s el o (qQ (zJ pw.bx N)) e;rw[N]at this;cases this
  refine q #[el,pl,nl,x0.1,O.1] t kss x0.2.1 O.2.1 _ #[λx o n e=>b6 n e,p9.bx.mono (by omega)] #[#[cd,dr,tb,kt,qb,g.same u9,b6 ?_ a1],b6 a8 Y,p9.pe,#[_,f9,p9.en 0 x0 Z],#[_,h6,p9.en 1 O Z],p9.dj 0 1 x0 O ⋯ Z Z,?_,?_,?_,?_,?_,ok,s0,s1] Z pw.fp ?_
  .exactλz=>by let#[_,_,_,e,_]:=hb;rw[z,e]at a1;cases a1
  .exactλz=>(j4 z).elim (λh=>(pw.en 0 x0 Z).some h N) (λh=>(pw.en 1 O Z).some h N)
  .exactλz=>(j4 z).elim (pw.np 0 x0 Z) (pw.np 1 O Z)
  .exactλz=>e3 (fz nl z)
  .exactλz=>by have:=pw.pe;rw[show pl=el from z,N]at this;cases this
  .exactλz=>e3 (by rw[show nl=el from z];exact f3)
  .exactλz F=>(Jg.mp F).elim (λh=>h▸f3) (fz z)
theorem pQ(a:At K mg "_law_deed" eE ["_law_box_here","_law_entry"])(T:MW K mg tk)(U:ND K C)(xO:Mf P w K mg base C "forget" X6 1 (jf K C))(xH:Mf P w K mg base C "turn_key" ["self","key"] 1 (oN K C))(dY:Mf P w K mg base C "close_below" V2 1 (oH K C))(dA:Df P w K mg base "_law_take" q0 1 Zf)(xE:Df P w K mg base "_law_key" X4 2 jv)(xY:Df P w K mg base "_law_learnt" X2 8 (fX K C))(yD:Df P w K mg base "_law_heard" X9 7 (ph K C)):Df P w K mg base "_law_deed" X7 9 (n9 K C):=by
 refine a.dq HY λf _ A _ s H vs Q E W h=>?_
 .let#[E,b,c,t,kss,J,nms,D,D',n,rfl,hb,hc,X,b7,m0,b5,hn,q]:=h
  exists _,(qd (za (qv 1) (zg Z (qh (qg (i:=2) HY.nd Z (Pr Z)) (qh (qg (i:=3) HY.nd Z (Pr Z)) (qh (zg Z (qh (qg (i:=4) HY.nd Z (Pr Z)) (qh (qg (i:=5) HY.nd Z (Pr Z)) (qh (qg (i:=6) HY.nd Z (Pr Z)) qK)))) qK)))))
   (qd (vt (i:=7) (j:=8) Z HY.nd Z Z ⋯ Z Z (qc (qo dA W.mo (qc (qv 0) (qc qf qa))) (qc (qo dA W.mo (qc (qv 0) (qc qf qa))) qa)))
   (qd (za (qx qF (qv 3) (qv 8)) (zg Z (qh (qg (i:=9) HY.nd Z (Pr Z)) (qh (qg (i:=10) HY.nd Z (Pr Z)) qK))))
   (qd (vt (i:=11) (j:=12) Z HY.nd Z Z ⋯ Z Z (qc (qx qF (qv 4) (qo dA W.mo (qc (qv 0) (qc (qk qT T.b_len J5 (qc (qv 4) qa)) qa)))) (qc (qo dA W.mo (qc (qv 0) (qc (qv 5) qa))) qa)))
   (qe (qB (QW.pt (bm (qw zt (qv 7) qf (qq _)) (aM (oU W (qv 11) (zB W (qv 10) qy))))) (qd (zc (zb xO U.cl W.mo (qv 9) (qc (qv 11) qa)))
   (qe (zc (nv (zB W (qv 10) qy) (qv 11))))) (qe (qB (QW.pt (bm (qw bF (qv 7) qf (qq _)) (bm (kB W (qv 11) (zB W (qv 10) qy)) (aM (qw iS (qv 12) (zB W (qv 10) qy) (qq _)))))) (qe (zc (qo xY W.mo (qc (qv 2) (qc (qv 3) (qc (qv 11) (qc (qx qF (q9 (qc (q9 (qc (qu (qc (qv 12) (qc (qr qM (qv 6) qf) qa))) (qc qP qa))) (qc (q9 (qc qP (qc (qu (qc (qv 12) (qc (qr qM (qv 6) qf) qa))) qa))) qa))) (qv 8)) qa))))))) (qe (qB (qw zt (qv 7) qf (qq _)) (qd (zc (zb dY U.cl W.mo (qv 9) (qc (qv 12) qa)))
   (qe (QM W (qv 10) qy (qk (bR Z) T.b_max Mp (qc (zB W (qv 10) qy) (qc (qv 12) qa)))))) (qe (qB (QW.pt (bm (qw zt (qv 7) qf (qq _)) (aM (qw bF (qv 5) qf (qq _))))) (qd (qA (i:=13) HY.nd Z (Pr Z) (QQ cO (qo xE W.mo (qc (qv 0) qa)) Ze (Zh qf)))
   (qd (zf JJ Z (zv (qv 3)) (zg Z (qh (qg (i:=9) HY.nd Z (Pr Z)) (qh (qg (i:=10) HY.nd Z (Pr Z)) qK)))
   (qd (zc (zb xH U.cl W.mo (qv 9) (qc (qv 13) qa)))
   (qe (QM W (qv 10) qy (qr qM (qv 5) qf)))))
   (qe (za (qu (qc (qu (qc (qx qN (qv 2) qf) (qc (qr rY (qx qN (qv 2) qf) (qu (qc (qv 13) qa))) qa))) (qc (qu (qc (qv 4) (qc (qr qM (qv 5) qf) (qc (qv 6) qa)))) qa))) (cv Z (qh (bu (qv 1) qf Q6) (qh (bu (qv 1) qf Q6) qK))))))) (qd (qA (i:=14) HY.nd Z (Pr Z) (qu (qc (qv 11) (qc (qv 12) (qc (qk (Zb Z) T.b_min RL (qc qf (qc (qr qM (qv 6) (qo dA W.mo (qc (qv 0) (qc qf qa)))) qa))) qa)))))
   (qe (zc (qo yD W.mo (qc (qv 2) (qc (qv 3) (qc (qv 14) (qc (qx qF (q9 (qc (qu (qc qf (qc qf qa))) (qc (qu (qc qf (qc qf qa))) (qc (qu (qc (qv 8) qa)) qa)))) (qo dA W.mo (qc (qv 0) (qc qf qa)))) qa))))))))))))))))))))
  let#[cd,dr,tb,kt,e9,hC,k4]:=X.ent;let#[L,hL,y0]:=X.e0;let#[L',l0,y1]:=X.e1;have l6:b∉Qm E:=λz=>b7 (Jv _ z)
  have pw:=X.pw y0 y1 hb (λz=>(Jg.mp z).elim m0 l6)
  have few:=X.few;have m1:=few.m1;have m3:=few.m3;have b0:=few.b0;have b1:=few.b1;have l1:=few.l1;have l3:=few.l3;have e6:E.el≠b:=λz=>b7 (z▸Jr ..)
  exists 0,E.el,0,.lst e9,62,dr,0,.tup k4,30
  refine(show fV _ _ _ [↑(-b),↑(-E.el),↑(-cd),↑(-E.pl),↑(-E.nl),↑(.int (kss.length:Int)),↑(.int J),none,none,none,none,none,none,none,none] H from ?_)
  refine#[0,b,(8),c,Z,hb,by omega,⋯,⋯,λwy H1 w0 w1 g1=>#[0,b,(2),c+1,Z,g1.bx,by omega,⋯,⋯,λpc H2 p0 p1 g2=>?_]]
  have G2:=g1.trans g2;have d3:=pw.grc G2;let#[i,rfl]:∃i:Nat,pc=(i:Int):=#[pc.toNat,by omega]
  have i2:i<2:=by omega
  let#[x,hx]:∃x,[(E.a,D,L),(E.a',D',L')][i]? =↑x:=#[_,Jh (show i<2 from i2)]
  have S:∀(i:Nat) (x:En),[(E.a,D,L),(E.a',D',L')][i]? =↑x->(i=0->x.1=E.a)/\(i=1->x.1=E.a')/\Ny t kss J nms x.2.1/\x.2.2.length<=n:=λi x hx=>by
   match i,hx with
   |0,hx=>cases hx;exact#[λ_=>rfl,λz=>(by cases z),X.s0,hL]
   |1,hx=>cases hx;exact#[λz=>(by cases z),λ_=>rfl,X.s1,l0]
   |k+2,hx=>cases hx
  have e3:=d3.en i x hx;have sx:=(S i x hx).2.2.1;have p3:=(S i x hx).2.2.2;exists _,_,Z,_,Z,_,Z,E.pl,1,HQ.of d3.pe,d3.at hx,x.1.e,0,.tup e3.tu,5
  have d5:H2 E.nl=↑(.lst (nms.map V.str)):=G2.kp _ _ b5.symm X.nl
  refine#[4,E.nl,0,.inl (HQ.of d5),b,13,G2.bx,by omega,by rw[Je];omega,by rw[Je];omega,λxi H3 m8 e4 g3=>?_]
  let#[nm,c3,e5]:∃nm,QJ (nms.map V.str) xi=↑(.str nm)/\nm∈nms:=by
   rw[Je]at e4;let#[j,rfl]:∃j:Nat,xi=(j:Int):=#[xi.toNat,by omega]
   have hj:j<nms.length:=by omega
   exact#[nms[j],Qs (by rw[Jo,Jh hj];rfl),IH hj]
  have G3:=G2.trans g3;exists E.nl,1,HQ.of (G3.kp _ _ b5.symm X.nl),c3
  refine#[2,b,13,G3.bx,by omega,by omega,by omega,λN H4 d0 c1 g4=>#[13,?_]]
  have G4:=G3.trans g4;have a8:=pw.grc G4;have O:=a8.en i x hx;have g6:=few.nm nm e5;clear d3 e3 g1 g2 g3 g4 d5 c3 m8 e4;have M4:Mv [b] H H4:=λc o h e=>G4.kp c o (λz=>h (Ji.mpr z)) e
  have d8:=hC.mv M4 (zL hb);have one:∀(Hz:Hp) (F:Dr) (M:Ρ),Mv (eS x.1) H4 Hz->NR K C Hz x.1 F M F->Ny t kss J nms F->M.length<=n+2->Q .non Hz:=λHz F M mz ez sF lM=>by
   have pz:=a8.step hx mz ez;let#[G,G',mv,eF]:=pz.backL37 (m:=n+2) X hb b7 b5 (by rw[Lg];rfl) λk y R=>by
    rw[Kf]at R;split at R
    .rename_i z
     subst z;rw[Jc (show i<[(E.a,D,L),(E.a',D',L')].length from i2)]at R
     cases R
     exact#[(S i x hx).1,(S i x hx).2.1,sF,lM]
    .let#[B,d,I,q4]:=S k y R
     exact#[B,d,I,by omega]
   exact q _ _ _ _ mv (pz.bx.mono (by omega)) eF
  refine(show Ng.nx _ [↑(-b),↑(-E.el),↑(-cd),↑(-E.pl),↑(-E.nl),↑(.int (kss.length:Int)),↑(.int J),↑(.int wy),↑(.int (i:Int)),↑(-x.1.a.p),↑(-x.1.m),↑(.str nm),↑(.int N),none,none] H4 from ?_)
  refine Ex (λbb H'=>H'=H4/\(bb=true->x.2.1.kn.lookup nm≠none)) (λQ' hQ=>?_) (λH3 ⟨eH,ht⟩=>?_) (λH3 ⟨eH,_⟩=>?_)
  .exists 3
   refine qZ (λ_=>?_) (λ_=>hQ _ _ #[Z,λz=>nomatch z])
   rcases O.md.kn.get nm with⟨d1,g⟩|⟨e,xx,he,g,_⟩
   .exact#[2,x.1.m,0,O.md.g_known,x.1.kd,0,g,0,hQ _ _ #[Z,λz=>nomatch z]]
   .exact#[2,x.1.m,0,O.md.g_known,x.1.kd,0,g,0,hQ _ _ #[Z,λ_ z=>by rw[he]at z;cases z]]
  .subst eH
   have hk:=ht Z;refine#[0,x.1.a.p,Z,O.dl.dr.no,0,x.1.a,x.2.1,x.2.2,nm,Z,O.dl,by omega,hk,λF r hd Hs ms ds=>?_]
   let#[rfl,rfl]:_=F/\_=r:=by have w:=(Jb hk).symm.trans hd;injection w with w;injection w with w1 w2;exact#[w1,w2]
   have a5:Mv (dS x.1.a) _ _:=ms.mono λc h z=>h (by rcases Jg.mp z with rfl|z;exact vc _;rw[Ji.mp z];exact ml _)
   have es:=O.door a5 ds;let#[f0,k5,p5,m2,nd]:=id es.md.kn;let#[kvs,c4,j6]:=es.md.kn.drop nm;have ek:kvs=bI f0.1 f0.2:=by rw[k5]at c4;injection c4 with z;injection z with z;exact z.symm
   let#[e,he]:=K9.mp hk;have hv:QZ kvs (Pt nm:qJ)=↑(.ref (f0.2 nm)):=by rw[ek,gH,cm m2 nd,he];rfl
   exists 0,x.1.m,0,es.md.g_known,x.1.kd,Z,.inl #[_,.inl c4],0,kvs,.inr nm,_,c4,Z,hv
   have m4:Mv [x.1.kd] Hs (HM Hs x.1.kd (.dK (aH kvs (Pt nm)))):=Mv.upd1
   have a4:Mv [x.1.m,x.1.kd] Hs _:=m4.mono (λc h z=>h (by rw[Ji.mp z];simp))
   exact one _ _ _ ((cw a5).trans (cx a4)) (es.model a4 (es.md.putK m4 j6)) sx.forget (by rw[Jy];simp;omega)
  subst eH;refine jg (λbb H'=>H'=H3/\(bb=true->x.2.1.kn.lookup nm=none/\x.2.1.least<=N)) (λQ' hQ=>?_) (λH4 ⟨eH,ht⟩=>?_) (λH4 ⟨eH,_⟩=>?_)
  .exists 12
   refine qZ (λ_=>?_) (λ_=>hQ _ _ #[Z,λz=>nomatch z])
   rcases O.md.kn.get nm with⟨d1,g⟩|⟨e,xx,he,g,_⟩
   .exists 2,x.1.m,0,O.md.g_known,x.1.kd,0,g,0
    refine qZ (λ_=>?_) (λ_=>hQ _ _ #[Z,λz=>nomatch z])
    exact#[2,x.1.m,0,O.md.g_closed,14,hQ _ _ #[Z,λz=>#[d1,Jz z]]]
   .exact#[2,x.1.m,0,O.md.g_known,x.1.kd,0,g,0,zh (hQ _ _ #[Z,λz=>nomatch z])]
  .subst eH
   let#[d1,k1]:=ht Z;refine#[46,Ho,λt1 h7=>#[Ho,λB a2=>#[16,Ho,λt2 h6=>#[Ho,λd a1=>#[Ho,λql b3=>?_]]]]]
   have v1:=HJ.upd (o:= .tup [.int N,.int (J+5)]) h7
   have v2:=HJ.upd (o:= .lst [-t1,.non]) a2
   have v3:=HJ.upd (o:= .tup [.int N,.int (J+5)]) h6
   have v4:=HJ.upd (o:= .lst [.non,-t2]) a1
   have v5:=HJ.upd (o:= .lst [-B,-d]) b3
   have S5:=(((v1.trans v2).trans v3).trans v4).trans v5;have n1:∀(k:Nat) (y:En),[(E.a,D,L),(E.a',D',L')][k]? =↑y->B∉eS y.1:=λk y R z=>((a8.same v1).en k y R).some z a2
   have n2:∀(k:Nat) (y:En),[(E.a,D,L),(E.a',D',L')][k]? =↑y->d∉eS y.1:=λk y R z=>((((a8.same v1).same v2).same v3).en k y R).some z a1
   have m6:=a8.same S5;have o0:=d8.same S5;have f1:=v5 _ _ (v4 _ _ (v3 _ _ (v2 _ _ (qb (H:=H4) (a:=t1) (o:= .tup [.int N,.int (J+5)])))))
   have f2:=v5 _ _ (v4 _ _ (v3 _ _ (qb (H:=HM H4 t1 (.tup [.int N,.int (J+5)])) (a:=B) (o:= .lst [-t1,.non]))))
   have f3:=v5 _ _ (v4 _ _ (qb (H:=HM (HM H4 t1 (.tup [.int N,.int (J+5)])) B (.lst [-t1,.non])) (a:=t2) (o:= .tup [.int N,.int (J+5)])))
   have f4:=v5 _ _ (qb (H:=HM (HM (HM H4 t1 (.tup [.int N,.int (J+5)])) B (.lst [-t1,.non])) t2 (.tup [.int N,.int (J+5)])) (a:=d) (o:= .lst [.non,-t2]))
   have f5:=qb (H:=HM (HM (HM (HM H4 t1 (.tup [.int N,.int (J+5)])) B (.lst [-t1,.non])) t2 (.tup [.int N,.int (J+5)])) d (.lst [.non,-t2])) (a:=ql) (o:= .lst [-B,-d])
   generalize HM (HM (HM (HM (HM H4 t1 (.tup [.int N,.int (J+5)])) B (.lst [-t1,.non])) t2 (.tup [.int N,.int (J+5)])) d (.lst [.non,-t2])) ql (.lst [-B,-d])=H5 at *
   clear v1 v2 v3 v4 v5 h7 a2 h6 a1 b3;let#[tl,os,c3,o6,l8,ol,o1,o2]:∃(tl:Δ) (os:List (Option (Int×Int))),QJ [V.ref B,-d] (i:Int)=↑(-tl)/\NY H5 tl os/\(∀(k:Nat) (y:En),[(E.a,D,L),(E.a',D',L')][k]? =↑y->tl∉eS y.1)/\os.length=2/\(∀k a l,os.getD k none=↑(a,l)->k=i/\a=N/\l=J+5)/\(∀a l,↑(a,l)∈os->a=N/\l=J+5):=by
    match i,i2 with
    |0,_=>
     refine#[B,[↑(N,J+5),none],Z,NY.two f2 #[t1,Z,f1] Z,n1,Z,λk a l h=>?_,λa l h=>?_]
     .match k,h with
      |0,h=>cases h;exact#[40]
      |1,h=>cases h
      |k+2,h=>cases h
     .simp only[Jg,Jt,Ju]at h
      rcases h with h|h
      .cases h;exact#[9]
      .cases h
    |1,_=>
     refine#[d,[none,↑(N,J+5)],Z,NY.two f4 Z #[t2,Z,f3],n2,Z,λk a l h=>?_,λa l h=>?_]
     .match k,h with
      |0,h=>cases h
      |1,h=>cases h;exact#[40]
      |k+2,h=>cases h
     .simp only[Jg,Jt,Ju]at h
      rcases h with h|h
      .cases h
      .cases h;exact#[9]
   exists 0,ql,1,HQ.of f5,c3
   refine#[cd,tb,kt,E.pl,tl,b,_,gZ E H,t,kss,_,nm,os,Z,m6,Z,o0,g6,o6,ol,l8,λk y R=>?_,λa l h=>?_,λHn l5 b8 n6 st _=>?_]
   .let#[_,_,s1,s2]:=S k y R
    refine#[s1.lr l3,λa l h=>?_,by have:=s1.few;omega,by omega]
    let#[rfl,rfl,rfl]:=o1 k a l h;rw[hx]at R;cases R
    exact#[k1,d1]
   .let#[rfl,rfl]:=o2 a l h
    exact#[d0,c1,by omega,by omega]
   .let#[G,G',mv,eF]:=b8.backL37 (m:=n+2) X hb b7 b5 st.1 λk y R=>by
     have hk:k<2:=by have:=(Jw.mp R).1;rw[st.1]at this;exact this
     let#[y0,b6]:∃y0,[(E.a,D,L),(E.a',D',L')][k]? =↑y0:=#[_,Jh (show k<2 from hk)]
     let#[M,e,le]:=st.2 k y0 b6;let#[B,d,I,q4]:=S k y0 b6;rw[e]at R;cases R;refine#[B,d,I.lrn l3 e5 λa l h=>?_,by show M.length<=n+2;omega]
     let#[_,rfl,rfl]:=o1 k a l h
     exact#[d0,c1,by omega,by omega,by omega,by omega]
    exact q _ _ _ _ mv (b8.bx.mono (by omega)) eF
  subst eH;refine#[3,qZ (λ_=>?_) (λ_=>?_)]
  .refine#[0,x.1.a.p,Z,O.dl.dr.no,0,x.1.a,x.2.1,x.2.2,N,Z,O.dl,by omega,λF r hd Hs ms ds=>?_]
   cases hd;have a5:=GX ms;have h5:=O.door a5 ds;have g0:=h5.md;let#[H4',c2,m4,d9]:=g0.close (if N>x.2.1.least then N else x.2.1.least)
   exists 0,x.1.m,0,g0.g_closed,48,x.1.m,H4',Z,c2
   have a4:Mv [x.1.m,x.1.kd] Hs H4':=m4.mono (λc h z=>h (by rw[Ji.mp z];simp))
   exact one _ _ _ ((cw a5).trans (cx a4)) (h5.model a4 d9) (sx.close d0 c1) (by rw[Jy];simp;omega)
  clear one;refine jg (λbb H'=>H'=H4/\(bb=true->kss.length<3)) (λQ' hQ=>?_) (λH5 ⟨eH,ht⟩=>?_) (λH5 ⟨eH,_⟩=>?_)
  .exists 3
   refine qZ (λ_=>?_) (λ_=>hQ _ _ #[Z,λz=>nomatch z])
   exact#[12,hQ _ _ #[Z,λz=>by have:=Jz z;omega]]
  .subst eH
   have k3:=ht Z;refine#[0,b,0,G4.bx,by omega,λp ks Ha ga fp ep dk p4 p2=>#[0,p,0,ep,λy Hb sb R _=>?_]]
   rw[aY]at R;let#[kk,h8]:∃kk,kk=ZI ks none ↑2:=#[0]
   have l7:kk.length<=8:=by rw[h8];rw[AI];omega
   rw[<- h8]at R;have b4:=(a8.grc ga).same sb;have Mb:Mv [b] H5 Hb:=λc o h e=>sb _ _ (ga.kp c o (λz=>h (Ji.mpr z)) e)
   have d7:=d8.mv Mb (zL G4.bx);clear sb ep fp;refine QL (λo3 H'=>∃xs,Pw K C (gZ E H) H' b (c+15) E.pl xs/\xs.length=2/\(∀(k:Nat) (z:En),xs[k]? =↑z->(k=0->z.1=E.a)/\(k=1->z.1=E.a')/\Ny t (kss++[kk]) J nms z.2.1/\z.2.2.length<=n+1)/\NA H' cd tb kt t kss/\H' y=↑(.tup (kk.map V.int))/\∃o9 b2,o3=[↑(-b),↑(-E.el),↑(-cd),↑(-E.pl),↑(-E.nl),↑(.int (kss.length:Int)),↑(.int J),↑(.int wy),↑(.int (i:Int)),o9,b2,↑(.str nm),↑(.int N),↑(-y),none]) (λD0 p6 o5=>?_) ?_
   .exists 0,E.pl,Z,#[_,HQ.of b4.pe]
    refine zQ (K:=K) (a:=E.pl) (xs:=[-E.a.e,-E.a'.e]) (λj σ Hx=>∃xs,Pw K C (gZ E H) Hx b (c+15) E.pl xs/\xs.length=2/\(∀(k:Nat) (z:En),xs[k]? =↑z->(k=0->z.1=E.a)/\(k=1->z.1=E.a')/\Ny t (if k<j then kss++[kk]else kss) J nms z.2.1/\z.2.2.length<=n+(if k<j then 1 else 0))/\NA Hx cd tb kt t kss/\Hx y=↑(.tup (kk.map V.int))/\∃o9 b2,σ=[↑(-b),↑(-E.el),↑(-cd),↑(-E.pl),↑(-E.nl),↑(.int (kss.length:Int)),↑(.int J),↑(.int wy),↑(.int (i:Int)),o9,b2,↑(.str nm),↑(.int N),↑(-y),none]) #[_,b4.mono (by omega),Z,λk z Y=>?_,d7,R,13] (λj σ Hx _ h=>?_) ?_ ?_
    .rw[Jb (I1 k),Jb (I1 k)];exact S k z Y
    .let#[xs,p,l2,hq,_]:=h
     let#[x0,x1,rfl]:=jl l2
     have:=p.pe
     rw[show [x0,x1].map (λx:En=>V.ref x.1.e)=[-E.a.e,-E.a'.e] by rw[<- (hq 0 x0 Z).1 Z,<- (hq 1 x1 Z).2.1 Z];rfl]at this
     exact HQ.of this
    .rintro j z σ Hx Y ⟨xs,a6,lx,hq,a3,a7,o9,b2,rfl⟩
     have j2:j<2:=(Jw.mp Y).1
     have ex:=Jh (show j<xs.length by rw[lx];exact j2)
     let#[u,ru]:∃u,u=xs[j]:=#[0]
     rw[<- ru]at ex;let#[h1,h2,h3,h4]:=hq j u ex;rw[Jb (Ia j)]at h3 h4
     obtain rfl:z= .ref u.1.e:=by
      match j,j2,Y,h1,h2 with
      |0,_,Y,h1,_=>cases Y;rw[h1 Z]
      |1,_,Y,_,h2=>cases Y;rw[h2 Z]
     have en:=a6.en j u ex;have d2:u.2.1.kss.length<8:=by rw[h3.hr.ks];omega
     exists u.1.e,0,.tup en.tu,5
     refine#[0,u.1.a.p,Z,en.dl.dr.no,0,u.1.a,u.2.1,u.2.2,y,kk,Z,en.dl,by omega,d2,.inr (.inl a7),l7,λF r hd Hs ms ds=>?_]
     let#[rfl,rfl]:_=F/\_=r:=by have w:=(Jc d2).symm.trans hd;injection w with w;injection w with w1 w2;exact#[w1,w2]
     have a5:Mv (dS u.1.a) Hx Hs:=ms.mono λc h z=>h (by rcases Jg.mp z with rfl|z;exact uy _;rw[Ji.mp z];exact ml _)
     have es:=en.door a5 ds;let#[H4',c2,m4,d9]:=es.md.turn kk;have k0:u.2.1.kss.length=kss.length:=by rw[h3.hr.ks]
     rw[k0]at c2;exists 12,u.1.m,H4',Z,c2
     have a4:Mv [u.1.m,u.1.kd] Hs H4':=m4.mono (λc h z=>h (by rw[Ji.mp z];simp))
     have Mall:Mv (eS u.1) Hx H4':=(cw a5).trans (cx a4)
     have k7:y∉eS u.1:=λz=>by let#[o,e,no]:=en.nt y z;rw[a7]at e;cases e;exact no
     refine#[_,a6.step ex Mall (es.model a4 d9),by rw[Lg];exact lx,λk w hw=>?_,a3.mv Mall en.nt,Mall _ _ k7 a7,13]
     rw[Kf]at hw;split at hw
     .rename_i z
      subst z;rw[Jc (by rw[lx];exact j2)]at hw
      cases hw;rw[Jc (G0 j),Jc (G0 j)]
      exact#[h1,h2,h3.turn k3,by show(u.2.2++[_]).length<=n+1;rw[Jy];simp;omega]
     .rename_i z
      let#[w1,w2,w3,w4]:=hq k w hw;have e1:(k<j+1)=(k<j):=propext #[λh=>by omega,λh=>by omega]
      simp only[e1]
      exact#[w1,w2,w3,w4]
    .rintro σ Hx ⟨xs,a6,lx,hq,a3,a7,o9,b2,rfl⟩
     refine o5 _ _ #[xs,a6,lx,λk z Y=>?_,a3,a7,13]
     have hk:k<2:=by rw[<- lx];exact(Jw.mp Y).1
     have:=hq k z Y
     rw[Jc (show k<[V.ref E.a.e,-E.a'.e].length from hk),Jc (show k<[V.ref E.a.e,-E.a'.e].length from hk)]at this
     exact this
   rintro σ Hx ⟨xs,a6,lx,hq,a3,a7,o9,b2,rfl⟩
   let#[as,o7,d6,d2]:=id a3.ks;refine#[0,cd,1,HX.of a3.e,8,cd,1,HX.of a3.e,8,Hl,λB a2=>?_]
   have u1:=HJ.upd (o:= .tup [-y]) a2
   have l4:as.map V.ref≠[]:=λz=>by
    cases as with
    |nil=>have:0=kss.length:=d6;omega
    |cons _ _=>cases z
   refine#[kt,B,as.map V.ref,[V.ref y],9,(HJ.sqt u1 o7).up,HX.of qb,l4,by rw[Je,d6,JD];simp;omega,(λz=>nomatch z),λ_ d a1=>#[Ho,λI c0=>#[35,Ht,λq4 h9=>#[Ho,λq5 g7=>?_]]]]
   have u2:=HJ.upd (o:= .tup (as.map V.ref++[-y])) a1
   have u3:=HJ.upd (o:= .tup [-tb,-d]) c0
   have u4:=HJ.upd (o:= .tup [-E.nl,.int ((kss.length:Int)+1),.int J]) h9
   have u5:=HJ.upd (o:= .tup [-I,-q4]) g7
   have U:=(((u1.trans u2).trans u3).trans u4).trans u5;have g2:=u5 _ _ (u4 _ _ (u3 _ _ (qb (H:=HM Hx B (.tup [-y])) (a:=d) (o:= .tup (as.map V.ref++[-y])))))
   have g3:=u5 _ _ (u4 _ _ (qb (H:=HM (HM Hx B (.tup [-y])) d (.tup (as.map V.ref++[-y]))) (a:=I) (o:= .tup [-tb,-d])))
   have g4:=u5 _ _ (qb (H:=HM (HM (HM Hx B (.tup [-y])) d (.tup (as.map V.ref++[-y]))) I (.tup [-tb,-d])) (a:=q4) (o:= .tup [-E.nl,.int ((kss.length:Int)+1),.int J]))
   have g5:=qb (H:=HM (HM (HM (HM Hx B (.tup [-y])) d (.tup (as.map V.ref++[-y]))) I (.tup [-tb,-d])) q4 (.tup [-E.nl,.int ((kss.length:Int)+1),.int J])) (a:=q5) (o:= .tup [-I,-q4])
   have e0:=a6.same U;have m5:=a3.same U;have o8:=U _ _ a7;have Mx:Mv (b::Qm E) H Hx:=a6.mvL37 X lx λk z Y=>#[(hq k z Y).1,(hq k z Y).2.1]
   generalize HM (HM (HM (HM (HM Hx B (.tup [-y])) d (.tup (as.map V.ref++[-y]))) I (.tup [-tb,-d])) q4 (.tup [-E.nl,.int ((kss.length:Int)+1),.int J])) q5 (.tup [-I,-q4])=H6 at *
   clear u1 u2 u3 u4 u5 a2 a1 c0 h9 g7;have h0:E.el∉b::Qm E:=λz=>(Jg.mp z).elim e6 X.ne
   have e8:E.nl∉b::Qm E:=λz=>(Jg.mp z).elim b5.symm X.nn
   have M6:Mv (b::Qm E) H H6:=λc o h e=>U _ _ (Mx c o h e)
   have d4:=M6 _ _ h0 e9;exists q5,0,HX.of g5,56,E.el,_,(0),(0),9,d4,56,E.el,_,(2),(2),9,qb,9
   show Q .non (HM (HM H6 E.el (.lst [-I,-E.pl,-dr])) E.el (.lst [-I,-E.pl,-q4]))
   have m7:Mv [E.el] H6 (HM (HM H6 E.el (.lst [-I,-E.pl,-dr])) E.el (.lst [-I,-E.pl,-q4])):=Mv.upd1.trans Mv.upd1
   have N7:NT [E.el] H6:=NT.one d4 trivial
   have e7:(HM (HM H6 E.el (.lst [-I,-E.pl,-dr])) E.el (.lst [-I,-E.pl,-q4])) E.el=↑(.lst [-I,-E.pl,-q4]):=qb
   generalize HM (HM H6 E.el (.lst [-I,-E.pl,-dr])) E.el (.lst [-I,-E.pl,-q4])=H7 at *
   have lk:(kss++[kk]).length=kss.length+1:=by rw[Jy];rfl
   have k2:NA H7 I tb d t (kss++[kk]):=(show NA H6 I tb d t (kss++[kk])from#[g3,m5.tb,as++[y],HX.of (by rw[JI];exact g2),by rw[Jy,lk,d6];rfl,λj x z e1 e2=>by
    by_cases hj:j<as.length
    .rw[J3 hj]at e1
     rw[J3 (by omega)]at e2
     exact HJ.sqt U (d2 j x z e1 e2)
    .rw[J9 (by omega)]at e1
     rw[J9 (by omega)]at e2
     cases ej:j-as.length with
     |zero=>rw[ej]at e1;rw[show j-kss.length=0 by omega]at e2;cases e1;cases e2;exact HX.of o8
     |succ k=>rw[ej]at e1;cases e1]).mv m7 N7
   let#[F,F',eF]:=EO (m:=n+2) (kss':=kss++[kk]) (m7 _ _ (qQ X.np') e0.pe) (λk z Y=>(e0.en k z Y).mv m7 N7 λv hv w=>by
    rw[Ji.mp w]at hv;have hk:k<2:=by rw[<- lx];exact(Jw.mp Y).1
    let#[h1,h2,_]:=hq k z Y
    match k,hk,h1,h2 with
    |0,_,h1,_=>rw[h1 Z]at hv;exact X.ne (jt hv)
    |1,_,_,h2=>rw[h2 Z]at hv;exact X.ne (mh hv)) X lx (λk z Y=>by let#[h1,h2,h3,h4]:=hq k z Y;exact#[h1,h2,h3,by omega]) #[I,q4,tb,d,e7,k2,m7.tup N7 (by rw[lk];exact g4)] (m7 _ _ (qQ X.nn') (M6 _ _ e8 X.nl)) #[few.nd,few.nm,l1,l3,by omega,by omega,b0,b1]
   refine q _ _ _ _ (λc o h e=>m7 _ _ (qQ λz=>h (z▸Jv _ (Jr ..))) (M6 _ _ (λz=>h ((Jg.mp z).elim (λz=>z▸Jr ..) λz=>Jv _ (Jv _ z))) e)) ?_ eF
   let#[x1,x2,x3,ex,rx]:=e0.bx.mono (show c+15<=c+20 by omega)
   exact#[x1,x2,x3,m7 _ _ (qQ e6.symm) ex,rx]
  .subst eH
   refine#[10,b,(16),0,G4.bx,by omega,⋯,⋯,λr Ha r0 r1 ga=>#[51,Ht,λp hp=>?_]]
   let#[m,em]:∃m,m=(if J+r<4095 then J+r else 4095):=#[0]
   have mb:0<=m/\m<4096/\m<=J+15:=by rw[em];split<;>omega
   rw[<- em]at *
   have u1:=HJ.upd (o:= .tup [.str nm,.int N,.int m]) hp
   have f9:=(a8.grc ga).same u1;have Ma:Mv [b] H5 (HM Ha p (.tup [.str nm,.int N,.int m])):=λc o h e=>u1 _ _ (ga.kp c o (λz=>h (Ji.mpr z)) e)
   have o4:=d8.mv Ma (zL G4.bx);have ep:(HM Ha p (.tup [.str nm,.int N,.int m])) p=↑(.tup [.str nm,.int N,.int m]):=qb
   generalize HM Ha p (.tup [.str nm,.int N,.int m])=Hb at *
   refine#[4,Ho,λB a2=>#[Ho,λd a1=>#[0,Hl,λI c0=>#[Ht,λql b3=>?_]]]]
   have v1:=HJ.upd (o:= .tup [.int 0,.int 1]) a2
   have v2:=HJ.upd (o:= .tup [.int 0,.int 1]) a1
   have v3:=HJ.upd (o:= .tup [.int (i:Int)]) c0
   have v4:=HJ.upd (o:= .lst [-B,-d,-I]) b3
   have S4:=((v1.trans v2).trans v3).trans v4;have f1:=v4 _ _ (v3 _ _ (v2 _ _ (qb (H:=Hb) (a:=B) (o:= .tup [.int 0,.int 1]))))
   have f2:=v4 _ _ (v3 _ _ (qb (H:=HM Hb B (.tup [.int 0,.int 1])) (a:=d) (o:= .tup [.int 0,.int 1])))
   have f3:=v4 _ _ (qb (H:=HM (HM Hb B (.tup [.int 0,.int 1])) d (.tup [.int 0,.int 1])) (a:=I) (o:= .tup [.int (i:Int)]))
   have f4:=qb (H:=HM (HM (HM Hb B (.tup [.int 0,.int 1])) d (.tup [.int 0,.int 1])) I (.tup [.int (i:Int)])) (a:=ql) (o:= .lst [-B,-d,-I])
   have i1:=zJ (f9.same ((v1.trans v2).trans v3)).bx b3;have b4:=f9.same S4;have d7:=o4.same S4;have n4:=S4 _ _ ep;generalize HM (HM (HM (HM Hb B (.tup [.int 0,.int 1])) d (.tup [.int 0,.int 1])) I (.tup [.int (i:Int)])) ql (.lst [-B,-d,-I])=Hc at *
   clear v1 v2 v3 v4 a2 a1 c0 b3 S4;refine#[0,b,(3),0,b4.bx,by omega,⋯,⋯,λr2 Hd j3 n3 gd=>?_]
   let#[v,hv,g8]:=ZY (xs:=[V.ref B,-d,-I]) j3 n3
   have Md:Mv [b] Hc Hd:=λc o h e=>gd.kp c o (λz=>h (Ji.mpr z)) e
   have Nd:=zL b4.bx;have k8:=b4.grc gd;have j1:=d7.mv Md Nd;let#[ps,is,rfl,n8,n0,n7]:∃(ps:Δ) (is:Κ),v= .ref ps/\Hd ps=↑(.tup (is.map λi:Nat=>V.int (i:Int)))/\is.Nodup/\∀k∈is,k<2:=by
    simp only[Jg,Jt,Ju]at g8;have two:([0,1]:Κ).Nodup/\∀k∈([0,1]:Κ),k<2:=by decide
    rcases g8 with rfl|rfl|rfl
    .exact#[B,[0,1],Z,Md.tup Nd f1,two]
    .exact#[d,[0,1],Z,Md.tup Nd f2,two]
    .exact#[I,[i],Z,Md.tup Nd f3,IG.mpr #[Jt,LK],λk hk=>by rw[Ji.mp hk];exact i2]
   exists ql,1,HQ.of (gd.kp _ _ i1 f4),hv
   refine#[cd,tb,kt,E.pl,p,ps,b,_,gZ E H,t,kss,_,nm,N,m,is,Z,k8,Z,j1,g6,d0,c1,mb.1,mb.2.1,Md.tup Nd n4,.inl n8,n0,n7,λk y R=>?_,λHn l5 b8 n6 st=>?_]
   .let#[_,_,s1,s2]:=S k y R
    exact#[s1.hr,by omega]
   .let#[G,G',mv,eF]:=b8.backL37 (m:=n+2) X hb b7 b5 st.1 λk y R=>by
     have hk:k<2:=by have:=(Jw.mp R).1;rw[st.1]at this;exact this
     let#[y0,b6]:∃y0,[(E.a,D,L),(E.a',D',L')][k]? =↑y0:=#[_,Jh (show k<2 from hk)]
     let#[M,e,le]:=st.2 k y0 b6;let#[B,d,I,q4]:=S k y0 b6;rw[e]at R;cases R;refine#[B,d,?_,by show M.length<=n+2;omega]
     show Ny t kss J nms (if k∈is then _ else _)
     split
     .exact I.hear mb.1 mb.2.1 mb.2.2
     .exact I
    exact q _ _ _ _ mv (b8.bx.mono (by omega)) eF
theorem lN(a:At K mg "_law_bounds" aX ["_law_box_here"])(T:MW K mg tk)(g:Df P w K mg base "_law_take" q0 1 Zf):Df P w K mg base "_law_bounds" X4 2 lc:=by
 refine a.dq Nq λf _ A _ s H vs Q E e h=>?_
 .let#[b,c,rfl,hb,hc,q]:=h
  exists _,(qd (qA (i:=1) Nq.nd Z (Pr Z) (qr qM qf (qo g e.mo (qc (qv 0) (qc qf qa)))))
   (qd (qA (i:=2) Nq.nd Z (Pr Z) (qr qM (qv 1) (qx qF (q9 (qc qf (qc qf (qc qf (qc (qo g e.mo (qc (qv 0) (qc qf qa))) qa))))) (qo g e.mo (qc (qv 0) (qc qf qa))))))
   (qd (qA (i:=3) Nq.nd Z (Pr Z) (qx qF (q9 (qc (qv 1) (qc (qv 1) (qc (qr qM qf (qo g e.mo (qc (qv 0) (qc qf qa)))) qa)))) (qo g e.mo (qc (qv 0) (qc qf qa)))))
   (qe (qj (q9 (qc (qu (qc (qv 1) (qc (qv 2) qa))) (qc (qu (qc (qv 3) (qc (qr qM (qv 3) (qx qF (q9 (qc (qr Qy (qv 2) (qv 1)) (qc qf (qc qf (qc (qo g e.mo (qc (qv 0) (qc qf qa))) qa))))) (qo g e.mo (qc (qv 0) (qc qf qa))))) qa))) qa))))))))
  refine#[0,b,(4),c,Z,hb,by omega,⋯,⋯,λd H1 a6 a8 g1=>#[6,?_]]
  refine#[2,b,(9),c+1,Z,g1.bx,by omega,⋯,⋯,λr2 H2 a4 b1 g2=>#[Hu,λl1 p=>?_]]
  have u2:=HJ.upd (o:= .lst [.int 0,.int 1,.int 2,.int r2]) p
  have v:=(g1.trans g2).same u2;have n1:=zJ g2.bx p;refine#[0,b,(4),c+1+1,Z,v.bx,by omega,⋯,⋯,λr3 H3 a1 R g3=>?_]
  let#[x,hx,hm]:=ZY (xs:=[V.int 0,.int 1,.int 2,.int r2]) a1 R
  let#[z,rfl,z0,z1]:∃z:Int,x= .int z/\0<=z/\z<=8:=by
   simp only[Jg,Jt,Ju]at hm;rcases hm with rfl|rfl|rfl|rfl
   .exact#[0,by omega,by omega]
   .exact#[0,by omega,by omega]
   .exact#[0,by omega,by omega]
   .exact#[0,by omega,by omega]
  have n:=v.trans g3;exists l1,1,HQ.of (g3.kp _ _ n1 qb),hx,6
  refine#[4,b,(4),c+1+1+1,Z,n.bx,by omega,⋯,⋯,λr4 H4 a5 b2 g4=>#[6,Ht,λl2 u=>?_]]
  have u4:=HJ.upd (o:= .lst [.int (1+d),.int (1+d),.int (1+r4)]) u
  have j:=(n.trans g4).same u4;have n2:=zJ g4.bx u;refine#[0,b,(3),c+1+1+1+1,Z,j.bx,by omega,⋯,⋯,λr5 H5 S U g5=>?_]
  let#[x2,X,m]:=ZY (xs:=[V.int (1+d),.int (1+d),.int (1+r4)]) S U
  let#[o,rfl,o0,o1]:∃o:Int,x2= .int o/\1<=o/\o<=4:=by
   simp only[Jg,Jt,Ju]at m;rcases m with rfl|rfl|rfl
   .exact#[0,by omega,by omega]
   .exact#[0,by omega,by omega]
   .exact#[0,by omega,by omega]
  have t:=j.trans g5;exists l2,1,HQ.of (g5.kp _ _ n2 qb),X
  refine#[2,Ho,λF J=>?_]
  have u6:=HJ.upd (o:= .tup [.int (1+d),.int (1+d+z)]) J
  have B:=t.same u6;have D:=zJ t.bx J;have O:(HM H5 F (.tup [.int (1+d),.int (1+d+z)])) F=↑(.tup [.int (1+d),.int (1+d+z)]):=qb
  generalize HM H5 F (.tup [.int (1+d),.int (1+d+z)])=H6 at *
  refine#[47,b,(9),c+1+1+1+1+1,Z,B.bx,by omega,⋯,⋯,λr6 H7 b0 a7 g7=>#[Hu,λl3 r=>?_]]
  have u7:=HJ.upd (o:= .lst [.int (1+d+z-(1+d)),.int 0,.int 1,.int r6]) r
  have C:=(B.trans g7).same u7;have n3:=zJ g7.bx r;refine#[0,b,(4),c+1+1+1+1+1+1,Z,C.bx,by omega,⋯,⋯,λr7 H8 a3 Y g8=>?_]
  let#[x3,N,L]:=ZY (xs:=[V.int (1+d+z-(1+d)),.int 0,.int 1,.int r6]) a3 Y
  let#[y,rfl,y0,y1]:∃y:Int,x3= .int y/\0<=y/\y<=8:=by
   simp only[Jg,Jt,Ju]at L;rcases L with rfl|rfl|rfl|rfl
   .exact#[0,by omega,by omega]
   .exact#[0,by omega,by omega]
   .exact#[0,by omega,by omega]
   .exact#[0,by omega,by omega]
  have I:=C.trans g8;refine#[l3,1,HQ.of (g8.kp _ _ n3 qb),N,6,Ho,λt2 a2=>#[Ho,λl hl=>?_]]
  have W:=HJ.upd (o:= .tup [.int o,.int (o+y)]) a2
  have M:=HJ.upd (o:= .lst [-F,-t2]) hl
  have G:=(I.same W).same M;have e1:=M _ _ (W _ _ (g8.kp _ _ D (u7 _ _ (g7.kp _ _ D O))));exact q l F t2 (1+d) (1+d+z) o (o+y) _ G qb e1 (M _ _ qb) #[by omega,by omega,by omega,by omega] #[by omega,by omega,by omega,by omega] ((I.same W).fresh (hb.mono (by omega)) hl)
theorem Az(h:OJ H n x y):OJ H (n+1) x y:=by
 induction h with
 |int n i=>exact .int _ i
 |str n x=>exact .str _ x
 |non n=>exact .non _
 |tup h1 h2 hl hz _ ih=>exact .tup h1 h2 hl hz ih
 |lst h1 h2 hl hz _ ih=>exact .lst h1 h2 hl hz ih
theorem iz(h:N4 H v o):decide (v= .non)=o.isNone:=by
 cases o with
 |none=>rw[show v= .non from h];exact Jj Z
 |some r=>let#[t,a,rfl,_]:=h;exact Jn (λz=>nomatch z)
theorem oq(a:At K mg "_law_right" bV ["_law_box_here","_law_entry"])(T:MW K mg tk)(U:ND K C)(dA:Df P w K mg base "_law_take" q0 1 Zf)(dG:Df P w K mg base "_law_word" w6 1 cK)(dH:Df P w K mg base "_law_window" V5 1 (bL 30))(xF:Df P w K mg base "_law_one" X3 2 (mU 30))(yL:Df P w K mg base "_law_two" X3 3 (yp 30))(dO:Df P w K mg base "telling" W6 6 (jp K C))(yR:Df P w K mg base "agree" W6 7 (sW K C))(xI:Df P w K mg base "shows_telling" ["one","other","row"] 5 (rK K C))(yF:Df P w K mg base "opens_at" ["door","name","age"] 4 (rZ K C))(yV:∀n:Nat,n<=8->Df P w K mg base "_law_alike" W3 (n+1) (Fa n))(yP:Df P w K mg base "_law_is" W3 1 wf):Df P w K mg base "_law_right" X7 9 (kq K C):=by
 have dX:=yV 3 ⋯
 refine a.dq HU λf _ A _ s H vs Q E G h=>?_
 .let#[E,b,c,t,kss,F,nms,D,D',n,rfl,hb,hc,m,d8,h1,e9,q]:=h
  exists _,(qd (za (qv 1) (zg Z (qh (qg (i:=2) HU.nd Z (Pr Z)) (qh (qg (i:=3) HU.nd Z (Pr Z)) (qh (qg (i:=4) HU.nd Z (Pr Z)) qK)))))
   (qd (za (qv 3) (zg Z (qh (zg Z (qh (qg (i:=5) HU.nd Z (Pr Z)) (qh (qg (i:=6) HU.nd Z (SV Z)) qK))) (qh (zg Z (qh (qg (i:=7) HU.nd Z (Pr Z)) (qh (qg (i:=8) HU.nd Z (Pr Z)) qK))) qK))))
   (qd (qA (i:=9) HU.nd Z (Pr Z) (qo xF G.mo (qc (q9 (qc (qv 6) (qc (qv 8) qa))) (qc (qv 4) qa))))
   (qd (qB (qw zW (qv 9) qP (qq _)) (qe (qA (i:=9) HU.nd Z (Pr Z) (qo yL G.mo (qc (q9 (qc (qv 6) (qc (qv 8) qa))) (qc (qv 4) qa))))) qt)
   (qd (qB (Qk (zk (qo dX G.mo (qc (qo dO G.mo (qc (qv 5) (qc (qv 7) qa))) (qc (qv 9) qa))))) (qe (qj Zg)) qt)
   (qd (qB (Qk (zk (qo yP G.mo (qc (qo yR G.mo (qc (qv 5) (qc (qv 7) qa))) (qc (ze zW (qv 9) qP (qq _)) qa))))) (qe (qj Zg)) qt)
   (qd (qB (QW.pt (bm (qw Z7 (qv 9) qP (qq _)) (aM (qw ra (qo xI G.mo (qc (qv 5) (qc (qv 7) (qc (qv 9) qa)))) Zg (qq _))))) (qe (qj Zg)) qt)
   (qd (za (qu (qc (qx qF (qx qN (qv 4) qf) (qo dA G.mo (qc (qv 0) (qc (qk qT T.b_len J5 (qc (qx qN (qv 4) qf) qa)) qa)))) (qc (qo dA G.mo (qc (qv 0) (qc (qx qN (qv 4) qf) qa))) qa))) (cv Z (qh (qg (i:=10) HU.nd Z (SV Z)) (qh (qg (i:=11) HU.nd Z (SV Z)) qK))))
   (qd (qA (i:=12) HU.nd Z (Pr Z) (qo yF G.mo (qc (qv 5) (qc (qv 10) (qc (qv 11) qa)))))
   (qd (Bj (i:=13) HU.nd Z (Pr Z) (own:=["_law_count"]) (fr:=["_law_name","_law_here","_law_age"]) (js:=[10,6,11]) Z (zv (qo dH G.mo (qc (qx qN (qv 4) qf) qa))) Z (Eb Z Z Z) Z (Fh Z nofun nofun nofun Z Z Z Z Z Z Z Z Z) (λ_ _ _ _=>qg (i:=0) (show P4 (["_law_count","_law_name","_law_here","_law_age"]:Α)from by decide +kernel) Z (Pr Z) (.inr Z)) (λ_ _ _ _=>(qw zt (qo dG G.mo (qc (qv 2) (qc (qu (qc (qv 1) (qc (qv 3) (qc (qv 0) qa)))) qa))) qy (qq _))) (λ_ _ _ _=>(qv 0)))
   (qd (qA (i:=14) HU.nd Z (Pr Z) (q9 qa))
   (qd (zf JJ Z (aq (qv 12)) (zg Z (qh (qg (i:=15) HU.nd Z (Pr Z)) (qh (qg (i:=16) HU.nd Z (Pr Z)) qK)))
   (qe (zc (Q0 Il PySem.F.slot_list_extend PySem.F.type_list_extend rJ (qv 14) (qc (qI (gX Z) T.b_list Ig (qc (qI kF T.b_range SD (qc (qv 15) (qc (qr qM (qv 16) qf) qa))) qa)) qa)))))
   (qe (qj (ze (El (F9 G)) (qv 14) (qv 13) (qq _))))))))))))))))
  let#[cd,dr,tb,kt,d7,hC,I]:=m.ent;let#[L,hL,y0]:=m.e0;let#[L',g8,y1]:=m.e1;have few:=m.few;have m1:=few.m1;have m3:=few.m3;have b0:=few.b0;have b1:=few.b1;have l1:=few.l1;have l3:=few.l3;have g:=m.s0.td l3;have B:=m.s1.td l3;have k0:=m.s0.hr.ks;have xd:Ra D D':=Ra.narrow (by have:=m.s0.dn.nf;have:=m.s0.f12;omega) (by have:=m.s1.dn.nf;have:=m.s1.f12;omega)
  exists 0,E.el,0,.lst d7,7
  exists 0,E.pl,0,.lst m.pl,31,E.a.e,0,.tup y0.tu,57,E.a'.e,0,.tup y1.tu,64
  refine(show fV _ _ _ [↑(-b),↑(-E.el),↑(-cd),↑(-E.pl),↑(-dr),↑(-E.a.a.p),↑(-E.a.m),↑(-E.a'.a.p),↑(-E.a'.m),none,none,none,none,none,none,none,none] H from ?_)
  refine#[2,Ho,λol b4=>?_]
  have uo:=HJ.upd (o:= .lst [-E.a.m,-E.a'.m]) b4
  refine#[0,ol,E.a.m,E.a.kd,E.a'.m,E.a'.kd,dr,E.nl,D,D',nms,kss.length,F,Z,qb,y0.md.same uo,y1.md.same uo,uo _ _ I,uo _ _ m.nl,by omega,by omega,b0,by omega,λu ms Hd sd pm so tl=>?_]
  have Sd:=uo.trans sd;have due:=m.s0.due m.s1 l3 b0 b1 ms;refine QL (λY H'=>∃v,HJ H H'/\N4 H' v (zE D D' ms)/\Y=[↑(-b),↑(-E.el),↑(-cd),↑(-E.pl),↑(-dr),↑(-E.a.a.p),↑(-E.a.m),↑(-E.a'.a.p),↑(-E.a'.m),↑v,none,none,none,none,none,none,none]) (λD0 b5 M=>?_) ?_
  .cases ef:ms.findSome? (Qc D D' kss.length F (zd 30 F))with
   |some r=>
    rw[ef]at tl due;refine#[3,qZ (λy=>?_) (λ_=>M _ _ #[u,Sd,by rw[due];exact tl,Z])]
    rw[iz (o:=↑r) tl]at y
    cases y
   |none=>
    rw[ef]at tl due;refine#[3,qZ (λ_=>?_) (λy=>absurd (by rw[iz (o:=none) tl];rfl) y)]
    refine#[2,Ho,λe4 b2=>?_]
    have g0:=HJ.upd (o:= .lst [-E.a.m,-E.a'.m]) b2
    have S2:=Sd.trans g0;refine#[0,e4,E.a.m,E.a.kd,E.a'.m,E.a'.kd,dr,E.nl,D,D',nms,kss.length,F,Z,qb,y0.md.same S2,y1.md.same S2,g.ok,B.ok,g.dn.nf,B.dn.nf,S2 _ _ I,S2 _ _ m.nl,by omega,by omega,b0,by omega,λu2 d2 He se d6 d5 f9=>?_]
    obtain rfl:ms=d2:=hU pm so d6 d5
    exact M _ _ #[u2,S2.trans se,by rw[due];exact f9,Z]
  clear tl sd uo b4 Sd due
  rintro σ He ⟨u,Se,tl,rfl⟩
  have a1:∀{X:Α},X.Nodup->PyProof.Rows.sortedS X=true->(∀k,k∈X↔k∈D.kn.map (·.1)\/k∈D'.kn.map (·.1))->zE D D' X=zE D D' ms:=λn2 s2 m2=>As n2 (pm.nodup_iff.mpr few.nd) s2 so m2 λk hk=>pm.mem_iff.mpr (hk.elim (m.s0.sub k) (m.s1.sub k))
  have a2:∀r,zE D D' ms=↑r->r.length<=2:=λr h=>Cz h
  have sh:∀r,zE D D' ms=↑r->ZU D D' r=true/\r≠[]/\r.length<=2:=λr h=>t7 g.ok B.ok g.dn B.dn g.kn B.kn h
  generalize zE D D' ms=o at *
  refine#[2,E.a.a.p,E.a.a.ta,E.a.a.hk,E.a.a.bd,E.a.a.lg,_,D,E.a'.a.p,E.a'.a.ta,E.a'.a.hk,E.a'.a.bd,E.a'.a.lg,_,D',Z,y0.dl.dr.same Se,y1.dl.dr.same Se,g,B,xd,λv h2 Hf sf c4 a5 d9 tv=>?_]
  rw[a1 c4 d9 a5]at tv;have tl:=tl.same sf;refine#[_,Z,_,_,Z,Az (tv.eqw tl a2),λHg sg=>#[0,zh ?_]]
  have Sg:=(Se.trans sf).trans sg;refine#[2,E.a.a.p,E.a.a.ta,E.a.a.hk,E.a.a.bd,E.a.a.lg,_,D,E.a'.a.p,E.a'.a.ta,E.a'.a.hk,E.a'.a.bd,E.a'.a.lg,_,D',Z,y0.dl.dr.same Sg,y1.dl.dr.same Sg,g,B,xd,λX Hi si b8 b7 f1=>#[41,o.isNone,?_,?_]]
  .rw[a1 b8 f1 b7,iz (tl.same sg)];rfl
  refine#[0,zh ?_]
  have Si:=Sg.trans si;have R:=(tl.same sg).same si;clear tv tl sf sg si;refine Fn (λY H'=>HJ H H'/\Y=[↑(-b),↑(-E.el),↑(-cd),↑(-E.pl),↑(-dr),↑(-E.a.a.p),↑(-E.a.m),↑(-E.a'.a.p),↑(-E.a'.m),↑u,none,none,none,none,none,none,none]) (λD0 b5 M=>?_) ?_
  .refine jg (λbb H'=>bb=false/\HJ H H') (λQ' hQ=>?_) (λH' e=>nomatch e.1) (λH' e=>M _ _ #[e.2,Z])
   cases o with
   |none=>
    have R:u= .non:=R
    subst R
    exact#[3,QF Z (hQ _ _ #[Z,Si])]
   |some r=>
    let#[sr,g1,r2]:=sh r Z;have rv:=Rb.of R;let#[t0,g7,rfl,_]:=id R;refine#[3,Qp Z ?_]
    refine#[4,E.a.a.p,E.a.a.ta,E.a.a.hk,E.a.a.bd,E.a.a.lg,_,D,E.a'.a.p,E.a'.a.ta,E.a'.a.hk,E.a'.a.bd,E.a'.a.lg,_,D',_,r,Z,y0.dl.dr.same Si,y1.dl.dr.same Si,g.ok,B.ok,g.dn.nf,B.dn.nf,rv,by omega,g1,λH6 s6=>?_]
    rw[sr]
    exact#[14,hQ _ _ #[Z,Si.trans s6]]
  clear R Si Sg a2 sh a1 pm so
  rintro σ Hj ⟨Sj,rfl⟩
  have Mj:Mv [b] H Hj:=λx o _ e=>Sj x o e
  have a3:=(Sj.grc hb);exists 0,dr,1,HX.of (Sj _ _ I),Z
  have c2:=Sj _ _ m.nl;refine#[2,dr,1,HX.of (Sj _ _ I),Z,E.nl,0,.inl (HQ.of c2),b,13,a3.bx,by omega,by rw[Je];omega,by rw[Je];omega,λxi H3 h3 d0 g3=>?_]
  let#[nm,d1,g6]:∃nm,QJ (nms.map V.str) xi=↑(.str nm)/\nm∈nms:=by
   rw[Je]at d0;let#[j,rfl]:∃j:Nat,xi=(j:Int):=#[xi.toNat,by omega]
   have hj:j<nms.length:=by omega
   exact#[nms[j],Qs (by rw[Jo,Jh hj];rfl),IH hj]
  have G3:=a3.trans g3;have M3:Mv [b] H H3:=λc o h e=>G3.kp c o (λz=>h (Ji.mpr z)) e
  have N:=zL hb;exists E.nl,1,HQ.of (M3 _ _ (qQ e9.symm) m.nl),d1
  refine#[2,dr,1,HX.of (M3.tup N I),Z,b,kss.length,0,G3.bx,by omega,by omega,by omega,λd H4 h0 g5 g4=>#[Ho,λq5 e8=>?_]]
  have u5:=HJ.upd (o:= .tup [.str nm,.int d]) e8
  have G4:=(G3.trans g4).same u5;have e5:(HM H4 q5 (.tup [.str nm,.int d])) q5=↑(.tup [.str nm,.int d]):=qb
  generalize HM H4 q5 (.tup [.str nm,.int d])=H5 at *
  have M5:Mv [b] H H5:=λc o h e=>G4.kp c o (λz=>h (Ji.mpr z)) e
  exists q5,0,HX.of e5,5
  have nb:∀z∈eS E.a,z∉[b]:=λz hz w=>d8 (Ji.mp w▸Jv _ (jt hz))
  have y5:=y0.mv M5 N nb;have a8:=M5.tup N I;refine#[4,E.a.a.p,E.a.a.ta,E.a.a.hk,E.a.a.bd,E.a.a.lg,_,D,nm,d,Z,y5.dl.dr,λt1 H6 s6 pr=>?_]
  refine#[0,dr,1,HX.of (s6 _ _ a8),Z,F,Z,b0,by omega,λwl H7 s7 e7=>#[wl,Z,#[_,HQ.of e7],?_]]
  have a6:=pr.same s7;have d4:=(y5.md.same s6).same s7;have G7:=(G4.same s6).same s7;have lw:(Qq F (zd 30 F)).length=zd 30 F:=by unfold Qq;rw[Je,E1]
  have wn:zd 30 F<=41:=by unfold zd;split<;>omega
  refine tT (K:=K) (a:=wl) (xs:=Qq F (zd 30 F)) (by rw[lw,JD];omega) (λi ys Hx=>HJ H7 Hx/\ys=((((Ag i).map λi:Nat=>F+(i:Int)).filter λc=>decide (qE D nm d c="open")).map V.int)) #[HJ.refl _,Z] (λi ys Hx h=>HQ.of (h.1 _ _ e7)) ?_ ?_
  .rintro i ys Hx z hz ⟨sx,rfl⟩
   let#[rfl,g2]:=jT hz;have step:((Ag (i+1)).map λi:Nat=>F+(i:Int))=((Ag i).map λi:Nat=>F+(i:Int))++[F+(i:Int)]:=by rw[Kh,JI];rfl
   refine#[10,Ht,λpp f4=>?_]
   have up:=HJ.upd (o:= .tup [.str nm,.int d,.int (F+(i:Int))]) f4
   refine#[E.a.m,E.a.kd,pp,D,nm,d,F+(i:Int),Z,(d4.same sx).same up,qb,λH8 s8=>#[8,?_]]
   have S8:=(sx.trans up).trans s8
   by_cases ho:qE D nm d (F+(i:Int))="open"
   .rw[ho]
    refine(Jc Z).mpr #[0,S8,?_]
    rw[step,Po,JI];simp [ho]
   .refine(Jb ?_).mpr #[S8,?_]
    .exactλz=>ho (by have:=Jz z;injection this)
    .rw[step,Po,JI]
     simp [ho]
  rintro ys Hx ⟨sx,rfl⟩ l hl
  rw[lw,m.s0.opened l3 b0 b1]at *
  have so:NF (Qe D nm d):=by
   have e0:Qe D nm d=zn D d (D.kn.lookup nm):=Z
   rw[e0];cases e:D.kn.lookup nm with
   |none=>exact .nil
   |some k=>have:=g.kn nm;rw[e]at this;exact gs g.dn this d
  have ul:=HJ.upd (o:= .lst ((qC (Qe D nm d)).map V.int)) hl
  have el:(HM Hx l (.lst ((qC (Qe D nm d)).map V.int))) l=↑(.lst ((qC (Qe D nm d)).map V.int)):=qb
  have G8:=(G7.same sx).same ul;have b3:=(a6.same sx).same ul;generalize HM Hx l (.lst ((qC (Qe D nm d)).map V.int))=H8 at *
  refine#[Hh,λtl S=>?_]
  have ut:=HJ.upd (o:= .lst []) S
  have et:(HM H8 tl (.lst [])) tl=↑(.lst (([]:Β).map V.int)):=qb
  have G9:=G8.same ut;have f2:=ut _ _ el;have f5:=b3.same ut;have e6:tl≠l:=λz=>by rw[z,el]at S;cases S
  have fH:H tl=none:=G8.fresh (hb.mono (by omega)) S
  generalize HM H8 tl (.lst [])=H9 at *
  clear b3 a6 G8 ut ul S hl el;let#[as,a7,a4,has]:=f5;refine QL (λY H'=>∃O J,NM b (c+4) H H'/\H' l=↑(.lst ((qC (Qe D nm d)).map V.int))/\H' tl=↑(.lst ((qC (Qe D nm d)).map V.int))/\Y=[↑(-b),↑(-E.el),↑(-cd),↑(-E.pl),↑(-dr),↑(-E.a.a.p),↑(-E.a.m),↑(-E.a'.a.p),↑(-E.a'.m),↑u,↑(.str nm),↑(.int d),↑(-t1),↑(-l),↑(-tl),O,J]) (λD0 b5 M=>?_) ?_
  .exists 0,t1,Z,#[_,HX.of a7]
   refine gu (K:=K) (a:=t1) (xs:=as.map V.ref) (λj σ Hz=>NM b (c+4) H Hz/\Mv [tl] H9 Hz/\Hz tl=↑(.lst ((qC ((Qe D nm d).take j)).map V.int))/\∃O J,σ=[↑(-b),↑(-E.el),↑(-cd),↑(-E.pl),↑(-dr),↑(-E.a.a.p),↑(-E.a.m),↑(-E.a'.a.p),↑(-E.a'.m),↑u,↑(.str nm),↑(.int d),↑(-t1),↑(-l),↑(-tl),O,J]) #[#[G9.kp,G9.bx.mono (by omega)],λ_ _ _ e=>e,et,13] (λj σ Hz _ h=>HX.of (h.2.1.tup (NT.one et trivial) a7)) ?_ ?_
   .rintro j z σ Hz hz ⟨gz,mz,ez,O,J,rfl⟩
    rw[Jo]at hz;let#[av,b6,rfl]:=JO.mp hz;have hj:j<(Qe D nm d).length:=by rw[<- a4];exact(Jw.mp b6).1
    have ep:=Jh hj;let#[p,rp]:∃p,p=(Qe D nm d)[j]:=#[0]
    rw[<- rp]at ep;let#[p0,p1,p2,p3]:=so.bd p (Ij ep)
    have Nt:NT [tl] H9:=NT.one et trivial
    have e3:=mz.tup Nt (has j av p b6 ep);have c3:qC ((Qe D nm d).take (j+1))=qC ((Qe D nm d).take j)++((Ag (p.2+1-p.1).toNat).map λi:Nat=>p.1+(i:Int)):=by
     unfold qC;rw[Ie,ep,KO];simp
    have ln:(qC ((Qe D nm d).take j)).length<=66:=by
     have e:=so.cnt;rw[<- KJ j (Qe D nm d)]at e;unfold qC at e⊢;rw[KO,Jy]at e;omega
    exists av,0,.tup e3,5
    refine#[0,.inl #[43,HQ.of ez],34,λr c1=>#[r,p.1,(p.2+1-p.1).toNat,Z,?_,by omega,by omega,by omega,λl2 d3=>?_]]
    .rw[qb]
     congr 2
     omega
    have w1:=HJ.upd (o:= .rng p.1 (p.2+1)) c1
    have w2:=HJ.upd (o:= .lst (Qq p.1 (p.2+1-p.1).toNat)) d3
    have W:=w1.trans w2;have f3:=W _ _ ez;have c0:Qq p.1 (p.2+1-p.1).toNat=((Ag (p.2+1-p.1).toNat).map λi:Nat=>p.1+(i:Int)).map V.int:=by unfold Qq;rw[Ir];rfl
    exists tl,l2,6,f3,qb,by rw[Je,JD];have:(Qq p.1 (p.2+1-p.1).toNat).length=(p.2+1-p.1).toNat:=(by unfold Qq;rw[Je,E1]);omega
    have f0:tl≠b:=zJ hb fH
    have Mt:Mv [tl] Hz (HM (HM (HM Hz r (.rng p.1 (p.2+1))) l2 (.lst (Qq p.1 (p.2+1-p.1).toNat))) tl (.lst ((qC ((Qe D nm d).take j)).map V.int++Qq p.1 (p.2+1-p.1).toNat))):=W.mv.trans Mv.upd1
    refine#[#[λc o n e=>?_,?_],mz.trans Mt,?_,13]
    .exact Mt _ _ (qQ λz=>by rw[z,fH]at e;cases e) (gz.kp _ _ n e)
    .let#[x1,x2,x3,ex,rx]:=gz.bx
     exact#[x1,x2,x3,Mt _ _ (qQ f0.symm) ex,rx]
    .rw[qb,c3,JI,c0]
   .rintro σ Hz ⟨gz,mz,ez,O,J,rfl⟩
    rw[Je,a4,Ip]at ez;exact M _ _ #[15,gz,mz _ _ (qQ e6.symm) f2,ez,Z]
  rintro σ Hz ⟨O,J,gz,e1,e2,rfl⟩
  exists 2,tl,l,6,HQ.of e2,HQ.of e1
  rw[show(if false=true then ! decide (qC (Qe D nm d)=qC (Qe D nm d))else decide (qC (Qe D nm d)=qC (Qe D nm d)))=true from Jj Z]
  exact q _ gz
theorem Fc(F:OL K "law" "law" aG f fd)(T:MW K mg tk)(U:ND K C)(yJ:Df P w K mg base "_law_box" ["_law_script","_law_k"] 1 (wW K))(dA:Df P w K mg base "_law_take" q0 1 Zf)(yN:Df P w K mg base "_law_few" X4 2 tE)(x8:Df P w K mg base "_law_begun" W9 9 (k9 K C))(yH:Df P w K mg base "_law_deed" X7 9 (n9 K C))(x9:Df P w K mg base "_law_right" X7 9 (kq K C))(dO:Df P w K mg base "telling" W6 6 (jp K C)):NU P w K mg base be 10 f fd ["_law_script"] (mj K):=by
 refine F.dq NP (λvs H Q E h=>?_) (λcdv A e8 s H vs Q E R h=>?_)
 .let#[x,ns,rfl,_]:=h
  rfl
 .let#[y,ns,rfl,hS,g2,q]:=h
  exists _,(qd (zf JJ Z (zM Z T.b_range (qc (qr qM qf (qk qT T.b_len J5 (qc (QQ gI (qv 0) Ze (Zh qf)) qa))) qa)) (qg (i:=1) NP.nd Z (Pr Z))
   (qd (qA (i:=2) NP.nd Z (SV Z) (qo yJ R.mo (qc (qv 0) (qc (qv 1) qa))))
   (qd (cL (i:=3) NP.nd Z (Pr Z) (own:=["_law_turn"]) (fr:=["_law_box_here"]) (js:=[2]) Z (zM Z T.b_range (qc qf qa)) Z (fD Z) Z (fO Z nofun nofun nofun Z Z Z) (λ_ _ _ _=>qg (i:=0) (show P4 (["_law_turn","_law_box_here"]:Α)from by decide +kernel) Z (Pr Z) (.inr Z)) (λ_ _ _ _=>(qo x8 R.mo (qc (qv 1) (qc (qo yN R.mo (qc (qv 1) qa)) qa)))))
   (qe (zf JJ Z (zM Z T.b_range (qc qf qa)) (qg (i:=4) NP.nd Z (Pr Z))
   (qd (qA (i:=5) NP.nd Z (Pr Z) (qo dA R.mo (qc (qv 2) (qc qf qa))))
   (qd (qA (i:=6) NP.nd Z (Pr Z) (qx qF (qx qF (qv 3) (qr Qy qf (qv 5))) qf))
   (qd (qA (i:=7) NP.nd Z (Pr Z) (qo dO R.mo (qc (qx qN (qx qF (qv 6) qf) qf) (qc (qx qN (qx qF (qv 6) qf) qf) qa))))
   (qd (zc (qo yH R.mo (qc (qv 2) (qc (qx qF (qv 3) (qv 5)) qa))))
   (qe (qB (QW.pt (Qd (Qk (zk (qo x9 R.mo (qc (qv 2) (qc (qx qF (qv 3) (qv 5)) qa))))) (zP (qw (Ei R) (qo dO R.mo (qc (qx qN (qx qF (qv 6) qf) qf) (qc (qx qN (qx qF (qv 6) qf) qf) qa))) (qv 7) (qq _))))) (qe (qj Zg)) qt)))))))))))
   (qe (qj Zg)))
  refine#[2,y,0,hS,λl0 e7=>#[l0,0,.inl (HQ.of qb),14,?_,?_,?_]]
  .omega
  .rw[aY,Je]
   have:(ZI ns none ↑1).length<=ns.length:=by unfold ZI;rw[G5,LP];omega
   omega
  have u0:=HJ.upd (o:= .lst (Q4 (ns.map V.int) none ↑1)) e7
  have f9:=u0.seq hS;generalize HM H l0 (.lst (Q4 (ns.map V.int) none ↑1))=Ha at *
  refine Qv (Pv:=λk σ Hx=>HJ Ha Hx/\∃(o1 o2 o3 o4 o5 o6 o7:Μ),σ=[↑(-y),o1,o2,o3,o4,o5,o6,o7]) #[HJ.refl _,none,none,none,none,none,none,none,Z] ?_ ?_
  .rintro k σ H1 hk ⟨s1,o1,o2,o3,o4,o5,o6,o7,rfl⟩
   refine#[2,y,ns,k,by simp,s1.seq f9,λb W fb s2 d0=>?_]
   have b2:W b≠none:=λz=>by let#[_,_,_,e,_]:=d0;rw[z]at e;cases e
   exists 0,⋯,⋯
   refine aL (n:=2) ⋯ (λi ys N=>∃es:List Oh,NM b (103*i) W N/\ys=es.map (λE=> .ref E.el)/\es.length=i/\(∀(j:Nat) (E:Oh),es[j]? =↑E->(∃t kss O nms D D',MO K C N E t kss O nms D D' 6)/\b∉zN E/\b≠E.pl/\b≠E.nl/\∀z∈zN E,W z=none)/\(∀(j k:Nat) (E E':Oh),j<k->es[j]? =↑E->es[k]? =↑E'->NL E E')) #[[],NM.refl d0,9,(λj E h=>by cases h),(λj k E E' _ h=>by cases h)] ?_ ?_
   .rintro i ys N hi d7 ⟨es,G,rfl,le,a2,a1⟩
    refine#[2,b,0,G.bx,by omega,λdr nl nms d3 O H3 g3 f5 f2 a5 ok=>?_]
    have b6:nl≠b:=λz=>by let#[_,_,_,e,_]:=G.bx;rw[z,e]at a5;cases a5
    refine#[b,dr,nl,_,nms,d3,O,Z,g3.bx,by omega,f5,f2,b6,ok,λE t kss D D' H4 g4 ea a3 b8 a7=>?_]
    have b4:=g3.trans g4;have kept:∀(j:Nat) (u:Oh),es[j]? =↑u->(∃t kss O nms D D',MO K C H4 u t kss O nms D D' 6)/\b∉zN u/\b≠u.pl/\b≠u.nl/\∀z∈zN u,W z=none:=λj u h=>by
     let#[#[t1,k1,b1,n1,D1,D1',d],h1,I,h3,h4]:=a2 j u h
     exact#[#[t1,k1,b1,n1,D1,D1',d.grc G.bx b4 h1 I h3],h1,I,h3,h4]
    have p:∀z,H3 z=none->N z=none:=λz h=>by
     cases e:N z with
     |none=>rfl
     |some o=>
      have:=g3.kp z o (λw=>by let#[_,_,_,x,_]:=g3.bx;rw[w,x]at h;cases h) e
      rw[h]at this;cases this
    have a6:∀z,N z=none->W z=none:=λz h=>by
     cases e:W z with
     |none=>rfl
     |some o=>
      have:=G.kp z o (λw=>by let#[_,_,_,x,_]:=G.bx;rw[w,x]at h;cases h) e
      rw[h]at this;cases this
    have d5:∀z,H3 z=none->b≠z:=λz h w=>by let#[_,_,_,x,_]:=g3.bx;rw[<- w,x]at h;cases h
    refine#[es++[E],#[(G.trans b4).kp,(G.trans b4).bx.mono (by omega)],by simp,by simp [le],λj u h=>?_,λj k u E2 f0 h1 I=>?_]
    .by_cases hj:j<es.length
     .rw[J3 hj]at h;exact kept j u h
     .rw[J9 (by omega)]at h
      cases ej:j-es.length with
      |succ m=>rw[ej]at h;cases h
      |zero=>
       rw[ej]at h;cases h
       exact#[#[t,kss,O,nms,D,D',ea],λz=>d5 _ (a7 b z) Z,d5 _ b8,a3▸b6.symm,λz hz=>a6 z (p z (a7 z hz))]
    .by_cases hk:k<es.length
     .rw[J3 hk]at I
      rw[J3 (by omega)]at h1
      exact a1 j k u E2 f0 h1 I
     .rw[J9 (by omega)]at I
      cases ek:k-es.length with
      |succ m=>rw[ek]at I;cases I
      |zero=>
       rw[ek]at I;cases I;rw[J3 (by omega)]at h1
       let#[#[t1,k1,b1,n1,D1,D1',d],_]:=a2 j u h1;exact d.apart (λz hz=>p z (a7 z hz)) (p _ b8) (by rw[a3];exact a5)
   rintro ys N d7 ⟨es,G,rfl,le,a2,a1⟩ l hl
   have ul:=HJ.upd (o:= .lst (es.map λE=>V.ref E.el)) hl
   have M:=zJ G.bx hl;have el:(HM N l (.lst (es.map λE=>V.ref E.el))) l=↑(.lst (es.map λE=>V.ref E.el)):=qb
   have G1:=G.same ul;have e5:∀c o,c≠b->W c=↑o->(HM N l (.lst (es.map λE=>V.ref E.el))) c=↑o:=λc o n e=>G1.kp c o n e
   have L:∀(j:Nat) (E:Oh),es[j]? =↑E->(∃t kss O nms D D',MO K C (HM N l (.lst (es.map λE=>V.ref E.el))) E t kss O nms D D' 6)/\b∉zN E/\b≠E.pl/\b≠E.nl/\(∀z∈zN E,W z=none)/\l∉zN E:=λj E h=>by
    let#[#[t1,k1,b1,n1,D1,D1',d],h1,I,h3,h4]:=a2 j E h
    exact#[#[t1,k1,b1,n1,D1,D1',d.same ul],h1,I,h3,h4,λz=>by let#[o,x,_]:=d.ntF l z;rw[hl]at x;cases x]
   have f4:=G1.bx;generalize HM N l (.lst (es.map λE=>V.ref E.el))=Hz at *
   exists 0,⋯,⋯
   refine Qv (n:=6) (Pv:=λj σ Hx=>MZ Hx b (206+30*j)/\(∀c o,c≠b->W c=↑o->Hx c=↑o)/\Hx l=↑(.lst (es.map λE=>V.ref E.el))/\(∀(i:Nat) (E:Oh),es[i]? =↑E->∃t kss O nms D D',MO K C Hx E t kss O nms D D' (6+2*j))/\∃(p4 p5 p6 p7:Μ),σ=[↑(-y),↑(.int (0+(k:Int))),↑(-b),↑(-l),p4,p5,p6,p7]) #[f4.mono (by omega),e5,el,λi E h=>(L i E h).1,22] ?_ ?_
   .rintro j σ Hx hj ⟨bx,kp,c3,b0,p4,p5,p6,p7,rfl⟩
    have j6:j<6:=hj
    refine#[0,b,(2),0,bx,by omega,⋯,⋯,λr Hb r0 r1 g=>?_]
    let#[i,rfl]:∃i:Nat,r=(i:Int):=#[r.toNat,by omega]
    have i2:i<2:=by omega
    let#[E,X]:∃E,es[i]? =↑E:=#[_,Jh (show i<es.length by rw[le];exact i2)]
    let#[a,Y]:∃a,es[1-i]? =↑a:=#[_,Jh (show 1-i<es.length by rw[le];omega)]
    have ap:NL a E:=by
     match i,i2,X,Y with
     |0,_,X,Y=>exact(a1 0 1 E a ⋯ X Y).symm
     |1,_,X,Y=>exact a1 0 1 a E ⋯ Y X
    let#[t0,k0,d4,c0,D0,D0',e0]:=b0 i E X;let#[t1,k1,g6,g5,D1,D1',d]:=b0 (1-i) a Y
    let#[_,x1,x2,x3,x4,x5]:=L i E X;let#[_,y1,y2,y3,y4,y5]:=L (1-i) a Y
    have b3:=e0.grc bx g x1 x2 x3;have B:=d.grc bx g y1 y2 y3;have a4:=g.kp _ _ M c3;let#[cd,dr,tb,kt,eG,_]:=id B.ent;have f1:QJ (es.map λE=>V.ref E.el) (1-(i:Int))=↑(-a.el):=by
     rw[show(1:Int)-(i:Int)=((1-i:Nat):Int) by omega]
     exact Qs (by rw[Jo,Y];rfl)
    have c1:QJ (es.map λE=>V.ref E.el) (i:Int)=↑(-E.el):=Qs (by rw[Jo,X];rfl)
    exists 16,l,1,HQ.of a4,f1,a.el,1,HQ.of eG,Z
    let#[L1,g7,z0]:=id B.e0;let#[L1',g0,z1]:=id B.e1;have d2:=d.s0.td d.few.l3;have c2:=d.s1.td d.few.l3;have xd:Ra D1 D1':=Ra.narrow (by have:=d.s0.dn.nf;have:=d.s0.f12;omega) (by have:=d.s1.dn.nf;have:=d.s1.f12;omega)
    exists 0,a.pl,1,HQ.of B.pl,Z,a.a.e,1,HX.of z0.tu,8,a.pl,1,HQ.of B.pl,Z,a.a'.e,1,HX.of z1.tu,Z
    refine#[a.a.a.p,a.a.a.ta,a.a.a.hk,a.a.a.bd,a.a.a.lg,_,D1,a.a'.a.p,a.a'.a.ta,a.a'.a.hk,a.a'.a.bd,a.a'.a.lg,_,D1',Z,z0.dl.dr,z1.dl.dr,d2,c2,xd,λv g8 Hc y e2 b5 e9 tv=>?_]
    have a8:=(y.grc g.bx).bx;refine#[4,l,1,HQ.of (y _ _ a4),c1,E,b,_,t0,k0,d4,c0,D0,D0',0,a8,by omega,b3.same y,x1,x2,x3,by omega,λe3 F0 F0' Hd md S b7=>?_]
    have e4:=(B.same y).other (b3.same y) ap a8 y1 y2 y3 md;have d9:=tv.mvW md ((b3.same y).ntFB a8);have c4:Hd l=↑(.lst (es.map λE=>V.ref E.el)):=md _ _ (λz=>(Jg.mp z).elim M x5) (y _ _ a4)
    refine#[4,l,1,HQ.of c4,c1,E,b,_,t0,e3,d4,c0,F0,F0',0,S,by omega,b7,x1,x2,x3,λHe ge=>?_]
    refine#[0,zh ?_]
    have J:=e4.grc S ge y1 y2 y3;have e6:=d9.grc S ge;let#[L2,h0,w0]:=id J.e0;let#[L2',g1,w1]:=id J.e1;exists 0,a.pl,1,HQ.of J.pl,Z,a.a.e,1,HX.of w0.tu,8,a.pl,1,HQ.of J.pl,Z,a.a'.e,1,HX.of w1.tu,Z
    refine#[a.a.a.p,a.a.a.ta,a.a.a.hk,a.a.a.bd,a.a.a.lg,_,D1,a.a'.a.p,a.a'.a.ta,a.a'.a.hk,a.a'.a.bd,a.a'.a.lg,_,D1',Z,w0.dl.dr,w1.dl.dr,d2,c2,xd,λv2 h5 Hf sf d8 d6 f3 d1=>?_]
    rw[uN d8 e2 f3 e9 λk=>(d6 k).trans (b5 k).symm]at d1
    refine#[0,(2),⋯,d1.eqk (e6.same sf),0,zh ?_]
    refine#[(sf.grc ge.bx).bx.mono (by omega),λc o n e=>sf _ _ (ge.kp c o n (md c o (λz=>(Jg.mp z).elim n (λq=>by have:=x4 c q;rw[this]at e;cases e)) (y _ _ (g.kp c o n (kp c o n e))))),sf _ _ (ge.kp _ _ M c4),λi' E' h=>?_,22]
    have h6:i'<2:=by rw[<- le];exact(Jw.mp h).1
    by_cases z:i'=i
    .subst z
     rw[X]at h;cases h
     exact#[58,((b7.grc S ge x1 x2 x3).same sf).mono (by omega)]
    .obtain rfl:i'=1-i:=by omega
     rw[Y]at h;cases h
     exact#[58,(J.same sf).mono (by omega)]
   .rintro σ Hx ⟨bx,kp,c3,b0,p4,p5,p6,p7,rfl⟩
    refine#[λc o e=>kp c o (λz=>?_) (s2 _ _ (s1 _ _ e)),32]
    rw[z]at e
    have:=s1 _ _ e
    rw[fb]at this;cases this
  rintro σ Hx ⟨_,o1,o2,o3,o4,o5,o6,o7,rfl⟩
  exact q _
end
theorem Et{l:W.OpenLaw}{K:ι}(X:K.In h)(G:h.Ns η mg)(b1:mg "law"=↑(-fa))
  
  (o:Rm K η "Door"=↑(↑(-C)))
  (a3:W.plainGet K C Str.empty=true)
  (D:W.hasDictIn K C=true)
  (A:W.plainOver K C=true)
  (a6:SA K (-C) "__setattr__"=↑(↑(.builtin "object.__setattr__")))
  (r:W.makesIn K C=true)
  (q:TK K (-C)=true)
  (HR:SA K (-C) "table"=↑none)
  (pi:SA K (-C) "house_keys"=↑none)
  (Im:SA K (-C) "near"=↑none)
  (IN:SA K (-C) "far"=↑none)
  (Id:SA K (-C) "most"=↑none)
  (Hk:SA K (-C) "least_age"=↑none)
  (Hm:SA K (-C) "buttons"=↑none)
  (Ix:SA K (-C) "log"=↑none)
  (A0:Ac K mg "is_number" cp)
  (A1:Ac K mg "is_digit" cX)
  (A2:Ac K mg "are_digits" bt)
  (A3:Ac K mg "back_table" aT)
  (A4:Ac K mg "coded" jM)
  (A5:Ac K mg "decoded" fB)
  (A6:Ac K mg "is_name" fK)
  (A7:Ac K mg "is_code" gi)
  (A8:Ac K mg "is_press" eu)
  (A9:Ac K mg "letter_digits" ZR)
  (A10:Ac K mg "key_of" iD)
  (A11:Ac K mg "count_digits" Z1)
  (A12:Ac K mg "press_of" dv)
  (A13:Ac K mg "read_press" bw)
  (A14:Ac K mg "word_of" f7)
  (A15:Ac K mg "step_by" gp)
  (A16:Od K C "__init__" "Door.__init__" Zt)
  (A17:Od K C "is_full" "Door.is_full" Z0)
  (A18:Od K C "button_of" "Door.button_of" Zx)
  (A19:Od K C "takes_age" "Door.takes_age" Zy)
  (A20:Od K C "takes_from" "Door.takes_from" Zj)
  (A21:Od K C "plain_step" "Door.plain_step" QB)
  (A22:Od K C "answer_to" "Door.answer_to" Zw)
  (A23:Od K C "hear" "Door.hear" bU)
  (A24:Od K C "read_right" "Door.read_right" Zk)
  (A25:Od K C "learn" "Door.learn" bq)
  (A26:Od K C "forget" "Door.forget" aA)
  (A27:Od K C "turn_key" "Door.turn_key" ZM)
  (A28:Od K C "close_below" "Door.close_below" Q3)
  (A29:Od K C "known_now" "Door.known_now" ZA)
  (A30:Od K C "keys_now" "Door.keys_now" ZK)
  (A31:Od K C "closed_now" "Door.closed_now" Zn)
  (A32:Od K C "bounds_told" "Door.bounds_told" Zd)
  (A33:Ac K mg "stretches_of" ZZ)
  (A34:Ac K mg "opens_at" db)
  (A35:Ac K mg "names_known" au)
  (A36:Ac K mg "lesser_end" bD)
  (A37:Ac K mg "counts_in" ci)
  (A38:Ac K mg "least_apart" ax)
  (A39:Ac K mg "press_apart" ar)
  (A40:Ac K mg "pair_apart" bC)
  (A41:Ac K mg "telling" fG)
  (A42:Ac K mg "agree" jD)
  (A43:Ac K mg "openings" eW)
  (A44:Ac K mg "shows_telling" ZT)
  (A45:Ac K mg "_law_box" f6)
  (A46:Ac K mg "_law_take" cW)
  (A47:Ac K mg "_law_table" cq)
  (A48:Ac K mg "_law_key" gh)
  (A49:Ac K mg "_law_model" ca)
  (A50:Ac K mg "_law_word" cZ)
  (A51:Ac K mg "_law_hear" da)
  (A52:Ac K mg "_law_press" cg)
  (A53:Ac K mg "_law_learnt" bf)
  (A54:Ac K mg "_law_heard" cn)
  (A55:Ac K mg "_law_bounds" aX)
  (A56:Ac K mg "_law_window" br)
  (A57:Ac K mg "_law_one" fL)
  (A58:Ac K mg "_law_copied" aZ)
  (A59:Ac K mg "_law_two" fU)
  (A60:Ac K mg "_law_few" fR)
  (A61:Ac K mg "_law_alike" bY)
  (A62:Ac K mg "_law_begun" cj)
  (A63:Ac K mg "_law_deed" eE)
  (A64:Ac K mg "_law_is" iw)
  (A65:Ac K mg "_law_right" bV)
  {t:β}{p:Array Ν}{u:Γ}
  (a5:Rm K η "law"=↑(↑(-n)))
  (J:K.lookup n=some #[u,t,.func (TB "law" "law" (QX aG) (zR aG) (qi aG) .none j f g m a d),p])
  (H:W.codeIn K a "law"=true)
  (Q:TK K (-n)=true)
  
  (E:Rm K η "DIGITS"=↑(↑(.int 16 t0)))
  
  (L:Rm K η "KEY_PLACES"=↑(↑(.int 4 t1)))
  
  (a7:Rm K η "LONGEST_NAME"=↑(↑(.int 8 t2)))
  
  (N:Rm K η "CODE_DIGITS"=↑(↑(.int 5 t3)))
  
  (I:Rm K η "COUNTS"=↑(↑(.int 4096 t4)))
  
  (a4:Rm K η "AGES"=↑(↑(.int 8 t5)))
  (z0:Rm K η "isinstance"=↑none)
  (z1:Rm K η "bool"=↑none)
  (z2:Rm K η "int"=↑none)
  (z3:Rm K η "tuple"=↑none)
  (z4:Rm K η "all"=↑none)
  (z5:Rm K η "any"=↑none)
  (z6:Rm K η "len"=↑none)
  (z7:Rm K η "abs"=↑none)
  (z8:Rm K η "list"=↑none)
  (z9:Rm K η "enumerate"=↑none)
  (a1:Rm K η "range"=↑none)
  (a8:Rm K η "max"=↑none)
  (b0:Rm K η "min"=↑none)
  (S:Rm K η "str"=↑none)
  (a2:Rm K η "zip"=↑none)
  (F:Rm K η "ord"=↑none)
  (B:Rm K η "sum"=↑none)
  (M:Rm K η "reversed"=↑none)
  (O:Rm K η "sorted"=↑none)
  (Y:Rm K η "dict"=↑none)
  (R:Rm K η "set"=↑none):
  ∃fd:FuncData,(∀(s:Θ) (v:Γ),BindsTo s fd #[[v],[]] [("_law_script",v)])/\∀base:Ψ,K.In base->base.Ns η mg->NU l.prog w K mg base be 10 fa fd ["_law_script"] (mj K):=by
 have e:=b1.symm.trans (IR X G a5);cases e;have T:MW K mg (λi=>if i=0 then t0 else if i=1 then t1 else if i=2 then t2 else if i=3 then t3 else if i=4 then t4 else if i=5 then t5 else 0):=#[IR X G E,IR X G L,IR X G a7,IR X G N,IR X G I,IR X G a4,JZ X G z0,JZ X G z1,JZ X G z2,JZ X G z3,JZ X G z4,JZ X G z5,JZ X G z6,JZ X G z7,JZ X G z8,JZ X G z9,JZ X G a1,JZ X G a8,JZ X G b0,JZ X G S,JZ X G a2,JZ X G F,JZ X G B,JZ X G M,JZ X G O,JZ X G Y,JZ X G R]
 refine#[TB "law" "law" (QX aG) (zR aG) (qi aG) .none j f g m a d,λs v=> .of_eq Z,λbase _ _=>?_]
 have U:ND K C:=#[#[a3,D,A,a6],HR,pi,Im,IN,Id,Hk,Hm,Ix]
 have dU:=og (P:=l.prog) (w:=w) (base:=base) A0.at T
 have yG:=rh A1.at T dU
 have xS:=lX A2.at T yG
 have xV:=lY (P:=l.prog) (w:=w) (base:=base) A3.at T
 have xR:=Ab (P:=l.prog) (w:=w) (base:=base) A4.at T
 have yO:=uO A5.at T xV
 have yK:=ve (P:=l.prog) (w:=w) (base:=base) A6.at T
 have yM:=uU A7.at T xS
 have dZ:=pY A8.at T yK dU yM
 have xG:=io (P:=l.prog) (w:=w) (base:=base) A9.at T
 have xM:=vY A10.at T xG xR
 have xK:=iY (P:=l.prog) (w:=w) (base:=base) A11.at T
 have yE:=pV A12.at T xK xM xR
 have dR:=lO A13.at T xM yO
 have yI:=tS (P:=l.prog) (w:=w) (base:=base) A14.at T
 have xD:=vg A15.at T yI
 have A16:=A16.at (ps:=X1)
 have yS:=jz (P:=l.prog) (w:=w) (base:=base) A16 T U
 have yQ:=yS.mi r q (IR X G o);have yU:=(i6 (P:=l.prog) (w:=w) (base:=base) A16 T U).mi r q (IR X G o)
 have xL:=i3 (P:=l.prog) (w:=w) (base:=base) A17.at T U
 have x:=gS (P:=l.prog) (w:=w) (base:=base) A18.at T U
 have dJ:=gT (P:=l.prog) (w:=w) (base:=base) A19.at T U
 have y:=fN A20.at T U dJ
 have A21:=A21.at (ps:=X0)
 have dD:=gc A21 T U y xD;have G_Door_plain_step:=fu A21 T U y xD;have xC:=gP A22.at T U x y dD dR
 have x6:=mL A23.at T U dZ xC
 have dQ:=gk A24.at T U dZ dJ dR
 have xT:=lV A25.at T U dQ xL
 have xO:=jF (P:=l.prog) (w:=w) (base:=base) A26.at T U
 have xH:=iF (P:=l.prog) (w:=w) (base:=base) A27.at T U
 have dY:=ft (P:=l.prog) (w:=w) (base:=base) A28.at T U
 have xB:=gO (P:=l.prog) (w:=w) (base:=base) A29.at T U
 have xJ:=ia (P:=l.prog) (w:=w) (base:=base) A30.at T U
 have xA:=fE (P:=l.prog) (w:=w) (base:=base) A31.at T U
 have dE:=fv (P:=l.prog) (w:=w) (base:=base) A32.at T U
 have dI:=iW A33.at T U y dE
 have yF:=pU A34.at T U x dI
 have dM:=jQ A35.at T U xB
 have xU:=lI A36.at T U dE
 have xN:=oV (P:=l.prog) (w:=w) (base:=base) A37.at T
 have xP:=jW A38.at T xN
 have dP:=jG A39.at T U xJ dI xP
 have xX:=lJ A40.at T U xA G_Door_plain_step xU dP
 have dO:=uB A41.at T U x dM dP xX
 have yR:=AG A42.at T dO
 have xQ:=pZ A43.at T U x G_Door_plain_step dM
 have xI:=ie A44.at T xQ
 have yJ:=uF (P:=l.prog) (w:=w) (base:=base) A45.at T
 have c:=pT (P:=l.prog) (w:=w) (base:=base) A46.at T
 have yA:=oZ A47.at T c
 have xE:=uf A48.at T c
 have yB:=oB (P:=l.prog) (w:=w) (base:=base) A49.at T
 have z:=rD (P:=l.prog) (w:=w) (base:=base) A50.at T
 have dL:=pR A51.at T z
 have dW:=mN A52.at T yE
 have N_law_learnt:=jL A53.at T U xT dW
 have yD:=oE A54.at T U x6 dW dL
 have xZ:=lN A55.at T c
 have dH:=lS (P:=l.prog) (w:=w) (base:=base) A56.at T
 have xF:=vd A57.at T z dH
 have xW:=l9 (P:=l.prog) (w:=w) (base:=base) A58.at T
 have yL:=vf A59.at T z dL dH xW xF
 have yN:=uL A60.at T c
 have dX:=gn (P:=l.prog) (w:=w) (base:=base) A61.at T
 have x8:=mV A62.at T U yU c yA xE xZ yB N_law_learnt
 have yH:=pQ A63.at T U xO xH dY c xE N_law_learnt yD
 have yP:=wK (P:=l.prog) (w:=w) (base:=base) A64.at T
 have x9:=oq A65.at T U c z dH xF yL dO yR xI yF dX yP
 exact Fc (pK (st:=aG) J H Q) T U yJ c yN x8 yH x9 dO
theorem Bp{l:W.OpenLaw}{m:(Str->Ν)->Ψ->Prop}{g:Ω->Ψ->Prop}{d:DefRec}{K:Params->ι}(hn:l.most=↑63)(e:d.params.defaults=[])
  (o:∀(w:Ω) (h:Ψ),g w h->(K w.params).In h)
  (F:∀(w:Ω) (mg:HH) (i:Δ) (h:Ψ),(K w.params).In h->h.Ns η mg->mg d.name=↑(-i)->
   ∃fd:FuncData,(∀(s:Θ) (u:Γ),BindsTo s fd #[[u],[]] [("_law_script",u)])/\∀base:Ψ,(K w.params).In base->base.Ns η mg->NU l.prog w (K w.params) mg base be 10 i fd ["_law_script"] (mj (K w.params))):
  W.WalkO q c m g l.row.toRowW d [] (λf vs=>PySem.call f vs):=
 L2.CH (n:=63) (k:=10) (x:="_law_script") (CX:=λ_=>be) (sp:=λw=>mj (K w.params)) hn ⋯ e #[Z,⋯,⋯] o F (λ_ _ a p j _ r=>#[a,p,Z,r,j,λ_=>rfl]) λ_ _ _ _ _ z=>z
end Lw
structure PySem.W.Fast:Prop where(tw2019780462028003245 tw9784114359912610690 tw13718360485580703484 tw1397369445207165991 tw2065715069740431449 tw2421874856218158010 tw5035132723682631166 tw6858328963339187225 tw3102715205617530979 tw4226613247518797191 tw2777137491252320707 tw3000449720880832720 tw3272115710898747950 tw16367807367580937468 tw13262579491661641474 tw6507688798336717449 tw7093061102474084668 tw1060501190414377775 tw2511911557228194480 tw11306566892521776402 tw11601077544088312939 tw5798515741860705648 tw17350921134098364148 tw664439647586338312 tw12307384054495099626 tw13386767966915156250 tw1093138427278069888 tw7122605943158162253 tw13353834769674274050 tw1934979398716967335 tw2818204093809444395 tw6299806878977705430 tw3719941418311701198 tw6214042269672552215 tw3537220417628909509 tw12297379386436104317 tw8863402286522517134 tw10245270907719347267 tw9214531528568691876 tw14009427141127938568 tw7707903805381875409 tw2460244194733345994 tw13271854425702048653 tw11785549503993382816 tw1243485405574529018 tw2093792480355799984 tw8794001964327976856 tw7235694377025117180 tw9100963847496513574 tw8297655598043683597 tw3152683169638600116 tw13056216519875335284 tw6486194980083274356 tw3477223056032780904 tw9102090501865144307 tw12441763303621430047 tw17857173507913838830 tw470874713092622502 tw4759608930560263581 tw8677817324254571676 tw16580517903408095596 tw9433605135737476544 tw6432386814596853434 tw4529112810836748114 tw13339341757703246195 tw1169121381239423730 tw10087026649829950483 tw1000783080831102556 tw14779214521167612162 tw10147396078630723549 tw5986676062863685382 tw9608997263716577179 tw13768032362502398327 tw12288248999720088543 tw164820910065960999 tw1214229002334664476 tw13859611393944940273 tw1256748907414814018 tw2908011105201591524 tw16191646613332306445 tw4431459991388900042 tw7660160651219197623 tw8281037874708117013 tw3459649210938631397 tw15986512616471982498 tw10961374259676190463 tw8072527638068210694 tw5129591838479952046 tw10422210993469721808 tw6955911697205025568 tw3992329033240096218 tw17056153798663442135 tw9909765638394996322 tw8531297769965969210 tw7979383881632726355 tw8492536113499816131 tw5894197814958315008 tw4974402402425499609 tw5856345090636574226 tw16275662100819596520 tw14703282833195069632 tw833780825888672768 tw9812750993084405774 tw5540541230290773141 tw16064434843800909410 tw15345806011627801520 tw16752394119453251479 tw2159197274641041582 tw1069957606982061067 tw16718249428929416930 tw711193093222386662 tw17641503734403579766 tw10210436107766857928 tw5562927546790441468 tw13833203499829358697 tw4179444952206134179 tw5138395068023893354 tw15946171218544251279 tw14080319992325002729 tw17514090856958216738 tw2762708886960164233 tw12976157900572954987 tw8579196096047089571 tw13826510209351640161 tw6381530231072416535 tw16955758944763081168 tw9195483716109860060 tw18353909166180680137 tw9489386500856900693 tw10246633584768086142 tw11571256467810407736 tw7705558756443877554 tw17718791813239300470 tw12293334248822205281 tw5377570252075832643 tw70328565833887714 tw5533344178381645904 tw6631800327593943548 tw12892612159178588272 tw16293923049130646671 tw5390713318028593451 tw5521843934006149206 tw9739038670005950291 tw14442481648687122025 tw4443669769406116503 tw5737991097973526268 tw735680242312290037 tw6791092424652199148 tw13871668456700589327 tw9866695044023679796 tw16060323456114157345 tw16504330532957915324 tw12537486597835161395 tw11907086035918112825 tw9192418514720093631 tw15292218394087927591 tw7957927630061040923 tw4099063613321427134 tw3342948762664561214 tw8619709213940263388 tw708341400531358213 tw2606235777273671967 tw2013304164692554621 tw3861554369584364877 tw3911982162738971537 tw7436549670962929678 tw14600161168261582123 tw4857504625408099391 tw2065013701297208369 tw1981782281597684674 tw5873325524213021271 tw5477682071161590911 tw11966407127666662465 tw14979949285704044939 tw3519230402847087583 tw7314604641329408603 tw4722395358277339418 tw17640227392670679738 tw7345486877030070538 tw2845985932605625966 tw8053425366543519729 tw16559762603777463183 tw4340447583837195849 tw18178029624948674071 tw7483273513798201962 tw14515447315618705914 tw9110366833644416028 tw12962591302556767793 tw13995064813010955673 tw16565435220632060880 tw1013072078438632159 tw7495628217868880080 tw18202322196022138220 tw13616686944104876410 tw7228828094181412953 tw7577220689770526603 tw12375669187478349375 tw9418185551777354147 tw14365144197373184559 tw14770770762363380396 tw18337758823577541748 tw10778082957615567250 tw13939473287396277426 tw16645115272456299245 tw6786870994269473579 tw7135825892830769190 tw3219555131622551080 tw1684150987841767063 tw69129415562386422 tw17907351306570260192 tw16100740955101146893 tw1592986839122647854 tw10206204546553431302 tw7768572450133659478 tw17222373277723707407 tw12618934674192131607 tw8672713450162694200 tw11379479489376857474 tw3811204054272062831 tw2273243320574367312 tw7118208288828896402 tw15149316981828229142 tw14915593489148764446 tw5060232855071720518 tw11940724025362093414 tw7993544798649472570 tw18079967226408009923 tw15252765216639657504 tw1812682004196219689 tw14355605697569997468 tw619826228582830908 tw15643404030147567886 tw17623962092414219240 tw13963894002546606956 tw1303645570167897009 tw18379243085791556473 tw11086339160492482681 tw6820865023630773662 tw11947753449065534888 tw18341177949467263249 tw9897779289175467319 tw15189977796105371431 tw4968898028275235959 tw2429698283064432310 tw15515385525704025031 tw7607029133106717313 tw15847068898316807220 tw14891213056942688095 tw4440921450185837324 tw11926384255766839372 tw7193277181315494843 tw7630783517847951753 tw13941312690085069365 tw10832648654659951238 tw11692955757745017585 tw1789665322725613750 tw4668417498770656442 tw8643891227826802754 tw10842143344836411935 tw3471357227448722477 tw2708130338709786302 tw18050211251204409608 tw6763610595093252002 tw17524239987857823326 tw10853478398615355796 tw7092795580801023127 tw8877847487335198558 tw6063482867153822782 tw4545928785282027201 tw4072663641029990740 tw6297714095099304129 tw5372864136887463168 tw5060605724904933822 tw13546228707987499491 tw4514533357942088872 tw3128819037423979636 tw12977227408200687182 tw995857123231878449 tw12206758046722432503 tw14606883140408434550 tw17806192202392006581 tw8514544001763668253 tw7614357438485314824 tw9483849189839415 tw16978245740954831391 tw17954992945867113527 tw6577434613428572307 tw4345719636771296515 tw14753616785937496070 tw10113073560760739398 tw471527649934814536 tw18180642222552164675 tw343844208852890098 tw81654037968346685 tw13994470188531456477 tw8736579747326729738 tw5852712246925126084 tw11519322230878906510 tw16334516870209959717 tw9146832185307185464 tw8963723342369594529 tw7354596823966937591 tw12416956510411112110 tw16804108585942060474 tw9016153138277682739 tw8234002611384106870 tw17184957829386168775 tw6466003081386373809 tw7166490182557644394 tw4308741257744213598 tw13408448980878989586 tw690542626017000247 tw6680453052881189687 tw2914299776789726066 tw5999838970124566815 tw3736209938047539155 tw18038232793403037451 tw13671942185265146783 tw4802894253860473795 tw10015288697175337737:True)
open PySem PySem.W PyProof.Rows
end
set_option maxRecDepth 100000 in
set_option maxHeartbeats 0 in
theorem PySem.Challenge.cw_rollcode_k37_shared_by_turns_holds : PySem.Challenge.rw_rollcode_k37_shared_by_turns.Holds := by
 w_on;o_law;k_head;(case hw=>w_witness2)
 k_fill
 refine Lw.Bp (l:=PySem.Challenge.rw_rollcode_k37_shared_by_turns) rfl rfl (fun w h Y=>PySem.W.kIn_of Y) ?F
 case F=>
  intro w mg fa h KX G hmg;refine' Lw.Et KX G hmg ..
  all_goals first|k_is|(refine' L3.F4 KX G ..<;>first|k_is|skip)|(refine' L3.D7 ..<;>first|k_is|skip)|kernel_rfl|(refine' ⟨?_,⟨?_,?_,?_,?_,?_,?_⟩,L3.all_kits ?_ ?_ ?_ ?_ ?_ ?_ ?_ ?_,?_⟩<;>kernel_rfl)|decide|skip