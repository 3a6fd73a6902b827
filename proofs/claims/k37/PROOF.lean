import PyProof.Rows.All
import Wide.All
import OpenK.AllK
import Wide.FinOn
import Lean
import PyProof.EqAt
import PyProof.EqKinds
import PyProof.TupleCall
import PySem.Challenge.RW_rollcode_k37_shared_by_turns
import PyProof.StationsW
import PyProof.ExcClass2
import OpenK.KOwn
import PyProof.ExcBaseAll.ValueError
import PyProof.RulesAs
import PyProof.NsDelKeeps
import PyProof.Rows.Catch
import KE.KIsAll
import PyProof.ExcArgsOwn
import PyProof.Rows.CatchOwn
import PyProof.ExcAttrAll.ValueError
import PyProof.AttrMissHeap
import PyProof.Rows.SetFrom
import KE.KDictOf
import PyProof.DictWalks
import PyProof.Rows.DictUnroll
import PyProof.ExcInit
import PyProof.InstStoreFacts
import PyProof.FString
import OpenK.KCls
import PyProof.ListMulRoad
import PyProof.FactsAll.tuple_2
import PyProof.FactsAll.set
import PyProof.CollectWalk
import KE.KDictList
import PyProof.FactsAll.set_1
import PyProof.FactsAll.set_2
import PyProof.SetNew
import PyProof.MeetsSeq2
import PyProof.DictCompW
import PyProof.DictValues
import PyProof.AutoSeq1
import PyProof.FactsAll.list_3
import PyProof.DictItems
import PyProof.Rows.RegStrFacts
set_option genSizeOf false
set_option bootstrap.genMatcherCode false
set_option Elab.async false
set_option maxRecDepth 100000
set_option maxHeartbeats 4000000
set_option linter.unusedVariables false
set_option linter.all false
noncomputable section
def PySem.rpat:Nat→Lean.Term→Lean.MacroM (Lean.TSyntax `rcasesPat)
|0,_=>Lean.Macro.throwUnsupported
|n+1,t=>match t with
 |`(#[$xs,*])=>do
  let ys←xs.getElems.mapM fun x=>do `(Lean.Parser.Tactic.rcasesPatLo|$(←rpat n x):rcasesPat)
  `(rcasesPat|⟨$ys,*⟩)
 |`($x:ident)=>`(rcasesPat|$x:ident)
 |`(_)=>`(rcasesPat|_)
 |_=>Lean.Macro.throwUnsupported
local macro_rules|`(#[$xs,*])=>do
 let mut y:=#[]
 for x in xs.getElems do
  if let some n:=x.raw.isNatLit? then
   for c in ("_Z ___ZZ _Z_Z _ZZ_Z _Z_Z_Z Z__Z__ZZ __ZZ Z__Z__Z__ZZ Z_Z ZZ _Z_Z_Z_Z _Z__ZZ _Z__ZZ_Z __Z __ZZ_Z __ _Z_Z__ZZ _Z_ ___Z _Z__ZZ_Z__ZZ_Z__ZZ__ZZ _____Z _Z_Z_Z__ZZ__ZZ_Z ____Z _Z_ZZ _Z_Z_Z__ZZ_Z__ZZ_Z__ZZ__ZZ Z__ZZ _Z_Z_Z_Z__ZZ _Z__ZZ_Z__ZZ _Z_Z_Z_Z_Z_Z _Z_Z_Z__ZZ__ZZ__Z__ZZ_Z Z__Z__Z__ZZZ Z__Z _______Z _Z__ZZ_Z_Z__ZZ__ZZ__Z _Z_Z__ZZ__Z _Z_Z__ZZ_Z _Z__ZZ__ZZ ______Z _Z_Z__ZZ__Z__ZZ__Z ___ ZZZ _ZZ Z__Z__Z__Z__Z__ZZ Z_ __ZZ__ZZ _Z_Z__ZZ__Z__Z _Z_Z_Z_Z_Z__ZZ _Z_Z_Z_Z__ZZ_Z _Z__Z_Z Z__ZZ_Z Z_Z__ZZ __ZZ__Z __ZZ__ZZ__ZZ _Z_ZZ_ZZ__ZZ _Z__ZZ__ZZ_Z Z__Z_Z__ZZ_Z Z__Z_Z Z__Z__ZZ__Z ______ _Z_Z_Z__ZZ _Z_Z_Z_Z_Z __ZZ_Z__ZZ Z__Z__Z__Z Z_Z_Z__ZZ Z__Z__ZZZ Z__ZZZ_Z Z__ZZ__Z ZZZZ".splitOn " ")[n]!.toList do
    if c=='Z' then y:=y.push (←`(rfl)) else y:=y.push (←`(_))
  else y:=y.push x
 `(⟨$y,*⟩)
local macro_rules|`(-$x)=>if x.raw.isIdent||x.raw.isOfKind ``Lean.Parser.Term.proj then `(.ref $x) else Lean.Macro.throwUnsupported
local macro_rules|`(tactic|exists $xs,*)=>`(tactic|refine#[$xs,*, ?_])
local macro_rules|`(tactic|let $d:letDecl)=>do
 let d:=d.raw[0]
 let p←PySem.rpat 9 ⟨d[0]⟩
 let e:Lean.Term:=⟨d[4]⟩
 if d[2].getNumArgs==0 then `(tactic|obtain $p:rcasesPat := $e) else
 let y:Lean.Term:=⟨d[2][0][1]⟩
 `(tactic|obtain $p:rcasesPat : $y := $e)
local macro_rules|`(↑$x)=>`(some $x)
theorem Z.{u}{α:Sort u}{a:α}:a=a:=rfl
local macro_rules|`($d:declaration)=>do
 let s:=d.raw
 if s[1][2][1].isNone&&s[1][3].isNone&&s[1].isOfKind ``Lean.Parser.Command.inductive then
  let e:=(←`(inductive X(vs:Ε)(H:Hp)(Q:VK)(_:XK):Prop)).raw.rewriteBottomUp λy=>if y.isIdent then Lean.mkIdent y.getId.eraseMacroScopes else y
  return s.setArg 1 (s[1].setArg 2 (e[1][2].setArg 0 (Lean.mkNullNode (s[1][2][0].getArgs++e[1][2][0].getArgs))))
 Lean.Macro.throwUnsupported
local macro_rules|`(nofun)=>`(by decide +kernel)
local macro_rules|`(⋯)=>`(by decide)
abbrev q0:List PySem.Str:=["_law_box_here","_law_many"]
abbrev w5:List PySem.Str:=["one","first","other","second"]
abbrev w6:List PySem.Str:=["_law_own","_law_plain"]
abbrev X0:List PySem.Str:=["self","button","age","count"]
abbrev X1:List PySem.Str:=["self","table","keys","near","far","most"]
noncomputable abbrev X2:List PySem.Str:=["_law_code","_law_pair_here","_law_name","_law_told"]
abbrev X3:List PySem.Str:=["_law_owns","_law_drawn_here"]
abbrev X4:List PySem.Str:=["_law_box_here"]
abbrev X5:List PySem.Str:=["_law_code","_law_plain","_law_deed_here"]
abbrev X6:List PySem.Str:=["self","name"]
abbrev X7:List PySem.Str:=["_law_box_here","_law_entry"]
abbrev X8:List PySem.Str:=["table","key","digits"]
noncomputable abbrev X9:List PySem.Str:=["_law_code","_law_pair_here","_law_plain","_law_places"]
abbrev W0:List PySem.Str:=["button","age","count","near","far"]
abbrev W1:List PySem.Str:=["self","button","age"]
abbrev W3:List PySem.Str:=["_law_found","_law_due"]
abbrev W4:List PySem.Str:=["thing"]
abbrev W5:List PySem.Str:=["table","key","name","age","count","deed"]
abbrev W6:List PySem.Str:=["one","other"]
abbrev W7:List PySem.Str:=["_law_near","_law_far","_law_keys"]
abbrev W8:List PySem.Str:=["self"]
abbrev W9:List PySem.Str:=["_law_box_here","_law_drawn_here"]
abbrev V0:List PySem.Str:=["table","key","press"]
abbrev V1:List PySem.Str:=["door","button","age"]
abbrev V2:List PySem.Str:=["self","age"]
abbrev V3:List PySem.Str:=["table","key","name"]
abbrev V4:List PySem.Str:=["self","thing"]
abbrev V5:List PySem.Str:=["_law_base"]
open PySem.W (Frag)
set_option compiler.extract_closed false
open Or renaming inl->Pr,inr->SV
open Sum renaming inr->Pt,inl->TR
open Decidable renaming byContradiction->Pu,not_not->SX
open PySem.SetTable renaming sizeAbove->Px,bits->P6,below->P7,fits->R6,eraseAt->R7,grown->R8,turns->SH,laid->SM,fill->SN,leap->SZ,layClean->Sy
open True renaming intro->P5
open PySem.SetTable.layClean renaming free->P8
open List.Perm renaming refl->RP
open PySem.Str renaming ofString->RS
open PySem.Around renaming under_plainId->R3
open PyProof.Rows.F renaming plain_set_update_loop->R4,entry_set_update_loop->SL
open PySem.MeetsSeq2 renaming wpAny_forIn_array->R9
open Option.some renaming injEq->SG
open PySem.Data renaming cell->SJ,fields->Sf
open PUnit renaming unit->SO
open List.Pairwise renaming nil->SU
open PySem.SetTable.below renaming go->SW
open ForInStep renaming yield->Sk
open PySem.SeqAt.EqAt renaming same->Sn,int_int->Ss,str_str->TL,of_refs->TM
open PySem.Code renaming quiet_builtin->Sv
open PySem.SeqAt.RcAt renaming tuples->Sx
open Array renaming getElem?_toList->KI,getD->KU,size_map->Kl,getElem?_eq_none->K1,isEmpty_iff_size_eq_zero->K4,toList->OA,getElem_toList->Ox,toList_push->PB,toList_extract->Pb
open PySem renaming wpAny_bind->Ja,wpAny_pure->Jd,wpAny_mono->Jx,sizeLine_eq->JD,wpAny_holding->JM,wpAny_field->JX,wpAny_call_entry->JY,boot_len->J5,wpAny_newObj_type->J6,wpAny_standAt->Ib,wpAny_rule->Ih,wpAny_of_eq->Iy,wpAny_setField->II,wpAny_attempt->IQ,wpAny_truthy_bool->IT,wpAny_seqItems->IW,wpAny_isInstance->IX,codeAny_builtin->I0,wpAny_pyIter_tuple->Ld,isSubtype_type->Li,codeAny_mono->Lm,call_meets->Lo,wpAny_specialOf->Ls,wpAny_pyIter_list->LA,mem_of_lookup->LB,wpAny_typeOf->LC,wpAny_loadPart'->LG,typeLookup_type->LI,builtinLookup_eq_fast->LJ,wpAny_passesOwn->LO,wpAny_pyIter_enum->LQ,isSubtype_stop->LU,wpAny_setField_rec->LV,tupleKind_room_in1->LW,wpAny_Call_Name_kw->L4,wpAny_pyIter_zip->Ml,wpAny_pyIter_rangeiter->Mq,Value->Γ,Addr->Δ,Shared->Θ,Program->Ξ,Expr->Φ,Heap->Ψ,World->Ω,Builtin->γ,Stmt->δ,wpAny->ε,sizeLine->ζ,mainGlobals->η,starEach->θ,compareOp->Py,Around->Rj,KeyKind->SC,intKind->TF,strKind->TH
open List renaming length_map->Je,mem_cons->Jg,getElem?_eq_getElem->Jh,mem_singleton->Ji,getElem?_map->Jo,mem_cons_self->Jr,size_toArray->Js,not_mem_nil->Jt,mem_cons_of_mem->Jv,getElem?_eq_some_iff->Jw,length_append->Jy,mem_map->JC,getD_eq_getElem?_getD->JG,map_append->JI,mem_append->JP,mem_append_right->JQ,length_cons->JR,map_cons->JS,mem_range->JT,filterMap_cons->JW,getElem?_append_left->J3,any_cons->J4,getElem?_append_right->J9,length_take->G5,append_nil->Ic,take_add_one->Ie,mem_of_getElem?->Ij,take_length->Ip,map_map->Ir,lookup_cons->Iv,nodup_cons->IG,getElem_mem->IH,length_singleton->IM,append_assoc->IU,all_eq_true->IV,length_set->Lg,nodup_append->Lj,map_nil->Ln,map_congr_left->Lr,find?_cons->Lx,replicate_succ->LF,nodup_nil->LK,mem_filter->LL,mem_append_left->LN,length_drop->LP,getElem?_range->LX,getElem?_set_self->LY,getElem?_set_ne->LZ,flatten_cons->L7,any_eq_true->Mm,getElem?_append->Mn,getElem?_eq_none->MA,toArray->AA,range->Ag,replicate->Dj,length_range->E1,mem_iff_getElem->HB,filterMap_nil->KA,any_nil->KB,findSome?_cons->KC,ext_getElem->KD,flatMap_cons->KF,exists_of_findSome?_eq_some->KG,lookup->KH,take_append_drop->KJ,flatMap_nil->KL,getElem_toArray->KM,pairwise_cons->KN,flatMap_append->KO,eraseIdx_eq_take_drop_succ->KP,filter_sublist->KQ,eq_nil_of_length_eq_zero->KS,filterMap_map->KY,foldl_cons->KZ,filter_cons->Kd,getElem?_set->Kf,pairwise_iff_getElem->Kg,range_succ->Kh,getElem?_toArray->Kj,of_mem_zip->Ko,foldl->Kp,nil_append->Kq,map_take->Kt,drop_eq_getElem_cons->Ku,drop_zero->Kv,perm_middle->Ky,length_eq_zero_iff->Kz,pairwise_append->K0,length_eraseIdx_of_lt->K5,count_cons->K6,findSome?_eq_none_iff->K8,mem_filterMap->OB,any_eq_false->OC,getElem?_replicate->OD,length_replicate->OE,range'_succ->ON,range_eq_range'->OO,map_drop->OQ,zipIdx_cons->OR,zipIdx_nil->OS,forIn_cons->OT,forIn_nil->OU,cons_append->OY,take_of_length_le->Ol,lookup_cons_self->Os,length_nil->Ot,le_antisymm->Ou,ext_getElem?->Ov,pairwise_lt_range->Oz,findIdx?->O0,findIdx?_eq_some_iff_getElem->O1,findIdx?_eq_none_iff->O8,length_eraseIdx->PF,find?_eq_none->PY,getElem_cons_drop->PZ,filterMap_append->Pa,eraseIdx_sublist->Pc,erase_of_not_mem->Pd,mem_erase_of_ne->Pe,getElem_take->Pg,perm_ext_iff_of_nodup->Ph,replicate_succ'->Pk,length_dropLast->Pm,filter_append->Po,Nodup->P4
open Nat renaming le_refl->Jf,ne_of_lt->Jm,zero_le->JB,le_trans->JN,lt_of_lt_of_le->JV,ne_of_gt->J1,lt_succ_self->G0,lt_irrefl->Ia,lt_succ_of_lt->Ik,le_succ->IL,le_add_right->IZ,le_of_lt->LM,le_of_eq->L0,not_lt_zero->I1,lt_of_le_of_lt->Ka,lt_trans->Ke,mod_lt->Ki,zero_add->Kk,le_of_not_lt->Kr,succ_pos->K2,min_le_right->OF,succ_le_succ->OH,sub_one_lt_of_lt->OM,lt_of_succ_lt->OP,le_antisymm->OW,pos_of_ne_zero->Oi,add_right_comm->PM,div_div_eq_div_mul->PX
open PySem.Heap renaming get?_push_of_some->Jk,lt_size->Jl,get?_push_size->Jp,size_push->JU,get?_update_self->Lf,get?_update_other->LD
open PyProof.Rows renaming boot_isinstance->JA,boot_tuple->JL,boot_list->Ig,callWith_type1->Le,boot_int->Lk,boot_bool->Ll,boot_str->Lz,slot_tuple_getitem->L6,boot_all->Mo,boot_max->Mp,boot_min->RL,boot_sorted->Rp,seqObj->R5,boot_range->SD,boot_set->SF
open Bool renaming and_eq_true->JF,false_ne_true->JK,false_and->Ii,eq_iff_iff->Iu,true_and->Iz,eq_false_iff->Ly,not_eq_true'->MD,false_eq_true->D2,not_true->KW,or_false->PL,not_eq_true->Pf
open Option renaming map_eq_some_iff->JO,getD_some->IP,isSome_iff_exists->L5,isSome_map->MB,map->K3,ne_none_iff_exists'->K9,getD_none->OG,toList_some->OV,map_map->PH,map_some->PJ,map_eq_none_iff->Pj
open PySem.W renaming mg_none_of->JZ,kia_one->J8,mg_of->IR,kia_tup->LH,Frag->ι,nsIn->Rm,findIn->SA,emptyDict->SE,findIn->SQ,keepIn->SR,fnOf->TB,instObj->TJ,keepIn->TK,kitx_list->TQ
open Int renaming le_refl->GZ,toNat_natCast->Iw,emod_nonneg->La,emod_lt_of_pos->Lc,zero_add->Kc,lt_trans->K7,toNat_of_nonneg->OX
open PySem.F renaming plainAttrs_list->Il,slot_list_append->IJ,type_list_append->IK,slot_zip_next->Lh,slot_tuple_iterator_next->L8,entry_zip_next->Mc,args_zip_next_1->Me,slot_tuple_add->Mr,entry_tuple_add->Ms,args_tuple_add_2->Mu,slot_dict_get->MC,args_tuple_iterator_next_1->Sh,entry_tuple_iterator_next->Sm
open PySem.Obj renaming data_mapFields->Lq,isFreed_of_fields->L9,mapSeq->SY,mapFields->TC,putSet->TN
open PySem.Calls renaming callWith_builtin->Mw,evalArgs_plain->Mz,call_function_entry->SK,spliced_cons->So,spliced_nil->Sw
namespace L0
abbrev _root_.Α:=List PySem.Str
abbrev _root_.Β:=List Int
abbrev _root_.Ζ:=List Γ
abbrev _root_.Η:=List Δ
abbrev _root_.Ι:=List Φ
abbrev _root_.Κ:=List Nat
abbrev _root_.Λ:=Option Int
abbrev _root_.Ν:=Option Γ
abbrev _root_.Τ:=List PySem.Env
abbrev _root_.Χ:=Option Nat
abbrev _root_.β:=Option Δ
abbrev _root_.μ:=Option Φ
abbrev _root_.ν:=List Bool
abbrev _root_.ξ:=List PySem.Keyword
abbrev Jb:=@if_neg
abbrev Jc:=@if_pos
abbrev Jj:=@decide_eq_true
abbrev Jn:=@decide_eq_false
abbrev Ju:=@or_false
abbrev Jz:=@of_decide_eq_true
abbrev JH:=@if_false
abbrev J0:=@congrArg
abbrev J7:=@beq_iff_eq
abbrev Io:=@if_true
abbrev Iq:=@beq_self_eq_true
abbrev IS:=@beq_eq_false_iff_ne
abbrev Lv:=@beq_false_of_ne
abbrev LS:=@decide_eq_true_iff
abbrev Jq:=@Array.length_toList
abbrev JE:=@Option.some.inj
abbrev JJ:=@PySem.PassesOwn.never
abbrev G6:=@PySem.Heap.SameBut.update
abbrev Lu:=@PySem.Around.in1_units
end L0
open L0
namespace L0
open PySem
abbrev HG:=Γ->Θ->Prop
abbrev HH:=Str->Ν
abbrev HI:=List (Δ×Obj)
end L0
open L0
namespace L2
open PySem PySem.Spec PyProof.Rows
abbrev qJ:=Sum Int Str
def gF:qJ->Γ->Bool
 | .inl k,v=>Γ.isInt k v
 | .inr x,v=>Γ.isStrOf x v
def Gv(w:Ω):qJ->Int
 | .inl k=>hashInt k
 | .inr x=>hashStr w x
def zU:∀{k:qJ} {v:Γ},gF k v=true->(∃i t,k=TR i/\v=Γ.int i t)\/(∃x t,k=Pt x/\v=Γ.str x t)
 | .inl i,v,h=>by
  let#[t,e]:=Γ.isInt_shape (k:=i) (v:=v) h
  exact .inl #[i,t,Z,e]
 | .inr x,v,h=>by
  let#[t,e]:=Γ.isStrOf_shape (x:=x) (v:=v) h
  exact .inr #[x,t,Z,e]
def wC(i:Int)(t:Tok):gF (.inl i) (.int i t)=true:=by simp [gF,Γ.isInt]
def ya(x:Str)(t:Tok):gF (.inr x) (.str x t)=true:=by simp [gF,Γ.isStrOf]
def Fu(a b:Int):decide ((TR a:qJ)=TR b)=(a==b):=by
 by_cases e:a=b
 .subst e;simp
 .have h:¬(TR a:qJ)=TR b:=λq=>e (Sum.inl.inj q)
  rw[Jn h]
  exact(IS.mpr e).symm
def DU(a b:Str):decide ((Pt a:qJ)=Pt b)=decide (a=b):=by
 by_cases e:a=b
 .subst e;simp
 .have h:¬(Pt a:qJ)=Pt b:=λq=>e (Sum.inr.inj q)
  rw[Jn h,Jn e]
def EE(a:Int)(b:Str):decide ((TR a:qJ)=Pt b)=false:=Jn (λq=>nomatch q)
def FA(a:Str)(b:Int):decide ((Pt a:qJ)=TR b)=false:=Jn (λq=>nomatch q)
noncomputable def qS(prog:Ξ)(w:Ω):SC prog w qJ where
 is:=gF
 hash:=Gv w
 inj:=λv a b g d=>by
  rcases zU g with⟨i,t,rfl,rfl⟩|⟨x,t,rfl,rfl⟩
  .rcases zU d with⟨j,u,rfl,e⟩|⟨y,u,rfl,e⟩
   .injection e with e1 _;rw[e1]
   .exact nomatch e
  .rcases zU d with⟨j,u,rfl,e⟩|⟨y,u,rfl,e⟩
   .exact nomatch e
   .injection e with e1 _;rw[e1]
 byValue:=λk v h=>by
  rcases zU h with⟨i,t,rfl,rfl⟩|⟨x,t,rfl,rfl⟩<;>rfl
 pyHash:=λc h=>by
  rcases zU c with⟨i,t,rfl,rfl⟩|⟨x,t,rfl,rfl⟩
  .exact wpAny_pyHash_int h
  .exact wpAny_pyHash_str h
 eqBool:=λf c h=>by
  rcases zU f with⟨i,t,rfl,rfl⟩|⟨x,t,rfl,rfl⟩
  .rcases zU c with⟨j,u,rfl,rfl⟩|⟨y,u,rfl,rfl⟩
   .rw[Fu]at h;exact wpAny_eqBool_int h
   .rw[EE]at h;exact SeqAt.EqAt.int_str i t y u _ _ _ _ h
  .rcases zU c with⟨j,u,rfl,rfl⟩|⟨y,u,rfl,rfl⟩
   .rw[FA]at h;exact SeqAt.EqAt.str_int x t j u _ _ _ _ h
   .rw[DU]at h;exact wpAny_eqBool_str h
 «strs»:=λk x t v h=>by
  rcases zU h with⟨i,u,rfl,e⟩|⟨y,u,rfl,e⟩
  .exact nomatch e
  .injection e with e1 _
   subst e1;cases v<;>rfl
def rf(prog:Ξ)(w:Ω)(i:Int)(t:Tok):(qS prog w).is (.inl i) (.int i t)=true:=wC i t
def rJ(prog:Ξ)(w:Ω)(x:Str)(t:Tok):(qS prog w).is (.inr x) (.str x t)=true:=ya x t
inductive V where
 |non|bl (b:Bool)|int (i:Int)|str (x:Str)|byt (b:Array UInt8)|flt (b:UInt64)|ref (a:Δ)|ty (n:String)
 deriving DecidableEq
abbrev _root_.Μ:=Option V
abbrev _root_.Ε:=List V
noncomputable def HV:V->Γ->Prop
 | .non,u=>u=Γ.none
 | .bl b,u=>u=Γ.bool b
 | .int i,u=>∃t,u=Γ.int i t
 | .str x,u=>∃t,u=Γ.str x t
 | .byt b,u=>∃t,u=Γ.bytes b t
 | .flt b,u=>∃t,u=Γ.float b t
 | .ref a,u=>u=Γ.ref a
 | .ty n,u=>u=Γ.type n
abbrev HS:Ε->Ζ->Prop:=Paired HV
theorem HS.length(r:HS xs us):xs.length=us.length:=Paired.length r
theorem HS.get:∀{xs:Ε} {us:Ζ} {i:Nat} {x:V},HS xs us->xs[i]? =↑x->∃u,us[i]? =↑u/\HV x u
 |_,_,_,_,.nil,e=>by simp at e
 |_,_,0,_,.cons r _,e=>by simp at e;subst e;exact#[0,r]
 |_,_,i+1,x,.cons _ t,e=>by
  let#[u,h1,a]:=HS.get (i:=i) (x:=x) t (by simpa using e)
  exact#[u,by simpa using h1,a]
theorem HS.set{x:V}{u:Γ}(r:HV x u):∀{xs:Ε} {us:Ζ} (i:Nat),HS xs us->HS (xs.set i x) (us.set i u)
 |_,_,_,.nil=> .nil
 |_,_,0,.cons _ t=> .cons r t
 |_,_,i+1,.cons q t=> .cons q (HS.set r i t)
theorem HS.append:∀{xs ys:Ε} {us a:Ζ},HS xs us->HS ys a->HS (xs++ys) (us++a)
 |_,_,_,_,.nil,s=>s
 |_,_,_,_,.cons r t,s=> .cons r (HS.append t s)
theorem HS.take:∀{xs:Ε} {us:Ζ} (n:Nat),HS xs us->HS (xs.take n) (us.take n)
 |_,_,0,_=> .nil
 |_,_,_+1,.nil=> .nil
 |_,_,n+1,.cons r t=> .cons r (HS.take n t)
theorem HS.drop:∀{xs:Ε} {us:Ζ} (n:Nat),HS xs us->HS (xs.drop n) (us.drop n)
 |_,_,0,r=>r
 |_,_,_+1,.nil=> .nil
 |_,_,n+1,.cons _ t=>HS.drop n t
def NK:Μ->Ν->Prop
 |some v,↑u=>HV v u
 |none,none=>True
 |_,_=>False
def KV{κ:Type}:List (κ×V)->List (κ×Γ)->Prop:=Paired λ(p:κ×V) (q:κ×Γ)=>p.1=q.1/\HV p.2 q.2
def kV:qJ->V
 | .inl i=> .int i
 | .inr x=> .str x
inductive HO where
 |lst (xs:Ε)
 |tup (xs:Ε)
 |dK (kvs:List (qJ×V))|dT (kvs:List (List qJ×V))
 |set (S:Int->Bool)(n:Nat)
 |ins (C dx:Δ)(fs:List (Str×V))
 |own (x:Δ)
 |xd (fs:List (Str×V))
 |met (f x:Δ)
 |rng (lo hi:Int)
 |frz (o:Obj)(u:HO)
 |tbl (ps:Array Γ)
 |ext (φ:Ψ->Prop)
abbrev Hp:=Δ->Option HO
def HM(H:Hp)(a:Δ)(o:HO):Hp:=λb=>if b=a then ↑o else H b
def qb:HM H a o a=↑o:=by unfold HM;rw[Jc Z]
def qp{a b:Δ}(h:b≠a):HM H a o b=H b:=by unfold HM;rw[Jb h]
def zO{H:Hp}{b:Δ}{o u:HO}(h:H a=↑o)(h':H b=↑u)(d:o≠u):a≠b:=by
 intro e;subst e;rw[h]at h';exact d (JE h')
def qm{H:Hp}{b:Δ}{o:HO}(h:H a=↑o)(h':H b=none):a≠b:=by
 intro e;subst e;rw[h]at h';cases h'
section
variable(P:Ξ)(w:Ω)
noncomputable def ML(H:Hp)(h:Ψ)(a:Δ):HO->Prop
 | .lst xs=>xs.length<=ζ/\∃(its:Ζ) (n:Nat),HS xs its/\h.get? a=some {cls:= .type "list",data:= .seq its.toArray n}
 | .tup xs=>xs.length<=ζ/\∃its:Ζ,HS xs its/\IsTup h a its.toArray
 | .dK kvs=>kvs.length<=ζ/\(a==sysModules)=false/\∃vs,KV kvs vs/\h.DictOf (qS P w) a vs
 | .dT kvs=>kvs.length<=ζ/\(a==sysModules)=false/\∃xs:List (List qJ×Δ×Γ),
   Paired (λ(p:List qJ×V) (q:List qJ×Δ×Γ)=>p.1=q.1/\H q.2.1=↑(.tup (p.1.map kV))/\HV p.2 q.2.2) kvs xs/\
   ∃o es ep,h.get? a=↑o/\o.ExactDict/\o.data= .dict es ep/\es.toList=xs.map (entryOfKey (tupleKind (qS P w)))/\(xs.map (·.1)).Nodup
 | .set S n=>h.SetOf (intKind P w) a S n
 | .ins C dx fs=>H dx=↑(.own a)/\fs.length<=1000/\dx≠a/\h.get? a=↑(PySem.W.instObj C dx)/\
   ∃mA,h.Ns1 dx mA/\(∀f,NK (fs.lookup f) (mA f))/\PySem.Within mA (fs.map (·.1))
 | .own _=>∃o,h.get? a=↑o
 | .xd fs=>∃mA,h.Ns1 a mA/\∀f,NK (fs.lookup f) (mA f)
 | .rng lo hi=>∃t u v,h.get? a=some {cls:= .type "range",data:= .fields (AA [.int lo t,.int hi u,.int 1 v])}
 | .frz o u=>h.get? a=↑o/\ML H h a u
 | .tbl ps=>h.get? a=some {cls:= .none,data:= .fields ps}
 | .met f x=>h.get? a=↑(PySem.W.methodObj (-f) (-x))
 | .ext φ=>φ h/\(∃o,h.get? a=↑o)/\∀h1 c:Ψ,φ h1->(∀o,h1.get? a=↑o->c.get? a=↑o)->φ c
def NW(H:Hp)(h:Ψ):Prop:=∀a o,H a=↑o->ML P w H h a o
end
theorem ML.lt(x:ML P w H h a o):a<h.objs.size:=by
 cases o with
 |lst xs=>let#[_,_,_,_,e]:=x;exact Jl e
 |tup xs=>let#[_,_,_,p]:=x;exact p.lt
 |dK kvs=>let#[_,_,_,_,o,_,_,e,_]:=x;exact Jl e
 |dT kvs=>let#[_,_,_,_,o,_,_,e,_]:=x;exact Jl e
 |set S n=>let#[o,_,_,_,e,_]:=x;exact Jl e
 |ins C dx fs=>let#[_,_,_,e,_]:=x;exact Jl e
 |own y=>let#[_,e]:=x;exact Jl e
 |xd fs=>let#[_,#[_,_,_,e,_],_]:=x;exact Jl e
 |rng lo hi=>let#[_,_,_,e]:=x;exact Jl e
 |frz ob u=>let#[e,_]:=x;exact Jl e
 |tbl ps=>exact Jl (show h.get? a=↑_ from x)
 |met f y=>exact Jl (show h.get? a=↑_ from x)
 |ext φ=>let#[_,#[_,e],_]:=x;exact Jl e
theorem Paired.mapP{d c:Type}{F G:d->c->Prop}:∀{l₁:List d} {l₂:List c},Paired F l₁ l₂->(∀a b,F a b->G a b)->Paired G l₁ l₂
 |_,_,.nil,_=> .nil
 |_,_,.cons r t,f=> .cons (f _ _ r) (Paired.mapP t f)
def ML.stay(x:ML P w H h a o)(k:∀b u,(b=a\/H b=↑(.own a))->h.get? b=↑u->h'.get? b=↑u)
  (ho:∀b,H b=↑(.own a)->H' b=↑(.own a))(j:∀b xs,H b=↑(.tup xs)->H' b=↑(.tup xs)):ML P w H' h' a o:=by
 induction o with
 |lst xs=>let#[z,i,n,r,e]:=x;exact#[z,i,n,r,k _ _ (.inl Z) e]
 |tup xs=>let#[z,i,r,g,e,c]:=x;exact#[z,i,r,g,k _ _ (.inl Z) e,c]
 |dK kvs=>let#[z,y,vs,r,g,es,ep,e,c]:=x;exact#[z,y,vs,r,g,es,ep,k _ _ (.inl Z) e,c]
 |dT kvs=>
  let#[z,y,xs,r,g,es,ep,e,c]:=x
  exact#[z,y,xs,Paired.mapP r λp q z=>#[z.1,j _ _ z.2.1,z.2.2],g,es,ep,k _ _ (.inl Z) e,c]
 |set S n=>let#[g,es,ep,t,e,c]:=x;exact#[g,es,ep,t,k _ _ (.inl Z) e,c]
 |ins C dx fs=>
  let#[d,z,ne,e,mA,#[od,es,ep,l,c],r]:=x
  exact#[ho _ d,z,ne,k _ _ (.inl Z) e,mA,#[od,es,ep,k _ _ (.inr d) l,c],r]
 |own y=>let#[g,e]:=x;exact#[g,k _ _ (.inl Z) e]
 |xd fs=>let#[mA,#[od,es,ep,e,c],r]:=x;exact#[mA,#[od,es,ep,k _ _ (.inl Z) e,c],r]
 |rng lo hi=>let#[t,u,v,e]:=x;exact#[t,u,v,k _ _ (.inl Z) e]
 |frz g u ih=>let#[e,q]:=x;exact#[k _ _ (.inl Z) e,ih q]
 |tbl ps=>
  have e:h.get? a=some {cls:= .none,data:= .fields ps}:=x
  show h'.get? a=some {cls:= .none,data:= .fields ps}
  exact k a _ (.inl Z) e
 |met f y=>
  have e:h.get? a=↑(W.methodObj (-f) (-y)):=x
  show h'.get? a=↑(W.methodObj (-f) (-y))
  exact k a _ (.inl Z) e
 |ext φ=>let#[p,#[o,e],st]:=x;exact#[st _ _ p λo q=>k _ _ (.inl Z) q,#[o,k _ _ (.inl Z) e],st]
theorem NW.lt(x:NW P w H h)(e:H a=↑o):a<h.objs.size:=(x a o e).lt
def NW.fresh(x:NW P w H h)(e:h.objs.size<=a):H a=none:=by
 cases q:H a with
 |none=>rfl
 |some u=>exact absurd (JV (x.lt q) e) (Ia _)
def NW.kept(x:NW P w H h)(k:∀b u,h.get? b=↑u->h'.get? b=↑u):NW P w H h':=λa o e=>
 (x a o e).stay (λb u _ q=>k b u q) (λ_ q=>q) λ_ _ q=>q
def NW.laid(x:NW P w H h)(k:∀b u,h.get? b=↑u->h'.get? b=↑u)(hp:h.objs.size<=a)(d:ML P w (HM H a o) h' a o):NW P w (HM H a o) h':=λb u e=>by
 have g:=x.fresh hp
 by_cases f:b=a
 .subst f;rw[qb]at e;cases e;exact d
 .rw[qp f]at e
  exact(x b u e).stay (λc v _ q=>k c v q) (λc q=>by rw[qp (qm q g)];exact q) λc xs q=>by rw[qp (qm q g)];exact q
def Rd(H:Hp)(a:Δ)(u:HO):Prop:=H a=↑u\/∃o,H a=↑(.frz o u)
def Rd.of{H:Hp}{u:HO}(h:H a=↑u):Rd H a u:= .inl h
def Rd.ok(r:Rd H a u)(x:NW P w H h):ML P w H h a u:=by
 rcases r with r|⟨o,r⟩
 .exact x a u r
 .let#[_,q]:=x a _ r
  exact q
noncomputable def yi:Option HO->Prop
 |some (.lst _)=>True
 |some (.dK _)=>True
 |some (.dT _)=>True
 |some (.set _ _)=>True
 |some (.ins _ _ _)=>True
 |some (.ext _)=>True
 |_=>False
def NW.write(ok:NW P w H h)(i:yi (H x))(he:e=x\/H e=↑(.own x))(k:∀b u,b≠e->h.get? b=↑u->h'.get? b=↑u)(l:∃u,h'.get? e=↑u)
  (m:ML P w (HM H x o') h' x o'):NW P w (HM H x o') h':=λb u q=>by
 have d:∀c y,H c=↑(.own y)->c≠x:=λc y r z=>by subst z;rw[r]at i;exact i
 have f:∀c xs,H c=↑(.tup xs)->c≠x:=λc xs r z=>by subst z;rw[r]at i;exact i
 by_cases j:b=x
 .subst j;rw[qb]at q;cases q;exact m
 .rw[qp j]at q
  by_cases a:b=e
  .have n:H b=↑(.own x):=by
    rcases he with z|z
    .exact absurd (a.trans z) j
    .rw[a];exact z
   rw[q]at n;cases n
   let#[v,o]:=l
   exact#[v,by rw[a];exact o]
  .refine(ok b u q).stay (λc v g r=>k c v ?_ r) (λc r=>by rw[qp (d c b r)];exact r) λc xs r=>by rw[qp (f c xs r)];exact r
   rcases g with rfl|g
   .exact a
   .rintro rfl
    rcases he with z|z
    .exact d c b g z
    .rw[g]at z;cases z;exact j Z
structure Un(fs ex:Η)(H H':Hp)(h h':Ψ):Prop where
 keep:∀b o,h.get? b=↑o->H b=none->b∉fs->b∉ex->h'.get? b=↑o
 slot:∀b o,h.get? b=↑o->H b=none->b∈fs->b∉ex->∃sl,h'.get? b=some {o with slots:=sl}
 free:∀b o,h.get? b=↑o->H b=none->b∉ex->H' b=none
 there:∀b o,h.get? b=↑o->b∉ex->∃o',h'.get? b=↑o'
 tups:∀b xs,H b=↑(.tup xs)->H' b=↑(.tup xs)
 frzs:∀b o u,H b=↑(.frz o u)->H' b=↑(.frz o u)
 tbls:∀b ps,H b=↑(.tbl ps)->∃more,H' b=↑(.tbl (ps++more))
section
variable{fs:Η}
def Un.any(u:Un fs ex H H1 h h1){b:Δ}{ob:Obj}(q:h.get? b=↑ob)(n:H b=none)(hx:b∉ex):∃c,h1.get? b=some {ob with slots:=c}:=by
 by_cases a:b∈fs
 .exact u.slot b ob q n a hx
 .exact#[ob.slots,u.keep b ob q n a hx]
def Un.kept(k:∀b u,h.get? b=↑u->h'.get? b=↑u):Un fs ex H H h h':=
 #[λb a q _ _ _=>k b a q,λb a q _ _ _=>#[a.slots,k b a q],λ_ _ _ n _=>n,λb a q _=>#[a,k b a q],λ_ _ q=>q,λ_ _ _ q=>q,λ_ ps q=>#[(AA []),by rw[q];simp]]
def Un.refl:Un fs ex H H h h:=Un.kept λ_ _ q=>q
def Un.laid(k:∀b u,h.get? b=↑u->h'.get? b=↑u)(hp:h.objs.size<=a)(hn:H a=none):Un fs ex H (HM H a o) h h' where
 keep:=λb u q _ _ _=>k b u q
 slot:=λb u q _ _ _=>#[u.slots,k b u q]
 free:=λb u q n _=>by rw[qp (Jm (JV (Jl q) hp))];exact n
 there:=λb u q _=>#[u,k b u q]
 tups:=λb xs q=>by rw[qp (qm q hn)];exact q
 frzs:=λb u xs q=>by rw[qp (qm q hn)];exact q
 tbls:=λb ps q=>#[(AA []),by rw[qp (qm q hn),q];simp]
def Un.write(c:yi (H x))(he:e=x\/H e=↑(.own x))(k:∀b u,b≠e->h.get? b=↑u->h'.get? b=↑u)(f:∃u,h'.get? e=↑u):Un fs ex H (HM H x o) h h':=by
 have g:∀b,H b=none->b≠x:=λb n z=>by subst z;rw[n]at c;exact c
 have i:∀b,H b=none->b≠e:=λb n z=>by
  subst z;rcases he with r|r
  .exact g b n r
  .rw[n]at r;cases r
 have d:∀b u,H b=↑u->¬yi ↑u->b≠x:=λb u q nm z=>by subst z;rw[q]at c;exact nm c
 refine#[λb u q n _ _=>k b u (i b n) q,λb u q n _ _=>#[u.slots,k b u (i b n) q],λb u q n _=>by rw[qp (g b n)];exact n,λb u q _=>?_,
  λb xs q=>by rw[qp (d b _ q λz=>z)];exact q,λb u xs q=>by rw[qp (d b _ q λz=>z)];exact q,λb ps q=>#[(AA []),by rw[qp (d b _ q λz=>z),q];simp]]
 by_cases a:b=e
 .subst a;exact f
 .exact#[u,k b u a q]
end
def BX(h:Ψ)(H:Hp):Η:=(Ag h.objs.size).filter λa=>(H a).isSome
def eR(h:Ψ)(H:Hp):Ψ:=PySem.W.hideAll h (BX h H)
def wx(h:Ψ)(H:Hp):(eR h H).objs.size=h.objs.size:=W.hideAll_size _ _
def Ad{h:Ψ}{H:Hp}{b:Δ}{o:Obj}(e:h.get? b=↑o)(n:H b=none):(eR h H).get? b=↑o:=
 W.hideAll_get _ e λa=>by
  have q:(H b).isSome=true:=(LL.mp a).2
  rw[n]at q;simp at q
def C6{b:Δ}{o:Obj}(e:(eR h H).get? b=↑o):h.get? b=↑o/\H b=none:=by
 have e':h.get? b=↑o:=W.of_hideAll (BX h H) e
 exists e'
 cases q:H b with
 |none=>rfl
 |some x=>
  have a:b∈BX h H:=LL.mpr #[JT.mpr (Jl e'),by simp [q]]
  have z:(eR h H).get? b=none:=W.hideAll_none (BX h H) a
  rw[z]at e;cases e
structure RT(K:ι)(mg:HH)(base:Ψ):Prop where
 kin:K.In base
 glob:base.Ns η mg
 blt:∃mb,base.Ns builtinsNs mb/\∀x:Str,x≠"__name__"->mb x=bootBuiltins x
 nolimit:base.NoLimit
structure Cx where
 prog:Ξ
 w:Ω
 K:ι
 mg:Str->Ν
 base:Ψ
 A:Rj
 N:Α
 s₀:Θ
 H₀:Hp
 env:Env
 outer:Τ
 stack:Τ
 ex:Η
 fn:Str->Bool
 calm:Bool
 pn:List (Δ×Obj)
 xe:Γ->Θ->Prop
def cz(l:Τ):Η:=l.filterMap (·.frame)
abbrev Cx.fs(X:Cx):Η:=cz X.outer
def EQ(a:Scope)(x:Str):Prop:=a.names.lookup x=some .local\/a.names.lookup x=some .cell\/a.names.lookup x=some .free
def gq(a:Scope)(x:Str):Prop:=a.names.lookup x=some .local\/a.names.lookup x=some .cell
def GC(a:Env)(h:Ψ)(m:HH)(x:Str)(u:Γ):Prop:=
 (a.kindOf x=some .local/\m x=↑u)\/((a.kindOf x=some .cell\/a.kindOf x=some .free)/\∃c,a.cells.lookup x=↑c/\h.IsCell c ↑u)
structure Cx.Ok(X:Cx):Prop where
 mod:RT X.K X.mg X.base
 kind:X.env.scope.kind= .function
 glob:X.env.globals=η
 blt:X.env.builtins=builtinsNs
 above:X.s₀.heap.objs.size<=X.env.locals
 inj:∀x y c,X.env.cells.lookup x=↑c->X.env.cells.lookup y=↑c->x=y
 has:∀x,(X.env.kindOf x=some .cell\/X.env.kindOf x=some .free)->∃c,X.env.cells.lookup x=↑c
 cab:∀x c,X.fn x=true->X.env.cells.lookup x=↑c->X.s₀.heap.objs.size<=c
 hd:X.calm=true->X.A.handled=none
 frames:X.A.frames=↑X.stack
 stk:X.stack=X.outer\/(X.stack=X.env::X.outer/\X.env.frame=↑X.env.locals)
 exf:∀b∈X.ex,b≠X.env.locals/\∀x c,X.env.cells.lookup x=↑c->c≠b
 bs:∀b o,X.base.get? b=↑o->X.s₀.heap.get? b=↑o/\X.H₀ b=none
 bsz:X.base.objs.size<=X.s₀.heap.objs.size
 noex:∀b o,X.base.get? b=↑o->b∉X.ex
 exfs:∀b∈X.ex,b∉X.fs
 funs:X.s₀.heap.FunFrames X.base X.outer
 frf:∀b∈X.fs,X.H₀ b=none
structure HN(X:Cx)(R0:HI)(σ:List Μ)(H:Hp)(s:Θ):Prop where
 ok:X.Ok
 os:s.os=X.s₀.os
 bare:AllBare s.gens
 base:Un X.fs X.ex X.H₀ H X.s₀.heap s.heap
 loc:∃m,s.heap.Ns X.env.locals m/\∀(i:Nat) (x:Str) (v:V),X.N[i]? =↑x->σ[i]? =↑(↑v)->EQ X.env.scope x->∃u,HV v u/\GC X.env s.heap m x u
 cell:∀x c,X.env.cells.lookup x=↑c->∃v,s.heap.IsCell c v
 free:H X.env.locals=none
 freeC:∀x c,X.env.cells.lookup x=↑c->H c=none
 pin:∀p∈X.pn++R0,s.heap.get? p.1=↑p.2/\H p.1=none/\p.1≠X.env.locals/\p.1∉X.fs/\∀v,p.2.data≠ .cell v
 hok:NW X.prog X.w H s.heap
 len:σ.length=X.N.length
section
variable{X:Cx}
def Cx.Ok.nofr(ok:X.Ok){b:Δ}{o:Obj}(e:X.base.get? b=↑o):b∉X.fs:=λa=>by
 have:=(ok.funs.mem a).1
 rw[e]at this;cases this
theorem HN.bs(I:HN X R0 σ H s):∀b o,X.base.get? b=↑o->s.heap.get? b=↑o/\H b=none:=λb o e=>
 #[I.base.keep b o (I.ok.bs b o e).1 (I.ok.bs b o e).2 (I.ok.nofr e) (I.ok.noex b o e),I.base.free b o (I.ok.bs b o e).1 (I.ok.bs b o e).2 (I.ok.noex b o e)]
def HN.bk(I:HN X R0 σ H s):∀b o,X.base.get? b=↑o->s.heap.get? b=↑o:=λb o e=>(I.bs b o e).1
theorem HN.mod(I:HN X R0 σ H s):RT X.K X.mg X.base:=I.ok.mod
def HN.kIn(I:HN X R0 σ H s):X.K.In s.heap:=I.ok.mod.kin.keeps I.bk
theorem HN.lt(I:HN X R0 σ H s):X.env.locals<s.heap.objs.size:=let⟨_,hn,_⟩:=I.loc;hn.lt
def HN.sz(I:HN X R0 σ H s):X.s₀.heap.objs.size<=s.heap.objs.size:=JN I.ok.above (LM I.lt)
def HN.nofs(I:HN X R0 σ H s){a:Δ}(h:s.heap.objs.size<=a):a∉X.fs:=λc=>by
 let#[_,o,d,_]:=I.ok.funs.mem c;exact absurd (JV (Jl d) (JN I.sz h)) (Ia _)
def HN.cne(I:HN X R0 σ H s):∀x c,X.env.cells.lookup x=↑c->c≠X.env.locals:=λx c e z=>by
 let#[v,o,f,g]:=I.cell x c e;let#[m,#[o',es,ep,a,d,_],_]:=I.loc;rw[z,a]at f;cases f;rw[d]at g;cases g
theorem HN.funs(I:HN X R0 σ H s):s.heap.FunFrames X.base X.outer:=by
 have all:∀(l:Τ),(∀b∈cz l,b∈X.fs)->X.s₀.heap.FunFrames X.base l->s.heap.FunFrames X.base l:=by
  intro l
  induction l with
  |nil=>intro _ _;trivial
  |cons env r ih=>
   intro f m;let#[hk,#[L,o,c,h,i,g],j]:=m;have a:L∈X.fs:=f L (by unfold cz;rw[JW,c];exact Jr)
   let#[n,e]:=I.base.slot L o i (I.ok.frf L a) a λz=>I.ok.exfs L z a
   exact#[hk,#[L,_,c,h,e,g],ih (λb d=>f b (by unfold cz;rw[JW,c];exact Jv _ d)) j]
 exact all X.outer (λ_ d=>d) I.ok.funs
theorem HN.stack(I:HN X R0 σ H s):s.heap.FunFrames X.base X.stack:=by
 rcases I.ok.stk with e|⟨e,a⟩
 .rw[e];exact I.funs
 .rw[e]
  let#[m,c,_]:=I.loc;refine .cons (by rw[I.ok.kind];decide) a c ?_ I.funs
  exact Ψ.get?_none_of_le (JN I.ok.bsz I.ok.above)
def HN.stkSub(I:HN X R0 σ H s):∀b∈cz X.stack,b∈X.env.locals::X.fs:=λb a=>by
 rcases I.ok.stk with e|⟨e,c⟩
 .rw[e]at a;exact Jv _ a
 .rw[e]at a
  unfold cz at a;rw[JW,c]at a;exact a
def HN.stkFree(I:HN X R0 σ H s):∀b∈cz X.stack,H b=none:=λb a=>by
 rcases Jg.mp (I.stkSub b a)with e|a
 .rw[e];exact I.free
 .let#[_,o,c,_]:=I.ok.funs.mem a
  exact I.base.free b o c (I.ok.frf b a) λz=>I.ok.exfs b z a
def HN.step{t':Nat}{d':Drawn}{ch:Η}(I:HN X R0 σ H s)
  (g:∀b∈ch,(b∈X.ex\/X.s₀.heap.objs.size<=b)/\b≠X.env.locals/\(∀x c,X.env.cells.lookup x=↑c->c≠b)/\∀p∈X.pn++R0,p.1≠b)
  (keep:∀b o,b≠X.env.locals->b∉X.fs->b∉ch->s.heap.get? b=↑o->H b=none->h'.get? b=↑o)
  (y:∀b o,b≠X.env.locals->b∈X.fs->b∉ch->s.heap.get? b=↑o->H b=none->∃K,h'.get? b=some {o with slots:=K})(f:∀b o,b∉ch->s.heap.get? b=↑o->H b=none->H' b=none)
  (A:∀b o,b∉ch->s.heap.get? b=↑o->∃o',h'.get? b=↑o')
  (F:∀b xs,H b=↑(.tup xs)->H' b=↑(.tup xs))(J:∀b o u,H b=↑(.frz o u)->H' b=↑(.frz o u))(D:∀b ps,H b=↑(.tbl ps)->∃more,H' b=↑(.tbl (ps++more)))
  (ns:∀m,s.heap.Ns X.env.locals m->h'.Ns X.env.locals m)(N:NW X.prog X.w H' h')(hg:AllBare g'):
  HN X R0 σ H' {s with heap:=h',gens:=g',drawn:=d',toks:=t'}:=by
 have E:∀b o,X.s₀.heap.get? b=↑o->b≠X.env.locals:=λb o e=>Jm (JV (Jl e) I.ok.above)
 have w:∀b o,X.s₀.heap.get? b=↑o->b∉X.ex->b∉ch:=λb o e a B=>by
  rcases(g b B).1 with z|z
  .exact a z
  .exact absurd (JV (Jl e) z) (Ia _)
 have h:∀x c,X.env.cells.lookup x=↑c->∀v,s.heap.IsCell c v->h'.IsCell c v:=λx c e v ⟨o,C,L⟩=>by
  have j:c∉ch:=λz=>(g c z).2.2.1 x c e Z
  by_cases Q:c∈X.fs
  .let#[K,q]:=y c o (I.cne x c e) Q j C (I.freeC x c e)
   exact#[_,q,L]
  .exact#[o,keep c o (I.cne x c e) Q j C (I.freeC x c e),L]
 refine#[I.ok,I.os,hg,#[λb o e n B a=>?_,λb o e n B a=>?_,λb o e n a=>?_,λb o e a=>?_,λb xs e=>F b xs (I.base.tups b xs e),λb o xs e=>J b o xs (I.base.frzs b o xs e),λb ps e=>?_],?_,λx c e=>?_,?_,λx c e=>?_,λp O=>?_,N,I.len]
 .exact keep b o (E b o e) B (w b o e a) (I.base.keep b o e n B a) (I.base.free b o e n a)
 .let#[K,t]:=I.base.slot b o e n B a
  let#[M,G]:=y b _ (E b o e) B (w b o e a) t (I.base.free b o e n a)
  exact#[M,G]
 .let#[o',t]:=I.base.there b o e a
  exact f b o' (w b o e a) t (I.base.free b o e n a)
 .let#[o',t]:=I.base.there b o e a
  exact A b o' (w b o e a) t
 .let#[U,t]:=I.base.tbls b ps e
  let#[R,G]:=D b _ t
  exact#[U++R,by rw[G,Array.append_assoc]]
 .let#[m,T,S]:=I.loc
  refine#[m,ns m T,λi x v t G W=>?_]
  let#[u,r,l]:=S i x v t G W;exists u,r
  rcases l with l|⟨k,c,e,z⟩
  .exact .inl l
  .exact .inr #[k,c,e,h x c e _ z]
 .let#[v,z]:=I.cell x c e
  exact#[v,h x c e v z]
 .let#[m,#[o,_,_,C,_],_]:=I.loc
  exact f _ o (λz=>(g _ z).2.1 Z) C I.free
 .let#[v,o,C,L]:=I.cell x c e
  exact f c o (λz=>(g c z).2.2.1 x c e Z) C (I.freeC x c e)
 .let#[e,n,ne,P,d]:=I.pin p O
  have j:p.1∉ch:=λz=>(g p.1 z).2.2.2 p O Z
  exact#[keep p.1 p.2 ne P j e n,f p.1 p.2 j e n,ne,P,d]
def HN.un{t':Nat}(I:HN X R0 σ H s)(u:Un X.fs [] H H' s.heap h')(c:NW X.prog X.w H' h'):HN X R0 σ H' {s with heap:=h',toks:=t'}:=by
 let#[m,#[o,es,ep,h,r],_]:=id I.loc;let#[q,l]:=u.any h I.free (by simp)
 exact I.step (g':=s.gens) (d':=s.drawn) (ch:=[]) (λ_ z=>nomatch z) (λb o _ g _ e n=>u.keep b o e n g (by simp)) (λb o _ g _ e n=>u.slot b o e n g (by simp)) (λb o _ e n=>u.free b o e n (by simp)) (λb o _ e=>u.there b o e (by simp)) u.tups u.frzs u.tbls (λp i=>by
  let#[o',d,f,a,j]:=i;rw[h]at a;cases a
  exact#[_,d,f,l,j]) c I.bare
def HN.call{t':Nat}{d':Drawn}{ch:Η}(I:HN X R0 σ H s)(u:Un (cz X.stack) ch H H' s.heap h')(g:NW X.prog X.w H' h')(hg:AllBare g')
  (d:∀b∈ch,(b∈X.ex\/X.s₀.heap.objs.size<=b)/\b≠X.env.locals/\(∀x c,X.env.cells.lookup x=↑c->c≠b)/\∀p∈X.pn++R0,p.1≠b):
  HN X R0 σ H' {s with heap:=h',gens:=g',drawn:=d',toks:=t'}:=by
 let#[m,#[o,es,ep,l,r],_]:=id I.loc;let#[y,h]:=u.any l I.free λz=>(d _ z).2.1 Z
 exact I.step (ch:=ch) d (λb o h v a e n=>u.keep b o e n (λz=>(Jg.mp (I.stkSub b z)).elim h v) a) (λb o _ _ a e n=>u.any e n a) (λb o a e n=>u.free b o e n a) (λb o a e=>u.there b o e a) u.tups u.frzs u.tbls (λw q=>by
  let#[o',i,j,f,t]:=q;rw[l]at f;cases f
  exact#[_,i,j,h,t]) g hg
def HN.turned{t':Nat}{it:Δ}(I:HN X R0 σ H s)(k:∀b o,b≠it->s.heap.get? b=↑o->h'.get? b=↑o)(hn:H it=none)(f:it≠X.env.locals)
  (h1:it∈X.ex\/X.s₀.heap.objs.size<=it)(h2:∀x c,X.env.cells.lookup x=↑c->c≠it)(g:∀p∈X.pn++R0,p.1≠it):HN X R0 σ H {s with heap:=h',toks:=t'}:=by
 have d:∀b u,H b=↑u->b≠it:=λb u e z=>by rw[z,hn]at e;cases e
 refine I.step (g':=s.gens) (d':=s.drawn) (ch:=[it]) (λb j=>?_) (λb o _ _ a e _=>k b o (λz=>a (by simp [z])) e) (λb o _ _ a e _=>#[o.slots,k b o (λz=>a (by simp [z])) e]) (λ_ _ _ _ n=>n)
  (λb o a e=>#[o,k b o (λz=>a (by simp [z])) e]) (λ_ _ e=>e) (λ_ _ _ e=>e) (λb ps e=>#[(AA []),by rw[e];simp]) (λm h=>?_) (λb u e=>?_) I.bare
 .have e:b=it:=by simpa using j
  subst e
  exact#[h1,f,h2,g]
 .let#[o,es,ep,i,r]:=h
  exact#[o,es,ep,k _ o (Ne.symm f) i,r]
 .refine(I.hok b u e).stay (λc v a q=>k c v ?_ q) (λ_ q=>q) λ_ _ q=>q
  rcases a with z|z
  .rw[z];exact d b u e
  .exact d c _ z
def HN.tok(I:HN X R0 σ H s)(t:Nat):HN X R0 σ H {s with toks:=t}:=I.un (h':=s.heap) (t':=t) Un.refl I.hok
theorem HN.kept{t':Nat}(I:HN X R0 σ H s)(k:∀b u,s.heap.get? b=↑u->h'.get? b=↑u):HN X R0 σ H {s with heap:=h',toks:=t'}:=I.un (Un.kept k) (I.hok.kept k)
theorem HN.laid{a:Δ}{t':Nat}(I:HN X R0 σ H s)(k:∀b u,s.heap.get? b=↑u->h'.get? b=↑u)(hp:s.heap.objs.size<=a)(c:ML X.prog X.w (HM H a o) h' a o):
  HN X R0 σ (HM H a o) {s with heap:=h',toks:=t'}:=I.un (Un.laid k hp (I.hok.fresh hp)) (I.hok.laid k hp c)
theorem HN.write{e:Δ}{t':Nat}(I:HN X R0 σ H s)(d:yi (H x))(he:e=x\/H e=↑(.own x))(k:∀b u,b≠e->s.heap.get? b=↑u->h'.get? b=↑u)(a:∃u,h'.get? e=↑u)
  (c:ML X.prog X.w (HM H x o) h' x o):HN X R0 σ (HM H x o) {s with heap:=h',toks:=t'}:=I.un (Un.write d he k a) (I.hok.write d he k a c)
def HN.pins_of{pins':HI}(I:HN X R0 σ H s)(h:∀p∈pins',s.heap.get? p.1=↑p.2/\H p.1=none/\p.1≠X.env.locals/\p.1∉X.fs/\∀v,p.2.data≠ .cell v):HN X pins' σ H s:=
 #[I.ok,I.os,I.bare,I.base,I.loc,I.cell,I.free,I.freeC,λp a=>(JP.mp a).elim (λz=>I.pin p (LN _ z)) (h p),I.hok,I.len]
def nD{N:Α}(hN:N.Nodup){i j:Nat}{x:Str}(a:N[i]? =↑x)(b:N[j]? =↑x):i=j:=by
 let#[h1,c]:=Jw.mp a;let#[e,d]:=Jw.mp b
 exact(List.getElem_inj hN).mp (c.trans d.symm)
def bH{i:Nat}{x:Str}{Q:Unit->Θ->Prop}(I:HN X R0 σ H s)(hN:X.N.Nodup)(hi:X.N[i]? =↑x)(hx:gq X.env.scope x)(r:HV v u)
  (h:∀s',HN X R0 (σ.set i ↑v) H s'->(∃a,Ψ.SameBut a s.heap s'.heap/\(a=X.env.locals\/X.env.cells.lookup x=↑a))->Q () s')(hf:X.fn x=true\/X.env.scope.names.lookup x=some .local:=by first|exact .inl Z|exact .inr Z|assumption):ε M A (storeName X.env x u) Q E s:=by
 let#[m,T,hl]:=id I.loc;have N:(X.env.scope.kind== .class||(X.env.scope.kind== .module&&X.env.locals != X.env.globals))=false:=by rw[I.ok.kind];rfl
 have C:i<σ.length:=by rw[I.len];exact(Jw.mp hi).1
 have cne:=I.cne;have l:∀{a:Δ} {h':Ψ},(∃o,s.heap.get? a=↑o/\H a=none)->Ψ.SameBut a s.heap h'->NW X.prog X.w H h':=λ{a h'} ha f b ob e=>by
  let#[_,_,w]:=ha;refine(I.hok b ob e).stay (λc P t q=>(f.2 c ?_).trans q) (λ_ q=>q) λ_ _ q=>q
  rintro rfl
  rcases t with rfl|t
  .rw[w]at e;cases e
  .rw[w]at t;cases t
 rcases hx with hk|hk
 .refine wpAny_storeName_local hk T (λh' a1 f=>?_) N
  let#[oL,_,_,R,_]:=id T;refine h _ #[I.ok,I.os,I.bare,#[λb o e n G hx=>?_,λb o e n G hx=>?_,I.base.free,λb o e hx=>?_,I.base.tups,I.base.frzs,I.base.tbls],#[_,a1,λj y v' g B W=>?_],λy c e=>?_,I.free,I.freeC,λp U=>?_,l #[oL,R,I.free] f,by simpa using I.len] #[_,f,.inl Z]
  .exact(f.2 b (Jm (JV (Jl e) I.ok.above))).trans (I.base.keep b o e n G hx)
  .let#[Y,g]:=I.base.slot b o e n G hx
   exact#[Y,(f.2 b (Jm (JV (Jl e) I.ok.above))).trans g]
  .let#[o',g]:=I.base.there b o e hx
   exact#[o',(f.2 b (Jm (JV (Jl e) I.ok.above))).trans g]
  .by_cases D:j=i
   .subst D
    rw[hi]at g;cases g
    rw[LY C]at B;cases B
    exact#[u,r,.inl #[hk,by simp]]
   .rw[LZ (Ne.symm D)]at B
    let#[S,r',q]:=hl j y v' g B W;exists S,r'
    rcases q with⟨k,e⟩|⟨k,c,e,z⟩
    .refine .inl #[k,?_]
     have:y≠x:=λe=>D (nD hN g (e▸hi))
     simp [this,e]
    .exact .inr #[k,c,e,z.sameBut f (cne y c e)]
  .let#[P,z]:=I.cell y c e
   exact#[P,z.sameBut f (cne y c e)]
  .let#[e,n,ne,nf,d]:=I.pin p U
   exact#[(f.2 p.1 ne).trans e,n,ne,nf,d]
 .have F:X.fn x=true:=by
   rcases hf with z|z
   .exact z
   .rw[z]at hk;cases hk
  let#[c,t]:=I.ok.has x (.inl hk)
  let#[P,z]:=I.cell x c t;refine wpAny_storeName_cell I.ok.kind hk t z (λh' L f=>?_)
  let#[oc,O,K]:=id z;refine h {s with heap:=h'} #[I.ok,I.os,I.bare,#[λb o e n G hx=>?_,λb o e n G hx=>?_,I.base.free,λb o e hx=>?_,I.base.tups,I.base.frzs,I.base.tbls],#[m,T.sameBut f (Ne.symm (cne x c t)),λj y v' g B W=>?_],λy c' e=>?_,I.free,I.freeC,λp U=>?_,l #[oc,O,I.freeC x c t] f,by simpa using I.len] #[c,f,.inr t]
  .exact(f.2 b (Jm (JV (Jl e) (I.ok.cab x c F t)))).trans (I.base.keep b o e n G hx)
  .let#[Y,g]:=I.base.slot b o e n G hx
   exact#[Y,(f.2 b (Jm (JV (Jl e) (I.ok.cab x c F t)))).trans g]
  .let#[o',g]:=I.base.there b o e hx
   exact#[o',(f.2 b (Jm (JV (Jl e) (I.ok.cab x c F t)))).trans g]
  .by_cases D:j=i
   .subst D
    rw[hi]at g;cases g
    rw[LY C]at B;cases B
    exact#[u,r,.inr #[.inl hk,c,t,L]]
   .rw[LZ (Ne.symm D)]at B
    let#[S,r',q]:=hl j y v' g B W;exists S,r'
    rcases q with q|⟨k,c',e,z'⟩
    .exact .inl q
    .refine .inr #[k,c',e,z'.sameBut f ?_]
     rintro rfl
     exact D (nD hN g (I.ok.inj _ _ _ e t▸hi))
  .by_cases J:c'=c
   .subst J;exact#[_,L]
   .let#[w2,z2]:=I.cell y c' e
    exact#[w2,z2.sameBut f J]
  .let#[e,n,ne,nf,d]:=I.pin p U
   refine#[(f.2 p.1 ?_).trans e,n,ne,nf,d]
   intro q;rw[q,O]at e;have q':oc=p.2:=JE e
   exact d P (by rw[<- q'];exact K)
def da{i:Nat}{x:Str}{Q:Unit->Θ->Prop}(I:HN X R0 σ H s)(hN:X.N.Nodup)(hi:X.N[i]? =↑x)(hx:gq X.env.scope x)(r:HV v u)
  (h:∀s',HN X R0 (σ.set i ↑v) H s'->Q () s')(hf:X.fn x=true\/X.env.scope.names.lookup x=some .local:=by first|exact .inl Z|exact .inr Z|assumption):ε M A (storeName X.env x u) Q E s:=
 bH I hN hi hx r (λs' a _=>h s' a) hf
def HN.call'{s':Θ}{ch:Η}(I:HN X R0 σ H s)(ho:s'.os=s.os)(u:Un (cz X.stack) ch H H' s.heap s'.heap)(d:NW X.prog X.w H' s'.heap)(hg:AllBare s'.gens)
  (a:∀b∈ch,(b∈X.ex\/X.s₀.heap.objs.size<=b)/\b≠X.env.locals/\(∀x c,X.env.cells.lookup x=↑c->c≠b)/\∀p∈X.pn++R0,p.1≠b):HN X R0 σ H' s':=by
 let#[h',g',d',t',o']:=s';have e:o'=s.os:=ho
 subst e;exact I.call (g':=g') (t':=t') (d':=d') u d hg a
end
abbrev XK:=Γ->β->Hp->Prop
abbrev St:=List Μ
abbrev VK:=V->Hp->Prop
abbrev TE:=St->Hp->VK->Prop
abbrev TT:=St->Hp->(Bool->Hp->Prop)->Prop
abbrev TA:=St->Hp->(Ε->Hp->Prop)->Prop
structure Ng where
 nx:St->Hp->Prop
 rt:VK
 bk:St->Hp->Prop:=λ_ _=>False
 ct:St->Hp->Prop:=λ_ _=>False
abbrev TS:=Ng->St->Hp->Prop
def EP(X:Cx)(R0:HI)(σ:St)(Q:VK)(u:Γ)(s':Θ):Prop:=∃v H',HN X R0 σ H' s'/\HV v u/\Q v H'
def TP(X:Cx)(R0:HI)(σ:St)(Q:Bool->Hp->Prop)(b:Bool)(s':Θ):Prop:=∃H',HN X R0 σ H' s'/\Q b H'
def AP(X:Cx)(R0:HI)(σ:St)(Q:Ε->Hp->Prop)(us:Ζ)(s':Θ):Prop:=∃vs H',HN X R0 σ H' s'/\HS vs us/\Q vs H'
def SP(X:Cx)(R0:HI)(D:Ng)(f:Flow)(s':Θ):Prop:=
 match f with
 | .next=>∃a H',HN X R0 a H' s'/\D.nx a H'
 | .brk=>∃a H',HN X R0 a H' s'/\D.bk a H'
 | .cont=>∃a H',HN X R0 a H' s'/\D.ct a H'
 | .ret u=>∃v a H',HN X R0 a H' s'/\HV v u/\D.rt v H'
def PE(X:Cx)(e:Φ)(t:TE):Prop:=
 ∀(R0:HI) (s:Θ) (σ:St) (H:Hp) (Q:VK),HN X R0 σ H s->t σ H Q->ε (model X.prog X.w) X.A (eval e X.env) (EP X R0 σ Q) X.xe s
def PT(X:Cx)(e:Φ)(t:TT):Prop:=
 ∀(R0:HI) (s:Θ) (σ:St) (H:Hp) (Q:Bool->Hp->Prop),HN X R0 σ H s->t σ H Q->ε (model X.prog X.w) X.A (isTrue e X.env (eval e X.env)) (TP X R0 σ Q) X.xe s
def PW(X:Cx)(e:Φ)(t:TT):Prop:=
 ∀(a:Sem Γ) (R0:HI) (s:Θ) (σ:St) (H:Hp) (Q:Bool->Hp->Prop),HN X R0 σ H s->t σ H Q->ε (model X.prog X.w) X.A (isTrue e X.env a) (TP X R0 σ Q) X.xe s
def PW.pt(h:PW X e t):PT X e t:=h _
def PA(X:Cx)(es:Ι)(t:TA):Prop:=
 ∀(pos:Pos) (R0:HI) (s:Θ) (σ:St) (H:Hp) (Q:Ε->Hp->Prop),HN X R0 σ H s->t σ H Q->ε (model X.prog X.w) X.A (spliced (backTo pos (θ es X.env))) (AP X R0 σ Q) X.xe s
def PS(X:Cx)(st:δ)(t:TS):Prop:=
 ∀(R0:HI) (s:Θ) (σ:St) (H:Hp) (D:Ng),HN X R0 σ H s->t D σ H->ε (model X.prog X.w) X.A (exec st X.env) (SP X R0 D) X.xe s
def On(X:Cx)(st:List δ)(t:TS):Prop:=
 ∀(R0:HI) (s:Θ) (σ:St) (H:Hp) (D:Ng),HN X R0 σ H s->t D σ H->ε (model X.prog X.w) X.A (execs st X.env) (SP X R0 D) X.xe s
def qz{d:Type}{t:Sem d}{Q c:d->Θ->Prop}{M:Model}{A:Rj}{E:HG}{s:Θ}(h:ε M A t Q E s)(e:∀a s,Q a s->c a s):ε M A t c E s:=Jx h e λ_ _ x=>x
section
inductive RA (i:Nat)(σ:L2.St)(H:Hp)(Q:VK):Prop
 |mk (v:_)(h1:σ[i]? =↑(↑v))(h2:Q v H)
def Fv(i:Nat):TE:=λσ H Q=>RA i σ H Q
def tC(v:V):TE:=λ_ H Q=>Q v H
def EU{i:Nat}{x:Str}(hN:X.N[i]? =↑x)(hv:EQ X.env.scope x)(hd:(x==("__debug__":Str))=false:=by decide)(f:(x==("__classdict__":Str))=false:=by decide):PE X (.Name x pos) (Fv i):=by
 intro R0 s σ H Q I h;let#[v,e,h]:=h;let#[m,j,o]:=I.loc;let#[u,r,l]:=o i x v hN e hv;have d:EP X R0 σ Q u s:=#[v,H,I,r,h]
 rcases l with⟨hk,n⟩|⟨hk,c,g,a⟩
 .exact wpAny_Name (wpAny_loadName_local I.ok.kind hk j n d) hd
 .rcases hk with hk|hk
  .exact wpAny_Name (wpAny_loadName_cell I.ok.kind hk g a d) hd
  .exact wpAny_Name (wpAny_loadName_free I.ok.kind hk g a d f) hd
def Ev{i j pos}:PE X (.Constant (.int i) j pos) (tC (.int i)):=λ_ _ _ H _ I h=>wpAny_Constant_int #[.int i,H,I.tok _,#[0],h]
def Gc{b j pos}:PE X (.Constant (.bool b) j pos) (tC (.bl b)):=λ_ _ _ H _ I h=>Constant_bool #[.bl b,H,I,Z,h]
def Ek{j pos}:PE X (.Constant .none j pos) (tC .non):=λ_ _ _ H _ I h=>Constant_none #[.non,H,I,Z,h]
def Fk{x j pos}:PE X (.Constant (.str x) j pos) (tC (.str x)):=λ_ _ _ H _ I h=>Calls.Constant_str #[.str x,H,I.tok _,#[0],h]
def Gl(X:Cx)(x:Str):Prop:=X.env.kindOf x=some .globalImplicit
def jN{u:Γ}{Q:HG}(I:HN X R0 σ H s)(hg:Gl X x)(hm:X.mg x=↑u)(h:Q u s)
  (hd:(x==("__debug__":Str))=false:=by decide):ε (model X.prog X.w) X.A (eval (.Name x pos) X.env) Q E s:=
 Calls.Name_function_global I.ok.kind hg (Calls.loadGlobal_global (by rw[I.ok.glob];exact I.mod.glob.keeps I.bk) hm h) hd
def Zp{u:Γ}{Q:HG}(I:HN X R0 σ H s)(hg:Gl X x)(hm:X.mg x=none)(hv:bootBuiltins x=↑u)(h:Q u s)
  (hn:x≠"__name__":=by decide)(hd:(x==("__debug__":Str))=false:=by decide):ε (model X.prog X.w) X.A (eval (.Name x pos) X.env) Q E s:=by
 let#[c,h1,a]:=I.mod.blt;exact Calls.Name_function_global I.ok.kind hg (Calls.loadGlobal_builtin (by rw[I.ok.glob];exact I.mod.glob.keeps I.bk) hm (by rw[I.ok.blt];exact h1.keeps I.bk) ((a x hn).trans hv) h) hd
def DN{u:Γ}(hg:Gl X x)(hm:X.mg x=↑u)(r:HV v u)(hd:(x==("__debug__":Str))=false:=by decide):PE X (.Name x pos) (tC v):=
 λ_ _ _ H _ I h=>jN I hg hm #[v,H,I,r,h] hd
def DC{u:Γ}(hg:Gl X x)(hm:X.mg x=none)(hv:bootBuiltins x=↑u)(r:HV v u)(hn:x≠"__name__":=by decide)(hd:(x==("__debug__":Str))=false:=by decide):PE X (.Name x pos) (tC v):=
 λ_ _ _ H _ I h=>Zp I hg hm hv #[v,H,I,r,h] hn hd
variable{b:Φ}
def PC(X:Cx)(op:CmpOp)(a b:Φ)(t:TE):Prop:=
 ∀(R0:HI) (s:Θ) (σ:St) (H:Hp) (Q:VK),HN X R0 σ H s->t σ H Q->
  ε (model X.prog X.w) X.A (eval a X.env) (λv c=>ε (model X.prog X.w) X.A (eval b X.env) (λu d=>ε (model X.prog X.w) X.A (Py op v u) (EP X R0 σ Q) X.xe d) X.xe c) X.xe s
def tB(t:TE):TT:=λσ H Q=>t σ H λx H1=>∃c,x= .bl c/\Q c H1
def we(h:PC X op a b t)(h1:behindInMarks op b=false:=by first|exact nobehind _ ⋯ ⋯|rfl):PT X (.Compare a [op] [b] pos) (tB t):=by
 intro R0 s σ H Q I f;refine wpAny_isTrue_Compare1 (qz (h R0 s σ H _ I f) λv m h1=>qz h1 λu n e=>qz e λc o l=>?_) h1
 let#[x,H1,g,j,i]:=l;let#[d,rfl,q]:=i;cases j;exact IT #[H1,g,q]
def Ff(h:PE X e t)(he:∀a,isTrue e X.env a=(do let v <- a;standAt e.pos;holding [v] (truthy v)):=by intro _;rfl):PT X e (tB t):=by
 intro R0 s σ H Q I c;refine isTrue_plain (qz (h R0 s σ H _ I c) λv l j=>?_) (he _)
 let#[x,H1,f,i,g]:=j;let#[d,rfl,q]:=g;cases i;exact IT #[H1,f,q]
noncomputable def D9(t u:TT):TT:=λσ H Q=>t σ H λc H1=>if c=true then u σ H1 Q else Q false H1
noncomputable def Gg(t u:TT):TT:=λσ H Q=>t σ H λc H1=>if c=true then Q true H1 else u σ H1 Q
def EO(t:TT):TT:=λσ H Q=>t σ H λc H1=>Q (! c) H1
def Db(ha:PT X a tA):PW X (.BoolOp .And [a] pos) tA:=by
 intro f R0 s σ H Q I h;refine isTrue_and (qz (ha R0 s σ H Q I h) λc d e=>?_)
 cases c with
 |true=>exact isTrue_and_nil e
 |false=>exact e
def EI(ha:PT X a tA):PW X (.BoolOp .Or [a] pos) tA:=by
 intro f R0 s σ H Q I h;refine isTrue_or (qz (ha R0 s σ H Q I h) λc d e=>?_)
 cases c with
 |false=>exact isTrue_or_nil e
 |true=>exact e
def Er(ha:PT X a tA)(hb:PW X (.BoolOp .And (b::rest) pos) tB'):PW X (.BoolOp .And (a::b::rest) pos) (D9 tA tB'):=by
 intro g R0 s σ H Q I h;refine isTrue_and (qz (ha R0 s σ H _ I h) λc f i=>?_)
 let#[H1,d,e]:=i;cases c with
 |true=>exact hb g R0 f σ H1 Q d e
 |false=>exact#[H1,d,e]
def FX(ha:PT X a tA)(hb:PW X (.BoolOp .Or (b::rest) pos) tB'):PW X (.BoolOp .Or (a::b::rest) pos) (Gg tA tB'):=by
 intro g R0 s σ H Q I h;refine isTrue_or (qz (ha R0 s σ H _ I h) λc f i=>?_)
 let#[H1,d,e]:=i;cases c with
 |true=>exact#[H1,d,e]
 |false=>exact hb g R0 f σ H1 Q d e
def FH(ha:PT X a tA):PT X (.UnaryOp .Not a pos) (EO tA):=by
 intro R0 s σ H Q I h;exact isTrue_not (ha R0 s σ H (λc H1=>Q (! c) H1) I h)
noncomputable def BT(ta tb:TE):TE:=λσ H Q=>ta σ H λx H1=>∃c,x= .bl c/\if c=true then tb σ H1 Q else Q (.bl false) H1
def BP(ta:TE):TE:=λσ H Q=>ta σ H λx H1=>∃c,x= .bl c/\Q (.bl (! c)) H1
def ED{op}(h:PE X a t):PE X (.BoolOp op [a] pos) t:=λR0 s σ H Q I c=>BoolOp_one (h R0 s σ H Q I c)
def El(ha:PE X a ta)(hb:PE X (.BoolOp .And (b::rest) pos) tb):PE X (.BoolOp .And (a::b::rest) pos) (BT ta tb):=by
 intro R0 s σ H Q I h;refine BoolOp_and (qz (ha R0 s σ H _ I h) λv f i=>?_)
 let#[x,H1,e,g,d]:=i;let#[c,rfl,d]:=d;cases g;refine IT ?_
 cases c with
 |true=>exact hb R0 f σ H1 Q e d
 |false=>exact#[.bl false,H1,e,Z,d]
def DP(ha:PE X a ta):PE X (.UnaryOp .Not a pos) (BP ta):=by
 intro R0 s σ H Q I h;refine UnaryOp_ (qz (ha R0 s σ H _ I h) λv i g=>?_)
 let#[x,H1,e,f,d]:=g;let#[c,rfl,d]:=d;cases f;exact not_of (IT #[.bl (! c),H1,e,Z,d])
noncomputable def Gm(t:TT)(ta tb:TE):TE:=λσ H Q=>t σ H λc H1=>if c=true then ta σ H1 Q else tb σ H1 Q
def BL(hc:PT X c tA)(ha:PE X a ta)(hb:PE X b tb):PE X (.IfExp c a b pos) (Gm tA ta tb):=by
 intro R0 s σ H Q I h;refine wpAny_IfExp (qz (hc R0 s σ H _ I h) λd e i=>?_)
 let#[H1,f,g]:=i;cases d with
 |true=>exact ha R0 e σ H1 Q f g
 |false=>exact hb R0 e σ H1 Q f g
end
def HQ(K:ι)(H:Hp)(a:Δ)(xs:Ε):Prop:=
 Rd H a (.lst xs)\/
  ∃(o:Obj) (c:Array Γ) (n:Nat),K.lookup a=↑o/\o.cls= .type "list"/\o.dict=none/\o.data= .seq c n/\c.size<=ζ/\HS xs c.toList
def HX(K:ι)(H:Hp)(a:Δ)(xs:Ε):Prop:=
 Rd H a (.tup xs)\/
  ∃(o:Obj) (c:Array Γ) (n:Nat),K.lookup a=↑o/\o.cls= .type "tuple"/\o.data= .seq c n/\c.size<=ζ/\HS xs c.toList
noncomputable def GO:Γ->Μ
 | .none=>some .non
 | .bool b=>↑(.bl b)
 | .int i _=>↑(.int i)
 | .str x _=>↑(.str x)
 | .bytes b _=>↑(.byt b)
 | .float b _=>↑(.flt b)
 | .ref a=>↑(-a)
 | .type n=>↑(.ty n)
 |_=>none
def HV.abs(r:HV x u):GO u=↑x:=by
 cases x with
 |non=>cases r;rfl
 |bl _=>cases r;rfl
 |int _=>let#[t,rfl]:=r;rfl
 |str _=>let#[t,rfl]:=r;rfl
 |byt _=>let#[t,rfl]:=r;rfl
 |flt _=>let#[t,rfl]:=r;rfl
 |ref _=>cases r;rfl
 |ty _=>cases r;rfl
def HV.inj(r:HV x u)(q:HV y u):x=y:=JE (r.abs.symm.trans q.abs)
theorem HS.inj:∀{xs ys:Ε} {us:Ζ},HS xs us->HS ys us->xs=ys
 :=by
 intro xs ys us h
 induction h generalizing ys with
 |nil=>intro g;cases g;rfl
 |cons r t ih=>intro g;cases g with
  |cons r' t'=>rw[r.inj r',ih t']
def HQ.of{K:ι}(h:H a=↑(.lst xs)):HQ K H a xs:= .inl (.inl h)
def HX.of{K:ι}(h:H a=↑(.tup xs)):HX K H a xs:= .inl (.inl h)
def HN.list(I:HN X R0 σ H s)(h:HQ X.K H a xs):∃c:Ζ,HS xs c/\PlainL s.heap a c.toArray/\xs.length<=ζ:=by
 rcases h with h|⟨o,c,n,hk,g,f,d,i,r⟩
 .let#[z,c,n,r,e]:=h.ok I.hok
  exact#[c,r,#[_,n,e,40],z]
 .exists c.toList,r,#[o,n,I.kIn a o hk,g,f,by simpa using d]
  have e:=r.length;simp only[Jq]at e;lia
def HN.tuple(I:HN X R0 σ H s)(h:HX X.K H a xs):∃c:Ζ,HS xs c/\IsTup s.heap a c.toArray/\xs.length<=ζ:=by
 rcases h with h|⟨o,c,n,hk,d,f,g,r⟩
 .let#[z,c,r,p]:=h.ok I.hok
  exact#[c,r,p,z]
 .exists c.toList,r,#[o,I.kIn a o hk,d,n,by simpa using f]
  have e:=r.length;simp only[Jq]at e;lia
def HN.list_inj(I:HN X R0 σ H s)(h:HQ X.K H a xs)(h':HQ X.K H a ys):xs=ys:=by
 let#[f,r,#[o,n,e,_,_,d],_]:=I.list h;let#[c,i,#[o',j,e',_,_,g],_]:=I.list h';rw[e]at e';cases e'
 rw[d]at g;injection g with d1 _
 have:f=c:=by simpa using J0 OA d1
 subst this;exact r.inj i
def HN.tuple_inj(I:HN X R0 σ H s)(h:HX X.K H a xs)(h':HX X.K H a ys):xs=ys:=by
 let#[f,r,#[o,e,_,n,d],_]:=I.tuple h;let#[c,i,#[o',e',_,j,g],_]:=I.tuple h';rw[e]at e';cases e'
 rw[d]at g;injection g with d1 _
 have:f=c:=by simpa using J0 OA d1
 subst this;exact r.inj i
abbrev Cx.wish(X:Cx)(E:HG):Cx:={X with xe:=E}
abbrev Cx.nox(X:Cx):Cx:=X.wish λ_ _=>False
theorem Cx.Ok.wish{X:Cx}(ok:X.Ok)(E:HG):(X.wish E).Ok:=
 #[ok.mod,ok.kind,ok.glob,ok.blt,ok.above,ok.inj,ok.has,ok.cab,ok.hd,ok.frames,ok.stk,ok.exf,ok.bs,ok.bsz,ok.noex,ok.exfs,ok.funs,ok.frf]
def Cx.Ok.unwish{X:Cx}(ok:(X.wish E).Ok):X.Ok:=
 #[ok.mod,ok.kind,ok.glob,ok.blt,ok.above,ok.inj,ok.has,ok.cab,ok.hd,ok.frames,ok.stk,ok.exf,ok.bs,ok.bsz,ok.noex,ok.exfs,ok.funs,ok.frf]
section
variable{X:Cx}{st:δ}{rest:List δ}{t u:TS}
theorem HN.wish(I:HN X R0 σ H s)(E:HG):HN (X.wish E) R0 σ H s:=#[I.ok.wish E,I.os,I.bare,I.base,I.loc,I.cell,I.free,I.freeC,I.pin,I.hok,I.len]
theorem HN.unwish(I:HN (X.wish E) R0 σ H s):HN X R0 σ H s:=#[I.ok.unwish,I.os,I.bare,I.base,I.loc,I.cell,I.free,I.freeC,I.pin,I.hok,I.len]
theorem SP.unwish(h:SP (X.wish E) R0 D f s'):SP X R0 D f s':=by
 cases f with
 |next=>let#[a,H',I,q]:=h;exact#[a,H',I.unwish,q]
 |brk=>let#[a,H',I,q]:=h;exact#[a,H',I.unwish,q]
 |cont=>let#[a,H',I,q]:=h;exact#[a,H',I.unwish,q]
 |ret u=>let#[v,a,H',I,r,q]:=h;exact#[v,a,H',I.unwish,r,q]
theorem On.nox{st:List δ}{t:TS}(h:On X.nox st t):On X st t:=λR0 s σ H D I a=>
 Jx (h R0 s σ H D (I.wish _) a) (λ_ _ q=>q.unwish) λ_ _ z=>False.elim z
def BZ:TS:=λD σ H=>D.nx σ H
def f8(t u:TS):TS:=λD σ H=>t {D with nx:=u D} σ H
def CU:On X [] BZ:=λ_ _ σ H _ I h=>wpAny_execs_nil #[σ,H,I,h]
def Bs(h1:PS X st t)(h2:On X rest u):On X (st::rest) (f8 t u):=by
 intro R0 s σ H D I h;refine wpAny_execs_cons (qz (h1 R0 s σ H {D with nx:=u D} I h) λf c q=>?_)
 cases f with
 |next=>
  let#[a,H',d,q]:=q;exact h2 R0 c a H' D d q
 |ret v=>exact q
 |brk=>exact q
 |cont=>exact q
def Dx(h1:PS X st t):On X [st] t:=by
 intro R0 s σ H D I h;refine wpAny_execs_cons (qz (h1 R0 s σ H D I h) λf a q=>?_)
 cases f with
 |next=>exact wpAny_execs_nil q
 |ret v=>exact q
 |brk=>exact q
 |cont=>exact q
def HN.quiet{R0:HI}{σ:St}{H:Hp}{s:Θ}(I:HN X R0 σ H s):interactive X.env=false:=by simp [interactive,I.ok.kind]
def B1(te:TE):TS:=λD σ H=>te σ H λ_ H1=>D.nx σ H1
def CW(he:PE X e te)(hs:swapsWith e none pos.line X.env=pure false:=by rfl):PS X (.Expr e pos) (B1 te):=by
 intro R0 s σ H D I h;exact wpAny_Expr_any (qz (he R0 s σ H _ I h) λv d ⟨x,H1,c,f,a⟩=>#[σ,H1,c,a]) I.quiet hs
def DY(te:TE):TS:=λD σ H=>te σ H D.rt
def FE(he:PE X e te):PS X (.Return ↑e pos) (DY te):=by
 intro R0 s σ H D I h;exact wpAny_Return_some (qz (he R0 s σ H _ I h) λv f ⟨x,H1,c,d,a⟩=>#[x,σ,H1,c,d,a])
noncomputable def vk(c:TT)(t u:TS):TS:=λD σ H=>c σ H λb H1=>if b=true then t D σ H1 else u D σ H1
def F8{b:List δ}(hc:PT X c tc)(ha:On X a t)(hb:On X b u):PS X (.If c a b pos) (vk tc t u):=by
 intro R0 s σ H D I h;refine wpAny_If (qz (hc R0 s σ H _ I h) λd e i=>?_)
 let#[H1,f,g]:=i;cases d with
 |true=>exact ha R0 e σ H1 D f g
 |false=>exact hb R0 e σ H1 D f g
def vR:TS:=λ_ _ _=>False
def vX:On X a vR:=λ_ _ _ _ _ _ h=>h.elim
end
abbrev TG:=V->St->Hp->(St->Hp->Prop)->Prop
abbrev ZV:=Ε->St->Hp->(St->Hp->Prop)->Prop
def PG(X:Cx)(a:Φ)(t:TG):Prop:=
 ∀(R0:HI) (s:Θ) (σ:St) (H:Hp) (v:V) (u:Γ) (Q:St->Hp->Prop),HN X R0 σ H s->HV v u->t v σ H Q->
  ε (model X.prog X.w) X.A (assign a X.env u) (λ_ s'=>∃c H',HN X R0 c H' s'/\Q c H') X.xe s
def tH(X:Cx)(d:Ι)(t:ZV):Prop:=
 ∀(R0:HI) (s:Θ) (σ:St) (H:Hp) (vs:Ε) (c:Ζ) (Q:St->Hp->Prop),HN X R0 σ H s->HS vs c->t vs σ H Q->
  ε (model X.prog X.w) X.A (assignInOrder ((assignEach d X.env).map (·.2)) c) (λ_ s'=>∃a H',HN X R0 a H' s'/\Q a H') X.xe s
abbrev iD:=V->V->V->Hp->(Hp->Prop)->Prop
def og(X:Cx)(t:iD):Prop:=
 ∀(R0:HI) (s:Θ) (σ:St) (H:Hp) (o i v:V) (c a u:Γ) (Q:Hp->Prop),HN X R0 σ H s->HV o c->HV i a->HV v u->t o i v H Q->
  ε (model X.prog X.w) X.A (setItem c a u) (λ_ s'=>∃H',HN X R0 σ H' s'/\Q H') X.xe s
abbrev wS:=V->V->Hp->VK->Prop
def ER(X:Cx)(op:Operator)(t:wS):Prop:=
 ∀(R0:HI) (s:Θ) (σ:St) (H:Hp) (x y:V) (v u:Γ) (Q:VK),HN X R0 σ H s->HV x v->HV y u->t x y H Q->
  ε (model X.prog X.w) X.A (inplaceOp op v u) (EP X R0 σ Q) X.xe s
def Qf(i:Nat):TG:=λv σ H Q=>Q (σ.set i ↑v) H
def DL{i:Nat}{x:Str}(hN:X.N.Nodup)(hi:X.N[i]? =↑x)(hx:gq X.env.scope x)(hf:X.fn x=true\/X.env.scope.names.lookup x=some .local:=by first|exact .inl Z|exact .inr Z|assumption):PG X (.Name x pos) (Qf i):=by
 intro R0 s σ H v u Q I r h;exact wpAny_assign_Name (da I hN hi hx r (λs' a=>#[_,H,a,h]) hf)
def pN:ZV:=λvs σ H Q=>vs=[]/\Q σ H
inductive Rc (t:TG)(u:ZV)(vs:Ε)(σ:L2.St)(H:Hp)(Q:L2.St->Hp->Prop):Prop
 |mk (v:_)(r:_)(h1:vs=v::r)(h2:t v σ H λσ' H'=>u r σ' H' Q)
def bQ(t:TG)(u:ZV):ZV:=λvs σ H Q=>Rc t u vs σ H Q
def DK:tH X [] pN:=by
 intro R0 s σ H vs a Q I r h;let#[e,h]:=h;subst e;cases r;exact assignInOrder_nil #[σ,H,I,h]
def BH(h1:PG X e t)(h2:tH X es u)
  (hs:(assignEach (e::es) X.env).map (·.2)=assign e X.env::(assignEach es X.env).map (·.2):=by rfl):tH X (e::es) (bQ t u):=by
 intro R0 s σ H vs l Q I r h;let#[v,j,g,h]:=h;subst g;cases r with
 |cons r rr=>
  rw[hs];refine assignInOrder_cons (qz (h1 R0 s σ H _ _ _ I r h) λ_ c i=>?_)
  let#[a,H1,d,f]:=i;exact h2 R0 c a H1 _ _ Q d rr f
inductive RB (K:ι)(n:Nat)(t:ZV)(v:V)(σ:L2.St)(H:Hp)(Q:L2.St->Hp->Prop):Prop
 |mk (a:_)(xs:_)(h1:v= .ref a)(h2:HX K H a xs)(h3:xs.length=n)(h4:t xs σ H Q)
def pI(K:ι)(n:Nat)(t:ZV):TG:=λv σ H Q=>RB K n t v σ H Q
def nZ{k:Nat}{n:Nat}(hc:X.calm=true)(h:tH X es t)
  (hn:(assignEach es X.env).length=n:=by rfl)(hst:(assignEach es X.env).findIdx? (·.1)=none:=by rfl):PG X (.Tuple es k pos) (pI X.K n t):=by
 intro R0 s σ H v u Q I r c;let#[a,xs,m,i,p,c]:=c;subst m;cases r;let#[l,d,g,q]:=I.tuple i;refine assign_Tuple_tuple (I.ok.hd hc) g (by simp [hn,<- p,d.length]) hst λh' f=>?_
 have j:HN X R0 σ H {s with heap:=h'}:=I.kept (t':=s.toks) λb o e=>f b o (Jm (Jl e)) e
 exact h R0 _ σ H xs _ Q j (by simpa using d) c
noncomputable def FJ(to d:TE)(t:iD):TG:=λv σ H Q=>to σ H λo H1=>d σ H1 λi c=>t o i v c λa=>Q σ a
def EM(ho:PE X o to)(hi:PE X i e)(hs:og X t)
  (ha:∀v,assign (.Subscript o i pos) X.env v=(do
   let a <- holding [v] (eval o X.env)
   let c <- holding [v,a] (eval i X.env)
   standAt pos
   holding [v,a,c] (setItem a c v)
   release [v,a,c] []):=by intro _;rfl):PG X (.Subscript o i pos) (FJ to e t):=by
 intro R0 s σ H v u Q I r h;rw[ha];refine Ja (JM (qz (ho R0 s σ H _ I h) λa f d=>?_))
 let#[x,H1,p,z,q]:=d;refine Ja (JM (qz (hi R0 f σ H1 _ p q) λc j d=>?_))
 let#[y,m,B,n,g]:=d;refine Ja (Ib (Ja (JM (qz (hs R0 j σ m x y v a c u _ B z n r g) λ_ C d=>?_))))
 let#[A,l,w]:=d;exact wpAny_release #[σ,A,l,w]
def c9(te:TE)(g:TG):TS:=λD σ H=>te σ H λx H1=>g x σ H1 D.nx
def Ei(he:PE X e te)(hg:PG X tg g)(hs:swapsWithSole [tg] e pos.line X.env=pure false:=by rfl)(hw:swappedStores [tg] e X.env=pure none:=by rfl)
  (h1:(assignEach [tg] X.env).map (·.2)=[assign tg X.env]:=by rfl):PS X (.Assign [tg] e pos) (c9 te g):=by
 intro R0 s σ H D I h;refine wpAny_Assign_stores (qz (he R0 s σ H _ I h) λv a i=>?_) hs hw
 let#[x,H1,c,f,d]:=i;rw[h1];exact qz (hg R0 a σ H1 x v _ c f d) λ_ j q=>q
def E3{i:Nat}{x:Str}(hN:X.N.Nodup)(hi:X.N[i]? =↑x)(hx:gq X.env.scope x)(he:PE X e te)(hs:swapsWith e ↑(.Name x pos') pos.line X.env=pure false:=by rfl)(hf:X.fn x=true\/X.env.scope.names.lookup x=some .local:=by first|exact .inl Z|exact .inr Z|assumption):
  PS X (.Assign [.Name x pos'] e pos) (c9 te (Qf i)):=by
 intro R0 s σ H D I h;refine wpAny_Assign_Name (qz (he R0 s σ H _ I h) λv j f=>?_) hs
 let#[y,H1,a,d,c]:=f;exact da a hN hi hx d (λl g=>#[_,H1,g,c]) hf
noncomputable def D7(i j:Nat)(ta:TA):TS:=λD σ H=>ta σ H λvs H1=>∃v w,vs=[v,w]/\D.nx ((σ.set i ↑v).set j ↑w) H1
def EZ{i j:Nat}{x y:Str}{a b:Φ}{pt:Pos}{kt k2 pt2}(hc:X.calm=true)(hN:X.N.Nodup)(hi:X.N[i]? =↑x)(F:X.N[j]? =↑y)(t:i≠j)
  (hx:X.env.scope.names.lookup x=some .local)(z:X.env.scope.names.lookup y=some .local)(ha:PA X [a,b] ta)
  (hw:swappedStores [.Tuple [.Name x g,.Name y m] kt pt] (.Tuple [a,b] k2 pt2) X.env=pure (some [x,y]))
  (hs:swapsWithSole [.Tuple [.Name x g,.Name y m] kt pt] (.Tuple [a,b] k2 pt2) pos.line X.env=pure false:=by rfl):
  PS X (.Assign [.Tuple [.Name x g,.Name y m] kt pt] (.Tuple [a,b] k2 pt2) pos) (D7 i j ta):=by
 intro R0 s σ H D I h;rw[exec_Assign_arm];refine Ja (Ib ?_)
 rw[hs];refine Ja (Jd ?_)
 rw[Jb ⋯]
 refine Ja (Tuple_ (qz (ha _ R0 s σ H _ I h) λC d G=>?_))
 let#[vs,H1,A,B,n]:=G;let#[v,w,K,n]:=n;subst K;let#[c,f,rfl,E,r]:∃c f,C=[c,f]/\HV v c/\HV w f:=by
  cases B with
  |cons p q=>
   cases q with
   |cons p' q'=>
    cases q'
    exact#[13,p,p']
 refine J6 ?_ (by show 2<=ζ;decide)
 have L:HN X R0 σ H1 {d with heap:=d.heap.push {cls:= .type "tuple",data:= .seq [c,f].toArray}}:=A.kept (t':=d.toks) λb o e=>Jk _ e
 rw[hw];refine Ja (Jd ?_)
 show ε (model X.prog X.w) X.A (do rule "assign.swapped-stores";let items <- unpackItems (-d.heap.objs.size) 2 none;assignInOrder [λv=>bindName X.env y v,λv=>bindName X.env x v] items.reverse;pure Flow.next) _ _ _
 refine Ja (Ih (Ja (unpackItems_tuple (items:= (AA [c,f])) (I.ok.hd hc) (IsTup.new d.heap _) λh' l=>?_)))
 have J:=L.kept (h':=h') (t':=d.toks) λb o e=>l b o (Jm (Jl e)) e
 show ε _ _ (assignInOrder [λv=>bindName X.env y v,λv=>bindName X.env x v] [f,c] >>= λ_=>pure Flow.next) _ _ _
 refine Ja (assignInOrder_cons (wpAny_bindName (da J hN F (.inl z) r (λN M=>?_) (.inr z))))
 refine assignInOrder_cons (wpAny_bindName (da M hN hi (.inl hx) E (λO u=>assignInOrder_nil (Jd ?_)) (.inr hx)))
 rw[List.set_comm _ _ (Ne.symm t)]at u
 exact#[_,H1,u,n]
noncomputable def Cb(to j te:TE)(a:V->V->Hp->VK->Prop)(d:wS)(c:iD):TS:=λD σ H=>to σ H λo H1=>j σ H1 λi l=>a o i l λx h=>te σ h λy g=>d x y g λz f=>c o i z f λe=>D.nx σ e
def AU(X:Cx)(t:V->V->Hp->VK->Prop):Prop:=
 ∀(R0:HI) (s:Θ) (σ:St) (H:Hp) (o i:V) (c a:Γ) (Q:VK),HN X R0 σ H s->HV o c->HV i a->t o i H Q->
  ε (model X.prog X.w) X.A (getItem c a) (EP X R0 σ Q) X.xe s
def Dy{d:V->V->Hp->VK->Prop}(ho:PE X o to)(hi:PE X i q)(hg:AU X d)(he:PE X e te)(hp:ER X op l)(hs:og X f)
  (ha:∀g j a,augStore i g j a=(do holding [a,g,j] (setItem g j a);release [a,g,j] [];pure .next):=by intros;rfl):PS X (.AugAssign (.Subscript o i m) op e pos) (Cb to q te d l f):=by
 intro R0 s σ H D I h;refine wpAny_AugAssign_SubscriptAny (qz (ho R0 s σ H _ I h) λg O c=>?_) ha
 let#[u,H1,z,r,R]:=c;refine qz (hi R0 O σ H1 _ z R) λj y c=>?_
 let#[t,H2,T,p,Y]:=c;refine qz (hg R0 y σ H2 u t g j _ T r p Y) λn M c=>?_
 let#[N,S,P,G,B]:=c;refine qz (he R0 M σ S _ P B) λv s4 c=>?_
 let#[U,K,W,Q,A]:=c;refine qz (hp R0 s4 σ K N U n v _ W G Q A) λa C c=>?_
 let#[L,H5,E,F,J]:=c;exact qz (hs R0 C σ H5 u t L g j a _ E r p F J) λ_ s6 ⟨x,I6,w⟩=>#[σ,x,I6,w]
noncomputable def GY(f:Int->Int->Int):wS:=λx y H Q=>∃i j,x= .int i/\y= .int j/\Q (.int (f i j)) H
def EF:ER X .Add (GY λi j=>i+j):=by
 intro R0 s σ H x y v u Q I c a h;let#[i,j,e,d,q]:=h;subst e;subst d
 let#[t,rfl]:=c;let#[f,rfl]:=a;exact iadd_int #[.int _,H,I.tok _,#[0],q]
structure It where
 go:Nat->Hp->Prop
 yld:Nat->Hp->V->Hp->Prop
 stop:Nat->Hp->Prop
def Zk(X:Cx)(R0:HI)(H:Hp)(b:Δ):Prop:=
 H b=none/\b≠X.env.locals/\b∉X.fs/\(b∈X.ex\/X.s₀.heap.objs.size<=b)/\(∀x c,X.env.cells.lookup x=↑c->c≠b)/\∀p∈X.pn++R0,p.1≠b
def HN.fpOk{H':Hp}{b:Δ}(I:HN X R0 σ H s)(hb:s.heap.objs.size<=b)(hn:H' b=none):Zk X R0 H' b:=by
 refine#[hn,J1 (JV I.lt hb),I.nofs hb,.inr (JN I.sz hb),λx c e z=>?_,λp a z=>?_]
 .let#[v,q]:=I.cell x c e
  exact absurd (JV q.lt (by rw[z];exact hb)) (Ia _)
 .exact absurd (JV (Jl (I.pin p a).1) (by rw[z];exact hb)) (Ia _)
structure N5(P:Ξ)(w:Ω)(K:ι)(tg:Φ)(J:It)(fp:Η)(it:Δ)(tn:Nat->Ψ->Prop):Prop where
 mem:it∈fp
 obj:∀i h,tn i h->∀b∈fp,∃o,h.get? b=↑o/\∀v,o.data≠ .cell v
 keep:∀i h h',tn i h->(∀b∈fp,∀o,h.get? b=↑o->h'.get? b=↑o)->tn i h'
 item:∀(X:Cx),X.prog=P->X.w=w->X.K=K->X.calm=true->∀(i:Nat) (R0:HI) (s:Θ) (σ:St) (H:Hp) (E:HG),HN X R0 σ H s->(∀b∈fp,Zk X R0 H b)->tn i s.heap->J.go i H->
  ε (model P w) X.A (pyNext (-it)) (λr s1=>∃u,r=↑u/\
   ε (model P w) X.A (letOwnedTupleGo tg (-it) u) (λ_ s2=>∃x H',HN X R0 σ H' s2/\HV x u/\J.yld i H x H'/\tn (i+1) s2.heap/\∀b∈fp,H' b=none) E s1) E s
 done:∀(X:Cx),X.prog=P->X.w=w->X.K=K->X.calm=true->∀(i:Nat) (R0:HI) (s:Θ) (σ:St) (H:Hp) (E:HG),HN X R0 σ H s->(∀b∈fp,Zk X R0 H b)->tn i s.heap->J.stop i H->
  ε (model P w) X.A (pyNext (-it)) (λr s1=>r=none/\HN X R0 σ H s1) E s
 self:∀(A:Rj) (i:Nat) (s:Θ) (Q:HG) (E:HG),tn i s.heap->Q (-it) s->ε (model P w) A (pyIter (-it)) Q E s
abbrev TI:=St->Hp->(It->Hp->Prop)->Prop
def Gn(X:Cx)(R0:HI)(σ:St)(tg:Φ)(R:It->Hp->Prop)(a:Γ)(c:Θ):Prop:=
 ∃(e:Δ) (fp:Η) (d:Nat->Ψ->Prop) (J:It) (H':Hp),a= .ref e/\HN X R0 σ H' c/\N5 X.prog X.w X.K tg J fp e d/\d 0 c.heap/\(∀b∈fp,Zk X R0 H' b)/\R J H'
def PI(X:Cx)(tg a:Φ)(d:TI):Prop:=
 ∀(R0:HI) (s:Θ) (σ:St) (H:Hp) (R:It->Hp->Prop),HN X R0 σ H s->d σ H R->
  ε (model X.prog X.w) X.A (eval a X.env) (λv c=>ε (model X.prog X.w) X.A (pyIter v) (Gn X R0 σ tg R) X.xe c) X.xe s
def dz{s:Θ}{tg:Φ}{it:Δ}{u:Γ}{o:Obj}{Q:Unit->Θ->Prop}(ho:s.heap.get? it=↑o)(hc:o.cls= .type n)(hd:o.data= .fields vs)
    (hn:["enumerate","zip","dict_itemiterator","dict_reverseitemiterator","odict_iterator","itertools.zip_longest","itertools.pairwise"].contains n=false)(a:Q () s):ε M A (letOwnedTupleGo tg (-it) u) Q E s:=by
  unfold letOwnedTupleGo;cases tg<;>first
    |exact Jd a
    |(cases u<;>first
        |exact Jd a
        | (refine Ja (wpAny_load ho ?_)
           rw[hc,hd]
           show ε M A (if(["enumerate","zip","dict_itemiterator","dict_reverseitemiterator","odict_iterator","itertools.zip_longest","itertools.pairwise"].contains n&&vs[0]? ==↑(rawInt _))=true then _ else _) Q E s
           rw[Jb (by intro h;rw[hn,Ii]at h;cases h)]
           exact Jd a))
noncomputable def fV(K:ι)(a:Δ):It:=
 ⟨λi H=>∃xs x,HQ K H a xs/\xs[i]? =↑x,λi H x H'=>H'=H/\∀xs,HQ K H a xs->xs[i]? =↑x,λi H=>∃xs,HQ K H a xs/\xs.length<=i⟩
noncomputable def lc(K:ι)(a:Δ):It:=
 ⟨λi H=>∃xs x,HX K H a xs/\xs[i]? =↑x,λi H x H'=>H'=H/\∀xs,HX K H a xs->xs[i]? =↑x,λi H=>∃xs,HX K H a xs/\xs.length<=i⟩
noncomputable def lF(lo:Int)(n:Nat):It:=⟨λi _=>i<n,λi H x H'=>H'=H/\x= .int (lo+i),λi _=>n<=i⟩
def kH{K:ι}(a it:Δ):N5 P w K tg (fV K a) [it] it (λi h=>h.IsListIter it a i) where
 mem:=by simp
 obj:=λi h st b f=>by
  have e:b=it:=by simpa using f
  subst e;let#[o,e,c,d]:=st
  exact#[o,e,λv z=>by rw[d]at z;cases z]
 keep:=λi h h' st k=>st.at λo e=>k it (by simp) o e
 item:=by
  intro X B C D G i R0 s σ H E I l st A;subst B C D;let#[xs,x,j,m]:=A;let#[y,n,p,R]:=I.list j;let#[u,Q,N]:=n.get m;let#[r,f1,f2,q,t,F]:=l it (by simp)
  refine wpAny_pyNext_list_item st p.isList (x:=u) (by simpa using Q) λh' g O=>?_
  have J:HN X R0 σ H {s with heap:=h'}:=I.turned (t':=s.toks) (λb o f e=>(O.2 b f).trans e) r f1 q t F
  let#[o,e,c,d]:=id g
  exact#[u,Z,dz (s:={s with heap:=h'}) e c d ⋯ #[x,H,J,N,#[Z,λys M=>by rw[I.list_inj M j];exact m],g,λb f=>(l b f).1]]
 done:=by
  intro X B C D G i R0 s σ H E I l st A;subst B C D;let#[xs,j,m]:=A;let#[y,n,p,R]:=I.list j;let#[r,f1,f2,q,t,F]:=l it (by simp)
  have S:=n.length;exact wpAny_pyNext_list_end (I.ok.hd G) st p.isList (by simp;lia) λh' L=>#[Z,I.turned (t':=s.toks) (λb o f e=>L b o f e) r f1 q t F]
 self:=λ_ _ _ _ _ st h=>wpAny_pyIter_listiter st h
def jg{K:ι}(a it:Δ):N5 P w K tg (lc K a) [it] it (λi h=>h.IsTupleIter it a i) where
 mem:=by simp
 obj:=λi h st b g=>by
  have e:b=it:=by simpa using g
  subst e;let#[o,e,c,d]:=st
  exact#[o,e,λv z=>by rw[d]at z;cases z]
 keep:=λi h h' st k=>st.at λo e=>k it (by simp) o e
 item:=by
  intro X B C D G i R0 s σ H E I m st A;subst B C D;let#[xs,x,l,n]:=A;let#[f,q,p,R]:=I.tuple l;let#[u,Q,N]:=q.get n;let#[t,f1,f2,r,y,F]:=m it (by simp)
  refine wpAny_pyNext_tuple_item st (show s.heap.IsTuple a f.toArray from p) (x:=u) (by simpa using Q) λh' j O=>?_
  have J:HN X R0 σ H {s with heap:=h'}:=I.turned (t':=s.toks) (λb o g e=>(O.2 b g).trans e) t f1 r y F
  let#[o,e,c,d]:=id j
  exact#[u,Z,dz (s:={s with heap:=h'}) e c d ⋯ #[x,H,J,N,#[Z,λys M=>by rw[I.tuple_inj M l];exact n],j,λb g=>(m b g).1]]
 done:=by
  intro X B C D G i R0 s σ H E I m st A;subst B C D;let#[xs,l,n]:=A;let#[f,q,p,R]:=I.tuple l;let#[t,f1,f2,r,y,F]:=m it (by simp)
  have S:=q.length;exact wpAny_pyNext_tuple_end (I.ok.hd G) st (show s.heap.IsTuple a f.toArray from p) (by simp;lia) λh' L=>#[Z,I.turned (t':=s.toks) (λb o g e=>L b o g e) t f1 r y F]
 self:=λ_ _ _ _ _ st h=>wpAny_pyIter_tupleiter st h
def uA{K:ι}(it:Δ)(lo:Int)(n:Nat):N5 P w K tg (lF lo n) [it] it (λi h=>IsRangeIter h it (lo+(i:Nat)*1) ((n:Int)-(i:Nat)) 1) where
 mem:=by simp
 obj:=λi h st b a=>by
  have e:b=it:=by simpa using a
  subst e
  exact#[_,st,λv z=>by
   have y:Sf _=SJ v:=z
   cases y]
 keep:=λi h h' st k=>k it (by simp) _ st
 item:=by
  intro X r l m p i R0 s σ H E I d st j;subst r l m;let#[g,f1,f2,f,u,q]:=d it (by simp)
  have W:=Walks.range (prog:=X.prog) (w:=X.w) (I.ok.hd p) it lo 1 n
  refine W.item i s _ _ j st λv h' tk A c B=>?_
  let#[t,rfl]:=A;have x:HN X R0 σ H {s with heap:=h',toks:=tk}:=I.turned (λb o a e=>B b o (by simpa using a) e) g f1 f u q
  refine#[0,dz (s:={s with heap:=h',toks:=tk}) (n:="range_iterator") c Z Z ⋯ #[.int (lo+i),H,x,#[t,?_],#[9],c,λb a=>(d b a).1]]
  rw[Int.mul_one]
 done:=by
  intro X r l m p i R0 s σ H E I d st j;subst r l m;let#[g,f1,f2,f,u,q]:=d it (by simp)
  exact wpAny_pyNext_range_end (I.ok.hd p) st (by have:n<=i:=j;lia) λh' C=>#[Z,I.turned (t':=s.toks) (λb o a e=>C b o a e) g f1 f u q]
 self:=λ_ _ _ _ _ st h=>Mq st h
noncomputable def BV(K:ι)(tl:TE):TI:=λσ H R=>tl σ H λx H1=>∃a,x= .ref a/\(∃xs,HQ K H1 a xs)/\R (fV K a) H1
noncomputable def EA(K:ι)(tl:TE):TI:=λσ H R=>tl σ H λx H1=>∃a,x= .ref a/\(∃xs,HX K H1 a xs)/\R (lc K a) H1
def C2(hl:PE X l tl):PI X tg l (BV X.K tl):=by
 intro R0 s σ H R I h;refine qz (hl R0 s σ H _ I h) λv c f=>?_
 let#[x,H1,d,j,i]:=f;let#[a,e,#[xs,g],q]:=i;subst e;cases j;let#[m,t,p,r]:=d.list g;refine LA p.isList ?_
 refine#[c.heap.objs.size,[c.heap.objs.size],15,H1,Z,d.kept (t':=c.toks) λb o e=>Jk _ e,kH a _,#[_,Jp _ Z,9],λb n=>?_,q]
 have e:b=c.heap.objs.size:=by simpa using n
 subst e;exact d.fpOk (Jf _) (d.hok.fresh (Jf _))
def Eh(hl:PE X l tl):PI X tg l (EA X.K tl):=by
 intro R0 s σ H R I h;refine qz (hl R0 s σ H _ I h) λv c g=>?_
 let#[x,H1,d,m,j]:=g;let#[a,e,#[xs,i],q]:=j;subst e;cases m;let#[f,t,p,r]:=d.tuple i;refine Ld (show c.heap.IsTuple a f.toArray from p) ?_
 refine#[c.heap.objs.size,[c.heap.objs.size],15,H1,Z,d.kept (t':=c.toks) λb o e=>Jk _ e,jg a _,#[_,Jp _ Z,9],λb n=>?_,q]
 have e:b=c.heap.objs.size:=by simpa using n
 subst e;exact d.fpOk (Jf _) (d.hok.fresh (Jf _))
def pG{R:It->Hp->Prop}{lo hi:Int}{tk:Nat}(I:HN X R0 σ H s)(h1: -(2 ^ 62)<=lo)(h2:lo<2 ^ 62)(c: -(2 ^ 62)<=hi)(d:hi<2 ^ 62)
  (q:R (lF lo (hi-lo).toNat) H):ε (model X.prog X.w) X.A (pyIter (-s.heap.objs.size)) (Gn X R0 σ tg R) E {s with heap:=s.heap.push {cls:= .type "range",data:= .fields (AA [.int lo t,.int hi u,.int 1 v])},toks:=tk}:=by
 refine wpAny_pyIter_range (IsRange.new ..) (small_one h1 h2 c d) ?_
 have a:HN X R0 σ H {s with heap:=s.heap.push {cls:= .type "range",data:= .fields (AA [.int lo t,.int hi u,.int 1 v])},toks:=tk}:=I.kept λb o e=>Jk _ e
 refine#[(s.heap.push {cls:= .type "range",data:= .fields (AA [.int lo t,.int hi u,.int 1 v])}).objs.size,[(s.heap.push {cls:= .type "range",data:= .fields (AA [.int lo t,.int hi u,.int 1 v])}).objs.size],15,H,Z,
  a.kept (t':=tk) λb o e=>Jk _ e,uA _ lo (hi-lo).toNat,?_,λb h=>?_,q]
 .have g:lo+((0:Nat):Int)*1=lo:=by simp
  have f:(((hi-lo).toNat:Nat):Int)-((0:Nat):Int)=γ.Range.rangeSize lo hi 1:=by rw[rangeSize_one];split<;>lia
  show IsRangeIter _ _ (lo+((0:Nat):Int)*1) ((((hi-lo).toNat:Nat):Int)-((0:Nat):Int)) 1
  rw[g,f];exact Jp _ Z
 .have e:b=(s.heap.push {cls:= .type "range",data:= .fields (AA [.int lo t,.int hi u,.int 1 v])}).objs.size:=by simpa using h
  subst e;exact a.fpOk (Jf _) (a.hok.fresh (Jf _))
noncomputable def Cn(ta:TA):TI:=λσ H R=>ta σ H λvs H1=>∃j:Int,vs=[.int j]/\ -(2 ^ 62)<=j/\j<2 ^ 62/\R (lF 0 j.toNat) H1
noncomputable def Ck(ta:TA):TI:=λσ H R=>ta σ H λvs H1=>∃i j:Int,vs=[.int i,.int j]/\(-(2 ^ 62)<=i/\i<2 ^ 62/\ -(2 ^ 62)<=j/\j<2 ^ 62)/\R (lF i (j-i).toNat) H1
def yz{a:Φ}{p:Pos}(hg:Gl X "range")(hm:X.mg "range"=none)(ha:PA X [a] ta)(hs:θ [a] X.env=[(false,eval a X.env)]:=by rfl):PI X tg (.Call (.Name "range" p) [a] [] pos) (Cn ta):=by
 intro R0 s σ H R I h;refine Call_ (Zp I hg hm boot_range (Le (qz (ha pos R0 s σ H _ I h) λm l i=>?_) hs Z))
 let#[vs,H1,f,g,c]:=i;let#[j,e,c,d,q]:=c;subst e;cases g with
 |cons r rr=>
  cases rr;let#[t,rfl]:=r;exact call_range_1 (pG f (by lia) (by lia) c d (by simpa using q))
def xg{a b:Φ}{p:Pos}(hg:Gl X "range")(hm:X.mg "range"=none)(ha:PA X [a,b] ta)(hs:θ [a,b] X.env=[(false,eval a X.env),(false,eval b X.env)]:=by rfl)(hs2:θ [b] X.env=[(false,eval b X.env)]:=by rfl):
  PI X tg (.Call (.Name "range" p) [a,b] [] pos) (Ck ta):=by
 intro R0 s σ H R I h;refine Call_ (Zp I hg hm boot_range (Le (qz (ha pos R0 s σ H _ I h) λv u n=>?_) (by rw[hs,hs2]) (by rw[hs2];rfl)))
 let#[vs,H1,g,m,c]:=n;let#[i,j,e,#[c,d,l,f],q]:=c;subst e;cases m with
 |cons r rr=>
  cases rr with
  |cons r' rr=>
   cases rr;let#[t,rfl]:=r;let#[o,rfl]:=r';exact call_range_2 (pG g c d l f q)
noncomputable def Aj(f:TI)(g:TG)(tb:TS):TS:=λD σ H=>f σ H λJ H1=>∃W:Nat->Nat->St->Hp->Prop,(∃m,W 0 m σ H1)/\∀i m σ H,W i m σ H->
 (J.stop i H/\D.nx σ H)\/(J.go i H/\∃N:St->Hp->Prop,(∀a H',N a H'->∃d,d<m/\W (i+1) d a H')/\∀x H',J.yld i H x H'->g x σ H' λc e=>tb {D with nx:=N,ct:=N,bk:=D.nx} c e)
noncomputable def ai(fp:Η)(h:Ψ):List (Δ×Obj):=fp.filterMap λb=>(h.get? b).map λo=>(b,o)
def Qt{fp:Η}{h:Ψ}{b:Δ}{o:Obj}(hb:b∈fp)(e:h.get? b=↑o):(b,o)∈ai fp h:=OB.mpr #[b,hb,by rw[e];rfl]
def kT{p:Δ×Obj}(hp:p∈ai fp h):p.1∈fp/\h.get? p.1=↑p.2:=by
 let#[b,a,e]:=OB.mp hp;cases q:h.get? b with
 |none=>rw[q]at e;cases e
 |some o=>
  rw[q]at e;have e':(b,o)=p:=JE e
  subst e'
  exact#[a,q]
def HN.pinned{fp:Η}(I:HN X R0 σ H s)(hf:∀b∈fp,Zk X R0 H b)(ho:∀b∈fp,∃o,s.heap.get? b=↑o/\∀v,o.data≠ .cell v):HN X (R0++ai fp s.heap) σ H s:=
 I.pins_of λp c=>(JP.mp c).elim (λz=>I.pin p (JQ _ z)) λz=>by
  let#[a,e]:=kT z;let#[f,f1,f2,_]:=hf p.1 a;let#[o,e',d]:=ho p.1 a;rw[e]at e';cases e'
  exact#[e,f,f1,f2,d]
def HN.unpinned{R0 pl:HI}(I:HN X (R0++pl) σ H s):HN X R0 σ H s:=I.pins_of λp a=>I.pin p (JQ _ (LN _ a))
def EK(hp:PassesOwn (model X.prog X.w) X.A X.env X.xe)(hc:X.calm=true)(hi:PI X tg p wi)(hg:PG X tg g)(hb:On X z tb)
  (hs:∀x,foldedSetIterable p X.env x=pure x:=by intro _;rfl):PS X (.For tg p z [] pos) (Aj wi g tb):=by
 intro R0 s σ H D I h;refine wpAny_For (qz (hi R0 s σ H _ I h) λv s1 h1=>qz h1 λa1 s2 h2=>?_) hs
 let#[it,fp,S,J,H2,e,I2,T,M,f2,W,#[m0,w0],turn]:=h2;subst e;have t:∀{H':Hp},(∀b∈fp,H' b=none)->∀b∈fp,Zk X R0 H' b:=λhn b hb=>#[hn b hb,(f2 b hb).2]
 refine codeAny_forLoop_any (λn s'=>∃i q H',HN X R0 q H' s'/\S i s'.heap/\(∀b∈fp,H' b=none)/\W i n q H') ?_ m0 #[(0),σ,H2,I2,M,λb hb=>(f2 b hb).1,w0]
 rintro n U ⟨i,l,K,Y,E,C,w3⟩
 rcases turn i n l K w3 with⟨G,qn⟩|⟨go,N,hN,step⟩
 .refine LO hp (qz (T.done X Z Z Z hc i R0 U l K X.xe Y (t C) E G) λr s4 B=>?_)
  let#[Q,I4]:=B;subst Q;exact wpAny_execs_nil #[l,K,I4,qn]
 .refine LO hp (qz (T.item X Z Z Z hc i R0 U l K X.xe Y (t C) E go) λr s4 B=>?_)
  let#[u,Q,h4]:=B;subst Q;refine LO hp (qz h4 λ_ R B=>?_)
  let#[x,H5,I5,r5,y5,A,L]:=B;have I5':=I5.pinned (t L) (T.obj _ _ A);refine LO hp (qz (hg _ R l H5 x u _ I5' r5 (step x H5 y5)) λ_ s6 B=>?_)
  let#[P,H6,I6,q6]:=B;refine LO hp (qz (hb _ s6 P H6 _ I6 q6) λf O y=>?_)
  have j:∀{a:St} {w:Hp},HN X (R0++ai fp R.heap) a w O->N a w->∃m,m<n/\∃i q H',HN X R0 q H' O/\S i O.heap/\(∀b∈fp,H' b=none)/\W i m q H':=λ{a w} c F=>by
   let#[m',hm,w7]:=hN a w F;refine#[m',hm,i+1,a,w,c.unpinned,T.keep _ _ _ A λb hb o e=>(c.pin (b,o) (JQ _ (JQ _ (Qt hb e)))).1,λb hb=>?_,w7]
   let#[o,e,d]:=T.obj _ _ A b hb
   exact(c.pin (b,o) (JQ _ (JQ _ (Qt hb e)))).2.1
  cases f with
  |next=>let#[a,w,c,F]:=y;exact j c F
  |cont=>let#[a,w,c,F]:=y;exact j c F
  |brk=>let#[a,w,c,y]:=y;exact#[a,w,c.unpinned,y]
  |ret v=>let#[x7,a,w,c,r7,y]:=y;exact#[x7,a,w,c.unpinned,r7,y]
def zQ{K:ι}{xs:Ε}{g:TG}{tb:TS}{D:Ng}{σ:St}{H:Hp}(Pv:Nat->St->Hp->Prop)(l:Pv 0 σ H)(hl:∀i σ H,i<=xs.length->Pv i σ H->HQ K H a xs)
  (hs:∀i x σ H,xs[i]? =↑x->Pv i σ H->g x σ H λc h=>tb {D with nx:=Pv (i+1),ct:=Pv (i+1),bk:=D.nx} c h)(hd:∀σ H,Pv xs.length σ H->D.nx σ H):
  ∃W:Nat->Nat->St->Hp->Prop,(∃m,W 0 m σ H)/\∀i m σ H,W i m σ H->
   ((fV K a).stop i H/\D.nx σ H)\/((fV K a).go i H/\∃N:St->Hp->Prop,(∀d H',N d H'->∃j,j<m/\W (i+1) j d H')/\∀x H',(fV K a).yld i H x H'->g x σ H' λc h=>tb {D with nx:=N,ct:=N,bk:=D.nx} c h):=by
 exists λi m σ H=>m=xs.length-i/\i<=xs.length/\Pv i σ H,#[xs.length,by simp,JB _,l]
 rintro i m σ H ⟨rfl,hi,p⟩
 have q:=hl i σ H hi p
 by_cases f:i<xs.length
 .refine .inr #[#[xs,xs[i],q,by simp [f]],Pv (i+1),λd H' n=>#[xs.length-(i+1),by lia,Z,f,n],λx H' y=>?_]
  let#[e,y]:=y;subst e;exact hs i x σ _ (y xs q) p
 .have e:i=xs.length:=by lia
  subst e;exact .inl #[#[xs,q,Jf _],hd σ H p]
def gB{K:ι}{xs:Ε}{g:TG}{tb:TS}{D:Ng}{σ:St}{H:Hp}(Pv:Nat->St->Hp->Prop)(l:Pv 0 σ H)(hl:∀i σ H,i<=xs.length->Pv i σ H->HX K H a xs)
  (hs:∀i x σ H,xs[i]? =↑x->Pv i σ H->g x σ H λc h=>tb {D with nx:=Pv (i+1),ct:=Pv (i+1),bk:=D.nx} c h)(hd:∀σ H,Pv xs.length σ H->D.nx σ H):
  ∃W:Nat->Nat->St->Hp->Prop,(∃m,W 0 m σ H)/\∀i m σ H,W i m σ H->
   ((lc K a).stop i H/\D.nx σ H)\/((lc K a).go i H/\∃N:St->Hp->Prop,(∀d H',N d H'->∃j,j<m/\W (i+1) j d H')/\∀x H',(lc K a).yld i H x H'->g x σ H' λc h=>tb {D with nx:=N,ct:=N,bk:=D.nx} c h):=by
 exists λi m σ H=>m=xs.length-i/\i<=xs.length/\Pv i σ H,#[xs.length,by simp,JB _,l]
 rintro i m σ H ⟨rfl,hi,p⟩
 have q:=hl i σ H hi p
 by_cases f:i<xs.length
 .refine .inr #[#[xs,xs[i],q,by simp [f]],Pv (i+1),λd H' n=>#[xs.length-(i+1),by lia,Z,f,n],λx H' y=>?_]
  let#[e,y]:=y;subst e;exact hs i x σ _ (y xs q) p
 .have e:i=xs.length:=by lia
  subst e;exact .inl #[#[xs,q,Jf _],hd σ H p]
def Qx{lo:Int}{n:Nat}{g:TG}{tb:TS}{D:Ng}{σ:St}{H:Hp}(Pv:Nat->St->Hp->Prop)(j:Pv 0 σ H)
  (hs:∀i σ H,i<n->Pv i σ H->g (.int (lo+i)) σ H λa f=>tb {D with nx:=Pv (i+1),ct:=Pv (i+1),bk:=D.nx} a f)(hd:∀σ H,Pv n σ H->D.nx σ H):
  ∃W:Nat->Nat->St->Hp->Prop,(∃m,W 0 m σ H)/\∀i m σ H,W i m σ H->
   ((lF lo n).stop i H/\D.nx σ H)\/((lF lo n).go i H/\∃N:St->Hp->Prop,(∀d H',N d H'->∃h,h<m/\W (i+1) h d H')/\∀x H',(lF lo n).yld i H x H'->g x σ H' λa f=>tb {D with nx:=N,ct:=N,bk:=D.nx} a f):=by
 exists λi m σ H=>m=n-i/\i<=n/\Pv i σ H,#[n,by simp,JB _,j]
 rintro i m σ H ⟨rfl,hi,p⟩
 by_cases c:i<n
 .refine .inr #[c,Pv (i+1),λd H' l=>#[n-(i+1),by lia,Z,c,l],λx H' y=>?_]
  let#[e,y]:=y;subst e y;exact hs i σ _ c p
 .have e:i=n:=by lia
  subst e;exact .inl #[Jf _,hd σ H p]
abbrev R2:=V->V->Hp->VK->Prop
def zx(X:Cx)(f:Γ->Γ->Sem Γ)(r:R2):Prop:=
 ∀(R0:HI) (s:Θ) (σ:St) (H:Hp) (x y:V) (v u:Γ) (Q:VK),HN X R0 σ H s->HV x v->HV y u->r x y H Q->
  ε (model X.prog X.w) X.A (f v u) (EP X R0 σ Q) X.xe s
def Cd(X:Cx)(f:Γ->Sem Γ)(r:V->Hp->VK->Prop):Prop:=
 ∀(R0:HI) (s:Θ) (σ:St) (H:Hp) (x:V) (v:Γ) (Q:VK),HN X R0 σ H s->HV x v->r x H Q->
  ε (model X.prog X.w) X.A (f v) (EP X R0 σ Q) X.xe s
def zj(X:Cx)(f:Γ)(r:Ε->Hp->VK->Prop):Prop:=
 ∀(R0:HI) (s:Θ) (σ:St) (H:Hp) (xs:Ε) (a:Ζ) (Q:VK),HN X R0 σ H s->HS xs a->r xs H Q->
  ε (model X.prog X.w) X.A (call f a) (EP X R0 σ Q) X.xe s
noncomputable def kR(r:R2)(ta tb:TE):TE:=λσ H Q=>ta σ H λx H1=>tb σ H1 λy a=>r x y a Q
def Gq(r:V->Hp->VK->Prop)(ta:TE):TE:=λσ H Q=>ta σ H λx H1=>r x H1 Q
inductive RY (C:Int->Int->Prop)(g:Int->Int->V)(x:V)(y:V)(H:Hp)(Q:VK):Prop
 |mk (i:_)(j:_)(h1:x= .int i)(h2:y= .int j)(h3:C i j)(h4:Q (g i j) H)
def rI(C:Int->Int->Prop)(g:Int->Int->V):R2:=λx y H Q=>RY C g x y H Q
inductive RW (g:Int->Int->V)(x:V)(y:V)(H:Hp)(Q:VK):Prop
 |mk (i:_)(j:_)(h1:x= .int i)(h2:y= .int j)(h3:Q (g i j) H)
def ke(g:Int->Int->V):R2:=λx y H Q=>RW g x y H Q
inductive RZ (g:Int->V)(x:V)(H:Hp)(Q:VK):Prop
 |mk (i:_)(h1:x= .int i)(h2:Q (g i) H)
def rU(g:Int->V):V->Hp->VK->Prop:=λx H Q=>RZ g x H Q
section
variable{b:Φ}
def By(ha:PE X a ta)(hb:PE X b tb){R:V->V->Hp->Prop}(I:HN X R0 σ H s)
  (h:ta σ H λx H1=>tb σ H1 λy c=>R x y c){f:Γ->Γ->Sem Γ}
  (hf:∀v u g x y c,HN X R0 σ c g->HV x v->HV y u->R x y c->ε (model X.prog X.w) X.A (f v u) Q X.xe g):
  ε (model X.prog X.w) X.A (eval a X.env) (λv d=>ε (model X.prog X.w) X.A (eval b X.env) (λu e=>ε (model X.prog X.w) X.A (f v u) Q X.xe e) X.xe d) X.xe s:=by
 refine qz (ha R0 s σ H _ I h) λv j i=>?_
 let#[x,H1,n,p,o]:=i;refine qz (hb R0 j σ H1 _ n o) λu g i=>?_
 let#[y,c,q,m,l]:=i;exact hf v u g x y c q p m l
def FV{op:Operator}(ho:zx X (binaryOp op) r)(ha:PE X a ta)(hb:PE X b tb):PE X (.BinOp a op b pos) (kR r ta tb):=by
 intro R0 s σ H Q I h;exact wpAny_BinOp (By ha hb I h λv u c x y f g e d q=>ho R0 c σ f x y v u Q g e d q)
def F7{op:UnaryOp}{r:V->Hp->VK->Prop}(ho:Cd X (unaryOp op) r)(ha:PE X a ta):PE X (.UnaryOp op a pos) (Gq r ta):=by
 intro R0 s σ H Q I h;exact UnaryOp_ (qz (ha R0 s σ H _ I h) λv c ⟨x,H1,e,f,d⟩=>ho R0 c σ H1 x v Q e f d)
def B6{f:Γ->Γ->Sem Γ}{C:Int->Int->Prop}{g:Int->Int->Int}
  (a:∀(i j:Int) (t u:Tok) (s:Θ) (Q:HG) (E:HG),C i j->Q (.int (g i j) s.toks) {s with toks:=s.toks+1}->ε (model X.prog X.w) X.A (f (.int i t) (.int j u)) Q E s):
  zx X f (rI C λi j=> .int (g i j)):=by
 intro R0 s σ H x y v u Q I l e h;let#[i,j,rfl,rfl,d,q]:=h;let#[t,rfl]:=l;let#[c,rfl]:=e;exact a i j t c s _ _ d #[.int (g i j),H,I.tok _,#[0],q]
def Eo{f:Γ->Γ->Sem Γ}{g:Int->Int->Int}
  (a:∀(i j:Int) (t u:Tok) (s:Θ) (Q:HG) (E:HG),Q (.int (g i j) s.toks) {s with toks:=s.toks+1}->ε (model X.prog X.w) X.A (f (.int i t) (.int j u)) Q E s):
  zx X f (ke λi j=> .int (g i j)):=by
 intro R0 s σ H x y v u Q I e d h;let#[i,j,rfl,rfl,q]:=h;let#[t,rfl]:=e;let#[c,rfl]:=d;exact a i j t c s _ _ #[.int (g i j),H,I.tok _,#[0],q]
def vo{f:Γ->Γ->Sem Γ}{g:Int->Int->Bool}
  (a:∀(i j:Int) (t u:Tok) (s:Θ) (Q:HG) (E:HG),Q (.bool (g i j)) s->ε (model X.prog X.w) X.A (f (.int i t) (.int j u)) Q E s):
  zx X f (ke λi j=> .bl (g i j)):=by
 intro R0 s σ H x y v u Q I e d h;let#[i,j,rfl,rfl,q]:=h;let#[t,rfl]:=e;let#[c,rfl]:=d;exact a i j t c s _ _ #[.bl (g i j),H,I,Z,q]
def GE(i j:Int):Prop:=0<j/\j<1073741824
def Gx(i j:Int):Prop:=0<=j/\j<=1000000/\i.natAbs<2 ^ 64
def Re(i j:Int):Prop:=(-(2 ^ 64)<i/\i<2 ^ 64)\/(-(2 ^ 64)<j/\j<2 ^ 64)
def Re.ok(h:Re i j):IntMulOk i j:=by
 rcases h with⟨h1,a⟩|⟨h1,a⟩
 .exact .of_left (intBits_le_64 h1 a)
 .exact .of_right (intBits_le_64 h1 a)
def qM:zx X (binaryOp .Add) (ke λi j=> .int (i+j)):=Eo λ_ _ _ _ _ _ _ q=>add_int q
def Qu:zx X (binaryOp .Sub) (ke λi j=> .int (i-j)):=Eo λ_ _ _ _ _ _ _ q=>sub_int q
def ZI:zx X (binaryOp .Mult) (rI Re λi j=> .int (i*j)):=B6 λ_ _ _ _ _ _ _ a q=>mul_int q a.ok
def cJ:zx X (binaryOp .FloorDiv) (rI GE λi j=> .int (i/j)):=B6 λi j _ _ _ _ _ a q=>by
 have h1:(0:Int)<j:=a.1
 have c:j<1073741824:=a.2
 exact floordiv_int (by lia) (by rw[Int.fdiv_eq_ediv_of_nonneg i (by lia)];exact q) (.inl (PyProof.noPylong_small (by lia)))
def Qy:zx X (binaryOp .Mod) (rI (λ_ j=>0<j) λi j=> .int (i%j)):=B6 λi j _ _ _ _ _ a q=>by
 have h1:(0:Int)<j:=a
 exact mod_int' (by lia) (by rw[Int.fmod_eq_emod_of_nonneg i (by lia)];exact q)
def D8:zx X (binaryOp .Pow) (rI Gx λi j=> .int (i ^ j.toNat)):=B6 λ_ _ _ _ _ _ _ a q=>pow_int_small a.1 a.2.1 a.2.2 q
def GW{f:Γ->Sem Γ}{g:Int->Int}
  (a:∀(i:Int) (t:Tok) (s:Θ) (Q:HG) (E:HG),Q (.int (g i) s.toks) {s with toks:=s.toks+1}->ε (model X.prog X.w) X.A (f (.int i t)) Q E s):
  Cd X f (rU λi=> .int (g i)):=by
 intro R0 s σ H x v Q I c h;let#[i,rfl,q]:=h;let#[t,rfl]:=c;exact a i t s _ _ #[.int (g i),H,I.tok _,#[0],q]
def i8:Cd X (unaryOp .USub) (rU λi=> .int (Neg.neg i)):=GW λ_ _ _ _ _ q=>neg_int q
end
noncomputable def FB:V->V->Bool
 | .non,.non=>true| .non,.int _=>true| .int _,.non=>true| .non,.bl _=>true| .bl _,.non=>true| .non,.str _=>true| .str _,.non=>true
 | .int _,.int _=>true| .bl _,.bl _=>true| .str _,.str _=>true| .byt _,.byt _=>true
 | .int _,.str _=>true| .str _,.int _=>true| .bl _,.str _=>true| .str _,.bl _=>true
 |_,_=>false
def GV:R2:=λx y H Q=>FB x y=true/\Q (.bl (decide (x=y))) H
def GR:R2:=λx y H Q=>FB x y=true/\Q (.bl (! decide (x=y))) H
def tz:decide (V.int i=V.int j)=(i==j):=by
 rw[Iu];simp
def wf:decide (V.bl i=V.bl j)=(i==j):=by
 rw[Iu];simp
def tL:decide (V.str i=V.str j)=(i==j):=by
 rw[Iu];simp
def rN:decide (V.byt i=V.byt j)=(i.toList==j.toList):=by
 rw[Iu];cases i;cases j;simp
section
variable{b:Φ}
def qU{Q:VK}{k a:Bool}(I:HN X R0 σ H s)(q:Q (.bl k) H)(e:k=a):EP X R0 σ Q (.bool a) s:=by
 subst e
 exact#[.bl k,H,I,Z,q]
def zu:zx X (Py .Eq) GV:=by
 intro R0 s σ H x y v u Q I e a h;let#[d,q]:=h;cases x with
 |non=>
  cases e;cases y with
  |non=>cases a;exact PySem.EqNone.eq_none_none (qU I q (by simp))
  |bl j=>cases a;exact PySem.EqNone.eq_none_bool (qU I q (by simp))
  |int j=>let#[c,rfl]:=a;exact PySem.EqNone.eq_none_int (qU I q (by simp))
  |str j=>let#[c,rfl]:=a;exact PySem.EqNone.eq_none_str (qU I q (by simp))
  |_=>exact absurd (show false=true from d) JK
 |bl i=>
  cases e;cases y with
  |non=>cases a;exact PySem.EqNone.eq_bool_none (qU I q (by simp))
  |bl j=>cases a;exact eq_bool (qU I q wf)
  |str j=>let#[c,rfl]:=a;exact PySem.EqMixed.eq_bool_str (qU I q (by simp))
  |_=>exact absurd (show false=true from d) JK
 |int i=>
  let#[t,rfl]:=e;cases y with
  |non=>cases a;exact PySem.EqNone.eq_int_none (qU I q (by simp))
  |int j=>let#[c,rfl]:=a;exact eq_int (qU I q tz)
  |str j=>let#[c,rfl]:=a;exact PySem.EqMixed.eq_int_str (qU I q (by simp))
  |_=>exact absurd (show false=true from d) JK
 |str i=>
  let#[t,rfl]:=e;cases y with
  |non=>cases a;exact PySem.EqNone.eq_str_none (qU I q (by simp))
  |bl j=>cases a;exact PySem.EqMixed.eq_str_bool (qU I q (by simp))
  |int j=>let#[c,rfl]:=a;exact PySem.EqMixed.eq_str_int (qU I q (by simp))
  |str j=>let#[c,rfl]:=a;exact eq_str (qU I q tL)
  |_=>exact absurd (show false=true from d) JK
 |byt i=>
  let#[t,rfl]:=e;cases y with
  |byt j=>let#[c,rfl]:=a;exact W.eq_bytes (qU I q rN)
  |_=>exact absurd (show false=true from d) JK
 |_=>cases y<;>exact absurd (show false=true from d) JK
def Z9:zx X (Py .NotEq) GR:=by
 intro R0 s σ H x y v u Q I e a h;let#[d,q]:=h;cases x with
 |non=>
  cases e;cases y with
  |non=>cases a;exact PySem.EqNone.ne_none_none (qU I q (by simp))
  |bl j=>cases a;exact PySem.EqNone.ne_none_bool (qU I q (by simp))
  |int j=>let#[c,rfl]:=a;exact PySem.EqNone.ne_none_int (qU I q (by simp))
  |str j=>let#[c,rfl]:=a;exact PySem.EqNone.ne_none_str (qU I q (by simp))
  |_=>exact absurd (show false=true from d) JK
 |bl i=>
  cases e;cases y with
  |non=>cases a;exact PySem.EqNone.ne_bool_none (qU I q (by simp))
  |bl j=>cases a;exact ne_bool (qU I q (J0 not wf))
  |str j=>let#[c,rfl]:=a;exact PySem.EqMixed.ne_bool_str (qU I q (by simp))
  |_=>exact absurd (show false=true from d) JK
 |int i=>
  let#[t,rfl]:=e;cases y with
  |non=>cases a;exact PySem.EqNone.ne_int_none (qU I q (by simp))
  |int j=>let#[c,rfl]:=a;exact ne_int (qU I q (J0 not tz))
  |str j=>let#[c,rfl]:=a;exact PySem.EqMixed.ne_int_str (qU I q (by simp))
  |_=>exact absurd (show false=true from d) JK
 |str i=>
  let#[t,rfl]:=e;cases y with
  |non=>cases a;exact PySem.EqNone.ne_str_none (qU I q (by simp))
  |bl j=>cases a;exact PySem.EqMixed.ne_str_bool (qU I q (by simp))
  |int j=>let#[c,rfl]:=a;exact PySem.EqMixed.ne_str_int (qU I q (by simp))
  |str j=>let#[c,rfl]:=a;exact ne_str (qU I q (J0 not tL))
  |_=>exact absurd (show false=true from d) JK
 |byt i=>
  let#[t,rfl]:=e;cases y with
  |byt j=>let#[c,rfl]:=a;exact W.ne_bytes (qU I q (J0 not rN))
  |_=>exact absurd (show false=true from d) JK
 |_=>cases y<;>exact absurd (show false=true from d) JK
def bP:zx X (Py .Lt) (ke λi j=> .bl (decide (i<j))):=vo λ_ _ _ _ _ _ _ q=>lt_int q
def Z8:zx X (Py .LtE) (ke λi j=> .bl (decide (i<=j))):=vo λ_ _ _ _ _ _ _ q=>le_int q
def B9:zx X (Py .Gt) (ke λi j=> .bl (decide (j<i))):=vo λ_ _ _ _ _ _ _ q=>gt_int q
def iX:zx X (Py .GtE) (ke λi j=> .bl (decide (j<=i))):=vo λ_ _ _ _ _ _ _ q=>ge_int q
def zX:zx X (Py .Is) (λx y H Q=>y= .non/\Q (.bl (decide (x= .non))) H):=by
 intro R0 s σ H x y v u Q I a c h;let#[rfl,q]:=h;cases c;refine is_none_gen (qU I q ?_)
 cases x<;>first
  |(cases a;rfl)
  |(let#[t,rfl]:=a;rfl)
def Z1:zx X (Py .IsNot) (λx y H Q=>y= .non/\Q (.bl (! decide (x= .non))) H):=by
 intro R0 s σ H x y v u Q I a c h;let#[rfl,q]:=h;cases c;refine isnot_none_gen (qU I q ?_)
 cases x<;>first
  |(cases a;rfl)
  |(let#[t,rfl]:=a;rfl)
def qq(b:Φ){op:CmpOp}(h:op≠ .In:=by decide)(h2:op≠ .NotIn:=by decide):behindInMarks op b=false:=by
 have a:(op==CmpOp.In)=false:=by cases op<;>first|rfl|exact absurd Z h
 have c:(op==CmpOp.NotIn)=false:=by cases op<;>first|rfl|exact absurd Z h2
 cases b<;>simp [behindInMarks,a,c]
def DE{op:CmpOp}(ho:zx X (Py op) r)(ha:PE X a ta)(hb:PE X b tb)(hm:behindInMarks op b=false):PE X (.Compare a [op] [b] pos) (kR r ta tb):=by
 intro R0 s σ H Q I h;exact wpAny_Compare1 (By ha hb I h λv u c x y f g e d q=>ho R0 c σ f x y v u Q g e d q) hm
def gL(t:TE):TT:=λσ H Q=>t σ H λx H'=>∃k,x= .bl k/\Q k H'
def DI{op:CmpOp}(ho:zx X (Py op) r)(ha:PE X a ta)(hb:PE X b tb)(hm:behindInMarks op b=false):PT X (.Compare a [op] [b] pos) (gL (kR r ta tb)):=by
 intro R0 s σ H Q I h;refine wpAny_isTrue_Compare1 (qz (ha R0 s σ H _ I h) λv d ⟨x,H1,m,p,n⟩=>qz (hb R0 d σ H1 _ m n) λu g ⟨y,t,w,l,f⟩=>
  qz (ho R0 g σ t x y v u _ w p l f) λc A ⟨z,q,i,j,k,e,o⟩=>?_) hm
 subst e;cases j;exact IT #[q,i,o]
noncomputable def i4(r d:R2)(ta tb tc:TE):TE:=λσ H Q=>ta σ H λx H1=>tb σ H1 λy e=>r x y e λz a=>∃k,z= .bl k/\
 (if k=true then tc σ a λf c=>d y f c Q else Q (.bl false) a)
def Aw{op f:CmpOp}(ho:zx X (Py op) r)(ho':zx X (Py f) m)(ha:PE X a ta)(hb:PE X b tb)(hc:PE X c tc)
  (hm:lastMarks [op,f] [b,c]=false:=by with_unfolding_all rfl):PE X (.Compare a [op,f] [b,c] pos) (i4 r m ta tb tc):=by
 intro R0 s σ H Q I h;refine Compare_chain (qz (ha R0 s σ H _ I h) λv C ⟨x,H1,q,t,E⟩=>chain_link (qz (hb R0 C σ H1 _ q E) λu n ⟨y,o,F,g,J⟩=>
  qz (ho R0 n σ o x y v u _ F t g J) λd B ⟨z,l,j,w,k,e,i⟩=>?_)) hm
 subst e;cases w;refine IT ?_
 cases k with
 |false=>exact ite_ff #[.bl false,l,j,Z,i]
 |true=>exact ite_tt (chain_last (qz (hc R0 B σ l _ j i) λM K ⟨L,A,G,D,p⟩=>ho' R0 K σ A y L u M Q G g D p))
def AE{op f:CmpOp}(ho:zx X (Py op) r)(ho':zx X (Py f) m)(ha:PE X a ta)(hb:PE X b tb)(hc:PE X c tc)
  (hm:lastMarks [op,f] [b,c]=false:=by with_unfolding_all rfl):PT X (.Compare a [op,f] [b,c] pos) (gL (i4 r m ta tb tc)):=by
 intro R0 s σ H Q I h;refine isTrue_chain (qz (ha R0 s σ H _ I h) λv J ⟨x,H1,q,t,L⟩=>test_link (qz (hb R0 J σ H1 _ q L) λu n ⟨y,o,N,g,P⟩=>
  qz (ho R0 n σ o x y v u _ N t g P) λd G ⟨z,l,j,B,k,e,i⟩=>?_)) hm
 subst e;cases B;refine IT ?_
 cases k with
 |false=>
  let#[k',e',M]:=i;cases e';exact ite_ff #[l,j,M]
 |true=>
  refine ite_tt (test_last (qz (hc R0 G σ l _ j i) λU S ⟨T,D,O,K,p⟩=>qz (ho' R0 S σ D y T u U _ O g K p) λY W F=>?_))
  let#[z2,R,w,A,k2,E,C]:=F;subst E;cases A;exact IT #[R,w,C]
def af:(ζ:Nat)<2 ^ 63:=by rw[JD];decide
def zT{x:V}(r:HS [x] us):∃u,us=[u]/\HV x u:=by
 cases r with
 |cons r1 r2=>cases r2;exact#[0,r1]
def gt{x y:V}(r:HS [x,y] us):∃u a,us=[u,a]/\HV x u/\HV y a:=by
 cases r with
 |cons r1 r2=>
  cases r2 with
  |cons r3 r4=>cases r4;exact#[13,r1,r3]
def oI:zj X (.builtin "abs") (λxs H Q=>∃i,xs=[.int i]/\Q (.int (if i<0 then (Neg.neg i) else i)) H):=by
 intro R0 s σ H xs a Q I r h;let#[i,rfl,q]:=h;let#[u,rfl,t,rfl]:=zT r;exact call_abs_int λu tk=>#[.int (if i<0 then (Neg.neg i) else i),H,I.tok _,#[0],q]
def bJ(hc:X.calm=true):zj X (.builtin "max") (λxs H Q=>∃i j,xs=[.int i,.int j]/\Q (.int (if j>i then j else i)) H):=by
 intro R0 s σ H xs d Q I r h;let#[i,j,rfl,q]:=h;let#[u,e,rfl,#[t,rfl],#[c,rfl]]:=gt r;refine max_two_ints (I.ok.hd hc) λh' tk k=>#[_,H,I.kept k,?_,q]
 by_cases a:j>i
 .rw[Jc a,Jc a];exact#[0]
 .rw[Jb a,Jb a];exact#[0]
def Q7(hc:X.calm=true):zj X (.builtin "min") (λxs H Q=>∃i j,xs=[.int i,.int j]/\Q (.int (if j<i then j else i)) H):=by
 intro R0 s σ H xs d Q I r h;let#[i,j,rfl,q]:=h;let#[u,e,rfl,#[t,rfl],#[c,rfl]]:=gt r;refine min_two_ints (I.ok.hd hc) λh' tk k=>#[_,H,I.kept k,?_,q]
 by_cases a:j<i
 .rw[Jc a,Jc a];exact#[0]
 .rw[Jb a,Jb a];exact#[0]
def wF:zj X (.type "int") (λxs H Q=>(∃i,xs=[.int i]/\Q (.int i) H)\/∃k,xs=[.bl k]/\Q (.int (if k then 1 else 0)) H):=by
 intro R0 s σ H xs c Q I r h;rcases h with⟨i,rfl,q⟩|⟨k,rfl,q⟩
 .let#[u,rfl,t,rfl]:=zT r
  exact call_int_int #[.int i,H,I,#[0],q]
 .let#[u,rfl,a]:=zT r
  cases a;exact call_int_bool #[.int (if k then 1 else 0),H,I.tok _,#[0],q]
def nv:zj X (.builtin "ord") (λxs H Q=>∃x,xs=[.str x]/\x.length=1/\Q (.int (x.cps.getD 0 0:Nat)) H):=by
 intro R0 s σ H xs c Q I r h;let#[x,rfl,a,q]:=h;let#[u,rfl,t,rfl]:=zT r;exact ord_of_one a #[.int _,H,I.tok _,#[0],q]
end
structure Oo(h:Ψ)(x dx C:Δ)(mA:HH):Prop where
 obj:h.get? x=↑(PySem.W.instObj C dx)
 ns:h.Ns1 dx mA
 ne:dx≠x
def xv{h:Ψ}(n:h.Ns1 dx mA):∃od,h.get? dx=↑od/\∀name,W.lookIn name od=↑(mA name):=by
 let#[o,es,ep,i,d,hk,_,g]:=n;refine#[o,i,λname=>?_]
 have e:=g name;unfold nsFind findBy at e;rw[<- Array.find?_toList]at e;unfold W.lookIn;rw[d]
 dsimp only
 split
 .rename_i y q
  rw[q]at e;exact J0 some e
 .rename_i q
  rw[q]at e;have a:es.toList.any (·.refKey)=false:=by
   rw[OC];intro y j;let#[z,t,c]:=hk y (Array.mem_toList_iff.mp j)
   simp [DictEntry.refKey,c]
  have f:¬es.toList.any (·.refKey)=true:=by rw[a];exact JK
  rw[Jb f];exact J0 some e
def Oo.look(I:Oo h x dx C mA):∃od,W.InstAt h x (TJ C dx) C ↑od/\∀name,W.lookIn name od=↑(mA name):=
 let⟨od,ho,hl⟩:=xv I.ns
 #[od,#[I.obj,9,ho],hl]
section
variable{K:ι}
def CS{a:Bool}{Q:HG}(X:K.In s.heap)(I:Oo s.heap x dx C mA)(hg:W.plainGet K C name=true)(d:W.hasDictIn K C=true)
  (ha:SA K (-C) name=↑none)(hv:mA name=↑v)(c:W.handedIn v=true)(h:Q v {s with toks:=s.toks+1}):
  ε (model prog w) A (getAttr (-x) name a) Q E s:=by
 let#[od,J,e]:=I.look;exact W.get_value X J (W.plainGet_of hg).1 (W.findObj_own d ha Z (by rw[e,hv])) c h
def Ar{pl:Sem Bool}{Q:Γ×Ζ->Θ->Prop}(X:K.In s.heap)(I:Oo s.heap x dx C mA)(hg:W.plainGet K C name=true)
  (hf:SA K (-C) name=↑(↑(-f)))(c:W.isFn K (-f)=true)(hv:mA name=none)(h:Q (-f,[-x]) s):
  ε (model prog w) A (getMethod (-x) name pl) Q E s:=by
 let#[od,J,a]:=I.look;exact W.method_fn X J (W.plainGet_of hg).1 (W.plainGet_of hg).2 hf (J7.mp c) (by show(W.lookIn name od).map (·.isSome)=↑false;rw[a,hv];rfl) h
def Dm{Q:Unit->Θ->Prop}(X:K.In s.heap)(I:Oo s.heap x dx C mA)
  (hs:SA K (-C) "__setattr__"=↑(↑(.builtin "object.__setattr__")))(hp:W.plainOver K C=true)(l:W.takerIn K C name=↑none)(m:W.hasDictIn K C=true)
  (hw:PySem.Within mA ns)(hsz:ns.length<=ζ)
  (h:∀h',Oo h' x dx C (λy=>if y=name then ↑v else mA y)->Ψ.SameBut dx s.heap h'->Q () {s with heap:=h',toks:=s.toks+2}):
  ε (model prog w) A (setAttr (-x) name v) Q E s:=by
 let#[od,J,q]:=I.look;refine W.set_plain X J hs (W.osa_open (s:={s with toks:=s.toks+1}) (r:=none) X J hp l λb=>?_)
 let#[cd,n,f]:=W.any_some m;have j:s.heap.get? x=some #[-C,↑dx,.plain,(AA [])]:=I.obj
 refine Ja (Jd (Ja (Ja (wpAny_loadPart j (Ja (W.Looks.here (s:={s with toks:=s.toks+1}) (W.looks_clsIn X n) ?_))))))
 rw[f];refine Jd (a:=↑dx) (Ja (Jd (Ja ?_)))
 refine wpAny_nsSet1 (s:={s with toks:=s.toks+1}) I.ns λh' c d=>?_
 let#[t,p,o,i,g,e]:=c.count (PySem.Within.cons name v hw)
 refine Ja (wpAny_lookBehind i (by rw[g];exact pastItsLine_dict (JN e (by rw[JR];lia))) ?_)
 exact Jd (h _ #[(d.2 _ (Ne.symm I.ne)).trans I.obj,c,I.ne] d)
def AR{R:Result->Θ->Prop}{vs:Ζ}{c:List (Str×Γ)}(X:K.In s.heap)(hm:W.makesIn K C=true)
  (hi:SA K (-C) "__init__"=↑(↑(-f)))(hf:W.typeIn K (-f)=↑(.type "function"))
  (h:codeAny (model prog w) (A.under (.builtin "type.__call__" #[.ref C::vs,c])) (.call (-f) #[.ref (s.heap.objs.size+1)::vs,c]) (W.InitBack (s.heap.objs.size+1) R)
   {s with heap:=(s.heap.push SE).push (TJ C s.heap.objs.size)}):
  codeAny (model prog w) A (.call (-C) #[vs,c]) R s:=by
 let#[i,g,d,t,e]:=s;exact W.make_core (W.makes_of X hm) (W.looks_findIn X hi) (λa=>W.bind_fn X a hf) (.inl Z) h
end
noncomputable def QF(f:Str)(v:V):List (Str×V)->List (Str×V)
 | []=>[(f,v)]
 |(g,x)::r=>if g=f then(g,v)::r else(g,x)::QF f v r
theorem gW(f g:Str)(v:V):∀fs:List (Str×V),(QF f v fs).lookup g=if g=f then ↑v else fs.lookup g
 | []=>by
  show KH g [(f,v)]=_
  by_cases h:g=f
  .have a:(g==f)=true:=J7.mpr h
   simp only[KH,a,Jc h]
  .have a:(g==f)=false:=IS.mpr h
   simp only[KH,a,Jb h]
 |(k,x)::r=>by
  have c:=gW f g v r;rw[show QF f v ((k,x)::r)=(if k=f then(k,v)::r else(k,x)::QF f v r)from Z]
  by_cases hk:k=f
  .rw[Jc hk]
   by_cases h:g=k
   .have a:(g==k)=true:=J7.mpr h
    simp only[KH,a,Jc (h.trans hk)]
   .have a:(g==k)=false:=IS.mpr h
    simp only[KH,a,Jb (λe:g=f=>h (e.trans hk.symm))]
  .rw[Jb hk]
   by_cases h:g=k
   .have a:(g==k)=true:=J7.mpr h
    simp only[KH,a,Jb (λe:g=f=>hk (h.symm.trans e))]
   .have a:(g==k)=false:=IS.mpr h
    simp only[KH,a];exact c
theorem fJ(f:Str)(v:V):∀fs:List (Str×V),f∈(QF f v fs).map (·.1)/\∀g,g∈fs.map (·.1)->g∈(QF f v fs).map (·.1)
 | []=>#[by simp [QF],λg h=>by simp at h]
 |(k,x)::r=>by
  let#[i1,i2]:=fJ f v r;rw[show QF f v ((k,x)::r)=(if k=f then(k,v)::r else(k,x)::QF f v r)from Z]
  by_cases hk:k=f
  .rw[Jc hk]
   subst hk
   exact#[by simp,λg h=>by simpa using h]
  .rw[Jb hk]
   refine#[?_,λg h=>?_]
   .rw[JS]
    exact Jv _ i1
   .rw[JS]at h⊢
    rcases Jg.mp h with e|e
    .exact Jg.mpr (.inl e)
    .exact Jv _ (i2 g e)
theorem gX(f:Str)(v:V):∀fs:List (Str×V),(QF f v fs).length<=fs.length+1
 | []=>by simp [QF]
 |(k,x)::r=>by
  have a:=gX f v r;rw[show QF f v ((k,x)::r)=(if k=f then(k,v)::r else(k,x)::QF f v r)from Z]
  by_cases hk:k=f
  .rw[Jc hk,JR,JR];lia
  .rw[Jb hk,JR,JR];lia
def NK.some_of{v:V}(r:NK ↑v o):∃u,o=↑u/\HV v u:=by
 cases o with
 |none=>exact(show False from r).elim
 |some u=>exact#[u,Z,r]
def NK.none_of(r:NK none o):o=none:=by
 cases o with
 |none=>rfl
 |some u=>exact(show False from r).elim
def xr(r:HV v u):W.handedIn u=true:=by
 cases v with
 |non=>cases(show u=Γ.none from r);rfl
 |bl b=>cases(show u=Γ.bool b from r);rfl
 |int i=>let#[t,e]:=(show∃t,u=Γ.int i t from r);cases e;rfl
 |str x=>let#[t,e]:=(show∃t,u=Γ.str x t from r);cases e;rfl
 |byt b=>let#[t,e]:=(show∃t,u=Γ.bytes b t from r);cases e;rfl
 |flt b=>let#[t,e]:=(show∃t,u=Γ.float b t from r);cases e;rfl
 |ref a=>cases(show u=Γ.ref a from r);rfl
 |ty n=>cases(show u=Γ.type n from r);rfl
section
variable{fs:List (Str×V)}
def gH(c:NW P w H h)(e:H a=↑(.ins C dx fs)):∃mA,Oo h a dx C mA/\(∀f,NK (fs.lookup f) (mA f))/\PySem.Within mA (fs.map (·.1))/\fs.length<=1000/\H dx=↑(.own a):=by
 let#[d,z,ne,g,mA,n,r,q]:=(show ML P w H h a (.ins C dx fs)from c a _ e)
 exact#[mA,#[g,n,ne],r,q,z,d]
end
structure OK(K:ι)(C:Δ):Prop where
 pg:PySem.W.plainGet K C Str.empty=true
 hd:PySem.W.hasDictIn K C=true
 po:PySem.W.plainOver K C=true
 sa:SQ K (-C) "__setattr__"=↑(↑(.builtin "object.__setattr__"))
def OK.get{K:ι}(c:OK K C)(f:Str):W.plainGet K C f=true:=c.pg
def MT(K:ι)(C:Δ)(f:Str):Prop:=SQ K (-C) f=↑none
def MT.taker{K:ι}(n:MT K C f):W.takerIn K C f=↑none:=by
 unfold W.takerIn;rw[show SA K (-C) f=↑none from n]
 rfl
structure PU(K:ι)(C:Δ)(m:Str)(f:Δ):Prop where
 at_:SQ K (-C) m=↑(↑(-f))
 fn:PySem.W.isFn K (-f)=true
 kp:SR K (-f)=true
section
variable{fs:List (Str×V)}{b:Bool}
def um{b:Bool}{Q:HG}(I:HN X R0 σ H s)(e:H a=↑(.ins C dx fs))(c:OK X.K C)(n:MT X.K C f)(l:fs.lookup f=↑v)
  (h:∀u s',HN X R0 σ H s'->HV v u->Q u s'):ε (model X.prog X.w) A (getAttr (-a) f b) Q E s:=by
 let#[mA,O,r,_,_,_]:=gH I.hok e;let#[u,g,d]:=NK.some_of (v:=v) (o:=mA f) (by rw[<- l];exact r f)
 exact CS I.kIn O (c.get f) c.hd n g (xr d) (h u _ (I.tok _) d)
def i3{pl:Sem Bool}{Q:Γ×Ζ->Θ->Prop}(I:HN X R0 σ H s)(e:H a=↑(.ins C dx fs))(c:OK X.K C)(k:PU X.K C m g)(l:fs.lookup m=none)
  (h:Q (-g,[-a]) s):ε (model X.prog X.w) A (getMethod (-a) m pl) Q E s:=by
 let#[mA,O,r,_,_,_]:=gH I.hok e;have d:mA m=none:=NK.none_of (by rw[<- l];exact r m)
 exact Ar I.kIn O (c.get m) k.at_ k.fn d h
def uR{Q:Unit->Θ->Prop}(I:HN X R0 σ H s)(e:H a=↑(.ins C dx fs))(c:OK X.K C)(n:MT X.K C f)(hl:fs.length<1000)(t:HV y u)
  (h:∀s',HN X R0 σ (HM H a (.ins C dx (QF f y fs))) s'->Q () s'):ε (model X.prog X.w) A (setAttr (-a) f u) Q E s:=by
 let#[mA,O,r,j,_,i]:=gH I.hok e;have v:(fs.map (·.1)).length<=ζ:=by rw[Je,JD];lia
 refine Dm I.kIn O c.sa c.po n.taker c.hd j v λh' d l=>h _ ?_
 have p:∃o,h'.get? dx=↑o:=let⟨o,_,_,e',_⟩:=d.ns;#[o,e']
 refine I.write (x:=a) (e:=dx) (by rw[e];exact P5) (.inr i) (λb q w z=>(l.2 b w).trans z) p ?_
 refine#[by rw[qp O.ne];exact i,?_,O.ne,d.obj,_,d.ns,λg=>?_,λg m=>?_]
 .have:=gX f y fs;lia
 .show NK ((QF f y fs).lookup g) (if g=f then ↑u else mA g)
  rw[gW]
  by_cases q:g=f
  .rw[Jc q,Jc q];exact t
  .rw[Jb q,Jb q];exact r g
 .by_cases q:g=f
  .rw[q];exact(fJ f y fs).1
  .refine(fJ f y fs).2 g (j g λz=>m ?_)
   show(if g=f then ↑u else mA g)=none
   rw[Jb q];exact z
def HN.made(I:HN X R0 σ H s):HN X R0 σ (HM (HM H s.heap.objs.size (.own (s.heap.objs.size+1))) (s.heap.objs.size+1) (.ins C s.heap.objs.size []))
  {s with heap:=(s.heap.push SE).push (TJ C s.heap.objs.size)}:=by
 have c:(s.heap.push SE).get? s.heap.objs.size=↑SE:=Jp s.heap Z
 have h:((s.heap.push SE).push (TJ C s.heap.objs.size)).get? (s.heap.objs.size+1)=↑(TJ C s.heap.objs.size):=by
  have:=Jp (s.heap.push SE) (o:=TJ C s.heap.objs.size) Z
  rwa [JU]at this
 have i:(s.heap.push SE).Ns s.heap.objs.size (λ_=>none):=#[SE,(AA []),_,c,Z,(λe d=>absurd d (by simp)),λ_=>rfl]
 have f:=I.laid (a:=s.heap.objs.size) (o:= .own (s.heap.objs.size+1)) (h':=s.heap.push SE) (t':=s.toks) (λb u q=>Jk _ q) (Jf _) #[_,c]
 refine f.laid (a:=s.heap.objs.size+1) (o:= .ins C s.heap.objs.size []) (t':=s.toks) (λb u q=>Jk _ q) (L0 (JU _ _)) ?_
 have ne:s.heap.objs.size≠s.heap.objs.size+1:=Jm (G0 _)
 refine#[by rw[qp ne,qb],JB _,ne,h,λ_=>none,(Ψ.Ns1.of_empty i).at λo q=>Jk _ q,λ_=>P5,λy g=>absurd Z g]
def C7{a:Env}{e:Φ}{f:Str}{s:Θ}{Q:HG}(hb:attributeBase e f a (eval e a)=eval e a)
  (h:ε (model prog w) A (eval e a) (λo c=>ε (model prog w) A (getAttr o f true) Q E c) E s):ε (model prog w) A (eval (.Attribute e f pos) a) Q E s:=
 Attribute_any_ h (by rw[arm_eval_Attribute,hb])
inductive NX (K:ι)(H:Hp):V->Γ->Prop where
 |non:NX K H .non (.type "NoneType")
 |bl (x:Bool):NX K H (.bl x) (.type "bool")
 |int (i:Int):NX K H (.int i) (.type "int")
 |str (x:Str):NX K H (.str x) (.type "str")
 |flt (x:UInt64):NX K H (.flt x) (.type "float")
 |lst {a:Δ} {xs:Ε} (e:H a=↑(.lst xs)):NX K H (-a) (.type "list")
 |frz {a:Δ} {o:Obj} {xs:Ε} (e:H a=↑(.frz o (.lst xs))):NX K H (-a) (.type "list")
 |tup {a:Δ} {xs:Ε} (e:H a=↑(.tup xs)):NX K H (-a) (.type "tuple")
 |dK {a:Δ} {kvs:List (qJ×V)} (e:H a=↑(.dK kvs)):NX K H (-a) (.type "dict")
 |dT {a:Δ} {kvs:List (List qJ×V)} (e:H a=↑(.dT kvs)):NX K H (-a) (.type "dict")
 | ins {a C dx:Δ} {fs:List (Str×V)} (e:H a=↑(.ins C dx fs)) (cl:OK K C) (ha:SQ K (-C) "__class__"=↑(↑(.builtin "object.__class__")))
   (hn:PySem.W.specialIn K (.builtin "object.__class__") "__get__"=↑(↑(.builtin "getset_descriptor.__get__"))) (htk:PySem.W.takesIn K (.builtin "object.__class__")=↑true)
   (hm:PySem.W.mroIn K C (.type "object")=↑true):NX K H (-a) (-C)
def xq(I:HN X R0 σ H s)(d:HV x u)(ty:NX X.K H x t)(e:W.kitOne X.K t c=↑b)(h:∀tk,Q (.bool b) {s with toks:=tk}):
  ε (model X.prog X.w) A (call (.builtin "isinstance") [u,c]) Q E s:=by
 cases ty with
 |non=>cases(show u=Γ.none from d);exact J8 W.kitx_none I.kIn P5 e (λz=>nomatch z) h
 |bl y=>cases(show u=Γ.bool y from d);exact J8 W.kitx_bool I.kIn P5 e (λz=>nomatch z) h
 |int i=>let#[t,q]:=(show∃t,u=Γ.int i t from d);cases q;exact J8 W.kitx_int I.kIn P5 e (λz=>nomatch z) h
 |str y=>let#[t,q]:=(show∃t,u=Γ.str y t from d);cases q;exact J8 W.kitx_str I.kIn P5 e (λz=>nomatch z) h
 |flt y=>let#[t,q]:=(show∃t,u=Γ.float y t from d);cases q;exact J8 W.kitx_float I.kIn P5 e (λz=>nomatch z) h
 | @lst a xs ea=>
  cases(show u=Γ.ref a from d)
  let#[_,_,n,_,h1]:=(show ML X.prog X.w H s.heap a (.lst xs)from I.hok a _ ea)
  exact J8 TQ I.kIn #[_,h1,Z] e (λz=>nomatch z) h
 | @frz a ob xs ea=>
  cases(show u=Γ.ref a from d)
  let#[_,_,_,n,_,h1]:=(show ML X.prog X.w H s.heap a (.frz ob (.lst xs))from I.hok a _ ea)
  exact J8 TQ I.kIn #[_,h1,Z] e (λz=>nomatch z) h
 | @tup a xs ea=>
  cases(show u=Γ.ref a from d)
  let#[_,_,_,p]:=(show ML X.prog X.w H s.heap a (.tup xs)from I.hok a _ ea)
  let#[o,h1,f,_]:=p;exact J8 W.kitx_tuple I.kIn #[o,h1,f] e (λz=>nomatch z) h
 | @dK a kvs ea=>
  cases(show u=Γ.ref a from d)
  let#[_,_,vs,_,p]:=(show ML X.prog X.w H s.heap a (.dK kvs)from I.hok a _ ea)
  let#[o,es,ep,h1,f,_]:=p;exact J8 W.kitx_dict I.kIn #[o,h1,f.1] e (λz=>nomatch z) h
 | @dT a kvs ea=>
  cases(show u=Γ.ref a from d)
  let#[_,_,xs,_,o,es,ep,h1,f,_]:=(show ML X.prog X.w H s.heap a (.dT kvs)from I.hok a _ ea)
  exact J8 W.kitx_dict I.kIn #[o,h1,f.1] e (λz=>nomatch z) h
 | @ins a C dx fs ea cl ha hn htk hm=>
  cases(show u=Γ.ref a from d)
  let#[mA,O,_]:=gH I.hok ea;let#[od,J,_]:=O.look;exact J8 (W.kitx_own (cl.get _) cl.hd ha hn htk hm) I.kIn J e (λz=>nomatch z) h
end
structure MK(k:Nat)(A:Rj):Prop where
 hd:A.handled=none
 dp:A.depth+3*k+5<recursionLimit
 un:A.units+16*k+200<cLine
def MK.mono{j k:Nat}(r:MK k A)(h:j<=k):MK j A:=#[r.hd,by have:=r.dp;lia,by have:=r.un;lia]
def MK.mo{j k:Nat}(r:MK k A)(h:j<=k:=by first|decide|omega):MK j A:=r.mono h
theorem MK.deeper{k:Nat}(r:MK (k+1) A)(a:Env):MK k (A.deeper a):=
 #[r.hd,by have:=r.dp;show A.depth+1+3*k+5<_;lia,by have:=r.un;show A.units+3+16*k+200<_;lia]
def uE{A:Rj}{us:Ζ}{a:List (Str×Γ)}:(A.under (.builtin "type.__call__" #[.ref C::us,a])).depth=A.depth+1:=by
 first|rfl|simp [Around.under,Code.weight,Code.isCreation,Code.isGuard,Code.isCaller,Code.frames,Code.isFrame,guardIds]
def uy{A:Rj}{us:Ζ}{a:List (Str×Γ)}:(A.under (.builtin "type.__call__" #[.ref C::us,a])).units=A.units+1:=by
 first|rfl|simp [Around.under,Code.cUnits,Code.frames,Code.isFrame]
def MK.make{k:Nat}(r:MK (k+1) A)(C:Δ)(us:Ζ)(a:List (Str×Γ)):MK k (A.under (.builtin "type.__call__" #[.ref C::us,a])):=
 #[r.hd,by have:=r.dp;rw[uE];lia,by have:=r.un;rw[uy];lia]
theorem MK.depth{k:Nat}(r:MK k A):A.depth<recursionLimit:=by have:=r.dp;lia
theorem MK.units{k:Nat}(r:MK k A):A.units+64<cLine:=by have:=r.un;lia
def AS:TA:=λ_ H Q=>Q [] H
def uN(ta:TE)(c:TA):TA:=λσ H Q=>ta σ H λx H1=>c σ H1 λxs a=>Q (x::xs) a
def DW:PA X [] AS:=λ_ _ _ _ H Q I h=>Sw #[[],H,I,.nil,h]
def CH(ha:PE X e te)(hr:PA X es t)(hs:θ (e::es) X.env=(false,eval e X.env)::θ es X.env:=by rfl):PA X (e::es) (uN te t):=by
 intro pos R0 s σ H Q I h;rw[hs]
 show ε _ _ (spliced ((false,eval e X.env)::backTo pos (θ es X.env))) _ _ s
 refine So (qz (ha R0 s σ H _ I h) λu a l=>?_)
 let#[x,H1,g,j,i]:=l;exact qz (hr pos R0 a σ H1 _ g i) λo n ⟨xs,d,m,f,c⟩=>#[x::xs,d,m,.cons j f,c]
noncomputable def Eu(t:TA):TE:=λσ H Q=>t σ H λxs H1=>xs.length<=ζ/\∀p,H1 p=none->Q (-p) (HM H1 p (.tup xs))
noncomputable def D5(t:TA):TE:=λσ H Q=>t σ H λxs H1=>xs.length<=ζ/\∀p,H1 p=none->Q (-p) (HM H1 p (.lst xs))
def E4{x1}(h:PA X es t):PE X (.Tuple es x1 pos) (Eu t):=by
 intro R0 s σ H Q I d;refine wpAny_Tuple_spliced (qz (h pos R0 s σ H _ I d) λg a ⟨xs,H1,c,r,z,q⟩=>#[by rw[<- r.length];exact z,?_])
 have f:H1 a.heap.objs.size=none:=c.hok.fresh (Jf _)
 refine#[-a.heap.objs.size,HM H1 a.heap.objs.size (.tup xs),c.laid (t':=a.toks) (λb u e=>Jk _ e) (Jf _) ?_,Z,q _ f]
 exact#[z,g,r,#[_,Jp _ Z,8]]
def Fm(h:PA X es t):PE X (.List es pos) (D5 t):=by
 intro R0 s σ H Q I d;refine wpAny_List_spliced (qz (h pos R0 s σ H _ I d) λg a ⟨xs,H1,c,r,z,q⟩=>#[by rw[<- r.length];exact z,?_])
 have f:H1 a.heap.objs.size=none:=c.hok.fresh (Jf _)
 refine#[-a.heap.objs.size,HM H1 a.heap.objs.size (.lst xs),c.laid (t':=a.toks) (λb u e=>Jk _ e) (Jf _) ?_,Z,q _ f]
 exact#[z,g,(0),r,Jp _ Z]
abbrev Sp:=Ε->Hp->VK->XK->Prop
abbrev gV:=Τ->Hp->Θ->XK->Γ->Θ->Prop
structure Oq(P:Ξ)(w:Ω)(K:ι)(mg:HH)(base:Ψ)(A:Rj)(outer:Τ)(s:Θ)(H:Hp):Prop where
 frames:A.frames=↑outer
 mod:RT K mg base
 bs:∀b o,base.get? b=↑o->s.heap.get? b=↑o/\H b=none
 bsz:base.objs.size<=s.heap.objs.size
 funs:s.heap.FunFrames base outer
 frf:∀b∈cz outer,H b=none
 hok:NW P w H s.heap
 bare:AllBare s.gens
def CE(a:Τ)(P:Ξ)(w:Ω)(H:Hp)(s:Θ)(Q:VK)(u:Γ)(s':Θ):Prop:=
 ∃v H',s'.os=s.os/\AllBare s'.gens/\Un (cz a) [] H H' s.heap s'.heap/\NW P w H' s'.heap/\HV v u/\Q v H'
def CR(CX:gV)(a:Τ)(P:Ξ)(w:Ω)(H:Hp)(s:Θ)(Q:VK)(E:XK)(r:Result)(s':Θ):Prop:=
 match r with
 | .ok (.ret u)=>CE a P w H s Q u s'
 | .ok _=>False
 | .error e=>CX a H s E e s'
structure NU(P:Ξ)(w:Ω)(K:ι)(mg:HH)(base:Ψ)(CX:gV)(k:Nat)(f:Δ)(fd:FuncData)(ps:Α)(sp:Sp):Prop where
 len:∀vs H Q E,sp vs H Q E->vs.length=ps.length
 run:∀(A:Rj) (outer:Τ) (s:Θ) (H:Hp) (args:Args) (us:Ζ) (vs:Ε) (Q:VK) (E:XK),MK k A->Oq P w K mg base A outer s H->BindsTo s fd args (ps.zip us)->HS vs us->sp vs H Q E->
  codeAny (model P w) A (.call (-f) args) (CR CX outer P w H s Q E) s
def Oq.make{K:ι}(e:Oq P w K mg base A a s H)(C:Δ)(us:Ζ)(c:List (Str×Γ)):
  Oq P w K mg base (A.under (.builtin "type.__call__" #[.ref C::us,c])) a s H:=#[by first|exact e.frames|(simpa [Around.under,Code.envs,Code.isFrame,pushEnvs]using e.frames),e.mod,e.bs,e.bsz,e.funs,e.frf,e.hok,e.bare]
def HN.env0(I:HN X R0 σ H s):Oq X.prog X.w X.K X.mg X.base X.A X.stack s H:=
 #[I.ok.frames,I.ok.mod,I.bs,JN I.ok.bsz I.sz,I.stack,I.stkFree,I.hok,I.bare]
def HN.after(I:HN X R0 σ H s)(h:CE X.stack X.prog X.w H s Q u s'):EP X R0 σ Q u s':=by
 let#[v,H',f,a,un,e,r,q]:=h;let#[i,g,d,t,c]:=s'
 obtain rfl:c=s.os:=f
 exact#[v,H',I.call (h':=i) (g':=g) (d':=d) (t':=t) (ch:=[]) un e a (λb z=>absurd z (by simp)),r,q]
noncomputable def ub(sp:Sp)(dvs:Ε)(E:XK)(t:TA):TE:=λσ H Q=>t σ H λvs H1=>sp (vs++dvs) H1 Q E
noncomputable def Cj(C:Δ)(sp:Sp)(dvs:Ε)(E:XK)(t:TA):TE:=λσ H Q=>t σ H λvs H1=>∀x dx,H1 x=none->H1 dx=none->dx≠x->
 sp (.ref x::(vs++dvs)) (HM (HM H1 dx (.own x)) x (.ins C dx [])) (λv a=>v= .non/\Q (-x) a) E
def NH(K:ι)(fd:FuncData)(ps:Α)(ds:Ζ):Prop:=
 ∀(s:Θ) (a:Ζ),K.In s.heap->(a++ds).length=ps.length->BindsTo s fd #[a,[]] (ps.zip (a++ds))
def NH.all{K:ι}{fd:FuncData}{ps:Α}(h:∀a:Ζ,a.length=ps.length->bindArgs fd #[a,[]]=pure (ps.zip a)):NH K fd ps []:=λs a _ c=>by
 rw[Ic]at c⊢;exact .of_eq (h a c)
def gp(CX:gV)(X:Cx)(E:XK):Prop:=∀(R0:HI) (σ:St) (H:Hp) (s:Θ) (e:Γ) (s':Θ),HN X R0 σ H s->CX X.stack H s E e s'->X.xe e s'
section
variable{k:Nat}
def mT(F:NU X.prog X.w X.K X.mg X.base CX k f fd ps sp)(hr:MK k X.A)(hb:NH X.K fd ps ds)(hd:HS dvs ds)(hx:gp CX X E)
  (I:HN X R0 σ H s)(r:HS vs us)(h:sp (vs++dvs) H Q E):ε (model X.prog X.w) X.A (call (-f) us) (EP X R0 σ Q) X.xe s:=by
 have c:HS (vs++dvs) (us++ds):=r.append hd
 have d:(us++ds).length=ps.length:=by rw[<- c.length];exact F.len _ _ _ _ h
 refine wpAny_call (Lm (F.run X.A X.stack s H #[us,[]] (us++ds) (vs++dvs) Q E hr I.env0 (hb s us I.kIn d) c h) λr s' a=>?_)
 cases r with
 |error e=>exact hx R0 σ H s e s' I a
 |ok fl=>
  cases fl with
  |ret u=>exact I.after a
  |next=>exact False.elim a
  |brk=>exact False.elim a
  |cont=>exact False.elim a
def DJ(F:NU X.prog X.w X.K X.mg X.base CX k f fd ps sp)(hr:MK k X.A)(hg:Gl X x)(hm:X.mg x=↑(-f))(hk:TK X.K (-f)=true)(hb:NH X.K fd ps ds)(hd:HS dvs ds)(hx:gp CX X E)
  (ha:PA X (e::es) t)(hdb:(x==("__debug__":Str))=false:=by decide)(he:θ (e::es) X.env=(false,eval e X.env)::θ es X.env:=by rfl)(hpl:(backTo pos (θ es X.env)).any (·.1)=false:=by rfl):
  PE X (.Call (.Name x p) (e::es) [] pos) (ub sp dvs E t):=by
 intro R0 s σ H Q I h;refine L4 (jN I hg hm ?_ hdb)
 refine W.callWith_K (h₀:=X.base) I.ok.mod.kin hk (qz (ha pos R0 s σ H _ I h) λc d ⟨vs,H1,a,r,q⟩=>#[a.kIn,?_]) he hpl
 exact mT F hr hb hd hx a r q
structure Mk(K:ι)(C f:Δ):Prop where
 makes:PySem.W.makesIn K C=true
 init:SQ K (-C) "__init__"=↑(↑(-f))
 fn:PySem.W.isFn K (-f)=true
 kp:SR K (-C)=true
def Be{Q:VK}(M:Mk X.K C f)(F:NU X.prog X.w X.K X.mg X.base CX k f fd ps sp)(hr:MK (k+1) X.A)(hb:NH X.K fd ps ds)(hd:HS dvs ds)
  (hx:gp CX X E)(I:HN X R0 σ H s)(r:HS vs us)
  (h:∀x dx,H x=none->H dx=none->dx≠x->sp (.ref x::(vs++dvs)) (HM (HM H dx (.own x)) x (.ins C dx [])) (λv m=>v= .non/\Q (-x) m) E):
  ε (model X.prog X.w) X.A (call (-C) us) (EP X R0 σ Q) X.xe s:=by
 have d:=h (s.heap.objs.size+1) s.heap.objs.size (I.hok.fresh (IL _)) (I.hok.fresh (Jf _)) (Jm (G0 _));have c:=HN.made (C:=C) I
 have g:HS (V.ref (s.heap.objs.size+1)::(vs++dvs)) (Γ.ref (s.heap.objs.size+1)::(us++ds)):= .cons Z (r.append hd)
 have n:(Γ.ref (s.heap.objs.size+1)::us++ds).length=ps.length:=by
  have e:=g.length;rw[F.len _ _ _ _ d]at e;exact e.symm
 refine wpAny_call (AR (f:=f) I.kIn M.makes M.init (J7.mp M.fn) (Lm (F.run _ X.stack _ _ #[Γ.ref (s.heap.objs.size+1)::us,[]] (Γ.ref (s.heap.objs.size+1)::(us++ds)) _ _ E (hr.make C us [])
  (c.env0.make C us []) (hb _ (Γ.ref (s.heap.objs.size+1)::us) c.kIn n) g d) λr s' a=>?_))
 cases r with
 |error e=>exact hx R0 σ _ _ e s' c a
 |ok fl=>
  cases fl with
  |ret u=>
   let#[v,H',i,o,j,l]:=c.after a;subst j
   exact#[o,#[V.ref (s.heap.objs.size+1),H',i,Z,l]]
  |next=>exact False.elim a
  |brk=>exact False.elim a
  |cont=>exact False.elim a
def CK(M:Mk X.K C f)(F:NU X.prog X.w X.K X.mg X.base CX k f fd ps sp)(hr:MK (k+1) X.A)(hg:Gl X x)(hm:X.mg x=↑(-C))(hb:NH X.K fd ps ds)(hd:HS dvs ds)(hx:gp CX X E)
  (ha:PA X (e::es) t)(hdb:(x==("__debug__":Str))=false:=by decide)(he:θ (e::es) X.env=(false,eval e X.env)::θ es X.env:=by rfl)(hpl:(backTo pos (θ es X.env)).any (·.1)=false:=by rfl):
  PE X (.Call (.Name x p) (e::es) [] pos) (Cj C sp dvs E t):=by
 intro R0 s σ H Q I h;refine L4 (jN I hg hm ?_ hdb)
 refine W.callWith_K (h₀:=X.base) I.ok.mod.kin M.kp (qz (ha pos R0 s σ H _ I h) λc d ⟨vs,H1,a,r,q⟩=>#[a.kIn,?_]) he hpl
 exact Be M F hr hb hd hx a r q
end
structure HK(N P:Α)(sc:Scope):Prop where
 kind:sc.kind= .function
 co:sc.isCoroutine=false
 gen:sc.isGenerator=false
 nd:N.Nodup
 pre:N.take P.length=P
 par:∀x∈P,sc.names.lookup x=some .local\/sc.names.lookup x=some .cell
 nofree:∀y∈sc.names,y.2≠ .free
theorem kE{a:Str->Option NameKind}{x:Str}:∀{binds:List (Str×Γ)} {m:HH},(∀v,(x,v)∉binds)->bindL a binds m x=m x
 | [],_,_=>rfl
 |(n,v)::r,m,h=>by
  unfold bindL;rw[kE λw c=>h w (Jv _ c)]
  split
  .have:x≠n:=by rintro rfl;exact h v Jr
   simp [this]
  .rfl
theorem lE{a:Str->Option NameKind}{x:Str}:∀{binds:List (Str×Γ)} {m:HH},(∀v,(x,v)∉binds)->bindC a binds m x=m x
 | [],_,_=>rfl
 |(n,v)::r,m,h=>by
  unfold bindC;rw[lE λw c=>h w (Jv _ c)]
  split
  .rfl
  .have:x≠n:=by rintro rfl;exact h v Jr
   simp [this]
theorem kq{a:Str->Option NameKind}{x:Str}{v:Γ}:∀{P:Α} {vs:Ζ} {i:Nat} {m:HH},P.Nodup->P[i]? =↑x->vs[i]? =↑v->a x=some .local->
  bindL a (P.zip vs) m x=↑v
 | [],_,_,_,_,h,_,_=>by simp at h
 |_::_,[],_,_,_,_,h,_=>by simp at h
 |p::P,w::vs,0,m,nd,h1,h2,hk=>by
  simp at h1 h2;subst h1;subst h2
  show bindL a ((p,w)::P.zip vs) m p=_
  unfold bindL;rw[kE λv c=>(IG.mp nd).1 (Ko c).1,Jc hk]
  simp
 |p::P,w::vs,i+1,m,nd,h1,h2,hk=>by
  show bindL a ((p,w)::P.zip vs) m x=_
  unfold bindL;exact kq (i:=i) (IG.mp nd).2 (by simpa using h1) (by simpa using h2) hk
theorem kG{a:Str->Option NameKind}{x:Str}{v:Γ}:∀{P:Α} {vs:Ζ} {i:Nat} {m:HH},P.Nodup->P[i]? =↑x->vs[i]? =↑v->a x≠some .local->
  bindC a (P.zip vs) m x=↑v
 | [],_,_,_,_,h,_,_=>by simp at h
 |_::_,[],_,_,_,_,h,_=>by simp at h
 |p::P,w::vs,0,m,nd,h1,h2,hk=>by
  simp at h1 h2;subst h1;subst h2
  show bindC a ((p,w)::P.zip vs) m p=_
  unfold bindC;rw[lE λv c=>(IG.mp nd).1 (Ko c).1,Jb hk]
  simp
 |p::P,w::vs,i+1,m,nd,h1,h2,hk=>by
  show bindC a ((p,w)::P.zip vs) m x=_
  unfold bindC;exact kG (i:=i) (IG.mp nd).2 (by simpa using h1) (by simpa using h2) hk
def Zr(N:Α)(vs:Ε):St:=vs.map some++Dj (N.length-vs.length) none
noncomputable def cu(CX:gV)(P:Ξ)(w:Ω)(K:ι)(mg:HH)(base:Ψ)(N:Α)(R1:Str)(a:Scope)(f:Δ)(cd:Γ)(A:Rj)(outer:Τ)(s:Θ)(H:Hp)(E:XK):Cx where
 prog:=P
 w:=w
 K:=K
 mg:=mg
 base:=base
 A:=A.deeper (envOfC R1 a s.heap.objs.size f cd)
 N:=N
 s₀:=s
 H₀:=H
 env:=envOfC R1 a s.heap.objs.size f cd
 outer:=outer
 stack:=envOfC R1 a s.heap.objs.size f cd::outer
 ex:=[]
 calm:=true
 fn:=λ_=>true
 pn:=[]
 xe:=λe s'=>ε (model P w) (A.deeper (envOfC R1 a s.heap.objs.size f cd)) (leaving (envOfC R1 a s.heap.objs.size f cd) e) (λ_ c=>CX outer H s E e c) (λe' c=>CX outer H s E e' c) s'
def oq{a:Scope}{n:Nat}(h:a.names.lookup x=some .cell):∃c,(cellsFrom n a.names []).lookup x=↑c:=by
 have q:=W.cellsFrom_some a.names n [] (.inl h);exact L5.mp q
def wD{K:ι}{R1:Str}{f:Δ}{cd:Γ}{A:Rj}{vs:Ε}
  (S:HK N ps d)(hd:A.handled=none)(l:Oq P w K mg base A g s H)(hl:vs.length=ps.length)(r:HS vs us)
  (x:InCallC s s.heap.objs.size (bindL (envOfC R1 d s.heap.objs.size f cd).kindOf (ps.zip us) λ_=>none) (cellsFrom (s.heap.objs.size+1) d.names []) (bindC (envOfC R1 d s.heap.objs.size f cd).kindOf (ps.zip us) λ_=>none) C):
  HN (cu CX P w K mg base N R1 d f cd A g s H E) [] (Zr N vs) H C:=by
 have F:ps.length<=N.length:=by have:=J0 List.length S.pre;rw[G5]at this;lia
 let#[h1,tk,rfl,hk]:=x.done;have m:∀b:Δ,b∉(cu CX P w K mg base N R1 d f cd A g s H E).ex:=λb z=>absurd (show b∈([]:Η)from z) (by simp)
 exists #[l.mod,S.kind,9,Jf _,λy z c h1 j=>?_,λy o=>?_,λy c _ h=>?_,λ_=>hd,Around.frames_deeper l.frames,.inr #[9],λb z=>absurd z (m b),l.bs,l.bsz,λb _ _=>m b,λb z=>absurd z (m b),l.funs,l.frf],
  rfl,l.bare,Un.kept hk,#[_,x.toInCall.ns,λi y v h1 j J=>?_],λy c h=>#[_,x.cell y c h],l.hok.fresh (Jf _),λy c h=>?_,λp t=>absurd (show p∈([]:HI)from t) (by simp),l.hok.kept hk
 .exact name_of_addr x.apart (LB h1) (LB j)
 .have o:d.names.lookup y=some .cell\/d.names.lookup y=some .free:=o
  rcases o with o|o
  .exact oq o
  .exact absurd Z (S.nofree _ (LB o))
 .exact LM (x.above y c (LB h))
 .have hi:i<vs.length:=by
   unfold Zr at j
   by_cases hi:i<vs.length
   .exact hi
   .rw[J9 (by simpa using hi)]at j
    rw[OD]at j;split at j<;>cases j
  have I:vs[i]? =↑v:=by
   unfold Zr at j;rw[J3 (by simpa using hi),Jo]at j
   cases e:vs[i]? with
   |none=>rw[e]at j;cases j
   |some a=>rw[e]at j;cases j;rfl
  let#[u,D,G]:=r.get I;have t:ps[i]? =↑y:=by
   rw[<- S.pre,List.getElem?_take_of_lt (by lia)];exact h1
  have B:ps.Nodup:=by rw[<- S.pre];exact S.nd.sublist (List.take_sublist _ _)
  exists u,G
  rcases S.par y (Ij t)with k|k
  .exact .inl #[k,kq B t D k]
  .let#[c,e]:=oq (n:=s.heap.objs.size+1) k
   refine .inr #[.inl k,c,e,?_]
   have q:=x.cell y c e;rw[kG B t D (by show d.names.lookup y≠_;rw[k];decide)]at q
   exact q
 .exact l.hok.fresh (LM (x.above y c (LB h)))
 .unfold Zr
  show _=N.length
  rw[Jy,Je,OE];lia
def F6{K:ι}{k:Nat}{kV oc:Γ}{od:β}
  {osl:Array Ν}{sp:Sp}(T:K.lookup f=some #[oc,od,.func (TB name R1 d g a M kV doc pm an cdv ct),osl])(C:W.codeIn K cdv R1=true)(S:HK N ps a)
  (len:∀vs H Q E,sp vs H Q E->vs.length=ps.length)
  (j:∀(A:Rj) (c:Τ) (s:Θ) (H:Hp) (vs:Ε) (Q:VK) (E:XK),MK k (A.deeper (envOfC R1 a s.heap.objs.size f cdv))->sp vs H Q E->
   ∃t,On (cu CX P w K mg base N R1 a f cdv A c s H E) g t/\t {nx:=λ_ H'=>Q .non H',rt:=Q} (Zr N vs) H):
  NU P w K mg base CX (k+1) f (TB name R1 d g a M kV doc pm an cdv ct) ps sp:=by
 refine#[len,λA c s H O X vs Q E F p hb r m=>?_]
 have Y:=len _ _ _ _ m;have G:K.In s.heap:=p.mod.kin.keeps λb o e=>(p.bs b o e).1
 have D:s.heap.NoLimit:=p.mod.nolimit.keeps λb o e=>(p.bs b o e).1
 have i:∀y∈ps.zip X,a.names.lookup y.1=some .local\/(a.names.lookup y.1=some .cell/\((cellsFrom (s.heap.objs.size+1) a.names []).lookup y.1).isSome=true):=λ⟨n,v⟩ hy=>by
  rcases S.par n (Ko hy).1 with q|q
  .exact .inl q
  .exact .inr #[q,W.cellsFrom_some _ _ _ (.inl q)]
 refine codeAny_call_function F.depth (G _ _ T) Z S.co S.gen Z (W.codeRec_of G C) (hb _ _ _ _ ?_)
 refine wpAny_newFunctionEnv_cells S.kind i λa1 he L x=>?_
 subst he;refine#[D.keeps x.toInCall.keep,codeAny_func ?_]
 let#[t,ht,U]:=j A c s H vs Q E (F.deeper _) m
 have I:HN (cu CX P w K mg base N R1 a f cdv A c s H E) [] (Zr N vs) H L:=wD S F.hd p Y r x
 refine Jx (ht [] L (Zr N vs) H _ I U) (λR s' l=>?_) λe s' l=>l
 have z:∀{h:St} {H':Hp} {v:V} {u:Γ},HN (cu CX P w K mg base N R1 a f cdv A c s H E) [] h H' s'->HV v u->Q v H'->CE c P w H s Q u s':=
  λ{h H' v u} J B q=>#[v,H',J.os,J.bare,J.base,J.hok,B,q]
 cases R with
 |ret u=>
  let#[v,h,H',J,B,q]:=l;exact z J B q
 |next=>
  let#[h,H',J,q]:=l;exact z (v:=V.non) (u:=Γ.none) J Z q
 |brk=>
  let#[_,_,_,q]:=l;exact False.elim q
 |cont=>
  let#[_,_,_,q]:=l;exact False.elim q
section
variable{X:Cx}{x:Str}{e:Φ}{es:Ι}{t:TA}{id:String}{r:Ε->Hp->VK->Prop}
def Cp(r:Ε->Hp->VK->Prop)(t:TA):TE:=λσ H Q=>t σ H λvs H1=>r vs H1 Q
def AQ(hc:zj X (.builtin id) r)(hg:Gl X x)(hm:X.mg x=none)(hv:bootBuiltins x=↑(.builtin id))(ha:PA X (e::es) t)(hn:x≠"__name__":=by decide)(hdb:(x==("__debug__":Str))=false:=by decide)
  (he:θ (e::es) X.env=(false,eval e X.env)::θ es X.env:=by rfl)(hpl:(backTo pos (θ es X.env)).any (·.1)=false:=by rfl):PE X (.Call (.Name x p) (e::es) [] pos) (Cp r t):=by
 intro R0 s σ H Q I h;refine L4 (Zp I hg hm hv ?_ hn hdb)
 exact PyProof.Rows.callWith_builtin1 (qz (ha pos R0 s σ H _ I h) λg a ⟨vs,H1,c,f,d⟩=>hc R0 a σ H1 vs g Q c f d) he hpl
def wW(hc:zj X (.type T) r)(hg:Gl X x)(hm:X.mg x=none)(hv:bootBuiltins x=↑(.type T))(ha:PA X (e::es) t)(hn:x≠"__name__":=by decide)(hdb:(x==("__debug__":Str))=false:=by decide)
  (he:θ (e::es) X.env=(false,eval e X.env)::θ es X.env:=by rfl)(hpl:(backTo pos (θ es X.env)).any (·.1)=false:=by rfl):PE X (.Call (.Name x p) (e::es) [] pos) (Cp r t):=by
 intro R0 s σ H Q I h;refine L4 (Zp I hg hm hv ?_ hn hdb)
 exact Le (qz (ha pos R0 s σ H _ I h) λg a ⟨vs,H1,c,f,d⟩=>hc R0 a σ H1 vs g Q c f d) he hpl
end
end L2
namespace HT
open PySem PyProof.Rows
def cat_tup{b:Δ}{vs a:Ζ}{Q:HG}(u:IsTup s.heap t vs.toArray)(hb:IsTup s.heap b a.toArray)(hv:vs≠[])
  (h1:a=[]->Q (-t) s)(h2:a≠[]->Q (-s.heap.objs.size) {s with heap:=s.heap.push {cls:= .type "tuple",data:= .seq (vs++a).toArray}})
  (hsz:vs.length+a.length<=ζ):ε (model prog w) A (binaryOp .Add (-t) (-b)) Q E s:=by
 let#[#[cls,r,data,m],j,p,n,o]:=id u;let#[#[q,d,l,g],c,h,n2,f]:=id hb;simp only at p o h f
 subst p o h f;have e:vs.toArray++a.toArray=(vs++a).toArray:=by simp
 by_cases i:a=[]
 .exact concat_meets #[_,j,Z] #[_,c,Z] noFill_tuple_add seq_tuple_add Mr Ms (Mu _ _)
   (tuple_addW1 t b vs.toArray a.toArray n n2 r d m g (by simpa using hv) (by simp [i])) #[j,c,h1 i]
 .refine concat_meets #[_,j,Z] #[_,c,Z] noFill_tuple_add seq_tuple_add Mr Ms (Mu _ _)
   (tuple_addW2 t b vs.toArray a.toArray n n2 r d m g (by simpa using hv) (by simpa using i) (by rw[Js,Js];exact hsz)) #[j,c,?_]
  rw[e];exact h2 i
noncomputable def sIx(n d:Nat):Λ->Nat
 |none=>d
 |some v=>if v<0 then(v+(n:Int)).toNat else min v.toNat n
def DV(n d:Nat)(hd:d<=n)(o:Λ):sIx n d o<=n:=by
 cases o with
 |none=>exact hd
 |some v=>
  show(if v<0 then(v+(n:Int)).toNat else min v.toNat n)<=n
  by_cases a:v<0
  .rw[Jc a];lia
  .rw[Jb a];exact OF _ _
def sQ(v:Int)(n d:Nat):(if v<0 then max (v+(n:Int)) 0 else min v (n:Int))=((sIx n d ↑v:Nat):Int):=by
 show(if v<0 then max (v+(n:Int)) 0 else min v (n:Int))=(((if v<0 then(v+(n:Int)).toNat else min v.toNat n):Nat):Int)
 by_cases a:v<0
 .simp only[Jc a];lia
 .simp only[Jb a];lia
def vg(lo hi:Λ)(n:Nat):γ.Slice.sliceAdjust lo hi 1 (n:Int)=(((sIx n 0 lo:Nat):Int),((sIx n n hi:Nat):Int)):=by
 have h1:¬((1:Int)<0):=by lia
 unfold γ.Slice.sliceAdjust;simp only[h1,JH];refine Prod.ext ?_ ?_
 .cases lo with
  |none=>rfl
  |some v=>exact sQ v n 0
 .cases hi with
  |none=>rfl
  |some v=>exact sQ v n n
def uO(i j:Nat):γ.Slice.slicePlaces (i:Int) (j:Int) 1=j-i:=by
 unfold γ.Slice.slicePlaces;have h1:(1:Int)>0:=by lia
 simp only[h1,Io,Int.ediv_one];split<;>lia
def jq{Q:Λ->Θ->Prop}(p:IsPart v o)(h:Q o s):ε (model prog w) A (γ.Slice.slicePartIndex v) Q E s:=by
 cases p with
 |none=>exact slicePart_none h
 |int i t=>exact slicePart_int h
def sliceApplied_gen{lo:Λ}{n:Nat}{Q:Int×Int×Nat->Θ->Prop}(hs:s.heap.IsSliceOf f e d .none)(pl:IsPart e lo)(i:IsPart d hi)
  (h:Q (((sIx n 0 lo:Nat):Int),1,sIx n n hi-sIx n 0 lo) s):ε (model prog w) A (γ.Slice.sliceApplied (-f) (pure (n:Int))) Q E s:=by
 let#[j,a,g,c]:=id hs;unfold γ.Slice.sliceApplied γ.Slice.sliceFields;refine Ja (Ja (JX a c (x:=e) Z (Ja (JX a c (x:=d) Z (Ja (JX a c (x:= .none) Z (Jd ?_)))))))
 refine Ja (slicePart_none ?_)
 show ε _ _ (if((1:Int)==0)=true then _ else _) _ _ s
 rw[Jb ⋯]
 refine Ja (jq pl (Ja (jq i (Ja (Jd ?_)))))
 show ε _ _ (match γ.Slice.sliceAdjust lo hi 1 (n:Int)with|(lo,hi)=>pure (lo,(1:Int),γ.Slice.slicePlaces lo hi 1)) _ _ s
 rw[vg lo hi n]
 show ε _ _ (pure (((sIx n 0 lo:Nat):Int),(1:Int),γ.Slice.slicePlaces ((sIx n 0 lo:Nat):Int) ((sIx n n hi:Nat):Int) 1)) _ _ s
 rw[uO];exact Jd h
def BF(xs:Array Γ)(i k:Nat):((Ag k).filterMap λ(m:Nat)=>xs[((i:Int)+(m:Int)*1).toNat]?).toArray=((xs.toList.drop i).take k).toArray:=by
 have e:(λ(m:Nat)=>xs[((i:Int)+(m:Int)*1).toNat]?)=λm=>xs[i+m]? :=by
  funext m
  have:((i:Int)+(m:Int)*1).toNat=i+m:=by lia
  rw[this]
 rw[e]
 have:=pick_run xs i k
 rw[KY]at this;have a:((λx=>xs[x]?)∘λx=>i+x)=λm=>xs[i+m]? :=Z
 rw[a]at this;rw[this]
def getItem_tuple_cut{lo:Λ}{Q:HG}(c:IsTup s.heap t items)(hs:s.heap.IsSliceOf d l j .none)(pl:IsPart l lo)(o:IsPart j hi)
  (hw:¬(sIx items.size 0 lo=0/\sIx items.size items.size hi=items.size))
  (h:Q (-s.heap.objs.size) {s with heap:=s.heap.push {cls:= .type "tuple",data:= .seq ((items.toList.drop (sIx items.size 0 lo)).take (sIx items.size items.size hi-sIx items.size 0 lo)).toArray}})
  (hsz:items.size<=ζ):ε (model prog w) A (getItem (-t) (-d)) Q E s:=by
 have a:sizeOk (.seq ((items.toList.drop (sIx items.size 0 lo)).take (sIx items.size items.size hi-sIx items.size 0 lo)).toArray):=by
  show((items.toList.drop (sIx items.size 0 lo)).take (sIx items.size items.size hi-sIx items.size 0 lo)).toArray.size<=ζ
  rw[Js,G5,LP,Jq];lia
 have u:sIx items.size items.size hi<=items.size:=DV _ _ (Jf _) hi
 let#[n,f,e,p]:=id hs;have g:s.TypeIs (-d) "slice":=#[n,f,e]
 unfold getItem
 try with_reducible refine JM ?_
 first|refine Ja (Jd ?_)|skip
 refine Ja (wpAny_sequenceKey c.typeIs ⋯ ?_)
 refine Ja (wpAny_callSpecial?_slot (name:=RS "__getitem__") c.typeIs L6
  (JY L6 c.typeIs entry_tuple_getitem ?_ (args_tuple_getitem _ _)))
 show ε _ _ (γ.Tuple.tupleItemsOf (-t) >>= _) _ _ s
 refine Ja (tupleItemsOf_ c ?_)
 refine Ja (LC g ?_)
 rw[Jc ⋯]
 refine Ja (sliceApplied_gen hs pl o ?_)
 have i:¬((((sIx items.size 0 lo:Nat):Int)==0&&(1:Int)==1&&(sIx items.size items.size hi-sIx items.size 0 lo)==items.size)=true):=by
  intro q;rw[JF,JF]at q;have v:((sIx items.size 0 lo:Nat):Int)=0:=eq_of_beq q.1.1
  have r:sIx items.size items.size hi-sIx items.size 0 lo=items.size:=eq_of_beq q.2
  exact hw #[by lia,by lia]
 show ε _ _ (if(((sIx items.size 0 lo:Nat):Int)==0&&(1:Int)==1&&(sIx items.size items.size hi-sIx items.size 0 lo)==items.size)=true then _ else _) _ _ s
 rw[Jb i,BF]
 first
  |exact Ja (m:=γ.Tuple.tupleExact _) (J6 (Jd ⟨_,rfl,Jd h⟩) a)
  |exact Ja (m:=γ.Tuple.tupleExact _) (J6 (Ja (Jd (Jd ⟨_,rfl,Jd h⟩))) a)
  |exact Ja (Ja (m:=γ.Tuple.tupleExact _) (J6 (Jd (Jd ⟨_,rfl,Jd h⟩)) a))
  |exact Ja (Ja (m:=γ.Tuple.tupleExact _) (J6 (Jd ⟨_,rfl,Jd h⟩) a))
end HT
namespace L2
open PySem PySem.Spec PyProof.Rows
abbrev TO:=St->Hp->(Λ->Hp->Prop)->Prop
def PO(X:Cx)(e:μ)(t:TO):Prop:=
 ∀(R0:HI) (s:Θ) (σ:St) (H:Hp) (Q:Λ->Hp->Prop),HN X R0 σ H s->t σ H Q->
  ε (model X.prog X.w) X.A (evalPart e X.env) (λu s'=>∃o H',HN X R0 σ H' s'/\IsPart u o/\Q o H') X.xe s
def sT:TO:=λ_ H Q=>Q none H
def B4(t:TE):TO:=λσ H Q=>t σ H λx H1=>∃i,x= .int i/\Q ↑i H1
def uW{ns:Β}:∀{us:Ζ},HS (ns.map V.int) us->IntsAre us ns:=by
 induction ns with
 |nil=>intro us r;rw[Ln]at r;cases r;exact .nil
 |cons n ns ih=>
  intro us r;rw[JS]at r;cases r with
  |cons r1 r2=>
   let#[t,e]:=r1;subst e;exact .cons n t (ih r2)
section
variable{lo:μ}
def C8:PO X none sT:=by
 intro R0 s σ H Q I h;rw[evalPart_none];exact Jd #[none,H,I,.none,h]
def Cr(h:PE X e te):PO X ↑e (B4 te):=by
 intro R0 s σ H Q I a;rw[evalPart_some];refine qz (h R0 s σ H _ I a) λu j g=>?_
 let#[x,H1,c,f,d]:=g;let#[i,rfl,q]:=d;let#[t,rfl]:=f
 exact#[↑i,H1,c,.int i t,q]
def yc(X:Cx)(r:V->Λ->Λ->Hp->VK->Prop):Prop:=
 ∀(R0:HI) (s:Θ) (σ:St) (H:Hp) (x:V) (v a c:Γ) (lo hi:Λ) (d:Δ) (Q:VK),HN X R0 σ H s->HV x v->s.heap.IsSliceOf d a c .none->IsPart a lo->IsPart c hi->r x lo hi H Q->
  ∃T id,typeLookup (.type T) "__getitem__"=pure ↑(.builtin id)/\s.TypeIs v T/\ε (model X.prog X.w) X.A (getItem v (-d)) (EP X R0 σ Q) X.xe s
noncomputable def Gh(r:V->Λ->Λ->Hp->VK->Prop)(te:TE)(tl th:TO):TE:=λσ H Q=>te σ H λx H1=>tl σ H1 λl a=>th σ a λu c=>r x l u c Q
def Bt{r:V->Λ->Λ->Hp->VK->Prop}(hr:yc X r)(he:PE X e te)(hl:PO X lo tl)(hu:PO X hi th):PE X (.Subscript e (.Slice lo hi none p2) pos) (Gh r te tl th):=by
 intro R0 s σ H Q I h;refine Subscript_ (qz (he R0 s σ H _ I h) λv w f=>?_)
 let#[x,H1,m,o,A]:=f;refine wpAny_Slice (qz (hl R0 w σ H1 _ m A) λc i ⟨l,E,B,pl,D⟩=>qz (hu R0 i σ E _ B D) λd a f=>?_)
 let#[u,g,z,t,n]:=f;rw[evalPart_none];refine Jd ?_
 have C:HN X R0 σ g {a with heap:=a.heap.push {cls:= .type "slice",data:= .fields (AA [c,d,.none])}}:=z.kept (t':=a.toks) λb F q=>Jk _ q
 let#[T,id,j,p,y]:=hr R0 {a with heap:=a.heap.push {cls:= .type "slice",data:= .fields (AA [c,d,.none])}} σ g x v c d l u a.heap.objs.size Q C o (Ψ.IsSliceOf.new ..) pl t n
 show ε (model X.prog X.w) X.A (subscriptTail e (.Slice lo hi none p2) v (-a.heap.objs.size)) (EP X R0 σ Q) X.xe {a with heap:=a.heap.push {cls:= .type "slice",data:= .fields (AA [c,d,.none])}}
 exact tail_any (ops:=[-a.heap.objs.size,v]) p j y (by with_unfolding_all rfl)
noncomputable def Q9(xs:Ε)(lo hi:Λ):Ε:=(xs.drop (HT.sIx xs.length 0 lo)).take (HT.sIx xs.length xs.length hi-HT.sIx xs.length 0 lo)
def gZ(xs:Ε)(lo hi:Λ):(Q9 xs lo hi).length<=xs.length:=by
 unfold Q9;rw[G5,LP];lia
inductive RC (K:ι)(x:V)(lo:Λ)(hi:Λ)(H:Hp)(Q:VK):Prop
 |mk (a:_)(xs:_)(h1:x= .ref a)(h2:HX K H a xs)(h3:¬(HT.sIx xs.length 0 lo=0/\HT.sIx xs.length xs.length hi=xs.length))(h4:∀p,H p=none->Q (-p) (HM H p (.tup (Q9 xs lo hi))))
def GF(K:ι):V->Λ->Λ->Hp->VK->Prop:=λx lo hi H Q=>RC K x lo hi H Q
def Fn:yc X (GF X.K):=by
 intro R0 s σ H x v u p lo hi n Q I m i pl l h;let#[a,xs,rfl,g,j,q]:=h;cases m;let#[d,r,e,f]:=I.tuple g;have c:d.toArray.size=xs.length:=by rw[Js];exact r.length.symm
 exists "tuple",_,PyProof.Rows.slot_tuple_getitem.lookup,e.typeIs
 refine HT.getItem_tuple_cut e i pl l (by rw[c];exact j) ?_ (by rw[c];exact f)
 rw[c];refine#[-s.heap.objs.size,_,I.laid (t':=s.toks) (o:= .tup (Q9 xs lo hi)) (λb t q=>Jk _ q) (Jf _) ?_,Z,q _ (I.hok.fresh (Jf _))]
 exact#[JN (gZ xs lo hi) f,_,(r.drop (HT.sIx xs.length 0 lo)).take (HT.sIx xs.length xs.length hi-HT.sIx xs.length 0 lo),IsTup.new _ _]
inductive Rg (K:ι)(x:V)(y:V)(H:Hp)(Q:VK):Prop
 |mk (a:_)(b:_)(xs:_)(ys:_)(h1:x= .ref a)(h2:y= .ref b)(h3:HX K H a xs)(h4:HX K H b ys)(h5:xs≠[])(h6:xs.length+ys.length<=ζ)(h7:(ys=[]->Q (-a) H))(h8:(ys≠[]->∀p,H p=none->Q (-p) (HM H p (.tup (xs++ys)))))
def Gd(K:ι):R2:=λx y H Q=>Rg K x y H Q
def HS.nil_iff(r:HS xs us):us=[]↔xs=[]:=by
 cases r with
 |nil=>simp
 |cons _ _=>simp
def sR:zx X (binaryOp .Add) (Gd X.K):=by
 intro R0 s σ H x y v u Q I m l h;let#[a,b,xs,ys,rfl,rfl,r,t,g,f,n,i]:=h;cases m;cases l;let#[p,d,j,_]:=I.tuple r;let#[e,c,p2,_]:=I.tuple t;refine HT.cat_tup j p2 (λz=>g (d.nil_iff.mp z)) (λz=>#[-a,H,I,Z,n (c.nil_iff.mp z)]) (λz=>?_) (by rw[<- d.length,<- c.length];exact f)
 refine#[-s.heap.objs.size,_,I.laid (t':=s.toks) (o:= .tup (xs++ys)) (λb A q=>Jk _ q) (Jf _) ?_,Z,i (λw=>z (c.nil_iff.mpr w)) _ (I.hok.fresh (Jf _))]
 exact#[by rw[Jy];exact f,_,d.append c,IsTup.new _ _]
end
noncomputable def cC(n:Nat)(i:Int):Χ:=if 0<=i then(if i<n then ↑i.toNat else none)else if -(n:Int)<=i then some (i+n).toNat else none
def QK{a:Type}(xs:List a)(i:Int):Option a:=(cC xs.length i).bind λj=>xs[j]?
def tE{n:Nat}{j:Nat}(h:cC n i=↑j):seqIndex? i n=↑j/\j<n/\ -(n:Int)<=i/\i<n:=by
 unfold cC at h
 by_cases a:0<=i
 .rw[Jc a]at h
  by_cases h1:i<n
  .rw[Jc h1]at h
   have e:i.toNat=j:=JE h
   exact#[by rw[seqIndex_of a h1,e],by lia,by lia,h1]
  .rw[Jb h1]at h;cases h
 .rw[Jb a]at h
  by_cases h1: -(n:Int)<=i
  .rw[Jc h1]at h
   have e:(i+n).toNat=j:=JE h
   exact#[by rw[seqIndex_neg (by lia) h1,e],by lia,h1,by lia]
  .rw[Jb h1]at h;cases h
def rW{a:Type}{xs:List a}{i:Int}{v:a}(h:QK xs i=↑v):∃j,seqIndex? i xs.length=↑j/\xs[j]? =↑v/\j<xs.length/\ -(xs.length:Int)<=i/\i<xs.length:=by
 unfold QK at h;cases e:cC xs.length i with
 |none=>rw[e]at h;cases h
 |some j=>
  rw[e]at h;let#[h1,f,c,d]:=tE e
  exact#[j,h1,h,f,c,d]
def Qs{a:Type}{xs:List a}{j:Nat}{v:a}(h:xs[j]? =↑v):QK xs (j:Int)=↑v:=by
 have c:j<xs.length:=(Jw.mp h).1
 have e:cC xs.length (j:Int)=↑j:=by
  unfold cC;rw[Jc (by lia),Jc (by lia)];simp
 unfold QK;rw[e];exact h
def rR(b:Φ):Prop:=∀o i,subscripted b false o i=operate [o,i] (getItem o i)
def PN(X:Cx)(r:R2):Prop:=
 ∀(value a:Φ) (R0:HI) (s:Θ) (σ:St) (H:Hp) (x y:V) (v u:Γ) (Q:VK),HN X R0 σ H s->HV x v->HV y u->r x y H Q->
  subscripted a false v u=operate [v,u] (getItem v u)->ε (model X.prog X.w) X.A (subscriptTail value a v u) (EP X R0 σ Q) X.xe s
def ph(X:Cx)(id:String)(r:V->Ε->Hp->VK->Prop):Prop:=
 ∀(R0:HI) (s:Θ) (σ:St) (H:Hp) (x:V) (xs:Ε) (v:Γ) (a:Ζ) (Q:VK),HN X R0 σ H s->HV x v->HS xs a->r x xs H Q->
  ε (model X.prog X.w) X.A (call (.builtin id) (v::a)) (EP X R0 σ Q) X.xe s
section
variable{X:Cx}{b:Φ}
def PN.or(h:PN X r)(h':PN X f):PN X (λx y H Q=>r x y H Q\/f x y H Q):=by
 intro value a R0 s σ H x y v u Q I e d q c;rcases q with q|q
 .exact h value a R0 s σ H x y v u Q I e d q c
 .exact h' value a R0 s σ H x y v u Q I e d q c
def FT(hr:PN X r)(ha:PE X a ta)(hb:PE X b tb)(hs:rR b):PE X (.Subscript a b pos) (kR r ta tb):=by
 intro R0 s σ H Q I h;exact Subscript_ (By ha hb I h λv u c x y f g e d q=>hr a b R0 c σ f x y v u Q g e d q (hs _ _))
inductive RD (K:ι)(x:V)(y:V)(H:Hp)(Q:VK):Prop
 |mk (p:_)(xs:_)(i:_)(v:_)(h1:x= .ref p)(h2:y= .int i)(h3:HQ K H p xs)(h4:QK xs i=↑v)(h5:Q v H)
def Fo(K:ι):R2:=λx y H Q=>RD K x y H Q
inductive RE (K:ι)(x:V)(y:V)(H:Hp)(Q:VK):Prop
 |mk (p:_)(xs:_)(i:_)(v:_)(h1:x= .ref p)(h2:y= .int i)(h3:HX K H p xs)(h4:QK xs i=↑v)(h5:Q v H)
def Bx(K:ι):R2:=λx y H Q=>RE K x y H Q
def qF:PN X (Fo X.K):=by
 intro value f R0 s σ H x y v u Q I B E h l;let#[p,xs,i,z,rfl,rfl,n,C,q]:=h;cases B;let#[t,rfl]:=E;let#[d,r,pl,K]:=I.list n;let#[j,h1,D,J,A,F]:=rW C;let#[w,m,e]:=r.get D;have o:=r.length;have G:=af;have a:EP X R0 σ Q w s:=#[z,H,I,e,q]
 by_cases g:0<=i
 .have c:i.toNat=j:=by
   rw[seqIndex_of g F]at h1;exact JE h1
  exact item_listR pl.isList g (by lia) (by rw[c];simpa using m) a l
 .have c:(i+(d.toArray.size:Int)).toNat=j:=by
   rw[seqIndex_neg (by lia) A]at h1
   rw[Js,<- o];exact JE h1
  exact subscriptTail_builtinR (x:=w) pl.isList.typeIs slot_list_getitem.lookup
   (wpAny_getItem_list_neg (Q:=λr s'=>r=w/\EP X R0 σ Q r s') pl.isList (by lia) (by rw[Js]<;>lia) (by lia) (by rw[c];simpa using m) #[Z,a]) l
def qN:PN X (Bx X.K):=by
 intro value c R0 s σ H x y v u Q I n o h g;let#[p,xs,i,z,rfl,rfl,m,e,q]:=h;cases n;let#[t,rfl]:=o;let#[A,r,pl,G]:=I.tuple m;let#[j,h1,f,C,D,F]:=rW e;let#[w,l,a]:=r.get f;have B:=r.length;have E:=af;have d:EP X R0 σ Q w s:=#[z,H,I,a,q]
 exact subscriptTail_builtinR (x:=w) pl.typeIs slot_tuple_getitem.lookup
  (getItem_tuple (j:=j) (Q:=λr s'=>r=w/\EP X R0 σ Q r s') pl (by lia) (by lia) (by rw[Js,<- B];exact h1) (by simpa using l) #[Z,d]) g
def uU(its:Ζ)(n j:Nat)(u:Γ):SY (·.setIfInBounds j u) {cls:= .type "list",data:= .seq its.toArray n}={cls:= .type "list",data:= .seq (its.set j u).toArray n}:=by
 simp [SY]
theorem HN.lst(I:HN X R0 σ H s)(h:H p=↑(.lst xs)):
  ∃(its:Ζ) (n:Nat),HS xs its/\s.heap.get? p=some {cls:= .type "list",data:= .seq its.toArray n}/\xs.length<=ζ:=by
 let#[z,its,n,r,e]:=I.hok p _ h
 exact#[its,n,r,e,z]
def HN.lstUpd{its its':Ζ}{a:Nat}{f:Obj->Obj}(I:HN X R0 σ H s)(h:H p=↑(.lst xs))
  (ho:s.heap.get? p=some {cls:= .type "list",data:= .seq its.toArray n})(hf:f {cls:= .type "list",data:= .seq its.toArray n}={cls:= .type "list",data:= .seq its'.toArray a})(r:HS ys its')(hz:ys.length<=ζ)(t:Nat):
  HN X R0 σ (HM H p (.lst ys)) {s with heap:=s.heap.update p f,toks:=t}:=by
 have e:(s.heap.update p f).get? p=some {cls:= .type "list",data:= .seq its'.toArray a}:=by
  rw[Lf f ho (by rw[hf]<;>rfl),hf]
 refine I.write (x:=p) (e:=p) (by rw[h];trivial) (.inl Z) (λb u c q=>(LD _ _ (Ne.symm c)).trans q) #[_,e] ?_
 exact#[hz,its',a,r,e]
inductive Rh (o:V)(i:V)(v:V)(H:Hp)(Q:Hp->Prop):Prop
 |mk (p:_)(xs:_)(k:_)(j:_)(h1:o= .ref p)(h2:i= .int k)(h3:H p=↑(.lst xs))(h4:cC xs.length k=↑j)(h5:Q (HM H p (.lst (xs.set j v))))
def F9:V->V->V->Hp->(Hp->Prop)->Prop:=λo i v H Q=>Rh o i v H Q
def Zd:og X F9:=by
 intro R0 s σ H o i v B D u Q I z y w h;let#[p,xs,k,j,rfl,rfl,g,x,q]:=h;cases z;let#[t,rfl]:=y;let#[a,n,r,d,A]:=I.lst g;let#[h1,E,l,m]:=tE x;have c:=r.length;have C:=af;have f:HN X R0 σ (HM H p (.lst (xs.set j v))) {s with heap:=s.heap.update p (SY (·.setIfInBounds j u))}:=
  I.lstUpd g d (uU a n j u) (r.set w j) (by rw[Lg];exact A) s.toks
 by_cases e:0<=k
 .have hk:k.toNat=j:=by
   rw[seqIndex_of e m]at h1;exact JE h1
  exact W.ki_setAt d e (by lia) (by rw[Js,<- c];exact m) (by rw[hk];exact#[_,f,q])
 .have hk:(k+(a.toArray.size:Int)).toNat=j:=by
   rw[seqIndex_neg (by lia) l]at h1
   rw[Js,<- c];exact JE h1
  exact W.ki_setBack d (by lia) (by rw[Js,<- c];exact l) (by lia) (by rw[hk];exact#[_,f,q])
def mW(lo hi:Λ)(n:Nat):(sliceBounds lo hi none n).1=((HT.sIx n 0 lo:Nat):Int)/\(sliceBounds lo hi none n).2.1=((HT.sIx n n hi:Nat):Int)/\(sliceBounds lo hi none n).2.2=1:=by
 refine#[?_,?_,Z]
 .cases lo with
  |none=>simp [sliceBounds,HT.sIx]
  |some i=>
   simp only[sliceBounds,HT.sIx,OG,show(1:Int)>0 by decide,Io]
   by_cases h:i<0
   .simp only[h,Io]<;>lia
   .simp only[h,JH]<;>lia
 .cases hi with
  |none=>simp [sliceBounds,HT.sIx]
  |some i=>
   simp only[sliceBounds,HT.sIx,OG,show(1:Int)>0 by decide,Io]
   by_cases h:i<0
   .simp only[h,Io]<;>lia
   .simp only[h,JH]<;>lia
def lI(its:Ζ)(lo hi:Λ):slicePick its.toArray lo hi none=((its.drop (HT.sIx its.length 0 lo)).take (HT.sIx its.length its.length hi-HT.sIx its.length 0 lo)).toArray:=by
 let#[h1,c,a]:=mW lo hi its.toArray.size;unfold slicePick;rw[h1,c,a];simp only[sliceRange_one,pick_run,Js]<;>rfl
inductive RF (K:ι)(x:V)(lo:Λ)(hi:Λ)(H:Hp)(Q:VK):Prop
 |mk (a:_)(xs:_)(h1:x= .ref a)(h2:HQ K H a xs)(h3:∀p,H p=none->Q (-p) (HM H p (.lst (Q9 xs lo hi))))
def GH(K:ι):V->Λ->Λ->Hp->VK->Prop:=λx lo hi H Q=>RF K x lo hi H Q
def gx:yc X (GH X.K):=by
 intro R0 s σ H x v t n lo hi m Q I i f pl g h;let#[a,xs,rfl,e,q]:=h;cases i;let#[l,r,d,j]:=I.list e;have c:=r.length;exists "list",_,slot_list_getitem.lookup,d.isList.typeIs
 refine wpAny_getItem_list_slice d.isList f pl g .none (by simp) ?_ (by rw[Js]<;>lia)
 rw[lI,<- c];refine#[-s.heap.objs.size,_,I.laid (t':=s.toks) (o:= .lst (Q9 xs lo hi)) (λb p q=>Jk _ q) (Jf _) ?_,Z,q _ (I.hok.fresh (Jf _))]
 exact#[JN (gZ xs lo hi) j,_,(0),(r.drop (HT.sIx xs.length 0 lo)).take (HT.sIx xs.length xs.length hi-HT.sIx xs.length 0 lo),Jp _ Z]
noncomputable def B0:V->Bool
 | .non=>true
 | .bl _=>true
 | .int _=>true
 | .str _=>true
 |_=>false
noncomputable def Go:V->V->Bool
 | .non,.non=>true
 | .bl a,.bl b=>a==b
 | .bl a,.int b=>(if a then 1 else 0)==b
 | .int a,.bl b=>a==(if b then 1 else 0)
 | .int a,.int b=>a==b
 | .str a,.str b=>a==b
 |_,_=>false
def EJ(e:HV y u)(c:HV x v)(g:B0 y=true)(f:B0 x=true):SeqAt.EqAt A s u v (Go y x):=by
 cases y with
 |non=>
  cases e;cases x with
  |non=>cases c;exact SeqAt.EqAt.same _
  |bl b=>cases c;exact SeqAt.EqAt.none_bool b
  |int b=>let#[t,rfl]:=c;exact SeqAt.EqAt.none_int b t
  |str b=>let#[t,rfl]:=c;exact SeqAt.EqAt.none_str b t
  |_=>exact absurd (show false=true from f) JK
 |bl a=>
  cases e;cases x with
  |non=>cases c;exact SeqAt.EqAt.bool_none a
  |bl b=>cases c;exact SeqAt.EqAt.bool_bool a b
  |int b=>let#[t,rfl]:=c;exact SeqAt.EqAt.bool_int a b t
  |str b=>let#[t,rfl]:=c;exact SeqAt.EqAt.bool_str a b t
  |_=>exact absurd (show false=true from f) JK
 |int a=>
  let#[d,rfl]:=e;cases x with
  |non=>cases c;exact SeqAt.EqAt.int_none a d
  |bl b=>cases c;exact SeqAt.EqAt.int_bool a d b
  |int b=>let#[t,rfl]:=c;exact Ss a d b t
  |str b=>let#[t,rfl]:=c;exact SeqAt.EqAt.int_str a d b t
  |_=>exact absurd (show false=true from f) JK
 |str a=>
  let#[d,rfl]:=e;cases x with
  |non=>cases c;exact SeqAt.EqAt.str_none a d
  |bl b=>cases c;exact SeqAt.EqAt.str_bool a d b
  |int b=>let#[t,rfl]:=c;exact SeqAt.EqAt.str_int a d b t
  |str b=>let#[t,rfl]:=c;exact SeqAt.EqAt.str_str a d b t
  |_=>exact absurd (show false=true from f) JK
 |_=>exact absurd (show false=true from g) JK
def qT:zj X (.builtin "len") (λxs H Q=>∃p ys,xs=[-p]/\(HQ X.K H p ys\/HX X.K H p ys)/\Q (.int ys.length) H):=by
 intro R0 s σ H xs j Q I r h;let#[p,ys,rfl,c,q]:=h;let#[u,rfl,f]:=zT r;cases f;have i:=af;rcases c with c|c
 .let#[d,e,pl,g]:=I.list c
  have a:=e.length;exact Calls.call_len_list pl.isList (by simp only[Js]<;>lia) #[.int ys.length,H,I.tok _,#[s.toks+1,by rw[Js,a]],q]
 .let#[d,e,pl,g]:=I.tuple c
  have a:=e.length;exact len_tuple pl (by simp only[Js]<;>lia) #[.int ys.length,H,I.tok _,#[s.toks+1,by rw[Js,a]],q]
def nY:zj X (.builtin "len") (λxs H Q=>∃z,xs=[.str z]/\z.length<=ζ/\Q (.int z.length) H):=by
 intro R0 s σ H xs a Q I r h;let#[z,rfl,c,q]:=h;let#[u,rfl,t,rfl]:=zT r;have d:=af;exact len_str (by lia) #[.int z.length,H,I.tok _,#[0],q]
def fI:zj X (.type "list") (λxs H Q=>∃p ys,xs=[-p]/\(HQ X.K H p ys\/HX X.K H p ys)/\∀l,H l=none->Q (-l) (HM H l (.lst ys))):=by
 intro R0 s σ H xs x Q I r h;let#[p,ys,rfl,d,q]:=h;let#[u,rfl,w]:=zT r;cases w;have j:∀(a:Ζ),HS ys a->ys.length<=ζ->∀(h':Ψ) (c':Nat),(∀b o',s.heap.get? b=↑o'->h'.get? b=↑o')->
   h'.get? s.heap.objs.size=some {cls:= .type "list",dict:=none,data:= .seq a.toArray c',slots:= (AA [])}->EP X R0 σ Q (-s.heap.objs.size) {s with heap:=h'}:=λa c g h' c' i e=>
  #[-s.heap.objs.size,_,I.laid (t':=s.toks) i (Jf _) (show ML X.prog X.w _ h' _ (.lst ys)from#[g,a,c',c,e]),Z,q _ (I.hok.fresh (Jf _))]
 rcases d with d|d
 .let#[a,c,pl,g]:=I.list d
  have f:=c.length;let#[o,v,t,n,m]:=pl.isList;exact call_list_seq p (.inl Z) v t m (λh' c' i e=>j a c g h' c' i e) (by simp only[Js]<;>lia)
 .let#[a,c,pl,g]:=I.tuple d
  have f:=c.length;let#[o,v,t,n,m]:=pl;exact call_list_seq p (.inr Z) v t m (λh' c' i e=>j a c g h' c' i e) (by simp only[Js]<;>lia)
def zp:zj X (.type "tuple") (λxs H Q=>∃p ys,xs=[-p]/\((HQ X.K H p ys/\∀l,H l=none->Q (-l) (HM H l (.tup ys)))\/(HX X.K H p ys/\Q (-p) H))):=by
 intro R0 s σ H xs t Q I r h;let#[p,ys,rfl,h]:=h;let#[u,rfl,j]:=zT r;cases j;rcases h with⟨c,q⟩|⟨c,q⟩
 .let#[a,d,pl,i]:=I.list c
  have g:=d.length;refine call_tuple_list pl.isList (λh' m=>?_) (by simp only[Js]<;>lia)
  have f:HN X R0 σ H {s with heap:=h'}:=I.kept (t':=s.toks) m
  have n:HN X R0 σ (HM H h'.objs.size (.tup ys)) {s with heap:=h'.push {cls:= .type "tuple",data:= .seq a.toArray}}:=
   f.laid (t':=s.toks) (λb o e=>Jk _ e) (Jf _) (show ML X.prog X.w _ _ _ (.tup ys)from#[i,a,d,IsTup.new _ _])
  exact#[-h'.objs.size,_,n,Z,q _ (f.hok.fresh (Jf _))]
 .let#[a,d,pl,i]:=I.tuple c
  exact call_tuple_same pl #[-p,H,I,Z,q]
def Gj(K:ι)(T:String)(x:V)(H:Hp):Prop:=match x with
 | .str _=>T="str"
 | .int _=>T="int"
 | .ref p=>(T="list"/\∃xs,HQ K H p xs)\/(T="tuple"/\∃o,K.lookup p=↑o/\o.cls= .type "tuple"/\o.dict=none)\/
   (T="dict"/\((∃kvs,H p=↑(.dK kvs))\/∃kvs,H p=↑(.dT kvs)))\/(T="set"/\∃S n,H p=↑(.set S n))
 |_=>False
def E5(I:HN X R0 σ H s)(r:HV x v)(ty:Gj X.K T x H):
  s.TypeIs v T/\∀a,v= .ref a->∃g,s.heap.get? a=↑g/\g.dict=none:=by
 cases x with
 |str z=>
  let#[t,rfl]:=r
  cases(show T="str" from ty)
  exact#[typeIs_str s z t,λ_ e=>nomatch e]
 |int i=>
  let#[t,rfl]:=r
  cases(show T="int" from ty)
  exact#[typeIs_int s i t,λ_ e=>nomatch e]
 |ref p=>
  cases r;rcases ty with⟨rfl,xs,j⟩|⟨rfl,o,hk,h,d⟩|⟨rfl,hk⟩|⟨rfl,S,n,hk⟩
  .let#[l,_,pl,_]:=I.list j
   refine#[pl.isList.typeIs,λa e=>?_]
   cases e;let#[o,n,e,c,d,_]:=pl
   exact#[o,e,d]
  .refine#[#[o,I.kIn p o hk,h],λa e=>?_]
   cases e
   exact#[o,I.kIn _ o hk,d]
  .have z:∃o,s.heap.get? p=↑o/\o.ExactDict:=by
    rcases hk with⟨kvs,hk⟩|⟨kvs,hk⟩
    .let#[_,_,_,_,o,_,_,e,ex,_]:=I.hok p _ hk
     exact#[o,e,ex]
    .let#[_,_,_,_,o,_,_,e,ex,_]:=I.hok p _ hk
     exact#[o,e,ex]
   let#[o,e,ex]:=z;refine#[#[o,e,ex.1],λa f=>?_]
   cases f
   exact#[o,e,ex.2.1]
  .let#[o,_,_,_,e,ex,_]:=I.hok p _ hk
   refine#[#[o,e,ex.1],λa f=>?_]
   cases f
   exact#[o,e,ex.2.1]
 |_=>exact False.elim ty
noncomputable def Ea(K:ι)(T:String)(r:V->Ε->Hp->VK->Prop)(to:TE)(t:TA):TE:=λσ H Q=>to σ H λx H1=>Gj K T x H1/\t σ H1 λxs a=>r x xs a Q
variable{o e:Φ}{es:Ι}{to:TE}{t:TA}{name:Str}{apos cpos:Pos}{T id:String}{r:V->Ε->Hp->VK->Prop}
def FN(pa:PlainAttrs T)(g:Slot T name id)(i:typeOf (.builtin id)=pure (.type "method_descriptor"))(hm:ph X id r)(ho:PE X o to)(ha:PA X (e::es) t)
  (d:attributeBase o name X.env (eval o X.env)=eval o X.env:=by rfl)
  (f:((backTo cpos (θ (e::es) X.env)).all (λx=> ! x.1)&&(backToKw cpos (keywordEach [] X.env)).all (λx=>x.1.isSome)
   &&decide ((e::es).length+([]:ξ).length+(if([]:ξ).isEmpty then 0 else 1)<30))=true:=by rfl)
  (c:(apos.endLine==cpos.line)=true:=by rfl)(hs:θ (e::es) X.env=(false,eval e X.env)::θ es X.env:=by rfl)(a:(backTo cpos (θ es X.env)).any (·.1)=false:=by rfl):
  PE X (.Call (.Attribute o name apos) (e::es) [] cpos) (Ea X.K T r to t):=by
 intro R0 s σ H Q I h;refine wpAny_Call_method_late d f c Z (qz (ho R0 s σ H _ I h) λv w u=>?_)
 let#[x,H1,j,l,ty,y]:=u;let#[h1,B]:=E5 j l ty;exists T,id,pa,g,i,h1,B
 have m:=ha cpos R0 w σ H1 _ j y;rw[hs]at m⊢;refine Mw (by show(false||(backTo cpos (θ es X.env)).any (·.1))=false;rw[a]<;>rfl) (Mz ?_)
 exact qz m λq n ⟨vs,C,z,p,A⟩=>hm R0 n σ C x vs v q Q z l p A
end
def EG(X:Cx)(id:String)(r:V->Ε->Hp->VK->Prop):Prop:=
 ∀(R0:HI) (s:Θ) (σ:St) (H:Hp) (x:V) (xs:Ε) (v:Γ) (a:Ζ) (Q:VK),HN X R0 σ H s->HV x v->HS xs a->r x xs H Q->
  ε (model X.prog X.w) X.A (call (.builtin id) (v::a)) (EP X R0 σ Q) X.xe s
def HS.one:∀{x:V} {us:Ζ},HS [x] us->∃u,us=[u]/\HV x u
 :=by
 intro x us h;cases h with
 |cons r q=>cases q;exact#[0,r]
def HS.two:∀{x y:V} {us:Ζ},HS [x,y] us->∃u v,us=[u,v]/\HV x u/\HV y v
 :=by
 intro x y us h;cases h with
 |cons r q=>cases q with
  |cons q z=>cases z;exact#[13,r,q]
theorem HS.eraseIdx:∀{xs:Ε} {us:Ζ} (i:Nat),HS xs us->HS (xs.eraseIdx i) (us.eraseIdx i)
 |_,_,_,.nil=> .nil
 |_,_,0,.cons _ t=>t
 |_,_,i+1,.cons r t=> .cons r (HS.eraseIdx i t)
theorem HS.rep{xs:Ε}{us:Ζ}(h:HS xs us):∀k:Nat,HS (Dj k xs).flatten (Dj k us).flatten
 |0=> .nil
 |k+1=>by
  rw[LF,LF,L7,L7];exact HS.append h (HS.rep h k)
theorem lj{a:Type}:∀(l:List a) (i:Nat),(l.eraseIdx i).length<=l.length
 | [],_=>Jf _
 |_::_,0=>IL _
 |_::r,i+1=>OH (lj r i)
theorem lG(its:Ζ):∀(k:Nat) (a:Ζ),
  Kp (λf d=>f++d) a.toArray (Dj k its.toArray)=(a++(Dj k its).flatten).toArray
 |0,a=>by simp
 |k+1,a=>by
  have e:a.toArray++its.toArray=(a++its).toArray:=by simp
  have c:(a++its)++(Dj k its).flatten=a++(Dj (k+1) its).flatten:=by
   rw[LF,L7,IU]
  rw[<- c,<- lG its k (a++its),<- e,LF,KZ]
def HN.lset{its its':Ζ}{f:Array Γ->Array Γ}{t':Nat}(I:HN X R0 σ H s)(a:H l=↑(.lst xs))
  (e:s.heap.get? l=some {cls:= .type "list",data:= .seq its.toArray n})(hf:f its.toArray=its'.toArray)(hv:HS ys its')(hz:ys.length<=ζ):
  HN X R0 σ (HM H l (.lst ys)) {s with heap:=s.heap.update l (SY f),toks:=t'}:=by
 have q:=PySem.IsL.update e f;rw[hf]at q;refine I.write (x:=l) (e:=l) (by rw[a];exact trivial) (.inl Z) (λg u d c=>(LD s.heap (SY f) (Ne.symm d)).trans c) #[_,q] ?_
 exact#[hz,its',_,hv,q]
def HN.lnew{t':Nat}(I:HN X R0 σ H s)(hv:HS ys its)(hz:ys.length<=ζ):
  HN X R0 σ (HM H s.heap.objs.size (.lst ys)) {s with heap:=s.heap.push {cls:= .type "list",data:= .seq its.toArray},toks:=t'}:=
 I.laid (λ_ _ q=>Jk _ q) (Jf _) #[hz,its,(0),hv,Jp _ Z]
theorem HN.fresh(I:HN X R0 σ H s):H s.heap.objs.size=none:=I.hok.fresh (Jf _)
def HN.lstM(I:HN X R0 σ H s)(a:H l=↑(.lst xs)):xs.length<=ζ/\∃(its:Ζ) (n:Nat),HS xs its/\xs.length=its.length/\s.heap.get? l=some {cls:= .type "list",data:= .seq its.toArray n}:=by
 let#[z,its,n,r,e]:=I.hok l _ a
 exact#[z,its,n,r,r.length,e]
def pK{n:Nat}(h:n<=ζ):γ.List.listTooLong n=false:=by
 unfold γ.List.listTooLong;exact Jn (by lia)
inductive O5 (x:V)(vs:Ε)(H:Hp)(Q:VK):Prop
 |mk (l:_)(xs:_)(y:_)(h1:x= .ref l)(h2:vs=[y])(h3:H l=↑(.lst xs))(h4:xs.length<ζ)(h5:Q .non (HM H l (.lst (xs++[y]))))
def rY:V->Ε->Hp->VK->Prop:=λx vs H Q=>O5 x vs H Q
def wN:EG X "list.append" rY:=by
 intro R0 s σ H x vs v j Q I d g h;let#[l,xs,y,rfl,rfl,c,i,q]:=h;cases d;let#[u,rfl,f]:=g.one;let#[z,a,n,r,m,e]:=I.lstM c;refine Lo F.slot_list_append #[_,e,Z] F.entry_list_append (F.args_list_append_2 _ _) (PySem.list_append l a.toArray n u (by rw[Js];lia)) #[e,?_]
 refine#[.non,_,I.lset (its':=a++[u]) c e (by simp) (r.append (.cons f .nil)) ?_,Z,q]
 rw[Jy,IM];lia
inductive O6 (x:V)(vs:Ε)(H:Hp)(Q:VK):Prop
 |mk (l:_)(b:_)(xs:_)(zs:_)(h1:x= .ref l)(h2:vs=[-b])(h3:H l=↑(.lst xs))(h4:H b=↑(.lst zs))(h5:xs.length+zs.length<=ζ)(h6:Q .non (HM H l (.lst (xs++zs))))
def sw:V->Ε->Hp->VK->Prop:=λx vs H Q=>O6 x vs H Q
def wz:EG X "list.extend" sw:=by
 intro R0 s σ H x vs v B Q I o w h;let#[l,b,xs,zs,rfl,rfl,g,i,A,q]:=h;cases o;let#[u,rfl,p]:=w.one;cases p;let#[z,c,n,r,C,e]:=I.lstM g;let#[y,a,n2,m,j,t]:=I.lstM i;have f:c.toArray.size+a.toArray.size<=ζ:=by rw[Js,Js];lia
 have d:¬(! c.toArray.isEmpty&&γ.List.listTooLong (c.toArray.size+a.toArray.size))=true:=by
  rw[pK f,Bool.and_false];exact JK
 refine Lo F.slot_list_extend #[_,e,Z] F.entry_list_extend (F.args_list_extend_2 _ _)
  (AutoSeq1.list_extend_list_list_0 l c.toArray n b a.toArray n2 d (by rw[Js];lia) (by lia)) #[e,t,?_]
 refine#[.non,_,I.lset (its':=c++a) g e (by simp) (r.append m) ?_,Z,q]
 rw[Jy];lia
inductive PV (x:V)(vs:Ε)(H:Hp)(Q:VK):Prop
 |mk (l:_)(xs:_)(i:_)(k:_)(y:_)(h1:x= .ref l)(h2:vs=[.int i])(h3:H l=↑(.lst xs))(h4: -(2 ^ 63)<=i)(h5:i<2 ^ 63)(h6:seqIndex? i xs.length=↑k)(h7:xs[k]? =↑y)(h8:Q y (HM H l (.lst (xs.eraseIdx k))))
def vS:V->Ε->Hp->VK->Prop:=λx vs H Q=>PV x vs H Q
def Bc:EG X "list.pop" vS:=by
 intro R0 s σ H x vs v B Q I j A h;let#[l,xs,i,k,y,rfl,rfl,d,h1,f,hk,o,q]:=h;cases j;let#[u,rfl,m]:=A.one;let#[t,rfl]:=m;let#[z,a,n,r,p,e]:=I.lstM d;let#[w,g,c]:=r.get o;refine Lo F.slot_list_pop #[_,e,Z] F.entry_list_pop (F.args_list_pop_2 _ _)
  (MeetsSeq.list_pop_at l a.toArray n i t k w (fitsIndex_both h1 f) (by rw[Js,<- p];exact hk) (by rw[<- KI];exact g) (by rw[Js];lia)) #[e,?_]
 refine#[y,_,I.lset (its':=a.eraseIdx k) d e ?_ (r.eraseIdx k) ?_,c,q]
 .show a.toArray.eraseIdxIfInBounds k=(a.eraseIdx k).toArray
  rw[List.eraseIdxIfInBounds_toArray]
 .have:=lj xs k
  lia
inductive RG (x:V)(y:V)(H:Hp)(Q:VK):Prop
 |mk (l:_)(k:_)(xs:_)(h1:x= .ref l)(h2:y= .int k)(h3:H l=↑(.lst xs))(h4: -(2 ^ 63)<=k)(h5:k<2 ^ 63)(h6:xs.length*k.toNat<=ζ)(h7:∀p,H p=none->Q (-p) (HM H p (.lst (Dj k.toNat xs).flatten)))
def Gy:R2:=λx y H Q=>RG x y H Q
def Ct{a:Type}(xs:List a)(k:Nat):(Dj k xs).flatten.length=k*xs.length:=by
 induction k with
 |zero=>simp
 |succ k ih=>rw[LF,L7,Jy,ih,Nat.succ_mul,Nat.add_comm]
def ym:zx X (binaryOp .Mult) Gy:=by
 intro R0 s σ H x y v u Q I E D h;let#[l,k,xs,rfl,rfl,C,h1,A,w,q]:=h;cases E;let#[t,rfl]:=D;let#[z,c,n,r,G,e]:=I.lstM C;have i:c.toArray.size*k.toNat<=ζ:=by rw[Js,<- G];exact w
 have f:¬c.toArray.size*k.toNat>(2 ^ 63-1)/8:=by
  have:(ζ:Nat)<=(2 ^ 63-1)/8:=by decide
  lia
 have j:¬(!γ.List.listFitsIndex k)=true:=by
  rw[fitsIndex_both h1 A];exact JK
 have d:¬γ.List.listTooLong (c.toArray.size*k.toNat)=true:=by
  rw[pK i];exact JK
 have g:Kp (λo p=>o++p) (AA []) (Dj (if c.toArray.isEmpty=true then 0 else k.toNat) c.toArray)=(Dj k.toNat c).flatten.toArray:=by
  have B:∀m:Nat,Kp (λo p=>o++p) (AA []) (Dj m c.toArray)=(Dj m c).flatten.toArray:=λm=>by
   have:=lG c m []
   rw[Kq]at this;exact this
  rw[B];cases c with
  |nil=>simp
  |cons a r'=>rw[Jb (by simp)]
 refine wpAny_binaryOp_repeat_ref (T:="list") (U:="int") ⋯ #[_,e,Z] (λs'=>typeIs_int s' k t) noFill_list_mul F.fills_int_mul F.slot_int_rmul repeat_list F.slot_int_index.lookup
  (Lo F.slot_int_rmul (typeIs_int s k t) F.entry_int_rmul (F.args_int_rmul_2 _ _) (int___rmul___int_list k t l c.toArray n)
   #[e,Z,#[_,e,Z],Lo F.slot_list_mul #[_,e,Z] F.entry_list_mul (F.args_list_mul_2 _ _) (AutoListH.list___mul___list_int_3 l c.toArray n k t j f d) #[e,?_]])
 rw[g]
 exact#[.ref _,_,I.lnew (t':=s.toks) (r.rep k.toNat) (by rw[Ct,Nat.mul_comm];exact w),Z,q _ I.fresh]
end L2
namespace Att
open PySem PySem.W PySem.Calls PyProof.Rows
def jt:∀(ns:Β) (vs:Ζ),WellAll P h vs (ns.map WData.int)->IntsAre vs ns:=by
 intro ns
 induction ns with
 |nil=>
  intro vs w;rw[Ln]at w;cases w;exact .nil
 |cons n ns ih=>
  intro vs w;rw[JS]at w;cases w with
  |cons a b=>
   cases a;exact .cons _ _ (ih _ b)
def wB{l:OpenLaw}{n:Nat}(hn:l.most=↑n)
  (f:l.row.toRowW.claim.pre args=true)(o:WellAll P h e args):
  ∃a vs c,e=[Γ.ref a]/\args=[WData.list (c.map WData.int)]/\h.get? a=some {cls:= .type "list",data:= .seq vs.toArray}/\IntsAre vs c/\c.length<=n:=by
 have m:WShape.hasAll [] args [.list .int]=true:=(pre_splitW f).1
 have p:l.pre.holds [] {args:=args}=true:=(pre_splitW f).2
 let#[d,r,rfl,h1,t]:=hasAllW_cons m
 obtain rfl:=hasAllW_nil t
 let#[xs,rfl,s]:=hasW_list h1;let#[c,rfl]:=items_int s;have g:c.length<=n:=by
  unfold OpenLaw.pre at p;have i:(WTm.not (.lt (.lit (.int (n:Int))) (.len (.arg 0)))).holds [] {args:=[.list (c.map .int)]}=true:=by
   have i:=(holds_andW p).1;rw[hn]at i;exact i
  have j:=condW_of i (w_not (w_lt w_lit (w_len_list (w_arg Z))));rw[Je]at j;refine Kr λq=>?_
  have u:(n:Int)<((c.length:Nat):Int):=by lia
  first
   |(rw[Jj u]at j;exact absurd j ⋯)
   |(simp at j;lia)
 cases o with
 |cons w1 w2=>
  cases w2;cases w1 with
  |list ho hall=>exact#[15,c,9,ho,jt c _ hall,g]
def wU(l:OpenLaw)(args:List WData):l.row.toRowW.claim.post args (.bool true) args=true:=
 postW_of (r:=l.row.toRowW) (X:=(true==true))
  (show WShape.has [] (.bool true) .bool=true by first|rfl|decide|simp [WShape.has,WShape.arms,WShape.armsAll])
  (show(WTm.eq .res (.lit (.bool true))).value [] {args:=args,res:=↑(.bool true),after:=args}=↑(.bool (true==true))from w_eq_bool (w_res Z) w_lit) Z
def attach_call{l:OpenLaw}{n:Nat}{B:(Str->Ν)->Ψ->Prop}{z:Ω->Ψ->Prop}{d:DefRec}
  (hn:l.most=↑n)(s:d.params.defaults=[])
  (call:∀(w:Ω) (e c:Θ) (mg x:HH) (i:Δ) (o:Obj) (pm cd doc:Γ) (a:Δ) (vs:Ζ) (ns:Β),
   Ground q g [] B w e mg x c.heap->z w c.heap->
   c.heap.get? i=↑o->o.data= .func (docDef d.name d.params d.body d.scope pm cd doc)->c.heap.CodeRec cd d.name->mg d.name=↑(-i)->
   c.heap.get? a=some {cls:= .type "list",data:= .seq vs.toArray}->IntsAre vs ns->ns.length<=n->c.gens= (AA [])->
   codeAny (model l.prog w) callerA (.call (-i) #[[-a],[]]) (λr s'=>r= .ok (.ret (.bool true))/\OldK c.heap s'.heap/\s'.os=c.os/\AllBare s'.gens) c):
  WalkO q g B z l.row.toRowW d [] (λf vs=>PySem.call f vs):=by
 intro w e c mg x G Y i o pm cd doc N kV L P v D u K C A Q p y F t M
 obtain rfl:N= .none:=Dflts.none D s
 obtain rfl:kV= .none:=Dflts.noKw D
 let#[a,vs,ns,rfl,rfl,j,h,m]:=wB hn p t;refine enter_call (Lm (call w e c mg x i o pm cd doc a vs ns G Y L (fd_plain P) v u j h m K) λr s' E=>?_)
 let#[rfl,O,I,J]:=E
 exact#[.inl #[.bool true,.bool true,[],Z,λ_=>rfl,.bool true,wU l _,λ_=>#[SU,λ_ H=>(nomatch H)]],O,I,J]
end Att
namespace L2
open PySem PySem.Spec PyProof.Rows
theorem fB:∀{vs:Ζ} {ns:Β},IntsAre vs ns->HS (ns.map V.int) vs
 |_,_,.nil=> .nil
 |_,_,.cons n t h=> .cons #[t,Z] (fB h)
def Au(H:Hp):Prop:=∀b,H b=none\/∃o xs,H b=↑(.frz o (.lst xs))
def Ab{K:ι}{k:Nat}{a:Δ}{x:Str}{c:Θ}{vs:Ζ}
  (O:K.In c.heap)(A:c.heap.Ns η mg)(hb:c.heap.Ns builtinsNs M)(J:∀x:Str,x≠"__name__"->M x=bootBuiltins x)(B:c.heap.NoLimit)(hg:c.gens= (AA []))
  (ha:c.heap.get? a=some {cls:= .type "list",data:= .seq vs.toArray})(hi:IntsAre vs ns)(hl:ns.length<=ζ)(hr:MK k callerA)
  (F:∀base:Ψ,K.In base->base.Ns η mg->NU P w K mg base CX k E fd [x] sp)(j:∀(s:Θ) (u:Γ),BindsTo s fd #[[u],[]] [(x,u)])
  (I:∀H:Hp,Au H->HQ K H a (ns.map V.int)->sp [-a] H (λv _=>v= .bl true) λ_ _ _=>False)
  (G:∀H e s',CX [] H c (λ_ _ _=>False) e s'->False):
  codeAny (model P w) callerA (.call (-E) #[[-a],[]]) (λr s'=>r= .ok (.ret (.bool true))/\OldK c.heap s'.heap/\s'.os=c.os/\AllBare s'.gens) c:=by
 have N:=fB hi;have p:=hi.length;have i:∀H:Hp,Au H->HQ K H a (ns.map V.int)->NW P w H c.heap->(∀b,H b≠none->b=a)->(H a≠none->K.lookup a=none)->
   codeAny (model P w) callerA (.call (-E) #[[-a],[]]) (λr s'=>r= .ok (.ret (.bool true))/\OldK c.heap s'.heap/\s'.os=c.os/\AllBare s'.gens) c:=by
  intro H S hS C R hK;have f:∀{b:Δ} {o:Obj},c.heap.get? b=↑o->H b=none->(eR c.heap H).get? b=↑o:=λe n=>Ad e n
  have L:∀{b:Δ} {o:Obj} {es:Array DictEntry} {ep:Nat},c.heap.get? b=↑o->o.data= .dict es ep->H b=none:=λ{b o es ep} e d=>by
   cases q:H b with
   |none=>rfl
   |some u=>
    have e':b=a:=R b (by rw[q];simp)
    subst e';rw[ha]at e;cases e
    have W:Data.seq vs.toArray _=Data.dict es ep:=d
    cases W
  have g:∀{b:Δ} {m:HH},c.heap.Ns b m->(eR c.heap H).Ns b m:=λ{b m} ⟨o,es,ep,e,d,r⟩=>#[o,es,ep,f e (L e d),d,r]
  have t:K.In (eR c.heap H):=λb o e=>f (O b o e) (by
   cases q:H b with
   |none=>rfl
   |some u=>
    have e':b=a:=R b (by rw[q];simp)
    subst e';rw[hK (by rw[q];simp)]at e;cases e)
  have U:RT K mg (eR c.heap H):=#[t,g A,#[M,g hb,J],let⟨mc,h1,h2⟩:=B;#[mc,g h1,h2]]
  have e0:Oq P w K mg (eR c.heap H) callerA [] c H:=#[Z,U,λb o e=>C6 e,L0 (wx _ _),trivial,λb hb=>absurd (show b∈([]:Η)from hb) (by simp),C,.of_eq hg]
  refine Lm ((F _ t (g A)).run callerA [] c H #[[-a],[]] [-a] [-a] _ _ hr e0 (j c (-a)) (.cons Z .nil) (I H S hS)) λr s' h=>?_
  cases r with
  |error e=>exact(G H e s' h).elim
  |ok fl=>
   cases fl with
   |next=>exact False.elim h
   |brk=>exact False.elim h
   |cont=>exact False.elim h
   |ret u=>
    let#[v,H',os,y,un,l,r',q]:=h;have q':v= .bl true:=q
    subst q'
    obtain rfl:u=Γ.bool true:=r'
    refine#[Z,OldK.of_keep λb o e=>?_,os,y]
    cases q:H b with
    |none=>exact un.keep b o e q (by intro z;exact absurd (show b∈([]:Η)from z) (by simp)) (by simp)
    |some u=>
     rcases S b with z|⟨T,xs,z⟩
     .rw[q]at z;cases z
     .have Y:=un.frzs b T _ z
      let#[Q,_]:=C b _ z;let#[X,_]:=l b _ Y;rw[e]at Q;cases Q
      exact X
 cases hk:K.lookup a with
 |some o=>
  have e:=O a o hk;rw[ha]at e;cases e;refine i (λ_=>none) (λ_=> .inl Z) (.inr #[_,vs.toArray,_,hk,40,by rw[Js,p];exact hl,by simpa using N]) (λb u z=>by have D:(none:Option HO)=↑u:=z;cases D) (λb z=>absurd Z z) λz=>absurd Z z
 |none=>
  refine i (λb=>if b=a then ↑(.frz {cls:= .type "list",data:= .seq vs.toArray} (.lst (ns.map V.int)))else none) (λb=>?_) (.inl (.inr #[{cls:= .type "list",data:= .seq vs.toArray},Jc Z])) (λb u z=>?_) (λb z=>?_) λ_=>hk
  .by_cases hb:b=a
   .exact .inr #[15,Jc hb]
   .exact .inl (Jb hb)
  .by_cases hb:b=a
   .have D:=(Jc hb).symm.trans z
    cases D;subst hb
    exact#[ha,by rw[Je];exact hl,vs,_,N,ha]
   .have D:=(Jb hb).symm.trans z
    cases D
  .by_cases hb:b=a
   .exact hb
   .exact absurd (Jb hb) z
def Dv{l:W.OpenLaw}{n k:Nat}{I:(Str->Ν)->Ψ->Prop}{B:Ω->Ψ->Prop}{d:DefRec}{K:Params->ι}{CX:Ω->gV}{sp:Ω->Sp}{x:Str}
  (hn:l.most=↑n)(y:n<=ζ)(r:d.params.defaults=[])(hr:MK k callerA)
  (N:∀(w:Ω) (h:Ψ),B w h->(K w.params).In h)
  (F:∀(w:Ω) (mg:HH) (p:Δ) (h:Ψ),(K w.params).In h->h.Ns η mg->mg d.name=↑(-p)->
   ∃fd:FuncData,(∀(s:Θ) (u:Γ),BindsTo s fd #[[u],[]] [(x,u)])/\
    ∀base:Ψ,(K w.params).In base->base.Ns η mg->NU l.prog w (K w.params) mg base (CX w) k p fd [x] (sp w))
  (z:∀(w:Ω) (H:Hp) (a:Δ) (ns:Β),ns.length<=n->Au H->HQ (K w.params) H a (ns.map V.int)->sp w [-a] H (λv _=>v= .bl true) λ_ _ _=>False)
  (t:∀(w:Ω) (H:Hp) (s:Θ) (e:Γ) (s':Θ),CX w [] H s (λ_ _ _=>False) e s'->False):
  W.WalkO q i I B l.row.toRowW d [] (λf vs=>PySem.call f vs):=by
 refine Att.attach_call hn r λw C m mg S p o pm cd doc a vs ns G Y Q R M A j g c J=>?_
 have D:=N w _ Y;let#[fd,L,E]:=F w mg p _ D G.T.g A;exact Ab D G.T.g G.T.b G.T.builtins G.T.nolimit J j g (JN c y) hr E L (λH O P=>z w H a ns c O P) λH e s'=>t w H m e s'
noncomputable def zG(s:δ)(j:Nat):δ:=match s with
 | .ClassDef _ _ _ body _ _ _ _ _ _ _=>body.getD j (.Pass #[(0),(0),(0),(0)])
 |_=> .Pass #[(0),(0),(0),(0)]
noncomputable def QX(s:δ):Arguments:=match s with
 | .FunctionDef _ a _ _ _ _ _ _ _ _=>a
 |_=>{posonlyargs:=[],args:=[],vararg:=none,kwonlyargs:=[],kw_defaults:=[],kwarg:=none,defaults:=[]}
noncomputable def zR(s:δ):List δ:=match s with
 | .FunctionDef _ _ b _ _ _ _ _ _ _=>b
 |_=>[]
noncomputable def qi(s:δ):Scope:=match s with
 | .FunctionDef _ _ _ _ _ _ sc _ _ _=>sc
 |_=>{kind:= .function,names:=[],isGenerator:=false,isCoroutine:=false}
abbrev bi:gV:=λ_ _ _ _ _ _=>False
abbrev E0:XK:=λ_ _ _=>False
def mr:gp bi X E0:=λ_ _ _ _ _ _ _ h=>h.elim
structure OL(K:ι)(x R1:Str)(st:δ)(f:Δ)(fd:FuncData):Prop where
 ex:∃(oc:Γ) (od:β) (kV doc pm:Γ) (an:β) (cdv ct:Γ) (osl:Array Ν),
  fd=PySem.W.fnOf x R1 (QX st) (zR st) (qi st) .none kV doc pm an cdv ct/\K.lookup f=some #[oc,od,.func fd,osl]/\PySem.W.codeIn K cdv R1=true
 kp:SR K (-f)=true
section
variable{K:ι}
def OL.ok{x R1:Str}{st:δ}{f:Δ}{fd:FuncData}{N ps:Α}{k:Nat}{sp:Sp}(F:OL K x R1 st f fd)(S:HK N ps (qi st))(len:∀vs H Q E,sp vs H Q E->vs.length=ps.length)
  (c:∀(cdv:Γ) (A:Rj) (a:Τ) (s:Θ) (H:Hp) (vs:Ε) (Q:VK) (E:XK),MK k (A.deeper (envOfC R1 (qi st) s.heap.objs.size f cdv))->sp vs H Q E->
   ∃t,On (cu bi P w K mg base N R1 (qi st) f cdv A a s H E).nox (zR st) t/\t {nx:=λ_ H'=>Q .non H',rt:=Q} (Zr N vs) H):NU P w K mg base bi (k+1) f fd ps sp:=by
 let#[oc,od,kV,doc,pm,an,cdv,ct,osl,rfl,g,e]:=F.ex;refine F6 g e S len λA a s H vs Q E i d=>?_
 let#[t,h,q]:=c cdv A a s H vs Q E i d
 exact#[t,h.nox,q]
def OL.binds{x R1:Str}{st:δ}{f:Δ}{fd:FuncData}{ps:Α}(F:OL K x R1 st f fd)
  (h:∀(kV doc pm:Γ) (an:β) (cdv ct:Γ) (us:Ζ),us.length=ps.length->bindArgs (TB x R1 (QX st) (zR st) (qi st) .none kV doc pm an cdv ct) #[us,[]]=pure (ps.zip us)):NH K fd ps []:=by
 let#[oc,od,kV,doc,pm,an,cdv,ct,osl,rfl,c,a]:=F.ex;exact .all (h kV doc pm an cdv ct)
def mY{x R1:Str}{st:δ}{f:Δ}{oc:Γ}{od an:β}{osl:Array Ν}{kV doc pm cdv ct:Γ}(l:K.lookup f=some #[oc,od,.func (TB x R1 (QX st) (zR st) (qi st) .none kV doc pm an cdv ct),osl])
  (c:W.codeIn K cdv R1=true)(k:TK K (-f)=true):OL K x R1 st f (TB x R1 (QX st) (zR st) (qi st) .none kV doc pm an cdv ct):=#[#[oc,od,kV,doc,pm,an,cdv,ct,osl,Z,l,c],k]
end
def FS{k:Nat}(hr:MK k A):A.units+1<cLine:=Ka (Nat.add_le_add_left (by decide:1<=64) _) hr.units
def zh{A B:Prop}(h:B):if false=true then A else B:=by
 rw[Jb JK];exact h
def zo{A B:Prop}(h:A):if true=true then A else B:=by
 rw[Jc Z];exact h
def qZ{c A B:Prop} [Decidable c](h1:c->A)(h2:¬c->B):if c then A else B:=by
 by_cases h:c
 .rw[Jc h]
  exact h1 h
 .rw[Jb h]
  exact h2 h
def aB{c A B:Prop} [Decidable c](hc:c)(h:B):if(! decide c)=true then A else B:=by
 rw[Jj hc];exact zh h
def HJ(H H':Hp):Prop:=∀b o,H b=↑o->H' b=↑o
def HJ.refl(H:Hp):HJ H H:=λ_ _ h=>h
def HJ.trans(a:HJ H H1)(b:HJ H1 d):HJ H d:=λc o h=>b c o (a c o h)
def HJ.seq{K:ι}(e:HJ H H')(h:HQ K H a xs):HQ K H' a xs:=by
 rcases h with(h|⟨o,h⟩)|h
 .exact .inl (.inl (e _ _ h))
 .exact .inl (.inr #[o,e _ _ h])
 .exact .inr h
end L2
namespace L3
open PySem PySem.Spec PyProof.Rows L2
def jy{i n:Nat}(h:i<n):n-(i+1)<n-i:=Nat.sub_lt_sub_left h (G0 i)
def Gi{i n:Nat}(h:i<n):n-1-i<n:=Ka (Nat.sub_le _ _) (OM h)
def E9{i n:Nat}(h:i<n):(n:Int)-1-i=((n-1-i:Nat):Int):=by lia
def Cc{i n:Nat}(h:i<n):((n-1-i:Nat):Int)-1=(n:Int)-1-((i+1:Nat):Int):=by lia
def GN{z:Int}(h:z<16):z.toNat<16:=by lia
def GS{z:Int}{n:Nat}(a:0<=z)(h:z<n):z.toNat<n:=(Int.toNat_lt a).2 h
noncomputable def qY(X:Cx)(N:Α)(a:Scope)(c:List (Str×Δ))(C:Δ)(s:Θ)(H:Hp)(fp:Η):Cx:=
 {X with N:=N,s₀:=s,H₀:=H,env:=compEnvC a c C X.env,outer:=X.stack,ex:=fp,fn:=λ_=>false,pn:=[],xe:=λ_ _=>False}
structure MU(X:Cx)(scope:Scope)(fr:Α)(js:Κ):Prop where
 kind:scope.kind= .function
 names:∀x∈scope.names,x.2= .local->scope.names.lookup x.1=some .local
 nocell:∀x∈scope.names,x.2≠ .cell
 free:∀x∈scope.names,x.2= .free->x.1∈fr
 len:js.length=fr.length
 at_:∀(i j:Nat) (y:Str),js[i]? =↑j->fr[i]? =↑y->X.N[j]? =↑y/\X.env.kindOf y=some .cell/\(relabel scope X.env).names.lookup y=some .cell
theorem Zm{d:Type}{y:Str}:∀{l:List (Str×d)},y∈l.map (·.1)->∃c,l.lookup y=↑c
 | [],h=>by simp at h
 |(n,a)::r,h=>by
  cases e:y==n with
  |true=>exact#[a,by simp [Iv,e]]
  |false=>
   have g:y∈r.map (·.1):=by
    rcases Jg.mp h with z|z
    .exact absurd z (by simpa using e)
    .exact z
   let#[c,f]:=Zm g
   exact#[c,by simp [Iv,e,f]]
noncomputable def σ0(k:Nat)(js:Κ)(σ:L2.St):L2.St:=Dj k none++js.map λj=>(σ[j]?).join
def jf(k:Nat)(js:Κ)(g:TG)(te:TE)(σ:L2.St)(Q:VK)(J:It)(H1:Hp):Prop:=∃W:Nat->Nat->Ε->L2.St->Hp->Prop,(∃m,W 0 m [] (σ0 k js σ) H1)/\∀i m ys d H,W i m ys d H->
 (J.stop i H/\∀p,H p=none->Q (-p) (HM H p (.lst ys)))\/(J.go i H/\ys.length<ζ/\∀x H',J.yld i H x H'->g x d H' λa f=>∃N:V->Hp->Prop,(∀v e,N v e->∃c,c<m/\W (i+1) c (ys++[v]) a e)/\te a f N)
noncomputable def iZ(k:Nat)(js:Κ)(a:TI)(g:TG)(te:TE):TE:=λσ H Q=>a σ H (jf k js g te σ Q)
def nW{p a l:Φ}{it q:Γ}{e:Env}(I:Nat->Θ->Prop)
  (turn:∀n s,I n s->ε (model prog w) A (pyNext it) (λr c=>match r with
   |none=>R (.ok .next) c
   | some v=>ε (model prog w) A (letOwnedTupleGo a it v) (λ_ d=>ε (model prog w) A (assign a e v) (λ_ g=>ε (model prog w) A (eval p e) (λx o=>
     ε (model prog w) A (call (.builtin "list.append") [q,x]) (λ_ i=>∃m,m<n/\I m i) (λ_ _=>False) o)
     (λ_ _=>False) g) (λ_ _=>False) d) (λ_ _=>False) c) (λ_ _=>False) s)
  (n:Nat)(h:I n s):
  codeAny (model prog w) A (.compLoop (.ListComp p [#[a,l,[],(0)]] f pos) 0 it q e) R s:=by
 refine codeAny_loop Z I (λn s B=>?_) n h
 show ε _ _ ((compTurn (.ListComp p [#[a,l,[],(0)]] f pos) 0 it q e).onRaise (λx=>do noteFrame x e;theTreesLotGoes x)) _ _ s
 refine wpAny_noted ?_
 rw[compTurn_list1];refine Ja (Ib (Ja (Jx (turn n s B) (λr c j=>?_) λ_ _ h'=>h'.elim)))
 cases r with
 |none=>exact Jd j
 |some v=>
  refine Ja (Jx j (λ_ d t=>?_) λ_ _ h'=>h'.elim)
  exact Ja (Jx t (λ_ g y=>Ja (Ja (Jx y (λx o z=>Ja (Jx z
   (λ_ i u=>Jd (Jd #[Z,u])) λ_ _ h'=>h'.elim)) λ_ _ h'=>h'.elim))) λ_ _ h'=>h'.elim)
structure O7(X:Cx)(R0:HI)(H:Hp)(C:Δ):Prop where
 free:H C=none
 loc:C≠X.env.locals
 new:X.s₀.heap.objs.size<=C
 cell:∀x c,X.env.cells.lookup x=↑c->c≠C
 pin:∀p∈X.pn++R0,p.1≠C
def cS{E:List (Str×Δ)}{fr own:Α}{K:Hp}{fp:Η}{tn:Nat->Ψ->Prop}{w:Ψ}{g:Nat}
  (r:∀y c,E.lookup y=↑c->X.env.cells.lookup y=↑c)(P:E.map (·.1)=fr)(S:MU X a fr js)(f:L2.HN X R0 σ K d)(T:N5 X.prog X.w X.K tg J fp it tn)(a2:tn 0 d.heap)(f2:∀b∈fp,Zk X R0 K b)
  (hC:g=d.heap.objs.size+1)(G:∀b o,d.heap.get? b=↑o->w.get? b=↑o)(H:w.Ns g m):
  (∀b∈fp,b<d.heap.objs.size)/\L2.HN (qY X (own++fr) a E g d K fp) [] (σ0 own.length js σ) K {d with heap:=w,toks:=d.toks+([]:List (Str×Γ)).length}/\d.heap.objs.size∉cz X.stack/\(∀x c,E.lookup x=↑c->c≠d.heap.objs.size)/\
  ∀{H':Hp} {pl:HI},(∀b∈fp,H' b=none)->(∀p∈pl,p.1=d.heap.objs.size)->∀b∈fp,Zk (qY X (own++fr) a E g d K fp) pl H' b:=by
 have t:∀b,b<d.heap.objs.size->b≠g/\b≠d.heap.objs.size:=λb h=>#[by rw[hC];exact Jm (Ik h),Jm h]
 let Y:Cx:=qY X (own++fr) a E g d K fp
 have A:∀b∈fp,b<d.heap.objs.size:=λb h=>by let#[o,e,_]:=T.obj _ _ a2 b h;exact Jl e
 have U:(qY X (own++fr) a E g d K fp).Ok:=by
  refine#[f.ok.mod,S.kind,f.ok.glob,f.ok.blt,by show d.heap.objs.size<=g;lia,?_,?_,?_,f.ok.hd,f.ok.frames,.inl Z,?_,f.bs,JN f.ok.bsz f.sz,?_,?_,f.stack,f.stkFree]
  .exactλx y c e1 e2=>f.ok.inj x y c (r x c e1) (r y c e2)
  .intro x hx
   have a3:(relabel a X.env).names.lookup x=some .cell\/(relabel a X.env).names.lookup x=some .free:=hx
   have hm:∃k,(x,k)∈a.names/\k= .free:=by
    have W:∀kk:NameKind,(kk= .cell\/kk= .free)->(relabel a X.env).names.lookup x=↑kk->∃k,(x,k)∈a.names/\k= .free:=by
     intro kk hk el;let#[#[n,k],s,e]:=JC.mp (LB el)
     dsimp only at e
     split at e
     .rename_i C
      cases e;exists k,s
      simp only[JF,J7]at C;exact C.1.1
     .cases e
      rcases hk with z|z
      .subst z;exact absurd Z (S.nocell _ s)
      .exact#[_,s,z]
    rcases a3 with z|z
    .exact W _ (.inl Z) z
    .exact W _ (.inr Z) z
   let#[k,s,hk]:=hm;exact Zm (l:=E) (by rw[P];exact S.free _ s hk)
  .exactλx c e _=>nomatch e
  .refineλb h=>#[?_,λx c e=>(f2 b h).2.2.2.2.1 x c (r x c e)]
   show b≠g
   exact(t b (A b h)).1
  .intro b o e h
   rcases(f2 b h).2.2.2.1 with z|z
   .exact f.ok.noex b o e z
   .exact absurd (JV (Jl e) (JN f.ok.bsz z)) (Ia _)
  .intro b h hf
   rcases Jg.mp (f.stkSub b hf)with z|z
   .exact(f2 b h).2.1 z
   .exact(f2 b h).2.2.1 z
 have L:(σ0 own.length js σ).length=(own++fr).length:=by unfold σ0;simp [S.len]
 have IY:HN Y [] (σ0 own.length js σ) K {d with heap:=w,toks:=d.toks+([]:List (Str×Γ)).length}:=by
  refine#[U,Z,f.bare,Un.kept G,#[_,H,?_],?_,?_,?_,λp hp=>absurd (show p∈([]:HI)from hp) (by simp),f.hok.kept G,L]
  .intro i x v hN F _
   have O:(own++fr)[i]? =↑x:=hN
   unfold σ0 at F
   by_cases M:i<own.length
   .rw[J3 (by simpa using M),OD]at F
    split at F<;>cases F
   .rw[J9 (by simpa using Kr M),OE,Jo]at F
    rw[J9 (Kr M)]at O;cases ej:js[i-own.length]? with
    |none=>rw[ej]at F;cases F
    |some j=>
     rw[ej]at F;have a1:σ[j]? =↑(↑v):=by
      have I:(σ[j]?).join=↑v:=JE F
      cases q:σ[j]? with
      |none=>rw[q]at I;cases I
      |some o=>rw[q]at I;have:o=↑v:=I;rw[this]
     let#[a5,hk,a6]:=S.at_ _ j x ej O;let#[m,hn,hl]:=f.loc;let#[u,ru,lk]:=hl j x v a5 a1 (.inr (.inl hk))
     refine#[u,ru,.inr ?_]
     rcases lk with⟨k1,_⟩|⟨_,c,ec,ic⟩
     .rw[hk]at k1;cases k1
     .let#[c',Q]:=Zm (y:=x) (l:=E) (by rw[P];exact Ij O)
      have:c'=c:=by have:=r x c' Q;rw[ec]at this;exact(JE this).symm
      subst this;exists ?_,c',Q
      .show(relabel a X.env).names.lookup x=some .cell\/(relabel a X.env).names.lookup x=some .free
       exact .inl a6
      .let#[oc,D,hd]:=ic
       exact#[oc,G _ _ D,hd]
  .intro x c e
   let#[v,oc,D,hd]:=f.cell x c (r x c e)
   exact#[v,oc,G _ _ D,hd]
  .exact f.hok.fresh (by show d.heap.objs.size<=g;lia)
  .exactλx c e=>f.freeC x c (r x c e)
 have N:d.heap.objs.size∉cz X.stack:=λhf=>by
  rcases Jg.mp (f.stkSub _ hf)with z|z
  .exact absurd (by rw[<- z];exact Jf _:d.heap.objs.size<=X.env.locals) (Nat.not_le.mpr f.lt)
  .exact f.nofs (Jf _) z
 have B:∀x c,E.lookup x=↑c->c≠d.heap.objs.size:=λx c e z=>by
  let#[v,oc,D,_]:=f.cell x c (r x c e)
  exact absurd (Jl D) (by rw[z];exact Ia _)
 have a7:∀{H':Hp} {pl:HI},(∀b∈fp,H' b=none)->(∀p∈pl,p.1=d.heap.objs.size)->∀b∈fp,Zk Y pl H' b:=λ{H' pl} hn hp b h=>
  #[hn b h,(t b (A b h)).1,U.exfs b h,.inl h,λx c e=>(f2 b h).2.2.2.2.1 x c (r x c e),λp a4=>by
   have R:p∈pl:=by simpa [Y,qY]using a4
   rw[hp p R];exact Ne.symm (t b (A b h)).2]
 exact#[A,IY,N,B,a7]
def eM{fp:Η}{g:Nat}(s:L2.HN X R0 σ C d)(f2:∀b∈fp,Zk X R0 C b)(E:g=d.heap.objs.size+1)
  (r:L2.HN (qY X N l H g d C fp) pl F m t)(a:m d.heap.objs.size=none)(y:ML X.prog X.w (HM m d.heap.objs.size ob) t.heap d.heap.objs.size ob):L2.HN X R0 σ (HM m d.heap.objs.size ob) t/\O7 X R0 (HM m d.heap.objs.size ob) g:=by
 have j:∀b,b<d.heap.objs.size->b≠g/\b≠d.heap.objs.size:=λb f=>#[by rw[E];exact Jm (Ik f),Jm f]
 have w:d.heap.objs.size≠g:=by lia
 have B:=r.base;have I:m g=none:=r.free
 exists ?_
 .refine s.call' (s':=t) (ch:=fp) r.os #[B.keep,B.slot,λb o e n D=>?_,B.there,λb xs e=>?_,λb o u e=>?_,λb ps e=>?_] ?_ r.bare ?_
  .rw[qp (j b (Jl e)).2];exact B.free b o e n D
  .have i:=B.tups b xs e
   rw[qp (qm i a)];exact i
  .have i:=B.frzs b o u e
   rw[qp (qm i a)];exact i
  .let#[more,i]:=B.tbls b ps e
   exact#[more,by rw[qp (qm i a)];exact i]
  .intro b u e
   by_cases f:b=d.heap.objs.size
   .subst f
    rw[qb]at e;cases e
    exact y
   .rw[qp f]at e
    exact(r.hok b u e).stay (λc v _ q=>q) (λc q=>by rw[qp (qm q a)];exact q) λc xs q=>by rw[qp (qm q a)];exact q
  .exactλb f=>#[(f2 b f).2.2.2.1,(f2 b f).2.1,(f2 b f).2.2.2.2.1,(f2 b f).2.2.2.2.2]
 .have h:d.heap.objs.size<=g:=by lia
  refine#[by rw[qp (Ne.symm w)];exact I,?_,JN s.sz h,λx c e z=>?_,λp G z=>?_]
  .exact J1 (JV s.lt h)
  .let#[v,oc,A,_]:=s.cell x c e
   exact absurd (JV (Jl A) h) (by rw[z];exact Ia _)
  .exact absurd (JV (Jl (s.pin p G).1) h) (by rw[z];exact Ia _)
def nP{a:Scope}{cl:List (Str×Δ)}{b5:Pos}{fr own:Α}{use:Option (Γ->Sem Unit)}{Post:HG}
  {s:Θ}{H:Hp}
  (hc:X.calm=true)(hi:PI X tg t wi)(a8:closureFor a X.env=pure cl)(c2:∀y c,cl.lookup y=↑c->X.env.cells.lookup y=↑c)(c3:cl.map (·.1)=fr)
  (S:MU X a fr js)
  (hg:∀C s H fp,PG (qY X (own++fr) a cl C s H fp) tg g)(he:∀C s H fp,PE (qY X (own++fr) a cl C s H fp) a4 te)
  (hs:∀x,foldedSetIterable t X.env x=pure x)
  (I:L2.HN X R0 σ H s)(h:iZ own.length js wi g te σ H Q)
  (b8:∀(b3 C:Δ) (s5:Θ) (H':Hp) (m:HH),L2.HN X R0 σ H' s5->s5.heap.Ns C m->O7 X R0 H' C->Q (-b3) H'->compPost (model X.prog X.w) X.A X.xe use Post (-b3) C (.ok .next) s5):
  ε (model X.prog X.w) X.A (comprehension (.ListComp a4 [#[tg,t,[],(0)]] a pos) a X.env b5 (newList []) false (eval t X.env) use) Post X.xe s:=by
 refine wpAny_comprehension_free (use:=use) Z hs a8 S.kind S.names (qz (hi R0 s σ H _ I h) λv s1 h1=>qz h1 λd4 j h2=>?_)
 let#[it,fp,tn,J,H2,e,I2,T,b7,f2,W,#[m0,w0],turn]:=h2;subst e;refine J6 (wpAny_newFunctionEnv S.nocell (by intro y hy;simp at hy) (λF l d=>?_) S.kind)
 dsimp only at l d⊢
 generalize hH2:j.heap.push {cls:= .type "list",dict:=none,data:= .seq ([]:Ζ).toArray}=G at l d⊢
 have hC:G.objs.size=j.heap.objs.size+1:=by rw[<- hH2,JU]
 have M:j.heap.objs.size≠G.objs.size:=by rw[hC];exact Jm (G0 _)
 have E:∀b,b<j.heap.objs.size->b≠G.objs.size/\b≠j.heap.objs.size:=λb w=>#[by rw[hC];exact Jm (Ik w),Jm w]
 have b4:∀b o,j.heap.get? b=↑o->F.get? b=↑o:=λb o e=>d.extBut b o (E b (Jl e)).1 (Jk _ (hH2▸Jk _ e))
 have a1:F.get? j.heap.objs.size=some {cls:= .type "list",data:= .seq ([]:Ζ).toArray 0}:=d.extBut _ _ M (Jk _ (hH2▸Jp _ Z))
 let Y:Cx:=qY X (own++fr) a cl G.objs.size j H2 fp
 let#[b6,IY,L,A,a5]:=cS (own:=own) (js:=js) c2 c3 S I2 T b7 f2 hC b4 l
 have R:∀q:Θ,HN Y [] (σ0 own.length js σ) H2 q->tn 0 q.heap->q.heap.get? j.heap.objs.size=some {cls:= .type "list",data:= .seq ([]:Ζ).toArray 0}->
   codeAny (model X.prog X.w) X.A (.compLoop (.ListComp a4 [#[tg,t,[],(0)]] a pos) 0 (-it) (-j.heap.objs.size) (compEnvC a cl G.objs.size X.env))
    (compPost (model X.prog X.w) X.A X.xe use Post (-j.heap.objs.size) G.objs.size) q:=by
  intro q I3 d1 d2;refine nW (λn s'=>∃i ys τ H' f k,HN Y [(j.heap.objs.size,{cls:= .type "list",data:= .seq f.toArray k})] τ H' s'/\tn i s'.heap/\(∀b∈fp,H' b=none)/\HS ys f/\ys.length<=ζ/\W i n ys τ H') ?_ m0 ?_
  .rintro n s4 ⟨i,ys,τ,H4,f,k,I4,c0,b2,vl,hz,w4⟩
   have d3:=I4.pin (j.heap.objs.size,{cls:= .type "list",data:= .seq f.toArray k}) (by simp [Y,qY])
   rcases turn i n ys τ H4 w4 with⟨b1,qn⟩|⟨go,d5,step⟩
   .refine qz (T.done Y Z Z Z hc i _ s4 τ H4 _ I4 (a5 b2 (by simp)) c0 b1) λr s5 P=>?_
    let#[hr,I5]:=P;subst hr
    show compPost _ _ _ _ _ _ _ _ _
    let#[m5,d0,_]:=I5.loc;have a2:=I5.pin (j.heap.objs.size,{cls:= .type "list",data:= .seq f.toArray k}) (by simp [Y,qY])
    have U:H4 j.heap.objs.size=none:=a2.2.1
    have B:=I5.base;have nC:H4 G.objs.size=none:=I5.free
    let#[z1,z2]:=eM (ob:= .lst ys) I2 f2 hC I5 U #[hz,f,k,vl,a2.1]
    exact b8 j.heap.objs.size G.objs.size s5 (HM H4 j.heap.objs.size (.lst ys)) m5 z1 d0 z2 (qn _ U)
   .refine qz (T.item Y Z Z Z hc i _ s4 τ H4 _ I4 (a5 b2 (by simp)) c0 go) λr s5 P=>?_
    let#[u,hr,h5]:=P;subst hr;refine qz h5 λ_ s6 P=>?_
    let#[x,H6,I6,r6,y6,a6,c1]:=P;have I6':=I6.pinned (a5 c1 (by simp)) (T.obj _ _ a6)
    refine qz (hg _ _ _ _ _ s6 τ H6 x u _ I6' r6 (step x H6 y6)) λ_ s7 P=>?_
    let#[a7,H7,I7,N,hN,q7]:=P;refine qz (he _ _ _ _ _ s7 a7 H7 _ I7 q7) λv' s8 P=>?_
    let#[y,H8,I8,r8,n8]:=P;let#[m',c4,w8]:=hN _ _ n8;have K:=I8.pin (j.heap.objs.size,{cls:= .type "list",data:= .seq f.toArray k}) (by simp [qY])
    have D:∀b∈fp,∀o,s6.heap.get? b=↑o->s8.heap.get? b=↑o/\H8 b=none:=λb w o e=>by
     have:=I8.pin (b,o) (JQ _ (JQ _ (Qt w e)))
     exact#[this.1,this.2.1]
    refine wpAny_list_append_plain (items:=f.toArray) #[k,K.1] (λh' O b0=>?_) (by have:=vl.length;simp;lia)
    let#[k',O]:=O;have I9:HN Y [] a7 H8 {s8 with heap:=h'}:=by
     refine(I8.pins_of (pins':=[]) (by simp)).turned (t':=s8.toks) (it:=j.heap.objs.size) (λb o w e=>(b0.2 b w).trans e) K.2.1 ?_ (.inr (Jf _)) (λx c e=>A x c e) (λp hp=>absurd (show p∈([]:HI)from by simpa [Y,qY]using hp) (by simp))
     exact M
    have ea:(f.toArray.push v')=(f++[v']).toArray:=by simp
    rw[ea]at O;refine#[m',c4,i+1,ys++[y],a7,H8,f++[v'],k',I9.pins_of ?_,T.keep _ _ _ a6 λb w o e=>(b0.2 b (E b (b6 b w)).2).trans (D b w o e).1,λb w=>?_,vl.append (.cons r8 .nil),?_,w8]
    .intro p hp
     rw[Ji.mp hp]
     exact#[O,K.2.1,M,L,λv z=>by cases z]
    .let#[o,e,_]:=T.obj _ _ a6 b w
     exact(D b w o e).2
    .rw[Jy,IM];lia
  .refine#[(0),[],σ0 own.length js σ,H2,[],(0),I3.pins_of ?_,d1,λb w=>(f2 b w).1,.nil,JB _,w0]
   intro p hp;rw[Ji.mp hp]
   exact#[d2,I2.hok.fresh (Jf _),M,L,λv z=>by cases z]
 have a3:tn 0 F:=T.keep _ _ _ b7 λb _ o e=>b4 b o e
 exact codeAny_compStart_list (R _ IY a3 a1) (T.self _ 0 _ _ _ a3 (R _ IY a3 a1))
def CZ{a:Scope}{l:List (Str×Δ)}{fr own:Α}
  (hc:X.calm=true)(hi:PI X tg d u)(f:closureFor a X.env=pure l)(r:∀y c,l.lookup y=↑c->X.env.cells.lookup y=↑c)(p:l.map (·.1)=fr)
  (S:MU X a fr js)
  (hg:∀C s H fp,PG (qY X (own++fr) a l C s H fp) tg g)(he:∀C s H fp,PE (qY X (own++fr) a l C s H fp) i te)
  (hs:∀x,foldedSetIterable d X.env x=pure x:=by intro _;rfl):
  PE X (.ListComp i [#[tg,d,[],(0)]] a pos) (iZ own.length js u g te):=by
 intro R0 s σ H Q I h;rw[eval_ListComp];refine nP (use:=none) hc hi f r p S hg he hs I h λt C w H' m v z j q=>?_
 exact#[m,z,λh' n=>#[-t,H',v.turned (t':=w.toks) (λb o A e=>(n.2 b A).trans e) j.free j.loc (.inr j.new) j.cell j.pin,Z,q]]
def C4{d:Scope}{u:List (Str×Δ)}{l:Pos}{fr own:Α}{K:TI}{i:Nat}{y:Str}
  (hN:X.N.Nodup)(F:X.N[i]? =↑y)(hx:gq X.env.scope y)
  (hc:X.calm=true)(hi:PI X tg f K)(p:closureFor d X.env=pure u)(G:∀y c,u.lookup y=↑c->X.env.cells.lookup y=↑c)(A:u.map (·.1)=fr)
  (S:MU X d fr js)
  (hg:∀C s H fp,PG (qY X (own++fr) d u C s H fp) tg g)(he:∀C s H fp,PE (qY X (own++fr) d u C s H fp) j te)
  (hs:∀x,foldedSetIterable f X.env x=pure x:=by intro _;rfl)(B:swapsWith (.ListComp j [#[tg,f,[],(0)]] d pos) ↑(.Name y t) l.line X.env=pure true:=by rfl)
  (hf:X.fn y=true\/X.env.scope.names.lookup y=some .local:=by first|exact .inl Z|exact .inr Z|assumption):
  PS X (.Assign [.Name y t] (.ListComp j [#[tg,f,[],(0)]] d pos) l) (c9 (iZ own.length js K g te) (Qf i)):=by
 intro R0 s σ H D I h;rw[exec_Assign_Name_used _ _ _ _ B];refine Ja (Ib (Ja ?_))
 show ε _ X.A (do let _ <- comprehension (.ListComp j [#[tg,f,[],(0)]] d pos) d X.env _ (newList []) false (eval f X.env) ↑(assign (.Name y t) X.env)) _ _ s
 refine Ja (Jx (nP (use:=↑(assign (.Name y t) X.env)) (Post:=λ_ s'=>SP X R0 D .next s') hc hi p G A S hg he hs I h ?_) (λ_ s' M=>Jd (Jd M)) λ_ _ e=>e)
 intro r C U H' m N O n q
 show ε _ X.A (assign (.Name y t) X.env (-r)) _ _ _
 refine wpAny_assign_Name (bH (v:= .ref r) N hN F hx Z (λL T P=>?_) hf)
 let#[a,E,R]:=P;have J:C≠a:=by
  rcases R with z|z
  .rw[z];exact n.loc
  .exact Ne.symm (n.cell _ _ z)
 refine#[m,O.sameBut E J,λh' w=>?_]
 exact#[_,H',T.turned (t':=L.toks) (λb o Q e=>(w.2 b Q).trans e) n.free n.loc (.inr n.new) n.cell n.pin,q]
section
variable{K:ι}
abbrev zZ(js:Κ)(σ:L2.St):L2.St:=js.map λj=>(σ[j]?).join
abbrev ji(J:It)(js:Κ)(te:TE)(σ:L2.St)(H1:Hp)(Q:VK):Prop:=jf 1 js (Qf 0) te σ Q J H1
def eQ{J:It}{n:Nat}(hn:n<=ζ)(c:Nat->V->Prop)(Pv:Nat->Ε->Hp->Prop)(l:Pv 0 [] H)(f:∀i ys H,i<n->Pv i ys H->J.go i H)(hst:∀ys H,Pv n ys H->J.stop n H)
  (r:∀i ys H x H',i<n->Pv i ys H->J.yld i H x H'->H'=H/\c i x)
  (hs:∀i ys H x,i<n->ys.length=i->Pv i ys H->c i x->te (↑x::zZ js σ) H λv d=>Pv (i+1) (ys++[v]) d)
  (hd:∀ys H,ys.length=n->Pv n ys H->∀p,H p=none->Q (-p) (HM H p (.lst ys))):ji J js te σ H Q:=by
 exists λi m ys h H=>m=n-i/\i<=n/\ys.length=i/\Pv i ys H/\∃o,h=o::zZ js σ,#[n,by simp,JB _,Z,l,none,Z]
 rintro i m ys h H ⟨rfl,hi,g,p,o,rfl⟩
 by_cases a:i<n
 .refine .inr #[f i ys H a p,by lia,λx H' y=>?_]
  let#[e,j]:=r i ys H x H' a p y;subst e
  exact#[λv d=>Pv (i+1) (ys++[v]) d,λv d q=>#[n-(i+1),jy a,Z,a,by simp [g],q,0],hs i ys _ x a g p j]
 .have e:i=n:=by lia
  subst e;exact .inl #[hst ys H p,hd ys H g p]
def ZF{xs:Ε}(hn:xs.length<=ζ)(Pv:Nat->Ε->Hp->Prop)(d:Pv 0 [] H)(hl:∀i ys H,Pv i ys H->HQ K H a xs)
  (hs:∀i ys H x,xs[i]? =↑x->ys.length=i->Pv i ys H->te (↑x::zZ js σ) H λv e=>Pv (i+1) (ys++[v]) e)
  (hd:∀ys H,ys.length=xs.length->Pv xs.length ys H->∀p,H p=none->Q (-p) (HM H p (.lst ys))):ji (fV K a) js te σ H Q:=
 eQ hn (λi x=>xs[i]? =↑x) Pv d (λi ys H hi p=>#[xs,xs[i],hl _ _ _ p,by simp [hi]]) (λys H p=>#[xs,hl _ _ _ p,Jf _]) (λi ys H x H' _ p y=>#[y.1,y.2 xs (hl _ _ _ p)]) (λi ys H x _ hl p c=>hs i ys H x c hl p) hd
def bA{xs:Ε}(hn:xs.length<=ζ)(Pv:Nat->Ε->Hp->Prop)(d:Pv 0 [] H)(hl:∀i ys H,Pv i ys H->HX K H a xs)
  (hs:∀i ys H x,xs[i]? =↑x->ys.length=i->Pv i ys H->te (↑x::zZ js σ) H λv e=>Pv (i+1) (ys++[v]) e)
  (hd:∀ys H,ys.length=xs.length->Pv xs.length ys H->∀p,H p=none->Q (-p) (HM H p (.lst ys))):ji (lc K a) js te σ H Q:=
 eQ hn (λi x=>xs[i]? =↑x) Pv d (λi ys H hi p=>#[xs,xs[i],hl _ _ _ p,by simp [hi]]) (λys H p=>#[xs,hl _ _ _ p,Jf _]) (λi ys H x H' _ p y=>#[y.1,y.2 xs (hl _ _ _ p)]) (λi ys H x _ hl p c=>hs i ys H x c hl p) hd
def aH{lo:Int}{n:Nat}(hn:n<=ζ)(Pv:Nat->Ε->Hp->Prop)(d:Pv 0 [] H)
  (hs:∀i ys H,i<n->ys.length=i->Pv i ys H->te (↑(.int (lo+i))::zZ js σ) H λv e=>Pv (i+1) (ys++[v]) e)
  (hd:∀ys H,ys.length=n->Pv n ys H->∀p,H p=none->Q (-p) (HM H p (.lst ys))):ji (lF lo n) js te σ H Q:=
 eQ hn (λi x=>x= .int (lo+i)) Pv d (λi ys H hi p=>hi) (λys H p=>Jf _) (λi ys H x H' _ p y=>y) (λi ys H x hi c p a=>by subst a;exact hs i ys H hi c p) hd
end
def gK{h':Ψ}{t':Nat}{ch:Η}{a:Δ}{xs:Ε}(I:L2.HN X R0 σ H s)(k:∀b o,b∉ch->s.heap.get? b=↑o->h'.get? b=↑o)(d:∀b∈ch,Zk X R0 H b)
  (ho:∀b∈ch,∃o,h'.get? b=↑o)(ha:s.heap.objs.size<=a)(hz:xs.length<=ζ)(hv:HS xs its)(l:IsTup h' a its.toArray):L2.HN X R0 σ (HM H a (.tup xs)) {s with heap:=h',toks:=t'}:=by
 have i:H a=none:=I.hok.fresh ha
 have j:∀b o,s.heap.get? b=↑o->b≠a:=λb o e=>Jm (JV (Jl e) ha)
 have h:∀b u,H b=↑u->b∉ch:=λb u e z=>by rw[(d b z).1]at e;cases e
 refine I.step (g':=s.gens) (d':=s.drawn) (ch:=ch) (λb g=>#[(d b g).2.2.2.1,(d b g).2.1,(d b g).2.2.2.2.1,(d b g).2.2.2.2.2]) (λb o _ _ f e _=>k b o f e) (λb o _ _ f e _=>#[o.slots,k b o f e])
  (λb o _ e n=>by rw[qp (j b o e)];exact n) (λb o f e=>#[o,k b o f e]) (λb ys e=>by rw[qp (qm e i)];exact e) (λb o u e=>by rw[qp (qm e i)];exact e)
  (λb ps e=>#[(AA []),by rw[qp (qm e i),e];simp]) (λm p=>?_) (λb u e=>?_) I.bare
 .let#[o,es,ep,ho,r]:=p
  exact#[o,es,ep,k _ o (λz=>(d _ z).2.1 Z) ho,r]
 .by_cases g:b=a
  .subst g
   rw[qb]at e;cases e
   exact#[hz,its,hv,l]
  .rw[qp g]at e
   refine(I.hok b u e).stay (λc v f q=>k c v ?_ q) (λc q=>by rw[qp (qm q i)];exact q) λc ys q=>by rw[qp (qm q i)];exact q
   rcases f with z|z
   .rw[z];exact h b u e
   .exact h c _ z
noncomputable def tF(K:ι)(a:Δ):It:=
 #[λi H=>∃xs x,HQ K H a xs/\xs[i]? =↑x,λi H x H'=>∃p v,H p=none/\x= .ref p/\(∀xs,HQ K H a xs->xs[i]? =↑v)/\H'=HM H p (.tup [.int i,v]),λi H=>∃xs,HQ K H a xs/\xs.length<=i]
def kg{K:ι}{x1}(a e it:Δ)(r:e≠it):
  N5 P w K (.Tuple A x1 pos) (tF K a) [e,it] e (λi h=>(∃c,IsEnum h e it i c)/\h.IsListIter it a i) where
 mem:=by simp
 obj:=λi h st b f=>by
  let#[#[c,g],#[o,N,R,hd]]:=st;rcases Jg.mp f with z|z
  .subst z
   refine#[_,g,λv z=>?_]
   have z':Sf _=SJ v:=z
   cases z'
  .rw[Ji.mp z]
   exact#[o,N,λv z=>by rw[hd]at z;cases z]
 keep:=λi h h' st k=>#[let⟨c,g⟩:=st.1;#[c,k e (by simp) _ g],st.2.at λo q=>k it (by simp) o q]
 item:=by
  intro X M Q S R i R0 s σ H E I D st L;subst M Q S;let#[xs,x,C,F]:=L;let#[its,G,p,hz]:=I.list C;let#[u,hu,ru]:=G.get F;let#[#[c,g],j]:=st;refine wpAny_pyNext_enum_item g j p.isList (x:=u) (by simpa using hu) r λh' N l W T hk=>#[0,?_]
  refine wpAny_letOwnedTupleGo_enum N λJ m d=>?_
  have n:e<s.heap.objs.size:=Jl g
  have t:it<s.heap.objs.size:=by let#[_,y,_]:=j;exact Jl y
  exists .ref s.heap.objs.size,HM H s.heap.objs.size (.tup [.int i,x]),?_,Z,#[_,x,I.hok.fresh (Jf _),Z,λys hy=>by rw[I.list_inj hy C];exact F,Z],#[#[_,by simpa using m],?_]
  .show L2.HN X R0 σ _ {s with heap:=J,toks:=s.toks+1}
   refine gK (s:=s) (its:=[.int i s.toks,u]) I (ch:=[e,it]) (λb o f q=>?_) D (λb f=>?_) (Jf _) (by show 2<=ζ;decide) (.cons #[0] (.cons ru .nil)) ?_
   .have B:b≠e:=λz=>f (by simp [z])
    have O:b≠it:=λz=>f (by simp [z])
    exact(d.2 b B).trans (hk b o B O q)
   .rcases Jg.mp f with z|z
    .subst z;exact#[_,m]
    .rw[Ji.mp z]
     let#[o,y,_]:=l
     exact#[o,(d.2 it (Ne.symm r)).trans y]
   .exact#[_,(d.2 _ (J1 n)).trans W,8]
  .exact l.extBut d.extBut (Ne.symm r)
  .intro b f
   rw[qp]
   .exact(D b f).1
   .rcases Jg.mp f with z|z
    .subst z;exact Jm n
    .rw[Ji.mp z];exact Jm t
 done:=by
  intro X M Q S R i R0 s σ H E I D st L;subst M Q S;let#[xs,C,F]:=L;let#[its,G,p,hz]:=I.list C;let#[#[c,g],j]:=st;let#[f0,f1,f2,Y,f4,f5]:=D it (by simp)
  have hl:=G.length;exact wpAny_pyNext_enum_end (I.ok.hd R) g j p.isList (by simp;lia) λh' U=>#[Z,I.turned (t':=s.toks) (λb o f e=>U b o f e) f0 f1 Y f4 f5]
 self:=λ_ _ _ _ _ st h=>by
  let#[#[c,g],_]:=st;exact LQ g h
noncomputable def BQ(K:ι)(ta:TA):TI:=λσ H R=>ta σ H λvs H1=>∃a,vs=[-a]/\(∃xs,HQ K H1 a xs)/\R (tF K a) H1
def DD{a:Φ}{p:Pos}{x1}(hg:Gl X "enumerate")(hm:X.mg "enumerate"=none)(ha:PA X [a] ta)(hs:θ [a] X.env=[(false,eval a X.env)]:=by rfl):
  PI X (.Tuple d x1 g) (.Call (.Name "enumerate" p) [a] [] pos) (BQ X.K ta):=by
 intro R0 s σ H R I h;refine Call_ (Zp I hg hm boot_enumerate (Le (qz (ha pos R0 s σ H _ I h) λB c v=>?_) hs Z))
 let#[vs,H1,i,r,x]:=v;let#[l,e,#[xs,o],q]:=x;subst e;let#[u,rfl,w]:=r.one;cases w;let#[t,C,pl,D]:=i.list o;refine call_enumerate_list pl.isList λh' m j n hk=>LQ m ?_
 have A:L2.HN X R0 σ H1 {c with heap:=h'}:=i.kept (t':=c.toks) hk
 refine#[c.heap.objs.size+1,[c.heap.objs.size+1,c.heap.objs.size],15,H1,Z,A,kg l _ _ (J1 (G0 _)),#[#[_,m],j],λb y=>?_,q]
 have f:c.heap.objs.size<=b:=by
  rcases Jg.mp y with z|z
  .rw[z];exact IL _
  .rw[Ji.mp z];exact Jf _
 exact i.fpOk f (i.hok.fresh f)
def nF{K:ι}{xs:Ε}{g:TG}{tb:TS}{D:Ng}{σ:L2.St}{H:Hp}(Pv:Nat->L2.St->Hp->Prop)(n:Pv 0 σ H)(hl:∀i σ H,i<=xs.length->Pv i σ H->HQ K H a xs)
  (hs:∀i x σ H p,xs[i]? =↑x->Pv i σ H->H p=none->g (-p) σ (HM H p (.tup [.int i,x])) λc h=>tb {D with nx:=Pv (i+1),ct:=Pv (i+1),bk:=D.nx} c h)(hd:∀σ H,Pv xs.length σ H->D.nx σ H):
  ∃W:Nat->Nat->L2.St->Hp->Prop,(∃m,W 0 m σ H)/\∀i m σ H,W i m σ H->
   ((tF K a).stop i H/\D.nx σ H)\/((tF K a).go i H/\∃N:L2.St->Hp->Prop,(∀d H',N d H'->∃j,j<m/\W (i+1) j d H')/\∀x H',(tF K a).yld i H x H'->g x σ H' λc h=>tb {D with nx:=N,ct:=N,bk:=D.nx} c h):=by
 exists λi m σ H=>m=xs.length-i/\i<=xs.length/\Pv i σ H,#[xs.length,by simp,JB _,n]
 rintro i m σ H ⟨rfl,hi,p⟩
 have q:=hl i σ H hi p
 by_cases f:i<xs.length
 .refine .inr #[#[xs,xs[i],q,by simp [f]],Pv (i+1),λd H' s=>#[xs.length-(i+1),by lia,Z,f,s],λx H' y=>?_]
  let#[o,v,l,rfl,r,rfl]:=y;exact hs i v σ H o (r xs q) p l
 .have e:i=xs.length:=by lia
  subst e;exact .inl #[#[xs,q,Jf _],hd σ H p]
def zz(t c:String):Bool:=t==c||(t=="bool"&&c=="int")
abbrev iH:List String:=["NoneType","bool","int","str","list","tuple"]
abbrev iE:List String:=["bool","int","str","list","tuple"]
def jA(K:ι):∀t∈iH,∀c∈iE,W.kitOne K (.type t) (.type c)=↑(zz t c):=by
 intro t a c d;simp only[iH,iE,Jg,Jt,Ju]at a d;rcases a with rfl|rfl|rfl|rfl|rfl|rfl<;>rcases d with rfl|rfl|rfl|rfl|rfl<;>kernel_rfl
def hW:zj X (.builtin "isinstance") (λxs H Q=>∃x c t,xs=[x,.ty c]/\NX X.K H x (.type t)/\t∈iH/\c∈iE/\Q (.bl (zz t c)) H):=by
 intro R0 s σ H xs g Q I r h;let#[x,c,t,rfl,ty,a,d,q]:=h;let#[u,v,rfl,e,f]:=gt r
 cases(show v=Γ.type c from f)
 exact xq I e ty (jA X.K t a c d) λtk=>#[.bl _,H,I.tok tk,Z,q]
theorem pv:∀{bs:ν} {us:Ζ},HS (bs.map V.bl) us->us=bs.map Γ.bool
 | [],_,.nil=>rfl
 |b::bs,_,.cons r t=>by
  cases(show _=Γ.bool b from r)
  rw[pv t];rfl
def uz(bs:ν):((Ag bs.length).all λi=>(bs[i]?).getD true)=bs.all id:=by
 rw[Iu,IV,IV];constructor
 .intro h b c
  let#[i,hi,e]:=HB.mp c
  have:=h i (JT.mpr hi)
  rw[Jh hi,IP,e]at this;exact this
 .intro h i hi
  have a:=JT.mp hi;rw[Jh a,IP];exact h _ (IH a)
def bI(hc:X.calm=true):zj X (.builtin "all") (λxs H Q=>∃(p:Δ) (bs:ν),xs=[-p]/\HQ X.K H p (bs.map V.bl)/\Q (.bl (bs.all id)) H):=by
 intro R0 s σ H xs x Q I r h;let#[p,bs,rfl,l,q]:=h;let#[u,rfl,n]:=zT r;cases n;let#[c,w,pl,y]:=I.list l;have e:=pv w;have f:=pl.isList;have d:p<s.heap.objs.size:=by let#[_,e,_]:=f;exact Jl e
 refine call_all_walk (LA f ?_)
 refine#[s.heap.objs.size,[s.heap.objs.size,p],[s.heap.objs.size],c.toArray.size,15,λi=>(bs[i]?).getD true,Z,Walks.list (A:=X.A.in1) (I.ok.hd hc) _ p (Jm d) c.toArray,
  #[#[_,Jp _ Z,9],f.push _],λi v s' z E' j g=>?_,λh' tk hk=>?_]
 .have a:c[i]? =↑v:=by simpa using j
  rw[e,Jo]at a;cases eb:bs[i]? with
  |none=>rw[eb]at a;cases a
  |some b=>
   rw[eb]at a
   cases(JE a:Γ.bool b=v)
   simp only[eb,IP]at g;exact IT g
 .have t:((Ag c.toArray.size).all λi=>(bs[i]?).getD true)=bs.all id:=by
   rw[Js,e,Je];exact uz bs
  rw[t];refine#[.bl _,H,I.kept (h':=h') (t':=tk) λb o q=>hk b o (λm=>?_) (Jk _ q),Z,q]
  rw[Ji.mp m]at q;exact Ia _ (Jl q)
def rB:zx X (Py .IsNot) (λx y H Q=>∃a b,x= .bl a/\y= .bl b/\Q (.bl (! decide (a=b))) H):=by
 intro R0 s σ H x y v u Q I c d h;let#[a,b,rfl,rfl,q]:=h
 cases(show v=Γ.bool a from c)
 cases(show u=Γ.bool b from d)
 refine wpAny_isNot_plain Z #[.bl _,H,I,?_,q]
 cases a<;>cases b<;>rfl
def ku:zj X (.type "range") (λxs H Q=>∃j:Int,xs=[.int j]/\∀p,H p=none->Q (-p) (HM H p (.rng 0 j))):=by
 intro R0 s σ H xs c Q I r h;let#[j,rfl,q]:=h;let#[u,rfl,a]:=zT r;let#[t,rfl]:=a;refine call_range_1 #[-s.heap.objs.size,_,I.laid (o:= .rng 0 j) (λb o e=>Jk _ e) (Jf _) #[39,Jp _ Z],Z,q _ (I.hok.fresh (Jf _))]
def uY(hc:X.calm=true):zj X (.type "list") (λxs H Q=>∃(p:Δ) (j:Nat),xs=[-p]/\H p=↑(.rng 0 (j:Int))/\j<=2 ^ 24/\∀l,H l=none->Q (-l) (HM H l (.lst ((Ag j).map λi=>V.int (i:Nat))))):=by
 intro R0 s σ H xs d Q I r h;let#[p,j,rfl,z,x,q]:=h;let#[u,rfl,A]:=zT r;cases A;let#[t,u,v,e]:=I.hok p _ z;refine call_list_range (n:=j) (I.ok.hd hc) (show IsRange s.heap p 0 (j:Int) 1 t u v from e) (small_one (by lia) (by lia) (by lia) (by lia)) (by rw[rangeSize_one];split<;>lia) x λh' tk c c' hk o a=>?_
 refine#[-s.heap.objs.size,_,I.laid (h':=h') (t':=tk) hk (Jf _) ?_,Z,q _ (I.hok.fresh (Jf _))]
 have w:∀(d:Ζ) (n k:Nat),d.length=n->(∀i v,d[i]? =↑v->∃t,v=Γ.int ((k+i:Nat):Int) t)->HS ((List.range' k n).map λi=>V.int (i:Nat)) d:=by
  intro d
  induction d with
  |nil=>intro n k m _;cases m;exact .nil
  |cons u d ih=>
   intro n k m y;cases n with
   |zero=>cases m
   |succ n=>
    rw[ON,JS];let#[t,f]:=y 0 u Z;refine .cons #[t,by simpa using f] (ih n (k+1) (by simpa using m) λi v hi=>?_)
    let#[t,f]:=y (i+1) v hi
    exact#[t,by rw[f];congr 1;lia]
 have g:HS ((Ag j).map λi=>V.int (i:Nat)) c.toList:=by
  rw[OO];refine w _ _ 0 (by rw[Jq];exact a.1) λi v hi=>?_
  let#[t,f]:=a.2 i v (by rw[<- KI];exact hi)
  exact#[t,by rw[f];congr 1;lia]
 exact#[by simp only[Je,E1];exact JN x (by rw[JD];decide),c.toList,c',g,o]
inductive RH (x:V)(lo:Λ)(hi:Λ)(H:Hp)(Q:VK):Prop
 |mk (a:_)(xs:_)(h1:x= .ref a)(h2:H a=↑(.tup xs))(h3:∀p H',HJ H H'->H' p=↑(.tup (Q9 xs lo hi))->(p=a\/H p=none)->Q (-p) H')
def Gw:V->Λ->Λ->Hp->VK->Prop:=λx lo hi H Q=>RH x lo hi H Q
def fq{s:Θ}{lo:Λ}{Q:HG}(a:IsTup s.heap t items)(hs:s.heap.IsSliceOf c i g .none)(pl:IsPart i lo)(l:IsPart g hi)
  (hw:HT.sIx items.size 0 lo=0/\HT.sIx items.size items.size hi=items.size)(h:Q (-t) s):ε (model prog w) A (getItem (-t) (-c)) Q E s:=by
 let#[j,e,d,n]:=id hs;have f:s.TypeIs (-c) "slice":=#[j,e,d]
 unfold getItem
 try with_reducible refine JM ?_
 first|refine Ja (Jd ?_)|skip
 refine Ja (wpAny_sequenceKey a.typeIs ⋯ ?_)
 refine Ja (wpAny_callSpecial?_slot (name:=RS "__getitem__") a.typeIs L6
  (JY L6 a.typeIs entry_tuple_getitem ?_ (args_tuple_getitem _ _)))
 show ε _ _ (γ.Tuple.tupleItemsOf (-t) >>= _) _ _ s
 refine Ja (tupleItemsOf_ a ?_)
 refine Ja (LC f ?_)
 rw[Jc ⋯]
 refine Ja (HT.sliceApplied_gen hs pl l ?_)
 show ε _ _ (if(((HT.sIx items.size 0 lo:Nat):Int)==0&&(1:Int)==1&&(HT.sIx items.size items.size hi-HT.sIx items.size 0 lo)==items.size)=true then _ else _) _ _ s
 rw[hw.1,hw.2,Jc (by simp)]
 refine Ja (m:=γ.Tuple.tupleIsExact _) ?_
 unfold γ.Tuple.tupleIsExact;refine Ja (LC a.typeIs (Jd ?_))
 rw[Jc (by rfl)]
 exact Ja (Ih (Jd #[0,Jd h]))
def cM:yc X Gw:=by
 intro R0 s σ H x v w u lo hi t Q I n l pl m h;let#[a,xs,rfl,f,q]:=h
 by_cases d:HT.sIx xs.length 0 lo=0/\HT.sIx xs.length xs.length hi=xs.length
 .cases n
  let#[g,r,j,y]:=I.tuple (HX.of f)
  have c:g.toArray.size=xs.length:=by rw[Js];exact r.length.symm
  exists "tuple",_,PyProof.Rows.slot_tuple_getitem.lookup,j.typeIs
  refine fq j l pl m (by rw[c];exact d) #[-a,H,I,Z,q a H (HJ.refl H) ?_ (.inl Z)]
  have:Q9 xs lo hi=xs:=by unfold Q9;rw[d.1,d.2];simp
  rw[this];exact f
 .exact Fn R0 s σ H _ v w u lo hi t Q I n l pl m #[a,xs,Z,HX.of f,d,λp i=>q p _ (λb o e=>by rw[qp (qm e i)];exact e) qb (.inr i)]
inductive Ri (x:V)(y:V)(H:Hp)(Q:VK):Prop
 |mk (a:_)(b:_)(xs:_)(ys:_)(h1:x= .ref a)(h2:y= .ref b)(h3:H a=↑(.tup xs))(h4:H b=↑(.tup ys))(h5:xs.length+ys.length<=ζ)(h6:∀p H',HJ H H'->H' p=↑(.tup (xs++ys))->Q (-p) H')
def FZ:R2:=λx y H Q=>Ri x y H Q
def Z5:zx X (binaryOp .Add) FZ:=by
 intro R0 s σ H x y v u Q I z E h;let#[a,b,xs,ys,rfl,rfl,l,m,N,q]:=h
 by_cases t:xs=[]
 .subst t
  cases z;cases E;let#[J,F,M,_]:=I.tuple (HX.of l)
  let#[d,P,p2,_]:=I.tuple (HX.of m)
  cases F;let#[#[G,O,w,L],A,D,n,C]:=id M;let#[#[B,j,r,i],c,g,n2,f]:=id p2;simp only at D C g f
  subst D C g f;exact concat_meets #[_,A,Z] #[_,c,Z] noFill_tuple_add seq_tuple_add Mr Ms (Mu _ _)
   (tuple_addW0 a b _ d.toArray n n2 O j L i (by simp)) #[A,c,#[-b,H,I,Z,q b H (HJ.refl H) m]]
 .refine sR R0 s σ H _ _ v u Q I z E #[a,b,xs,ys,9,HX.of l,HX.of m,t,N,λe=>q a H (HJ.refl H) (by subst e;simpa using l),λ_ p K=>q p _ (λb o e=>by rw[qp (qm e K)];exact e) qb]
def aO{ns:Β}(r:HS (ns.map V.int) us)(j:Nat)(h:j<us.length)(h':j<ns.length):∃t,us[j]=Γ.int ns[j] t:=by
 let#[u,a,c]:=r.get (i:=j) (x:=V.int ns[j]) (by rw[Jo,Jh h'];rfl)
 rw[Jh h]at a;cases a;exact c
def nX(ns ms:Β)(h:ns.length=ms.length):((Ag ns.length).all λj=>(ns.getD j 0==ms.getD j 0))=decide (ns=ms):=by
 rw[Iu,IV,LS];constructor
 .intro q
  refine KD h λi h1 a=>?_
  have:=q i (JT.mpr h1)
  simp only[JG,Jh h1,Jh a,IP,J7]at this;exact this
 .rintro rfl i _
  simp
inductive RI (K:ι)(neg:Bool)(x:V)(y:V)(H:Hp)(Q:VK):Prop
 |mk (a b:Δ)(ns ms:Β)(h1:x= .ref a)(h2:y= .ref b)(h3:HQ K H a (ns.map V.int))(h4:HQ K H b (ms.map V.int))(h5:Q (.bl (if neg then ! decide (ns=ms)else decide (ns=ms))) H)
def GB(K:ι)(a:Bool):R2:=λx y H Q=>RI K a x y H Q
def Eb(hu:X.A.units+1<cLine):zx X (Py .Eq) (GB X.K false):=by
 intro R0 s σ H x y v u Q I r C h;let#[a,b,g,f,rfl,rfl,w,A,q]:=h;cases r;cases C;let#[d,n,p,_]:=I.list w;let#[c,m,p2,_]:=I.list A;have D:g.length=d.length:=by have:=n.length;rwa [Je]at this
 have F:f.length=c.length:=by have:=m.length;rwa [Je]at this
 by_cases o:g.length=f.length
 .refine SeqAt.eq_listAt (e:=λj=>g.getD j 0==f.getD j 0) p.isList p2.isList (by simp;lia) (OP hu) (λj h1 B=>?_) #[.bl _,H,I,?_,q]
  .have i:j<d.length:=by simpa using h1
   have l:j<c.length:=by simpa using B
   let#[t,e]:=aO n j i (by lia)
   let#[E,e']:=aO m j l (by lia)
   simp only[KM,e,e',JG,Jh (show j<g.length by lia),Jh (show j<f.length by lia),IP]
   exact Ss _ _ _ _
  .show Γ.bool _=Γ.bool _
   simp only[Js,<- D,nX g f o];rfl
 .refine SeqAt.eq_list_lengthsAt p.isList p2.isList (by simp;lia) (OP hu) #[.bl _,H,I,?_,q]
  show Γ.bool false=Γ.bool _
  simp only[D2,JH];rw[Jn λz=>o (by rw[z])]
def Qj:Φ->Bool
 | .Starred .. =>false
 |_=>true
def ZB{es:Ι}(h:Qj e=true):θ (e::es) a=(false,eval e a)::θ es a:=by
 cases e<;>first|rfl|cases h
def GX(ha:PE X e te)(hr:PA X es t)(h:Qj e=true:=by rfl):PA X (e::es) (uN te t):=CH ha hr (ZB h)
structure Df(P:Ξ)(w:Ω)(K:ι)(mg:HH)(base:Ψ)(x:Str)(ps:Α)(k:Nat)(sp:Sp):Prop where
 ex:∃(f:Δ) (fd:FuncData),NU P w K mg base bi k f fd ps sp/\mg x=↑(-f)/\SR K (-f)=true/\NH K fd ps []
structure At(K:ι)(mg:HH)(x:Str)(st:δ)(ps:Α):Prop where
 ex:∃(f:Δ) (fd:FuncData),OL K x x st f fd/\mg x=↑(-f)/\SR K (-f)=true/\NH K fd ps []
section
variable{K:ι}{k:Nat}
def At.df{x:Str}{st:δ}{ps N:Α}{k:Nat}{sp:Sp}(a:At K mg x st ps)(S:HK N ps (qi st))(len:∀vs H Q E,sp vs H Q E->vs.length=ps.length)
  (d:∀(f:Δ) (cdv:Γ) (A:Rj) (c:Τ) (s:Θ) (H:Hp) (vs:Ε) (Q:VK) (E:XK),MK k (A.deeper (envOfC x (qi st) s.heap.objs.size f cdv))->sp vs H Q E->
   ∃t,On (cu bi P w K mg base N x (qi st) f cdv A c s H E).nox (zR st) t/\t {nx:=λ_ H'=>Q .non H',rt:=Q} (Zr N vs) H):Df P w K mg base x ps (k+1) sp:=by
 let#[f,fd,F,m,g,bd]:=a.ex
 exact#[f,fd,F.ok S len (λcdv A c s H vs Q E e h=>d f cdv A c s H vs Q E e h),m,g,bd]
def Fs(D:Df X.prog X.w X.K X.mg X.base x ps k sp)(hr:MK k X.A)(ha:PA X (e::es) t)(hg:Gl X x:=by rfl)(hdb:(x==("__debug__":Str))=false:=by decide)(he:θ (e::es) X.env=(false,eval e X.env)::θ es X.env:=by rfl)(hpl:(backTo pos (θ es X.env)).any (·.1)=false:=by rfl):
  PE X (.Call (.Name x p) (e::es) [] pos) (ub sp [] E0 t):=by
 let#[f,fd,ok,m,a,bd]:=D.ex;exact DJ ok hr hg m a bd .nil mr ha hdb he hpl
end
def bX{a:Scope}(e:a.kind= .function)(d:∀x∈a.names,x.2= .local->a.names.lookup x.1=some .local)(c:∀x∈a.names,x.2≠ .cell)
  (f:∀x∈a.names,x.2= .free->x.1∈([]:Α)):MU X a [] []:=#[e,d,c,f,Z,λi j y h=>by simp at h]
def fR{X:Cx}{a:Scope}{y:Str}{j:Nat}(e:a.kind= .function)(d:∀x∈a.names,x.2= .local->a.names.lookup x.1=some .local)(c:∀x∈a.names,x.2≠ .cell)
  (f:∀x∈a.names,x.2= .free->x.1∈([y]:Α))(h1:X.N[j]? =↑y)(h2:X.env.kindOf y=some .cell)(h:(relabel a X.env).names.lookup y=some .cell):MU X a [y] [j]:=
 #[e,d,c,f,Z,λi n m g l=>by
  cases i with
  |zero=>cases g;cases l;exact#[h1,h2,h]
  |succ i=>simp at g]
def f6{X:Cx}{c:Δ}(h:X.env.cells.lookup y=↑c):∀z d,([(y,c)]:List (Str×Δ)).lookup z=↑d->X.env.cells.lookup z=↑d:=λz d e=>by
 by_cases a:z=y
 .subst a
  simp at e
  rw[<- e];exact h
 .simp [Iv,show(z==y)=false from by simpa using a]at e
def jI{X:Cx}{K:ι}(h:X.K=K):PN X (Bx K):=by subst h;exact qN
abbrev ui(n m k:Int):HO:= .lst [.int n,.int m,.int k]
def _root_.L2.HJ.upd{H:Hp}(h:H p=none):HJ H (HM H p o):=λb u e=>by rw[qp (qm e h)];exact e
def yr(c:Bool): -(2 ^ 64:Int)<(if c=true then(1:Int)else 0):=by cases c<;>decide
def yf(c:Bool):(if c=true then(1:Int)else 0)<(2 ^ 64:Int):=by cases c<;>decide
def sN{n j:Nat}(h:j<n):cC n (j:Int)=↑j:=by unfold cC;rw[Jc (by lia),Jc (by lia)];simp
noncomputable def ZS(ns:Β)(lo hi:Λ):Β:=(ns.drop (HT.sIx ns.length 0 lo)).take (HT.sIx ns.length ns.length hi-HT.sIx ns.length 0 lo)
def a9(ns:Β)(lo hi:Λ):Q9 (ns.map V.int) lo hi=(ZS ns lo hi).map V.int:=by unfold Q9 ZS;rw[Je,Kt,OQ]
def BJ(ns:Β)(lo hi:Λ):(ZS ns lo hi).length=min (HT.sIx ns.length ns.length hi-HT.sIx ns.length 0 lo) (ns.length-HT.sIx ns.length 0 lo):=by unfold ZS;rw[G5,LP]
def Zb{ns:Β}{i:Nat}{x:V}(h:(ns.map V.int)[i]? =↑x):∃z,x= .int z/\ns[i]? =↑z:=by
 rw[Jo]at h;cases e:ns[i]? with
 |none=>rw[e]at h;cases h
 |some z=>rw[e]at h;exact#[z,(JE h).symm,Z]
def jG{ns:Β}{i:Nat}(h:i<ns.length):(ns.map V.int)[i]? =↑(.int ns[i]):=by rw[Jo,Jh h];rfl
def cY(ns:Β)(i:Nat)(z:Int):(ns.map V.int).set i (.int z)=(ns.set i z).map V.int:=by rw[List.map_set]
noncomputable def BY:Option HO->Option String
 |some (.lst _)=>↑"list"
 |some (.tup _)=>↑"tuple"
 |_=>none
noncomputable def kd(H:Hp):V->Option String
 | .non=>↑"NoneType"
 | .bl _=>↑"bool"
 | .int _=>↑"int"
 | .str _=>↑"str"
 | .ref a=>BY (H a)
 |_=>none
def vP{t:String}(h:BY o=↑t):(∃xs,o=↑(.lst xs)/\t="list")\/(∃xs,o=↑(.tup xs)/\t="tuple"):=by
 cases o with
 |none=>cases h
 |some u=>
  cases u with
  |lst xs=>cases h;exact .inl #[xs,9]
  |tup xs=>cases h;exact .inr #[xs,9]
  |_=>cases h
def jc{t:String}(h:kd H (-a)=↑t):(∃xs,H a=↑(.lst xs)/\t="list")\/(∃xs,H a=↑(.tup xs)/\t="tuple"):=vP h
def Gb{K:ι}{t:String}(h:kd H x=↑t):NX K H x (.type t)/\t∈iH:=by
 cases x with
 |non=>cases h;exact#[.non,by simp]
 |bl b=>cases h;exact#[.bl b,by simp]
 |int i=>cases h;exact#[.int i,by simp]
 |str x=>cases h;exact#[.str x,by simp]
 |byt b=>cases h
 |flt b=>cases h
 |ty b=>cases h
 |ref a=>
  rcases jc h with⟨xs,e,rfl⟩|⟨xs,e,rfl⟩
  .exact#[.lst e,by simp]
  .exact#[.tup e,by simp]
def gu{t:String}(s:HJ H H')(h:kd H x=↑t):kd H' x=↑t:=by
 cases x with
 |ref a=>
  rcases jc h with⟨xs,e,rfl⟩|⟨xs,e,rfl⟩
  .show BY (H' a)=_;rw[s _ _ e];rfl
  .show BY (H' a)=_;rw[s _ _ e];rfl
 |_=>exact h
def c5:V->Bool
 | .int i=>decide (0<=i)&&decide (i<16)
 |_=>false
def Z0{c:Type}{xs:List c}{r:Int}(d:0<=r)(h1:r<xs.length):∃v,QK xs r=↑v/\v∈xs:=by
 have a:=GS d h1;refine#[xs[r.toNat],?_,IH a]
 have e:QK xs ((r.toNat:Nat):Int)=some xs[r.toNat]:=Qs (Jh a)
 rwa [show((r.toNat:Nat):Int)=r by lia]at e
inductive mj(K:ι)|mk (a:Δ)(ns:Β)(h1:vs=[-a])(h2:HQ K H a (ns.map V.int))(h3:ns.length<=63)(h4:∀H',Q (.bl true) H')
inductive tP|mk (x:_)(t:_)(h1:vs=[x])(h2:kd H x=↑t)(h3:Q (.bl (c5 x)) H)
inductive oA|mk (p:_)(xs:_)(h1:vs=[-p])(h2:H p=↑(.tup xs))(h3:xs.length<=ζ)(h4:(∀x∈xs,∃t,kd H x=↑t))(h5:∀H',HJ H H'->Q (.bl (xs.all c5)) H')
end L3
namespace L3
open PySem PySem.Spec L2
structure QE(X:Cx)(e:Φ)(t:TE):Prop where
 h:PE X e t
structure QT(X:Cx)(e:Φ)(t:TT):Prop where
 h:PT X e t
structure QW(X:Cx)(e:Φ)(t:TT):Prop where
 h:PW X e t
structure QA(X:Cx)(e:Ι)(t:TA):Prop where
 h:PA X e t
structure QS(X:Cx)(e:δ)(t:TS):Prop where
 h:PS X e t
structure O9(X:Cx)(e:List δ)(t:TS):Prop where
 h:On X e t
structure QG(X:Cx)(e:Φ)(t:TG):Prop where
 h:PG X e t
structure Rk(X:Cx)(e:Ι)(t:ZV):Prop where
 h:tH X e t
structure QO(X:Cx)(e:μ)(t:TO):Prop where
 h:PO X e t
structure QI(X:Cx)(tg e:Φ)(t:TI):Prop where
 h:PI X tg e t
def qf{i j pos}:QE X (.Constant (.int i) j pos) (tC (.int i)):=#[Ev]
def Ze{b j pos}:QE X (.Constant (.bool b) j pos) (tC (.bl b)):=#[Gc]
def qP{j pos}:QE X (.Constant .none j pos) (tC .non):=#[Ek]
def qy{x j pos}:QE X (.Constant (.str x) j pos) (tC (.str x)):=#[Fk]
def zm{u:Γ}(hg:Gl X x)(hm:X.mg x=↑u)(r:HV v u)(hd:(x==("__debug__":Str))=false:=by decide):QE X (.Name x pos) (tC v):=#[DN (hg:=hg) (hm:=hm) (r:=r) (hd:=hd)]
def qH{u:Γ}(hg:Gl X x)(hm:X.mg x=none)(hv:bootBuiltins x=↑u)(r:HV v u)(hn:x≠"__name__":=by decide)(hd:(x==("__debug__":Str))=false:=by decide):QE X (.Name x pos) (tC v):=#[DC (hg:=hg) (hm:=hm) (hv:=hv) (r:=r) (hn:=hn) (hd:=hd)]
def qr{b:Φ}{op:Operator}(ho:zx X (binaryOp op) r)(ha:QE X a ta)(hb:QE X b tb):QE X (.BinOp a op b pos) (kR r ta tb):=#[FV (ho:=ho) (ha:=ha.h) (hb:=hb.h)]
def mC{op:UnaryOp}{r:V->Hp->VK->Prop}(ho:Cd X (unaryOp op) r)(ha:QE X a ta):QE X (.UnaryOp op a pos) (Gq r ta):=#[F7 (ho:=ho) (ha:=ha.h)]
def ze{b:Φ}{op:CmpOp}(ho:zx X (Py op) r)(ha:QE X a ta)(hb:QE X b tb)(hm:behindInMarks op b=false):QE X (.Compare a [op] [b] pos) (kR r ta tb):=#[DE (ho:=ho) (ha:=ha.h) (hb:=hb.h) (hm:=hm)]
def qw{b:Φ}{op:CmpOp}(ho:zx X (Py op) r)(ha:QE X a ta)(hb:QE X b tb)(hm:behindInMarks op b=false):QT X (.Compare a [op] [b] pos) (gL (kR r ta tb)):=#[DI (ho:=ho) (ha:=ha.h) (hb:=hb.h) (hm:=hm)]
def iI{b:Φ}{op d:CmpOp}(ho:zx X (Py op) r)(ho':zx X (Py d) e)(ha:QE X a ta)(hb:QE X b tb)(hc:QE X c tc)(hm:lastMarks [op,d] [b,c]=false:=by with_unfolding_all rfl):QE X (.Compare a [op,d] [b,c] pos) (i4 r e ta tb tc):=#[Aw (ho:=ho) (ho':=ho') (ha:=ha.h) (hb:=hb.h) (hc:=hc.h) (hm:=hm)]
def mL{b:Φ}{op d:CmpOp}(ho:zx X (Py op) r)(ho':zx X (Py d) e)(ha:QE X a ta)(hb:QE X b tb)(hc:QE X c tc)(hm:lastMarks [op,d] [b,c]=false:=by with_unfolding_all rfl):QT X (.Compare a [op,d] [b,c] pos) (gL (i4 r e ta tb tc)):=#[AE (ho:=ho) (ho':=ho') (ha:=ha.h) (hb:=hb.h) (hc:=hc.h) (hm:=hm)]
def zF{b:Φ}{rest:Ι}(ha:QE X a ta)(hb:QE X (.BoolOp .And (b::rest) pos) tb):QE X (.BoolOp .And (a::b::rest) pos) (BT ta tb):=#[El (ha:=ha.h) (hb:=hb.h)]
def QD{op}(h:QE X a t):QE X (.BoolOp op [a] pos) t:=#[ED (h:=h.h)]
def bD(ha:QE X a ta):QE X (.UnaryOp .Not a pos) (BP ta):=#[DP (ha:=ha.h)]
def bw{b:Φ}{rest:Ι}(ha:QT X a tA)(hb:QW X (.BoolOp .And (b::rest) pos) tB'):QW X (.BoolOp .And (a::b::rest) pos) (D9 tA tB'):=#[Er (ha:=ha.h) (hb:=hb.h)]
def Qc{b:Φ}{rest:Ι}(ha:QT X a tA)(hb:QW X (.BoolOp .Or (b::rest) pos) tB'):QW X (.BoolOp .Or (a::b::rest) pos) (Gg tA tB'):=#[FX (ha:=ha.h) (hb:=hb.h)]
def aQ(ha:QT X a tA):QW X (.BoolOp .And [a] pos) tA:=#[Db (ha:=ha.h)]
def zP(ha:QT X a tA):QW X (.BoolOp .Or [a] pos) tA:=#[EI (ha:=ha.h)]
def Ql(ha:QT X a tA):QT X (.UnaryOp .Not a pos) (EO tA):=#[FH (ha:=ha.h)]
def zk(h:QE X e t)(he:∀a,isTrue e X.env a=(do let v <- a;standAt e.pos;holding [v] (truthy v)):=by intro _;rfl):QT X e (tB t):=#[Ff (h:=h.h) (he:=he)]
def As{b:Φ}(hc:QT X c tA)(ha:QE X a ta)(hb:QE X b tb):QE X (.IfExp c a b pos) (Gm tA ta tb):=#[BL (hc:=hc.h) (ha:=ha.h) (hb:=hb.h)]
def qc(ha:QE X e te)(hr:QA X es t)(h:Qj e=true:=by rfl):QA X (e::es) (uN te t):=#[GX (ha:=ha.h) (hr:=hr.h) (h:=h)]
def qa:QA X [] AS:=#[DW]
def qu{x1}(h:QA X es t):QE X (.Tuple es x1 pos) (Eu t):=#[E4 (h:=h.h)]
def za(h:QA X es t):QE X (.List es pos) (D5 t):=#[Fm (h:=h.h)]
def qx{b:Φ}(hr:PN X r)(ha:QE X a ta)(hb:QE X b tb)(hs:rR b:=by exactλ_ _=>rfl):QE X (.Subscript a b pos) (kR r ta tb):=#[FT (hr:=hr) (ha:=ha.h) (hb:=hb.h) (hs:=hs)]
def QN{lo:μ}{r:V->Λ->Λ->Hp->VK->Prop}(hr:yc X r)(he:QE X e te)(hl:QO X lo tl)(hu:QO X hi th):QE X (.Subscript e (.Slice lo hi none p2) pos) (Gh r te tl th):=#[Bt (hr:=hr) (he:=he.h) (hl:=hl.h) (hu:=hu.h)]
def Zg:QO X none sT:=#[C8]
def Zh(h:QE X e te):QO X ↑e (B4 te):=#[Cr (h:=h.h)]
def qk{x:Str}{p pos:Pos}{e:Φ}{es:Ι}{t:TA}{id:String}{r:Ε->Hp->VK->Prop}(hc:zj X (.builtin id) r)(hm:X.mg x=none)(hv:bootBuiltins x=↑(.builtin id))(ha:QA X (e::es) t)(hg:Gl X x:=by rfl)(hn:x≠"__name__":=by decide)(hdb:(x==("__debug__":Str))=false:=by decide)(he:θ (e::es) X.env=(false,eval e X.env)::θ es X.env:=by rfl)(hpl:(backTo pos (θ es X.env)).any (·.1)=false:=by rfl):QE X (.Call (.Name x p) (e::es) [] pos) (Cp r t):=#[AQ (hc:=hc) (hg:=hg) (hm:=hm) (hv:=hv) (ha:=ha.h) (hn:=hn) (hdb:=hdb) (he:=he) (hpl:=hpl)]
def qI{pos:Pos}{e:Φ}{es:Ι}{r:Ε->Hp->VK->Prop}(hc:zj X (.type T) r)(hm:X.mg x=none)(hv:bootBuiltins x=↑(.type T))(ha:QA X (e::es) t)(hg:Gl X x:=by rfl)(hn:x≠"__name__":=by decide)(hdb:(x==("__debug__":Str))=false:=by decide)(he:θ (e::es) X.env=(false,eval e X.env)::θ es X.env:=by rfl)(hpl:(backTo pos (θ es X.env)).any (·.1)=false:=by rfl):QE X (.Call (.Name x p) (e::es) [] pos) (Cp r t):=#[wW (hc:=hc) (hg:=hg) (hm:=hm) (hv:=hv) (ha:=ha.h) (hn:=hn) (hdb:=hdb) (he:=he) (hpl:=hpl)]
def qo{k:Nat}{e:Φ}{es:Ι}{pos:Pos}(D:Df X.prog X.w X.K X.mg X.base x ps k sp)(hr:MK k X.A)(ha:QA X (e::es) t)(hg:Gl X x:=by rfl)(hdb:(x==("__debug__":Str))=false:=by decide)(he:θ (e::es) X.env=(false,eval e X.env)::θ es X.env:=by rfl)(hpl:(backTo pos (θ es X.env)).any (·.1)=false:=by rfl):QE X (.Call (.Name x p) (e::es) [] pos) (ub sp [] E0 t):=#[Fs (D:=D) (hr:=hr) (ha:=ha.h) (hg:=hg) (hdb:=hdb) (he:=he) (hpl:=hpl)]
def qt:O9 X [] BZ:=#[CU]
def qd(h1:QS X st t)(h2:O9 X rest u):O9 X (st::rest) (f8 t u):=#[Bs (h1:=h1.h) (h2:=h2.h)]
def qe(h1:QS X st t):O9 X [st] t:=#[Dx (h1:=h1.h)]
def qA{pos:Pos}{i:Nat}{x:Str}(hN:X.N.Nodup)(hi:X.N[i]? =↑x)(hx:gq X.env.scope x)(he:QE X e te)(hs:swapsWith e ↑(.Name x pos') pos.line X.env=pure false:=by rfl)(hf:X.fn x=true\/X.env.scope.names.lookup x=some .local:=by first|exact .inl Z|exact .inr Z|assumption):QS X (.Assign [.Name x pos'] e pos) (c9 te (Qf i)):=#[E3 (hN:=hN) (hi:=hi) (hx:=hx) (he:=he.h) (hs:=hs) (hf:=hf)]
def q9{pos:Pos}(he:QE X e te)(hg:QG X tg g)(hs:swapsWithSole [tg] e pos.line X.env=pure false:=by rfl)(hw:swappedStores [tg] e X.env=pure none:=by rfl)(h1:(assignEach [tg] X.env).map (·.2)=[assign tg X.env]:=by rfl):QS X (.Assign [tg] e pos) (c9 te g):=#[Ei (he:=he.h) (hg:=hg.h) (hs:=hs) (hw:=hw) (h1:=h1)]
def qj(he:QE X e te):QS X (.Return ↑e pos) (DY te):=#[FE (he:=he.h)]
def qC{b:List δ}(hc:QT X c tc)(ha:O9 X a t)(hb:O9 X b u):QS X (.If c a b pos) (vk tc t u):=#[F8 (hc:=hc.h) (ha:=ha.h) (hb:=hb.h)]
def zg(hp:PassesOwn (model X.prog X.w) X.A X.env X.xe)(hc:X.calm=true)(hi:QI X tg a d)(hg:QG X tg g)(hb:O9 X c tb)(hs:∀x,foldedSetIterable a X.env x=pure x:=by intro _;rfl):QS X (.For tg a c [] pos) (Aj d g tb):=#[EK (hp:=hp) (hc:=hc) (hi:=hi.h) (hg:=hg.h) (hb:=hb.h) (hs:=hs)]
def zc{pos:Pos}(he:QE X e te)(hs:swapsWith e none pos.line X.env=pure false:=by rfl):QS X (.Expr e pos) (B1 te):=#[CW (he:=he.h) (hs:=hs)]
def CI{c:V->V->Hp->VK->Prop}(ho:QE X o to)(hi:QE X i l)(hg:AU X c)(he:QE X e te)(hp:ER X op f)(hs:og X d)(ha:∀j h a,augStore i j h a=(do holding [a,j,h] (setItem j h a);release [a,j,h] [];pure .next):=by intros;rfl):QS X (.AugAssign (.Subscript o i g) op e pos) (Cb to l te c f d):=#[Dy (ho:=ho.h) (hi:=hi.h) (hg:=hg) (he:=he.h) (hp:=hp) (hs:=hs) (ha:=ha)]
def zv(hl:QE X l tl):QI X tg l (BV X.K tl):=#[C2 (hl:=hl.h)]
def ao(hl:QE X l tl):QI X tg l (EA X.K tl):=#[Eh (hl:=hl.h)]
def zM{a:Φ}{p:Pos}(hg:Gl X "range")(hm:X.mg "range"=none)(ha:QA X [a] ta)(hs:θ [a] X.env=[(false,eval a X.env)]:=by rfl):QI X tg (.Call (.Name "range" p) [a] [] pos) (Cn ta):=#[yz (hg:=hg) (hm:=hm) (ha:=ha.h) (hs:=hs)]
def k9{a b:Φ}{p:Pos}(hg:Gl X "range")(hm:X.mg "range"=none)(ha:QA X [a,b] ta)(hs:θ [a,b] X.env=[(false,eval a X.env),(false,eval b X.env)]:=by rfl)(hs2:θ [b] X.env=[(false,eval b X.env)]:=by rfl):QI X tg (.Call (.Name "range" p) [a,b] [] pos) (Ck ta):=#[xg (hg:=hg) (hm:=hm) (ha:=ha.h) (hs:=hs) (hs2:=hs2)]
def CQ{a:Φ}{p:Pos}{x1}(hg:Gl X "enumerate")(hm:X.mg "enumerate"=none)(ha:QA X [a] ta)(hs:θ [a] X.env=[(false,eval a X.env)]:=by rfl):QI X (.Tuple c x1 d) (.Call (.Name "enumerate" p) [a] [] pos) (BQ X.K ta):=#[DD (hg:=hg) (hm:=hm) (ha:=ha.h) (hs:=hs)]
def qg{i:Nat}{x:Str}(hN:X.N.Nodup)(hi:X.N[i]? =↑x)(hx:gq X.env.scope x)(hf:X.fn x=true\/X.env.scope.names.lookup x=some .local:=by first|exact .inl Z|exact .inr Z|assumption):QG X (.Name x pos) (Qf i):=#[DL (hN:=hN) (hi:=hi) (hx:=hx) (hf:=hf)]
def cN{k:Nat}{n:Nat}(hc:X.calm=true)(h:Rk X es t)(hn:(assignEach es X.env).length=n:=by rfl)(hst:(assignEach es X.env).findIdx? (·.1)=none:=by rfl):QG X (.Tuple es k pos) (pI X.K n t):=#[nZ (hc:=hc) (h:=h.h) (hn:=hn) (hst:=hst)]
def aZ(ho:QE X o to)(hi:QE X i d)(hs:og X t)(ha:∀v,assign (.Subscript o i pos) X.env v=(do
      let a <- holding [v] (eval o X.env)
      let c <- holding [v,a] (eval i X.env)
      standAt pos
      holding [v,a,c] (setItem a c v)
      release [v,a,c] []):=by intro _;rfl):QG X (.Subscript o i pos) (FJ to d t):=#[EM (ho:=ho.h) (hi:=hi.h) (hs:=hs) (ha:=ha)]
def qK:Rk X [] pN:=#[DK]
def qh(h1:QG X e t)(h2:Rk X es u)(hs:(assignEach (e::es) X.env).map (·.2)=assign e X.env::(assignEach es X.env).map (·.2):=by rfl):Rk X (e::es) (bQ t u):=#[BH (h1:=h1.h) (h2:=h2.h) (hs:=hs)]
theorem QW.pt(h:QW X e t):QT X e t:=#[PW.pt h.h]
def qv(i:Nat){x:Str}(hN:X.N[i]? =↑x:=by rfl)(hv:EQ X.env.scope x:=by first|exact Pr Z|exact SV (Pr Z)|exact SV (SV Z))(hd:(x==("__debug__":Str))=false:=by decide)
  (a:(x==("__classdict__":Str))=false:=by decide):QE X (.Name x pos) (Fv i):=#[EU hN hv hd a]
def Qa{a:Scope}{h:List (Str×Δ)}{fr own:Α}
  (hc:X.calm=true)(hi:QI X tg d l)(e:closureFor a X.env=pure h)(j:∀y c,h.lookup y=↑c->X.env.cells.lookup y=↑c)(i:h.map (·.1)=fr)
  (S:MU X a fr js)
  (hg:∀C s H fp,QG (qY X (own++fr) a h C s H fp) tg g)(he:∀C s H fp,QE (qY X (own++fr) a h C s H fp) f te)
  (hs:∀x,foldedSetIterable d X.env x=pure x:=by intro _;rfl):
  QE X (.ListComp f [#[tg,d,[],(0)]] a pos) (iZ own.length js l g te):=#[CZ hc hi.h e j i S (λC s H fp=>(hg C s H fp).h) (λC s H fp=>(he C s H fp).h) hs]
def cP{a:Scope}{j:List (Str×Δ)}{e:Pos}{fr own:Α}{i:Nat}{y:Str}
  (hN:X.N.Nodup)(l:X.N[i]? =↑y)(hx:gq X.env.scope y)
  (hc:X.calm=true)(hi:QI X tg d p)(h:closureFor a X.env=pure j)(o:∀y c,j.lookup y=↑c->X.env.cells.lookup y=↑c)(n:j.map (·.1)=fr)
  (S:MU X a fr js)
  (hg:∀C s H fp,QG (qY X (own++fr) a j C s H fp) tg g)(he:∀C s H fp,QE (qY X (own++fr) a j C s H fp) f te)
  (hs:∀x,foldedSetIterable d X.env x=pure x:=by intro _;rfl)(m:swapsWith (.ListComp f [#[tg,d,[],(0)]] a pos) ↑(.Name y q) e.line X.env=pure true:=by rfl)
  (hf:X.fn y=true\/X.env.scope.names.lookup y=some .local:=by first|exact .inl Z|exact .inr Z|assumption):
  QS X (.Assign [.Name y q] (.ListComp f [#[tg,d,[],(0)]] a pos) e) (c9 (iZ own.length js p g te) (Qf i)):=#[C4 hN l hx hc hi.h h o n S (λC s H fp=>(hg C s H fp).h) (λC s H fp=>(he C s H fp).h) hs m hf]
section
variable{K:ι}
def At.dq{k:Nat}{sp:Sp}(a:At K mg x st ps)(S:HK N ps (qi st))
  (d:∀(f:Δ) (cdv:Γ) (A:Rj) (c:Τ) (s:Θ) (H:Hp) (vs:Ε) (Q:VK) (E:XK),MK k (A.deeper (PyProof.Rows.envOfC x (qi st) s.heap.objs.size f cdv))->sp vs H Q E->
   ∃t,O9 (cu bi P w K mg base N x (qi st) f cdv A c s H E).nox (zR st) t/\t {nx:=λ_ H'=>Q .non H',rt:=Q} (Zr N vs) H)(len:∀vs H Q E,sp vs H Q E->vs.length=ps.length:=by intro vs H Q E h;first|(cases h;subst_vars;rfl)|((repeat first|let#[rfl,h]:=h|let#[_,h]:=h);all_goals rfl)):Df P w K mg base x ps (k+1) sp:=
 a.df S len λf cdv A c s H vs Q E e h=>let⟨t,q1,q2⟩:=d f cdv A c s H vs Q E e h;#[t,q1.h,q2]
def _root_.L2.OL.dq{k:Nat}{sp:Sp}(F:OL K x R1 st f fd)(S:HK N ps (qi st))(len:∀vs H Q E,sp vs H Q E->vs.length=ps.length)
  (c:∀(cdv:Γ) (A:Rj) (a:Τ) (s:Θ) (H:Hp) (vs:Ε) (Q:VK) (E:XK),MK k (A.deeper (PyProof.Rows.envOfC R1 (qi st) s.heap.objs.size f cdv))->sp vs H Q E->
   ∃t,O9 (cu bi P w K mg base N R1 (qi st) f cdv A a s H E).nox (zR st) t/\t {nx:=λ_ H'=>Q .non H',rt:=Q} (Zr N vs) H):NU P w K mg base bi (k+1) f fd ps sp:=
 F.ok S len λcdv A a s H vs Q E d h=>let⟨t,q1,q2⟩:=c cdv A a s H vs Q E d h;#[t,q1.h,q2]
def F2(F:OL K x x st f fd)(m:mg x=↑(-f))(b:NH K fd ps []):At K mg x st ps:=#[f,fd,F,m,F.kp,b]
end
open PyProof.Rows
def Nf:Β:=(Ag 16).map λi=>((i:Nat):Int)
def oN:Nf.length=16:=by decide
def Es:((Ag 16).map λi=>V.int ((i:Nat):Int))=Nf.map V.int:=by decide +kernel
def Di{a:Type}{xs:List a}{z:Int}{j:Nat}{v:a}(e:z=(j:Int))(h:xs[j]? =↑v):QK xs z=↑v:=by rw[e];exact Qs h
def jW{n j:Nat}{z:Int}(e:z=(j:Int))(h:j<n):cC n z=↑j:=by rw[e];exact sN h
def pP{z:Int}(h:z∈Nf):0<=z/\z<16:=by
 let#[i,hi,e]:=JC.mp h
 have:=JT.mp hi
 lia
open Sem (wp)
def tU{x:Γ}{Q:HG}(a:s.heap.IsTupleIter it t i)(g:s.heap.IsTuple t its)(hx:its[i]? =↑x)
  (j:∀h',h'.IsTupleIter it t (i+1)->Ψ.SameBut it s.heap h'->Q x {s with heap:=h'}):ε (model prog w) A (γ.SmallTypes.nextOf (-it)) Q E s:=by
 let#[o,d,h,c]:=id a;let#[m,f,_,l,e]:=g;unfold γ.SmallTypes.nextOf;refine Ja (wpAny_callSpecial?_slot (name:=RS "__next__") a.typeIs L8
  (JY L8 a.typeIs Sm ?_ (Sh _)))
 show ε _ _ (field (-it) 0 >>= _) _ _ s
 refine Ja (JX d c (x:= .ref t) Z ?_)
 show ε _ _ (if(Γ.ref t==Γ.none)=true then _ else _) _ _ s
 rw[Jb (show¬((Γ.ref t==Γ.none)=true)from JK)]
 show ε _ _ (field (-it) 1 >>= _) _ _ s
 refine Ja (JX d c (x:= .int i 0) Z ?_)
 show ε _ _ (seqItems? (-t) >>= _) _ _ s
 refine Ja (IW f e ?_)
 simp only[Iw,hx];refine Ja (II d c (by simp) (Jd #[x,Z,Jd (j _ ?_ (G6 ..))]))
 exact#[_,Lf _ d (L9 (Lq c _)),(Obj.cls_mapFields ..).trans h,by
  rw[Lq c];simp [rawInt]]
def lD(j:A.handled=none)(c:s.heap.IsTupleIter it t i)(l:s.heap.IsTuple t its)(hx:its[i]? =none)
  (n:∀h' e,Ψ.ExtBut it s.heap h'->(∃o,h'.get? e=↑o/\o.cls= .type "StopIteration")->E (-e) {s with heap:=h'}):
  ε (model prog w) A (γ.SmallTypes.nextOf (-it)) Q E s:=by
 let#[o,g,q,d]:=id c;let#[r,h,_,p,f]:=l;unfold γ.SmallTypes.nextOf;refine Ja (wpAny_callSpecial?_slot (name:=RS "__next__") c.typeIs L8
  (JY L8 c.typeIs Sm ?_ (Sh _)))
 show ε _ _ (field (-it) 0 >>= _) _ _ s
 refine Ja (JX g d (x:= .ref t) Z ?_)
 show ε _ _ (if(Γ.ref t==Γ.none)=true then _ else _) _ _ s
 rw[Jb (show¬((Γ.ref t==Γ.none)=true)from JK)]
 show ε _ _ (field (-it) 1 >>= _) _ _ s
 refine Ja (JX g d (x:= .int i 0) Z ?_)
 show ε _ _ (seqItems? (-t) >>= _) _ _ s
 refine Ja (IW h f ?_)
 simp only[Iw,hx];refine Ja (Ih (Ja (II g d (by simp) ?_)))
 show ε _ _ (newExc (.type "StopIteration") [] >>= _) _ _ _
 refine Ja ?_
 simp only[newExc,newTuple];refine Ja (J6 ?_ (by size_fits))
 refine Ja (m:=firstArgMember _ _) (Iy (a:=Γ.none) (by first|rfl|(simp only[firstArgMember];rfl)) ?_)
 refine J6 ?_ (by size_fits)
 simp only[raiseNew];refine Ja (wpAny_handled ?_)
 first|rw[show A.in1.handled=none from j]|rw[j]
 refine Ja (Jd (wpAny_throw ?_))
 exact n _ _ (((G6 ..).extBut.push _).push _) #[_,Jp _ Z,Z]
def iO{A:Rj}(g:A.handled=none)(it t:Δ)(d:t≠it)(its:Array Γ):
  Draws prog w A it [it,t] its.size (λi v=>its[i]? =↑v) (λi h=>h.IsTupleIter it t i/\h.IsTuple t its) where
 live:=λ_ _ st=>let⟨o,ho,_⟩:=st.1;#[o,ho]
 frame:=λ_ _ _ st hk=>#[st.1.at λo e=>hk it (by simp) o e,let⟨o,e,r⟩:=st.2;#[o,hk t (by simp) o e,r]]
 item:=λi s Q E hi st j=>by
  refine tU st.1 st.2 (x:=its[i]) (by simp [hi]) λh' c a=>?_
  exact j _ h' s.toks (by simp [hi]) #[c,let⟨o,e,r⟩:=st.2;#[o,a.extBut _ _ d e,r]] a
 done:=λs Q E st f=>lD g st.1 st.2 (by simp) f
open AutoSeq1 (wpAny_loadPart')in
def pQ(l:Δ)(items:Array Γ)(n:Nat)(e:β)(o:Array Ν):
  Meets (γ.«enumerate.__new__» #[[.type "enumerate",-l],[]]) (λ_ R s=>s.heap.get? l=some {cls:= .type "tuple",dict:=e,data:= .seq items n,slots:=o}/\
   R (.ok (.ret (.ref (s.heap.push {cls:= .type "tuple_iterator",data:= .fields (AA [-l,.int 0 0])}).objs.size)))
    {s with heap:=(s.heap.push {cls:= .type "tuple_iterator",data:= .fields (AA [-l,.int 0 0])}).push {cls:= .type "enumerate",data:= .fields (AA [.none,.bool false,-s.heap.objs.size,rawInt 0,.none,.none])}}):=
 .of_wp λprog w A R s h=>by
  let#[j,g,d,tk,m]:=s;let#[a,h]:=h
  have i:=sub_enumerate;have f:Ψ.IsTuple (Θ.heap #[j,g,d,tk,m]) l items:=#[_,a,Z,n,Z]
  wp_walk using LG a
  refine wpAny_stack_any λst=>Jd ?_
  split
  .rename_i c _ _ _ _ _
   cases(c==Γ.type "enumerate")
   .wp_walk using LG a,Ld f
    exact#[0,h]
   .wp_walk using LG a,Ld f
    exact#[0,h]
  .wp_walk using LG a,Ld f
   exact#[0,h]
def vf{Q:HG}(m:s.heap.IsTuple l items)
  (h:∀h',IsEnum h' (s.heap.objs.size+1) s.heap.objs.size 0 .none->h'.IsTupleIter s.heap.objs.size l 0->(∀b o,s.heap.get? b=↑o->h'.get? b=↑o)->Q (.ref (s.heap.objs.size+1)) {s with heap:=h'}):
  ε (model prog w) A (call (.type "enumerate") [-l]) Q E s:=by
 let#[#[c,f,p,j],q,e,n,d]:=m
 replace e:c= .type "tuple":=e
 replace d:p= .seq items n:=d
 subst e d;refine callType_new F.called_enumerate ⋯ (F.typeCall_enumerate_1 _) (F.newCall_enumerate_1 _) (λa=>F.args_object_init_2 a _) F.entry_enumerate_new
  (pQ l items n f j) #[q,?_]
 have i:(s.heap.push {cls:= .type "tuple_iterator",data:= .fields (AA [-l,.int 0 0])}).objs.size=s.heap.objs.size+1:=JU ..
 show _/\_
 rw[i];have g:IsEnum ((s.heap.push {cls:= .type "tuple_iterator",data:= .fields (AA [-l,.int 0 0])}).push
   {cls:= .type "enumerate",data:= .fields (AA [.none,.bool false,-s.heap.objs.size,rawInt 0,.none,.none])}) (s.heap.objs.size+1) s.heap.objs.size 0 .none:=by
  have:=Jp (s.heap.push {cls:= .type "tuple_iterator",data:= .fields (AA [-l,.int 0 0])})
   (o:={cls:= .type "enumerate",data:= .fields (AA [.none,.bool false,-s.heap.objs.size,rawInt 0,.none,.none])}) Z
  rw[i]at this;exact this
 exact#[#[_,g,Z],h _ g #[_,Jk _ (Jp _ Z),9] λb o x=>Jk _ (Jk _ x)]
noncomputable def nN(K:ι)(a:Δ):It:=
 #[λi H=>∃xs x,HX K H a xs/\xs[i]? =↑x,λi H x H'=>∃p v,H p=none/\x= .ref p/\(∀xs,HX K H a xs->xs[i]? =↑v)/\H'=HM H p (.tup [.int i,v]),λi H=>∃xs,HX K H a xs/\xs.length<=i]
def uI{K:ι}{x1}(a e it:Δ)(t:e≠it):
  N5 P w K (.Tuple L x1 pos) (nN K a) [e,it] e (λi h=>(∃c,IsEnum h e it i c)/\h.IsTupleIter it a i) where
 mem:=by simp
 obj:=λi h st b r=>by
  let#[#[c,l],#[o,j,Q,hd]]:=st;rcases Jg.mp r with z|z
  .subst z
   refine#[_,l,λv z=>?_]
   have z':Sf _=SJ v:=z
   cases z'
  .rw[Ji.mp z]
   exact#[o,j,λv z=>by rw[hd]at z;cases z]
 keep:=λi h h' st k=>#[let⟨c,l⟩:=st.1;#[c,k e (by simp) _ l],st.2.at λo q=>k it (by simp) o q]
 item:=by
  intro X hP hw hK Q i R0 s σ H E I R st hg;subst hP hw hK;let#[xs,x,O,S]:=hg;let#[its,U,p,hz]:=I.tuple O;let#[u,hu,ru]:=U.get S;let#[#[c,l],g]:=st;have a3:a≠e:=λz=>by
   subst z;let#[o,j,d,_]:=p;rw[l]at j;cases j;exact absurd (show Γ.type "enumerate"=Γ.type "tuple" from d) ⋯
  have J:a≠it:=λz=>by
   subst z;let#[o,j,d,_]:=p;let#[o',n,m,_]:=g;rw[j]at n;cases n;rw[d]at m;exact absurd m ⋯
  have a2:i<its.toArray.size:=by
   have:=(Jw.mp hu).1
   simpa using this
  refine wpAny_pyNext_enum_itemD (iO (A:=X.A.in1) (I.ok.hd Q) it a J its.toArray) l #[g,p] a2 t (by simp [t,Ne.symm a3]) λv h' tk hv j ⟨B,_⟩ ht a4 hk=>#[0,?_]
  have ev:v=u:=by
   have M:its[i]? =↑v:=by simpa using hv
   rw[hu]at M;exact(JE M).symm
  subst ev;refine wpAny_letOwnedTupleGo_enum j λY C f=>?_
  have D:e<s.heap.objs.size:=Jl l
  have G:it<s.heap.objs.size:=by let#[_,y,_]:=g;exact Jl y
  exists .ref s.heap.objs.size,HM H s.heap.objs.size (.tup [.int i,x]),?_,Z,#[_,x,I.hok.fresh (Jf _),Z,λys hy=>by rw[I.tuple_inj hy O];exact S,Z],#[#[_,by simpa using C],?_]
  .show L2.HN X R0 σ _ {s with heap:=Y,toks:=tk+1}
   refine gK (s:=s) (its:=[.int i tk,v]) I (ch:=[e,it]) (λb o r q=>?_) R (λb r=>?_) (Jf _) (by show 2<=ζ;decide) (.cons #[0] (.cons ru .nil)) ?_
   .have N:b≠e:=λz=>r (by simp [z])
    have a1:b≠it:=λz=>r (by simp [z])
    exact(f.2 b N).trans (hk b o N a1 q)
   .rcases Jg.mp r with z|z
    .subst z;exact#[_,C]
    .rw[Ji.mp z]
     let#[o,y,_]:=B
     exact#[o,(f.2 it (Ne.symm t)).trans y]
   .exact#[_,(f.2 _ (J1 D)).trans ht,8]
  .exact B.extBut f.extBut (Ne.symm t)
  .intro b r
   rw[qp]
   .exact(R b r).1
   .rcases Jg.mp r with z|z
    .subst z;exact Jm D
    .rw[Ji.mp z];exact Jm G
 done:=by
  intro X hP hw hK Q i R0 s σ H E I R st hg;subst hP hw hK;let#[xs,O,S]:=hg;let#[its,U,p,hz]:=I.tuple O;let#[#[c,l],g]:=st;let#[f0,f1,f2,f3,f4,f5]:=R it (by simp)
  have hl:=U.length;have J:a≠it:=λz=>by
   subst z;let#[o,j,d,_]:=p;let#[o',n,m,_]:=g;rw[j]at n;cases n;rw[d]at m;exact absurd m ⋯
  unfold pyNext;have hT:s.TypeIs (-e) "enumerate":=#[_,l,Z]
  refine Ja (IQ (wpAny_callSpecial?_slot (name:=RS "__next__") hT F.slot_enumerate_next
   (JY F.slot_enumerate_next hT F.entry_enumerate_next ?_ (F.args_enumerate_next_1 _))))
  show ε _ _ (field (-e) 2 >>= _) _ _ _
  refine Ja (JX l Z (x:= .ref it) Z ?_)
  refine Ja (lD (I.ok.hd Q) g p (by simp;lia) λh' ex eb W=>?_)
  let#[o,j,d]:=W;refine Ja (IX (T:="StopIteration") (b:=true) #[o,j,d] LU ?_)
  exact Jd #[Z,I.turned (t':=s.toks) (λb o r e=>eb b o r e) f0 f1 f3 f4 f5]
 self:=λ_ _ _ _ _ st h=>by
  let#[#[c,l],_]:=st;exact LQ l h
noncomputable def wm(K:ι)(ta:TA):TI:=λσ H R=>ta σ H λvs H1=>∃a,vs=[-a]/\((∃xs,HQ K H1 a xs)/\R (tF K a) H1\/(∃xs,HX K H1 a xs)/\R (nN K a) H1)
def Bf{a:Φ}{p:Pos}{x1}(hg:Gl X "enumerate")(hm:X.mg "enumerate"=none)(ha:PA X [a] ta)(hs:θ [a] X.env=[(false,eval a X.env)]:=by rfl):
  PI X (.Tuple g x1 o) (.Call (.Name "enumerate" p) [a] [] pos) (wm X.K ta):=by
 intro R0 s σ H R I h;refine Call_ (Zp I hg hm boot_enumerate (Le (qz (ha pos R0 s σ H _ I h) λD c y=>?_) hs Z))
 let#[vs,H1,f,w,t]:=y;let#[l,e,t]:=t;subst e;let#[u,rfl,A]:=w.one;cases A;have m:∀b∈[c.heap.objs.size+1,c.heap.objs.size],Zk X R0 H1 b:=λb B=>by
  have j:c.heap.objs.size<=b:=by
   rcases Jg.mp B with z|z
   .rw[z];exact IL _
   .rw[Ji.mp z];exact Jf _
  exact f.fpOk j (f.hok.fresh j)
 rcases t with⟨⟨xs,r⟩,q⟩|⟨⟨xs,r⟩,q⟩
 .let#[i,x,pl,C]:=f.list r
  refine call_enumerate_list pl.isList λh' n d v hk=>LQ n ?_
  exact#[c.heap.objs.size+1,[c.heap.objs.size+1,c.heap.objs.size],15,H1,Z,f.kept (t':=c.toks) hk,kg l _ _ (J1 (G0 _)),#[#[_,n],d],m,q]
 .let#[i,x,pl,C]:=f.tuple r
  refine vf (show c.heap.IsTuple l i.toArray from pl) λh' n d hk=>LQ n ?_
  exact#[c.heap.objs.size+1,[c.heap.objs.size+1,c.heap.objs.size],15,H1,Z,f.kept (t':=c.toks) hk,uI l _ _ (J1 (G0 _)),#[#[_,n],d],m,q]
def wZ{K:ι}{xs:Ε}{g:TG}{tb:TS}{D:Ng}{σ:L2.St}{H:Hp}(Pv:Nat->L2.St->Hp->Prop)(n:Pv 0 σ H)(hl:∀i σ H,i<=xs.length->Pv i σ H->HX K H a xs)
  (hs:∀i x σ H p,xs[i]? =↑x->Pv i σ H->H p=none->g (-p) σ (HM H p (.tup [.int i,x])) λc h=>tb {D with nx:=Pv (i+1),ct:=Pv (i+1),bk:=D.nx} c h)(hd:∀σ H,Pv xs.length σ H->D.nx σ H):
  ∃W:Nat->Nat->L2.St->Hp->Prop,(∃m,W 0 m σ H)/\∀i m σ H,W i m σ H->
   ((nN K a).stop i H/\D.nx σ H)\/((nN K a).go i H/\∃N:L2.St->Hp->Prop,(∀d H',N d H'->∃j,j<m/\W (i+1) j d H')/\∀x H',(nN K a).yld i H x H'->g x σ H' λc h=>tb {D with nx:=N,ct:=N,bk:=D.nx} c h):=by
 exists λi m σ H=>m=xs.length-i/\i<=xs.length/\Pv i σ H,#[xs.length,by simp,JB _,n]
 rintro i m σ H ⟨rfl,hi,p⟩
 have q:=hl i σ H hi p
 by_cases f:i<xs.length
 .refine .inr #[#[xs,xs[i],q,by simp [f]],Pv (i+1),λd H' s=>#[xs.length-(i+1),by lia,Z,f,s],λx H' y=>?_]
  let#[o,v,l,rfl,r,rfl]:=y;exact hs i v σ H o (r xs q) p l
 .have e:i=xs.length:=by lia
  subst e;exact .inl #[#[xs,q,Jf _],hd σ H p]
structure N6(z TI TO i1 i2:Δ)(f1 f2:Η):Prop where
 TIz:TI≠z
 TOz:TO≠z
 i1z:i1≠z
 i2z:i2≠z
 TITO:TI≠TO
 TIi1:TI≠i1
 TIi2:TI≠i2
 TOi1:TO≠i1
 TOi2:TO≠i2
 i12:i1≠i2
 z1:z∉f1
 z2:z∉f2
 t1:TO∉f1
 t2:TO∉f2
 x1:i2∉f1
 x2:i1∉f2
section
variable{TI TO:Δ}{n1 n2 k:Nat}{P1 P2:Nat->Γ->Prop}{S1 S2:Nat->Ψ->Prop}{b:Γ}
def kL{Q:HG}(D1:Draws prog w A i1 f1 n1 P1 S1)(Y:Draws prog w A i2 f2 n2 P2 S2)(f:N6 z TI TO i1 i2 f1 f2)
  (hz:IsZip s.heap z TI TO .none)(a4:IsPair s.heap TI (-i1) (-i2))(a1:IsPair s.heap TO a b)(q1:S1 k s.heap)(q2:S2 k s.heap)(k1:k<n1)(k2:k<n2)
  (hQ:∀x y h' tk,P1 k x->P2 k y->IsZip h' z TI TO (rawInt s.heap.objs.size)->IsPair h' TO x y->S1 (k+1) h'->S2 (k+1) h'->IsPair h' s.heap.objs.size x y->
   (∀c o,c≠z->c≠TO->c≠i1->c≠i2->s.heap.get? c=↑o->h'.get? c=↑o)->Q (-s.heap.objs.size) {s with heap:=h',toks:=tk}):
  ε (model prog w) A (γ.«zip.__next__» #[[-z],[]]) (λb0 s'=>∃v,b0= .done (.ret v)/\Q v s') E s:=by
 let#[hp,g,d,t0,os]:=s
 show ε _ _ (field (-z) 2 >>= _) _ _ _
 refine Ja (JX hz Z (x:= .bool false) Z ?_)
 show ε _ _ (field (-z) 3 >>= _) _ _ _
 refine Ja (JX hz Z (x:= .ref TI) Z ?_)
 refine Ja (IW a4 Z ?_)
 show ε _ _ (γ.SmallTypes.ownedTupleIsFree (-z) >>= _) _ _ _
 refine Ja ?_
 unfold γ.SmallTypes.ownedTupleIsFree;refine Ja (JX hz Z (x:= .none) Z (Jd ?_))
 simp only[Io];refine Ja (Ih ?_)
 refine Ja (JX hz Z (x:= .ref TO) Z ?_)
 refine Ja (LV hz (by simp) λt C i=>?_)
 replace C:IsZip t z TI TO .ellipsis:=C
 replace i:Ψ.SameBut z hp t:=i
 refine Ja ?_
 simp only[OR,OS,OT,OU];refine Ja (Ja (wpAny_onRaise ?_))
 show ε _ _ (γ.SmallTypes.nextOf (-i1) >>= _) _ _ _
 have a8:S1 k t:=D1.frame _ _ _ q1 λc B o e=>i.extBut c o (λy=>f.z1 (y▸B)) e
 refine Ja (D1.item k #[t,g,d,t0,os] _ _ k1 a8 λx N P p1 a7 n=>Jd ?_)
 replace n:Ψ.SameBut i1 t N:=n
 have F:IsPair N TO a b:=n.extBut _ _ f.TOi1 (i.extBut _ _ f.TOz a1)
 refine Ja (IW F Z ?_)
 refine Ja (wpAny_updateSeq_pair F λu q l=>?_)
 replace q:IsPair u TO x b:=q
 replace l:Ψ.SameBut TO N u:=l
 refine Ja (wpAny_letGo (Jd ?_))
 refine Ja (Ja (wpAny_onRaise ?_))
 show ε _ _ (γ.SmallTypes.nextOf (-i2) >>= _) _ _ _
 have a6:S2 k u:=Y.frame _ _ _ q2 λc B o e=>l.extBut c o (λy=>f.t2 (y▸B)) (n.extBut c o (λy=>f.x2 (y▸B)) (i.extBut c o (λy=>f.z2 (y▸B)) e))
 refine Ja (Y.item k #[u,g,d,P,os] _ _ k2 a6 λy I U p2 a5 m=>Jd ?_)
 replace m:Ψ.SameBut i2 u I:=m
 have H:IsPair I TO x b:=m.extBut _ _ f.TOi2 q
 refine Ja (IW H Z ?_)
 refine Ja (wpAny_updateSeq_pair H λh p j=>?_)
 replace p:IsPair h TO x y:=p
 replace j:Ψ.SameBut TO I h:=j
 refine Ja (wpAny_letGo (Jd (Jd ?_)))
 refine Ja (IW p Z ?_)
 refine Ja (wpAny_newTuple ?_)
 have W:h.objs.size=hp.objs.size:=by rw[j.1,m.1,l.1,n.1,i.1]
 have J:IsZip h z TI TO .ellipsis:=j.extBut _ _ f.TOz.symm (m.extBut _ _ f.i2z.symm (l.extBut _ _ f.TOz.symm (n.extBut _ _ f.i1z.symm C)))
 have R:∀c o,c≠z->c≠TO->c≠i1->c≠i2->hp.get? c=↑o->h.get? c=↑o:=λc o S c2 c3 c4 e=>
  j.extBut _ _ c2 (m.extBut _ _ c4 (l.extBut _ _ c2 (n.extBut _ _ c3 (i.extBut _ _ S e))))
 have a2:S1 (k+1) h:=D1.frame _ _ _ a7 λc B o e=>j.extBut c o (λy=>f.t1 (y▸B)) (m.extBut c o (λy=>f.x1 (y▸B)) (l.extBut c o (λy=>f.t1 (y▸B)) e))
 have a3:S2 (k+1) h:=Y.frame _ _ _ a5 λc B o e=>j.extBut c o (λy=>f.t2 (y▸B)) e
 have O:z<h.objs.size:=Jl J
 show ε _ _ (γ.SmallTypes.ownedTupleHandOut (-z) (-h.objs.size) >>= _) _ _ _
 refine Ja ?_
 unfold γ.SmallTypes.ownedTupleHandOut;have T:IsZip (h.push {cls:= .type "tuple",data:= .seq (AA [x,y])}) z TI TO .ellipsis:=Jk _ J
 refine Ja (LV T (by simp) λX D K=>?_)
 replace D:IsZip X z TI TO (rawInt h.objs.size):=D
 refine LV D (by simp) λG r L=>?_
 replace r:IsZip G z TI TO (rawInt h.objs.size):=r
 have up:∀c o,c≠z->h.get? c=↑o->G.get? c=↑o:=λc o S e=>L.extBut _ _ S (K.extBut _ _ S (Jk _ e))
 have M:IsPair G h.objs.size x y:=L.extBut _ _ (J1 O) (K.extBut _ _ (J1 O) (Jp _ Z))
 rw[W]at r M;refine Jd #[0,?_]
 show Q (-h.objs.size) _
 rw[W];exact hQ x y G U p1 p2 r (up _ _ f.TOz p) (D1.frame _ _ _ a2 λc B o e=>up c o (λy=>f.z1 (y▸B)) e) (Y.frame _ _ _ a3 λc B o e=>up c o (λy=>f.z2 (y▸B)) e) M λc o S c2 c3 c4 e=>up c o S (R c o S c2 c3 c4 e)
def nQ{Q:Fin->Θ->Prop}(C:Draws prog w A i1 f1 n1 P1 S1)(a:N6 z TI TO i1 i2 f1 f2)
  (hz:IsZip s.heap z TI TO .none)(v:IsPair s.heap TI (-i1) (-i2))(I:S1 n1 s.heap)
  (L:∀h' e,(∀c o,c≠z->c≠i1->s.heap.get? c=↑o->h'.get? c=↑o)->(∃o,h'.get? e=↑o/\o.cls= .type "StopIteration")->E (-e) {s with heap:=h'}):
  ε (model prog w) A (γ.«zip.__next__» #[[-z],[]]) Q E s:=by
 let#[H,g,d,G,K]:=s
 show ε _ _ (field (-z) 2 >>= _) _ _ _
 refine Ja (JX hz Z (x:= .bool false) Z ?_)
 show ε _ _ (field (-z) 3 >>= _) _ _ _
 refine Ja (JX hz Z (x:= .ref TI) Z ?_)
 refine Ja (IW v Z ?_)
 show ε _ _ (γ.SmallTypes.ownedTupleIsFree (-z) >>= _) _ _ _
 refine Ja ?_
 unfold γ.SmallTypes.ownedTupleIsFree;refine Ja (JX hz Z (x:= .none) Z (Jd ?_))
 simp only[Io];refine Ja (Ih ?_)
 refine Ja (JX hz Z (x:= .ref TO) Z ?_)
 refine Ja (LV hz (by simp) λi j f=>?_)
 replace j:IsZip i z TI TO .ellipsis:=j
 replace f:Ψ.SameBut z H i:=f
 refine Ja ?_
 simp only[OR,OS,OT,OU];refine Ja (Ja (wpAny_onRaise ?_))
 show ε _ _ (γ.SmallTypes.nextOf (-i1) >>= _) _ _ _
 have t:S1 n1 i:=C.frame _ _ _ I λc M o e=>f.extBut c o (λy=>a.z1 (y▸M)) e
 refine Ja (C.done #[i,g,d,G,K] _ _ t λn e h J=>?_)
 let#[D,p,q]:=J
 replace h:Ψ.ExtBut i1 i n:=h
 have m:IsZip n z TI TO .ellipsis:=h _ _ a.i1z.symm j
 have u:e≠z:=λx=>by subst x;rw[m]at p;cases p;simp at q
 refine LV m (by simp) λr _ l=>L r e (λc o B F x=>l.extBut _ _ B (h _ _ F (f.extBut _ _ B x))) #[D,l.extBut _ _ u p,q]
end
noncomputable abbrev Cq(h:Ψ)(l1:Δ):Ψ:=h.push {cls:= .type "tuple_iterator",data:= .fields (AA [-l1,.int 0 0])}
noncomputable abbrev Cl(h:Ψ)(l1 l2:Δ):Ψ:=(Cq h l1).push {cls:= .type "tuple_iterator",data:= .fields (AA [-l2,.int 0 0])}
noncomputable abbrev BU(h:Ψ)(l1 l2:Δ):Ψ:=(Cl h l1 l2).push {cls:= .type "tuple",data:= .seq (AA [-h.objs.size,.ref (Cq h l1).objs.size])}
noncomputable abbrev B5(h:Ψ)(l1 l2:Δ):Ψ:=(BU h l1 l2).push {cls:= .type "tuple",data:= .seq (AA [.none,.none])}
noncomputable abbrev rX(h:Ψ)(l1 l2:Δ):Ψ:=(B5 h l1 l2).push {cls:= .type "zip",data:= .fields (AA [.none,.bool false,.bool false,.ref (Cl h l1 l2).objs.size,.ref (BU h l1 l2).objs.size])}
def uZ(a c:Δ)(xs ys:Array Γ):
  Meets (γ.«zip.__new__» #[[.type "zip",-a,-c],[]]) (λ_ R s=>s.heap.IsTuple a xs/\s.heap.IsTuple c ys/\
   R (.ok (.ret (.ref (B5 s.heap a c).objs.size))) {s with heap:=rX s.heap a c}):=
 .of_wp λprog w A R s h=>by
  let#[m,g,d,tk,n]:=s;let#[f,l,h]:=h
  have p:=sub_zip;have j:Ψ.IsTuple (Θ.heap #[m,g,d,tk,n]) a xs:=f
  have i:Ψ.IsTuple (Θ.heap #[m.push {cls:= .type "tuple_iterator",data:= .fields (AA [-a,.int 0 0])},g,d,tk,n]) c ys:=let⟨o,e,r⟩:=l;#[o,Jk _ e,r]
  wp_walk using Ld j,Ld i
  exact#[0,h]
def vJ{Q:HG}(i:s.heap.IsTuple a xs)(l:s.heap.IsTuple d ys)
  (h:∀h',IsZip h' (s.heap.objs.size+4) (s.heap.objs.size+2) (s.heap.objs.size+3) .none->IsPair h' (s.heap.objs.size+2) (-s.heap.objs.size) (.ref (s.heap.objs.size+1))->
   IsPair h' (s.heap.objs.size+3) .none .none->h'.IsTupleIter s.heap.objs.size a 0->h'.IsTupleIter (s.heap.objs.size+1) d 0->
   (∀c o,s.heap.get? c=↑o->h'.get? c=↑o)->Q (.ref (s.heap.objs.size+4)) {s with heap:=h'}):
  ε (model prog w) A (call (.type "zip") [-a,-d]) Q E s:=by
 refine callType_new F.called_zip ⋯ (F.typeCall_zip_2 _ _) (F.newCall_zip_2 _ _) (λe=>F.args_object_init_3 e _ _) F.entry_zip_new
  (uZ a d xs ys) #[i,l,?_]
 have g:(Cq s.heap a).objs.size=s.heap.objs.size+1:=JU ..
 have f:(Cl s.heap a d).objs.size=s.heap.objs.size+2:=by rw[JU,g]
 have z3:(BU s.heap a d).objs.size=s.heap.objs.size+3:=by rw[JU,f]
 have p:(B5 s.heap a d).objs.size=s.heap.objs.size+4:=by rw[JU,z3]
 have j:(rX s.heap a d).get? (B5 s.heap a d).objs.size=↑_:=Jp _ Z
 have m:(rX s.heap a d).get? (BU s.heap a d).objs.size=↑_:=Jk _ (Jp _ Z)
 have q:(rX s.heap a d).get? (Cl s.heap a d).objs.size=↑_:=Jk _ (Jk _ (Jp _ Z))
 have n:(rX s.heap a d).get? (Cq s.heap a).objs.size=↑_:=Jk _ (Jk _ (Jk _ (Jp _ Z)))
 have r:(rX s.heap a d).get? s.heap.objs.size=↑_:=Jk _ (Jk _ (Jk _ (Jk _ (Jp _ Z))))
 show _/\_
 rw[f,z3,p]at j;rw[g,f]at q;rw[z3]at m;rw[g]at n;rw[p]
 exact#[#[_,j,Z],h _ j q m #[_,r,9] #[_,n,9] λc o x=>
  Jk _ (Jk _ (Jk _ (Jk _ (Jk _ x))))]
def tj{h':Ψ}{t':Nat}{ch:Η}(I:L2.HN X R0 σ H s)(k:∀b o,b∉ch->s.heap.get? b=↑o->h'.get? b=↑o)(a:∀b∈ch,Zk X R0 H b):L2.HN X R0 σ H {s with heap:=h',toks:=t'}:=by
 have f:∀b u,H b=↑u->b∉ch:=λb u e z=>by rw[(a b z).1]at e;cases e
 refine I.step (g':=s.gens) (d':=s.drawn) (ch:=ch) (λb g=>#[(a b g).2.2.2.1,(a b g).2.1,(a b g).2.2.2.2.1,(a b g).2.2.2.2.2]) (λb o _ _ d e _=>k b o d e) (λb o _ _ d e _=>#[o.slots,k b o d e])
  (λ_ _ _ _ n=>n) (λb o d e=>#[o,k b o d e]) (λ_ _ e=>e) (λ_ _ _ e=>e) (λb ps e=>#[(AA []),by rw[e];simp]) (λm h=>?_) (λb u e=>?_) I.bare
 .let#[o,es,ep,i,r]:=h
  exact#[o,es,ep,k _ o (λz=>(a _ z).2.1 Z) i,r]
 .refine(I.hok b u e).stay (λc v d q=>k c v ?_ q) (λ_ q=>q) λ_ _ q=>q
  rcases d with z|z
  .rw[z];exact f b u e
  .exact f c _ z
def gC{H:Hp}{b:Δ}(h:Rd H a u)(h':H b=none):a≠b:=by
 rcases h with h|⟨o,h⟩
 .exact qm h h'
 .exact qm h h'
noncomputable def Ft(a c:Δ):It:=
  #[λi H=>∃xs ys x y,Rd H a (.tup xs)/\Rd H c (.tup ys)/\xs[i]? =↑x/\ys[i]? =↑y,
   λi H v H'=>∃p x y,H p=none/\v= .ref p/\(∀xs,Rd H a (.tup xs)->xs[i]? =↑x)/\(∀ys,Rd H c (.tup ys)->ys[i]? =↑y)/\H'=HM H p (.tup [x,y]),
   λi H=>∃xs,Rd H a (.tup xs)/\xs.length=i]
def Az{w:Ω}{K:ι}{x1}(G Q z TI TO i1 i2:Δ)(d1:TI≠z)(d2:TO≠z)(d3:i1≠z)(d4:i2≠z)(d5:TI≠TO)(d6:TI≠i1)(d7:TI≠i2)(d8:TO≠i1)(d9:TO≠i2)(n:i1≠i2):
  N5 P w K (.Tuple S x1 pos) (Ft G Q) [z,TI,TO,i1,i2] z (λi h=>IsZip h z TI TO .none/\IsPair h TI (-i1) (-i2)/\(∃a b,IsPair h TO a b)/\h.IsTupleIter i1 G i/\h.IsTupleIter i2 Q i) where
 mem:=by simp
 obj:=λi h st b f=>by
  let#[F,j,#[a,b',l],#[o1,b1,_,b2],#[o2,a6,_,b0]]:=st;simp only[Jg,Jt,Ju]at f;rcases f with rfl|rfl|rfl|rfl|rfl
  .exact#[_,F,λv y=>by have y':Sf _=SJ v:=y;cases y']
  .exact#[_,j,λv y=>by have y':Data.seq _ _=SJ v:=y;cases y']
  .exact#[_,l,λv y=>by have y':Data.seq _ _=SJ v:=y;cases y']
  .exact#[_,b1,λv y=>by rw[b2]at y;cases y]
  .exact#[_,a6,λv y=>by rw[b0]at y;cases y]
 keep:=λi h h' st k=>by
  let#[F,j,#[a,b',l],h1,h2]:=st
  exact#[k z (by simp) _ F,k TI (by simp) _ j,#[a,b',k TO (by simp) _ l],h1.at λo e=>k i1 (by simp) o e,h2.at λo e=>k i2 (by simp) o e]
 item:=by
  intro X hP hw hK r i R0 s σ H E I O st hg;subst hP hw hK;let#[xs,ys,x,y,m,M,hx,hy]:=hg;let#[its,rv,p,b4]:=I.tuple (.inl m)
  let#[C,b6,p2,b7]:=I.tuple (.inl M)
  let#[u,hu,ru]:=rv.get hx;let#[u2,Y,b5]:=b6.get hy;let#[F,j,#[a,b',l],h1,h2]:=st;have n1:∀c∈[z,TI,TO,i1,i2],G≠c:=λc r=>gC m (O c r).1
  have n2:∀c∈[z,TI,TO,i1,i2],Q≠c:=λc r=>gC M (O c r).1
  have d:N6 z TI TO i1 i2 [i1,G] [i2,Q]:=#[d1,d2,d3,d4,d5,d6,d7,d8,d9,n,by simp [Ne.symm d3,Ne.symm (n1 z (by simp))],by simp [Ne.symm d4,Ne.symm (n2 z (by simp))],by simp [d8,Ne.symm (n1 TO (by simp))],by simp [d9,Ne.symm (n2 TO (by simp))],by simp [Ne.symm n,Ne.symm (n1 i2 (by simp))],by simp [n,Ne.symm (n2 i1 (by simp))]]
  have a8:i<its.toArray.size:=by have:=(Jw.mp hu).1;simpa using this
  have W:i<C.toArray.size:=by have:=(Jw.mp Y).1;simpa using this
  have R:s.TypeIs (-z) "zip":=#[_,F,Z]
  unfold pyNext;refine Ja (IQ (wpAny_callSpecial?_slot (name:=RS "__next__") R Lh
   (JY Lh R Mc
    (kL (iO (A:=X.A.in1) (I.ok.hd r) i1 G (n1 i1 (by simp)) its.toArray) (iO (A:=X.A.in1) (I.ok.hd r) i2 Q (n2 i2 (by simp)) C.toArray) d F j l #[h1,p] #[h2,p2] a8 W
     λv v2 h' tk hv a5 ho U q1 q2 ht hk=>Jd #[0,?_]) (Me _))))
  have ev:v=u:=by
   have D:its[i]? =↑v:=by simpa using hv
   rw[hu]at D;exact(JE D).symm
  have b3:v2=u2:=by
   have D:C[i]? =↑v2:=by simpa using a5
   rw[Y]at D;exact(JE D).symm
  subst ev b3;refine wpAny_letOwnedTupleGo_zip ho λB L g=>?_
  have lt:∀c∈[z,TI,TO,i1,i2],c<s.heap.objs.size:=λc r=>by
   simp only[Jg,Jt,Ju]at r;rcases r with rfl|rfl|rfl|rfl|rfl
   .exact Jl F
   .exact Jl j
   .exact Jl l
   .let#[_,e,_]:=h1;exact Jl e
   .let#[_,e,_]:=h2;exact Jl e
  have J:IsPair B TI (-i1) (-i2):=g.extBut _ _ d1 (hk _ _ d1 d5 d6 d7 j)
  have t:IsPair B TO v v2:=g.extBut _ _ d2 U
  have a3:B.IsTupleIter i1 G (i+1):=q1.1.extBut g.extBut d3
  have a4:B.IsTupleIter i2 Q (i+1):=q2.1.extBut g.extBut d4
  exists .ref s.heap.objs.size,HM H s.heap.objs.size (.tup [x,y]),?_,Z,#[_,x,y,I.hok.fresh (Jf _),Z,λzs N=>by rw[I.tuple_inj (.inl N) (.inl m)];exact hx,λzs N=>by rw[I.tuple_inj (.inl N) (.inl M)];exact hy,Z],#[L,J,#[15,t],a3,a4]
  .show L2.HN X R0 σ _ {s with heap:=B,toks:=tk}
   refine gK (s:=s) (its:=[v,v2]) I (ch:=[z,TI,TO,i1,i2]) (λb o f q=>?_) O (λb f=>?_) (Jf _) (by show 2<=ζ;decide) (.cons ru (.cons b5 .nil)) ?_
   .simp only[Jg,Jt,Ju,not_or]at f
    exact g.extBut b o f.1 (hk b o f.1 f.2.2.1 f.2.2.2.1 f.2.2.2.2 q)
   .simp only[Jg,Jt,Ju]at f
    rcases f with rfl|rfl|rfl|rfl|rfl
    .exact#[_,L]
    .exact#[_,J]
    .exact#[_,t]
    .let#[o,e,_]:=a3;exact#[o,e]
    .let#[o,e,_]:=a4;exact#[o,e]
   .exact#[_,g.extBut _ _ (J1 (lt z (by simp))) ht,8]
  .intro b f
   rw[qp (Jm (lt b f))]
   exact(O b f).1
 done:=by
  intro X hP hw hK r i R0 s σ H E I O st hg;subst hP hw hK;let#[xs,m,hx]:=hg;let#[its,rv,p,b4]:=I.tuple (.inl m)
  let#[F,j,#[a,b',l],h1,h2]:=st;have n1:∀c∈[z,TI,TO,i1,i2],G≠c:=λc r=>gC m (O c r).1
  have d:N6 z TI TO i1 i2 [i1,G] [i2]:=#[d1,d2,d3,d4,d5,d6,d7,d8,d9,n,by simp [Ne.symm d3,Ne.symm (n1 z (by simp))],by simp [Ne.symm d4],by simp [d8,Ne.symm (n1 TO (by simp))],by simp [d9],by simp [Ne.symm n,Ne.symm (n1 i2 (by simp))],by simp [n]]
  have hl:its.toArray.size=i:=by rw[Js,<- rv.length];exact hx
  have R:s.TypeIs (-z) "zip":=#[_,F,Z]
  unfold pyNext;refine Ja (IQ (wpAny_callSpecial?_slot (name:=RS "__next__") R Lh
   (JY Lh R Mc
    (nQ (iO (A:=X.A.in1) (I.ok.hd r) i1 G (n1 i1 (by simp)) its.toArray) d F j #[by rw[hl];exact h1,p] λh' e hk he=>?_) (Me _))))
  let#[o,ho,a7]:=he;refine Ja (IX (T:="StopIteration") (b:=true) #[o,ho,a7] LU ?_)
  refine Jd #[Z,tj (t':=s.toks) I (ch:=[z,i1]) (λb o f e=>?_) (λb f=>O b ?_)]
  .simp only[Jg,Jt,Ju,not_or]at f
   exact hk b o f.1 f.2 e
  .simp only[Jg,Jt,Ju]at f
   rcases f with rfl|rfl<;>simp
 self:=λ_ _ _ _ _ st h=>Ml st.1 h
noncomputable def Fq(ta:TA):TI:=λσ H R=>ta σ H λvs H1=>∃c a xs ys,vs=[-c,-a]/\Rd H1 c (.tup xs)/\Rd H1 a (.tup ys)/\R (Ft c a) H1
def Fi{a b:Φ}{p:Pos}{x1}(hg:Gl X "zip")(hm:X.mg "zip"=none)(ha:PA X [a,b] ta)(h1:Qj a=true:=by rfl)(h2:Qj b=true:=by rfl):
  PI X (.Tuple g x1 r) (.Call (.Name "zip" p) [a,b] [] pos) (Fq ta):=by
 intro R0 s σ H R I h;have o:θ [b] X.env=[(false,eval b X.env)]:=ZB h2
 refine Call_ (Zp I hg hm boot_zip (Le (qz (ha pos R0 s σ H _ I h) λP c G=>?_) (by rw[ZB h1,o]) (by rw[o];rfl)))
 let#[vs,H1,f,D,K]:=G;let#[B,z,xs,ys,e,L,F,q]:=K;subst e;let#[u,v,rfl,J,E]:=D.two;cases J;cases E;let#[w,M,N,x]:=f.tuple (.inl L)
 let#[m,C,p2,O]:=f.tuple (.inl F)
 have d:∀(n i j:Nat),i≠j->n+i≠n+j:=λn i j h=>by lia
 refine vJ (show c.heap.IsTuple B w.toArray from N) (show c.heap.IsTuple z m.toArray from p2) λh' x y t h1 h2 hk=>Ml x ?_
 refine#[c.heap.objs.size+4,[c.heap.objs.size+4,c.heap.objs.size+2,c.heap.objs.size+3,c.heap.objs.size,c.heap.objs.size+1],15,H1,Z,f.kept (t':=c.toks) hk,
  Az B z (c.heap.objs.size+4) (c.heap.objs.size+2) (c.heap.objs.size+3) c.heap.objs.size (c.heap.objs.size+1) (d _ 2 4 ⋯) (d _ 3 4 ⋯) (d _ 0 4 ⋯) (d _ 1 4 ⋯) (d _ 2 3 ⋯) (d _ 2 0 ⋯) (d _ 2 1 ⋯) (d _ 3 0 ⋯) (d _ 3 1 ⋯) (d _ 0 1 ⋯),#[x,y,#[15,t],h1,h2],λb A=>?_,q]
 have l:c.heap.objs.size<=b:=by
  simp only[Jg,Jt,Ju]at A;rcases A with rfl|rfl|rfl|rfl|rfl
  .exact IZ _ 4
  .exact IZ _ 2
  .exact IZ _ 3
  .exact Jf _
  .exact IZ _ 1
 exact f.fpOk l (f.hok.fresh l)
def Ay{K:ι}{te:TE}{H:Hp}{Q:VK}{xs ys:Ε}(hl:xs.length=ys.length)(hn:xs.length<=ζ)(Pv:Nat->Ε->Hp->Prop)(t:Pv 0 [] H)
  (hk:∀i zs H,Pv i zs H->Rd H j (.tup xs)/\Rd H h (.tup ys))
  (hs:∀i zs H p x y,xs[i]? =↑x->ys[i]? =↑y->zs.length=i->Pv i zs H->H p=none->te (↑x::↑y::zZ js σ) (HM H p (.tup [x,y])) λv f=>Pv (i+1) (zs++[v]) f)
  (hd:∀zs H,zs.length=xs.length->Pv xs.length zs H->∀p,H p=none->Q (-p) (HM H p (.lst zs))):
  jf 2 js (pI K 2 (bQ (Qf 0) (bQ (Qf 1) pN))) te σ Q (Ft j h) H:=by
 exists λi m zs l H=>m=xs.length-i/\i<=xs.length/\zs.length=i/\Pv i zs H/\∃o o',l=o::o'::zZ js σ,#[xs.length,by simp,JB _,Z,t,none,none,Z]
 rintro i m zs l H ⟨rfl,hi,a,p,o,o',rfl⟩
 let#[g,q]:=hk i zs H p
 by_cases c:i<xs.length
 .have d:i<ys.length:=by lia
  refine .inr #[#[xs,ys,xs[i],ys[i],g,q,by simp [c],by simp [d]],by lia,λv H' y=>?_]
  let#[n,x,y,s,rfl,r,w,rfl]:=y;exists n,0,HX.of qb,5
  exact#[λv f=>Pv (i+1) (zs++[v]) f,λv f u=>#[xs.length-(i+1),jy c,Z,c,by simp [a],u,13],hs i zs _ n x y (r xs g) (w ys q) a p s]
 .have e:i=xs.length:=by lia
  subst e;exact .inl #[#[xs,g,Z],hd zs H a p]
open PySem.SeqAt
open AutoSeq1 (wpAny_loadPart')
def Rd.same(s:HJ H H')(h:Rd H a u):Rd H' a u:=by
 rcases h with h|⟨o,h⟩
 .exact .inl (s _ _ h)
 .exact .inr #[o,s _ _ h]
inductive PQ (H:Hp):V->String->Prop where
 |int (i:Int):PQ H (.int i) "int"
 |bl (b:Bool):PQ H (.bl b) "bool"
 |tup {a:Δ} {xs:Ε} (h:Rd H a (.tup xs)):PQ H (-a) "tuple"
 |str (x:Str):PQ H (.str x) "str"
 |non:PQ H .non "NoneType"
 |lst {a:Δ} {xs:Ε} (h:H a=↑(.lst xs)):PQ H (-a) "list"
def sO(h:PQ H x t):t∈iH:=by cases h<;>simp
theorem rP(K:ι){t:String}(f:t∈iH):∀a:List String,(∀c∈a,c∈iE)->W.kitAny K (.type t) (a.map Γ.type)=↑(a.any (zz t))
 | [],_=>rfl
 |c::r,h=>by
  have e:=jA K t f c (h c Jr);have g:=rP K f r λd i=>h d (Jv _ i)
  simp only[JS,W.kitAny,e,J4];cases zz t c with
  |true=>rfl
  |false=>simpa using g
def qO:zj X (.builtin "isinstance") (λxs H Q=>∃x c t,xs=[x,.ty c]/\PQ H x t/\c∈iE/\Q (.bl (zz t c)) H):=by
 intro R0 s σ H xs p Q I r h;let#[x,c,t,rfl,ty,j,q]:=h;let#[u,v,rfl,f,m]:=gt r
 cases(show v=Γ.type c from m)
 have e:=jA X.K t (sO ty) c j;have d:∀tk,EP X R0 σ Q (.bool (zz t c)) {s with toks:=tk}:=λtk=>#[.bl _,H,I.tok tk,Z,q]
 cases ty with
 |int i=>let#[t,q]:=(show∃t,u=Γ.int i t from f);cases q;exact J8 W.kitx_int I.kIn P5 e (λz=>nomatch z) d
 |bl b=>cases(show u=Γ.bool b from f);exact J8 W.kitx_bool I.kIn P5 e (λz=>nomatch z) d
 | @tup a ys hr=>
  cases(show u=Γ.ref a from f)
  let#[l,_,#[o,h1,g,_],_]:=I.tuple (.inl hr)
  exact J8 W.kitx_tuple I.kIn #[o,h1,g] e (λz=>nomatch z) d
 |str x=>let#[t,q]:=(show∃t,u=Γ.str x t from f);cases q;exact J8 W.kitx_str I.kIn P5 e (λz=>nomatch z) d
 |non=>cases(show u=Γ.none from f);exact J8 W.kitx_none I.kIn P5 e (λz=>nomatch z) d
 | @lst a ys ea=>
  cases(show u=Γ.ref a from f)
  let#[_,_,n,_,h1]:=(show ML X.prog X.w H s.heap a (.lst ys)from I.hok a _ ea)
  exact J8 TQ I.kIn #[_,h1,Z] e (λz=>nomatch z) d
theorem ox:∀{a:List String} {us:Ζ},HS (a.map V.ty) us->us=a.map Γ.type
 | [],_,.nil=>rfl
 |c::a,_,.cons r t=>by
  cases(show _=Γ.type c from r)
  rw[ox t];rfl
def ZG:zj X (.builtin "isinstance") (λxs H Q=>∃(x:V) (p:Δ) (j:List String) (t:String),xs=[x,-p]/\H p=↑(.tup (j.map V.ty))/\PQ H x t/\(∀c∈j,c∈iE)/\Q (.bl (j.any (zz t))) H):=by
 intro R0 s σ H xs J Q I r h;let#[x,p,j,t,rfl,C,ty,G,q]:=h;let#[u,v,rfl,l,B]:=gt r
 cases(show v=Γ.ref p from B)
 let#[w,y,#[#[D,L,E,K],m,g,n,f],_]:=I.tuple (HX.of C)
 replace g:D= .type "tuple":=g
 replace f:E= .seq w.toArray n:=f
 subst g f;have e:=rP X.K (sO ty) j G;rw[<- ox y]at e;have d:∀tk,EP X R0 σ Q (.bool (j.any (zz t))) {s with toks:=tk}:=λtk=>#[.bl _,H,I.tok tk,Z,q]
 cases ty with
 |int i=>let#[t,q]:=(show∃t,u=Γ.int i t from l);cases q;exact LH W.kitx_int I.kIn P5 m e (λz=>nomatch z) d
 |bl b=>cases(show u=Γ.bool b from l);exact LH W.kitx_bool I.kIn P5 m e (λz=>nomatch z) d
 | @tup a ys hr=>
  cases(show u=Γ.ref a from l)
  let#[A,_,#[o,h1,F,_],_]:=I.tuple (.inl hr)
  exact LH W.kitx_tuple I.kIn #[o,h1,F] m e (λz=>nomatch z) d
 |str x=>let#[t,q]:=(show∃t,u=Γ.str x t from l);cases q;exact LH W.kitx_str I.kIn P5 m e (λz=>nomatch z) d
 |non=>cases(show u=Γ.none from l);exact LH W.kitx_none I.kIn P5 m e (λz=>nomatch z) d
 | @lst a ys ea=>
  cases(show u=Γ.ref a from l)
  let#[_,_,n,_,h1]:=(show ML X.prog X.w H s.heap a (.lst ys)from I.hok a _ ea)
  exact LH TQ I.kIn #[_,h1,Z] m e (λz=>nomatch z) d
def zI(t:Β):Β:=(Ag 16).map λd=>((t.idxOf ((d:Nat):Int):Nat):Int)
def bR(t:Β):(zI t).length=16:=by simp [zI]
section
variable{t:Β}(p:t.Perm Nf)
include p
theorem vG:t.Nodup:=p.nodup_iff.mpr ⋯
theorem sY:t.length=16:=by rw[p.length_eq,oN]
theorem CY{d:Nat}(h:d<16):((d:Nat):Int)∈t:=p.mem_iff.mpr (JC.mpr #[d,JT.mpr h,Z])
theorem oB{i:Nat}(h:i<t.length):0<=t[i]/\t[i]<16:=pP (p.mem_iff.mp (IH h))
theorem yh{i:Nat}(h:i<t.length):t.idxOf t[i]=i:=(vG p).idxOf_getElem i h
theorem CP{d:Nat}(h:d<16):(zI t)[d]'(by rw[bR];exact h)=((t.idxOf ((d:Nat):Int):Nat):Int):=by simp [zI]
end
end L3
namespace L3
open PySem PySem.Spec L2
def Qg:O9 X a vR:=#[vX]
def BN{a:Φ}{p:Pos}{x1}(hg:Gl X "enumerate")(hm:X.mg "enumerate"=none)(ha:QA X [a] ta)(hs:θ [a] X.env=[(false,eval a X.env)]:=by rfl):QI X (.Tuple c x1 d) (.Call (.Name "enumerate" p) [a] [] pos) (wm X.K ta):=#[Bf (hg:=hg) (hm:=hm) (ha:=ha.h) (hs:=hs)]
def DX{a b:Φ}{p:Pos}{x1}(hg:Gl X "zip")(hm:X.mg "zip"=none)(ha:QA X [a,b] ta)(h1:Qj a=true:=by rfl)(h2:Qj b=true:=by rfl):QI X (.Tuple c x1 d) (.Call (.Name "zip" p) [a,b] [] pos) (Fq ta):=#[Fi (hg:=hg) (hm:=hm) (ha:=ha.h) (h1:=h1) (h2:=h2)]
def MZ(H:Hp)(b:Δ)(c:Nat):Prop:=∃n m k:Int,H b=↑(ui n m k)/\0<=m/\m<4611686018427387904/\0<=k/\k<=c
structure NM(b:Δ)(c:Nat)(H H':Hp):Prop where
 kp:∀a o,a≠b->H a=↑o->H' a=↑o
 bx:MZ H' b c
def MZ.mono{b:Δ}{d:Nat}(h:MZ H b c)(l:c<=d):MZ H b d:=by
 let#[n,m,k,e,f,a,g,i]:=h
 exact#[n,m,k,e,f,a,g,by lia]
theorem NM.mono{b:Δ}{d:Nat}(h:NM b c H H')(l:c<=d):NM b d H H':=#[h.kp,h.bx.mono l]
def NM.refl{b:Δ}(h:MZ H b c):NM b c H H:=#[λ_ _ _ e=>e,h]
def NM.trans{b:Δ}(x:NM b c H H1)(y:NM b d H1 a):NM b d H a:=#[λc o n e=>y.kp c o n (x.kp c o n e),y.bx]
def _root_.L2.HJ.grc{b:Δ}(x:HJ H H')(h:MZ H b c):NM b c H H':=#[λc o _ e=>x c o e,let⟨n,m,k,e,r⟩:=h;#[n,m,k,x _ _ e,r]]
def NM.same{b:Δ}(x:NM b c H H1)(y:HJ H1 a):NM b c H a:=x.trans (y.grc x.bx)
def zJ{b:Δ}(hb:MZ H b c)(h:H l=none):l≠b:=λz=>by
 let#[_,_,_,e,_]:=hb;subst z;rw[e]at h;cases h
inductive wL(K:ι)|mk (a:Δ)(ns:Β)(k:Nat)(h1:vs=[-a,.int k])(h2:HQ K H a (ns.map V.int))(h3:∀b H',H b=none->HJ H H'->MZ H' b 0->Q (-b) H')
inductive Zf|mk (b:Δ)(many:Int)(c:Nat)(h1:vs=[-b,.int many])(h2:MZ H b c)(h3:c<1000000000)(h4:0<many)(h5:many<1073741824)(h6:∀r H',0<=r->r<many->NM b (c+1) H H'->Q (.int r) H')
def QR{H':Hp}(h:H' p=none)(s:HJ H H'):H p=none:=by
 cases e:H p with
 |none=>rfl
 |some o=>rw[s _ _ e]at h;cases h
def ip:V->Bool
 | .int _=>true
 |_=>false
def C9{t:String}(h:kd H x=↑t):ip x=(zz t "int"&& ! zz t "bool"):=by
 cases x with
 |non=>cases h;decide
 |bl b=>cases h;show false=_;decide
 |int i=>cases h;show true=_;decide
 |str x=>cases h;show false=_;decide
 |byt b=>cases h
 |flt b=>cases h
 |ty b=>cases h
 |ref a=>
  rcases jc h with⟨xs,e,rfl⟩|⟨xs,e,rfl⟩
  .show false=_;decide
  .show false=_;decide
def AZ(h:ip x=true):∃i,x= .int i:=by
 cases x<;>first|exact#[0]|cases h
def xt(h:ip x=false):c5 x=false:=by
 cases x<;>first|rfl|cases h
inductive ij|mk (x:_)(t:_)(h1:vs=[x])(h2:kd H x=↑t)(h3:Q (.bl (ip x)) H)
def HJ.sqt{K:ι}(e:HJ H H')(h:HX K H a xs):HX K H' a xs:=by
 rcases h with h|h
 .exact .inl (Rd.same e h)
 .exact .inr h
noncomputable def Zi(t:Β)(i:Nat):Β:=(Ag 16).map λd=>if((d:Nat):Int)∈t.take i then((t.idxOf ((d:Nat):Int):Nat):Int)else 0
def cK(t:Β)(i:Nat):(Zi t i).length=16:=by simp [Zi]
def Al(t:Β):Zi t 0=Dj 16 0:=by simp only[Zi,List.take_zero,Jt,JH];rfl
def ww{d:Nat}(h:d<16):(Zi t i)[d]'(by rw[cK];exact h)=if((d:Nat):Int)∈t.take i then((t.idxOf ((d:Nat):Int):Nat):Int)else 0:=by simp [Zi]
def CT{t:Β}(p:t.Perm Nf):Zi t t.length=zI t:=by
 unfold Zi zI;refine Lr λd a=>?_
 rw[Ip,Jc (CY p (JT.mp a))]
def AV{t:Β}(p:t.Perm Nf){i:Nat}(hi:i<t.length):(Zi t i).set t[i].toNat (i:Int)=Zi t (i+1):=by
 have b:=oB p hi;refine KD (by rw[Lg,cK,cK]) λd h1 c=>?_
 have a:d<16:=by rw[cK]at c;exact c
 rw[List.getElem_set,ww a,ww a,Ie,Jh hi,OV]
 by_cases e:t[i].toNat=d
 .have e':((d:Nat):Int)=t[i]:=by lia
  rw[Jc e,Jc (by rw[e'];exact JQ _ (Ji.mpr Z)),e',yh p hi]
 .have e':((d:Nat):Int)≠t[i]:=by lia
  rw[Jb e];simp only[JP,Ji,e',Ju]
inductive wg(K:ι)|mk (a:Δ)(t:Β)(h1:vs=[-a])(h2:(HQ K H a (t.map V.int)\/HX K H a (t.map V.int)))(h3:t.Perm Nf)(h4:∀p H',HJ H H'->H' p=↑(.tup ((zI t).map V.int))->Q (-p) H')
def jM{X:Cx}{K:ι}(a:X.K=K){k:Nat}(n:Nat)(hc:X.calm=true)(h:Rk X es t)(hn:(assignEach es X.env).length=n:=by rfl)(hst:(assignEach es X.env).findIdx? (·.1)=none:=by rfl):QG X (.Tuple es k pos) (pI K n t):=by
 subst a
 exact#[nZ (hc:=hc) (h:=h.h) (hn:=hn) (hst:=hst)]
open PyProof.Rows
open Sem (wp)
namespace RV
def vE:Slot "reversed" "__init__" "object.__init__":=
  .of (owner := "object") (n := "__init__") (by rw[LI,LJ];kernel_rfl) nofun nofun nofun
    (by first | exact .inl nofun | exact .inr nofun) (by rw[Li];kernel_rfl)
def called:TypeCalled "reversed" "reversed.__new__" "object.__init__":=
 #[nofun,nofun,#[15,F.mro_reversed],F.made_reversed,nofun,F.sub_reversed_self,vE]
def slot_next:Slot "reversed" "__next__" "reversed.__next__":=
  .of (owner := "reversed") (n := "__next__") (by rw[LI,LJ];kernel_rfl) nofun nofun nofun
    (by first | exact .inl nofun | exact .inr nofun) (by rw[Li];kernel_rfl)
def entry_next:entryFor table "reversed.__next__"=some γ.«reversed.__next__»:=entryFor_of_tree (by kernel_rfl)
def kM:Manifest.owners.lookup (String.ofList ['d', 'e', 's', 'r', 'e', 'v', 'e', 'r'].reverse)=↑Manifest.sig_reversed:=by kernel_rfl
def args_next(a:Γ):argsOk "reversed.__next__" #[[a],[]]:=by
 unfold argsOk;rw[signature?_of (id:="reversed.__next__") (n:=['_', '_', 't', 'x', 'e', 'n', '_', '_']) (o:=['d', 'e', 's', 'r', 'e', 'v', 'e', 'r']) (by kernel_rfl) kM]
 kernel_rfl
def slot_iter:Slot "reversed" "__iter__" "reversed.__iter__":=
  .of (owner := "reversed") (n := "__iter__") (by rw[LI,LJ];kernel_rfl) nofun nofun nofun
    (by first | exact .inl nofun | exact .inr nofun) (by rw[Li];kernel_rfl)
def args_iter(a:Γ):argsOk "reversed.__iter__" #[[a],[]]:=by
 unfold argsOk;rw[signature?_of (id:="reversed.__iter__") (n:=['_', '_', 'r', 'e', 't', 'i', '_', '_']) (o:=['d', 'e', 's', 'r', 'e', 'v', 'e', 'r']) (by kernel_rfl) kM]
 kernel_rfl
def entry_iter:entryFor table "reversed.__iter__"=some γ.«dict_keyiterator.__iter__»:=
  entryFor_alias (id':="dict_keyiterator.__iter__") (by kernel_rfl)
    (by first | rfl | decide +kernel | (unfold String.splitOn
                                        simp +decide [String.splitOnAux])) nofun (by kernel_rfl)
def no_tuple:typeLookup (.type "tuple") "__reversed__"=pure none:=by
 rw[LI,LJ]
 kernel_rfl
def tup_dict:isSubtype (.type "tuple") (.type "dict")=pure false:=by
 rw[Li]
 kernel_rfl
def ri_rev:isSubtype (.type "range_iterator") (.type "reversed")=pure false:=by
 rw[Li]
 kernel_rfl
def tc1(a:Γ):checkTypeCall "reversed" #[[a],[]]=pure ():=by kernel_rfl
end RV
def NV(h:Ψ)(it t:Δ)(i:Int):Prop:=∃o,h.get? it=↑o/\o.cls= .type "reversed"/\o.data= .fields (AA [-t,rawInt i])
def uM(l:Δ)(items:Array Γ)(hz:items.size<=ζ):
  Meets (γ.«reversed.__new__» #[[.type "reversed",-l],[]]) (λA R s=>s.heap.IsTuple l items/\
   R (.ok (.ret (-s.heap.objs.size))) {s with heap:=s.heap.push {cls:= .type "reversed",data:= .fields (AA [-l,rawInt ((items.size:Int)-1)])},toks:=s.toks+2}):=
 .of_wp λprog w A R s h=>by
  let#[a,g,d,tk,f]:=s;let#[i,h]:=h
  have m:=F.sub_reversed_self;have j:Θ.TypeIs #[a,g,d,tk,f] (-l) "tuple":=let⟨o,e,c,_⟩:=i;#[o,e,c]
  have r:Ψ.IsTuple (Θ.heap #[a,g,d,tk,f]) l items:=i
  have n:=RV.tup_dict;have p:IsTup (Θ.heap #[a,g,d,tk,f]) l items:=i
  have q:=af
  wp_walk using Ls j RV.no_tuple,Iy n,Ls j F.slot_tuple_getitem.lookup,len_tuple p (by omega)
  exact#[0,h]
noncomputable abbrev B2(a b c:Int):Bool:=γ.Range.rangeFitsLong a&&γ.Range.rangeFitsLong b&&γ.Range.rangeFitsLong c&&γ.Range.rangeFitsLong (Neg.neg c)&&γ.Range.rangeFitsLong (a-c)&&γ.Range.rangeFitsLong (γ.Range.rangeSize a b c)
def pR(r:Δ)(a b c:Int)(t u v:Tok)(e:¬(! B2 a b c)=true):
  Meets (γ.«range.__reversed__» #[[-r],[]]) (λ_ R s=>s.heap.get? r=some {cls:= .type "range",dict:=none,data:= .fields (AA [.int a t,.int b u,.int c v]),slots:= (AA [])}/\
   R (.ok (.ret (-s.heap.objs.size))) {s with heap:=s.heap.push {cls:= .type (if B2 a b c then "range_iterator" else "longrange_iterator"),data:= .fields (AA [rawInt (a+(γ.Range.rangeSize a b c-1)*c),rawInt (γ.Range.rangeSize a b c),rawInt (Neg.neg c)])}}):=
 .of_wp λprog w A R s h=>by let#[f,g,d,tk,i]:=s;let#[j,h]:=h;wp_walk;exact#[0,h]
def wv(n:Nat):γ.Range.rangeSize 0 n 1=n:=by
 unfold γ.Range.rangeSize;rw[Jc ⋯]
 split<;>lia
def vN{n:Nat}(hn:(n:Int)<2 ^ 62):B2 0 n 1=true:=by
 unfold B2;rw[wv];simp only[γ.Range.rangeFitsLong,JF,decide_eq_true_eq];lia
def tY(r:Δ)(n:Nat)(t u v:Tok)(hn:(n:Int)<2 ^ 62):
  Meets (γ.«range.__reversed__» #[[-r],[]]) (λ_ R s=>s.heap.get? r=some {cls:= .type "range",data:= .fields (AA [.int 0 t,.int n u,.int 1 v])}/\
   R (.ok (.ret (-s.heap.objs.size))) {s with heap:=s.heap.push {cls:= .type "range_iterator",data:= .fields (AA [rawInt ((n:Int)-1),rawInt n,rawInt (-1)])}}):=by
 have g:=pR r 0 n 1 t u v (by rw[vN hn];decide)
 rw[vN hn,wv,Jc Z,Int.mul_one,Kc]at g;exact g
section
variable{s:Θ}
def NV.typeIs(x:NV s.heap it t i):s.TypeIs (-it) "reversed":=by
 let#[o,a,c,_]:=x
 exact#[o,a,c]
def rG{i:Nat}{x:Γ}{Q:Ν->Θ->Prop}(d:NV s.heap it t (i:Int))(hl:IsTup s.heap t items)(hx:items[i]? =↑x)(hz:items.size<=ζ)
  (m:∀h' tk,NV h' it t ((i:Int)-1)->Ψ.SameBut it s.heap h'->Q ↑x {s with heap:=h',toks:=tk}):ε (model prog w) A (pyNext (-it)) Q E s:=by
 let#[o,g,j,f]:=id d;have l:s.TypeIs (-t) "tuple":=let⟨o,e,c,_⟩:=hl;#[o,e,c]
 have p:=af;have h:i<items.size:=(Array.getElem?_eq_some_iff.mp hx).1
 unfold pyNext;refine Ja (IQ (wpAny_callSpecial?_slot (name:=RS "__next__") (NV.typeIs d) RV.slot_next
  (JY RV.slot_next (NV.typeIs d) RV.entry_next ?_ (RV.args_next _))))
 unfold γ.«reversed.__next__»
 refine Ja (Iy (a:=(Γ.ref it,[])) Z ?_)
 try dsimp only
 refine Ja (JX g f (x:= .ref t) Z ?_)
 refine Ja (JX g f (x:=rawInt (i:Int)) Z ?_)
 show ε _ _ (if(i:Int)<0 then _ else _) _ _ s
 rw[Jb (by lia)]
 try dsimp only
 refine Ja (Ls l F.slot_tuple_getitem.lookup ?_)
 rw[Jb (show¬((↑(Γ.builtin "tuple.__getitem__")).isNone=true)from JK)]
 refine Ja (wpAny_mkInt ?_)
 have n:IsTup (Θ.heap {s with toks:=s.toks+1}) t items:=hl
 refine Ja (IQ (getItem_tuple n (by lia) (by lia) (by unfold seqIndex?;rw[Jb (show¬((i:Int)<0) by lia)];simp [h]) hx ?_))
 try dsimp only
 refine Ja (JX (s:={s with toks:=s.toks+1}) g f (x:=rawInt (i:Int)) Z ?_)
 show ε _ _ (setField (-it) 1 (rawInt ((i:Int)-1)) >>= _) _ _ _
 refine Ja (II (s:={s with toks:=s.toks+1}) g f (by simp) ?_)
 refine Jd #[x,Z,Jd (m _ _ ?_ (G6 ..))]
 exact#[_,Lf _ g (L9 (Lq f _)),(Obj.cls_mapFields ..).trans j,by
  rw[Lq f];simp]
def uS{Q:Ν->Θ->Prop}(g:A.handled=none)(c:NV s.heap it t (-1))
  (h:∀h',Ψ.ExtBut it s.heap h'->Q none {s with heap:=h'}):ε (model prog w) A (pyNext (-it)) Q E s:=by
 let#[o,e,i,d]:=id c;unfold pyNext;refine Ja (IQ (wpAny_callSpecial?_slot (name:=RS "__next__") (NV.typeIs c) RV.slot_next
  (JY RV.slot_next (NV.typeIs c) RV.entry_next ?_ (RV.args_next _))))
 unfold γ.«reversed.__next__»
 refine Ja (Iy (a:=(Γ.ref it,[])) Z ?_)
 try dsimp only
 refine Ja (JX e d (x:= .ref t) Z ?_)
 refine Ja (JX e d (x:=rawInt (-1)) Z ?_)
 show ε _ _ (if(-1:Int)<0 then _ else _) _ _ s
 rw[Jc ⋯]
 refine Ja (Ih ?_)
 refine Ja ?_
 show ε _ _ (setField (-it) 1 (rawInt (-1)) >>= _) _ _ _
 refine Ja (II e d (by simp) ?_)
 have f:=Lf (TC (·.setIfInBounds 1 (rawInt (-1)))) e (L9 (Lq d _))
 refine II f (Lq d _) (by simp) ?_
 refine Ja ?_
 show ε _ _ (newExc (.type "StopIteration") [] >>= _) _ _ _
 refine Ja ?_
 simp only[newExc,newTuple];refine Ja (J6 ?_ (by size_fits))
 refine Ja (m:=firstArgMember _ _) (Iy (a:=Γ.none) (by first|rfl|(simp only[firstArgMember];rfl)) ?_)
 refine J6 ?_ (by size_fits)
 simp only[raiseNew];refine Ja (wpAny_handled ?_)
 first|rw[show A.in1.handled=none from g]|rw[g]
 refine Ja (Jd (wpAny_throw ?_))
 refine Ja (IX (T:="StopIteration") (b:=true) #[_,Jp _ Z,Z] LU ?_)
 exact Jd (h _ (((((G6 ..).trans (G6 ..)).extBut).push _).push _))
def xc{Q:HG}(a:NV s.heap it t i)(h:Q (-it) s):ε (model prog w) A (pyIter (-it)) Q E s:=by
 refine wpAny_pyIter_slot (NV.typeIs a) RV.slot_iter (JY RV.slot_iter (NV.typeIs a) RV.entry_iter ?_ (RV.args_iter _))
 show ε _ _ (ret (-it)) _ _ s
 exact Jd #[0,"reversed",_,NV.typeIs a,RV.slot_next.lookup,h]
def FC{Q:HG}(hl:s.heap.IsTuple l items)(hz:items.size<=ζ)
  (h:∀h' tk,NV h' s.heap.objs.size l ((items.size:Int)-1)->(∀b o,s.heap.get? b=↑o->h'.get? b=↑o)->Q (-s.heap.objs.size) {s with heap:=h',toks:=tk}):
  ε (model prog w) A (call (.type "reversed") [-l]) Q E s:=by
 refine callType_new RV.called ⋯ (RV.tc1 _) (F.newCall_reversed_1 _) (λa=>F.args_object_init_2 a _) F.entry_reversed_new (uM l items hz) #[hl,?_]
 exact#[#[_,Jp _ Z,Z],h _ _ #[_,Jp _ Z,9] λb o e=>Jk _ e]
def Ep{r:Δ}{n:Nat}{Q:HG}(hr:s.heap.get? r=some {cls:= .type "range",data:= .fields (AA [.int 0 t,.int n u,.int 1 v])})(hn:(n:Int)<2 ^ 62)
    (h:∀h',IsRangeIter h' s.heap.objs.size ((n:Int)-1) n (-1)->(∀b o,s.heap.get? b=↑o->h'.get? b=↑o)->Q (-s.heap.objs.size) {s with heap:=h'}):
    ε (model prog w) A (call (.type "reversed") [-r]) Q E s:=by
  have f:s.TypeIs (-r) "range":=#[_,hr,Z]
  refine callType_other (U:="range_iterator") (Q₁:=λd c=>d= .ref s.heap.objs.size/\∃h',c={s with heap:=h'}/\IsRangeIter h' s.heap.objs.size ((n:Int)-1) n (-1)/\∀b o,s.heap.get? b=↑o->h'.get? b=↑o) nofun F.create_reversed #[15,F.mro_reversed] F.made_reversed RV.ri_rev (RV.tc1 _) ?_ ?_
  · refine codeAny_of_tree ?_
    show ε _ A.in1.in1 (do checkBuiltinCall "reversed.__new__" #[[.type "reversed",-r],[]];again (.builtin "reversed.__new__" #[[.type "reversed",-r],[]])) _ _ s
    refine Ja (Iy (F.newCall_reversed_1 _) (Jd #[plainId_quiet F.plain_reversed_new _,I0 F.entry_reversed_new ?_]))
    rw[R3 F.plain_reversed_new _];unfold γ.«reversed.__new__»
    refine Ja (Iy (newClass_reversed _) ?_)
    try dsimp only
    refine Ja (Iy (a:=()) (by first|rfl|kernel_rfl) ?_)
    refine Ja (Iy (a:=()) (by first|rfl|kernel_rfl) ?_)
    try dsimp only
    refine Ja (Ls f F.slot_range_reversed.lookup ?_)
    try dsimp only
    refine Ja (Iy (F.slot_range_reversed.bind _) ?_)
    try dsimp only
    first
    |rw[Jb (show¬((Γ.builtin "range.__reversed__"==Γ.none)=true)from JK)]
    | (show ε _ _ (if(Γ.builtin "range.__reversed__"==Γ.none)=true then _ else _) _ _ _
       rw[Jb (show¬((Γ.builtin "range.__reversed__"==Γ.none)=true)from JK)])
    refine Ja (Ih ?_)
    refine Ja (m:=runValue (.call (.builtin "range.__reversed__") ⟨[-r],[]⟩)) (show ε _ _ (call (.builtin "range.__reversed__") [-r]) _ _ _ from
      Lo F.slot_range_reversed f F.entry_range_reversed (F.args_range_reversed_1 _) (tY r n t u v hn) ⟨hr,?_⟩)
    first
    |exact Jd ⟨rfl,_,rfl,Jp _ rfl,λb o e=>Jk _ e⟩
    |exact Ja (Jd (Jd ⟨rfl,_,rfl,Jp _ rfl,λb o e=>Jk _ e⟩))
  · rintro d c ⟨rfl,h',rfl,hi,hk⟩
    exact⟨⟨_,hi,rfl⟩,h h' hi hk⟩
end
noncomputable def t9(K:ι)(a:Δ)(n:Nat):It:=
 ⟨λi H=>i<n/\∃xs,HQ K H a xs/\xs.length=n,λi H x H'=>H'=H/\∀xs,HQ K H a xs->xs[n-1-i]? =↑x,λi _=>n<=i⟩
noncomputable def uD(K:ι)(a:Δ)(n:Nat):It:=
 ⟨λi H=>i<n/\∃xs,HX K H a xs/\xs.length=n,λi H x H'=>H'=H/\∀xs,HX K H a xs->xs[n-1-i]? =↑x,λi _=>n<=i⟩
noncomputable def vb(n:Nat):It:=⟨λi _=>i<n,λi H x H'=>H'=H/\x= .int ((n:Int)-1-i),λi _=>n<=i⟩
def tQ{K:ι}(a it:Δ)(n:Nat):N5 P w K tg (t9 K a n) [it] it (λi h=>i<=n/\h.IsRevIter it a ((n:Int)-1-i)) where
 mem:=by simp
 obj:=λi h st b g=>by
  have e:b=it:=by simpa using g
  subst e;let#[_,o,e,c,d]:=st
  exact#[o,e,λv z=>by rw[d]at z;cases z]
 keep:=λi h h' st k=>#[st.1,st.2.at λo e=>k it (by simp) o e]
 item:=by
  intro X A B C G i R0 s σ H E I m st y;subst A B C;let#[hi,xs,F,N]:=y;let#[R,L,p,Y]:=I.list F;have j:n-1-i<xs.length:=N.symm▸Gi hi
  let#[u,W,S]:=L.get (Jh j)
  let#[r,f1,f2,q,t,D]:=m it (by simp)
  have T:=E9 hi;have f:=st.2;rw[T]at f;refine wpAny_pyNext_rev_item f p.isList (x:=u) (by simpa using W) λh' l U=>?_
  have J:L2.HN X R0 σ H {s with heap:=h'}:=I.turned (t':=s.toks) (λb o g e=>(U.2 b g).trans e) r f1 q t D
  let#[o,e,c,d]:=id l;refine#[u,Z,dz (s:={s with heap:=h'}) e c d ⋯ #[_,H,J,S,#[Z,λys O=>by rw[I.list_inj O F];exact Jh j],#[by lia,?_],λb g=>(m b g).1]]
  have Q:=Cc hi;rw[<- Q];exact l
 done:=by
  intro X A B C G i R0 s σ H E I m st y;subst A B C;let#[r,f1,f2,q,t,D]:=m it (by simp)
  have hi:i=n:=OW st.1 y
  have f:=st.2;rw[show(n:Int)-1-i= -1 by lia]at f
  exact wpAny_pyNext_rev_end (I.ok.hd G) f λh' M=>#[Z,I.turned (t':=s.toks) (λb o g e=>M b o g e) r f1 q t D]
 self:=λ_ _ _ _ _ st h=>wpAny_pyIter_revIter st.2 h
def xk{K:ι}(a it:Δ)(n:Nat):N5 P w K tg (uD K a n) [it] it (λi h=>i<=n/\NV h it a ((n:Int)-1-i)) where
 mem:=by simp
 obj:=λi h st b g=>by
  have e:b=it:=by simpa using g
  subst e;let#[_,o,e,c,d]:=st
  exact#[o,e,λv z=>by rw[d]at z;cases z]
 keep:=λi h h' st k=>#[st.1,let⟨o,e,r⟩:=st.2;#[o,k it (by simp) o e,r]]
 item:=by
  intro X B C D M i R0 s σ H E I m st A;subst B C D;let#[hi,xs,G,Q]:=A;let#[T,J,p,hz]:=I.tuple G;have L:=J.length;have j:n-1-i<xs.length:=Q.symm▸Gi hi
  let#[u,hu,U]:=J.get (Jh j)
  let#[t,f1,f2,q,y,F]:=m it (by simp)
  have W:=E9 hi;have f:=st.2;rw[W]at f;refine rG f p (x:=u) (by simpa using hu) (by simp;lia) λh' tk l Y=>?_
  have N:L2.HN X R0 σ H {s with heap:=h',toks:=tk}:=I.turned (t':=tk) (λb o g e=>(Y.2 b g).trans e) t f1 q y F
  let#[o,e,c,d]:=id l;refine#[u,Z,dz (s:={s with heap:=h',toks:=tk}) e c d ⋯ #[_,H,N,U,#[Z,λys R=>by rw[I.tuple_inj R G];exact Jh j],#[by lia,?_],λb g=>(m b g).1]]
  have S:=Cc hi;rw[<- S];exact l
 done:=by
  intro X B C D M i R0 s σ H E I m st A;subst B C D;let#[t,f1,f2,q,y,F]:=m it (by simp)
  have hi:i=n:=OW st.1 A
  have f:=st.2;rw[show(n:Int)-1-i= -1 by lia]at f
  exact uS (I.ok.hd M) f λh' O=>#[Z,I.turned (t':=s.toks) (λb o g e=>O b o g e) t f1 q y F]
 self:=λ_ _ _ _ _ st h=>xc st.2 h
def xj{K:ι}(it:Δ)(n:Nat):N5 P w K tg (vb n) [it] it (λi h=>IsRangeIter h it ((n:Int)-1+(i:Nat)*(-1)) ((n:Int)-(i:Nat)) (-1)) where
 mem:=by simp
 obj:=λi h st b a=>by
  have e:b=it:=by simpa using a
  subst e
  exact#[_,st,λv z=>by
   have y:Sf _=SJ v:=z
   cases y]
 keep:=λi h h' st k=>k it (by simp) _ st
 item:=by
  intro X r l m p i R0 s σ H E I d st j;subst r l m;let#[g,f1,f2,f,u,q]:=d it (by simp)
  have W:=Walks.range (prog:=X.prog) (w:=X.w) (I.ok.hd p) it ((n:Int)-1) (-1) n
  refine W.item i s _ _ j st λv h' tk A c B=>?_
  let#[t,rfl]:=A;have x:L2.HN X R0 σ H {s with heap:=h',toks:=tk}:=I.turned (λb o a e=>B b o (by simpa using a) e) g f1 f u q
  refine#[0,dz (s:={s with heap:=h',toks:=tk}) (n:="range_iterator") c Z Z ⋯ #[.int ((n:Int)-1-i),H,x,#[t,?_],#[9],c,λb a=>(d b a).1]]
  rw[show(n:Int)-1+(i:Nat)*(-1)=(n:Int)-1-i by lia]
 done:=by
  intro X r l m p i R0 s σ H E I d st j;subst r l m;let#[g,f1,f2,f,u,q]:=d it (by simp)
  exact wpAny_pyNext_range_end (I.ok.hd p) st (by have:n<=i:=j;lia) λh' C=>#[Z,I.turned (t':=s.toks) (λb o a e=>C b o a e) g f1 f u q]
 self:=λ_ _ _ _ _ st h=>Mq st h
section
variable{K:ι}
def Bo:bootBuiltins "reversed"=↑(.type "reversed"):=by kernel_rfl
noncomputable def Fy(K:ι)(ta:TA):TI:=λσ H R=>ta σ H λvs H1=>∃a,vs=[-a]/\((∃xs,HQ K H1 a xs/\R (t9 K a xs.length) H1)\/(∃xs,HX K H1 a xs/\R (uD K a xs.length) H1)\/∃n:Nat,H1 a=↑(.rng 0 n)/\(n:Int)<2 ^ 62/\R (vb n) H1)
def E7{a:Φ}{p:Pos}(hg:Gl X "reversed")(hm:X.mg "reversed"=none)(ha:PA X [a] ta)(hn:Qj a=true:=by rfl):
  PI X tg (.Call (.Name "reversed" p) [a] [] pos) (Fy X.K ta):=by
 intro R0 s σ H R I h;refine Call_ (Zp I hg hm Bo (Le (qz (ha pos R0 s σ H _ I h) λD d B=>?_) (ZB hn) Z))
 let#[vs,H1,g,A,r]:=B;let#[l,e,r]:=r;subst e;let#[u,rfl,z]:=A.one;cases z;have i:∀b∈[d.heap.objs.size],Zk X R0 H1 b:=λb y=>by
  rw[Ji.mp y];exact g.fpOk (Jf _) (g.hok.fresh (Jf _))
 rcases r with⟨xs,m,q⟩|⟨xs,m,q⟩|⟨n,m,j,q⟩
 .let#[c,w,pl,C]:=g.list m
  have f:=w.length;refine call_reversed_list pl.isList ?_
  have hi:(d.heap.push (revObj l ((c.toArray.size:Int)-1))).IsRevIter d.heap.objs.size l ((c.toArray.size:Int)-1):=#[_,Jp _ Z,9]
  refine wpAny_pyIter_revIter hi ?_
  refine#[d.heap.objs.size,[d.heap.objs.size],15,H1,Z,g.kept (t':=d.toks) λb o e=>Jk _ e,tQ l _ xs.length,#[JB _,?_],i,q]
  rw[show(xs.length:Int)-1-((0:Nat):Int)=(c.toArray.size:Int)-1 by simp [f]]
  exact hi
 .let#[c,w,pl,C]:=g.tuple m
  have f:=w.length;refine FC (show d.heap.IsTuple l c.toArray from pl) (by simp;lia) λh' tk hi hk=>xc hi ?_
  refine#[d.heap.objs.size,[d.heap.objs.size],15,H1,Z,g.kept (t':=tk) hk,xk l _ xs.length,#[JB _,?_],i,q]
  rw[show(xs.length:Int)-1-((0:Nat):Int)=(c.toArray.size:Int)-1 by simp [f]]
  exact hi
 .let#[t,u,v,x]:=g.hok l _ m
  refine Ep x j λh' hi hk=>Mq hi ?_
  refine#[d.heap.objs.size,[d.heap.objs.size],15,H1,Z,g.kept (t':=d.toks) hk,xj _ n,?_,i,q]
  show IsRangeIter _ _ _ _ _
  rw[show(n:Int)-1+((0:Nat):Int)*(-1)=(n:Int)-1 by lia,show(n:Int)-((0:Nat):Int)=n by lia]
  exact hi
noncomputable def Bq(K:ι)(tl:TE):TI:=λσ H R=>tl σ H λx H1=>∃a,x= .ref a/\((∃xs,HQ K H1 a xs)/\R (fV K a) H1\/(∃xs,HX K H1 a xs)/\R (lc K a) H1)
def EB(hl:PE X l tl):PI X tg l (Bq X.K tl):=by
 intro R0 s σ H R I h;refine qz (hl R0 s σ H _ I h) λv c m=>?_
 let#[x,H1,d,r,j]:=m;let#[a,e,j]:=j;subst e;cases r;have g:∀b∈[c.heap.objs.size],Zk X R0 H1 b:=λb t=>by
  rw[Ji.mp t];exact d.fpOk (Jf _) (d.hok.fresh (Jf _))
 rcases j with⟨⟨xs,i⟩,q⟩|⟨⟨xs,i⟩,q⟩
 .let#[f,u,p,n]:=d.list i
  refine LA p.isList ?_
  exact#[c.heap.objs.size,[c.heap.objs.size],15,H1,Z,d.kept (t':=c.toks) λb o e=>Jk _ e,kH a _,#[_,Jp _ Z,9],g,q]
 .let#[f,u,p,n]:=d.tuple i
  refine Ld (show c.heap.IsTuple a f.toArray from p) ?_
  exact#[c.heap.objs.size,[c.heap.objs.size],15,H1,Z,d.kept (t':=c.toks) λb o e=>Jk _ e,jg a _,#[_,Jp _ Z,9],g,q]
abbrev aa(J:It)(g:TG)(tb:TS)(D:Ng)(σ:L2.St)(H:Hp):Prop:=∃W:Nat->Nat->L2.St->Hp->Prop,(∃m,W 0 m σ H)/\∀i m σ H,W i m σ H->
      (J.stop i H/\D.nx σ H)\/(J.go i H/\∃N:L2.St->Hp->Prop,(∀σ' H',N σ' H'->∃m',m'<m/\W (i+1) m' σ' H')/\∀x H',J.yld i H x H'->g x σ H' λσ2 H2=>tb {D with nx:=N,ct:=N,bk:=D.nx} σ2 H2)
def gI{J:It}{n:Nat}(Pv:Nat->L2.St->Hp->Prop)(f:Pv 0 σ H)(c:∀i σ H,i<n->Pv i σ H->J.go i H)(hst:∀H,J.stop n H)
  (hs:∀i x σ H H',i<n->Pv i σ H->J.yld i H x H'->g x σ H' λd j=>tb {D with nx:=Pv (i+1),ct:=Pv (i+1),bk:=D.nx} d j)(hd:∀σ H,Pv n σ H->D.nx σ H):aa J g tb D σ H:=by
 exists λi m σ H=>m=n-i/\i<=n/\Pv i σ H,#[n,by simp,JB _,f]
 rintro i m σ H ⟨rfl,hi,p⟩
 by_cases a:i<n
 .exact .inr #[c i σ H a p,Pv (i+1),λh H' l=>#[n-(i+1),jy a,Z,a,l],λx H' y=>hs i x σ H H' a p y]
 .have e:i=n:=by lia
  subst e;exact .inl #[hst H,hd σ H p]
def AF(Pv:Nat->L2.St->Hp->Prop)(e:Pv 0 σ H)(hl:∀i σ H,Pv i σ H->HQ K H a xs)
  (hs:∀i x σ H,i<xs.length->xs[xs.length-1-i]? =↑x->Pv i σ H->g x σ H λc d=>tb {D with nx:=Pv (i+1),ct:=Pv (i+1),bk:=D.nx} c d)(hd:∀σ H,Pv xs.length σ H->D.nx σ H):aa (t9 K a xs.length) g tb D σ H:=
 gI Pv e (λi σ H hi p=>#[hi,xs,hl i σ H p,Z]) (λ_=>Jf _) (λi x σ H H' hi p y=>by
  let#[rfl,y]:=y;exact hs i x σ H' hi (y xs (hl i σ H' p)) p) hd
def Bn(Pv:Nat->L2.St->Hp->Prop)(e:Pv 0 σ H)(hl:∀i σ H,Pv i σ H->HX K H a xs)
  (hs:∀i x σ H,i<xs.length->xs[xs.length-1-i]? =↑x->Pv i σ H->g x σ H λc d=>tb {D with nx:=Pv (i+1),ct:=Pv (i+1),bk:=D.nx} c d)(hd:∀σ H,Pv xs.length σ H->D.nx σ H):aa (uD K a xs.length) g tb D σ H:=
 gI Pv e (λi σ H hi p=>#[hi,xs,hl i σ H p,Z]) (λ_=>Jf _) (λi x σ H H' hi p y=>by
  let#[rfl,y]:=y;exact hs i x σ H' hi (y xs (hl i σ H' p)) p) hd
def Ba{n:Nat}(Pv:Nat->L2.St->Hp->Prop)(d:Pv 0 σ H)
  (hs:∀i σ H,i<n->Pv i σ H->g (.int ((n:Int)-1-i)) σ H λa c=>tb {D with nx:=Pv (i+1),ct:=Pv (i+1),bk:=D.nx} a c)(hd:∀σ H,Pv n σ H->D.nx σ H):aa (vb n) g tb D σ H:=
 gI Pv d (λi σ H hi p=>hi) (λ_=>Jf _) (λi x σ H H' hi p y=>by
  let#[rfl,rfl]:=y;exact hs i σ H' hi p) hd
end
end L3
namespace L3
open PySem PySem.Spec L2
def wb{a:Φ}{p:Pos}(hg:Gl X "reversed")(hm:X.mg "reversed"=none)(ha:QA X [a] ta)(hn:Qj a=true:=by rfl):QI X tg (.Call (.Name "reversed" p) [a] [] pos) (Fy X.K ta):=#[E7 (hg:=hg) (hm:=hm) (ha:=ha.h) (hn:=hn)]
def yb(hl:QE X l tl):QI X tg l (Bq X.K tl):=#[EB (hl:=hl.h)]
def bG(x:Int):Prop:=0<=x/\x<16
def zH(r:Β):Prop:=∀x∈r,bG x
def BS(n i:Nat):Nat:=if i=0 then n-1 else i-1
def ah(r:Β)(i:Nat):Int:=r.getD (BS r.length i) 0
noncomputable def jJ(t:Β)(s:Int)(r:Β)(i:Nat):Β:=r.set i (t.getD ((r.getD i 0+s+i+ah r i)%16).toNat 0)
noncomputable def ii(b:Β)(s:Int)(r:Β)(i:Nat):Β:=r.set i ((b.getD (r.getD i 0).toNat 0-s-i-ah r i)%16)
def aA(t:Β)(s:Int)(r:Β):Nat->Β
 |0=>r
 |n+1=>jJ t s (aA t s r n) n
def bC(b:Β)(s:Int)(r:Β):Nat->Β
 |0=>r
 |n+1=>bC b s (ii b s r n) n
def Q5(t:Β):Β->Β->Β
 | [],r=>r
 |s::ks,r=>Q5 t ks (aA t s r r.length)
def Zz(b:Β):Β->Β->Β
 | [],r=>r
 |s::ks,r=>bC b s (Zz b ks r) r.length
def BG:(jJ t s r i).length=r.length:=Lg ..
def pM{b:Β}:(ii b s r i).length=r.length:=Lg ..
theorem Zc{t:Β}{s:Int}{r:Β}:∀{n:Nat},(aA t s r n).length=r.length
 |0=>rfl
 |n+1=>by rw[aA,BG,Zc]
theorem pA{b:Β}{s:Int}:∀{n:Nat} {r:Β},(bC b s r n).length=r.length
 |0,_=>rfl
 |n+1,r=>by rw[bC,pA,pM]
theorem db{t:Β}:∀{ks r:Β},(Q5 t ks r).length=r.length
 | [],_=>rfl
 |s::ks,r=>by rw[Q5,db,Zc]
theorem ir{b:Β}:∀{ks r:Β},(Zz b ks r).length=r.length
 | [],_=>rfl
 |s::ks,r=>by rw[Zz,pA,ir]
def oX(h:zH r)(hx:bG x):zH (r.set i x):=λy a=>by
 rcases List.mem_or_eq_of_mem_set a with z|z
 .exact h y z
 .rw[z];exact hx
def aM(x:Int):bG (x%16):=#[La _ ⋯,Lc _ ⋯]
def jw(h:zH r)(i:Nat):bG (r.getD i 0):=by
 rw[JG]
 by_cases hi:i<r.length
 .rw[Jh hi];exact h _ (IH hi)
 .rw[MA (by lia)];exact#[⋯,⋯]
def AX{t:Β}(p:t.Perm Nf):zH t:=λx a=>pP (p.mem_iff.mp a)
def AI{t:Β}(p:t.Perm Nf)(h:zH r):zH (jJ t s r i):=oX h (jw (AX p) _)
def nq{b:Β}(h:zH r):zH (ii b s r i):=oX h (aM _)
theorem eO{t:Β}(p:t.Perm Nf){s:Int}{r:Β}(h:zH r):∀{n:Nat},zH (aA t s r n)
 |0=>h
 |n+1=>AI p (eO p h)
theorem oJ{b:Β}{s:Int}:∀{n:Nat} {r:Β},zH r->zH (bC b s r n)
 |0,_,h=>h
 |n+1,_,h=>oJ (n:=n) (nq h)
theorem mN{t:Β}(p:t.Perm Nf):∀{ks r:Β},zH r->zH (Q5 t ks r)
 | [],_,h=>h
 |s::ks,_,h=>mN (ks:=ks) p (eO p h)
theorem nO{b:Β}:∀{ks r:Β},zH r->zH (Zz b ks r)
 | [],_,h=>h
 |s::ks,_,h=>oJ (nO (ks:=ks) h)
def lV{r:Β}{i:Nat}(h:i<r.length):(r.set i x).getD i 0=x:=by
 rw[JG,LY h];rfl
def rj{r:Β}{i j:Nat}(h:i≠j):(r.set i x).getD j 0=r.getD j 0:=by
 rw[JG,LZ h,<- JG]
def F1{n i:Nat}(h2:2<=n)(hi:i<n):i≠BS n i:=by unfold BS;split<;>lia
def EN{r:Β}{i:Nat}(h2:2<=r.length)(hi:i<r.length):ah (r.set i x) i=ah r i:=by
 unfold ah;rw[Lg,rj (F1 h2 hi)]
def BO{r:Β}{i:Nat}(hi:i<r.length):r.set i (r.getD i 0)=r:=by
 rw[JG,Jh hi];exact List.set_getElem_self hi
def Bb{t:Β}(p:t.Perm Nf)(h:bG z):(zI t).getD (t.getD z.toNat 0).toNat 0=z:=by
 have c:z.toNat<t.length:=by rw[sY p];have:=h.1;have:=h.2;lia
 have e:t.getD z.toNat 0=t[z.toNat]:=by rw[JG,Jh c];rfl
 have bd:=oB p c;have a:t[z.toNat].toNat<(zI t).length:=by rw[bR];exact GN bd.2
 rw[e,JG,Jh a,IP,CP p (by rw[bR]at a;exact a)]
 have d:=OX bd.1;rw[d,yh p c]
 have:=h.1
 lia
def Aa{t:Β}(p:t.Perm Nf){i:Nat}(hr:zH r)(h2:2<=r.length)(hi:i<r.length):ii (zI t) s (jJ t s r i) i=r:=by
 unfold ii jJ;rw[lV hi,EN h2 hi,List.set_set,Bb p (aM _)];have a:=jw hr i;have e:((r.getD i 0+s+i+ah r i)%16-s-i-ah r i)%16=r.getD i 0:=by
  have:=a.1
  have:=a.2
  lia
 rw[e,BO hi]
theorem n5{t:Β}(p:t.Perm Nf){s:Int}{r:Β}(hr:zH r)(h2:2<=r.length):∀{n:Nat},n<=r.length->bC (zI t) s (aA t s r n) n=r
 |0,_=>rfl
 |n+1,hn=>by
  rw[aA,bC,Aa p (eO p hr) (by rw[Zc];exact h2) (by rw[Zc];lia)]
  exact n5 p hr h2 (by lia)
theorem ny{t:Β}(p:t.Perm Nf):∀{ks r:Β},zH r->2<=r.length->Zz (zI t) ks (Q5 t ks r)=r
 | [],_,_,_=>rfl
 |s::ks,r,hr,h2=>by
  rw[Zz,Q5,ny p (eO p hr) (by rw[Zc];exact h2),db,Zc,n5 p hr h2 (Jf _)]
theorem oO(t:Β):∀(ks:Β) (s:Int) (r:Β),Q5 t (ks++[s]) r=aA t s (Q5 t ks r) r.length
 | [],_,_=>rfl
 |a::ks,s,r=>by rw[OY,Q5,oO t ks s,Q5,Zc]
def Sq(K:ι)(H:Hp)(a:Δ)(xs:Ε):Prop:=HQ K H a xs\/HX K H a xs
def Sq.same{K:ι}(e:HJ H H')(h:Sq K H a xs):Sq K H' a xs:=h.elim (λh=> .inl (e.seq h)) λh=> .inr (HJ.sqt e h)
theorem Sq.lst{K:ι}{H:Hp}(h:H a=↑(.lst xs)):Sq K H a xs:= .inl (HQ.of h)
theorem Sq.tup{K:ι}{H:Hp}(h:H a=↑(.tup xs)):Sq K H a xs:= .inr (HX.of h)
inductive j4(K:ι)|mk (a b c:Δ)(t ks ds:Β)(h1:vs=[-a,-b,-c])(h2:Sq K H a (t.map V.int))(h3:Sq K H b (ks.map V.int))(h4:Sq K H c (ds.map V.int))(h5:t.length=16)(h6:1<=ds.length)(h7:ds.length<64)(h8:∀p H',HJ H H'->H p=none->H' p=↑(.tup ((Q5 t ks ds).map V.int))->Q (-p) H')
inductive lB(K:ι)|mk (a b c:Δ)(t ks ds:Β)(h1:vs=[-a,-b,-c])(h2:Sq K H a (t.map V.int))(h3:Sq K H b (ks.map V.int))(h4:Sq K H c (ds.map V.int))(h5:t.Perm Nf)(h6:zH ds)(h7:1<=ds.length)(h8:ds.length<64)(h9:∀p H',HJ H H'->H p=none->H' p=↑(.tup ((Zz (zI t) ks ds).map V.int))->Q (-p) H')
def bf{r:Β}{i:Nat}{z:Int}(e:z=(i:Int))(h:i<r.length):QK (r.map V.int) z=↑(.int (r.getD i 0)):=by
 rw[Di e (jG h),JG,Jh h];rfl
def wJ{r:Β}{i:Nat}{z:Int}(e:z=(i:Int)-1)(h:i<r.length):QK (r.map V.int) z=↑(.int (ah r i)):=by
 subst e;unfold ah BS
 by_cases a:i=0
 .subst a
  rw[Jc Z];have c:=OM h;unfold QK cC;rw[Je,Jb (by lia),Jc (by lia)]
  have d:((((0:Nat):Int)-1)+(r.length:Int)).toNat=r.length-1:=by lia
  show(r.map V.int)[((((0:Nat):Int)-1)+(r.length:Int)).toNat]? =_
  rw[d,jG c,JG,Jh c];rfl
 .rw[Jb a]
  exact bf (Int.ofNat_sub (Oi a)).symm (Ka (Nat.sub_le i 1) h)
def Sq.ix{K:ι}{v:V}{Q:VK}(h:Sq K H a xs)(e:QK xs i=↑v)(q:Q v H):Fo K (-a) (.int i) H Q\/Bx K (-a) (.int i) H Q:=
 h.elim (λh=> .inl #[a,xs,i,v,9,h,e,q]) λh=> .inr #[a,xs,i,v,9,h,e,q]
section
variable{K:ι}
def Cy(c:Sq K H0 a xs)(Pv:Nat->L2.St->Hp->Prop)(d:Pv 0 σ H)(hk:∀i f H',Pv i f H'->HJ H0 H')
  (hs:∀i x σ H,xs[i]? =↑x->Pv i σ H->g x σ H λe h=>tb {D with nx:=Pv (i+1),ct:=Pv (i+1),bk:=D.nx} e h)(hd:∀σ H,Pv xs.length σ H->D.nx σ H):
  ((∃xs,HQ K H a xs)/\aa (fV K a) g tb D σ H)\/((∃xs,HX K H a xs)/\aa (lc K a) g tb D σ H):=by
 rcases c with c|c
 .exact .inl #[#[xs,(hk _ _ _ d).seq c],zQ Pv d (λi σ H _ p=>(hk i σ H p).seq c) hs hd]
 .exact .inr #[#[xs,HJ.sqt (hk _ _ _ d) c],gB Pv d (λi σ H _ p=>HJ.sqt (hk i σ H p) c) hs hd]
def AW(c:Sq K H0 a xs)(Pv:Nat->L2.St->Hp->Prop)(d:Pv 0 σ H)(hk:∀i f H',Pv i f H'->HJ H0 H')
  (hs:∀i x σ H,i<xs.length->xs[xs.length-1-i]? =↑x->Pv i σ H->g x σ H λe h=>tb {D with nx:=Pv (i+1),ct:=Pv (i+1),bk:=D.nx} e h)(hd:∀σ H,Pv xs.length σ H->D.nx σ H):
  (∃xs,HQ K H a xs/\aa (t9 K a xs.length) g tb D σ H)\/(∃xs,HX K H a xs/\aa (uD K a xs.length) g tb D σ H)\/(∃n:Nat,H a=↑(.rng 0 n)/\(n:Int)<2 ^ 62/\aa (vb n) g tb D σ H):=by
 rcases c with c|c
 .exact .inl #[xs,(hk _ _ _ d).seq c,AF Pv d (λi σ H p=>(hk i σ H p).seq c) hs hd]
 .exact .inr (.inl #[xs,HJ.sqt (hk _ _ _ d) c,Bn Pv d (λi σ H p=>HJ.sqt (hk i σ H p) c) hs hd])
end
def ZK(s:HJ H a)(h:H l=none):HJ H (HM a l o):=λd u e=>by
 rw[qp (qm e h)];exact s _ _ e
def jT{ks:Β}{j:Nat}{s:Int}(h:ks[j]? =↑s):ks.take (j+1)=ks.take j++[s]:=by rw[Ie,h];rfl
def vw{ks:Β}{j:Nat}{s:Int}(h:ks[j]? =↑s):ks.drop j=s::ks.drop (j+1):=by
 let#[a,e]:=Jw.mp h;rw[Ku a,e]
inductive OI (H:Hp):Nat->V->V->Prop where
 |int (n:Nat)(i:Int):OI H n (.int i) (.int i)
 |str (n:Nat)(x:Str):OI H n (.str x) (.str x)
 |non (n:Nat):OI H n .non .non
 |bl (n:Nat)(b:Bool):OI H n (.bl b) (.bl b)
 | tup {n:Nat} {a b:Δ} {xs ys:Ε} (h1:Rd H a (.tup xs)) (h2:Rd H b (.tup ys)) (hl:xs.length=ys.length)
   (hi:∀(i:Nat) (x y:V),xs[i]? =↑x->ys[i]? =↑y->OI H n x y):OI H (n+1) (-a) (-b)
 | lst {n:Nat} {a b:Δ} {xs ys:Ε} (h1:H a=↑(.lst xs)) (h2:H b=↑(.lst ys)) (hl:xs.length=ys.length)
   (hi:∀(i:Nat) (x y:V),xs[i]? =↑x->ys[i]? =↑y->OI H n x y):OI H (n+1) (-a) (-b)
def cy(n:Nat):((Ag n).all λ_=>true)=true:=by simp
section
open SeqAt
def zL(r:HS xs us){j:Nat}(h:j<us.length):∃x,xs[j]? =↑x/\HV x us[j]:=by
 have e:=r.length;have c:j<xs.length:=by lia
 let#[u,a,d]:=r.get (Jh c)
 rw[Jh h]at a;cases a
 exact⟨_,Jh c,d⟩
def vq(I:L2.HN X R0 σ H s)(h:OI H n x y):∀{v u:Γ} {A:Rj},HV x v->HV y u->A.units+n<cLine->EqAt A s v u true:=by
 induction h with
 |int n i=>rintro v u A ⟨t,rfl⟩ ⟨p,rfl⟩ _;have:=EqAt.int_int (A:=A) (s:=s) i t i p;rwa [Iq]at this
 |str n z=>rintro v u A ⟨t,rfl⟩ ⟨p,rfl⟩ _;have:=TL (A:=A) (s:=s) z t z p;rwa [Iq]at this
 |non n=>
  intro v u A g f _
  cases(show v=Γ.none from g)
  cases(show u=Γ.none from f)
  exact Sn _
 |bl n b=>
  intro v u A g f _
  cases(show v=Γ.bool b from g)
  cases(show u=Γ.bool b from f)
  exact Sn _
 | @tup n a b xs ys h1 h2 hl _ ih=>
  intro v u A g f F
  cases(show v=Γ.ref a from g)
  cases(show u=Γ.ref b from f)
  by_cases c:a=b
  .rw[c];exact Sn _
  .let#[l,o,w,_]:=I.tuple (.inl h1)
   let#[d,m,p2,_]:=I.tuple (.inl h2)
   have E:=o.length;have G:=m.length;have e:=Sx (A:=A) (e:=λ_=>true) (show s.heap.IsTuple a l.toArray from w) (show s.heap.IsTuple b d.toArray from p2) (by lia) (λj r q=>by
    let#[x,ex,C]:=zL o (j:=j) (by simpa using r)
    let#[y,D,B]:=zL m (j:=j) (by simpa using q)
    exact ih j x y ex D C B (by rw[Lu];lia))
   rw[cy,show(l.toArray.size==d.toArray.size)=true by simp;lia]at e
   exact TM c e
 | @lst n a b xs ys h1 h2 hl _ ih=>
  intro v u A g f F
  cases(show v=Γ.ref a from g)
  cases(show u=Γ.ref b from f)
  by_cases c:a=b
  .rw[c];exact Sn _
  .let#[l,o,w,_]:=I.list (HQ.of h1)
   let#[d,m,p2,_]:=I.list (HQ.of h2)
   have E:=o.length;have G:=m.length;have e:=RcAt.lists (A:=A) (e:=λ_=>true) w.isList p2.isList (by simp;lia) (by lia) (λj r q=>by
    let#[x,ex,C]:=zL o (j:=j) (by simpa using r)
    let#[y,D,B]:=zL m (j:=j) (by simpa using q)
    exact ih j x y ex D C B (by rw[Lu];lia))
   rw[cy]at e;exact TM c e
def Ed(I:L2.HN X R0 σ H s){A:Rj}(h:OI H n x y)(m:HV x v)(l:HV y u)(hu:A.units+n<cLine):RcAt A s v u true/\RcNeAt A s v u false:=by
 cases h with
 |int n i=>
  let#[t,rfl]:=m;let#[o,rfl]:=l;have g:=RcAt.int_int (A:=A) (s:=s) i t i o
  have f:=RcNeAt.int_int (A:=A) (s:=s) i t i o
  rw[Iq]at g f
  exact#[g,f]
 |str n z=>
  let#[t,rfl]:=m;let#[o,rfl]:=l;have g:=RcAt.str_str (A:=A) (s:=s) z t z o
  have f:=RcNeAt.str_str (A:=A) (s:=s) z t z o
  rw[Iq]at g f
  exact#[g,f]
 |non n=>
  cases(show v=Γ.none from m)
  cases(show u=Γ.none from l)
  exact#[RcAt.none_none,RcNeAt.none_none]
 |bl n b=>
  cases(show v=Γ.bool b from m)
  cases(show u=Γ.bool b from l)
  have g:=RcAt.bool_bool (A:=A) (s:=s) b b
  have f:=RcNeAt.bool_bool (A:=A) (s:=s) b b
  rw[Iq]at g f
  exact#[g,f]
 | @tup n a b xs ys h1 h2 hl ih=>
  cases(show v=Γ.ref a from m)
  cases(show u=Γ.ref b from l)
  let#[d,C,B,_]:=I.tuple (.inl h1)
  let#[c,p,p2,_]:=I.tuple (.inl h2)
  have G:=C.length;have J:=p.length;have q:∀j (w:j<d.toArray.size) (r:j<c.toArray.size),EqAt A.in1 s d.toArray[j] c.toArray[j] ((λ_=>true) j):=λj w r=>by
   let#[x,ex,F]:=zL C (j:=j) (by simpa using w)
   let#[y,E,D]:=zL p (j:=j) (by simpa using r)
   exact vq I (ih j x y ex E) F D (by rw[Lu];lia)
  have g:=Sx (A:=A) (e:=λ_=>true) (show s.heap.IsTuple a d.toArray from B) (show s.heap.IsTuple b c.toArray from p2) (by lia) q
  have f:=RcNeAt.tuples (A:=A) (e:=λ_=>true) (show s.heap.IsTuple a d.toArray from B) (show s.heap.IsTuple b c.toArray from p2) (by lia) q
  rw[cy,show(d.toArray.size==c.toArray.size)=true by simp;lia]at g f
  exact#[g,f]
 | @lst n a b xs ys h1 h2 hl ih=>
  cases(show v=Γ.ref a from m)
  cases(show u=Γ.ref b from l)
  let#[d,C,B,_]:=I.list (HQ.of h1)
  let#[c,p,p2,_]:=I.list (HQ.of h2)
  have G:=C.length;have J:=p.length;have q:∀j (w:j<d.toArray.size) (r:j<c.toArray.size),EqAt A.in1 s d.toArray[j] c.toArray[j] ((λ_=>true) j):=λj w r=>by
   let#[x,ex,F]:=zL C (j:=j) (by simpa using w)
   let#[y,E,D]:=zL p (j:=j) (by simpa using r)
   exact vq I (ih j x y ex E) F D (by rw[Lu];lia)
  have g:=RcAt.lists (A:=A) (e:=λ_=>true) B.isList p2.isList (by simp;lia) (by lia) q
  have f:=RcNeAt.lists (A:=A) (e:=λ_=>true) B.isList p2.isList (by simp;lia) (by lia) q
  rw[cy]at g f
  exact#[g,f]
inductive RJ (b:Bool)(x:V)(y:V)(H:Hp)(Q:VK):Prop
 |mk (n:_)(h1:n<=32)(h2:OI H n x y)(h3:Q (.bl b) H)
def GI(b:Bool):R2:=λx y H Q=>RJ b x y H Q
def Fx{k:Nat}(hr:MK k X.A):zx X (Py .NotEq) (GI false):=by
 intro R0 s σ H x y v u Q I a c h;let#[n,d,e,q]:=h
 exact(Ed I e a c (by have:=hr.un;lia)).2 _ _ _ _ #[.bl _,H,I,Z,q]
end
end L3
namespace L3
open PySem PySem.Spec PyProof.Rows L2
open Sem (wp)
noncomputable def B7(x:Str):It:=#[λi _=>i<x.cps.size,λi H v H'=>H'=H/\∃c,x.cps[i]? =↑c/\v= .str #[(AA [c])],λi _=>x.cps.size<=i]
def AB{K:ι}(it:Δ)(x:Str)(t:Tok):N5 P w K tg (B7 x) [it] it (λi h=>h.IsStrIter it "str_ascii_iterator" x t i) where
 mem:=by simp
 obj:=λi h st b a=>by
  have e:b=it:=by simpa using a
  subst e;let#[o,e,c,d]:=st
  exact#[o,e,λv z=>by rw[d]at z;cases z]
 keep:=λi h h' st k=>let⟨o,e,r⟩:=st;#[o,k it (by simp) o e,r]
 item:=by
  intro X q y A B i R0 s σ H E I g st p;subst q y A;let#[m,f1,f2,l,n,C]:=g it (by simp)
  have W:=Walks.strAscii (prog:=X.prog) (w:=X.w) (I.ok.hd B) it x t
  refine W.item i s _ _ p st λv h' tk G f M=>?_
  let#[c,u,j,rfl]:=G;have F:L2.HN X R0 σ H {s with heap:=h',toks:=tk}:=I.turned (λb o a e=>M b o (by simpa using a) e) m f1 l n C
  let#[o,e,L,d]:=id f
  exact#[0,dz (s:={s with heap:=h',toks:=tk}) e L d ⋯ #[.str #[(AA [c])],H,F,#[u,Z],#[Z,c,j,Z],f,λb a=>(g b a).1]]
 done:=by
  intro X q y A B i R0 s σ H E I g st p;subst q y A;let#[m,f1,f2,l,n,C]:=g it (by simp)
  have D:x.cps.size<=i:=p
  exact wpAny_pyNext_ascii_end (I.ok.hd B) st (by simp [D]) λh' J=>#[Z,I.turned (t':=s.toks) (λb o a e=>J b o a e) m f1 l n C]
 self:=λ_ _ _ _ _ st h=>wpAny_pyIter_striter_ascii st h
noncomputable def Ex(tl:TE):TI:=λσ H R=>tl σ H λv H1=>∃x,v= .str x/\x.cps.all (· <128)=true/\R (B7 x) H1
def Fr(hl:PE X l tl):PI X tg l (Ex tl):=by
 intro R0 s σ H R I h;refine qz (hl R0 s σ H _ I h) λv a d=>?_
 let#[x,H1,c,g,f]:=d;let#[z,rfl,i,q]:=f;let#[t,rfl]:=g;refine wpAny_pyIter_ascii i ?_
 refine#[a.heap.objs.size,[a.heap.objs.size],15,H1,Z,c.kept (t':=a.toks) λb o e=>Jk _ e,AB _ z t,#[_,Jp _ Z,9],λb j=>?_,q]
 rw[Ji.mp j];exact c.fpOk (Jf _) (c.hok.fresh (Jf _))
def wR(hl:QE X l tl):QI X tg l (Ex tl):=#[Fr hl.h]
def C5{x:Str}{g:TG}{tb:TS}{D:Ng}{σ:L2.St}{H:Hp}(Pv:Nat->L2.St->Hp->Prop)(e:Pv 0 σ H)
  (hs:∀i c σ H,x.cps[i]? =↑c->Pv i σ H->g (.str #[(AA [c])]) σ H λa d=>tb {D with nx:=Pv (i+1),ct:=Pv (i+1),bk:=D.nx} a d)(hd:∀σ H,Pv x.cps.size σ H->D.nx σ H):aa (B7 x) g tb D σ H:=
 gI Pv e (λi σ H hi p=>hi) (λ_=>Jf _) (λi v σ H H' hi p y=>by
  let#[rfl,c,f,rfl]:=y;exact hs i c σ H' f p) hd
section
variable{X:Cx}{o e:Φ}{es:Ι}{to:TE}{t:TA}{name:Str}{apos cpos:Pos}{T id:String}{r:V->Ε->Hp->VK->Prop}
def Q1(pa:PlainAttrs T)(g:Slot T name id)(h:typeOf (.builtin id)=pure (.type "method_descriptor"))(hm:ph X id r)(ho:QE X o to)(ha:QA X (e::es) t)
  (c:attributeBase o name X.env (eval o X.env)=eval o X.env:=by rfl)
  (f:((backTo cpos (θ (e::es) X.env)).all (λx=> ! x.1)&&(backToKw cpos (keywordEach [] X.env)).all (λx=>x.1.isSome)
   &&decide ((e::es).length+([]:ξ).length+(if([]:ξ).isEmpty then 0 else 1)<30))=true:=by rfl)
  (d:(apos.endLine==cpos.line)=true:=by rfl)(hs:θ (e::es) X.env=(false,eval e X.env)::θ es X.env:=by rfl)(a:(backTo cpos (θ es X.env)).any (·.1)=false:=by rfl):
  QE X (.Call (.Attribute o name apos) (e::es) [] cpos) (Ea X.K T r to t):=#[FN pa g h hm ho.h ha.h c f d hs a]
def zV:ph X "list.append" rY:=wN
theorem cQ:∀{ys:Α} {us:Ζ},HS (ys.map V.str) us->StrsAre us ys
 | [],_,.nil=> .nil
 |y::ys,_,.cons r t=>by
  let#[u,rfl]:=(show∃u,_=Γ.str y u from r)
  exact .cons _ _ (cQ t)
end
theorem cn(ns:Β):∀n,n<=ns.length->preSum (λi=>ns.getD i 0) n=(ns.take n).sum
 |0,_=>by simp [preSum]
 |n+1,h=>by
  have a:n<ns.length:=by lia
  rw[preSum,cn ns n (by lia),Ie,Jh a,OV,List.sum_append,JG,Jh a]
  simp
theorem yg{B:Int}:∀{ns:Β},(∀z∈ns,0<=z/\z<=B)->0<=ns.sum/\ns.sum<=ns.length*B
 | [],_=>#[by simp,by simp]
 |n::r,h=>by
  have h1:=h n Jr;have c:=yg (ns:=r) λz a=>h z (Jv _ a)
  rw[List.sum_cons,JR];exists by lia
  have:(((r.length+1:Nat):Int))*B=r.length*B+B:=by rw[Int.natCast_add,Int.add_mul];simp
  lia
def v9(hc:X.calm=true):zj X (.builtin "sum") (λxs H Q=>∃(p:Δ) (ns:Β),xs=[-p]/\Sq X.K H p (ns.map V.int)/\ns.length<=1000/\(∀z∈ns,0<=z/\z<=1000000)/\Q (.int ns.sum) H):=by
 intro R0 s σ H xs P Q I r h;let#[p,ns,rfl,m,R,J,q]:=h;let#[u,rfl,N]:=zT r;cases N;have bd:∀n,n<=ns.length->0<=preSum (λi=>ns.getD i 0) n/\preSum (λi=>ns.getD i 0) n<=1000000000:=λn L=>by
  rw[cn ns n L];have h1:=yg (B:=1000000) (ns:=ns.take n) λz C=>J z (List.mem_of_mem_take C)
  have T:(ns.take n).length<=1000:=by rw[G5];lia
  lia
 have w:∀j,j<ns.length->InLong ((λi=>ns.getD i 0) j)/\InLong (preSum (λi=>ns.getD i 0) (j+1)):=λj l=>by
  have S:=bd (j+1) (by lia)
  have O:0<=ns.getD j 0/\ns.getD j 0<=1000000:=by
   rw[JG,Jh l];exact J _ (IH l)
  unfold InLong;simp only
  lia
 have eS:preSum (λi=>ns.getD i 0) ns.length=ns.sum:=by rw[cn ns _ (Jf _),Ip]
 have val:∀{a:Ζ},HS (ns.map V.int) a->∀(i:Nat) (v:Γ),a.toArray[i]? =↑v->∃t,v= .int ((λi=>ns.getD i 0) i) t:=λ{a} g i v K=>by
  have y:a[i]? =↑v:=by simpa using K
  have hi:i<a.length:=(Jw.mp y).1
  let#[x,ex,M]:=zL g hi;let#[z,rfl,C]:=Zb ex;let#[t,G]:=M;exists t
  rw[(Jw.mp y).2]at G;rw[G]
  show Γ.int z t=Γ.int (ns.getD i 0) t
  rw[JG,C];rfl
 rcases m with m|m
 .let#[a,g,pl,C]:=I.list m
  have c:ns.length=a.length:=by have:=g.length;rwa [Je]at this
  have f:p<s.heap.objs.size:=by let#[_,e,_]:=pl.isList;exact Jl e
  refine call_sum_walk (LA pl.isList ?_)
  refine#[s.heap.objs.size,[s.heap.objs.size,p],[s.heap.objs.size],a.toArray.size,15,λi=>ns.getD i 0,Z,Walks.list (A:=X.A.in1) (I.ok.hd hc) _ p (Jm f) a.toArray,
   #[#[_,Jp _ Z,9],pl.isList.push _],λb d=>?_,val g,λj l=>w j (by simp at l;lia),λh' tk t' hk=>?_]
  .have sz:(s.heap.push {cls:= .type "list_iterator",data:= .fields (AA [-p,.int 0 0])}).objs.size=s.heap.objs.size+1:=JU ..
   simp only[Jg,Jt,Ju]at d
   show b<(Ψ.push s.heap _).objs.size
   rw[JU];rcases d with rfl|rfl
   .exact G0 _
   .exact Ik f
  .have F:preSum (λi=>ns.getD i 0) a.toArray.size=ns.sum:=by rw[Js,<- c];exact eS
   rw[F];refine#[.int _,H,I.kept (h':=h') (t':=tk) λb o q=>hk b o (λE=>?_) (Jk _ q),#[0],q]
   rw[Ji.mp E]at q;exact Ia _ (Jl q)
 .let#[a,g,pl,C]:=I.tuple m
  have c:ns.length=a.length:=by have:=g.length;rwa [Je]at this
  have D:s.heap.IsTuple p a.toArray:=pl
  have f:p<s.heap.objs.size:=by let#[_,e,_]:=D;exact Jl e
  refine call_sum_walk (Ld D ?_)
  refine#[s.heap.objs.size,[s.heap.objs.size,p],[s.heap.objs.size],a.toArray.size,15,λi=>ns.getD i 0,Z,Walks.tuple (A:=X.A.in1) (I.ok.hd hc) _ p (Jm f) a.toArray,
   #[#[_,Jp _ Z,9],let⟨o,e,r⟩:=D;#[o,Jk _ e,r]],λb d=>?_,val g,λj l=>w j (by simp at l;lia),λh' tk t' hk=>?_]
  .simp only[Jg,Jt,Ju]at d
   show b<(Ψ.push s.heap _).objs.size
   rw[JU];rcases d with rfl|rfl
   .exact G0 _
   .exact Ik f
  .have F:preSum (λi=>ns.getD i 0) a.toArray.size=ns.sum:=by rw[Js,<- c];exact eS
   rw[F];refine#[.int _,H,I.kept (h':=h') (t':=tk) λb o q=>hk b o (λE=>?_) (Jk _ q),#[0],q]
   rw[Ji.mp E]at q;exact Ia _ (Jl q)
def Bi:AU X (λx y H Q=>∃(p:Δ) (xs:Ε) (i:Nat) (v:V),x= .ref p/\y= .int (i:Int)/\H p=↑(.lst xs)/\xs[i]? =↑v/\Q v H):=by
 intro R0 s σ H o i w m Q I g e h;let#[p,xs,j,v,rfl,rfl,c,a,q]:=h;cases g;let#[t,rfl]:=e;let#[l,r,pl,A]:=I.list (HQ.of c)
 let#[u,d,f]:=r.get a;have B:=r.length;have z:=af;have n:j<xs.length:=(Jw.mp a).1
 exact wpAny_getItem_list pl.isList (by lia) (by lia) (by simpa using d) #[v,H,I,f,q]
def ZM(z:Str):Prop:=(∀c∈z.cps.toList,97<=c/\c<=122)/\1<=z.cps.toList.length/\z.cps.toList.length<=8
def oC(h:ZM z):z.cps.all (· <128)=true:=by
 rw[Array.all_eq_true'];intro c a
 have:=h.1 c (by simpa using a)
 simp;lia
def Bl(c:Nat):Β:=[((c:Int)-97)%16,((c:Int)-97)/16]
def Zs(a:Κ):Β:=a.flatMap Bl
def vU(a:Κ)(c:Nat):Zs (a++[c])=Zs a++Bl c:=by simp [Zs]
def kU(a:Κ):(Zs a).length=2*a.length:=by
 induction a with
 |nil=>rfl
 |cons c r ih=>simp only[Zs,KF,Jy,JR]at ih⊢;rw[ih];simp [Bl];lia
noncomputable def jV(ds:Β)(j:Nat):Nat->Int
 |0=>0
 |n+1=>jV ds j n+if n%4=j then ds.getD n 0 else 0
def ae(ds:Β)(n:Nat):Β:=[jV ds 0 n,jV ds 1 n,jV ds 2 n,jV ds 3 n]
def vL(ds:Β)(n:Nat):(ae ds n).set (n%4) ((ae ds n).getD (n%4) 0+ds.getD n 0)=ae ds (n+1):=by
 have h:n%4=0\/n%4=1\/n%4=2\/n%4=3:=by lia
 rcases h with h|h|h|h<;>simp [ae,jV,h]
def bW(ds:Β):Β:=(ae ds ds.length).map (· %16)
def oo(ds:Β):(bW ds).length=4:=Z
inductive lf|mk (z:_)(h1:vs=[.str z])(h2:ZM z)(h3:∀l H',HJ H H'->H l=none->H' l=↑(.lst ((Zs z.cps.toList).map V.int))->Q (-l) H')
inductive jO(K:ι)|mk (a b:Δ)(z:Str)(t ks:Β)(h1:vs=[-a,-b,.str z])(h2:Sq K H a (t.map V.int))(h3:Sq K H b (ks.map V.int))(h4:ZM z)(h5:t.length=16)(h6:∀p H',HJ H H'->H p=none->H' p=↑(.tup ((Q5 t ks (bW (Zs z.cps.toList))).map V.int))->Q (-p) H')
def Do{a:Κ}{i c:Nat}(h:a[i]? =↑c):a.take (i+1)=a.take i++[c]:=by rw[Ie,h];rfl
def tI{z:Str}{i c:Nat}(h:z.cps[i]? =↑c):z.cps.toList[i]? =↑c:=by simpa using h
def Fw{X:Cx}{a:Scope}{y z:Str}{j k:Nat}(e:a.kind= .function)(d:∀x∈a.names,x.2= .local->a.names.lookup x.1=some .local)(c:∀x∈a.names,x.2≠ .cell)
  (f:∀x∈a.names,x.2= .free->x.1∈([y,z]:Α))(h1:X.N[j]? =↑y)(h2:X.env.kindOf y=some .cell)(l:(relabel a X.env).names.lookup y=some .cell)
  (m:X.N[k]? =↑z)(n:X.env.kindOf z=some .cell)(o:(relabel a X.env).names.lookup z=some .cell):MU X a [y,z] [j,k]:=
 #[e,d,c,f,Z,λi q p g h=>by
  match i with
  |0=>cases g;cases h;exact#[h1,h2,l]
  |1=>cases g;cases h;exact#[m,n,o]
  |i+2=>simp at g]
def FG{X:Cx}{c d:Δ}(h:X.env.cells.lookup y=↑c)(g:X.env.cells.lookup z=↑d):∀u e,([(y,c),(z,d)]:List (Str×Δ)).lookup u=↑e->X.env.cells.lookup u=↑e:=λu e a=>by
 by_cases f:u=y
 .subst f
  simp at a
  rw[<- a];exact h
 .by_cases i:u=z
  .subst i
   simp [Iv,show(u==y)=false from by simpa using f]at a
   rw[<- a];exact g
  .simp [Iv,show(u==y)=false from by simpa using f,show(u==z)=false from by simpa using i]at a
section
variable{prog:Ξ}{w:Ω}{A:Rj}{E:HG}{s:Θ}
theorem je{it t:Δ}{items:Array Γ}(g:t≠it):∀(n i:Nat) (s:Θ) (Q:Ζ->Θ->Prop),s.heap.IsListIter it t i->s.heap.IsList t items->i+n<=items.size->
  (∀h',h'.IsListIter it t (i+n)->Ψ.SameBut it s.heap h'->Q ((items.toList.drop i).take n) {s with heap:=h'})->ε (model prog w) A (draw (-it) n) Q E s
 |0,i,s,Q,hit,_,_,hQ=>by
  show ε _ _ (pure []) Q E s
  refine Jd ?_
  have:=hQ s.heap hit (Ψ.SameBut.refl ..)
  simpa using this
 |n+1,i,s,Q,hit,ht,hle,hQ=>by
  have l:i<items.size:=by lia
  show ε _ _ (pyNext (-it) >>= _) Q E s
  refine Ja (wpAny_pyNext_list_item hit ht (x:=items[i]) (by simp [l]) λj c a=>?_)
  have m:(Θ.heap {s with heap:=j}).IsList t items:=let⟨o,e,r⟩:=ht;#[o,a.extBut _ _ g e,r]
  refine Ja (JM (je g n (i+1) _ _ c m (by lia) λh d f=>Jd ?_))
  have p:items.toList.drop i=items[i]::items.toList.drop (i+1):=by simp [Ku,l]
  have z:=hQ h (by rw[show i+(n+1)=i+1+n by lia];exact d) (a.trans f)
  rw[p,List.take_succ_cons]at z;exact z
def om{a:List (Bool×(Γ->Sem Unit))}{Q:Unit->Θ->Prop}(u:A.handled=none)(j:s.heap.IsList t items)
  (hn:a.length=items.size)(g:a.findIdx? (·.1)=none)
  (h:∀h',Ψ.ExtBut s.heap.objs.size s.heap h'->ε (model prog w) A (assignInOrder (a.map (·.2)) items.toList) Q E {s with heap:=h'}):
  ε (model prog w) A (unpack (-t) a) Q E s:=by
 have p:t≠s.heap.objs.size:=by let#[o,v,_]:=j;exact Jm (Jl v)
 unfold unpack;rw[hn,g];refine Ja (JM ?_)
 unfold unpackItems;refine Ja ?_
 unfold notIterableAtAll;refine Ja (Ls j.typeIs F.slot_list_iter.lookup ?_)
 refine Jd ?_
 simp only[D2,JH];refine Ja (JM (LA j ?_))
 refine Ja (JM (je p items.size 0 _ _ #[_,Jp _ Z,9] (j.push _) (by lia) λm d c=>?_))
 have n:List.take items.size (List.drop 0 items.toList)=items.toList:=by
  rw[Kv];exact Ol (by simp)
 rw[n];rw[Jb (by simp)]
 have f:m.IsList t items:=let⟨o,e,r⟩:=j.push _;#[o,c.extBut _ _ p e,r]
 refine Ja (JM (wpAny_pyNext_list_end u d f (by simp) λl i=>?_))
 simp only[Option.isSome_none,D2,JH];exact Jd (h l λb o q e=>i b o q (c.extBut b o q (Jk _ e)))
inductive RK (K:ι)(n:Nat)(t:ZV)(v:V)(σ:L2.St)(H:Hp)(Q:L2.St->Hp->Prop):Prop
 |mk (a:_)(xs:_)(h1:v= .ref a)(h2:Sq K H a xs)(h3:xs.length=n)(h4:t xs σ H Q)
def ve(K:ι)(n:Nat)(t:ZV):TG:=λv σ H Q=>RK K n t v σ H Q
def vy{k:Nat}{n:Nat}(hc:X.calm=true)(h:tH X es t)
  (hn:(assignEach es X.env).length=n:=by rfl)(hst:(assignEach es X.env).findIdx? (·.1)=none:=by rfl):PG X (.Tuple es k pos) (ve X.K n t):=by
 intro R0 s σ H v u Q I r d;let#[a,xs,f,c,g,d]:=d;rcases c with c|c
 .subst f
  cases r;let#[p,i,l,q]:=I.list c;rw[assign_Tuple];refine Ja (Ib (om (I.ok.hd hc) l.isList (by simp [hn,<- g,i.length]) hst λh' j=>?_))
  have m:L2.HN X R0 σ H {s with heap:=h'}:=I.kept (t':=s.toks) λb o e=>j b o (Jm (Jl e)) e
  exact h R0 _ σ H xs _ Q m (by simpa using i) d
 .exact nZ hc h hn hst R0 s σ H v u Q I r #[a,xs,f,c,g,d]
def zf{k:Nat}{n:Nat}(hc:X.calm=true)(h:Rk X es t)
  (hn:(assignEach es X.env).length=n:=by rfl)(hst:(assignEach es X.env).findIdx? (·.1)=none:=by rfl):QG X (.Tuple es k pos) (ve X.K n t):=#[vy hc h.h hn hst]
end
def aE(c d:Int):Β:=[c%16,c/16%16,c/256,d]
def aL(c d:Int):Β:=aE c d++[(aE c d).sum%16]
def jY(t ks:Β)(z:Str):Β:=Q5 t ks (bW (Zs z.cps.toList))
def eN(t ks:Β)(z:Str)(c d:Int):Β:=Q5 t (jY t ks z) (aL c d)
noncomputable def ml(r:Β):Option (Int×Int):=if r.getD 4 0=(r.getD 0 0+r.getD 1 0+r.getD 2 0+r.getD 3 0)%16 then ↑(r.getD 0 0+r.getD 1 0*16+r.getD 2 0*256,r.getD 3 0)else none
noncomputable def ZL(t ks:Β)(z:Str)(ds:Β):Option (Int×Int):=ml (Zz (zI t) (jY t ks z) ds)
def cT(c d:Int):(aL c d).length=5:=Z
def AL(c d:Int):(aE c d).sum=c%16+c/16%16+c/256+d:=by simp [aE];lia
def iC{c:Int}(e:0<=c)(h1:c<4096)(hd:bG d):zH (aL c d):=λx a=>by
 simp only[aL,aE,OY,Kq,Jg,Jt,Ju]at a;rcases a with rfl|rfl|rfl|rfl|rfl
 .exact aM _
 .exact aM _
 .exact#[Int.ediv_nonneg e ⋯,Int.ediv_lt_of_lt_mul ⋯ h1]
 .exact hd
 .exact aM _
def wH{c:Int}(a:0<=c)(h1:c<4096):ml (aL c d)=↑(c,d):=by
 have e:(aL c d)=[c%16,c/16%16,c/256,d,(c%16+c/16%16+c/256+d)%16]:=by unfold aL;rw[AL];rfl
 unfold ml;rw[e]
 show(if(c%16+c/16%16+c/256+d)%16=(c%16+c/16%16+c/256+d)%16 then ↑(c%16+c/16%16*16+c/256*256,d)else none)=_
 rw[Jc Z,show c%16+c/16%16*16+c/256*256=c by lia]
def Dh{r:Β}(hl:r.length=5):∃a b c d e:Int,r=[a,b,c,d,e]:=by
 match r,hl with
 | [a,b,c,d,e],_=>exact#[a,b,c,d,e,Z]
def wI(t ks:Β)(z:Str)(c d:Int):(eN t ks z c d).length=5:=by unfold eN;rw[db,cT]
def Bd{t:Β}(p:t.Perm Nf){c:Int}(a:0<=c)(h1:c<4096)(hd:bG d):zH (eN t ks z c d):=mN p (iC a h1 hd)
def lh{t:Β}(p:t.Perm Nf){c:Int}(a:0<=c)(h1:c<4096)(hd:bG d):ZL t ks z (eN t ks z c d)=↑(c,d):=by
 unfold ZL eN;rw[ny p (iC a h1 hd) (by rw[cT];decide),wH a h1]
noncomputable def gl(H:Hp)(x:V):Option (Int×Int)->Prop
 |none=>x= .non
 |some (c,d)=>∃p,x= .ref p/\H p=↑(.tup [.int c,.int d])
inductive Fj|mk (c:Int)(h1:vs=[.int c])(h2:∀p H',HJ H H'->H' p=↑(.tup [.int (c%16),.int (c/16%16),.int (c/256)])->Q (-p) H')
inductive tJ(K:ι)|mk (a b:Δ)(z:Str)(age c d:Int)(t ks:Β)(h1:vs=[-a,-b,.str z,.int age,.int c,.int d])(h2:Sq K H a (t.map V.int))(h3:Sq K H b (ks.map V.int))(h4:ZM z)(h5:t.length=16)(h6:0<=c)(h7:c<4096)(h8:bG d)(h9:∀p pc H',HJ H H'->H' p=↑(.tup [.str z,.int age,-pc])->H' pc=↑(.tup ((eN t ks z c d).map V.int))->Q (-p) H')
inductive pB(K:ι)|mk (a b pr pc:Δ)(z:Str)(age:Int)(t ks ds:Β)(h1:vs=[-a,-b,-pr])(h2:Sq K H a (t.map V.int))(h3:Sq K H b (ks.map V.int))(h4:Sq K H pr [.str z,.int age,-pc])(h5:Sq K H pc (ds.map V.int))(h6:ZM z)(h7:t.Perm Nf)(h8:ds.length=5)(h9:zH ds)(h10:∀x H',HJ H H'->gl H' x (ZL t ks z ds)->Q x H')
def vY{X:Cx}{pos:Pos}{i j:Nat}{x y:Str}{a b:Φ}{pt:Pos}{kt k2 pt2}(hc:X.calm=true)(hN:X.N.Nodup)(hi:X.N[i]? =↑x)(f:X.N[j]? =↑y)(d:i≠j)
  (hx:X.env.scope.names.lookup x=some .local)(g:X.env.scope.names.lookup y=some .local)(ha:QA X [a,b] ta)
  (hw:swappedStores [.Tuple [.Name x c,.Name y e] kt pt] (.Tuple [a,b] k2 pt2) X.env=pure (some [x,y]):=by rfl)
  (hs:swapsWithSole [.Tuple [.Name x c,.Name y e] kt pt] (.Tuple [a,b] k2 pt2) pos.line X.env=pure false:=by rfl):
  QS X (.Assign [.Tuple [.Name x c,.Name y e] kt pt] (.Tuple [a,b] k2 pt2) pos) (D7 i j ta):=#[EZ hc hN hi f d hx g ha.h hw hs]
def bT(K:ι)(H:Hp)(a:Δ)(f:Str)(v:V):Prop:=∃C dx fs,H a=↑(.ins C dx fs)/\OK K C/\MT K C f/\fs.lookup f=↑v
def mJ(K:ι)(H:Hp)(a:Δ)(f:Str)(v:V)(H':Hp):Prop:=∃C dx fs,H a=↑(.ins C dx fs)/\OK K C/\MT K C f/\fs.length<1000/\H'=HM H a (.ins C dx (QF f v fs))
def Gt(C:Δ)(H:Hp)(a:Δ)(m:Str):Prop:=∃dx fs,H a=↑(.ins C dx fs)/\fs.lookup m=none
noncomputable def Cg(K:ι)(ta:TE)(f:Str):TE:=λσ H Q=>ta σ H λx H1=>∃a v,x= .ref a/\bT K H1 a f v/\Q v H1
noncomputable def FP(K:ι)(ta tv:TE)(f:Str):TS:=λD σ H=>tv σ H λy H1=>ta σ H1 λx d=>∃a c,x= .ref a/\mJ K d a f y c/\D.nx σ c
noncomputable def wP(C:Δ)(m:Str)(sp:Sp)(ta:TE)(t:TA):TE:=λσ H Q=>ta σ H λx H1=>∃a,x= .ref a/\Gt C H1 a m/\t σ H1 λvs c=>sp (x::(vs++[])) c Q E0
def qW(he:QE X e ta)(hb:attributeBase e f X.env (eval e X.env)=eval e X.env:=by rfl):QE X (.Attribute e f pos) (Cg X.K ta f):=#[by
 intro R0 s σ H Q I h;refine C7 hb (qz (he.h R0 s σ H _ I h) λu p m=>?_)
 let#[x,H1,i,d,a,v,ex,#[C,dx,fs,j,c,n,l],q]:=m;subst ex
 obtain rfl:u=Γ.ref a:=d
 exact um i j c n l λt r o g=>#[v,H1,o,g,q]]
def zW(ha:QE X o ta)(hv:QE X value tv)(hs:swapsWith value ↑(.Attribute o f pos') pos.line X.env=pure false:=by rfl):QS X (.Assign [.Attribute o f pos'] value pos) (FP X.K ta tv f):=#[by
 intro R0 s σ H D I h;refine plainObj_wpAny_Assign_Attribute (qz (hv.h R0 s σ H _ I h) λu d ⟨y,H1,t,p,q⟩=>qz (ha.h R0 d σ H1 _ t q) λi z m=>?_) hs
 let#[x,B,w,r,a,A,ex,#[C,dx,fs,v,c,n,l,g],e]:=m;subst ex g
 obtain rfl:i=Γ.ref a:=r
 exact uR w v c n l p λE j=>#[σ,_,j,e]]
structure Mf(P:Ξ)(w:Ω)(K:ι)(mg:HH)(base:Ψ)(C:Δ)(m:Str)(ps:Α)(k:Nat)(sp:Sp):Prop where
 ex:∃(f:Δ) (fd:FuncData),NU P w K mg base bi k f fd ps sp/\PU K C m f/\NH K fd ps []
structure Ob(K:ι)(C:Δ)(m R1:Str)(st:δ)(ps:Α):Prop where
 ex:∃(f:Δ) (fd:FuncData),OL K m R1 st f fd/\PU K C m f/\NH K fd ps []
structure Mi(P:Ξ)(w:Ω)(K:ι)(mg:HH)(base:Ψ)(C:Δ)(x:Str)(ps:Α)(k:Nat)(sp:Sp):Prop where
 ex:∃(f:Δ) (fd:FuncData),NU P w K mg base bi k f fd ps sp/\Mk K C f/\mg x=↑(-C)/\NH K fd ps []
section
variable{K:ι}{X:Cx}{x:Str}{k:Nat}{o e:Φ}{es:Ι}{apos:Pos}{t:TA}{to:TE}{name:Str}{cpos:Pos}{T id:String}{r:V->Ε->Hp->VK->Prop}
def Ob.mq{m R1:Str}{st:δ}{ps N:Α}{k:Nat}{sp:Sp}(a:Ob K C m R1 st ps)(S:HK N ps (qi st))
  (d:∀(f:Δ) (cdv:Γ) (A:Rj) (c:Τ) (s:Θ) (H:Hp) (vs:Ε) (Q:VK) (E:XK),MK k (A.deeper (envOfC R1 (qi st) s.heap.objs.size f cdv))->sp vs H Q E->
   ∃t,O9 (cu bi P w K mg base N R1 (qi st) f cdv A c s H E).nox (zR st) t/\t {nx:=λ_ H'=>Q .non H',rt:=Q} (Zr N vs) H)(len:∀vs H Q E,sp vs H Q E->vs.length=ps.length:=by intro vs H Q E h;first|(cases h;subst_vars;rfl)|((repeat first|let#[rfl,h]:=h|let#[_,h]:=h);all_goals rfl)):Mf P w K mg base C m ps (k+1) sp:=by
 let#[f,fd,F,m,bd]:=a.ex
 exact#[f,fd,F.ok S len (λcdv A c s H vs Q E e h=>let⟨t,q1,q2⟩:=d f cdv A c s H vs Q E e h;#[t,q1.h,q2]),m,bd]
def Mf.mi{x:Str}{ps:Α}{k:Nat}{sp:Sp}(a:Mf P w K mg base C "__init__" ps k sp)(c:W.makesIn K C=true)(d:TK K (-C)=true)(hx:mg x=↑(-C)):Mi P w K mg base C x ps k sp:=
 let⟨f,fd,F,m,bd⟩:=a.ex;#[f,fd,F,#[c,m.at_,m.fn,d],hx,bd]
def zb{pl:Sem Bool}(M:Mf X.prog X.w X.K X.mg X.base C m ps k sp)(c:OK X.K C)(hr:MK k X.A)(he:QE X o ta)(ha:QA X (e::es) t)
  (hst:θ (e::es) X.env=(false,eval e X.env)::θ es X.env:=by rfl)(hpl:(backTo pos (θ es X.env)).any (·.1)=false:=by rfl)
  (v:eval (.Call (.Attribute o m apos) (e::es) [] pos) X.env=(do
   let d <- eval o X.env
   standAt apos.atName
   let(f,first) <- holding [d] (getMethod d m pl)
   callWith pos f first (backTo pos (θ (e::es) X.env)) (backToKw pos (keywordEach [] X.env))):=by rfl):
  QE X (.Call (.Attribute o m apos) (e::es) [] pos) (wP C m sp ta t):=#[by
 let#[f,fd,F,g,z]:=M.ex;intro R0 s σ H Q I h;refine W.methodCall_KW (pl:=pl) (qz (he.h R0 s σ H _ I h) λu n A=>?_) v
 let#[x,H1,i,w,a,ex,#[dx,fs,y,l],q]:=A;subst ex
 obtain rfl:u=Γ.ref a:=w
 refine i3 i y c g l ?_
 refine W.callWith_K (first:=[-a]) (h₀:=X.base) I.ok.mod.kin g.kp (qz (ha.h pos R0 n σ H1 _ i q) λus B ⟨vs,D,j,r,p⟩=>#[j.kIn,?_]) hst hpl
 exact mT (us:= .ref a::us) (vs:= .ref a::vs) F hr z .nil mr j (.cons Z r) p]
def Zw{pl:Sem Bool}(M:Mf X.prog X.w X.K X.mg X.base C m ps k sp)(c:OK X.K C)(hr:MK k X.A)(he:QE X o ta)
  (i:eval (.Call (.Attribute o m apos) [] [] pos) X.env=(do
   let e <- eval o X.env
   standAt apos.atName
   let(f,first) <- holding [e] (getMethod e m pl)
   callWith pos f first (backTo pos (θ [] X.env)) (backToKw pos (keywordEach [] X.env))):=by rfl):
  QE X (.Call (.Attribute o m apos) [] [] pos) (wP C m sp ta AS):=#[by
 let#[f,fd,F,g,r]:=M.ex;intro R0 s σ H Q I h;refine W.methodCall_KW (pl:=pl) (qz (he.h R0 s σ H _ I h) λu t j=>?_) i
 let#[x,H1,d,n,a,ex,#[dx,fs,p,l],q]:=j;subst ex
 obtain rfl:u=Γ.ref a:=n
 refine i3 d p c g l ?_
 exact W.callWith_K0 (first:=[-a]) d.kIn g.kp (mT (us:=[-a]) (vs:=[-a]) F hr r .nil mr d (.cons Z .nil) q)]
def DB(M:Mi X.prog X.w X.K X.mg X.base C x ps k sp)(hr:MK (k+1) X.A)(ha:QA X (e::es) t)(hg:Gl X x:=by rfl)(hdb:(x==("__debug__":Str))=false:=by decide)
  (he:θ (e::es) X.env=(false,eval e X.env)::θ es X.env:=by rfl)(hpl:(backTo pos (θ es X.env)).any (·.1)=false:=by rfl):
  QE X (.Call (.Name x p) (e::es) [] pos) (Cj C sp [] E0 t):=#[by
 let#[f,fd,F,d,a,c]:=M.ex;exact CK d F hr hg a c .nil mr ha.h hdb he hpl]
def Fz(i:X.K=K)(pa:PlainAttrs T)(g:Slot T name id)(h:typeOf (.builtin id)=pure (.type "method_descriptor"))(hm:ph X id r)(ho:QE X o to)(ha:QA X (e::es) t)
  (c:attributeBase o name X.env (eval o X.env)=eval o X.env:=by rfl)
  (f:((backTo cpos (θ (e::es) X.env)).all (λx=> ! x.1)&&(backToKw cpos (keywordEach [] X.env)).all (λx=>x.1.isSome)
   &&decide ((e::es).length+([]:ξ).length+(if([]:ξ).isEmpty then 0 else 1)<30))=true:=by rfl)
  (d:(apos.endLine==cpos.line)=true:=by rfl)(hs:θ (e::es) X.env=(false,eval e X.env)::θ es X.env:=by rfl)(a:(backTo cpos (θ es X.env)).any (·.1)=false:=by rfl):
  QE X (.Call (.Attribute o name apos) (e::es) [] cpos) (Ea K T r to t):=by
 subst i;exact Q1 pa g h hm ho ha c f d hs a
def AT:ph X "list.pop" vS:=Bc
end
theorem kI{f:Str}{v:V}:∀{fs:List (Str×V)} (i:Nat),fs[i]? =↑(f,v)->(fs.map (·.1)).Nodup->fs.lookup f=↑v
 | [],i,h,_=>by cases h
 |(g,x)::r,0,h,_=>by
  cases JE h
  exact Os
 |(g,x)::r,i+1,h,nd=>by
  have h':r[i]? =↑(f,v):=h
  have a:g∉r.map (·.1)/\(r.map (·.1)).Nodup:=IG.mp nd
  have c:f∈r.map (·.1):=JC.mpr #[(f,v),Ij h',Z]
  have ne:f≠g:=λz=>a.1 (z▸c)
  rw[Iv,Lv ne];exact kI i h' a.2
theorem ly{f:Str}:∀{fs:List (Str×V)},f∉fs.map (·.1)->fs.lookup f=none
 | [],_=>rfl
 |(g,x)::r,h=>by
  have ne:f≠g:=λz=>h (z▸Jr ..)
  rw[Iv,Lv ne];exact ly λz=>h (Jv _ z)
theorem tf{f:Str}{v u:V}:∀{fs:List (Str×V)} (i:Nat),fs[i]? =↑(f,u)->(fs.map (·.1)).Nodup->QF f v fs=fs.set i (f,v)
 | [],i,h,_=>by cases h
 |(g,x)::r,0,h,_=>by
  cases JE h
  show(if f=f then _ else _)=_
  rw[Jc Z];rfl
 |(g,x)::r,i+1,h,nd=>by
  have h':r[i]? =↑(f,u):=h
  have a:g∉r.map (·.1)/\(r.map (·.1)).Nodup:=IG.mp nd
  have c:f∈r.map (·.1):=JC.mpr #[(f,u),Ij h',Z]
  have ne:¬g=f:=λz=>a.1 (z▸c)
  show(if g=f then _ else(g,x)::QF f v r)=_
  rw[Jb ne,tf i h' a.2];rfl
theorem oH{f:Str}{v:V}:∀{fs:List (Str×V)},f∉fs.map (·.1)->QF f v fs=fs++[(f,v)]
 | [],_=>rfl
 |(g,x)::r,h=>by
  have ne:¬g=f:=λz=>h (z▸Jr ..)
  show(if g=f then _ else(g,x)::QF f v r)=_
  rw[Jb ne,oH λz=>h (Jv _ z)];rfl
def Mv(S:Η)(H H':Hp):Prop:=∀c o,c∉S->H c=↑o->H' c=↑o
def Mv.trans(a:Mv S H H1)(b:Mv S H1 d):Mv S H d:=λc o n e=>b c o n (a c o n e)
def Mv.mono{d:Η}(a:Mv S H H')(h:∀c,c∉d->c∉S):Mv d H H':=λc o n e=>a c o (h c n) e
def _root_.L2.HJ.mv(a:HJ H H'):Mv S H H':=λc o _ e=>a c o e
def Mv.upd1{a:Δ}:Mv [a] H (HM H a o):=λc u n e=>by
 rw[qp (λz=>n (Ji.mpr z))];exact e
def NM.mv{b:Δ}(g:NM b n H H'):Mv [b] H H':=λc o h e=>g.kp c o (λz=>h (Ji.mpr z)) e
noncomputable def Ch:HO->Prop
 | .tup _=>False
 | .frz _ (.dK _)=>True
 | .frz _ _=>False
 |_=>True
def NT(S:Η)(H:Hp):Prop:=∀c,c∈S->∃o,H c=↑o/\Ch o
def Mv.rd(m:Mv S H H')(n:NT S H)(h:Rd H a (.tup xs)):Rd H' a (.tup xs):=by
 have c:a∉S:=λz=>by
  let#[o,e,no]:=n a z;rcases h with h|⟨o',h⟩
  .rw[e]at h;cases h;exact no
  .rw[e]at h;cases h;exact no
 rcases h with h|⟨o',h⟩
 .exact .inl (m _ _ c h)
 .exact .inr #[o',m _ _ c h]
def Mv.sqt{K:ι}(m:Mv S H H')(n:NT S H)(h:HX K H a xs):HX K H' a xs:=by
 rcases h with h|h
 .exact .inl (m.rd n h)
 .exact .inr h
inductive oK|mk (b:Δ)(c:Nat)(h1:vs=[-b])(h2:MZ H b c)(h3:c<100000000)(h4:∀p (t:Β) H',NM b (c+16) H H'->H p=none->H' p=↑(.tup (t.map V.int))->t.Perm Nf->Q (-p) H')
inductive j7|mk (b:Δ)(c:Nat)(h1:vs=[-b])(h2:MZ H b c)(h3:c<100000000)(h4:∀p (ks:Β) H',NM b (c+9) H H'->H p=none->H' p=↑(.tup (ks.map V.int))->zH ks->1<=ks.length->ks.length<=8->Q (-p) H')
def NM.fresh{b:Δ}(g:NM b n H H')(hb:MZ H b n)(h:H' c=Option.none):H c=Option.none:=by
 cases e:H c with
 |none=>rfl
 |some o=>
  by_cases z:c=b
  .subst z
   let#[_,_,_,e',_]:=g.bx;rw[e']at h;cases h
  .rw[g.kp c o z e]at h;cases h
def Bv{K:ι}{Q:VK}(h:Sq K H a xs)(q:∀l H',HJ H H'->HX K H' l xs->Q (-l) H'):(HQ K H a xs/\∀l,H l=none->Q (-l) (HM H l (.tup xs)))\/(HX K H a xs/\Q (-a) H):=
 h.elim (λh=> .inl #[h,λl c=>q l _ (HJ.upd c) (HX.of qb)]) λh=> .inr #[h,q a H (HJ.refl _) h]
def gD{K:ι}{H:Hp}{fs:List (Str×V)}(e:H p=↑(.ins C dx fs))(h:HX K H a xs):HX K (HM H p o) a xs:=by
 rcases h with(h|⟨u,h⟩)|h
 .exact .inl (.inl (by rw[qp (zO h e (by intro z;cases z))];exact h))
 .exact .inl (.inr #[u,by rw[qp (zO h e (by intro z;cases z))];exact h])
 .exact .inr h
def mf{X:Cx}{K:ι}(a:X.K=K):zj X (.builtin "len") (λxs H Q=>∃p ys,xs=[-p]/\(HQ K H p ys\/HX K H p ys)/\Q (.int (ys.length:Nat)) H):=by
 subst a;exact qT
def oh{k n:Nat}(h:k<n):seqIndex? (k:Int) n=↑k:=by
 unfold seqIndex?
 simp [Int.not_lt.2 (Int.natCast_nonneg k),h]
def Bu{ms zs:Β}{k:Nat}(h:k<ms.length):(zs++[ms[k]]++ms.eraseIdx k).Perm (zs++ms):=by
 rw[IU];refine List.Perm.append_left zs ?_
 rw[KP];have e:ms=ms.take k++ms[k]::ms.drop (k+1):=by rw[<- Ku h,KJ]
 refine List.Perm.trans (Ky (a:=ms[k]) (l₁:=ms.take k) (l₂:=ms.drop (k+1))).symm ?_
 rw[<- e]
def vc(ms:Β)(k:Nat):(ms.map V.int).eraseIdx k=(ms.eraseIdx k).map V.int:=by
 rw[KP,KP,JI,Kt,OQ]
def cq:zj X (.type "tuple") (λxs H Q=>∃p ys,xs=[-p]/\Sq X.K H p ys/\∀l H',HJ H H'->HX X.K H' l ys->Q (-l) H'):=by
 intro R0 s σ H xs a Q I r h;let#[p,ys,e,c,q]:=h;exact zp R0 s σ H xs a Q I r #[p,ys,e,Bv c q]
section
variable{b:Δ}{n:Nat}
def qQ{a x:Δ}(h:a≠x):a∉[x]:=λz=>h (Ji.mp z)
def zK(hb:MZ H b n):NT [b] H:=λc a=>by
 let#[_,_,_,e,_]:=hb;rw[Ji.mp a]
 exact#[_,e,trivial]
end
def MZ.mv{b:Δ}(h:MZ H b n)(m:Mv S H H')(ne:b∉S):MZ H' b n:=by
 let#[c,a,d,e,r]:=h
 exact#[c,a,d,m _ _ ne e,r]
def mB(n:Nat)(h:n<=100:=by omega):n<ζ:=Ka h ⋯
def NT.one{H:Hp}{o:HO}(e:H a=↑o)(n:Ch o):NT [a] H:=λc d=>#[o,by rw[Ji.mp d];exact e,n]
end L3
namespace L2
open PySem PySem.Spec PyProof.Rows
section
variable{κ:Type}[DecidableEq κ]
def QY(kvs:List (κ×V))(k:κ):Μ:=(kvs.find? λa=>decide (a.1=k)).map (·.2)
noncomputable def MX(kvs:List (κ×V))(k:κ)(v:V):List (κ×V):=
 if(kvs.any λa=>decide (a.1=k))=true then kvs.map (λa=>if a.1=k then(a.1,v)else a)else kvs++[(k,v)]
noncomputable def aI(kvs:List (κ×V))(k:κ):List (κ×V):=kvs.filter λa=>decide (a.1≠k)
def aY{p:κ×V}{r:List (κ×V)}{k:κ}(e:p.1=k):QY (p::r) k=↑p.2:=by simp [QY,Lx,e]
def aU{p:κ×V}{r:List (κ×V)}{k:κ}(e:¬p.1=k):QY (p::r) k=QY r k:=by simp [QY,Lx,e]
theorem pj(k:κ):∀kvs:List (κ×V),(kvs.any λa=>decide (a.1=k))=(QY kvs k).isSome
 | []=>rfl
 |p::r=>by
  rw[J4]
  by_cases e:p.1=k
  .simp only[aY e,Jj e,Bool.true_or,Option.isSome_some]
  .rw[aU e,Jn e,Bool.false_or];exact pj k r
def ab(kvs:List (κ×V))(k:κ)(v:V):(MX kvs k v).length<=kvs.length+1:=by
 unfold MX;split
 .rw[Je];lia
 .rw[Jy,JR,Ot];lia
def NK.isSome_eq(r:NK o u):o.isSome=u.isSome:=by
 cases o with
 |none=>cases u with
  |none=>rfl
  |some _=>exact(show False from r).elim
 |some _=>cases u with
  |none=>exact(show False from r).elim
  |some _=>rfl
theorem NK.getD(r:NK o u)(rd:HV d d'):HV (o.getD d) (u.getD d'):=by
 cases o with
 |none=>cases u with
  |none=>exact rd
  |some _=>exact(show False from r).elim
 |some _=>cases u with
  |none=>exact(show False from r).elim
  |some _=>exact r
def KV.val(r:KV kvs vs)(k:κ):NK (QY kvs k) (valueAt vs k):=by
 unfold KV at r
 induction r with
 |nil=>exact P5
 | @cons p q ps qs h t ih=>
  let#[h1,a]:=h
  by_cases e:p.1=k
  .have e':q.1=k:=h1.symm.trans e
   have b:valueAt (q::qs) k=↑q.2:=by simp [valueAt,Lx,e']
   rw[aY e,b];exact a
  .have e':¬q.1=k:=λz=>e (h1.trans z)
   have b:valueAt (q::qs) k=valueAt qs k:=by simp [valueAt,Lx,e']
   rw[aU e,b];exact ih
theorem KV.any(r:KV kvs vs)(k:κ):(kvs.any λa=>decide (a.1=k))=vs.any λa=>decide (a.1=k):=by
 unfold KV at r
 induction r with
 |nil=>rfl
 |cons h t ih=>rw[J4,J4,ih,h.1]
def KV.repl(r:KV kvs vs)(k:κ)(d:HV y u):
  KV (kvs.map λa=>if a.1=k then(a.1,y)else a) (vs.map λa=>if a.1=k then(a.1,u)else a):=by
 unfold KV at r⊢
 induction r with
 |nil=>exact .nil
 | @cons p q ps qs h t ih=>
  rw[JS,JS];refine .cons ?_ ih
  let#[h1,c]:=h
  by_cases e:p.1=k
  .rw[Jc e,Jc (h1.symm.trans e)];exact#[h1,d]
  .rw[Jb e,Jb (λz=>e (h1.trans z))];exact#[h1,c]
def KV.put(r:KV kvs vs)(k:κ)(a:HV y u):KV (MX kvs k y) (stored vs k u):=by
 unfold MX stored;rw[r.any k]
 by_cases e:(vs.any λc=>decide (c.1=k))=true
 .rw[Jc e,Jc e];exact r.repl k a
 .rw[Jb e,Jb e];exact Paired.snoc r #[Z,a]
def KV.drop(r:KV kvs vs)(k:κ):KV (aI kvs k) (without vs k):=by
 unfold KV at r⊢;unfold aI without
 induction r with
 |nil=>exact .nil
 | @cons p q ps qs h t ih=>
  let#[h1,c]:=h;rw[Kd,Kd]
  by_cases e:p.1=k
  .have a:¬decide (p.1≠k)=true:=by simp [e]
   have b:¬decide (q.1≠k)=true:=by simp [h1.symm.trans e]
   rw[Jb a,Jb b];exact ih
  .have e':¬q.1=k:=λz=>e (h1.trans z)
   have a:decide (p.1≠k)=true:=by simp [e]
   have b:decide (q.1≠k)=true:=by simp [e']
   rw[Jc a,Jc b];exact .cons #[h1,c] ih
def KV.keys{kvs:List (κ×V)}{vs:List (κ×Γ)}(r:KV kvs vs):kvs.map (·.1)=vs.map (·.1):=by
 unfold KV at r
 induction r with
 |nil=>rfl
 |cons h t ih=>rw[JS,JS,ih,h.1]
theorem KV.length(r:KV kvs vs):kvs.length=vs.length:=Paired.length r
def An(kvs:List (κ×V))(k:κ):(aI kvs k).length<=kvs.length:=List.length_filter_le _ _
end
def aF{k:qJ}(r:HV (kV k) u):(qS P w).is k u=true:=by
 cases k with
 |inl i=>let#[t,e]:=(show∃t,u=Γ.int i t from r);subst e;exact rf P w i t
 |inr x=>let#[t,e]:=(show∃t,u=Γ.str x t from r);subst e;exact rJ P w x t
theorem ki{P:Ξ}{w:Ω}:∀{ks:List qJ} {us:Ζ},HS (ks.map kV) us->ItemsAre (qS P w) ks us
 | [],_,r=>by rw[Ln]at r;cases r;exact .nil
 |k::ks,_,r=>by
  rw[JS]at r;cases r with
  |cons h t=>exact .cons (aF h) (ki t)
abbrev KT(H:Hp):List (List qJ×V)->List (List qJ×Δ×Γ)->Prop:=Paired λp q=>p.1=q.1/\H q.2.1=↑(.tup (p.1.map kV))/\HV p.2 q.2.2
def KT.val(r:KT H kvs xs)(k:List qJ):NK (QY kvs k) ((atKey xs k).map (·.2)):=by
 induction r with
 |nil=>exact P5
 | @cons p q ps qs h t ih=>
  let#[h1,_,a]:=h
  by_cases e:p.1=k
  .have e':q.1=k:=h1.symm.trans e
   have b:atKey (q::qs) k=↑q.2:=by simp [atKey,Lx,e']
   rw[aY e,b];exact a
  .have e':¬q.1=k:=λz=>e (h1.trans z)
   have b:atKey (q::qs) k=atKey qs k:=by simp [atKey,Lx,e']
   rw[aU e,b];exact ih
def KT.repl(r:KT H kvs xs)(k:List qJ)(f:HV y u):
  KT H (kvs.map λa=>if a.1=k then(a.1,y)else a) (xs.map (putAt k u)):=by
 induction r with
 |nil=>exact .nil
 | @cons p q ps qs h t ih=>
  rw[JS,JS];refine .cons ?_ ih
  let#[h1,c,d]:=h;unfold putAt
  by_cases e:p.1=k
  .rw[Jc e,Jc (h1.symm.trans e)];exact#[h1,c,f]
  .rw[Jb e,Jb (λz=>e (h1.trans z))];exact#[h1,c,d]
def KT.put(r:KT H kvs xs)(k:List qJ){b:Δ}(hb:H b=↑(.tup (k.map kV)))(a:HV y u):
  KT H (MX kvs k y) (storedH xs k b u):=by
 have e:(kvs.any λc=>decide (c.1=k))=(atKey xs k).isSome:=by
  rw[pj,(r.val k).isSome_eq,MB]
 unfold MX storedH;rw[e]
 by_cases q:(atKey xs k).isSome=true
 .rw[Jc q,Jc q];exact r.repl k a
 .rw[Jb q,Jb q];exact Paired.snoc r #[Z,hb,a]
def KT.keeps{H':Hp}(r:KT H kvs xs)(a:∀b ys,H b=↑(.tup ys)->H' b=↑(.tup ys)):KT H' kvs xs:=
 Paired.mapP r λ_ _ z=>#[z.1,a _ _ z.2.1,z.2.2]
def Cf(ok:NW P w H h)(e:Rd H a u):ML P w H h a u:=e.ok ok
def aG(ok:NW P w H h)(e:Rd H a (.dK kvs)):kvs.length<=ζ/\(a==sysModules)=false/\∃vs,KV kvs vs/\h.DictOf (qS P w) a vs:=
 show ML P w H h a (.dK kvs)from Cf ok e
def mh(ok:NW P w H h)(e:H a=↑(.dK kvs)):kvs.length<=ζ/\(a==sysModules)=false/\∃vs,KV kvs vs/\h.DictOf (qS P w) a vs:=aG ok (.inl e)
def cv{ks:List qJ}(ok:NW P w H h)(e:H a=↑(.tup (ks.map kV))):(tupleKind (qS P w)).is h ks a:=by
 let#[_,c,r,o,h1,f,n,d]:=(show ML P w H h a (.tup (ks.map kV))from ok a _ e)
 exact#[o,c.toArray,n,h1,f,d,by simpa using ki r]
def dc(ok:NW P w H h)(e:Rd H a (.dT kvs)):kvs.length<=ζ/\(a==sysModules)=false/\
  ∃xs,KT H kvs xs/\h.DictOfH (tupleKind (qS P w)) a xs:=by
 let#[z,y,xs,r,o,es,ep,h1,g,d,f,i]:=(show ML P w H h a (.dT kvs)from Cf ok e)
 refine#[z,y,xs,r,o,es,ep,h1,g,d,f,λx c=>?_,i]
 have all:∀{l:List (List qJ×V)} {m:List (List qJ×Δ×Γ)},KT H l m->∀x∈m,(tupleKind (qS P w)).is h x.1 x.2.1:=by
  intro l m q
  induction q with
  |nil=>intro x c;exact nomatch c
  | @cons p q ps qs hq t ih=>
   intro x c;rcases Jg.mp c with e|c
   .subst e
    exact cv ok (by rw[<- hq.1];exact hq.2.1)
   .exact ih x c
 exact all r x c
def FY(ok:NW P w H h)(e:H a=↑(.dT kvs)):kvs.length<=ζ/\(a==sysModules)=false/\
  ∃xs,KT H kvs xs/\h.DictOfH (tupleKind (qS P w)) a xs:=dc ok (.inl e)
def NB(H:Hp)(a:Δ)(y:V)(r:Μ):Prop:=
 (∃kvs k,Rd H a (.dK kvs)/\y=kV k/\r=QY kvs k)\/∃kvs k b,Rd H a (.dT kvs)/\y= .ref b/\H b=↑(.tup (k.map kV))/\r=QY kvs k
def N8(H:Hp)(a:Δ)(y v:V)(H':Hp):Prop:=
 (∃kvs k,H a=↑(.dK kvs)/\y=kV k/\kvs.length<ζ/\H'=HM H a (.dK (MX kvs k v)))\/
 ∃kvs k b,H a=↑(.dT kvs)/\y= .ref b/\H b=↑(.tup (k.map kV))/\kvs.length<ζ/\H'=HM H a (.dT (MX kvs k v))
theorem NB.k{H:Hp}{k:qJ}(e:H a=↑(.dK kvs)):NB H a (kV k) (QY kvs k):= .inl #[kvs,k,.inl e,9]
theorem N8.k{H:Hp}{k:qJ}(e:H a=↑(.dK kvs))(hl:kvs.length<ζ):N8 H a (kV k) v (HM H a (.dK (MX kvs k v))):= .inl #[kvs,k,e,Z,hl,Z]
section
variable{k:qJ}
def HN.big(I:HN X R0 σ H s):sysModules<s.heap.objs.size:=by
 have h:η<s.heap.objs.size:=(I.mod.glob.keeps I.bk).lt
 exact Ke ⋯ h
def yt{Q:HG}(hu:A.units+1<cLine)(I:HN X R0 σ H s)(g:NB H a y ↑v)(q:HV y u)(h:∀f s',HN X R0 σ H s'->HV v f->Q f s'):
  ε (model X.prog X.w) A (getItem (-a) u) Q E s:=by
 rcases g with⟨kvs,k,e,j,l⟩|⟨kvs,k,b,e,j,w,l⟩
 .subst j
  let#[z,t,vs,c,n]:=aG I.hok e;let#[f,i,d]:=NK.some_of (v:=v) (o:=valueAt vs k) (by rw[l];exact c.val k)
  exact wpAny_getItem_of (aF q) n.mapOf i (h f _ (I.tok _) d)
 .subst j
  cases(show u=Γ.ref b from q)
  let#[z,t,xs,c,n]:=dc I.hok e;let#[f,i,d]:=NK.some_of (v:=v) (o:=(atKey xs k).map (·.2)) (by rw[l];exact c.val k)
  let#[p,r,m]:=JO.mp i;refine wpAny_getItem_heap (LW hu) (cv I.hok w) n r ?_
  rw[m];exact h f _ (I.tok _) d
def GM{Q:HG}(hu:A.units+1<cLine)(I:HN X R0 σ H s)(g:NB H a y o)(j:HV y u)(h:∀s',HN X R0 σ H s'->Q (.bool o.isSome) s'):
  ε (model X.prog X.w) A (Py .In u (-a)) Q E s:=by
 rcases g with⟨kvs,k,e,f,l⟩|⟨kvs,k,b,e,f,m,l⟩
 .subst f
  let#[z,d,vs,c,i]:=aG I.hok e;refine wpAny_in_of (aF j) d i.mapOf ?_
  rw[<- (c.val k).isSome_eq,<- l];exact h _ (I.tok _)
 .subst f
  cases(show u=Γ.ref b from j)
  let#[z,d,xs,c,i]:=dc I.hok e;refine wpAny_in_heap (LW hu) (cv I.hok m) d i ?_
  have q:=(c.val k).isSome_eq;rw[MB]at q;rw[<- q,<- l];exact h _ (I.tok _)
def Dn{Q:HG}(hu:A.units+1<cLine)(I:HN X R0 σ H s)(g:NB H a y o)(j:HV y u)(h:∀s',HN X R0 σ H s'->Q (.bool (! o.isSome)) s'):
  ε (model X.prog X.w) A (Py .NotIn u (-a)) Q E s:=by
 rcases g with⟨kvs,k,e,f,l⟩|⟨kvs,k,b,e,f,m,l⟩
 .subst f
  let#[z,d,vs,c,i]:=aG I.hok e;refine wpAny_notIn_of (aF j) d i.mapOf ?_
  rw[<- (c.val k).isSome_eq,<- l];exact h _ (I.tok _)
 .subst f
  cases(show u=Γ.ref b from j)
  let#[z,d,xs,c,i]:=dc I.hok e;refine wpAny_notIn_heap (LW hu) (cv I.hok m) d i ?_
  have q:=(c.val k).isSome_eq;rw[MB]at q;rw[<- q,<- l];exact h _ (I.tok _)
def gJ{t':Nat}(I:HN X R0 σ H s)(d:yi (H a))(hs:Ψ.SameBut a s.heap h')(he:∃q,h'.get? a=↑q)(c:ML X.prog X.w (HM H a ob) h' a ob):
  HN X R0 σ (HM H a ob) {s with heap:=h',toks:=t'}:=
 I.write (x:=a) (e:=a) d (.inl Z) (λb q f z=>(hs.2 b f).trans z) he c
def jo{h':Ψ}{kvs:List (qJ×V)}(z:kvs.length<=ζ)(hd:(a==sysModules)=false)(c:KV kvs vs)(d:h'.DictOf (qS P w) a vs):
  ML P w H' h' a (.dK kvs):=#[z,hd,vs,c,d]
def vQ{Q:Unit->Θ->Prop}(hu:A.units+1<cLine)(I:HN X R0 σ H s)(g:N8 H a y v H')(D:HV y u)(x:HV v r)(h:∀s',HN X R0 σ H' s'->Q () s'):
  ε (model X.prog X.w) A (setItem (-a) u r) Q E s:=by
 rcases g with⟨kvs,k,e,o,l,j⟩|⟨kvs,k,b,e,o,B,l,j⟩
 .subst o j
  let#[z,p,vs,d,w]:=mh I.hok e;have t:vs.length<=ζ:=by rw[<- d.length];exact z
  have m:(MX kvs k v).length<=ζ:=by have:=ab kvs k v;lia
  refine wpAny_setItem_pairs (hsz:=t) (aF D) w λh' f n=>h _ ?_
  have J:∃q,h'.get? a=↑q:=let⟨q,_,_,i,_⟩:=f;#[q,i]
  exact gJ I (by rw[e];exact P5) n J (jo m p (d.put k x) f)
 .subst o j
  cases(show u=Γ.ref b from D)
  let#[z,p,xs,d,w]:=FY I.hok e;have t:xs.length<=ζ:=by rw[<- Paired.length d];exact z
  have m:(MX kvs k v).length<=ζ:=by have:=ab kvs k v;lia
  refine wpAny_setItem_heap (hsz:=t) (LW hu) (cv I.hok B) w λh' f n=>h _ ?_
  let#[q,es,ep,i,K,F,G,_,L]:=f;refine gJ I (by rw[e];exact P5) n #[q,i] #[m,p,_,(d.put k B x).keeps λc ys C=>?_,q,es,ep,i,K,F,G,L]
  rw[qp (zO C e (λz=>nomatch z))]
  exact C
def Ga{v:V}{more:Ζ}{Q:HG}(I:HN X R0 σ H s)(e:H a=↑(.dK kvs))(g:HV (kV k) u)(l:QY kvs k=↑v)(hm:more=[]\/∃x,more=[x])
  (h:∀f s',HN X R0 σ (HM H a (.dK (aI kvs k))) s'->HV v f->Q f s'):ε (model X.prog X.w) A (call (.builtin "dict.pop") (.ref a::u::more)) Q E s:=by
 let#[z,w,vs,c,m]:=mh I.hok e;let#[f,y,j]:=NK.some_of (v:=v) (o:=valueAt vs k) (by rw[<- l];exact c.val k)
 have n:(keyPart u).isSome=true:=by
  cases k with
  |inl i=>let#[t,q]:=(show∃t,u=Γ.int i t from g);subst q;rfl
  |inr x=>let#[t,q]:=(show∃t,u=Γ.str x t from g);subst q;rfl
 have B:argsOk "dict.pop" #[.ref a::u::more,[]]:=by
  rcases hm with q|⟨x,q⟩
  .subst q;exact PySem.F.args_dict_pop_2 _ _
  .subst q;exact PySem.F.args_dict_pop_3 _ _ _
 refine call_meetsIn PySem.F.slot_dict_pop m.typeIs PySem.F.entry_dict_pop B (meets_dict_pop_there (qS X.prog X.w) a (aF g) more hm n)
  #[vs,f,m,by rw[<- c.length];exact z,y,λh' d r=>h f _ ?_ j]
 have p:∃q,h'.get? a=↑q:=let⟨q,_,_,hq,_⟩:=d;#[q,hq]
 exact gJ I (by rw[e];exact P5) r p (jo (JN (An kvs k) z) w (c.drop k) d)
def Ge{Q:HG}(I:HN X R0 σ H s)(e:Rd H a (.dK kvs))(h:∀t s',HN X R0 σ H s'->Q (.int kvs.length t) s'):ε (model X.prog X.w) A (call (.builtin "len") [-a]) Q E s:=by
 let#[z,d,vs,c,f]:=aG I.hok e;refine call_len_dict d f (by rw[<- c.length];rw[JD]at z;lia) ?_
 rw[<- c.length];exact h _ _ (I.tok _)
end
def Bk(i:Φ):Prop:=∀c a,subscripted i false c a=operate [c,a] (getItem c a)
def Dw{prog:Ξ}{w:Ω}{A:Rj}{E:HG}{s:Θ}{g:Env}{value a:Φ}{pos:Pos}{T id:String}{Q:HG}
  (hl:typeLookup (.type T) "__getitem__"=pure ↑(.builtin id))(hs:Bk a)
  (h:ε (model prog w) A (eval value g) (λo e=>ε (model prog w) A (eval a g) (λi c=>c.TypeIs o T/\ε (model prog w) A (getItem o i) Q E c) E e) E s):
  ε (model prog w) A (eval (.Subscript value a pos) g) Q E s:=by
 refine Subscript_ (Jx h (λo e l=>Jx l (λi c d=>?_) λ_ _ x=>x) λ_ _ x=>x)
 let#[n,d]:=d;unfold subscriptTail;refine Ja ?_
 rw[getitemInPython_of_ne n.not_modules];refine Ja (Ls n hl ?_)
 have j:ε (model prog w) A (subscripted a false o i) (λr f=>ε (model prog w) A (letTemporaryGo value o r >>= λ_=>pure r) Q E f) E c:=by
  rw[hs o i];exact wpAny_operating (Jx d (λr f m=>Ja (wpAny_letTemporaryGo (Jd m))) λ_ _ x=>x)
 first
  |exact Jd (Ja j)
  |exact Ja (Jd (Ja j))
  |exact Ja j
def rh(I:HN X R0 σ H s)(g:NB H a y o):s.TypeIs (-a) "dict":=by
 rcases g with⟨kvs,k,e,_,_⟩|⟨kvs,k,b,e,_,_,_⟩
 .let#[_,_,vs,_,c]:=aG I.hok e
  exact c.typeIs
 .let#[_,_,xs,_,c]:=dc I.hok e
  exact c.typeIs
noncomputable def BR(td ty:TE):TE:=λσ H Q=>td σ H λx H1=>ty σ H1 λy c=>∃a v,x= .ref a/\NB c a y ↑v/\Q v c
noncomputable def DS(ty td:TE):TE:=λσ H Q=>ty σ H λy H1=>td σ H1 λx c=>∃a o,x= .ref a/\NB c a y o/\Q (.bl o.isSome) c
noncomputable def sU(ty td:TE):TE:=λσ H Q=>ty σ H λy H1=>td σ H1 λx c=>∃a o,x= .ref a/\NB c a y o/\Q (.bl (! o.isSome)) c
noncomputable def Co(td ty tv:TE):TS:=λD σ H=>tv σ H λv H1=>td σ H1 λx d=>ty σ d λy e=>∃a c,x= .ref a/\N8 e a y v c/\D.nx σ c
section
variable{td:TE}
def CF(hu:X.A.units+1<cLine)(ho:PE X o td)(hi:PE X i ty)(hs:Bk i):PE X (.Subscript o i pos) (BR td ty):=by
 intro R0 s σ H Q I h;refine Dw PySem.F.slot_dict_getitem.lookup hs (qz (ho R0 s σ H _ I h) λu e ⟨x,H1,p,n,q⟩=>qz (hi R0 e σ H1 _ p q) λt w l=>?_)
 let#[y,r,d,m,a,v,ex,g,f]:=l;subst ex
 obtain rfl:u=Γ.ref a:=n
 exact#[rh d g,yt hu d g m λA z j c=>#[v,r,j,c,f]]
def Fb(hu:X.A.units+1<cLine)(hi:PE X i ty)(ho:PE X o td):PC X .In i o (DS ty td):=by
 intro R0 s σ H Q I h;refine qz (hi R0 s σ H _ I h) λt c ⟨y,H1,n,l,p⟩=>qz (ho R0 c σ H1 _ n p) λu v j=>?_
 let#[x,q,r,m,a,e,ex,g,d]:=j;subst ex
 obtain rfl:u=Γ.ref a:=m
 exact GM hu r g l λw f=>#[.bl e.isSome,q,f,Z,d]
def yn(hu:X.A.units+1<cLine)(hi:PE X i ty)(ho:PE X o td):PC X .NotIn i o (sU ty td):=by
 intro R0 s σ H Q I h;refine qz (hi R0 s σ H _ I h) λt c ⟨y,H1,n,l,p⟩=>qz (ho R0 c σ H1 _ n p) λu v j=>?_
 let#[x,q,r,m,a,e,ex,g,d]:=j;subst ex
 obtain rfl:u=Γ.ref a:=m
 exact Dn hu r g l λw f=>#[.bl (! e.isSome),q,f,Z,d]
def DF(hu:X.A.units+1<cLine)(ho:PE X o td)(hi:PE X i ty)(hv:PE X value tv)(hs:swapsWith value ↑(.Subscript o i pos') pos.line X.env=pure false):
  PS X (.Assign [.Subscript o i pos'] value pos) (Co td ty tv):=by
 intro R0 s σ H D I h;refine wpAny_Assign_Subscript (qz (hv R0 s σ H _ I h) λr m ⟨v,H1,d,f,q⟩=>qz (ho R0 m σ H1 _ d q) λu c ⟨x,B,t,p,z⟩=>qz (hi R0 c σ B _ t z) λF C l=>?_) hs
 let#[y,E,n,A,a,j,ex,g,e]:=l;subst ex
 obtain rfl:u=Γ.ref a:=p
 exact vQ hu n g A f λG w=>#[σ,j,w,e]
end
def pH(h:Ψ)(hb:sysModules<h.objs.size):ML P w H (h.push {cls:= .type "dict",data:= .dict (AA [])}) h.objs.size (.dK []):=
 #[JB _,IS.mpr (Ne.symm (Jm hb)),[],.nil,Ψ.DictOf.new h]
def wX:TE:=λ_ H Q=>∀p,H p=none->Q (-p) (HM H p (.dK []))
def AY:PE X (.Dict [] [] pos) wX:=λR0 s σ H Q I h=>
 wpAny_Dict_empty #[-s.heap.objs.size,_,I.laid (a:=s.heap.objs.size) (o:= .dK []) (t':=s.toks) (λ_ _ q=>Jk _ q) (Jf _) (pH s.heap I.big),Z,h _ (I.hok.fresh (Jf _))]
noncomputable def pE:List (TE×TE)->St->Hp->(List (V×V)->Hp->Prop)->Prop
 | [],_,H,Q=>Q [] H
 |(tk,tv)::r,σ,H,Q=>tk σ H λx H1=>tv σ H1 λy a=>pE r σ a λps c=>Q ((x,y)::ps) c
abbrev VV:List (V×V)->List (Γ×Γ)->Prop:=Paired λp q=>HV p.1 q.1/\HV p.2 q.2
def vW(X:Cx)(pos:Pos)(keys:List μ)(a:Ι)(c:List (TE×TE)):Prop:=
 ∀(R0:HI) (s:Θ) (σ:St) (H:Hp) (Q:List (V×V)->Hp->Prop),HN X R0 σ H s->pE c σ H Q->
  ε (model X.prog X.w) X.A (evalPairs (pairTrees keys a X.env pos)) (λvs s'=>∃ps H',HN X R0 σ H' s'/\VV ps vs/\Q ps H') X.xe s
def Dq:vW X pos [] [] []:=λR0 s σ H Q I h=>pairTrees_nil_walk #[[],H,I,.nil,h]
def AD{k:Φ}(hk:PE X k tk)(hv:PE X v tv)(hr:vW X pos ks vs a):
  vW X pos (↑k::ks) (v::vs) ((tk,tv)::a):=λR0 s σ H Q I h=>
 pairTrees_cons_walk (qz (hk R0 s σ H _ I h) λu d ⟨x,H1,l,j,m⟩=>qz (hv R0 d σ H1 _ l m) λr f ⟨y,p,q,i,e⟩=>
  qz (hr R0 f σ p _ q e) λt w ⟨ps,o,g,c,n⟩=>#[(x,y)::ps,o,g,.cons #[j,i] c,n])
noncomputable def ZN(kvs more:List (qJ×V)):List (qJ×V):=more.foldl (λa c=>MX a c.1 c.2) kvs
def KV.merge:∀{more:List (qJ×V)} {rs:List (qJ×Γ)} {kvs:List (qJ×V)} {vs:List (qJ×Γ)},KV more rs->KV kvs vs->KV (ZN kvs more) (merged vs rs):=by
 intro more rs kvs vs r;unfold KV at r
 induction r generalizing kvs vs with
 |nil=>intro q;exact q
 | @cons p q ps qs h t ih=>
  intro a;have e:KV (MX kvs p.1 p.2) (stored vs q.1 q.2):=by
   have:=a.put p.1 h.2
   rw[<- h.1];exact this
  exact ih e
theorem eZ:∀(more kvs:List (qJ×V)),(ZN kvs more).length<=kvs.length+more.length
 | [],kvs=>by show kvs.length<=kvs.length+0;lia
 |p::r,kvs=>by
  have h1:=eZ r (MX kvs p.1 p.2);have a:=ab kvs p.1 p.2
  show(ZN (MX kvs p.1 p.2) r).length<=_
  rw[JR];lia
theorem iY{P:Ξ}{w:Ω}:∀{kvs:List (qJ×V)} {d:List (Γ×Γ)},VV (kvs.map λe=>(kV e.1,e.2)) d->∃rs,Carries (qS P w) d rs/\KV kvs rs
 | [],_,r=>by rw[Ln]at r;cases r;exact#[[],P5,.nil]
 |p::kvs,_,r=>by
  rw[JS]at r;cases r with
  | @cons a b as bs h t=>
   let#[rs,c,q]:=iY (P:=P) (w:=w) t
   let#[g,f]:=b
   exact#[(p.1,f)::rs,#[aF h.1,Z,c],.cons #[Z,h.2] q]
noncomputable def Ce(a:List (TE×TE)):TE:=λσ H Q=>∀p,H p=none->pE a σ (HM H p (.dK [])) λps d=>d p=↑(.dK [])/\∃kvs:List (qJ×V),ps=kvs.map (λc=>(kV c.1,c.2))/\kvs.length<=15/\Q (-p) (HM d p (.dK (ZN [] kvs)))
def Du{keys:List μ}(h:vW X pos keys d g)(f:keys.all (·.isSome)=true)(hl:keys.length=d.length)(p:keys≠[])
  (l:keys.length<=15):PE X (.Dict keys d pos) (Ce g):=by
 intro R0 s σ H Q I q;have u:=I.hok.fresh (Jf s.heap.objs.size);have r:=I.laid (a:=s.heap.objs.size) (o:= .dK []) (h':=s.heap.push {cls:= .type "dict",data:= .dict (AA [])}) (t':=s.toks) (λ_ _ q=>Jk _ q) (Jf _) (pH s.heap I.big)
 refine wpAny_Dict_walk (knd:=qS X.prog X.w) f hl p l (qz (h R0 _ σ _ _ r (q _ u)) λJ G v=>?_)
 let#[ps,K,m,j,e,kvs,ep,F,B]:=v;subst ep;let#[rs,c,x]:=iY (P:=X.prog) (w:=X.w) j
 let#[z,C,n,y,E]:=mh m.hok e;cases y;refine#[rs,c,E,λh' i t=>#[-s.heap.objs.size,_,?_,Z,B]]
 have D:(ZN [] kvs).length<=ζ:=by
  have h1:=eZ kvs [];rw[Ot]at h1;rw[JD];lia
 have A:∃q,h'.get? s.heap.objs.size=↑q:=let⟨q,_,_,hq,_⟩:=i;#[q,hq]
 exact gJ m (by rw[e];exact P5) t A (jo D C (x.merge .nil) i)
structure M1(X:Cx)(o:Φ)(m:Str)(apos:Pos)(e:Φ)(cpos:Pos):Prop where
 base:attributeBase o m X.env (eval o X.env)=eval o X.env
 few:((backTo cpos (θ [e] X.env)).all (λx=> ! x.1)&&(backToKw cpos (keywordEach [] X.env)).all (λx=>x.1.isSome)
  &&decide (([e]:Ι).length+([]:ξ).length+(if([]:ξ).isEmpty then 0 else 1)<30))=true
 line:(apos.endLine==cpos.line)=true
 trees:backTo cpos (θ [e] X.env)=[(false,eval e X.env)]
def EC(H:Hp)(a:Δ):Prop:=(∃kvs,Rd H a (.dK kvs))\/∃kvs,Rd H a (.dT kvs)
def vT(I:HN X R0 σ H s)(d:EC H a):
  s.TypeIs (-a) "dict"/\(∀b,Γ.ref a= .ref b->∃c,s.heap.get? b=↑c/\c.dict=none)/\(a==sysModules)=false:=by
 rcases d with⟨kvs,e⟩|⟨kvs,e⟩
 .let#[_,h,vs,_,f]:=aG I.hok e
  refine#[f.typeIs,λb q=>?_,h]
  cases q;let#[c,_,_,h1,g,_]:=f
  exact#[c,h1,g.2.1]
 .let#[_,h,xs,_,f]:=dc I.hok e
  refine#[f.typeIs,λb q=>?_,h]
  cases q;let#[c,_,_,h1,g,_]:=f
  exact#[c,h1,g.2.1]
def Fc{Q:HG}(hu:A.units+1<cLine)(I:HN X R0 σ H s)(g:NB H a y o)(m:HV y u)(h:∀j s',HN X R0 σ H s'->HV (o.getD .non) j->Q j s'):
  ε (model X.prog X.w) A (call (.builtin "dict.get") [-a,u]) Q E s:=by
 rcases g with⟨kvs,k,e,i,l⟩|⟨kvs,k,b,e,i,n,l⟩
 .subst i
  let#[z,f,vs,c,d]:=aG I.hok e;refine call_meetsIn MC d.typeIs PySem.F.entry_dict_get (PySem.F.args_dict_get_2 _ _) (meets_dict_get (qS X.prog X.w) a (aF m) f) #[_,d.mapOf,h _ _ (I.tok _) ?_]
  rw[l]
  exact(c.val k).getD Z
 .subst i
  cases(show u=Γ.ref b from m)
  let#[z,f,xs,c,d]:=dc I.hok e;refine call_meetsIn MC d.typeIs PySem.F.entry_dict_get (PySem.F.args_dict_get_2 _ _) (meetsH_dict_get (tupleKind (qS X.prog X.w)) a b f) #[LW hu,k,xs,cv I.hok n,d,h _ _ (I.tok _) ?_]
  rw[l]
  exact(c.val k).getD Z
noncomputable def wT(td ty:TE):TE:=λσ H Q=>td σ H λx H1=>∃a,x= .ref a/\EC H1 a/\ty σ H1 λy c=>∃o,NB c a y o/\Q (o.getD .non) c
noncomputable def vK(td ty:TE):TE:=λσ H Q=>td σ H λx H1=>∃a,x= .ref a/\EC H1 a/\ty σ H1 λy c=>∃kvs k v,c a=↑(.dK kvs)/\y=kV k/\QY kvs k=↑v/\Q v (HM c a (.dK (aI kvs k)))
section
variable{td:TE}
def BB(hu:X.A.units+1<cLine)(ho:PE X o td)(he:PE X e ty)(m:M1 X o "get" apos e cpos):PE X (.Call (.Attribute o "get" apos) [e] [] cpos) (wT td ty):=by
 intro R0 s σ H Q I h;refine wpAny_Call_method m.base m.few m.line PySem.F.plainAttrs_dict MC PySem.F.type_dict_get (qz (ho R0 s σ H _ I h) λu l j=>?_)
 let#[x,H1,f,p,a,ex,d,q]:=j;subst ex
 obtain rfl:u=Γ.ref a:=p
 let#[v,i,_]:=vT f d;exists v,i
 rw[m.trees];refine Mw Z (Mz (So (qz (he R0 l σ H1 _ f q) λD B ⟨y,z,r,w,A,g,t⟩=>Sw ?_)))
 exact Fc hu r g w λE C n c=>#[_,z,n,c,t]
def vZ:zj X (.builtin "len") (λxs H Q=>∃a kvs,xs=[V.ref a]/\H a=↑(.dK kvs)/\Q (.int kvs.length) H):=by
 intro R0 s σ H xs f Q I r h;let#[a,kvs,rfl,e,q]:=h;let#[u,rfl,d]:=zT r;cases d;exact Ge I (.inl e) λt s' c=>#[.int kvs.length,H,c,#[t,Z],q]
end
end L2
namespace L3
open PySem PySem.Spec PyProof.Rows L2
open PySem.W (kdl_dict kdl_extend)
def mX{Q:Ζ->Θ->Prop}(l:A.handled=none)(hm:s.heap.DictAt (qS prog w) d kvs ep)(lo:(d==sysModules)=false)(hn:kvs.length<=ζ)
  (h:∀(vs:Ζ) (h':Ψ) (tk:Nat),s.heap.objs.size<h'.objs.size->(∀b o,s.heap.get? b=↑o->h'.get? b=↑o)->vs.length=kvs.length->(∀(j:Nat) (v:Γ),vs[j]? =↑v->∃k x,kvs[j]? =↑(k,x)/\(qS prog w).is k v=true)->Q vs {s with heap:=h',toks:=tk}):
  ε (model prog w) A (collect (-d)) Q E s:=by
 unfold collect;refine Ja (wpAny_runValue (I0 entry_proto_collect' ?_))
 show ε _ _ (do again (.builtin "list.__iadd__" #[[<- newList [],-d],[]])) _ _ s
 refine Ja (wpAny_newList (Jd #[Sv _ nofun,I0 entry_list_iadd' ?_]))
 rw[R3 PySem.F.plain_list_iadd _];have c:d<s.heap.objs.size:=hm.lt_size
 refine kdl_extend (s:={s with heap:=s.heap.push (R5 "list" (AA []) 0)}) (R:=λr s'=>match r with
   | .ok (.ret v)=>ε (model prog w) A (match v with
    | .ref a=>(do
     let o <- load a
     match o.data with
     | .seq xs _=>pure xs.toList
     |_=>unsupported "internal:collect")
    |_=>unsupported "internal:collect") Q E s'
   | .ok _=>False
   | .error e=>E e s') (kdl_dict (knd:=qS prog w) (ep:=ep) (kvs:=kvs) lo) l (hm.push _) s.heap.objs.size (J1 c) (J1 c) _ 0 (Jp _ Z) (λh' tk f c' hk g i=>?_) hn
 show ε (model prog w) A (do
   let o <- load s.heap.objs.size
   match o.data with
   | .seq xs _=>pure xs.toList
   |_=>unsupported "internal:collect") Q E {s with heap:=h',toks:=tk}
 refine Ja (wpAny_load g ?_)
 refine Jd (h f.toList h' tk (Jl g) (λb o e=>hk b o (Jm (Jl e)) (Jk _ e)) (by rw[Jq];exact i.1) λj v e=>i.2 j v (by rw[<- KI];exact e))
theorem jv:∀{us:Ζ} {a:Α},us.length=a.length->(∀(j:Nat) (v:Γ),us[j]? =↑v->∃x t,a[j]? =↑x/\v= .str x t)->StrsAre us a
 | [],[],_,_=> .nil
 |u::us,x::a,hl,h=>by
  let#[y,t,c,d]:=h 0 u Z;cases c;subst d;exact .cons _ _ (jv (Nat.succ.inj hl) λj v e=>h (j+1) v e)
 | [],_::_,hl,_=>by cases hl
 |_::_,[],hl,_=>by cases hl
def re{p:Α}{Q:HG}(N:A.handled=none)(hm:s.heap.DictAt (qS prog w) d kvs ep)(lo:(d==sysModules)=false)(q:kvs.map (·.1)=p.map Pt)(t:p.length<64)
  (h:∀(h':Ψ) (tk:Nat) (l:Δ) (its:Ζ) (n:Nat) (a:Α),s.heap.objs.size<=l->(∀b o,s.heap.get? b=↑o->h'.get? b=↑o)->h'.get? l=↑(R5 "list" its.toArray n)->StrsAre its a->a.Perm p->sortedS a=true->Q (-l) {s with heap:=h',toks:=tk}):
  ε (model prog w) A (call (.builtin "sorted") [-d]) Q E s:=by
 have c:kvs.length=p.length:=by have:=J0 List.length q;rwa [Je,Je]at this
 refine SK kind_sorted plain_sorted entry_sorted (args_sorted1 _) ?_
 unfold γ.«sorted»
 refine Ja (m:=checkCount "sorted" 1 1 _) (Jd ?_)
 refine Ja (mX (ep:=ep) (kvs:=kvs) N hm lo (by rw[JD];lia) λi h' tk z hk D L=>?_)
 have C:StrsAre i p:=jv (D.trans c) λj v e=>by
  let#[k,x,R,O]:=L j v e;have r:(kvs.map (·.1))[j]? =↑k:=by rw[Jo,R];rfl
  rw[q,Jo]at r;cases e4:p[j]? with
  |none=>rw[e4]at r;cases r
  |some y=>
   rw[e4]at r;have P:Pt y=k:=JE r
   subst P;have I:Γ.isStrOf y v=true:=O
   cases v<;>simp [Γ.isStrOf]at I
   subst I
   exact#[6]
 refine Ja (wpAny_newList ?_)
 have f:(h'.push (R5 "list" i.toArray 0)).get? h'.objs.size=↑(R5 "list" i.toArray 0):=Jp _ Z
 show ε _ _ _ _ _ {s with heap:=h'.push (R5 "list" i.toArray 0),toks:=tk}
 refine Ja (JM (JY slot_list_sort #[_,f,Z] entry_list_sort (list_sort_treeK (κ:=PyProof.Rows.strKind) strKind_oneLt f C.keysOf (λG F rest e=>keyKind_strs (by rw[<- e];exact C)) (by rw[D,c];exact t) λg T M=>#[0,?_]) (args_list_sort _)))
 let#[a,S,K,J]:=sorted_out_str C T M;let#[u,B]:∃u,(sortedHeap (h'.push (R5 "list" i.toArray 0)) h'.objs.size i ((arrOf g).map (·.2))).get? h'.objs.size=↑(R5 "list" ((arrOf g).map (·.2)) u):=sortedHeap_at f
 refine Jd #[0,h _ tk h'.objs.size ((arrOf g).map (·.2)).toList u a (LM z) (λb o e=>?_) (by rw[B]) S K J]
 have e':=hk b o e;have H:b<h'.objs.size:=Jl e'
 rw[sortedHeap_old (Jm H) (by rw[JU];exact Ik H)]
 exact Jk _ e'
theorem bK:∀{us:Ζ} {a:Α},StrsAre us a->HS (a.map V.str) us
 | [],[],.nil=> .nil
 |_,_::_,.cons _ _ t=> .cons #[0] (bK t)
def mU{X:Cx}(hc:X.calm=true):zj X (.builtin "sorted") (λxs H Q=>∃(d:Δ) (kvs:List (qJ×V)) (f:Α),xs=[-d]/\H d=↑(.dK kvs)/\kvs.map (·.1)=f.map Pt/\f.length<64/\
  ∀l c,H l=none->c.Perm f->sortedS c=true->Q (-l) (HM H l (.lst (c.map V.str)))):=by
 intro R0 s σ H xs K Q I r h;let#[d,kvs,f,rfl,y,g,i,q]:=h;let#[u,rfl,D]:=zT r;cases D;let#[z,lo,vs,m,o,es,ep,B,A,G,F,x,w]:=mh I.hok y;have e:vs.map (·.1)=f.map Pt:=by rw[<- g,m.keys]
 refine re (I.ok.hd hc) (#[o,es,B,A,G,F,x,w]:s.heap.DictAt (qS X.prog X.w) d vs ep) lo e i λh' tk l j n c t hk J E p v=>?_
 refine#[-l,_,I.laid (a:=l) (o:= .lst (c.map V.str)) (t':=tk) hk t ?_,Z,q l c (I.hok.fresh t) p v]
 have C:=bK E;refine#[?_,j,n,C,J]
 have:=p.length_eq
 rw[Je,JD];lia
open Sem (wp)
def xy(k:Nat)(js:Κ)(g:TG)(tc:TT)(te:TE)(σ:L2.St)(Q:VK)(J:It)(H1:Hp):Prop:=∃W:Nat->Nat->Ε->L2.St->Hp->Prop,(∃m,W 0 m [] (σ0 k js σ) H1)/\∀i m ys f H,W i m ys f H->
 (J.stop i H/\∀p,H p=none->Q (-p) (HM H p (.lst ys)))\/(J.go i H/\ys.length<ζ/\∀x H',J.yld i H x H'->g x f H' λa j=>∃(N:V->Hp->Prop) (h:Hp->Prop),(∀v d,N v d->∃e,e<m/\W (i+1) e (ys++[v]) a d)/\
  (∀d,h d->∃e,e<m/\W (i+1) e ys a d)/\tc a j λc d=>if c=true then te a d N else h d)
noncomputable def xm(k:Nat)(js:Κ)(a:TI)(g:TG)(tc:TT)(te:TE):TE:=λσ H Q=>a σ H (xy k js g tc te σ Q)
def pY{y a p j:Φ}{it u:Γ}{c:Env}(I:Nat->Θ->Prop)
  (turn:∀n s,I n s->ε (model prog w) A (pyNext it) (λr f=>match r with
   |none=>R (.ok .next) f
   | some v=>ε (model prog w) A (letOwnedTupleGo a it v) (λ_ e=>ε (model prog w) A (assign a c v) (λ_ t=>ε (model prog w) A (isTrue j c (eval j c)) (λok d=>
     if ok=true then ε (model prog w) A (eval y c) (λx q=>
      ε (model prog w) A (call (.builtin "list.append") [u,x]) (λ_ o=>∃m,m<n/\I m o) (λ_ _=>False) q) (λ_ _=>False) d else∃m,m<n/\I m d)
     (λ_ _=>False) t) (λ_ _=>False) e) (λ_ _=>False) f) (λ_ _=>False) s)
  (n:Nat)(h:I n s):
  codeAny (model prog w) A (.compLoop (.ListComp y [#[a,p,[j],(0)]] g pos) 0 it u c) R s:=by
 refine codeAny_loop Z I (λn s E=>?_) n h
 show ε _ _ ((compTurn (.ListComp y [#[a,p,[j],(0)]] g pos) 0 it u c).onRaise (λx=>do noteFrame x c;theTreesLotGoes x)) _ _ s
 refine wpAny_noted ?_
 rw[compTurn_list];refine Ja (Ib (Ja (Jx (turn n s E) (λr f l=>?_) λ_ _ h'=>h'.elim)))
 cases r with
 |none=>exact Jd l
 |some v=>
  refine Ja (Jx l (λ_ e z=>?_) λ_ _ h'=>h'.elim)
  refine Ja (Jx z (λ_ t C=>Ja (wpAny_tests_one (Jx C (λok d i=>?_) λ_ _ h'=>h'.elim))) λ_ _ h'=>h'.elim)
  cases ok with
  |false=>exact Jd #[Z,i]
  |true=>
   exact Ja (Ja (Jx i (λx q D=>Ja (Jx D (λ_ o B=>Jd (Jd #[Z,B])) λ_ _ h'=>h'.elim)) λ_ _ h'=>h'.elim))
def wk{a:Scope}{cl:List (Str×Δ)}{b8:Pos}{fr own:Α}{use:Option (Γ->Sem Unit)}{Post:HG}
  {s:Θ}{H:Hp}
  (hc:X.calm=true)(hi:PI X tg A wi)(b1:closureFor a X.env=pure cl)(d1:∀y c,cl.lookup y=↑c->X.env.cells.lookup y=↑c)(d2:cl.map (·.1)=fr)
  (S:MU X a fr js)
  (hg:∀C s H fp,PG (qY X (own++fr) a cl C s H fp) tg g)(ht:∀C s H fp,PT (qY X (own++fr) a cl C s H fp) b0 tc)(he:∀C s H fp,PE (qY X (own++fr) a cl C s H fp) a7 te)
  (hs:∀x,foldedSetIterable A X.env x=pure x)
  (I:L2.HN X R0 σ H s)(h:xm own.length js wi g tc te σ H Q)
  (c3:∀(b5 C:Δ) (s5:Θ) (H':Hp) (m:HH),L2.HN X R0 σ H' s5->s5.heap.Ns C m->O7 X R0 H' C->Q (-b5) H'->compPost (model X.prog X.w) X.A X.xe use Post (-b5) C (.ok .next) s5):
  ε (model X.prog X.w) X.A (comprehension (.ListComp a7 [#[tg,A,[b0],(0)]] a pos) a X.env b8 (newList []) false (eval A X.env) use) Post X.xe s:=by
 refine wpAny_comprehension_free (use:=use) Z hs b1 S.kind S.names (qz (hi R0 s σ H _ I h) λv s1 h1=>qz h1 λd8 q h2=>?_)
 let#[it,fp,tn,J,H2,e,I2,T,c2,f2,W,#[m0,w0],turn]:=h2;subst e;refine J6 (wpAny_newFunctionEnv S.nocell (by intro y hy;simp at hy) (λM t f=>?_) S.kind)
 dsimp only at t f⊢
 generalize hH2:q.heap.push {cls:= .type "list",dict:=none,data:= .seq ([]:Ζ).toArray}=G at t f⊢
 have hC:G.objs.size=q.heap.objs.size+1:=by rw[<- hH2,JU]
 have R:q.heap.objs.size≠G.objs.size:=by rw[hC];exact Jm (G0 _)
 have K:∀b,b<q.heap.objs.size->b≠G.objs.size/\b≠q.heap.objs.size:=λb l=>#[by rw[hC];exact Jm (Ik l),Jm l]
 have b6:∀b o,q.heap.get? b=↑o->M.get? b=↑o:=λb o e=>f.extBut b o (K b (Jl e)).1 (Jk _ (hH2▸Jk _ e))
 have a3:M.get? q.heap.objs.size=some {cls:= .type "list",data:= .seq ([]:Ζ).toArray 0}:=f.extBut _ _ R (Jk _ (hH2▸Jp _ Z))
 let Y:Cx:=qY X (own++fr) a cl G.objs.size q H2 fp
 let#[c1,IY,P,E,a8]:=cS (own:=own) (js:=js) d1 d2 S I2 T c2 f2 hC b6 t
 have a1:∀w:Θ,HN Y [] (σ0 own.length js σ) H2 w->tn 0 w.heap->w.heap.get? q.heap.objs.size=some {cls:= .type "list",data:= .seq ([]:Ζ).toArray 0}->
   codeAny (model X.prog X.w) X.A (.compLoop (.ListComp a7 [#[tg,A,[b0],(0)]] a pos) 0 (-it) (-q.heap.objs.size) (compEnvC a cl G.objs.size X.env))
    (compPost (model X.prog X.w) X.A X.xe use Post (-q.heap.objs.size) G.objs.size) w:=by
  intro w I3 d4 d6;refine pY (λn s'=>∃i ys τ H' d k,HN Y [(q.heap.objs.size,{cls:= .type "list",data:= .seq d.toArray k})] τ H' s'/\tn i s'.heap/\(∀b∈fp,H' b=none)/\HS ys d/\ys.length<=ζ/\W i n ys τ H') ?_ m0 ?_
  .rintro n s4 ⟨i,ys,τ,H4,d,k,I4,c4,b4,vl,hz,w4⟩
   have d7:=I4.pin (q.heap.objs.size,{cls:= .type "list",data:= .seq d.toArray k}) (by simp [Y,qY])
   rcases turn i n ys τ H4 w4 with⟨b3,qn⟩|⟨go,d9,step⟩
   .refine qz (T.done Y Z Z Z hc i _ s4 τ H4 _ I4 (a8 b4 (by simp)) c4 b3) λr s5 O=>?_
    let#[hr,I5]:=O;subst hr
    show compPost _ _ _ _ _ _ _ _ _
    let#[m5,d3,_]:=I5.loc;have a4:=I5.pin (q.heap.objs.size,{cls:= .type "list",data:= .seq d.toArray k}) (by simp [Y,qY])
    have a2:H4 q.heap.objs.size=none:=a4.2.1
    have B:=I5.base;have nC:H4 G.objs.size=none:=I5.free
    let#[z1,z2]:=eM (ob:= .lst ys) I2 f2 hC I5 a2 #[hz,d,k,vl,a4.1]
    exact c3 q.heap.objs.size G.objs.size s5 (HM H4 q.heap.objs.size (.lst ys)) m5 z1 d3 z2 (qn _ a2)
   .refine qz (T.item Y Z Z Z hc i _ s4 τ H4 _ I4 (a8 b4 (by simp)) c4 go) λr s5 O=>?_
    let#[u,hr,h5]:=O;subst hr;refine qz h5 λ_ s6 O=>?_
    let#[x,H6,I6,r6,y6,F,d0]:=O;have I6':=I6.pinned (a8 d0 (by simp)) (T.obj _ _ F)
    refine qz (hg _ _ _ _ _ s6 τ H6 x u _ I6' r6 (step x H6 y6)) λ_ s7 O=>?_
    let#[L,H7,I7,N,N0,hN,d5,q7]:=O;refine qz (ht _ _ _ _ _ s7 L H7 _ I7 q7) λok b7 O=>?_
    let#[H7',I7',c0]:=O;cases ok with
    |false=>
     let#[m',a6,w8]:=d5 _ c0;have D:=I7'.pin (q.heap.objs.size,{cls:= .type "list",data:= .seq d.toArray k}) (by simp [qY])
     have j:∀b∈fp,∀o,s6.heap.get? b=↑o->b7.heap.get? b=↑o/\H7' b=none:=λb l o e=>by
      have:=I7'.pin (b,o) (JQ _ (JQ _ (Qt l e)))
      exact#[this.1,this.2.1]
     refine#[m',a6,i+1,ys,L,H7',d,k,I7'.pins_of ?_,T.keep _ _ _ F λb l o e=>(j b l o e).1,λb l=>?_,vl,by lia,w8]
     .intro p hp
      rw[Ji.mp hp];exact D
     .let#[o,e,_]:=T.obj _ _ F b l
      exact(j b l o e).2
    |true=>
    refine qz (he _ _ _ _ _ b7 L H7' _ I7' c0) λv' s8 O=>?_
    let#[y,H8,I8,r8,n8]:=O;let#[m',a6,w8]:=hN _ _ n8;have D:=I8.pin (q.heap.objs.size,{cls:= .type "list",data:= .seq d.toArray k}) (by simp [qY])
    have j:∀b∈fp,∀o,s6.heap.get? b=↑o->s8.heap.get? b=↑o/\H8 b=none:=λb l o e=>by
     have:=I8.pin (b,o) (JQ _ (JQ _ (Qt l e)))
     exact#[this.1,this.2.1]
    refine wpAny_list_append_plain (items:=d.toArray) #[k,D.1] (λh' U b2=>?_) (by have:=vl.length;simp;lia)
    let#[k',U]:=U;have I9:HN Y [] L H8 {s8 with heap:=h'}:=by
     refine(I8.pins_of (pins':=[]) (by simp)).turned (t':=s8.toks) (it:=q.heap.objs.size) (λb o l e=>(b2.2 b l).trans e) D.2.1 ?_ (.inr (Jf _)) (λx c e=>E x c e) (λp hp=>absurd (show p∈([]:HI)from by simpa [Y,qY]using hp) (by simp))
     exact R
    have ea:(d.toArray.push v')=(d++[v']).toArray:=by simp
    rw[ea]at U;refine#[m',a6,i+1,ys++[y],L,H8,d++[v'],k',I9.pins_of ?_,T.keep _ _ _ F λb l o e=>(b2.2 b (K b (c1 b l)).2).trans (j b l o e).1,λb l=>?_,vl.append (.cons r8 .nil),?_,w8]
    .intro p hp
     rw[Ji.mp hp]
     exact#[U,D.2.1,R,P,λv z=>by cases z]
    .let#[o,e,_]:=T.obj _ _ F b l
     exact(j b l o e).2
    .rw[Jy,IM];lia
  .refine#[(0),[],σ0 own.length js σ,H2,[],(0),I3.pins_of ?_,d4,λb l=>(f2 b l).1,.nil,JB _,w0]
   intro p hp;rw[Ji.mp hp]
   exact#[d6,I2.hok.fresh (Jf _),R,P,λv z=>by cases z]
 have a5:tn 0 M:=T.keep _ _ _ c2 λb _ o e=>b6 b o e
 exact codeAny_compStart_list (a1 _ IY a5 a3) (T.self _ 0 _ _ _ a5 (a1 _ IY a5 a3))
section
variable{K:ι}{td:TE}
abbrev xb(J:It)(js:Κ)(tc:TT)(te:TE)(σ:L2.St)(H1:Hp)(Q:VK):Prop:=xy 1 js (Qf 0) tc te σ Q J H1
def wK{J:It}{n:Nat}(hn:n<=ζ)(d:Nat->V->Prop)(Pv:Nat->Ε->Hp->Prop)(q:Pv 0 [] H)(g:∀i ys H,i<n->Pv i ys H->J.go i H)(hst:∀ys H,Pv n ys H->J.stop n H)
  (s:∀i ys H x H',i<n->Pv i ys H->J.yld i H x H'->H'=H/\d i x)
  (hs:∀i ys H x,i<n->Pv i ys H->d i x->tc (↑x::zZ js σ) H λc f=>if c=true then te (↑x::zZ js σ) f (λv r=>Pv (i+1) (ys++[v]) r)else Pv (i+1) ys f)
  (hd:∀ys H,Pv n ys H->∀p,H p=none->Q (-p) (HM H p (.lst ys))):xb J js tc te σ H Q:=by
 exists λi m ys j H=>m=n-i/\i<=n/\ys.length<=i/\Pv i ys H/\∃o,j=o::zZ js σ,#[n,by simp,JB _,Jf _,q,none,Z]
 rintro i m ys j H ⟨rfl,hi,t,p,o,rfl⟩
 by_cases a:i<n
 .refine .inr #[g i ys H a p,by lia,λx H' y=>?_]
  let#[e,l]:=s i ys H x H' a p y;subst e
  exact#[λv f=>Pv (i+1) (ys++[v]) f,λf=>Pv (i+1) ys f,λv f h=>#[n-(i+1),jy a,Z,a,by simp;lia,h,0],λf h=>#[n-(i+1),jy a,Z,a,by lia,h,0],hs i ys _ x a p l]
 .have e:i=n:=by lia
  subst e;exact .inl #[hst ys H p,hd ys H p]
def vh{xs:Ε}(hn:xs.length<=ζ)(Pv:Nat->Ε->Hp->Prop)(f:Pv 0 [] H)(hl:∀i ys H,Pv i ys H->HQ K H a xs)
  (hs:∀i ys H x,xs[i]? =↑x->Pv i ys H->tc (↑x::zZ js σ) H λc d=>if c=true then te (↑x::zZ js σ) d (λv g=>Pv (i+1) (ys++[v]) g)else Pv (i+1) ys d)
  (hd:∀ys H,Pv xs.length ys H->∀p,H p=none->Q (-p) (HM H p (.lst ys))):xb (fV K a) js tc te σ H Q:=
 wK hn (λi x=>xs[i]? =↑x) Pv f (λi ys H hi p=>#[xs,xs[i],hl _ _ _ p,by simp [hi]]) (λys H p=>#[xs,hl _ _ _ p,Jf _]) (λi ys H x H' _ p y=>#[y.1,y.2 xs (hl _ _ _ p)]) (λi ys H x _ p e=>hs i ys H x e p) hd
def zB{k:Nat}(hr:MK k X.A)(ho:QE X o td)(hi:QE X i ty)(hs:Bk i:=by exactλ_ _=>rfl):QE X (.Subscript o i pos) (BR td ty):=#[CF (by have:=hr.un;lia) ho.h hi.h hs]
def QL{k:Nat}(hr:MK k X.A)(ho:QE X o td)(hi:QE X i ty)(hv:QE X value tv)(hs:swapsWith value ↑(.Subscript o i pos') pos.line X.env=pure false:=by rfl):
  QS X (.Assign [.Subscript o i pos'] value pos) (Co td ty tv):=#[DF (by have:=hr.un;lia) ho.h hi.h hv.h hs]
structure RU(X:Cx)(pos:Pos)(keys:List μ)(values:Ι)(trs:List (TE×TE)):Prop where
 h:vW X pos keys values trs
def DA:RU X pos [] [] []:=#[Dq]
def bB{k:Φ}{tv:TE}(hk:QE X k tk)(hv:QE X v tv)(hr:RU X pos ks vs a):RU X pos (↑k::ks) (v::vs) ((tk,tv)::a):=#[AD hk.h hv.h hr.h]
def CD{keys:List μ}(h:RU X pos keys a c)(d:keys.all (·.isSome)=true:=by rfl)(hl:keys.length=a.length:=by rfl)(f:keys≠[]:=by(intro z;cases z))
  (e:keys.length<=15:=by decide):QE X (.Dict keys a pos) (Ce c):=#[Du h.h d hl f e]
end
theorem sM{k:qJ}{v:V}:∀{kvs:List (qJ×V)} (i:Nat),kvs[i]? =↑(k,v)->(kvs.map (·.1)).Nodup->QY kvs k=↑v
 | [],i,h,_=>by cases h
 |p::r,0,h,_=>by
  cases JE h
  exact aY Z
 |p::r,i+1,h,nd=>by
  have h':r[i]? =↑(k,v):=h
  have a:p.1∉r.map (·.1)/\(r.map (·.1)).Nodup:=IG.mp nd
  have c:k∈r.map (·.1):=JC.mpr #[(k,v),Ij h',Z]
  have ne:p.1≠k:=λz=>a.1 (z▸c)
  rw[aU ne];exact sM i h' a.2
def Dp{k:qJ}{kvs:List (qJ×V)}(h:k∉kvs.map (·.1)):MX kvs k v=kvs++[(k,v)]:=by
 unfold MX;rw[Jb];intro z;let#[p,a,e]:=Mm.mp z;exact h (JC.mpr #[p,a,Jz e])
section
variable{td:TE}
def mF{k:Nat}(hr:MK k X.A)(ho:QE X o td)(ha:QE X e ty)(m:M1 X o "get" apos e cpos:=by exact#[67]):QE X (.Call (.Attribute o "get" apos) [e] [] cpos) (wT td ty):=#[BB (by have:=hr.un;lia) ho.h ha.h m]
def iu:QE X (.Dict [] [] pos) wX:=#[AY]
def ou{k:Nat}(hr:MK k X.A)(hi:QE X e ty)(ho:QE X o td)(h1:behindInMarks CmpOp.In o=false:=by rfl):QT X (.Compare e [.In] [o] pos) (gL (DS ty td)):=#[we (Fb (by have:=hr.un;lia) hi.h ho.h) (h1:=h1)]
def kh{k:Nat}(hr:MK k X.A)(hi:QE X e ty)(ho:QE X o td)(h1:behindInMarks CmpOp.NotIn o=false:=by rfl):QT X (.Compare e [.NotIn] [o] pos) (gL (sU ty td)):=#[we (yn (by have:=hr.un;lia) hi.h ho.h) (h1:=h1)]
end
structure Kb where
 age:Int
 last:Int
 wt:Option (Int×Int)
abbrev _root_.Ο:=Option Kb
abbrev Kw:=List (Str×Kb)
noncomputable def Wt(H:Hp)(v:V):Option (Int×Int)->Prop
 |none=>v= .non
 |some (x,c)=>∃w,v= .ref w/\H w=↑(.tup [.int x,.int c])
def Na(H:Hp)(a:Δ)(e:Kb):Prop:=∃v,H a=↑(.tup [.int e.age,.int e.last,v])/\Wt H v e.wt
noncomputable def bO(kn:Kw)(f:Str->Δ):List (qJ×V):=kn.map λe=>(Pt e.1,V.ref (f e.1))
def NC(H:Hp)(d:Δ)(kn:Kw):Prop:=∃f:Kw×(Str->Δ),H d=↑(.dK (bO f.1 f.2))/\(∀e∈kn,Na H (f.2 e.1) e.2)/\f.1.Perm kn/\(kn.map (·.1)).Nodup
noncomputable def zr(kn:Kw)(nm:Str)(e:Kb):Kw:=if nm∈kn.map (·.1)then kn.map (λp=>if p.1=nm then(nm,e)else p)else kn++[(nm,e)]
theorem Mv.tup(m:Mv S H H')(n:NT S H)(h:H a=↑(.tup xs)):H' a=↑(.tup xs):=m _ _ (λz=>by
 let#[o,e,no]:=n a z;rw[e]at h;cases h;exact no) h
def Wt.mv(m:Mv S H H')(n:NT S H)(h:Wt H v o):Wt H' v o:=by
 cases o with
 |none=>exact h
 |some p=>let#[w,e,r]:=h;exact#[w,e,m.tup n r]
theorem Na.mv(m:Mv S H H')(n:NT S H)(h:Na H a e):Na H' a e:=by
 let#[v,r,w]:=h
 exact#[v,m.tup n r,w.mv m n]
def Na.same(s:HJ H H')(h:Na H a e):Na H' a e:=h.mv (S:=[]) s.mv (λc h=>nomatch h)
theorem NC.mv{d:Δ}(m:Mv S H H')(n:NT S H)(hd:d∉S)(h:NC H d kn):NC H' d kn:=by
 let#[f,r,w,p]:=h
 exact#[f,m _ _ hd r,λe a=>(w e a).mv m n,p]
def NC.same(s:HJ H H')(h:NC H d kn):NC H' d kn:=h.mv (S:=[]) s.mv (λc h=>nomatch h) (λh=>nomatch h)
theorem gs(f:Str->Δ)(nm:Str):∀a:Kw,QY (bO a f) (Pt nm:qJ)=(a.lookup nm).map λ_=>V.ref (f nm)
 | []=>rfl
 |(m,e)::r=>by
  show QY ((Pt m,V.ref (f m))::bO r f) (Pt nm)=_
  by_cases q:m=nm
  .subst q
   rw[aY Z,Os];rfl
  .rw[aU (by intro z;injection z with z;exact q z),Iv,Lv (λz=>q z.symm)]
   exact gs f nm r
theorem QP{nm:Str}{e:Kb}:∀{kn:Kw},kn.lookup nm=↑e->(nm,e)∈kn
 |(m,x)::r,h=>by
  rw[Iv]at h
  by_cases q:nm=m
  .subst q
   rw[Iq]at h;cases h;exact Jr ..
  .rw[Lv q]at h
   exact Jv _ (QP h)
theorem HZ{nm:Str}:∀{kn:Kw},(kn.lookup nm).isSome=true↔nm∈kn.map (·.1)
 | []=>by simp
 |(m,x)::r=>by
  rw[Iv,JS,Jg]
  by_cases q:nm=m
  .subst q;simp
  .rw[Lv q]
   simp only[q,false_or];exact HZ
def bL(kn:Kw)(nm:Str)(e:Kb):(zr kn nm e).map (·.1)=if nm∈kn.map (·.1)then kn.map (·.1)else kn.map (·.1)++[nm]:=by
 unfold zr;split
 .rw[Ir]
  refine Lr λp a=>?_
  simp only[Function.comp]
  by_cases y:p.1=nm
  .rw[Jc y,y]
  .rw[Jb y]
 .rw[JI];rfl
def Br(kn:Kw)(nm:Str)(e:Kb):(zr kn nm e).length<=kn.length+1:=by
 have:=J0 List.length (bL kn nm e)
 rw[Je]at this;rw[this];split
 .rw[Je];lia
 .rw[Jy,Je];exact Jf _
def jZ{kn:Kw}(c:(kn.map (·.1)).Nodup)(nm:Str)(e:Kb):((zr kn nm e).map (·.1)).Nodup:=by
 rw[bL];split
 .exact c
 .rename_i z
  exact Lj.mpr #[c,by simp,λa d b f=>by rw[Ji.mp f];exactλw=>z (w▸d)]
theorem Zo{nm:Str}{e:Kb}:∀{kn:Kw},(kn.map (·.1)).Nodup->kn.lookup nm=↑e->∀p∈kn,p.1=nm->p=(nm,e)
 | [],_,h,_,a,_=>by cases a
 |(m,x)::r,nd,h,p,a,hn=>by
  have c:m∉r.map (·.1)/\(r.map (·.1)).Nodup:=IG.mp nd
  rw[Iv]at h
  by_cases q:nm=m
  .subst q
   rw[Iq]at h;cases h;rcases Jg.mp a with rfl|a
   .rfl
   .exact absurd (JC.mpr #[p,a,hn]) c.1
  .rw[Lv q]at h
   rcases Jg.mp a with rfl|a
   .exact absurd hn.symm q
   .exact Zo c.2 h p a hn
def bU{a:Kw}(pm:a.Perm kn)(d:(kn.map (·.1)).Nodup)(nm:Str):a.lookup nm=kn.lookup nm:=by
 cases e:a.lookup nm with
 |none=>
  cases e':kn.lookup nm with
  |none=>rfl
  |some x=>
   have:(a.lookup nm).isSome=true:=HZ.mpr ((pm.map (·.1)).mem_iff.mpr (HZ.mp (by rw[e'];rfl)))
   rw[e]at this;cases this
 |some x=>
  let#[y,c]:∃y,kn.lookup nm=↑y:=L5.mp (HZ.mpr (JC.mpr #[_,pm.mem_iff.mp (QP e),Z]))
  rw[c]
  have:=Zo d c _ (pm.mem_iff.mp (QP e)) Z
  cases this;rfl
def NC.get(h:NC H d kn)(nm:Str):(kn.lookup nm=none/\NB H d (.str nm) none)\/∃e a,kn.lookup nm=↑e/\NB H d (.str nm) ↑(-a)/\Na H a e:=by
 let#[#[l,f],i,c,pm,j]:=h;have g:=NB.k (k:=Pt nm) i
 rw[gs,bU pm j]at g;cases q:kn.lookup nm with
 |none=>rw[q]at g;exact .inl #[Z,g]
 |some e=>rw[q]at g;exact .inr #[e,f nm,Z,g,c _ (QP q)]
def kY{a:Kw}(pm:a.Perm kn)(nm:Str)(e:Kb):(zr a nm e).Perm (zr kn nm e):=by
 unfold zr
 by_cases z:nm∈kn.map (·.1)
 .rw[Jc ((pm.map (·.1)).mem_iff.mpr z),Jc z];exact pm.map _
 .rw[Jb (λw=>z ((pm.map (·.1)).mem_iff.mp w)),Jb z];exact pm.append_right _
def NC.put(h:NC H d kn)(nm:Str)(hl:kn.length<=100)(hb:Na H a e):∃H',N8 H d (.str nm) (-a) H'/\Mv [d] H H'/\NC H' d (zr kn nm e):=by
 let#[#[i,f],s,m,pm,v]:=h;have l:(bO i f).length=kn.length:=(Je _).trans pm.length_eq
 have hk:∀e∈i,Na H (f e.1) e.2:=λe u=>m e (pm.mem_iff.mp u)
 refine#[_,N8.k (k:=Pt nm) s (by rw[l];exact mB _),Mv.upd1,(zr i nm e,λn=>if n=nm then a else f n),?_,?_,kY pm nm e,jZ v nm e]
 .rw[qb]
  congr 2
  unfold MX zr bO;have t:((i.map λe=>((Pt e.1:qJ),V.ref (f e.1))).any λx=>decide (x.1=(Pt nm:qJ)))=true↔nm∈i.map (·.1):=by
   rw[Mm];constructor
   .rintro⟨p,c,z⟩
    let#[q,g,rfl]:=JC.mp c;have r:(Pt q.1:qJ)=Pt nm:=Jz z
    injection r with r
    exact JC.mpr #[q,g,r]
   .intro z
    let#[q,g,e]:=JC.mp z
    exact#[_,JC.mpr #[q,g,Z],Jj (by rw[e])]
  by_cases z:nm∈i.map (·.1)
  .rw[Jc (t.mpr z),Jc z,Ir,Ir]
   refine Lr λp c=>?_
   simp only[Function.comp]
   by_cases y:p.1=nm
   .rw[Jc (by rw[y]),Jc y]
    simp [y]
   .rw[Jb (by intro w;injection w with w;exact y w),Jb y]
    simp [y]
  .rw[Jb (λw=>z (t.mp w)),Jb z,JI]
   congr 1
   .refine Lr λp c=>?_
    have y:¬p.1=nm:=λw=>z (JC.mpr #[p,c,w])
    simp [y]
   .simp
 .have nt:NT [d] H:=NT.one s trivial
  intro p c;have c:=(kY pm nm e).mem_iff.mpr c;have j:=hb.mv (Mv.upd1 (o:= .dK (MX (bO i f) (Pt nm) (-a)))) nt
  unfold zr at c;split at c
  .let#[q,g,rfl]:=JC.mp c
   by_cases y:q.1=nm
   .rw[Jc y];simp only[Io];exact j
   .rw[Jb y]
    show Na _ (if q.1=nm then a else f q.1) q.2
    rw[Jb y]
    exact(hk q g).mv Mv.upd1 nt
  .rename_i z
   rcases JP.mp c with g|g
   .have y:¬p.1=nm:=λw=>z (JC.mpr #[p,g,w])
    show Na _ (if p.1=nm then a else f p.1) p.2
    rw[Jb y]
    exact(hk p g).mv Mv.upd1 nt
   .rw[Ji.mp g];simp only[Io];exact j
def MP(K:ι)(H:Hp)(hk:Δ)(kss:List Β):Prop:=∃c:Η,H hk=↑(.lst (c.map V.ref))/\c.length=kss.length/\∀(i:Nat) (a:Δ) (d:Β),c[i]? =↑a->kss[i]? =↑d->HX K H a (d.map V.int)
def MP.mv{K:ι}{hk:Δ}(m:Mv S H H')(n:NT S H)(hd:hk∉S)(h:MP K H hk kss):MP K H' hk kss:=by
 let#[f,e,l,r]:=h
 exact#[f,m _ _ hd e,l,λi a d c g=>m.sqt n (r i a d c g)]
structure Dr where
 t:Β
 kss:List Β
 near:Int
 far:Int
 most:Int
 least:Int
 kn:Kw
noncomputable def dF(D:Dr)(ta hk bd lg:Δ):List (Str×V):=
 [("table",-ta),("house_keys",-hk),("near",.int D.near),("far",.int D.far),("most",.int D.most),("least_age",.int D.least),("buttons",-bd),("log",-lg)]
noncomputable def dN:Α:=["table","house_keys","near","far","most","least_age","buttons","log"]
def FU:dN.Nodup:=by decide +kernel
def B8(D:Dr)(ta hk bd lg:Δ):((dF D ta hk bd lg).map (·.1)).Nodup:=FU
structure ND(K:ι)(C:Δ):Prop where
 cl:OK K C
 n_table:MT K C "table"
 n_house_keys:MT K C "house_keys"
 n_near:MT K C "near"
 n_far:MT K C "far"
 n_most:MT K C "most"
 n_least_age:MT K C "least_age"
 n_buttons:MT K C "buttons"
 n_log:MT K C "log"
structure HL(K:ι)(C:Δ)(H:Hp)(p ta hk bd lg:Δ)(n:Nat)(D:Dr):Prop where
 ob:∃dx,H p=↑(.ins C dx (dF D ta hk bd lg))
 tb:HX K H ta (D.t.map V.int)
 ks:MP K H hk D.kss
 kb:NC H bd D.kn
 lo:∃rs:Η,H lg=↑(.lst (rs.map V.ref))/\rs.length<=n
 ne:lg≠hk
section
variable{K:ι}{n:Nat}
def HL.has(b:HL K C H p ta hk bd lg n D)(U:ND K C)(i:Nat){f:Str}{v:V}(h:(dF D ta hk bd lg)[i]? =↑(f,v))(a:MT K C f):bT K H p f v:=by
 let#[dx,e]:=b.ob
 exact#[C,dx,_,e,U.cl,a,kI i h (B8 ..)]
def HL.h_table(b:HL K C H p ta hk bd lg n D)(U:ND K C):bT K H p "table" (-ta):=b.has U 0 Z U.n_table
def HL.h_house_keys(b:HL K C H p ta hk bd lg n D)(U:ND K C):bT K H p "house_keys" (-hk):=b.has U 1 Z U.n_house_keys
def HL.h_near(b:HL K C H p ta hk bd lg n D)(U:ND K C):bT K H p "near" (.int D.near):=b.has U 2 Z U.n_near
def HL.h_far(b:HL K C H p ta hk bd lg n D)(U:ND K C):bT K H p "far" (.int D.far):=b.has U 3 Z U.n_far
def HL.h_most(b:HL K C H p ta hk bd lg n D)(U:ND K C):bT K H p "most" (.int D.most):=b.has U 4 Z U.n_most
def HL.h_least_age(b:HL K C H p ta hk bd lg n D)(U:ND K C):bT K H p "least_age" (.int D.least):=b.has U 5 Z U.n_least_age
def HL.h_buttons(b:HL K C H p ta hk bd lg n D)(U:ND K C):bT K H p "buttons" (-bd):=b.has U 6 Z U.n_buttons
def HL.h_log(b:HL K C H p ta hk bd lg n D)(U:ND K C):bT K H p "log" (-lg):=b.has U 7 Z U.n_log
def HL.no(b:HL K C H p ta hk bd lg n D){m:Str}(h:m∉dN:=by decide +kernel):Gt C H p m:=by
 let#[dx,e]:=b.ob
 exact#[dx,_,e,ly h]
theorem HL.mv(b:HL K C H p ta hk bd lg n D)(m:Mv S H H')(nt:NT S H)(hp:p∉S)(c:hk∉S)(hb:bd∉S)(hl:lg∉S):HL K C H' p ta hk bd lg n D:=by
 let#[dx,e]:=b.ob;let#[rs,a,l]:=b.lo
 exact#[#[dx,m _ _ hp e],m.sqt nt b.tb,b.ks.mv m nt c,b.kb.mv m nt hb,#[rs,m _ _ hl a,l],b.ne]
def HL.same(b:HL K C H p ta hk bd lg n D)(s:HJ H H'):HL K C H' p ta hk bd lg n D:=b.mv (S:=[]) s.mv (λc h=>nomatch h) (λh=>nomatch h) (λh=>nomatch h) (λh=>nomatch h) (λh=>nomatch h)
end
inductive RM (x:V)(y:V)(H:Hp)(Q:VK):Prop
 |mk (o:Option (Int×Int))(b:Δ)(a c:Int)(h1:Wt H x o)(h2:y= .ref b)(h3:Rd H b (.tup [.int a,.int c]))(h4:Q (.bl (decide (o=↑(a,c)))) H)
def GL:R2:=λx y H Q=>RM x y H Q
def y8{X:Cx}{k:Nat}(hr:MK k X.A):zx X (Py .Eq) GL:=by
 intro R0 s σ H x y v u Q I D O h;let#[o,b,a,c,F,rfl,K,q]:=h;cases O;let#[f,B,p2,_]:=I.tuple (.inl K)
 have E:X.A.units<cLine:=by have:=hr.un;lia
 cases o with
 |none=>
  have l:x= .non:=F
  subst l;cases D;rw[Jn (by intro z;cases z)]at q
  exact SeqAt.RcAt.none_tuple p2 E _ _ _ _ #[.bl false,H,I,Z,q]
 |some pr=>
  let#[n,m]:=pr;let#[w,rfl,l]:=F;cases D;let#[i,C,N,_]:=I.tuple (.inl (.inl l))
  have r:=C.length;have p:=B.length;have J:=SeqAt.RcAt.tuples (A:=X.A) (e:=λj=>[n,m].getD j 0==[a,c].getD j 0) (show s.heap.IsTuple w i.toArray from N) (show s.heap.IsTuple b f.toArray from p2) E (λj h1 L=>by
   have d:j<i.length:=by simpa using h1
   have g:j<f.length:=by simpa using L
   let#[t,e]:=aO (ns:=[n,m]) C j d (by rw[<- r]at d;exact d)
   let#[P,e']:=aO (ns:=[a,c]) B j g (by rw[<- p]at g;exact g)
   simp only[KM,e,e',JG,Jh (show j<[n,m].length by rw[<- r]at d;exact d),Jh (show j<[a,c].length by rw[<- p]at g;exact g),IP]
   exact Ss _ _ _ _)
  have M:i.toArray.size=2:=by rw[Js,<- r];rfl
  have G:f.toArray.size=2:=by rw[Js,<- p];rfl
  refine J _ _ _ _ #[.bl _,H,I,?_,q]
  show Γ.bool _=Γ.bool _
  congr 1
  rw[M,G,show min 2 2=([n,m]:Β).length from Z,nX [n,m] [a,c] Z]
  simp
noncomputable def uu(c l n f:Int):Str:=if c<=l then "old" else if c<=l+n then "near" else if c<=l+f then "far" else "beyond"
inductive sV|mk (c l n f:Int)(h1:vs=[.int c,.int l,.int n,.int f])(h2:Q (.str (uu c l n f)) H)
noncomputable def zD(a d:Int)(e:Kb)(age c:Int):Str×Kb:=
 if c<=e.last then("old",e)else if c<=e.last+a then("near",#[age,c,none])
 else if c<=e.last+d then(if e.wt=↑(age,c-1)then("near",#[age,c,none])else("far",#[e.age,e.last,↑(age,c)]))else("beyond",e)
inductive jx|mk (a:Δ)(e:Kb)(age c near far:Int)(h1:vs=[-a,.int age,.int c,.int near,.int far])(h2:Na H a e)(h3:∀q a' H',HJ H H'->H' q=↑(.tup [.str (zD near far e age c).1,-a'])->Na H' a' (zD near far e age c).2->Q (-q) H')
def Q8(D:Dr)(age:Int):Bool:=decide (D.least<=age)&&decide (age<D.kss.length)
def qL(D:Dr)(e:Kb)(age:Int):Bool:=Q8 D age&&decide (e.age<=age)
noncomputable def zt(D:Dr)(nm:Str)(age:Int)(r:Option (Int×Int)):Ε×Kw:=
 match D.kn.lookup nm with
 |none=>([.str "held",.str "unknown"],D.kn)
 |some e=>if qL D e age=true then(match r with
   |none=>([.str "held",.str "false"],D.kn)
   |some (c,d)=>if(zD D.near D.far e age c).1="near" then([.str "open",.str nm,.int d],zr D.kn nm (zD D.near D.far e age c).2)else([.str "held",.str (zD D.near D.far e age c).1],zr D.kn nm (zD D.near D.far e age c).2))
  else([.str "held",.str "age"],D.kn)
structure Nw(D:Dr):Prop where
 tp:D.t.Perm Nf
 l0:0<=D.least
 kl:D.kss.length<=8
 nl:D.kn.length<=60
 nd:(D.kn.map (·.1)).Nodup
section
variable(K:ι)(C:Δ)
inductive sX|mk (p ta hk bd lg:Δ)(n:Nat)(D:Dr)(h1:vs=[-p])(h2:HL K C H p ta hk bd lg n D)(h3:Q (.bl (decide (D.most<=(D.kn.length:Int)))) H)
inductive io|mk (p ta hk bd lg:Δ)(n:Nat)(D:Dr)(age:Int)(h1:vs=[-p,.int age])(h2:HL K C H p ta hk bd lg n D)(h3:Q (.bl (Q8 D age)) H)
inductive cx|mk (p ta hk bd lg a:Δ)(n:Nat)(D:Dr)(e:Kb)(age:Int)(h1:vs=[-p,-a,.int age])(h2:HL K C H p ta hk bd lg n D)(h3:Na H a e)(h4:Q (.bl (qL D e age)) H)
inductive gG|mk (p ta hk bd lg:Δ)(n:Nat)(D:Dr)(nm:Str)(h1:vs=[-p,.str nm])(h2:HL K C H p ta hk bd lg n D)(h3:(D.kn.lookup nm=none->Q .non H))(h4:(∀e a,D.kn.lookup nm=↑e->Na H a e->Q (-a) H))
inductive tD|mk (p ta hk bd lg a:Δ)(n:Nat)(D:Dr)(e:Kb)(age c:Int)(h1:vs=[-p,-a,.int age,.int c])(h2:HL K C H p ta hk bd lg n D)(h3:Na H a e)(h4:qL D e age=true)(h5:∀q a' H',HJ H H'->H' q=↑(.tup [.str (zD D.near D.far e age c).1,-a'])->Na H' a' (zD D.near D.far e age c).2->Q (-q) H')
def Nb(H:Hp)(c:Δ)(nm:Str)(age:Int)(ds:Β):Prop:=∃a,H c=↑(.tup [.str nm,.int age,-a])/\H a=↑(.tup (ds.map V.int))
def QZ(D:Dr)(age:Int):Β:=D.kss.getD age.toNat []
inductive li|mk (p ta hk bd lg pr:Δ)(n:Nat)(D:Dr)(nm:Str)(age:Int)(ds:Β)(h1:vs=[-p,-pr])(h2:HL K C H p ta hk bd lg n D)(h3:Nw D)(h4:Nb H pr nm age ds)(h5:ZM nm)(h6:ds.length=5)(h7:zH ds)(h8:∀q H',Mv [bd] H H'->H' q=↑(.tup (zt D nm age (ZL D.t (QZ D age) nm ds)).1)->HL K C H' p ta hk bd lg n {D with kn:=(zt D nm age (ZL D.t (QZ D age) nm ds)).2}->Q (-q) H')
end
def Nb.mv(m:Mv S H H')(n:NT S H)(h:Nb H a nm age ds):Nb H' a nm age ds:=by
 let#[d,c,e]:=h
 exact#[d,m.tup n c,m.tup n e]
def Nb.same(s:HJ H H')(h:Nb H a nm age ds):Nb H' a nm age ds:=by
 let#[d,c,e]:=h
 exact#[d,s _ _ c,s _ _ e]
def kW:zx X (Py .LtE) (λx y H Q=>∃i j,x= .str i/\y= .str j/\Q (.bl (! decide (j.cps.toList<i.cps.toList))) H):=by
 intro R0 s σ H x y v u Q I c a h;let#[i,j,rfl,rfl,q]:=h;let#[t,rfl]:=c;let#[d,rfl]:=a;exact PySem.P.le_str (qU I q Z)
def AH{te:TE}{H:Hp}{Q:VK}{x:Str}(hn:x.cps.size<=ζ)(Pv:Nat->Ε->Hp->Prop)(d:Pv 0 [] H)
  (hs:∀i ys H c,x.cps[i]? =↑c->ys.length=i->Pv i ys H->te (↑(.str #[(AA [c])])::zZ js σ) H λv f=>Pv (i+1) (ys++[v]) f)
  (hd:∀ys H,ys.length=x.cps.size->Pv x.cps.size ys H->∀p,H p=none->Q (-p) (HM H p (.lst ys))):ji (B7 x) js te σ H Q:=
 eQ hn (λi v=>∃c,x.cps[i]? =↑c/\v= .str #[(AA [c])]) Pv d (λi ys H hi p=>hi) (λys H p=>Jf _) (λi ys H v H' _ p y=>y) (λi ys H v hi g p a=>by
  let#[c,e,rfl]:=a;exact hs i ys H c e g p) hd
def Ae(h:zH ds):(ds.map V.int).all c5=true:=by
 rw[IV];intro x a;let#[i,hi,rfl]:=JC.mp a
 have:=h i hi
 show(decide (0<=i)&&decide (i<16))=true
 rw[Jj this.1,Jj this.2];rfl
def Qp{c:Bool}{a b:Prop}(h:c=true)(x:a):if c=true then a else b:=by rw[Jc h];exact x
def QC{c:Bool}{a b:Prop}(h:c=false)(x:b):if c=true then a else b:=by rw[Jb (by rw[h];intro z;cases z)];exact x
def zy{K:ι}{H:Hp}{fs:List (Str×V)}(c:OK K C)(e:H p=↑(.ins C dx fs))(n:MT K C f)(i:Nat)(a:fs.map (·.1)=dN.take i:=by rfl)(hn:f∉dN.take i:=by decide +kernel):
  mJ K H p f v (HM H p (.ins C dx (fs++[(f,v)]))):=#[C,dx,fs,e,c,n,by
  have h1:fs.length=(dN.take i).length:=by rw[<- a,Je]
  have d:(dN.take i).length<=8:=by rw[G5];exact OF _ _
  lia,by rw[oH (by rw[a];exact hn)]]
def MP.upd{K:ι}{b:Δ}{H:Hp}{fs:List (Str×V)}(e:H p=↑(.ins C dx fs))(h:MP K H b kss):MP K (HM H p o) b kss:=by
 let#[c,a,l,r]:=id h;exact h.mv Mv.upd1 (NT.one e trivial) (qQ (zO a e (by intro z;cases z)))
def MP.same{K:ι}{b:Δ}(s:HJ H H')(h:MP K H b kss):MP K H' b kss:=h.mv (S:=[]) s.mv (λc h=>nomatch h) (λh=>nomatch h)
def Mv.nfree{x:Δ}(m:Mv S H H')(hn:x∉S)(h:H' x=none):H x=none:=by
 cases e:H x with
 |none=>rfl
 |some o=>rw[m x o hn e]at h;cases h
def MP.at{K:ι}{D:Dr}{age:Int}(h:MP K H hk D.kss)(f:0<=age)(h1:age<D.kss.length):∃(xs:Ε) (d:Δ),H hk=↑(.lst xs)/\QK xs age=↑(-d)/\HX K H d ((QZ D age).map V.int):=by
 let#[c,e,l,r]:=h;let#[i,rfl]:∃i:Nat,age=(i:Int):=#[age.toNat,by lia]
 have hi:i<D.kss.length:=by lia
 have a:i<c.length:=by lia
 exists _,c[i],e,Qs (by rw[Jo,Jh a];rfl)
 have:=r i c[i] D.kss[i] (Jh a) (Jh hi)
 unfold QZ;rw[Iw,JG,Jh hi];exact this
def ZD(h:qL D e age=true)(c:0<=D.least):0<=age/\age<D.kss.length:=by
 unfold qL Q8 at h;rw[JF,JF]at h;have h1:=Jz h.1.1;have a:=Jz h.1.2;lia
def HL.putK{K:ι}(b:HL K C H p ta hk bd lg n D)(m:Mv [bd] H H')(g:NC H' bd a):HL K C H' p ta hk bd lg n {D with kn:=a}:=by
 let#[dx,e]:=b.ob;let#[f,c,_]:=b.kb;let#[rs,d,l]:=b.lo;let#[i,h,_]:=id b.ks;have nt:NT [bd] H:=NT.one c trivial
 exact#[#[dx,m _ _ (qQ (zO e c (by intro z;cases z))) e],m.sqt nt b.tb,b.ks.mv m nt (qQ (zO h c (by intro z;cases z))),g,#[rs,m _ _ (qQ (zO d c (by intro z;cases z))) d,l],b.ne]
def HL.putL{K:ι}{rs:Η}(b:HL K C H p ta hk bd lg n D)(a:H lg=↑(.lst (rs.map V.ref)))(hl:rs.length<=n):HL K C (HM H lg (.lst (rs.map V.ref++[-r]))) p ta hk bd lg (n+1) D:=by
 let#[dx,e]:=b.ob;let#[f,c,_]:=id b.kb;have nt:NT [lg] H:=NT.one a trivial
 have m:Mv [lg] H (HM H lg (.lst (rs.map V.ref++[-r]))):=Mv.upd1
 exact#[#[dx,m _ _ (qQ (zO e a (by intro z;cases z))) e],m.sqt nt b.tb,b.ks.mv m nt (qQ b.ne.symm),b.kb.mv m nt (qQ (zO c a (by intro z;cases z))),#[rs++[r],by rw[qb,JI];rfl,by rw[Jy];exact OH hl],b.ne]
def OI.pair{H:Hp}{b:Δ}(h1:H a=↑(.tup [.str z,.int i]))(h2:H b=↑(.tup [.str z,.int i])):OI H 1 (-a) (-b):=
 .tup (n:=0) (.inl h1) (.inl h2) Z λj x y ex c=>by
  match j,ex,c with
  |0,ex,c=>cases ex;cases c;exact .str _ _
  |1,ex,c=>cases ex;cases c;exact .int _ _
  |j+2,ex,c=>cases ex
abbrev yw(a b:Str):Prop:=a.cps.toList<=b.cps.toList
def Ef{a b:Str}(h:ltCps b.cps.toList a.cps.toList=false):yw a b:=by
 rw[ltCps_eq]at h;exact List.not_lt.mp (of_decide_eq_false h)
theorem kJ:∀{l:Α} {p:Str},risingS p l=true->(p::l).Pairwise yw
 | [],p,_=>by simp
 |x::r,p,h=>by
  have h':(! ltCps x.cps.toList p.cps.toList&&risingS x r)=true:=h
  rw[JF,MD]at h';have d:=kJ h'.2;have a:=Ef h'.1;refine KN.mpr #[λy c=>?_,d]
  rcases Jg.mp c with rfl|c
  .exact a
  .exact List.le_trans a ((KN.mp d).1 y c)
def aC{l:Α}(h:sortedS l=true):l.Pairwise yw:=by
 cases l with
 |nil=>exact .nil
 |cons x r=>exact kJ h
def hV{a b:Α}(pa:a.Perm l)(f:sortedS a=true)(g:b.Perm l)(c:sortedS b=true):a=b:=by
 refine List.Perm.eq_of_pairwise (le:=yw) (λx y _ _ h1 d=>?_) (aC f) (aC c) (pa.trans g.symm)
 have e:x.cps.toList=y.cps.toList:=Ou h1 d
 cases x with
 |mk u=>cases y with
  |mk v=>
   have:u=v:=Array.toList_inj.mp e
   rw[this]
def GP(H:Hp)(q:Δ)(d:Α)(kn:Kw):Prop:=∃c:Η,H q=↑(.tup (c.map V.ref))/\c.length=d.length/\∀(i:Nat) (a:Δ) (nm:Str) (e:Kb),c[i]? =↑a->d[i]? =↑nm->kn.lookup nm=↑e->∃v,H a=↑(.tup [.str nm,.int e.age,.int e.last,v])/\Wt H v e.wt
inductive pO(K:ι)(C:Δ)|mk (p ta hk bd lg:Δ)(n:Nat)(D:Dr)(h1:vs=[-p])(h2:HL K C H p ta hk bd lg n D)(h3:Nw D)(h4:∀q ss H',HJ H H'->ss.Perm (D.kn.map (·.1))->sortedS ss=true->GP H' q ss D.kn->Q (-q) H')
def Dg{X:Cx}{K:ι}{f:Str}(a:X.K=K)(he:QE X e ta)(hb:attributeBase e f X.env (eval e X.env)=eval e X.env:=by rfl):QE X (.Attribute e f pos) (Cg K ta f):=by
 subst a;exact qW he hb
def Dk(kn:Kw)(f:Str->Δ):(bO kn f).map (·.1)=(kn.map (·.1)).map Pt:=by
 unfold bO;rw[Ir,Ir];rfl
def ar{kn:Kw}{nm:Str}(h:nm∈kn.map (·.1)):∃e,kn.lookup nm=↑e:=L5.mp (HZ.mpr h)
theorem mG:∀(more kvs:List (qJ×V)),((kvs++more).map (·.1)).Nodup->ZN kvs more=kvs++more
 | [],kvs,_=>by simp [ZN]
 |p::r,kvs,nd=>by
  have a:p.1∉kvs.map (·.1):=λz=>by
   rw[JI,JS]at nd
   exact(Lj.mp nd).2.2 _ z _ (Jr ..) Z
  show ZN (MX kvs p.1 p.2) r=_
  rw[Dp a,mG r (kvs++[(p.1,p.2)]) (by rw[IU];exact nd),IU]
  rfl
def nJ{e:Str×Kb}(h:e∈zr kn nm x):e∈kn\/e=(nm,x):=by
 unfold zr at h;split at h
 .let#[p,a,rfl]:=JC.mp h
  by_cases y:p.1=nm
  .rw[Jc y];exact .inr Z
  .rw[Jb y];exact .inl a
 .rcases JP.mp h with h|h
  .exact .inl h
  .exact .inr (Ji.mp h)
theorem ng{kn:Kw}{nm:Str}{e:Kb}:∀{l:Kw},(∀p∈l,p.1=nm->p=(nm,e))->l.map (λp=>if p.1=nm then(nm,e)else p)=l
 | [],_=>rfl
 |p::r,h=>by
  rw[JS,ng (kn:=kn) λq a=>h q (Jv _ a)]
  by_cases y:p.1=nm
  .rw[Jc y,h p (Jr ..) y]
  .rw[Jb y]
def kN{kn:Kw}{e:Kb}(a:(kn.map (·.1)).Nodup)(h:kn.lookup nm=↑e):zr kn nm e=kn:=by
 unfold zr;rw[Jc (HZ.mp (by rw[h];rfl))]
 exact ng (kn:=kn) (Zo a h)
def uh{kn:Kw}{e:Kb}(h:kn.lookup nm=↑e):(zr kn nm x).map (·.1)=kn.map (·.1):=by
 rw[bL,Jc (HZ.mp (by rw[h];rfl))]
def DH{X:Cx}:∀u e,([]:List (Str×Δ)).lookup u=↑e->X.env.cells.lookup u=↑e:=λu e h=>by cases h
def iA{X:Cx}{c:Δ}{l:List (Str×Δ)}(h:X.env.cells.lookup y=↑c)(r:∀u e,l.lookup u=↑e->X.env.cells.lookup u=↑e):∀u e,((y,c)::l).lookup u=↑e->X.env.cells.lookup u=↑e:=λu e a=>by
 by_cases d:u=y
 .subst d
  simp at a
  rw[<- a];exact h
 .rw[Iv,show(u==y)=false from by simpa using d]at a
  exact r u e a
end L3
namespace L2
open PySem PySem.Spec PyProof.Rows
def AC{Q:HG}(I:HN X R0 σ H s)(e:Rd H a (.dK kvs))(h:∀p s',H p=none->HN X R0 σ (HM H p (.dK kvs)) s'->Q (-p) s'):ε (model X.prog X.w) A (call (.type "dict") [-a]) Q E s:=by
 let#[z,i,vs,c,j]:=aG I.hok e;refine kt_call_dict i j (by rw[<- c.length];exact z) λh' d g=>?_
 refine h _ _ (I.hok.fresh (Jf _)) (I.laid (a:=s.heap.objs.size) (o:= .dK kvs) (t':=s.toks) (λb q f=>?_) (Jf _) (jo z (IS.mpr (Ne.symm (Jm I.big))) c d))
 exact(g.2 b (Jm (Jl f))).trans (Jk _ f)
end L2
namespace L3
open PySem PySem.Spec PyProof.Rows L2
def i5:zj X (.type "dict") (λxs H Q=>∃(d:Δ) (kvs:List (qJ×V)),xs=[-d]/\H d=↑(.dK kvs)/\∀p,H p=none->Q (-p) (HM H p (.dK kvs))):=by
 intro R0 s σ H xs g Q I r h;let#[d,kvs,rfl,c,q]:=h;let#[u,rfl,f]:=zT r;cases f;exact AC I (.inl c) λp s' a e=>#[-p,_,e,Z,q p a]
def HL.setF{K:ι}{H:Hp}{fs:List (Str×V)}{u:V}(i:Nat)(c:OK K C)(a:MT K C f)(e:H p=↑(.ins C dx fs))(hf:fs[i]? =↑(f,u))(d:(fs.map (·.1)).Nodup)(hl:fs.length<1000):
  mJ K H p f v (HM H p (.ins C dx (fs.set i (f,v)))):=#[C,dx,fs,e,c,a,hl,by rw[tf i hf d]]
section
variable{K:ι}
def vM(U:ND K C)(e:H p=↑(.ins C dx (dF D ta hk bd lg)))(z:Int):mJ K H p "least_age" (.int z) (HM H p (.ins C dx (dF {D with least:=z} ta hk bd lg))):=HL.setF 5 U.cl U.n_least_age e Z (B8 ..) (by show 8<1000;decide)
end
def nH{kn:Kw}(f:(kn.map (·.1)).Nodup):(zr kn nm x).lookup nm=↑x:=by
 have c:(nm,x)∈zr kn nm x:=by
  unfold zr;split
  .rename_i h
   let#[p,d,e]:=JC.mp h;exact JC.mpr #[p,d,Jc e]
  .exact JQ _ (Ji.mpr Z)
 let#[y,a]:=ar (JC.mpr #[_,c,Z])
 have:=Zo (jZ f nm x) a _ c Z
 cases this;exact a
end L3
namespace L2
open PySem PySem.Spec PyProof.Rows
section
variable{td:TE}
def Ao(ho:PE X o td)(he:PE X e ty)(m:M1 X o "pop" apos e cpos):PE X (.Call (.Attribute o "pop" apos) [e] [] cpos) (vK td ty):=by
 intro R0 s σ H Q I h;refine wpAny_Call_method m.base m.few m.line PySem.F.plainAttrs_dict PySem.F.slot_dict_pop PySem.F.type_dict_pop (qz (ho R0 s σ H _ I h) λu n j=>?_)
 let#[x,H1,f,q,a,ex,d,t]:=j;subst ex
 obtain rfl:u=Γ.ref a:=q
 let#[A,g,_]:=vT f d;exists A,g
 rw[m.trees];refine Mw Z (Mz (So (qz (he R0 n σ H1 _ f t) λE C ⟨y,F,w,B,kvs,k,v,i,r,l,z⟩=>Sw ?_)))
 subst r;exact Ga w i B l (.inl Z) λG D p c=>#[v,_,p,c,z]
end
end L2
namespace L3
open PySem PySem.Spec PyProof.Rows L2
section
variable{td:TE}
def nh(ho:QE X o td)(he:QE X e ty)(m:M1 X o "pop" apos e cpos:=by exact#[67]):QE X (.Call (.Attribute o "pop" apos) [e] [] cpos) (vK td ty):=#[Ao ho.h he.h m]
end
def NC.drop(h:NC H d kn)(nm:Str):∃kvs,H d=↑(.dK kvs)/\NC (HM H d (.dK (aI kvs (Pt nm:qJ)))) d (kn.filter λp=>decide (p.1≠nm)):=by
 let#[#[g,f],a,hk,pm,i]:=h;have nt:NT [d] H:=NT.one a trivial
 exists _,a,(g.filter λp=>decide (p.1≠nm),f),?_,λe c=>?_,pm.filter _
 .rw[qb]
  congr 2
  unfold aI bO;rw[List.filter_map];congr 1
  refine List.filter_congr λp _=>?_
  simp only[Function.comp];rw[decide_eq_decide]
  exact#[λz w=>z (by rw[w]),λz w=>z (by injection w)]
 .exact(hk e (LL.mp c).1).mv Mv.upd1 nt
 .exact(KQ.map _).nodup i
def ye{K:ι}{H:Hp}{as:Η}{kss:List Β}{ks:Β}(e:H hk=↑(.lst (as.map V.ref)))(l:as.length=kss.length)(r:∀(i:Nat) (a:Δ) (ks:Β),as[i]? =↑a->kss[i]? =↑ks->HX K H a (ks.map V.int))(f:HX K H t (ks.map V.int)):MP K (HM H hk (.lst (as.map V.ref++[-t]))) hk (kss++[ks]):=by
 have nt:NT [hk] H:=NT.one e trivial
 refine#[as++[t],by rw[qb,JI];rfl,by rw[Jy,Jy,l];rfl,λi a q c d=>?_]
 rw[Mn]at c d;rw[l]at c
 by_cases hi:i<kss.length
 .rw[Jc hi]at c d
  exact Mv.upd1.sqt nt (r i a q c d)
 .rw[Jb hi]at c d
  cases hz:i-kss.length with
  |zero=>
   rw[hz]at c d;cases c;cases d;exact Mv.upd1.sqt nt f
  |succ k=>rw[hz]at c;cases c
def HL.putH{K:ι}(b:HL K C H p ta hk bd lg n D)(m:Mv [hk] H H')(ks:MP K H' hk kss'):HL K C H' p ta hk bd lg n {D with kss:=kss'}:=by
 let#[dx,e]:=b.ob;let#[f,c,_]:=id b.kb;let#[rs,d,l]:=b.lo;let#[g,a,_]:=id b.ks;have nt:NT [hk] H:=NT.one a trivial
 exact#[#[dx,m _ _ (qQ (zO e a (by intro z;cases z))) e],m.sqt nt b.tb,ks,b.kb.mv m nt (qQ (zO c a (by intro z;cases z))),#[rs,m _ _ (qQ b.ne) d,l],b.ne]
def HL.putLeast{K:ι}(b:HL K C H p ta hk bd lg n D)(U:ND K C)(z:Int):∃dx,mJ K H p "least_age" (.int z) (HM H p (.ins C dx (dF {D with least:=z} ta hk bd lg)))/\Mv [p] H (HM H p (.ins C dx (dF {D with least:=z} ta hk bd lg)))/\HL K C (HM H p (.ins C dx (dF {D with least:=z} ta hk bd lg))) p ta hk bd lg n {D with least:=z}:=by
 let#[dx,e]:=b.ob;let#[f,d,_]:=id b.kb;let#[rs,a,l]:=b.lo;let#[g,c,_]:=id b.ks;have nt:NT [p] H:=NT.one e trivial
 have m:Mv [p] H (HM H p (.ins C dx (dF {D with least:=z} ta hk bd lg))):=Mv.upd1
 exact#[dx,vM U e z,m,#[dx,qb],m.sqt nt b.tb,b.ks.mv m nt (qQ (zO c e (by intro z;cases z))),b.kb.mv m nt (qQ (zO d e (by intro z;cases z))),#[rs,m _ _ (qQ (zO a e (by intro z;cases z))) a,l],b.ne]
noncomputable def qR(D:Dr)(e:Kb)(age c:Int):Str×Kb:=if qL D e age=true then zD D.near D.far e age c else("age",e)
inductive il(K:ι)(C:Δ)|mk (p ta hk bd lg a:Δ)(n:Nat)(D:Dr)(e:Kb)(age c:Int)(h1:vs=[-p,-a,.int age,.int c])(h2:HL K C H p ta hk bd lg n D)(h3:Na H a e)(h4:∀q a' H',HJ H H'->H' q=↑(.tup [.str (qR D e age c).1,-a'])->Na H' a' (qR D e age c).2->Q (-q) H')
inductive P0 (K:ι)(H:Hp):Nat->V->V->Prop where
 |int (n:Nat)(i:Int):P0 K H n (.int i) (.int i)
 |str (n:Nat)(x:Str):P0 K H n (.str x) (.str x)
 |non (n:Nat):P0 K H n .non .non
 | tup {n:Nat} {a b:Δ} {xs ys:Ε} (h1:HX K H a xs) (h2:HX K H b ys) (hl:xs.length=ys.length)
   (hi:∀(i:Nat) (x y:V),xs[i]? =↑x->ys[i]? =↑y->P0 K H n x y):P0 K H (n+1) (-a) (-b)
section
open SeqAt
def FF(I:L2.HN X R0 σ H s)(h:P0 X.K H n x y):∀{v u:Γ} {A:Rj},HV x v->HV y u->A.units+n<cLine->EqAt A s v u true:=by
 induction h with
 |int n i=>rintro v u A ⟨t,rfl⟩ ⟨g,rfl⟩ _;have:=EqAt.int_int (A:=A) (s:=s) i t i g;rwa [Iq]at this
 |str n z=>rintro v u A ⟨t,rfl⟩ ⟨g,rfl⟩ _;have:=TL (A:=A) (s:=s) z t z g;rwa [Iq]at this
 |non n=>
  intro v u A m l _
  cases(show v=Γ.none from m)
  cases(show u=Γ.none from l)
  exact Sn _
 | @tup n a b xs ys h1 h2 hl _ ih=>
  intro v u A m l F
  cases(show v=Γ.ref a from m)
  cases(show u=Γ.ref b from l)
  by_cases d:a=b
  .rw[d];exact Sn _
  .let#[f,p,w,_]:=I.tuple h1
   let#[c,o,p2,_]:=I.tuple h2;have E:=p.length;have G:=o.length;have e:=Sx (A:=A) (e:=λ_=>true) (show s.heap.IsTuple a f.toArray from w) (show s.heap.IsTuple b c.toArray from p2) (by lia) (λj r q=>by
    let#[x,ex,C]:=zL p (j:=j) (by simpa using r)
    let#[y,D,B]:=zL o (j:=j) (by simpa using q)
    exact ih j x y ex D C B (by rw[Lu];lia))
   rw[cy,show(f.toArray.size==c.toArray.size)=true by simp;lia]at e
   exact TM d e
def Ec(I:L2.HN X R0 σ H s){A:Rj}(h:P0 X.K H n x y)(o:HV x v)(m:HV y u)(hu:A.units+n<cLine):RcAt A s v u true/\RcNeAt A s v u false:=by
 cases h with
 |int n i=>
  let#[t,rfl]:=o;let#[l,rfl]:=m;have g:=RcAt.int_int (A:=A) (s:=s) i t i l
  have f:=RcNeAt.int_int (A:=A) (s:=s) i t i l
  rw[Iq]at g f
  exact#[g,f]
 |str n z=>
  let#[t,rfl]:=o;let#[l,rfl]:=m;have g:=RcAt.str_str (A:=A) (s:=s) z t z l
  have f:=RcNeAt.str_str (A:=A) (s:=s) z t z l
  rw[Iq]at g f
  exact#[g,f]
 |non n=>
  cases(show v=Γ.none from o)
  cases(show u=Γ.none from m)
  exact#[RcAt.none_none,RcNeAt.none_none]
 | @tup n a b xs ys h1 h2 hl ih=>
  cases(show v=Γ.ref a from o)
  cases(show u=Γ.ref b from m)
  let#[d,C,B,_]:=I.tuple h1;let#[c,p,p2,_]:=I.tuple h2;have G:=C.length;have J:=p.length;have q:∀j (w:j<d.toArray.size) (r:j<c.toArray.size),EqAt A.in1 s d.toArray[j] c.toArray[j] ((λ_=>true) j):=λj w r=>by
   let#[x,ex,F]:=zL C (j:=j) (by simpa using w)
   let#[y,E,D]:=zL p (j:=j) (by simpa using r)
   exact FF I (ih j x y ex E) F D (by rw[Lu];lia)
  have g:=Sx (A:=A) (e:=λ_=>true) (show s.heap.IsTuple a d.toArray from B) (show s.heap.IsTuple b c.toArray from p2) (by lia) q
  have f:=RcNeAt.tuples (A:=A) (e:=λ_=>true) (show s.heap.IsTuple a d.toArray from B) (show s.heap.IsTuple b c.toArray from p2) (by lia) q
  rw[cy,show(d.toArray.size==c.toArray.size)=true by simp;lia]at g f
  exact#[g,f]
inductive RN (K:ι)(b:Bool)(x:V)(y:V)(H:Hp)(Q:VK):Prop
 |mk (n:_)(h1:n<=32)(h2:P0 K H n x y)(h3:Q (.bl b) H)
def GK(K:ι)(b:Bool):R2:=λx y H Q=>RN K b x y H Q
def Fp{k:Nat}(hr:MK k X.A):zx X (Py .NotEq) (GK X.K false):=by
 intro R0 s σ H x y v u Q I a c h;let#[n,d,e,q]:=h
 exact(Ec I e a c (by have:=hr.un;lia)).2 _ _ _ _ #[.bl _,H,I,Z,q]
end
section
variable(K:ι)(C:Δ)
inductive sH|mk (p ta hk bd lg:Δ)(n:Nat)(D:Dr)(h1:vs=[-p])(h2:HL K C H p ta hk bd lg n D)(h3:∀t (as:Η) H',HJ H H'->HX K H' t (as.map V.ref)->as.length=D.kss.length->(∀(i:Nat)(a:Δ)(ks:Β),as[i]? =↑a->D.kss[i]? =↑ks->HX K H' a (ks.map V.int))->Q (-t) H')
inductive kD|mk (p ta hk bd lg:Δ)(n:Nat)(D:Dr)(h1:vs=[-p])(h2:HL K C H p ta hk bd lg n D)(h3:Q (.int D.least) H)
inductive gr|mk (p ta hk bd lg:Δ)(n:Nat)(D:Dr)(h1:vs=[-p])(h2:HL K C H p ta hk bd lg n D)(h3:∀t H',HJ H H'->H' t=↑(.tup [.int D.near,.int D.far,.int D.most])->Q (-t) H')
end
structure Ac(K:ι)(mg:HH)(x:Str)(st:δ):Prop where
 ex:∃(f:Δ) (fd:FuncData),OL K x x st f fd/\mg x=↑(-f)
structure Od(K:ι)(C:Δ)(m R1:Str)(st:δ):Prop where
 ex:∃(f:Δ) (fd:FuncData),OL K m R1 st f fd/\PU K C m f
section
variable{K:ι}{mg:HH}{h:Ψ}{x m R1:Str}{st:δ}{C f:Δ}{oc:Γ}{od an:β}{osl:Array Ν}{kV doc pm cdv ct:Γ}{ps:Α}
def FO(X:K.In h)(G:h.Ns η mg)(a:Rm K η x=↑(↑(-f)))(l:K.lookup f=some #[oc,od,.func (TB x x (QX st) (zR st) (qi st) .none kV doc pm an cdv ct),osl])(c:W.codeIn K cdv x=true)(k:TK K (-f)=true):Ac K mg x st:=#[f,_,mY l c k,IR X G a]
def DZ(a:SA K (-C) m=↑(↑(-f)))(i:W.isFn K (-f)=true)(l:K.lookup f=some #[oc,od,.func (TB m R1 (QX st) (zR st) (qi st) .none kV doc pm an cdv ct),osl])(c:W.codeIn K cdv R1=true)(k:TK K (-f)=true):Od K C m R1 st:=#[f,_,mY l c k,a,i,k]
def GU{p:Ζ->Prop}(h:p []):∀a:Ζ,a.length=0->p a:=by
 intro a c;rw[KS c];exact h
def r9{n:Nat}{p:Ζ->Prop}(h:∀a c,c.length=n->p (a::c)):∀c:Ζ,c.length=n+1->p c:=by
 intro c d;cases c with
 |nil=>cases d
 |cons a r=>exact h a r (Nat.succ.inj d)
def Q3{p:Ζ->Prop}(h:∀a0,p [a0]):∀c:Ζ,c.length=1->p c:=r9 λa=>GU (p:=λr=>p (a::r)) (h a)
def Q0{p:Ζ->Prop}(h:∀a0 d,p [a0,d]):∀c:Ζ,c.length=2->p c:=r9 λa=>Q3 (p:=λr=>p (a::r)) (h a)
def eY{p:Ζ->Prop}(h:∀a0 e d,p [a0,e,d]):∀c:Ζ,c.length=3->p c:=r9 λa=>Q0 (p:=λr=>p (a::r)) (h a)
def kX{p:Ζ->Prop}(h:∀a0 e d f,p [a0,e,d,f]):∀c:Ζ,c.length=4->p c:=r9 λa=>eY (p:=λr=>p (a::r)) (h a)
def Gp{p:Ζ->Prop}(h:∀a0 e d g f,p [a0,e,d,g,f]):∀c:Ζ,c.length=5->p c:=r9 λa=>kX (p:=λr=>p (a::r)) (h a)
def Gu{p:Ζ->Prop}(h:∀a0 e d i f g,p [a0,e,d,i,f,g]):∀c:Ζ,c.length=6->p c:=r9 λa=>Gp (p:=λr=>p (a::r)) (h a)
def Ac.at(a:Ac K mg x st)(b:∀(kV doc pm:Γ) (an:β) (cdv ct:Γ) (us:Ζ),us.length=ps.length->bindArgs (TB x x (QX st) (zR st) (qi st) .none kV doc pm an cdv ct) #[us,[]]=pure (ps.zip us):=by intro _ _ _ _ _ _;first|exact Q3 λ_=>rfl|exact Q0 λ_ _=>rfl|exact eY λ_ _ _=>rfl|exact kX λ_ _ _ _=>rfl|exact Gp λ_ _ _ _ _=>rfl|exact Gu λ_ _ _ _ _ _=>rfl):At K mg x st ps:=by
 let#[_,_,F,m]:=a.ex;exact F2 F m (F.binds b)
def Od.at(a:Od K C m R1 st)(b:∀(kV doc pm:Γ) (an:β) (cdv ct:Γ) (us:Ζ),us.length=ps.length->bindArgs (TB m R1 (QX st) (zR st) (qi st) .none kV doc pm an cdv ct) #[us,[]]=pure (ps.zip us):=by intro _ _ _ _ _ _;first|exact Q3 λ_=>rfl|exact Q0 λ_ _=>rfl|exact eY λ_ _ _=>rfl|exact kX λ_ _ _ _=>rfl|exact Gp λ_ _ _ _ _=>rfl|exact Gu λ_ _ _ _ _ _=>rfl):Ob K C m R1 st ps:=by
 let#[_,_,F,m]:=a.ex
 exact#[15,F,m,F.binds b]
end
structure Ps where
 nm:Str
 age:Int
 ds:Β
def dw(H:Hp)(p:Δ)(P:Ps):Prop:=Nb H p P.nm P.age P.ds
structure Oy(P:Ps):Prop where
 nm:ZM P.nm
 l:P.ds.length=5
 dg:zH P.ds
noncomputable def fL(D:Dr)(P:Ps):Option (Int×Int):=if Q8 D P.age=true then ZL D.t (QZ D P.age) P.nm P.ds else none
noncomputable def xz(D:Dr)(P R:Ps):Str×Int×Kw:=match fL D P with
 |none=>("press",0,D.kn)
 |some (c,_)=>match fL D R with
  |none=>("press",1,D.kn)
  |some (c',_)=>if R.nm=P.nm/\R.age=P.age/\c'=c+1 then(match D.kn.lookup P.nm with
    |some _=>("known",0,D.kn)
    |none=>if(D.kn.length:Int)<D.most then("",0,zr D.kn P.nm #[P.age,c',none])else("full",0,D.kn))
   else("press",1,D.kn)
def mZ(c:Nat):Bool:=decide (97<=c)&&decide (c<=122)
def FD(z:Str):Bool:=z.cps.toList.all mZ
def BW(z:Str):Bool:=decide (1<=z.length)&&decide (z.length<=8)&&FD z
def P3:BW z=true↔ZM z:=by
 unfold BW FD ZM;rw[JF,JF,LS,LS,IV];have f:z.length=z.cps.toList.length:=Z
 rw[f];constructor
 .rintro⟨⟨h1,e⟩,a⟩
  refine#[λc d=>?_,h1,e]
  have:=a c d
  unfold mZ at this;rw[JF,LS,LS]at this;exact this
 .rintro⟨a,h1,e⟩
  refine#[#[h1,e],λc d=>?_]
  unfold mZ;rw[Jj (a c d).1,Jj (a c d).2];rfl
def jn{a b:Nat}:([a]:Κ)<[b]↔a<b:=by
 rw[List.cons_lt_cons_iff];constructor
 .rintro(h|⟨_,h⟩)
  .exact h
  .exact absurd h (List.not_lt_nil _)
 .exact .inl
def uQ(c:Nat):(! decide ((#[(AA [c])]:Str).cps.toList<("a":Str).cps.toList))=decide (97<=c)/\(! decide (("z":Str).cps.toList<(#[(AA [c])]:Str).cps.toList))=decide (c<=122):=by
 have a:("a":Str).cps.toList=[97]:=by decide +kernel
 have d:("z":Str).cps.toList=[122]:=by decide +kernel
 rw[a,d]
 show(! decide ([c]<[97]))=_/\(! decide ([122]<[c]))=_
 constructor
 .by_cases h:97<=c
  .rw[Jj h,Jn (by rw[jn];lia)];rfl
  .rw[Jn h,Jj (by rw[jn];lia)];rfl
 .by_cases h:c<=122
  .rw[Jj h,Jn (by rw[jn];lia)];rfl
  .rw[Jn h,Jj (by rw[jn];lia)];rfl
def pC{t:String}(h:kd H x=↑t):PQ H x t:=by
 cases x with
 |non=>cases h;exact .non
 |bl b=>cases h;exact .bl b
 |int i=>cases h;exact .int i
 |str x=>cases h;exact .str x
 |byt b=>cases h
 |flt b=>cases h
 |ty b=>cases h
 |ref a=>
  rcases jc h with⟨xs,e,rfl⟩|⟨xs,e,rfl⟩
  .exact .lst e
  .exact .tup (.inl e)
def Gr(H:Hp)(x:V)(b:Bool):Prop:=(∃z,x= .str z/\z.cps.all (· <128)=true/\z.length<=100/\b=BW z)\/(∃t,kd H x=↑t/\zz t "str"=false/\b=false)
def RO(H:Hp)(x:V)(b:Bool):Prop:=(∃(p:Δ) (ds:Ε),x= .ref p/\H p=↑(.tup ds)/\ds.length<=100/\(∀v∈ds,∃t,kd H v=↑t)/\b=(decide (ds.length=5)&&ds.all c5))\/(∃t,kd H x=↑t/\zz t "tuple"=false/\b=false)
inductive Ro (H:Hp)(x:V):Bool->Prop where
 |kd {t:String} (h:kd H x=↑t) (n:zz t "tuple"=false):Ro H x false
 |len {a:Δ} {xs:Ε} (e:x= .ref a) (h:H a=↑(.tup xs)) (l:xs.length<=100) (n:xs.length≠3):Ro H x false
 |tup {a:Δ} {n y c:V} {bn bc:Bool} {ty:String} (e:x= .ref a) (h:H a=↑(.tup [n,y,c])) (hn:Gr H n bn) (hy:L3.kd H y=↑ty) (hc:RO H c bc):Ro H x (bn&&ip y&&bc)
def RO.same{b:Bool}(s:HJ H H')(h:RO H x b):RO H' x b:=h.elim (λ⟨p,ds,e,h1,a,c,d⟩=> .inl ⟨p,ds,e,s _ _ h1,a,(λv f=>let⟨t,ht⟩:=c v f;⟨t,gu s ht⟩),d⟩) (λ⟨t,h1,a⟩=> .inr ⟨t,gu s h1,a⟩)
def Tg(H:Hp)(x:V)(o:Option Ps):Prop:=match o with
 |none=>Ro H x false
 |some P=>∃a,x= .ref a/\dw H a P/\Oy P
def Tg.b(h:Tg H x o):Ro H x o.isSome:=by
 cases o with
 |none=>exact h
 |some P=>
  let#[f,e,#[c,h1,a],ok]:=h;have t:=Ro.tup (bn:=true) (bc:=true) e h1 (.inl #[P.nm,Z,oC ok.nm,by have:=ok.nm.2.2;show P.nm.cps.toList.length<=100;lia,(P3.mpr ok.nm).symm]) (ty:="int") Z (.inl #[c,0,a,by rw[Je,ok.l];decide,(λv d=>by let#[i,_,rfl]:=JC.mp d;exact#[0]),by rw[Je,ok.l,Ae ok.dg];rfl])
  exact t
inductive kZ|mk (x:_)(b:_)(h1:vs=[x])(h2:Gr H x b)(h3:∀H',HJ H H'->Q (.bl b) H')
inductive kO|mk (x:_)(b:_)(h1:vs=[x])(h2:RO H x b)(h3:∀H',HJ H H'->Q (.bl b) H')
inductive cU|mk (x:_)(b:_)(h1:vs=[x])(h2:Ro H x b)(h3:∀H',HJ H H'->Q (.bl b) H')
section
variable(K:ι)(C:Δ)
inductive lH|mk (p ta hk bd lg:Δ)(n:Nat)(D:Dr)(x:V)(o:Option Ps)(h1:vs=[-p,x])(h2:HL K C H p ta hk bd lg n D)(h3:Nw D)(h4:Tg H x o)(h5:∀y H',HJ H H'->gl H' y (o.bind (fL D))->Q y H')
end
def Mf.weak{K:ι}{k:Nat}{d:Sp}(M:Mf P w K mg base C m ps k sp)(h:∀vs H Q E,d vs H Q E->sp vs H Q E):Mf P w K mg base C m ps k d:=by
 let#[f,fd,F,j,e]:=M.ex
 exact#[f,fd,#[λvs H Q E q=>F.len vs H Q E (h vs H Q E q),λA a s H c o vs Q E g l e n i=>F.run A a s H c o vs Q E g l e n (h _ _ _ _ i)],j,e]
end L3
namespace L3
open PySem PySem.Spec PyProof.Rows L2
open Sem (wp)
noncomputable def Aq(a c:Δ):It:=
  #[λi H=>∃xs ys x y,Rd H a (.lst xs)/\Rd H c (.lst ys)/\xs[i]? =↑x/\ys[i]? =↑y,
   λi H v H'=>∃p x y,H p=none/\v= .ref p/\(∀xs,Rd H a (.lst xs)->xs[i]? =↑x)/\(∀ys,Rd H c (.lst ys)->ys[i]? =↑y)/\H'=HM H p (.tup [x,y]),
   λi H=>∃xs,Rd H a (.lst xs)/\xs.length=i]
def vC{K:ι}{x1}(G Q z TI TO i1 i2:Δ)(d1:TI≠z)(d2:TO≠z)(d3:i1≠z)(d4:i2≠z)(d5:TI≠TO)(d6:TI≠i1)(d7:TI≠i2)(d8:TO≠i1)(d9:TO≠i2)(n:i1≠i2):
  N5 P w K (.Tuple S x1 pos) (Aq G Q) [z,TI,TO,i1,i2] z (λi h=>IsZip h z TI TO .none/\IsPair h TI (-i1) (-i2)/\(∃a b,IsPair h TO a b)/\h.IsListIter i1 G i/\h.IsListIter i2 Q i) where
 mem:=by simp
 obj:=λi h st b f=>by
  let#[F,j,#[a,b',l],#[o1,b1,_,b2],#[o2,a6,_,b0]]:=st;simp only[Jg,Jt,Ju]at f;rcases f with rfl|rfl|rfl|rfl|rfl
  .exact#[_,F,λv y=>by have y':Sf _=SJ v:=y;cases y']
  .exact#[_,j,λv y=>by have y':Data.seq _ _=SJ v:=y;cases y']
  .exact#[_,l,λv y=>by have y':Data.seq _ _=SJ v:=y;cases y']
  .exact#[_,b1,λv y=>by rw[b2]at y;cases y]
  .exact#[_,a6,λv y=>by rw[b0]at y;cases y]
 keep:=λi h h' st k=>by
  let#[F,j,#[a,b',l],h1,h2]:=st
  exact#[k z (by simp) _ F,k TI (by simp) _ j,#[a,b',k TO (by simp) _ l],h1.at λo e=>k i1 (by simp) o e,h2.at λo e=>k i2 (by simp) o e]
 item:=by
  intro X hP hw hK r i R0 s σ H E I O st hg;subst hP hw hK;let#[xs,ys,x,y,m,M,hx,hy]:=hg;let#[its,rv,p,b4]:=I.list (.inl m)
  let#[C,b6,p2,b7]:=I.list (.inl M)
  let#[u,hu,ru]:=rv.get hx;let#[u2,Y,b5]:=b6.get hy;let#[F,j,#[a,b',l],h1,h2]:=st;have n1:∀c∈[z,TI,TO,i1,i2],G≠c:=λc r=>gC m (O c r).1
  have n2:∀c∈[z,TI,TO,i1,i2],Q≠c:=λc r=>gC M (O c r).1
  have d:N6 z TI TO i1 i2 [i1,G] [i2,Q]:=#[d1,d2,d3,d4,d5,d6,d7,d8,d9,n,by simp [Ne.symm d3,Ne.symm (n1 z (by simp))],by simp [Ne.symm d4,Ne.symm (n2 z (by simp))],by simp [d8,Ne.symm (n1 TO (by simp))],by simp [d9,Ne.symm (n2 TO (by simp))],by simp [Ne.symm n,Ne.symm (n1 i2 (by simp))],by simp [n,Ne.symm (n2 i1 (by simp))]]
  have a8:i<its.toArray.size:=by have:=(Jw.mp hu).1;simpa using this
  have W:i<C.toArray.size:=by have:=(Jw.mp Y).1;simpa using this
  have R:s.TypeIs (-z) "zip":=#[_,F,Z]
  unfold pyNext;refine Ja (IQ (wpAny_callSpecial?_slot (name:=RS "__next__") R Lh
   (JY Lh R Mc
    (kL (Draws.list (A:=X.A.in1) (I.ok.hd r) i1 G (n1 i1 (by simp)) its.toArray) (Draws.list (A:=X.A.in1) (I.ok.hd r) i2 Q (n2 i2 (by simp)) C.toArray) d F j l #[h1,p.isList] #[h2,p2.isList] a8 W
     λv v2 h' tk hv a5 ho U q1 q2 ht hk=>Jd #[0,?_]) (Me _))))
  have ev:v=u:=by
   have D:its[i]? =↑v:=by simpa using hv
   rw[hu]at D;exact(JE D).symm
  have b3:v2=u2:=by
   have D:C[i]? =↑v2:=by simpa using a5
   rw[Y]at D;exact(JE D).symm
  subst ev b3;refine wpAny_letOwnedTupleGo_zip ho λB L g=>?_
  have lt:∀c∈[z,TI,TO,i1,i2],c<s.heap.objs.size:=λc r=>by
   simp only[Jg,Jt,Ju]at r;rcases r with rfl|rfl|rfl|rfl|rfl
   .exact Jl F
   .exact Jl j
   .exact Jl l
   .let#[_,e,_]:=h1;exact Jl e
   .let#[_,e,_]:=h2;exact Jl e
  have J:IsPair B TI (-i1) (-i2):=g.extBut _ _ d1 (hk _ _ d1 d5 d6 d7 j)
  have t:IsPair B TO v v2:=g.extBut _ _ d2 U
  have a3:B.IsListIter i1 G (i+1):=q1.1.extBut g.extBut d3
  have a4:B.IsListIter i2 Q (i+1):=q2.1.extBut g.extBut d4
  exists .ref s.heap.objs.size,HM H s.heap.objs.size (.tup [x,y]),?_,Z,#[_,x,y,I.hok.fresh (Jf _),Z,λzs N=>by rw[I.list_inj (.inl N) (.inl m)];exact hx,λzs N=>by rw[I.list_inj (.inl N) (.inl M)];exact hy,Z],#[L,J,#[15,t],a3,a4]
  .show L2.HN X R0 σ _ {s with heap:=B,toks:=tk}
   refine gK (s:=s) (its:=[v,v2]) I (ch:=[z,TI,TO,i1,i2]) (λb o f q=>?_) O (λb f=>?_) (Jf _) (by show 2<=ζ;decide) (.cons ru (.cons b5 .nil)) ?_
   .simp only[Jg,Jt,Ju,not_or]at f
    exact g.extBut b o f.1 (hk b o f.1 f.2.2.1 f.2.2.2.1 f.2.2.2.2 q)
   .simp only[Jg,Jt,Ju]at f
    rcases f with rfl|rfl|rfl|rfl|rfl
    .exact#[_,L]
    .exact#[_,J]
    .exact#[_,t]
    .let#[o,e,_]:=a3;exact#[o,e]
    .let#[o,e,_]:=a4;exact#[o,e]
   .exact#[_,g.extBut _ _ (J1 (lt z (by simp))) ht,8]
  .intro b f
   rw[qp (Jm (lt b f))]
   exact(O b f).1
 done:=by
  intro X hP hw hK r i R0 s σ H E I O st hg;subst hP hw hK;let#[xs,m,hx]:=hg;let#[its,rv,p,b4]:=I.list (.inl m)
  let#[F,j,#[a,b',l],h1,h2]:=st;have n1:∀c∈[z,TI,TO,i1,i2],G≠c:=λc r=>gC m (O c r).1
  have d:N6 z TI TO i1 i2 [i1,G] [i2]:=#[d1,d2,d3,d4,d5,d6,d7,d8,d9,n,by simp [Ne.symm d3,Ne.symm (n1 z (by simp))],by simp [Ne.symm d4],by simp [d8,Ne.symm (n1 TO (by simp))],by simp [d9],by simp [Ne.symm n,Ne.symm (n1 i2 (by simp))],by simp [n]]
  have hl:its.toArray.size=i:=by rw[Js,<- rv.length];exact hx
  have R:s.TypeIs (-z) "zip":=#[_,F,Z]
  unfold pyNext;refine Ja (IQ (wpAny_callSpecial?_slot (name:=RS "__next__") R Lh
   (JY Lh R Mc
    (nQ (Draws.list (A:=X.A.in1) (I.ok.hd r) i1 G (n1 i1 (by simp)) its.toArray) d F j #[by rw[hl];exact h1,p.isList] λh' e hk he=>?_) (Me _))))
  let#[o,ho,a7]:=he;refine Ja (IX (T:="StopIteration") (b:=true) #[o,ho,a7] LU ?_)
  refine Jd #[Z,tj (t':=s.toks) I (ch:=[z,i1]) (λb o f e=>?_) (λb f=>O b ?_)]
  .simp only[Jg,Jt,Ju,not_or]at f
   exact hk b o f.1 f.2 e
  .simp only[Jg,Jt,Ju]at f
   rcases f with rfl|rfl<;>simp
 self:=λ_ _ _ _ _ st h=>Ml st.1 h
noncomputable def B3(ta:TA):TI:=λσ H R=>ta σ H λvs H1=>∃c a xs ys,vs=[-c,-a]/\Rd H1 c (.lst xs)/\Rd H1 a (.lst ys)/\R (Aq c a) H1
def CO{a b:Φ}{p:Pos}{x1}(hg:Gl X "zip")(hm:X.mg "zip"=none)(ha:PA X [a,b] ta)(h1:Qj a=true:=by rfl)(h2:Qj b=true:=by rfl):
  PI X (.Tuple g x1 o) (.Call (.Name "zip" p) [a,b] [] pos) (B3 ta):=by
 intro R0 s σ H R I h;have m:θ [b] X.env=[(false,eval b X.env)]:=ZB h2
 refine Call_ (Zp I hg hm PyProof.Rows.boot_zip (Le (qz (ha pos R0 s σ H _ I h) λP c F=>?_) (by rw[ZB h1,m]) (by rw[m];rfl)))
 let#[vs,H1,f,A,J]:=F;let#[M,C,xs,ys,e,K,D,q]:=J;subst e;let#[u,v,rfl,G,B]:=A.two;cases G;cases B;let#[E,L,N,t]:=f.list (.inl K)
 let#[y,z,p2,O]:=f.list (.inl D)
 have d:∀(n i j:Nat),i≠j->n+i≠n+j:=λn i j h=>by lia
 refine call_zip_2 N.isList p2.isList λh' t w r h1 h2 _ hk=>Ml t ?_
 refine#[c.heap.objs.size+4,[c.heap.objs.size+4,c.heap.objs.size+2,c.heap.objs.size+3,c.heap.objs.size,c.heap.objs.size+1],15,H1,Z,f.kept (t':=c.toks) hk,
  vC M C (c.heap.objs.size+4) (c.heap.objs.size+2) (c.heap.objs.size+3) c.heap.objs.size (c.heap.objs.size+1) (d _ 2 4 ⋯) (d _ 3 4 ⋯) (d _ 0 4 ⋯) (d _ 1 4 ⋯) (d _ 2 3 ⋯) (d _ 2 0 ⋯) (d _ 2 1 ⋯) (d _ 3 0 ⋯) (d _ 3 1 ⋯) (d _ 0 1 ⋯),#[t,w,#[15,r],h1,h2],λb x=>?_,q]
 have l:c.heap.objs.size<=b:=by
  simp only[Jg,Jt,Ju]at x;rcases x with rfl|rfl|rfl|rfl|rfl
  .exact IZ _ 4
  .exact IZ _ 2
  .exact IZ _ 3
  .exact Jf _
  .exact IZ _ 1
 exact f.fpOk l (f.hok.fresh l)
def yq{K:ι}{te:TE}{H:Hp}{Q:VK}{xs ys:Ε}(hl:xs.length=ys.length)(hn:xs.length<=ζ)(Pv:Nat->Ε->Hp->Prop)(t:Pv 0 [] H)
  (hk:∀i zs H,Pv i zs H->Rd H j (.lst xs)/\Rd H h (.lst ys))
  (hs:∀i zs H p x y,xs[i]? =↑x->ys[i]? =↑y->zs.length=i->Pv i zs H->H p=none->te (↑x::↑y::zZ js σ) (HM H p (.tup [x,y])) λv f=>Pv (i+1) (zs++[v]) f)
  (hd:∀zs H,zs.length=xs.length->Pv xs.length zs H->∀p,H p=none->Q (-p) (HM H p (.lst zs))):
  jf 2 js (pI K 2 (bQ (Qf 0) (bQ (Qf 1) pN))) te σ Q (Aq j h) H:=by
 exists λi m zs l H=>m=xs.length-i/\i<=xs.length/\zs.length=i/\Pv i zs H/\∃o o',l=o::o'::zZ js σ,#[xs.length,by simp,JB _,Z,t,none,none,Z]
 rintro i m zs l H ⟨rfl,hi,a,p,o,o',rfl⟩
 let#[g,q]:=hk i zs H p
 by_cases c:i<xs.length
 .have d:i<ys.length:=by lia
  refine .inr #[#[xs,ys,xs[i],ys[i],g,q,by simp [c],by simp [d]],by lia,λv H' y=>?_]
  let#[n,x,y,s,rfl,r,w,rfl]:=y;exists n,0,HX.of qb,5
  exact#[λv f=>Pv (i+1) (zs++[v]) f,λv f u=>#[xs.length-(i+1),jy c,Z,c,by simp [a],u,13],hs i zs _ n x y (r xs g) (w ys q) a p s]
 .have e:i=xs.length:=by lia
  subst e;exact .inl #[#[xs,g,Z],hd zs H a p]
def Cu{a b:Φ}{p:Pos}{x1}(hg:Gl X "zip")(hm:X.mg "zip"=none)(ha:QA X [a,b] ta)(h1:Qj a=true:=by rfl)(h2:Qj b=true:=by rfl):
  QI X (.Tuple c x1 d) (.Call (.Name "zip" p) [a,b] [] pos) (B3 ta):=#[CO hg hm ha.h h1 h2]
inductive OJ (H:Hp):Nat->V->V->Prop where
 |int (n:Nat)(i:Int):OJ H n (.int i) (.int i)
 |str (n:Nat)(x:Str):OJ H n (.str x) (.str x)
 |non (n:Nat):OJ H n .non .non
 | tup {n:Nat} {a b:Δ} {xs ys:Ε} (h1:Rd H a (.tup xs)) (h2:Rd H b (.tup ys)) (hl:xs.length=ys.length) (hz:xs.length<=ζ)
   (hi:∀(i:Nat) (x y:V),xs[i]? =↑x->ys[i]? =↑y->OJ H n x y):OJ H (n+1) (-a) (-b)
 | lst {n:Nat} {a b:Δ} {xs ys:Ε} (h1:H a=↑(.lst xs)) (h2:H b=↑(.lst ys)) (hl:xs.length=ys.length) (hz:xs.length<=ζ)
   (hi:∀(i:Nat) (x y:V),xs[i]? =↑x->ys[i]? =↑y->OJ H n x y):OJ H (n+1) (-a) (-b)
theorem OJ.same(s:HJ H H'):∀{n:Nat} {x y:V},OJ H n x y->OJ H' n x y:=λh=>by
 induction h with
 |int n i=>exact .int n i
 |str n x=>exact .str n x
 |non n=>exact .non n
 |tup h1 h2 hl hz _ ih=>exact .tup (Rd.same s h1) (Rd.same s h2) hl hz ih
 |lst h1 h2 hl hz _ ih=>exact .lst (s _ _ h1) (s _ _ h2) hl hz ih
inductive EV(n:Nat)|mk (x:_)(y:_)(h1:vs=[x,y])(h2:OJ H n x y)(h3:∀H',HJ H H'->Q (.bl true) H')
def rg:ph X "list.extend" sw:=wz
def AM{X:Cx}{d:Scope}{t:List (Str×Δ)}{n:Pos}{fr own:Α}{i:Nat}{y:Str}
  (hN:X.N.Nodup)(G:X.N[i]? =↑y)(hx:gq X.env.scope y)
  (hc:X.calm=true)(hi:QI X tg f L)(r:closureFor d X.env=pure t)(J:∀y c,t.lookup y=↑c->X.env.cells.lookup y=↑c)(B:t.map (·.1)=fr)
  (S:MU X d fr js)
  (hg:∀C s H fp,QG (qY X (own++fr) d t C s H fp) tg g)(O:∀C s H fp,QT (qY X (own++fr) d t C s H fp) j tc)(he:∀C s H fp,QE (qY X (own++fr) d t C s H fp) l te)
  (hs:∀x,foldedSetIterable f X.env x=pure x:=by intro _;rfl)(E:swapsWith (.ListComp l [#[tg,f,[j],(0)]] d pos) ↑(.Name y w) n.line X.env=pure true:=by rfl)
  (hf:X.fn y=true\/X.env.scope.names.lookup y=some .local:=by first|exact .inl Z|exact .inr Z|assumption):
  QS X (.Assign [.Name y w] (.ListComp l [#[tg,f,[j],(0)]] d pos) n) (c9 (xm own.length js L g tc te) (Qf i)):=#[by
 intro R0 s σ H D I h;rw[exec_Assign_Name_used _ _ _ _ E];refine Ja (Ib (Ja ?_))
 show ε _ X.A (do let _ <- comprehension (.ListComp l [#[tg,f,[j],(0)]] d pos) d X.env _ (newList []) false (eval f X.env) ↑(assign (.Name y w) X.env)) _ _ s
 refine Ja (Jx (wk (use:=↑(assign (.Name y w) X.env)) (Post:=λ_ s'=>SP X R0 D .next s') hc hi.h r J B S (λC s H fp=>(hg C s H fp).h) (λC s H fp=>(O C s H fp).h) (λC s H fp=>(he C s H fp).h) hs I h ?_) (λ_ s' N=>Jd (Jd N)) λ_ _ e=>e)
 intro u C Y H' m P Q p q
 show ε _ X.A (assign (.Name y w) X.env (-u)) _ _ _
 refine wpAny_assign_Name (bH (v:= .ref u) P hN G hx Z (λM W R=>?_) hf)
 let#[a,F,U]:=R;have K:C≠a:=by
  rcases U with z|z
  .rw[z];exact p.loc
  .exact Ne.symm (p.cell _ _ z)
 refine#[m,Q.sameBut F K,λh' A=>?_]
 exact#[_,H',W.turned (t':=M.toks) (λb o T e=>(A.2 b T).trans e) p.free p.loc (.inr p.new) p.cell p.pin,q]]
def Pn(K:ι)(H:Hp)(b:Δ)(kss:List Β):Prop:=∃c:Η,HX K H b (c.map V.ref)/\c.length=kss.length/\∀(i:Nat) (a:Δ) (d:Β),c[i]? =↑a->kss[i]? =↑d->HX K H a (d.map V.int)
def Pn.same{K:ι}{b:Δ}(h:Pn K H b kss)(s:HJ H H'):Pn K H' b kss:=by
 let#[c,e,l,r]:=h
 exact#[c,HJ.sqt s e,l,λi a f d g=>HJ.sqt s (r i a f d g)]
def Pn.upd{K:ι}{b:Δ}{fs:List (Str×V)}(h:Pn K H b kss)(e:H p=↑(.ins C dx fs)):Pn K (HM H p o) b kss:=by
 let#[c,j,l,r]:=h
 exact#[c,gD e j,l,λi a g f d=>gD e (r i a g f d)]
def Fh{X:Cx}{g d h:Δ}(h1:X.env.cells.lookup a=↑g)(h2:X.env.cells.lookup f=↑d)(i:X.env.cells.lookup c=↑h):
  ∀u e,([(a,g),(f,d),(c,h)]:List (Str×Δ)).lookup u=↑e->X.env.cells.lookup u=↑e:=iA h1 (iA h2 (iA i DH))
def EH{X:Cx}{a:Scope}{f h g:Str}{o p n:Nat}(e:a.kind= .function)(d:∀x∈a.names,x.2= .local->a.names.lookup x.1=some .local)(c:∀x∈a.names,x.2≠ .cell)
  (j:∀x∈a.names,x.2= .free->x.1∈([f,h,g]:Α))(z:X.N[o]? =↑f)(t:X.env.kindOf f=some .cell)(u:(relabel a X.env).names.lookup f=some .cell)
  (y:X.N[p]? =↑h)(r:X.env.kindOf h=some .cell)(q:(relabel a X.env).names.lookup h=some .cell)(v:X.N[n]? =↑g)(w:X.env.kindOf g=some .cell)(s:(relabel a X.env).names.lookup g=some .cell):MU X a [f,h,g] [o,p,n]:=
 #[e,d,c,j,Z,λi B A l m=>by
  match i with
  |0=>cases l;cases m;exact#[z,t,u]
  |1=>cases l;cases m;exact#[y,r,q]
  |2=>cases l;cases m;exact#[v,w,s]
  |i+3=>simp at l]
inductive Rw where
 |learn (P R:Ps)
 |forget (nm:Str)
 |turn (ks:Β)
 |close (age:Int)
 |hear (P:Ps)(ans:Ε)
abbrev _root_.Ρ:=List Rw
def yy:V->Prop
 | .int _=>True
 | .str _=>True
 |_=>False
noncomputable def Oj(H:Hp)(a:Δ):Rw->Prop
 | .learn P R=>∃c p2,Rd H a (.tup [.str "learn",-c,-p2])/\dw H c P/\dw H p2 R/\Oy P/\Oy R
 | .forget nm=>Rd H a (.tup [.str "forget",.str nm])
 | .turn ks=>∃k,Rd H a (.tup [.str "turn",-k])/\Rd H k (.tup (ks.map V.int))/\ks.length<=8
 | .close age=>Rd H a (.tup [.str "close",.int age])
 | .hear P ans=>∃p q,Rd H a (.tup [.str "hear",-p,-q])/\dw H p P/\Oy P/\H q=↑(.tup ans)/\ans.length<=3/\∀v∈ans,yy v
def Nz(H:Hp)(rs:Η)(L:Ρ):Prop:=rs.length=L.length/\∀(i:Nat) (a:Δ) (r:Rw),rs[i]? =↑a->L[i]? =↑r->Oj H a r
def N9(H:Hp)(lg:Δ)(L:Ρ):Prop:=∃rs:Η,H lg=↑(.lst (rs.map V.ref))/\Nz H rs L
theorem Oj.mv(m:Mv S H H')(n:NT S H)(h:Oj H a r):Oj H' a r:=by
 cases r with
 |learn P R=>let#[f,p2,h1,d,c,e]:=h;exact#[f,p2,m.rd n h1,Nb.mv m n d,Nb.mv m n c,e]
 |forget nm=>exact m.rd n h
 |turn ks=>let#[k,h1,d,c]:=h;exact#[k,m.rd n h1,m.rd n d,c]
 |close age=>exact m.rd n h
 |hear P ans=>let#[p,q,h1,d,c,e,g]:=h;exact#[p,q,m.rd n h1,Nb.mv m n d,c,m.tup n e,g]
theorem Nz.mv(m:Mv S H H')(n:NT S H)(h:Nz H rs L):Nz H' rs L:=#[h.1,λi a r c d=>(h.2 i a r c d).mv m n]
theorem N9.mv(m:Mv S H H')(n:NT S H)(hl:lg∉S)(h:N9 H lg L):N9 H' lg L:=by
 let#[rs,e,r]:=h
 exact#[rs,m _ _ hl e,r.mv m n]
def fk:NT [] H:=λc h=>nomatch h
def Nz.same(s:HJ H H')(h:Nz H rs L):Nz H' rs L:=h.mv (S:=[]) s.mv fk
def N9.same(s:HJ H H')(h:N9 H lg L):N9 H' lg L:=h.mv (S:=[]) s.mv fk (λz=>nomatch z)
def Nz.add(h:Nz H rs L)(hr:Oj H a r):Nz H (rs++[a]) (L++[r]):=by
 refine#[by simp [h.1],λi b q c d=>?_]
 by_cases hi:i<rs.length
 .rw[J3 hi]at c
  rw[J3 (by rw[<- h.1];exact hi)]at d
  exact h.2 i b q c d
 .rw[J9 (by lia)]at c
  rw[J9 (by rw[<- h.1];lia),<- h.1]at d
  cases e:i-rs.length with
  |zero=>rw[e]at c d;cases c;cases d;exact hr
  |succ k=>rw[e]at c;cases c
def _root_.L2.HX.up{K:ι}(h:HX [] H a xs):HX K H a xs:=h.elim .inl λ⟨_,_,_,z,_⟩=>nomatch z
def _root_.L2.HX.rd(h:HX [] H a xs):Rd H a (.tup xs):=h.elim id λ⟨_,_,_,z,_⟩=>nomatch z
theorem MP.up{K:ι}(h:MP [] H a kss):MP K H a kss:=by
 let#[c,e,l,r]:=h
 exact#[c,e,l,λi a f d g=>(r i a f d g).up]
inductive Ds(K:ι)(C:Δ)|mk (p a b dx:Δ)(near far most:Int)(t:Β)(kss:List Β)(h1:vs=[-p,-a,-b,.int near,.int far,.int most])(h2:H p=↑(.ins C dx []))(h3:Sq K H a (t.map V.int))(h4:MP [] H b kss)(h5:kss.length<=8)(h6:∀ta hk bd lg H',H hk=none->H bd=none->H lg=none->Mv [p] H H'->HL K C H' p ta hk bd lg 0 ⟨t,kss,near,far,most,0,[]⟩->MP [] H' hk kss->Q .non H')
inductive mI(K:ι)(C:Δ)|mk (p a b dx:Δ)(near far most:Int)(t:Β)(kss:List Β)(h1:vs=[-p,-a,-b,.int near,.int far,.int most])(h2:H p=↑(.ins C dx []))(h3:Sq K H a (t.map V.int))(h4:Pn [] H b kss)(h5:kss.length<=8)(h6:∀ta hk bd lg H',H hk=none->H bd=none->H lg=none->Mv [p] H H'->HL K C H' p ta hk bd lg 0 ⟨t,kss,near,far,most,0,[]⟩->MP [] H' hk kss->Q .non H')
structure Da where
 p:Δ
 ta:Δ
 hk:Δ
 bd:Δ
 lg:Δ
structure M8(K:ι)(C:Δ)(H:Hp)(a:Da)(D:Dr)(L:Ρ):Prop where
 dr:HL K C H a.p a.ta a.hk a.bd a.lg L.length D
 lo:N9 H a.lg L
 kr:MP [] H a.hk D.kss
section
variable{K:ι}
theorem M8.mv(b:M8 K C H a D L)(m:Mv S H H')(nt:NT S H)(hp:a.p∉S)(c:a.hk∉S)(hb:a.bd∉S)(hl:a.lg∉S):M8 K C H' a D L:=#[b.dr.mv m nt hp c hb hl,b.lo.mv m nt hl,MP.mv m nt c b.kr]
theorem M8.same(b:M8 K C H a D L)(s:HJ H H'):M8 K C H' a D L:=#[b.dr.same s,b.lo.same s,MP.same s b.kr]
def M8.push(b:HL K C H a.p a.ta a.hk a.bd a.lg L.length D)(d:H a.lg=↑(.lst (rs.map V.ref)))(c:Nz H rs L)(f:MP [] H a.hk D.kss)(hr:Oj H r rw):M8 K C (HM H a.lg (.lst (rs.map V.ref++[-r]))) a D (L++[rw]):=by
 have nt:NT [a.lg] H:=NT.one d trivial
 have e:=b.putL (r:=r) d (L0 c.1)
 rw[show L.length+1=(L++[rw]).length by simp]at e
 exact#[e,#[rs++[r],by rw[qb,JI];rfl,(c.add hr).mv Mv.upd1 nt],MP.mv Mv.upd1 nt (qQ b.ne.symm) f]
def tZ(e:H bd=↑(.dK c))(b:HL K C H p ta hk bd lg n D):hk≠bd:=by
 let#[d,a,_]:=b.ks;exact zO a e (by intro z;cases z)
def Et(e:H p=↑(.ins C dx c))(b:HL K C H p ta hk bd lg n D):hk≠p:=by
 let#[d,a,_]:=b.ks;exact zO a e (by intro z;cases z)
def HL.dl(b:HL K C H p ta hk bd lg 0 D)(c:MP [] H hk D.kss):M8 K C H #[p,ta,hk,bd,lg] D []:=by
 let#[rs,e,l]:=id b.lo
 obtain rfl:rs=[]:=Kz.mp (Nat.le_zero.mp l)
 exact#[b,#[[],e,Z,λi a r h=>by cases h],c]
end
inductive Dd where
 |learn (o1 o2:Option Ps)
 |forget (nm:Str)
 |turn (ks:Β)
 |close (age:Int)
 |hear (o:Option Ps)
def aK(D:Dr)(P:Ps):Ε×Kw:=zt D P.nm P.age (ZL D.t (QZ D P.age) P.nm P.ds)
noncomputable def DR(D:Dr):Dd->Option (Dr×Rw)
 | .learn ↑P ↑R=>if(xz D P R).1="" then ↑({D with kn:=(xz D P R).2.2},.learn P R)else none
 | .learn _ _=>none
 | .forget nm=>if D.kn.lookup nm=none then none else ↑({D with kn:=D.kn.filter λp=>decide (p.1≠nm)},.forget nm)
 | .turn ks=>if D.kss.length<8 then ↑({D with kss:=D.kss++[ks]},.turn ks)else none
 | .close age=>↑({D with least:=if age>D.least then age else D.least},.close age)
 | .hear ↑P=>↑({D with kn:=(aK D P).2},.hear P (aK D P).1)
 | .hear none=>none
section
variable(K:ι)(C:Δ)(x:Xa)
inductive sI|mk (a:Da)(D:Dr)(L:Ρ)(x:V)(o:Option Ps)(h1:vs=[-a.p,x])(h2:M8 K C H a D L)(h3:L.length<=1000000)(h4:Nw D)(h5:Tg H x o)(h6:(o=none->∀q H',HJ H H'->H' q=↑(.tup [.str "held",.str "bad"])->Q (-q) H'))(h7:∀P,o=↑P->∀pr q H',x= .ref pr->Mv [a.bd,a.lg] H H'->dw H' pr P->H' q=↑(.tup (aK D P).1)->M8 K C H' a {D with kn:=(aK D P).2} (L++[.hear P (aK D P).1])->Q (-q) H')
def Gk(H:Hp)(k:Δ)(ks:Β):Prop:=H k=↑(.lst (ks.map V.int))\/Rd H k (.tup (ks.map V.int))
inductive pF|mk (a:Da)(D:Dr)(L:Ρ)(age:Int)(h1:vs=[-a.p,.int age])(h2:M8 K C H a D L)(h3:L.length<=1000000)(h4:∀D' r,DR D (.close age)=↑(D',r)->∀H',Mv [a.p,a.lg] H H'->M8 K C H' a D' (L++[r])->Q .non H')
end
def cr:zj X (.type "tuple") (λxs H Q=>∃kt a,xs=[-kt]/\Gk H kt a/\∀t c,HJ H c->Rd c t (.tup (a.map V.int))->Q (-t) c):=by
 intro R0 s σ H xs f Q I r h;let#[kt,a,e,h,q]:=h;refine zp R0 s σ H xs f Q I r #[kt,a.map V.int,e,?_]
 rcases h with h|h
 .exact .inl #[HQ.of h,λt d=>q t _ (HJ.upd d) (.inl qb)]
 .exact .inr #[.inl h,q kt _ (HJ.refl _) h]
def ko(D:Dr)(nm:Str)(age:Int)(r:Option (Int×Int)):(zt D nm age r).1.length<=3/\∀v∈(zt D nm age r).1,yy v:=by
 have two:∀a b:Str,([V.str a,.str b]:Ε).length<=3/\∀v∈([V.str a,.str b]:Ε),yy v:=λa b=>#[by show 2<=3;decide,λv d=>by simp at d;rcases d with rfl|rfl<;>trivial]
 have c:∀(a b:Str) (i:Int),([V.str a,.str b,.int i]:Ε).length<=3/\∀v∈([V.str a,.str b,.int i]:Ε),yy v:=λa b i=>#[by show 3<=3;decide,λv d=>by simp at d;rcases d with rfl|rfl|rfl<;>trivial]
 unfold zt;split
 .exact two _ _
 .split
  .split
   .exact two _ _
   .split
    .exact c _ _ _
    .exact two _ _
  .exact two _ _
def yZ(D:Dr)(P:Ps):(aK D P).1.length<=3:=(ko ..).1
def Ap(D:Dr)(P:Ps):∀v∈(aK D P).1,yy v:=(ko ..).2
def DO{t u:TS}{D:Ng}(G:L2.St->Hp->Prop)(h:∀D':Ng,D'.rt=D.rt->(∀a H',G a H'->D'.nx a H')->t D' σ H)(c:∀a H',G a H'->u D a H'):f8 t u D σ H:=h {D with nx:=u D} rfl c
section
variable{K:ι}
def Pn.mv{b:Δ}(h:Pn K H b kss)(m:Mv S H H')(n:NT S H):Pn K H' b kss:=by
 let#[c,e,l,r]:=h
 exact#[c,m.sqt n e,l,λi a f d g=>m.sqt n (r i a f d g)]
end
structure MS(D:Dr)(e:Kb):Prop where
 a0:0<=e.age
 a1:e.age<D.kss.length
 l0:1<=e.last
 l1:e.last<4096
 w:∀x c,e.wt=↑(x,c)->e.age<=x/\x<D.kss.length/\e.last+D.near<c/\c<=e.last+D.far/\0<=c/\c<4096
section
variable{K:ι}
def dS(a:Da):Η:=[a.p,a.hk,a.bd,a.lg]
def M8.nt(d:M8 K C H a D L):NT (dS a) H:=λc e=>by
 let#[dx,ep]:=id d.dr.ob;let#[j,g,_]:=id d.dr.kb;let#[i,h,_]:=id d.dr.ks;let#[rs,f,_]:=id d.lo;simp only[dS,Jg,Jt,Ju]at e;rcases e with rfl|rfl|rfl|rfl
 .exact#[_,ep,trivial]
 .exact#[_,h,trivial]
 .exact#[_,g,trivial]
 .exact#[_,f,trivial]
def M8.outD(d:M8 K C H a D L)(hx:H x=↑(.dK xs))(n1:x≠a.bd):x∉dS a:=λc=>by
 let#[dx,ep]:=id d.dr.ob;let#[g,e,_]:=id d.dr.ks;let#[rs,f,_]:=id d.lo;simp only[dS,Jg,Jt,Ju]at c;rcases c with z|z|z|z
 .rw[z,ep]at hx;cases hx
 .rw[z,e]at hx;cases hx
 .exact n1 z
 .rw[z,f]at hx;cases hx
end
def MS.mono{D':Dr}(k:MS D e)(h:D.kss.length<=D'.kss.length)(hn:D'.near=D.near:=by rfl)(hf:D'.far=D.far:=by rfl):MS D' e:=#[k.a0,by have:=k.a1;lia,k.l0,k.l1,λx c z=>by have y:=k.w x c z;rw[hn,hf];exact#[y.1,Int.lt_of_lt_of_le y.2.1 (Int.ofNat_le.2 h),y.2.2]]
def m9{age c:Int}(k:MS D e)(a0:e.age<=age)(d:age<D.kss.length)(g:0<=c)(f:c<4096):MS D (zD D.near D.far e age c).2:=by
 have i:=k.a0;have j:=k.l0;have a:e.last<c->MS D #[age,c,none]:=λh=>#[by show 0<=age;lia,d,by show 1<=c;lia,f,λx y z=>by cases z]
 unfold zD;split
 .exact k
 .split
  .exact a (by lia)
  .split
   .split
    .exact a (by lia)
    .exact#[k.a0,k.a1,k.l0,k.l1,λx y z=>by cases z;exact#[a0,d,by show e.last+D.near<c;lia,by show c<=e.last+D.far;lia,g,f]]
   .exact k
def eU(h:qL D e age=true):e.age<=age:=by
 unfold qL at h;rw[JF]at h;exact Jz h.2
def QM{v:V}{σ:L2.St}{t u:TS}{D:Ng}{rt:VK}{bk ct:L2.St->Hp->Prop}(G:L2.St->Hp->Prop)(h:∀D':Ng,D'.rt=D.rt->(∀a H',G a H'->D'.nx a H')->t D' (σ.set i ↑v) H)(c:∀a H',G a H'->u D a H'):Qf i v σ H (Ng.nx {nx:=f8 t u D,rt:=rt,bk:=bk,ct:=ct}):=h {D with nx:=u D} rfl c
def DT{t u:TS}{D:Ng}{rt:VK}{bk ct:L2.St->Hp->Prop}(G:L2.St->Hp->Prop)(h:∀D':Ng,D'.rt=D.rt->(∀a H',G a H'->D'.nx a H')->t D' σ H)(c:∀a H',G a H'->u D a H'):Ng.nx {nx:=f8 t u D,rt:=rt,bk:=bk,ct:=ct} σ H:=h {D with nx:=u D} rfl c
def ET{K:ι}{D:Dr}{age:Int}{as:Η}(g:as.length=D.kss.length)(d:∀(i:Nat) (a:Δ) (ks:Β),as[i]? =↑a->D.kss[i]? =↑ks->HX K H a (ks.map V.int))(f:0<=age)(h1:age<D.kss.length):∃e,QK (as.map V.ref) age=↑(-e)/\HX K H e ((QZ D age).map V.int):=by
 let#[i,rfl]:∃i:Nat,age=(i:Int):=#[age.toNat,by lia]
 have hi:i<D.kss.length:=by lia
 have c:i<as.length:=by lia
 exists as[i],Qs (by rw[Jo,Jh c];rfl)
 have:=d i as[i] D.kss[i] (Jh c) (Jh hi)
 unfold QZ;rw[Iw,JG,Jh hi];exact this
def GQ{a:Da}(m:Mv [a.p,a.lg] H H'):Mv (dS a) H H':=m.mono λc h z=>h (by simp only[dS,Jg,Jt,Ju]at z⊢;rcases z with z|z<;>simp [z])
def Wt.same(s:HJ H H')(h:Wt H v o):Wt H' v o:=h.mv (S:=[]) s.mv fk
def dv{kn:Kw}{nm:Str}(h:nm∉kn.map (·.1)):kn.lookup nm=none:=by
 cases e:kn.lookup nm with
 |none=>rfl
 |some x=>exact absurd (HZ.mp (by rw[e];rfl)) h
def D6{x:Δ}(h:x∈dS a):x=a.p\/x=a.hk\/x=a.bd\/x=a.lg:=by
 simpa only[dS,Jg,Jt,Ju]using h
def ES(a:Da):a.p∈dS a:=by simp [dS]
def ux(a:Da):a.hk∈dS a:=by simp [dS]
def uJ(a:Da):a.bd∈dS a:=by simp [dS]
def mw(a:Da):a.lg∈dS a:=by simp [dS]
def vA{a:Da}(m:Mv [a.bd,a.lg] H H'):Mv (dS a) H H':=m.mono (λc h z=>h (by simp [dS]at z⊢;rcases z with z|z<;>simp [z]))
noncomputable def ZE(D:Dr)(kd:Δ):List (qJ×V):=[(.inr "near",.int D.near),(.inr "far",.int D.far),(.inr "keys",.int (D.kss.length:Int)),(.inr "closed",.int D.least),(.inr "known",-kd)]
def yX(D:Dr)(kd:Δ):((ZE D kd).map (·.1)).Nodup:=by
 have:([.inr "near",.inr "far",.inr "keys",.inr "closed",.inr "known"]:List qJ).Nodup:=by decide +kernel
 exact this
def Ah(D:Dr)(kd:Δ):ZN [] (ZE D kd)=ZE D kd:=by
 have:=mG (ZE D kd) [] (yX D kd)
 rwa [Kq]at this
structure MJ(H:Hp)(m kd:Δ)(D:Dr):Prop where
 di:H m=↑(.dK (ZE D kd))
 kn:NC H kd D.kn
 ne:m≠kd
section
variable{kd:Δ}
def MJ.get(a:MJ H m kd D)(i:Nat){k:qJ}{x:V}(h:(ZE D kd)[i]? =↑(k,x)):NB H m (kV k) ↑x:=by
 have:=NB.k (k:=k) a.di
 rw[sM i h (yX ..)]at this;exact this
def MJ.g_near(a:MJ H m kd D):NB H m (.str "near") ↑(.int D.near):=a.get (k:= .inr "near") 0 Z
def MJ.g_far(a:MJ H m kd D):NB H m (.str "far") ↑(.int D.far):=a.get (k:= .inr "far") 1 Z
def MJ.g_keys(a:MJ H m kd D):NB H m (.str "keys") ↑(.int (D.kss.length:Int)):=a.get (k:= .inr "keys") 2 Z
def MJ.g_closed(a:MJ H m kd D):NB H m (.str "closed") ↑(.int D.least):=a.get (k:= .inr "closed") 3 Z
def MJ.g_known(a:MJ H m kd D):NB H m (.str "known") ↑(-kd):=a.get (k:= .inr "known") 4 Z
theorem MJ.mv(a:MJ H m kd D)(v:Mv S H H')(n:NT S H)(h1:m∉S)(h2:kd∉S):MJ H' m kd D:=#[v _ _ h1 a.di,a.kn.mv v n h2,a.ne]
def MJ.same(a:MJ H m kd D)(s:HJ H H'):MJ H' m kd D:=a.mv (S:=[]) s.mv fk (λh=>nomatch h) (λh=>nomatch h)
def MJ.putK(a:MJ H m kd D)(v:Mv [kd] H H')(d:NC H' kd c):MJ H' m kd {D with kn:=c}:=#[v _ _ (qQ a.ne) a.di,d,a.ne]
def vd(D:Dr)(kd:Δ)(z:Int):L2.MX (ZE D kd) (Pt "closed":qJ) (.int z)=ZE {D with least:=z} kd:=by
 unfold L2.MX ZE;rw[Jc (by simp [J4])]
 have h1:¬((Pt ("near":Str):Sum Int Str)=Pt ("closed":Str)):=by decide +kernel
 have c:¬((Pt ("far":Str):Sum Int Str)=Pt ("closed":Str)):=by decide +kernel
 have a:¬((Pt ("keys":Str):Sum Int Str)=Pt ("closed":Str)):=by decide +kernel
 have d:¬((Pt ("known":Str):Sum Int Str)=Pt ("closed":Str)):=by decide +kernel
 simp only[JS,Ln,Jb h1,Jb c,Jb a,Jb d,Io]
def MJ.close(a:MJ H m kd D)(z:Int):∃H',N8 H m (.str "closed") (.int z) H'/\Mv [m] H H'/\MJ H' m kd {D with least:=z}:=by
 refine#[_,N8.k (k:=Pt "closed") a.di (mB _ (by show 5<=100;decide)),Mv.upd1,by rw[qb,vd],a.kn.mv Mv.upd1 (NT.one a.di trivial) (qQ a.ne.symm),a.ne]
end
structure Em where
 e:Δ
 a:Da
 m:Δ
 kd:Δ
def eS(x:Em):Η:=dS x.a++[x.m,x.kd]
structure NR(K:ι)(C:Δ)(H:Hp)(x:Em)(D:Dr)(L:Ρ)(E:Dr):Prop where
 tu:H x.e=↑(.tup [-x.a.p,-x.m])
 dl:M8 K C H x.a D L
 md:MJ H x.m x.kd E
 n1:x.m≠x.a.bd
 n2:x.kd≠x.a.bd
section
variable{K:ι}
def wY(h:z∈eS x):z∈dS x.a\/z=x.m\/z=x.kd:=by
 rcases JP.mp h with h|h
 .exact .inl h
 .simp only[Jg,Jt,Ju]at h;exact .inr h
def oY(h:z∈dS x.a):z∈eS x:=JP.mpr (.inl h)
def GJ:x.m∈eS x:=JP.mpr (.inr (by simp))
def GA:x.kd∈eS x:=JP.mpr (.inr (by simp))
theorem NR.nt(b:NR K C H x D L E):NT (eS x) H:=λz a=>by
 rcases wY a with h|rfl|rfl
 .exact b.dl.nt z h
 .exact#[_,b.md.di,trivial]
 .let#[f,e,_]:=b.md.kn;exact#[_,e,trivial]
def NR.some(b:NR K C H x D L E)(h:z∈eS x):H z≠none:=λw=>by
 let#[o,e,_]:=b.nt z h;rw[w]at e;cases e
theorem NR.mv(b:NR K C H x D L E)(m:Mv S H H')(nt:NT S H)(h:∀z∈eS x,z∉S):NR K C H' x D L E:=#[m.tup nt b.tu,b.dl.mv m nt (h _ (oY (ES _))) (h _ (oY (ux _))) (h _ (oY (uJ _))) (h _ (oY (mw _))),b.md.mv m nt (h _ GJ) (h _ GA),b.n1,b.n2]
def NR.same(b:NR K C H x D L E)(s:HJ H H'):NR K C H' x D L E:=b.mv (S:=[]) s.mv fk (λz _ h=>nomatch h)
def NR.m_out(b:NR K C H x D L E):x.m∉dS x.a:=b.dl.outD b.md.di b.n1
def NR.k_out(b:NR K C H x D L E):x.kd∉dS x.a:=by
 let#[f,e,_]:=b.md.kn;exact b.dl.outD e b.n2
def NR.door(b:NR K C H x D L E)(m:Mv (dS x.a) H H')(d:M8 K C H' x.a D' L'):NR K C H' x D' L' E:=#[m.tup b.dl.nt b.tu,d,b.md.mv m b.dl.nt b.m_out b.k_out,b.n1,b.n2]
def NR.model(b:NR K C H x D L E)(m:Mv [x.m,x.kd] H H')(c:MJ H' x.m x.kd E'):NR K C H' x D L E':=by
 have nt:NT [x.m,x.kd] H:=λz a=>b.nt z (JP.mpr (.inr a))
 have o:∀z∈dS x.a,z∉[x.m,x.kd]:=λz a w=>by
  simp only[Jg,Jt,Ju]at w;rcases w with rfl|rfl
  .exact b.m_out a
  .exact b.k_out a
 exact#[m.tup nt b.tu,b.dl.mv m nt (o _ (ES _)) (o _ (ux _)) (o _ (uJ _)) (o _ (mw _)),c,b.n1,b.n2]
def cE(m:Mv (dS x.a) H H'):Mv (eS x) H H':=m.mono λc h z=>h (oY z)
def cI(m:Mv [x.m,x.kd] H H'):Mv (eS x) H H':=m.mono λc h z=>h (JP.mpr (.inr z))
end
abbrev En:=Em×Dr×Ρ
abbrev _root_.Υ:=List En
structure Pw(K:ι)(C:Δ)(H0 H:Hp)(b:Δ)(c:Nat)(pl:Δ)(xs:Υ):Prop where
 s:Mv [b] H0 H
 bx:MZ H b c
 b0:H0 b≠none
 en:∀(i:Nat) (x:En),xs[i]? =↑x->NR K C H x.1 x.2.1 x.2.2 x.2.1
 dj:∀(i j:Nat) (x y:En),i≠j->xs[i]? =↑x->xs[j]? =↑y->∀z∈eS x.1,z∉eS y.1
 fr:∀(i:Nat) (x:En),xs[i]? =↑x->∀z∈eS x.1,H0 z=none
 pe:H pl=↑(.lst (xs.map λx=> .ref x.1.e))
 np:∀(i:Nat) (x:En),xs[i]? =↑x->pl∉eS x.1
 fp:H0 pl=none
section
variable{K:ι}{b:Δ}{c c':Nat}{i:Nat}
def Pw.nb(p:Pw K C H0 H b c pl xs)(hi:xs[i]? =↑x):b∉eS x.1:=λz=>p.b0 (p.fr i x hi b z)
def Pw.npb(p:Pw K C H0 H b c pl xs):pl≠b:=λz=>p.b0 (z▸p.fp)
def Pw.grc(p:Pw K C H0 H b c pl xs)(g:NM b c' H H'):Pw K C H0 H' b c' pl xs:=by
 have m:Mv [b] H H':=λc o h e=>g.kp c o (λz=>h (Ji.mpr z)) e
 exact#[p.s.trans m,g.bx,p.b0,λi x hi=>(p.en i x hi).mv m (zK p.bx) (λz a w=>p.nb hi (Ji.mp w▸a)),p.dj,p.fr,g.kp _ _ p.npb p.pe,p.np,p.fp]
def Pw.same(p:Pw K C H0 H b c pl xs)(s:HJ H H'):Pw K C H0 H' b c pl xs:=p.grc (s.grc p.bx)
theorem Pw.mono(p:Pw K C H0 H b c pl xs)(h:c<=c'):Pw K C H0 H b c' pl xs:=#[p.s,p.bx.mono h,p.b0,p.en,p.dj,p.fr,p.pe,p.np,p.fp]
def Pw.step(p:Pw K C H0 H b c pl xs)(hi:xs[i]? =↑x)(m:Mv (eS x.1) H H')(e:NR K C H' x.1 D' L' D'):Pw K C H0 H' b c pl (xs.set i (x.1,D',L')):=by
 have v:i<xs.length:=(Jw.mp hi).1
 have nt:=(p.en i x hi).nt;have f:∀{j:Nat} {y:En},(xs.set i (x.1,D',L'))[j]? =↑y->(j=i/\y=(x.1,D',L'))\/(j≠i/\xs[j]? =↑y):=λ{j y} h=>by
  rw[Kf]at h;split at h
  .rename_i z
   subst z;injection h with h
   exact .inl #[Z,h.symm]
  .rename_i z
   exact .inr #[λw=>z w.symm,h]
 have same:∀{j:Nat} {y:En},(xs.set i (x.1,D',L'))[j]? =↑y->∃d,xs[j]? =↑d/\d.1=y.1:=λh=>by
  rcases f h with⟨rfl,rfl⟩|⟨_,h⟩
  .exact#[x,hi,Z]
  .exact#[_,h,Z]
 refine#[λc o t e=>m c o (λz=>?_) (p.s c o t e),p.bx.mv m (p.nb hi),p.b0,λj y a=>?_,λj k y z r a hk=>?_,λj y a=>?_,?_,λj y a=>?_,p.fp]
 .rw[p.fr i x hi c z]at e;cases e
 .rcases f a with⟨rfl,rfl⟩|⟨n,a⟩
  .exact e
  .exact(p.en j y a).mv m nt (λz q w=>p.dj j i y x n a hi z q w)
 .let#[d,l,g]:=same a
  let#[u,q,s]:=same hk;rw[<- g,<- s];exact p.dj j k d u r l q
 .let#[d,l,g]:=same a
  rw[<- g];exact p.fr j d l
 .have:(xs.set i (x.1,D',L')).map (λx=>V.ref x.1.e)=xs.map λx=>V.ref x.1.e:=by
   refine Ov λj=>?_
   rw[Jo,Jo,Kf];split
   .rename_i z
    subst z;rw[hi];rfl
   .rfl
  rw[this];exact m _ _ (p.np i x hi) p.pe
 .let#[d,l,g]:=same a
  rw[<- g];exact p.np j d l
def Pw.at(p:Pw K C H0 H b c pl xs)(hi:xs[i]? =↑x):QK (xs.map λx=>V.ref x.1.e) (i:Int)=↑(-x.1.e):=Qs (by rw[Jo,hi];rfl)
end
noncomputable def qE(D:Dr)(nm:Str)(age c:Int):Str:=match D.kn.lookup nm with
 |none=>""
 |some e=>if qL D e age=true then(if c-e.last<1\/c-e.last>D.far then "" else if c-e.last<=D.near\/e.wt=↑(age,c-1)then "open" else "wait")else ""
def HP(D:Dr)(nm:Str)(age c:Int):Kw:=(zt D nm age ↑(c,0)).2
def yu(D:Dr)(nm:Str)(age c d:Int):(zt D nm age ↑(c,d)).2=HP D nm age c:=by
 unfold HP zt;split
 .rfl
 .split
  .simp only
   split
   .rfl
   .rfl
  .rfl
def uC{D:Dr}{nm:Str}{age c:Int}(o:(D.kn.map (·.1)).Nodup)(p:D.near<=D.far):HP D nm age c=match D.kn.lookup nm with
  |none=>D.kn
  |some e=>if qE D nm age c="open" then zr D.kn nm #[age,c,none]else if qE D nm age c="wait" then zr D.kn nm #[e.age,e.last,↑(age,c)]else D.kn:=by
 unfold HP;cases e1:D.kn.lookup nm with
 |none=>unfold zt;rw[e1]
 |some e=>
  simp only
  have g:¬(("":Str)="open"):=by decide
  have f:¬(("":Str)="wait"):=by decide
  have j:¬(("wait":Str)="open"):=by decide
  have d:=kN o e1
  by_cases i:qL D e age=true
  .have l:(zt D nm age ↑(c,0)).2=zr D.kn nm (zD D.near D.far e age c).2:=by
    unfold zt;rw[e1];simp only
    rw[Jc i];split<;>rfl
   have a:qE D nm age c=(if c-e.last<1\/c-e.last>D.far then("":Str)else if c-e.last<=D.near\/e.wt=↑(age,c-1)then("open":Str)else("wait":Str)):=by
    unfold qE;rw[e1];simp only
    rw[Jc i]
   rw[l];unfold zD
   by_cases h1:c<=e.last
   .rw[Jc (show c-e.last<1\/c-e.last>D.far from .inl (by lia))]at a
    rw[Jc h1,a,Jb g,Jb f];exact d
   .rw[Jb h1]
    by_cases n:c<=e.last+D.near
    .rw[Jb (show¬(c-e.last<1\/c-e.last>D.far) by lia),Jc (show c-e.last<=D.near\/_ from .inl (by lia))]at a
     rw[Jc n,a,Jc Z]
    .rw[Jb n]
     by_cases m:c<=e.last+D.far
     .rw[Jb (show¬(c-e.last<1\/c-e.last>D.far) by lia)]at a
      rw[Jc m]
      by_cases h:e.wt=↑(age,c-1)
      .rw[Jc (show c-e.last<=D.near\/_ from .inr h)]at a
       rw[Jc h,a,Jc Z]
      .rw[Jb (show¬(c-e.last<=D.near\/e.wt=↑(age,c-1))fromλz=>z.elim (λz=>by lia) h)]at a
       rw[Jb h,a,Jb j,Jc Z]
     .rw[Jc (show c-e.last<1\/c-e.last>D.far from .inr (by lia))]at a
      rw[Jb m,a,Jb g,Jb f];exact d
  .have l:(zt D nm age ↑(c,0)).2=D.kn:=by
    unfold zt;rw[e1];simp only
    rw[Jb i]
   have a:qE D nm age c="":=by
    unfold qE;rw[e1];simp only
    rw[Jb i]
   rw[l,a,Jb g,Jb f]
section
variable(K:ι)(C:Δ)
inductive kC|mk (a:Da)(D:Dr)(L:Ρ)(p1 p2:Δ)(P R:Ps)(c d d':Int)(h1:vs=[-a.p,-p1,-p2])(h2:M8 K C H a D L)(h3:L.length<=1000000)(h4:Nw D)(h5:dw H p1 P)(h6:dw H p2 R)(h7:Oy P)(h8:Oy R)(h9:fL D P=↑(c,d))(h10:fL D R=↑(c+1,d'))(h11:R.nm=P.nm)(h12:R.age=P.age)(h13:D.kn.lookup R.nm=none)(h14:(D.kn.length:Int)<D.most)(h15:∀H',Mv [a.bd,a.lg] H H'->M8 K C H' a {D with kn:=zr D.kn R.nm ⟨R.age,c+1,none⟩} (L++[.learn P R])->Q .non H')
end
noncomputable def zw(D:Dr)(e:Kb)(age:Int):List (Int×Int):=if qL D e age=true then
  (if e.last+1<4096 then [(e.last+1,if 4095<e.last+D.near then 4095 else e.last+D.near)]else [])++
  (match e.wt with
   |none=>[]
   |some (x,w)=>if x=age/\w+1<=(if 4095<e.last+D.far then 4095 else e.last+D.far)then [(w+1,w+1)]else [])
 else []
noncomputable def Qe(D:Dr)(nm:Str)(age:Int):List (Int×Int):=match D.kn.lookup nm with
 |none=>[]
 |some e=>zw D e age
def Oe(H:Hp)(t:Δ)(zs:List (Int×Int)):Prop:=∃c:Η,H t=↑(.tup (c.map V.ref))/\c.length=zs.length/\∀(i:Nat) (a:Δ) (z:Int×Int),c[i]? =↑a->zs[i]? =↑z->H a=↑(.tup [.int z.1,.int z.2])
def Ry(H:Hp)(t:Δ)(zs:List (Int×Int)):Prop:=∃c:Η,H t=↑(.lst (c.map V.ref))/\c.length=zs.length/\∀(i:Nat) (a:Δ) (z:Int×Int),c[i]? =↑a->zs[i]? =↑z->H a=↑(.tup [.int z.1,.int z.2])
section
variable{z:Int×Int}
def Oe.mv(m:Mv S H H')(n:NT S H)(h:Oe H t zs):Oe H' t zs:=by
 let#[c,e,l,r]:=h
 exact#[c,m.tup n e,l,λi a z d f=>m.tup n (r i a z d f)]
def Oe.same(s:HJ H H')(h:Oe H t zs):Oe H' t zs:=h.mv (S:=[]) s.mv fk
def Ry.add{as:Η}(e:H t=↑(.lst (as.map V.ref)))(l:as.length=zs.length)(r:∀(i:Nat) (a:Δ) (z:Int×Int),as[i]? =↑a->zs[i]? =↑z->H a=↑(.tup [.int z.1,.int z.2]))(hx:H x=↑(.tup [.int z.1,.int z.2])):Ry (HM H t (.lst (as.map V.ref++[-x]))) t (zs++[z]):=by
 have nt:NT [t] H:=NT.one e trivial
 refine#[as++[x],by rw[qb,JI];rfl,by simp [l],λi a y c d=>(Mv.upd1 (a:=t)).tup nt ?_]
 by_cases hi:i<as.length
 .rw[J3 hi]at c
  rw[J3 (by rw[<- l];exact hi)]at d
  exact r i a y c d
 .rw[J9 (by lia)]at c
  rw[J9 (by rw[<- l];lia),<- l]at d
  cases q:i-as.length with
  |zero=>rw[q]at c d;cases c;cases d;exact hx
  |succ k=>rw[q]at c;cases c
end
section
variable(K:ι)(C:Δ)
noncomputable def PR(H:Hp)(v:V):Ο->Prop
 |none=>v= .non
 |some e=>∃a,v= .ref a/\Na H a e
inductive uL|mk (p ta hk bd lg:Δ)(n:Nat)(D:Dr)(v:V)(o:Ο)(age:Int)(h1:vs=[-p,v,.int age])(h2:HL K C H p ta hk bd lg n D)(h3:PR H v o)(h4:∀t H',HJ H H'->Oe H' t (match(generalizing:=false) o with|none=>[]|some e=>zw D e age)->Q (-t) H')
inductive tN|mk (p ta hk bd lg:Δ)(n:Nat)(D:Dr)(nm:Str)(age:Int)(h1:vs=[-p,.str nm,.int age])(h2:HL K C H p ta hk bd lg n D)(h3:∀t H',HJ H H'->Oe H' t (Qe D nm age)->Q (-t) H')
inductive sS|mk (D:Dr)(h1:vs=[.int D.near,.int D.far,.int (D.kss.length:Int)])(h2:D.least=0)(h3:D.kn=[])(h4:∀m kd H',HJ H H'->H m=none->H kd=none->MJ H' m kd D->Q (-m) H')
inductive cD|mk (m kd p:Δ)(D:Dr)(nm:Str)(age c:Int)(h1:vs=[-m,-p])(h2:MJ H m kd D)(h3:H p=↑(.tup [.str nm,.int age,.int c]))(h4:∀H',HJ H H'->Q (.str (qE D nm age c)) H')
inductive jU|mk (m kd p:Δ)(D:Dr)(nm:Str)(age c:Int)(h1:vs=[-m,-p])(h2:MJ H m kd D)(h3:H p=↑(.tup [.str nm,.int age,.int c]))(h4:Nw D)(h5:D.near<=D.far)(h6:∀H',Mv [m,kd] H H'->MJ H' m kd {D with kn:=HP D nm age c}->Q (.bl (decide (qE D nm age c="open"))) H')
structure NA(H:Hp)(cd tb kt:Δ)(t:Β)(kss:List Β):Prop where
 e:H cd=↑(.tup [-tb,-kt])
 tb:Rd H tb (.tup (t.map V.int))
 ks:Pn [] H kt kss
noncomputable def QV(t:Β)(kss:List Β)(nm:Str)(age c d:Int):Ps:=#[nm,age,eN t (kss.getD age.toNat []) nm c d]
inductive iJ|mk (cd tb kt p:Δ)(t:Β)(kss:List Β)(nm:Str)(age c d:Int)(h1:vs=[-cd,-p,.int d])(h2:NA H cd tb kt t kss)(h3:H p=↑(.tup [.str nm,.int age,.int c]))(h4:t.Perm Nf)(h5:ZM nm)(h6:0<=age)(h7:age<kss.length)(h8:0<=c)(h9:c<4096)(h10:bG d)(h11:∀pr H',HJ H H'->dw H' pr (QV t kss nm age c d)->Q (-pr) H')
end
section
variable{S:Η}{H H':Hp}{cd tb kt:Δ}{t:Β}{kss:List Β}
theorem NA.mv(h:NA H cd tb kt t kss)(m:Mv S H H')(n:NT S H):NA H' cd tb kt t kss:=#[m.tup n h.e,m.rd n h.tb,h.ks.mv m n]
def NA.same(h:NA H cd tb kt t kss)(s:HJ H H'):NA H' cd tb kt t kss:=h.mv (S:=[]) s.mv fk
end
end L3
namespace S0
open PySem PyProof.Rows
def Rs(xs:Array Nat):Prop:=xs.toList.Pairwise (· < ·)
def Rs.at(h:Rs xs){i j:Nat}(hi:i<xs.size)(c:j<xs.size)(a:i<j):xs[i]<xs[j]:=by
 have:=Kg.mp h i j (by simpa using hi) (by simpa using c) a
 simpa using this
theorem jX{xs:Array Nat}(h:Rs xs)(j:Nat):∀(f lo hi:Nat),lo<=hi->hi<=xs.size->hi-lo<=f->(∀i (hx:i<xs.size),i<lo->xs[i]<j)->(∀i (hx:i<xs.size),hi<=i->j<=xs[i])->
  SW xs j f lo hi<=xs.size/\(∀i (hx:i<xs.size),i<SW xs j f lo hi->xs[i]<j)/\(∀i (hx:i<xs.size),SW xs j f lo hi<=i->j<=xs[i])
 |0,lo,hi,h1,h2,h3,h4,h5=>by
  have e:lo=hi:=by lia
  subst e
  exact#[h2,h4,h5]
 |f+1,lo,hi,h1,h2,h3,h4,h5=>by
  unfold SW
  by_cases d:lo<hi
  .rw[Jc d]
   have l:(lo+hi)/2<xs.size:=by lia
   dsimp only
   have m:xs.getD ((lo+hi)/2) j=xs[(lo+hi)/2]:=by simp [KU,l]
   rw[m]
   by_cases g:xs[(lo+hi)/2]<j
   .rw[Jc g]
    refine jX h j f _ _ (by lia) h2 (by lia) (λi a c=>?_) h5
    by_cases e:i=(lo+hi)/2
    .subst e;exact g
    .exact Ke (h.at a l (by lia)) g
   .rw[Jb g]
    refine jX h j f _ _ (by lia) (by lia) (by lia) h4 λi a c=>?_
    by_cases e:i=(lo+hi)/2
    .subst e;lia
    .have:=h.at l a (by lia)
     lia
  .rw[Jb d]
   exact#[by lia,h4,λi hx c=>h5 i hx (by lia)]
def cV{xs:Array Nat}(h:Rs xs)(j:Nat):P7 xs j<=xs.size/\(∀i (hi:i<xs.size),i<P7 xs j->xs[i]<j)/\(∀i (hx:i<xs.size),P7 xs j<=i->j<=xs[i]):=
 jX h j xs.size 0 xs.size (JB _) (Jf _) (by lia) (λi _ h=>absurd h (I1 _)) λi hx hi=>absurd hx (by lia)
def Rs.put(h:Rs xs)(i:(xs[P7 xs j]? ==↑j)=false):Rs (SetTable.insertAt xs (P7 xs j) j):=by
 let#[h1,q,l]:=cV h j;generalize P7 xs j=p at *
 unfold Rs;rw[SetTable.toList_insertAt,K0];have r:(xs.toList.take p++xs.toList.drop p).Pairwise (· < ·):=by rw[KJ];exact h
 let#[o,n,t]:=K0.mp r;have lo:∀x∈xs.toList.take p,x<j:=by
  intro x a;let#[m,f,rfl]:=HB.mp a;simp at f
  simpa using q m (by lia) (by lia)
 have hi:∀x∈xs.toList.drop p,j<x:=by
  intro x a;let#[m,f,rfl]:=HB.mp a;simp at f
  have d:p+m<xs.size:=by lia
  have c:p<xs.size:=by lia
  have u:j<=xs[p]:=l p c (Jf _)
  have v:xs[p]≠j:=by
   intro e;rw[getElem?_pos xs p c,e]at i;simp at i
  simp only[List.getElem_drop,Ox]
  by_cases s:m=0
  .subst s;simp only[Nat.add_zero];lia
  .have:=h.at c d (by lia)
   lia
 refine#[o,KN.mpr #[hi,n],λx a y g=>?_]
 rcases Jg.mp g with rfl|g
 .exact lo x a
 .exact t x a y g
theorem cX{t:SetTable}{h:Int}:∀(f:Nat) (p:SetTable.Probe) {j:Nat} {d:Χ},(∀a,p.dummy=↑a->t.slot a= .dummy)->
  SetTable.probe.go t (λ_=>h+1) h f p=↑(.empty j d)->t.slot j= .empty/\∀a,d=↑a->t.slot a= .dummy
 |0,p,j,d,hp,e=>nomatch e
 |f+1,p,j,d,hp,e=>by
  unfold SetTable.probe.go at e;have g:∀q:SetTable.Probe,(t.advance q).dummy=q.dummy:=λq=>by
   unfold SetTable.advance;split
   .rfl
   .rfl
  cases hs:t.slot p.j with
  |empty=>
   rw[hs]at e;simp only[SG,SetTable.Met.empty.injEq]at e;let#[rfl,rfl]:=e
   exact#[hs,hp]
  |dummy=>
   rw[hs]at e;refine cX f _ (λa h'=>?_) e
   rw[g]at h';have h':↑p.j=↑a:=h'
   injection h' with h'
   rw[<- h'];exact hs
  |live i=>
   rw[hs]at e;have c:((h+1:Int)==h)=false:=by simp;lia
   simp only[c,D2,JH]at e;exact cX f _ (λa h'=>hp a (by rw[<- g p];exact h')) e
def vD{t:SetTable}{j:Nat}{b:Bool}(e:t.freeSlot h=↑(j,b)):∀i,t.slot j≠ .live i:=by
 unfold SetTable.freeSlot at e;split at e
 .rename_i c d f
  let#[l,g]:=cX _ _ (λc h'=>by cases h') f
  simp only[SG,Prod.mk.injEq]at e;let#[a,_]:=e;intro i z;cases d with
  |none=>
   have a:c=j:=a
   rw[<- a,l]at z;cases z
  |some k=>
   have a:k=j:=a
   rw[<- a,g k Z]at z;cases z
 .cases e
def TOk(t:SetTable):Prop:=t.plain=true->Rs t.place
theorem TOk.standIn(t:SetTable)(n:Nat):TOk (t.standIn n):=λh=>nomatch h
def D3(h:TOk t)(c:∀i,t.slot j≠ .live i):TOk (t.put j).1:=by
 intro a;have h1:=h a;unfold SetTable.put
 dsimp only
 refine h1.put ?_
 cases e:(t.place[P7 t.place j]? ==↑j)with
 |false=>rfl
 |true=>
  refine absurd ?_ (c (P7 t.place j))
  unfold SetTable.slot
  dsimp only
  rw[e];rfl
def vH(h:TOk t)(es:Array (Int×Γ))(c:Int)(x:Γ):TOk (layNew t es c x).2.1/\(layNew t es c x).2.1.led=t.led:=by
 unfold layNew;split
 .rename_i a e d
  dsimp only
  have hk:=D3 (j:=a) h (vD d)
  unfold SetTable.orStandIn;split
  .exact#[hk,Z]
  .exact#[TOk.standIn _ _,Z]
 .exact#[TOk.standIn _ _,Z]
theorem ig(f:Nat->Χ):∀l:Κ,(l.filterMap λj=>(f j).map (j,·)).map (·.1)=l.filter λj=>(f j).isSome
 | []=>rfl
 |j::l=>by
  rw[JW,Kd];cases e:f j with
  |none=>simpa using ig f l
  |some k=>simpa using ig f l
def sL{mask fg mv:Nat}{led plain:Bool}{hs:Array Int}{t:SetTable}{o:Array Nat}(e:SM mask fg mv led plain hs=↑(t,o)):Rs t.place/\t.dummies= (AA [])/\t.led=led:=by
 unfold SM at e;cases hl:Sy mask hs with
 |none=>rw[hl]at e;exact nomatch e
 |some ow=>
  rw[hl]at e;have e':↑(({mask,place:=(((Ag (mask+1)).filterMap λj=>(ow.getD j none).map (j,·)).map (·.1)).toArray,dummies:= (AA []),finger:=fg,led,moves:=mv,plain}:SetTable),(((Ag (mask+1)).filterMap λj=>(ow.getD j none).map (j,·)).map (·.2)).toArray)=↑(t,o):=e
  injection e' with e'
  injection e' with e1 e2
  subst e1;refine#[?_,9]
  unfold Rs
  dsimp only
  rw[ig];exact List.Pairwise.filter _ Oz
def Bw(t:SetTable)(es:Array (Int×Γ))(c:Nat):TOk (relayAll t es c).2.1/\(relayAll t es c).2.1.led=t.led:=by
 unfold relayAll;split
 .rename_i g a d
  dsimp only
  let#[e,h,f]:=sL d;split
  .exact#[λ_=>e,f]
  .exact#[TOk.standIn _ _,Z]
 .exact#[TOk.standIn _ _,Z]
end S0
namespace S0
open PySem PySem.Spec PyProof.Rows
def zC(w:Ω):Bool:=w.params.followText "set-order"
def TW(w:Ω)(t:SetTable):Prop:=zC w=true\/(t.led=true/\TOk t)
section
variable{prog:Ξ}{w:Ω}{K:Type}[DecidableEq K](knd:SC prog w K)(kf:Γ->K)
def SetK(h:Ψ)(a:Δ)(ks:List K):Prop:=∃o es ep t,h.get? a=↑o/\o.ExactSet/\o.data= .set es ep t/\t.fits es.size=true/\es.size<scanBound/\
 ElemsOf knd es.toList/\(es.toList.map λe=>kf e.2).Perm ks/\TW w t
variable{knd kf}
def SetK.at{h':Ψ}(x:SetK knd kf h a ks)(e:∀o,h.get? a=↑o->h'.get? a=↑o):SetK knd kf h' a ks:=by
 let#[o,es,ep,t,h1,r]:=x
 exact#[o,es,ep,t,e _ h1,r]
def SetK.lt(x:SetK knd kf h a ks):a<h.objs.size:=by
 let#[o,es,ep,t,h1,r]:=x;exact Jl h1
def SetK.len(x:SetK knd kf h a ks):ks.length<scanBound:=by
 let#[o,es,ep,t,h1,g,e,f,c,i,d,j]:=x;rw[<- d.length_eq,Je,Jq];exact c
def nu(a:∀k v,knd.is k v=true->kf v=k){es:Array (Int×Γ)}(f:ElemsOf knd es.toList)(k:K):
  k∈(es.toList.map λe=>kf e.2)↔∃e∈es.toList,knd.is k e.2=true:=by
 rw[JC];constructor
 .rintro⟨e,d,rfl⟩
  let#[#[g,c,_],_]:=f e d
  exact#[e,d,by rw[a g _ c];exact c]
 .rintro⟨e,d,hk⟩
  exact#[e,d,a k _ hk]
def ZC{h:Ψ}{a:Δ}{o:Obj}(ho:h.get? a=↑o)(hd:o.data= .set es ep t)(c:Array (Int×Γ))(t':SetTable):
  (h.update a (TN c t')).get? a=some {o with data:= .set c (ep+1) t'}:=by
 have:=Lf (TN c t') ho (by rw[putSet_of c t' hd];rfl)
 rw[putSet_of c t' hd]at this;exact this
def tV(R:∀k v,knd.is k v=true->kf v=k){k:K}{Q:Bool->Θ->Prop}(p:knd.is k x=true)(J:x.scannable=true)
  (hS:SetK knd kf s.heap a ks)(G:ks.length+1<scanBound)
  (h:∀h',Ψ.SameBut a s.heap h'->SetK knd kf h' a (if k∈ks then ks else ks++[k])->Q (decide (k∉ks)) {s with heap:=h'}):
  ε (model prog w) A (setAddHashed a x (knd.hash k)) Q E s:=by
 let#[o,es,ep,t,U,M,hd,hf,hb,l,q,P]:=hS;have u:k∈ks↔∃e∈es.toList,knd.is k e.2=true:=by rw[<- q.mem_iff];exact nu R l k
 have a2:es.size=ks.length:=by rw[<- q.length_eq,Je,Jq]
 unfold setAddHashed setAddHashedIn;refine JM (Ja (wpAny_setState_of U hd hf ?_))
 dsimp only
 rw[byScan_of J hb l];simp only[↓reduceIte];unfold setAddByScan;refine Ja (Ja (Ih (Ja (wpAny_setScan_of p U hd hf l ?_))))
 cases hr:O0 (λe=>knd.is k e.2) es.toList with
 |some j=>
  let#[hj,a3,_]:=O1.mp hr
  have hk:k∈ks:=u.mpr #[es.toList[j],IH hj,a3]
  refine Jd (Jd ?_)
  have:=h s.heap (Ψ.SameBut.refl a s.heap) (by rw[Jc hk];exact#[o,es,ep,t,U,M,hd,hf,hb,l,q,P])
  rw[Jn (by simpa using hk)]at this
  exact this
 |none=>
  have hk:k∉ks:=λz=>by
   let#[e,he,F]:=u.mp z
   have:=O8.mp hr e he
   rw[F]at this;cases this
  have Y:∀(b:Bool) {m:Θ} {Q':Unit->Θ->Prop},Q' () m->ε (model prog w) A (match b with|true=>rule "set.scan.the-table-gave-way"|false=>pure ()) Q' E m:=
   λb m Q' hq=>by cases b<;>first|exact Jd hq|exact Ih hq
  have f:=layNew_perm t es (knd.hash k) x;have g:=layNew_fits t es (knd.hash k) x;have n:TW w (layNew t es (knd.hash k) x).2.1:=by
   rcases P with z|⟨X,z2⟩
   .exact .inl z
   .let#[H,C]:=vH z2 es (knd.hash k) x
    exact .inr #[C.trans X,H]
  dsimp only
  generalize hL:layNew t es (knd.hash k) x=L at f g n⊢
  let#[d,t1,wd,a4]:=L
  dsimp only at f g n⊢
  rw[PB]at f;have y:ElemsOf knd d.toList:=(l.push p J).perm f
  have r:(d.toList.map λe=>kf e.2).Perm (ks++[k]):=by
   refine(f.map _).trans ?_
   rw[JI];refine q.append ?_
   show [kf x].Perm [k]
   rw[R k x p]
  have S:d.size=ks.length+1:=by rw[<- Jq,f.length_eq,Jy,Jq,a2];rfl
  have N:d.size<scanBound:=by rw[S];exact G
  have O:∀i:SetTable,i.fits d.size=true->TW w i->∀(c:Option Bool->Θ->Prop),(∀h',Ψ.SameBut a s.heap h'->SetK knd kf h' a (ks++[k])->c ↑true {s with heap:=h'})->
    ε (model prog w) A (do
     storeSet a d i
     if(! wd&&i.tooFull)=true then do
       (match(relayAll i d (R8 d.size)).2.2 with|true=>rule "set.scan.the-table-gave-way"|false=>pure ())
       storeSet a (relayAll i d (R8 d.size)).1 (relayAll i d (R8 d.size)).2.1
       pure ↑true
      else pure ↑true) c E s:=by
   intro i f2 w2 c hZ;refine Ja (wpAny_storeSet_of U hd ?_ (fits_of_scanBound N))
   have I:=ZC U hd d i;have T:=G6 s.heap a (TN d i);split
   .have F:=relayAll_perm i d (R8 d.size)
    have B:=relayAll_fits i d (R8 d.size);let#[k1,k2]:=Bw i d (R8 d.size)
    have wr:TW w (relayAll i d (R8 d.size)).2.1:=by
     rcases w2 with z|⟨X,z2⟩
     .exact .inl z
     .exact .inr #[k2.trans X,k1]
    generalize relayAll i d (R8 d.size)=Rl at F B wr⊢
    let#[D,t3,g2]:=Rl
    dsimp only at F B wr⊢
    have W:D.size<scanBound:=by rw[<- Jq,F.length_eq,Jq];exact N
    refine Ja (Y _ (Ja (wpAny_storeSet_of I Z ?_ (fits_of_scanBound W))))
    exact Jd (hZ _ (T.trans (G6 _ a _)) #[_,D,_,t3,ZC I Z D t3,M,Z,B,W,y.perm F,(F.map _).trans r,wr])
   .exact Jd (hZ _ T #[_,d,_,i,I,M,Z,f2,N,y,r,w2])
  have a1:∀h',Ψ.SameBut a s.heap h'->SetK knd kf h' a (ks++[k])->Q true {s with heap:=h'}:=λh' H C=>by
   have:=h h' H (by rw[Jb hk];exact C)
   rw[Jj (by simpa using hk)]at this
   exact this
  refine Ja (Y _ ?_)
  split
  .refine Ja ?_
   rw[hashByValue_scannable 8 J];refine Jd ?_
   refine O _ ?_ ?_ _ λh' H C=>Jd (a1 h' H C)
   .split
    .exact g
    .exact SetTable.fits_plain_off g
   .split
    .exact n
    .rcases n with z|⟨X,z2⟩
     .exact .inl z
     .exact .inr #[X,λz=>nomatch z]
  .refine Ja (Jd ?_)
   simp only[↓reduceIte];exact O _ g n _ λh' H C=>Jd (a1 h' H C)
end
noncomputable def Zq{K:Type} [DecidableEq K](a:List K)(k:K):List K:=if k∈a then a else a++[k]
noncomputable def cA{K:Type} [DecidableEq K](val:Nat->K)(i:Nat):List K:=((Ag i).map val).foldl Zq []
def oS{K:Type} [DecidableEq K](val:Nat->K)(i:Nat):cA val (i+1)=Zq (cA val i) (val i):=by
 unfold cA;rw[Kh,JI,List.foldl_append];rfl
theorem sW{K:Type} [DecidableEq K](val:Nat->K):∀i,(cA val i).length<=i
 |0=>Jf _
 |i+1=>by
  rw[oS];unfold Zq
  have:=sW val i
  split
  .lia
  .rw[Jy,IM];lia
def ddL{K:Type} [DecidableEq K](l:List K):List K:=l.foldl Zq []
def wu{K:Type} [DecidableEq K] [Inhabited K](l:List K):cA (λi=>l.getD i default) l.length=ddL l:=by
 unfold cA ddL;congr 1
 apply KD
 .simp
 .intro i h1 a
  simp [JG,a]
noncomputable abbrev Qv(led:Bool):Obj:={cls:= .type "set",dict:=none,data:= .set (AA []) 0 (.fresh 0 0 led)}
section
variable{prog:Ξ}{w:Ω}{K:Type}[DecidableEq K]{knd:SC prog w K}{kf:Γ->K}
def C0{h:Ψ}{a:Δ}(hg:h.get? a=↑(Qv (! zC w))):SetK knd kf h a []:=by
 exists _,(AA []),(0),_,hg,#[40],9,by unfold scanBound;simp,(λe c=>nomatch c),List.Perm.nil
 cases e:zC w with
 |true=>exact .inl e
 |false=>exact .inr #[Z,λ_=>SU]
section
variable{A:Rj}{R:Result->Θ->Prop}{I:Δ}{fp wr:Η}{G:Array GenState->Array GenState->Prop}{n:Nat}{P:Nat->Γ->Prop}{St:Nat->Θ->Prop}
def Ee(u:∀k v,knd.is k v=true->kf v=k)(W:WalksS prog w A.in1 I fp wr G n P St)(S:Δ)(p:S∉fp)
  (val:Nat->K)(d:∀i v,P i v->knd.is (val i) v=true/\v.scannable=true)(hb:n+1<scanBound):
  ∀(k i:Nat) (s:Θ),n-i=k->i<=n->St i s->SetK knd kf s.heap S (cA val i)->
   (∀s',Moved (S::wr) G s s'->SetK knd kf s'.heap S (cA val n)->R (.ok (.ret .none)) s')->
   codeAny (model prog w) A (.builtin "set.update.loop" #[[-S,-I],[]]) R s:=by
 have q:S∉wr:=λh=>p (W.sub _ h)
 have a:∀b∈wr,b∈S::wr:=λb hb=>Jv _ hb
 intro k
 induction k with
 |zero=>
  intro i s hk hi c F D;have x:i=n:=by lia
  subst x;refine I0 SL ?_
  rw[R3 R4 _]
  show ε _ A.in1 (pyNext (-I) >>= _) _ _ s
  refine Ja (W.done s _ _ c λs' g=>?_)
  show ε _ A.in1 (ret Γ.none) _ _ s'
  exact Jd (D s' (g.mono a) (F.at λo e=>g.heap S _ q e))
 |succ k ih=>
  intro i s hk hi c F D;have r:i<n:=by lia
  refine I0 SL ?_
  rw[R3 R4 _]
  show ε _ A.in1 (pyNext (-I) >>= _) _ _ s
  refine Ja (W.item i s _ _ r c λv s' H j g=>?_)
  let#[t,C]:=d i v H;have y:SetK knd kf s'.heap S (cA val i):=F.at λo e=>g.heap S _ q e
  show ε _ A.in1 (holding [v] (setAdd S v) >>= _) _ _ s'
  refine Ja (JM ?_)
  unfold setAdd;refine JM (Ja (knd.pyHash (k:=val i) t ?_))
  have:=sW val i
  refine tV (s:={s' with toks:=s'.toks+1}) u t C y (by lia) λh' m E=>?_
  have B:SetK knd kf h' S (cA val (i+1)):=by rw[oS];exact E
  refine Jd #[plainId_quiet R4 _,ih (i+1) _ (by lia) r (W.frame _ s' _ _ j (IL _) λb hb o e=>?_) B λz l f=>?_]
  .rw[m.2 b (λh:b=S=>p (by rw[<- h];exact hb))];exact e
  .refine D z (Moved.trans W.gtrans ((g.mono a).then_heap (IL _) λb o hb e=>?_) l) f
   rw[m.2 b (λh:b=S=>hb (by rw[h];exact Jr))];exact e
end
variable{A:Rj}{s:Θ}
def FQ(a:Γ){Q₁:HG}(h:Q₁ (-s.heap.objs.size) {s with heap:=s.heap.push (Qv (! zC w))}):
  codeAny (model prog w) A (.call (.builtin "set.__new__") #[[.type "set",a],[]]) (wants Q₁ E) s:=by
 refine codeAny_of_tree ?_
 show ε _ A.in1 (do checkBuiltinCall "set.__new__" #[[.type "set",a],[]];again (.builtin "set.__new__" #[[.type "set",a],[]])) _ _ s
 refine Ja (Iy (PySem.F.newCall_set_1 a) (Jd #[plainId_quiet PySem.F.plain_set_new _,I0 PySem.F.entry_set_new ?_]))
 rw[R3 PySem.F.plain_set_new _];unfold γ.«set.__new__» γ.Frozenset.newClass
 have c:=sub_set_self;let#[e,g,d,tk,f]:=s
 dsimp only
 wp_walk
 refine wpAny_askSetting (Jd ?_)
 dsimp only
 simp only[newObj];refine Ja (wpAny_alloc (Jd ?_))
 exact Jd h
def Cm(knd:SC prog w K)(kf:Γ->K)(s:Θ)(ks:List K)(r:Γ)(a:Θ):Prop:=
 r= .none/\∃h' tk,a={s with heap:=h',toks:=tk}/\SetK knd kf h' s.heap.objs.size ks/\∀b o,b<s.heap.objs.size->s.heap.get? b=↑o->h'.get? b=↑o
def FI(d:∀k v,knd.is k v=true->kf v=k){val:Nat->K}(x:A.handled=none)(u:s.heap.IsList t items)
  (hv:∀i v,items[i]? =↑v->knd.is (val i) v=true/\v.scannable=true)(hb:items.size+1<scanBound):
  ε (model prog w) A.in1.in1 (γ.«set.__init__» #[[-s.heap.objs.size,-t],[]]) (λj s'=>∃v,j= .done (.ret v)/\Cm knd kf s (cA val items.size) v s') E {s with heap:=s.heap.push (Qv (! zC w))}:=by
 let#[#[oc,od,H,C],m,l,n,q]:=u;simp only at l q
 subst l q;have g:(s.heap.push (Qv (! zC w))).get? t=some #[.type "list",od,.seq items n,C]:=Jk _ m
 have f1:=PySem.F.sub_list_set;have f2:=PySem.F.sub_list_frozenset;have G:(Γ.type "list"==Γ.type "dict")=false:=by decide
 have p:(s.heap.push (Qv (! zC w))).IsList t items:=#[_,g,Z,n,Z]
 have F:(s.heap.push (Qv (! zC w))).get? s.heap.objs.size=↑(Qv (! zC w)):=Jp _ Z
 unfold γ.«set.__init__» noKeywords γ.Frozenset.updateFrom
 generalize hPI:pyIter=PI
 wp_walk
 subst hPI;refine LA p (Ja (wpAny_runValue ?_))
 have lt:t<s.heap.objs.size:=Jl m
 have sz:(s.heap.push (Qv (! zC w))).objs.size=s.heap.objs.size+1:=JU ..
 have z:A.in1.in1.in1.handled=none:=by simp [x]
 have B:t≠(s.heap.push (Qv (! zC w))).objs.size:=by rw[sz];exact Jm (Ik lt)
 have D:s.heap.objs.size∉[(s.heap.push (Qv (! zC w))).objs.size,t]:=by
  rw[sz];simp only[Jg,Jt,Ju,not_or]
  exact#[Jm (G0 _),J1 lt]
 refine Ee d ((Walks.list z _ t B items).toS) s.heap.objs.size D val hv hb items.size 0 _ (by lia) (JB _) #[#[_,Jp _ Z,9],p.push _] (C0 (Jk _ F)) λs' mv h=>?_
 let#[h',r,y,f,c]:=s'
 obtain rfl:r=s.gens:=mv.gens
 obtain rfl:y=s.drawn:=mv.drawn
 obtain rfl:c=s.os:=mv.os
 show ε _ _ _ _ _ _
 refine Jd ?_
 show ε _ _ (ret Γ.none) _ _ _
 refine Jd #[41,h',f,Z,h,λb o a e=>mv.heap b o ?_ (Jk _ (Jk _ e))]
 rw[sz];simp only[Jg,Jt,Ju,not_or]
 exact#[Jm a,Jm (Ik a)]
def yW(l:∀k v,knd.is k v=true->kf v=k){val:Nat->K}{Q:HG}(B:A.handled=none)(y:s.heap.IsList t items)
  (hv:∀i v,items[i]? =↑v->knd.is (val i) v=true/\v.scannable=true)(hb:items.size+1<scanBound)
  (h:∀(h':Ψ) (tk:Nat),SetK knd kf h' s.heap.objs.size (cA val items.size)->(∀b o,s.heap.get? b=↑o->h'.get? b=↑o)->Q (-s.heap.objs.size) {s with heap:=h',toks:=tk}):
  ε (model prog w) A (call (.type "set") [-t]) Q E s:=by
 let#[c,tl,q]:=PySem.F.called_set.mro;have G:=PySem.F.called_set.made;have D:=PySem.F.called_set.sub;have H:=PySem.F.called_set.notType;have I:=PySem.F.called_set.canCreate;have F:=PySem.F.typeCall_set_1 (-t);refine wpAny_call (codeAny_of_tree ?_)
 show ε _ _ (callAny (.type "set") _) _ _ _
 refine Jd #[Sv _ nofun,I0 PySem.F.entry_type_call ?_]
 rw[Around.under_plain (weight_type_call_type "set" [-t] []) Z]
 repeat (any_goals (first|assumption|wp_step))
 refine Lm (FQ (-t) (E:=E) (Q₁:=λg f=>g= .ref s.heap.objs.size/\f={s with heap:=s.heap.push (Qv (! zC w))}) #[9]) λr f p=>?_
 cases r with
 |error e=>exact p
 |ok fl=>
  cases fl with
  |ret g=>
   let#[rfl,rfl]:=p;have x:Θ.TypeIs {s with heap:=s.heap.push (Qv (! zC w))} (-s.heap.objs.size) "set":=#[_,Jp _ Z,Z]
   have n1:=PySem.F.called_set.init.lookup;have n2:=PySem.F.called_set.init.bind (-s.heap.objs.size)
   repeat (any_goals (first|assumption|wp_step))
   refine Lm (codeAny_call_builtin (R:=wants (Cm knd kf s (cA val items.size)) E) PySem.F.called_set.init.plain PySem.F.entry_set_init (check_set_init_1 x (Jx (FI l B y hv hb) (λC s' ⟨v,e,d⟩=>by subst e;exact d) λ_ _ z=>z))) λj u a=>?_
   cases j with
   |error e=>exact a
   |ok fl₂=>
    cases fl₂ with
    |ret r=>
     let#[rfl,h',tk,rfl,m,n]:=a
     repeat (any_goals (first|assumption|wp_step))
     exact h _ _ m λb o e=>n b o (Jl e) e
    |_=>exact a.elim
  |_=>exact p.elim
end
theorem eI{a:Type}:∀(l:List a) (i:Nat) (x:a),l[i]? =↑x->(x::l.eraseIdx i).Perm l
 | [],i,x,h=>by simp at h
 |y::l,0,x,h=>by simp at h;subst h;exact RP _
 |y::l,i+1,x,h=>by
  have c:=eI l i x (by simpa using h)
  rw[List.eraseIdx_cons_succ]
  exact(List.Perm.swap y x _).trans (c.cons y)
theorem tO{a:Type}(next:Nat->Nat):∀(f k:Nat) (l:List a) (out:Array a),l.length=f->(pickOrder.go next f k l out).toList.Perm (out.toList++l)
 |0,k,l,out,h=>by
  have e:l=[]:=Kz.mp h
  subst e;unfold pickOrder.go;simp
 |f+1,k,l,out,h=>by
  unfold pickOrder.go;have d:next k%l.length<l.length:=Ki _ (by lia)
  have c:=Jh d;rw[c]
  dsimp only
  have g:=eI l _ _ c;refine(tO next f (k+1) _ _ (by rw[PF,Jc d];lia)).trans ?_
  rw[PB,IU];exact List.Perm.append_left _ g
def lq{a:Type}(next:Nat->Nat)(xs:Array a):(pickOrder next xs).toList.Perm xs.toList:=by
 have:=tO next xs.size 0 xs.toList (AA []) (by simp)
 simpa [pickOrder]using this
section
variable{M:Model}{A:Rj}{E:HG}
def pL{s:Θ}{n:Nat}{Q:Nat->Θ->Prop}(hn:n≠0)(h:∀i,i<n->Q i {s with drawn:=s.drawn.bump a}):ε M A (choose a n) Q E s:=
 λ_ _ _=>#[hn,h _ (Ki _ (Oi hn))]
theorem jp{c:Type}:∀(n:Nat) (xs:List c) {s:Θ} {Q:List c->Θ->Prop},xs.length<=n->(∀ys d,ys.Perm xs->Q ys {s with drawn:=d})->ε M A (drawOrder n xs) Q E s
 |0,xs,s,Q,hl,h=>by
  have e:xs=[]:=Kz.mp (by lia)
  subst e;exact Jd (h [] s.drawn (RP _))
 |n+1,[],s,Q,hl,h=>Jd (h [] s.drawn (RP _))
 |n+1,x::xs,s,Q,hl,h=>by
  show ε M A (do
   let i <- choose .order (x::xs).length
   match(x::xs)[i]? with
   |some y=>return y::(<- drawOrder n ((x::xs).eraseIdx i))
   |none=>unsupported "internal:drawOrder") Q E s
  refine Ja (pL (by simp) λi hi=>?_)
  have a:=Jh hi;rw[a]
  dsimp only
  refine Ja (jp n _ (by rw[PF,Jc hi];simp at hl⊢;lia) λys d f=>Jd (h _ d ?_))
  exact(f.cons _).trans (eI _ _ _ a)
end
noncomputable abbrev nw(f:Γ)(i:Nat)(a:Δ)(n ep:Nat):Obj:={cls:= .type "set_iterator",data:= .fields (AA [f,.int i 0,-a,.int n 0,.int ep 0])}
def Way(w:Ω)(a T:Δ)(es:Array (Int×Γ))(ep:Nat)(t:SetTable)(vs:Ζ)(i:Nat)(f:Γ)(h:Ψ):Prop:=
 (zC w=true/\(∃z:Nat,f= .int z 0)/\vs=(pickOrder (w.params.setOrder a ep) es).toList.map (·.2))\/
 (zC w=false/\(! t.plain&&decide (es.size>1))=false/\t.led=true/\Rs t.place/\(∃z:Nat,f= .int z 0/\P7 t.place z=i)/\vs=es.toList.map (·.2))\/
 (∃ps:Κ,f= .ref T/\h.IsTuple T (ps.map λp:Nat=>Γ.int (p:Int) 0).toArray/\vs.map some=ps.map λp=>es[p]?.map (·.2))
def Way.keep{h':Ψ}(x:Way w a T es ep t vs i f h)
  (e:∀o,h.get? T=↑o->h'.get? T=↑o):Way w a T es ep t vs i f h':=by
 rcases x with x|x|⟨ps,j,⟨o,d,c⟩,g⟩
 .exact .inl x
 .exact .inr (.inl x)
 .exact .inr (.inr #[ps,j,#[o,e _ d,c],g])
def uB(a:Δ)(c d ep:Nat):setNext a c d ep=(do
 let(es,ec,t) <- setState a
 if <- setsByText then
  if ec != ep then unsupported "set_iterator.__next__:elements-changed"
  return ((<- setWalk a)[d]?).map λe=>(e.2,c)
 if ! t.plain&&es.size>1 then unsupported "set_iterator.__next__:the-table-is-plain-no-more"
 (do if ! t.led&& ! es.isEmpty then unsupported "set:maker-not-led":Sem Unit)
 let i:=P7 t.place c
 return match es[i]?,t.place[i]? with
  |some (_,x),↑j=>↑(x,j+1)
  |_,_=>none):=Z
section
def Q2{Q:Bool->Θ->Prop}(h:Q (zC w) s):ε (model prog w) A setsByText Q E s:=
 Ja (wpAny_askSetting (Jd h))
variable{ep:Nat}{i:Nat}
def tK{Q:Option (Γ×Nat)->Θ->Prop}(ho:s.heap.get? a=↑o)(hd:o.data= .set es ep t)(hf:t.fits es.size=true){z:Nat}(W:Way w a T es ep t vs i (.int z 0) s.heap)
  (h:∀r,r.map (·.1)=vs[i]? ->(∀f:Nat,r.map (·.2)=↑f->Way w a T es ep t vs (i+1) (.int f 0) s.heap)->Q r s):ε (model prog w) A (setNext a z i ep) Q E s:=by
 rw[uB];refine Ja (wpAny_setState_of ho hd hf ?_)
 dsimp only
 refine Ja (Q2 ?_)
 rcases W with⟨d,⟨u,m⟩,g⟩|⟨d,m,g,l,⟨u,v,D⟩,q⟩|⟨ps,d,_⟩
 .rw[d,Jc Z]
  simp only[bne_self_eq_false,D2,JH];refine Ja ?_
  unfold setWalk;refine Ja (wpAny_setState_of ho hd hf ?_)
  dsimp only
  refine Ja (Q2 ?_)
  rw[d,Jc Z];refine Ja (wpAny_askSetting (Jd (Jd (h _ ?_ λf _=> .inl #[d,#[f,Z],g]))))
  rw[g,Jo,PH,KI];rfl
 .rw[d,Jb ⋯,m]
  simp only[D2,JH,g,KW,Ii];refine Ja (Jd ?_)
  have C:z=u:=by injection v with v;lia
  subst C;rw[D];have x:t.place.size=es.size:=by
   simp only[R6,JF,J7]at hf;exact hf.1
  refine Jd (h _ ?_ λf j=> .inr (.inl #[d,m,g,l,#[f,Z,?_],q]))
  .rw[q,Jo,KI]
   by_cases hi:i<es.size
   .rw[getElem?_pos es i hi,getElem?_pos t.place i (by lia)];rfl
   .rw[K1 (by lia)];rfl
  .by_cases hi:i<es.size
   .have e:i<t.place.size:=by lia
    rw[getElem?_pos es i hi,getElem?_pos t.place i e]at j;simp only[PJ,SG]at j;subst j;let#[J,B,y]:=cV l (t.place[i]+1)
    generalize P7 t.place (t.place[i]+1)=p at *
    have H:¬p<=i:=λc=>by have:=y i e c;lia
    have I:¬i+2<=p:=λc=>by
     have n:i+1<t.place.size:=by lia
     have G:=B (i+1) n (by lia)
     have F:=l.at e n (by lia)
     lia
    lia
   .rw[K1 (by lia)]at j;simp at j
 .cases d
end
def slot_si_next:Slot "set_iterator" "__next__" "set_iterator.__next__":=
 .of (owner:="set_iterator") (n:="__next__") (by rw[LI,LJ];kernel_rfl) nofun nofun nofun
  (by first|exact .inl nofun|exact .inr nofun) (by rw[Li];kernel_rfl)
def fh:entryFor table "set_iterator.__next__"=some γ.«set_iterator.__next__»:=entryFor_of_tree (by kernel_rfl)
def fO(a:Γ):argsOk "set_iterator.__next__" #[[a],[]]:=by unfold argsOk;kernel_rfl
def fK:Slot "set_iterator" "__iter__" "set_iterator.__iter__":=
 .of (owner:="set_iterator") (n:="__iter__") (by rw[LI,LJ];kernel_rfl) nofun nofun nofun
  (by first|exact .inl nofun|exact .inr nofun) (by rw[Li];kernel_rfl)
def lS:entryFor table "set_iterator.__iter__"=some γ.«dict_keyiterator.__iter__»:=
 entryFor_alias (id':="dict_keyiterator.__iter__") (by kernel_rfl) Z nofun (by kernel_rfl)
def nr(a:Γ):argsOk "set_iterator.__iter__" #[[a],[]]:=by unfold argsOk;kernel_rfl
def jC:entryFor table "set.__iter__"=some γ.«frozenset.__iter__»:=
 entryFor_alias (id':="frozenset.__iter__") (by kernel_rfl) Z nofun (by kernel_rfl)
section
variable{ep:Nat}{i:Nat}
def gw{h:Ψ}{I:Δ}{o:Obj}(ho:h.get? I=↑o)(hd:o.data= .fields xs)(k:Nat)(x:Γ):
  (h.update I (TC (·.setIfInBounds k x))).get? I=some {o with data:= .fields (xs.setIfInBounds k x)}:=by
 rw[Lf _ ho (L9 (Lq hd _))];let#[c,d,a,e]:=o
 dsimp only at hd
 subst hd;rfl
def CG{I:Δ}{v:Γ}{Q:Ν->Θ->Prop}(d:s.heap.get? I=↑(nw f i a es.size ep))(ho:s.heap.get? a=↑o)(hd:o.data= .set es ep t)(hf:t.fits es.size=true)
  (W:Way w a T es ep t vs i f s.heap)(K:T≠I)(hv:vs[i]? =↑v)
  (u:∀m h',Ψ.SameBut I s.heap h'->h'.get? I=↑(nw m (i+1) a es.size ep)->Way w a T es ep t vs (i+1) m h'->Q ↑v {s with heap:=h'}):
  ε (model prog w) A (pyNext (-I)) Q E s:=by
 have q:s.TypeIs (-I) "set_iterator":=#[_,d,Z]
 unfold pyNext;refine Ja (IQ (wpAny_callSpecial?_slot (name:=RS "__next__") q slot_si_next (JY slot_si_next q fh ?_ (fO _))))
 unfold γ.«set_iterator.__next__»
 refine Ja (Jd (Ja (wpAny_fieldsOf d Z ?_)))
 dsimp only
 refine Ja ?_
 unfold setEntries;refine Ja (wpAny_setState_of ho hd hf (Jd ?_))
 dsimp only
 simp only[bne_self_eq_false,D2,JH];have keep:∀(k:Nat) (x:Γ),∀(h:Ψ),∀o,h.get? T=↑o->(h.update I (TC (·.setIfInBounds k x))).get? T=↑o:=λk x h o e=>by
  rw[LD _ _ (Ne.symm K)];exact e
 have c:∀(E':HG) (z:Nat),f= .int z 0->ε (model prog w) A.in1 (do
   match <- setNext a z i ep with
   |some (x,next)=>
    setField (-I) 0 (rawInt next)
    setField (-I) 1 (rawInt ((i:Int)+1))
    ret x
   |none=>setField (-I) 2 .none;raiseNew (<- newExc (.type "StopIteration") [])) (λc s'=>∃v,c= .done (.ret v)/\(ε (model prog w) A (pure ↑v) Q E s')) E' s:=by
  intro E' z N;subst N;refine Ja (tK ho hd hf W λr h1 l=>?_)
  rw[hv]at h1;cases r with
  |none=>cases h1
  |some p=>
   let#[x,j]:=p;simp only[PJ,SG]at h1;subst h1
   dsimp only
   refine Ja (II d Z (by simp) ?_)
   have g:=gw d Z 0 (rawInt (j:Int))
   refine Ja (II g Z (by simp) ?_)
   have F:=gw g Z 1 (rawInt ((i:Int)+1))
   refine Jd #[0,Jd (u (.int j 0) _ ((G6 ..).trans (G6 ..)) ?_ ((l j Z).keep λo e=>keep _ _ _ _ (keep _ _ _ _ e)))]
   rw[F];simp [rawInt]
 rcases id W with⟨_,⟨z,rfl⟩,_⟩|⟨_,_,_,_,⟨z,rfl,_⟩,_⟩|⟨ps,rfl,⟨M,y,D,n,C⟩,B⟩
 .exact c _ z Z
 .exact c _ z Z
 .dsimp only
  refine Ja (IW y C ?_)
  dsimp only
  have h1:(vs.map some)[i]? =↑(↑v):=by rw[Jo,hv];rfl
  rw[B,Jo]at h1;let#[p,G,l]:=JO.mp h1;let#[e,L,H]:=JO.mp l;have J:((ps.map λp:Nat=>Γ.int (p:Int) 0).toArray)[((i:Nat):Int).toNat]? =↑(.int (p:Int) 0):=by
   rw[Iw,Kj,Jo,G];rfl
  rw[J]
  dsimp only
  refine Ja ?_
  unfold setNextDrawn;refine Ja (wpAny_setState_of ho hd hf ?_)
  dsimp only
  rw[Iw,Iw,L];simp only[bne_self_eq_false,D2,JH];refine Jd (Ja (II d Z (by simp) ?_))
  have g:=gw d Z 1 (rawInt ((i:Int)+1))
  refine Jd #[0,Jd ?_]
  rw[H];refine u (-T) _ (G6 ..) ?_ (.inr (.inr #[ps,Z,#[M,keep _ _ _ _ y,D,n,C],B]))
  rw[g];simp [rawInt]
def vt{B:Rj}{s:Θ}{Q:Ν->Θ->Prop}(f:B.handled=none)(h:∀h',(∀b o,s.heap.get? b=↑o->h'.get? b=↑o)->Q none {s with heap:=h'}):
  ε (model prog w) B.in1 (newExc (.type "StopIteration") [] >>= raiseNew) (λ(d:Fin) s'=>∃v,d= .done (.ret v)/\ε (model prog w) B (pure ↑v) Q E s')
   (λe s'=>ε (model prog w) B (do
     let c <- isInstance e (Γ.type "StopIteration")
     if c=true then pure none else throw e) Q E s') s:=by
 refine Ja ?_
 simp only[newExc,newTuple];refine Ja (J6 ?_ (by size_fits))
 refine Ja (m:=firstArgMember _ _) (Iy (a:=Γ.none) (by first|rfl|(simp only[firstArgMember];rfl)) ?_)
 refine J6 ?_ (by size_fits)
 simp only[raiseNew];refine Ja (wpAny_handled ?_)
 rw[show B.in1.handled=none from f]
 refine Ja (Jd (wpAny_throw ?_))
 refine Ja (IX (T:="StopIteration") (b:=true) #[_,Jp _ Z,Z] LU ?_)
 exact Jd (h _ λb o e=>Jk _ (Jk _ e))
def Fg{I:Δ}{Q:Ν->Θ->Prop}(l:A.handled=none)(j:s.heap.get? I=↑(nw f i a es.size ep))(ho:s.heap.get? a=↑o)(hd:o.data= .set es ep t)(hf:t.fits es.size=true)
  (W:Way w a T es ep t vs i f s.heap)(hv:vs[i]? =none)
  (q:∀h',(∀b o,b≠I->s.heap.get? b=↑o->h'.get? b=↑o)->Q none {s with heap:=h'}):
  ε (model prog w) A (pyNext (-I)) Q E s:=by
 have m:s.TypeIs (-I) "set_iterator":=#[_,j,Z]
 unfold pyNext;refine Ja (IQ (wpAny_callSpecial?_slot (name:=RS "__next__") m slot_si_next (JY slot_si_next m fh ?_ (fO _))))
 unfold γ.«set_iterator.__next__»
 refine Ja (Jd (Ja (wpAny_fieldsOf j Z ?_)))
 dsimp only
 refine Ja ?_
 unfold setEntries;refine Ja (wpAny_setState_of ho hd hf (Jd ?_))
 dsimp only
 simp only[bne_self_eq_false,D2,JH];have g:∀(k:Nat) (x:Γ) (h:Ψ) (b:Δ) (o:Obj),b≠I->h.get? b=↑o->(h.update I (TC (·.setIfInBounds k x))).get? b=↑o:=λk x h b o n e=>by
  rw[LD _ _ (Ne.symm n)];exact e
 have d:∀(z:Nat),f= .int z 0->ε (model prog w) A.in1 (do
   match <- setNext a z i ep with
   |some (x,next)=>
    setField (-I) 0 (rawInt next)
    setField (-I) 1 (rawInt ((i:Int)+1))
    ret x
   | none=>setField (-I) 2 .none;raiseNew (<- newExc (.type "StopIteration") [])) (λd s'=>∃v,d= .done (.ret v)/\(ε (model prog w) A (pure ↑v) Q E s')) (λe s'=>ε (model prog w) A (do
     let c <- isInstance e (Γ.type "StopIteration")
     if c=true then pure none else throw e) Q E s') s:=by
  intro z C;subst C;refine Ja (tK ho hd hf W λr h1 G=>?_)
  rw[hv]at h1;cases r with
  |some p=>cases h1
  |none=>
   dsimp only
   refine Ja (II j Z (by simp) ?_)
   exact vt l λh' hk=>q h' λb o n e=>hk b o (g _ _ _ _ _ n e)
 rcases id W with⟨_,⟨z,rfl⟩,_⟩|⟨_,_,_,_,⟨z,rfl,_⟩,_⟩|⟨ps,rfl,⟨J,B,H,n,D⟩,F⟩
 .exact d z Z
 .exact d z Z
 .dsimp only
  refine Ja (IW B D ?_)
  dsimp only
  have h1:(vs.map some)[i]? =none:=by rw[Jo,hv];rfl
  rw[F,Jo]at h1;have y:((ps.map λp:Nat=>Γ.int (p:Int) 0).toArray)[((i:Nat):Int).toNat]? =none:=by
   rw[Iw,Kj,Jo];cases hp:ps[i]? with
   |none=>rfl
   |some p=>rw[hp]at h1;cases h1
  rw[y]
  dsimp only
  refine Ja (II j Z (by simp) ?_)
  have u:=gw j Z 0 (rawInt 0);refine Ja (II u Z (by simp) ?_)
  exact vt l λh' hk=>q h' λb o n e=>hk b o (g _ _ _ _ _ n (g _ _ _ _ _ n e))
def BA{I:Δ}(x:A.handled=none)(B:T≠I)(z:a≠I)(hl:vs.length=es.size):Walks prog w A I [I,a,T] [I] es.size (λi v=>vs[i]? =↑v)
  (λi h=>(∃o,h.get? a=↑o/\o.data= .set es ep t/\t.fits es.size=true)/\∃f,h.get? I=↑(nw f i a es.size ep)/\Way w a T es ep t vs i f h) where
 sub:=λb j=>by simp at j;simp [j]
 frame:=λi h h' ⟨⟨o,g,l⟩,f,d,n⟩ hk=>#[#[o,hk a (by simp) o g,l],f,hk I (by simp) _ d,n.keep λo e=>hk T (by simp) o e]
 item:=λi s Q E hi ⟨⟨o,g,l,c⟩,f,d,n⟩ m=>by
  have r:vs[i]? =some vs[i]:=Jh (by omega)
  refine CG d g l c n B r λy h' q h1 u=>m _ h' s.toks r #[#[o,by rw[q.2 a z];exact g,l,c],y,h1,u] λb o j e=>?_
  rw[q.2 b (λh=>j (by simp [h]))];exact e
 done:=λs Q E ⟨⟨o,g,l,c⟩,f,d,n⟩ m=>Fg x d g l c n (MA (by omega)) λh' hk=>m h' s.toks λb o j e=>hk b o (λh=>j (by simp [h])) e
 self:=λi s Q E ⟨_,f,d,_⟩ m=>by
  have p:s.TypeIs (-I) "set_iterator":=#[_,d,Z]
  refine wpAny_pyIter_slot p fK (JY fK p lS ?_ (nr _))
  show ε _ _ (ret (-I)) _ _ s
  exact Jd #[0,"set_iterator",_,p,slot_si_next.lookup,m]
end
section
variable{es:Array (Int×Γ)}{ep:Nat}
def uk(h:Rs xs):P7 xs 0=0:=by
 let#[h1,a,c]:=cV h 0;generalize P7 xs 0=p at *
 cases p with
 |zero=>rfl
 |succ p=>exact absurd (a 0 (by lia) (by lia)) (I1 _)
def Rs.few{xs:Array Nat}(h:xs.size<=1):Rs xs:=by
 unfold Rs;rw[Kg];intro i j hi a c;simp at hi a
 lia
def tS{ps:Κ}(hp:ps.Perm (Ag es.size)):∃vs:Ζ,vs.map some=(ps.map λp=>es[p]?.map (·.2))/\vs.Perm (es.toList.map (·.2)):=by
 exists ps.map λp=>(es[p]?.map (·.2)).getD .none,?_
 .rw[Ir]
  refine Lr λp h=>?_
  have a:p<es.size:=JT.mp (hp.mem_iff.mp h)
  show ↑((es[p]?.map (·.2)).getD .none)=_
  rw[getElem?_pos es p a];rfl
 .refine(hp.map _).trans (List.Perm.of_eq ?_)
  apply KD
  .simp
  .intro i h1 c
   simp at h1
   simp [h1]
def Ew{Q:HG}(ho:s.heap.get? a=↑o)(p:o.ExactSet)(hd:o.data= .set es ep t)(hf:t.fits es.size=true)(hb:es.size<scanBound)(D:TW w t)
  (r:∀(h':Ψ) (d:Drawn) (I T:Δ) (vs:Ζ) (f:Γ),s.heap.objs.size<=I->T≠I->a≠I->(T=a\/s.heap.objs.size<=T)->(∀b o,s.heap.get? b=↑o->h'.get? b=↑o)->vs.Perm (es.toList.map (·.2))->
   h'.get? I=↑(nw f 0 a es.size ep)->Way w a T es ep t vs 0 f h'->Q (-I) {s with heap:=h',drawn:=d}):
  ε (model prog w) A (pyIter (-a)) Q E s:=by
 have q:s.TypeIs (-a) "set":=#[o,ho,p.1]
 have h:a<s.heap.objs.size:=Jl ho
 refine wpAny_pyIter_slot q PySem.F.slot_set_iter (JY PySem.F.slot_set_iter q jC ?_ (PySem.F.args_set_iter_1 _))
 unfold γ.«frozenset.__iter__»
 refine Ja ?_
 show ε _ _ (pure a) _ _ _
 refine Jd (Ja ?_)
 unfold γ.Frozenset.sizeOf setEntries;refine Ja (Ja (wpAny_setState_of ho hd hf (Jd (Jd ?_))))
 refine Ja ?_
 unfold setDrawn;refine Ja (wpAny_setState_of ho hd hf ?_)
 dsimp only
 refine Ja (Q2 (Jd ?_))
 show ε _ _ (if(! zC w&&(! t.plain&&decide (es.size>1)))=true then _ else _) _ _ _
 by_cases g:(! zC w&&(! t.plain&&decide (es.size>1)))=true
 .rw[Jc g]
  refine Ja (jp _ _ (by simp) λps d j=>?_)
  let#[vs,y,x]:=tS j;refine Ja (wpAny_newTuple (items:=ps.map λi:Nat=>rawInt (i:Int)) ?_ (by rw[Je,j.length_eq,E1];exact fits_of_scanBound hb))
  have m:(s.heap.push {cls:= .type "tuple",data:= .seq (ps.map λi:Nat=>rawInt (i:Int)).toArray}).get? s.heap.objs.size=some {cls:= .type "tuple",data:= .seq (ps.map λi:Nat=>rawInt (i:Int)).toArray}:=Jp _ Z
  have n:=Jk {cls:= .type "tuple",data:= .seq (ps.map λi:Nat=>rawInt (i:Int)).toArray} ho
  unfold setEpoch;refine Ja (Ja (wpAny_setState_of (s:={s with heap:=s.heap.push {cls:= .type "tuple",data:= .seq (ps.map λi:Nat=>rawInt (i:Int)).toArray},drawn:=d}) n hd hf (Jd ?_)))
  unfold newFields;refine Ja (J6 (Jd #[0,"set_iterator",_,#[_,Jp _ Z,Z],slot_si_next.lookup,?_]))
  refine r _ d _ s.heap.objs.size vs (-s.heap.objs.size) (by rw[JU];exact IL _) (by rw[JU];exact Jm (G0 _)) (by rw[JU];exact Jm (Ik h)) (.inr (Jf _))
   (λb o e=>Jk _ (Jk _ e)) x (Jp _ Z) (.inr (.inr #[ps,Z,?_,y]))
  exact#[_,Jk _ m,Z,(0),Z]
 .rw[Jb g]
  refine Ja (Jd ?_)
  unfold setEpoch;refine Ja (Ja (wpAny_setState_of ho hd hf (Jd ?_)))
  unfold newFields;refine Ja (J6 (Jd #[0,"set_iterator",_,#[_,Jp _ Z,Z],slot_si_next.lookup,?_]))
  have u:∀vs:Ζ,vs.Perm (es.toList.map (·.2))->Way w a a es ep t vs 0 (.int (0:Nat) 0) (s.heap.push (nw (.int (0:Nat) 0) 0 a es.size ep))->Q (-s.heap.objs.size) {s with heap:=s.heap.push (nw (.int (0:Nat) 0) 0 a es.size ep)}:=λvs F C=>
   r _ s.drawn _ a vs (.int (0:Nat) 0) (Jf _) (Jm h) (Jm h) (.inl Z) (λb o e=>Jk _ e) F (Jp _ Z) C
  cases hbt:zC w with
  |true=>exact u _ ((lq _ es).map _) (.inl #[hbt,#[(0),Z],Z])
  |false=>
   rw[hbt]at g;have c:(! t.plain&&decide (es.size>1))=false:=by simpa using g
   rcases D with z|⟨B,v⟩
   .rw[hbt]at z;cases z
   .have l:Rs t.place:=by
     cases j:t.plain with
     |true=>exact v j
     |false=>
      rw[j]at c;refine Rs.few ?_
      simp only[R6,JF,J7]at hf;simp at c
      lia
    exact u _ (RP _) (.inr (.inl #[hbt,c,B,l,#[(0),Z,uk l],Z]))
def Bm{Q:Bool->Θ->Prop}(e:s.TypeIs (-a) "set")(h:Q false s):ε (model prog w) A (γ.List.listLengthHint (-a)) Q E s:=by
 unfold γ.List.listLengthHint;refine Ja (Ls e PySem.F.slot_set_len.lookup ?_)
 generalize hid:("set.__len__":String)=d
 wp_delta
 rw[show splitId d=↑("set","__len__")from by subst hid;decide +kernel]
 subst hid;refine Ja (IX (T:="set") (b:=true) e (by rw[Li];kernel_rfl) ?_)
 refine wpAny_ite_split (λc=>absurd c ⋯) (λ_=>?_)
 refine wpAny_ite_split (λ_=>?_) (λc=>absurd nofun c)
 exact Ja (LC e (Jd h))
def kB{Q:Ζ->Θ->Prop}(hh:A.handled=none)(ho:s.heap.get? a=↑o)(q:o.ExactSet)(hd:o.data= .set es ep t)(hf:t.fits es.size=true)(hb:es.size<scanBound)(tw:TW w t)
  (h:∀(vs:Ζ) (h':Ψ) (tk:Nat) (d:Drawn),(∀b o,s.heap.get? b=↑o->h'.get? b=↑o)->s.heap.objs.size<=h'.objs.size->vs.Perm (es.toList.map (·.2))->Q vs {s with heap:=h',toks:=tk,drawn:=d}):
  ε (model prog w) A (collect (-a)) Q E s:=by
 unfold collect;refine Ja (wpAny_runValue (I0 entry_proto_collect' ?_))
 show ε _ _ (do again (.builtin "list.__iadd__" #[[<- newList [],-a],[]])) _ _ s
 refine Ja (wpAny_newList (Jd #[Sv _ nofun,I0 entry_list_iadd' ?_]))
 rw[R3 PySem.F.plain_list_iadd _];have l:a<s.heap.objs.size:=Jl ho
 have K:(s.heap.push (R5 "list" (AA []) 0)).get? s.heap.objs.size=↑(R5 "list" (AA []) 0):=Jp _ Z
 have n:=Jk (R5 "list" (AA []) 0) ho
 show ε _ _ (γ.List.listExtendWith (-s.heap.objs.size) (-a) (-s.heap.objs.size)) _ _ {s with heap:=s.heap.push (R5 "list" (AA []) 0)}
 unfold γ.List.listExtendWith;have H:Θ.TypeIs {s with heap:=s.heap.push (R5 "list" (AA []) 0)} (-a) "set":=#[o,n,q.1]
 refine Ja (LC H ?_)
 have e1:γ.List.listSameRef (-s.heap.objs.size) (-a)=false:=by
  simp [γ.List.listSameRef,J1 l]
 have e2:(Γ.type "set"==Γ.type "list")=false:=by decide
 have e3:(Γ.type "set"==Γ.type "tuple")=false:=by decide
 simp only[e1,e2,e3,PL,D2,JH];refine Ja (Ew n q hd hf hb tw λh1 d I T vs f G X U D F S b7 Y=>?_)
 have sz:(s.heap.push (R5 "list" (AA []) 0)).objs.size=s.heap.objs.size+1:=JU ..
 dsimp only at G D
 rw[sz]at G D;have L:Θ.TypeIs {s with heap:=h1,drawn:=d} (-a) "set":=#[o,F _ _ n,q.1]
 refine Ja (JM (Bm L ?_))
 have r:=F _ _ K;have N:vs.length=es.size:=by rw[S.length_eq,Je,Jq]
 have W:=BA (prog:=prog) (w:=w) (A:=A.in1) (ep:=ep) (t:=t) (by simp [hh]) X U N
 have nL:s.heap.objs.size∉[I,a,T]:=by
  simp only[Jg,Jt,Ju,not_or];exists by lia,J1 l
  rcases D with z|z
  .rw[z];exact J1 l
  .lia
 have u:∀(h:Ψ) (i:Nat),(∀b o,b≠s.heap.objs.size->h1.get? b=↑o->h.get? b=↑o)->h.get? s.heap.objs.size=some {cls:= .type "list",data:= .seq (AA []) i}->
   ∀R:Result->Θ->Prop,(∀(g:Array Γ) (h':Ψ) (tk c':Nat),g.toList=vs->(∀b o,s.heap.get? b=↑o->h'.get? b=↑o)->h'.get? s.heap.objs.size=some {cls:= .type "list",dict:=none,data:= .seq g c',slots:= (AA [])}->
    R (.ok (.ret (-s.heap.objs.size))) {s with heap:=h',toks:=tk,drawn:=d})->
   codeAny (model prog w) A (.builtin "list.extend.loop" #[[-s.heap.objs.size,-I,-s.heap.objs.size],[]]) R {s with heap:=h,drawn:=d}:=by
  intro h i hk p R hR;have nI:I≠s.heap.objs.size:=J1 G
  refine codeAny_extend_loopS W.toS (fits_of_scanBound hb) s.heap.objs.size nL _ es.size 0 _ (AA []) i (by lia) (JB _) #[#[o,hk _ _ (Jm l) (F _ _ n),hd,hf],f,hk _ _ nI b7,Y.keep λo e=>hk _ _ ?_ e] p (ItemsOf.nil _) λs' c c' P J m=>?_
  .rcases D with z|z
   .rw[z];exact Jm l
   .lia
  .rw[Moved.eq_with P]
   refine hR c s'.heap s'.toks c' ?_ (λb o e=>P.heap b o (λy=>?_) (hk b o (Jm (Jl e)) (F _ _ (Jk _ e)))) J
   .apply Ov
    intro j;rw[KI]
    by_cases hj:j<es.size
    .have B:j<c.size:=by rw[m.1];exact hj
     have:=m.2 j c[j] (getElem?_pos c j B)
     rw[getElem?_pos c j B,this]
    .rw[K1 (by rw[m.1];lia),MA (by lia)]
   .have x:=Jl e
    rcases Jg.mp y with z|z
    .exact absurd z (Jm x)
    .exact absurd (Ji.mp z) (Jm (Ke x G))
 have C:∀(g:Array Γ) (h':Ψ) (tk c':Nat),g.toList=vs->(∀b o,s.heap.get? b=↑o->h'.get? b=↑o)->h'.get? s.heap.objs.size=some {cls:= .type "list",dict:=none,data:= .seq g c',slots:= (AA [])}->
   ε (model prog w) A (do
    let o <- load s.heap.objs.size
    match o.data with
    | .seq xs _=>pure xs.toList
    |_=>unsupported "internal:collect") Q E {s with heap:=h',toks:=tk,drawn:=d}:=by
  intro g h' tk c' c1 c2 O;refine Ja (wpAny_load O (Jd (h _ h' tk d c2 (LM (Jl O)) ?_)))
  rw[c1];exact S
 refine wpAny_ite_split (λ_=>?_) (λ_=>Jd #[plainId_quiet PySem.F.plain_extend_loop _,u h1 0 (λ_ _ _ e=>e) r _ C])
 refine Ja (Ih (Ja ?_))
 show ε _ _ (updateSeq s.heap.objs.size (·.push .none) >>= λ_=>updateSeq s.heap.objs.size (·.pop)) _ _ _
 refine Ja (wpAny_updateSeq r Z ?_)
 have v:=Lf (SY (·.push Γ.none)) r Z
 refine wpAny_updateSeq (hz:=by seq_fits) v Z ?_
 have M:=Lf (SY (·.pop)) v Z
 refine Jd #[plainId_quiet PySem.F.plain_extend_loop _,u _ _ (λb o hb e=>?_) M _ C]
 exact(LD _ _ (Ne.symm hb)).trans ((LD _ _ (Ne.symm hb)).trans e)
end
end S0
namespace L3
open PySem PySem.Spec PyProof.Rows L2 S0
noncomputable def bt(prog:Ξ)(w:Ω)(a:Δ)(ks:Β):HO:= .ext λh=>SetK (TF prog w) numOf h a ks
def yo(prog:Ξ)(w:Ω):∀k v,(TF prog w).is k v=true->numOf v=k:=λk v h=>by
 let#[t,rfl]:=Γ.isInt_shape h;rfl
def _root_.L2.HN.drw(I:HN X R0 σ H s)(d:Drawn):HN X R0 σ H {s with drawn:=d}:=
 #[I.ok,I.os,I.bare,I.base,I.loc,I.cell,I.free,I.freeC,I.pin,I.hok,I.len]
def jr(hc:X.calm=true):zj X (.type "set") (λxs H Q=>∃(p:Δ) (ns:Β),xs=[-p]/\HQ X.K H p (ns.map V.int)/\ns.length+1<scanBound/\∀l,H l=none->Q (-l) (HM H l (bt X.prog X.w l (ddL ns)))):=by
 intro R0 s σ H xs A Q I r h;let#[p,ns,rfl,j,B,q]:=h;let#[u,rfl,w]:=zT r;cases w;let#[a,g,pt,_]:=I.list j;have f:=g.length;rw[Je]at f;have y:IntsAre a ns:=uW g
 refine yW (knd:=TF X.prog X.w) (kf:=numOf) (val:=λi=>ns.getD i default) (yo _ _) (I.ok.hd hc) pt.isList (λi v d=>?_) (by rw[Js];omega) λh' tk c x=>?_
 .let#[t,rfl]:=IntsAre.int_at y i v (by rw[Kj]at d;exact d)
  exact#[intKind_is _ _ _ _,Z]
 .have e:a.toArray.size=ns.length:=by rw[Js];exact f.symm
  rw[e,wu]at c;refine#[-s.heap.objs.size,_,I.laid (t':=tk) (o:=bt X.prog X.w s.heap.objs.size (ddL ns)) x (Jf _) #[c,?_,λh1 z n m=>n.at m],Z,q _ (I.hok.fresh (Jf _))]
  let#[o,_,_,_,e,_]:=c
  exact#[o,e]
end L3
namespace S0
open PySem PySem.Spec PyProof.Rows
def uX(a:Δ):setWalk a=(do
 let(es,epoch,t) <- setState a
 if <- setsByText then return pickOrder ((<- ask).params.setOrder a epoch) es
 if ! t.plain&&es.size>1 then return (<- drawOrder es.size es.toList).toArray
 (do if ! t.led&&es.size>1 then unsupported "set:maker-not-led":Sem Unit)
 return es):=Z
section
variable{prog:Ξ}{w:Ω}{K:Type}[DecidableEq K]{knd:SC prog w K}{kf:Γ->K}
variable{A:Rj}{E:HG}{s:Θ}
def CC{Q:Bool->Θ->Prop}{bs:Η}(F:∀b∈bs,∃g,SetK knd kf s.heap b g)(h:Q true s):ε (model prog w) A (setsQuiet bs) Q E s:=by
 unfold setsQuiet;refine Ja (wpAny_forIn_list _ (λrest b s'=>b.1=none/\s'=s/\∀x∈rest,∃g,SetK knd kf s.heap x g) _ ?_ ?_ bs _ #[9,F])
 .rintro x rest b s' ⟨n,rfl,q⟩
  let#[g,o,es,ep,t,z,C,B,D,_,i,_,_]:=q x Jr;unfold setEntries;refine Ja (Ja (wpAny_setState_of z B D (Jd ?_)))
  refine Ja (R9 _ (λc l j=>l.1=none/\j=s'/\∀e∈c,e.2.scannable=true) _ ?_ ?_ es _ #[9,λe p=>(i e p).2])
  .rintro⟨h1,y⟩ u l j ⟨a,rfl,f⟩
   have m:=f _ Jr;have d:∀e∈u,e.2.scannable=true:=λe p=>f e (Jv _ p)
   cases y<;>first|(cases m;done)|exact Jd #[9,d]
  .rintro⟨v,r⟩ j ⟨a,rfl,_⟩
   simp only at a
   subst a;exact Jd #[9,λy m=>q y (Jv _ m)]
 .rintro⟨G,l⟩ s' ⟨n,rfl,_⟩
  simp only at n
  subst n;exact Jd h
def Z2{Q:Bool->Θ->Prop}(c:s.TypeIs (-a) "set")(h:Q true s):ε (model prog w) A (γ.Frozenset.isAnySet (-a)) Q E s:=by
 unfold γ.Frozenset.isAnySet;refine Ja (IX c sub_set_self ?_)
 exact Jd h
def SetK.type{h:Ψ}{s:Θ}(x:SetK knd kf s.heap a ks):s.TypeIs (-a) "set":=by
 let#[o,es,ep,t,h1,c,_]:=x
 exact#[o,h1,c.1]
theorem oz{K:Type} [DecidableEq K]:∀(l a:List K),a.Nodup->(l.foldl Zq a).Nodup
 | [],a,h=>h
 |k::l,a,h=>by
  refine oz l _ ?_
  unfold Zq;split
  .exact h
  .rw[Lj]
   exact#[h,by simp,λx d y c=>by rw[Ji.mp c];rintro rfl;contradiction]
theorem v8{K:Type} [DecidableEq K]:∀(l a:List K) (k:K),k∈l.foldl Zq a↔k∈a\/k∈l
 | [],a,k=>by simp
 |x::l,a,k=>by
  rw[KZ,v8 l _ k];unfold Zq;split
  .rename_i c
   constructor
   .rintro(h|h)
    .exact .inl h
    .exact .inr (Jv _ h)
   .rintro(h|h)
    .exact .inl h
    .rcases Jg.mp h with rfl|h
     .exact .inl c
     .exact .inr h
  .rw[JP,Ji,Jg]
   constructor
   .rintro((h|h)|h)
    .exact .inl h
    .exact .inr (.inl h)
    .exact .inr (.inr h)
   .rintro(h|h|h)
    .exact .inl (.inl h)
    .exact .inl (.inr h)
    .exact .inr h
theorem wV{K:Type} [DecidableEq K]:∀(l a:List K),(l.foldl Zq a).length<=a.length+l.length
 | [],a=>by simp
 |x::l,a=>by
  have:=wV l (Zq a x)
  rw[KZ,JR];have c:(Zq a x).length<=a.length+1:=by
   unfold Zq;split
   .lia
   .rw[Jy,IM];lia
  lia
def mR{Q:HG}(h:Q (-s.heap.objs.size) {s with heap:=s.heap.push (Qv (! zC w))}):ε (model prog w) A (newSet (.type "set")) Q E s:=by
 unfold newSet;let#[a,g,d,tk,c]:=s
 wp_walk
 refine wpAny_askSetting (Jd ?_)
 dsimp only
 simp only[newObj];exact Ja (wpAny_alloc (Jd h))
end
end S0
namespace L3
open PySem PySem.Spec PyProof.Rows L2 S0
def eV:Γ->Str
 | .str x _=>x
 |_=>Str.empty
noncomputable def bv(prog:Ξ)(w:Ω)(a:Δ)(ks:Α):HO:= .ext λh=>SetK (TH prog w) eV h a ks
def xp(prog:Ξ)(w:Ω):∀k v,(TH prog w).is k v=true->eV v=k:=λk v h=>by
 let#[t,rfl]:=Γ.isStrOf_shape h;rfl
def w9{Q:HG}(P:A.handled=none)(hS:SetK (TH prog w) eV s.heap a ks)(N:ks.length<64)
  (h:∀(h':Ψ) (tk:Nat) (d:Drawn) (l:Δ) (its:Ζ) (n:Nat) (x:Α),s.heap.objs.size<=l->(∀b o,s.heap.get? b=↑o->h'.get? b=↑o)->h'.get? l=↑(R5 "list" its.toArray n)->
   StrsAre its x->x.Perm ks->sortedS x=true->Q (-l) {s with heap:=h',toks:=tk,drawn:=d}):
  ε (model prog w) A (call (.builtin "sorted") [-a]) Q E s:=by
 let#[o,es,ep,t,S,D,Y,hf,J,q,B,u]:=hS;refine SK kind_sorted plain_sorted entry_sorted (args_sorted1 _) ?_
 unfold γ.«sorted»
 refine Ja (m:=checkCount "sorted" 1 1 _) (Jd ?_)
 refine Ja (kB P S D Y hf J u λvs h' tk d hk hz y=>?_)
 have G:StrsAre vs (vs.map eV):=by
  refine jv (by rw[Je]) λj v e=>?_
  let#[T,W,rfl]:=JC.mp (y.mem_iff.mp (Ij e))
  let#[#[k,h1,_],_]:=q T W;let#[R,K]:=Γ.isStrOf_shape h1;refine#[k,R,by rw[Jo,e,K];rfl,K]
 have p:(vs.map eV).Perm ks:=by
  refine(y.map eV).trans ?_
  rw[Ir];exact B
 have C:vs.length<=ζ:=by
  rw[y.length_eq,Je,Jq];exact fits_of_scanBound J
 have g:vs.length<64:=by
  have:=p.length_eq
  rw[Je]at this;lia
 refine Ja (wpAny_newList ?_ C)
 have c:(h'.push (R5 "list" vs.toArray 0)).get? h'.objs.size=↑(R5 "list" vs.toArray 0):=Jp _ Z
 show ε _ _ _ _ _ {s with heap:=h'.push (R5 "list" vs.toArray 0),toks:=tk,drawn:=d}
 refine Ja (JM (JY slot_list_sort #[_,c,Z] entry_list_sort (list_sort_treeK (κ:=PyProof.Rows.strKind) strKind_oneLt c G.keysOf (λI H rest e=>keyKind_strs (by rw[<- e];exact G)) g λf X O=>#[0,?_]) (args_list_sort _)))
 let#[r,U,M,L]:=sorted_out_str G X O;let#[z,F]:∃z,(sortedHeap (h'.push (R5 "list" vs.toArray 0)) h'.objs.size vs ((arrOf f).map (·.2))).get? h'.objs.size=↑(R5 "list" ((arrOf f).map (·.2)) z):=sortedHeap_at c
 refine Jd #[0,h _ tk d h'.objs.size ((arrOf f).map (·.2)).toList z r hz (λb o e=>?_) (by rw[F]) U (M.trans p) L]
 have e':=hk b o e;have i:b<h'.objs.size:=Jl e'
 rw[sortedHeap_old (Jm i) (by rw[JU];exact Ik i)]
 exact Jk _ e'
theorem bq:∀{us:Ζ} {a:Α},StrsAre us a->∀(i:Nat) (v:Γ),us[i]? =↑v->∃t,v= .str (a.getD i default) t
 |_,_,.nil,i,v,e=>by simp at e
 |_,_,.cons x t r,0,v,e=>by
  simp at e;subst e;exact#[t,Z]
 |_,_,.cons x t r,i+1,v,e=>by
  have e':=bq r i v (by simpa using e)
  simpa [JG]using e'
def jd(hc:X.calm=true):zj X (.type "set") (λxs H Q=>∃(p:Δ) (a:Α),xs=[-p]/\HQ X.K H p (a.map V.str)/\a.length+1<scanBound/\∀l,H l=none->Q (-l) (HM H l (bv X.prog X.w l (ddL a)))):=by
 intro R0 s σ H xs B Q I r h;let#[p,a,rfl,n,C,q]:=h;let#[u,rfl,y]:=zT r;cases y;let#[d,m,pt,_]:=I.list n;have f:=m.length;rw[Je]at f;refine yW (knd:=TH X.prog X.w) (kf:=eV) (val:=λi=>a.getD i default) (xp _ _) (I.ok.hd hc) pt.isList (λi v j=>?_) (by rw[Js];lia) λh' tk g z=>?_
 .have c:d[i]? =↑v:=by rw[Kj]at j;exact j
  have hi:i<a.length:=by rw[f];exact(Jw.mp c).1
  let#[t,rfl]:=bq (cQ m) i v c
  exact#[strKind_is _ _ _ _,Z]
 .have e:d.toArray.size=a.length:=by rw[Js];exact f.symm
  rw[e,wu]at g;refine#[-s.heap.objs.size,_,I.laid (t':=tk) (o:=bv X.prog X.w s.heap.objs.size (ddL a)) z (Jf _) #[g,?_,λh1 A x w=>x.at w],Z,q _ (I.hok.fresh (Jf _))]
  let#[o,_,_,_,e,_]:=g
  exact#[o,e]
def lX(hc:X.calm=true):zj X (.builtin "sorted") (λxs H Q=>∃(p:Δ) (ks:Α),xs=[-p]/\H p=↑(bv X.prog X.w p ks)/\ks.length<64/\
  ∀l (c:Α),H l=none->c.Perm ks->sortedS c=true->Q (-l) (HM H l (.lst (c.map V.str)))):=by
 intro R0 s σ H xs y Q I r h;let#[p,ks,rfl,j,e,q]:=h;let#[u,rfl,t]:=zT r;cases t;let#[x,_]:=I.hok p _ j;refine w9 (I.ok.hd hc) x e λh' tk d l f n c i hk v w g m=>?_
 refine#[-l,_,(I.laid (a:=l) (o:= .lst (c.map V.str)) (t':=tk) hk i ?_).drw d,Z,q l c (I.hok.fresh i) g m]
 refine#[?_,f,n,bK w,v]
 have:=g.length_eq
 rw[Je,JD];lia
def bF{K:Type} [DecidableEq K](l:List K):(ddL l).Nodup:=oz l [] LK
def ZH{K:Type} [DecidableEq K](l:List K)(k:K):k∈ddL l↔k∈l:=by unfold ddL;rw[v8];simp
def gy{K:Type} [DecidableEq K](l:List K):(ddL l).length<=l.length:=by have:=wV l ([]:List K);simpa [ddL]using this
end L3
namespace L3
open PySem PySem.Spec PyProof.Rows L2
def E6(k:Nat)(js:Κ)(g:TG)(j:TI)(w:TG)(te:TE)(σ:L2.St)(Q:VK)(J:It)(H1:Hp):Prop:=∃W:Nat->Nat->Ε->L2.St->Hp->Prop,(∃m,W 0 m [] (σ0 k js σ) H1)/\∀i m ys r H,W i m ys r H->
 (J.stop i H/\∀p,H p=none->Q (-p) (HM H p (.lst ys)))\/(J.go i H/\∀x H',J.yld i H x H'->g x r H' λd z=>j d z λl y=>∃n:Nat->Nat->Ε->L2.St->Hp->Prop,(∃h,n 0 h ys d y)/\∀i2 h zs a c,n i2 h zs a c->
  (l.stop i2 c/\∃o,o<m/\W (i+1) o zs a c)\/(l.go i2 c/\zs.length<ζ/\∀q s,l.yld i2 c q s->w q a s λe u=>∃N:V->Hp->Prop,(∀v t,N v t->∃f,f<h/\n (i2+1) f (zs++[v]) e t)/\te e u N))
noncomputable def wj(k:Nat)(js:Κ)(c:TI)(g:TG)(a:TI)(d:TG)(te:TE):TE:=λσ H Q=>c σ H (E6 k js g a d te σ Q)
def oQ(f tg e g a:Φ)(c:Scope)(pos:Pos)(it h:Γ)(d:Env):
  compTurn (.ListComp f [#[tg,e,[],(0)],#[g,a,[],(0)]] c pos) 0 it h d=(standAt e.pos >>= λ_=>pyNext it >>= λr=>match r with
   |none=>pure (.done .next)
   |some v=>letOwnedTupleGo tg it v >>= λ_=>assign tg d v >>= λ_=>
    eval a d >>= λx=>standAt a.pos >>= λ_=>foldedSetIterable a d x >>= λx=>holding [x] (pyIter x) >>= λi2=>runOwn (.compStart (.ListComp f [#[tg,e,[],(0)],#[g,a,[],(0)]] c pos) 1 i2 h d) d >>= λ_=>
     again (.compLoop (.ListComp f [#[tg,e,[],(0)],#[g,a,[],(0)]] c pos) 0 it h d)):=by rfl
def ra(g tg f d a:Φ)(c:Scope)(pos:Pos)(it h:Γ)(e:Env):
  compTurn (.ListComp g [#[tg,f,[],(0)],#[d,a,[],(0)]] c pos) 1 it h e=(standAt a.pos >>= λ_=>pyNext it >>= λr=>match r with
   |none=>pure (.done .next)
   |some v=>letOwnedTupleGo d it v >>= λ_=>assign d e v >>= λ_=>
    (eval g e >>= λx=>call (.builtin "list.append") [h,x] >>= λ_=>pure ()) >>= λ_=>
     again (.compLoop (.ListComp g [#[tg,f,[],(0)],#[d,a,[],(0)]] c pos) 1 it h e)):=by rfl
def rb{q tg o g c:Φ}{it t:Γ}{e:Env}(I:Nat->Θ->Prop)
  (turn:∀n s,I n s->ε (model prog w) A (pyNext it) (λr a=>match r with
   |none=>R (.ok .next) a
   | some v=>ε (model prog w) A (letOwnedTupleGo g it v) (λ_ d=>ε (model prog w) A (assign g e v) (λ_ i=>ε (model prog w) A (eval q e) (λx p=>
     ε (model prog w) A (call (.builtin "list.append") [t,x]) (λ_ j=>∃m,m<n/\I m j) (λ_ _=>False) p)
     (λ_ _=>False) i) (λ_ _=>False) d) (λ_ _=>False) a) (λ_ _=>False) s)
  (n:Nat)(h:I n s):
  codeAny (model prog w) A (.compLoop (.ListComp q [#[tg,o,[],(0)],#[g,c,[],(0)]] f pos) 1 it t e) R s:=by
 refine codeAny_loop Z I (λn s C=>?_) n h
 show ε _ _ ((compTurn (.ListComp q [#[tg,o,[],(0)],#[g,c,[],(0)]] f pos) 1 it t e).onRaise (λx=>do noteFrame x e;theTreesLotGoes x)) _ _ s
 refine wpAny_noted ?_
 rw[ra];refine Ja (Ib (Ja (Jx (turn n s C) (λr a l=>?_) λ_ _ h'=>h'.elim)))
 cases r with
 |none=>exact Jd l
 |some v=>
  refine Ja (Jx l (λ_ d u=>?_) λ_ _ h'=>h'.elim)
  exact Ja (Jx u (λ_ i z=>Ja (Ja (Jx z (λx p B=>Ja (Jx B
   (λ_ j y=>Jd (Jd #[Z,y])) λ_ _ h'=>h'.elim)) λ_ _ h'=>h'.elim))) λ_ _ h'=>h'.elim)
def oZ{tg i z a:Φ}{it:Γ}{c:Env}(hs2:∀x,foldedSetIterable a c x=pure x)(I:Nat->Θ->Prop)
  (turn:∀n s,I n s->ε (model prog w) A (pyNext it) (λr g=>match r with
   |none=>R (.ok .next) g
   | some v=>ε (model prog w) A (letOwnedTupleGo tg it v) (λ_ e=>ε (model prog w) A (assign tg c v) (λ_ t=>ε (model prog w) A (eval a c) (λx q=>
     ε (model prog w) A (pyIter x) (λi2 p=>codeAny (model prog w) A (.compStart (.ListComp y [#[tg,i,[],(0)],#[z,a,[],(0)]] d pos) 1 i2 u c) (λr l=>match r with| .ok _=>∃m,m<n/\I m l| .error _=>False) p) (λ_ _=>False) q)
     (λ_ _=>False) t) (λ_ _=>False) e) (λ_ _=>False) g) (λ_ _=>False) s)
  (n:Nat)(h:I n s):
  codeAny (model prog w) A (.compLoop (.ListComp y [#[tg,i,[],(0)],#[z,a,[],(0)]] d pos) 0 it u c) R s:=by
 refine codeAny_loop Z I (λn s F=>?_) n h
 show ε _ _ ((compTurn (.ListComp y [#[tg,i,[],(0)],#[z,a,[],(0)]] d pos) 0 it u c).onRaise (λx=>do noteFrame x c;theTreesLotGoes x)) _ _ s
 refine wpAny_noted ?_
 rw[oQ];refine Ja (Ib (Ja (Jx (turn n s F) (λr g o=>?_) λ_ _ h'=>h'.elim)))
 cases r with
 |none=>exact Jd o
 |some v=>
  refine Ja (Jx o (λ_ e B=>?_) λ_ _ h'=>h'.elim)
  refine Ja (Jx B (λ_ t D=>Ja (Jx D (λx q E=>?_) λ_ _ h'=>h'.elim)) λ_ _ h'=>h'.elim)
  refine Ja (Ib (Ja ?_))
  rw[hs2];refine Jd (Ja (JM (Jx E (λi2 p C=>?_) λ_ _ h'=>h'.elim)))
  refine Ja (wpAny_runOwn (Lm C λr l j=>?_))
  cases r with
  |ok f=>exact Jd #[Z,j]
  |error x=>exact j.elim
def nj{elt tg iter tg2 iter2 scope pos it acc env}
  (c:codeAny (model prog w) A (.compLoop (.ListComp elt [#[tg,iter,[],(0)],#[tg2,iter2,[],(0)]] scope pos) 1 it acc env) R s)
  (h:ε (model prog w) A (pyIter it) (λa s'=>codeAny (model prog w) A (.compLoop (.ListComp elt [#[tg,iter,[],(0)],#[tg2,iter2,[],(0)]] scope pos) 1 a acc env) R s')
   (notedBy (model prog w) A env λx s'=>R (.error x) s') s):
  codeAny (model prog w) A (.compStart (.ListComp elt [#[tg,iter,[],(0)],#[tg2,iter2,[],(0)]] scope pos) 1 it acc env) R s:=by
 refine codeAny_of_tree ?_
 show ε _ _ ((compStart (.ListComp elt [#[tg,iter,[],(0)],#[tg2,iter2,[],(0)]] scope pos) 1 it acc env).onRaise (λx=>do noteFrame x env;standAt theWindowsPlace)) _ _ s
 refine wpAny_notedAt ?_
 unfold compStart
 show ε _ _ (ask >>= _) _ _ s
 refine Ja (wpAny_askSetting (wpAny_ite ?_))
 split
 .first
   |exact Ja (Jd (Jd (And.intro rfl c)))
   |exact Jd (And.intro rfl c)
 .first
   |exact Ja (Ih (Ja (Ib (Ja (Jx h (λa s' h'=>Jd (And.intro rfl h')) λ_ _ x=>x)))))
   |(refine Ja (Ih ?_);show ε _ _ (standAt iter2.pos >>= _) _ _ s;exact Ja (Ib (Ja (Jx h (λa s' h'=>Jd (And.intro rfl h')) λ_ _ x=>x))))
def yY{a:Scope}{cl:List (Str×Δ)}{e2:Pos}{fr own:Α}{use:Option (Γ->Sem Unit)}{Post:HG}
  {s:Θ}{H:Hp}
  (hc:X.calm=true)(hi:PI X tg A wi)(d1:closureFor a X.env=pure cl)(f3:∀y c,cl.lookup y=↑c->X.env.cells.lookup y=↑c)(f4:cl.map (·.1)=fr)
  (S:MU X a fr js)
  (hg:∀C s H fp,PG (qY X (own++fr) a cl C s H fp) tg g)(g3:∀C s H fp,PI (qY X (own++fr) a cl C s H fp) R t d6)(g1:∀C s H fp,PG (qY X (own++fr) a cl C s H fp) R g2)(he:∀C s H fp,PE (qY X (own++fr) a cl C s H fp) a5 te)
  (hs:∀x,foldedSetIterable A X.env x=pure x)(hs2:∀C x,foldedSetIterable t (compEnvC a cl C X.env) x=pure x)
  (I:L2.HN X R0 σ H s)(h:wj own.length js wi g d6 g2 te σ H Q)
  (e8:∀(d7 C:Δ) (s5:Θ) (H':Hp) (m:HH),L2.HN X R0 σ H' s5->s5.heap.Ns C m->O7 X R0 H' C->Q (-d7) H'->compPost (model X.prog X.w) X.A X.xe use Post (-d7) C (.ok .next) s5):
  ε (model X.prog X.w) X.A (comprehension (.ListComp a5 [⟨tg,A,[],0⟩,⟨R,t,[],0⟩] a pos) a X.env e2 (newList []) false (eval A X.env) use) Post X.xe s:=by
 refine wpAny_comprehension_free (use:=use) Z hs d1 S.kind S.names (qz (hi R0 s σ H _ I h) λv s1 h1=>qz h1 λj3 f h2=>?_)
 let#[it,fp,tn,J,H2,e,I2,T,e6,f2,W,#[m0,w0],turn]:=h2;subst e;refine J6 (wpAny_newFunctionEnv S.nocell (by intro y hy;simp at hy) (λa3 D q=>?_) S.kind)
 dsimp only at D q⊢
 generalize hH2:f.heap.push {cls:= .type "list",dict:=none,data:= .seq ([]:Ζ).toArray}=G at D q⊢
 have hC:G.objs.size=f.heap.objs.size+1:=by rw[<- hH2,JU]
 have a1:f.heap.objs.size≠G.objs.size:=by rw[hC];exact Jm (G0 _)
 have a2:∀b,b<f.heap.objs.size->b≠G.objs.size/\b≠f.heap.objs.size:=λb d=>#[by rw[hC];exact Jm (Ik d),Jm d]
 have d9:∀b o,f.heap.get? b=↑o->a3.get? b=↑o:=λb o e=>q.extBut b o (a2 b (Jl e)).1 (Jk _ (hH2▸Jk _ e))
 have b1:a3.get? f.heap.objs.size=some {cls:= .type "list",data:= .seq ([]:Ζ).toArray 0}:=q.extBut _ _ a1 (Jk _ (hH2▸Jp _ Z))
 let Y:Cx:=qY X (own++fr) a cl G.objs.size f H2 fp
 let#[e4,IY,K,O,c3]:=cS (own:=own) (js:=js) f3 f4 S I2 T e6 f2 hC d9 D
 have a8:∀E:Θ,HN Y [] (σ0 own.length js σ) H2 E->tn 0 E.heap->E.heap.get? f.heap.objs.size=some {cls:= .type "list",data:= .seq ([]:Ζ).toArray 0}->
   codeAny (model X.prog X.w) X.A (.compLoop (.ListComp a5 [#[tg,A,[],(0)],#[R,t,[],(0)]] a pos) 0 (-it) (-f.heap.objs.size) (compEnvC a cl G.objs.size X.env))
    (compPost (model X.prog X.w) X.A X.xe use Post (-f.heap.objs.size) G.objs.size) E:=by
  intro E I3 g6 h0;refine oZ (hs2 _) (λn s'=>∃i ys τ H' l k,HN Y [(f.heap.objs.size,{cls:= .type "list",data:= .seq l.toArray k})] τ H' s'/\tn i s'.heap/\(∀b∈fp,H' b=none)/\HS ys l/\ys.length<=ζ/\W i n ys τ H') ?_ m0 ?_
  .rintro n s4 ⟨i,ys,τ,H4,l,k,I4,f0,d5,vl,hz,w4⟩
   have j2:=I4.pin (f.heap.objs.size,{cls:= .type "list",data:= .seq l.toArray k}) (by simp [Y,qY])
   rcases turn i n ys τ H4 w4 with⟨d4,qn⟩|⟨go,step⟩
   .refine qz (T.done Y Z Z Z hc i _ s4 τ H4 _ I4 (c3 d5 (by simp)) f0 d4) λr s5 F=>?_
    let#[hr,I5]:=F;subst hr
    show compPost _ _ _ _ _ _ _ _ _
    let#[m5,g0,_]:=I5.loc;have b4:=I5.pin (f.heap.objs.size,{cls:= .type "list",data:= .seq l.toArray k}) (by simp [Y,qY])
    have b0:H4 f.heap.objs.size=none:=b4.2.1
    have B:=I5.base;have nC:H4 G.objs.size=none:=I5.free
    let#[z1,z2]:=eM (ob:= .lst ys) I2 f2 hC I5 b0 #[hz,l,k,vl,b4.1]
    exact e8 f.heap.objs.size G.objs.size s5 (HM H4 f.heap.objs.size (.lst ys)) m5 z1 g0 z2 (qn _ b0)
   .refine qz (T.item Y Z Z Z hc i _ s4 τ H4 _ I4 (c3 d5 (by simp)) f0 go) λr s5 F=>?_
    let#[u,hr,h5]:=F;subst hr;refine qz h5 λ_ s6 F=>?_
    let#[x,H6,I6,r6,y6,c4,f1]:=F;have I6':=I6.pinned (c3 f1 (by simp)) (T.obj _ _ c4)
    refine qz (hg _ _ _ _ _ s6 τ H6 x u _ I6' r6 (step x H6 y6)) λ_ s7 F=>?_
    let#[e7,H7,I7,q7]:=F;refine qz (g3 _ _ _ _ _ s7 e7 H7 _ I7 q7) λv7 s8 h8=>qz h8 λi1 s9 h9=>?_
    let#[h4,a4,h3,J2,H9,e9,I9,T2,e5,f9,W2,#[m2,w2],d0]:=h9;subst e9;have b7:∀{H':Hp} {w:Ζ} {k':Nat},(∀b∈a4,H' b=none)->∀b∈a4,Zk Y ((f.heap.objs.size,{cls:= .type "list",data:= .seq w.toArray k'})::ai fp s6.heap) H' b:=λ{H' w k'} hn b d=>
     #[hn b d,(f9 b d).2.1,(f9 b d).2.2.1,(f9 b d).2.2.2.1,(f9 b d).2.2.2.2.1,λp P=>by
      have h6:p∈(f.heap.objs.size,{cls:= .type "list",data:= .seq w.toArray k'})::ai fp s6.heap:=by simpa [Y,qY]using P
      rcases Jg.mp h6 with z|z
      .rw[z]
       exact(f9 b d).2.2.2.2.2 (f.heap.objs.size,{cls:= .type "list",data:= .seq l.toArray k}) (by simp [qY])
      .exact(f9 b d).2.2.2.2.2 p (by simp [qY,z])]
    have L2:codeAny (model X.prog X.w) X.A (.compLoop (.ListComp a5 [#[tg,A,[],(0)],#[R,t,[],(0)]] a pos) 1 (-h4) (-f.heap.objs.size) (compEnvC a cl G.objs.size X.env)) (λr b3=>match r with
      | .ok _=>∃m,m<n/\∃i ys τ H' l k,HN Y [(f.heap.objs.size,{cls:= .type "list",data:= .seq l.toArray k})] τ H' b3/\tn i b3.heap/\(∀b∈fp,H' b=none)/\HS ys l/\ys.length<=ζ/\W i m ys τ H'
      | .error _=>False) s9:=by
     refine rb (λn2 s'=>∃(i2:Nat) (zs:Ε) (e1:L2.St) (H':Hp) (w:Ζ) (k':Nat),HN Y ((f.heap.objs.size,{cls:= .type "list",data:= .seq w.toArray k'})::ai fp s6.heap) e1 H' s'/\h3 i2 s'.heap/\(∀b∈a4,H' b=none)/\HS zs w/\zs.length<=ζ/\W2 i2 n2 zs e1 H') ?_ m2 #[(0),ys,e7,H9,l,k,I9,e5,λb d=>(f9 b d).1,vl,hz,w2]
     rintro n2 sA ⟨i2,zs,M,HA,j,kA,IA,e3,e0,c1,g5,wA⟩
     have h7:=IA.pin (f.heap.objs.size,{cls:= .type "list",data:= .seq j.toArray kA}) (by simp [Y,qY])
     rcases d0 i2 n2 zs M HA wA with⟨d2,m',f5,w'⟩|⟨g4,j1,c0⟩
     .refine qz (T2.done Y Z Z Z hc i2 _ sA M HA _ IA (b7 e0) e3 d2) λr sB F=>?_
      let#[b6,IB]:=F;subst b6;have b2:=IB.pin (f.heap.objs.size,{cls:= .type "list",data:= .seq j.toArray kA}) (by simp [Y,qY])
      have L:∀b∈fp,∀o,s6.heap.get? b=↑o->sB.heap.get? b=↑o/\HA b=none:=λb d o e=>by
       have:=IB.pin (b,o) (JQ _ (Jv _ (Qt d e)))
       exact#[this.1,this.2.1]
      refine#[m',f5,i+1,zs,M,HA,j,kA,IB.pins_of ?_,T.keep _ _ _ c4 λb d o e=>(L b d o e).1,λb d=>?_,c1,g5,w']
      .intro p P
       rw[Ji.mp P]
       exact#[b2.1,b2.2.1,a1,K,λv z=>by cases z]
      .let#[o,e,_]:=T.obj _ _ c4 b d
       exact(L b d o e).2
     .refine qz (T2.item Y Z Z Z hc i2 _ sA M HA _ IA (b7 e0) e3 g4) λr sB F=>?_
      let#[u2,b6,hB]:=F;subst b6;refine qz hB λ_ sC F=>?_
      let#[x2,HC,IC,rC,yC,d3,g8]:=F;have IC':=IC.pinned (b7 g8) (T2.obj _ _ d3);refine qz (g1 _ _ _ _ _ sC M HC x2 u2 _ IC' rC (c0 x2 HC yC)) λ_ sD F=>?_
      let#[c2,HD,ID,N,hN,qD]:=F;refine qz (he _ _ _ _ _ sD c2 HD _ ID qD) λv' sE F=>?_
      let#[y,HE,IE,rE,nE]:=F;let#[g7,d8,wE]:=hN _ _ nE;have U:=IE.pin (f.heap.objs.size,{cls:= .type "list",data:= .seq j.toArray kA}) (by simp [qY])
      have L:∀p∈ai fp s6.heap,sE.heap.get? p.1=↑p.2/\HE p.1=none/\p.1≠Y.env.locals/\p.1∉Y.fs/\∀v,p.2.data≠ .cell v:=λp P=>
       IE.pin p (JQ _ (LN _ (Jv _ P)))
      have a7:∀b∈a4,∀o,sC.heap.get? b=↑o->sE.heap.get? b=↑o/\HE b=none:=λb d o e=>by
       have:=IE.pin (b,o) (JQ _ (JQ _ (Qt d e)))
       exact#[this.1,this.2.1]
      refine wpAny_list_append_plain (items:=j.toArray) #[kA,U.1] (λh' a6 b5=>?_) (by have:=c1.length;simp;lia)
      let#[k',a6]:=a6;have IF:HN Y [] c2 HE {sE with heap:=h'}:=by
       refine(IE.pins_of (pins':=[]) (by simp)).turned (t':=sE.toks) (it:=f.heap.objs.size) (λb o d e=>(b5.2 b d).trans e) U.2.1 ?_ (.inr (Jf _)) (λx c e=>O x c e) (λp P=>absurd (show p∈([]:HI)from by simpa [Y,qY]using P) (by simp))
       exact a1
      have ea:(j.toArray.push v')=(j++[v']).toArray:=by simp
      rw[ea]at a6;refine#[g7,d8,i2+1,zs++[y],c2,HE,j++[v'],k',IF.pins_of ?_,T2.keep _ _ _ d3 λb d o e=>?_,λb d=>?_,c1.append (.cons rE .nil),?_,wE]
      .intro p P
       rcases Jg.mp P with z|z
       .rw[z]
        exact#[a6,U.2.1,a1,K,λv z=>by cases z]
       .let#[p1,p2]:=L p z
        exact#[(b5.2 p.1 (a2 p.1 (e4 p.1 (kT z).1)).2).trans p1,p2]
      .refine(b5.2 b λz=>?_).trans (a7 b d o e).1
       exact(f9 b d).2.2.2.2.2 (f.heap.objs.size,{cls:= .type "list",data:= .seq l.toArray k}) (by simp [qY]) z.symm
      .let#[o,e,_]:=T2.obj _ _ d3 b d
       exact(a7 b d o e).2
      .rw[Jy,IM];lia
    exact nj L2 (T2.self _ 0 _ _ _ e5 L2)
  .refine#[(0),[],σ0 own.length js σ,H2,[],(0),I3.pins_of ?_,g6,λb d=>(f2 b d).1,.nil,JB _,w0]
   intro p P;rw[Ji.mp P]
   exact#[h0,I2.hok.fresh (Jf _),a1,K,λv z=>by cases z]
 have b8:tn 0 a3:=T.keep _ _ _ e6 λb _ o e=>d9 b o e
 exact codeAny_compStart_list (a8 _ IY b8 b1) (T.self _ 0 _ _ _ b8 (a8 _ IY b8 b1))
def BC{a:Scope}{i:List (Str×Δ)}{fr own:Α}
  (hc:X.calm=true)(hi:QI X tg f D)(j:closureFor a X.env=pure i)(z:∀y c,i.lookup y=↑c->X.env.cells.lookup y=↑c)(u:i.map (·.1)=fr)
  (S:MU X a fr js)
  (hg:∀C s H fp,QG (qY X (own++fr) a i C s H fp) tg g)(A:∀C s H fp,QI (qY X (own++fr) a i C s H fp) l d p)(w:∀C s H fp,QG (qY X (own++fr) a i C s H fp) l B)(he:∀C s H fp,QE (qY X (own++fr) a i C s H fp) r te)
  (hs:∀x,foldedSetIterable f X.env x=pure x:=by intro _;rfl)(hs2:∀C x,foldedSetIterable d (compEnvC a i C X.env) x=pure x:=by intro _ _;rfl):
  QE X (.ListComp r [#[tg,f,[],(0)],#[l,d,[],(0)]] a pos) (wj own.length js D g p B te):=by
 refine#[λR0 s σ H Q I h=>?_]
 rw[eval_ListComp];refine yY (use:=none) hc hi.h j z u S (λC s H fp=>(hg C s H fp).h) (λC s H fp=>(A C s H fp).h) (λC s H fp=>(w C s H fp).h) (λC s H fp=>(he C s H fp).h) hs hs2 I h λv C E H' m F G n q=>?_
 exact#[m,G,λh' t=>#[-v,H',F.turned (t':=E.toks) (λb o J e=>(t.2 b J).trans e) n.free n.loc (.inr n.new) n.cell n.pin,Z,q]]
end L3
namespace S0
open PySem PySem.Spec PyProof.Rows
def sZ(M x:Nat):Nat:=(x*5+1)%M
def bY(M:Nat):Nat->Nat->Nat
 |0,x=>x
 |n+1,x=>bY M n (sZ M x)
theorem eB(M:Nat):∀(a b x:Nat),bY M (a+b) x=bY M b (bY M a x)
 |0,b,x=>by rw[Kk];rfl
 |a+1,b,x=>by rw[PM];exact eB M a b (sZ M x)
def DQ(M:Nat):Nat->Nat->Κ
 |0,_=>[]
 |n+1,x=>x::DQ M n (sZ M x)
theorem vF(M:Nat):∀(n x j:Nat),j∈DQ M n x->∃m,m<n/\bY M m x=j
 |0,x,j,h=>nomatch h
 |n+1,x,j,h=>by
  rcases Jg.mp h with rfl|h
  .exact#[(0),K2 _,Z]
  .let#[m,a,e]:=vF M n _ j h
   exact#[m+1,by lia,e]
noncomputable def Ci(M:Nat):Bool:=(bY M M 0==0)&&(Ag M).all λj=>(DQ M M 0).contains j
def Qr(M:Nat):Prop:=Ci M=true
def xh:Qr 8:=by unfold Qr;decide +kernel
def CJ:Qr 16:=by unfold Qr;decide +kernel
def C3:Qr 32:=by unfold Qr;decide +kernel
def Cz:Qr 64:=by unfold Qr;decide +kernel
def Bj:Qr 128:=by unfold Qr;decide +kernel
def Af:Qr 256:=by unfold Qr;decide +kernel
def BD{n:Nat}(h:n<256):Qr (Px n)/\n<Px n/\Px n<=256:=by
 have a:∀n<256,(Px n=8\/Px n=16\/Px n=32\/Px n=64\/Px n=128\/Px n=256)/\n<Px n:=by decide +kernel
 let#[h1,c]:=a n h;rcases h1 with e|e|e|e|e|e<;>(rw[e]at c⊢;refine#[?_,c,⋯])
 .exact xh
 .exact CJ
 .exact C3
 .exact Cz
 .exact Bj
 .exact Af
def FM{i j:Nat}(h:Qr M)(hi:i<M)(g:j<M):∃m,m<M/\bY M m i=j:=by
 unfold Qr Ci at h;rw[JF,J7,IV]at h;let#[l,h1]:=h;have get:∀x,x<M->∃m,m<M/\bY M m 0=x:=λx e=>vF M M 0 x (by have:=h1 x (JT.mpr e);simpa using this)
 let#[a,n,c]:=get i hi;let#[b,o,d]:=get j g
 by_cases f:a<=b
 .exists b-a,by lia
  rw[<- c,<- eB,show a+(b-a)=b by lia,d]
 .exists M-a+b,by lia
  rw[<- c,<- eB,show a+(M-a+b)=M+b by lia,eB,l,d]
noncomputable def Z4(mask:Nat):Nat->Nat×Nat->Nat×Nat
 |0,p=>p
 |n+1,p=>Z4 mask n (SZ mask p.1 p.2)
theorem ie(mask:Nat):∀(a b:Nat) (p:Nat×Nat),Z4 mask (a+b) p=Z4 mask b (Z4 mask a p)
 |0,b,p=>by rw[Kk];rfl
 |a+1,b,p=>by rw[PM];exact ie mask a b _
theorem oR(mask:Nat):∀(n:Nat) (p:Nat×Nat),(Z4 mask n p).2=p.2/32 ^ n
 |0,p=>by show p.2=_;rw[Nat.pow_zero,Nat.div_one]
 |n+1,p=>by
  show(Z4 mask n (SZ mask p.1 p.2)).2=_
  rw[oR mask n]
  show p.2/32/32 ^ n=_
  rw[PX,Nat.pow_succ,Nat.mul_comm]
theorem kj(mask:Nat):∀(n i p:Nat),p/32=0->(Z4 mask n (i,p)).1=bY (mask+1) n i
 |0,i,p,h=>rfl
 |n+1,i,p,h=>by
  have e:SZ mask i p=(sZ (mask+1) i,0):=by
   unfold SZ sZ;rw[h,Nat.add_zero]
  show(Z4 mask n (SZ mask i p)).1=bY (mask+1) n (sZ (mask+1) i)
  rw[e];exact kj mask n _ 0 Z
def Cw(h:Int):P6 h<2 ^ 64:=by
 unfold P6;have h1:=Lc h (show(0:Int)<2 ^ 64 by decide)
 have a:=La h (show(2 ^ 64:Int)≠0 by decide)
 lia
def EY{mask j:Nat}(hm:Qr (mask+1))(f:j<=mask)(h:Int)(i:Nat):∃n,n<SH mask/\(Z4 mask n (i,P6 h)).1=j:=by
 have g:=Cw h;have d:(Z4 mask 12 (i,P6 h)).2/32=0:=by
  rw[oR]
  show P6 h/32 ^ 12/32=0
  rw[PX];exact Nat.div_eq_of_lt (JV g ⋯)
 have e:(Z4 mask 12 (i,P6 h)).1<mask+1:=by
  rw[show(12:Nat)=11+1 from Z,ie mask 11 1]
  exact Ki _ (K2 _)
 let#[m,l,c]:=FM hm e (Nat.lt_succ_of_le f)
 exists 12+m,by unfold SH;lia
 rw[ie];generalize Z4 mask 12 (i,P6 h)=p at *
 let#[a,b]:=p;rw[kj mask m a b d];exact c
theorem kF{mask:Nat}{ow:Array Χ}:∀(a i p:Nat),P8 mask ow a i p=none->∀n,n<a->(ow.getD (Z4 mask n (i,p)).1 ↑0).isNone=false
 |0,i,p,h,n,hn=>absurd hn (I1 _)
 |a+1,i,p,h,n,hn=>by
  unfold P8 at h;split at h
  .cases h
  .rename_i c
   cases n with
   |zero=>
    have:=PY.mp c 0 (JT.mpr (by unfold SetTable.runEnd;split<;>lia))
    exact Ly.mpr this
   |succ n=>exact kF a _ _ h n (by lia)
theorem lv{mask:Nat}{ow:Array Χ}{j:Nat}:∀(a i p:Nat),P8 mask ow a i p=↑j->(ow.getD j ↑0).isNone=true
 |0,i,p,h=>nomatch h
 |a+1,i,p,h=>by
  unfold P8 at h;split at h
  .rename_i k c
   cases h
   have:=List.find?_some c
   exact this
  .exact lv a _ _ h
def OwOk(mask:Nat)(ow:Array Χ)(k:Nat):Prop:=ow.size=mask+1/\(ow.toList.filterMap id).Perm (Ag k)
theorem oM:∀l:List Χ,(∀x∈l,x.isNone=false)->(l.filterMap id).length=l.length
 | [],_=>rfl
 |x::l,h=>by
  have a:=h x Jr;cases x with
  |none=>cases a
  |some y=>
   rw[JW]
   show(y::l.filterMap id).length=_
   rw[JR,JR,oM l λz c=>h z (Jv _ c)]
def OwOk.step{mask k:Nat}{ow:Array Χ}(hm:Qr (mask+1))(o:OwOk mask ow k)(hk:k<=mask)(h:Int):
  ∃j,P8 mask ow (SH mask) (P6 h%(mask+1)) (P6 h)=↑j/\OwOk mask (ow.setIfInBounds j ↑k) (k+1):=by
 let#[p,a]:=o;cases e:P8 mask ow (SH mask) (P6 h%(mask+1)) (P6 h)with
 |none=>
  exfalso
  have all:∀x∈ow.toList,x.isNone=false:=λx m=>by
   let#[j,c,rfl]:=HB.mp m;have f:j<ow.size:=by rw[<- Jq];exact c
   let#[n,g,s]:=EY hm (show j<=mask by lia) h (P6 h%(mask+1))
   have:=kF _ _ _ e n g
   rw[s]at this
   simpa [KU,f]using this
  have h1:(ow.toList.filterMap id).length=ow.toList.length:=oM _ all
  have l:(ow.toList.filterMap id).length=(Ag k).length:=a.length_eq
  rw[E1]at l;rw[l,Jq]at h1;lia
 |some j=>
  exists j,Z,by rw[Array.size_setIfInBounds];exact p
  have d:=lv _ _ _ e;have c:j<ow.size:=by
   refine Nat.lt_of_not_le λz=>?_
   rw[KU,dif_neg (by lia)]at d
   cases d
  have g:ow[j]=none:=by
   rw[KU,dif_pos c]at d;exact Option.isNone_iff_eq_none.mp d
  have t:j<ow.toList.length:=by rw[Jq];exact c
  have i:ow.toList[j]=none:=by rw[Ox];exact g
  rw[Array.toList_setIfInBounds];have q:ow.toList=ow.toList.take j++none::ow.toList.drop (j+1):=by
   rw[<- i,PZ,KJ]
  have r:ow.toList.set j ↑k=ow.toList.take j++↑k::ow.toList.drop (j+1):=by rw[List.set_eq_take_append_cons_drop,Jc t]
  rw[r,Pa,JW]
  show((ow.toList.take j).filterMap id++k::(ow.toList.drop (j+1)).filterMap id).Perm _
  rw[q,Pa,JW]at a;have a:((ow.toList.take j).filterMap id++(ow.toList.drop (j+1)).filterMap id).Perm (Ag k):=a
  rw[Kh];refine Ky.trans ?_
  exact(List.Perm.cons k a).trans (List.perm_append_singleton k _).symm
theorem rT{mask:Nat}(hm:Qr (mask+1)):∀(hs:Β) (ow:Array Χ) (k:Nat),OwOk mask ow k->k+hs.length<=mask+1->
  ∃a,hs.foldl (λ(c:Option (Array Χ×Nat)) (h:Int)=>do
   let(owner,k) <- c
   let j <- P8 mask owner (SH mask) (P6 h%(mask+1)) (P6 h)
   pure (owner.setIfInBounds j ↑k,k+1)) ↑(ow,k)=↑(a,k+hs.length)/\OwOk mask a (k+hs.length)
 | [],ow,k,o,_=>#[ow,Z,o]
 |h::hs,ow,k,o,hl=>by
  rw[JR]at hl;let#[j,e,d]:=o.step hm (by lia) h
  let#[a,e',o']:=rT hm hs _ _ d (by lia)
  refine#[a,?_,by rw[JR,show k+(hs.length+1)=k+1+hs.length by lia];exact o']
  rw[KZ,JR,show k+(hs.length+1)=k+1+hs.length by lia,<- e']
  congr 1
  show(do
   let j <- P8 mask ow (SH mask) (P6 h%(mask+1)) (P6 h)
   pure (ow.setIfInBounds j ↑k,k+1))=↑(ow.setIfInBounds j ↑k,k+1)
  rw[e];rfl
def pS(n:Nat):((Dj n (none:Χ)).filterMap id)=[]:=by
 induction n with
 |zero=>rfl
 |succ n ih=>rw[LF,JW];exact ih
def rF{mask:Nat}(hm:Qr (mask+1)){hs:Array Int}(hn:hs.size<=mask+1):∃ow,Sy mask hs=↑ow/\OwOk mask ow hs.size:=by
 have a:OwOk mask (Array.replicate (mask+1) none) 0:=#[Array.size_replicate,by rw[Array.toList_replicate,pS];exact RP _]
 let#[ow,e,o]:=rT hm hs.toList _ 0 a (by rw[Jq];lia)
 rw[Kk,Jq]at e o;refine#[ow,?_,o]
 unfold Sy;rw[<- Array.foldl_toList];exact J0 (K3 (·.1)) e
theorem iG(f:Nat->Χ):∀l:Κ,(l.filterMap λj=>(f j).map (j,·)).map (·.2)=l.filterMap f
 | []=>rfl
 |j::l=>by
  rw[JW,JW];cases e:f j with
  |none=>simpa using iG f l
  |some k=>simpa using iG f l
def vm(ow:Array Χ):(Ag ow.size).filterMap (λj=>ow.getD j none)=ow.toList.filterMap id:=by
 have e:(Ag ow.size).map (λj=>ow.getD j none)=ow.toList:=by
  refine KD (by rw[Je,E1,Jq]) λi h1 a=>?_
  have hi:i<ow.size:=by rw[Jq]at a;exact a
  simp [KU,hi]
 rw[<- e,KY];rfl
def lu{mask fg mv:Nat}{led plain:Bool}{hs:Array Int}(hm:Qr (mask+1))(hn:hs.size<=mask):
  ∃t o,SM mask fg mv led plain hs=↑(t,o)/\t.fits hs.size=true/\o.toList.Perm (Ag hs.size)/\Rs t.place/\t.dummies= (AA [])/\t.led=led/\t.plain=plain/\t.mask=mask:=by
 let#[ow,e,a,c]:=rF (hs:=hs) hm (by lia)
 have d:SM mask fg mv led plain hs=↑({mask,place:=(((Ag (mask+1)).filterMap λj=>(ow.getD j none).map (j,·)).map (·.1)).toArray,dummies:= (AA []),finger:=fg,led,moves:=mv,plain},(((Ag (mask+1)).filterMap λj=>(ow.getD j none).map (j,·)).map (·.2)).toArray):=by
  unfold SM;rw[e];rfl
 let#[h1,h,g]:=sL d;have f:((Ag (mask+1)).filterMap λj=>(ow.getD j none).map (j,·)).map (·.2)=ow.toList.filterMap id:=by
  rw[iG,<- a];exact vm ow
 have len:((Ag (mask+1)).filterMap λj=>(ow.getD j none).map (j,·)).length=hs.size:=by
  have:=J0 List.length f
  rw[Je,c.length_eq,E1]at this;exact this
 refine#[15,d,?_,?_,h1,h,g,9]
 .unfold R6 SN
  dsimp only
  rw[Js,Je,len];simp [hn]
 .dsimp only
  rw[f];exact c
def rA(a:Δ)(c:Nat):setRelay a c=(do
 let(es,_,t) <- setState a
 if Px c>ζ then unsupported "set:memory"
 let(es,t) <- (do
  let ↑(t,order):=t.relaid (es.map (·.1)) c|unsupported "internal:set-table-without-room"
  let d:=order.filterMap (es[·]?)
  if d.size != es.size then unsupported "internal:set-table-lost-an-element"
  pure (d,t):Sem (Array (Int×Γ)×SetTable))
 storeSet a es t):=Z
def hU(s o:Δ)(a:Sem Unit):setMerge s o a=(do
 if s==o then return
 let(eo,epoch,to) <- setState o
 if eo.isEmpty then return
 setRoomFor s eo.size
 let(_,_,ts) <- setState s
 match ts.road to with
 | .slotForSlot=>storeSet s eo {to with finger:=ts.finger,led:=ts.led&&to.led,moves:=ts.moves,plain:=ts.plain&&to.plain}
 | .clean=>
  let(es,t) <- (do
   let ↑(t,order):=SM ts.mask ts.finger ts.moves (led:=ts.led&&to.led) (plain:=ts.plain&&to.plain) (eo.map (·.1))|unsupported "internal:set-table-without-room"
   let c:=order.filterMap (eo[·]?)
   if c.size != eo.size then unsupported "internal:set-table-lost-an-element"
   pure (c,t):Sem (Array (Int×Γ)×SetTable))
  storeSet s es t
 | .oneByOne=>
  for (h,x)in <- setWalkUnseen o [s] ↑s do
   let _ <- holding [x] (setAddHashed s x h)
   a
   if(<- setState o).2.1 != epoch then unsupported "set.changed-during-merge"):=Z
def i7{d:Type}{es:Array d}{o:Array Nat}(h:o.toList.Perm (Ag es.size)):(o.filterMap (es[·]?)).toList.Perm es.toList:=by
 rw[Array.toList_filterMap];refine(h.filterMap _).trans ?_
 have e:(Ag es.size).filterMap (es[·]?)=es.toList:=by
  have a:(Ag es.size).map (es[·]?)=es.toList.map some:=by
   refine KD (by simp) λi h1 c=>?_
   have hi:i<es.size:=by simpa using c
   simp [hi]
  have:(Ag es.size).filterMap (es[·]?)=((Ag es.size).map (es[·]?)).filterMap id:=by rw[KY];rfl
  rw[this,a,KY];exact List.filterMap_some
 rw[e]
section
variable{w:Ω}{K:Type}[DecidableEq K]{knd:SC prog w K}{kf:Γ->K}
variable{s:Θ}
def rV{a:Δ}{o:Obj}{d:Nat}{Q:Unit->Θ->Prop}(ho:s.heap.get? a=↑o)(hd:o.data= .set es ep t)(hf:t.fits es.size=true)(hw:d<256)(hn:es.size<=d)
  (h:∀f c,f.toList.Perm es.toList->c.fits f.size=true->Rs c.place->c.dummies= (AA [])->c.led=t.led->c.plain=t.plain->Qr (c.mask+1)->d<=c.mask->Q () {s with heap:=s.heap.update a (TN f c)}):
  ε (model prog w) A (setRelay a d) Q E s:=by
 let#[n,p2,z]:=BD hw;rw[rA];refine Ja (wpAny_setState_of ho hd hf ?_)
 dsimp only
 have j:¬Px d>ζ:=by rw[JD];lia
 rw[Jb j];have p:Px d-1+1=Px d:=by lia
 let#[c,or,i,q,m,y,x,v,u,r]:=lu (mask:=Px d-1) (fg:=t.finger) (mv:=t.movedTo (Px d-1)) (led:=t.led) (plain:=t.plain) (hs:=es.map (·.1)) (by rw[p];exact n) (by rw[Kl];lia)
 have i:t.relaid (es.map (·.1)) d=↑(c,or):=i
 rw[Kl]at q m;have l:=i7 (es:=es) m
 have e:(or.filterMap (es[·]?)).size=es.size:=by rw[<- Jq,l.length_eq,Jq]
 have g:es.size<=ζ:=by rw[JD];lia
 refine Ja ?_
 rw[i]
 dsimp only
 rw[e];simp only[bne_self_eq_false,D2,JH];exact Jd (wpAny_storeSet_of ho hd (h _ _ l (by rw[e];exact q) y x v u (by rw[r,p];exact n) (by rw[r];lia)) (by rw[e];exact g))
def FrK(w:Ω)(h:Ψ)(a:Δ)(n:Nat):Prop:=∃o ep t,h.get? a=↑o/\o.ExactSet/\o.data= .set (AA []) ep t/\t.fits 0=true/\t.dummies= (AA [])/\Qr (t.mask+1)/\n<=t.mask/\TW w t
def FrK.k(x:FrK w h a n):SetK knd kf h a []:=by
 let#[o,ep,t,h1,g,d,f,l,j,m,i]:=x
 exact#[o,(AA []),ep,t,h1,g,d,f,⋯,(λe c=>nomatch c),RP _,i]
def Cv{n:Nat}{Q:Unit->Θ->Prop}(q:FrK w s.heap a 0)(hn:n<=100)(h:∀h',Ψ.SameBut a s.heap h'->FrK w h' a n->Q () {s with heap:=h'}):ε (model prog w) A (setRoomFor a n) Q E s:=by
 let#[o,ep,t,h1,m,g,e,p,r,J,l]:=q;unfold setRoomFor;refine Ja (wpAny_setState_of h1 g e ?_)
 dsimp only
 have f:t.place.size=0:=by
  unfold R6 at e;rw[JF,J7]at e;exact e.1
 have d:t.fill=0:=by unfold SN;rw[f,p];rfl
 unfold SetTable.roomFor;rw[d,f]
 by_cases c:(0+n)*5 ≥ t.mask*3
 .rw[Jc c]
  dsimp only
  refine rV h1 g e (by lia) (JB _) λi j C u F y x I v G=>?_
  have B:i= (AA []):=by
   have:=C.length_eq
   rw[Jq]at this;exact Array.eq_empty_of_size_eq_zero this
  subst B;refine h _ (G6 s.heap a _) #[15,j,ZC h1 g (AA []) j,m,Z,u,y,v,by lia,?_]
  rcases l with z|⟨D,H⟩
  .exact .inl z
  .exact .inr #[x.trans D,λ_=>F]
 .rw[Jb c]
  exact Jd (h s.heap (Ψ.SameBut.refl a s.heap) #[o,ep,t,h1,m,g,e,p,r,by lia,l])
def TW.both{fg mv:Nat}(a:TW w t)(b:TW w u)(hp:u.dummies= (AA [])):TW w {u with finger:=fg,led:=t.led&&u.led,moves:=mv,plain:=t.plain&&u.plain}:=by
 rcases a with z|⟨d,f⟩
 .exact .inl z
 .rcases b with y|⟨c,e⟩
  .exact .inl y
  .refine .inr #[by show(t.led&&u.led)=true;rw[d,c];rfl,λh=>?_]
   have h:(t.plain&&u.plain)=true:=h
   rw[JF]at h;exact e h.2
def im{a b:Δ}{m:Sem Unit}{Q:Unit->Θ->Prop}(F:a≠b)(v:FrK w s.heap a 0)(U:SetK knd kf s.heap b g)(lb:g.length<=100)
  (h:∀h',Ψ.SameBut a s.heap h'->SetK knd kf h' a g->(g=[]->FrK w h' a 0)->Q () {s with heap:=h'}):ε (model prog w) A (setMerge a b m) Q E s:=by
 let#[ob,e,Y,tb,b1,b2,W,J,D,O,x,R]:=id U;have n:e.size=g.length:=by rw[<- x.length_eq,Je,Jq]
 rw[hU];have G:(a==b)=false:=by rw[IS];exact F
 rw[G];simp only[D2,JH];refine Ja (wpAny_setState_of b1 W J ?_)
 dsimp only
 by_cases c:e.isEmpty=true
 .rw[Jc c]
  have e0:g=[]:=by
   rw[K4,n]at c;exact KS c
  subst e0;exact Jd (h s.heap (Ψ.SameBut.refl a s.heap) v.k λ_=>v)
 .rw[Jb c]
  refine Ja (Cv v (by lia) λh1 p B=>?_)
  let#[o,ep,t,q,P,j,r,q5,S,X,N]:=id B;refine Ja (wpAny_setState_of (s:={s with heap:=h1}) q j r ?_)
  dsimp only
  have H:t.place.size=0:=by
   unfold R6 at r;rw[JF,J7]at r;exact r.1
  have f:t.fill=0:=by unfold SN;rw[H,q5];rfl
  have i:g≠[]:=λz=>c (by rw[K4,n,z];rfl)
  have l:e.size<=ζ:=fits_of_scanBound D
  have T:t.road tb=if t.mask==tb.mask&&tb.dummies.isEmpty then .slotForSlot else .clean:=by
   unfold SetTable.road;rw[f];rfl
  rw[T]
  by_cases u:(t.mask==tb.mask&&tb.dummies.isEmpty)=true
  .rw[Jc u]
   rw[JF,Array.isEmpty_iff]at u;refine wpAny_storeSet_of (s:={s with heap:=h1}) q j ?_ l
   refine h _ (p.trans (G6 h1 a _)) #[_,e,15,ZC q j e _,P,Z,?_,D,O,x,TW.both N R u.2] λz=>absurd z i
   exact J
  .rw[Jb u]
   let#[I,or,el,M,L,r3,r4,r5,r6,r7]:=lu (mask:=t.mask) (fg:=t.finger) (mv:=t.moves) (led:=t.led&&tb.led) (plain:=t.plain&&tb.plain) (hs:=e.map (·.1)) S (by rw[Kl];exact X)
   rw[Kl]at M L;have C:=i7 (es:=e) L
   have d:(or.filterMap (e[·]?)).size=e.size:=by rw[<- Jq,C.length_eq,Jq]
   dsimp only
   refine Ja ?_
   rw[el]
   dsimp only
   rw[d];simp only[bne_self_eq_false,D2,JH];refine Jd (wpAny_storeSet_of (s:={s with heap:=h1}) q j ?_ (by rw[d];exact l))
   refine h _ (p.trans (G6 h1 a _)) #[39,I,ZC q j _ I,P,Z,by rw[d];exact M,by rw[d];exact D,O.perm C,(C.map _).trans x,?_] λz=>absurd z i
   rcases N with z|⟨z1,z2⟩
   .exact .inl z
   .rcases R with y|⟨y1,y2⟩
    .exact .inl y
    .exact .inr #[by rw[r5,z1,y1];rfl,λ_=>r3]
end
section
variable{prog:Ξ}{w:Ω}{K:Type}[DecidableEq K]{knd:SC prog w K}{kf:Γ->K}
variable{A:Rj}{E:HG}{s:Θ}
def Ez{n:Nat}{Q:Unit->Θ->Prop}(l:SetK knd kf s.heap a ks)(hn:ks.length+n<=100)(h:∀h',Ψ.SameBut a s.heap h'->SetK knd kf h' a ks->Q () {s with heap:=h'}):ε (model prog w) A (setRoomFor a n) Q E s:=by
 let#[o,es,ep,t,h1,x,f,e,B,p,m,q]:=id l;have v:es.size=ks.length:=by rw[<- m.length_eq,Je,Jq]
 unfold setRoomFor;refine Ja (wpAny_setState_of h1 f e ?_)
 dsimp only
 have i:t.place.size=es.size:=by
  unfold R6 at e;rw[JF,J7]at e;exact e.1
 unfold SetTable.roomFor;rw[i]
 by_cases c:(t.fill+n)*5 ≥ t.mask*3
 .rw[Jc c]
  dsimp only
  refine rV h1 f e (by lia) (by lia) λd j g r C H u I F D=>?_
  have sz:d.size=es.size:=by rw[<- Jq,g.length_eq,Jq]
  refine h _ (G6 s.heap a _) #[_,d,_,j,ZC h1 f d j,x,Z,r,by rw[sz];exact B,p.perm g,(g.map _).trans m,?_]
  rcases q with z|⟨y,G⟩
  .exact .inl z
  .exact .inr #[u.trans y,λ_=>C]
 .rw[Jb c]
  exact Jd (h s.heap (Ψ.SameBut.refl a s.heap) l)
def sG{a:Δ}{o:Obj}{Q:Array (Int×Γ)->Θ->Prop}(ho:s.heap.get? a=↑o)(H:o.ExactSet)(hd:o.data= .set es ep t)(hf:t.fits es.size=true)(hb:es.size<scanBound)(C:ElemsOf knd es.toList)(I:TW w t)
  (G:SetK knd kf s.heap r L)
  (h:∀d h',d.toList.Perm es.toList->Ψ.SameBut r s.heap h'->SetK knd kf h' r L->Q d {s with heap:=h'}):ε (model prog w) A (setWalkUnseen a [r] ↑r) Q E s:=by
 have same:∀d,d.toList.Perm es.toList->Q d s:=λd p=>h d s.heap p (Ψ.SameBut.refl r s.heap) G
 have Bz:(zC w||(t.led&&t.plain)||decide (es.size<=1))=true->ε (model prog w) A (setWalk a) Q E s:=λc=>by
  rw[uX];refine Ja (wpAny_setState_of ho hd hf ?_)
  dsimp only
  refine Ja (Q2 ?_)
  cases f:zC w with
  |true=>
   rw[Jc Z];exact Ja (wpAny_askSetting (Jd (same _ (lq _ es))))
  |false=>
   rw[Jb ⋯]
   rw[f]at c;have B:t.led=true:=by
    rcases I with z|⟨v,_⟩
    .rw[f]at z;cases z
    .exact v
   have F:(! t.plain&&decide (es.size>1))=false:=by
    rw[B]at c;cases hp:t.plain with
    |true=>rfl
    |false=>rw[hp]at c;simp at c;simp;lia
   rw[F];simp only[D2,JH,B,KW,Ii];exact Ja (Jd (Jd (same _ (RP _))))
 unfold setWalkUnseen;refine Ja (wpAny_setState_of ho hd hf ?_)
 dsimp only
 refine Ja (Q2 ?_)
 by_cases c:(zC w||(t.led&&t.plain)||decide (es.size<=1))=true
 .rw[Jc c]
  exact Bz c
 .rw[Jb c]
  have f:zC w=false:=by
   cases e:zC w with
   |true=>rw[e]at c;simp at c
   |false=>rfl
  have B:t.led=true:=by
   rcases I with z|⟨v,_⟩
   .rw[f]at z;cases z
   .exact v
  refine Ja (CC (knd:=knd) (kf:=kf) (λx J=>?_) ?_)
  .simp only[Jg,Jt,Ju]at J
   rcases J with rfl|rfl
   .exact#[_,o,es,ep,t,ho,H,hd,hf,hb,C,RP _,I]
   .exact#[_,G]
  .simp only[KW,D2,JH]
   refine Ja (Ih ?_)
   let#[P,q,O,y,g,m,i,n,u,l,j,D]:=G;refine Ja (wpAny_setState_of g i n ?_)
   dsimp only
   by_cases M:((y.led&& ! t.led)||(y.plain&& ! t.plain))=true
   .rw[Jc M]
    refine Ja (wpAny_storeSet_of g i (Jd ?_) (fits_of_scanBound u))
    refine h _ _ (RP _) (G6 s.heap r _) #[_,q,15,ZC g i q _,m,Z,n,u,l,j,?_]
    rcases D with z|⟨v,N⟩
    .exact .inl z
    .refine .inr #[by show(y.led&&t.led)=true;rw[v,B];rfl,λz=>?_]
     have z:(y.plain&&t.plain)=true:=z
     rw[JF]at z;exact N z.1
   .rw[Jb M]
    exact Jd (same _ (RP _))
def Av(q:∀k v,knd.is k v=true->kf v=k){a b:Δ}(u:b≠a){o:Obj}{m:List K}{Q:PUnit->Θ->Prop}(hd:o.data= .set es ep t)(hf:t.fits es.size=true)(c:Array (Int×Γ))(r:ElemsOf knd c.toList)(hn:m.length+c.size+1<scanBound)
  (l:∀(s':Θ) (O:Unit->Θ->Prop),s'.heap.get? b=↑o->O () s'->ε (model prog w) A j O E s')
  (ho:s.heap.get? b=↑o)(X:SetK knd kf s.heap a m)(p:m.Nodup)
  (h:∀h' f,Ψ.SameBut a s.heap h'->SetK knd kf h' a f->f.Nodup->(∀k,k∈f↔k∈m\/k∈(c.toList.map λe=>kf e.2))->Q #[] {s with heap:=h'}):
  ε (model prog w) A (forIn c SO λx _=>do
   let _ <- holding [x.2] (setAddHashed a x.2 x.1)
   j
   if(<- setState b).2.1 != ep then do
    unsupported "set.changed-during-merge"
    pure (Sk SO)
   else pure (Sk SO)) Q E s:=by
 let#[H,g,F,tk,N]:=s;refine R9 _ (λrest _ s'=>∃h' done f,s'=#[h',g,F,tk,N]/\c.toList=done++rest/\Ψ.SameBut a H h'/\SetK knd kf h' a f/\f.Nodup/\(∀k,k∈f↔k∈m\/k∈(done.map λe=>kf e.2))/\f.length<=m.length+done.length) _ ?_ ?_ c _ #[H,[],m,9,Ψ.SameBut.refl a H,X,p,λk=>by simp,Jf _]
 .rintro⟨T,x⟩ rest _ s' ⟨h',done,f,rfl,e,C,n,p,i,len⟩
  have S:(T,x)∈c.toList:=by rw[e];exact JQ _ Jr
  let#[#[k,hk,d],z]:=r _ S
  dsimp only at hk d z⊢
  subst d;have W:done.length+1<=c.size:=by
   have:=J0 List.length e
   rw[Jq,Jy,JR]at this;lia
  have U:kf x=k:=q k x hk
  refine Ja (JM (tV (s:=#[h',g,F,tk,N]) q hk z n (by lia) λM B I=>?_))
  have y:M.get? b=↑o:=by rw[B.2 b u,C.2 b u];exact ho
  refine Ja (l _ _ y (Ja (wpAny_setState_of (s:=#[M,g,F,tk,N]) y hd hf ?_)))
  simp only[bne_self_eq_false,D2,JH];refine Jd #[M,done++[(knd.hash k,x)],0,by rw[e,IU];rfl,C.trans B,I,?_,λR=>?_,?_]
  .split
   .exact p
   .rename_i G
    rw[Lj]
    exact#[p,by simp,λx1 J Y L P=>G (by rw[Ji.mp L]at P;rw[<- P];exact J)]
  .rw[JI,JP]
   show _↔_\/_\/R∈[kf x]
   rw[U,Ji];split
   .rename_i D
    rw[i];constructor
    .rintro(h1|h1)
     .exact .inl h1
     .exact .inr (.inl h1)
    .rintro(h1|h1|rfl)
     .exact .inl h1
     .exact .inr h1
     .exact(i R).mp D
   .rw[JP,i,Ji,or_assoc]
  .rw[Jy,IM]
   split
   .lia
   .rw[Jy,IM];lia
 .rintro _ s' ⟨h',done,f,rfl,e,C,n,p,i,len⟩
  rw[Ic]at e;refine h h' f C n p (by rw[e];exact i)
def Cs(D:∀k v,knd.is k v=true->kf v=k){a b:Δ}{Q:Unit->Θ->Prop}(d:a≠b)(hA:SetK knd kf s.heap a f)(hB:SetK knd kf s.heap b m)(ne:f≠[])(nd:f.Nodup)(la:f.length+m.length<=100)
  (i:∀(s':Θ) (B:Unit->Θ->Prop),(∀o,s.heap.get? b=↑o->s'.heap.get? b=↑o)->B () s'->ε (model prog w) A g B E s')
  (h:∀h' p,Ψ.SameBut a s.heap h'->SetK knd kf h' a p->p.Nodup->(∀k,k∈p↔k∈f\/k∈m)->Q () {s with heap:=h'}):ε (model prog w) A (setMerge a b g) Q E s:=by
 let#[S,I,a3,tb,R,b2,F,G,b5,X,T,b8]:=id hB;have N:I.size=m.length:=by rw[<- T.length_eq,Je,Jq]
 rw[hU];have O:(a==b)=false:=by rw[IS];exact d
 rw[O];simp only[D2,JH];refine Ja (wpAny_setState_of R F G ?_)
 dsimp only
 by_cases c:I.isEmpty=true
 .rw[Jc c]
  have e0:m=[]:=by
   rw[K4,N]at c;exact KS c
  subst e0;exact Jd (h s.heap f (Ψ.SameBut.refl a s.heap) hA nd λk=>by simp)
 .rw[Jb c]
  refine Ja (Ez hA (by lia) λh1 q j=>?_)
  let#[o,U,ep,t,q1,q2,q3,y,q5,q6,q7,q8]:=id j;refine Ja (wpAny_setState_of (s:={s with heap:=h1}) q1 q3 y ?_)
  dsimp only
  have a5:t.place.size=U.size:=by
   unfold R6 at y;rw[JF,J7]at y;exact y.1
  have a2:U.size=f.length:=by rw[<- q7.length_eq,Je,Jq]
  have a1:f.length≠0:=λz=>ne (KS z)
  have er:t.road tb= .oneByOne:=by
   unfold SetTable.road SN;rw[Jc];rw[bne_iff_ne];lia
  rw[er]
  dsimp only
  have u:h1.get? b=↑S:=by rw[q.2 b d.symm];exact R
  refine Ja (sG (s:={s with heap:=h1}) (a:=b) (r:=a) u b2 F G b5 X b8 j λn Y L x H=>?_)
  have a4:n.size=I.size:=by rw[<- Jq,L.length_eq,Jq]
  have P:Y.get? b=↑S:=by rw[x.2 b d.symm];exact u
  have e4:scanBound=4096:=Z
  refine Ja (Av (s:={s with heap:=Y}) D d.symm F G n (X.perm L) (by lia) (λs' B z hq=>i s' B (λo W=>?_) hq) P H nd λh3 p M J C l=>Jd ?_)
  .rw[R]at W;cases W;exact z
  .refine h h3 p ((q.trans x).trans M) J C λk=>?_
   rw[l,(L.map λe=>kf e.2).mem_iff,T.mem_iff]
def nV:entryFor table "set.__or__"=some γ.«frozenset.__or__»:=
 entryFor_alias (id':="frozenset.__or__") (by kernel_rfl) Z nofun (by kernel_rfl)
def Gf(x y:Γ):γ.«frozenset.__or__» #[[x,y],[]]=(do
 if !(<- γ.Frozenset.isAnySet x <&&> γ.Frozenset.isAnySet y)then
  rule s!"frozenset.{"__or__"}.declined"
  return <- ret .notImplemented
 ret (<- (λ(id:String) (l:Δ) (r:Γ)=>(do
  let a <- γ.Frozenset.copyOf l
  if r != .ref l then holding [a] (γ.Frozenset.updateFrom id (<- γ.Frozenset.addrOf a) r)
  return a:Sem Γ)) s!"frozenset.{"__or__"}" (<- γ.Frozenset.addrOf x) y)):=Z
def yj{h:Ψ}{a:Δ}(ha:h.get? a=↑(Qv (! zC w))):FrK w h a 0:=by
 exists _,(0),_,ha,#[40],40,xh,JB _
 cases hb:zC w with
 |true=>exact .inl hb
 |false=>exact .inr #[Z,λ_=>SU]
def GG(D:∀k v,knd.is k v=true->kf v=k){a b:Δ}{Q:HG}(J:a≠b)(O:SetK knd kf s.heap a n)(C:SetK knd kf s.heap b l)(na:n.Nodup)(nb:l.Nodup)(la:n.length+l.length<=100)
  (h:∀h' d,(∀c o,s.heap.get? c=↑o->h'.get? c=↑o)->SetK knd kf h' s.heap.objs.size d->d.Nodup->(∀k,k∈d↔k∈n\/k∈l)->Q (-s.heap.objs.size) {s with heap:=h'}):
  ε (model prog w) A (binaryOp .BitOr (-a) (-b)) Q E s:=by
 have g:=O.type (h:=s.heap)
 have u:=C.type (h:=s.heap)
 refine wpAny_binaryOp_same (op:= .BitOr) (T:="set") g u PySem.F.fills_set_or PySem.F.slot_set_or (JY PySem.F.slot_set_or g nV ?_ (PySem.F.args_set_or_2 _ _))
 rw[Gf];refine Ja (Ja (Z2 g ?_))
 show ε _ _ (γ.Frozenset.isAnySet (Γ.ref b)) _ _ _
 refine Z2 u ?_
 simp only[KW,D2,JH];refine Ja (Jd (Ja ?_))
 unfold γ.Frozenset.copyOf γ.Frozenset.baseOf;refine Ja (Ja (Ja (IX g sub_set_self (Jd ?_))))
 rw[Jc Z];refine Ja (mR ?_)
 refine Ja (Jd ?_)
 have hr:(s.heap.push (Qv (! zC w))).get? s.heap.objs.size=↑(Qv (! zC w)):=Jp _ Z
 have q:∀c o,s.heap.get? c=↑o->(s.heap.push (Qv (! zC w))).get? c=↑o:=λc o e=>Jk _ e
 have F:SetK knd kf (s.heap.push (Qv (! zC w))) a n:=O.at (q a)
 have H:SetK knd kf (s.heap.push (Qv (! zC w))) b l:=C.at (q b)
 have N:=O.lt;have I:=C.lt;have L:s.heap.objs.size≠a:=(Jm N).symm
 have m:s.heap.objs.size≠b:=(Jm I).symm
 refine Ja (im (s:={s with heap:=s.heap.push (Qv (! zC w))}) L (yj hr) F (by lia) λh1 x G B=>Jd ?_)
 have M:((Γ.ref b:Γ) != Γ.ref a)=true:=by
  rw[bne_iff_ne];intro e;cases e;exact J Z
 rw[Jc M];have i:SetK knd kf h1 b l:=H.at λo1 e1=>by rw[x.2 b m.symm];exact e1
 have t:Θ.TypeIs {s with heap:=h1} (-b) "set":=i.type (s:={s with heap:=h1}) (h:=s.heap)
 refine Ja (Jd (Ja (JM ?_)))
 unfold γ.Frozenset.updateFrom;refine Ja (Z2 t ?_)
 rw[Jc Z];refine Ja (Ja (Jd (Jd ?_)))
 unfold γ.Frozenset.merge;let#[ob,eb,a1,tb,X,b2,R,S,_]:=id i;refine Ja (wpAny_setEpoch_of (s:={s with heap:=h1}) X R S ?_)
 have y:∀j d,Ψ.SameBut s.heap.objs.size h1 j->SetK knd kf j s.heap.objs.size d->d.Nodup->(∀k,k∈d↔k∈n\/k∈l)->Q (-s.heap.objs.size) {s with heap:=j}:=λj d f hk P r=>by
  refine h j d (λc o e=>?_) hk P r
  have W:c≠s.heap.objs.size:=Jm (Jl e)
  rw[f.2 c W,x.2 c W];exact q c o e
 by_cases U:n=[]
 .subst U
  refine im (s:={s with heap:=h1}) m (B Z) i (by lia) λj f p _=>?_
  exact Jd (Jd #[0,(λe=>nomatch e),y j l f p nb λk=>by simp])
 .refine Cs (s:={s with heap:=h1}) D m G i U na la (λs' Q' z Y=>?_) λj d f p P r=>?_
  .unfold γ.Frozenset.unchanged
   refine Ja (wpAny_setEpoch_of (s:=s') (z _ X) R S ?_)
   simp only[bne_self_eq_false,D2,JH];exact Jd Y
  .exact Jd (Jd #[0,(λe=>nomatch e),y j d f p P r])
end
def dy{a:Type}(xs:Array a)(i:Nat):(R7 xs i).toList=xs.toList.eraseIdx i:=by
 unfold R7;rw[Array.toList_append,Pb,Pb,KP];congr 1
 simp
 exact Ol (by simp)
def rH{a:Type}{l:List a}{j:Nat}(c:j<l.length):(l[j]::l.eraseIdx j).Perm l:=by
 rw[KP];refine Ky.symm.trans ?_
 rw[PZ,KJ]
def Rs.erase(h:Rs xs)(i:Nat):Rs (R7 xs i):=by
 unfold Rs;rw[dy];exact List.Pairwise.sublist (Pc _ _) h
def CB{t:SetTable}{i:Nat}(hf:t.fits n=true)(hi:i<n):(t.drop i).fits (n-1)=true/\(TOk t->TOk (t.drop i))/\(t.drop i).led=t.led:=by
 unfold R6 at hf;rw[JF,J7,decide_eq_true_eq]at hf;have c:i<t.place.size:=by lia
 have e:t.place[i]? =some t.place[i]:=getElem?_pos t.place i c
 unfold SetTable.drop;rw[e]
 dsimp only
 have d:(R7 t.place i).size=n-1:=by rw[<- Jq,dy,K5 (by rw[Jq];exact c),Jq];lia
 have f:(SetTable.insertAt t.dummies (P7 t.dummies t.place[i]) t.place[i]).size=t.dummies.size+1:=by
  rw[<- Jq,SetTable.toList_insertAt,Jy,JR,G5,LP,Jq];lia
 refine#[?_,λh a=>(h a).erase i,Z]
 unfold R6 SN
 dsimp only
 rw[d,f];unfold SN at hf;rw[JF,J7,decide_eq_true_eq]
 exact#[Z,by lia]
section
variable{K:Type}[DecidableEq K]{knd:SC prog w K}{kf:Γ->K}
variable{s:Θ}
def vB(f:∀k v,knd.is k v=true->kf v=k){k:K}{Q:Bool->Θ->Prop}(p:knd.is k x=true)(G:x.scannable=true)
  (J:SetK knd kf s.heap a ks)
  (h:∀h',Ψ.SameBut a s.heap h'->SetK knd kf h' a (ks.erase k)->Q (decide (k∈ks)) {s with heap:=h'}):
  ε (model prog w) A (setDiscardHashed a x (knd.hash k)) Q E s:=by
 let#[o,es,ep,t,i,H,n,u,O,c,m,y]:=id J;have d:k∈ks↔∃e∈es.toList,knd.is k e.2=true:=by rw[<- m.mem_iff];exact nu f c k
 unfold setDiscardHashed setFind setFindIn;refine Ja (Ja (wpAny_setState_of i n u ?_))
 dsimp only
 rw[byScan_of G O c];simp only[↓reduceIte];refine Ja (Ih (Ja (wpAny_setScan_of p i n u c ?_)))
 cases hr:O0 (λe=>knd.is k e.2) es.toList with
 |none=>
  have hk:k∉ks:=λz=>by
   let#[e,r,B]:=d.mp z
   have:=O8.mp hr e r
   rw[B]at this;cases this
  dsimp only
  refine Jd (Jd ?_)
  have:=h s.heap (Ψ.SameBut.refl a s.heap) (by rw[Pd hk];exact J)
  rw[Jn hk]at this;exact this
 |some j=>
  let#[q,l,_]:=O1.mp hr
  have hk:k∈ks:=d.mpr #[es.toList[j],IH q,l]
  have F:j<es.size:=by rw[<- Jq];exact q
  dsimp only
  refine Jd ?_
  dsimp only
  rw[Kk];refine Ja (wpAny_setState_of i n u ?_)
  dsimp only
  let#[M,L,R]:=CB u F;have C:=dy es j;have sz:(R7 es j).size=es.size-1:=by rw[<- Jq,C,K5 q,Jq]
  have g:(R7 es j).size<scanBound:=by lia
  refine Ja (wpAny_storeSet_of i n (Ja (wpAny_point (Jd ?_))) (fits_of_scanBound g))
  have B:(es.toList[j]::es.toList.eraseIdx j).Perm es.toList:=rH q
  have D:kf es.toList[j].2=k:=f k _ l
  have:=h _ (G6 s.heap a (TN (R7 es j) (t.drop j))) #[_,_,_,_,ZC i n _ _,H,Z,by rw[sz];exact M,g,?_,?_,?_]
  .rw[Jj hk]at this;exact this
  .intro e r
   rw[C]at r;exact c e ((Pc _ _).subset r)
  .rw[C]
   have I:=(B.map λe=>kf e.2).trans m
   rw[JS,D]at I
   exact(List.cons_perm_iff_perm_erase.mp I).2
  .rcases y with z|⟨P,N⟩
   .exact .inl z
   .exact .inr #[R.trans P,L N]
def xf(F:∀k v,knd.is k v=true->kf v=k){a b:Δ}(id:String)(R:b≠a){o:Obj}{n:List K}{Q:PUnit->Θ->Prop}(hd:o.data= .set es ep t)(hf:t.fits es.size=true)(i:Array (Int×Γ))(O:ElemsOf knd i.toList)(T:(i.toList.map λe=>kf e.2).Nodup)(hn:n.length+i.size+1<scanBound)
  (ho:s.heap.get? b=↑o)(hS:SetK knd kf s.heap a n)(I:n.Nodup)
  (h:∀h' j,Ψ.SameBut a s.heap h'->SetK knd kf h' a j->j.Nodup->j.length<=n.length+i.size->(∀k,k∈j↔¬(k∈n↔k∈(i.toList.map λe=>kf e.2)))->Q #[] {s with heap:=h'}):
  ε (model prog w) A (forIn i SO λx _=>do
   holding [x.2] (do
    let d <- setDiscardHashed a x.2 x.1
    if(! d)=true then do
     let _ <- setAddHashed a x.2 x.1
     pure SO
    else pure SO)
   γ.Frozenset.unchanged id b ep
   pure (Sk SO)) Q E s:=by
 let#[W,g,L,tk,M]:=s;refine R9 _ (λrest _ s'=>∃h' done j,s'=#[h',g,L,tk,M]/\i.toList=done++rest/\Ψ.SameBut a W h'/\SetK knd kf h' a j/\j.Nodup/\(∀k,k∈j↔¬(k∈n↔k∈(done.map λe=>kf e.2)))/\j.length<=n.length+done.length) _ ?_ ?_ i _ #[W,[],n,9,Ψ.SameBut.refl a W,hS,I,λk=>by simp,Jf _]
 .rintro⟨hh,x⟩ rest _ s' ⟨h',done,j,rfl,e,X,J,I,C,len⟩
  have hx:(hh,x)∈i.toList:=by rw[e];exact JQ _ Jr
  let#[#[k,hk,m],H]:=O _ hx
  dsimp only at hk m H⊢
  subst m;have kx:kf x=k:=F k x hk
  have a6:done.length+1<=i.size:=by
   have:=J0 List.length e
   rw[Jq,Jy,JR]at this;lia
  have D:k∉(done.map λe=>kf e.2):=λz=>by
   rw[e,JI,Lj]at T;exact T.2.2 k z k (by rw[JS];show k∈kf x::_;rw[kx];exact Jr) Z
  have mk:k∈j↔k∈n:=by
   rw[C k];constructor
   .intro z
    refine Pu λy=>z #[λu=>absurd u y,λu=>absurd u D]
   .intro z y
    exact D (y.mp z)
  have U:∀B l,Ψ.SameBut a h' B->SetK knd kf B a l->l.Nodup->(∀r,r∈l↔(if r=k then k∉j else r∈j))->l.length<=j.length+1->∀(f:Θ->Prop),(∀s',(∃h' done j,s'=(#[h',g,L,tk,M]:Θ)/\i.toList=done++rest/\Ψ.SameBut a W h'/\SetK knd kf h' a j/\j.Nodup/\(∀k,k∈j↔¬(k∈n↔k∈(done.map λe=>kf e.2)))/\j.length<=n.length+done.length)->f s')->ε (model prog w) A (do
    γ.Frozenset.unchanged id b ep
    pure (Sk SO)) (λP s'=>match P with| .yield _=>f s'| .done b'=>Q b' s') E #[B,g,L,tk,M]:=by
   intro B l q p Y N a5 f hZ;unfold γ.Frozenset.unchanged;have a2:B.get? b=↑o:=by rw[q.2 b R,X.2 b R];exact ho
   refine Ja (Ja (wpAny_setEpoch_of (s:=#[B,g,L,tk,M]) a2 hd hf ?_))
   simp only[bne_self_eq_false,D2,JH];refine Jd (Jd (hZ _ #[B,done++[(knd.hash k,x)],l,Z,by rw[e,IU];rfl,X.trans q,p,Y,λr=>?_,by rw[Jy,IM];lia]))
   rw[N,JI,JP]
   show _↔¬(_↔_\/r∈[kf x])
   rw[kx,Ji]
   by_cases c:r=k
   .subst c
    rw[Jc Z,mk];constructor
    .intro z y;exact z (y.mpr (.inr Z))
    .intro z y;exact z #[λ_=> .inr Z,λ_=>y]
   .rw[Jb c,C r]
    simp only[c,Ju]
  refine Ja (JM (Ja (vB (s:=#[h',g,L,tk,M]) F hk H J λB q p=>?_)))
  by_cases G:k∈j
  .rw[Jj G,Jb ⋯]
   refine Jd ?_
   refine Jx (U B _ q p (I.erase k) (λr=>?_) (JN (List.length_erase_le ..) (IL _)) _ λs' z=>z) (λP s' z=>by cases P<;>exact z) λ_ _ z=>z
   by_cases c:r=k
   .subst c
    rw[Jc Z]
    exact#[λz=>absurd z (List.Nodup.not_mem_erase I),λz=>absurd G z]
   .rw[Jb c];exact Pe c
  .rw[Jn G,Jc (show(! false)=true from Z)]
   rw[Pd G]at p;refine Ja (tV (s:=#[B,g,L,tk,M]) F hk H p (by lia) λh3 a1 S=>Jd ?_)
   rw[Jb G]at S;refine Jx (U h3 _ (q.trans a1) S ?_ (λr=>?_) (by rw[Jy];exact Jf _) _ λs' z=>z) (λP s' z=>by cases P<;>exact z) λ_ _ z=>z
   .rw[Lj]
    exact#[I,by simp,λx1 a3 y1 a4 e1=>G (by rw[Ji.mp a4]at e1;rw[<- e1];exact a3)]
   .rw[JP,Ji]
    by_cases c:r=k
    .rw[Jc c];exact#[λ_=>G,λ_=> .inr c]
    .rw[Jb c];exact#[λz=>z.resolve_right c,.inl]
 .rintro _ s' ⟨h',done,j,rfl,e,X,J,I,C,len⟩
  rw[Ic]at e;refine h h' j X J I (by rw[<- Jq,e];exact len) (by rw[e];exact C)
def lO:entryFor table "set.__xor__"=some γ.«frozenset.__xor__»:=
 entryFor_alias (id':="frozenset.__xor__") (by kernel_rfl) Z nofun (by kernel_rfl)
def Ej(x y:Γ):γ.«frozenset.__xor__» #[[x,y],[]]=(do
 if !(<- γ.Frozenset.isAnySet x <&&> γ.Frozenset.isAnySet y)then
  rule s!"frozenset.{"__xor__"}.declined"
  return <- ret .notImplemented
 ret (<- (λ(id:String) (l:Δ) (r:Γ)=>(do
  let a <- γ.Frozenset.newFrom id (<- γ.Frozenset.baseOf l) r
  holding [a] (γ.Frozenset.symmetricDifferenceUpdate id (<- γ.Frozenset.addrOf a) (-l))
  return a:Sem Γ)) s!"frozenset.{"__xor__"}" (<- γ.Frozenset.addrOf x) y)):=Z
def F4(F:∀k v,knd.is k v=true->kf v=k){a b:Δ}{Q:HG}(b8:a≠b)(Y:SetK knd kf s.heap a d)(C:SetK knd kf s.heap b j)(na:d.Nodup)(nb:j.Nodup)(la:d.length+j.length<=1000)(lb:j.length<=100)
  (h:∀h' p,(∀c o,s.heap.get? c=↑o->h'.get? c=↑o)->SetK knd kf h' s.heap.objs.size p->p.Nodup->p.length<=d.length+j.length->(∀k,k∈p↔¬(k∈d↔k∈j))->Q (-s.heap.objs.size) {s with heap:=h'}):
  ε (model prog w) A (binaryOp .BitXor (-a) (-b)) Q E s:=by
 have f:=Y.type (h:=s.heap)
 have x:=C.type (h:=s.heap)
 refine wpAny_binaryOp_same (op:= .BitXor) (T:="set") f x PySem.F.fills_set_xor PySem.F.slot_set_xor (JY PySem.F.slot_set_xor f lO ?_ (PySem.F.args_set_xor_2 _ _))
 rw[Ej];refine Ja (Ja (Z2 f ?_))
 show ε _ _ (γ.Frozenset.isAnySet (Γ.ref b)) _ _ _
 refine Z2 x ?_
 simp only[KW,D2,JH];refine Ja (Jd (Ja ?_))
 unfold γ.Frozenset.newFrom γ.Frozenset.baseOf;refine Ja (Ja (IX f sub_set_self (Jd ?_)))
 rw[Jc Z];refine Ja (Ja (mR ?_))
 have hr:(s.heap.push (Qv (! zC w))).get? s.heap.objs.size=↑(Qv (! zC w)):=Jp _ Z
 have n:∀c o,s.heap.get? c=↑o->(s.heap.push (Qv (! zC w))).get? c=↑o:=λc o e=>Jk _ e
 have G:SetK knd kf (s.heap.push (Qv (! zC w))) a d:=Y.at (n a)
 have m:SetK knd kf (s.heap.push (Qv (! zC w))) b j:=C.at (n b)
 have U:=Y.lt;have O:=C.lt;have g:s.heap.objs.size≠a:=(Jm U).symm
 have D:s.heap.objs.size≠b:=(Jm O).symm
 refine Ja (Jd (Ja (JM ?_)))
 unfold γ.Frozenset.updateFrom;have u:Θ.TypeIs {s with heap:=s.heap.push (Qv (! zC w))} (-b) "set":=m.type (s:={s with heap:=s.heap.push (Qv (! zC w))}) (h:=s.heap)
 refine Ja (Z2 u ?_)
 rw[Jc Z];refine Ja (Ja (Jd (Jd ?_)))
 unfold γ.Frozenset.merge;let#[ob,eb,b5,tb,b1,b2,b3,b4,_]:=id m;refine Ja (wpAny_setEpoch_of (s:={s with heap:=s.heap.push (Qv (! zC w))}) b1 b3 b4 ?_)
 refine im (s:={s with heap:=s.heap.push (Qv (! zC w))}) D (yj hr) m lb λh1 y L _=>Jd ?_
 have r:SetK knd kf h1 a d:=G.at λo1 e1=>by rw[y.2 a g.symm];exact e1
 have i:Θ.TypeIs {s with heap:=h1} (-a) "set":=r.type (s:={s with heap:=h1}) (h:=s.heap)
 refine Ja (Jd (Ja (JM ?_)))
 unfold γ.Frozenset.symmetricDifferenceUpdate;have S:((Γ.ref a:Γ)==Γ.ref s.heap.objs.size)=false:=by
  rw[IS];intro e;cases e;exact g Z
 rw[S];simp only[D2,JH];refine Ja (LC i ?_)
 have H:((Γ.type "set":Γ)==Γ.type "dict")=false:=by decide
 rw[H];simp only[D2,JH];refine Ja (Z2 i ?_)
 rw[Jc Z];refine Ja (Jd (Ja (Jd ?_)))
 let#[oa,ea,b6,ta,X,a2,J,a4,a5,a6,a7,a8]:=id r;refine Ja (wpAny_setEpoch_of (s:={s with heap:=h1}) X J a4 ?_)
 refine JM (Ja (sG (s:={s with heap:=h1}) X a2 J a4 a5 a6 a8 L λl h2 M z P=>?_))
 have b7:l.size=d.length:=by rw[<- Jq,M.length_eq,Jq,<- a7.length_eq,Je,Jq]
 have R:h2.get? a=↑oa:=by rw[z.2 a g.symm];exact X
 have e4:scanBound=4096:=Z
 have q:(l.toList.map λe=>kf e.2).Perm d:=(M.map λe=>kf e.2).trans a7
 refine Ja (xf (s:={s with heap:=h2}) F (toString "frozenset."++toString "__xor__") g.symm J a4 l (a6.perm M) (q.nodup_iff.mpr na) (by lia) R P nb λh3 p N W B b0 t=>Jd (Jd (Jd #[0,(λe=>nomatch e),?_])))
 refine h h3 p (λc o e=>?_) W B (by lia) λk=>?_
 .have I:c≠s.heap.objs.size:=Jm (Jl e)
  rw[N.2 c I,z.2 c I,y.2 c I];exact n c o e
 .rw[t,q.mem_iff]
  exact not_congr #[Iff.symm,Iff.symm]
end
end S0
namespace L3
open PySem PySem.Spec PyProof.Rows L2 S0
def tR{Q:HG}(F:A.handled=none)(R:SetK (TF prog w) numOf s.heap a ks)(C:ks.length<64)
  (h:∀(h':Ψ) (tk:Nat) (d:Drawn) (l:Δ) (its:Ζ) (n:Nat) (ns:Β),s.heap.objs.size<=l->(∀b o,s.heap.get? b=↑o->h'.get? b=↑o)->h'.get? l=↑(R5 "list" its.toArray n)->
   IntsAre its ns->ns.Perm ks->ns.Pairwise (· <= ·)->Q (-l) {s with heap:=h',toks:=tk,drawn:=d}):
  ε (model prog w) A (call (.builtin "sorted") [-a]) Q E s:=by
 let#[o,es,ep,t,J,x,M,O,B,j,u,p]:=R;refine SK kind_sorted plain_sorted entry_sorted (args_sorted1 _) ?_
 unfold γ.«sorted»
 refine Ja (m:=checkCount "sorted" 1 1 _) (Jd ?_)
 refine Ja (kB F J x M O B p λvs h' tk d hk P q=>?_)
 have S:IntsAre vs (vs.map numOf):=by
  refine intsAre_map vs λv D=>?_
  let#[e,K,rfl]:=JC.mp (q.mem_iff.mp D)
  let#[#[k,h1,_],_]:=j e K;let#[G,L]:=Γ.isInt_shape h1
  exact#[k,G,L]
 have i:(vs.map numOf).Perm ks:=by
  refine(q.map numOf).trans ?_
  rw[Ir];exact u
 have y:vs.length<=ζ:=by
  rw[q.length_eq,Je,Jq];exact fits_of_scanBound B
 have f:vs.length<64:=by
  have:=i.length_eq
  rw[Je]at this;omega
 refine Ja (wpAny_newList ?_ y)
 have c:(h'.push (R5 "list" vs.toArray 0)).get? h'.objs.size=↑(R5 "list" vs.toArray 0):=Jp _ Z
 show ε _ _ _ _ _ {s with heap:=h'.push (R5 "list" vs.toArray 0),toks:=tk,drawn:=d}
 refine Ja (JM (JY slot_list_sort #[_,c,Z] entry_list_sort (list_sort_tree c S f λout ns I H N=>#[0,?_]) (args_list_sort _)))
 let#[r,z]:∃r,(sortedHeap (h'.push (R5 "list" vs.toArray 0)) h'.objs.size vs out).get? h'.objs.size=↑(R5 "list" out r):=sortedHeap_at c
 refine Jd #[0,h _ tk d h'.objs.size out.toList r ns P (λb o e=>?_) (by rw[z]) I (H.trans i) N]
 have e':=hk b o e;have g:b<h'.objs.size:=Jl e'
 rw[sortedHeap_old (Jm g) (by rw[JU];exact Ik g)]
 exact Jk _ e'
def lL(hc:X.calm=true):zj X (.builtin "sorted") (λxs H Q=>∃(p:Δ) (ks:Β),xs=[-p]/\H p=↑(bt X.prog X.w p ks)/\ks.length<64/\
  ∀l (ms:Β),H l=none->ms.Perm ks->ms.Pairwise (· <= ·)->Q (-l) (HM H l (.lst (ms.map V.int)))):=by
 intro R0 s σ H xs z Q I r h;let#[p,ks,rfl,t,e,q]:=h;let#[u,rfl,w]:=zT r;cases w;let#[m,_]:=I.hok p _ t;have c:=SetK.len m;refine tR (I.ok.hd hc) m e λh' tk d l f n g j hk x y i v=>?_
 refine#[-l,_,(I.laid (a:=l) (o:= .lst (g.map V.int)) (t':=tk) hk j ?_).drw d,Z,q l g (I.hok.fresh j) i v]
 refine#[?_,f,n,fB y,x]
 rw[Je,i.length_eq];exact fits_of_scanBound c
inductive RQ (X:Cx)(x:V)(y:V)(H:Hp)(Q:VK):Prop
 |mk (a b:Δ)(ka kb:Α)(h1:x= .ref a)(h2:y= .ref b)(h3:a≠b)(h4:H a=↑(bv X.prog X.w a ka))(h5:H b=↑(bv X.prog X.w b kb))(h6:ka.Nodup)(h7:kb.Nodup)(h8:ka.length+kb.length<=100)(h9:∀l ks,H l=none->ks.Nodup->(∀k,k∈ks↔k∈ka\/k∈kb)->Q (-l) (HM H l (bv X.prog X.w l ks)))
def GD(X:Cx):R2:=λx y H Q=>RQ X x y H Q
def Fa:zx X (binaryOp .BitOr) (GD X):=by
 intro R0 s σ H x y v u Q I m B h;let#[a,b,D,C,rfl,rfl,c,n,p,i,nb,w,q]:=h;cases m;cases B;let#[z,_]:=I.hok a _ n;let#[g,_]:=I.hok b _ p;refine GG (xp _ _) c z g i nb w λh' j r f A d=>?_
 refine#[-s.heap.objs.size,_,I.laid (t':=s.toks) (o:=bv X.prog X.w s.heap.objs.size j) r (Jf _) #[f,?_,λh1 E t l=>t.at l],Z,q _ _ (I.hok.fresh (Jf _)) A d]
 let#[o,_,_,_,e,_]:=f
 exact#[o,e]
inductive Rq (X:Cx)(x:V)(y:V)(H:Hp)(Q:VK):Prop
 |mk (a b:Δ)(ka kb:Β)(h1:x= .ref a)(h2:y= .ref b)(h3:a≠b)(h4:H a=↑(bt X.prog X.w a ka))(h5:H b=↑(bt X.prog X.w b kb))(h6:ka.Nodup)(h7:kb.Nodup)(h8:ka.length+kb.length<=1000)(h9:kb.length<=100)(h10:∀l ks,H l=none->ks.Nodup->ks.length<=ka.length+kb.length->(∀k,k∈ks↔¬(k∈ka↔k∈kb))->Q (-l) (HM H l (bt X.prog X.w l ks)))
def F3(X:Cx):R2:=λx y H Q=>Rq X x y H Q
def C1:zx X (binaryOp .BitXor) (F3 X):=by
 intro R0 s σ H x y v u Q I m C h;let#[a,b,E,D,rfl,rfl,c,n,p,i,nb,z,w,q]:=h;cases m;cases C;let#[A,_]:=I.hok a _ n;let#[g,_]:=I.hok b _ p;refine F4 (yo _ _) c A g i nb z w λh' j r f B len d=>?_
 refine#[-s.heap.objs.size,_,I.laid (t':=s.toks) (o:=bt X.prog X.w s.heap.objs.size j) r (Jf _) #[f,?_,λh1 F t l=>t.at l],Z,q _ _ (I.hok.fresh (Jf _)) B len d]
 let#[o,_,_,_,e,_]:=f
 exact#[o,e]
end L3
namespace L3
open PySem PySem.Spec PyProof.Rows L2 SeqAt
def vp(t:Str):Γ->Bool
 | .str x _=>x==t
 |_=>false
theorem hJ(t:Str):∀{its:Ζ} {a:Α},StrsAre its a->its.countP (vp t)=a.count t
 |_,_,.nil=>rfl
 |_,_,.cons x tk r=>by
  rw[List.countP_cons,K6,hJ t r];rfl
def vz:ph X "list.count" (λx vs H Q=>∃(l:Δ) (c:Α) (t:Str),x= .ref l/\vs=[.str t]/\H l=↑(.lst (c.map V.str))/\Q (.int (c.count t:Nat)) H):=by
 intro R0 s σ H x xs v C Q I o B h;let#[l,c,t,rfl,rfl,w,q]:=h;cases o;let#[u,rfl,m]:=B.one;let#[tk,rfl]:=m;let#[z,a,n,f,d]:=I.hok l _ w;have e:=cQ f;refine Lo F.slot_list_count #[_,d,Z] F.entry_list_count (F.args_list_count_2 _ _) (list_countAt l _ n none _ (.str t tk) (vp t)) #[d,λy r=>?_,?_]
 .let#[j,g,rfl]:=HB.mp (show y∈a by simpa using r)
  let#[i,p]:=bq e j _ (Jh g)
  rw[p];exact TL (A:=X.A.in1) (s:=s) _ i t tk
 .exists .int _,H,I.tok _,#[0]
  show Q (.int ((a.toArray.toList.countP (vp t):Nat):Int)) H
  rw[List.toList_toArray,hJ t e];exact q
def Dt{A:Rj}(I:L2.HN X R0 σ H s){a b:Δ}{z c:Int×Int}(h1:H a=↑(.tup [.int z.1,.int z.2]))(h2:H b=↑(.tup [.int c.1,.int c.2]))(hu:A.units<cLine):EqAt A s (-a) (-b) (decide (z=c)):=by
 by_cases i:a=b
 .subst i
  rw[h1]at h2;injection h2 with h2
  injection h2 with h2
  have e:z=c:=by
   simp only[List.cons.injEq,V.int.injEq,and_true]at h2;exact Prod.ext h2.1 h2.2
  rw[Jj e];exact Sn _
 .let#[h,p,q,_]:=I.tuple (HX.of (K:=X.K) h1)
  let#[g,o,p2,_]:=I.tuple (HX.of (K:=X.K) h2)
  have l:=p.length;have n:=o.length;have e:=Sx (A:=A) (e:=λj=>[z.1,z.2].getD j 0==[c.1,c.2].getD j 0) (show s.heap.IsTuple a h.toArray from q) (show s.heap.IsTuple b g.toArray from p2) hu (λj h1 h2=>by
   have d:j<h.length:=by simpa using h1
   have f:j<g.length:=by simpa using h2
   let#[t,e]:=aO (ns:=[z.1,z.2]) p j d (by rw[<- l]at d;exact d)
   let#[u,e']:=aO (ns:=[c.1,c.2]) o j f (by rw[<- n]at f;exact f)
   simp only[KM,e,e',JG,Jh (show j<[z.1,z.2].length by rw[<- l]at d;exact d),Jh (show j<[c.1,c.2].length by rw[<- n]at f;exact f),IP]
   exact EqAt.int_int _ _ _ _)
  have es:h.toArray.size=2:=by rw[Js];exact l.symm
  have m:g.toArray.size=2:=by rw[Js];exact n.symm
  rw[es,m]at e;have e:RcAt A s (-a) (-b) ((z.1==c.1&&(z.2==c.2&&true))&&true):=e
  have r:((z.1==c.1&&(z.2==c.2&&true))&&true)=decide (z=c):=by
   rw[Iu];simp [Prod.ext_iff]
  rw[r]at e;exact TM i e
inductive RR (x:V)(y:V)(H:Hp)(Q:VK):Prop
 |mk (a b:Δ)(zs ws:List (Int×Int))(h1:x= .ref a)(h2:y= .ref b)(h3:Oe H a zs)(h4:Oe H b ws)(h5:Q (.bl (decide (zs≠ws))) H)
def Gz:R2:=λx y H Q=>RR x y H Q
def E8{k:Nat}(hr:MK k X.A):zx X (Py .NotEq) Gz:=by
 intro R0 s σ H x y v u Q I m o h;let#[a,b,zs,f,rfl,rfl,#[U,P,T,M],#[bs,N,L,G],q]:=h;cases m;cases o;let#[d,B,S,_]:=I.tuple (HX.of (K:=X.K) P)
 let#[c,C,p2,_]:=I.tuple (HX.of (K:=X.K) N)
 have t:=B.length;have r:=C.length;rw[Je]at t r;have W:X.A.units+2<cLine:=by have:=hr.un;lia
 have e:=RcNeAt.tuples (A:=X.A) (e:=λj=>decide (zs.getD j (0,0)=f.getD j (0,0))) (show s.heap.IsTuple a d.toArray from S) (show s.heap.IsTuple b c.toArray from p2) (by lia) (λj h1 n=>by
  have l:j<d.length:=by simpa using h1
  have p:j<c.length:=by simpa using n
  let#[x,ex,m]:=zL B l;let#[y,z,o]:=zL C p;rw[Jo]at ex z;let#[D,i,rfl]:=JO.mp ex;let#[w,g,rfl]:=JO.mp z;have F:j<zs.length:=by lia
  have E:j<f.length:=by lia
  simp only[KM];rw[show d[j]=Γ.ref D from m,show c[j]=Γ.ref w from o,JG,JG,Jh F,Jh E,IP,IP]
  exact Dt I (M j D _ i (Jh F)) (G j w _ g (Jh E)) (by rw[Lu];lia))
 have J:(!((Ag (min d.toArray.size c.toArray.size)).all (λj=>decide (zs.getD j (0,0)=f.getD j (0,0)))&&d.toArray.size==c.toArray.size))=decide (zs≠f):=by
  rw[Js,Js,<- t,<- r,T,L];rw[Iu,MD,decide_eq_true_eq,<- Pf,JF,IV,J7];refine not_congr #[λ⟨h1,n⟩=>?_,λh=>?_]
  .refine KD n λj O R=>?_
   have:=Jz (h1 j (JT.mpr (by lia)))
   rw[JG,JG,Jh O,Jh R]at this;exact this
  .subst h
   exact#[λj _=>Jj Z,Z]
 rw[J]at e;exact e _ _ _ _ #[.bl _,H,I,Z,q]
end L3
namespace L3
open PySem PySem.Spec PyProof.Rows L2
section
variable{age c:Int}
def eP{D:Dr}{nm:Str}{age c:Int}:HP D nm age c=D.kn\/∃e,D.kn.lookup nm=↑e/\qL D e age=true/\HP D nm age c=zr D.kn nm (zD D.near D.far e age c).2:=by
 unfold HP zt;cases e1:D.kn.lookup nm with
 |none=>exact .inl Z
 |some e=>
  simp only
  by_cases a:qL D e age=true
  .rw[Jc a]
   exact .inr #[e,Z,a,by split<;>rfl]
  .rw[Jb a];exact .inl Z
def fZ(a:t.Perm Nf)(hn:ZM nm)(f:0<=c)(e:c<4096)(hd:bG d):Oy (QV t kss nm age c d):=#[hn,wI ..,Bd a f e hd]
end
def Oc(f:Nat->Dr->Dr)(k:Nat)(xs a:Υ):Prop:=a.length=xs.length/\∀(i:Nat) (x:En),xs[i]? =↑x->∃L',a[i]? =↑(x.1,f i x.2.1,L')/\L'.length<=x.2.2.length+k
def Oc.refl(xs:Υ):Oc (λ_ D=>D) 0 xs xs:=#[Z,λi x a=>#[x.2.2,a,Jf _]]
theorem Oc.set{f g:Nat->Dr->Dr}{k i:Nat}{x:En}{L' L'':Ρ}(h:Oc f k xs a)(hx:xs[i]? =↑x)(d:a[i]? =↑(x.1,f i x.2.1,L'))(hl:L''.length<=L'.length+1)(hg:g i x.2.1=D')(ho:∀j,j≠i->g j=f j):Oc g (k+1) xs (a.set i (x.1,D',L'')):=by
 refine#[by rw[Lg];exact h.1,λj y e=>?_]
 let#[M,c,l]:=h.2 j y e
 by_cases z:j=i
 .subst z
  rw[hx]at e;cases e
  rw[d]at c
  have:L'=M:=by injection c with c;injection c with _ c;injection c
  subst this
  exact#[L'',by rw[LY (by rw[h.1];exact(Jw.mp hx).1),hg],by lia]
 .exact#[M,by rw[LZ (λw=>z w.symm),ho j z];exact c,by lia]
def Oc.mono{f:Nat->Dr->Dr}{k c:Nat}(h:Oc f k xs a)(l:k<=c):Oc f c xs a:=#[h.1,λi x d=>let⟨L',e,q⟩:=h.2 i x d;#[L',e,by lia]]
def Oc.ext{f g:Nat->Dr->Dr}{k:Nat}(h:Oc f k xs a)(e:∀i x,xs[i]? =↑x->f i x.2.1=g i x.2.1):Oc g k xs a:=#[h.1,λi x c=>let⟨L',q,r⟩:=h.2 i x c;#[L',by rw[q,e i x c],r]]
noncomputable def P9(H:Hp)(v:V):Option (Int×Int)->Prop
 |none=>v= .non
 |some (a,l)=>∃t,v= .ref t/\H t=↑(.tup [.int a,.int l])
def NY(H:Hp)(tl:Δ)(a:List (Option (Int×Int))):Prop:=∃vs:Ε,H tl=↑(.lst vs)/\vs.length=a.length/\∀(i:Nat) (v:V) (o:Option (Int×Int)),vs[i]? =↑v->a[i]? =↑o->P9 H v o
def P9.mv(m:Mv S H H')(n:NT S H)(h:P9 H v o):P9 H' v o:=by
 cases o with
 |none=>exact h
 |some p=>let#[t,e,r]:=h;exact#[t,e,m.tup n r]
theorem NY.mv(h:NY H tl a)(m:Mv S H H')(n:NT S H)(hs:tl∉S):NY H' tl a:=by
 let#[vs,e,l,r]:=h
 exact#[vs,m _ _ hs e,l,λi v o c d=>(r i v o c d).mv m n]
def NY.same(h:NY H tl a)(s:HJ H H'):NY H' tl a:=h.mv (S:=[]) s.mv fk (λh=>nomatch h)
noncomputable def aT(nm:Str)(D:Dr):Option (Int×Int)->Dr
 |none=>D
 |some (a,l)=>{D with kn:=zr D.kn nm #[a,l,none]}
def km:zj X (.type "range") (λxs H Q=>∃i j:Int,xs=[.int i,.int j]/\∀p,H p=none->Q (-p) (HM H p (.rng i j))):=by
 intro R0 s σ H xs f Q I r h;let#[i,j,rfl,q]:=h;let#[u,v,rfl,a,c]:=gt r;let#[t,rfl]:=a;let#[d,rfl]:=c;refine call_range_2 #[-s.heap.objs.size,_,I.laid (o:= .rng i j) (λb o e=>Jk _ e) (Jf _) #[39,Jp _ Z],Z,q _ (I.hok.fresh (Jf _))]
def Qq(a:Int)(n:Nat):Ε:=(Ag n).map λi:Nat=>V.int (a+(i:Int))
def gU(hc:X.calm=true):zj X (.type "list") (λxs H Q=>∃(p:Δ) (a:Int) (n:Nat),xs=[-p]/\H p=↑(.rng a (a+(n:Int)))/\ -(2 ^ 60)<=a/\a<=2 ^ 60/\n<=2 ^ 24/\∀l,H l=none->Q (-l) (HM H l (.lst (Qq a n)))):=by
 intro R0 s σ H xs f Q I r h;let#[p,a,j,rfl,A,D,C,y,q]:=h;let#[u,rfl,B]:=zT r;cases B;let#[t,u,v,e]:=I.hok p _ A;refine call_list_range (n:=j) (I.ok.hd hc) (show IsRange s.heap p a (a+(j:Int)) 1 t u v from e) (small_one (by lia) (by lia) (by lia) (by lia)) (by rw[rangeSize_one];split<;>lia) y λh' tk d c' hk w c=>?_
 refine#[-s.heap.objs.size,_,I.laid (h':=h') (t':=tk) hk (Jf _) ?_,Z,q _ (I.hok.fresh (Jf _))]
 have x:∀(f:Ζ) (n k:Nat),f.length=n->(∀i v,f[i]? =↑v->∃t,v=Γ.int (a+((k+i:Nat):Int)) t)->HS ((List.range' k n).map λi:Nat=>V.int (a+(i:Int))) f:=by
  intro f
  induction f with
  |nil=>intro n k o _;cases o;exact .nil
  |cons u f ih=>
   intro n k o z;cases n with
   |zero=>cases o
   |succ n=>
    rw[ON,JS];let#[t,g]:=z 0 u Z;refine .cons #[t,by simpa using g] (ih n (k+1) (by simpa using o) λi v hi=>?_)
    let#[t,g]:=z (i+1) v hi
    exact#[t,by rw[g];congr 1;lia]
 have m:HS (Qq a j) d.toList:=by
  unfold Qq;rw[OO];refine x _ _ 0 (by rw[Jq];exact c.1) λi v hi=>?_
  let#[t,g]:=c.2 i v (by rw[<- KI];exact hi)
  exact#[t,by rw[g];first|rfl|(congr 1;lia)]
 exact#[by unfold Qq;simp only[Je,E1];exact JN y (by rw[JD];decide),d.toList,c',m,w]
def nM(a:Int)(n:Nat):(Qq a n).length=n:=by unfold Qq;rw[Je,E1]
def jL{i:Nat}{x:V}(h:(Qq a n)[i]? =↑x):x= .int (a+(i:Int))/\i<n:=by
 unfold Qq at h;rw[Jo]at h;have hi:i<n:=by
  cases q:(Ag n)[i]? with
  |none=>rw[q]at h;cases h
  |some y=>have:=(Jw.mp q).1;rwa [E1]at this
 rw[LX hi]at h;cases h
 exact#[Z,hi]
noncomputable def ZX(n:Int)(S:List (Int×Int)):List (Int×Int):=S.filterMap λp=>if p.1<n then ↑(p.1,if p.2<n-1 then p.2 else n-1)else none
noncomputable def QU(n:Int)(S:List (Int×Int)):Bool:=S.any λp=>decide (p.1<=n)&&decide (n<=p.2)
inductive Rz:List (Int×Int)->Prop where
 |nil:Rz []
 |one (f l:Int)(h:f<=l):Rz [(f,l)]
 |two (f l g:Int)(h:f<=l)(h2:l+1<g):Rz [(f,l),(g,g)]
noncomputable def Ai(F:List (Int×Int))(n:Int):List (Int×Int):=match F.getLast? with
 |some (f,l)=>if l=n-1 then F.dropLast++[(f,n)]else F++[(n,n)]
 |none=>[(n,n)]
def lC(h:Rz S)(n:Int):ZX (n+1) S=if QU n S=true then Ai (ZX n S) n else ZX n S:=by
 cases h with
 |nil=>rfl
 |one f l h=>
  unfold ZX QU Ai
  by_cases h1:f<n
  .by_cases d:n<=l
   .have c:(if f<n+1 then ↑(f,if l<n+1-1 then l else n+1-1)else none)=↑(f,n):=by rw[Jc (by lia),Jb (by lia)];congr 2;lia
    have a:(if f<n then ↑(f,if l<n-1 then l else n-1)else none)=↑(f,n-1):=by rw[Jc h1,Jb (by lia)]
    simp only[JW,KA,c,a,J4,KB];rw[Jj (by lia:f<=n),Jj d]
    simp
   .have c:(if f<n+1 then ↑(f,if l<n+1-1 then l else n+1-1)else none)=↑(f,l):=by rw[Jc (by lia),Jc (by lia)]
    have a:(if f<n then ↑(f,if l<n-1 then l else n-1)else none)=↑(f,l):=by rw[Jc h1];congr 2;split<;>lia
    simp only[JW,KA,c,a,J4,KB];rw[Jn d];simp
  .by_cases d:f=n
   .subst d
    have c:(if f<f+1 then ↑(f,if l<f+1-1 then l else f+1-1)else none)=↑(f,f):=by rw[Jc (by lia),Jb (by lia)];congr 2;lia
    have a:(if f<f then ↑(f,if l<f-1 then l else f-1)else none)=none:=by rw[Jb (by lia)]
    simp only[JW,KA,c,a,J4,KB];rw[Jj (GZ f),Jj h];simp
   .have c:(if f<n+1 then ↑(f,if l<n+1-1 then l else n+1-1)else none)=none:=by rw[Jb (by lia)]
    have a:(if f<n then ↑(f,if l<n-1 then l else n-1)else none)=none:=by rw[Jb h1]
    simp only[JW,KA,c,a,J4,KB];rw[Jn (by lia:¬f<=n)]
    simp
 |two f l g h hg=>
  unfold ZX QU Ai
  by_cases h1:f<n
  .by_cases d:n<=l
   .have c:(if f<n+1 then ↑(f,if l<n+1-1 then l else n+1-1)else none)=↑(f,n):=by rw[Jc (by lia),Jb (by lia)];congr 2;lia
    have a:(if f<n then ↑(f,if l<n-1 then l else n-1)else none)=↑(f,n-1):=by rw[Jc h1,Jb (by lia)]
    have i:(if g<n+1 then ↑(g,if g<n+1-1 then g else n+1-1)else none)=none:=by rw[Jb (by lia)]
    have e:(if g<n then ↑(g,if g<n-1 then g else n-1)else none)=none:=by rw[Jb (by lia)]
    simp only[JW,KA,c,a,i,e,J4,KB];rw[Jj (by lia:f<=n),Jj d]
    simp
   .have c:(if f<n+1 then ↑(f,if l<n+1-1 then l else n+1-1)else none)=↑(f,l):=by rw[Jc (by lia),Jc (by lia)]
    have a:(if f<n then ↑(f,if l<n-1 then l else n-1)else none)=↑(f,l):=by rw[Jc h1];congr 2;split<;>lia
    by_cases j:g<n
    .have i:(if g<n+1 then ↑(g,if g<n+1-1 then g else n+1-1)else none)=↑(g,g):=by rw[Jc (by lia),Jc (by lia)]
     have e:(if g<n then ↑(g,if g<n-1 then g else n-1)else none)=↑(g,g):=by rw[Jc j];congr 2;split<;>lia
     simp only[JW,KA,c,a,i,e,J4,KB];rw[Jn d,Jn (by lia:¬n<=g)]
     simp
    .by_cases m:g=n
     .subst m
      have i:(if g<g+1 then ↑(g,if g<g+1-1 then g else g+1-1)else none)=↑(g,g):=by rw[Jc (by lia),Jb (by lia)];congr 2;lia
      have e:(if g<g then ↑(g,if g<g-1 then g else g-1)else none)=none:=by rw[Jb (by lia)]
      simp only[JW,KA,c,a,i,e,J4,KB];rw[Jj (GZ g)];simp
      lia
     .have i:(if g<n+1 then ↑(g,if g<n+1-1 then g else n+1-1)else none)=none:=by rw[Jb (by lia)]
      have e:(if g<n then ↑(g,if g<n-1 then g else n-1)else none)=none:=by rw[Jb j]
      simp only[JW,KA,c,a,i,e,J4,KB];rw[Jn d,Jn (by lia:¬g<=n)]
      simp
  .have i:(if g<n+1 then ↑(g,if g<n+1-1 then g else n+1-1)else none)=none:=by rw[Jb (by lia)]
   have e:(if g<n then ↑(g,if g<n-1 then g else n-1)else none)=none:=by rw[Jb (by lia)]
   by_cases d:f=n
   .subst d
    have c:(if f<f+1 then ↑(f,if l<f+1-1 then l else f+1-1)else none)=↑(f,f):=by rw[Jc (by lia),Jb (by lia)];congr 2;lia
    have a:(if f<f then ↑(f,if l<f-1 then l else f-1)else none)=none:=by rw[Jb (by lia)]
    simp only[JW,KA,c,a,i,e,J4,KB];rw[Jj (GZ f),Jj h];simp
   .have c:(if f<n+1 then ↑(f,if l<n+1-1 then l else n+1-1)else none)=none:=by rw[Jb (by lia)]
    have a:(if f<n then ↑(f,if l<n-1 then l else n-1)else none)=none:=by rw[Jb h1]
    simp only[JW,KA,c,a,i,e,J4,KB];rw[Jn (by lia:¬f<=n),Jn (by lia:¬g<=n)]
    simp
def kK{S:List (Int×Int)}{n:Int}(h:∀p∈S,n<=p.1):ZX n S=[]:=by
 unfold ZX;rw[List.filterMap_eq_nil_iff];intro p a;rw[Jb (by have:=h p a;lia)]
def pJ{S:List (Int×Int)}{n:Int}(h:∀p∈S,p.1<=p.2/\p.2<n):ZX n S=S:=by
 unfold ZX
 induction S with
 |nil=>rfl
 |cons p r ih=>
  have:=h p (Jr ..)
  rw[JW,Jc (by lia)]
  simp only
  rw[ih (λq c=>h q (Jv _ c))]
  congr 1
  let#[a,b]:=p;simp only at this⊢
  congr 1
  split<;>lia
def AG(n f:Int):Prop:=1<=n/\n<=4/\n<=f/\f<=12
inductive lp|mk (b:Δ)(c:Nat)(h1:vs=[-b])(h2:MZ H b c)(h3:c<100000000)(h4:∀l x y (n f n' f':Int) H',NM b (c+7) H H'->H' l=↑(.lst [-x,-y])->H' x=↑(.tup [.int n,.int f])->H' y=↑(.tup [.int n',.int f'])->AG n f->AG n' f'->H l=none->Q (-l) H')
def NY.two{H:Hp}{v d:V}(e:H tl=↑(.lst [v,d]))(h:P9 H v o)(h':P9 H d o'):NY H tl [o,o']:=#[[v,d],e,Z,λi u w a c=>by
 match i,a,c with
 |0,a,c=>cases a;cases c;exact h
 |1,a,c=>cases a;cases c;exact h'
 |i+2,a,c=>cases a]
def wO{nms:Α}{nm:Str}{j:Nat}(c:nms.Nodup)(e:nms[j]? =↑nm):nm∉nms.take j:=λz=>by
 let#[k,hk,a]:=HB.mp z;rw[Pg]at a;rw[G5]at hk
 exact(Kg.mp c) k j (by lia) (Jw.mp e).1 (by lia) (a.trans (Jw.mp e).2.symm)
section
variable(K:ι)(C:Δ)
inductive iM|mk (a:Da)(D:Dr)(L:Ρ)(nm:Str)(h1:vs=[-a.p,.str nm])(h2:M8 K C H a D L)(h3:L.length<=1000000)(h4:D.kn.lookup nm≠none)(h5:∀D' r,DR D (.forget nm)=↑(D',r)->∀H',Mv [a.bd,a.lg] H H'->M8 K C H' a D' (L++[r])->Q .non H')
inductive mV|mk (a:Da)(D:Dr)(L:Ρ)(k:Δ)(ks:Β)(h1:vs=[-a.p,-k])(h2:M8 K C H a D L)(h3:L.length<=1000000)(h4:D.kss.length<8)(h5:Gk H k ks)(h6:ks.length<=8)(h7:∀D' r,DR D (.turn ks)=↑(D',r)->∀H',Mv [a.hk,a.lg] H H'->M8 K C H' a D' (L++[r])->Q .non H')
end
end L3
namespace Lw
open PySem L2 L3
def Hh:0<=ζ:=by decide
def Hl:1<=ζ:=by decide
def Ho:2<=ζ:=by decide
def Ht:3<=ζ:=by decide
def Hu:4<=ζ:=by decide
def Hw:5<=ζ:=by decide
def HF:16<=ζ:=by decide
noncomputable def qV(i:Nat):δ:=PySem.Challenge.pw_rollcode_k37_shared_by_turns.main.body.getD i (.Pass #[(0),(0),(0),(0)])
abbrev bV:δ:=qV 3
abbrev eE:δ:=qV 4
abbrev bE:δ:=qV 5
abbrev bg:δ:=qV 6
abbrev j0:δ:=qV 7
abbrev fS:δ:=qV 8
abbrev gj:δ:=qV 15
abbrev fD:δ:=qV 16
abbrev cW:δ:=qV 17
abbrev ZQ:δ:=qV 18
abbrev iz:δ:=qV 19
abbrev Z3:δ:=qV 20
abbrev c8:δ:=qV 21
abbrev bj:δ:=qV 22
abbrev fP:δ:=qV 44
abbrev f7:δ:=qV 45
abbrev Zt:δ:=zG (qV 47) 0
abbrev ZY:δ:=zG (qV 47) 2
abbrev Zu:δ:=zG (qV 47) 8
abbrev ZA:δ:=zG (qV 47) 11
abbrev Zl:δ:=zG (qV 47) 10
abbrev QB:δ:=zG (qV 47) 9
abbrev Zy:δ:=zG (qV 47) 7
abbrev cf:δ:=zG (qV 47) 6
abbrev Zn:δ:=zG (qV 47) 12
abbrev aX:δ:=zG (qV 47) 1
abbrev ay:δ:=zG (qV 47) 3
abbrev ZU:δ:=zG (qV 47) 4
abbrev Za:δ:=zG (qV 47) 5
abbrev Zv:δ:=zG (qV 47) 13
abbrev ZT:δ:=zG (qV 47) 14
abbrev Zj:δ:=zG (qV 47) 15
abbrev Q4:δ:=zG (qV 47) 16
abbrev ZW:δ:=qV 25
abbrev cZ:δ:=qV 24
abbrev az:δ:=qV 27
abbrev bu:δ:=qV 32
abbrev bZ:δ:=qV 30
abbrev au:δ:=qV 29
abbrev ax:δ:=qV 28
abbrev bh:δ:=qV 31
abbrev gn:δ:=qV 26
abbrev jS:δ:=qV 33
abbrev du:δ:=qV 35
abbrev ZR:δ:=qV 34
abbrev gh:δ:=qV 49
abbrev eW:δ:=qV 50
abbrev ca:δ:=qV 51
abbrev gg:δ:=qV 52
abbrev cj:δ:=qV 53
abbrev c6:δ:=qV 55
abbrev cR:δ:=qV 56
abbrev cp:δ:=qV 57
abbrev bz:δ:=qV 58
abbrev cm:δ:=qV 59
abbrev bp:δ:=qV 60
abbrev bo:δ:=qV 63
abbrev fF:δ:=qV 64
abbrev aR:δ:=qV 54
abbrev gc:δ:=qV 65
abbrev fU:δ:=qV 66
abbrev ci:δ:=qV 67
abbrev b9:δ:=qV 68
abbrev c7:δ:=qV 69
abbrev iK:δ:=qV 71
abbrev cg:δ:=qV 70
abbrev aJ:δ:=qV 72
def qX{N P:Α}{c:Scope}(h1:c.kind= .function:=by rfl)(h2:c.isCoroutine=false:=by rfl)(a:c.isGenerator=false:=by rfl)(d:N.Nodup:=by decide +kernel)(f:N.take P.length=P:=by rfl)(e:∀x∈P,c.names.lookup x=some .local\/c.names.lookup x=some .cell:=by decide +kernel)(g:∀y∈c.names,y.2≠ .free:=by decide +kernel):HK N P c:=#[h1,h2,a,d,f,e,g]
def oU:HK (["thing"]:Α) (["thing"]:Α) (qi bV):=qX
def p8:HK (["thing"]:Α) (["thing"]:Α) (qi eE):=qX
def lP:HK (["things"]:Α) (["things"]:Α) (qi bE):=qX
def Np:HK (["table","back","place","digit"]:Α) (["table"]:Α) (qi bg):=qX
def NN:HK (["table","key","digits","row","shift","place","ahead"]:Α) (["table","key","digits"]:Α) (qi j0):=qX
def Nh:HK (["table","key","digits","back","row","shift","place","ahead"]:Α) (["table","key","digits"]:Α) (qi fS):=qX
def ua:HK (["thing"]:Α) (["thing"]:Α) (qi gj):=qX
def va:HK (["thing"]:Α) (["thing"]:Α) (qi fD):=qX
def NG:HK (["thing","name","age","code"]:Α) (["thing"]:Α) (qi cW):=qX
def MY:HK (["name","digits","letter","place"]:Α) (["name"]:Α) (qi ZQ):=qX
def NQ:HK (["table","key","name","sums","place","digit"]:Α) (["table","key","name"]:Α) (qi iz):=qX
def i9:HK (["count"]:Α) (["count"]:Α) (qi Z3):=qX
def NO:HK (["table","key","name","age","count","deed","four","five"]:Α) (["table","key","name","age","count","deed"]:Α) (qi c8):=qX
def MF:HK (["table","key","press","name","age","code","low","middle","high","deed","check"]:Α) (["table","key","press"]:Α) (qi bj):=qX
def vn:HK (["count","last","near","far"]:Α) (["count","last","near","far"]:Α) (qi fP):=qX
def Ni:HK (["button","age","count","near","far","own_age","last","waiting","word"]:Α) (["button","age","count","near","far"]:Α) (qi f7):=qX
def cH:HK (["self","table","keys","near","far","most"]:Α) (["self","table","keys","near","far","most"]:Α) (qi Zt):=qX
def jk:HK (["self"]:Α) (["self"]:Α) (qi ZY):=qX
def gN:HK (["self","name"]:Α) (["self","name"]:Α) (qi Zu):=qX
def gR:HK (["self","age"]:Α) (["self","age"]:Α) (qi ZA):=qX
def fT:HK (["self","button","age"]:Α) (["self","button","age"]:Α) (qi Zl):=qX
def aq:HK (["self","button","age","count"]:Α) (["self","button","age","count"]:Α) (qi QB):=qX
def HW:HK (["self","press","name","age","code","button","pair","count","deed","word","behind"]:Α) (["self","press"]:Α) (qi Zy):=qX
def NZ:HK (["self","thing","answer"]:Α) (["self","thing"]:Α) (qi cf):=qX
def fN:HK (["self","thing"]:Α) (["self","thing"]:Α) (qi Zn):=qX
def MR:HK (["self","one","other","first","second","name","age","code"]:Α) (["self","one","other"]:Α) (qi aX):=qX
def jD:HK (["self","name"]:Α) (["self","name"]:Α) (qi ay):=qX
def NJ:HK (["self","key","turned"]:Α) (["self","key"]:Α) (qi ZU):=qX
def ft:HK (["self","age"]:Α) (["self","age"]:Α) (qi Za):=qX
def gQ:HK (["self"]:Α) (["self"]:Α) (qi Zv):=qX
def iw:HK (["self"]:Α) (["self"]:Α) (qi ZT):=qX
def gi:HK (["self"]:Α) (["self"]:Α) (qi Zj):=qX
def fu:HK (["self"]:Α) (["self"]:Α) (qi Q4):=qX
def ME:HK (["door","button","age","near","far","most","own_age","last","waiting","stretches","after"]:Α) (["door","button","age"]:Α) (qi ZW):=qX
def rD:HK (["door","name","age"]:Α) (["door","name","age"]:Α) (qi cZ):=qX
def jF:HK (["door"]:Α) (["door"]:Α) (qi az):=qX
def lQ:HK (["one","first","other","second"]:Α) (["one","first","other","second"]:Α) (qi bu):=qX
def mS:HK (["stretches"]:Α) (["stretches"]:Α) (qi bZ):=qX
def j8:HK (["these","those"]:Α) (["these","those"]:Α) (qi au):=qX
def Nc:HK (["one","first","other","second","age","these","those"]:Α) (["one","first","other","second"]:Α) (qi ax):=qX
def MG:HK (["one","first","other","second","age","end","count","word","here","there","press"]:Α) (["one","first","other","second"]:Α) (qi bh):=qX
def Nj:HK (["one","other","names","name","press","pair"]:Α) (["one","other"]:Α) (qi gn):=qX
def BK:HK (["one","other"]:Α) (["one","other"]:Α) (qi jS):=qX
def MM:HK (["door","row","buttons","told","name","age","count","word","behind"]:Α) (["door","row"]:Α) (qi du):=qX
def Nk:HK (["one","other","row","these","those"]:Α) (["one","other","row"]:Α) (qi ZR):=qX
def Nl:HK (["_law_script","_law_k","_law_cell","_law_fold","_law_one_here"]:Α) (["_law_script","_law_k"]:Α) (qi gh):=qX
def Nu:HK (["_law_box_here","_law_many","_law_digit","_law_m","_law_turn"]:Α) (["_law_box_here","_law_many"]:Α) (qi eW):=qX
def N1:HK (["_law_box_here","_law_rest"]:Α) (["_law_box_here"]:Α) (qi ca):=qX
def t8:HK (["_law_box_here"]:Α) (["_law_box_here"]:Α) (qi gg):=qX
def nB:HK (["_law_near","_law_far","_law_keys"]:Α) (["_law_near","_law_far","_law_keys"]:Α) (qi cj):=qX
def M9:HK (["_law_own","_law_plain","_law_name","_law_age","_law_count","_law_row","_law_gone"]:Α) (["_law_own","_law_plain"]:Α) (qi c6):=qX
def Nv:HK (["_law_own","_law_plain","_law_word_here","_law_name","_law_age","_law_count"]:Α) (["_law_own","_law_plain"]:Α) (qi cR):=qX
def Nx:HK (["_law_code","_law_plain","_law_deed_here","_law_name","_law_age","_law_count"]:Α) (["_law_code","_law_plain","_law_deed_here"]:Α) (qi cp):=qX
def M0:HK (["_law_code","_law_pair_here","_law_name","_law_told","_law_place","_law_age","_law_last","_law_presses"]:Α) (["_law_code","_law_pair_here","_law_name","_law_told"]:Α) (qi bz):=qX
def N3:HK (["_law_code","_law_pair_here","_law_plain","_law_places","_law_place"]:Α) (["_law_code","_law_pair_here","_law_plain","_law_places"]:Α) (qi cm):=qX
def Nq:HK (["_law_box_here","_law_near","_law_far","_law_other"]:Α) (["_law_box_here"]:Α) (qi bp):=qX
def lW:HK (["_law_base"]:Α) (["_law_base"]:Α) (qi bo):=qX
def Nm:HK (["_law_owns","_law_drawn_here","_law_name","_law_age","_law_count","_law_plain","_law_words"]:Α) (["_law_owns","_law_drawn_here"]:Α) (qi fF):=qX
def NS:HK (["_law_own","_law_made"]:Α) (["_law_own"]:Α) (qi aR):=qX
def MV:HK (["_law_owns","_law_drawn_here","_law_name","_law_age","_law_count","_law_plain","_law_made","_law_own","_law_told"]:Α) (["_law_owns","_law_drawn_here"]:Α) (qi gc):=qX
def Oa:HK (["_law_box_here","_law_names"]:Α) (["_law_box_here"]:Α) (qi fU):=qX
def gm:HK (["_law_found","_law_due"]:Α) (["_law_found","_law_due"]:Α) (qi ci):=qX
def MN:HK (["_law_box_here","_law_drawn_here","_law_names","_law_many","_law_base","_law_code","_law_pair_here","_law_name","_law_told"]:Α) (["_law_box_here","_law_drawn_here"]:Α) (qi b9):=qX
def HY:HK (["_law_box_here","_law_entry","_law_code","_law_pair_here","_law_names","_law_many","_law_base","_law_way","_law_place","_law_door","_law_own","_law_name","_law_age","_law_key_here","_law_plain"]:Α) (["_law_box_here","_law_entry"]:Α) (qi c7):=qX
def wc:HK (["_law_found","_law_due"]:Α) (["_law_found","_law_due"]:Α) (qi iK):=qX
def HU:HK (["_law_box_here","_law_entry","_law_code","_law_pair_here","_law_drawn_here","_law_one_here","_law_here","_law_other","_law_there","_law_due","_law_name","_law_age","_law_stretches","_law_opened","_law_told","_law_first","_law_last"]:Α) (["_law_box_here","_law_entry"]:Α) (qi cg):=qX
def NP:HK (["_law_script","_law_k","_law_box_here","_law_entries","_law_turn","_law_at","_law_other","_law_held"]:Α) (["_law_script"]:Α) (qi aJ):=qX
structure MW(K:ι)(mg:HH)(tk:Nat->Tok):Prop where
 g_DIGITS:mg "DIGITS"=↑(.int 16 (tk 0))
 g_KEY_PLACES:mg "KEY_PLACES"=↑(.int 4 (tk 1))
 g_LONGEST_NAME:mg "LONGEST_NAME"=↑(.int 8 (tk 2))
 g_CODE_DIGITS:mg "CODE_DIGITS"=↑(.int 5 (tk 3))
 g_COUNTS:mg "COUNTS"=↑(.int 4096 (tk 4))
 g_AGES:mg "AGES"=↑(.int 8 (tk 5))
 b_isinstance:mg "isinstance"=none
 b_bool:mg "bool"=none
 b_int:mg "int"=none
 b_tuple:mg "tuple"=none
 b_all:mg "all"=none
 b_any:mg "any"=none
 b_len:mg "len"=none
 b_abs:mg "abs"=none
 b_list:mg "list"=none
 b_enumerate:mg "enumerate"=none
 b_range:mg "range"=none
 b_max:mg "max"=none
 b_min:mg "min"=none
 b_str:mg "str"=none
 b_zip:mg "zip"=none
 b_ord:mg "ord"=none
 b_sum:mg "sum"=none
 b_reversed:mg "reversed"=none
 b_sorted:mg "sorted"=none
 b_dict:mg "dict"=none
 b_set:mg "set"=none
section
variable{K:ι}{tk:Nat->Tok}
def nz(a:At K mg "is_number" bV ["thing"])(T:MW K mg tk):Df P w K mg base "is_number" W4 1 ij:=by
 refine a.dq oU λf _ A _ s H vs Q E d h=>?_
 .let#[x,t,rfl,hk,q]:=h
  let#[ty,c]:=Gb (K:=K) hk
  exists _,(qe (qj (zF (qk hW T.b_isinstance JA (qc (qv 0) (qc (qH (v:= .ty "int") Z T.b_int Lk Z) qa))) (QD (bD (qk hW T.b_isinstance JA (qc (qv 0) (qc (qH (v:= .ty "bool") Z T.b_bool Ll Z) qa))))))))
  rw[C9 hk]at q;exists 0,x,"int",t,Z,ty,c,by simp,0
  cases hi:zz t "int" with
  |false=>
   refine zh ?_
   rw[hi,Ii]at q;exact q
  |true=>
   refine zo ?_
   rw[hi,Iz]at q
   exact#[0,x,"bool",t,Z,ty,c,by simp,0,q]
def pU(a:At K mg "is_digit" eE ["thing"])(T:MW K mg tk)(e:Df P w K mg base "is_number" W4 1 ij):Df P w K mg base "is_digit" W4 2 tP:=by
 refine a.dq p8 λf _ A _ s H vs Q E g h=>?_
 .let#[x,t,rfl,hk,q]:=h
  exists _,(qe (qj (zF (qo e g.mo (qc (qv 0) qa)) (QD (iI Z8 bP qf (qv 0) (zm (v:= .int 16) Z T.g_DIGITS #[0]))))))
  exists 0,x,t,Z,hk,0
  cases hn:ip x with
  |false=>
   refine zh ?_
   rw[xt hn]at q;exact q
  |true=>
   refine zo ?_
   let#[i,rfl]:=AZ hn;exists 12
   have c:Q (.bl (decide (0<=i)&&decide (i<16))) H:=q
   refine qZ (λd=>?_) (λd=>?_)
   .exists 6
    rw[d,Iz]at c;exact c
   .rw[Ly.mpr d,Ii]at c
    exact c
def l9(a:At K mg "are_digits" bE ["things"])(T:MW K mg tk)(m:Df P w K mg base "is_digit" W4 2 tP):Df P w K mg base "are_digits" ["things"] 3 oA:=by
 refine a.dq lP λf _ A _ s H vs Q E o h=>?_
 .let#[p,xs,rfl,e,n,hk,q]:=h
  exists _,(qe (qj (qk (bI Z) T.b_all Mo (qc (Qa (own:=["thing"]) (fr:=[]) (js:=[]) Z (ao (qv 0)) Z (λ_ _ h=>nomatch h) Z (bX Z nofun nofun nofun) (λ_ _ _ _=>qg (i:=0) (show P4 (["thing"]:Α)from by decide +kernel) Z (Pr Z) (.inr Z)) (λ_ _ _ _=>(qo m o.mo (qc (qv 0) qa)))) qa))))
  refine#[0,p,Z,#[xs,HX.of e],bA (xs:=xs) n (λi ys d=>ys=(xs.take i).map (λx=>V.bl (c5 x))/\HJ H d) #[by simp,HJ.refl H] (λi ys d ⟨_,c⟩=>HX.of (c _ _ e)) ?_ ?_]
  .rintro i ys d x g _ ⟨rfl,c⟩
   let#[t,j]:=hk x (Ij g)
   refine#[0,x,t,Z,gu c j,?_,c]
   rw[Ie,g];simp
  .rintro ys d _ ⟨rfl,c⟩ l r
   rw[Ip];exists l,xs.map c5,Z,HQ.of (by rw[Ir];exact qb)
   rw[List.all_map];exact q _ (c.trans (HJ.upd r))
def uF(a:At K mg "is_name" gj ["thing"])(T:MW K mg tk):Df P w K mg base "is_name" W4 1 kZ:=by
 refine a.dq ua λf _ A _ s H vs Q E C h=>?_
 .let#[x,b,rfl,o,q]:=h
  exists _,(qd (qC (QW.pt (Qc (Ql (zk (qk qO T.b_isinstance JA (qc (qv 0) (qc (qH (v:= .ty "str") Z T.b_str Lz Z) qa))))) (zP (Ql (mL Z8 Z8 qf (qk nY T.b_len J5 (qc (qv 0) qa)) (zm (v:= .int 8) Z T.g_LONGEST_NAME #[0])))))) (qe (qj Ze)) qt)
   (qe (qj (qk (bI Z) T.b_all Mo (qc (Qa (own:=["letter"]) (fr:=[]) (js:=[]) Z (wR (qv 0)) Z (λ_ _ h=>nomatch h) Z (bX Z nofun nofun nofun) (λ_ _ _ _=>qg (i:=0) (show P4 (["letter"]:Α)from by decide +kernel) Z (Pr Z) (.inr Z)) (λ_ _ _ _=>(iI kW kW qy (qv 0) qy))) qa)))))
  rcases o with⟨z,rfl,u,B,rfl⟩|⟨t,hk,p,rfl⟩
  case inr=>
   exists 0,x,"str",t,Z,pC hk,by simp,0
   rw[p];exact zo (q _ (HJ.refl _))
  have D:z.length=z.cps.toList.length:=Z
  exists 17,"str","str",Z,.str z,by simp,0
  refine zh ?_
  exists 0,z,Z,by rw[JD];omega,_,_,Z,Z,_,Z
  unfold BW at q
  by_cases h1:1<=z.length
  case neg=>
   refine QC (Jn (by omega)) #[0,zo ?_]
   rw[Jn h1,Ii,Ii]at q;exact q _ (HJ.refl _)
  refine Qp (Jj (by omega)) ?_
  exists 14
  rw[Jj h1,Iz]at q
  by_cases n:z.length<=8
  case neg=>
   refine Qp (by rw[Jn (by omega:¬((z.length:Nat):Int)<=8)];rfl) ?_
   rw[Jn n,Ii]at q;exact q _ (HJ.refl _)
  refine QC (by rw[Jj (by omega:((z.length:Nat):Int)<=8)];rfl) ?_
  rw[Jj n,Iz]at q;refine#[0,z,Z,u,AH (by show z.cps.toList.length<=_;rw[JD];omega) (λi ys j=>j=H/\ys=((z.cps.toList.take i).map mZ).map V.bl) #[9] ?_ ?_]
  .rintro i ys j c r _ ⟨rfl,rfl⟩
   have e:=tI r;let#[m,y]:=uQ c;exists 12
   rw[Ie,e,JI,JI]
   by_cases d:97<=c
   .refine Qp (by rw[m,Jj d]) #[_,_,Z,Z,Z,?_]
    rw[y]
    show _=_++[V.bl (decide (97<=c)&&decide (c<=122))]
    rw[Jj d,Iz]
   .refine QC (by rw[m,Jn d]) #[Z,?_]
    show _=_++[V.bl (decide (97<=c)&&decide (c<=122))]
    rw[Jn d,Ii]
  .rintro ys j B ⟨rfl,rfl⟩ l g
   exists l,z.cps.toList.map mZ,Z,HQ.of (by rw[show z.cps.size=z.cps.toList.length from Z,Ip];exact qb)
   rw[List.all_map];exact q _ (HJ.upd g)
def uH(a:At K mg "is_code" fD ["thing"])(T:MW K mg tk)(j:Df P w K mg base "are_digits" ["things"] 3 oA):Df P w K mg base "is_code" W4 4 kO:=by
 refine a.dq va λf _ A _ s H vs Q E l h=>?_
 .let#[x,b,rfl,g,q]:=h
  exists _,(qd (qC (Ql (zk (qk qO T.b_isinstance JA (qc (qv 0) (qc (qH (v:= .ty "tuple") Z T.b_tuple JL Z) qa))))) (qe (qj Ze)) qt)
   (qe (qj (zF (ze zu (qk qT T.b_len J5 (qc (qv 0) qa)) (zm (v:= .int 5) Z T.g_CODE_DIGITS #[0]) (qq _)) (QD (qo j l.mo (qc (qv 0) qa)))))))
  rcases g with⟨e,ds,rfl,c,m,hk,rfl⟩|⟨t,hk,i,rfl⟩
  case inr=>
   exists 0,x,"tuple",t,Z,pC hk,by simp,0
   rw[i];exact zo (q _ (HJ.refl _))
  exists 17,"tuple","tuple",Z,.tup (.inl c),by simp,0
  refine zh ?_
  exists 0,e,0,.inr (HX.of c),8
  by_cases d:ds.length=5
  .refine Qp (Jj (by rw[d];rfl)) ?_
   refine#[0,e,0,c,by rw[JD];omega,hk,λH' s'=>?_]
   rw[Jj d,Iz]at q;exact q _ s'
  .rw[Jn d,Ii]at q
   refine QC (Jn (by intro z;injection z with z;omega)) ?_
   exact q _ (HJ.refl _)
def pW(a:At K mg "is_press" cW ["thing"])(T:MW K mg tk)(o:Df P w K mg base "is_name" W4 1 kZ)(p:Df P w K mg base "is_number" W4 1 ij)(r:Df P w K mg base "is_code" W4 4 kO):Df P w K mg base "is_press" W4 5 cU:=by
 refine a.dq NG λf _ A _ s H vs Q E g h=>?_
 .let#[x,b,rfl,j,q]:=h
  exists _,(qd (qC (QW.pt (Qc (Ql (zk (qk qO T.b_isinstance JA (qc (qv 0) (qc (qH (v:= .ty "tuple") Z T.b_tuple JL Z) qa))))) (zP (qw Z9 (qk qT T.b_len J5 (qc (qv 0) qa)) qf (qq _))))) (qe (qj Ze)) qt)
   (qd (q9 (qv 0) (zf Z (qh (qg (i:=1) NG.nd Z (Pr Z)) (qh (qg (i:=2) NG.nd Z (Pr Z)) (qh (qg (i:=3) NG.nd Z (Pr Z)) qK)))))
   (qe (qj (zF (qo o g.mo (qc (qv 1) qa)) (zF (qo p g.mo (qc (qv 2) qa)) (QD (qo r g.mo (qc (qv 3) qa)))))))))
  cases j with
  | @kd t hk hs=>
   exists 0,x,"tuple",t,Z,pC hk,by simp,0
   rw[hs];exact zo (q _ (HJ.refl _))
  | @len a xs e h l n=>
   subst e;exists 17,"tuple","tuple",Z,.tup (.inl h),by simp,0
   refine zh ?_
   exists 0,a,0,.inr (HX.of h),8
   refine Qp (by rw[Jn (by intro z;injection z with z;omega)];rfl) ?_
   exact q _ (HJ.refl _)
  | @tup a n y c bn bc ty e h hn hy hc=>
   subst e;exists 17,"tuple","tuple",Z,.tup (.inl h),by simp,0
   refine zh ?_
   exists 0,a,0,.inr (HX.of h),8
   refine aB Z ?_
   exists 0,a,0,.tup h,7
   refine#[0,n,bn,Z,hn,λH1 d=>#[0,?_]]
   cases bn with
   |false=>exact zh (q _ d)
   |true=>
    refine zo ?_
    exists 0,y,ty,Z,gu d hy,0
    cases hnum:ip y with
    |false=>
     rw[hnum]at q;exact zh (q _ d)
    |true=>
     rw[hnum]at q;refine zo ?_
     exact#[0,c,bc,Z,hc.same d,λu m=>q _ (d.trans m)]
def tT(a:At K mg "word_of" fP ["count","last","near","far"])(T:MW K mg tk):Df P w K mg base "word_of" ["count","last","near","far"] 1 sV:=by
 refine a.dq vn λf _ A _ s H vs Q E d h=>?_
 .let#[c,l,n,f,rfl,q]:=h
  unfold uu at q;exists _,(qd (qC (qw Z8 (qv 0) (qv 1) (qq _)) (qe (qj qy)) qt)
   (qd (qC (qw Z8 (qv 0) (qr qM (qv 1) (qv 2)) (qq _)) (qe (qj qy)) qt)
   (qd (qC (qw Z8 (qv 0) (qr qM (qv 1) (qv 3)) (qq _)) (qe (qj qy)) qt)
   (qe (qj qy)))))
  exists 35
  refine qZ (λz=>?_) (λz=>?_)
  .rw[Jc (Jz z)]at q;exact q
  .rw[Jb (λy=>z (Jj y))]at q
   exists 21
   refine qZ (λz=>?_) (λz=>?_)
   .rw[Jc (Jz z)]at q;exact q
   .rw[Jb (λy=>z (Jj y))]at q
    exists 21
    refine qZ (λz=>?_) (λz=>?_)
    .rw[Jc (Jz z)]at q;exact q
    .rw[Jb (λy=>z (Jj y))]at q;exact q
def uP(a:At K mg "step_by" f7 ["button","age","count","near","far"])(T:MW K mg tk)(N:Df P w K mg base "word_of" ["count","last","near","far"] 1 sV):Df P w K mg base "step_by" W0 2 jx:=by
 refine a.dq Ni λf _ A _ s H vs Q E L h=>?_
 .let#[a,e,age,c,l,m,rfl,#[v,F,J],q]:=h
  exists _,(qd (q9 (qv 0) (zf Z (qh (qg (i:=5) Ni.nd Z (Pr Z)) (qh (qg (i:=6) Ni.nd Z (Pr Z)) (qh (qg (i:=7) Ni.nd Z (Pr Z)) qK)))))
   (qd (qA (i:=8) Ni.nd Z (Pr Z) (qo N L.mo (qc (qv 2) (qc (qv 6) (qc (qv 3) (qc (qv 4) qa))))))
   (qd (qC (QW.pt (bw (qw zu (qv 8) qy (qq _)) (aQ (qw (y8 L) (qv 7) (qu (qc (qv 1) (qc (qr Qu (qv 2) qf) qa))) (qq _))))) (qe (qA (i:=8) Ni.nd Z (Pr Z) qy)) qt)
   (qd (qC (qw zu (qv 8) qy (qq _)) (qe (qj (qu (qc (qv 8) (qc (qu (qc (qv 1) (qc (qv 2) (qc qP qa)))) qa))))) qt)
   (qd (qC (qw zu (qv 8) qy (qq _)) (qe (qj (qu (qc (qv 8) (qc (qu (qc (qv 5) (qc (qv 6) (qc (qu (qc (qv 1) (qc (qv 2) qa))) qa)))) qa))))) qt)
   (qe (qj (qu (qc (qv 8) (qc (qv 0) qa))))))))))
  exists 0,a,0,.tup F,7
  exists 10,c,e.last,l,m,Z
  unfold zD at q;unfold uu
  by_cases h1:c<=e.last
  .rw[Jc h1]
   rw[Jc h1]at q;exists 3
   refine qZ (λy=>absurd (Jz y) nofun) (λ_=>?_)
   exists 3
   refine qZ (λy=>absurd (Jz y) nofun) (λ_=>?_)
   exists 3
   refine qZ (λy=>absurd (Jz y) nofun) (λ_=>?_)
   refine#[2,Ho,λg d=>?_]
   exact q g a _ (HJ.upd d) qb (Na.same (HJ.upd d) #[v,F,J])
  .rw[Jb h1]
   rw[Jb h1]at q
   by_cases x:c<=e.last+l
   .rw[Jc x]
    rw[Jc x]at q;exists 3
    refine qZ (λy=>absurd (Jz y) nofun) (λ_=>?_)
    exists 3
    refine qZ (λ_=>?_) (λy=>absurd (Jj Z) y)
    refine#[4,Ht,λt n=>#[Ho,λg d=>?_]]
    have p:=HJ.upd (o:= .tup [.int age,.int c,.non]) n
    have j:=HJ.upd (o:= .tup [.str "near",-t]) d
    exact q g t _ (p.trans j) qb #[.non,j _ _ qb,Z]
   .rw[Jb x]
    rw[Jb x]at q
    by_cases r:c<=e.last+m
    .rw[Jc r]
     rw[Jc r]at q;exists 3
     refine qZ (λ_=>?_) (λy=>absurd (Jj Z) y)
     refine#[59,Ho,λM D=>?_]
     have C:=HJ.upd (o:= .tup [.int age,.int (c-1)]) D
     have B:=J.mv (S:=[]) C.mv (λc h=>nomatch h)
     exists e.wt,M,age,c-1,B,Z,.inl qb,0
     by_cases u:e.wt=↑(age,c-1)
     .rw[Jc u]at q
      refine Qp (Jj u) ?_
      exists 3
      refine qZ (λ_=>?_) (λy=>absurd (Jj Z) y)
      refine#[4,Ht,λt n=>#[Ho,λg d=>?_]]
      have p:=HJ.upd (o:= .tup [.int age,.int c,.non]) n
      have j:=HJ.upd (o:= .tup [.str "near",-t]) d
      exact q g t _ ((C.trans p).trans j) qb #[.non,j _ _ qb,Z]
     .rw[Jb u]at q
      refine QC (Jn u) ?_
      exists 3
      refine qZ (λy=>absurd (Jz y) nofun) (λ_=>?_)
      exists 3
      refine qZ (λ_=>?_) (λy=>absurd (Jj Z) y)
      refine#[60,Ho,λG I=>#[Ht,λt n=>#[Ho,λg d=>?_]]]
      have p:=HJ.upd (o:= .tup [.int age,.int c]) I
      have j:=HJ.upd (o:= .tup [.int e.age,.int e.last,-G]) n
      have z:=HJ.upd (o:= .tup [.str "far",-t]) d
      exact q g t _ (((C.trans p).trans j).trans z) qb #[-G,z _ _ qb,G,Z,z _ _ (j _ _ qb)]
    .rw[Jb r]
     rw[Jb r]at q;exists 3
     refine qZ (λy=>absurd (Jz y) nofun) (λ_=>?_)
     exists 3
     refine qZ (λy=>absurd (Jz y) nofun) (λ_=>?_)
     exists 3
     refine qZ (λy=>absurd (Jz y) nofun) (λ_=>?_)
     refine#[2,Ho,λg d=>?_]
     exact q g a _ (HJ.upd d) qb (Na.same (HJ.upd d) #[v,F,J])
def jR(a:Ob K C "__init__" "Door.__init__" Zt ["self","table","keys","near","far","most"])(T:MW K mg tk)(U:ND K C):Mf P w K mg base C "__init__" X1 1 (Ds K C):=by
 refine a.mq cH λf _ A _ s H vs Q E hr h=>?_
 .let#[p,a,b,dx,J,X,L,t,kss,rfl,hp,ha,hb,hl,q]:=h
  exists _,(qd (zW (qv 0) (qI cq T.b_tuple JL (qc (qv 1) qa)))
   (qd (zW (qv 0) (Qa (own:=["key"]) (fr:=[]) (js:=[]) Z (zv (qv 2)) Z (λ_ _ h=>nomatch h) Z (bX Z nofun nofun nofun) (λ_ _ _ _=>qg (i:=0) (show P4 (["key"]:Α)from by decide +kernel) Z (Pr Z) (.inr Z)) (λ_ _ _ _=>(qI cr T.b_tuple JL (qc (qv 0) qa)))))
   (qd (zW (qv 0) (qv 3))
   (qd (zW (qv 0) (qv 4))
   (qd (zW (qv 0) (qv 5))
   (qd (zW (qv 0) qf)
   (qd (zW (qv 0) iu)
   (qe (zW (qv 0) (za qa))))))))))
  refine#[0,a,0,ha,λta H2 O ht=>#[0,p,0,zy U.cl (O _ _ hp) U.n_table 0,?_]]
  have e2:=O _ _ hp;have a4:=(hb.same O).upd (o:= .ins C dx [("table",-ta)]) e2
  let#[as,eb,la,W]:=a4;have a2:=gD (o:= .ins C dx [("table",-ta)]) e2 ht
  refine#[0,b,Z,#[_,HQ.of eb],ZF (K:=K) (xs:=as.map V.ref) (by rw[Je,la,JD];omega) (λi ys n=>HJ (HM H2 p (.ins C dx [("table",-ta)])) n/\∃bs:Η,ys=bs.map V.ref/\bs.length=i/\∀(j:Nat) (x:Δ) (F:Β),bs[j]? =↑x->kss[j]? =↑F->HX [] n x (F.map V.int)) #[HJ.refl _,[],9,λj x F e=>by(cases e)] (λi ys n ⟨u,_⟩=>u.seq (HQ.of eb)) ?_ ?_]
  .rintro i ys n x I a5 ⟨u,bs,rfl,D,B⟩
   rw[Jo]at I;cases ea:as[i]? with
   |none=>rw[ea]at I;cases I
   |some x0=>
    rw[ea]at I
    obtain rfl:V.ref x0=x:=JE I
    have hi:i<kss.length:=by rw[<- la];exact(Jw.mp ea).1
    have a3:=W i x0 kss[i] ea (Jh hi);refine#[0,x0,0,.inr (HJ.sqt u a3).rd,λl H4 s4 a1=>#[u.trans s4,bs++[l],by simp,by simp [D],λj y F v m=>?_]]
    rw[Mn]at v;split at v
    .exact HJ.sqt s4 (B j y F v m)
    .have Y:j-bs.length=0:=by
      cases Y:j-bs.length with
      |zero=>rfl
      |succ k=>rw[Y]at v;cases v
     rw[Y]at v;cases v
     have:j=i:=by omega
     subst this;rw[Jh hi]at m;cases m;exact .inl a1
  .rintro ys n a5 ⟨u,bs,rfl,D,B⟩ hk G
   have R:=HJ.upd (o:= .lst (bs.map V.ref)) G
   have e3:=R _ _ (u _ _ qb);exists 0,p,0,zy U.cl e3 U.n_house_keys 1
   exists 2,p,0,zy U.cl qb U.n_near 2
   exists 2,p,0,zy U.cl qb U.n_far 3
   exists 2,p,0,zy U.cl qb U.n_most 4
   exists 0,p,0,zy U.cl qb U.n_least_age 5
   refineλbd g=>#[0,p,0,zy U.cl (by rw[qp (qm qb g)];exact qb) U.n_buttons 6,?_]
   have r:=qm qb g;refine#[Hh,λlg d=>#[0,p,0,zy U.cl (by rw[qp (qm qb d)];exact qb) U.n_log 7,?_]]
   have N:=qm qb d;have m3:Mv [p] H n:=((O.mv (S:=[p])).trans Mv.upd1).trans u.mv
   have c:hk≠p:=(qm (u _ _ qb) G).symm
   have m4:Mv [p] H (HM n hk (.lst (bs.map V.ref))):=m3.trans R.mv
   have M:∀o1 o2 o3 o4 o5,Mv [p] (HM n hk (.lst (bs.map V.ref))) (HM (HM (HM (HM (HM (HM n hk (.lst (bs.map V.ref))) p o1) p o2) p o3) p o4) p o5):=λo1 o2 o3 o4 o5=>(((Mv.upd1.trans Mv.upd1).trans Mv.upd1).trans Mv.upd1).trans Mv.upd1
   have M6:Mv [p] (HM n hk (.lst (bs.map V.ref))) _:=(((M _ _ _ _ _).trans (HJ.upd g).mv).trans Mv.upd1).trans (HJ.upd (o:= .lst []) d).mv
   have M7:=M6.trans (Mv.upd1 (o:= .ins C dx (dF #[t,kss,J,X,L,(0),[]] ta hk bd lg)))
   have nt:NT [p] (HM n hk (.lst (bs.map V.ref))):=NT.one e3 trivial
   have z:bd≠lg:=qm (by rw[qp r.symm];exact qb) d
   have KR:=MP.mv M7 nt (qQ c) (show MP [] _ hk kss from#[bs,qb,by rw[D,Je,la],λj x F v m=>HJ.sqt R (B j x F v m)])
   refine q ta hk bd lg _ (m3.nfree (qQ c) G) ((m4.trans (M _ _ _ _ _)).nfree (qQ r.symm) g) ((m4.trans ((((M _ _ _ _ _).trans (HJ.upd g).mv).trans Mv.upd1))).nfree (qQ N.symm) d) (m4.trans M7) #[#[dx,qb],?_,MP.up KR,?_,?_,?_] KR
   .exact M7.sqt nt (HJ.sqt R (HJ.sqt u a2))
   .exact#[([],λ_=>0),by rw[qp r.symm,qp z,qp r.symm];exact qb,λe he=>by(cases he),.refl _,LK]
   .exact#[[],by rw[qp N.symm];exact qb,Jf _]
   .refine(qm (o:= .lst (bs.map V.ref)) ?_ d).symm
    rw[qp c];rw[qp (qm (o:= .lst (bs.map V.ref)) (by rw[qp c,qp c,qp c,qp c,qp c];exact qb) g)]
    rw[qp c,qp c,qp c,qp c,qp c];exact qb
def jh(a:Ob K C "is_full" "Door.is_full" ZY ["self"])(T:MW K mg tk)(U:ND K C):Mf P w K mg base C "is_full" W8 1 (sX K C):=by
 refine a.mq jk λf _ A _ s H vs Q E g h=>?_
 .let#[p,ta,hk,bd,lg,n,D,rfl,b,q]:=h
  let#[d,e,_,c,_]:=b.kb;exists _,(qe (qj (ze iX (qk vZ T.b_len J5 (qc (qW (qv 0)) qa)) (qW (qv 0)) (qq _))))
  exists 0,p,0,b.h_buttons U,bd,0,e,0,p,0,b.h_most U,6
  rw[show(bO d.1 d.2).length=D.kn.length from(Je _).trans c.length_eq]
  exact q
def gS(a:Ob K C "button_of" "Door.button_of" Zu ["self","name"])(T:MW K mg tk)(U:ND K C):Mf P w K mg base C "button_of" X6 1 (gG K C):=by
 refine a.mq gN λf _ A _ s H vs Q E m h=>?_
 .let#[p,ta,hk,bd,lg,n,D,nm,rfl,b,l,i]:=h
  exists _,(qe (qj (mF m (qW (qv 0)) (qv 1))))
  let#[o,j,_]:=id b.kb;exists 0,p,0,b.h_buttons U,bd,Z,.inl #[_,.inl j],0
  rcases b.kb.get nm with⟨c,g⟩|⟨e,x,c,g,d⟩
  .exact#[_,g,l c]
  .exact#[_,g,i e x c d]
def gO(a:Ob K C "takes_age" "Door.takes_age" ZA ["self","age"])(T:MW K mg tk)(U:ND K C):Mf P w K mg base C "takes_age" V2 1 (io K C):=by
 refine a.mq gR λf _ A _ s H vs Q E g h=>?_
 .let#[p,ta,hk,bd,lg,n,D,age,rfl,b,q]:=h
  let#[e,d,c,_]:=b.ks;exists _,(qe (qj (iI Z8 bP (qW (qv 0)) (qv 1) (qk qT T.b_len J5 (qc (qW (qv 0)) qa)))))
  unfold Q8 at q;exists 0,p,0,b.h_least_age U,12
  refine qZ (λz=>?_) (λz=>?_)
  .rw[z,Iz]at q
   exists 0,p,0,b.h_house_keys U,hk,0,.inl (HQ.of d),6
   rw[Je,c];exact q
  .rw[Ly.mpr z,Ii]at q
   exact q
def fQ(a:Ob K C "takes_from" "Door.takes_from" Zl ["self","button","age"])(T:MW K mg tk)(U:ND K C)(d:Mf P w K mg base C "takes_age" V2 1 (io K C)):Mf P w K mg base C "takes_from" W1 2 (cx K C):=by
 refine a.mq fT λf _ A _ s H vs Q E g h=>?_
 .let#[p,ta,hk,bd,lg,x,n,D,e,age,rfl,b,#[v,c,i],q]:=h
  exists _,(qe (qj (zF (zb d U.cl g.mo (qv 0) (qc (qv 2) qa)) (QD (ze iX (qv 2) (qx qN (qv 1) qf) (qq _))))))
  unfold qL at q;exists 0,p,Z,b.no,0,p,ta,hk,bd,lg,n,D,age,Z,b,0
  refine qZ (λz=>?_) (λz=>?_)
  .rw[z,Iz]at q
   exact#[2,x,1,HX.of c,25,q]
  .rw[Ly.mpr z,Ii]at q
   exact q
def fG(a:Ob K C "plain_step" "Door.plain_step" QB ["self","button","age","count"])(T:MW K mg tk)(U:ND K C)(j:Mf P w K mg base C "takes_from" W1 2 (cx K C))(l:Df P w K mg base "step_by" W0 2 jx):Mf P w K mg base C "plain_step" X0 3 (tD K C):=by
 refine a.mq aq λf _ A _ s H vs Q E g h=>?_
 .let#[p,ta,hk,bd,lg,x,n,D,e,age,c,rfl,b,d,i,q]:=h
  exists _,(qd (qC (Ql (zk (zb j U.cl g.mo (qv 0) (qc (qv 1) (qc (qv 2) qa))))) (qe (qj (qu (qc qy (qc (qv 1) qa))))) qt)
   (qe (qj (qo l g.mo (qc (qv 1) (qc (qv 2) (qc (qv 3) (qc (qW (qv 0)) (qc (qW (qv 0)) qa)))))))))
  exists 0,p,Z,b.no,2,p,ta,hk,bd,lg,x,n,D,e,age,Z,b,d,0
  rw[i];refine zh ?_
  exact#[10,p,0,b.h_near U,0,p,0,b.h_far U,x,e,age,c,D.near,D.far,Z,d,q]
def gP(a:Ob K C "answer_to" "Door.answer_to" Zy ["self","press"])(T:MW K mg tk)(U:ND K C)(dB:Mf P w K mg base C "button_of" X6 1 (gG K C))(dC:Mf P w K mg base C "takes_from" W1 2 (cx K C))(dD:Mf P w K mg base C "plain_step" X0 3 (tD K C))
  (dR:Df P w K mg base "read_press" V0 3 (pB K)):Mf P w K mg base C "answer_to" ["self","press"] 4 (li K C):=by
 refine a.mq HW λf _ A _ s H vs Q E u h=>?_
 .let#[p,ta,hk,bd,lg,pr,n,D,nm,age,ds,rfl,b,ok,#[pc,hp,X],hn,l5,S,q]:=h
  exists _,(qd (q9 (qv 1) (zf Z (qh (qg (i:=2) HW.nd Z (Pr Z)) (qh (qg (i:=3) HW.nd Z (Pr Z)) (qh (qg (i:=4) HW.nd Z (Pr Z)) qK)))))
   (qd (qA (i:=5) HW.nd Z (Pr Z) (zb dB U.cl u.mo (qv 0) (qc (qv 2) qa)))
   (qd (qC (qw zX (qv 5) qP (qq _)) (qe (qj (qu (qc qy (qc qy qa))))) qt)
   (qd (qC (Ql (zk (zb dC U.cl u.mo (qv 0) (qc (qv 5) (qc (qv 3) qa))))) (qe (qj (qu (qc qy (qc qy qa))))) qt)
   (qd (qA (i:=6) HW.nd Z (Pr Z) (qo dR u.mo (qc (qW (qv 0)) (qc (qx qF (qW (qv 0)) (qv 3)) (qc (qv 1) qa)))))
   (qd (qC (qw zX (qv 6) qP (qq _)) (qe (qj (qu (qc qy (qc qy qa))))) qt)
   (qd (q9 (qv 6) (zf Z (qh (qg (i:=7) HW.nd Z (Pr Z)) (qh (qg (i:=8) HW.nd Z (Pr Z)) qK))))
   (qd (q9 (zb dD U.cl u.mo (qv 0) (qc (qv 5) (qc (qv 3) (qc (qv 7) qa)))) (zf Z (qh (qg (i:=9) HW.nd Z (Pr Z)) (qh (qg (i:=10) HW.nd Z (Pr Z)) qK))))
   (qd (QL u (qW (qv 0)) (qv 2) (qv 10))
   (qd (qC (qw zu (qv 9) qy (qq _)) (qe (qj (qu (qc qy (qc (qv 2) (qc (qv 8) qa)))))) qt)
   (qe (qj (qu (qc qy (qc (qv 9) qa)))))))))))))))
  exists 0,pr,0,.tup hp,7
  refine#[0,p,Z,b.no,0,p,ta,hk,bd,lg,n,D,nm,Z,b,λr=>?_,λe x r Y=>?_]
  .have m:zt D nm age (ZL D.t (QZ D age) nm ds)=([.str "held",.str "unknown"],D.kn):=by unfold zt;rw[r]
   rw[m]at q;exists 3
   refine qZ (λ_=>?_) (λy=>absurd (Jj Z) y)
   refine#[Ho,λo g=>?_]
   exact q o _ (HJ.upd g).mv qb (b.same (HJ.upd g))
  .exists 3
   refine qZ (λy=>nomatch (Jz y)) (λ_=>?_)
   exists 0,p,Z,b.no,2,p,ta,hk,bd,lg,x,n,D,e,age,Z,b,Y,0
   cases ht:qL D e age with
   |false=>
    have m:zt D nm age (ZL D.t (QZ D age) nm ds)=([.str "held",.str "age"],D.kn):=by unfold zt;rw[r];simp only;rw[ht];rfl
    rw[m]at q;refine zo ?_
    refine#[Ho,λo g=>?_]
    exact q o _ (HJ.upd g).mv qb (b.same (HJ.upd g))
   |true=>
    refine zh ?_
    let#[a0,a1]:=ZD ht ok.l0;let#[xs,ak,eh,G,W]:=b.ks.at a0 a1;refine#[0,p,0,b.h_table U,0,p,0,b.h_house_keys U,0,hk,1,HQ.of eh,G,0,ta,ak,pr,pc,nm,age,D.t,QZ D age,ds,Z,.inr b.tb,.inr W,.tup hp,.tup X,hn,ok.tp,l5,S,λy H1 v t=>?_]
    have B:=b.same v;have O:=Y.same v;have j:gl H1 y (ZL D.t (QZ D age) nm ds):=t
    cases er:ZL D.t (QZ D age) nm ds with
    |none=>
     rw[er]at j q;have L:y= .non:=j
     subst L;have m:zt D nm age none=([.str "held",.str "false"],D.kn):=by unfold zt;rw[r];simp only;rw[ht];rfl
     rw[m]at q;exists 3
     refine qZ (λ_=>?_) (λy=>absurd (Jj Z) y)
     refine#[Ho,λo g=>?_]
     exact q o _ (v.trans (HJ.upd g)).mv qb (B.same (HJ.upd g))
    |some cd=>
     let#[c,d]:=cd;rw[er]at j q;let#[pp,L,J]:=j;subst L;exists 3
     refine qZ (λy=>nomatch (Jz y)) (λ_=>?_)
     exists 0,pp,0,.tup J,5
     refine#[0,p,Z,B.no,4,p,ta,hk,bd,lg,x,n,D,e,age,c,Z,B,O,ht,λo a' H2 s2 g N=>#[o,0,.tup g,5,?_]]
     have I:=B.same s2;let#[H3,dp,m3,M]:=I.kb.put nm (by have:=ok.nl;omega) N
     exists 2,p,0,I.h_buttons U,0,bd,H3,Z,dp
     have b3:=I.putK m3 M;have mm:Mv [bd] H H3:=(v.trans s2).mv.trans m3
     exists 3
     by_cases F:(zD D.near D.far e age c).1="near"
     .have m:zt D nm age ↑(c,d)=([.str "open",.str nm,.int d],zr D.kn nm (zD D.near D.far e age c).2):=by unfold zt;rw[r];simp only;rw[Jc ht,Jc F]
      rw[m]at q;refine qZ (λ_=>?_) (λy=>absurd (Jj (by rw[F])) y)
      refine#[2,Ht,λR l=>?_]
      exact q R _ (mm.trans (HJ.upd l).mv) qb (b3.same (HJ.upd l))
     .have m:zt D nm age ↑(c,d)=([.str "held",.str (zD D.near D.far e age c).1],zr D.kn nm (zD D.near D.far e age c).2):=by unfold zt;rw[r];simp only;rw[Jc ht,Jb F]
      rw[m]at q;refine qZ (λy=>absurd (Jz y) (by intro z;injection z with z;exact F z)) (λ_=>?_)
      refine#[0,Ho,λR l=>?_]
      exact q R _ (mm.trans (HJ.upd l).mv) qb (b3.same (HJ.upd l))
def fX(a:Ob K C "read_right" "Door.read_right" Zn ["self","thing"])(T:MW K mg tk)(U:ND K C)(G:Df P w K mg base "is_press" W4 5 cU)(M:Mf P w K mg base C "takes_age" V2 1 (io K C))(O:Df P w K mg base "read_press" V0 3 (pB K)):Mf P w K mg base C "read_right" V4 6 (lH K C):=by
 refine a.mq fN λf _ A _ s H vs Q E u h=>?_
 .let#[p,ta,hk,bd,lg,n,D,x,o,rfl,b,ok,tg,q]:=h
  exists _,(qd (qC (QW.pt (Qc (Ql (zk (qo G u.mo (qc (qv 1) qa)))) (zP (Ql (zk (zb M U.cl u.mo (qv 0) (qc (qx qN (qv 1) qf) qa))))))) (qe (qj qP)) qt)
   (qe (qj (qo O u.mo (qc (qW (qv 0)) (qc (qx qF (qW (qv 0)) (qx qN (qv 1) qf)) (qc (qv 1) qa)))))))
  refine#[0,x,0,tg.b,λH1 i=>#[0,?_]]
  cases o with
  |none=>exact zo (zo (q .non _ i Z))
  |some PP=>
  let#[m,rfl,L,B,v,j]:=tg;have q:∀y H',HJ H H'->gl H' y (fL D PP)->Q y H':=q
  let#[nm,age,ds]:=PP;simp only at B v j
  refine zh ?_
  have d:=b.same i;let#[F,c,e]:=Nb.same i L;exists 0,p,Z,d.no,0,m,1,HX.of c,Z,p,ta,hk,bd,lg,n,D,age,Z,d,0
  unfold fL at q;cases ht:Q8 D age with
  |false=>
   rw[Jb (by rw[ht];intro z;cases z)]at q
   exact zo (q _ _ i Z)
  |true=>
  rw[Jc ht]at q;refine zh ?_
  have r:qL D #[age,(0),none] age=true:=by unfold qL;rw[ht,Jj (GZ _)];rfl
  let#[a0,N]:=ZD r ok.l0;let#[xs,J,S,l,t]:=d.ks.at a0 N
  exact#[0,p,0,d.h_table U,0,p,0,d.h_house_keys U,0,m,1,HX.of c,Z,hk,1,HQ.of S,l,0,ta,J,m,F,nm,age,D.t,QZ D age,ds,Z,.inr d.tb,.inr t,.tup c,.tup e,B,ok.tp,v,j,λy R I g=>q y R (i.trans I) g]
def gT(a:Ob K C "known_now" "Door.known_now" Zv ["self"])(T:MW K mg tk)(U:ND K C):Mf P w K mg base C "known_now" W8 1 (pO K C):=by
 refine a.mq gQ λf _ A _ s H vs Q E hr h=>?_
 .let#[p,ta,hk,bd,lg,n,D,rfl,b,ok,q]:=h
  let#[fn,hd,a6,X,_]:=id b.kb;exists _,(qe (qj (qI zp T.b_tuple JL (qc (Qa (own:=["name"]) (fr:=["self"]) (js:=[0]) Z (zv (qk (mU Z) T.b_sorted Rp (qc (qW (qv 0)) qa))) Z (f6 Z) Z (fR Z nofun nofun nofun Z Z Z) (λ_ _ _ _=>qg (i:=0) (show P4 (["name","self"]:Α)from by decide +kernel) Z (Pr Z) (.inr Z)) (λ_ _ _ _=>(qr Z5 (qu (qc (qv 0) qa)) (zB hr (Dg (K:=K) Z (qv 1)) (qv 0))))) qa))))
  refine#[0,p,0,b.h_buttons U,bd,_,fn.1.map (·.1),Z,hd,Dk _ _,by rw[Je,X.length_eq];have:=ok.nl;omega,λl u hl a4 so=>#[l,Z,#[_,HQ.of qb],?_]]
  have pm:=a4.trans (X.map (·.1))
  have u1:=HJ.upd (o:= .lst (u.map V.str)) hl
  have ls:u.length<=60:=by rw[pm.length_eq,Je];exact ok.nl
  refine ZF (K:=K) (xs:=u.map V.str) (by rw[Je,JD];omega) (λi ys I=>HJ (HM H l (.lst (u.map V.str))) I/\∃d:Η,ys=d.map V.ref/\d.length=i/\∀(j:Nat) (x:Δ) (nm:Str) (e:Kb),d[j]? =↑x->u[j]? =↑nm->D.kn.lookup nm=↑e->∃v,I x=↑(.tup [.str nm,.int e.age,.int e.last,v])/\Wt I v e.wt) #[HJ.refl _,[],9,λj x nm e h=>by(cases h)] (λi ys I ⟨G,_⟩=>G.seq (HQ.of qb)) ?_ ?_
  .rintro i ys I x J a5 ⟨G,d,rfl,r,has⟩
   rw[Jo]at J;cases es:u[i]? with
   |none=>rw[es]at J;cases J
   |some nm=>
    rw[es]at J
    obtain rfl:V.str nm=x:=JE J
    have O:nm∈D.kn.map (·.1):=pm.mem_iff.mp (Ij es)
    let#[e,R]:=ar O;have b3:=b.same (u1.trans G);let#[e',x0,m,g,v0,N,L]:=(b3.kb.get nm).resolve_left (λz=>by rw[R]at z;cases z.1)
    rw[R]at m;cases m;refine#[0,Hl,λt ht=>?_]
    have F:=HJ.upd (o:= .tup [.str nm]) ht
    have b4:=b3.same F;let#[e',x0,m,g,v0,N,L]:=(b4.kb.get nm).resolve_left (λz=>by rw[R]at z;cases z.1)
    rw[R]at m;cases m;refine#[0,p,0,b4.h_buttons U,0,bd,0,g,t,x0,6,qb,N,Hu,λq1 H5 Y B=>?_]
    refine#[(G.trans F).trans Y,d++[q1],by simp,by simp [r],λj y m2 e2 h1 W M=>?_]
    rw[Mn]at h1;split at h1
    .let#[v,a1,a2]:=has j y m2 e2 h1 W M
     exact#[v,Y _ _ (F _ _ a1),a2.mv (S:=[]) (F.trans Y).mv (λc h=>nomatch h)]
    .have hj:j-d.length=0:=by
      cases hj:j-d.length with
      |zero=>rfl
      |succ k=>rw[hj]at h1;cases h1
     rw[hj]at h1;cases h1
     obtain rfl:j=i:=by omega
     rw[es]at W;cases W;rw[R]at M;cases M
     exact#[v0,B,L.mv (S:=[]) Y.mv (λc h=>nomatch h)]
  .rintro ys I a5 ⟨G,d,rfl,r,has⟩ l2 a3
   have F:=HJ.upd (o:= .lst (d.map V.ref)) a3
   refine#[l2,0,.inl #[HQ.of qb,λq1 B=>?_]]
   have u5:=HJ.upd (o:= .tup (d.map V.ref)) B
   have S:=F.trans u5;refine q q1 u _ ((u1.trans G).trans S) pm so #[d,qb,by rw[r,Je],λj x nm e h1 W M=>?_]
   let#[v,a1,a2]:=has j x nm e h1 W M
   exact#[v,S _ _ a1,a2.mv (S:=[]) S.mv (λc h=>nomatch h)]
def nU(a:Ob K C "hear" "Door.hear" cf ["self","thing"])(T:MW K mg tk)(U:ND K C)(X:Df P w K mg base "is_press" W4 5 cU)(xB:Mf P w K mg base C "answer_to" ["self","press"] 4 (li K C)):Mf P w K mg base C "hear" V4 6 (sI K C):=by
 refine a.mq NZ λf _ A _ s H vs Q E S h=>?_
 .let#[#[p,ta,hk,bd,lg],D,L,x,o,rfl,#[b,#[rs,B,R],N],n1,ok,tg,qn,W]:=h
  simp only at b B N W
  exists _,(qd (qC (Ql (zk (qo X S.mo (qc (qv 1) qa)))) (qe (qj (qu (qc qy (qc qy qa))))) qt)
   (qd (qA (i:=2) NZ.nd Z (Pr Z) (zb xB U.cl S.mo (qv 0) (qc (qv 1) qa)))
   (qd (zc (Q1 Il IJ IK zV (qW (qv 0)) (qc (qu (qc qy (qc (qv 1) (qc (qv 2) qa)))) qa)))
   (qe (qj (qv 2))))))
  refine#[0,x,0,tg.b,λH1 j=>#[0,?_]]
  cases o with
  |none=>exact zo #[Ho,λq hq=>qn Z q _ (j.trans (HJ.upd hq)) qb]
  |some PP=>
  let#[v,rfl,O,e]:=tg;have q:=W PP Z;refine zh ?_
  have y:=b.same j;let#[f0,J,_]:=id y.kb;have l:NT [bd] H1:=NT.one J trivial
  refine#[0,p,Z,y.no,0,p,ta,hk,bd,lg,v,L.length,D,PP.nm,PP.age,PP.ds,Z,y,ok,Nb.same j O,e.nm,e.l,e.dg,λF H2 m u M=>?_]
  have g:=m _ _ (qQ (zO (j _ _ B) J (by intro z;cases z))) (j _ _ B)
  have I:=(R.same j).mv m l;refine#[0,p,0,M.h_log U,.inl #[43,HQ.of g],2,Ht,λr G=>?_]
  have d:=HJ.upd (o:= .tup [.str "hear",-v,-F]) G
  have Y:=M.same d;have n:=Nb.same d (Nb.mv m l (Nb.same j O));have t:NT [lg] _:=NT.one (d _ _ g) trivial
  refine#[lg,6,d _ _ g,by rw[Je,R.1,JD];omega,#[0,?_]]
  exact q v F _ Z (((j.mv.trans (m.mono (λc h z=>h (by rw[Ji.mp z];exact Jr ..)))).trans d.mv).trans (Mv.upd1.mono (λc h z=>h (by rw[Ji.mp z];exact Jv _ (Jr ..))))) (Nb.mv Mv.upd1 t n) (Mv.upd1.tup t (d _ _ u)) (M8.push (a:=#[p,ta,hk,bd,lg]) Y (d _ _ g) (I.same d) ((MP.mv m l (qQ (tZ J y)) (MP.same j N)).same d) #[v,F,.inl qb,n,e,d _ _ u,yZ D PP,Ap D PP])
def fv(a:Ob K C "close_below" "Door.close_below" Za ["self","age"])(T:MW K mg tk)(U:ND K C):Mf P w K mg base C "close_below" V2 1 (pF K C):=by
 refine a.mq ft λf _ A _ s H vs Q E B h=>?_
 .let#[#[p,ta,hk,bd,lg],D,L,age,rfl,#[b,#[rs,g,u],n],n1,q]:=h
  simp only at b g n q
  exists _,(qd (zW (qv 0) (qk (bJ Z) T.b_max Mp (qc (qW (qv 0)) (qc (qv 1) qa))))
   (qe (zc (Q1 Il IJ IK zV (qW (qv 0)) (qc (qu (qc qy (qc (qv 1) qa))) qa)))))
  have q:=q _ _ Z;let#[z,t]:∃z:Int,z=if age>D.least then age else D.least:=#[0]
  rw[<- t]at q;let#[v,ep]:=id b.ob;let#[dx,x,m,l]:=b.putLeast U z;have d:=m _ _ (qQ (zO g ep (by intro z;cases z))) g
  have j:=u.mv m (NT.one ep trivial);exists 0,p,0,b.h_least_age U,48,p,0,by rw[<- t];exact x
  refine#[0,p,0,l.h_log U,.inl #[43,HQ.of d],0,Ho,λr i=>?_]
  have e:=HJ.upd (o:= .tup [.str "close",.int age]) i
  have y:=l.same e;exists lg,6,e _ _ d,by rw[Je,u.1,JD];omega
  exact q _ (((m.mono (λc h z=>h (by rw[Ji.mp z];exact Jr ..))).trans e.mv).trans (Mv.upd1.mono (λc h z=>h (by rw[Ji.mp z];exact Jv _ (Jr ..))))) (M8.push (a:=#[p,ta,hk,bd,lg]) y (e _ _ d) (j.same e) ((MP.mv m (NT.one ep trivial) (qQ (Et ep b)) n).same e) (show Oj _ r (.close age)from .inl qb))
def ma(a:Ob K C "learn" "Door.learn" aX ["self","one","other"])(T:MW K mg tk)(U:ND K C)(dQ:Mf P w K mg base C "read_right" V4 6 (lH K C))(xL:Mf P w K mg base C "is_full" W8 1 (sX K C)):Mf P w K mg base C "learn" ["self","one","other"] 7 (kC K C):=by
 refine a.mq MR λf _ A _ s H vs Q E G h=>?_
 .let#[#[p,ta,hk,bd,lg],D,L,I,p2,#[nm,age,b0],#[j,d,b8],c,d1,d2,rfl,#[b,#[rs,el,ro],kr],n1,ok,n,u,X,R,r1,r2,en,ea,N,b3,q]:=h
  simp only at b el kr q en ea N
  subst en;subst ea
  exists _,(qd (qA (i:=3) MR.nd Z (Pr Z) (zb dQ U.cl G.mo (qv 0) (qc (qv 1) qa)))
   (qd (qC (qw zX (qv 3) qP (qq _)) Qg qt)
   (qd (qA (i:=4) MR.nd Z (Pr Z) (zb dQ U.cl G.mo (qv 0) (qc (qv 2) qa)))
   (qd (qC (QW.pt (Qc (qw zX (qv 4) qP (qq _)) (Qc (qw (Fx G) (QN cM (qv 2) Zg (Zh qf)) (QN cM (qv 1) Zg (Zh qf)) (qq _)) (zP (qw Z9 (qx qN (qv 4) qf) (qr qM (qx qN (qv 3) qf) qf) (qq _)))))) Qg qt)
   (qd (q9 (qv 1) (zf Z (qh (qg (i:=5) MR.nd Z (Pr Z)) (qh (qg (i:=6) MR.nd Z (Pr Z)) (qh (qg (i:=7) MR.nd Z (Pr Z)) qK)))))
   (qd (qC (ou G (qv 5) (qW (qv 0))) Qg qt)
   (qd (qC (zk (Zw xL U.cl G.mo (qv 0))) Qg qt)
   (qd (QL G (qW (qv 0)) (qv 5) (qu (qc (qv 6) (qc (qx qN (qv 4) qf) (qc qP qa)))))
   (qe (zc (Q1 Il IJ IK zV (qW (qv 0)) (qc (qu (qc qy (qc (qv 1) (qc (qv 2) qa)))) qa))))))))))))
  refine#[0,p,Z,b.no,0,p,ta,hk,bd,lg,L.length,D,-I,↑_,Z,b,ok,#[I,Z,n,X],λy1 H1 S t1=>?_]
  have t1:gl H1 y1 (fL D _):=t1
  rw[r1]at t1;let#[f1,rfl,a5]:=t1;refine#[3,qZ (λy=>nomatch (Jz y)) (λ_=>?_)]
  have b1:=b.same S;refine#[0,p,Z,b1.no,0,p,ta,hk,bd,lg,L.length,D,-p2,↑_,Z,b1,ok,#[p2,Z,Nb.same S u,R],λy2 H2 J t2=>?_]
  have t2:gl H2 y2 (fL D _):=t2
  rw[r2]at t2;let#[f2,rfl,O]:=t2;have b2:=b1.same J;have a1:=Nb.same (S.trans J) n;have Y:=Nb.same (S.trans J) u;let#[c1,e1,_]:=id a1;let#[c2,e2,_]:=id Y;simp only at e1 e2
  exists 3
  refine qZ (λy=>nomatch (Jz y)) (λ_=>?_)
  refine#[2,p2,0,e2,λt3 H3 s3 h3 _=>#[2,I,0,s3 _ _ e1,λt4 H4 s4 h4 _=>?_]]
  have a7:H4 t3=↑(.tup [.str j,.int d]):=s4 _ _ h3
  have a4:H4 t4=↑(.tup [.str j,.int d]):=h4
  have F:=(s3.trans s4);have SS:=(S.trans J).trans F;refine#[(1),⋯,OI.pair a7 a4,0,zh ?_]
  exists 0,f2,1,HX.of (F _ _ O),8,f1,1,HX.of (F _ _ (J _ _ a5)),65
  refine aB Z ?_
  have M:=b2.same F;exists 0,I,0,.tup (F _ _ e1),7
  have g4:NB H4 bd (.str j) none:=by
   rcases M.kb.get j with⟨_,g⟩|⟨e,x,e5,_⟩
   .exact g
   .rw[N]at e5;cases e5
  exists 2,p,0,M.h_buttons U,bd,0,g4,0
  refine zh ?_
  exists 0,p,Z,M.no,p,ta,hk,bd,lg,L.length,D,Z,M,0
  refine qZ (λy=>absurd (Jz y) (by omega)) (λ_=>?_)
  refine#[2,f2,1,HX.of (F _ _ O),Z,Ht,λt5 a3=>?_]
  have u5:=HJ.upd (o:= .tup [.int d,.int (c+1),.non]) a3
  have W:=M.same u5;let#[f0,hd,_]:=id W.kb;have t:=SS.trans u5;let#[H6,dp,B,a8]:=W.kb.put j (a:=t5) (e:=#[d,c+1,none]) (by have:=ok.nl;omega) #[.non,qb,Z]
  exists 0,p,0,W.h_buttons U,0,bd,H6,Z,dp
  have b6:=W.putK B a8;have v:=B _ _ (qQ (zO (t _ _ el) hd (by intro z;cases z))) (t _ _ el)
  have l:NT [bd] _:=NT.one hd trivial
  have a2:=(ro.same t).mv B l;refine#[0,p,0,b6.h_log U,.inl #[43,HQ.of v],2,Ht,λr a6=>?_]
  have m:=HJ.upd (o:= .tup [.str "learn",-I,-p2]) a6
  have b7:=b6.same m;exists lg,6,m _ _ v,by rw[Je,ro.1,JD];omega
  exact q _ (((t.mv.trans (B.mono (λc h z=>h (by rw[Ji.mp z];exact Jr ..)))).trans m.mv).trans (Mv.upd1.mono (λc h z=>h (by rw[Ji.mp z];exact Jv _ (Jr ..))))) (M8.push (a:=#[p,ta,hk,bd,lg]) b7 (m _ _ v) (a2.same m) ((MP.mv B l (qQ (tZ hd W)) (MP.same t kr)).same m) #[I,p2,.inl qb,Nb.same m (Nb.mv B l (Nb.same t n)),Nb.same m (Nb.mv B l (Nb.same t u)),X,R])
def ju(a:Ob K C "forget" "Door.forget" ay ["self","name"])(T:MW K mg tk)(U:ND K C):Mf P w K mg base C "forget" X6 1 (iM K C):=by
 refine a.mq jD λf _ A _ s H vs Q E R h=>?_
 .let#[#[p,ta,hk,bd,lg],D,L,nm,rfl,#[b,#[rs,u,J],G],n1,n,q]:=h
  simp only at b u G q
  exists _,(qd (qC (kh R (qv 1) (qW (qv 0))) Qg qt)
   (qd (zc (nh (qW (qv 0)) (qv 1)))
   (qe (zc (Q1 Il IJ IK zV (qW (qv 0)) (qc (qu (qc qy (qc (qv 1) qa))) qa))))))
  let#[e,Y,M,g,X]:=(b.kb.get nm).resolve_left (λz=>n z.1)
  have q:=q _ _ (Jb (by rw[M];intro z;cases z))
  refine#[2,p,0,b.h_buttons U,bd,0,g,0,zh ?_]
  let#[t,l,W,B,S]:=id b.kb;let#[kvs,i,v]:=b.kb.drop nm;have y:kvs=bO t.1 t.2:=by rw[l]at i;injection i with z;injection z with z;exact z.symm
  have N:QY kvs (Pt nm:qJ)=↑(.ref (t.2 nm)):=by rw[y,gs,bU B S,M];rfl
  exists 0,p,0,b.h_buttons U,bd,Z,.inl #[_,.inl l],0,kvs,.inr nm,_,i,Z,N
  have I:=b.putK Mv.upd1 v;have F:Mv [bd] H (HM H bd (.dK (aI kvs (Pt nm)))):=Mv.upd1
  have d:=F _ _ (qQ (zO u l (by intro z;cases z))) u
  have m:=J.mv F (NT.one l trivial);refine#[0,p,0,I.h_log U,.inl #[43,HQ.of d],0,Ho,λr x=>?_]
  have j:=HJ.upd (o:= .tup [.str "forget",.str nm]) x
  have O:=I.same j;exists lg,6,j _ _ d,by rw[Je,J.1,JD];omega
  exact q _ (((Mv.upd1.mono (λc h z=>h (by rw[Ji.mp z];exact Jr ..))).trans j.mv).trans (Mv.upd1.mono (λc h z=>h (by rw[Ji.mp z];exact Jv _ (Jr ..))))) (M8.push (a:=#[p,ta,hk,bd,lg]) O (j _ _ d) (m.same j) ((MP.mv F (NT.one l trivial) (qQ (tZ l b)) G).same j) (show Oj _ r (.forget nm)from .inl qb))
def iq(a:Ob K C "turn_key" "Door.turn_key" ZU ["self","key"])(T:MW K mg tk)(U:ND K C):Mf P w K mg base C "turn_key" ["self","key"] 1 (mV K C):=by
 refine a.mq NJ λf _ A _ s H vs Q E hr h=>?_
 .let#[#[p,ta,hk,bd,lg],D,L,kt,ks,rfl,#[b,#[rs,el,ro],kr],n1,k7,y,I,q]:=h
  simp only at b el kr q
  exists _,(qd (qC (qw iX (qk qT T.b_len J5 (qc (qW (qv 0)) qa)) (zm (v:= .int 8) Z T.g_AGES #[0]) (qq _)) Qg qt)
   (qd (qA (i:=2) NJ.nd Z (Pr Z) (qI cr T.b_tuple JL (qc (qv 1) qa)))
   (qd (zc (Q1 Il IJ IK zV (qW (qv 0)) (qc (qv 2) qa)))
   (qe (zc (Q1 Il IJ IK zV (qW (qv 0)) (qc (qu (qc qy (qc (qv 2) qa))) qa)))))))
  let#[F,d,u,m]:=id b.ks;exists 0,p,0,b.h_house_keys U,hk,0,.inl (HQ.of d),14
  rw[Je,u];have q:=q _ _ (Jc k7);refine QC (Jn (by omega)) ?_
  refine#[0,kt,ks,Z,y,λt H2 l G=>?_]
  have x:=b.same l;let#[F,d,u,m]:=id x.ks;have W:lg≠hk:=b.ne
  exists 0,p,0,x.h_house_keys U,.inl #[43,HQ.of d],0,hk,6,d,by rw[Je,u,JD];omega
  have Y:=x.putH Mv.upd1 (ye d u m (.inl G));let#[B,g,M,n]:=MP.same l kr
  obtain rfl:F=B:=by rw[d]at g;injection g with z;injection z with z;exact(List.map_inj_right (λ_ _ h=>by injection h)).mp z
  have J:=ye g M n (.inl G);have R:Mv [hk] H2 (HM H2 hk (.lst (F.map V.ref++[-t]))):=Mv.upd1
  have j:=R _ _ (qQ W) (l _ _ el);have X:=(ro.same l).mv R (NT.one d trivial);have N:=R.rd (NT.one d trivial) G;refine#[0,p,0,Y.h_log U,.inl #[43,HQ.of j],0,Ho,λr O=>?_]
  have e:=HJ.upd (o:= .tup [.str "turn",-t]) O
  have b7:=Y.same e;exists lg,6,e _ _ j,by rw[Je,ro.1,JD];omega
  exact q _ (((l.mv.trans (Mv.upd1.mono (λc h z=>h (by rw[Ji.mp z];exact Jr ..)))).trans e.mv).trans (Mv.upd1.mono (λc h z=>h (by rw[Ji.mp z];exact Jv _ (Jr ..))))) (M8.push (a:=#[p,ta,hk,bd,lg]) b7 (e _ _ j) (X.same e) (J.same e) #[t,.inl qb,e.mv.rd (S:=[]) fk N,I])
def jb(a:Ob K C "__init__" "Door.__init__" Zt ["self","table","keys","near","far","most"])(T:MW K mg tk)(U:ND K C):Mf P w K mg base C "__init__" X1 1 (mI K C):=by
 refine a.mq cH λf _ A _ s H vs Q E hr h=>?_
 .let#[p,a,b,dx,J,X,L,t,kss,rfl,hp,ha,hb,hl,q]:=h
  exists _,(qd (zW (qv 0) (qI cq T.b_tuple JL (qc (qv 1) qa)))
   (qd (zW (qv 0) (Qa (own:=["key"]) (fr:=[]) (js:=[]) Z (ao (qv 2)) Z (λ_ _ h=>nomatch h) Z (bX Z nofun nofun nofun) (λ_ _ _ _=>qg (i:=0) (show P4 (["key"]:Α)from by decide +kernel) Z (Pr Z) (.inr Z)) (λ_ _ _ _=>(qI cr T.b_tuple JL (qc (qv 0) qa)))))
   (qd (zW (qv 0) (qv 3))
   (qd (zW (qv 0) (qv 4))
   (qd (zW (qv 0) (qv 5))
   (qd (zW (qv 0) qf)
   (qd (zW (qv 0) iu)
   (qe (zW (qv 0) (za qa))))))))))
  refine#[0,a,0,ha,λta H2 O ht=>#[0,p,0,zy U.cl (O _ _ hp) U.n_table 0,?_]]
  have e2:=O _ _ hp;have a4:=(hb.same O).upd (o:= .ins C dx [("table",-ta)]) e2
  let#[as,eb,la,W]:=a4;have a2:=gD (o:= .ins C dx [("table",-ta)]) e2 ht
  refine#[0,b,Z,#[_,eb.up],bA (K:=K) (xs:=as.map V.ref) (by rw[Je,la,JD];omega) (λi ys n=>HJ (HM H2 p (.ins C dx [("table",-ta)])) n/\∃bs:Η,ys=bs.map V.ref/\bs.length=i/\∀(j:Nat) (x:Δ) (F:Β),bs[j]? =↑x->kss[j]? =↑F->HX [] n x (F.map V.int)) #[HJ.refl _,[],9,λj x F e=>by(cases e)] (λi ys n ⟨u,_⟩=>(HJ.sqt u eb).up) ?_ ?_]
  .rintro i ys n x I a5 ⟨u,bs,rfl,D,B⟩
   rw[Jo]at I;cases ea:as[i]? with
   |none=>rw[ea]at I;cases I
   |some x0=>
    rw[ea]at I
    obtain rfl:V.ref x0=x:=JE I
    have hi:i<kss.length:=by rw[<- la];exact(Jw.mp ea).1
    have a3:=W i x0 kss[i] ea (Jh hi);refine#[0,x0,0,.inr (HJ.sqt u a3).rd,λl H4 s4 a1=>#[u.trans s4,bs++[l],by simp,by simp [D],λj y F v m=>?_]]
    rw[Mn]at v;split at v
    .exact HJ.sqt s4 (B j y F v m)
    .have Y:j-bs.length=0:=by
      cases Y:j-bs.length with
      |zero=>rfl
      |succ k=>rw[Y]at v;cases v
     rw[Y]at v;cases v
     have:j=i:=by omega
     subst this;rw[Jh hi]at m;cases m;exact .inl a1
  .rintro ys n a5 ⟨u,bs,rfl,D,B⟩ hk G
   have R:=HJ.upd (o:= .lst (bs.map V.ref)) G
   have e3:=R _ _ (u _ _ qb);exists 0,p,0,zy U.cl e3 U.n_house_keys 1
   exists 2,p,0,zy U.cl qb U.n_near 2
   exists 2,p,0,zy U.cl qb U.n_far 3
   exists 2,p,0,zy U.cl qb U.n_most 4
   exists 0,p,0,zy U.cl qb U.n_least_age 5
   refineλbd g=>#[0,p,0,zy U.cl (by rw[qp (qm qb g)];exact qb) U.n_buttons 6,?_]
   have r:=qm qb g;refine#[Hh,λlg d=>#[0,p,0,zy U.cl (by rw[qp (qm qb d)];exact qb) U.n_log 7,?_]]
   have N:=qm qb d;have m3:Mv [p] H n:=((O.mv (S:=[p])).trans Mv.upd1).trans u.mv
   have c:hk≠p:=(qm (u _ _ qb) G).symm
   have m4:Mv [p] H (HM n hk (.lst (bs.map V.ref))):=m3.trans R.mv
   have M:∀o1 o2 o3 o4 o5,Mv [p] (HM n hk (.lst (bs.map V.ref))) (HM (HM (HM (HM (HM (HM n hk (.lst (bs.map V.ref))) p o1) p o2) p o3) p o4) p o5):=λo1 o2 o3 o4 o5=>(((Mv.upd1.trans Mv.upd1).trans Mv.upd1).trans Mv.upd1).trans Mv.upd1
   have M6:Mv [p] (HM n hk (.lst (bs.map V.ref))) _:=(((M _ _ _ _ _).trans (HJ.upd g).mv).trans Mv.upd1).trans (HJ.upd (o:= .lst []) d).mv
   have M7:=M6.trans (Mv.upd1 (o:= .ins C dx (dF #[t,kss,J,X,L,(0),[]] ta hk bd lg)))
   have nt:NT [p] (HM n hk (.lst (bs.map V.ref))):=NT.one e3 trivial
   have z:bd≠lg:=qm (by rw[qp r.symm];exact qb) d
   have KR:=MP.mv M7 nt (qQ c) (show MP [] _ hk kss from#[bs,qb,by rw[D,Je,la],λj x F v m=>HJ.sqt R (B j x F v m)])
   refine q ta hk bd lg _ (m3.nfree (qQ c) G) ((m4.trans (M _ _ _ _ _)).nfree (qQ r.symm) g) ((m4.trans ((((M _ _ _ _ _).trans (HJ.upd g).mv).trans Mv.upd1))).nfree (qQ N.symm) d) (m4.trans M7) #[#[dx,qb],?_,MP.up KR,?_,?_,?_] KR
   .exact M7.sqt nt (HJ.sqt R (HJ.sqt u a2))
   .exact#[([],λ_=>0),by rw[qp r.symm,qp z,qp r.symm];exact qb,λe he=>by(cases he),.refl _,LK]
   .exact#[[],by rw[qp N.symm];exact qb,Jf _]
   .refine(qm (o:= .lst (bs.map V.ref)) ?_ d).symm
    rw[qp c];rw[qp (qm (o:= .lst (bs.map V.ref)) (by rw[qp c,qp c,qp c,qp c,qp c];exact qb) g)]
    rw[qp c,qp c,qp c,qp c,qp c];exact qb
def fA(a:Ob K C "bounds_told" "Door.bounds_told" Q4 ["self"])(T:MW K mg tk)(U:ND K C):Mf P w K mg base C "bounds_told" W8 1 (gr K C):=by
 refine a.mq fu λf _ A _ s H vs Q E d h=>?_
 .let#[p,ta,hk,bd,lg,n,D,rfl,b,q]:=h
  exists _,(qe (qj (qu (qc (qW (qv 0)) (qc (qW (qv 0)) (qc (qW (qv 0)) qa))))))
  exact#[0,p,0,b.h_near U,0,p,0,b.h_far U,0,p,0,b.h_most U,Ht,λt c=>q t _ (HJ.upd c) qb]
def ia(a:Ob K C "keys_now" "Door.keys_now" ZT ["self"])(T:MW K mg tk)(U:ND K C):Mf P w K mg base C "keys_now" W8 1 (sH K C):=by
 refine a.mq iw λf _ A _ s H vs Q E v h=>?_
 .let#[p,ta,hk,bd,lg,n,D,rfl,b,q]:=h
  exists _,(qe (qj (qI cq T.b_tuple JL (qc (qW (qv 0)) qa))))
  let#[e,r,j,c]:=id b.ks;refine#[0,p,0,b.h_house_keys U,hk,0,.inl (HQ.of r),λt o d g=>?_]
  exact q t e o d g j λi a u m l=>HJ.sqt d (c i a u m l)
def fM(a:Ob K C "closed_now" "Door.closed_now" Zj ["self"])(T:MW K mg tk)(U:ND K C):Mf P w K mg base C "closed_now" W8 1 (kD K C):=by
 refine a.mq gi λf _ A _ s H vs Q E c h=>?_
 .let#[p,ta,hk,bd,lg,n,D,rfl,b,q]:=h
  exists _,(qe (qj (qW (qv 0))))
  exact#[0,p,0,b.h_least_age U,q]
def pV(a:At K mg "_law_take" eW ["_law_box_here","_law_many"])(T:MW K mg tk):Df P w K mg base "_law_take" q0 1 Zf:=by
 refine a.dq Nu λf _ A _ s H vs Q E C h=>?_
 .let#[b,l,c,rfl,#[n,m,k,g,t,u,v,B],p,j,h1,q]:=h
  exists _,(qd (qC (qw B9 (qx qF (qv 0) qf) qf (qq _)) (qd (qA (i:=2) Nu.nd Z (Pr Z) (qr Qy (qx qF (qv 0) qf) (qv 1)))
   (qd (q9 (qr cJ (qx qF (qv 0) qf) (qv 1)) (aZ (qv 0) qf Zd))
   (qe (qj (qv 2))))) qt)
   (qd (q9 (qr qM (qx qF (qv 0) qf) qf) (aZ (qv 0) qf Zd))
   (qd (qA (i:=3) Nu.nd Z (Pr Z) (qr qM (qx qF (qv 0) qf) (qr ZI qf (qx qF (qv 0) qf))))
   (qd (zg JJ Z (zM Z T.b_range (qc qf qa)) (qg (i:=4) Nu.nd Z (Pr Z))
   (qe (qA (i:=3) Nu.nd Z (Pr Z) (qr Qy (qr qM (qr qM (qr ZI (qv 3) (qv 3)) (qr ZI qf (qx qF (qv 0) qf))) qf) qf))))
   (qe (qj (qr Qy (qr cJ (qv 3) qf) (qv 1))))))))
  exists 0,b,1,HQ.of g,49
  refine qZ (λ_=>?_) (λ_=>?_)
  .exists 0,b,1,HQ.of g,50,j
   exists 0,b,1,HQ.of g,50,#[j,h1],0,b,15,(0),9,g,Z
   exists 0
   refine q _ _ (La _ (by omega)) (Lc _ j) #[λc o p e=>?_,39,qb,t,u,v,by omega]
   rw[qp p];exact e
  .exists 0,b,1,HQ.of g,49,b,15,(2),9,g,Z
   have d:(HM H b (ui n m (k+1))) b=↑(ui n m (k+1)):=qb
   exists 0,b,1,HQ.of d,8,b,1,HQ.of d,25,.inl #[⋯,⋯],6
   refine#[(3),Z,⋯,⋯,Qx (n:=3) (Pv:=λi σ r=>r=HM H b (ui n m (k+1))/\∃(z:Int) (o:Μ),σ=[↑(-b),↑(.int l),none,↑(.int z),o]/\0<=z/\z<2 ^ 64) #[31,by omega,by omega] ?_ ?_]
   .rintro i σ r hi ⟨rfl,z,o,rfl,y,x⟩
    exists 16,.inl #[by omega,by omega],0,b,1,HQ.of d,25,.inl #[⋯,⋯],52,(by decide:(0:Int)<2305843009213693951),31,?_
    .exact La _ ⋯
    .exact K7 (Lc _ ⋯) ⋯
   .rintro σ r ⟨rfl,z,o,rfl,y,x⟩
    exists 11,#[⋯,⋯],11,j
    refine q _ _ (La _ (by omega)) (Lc _ j) #[λc o p e=>?_,39,qb,t,u,by omega,by omega]
    rw[qp p];exact e
def uV(a:At K mg "_law_box" gh ["_law_script","_law_k"])(T:MW K mg tk):Df P w K mg base "_law_box" ["_law_script","_law_k"] 1 (wL K):=by
 refine a.dq Nl λf _ A _ s H vs Q E G h=>?_
 .let#[b,c,k,rfl,n,q]:=h
  exists _,(qd (q9 (qu (qc qf (qc qf qa))) (cN Z (qh (qg (i:=2) Nl.nd Z (Pr Z)) (qh (qg (i:=3) Nl.nd Z (Pr Z)) qK))))
   (qd (qC (qw bP (qv 1) (qk qT T.b_len J5 (qc (qv 0) qa)) (qq _)) (qe (qA (i:=2) Nl.nd Z (Pr Z) (qx qF (qv 0) (qv 1)))) qt)
   (qd (zg JJ Z (zv (QN gx (qv 0) Zg (Zh qf))) (qg (i:=4) Nl.nd Z (Pr Z))
   (qe (qA (i:=3) Nl.nd Z (Pr Z) (qr Qy (qr qM (qr ZI (qv 3) qf) (qv 4)) qf))))
   (qe (qj (za (qc (qr ZI (qk oI T.b_abs PyProof.Rows.boot_abs (qc (qv 2) qa)) (qI wF T.b_int Lk (qc (ze iX (qk oI T.b_abs PyProof.Rows.boot_abs (qc (qv 2) qa)) (qr D8 qf qf) (qq _)) qa))) (qc (qr Qy (qr qM (qr qM (qr ZI (qv 3) qf) (qv 2)) (qr ZI qf (qv 1))) qf) (qc qf qa)))))))))
  refine#[Ho,λt v=>#[t,0,HX.of qb,5,?_]]
  have g:=HJ.upd (o:= .tup [.int 0,.int 7]) v
  exists 2,b,0,.inl (g.seq n),14
  refine qZ (λhk=>?_) (λ_=>?_)
  .have B:k<c.length:=by have:=Jz hk;rw[Je]at this;omega
   exists 2,b,15,.int c[k],9,g.seq n,Qs (by rw[Jo,Jh B];rfl)
   refine#[2,b,0,g.seq n,λl D=>#[l,Z,#[_,HQ.of qb],?_]]
   rw[a9];have m:=g.trans (HJ.upd (o:= .lst ((ZS c none ↑63).map V.int)) D)
   refine zQ (K:=K) (a:=l) (xs:=(ZS c none ↑63).map V.int) (λi σ d=>d=HM (HM H t (.tup [.int 0,.int 7])) l (.lst ((ZS c none ↑63).map V.int))/\∃(z:Int) (o:Μ),σ=[↑(-b),↑(.int (k:Int)),↑(.int c[k]),↑(.int z),o]/\0<=z/\z<2147483647) #[31,⋯,⋯] (λi σ d _ ⟨e,_⟩=>by subst e;exact HQ.of qb) ?_ ?_
   .rintro i x σ d r ⟨rfl,z,o,rfl,C,u⟩
    let#[y,rfl,F]:=Zb r;refine#[11,.inr #[⋯,⋯],36,(by decide:(0:Int)<2147483647),31,La _ ⋯,Lc _ ⋯]
   .rintro σ d ⟨rfl,z,o,rfl,C,u⟩
    refine#[26,#[⋯,⋯,⋯],6,.inr #[0,?_]]
    exists 6,.inr #[yr _,yf _],11,.inr #[⋯,⋯],27,.inl #[⋯,⋯],44,(by decide:(0:Int)<2305843009213693951)
    exact#[Ht,λp j=>q _ _ (QR j m) (m.trans (HJ.upd j)) #[39,qb,La _ ⋯,K7 (Lc _ ⋯) ⋯,⋯,⋯]]
  .refine#[2,b,0,g.seq n,λl D=>#[l,Z,#[_,HQ.of qb],?_]]
   rw[a9];have m:=g.trans (HJ.upd (o:= .lst ((ZS c none ↑63).map V.int)) D)
   refine zQ (K:=K) (a:=l) (xs:=(ZS c none ↑63).map V.int) (λi σ d=>d=HM (HM H t (.tup [.int 0,.int 7])) l (.lst ((ZS c none ↑63).map V.int))/\∃(z:Int) (o:Μ),σ=[↑(-b),↑(.int (k:Int)),↑(.int 0),↑(.int z),o]/\0<=z/\z<2147483647) #[31,⋯,⋯] (λi σ d _ ⟨e,_⟩=>by subst e;exact HQ.of qb) ?_ ?_
   .rintro i x σ d r ⟨rfl,z,o,rfl,C,u⟩
    let#[y,rfl,F]:=Zb r;refine#[11,.inr #[⋯,⋯],36,(by decide:(0:Int)<2147483647),31,La _ ⋯,Lc _ ⋯]
   .rintro σ d ⟨rfl,z,o,rfl,C,u⟩
    refine#[26,#[⋯,⋯,⋯],6,.inr #[0,?_]]
    exists 6,.inr #[yr _,yf _],11,.inr #[⋯,⋯],27,.inl #[⋯,⋯],44,(by decide:(0:Int)<2305843009213693951)
    exact#[Ht,λp j=>q _ _ (QR j m) (m.trans (HJ.upd j)) #[39,qb,La _ ⋯,K7 (Lc _ ⋯) ⋯,⋯,⋯]]
def mK(a:At K mg "_law_table" ca ["_law_box_here"])(T:MW K mg tk)(S:Df P w K mg base "_law_take" q0 1 Zf):Df P w K mg base "_law_table" X4 2 oK:=by
 refine a.dq N1 λf _ A _ s H vs Q E Y h=>?_
 .let#[b,c,rfl,F,hc,q]:=h
  exists _,(qd (qA (i:=1) N1.nd Z (SV Z) (qI (uY Z) T.b_list Ig (qc (qI ku T.b_range SD (qc qf qa)) qa)))
   (qe (qj (qI zp T.b_tuple JL (qc (Qa (own:=["_law_k"]) (fr:=["_law_rest","_law_box_here"]) (js:=[1,0]) Z (zM Z T.b_range (qc qf qa)) Z (FG Z Z) Z (Fw Z nofun nofun nofun Z Z Z Z Z Z) (λ_ _ _ _=>qg (i:=0) (show P4 (["_law_k","_law_rest","_law_box_here"]:Α)from by decide +kernel) Z (Pr Z) (.inr Z)) (λ_ _ _ _=>(Fz (K:=K) Z Il PySem.F.slot_list_pop PySem.F.type_list_pop AT (qv 1) (qc (qo S Y.mo (qc (qv 2) (qc (qk (mf (K:=K) Z) T.b_len J5 (qc (qv 1) qa)) qa))) qa)))) qa)))))
  refine#[0,λr g=>#[r,(16),Z,qb,⋯,λl v=>?_]]
  rw[Es];have O:=(HJ.upd (o:= .rng 0 16) g).trans (HJ.upd (o:= .lst (Nf.map V.int)) v)
  have u:l≠b:=zJ ((HJ.upd g).grc F).bx v
  refine#[0,⋯,⋯,aH (n:=16) ⋯ (λi ys C=>NM b (c+i) H C/\∃d zs:Β,C l=↑(.lst (d.map V.int))/\ys=zs.map V.int/\d.length+i=16/\(zs++d).Perm Nf) #[O.grc F,Nf,[],qb,Z,by rw[oN],.refl _] ?_ ?_]
  .rintro i ys C hi M ⟨B,d,zs,y,rfl,D,pm⟩
   exists 0,.inl #[43,HQ.of y]
   refine#[2,l,0,.inl (HQ.of y),b,13,B.bx,by omega,by rw[Je];omega,by rw[Je];omega,λx H3 x0 R I=>?_]
   rw[Je]at R;let#[k,rfl]:∃k:Nat,x=(k:Int):=#[x.toNat,by omega]
   have hk:k<d.length:=by omega
   have G:=I.kp _ _ u y;exists l,15,k,.int d[k],9,G,by omega,by omega,?_,?_
   .rw[Je];exact oh hk
   .rw[Jo,Jh hk];rfl
   .exists #[λc o j e=>?_,?_],d.eraseIdx k,zs++[d[k]],?_,by simp,?_
    .by_cases z:c=l
     .subst z
      rw[HJ.upd g _ _ e]at v;cases v
     .rw[qp z];exact I.kp _ _ j (B.kp _ _ j e)
    .let#[n,m,X,e,r]:=I.bx
     exact#[n,m,X,by rw[qp u.symm];exact e,r]
    .rw[qb,vc]
    .rw[K5 hk];omega
    .exact(Bu hk).trans pm
  .rintro ys C W ⟨B,d,zs,y,rfl,D,pm⟩ p N
   have U:d=[]:=KS (by omega)
   subst U;rw[Ic]at pm;refine#[p,0,.inl #[HQ.of qb,λt L=>?_]]
   have J:=B.same (HJ.upd (o:= .lst (zs.map V.int)) N)
   exact q t zs _ (J.same (HJ.upd L)) (J.fresh (F.mono (by omega)) L) qb pm
def uG(a:At K mg "_law_key" gg ["_law_box_here"])(T:MW K mg tk)(u:Df P w K mg base "_law_take" q0 1 Zf):Df P w K mg base "_law_key" X4 2 j7:=by
 refine a.dq t8 λf _ A _ s H vs Q E B h=>?_
 .let#[b,c,rfl,v,U,q]:=h
  exists _,(qe (qj (qI zp T.b_tuple JL (qc (Qa (own:=["_law_k"]) (fr:=["_law_box_here"]) (js:=[0]) Z (zM Z T.b_range (qc (qr qM qf (qo u B.mo (qc (qv 0) (qc qf qa)))) qa)) Z (f6 Z) Z (fR Z nofun nofun nofun Z Z Z) (λ_ _ _ _=>qg (i:=0) (show P4 (["_law_k","_law_box_here"]:Α)from by decide +kernel) Z (Pr Z) (.inr Z)) (λ_ _ _ _=>(qo u B.mo (qc (qv 1) (qc qf qa))))) qa))))
  refine#[0,b,13,v,by omega,⋯,⋯,λr H1 S O J=>#[14,by omega,by omega,?_]]
  let#[n,rfl,N]:∃n:Nat,r=(n:Int)/\n<8:=#[r.toNat,by omega,by omega]
  have C:(1+(n:Int)).toNat=n+1:=by omega
  rw[C];refine aH (n:=n+1) (JN (by omega:n+1<=8) ⋯) (λi ys j=>NM b (c+1+i) H j/\∃d:Β,ys=d.map V.int/\zH d) #[J,[],Z,λ_ h=>nomatch h] ?_ ?_
  .rintro i ys j hi D ⟨e,d,rfl,hk⟩
   refine#[0,b,13,e.bx,by omega,⋯,⋯,λx R G I M=>#[e.trans M,d++[x],by simp,λz L=>?_]]
   rcases JP.mp L with y|y
   .exact hk z y
   .rw[Ji.mp y];exact#[G,I]
  .rintro ys j g ⟨e,d,rfl,hk⟩ p F
   rw[Je]at g;refine#[p,0,.inl #[HQ.of qb,λt m=>?_]]
   have l:=e.same (HJ.upd (o:= .lst (d.map V.int)) F)
   exact q t d _ ((l.same (HJ.upd m)).mono (by omega)) (l.fresh (v.mono (by omega)) m) qb hk (by omega) (by omega)
def lZ(a:At K mg "back_table" bg ["table"])(T:MW K mg tk):Df P w K mg base "back_table" ["table"] 1 (wg K):=by
 refine a.dq Np λf _ A _ s H vs Q E hr h=>?_
 .let#[c,t,rfl,D,pm,q]:=h
  exists _,(qd (qA (i:=1) Np.nd Z (Pr Z) (qr ym (za (qc qf qa)) (zm (v:= .int 16) Z T.g_DIGITS #[0])))
   (qd (zg JJ Z (BN Z T.b_enumerate (qc (qv 0) qa)) (cN Z (qh (qg (i:=2) Np.nd Z (Pr Z)) (qh (qg (i:=3) Np.nd Z (Pr Z)) qK)))
   (qe (q9 (qv 2) (aZ (qv 1) (qv 3) Zd))))
   (qe (qj (qI zp T.b_tuple JL (qc (qv 1) qa))))))
  refine#[Hl,λp Y=>#[p,(16),41,qb,⋯,⋯,HF,λl L=>?_]]
  have e0:(Dj (16:Int).toNat [V.int 0]).flatten=(Zi t 0).map V.int:=by rw[Al];rfl
  rw[e0];have W:=(HJ.upd (o:= .lst [V.int 0]) Y)
  have I:=W.trans (HJ.upd (o:= .lst ((Zi t 0).map V.int)) L)
  have step:∀(i:Nat) (x:V) (g:Hp) (u:Δ),(t.map V.int)[i]? =↑x->g l=↑(.lst ((Zi t i).map V.int))->HJ H g->g u=none->
    ∃j:Nat,∃z:Int,x= .int z/\cC ((Zi t i).map V.int).length z=↑j/\(HM g u (.tup [.int i,x])) l=↑(.lst ((Zi t i).map V.int))/\
     (HM (HM g u (.tup [.int i,x])) l (.lst (((Zi t i).map V.int).set j (.int i)))) l=↑(.lst ((Zi t (i+1)).map V.int))/\HJ H (HM (HM g u (.tup [.int i,x])) l (.lst (((Zi t i).map V.int).set j (.int i)))):=by
   intro i x g u F n m r;let#[z,rfl,X]:=Zb F;have hi:i<t.length:=(Jw.mp X).1
   have ez:t[i]=z:=(Jw.mp X).2
   have bd:=oB pm hi;have sp:=HJ.upd (o:= .tup [.int i,.int z]) r
   refine#[z.toNat,z,Z,jW (by omega) (by rw[Je,cK];omega),sp _ _ n,?_,λd o e=>?_]
   .rw[qb,cY,<- ez,AV pm hi]
   .have N:d≠l:=λy=>by
     rw[y]at e;rw[W _ _ e]at L;cases L
    rw[qp N];exact sp _ _ (m _ _ e)
  have G:∀(o:Μ) (o':Μ) (g:Hp),g l=↑(.lst ((Zi t t.length).map V.int))->HJ H g->∀J,g J=none->Q (-J) (HM g J (.tup ((Zi t t.length).map V.int))):=λ_ _ g n m J U=>
   q _ _ (m.trans (HJ.upd U)) (by rw[qb,CT pm])
  rcases D with D|D
  .refine#[0,c,Z,.inl #[#[_,I.seq D],?_]]
   refine nF (K:=K) (a:=c) (xs:=t.map V.int) (λi σ g=>∃(B C:Μ),σ=[↑(-c),↑(-l),B,C]/\g l=↑(.lst ((Zi t i).map V.int))/\HJ H g) #[none,none,Z,qb,I] (λi σ g _ ⟨_,_,_,_,m⟩=>m.seq D) ?_ ?_
   .rintro i x σ g u F ⟨B,C,rfl,n,m⟩ r
    let#[j,z,rfl,M,S,O,R]:=step i x g u F n m r;exists u,0,HX.of qb,5
    exact#[4,l,15,j,9,S,M,13,O,R]
   .rintro σ g ⟨B,C,rfl,n,m⟩
    rw[Je]at n
    exact#[0,l,0,.inl #[HQ.of n,G B C g n m]]
  .refine#[0,c,Z,.inr #[#[_,HJ.sqt I D],?_]]
   refine wZ (K:=K) (a:=c) (xs:=t.map V.int) (λi σ g=>∃(B C:Μ),σ=[↑(-c),↑(-l),B,C]/\g l=↑(.lst ((Zi t i).map V.int))/\HJ H g) #[none,none,Z,qb,I] (λi σ g _ ⟨_,_,_,_,m⟩=>HJ.sqt m D) ?_ ?_
   .rintro i x σ g u F ⟨B,C,rfl,n,m⟩ r
    let#[j,z,rfl,M,S,O,R]:=step i x g u F n m r;exists u,0,HX.of qb,5
    exact#[4,l,15,j,9,S,M,13,O,R]
   .rintro σ g ⟨B,C,rfl,n,m⟩
    rw[Je]at n
    exact#[0,l,0,.inl #[HQ.of n,G B C g n m]]
def BM(a:At K mg "coded" j0 ["table","key","digits"])(T:MW K mg tk):Df P w K mg base "coded" X8 1 (j4 K):=by
 refine a.dq NN λf _ A _ s H vs Q E hr h=>?_
 .let#[a,b,c,t,M,ds,rfl,Y,hb,S,lt,l1,a1,q]:=h
  exists _,(qd (qA (i:=3) NN.nd Z (Pr Z) (qI fI T.b_list Ig (qc (qv 2) qa)))
   (qd (zg JJ Z (yb (qv 1)) (qg (i:=4) NN.nd Z (Pr Z))
   (qe (zg JJ Z (zM Z T.b_range (qc (qk qT T.b_len J5 (qc (qv 2) qa)) qa)) (qg (i:=5) NN.nd Z (Pr Z))
   (qd (qA (i:=6) NN.nd Z (Pr Z) (qx qF (qv 3) (qr Qu (qv 5) qf)))
   (qe (q9 (qx (PN.or qF qN) (qv 0) (qr Qy (qr qM (qr qM (qr qM (qx qF (qv 3) (qv 5)) (qv 4)) (qv 5)) (qv 6)) (zm (v:= .int 16) Z T.g_DIGITS #[0]))) (aZ (qv 3) (qv 5) Zd)))))))
   (qe (qj (qI zp T.b_tuple JL (qc (qv 3) qa))))))
  refine#[0,c,0,S,λl O=>?_]
  have W:HJ H _:=HJ.upd (o:= .lst (ds.map V.int)) O
  refine#[0,b,Z,Cy (K:=K) (H0:=H) hb (λj σ F=>HJ H F/\∃J u g,σ=[↑(-a),↑(-b),↑(-c),↑(-l),J,u,g]/\F l=↑(.lst ((Q5 t (M.take j) ds).map V.int))) #[W,18,qb] (λj X H' h=>h.1) ?_ ?_]
  .rintro j x σ F U ⟨y,J,u,g,rfl,B⟩
   let#[d,rfl,L]:=Zb U;rw[jT L,oO];have z:(Q5 t (M.take j) ds).length=ds.length:=db
   generalize Q5 t (M.take j) ds=r at B z
   exists 0,c,0,S.same y,0,?_,?_
   .omega
   .rw[Je];omega
   rw[show((((ds.map V.int).length:Nat):Int)).toNat=ds.length by rw[Je];rfl]
   refine Qx (n:=ds.length) (Pv:=λi σ I=>HJ H I/\∃u g,σ=[↑(-a),↑(-b),↑(-c),↑(-l),↑(.int d),u,g]/\I l=↑(.lst ((aA t d r i).map V.int))) #[y,13,B] ?_ ?_
   .rintro i σ I hi ⟨G,u,g,rfl,e⟩
    have D:(aA t d r i).length=ds.length:=by rw[Zc,z]
    generalize hr':aA t d r i=C at e D
    have m:i<C.length:=by omega
    exists 16,l,1,HQ.of e,wJ (i:=i) (by omega) m
    exists 4,l,1,HQ.of e,bf (i:=i) (by omega) m,19,(by decide:(0:Int)<16)
    have N:=aM (C.getD i 0+d+(0+(i:Int))+ah C i)
    refine(Y.same G).ix (bf (i:=((C.getD i 0+d+(0+(i:Int))+ah C i)%16).toNat) (by have:=N.1;omega) (by rw[lt];have:=N.1;have:=N.2;omega)) ?_
    exists 2,l,15,i,9,e,jW (by omega) (by rw[Je];exact m),ZK G O,13
    rw[qb,cY,aA,hr',jJ,Kc]
   .rintro σ I ⟨G,u,g,rfl,e⟩
    exact#[G,18,e]
  .rintro σ F ⟨y,J,u,g,rfl,B⟩
   rw[Je,Ip]at B
   exact#[0,l,0,.inl #[HQ.of B,λp R=>q p _ (y.trans (HJ.upd R)) (QR R y) qb]]
def uK(a:At K mg "decoded" fS ["table","key","digits"])(T:MW K mg tk)(xW:Df P w K mg base "back_table" ["table"] 1 (wg K)):Df P w K mg base "decoded" X8 2 (lB K):=by
 refine a.dq Nh λf _ A _ s H vs Q E hr h=>?_
 .let#[a,b,c,t,e,ds,rfl,ha,hb,hc,pm,a2,l1,a5,q]:=h
  exists _,(qd (qA (i:=3) Nh.nd Z (Pr Z) (qo xW hr.mo (qc (qv 0) qa)))
   (qd (qA (i:=4) Nh.nd Z (Pr Z) (qI fI T.b_list Ig (qc (qv 2) qa)))
   (qd (zg JJ Z (wb Z T.b_reversed (qc (qv 1) qa)) (qg (i:=5) Nh.nd Z (Pr Z))
   (qe (zg JJ Z (wb Z T.b_reversed (qc (qI ku T.b_range SD (qc (qk qT T.b_len J5 (qc (qv 2) qa)) qa)) qa)) (qg (i:=6) Nh.nd Z (Pr Z))
   (qd (qA (i:=7) Nh.nd Z (Pr Z) (qx qF (qv 4) (qr Qu (qv 6) qf)))
   (qe (q9 (qr Qy (qr Qu (qr Qu (qr Qu (qx qN (qv 3) (qx qF (qv 4) (qv 6))) (qv 5)) (qv 6)) (qv 7)) (zm (v:= .int 16) Z T.g_DIGITS #[0])) (aZ (qv 4) (qv 6) Zd)))))))
   (qe (qj (qI zp T.b_tuple JL (qc (qv 4) qa)))))))
  refine#[0,a,t,Z,ha,pm,λY H1 N a3=>?_]
  refine#[0,c,0,hc.same N,λl hl=>?_]
  have B:HJ H1 _:=HJ.upd (o:= .lst (ds.map V.int)) hl
  refine#[0,b,Z,AW (K:=K) (H0:=H1) (hb.same N) (λj σ O=>HJ H1 O/\∃U D C,σ=[↑(-a),↑(-b),↑(-c),↑(-Y),↑(-l),U,D,C]/\O l=↑(.lst ((Zz (zI t) (e.drop (e.length-j)) ds).map V.int))) #[B,18,by rw[Nat.sub_zero,List.drop_length];exact qb] (λj a4 H' h=>h.1) ?_ ?_]
  .rintro j x σ O hj hx ⟨B,U,D,C,rfl,M⟩
   let#[d,rfl,F]:=Zb hx;rw[Je]at hj F;have ed:e.drop (e.length-(j+1))=d::e.drop (e.length-j):=by
    have:=vw F
    rw[show e.length-1-j+1=e.length-j by omega]at this
    rw[show e.length-(j+1)=e.length-1-j by omega]
    exact this
   rw[ed,Zz];have L:(Zz (zI t) (e.drop (e.length-j)) ds).length=ds.length:=ir
   have J:zH (Zz (zI t) (e.drop (e.length-j)) ds):=nO a2
   generalize Zz (zI t) (e.drop (e.length-j)) ds=r at M L J
   refine#[0,c,0,(hc.same N).same B,0,λpr I=>#[pr,Z,.inr (.inr #[ds.length,?_,by omega,?_])]]
   .rw[qb,Je]
   have a1:=B.trans (HJ.upd (o:= .rng 0 ((ds.map V.int).length:Nat)) I)
   have W:=HJ.upd (o:= .rng 0 ((ds.map V.int).length:Nat)) I _ _ M
   refine Ba (n:=ds.length) (Pv:=λi σ S=>HJ H1 S/\∃D C y,σ=[↑(-a),↑(-b),↑(-c),↑(-Y),↑(-l),↑(.int d),D,C]/\S l=↑(.lst (y.map V.int))/\y.length=ds.length/\zH y/\bC (zI t) d y (ds.length-i)=bC (zI t) d r ds.length) #[a1,15,r,Z,W,L,J,Z] ?_ ?_
   .rintro i σ S hi ⟨R,D,C,y,rfl,g,z,m,G⟩
    have u:ds.length-1-i<y.length:=by omega
    have ep:(ds.length:Int)-1-i=((ds.length-1-i:Nat):Int):=by omega
    rw[ep];generalize hpl:ds.length-1-i=pl at u
    rw[show ds.length-i=pl+1 by omega,bC]at G
    exists 16,l,1,HQ.of g,wJ (i:=pl) Z u
    have X:=jw m pl;exists 4,l,1,HQ.of g,bf (i:=pl) Z u,Y,1,HX.of (R _ _ a3),bf (i:=(y.getD pl 0).toNat) (by have:=X.1;omega) (by rw[bR];have:=X.1;have:=X.2;omega)
    exists 19,(by decide:(0:Int)<16)
    exists 2,l,15,pl,9,g,sN (by rw[Je];exact u),ZK R hl,15,ii (zI t) d y pl,Z,?_,by rw[pM];exact z,nq m
    .rw[qb,cY,ii]
    .rw[show ds.length-(i+1)=pl by omega];exact G
   .rintro σ S ⟨R,D,C,y,rfl,g,z,m,G⟩
    rw[Nat.sub_self,bC]at G;rw[G]at g
    exact#[R,18,g]
  .rintro σ O ⟨B,U,D,C,rfl,M⟩
   rw[Je,Nat.sub_self,Kv]at M
   exact#[0,l,0,.inl #[HQ.of M,λp hp=>q p _ ((N.trans B).trans (HJ.upd hp)) (QR hp (N.trans B)) qb]]
def ib(a:At K mg "letter_digits" ZQ ["name"])(T:MW K mg tk):Df P w K mg base "letter_digits" ["name"] 1 lf:=by
 refine a.dq MY λf _ A _ s H vs Q E y h=>?_
 .let#[z,rfl,r,q]:=h
  exists _,(qd (qA (i:=1) MY.nd Z (Pr Z) (za qa))
   (qd (zg JJ Z (wR (qv 0)) (qg (i:=2) MY.nd Z (Pr Z))
   (qd (qA (i:=3) MY.nd Z (Pr Z) (qr Qu (qk nv T.b_ord PyProof.Rows.boot_ord (qc (qv 2) qa)) (qk nv T.b_ord PyProof.Rows.boot_ord (qc qy qa))))
   (qd (zc (Q1 Il IJ IK zV (qv 1) (qc (qr Qy (qv 3) (zm (v:= .int 16) Z T.g_DIGITS #[0])) qa)))
   (qe (zc (Q1 Il IJ IK zV (qv 1) (qc (qr cJ (qv 3) (zm (v:= .int 16) Z T.g_DIGITS #[0])) qa)))))))
   (qe (qj (qv 1)))))
  refine#[Hh,λl g=>?_]
  refine#[0,z,Z,oC r,C5 (λi σ d=>HJ H d/\∃p o,σ=[↑(.str z),↑(-l),p,o]/\d l=↑(.lst ((Zs (z.cps.toList.take i)).map V.int))) #[HJ.upd g,13,qb] ?_ ?_]
  .rintro i c σ d t ⟨m,p,o,rfl,e⟩
   have n:=tI t;rw[Do n,vU];have j:(Zs (z.cps.toList.take i)).length<=16:=by rw[kU,G5];have:=r.2.2;omega
   generalize Zs (z.cps.toList.take i)=ds at e j
   have x:((((#[(AA [c])]:Str).cps.getD 0 0:Nat):Int)-((("a":Str).cps.getD 0 0:Nat):Int))=(c:Int)-97:=Z
   have big:(100:Nat)<ζ:=by decide
   exists 53
   show f8 _ _ _ [↑(V.str z),↑(V.ref l),↑(V.str #[(AA [c])]),↑(V.int ((c:Int)-97))] d
   exists 0,.inl #[43,HQ.of e],11,(by decide:(0:Int)<16),l,6,e,by rw[Je];omega
   have u:HJ H (HM d l (.lst (ds.map V.int++[V.int (((c:Int)-97)%16)]))):=ZK m g
   exists 0,.inl #[43,HQ.of qb],11,#[⋯,⋯],l,6,qb,by rw[Jy,Je,IM];omega,ZK u g,_,_,Z
   rw[qb,JI,IU];rfl
  .rintro σ d ⟨m,p,o,rfl,e⟩
   rw[show z.cps.size=z.cps.toList.length from Z,Ip]at e
   exact#[0,q l d m g e]
def xn(a:At K mg "key_of" iz ["table","key","name"])(T:MW K mg tk)(xI:Df P w K mg base "letter_digits" ["name"] 1 lf)(xR:Df P w K mg base "coded" X8 1 (j4 K)):Df P w K mg base "key_of" V3 2 (jO K):=by
 refine a.dq NQ λf _ A _ s H vs Q E hr h=>?_
 .let#[a,b,z,t,ks,rfl,ha,hb,hz,lt,q]:=h
  exists _,(qd (qA (i:=3) NQ.nd Z (Pr Z) (qr ym (za (qc qf qa)) (zm (v:= .int 4) Z T.g_KEY_PLACES #[0])))
   (qd (zg JJ Z (CQ Z T.b_enumerate (qc (qo xI hr.mo (qc (qv 2) qa)) qa)) (cN Z (qh (qg (i:=4) NQ.nd Z (Pr Z)) (qh (qg (i:=5) NQ.nd Z (Pr Z)) qK)))
   (qe (CI (qv 3) (qr Qy (qv 4) (zm (v:= .int 4) Z T.g_KEY_PLACES #[0])) Bi (qv 5) EF Zd)))
   (qe (qj (qo xR hr.mo (qc (qv 0) (qc (qv 1) (qc (Qa (own:=["total"]) (fr:=[]) (js:=[]) Z (zv (qv 3)) Z (λ_ _ h=>nomatch h) Z (bX Z nofun nofun nofun) (λ_ _ _ _=>qg (i:=0) (show P4 (["total"]:Α)from by decide +kernel) Z (Pr Z) (.inr Z)) (λ_ _ _ _=>(qr Qy (qv 0) (zm (v:= .int 16) Z T.g_DIGITS #[0])))) qa))))))))
  refine#[Hl,λp0 S=>#[p0,(4),41,qb,⋯,⋯,Hu,λl X=>?_]]
  have s1:=(HJ.upd (o:= .lst [V.int 0]) S)
  have s2:=s1.trans (HJ.upd (o:= .lst (Dj (4:Int).toNat [V.int 0]).flatten) X)
  have J:H l=none:=QR X s1
  refine#[0,z,Z,hz,λF H1 s3 c j=>?_]
  have U:=s3 _ _ (qb (H:=HM H p0 (.lst [V.int 0])) (a:=l) (o:= .lst (Dj (4:Int).toNat [V.int 0]).flatten))
  have M:F≠l:=λy=>by rw[y,qb]at c;cases c
  generalize hds:Zs z.cps.toList=ds at j q
  have a2:ds.length<=16:=by rw[<- hds,kU];have:=hz.2.2;omega
  refine#[F,Z,#[_,HQ.of j],nF (K:=K) (a:=F) (xs:=ds.map V.int) (λi σ g=>∃(I O:Μ),σ=[↑(-a),↑(-b),↑(.str z),↑(-l),I,O]/\g l=↑(.lst ((ae ds i).map V.int))/\g F=↑(.lst (ds.map V.int))/\HJ H g)
   #[none,none,Z,U,j,s2.trans s3] (λi σ g _ ⟨_,_,_,_,hd,_⟩=>HQ.of hd) ?_ ?_]
  .rintro i x σ g pp G ⟨I,O,rfl,u,B,m⟩ L
   let#[Y,rfl,r]:=Zb G;have hi:i<ds.length:=(Jw.mp r).1
   have eg:ds.getD i 0=Y:=by rw[JG,r];rfl
   have d:=HJ.upd (o:= .tup [.int i,.int Y]) L
   have n:=d _ _ u;have N:i%4<(ae ds i).length:=Ki i ⋯
   have e4:(i:Int)%4=((i%4:Nat):Int):=by omega
   exists pp,0,HX.of qb,5
   exists 16,(by decide:(0:Int)<4),l,_,i%4,.int ((ae ds i).getD (i%4) 0),Z,(by show V.int ((i:Int)%4)=_;rw[e4]),n,?_,11,l,15,i%4,9,n,jW e4 (by rw[Je];exact N),13,?_,?_
   .rw[jG N,JG,Jh N];rfl
   .rw[qb,cY,<- eg,vL]
   .rw[qp M];exact d _ _ B
   .exact ZK (m.trans d) J
  .rintro σ g ⟨I,O,rfl,u,B,m⟩
   rw[Je]at u;refine#[4,l,Z,#[_,HQ.of u],ZF (xs:=(ae ds ds.length).map V.int) (Hu) (λi ys D=>ys=((bW ds).take i).map V.int/\D=g) #[by simp,Z] (λi ys D ⟨_,e⟩=>by rw[e];exact HQ.of u) ?_ ?_]
   .rintro i ys D x G _ ⟨rfl,rfl⟩
    let#[y,rfl,hy]:=Zb G;refine#[11,(by decide:(0:Int)<16),?_,Z]
    have:(bW ds)[i]? =↑(y%16):=by unfold bW;rw[Jo,hy];rfl
    rw[Ie,this];simp
   .rintro ys D a1 ⟨rfl,rfl⟩ p hp
    rw[show(bW ds).take ((ae ds ds.length).map V.int).length=bW ds from Z]
    have C:=HJ.upd (o:= .lst ((bW ds).map V.int)) hp
    exact#[a,b,p,t,ks,bW ds,Z,(ha.same m).same C,(hb.same m).same C,.lst qb,lt,by rw[oo];decide,by rw[oo];decide,λp' H' s' W R=>q p' H' ((m.trans C).trans s') (QR W (m.trans C)) R]
def jm(a:At K mg "count_digits" Z3 ["count"])(T:MW K mg tk):Df P w K mg base "count_digits" ["count"] 1 Fj:=by
 refine a.dq i9 λf _ A _ s H vs Q E e h=>?_
 .let#[c,rfl,q]:=h
  exists _,(qe (qj (qu (qc (qr Qy (qv 0) (zm (v:= .int 16) Z T.g_DIGITS #[0])) (qc (qr Qy (qr cJ (qv 0) (zm (v:= .int 16) Z T.g_DIGITS #[0])) (zm (v:= .int 16) Z T.g_DIGITS #[0])) (qc (qr cJ (qv 0) qf) qa))))))
  exact#[11,(by decide:(0:Int)<16),11,#[⋯,⋯],6,(by decide:(0:Int)<16),11,#[⋯,⋯],Ht,λp d=>q p _ (HJ.upd d) qb]
def Dl{c d:Int}(e:0<=c)(h1:c<4096)(hd:bG d):∀z∈aE c d,0<=z/\z<=1000000:=λz a=>by
 have:=iC e h1 hd z (LN _ a)
 exact#[this.1,Int.le_trans (Int.le_of_lt this.2) ⋯]
def rn(a:At K mg "press_of" c8 ["table","key","name","age","count","deed"])(T:MW K mg tk)(xM:Df P w K mg base "count_digits" ["count"] 1 Fj)(O:Df P w K mg base "key_of" V3 2 (jO K))(R:Df P w K mg base "coded" X8 1 (j4 K)):Df P w K mg base "press_of" W5 3 (tJ K):=by
 refine a.dq NO λf _ A _ s H vs Q E B h=>?_
 .let#[a,b,z,age,c,d,t,J,rfl,M,hb,hz,lt,c0,Y,hd,q]:=h
  exists _,(qd (qA (i:=6) NO.nd Z (Pr Z) (qr Z5 (qo xM B.mo (qc (qv 4) qa)) (qu (qc (qv 5) qa))))
   (qd (qA (i:=7) NO.nd Z (Pr Z) (qr Z5 (qv 6) (qu (qc (qr Qy (qk (v9 Z) T.b_sum PyProof.Rows.boot_sum (qc (qv 6) qa)) (zm (v:= .int 16) Z T.g_DIGITS #[0])) qa))))
   (qe (qj (qu (qc (qv 2) (qc (qv 3) (qc (qo R B.mo (qc (qv 0) (qc (qo O B.mo (qc (qv 0) (qc (qv 1) (qc (qv 2) qa)))) (qc (qv 7) qa)))) qa))))))))
  refine#[0,c,Z,λp1 H1 s1 m=>?_]
  refine#[0,Hl,λp2 r=>?_]
  have N:=HJ.upd (o:= .tup [V.int d]) r
  refine#[p1,p2,6,N _ _ m,qb,Hu,λx H3 X u=>?_]
  have e:H3 x=↑(.tup ((aE c d).map V.int)):=u
  have S3:=(s1.trans N).trans X;refine#[2,x,aE c d,Z,.tup e,by show 4<=1000;decide,Dl c0 Y hd,6,(by decide:(0:Int)<16),Hl,λS C=>?_]
  have I:=HJ.upd (o:= .tup [V.int ((aE c d).sum%16)]) C
  refine#[x,S,6,I _ _ e,qb,Hw,λL H5 U n=>?_]
  have g:H5 L=↑(.tup ((aL c d).map V.int)):=n
  have j:=(S3.trans I).trans U;refine#[28,a,b,z,t,J,Z,M.same j,hb.same j,hz,lt,λpk H6 l _ y=>?_]
  refine#[0,a,pk,L,t,jY t J z,aL c d,Z,(M.same j).same l,.tup y,.tup (l _ _ g),lt,by rw[cT];decide,by rw[cT];decide,λF H7 W _ D=>?_]
  refine#[Ht,λp hp=>?_]
  have G:=HJ.upd (o:= .tup [V.str z,.int age,-F]) hp
  exact q p F _ (((j.trans l).trans W).trans G) qb (G _ _ D)
def lU(a:At K mg "read_press" bj ["table","key","press"])(T:MW K mg tk)(I:Df P w K mg base "key_of" V3 2 (jO K))(N:Df P w K mg base "decoded" X8 2 (lB K)):Df P w K mg base "read_press" V0 3 (pB K):=by
 refine a.dq MF λf _ A _ s H vs Q E F h=>?_
 .let#[a,b,U,J,z,age,t,l,ds,rfl,C,hb,n,B,hz,pm,R,u,q]:=h
  exists _,(qd (q9 (qv 2) (zf Z (qh (qg (i:=3) MF.nd Z (Pr Z)) (qh (qg (i:=4) MF.nd Z (Pr Z)) (qh (qg (i:=5) MF.nd Z (Pr Z)) qK)))))
   (qd (q9 (qo N F.mo (qc (qv 0) (qc (qo I F.mo (qc (qv 0) (qc (qv 1) (qc (qv 3) qa)))) (qc (qv 5) qa)))) (cN Z (qh (qg (i:=6) MF.nd Z (Pr Z)) (qh (qg (i:=7) MF.nd Z (Pr Z)) (qh (qg (i:=8) MF.nd Z (Pr Z)) (qh (qg (i:=9) MF.nd Z (Pr Z)) (qh (qg (i:=10) MF.nd Z (Pr Z)) qK)))))))
   (qd (qC (qw Z9 (qv 10) (qr Qy (qr qM (qr qM (qr qM (qv 6) (qv 7)) (qv 8)) (qv 9)) (zm (v:= .int 16) Z T.g_DIGITS #[0])) (qq _)) (qe (qj qP)) qt)
   (qe (qj (qu (qc (qr qM (qr qM (qv 6) (qr ZI (qv 7) (zm (v:= .int 16) Z T.g_DIGITS #[0]))) (qr ZI (qv 8) qf)) (qc (qv 9) qa))))))))
  exists 0,U,0,n,7
  refine#[10,a,b,z,t,l,Z,C,hb,hz,sY pm,λY H1 o _ r=>?_]
  refine#[0,a,Y,J,t,jY t l z,ds,Z,C.same o,.tup r,B.same o,pm,u,by omega,by omega,λpd G L _ j=>?_]
  have D:∀x H',HJ G H'->gl H' x (ml (Zz (zI t) (jY t l z) ds))->Q x H':=λx H' s' S=>q x H' ((o.trans L).trans s') S
  have O:(Zz (zI t) (jY t l z) ds).length=5:=by rw[ir,R]
  let#[lo,mi,hi,d,g,M]:=Dh O;rw[M]at j D;exists pd,0,HX.of j,42
  exists 24,(by decide:(0:Int)<16),8
  have m:∀x H',HJ G H'->gl H' x (if g=(lo+mi+hi+d)%16 then ↑(lo+mi*16+hi*256,d)else none)->Q x H':=D
  by_cases e:g=(lo+mi+hi+d)%16
  .rw[Jc e]at m
   refine aB (c:=V.int g=V.int ((lo+mi+hi+d)%16)) (by rw[e]) ?_
   refine#[16,.inr #[⋯,⋯],61,.inr #[⋯,⋯],14,Ho,λp W=>?_]
   exact m _ _ (HJ.upd W) #[p,Z,qb]
  .rw[Jb e]at m
   refine qZ (λ_=>m _ _ (HJ.refl _) Z) (λy=>absurd ?_ y)
   have:¬V.int g=V.int ((lo+mi+hi+d)%16):=λX=>e (by injection X)
   show(! decide (V.int g=V.int ((lo+mi+hi+d)%16)))=true
   rw[Jn this];rfl
end
end Lw
namespace L3
open PySem PySem.Spec PyProof.Rows L2
def qG(a b:Int):Int:=if a<b then b else a
def QH(a b:Int):Int:=if b<a then b else a
def zS(D:Dr)(e:Kb)(D':Dr)(e':Kb):Int:=QH (e.last+D.far) (e'.last+D'.far)
noncomputable def Qw(lo hi:Int)(p:Int->Bool):Λ:=((Ag (hi-lo).toNat).map λi:Nat=>lo+(i:Int)).find? p
def oE{e:Kb}{c:Int}(h:c<=e.last):(qR D e age c).2=e:=by
 unfold qR zD;rw[Jc h];split<;>rfl
def ZJ{lo:Int}{p:Int->Bool}{c:Int}(h:Qw lo hi p=↑c):lo<=c/\c<hi/\p c=true/\∀x,lo<=x->x<c->p x=false:=by
 unfold Qw at h;let#[h1,a,bs,e,f]:=List.find?_eq_some_iff_append.mp h
 have len:=J0 List.length e;rw[Je,E1,Jy,JR]at len;have m:c=lo+(a.length:Int):=by
  have z:((Ag (hi-lo).toNat).map λi:Nat=>lo+(i:Int))[a.length]? =↑c:=by rw[e];simp
  rw[Jo,LX (by lia)]at z
  exact(JE z).symm
 refine#[by lia,by lia,h1,λx l g=>?_]
 have j:x∈a:=by
  have d:(x-lo).toNat<a.length:=by lia
  have z:((Ag (hi-lo).toNat).map λi:Nat=>lo+(i:Int))[(x-lo).toNat]? =↑x:=by
   rw[Jo,LX (by lia)]
   show ↑(lo+((x-lo).toNat:Int))=↑x
   congr 1;lia
  rw[e,J3 d]at z;exact Ij z
 have:=f x j
 simpa using this
def jj{lo:Int}{p:Int->Bool}(h:Qw lo hi p=none):∀x,lo<=x->x<hi->p x=false:=by
 intro x h1 a
 have:=PY.mp h x (JC.mpr #[(x-lo).toNat,JT.mpr (by lia),by lia])
 simpa using this
def Am{lo hi:Int}{p:Int->Bool}{c:Int}(h1:lo<=c)(h2:c<hi)(a:p c=true)(g:∀x,lo<=x->x<c->p x=false):Qw lo hi p=↑c:=by
 cases e:Qw lo hi p with
 |none=>rw[jj e c h1 h2]at a;cases a
 |some d=>
  let#[h,j,f,i]:=ZJ e;rcases Int.lt_trichotomy c d with z|z|z
  .rw[i c h1 z]at a;cases a
  .rw[z]
  .rw[g d h z]at f;cases f
def yv{lo hi:Int}{p:Int->Bool}(h:∀x,lo<=x->x<hi->p x=false):Qw lo hi p=none:=by
 cases e:Qw lo hi p with
 |none=>rfl
 |some d=>
  let#[f,c,a,g]:=ZJ e;rw[h d f c]at a;cases a
section
variable(K:ι)(C:Δ)
inductive hX|mk (p ta hk bd lg:Δ)(n:Nat)(D:Dr)(h1:vs=[-p])(h2:HL K C H p ta hk bd lg n D)(h3:Nw D)(h4:∀l (ss:Α) H',HJ H H'->ss.Perm (D.kn.map (·.1))->H' l=↑(.lst (ss.map V.str))->Q (-l) H')
inductive rK|mk (p ta hk bd lg a:Δ)(n:Nat)(D:Dr)(e:Kb)(p' ta' hk' bd' lg' a':Δ)(n':Nat)(D':Dr)(e':Kb)(h1:vs=[-p,-a,-p',-a'])(h2:HL K C H p ta hk bd lg n D)(h3:Na H a e)(h4:HL K C H p' ta' hk' bd' lg' n' D')(h5:Na H a' e')(h6:∀H',HJ H H'->Q (.int (zS D e D' e')) H')
end
theorem i6{d:Type} [DecidableEq d]:∀{l m:List d},l.Nodup->(∀x∈l,x∈m)->l.length<=m.length
 | [],m,_,_=>JB _
 |x::l,m,hn,hs=>by
  let#[n1,n2]:=IG.mp hn;have a:=hs x (Jr ..);have g:=i6 (l:=l) (m:=m.erase x) n2 (λy c=>(Pe (λe:y=x=>n1 (by rw[<- e];exact c))).mpr (hs y (Jv _ c)))
  have h1:=List.length_erase_of_mem a;have f:=List.length_pos_of_mem a;rw[JR];omega
structure Rr(t:Β)(kss:List Β)(D:Dr):Prop where
 ok:Nw D
 t:D.t=t
 ks:D.kss=kss
 rm:(D.kn.length:Int)<D.most
def iV{age c:Int}(h:Rr t kss D)(g:D.least<=age)(a:age<kss.length)(f:0<=c)(e:c<4096)(hd:bG d):fL D (QV t kss nm age c d)=↑(c,d):=by
 unfold fL Q8 QV;simp only
 rw[Jj g,h.ks,Jj a,Jc (show(true&&true)=true from Z),h.t,show QZ D age=kss.getD age.toNat [] by unfold QZ;rw[h.ks]]
 exact lh (h.t▸h.ok.tp) f e hd
def i0(D:Dr)(nm:Str)(age c:Int):(HP D nm age c).map (·.1)=D.kn.map (·.1):=by
 rcases eP (D:=D) (nm:=nm) (age:=age) (c:=c)with e|⟨e,a,f,d⟩
 .rw[e]
 .rw[d];exact uh a
def aD{D:Dr}{e:Kb}(d:(D.kn.map (·.1)).Nodup)(he:D.kn.lookup nm=↑e):(HP D nm age c).lookup nm=some (qR D e age c).2:=by
 unfold HP zt qR;rw[he];simp only
 by_cases a:qL D e age=true
 .rw[Jc a,Jc a]
  split
  .exact nH d
  .exact nH d
 .rw[Jb a,Jb a];exact he
def Nw.hearK(h:Nw D)(nm:Str)(age c:Int):Nw {D with kn:=L3.HP D nm age c}:=by
 have k:=i0 D nm age c;have l:(L3.HP D nm age c).length=D.kn.length:=by have:=J0 List.length k;simpa using this
 exact#[h.tp,h.l0,h.kl,by show(L3.HP D nm age c).length<=60;rw[l];exact h.nl,by show((L3.HP D nm age c).map (·.1)).Nodup;rw[k];exact h.nd]
def vI(D:Dr)(kd a:Δ):L2.MX (ZE D kd) (Pt "known":qJ) (-a)=ZE D a:=by
 unfold L2.MX ZE;rw[Jc (by simp [J4])]
 have h1:¬((Pt ("near":Str):Sum Int Str)=Pt ("known":Str)):=by decide +kernel
 have d:¬((Pt ("far":Str):Sum Int Str)=Pt ("known":Str)):=by decide +kernel
 have c:¬((Pt ("keys":Str):Sum Int Str)=Pt ("known":Str)):=by decide +kernel
 have e:¬((Pt ("closed":Str):Sum Int Str)=Pt ("known":Str)):=by decide +kernel
 simp only[JS,Ln,Jb h1,Jb d,Jb c,Jb e,Io]
inductive oF|mk (m kd:Δ)(D:Dr)(h1:vs=[-m])(h2:MJ H m kd D)(h3:∀m' kd' H',HJ H H'->H m'=none->H kd'=none->MJ H' m' kd' D->Q (-m') H')
noncomputable def Qh{a:Type}(lo:Int)(n:Nat)(f:Int->Option a):Option a:=((Ag n).map λi:Nat=>lo+(i:Int)).findSome? f
def cF{a c:Type}{l:List a}{f:a->Option c}(h:∀x∈l,f x=none):l.findSome? f=none:=by
 induction l with
 |nil=>rfl
 |cons x r ih=>rw[KC,h x Jr];exact ih λy d=>h y (Jv _ d)
def cL{c d:Type}{l:List c}{f:c->Option d}{i:Nat}{x:c}{y:d}(hx:l[i]? =↑x)(g:f x=↑y)(h:∀j z,j<i->l[j]? =↑z->f z=none):l.findSome? f=↑y:=by
 induction l generalizing i with
 |nil=>cases hx
 |cons a r ih=>
  rw[KC];cases i with
  |zero=>cases hx;rw[g]
  |succ i=>
   rw[h 0 a (K2 _) Z];exact ih hx λj z m e=>h (j+1) z (by lia) e
def iF{a c:Type}{l:List a}{f g:a->Option c}(h:∀x∈l,f x=g x):l.findSome? f=l.findSome? g:=by
 induction l with
 |nil=>rfl
 |cons x r ih=>rw[KC,KC,h x Jr,ih λy d=>h y (Jv _ d)]
def kS{c d:Type}{l:List c}{f:c->Option d}(p:c->Bool)(h:∀x∈l,p x=false->f x=none):(l.filter p).findSome? f=l.findSome? f:=by
 induction l with
 |nil=>rfl
 |cons x r a=>
  have a:=a λy g=>h y (Jv _ g)
  rw[Kd,KC];cases e:p x with
  |true=>rw[Jc Z,KC,a]
  |false=>rw[Jb ⋯,h x Jr e];exact a
def cw{lo x:Int}(h:x∈(Ag n).map λi:Nat=>lo+(i:Int)):lo<=x/\x<lo+n:=by
 let#[i,hi,rfl]:=JC.mp h
 have:=JT.mp hi
 lia
def zA{c:Type}{lo:Int}{n:Nat}{f:Int->Option c}(h:∀x,lo<=x->x<lo+n->f x=none):Qh lo n f=none:=cF λx a=>h x (cw a).1 (cw a).2
def QQ{c:Type}{lo:Int}{n i:Nat}{f:Int->Option c}{y:c}(hi:i<n)(d:f (lo+(i:Int))=↑y)(h:∀x,lo<=x->x<lo+i->f x=none):Qh lo n f=↑y:=by
 refine cL (i:=i) (x:=lo+(i:Int)) (by rw[Jo,LX hi];rfl) d λj z e a=>?_
 rw[Jo,LX (by lia)]at a
 cases a;exact h _ (show lo<=lo+(j:Int) by lia) (show lo+(j:Int)<lo+(i:Int) by lia)
def am{c:Type}{lo:Int}{n:Nat}{f g:Int->Option c}(h:∀x,lo<=x->x<lo+n->f x=g x):Qh lo n f=Qh lo n g:=iF λx a=>h x (cw a).1 (cw a).2
noncomputable def qB(S:List (Int×Int)):Β:=S.flatMap λp=>(Ag (p.2+1-p.1).toNat).map λi:Nat=>p.1+(i:Int)
def iL(S:List (Int×Int))(n:Int):n∈qB S↔QU n S=true:=by
 unfold qB QU;rw[List.mem_flatMap,Mm];refine exists_congr λp=>and_congr_right λ_=>?_
 rw[JF,decide_eq_true_eq,decide_eq_true_eq,JC];constructor
 .rintro⟨i,hi,rfl⟩
  have:=JT.mp hi
  lia
 .rintro⟨h1,a⟩
  exact#[(n-p.1).toNat,JT.mpr (by lia),by lia]
structure NF(S:List (Int×Int)):Prop where
 two:Rz S
 bd:∀p∈S,0<=p.1/\p.1<=p.2/\p.2<=4095/\p.2-p.1<=63
 cnt:(qB S).length<=66
theorem NF.nil:NF []:=#[.nil,(λp h=>nomatch h),JB _]
def mP{x y:Int}(h:y-x<=63):(qB [(x,y)]).length<=64:=by
 unfold qB;rw[KF,KL,Ic,Je,E1]
 show(y+1-x).toNat<=64
 lia
def BI{x y z:Int}(h:y-x<=63):(qB [(x,y),(z,z)]).length<=66:=by
 have e:qB [(x,y),(z,z)]=qB [(x,y)]++qB [(z,z)]:=by unfold qB;rw[<- KO];rfl
 have h1:=mP h;have a:(qB [(z,z)]).length<=1:=by
  unfold qB;rw[KF,KL,Ic,Je,E1]
  show(z+1-z).toNat<=1
  lia
 rw[e,Jy];lia
def NF.out(h:NF S){n:Int}(hn:n<0\/4096<=n):QU n S=false:=by
 unfold QU;rw[OC];intro p a z;rw[JF,decide_eq_true_eq,decide_eq_true_eq]at z
 have:=h.bd p a
 lia
def PD(S c:List (Int×Int)):Prop:=∀a:Β,a.Nodup->(∀k,k∈a↔¬(k∈qB S↔k∈qB c))->a.length<64
def PD.few(h:(qB S).length+(qB c).length<64):PD S c:=λe d a=>by
 have:e.length<=(qB S++qB c).length:=i6 d λk hk=>by
  have hk:=(a k).mp hk;rw[JP]
  by_cases z:k∈qB S
  .exact .inl z
  .exact .inr (Pu λy=>hk #[λq=>absurd q z,λq=>absurd q y])
 rw[Jy]at this;lia
def FW(h:NF S)(h':NF c)(he:∀n,QU n S=QU n c):S=c:=by
 have d:∀k:Nat,ZX (k:Int) S=ZX (k:Int) c:=λk=>by
  induction k with
  |zero=>
   show ZX 0 S=ZX 0 c
   rw[kK λp a=>(h.bd p a).1,kK λp a=>(h'.bd p a).1]
  |succ k ih=>
   have e:((k+1:Nat):Int)=(k:Int)+1:=by lia
   rw[e,lC h.two,lC h'.two,he,ih]
 have:=d 4096
 rw[pJ λp a=>#[(h.bd p a).2.1,by have:=(h.bd p a).2.2.1;lia],pJ λp a=>#[(h'.bd p a).2.1,by have:=(h'.bd p a).2.2.1;lia]]at this
 exact this
def Q6(S a:List (Int×Int))(n:Int):Bool:=decide (QU n S≠QU n a)
def Qb(S a:List (Int×Int)):Int:=(Qw 0 4096 (Q6 S a)).getD 0
def ug(S a:List (Int×Int)):Q6 S a=Q6 a S:=by
 funext n
 exact decide_eq_decide.mpr #[Ne.symm,Ne.symm]
def uf(S a:List (Int×Int)):Qb S a=Qb a S:=by unfold Qb;rw[ug]
def eu(h:NF S)(h':NF a)(ne:S≠a):Qw 0 4096 (Q6 S a)=↑(Qb S a):=by
 cases e:Qw 0 4096 (Q6 S a)with
 |some c=>unfold Qb;rw[e];rfl
 |none=>
  refine absurd (FW h h' λn=>?_) ne
  by_cases d:n<0\/4096<=n
  .rw[h.out d,h'.out d]
  .have:=of_decide_eq_false (jj e n (by lia) (by lia))
   exact SX.mp this
def uv{ms:Β}(h:NF S)(h':NF a)(hm:∀k,k∈ms↔¬(k∈qB S↔k∈qB a))(hp:ms.Pairwise (· <= ·))(ne:S≠a):ms[0]? =↑(Qb S a):=by
 let#[n,o,f,j]:=ZJ (eu h h' ne)
 have c:∀k,k∈ms↔Q6 S a k=true:=λk=>by
  rw[hm,iL,iL];unfold Q6;rw[decide_eq_true_eq];exact not_congr Iu.symm
 cases ms with
 |nil=>exact absurd ((c _).mpr f) Jt
 |cons x r=>
  have d:=(c x).mp Jr;have m:Qb S a∈x::r:=(c _).mpr f
  have i:x<=Qb S a:=by
   rcases Jg.mp m with e|e
   .rw[e];exact GZ _
   .exact(KN.mp hp).1 _ e
  have l:¬x<Qb S a:=λz=>by
   have g:0<=x:=by
    refine Int.not_lt.mp λy=>?_
    have:=Jz d
    rw[h.out (.inl y),h'.out (.inl y)]at this;exact this Z
   rw[j x g z]at d;cases d
  show ↑x=_
  congr 1
  lia
noncomputable def zn(D:Dr)(age:Int)(o:Ο):List (Int×Int):=match o with
 |none=>[]
 |some e=>zw D e age
noncomputable def QJ(D:Dr)(o:Ο)(D':Dr)(o':Ο):Option (Int×Int):=Qh 0 D.kss.length λa=>if zn D a o=zn D' a o' then none else ↑(a,Qb (zn D a o) (zn D' a o'))
def sP{D D':Dr}(hk:D.kss.length=D'.kss.length)(o o':Ο):QJ D o D' o'=QJ D' o' D o:=by
 unfold QJ;rw[hk];refine am λa _ _=>?_
 by_cases z:zn D a o=zn D' a o'
 .rw[Jc z,Jc z.symm]
 .rw[Jb z,Jb (Ne.symm z),uf]
def aV(h:QJ D o D' o'=none){a:Int}(a0:0<=a)(c:a<D.kss.length):zn D a o=zn D' a o':=by
 unfold QJ Qh at h
 have:=K8.mp h a (JC.mpr #[a.toNat,JT.mpr (by lia),by lia])
 by_cases z:zn D a o=zn D' a o'
 .exact z
 .rw[Jb z]at this;cases this
structure MQ(D:Dr):Prop where
 n0:1<=D.near
 n1:D.near<=64
 nf:D.near<=D.far
 f1:D.far<=1024
 l0:0<=D.least
 lk:D.least<D.kss.length
def br(D:Dr):Ο->Prop
 |none=>True
 |some e=>MS D e
def gE(d:MQ D)(k:MS D e)(age:Int):NF (zw D e age):=by
 have l:=d.n0;have n1:=d.n1;have j:=k.l0;have m:=k.l1;unfold zw
 by_cases f:qL D e age=true
 case neg=>rw[Jb f];exact NF.nil
 rw[Jc f]
 by_cases h1:e.last+1<4096
 .rw[Jc h1]
  have g:(if 4095<e.last+D.near then 4095 else e.last+D.near)-(e.last+1)<=63:=by split<;>lia
  have one:NF [(e.last+1,if 4095<e.last+D.near then 4095 else e.last+D.near)]:=#[.one _ _ (by split<;>lia),λp a=>by rw[Ji.mp a];simp only;split<;>lia,JN (mP g) ⋯]
  cases ew:e.wt with
  |none=>exact one
  |some xw=>
   let#[x,w]:=xw;have i:=k.w x w ew;simp only
   by_cases c:x=age/\w+1<=(if 4095<e.last+D.far then 4095 else e.last+D.far)
   .rw[Jc c]
    have h:=c.2;refine#[.two _ _ _ (by split<;>lia) (by split<;>lia),λp a=>?_,BI g]
    rcases Jg.mp a with rfl|a
    .exact one.bd _ Jr
    .rw[Ji.mp a];simp only;split at h<;>lia
   .rw[Jb c,Ic];exact one
 .rw[Jb h1]
  cases ew:e.wt with
  |none=>exact NF.nil
  |some xw=>
   let#[x,w]:=xw;have i:=k.w x w ew;simp only
   rw[Jb (λz=>by have:=z.2;split at this<;>lia)]
   exact NF.nil
def aN(d:MQ D)(k:br D o)(age:Int):NF (zn D age o):=by
 cases o with
 |none=>exact NF.nil
 |some e=>exact gE d k age
def Z6{c:Int}(d:MQ D)(k:MS D e)(f:0<=c)(g:c<4096):MS D (qR D e age c).2:=by
 unfold qR
 by_cases a:qL D e age=true
 .rw[Jc a];exact m9 k (eU a) (ZD a d.l0).2 f g
 .rw[Jb a];exact k
def AO{D:Dr}(n1:D.near<=13)(age:Int):(qB (zw D e age)).length<=28:=by
 have one:∀{x y:Int},y-x<=13->((Ag (y+1-x).toNat).map λi:Nat=>x+(i:Int)).length<=14:=λ{x y} h=>by
  rw[Je,E1];lia
 have a:∀A B:List (Int×Int),qB (A++B)=qB A++qB B:=λA B=>by unfold qB;rw[KO]
 unfold zw;split
 .rw[a,Jy]
  have h1:(qB (if e.last+1<4096 then [(e.last+1,if 4095<e.last+D.near then 4095 else e.last+D.near)]else [])).length<=14:=by
   split
   .unfold qB
    rw[KF,KL,Ic];exact one (by split<;>lia)
   .exact JB _
  have c:∀(p:Prop) [Decidable p] (z:Int),(qB (if p then [(z,z)]else [])).length<=14:=λp _ z=>by
   split
   .unfold qB
    rw[KF,KL,Ic];exact one (by lia)
   .exact JB _
  cases e.wt with
  |none=>exact JN h1 ⋯
  |some xw=>exact JN (Nat.add_le_add h1 (c _ _)) (by decide:14+14<=28)
 .exact JB _
def Rt(D:Dr)(o:Ο)(D':Dr)(o':Ο):Prop:=∀a,PD (zn D a o) (zn D' a o')
def Rt.narrow{D D':Dr}{o':Ο}(h:D.near<=13)(h':D'.near<=13):Rt D o D' o':=λa=>PD.few (by
 have c:∀{D:Dr} {o:Ο},D.near<=13->(qB (zn D a o)).length<=28:=λ{D o} h=>by
  cases o with
  |none=>exact JB _
  |some e=>exact AO h a
 have:=c (o:=o) h
 have:=c (o:=o') h'
 lia)
noncomputable def ac(D:Dr)(o:Ο)(D':Dr)(o':Ο):Option ((Int×Int)×Int×Int):=match o,o' with
 |some e,↑e'=>Qh (zS D e D' e') (QH (zS D e D' e'+2) 4096-zS D e D' e').toNat λc=>(QJ D (some (qR D e (qG e.age D.least) c).2) D' (some (qR D' e' (qG e.age D.least) c).2)).map λp=>((qG e.age D.least,c),p)
 |_,_=>none
def ZZ(d:MQ D)(k:MS D e)(h1:e.last+1<4096):zw D e a≠[]↔qG e.age D.least<=a/\a<D.kss.length:=by
 unfold zw
 by_cases c:qL D e a=true
 .rw[Jc c,Jc h1]
  refine#[λ_=>?_,λ_ z=>by cases z]
  have j:=eU c;have h:=(ZD c d.l0).2;unfold qL Q8 at c;rw[JF,JF]at c;have i:=Jz c.1.1;unfold qG;split<;>lia
 .rw[Jb c]
  refine#[λz=>absurd Z z,λ⟨f,g⟩=>absurd ?_ c]
  unfold qL Q8
  have:e.age<=a/\D.least<=a:=by unfold qG at f;split at f<;>lia
  rw[Jj this.2,Jj g,Jj this.1];rfl
def iB(d:MQ D)(k:MS D e)(h1:¬e.last+1<4096)(a:Int):zw D e a=[]:=by
 have f:=d.n0;unfold zw
 by_cases c:qL D e a=true
 .rw[Jc c,Jb h1]
  cases ew:e.wt with
  |none=>rfl
  |some xw=>
   let#[x,w]:=xw;have g:=k.w x w ew;simp only
   rw[Jb (λz=>by have:=z.2;split at this<;>lia)];rfl
 .rw[Jb c]
def Gs(D:Dr)(o:Ο)(D':Dr)(o':Ο):Prop:=Rt D o D' o'/\∀e e',o=↑e->o'=↑e'->∀c,zS D e D' e'<=c->c<4096->Rt D (some (qR D e (qG e.age D.least) c).2) D' (some (qR D' e' (qG e.age D.least) c).2)
def Ra(D D':Dr):Prop:=∀nm,Gs D (D.kn.lookup nm) D' (D'.kn.lookup nm)
theorem Ra.narrow{D D':Dr}(h:D.near<=13)(h':D'.near<=13):Ra D D':=λnm=>#[Rt.narrow h h',λ_ _ _ _ _ _ _=>Rt.narrow h h']
abbrev zi:=List (Str×Int×Int)
noncomputable def Qm(D D':Dr)(nm:Str):Option zi:=(QJ D (D.kn.lookup nm) D' (D'.kn.lookup nm)).map λp=>[(nm,p.1,p.2)]
noncomputable def Zx(D D':Dr)(nm:Str):Option zi:=(ac D (D.kn.lookup nm) D' (D'.kn.lookup nm)).map λp=>[(nm,p.1.1,p.1.2),(nm,p.2.1,p.2.2)]
noncomputable def zE(D D':Dr)(ns:Α):Option zi:=match ns.findSome? (Qm D D')with
 |some r=>↑r
 |none=>ns.findSome? (Zx D D')
def n9(D:Dr):Prop:=∀nm,br D (D.kn.lookup nm)
def Bg{ns:Α}{r:zi}(no:ns.findSome? (Qm D D')=none)(h:zE D D' ns=↑r):r.length=2:=by
 unfold zE at h;rw[no]at h;let#[nm,_,e]:=KG h
 unfold Zx at e;let#[p,_,rfl]:=JO.mp e;rfl
def uT{ns ms:Α}(h1:ns.Nodup)(h2:ms.Nodup)(c:sortedS ns=true)(a:sortedS ms=true)(h:∀k,k∈ns↔k∈ms):ns=ms:=
 hV ((Ph h1 h2).mpr h) c (RP _) a
def Qi(D:Dr)(nm:Str)(a c:Int):Bool:=decide (qE D nm a c="open")
noncomputable def oG(D D':Dr)(lo:Int)(n:Nat)(nm:Str)(a:Int):Option zi:=Qh lo n λc=>if Qi D nm a c=Qi D' nm a c then none else some [(nm,a,c)]
noncomputable def Qd(D D':Dr)(c:Nat)(lo:Int)(n:Nat)(nm:Str):Option zi:=Qh 0 c λa=>oG D D' lo n nm a
def CN{c d:Type}(lo:Int)(n:Nat)(f:Int->Option c)(g:c->d):(Qh lo n f).map g=Qh lo n λa=>(f a).map g:=by
 unfold Qh
 induction ((Ag n).map λi:Nat=>lo+(i:Int))with
 |nil=>rfl
 |cons x r ih=>
  rw[KC,KC];cases e:f x with
  |some y=>rfl
  |none=>exact ih
def yl{a:Type}(lo:Int)(n:Nat)(p:Int->Bool)(g:Int->a):(Qh lo n λc=>if p c=true then ↑(g c)else none)=(Qw lo (lo+n) p).map g:=by
 unfold Qh Qw;rw[show(lo+(n:Int)-lo).toNat=n by lia]
 induction ((Ag n).map λi:Nat=>lo+(i:Int))with
 |nil=>rfl
 |cons x r ih=>
  rw[KC,Lx];cases e:p x with
  |true=>rfl
  |false=>exact ih
theorem PR.same(h:PR H v o)(s:HJ H H'):PR H' v o:=by
 cases o with
 |none=>exact h
 |some e=>let#[a,c,h1]:=h;exact#[a,c,h1.same s]
def RX{D:Dr}{Q:VK}(h:∀v,PR H v (D.kn.lookup nm)->Q v H):(D.kn.lookup nm=none->Q .non H)/\(∀e a,D.kn.lookup nm=↑e->Na H a e->Q (-a) H):=
 #[λe=>h _ (by rw[e];rfl),λe a c h1=>h _ (by rw[c];exact#[a,Z,h1])]
def j9{S:List (Int×Int)}{i:Nat}{z:Int×Int}(h:S[i]? =↑z):qB (S.take (i+1))=qB (S.take i)++(Ag (z.2+1-z.1).toNat).map λk:Nat=>z.1+(k:Int):=by
 unfold qB;rw[Ie,h,KO]
 show _++List.flatMap _ [z]=_
 rw[KF,KL,Ic]
noncomputable def N4(H:Hp)(v:V):Option zi->Prop
 |none=>v= .non
 |some r=>∃(t:Δ) (as:Η),v= .ref t/\H t=↑(.tup (as.map V.ref))/\as.length=r.length/\∀(i:Nat) (a:Δ) (z:Str×Int×Int),as[i]? =↑a->r[i]? =↑z->H a=↑(.tup [.str z.1,.int z.2.1,.int z.2.2])
def N4.same(h:N4 H v o)(s:HJ H H'):N4 H' v o:=by
 cases o with
 |none=>exact h
 |some r=>
  let#[t,c,e,h1,f,d]:=h
  exact#[t,c,e,s _ _ h1,f,λi a z j g=>s _ _ (d i a z j g)]
def N4.eqk{K:ι}(h:N4 H v o)(g:N4 H u o):P0 K H 2 v u:=by
 cases o with
 |none=>
  have h:v= .non:=h
  have g:u= .non:=g
  rw[h,g];exact .non 2
 |some r=>
  let#[t,w,rfl,h1,d,f]:=h;let#[s,bs,rfl,l,m,q]:=g;refine .tup (HX.of h1) (HX.of l) (by rw[Je,Je,d,m]) λi x y ex c=>?_
  rw[Jo]at ex c;let#[a,e,rfl]:=JO.mp ex;let#[b,p,rfl]:=JO.mp c;have hi:i<r.length:=by rw[<- d];exact(Jw.mp e).1
  refine .tup (n:=0) (HX.of (f i a _ e (Jh hi))) (HX.of (q i b _ p (Jh hi))) Z λj x y ex c=>?_
  match j,ex,c with
  |0,ex,c=>cases ex;cases c;exact .str _ _
  |1,ex,c=>cases ex;cases c;exact .int _ _
  |2,ex,c=>cases ex;cases c;exact .int _ _
  |j+3,ex,c=>cases ex
def N4.eqw(h:N4 H v o)(g:N4 H u o)(hl:∀r,o=↑r->r.length<=2):OJ H 2 v u:=by
 cases o with
 |none=>
  have h:v= .non:=h
  have g:u= .non:=g
  rw[h,g];exact .non 2
 |some r=>
  let#[t,w,rfl,h1,d,f]:=h;let#[s,bs,rfl,l,m,q]:=g
  have:=hl r Z
  refine .tup (Rd.of h1) (Rd.of l) (by rw[Je,Je,d,m]) (by rw[Je,d,JD];lia) λi x y ex c=>?_
  rw[Jo]at ex c;let#[a,e,rfl]:=JO.mp ex;let#[b,p,rfl]:=JO.mp c;have hi:i<r.length:=by rw[<- d];exact(Jw.mp e).1
  refine .tup (n:=0) (Rd.of (f i a _ e (Jh hi))) (Rd.of (q i b _ p (Jh hi))) Z (by show 3<=ζ;decide) λj x y ex c=>?_
  match j,ex,c with
  |0,ex,c=>cases ex;cases c;exact .str _ _
  |1,ex,c=>cases ex;cases c;exact .int _ _
  |2,ex,c=>cases ex;cases c;exact .int _ _
  |j+3,ex,c=>cases ex
def N4.one{H:Hp}{z:Str×Int×Int}(h:H t=↑(.tup [-a]))(h1:H a=↑(.tup [.str z.1,.int z.2.1,.int z.2.2])):N4 H (-t) (some [z]):=by
 refine#[t,[a],Z,h,Z,λi b y c d=>?_]
 cases i with
 |zero=>cases c;cases d;exact h1
 |succ i=>cases c
noncomputable def GT(H:Hp)(v:V):Option ((Int×Int)×Int×Int)->Prop
 |none=>v= .non
 |some p=>∃(t x y:Δ),v= .ref t/\H t=↑(.tup [-x,-y])/\H x=↑(.tup [.int p.1.1,.int p.1.2])/\H y=↑(.tup [.int p.2.1,.int p.2.2])
section
variable(K:ι)(C:Δ)
inductive oW|mk (t:Δ)(S:List (Int×Int))(h1:vs=[-t])(h2:Oe H t S)(h3:NF S)(h4:∀l H',HJ H H'->H' l=↑(.lst ((qB S).map V.int))->Q (-l) H')
inductive tG|mk (t t':Δ)(S S':List (Int×Int))(h1:vs=[-t,-t'])(h2:Oe H t S)(h3:Oe H t' S')(h4:NF S)(h5:NF S')(h6:S≠S')(h7:PD S S')(h8:∀H',HJ H H'->Q (.int (Qb S S')) H')
inductive Ak|mk (p ta hk bd lg:Δ)(n:Nat)(D:Dr)(v:V)(o:Ο)(p' ta' hk' bd' lg':Δ)(n':Nat)(D':Dr)(v':V)(o':Ο)(h1:vs=[-p,v,-p',v'])(h2:HL K C H p ta hk bd lg n D)(h3:PR H v o)(h4:HL K C H p' ta' hk' bd' lg' n' D')(h5:PR H v' o')(h6:MQ D)(h7:MQ D')(h8:br D o)(h9:br D' o')(h10:D.kss.length<=8)(h11:Rt D o D' o')(h12:∀u H',HJ H H'->P9 H' u (QJ D o D' o')->Q u H')
inductive wG|mk (p ta hk bd lg:Δ)(n:Nat)(D:Dr)(v:V)(o:Ο)(p' ta' hk' bd' lg':Δ)(n':Nat)(D':Dr)(v':V)(o':Ο)(h1:vs=[-p,v,-p',v'])(h2:HL K C H p ta hk bd lg n D)(h3:PR H v o)(h4:HL K C H p' ta' hk' bd' lg' n' D')(h5:PR H v' o')(h6:MQ D)(h7:MQ D')(h8:br D o)(h9:br D' o')(h10:D.kss.length<=8)(h11:Gs D o D' o')(h12:∀u H',HJ H H'->GT H' u (ac D o D' o')->Q u H')
structure OZ(D:Dr):Prop where
 ok:Nw D
 dn:MQ D
 kn:n9 D
 few:D.kn.length<=30
inductive iN|mk (p ta hk bd lg:Δ)(n:Nat)(D:Dr)(p' ta' hk' bd' lg':Δ)(n':Nat)(D':Dr)(h1:vs=[-p,-p'])(h2:HL K C H p ta hk bd lg n D)(h3:HL K C H p' ta' hk' bd' lg' n' D')(h4:OZ D)(h5:OZ D')(h6:Ra D D')(h7:∀u ns H',HJ H H'->ns.Nodup->(∀k,k∈ns↔k∈D.kn.map (·.1)\/k∈D'.kn.map (·.1))->sortedS ns=true->N4 H' u (zE D D' ns)->Q u H')
inductive rQ|mk (p ta hk bd lg:Δ)(n:Nat)(D:Dr)(p' ta' hk' bd' lg':Δ)(n':Nat)(D':Dr)(h1:vs=[-p,-p'])(h2:HL K C H p ta hk bd lg n D)(h3:HL K C H p' ta' hk' bd' lg' n' D')(h4:OZ D)(h5:OZ D')(h6:Ra D D')(h7:∀ns H',HJ H H'->ns.Nodup->(∀k,k∈ns↔k∈D.kn.map (·.1)\/k∈D'.kn.map (·.1))->sortedS ns=true->Q (.bl (zE D D' ns).isNone) H')
end
inductive Fd(K:ι)(C:Δ)|mk (p ta hk bd lg:Δ)(n:Nat)(D:Dr)(nm:Str)(h1:vs=[-p,.str nm])(h2:HL K C H p ta hk bd lg n D)(h3:∀v,PR H v (D.kn.lookup nm)->Q v H)
def Mf.ofO{K:ι}(a:Mf P w K mg base C "button_of" X6 1 (gG K C)):Mf P w K mg base C "button_of" X6 1 (Fd K C):=
 a.weak λvs H Q E ⟨p,ta,hk,bd,lg,n,D,nm,e,b,q⟩=>#[p,ta,hk,bd,lg,n,D,nm,e,b,(L3.RX q).1,(L3.RX q).2]
end L3
namespace Lw
open PySem L2 L3
section
variable{K:ι}{tk:Nat->Tok}
def iW(a:At K mg "stretches_of" ZW ["door","button","age"])(T:MW K mg tk)(U:ND K C)(dC:Mf P w K mg base C "takes_from" W1 2 (cx K C))(dE:Mf P w K mg base C "bounds_told" W8 1 (gr K C)):Df P w K mg base "stretches_of" V1 3 (uL K C):=by
 refine a.dq ME λf _ A _ s H vs Q E hr h=>?_
 .let#[p,ta,hk,bd,lg,n,D,v,o,age,rfl,b,O,q]:=h
  exists _,(qd (qC (QW.pt (Qc (qw zX (qv 1) qP (qq _)) (zP (Ql (zk (zb dC U.cl hr.mo (qv 0) (qc (qv 1) (qc (qv 2) qa)))))))) (qe (qj (qu qa))) qt)
   (qd (q9 (Zw dE U.cl hr.mo (qv 0)) (zf Z (qh (qg (i:=3) ME.nd Z (Pr Z)) (qh (qg (i:=4) ME.nd Z (Pr Z)) (qh (qg (i:=5) ME.nd Z (Pr Z)) qK)))))
   (qd (q9 (qv 1) (zf Z (qh (qg (i:=6) ME.nd Z (Pr Z)) (qh (qg (i:=7) ME.nd Z (Pr Z)) (qh (qg (i:=8) ME.nd Z (Pr Z)) qK)))))
   (qd (qA (i:=9) ME.nd Z (Pr Z) (za qa))
   (qd (qC (qw bP (qr qM (qv 7) qf) (zm (v:= .int 4096) Z T.g_COUNTS #[0]) (qq _)) (qe (zc (Q1 Il IJ IK zV (qv 9) (qc (qu (qc (qr qM (qv 7) qf) (qc (qk (Q7 Z) T.b_min RL (qc (qr qM (qv 7) (qv 3)) (qc (qr Qu (zm (v:= .int 4096) Z T.g_COUNTS #[0]) qf) qa))) qa))) qa)))) qt)
   (qd (qC (QW.pt (bw (qw Z1 (qv 8) qP (qq _)) (aQ (qw zu (qx qN (qv 8) qf) (qv 2) (qq _))))) (qd (qA (i:=10) ME.nd Z (Pr Z) (qr qM (qx qN (qv 8) qf) qf))
   (qe (qC (qw Z8 (qv 10) (qk (Q7 Z) T.b_min RL (qc (qr qM (qv 7) (qv 4)) (qc (qr Qu (zm (v:= .int 4096) Z T.g_COUNTS #[0]) qf) qa))) (qq _)) (qe (zc (Q1 Il IJ IK zV (qv 9) (qc (qu (qc (qv 10) (qc (qv 10) qa))) qa)))) qt))) qt)
   (qe (qj (qI zp T.b_tuple JL (qc (qv 9) qa))))))))))
  have j:(∀t H',HJ H H'->Oe H' t []->Q (-t) H')->∀t,H t=none->Q (-t) (HM H t (.tup [])):=λq t F=>q t _ (HJ.upd F) #[[],qb,Z,λi a z h=>by cases h]
  cases o with
  |none=>
   have O:v= .non:=O
   subst O
   exact#[3,Qp (Jj Z) (zo #[Hh,j q])]
  |some e=>
  let#[x,rfl,X,hx,hw]:=O;refine#[3,qZ (λy=>nomatch (Jz y)) (λ_=>?_)]
  exists 0,p,Z,b.no,2,p,ta,hk,bd,lg,x,n,D,e,age,Z,b,#[X,hx,hw],0
  have q:∀t H',HJ H H'->Oe H' t (zw D e age)->Q (-t) H':=q
  unfold zw at q;cases F:qL D e age with
  |false=>
   rw[Jb (by rw[F];intro z;cases z)]at q
   exact zo #[Hh,j q]
  |true=>
  rw[Jc F]at q;let#[N,R]:∃N:List (Int×Int),(if e.last+1<4096 then [(e.last+1,if 4095<e.last+D.near then 4095 else e.last+D.near)]else [])=N:=#[0]
  rw[R]at q;have hA:N.length<=1:=by rw[<- R];split<;>simp
  refine zh ?_
  refine#[0,p,Z,b.no,p,ta,hk,bd,lg,n,D,Z,b,λt1 H1 S a3=>#[t1,0,.tup a3,7,?_]]
  exists 0,x,0,.tup (S _ _ hx),7
  refine#[Hh,λG L=>?_]
  have u2:=HJ.upd (o:= .lst []) L
  have B:=QR L S;refine QM (λI H'=>HJ H H'/\Ry H' G N/\I=[↑(-p),↑(-x),↑(.int age),↑(.int D.near),↑(.int D.far),↑(.int D.most),↑(.int e.age),↑(.int e.last),↑X,↑(-G),none]) (λD' a1 d=>?_) ?_
  .exists 54
   by_cases h1:e.last+1<4096
   .refine Qp (Jj h1) ?_
    refine#[0,.inl #[43,HQ.of qb],33,Ho,λy u=>#[G,6,(HJ.upd u) _ _ qb,by show 0<ζ;decide,d _ _ #[?_,?_,Z]]]
    .exactλc o e=>by rw[qp (qm e B)];exact HJ.upd u _ _ (u2 _ _ (S _ _ e))
    .rw[<- R,Jc h1]
     exact Ry.add (as:=[]) (zs:=[]) ((HJ.upd u) _ _ qb) Z (λi a z h=>by cases h) qb
   .refine QC (Jn h1) (d _ _ #[S.trans u2,?_,Z])
    rw[<- R,Jb h1]
    exact#[[],qb,Z,λi a z h=>by cases h]
  rintro _ H3 ⟨M,m,rfl⟩
  refine DO (λI H'=>HJ H H'/\Ry H' G (N++(match e.wt with
   |none=>[]
   |some (x,w)=>if x=age/\w+1<=(if 4095<e.last+D.far then 4095 else e.last+D.far)then [(w+1,w+1)]else []))/\∃o,I=[↑(-p),↑(-x),↑(.int age),↑(.int D.near),↑(.int D.far),↑(.int D.most),↑(.int e.age),↑(.int e.last),↑X,↑(-G),o]) (λD' a1 d=>?_) ?_
  .have r:=hw.same M
   cases ew:e.wt with
   |none=>
    rw[ew]at r;have a2:X= .non:=r
    subst a2;simp only
    exact#[3,QC Z (zh (d _ _ #[M,by rw[ew];simp only;rw[Ic];exact m,0]))]
   |some xw=>
   let#[x',w']:=xw;rw[ew]at r;let#[wa,rfl,J]:=r;simp only
   refine#[3,Qp Z ?_]
   exists 0,wa,1,HX.of J,Z,_,Z,Z,_,Z
   by_cases Y:x'=age
   case neg=>
    refine QC (Jn (by intro z;injection z with z;exact Y z)) (d _ _ #[M,?_,0])
    rw[ew];simp only
    rw[Jb (λz=>Y z.1),Ic];exact m
   refine Qp (Jj (by rw[Y])) ?_
   exists 0,wa,1,HX.of J,25
   exists 29
   by_cases W:w'+1<=(if 4095<e.last+D.far then 4095 else e.last+D.far)
   .refine Qp (Jj W) ?_
    let#[as,g,l,has]:=m;refine#[0,.inl #[43,HQ.of g],2,Ho,λy u=>#[G,6,(HJ.upd u) _ _ g,by rw[Je,l,JD];omega,d _ _ #[?_,?_,0]]]
    .exactλc o e=>by rw[qp (qm e B)];exact HJ.upd u _ _ (M _ _ e)
    .rw[ew];simp only
     rw[Jc #[Y,W]];exact Ry.add ((HJ.upd u) _ _ g) l (λi a z e1 e2=>HJ.upd u _ _ (has i a z e1 e2)) qb
   .refine QC (Jn W) (d _ _ #[M,?_,0])
    rw[ew];simp only
    rw[Jb (λz=>W z.2),Ic];exact m
  rintro _ H4 ⟨s4,⟨as,g,l,has⟩,o,rfl⟩
  exact#[0,G,0,.inl #[HQ.of g,λt F=>q t _ (s4.trans (HJ.upd F)) #[as,qb,l,λi a z e1 e2=>HJ.upd F _ _ (has i a z e1 e2)]]]
def rq(a:At K mg "opens_at" cZ ["door","name","age"])(T:MW K mg tk)(U:ND K C)(i:Mf P w K mg base C "button_of" X6 1 (gG K C))(j:Df P w K mg base "stretches_of" V1 3 (uL K C)):Df P w K mg base "opens_at" ["door","name","age"] 4 (tN K C):=by
 refine a.dq rD λf _ A _ s H vs Q E d h=>?_
 .let#[p,ta,hk,bd,lg,n,D,nm,age,rfl,b,q]:=h
  exists _,(qe (qj (qo j d.mo (qc (qv 0) (qc (zb i U.cl d.mo (qv 0) (qc (qv 1) qa)) (qc (qv 2) qa))))))
  unfold Qe at q;refine#[2,p,Z,b.no,0,p,ta,hk,bd,lg,n,D,nm,Z,b,λc=>?_,λe x c g=>?_]
  .rw[c]at q
   exact#[0,p,ta,hk,bd,lg,n,D,.non,none,age,Z,b,Z,q]
  .rw[c]at q
   exact#[0,p,ta,hk,bd,lg,n,D,-x,↑e,age,Z,b,#[x,Z,g],q]
def fo(a:Ob K C "plain_step" "Door.plain_step" QB ["self","button","age","count"])(T:MW K mg tk)(U:ND K C)(j:Mf P w K mg base C "takes_from" W1 2 (cx K C))(l:Df P w K mg base "step_by" W0 2 jx):Mf P w K mg base C "plain_step" X0 3 (il K C):=by
 refine a.mq aq λf _ A _ s H vs Q E i h=>?_
 .let#[p,ta,hk,bd,lg,x,n,D,e,age,c,rfl,b,g,q]:=h
  exists _,(qd (qC (Ql (zk (zb j U.cl i.mo (qv 0) (qc (qv 1) (qc (qv 2) qa))))) (qe (qj (qu (qc qy (qc (qv 1) qa))))) qt)
   (qe (qj (qo l i.mo (qc (qv 1) (qc (qv 2) (qc (qv 3) (qc (qW (qv 0)) (qc (qW (qv 0)) qa)))))))))
  exists 0,p,Z,b.no,2,p,ta,hk,bd,lg,x,n,D,e,age,Z,b,g,0
  unfold qR at q;cases ht:qL D e age with
  |false=>
   rw[ht,Jb (by intro z;cases z)]at q
   refine zo #[0,Ho,λm d=>?_]
   exact q m x _ (HJ.upd d) qb (g.same (HJ.upd d))
  |true=>
  rw[ht,Jc Z]at q;refine zh ?_
  exact#[10,p,0,b.h_near U,0,p,0,b.h_far U,x,e,age,c,D.near,D.far,Z,g,q]
def jP(a:At K mg "names_known" az ["door"])(T:MW K mg tk)(U:ND K C)(I:Mf P w K mg base C "known_now" W8 1 (pO K C)):Df P w K mg base "names_known" ["door"] 2 (hX K C):=by
 refine a.dq jF λf _ A _ s H vs Q E L h=>?_
 .let#[p,ta,hk,bd,lg,n,D,rfl,b,ok,q]:=h
  exists _,(qe (qj (Qa (own:=["row"]) (fr:=[]) (js:=[]) Z (ao (Zw I U.cl L.mo (qv 0))) Z (λ_ _ h=>nomatch h) Z (bX Z nofun nofun nofun) (λ_ _ _ _=>qg (i:=0) (show P4 (["row"]:Α)from by decide +kernel) Z (Pr Z) (.inr Z)) (λ_ _ _ _=>(qx (jI (K:=K) Z) (qv 0) qf)))))
  refine#[0,p,Z,b.no,p,ta,hk,bd,lg,n,D,Z,b,ok,λG c H1 F pm N B=>?_]
  let#[z,t,o,has]:=B;have M:c.length<=60:=by rw[pm.length_eq,Je];exact ok.nl
  refine#[G,Z,#[_,HX.of t],bA (K:=K) (xs:=z.map V.ref) (by rw[Je,o,JD];omega) (λi ys j=>ys=(c.take i).map V.str/\HJ H1 j) #[by simp,HJ.refl _] (λi ys j ⟨_,d⟩=>HX.of (d _ _ t)) ?_ ?_]
  .rintro i ys j x r m ⟨rfl,d⟩
   rw[Jo]at r;let#[u,g,rfl]:=JO.mp r;have hi:i<c.length:=by rw[<- o];exact(Jw.mp g).1
   have es:c[i]? =some c[i]:=Jh hi
   let#[e,J]:=ar (pm.mem_iff.mp (IH hi))
   let#[v,h1,_]:=has i u c[i] e g es J
   refine#[0,u,1,HX.of (d _ _ h1),Z,?_,d]
   rw[Ie,es,JI];rfl
  .rintro ys j m ⟨rfl,d⟩ l y
   refine q l c _ ((F.trans d).trans (HJ.upd y)) pm ?_
   rw[qb,Je,o,Ip]
def lY(a:At K mg "lesser_end" bu ["one","first","other","second"])(T:MW K mg tk)(U:ND K C)(t:Mf P w K mg base C "bounds_told" W8 1 (gr K C)):Df P w K mg base "lesser_end" w5 2 (rK K C):=by
 refine a.dq lQ λf _ A _ s H vs Q E y h=>?_
 .let#[p,ta,hk,bd,lg,x,n,D,e,r,i,g,d,o,J,I,D',e',rfl,b,#[v,z,_],F,#[N,c,_],q]:=h
  exists _,(qe (qj (qk (Q7 Z) T.b_min RL (qc (qr qM (qx qN (qv 1) qf) (qx qN (Zw t U.cl y.mo (qv 0)) qf)) (qc (qr qM (qx qN (qv 3) qf) (qx qN (Zw t U.cl y.mo (qv 2)) qf)) qa)))))
  refine#[0,x,1,HX.of z,8,p,Z,b.no,p,ta,hk,bd,lg,n,D,Z,b,λL H1 j m=>#[L,1,HX.of m,25,?_]]
  have u:=F.same j
  exact#[0,J,1,HX.of (j _ _ c),8,r,Z,u.no,r,i,g,d,o,I,D',Z,u,λG M B l=>#[G,1,HX.of l,66,q _ (j.trans B)]]
def oy(a:At K mg "counts_in" bZ ["stretches"])(T:MW K mg tk):Df P w K mg base "counts_in" ["stretches"] 1 oW:=by
 refine a.dq mS λf _ A _ s H vs Q E hr h=>?_
 .let#[t,S,rfl,Y,ok,q]:=h
  exists _,(qe (qj (BC (own:=["first","last","count"]) (fr:=[]) (js:=[]) Z (ao (qv 0)) Z (λ_ _ h=>nomatch h) Z (bX Z nofun nofun nofun) (λ_ _ _ _=>jM (K:=K) Z 2 Z (qh (qg (i:=0) (show P4 (["first","last","count"]:Α)from by decide +kernel) Z (Pr Z) (.inr Z)) (qh (qg (i:=1) (show P4 (["first","last","count"]:Α)from by decide +kernel) Z (Pr Z) (.inr Z)) qK))) (λ_ _ _ _=>(k9 Z T.b_range (qc (qv 0) (qc (qr qM (qv 1) qf) qa)))) (λ_ _ _ _=>qg (i:=2) (show P4 (["first","last","count"]:Α)from by decide +kernel) Z (Pr Z) (.inr Z)) (λ_ _ _ _=>(qv 2)))))
  let#[B,C,M,has]:=id Y;have cl:∀i,(qB (S.take i)).length<=66:=λi=>by
   refine JN ?_ ok.cnt
   have e:qB S=qB (S.take i)++qB (S.drop i):=by unfold qB;rw[<- KO,KJ]
   rw[e,Jy];exact IZ _ _
  exists 0,t,Z,#[_,HX.of C]
  exists λi m ys g l=>m=S.length-i/\i<=S.length/\l=H/\ys=(qB (S.take i)).map V.int/\∃J R u,g=[J,R,u],#[S.length,by simp,JB _,Z,Z,_,_,_,Z]
  rintro i m ys g l ⟨rfl,hi,rfl,rfl,J,R,u,rfl⟩
  by_cases c:i<S.length
  .have o:S[i]? =some S[i]:=Jh c
   let#[z,ez]:∃z,z=S[i]:=#[0]
   rw[<- ez]at o;have d:i<B.length:=by rw[M];exact c
   have O:(B.map V.ref)[i]? =↑(.ref B[i]):=by rw[Jo,Jh d];rfl
   refine .inr #[#[15,HX.of C,O],λx H' y=>?_]
   let#[W,F]:H'=l/\(B.map V.ref)[i]? =↑x:=#[y.1,y.2 _ (HX.of C)]
   subst W;rw[O]at F;cases F;have hb:=ok.bd z (Ij o);exists 13,HX.of (has i _ z (Jh d) o),5
   exists 34,#[by omega,by omega,by omega,by omega]
   let#[n,r]:∃n,n=(z.2+1-z.1).toNat:=#[0]
   have ln:=cl (i+1);rw[j9 o,<- r,Jy,Je,E1]at ln;exists λi2 G zs g l=>G=n-i2/\i2<=n/\l=H'/\zs=(qB (S.take i)).map V.int++(Ag i2).map (λk:Nat=>V.int (z.1+(k:Int)))/\∃u,g=[↑(.int z.1),↑(.int z.2),u],#[n,by simp,JB _,Z,by simp,0]
   rintro i2 G zs g Hy ⟨rfl,a2,rfl,rfl,a1,rfl⟩
   by_cases j:i2<n
   .refine .inr #[by rw[<- r];exact j,by rw[Jy,Je,Je,E1,JD];omega,λX L U=>?_]
    let#[D,rfl]:L=Hy/\X= .int (z.1+(i2:Int)):=U
    subst D;refine#[λv N=>v= .int (z.1+(i2:Int))/\N=L,λv N I=>#[n-(i2+1),by omega,Z,j,I.2,?_,0],#[_,Z,Z,Z]]
    rw[I.1,Kh,JI,IU];rfl
   .obtain rfl:i2=n:=by omega
    refine .inl #[by rw[<- r];exact Jf _,S.length-(i+1),by omega,Z,c,Z,?_,18]
    rw[j9 o,<- r,JI,Ir];rfl
  .obtain rfl:i=S.length:=by omega
   refine .inl #[#[_,HX.of C,by rw[Je,M];exact Jf _],λp hp=>q p _ (HJ.upd hp) ?_]
   rw[qb,Ip]
def jE(a:At K mg "least_apart" au ["these","those"])(T:MW K mg tk)(x:Df P w K mg base "counts_in" ["stretches"] 1 oW):Df P w K mg base "least_apart" ["these","those"] 2 tG:=by
 refine a.dq j8 λf _ A _ s H vs Q E D h=>?_
 .let#[t,F,S,i,rfl,L,u,ok,c,ne,xs,q]:=h
  exists _,(qe (qj (qx qF (qk (lL Z) T.b_sorted Rp (qc (qr C1 (qI (jr Z) T.b_set SF (qc (qo x D.mo (qc (qv 0) qa)) qa)) (qI (jr Z) T.b_set SF (qc (qo x D.mo (qc (qv 1) qa)) qa))) qa)) qf)))
  have c1:=ok.cnt;have c2:=c.cnt;have sb:PySem.scanBound=4096:=Z
  refine#[0,t,S,Z,L,ok,λW H1 z O=>#[W,qB S,Z,HQ.of O,by omega,λm p=>?_]]
  have y:=HJ.upd (o:=bt P w m (S0.ddL (qB S))) p
  refine#[0,F,i,Z,(u.same z).same y,c,λG X v N=>#[G,qB i,Z,HQ.of N,by omega,λB g=>?_]]
  have C:=HJ.upd (o:=bt P w B (S0.ddL (qB i))) g
  have d:=v _ _ (qb (H:=H1) (a:=m) (o:=bt P w m (S0.ddL (qB S))))
  have d1:=gy (qB S);have Y:=gy (qB i);refine#[m,B,6,qm d g,C _ _ d,qb,bF _,bF _,by omega,by omega,λz3 n r U len e=>?_]
  have J:=HJ.upd (o:=bt P w z3 n) r
  refine#[z3,n,Z,qb,xs n U (λk=>by rw[e,ZH,ZH]),λl ms I pm pw=>?_]
  have M:=HJ.upd (o:= .lst (ms.map V.int)) I
  have R:=uv (ms:=ms) ok c (λk=>by rw[pm.mem_iff,e,ZH,ZH]) pw ne
  exact#[l,1,HQ.of qb,Qs (j:=0) (by rw[Jo,R];rfl),q _ (((((z.trans y).trans v).trans C).trans J).trans M)]
def jQ(a:At K mg "press_apart" ax ["one","first","other","second"])(T:MW K mg tk)(U:ND K C)(xG:Mf P w K mg base C "keys_now" W8 1 (sH K C))(S:Df P w K mg base "stretches_of" V1 3 (uL K C))(xP:Df P w K mg base "least_apart" ["these","those"] 2 tG):Df P w K mg base "press_apart" w5 4 (Ak K C):=by
 refine a.dq Nc λf _ A _ s H vs Q E j h=>?_
 .let#[p,ta,hk,bd,lg,n,D,v,o,Y,F,B,u,O,n',D',v',o',rfl,b,hv,b',L,dn,M,k,k',k8,xs,q]:=h
  exists _,(qd (zg JJ Z (zM Z T.b_range (qc (qk qT T.b_len J5 (qc (Zw xG U.cl j.mo (qv 0)) qa)) qa)) (qg (i:=4) Nc.nd Z (Pr Z))
   (qd (qA (i:=5) Nc.nd Z (Pr Z) (qo S j.mo (qc (qv 0) (qc (qv 1) (qc (qv 4) qa)))))
   (qd (qA (i:=6) Nc.nd Z (Pr Z) (qo S j.mo (qc (qv 2) (qc (qv 3) (qc (qv 4) qa)))))
   (qe (qC (qw (E8 j) (qv 5) (qv 6) (qq _)) (qe (qj (qu (qc (qv 4) (qc (qo xP j.mo (qc (qv 5) (qc (qv 6) qa))) qa))))) qt)))))
   (qe (qj qP)))
  refine#[0,p,Z,b.no,p,ta,hk,bd,lg,n,D,Z,b,λt0 as H0 s0 sq la _=>#[t0,0,.inr sq,0,by omega,by rw[Je,la];omega,?_]]
  rw[Je,la,Iw];refine Qx (n:=D.kss.length) (Pv:=λi σ Hx=>HJ H Hx/\(∀x:Int,0<=x->x<0+(i:Int)->zn D x o=zn D' x o')/\∃m I t,σ=[↑(-p),↑v,↑(-Y),↑v',m,I,t]) #[s0,λx h1 h2=>by omega,18] ?_ ?_
  .rintro i σ H1 hi ⟨e,no,m,I,t,rfl⟩
   let#[A,R]:∃A:Int,A=0+(i:Int):=#[0]
   rw[<- R]at no⊢;refine#[4,p,ta,hk,bd,lg,n,D,v,o,A,Z,b.same e,hv.same e,λN H2 s2 d=>?_]
   have S2:=e.trans s2;refine#[4,Y,F,B,u,O,n',D',v',o',A,Z,b'.same S2,L.same S2,λr H3 X c=>?_]
   have d:Oe H3 N (zn D A o):=Oe.same X d
   have c:Oe H3 r (zn D' A o'):=c
   have S3:=S2.trans X;refine#[2,N,r,6,d,c,0,qZ (λy=>?_) (λy=>?_)]
   .have ne:=Jz y
    refine#[4,N,r,13,d,c,aN dn k A,aN M k' A,ne,xs A,λH4 s4=>#[Ho,λW l=>?_]]
    have J:QJ D o D' o'=↑(A,Qb (zn D A o) (zn D' A o')):=by
     unfold QJ;refine QQ hi (by rw[<- R];exact Jb ne) λx g G=>Jc (no x g (by omega))
    have:=q (-W) _ ((S3.trans s4).trans (HJ.upd (o:= .tup [.int A,.int (Qb (zn D A o) (zn D' A o'))]) l))
    rw[J]at this;exact this #[W,Z,qb]
   .have eq:=SX.mp (λz=>y (Jj z))
    refine#[S3,λx g G=>?_,18]
    by_cases hx:x<A
    .exact no x g hx
    .obtain rfl:x=A:=by omega
     exact eq
  .rintro σ H1 ⟨e,no,m,I,t,rfl⟩
   have J:QJ D o D' o'=none:=zA λx g G=>Jc (no x g G)
   have:=q .non _ e
   rw[J]at this;exact this Z
def lJ(a:At K mg "pair_apart" bh ["one","first","other","second"])(T:MW K mg tk)(U:ND K C)(xA:Mf P w K mg base C "closed_now" W8 1 (kD K C))(dD:Mf P w K mg base C "plain_step" X0 3 (il K C))(xV:Df P w K mg base "lesser_end" w5 2 (rK K C))(dP:Df P w K mg base "press_apart" w5 4 (Ak K C)):Df P w K mg base "pair_apart" w5 5 (wG K C):=by
 refine a.dq MG λf _ A _ s H vs Q E S h=>?_
 .let#[p,ta,hk,bd,lg,n,D,v,o,O,r,m,l,t,n',D',v',o',rfl,b,Y,X,g,I,d,k,W,k8,xs,q]:=h
  exists _,(qd (qC (QW.pt (Qc (qw zX (qv 1) qP (qq _)) (zP (qw zX (qv 3) qP (qq _))))) (qe (qj qP)) qt)
   (qd (qA (i:=4) MG.nd Z (Pr Z) (qk (bJ Z) T.b_max Mp (qc (qx qN (qv 1) qf) (qc (Zw xA U.cl S.mo (qv 0)) qa))))
   (qd (qA (i:=5) MG.nd Z (Pr Z) (qo xV S.mo (qc (qv 0) (qc (qv 1) (qc (qv 2) (qc (qv 3) qa))))))
   (qd (zg JJ Z (k9 Z T.b_range (qc (qv 5) (qc (qk (Q7 Z) T.b_min RL (qc (qr qM (qv 5) qf) (qc (zm (v:= .int 4096) Z T.g_COUNTS #[0]) qa))) qa))) (qg (i:=6) MG.nd Z (Pr Z))
   (qd (q9 (zb dD U.cl S.mo (qv 0) (qc (qv 1) (qc (qv 4) (qc (qv 6) qa)))) (zf Z (qh (qg (i:=7) MG.nd Z (Pr Z)) (qh (qg (i:=8) MG.nd Z (Pr Z)) qK))))
   (qd (q9 (zb dD U.cl S.mo (qv 2) (qc (qv 3) (qc (qv 4) (qc (qv 6) qa)))) (zf Z (qh (qg (i:=7) MG.nd Z (Pr Z)) (qh (qg (i:=9) MG.nd Z (Pr Z)) qK))))
   (qd (qA (i:=10) MG.nd Z (Pr Z) (qo dP S.mo (qc (qv 0) (qc (qv 8) (qc (qv 2) (qc (qv 9) qa))))))
   (qe (qC (qw Z1 (qv 10) qP (qq _)) (qe (qj (qu (qc (qu (qc (qv 4) (qc (qv 6) qa))) (qc (qv 10) qa))))) qt))))))
   (qe (qj qP))))))
  cases o with
  |none=>
   have Y:v= .non:=Y
   subst Y
   exact#[3,Qp (Jj Z) (zo (q .non H (HJ.refl _) Z))]
  |some e=>
  let#[x,rfl,hx]:=Y;refine#[3,qZ (λy=>nomatch (Jz y)) (λ_=>?_)]
  cases o' with
  |none=>
   have g:v'= .non:=g
   subst g
   exact#[3,zo (q .non H (HJ.refl _) Z)]
  |some e'=>
  let#[x',rfl,J]:=g;refine#[3,zh ?_]
  have k:MS D e:=k
  have W:MS D' e':=W
  let#[w1,h1,b1]:=id hx;exists 0,x,1,HX.of h1,8,p,Z,b.no,p,ta,hk,bd,lg,n,D,Z,b,13
  refine#[10,p,ta,hk,bd,lg,x,n,D,e,O,r,m,l,t,x',n',D',e',Z,b,hx,X,J,λH1 s1=>?_]
  let#[A,eA]:∃A,A=qG e.age D.least:=#[0]
  let#[L,j]:∃L,L=zS D e D' e':=#[0]
  have Lb:0<=L/\L<=6000:=by
   have:=k.l0
   have:=k.l1
   have:=W.l0
   have:=W.l1
   have:=I.n0
   have:=I.nf
   have:=I.f1
   have:=d.n0
   have:=d.nf
   have:=d.f1
   rw[j];unfold zS QH;split<;>omega
  exists 45,#[by rw[<- j];omega,by rw[<- j];omega,by rw[<- j];split<;>omega,by rw[<- j];split<;>omega]
  have N:ac D ↑e D' ↑e'=Qh L (QH (L+2) 4096-L).toNat λc=>(QJ D (some (qR D e A c).2) D' (some (qR D' e' A c).2)).map λp=>((A,c),p):=by rw[j,eA];rfl
  refine Qx (lo:=zS D e D' e') (Pv:=λi σ Hx=>HJ H Hx/\(∀y:Int,L<=y->y<L+(i:Int)->QJ D (some (qR D e A y).2) D' (some (qR D' e' A y).2)=none)/\∃o6 o7 o8 o9 oa,σ=[↑(-p),↑(-x),↑(-O),↑(-x'),↑(.int A),↑(.int L),o6,o7,o8,o9,oa]) #[s1,λy h1 h2=>by omega,_,_,_,_,_,by rw[j,eA];rfl] ?_ ?_
  .rintro i σ H2 hi ⟨z,no,o6,o7,o8,o9,oa,rfl⟩
   rw[<- j]at hi⊢;have hi:i<(QH (L+2) 4096-L).toNat:=hi
   have R:(i:Int)<QH (L+2) 4096-L:=by omega
   have G:0<=L+(i:Int)/\L+(i:Int)<4096:=by unfold QH at R;split at R<;>omega
   refine#[0,p,Z,(b.same z).no,4,p,ta,hk,bd,lg,x,n,D,e,A,0,b.same z,hx.same z,λq1 a1 H3 s3 a8 a5=>#[q1,0,.tup a8,5,?_]]
   have S3:=z.trans s3;refine#[0,O,Z,(X.same S3).no,4,O,r,m,l,t,x',n',D',e',A,0,X.same S3,J.same S3,λq2 a2 H4 s4 b0 a7=>#[q2,0,.tup b0,5,?_]]
   have S4:=S3.trans s4;refine#[10,p,ta,hk,bd,lg,n,D,-a1,some (qR D e A (L+(i:Int))).2,O,r,m,l,t,n',D',-a2,some (qR D' e' A (L+(i:Int))).2,Z,b.same S4,#[a1,Z,a5.same s4],X.same S4,#[a2,Z,a7],I,d,Z6 I k G.1 G.2,Z6 d W G.1 G.2,k8,(by rw[eA];exact xs.2 e e' Z Z _ (by omega) G.2),λu H5 s5 B=>?_]
   have S5:=S4.trans s5;cases ep:QJ D (some (qR D e A (L+(i:Int))).2) D' (some (qR D' e' A (L+(i:Int))).2)with
   |none=>
    rw[ep]at B;have B:u= .non:=B
    subst B;refine#[3,zh #[S5,λy M F=>?_,20]]
    by_cases hy:y<L+(i:Int)
    .exact no y M hy
    .obtain rfl:y=L+(i:Int):=by omega
     exact ep
   |some pr=>
    rw[ep]at B;let#[tt,rfl,a3]:=B;refine#[3,zo ?_]
    refine#[2,Ho,λr1 a6=>#[0,Ho,λr2 a4=>?_]]
    have u1:=HJ.upd (o:= .tup [.int A,.int (L+(i:Int))]) a6
    have u2:=HJ.upd (o:= .tup [-r1,-tt]) a4
    have e1:ac D ↑e D' ↑e'=↑((A,L+(i:Int)),pr):=by
     rw[N];exact QQ hi (by rw[ep];rfl) λy M F=>by rw[no y M F];rfl
    have:=q (-r2) _ ((S5.trans u1).trans u2)
    rw[e1]at this;exact this #[r2,r1,tt,Z,qb,u2 _ _ qb,u2 _ _ (u1 _ _ a3)]
  .rintro σ H2 ⟨z,no,o6,o7,o8,o9,oa,rfl⟩
   have e1:ac D ↑e D' ↑e'=none:=by
    rw[N];refine zA λy M F=>?_
    rw[no y M (by rw[j]at F⊢;exact F)];rfl
   have:=q .non _ z
   rw[e1]at this;exact this Z
def vi(a:At K mg "telling" gn ["one","other"])(T:MW K mg tk)(U:ND K C)(yT:Mf P w K mg base C "button_of" X6 1 (gG K C))(dM:Df P w K mg base "names_known" ["door"] 2 (hX K C))(dP:Df P w K mg base "press_apart" w5 4 (Ak K C))(xT:Df P w K mg base "pair_apart" w5 5 (wG K C)):Df P w K mg base "telling" W6 6 (iN K C):=by
 have dB:=yT.ofO;refine a.dq Nj λf _ A _ s H vs Q E hr h=>?_
 .let#[p,ta,hk,bd,lg,n,D,S,O,N,M,G,n',D',rfl,b,b',td,B,xs,q]:=h
  exists _,(qd (qA (i:=2) Nj.nd Z (Pr Z) (qk (lX Z) T.b_sorted Rp (qc (qr Fa (qI (jd Z) T.b_set SF (qc (qo dM hr.mo (qc (qv 0) qa)) qa)) (qI (jd Z) T.b_set SF (qc (qo dM hr.mo (qc (qv 1) qa)) qa))) qa)))
   (qd (zg JJ Z (zv (qv 2)) (qg (i:=3) Nj.nd Z (SV Z))
   (qd (qA (i:=4) Nj.nd Z (Pr Z) (qo dP hr.mo (qc (qv 0) (qc (zb dB U.cl hr.mo (qv 0) (qc (qv 3) qa)) (qc (qv 1) (qc (zb dB U.cl hr.mo (qv 1) (qc (qv 3) qa)) qa))))))
   (qe (qC (qw Z1 (qv 4) qP (qq _)) (qe (qj (qu (qc (qr Z5 (qu (qc (qv 3) qa)) (qv 4)) qa)))) qt))))
   (qd (zg JJ Z (zv (qv 2)) (qg (i:=3) Nj.nd Z (SV Z))
   (qd (qA (i:=5) Nj.nd Z (Pr Z) (qo xT hr.mo (qc (qv 0) (qc (zb dB U.cl hr.mo (qv 0) (qc (qv 3) qa)) (qc (qv 1) (qc (zb dB U.cl hr.mo (qv 1) (qc (qv 3) qa)) qa))))))
   (qe (qC (qw Z1 (qv 5) qP (qq _)) (qe (qj (qI zp T.b_tuple JL (qc (Qa (own:=["press"]) (fr:=["name"]) (js:=[3]) Z (ao (qv 5)) Z (f6 Z) Z (fR Z nofun nofun nofun Z Z Z) (λ_ _ _ _=>qg (i:=0) (show P4 (["press","name"]:Α)from by decide +kernel) Z (Pr Z) (.inr Z)) (λ_ _ _ _=>(qr Z5 (qu (qc (qv 1) qa)) (qv 0)))) qa)))) qt))))
   (qe (qj qP)))))
  have b8:∀{D:Dr} {ss:Α},OZ D->ss.Perm (D.kn.map (·.1))->ss.length<=30:=λtd pm=>by rw[pm.length_eq,Je];exact td.few
  refine#[0,p,ta,hk,bd,lg,n,D,Z,b,td.ok,λn1 v H1 s1 b3 e1=>?_]
  have c3:=b8 td b3;have sb:PySem.scanBound=4096:=Z
  refine#[n1,v,Z,HQ.of e1,by omega,λz1 b5=>?_]
  have u1:=HJ.upd (o:=bv P w z1 (S0.ddL v)) b5
  refine#[0,S,O,N,M,G,n',D',Z,(b'.same s1).same u1,B.ok,λn2 I H2 s2 b1 e2=>?_]
  have e0:=b8 B b1;have d1:=gy v;have d2:=gy I;refine#[n2,I,Z,HQ.of e2,by omega,λz2 d=>?_]
  have u2:=HJ.upd (o:=bv P w z2 (S0.ddL I)) d
  have a3:=s2 _ _ (qb (H:=H1) (a:=z1) (o:=bv P w z1 (S0.ddL v)))
  refine#[z1,z2,6,qm a3 d,u2 _ _ a3,qb,bF _,bF _,by omega,λz3 ks c0 nd b4=>?_]
  have u3:=HJ.upd (o:=bv P w z3 ks) c0
  have kl:ks.length<=60:=by
   have:=i6 (m:=v++I) nd λk hk=>JP.mpr (((b4 k).mp hk).imp (ZH v k).mp (ZH I k).mp)
   rw[Jy]at this;omega
  refine#[z3,ks,Z,qb,by omega,λX e b6 a1 d6=>?_]
  have u5:=HJ.upd (o:= .lst (e.map V.str)) b6
  have S5:=((((s1.trans u1).trans s2).trans u2).trans u3).trans u5;have b7:∀k,k∈e↔k∈D.kn.map (·.1)\/k∈D'.kn.map (·.1):=λk=>by
   rw[a1.mem_iff,b4,ZH,ZH,b3.mem_iff,b1.mem_iff]
  have c4:e.Nodup:=a1.nodup_iff.mpr nd
  have nl:e.length<=60:=by rw[a1.length_eq];exact kl
  have q:∀u H',HJ H H'->N4 H' u (zE D D' e)->Q u H':=λu H' s t=>q u e H' s c4 b7 d6 t
  have k8:=td.ok.kl;clear u1 u2 u3 u5 a3 b4 a1 b3 b1 d1 d2 c3 e0 kl nd b5 d c0 b6 e1 e2 s1 s2;refine QM (λc2 H'=>HJ H H'/\H' X=↑(.lst (e.map V.str))/\e.findSome? (Qm D D')=none/\∃Y o4 W,c2=[↑(-p),↑(-S),↑(-X),Y,o4,W]) (λD0 d4 d0=>?_) ?_
  .exists 0,X,Z,#[_,HQ.of qb]
   refine zQ (K:=K) (a:=X) (xs:=e.map V.str) (λi σ R=>HJ H R/\R X=↑(.lst (e.map V.str))/\(∀j z,j<i->e[j]? =↑z->Qm D D' z=none)/\∃Y o4 W,σ=[↑(-p),↑(-S),↑(-X),Y,o4,W]) #[S5,qb,λj z g _=>absurd g (I1 _),18] (λi σ R _ h=>HQ.of h.2.1) ?_ ?_
   .rintro i z σ H6 hz ⟨c,e6,no,Y,o4,W,rfl⟩
    rw[Jo]at hz;let#[nm,J,rfl]:=JO.mp hz;refine#[2,p,Z,(b.same c).no,0,p,ta,hk,bd,lg,n,D,nm,Z,b.same c,λv1 a5=>?_]
    refine#[2,S,Z,(b'.same c).no,0,S,O,N,M,G,n',D',nm,Z,b'.same c,λv2 a4=>?_]
    refine#[p,ta,hk,bd,lg,n,D,v1,_,S,O,N,M,G,n',D',v2,0,b.same c,a5,b'.same c,a4,td.dn,B.dn,td.kn nm,B.kn nm,k8,(xs nm).1,λu H7 s7 l=>?_]
    have S7:=c.trans s7;cases ep:QJ D (D.kn.lookup nm) D' (D'.kn.lookup nm)with
    |none=>
     rw[ep]at l;have l:u= .non:=l
     subst l;refine#[3,zh #[S7,s7 _ _ e6,λj z g d=>?_,18]]
     by_cases a6:j<i
     .exact no j z a6 d
     .obtain rfl:j=i:=by omega
      have ez:z=nm:=JE (d.symm.trans J)
      rw[ez];unfold Qm;rw[ep];rfl
    |some pr=>
     rw[ep]at l;let#[tt,rfl,a2]:=l;refine#[3,zo ?_]
     refine#[0,Hl,λt0 F=>#[0,t0,tt,6,qb,(HJ.upd F) _ _ a2,Ht,λpp H9 s9 a8=>#[Hl,λr b2=>?_]]]
     have u9:=HJ.upd (o:= .tup [-pp]) b2
     have e1:zE D D' e=some [(nm,pr.1,pr.2)]:=by
      unfold zE;rw[cL (f:=Qm D D') J (show Qm D D' nm=some [(nm,pr.1,pr.2)] by unfold Qm;rw[ep];rfl) no]
     have:=q (-r) _ (((S7.trans (HJ.upd F)).trans s9).trans u9)
     rw[e1]at this;rw[d4];exact this (N4.one qb (u9 _ _ a8))
   .rintro σ H6 ⟨c,e6,no,Y,o4,W,rfl⟩
    refine d0 _ _ #[c,e6,cF λx hx=>?_,18]
    let#[j,g,rfl]:=HB.mp hx;exact no j _ (by rw[Je];exact g) (Jh g)
  clear S5
  rintro σ H5 ⟨s5,e5,b0,Y,o4,W,rfl⟩
  have et:zE D D' e=e.findSome? (Zx D D'):=by unfold zE;rw[b0]
  rw[et]at q;exists 0,X,Z,#[_,HQ.of e5]
  refine zQ (K:=K) (a:=X) (xs:=e.map V.str) (λi σ R=>HJ H R/\R X=↑(.lst (e.map V.str))/\(∀j z,j<i->e[j]? =↑z->Zx D D' z=none)/\∃Y o4 W,σ=[↑(-p),↑(-S),↑(-X),Y,o4,W]) #[s5,e5,λj z g _=>absurd g (I1 _),18] (λi σ R _ h=>HQ.of h.2.1) ?_ ?_
  .rintro i z σ H6 hz ⟨c,e6,no,Y,o4,W,rfl⟩
   rw[Jo]at hz;let#[nm,J,rfl]:=JO.mp hz;refine#[2,p,Z,(b.same c).no,0,p,ta,hk,bd,lg,n,D,nm,Z,b.same c,λv1 a5=>?_]
   refine#[2,S,Z,(b'.same c).no,0,S,O,N,M,G,n',D',nm,Z,b'.same c,λv2 a4=>?_]
   refine#[p,ta,hk,bd,lg,n,D,v1,_,S,O,N,M,G,n',D',v2,0,b.same c,a5,b'.same c,a4,td.dn,B.dn,td.kn nm,B.kn nm,k8,xs nm,λu H7 s7 l=>?_]
   have S7:=c.trans s7;cases ep:ac D (D.kn.lookup nm) D' (D'.kn.lookup nm)with
   |none=>
    rw[ep]at l;have l:u= .non:=l
    subst l;refine#[3,zh #[S7,s7 _ _ e6,λj z g d=>?_,18]]
    by_cases a6:j<i
    .exact no j z a6 d
    .obtain rfl:j=i:=by omega
     have ez:z=nm:=JE (d.symm.trans J)
     rw[ez];unfold Zx;rw[ep];rfl
   |some pr=>
    rw[ep]at l;let#[tt,x1,x2,rfl,a2,d5,d7]:=l;refine#[3,zo ?_]
    exists 0,tt,Z,#[_,HX.of a2]
    let#[zs,a7]:∃zs:zi,zs=[(nm,pr.1.1,pr.1.2),(nm,pr.2.1,pr.2.2)]:=#[0]
    refine bA (K:=K) (a:=tt) (xs:=[-x1,-x2]) (Ho) (λi ys R=>HJ H7 R/\∃L:Η,ys=L.map V.ref/\L.length=i/\∀(j:Nat) (a:Δ) (z:Str×Int×Int),L[j]? =↑a->zs[j]? =↑z->R a=↑(.tup [.str z.1,.int z.2.1,.int z.2.2])) #[HJ.refl _,[],9,λj a z h=>by cases h] (λi ys R h=>HX.of (h.1 _ _ a2)) ?_ ?_
    .rintro i2 ys H8 x hx d3 ⟨s8,L,rfl,la,has⟩
     let#[xa,y,rfl,c1,d8]:∃(xa:Δ) (y:Int×Int),x= .ref xa/\H7 xa=↑(.tup [.int y.1,.int y.2])/\∀z,zs[i2]? =↑z->z=(nm,y.1,y.2):=by
      rw[a7]
      match i2,hx with
      |0,hx=>cases hx;exact#[x1,pr.1,Z,d5,λz h=>by cases h;rfl]
      |1,hx=>cases hx;exact#[x2,pr.2,Z,d7,λz h=>by cases h;rfl]
     refine#[0,Hl,λt0 F=>#[0,t0,xa,6,qb,(HJ.upd F) _ _ (s8 _ _ c1),Ht,λpp H9 s9 a8=>?_]]
     have S9:=(HJ.upd (o:= .tup [.str nm]) F).trans s9
     refine#[s8.trans S9,L++[pp],by simp,by simp [la],λj a z h1 h2=>?_]
     by_cases g:j<L.length
     .rw[J3 g]at h1
      exact S9 _ _ (has j a z h1 h2)
     .rw[J9 (by omega)]at h1
      cases ej:j-L.length with
      |succ k=>rw[ej]at h1;cases h1
      |zero=>
       rw[ej]at h1;cases h1
       obtain rfl:j=i2:=by omega
       rw[d8 z h2];exact a8
    .rintro ys H8 d3 ⟨s8,L,rfl,la,has⟩ l8 d9
     have u8:=HJ.upd (o:= .lst (L.map V.ref)) d9
     refine#[l8,0,.inl #[HQ.of qb,λr b2=>?_]]
     have u9:=HJ.upd (o:= .tup (L.map V.ref)) b2
     have e1:e.findSome? (Zx D D')=↑zs:=cL (f:=Zx D D') J (show Zx D D' nm=↑zs by rw[a7];unfold Zx;rw[ep];rfl) no
     have:=q (-r) _ (((S7.trans s8).trans u8).trans u9)
     rw[e1]at this;exact this #[r,L,Z,qb,by rw[a7];exact la,λj a z h1 h2=>u9 _ _ (u8 _ _ (has j a z h1 h2))]
  .rintro σ H6 ⟨c,e6,no,Y,o4,W,rfl⟩
   have e1:e.findSome? (Zx D D')=none:=cF λx hx=>by
    let#[j,g,rfl]:=HB.mp hx;exact no j _ (by rw[Je];exact g) (Jh g)
   have:=q .non _ c
   rw[e1]at this;exact this Z
def BE(a:At K mg "agree" jS ["one","other"])(T:MW K mg tk)(x:Df P w K mg base "telling" W6 6 (iN K C)):Df P w K mg base "agree" W6 7 (rQ K C):=by
 refine a.dq BK λf _ A _ s H vs Q E B h=>?_
 .let#[p,ta,hk,bd,lg,n,D,G,j,d,c,i,v,D',rfl,b,y,td,l,xs,q]:=h
  exists _,(qe (qj (ze zX (qo x B.mo (qc (qv 0) (qc (qv 1) qa))) qP (qq _))))
  refine#[2,p,ta,hk,bd,lg,n,D,G,j,d,c,i,v,D',Z,b,y,td,l,xs,λu m H1 o z g F tl=>#[Z,?_]]
  have:=q m H1 o z g F
  cases e:zE D D' m with
  |none=>
   rw[e]at this tl;have tl:u= .non:=tl
   subst tl;exact this
  |some r=>
   rw[e]at this tl;let#[t,I,rfl,_]:=tl;exact this
end
end Lw
namespace L3
open PySem PySem.Spec PyProof.Rows L2
def wM(k:Nat)(js:Κ)(g:TG)(tk tv:TE)(σ:L2.St)(Q:VK)(J:It)(H1:Hp):Prop:=∃W:Nat->Nat->List (qJ×V)->L2.St->Hp->Prop,(∃m,W 0 m [] (σ0 k js σ) H1)/\∀i m ys e H,W i m ys e H->
 (J.stop i H/\∀p,H p=none->Q (-p) (HM H p (.dK ys)))\/(J.go i H/\ys.length<ζ/\∀x H',J.yld i H x H'->g x e H' λa h=>∃N:qJ->V->Hp->Prop,(∀k v c,N k v c->∃d,d<m/\W (i+1) d (MX ys k v) a c)/\tk a h λx c=>∃k,x=kV k/\tv a c λv f=>N k v f)
noncomputable def nG(k:Nat)(js:Κ)(a:TI)(g:TG)(tk tv:TE):TE:=λσ H Q=>a σ H (wM k js g tk tv σ Q)
def lN{C B a l:Φ}{it:Γ}{D:Δ}{c:Env}(I:Nat->Θ->Prop)
  (turn:∀n s,I n s->ε (model prog w) A (pyNext it) (λr e=>match r with
   |none=>R (.ok .next) e
   | some v=>ε (model prog w) A (letOwnedTupleGo a it v) (λ_ d=>ε (model prog w) A (assign a c v) (λ_ o=>ε (model prog w) A (eval C c) (λG y=>ε (model prog w) A (eval B c) (λF j=>
     ε (model prog w) A (dictSet D G F) (λ_ g=>∃m,m<n/\I m g) (λ_ _=>False) j) (λ_ _=>False) y)
     (λ_ _=>False) o) (λ_ _=>False) d) (λ_ _=>False) e) (λ_ _=>False) s)
  (n:Nat)(h:I n s):
  codeAny (model prog w) A (.compLoop (.DictComp C B [#[a,l,[],(0)]] f pos) 0 it (-D) c) R s:=by
 refine codeAny_loop Z I (λn s H=>?_) n h
 show ε _ _ ((compTurn (.DictComp C B [#[a,l,[],(0)]] f pos) 0 it (-D) c).onRaise (λx=>do noteFrame x c;theTreesLotGoes x)) _ _ s
 refine wpAny_noted ?_
 rw[compTurn_dict];refine Ja (Ib (Ja (Jx (turn n s H) (λr e i=>?_) λ_ _ h'=>h'.elim)))
 cases r with
 |none=>exact Jd i
 |some v=>
  refine Ja (Jx i (λ_ d p=>?_) λ_ _ h'=>h'.elim)
  refine Ja (Jx p (λ_ o z=>?_) λ_ _ h'=>h'.elim)
  exact Ja (Jd (Ja (Ja (Jx z (λG j q=>Ja (JM (Jx q (λF g u=>Ja (Ib (JM (Jx u (λ_ E t=>Jd #[Z,t]) λ_ _ h'=>h'.elim)))) λ_ _ h'=>h'.elim))) λ_ _ h'=>h'.elim))))
def g9{h:Ψ}{o:Obj}(d:h.DictOf (qS P w) a vs)(e:h.get? a=↑o)(v:Ν):o.data≠ .cell v:=by
 let#[o',es,ep,h1,f,c,_]:=d;rw[h1]at e;cases e
 rw[c];intro z;cases z
def wq{a:Scope}{cl:List (Str×Δ)}{b8:Pos}{fr own:Α}{use:Option (Γ->Sem Unit)}{Post:HG}
  {s:Θ}{H:Hp}
  (hc:X.calm=true)(hi:PI X tg q wi)(b1:closureFor a X.env=pure cl)(d1:∀y c,cl.lookup y=↑c->X.env.cells.lookup y=↑c)(d3:cl.map (·.1)=fr)
  (S:MU X a fr js)
  (hg:∀C s H fp,PG (qY X (own++fr) a cl C s H fp) tg g)(hk:∀C s H fp,PE (qY X (own++fr) a cl C s H fp) kx tk)(hv:∀C s H fp,PE (qY X (own++fr) a cl C s H fp) vx tv)
  (hs:∀x,foldedSetIterable q X.env x=pure x)
  (I:L2.HN X R0 σ H s)(h:nG own.length js wi g tk tv σ H Q)
  (c3:∀(b6 C:Δ) (s5:Θ) (H':Hp) (m:HH),L2.HN X R0 σ H' s5->s5.heap.Ns C m->O7 X R0 H' C->Q (-b6) H'->compPost (model X.prog X.w) X.A X.xe use Post (-b6) C (.ok .next) s5):
  ε (model X.prog X.w) X.A (comprehension (.DictComp kx vx [#[tg,q,[],(0)]] a pos) a X.env b8 newDict false (eval q X.env) use) Post X.xe s:=by
 refine wpAny_comprehension_free (use:=use) Z hs b1 S.kind S.names (qz (hi R0 s σ H _ I h) λv s1 h1=>qz h1 λe0 d h2=>?_)
 let#[it,fp,tn,J,H2,e,I2,T,c2,f2,W,#[m0,w0],turn]:=h2;subst e;refine J6 (wpAny_newFunctionEnv S.nocell (by intro y hy;simp at hy) (λF j f=>?_) S.kind)
 dsimp only at j f⊢
 have a3:(d.heap.push {cls:= .type "dict",dict:=none,data:= .dict (AA [])}).DictOf (qS X.prog X.w) d.heap.objs.size []:=Ψ.DictOf.new d.heap
 generalize hH2:d.heap.push {cls:= .type "dict",dict:=none,data:= .dict (AA [])}=G at j f a3⊢
 have hC:G.objs.size=d.heap.objs.size+1:=by rw[<- hH2,JU]
 have O:d.heap.objs.size≠G.objs.size:=by rw[hC];exact Jm (G0 _)
 have E:∀b,b<d.heap.objs.size->b≠G.objs.size/\b≠d.heap.objs.size:=λb t=>#[by rw[hC];exact Jm (Ik t),Jm t]
 have b7:∀b o,d.heap.get? b=↑o->F.get? b=↑o:=λb o e=>f.extBut b o (E b (Jl e)).1 (Jk _ (hH2▸Jk _ e))
 have a1:F.DictOf (qS X.prog X.w) d.heap.objs.size []:=a3.at λo e=>f.extBut _ _ O (Jk _ e)
 let Y:Cx:=qY X (own++fr) a cl G.objs.size d H2 fp
 let#[c0,IY,M,A,a6]:=cS (own:=own) (js:=js) d1 d3 S I2 T c2 f2 hC b7 j
 have R:∀l:Θ,HN Y [] (σ0 own.length js σ) H2 l->tn 0 l.heap->l.heap.DictOf (qS X.prog X.w) d.heap.objs.size []->
   codeAny (model X.prog X.w) X.A (.compLoop (.DictComp kx vx [#[tg,q,[],(0)]] a pos) 0 (-it) (-d.heap.objs.size) (compEnvC a cl G.objs.size X.env))
    (compPost (model X.prog X.w) X.A X.xe use Post (-d.heap.objs.size) G.objs.size) l:=by
  intro l I3 d7 b0;refine lN (λn s'=>∃i ys τ H' w ob,HN Y [(d.heap.objs.size,ob)] τ H' s'/\tn i s'.heap/\(∀b∈fp,H' b=none)/\KV ys w/\s'.heap.DictOf (qS X.prog X.w) d.heap.objs.size w/\ys.length<=ζ/\W i n ys τ H') ?_ m0 ?_
  .rintro n s4 ⟨i,ys,τ,H4,w,ob,I4,c4,b5,vl,dd,hz,w4⟩
   have a2:=I4.pin (d.heap.objs.size,ob) (by simp [Y,qY])
   rcases turn i n ys τ H4 w4 with⟨b3,qn⟩|⟨go,e1,step⟩
   .refine qz (T.done Y Z Z Z hc i _ s4 τ H4 _ I4 (a6 b5 (by simp)) c4 b3) λr s5 K=>?_
    let#[hr,I5]:=K;subst hr
    show compPost _ _ _ _ _ _ _ _ _
    let#[m5,d5,_]:=I5.loc;have a4:=I5.pin (d.heap.objs.size,ob) (by simp [Y,qY])
    have U:H4 d.heap.objs.size=none:=a4.2.1
    have B:=I5.base;have nC:H4 G.objs.size=none:=I5.free
    have d2:s5.heap.DictOf (qS X.prog X.w) d.heap.objs.size w:=dd.at λo e=>by rw[a2.1]at e;cases e;exact a4.1
    let#[z1,z2]:=eM (ob:= .dK ys) I2 f2 hC I5 U #[hz,Lv (J1 (JV (Ke ⋯ ((I2.mod.glob.keeps I2.bk).lt)) (Jf _))),w,vl,d2]
    exact c3 d.heap.objs.size G.objs.size s5 (HM H4 d.heap.objs.size (.dK ys)) m5 z1 d5 z2 (qn _ U)
   .refine qz (T.item Y Z Z Z hc i _ s4 τ H4 _ I4 (a6 b5 (by simp)) c4 go) λr s5 K=>?_
    let#[u,hr,h5]:=K;subst hr;refine qz h5 λ_ s6 K=>?_
    let#[x,H6,I6,r6,y6,a7,d0]:=K;have I6':=I6.pinned (a6 d0 (by simp)) (T.obj _ _ a7)
    refine qz (hg _ _ _ _ _ s6 τ H6 x u _ I6' r6 (step x H6 y6)) λ_ s7 K=>?_
    let#[P,H7,I7,N,hN,q7]:=K;refine qz (hk _ _ _ _ _ s7 P H7 _ I7 q7) λk' d8 K=>?_
    let#[yk,H7',I7',rk,kk,ek,d9]:=K;subst ek;refine qz (hv _ _ _ _ _ d8 P H7' _ I7' d9) λv' s8 K=>?_
    let#[y,H8,I8,r8,n8]:=K;let#[m',d4,w8]:=hN _ _ _ n8;have L:=I8.pin (d.heap.objs.size,ob) (by simp [qY])
    have d6:s8.heap.DictOf (qS X.prog X.w) d.heap.objs.size w:=dd.at λo e=>by rw[a2.1]at e;cases e;exact L.1
    have D:∀b∈fp,∀o,s6.heap.get? b=↑o->s8.heap.get? b=↑o/\H8 b=none:=λb t o e=>by
     have:=I8.pin (b,o) (JQ _ (JQ _ (Qt t e)))
     exact#[this.1,this.2.1]
    refine wpAny_dictSet_pairs (aF rk) d6 (λh' a8 b2=>?_) (by have:=vl.length;omega)
    have I9:HN Y [] P H8 {s8 with heap:=h',toks:=s8.toks+1}:=by
     refine(I8.pins_of (pins':=[]) (by simp)).turned (t':=s8.toks+1) (it:=d.heap.objs.size) (λb o t e=>(b2.2 b t).trans e) L.2.1 ?_ (.inr (Jf _)) (λx c e=>A x c e) (λp hp=>absurd (show p∈([]:HI)from by simpa [Y,qY]using hp) (by simp))
     exact O
    let#[o9,c1,_]:=Ψ.dictOf_iff.mp a8;refine#[m',d4,i+1,MX ys kk y,P,H8,_,o9,I9.pins_of ?_,T.keep _ _ _ a7 λb t o e=>(b2.2 b (E b (c0 b t)).2).trans (D b t o e).1,λb t=>?_,vl.put kk r8,a8,?_,w8]
    .intro p hp
     rw[Ji.mp hp]
     exact#[c1,L.2.1,O,M,λv z=>g9 a8 c1 v z]
    .let#[o,e,_]:=T.obj _ _ a7 b t
     exact(D b t o e).2
    .have:=ab ys kk y;omega
  .let#[o3,b4,_]:=Ψ.dictOf_iff.mp b0
   refine#[(0),[],σ0 own.length js σ,H2,[],o3,I3.pins_of ?_,d7,λb t=>(f2 b t).1,.nil,b0,JB _,w0]
   intro p hp;rw[Ji.mp hp]
   exact#[b4,I2.hok.fresh (Jf _),O,M,λv z=>g9 b0 b4 v z]
 have a5:tn 0 F:=T.keep _ _ _ c2 λb _ o e=>b7 b o e
 exact codeAny_compStart_dict (R _ IY a5 a1) (T.self _ 0 _ _ _ a5 (R _ IY a5 a1))
def Ax{d:Scope}{p:List (Str×Δ)}{j:Pos}{fr own:Α}{i:Nat}{y:Str}
  (hN:X.N.Nodup)(G:X.N[i]? =↑y)(hx:gq X.env.scope y)
  (hc:X.calm=true)(hi:PI X tg f L)(n:closureFor d X.env=pure p)(J:∀y c,p.lookup y=↑c->X.env.cells.lookup y=↑c)(B:p.map (·.1)=fr)
  (S:MU X d fr js)
  (hg:∀C s H fp,PG (qY X (own++fr) d p C s H fp) tg g)(hk:∀C s H fp,PE (qY X (own++fr) d p C s H fp) w tk)(hv:∀C s H fp,PE (qY X (own++fr) d p C s H fp) u tv)
  (hs:∀x,foldedSetIterable f X.env x=pure x:=by intro _;rfl)(E:swapsWith (.DictComp w u [#[tg,f,[],(0)]] d pos) ↑(.Name y t) j.line X.env=pure true:=by rfl)
  (hf:X.fn y=true\/X.env.scope.names.lookup y=some .local:=by first|exact .inl Z|exact .inr Z|assumption):
  PS X (.Assign [.Name y t] (.DictComp w u [#[tg,f,[],(0)]] d pos) j) (c9 (nG own.length js L g tk tv) (Qf i)):=by
 intro R0 s σ H D I h;rw[exec_Assign_Name_used _ _ _ _ E];refine Ja (Ib (Ja ?_))
 show ε _ X.A (do let _ <- comprehension (.DictComp w u [#[tg,f,[],(0)]] d pos) d X.env _ newDict false (eval f X.env) ↑(assign (.Name y t) X.env)) _ _ s
 refine Ja (Jx (wq (use:=↑(assign (.Name y t) X.env)) (Post:=λ_ s'=>SP X R0 D .next s') hc hi n J B S hg hk hv hs I h ?_) (λ_ s' N=>Jd (Jd N)) λ_ _ e=>e)
 intro r C W H' m O P l q
 show ε _ X.A (assign (.Name y t) X.env (-r)) _ _ _
 refine wpAny_assign_Name (bH (v:= .ref r) O hN G hx Z (λM U Q=>?_) hf)
 let#[a,F,T]:=Q;have K:C≠a:=by
  rcases T with z|z
  .rw[z];exact l.loc
  .exact Ne.symm (l.cell _ _ z)
 refine#[m,P.sameBut F K,λh' A=>?_]
 exact#[_,H',U.turned (t':=M.toks) (λb o R e=>(A.2 b R).trans e) l.free l.loc (.inr l.new) l.cell l.pin,q]
def Qo(x:Int):Int:=if 4095<x then 4095 else x
def Eg{l c x y:Int}(hc:l<c)(h:Qo (l+x)=Qo (l+y)):Qo (c+x)=Qo (c+y):=by
 unfold Qo at h⊢;split at h<;>split at h<;>split<;>split<;>lia
def Ca{l c x y:Int}(h:Qo (l+x)=Qo (l+y))(a:c<=4095)(z:c<=l+x):c<=l+y:=by
 unfold Qo at h;split at h<;>split at h<;>lia
noncomputable def Qz(D:Dr)(e:Kb)(a:Int):Λ:=match e.wt with
 |none=>none
 |some (x,w)=>if x=a/\w+1<=Qo (e.last+D.far)then ↑(w+1)else none
def cB{e:Kb}(h1:e.last+1<4096)(c:qL D e a=true):zw D e a=(e.last+1,Qo (e.last+D.near))::(Qz D e a).toList.map λx=>(x,x):=by
 unfold zw Qz Qo;rw[Jc c,Jc h1];cases e.wt with
 |none=>rfl
 |some p=>
  let#[x,w]:=p;simp only
  by_cases h:x=a/\w+1<=(if 4095<e.last+D.far then 4095 else e.last+D.far)
  .rw[Jc h,Jc h];rfl
  .rw[Jb h,Jb h];rfl
def Nn:qL D e a=true↔qG e.age D.least<=a/\a<D.kss.length:=by
 unfold qL Q8 qG;rw[JF,JF,decide_eq_true_eq,decide_eq_true_eq,decide_eq_true_eq];constructor
 .rintro⟨⟨h1,c⟩,d⟩
  split<;>lia
 .rintro⟨h1,c⟩
  split at h1<;>lia
def yd{D:Dr}{e:Kb}{a:Int}(c:¬(qG e.age D.least<=a/\a<D.kss.length)):zw D e a=[]:=by
 unfold zw;rw[Jb λz=>c (Nn.mp z)]
def CL{o o':Λ}(h:(o.toList.map λx:Int=>(x,x))=o'.toList.map λx=>(x,x)):o=o':=by
 cases o with
 |none=>cases o' with
  |none=>rfl
  |some y=>cases h
 |some x=>cases o' with
  |none=>cases h
  |some y=>simp at h;rw[h]
structure Of(D:Dr)(e:Kb)(D':Dr)(e':Kb):Prop where
 h1:e.last+1<4096
 l:e'.last=e.last
 A:qG e'.age D'.least=qG e.age D.least
 K:D'.kss.length=D.kss.length
 n:Qo (e.last+D'.near)=Qo (e.last+D.near)
theorem Of.symm(s:Of D e D' e'):Of D' e' D e:=#[by rw[s.l];exact s.h1,s.l.symm,s.A.symm,s.K.symm,by rw[s.l];exact s.n.symm]
def Of.str(s:Of D e D' e')(a:Int):zw D e a=zw D' e' a↔(qG e.age D.least<=a->a<D.kss.length->Qz D e a=Qz D' e' a):=by
 by_cases h:qG e.age D.least<=a/\a<D.kss.length
 .have h':qG e'.age D'.least<=a/\a<D'.kss.length:=by rw[s.A,s.K];exact h
  rw[cB s.h1 (Nn.mpr h),cB (by rw[s.l];exact s.h1) (Nn.mpr h'),s.l,s.n]
  constructor
  .intro z _ _
   injection z with _ z
   exact CL z
  .intro z
   rw[z h.1 h.2]
 .have h':¬(qG e'.age D'.least<=a/\a<D'.kss.length):=by rw[s.A,s.K];exact h
  rw[yd h,yd h']
  exact#[λ_ h1 c=>absurd #[h1,c] h,λ_=>rfl]
def Of.pa(s:Of D e D' e')(d:0<=qG e.age D.least):QJ D ↑e D' ↑e'=none↔∀a,qG e.age D.least<=a->a<D.kss.length->Qz D e a=Qz D' e' a:=by
 constructor
 .intro h a h1 c
  exact(s.str a).mp (aV h (by lia) c) h1 c
 .intro h
  exact zA λa _ _=>Jc ((s.str a).mpr (h a))
def FK(d:MQ D)(d':MQ D')(k:MS D e)(h:MS D' e')(hk:D.kss.length=D'.kss.length)(no:QJ D ↑e D' ↑e'=none)(h1:e.last+1<4096):Of D e D' e':=by
 have a0:=k.a0;have q:=h.a0;have s:=k.a1;have n:=h.a1;have t:=d.lk;have o:=d'.lk;have v:=d.l0;have p:=d'.l0;have c:0<=qG e.age D.least/\qG e.age D.least<D.kss.length:=by unfold qG;split<;>lia
 have i:0<=qG e'.age D'.least/\qG e'.age D'.least<D'.kss.length:=by unfold qG;split<;>lia
 have all:∀a:Int,0<=a->a<D.kss.length->zw D e a=zw D' e' a:=λa m h1=>aV no m h1
 have f:e'.last+1<4096:=Pu λf=>by
  have g:=(ZZ d k h1 (a:=qG e.age D.least)).mpr #[GZ _,c.2]
  rw[all _ c.1 c.2,iB d' h f]at g;exact g Z
 have l:qG e.age D.least=qG e'.age D'.least:=by
  have g:=(ZZ d k h1 (a:=qG e.age D.least)).mpr #[GZ _,c.2]
  rw[all _ c.1 c.2]at g;have u:=(ZZ d' h f).mp g;have p2:=(ZZ d' h f (a:=qG e'.age D'.least)).mpr #[GZ _,i.2]
  rw[<- all _ i.1 (by rw[hk];exact i.2)]at p2
  have r:=(ZZ d k h1).mp p2;lia
 have:=all _ c.1 c.2
 rw[cB h1 (Nn.mpr #[GZ _,c.2]),cB f (Nn.mpr #[by rw[<- l];exact GZ _,by rw[<- hk];exact c.2])]at this
 injection this with z _
 injection z with z1 z2
 have j:e'.last=e.last:=by lia
 rw[j]at z2
 exact#[h1,j,l.symm,hk.symm,z2.symm]
def ZO(D:Dr)(e:Kb)(a c:Int):Prop:=e.last<c/\(c<=e.last+D.near\/(c<=e.last+D.far/\e.wt=↑(a,c-1)))
def jl(i:qL D e a=true)(h:ZO D e a c):(qR D e a c).2=#[a,c,none]:=by
 unfold qR zD;rw[Jc i,Jb (by have:=h.1;lia)]
 by_cases d:c<=e.last+D.near
 .rw[Jc d]
 .let#[f,g]:=h.2.resolve_left d
  rw[Jb d,Jc f,Jc g]
def yp{c:Int}(d:qL D e a=true)(h:¬ZO D e a c)(h1:e.last<c)(h2:c<=e.last+D.far):(qR D e a c).2=#[e.age,e.last,↑(a,c)]:=by
 unfold qR zD;rw[Jc d,Jb (by lia),Jb λz=>h #[h1,.inl z],Jc h2,Jb λz=>h #[h1,.inr #[h2,z]]]
def Z7{D:Dr}{c:Int}(f:D.near<=D.far)(h:qL D e a=false\/c<=e.last\/e.last+D.far<c):(qR D e a c).2=e:=by
 rcases h with h|h|h
 .unfold qR;rw[Jb (by rw[h];decide)]
 .exact oE h
 .by_cases d:c<=e.last
  .exact oE d
  .unfold qR zD
   split
   .rw[Jb (by lia),Jb (by lia)]
   .rfl
def aP(d:MQ D)(k:MS D e){c:Int}(j:c<=4095)(hn:¬c<=e.last+D.near)(h:e.last<c):ZO D e a c↔Qz D e a=↑c:=by
 unfold ZO Qz;cases ew:e.wt with
 |none=>exact#[λz=>absurd z.2 (λy=>y.elim hn λy=>by cases y.2),λz=>by cases z]
 |some p=>
  let#[x,w]:=p;simp only
  constructor
  .rintro⟨_,z|⟨i,f⟩⟩
   .exact absurd z hn
   .injection f with f
    injection f with f z3
    subst f;rw[Jc #[Z,by unfold Qo;split<;>lia]]
    congr 1;lia
  .intro z
   split at z
   .rename_i y
    injection z with z
    let#[rfl,g]:=y;refine#[h,.inr #[by unfold Qo at g;split at g<;>lia,by congr 2;lia]]
   .cases z
section
variable{a c:Int}
def Of.open_iff(s:Of D e D' e')(d:MQ D)(d':MQ D')(k:MS D e)(g:MS D' e')(ow:Qz D e a=Qz D' e' a)(i:c<=4095):ZO D e a c↔ZO D' e' a c:=by
 have f:∀{D D':Dr} {e e':Kb},Of D e D' e'->MQ D->MQ D'->MS D e->MS D' e'->Qz D e a=Qz D' e' a->ZO D e a c->ZO D' e' a c:=λ{D D' e e'} s d d' k g ow h=>by
  have n:=s.l;have m:=s.n;have o:=h.1
  by_cases j:c<=e.last+D.near
  .refine#[by lia,.inl ?_]
   rw[n];exact Ca m.symm i j
  .have l:¬c<=e'.last+D'.near:=by
    rw[n];exactλz=>j (Ca m i z)
   have:=(aP d k i j o).mp h
   rw[ow]at this
   exact(aP d' g i l (by lia)).mpr this
 exact#[f s d d' k g ow,f s.symm d' d g k ow.symm]
def Of.opened(s:Of D e D' e')(d:MQ D)(d':MQ D')(g:qG e.age D.least<=a)(hc:e.last<c)(n:c<=4095)(a0:0<=a):QJ D (some #[a,c,none]) D' (some #[a,c,none])=none:=by
 have f:qG e'.age D'.least<=a:=by rw[s.A];exact g
 have j:qG a D.least=a:=by unfold qG at g⊢;split at g<;>split<;>lia
 have l:qG a D'.least=a:=by unfold qG at f⊢;split at f<;>split<;>lia
 by_cases h:c+1<4096
 .have m:Of D #[a,c,none] D' #[a,c,none]:=by
   exists h,Z,by show qG a D'.least=qG a D.least;rw[j,l],s.K
   exact Eg hc s.n
  exact(m.pa (by show 0<=qG a D.least;rw[j];exact a0)).mpr λ_ _ _=>rfl
 .have i:∀(D:Dr) (x:Int),zw D #[a,c,none] x=[]:=λD x=>by
   unfold zw;split
   .rfl
   .rfl
  exact zA λx _ _=>Jc (by show zw D _ x=zw D' _ x;rw[i,i])
def be{D:Dr}{d l a c:Int}:Qz D #[d,l,↑(a,c)] x=if a=x/\c+1<=Qo (l+D.far)then ↑(c+1)else none:=Z
noncomputable def fW(D:Dr)(e:Kb)(a c:Int):Kb:=if c<=e.last+D.far then#[e.age,e.last,↑(a,c)]else e
def gA(f:D.near<=D.far)(d:qL D e a=true)(h:¬ZO D e a c)(h1:e.last<c):(qR D e a c).2=fW D e a c:=by
 unfold fW;split
 .rename_i z;exact yp d h h1 z
 .rename_i z;exact Z7 f (.inr (.inr (by lia)))
def cO:(fW D e a c).last=e.last/\(fW D e a c).age=e.age:=by unfold fW;split<;>exact#[9]
theorem Of.fW(s:Of D e D' e'):Of D (fW D e a c) D' (L3.fW D' e' a c):=by
 have f1:=cO (D:=D) (e:=e) (a:=a) (c:=c)
 have f2:=cO (D:=D') (e:=e') (a:=a) (c:=c)
 exact#[by rw[f1.1];exact s.h1,by rw[f1.1,f2.1];exact s.l,by rw[f1.2,f2.2];exact s.A,s.K,by rw[f1.1];exact s.n]
noncomputable def zY(D:Dr)(e:Kb)(D':Dr)(e':Kb)(a c:Int):Option (Int×Int):=QJ D (some (qR D e a c).2) D' (some (qR D' e' a c).2)
structure Og(D:Dr)(e:Kb)(D':Dr)(e':Kb):Prop where
 s:Of D e D' e'
 d:MQ D
 d':MQ D'
 k:MS D e
 k':MS D' e'
 no:QJ D ↑e D' ↑e'=none
theorem Og.a0(t:Og D e D' e'):0<=qG e.age D.least/\qG e.age D.least<D.kss.length:=by
 have:=t.k.a0
 have:=t.k.a1
 have:=t.d.l0
 have:=t.d.lk
 unfold qG;split<;>lia
theorem Og.symm(t:Og D e D' e'):Og D' e' D e:=#[t.s.symm,t.d',t.d,t.k',t.k,by rw[sP t.s.K];exact t.no]
def Og.ow(t:Og D e D' e'){a:Int}(h1:qG e.age D.least<=a)(h2:a<D.kss.length):Qz D e a=Qz D' e' a:=(t.s.pa t.a0.1).mp t.no a h1 h2
def jH(h:D.kss.length=D'.kss.length)(a c:Int):zY D e D' e' a c=zY D' e' D e a c:=sP h _ _
def F5{a x:Int}(h:Qz D e a=↑x):x<=Qo (e.last+D.far):=by
 unfold Qz at h;cases ew:e.wt with
 |none=>rw[ew]at h;cases h
 |some p=>
  rw[ew]at h;let#[y,w]:=p;simp only at h
  split at h
  .rename_i z;injection h with h;lia
  .cases h
def iS(x:Int):Qo x<=x/\Qo x<=4095:=by unfold Qo;split<;>lia
def mO{x y:Int}(h:y<=x)(h2:y<=4095):y<=Qo x:=by unfold Qo;split<;>lia
def Og.ne(t:Og D e D' e'){a c:Int}(f:c<=4095)(h:zY D e D' e' a c≠none):(qG e.age D.least<=a/\a<D.kss.length)/\e.last<c/\¬ZO D e a c:=by
 have h1:qG e.age D.least<=a/\a<D.kss.length:=Pu λz=>h (by
  unfold zY;have i:qL D e a=false:=Ly.mpr λy=>z (Nn.mp y)
  have g:qL D' e' a=false:=Ly.mpr λy=>z (by have:=Nn.mp y;rw[t.s.A,t.s.K]at this;exact this)
  rw[Z7 t.d.nf (.inl i),Z7 t.d'.nf (.inl g)];exact t.no)
 have d:e.last<c:=Pu λz=>h (by
  unfold zY;rw[Z7 t.d.nf (.inr (.inl (by lia))),Z7 t.d'.nf (.inr (.inl (by rw[t.s.l];lia)))];exact t.no)
 refine#[h1,d,λz=>h ?_]
 have j:=(t.s.open_iff t.d t.d' t.k t.k' (t.ow h1.1 h1.2) f).mp z;unfold zY;rw[jl (Nn.mpr h1) z,jl (Nn.mpr (by rw[t.s.A,t.s.K];exact h1)) j]
 exact t.s.opened t.d t.d' h1.1 d f (by have:=t.a0;lia)
def Og.is(t:Og D e D' e'){a c:Int}(g:c<=4095)(h1:qG e.age D.least<=a/\a<D.kss.length)(h2:e.last<c)(f:¬ZO D e a c):zY D e D' e' a c=none↔∀x,qG e.age D.least<=x->x<D.kss.length->Qz D (fW D e a c) x=Qz D' (fW D' e' a c) x:=by
 have d:¬ZO D' e' a c:=λz=>f ((t.s.open_iff t.d t.d' t.k t.k' (t.ow h1.1 h1.2) g).mpr z)
 unfold zY;rw[gA t.d.nf (Nn.mpr h1) f h2,gA t.d'.nf (Nn.mpr (by rw[t.s.A,t.s.K];exact h1)) d (by rw[t.s.l];exact h2)]
 have f1:=cO (D:=D) (e:=e) (a:=a) (c:=c)
 have:=(t.s.fW (a:=a) (c:=c)).pa (by rw[f1.2];exact t.a0.1)
 rw[f1.2]at this;exact this
def gM{a c:Int}(h:c<=e.last+D.far):fW D e a c=#[e.age,e.last,↑(a,c)]:=Jc h
def iU{a c:Int}(h:e.last+D.far<c):fW D e a c=e:=Jb (by lia)
def Og.wit1(t:Og D e D' e')(hf:D'.far<=D.far){a c:Int}(E:c<=4095)(h:zY D e D' e' a c≠none):
  e.last+D'.far<=c/\((e.last+D'.far<=4095/\zY D e D' e' (qG e.age D.least) (e.last+D'.far)≠none)\/(e.last+D'.far+1<=4095/\zY D e D' e' (qG e.age D.least) (e.last+D'.far+1)≠none)):=by
 let#[h1,K,F]:=t.ne E h;have X:=t.d.nf;have N:=t.d'.nf;have T:=t.d.n0;have M:=t.d'.n0;have i:=t.s.l;have p:=t.a0;let#[A,f]:∃A,A=qG e.age D.least:=#[0]
 have P:¬c<=e.last+D.near:=λz=>F #[K,.inl z]
 have B:=t.ow (a:=A) (by rw[f];exact GZ _) (by rw[f];exact p.2)
 have d:∀{x a:Int},Qz D' e' a=↑x->x<=e.last+D'.far:=λ{x a} z=>by
  have J:=F5 z;have G:=(iS (e'.last+D'.far)).1;rw[i]at G J;lia
 let#[x,g,m,l]:∃x,qG e.age D.least<=x/\x<D.kss.length/\Qz D (fW D e a c) x≠Qz D' (fW D' e' a c) x:=Classical.byContradiction λz=>h ((t.is E h1 K F).mpr λx s r=>Pu λw=>z #[x,s,r,w])
 rw[<- f]at p g⊢;have next:e.last+D'.far+1<=4095->D'.far<D.far->e.last+D.near<e.last+D'.far+1->((∃y,A<=y/\y<D.kss.length/\Qz D e y≠none)\/e.last+D'.far+2<=Qo (e.last+D.far))->zY D e D' e' A (e.last+D'.far+1)≠none:=λI U R Q z=>by
  have no:¬ZO D e A (e.last+D'.far+1):=λy=>by
   have:=(aP t.d t.k I (by lia) (by lia)).mp y
   rw[B]at this
   have:=d this
   lia
  have n:qG e.age D.least<=A/\A<D.kss.length:=by rw[<- f];exact#[GZ _,p.2]
  have all:=(t.is I n (by lia) no).mp z
  rw[gM (D:=D) (e:=e) (by lia),iU (D:=D') (e:=e') (by rw[i];lia)]at all
  have n2:¬e.last+D'.far+2<=Qo (e.last+D.far):=λy=>by
   have:=all A n.1 n.2
   rw[be,Jc #[Z,by lia]]at this
   have:=d this.symm
   lia
  rcases Q with⟨y,s,r,w⟩|y
  .have:=all y (by rw[<- f];exact s) r
   rw[be,Jb (λq=>n2 (by have:=q.2;lia)),<- t.ow (by rw[<- f];exact s) r]at this
   exact w this.symm
  .exact n2 y
 by_cases Y:c<=e.last+D'.far
 .rw[gM (D:=D) (e:=e) (by lia),gM (D:=D') (e:=e') (by rw[i];lia),be,be,i]at l
  have u:a=x/\c+1<=Qo (e.last+D.far)/\¬c+1<=Qo (e.last+D'.far):=by
   by_cases j:a=x/\c+1<=Qo (e.last+D.far)
   .refine#[j.1,j.2,λq=>l ?_]
    rw[Jc j,Jc #[j.1,q]]
   .refine absurd ?_ l
    rw[Jb j,Jb λq=>j #[q.1,?_]]
    have:=q.2
    have G:=iS (e.last+D'.far);exact mO (by lia) (by lia)
  let#[_,S,L]:=u;have J:=iS (e.last+D.far);have W:c=e.last+D'.far:=Pu λz=>L (mO (by lia) (by lia))
  exists by lia
  by_cases H:ZO D e A (e.last+D'.far)
  .right
   have O:=(aP t.d t.k (by lia) (by lia) (by lia)).mp H
   exact#[by lia,next (by lia) (by lia) (by lia) (.inl #[A,GZ _,p.2,by rw[O];exactλz=>by cases z])]
  .left
   refine#[by lia,λz=>?_]
   have n:qG e.age D.least<=A/\A<D.kss.length:=by rw[<- f];exact#[GZ _,p.2]
   have all:=(t.is (by lia) n (by lia) H).mp z A n.1 n.2
   rw[gM (D:=D) (e:=e) (by lia),gM (D:=D') (e:=e') (by rw[i];lia),be,be,Jc #[Z,by lia],Jb (λq=>L (by have:=q.2;rw[i]at this;lia))]at all
   cases all
 .have C:c<=e.last+D.far:=Pu λz=>l (by
   rw[iU (D:=D) (e:=e) (by lia),iU (D:=D') (e:=e') (by rw[i];lia)]
   exact t.ow (by rw[<- f];exact g) m)
  rw[gM (D:=D) (e:=e) C,iU (D:=D') (e:=e') (by rw[i];lia),be]at l
  have o:e.last+D.near<e.last+D'.far+1:=Pu λz=>by
   have v:=t.s.n;unfold Qo at v;split at v<;>split at v<;>lia
  refine#[by lia,.inr #[by lia,next (by lia) (by lia) o ?_]]
  by_cases j:c+1<=Qo (e.last+D.far)
  .exact .inr (by lia)
  .rw[Jb λq=>j q.2]at l
   exact .inl #[x,g,m,by rw[t.ow (by rw[<- f];exact g) m];exact l.symm]
def Og.wit(t:Og D e D' e'){a c:Int}(g:c<=4095)(h:zY D e D' e' a c≠none):
  zS D e D' e'<=c/\((zS D e D' e'<=4095/\zY D e D' e' (qG e.age D.least) (zS D e D' e')≠none)\/(zS D e D' e'+1<=4095/\zY D e D' e' (qG e.age D.least) (zS D e D' e'+1)≠none)):=by
 have f:=t.s.l
 by_cases i:D'.far<=D.far
 .have d:zS D e D' e'=e.last+D'.far:=by unfold zS QH;rw[f];split<;>lia
  rw[d];exact t.wit1 i g h
 .have d:zS D e D' e'=e'.last+D.far:=by unfold zS QH;rw[f];split<;>lia
  rw[d];have h':zY D' e' D e a c≠none:=by rw[jH t.s.K];exact h
  have:=t.symm.wit1 (by lia) g h'
  rw[t.s.A]at this;rw[jH t.s.K.symm,jH t.s.K.symm];exact this
def Og.all{K:Type}(t:Og D e D' e')(g:Int->Int->Int×Int->K){lo:Int}{n:Nat}(M:lo<=zS D e D' e')(N:lo+n<=4096)(C:∀c,c<=4095->c<=zS D e D' e'+1->c<lo+n):
  (Qh 0 D.kss.length λa=>Qh lo n λc=>(zY D e D' e' a c).map (g a c))=(ac D ↑e D' ↑e').map λq=>g q.1.1 q.1.2 q.2:=by
 let#[J,I]:=t.a0;let#[A,s]:∃A,A=qG e.age D.least:=#[0]
 let#[L,B]:∃L,L=zS D e D' e':=#[0]
 have ep:ac D ↑e D' ↑e'=Qh L (QH (L+2) 4096-L).toNat λc=>(zY D e D' e' A c).map λp=>((A,c),p):=by rw[B,s];rfl
 have wit:∀{a c:Int},c<=4095->zY D e D' e' a c≠none->L<=c/\((L<=4095/\zY D e D' e' A L≠none)\/(L+1<=4095/\zY D e D' e' A (L+1)≠none)):=λ{a c} l h=>by rw[B,s];exact t.wit l h
 have u:∀{a c:Int},c<=4095->a<A->zY D e D' e' a c=none:=λ{a c} l h=>Pu λz=>by
  have:=(t.ne l z).1.1
  lia
 rw[<- s]at J I;rw[<- B]at M C;rw[ep];have d:∀i:Nat,(i=0\/i=1)->L+(i:Int)<=4095->(∀j:Nat,j<i->zY D e D' e' A (L+(j:Int))=none)->∀p,zY D e D' e' A (L+(i:Int))=↑p->(Qh 0 D.kss.length λa=>Qh lo n λc=>(zY D e D' e' a c).map (g a c))=(Qh L (QH (L+2) 4096-L).toNat λc=>(zY D e D' e' A c).map λp=>((A,c),p)).map λq=>g q.1.1 q.1.2 q.2:=λi hi h1 F p m=>by
  have r:Qh L (QH (L+2) 4096-L).toNat (λc=>(zY D e D' e' A c).map λp=>((A,c),p))=↑((A,L+(i:Int)),p):=by
   refine QQ (i:=i) (by unfold QH;split<;>lia) (by rw[m];rfl) λx G H=>?_
   have:=F (x-L).toNat (by lia)
   rw[show L+((x-L).toNat:Int)=x by lia]at this
   rw[this];rfl
  rw[r];have O:=C (L+(i:Int)) h1 (by lia)
  refine QQ (i:=A.toNat) (by lia) ?_ λx G H=>zA λc v l=>by rw[u (by lia) (by lia)];rfl
  rw[show(0:Int)+(A.toNat:Int)=A by lia]
  refine QQ (i:=(L+(i:Int)-lo).toNat) (by lia) (by rw[show lo+((L+(i:Int)-lo).toNat:Int)=L+(i:Int) by lia,m];rfl) λc v l=>?_
  have:zY D e D' e' A c=none:=Pu λz=>by
   have w:=(wit (by lia) z).1
   have:=F (c-L).toNat (by lia)
   rw[show L+((c-L).toNat:Int)=c by lia]at this
   exact z this
  rw[this];rfl
 by_cases o:L<=4095/\zY D e D' e' A L≠none
 .let#[p,m]:=K9.mp o.2
  exact d 0 (.inl Z) (by lia) (λj E=>absurd E (I1 _)) p (by rw[show L+((0:Nat):Int)=L by lia];exact m)
 by_cases h1:L+1<=4095/\zY D e D' e' A (L+1)≠none
 .let#[p,m]:=K9.mp h1.2
  refine d 1 (.inr Z) (by lia) (λj E=>?_) p m
  obtain rfl:j=0:=by lia
  rw[show L+((0:Nat):Int)=L by lia]
  exact Pu λz=>o #[by lia,z]
 have f:∀{a c:Int},c<=4095->zY D e D' e' a c=none:=λ{a c} l=>Pu λz=>by
  rcases(wit l z).2 with y|y
  .exact o y
  .exact h1 y
 rw[zA λa _ _=>zA λc v l=>by rw[f (by lia)];rfl,zA λc v l=>by rw[f (by unfold QH at l;split at l<;>lia)];rfl]
 rfl
def rM(i:D.near<=D.far)(he:D.kn.lookup nm=↑e):qE D nm a c="open"↔qL D e a=true/\ZO D e a c:=by
 have d:¬(("":Str)="open"):=by decide
 have h:¬(("wait":Str)="open"):=by decide
 unfold qE ZO;rw[he];simp only
 by_cases g:qL D e a=true
 .rw[Jc g]
  by_cases h1:c-e.last<1\/c-e.last>D.far
  .rw[Jc h1]
   exact#[λz=>absurd z d,λz=>absurd z.2 λy=>by rcases y.2 with q|q<;>lia]
  .rw[Jb h1]
   by_cases f:c-e.last<=D.near\/e.wt=↑(a,c-1)
   .rw[Jc f]
    exact#[λ_=>#[g,by lia,f.imp (λ_=>by lia) λq=>#[by lia,q]],λ_=>rfl]
   .rw[Jb f]
    exact#[λz=>absurd z h,λz=>absurd (z.2.2.imp (λq=>by lia) λq=>q.2) f]
 .rw[Jb g]
  exact#[λz=>absurd z d,λz=>absurd z.1 g]
def y7(d:MQ D)(k:MS D e)(i:c<=4095):QU c (zw D e a)=true↔qL D e a=true/\ZO D e a c:=by
 have n:=d.n0;have m:=d.nf;have o:=k.l1
 by_cases f:qL D e a=true
 .by_cases h1:e.last+1<4096
  .rw[cB h1 f]
   unfold QU;rw[J4,Bool.or_eq_true,JF,decide_eq_true_eq,decide_eq_true_eq];have ow:(((Qz D e a).toList.map λx=>(x,x)).any λp=>decide (p.1<=c)&&decide (c<=p.2))=true↔Qz D e a=↑c:=by
    cases Qz D e a with
    |none=>exact#[(λz=>by cases z),λz=>by cases z]
    |some x=>
     show((decide (x<=c)&&decide (c<=x))||false)=true↔_
     rw[PL,JF,decide_eq_true_eq,decide_eq_true_eq,SG];lia
   rw[ow];simp only
   by_cases g:c<=e.last+D.near
   .constructor
    .rintro(z|z)
     .exact#[f,by lia,.inl g]
     .have:=ow_gt d k z
      lia
    .rintro⟨_,z,_⟩
     exact .inl #[by lia,mO g i]
   .have l:¬(e.last+1<=c/\c<=Qo (e.last+D.near)):=λz=>by
     have:=iS (e.last+D.near)
     lia
    constructor
    .rintro(z|z)
     .exact absurd z l
     .have j:e.last<c:=by lia
      exact#[f,(aP d k i g j).mpr z]
    .rintro⟨_,z⟩
     exact .inr ((aP d k i g z.1).mp z)
  .rw[iB d k h1]
   exact#[(λz=>by cases z),λz=>by have:=z.2.1;lia]
 .have:zw D e a=[]:=by unfold zw;rw[Jb f]
  rw[this]
  exact#[(λz=>by cases z),λz=>absurd z.1 f]
where
 ow_gt {D:Dr} {e:Kb} {a x:Int} (d:MQ D) (k:MS D e) (h:Qz D e a=↑x):e.last+D.near<x:=by
  unfold Qz at h;cases ew:e.wt with
  |none=>rw[ew]at h;cases h
  |some p=>
   let#[y,w]:=p;rw[ew]at h
   have:=k.w y w ew
   simp only at h
   split at h
   .injection h with h;lia
   .cases h
def nR(d:MQ D)(k:MS D e)(h:QU c (zw D e a)=true):e.last<c/\c<=e.last+D.far/\c<=4095:=by
 have f:c<=4095:=Pu λz=>by rw[(gE d k a).out (.inr (by lia))]at h;cases h
 let#[_,h1,g]:=(y7 d k f).mp h
 have i:=d.nf
 exact#[h1,g.elim (λz=>by lia) λz=>z.1,f]
def aS(d:MQ D)(k:br D (D.kn.lookup nm))(f:c<=4095):Qi D nm a c=QU c (zn D a (D.kn.lookup nm)):=by
 unfold Qi;rw[Iu,decide_eq_true_eq];cases he:D.kn.lookup nm with
 |none=>
  have:qE D nm a c="":=by unfold qE;rw[he]
  rw[this]
  exact#[λz=>absurd z ⋯,λz=>by cases z]
 |some e=>
  rw[he]at k;rw[rM d.nf he]
  exact(y7 d k f).symm
def rZ{lo:Int}{n:Nat}(d:MQ D)(d':MQ D')(k:br D (D.kn.lookup nm))(h:br D' (D'.kn.lookup nm))(s:0<=lo)(o:lo+n<=4096)
  (hb:∀a x,zn D a (D.kn.lookup nm)≠zn D' a (D'.kn.lookup nm)->QU x (zn D a (D.kn.lookup nm))=true\/QU x (zn D' a (D'.kn.lookup nm))=true->lo<=x/\x<lo+n):Qd D D' D.kss.length lo n nm=Qm D D' nm:=by
 unfold Qd Qm QJ;rw[CN];refine am λa _ _=>?_
 have hb:=hb a;let#[S,eS]:∃S,S=zn D a (D.kn.lookup nm):=#[0]
 let#[e,f]:∃e,e=zn D' a (D'.kn.lookup nm):=#[0]
 have l:oG D D' lo n nm a=(Qw lo (lo+n) (Q6 S e)).map λc=>[(nm,a,c)]:=by
  rw[<- yl];refine am λc q t=>?_
  rw[aS d k (by lia),aS d' h (by lia),<- eS,<- f]
  unfold Q6
  by_cases z:QU c S=QU c e
  .rw[Jc z,Jn (λy=>y z),Jb ⋯]
  .rw[Jb z,Jj z,Jc Z]
 rw[l,<- eS,<- f];rw[<- eS,<- f]at hb
 by_cases z:S=e
 .rw[Jc z]
  have:Qw lo (lo+n) (Q6 S e)=none:=yv λx _ _=>by
   unfold Q6;rw[z];exact Jn λy=>y Z
  rw[this];rfl
 .rw[Jb z]
  let#[r,m,g,j]:=ZJ (eu (by rw[eS];exact aN d k a) (by rw[f];exact aN d' h a) z)
  have w:=hb (Qb S e) z (by
   have:=Jz g
   cases y:QU (Qb S e) S with
   |true=>exact .inl Z
   |false=>cases y':QU (Qb S e) e with
    |true=>exact .inr Z
    |false=>rw[y,y']at this;exact absurd Z this)
  rw[Am w.1 w.2 g λx p i=>j x (by lia) i];rfl
end
noncomputable def bm(D D':Dr)(d:Nat)(lo:Int)(n:Nat)(nm:Str):Option zi:=Qh 0 d λa=>Qh lo n λc=>
 if qE D nm a c=""/\qE D' nm a c="" then none else(Qd {D with kn:=HP D nm a c} {D' with kn:=HP D' nm a c} d lo n nm).map λr=>(nm,a,c)::r
def tM(he:D.kn.lookup nm=↑e)(h:qE D nm a c="")(f:D.near<=D.far):(qR D e a c).2=e:=by
 unfold qE at h;rw[he]at h;simp only at h
 by_cases d:qL D e a=true
 .rw[Jc d]at h
  by_cases h1:c-e.last<1\/c-e.last>D.far
  .exact Z7 f (h1.elim (λz=> .inr (.inl (by lia))) λz=> .inr (.inr (by lia)))
  .rw[Jb h1]at h
   split at h
   .exact absurd h ⋯
   .exact absurd h ⋯
 .exact Z7 f (.inl (Ly.mpr d))
def bS{c:Int}(he:D.kn.lookup nm=↑e)(h1:¬e.last+1<4096)(d:c<=4095):qE D nm a c="":=by
 unfold qE;rw[he];simp only
 split
 .rw[Jc (.inl (by lia))]
 .rfl
def bN(he:D.kn.lookup nm=none):qE D nm a c="":=by unfold qE;rw[he]
def jz(d:MQ D)(k:MS D e)(h:∀a:Int,0<=a->a<D.kss.length->zw D e a=[]):¬e.last+1<4096:=λh1=>by
 have:=k.a0
 have:=k.a1
 have:=d.l0
 have:=d.lk
 have c:0<=qG e.age D.least/\qG e.age D.least<D.kss.length:=by unfold qG;split<;>lia
 exact(ZZ d k h1 (a:=qG e.age D.least)).mpr #[GZ _,c.2] (h _ c.1 c.2)
def Bh{base:Int}{n:Nat}{r:Int}(ok:Nw D)(K:Nw D')(d:MQ D)(d':MQ D')(k:n9 D)(k':n9 D')(hk:D.kss.length=D'.kss.length)(Y:0<=base)(T:base+n<=4096)(G:∀x,x<=4095->x<=base+(r+2)->x<base+n)
  (lo:∀nm e,D.kn.lookup nm=↑e->base<e.last/\e.last+D.far<=base+r)(F:∀nm e,D'.kn.lookup nm=↑e->base<e.last/\e.last+D'.far<=base+r)(no:Qm D D' nm=none):bm D D' D.kss.length base n nm=Zx D D' nm:=by
 unfold Qm at no;rw[Pj]at no;have kn:=k nm;have g:=k' nm;have quiet:(∀a c:Int,c<=4095->qE D nm a c=""/\qE D' nm a c="")->bm D D' D.kss.length base n nm=none:=λh=>zA λa _ _=>zA λc _ i=>Jc (h a c (by lia))
 unfold Zx;cases he:D.kn.lookup nm with
 |none=>
  rw[he]at no;cases he':D'.kn.lookup nm with
  |none=>exact quiet λa c _=>#[bN he,bN he']
  |some e'=>
   rw[he']at no g;have I:=jz d' g λa o h1=>(aV no o (by rw[hk];exact h1)).symm
   exact quiet λa c i=>#[bN he,bS he' I i]
 |some e=>
  rw[he]at no kn;cases he':D'.kn.lookup nm with
  |none=>
   rw[he']at no;have I:=jz d kn λa o h1=>aV no o h1
   exact quiet λa c i=>#[bS he I i,bN he']
  |some e'=>
   rw[he']at no g;have kn:MS D e:=kn
   have g:MS D' e':=g
   by_cases h1:e.last+1<4096
   .have t:Og D e D' e':=#[FK d d' kn g hk no h1,d,d',kn,g,no]
    let#[p1,p2]:=lo nm e he;let#[W,a1]:=F nm e' he';have X:=d.n0;have M:=d.nf;have l:=d'.nf;have C:=d'.n0;have U:base<=zS D e D' e':=by unfold zS QH;split<;>lia
    have le:zS D e D' e'<=base+r:=by unfold zS QH;split<;>lia
    have s:∀a c:Int,c<=4095->0<=c->(if qE D nm a c=""/\qE D' nm a c="" then none else(Qd {D with kn:=HP D nm a c} {D' with kn:=HP D' nm a c} D.kss.length base n nm).map λr=>(nm,a,c)::r)=(zY D e D' e' a c).map λp=>[(nm,a,c),(nm,p.1,p.2)]:=λa c i L=>by
     by_cases A:qE D nm a c=""/\qE D' nm a c=""
     .rw[Jc A]
      unfold zY;rw[tM he A.1 M,tM he' A.2 l,no];rfl
     .rw[Jb A]
      have E:=aD (age:=a) (c:=c) ok.nd he
      have m:=aD (age:=a) (c:=c) K.nd he'
      have Q:=Z6 (age:=a) d kn L (by lia)
      have v:=Z6 (age:=a) d' g L (by lia)
      have dd:MQ {D with kn:=HP D nm a c}:=#[d.n0,d.n1,d.nf,d.f1,d.l0,d.lk]
      have O:MQ {D' with kn:=HP D' nm a c}:=#[d'.n0,d'.n1,d'.nf,d'.f1,d'.l0,d'.lk]
      have e1:Qd {D with kn:=HP D nm a c} {D' with kn:=HP D' nm a c} D.kss.length base n nm=Qm {D with kn:=HP D nm a c} {D' with kn:=HP D' nm a c} nm:=by
       refine rZ (D:={D with kn:=HP D nm a c}) (D':={D' with kn:=HP D' nm a c}) dd O (by show br _ ((HP D nm a c).lookup nm);rw[E];exact Q.mono (Jf _)) (by show br _ ((HP D' nm a c).lookup nm);rw[m];exact v.mono (Jf _)) Y T λx y ne j=>?_
       have ne:zn D x ((HP D nm a c).lookup nm)≠zn D' x ((HP D' nm a c).lookup nm):=ne
       have j:QU y (zn D x ((HP D nm a c).lookup nm))=true\/QU y (zn D' x ((HP D' nm a c).lookup nm))=true:=j
       rw[E,m]at ne j;have pn:zY D e D' e' a c≠none:=λz=>by
        by_cases w:0<=x/\x<(D.kss.length:Int)
        .exact ne (aV z w.1 w.2)
        .refine ne ?_
         have H:=d.l0;have N:=d'.l0;have nt:∀{D:Dr} {f:Kb},0<=D.least->¬(0<=x/\x<(D.kss.length:Int))->zw D f x=[]:=λ{D f} H h=>by
          unfold zw;rw[Jb λq=>h (ZD q H)]
         show zw D _ x=zw D' _ x
         rw[nt H w,nt N (by rw[<- hk];exact w)]
       let#[B,S,R]:=t.ne i pn;have J:¬ZO D' e' a c:=λz=>R ((t.s.open_iff t.d t.d' t.k t.k' (t.ow B.1 B.2) i).mpr z)
       have f1:=gA M (Nn.mpr B) R S;have f2:=gA l (Nn.mpr (by rw[t.s.A,t.s.K];exact B)) J (by rw[t.s.l];exact S)
       rcases j with j|j
       .have:=nR d Q j
        rw[f1,cO.1]at this
        exact#[by lia,G y this.2.2 (by lia)]
       .have:=nR d' v j
        rw[f2,cO.1]at this
        exact#[by lia,G y this.2.2 (by lia)]
      rw[e1];unfold Qm
      show K3 _ (K3 _ (QJ D ((HP D nm a c).lookup nm) D' ((HP D' nm a c).lookup nm)))=_
      rw[E,m,PH];rfl
    have:=t.all (λa c p=>[(nm,a,c),(nm,p.1,p.2)]) U T λc i c2=>G c i (by lia)
    rw[<- this];unfold bm;exact am λa _ _=>am λc L i=>s a c (by lia) (by lia)
   .have h2:¬e'.last+1<4096:=jz d' g λa o u=>by
     rw[<- hk]at u
     have:=aV no o u
     rw[show zn D a ↑e=[]from iB d kn h1 a]at this
     exact this.symm
    rw[quiet λa c i=>#[bS he h1 i,bS he' h2 i]]
    have:ac D ↑e D' ↑e'=none:=zA λx x1 P=>by
     have X:=d.n0;have M:=d.nf;have C:=d'.n0;have l:=d'.nf
     have:4096<=zS D e D' e':=by unfold zS QH;split<;>lia
     unfold QH at P;split at P<;>lia
    rw[this];rfl
open SeqAt
def AK{a:Scope}{h:List (Str×Δ)}{e:Pos}{fr own:Α}{i:Nat}{y:Str}
  (hN:X.N.Nodup)(j:X.N[i]? =↑y)(hx:gq X.env.scope y)
  (hc:X.calm=true)(hi:QI X tg d q)(f:closureFor a X.env=pure h)(o:∀y c,h.lookup y=↑c->X.env.cells.lookup y=↑c)(m:h.map (·.1)=fr)
  (S:MU X a fr js)
  (hg:∀C s H fp,QG (qY X (own++fr) a h C s H fp) tg g)(hk:∀C s H fp,QE (qY X (own++fr) a h C s H fp) n tk)(hv:∀C s H fp,QE (qY X (own++fr) a h C s H fp) p tv)
  (hs:∀x,foldedSetIterable d X.env x=pure x:=by intro _;rfl)(l:swapsWith (.DictComp n p [#[tg,d,[],(0)]] a pos) ↑(.Name y r) e.line X.env=pure true:=by rfl)
  (hf:X.fn y=true\/X.env.scope.names.lookup y=some .local:=by first|exact .inl Z|exact .inr Z|assumption):
  QS X (.Assign [.Name y r] (.DictComp n p [#[tg,d,[],(0)]] a pos) e) (c9 (nG own.length js q g tk tv) (Qf i)):=
 #[Ax hN j hx hc hi.h f o m S (λC s H fp=>(hg C s H fp).h) (λC s H fp=>(hk C s H fp).h) (λC s H fp=>(hv C s H fp).h) hs l hf]
def uj{K:ι}{tk tv:TE}{H:Hp}{Q:VK}{xs:Ε}(hn:xs.length<=ζ)(Pv:Nat->List (qJ×V)->Hp->Prop)(l:Pv 0 [] H)(hl:∀i ys H,Pv i ys H->HQ K H a xs)
  (hs:∀i ys H x,xs[i]? =↑x->ys.length=i->Pv i ys H->tk (↑x::zZ js σ) H λu d=>∃k,u=kV k/\tv (↑x::zZ js σ) d λv n=>Pv (i+1) (MX ys k v) n/\(MX ys k v).length=i+1)
  (hd:∀ys H,Pv xs.length ys H->∀p,H p=none->Q (-p) (HM H p (.dK ys))):wM 1 js (Qf 0) tk tv σ Q (fV K a) H:=by
 exists λi m ys g H=>m=xs.length-i/\i<=xs.length/\ys.length=i/\Pv i ys H/\∃o,g=o::zZ js σ,#[xs.length,by simp,JB _,Z,l,none,Z]
 rintro i m ys g H ⟨rfl,hi,f,p,o,rfl⟩
 by_cases c:i<xs.length
 .refine .inr #[#[xs,xs[i],hl _ _ _ p,by simp [c]],by lia,λx H' y=>?_]
  let#[e,j]:H'=H/\xs[i]? =↑x:=#[y.1,y.2 xs (hl _ _ _ p)]
  subst e
  exact#[λk v d=>Pv (i+1) (MX ys k v) d/\(MX ys k v).length=i+1,λk v d h=>#[xs.length-(i+1),by lia,Z,c,h.2,h.1,0],hs i ys _ x j f p]
 .obtain rfl:i=xs.length:=by lia
  exact .inl #[#[xs,hl _ _ _ p,Jf _],hd ys H p]
inductive Ru (x:V)(y:V)(H:Hp)(Q:VK):Prop
 |mk (a b:Δ)(bs cs:ν)(h1:x= .ref a)(h2:y= .ref b)(h3:H a=↑(.lst (bs.map V.bl)))(h4:H b=↑(.lst (cs.map V.bl)))(h5:bs.length=cs.length)(h6:Q (.bl (decide (bs=cs))) H)
def FR:R2:=λx y H Q=>Ru x y H Q
def Dc{k:Nat}(hr:MK k X.A):zx X (Py .Eq) FR:=by
 intro R0 s σ H x y v u Q I J S h;let#[a,b,bs,c,rfl,rfl,L,F,D,q]:=h;cases J;cases S;let#[d,p,P,_]:=I.list (HQ.of (K:=X.K) L)
 let#[g,t,p2,_]:=I.list (HQ.of (K:=X.K) F)
 have n:=p.length;have E:=t.length;rw[Je]at n E;have T:X.A.units+2<cLine:=by have:=hr.un;lia
 have f:∀{zs:ν} {i:Ζ},HS (zs.map V.bl) i->∀j (h:j<i.length),i[j]= .bool (zs.getD j false):=λ{zs i} r j h=>by
  let#[z,o,B]:=zL r (j:=j) h
  rw[Jo]at o;let#[w,R,rfl]:=JO.mp o;rw[JG,R];exact B
 have e:=RcAt.lists (A:=X.A) (e:=λj=>bs.getD j false==c.getD j false) P.isList p2.isList (by simp;lia) (by lia) (λj h1 N=>by
  have l:j<d.length:=by simpa using h1
  have m:j<g.length:=by simpa using N
  simp only[KM];rw[f p j l,f t j m]
  have:=EJ (A:=X.A.in1) (s:=s) (y:= .bl (bs.getD j false)) (x:= .bl (c.getD j false)) Z Z Z Z
  have G:Go (.bl (bs.getD j false)) (.bl (c.getD j false))=(bs.getD j false==c.getD j false):=by
   cases bs.getD j false<;>cases c.getD j false<;>rfl
  rw[G]at this;exact this)
 have C:((Ag d.toArray.size).all λj=>bs.getD j false==c.getD j false)=decide (bs=c):=by
  rw[Js,<- n];rw[Iu,decide_eq_true_eq,IV];refine#[λh1=>?_,λh=>?_]
  .refine KD D λj M O=>?_
   have:=eq_of_beq (h1 j (JT.mpr (by lia)))
   rw[JG,JG,Jh M,Jh O]at this;exact this
  .subst h
   exactλj _=>Iq _
 rw[C]at e;exact e _ _ _ _ #[.bl _,H,I,Z,q]
def fi:Dr->zi->Dr
 |D,[]=>D
 |D,z::r=>fi {D with kn:=HP D z.1 z.2.1 z.2.2} r
noncomputable def Qk:Dr->zi->ν
 |_,[]=>[]
 |D,z::r=>Qi D z.1 z.2.1 z.2.2::Qk {D with kn:=HP D z.1 z.2.1 z.2.2} r
section
variable{D:Dr}
def CV(zs:zi)(z:Str×Int×Int):fi D (zs++[z])={fi D zs with kn:=HP (fi D zs) z.1 z.2.1 z.2.2}:=by
 induction zs generalizing D with
 |nil=>rfl
 |cons y r ih=>exact ih
def AJ(zs:zi)(z:Str×Int×Int):Qk D (zs++[z])=Qk D zs++[Qi (fi D zs) z.1 z.2.1 z.2.2]:=by
 induction zs generalizing D with
 |nil=>rfl
 |cons y r ih=>show _::Qk _ (r++[z])=_;rw[ih];rfl
def EW(zs:zi):fi D zs={D with kn:=(fi D zs).kn}:=by
 induction zs generalizing D with
 |nil=>rfl
 |cons y r ih=>show fi _ r=_;rw[ih];rfl
def aW(zs:zi):(Qk D zs).length=zs.length:=by
 induction zs generalizing D with
 |nil=>rfl
 |cons y r ih=>show(_::Qk _ r).length=_;rw[JR,ih];rfl
def Ey(ok:Nw D)(zs:zi):Nw (fi D zs):=by
 induction zs generalizing D with
 |nil=>exact ok
 |cons y r ih=>exact ih (ok.hearK y.1 y.2.1 y.2.2)
def y9{e:Kb}(i:D.near<=D.far)(he:D.kn.lookup nm=↑e):decide ((qR D e a c).1="near")=Qi D nm a c:=by
 unfold Qi;have w:=rM (a:=a) (c:=c) i he
 refine decide_eq_decide.mpr ?_
 rw[w];unfold qR zD ZO
 by_cases d:qL D e a=true
 .rw[Jc d]
  by_cases h1:c<=e.last
  .rw[Jc h1]
   exact#[λz=>absurd z (show¬(("old":Str)="near") by decide),λz=>absurd z.2.1 (by lia)]
  .rw[Jb h1]
   by_cases f:c<=e.last+D.near
   .rw[Jc f]
    exact#[λ_=>#[d,by lia,.inl f],λ_=>rfl]
   .rw[Jb f]
    by_cases g:c<=e.last+D.far
    .rw[Jc g]
     by_cases h:e.wt=↑(a,c-1)
     .rw[Jc h]
      exact#[λ_=>#[d,by lia,.inr #[g,h]],λ_=>rfl]
     .rw[Jb h]
      exact#[λz=>absurd z (show¬(("far":Str)="near") by decide),λz=>by rcases z.2.2 with y|y;exact absurd y f;exact absurd y.2 h]
    .rw[Jb g]
     exact#[λz=>absurd z (show¬(("beyond":Str)="near") by decide),λz=>by rcases z.2.2 with y|y;exact absurd y f;exact absurd y.1 g]
 .rw[Jb d]
  exact#[λz=>absurd z (show¬(("age":Str)="near") by decide),λz=>absurd z.1 d]
def Fe(he:D.kn.lookup nm=none):Qi D nm a c=false:=by
 unfold Qi qE;rw[he];exact Jn (show¬(("":Str)="open") by decide)
def xl{e:Kb}(f:(D.kn.map (·.1)).Nodup)(he:D.kn.lookup nm=↑e):HP D nm a c=zr D.kn nm (qR D e a c).2:=by
 unfold HP zt qR;rw[he];simp only
 by_cases d:qL D e a=true
 .rw[Jc d,Jc d]
  split<;>rfl
 .rw[Jb d,Jb d]
  exact(kN f he).symm
def pD(bs:ν):Q9 (bs.map V.bl) none ↑(-1)=bs.dropLast.map V.bl:=by
 unfold Q9;have e:HT.sIx (bs.map V.bl).length (bs.map V.bl).length ↑(-1)=bs.length-1:=by
  rw[Je]
  show(if(-1:Int)<0 then(-1+(bs.length:Int)).toNat else min (-1:Int).toNat bs.length)=_
  rw[Jc ⋯]
  lia
 rw[e]
 show((bs.map V.bl).drop 0).take (bs.length-1-0)=_
 rw[Kv,Nat.sub_zero,List.dropLast_eq_take,Kt]
def sj{bs:ν}(h:0<bs.length):∃x:Bool,bs.getLast? =↑x/\QK (bs.map V.bl) (-1)=↑(.bl x):=by
 have a:bs[bs.length-1]? =some bs[bs.length-1]:=Jh (by lia)
 exists bs[bs.length-1],by rw[List.getLast?_eq_getElem?,a]
 unfold QK cC;rw[Je,Jb ⋯,Jc (by lia)]
 show(bs.map V.bl)[(-1+(bs.length:Int)).toNat]? =_
 rw[show(-1+(bs.length:Int)).toNat=bs.length-1 by lia,Jo,a];rfl
def Dz{H:Hp}{c:Α}{g:Str->Δ}(h:(D.kn.map (·.1)).Nodup)(pm:c.Perm (D.kn.map (·.1)))(hd:H d=↑(.dK (c.map λnm=>(Pt nm,V.ref (g nm)))))(hg:∀nm∈c,∀e,D.kn.lookup nm=↑e->Na H (g nm) e):NC H d D.kn:=by
 have look:∀e∈D.kn,D.kn.lookup e.1=↑e.2:=λe a=>by
  let#[b,f]:=L5.mp (HZ.mpr (JC.mpr #[e,a,Z]))
  rw[f,Zo h f e a Z]
 refine#[(c.map λnm=>(nm,(D.kn.lookup nm).getD #[(0),(0),none]),g),?_,λe a=>hg e.1 (pm.mem_iff.mpr (JC.mpr #[e,a,Z])) e.2 (look e a),?_,h]
 .rw[hd]
  unfold bO;rw[Ir];rfl
 .refine(pm.map _).trans ?_
  rw[Ir]
  have:D.kn.map ((λnm=>(nm,(D.kn.lookup nm).getD #[(0),(0),none]))∘λx=>x.1)=D.kn:=by
   conv=>rhs;rw[<- List.map_id D.kn]
   refine Lr λe a=>?_
   show(e.1,(D.kn.lookup e.1).getD #[(0),(0),none])=e
   rw[look e a];rfl
  rw[this]
end
noncomputable def ZP(D D':Dr)(zs:zi):Bool:=decide ((Qk D zs).dropLast=(Qk D' zs).dropLast)&& ! decide ((Qk D zs).getLast? =(Qk D' zs).getLast?)
end L3
namespace L3
open PySem PySem.Spec PyProof.Rows L2
def De{X:Cx}{K:ι}(a:X.K=K){k:Nat}(n:Nat)(hc:X.calm=true)(h:Rk X es t)(hn:(assignEach es X.env).length=n:=by rfl)(hst:(assignEach es X.env).findIdx? (·.1)=none:=by rfl):QG X (.Tuple es k pos) (ve K n t):=by
 subst a
 exact#[vy (hc:=hc) (h:=h.h) (hn:=hn) (hst:=hst)]
def vj{K:ι}{te:TE}{H:Hp}{Q:VK}{xs:Ε}(hn:xs.length<=ζ)(Pv:Nat->Ε->Hp->Prop)(r:Pv 0 [] H)(hl:∀i ys H,Pv i ys H->HQ K H a xs)
  (hs:∀i ys H x,xs[i]? =↑x->ys.length=i->Pv i ys H->∃p g h,x= .ref p/\Sq K H p [g,h]/\te (↑g::↑h::zZ js σ) H λv f=>Pv (i+1) (ys++[v]) f)
  (hd:∀ys H,ys.length=xs.length->Pv xs.length ys H->∀p,H p=none->Q (-p) (HM H p (.lst ys))):
  jf 2 js (ve K 2 (bQ (Qf 0) (bQ (Qf 1) pN))) te σ Q (fV K a) H:=by
 exists λi m zs j H=>m=xs.length-i/\i<=xs.length/\zs.length=i/\Pv i zs H/\∃o o',j=o::o'::zZ js σ,#[xs.length,by simp,JB _,Z,r,none,none,Z]
 rintro i m zs j H ⟨rfl,hi,c,p,o,o',rfl⟩
 by_cases d:i<xs.length
 .refine .inr #[#[xs,xs[i],hl _ _ _ p,by simp [d]],by lia,λx H' y=>?_]
  let#[e,l]:H'=H/\xs[i]? =↑x:=#[y.1,y.2 xs (hl _ _ _ p)]
  subst e;let#[s,g,h,rfl,n,q]:=hs i zs _ x l c p;exists s,0,n,5
  exact#[λv f=>Pv (i+1) (zs++[v]) f,λv f t=>#[xs.length-(i+1),by lia,Z,d,by simp [c],t,13],q]
 .have e:i=xs.length:=by lia
  subst e;exact .inl #[#[xs,hl _ _ _ p,Jf _],hd zs H c p]
def ja{tc:TT}{t u:TS}(G:Bool->Hp->Prop)(h:∀a:Bool->Hp->Prop,(∀b H',G b H'->a b H')->tc σ H a)(h1:∀H',G true H'->t D σ H')(h2:∀H',G false H'->u D σ H'):vk tc t u D σ H:=h _ λb H' g=>by
 cases b with
 |true=>exact(Jc Z).mpr (h1 H' g)
 |false=>exact(Jb (by intro z;cases z)).mpr (h2 H' g)
open PySem.W (kdl_dict kdl_call)
theorem kP:∀{us:Ζ} {a:Α},HS (a.map V.str) us->StrsAre us a
 | [],[],_=> .nil
 | [],_::_,h=>by cases h
 |_::_,[],h=>by cases h
 |u::us,x::a,h=>by
  cases h with
  |cons r t=>let#[c,rfl]:=r;exact .cons _ _ (kP t)
def fY:zj X (.builtin "sorted") (λxs H Q=>∃(p:Δ) (c:Α),xs=[-p]/\H p=↑(.lst (c.map V.str))/\c.length<64/\
  ∀l a,H l=none->a.Perm c->sortedS a=true->Q (-l) (HM H l (.lst (a.map V.str)))):=by
 intro R0 s σ H xs z Q I r h;let#[p,c,rfl,i,v,q]:=h;let#[u,rfl,t]:=zT r;cases t;let#[d,g,n,_]:=I.list (HQ.of i)
 have x:=g.length;rw[Je]at x;refine sorted_strs n.isList (kP g) (by lia) λout a j f w=>?_
 let#[e,m]:=sortedAll_at s.heap d out;refine#[.ref (s.heap.objs.size+1),_,I.laid (t':=s.toks) (o:= .lst (a.map V.str)) (λb o q=>sortedAll_old q) (IL _) ?_,Z,q _ a (I.hok.fresh (IL _)) f w]
 have y:a.length=c.length:=f.length_eq
 exact#[by rw[Je,JD];lia,out.toList,e,bK j,m]
section
variable{K:ι}
def O4(H:Hp)(a:Δ)(H':Hp):Prop:=∃c,Mv c H H'/\NT c H/\a∉c
def O4.refl:O4 H a H:=#[[],λ_ _ _ e=>e,fk,λh=>nomatch h]
def O4.sql(s:O4 H a H')(h:HQ [] H a xs):HQ K H' a xs:=by
 let#[c,m,nt,d]:=s;rcases h with(h|⟨o,h⟩)|⟨o,e,n,h,_⟩
 .exact .inl (.inl (m _ _ d h))
 .exact .inl (.inr #[o,m _ _ d h])
 .cases h
def O4.sqt(s:O4 H a H')(h:HX [] H a xs):HX K H' a xs:=by
 let#[c,m,nt,e]:=s;rcases h with h|⟨o,d,n,h,_⟩
 .exact .inl (m.rd nt h)
 .cases h
end
open SeqAt
inductive Rv (x:V)(y:V)(H:Hp)(Q:VK):Prop
 |mk (a b:Δ)(ss ts:Α)(h1:x= .ref a)(h2:y= .ref b)(h3:H a=↑(.lst (ss.map V.str)))(h4:H b=↑(.lst (ts.map V.str)))(h5:ss.length=ts.length)(h6:Q (.bl (decide (ss≠ts))) H)
def FL:R2:=λx y H Q=>Rv x y H Q
def DG{X:Cx}{k:Nat}(hr:MK k X.A):zx X (Py .NotEq) FL:=by
 intro R0 s σ H x y v u Q I C M h;let#[a,b,g,l,rfl,rfl,D,B,w,q]:=h;cases C;cases M;let#[c,o,L,_]:=I.list (HQ.of (K:=X.K) D)
 let#[d,p,p2,_]:=I.list (HQ.of (K:=X.K) B)
 have n:=o.length;have z:=p.length;rw[Je]at n z;have O:X.A.units+2<cLine:=by have:=hr.un;lia
 have e:=RcNeAt.lists (A:=X.A) (e:=λj=>g.getD j default==l.getD j default) L.isList p2.isList (by simp;lia) (by lia) (λj h1 F=>by
  have i:j<c.length:=by simpa using h1
  have m:j<d.length:=by simpa using F
  let#[t,G]:=bq (cQ o) j _ (Jh i)
  let#[N,f]:=bq (cQ p) j _ (Jh m)
  simp only[KM];rw[G,f];exact TL _ _ _ _)
 have r:(!(Ag c.toArray.size).all λj=>g.getD j default==l.getD j default)=decide (g≠l):=by
  rw[Js,<- n];rw[Iu,MD,decide_eq_true_eq,<- Pf,IV];refine not_congr #[λh1=>?_,λh=>?_]
  .refine KD w λj E J=>?_
   have:=eq_of_beq (h1 j (JT.mpr (by lia)))
   rw[JG,JG,Jh E,Jh J]at this;exact this
  .subst h
   exactλj _=>Iq _
 rw[r]at e;exact e _ _ _ _ #[.bl _,H,I,Z,q]
noncomputable def zd(d base:Int):Nat:=((if base+d<4095 then base+d else 4095)-base+1).toNat
def cG{d base:Int}(a:0<=d)(c:base<=4095):(zd d base:Int)=(if base+d<4095 then base+d else 4095)-base+1:=by unfold zd;split<;>lia
inductive bM(d:Int)|mk (base:Int)(h1:vs=[.int base])(h2:0<=base)(h3:base<=4090)(h4:∀l H',HJ H H'->H' l=↑(.lst (Qq base (zd d base)))->Q (-l) H')
inductive mM(d:Int)|mk (ol m1 kd1 m2 kd2 dr nl:Δ)(D D':Dr)(nms:Α)(many:Nat)(base:Int)(h1:vs=[-ol,-dr])(h2:H ol=↑(.lst [-m1,-m2]))(h3:MJ H m1 kd1 D)(h4:MJ H m2 kd2 D')(h5:H dr=↑(.tup [-nl,.int (many:Int),.int base]))(h6:H nl=↑(.lst (nms.map V.str)))(h7:nms.length<64)(h8:many<=8)(h9:0<=base)(h10:base<=4090)(h11:∀u ms H',HJ H H'->ms.Perm nms->sortedS ms=true->N4 H' u (ms.findSome? (Qd D D' many base (zd d base)))->Q u H')
inductive vO(d:Int)|mk (ol m1 kd1 m2 kd2 dr nl:Δ)(D D':Dr)(nms:Α)(many:Nat)(base:Int)(h1:vs=[-ol,-dr])(h2:H ol=↑(.lst [-m1,-m2]))(h3:MJ H m1 kd1 D)(h4:MJ H m2 kd2 D')(h5:Nw D)(h6:Nw D')(h7:D.near<=D.far)(h8:D'.near<=D'.far)(h9:H dr=↑(.tup [-nl,.int (many:Int),.int base]))(h10:H nl=↑(.lst (nms.map V.str)))(h11:nms.length<64)(h12:many<=8)(h13:0<=base)(h14:base<=4090)(h15:∀u ms H',HJ H H'->ms.Perm nms->sortedS ms=true->N4 H' u (ms.findSome? (bm D D' many base (zd d base)))->Q u H')
structure Rx(t:Β)(kss:List Β)(D:Dr):Prop where
 ok:Nw D
 t:D.t=t
 ks:D.kss=kss
 f0:D.near<=D.far
def oP{c:Int}(h:Rx t kss D)(e:0<=c)(a:c<4096)(hd:bG d):aK D (QV t kss nm age c d)=zt D nm age ↑(c,d):=by
 unfold aK QV;simp only
 rw[h.t,show QZ D age=kss.getD age.toNat [] by unfold QZ;rw[h.ks],lh (h.t▸h.ok.tp) e a hd]
inductive mH(K:ι)(C:Δ)|mk (cd tb kt pl p ps b:Δ)(c:Nat)(H0:Hp)(t:Β)(kss:List Β)(xs:Υ)(nm:Str)(age n:Int)(is:Κ)(h1:vs=[-cd,-pl,-p,-ps])(h2:Pw K C H0 H b c pl xs)(h3:xs.length=2)(h4:NA H cd tb kt t kss)(h5:ZM nm)(h6:0<=age)(h7:age<kss.length)(h8:0<=n)(h9:n<4096)(h10:H p=↑(.tup [.str nm,.int age,.int n]))(h11:Rd H ps (.tup (is.map λi:Nat=>V.int (i:Int))))(h12:is.Nodup)(h13:(∀i∈is,i<2))(h14:(∀(i:Nat)(x:En),xs[i]? =↑x->Rx t kss x.2.1/\x.2.2.length<=900))(h15:∀H' xs',Pw K C H0 H' b c pl xs'->NA H' cd tb kt t kss->Oc (λi D=>if i∈is then{D with kn:=HP D nm age n}else D) 2 xs xs'->Q .non H')
structure Om(nms:Α)(many:Nat)(base:Int):Prop where
 nd:nms.Nodup
 nm:∀z∈nms,ZM z
 l1:1<=nms.length
 l3:nms.length<=3
 m1:1<=many
 m3:many<=3
 b0:0<=base
 b1:base<=4083
def DM{r:zi}(h:zE D D' ns=↑r):r.length<=2:=by
 cases e:ns.findSome? (Qm D D')with
 |none=>exact L0 (Bg e h)
 |some s=>
  unfold zE at h;rw[e]at h;cases h;let#[nm,_,e]:=KG e
  unfold Qm at e;let#[p,_,rfl]:=JO.mp e
  exact(by decide:1<=2)
inductive rO|mk (b:Δ)(c:Nat)(h1:vs=[-b])(h2:MZ H b c)(h3:c<100000000)(h4:∀q nl nms many base H',NM b (c+3) H H'->H' q=↑(.tup [-nl,.int ((many:Nat):Int),.int base])->H' nl=↑(.lst (nms.map V.str))->H nl=none->Om nms many base->Q (-q) H')
end L3
namespace L3
open PySem PySem.Spec PyProof.Rows L2
def iP{a:Type}{xs:List a}(h:xs.length=2):∃x y,xs=[x,y]:=by
 cases xs with
 |nil=>cases h
 |cons x r=>cases r with
  |nil=>cases h
  |cons y r=>cases r with
   |nil=>exact#[x,y,Z]
   |cons z r=>cases h
structure Pq(K:ι)(C:Δ)(H0 H:Hp)(b:Δ)(c:Nat)(xs:Υ):Prop where
 s:Mv [b] H0 H
 bx:MZ H b c
 b0:H0 b≠none
 en:∀(i:Nat) (x:En),xs[i]? =↑x->NR K C H x.1 x.2.1 x.2.2 x.2.1
 dj:∀(i j:Nat) (x y:En),i≠j->xs[i]? =↑x->xs[j]? =↑y->∀z∈eS x.1,z∉eS y.1
 fr:∀(i:Nat) (x:En),xs[i]? =↑x->∀z∈eS x.1,H0 z=none
section
variable{K:ι}{b:Δ}{c c':Nat}{i:Nat}
def Pq.nb(p:Pq K C H0 H b c xs)(hi:xs[i]? =↑x):b∉eS x.1:=λz=>p.b0 (p.fr i x hi b z)
def Pq.grc(p:Pq K C H0 H b c xs)(g:NM b c' H H'):Pq K C H0 H' b c' xs:=by
 have m:Mv [b] H H':=λc o h e=>g.kp c o (λz=>h (Ji.mpr z)) e
 exact#[p.s.trans m,g.bx,p.b0,λi x hi=>(p.en i x hi).mv m (zK p.bx) (λz a w=>p.nb hi (Ji.mp w▸a)),p.dj,p.fr]
def Pq.same(p:Pq K C H0 H b c xs)(s:HJ H H'):Pq K C H0 H' b c xs:=p.grc (s.grc p.bx)
def Pq.add{y:Em}(p:Pq K C H0 H b c xs)(s:HJ H n)(e:NR K C n y D [] D)(f:∀z∈eS y,H z=none):Pq K C H0 n b c (xs++[(y,D,[])]):=by
 have pa:=p.same s;have a:∀{j:Nat} {w:En},(xs++[(y,D,[])])[j]? =↑w->xs[j]? =↑w\/(j=xs.length/\w=(y,D,[])):=λ{j w} h=>by
  by_cases g:j<xs.length
  .rw[J3 g]at h;exact .inl h
  .rw[J9 (by lia)]at h
   cases q:j-xs.length with
   |zero=>rw[q]at h;cases h;exact .inr #[by lia,Z]
   |succ k=>rw[q]at h;cases h
 have t:∀z∈eS y,H0 z=none:=λz l=>by
  cases q:H0 z with
  |none=>rfl
  |some o=>
   by_cases w:z=b
   .subst w;let#[_,_,_,r,_]:=p.bx;rw[f z l]at r;cases r
   .have:=p.s z o (qQ w) q;rw[f z l]at this;cases this
 refine#[pa.s,pa.bx,p.b0,λj w g=>?_,λj k w u m g hk=>?_,λj w g=>?_]
 .rcases a g with g|⟨_,rfl⟩
  .exact pa.en j w g
  .exact e
 .rcases a g with d|⟨A,rfl⟩
  .rcases a hk with i|⟨_,rfl⟩
   .exact p.dj j k w u m d i
   .exactλz l v=>(p.en j w d).some l (f z v)
  .rcases a hk with i|⟨x,rfl⟩
   .exactλz l v=>(p.en k u i).some v (f z l)
   .lia
 .rcases a g with d|⟨_,rfl⟩
  .exact p.fr j w d
  .exact t
def Pq.pw(p:Pq K C H0 H b c xs)(hpl:H pl=none):Pw K C H0 (HM H pl (.lst (xs.map λx=> .ref x.1.e))) b c pl xs:=by
 have u:=HJ.upd (o:= .lst (xs.map λx=>V.ref x.1.e)) hpl
 have q:=p.same u;have nb:pl≠b:=λz=>by let#[_,_,_,e,_]:=p.bx;rw[z,e]at hpl;cases hpl
 exists q.s,q.bx,q.b0,q.en,q.dj,q.fr,qb,λi x hi z=>?_
 .exact(p.en i x hi).some z hpl
 .cases e:H0 pl with
  |none=>rfl
  |some o=>have:=p.s pl o (qQ nb) e;rw[hpl]at this;cases this
end
def fc(D:Dr)(z:Str×Int×Int):Dr:={D with kn:=HP D z.1 z.2.1 z.2.2}
def fj(D:Dr)(z:Str×Int×Int):Bool:=Qi D z.1 z.2.1 z.2.2
def yx(z:Str×Int×Int):ZP D D' [z]= ! decide (fj D z=fj D' z):=by
 unfold ZP
 show(decide (([]:ν)=[])&& ! decide (↑(fj D z)=↑(fj D' z)))=_
 rw[Jj Z,Iz];congr 1
 exact decide_eq_decide.mpr #[λh=>JE h,λh=>J0 some h]
def wQ(z y:Str×Int×Int):ZP D D' [z,y]=(decide (fj D z=fj D' z)&& ! decide (fj (fc D z) y=fj (fc D' z) y)):=by
 unfold ZP
 show(decide ([fj D z]=[fj D' z])&& ! decide (↑(fj (fc D z) y)=↑(fj (fc D' z) y)))=_
 congr 1
 .exact decide_eq_decide.mpr #[λh=>(List.cons.inj h).1,λh=>by rw[h]]
 .congr 1
  exact decide_eq_decide.mpr #[λh=>JE h,λh=>J0 some h]
def Sq.k{K:ι}(h:Sq [] H a xs):Sq K H a xs:=h.elim (λh=> .inl (O4.refl.sql h)) λh=> .inr (O4.refl.sqt h)
def z3(z:Str×Int×Int):Ε:=[.str z.1,.int z.2.1,.int z.2.2]
def Rb(H:Hp)(v:V)(zs:zi):Prop:=∃(t:Δ) (c:Η),v= .ref t/\Sq [] H t (c.map V.ref)/\c.length=zs.length/\∀(i:Nat) (a:Δ) (z:Str×Int×Int),c[i]? =↑a->zs[i]? =↑z->Sq [] H a (z3 z)
theorem Rb.same(h:Rb H v zs)(s:HJ H H'):Rb H' v zs:=by
 let#[t,c,e,h1,l,f]:=h
 exact#[t,c,e,h1.same s,l,λi a z d g=>(f i a z d g).same s]
def Rb.of{zs:zi}(h:N4 H v ↑zs):Rb H v zs:=by
 let#[t,c,e,h1,l,f]:=h
 exact#[t,c,e,.tup h1,l,λi a z d g=> .tup (f i a z d g)]
def CM{K:ι}{H:Hp}{g:TG}{tb:TS}{D:Ng}{σ:L2.St}(c:Sq [] H0 a xs)(Pv:Nat->L2.St->Hp->Prop)(d:Pv 0 σ H)(ps:∀i σ H',Pv i σ H'->HJ H0 H')
  (hs:∀i x σ H,xs[i]? =↑x->Pv i σ H->g x σ H λe h=>tb {D with nx:=Pv (i+1),ct:=Pv (i+1),bk:=D.nx} e h)(hd:∀σ H,Pv xs.length σ H->D.nx σ H){f:TI}(hw:f=Bq K (λ_ H Q=>Q (-a) H)):Aj f g tb D σ H:=by
 subst hw;exists a,Z
 rcases c with c|c
 .exact .inl #[#[_,O4.refl.sql (HJ.seq (ps 0 σ H d) c)],zQ Pv d (λi σ H' _ p=>O4.refl.sql (HJ.seq (ps i σ H' p) c)) hs hd]
 .exact .inr #[#[_,O4.refl.sqt (HJ.sqt (ps 0 σ H d) c)],gB Pv d (λi σ H' _ p=>O4.refl.sqt (HJ.sqt (ps i σ H' p) c)) hs hd]
section
variable(K:ι)(C:Δ)
inductive rL|mk (p ta hk bd lg:Δ)(n:Nat)(D:Dr)(v:V)(zs:zi)(h1:vs=[-p,v])(h2:HL K C H p ta hk bd lg n D)(h3:Nw D)(h4:D.near<=D.far)(h5:Rb H v zs)(h6:zs.length<=100)(h7:∀l H',HJ H H'->H' l=↑(.lst ((Qk D zs).map V.bl))->Q (-l) H')
inductive tm|mk (p ta hk bd lg:Δ)(n:Nat)(D:Dr)(p' ta' hk' bd' lg':Δ)(n':Nat)(D':Dr)(v:V)(zs:zi)(h1:vs=[-p,-p',v])(h2:HL K C H p ta hk bd lg n D)(h3:HL K C H p' ta' hk' bd' lg' n' D')(h4:Nw D)(h5:Nw D')(h6:D.near<=D.far)(h7:D'.near<=D'.far)(h8:Rb H v zs)(h9:zs.length<=100)(h10:zs≠[])(h11:∀H',HJ H H'->Q (.bl (ZP D D' zs)) H')
end
def vV{p:Int×Int}(d:MQ D)(d':MQ D')(k:br D (D.kn.lookup nm))(c:br D' (D'.kn.lookup nm))(h:QJ D (D.kn.lookup nm) D' (D'.kn.lookup nm)=↑p):Qi D nm p.1 p.2≠Qi D' nm p.1 p.2:=by
 unfold QJ Qh at h;let#[a,j,e]:=KG h
 split at e
 .cases e
 .rename_i ne
  cases e;have g:=eu (aN d k a) (aN d' c a) ne;let#[i,h1,f,_]:=ZJ g;rw[aS d k (by lia),aS d' c (by lia)]
  exact Jz f
def tW{r:zi}(ok:Nw D)(o:Nw D')(d:MQ D)(d':MQ D')(k:n9 D)(s:n9 D')(h:zE D D' ns=↑r):ZP D D' r=true/\r≠[]/\r.length<=2:=by
 unfold zE at h;cases e:ns.findSome? (Qm D D')with
 |some q=>
  rw[e]at h;cases h;let#[nm,_,e]:=KG e
  unfold Qm at e;let#[p,i,rfl]:=JO.mp e;refine#[?_,by simp,by simp]
  rw[yx]
  have:=vV d d' (k nm) (s nm) i
  show(! decide (Qi D nm p.1 p.2=Qi D' nm p.1 p.2))=true
  rw[Jn this];rfl
 |none=>
  rw[e]at h;let#[nm,B,v]:=KG h
  have no:QJ D (D.kn.lookup nm) D' (D'.kn.lookup nm)=none:=by
   have:=K8.mp e nm B
   unfold Qm at this;exact Pj.mp this
  unfold Zx at v;let#[p,i,rfl]:=JO.mp v;refine#[?_,by simp,by simp]
  rw[wQ];cases e1:D.kn.lookup nm with
  |none=>rw[e1]at i;cases i
  |some x=>
  cases e3:D'.kn.lookup nm with
  |none=>rw[e1,e3]at i;cases i
  |some x'=>
  rw[e1,e3]at i no;unfold ac Qh at i;let#[c,E,C]:=KG i
  let#[q,z,rfl]:=JO.mp C;have j:=k nm;have g:=s nm;rw[e1]at j;rw[e3]at g;have j:MS D x:=j
  have g:MS D' x':=g
  let#[y,w]:=cw E;have I:=d.n0;have f1:=d'.n0;have K:=d.nf;have L:=d'.nf;have H:=j.l0;have J:=g.l0;have l:0<=c:=by
   unfold zS QH at y;split at y<;>lia
  have u:c<4096:=by
   unfold QH at w;split at w<;>lia
  have A:0<=qG x.age D.least:=by unfold qG;have:=j.a0;have:=d.l0;split<;>lia
  have G:qG x.age D.least<D.kss.length:=by unfold qG;have:=j.a1;have:=d.lk;split<;>lia
  have same:Qi D nm (qG x.age D.least) c=Qi D' nm (qG x.age D.least) c:=by
   rw[aS d (k nm) (by lia),aS d' (s nm) (by lia),e1,e3,aV no A G]
  show(decide (Qi D nm _ c=Qi D' nm _ c)&& ! decide (Qi (fc D (nm,_,c)) nm q.1 q.2=Qi (fc D' (nm,_,c)) nm q.1 q.2))=true
  rw[Jj same,Iz];have t:(fc D (nm,qG x.age D.least,c)).kn.lookup nm=some (qR D x (qG x.age D.least) c).2:=aD ok.nd e1
  have m:(fc D' (nm,qG x.age D.least,c)).kn.lookup nm=some (qR D' x' (qG x.age D.least) c).2:=aD o.nd e3
  have a:MS D (qR D x (qG x.age D.least) c).2:=Z6 d j l u
  have f:MS D' (qR D' x' (qG x.age D.least) c).2:=Z6 d' g l u
  have a:br (fc D (nm,qG x.age D.least,c)) (some (qR D x (qG x.age D.least) c).2):=(show MS _ _ from#[a.a0,a.a1,a.l0,a.l1,a.w])
  have f:br (fc D' (nm,qG x.age D.least,c)) (some (qR D' x' (qG x.age D.least) c).2):=(show MS _ _ from#[f.a0,f.a1,f.l0,f.l1,f.w])
  have F:MQ (fc D (nm,qG x.age D.least,c)):=#[d.n0,d.n1,d.nf,d.f1,d.l0,d.lk]
  have n:MQ (fc D' (nm,qG x.age D.least,c)):=#[d'.n0,d'.n1,d'.nf,d'.f1,d'.l0,d'.lk]
  have:=vV (nm:=nm) (p:=q) F n (by rw[t];exact a) (by rw[m];exact f) (by rw[t,m];exact z)
  rw[Jn this];rfl
def N4.grc{b:Δ}(h:N4 H v o)(hb:MZ H b c)(g:NM b c' H H'):N4 H' v o:=by
 cases o with
 |none=>exact h
 |some r=>
  let#[t,d,e,h1,l,f]:=h
  exact#[t,d,e,g.mv.tup (zK hb) h1,l,λi a z j m=>g.mv.tup (zK hb) (f i a z j m)]
end L3
namespace Lw
open PySem L2 L3
section
variable{K:ι}{tk:Nat->Tok}
def mQ(a:At K mg "_law_model" cj ["_law_near","_law_far","_law_keys"])(T:MW K mg tk):Df P w K mg base "_law_model" W7 1 sS:=by
 refine a.dq nB λf _ A _ s H vs Q E n h=>?_
 .let#[D,rfl,l,hk,q]:=h
  exists _,(qe (qj (CD (bB qy (qv 0) (bB qy (qv 1) (bB qy (qv 2) (bB qy qf (bB qy iu DA))))))))
  refineλm j=>#[4,λkd d=>#[?_,?_]]
  .rw[qp (qm qb d)];exact qb
  exists ZE D kd,by unfold ZE;rw[l];rfl,by show 5<=15;decide
  rw[Ah];have i:kd≠m:=(qm qb d).symm
  refine q m kd _ (λc o e=>?_) j ?_ #[qb,#[([],λ_=>0),?_,?_,?_,?_],i.symm]
  .have nm:c≠m:=qm e j
   have g:c≠kd:=qm (by rw[qp nm];exact e) d
   rw[qp nm,qp g,qp nm];exact e
  .rw[qp i]at d;exact d
  .rw[qp i];exact qb
  .rw[hk];exactλe h=>nomatch h
  .rw[hk]
  .rw[hk];exact LK
def pT(a:At K mg "_law_word" c6 ["_law_own","_law_plain"])(T:MW K mg tk):Df P w K mg base "_law_word" w6 1 cD:=by
 refine a.dq M9 λf _ A _ s H vs Q E j h=>?_
 .let#[m,kd,p,D,nm,age,c,rfl,d,J,q]:=h
  exists _,(qd (q9 (qv 1) (zf Z (qh (qg (i:=2) M9.nd Z (Pr Z)) (qh (qg (i:=3) M9.nd Z (Pr Z)) (qh (qg (i:=4) M9.nd Z (Pr Z)) qK)))))
   (qd (qA (i:=5) M9.nd Z (Pr Z) (mF j (zB j (qv 0) qy) (qv 2)))
   (qd (qC (QW.pt (Qc (qw zX (qv 5) qP (qq _)) (zP (Ql (mL Z8 bP (qk (bJ Z) T.b_max Mp (qc (zB j (qv 0) qy) (qc (qx qN (qv 5) qf) qa))) (qv 3) (zB j (qv 0) qy)))))) (qe (qj qy)) qt)
   (qd (qA (i:=6) M9.nd Z (Pr Z) (qr Qu (qv 4) (qx qN (qv 5) qf)))
   (qd (qC (QW.pt (Qc (qw bP (qv 6) qf (qq _)) (zP (qw B9 (qv 6) (zB j (qv 0) qy) (qq _))))) (qe (qj qy)) qt)
   (qe (qj (As (QW.pt (Qc (qw Z8 (qv 6) (zB j (qv 0) qy) (qq _)) (zP (qw (y8 j) (qx qN (qv 5) qf) (qu (qc (qv 3) (qc (qr Qu (qv 4) qf) qa))) (qq _))))) qy qy))))))))
  exists 0,p,0,.tup J,7
  let#[R,I,_]:=id d.kn;unfold qE at q;rcases d.kn.get nm with⟨G,g⟩|⟨e,x,G,g,v,F,N⟩
  .rw[G]at q
   exists 0,m,0,d.g_known,kd,Z,.inl #[_,.inl I],17,g
   exact#[3,Qp (Jj Z) (zo (q _ (HJ.refl H)))]
  .rw[G]at q
   simp only at q
   exists 0,m,0,d.g_known,kd,Z,.inl #[_,.inl I],17,g
   refine#[3,qZ (λy=>nomatch (Jz y)) (λ_=>?_)]
   exists 0,m,0,d.g_closed,0,x,1,HX.of F,55
   have M:qL D e age=(decide ((if D.least<e.age then e.age else D.least)<=age)&&decide (age<(D.kss.length:Int))):=by
    have O:((if D.least<e.age then e.age else D.least)<=age)↔(D.least<=age/\e.age<=age):=by split<;>omega
    unfold qL Q8;rw[show decide ((if D.least<e.age then e.age else D.least)<=age)=(decide (D.least<=age)&&decide (e.age<=age))from by rw[<- Bool.decide_and];exact decide_eq_decide.mpr O]
    cases decide (D.least<=age)<;>cases decide (e.age<=age)<;>cases decide (age<(D.kss.length:Int))<;>rfl
   rw[M]at q
   by_cases h1:(if D.least<e.age then e.age else D.least)<=age
   case neg=>
    rw[Jn h1,Ii,Jb (by intro z;cases z)]at q
    exact QC (Jn h1) #[0,zo (q _ (HJ.refl H))]
   rw[Jj h1,Iz]at q;refine Qp (Jj h1) ?_
   exists 0,m,0,d.g_keys,14
   by_cases r:age<(D.kss.length:Int)
   case neg=>
    rw[Jn r,Jb (by intro z;cases z)]at q
    rw[Jn r];exact zo (q _ (HJ.refl H))
   rw[Jj r,Jc Z]at q;rw[Jj r];refine zh ?_
   exists 2,x,1,HX.of F,25
   exists 12
   by_cases l:c-e.last<1
   .rw[Jc (.inl l)]at q
    exact Qp (Jj l) (zo (q _ (HJ.refl H)))
   refine QC (Jn l) ?_
   exists 2,m,0,d.g_far,14
   by_cases n:c-e.last>D.far
   .rw[Jc (.inr n)]at q
    exact Qp (Jj n) (q _ (HJ.refl H))
   refine QC (Jn n) ?_
   rw[Jb (show¬(c-e.last<1\/c-e.last>D.far)fromλz=>z.elim l n)]at q
   exists 2,m,0,d.g_near,14
   by_cases C:c-e.last<=D.near
   .rw[Jc (.inl C)]at q
    exact Qp (Jj C) (zo (q _ (HJ.refl H)))
   refine QC (Jn C) ?_
   refine#[0,x,1,HX.of F,63,Ho,λt L=>?_]
   have u:=HJ.upd (o:= .tup [.int age,.int (c-1)]) L
   exists e.wt,t,age,c-1,N.same u,Z,.inl qb,0
   by_cases B:e.wt=↑(age,c-1)
   .rw[Jc (.inr B)]at q
    exact Qp (Jj B) (q _ u)
   .rw[Jb (λz=>z.elim C B)]at q
    exact QC (Jn B) (q _ u)
def pZ(a:At K mg "_law_hear" cR ["_law_own","_law_plain"])(T:MW K mg tk)(dG:Df P w K mg base "_law_word" w6 1 cD):Df P w K mg base "_law_hear" w6 2 jU:=by
 refine a.dq Nv λf _ A _ s H vs Q E F h=>?_
 .let#[m,kd,p,D,nm,age,c,rfl,md,hp,ok,nf,q]:=h
  exists _,(qd (q9 (qu (qc (qo dG F.mo (qc (qv 0) (qc (qv 1) qa))) (qc (qv 1) qa))) (zf Z (qh (qg (i:=2) Nv.nd Z (Pr Z)) (qh (zf Z (qh (qg (i:=3) Nv.nd Z (Pr Z)) (qh (qg (i:=4) Nv.nd Z (Pr Z)) (qh (qg (i:=5) Nv.nd Z (Pr Z)) qK)))) qK))))
   (qd (qC (qw zu (qv 2) qy (qq _)) (qe (QL F (zB F (qv 0) qy) (qv 3) (qu (qc (qv 4) (qc (qv 5) (qc qP qa)))))) qt)
   (qd (qC (qw zu (qv 2) qy (qq _)) (qe (QL F (zB F (qv 0) qy) (qv 3) (qr Z5 (QN cM (zB F (zB F (qv 0) qy) (qv 3)) Zg (Zh qf)) (qu (qc (qu (qc (qv 4) (qc (qv 5) qa))) qa))))) qt)
   (qe (qj (ze zu (qv 2) qy (qq _)))))))
  refine#[2,m,kd,p,D,nm,age,c,Z,md,hp,λH1 s1=>#[0,Ho,λt ht=>?_]]
  have u:=HJ.upd (o:= .tup [.str (qE D nm age c),-p]) ht
  have S2:=s1.trans u;have d:=md.same S2;have U:=S2 _ _ hp;exists t,0,.tup qb,Z,_,_,Z,_,_,Z,p,0,.tup U,30
  have j:=uC (age:=age) (c:=c) (nm:=nm) ok.nd nf
  generalize HM H1 t (.tup [.str (qE D nm age c),-p])=H2 at *
  exists 3
  let#[f0,hd,_]:=id d.kn
  by_cases h1:qE D nm age c="open"
  .refine Qp (Jj (by rw[h1])) ?_
   cases G:D.kn.lookup nm with
   |none=>unfold qE at h1;rw[G]at h1;exact absurd h1 (show¬(("":Str)="open") by decide)
   |some e=>
   rw[G]at j;simp only at j
   rw[Jc h1]at j;refine#[2,Ht,λt3 X=>?_]
   have u3:=HJ.upd (o:= .tup [.int age,.int c,.non]) X
   have C:=d.same u3;let#[H4,S,m4,Y]:=C.kn.put nm (a:=t3) (e:=#[age,c,none]) (by have:=ok.nl;omega) #[.non,qb,Z]
   exists 0,m,0,C.g_known,0,kd,H4,Z,S
   have J:=C.putK m4 Y;refine#[3,QC (Jn (by rw[h1];intro z;injection z with z;exact absurd z ⋯)) ?_]
   exists 41
   rw[<- j]at J
   have:=q H4 ((S2.trans u3).mv.trans (m4.mono λc h z=>h (by rw[Ji.mp z];simp))) J
   rw[Jj (show V.str (qE D nm age c)=V.str "open" by rw[h1])]
   rw[Jj h1]at this;exact this
  .refine QC (Jn (by intro z;injection z with z;exact h1 z)) ?_
   exists 3
   have L:∀H',Mv [m,kd] H H'->MJ H' m kd {D with kn:=HP D nm age c}->Q (.bl (decide (V.str (qE D nm age c)=V.str "open"))) H':=λH' m' d'=>by
    have:=q H' m' d'
    rw[Jn h1]at this;rw[Jn (show¬V.str (qE D nm age c)=V.str "open" by intro z;injection z with z;exact h1 z)]
    exact this
   by_cases r:qE D nm age c="wait"
   .refine Qp (Jj (by rw[r])) ?_
    rcases d.kn.get nm with⟨G,g⟩|⟨e,x,G,g,v,hx,hw⟩
    .unfold qE at r;rw[G]at r;exact absurd r (show¬(("":Str)="wait") by decide)
    rw[G]at j;simp only at j
    rw[Jb h1,Jc r]at j;refine#[0,m,0,d.g_known,0,kd,0,g,0,x,0,hx,λy H3 s3 W _=>?_]
    have W:H3 y=↑(.tup [.int e.age,.int e.last]):=W
    refine#[2,Ho,λB R=>#[Hl,λt5 N=>?_]]
    have u4:=HJ.upd (o:= .tup [.int age,.int c]) R
    have M:=HJ.upd (o:= .tup [-B]) N
    have e4:(HM (HM H3 B (.tup [.int age,.int c])) t5 (.tup [-B])) B=↑(.tup [.int age,.int c]):=M _ _ qb
    refine#[y,t5,6,M _ _ (u4 _ _ W),qb,Ht,λt6 H6 s6 n=>?_]
    have n:H6 t6=↑(.tup [.int e.age,.int e.last,-B]):=n
    have S6:=((s3.trans u4).trans M).trans s6;have l:=d.same S6;let#[H7,S,m7,O]:=l.kn.put nm (a:=t6) (e:=#[e.age,e.last,↑(age,c)]) (by have:=ok.nl;omega) #[-B,n,B,Z,s6 _ _ e4]
    exists 0,m,0,l.g_known,0,kd,H7,Z,S
    have I:=l.putK m7 O;rw[<- j]at I
    exact#[41,L H7 ((S2.trans S6).mv.trans (m7.mono λc h z=>h (by rw[Ji.mp z];simp))) I]
   .refine QC (Jn (by intro z;injection z with z;exact r z)) ?_
    refine#[41,L H2 S2.mv ?_]
    have:HP D nm age c=D.kn:=by
     rw[j];cases D.kn.lookup nm with
     |none=>rfl
     |some e=>simp only;rw[Jb h1,Jb r]
    rw[this];exact d
def mD(a:At K mg "_law_press" cp ["_law_code","_law_plain","_law_deed_here"])(T:MW K mg tk)(L:Df P w K mg base "press_of" W5 3 (tJ K)):Df P w K mg base "_law_press" X5 4 iJ:=by
 refine a.dq Nx λf _ A _ s H vs Q E J h=>?_
 .let#[cd,tb,kt,p,t,kss,nm,age,c,d,rfl,e,x,C,r,a0,F,z,u,I,q]:=h
  exists _,(qd (q9 (qv 1) (zf Z (qh (qg (i:=3) Nx.nd Z (Pr Z)) (qh (qg (i:=4) Nx.nd Z (Pr Z)) (qh (qg (i:=5) Nx.nd Z (Pr Z)) qK)))))
   (qe (qj (qo L J.mo (qc (qx qN (qv 0) qf) (qc (qx qN (qx qN (qv 0) qf) (qv 4)) (qc (qv 3) (qc (qv 4) (qc (qv 5) (qc (qv 2) qa))))))))))
  exists 0,p,0,.tup x,7
  let#[M,v,B,j]:=id e.ks;let#[n,g,l]:=ET (D:=#[t,kss,(0),(0),(0),(0),[]]) B j a0 F
  refine#[0,cd,1,HX.of e.e,8,cd,1,HX.of e.e,8,kt,1,v.up,g,10,tb,n,nm,age,c,d,t,0,.inr (.inl e.tb),.inr l.up,r,by rw[C.length_eq];rfl,z,u,I,λo m H1 y h1 G=>q o H1 y #[m,h1,G]]
def lT(a:At K mg "_law_copied" aR ["_law_own"])(T:MW K mg tk):Df P w K mg base "_law_copied" ["_law_own"] 1 oF:=by
 refine a.dq NS λf _ A _ s H vs Q E G h=>?_
 .let#[m,kd,D,rfl,F,q]:=h
  exists _,(qd (qA (i:=1) NS.nd Z (Pr Z) (qI i5 T.b_dict PyProof.Rows.boot_dict (qc (qv 0) qa)))
   (qd (QL G (qv 1) qy (qI i5 T.b_dict PyProof.Rows.boot_dict (qc (zB G (qv 0) qy) qa)))
   (qe (qj (qv 1)))))
  refine#[0,m,0,F.di,λj g=>?_]
  have v:=HJ.upd (o:= .dK (ZE D kd)) g
  have p:=F.same v;let#[r,J,t,x,u]:=id p.kn;refine#[0,m,0,p.g_known,kd,0,J,λl d=>?_]
  have y:=HJ.upd (o:= .dK (bO r.1 r.2)) d
  have B:=y _ _ (qb (H:=H) (a:=j) (o:= .dK (ZE D kd)))
  have n:l≠j:=(qm (qb (H:=H) (a:=j) (o:= .dK (ZE D kd))) d).symm
  refine#[0,j,0,N8.k (k:=Pt "known") B (mB _ (by show 5<=100;decide)),#[0,?_]]
  refine q j l _ (λc o C=>?_) g (QR d v) #[by rw[qb,vI],#[r,?_,λe I=>?_,x,u],n.symm]
  .rw[qp (qm C g)];exact y _ _ (v _ _ C)
  .rw[qp n];exact qb
  .have z:=t e I
   exact(z.same y).mv (S:=[j]) Mv.upd1 (NT.one B trivial)
end
end Lw
namespace L3
open PySem PySem.Spec PyProof.Rows L2 SeqAt
structure Ny(t:Β)(kss:List Β)(base:Int)(nms:Α)(D:Dr):Prop where
 hr:Rx t kss D
 dn:MQ D
 f12:D.far<=12
 mo:D.most=12
 kl:∀e∈D.kn,MS D e.2/\base<e.2.last/\e.2.last<=base+15
 sub:∀z∈D.kn.map (·.1),z∈nms
section
variable{base:Int}{age c:Int}
def Ny.few(h:Ny t kss base nms D):D.kn.length<=nms.length:=by
 have:=i6 h.hr.ok.nd h.sub
 rwa [Je]at this
def Ny.td(h:Ny t kss base nms D)(a:nms.length<=3):OZ D:=#[h.hr.ok,h.dn,λnm=>by
 cases e:D.kn.lookup nm with
 |none=>exact trivial
 |some b=>exact(h.kl _ (QP e)).1,by have:=h.few;omega]
def Ny.lo(h:Ny t kss base nms D)(nm:Str)(e:Kb)(he:D.kn.lookup nm=↑e):base<e.last/\e.last+D.far<=base+28:=by
 let#[_,a,c]:=h.kl _ (QP he)
 have:=h.f12
 simp only at a c
 omega
def Ny.lr(h:Ny t kss base nms D)(a:nms.length<=3):Rr t kss D:=#[h.hr.ok,h.hr.t,h.hr.ks,by have:=h.few;have:=h.mo;omega]
def Ny.learn(h:Ny t kss base nms D)(n:nms.length<=3)(hn:nm∈nms)(a0:0<=age)(f:age<kss.length)(j:1<=c)(m:c<4096)(i:base<c)(l:c<=base+15):Ny t kss base nms {D with kn:=zr D.kn nm #[age,c,none]}:=by
 have g:=Br D.kn nm #[age,c,none];have o:=h.few;have k:MS {D with kn:=zr D.kn nm #[age,c,none]} #[age,c,none]:=#[a0,by show age<(D.kss.length:Int);rw[h.hr.ks];exact f,j,m,λx y z=>by cases z]
 refine#[#[#[h.hr.ok.tp,h.hr.ok.l0,h.hr.ok.kl,by show(zr _ _ _).length<=60;omega,jZ h.hr.ok.nd _ _],h.hr.t,h.hr.ks,h.hr.f0],#[h.dn.n0,h.dn.n1,h.dn.nf,h.dn.f1,h.dn.l0,h.dn.lk],h.f12,h.mo,λe d=>?_,λz a=>?_]
 .rcases nJ d with d|rfl
  .have:=h.kl e d
   exact#[this.1.mono (Jf _),this.2]
  .exact#[k,i,l]
 .have a:z∈(zr D.kn nm #[age,c,none]).map (·.1):=a
  rw[bL]at a;split at a
  .exact h.sub z a
  .rcases JP.mp a with a|a
   .exact h.sub z a
   .rw[Ji.mp a];exact hn
def Ny.lrn{o:Option (Int×Int)}(h:Ny t kss base nms D)(e:nms.length<=3)(hn:nm∈nms)(ho:∀a l,o=↑(a,l)->0<=a/\a<kss.length/\1<=l/\l<4096/\base<l/\l<=base+15):Ny t kss base nms (aT nm D o):=by
 cases o with
 |none=>exact h
 |some p=>
  let#[a,l]:=p;let#[h1,f,c,d,i,g]:=ho a l Z;exact h.learn e hn h1 f c d i g
def Ny.hear(h:Ny t kss base nms D)(i:0<=c)(n:c<4096)(ch:c<=base+15):Ny t kss base nms {D with kn:=HP D nm age c}:=by
 have ok:=h.hr.ok.hearK nm age c;refine#[#[ok,h.hr.t,h.hr.ks,h.hr.f0],#[h.dn.n0,h.dn.n1,h.dn.nf,h.dn.f1,h.dn.l0,h.dn.lk],h.f12,h.mo,λe a=>?_,λz j=>h.sub z (by rw[<- i0 D nm age c];exact j)]
 have a:e∈HP D nm age c:=a
 rcases eP (D:=D) (nm:=nm) (age:=age) (c:=c)with l|⟨b,m,f,g⟩
 .rw[l]at a
  have:=h.kl e a
  exact#[this.1.mono (Jf _),this.2]
 .rw[g]at a
  rcases nJ a with a|rfl
  .have:=h.kl e a
   exact#[this.1.mono (Jf _),this.2]
  .have q:=h.kl _ (QP m)
   exists (m9 q.1 (eU f) (ZD f h.dn.l0).2 i n).mono (Jf _)
   have d:=q.2;simp only at d⊢
   unfold zD;split
   .exact d
   .split
    .exact#[by show base<c;omega,ch]
    .split
     .split
      .exact#[by show base<c;omega,ch]
      .exact d
     .exact d
def Ny.more{nms':Α}(h:Ny t kss base nms D)(hs:∀z∈nms,z∈nms'):Ny t kss base nms' D:=#[h.hr,h.dn,h.f12,h.mo,h.kl,λz a=>hs z (h.sub z a)]
def Ny.forget(h:Ny t kss base nms D):Ny t kss base nms {D with kn:=D.kn.filter λp=>decide (p.1≠nm)}:=by
 have a:(D.kn.filter λp=>decide (p.1≠nm)).Sublist D.kn:=KQ
 refine#[#[#[h.hr.ok.tp,h.hr.ok.l0,h.hr.ok.kl,JN a.length_le h.hr.ok.nl,(a.map _).nodup h.hr.ok.nd],h.hr.t,h.hr.ks,h.hr.f0],#[h.dn.n0,h.dn.n1,h.dn.nf,h.dn.f1,h.dn.l0,h.dn.lk],h.f12,h.mo,λe c=>?_,λz d=>h.sub z ((a.map _).subset d)]
 have:=h.kl e (a.subset c)
 exact#[this.1.mono (Jf _),this.2]
def Ny.close(h:Ny t kss base nms D)(a0:0<=age)(c:age<kss.length):Ny t kss base nms {D with least:=if age>D.least then age else D.least}:=by
 refine#[#[#[h.hr.ok.tp,by have:=h.hr.ok.l0;show 0<=(if age>D.least then age else D.least);split<;>omega,h.hr.ok.kl,h.hr.ok.nl,h.hr.ok.nd],h.hr.t,h.hr.ks,h.hr.f0],#[h.dn.n0,h.dn.n1,h.dn.nf,h.dn.f1,by have:=h.hr.ok.l0;show 0<=(if age>D.least then age else D.least);split<;>omega,by have:=h.dn.lk;show(if age>D.least then age else D.least)<(D.kss.length:Int);rw[h.hr.ks]at this⊢;split<;>omega],h.f12,h.mo,λe a=>?_,h.sub]
 have:=h.kl e a
 exact#[this.1.mono (Jf _),this.2]
def Ny.turn{ks:Β}(h:Ny t kss base nms D)(d:kss.length<3):Ny t (kss++[ks]) base nms {D with kss:=D.kss++[ks]}:=by
 have hk:=h.hr.ks;have a:(D.kss++[ks]).length=D.kss.length+1:=by rw[Jy];rfl
 refine#[#[#[h.hr.ok.tp,h.hr.ok.l0,by show(D.kss++[ks]).length<=8;rw[a,hk];omega,h.hr.ok.nl,h.hr.ok.nd],h.hr.t,by show D.kss++[ks]=kss++[ks];rw[hk],h.hr.f0],#[h.dn.n0,h.dn.n1,h.dn.nf,h.dn.f1,h.dn.l0,by have:=h.dn.lk;show D.least<((D.kss++[ks]).length:Int);rw[a];omega],h.f12,h.mo,λe c=>?_,h.sub]
 have:=h.kl e c
 exact#[this.1.mono (by show D.kss.length<=(D.kss++[ks]).length;rw[a];omega),this.2]
def Ny.win(h:Ny t kss base nms D)(c:nms.length<=3)(i:0<=base)(l:base<=4083)(hx:QU x (zn D a (D.kn.lookup nm))=true):base<=x/\x<base+(zd 30 base:Int):=by
 rw[cG ⋯ (by omega)]
 cases e:D.kn.lookup nm with
 |none=>rw[e]at hx;cases hx
 |some k=>
  rw[e]at hx;have ok:=(h.td c).kn nm;rw[e]at ok;let#[h1,g,d]:=nR h.dn ok hx;let#[j,f]:=h.lo nm k e;split<;>omega
def Ny.due(h:Ny t kss base nms D)(h':Ny t kss base nms D')(f:nms.length<=3)(g:0<=base)(j:base<=4083)(ms:Α):zE D D' ms=match ms.findSome? (Qd D D' kss.length base (zd 30 base))with
  |some r=>↑r
  |none=>ms.findSome? (bm D D' kss.length base (zd 30 base)):=by
 have td:=h.td f;have c:=h'.td f;have hk:D.kss.length=D'.kss.length:=by rw[h.hr.ks,h'.hr.ks]
 rw[<- h.hr.ks];have l:ms.findSome? (Qd D D' D.kss.length base (zd 30 base))=ms.findSome? (Qm D D'):=iF λnm _=>rZ td.dn c.dn (td.kn nm) (c.kn nm) g (by rw[cG ⋯ (by omega)];split<;>omega) λa x _ d=>by
  rcases d with d|d
  .exact h.win f g j d
  .exact h'.win f g j d
 unfold zE;rw[l];cases e:ms.findSome? (Qm D D')with
 |some r=>rfl
 |none=>exact(iF λnm i=>Bh td.ok c.ok td.dn c.dn td.kn c.kn hk g (by rw[cG ⋯ (by omega)];split<;>omega) (λx m n=>by rw[cG ⋯ (by omega)];split<;>omega) h.lo h'.lo (K8.mp e nm i)).symm
end
theorem rS:∀{l c:Β},l.Pairwise (· < ·)->c.Pairwise (· < ·)->(∀x,x∈l↔x∈c)->l=c
 | [],[],_,_,_=>rfl
 | [],y::c,_,_,h=>absurd ((h y).mpr (Jr ..)) (Jt)
 |x::l,[],_,_,h=>absurd ((h x).mp (Jr ..)) (Jt)
 |x::l,y::c,p,p',h=>by
  let#[d,p2]:=KN.mp p;let#[f,g]:=KN.mp p';have e:x=y:=by
   rcases Jg.mp ((h x).mp (Jr ..))with z|z
   .exact z
   .rcases Jg.mp ((h y).mpr (Jr ..))with u|u
    .exact u.symm
    .have:=f x z
     have:=d y u
     omega
  subst e;rw[rS p2 g λz=>?_]
  constructor
  .intro a
   rcases Jg.mp ((h z).mp (Jv _ a))with u|u
   .have:=d z a;omega
   .exact u
  .intro a
   rcases Jg.mp ((h z).mpr (Jv _ a))with u|u
   .have:=f z a;omega
   .exact u
def iT(x:Int)(n:Nat):((Ag n).map λi:Nat=>x+(i:Int)).Pairwise (· < ·):=by
 rw[List.pairwise_map];exact Oz.imp λ{a b} h=>by omega
def CA{S:List (Int×Int)}(h:Rz S)(hb:∀p∈S,p.1<=p.2):(qB S).Pairwise (· < ·):=by
 unfold qB;cases h with
 |nil=>exact SU
 |one x y hxy=>
  rw[KF,KL,Ic];exact iT _ _
 |two x y z h1 h2=>
  rw[KF,KF,KL,Ic];refine K0.mpr #[iT _ _,iT _ _,λa d b c=>?_]
  let#[i,hi,rfl]:=JC.mp d;let#[j,e,rfl]:=JC.mp c
  have:=JT.mp hi
  have:=JT.mp e
  simp only at *
  omega
def Ny.opened(h:Ny t kss base nms D)(f:nms.length<=3)(o:0<=base)(s:base<=4083):(((Ag (zd 30 base)).map λi:Nat=>base+(i:Int)).filter λc=>decide (qE D nm a c="open"))=qB (Qe D nm a):=by
 have td:=h.td f;have r:Qe D nm a=zn D a (D.kn.lookup nm):=Z
 have g:NF (zn D a (D.kn.lookup nm)):=by
  cases e:D.kn.lookup nm with
  |none=>exact .nil
  |some k=>have:=td.kn nm;rw[e]at this;exact gE td.dn this a
 refine rS ((iT _ _).sublist KQ) (CA g.two λp m=>(g.bd p m).2.1) λx=>?_
 rw[r,iL,LL,JC];have l:∀c:Int,c<=4095->(decide (qE D nm a c="open")=QU c (zn D a (D.kn.lookup nm))):=λc n=>aS td.dn (td.kn nm) n
 have j:=cG (d:=30) (base:=base) ⋯ (by omega)
 constructor
 .rintro⟨⟨i,hi,rfl⟩,q⟩
  have:=JT.mp hi
  rw[<- l _ (by split at j<;>omega)]
  exact q
 .intro q
  let#[v,u]:=h.win f o s q;exists #[(x-base).toNat,JT.mpr (by omega),by omega]
  rw[l x (by split at j<;>omega)]
  exact q
structure Oh where
 el:Δ
 pl:Δ
 nl:Δ
 a:Em
 a':Em
def Qn(E:Oh):Η:=eS E.a++eS E.a'
def zN(E:Oh):Η:=E.el::Qn E
structure MO(K:ι)(C:Δ)(H:Hp)(E:Oh)(t:Β)(kss:List Β)(base:Int)(nms:Α)(D D':Dr)(n:Nat):Prop where
 ent:∃cd dr tb kt,H E.el=↑(.lst [-cd,-E.pl,-dr])/\NA H cd tb kt t kss/\H dr=↑(.tup [-E.nl,.int (kss.length:Int),.int base])
 nl:H E.nl=↑(.lst (nms.map V.str))
 pl:H E.pl=↑(.lst [-E.a.e,-E.a'.e])
 e0:∃L,L.length<=n/\NR K C H E.a D L D
 e1:∃L,L.length<=n/\NR K C H E.a' D' L D'
 dj:∀z∈eS E.a,z∉eS E.a'
 ne:E.el∉Qn E
 np:E.pl∉Qn E
 nn:E.nl∉Qn E
 np':E.pl≠E.el
 nn':E.nl≠E.el
 few:Om nms kss.length base
 s0:Ny t kss base nms D
 s1:Ny t kss base nms D'
section
variable{K:ι}{C:Δ}{S:Η}{H H':Hp}{E:Oh}{t:Β}{kss:List Β}{base:Int}{nms:Α}{D D':Dr}{n m:Nat}{b:Δ}{c c':Nat}{z:Δ}
def jK(h:z∈Qn E):z∈eS E.a\/z∈eS E.a':=JP.mp h
def iQ(h:z∈eS E.a):z∈Qn E:=LN _ h
def mn(h:z∈eS E.a'):z∈Qn E:=JQ _ h
theorem MO.nt(e:MO K C H E t kss base nms D D' n):NT (Qn E) H:=λz a=>by
 rcases jK a with h|h
 .let#[_,_,x]:=e.e0;exact x.nt z h
 .let#[_,_,x]:=e.e1;exact x.nt z h
def MO.ntF(e:MO K C H E t kss base nms D D' n):NT (zN E) H:=λz a=>by
 rcases Jg.mp a with rfl|h
 .let#[_,_,_,_,x,_]:=e.ent;exact#[_,x,trivial]
 .exact e.nt z h
theorem MO.mv(e:MO K C H E t kss base nms D D' n)(mv:Mv S H H')(nt:NT S H)(h1:∀z∈zN E,z∉S)(h2:E.pl∉S)(f:E.nl∉S):MO K C H' E t kss base nms D D' n:=by
 let#[cd,h,tb,kt,i,l,d]:=e.ent;let#[L,j,y]:=e.e0;let#[L',c,g]:=e.e1
 exact#[#[cd,h,tb,kt,mv _ _ (h1 _ (Jr ..)) i,l.mv mv nt,mv.tup nt d],mv _ _ f e.nl,mv _ _ h2 e.pl,#[L,j,y.mv mv nt λz a=>h1 z (Jv _ (iQ a))],#[L',c,g.mv mv nt λz a=>h1 z (Jv _ (mn a))],e.dj,e.ne,e.np,e.nn,e.np',e.nn',e.few,e.s0,e.s1]
def MO.grc(e:MO K C H E t kss base nms D D' n)(a:MZ H b c)(g:NM b c' H H')(hb:b∉zN E)(hp:b≠E.pl)(hn:b≠E.nl):MO K C H' E t kss base nms D D' n:=e.mv (S:=[b]) (λx o h q=>g.kp x o (λz=>h (Ji.mpr z)) q) (zK a) (λz d w=>hb (Ji.mp w▸d)) (qQ hp.symm) (qQ hn.symm)
def MO.same(e:MO K C H E t kss base nms D D' n)(s:HJ H H'):MO K C H' E t kss base nms D D' n:=e.mv (S:=[]) s.mv fk (λ_ _ h=>nomatch h) (λh=>nomatch h) (λh=>nomatch h)
def MO.mono(e:MO K C H E t kss base nms D D' n)(h:n<=m):MO K C H E t kss base nms D D' m:=by
 let#[L,c,y]:=e.e0;let#[L',a,d]:=e.e1
 exact#[e.ent,e.nl,e.pl,#[L,JN c h,y],#[L',JN a h,d],e.dj,e.ne,e.np,e.nn,e.np',e.nn',e.few,e.s0,e.s1]
def gY(E:Oh)(H:Hp):Hp:=λz=>if z∈E.pl::Qn E then none else H z
def iR(h:z∈E.pl::Qn E):gY E H z=none:=Jc h
def j5(h:z∉E.pl::Qn E):gY E H z=H z:=Jb h
def MO.pw(e:MO K C H E t kss base nms D D' n)(y:NR K C H E.a D L D)(h:NR K C H E.a' D' L' D')(g:MZ H b c)(hb:b∉E.pl::Qn E):Pw K C (gY E H) H b c E.pl [(E.a,D,L),(E.a',D',L')]:=by
 have d:∀{i:Nat} {x:En},[(E.a,D,L),(E.a',D',L')][i]? =↑x->(i=0/\x=(E.a,D,L))\/(i=1/\x=(E.a',D',L')):=λ{i x} a=>by
  match i,a with
  |0,a=>cases a;exact .inl #[9]
  |1,a=>cases a;exact .inr #[9]
  |k+2,a=>cases a
 refine#[λx o _ a=>?_,g,λz=>?_,λi x a=>?_,λi j x z m a f=>?_,λi x a z f=>?_,e.pl,λi x a z=>?_,iR (Jr ..)]
 .by_cases w:x∈E.pl::Qn E
  .rw[iR w]at a;cases a
  .rw[j5 w]at a;exact a
 .rw[j5 hb]at z
  let#[_,_,_,q,_]:=g;rw[q]at z;cases z
 .rcases d a with⟨_,rfl⟩|⟨_,rfl⟩
  .exact y
  .exact h
 .rcases d a with⟨h1,rfl⟩|⟨h1,rfl⟩<;>rcases d f with⟨l,rfl⟩|⟨l,rfl⟩
  .omega
  .exact e.dj
  .exactλu p v=>e.dj u v p
  .omega
 .rcases d a with⟨_,rfl⟩|⟨_,rfl⟩
  .exact iR (Jv _ (iQ f))
  .exact iR (Jv _ (mn f))
 .rcases d a with⟨_,rfl⟩|⟨_,rfl⟩
  .exact e.np (iQ z)
  .exact e.np (mn z)
def Pw.mv37{L L':Ρ}(p:Pw K C (gY E H) H' b c' E.pl [(E.a,F,L),(E.a',F',L')])(e:MO K C H E t kss base nms D D' n):Mv (b::Qn E) H H':=λx o h a=>by
 by_cases w:x=E.pl
 .subst w
  rw[e.pl]at a;cases a;exact p.pe
 .refine p.s x o (qQ λz=>h (z▸Jr ..)) ?_
  rw[j5 λz=>?_]
  .exact a
  .rcases Jg.mp z with z|z
   .exact w z
   .exact h (Jv _ z)
def EL{xs:Υ}(r:H' E.pl=↑(.lst (xs.map λx=> .ref x.1.e)))(o:∀(i:Nat) (x:En),xs[i]? =↑x->NR K C H' x.1 x.2.1 x.2.2 x.2.1)(e:MO K C H E t kss base nms D D' n)(h2:xs.length=2)(hx:∀(i:Nat) (x:En),xs[i]? =↑x->(i=0->x.1=E.a)/\(i=1->x.1=E.a')/\Ny t kss' base nms x.2.1/\x.2.2.length<=m)(g:∃cd l tb kt,H' E.el=↑(.lst [-cd,-E.pl,-l])/\NA H' cd tb kt t kss'/\H' l=↑(.tup [-E.nl,.int (kss'.length:Int),.int base]))(hn:H' E.nl=↑(.lst (nms.map V.str)))(few:Om nms kss'.length base):∃F F',MO K C H' E t kss' base nms F F' m:=by
 let#[#[p,F,L],#[q,F',L'],rfl]:=iP h2;let#[a,_,c,h]:=hx 0 _ Z;let#[_,f,j,d]:=hx 1 _ Z
 obtain rfl:p=E.a:=a Z
 obtain rfl:q=E.a':=f Z
 exact#[F,F',g,hn,r,#[L,h,o 0 _ Z],#[L',d,o 1 _ Z],e.dj,e.ne,e.np,e.nn,e.np',e.nn',few,c,j]
def Pw.mvL37(p:Pw K C (gY E H) H' b c' E.pl xs)(e:MO K C H E t kss base nms D D' n)(h2:xs.length=2)(hx:∀(i:Nat) (x:En),xs[i]? =↑x->(i=0->x.1=E.a)/\(i=1->x.1=E.a')):Mv (b::Qn E) H H':=by
 let#[#[a,F,L],#[c,F',L'],rfl]:=iP h2
 obtain rfl:a=E.a:=(hx 0 _ Z).1 Z
 obtain rfl:c=E.a':=(hx 1 _ Z).2 Z
 exact p.mv37 e
def MO.ntB(e:MO K C H E t kss base nms D D' n)(a:MZ H b c):NT (b::Qn E) H:=λz d=>by
 rcases Jg.mp d with rfl|h
 .exact zK a _ (Ji.mpr Z)
 .exact e.nt z h
def Pw.backL37(p:Pw K C (gY E H) H' b c' E.pl xs)(e:MO K C H E t kss base nms D D' n)(f:MZ H b c)(hb:b∉zN E)(hn:b≠E.nl)(h2:xs.length=2)(hx:∀(i:Nat) (x:En),xs[i]? =↑x->(i=0->x.1=E.a)/\(i=1->x.1=E.a')/\Ny t kss base nms x.2.1/\x.2.2.length<=m):∃F F',Mv (b::zN E) H H'/\MO K C H' E t kss base nms F F' m:=by
 have M:=p.mvL37 e h2 λi x h=>#[(hx i x h).1,(hx i x h).2.1]
 have N:=e.ntB f;let#[cd,g,tb,kt,j,l,d]:=e.ent;have a:∀{z:Δ},z≠b->z∉Qn E->z∉b::Qn E:=λh1 h2 h=>(Jg.mp h).elim h1 h2
 let#[F,F',e']:=EL p.pe p.en e h2 hx #[cd,g,tb,kt,M _ _ (a (λz=>hb (z▸Jr ..)) e.ne) j,l.mv M N,M.tup N d] (M _ _ (a hn.symm e.nn) e.nl) e.few
 exact#[F,F',M.mono λc h z=>h ((Jg.mp z).elim (λz=>z▸Jr ..) λz=>Jv _ (Jv _ z)),e']
end
def xo(D:Dr)(kd:Δ)(k:Β):L2.MX (ZE D kd) (Pt "keys":qJ) (.int ((D.kss.length:Int)+1))=ZE {D with kss:=D.kss++[k]} kd:=by
 unfold L2.MX ZE;rw[Jc (by simp [J4])]
 have h1:¬((Pt ("near":Str):Sum Int Str)=Pt ("keys":Str)):=by decide +kernel
 have d:¬((Pt ("far":Str):Sum Int Str)=Pt ("keys":Str)):=by decide +kernel
 have a:¬((Pt ("closed":Str):Sum Int Str)=Pt ("keys":Str)):=by decide +kernel
 have e:¬((Pt ("known":Str):Sum Int Str)=Pt ("keys":Str)):=by decide +kernel
 have c:((D.kss++[k]).length:Int)=(D.kss.length:Int)+1:=by rw[Jy];rfl
 simp only[JS,Ln,Jb h1,Jb d,Jb a,Jb e,Io,c]
def MJ.turn{kd:Δ}(a:MJ H m kd D)(k:Β):∃H',N8 H m (.str "keys") (.int ((D.kss.length:Int)+1)) H'/\Mv [m] H H'/\MJ H' m kd {D with kss:=D.kss++[k]}:=by
 refine#[_,N8.k (k:=Pt "keys") a.di (mB _ (by show 5<=100;decide)),Mv.upd1,by rw[qb,xo],a.kn.mv Mv.upd1 (NT.one a.di trivial) (qQ a.ne.symm),a.ne]
def EX{tc:TT}{t u:TS}{rt:VK}{bk ct:L2.St->Hp->Prop}(G:Bool->Hp->Prop)(h:∀a:Bool->Hp->Prop,(∀b H',G b H'->a b H')->tc σ H a)(h1:∀H',G true H'->t D σ H')(h2:∀H',G false H'->u D σ H'):Ng.nx {nx:=vk tc t u D,rt:=rt,bk:=bk,ct:=ct} σ H:=ja G h h1 h2
def Bp{D D':Dr}{ns ms:Α}(n1:ns.Nodup)(n2:ms.Nodup)(c:sortedS ns=true)(f:sortedS ms=true)(h:∀k,k∈ns↔k∈D.kn.map (·.1)\/k∈D'.kn.map (·.1))(hs:∀k,k∈D.kn.map (·.1)\/k∈D'.kn.map (·.1)->k∈ms):zE D D' ns=zE D D' ms:=by
 have e:ns=ms.filter λk=>decide (k∈D.kn.map (·.1)\/k∈D'.kn.map (·.1)):=by
  have pm:ns.Perm (ms.filter λk=>decide (k∈D.kn.map (·.1)\/k∈D'.kn.map (·.1))):=(Ph n1 (KQ.nodup n2)).mpr λk=>by
   rw[LL,decide_eq_true_eq]
   exact#[λw=>#[hs k ((h k).mp w),(h k).mp w],λw=>(h k).mpr w.2]
  refine List.Perm.eq_of_pairwise (le:=yw) (λx y _ _ h1 d=>?_) (aC c) ((aC f).sublist KQ) pm
  have e:x.cps.toList=y.cps.toList:=Ou h1 d
  cases x with
  |mk u=>cases y with
   |mk v=>exact J0 Str.mk (Array.ext' e)
 have no:∀k,decide (k∈D.kn.map (·.1)\/k∈D'.kn.map (·.1))=false->D.kn.lookup k=none/\D'.kn.lookup k=none:=λk hk=>by
  have:=of_decide_eq_false hk
  exact#[dv λz=>this (.inl z),dv λz=>this (.inr z)]
 have i:∀k∈ms,decide (k∈D.kn.map (·.1)\/k∈D'.kn.map (·.1))=false->Qm D D' k=none:=λk _ hk=>by
  let#[a,b]:=no k hk;unfold Qm;rw[a,b]
  have:QJ D none D' none=none:=zA λx _ _=>Jc Z
  rw[this];rfl
 have g:∀k∈ms,decide (k∈D.kn.map (·.1)\/k∈D'.kn.map (·.1))=false->Zx D D' k=none:=λk _ hk=>by
  let#[a,b]:=no k hk;unfold Zx;rw[a,b];rfl
 unfold zE;rw[e,kS _ i,kS _ g]
section
variable(K:ι)(C:Δ)
inductive kQ|mk (b dr nl:Δ)(c:Nat)(nms:Α)(many:Nat)(base:Int)(h1:vs=[-b,-dr])(h2:MZ H b c)(h3:c<1000000)(h4:H dr=↑(.tup [-nl,.int (many:Int),.int base]))(h5:H nl=↑(.lst (nms.map V.str)))(h6:nl≠b)(h7:Om nms many base)(h8:∀E t kss D D' H',NM b (c+100) H H'->MO K C H' E t kss base nms D D' 6->E.nl=nl->H E.pl=none->(∀z∈zN E,H z=none)->Q (-E.el) H')
inductive mE|mk (E:Oh)(b:Δ)(c:Nat)(t:Β)(kss:List Β)(base:Int)(nms:Α)(D D':Dr)(n:Nat)(h1:vs=[-b,-E.el])(h2:MZ H b c)(h3:c<1000000)(h4:MO K C H E t kss base nms D D' n)(h5:b∉zN E)(h6:b≠E.pl)(h7:b≠E.nl)(h8:n<=800)(h9:∀kss' F F' H',Mv (b::zN E) H H'->MZ H' b (c+20)->MO K C H' E t kss' base nms F F' (n+2)->Q .non H')
inductive k6|mk (E:Oh)(b:Δ)(c:Nat)(t:Β)(kss:List Β)(base:Int)(nms:Α)(D D':Dr)(n:Nat)(h1:vs=[-b,-E.el])(h2:MZ H b c)(h3:c<1000000)(h4:MO K C H E t kss base nms D D' n)(h5:b∉zN E)(h6:b≠E.pl)(h7:b≠E.nl)(h8:∀H',NM b (c+4) H H'->Q (.bl true) H')
end
inductive fE(K:ι)(C:Δ)|mk (cd tb kt pl tl b:Δ)(c:Nat)(H0:Hp)(t:Β)(kss:List Β)(xs:Υ)(nm:Str)(os:List (Option (Int×Int)))(h1:vs=[-cd,-pl,.str nm,-tl])(h2:Pw K C H0 H b c pl xs)(h3:xs.length=2)(h4:NA H cd tb kt t kss)(h5:ZM nm)(h6:NY H tl os)(h7:os.length=2)(h8:(∀(i:Nat)(x:En),xs[i]? =↑x->tl∉eS x.1))(h9:(∀(i:Nat)(x:En),xs[i]? =↑x->Rr t kss x.2.1/\(∀a l,os.getD i none=↑(a,l)->x.2.1.least<=a/\x.2.1.kn.lookup nm=none)/\x.2.1.kn.length<=11/\x.2.2.length<=900))(h10:(∀a l,↑(a,l)∈os->0<=a/\a<kss.length/\1<=l/\l<4096))(h11:∀H' xs',Pw K C H0 H' b c pl xs'->NA H' cd tb kt t kss->Oc (λi D=>aT nm D (os.getD i none)) 2 xs xs'->(∀c ys,H c=↑(.tup ys)->H' c=↑(.tup ys))->Q .non H')
def NL(E F:Oh):Prop:=(∀z∈zN E,z∉zN F)/\E.pl∉zN F/\E.nl∉zN F/\F.pl∉zN E/\F.nl∉zN E
def NL.symm(h:NL E F):NL F E:=#[λz h1 a=>h.1 z a h1,h.2.2.2.1,h.2.2.2.2,h.2.1,h.2.2.1]
def MO.apart{K:ι}{F:Oh}(e:MO K C H E t kss base nms D D' n)(f1:∀z∈zN F,H z=none)(f2:H F.pl=none)(c:H F.nl=none):NL E F:=by
 have a:∀z∈zN E,H z≠none:=λz d w=>by let#[o,x,_]:=e.ntF z d;rw[w]at x;cases x
 exact#[λz h1 f=>a z h1 (f1 z f),λh=>(by have:=f1 _ h;rw[e.pl]at this;cases this),λh=>(by have:=f1 _ h;rw[e.nl]at this;cases this),λh=>a _ h f2,λh=>a _ h c]
def MO.other{K:ι}{b:Δ}(e:MO K C H E t kss base nms D D' n)(f:MO K C H F t' kss' a nms' G l j)(g:NL E F)(i:MZ H b c)(hb:b∉zN E)(hp:b≠E.pl)(hn:b≠E.nl)(m:Mv (b::zN F) H H'):MO K C H' E t kss base nms D D' n:=by
 have N:NT (b::zN F) H:=λz d=>by
  rcases Jg.mp d with rfl|h
  .exact zK i _ (Ji.mpr Z)
  .exact f.ntF z h
 exact e.mv m N (λz d w=>(Jg.mp w).elim (λq=>hb (q▸d)) (g.1 z d)) (λw=>(Jg.mp w).elim (λq=>hp q.symm) g.2.1) (λw=>(Jg.mp w).elim (λq=>hn q.symm) g.2.2.1)
def N4.mvW(h:N4 H v o)(m:Mv S H H')(n:NT S H):N4 H' v o:=by
 cases o with
 |none=>exact h
 |some r=>
  let#[t,c,e,h1,f,d]:=h
  exact#[t,c,e,m.tup n h1,f,λi a z j g=>m.tup n (d i a z j g)]
def MO.ntFB{K:ι}{b:Δ}(e:MO K C H E t kss base nms D D' n)(a:MZ H b c):NT (b::zN E) H:=λz d=>by
 rcases Jg.mp d with rfl|h
 .exact zK a _ (Ji.mpr Z)
 .exact e.ntF z h
end L3
namespace Lw
open PySem L2 L3
section
variable{P:Ξ}{w:Ω}{K:ι}{mg:HH}{base:Ψ}{tk:Nat->Tok}{C:Δ}
def jB(a:At K mg "_law_learnt" bz ["_law_code","_law_pair_here","_law_name","_law_told"])(T:MW K mg tk)(U:ND K C)(xX:Mf P w K mg base C "learn" ["self","one","other"] 7 (kC K C))(dW:Df P w K mg base "_law_press" X5 4 iJ):Df P w K mg base "_law_learnt" X2 8 (fE K C):=by
  refine a.dq M0 λf _ A _ s H vs Q E hr h=>?_
  · let#[cd,tb,kt,pl,tl,b,c,H0,t,kss,xs,nm,G,rfl,pw,lx,hc,hn,ho,lo,f1,hx,d5,q]:=h
    exists _,(qe (zg JJ Z (zM Z T.b_range (qc qf qa)) (qg (i:=4) M0.nd Z (Pr Z))
      (qe (qC (qw Z1 (qx qF (qv 3) (qv 4)) qP (qq _)) (qd (q9 (qx qF (qv 3) (qv 4)) (zf Z (qh (qg (i:=5) M0.nd Z (SV Z)) (qh (qg (i:=6) M0.nd Z (Pr Z)) qK))))
      (qd (cP (i:=7) M0.nd Z (Pr Z) (own:=["_law_count"]) (fr:=["_law_name","_law_code","_law_age"]) (js:=[2,0,5]) Z (ao (qu (qc (qr Qu (qv 6) qf) (qc (qv 6) qa)))) Z (Fh Z Z Z) Z (EH Z nofun nofun nofun Z Z Z Z Z Z Z Z Z) (λ_ _ _ _=>qg (i:=0) (show P4 (["_law_count","_law_name","_law_code","_law_age"]:Α)from by decide +kernel) Z (Pr Z) (.inr Z)) (λ_ _ _ _=>(qo dW hr.mo (qc (qv 2) (qc (qu (qc (qv 1) (qc (qv 3) (qc (qv 0) qa)))) (qc qf qa))))))
      (qd (zc (zb xX U.cl hr.mo (qx qN (qx qF (qv 1) (qv 4)) qf) (qc (qx qF (qv 7) qf) (qc (qx qF (qv 7) qf) qa))))
      (qe (QL hr (zB hr (qx qN (qx qF (qv 1) (qv 4)) qf) qy) (qv 2) (qu (qc (qv 5) (qc (qv 6) (qc qP qa))))))))) qt))))
    exists 0,⋯,⋯
    refine Qx (n:=2) (Pv:=λj σ Y=>∃r,Pw K C H0 Y b c pl r/\NA Y cd tb kt t kss/\NY Y tl G/\(∀c ys,H c=↑(.tup ys)->Y c=↑(.tup ys))/\Oc (λi D=>if i<j then aT nm D (G.getD i none)else D) j xs r/\∃o4 o5 o6 o7,σ=[↑(-cd),↑(-pl),↑(.str nm),↑(-tl),o4,o5,o6,o7]) #[xs,pw,hc,ho,(λ_ _ h=>h),(Oc.refl xs).ext (λi x hi=>by simp),22] ?_ ?_
    · rintro j σ Y hj ⟨r,J,W,S,X,st,o4,o5,o6,o7,rfl⟩
      have d1:j<xs.length:=by rw[lx];exact hj
      have ex:=Jh d1;let#[x,rx]:∃x,x=xs[j]:=#[0]
      rw[<- rx]at ex;let#[L1,v,ll]:=st.2 j x ex;simp only[Ia,JH]at v;let#[dp,l0,g2,g0]:=hx j x ex;have en:=J.en j _ v;simp only at en
      let#[vs,b5,e6,d8]:=id S;have hv:j<vs.length:=by rw[e6,lo];exact hj
      have a4:j<G.length:=by rw[lo];exact hj
      have b4:QK vs (0+(j:Int))=some vs[j]:=by rw[Kc];exact Qs (Jh hv)
      have B:=d8 j vs[j] G[j] (Jh hv) (Jh a4);have R:G.getD j none=G[j]:=by rw[JG,Jh a4];rfl
      have b3:∀{f:Nat->Dr->Dr} {a3:Υ},Oc f (j+1) xs a3->f j x.2.1=aT nm x.2.1 G[j]->(∀i,i≠j->f i=λD=>if i<j then aT nm D (G.getD i none)else D)->Oc (λi D=>if i<j+1 then aT nm D (G.getD i none)else D) (j+1) xs a3:=λh e1 e2=>h.ext λi y hi=>by
        by_cases z:i=j
        · subst z
          rw[ex]at hi;cases hi
          rw[e1,Jc (by omega),R]
        · rw[e2 i z]
          simp only
          by_cases w:i<j
          · rw[Jc w,Jc (by omega)]
          · rw[Jb w,Jb (by omega)]
      exists 2,tl,vs,6,HQ.of b5,b4,8
      cases eo:G[j]with
      | none=>
        rw[eo]at B;have B:vs[j]= .non:=B
        refine QC (by rw[B];rfl) #[r,J,W,S,X,?_,22]
        exact b3 (st.mono (by omega)) (by rw[eo];simp [aT]) (λi hi=>rfl)
      |some al=>
      let#[u,l]:=al;rw[eo]at B;let#[tt,b6,e0]:=B;let#[a0,a1,g1,g3]:=d5 u l (eo▸IH a4)
      refine Qp (by rw[b6];rfl) ?_
      exists 2,tl,vs,6,HQ.of b5,b4,tt,_,b6,.tup e0,5
      refine#[12,Ho,λtq d2=>#[tq,Z,#[_,HX.of qb],?_]]
      have uq:=HJ.upd (o:= .tup [.int (l-1),.int l]) d2
      have b2:=W.same uq;have f4:(HM Y tq (.tup [.int (l-1),.int l])) tq=↑(.tup [.int (l-1),.int l]):=qb
      have f9:=J.same uq;have d3:=S.same uq;generalize HM Y tq (.tup [.int (l-1),.int l])=Hq at *
      refine bA (K:=K) (a:=tq) (xs:=[.int (l-1),.int l]) (Ho) (λi ys Hy=>HJ Hq Hy/\∃M:Η,ys=M.map V.ref/\M.length=i/\∀(k:Nat) (p:Δ),M[k]? =↑p->dw Hy p (QV t kss nm u (l-1+(k:Int)) 0)) #[HJ.refl _,[],9,λk p h=>by cases h] (λi ys Hy h=>HX.of (h.1 _ _ f4)) ?_ ?_
      · rintro i ys Hy z hz d7 ⟨sy,M,rfl,a5,O⟩
        have d9:i<2:=(Jw.mp hz).1
        have ez:z= .int (l-1+(i:Int)):=by
          match i,d9,hz with
          |0,_,hz=>cases hz;show V.int (l-1)=V.int (l-1+0);rw[Int.add_zero]
          |1,_,hz=>cases hz;show V.int l=V.int (l-1+1);rw[Int.sub_add_cancel]
        subst ez;refine#[10,Ht,λp hp=>?_]
        have up:=HJ.upd (o:= .tup [.str nm,.int u,.int (l-1+(i:Int))]) hp
        refine#[cd,tb,kt,p,t,kss,nm,u,l-1+(i:Int),(0),Z,(b2.same sy).same up,qb,(dp.t▸dp.ok.tp),hn,a0,a1,by omega,by omega,#[⋯,⋯],λpr Hz sz f0=>#[(sy.trans up).trans sz,M++[pr],by simp,by simp [a5],λk p' hk=>?_]]
        by_cases b0:k<M.length
        · rw[J3 b0]at hk
          exact Nb.same (up.trans sz) (O k p' hk)
        · rw[J9 (by omega)]at hk
          cases ek:k-M.length with
          | zero => rw[ek]at hk;cases hk;obtain rfl:k=i:=by omega
                    exact f0
          |succ m=>rw[ek]at hk;cases hk
      rintro ys Hy d7 ⟨sy,M,rfl,a5,O⟩ I b8
      let#[N,L,rfl]:∃N L,M=[N,L]:=by
        match M,a5 with
        | [N,L],_=>exact#[N,L,Z]
      have ur:=HJ.upd (o:= .lst (([N,L]:Η).map V.ref)) b8
      have Sr:=sy.trans ur;have a2:(HM Hy I (.lst (([N,L]:Η).map V.ref))) I=↑(.lst [-N,-L]):=qb
      have c0:=Nb.same ur (O 0 N Z);have e5:=Nb.same ur (O 1 L Z);have F:=f9.same Sr;have f3:=d3.same Sr;have f2:=b2.same Sr;generalize HM Hy I (.lst (([N,L]:Η).map V.ref))=Hr at *
      have er:=F.en j _ v;simp only at er
      have b7:QK (r.map λx=>V.ref x.1.e) (0+(j:Int))=↑(-x.1.e):=by rw[Kc];exact F.at (x:=(x.1,x.2.1,L1)) v
      exists 2,pl,1,HQ.of F.pe,b7,x.1.e,1,HX.of er.tu,Z,x.1.a.p,Z,er.dl.dr.no,0,I,1,HQ.of a2,8,I,1,HQ.of a2,Z
      have g4:l-1+((1:Nat):Int)=l-1+1:=Z
      have f5:l-1+((0:Nat):Int)=l-1:=Int.add_zero _
      rw[f5]at c0;have e7:=iV (nm:=nm) (d:=0) dp (l0 u l (R.trans eo)).1 a1 (show 0<=l-1 by omega) (by omega) #[⋯,⋯]
      have c1:=iV (nm:=nm) (c:=l-1+1) (d:=0) dp (l0 u l (R.trans eo)).1 a1 (by omega) (by omega) #[⋯,⋯]
      have tp:t.Perm Nf:=dp.t▸dp.ok.tp
      refine#[x.1.a,x.2.1,L1,N,L,QV t kss nm u (l-1) 0,QV t kss nm u (l-1+1) 0,l-1,(0),(0),Z,er.dl,by omega,dp.ok,c0,e5,fZ tp hn (by omega) (by omega) #[⋯,⋯],fZ tp hn (by omega) (by omega) #[⋯,⋯],e7,c1,9,(l0 u l (R.trans eo)).2,dp.rm,λHs ms ds=>?_]
      have b1:=vA ms;have es:=er.door b1 ds;have a8:Mv (eS x.1) Hr Hs:=cE b1
      have e8:=F.np j _ v;have e9:Hs pl=↑(.lst (r.map λx=> .ref x.1.e)):=a8 _ _ e8 F.pe
      have Nr:NT (eS x.1) Hr:=er.nt
      refine#[2,Ht,λt3 c3=>?_]
      have u3:=HJ.upd (o:= .tup [.int u,.int l,.non]) c3
      have e3:=es.same u3;have a6:=e3.md;let#[H4,c2,m4,c4]:=a6.kn.put nm (a:=t3) (e:=#[u,l,none]) (by omega) #[.non,qb,Z]
      exists 2,pl,1,HQ.of (u3 _ _ e9),b7,x.1.e,1,HX.of e3.tu,Z,x.1.m,0,a6.g_known,0,x.1.kd,H4,Z,c2
      have d6:=a6.putK m4 c4;have a7:Mv [x.1.m,x.1.kd] _ H4:=m4.mono (λc h z=>h (by rw[Ji.mp z];simp))
      have e4:=e3.model a7 d6;have Mall:Mv (eS x.1) Hr H4:=(a8.trans u3.mv).trans (cI a7)
      have d0:l-1+1=l:=by omega
      rw[d0]at e4;have d4:NR K C H4 x.1 {x.2.1 with kn:=zr x.2.1.kn nm #[u,l,none]} (L1++[.learn (QV t kss nm u (l-1) 0) (QV t kss nm u l 0)]) {x.2.1 with kn:=zr x.2.1.kn nm #[u,l,none]}:=e4
      refine#[_,F.step v Mall d4,f2.mv Mall Nr,f3.mv Mall Nr (f1 j x ex),(λc ys h=>Mall.tup Nr (Sr _ _ (uq _ _ (X c ys h)))),?_,22]
      exact b3 (Oc.set (x:=x) (g:=λi D=>if i=j then aT nm D G[j]else if i<j then aT nm D (G.getD i none)else D) st ex (by simp only[Ia,JH];exact v) (by simp) (by simp only[Io];rw[eo];rfl) (λi hi=>by funext D;rw[Jb hi])) (by simp) (λi hi=>by funext D;rw[Jb hi])
    · rintro σ Y ⟨r,J,W,S,X,st,o4,o5,o6,o7,rfl⟩
      exact q Y r J W (st.ext λi x hi=>by
        have:i<2:=by rw[<- lx];exact(Jw.mp hi).1
        rw[Jc this]) X
def nA(a:At K mg "_law_heard" cm ["_law_code","_law_pair_here","_law_plain","_law_places"])(T:MW K mg tk)(U:ND K C)(x9:Mf P w K mg base C "hear" V4 6 (sI K C))(dW:Df P w K mg base "_law_press" X5 4 iJ)(dL:Df P w K mg base "_law_hear" w6 2 jU):Df P w K mg base "_law_heard" X9 7 (mH K C):=by
 refine a.dq N3 λf _ A _ s H vs Q E hr h=>?_
 .let#[cd,tb,kt,pl,p,ps,b,c,H0,t,kss,xs,nm,age,n,is,rfl,pw,lx,hc,hn,a0,a1,n0,n1,hp,M,O,a2,hx,q]:=h
  exists _,(qe (zg JJ Z (ao (qv 3)) (qg (i:=4) N3.nd Z (Pr Z))
   (qd (zc (zb x9 U.cl hr.mo (qx qN (qx qF (qv 1) (qv 4)) qf) (qc (qo dW hr.mo (qc (qv 0) (qc (qv 2) (qc qf qa)))) qa)))
   (qe (zc (qo dL hr.mo (qc (qx qN (qx qF (qv 1) (qv 4)) qf) (qc (qv 2) qa))))))))
  exists 0,ps,Z,#[_,.inl M]
  have S:is.length<=2:=by
   match is,O,a2 with
   | [],_,_=>exact JB _
   | [_],_,_=>exact(by decide:1<=2)
   | [_,_],_,_=>exact Jf 2
   |x::y::z::r,nd,h=>
    have h1:=h x (by simp)
    have h2:=h y (by simp)
    have h3:=h z (by simp)
    simp only[IG,Jg,not_or]at nd;omega
  refine gB (K:=K) (a:=ps) (xs:=is.map λi:Nat=>V.int (i:Int)) (λj σ v=>∃e,Pw K C H0 v b c pl e/\NA v cd tb kt t kss/\v p=↑(.tup [.str nm,.int age,.int n])/\Rd v ps (.tup (is.map λi:Nat=>V.int (i:Int)))/\Oc (λi D=>if i∈is.take j then{D with kn:=HP D nm age n}else D) j xs e/\∃o4,σ=[↑(-cd),↑(-pl),↑(-p),↑(-ps),o4]) #[xs,pw,hc,hp,M,(Oc.refl xs).ext (λi x hi=>by simp),0] (λj σ v _ h=>let⟨_,_,_,_,r,_⟩:=h;.inl r) ?_ ?_
  .rintro j z σ v hz ⟨e,l,o,m,u,st,o4,rfl⟩
   rw[Jo]at hz;cases ei:is[j]? with
   |none=>rw[ei]at hz;cases hz
   |some i=>
   rw[ei]at hz;cases hz;have Y:=Ij ei;have hi:=a2 i Y;have hj:j<is.length:=(Jw.mp ei).1
   have a3:i<xs.length:=by rw[lx];exact hi
   have ex:=Jh a3;let#[x,rx]:∃x,x=xs[i]:=#[0]
   rw[<- rx]at ex;have R:i∉is.take j:=λz=>by
    let#[k,hk,ek]:=HB.mp z;rw[Pg]at ek;rw[G5]at hk
    exact(Kg.mp O) k j (by omega) hj (by omega) (ek.trans (Jw.mp ei).2.symm)
   let#[N,g,ll]:=st.2 i x ex;have g:e[i]? =↑(x.1,x.2.1,N):=by rw[g];show ↑(x.1,(if i∈is.take j then _ else x.2.1),N)=_;rw[Jb R]
   let#[L,b3]:=hx i x ex;have tp:t.Perm Nf:=L.t▸L.ok.tp
   have en:=l.en i _ g;simp only at en
   have X:QK (e.map λx=>V.ref x.1.e) (i:Int)=↑(-x.1.e):=l.at (x:=(x.1,x.2.1,N)) g
   refine#[2,pl,1,HQ.of l.pe,X,x.1.e,1,HX.of en.tu,Z,x.1.a.p,Z,en.dl.dr.no,2,cd,tb,kt,p,t,kss,nm,age,n,(3),Z,o,m,tp,hn,a0,a1,n0,n1,#[⋯,⋯],λpr H2 J a4=>?_]
   have B:=l.same J;have G:=en.same J;have a6:=fZ (kss:=kss) (age:=age) tp hn n0 n1 (d:=3) #[⋯,⋯]
   refine#[x.1.a,x.2.1,N,-pr,↑(QV t kss nm age n 3),Z,G.dl,by omega,L.ok,#[pr,Z,a4,a6],(λz=>by cases z),λPP hP b4 q' H3 b2 m3 _ _ d3=>?_]
   cases hP;rw[oP L n0 n1 #[⋯,⋯],yu]at d3
   have W:=vA m3;have I:=G.door W d3;have F:Mv (eS x.1) H2 H3:=cE W
   have a7:=B.np i _ g;have a5:H3 pl=↑(.lst (e.map λx=> .ref x.1.e)):=F _ _ a7 B.pe
   have N2:NT (eS x.1) H2:=G.nt
   have a8:=F.tup N2 (J _ _ m);refine#[2,pl,1,HQ.of a5,X,x.1.e,1,HX.of I.tu,8,x.1.m,x.1.kd,p,x.2.1,nm,age,n,Z,I.md,a8,L.ok,L.f0,λH4 m4 b0=>?_]
   have b1:=I.model m4 b0;have Mall:Mv (eS x.1) H2 H4:=F.trans (cI m4)
   refine#[_,B.step g Mall b1,(o.same J).mv Mall N2,Mall.tup N2 (J _ _ m),Mall.rd N2 (Rd.same J u),?_,0]
   refine Oc.set (x:=x) st ex (by show _=↑(x.1,(if i∈is.take j then _ else x.2.1),N);rw[Jb R];exact g) (by simp) ?_ (λk hk=>?_)
   .show(if i∈is.take (j+1)then _ else _)=_
    rw[Jc (by rw[Ie,ei];simp)]
   .funext D
    have:k∈is.take (j+1)↔k∈is.take j:=by rw[Ie,ei];simp;exactλz=>absurd z hk
    by_cases z:k∈is.take j
    .rw[Jc z,Jc (this.mpr z)]
    .rw[Jb z,Jb (λw=>z (this.mp w))]
  .rintro σ v ⟨e,l,o,m,u,st,o4,rfl⟩
   refine q v e l o ?_
   rw[Je,Ip]at st;exact st.mono S
theorem gk(a:At K mg "_law_alike" ci ["_law_found","_law_due"])(T:MW K mg tk):∀n:Nat,n<=8->Df P w K mg base "_law_alike" W3 (n+1) (EV n)
 |0,_=>by
  refine a.dq gm λf _ A _ s H vs Q E G h=>?_
  .let#[x,y,rfl,e,q]:=h
   exists _,(qd (qC (zk (qk ZG T.b_isinstance JA (qc (qv 1) (qc (qu (qc (qH (v:= .ty "list") Z T.b_list Ig Z) (qc (qH (v:= .ty "tuple") Z T.b_tuple JL Z) qa))) qa)))) Qg qt)
   (qd (qC (QW.pt (Qc (zk (qk qO T.b_isinstance JA (qc (qv 1) (qc (qH (v:= .ty "str") Z T.b_str Lz Z) qa)))) (zP (qw zX (qv 1) qP (qq _))))) (qe (qj (ze zu (qv 0) (qv 1) (qq _)))) qt)
   (qe (qj (zF (qk qO T.b_isinstance JA (qc (qv 0) (qc (qH (v:= .ty "int") Z T.b_int Lk Z) qa))) (zF (bD (qk qO T.b_isinstance JA (qc (qv 0) (qc (qH (v:= .ty "bool") Z T.b_bool Ll Z) qa)))) (QD (ze zu (qv 0) (qv 1) (qq _)))))))))
   cases e with
   |int _ i=>
    refine#[0,Ho,λp g=>#[_,p,["list","tuple"],"int",Z,qb,.int i,by simp,0,?_]]
    rw[show(["list","tuple"].any (zz "int"))=false from by decide]
    refine zh #[17,"str","int",Z,.int i,by simp,0,?_]
    rw[show zz "int" "str"=false from by decide]
    refine zh #[3,?_]
    refine qZ (λz=>nomatch (Jz z)) (λ_=>#[17,"int","int",Z,.int i,by simp,0,?_])
    rw[show zz "int" "int"=true from by decide]
    refine zo #[17,"bool","int",Z,.int i,by simp,0,?_]
    rw[show zz "int" "bool"=false from by decide]
    refine#[0,zo #[23,?_]]
    rw[Jj Z];exact q _ (HJ.upd g)
   |str _ z=>
    refine#[0,Ho,λp g=>#[_,p,["list","tuple"],"str",Z,qb,.str z,by simp,0,?_]]
    rw[show(["list","tuple"].any (zz "str"))=false from by decide]
    refine zh #[17,"str","str",Z,.str z,by simp,0,?_]
    rw[show zz "str" "str"=true from by decide]
    refine zo (zo #[23,?_])
    rw[Jj Z];exact q _ (HJ.upd g)
   |non _=>
    refine#[0,Ho,λp g=>#[_,p,["list","tuple"],"NoneType",Z,qb,.non,by simp,0,?_]]
    rw[show(["list","tuple"].any (zz "NoneType"))=false from by decide]
    refine zh #[17,"str","NoneType",Z,.non,by simp,0,?_]
    rw[show zz "NoneType" "str"=false from by decide]
    refine zh #[3,?_]
    refine qZ (λ_=>#[23,?_]) (λz=>absurd (Jj Z) z)
    rw[Jj Z];exact q _ (HJ.upd g)
 |n+1,hn=>by
  have L:=gk a T n (by omega)
  refine a.dq gm λf _ A _ s H vs Q E G h=>?_
  .let#[x,y,rfl,e,q]:=h
   cases e with
   |int _ i=>
    exists _,(qd (qC (zk (qk ZG T.b_isinstance JA (qc (qv 1) (qc (qu (qc (qH (v:= .ty "list") Z T.b_list Ig Z) (qc (qH (v:= .ty "tuple") Z T.b_tuple JL Z) qa))) qa)))) Qg qt)
   (qd (qC (QW.pt (Qc (zk (qk qO T.b_isinstance JA (qc (qv 1) (qc (qH (v:= .ty "str") Z T.b_str Lz Z) qa)))) (zP (qw zX (qv 1) qP (qq _))))) (qe (qj (ze zu (qv 0) (qv 1) (qq _)))) qt)
   (qe (qj (zF (qk qO T.b_isinstance JA (qc (qv 0) (qc (qH (v:= .ty "int") Z T.b_int Lk Z) qa))) (zF (bD (qk qO T.b_isinstance JA (qc (qv 0) (qc (qH (v:= .ty "bool") Z T.b_bool Ll Z) qa)))) (QD (ze zu (qv 0) (qv 1) (qq _)))))))))
    refine#[0,Ho,λp g=>#[_,p,["list","tuple"],"int",Z,qb,.int i,by simp,0,?_]]
    rw[show(["list","tuple"].any (zz "int"))=false from by decide]
    refine zh #[17,"str","int",Z,.int i,by simp,0,?_]
    rw[show zz "int" "str"=false from by decide]
    refine zh #[3,?_]
    refine qZ (λz=>nomatch (Jz z)) (λ_=>#[17,"int","int",Z,.int i,by simp,0,?_])
    rw[show zz "int" "int"=true from by decide]
    refine zo #[17,"bool","int",Z,.int i,by simp,0,?_]
    rw[show zz "int" "bool"=false from by decide]
    refine#[0,zo #[23,?_]]
    rw[Jj Z];exact q _ (HJ.upd g)
   |str _ z=>
    exists _,(qd (qC (zk (qk ZG T.b_isinstance JA (qc (qv 1) (qc (qu (qc (qH (v:= .ty "list") Z T.b_list Ig Z) (qc (qH (v:= .ty "tuple") Z T.b_tuple JL Z) qa))) qa)))) Qg qt)
   (qd (qC (QW.pt (Qc (zk (qk qO T.b_isinstance JA (qc (qv 1) (qc (qH (v:= .ty "str") Z T.b_str Lz Z) qa)))) (zP (qw zX (qv 1) qP (qq _))))) (qe (qj (ze zu (qv 0) (qv 1) (qq _)))) qt)
   (qe (qj (zF (qk qO T.b_isinstance JA (qc (qv 0) (qc (qH (v:= .ty "int") Z T.b_int Lk Z) qa))) (zF (bD (qk qO T.b_isinstance JA (qc (qv 0) (qc (qH (v:= .ty "bool") Z T.b_bool Ll Z) qa)))) (QD (ze zu (qv 0) (qv 1) (qq _)))))))))
    refine#[0,Ho,λp g=>#[_,p,["list","tuple"],"str",Z,qb,.str z,by simp,0,?_]]
    rw[show(["list","tuple"].any (zz "str"))=false from by decide]
    refine zh #[17,"str","str",Z,.str z,by simp,0,?_]
    rw[show zz "str" "str"=true from by decide]
    refine zo (zo #[23,?_])
    rw[Jj Z];exact q _ (HJ.upd g)
   |non _=>
    exists _,(qd (qC (zk (qk ZG T.b_isinstance JA (qc (qv 1) (qc (qu (qc (qH (v:= .ty "list") Z T.b_list Ig Z) (qc (qH (v:= .ty "tuple") Z T.b_tuple JL Z) qa))) qa)))) Qg qt)
   (qd (qC (QW.pt (Qc (zk (qk qO T.b_isinstance JA (qc (qv 1) (qc (qH (v:= .ty "str") Z T.b_str Lz Z) qa)))) (zP (qw zX (qv 1) qP (qq _))))) (qe (qj (ze zu (qv 0) (qv 1) (qq _)))) qt)
   (qe (qj (zF (qk qO T.b_isinstance JA (qc (qv 0) (qc (qH (v:= .ty "int") Z T.b_int Lk Z) qa))) (zF (bD (qk qO T.b_isinstance JA (qc (qv 0) (qc (qH (v:= .ty "bool") Z T.b_bool Ll Z) qa)))) (QD (ze zu (qv 0) (qv 1) (qq _)))))))))
    refine#[0,Ho,λp g=>#[_,p,["list","tuple"],"NoneType",Z,qb,.non,by simp,0,?_]]
    rw[show(["list","tuple"].any (zz "NoneType"))=false from by decide]
    refine zh #[17,"str","NoneType",Z,.non,by simp,0,?_]
    rw[show zz "NoneType" "str"=false from by decide]
    refine zh #[3,?_]
    refine qZ (λ_=>#[23,?_]) (λz=>absurd (Jj Z) z)
    rw[Jj Z];exact q _ (HJ.upd g)
   | @tup _ c d xs ys h1 h2 hl hz hi=>
    exists _,(qd (qC (zk (qk ZG T.b_isinstance JA (qc (qv 1) (qc (qu (qc (qH (v:= .ty "list") Z T.b_list Ig Z) (qc (qH (v:= .ty "tuple") Z T.b_tuple JL Z) qa))) qa)))) (qd (qC (QW.pt (Qc (qw Z9 (qk qO T.b_isinstance JA (qc (qv 0) (qc (qH (v:= .ty "list") Z T.b_list Ig Z) qa))) (qk qO T.b_isinstance JA (qc (qv 1) (qc (qH (v:= .ty "list") Z T.b_list Ig Z) qa))) (qq _)) (zP (qw Z9 (qk qO T.b_isinstance JA (qc (qv 0) (qc (qH (v:= .ty "tuple") Z T.b_tuple JL Z) qa))) (qk qO T.b_isinstance JA (qc (qv 1) (qc (qH (v:= .ty "tuple") Z T.b_tuple JL Z) qa))) (qq _))))) (qe (qj Ze)) qt)
   (qd (qC (qw Z9 (qk qT T.b_len J5 (qc (qv 0) qa)) (qk qT T.b_len J5 (qc (qv 1) qa)) (qq _)) (qe (qj Ze)) qt)
   (qe (qj (qk (bI Z) T.b_all Mo (qc (Qa (own:=["_law_part","_law_more"]) (fr:=[]) (js:=[]) Z (DX Z T.b_zip (qc (qv 0) (qc (qv 1) qa))) Z (λ_ _ h=>nomatch h) Z (bX Z nofun nofun nofun) (λ_ _ _ _=>jM (K:=K) Z 2 Z (qh (qg (i:=0) (show P4 (["_law_part","_law_more"]:Α)from by decide +kernel) Z (Pr Z) (.inr Z)) (qh (qg (i:=1) (show P4 (["_law_part","_law_more"]:Α)from by decide +kernel) Z (Pr Z) (.inr Z)) qK))) (λ_ _ _ _=>(qo L G.mo (qc (qv 0) (qc (qv 1) qa))))) qa)))))) qt)
   (qd (qC (QW.pt (Qc (zk (qk qO T.b_isinstance JA (qc (qv 1) (qc (qH (v:= .ty "str") Z T.b_str Lz Z) qa)))) (zP (qw zX (qv 1) qP (qq _))))) (qe (qj (ze zu (qv 0) (qv 1) (qq _)))) qt)
   (qe (qj (zF (qk qO T.b_isinstance JA (qc (qv 0) (qc (qH (v:= .ty "int") Z T.b_int Lk Z) qa))) (zF (bD (qk qO T.b_isinstance JA (qc (qv 0) (qc (qH (v:= .ty "bool") Z T.b_bool Ll Z) qa)))) (QD (ze zu (qv 0) (qv 1) (qq _)))))))))
    refine#[0,Ho,λp g=>#[_,p,["list","tuple"],"tuple",Z,qb,.tup (Rd.same (HJ.upd g) h2),by simp,0,?_]]
    rw[show(["list","tuple"].any (zz "tuple"))=true from by decide]
    have t:HJ H _:=HJ.upd (o:= .tup (["list","tuple"].map V.ty)) g
    have m:=Rd.same t h1;have l:=Rd.same t h2;refine zo #[17,"list","tuple",Z,.tup m,by simp,17,"list","tuple",Z,.tup l,by simp,8,?_]
    refine aB Z #[17,"tuple","tuple",Z,.tup m,by simp,17,"tuple","tuple",Z,.tup l,by simp,8,?_]
    refine aB Z ?_
    exists 0,c,0,.inr (.inl m),0,d,0,.inr (.inl l),8
    refine aB (by rw[hl]) ?_
    refine#[2,c,d,xs,ys,Z,m,l,Ay hl hz (λi zs r=>zs=(Dj i true).map V.bl/\HJ H r) #[Z,t] (λi zs r ⟨_,j⟩=>#[Rd.same j h1,Rd.same j h2]) ?_ ?_]
    .rintro i zs r N x y F J u ⟨rfl,j⟩ B
     have D:=j.trans (HJ.upd (o:= .tup [x,y]) B)
     refine#[2,x,y,Z,(hi i x y F J).same D,λM I=>#[?_,D.trans I]]
     rw[Pk,JI];rfl
    .rintro zs r u ⟨rfl,j⟩ p2 C
     exists p2,0,HQ.of qb
     rw[show(Dj xs.length true).all id=true from by simp]
     exact q _ (j.trans (HJ.upd C))
   | @lst _ c d xs ys h1 h2 hl hz hi=>
    exists _,(qd (qC (zk (qk ZG T.b_isinstance JA (qc (qv 1) (qc (qu (qc (qH (v:= .ty "list") Z T.b_list Ig Z) (qc (qH (v:= .ty "tuple") Z T.b_tuple JL Z) qa))) qa)))) (qd (qC (QW.pt (Qc (qw Z9 (qk qO T.b_isinstance JA (qc (qv 0) (qc (qH (v:= .ty "list") Z T.b_list Ig Z) qa))) (qk qO T.b_isinstance JA (qc (qv 1) (qc (qH (v:= .ty "list") Z T.b_list Ig Z) qa))) (qq _)) (zP (qw Z9 (qk qO T.b_isinstance JA (qc (qv 0) (qc (qH (v:= .ty "tuple") Z T.b_tuple JL Z) qa))) (qk qO T.b_isinstance JA (qc (qv 1) (qc (qH (v:= .ty "tuple") Z T.b_tuple JL Z) qa))) (qq _))))) (qe (qj Ze)) qt)
   (qd (qC (qw Z9 (qk qT T.b_len J5 (qc (qv 0) qa)) (qk qT T.b_len J5 (qc (qv 1) qa)) (qq _)) (qe (qj Ze)) qt)
   (qe (qj (qk (bI Z) T.b_all Mo (qc (Qa (own:=["_law_part","_law_more"]) (fr:=[]) (js:=[]) Z (Cu Z T.b_zip (qc (qv 0) (qc (qv 1) qa))) Z (λ_ _ h=>nomatch h) Z (bX Z nofun nofun nofun) (λ_ _ _ _=>jM (K:=K) Z 2 Z (qh (qg (i:=0) (show P4 (["_law_part","_law_more"]:Α)from by decide +kernel) Z (Pr Z) (.inr Z)) (qh (qg (i:=1) (show P4 (["_law_part","_law_more"]:Α)from by decide +kernel) Z (Pr Z) (.inr Z)) qK))) (λ_ _ _ _=>(qo L G.mo (qc (qv 0) (qc (qv 1) qa))))) qa)))))) qt)
   (qd (qC (QW.pt (Qc (zk (qk qO T.b_isinstance JA (qc (qv 1) (qc (qH (v:= .ty "str") Z T.b_str Lz Z) qa)))) (zP (qw zX (qv 1) qP (qq _))))) (qe (qj (ze zu (qv 0) (qv 1) (qq _)))) qt)
   (qe (qj (zF (qk qO T.b_isinstance JA (qc (qv 0) (qc (qH (v:= .ty "int") Z T.b_int Lk Z) qa))) (zF (bD (qk qO T.b_isinstance JA (qc (qv 0) (qc (qH (v:= .ty "bool") Z T.b_bool Ll Z) qa)))) (QD (ze zu (qv 0) (qv 1) (qq _)))))))))
    refine#[0,Ho,λp g=>#[_,p,["list","tuple"],"list",Z,qb,.lst (HJ.upd g _ _ h2),by simp,0,?_]]
    rw[show(["list","tuple"].any (zz "list"))=true from by decide]
    have t:HJ H _:=HJ.upd (o:= .tup (["list","tuple"].map V.ty)) g
    have m:=t _ _ h1;have l:=t _ _ h2;refine zo #[17,"list","list",Z,.lst m,by simp,17,"list","list",Z,.lst l,by simp,8,?_]
    refine aB Z #[17,"tuple","list",Z,.lst m,by simp,17,"tuple","list",Z,.lst l,by simp,8,?_]
    refine aB Z ?_
    exists 0,c,0,.inl (HQ.of m),0,d,0,.inl (HQ.of l),8
    refine aB (by rw[hl]) ?_
    refine#[2,c,d,xs,ys,Z,.inl m,.inl l,yq hl hz (λi zs r=>zs=(Dj i true).map V.bl/\HJ H r) #[Z,t] (λi zs r ⟨_,j⟩=>#[.inl (j _ _ h1),.inl (j _ _ h2)]) ?_ ?_]
    .rintro i zs r N x y F J u ⟨rfl,j⟩ B
     have D:=j.trans (HJ.upd (o:= .tup [x,y]) B)
     refine#[2,x,y,Z,(hi i x y F J).same D,λM I=>#[?_,D.trans I]]
     rw[Pk,JI];rfl
    .rintro zs r u ⟨rfl,j⟩ p2 C
     exists p2,0,HQ.of qb
     rw[show(Dj xs.length true).all id=true from by simp]
     exact q _ (j.trans (HJ.upd C))
def xu:Sp:=λvs H Q _=>∃x:Bool,vs=[.bl x,.bl x]/\Q (.bl true) H
def wo(a:At K mg "_law_is" iK ["_law_found","_law_due"])(T:MW K mg tk):Df P w K mg base "_law_is" W3 1 xu:=by
 refine a.dq wc λf _ A _ s H vs Q E c h=>?_
 .let#[x,rfl,q]:=h
  exists _,(qe (qj (zF (qk hW T.b_isinstance JA (qc (qv 0) (qc (qH (v:= .ty "bool") Z T.b_bool Ll Z) qa))) (QD (ze zu (qv 0) (qv 1) (qq _))))))
  exists 0,.bl x,"bool","bool",Z,.bl x,by simp [iH],by simp [iE]
  rw[show zz "bool" "bool"=true from by decide]
  refine#[0,zo #[23,?_]]
  rw[Jj Z];exact q
def pX(a:At K mg "openings" du ["door","row"])(T:MW K mg tk)(U:ND K C)(dB:Mf P w K mg base C "button_of" X6 1 (gG K C))(dD:Mf P w K mg base C "plain_step" X0 3 (il K C))(dM:Df P w K mg base "names_known" ["door"] 2 (hX K C)):Df P w K mg base "openings" ["door","row"] 4 (rL K C):=by
 refine a.dq MM λf _ A _ s H vs Q E hr h=>?_
 .let#[p,ta,hk,bd,lg,n,D,v,zs,rfl,b,ok,nf,tl,zl,q]:=h
  exists _,(qd (AK (i:=2) MM.nd Z (Pr Z) (own:=["name"]) (fr:=["door"]) (js:=[0]) Z (zv (qo dM hr.mo (qc (qv 0) qa))) Z (f6 Z) Z (fR Z nofun nofun nofun Z Z Z) (λ_ _ _ _=>qg (i:=0) (show P4 (["name","door"]:Α)from by decide +kernel) Z (Pr Z) (.inr Z)) (λ_ _ _ _=>(qv 0)) (λ_ _ _ _=>(zb dB U.cl hr.mo (qv 1) (qc (qv 0) qa))))
   (qd (qA (i:=3) MM.nd Z (Pr Z) (za qa))
   (qd (zg JJ Z (yb (qv 1)) (zf Z (qh (qg (i:=4) MM.nd Z (Pr Z)) (qh (qg (i:=5) MM.nd Z (Pr Z)) (qh (qg (i:=6) MM.nd Z (Pr Z)) qK))))
   (qd (qA (i:=7) MM.nd Z (Pr Z) qy)
   (qd (qC (ou hr (qv 4) (qv 2)) (qd (q9 (zb dD U.cl hr.mo (qv 0) (qc (zB hr (qv 2) (qv 4)) (qc (qv 5) (qc (qv 6) qa)))) (zf Z (qh (qg (i:=7) MM.nd Z (Pr Z)) (qh (qg (i:=8) MM.nd Z (Pr Z)) qK))))
   (qe (QL hr (qv 2) (qv 4) (qv 8)))) qt)
   (qe (zc (Q1 Il IJ IK zV (qv 3) (qc (ze zu (qv 7) qy (qq _)) qa)))))))
   (qe (qj (qv 3))))))
  let#[t,as,rfl,ht,la,has]:=tl;refine#[0,p,ta,hk,bd,lg,n,D,Z,b,ok,λl m H1 s1 pm L=>#[l,Z,#[_,HQ.of L],?_]]
  have sl:m.length<=60:=by rw[pm.length_eq,Je];exact ok.nl
  have X:m.Nodup:=pm.nodup_iff.mpr ok.nd
  have b1:=b.same s1;refine uj (K:=K) (a:=l) (xs:=m.map V.str) (by rw[Je,JD];omega) (λi ys r=>r=H1/\∃g:Str->Δ,ys=(m.take i).map (λnm=>(Pt nm,V.ref (g nm)))/\∀nm∈m.take i,∀e,D.kn.lookup nm=↑e->Na H1 (g nm) e) #[Z,λ_=>0,Z,λnm h=>by simp at h] (λi ys r h=>by rw[h.1];exact HQ.of L) ?_ ?_
  .rintro i ys r x hx c1 ⟨rfl,g,rfl,hg⟩
   rw[Jo]at hx;let#[nm,B,rfl]:=JO.mp hx;have hi:i<m.length:=(Jw.mp B).1
   have u:m.take (i+1)=m.take i++[nm]:=by rw[Ie,B];rfl
   have a5:nm∉m.take i:=λz=>by
    rw[<- KJ (i+1) m,u]at X
    exact(Lj.mp (Lj.mp X).1).2.2 nm z nm Jr Z
   exists 0,.inr nm,Z
   refine#[0,p,Z,b1.no,0,p,ta,hk,bd,lg,n,D,nm,Z,b1,λe=>?_,λe x e2 hx=>?_]
   .have:=HZ.mpr (pm.mem_iff.mp (Ij B))
    rw[e]at this;cases this
   .have pk:MX ((m.take i).map (λnm=>((Pt nm:qJ),V.ref (g nm)))) (Pt nm) (-x)=(m.take (i+1)).map (λz=>((Pt z:qJ),V.ref (if z=nm then x else g z))):=by
     unfold MX;rw[Jb (by
      rw[Mm]
      rintro⟨kv,a8,z⟩
      let#[y,hy,rfl]:=JC.mp a8;have z:=Jz z;injection z with z
      exact a5 (z▸hy)),u,JI]
     congr 1
     .refine Lr λy hy=>?_
      rw[Jb (λz:y=nm=>a5 (z▸hy))]
     .show _=[((Pt nm:qJ),V.ref (if nm=nm then x else g nm))];rw[Jc Z]
    exists #[Z,λz=>if z=nm then x else g z,pk,λz J e3 h3=>?_]
    .rw[u]at J
     by_cases I:z=nm
     .show Na _ (if z=nm then x else g z) e3
      rw[Jc I];rw[I,e2]at h3;cases h3;exact hx
     .show Na _ (if z=nm then x else g z) e3
      rw[Jb I];rcases JP.mp J with J|J
      .exact hg z J e3 h3
      .exact absurd (Ji.mp J) I
    .rw[pk,Je,G5];omega
  rintro ys r ⟨rfl,g,rfl,hg⟩ d hd
  have u1:=HJ.upd (o:= .dK ((m.take (m.map V.str).length).map λnm=>((Pt nm:qJ),V.ref (g nm)))) hd
  have a7:NC (HM r d (.dK ((m.take (m.map V.str).length).map λnm=>((Pt nm:qJ),V.ref (g nm))))) d D.kn:=by
   have e:m.take (m.map V.str).length=m:=by rw[Je,Ip]
   refine Dz (g:=g) ok.nd pm (by rw[qb,e]) λnm B e2 h2=>?_
   let#[v2,h3,h4]:=hg nm (by rw[e];exact B) e2 h2
   exact#[v2,u1 _ _ h3,h4.same u1]
  have b7:=QR hd s1;have S1:=s1.trans u1;generalize HM r d (.dK ((m.take (m.map V.str).length).map λnm=>((Pt nm:qJ),V.ref (g nm))))=H2 at *
  clear u1 hg L b1 hd pm X sl;refine#[Hh,λto a4=>?_]
  have u2:=HJ.upd (o:= .lst []) a4
  have b3:=QR a4 S1;refine QM (λG H'=>HJ H H'/\H' to=↑(.lst ((Qk D zs).map V.bl))/\∃o2 o4 o5 o6 o7 R,G=[↑(-p),↑(-t),o2,↑(-to),o4,o5,o6,o7,R]) (λD0 c2 b4=>?_) ?_
  .exists 0
   refine CM (K:=K) ht (λj σ r=>HJ H r/\NC r d (fi D (zs.take j)).kn/\r to=↑(.lst ((Qk D (zs.take j)).map V.bl))/\∃o4 o5 o6 o7 R,σ=[↑(-p),↑(-t),↑(-d),↑(-to),o4,o5,o6,o7,R]) #[S1.trans u2,a7.same u2,qb,20] (λj σ r h=>h.1) ?_ ?_ Z
   .rintro j z σ r J ⟨M,kx,S,o4,o5,o6,o7,R,rfl⟩
    rw[Jo]at J;let#[aj,a3,rfl]:=JO.mp J;have hj:j<zs.length:=by rw[<- la];exact(Jw.mp a3).1
    let#[#[nm,age,c],ez]:∃z,zs[j]? =↑z:=#[_,Jh hj]
    have a6:=(has j aj _ a3 ez).same M;have u:zs.take (j+1)=zs.take j++[(nm,age,c)]:=by rw[Ie,ez];rfl
    have Y:=Ey ok (zs.take j);have a1:=EW (D:=D) (zs.take j)
    let#[N,W]:∃F,F=fi D (zs.take j):=#[0]
    rw[<- W]at Y a1 kx;have b5:(fi D (zs.take (j+1))).kn=HP N nm age c:=by rw[u,CV,<- W]
    have b8:Qk D (zs.take (j+1))=Qk D (zs.take j)++[Qi N nm age c]:=by rw[u,AJ,<- W]
    have b2:N.near<=N.far:=by rw[a1];exact nf
    exists aj,0,a6.k,7
    refine QM (λG H'=>∃(wd:Str) (R:Μ),HJ H H'/\NC H' d (HP N nm age c)/\H' to=↑(.lst ((Qk D (zs.take j)).map V.bl))/\decide (V.str wd=V.str "near")=Qi N nm age c/\G=[↑(-p),↑(-t),↑(-d),↑(-to),↑(.str nm),↑(.int age),↑(.int c),↑(.str wd),R]) (λD' c0 O=>?_) ?_
    .rcases kx.get nm with⟨L,g1⟩|⟨e,x,L,g1,hx⟩
     .refine#[2,d,0,g1,0,zh (O _ _ #["unknown",_,M,?_,S,?_,Z])]
      .rcases eP (D:=N) (nm:=nm) (age:=age) (c:=c)with h|⟨e,h,_⟩
       .rw[h];exact kx
       .rw[L]at h;cases h
      .rw[Fe L]
       exact Jn (by intro z;injection z with z;exact absurd z ⋯)
     .refine#[2,d,0,g1,0,zo ?_]
      have bx:=b.same M;refine#[0,p,Z,bx.no,2,d,0,g1,2,p,ta,hk,bd,lg,x,n,D,e,age,c,Z,bx,hx,λq' a' H3 s3 b6 a2=>#[q',0,.tup b6,5,?_]]
      have st:qR D e age c=qR N e age c:=by rw[a1];rfl
      rw[st]at a2;let#[H4,dp,m4,k4]:=(kx.same s3).put nm (by have:=Y.nl;omega) a2
      refine#[4,d,H4,Z,dp,O _ _ #[15,λc o e=>m4 c o (qQ (qm e b7)) (s3 _ _ (M _ _ e)),?_,m4 _ _ (qQ ?_) (s3 _ _ S),?_,Z]]
      .rw[xl Y.nd L];exact k4
      .let#[f0,e0,_]:=id kx
       exact zO S e0 (by intro z;cases z)
      .rw[<- y9 b2 L,st]
       exact decide_eq_decide.mpr #[λz=>by injection z,λz=>by rw[z]]
    rintro G H5 ⟨wd,c3,s5,k5,t5,ew,rfl⟩
    exists 0,.inl #[43,HQ.of t5],41,to,6,t5,by rw[Je,aW,G5,JD];omega
    have mt:Mv [to] H5 (HM H5 to (.lst ((Qk D (zs.take j)).map V.bl++[.bl (decide (V.str wd=V.str "near"))]))):=Mv.upd1
    have b0:NT [to] H5:=NT.one t5 trivial
    refine#[λc o e=>mt c o (qQ (qm e b3)) (s5 _ _ e),?_,?_,20]
    .rw[b5]
     refine k5.mv mt b0 (qQ ?_)
     let#[f0,e0,_]:=id k5
     exact(zO t5 e0 (by intro z;cases z)).symm
    .rw[b8,qb,ew,JI];rfl
   .rintro σ r ⟨M,kx,S,o4,o5,o6,o7,R,rfl⟩
    refine b4 _ _ #[M,?_,37]
    rw[Je,la,Ip]at S;exact S
  rintro σ r ⟨M,S,o2,o4,o5,o6,o7,R,rfl⟩
  exact#[0,q to r M S]
def iy(a:At K mg "shows_telling" ZR ["one","other","row"])(T:MW K mg tk)(X:Df P w K mg base "openings" ["door","row"] 4 (rL K C)):Df P w K mg base "shows_telling" ["one","other","row"] 5 (tm K C):=by
 refine a.dq Nk λf _ A _ s H vs Q E L h=>?_
 .let#[p,ta,hk,bd,lg,n,D,p',r,m,l,J,n',D',v,zs,rfl,b,b',ok,t,nf,j,tl,U,z0,q]:=h
  exists _,(qd (qA (i:=3) Nk.nd Z (Pr Z) (qo X L.mo (qc (qv 0) (qc (qv 2) qa))))
   (qd (qA (i:=4) Nk.nd Z (Pr Z) (qo X L.mo (qc (qv 1) (qc (qv 2) qa))))
   (qe (qj (zF (ze (Dc L) (QN gx (qv 3) Zg (Zh (mC i8 qf))) (QN gx (qv 4) Zg (Zh (mC i8 qf))) (qq _)) (QD (ze Z9 (qx qF (qv 3) (mC i8 qf)) (qx qF (qv 4) (mC i8 qf)) (qq _))))))))
  refine#[2,p,ta,hk,bd,lg,n,D,v,zs,Z,b,ok,nf,tl,U,λY H1 u e1=>?_]
  refine#[2,p',r,m,l,J,n',D',v,zs,Z,b'.same u,t,j,tl.same u,U,λR H2 N W=>?_]
  have c:=N _ _ e1;have O:0<zs.length:=List.length_pos_iff.mpr z0
  let#[x,F,g]:=sj (bs:=Qk D zs) (by rw[aW];exact O)
  let#[y,G,I]:=sj (bs:=Qk D' zs) (by rw[aW];exact O)
  refine#[4,Y,0,HQ.of c,λm1 M=>?_]
  have d:=HJ.upd (o:= .lst (Q9 ((Qk D zs).map V.bl) none ↑(-1))) M
  refine#[4,R,0,HQ.of (d _ _ W),λm2 B=>?_]
  have e:=HJ.upd (o:= .lst (Q9 ((Qk D' zs).map V.bl) none ↑(-1))) B
  have S:=((u.trans N).trans d).trans e;refine#[m1,m2,(Qk D zs).dropLast,(Qk D' zs).dropLast,9,by rw[<- pD];exact e _ _ qb,by rw[<- pD];exact qb,by rw[Pm,Pm,aW,aW],0,qZ (λh=>?_) (λh=>?_)]
  .have h:=Jz h
   exists 2,Y,1,HQ.of (e _ _ (d _ _ c)),g,2,R,1,HQ.of (e _ _ (d _ _ W)),I,Z
   have:=q _ S
   unfold ZP at this;rw[Jj h,F,G,Iz]at this;rw[show decide (V.bl x=V.bl y)=decide (↑x=↑y)from decide_eq_decide.mpr #[λz=>by injection z with z;rw[z],λz=>by injection z with z;rw[z]]]
   exact this
  .have:=q _ S
   unfold ZP at this;rw[Jn (λz=>h (Jj z)),Ii]at this
   exact this
def lR(a:At K mg "_law_window" bo ["_law_base"])(T:MW K mg tk):Df P w K mg base "_law_window" V5 1 (bM 30):=by
 refine a.dq lW λf _ A _ s H vs Q E i h=>?_
 .let#[c,rfl,g,j,q]:=h
  exists _,(qe (qj (qI (gU Z) T.b_list Ig (qc (qI km T.b_range SD (qc (qv 0) (qc (qr qM (qk (Q7 Z) T.b_min RL (qc qf (qc (qr qM (qv 0) qf) qa))) qf) qa))) qa))))
  refine#[38,λr d=>#[r,c,((if c+30<4095 then c+30 else 4095)-c+1).toNat,Z,?_,by omega,by omega,?_,λl e=>?_]]
  .rw[qb]
   congr 2
   rw[OX (by split<;>omega)];omega
  .split<;>omega
  .exact q l _ ((HJ.upd d).trans (HJ.upd e)) qb
def t7(a:At K mg "_law_one" fF ["_law_owns","_law_drawn_here"])(T:MW K mg tk)(dG:Df P w K mg base "_law_word" w6 1 cD)(dH:Df P w K mg base "_law_window" V5 1 (bM 30)):Df P w K mg base "_law_one" X3 2 (mM 30):=by
 refine a.dq Nm λf _ A _ s H vs Q E hr h=>?_
 .let#[ol,m1,a5,m2,b6,O,nl,D,D',nms,g,e,rfl,Y,md,c0,L,a6,W,m8,b0,b1,q]:=h
  exists _,(qd (zg JJ Z (zv (qk fY T.b_sorted Rp (qc (qx qN (qv 1) qf) qa))) (qg (i:=2) Nm.nd Z (Pr Z))
   (qe (zg JJ Z (zM Z T.b_range (qc (qx qN (qv 1) qf) qa)) (qg (i:=3) Nm.nd Z (Pr Z))
   (qe (zg JJ Z (zv (qo dH hr.mo (qc (qx qN (qv 1) qf) qa))) (qg (i:=4) Nm.nd Z (Pr Z))
   (qd (qA (i:=5) Nm.nd Z (SV Z) (qu (qc (qv 2) (qc (qv 3) (qc (qv 4) qa)))))
   (qd (cP (i:=6) Nm.nd Z (Pr Z) (own:=["_law_own"]) (fr:=["_law_plain"]) (js:=[5]) Z (zv (qv 0)) Z (f6 Z) Z (fR Z nofun nofun nofun Z Z Z) (λ_ _ _ _=>qg (i:=0) (show P4 (["_law_own","_law_plain"]:Α)from by decide +kernel) Z (Pr Z) (.inr Z)) (λ_ _ _ _=>(qo dG hr.mo (qc (qv 0) (qc (qv 1) qa)))))
   (qe (qC (qw zu (Q1 Il PySem.F.slot_list_count PySem.F.type_list_count vz (qv 6) (qc qy qa)) qf (qq _)) (qe (qj (qu (qc (qv 5) qa)))) qt)))))))))
   (qe (qj qP)))
  refine#[0,O,1,HX.of L,Z,nl,nms,Z,a6,W,λl5 G b3 pm so=>#[l5,Z,#[_,HQ.of qb],?_]]
  have u5:=HJ.upd (o:= .lst (G.map V.str)) b3
  have q:∀u H',HJ H H'->N4 H' u (G.findSome? (Qd D D' g e (zd 30 e)))->Q u H':=λu H' s t=>q u G H' s pm so t
  have lm:G.length<64:=by rw[pm.length_eq];exact W
  have wn:zd 30 e<=41:=by unfold zd;split<;>omega
  refine zQ (K:=K) (a:=l5) (xs:=G.map V.str) (λi σ l=>HJ H l/\l l5=↑(.lst (G.map V.str))/\(∀j z,j<i->G[j]? =↑z->Qd D D' g e (zd 30 e) z=none)/\∃o2 M F p C,σ=[↑(-ol),↑(-O),o2,M,F,p,C]) #[u5,qb,λj z hj _=>absurd hj (I1 _),20] (λi σ l _ h=>HQ.of h.2.1) ?_ ?_
  .rintro i z σ H6 hz ⟨s6,e6,no,o2,M,F,p,C,rfl⟩
   rw[Jo]at hz;let#[nm,a2,rfl]:=JO.mp hz;exists 0,O,1,HX.of (s6 _ _ L),8,by omega,by omega
   rw[Iw];refine Qx (n:=g) (Pv:=λk σ l=>HJ H l/\l l5=↑(.lst (G.map V.str))/\(∀x:Int,0<=x->x<0+(k:Int)->oG D D' e (zd 30 e) nm x=none)/\∃M F p C,σ=[↑(-ol),↑(-O),↑(.str nm),M,F,p,C]) #[s6,e6,λx h1 h2=>by omega,22] ?_ ?_
   .rintro k σ H7 hk ⟨U,e7,B,M,F,p,C,rfl⟩
    let#[d,eA]:∃d:Int,d=0+(k:Int):=#[0]
    rw[<- eA]at B⊢;refine#[0,O,1,HX.of (U _ _ L),Z,e,Z,b0,b1,λwl H8 s8 e8=>#[wl,Z,#[_,HQ.of e8],?_]]
    have e8:H8 wl=↑(.lst (Qq e (zd 30 e))):=e8
    refine zQ (K:=K) (a:=wl) (xs:=Qq e (zd 30 e)) (λc σ l=>HJ H8 l/\(∀x:Int,e<=x->x<e+(c:Int)->Qi D nm d x=Qi D' nm d x)/\∃F p C,σ=[↑(-ol),↑(-O),↑(.str nm),↑(.int d),F,p,C]) #[HJ.refl _,λx h1 h2=>by omega,18] (λc σ l _ h=>HQ.of (h.1 _ _ e8)) ?_ ?_
    .rintro c z σ H9 hc ⟨S,m,F,p,C,rfl⟩
     let#[rfl,b8]:=jL hc;let#[X,eX]:∃X:Int,X=e+(c:Int):=#[0]
     rw[<- eX]at m⊢;have S9:=(U.trans s8).trans S;refine#[4,Ht,λR b2=>?_]
     have up:=HJ.upd (o:= .tup [.str nm,.int d,.int X]) b2
     have N:(HM H9 R (.tup [.str nm,.int d,.int X])) R=↑(.tup [.str nm,.int d,.int X]):=qb
     have Sa:=S9.trans up;exists 0,ol,Z,#[_,HQ.of (Sa _ _ Y)]
     generalize HM H9 R (.tup [.str nm,.int d,.int X])=Ha at *
     refine ZF (K:=K) (a:=ol) (xs:=[-m1,-m2]) (Ho) (λi ys l=>HJ Ha l/\ys=([qE D nm d X,qE D' nm d X].take i).map V.str) #[HJ.refl _,Z] (λi ys l h=>HQ.of (h.1 _ _ (Sa _ _ Y))) ?_ ?_
     .rintro j ys Hb x v b5 ⟨I,rfl⟩
      have Sb:=Sa.trans I
      match j,v with
      |0,v=>
       cases v
       exact#[2,m1,a5,R,D,nm,d,X,Z,md.same Sb,I _ _ N,λHc sc=>#[I.trans sc,Z]]
      |1,v=>
       cases v
       exact#[2,m2,b6,R,D',nm,d,X,Z,c0.same Sb,I _ _ N,λHc sc=>#[I.trans sc,Z]]
     .rintro ys Hb b5 ⟨I,rfl⟩ a7 a3
      have uw:=HJ.upd (o:= .lst (([qE D nm d X,qE D' nm d X].take 2).map V.str)) a3
      exists 0,.inl #[43,HQ.of qb],a7,[qE D nm d X,qE D' nm d X],"open",9,qb,8
      have a4:([qE D nm d X,qE D' nm d X].count ("open":Str)=1)↔¬(Qi D nm d X=Qi D' nm d X):=by
       unfold Qi;rw[K6,K6,List.count_nil]
       by_cases z1:qE D nm d X="open"<;>by_cases z2:qE D' nm d X="open"<;>simp [z1,z2]
      refine qZ (λy=>?_) (λy=>?_)
      .have b4:¬(Qi D nm d X=Qi D' nm d X):=a4.mp (by have:=Jz y;injection this with this;omega)
       refine#[0,Hl,λr b7=>?_]
       have ur:=HJ.upd (o:= .tup [-R]) b7
       have e1:oG D D' e (zd 30 e) nm d=some [(nm,d,X)]:=by
        unfold oG;exact QQ b8 (by rw[<- eX];exact Jb b4) λx J x1=>Jc (m x J (by omega))
       have e2:Qd D D' g e (zd 30 e) nm=some [(nm,d,X)]:=by
        unfold Qd;exact QQ hk (by rw[<- eA];exact e1) λx J x1=>B x J (by omega)
       have:=q (-r) _ (((Sa.trans I).trans uw).trans ur)
       rw[cL (f:=Qd D D' g e (zd 30 e)) a2 e2 no]at this
       exact this (N4.one (z:=(nm,d,X)) qb (ur _ _ (uw _ _ (I _ _ N))))
      .have c1:Qi D nm d X=Qi D' nm d X:=SX.mp λz=>y (Jj (by rw[a4.mpr z];rfl))
       refine#[((S.trans up).trans I).trans uw,λx J x1=>?_,18]
       by_cases v:x<X
       .exact m x J v
       .obtain rfl:x=X:=by omega
        exact c1
    .rintro σ H9 ⟨S,m,F,p,C,rfl⟩
     refine#[(U.trans s8).trans S,S _ _ (s8 _ _ e7),λx J x1=>?_,22]
     by_cases v:x<d
     .exact B x J v
     .obtain rfl:x=d:=by omega
      unfold oG;exact zA λy y0 y1=>Jc (m y y0 (by rw[nM];exact y1))
   .rintro σ H7 ⟨U,e7,B,M,F,p,C,rfl⟩
    refine#[U,e7,λj z hj a1=>?_,20]
    by_cases a8:j<i
    .exact no j z a8 a1
    .obtain rfl:j=i:=by omega
     have ez:z=nm:=JE (a1.symm.trans a2)
     rw[ez];unfold Qd;exact zA B
  .rintro σ H6 ⟨s6,e6,no,o2,M,F,p,C,rfl⟩
   have e1:G.findSome? (Qd D D' g e (zd 30 e))=none:=cF λx v=>by
    let#[j,hj,rfl]:=HB.mp v;exact no j _ (by rw[Je];exact hj) (Jh hj)
   have:=q .non _ s6
   rw[e1]at this;exact this Z
def tX(a:At K mg "_law_two" gc ["_law_owns","_law_drawn_here"])(T:MW K mg tk)(dG:Df P w K mg base "_law_word" w6 1 cD)(dL:Df P w K mg base "_law_hear" w6 2 jU)(dH:Df P w K mg base "_law_window" V5 1 (bM 30))(xS:Df P w K mg base "_law_copied" ["_law_own"] 1 oF)(xF:Df P w K mg base "_law_one" X3 2 (mM 30)):Df P w K mg base "_law_two" X3 3 (vO 30):=by
 refine a.dq MV λf _ A _ s H vs Q E hr h=>?_
 .let#[ol,m1,b6,m2,d6,dr,nl,D,D',nms,e,g,rfl,a5,md,U,g2,e0,g4,h6,a2,d9,f0,m8,b0,b1,q]:=h
  exists _,(qd (zg JJ Z (zv (qk fY T.b_sorted Rp (qc (qx qN (qv 1) qf) qa))) (qg (i:=2) MV.nd Z (Pr Z))
   (qe (zg JJ Z (zM Z T.b_range (qc (qx qN (qv 1) qf) qa)) (qg (i:=3) MV.nd Z (Pr Z))
   (qe (zg JJ Z (zv (qo dH hr.mo (qc (qx qN (qv 1) qf) qa))) (qg (i:=4) MV.nd Z (Pr Z))
   (qd (qA (i:=5) MV.nd Z (SV Z) (qu (qc (qv 2) (qc (qv 3) (qc (qv 4) qa)))))
   (qe (qC (qw (DG hr) (Qa (own:=["_law_own"]) (fr:=["_law_plain"]) (js:=[5]) Z (zv (qv 0)) Z (f6 Z) Z (fR Z nofun nofun nofun Z Z Z) (λ_ _ _ _=>qg (i:=0) (show P4 (["_law_own","_law_plain"]:Α)from by decide +kernel) Z (Pr Z) (.inr Z)) (λ_ _ _ _=>(qo dG hr.mo (qc (qv 0) (qc (qv 1) qa))))) (za (qc qy (qc qy qa))) (qq _)) (qd (cP (i:=6) MV.nd Z (Pr Z) (own:=["_law_own"]) (fr:=[]) (js:=[]) Z (zv (qv 0)) Z (λ_ _ h=>nomatch h) Z (bX Z nofun nofun nofun) (λ_ _ _ _=>qg (i:=0) (show P4 (["_law_own"]:Α)from by decide +kernel) Z (Pr Z) (.inr Z)) (λ_ _ _ _=>(qo xS hr.mo (qc (qv 0) qa))))
   (qd (zg JJ Z (zv (qv 6)) (qg (i:=7) MV.nd Z (Pr Z))
   (qe (zc (qo dL hr.mo (qc (qv 7) (qc (qv 5) qa))))))
   (qd (qA (i:=8) MV.nd Z (Pr Z) (qo xF hr.mo (qc (qv 6) (qc (qu (qc (za (qc (qv 2) qa)) (qc (qx qN (qv 1) qf) (qc (qx qN (qv 1) qf) qa)))) qa))))
   (qe (qC (qw Z1 (qv 8) qP (qq _)) (qe (qj (qr Z5 (qu (qc (qv 5) qa)) (qv 8)))) qt))))) qt))))))))
   (qe (qj qP)))
  refine#[0,dr,1,HX.of a2,Z,nl,nms,Z,d9,f0,λl5 ms g0 pm so=>#[l5,Z,#[_,HQ.of qb],?_]]
  have u5:=HJ.upd (o:= .lst (ms.map V.str)) g0
  have q:∀u H',HJ H H'->N4 H' u (ms.findSome? (bm D D' e g (zd 30 g)))->Q u H':=λu H' s t=>q u ms H' s pm so t
  refine zQ (K:=K) (a:=l5) (xs:=ms.map V.str) (λi σ m=>HJ H m/\m l5=↑(.lst (ms.map V.str))/\(∀j z,j<i->ms[j]? =↑z->bm D D' e g (zd 30 g) z=none)/\∃o2 o3 W J L F G,σ=[↑(-ol),↑(-dr),o2,o3,W,J,L,F,G]) #[u5,qb,λj z hj _=>absurd hj (I1 _),32] (λi σ m _ h=>HQ.of h.2.1) ?_ ?_
  .rintro i z σ H6 O ⟨s6,e6,no,o2,o3,W,J,L,F,G,rfl⟩
   rw[Jo]at O;let#[nm,d7,rfl]:=JO.mp O;let#[fC,eC]:∃fC:Int->Int->Option zi,fC=λa c=>if qE D nm a c=""/\qE D' nm a c="" then none else(Qd {D with kn:=HP D nm a c} {D' with kn:=HP D' nm a c} e g (zd 30 g) nm).map λr=>(nm,a,c)::r:=#[0]
   have eT:bm D D' e g (zd 30 g) nm=Qh 0 e λa=>Qh g (zd 30 g) λc=>fC a c:=by rw[eC];rfl
   exists 0,dr,1,HX.of (s6 _ _ a2),8,by omega,by omega
   rw[Iw];refine Qx (n:=e) (Pv:=λk σ m=>HJ H m/\m l5=↑(.lst (ms.map V.str))/\(∀x:Int,0<=x->x<0+(k:Int)->(Qh g (zd 30 g) λc=>fC x c)=none)/\∃o3 W J L F G,σ=[↑(-ol),↑(-dr),↑(.str nm),o3,W,J,L,F,G]) #[s6,e6,λx h1 h2=>by omega,37] ?_ ?_
   .rintro k σ H7 hk ⟨s7,e7,a3,o3,W,J,L,F,G,rfl⟩
    let#[d,eA]:∃d:Int,d=0+(k:Int):=#[0]
    rw[<- eA]at a3⊢;refine#[0,dr,1,HX.of (s7 _ _ a2),Z,g,Z,b0,b1,λwl H8 s8 e8=>#[wl,Z,#[_,HQ.of e8],?_]]
    refine zQ (K:=K) (a:=wl) (xs:=Qq g (zd 30 g)) (λc σ m=>HJ H8 m/\(∀x:Int,g<=x->x<g+(c:Int)->fC d x=none)/\∃W J L F G,σ=[↑(-ol),↑(-dr),↑(.str nm),↑(.int d),W,J,L,F,G]) #[HJ.refl _,λx h1 h2=>by omega,20] (λc σ m _ h=>HQ.of (h.1 _ _ e8)) ?_ ?_
    .rintro c z σ H9 hc ⟨s9,a1,W,J,L,F,G,rfl⟩
     let#[rfl,g6]:=jL hc;let#[X,eX]:∃X:Int,X=g+(c:Int):=#[0]
     rw[<- eX]at a1⊢;have S9:=(s7.trans s8).trans s9;have d1:∀{Hn:Hp},HJ H9 Hn->fC d X=none->∀J L F G,(λc σ m=>HJ H8 m/\(∀x:Int,g<=x->x<g+(c:Int)->fC d x=none)/\∃W J L F G,σ=[↑(V.ref ol),↑(-dr),↑(.str nm),↑(.int d),W,J,L,F,G]:Nat->List Μ->Hp->Prop) (c+1) [↑(-ol),↑(-dr),↑(.str nm),↑(.int d),↑(.int X),J,L,F,G] Hn:=λsn h0 J L F G=>#[s9.trans sn,λx x0 x1=>by
      by_cases hx:x<X
      .exact a1 x x0 hx
      .obtain rfl:x=X:=by omega
       exact h0,20]
     refine#[4,Ht,λpp f5=>?_]
     have up:=HJ.upd (o:= .tup [.str nm,.int d,.int X]) f5
     have b5:(HM H9 pp (.tup [.str nm,.int d,.int X])) pp=↑(.tup [.str nm,.int d,.int X]):=qb
     have Sa:=S9.trans up;exists 0,ol,Z,#[_,HQ.of (Sa _ _ a5)]
     generalize HM H9 pp (.tup [.str nm,.int d,.int X])=Ha at *
     refine ZF (K:=K) (a:=ol) (xs:=[-m1,-m2]) (Ho) (λi ys m=>HJ Ha m/\ys=([qE D nm d X,qE D' nm d X].take i).map V.str) #[HJ.refl _,Z] (λi ys m h=>HQ.of (h.1 _ _ (Sa _ _ a5))) ?_ ?_
     .rintro j ys Hb x hx a6 ⟨sb,rfl⟩
      have Sb:=Sa.trans sb
      match j,hx with
      |0,hx=>
       cases hx
       exact#[2,m1,b6,pp,D,nm,d,X,Z,md.same Sb,sb _ _ b5,λHc sc=>#[sb.trans sc,Z]]
      |1,hx=>
       cases hx
       exact#[2,m2,d6,pp,D',nm,d,X,Z,U.same Sb,sb _ _ b5,λHc sc=>#[sb.trans sc,Z]]
     .rintro ys Hb a6 ⟨sb,rfl⟩ c0 a7
      have uw:=HJ.upd (o:= .lst (([qE D nm d X,qE D' nm d X].take 2).map V.str)) a7
      refine#[Ho,λel c3=>?_]
      have ue:=HJ.upd (o:= .lst [.str "",.str ""]) c3
      exists c0,el,[qE D nm d X,qE D' nm d X],["",""],9,ue _ _ qb,qb,8
      have d3:([qE D nm d X,qE D' nm d X]=([("":Str),("":Str)]))↔(qE D nm d X=""/\qE D' nm d X=""):=by simp
      have S10:=(sb.trans uw).trans ue;refine qZ (λy=>?_) (λy=>?_)
      case refine_2=>
       have h3:=d3.mp (SX.mp λz=>y (Jj z))
       refine d1 (up.trans S10) (by rw[eC];exact Jc h3) _ _ _ _
      have g1:¬(qE D nm d X=""/\qE D' nm d X=""):=λz=>Jz y (d3.mpr z)
      have c4:fC d X=(Qd {D with kn:=HP D nm d X} {D' with kn:=HP D' nm d X} e g (zd 30 g) nm).map λr=>(nm,d,X)::r:=by rw[eC];exact Jb g1
      have SB:=Sa.trans S10;have a8:=S10 _ _ b5;have h4:=up.trans S10;generalize HM (HM Hb c0 (.lst (([qE D nm d X,qE D' nm d X].take 2).map V.str))) el (.lst [.str "",.str ""])=S at *
      clear uw ue S10 sb c3 a7 a6;refine#[0,ol,Z,#[_,HQ.of (SB _ _ a5)],ZF (K:=K) (xs:=[-m1,-m2]) (Ho) (λi ys m=>HJ S m/\((i=0/\ys=[])\/(i=1/\∃x I,ys=[-x]/\S x=none/\S I=none/\MJ m x I D)\/(i=2/\∃x I y Y,ys=[-x,-y]/\S x=none/\S I=none/\MJ m x I D/\S y=none/\S Y=none/\MJ m y Y D'/\x≠y/\x≠Y/\I≠y/\I≠Y))) #[HJ.refl _,.inl #[9]] (λi ys m h=>HQ.of (h.1 _ _ (SB _ _ a5))) ?_ ?_]
      .rintro i ys m z O a6 ⟨sx,⟨rfl,rfl⟩|⟨rfl,x,I,rfl,fx,b4,mx⟩|⟨rfl,_⟩⟩
       .cases O
        refine#[0,m1,b6,D,Z,md.same (SB.trans sx),λm' b2 Hy sy f1 f2 U=>#[sx.trans sy,.inr (.inl #[Z,m',b2,Z,QR f1 sx,QR f2 sx,U])]]
       .cases O
        refine#[0,m2,d6,D',Z,U.same (SB.trans sx),λm' b2 Hy sy f1 f2 U=>#[sx.trans sy,.inr (.inr #[Z,x,I,m',b2,Z,fx,b4,mx.same sy,QR f1 sx,QR f2 sx,U,?_,?_,?_,?_])]]
        .exact qm mx.di f1
        .exact qm mx.di f2
        .let#[_,hd,_]:=mx.kn;exact qm hd f1
        .let#[_,hd,_]:=mx.kn;exact qm hd f2
       .cases O
      .rintro ys m a6 ⟨sx,⟨h0,_⟩|⟨h0,_⟩|⟨_,x,I,N,Y,rfl,fx,b4,mx,fy,f9,my,n1,n2,n3,n4⟩⟩ l hl
       .cases h0
       .cases h0
       have u:=HJ.upd (o:= .lst [-x,-N]) hl
       have el:HM m l (.lst [-x,-N]) l=↑(.lst [-x,-N]):=qb
       have d8:=mx.same u;have e5:=my.same u;have g7:l≠x:=(qm mx.di hl).symm
       have c1:l≠I:=by let#[_,hd,_]:=mx.kn;exact(qm hd hl).symm
       have h5:l≠N:=(qm my.di hl).symm
       have d4:l≠Y:=by let#[_,hd,_]:=my.kn;exact(qm hd hl).symm
       have su:=sx.trans u;have p:∀{z kz w:Δ},w≠z->w≠kz->w∉[z,kz]:=λh1 h2 h=>by
        rcases Jg.mp h with h|h
        .exact h1 h
        .exact h2 (Ji.mp h)
       have a4:∀{z kz:Δ} {Ha Hb:Hp},S z=none->S kz=none->HJ S Ha->Mv [z,kz] Ha Hb->HJ S Hb:=λf1 f2 sa mv w o ew=>mv _ _ (p (qm ew f1) (qm ew f2)) (sa _ _ ew)
       have d2:∀{z kz:Δ} {D:Dr} {Ha:Hp},MJ Ha z kz D->NT [z,kz] Ha:=λ{z kz D Ha} md w hw=>by
        rcases Jg.mp hw with h|h
        .rw[h];exact#[_,md.di,trivial]
        .rw[Ji.mp h];let#[_,hd,_]:=md.kn;exact#[_,hd,trivial]
       generalize HM m l (.lst [-x,-N])=H1 at *
       refine QM (λe9 H'=>HJ S H'/\H' l=↑(.lst [-x,-N])/\MJ H' x I {D with kn:=HP D nm d X}/\MJ H' N Y {D' with kn:=HP D' nm d X}/\∃F,e9=[↑(-ol),↑(-dr),↑(.str nm),↑(.int d),↑(.int X),↑(-pp),↑(-l),F,G]) (λD0 i1 f4=>?_) ?_
       .refine#[0,l,Z,#[_,HQ.of el],zQ (K:=K) (a:=l) (xs:=[-x,-N]) (λj σ Hz=>HJ S Hz/\Hz l=↑(.lst [-x,-N])/\MJ Hz x I (if 1<=j then{D with kn:=HP D nm d X}else D)/\MJ Hz N Y (if 2<=j then{D' with kn:=HP D' nm d X}else D')/\∃F,σ=[↑(-ol),↑(-dr),↑(.str nm),↑(.int d),↑(.int X),↑(-pp),↑(-l),F,G]) #[su,el,d8,e5,0] (λj σ Hz _ h=>HQ.of h.2.1) ?_ ?_]
        .rintro j z σ Hz O ⟨sz,R,C,B,F,rfl⟩
         match j,O with
         |0,O=>
          cases O;have C:MJ Hz x I D:=C
          have B:MJ Hz N Y D':=B
          refine#[2,x,I,pp,D,nm,d,X,Z,C,sz _ _ a8,g2,g4,λH4 M b3=>?_]
          exact#[a4 fx b4 sz M,M _ _ (p g7 c1) R,b3,B.mv M (d2 C) (p n1.symm n3.symm) (p n2.symm n4.symm),0]
         |1,O=>
          cases O;have C:MJ Hz x I {D with kn:=HP D nm d X}:=C
          have B:MJ Hz N Y D':=B
          refine#[2,N,Y,pp,D',nm,d,X,Z,B,sz _ _ a8,e0,h6,λH4 M b3=>?_]
          exact#[a4 fy f9 sz M,M _ _ (p h5 d4) R,C.mv M (d2 B) (p n1 n2) (p n3 n4),b3,0]
         |j+2,O=>cases O
        .rintro σ Hz ⟨sz,R,C,B,F,rfl⟩
         exact f4 _ _ #[sz,R,C,B,0]
       rintro σ Hz ⟨sz,R,C,B,h9,rfl⟩
       have Sz:=SB.trans sz;refine#[2,Hl,λc2 b8=>?_]
       have un:=HJ.upd (o:= .lst [.str nm]) b8
       refine#[0,dr,1,HX.of (un _ _ (Sz _ _ a2)),8,dr,1,HX.of (un _ _ (Sz _ _ a2)),Z,Ht,λg8 d0=>?_]
       have ud:=HJ.upd (o:= .tup [-c2,.int (e:Int),.int g]) d0
       have Su:=un.trans ud;refine#[l,x,I,N,Y,g8,c2,15,[nm],e,g,Z,Su _ _ R,C.same Su,B.same Su,qb,ud _ _ qb,by show 1<64;decide,m8,b0,b1,λv h7 Hv sv g5 h8 tv=>?_]
       obtain rfl:h7=[nm]:=List.perm_singleton.mp g5
       have e1:[nm].findSome? (Qd {D with kn:=HP D nm d X} {D' with kn:=HP D' nm d X} e g (zd 30 g))=Qd {D with kn:=HP D nm d X} {D' with kn:=HP D' nm d X} e g (zd 30 g) nm:=by
        rw[KC,List.findSome?_nil];cases Qd {D with kn:=HP D nm d X} {D' with kn:=HP D' nm d X} e g (zd 30 g) nm<;>rfl
       rw[e1]at tv;have Sall:=(sz.trans Su).trans sv;cases eo:Qd {D with kn:=HP D nm d X} {D' with kn:=HP D' nm d X} e g (zd 30 g) nm with
       |none=>
        rw[eo]at tv;have tv:v= .non:=tv
        subst tv;refine#[3,zh ?_]
        exact d1 (h4.trans Sall) (by rw[c4,eo];rfl) _ _ _ _
       |some r=>
        rw[eo]at tv;let#[tt,as,rfl,g3,la,has]:=tv;refine#[3,zo ?_]
        have rl:r.length<=1:=by
         have:∀{r:zi},Qd {D with kn:=HP D nm d X} {D' with kn:=HP D' nm d X} e g (zd 30 g) nm=↑r->r.length=1:=λ{r} h=>by
          unfold Qd Qh at h;let#[a,_,h]:=KG h
          unfold oG Qh at h;let#[c,_,h]:=KG h
          split at h
          .cases h
          .cases h;rfl
         rw[this eo];exact Jf _
        refine#[0,Hl,λt0 b7=>#[0,t0,tt,6,qb,(HJ.upd b7) _ _ g3,by rw[Je,la,JD];show 1+_<=_;omega,λrr Hr sr e4=>?_]]
        have ut:=HJ.upd (o:= .tup [-pp]) b7
        have e2:Qh g (zd 30 g) (λc=>fC d c)=↑((nm,d,X)::r):=QQ g6 (by rw[<- eX,c4,eo];rfl) λx x0 x1=>a1 x x0 (by omega)
        have e3:bm D D' e g (zd 30 g) nm=↑((nm,d,X)::r):=by
         rw[eT];exact QQ hk (by rw[<- eA];exact e2) λx x0 x1=>a3 x x0 (by omega)
        have:=q (-rr) Hr (((SB.trans Sall).trans ut).trans sr)
        rw[cL (f:=bm D D' e g (zd 30 g)) d7 e3 no]at this
        refine this #[rr,pp::as,Z,e4,by rw[JR,JR,la],λj b z h1 h2=>?_]
        cases j with
        |zero=>cases h1;cases h2;exact sr _ _ (ut _ _ (Sall _ _ a8))
        |succ j=>exact sr _ _ (ut _ _ (has j b z h1 h2))
    .rintro σ H9 ⟨s9,a1,W,J,L,F,G,rfl⟩
     refine#[(s7.trans s8).trans s9,s9 _ _ (s8 _ _ e7),λx x0 x1=>?_,37]
     by_cases hx:x<d
     .exact a3 x x0 hx
     .obtain rfl:x=d:=by omega
      exact zA λy y0 y1=>a1 y y0 (by rw[nM];exact y1)
   .rintro σ H7 ⟨s7,e7,a3,o3,W,J,L,F,G,rfl⟩
    refine#[s7,e7,λj z hj d5=>?_,32]
    by_cases f3:j<i
    .exact no j z f3 d5
    .obtain rfl:j=i:=by omega
     have ez:z=nm:=JE (d5.symm.trans d7)
     rw[ez,eT];exact zA a3
  .rintro σ H6 ⟨s6,e6,no,o2,o3,W,J,L,F,G,rfl⟩
   have e1:ms.findSome? (bm D D' e g (zd 30 g))=none:=cF λx hx=>by
    let#[j,hj,rfl]:=HB.mp hx;exact no j _ (by rw[Je];exact hj) (Jh hj)
   have:=q .non _ s6
   rw[e1]at this;exact this Z
def uc(a:At K mg "_law_few" fU ["_law_box_here"])(T:MW K mg tk)(Y:Df P w K mg base "_law_take" q0 1 Zf):Df P w K mg base "_law_few" X4 2 rO:=by
 refine a.dq Oa λf _ A _ s H vs Q E hr h=>?_
 .let#[b,c,rfl,hb,hc,q]:=h
  exists _,(qd (qA (i:=1) Oa.nd Z (Pr Z) (qx qF (za (qc (za (qc qy (qc qy qa))) (qc (za (qc qy qa)) (qc (za (qc qy (qc qy qa))) (qc (za (qc qy qa)) qa))))) (qo Y hr.mo (qc (qv 0) (qc qf qa)))))
   (qe (qj (qu (qc (qv 1) (qc (qr qM qf (qo Y hr.mo (qc (qv 0) (qc qf qa)))) (qc (qx qF (za (qc qf (qc qf (qc qf (qc qf qa))))) (qo Y hr.mo (qc (qv 0) (qc qf qa)))) qa)))))))
  refine#[Ho,λm h1=>#[Hl,λg h2=>#[Ho,λd U=>#[Hl,λl W=>#[Hu,λu F=>?_]]]]]
  have y:=HJ.upd (o:= .lst [.str "a",.str "ab"]) h1
  have D:=HJ.upd (o:= .lst [.str "b"]) h2
  have v:=HJ.upd (o:= .lst [.str "aaaaaaab",.str "aaaaaaaa"]) U
  have B:=HJ.upd (o:= .lst [.str "zz"]) W
  have C:=HJ.upd (o:= .lst [-m,-g,-d,-l]) F
  have I:∀x∈[V.ref m,-g,-d,-l],∃n nms,x= .ref n/\Om nms 1 0/\H n=none/\(HM (HM (HM (HM (HM H m (.lst [.str "a",.str "ab"])) g (.lst [.str "b"])) d (.lst [.str "aaaaaaab",.str "aaaaaaaa"])) l (.lst [.str "zz"])) u (.lst [-m,-g,-d,-l])) n=↑(.lst (nms.map V.str)):=by
   intro x J;simp only[Jg,Jt,Ju]at J;rcases J with rfl|rfl|rfl|rfl
   .exact#[m,["a","ab"],Z,#[nofun,λz j=>(by simp only[Jg,Jt,Ju]at j;rcases j with rfl|rfl<;>exact#[nofun,nofun,nofun]),⋯,⋯,⋯,⋯,⋯,⋯],h1,(C _ _ (B _ _ (v _ _ (D _ _ qb))))]
   .exact#[g,["b"],Z,#[nofun,λz j=>(by simp only[Jg,Jt,Ju]at j;subst j;exact#[nofun,nofun,nofun]),⋯,⋯,⋯,⋯,⋯,⋯],(QR h2 y),(C _ _ (B _ _ (v _ _ qb)))]
   .exact#[d,["aaaaaaab","aaaaaaaa"],Z,#[nofun,λz j=>(by simp only[Jg,Jt,Ju]at j;rcases j with rfl|rfl<;>exact#[nofun,nofun,nofun]),⋯,⋯,⋯,⋯,⋯,⋯],(QR (QR U D) y),(C _ _ (B _ _ qb))]
   .exact#[l,["zz"],Z,#[nofun,λz j=>(by simp only[Jg,Jt,Ju]at j;subst j;exact#[nofun,nofun,nofun]),⋯,⋯,⋯,⋯,⋯,⋯],(QR (QR (QR W v) D) y),(C _ _ qb)]
  have S6:=(((y.trans D).trans v).trans B).trans C;have e6:(HM (HM (HM (HM (HM H m (.lst [.str "a",.str "ab"])) g (.lst [.str "b"])) d (.lst [.str "aaaaaaab",.str "aaaaaaaa"])) l (.lst [.str "zz"])) u (.lst [-m,-g,-d,-l])) u=↑(.lst [-m,-g,-d,-l]):=qb
  have n6:u≠b:=λz=>by let#[_,_,_,e,_]:=hb;rw[z]at F;rw[(((y.trans D).trans v).trans B) _ _ e]at F;cases F
  generalize (HM (HM (HM (HM (HM H m (.lst [.str "a",.str "ab"])) g (.lst [.str "b"])) d (.lst [.str "aaaaaaab",.str "aaaaaaaa"])) l (.lst [.str "zz"])) u (.lst [-m,-g,-d,-l]))=H6 at *
  clear y D v B C h1 h2 U W F;have g6:=S6.grc hb;refine#[0,b,(4),c,Z,g6.bx,by omega,⋯,⋯,λr1 H1 X O g1=>?_]
  let#[x,J,hm]:=Z0 (xs:=[V.ref m,-g,-d,-l]) X O
  let#[n,nms,rfl,M,N,en]:=I x hm;have p:n≠b:=λz=>by let#[_,_,_,e,_]:=hb;rw[z,e]at N;cases N
  exists u,1,HQ.of (g1.kp _ _ n6 e6),J
  have G1:=g6.trans g1;refine#[2,b,(2),c+1,Z,G1.bx,by omega,⋯,⋯,λS H2 a5 a4 g2=>#[6,Hu,λl7 h7=>?_]]
  have G2:=G1.trans g2;have u7:=HJ.upd (o:= .lst [.int 0,.int 0,.int 4076,.int 4083]) h7
  have n7:=zJ G2.bx h7;have G3:=G2.same u7;refine#[0,b,(4),c+1+1,Z,G3.bx,by omega,⋯,⋯,λr3 H3 a2 a1 g3=>?_]
  let#[x2,R,G]:=Z0 (xs:=[V.int 0,.int 0,.int 4076,.int 4083]) a2 a1
  let#[r,rfl,b0,b1]:∃r:Int,x2= .int r/\0<=r/\r<=4083:=by
   simp only[Jg,Jt,Ju]at G;rcases G with rfl|rfl|rfl|rfl<;>exact#[0,⋯,⋯]
  have G4:=G3.trans g3;refine#[l7,1,HQ.of (g3.kp _ _ n7 qb),R,Ht,λt ht=>?_]
  let#[L,a3]:∃L:Nat,1+S=(L:Int):=#[(1+S).toNat,by omega]
  show Q (-t) (HM H3 t (.tup [-n,.int (1+S),.int r]))
  rw[a3];have ut:=HJ.upd (o:= .tup [-n,.int (L:Int),.int r]) ht
  exact q t n nms L r _ ((G4.same ut).mono (by omega)) qb (ut _ _ (g3.kp _ _ p (u7 _ _ (g2.kp _ _ p (g1.kp _ _ p en))))) N #[M.nd,M.nm,M.l1,M.l3,by omega,by omega,b0,b1]
def oV(a:At K mg "_law_begun" b9 ["_law_box_here","_law_drawn_here"])(T:MW K mg tk)(U:ND K C)(yQ:Mi P w K mg base C "Door" X1 1 (mI K C))(dA:Df P w K mg base "_law_take" q0 1 Zf)(yB:Df P w K mg base "_law_table" X4 2 oK)(xD:Df P w K mg base "_law_key" X4 2 j7)(xY:Df P w K mg base "_law_bounds" X4 2 lp)(x6:Df P w K mg base "_law_model" W7 1 sS)(xU:Df P w K mg base "_law_learnt" X2 8 (fE K C)):Df P w K mg base "_law_begun" W9 9 (kQ K C):=by
 refine a.dq MN λf _ A _ s H vs Q E hr h=>?_
 .let#[b,dr,nl,c,nms,a4,ba,rfl,hb,hc,a1,R,b5,ok,q]:=h
  have m1:=ok.m1;have m3:=ok.m3;have b0:=ok.b0;have b1:=ok.b1;have l1:=ok.l1;have l3:=ok.l3;exists _,(qd (q9 (qv 1) (zf Z (qh (qg (i:=2) MN.nd Z (Pr Z)) (qh (qg (i:=3) MN.nd Z (SV Z)) (qh (qg (i:=4) MN.nd Z (Pr Z)) qK)))))
   (qd (qA (i:=5) MN.nd Z (SV Z) (qu (qc (qo yB hr.mo (qc (qv 0) qa)) (qc (qI zp T.b_tuple JL (qc (Qa (own:=["_law_k"]) (fr:=["_law_box_here"]) (js:=[0]) Z (zM Z T.b_range (qc (qv 3) qa)) Z (f6 Z) Z (fR Z nofun nofun nofun Z Z Z) (λ_ _ _ _=>qg (i:=0) (show P4 (["_law_k","_law_box_here"]:Α)from by decide +kernel) Z (Pr Z) (.inr Z)) (λ_ _ _ _=>(QN cM (qo xD hr.mo (qc (qv 1) qa)) Zg (Zh qf)))) qa)) qa))))
   (qd (cP (i:=6) MN.nd Z (Pr Z) (own:=["_law_near","_law_far"]) (fr:=["_law_many","_law_code"]) (js:=[3,5]) Z (zv (qo xY hr.mo (qc (qv 0) qa))) Z (FG Z Z) Z (Fw Z nofun nofun nofun Z Z Z Z Z Z) (λ_ _ _ _=>De (K:=K) Z 2 Z (qh (qg (i:=0) (show P4 (["_law_near","_law_far","_law_many","_law_code"]:Α)from by decide +kernel) Z (Pr Z) (.inr Z)) (qh (qg (i:=1) (show P4 (["_law_near","_law_far","_law_many","_law_code"]:Α)from by decide +kernel) Z (Pr Z) (.inr Z)) qK))) (λ_ _ _ _=>(qu (qc (DB yQ hr.mo (qc (qx (jI (K:=K) Z) (qv 3) qf) (qc (qx (jI (K:=K) Z) (qv 3) qf) (qc (qv 0) (qc (qv 1) (qc qf qa)))))) (qc (qo x6 hr.mo (qc (qv 0) (qc (qv 1) (qc (qv 2) qa)))) qa)))))
   (qd (zg JJ Z (zv (qv 2)) (qg (i:=7) MN.nd Z (Pr Z))
   (qd (qA (i:=8) MN.nd Z (Pr Z) (qu (qc (qo dA hr.mo (qc (qv 0) (qc (qv 3) qa))) (qc (qk (Q7 Z) T.b_min RL (qc qf (qc (qr qM (qr qM (qv 4) qf) (qo dA hr.mo (qc (qv 0) (qc qf qa)))) qa))) qa))))
   (qe (zc (qo xU hr.mo (qc (qv 5) (qc (qv 6) (qc (qv 7) (qc (za (qc (qv 8) (qc (qx qF (za (qc (qv 8) (qc (qv 8) (qc qP qa)))) (qo dA hr.mo (qc (qv 0) (qc qf qa)))) qa))) qa)))))))))
   (qe (qj (za (qc (qv 5) (qc (qv 6) (qc (qv 1) qa))))))))))
  exists 0,dr,0,.tup a1,7
  refine#[0,b,c,Z,hb,by omega,λtb t H1 g1 d7 h4 tp=>?_]
  exists 2,by omega,by omega
  rw[Iw];have m0:tb≠b:=λz=>by let#[_,_,_,e,_]:=hb;rw[z,e]at d7;cases d7
  refine aH (n:=a4) (JN m3 ⋯) (λi ys Hx=>NM b (c+16+9*i) H Hx/\Hx tb=↑(.tup (t.map V.int))/\∃(L:Η) (kss:List Β),ys=L.map V.ref/\L.length=i/\kss.length=i/\∀(j:Nat) (x:Δ) (z:Β),L[j]? =↑x->kss[j]? =↑z->Hx x=↑(.tup (z.map V.int))) #[g1,h4,[],[],40,λj x z e=>by cases e] ?_ ?_
  .rintro i ys Hx hi a8 ⟨G,et,L,kss,rfl,lA,lK,a2⟩
   refine#[0,b,c+16+9*i,Z,G.bx,by omega,λp ks H2 g2 fp ep dk l1 l8=>#[0,p,0,ep,λy H3 s3 M _=>?_]]
   rw[a9]at M;have kp:∀{x:Δ} {xs:Ε},Hx x=↑(.tup xs)->H3 x=↑(.tup xs):=λ{x xs} e=>s3 _ _ (g2.kp _ _ (λz=>by let#[_,_,_,eb,_]:=G.bx;rw[z,eb]at e;cases e) e)
   refine#[((G.trans g2).same s3).mono (by omega),kp et,L++[y],kss++[ZS ks none ↑2],by simp,by simp [lA],by simp [lK],λj x z W e2=>?_]
   by_cases hj:j<L.length
   .rw[J3 hj]at W
    rw[J3 (by omega)]at e2
    exact kp (a2 j x z W e2)
   .rw[J9 (by omega)]at W
    rw[J9 (by omega)]at e2
    cases ej:j-L.length with
    |zero=>rw[ej]at W;rw[show j-kss.length=0 by omega]at e2;cases W;cases e2;exact M
    |succ k=>rw[ej]at W;cases W
  rintro ys Hx a8 ⟨G,et,L,kss,rfl,lA,lK,a2⟩ l0 c4
  obtain rfl:kss.length=a4:=lK
  refine#[l0,0,.inl #[HQ.of qb,λkt e5=>#[Ho,λcd d0=>?_]]]
  have u1:=HJ.upd (o:= .lst (L.map V.ref)) c4
  have u2:=HJ.upd (o:= .tup (L.map V.ref)) e5
  have u3:=HJ.upd (o:= .tup [-tb,-kt]) d0
  have S3:=(u1.trans u2).trans u3;have hC:NA (HM (HM (HM Hx l0 (.lst (L.map V.ref))) kt (.tup (L.map V.ref))) cd (.tup [-tb,-kt])) cd tb kt t kss:=#[qb,.inl (S3 _ _ et),L,.inl (.inl (u3 _ _ qb)),lA,λj x z W e2=> .inl (.inl (S3 _ _ (a2 j x z W e2)))]
  have G3:=G.same S3;generalize HM (HM (HM Hx l0 (.lst (L.map V.ref))) kt (.tup (L.map V.ref))) cd (.tup [-tb,-kt])=H3 at *
  clear a2 et u1 u2 u3 c4 e5 d0;have h8:H b≠none:=λz=>by let#[_,_,_,e,_]:=hb;rw[z]at e;cases e
  refine#[0,b,0,G3.bx,by omega,λbl O x2 n1 f1 n2 f2 H4 g4 b2 d4 d6 l6 m5 f9=>?_]
  have G4:=G3.trans g4;have e8:=hC.mv (S:=[b]) (λc o h e=>g4.kp c o (λz=>h (Ji.mpr z)) e) (zK G3.bx)
  have J:Pq K C H H4 b _ []:=#[λc o h e=>G4.kp c o (λz=>h (Ji.mpr z)) e,G4.bx,h8,(λi x h=>by cases h),(λi j x y _ h=>by cases h),(λi x h=>by cases h)]
  let#[nn,e6]:∃nn:Nat->Int,nn=λi=>if i=0 then n1 else n2:=#[0]
  let#[ff,b8]:∃ff:Nat->Int,ff=λi=>if i=0 then f1 else f2:=#[0]
  have k0:∀i,AG (nn i) (ff i):=λi=>by rw[e6,b8];simp only;split<;>assumption
  exists bl,Z,#[_,HQ.of b2]
  refine vj (K:=K) (a:=bl) (xs:=[-O,-x2]) (Ho) (λi ys u=>∃xs,Pq K C H u b (c+16+9*3+7) xs/\xs.length=i/\ys=(xs.map λx=>V.ref x.1.e)/\(∀(j:Nat) (x:En),xs[j]? =↑x->x.2.1=#[t,kss,nn j,ff j,(12),(0),[]]/\x.2.2=[])/\NA u cd tb kt t kss/\u bl=↑(.lst [-O,-x2])/\u O=↑(.tup [.int n1,.int f1])/\u x2=↑(.tup [.int n2,.int f2])) #[[],#[J.s,J.bx.mono (by omega),J.b0,J.en,J.dj,J.fr],9,(λi x h=>by cases h),e8,b2,d4,d6] (λi ys u h=>by let#[_,_,_,_,_,_,h,_]:=h;exact HQ.of h) ?_ ?_
  .rintro i ys u z ez a8 ⟨xs,pq,lx,rfl,d,g,k7,d8,e4⟩
   let#[p,rfl,ep]:∃p,z= .ref p/\u p=↑(.tup [.int (nn i),.int (ff i)]):=by
    rw[e6,b8]
    match i,ez with
    |0,ez=>cases ez;exact#[0,d8]
    |1,ez=>cases ez;exact#[0,e4]
    |k+2,ez=>cases ez
   exists p,13,.inr (HX.of ep)
   refine#[0,cd,1,HX.of g.e,8,cd,1,HX.of g.e,Z,_,Z,_,Z,λx dx nx i2 k5=>?_]
   have sJ:HJ u (HM (HM u dx (.own x)) x (.ins C dx [])):=(HJ.upd i2).trans (HJ.upd (by rw[qp k5.symm];exact nx))
   let#[D,eD]:∃D:Dr,D=#[t,kss,nn i,ff i,(12),(0),[]]:=#[0]
   refine#[x,tb,kt,dx,nn i,ff i,(12),t,kss,Z,qb,.inr (.inl (Rd.same sJ g.tb)),g.ks.same sJ,by omega,λta hk X lg H2 h1 h2 h3 mv f5 kr=>#[Z,?_]]
   have sK:HJ u H2:=λc o e=>mv c o (qQ (qm e nx)) (sJ c o e)
   have dl:M8 K C H2 #[x,ta,hk,X,lg] D []:=by rw[eD];exact HL.dl f5 kr
   have fz:∀z∈dS #[x,ta,hk,X,lg],u z=none:=λz F=>by
    rcases D6 F with rfl|rfl|rfl|rfl
    .exact nx
    .exact QR h1 sJ
    .exact QR h2 sJ
    .exact QR h3 sJ
   refine#[4,D,by rw[eD];rfl,by rw[eD],by rw[eD],λm kd H6 s6 fm b7 md=>#[Ho,λe he=>?_]]
   have u7:=HJ.upd (o:= .tup [-x,-m]) he
   have S7:=(sK.trans s6).trans u7;let#[f0,c3,_]:=id dl.dr.kb;have h9:NR K C (HM H6 e (.tup [-x,-m])) #[e,#[x,ta,hk,X,lg],m,kd] D [] D:=#[qb,(dl.same s6).same u7,md.same u7,(qm c3 fm).symm,(qm c3 b7).symm]
   have fe:∀z∈eS #[e,#[x,ta,hk,X,lg],m,kd],u z=none:=λz F=>by
    rcases wY F with F|rfl|rfl
    .exact fz z F
    .exact QR fm sK
    .exact QR b7 sK
   refine#[xs++[(#[e,#[x,ta,hk,X,lg],m,kd],D,[])],pq.add S7 h9 fe,by simp [lx],by simp,λj y M=>?_,g.same S7,S7 _ _ k7,S7 _ _ d8,S7 _ _ e4]
   by_cases hj:j<xs.length
   .rw[J3 hj]at M;exact d j y M
   .rw[J9 (by omega)]at M
    cases ej:j-xs.length with
    |succ k=>rw[ej]at M;cases M
    |zero=>
     rw[ej]at M;cases M
     obtain rfl:j=i:=by omega
     exact#[eD,Z]
  rintro ys u a8 ⟨xs,pq,lx,rfl,d,g,_⟩ pl d9
  have a3:xs.length=2:=lx
  have hq:∀(i:Nat) (x:En),xs[i]? =↑x->Ny t kss ba (nms.take 0) x.2.1/\x.2.2.length<=2*0/\x.2.1.least=0:=λi x hx=>by
   let#[W,e2]:=d i x hx;let#[q1,q2,q3,q4]:=k0 i;rw[W,e2]
   exact#[#[#[#[tp,GZ _,by show kss.length<=8;omega,JB _,LK],9,q3],#[q1,by show nn i<=64;omega,q3,by show ff i<=1024;omega,GZ _,by show(0:Int)<kss.length;omega],q4,Z,(λe he=>nomatch he),(λz F=>nomatch F)],Jf _,Z]
  have pw:=pq.pw d9;have m4:H pl=none:=pw.fp
  have d2:=g.same (HJ.upd (o:= .lst (xs.map λx=>V.ref x.1.e)) d9)
  generalize HM u pl (.lst (xs.map λx=>V.ref x.1.e))=H5 at *
  clear d g pq J e8 b2 d4 d6 f9 hC G4;refine QM (λg7 H'=>∃xs oa ob,Pw K C H H' b (c+80) pl xs/\xs.length=2/\(∀(i:Nat) (x:En),xs[i]? =↑x->Ny t kss ba nms x.2.1/\x.2.2.length<=6)/\NA H' cd tb kt t kss/\g7=[↑(-b),↑(-dr),↑(-nl),↑(.int (kss.length:Int)),↑(.int ba),↑(-cd),↑(-pl),oa,ob]) (λD' m2 h6=>?_) ?_
  .exists 0,nl,Z,#[_,HQ.of (pw.s _ _ (qQ b5) R)]
   refine zQ (K:=K) (a:=nl) (xs:=nms.map V.str) (λj σ Hz=>∃xs,Pw K C H Hz b (c+60+3*j) pl xs/\xs.length=2/\(∀(i:Nat) (x:En),xs[i]? =↑x->Ny t kss ba (nms.take j) x.2.1/\x.2.2.length<=2*j/\x.2.1.least=0)/\NA Hz cd tb kt t kss/\∃oa ob,σ=[↑(-b),↑(-dr),↑(-nl),↑(.int (kss.length:Int)),↑(.int ba),↑(-cd),↑(-pl),oa,ob]) #[xs,pw.mono (by omega),a3,hq,d2,13] (λj σ Hz _ h=>by let#[_,p,_]:=h;exact HQ.of (p.s _ _ (qQ b5) R)) ?_ ?_
   .rintro j z σ Hz F ⟨xs,pw,lx,d,a5,oa,ob,rfl⟩
    rw[Jo]at F;let#[nm,en,rfl]:=JO.mp F;have hj:j<nms.length:=(Jw.mp en).1
    have k2:=ok.nm nm (Ij en);refine#[2,b,13,pw.bx,by omega,by omega,by omega,λag Ha Y a7 ga=>?_]
    have f3:=pw.grc ga;refine#[12,b,(7),0,f3.bx,by omega,⋯,⋯,λr2 Hb l7 l5 gb=>#[51,Ho,λI g5=>?_]]
    let#[B,e7]:∃B,B=(if ba+1+r2<4095 then ba+1+r2 else 4095):=#[0]
    have r:1<=B/\B<4096/\ba<B/\B<=ba+15:=by rw[e7];split<;>omega
    rw[<- e7];have v0:=HJ.upd (o:= .tup [.int ag,.int B]) g5
    have a6:=(f3.grc gb).same v0;have e0:(HM Hb I (.tup [.int ag,.int B])) I=↑(.tup [.int ag,.int B]):=qb
    have Mb:Mv [b] Hz (HM Hb I (.tup [.int ag,.int B])):=λx o h e=>v0 _ _ (gb.kp _ _ (λz=>h (Ji.mpr z)) (ga.kp _ _ (λz=>h (Ji.mpr z)) e))
    have j1:=a5.mv Mb (zK pw.bx);generalize HM Hb I (.tup [.int ag,.int B])=Hc at *
    refine#[28,Ht,λl4 c1=>?_]
    have v4:=HJ.upd (o:= .lst [-I,-I,.non]) c1
    have l2:=zJ a6.bx c1;have e3:=a6.same v4;refine#[0,b,(3),0,e3.bx,by omega,⋯,⋯,λr4 Hf k8 g0 gf=>?_]
    let#[v,hv,c0]:=Z0 (xs:=[V.ref I,-I,.non]) k8 g0
    have e9:=e3.grc gf;have Mf:Mv [b] Hc Hf:=λx o h e=>gf.kp _ _ (λz=>h (Ji.mpr z)) (v4 _ _ e)
    have Ne:=zK a6.bx;have g3:=j1.mv Mf Ne;have j2:=gf.kp _ _ l2 (show(HM Hc l4 (.lst [-I,-I,.non])) l4=↑(.lst [-I,-I,.non])from qb)
    have b6:=Mf.tup Ne e0;let#[o,ho,i1]:∃o:Option (Int×Int),(o=none\/o=↑(ag,B))/\P9 Hf v o:=by
     simp only[Jg,Jt,Ju]at c0;rcases c0 with rfl|rfl|rfl
     .exact#[_,.inr Z,I,Z,b6]
     .exact#[_,.inr Z,I,Z,b6]
     .exact#[none,.inl Z,Z]
    have b3:∀a l,o=↑(a,l)->a=ag/\l=B:=λa l e=>by
     rcases ho with z|z
     .rw[z]at e;cases e
     .rw[z]at e;cases e;exact#[9]
    refine#[l4,1,HQ.of j2,hv,Ho,λtl d5=>?_]
    have v6:=HJ.upd (o:= .lst [-I,v]) d5
    have k1:=e9.same v6;have k4:∀(i:Nat) (x:En),xs[i]? =↑x->tl∉eS x.1:=λi x hx z=>(e9.en i x hx).some z d5
    refine#[cd,tb,kt,pl,tl,b,_,H,t,kss,xs,nm,[↑(ag,B),o],Z,k1,lx,g3.same v6,k2,NY.two qb #[I,Z,v6 _ _ b6] (i1.mv (S:=[]) v6.mv fk),Z,k4,λi x hx=>?_,λa l h=>?_,λHn h7 j6 j3 st _=>?_]
    .let#[h1,h5,h0]:=d i x hx
     refine#[h1.lr (by rw[G5];omega),λa l e=>#[?_,dv λz=>wO ok.nd en (h1.sub nm z)],by have:=h1.few;rw[G5]at this;omega,by omega]
     rw[h0]
     match i,e with
     |0,e=>cases e;exact Y
     |1,e=>rw[(b3 a l e).1];exact Y
     |i+2,e=>cases e
    .simp only[Jg,Jt,Ju]at h
     rcases h with h|h
     .cases h;exact#[Y,a7,r.1,r.2.1]
     .let#[rfl,rfl]:=b3 a l h.symm;exact#[Y,a7,r.1,r.2.1]
    .refine#[h7,j6.mono (by omega),st.1.trans lx,λi y M=>?_,j3,13]
     have hi:i<xs.length:=by rw[<- st.1];exact(Jw.mp M).1
     let#[L',e,le]:=st.2 i xs[i] (Jh hi)
     let#[h1,h5,h0]:=d i xs[i] (Jh hi)
     rw[e]at M;cases M;have ll:xs[i].2.1.least=(aT nm xs[i].2.1 ([↑(ag,B),o].getD i none)).least:=by
      unfold aT;split<;>rfl
     have d1:nm∈nms.take (j+1):=by rw[Ie,en];simp
     have g6:=h1.more (nms':=nms.take (j+1)) λz F=>(List.take_prefix_take_left (by omega)).subset F
     refine#[?_,by show L'.length<=2*(j+1);omega,ll▸h0]
     refine g6.lrn (by rw[G5];omega) d1 λa l h=>?_
     have:a=ag/\l=B:=by
      match i,h with
      |0,h=>cases h;exact#[9]
      |1,h=>exact b3 a l h
      |i+2,h=>cases h
     let#[rfl,rfl]:=this
     exact#[Y,a7,r.1,r.2.1,r.2.2.1,r.2.2.2]
   .rintro σ Hz ⟨xs,pw,lx,d,a5,oa,ob,rfl⟩
    have k3:(nms.map V.str).length=nms.length:=Je _
    rw[k3]at pw d;refine h6 _ _ #[xs,15,pw.mono (by omega),lx,λi x hx=>?_,a5,Z]
    let#[h1,h2,_]:=d i x hx;rw[Ip]at h1
    exact#[h1,by omega]
  clear pw a3 hq d2
  rintro σ u ⟨xs,oa,ob,pw,a3,d,g,rfl⟩
  let#[x0,O,rfl]:=iP a3;let#[s0,g8]:=d 0 x0 Z;let#[s1,f4]:=d 1 O Z;refine#[4,Ht,λel N=>?_]
  have u9:=HJ.upd (o:= .lst [-cd,-pl,-dr]) N
  have p9:=pw.same u9;have d3:H nl≠none:=λz=>by rw[z]at R;cases R
  have fz:∀z∈eS x0.1++eS O.1,H z=none:=λz F=>(JP.mp F).elim (pw.fr 0 x0 Z z) (pw.fr 1 O Z z)
  have b4:∀{x:Δ} {o:HO},x≠b->H x=↑o->(HM u el (.lst [-cd,-pl,-dr])) x=↑o:=λn e=>p9.s _ _ (qQ n) e
  have c2:H el=none:=by
   cases e:H el with
   |none=>rfl
   |some o=>have:=pw.s el o (qQ (zJ pw.bx N)) e;rw[N]at this;cases this
  refine q #[el,pl,nl,x0.1,O.1] t kss x0.2.1 O.2.1 _ #[λx o n e=>b4 n e,p9.bx.mono (by omega)] #[#[cd,dr,tb,kt,qb,g.same u9,b4 ?_ a1],b4 b5 R,p9.pe,#[_,g8,p9.en 0 x0 Z],#[_,f4,p9.en 1 O Z],p9.dj 0 1 x0 O ⋯ Z Z,?_,?_,?_,?_,?_,ok,s0,s1] Z pw.fp ?_
  .exactλz=>by let#[_,_,_,e,_]:=hb;rw[z,e]at a1;cases a1
  .exactλz=>(jK z).elim (λh=>(pw.en 0 x0 Z).some h N) (λh=>(pw.en 1 O Z).some h N)
  .exactλz=>(jK z).elim (pw.np 0 x0 Z) (pw.np 1 O Z)
  .exactλz=>d3 (fz nl z)
  .exactλz=>by have:=pw.pe;rw[show pl=el from z,N]at this;cases this
  .exactλz=>d3 (by rw[show nl=el from z];exact c2)
  .exactλz F=>(Jg.mp F).elim (λh=>h▸c2) (fz z)
def rc(a:At K mg "_law_deed" c7 ["_law_box_here","_law_entry"])(T:MW K mg tk)(U:ND K C)(xO:Mf P w K mg base C "forget" X6 1 (iM K C))(xH:Mf P w K mg base C "turn_key" ["self","key"] 1 (mV K C))(dY:Mf P w K mg base C "close_below" V2 1 (pF K C))(dA:Df P w K mg base "_law_take" q0 1 Zf)(xD:Df P w K mg base "_law_key" X4 2 j7)(xU:Df P w K mg base "_law_learnt" X2 8 (fE K C))(yA:Df P w K mg base "_law_heard" X9 7 (mH K C)):Df P w K mg base "_law_deed" X7 9 (mE K C):=by
 refine a.dq HY λf _ A _ s H vs Q E X h=>?_
 .let#[E,b,c,t,kss,J,nms,D,D',n,rfl,hb,hc,W,b6,j6,b2,hn,q]:=h
  exists _,(qd (q9 (qv 1) (zf Z (qh (qg (i:=2) HY.nd Z (Pr Z)) (qh (qg (i:=3) HY.nd Z (Pr Z)) (qh (zf Z (qh (qg (i:=4) HY.nd Z (Pr Z)) (qh (qg (i:=5) HY.nd Z (Pr Z)) (qh (qg (i:=6) HY.nd Z (Pr Z)) qK)))) qK)))))
   (qd (vY (i:=7) (j:=8) Z HY.nd Z Z ⋯ Z Z (qc (qo dA X.mo (qc (qv 0) (qc qf qa))) (qc (qo dA X.mo (qc (qv 0) (qc qf qa))) qa)))
   (qd (q9 (qx qF (qv 3) (qv 8)) (zf Z (qh (qg (i:=9) HY.nd Z (Pr Z)) (qh (qg (i:=10) HY.nd Z (Pr Z)) qK))))
   (qd (vY (i:=11) (j:=12) Z HY.nd Z Z ⋯ Z Z (qc (qx qF (qv 4) (qo dA X.mo (qc (qv 0) (qc (qk qT T.b_len J5 (qc (qv 4) qa)) qa)))) (qc (qo dA X.mo (qc (qv 0) (qc (qv 5) qa))) qa)))
   (qe (qC (QW.pt (bw (qw zu (qv 7) qf (qq _)) (aQ (ou X (qv 11) (zB X (qv 10) qy))))) (qd (zc (zb xO U.cl X.mo (qv 9) (qc (qv 11) qa)))
   (qe (zc (nh (zB X (qv 10) qy) (qv 11))))) (qe (qC (QW.pt (bw (qw bP (qv 7) qf (qq _)) (bw (kh X (qv 11) (zB X (qv 10) qy)) (aQ (qw iX (qv 12) (zB X (qv 10) qy) (qq _)))))) (qe (zc (qo xU X.mo (qc (qv 2) (qc (qv 3) (qc (qv 11) (qc (qx qF (za (qc (za (qc (qu (qc (qv 12) (qc (qr qM (qv 6) qf) qa))) (qc qP qa))) (qc (za (qc qP (qc (qu (qc (qv 12) (qc (qr qM (qv 6) qf) qa))) qa))) qa))) (qv 8)) qa))))))) (qe (qC (qw zu (qv 7) qf (qq _)) (qd (zc (zb dY U.cl X.mo (qv 9) (qc (qv 12) qa)))
   (qe (QL X (qv 10) qy (qk (bJ Z) T.b_max Mp (qc (zB X (qv 10) qy) (qc (qv 12) qa)))))) (qe (qC (QW.pt (bw (qw zu (qv 7) qf (qq _)) (aQ (qw bP (qv 5) qf (qq _))))) (qd (qA (i:=13) HY.nd Z (Pr Z) (QN cM (qo xD X.mo (qc (qv 0) qa)) Zg (Zh qf)))
   (qd (zg JJ Z (zv (qv 3)) (zf Z (qh (qg (i:=9) HY.nd Z (Pr Z)) (qh (qg (i:=10) HY.nd Z (Pr Z)) qK)))
   (qd (zc (zb xH U.cl X.mo (qv 9) (qc (qv 13) qa)))
   (qe (QL X (qv 10) qy (qr qM (qv 5) qf)))))
   (qe (q9 (qu (qc (qu (qc (qx qN (qv 2) qf) (qc (qr sR (qx qN (qv 2) qf) (qu (qc (qv 13) qa))) qa))) (qc (qu (qc (qv 4) (qc (qr qM (qv 5) qf) (qc (qv 6) qa)))) qa))) (cN Z (qh (aZ (qv 1) qf Zd) (qh (aZ (qv 1) qf Zd) qK))))))) (qd (qA (i:=14) HY.nd Z (Pr Z) (qu (qc (qv 11) (qc (qv 12) (qc (qk (Q7 Z) T.b_min RL (qc qf (qc (qr qM (qv 6) (qo dA X.mo (qc (qv 0) (qc qf qa)))) qa))) qa)))))
   (qe (zc (qo yA X.mo (qc (qv 2) (qc (qv 3) (qc (qv 14) (qc (qx qF (za (qc (qu (qc qf (qc qf qa))) (qc (qu (qc qf (qc qf qa))) (qc (qu (qc (qv 8) qa)) qa)))) (qo dA X.mo (qc (qv 0) (qc qf qa)))) qa))))))))))))))))))))
  let#[cd,dr,tb,kt,e3,hC,k5]:=W.ent;let#[L,hL,y0]:=W.e0;let#[L',j3,y1]:=W.e1;have l8:b∉Qn E:=λz=>b6 (Jv _ z)
  have pw:=W.pw y0 y1 hb (λz=>(Jg.mp z).elim j6 l8)
  have few:=W.few;have m1:=few.m1;have m3:=few.m3;have b0:=few.b0;have b1:=few.b1;have l1:=few.l1;have l3:=few.l3;have g0:E.el≠b:=λz=>b6 (z▸Jr ..)
  exists 0,E.el,0,.lst e3,62,dr,0,.tup k5,30
  refine(show f8 _ _ _ [↑(-b),↑(-E.el),↑(-cd),↑(-E.pl),↑(-E.nl),↑(.int (kss.length:Int)),↑(.int J),none,none,none,none,none,none,none,none] H from ?_)
  refine#[0,b,(8),c,Z,hb,by omega,⋯,⋯,λwy H1 w0 w1 g1=>#[0,b,(2),c+1,Z,g1.bx,by omega,⋯,⋯,λpc H2 p0 p1 g2=>?_]]
  have G2:=g1.trans g2;have d2:=pw.grc G2;let#[i,rfl]:∃i:Nat,pc=(i:Int):=#[pc.toNat,by omega]
  have i2:i<2:=by omega
  let#[x,hx]:∃x,[(E.a,D,L),(E.a',D',L')][i]? =↑x:=#[_,Jh (show i<2 from i2)]
  have S:∀(i:Nat) (x:En),[(E.a,D,L),(E.a',D',L')][i]? =↑x->(i=0->x.1=E.a)/\(i=1->x.1=E.a')/\Ny t kss J nms x.2.1/\x.2.2.length<=n:=λi x hx=>by
   match i,hx with
   |0,hx=>cases hx;exact#[λ_=>rfl,λz=>(by cases z),W.s0,hL]
   |1,hx=>cases hx;exact#[λz=>(by cases z),λ_=>rfl,W.s1,j3]
   |k+2,hx=>cases hx
  have e5:=d2.en i x hx;have sx:=(S i x hx).2.2.1;have p3:=(S i x hx).2.2.2;exists _,_,Z,_,Z,_,Z,E.pl,1,HQ.of d2.pe,d2.at hx,x.1.e,0,.tup e5.tu,5
  have d4:H2 E.nl=↑(.lst (nms.map V.str)):=G2.kp _ _ b2.symm W.nl
  refine#[4,E.nl,0,.inl (HQ.of d4),b,13,G2.bx,by omega,by rw[Je];omega,by rw[Je];omega,λxi H3 l7 f9 g3=>?_]
  let#[nm,d1,g6]:∃nm,QK (nms.map V.str) xi=↑(.str nm)/\nm∈nms:=by
   rw[Je]at f9;let#[j,rfl]:∃j:Nat,xi=(j:Int):=#[xi.toNat,by omega]
   have hj:j<nms.length:=by omega
   exact#[nms[j],Qs (by rw[Jo,Jh hj];rfl),IH hj]
  have G3:=G2.trans g3;exists E.nl,1,HQ.of (G3.kp _ _ b2.symm W.nl),d1
  refine#[2,b,13,G3.bx,by omega,by omega,by omega,λN H4 d3 c4 g4=>#[13,?_]]
  have G4:=G3.trans g4;have a8:=pw.grc G4;have O:=a8.en i x hx;have g8:=few.nm nm g6;clear d2 e5 g1 g2 g3 g4 d4 d1 l7 f9;have M4:Mv [b] H H4:=λc o h e=>G4.kp c o (λz=>h (Ji.mpr z)) e
  have e0:=hC.mv M4 (zK hb);have one:∀(Hz:Hp) (F:Dr) (M:Ρ),Mv (eS x.1) H4 Hz->NR K C Hz x.1 F M F->Ny t kss J nms F->M.length<=n+2->Q .non Hz:=λHz F M mz ez sF lM=>by
   have pz:=a8.step hx mz ez;let#[G,G',mv,eF]:=pz.backL37 (m:=n+2) W hb b6 b2 (by rw[Lg];rfl) λk y R=>by
    rw[Kf]at R;split at R
    .rename_i z
     subst z;rw[Jc (show i<[(E.a,D,L),(E.a',D',L')].length from i2)]at R
     cases R
     exact#[(S i x hx).1,(S i x hx).2.1,sF,lM]
    .let#[B,d,I,q4]:=S k y R
     exact#[B,d,I,by omega]
   exact q _ _ _ _ mv (pz.bx.mono (by omega)) eF
  refine(show Ng.nx _ [↑(-b),↑(-E.el),↑(-cd),↑(-E.pl),↑(-E.nl),↑(.int (kss.length:Int)),↑(.int J),↑(.int wy),↑(.int (i:Int)),↑(-x.1.a.p),↑(-x.1.m),↑(.str nm),↑(.int N),none,none] H4 from ?_)
  refine EX (λbb H'=>H'=H4/\(bb=true->x.2.1.kn.lookup nm≠none)) (λQ' hQ=>?_) (λH3 ⟨eH,ht⟩=>?_) (λH3 ⟨eH,_⟩=>?_)
  .exists 3
   refine qZ (λ_=>?_) (λ_=>hQ _ _ #[Z,λz=>nomatch z])
   rcases O.md.kn.get nm with⟨c3,g⟩|⟨e,xx,he,g,_⟩
   .exact#[2,x.1.m,0,O.md.g_known,x.1.kd,0,g,0,hQ _ _ #[Z,λz=>nomatch z]]
   .exact#[2,x.1.m,0,O.md.g_known,x.1.kd,0,g,0,hQ _ _ #[Z,λ_ z=>by rw[he]at z;cases z]]
  .subst eH
   have hk:=ht Z;refine#[0,x.1.a.p,Z,O.dl.dr.no,0,x.1.a,x.2.1,x.2.2,nm,Z,O.dl,by omega,hk,λF r hd Hs ms ds=>?_]
   let#[rfl,rfl]:_=F/\_=r:=by have w:=(Jb hk).symm.trans hd;injection w with w;injection w with w1 w2;exact#[w1,w2]
   have a4:Mv (dS x.1.a) _ _:=ms.mono λc h z=>h (by rcases Jg.mp z with rfl|z;exact uJ _;rw[Ji.mp z];exact mw _)
   have es:=O.door a4 ds;let#[f0,k4,p5,n7,nd]:=id es.md.kn;let#[kvs,d0,n3]:=es.md.kn.drop nm;have ek:kvs=bO f0.1 f0.2:=by rw[k4]at d0;injection d0 with z;injection z with z;exact z.symm
   let#[e,he]:=K9.mp hk;have hv:QY kvs (Pt nm:qJ)=↑(.ref (f0.2 nm)):=by rw[ek,gs,bU n7 nd,he];rfl
   exists 0,x.1.m,0,es.md.g_known,x.1.kd,Z,.inl #[_,.inl d0],0,kvs,.inr nm,_,d0,Z,hv
   have m4:Mv [x.1.kd] Hs (HM Hs x.1.kd (.dK (aI kvs (Pt nm)))):=Mv.upd1
   have a3:Mv [x.1.m,x.1.kd] Hs _:=m4.mono (λc h z=>h (by rw[Ji.mp z];simp))
   exact one _ _ _ ((cE a4).trans (cI a3)) (es.model a3 (es.md.putK m4 n3)) sx.forget (by rw[Jy];simp;omega)
  subst eH;refine ja (λbb H'=>H'=H3/\(bb=true->x.2.1.kn.lookup nm=none/\x.2.1.least<=N)) (λQ' hQ=>?_) (λH4 ⟨eH,ht⟩=>?_) (λH4 ⟨eH,_⟩=>?_)
  .exists 12
   refine qZ (λ_=>?_) (λ_=>hQ _ _ #[Z,λz=>nomatch z])
   rcases O.md.kn.get nm with⟨c3,g⟩|⟨e,xx,he,g,_⟩
   .exists 2,x.1.m,0,O.md.g_known,x.1.kd,0,g,0
    refine qZ (λ_=>?_) (λ_=>hQ _ _ #[Z,λz=>nomatch z])
    exact#[2,x.1.m,0,O.md.g_closed,14,hQ _ _ #[Z,λz=>#[c3,Jz z]]]
   .exact#[2,x.1.m,0,O.md.g_known,x.1.kd,0,g,0,zh (hQ _ _ #[Z,λz=>nomatch z])]
  .subst eH
   let#[c3,o0]:=ht Z;refine#[46,Ho,λt1 g7=>#[Ho,λB a1=>#[16,Ho,λt2 h6=>#[Ho,λd a2=>#[Ho,λql b4=>?_]]]]]
   have v1:=HJ.upd (o:= .tup [.int N,.int (J+5)]) g7
   have v2:=HJ.upd (o:= .lst [-t1,.non]) a1
   have v3:=HJ.upd (o:= .tup [.int N,.int (J+5)]) h6
   have v4:=HJ.upd (o:= .lst [.non,-t2]) a2
   have v5:=HJ.upd (o:= .lst [-B,-d]) b4
   have S5:=(((v1.trans v2).trans v3).trans v4).trans v5;have n1:∀(k:Nat) (y:En),[(E.a,D,L),(E.a',D',L')][k]? =↑y->B∉eS y.1:=λk y R z=>((a8.same v1).en k y R).some z a1
   have n2:∀(k:Nat) (y:En),[(E.a,D,L),(E.a',D',L')][k]? =↑y->d∉eS y.1:=λk y R z=>((((a8.same v1).same v2).same v3).en k y R).some z a2
   have n8:=a8.same S5;have m2:=e0.same S5;have f1:=v5 _ _ (v4 _ _ (v3 _ _ (v2 _ _ (qb (H:=H4) (a:=t1) (o:= .tup [.int N,.int (J+5)])))))
   have f2:=v5 _ _ (v4 _ _ (v3 _ _ (qb (H:=HM H4 t1 (.tup [.int N,.int (J+5)])) (a:=B) (o:= .lst [-t1,.non]))))
   have f3:=v5 _ _ (v4 _ _ (qb (H:=HM (HM H4 t1 (.tup [.int N,.int (J+5)])) B (.lst [-t1,.non])) (a:=t2) (o:= .tup [.int N,.int (J+5)])))
   have f4:=v5 _ _ (qb (H:=HM (HM (HM H4 t1 (.tup [.int N,.int (J+5)])) B (.lst [-t1,.non])) t2 (.tup [.int N,.int (J+5)])) (a:=d) (o:= .lst [.non,-t2]))
   have f5:=qb (H:=HM (HM (HM (HM H4 t1 (.tup [.int N,.int (J+5)])) B (.lst [-t1,.non])) t2 (.tup [.int N,.int (J+5)])) d (.lst [.non,-t2])) (a:=ql) (o:= .lst [-B,-d])
   generalize HM (HM (HM (HM (HM H4 t1 (.tup [.int N,.int (J+5)])) B (.lst [-t1,.non])) t2 (.tup [.int N,.int (J+5)])) d (.lst [.non,-t2])) ql (.lst [-B,-d])=H5 at *
   clear v1 v2 v3 v4 v5 g7 a1 h6 a2 b4;let#[tl,os,d1,k7,o3,ol,o1,o2]:∃(tl:Δ) (os:List (Option (Int×Int))),QK [V.ref B,-d] (i:Int)=↑(-tl)/\NY H5 tl os/\(∀(k:Nat) (y:En),[(E.a,D,L),(E.a',D',L')][k]? =↑y->tl∉eS y.1)/\os.length=2/\(∀k a l,os.getD k none=↑(a,l)->k=i/\a=N/\l=J+5)/\(∀a l,↑(a,l)∈os->a=N/\l=J+5):=by
    match i,i2 with
    |0,_=>
     refine#[B,[↑(N,J+5),none],Z,NY.two f2 #[t1,Z,f1] Z,n1,Z,λk a l h=>?_,λa l h=>?_]
     .match k,h with
      |0,h=>cases h;exact#[40]
      |1,h=>cases h
      |k+2,h=>cases h
     .simp only[Jg,Jt,Ju]at h
      rcases h with h|h
      .cases h;exact#[9]
      .cases h
    |1,_=>
     refine#[d,[none,↑(N,J+5)],Z,NY.two f4 Z #[t2,Z,f3],n2,Z,λk a l h=>?_,λa l h=>?_]
     .match k,h with
      |0,h=>cases h
      |1,h=>cases h;exact#[40]
      |k+2,h=>cases h
     .simp only[Jg,Jt,Ju]at h
      rcases h with h|h
      .cases h
      .cases h;exact#[9]
   exists 0,ql,1,HQ.of f5,d1
   refine#[cd,tb,kt,E.pl,tl,b,_,gY E H,t,kss,_,nm,os,Z,n8,Z,m2,g8,k7,ol,o3,λk y R=>?_,λa l h=>?_,λHn l5 b8 n0 st _=>?_]
   .let#[_,_,s1,s2]:=S k y R
    refine#[s1.lr l3,λa l h=>?_,by have:=s1.few;omega,by omega]
    let#[rfl,rfl,rfl]:=o1 k a l h;rw[hx]at R;cases R
    exact#[o0,c3]
   .let#[rfl,rfl]:=o2 a l h
    exact#[d3,c4,by omega,by omega]
   .let#[G,G',mv,eF]:=b8.backL37 (m:=n+2) W hb b6 b2 st.1 λk y R=>by
     have hk:k<2:=by have:=(Jw.mp R).1;rw[st.1]at this;exact this
     let#[y0,c0]:∃y0,[(E.a,D,L),(E.a',D',L')][k]? =↑y0:=#[_,Jh (show k<2 from hk)]
     let#[M,e,le]:=st.2 k y0 c0;let#[B,d,I,q4]:=S k y0 c0;rw[e]at R;cases R;refine#[B,d,I.lrn l3 g6 λa l h=>?_,by show M.length<=n+2;omega]
     let#[_,rfl,rfl]:=o1 k a l h
     exact#[d3,c4,by omega,by omega,by omega,by omega]
    exact q _ _ _ _ mv (b8.bx.mono (by omega)) eF
  subst eH;refine#[3,qZ (λ_=>?_) (λ_=>?_)]
  .refine#[0,x.1.a.p,Z,O.dl.dr.no,0,x.1.a,x.2.1,x.2.2,N,Z,O.dl,by omega,λF r hd Hs ms ds=>?_]
   cases hd;have a4:=GQ ms;have h5:=O.door a4 ds;have h0:=h5.md;let#[H4',c1,m4,d8]:=h0.close (if N>x.2.1.least then N else x.2.1.least)
   exists 0,x.1.m,0,h0.g_closed,48,x.1.m,H4',Z,c1
   have a3:Mv [x.1.m,x.1.kd] Hs H4':=m4.mono (λc h z=>h (by rw[Ji.mp z];simp))
   exact one _ _ _ ((cE a4).trans (cI a3)) (h5.model a3 d8) (sx.close d3 c4) (by rw[Jy];simp;omega)
  clear one;refine ja (λbb H'=>H'=H4/\(bb=true->kss.length<3)) (λQ' hQ=>?_) (λH5 ⟨eH,ht⟩=>?_) (λH5 ⟨eH,_⟩=>?_)
  .exists 3
   refine qZ (λ_=>?_) (λ_=>hQ _ _ #[Z,λz=>nomatch z])
   exact#[12,hQ _ _ #[Z,λz=>by have:=Jz z;omega]]
  .subst eH
   have k3:=ht Z;refine#[0,b,0,G4.bx,by omega,λp ks Ha ga fp ep dk p2 p4=>#[0,p,0,ep,λy Hb sb R _=>?_]]
   rw[a9]at R;let#[kk,e9]:∃kk,kk=ZS ks none ↑2:=#[0]
   have o7:kk.length<=8:=by rw[e9];rw[BJ];omega
   rw[<- e9]at R;have b3:=(a8.grc ga).same sb;have Mb:Mv [b] H5 Hb:=λc o h e=>sb _ _ (ga.kp c o (λz=>h (Ji.mpr z)) e)
   have d9:=e0.mv Mb (zK G4.bx);clear sb ep fp;refine QM (λk1 H'=>∃xs,Pw K C (gY E H) H' b (c+15) E.pl xs/\xs.length=2/\(∀(k:Nat) (z:En),xs[k]? =↑z->(k=0->z.1=E.a)/\(k=1->z.1=E.a')/\Ny t (kss++[kk]) J nms z.2.1/\z.2.2.length<=n+1)/\NA H' cd tb kt t kss/\H' y=↑(.tup (kk.map V.int))/\∃o9 b5,k1=[↑(-b),↑(-E.el),↑(-cd),↑(-E.pl),↑(-E.nl),↑(.int (kss.length:Int)),↑(.int J),↑(.int wy),↑(.int (i:Int)),o9,b5,↑(.str nm),↑(.int N),↑(-y),none]) (λD0 p6 l4=>?_) ?_
   .exists 0,E.pl,Z,#[_,HQ.of b3.pe]
    refine zQ (K:=K) (a:=E.pl) (xs:=[-E.a.e,-E.a'.e]) (λj σ Hx=>∃xs,Pw K C (gY E H) Hx b (c+15) E.pl xs/\xs.length=2/\(∀(k:Nat) (z:En),xs[k]? =↑z->(k=0->z.1=E.a)/\(k=1->z.1=E.a')/\Ny t (if k<j then kss++[kk]else kss) J nms z.2.1/\z.2.2.length<=n+(if k<j then 1 else 0))/\NA Hx cd tb kt t kss/\Hx y=↑(.tup (kk.map V.int))/\∃o9 b5,σ=[↑(-b),↑(-E.el),↑(-cd),↑(-E.pl),↑(-E.nl),↑(.int (kss.length:Int)),↑(.int J),↑(.int wy),↑(.int (i:Int)),o9,b5,↑(.str nm),↑(.int N),↑(-y),none]) #[_,b3.mono (by omega),Z,λk z Y=>?_,d9,R,13] (λj σ Hx _ h=>?_) ?_ ?_
    .rw[Jb (I1 k),Jb (I1 k)];exact S k z Y
    .let#[xs,p,l2,hq,_]:=h
     let#[x0,x1,rfl]:=iP l2
     have:=p.pe
     rw[show [x0,x1].map (λx:En=>V.ref x.1.e)=[-E.a.e,-E.a'.e] by rw[<- (hq 0 x0 Z).1 Z,<- (hq 1 x1 Z).2.1 Z];rfl]at this
     exact HQ.of this
    .rintro j z σ Hx Y ⟨xs,a7,lx,hq,a5,a6,o9,b5,rfl⟩
     have j2:j<2:=(Jw.mp Y).1
     have ex:=Jh (show j<xs.length by rw[lx];exact j2)
     let#[u,ru]:∃u,u=xs[j]:=#[0]
     rw[<- ru]at ex;let#[h1,h2,h3,h4]:=hq j u ex;rw[Jb (Ia j)]at h3 h4
     obtain rfl:z= .ref u.1.e:=by
      match j,j2,Y,h1,h2 with
      |0,_,Y,h1,_=>cases Y;rw[h1 Z]
      |1,_,Y,_,h2=>cases Y;rw[h2 Z]
     have en:=a7.en j u ex;have c2:u.2.1.kss.length<8:=by rw[h3.hr.ks];omega
     exists u.1.e,0,.tup en.tu,5
     refine#[0,u.1.a.p,Z,en.dl.dr.no,0,u.1.a,u.2.1,u.2.2,y,kk,Z,en.dl,by omega,c2,.inr (.inl a6),o7,λF r hd Hs ms ds=>?_]
     let#[rfl,rfl]:_=F/\_=r:=by have w:=(Jc c2).symm.trans hd;injection w with w;injection w with w1 w2;exact#[w1,w2]
     have a4:Mv (dS u.1.a) Hx Hs:=ms.mono λc h z=>h (by rcases Jg.mp z with rfl|z;exact ux _;rw[Ji.mp z];exact mw _)
     have es:=en.door a4 ds;let#[H4',c1,m4,d8]:=es.md.turn kk;have o8:u.2.1.kss.length=kss.length:=by rw[h3.hr.ks]
     rw[o8]at c1;exists 12,u.1.m,H4',Z,c1
     have a3:Mv [u.1.m,u.1.kd] Hs H4':=m4.mono (λc h z=>h (by rw[Ji.mp z];simp))
     have Mall:Mv (eS u.1) Hx H4':=(cE a4).trans (cI a3)
     have o4:y∉eS u.1:=λz=>by let#[o,e,no]:=en.nt y z;rw[a6]at e;cases e;exact no
     refine#[_,a7.step ex Mall (es.model a3 d8),by rw[Lg];exact lx,λk w hw=>?_,a5.mv Mall en.nt,Mall _ _ o4 a6,13]
     rw[Kf]at hw;split at hw
     .rename_i z
      subst z;rw[Jc (by rw[lx];exact j2)]at hw
      cases hw;rw[Jc (G0 j),Jc (G0 j)]
      exact#[h1,h2,h3.turn k3,by show(u.2.2++[_]).length<=n+1;rw[Jy];simp;omega]
     .rename_i z
      let#[w1,w2,w3,w4]:=hq k w hw;have e1:(k<j+1)=(k<j):=propext #[λh=>by omega,λh=>by omega]
      simp only[e1]
      exact#[w1,w2,w3,w4]
    .rintro σ Hx ⟨xs,a7,lx,hq,a5,a6,o9,b5,rfl⟩
     refine l4 _ _ #[xs,a7,lx,λk z Y=>?_,a5,a6,13]
     have hk:k<2:=by rw[<- lx];exact(Jw.mp Y).1
     have:=hq k z Y
     rw[Jc (show k<[V.ref E.a.e,-E.a'.e].length from hk),Jc (show k<[V.ref E.a.e,-E.a'.e].length from hk)]at this
     exact this
   rintro σ Hx ⟨xs,a7,lx,hq,a5,a6,o9,b5,rfl⟩
   let#[as,o6,d6,c2]:=id a5.ks;refine#[0,cd,1,HX.of a5.e,8,cd,1,HX.of a5.e,8,Hl,λB a1=>?_]
   have u1:=HJ.upd (o:= .tup [-y]) a1
   have n4:as.map V.ref≠[]:=λz=>by
    cases as with
    |nil=>have:0=kss.length:=d6;omega
    |cons _ _=>cases z
   refine#[kt,B,as.map V.ref,[V.ref y],9,(HJ.sqt u1 o6).up,HX.of qb,n4,by rw[Je,d6,JD];simp;omega,(λz=>nomatch z),λ_ d a2=>#[Ho,λI b7=>#[35,Ht,λq4 h7=>#[Ho,λq5 e8=>?_]]]]
   have u2:=HJ.upd (o:= .tup (as.map V.ref++[-y])) a2
   have u3:=HJ.upd (o:= .tup [-tb,-d]) b7
   have u4:=HJ.upd (o:= .tup [-E.nl,.int ((kss.length:Int)+1),.int J]) h7
   have u5:=HJ.upd (o:= .tup [-I,-q4]) e8
   have U:=(((u1.trans u2).trans u3).trans u4).trans u5;have g2:=u5 _ _ (u4 _ _ (u3 _ _ (qb (H:=HM Hx B (.tup [-y])) (a:=d) (o:= .tup (as.map V.ref++[-y])))))
   have g3:=u5 _ _ (u4 _ _ (qb (H:=HM (HM Hx B (.tup [-y])) d (.tup (as.map V.ref++[-y]))) (a:=I) (o:= .tup [-tb,-d])))
   have g4:=u5 _ _ (qb (H:=HM (HM (HM Hx B (.tup [-y])) d (.tup (as.map V.ref++[-y]))) I (.tup [-tb,-d])) (a:=q4) (o:= .tup [-E.nl,.int ((kss.length:Int)+1),.int J]))
   have g5:=qb (H:=HM (HM (HM (HM Hx B (.tup [-y])) d (.tup (as.map V.ref++[-y]))) I (.tup [-tb,-d])) q4 (.tup [-E.nl,.int ((kss.length:Int)+1),.int J])) (a:=q5) (o:= .tup [-I,-q4])
   have d7:=a7.same U;have o5:=a5.same U;have k2:=U _ _ a6;have Mx:Mv (b::Qn E) H Hx:=a7.mvL37 W lx λk z Y=>#[(hq k z Y).1,(hq k z Y).2.1]
   generalize HM (HM (HM (HM (HM Hx B (.tup [-y])) d (.tup (as.map V.ref++[-y]))) I (.tup [-tb,-d])) q4 (.tup [-E.nl,.int ((kss.length:Int)+1),.int J])) q5 (.tup [-I,-q4])=H6 at *
   clear u1 u2 u3 u4 u5 a1 a2 b7 h7 e8;have h8:E.el∉b::Qn E:=λz=>(Jg.mp z).elim g0 W.ne
   have e6:E.nl∉b::Qn E:=λz=>(Jg.mp z).elim b2.symm W.nn
   have M6:Mv (b::Qn E) H H6:=λc o h e=>U _ _ (Mx c o h e)
   have d5:=M6 _ _ h8 e3;exists q5,0,HX.of g5,56,E.el,_,(0),(0),9,d5,56,E.el,_,(2),(2),9,qb,9
   show Q .non (HM (HM H6 E.el (.lst [-I,-E.pl,-dr])) E.el (.lst [-I,-E.pl,-q4]))
   have m7:Mv [E.el] H6 (HM (HM H6 E.el (.lst [-I,-E.pl,-dr])) E.el (.lst [-I,-E.pl,-q4])):=Mv.upd1.trans Mv.upd1
   have N7:NT [E.el] H6:=NT.one d5 trivial
   have e7:(HM (HM H6 E.el (.lst [-I,-E.pl,-dr])) E.el (.lst [-I,-E.pl,-q4])) E.el=↑(.lst [-I,-E.pl,-q4]):=qb
   generalize HM (HM H6 E.el (.lst [-I,-E.pl,-dr])) E.el (.lst [-I,-E.pl,-q4])=H7 at *
   have lk:(kss++[kk]).length=kss.length+1:=by rw[Jy];rfl
   have m6:NA H7 I tb d t (kss++[kk]):=(show NA H6 I tb d t (kss++[kk])from#[g3,o5.tb,as++[y],HX.of (by rw[JI];exact g2),by rw[Jy,lk,d6];rfl,λj x z e1 e2=>by
    by_cases hj:j<as.length
    .rw[J3 hj]at e1
     rw[J3 (by omega)]at e2
     exact HJ.sqt U (c2 j x z e1 e2)
    .rw[J9 (by omega)]at e1
     rw[J9 (by omega)]at e2
     cases ej:j-as.length with
     |zero=>rw[ej]at e1;rw[show j-kss.length=0 by omega]at e2;cases e1;cases e2;exact HX.of k2
     |succ k=>rw[ej]at e1;cases e1]).mv m7 N7
   let#[F,F',eF]:=EL (m:=n+2) (kss':=kss++[kk]) (m7 _ _ (qQ W.np') d7.pe) (λk z Y=>(d7.en k z Y).mv m7 N7 λv hv w=>by
    rw[Ji.mp w]at hv;have hk:k<2:=by rw[<- lx];exact(Jw.mp Y).1
    let#[h1,h2,_]:=hq k z Y
    match k,hk,h1,h2 with
    |0,_,h1,_=>rw[h1 Z]at hv;exact W.ne (iQ hv)
    |1,_,_,h2=>rw[h2 Z]at hv;exact W.ne (mn hv)) W lx (λk z Y=>by let#[h1,h2,h3,h4]:=hq k z Y;exact#[h1,h2,h3,by omega]) #[I,q4,tb,d,e7,m6,m7.tup N7 (by rw[lk];exact g4)] (m7 _ _ (qQ W.nn') (M6 _ _ e6 W.nl)) #[few.nd,few.nm,l1,l3,by omega,by omega,b0,b1]
   refine q _ _ _ _ (λc o h e=>m7 _ _ (qQ λz=>h (z▸Jv _ (Jr ..))) (M6 _ _ (λz=>h ((Jg.mp z).elim (λz=>z▸Jr ..) λz=>Jv _ (Jv _ z))) e)) ?_ eF
   let#[x1,x2,x3,ex,rx]:=d7.bx.mono (show c+15<=c+20 by omega)
   exact#[x1,x2,x3,m7 _ _ (qQ g0.symm) ex,rx]
  .subst eH
   refine#[10,b,(16),0,G4.bx,by omega,⋯,⋯,λr Ha r0 r1 ga=>#[51,Ht,λp hp=>?_]]
   let#[m,em]:∃m,m=(if J+r<4095 then J+r else 4095):=#[0]
   have mb:0<=m/\m<4096/\m<=J+15:=by rw[em];split<;>omega
   rw[<- em]at *
   have u1:=HJ.upd (o:= .tup [.str nm,.int N,.int m]) hp
   have h9:=(a8.grc ga).same u1;have Ma:Mv [b] H5 (HM Ha p (.tup [.str nm,.int N,.int m])):=λc o h e=>u1 _ _ (ga.kp c o (λz=>h (Ji.mpr z)) e)
   have n6:=e0.mv Ma (zK G4.bx);have ep:(HM Ha p (.tup [.str nm,.int N,.int m])) p=↑(.tup [.str nm,.int N,.int m]):=qb
   generalize HM Ha p (.tup [.str nm,.int N,.int m])=Hb at *
   refine#[4,Ho,λB a1=>#[Ho,λd a2=>#[0,Hl,λI b7=>#[Ht,λql b4=>?_]]]]
   have v1:=HJ.upd (o:= .tup [.int 0,.int 1]) a1
   have v2:=HJ.upd (o:= .tup [.int 0,.int 1]) a2
   have v3:=HJ.upd (o:= .tup [.int (i:Int)]) b7
   have v4:=HJ.upd (o:= .lst [-B,-d,-I]) b4
   have S4:=((v1.trans v2).trans v3).trans v4;have f1:=v4 _ _ (v3 _ _ (v2 _ _ (qb (H:=Hb) (a:=B) (o:= .tup [.int 0,.int 1]))))
   have f2:=v4 _ _ (v3 _ _ (qb (H:=HM Hb B (.tup [.int 0,.int 1])) (a:=d) (o:= .tup [.int 0,.int 1])))
   have f3:=v4 _ _ (qb (H:=HM (HM Hb B (.tup [.int 0,.int 1])) d (.tup [.int 0,.int 1])) (a:=I) (o:= .tup [.int (i:Int)]))
   have f4:=qb (H:=HM (HM (HM Hb B (.tup [.int 0,.int 1])) d (.tup [.int 0,.int 1])) I (.tup [.int (i:Int)])) (a:=ql) (o:= .lst [-B,-d,-I])
   have m5:=zJ (h9.same ((v1.trans v2).trans v3)).bx b4;have b3:=h9.same S4;have d9:=n6.same S4;have j1:=S4 _ _ ep;generalize HM (HM (HM (HM Hb B (.tup [.int 0,.int 1])) d (.tup [.int 0,.int 1])) I (.tup [.int (i:Int)])) ql (.lst [-B,-d,-I])=Hc at *
   clear v1 v2 v3 v4 a1 a2 b7 b4 S4;refine#[0,b,(3),0,b3.bx,by omega,⋯,⋯,λr2 Hd l6 i1 gd=>?_]
   let#[v,hv,e4]:=Z0 (xs:=[V.ref B,-d,-I]) l6 i1
   have Md:Mv [b] Hc Hd:=λc o h e=>gd.kp c o (λz=>h (Ji.mpr z)) e
   have Nd:=zK b3.bx;have k0:=b3.grc gd;have m8:=d9.mv Md Nd;let#[ps,is,rfl,l0,k8,m0]:∃(ps:Δ) (is:Κ),v= .ref ps/\Hd ps=↑(.tup (is.map λi:Nat=>V.int (i:Int)))/\is.Nodup/\∀k∈is,k<2:=by
    simp only[Jg,Jt,Ju]at e4;have two:([0,1]:Κ).Nodup/\∀k∈([0,1]:Κ),k<2:=by decide
    rcases e4 with rfl|rfl|rfl
    .exact#[B,[0,1],Z,Md.tup Nd f1,two]
    .exact#[d,[0,1],Z,Md.tup Nd f2,two]
    .exact#[I,[i],Z,Md.tup Nd f3,IG.mpr #[Jt,LK],λk hk=>by rw[Ji.mp hk];exact i2]
   exists ql,1,HQ.of (gd.kp _ _ m5 f4),hv
   refine#[cd,tb,kt,E.pl,p,ps,b,_,gY E H,t,kss,_,nm,N,m,is,Z,k0,Z,m8,g8,d3,c4,mb.1,mb.2.1,Md.tup Nd j1,.inl l0,k8,m0,λk y R=>?_,λHn l5 b8 n0 st=>?_]
   .let#[_,_,s1,s2]:=S k y R
    exact#[s1.hr,by omega]
   .let#[G,G',mv,eF]:=b8.backL37 (m:=n+2) W hb b6 b2 st.1 λk y R=>by
     have hk:k<2:=by have:=(Jw.mp R).1;rw[st.1]at this;exact this
     let#[y0,c0]:∃y0,[(E.a,D,L),(E.a',D',L')][k]? =↑y0:=#[_,Jh (show k<2 from hk)]
     let#[M,e,le]:=st.2 k y0 c0;let#[B,d,I,q4]:=S k y0 c0;rw[e]at R;cases R;refine#[B,d,?_,by show M.length<=n+2;omega]
     show Ny t kss J nms (if k∈is then _ else _)
     split
     .exact I.hear mb.1 mb.2.1 mb.2.2
     .exact I
    exact q _ _ _ _ mv (b8.bx.mono (by omega)) eF
def me(a:At K mg "_law_bounds" bp ["_law_box_here"])(T:MW K mg tk)(e:Df P w K mg base "_law_take" q0 1 Zf):Df P w K mg base "_law_bounds" X4 2 lp:=by
 refine a.dq Nq λf _ A _ s H vs Q E g h=>?_
 .let#[b,c,rfl,hb,hc,q]:=h
  exists _,(qd (qA (i:=1) Nq.nd Z (Pr Z) (qr qM qf (qo e g.mo (qc (qv 0) (qc qf qa)))))
   (qd (qA (i:=2) Nq.nd Z (Pr Z) (qr qM (qv 1) (qx qF (za (qc qf (qc qf (qc qf (qc (qo e g.mo (qc (qv 0) (qc qf qa))) qa))))) (qo e g.mo (qc (qv 0) (qc qf qa))))))
   (qd (qA (i:=3) Nq.nd Z (Pr Z) (qx qF (za (qc (qv 1) (qc (qv 1) (qc (qr qM qf (qo e g.mo (qc (qv 0) (qc qf qa)))) qa)))) (qo e g.mo (qc (qv 0) (qc qf qa)))))
   (qe (qj (za (qc (qu (qc (qv 1) (qc (qv 2) qa))) (qc (qu (qc (qv 3) (qc (qr qM (qv 3) (qx qF (za (qc (qr Qu (qv 2) (qv 1)) (qc qf (qc qf (qc (qo e g.mo (qc (qv 0) (qc qf qa))) qa))))) (qo e g.mo (qc (qv 0) (qc qf qa))))) qa))) qa))))))))
  refine#[0,b,(4),c,Z,hb,by omega,⋯,⋯,λd H1 b3 a7 g1=>#[6,?_]]
  refine#[2,b,(9),c+1,Z,g1.bx,by omega,⋯,⋯,λr2 H2 b0 a5 g2=>#[Hu,λl1 m=>?_]]
  have u2:=HJ.upd (o:= .lst [.int 0,.int 1,.int 2,.int r2]) m
  have D:=(g1.trans g2).same u2;have n1:=zJ g2.bx m;refine#[0,b,(4),c+1+1,Z,D.bx,by omega,⋯,⋯,λr3 H3 a1 W g3=>?_]
  let#[x,hx,hm]:=Z0 (xs:=[V.int 0,.int 1,.int 2,.int r2]) a1 W
  let#[z,rfl,z0,z1]:∃z:Int,x= .int z/\0<=z/\z<=8:=by
   simp only[Jg,Jt,Ju]at hm;rcases hm with rfl|rfl|rfl|rfl
   .exact#[0,by omega,by omega]
   .exact#[0,by omega,by omega]
   .exact#[0,by omega,by omega]
   .exact#[0,by omega,by omega]
  have n:=D.trans g3;exists l1,1,HQ.of (g3.kp _ _ n1 qb),hx,6
  refine#[4,b,(4),c+1+1+1,Z,n.bx,by omega,⋯,⋯,λr4 H4 b2 a6 g4=>#[6,Ht,λl2 C=>?_]]
  have u4:=HJ.upd (o:= .lst [.int (1+d),.int (1+d),.int (1+r4)]) C
  have B:=(n.trans g4).same u4;have n2:=zJ g4.bx C;refine#[0,b,(3),c+1+1+1+1,Z,B.bx,by omega,⋯,⋯,λr5 H5 R a3 g5=>?_]
  let#[x2,a2,t]:=Z0 (xs:=[V.int (1+d),.int (1+d),.int (1+r4)]) R a3
  let#[o,rfl,o0,o1]:∃o:Int,x2= .int o/\1<=o/\o<=4:=by
   simp only[Jg,Jt,Ju]at t;rcases t with rfl|rfl|rfl
   .exact#[0,by omega,by omega]
   .exact#[0,by omega,by omega]
   .exact#[0,by omega,by omega]
  have I:=B.trans g5;exists l2,1,HQ.of (g5.kp _ _ n2 qb),a2
  refine#[2,Ho,λu F=>?_]
  have u6:=HJ.upd (o:= .tup [.int (1+d),.int (1+d+z)]) F
  have J:=I.same u6;have p:=zJ I.bx F;have N:(HM H5 u (.tup [.int (1+d),.int (1+d+z)])) u=↑(.tup [.int (1+d),.int (1+d+z)]):=qb
  generalize HM H5 u (.tup [.int (1+d),.int (1+d+z)])=H6 at *
  refine#[47,b,(9),c+1+1+1+1+1,Z,J.bx,by omega,⋯,⋯,λr6 H7 b1 a8 S=>#[Hu,λl3 L=>?_]]
  have u7:=HJ.upd (o:= .lst [.int (1+d+z-(1+d)),.int 0,.int 1,.int r6]) L
  have r:=(J.trans S).same u7;have n3:=zJ S.bx L;refine#[0,b,(4),c+1+1+1+1+1+1,Z,r.bx,by omega,⋯,⋯,λr7 H8 O X U=>?_]
  let#[x3,M,v]:=Z0 (xs:=[V.int (1+d+z-(1+d)),.int 0,.int 1,.int r6]) O X
  let#[y,rfl,y0,y1]:∃y:Int,x3= .int y/\0<=y/\y<=8:=by
   simp only[Jg,Jt,Ju]at v;rcases v with rfl|rfl|rfl|rfl
   .exact#[0,by omega,by omega]
   .exact#[0,by omega,by omega]
   .exact#[0,by omega,by omega]
   .exact#[0,by omega,by omega]
  have j:=r.trans U;refine#[l3,1,HQ.of (U.kp _ _ n3 qb),M,6,Ho,λt2 a4=>#[Ho,λl hl=>?_]]
  have v1:=HJ.upd (o:= .tup [.int o,.int (o+y)]) a4
  have Y:=HJ.upd (o:= .lst [-u,-t2]) hl
  have G:=(j.same v1).same Y;have e1:=Y _ _ (v1 _ _ (U.kp _ _ p (u7 _ _ (S.kp _ _ p N))));exact q l u t2 (1+d) (1+d+z) o (o+y) _ G qb e1 (Y _ _ qb) #[by omega,by omega,by omega,by omega] #[by omega,by omega,by omega,by omega] ((j.same v1).fresh (hb.mono (by omega)) hl)
def AN(h:OJ H n x y):OJ H (n+1) x y:=by
 induction h with
 |int n i=>exact .int _ i
 |str n x=>exact .str _ x
 |non n=>exact .non _
 |tup h1 h2 hl hz _ ih=>exact .tup h1 h2 hl hz ih
 |lst h1 h2 hl hz _ ih=>exact .lst h1 h2 hl hz ih
def ik(h:N4 H v o):decide (v= .non)=o.isNone:=by
 cases o with
 |none=>rw[show v= .non from h];exact Jj Z
 |some r=>let#[t,a,rfl,_]:=h;exact Jn (λz=>nomatch z)
def nK(a:At K mg "_law_right" cg ["_law_box_here","_law_entry"])(T:MW K mg tk)(U:ND K C)(dA:Df P w K mg base "_law_take" q0 1 Zf)(dG:Df P w K mg base "_law_word" w6 1 cD)(dH:Df P w K mg base "_law_window" V5 1 (bM 30))(xF:Df P w K mg base "_law_one" X3 2 (mM 30))(yN:Df P w K mg base "_law_two" X3 3 (vO 30))(dO:Df P w K mg base "telling" W6 6 (iN K C))(yR:Df P w K mg base "agree" W6 7 (rQ K C))(xJ:Df P w K mg base "shows_telling" ["one","other","row"] 5 (tm K C))(yH:Df P w K mg base "opens_at" ["door","name","age"] 4 (tN K C))(yV:∀n:Nat,n<=8->Df P w K mg base "_law_alike" W3 (n+1) (EV n))(yP:Df P w K mg base "_law_is" W3 1 xu):Df P w K mg base "_law_right" X7 9 (k6 K C):=by
 have dU:=yV 3 ⋯
 refine a.dq HU λf _ A _ s H vs Q E O h=>?_
 .let#[E,b,c,t,kss,F,nms,D,D',n,rfl,hb,hc,m,d9,g7,c1,q]:=h
  exists _,(qd (q9 (qv 1) (zf Z (qh (qg (i:=2) HU.nd Z (Pr Z)) (qh (qg (i:=3) HU.nd Z (Pr Z)) (qh (qg (i:=4) HU.nd Z (Pr Z)) qK)))))
   (qd (q9 (qv 3) (zf Z (qh (zf Z (qh (qg (i:=5) HU.nd Z (Pr Z)) (qh (qg (i:=6) HU.nd Z (SV Z)) qK))) (qh (zf Z (qh (qg (i:=7) HU.nd Z (Pr Z)) (qh (qg (i:=8) HU.nd Z (Pr Z)) qK))) qK))))
   (qd (qA (i:=9) HU.nd Z (Pr Z) (qo xF O.mo (qc (za (qc (qv 6) (qc (qv 8) qa))) (qc (qv 4) qa))))
   (qd (qC (qw zX (qv 9) qP (qq _)) (qe (qA (i:=9) HU.nd Z (Pr Z) (qo yN O.mo (qc (za (qc (qv 6) (qc (qv 8) qa))) (qc (qv 4) qa))))) qt)
   (qd (qC (Ql (zk (qo dU O.mo (qc (qo dO O.mo (qc (qv 5) (qc (qv 7) qa))) (qc (qv 9) qa))))) (qe (qj Ze)) qt)
   (qd (qC (Ql (zk (qo yP O.mo (qc (qo yR O.mo (qc (qv 5) (qc (qv 7) qa))) (qc (ze zX (qv 9) qP (qq _)) qa))))) (qe (qj Ze)) qt)
   (qd (qC (QW.pt (bw (qw Z1 (qv 9) qP (qq _)) (aQ (qw rB (qo xJ O.mo (qc (qv 5) (qc (qv 7) (qc (qv 9) qa)))) Ze (qq _))))) (qe (qj Ze)) qt)
   (qd (q9 (qu (qc (qx qF (qx qN (qv 4) qf) (qo dA O.mo (qc (qv 0) (qc (qk qT T.b_len J5 (qc (qx qN (qv 4) qf) qa)) qa)))) (qc (qo dA O.mo (qc (qv 0) (qc (qx qN (qv 4) qf) qa))) qa))) (cN Z (qh (qg (i:=10) HU.nd Z (SV Z)) (qh (qg (i:=11) HU.nd Z (SV Z)) qK))))
   (qd (qA (i:=12) HU.nd Z (Pr Z) (qo yH O.mo (qc (qv 5) (qc (qv 10) (qc (qv 11) qa)))))
   (qd (AM (i:=13) HU.nd Z (Pr Z) (own:=["_law_count"]) (fr:=["_law_name","_law_here","_law_age"]) (js:=[10,6,11]) Z (zv (qo dH O.mo (qc (qx qN (qv 4) qf) qa))) Z (Fh Z Z Z) Z (EH Z nofun nofun nofun Z Z Z Z Z Z Z Z Z) (λ_ _ _ _=>qg (i:=0) (show P4 (["_law_count","_law_name","_law_here","_law_age"]:Α)from by decide +kernel) Z (Pr Z) (.inr Z)) (λ_ _ _ _=>(qw zu (qo dG O.mo (qc (qv 2) (qc (qu (qc (qv 1) (qc (qv 3) (qc (qv 0) qa)))) qa))) qy (qq _))) (λ_ _ _ _=>(qv 0)))
   (qd (qA (i:=14) HU.nd Z (Pr Z) (za qa))
   (qd (zg JJ Z (ao (qv 12)) (zf Z (qh (qg (i:=15) HU.nd Z (Pr Z)) (qh (qg (i:=16) HU.nd Z (Pr Z)) qK)))
   (qe (zc (Q1 Il PySem.F.slot_list_extend PySem.F.type_list_extend rg (qv 14) (qc (qI (gU Z) T.b_list Ig (qc (qI km T.b_range SD (qc (qv 15) (qc (qr qM (qv 16) qf) qa))) qa)) qa)))))
   (qe (qj (ze (Eb (FS O)) (qv 14) (qv 13) (qq _))))))))))))))))
  let#[cd,X,tb,kt,d3,hC,I]:=m.ent;let#[L,hL,y0]:=m.e0;let#[L',g6,y1]:=m.e1;have few:=m.few;have m1:=few.m1;have m3:=few.m3;have b0:=few.b0;have b1:=few.b1;have l1:=few.l1;have l3:=few.l3;have g:=m.s0.td l3;have B:=m.s1.td l3;have k0:=m.s0.hr.ks;have xd:Ra D D':=Ra.narrow (by have:=m.s0.dn.nf;have:=m.s0.f12;omega) (by have:=m.s1.dn.nf;have:=m.s1.f12;omega)
  exists 0,E.el,0,.lst d3,7
  exists 0,E.pl,0,.lst m.pl,31,E.a.e,0,.tup y0.tu,57,E.a'.e,0,.tup y1.tu,64
  refine(show f8 _ _ _ [↑(-b),↑(-E.el),↑(-cd),↑(-E.pl),↑(-X),↑(-E.a.a.p),↑(-E.a.m),↑(-E.a'.a.p),↑(-E.a'.m),none,none,none,none,none,none,none,none] H from ?_)
  refine#[2,Ho,λol a6=>?_]
  have uo:=HJ.upd (o:= .lst [-E.a.m,-E.a'.m]) a6
  refine#[0,ol,E.a.m,E.a.kd,E.a'.m,E.a'.kd,X,E.nl,D,D',nms,kss.length,F,Z,qb,y0.md.same uo,y1.md.same uo,uo _ _ I,uo _ _ m.nl,by omega,by omega,b0,by omega,λu ms Hd sd pm so tl=>?_]
  have Sd:=uo.trans sd;have due:=m.s0.due m.s1 l3 b0 b1 ms;refine QM (λS H'=>∃v,HJ H H'/\N4 H' v (zE D D' ms)/\S=[↑(-b),↑(-E.el),↑(-cd),↑(-E.pl),↑(-X),↑(-E.a.a.p),↑(-E.a.m),↑(-E.a'.a.p),↑(-E.a'.m),↑v,none,none,none,none,none,none,none]) (λD0 b4 J=>?_) ?_
  .cases ef:ms.findSome? (Qd D D' kss.length F (zd 30 F))with
   |some r=>
    rw[ef]at tl due;refine#[3,qZ (λy=>?_) (λ_=>J _ _ #[u,Sd,by rw[due];exact tl,Z])]
    rw[ik (o:=↑r) tl]at y
    cases y
   |none=>
    rw[ef]at tl due;refine#[3,qZ (λ_=>?_) (λy=>absurd (by rw[ik (o:=none) tl];rfl) y)]
    refine#[2,Ho,λg0 b3=>?_]
    have d7:=HJ.upd (o:= .lst [-E.a.m,-E.a'.m]) b3
    have S2:=Sd.trans d7;refine#[0,g0,E.a.m,E.a.kd,E.a'.m,E.a'.kd,X,E.nl,D,D',nms,kss.length,F,Z,qb,y0.md.same S2,y1.md.same S2,g.ok,B.ok,g.dn.nf,B.dn.nf,S2 _ _ I,S2 _ _ m.nl,by omega,by omega,b0,by omega,λu2 g1 He se f3 d2 d1=>?_]
    obtain rfl:ms=g1:=hV pm so f3 d2
    exact J _ _ #[u2,S2.trans se,by rw[due];exact d1,Z]
  clear tl sd uo a6 Sd due
  rintro σ He ⟨u,Se,tl,rfl⟩
  have a2:∀{a1:Α},a1.Nodup->PyProof.Rows.sortedS a1=true->(∀k,k∈a1↔k∈D.kn.map (·.1)\/k∈D'.kn.map (·.1))->zE D D' a1=zE D D' ms:=λn2 s2 m2=>Bp n2 (pm.nodup_iff.mpr few.nd) s2 so m2 λk hk=>pm.mem_iff.mpr (hk.elim (m.s0.sub k) (m.s1.sub k))
  have a8:∀r,zE D D' ms=↑r->r.length<=2:=λr h=>DM h
  have sh:∀r,zE D D' ms=↑r->ZP D D' r=true/\r≠[]/\r.length<=2:=λr h=>tW g.ok B.ok g.dn B.dn g.kn B.kn h
  generalize zE D D' ms=o at *
  refine#[2,E.a.a.p,E.a.a.ta,E.a.a.hk,E.a.a.bd,E.a.a.lg,_,D,E.a'.a.p,E.a'.a.ta,E.a'.a.hk,E.a'.a.bd,E.a'.a.lg,_,D',Z,y0.dl.dr.same Se,y1.dl.dr.same Se,g,B,xd,λv g5 Hf sf d4 b7 c0 tv=>?_]
  rw[a2 d4 c0 b7]at tv;have tl:=tl.same sf;refine#[_,Z,_,_,Z,AN (tv.eqw tl a8),λHg sg=>#[0,zh ?_]]
  have Sg:=(Se.trans sf).trans sg;refine#[2,E.a.a.p,E.a.a.ta,E.a.a.hk,E.a.a.bd,E.a.a.lg,_,D,E.a'.a.p,E.a'.a.ta,E.a'.a.hk,E.a'.a.bd,E.a'.a.lg,_,D',Z,y0.dl.dr.same Sg,y1.dl.dr.same Sg,g,B,xd,λa1 Hi si f9 a4 c2=>#[41,o.isNone,?_,?_]]
  .rw[a2 f9 c2 a4,ik (tl.same sg)];rfl
  refine#[0,zh ?_]
  have Si:=Sg.trans si;have M:=(tl.same sg).same si;clear tv tl sf sg si;refine DT (λS H'=>HJ H H'/\S=[↑(-b),↑(-E.el),↑(-cd),↑(-E.pl),↑(-X),↑(-E.a.a.p),↑(-E.a.m),↑(-E.a'.a.p),↑(-E.a'.m),↑u,none,none,none,none,none,none,none]) (λD0 b4 J=>?_) ?_
  .refine ja (λbb H'=>bb=false/\HJ H H') (λQ' hQ=>?_) (λH' e=>nomatch e.1) (λH' e=>J _ _ #[e.2,Z])
   cases o with
   |none=>
    have M:u= .non:=M
    subst M
    exact#[3,QC Z (hQ _ _ #[Z,Si])]
   |some r=>
    let#[sr,c3,r2]:=sh r Z;have rv:=Rb.of M;let#[t0,h2,rfl,_]:=id M;refine#[3,Qp Z ?_]
    refine#[4,E.a.a.p,E.a.a.ta,E.a.a.hk,E.a.a.bd,E.a.a.lg,_,D,E.a'.a.p,E.a'.a.ta,E.a'.a.hk,E.a'.a.bd,E.a'.a.lg,_,D',_,r,Z,y0.dl.dr.same Si,y1.dl.dr.same Si,g.ok,B.ok,g.dn.nf,B.dn.nf,rv,by omega,c3,λH6 s6=>?_]
    rw[sr]
    exact#[14,hQ _ _ #[Z,Si.trans s6]]
  clear M Si Sg a8 sh a2 pm so
  rintro σ Hj ⟨Sj,rfl⟩
  have Mj:Mv [b] H Hj:=λx o _ e=>Sj x o e
  have b2:=(Sj.grc hb);exists 0,X,1,HX.of (Sj _ _ I),Z
  have e6:=Sj _ _ m.nl;refine#[2,X,1,HX.of (Sj _ _ I),Z,E.nl,0,.inl (HQ.of e6),b,13,b2.bx,by omega,by rw[Je];omega,by rw[Je];omega,λxi H3 h1 d8 g3=>?_]
  let#[nm,e4,h3]:∃nm,QK (nms.map V.str) xi=↑(.str nm)/\nm∈nms:=by
   rw[Je]at d8;let#[j,rfl]:∃j:Nat,xi=(j:Int):=#[xi.toNat,by omega]
   have hj:j<nms.length:=by omega
   exact#[nms[j],Qs (by rw[Jo,Jh hj];rfl),IH hj]
  have G3:=b2.trans g3;have M3:Mv [b] H H3:=λc o h e=>G3.kp c o (λz=>h (Ji.mpr z)) e
  have N:=zK hb;exists E.nl,1,HQ.of (M3 _ _ (qQ c1.symm) m.nl),e4
  refine#[2,X,1,HX.of (M3.tup N I),Z,b,kss.length,0,G3.bx,by omega,by omega,by omega,λd H4 h4 h0 g4=>#[Ho,λq5 d6=>?_]]
  have u5:=HJ.upd (o:= .tup [.str nm,.int d]) d6
  have G4:=(G3.trans g4).same u5;have e5:(HM H4 q5 (.tup [.str nm,.int d])) q5=↑(.tup [.str nm,.int d]):=qb
  generalize HM H4 q5 (.tup [.str nm,.int d])=H5 at *
  have M5:Mv [b] H H5:=λc o h e=>G4.kp c o (λz=>h (Ji.mpr z)) e
  exists q5,0,HX.of e5,5
  have nb:∀z∈eS E.a,z∉[b]:=λz hz w=>d9 (Ji.mp w▸Jv _ (iQ hz))
  have y5:=y0.mv M5 N nb;have b8:=M5.tup N I;refine#[4,E.a.a.p,E.a.a.ta,E.a.a.hk,E.a.a.bd,E.a.a.lg,_,D,nm,d,Z,y5.dl.dr,λt1 H6 s6 pr=>?_]
  refine#[0,X,1,HX.of (s6 _ _ b8),Z,F,Z,b0,by omega,λwl H7 s7 e7=>#[wl,Z,#[_,HQ.of e7],?_]]
  have a5:=pr.same s7;have f5:=(y5.md.same s6).same s7;have G7:=(G4.same s6).same s7;have lw:(Qq F (zd 30 F)).length=zd 30 F:=by unfold Qq;rw[Je,E1]
  have wn:zd 30 F<=41:=by unfold zd;split<;>omega
  refine vh (K:=K) (a:=wl) (xs:=Qq F (zd 30 F)) (by rw[lw,JD];omega) (λi ys Hx=>HJ H7 Hx/\ys=((((Ag i).map λi:Nat=>F+(i:Int)).filter λc=>decide (qE D nm d c="open")).map V.int)) #[HJ.refl _,Z] (λi ys Hx h=>HQ.of (h.1 _ _ e7)) ?_ ?_
  .rintro i ys Hx z hz ⟨sx,rfl⟩
   let#[rfl,g8]:=jL hz;have step:((Ag (i+1)).map λi:Nat=>F+(i:Int))=((Ag i).map λi:Nat=>F+(i:Int))++[F+(i:Int)]:=by rw[Kh,JI];rfl
   refine#[10,Ht,λpp d5=>?_]
   have up:=HJ.upd (o:= .tup [.str nm,.int d,.int (F+(i:Int))]) d5
   refine#[E.a.m,E.a.kd,pp,D,nm,d,F+(i:Int),Z,(f5.same sx).same up,qb,λH8 s8=>#[8,?_]]
   have S8:=(sx.trans up).trans s8
   by_cases ho:qE D nm d (F+(i:Int))="open"
   .rw[ho]
    refine(Jc Z).mpr #[0,S8,?_]
    rw[step,Po,JI];simp [ho]
   .refine(Jb ?_).mpr #[S8,?_]
    .exactλz=>ho (by have:=Jz z;injection this)
    .rw[step,Po,JI]
     simp [ho]
  rintro ys Hx ⟨sx,rfl⟩ l hl
  rw[lw,m.s0.opened l3 b0 b1]at *
  have so:NF (Qe D nm d):=by
   have e0:Qe D nm d=zn D d (D.kn.lookup nm):=Z
   rw[e0];cases e:D.kn.lookup nm with
   |none=>exact .nil
   |some k=>have:=g.kn nm;rw[e]at this;exact gE g.dn this d
  have ul:=HJ.upd (o:= .lst ((qB (Qe D nm d)).map V.int)) hl
  have el:(HM Hx l (.lst ((qB (Qe D nm d)).map V.int))) l=↑(.lst ((qB (Qe D nm d)).map V.int)):=qb
  have G8:=(G7.same sx).same ul;have b5:=(a5.same sx).same ul;generalize HM Hx l (.lst ((qB (Qe D nm d)).map V.int))=H8 at *
  refine#[Hh,λtl Y=>?_]
  have ut:=HJ.upd (o:= .lst []) Y
  have et:(HM H8 tl (.lst [])) tl=↑(.lst (([]:Β).map V.int)):=qb
  have G9:=G8.same ut;have d0:=ut _ _ el;have g2:=b5.same ut;have f4:tl≠l:=λz=>by rw[z,el]at Y;cases Y
  have fH:H tl=none:=G8.fresh (hb.mono (by omega)) Y
  generalize HM H8 tl (.lst [])=H9 at *
  clear b5 a5 G8 ut ul Y hl el;let#[as,b6,a3,has]:=g2;refine QM (λS H'=>∃R G,NM b (c+4) H H'/\H' l=↑(.lst ((qB (Qe D nm d)).map V.int))/\H' tl=↑(.lst ((qB (Qe D nm d)).map V.int))/\S=[↑(-b),↑(-E.el),↑(-cd),↑(-E.pl),↑(-X),↑(-E.a.a.p),↑(-E.a.m),↑(-E.a'.a.p),↑(-E.a'.m),↑u,↑(.str nm),↑(.int d),↑(-t1),↑(-l),↑(-tl),R,G]) (λD0 b4 J=>?_) ?_
  .exists 0,t1,Z,#[_,HX.of b6]
   refine gB (K:=K) (a:=t1) (xs:=as.map V.ref) (λj σ Hz=>NM b (c+4) H Hz/\Mv [tl] H9 Hz/\Hz tl=↑(.lst ((qB ((Qe D nm d).take j)).map V.int))/\∃R G,σ=[↑(-b),↑(-E.el),↑(-cd),↑(-E.pl),↑(-X),↑(-E.a.a.p),↑(-E.a.m),↑(-E.a'.a.p),↑(-E.a'.m),↑u,↑(.str nm),↑(.int d),↑(-t1),↑(-l),↑(-tl),R,G]) #[#[G9.kp,G9.bx.mono (by omega)],λ_ _ _ e=>e,et,13] (λj σ Hz _ h=>HX.of (h.2.1.tup (NT.one et trivial) b6)) ?_ ?_
   .rintro j z σ Hz hz ⟨gz,mz,ez,R,G,rfl⟩
    rw[Jo]at hz;let#[av,a7,rfl]:=JO.mp hz;have hj:j<(Qe D nm d).length:=by rw[<- a3];exact(Jw.mp a7).1
    have ep:=Jh hj;let#[p,rp]:∃p,p=(Qe D nm d)[j]:=#[0]
    rw[<- rp]at ep;let#[p0,p1,p2,p3]:=so.bd p (Ij ep)
    have Nt:NT [tl] H9:=NT.one et trivial
    have e3:=mz.tup Nt (has j av p a7 ep);have e8:qB ((Qe D nm d).take (j+1))=qB ((Qe D nm d).take j)++((Ag (p.2+1-p.1).toNat).map λi:Nat=>p.1+(i:Int)):=by
     unfold qB;rw[Ie,ep,KO];simp
    have ln:(qB ((Qe D nm d).take j)).length<=66:=by
     have e:=so.cnt;rw[<- KJ j (Qe D nm d)]at e;unfold qB at e⊢;rw[KO,Jy]at e;omega
    exists av,0,.tup e3,5
    refine#[0,.inl #[43,HQ.of ez],34,λr f2=>#[r,p.1,(p.2+1-p.1).toNat,Z,?_,by omega,by omega,by omega,λl2 f1=>?_]]
    .rw[qb]
     congr 2
     omega
    have w1:=HJ.upd (o:= .rng p.1 (p.2+1)) f2
    have w2:=HJ.upd (o:= .lst (Qq p.1 (p.2+1-p.1).toNat)) f1
    have W:=w1.trans w2;have e9:=W _ _ ez;have c4:Qq p.1 (p.2+1-p.1).toNat=((Ag (p.2+1-p.1).toNat).map λi:Nat=>p.1+(i:Int)).map V.int:=by unfold Qq;rw[Ir];rfl
    exists tl,l2,6,e9,qb,by rw[Je,JD];have:(Qq p.1 (p.2+1-p.1).toNat).length=(p.2+1-p.1).toNat:=(by unfold Qq;rw[Je,E1]);omega
    have f0:tl≠b:=zJ hb fH
    have Mt:Mv [tl] Hz (HM (HM (HM Hz r (.rng p.1 (p.2+1))) l2 (.lst (Qq p.1 (p.2+1-p.1).toNat))) tl (.lst ((qB ((Qe D nm d).take j)).map V.int++Qq p.1 (p.2+1-p.1).toNat))):=W.mv.trans Mv.upd1
    refine#[#[λc o n e=>?_,?_],mz.trans Mt,?_,13]
    .exact Mt _ _ (qQ λz=>by rw[z,fH]at e;cases e) (gz.kp _ _ n e)
    .let#[x1,x2,x3,ex,rx]:=gz.bx
     exact#[x1,x2,x3,Mt _ _ (qQ f0.symm) ex,rx]
    .rw[qb,e8,JI,c4]
   .rintro σ Hz ⟨gz,mz,ez,R,G,rfl⟩
    rw[Je,a3,Ip]at ez;exact J _ _ #[15,gz,mz _ _ (qQ f4.symm) d0,ez,Z]
  rintro σ Hz ⟨R,G,gz,e1,e2,rfl⟩
  exists 2,tl,l,6,HQ.of e2,HQ.of e1
  rw[show(if false=true then ! decide (qB (Qe D nm d)=qB (Qe D nm d))else decide (qB (Qe D nm d)=qB (Qe D nm d)))=true from Jj Z]
  exact q _ gz
def D4(F:OL K "law" "law" aJ f fd)(T:MW K mg tk)(U:ND K C)(yI:Df P w K mg base "_law_box" ["_law_script","_law_k"] 1 (wL K))(dA:Df P w K mg base "_law_take" q0 1 Zf)(yJ:Df P w K mg base "_law_few" X4 2 rO)(x8:Df P w K mg base "_law_begun" W9 9 (kQ K C))(yG:Df P w K mg base "_law_deed" X7 9 (mE K C))(yD:Df P w K mg base "_law_right" X7 9 (k6 K C))(dO:Df P w K mg base "telling" W6 6 (iN K C)):NU P w K mg base bi 10 f fd ["_law_script"] (mj K):=by
 refine F.dq NP (λvs H Q E h=>?_) (λcdv A d5 s H vs Q E W h=>?_)
 .let#[x,ns,rfl,_]:=h
  rfl
 .let#[B,ns,rfl,hS,f9,q]:=h
  exists _,(qd (zg JJ Z (zM Z T.b_range (qc (qr qM qf (qk qT T.b_len J5 (qc (QN gx (qv 0) Zg (Zh qf)) qa))) qa)) (qg (i:=1) NP.nd Z (Pr Z))
   (qd (qA (i:=2) NP.nd Z (SV Z) (qo yI W.mo (qc (qv 0) (qc (qv 1) qa))))
   (qd (cP (i:=3) NP.nd Z (Pr Z) (own:=["_law_turn"]) (fr:=["_law_box_here"]) (js:=[2]) Z (zM Z T.b_range (qc qf qa)) Z (f6 Z) Z (fR Z nofun nofun nofun Z Z Z) (λ_ _ _ _=>qg (i:=0) (show P4 (["_law_turn","_law_box_here"]:Α)from by decide +kernel) Z (Pr Z) (.inr Z)) (λ_ _ _ _=>(qo x8 W.mo (qc (qv 1) (qc (qo yJ W.mo (qc (qv 1) qa)) qa)))))
   (qe (zg JJ Z (zM Z T.b_range (qc qf qa)) (qg (i:=4) NP.nd Z (Pr Z))
   (qd (qA (i:=5) NP.nd Z (Pr Z) (qo dA W.mo (qc (qv 2) (qc qf qa))))
   (qd (qA (i:=6) NP.nd Z (Pr Z) (qx qF (qx qF (qv 3) (qr Qu qf (qv 5))) qf))
   (qd (qA (i:=7) NP.nd Z (Pr Z) (qo dO W.mo (qc (qx qN (qx qF (qv 6) qf) qf) (qc (qx qN (qx qF (qv 6) qf) qf) qa))))
   (qd (zc (qo yG W.mo (qc (qv 2) (qc (qx qF (qv 3) (qv 5)) qa))))
   (qe (qC (QW.pt (Qc (Ql (zk (qo yD W.mo (qc (qv 2) (qc (qx qF (qv 3) (qv 5)) qa))))) (zP (qw (Fp W) (qo dO W.mo (qc (qx qN (qx qF (qv 6) qf) qf) (qc (qx qN (qx qF (qv 6) qf) qf) qa))) (qv 7) (qq _))))) (qe (qj Ze)) qt)))))))))))
   (qe (qj Ze)))
  refine#[2,B,0,hS,λl0 e4=>#[l0,0,.inl (HQ.of qb),14,?_,?_,?_]]
  .omega
  .rw[a9,Je]
   have:(ZS ns none ↑1).length<=ns.length:=by unfold ZS;rw[G5,LP];omega
   omega
  have u0:=HJ.upd (o:= .lst (Q9 (ns.map V.int) none ↑1)) e4
  have d7:=u0.seq hS;generalize HM H l0 (.lst (Q9 (ns.map V.int) none ↑1))=Ha at *
  refine Qx (Pv:=λk σ Hx=>HJ Ha Hx/\∃(o1 o2 o3 o4 o5 o6 o7:Μ),σ=[↑(-B),o1,o2,o3,o4,o5,o6,o7]) #[HJ.refl _,none,none,none,none,none,none,none,Z] ?_ ?_
  .rintro k σ H1 hk ⟨s1,o1,o2,o3,o4,o5,o6,o7,rfl⟩
   refine#[2,B,ns,k,by simp,s1.seq d7,λb H2 fb s2 d4=>?_]
   have b2:H2 b≠none:=λz=>by let#[_,_,_,e,_]:=d4;rw[z]at e;cases e
   exists 0,⋯,⋯
   refine aH (n:=2) ⋯ (λi ys N=>∃es:List Oh,NM b (103*i) H2 N/\ys=es.map (λE=> .ref E.el)/\es.length=i/\(∀(j:Nat) (E:Oh),es[j]? =↑E->(∃t kss O nms D D',MO K C N E t kss O nms D D' 6)/\b∉zN E/\b≠E.pl/\b≠E.nl/\∀z∈zN E,H2 z=none)/\(∀(j k:Nat) (E E':Oh),j<k->es[j]? =↑E->es[k]? =↑E'->NL E E')) #[[],NM.refl d4,9,(λj E h=>by cases h),(λj k E E' _ h=>by cases h)] ?_ ?_
   .rintro i ys N hi e5 ⟨es,G,rfl,le,Y,S⟩
    refine#[2,b,0,G.bx,by omega,λdr nl nms d1 O H3 g3 e2 d6 a8 ok=>?_]
    have d2:nl≠b:=λz=>by let#[_,_,_,e,_]:=G.bx;rw[z,e]at a8;cases a8
    refine#[b,dr,nl,_,nms,d1,O,Z,g3.bx,by omega,e2,d6,d2,ok,λE t kss D D' H4 g4 ea a1 c2 a3=>?_]
    have a4:=g3.trans g4;have kept:∀(j:Nat) (y:Oh),es[j]? =↑y->(∃t kss O nms D D',MO K C H4 y t kss O nms D D' 6)/\b∉zN y/\b≠y.pl/\b≠y.nl/\∀z∈zN y,H2 z=none:=λj y h=>by
     let#[#[t1,k1,b1,n1,D1,D1',d],h1,I,h3,h4]:=Y j y h
     exact#[#[t1,k1,b1,n1,D1,D1',d.grc G.bx a4 h1 I h3],h1,I,h3,h4]
    have p:∀z,H3 z=none->N z=none:=λz h=>by
     cases e:N z with
     |none=>rfl
     |some o=>
      have:=g3.kp z o (λw=>by let#[_,_,_,x,_]:=g3.bx;rw[w,x]at h;cases h) e
      rw[h]at this;cases this
    have a2:∀z,N z=none->H2 z=none:=λz h=>by
     cases e:H2 z with
     |none=>rfl
     |some o=>
      have:=G.kp z o (λw=>by let#[_,_,_,x,_]:=G.bx;rw[w,x]at h;cases h) e
      rw[h]at this;cases this
    have b7:∀z,H3 z=none->b≠z:=λz h w=>by let#[_,_,_,x,_]:=g3.bx;rw[<- w,x]at h;cases h
    refine#[es++[E],#[(G.trans a4).kp,(G.trans a4).bx.mono (by omega)],by simp,by simp [le],λj y h=>?_,λj k y E2 f2 h1 I=>?_]
    .by_cases hj:j<es.length
     .rw[J3 hj]at h;exact kept j y h
     .rw[J9 (by omega)]at h
      cases ej:j-es.length with
      |succ m=>rw[ej]at h;cases h
      |zero=>
       rw[ej]at h;cases h
       exact#[#[t,kss,O,nms,D,D',ea],λz=>b7 _ (a3 b z) Z,b7 _ c2,a1▸d2.symm,λz hz=>a2 z (p z (a3 z hz))]
    .by_cases hk:k<es.length
     .rw[J3 hk]at I
      rw[J3 (by omega)]at h1
      exact S j k y E2 f2 h1 I
     .rw[J9 (by omega)]at I
      cases ek:k-es.length with
      |succ m=>rw[ek]at I;cases I
      |zero=>
       rw[ek]at I;cases I;rw[J3 (by omega)]at h1
       let#[#[t1,k1,b1,n1,D1,D1',d],_]:=Y j y h1;exact d.apart (λz hz=>p z (a3 z hz)) (p _ c2) (by rw[a1];exact a8)
   rintro ys N e5 ⟨es,G,rfl,le,Y,S⟩ l hl
   have ul:=HJ.upd (o:= .lst (es.map λE=>V.ref E.el)) hl
   have M:=zJ G.bx hl;have el:(HM N l (.lst (es.map λE=>V.ref E.el))) l=↑(.lst (es.map λE=>V.ref E.el)):=qb
   have G1:=G.same ul;have e6:∀c o,c≠b->H2 c=↑o->(HM N l (.lst (es.map λE=>V.ref E.el))) c=↑o:=λc o n e=>G1.kp c o n e
   have J:∀(j:Nat) (E:Oh),es[j]? =↑E->(∃t kss O nms D D',MO K C (HM N l (.lst (es.map λE=>V.ref E.el))) E t kss O nms D D' 6)/\b∉zN E/\b≠E.pl/\b≠E.nl/\(∀z∈zN E,H2 z=none)/\l∉zN E:=λj E h=>by
    let#[#[t1,k1,b1,n1,D1,D1',d],h1,I,h3,h4]:=Y j E h
    exact#[#[t1,k1,b1,n1,D1,D1',d.same ul],h1,I,h3,h4,λz=>by let#[o,x,_]:=d.ntF l z;rw[hl]at x;cases x]
   have f0:=G1.bx;generalize HM N l (.lst (es.map λE=>V.ref E.el))=Hz at *
   exists 0,⋯,⋯
   refine Qx (n:=6) (Pv:=λj σ Hx=>MZ Hx b (206+30*j)/\(∀c o,c≠b->H2 c=↑o->Hx c=↑o)/\Hx l=↑(.lst (es.map λE=>V.ref E.el))/\(∀(i:Nat) (E:Oh),es[i]? =↑E->∃t kss O nms D D',MO K C Hx E t kss O nms D D' (6+2*j))/\∃(p4 p5 p6 p7:Μ),σ=[↑(-B),↑(.int (0+(k:Int))),↑(-b),↑(-l),p4,p5,p6,p7]) #[f0.mono (by omega),e6,el,λi E h=>(J i E h).1,22] ?_ ?_
   .rintro j σ Hx hj ⟨bx,kp,c3,a6,p4,p5,p6,p7,rfl⟩
    have j6:j<6:=hj
    refine#[0,b,(2),0,bx,by omega,⋯,⋯,λr Hb r0 r1 g=>?_]
    let#[i,rfl]:∃i:Nat,r=(i:Int):=#[r.toNat,by omega]
    have i2:i<2:=by omega
    let#[E,X]:∃E,es[i]? =↑E:=#[_,Jh (show i<es.length by rw[le];exact i2)]
    let#[a,hG]:∃a,es[1-i]? =↑a:=#[_,Jh (show 1-i<es.length by rw[le];omega)]
    have ap:NL a E:=by
     match i,i2,X,hG with
     |0,_,X,hG=>exact(S 0 1 E a ⋯ X hG).symm
     |1,_,X,hG=>exact S 0 1 a E ⋯ hG X
    let#[t0,k0,b8,c1,D0,D0',e0]:=a6 i E X;let#[t1,k1,g8,g6,D1,D1',d]:=a6 (1-i) a hG
    let#[_,x1,x2,x3,x4,x5]:=J i E X;let#[_,y1,y2,y3,y4,y5]:=J (1-i) a hG
    have a5:=e0.grc bx g x1 x2 x3;have u:=d.grc bx g y1 y2 y3;have b0:=g.kp _ _ M c3;let#[cd,dr,tb,kt,eG,_]:=id u.ent;have e7:QK (es.map λE=>V.ref E.el) (1-(i:Int))=↑(-a.el):=by
     rw[show(1:Int)-(i:Int)=((1-i:Nat):Int) by omega]
     exact Qs (by rw[Jo,hG];rfl)
    have c4:QK (es.map λE=>V.ref E.el) (i:Int)=↑(-E.el):=Qs (by rw[Jo,X];rfl)
    exists 16,l,1,HQ.of b0,e7,a.el,1,HQ.of eG,Z
    let#[L1,g5,z0]:=id u.e0;let#[L1',f5,z1]:=id u.e1;have d0:=d.s0.td d.few.l3;have b4:=d.s1.td d.few.l3;have xd:Ra D1 D1':=Ra.narrow (by have:=d.s0.dn.nf;have:=d.s0.f12;omega) (by have:=d.s1.dn.nf;have:=d.s1.f12;omega)
    exists 0,a.pl,1,HQ.of u.pl,Z,a.a.e,1,HX.of z0.tu,8,a.pl,1,HQ.of u.pl,Z,a.a'.e,1,HX.of z1.tu,Z
    refine#[a.a.a.p,a.a.a.ta,a.a.a.hk,a.a.a.bd,a.a.a.lg,_,D1,a.a'.a.p,a.a'.a.ta,a.a'.a.hk,a.a'.a.bd,a.a'.a.lg,_,D1',Z,z0.dl.dr,z1.dl.dr,d0,b4,xd,λv g1 Hc B e3 d3 d8 tv=>?_]
    have a7:=(B.grc g.bx).bx;refine#[4,l,1,HQ.of (B _ _ b0),c4,E,b,_,t0,k0,b8,c1,D0,D0',0,a7,by omega,a5.same B,x1,x2,x3,by omega,λe8 F0 F0' Hd md R b6=>?_]
    have e9:=(u.same B).other (a5.same B) ap a7 y1 y2 y3 md;have f1:=tv.mvW md ((a5.same B).ntFB a7);have b3:Hd l=↑(.lst (es.map λE=>V.ref E.el)):=md _ _ (λz=>(Jg.mp z).elim M x5) (B _ _ b0)
    refine#[4,l,1,HQ.of b3,c4,E,b,_,t0,e8,b8,c1,F0,F0',0,R,by omega,b6,x1,x2,x3,λHe ge=>?_]
    refine#[0,zh ?_]
    have L:=e9.grc R ge y1 y2 y3;have f4:=f1.grc R ge;let#[L2,g7,w0]:=id L.e0;let#[L2',g0,w1]:=id L.e1;exists 0,a.pl,1,HQ.of L.pl,Z,a.a.e,1,HX.of w0.tu,8,a.pl,1,HQ.of L.pl,Z,a.a'.e,1,HX.of w1.tu,Z
    refine#[a.a.a.p,a.a.a.ta,a.a.a.hk,a.a.a.bd,a.a.a.lg,_,D1,a.a'.a.p,a.a'.a.ta,a.a'.a.hk,a.a'.a.bd,a.a'.a.lg,_,D1',Z,w0.dl.dr,w1.dl.dr,d0,b4,xd,λv2 h0 Hf sf f3 b5 d9 c0=>?_]
    rw[uT f3 e3 d9 d8 λk=>(b5 k).trans (d3 k).symm]at c0
    refine#[0,(2),⋯,c0.eqk (f4.same sf),0,zh ?_]
    refine#[(sf.grc ge.bx).bx.mono (by omega),λc o n e=>sf _ _ (ge.kp c o n (md c o (λz=>(Jg.mp z).elim n (λq=>by have:=x4 c q;rw[this]at e;cases e)) (B _ _ (g.kp c o n (kp c o n e))))),sf _ _ (ge.kp _ _ M b3),λi' E' h=>?_,22]
    have g2:i'<2:=by rw[<- le];exact(Jw.mp h).1
    by_cases z:i'=i
    .subst z
     rw[X]at h;cases h
     exact#[58,((b6.grc R ge x1 x2 x3).same sf).mono (by omega)]
    .obtain rfl:i'=1-i:=by omega
     rw[hG]at h;cases h
     exact#[58,(L.same sf).mono (by omega)]
   .rintro σ Hx ⟨bx,kp,c3,a6,p4,p5,p6,p7,rfl⟩
    refine#[λc o e=>kp c o (λz=>?_) (s2 _ _ (s1 _ _ e)),32]
    rw[z]at e
    have:=s1 _ _ e
    rw[fb]at this;cases this
  rintro σ Hx ⟨_,o1,o2,o3,o4,o5,o6,o7,rfl⟩
  exact q _
end
def Fl{l:W.OpenLaw}{K:ι}(X:K.In h)(G:h.Ns η mg)(B:mg "law"=↑(-fa))
  
  (t:Rm K η "Door"=↑(↑(-C)))
  (H:W.plainGet K C Str.empty=true)
  (a4:W.hasDictIn K C=true)
  (L:W.plainOver K C=true)
  (a8:SA K (-C) "__setattr__"=↑(↑(.builtin "object.__setattr__")))
  (r:W.makesIn K C=true)
  (q:TK K (-C)=true)
  (HR:SA K (-C) "table"=↑none)
  (pi:SA K (-C) "house_keys"=↑none)
  (Id:SA K (-C) "near"=↑none)
  (IN:SA K (-C) "far"=↑none)
  (Im:SA K (-C) "most"=↑none)
  (Hk:SA K (-C) "least_age"=↑none)
  (Hm:SA K (-C) "buttons"=↑none)
  (Ix:SA K (-C) "log"=↑none)
  (A0:Ac K mg "is_number" bV)
  (A1:Ac K mg "is_digit" eE)
  (A2:Ac K mg "are_digits" bE)
  (A3:Ac K mg "back_table" bg)
  (A4:Ac K mg "coded" j0)
  (A5:Ac K mg "decoded" fS)
  (A6:Ac K mg "is_name" gj)
  (A7:Ac K mg "is_code" fD)
  (A8:Ac K mg "is_press" cW)
  (A9:Ac K mg "letter_digits" ZQ)
  (A10:Ac K mg "key_of" iz)
  (A11:Ac K mg "count_digits" Z3)
  (A12:Ac K mg "press_of" c8)
  (A13:Ac K mg "read_press" bj)
  (A14:Ac K mg "word_of" fP)
  (A15:Ac K mg "step_by" f7)
  (A16:Od K C "__init__" "Door.__init__" Zt)
  (A17:Od K C "is_full" "Door.is_full" ZY)
  (A18:Od K C "button_of" "Door.button_of" Zu)
  (A19:Od K C "takes_age" "Door.takes_age" ZA)
  (A20:Od K C "takes_from" "Door.takes_from" Zl)
  (A21:Od K C "plain_step" "Door.plain_step" QB)
  (A22:Od K C "answer_to" "Door.answer_to" Zy)
  (A23:Od K C "hear" "Door.hear" cf)
  (A24:Od K C "read_right" "Door.read_right" Zn)
  (A25:Od K C "learn" "Door.learn" aX)
  (A26:Od K C "forget" "Door.forget" ay)
  (A27:Od K C "turn_key" "Door.turn_key" ZU)
  (A28:Od K C "close_below" "Door.close_below" Za)
  (A29:Od K C "known_now" "Door.known_now" Zv)
  (A30:Od K C "keys_now" "Door.keys_now" ZT)
  (A31:Od K C "closed_now" "Door.closed_now" Zj)
  (A32:Od K C "bounds_told" "Door.bounds_told" Q4)
  (A33:Ac K mg "stretches_of" ZW)
  (A34:Ac K mg "opens_at" cZ)
  (A35:Ac K mg "names_known" az)
  (A36:Ac K mg "lesser_end" bu)
  (A37:Ac K mg "counts_in" bZ)
  (A38:Ac K mg "least_apart" au)
  (A39:Ac K mg "press_apart" ax)
  (A40:Ac K mg "pair_apart" bh)
  (A41:Ac K mg "telling" gn)
  (A42:Ac K mg "agree" jS)
  (A43:Ac K mg "openings" du)
  (A44:Ac K mg "shows_telling" ZR)
  (A45:Ac K mg "_law_box" gh)
  (A46:Ac K mg "_law_take" eW)
  (A47:Ac K mg "_law_table" ca)
  (A48:Ac K mg "_law_key" gg)
  (A49:Ac K mg "_law_model" cj)
  (A50:Ac K mg "_law_word" c6)
  (A51:Ac K mg "_law_hear" cR)
  (A52:Ac K mg "_law_press" cp)
  (A53:Ac K mg "_law_learnt" bz)
  (A54:Ac K mg "_law_heard" cm)
  (A55:Ac K mg "_law_bounds" bp)
  (A56:Ac K mg "_law_window" bo)
  (A57:Ac K mg "_law_one" fF)
  (A58:Ac K mg "_law_copied" aR)
  (A59:Ac K mg "_law_two" gc)
  (A60:Ac K mg "_law_few" fU)
  (A61:Ac K mg "_law_alike" ci)
  (A62:Ac K mg "_law_begun" b9)
  (A63:Ac K mg "_law_deed" c7)
  (A64:Ac K mg "_law_is" iK)
  (A65:Ac K mg "_law_right" cg)
  {o:β}{u:Array Ν}{p:Γ}
  (Q:Rm K η "law"=↑(↑(-n)))
  (R:K.lookup n=some #[p,o,.func (TB "law" "law" (QX aJ) (zR aJ) (qi aJ) .none j d g f a m),u])
  (F:W.codeIn K a "law"=true)
  (b1:TK K (-n)=true)
  
  (a3:Rm K η "DIGITS"=↑(↑(.int 16 t0)))
  
  (M:Rm K η "KEY_PLACES"=↑(↑(.int 4 t1)))
  
  (b3:Rm K η "LONGEST_NAME"=↑(↑(.int 8 t2)))
  
  (a6:Rm K η "CODE_DIGITS"=↑(↑(.int 5 t3)))
  
  (a7:Rm K η "COUNTS"=↑(↑(.int 4096 t4)))
  
  (O:Rm K η "AGES"=↑(↑(.int 8 t5)))
  (z0:Rm K η "isinstance"=↑none)
  (z1:Rm K η "bool"=↑none)
  (z2:Rm K η "int"=↑none)
  (z3:Rm K η "tuple"=↑none)
  (z4:Rm K η "all"=↑none)
  (z5:Rm K η "any"=↑none)
  (z6:Rm K η "len"=↑none)
  (z7:Rm K η "abs"=↑none)
  (z8:Rm K η "list"=↑none)
  (z9:Rm K η "enumerate"=↑none)
  (J:Rm K η "range"=↑none)
  (a5:Rm K η "max"=↑none)
  (S:Rm K η "min"=↑none)
  (a1:Rm K η "str"=↑none)
  (b0:Rm K η "zip"=↑none)
  (I:Rm K η "ord"=↑none)
  (N:Rm K η "sum"=↑none)
  (b2:Rm K η "reversed"=↑none)
  (a2:Rm K η "sorted"=↑none)
  (E:Rm K η "dict"=↑none)
  (D:Rm K η "set"=↑none):
  ∃fd:FuncData,(∀(s:Θ) (v:Γ),BindsTo s fd #[[v],[]] [("_law_script",v)])/\∀base:Ψ,K.In base->base.Ns η mg->NU l.prog w K mg base bi 10 fa fd ["_law_script"] (mj K):=by
 have e:=B.symm.trans (IR X G Q);cases e;have T:MW K mg (λi=>if i=0 then t0 else if i=1 then t1 else if i=2 then t2 else if i=3 then t3 else if i=4 then t4 else if i=5 then t5 else 0):=#[IR X G a3,IR X G M,IR X G b3,IR X G a6,IR X G a7,IR X G O,JZ X G z0,JZ X G z1,JZ X G z2,JZ X G z3,JZ X G z4,JZ X G z5,JZ X G z6,JZ X G z7,JZ X G z8,JZ X G z9,JZ X G J,JZ X G a5,JZ X G S,JZ X G a1,JZ X G b0,JZ X G I,JZ X G N,JZ X G b2,JZ X G a2,JZ X G E,JZ X G D]
 refine#[TB "law" "law" (QX aJ) (zR aJ) (qi aJ) .none j d g f a m,λs v=> .of_eq Z,λbase _ _=>?_]
 have U:ND K C:=#[#[H,a4,L,a8],HR,pi,Id,IN,Im,Hk,Hm,Ix]
 have dX:=nz (P:=l.prog) (w:=w) (base:=base) A0.at T
 have yE:=pU A1.at T dX
 have xZ:=l9 A2.at T yE
 have xW:=lZ (P:=l.prog) (w:=w) (base:=base) A3.at T
 have xR:=BM (P:=l.prog) (w:=w) (base:=base) A4.at T
 have yL:=uK A5.at T xW
 have yM:=uF (P:=l.prog) (w:=w) (base:=base) A6.at T
 have yK:=uH A7.at T xZ
 have dZ:=pW A8.at T yM dX yK
 have xI:=ib (P:=l.prog) (w:=w) (base:=base) A9.at T
 have xK:=xn A10.at T xI xR
 have xM:=jm (P:=l.prog) (w:=w) (base:=base) A11.at T
 have yF:=rn A12.at T xM xK xR
 have dR:=lU A13.at T xK yL
 have yO:=tT (P:=l.prog) (w:=w) (base:=base) A14.at T
 have xE:=uP A15.at T yO
 have A16:=A16.at (ps:=X1)
 have yS:=jR (P:=l.prog) (w:=w) (base:=base) A16 T U
 have yQ:=yS.mi r q (IR X G t);have yU:=(jb (P:=l.prog) (w:=w) (base:=base) A16 T U).mi r q (IR X G t)
 have xL:=jh (P:=l.prog) (w:=w) (base:=base) A17.at T U
 have y:=gS (P:=l.prog) (w:=w) (base:=base) A18.at T U
 have dI:=gO (P:=l.prog) (w:=w) (base:=base) A19.at T U
 have z:=fQ A20.at T U dI
 have A21:=A21.at (ps:=X0)
 have dD:=fG A21 T U z xE;have G_Door_plain_step:=fo A21 T U z xE;have xB:=gP A22.at T U y z dD dR
 have x9:=nU A23.at T U dZ xB
 have dQ:=fX A24.at T U dZ dI dR
 have xX:=ma A25.at T U dQ xL
 have xO:=ju (P:=l.prog) (w:=w) (base:=base) A26.at T U
 have xH:=iq (P:=l.prog) (w:=w) (base:=base) A27.at T U
 have dY:=fv (P:=l.prog) (w:=w) (base:=base) A28.at T U
 have xC:=gT (P:=l.prog) (w:=w) (base:=base) A29.at T U
 have xG:=ia (P:=l.prog) (w:=w) (base:=base) A30.at T U
 have xA:=fM (P:=l.prog) (w:=w) (base:=base) A31.at T U
 have dE:=fA (P:=l.prog) (w:=w) (base:=base) A32.at T U
 have dJ:=iW A33.at T U z dE
 have yH:=rq A34.at T U y dJ
 have dM:=jP A35.at T U xC
 have xV:=lY A36.at T U dE
 have xN:=oy (P:=l.prog) (w:=w) (base:=base) A37.at T
 have xP:=jE A38.at T xN
 have dP:=jQ A39.at T U xG dJ xP
 have xT:=lJ A40.at T U xA G_Door_plain_step xV dP
 have A:=vi A41.at T U y dM dP xT
 have yR:=BE A42.at T A
 have xQ:=pX A43.at T U y G_Door_plain_step dM
 have xJ:=iy A44.at T xQ
 have yI:=uV (P:=l.prog) (w:=w) (base:=base) A45.at T
 have c:=pV (P:=l.prog) (w:=w) (base:=base) A46.at T
 have yB:=mK A47.at T c
 have xD:=uG A48.at T c
 have x6:=mQ (P:=l.prog) (w:=w) (base:=base) A49.at T
 have x:=pT (P:=l.prog) (w:=w) (base:=base) A50.at T
 have dL:=pZ A51.at T x
 have dW:=mD A52.at T yF
 have N_law_learnt:=jB A53.at T U xX dW
 have yA:=nA A54.at T U x9 dW dL
 have xY:=me A55.at T c
 have Y:=lR (P:=l.prog) (w:=w) (base:=base) A56.at T
 have xF:=t7 A57.at T x Y
 have xS:=lT (P:=l.prog) (w:=w) (base:=base) A58.at T
 have yN:=tX A59.at T x dL Y xS xF
 have yJ:=uc A60.at T c
 have dU:=gk (P:=l.prog) (w:=w) (base:=base) A61.at T
 have x8:=oV A62.at T U yU c yB xD xY x6 N_law_learnt
 have yG:=rc A63.at T U xO xH dY c xD N_law_learnt yA
 have yP:=wo (P:=l.prog) (w:=w) (base:=base) A64.at T
 have yD:=nK A65.at T U c x Y xF yN A yR xJ yH dU yP
 exact D4 (mY (st:=aJ) R F b1) T U yI c yJ x8 yG yD A
def Bz{l:W.OpenLaw}{j:(Str->Ν)->Ψ->Prop}{g:Ω->Ψ->Prop}{d:DefRec}{K:Params->ι}(hn:l.most=↑63)(e:d.params.defaults=[])
  (m:∀(w:Ω) (h:Ψ),g w h->(K w.params).In h)
  (F:∀(w:Ω) (mg:HH) (i:Δ) (h:Ψ),(K w.params).In h->h.Ns η mg->mg d.name=↑(-i)->
   ∃fd:FuncData,(∀(s:Θ) (u:Γ),BindsTo s fd #[[u],[]] [("_law_script",u)])/\∀base:Ψ,(K w.params).In base->base.Ns η mg->NU l.prog w (K w.params) mg base bi 10 i fd ["_law_script"] (mj (K w.params))):
  W.WalkO q c j g l.row.toRowW d [] (λf vs=>PySem.call f vs):=
 L2.Dv (n:=63) (k:=10) (x:="_law_script") (CX:=λ_=>bi) (sp:=λw=>mj (K w.params)) hn ⋯ e #[Z,⋯,⋯] m F (λ_ _ a o p _ r=>#[a,o,Z,r,p,λ_=>rfl]) λ_ _ _ _ _ z=>z
end Lw
structure PySem.W.Fast:Prop where(tw2019780462028003245 tw9784114359912610690 tw13718360485580703484 tw1397369445207165991 tw2065715069740431449 tw2421874856218158010 tw5035132723682631166 tw6858328963339187225 tw3102715205617530979 tw4226613247518797191 tw2777137491252320707 tw3000449720880832720 tw3272115710898747950 tw16367807367580937468 tw13262579491661641474 tw6507688798336717449 tw7093061102474084668 tw1060501190414377775 tw2511911557228194480 tw11306566892521776402 tw11601077544088312939 tw5798515741860705648 tw17350921134098364148 tw664439647586338312 tw12307384054495099626 tw13386767966915156250 tw1093138427278069888 tw7122605943158162253 tw13353834769674274050 tw1934979398716967335 tw2818204093809444395 tw6299806878977705430 tw3719941418311701198 tw6214042269672552215 tw3537220417628909509 tw12297379386436104317 tw8863402286522517134 tw10245270907719347267 tw9214531528568691876 tw14009427141127938568 tw7707903805381875409 tw2460244194733345994 tw13271854425702048653 tw11785549503993382816 tw1243485405574529018 tw2093792480355799984 tw8794001964327976856 tw7235694377025117180 tw9100963847496513574 tw8297655598043683597 tw3152683169638600116 tw13056216519875335284 tw6486194980083274356 tw3477223056032780904 tw9102090501865144307 tw12441763303621430047 tw17857173507913838830 tw470874713092622502 tw4759608930560263581 tw8677817324254571676 tw16580517903408095596 tw9433605135737476544 tw6432386814596853434 tw4529112810836748114 tw13339341757703246195 tw1169121381239423730 tw10087026649829950483 tw1000783080831102556 tw14779214521167612162 tw10147396078630723549 tw5986676062863685382 tw9608997263716577179 tw13768032362502398327 tw12288248999720088543 tw164820910065960999 tw1214229002334664476 tw13859611393944940273 tw1256748907414814018 tw2908011105201591524 tw16191646613332306445 tw4431459991388900042 tw7660160651219197623 tw8281037874708117013 tw3459649210938631397 tw15986512616471982498 tw10961374259676190463 tw8072527638068210694 tw5129591838479952046 tw10422210993469721808 tw6955911697205025568 tw3992329033240096218 tw17056153798663442135 tw9909765638394996322 tw8531297769965969210 tw7979383881632726355 tw8492536113499816131 tw5894197814958315008 tw4974402402425499609 tw5856345090636574226 tw16275662100819596520 tw14703282833195069632 tw833780825888672768 tw9812750993084405774 tw5540541230290773141 tw16064434843800909410 tw15345806011627801520 tw16752394119453251479 tw2159197274641041582 tw1069957606982061067 tw16718249428929416930 tw711193093222386662 tw17641503734403579766 tw10210436107766857928 tw5562927546790441468 tw13833203499829358697 tw4179444952206134179 tw5138395068023893354 tw15946171218544251279 tw14080319992325002729 tw17514090856958216738 tw2762708886960164233 tw12976157900572954987 tw8579196096047089571 tw13826510209351640161 tw6381530231072416535 tw16955758944763081168 tw9195483716109860060 tw18353909166180680137 tw9489386500856900693 tw10246633584768086142 tw11571256467810407736 tw7705558756443877554 tw17718791813239300470 tw12293334248822205281 tw5377570252075832643 tw70328565833887714 tw5533344178381645904 tw6631800327593943548 tw12892612159178588272 tw16293923049130646671 tw5390713318028593451 tw5521843934006149206 tw9739038670005950291 tw14442481648687122025 tw4443669769406116503 tw5737991097973526268 tw735680242312290037 tw6791092424652199148 tw13871668456700589327 tw9866695044023679796 tw16060323456114157345 tw16504330532957915324 tw12537486597835161395 tw11907086035918112825 tw9192418514720093631 tw15292218394087927591 tw7957927630061040923 tw4099063613321427134 tw3342948762664561214 tw8619709213940263388 tw708341400531358213 tw2606235777273671967 tw2013304164692554621 tw3861554369584364877 tw3911982162738971537 tw7436549670962929678 tw14600161168261582123 tw4857504625408099391 tw2065013701297208369 tw1981782281597684674 tw5873325524213021271 tw5477682071161590911 tw11966407127666662465 tw14979949285704044939 tw3519230402847087583 tw7314604641329408603 tw4722395358277339418 tw17640227392670679738 tw7345486877030070538 tw2845985932605625966 tw8053425366543519729 tw16559762603777463183 tw4340447583837195849 tw18178029624948674071 tw7483273513798201962 tw14515447315618705914 tw9110366833644416028 tw12962591302556767793 tw13995064813010955673 tw16565435220632060880 tw1013072078438632159 tw7495628217868880080 tw18202322196022138220 tw13616686944104876410 tw7228828094181412953 tw7577220689770526603 tw12375669187478349375 tw9418185551777354147 tw14365144197373184559 tw14770770762363380396 tw18337758823577541748 tw10778082957615567250 tw13939473287396277426 tw16645115272456299245 tw6786870994269473579 tw7135825892830769190 tw3219555131622551080 tw1684150987841767063 tw69129415562386422 tw17907351306570260192 tw16100740955101146893 tw1592986839122647854 tw10206204546553431302 tw7768572450133659478 tw17222373277723707407 tw12618934674192131607 tw8672713450162694200 tw11379479489376857474 tw3811204054272062831 tw2273243320574367312 tw7118208288828896402 tw15149316981828229142 tw14915593489148764446 tw5060232855071720518 tw11940724025362093414 tw7993544798649472570 tw18079967226408009923 tw15252765216639657504 tw1812682004196219689 tw14355605697569997468 tw619826228582830908 tw15643404030147567886 tw17623962092414219240 tw13963894002546606956 tw1303645570167897009 tw18379243085791556473 tw11086339160492482681 tw6820865023630773662 tw11947753449065534888 tw18341177949467263249 tw9897779289175467319 tw15189977796105371431 tw4968898028275235959 tw2429698283064432310 tw15515385525704025031 tw7607029133106717313 tw15847068898316807220 tw14891213056942688095 tw4440921450185837324 tw11926384255766839372 tw7193277181315494843 tw7630783517847951753 tw13941312690085069365 tw10832648654659951238 tw11692955757745017585 tw1789665322725613750 tw4668417498770656442 tw8643891227826802754 tw10842143344836411935 tw3471357227448722477 tw2708130338709786302 tw18050211251204409608 tw6763610595093252002 tw17524239987857823326 tw10853478398615355796 tw7092795580801023127 tw8877847487335198558 tw6063482867153822782 tw4545928785282027201 tw4072663641029990740 tw6297714095099304129 tw5372864136887463168 tw5060605724904933822 tw13546228707987499491 tw4514533357942088872 tw3128819037423979636 tw12977227408200687182 tw995857123231878449 tw12206758046722432503 tw14606883140408434550 tw17806192202392006581 tw8514544001763668253 tw7614357438485314824 tw9483849189839415 tw16978245740954831391 tw17954992945867113527 tw6577434613428572307 tw4345719636771296515 tw14753616785937496070 tw10113073560760739398 tw471527649934814536 tw18180642222552164675 tw343844208852890098 tw81654037968346685 tw13994470188531456477 tw8736579747326729738 tw5852712246925126084 tw11519322230878906510 tw16334516870209959717 tw9146832185307185464 tw8963723342369594529 tw7354596823966937591 tw12416956510411112110 tw16804108585942060474 tw9016153138277682739 tw8234002611384106870 tw17184957829386168775 tw6466003081386373809 tw7166490182557644394 tw4308741257744213598 tw13408448980878989586 tw690542626017000247 tw6680453052881189687 tw2914299776789726066 tw5999838970124566815 tw3736209938047539155 tw18038232793403037451 tw13671942185265146783 tw4802894253860473795 tw10015288697175337737 tw1284059512878210997 tw12005003121537235803 tw429457255681726968 tw3091325737056085081 tw2167936351704276087 tw3418261183625830040 tw1555384361944797251 tw7583490132724422340 tw18393248123578798596 tw13546636773104183767 tw7709896760652532491 tw7686657839166077041 tw16543828085581914156 tw12412693860037810581 tw17719507518018469749 tw8209361072749516524 tw917760606922769732 tw8811313719893176021 tw15485706275694851389 tw6548109772270013361 tw10257924062511685213 tw14200177827248974549 tw14822762175941807026 tw16670954522896188121 tw10460474436336797376 tw16794895425204632805 tw3448195982127303209 tw6695625963435018942 tw16896510843517468486 tw4676884094329669614 tw16969917597488486852 tw12019025721490085689 tw10802047042202451407 tw18234238620475303578 tw2653729186248205105 tw5720503918695508417 tw8287596603915689363 tw1863409628415675298 tw6737044997115945931 tw12529651289733322291 tw5400480398628338032 tw1700731982991429376 tw11582833195134380807 tw16813089714153707082 tw10422989527078608845 tw6833938905008935814 tw15040048284298432140 tw4960518299532771941 tw5092151792585672220 tw6052913034272315624 tw18338812306442509904 tw2233112335079276915 tw7089434341688199710 tw7968233644454468800 tw12678559913147953460 tw12562494199342605471 tw16507238550628952495 tw14133155715860883391 tw15077410338221126677 tw4397702742395720192 tw725700419879665836 tw3736306966156158729 tw14893233742865268916 tw12298901231191824043 tw1907735494543760805 tw8088418127583431339 tw3557541981391586752 tw15627857604485174848 tw8800941656706229226 tw14923689441858930714 tw2382521996292078398 tw13869743930258804248 tw12346808508419719554 tw409851025848257016 tw8200366023010546109 tw6967776521210013185 tw10519031252424087478 tw1143277868091280644 tw10440245823181610865 tw9813297844229407862 tw16113793875647120649 tw3467371697241069831 tw16792655330031947728 tw6543100495508565473 tw16155371918881739068 tw17476140393692395466 tw12500306159377974420 tw12382704986840852738 tw8121160671511298646 tw15648201109413195364 tw5309812558540266452 tw14883557735835120277 tw4111847721728868542 tw16821006266812504064 tw5755296742276618615 tw2090389682809971106 tw9398583249621841865 tw17628496954693970892 tw8625469923629782123 tw8720742453124128821 tw3823998894165670098 tw11939692500999593585 tw7681857396120121368 tw13012851304287019717 tw2692381924836837323 tw1878589863635959058 tw11047406177271246839 tw8541683114476403466 tw11702304318007728563 tw15795979648124326862 tw3732090717775468133 tw9054645607828670021 tw766804278692816367 tw6167065173186854077 tw8579957463540022118 tw3736850489765725886 tw12927323527718806161 tw11076896508940240482 tw200957563793728622 tw9062744134981846812 tw9822143111529000162 tw2407172659368743740 tw8020609804048579298 tw12005847681272553202 tw13499586387265997897 tw16187521803444571735 tw765801415367176936 tw4059077896326832155 tw9621619229012480392 tw17634500426026326699 tw14172508390527917041 tw7377553444906527990 tw1675457625219760709 tw14340306328909376658 tw5316333968421021324 tw16053723389980514943 tw15352167091077884077 tw5148040220896199523 tw4563263144541066901 tw7914616259764235873 tw16619390610669536577 tw16386940440623220733 tw10361409556971780647 tw18383659629881459047 tw6504389959697556342 tw11153697042824535119 tw4460064545099793886 tw3691249161772951849 tw1340065969183918277 tw2918974710392862918 tw7792548454140504339 tw17716457791832768170 tw16504069637341544481 tw7240934804103985180 tw5591086351071963510 tw11763532257834238387 tw18062368830368361880 tw13774092689901978809 tw15813231963528670296 tw5738385565546046624 tw15137930663193264774 tw11589752881104878837 tw17120599612527873521 tw15692496381445209268 tw4790854305077395922 tw2774765553192953064 tw8662949336465005143 tw14379959490728323974 tw9080191737674099114 tw7235621894067064060 tw12538333646827664954 tw3023527927742639984 tw887570502245970743 tw17382674273577705879 tw4605787041728200865 tw16250751572154893188 tw4181163165568823245 tw9217577128270780160 tw16997605621893386250 tw1276164671519343153 tw14590527603015825262 tw4293940366309830280 tw13677698539348783567 tw4393667403505262594 tw15281269510424157014 tw7831678011668286608 tw16549559769737232353 tw5056733663004108850 tw1163490964732926877 tw8531594950929875837 tw3640765643657362421 tw9133200625067847687 tw16612215521444882706 tw9092478689848654026 tw7629178412437538112 tw6274634725026025417 tw1571122928966946300 tw9290693997487778241 tw9677260775579365657 tw5476562025002347201 tw633775279600388351 tw5162290235345505080 tw13857794827510817756 tw514567948896625490 tw2225458728165692939 tw13422749425289676155 tw16636999072691643792 tw11297918945503062834 tw8461193165864328639 tw7225310123640787969 tw5592635199090363286 tw3629787776127786625 tw14733460115241286179 tw8819552037569669597 tw6236083019523384321 tw749166644478156223 tw7146201922165451245 tw1136641186451442253 tw16244520600239344674 tw11009343266361800001 tw1802996535980910225 tw10420827836465973206 tw2357655182935118811 tw6373139355993113701 tw9517229258224703902 tw570725083127055554 tw6729595368327924972 tw457587332898002371 tw15945275952288232207 tw6772865129531066312 tw2543900776542071019 tw9760497717217927702 tw5009464375676903151 tw14622706438662120607 tw10392477464608682 tw16271604980257496126 tw13277642404983263776 tw12510306921573899733 tw10204078202625047950 tw15154074918169050280 tw1253993610464743182 tw16046515754554985183 tw5997517898574508332 tw18376140201572078710 tw51118799092997636 tw17223139778419481546 tw16281853197705216539 tw9390691681931545884 tw6215749871031022954 tw4242068310756358325 tw15903743964857555556 tw11303993447964973515 tw15088638578118274765 tw17488404239663387981 tw515951581354834377 tw17073411827824682324 tw9952867362723634202 tw11751574098734652480 tw6766510101778946132 tw6852777184941790727 tw11816554338866614501 tw17873105368157447992 tw6634232140784891927 tw11864634914462115963 tw1558923714183055874 tw8462583329109808500 tw7774912578016969233 tw9166100950966463079 tw12967212747282984246 tw835082656813634416 tw11908996405111850417 tw2492514630206363343 tw11002749880730655000 tw11292359207707163763 tw6500862812006980933 tw10650073230676183961 tw10752022196948639922 tw18195183342046264528 tw10360354965149400614 tw3196579600172331759 tw104023606414800041 tw16415016341277745684 tw7350662421835213611:True)
open PySem PySem.W PyProof.Rows
end
set_option maxRecDepth 100000 in
set_option maxHeartbeats 0 in
theorem PySem.Challenge.cw_rollcode_k37_shared_by_turns_holds : PySem.Challenge.rw_rollcode_k37_shared_by_turns.Holds := by
 w_on;o_law;k_head;(case hw=>w_witness2)
 k_fill
 refine Lw.Bz (l:=PySem.Challenge.rw_rollcode_k37_shared_by_turns) rfl rfl (fun w h Y=>PySem.W.kIn_of Y) ?F
 case F=>
  intro w mg fa h KX G hmg;refine' Lw.Fl KX G hmg ..
  all_goals first|k_is|(refine' L3.FO KX G ..<;>first|k_is|skip)|(refine' L3.DZ ..<;>first|k_is|skip)|kernel_rfl|(refine' ⟨?_,⟨?_,?_,?_,?_,?_,?_⟩,L3.all_kits ?_ ?_ ?_ ?_ ?_ ?_ ?_ ?_,?_⟩<;>kernel_rfl)|decide|skip