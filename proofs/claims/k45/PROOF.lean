import PyProof.Rows.All
import Wide.All
import OpenK.AllK
import Wide.FinOn
import Lean
import PyProof.EqAt
import PyProof.EqKinds
import PyProof.TupleCall
import PySem.Challenge.RW_rollcode_k45_doors_taught
import PyProof.StationsW
import PyProof.ExcClass2
import OpenK.KOwn
import PyProof.ExcBaseAll.ValueError
import PyProof.RulesAs
import PyProof.NsDelKeeps
import PyProof.Rows.Catch
import KE.KIsAll
import PyProof.ExcArgsOwn
import PyProof.Rows.CatchOwn
import PyProof.ExcAttrAll.ValueError
import PyProof.AttrMissHeap
import PyProof.Rows.SetFrom
import KE.KDictOf
import PyProof.DictWalks
import PyProof.Rows.DictUnroll
import PyProof.ExcInit
import PyProof.InstStoreFacts
import PyProof.FString
import OpenK.KCls
import PyProof.ListMulRoad
import PyProof.FactsAll.tuple_2
import PyProof.DictValues
import PyProof.AutoSeq1
import PyProof.FactsAll.list_3
import PyProof.DictItems
import PyProof.Rows.RegStrFacts
set_option genSizeOf false
set_option bootstrap.genMatcherCode false
set_option Elab.async false
set_option maxRecDepth 100000
set_option maxHeartbeats 4000000
set_option linter.unusedVariables false
set_option linter.all false
noncomputable section
def PySem.rpat:Nat→Lean.Term→Lean.MacroM (Lean.TSyntax `rcasesPat)
|0,_=>Lean.Macro.throwUnsupported
|n+1,t=>match t with
 |`(#[$xs,*])=>do
  let ys←xs.getElems.mapM fun x=>do `(Lean.Parser.Tactic.rcasesPatLo|$(←rpat n x):rcasesPat)
  `(rcasesPat|⟨$ys,*⟩)
 |`($x:ident)=>`(rcasesPat|$x:ident)
 |`(_)=>`(rcasesPat|_)
 |_=>Lean.Macro.throwUnsupported
local macro_rules|`(#[$xs,*])=>do
 let mut y:=#[]
 for x in xs.getElems do
  if let some n:=x.raw.isNatLit? then
   for c in ("_Z ___ZZ _Z_Z _ZZ_Z __ZZ _Z_Z_Z __Z Z_Z __ ZZ _Z_ Z__Z__ZZ __ZZ_Z Z__Z__Z__ZZ _Z_Z__ZZ _Z__ZZ _Z__ZZ_Z _ZZ _Z__ZZ_Z__ZZ_Z__ZZ__ZZ ___Z _Z_ZZ_Z ___ _Z_Z_Z__ZZ__ZZ_Z ZZZ _Z_Z_Z__ZZ_Z__ZZ_Z__ZZ__ZZ Z_ ____Z _Z_Z_Z_Z _Z_Z_Z_Z_Z _Z__Z_Z __ZZ__ZZ_Z Z__ZZ_Z __ZZ_Z__ZZ Z__ZZ Z__Z__Z__Z__Z__ZZ Z_Z__ZZ ZZ_Z __ZZ__ZZ__ZZ _Z_Z_Z_Z__ZZ _Z_ZZ_ZZ__ZZ _Z_Z_Z_Z_Z_Z ZZZZ _Z_Z__ZZ_Z _Z_Z_Z__ZZ _Z__ZZ__ZZ __ZZ__Z_Z Z_Z_Z _Z_ZZ __Z__ZZ_Z Z__ZZZ_Z __ZZ__ZZ Z__Z".splitOn " ")[n]!.toList do
    if c=='Z' then y:=y.push (←`(rfl)) else y:=y.push (←`(_))
  else y:=y.push x
 `(⟨$y,*⟩)
local macro_rules|`(-$x)=>if x.raw.isIdent||x.raw.isOfKind ``Lean.Parser.Term.proj then `(.ref $x) else Lean.Macro.throwUnsupported
local macro_rules|`(tactic|exists $xs,*)=>`(tactic|refine#[$xs,*, ?_])
local macro_rules|`(tactic|let $d:letDecl)=>do
 let d:=d.raw[0]
 let p←PySem.rpat 9 ⟨d[0]⟩
 let e:Lean.Term:=⟨d[4]⟩
 if d[2].getNumArgs==0 then `(tactic|obtain $p:rcasesPat := $e) else
 let y:Lean.Term:=⟨d[2][0][1]⟩
 `(tactic|obtain $p:rcasesPat : $y := $e)
local macro_rules|`(↑$x)=>`(some $x)
theorem Z.{u}{α:Sort u}{a:α}:a=a:=rfl
local macro_rules|`($d:declaration)=>do
 let s:=d.raw
 if s[1][2][1].isNone&&s[1][3].isNone&&s[1][4][0][3].getId==`mk&&s[1].isOfKind ``Lean.Parser.Command.inductive then
  let e:=(←`(inductive X(vs:Β)(H:Hp)(Q:VK)(_:XK):Prop)).raw.rewriteBottomUp λy=>if y.isIdent then Lean.mkIdent y.getId.eraseMacroScopes else y
  return s.setArg 1 (s[1].setArg 2 (e[1][2].setArg 0 (Lean.mkNullNode (s[1][2][0].getArgs++e[1][2][0].getArgs))))
 Lean.Macro.throwUnsupported
local macro_rules|`(nofun)=>`(by decide +kernel)
local macro_rules|`(⋯)=>`(by decide)
abbrev q9:List PySem.Str:=["self"]
noncomputable abbrev x5:List PySem.Str:=["self","table","keys","near","far","most"]
abbrev u0:List PySem.Str:=["self","name"]
abbrev u7:List PySem.Str:=["_law_box_here","_law_many"]
abbrev Q2:List PySem.Str:=["_law_found","_law_due_here"]
abbrev X0:List PySem.Str:=["_law_house","_law_deed_here"]
abbrev X1:List PySem.Str:=["_law_word","_law_place"]
abbrev X2:List PySem.Str:=["self","age"]
noncomputable abbrev X3:List PySem.Str:=["_law_box_here","_law_own_here","_law_words"]
noncomputable abbrev X4:List PySem.Str:=["_law_own_here","_law_deed_here"]
noncomputable abbrev X5:List PySem.Str:=["self","name","table","key","age","step"]
noncomputable abbrev X6:List PySem.Str:=["_law_own_here","_law_button","_law_deed_here","_law_doors"]
abbrev X7:List PySem.Str:=["table","key","digits"]
noncomputable abbrev X8:List PySem.Str:=["_law_own_here","_law_word","_law_button","_law_parts"]
noncomputable abbrev X9:List PySem.Str:=["_law_own_here","_law_word","_law_name","_law_parts"]
abbrev W0:List PySem.Str:=["self","key"]
abbrev W1:List PySem.Str:=["_law_box_here"]
abbrev W3:List PySem.Str:=["self","button"]
noncomputable abbrev W4:List PySem.Str:=["_law_house","_law_own_here","_law_deed_here"]
abbrev W5:List PySem.Str:=["self","door","button"]
abbrev W6:List PySem.Str:=["thing"]
noncomputable abbrev W7:List PySem.Str:=["table","key","name","age","count","deed"]
noncomputable abbrev W8:List PySem.Str:=["_law_own_here","_law_gate","_law_button"]
noncomputable abbrev W9:List PySem.Str:=["_law_own_here","_law_name","_law_number"]
noncomputable abbrev V0:List PySem.Str:=["_law_house","_law_own_here","_law_count"]
noncomputable abbrev V1:List PySem.Str:=["_law_box_here","_law_some","_law_other"]
noncomputable abbrev V2:List PySem.Str:=["_law_own_here","_law_word","_law_part"]
abbrev V3:List PySem.Str:=["self","thing"]
noncomputable abbrev V4:List PySem.Str:=["button","age","count","near","far"]
abbrev V5:List PySem.Str:=["self","pressed","deed"]
abbrev V7:List PySem.Str:=["_law_script","_law_k"]
noncomputable abbrev V8:List PySem.Str:=["self","name","near","far","most"]
noncomputable abbrev V9:List PySem.Str:=["_law_table_here","_law_key_here"]
abbrev Y0:List PySem.Str:=["table","key","press"]
abbrev Y1:List PySem.Str:=["self","button","age"]
abbrev Y2:List PySem.Str:=["self","one","other"]
abbrev Y3:List PySem.Str:=["table","key","name"]
noncomputable abbrev Y4:List PySem.Str:=["self","button","deed","doors"]
abbrev Y5:List PySem.Str:=["self","button","age","count"]
abbrev Y6:List PySem.Str:=["self","place"]
abbrev Y7:List PySem.Str:=["self","deed"]
abbrev Y8:List PySem.Str:=["self","door"]
open PySem.W (Frag)
set_option compiler.extract_closed false
open Or renaming inl->SF
open Sum renaming inr->SJ,inl->TJ
open True renaming intro->SM
open PySem.Str renaming ofString->SV
open PySem.Data renaming cell->Sf,fields->Sg
open PySem.SeqAt.EqAt renaming same->Sy
open PySem.SeqAt.RcAt renaming tuples->TC
open PySem renaming wpAny_bind->JH,wpAny_pure->JP,sizeLine_eq->JV,boot_len->Ld,wpAny_field->Lf,wpAny_mono->Lg,wpAny_loadPart_at->Lv,wpAny_holding->LD,wpAny_newObj_type->LH,wpAny_call_entry->LK,wpAny_of_eq->LX,wpAny_truthy_bool->L4,wpAny_standAt->L5,wpAny_pyIter_tuple->Md,call_meets->Mh,wpAny_setField->Ml,wpAny_rule->Mr,wpAny_passesOwn->Ms,codeAny_mono->Mu,wpAny_seqItems->MA,wpAny_execs_nil->MG,wpAny_call->MI,mem_of_lookup->MJ,wpAny_loadPart'->MQ,wpAny_attempt->MR,wpAny_specialOf->MS,wpAny_pyIter_list->MY,wpAny_Call_Name_kw->M0,wpAny_pyIter_enum->M8,wpAny_setField_rec->Nb,isSubtype_type->Nd,tupleKind_room_in1->Nh,wpAny_isSubtype_exc->Nk,codeAny_call_builtin->Nl,strLen_append->Np,typeLookup_type->NH,builtinLookup_eq_fast->NI,codeAny_builtin->NJ,wpAny_pyIter_rangeiter->NS,wpAny_Call_method0_late->NX,evalArgs_none->NY,Value->Γ,Addr->Δ,Shared->Θ,Program->Ξ,Expr->Φ,Heap->Ψ,World->Ω,Builtin->γ,Stmt->δ,wpAny->ε,sizeLine->ζ,mainGlobals->η,starEach->θ,compareOp->SL,Around->SO,callWith->TF
open List renaming length_map->JI,mem_singleton->JN,mem_cons->JO,getElem?_eq_getElem->JQ,mem_of_getElem?->JU,getElem?_map->JW,not_mem_nil->JX,getElem?_eq_some_iff->JZ,length_append->J0,mem_append->J1,mem_cons_self->J3,mem_map->J7,size_toArray->J9,mem_cons_of_mem->F0,map_append->La,getD_eq_getElem?_getD->Lj,map_cons->Ls,nodup_cons->LF,length_cons->LI,lookup_cons->LL,length_take->LO,take_add_one->LP,mem_append_right->LS,getElem?_append_right->LV,map_map->LY,getElem?_append_left->L6,all_eq_true->L8,getElem_mem->L9,length_set->Mg,take_length->Mm,mem_range->Mq,nodup_nil->ME,any_cons->ML,find?_cons->MU,getElem?_set_self->MX,append_nil->MZ,replicate_succ->M5,map_congr_left->Nc,getElem?_eq_none->Ng,getElem_map->Ni,contains_cons->Nj,mem_filter->Nr,mem_append_left->Nu,getElem?_set_ne->Nv,length_replicate->Nx,length_drop->Nz,map_nil->NB,flatten_cons->NC,append_assoc->ND,nil_append->NF,filterMap_cons->NR,take_of_length_le->NZ,lookup_cons_self->N3,nodup_append->N6,getElem?_append->N8,getElem?_range->N9,toArray->B0,replicate->CC,range->C2,lookup->Ds,of_mem_zip->KC,foldl->KD,ext_getElem->KM,cons_append->KP,length_nil->KS,any_eq_true->KU,getElem_toArray->KW,getElem?_set->Ka,getElem_inj->Kd,mem_filterMap->Kf,getElem?_replicate->Kh,all_cons->Kj,reverse_cons->Kk,length_singleton->Kl,map_take->Ko,map_drop->Kp,zipIdx_cons->Kq,zipIdx_nil->Kr,forIn_cons->Kt,forIn_nil->Ku,getElem_set->Kv,drop_eq_getElem_cons->Kz,drop_zero->K2,filter_cons->K5,length_filter_le->K6,pairwise_cons->K8,filter_sublist->K9,getElem?_of_mem->N0,replicate_succ'->R3,Nodup->SQ
open Nat renaming le_refl->JL,ne_of_lt->J4,le_trans->Lc,zero_le->Li,lt_of_lt_of_le->Ll,le_succ->Lr,ne_of_gt->LB,lt_irrefl->LC,succ_le_succ->LM,lt_succ_self->LU,le_succ_of_le->MD,lt_succ_of_lt->MN,le_of_lt->Nt,le_of_eq->Nw,min_le_right->Ny,le_add_right->NQ,lt_of_le_of_lt->Gx,sub_le->KA,add_comm->KG,le_of_not_lt->KH,sub_one_lt_of_lt->KI,lt_trans->KL,sub_right_comm->Kc,le_antisymm->Ky,min_eq_left->L1,lt_of_succ_lt->Pr,sub_add_cancel->RX,sub_pos_of_lt->RY,sub_add_eq->RZ
open PySem.Heap renaming get?_push_of_some->JR,lt_size->JS,get?_push_size->J2,size_push->LJ,get?_update_other->L7,get?_update_self->Me,get?_none_of_le->MW
open PyProof.Rows renaming boot_isinstance->J6,boot_tuple->J8,boot_list->LA,boot_str->LZ,callWith_type1->MH,boot_int->MV,boot_all->Nq,slot_tuple_getitem->NA,boot_bool->NN,boot_max->NO
open Bool renaming false_ne_true->Le,and_eq_true->Lz,false_and->LR,true_and->Mp,eq_iff_iff->Mt,eq_false_iff->Nm,not_eq_true'->N7,or_true->KY,false_eq_true->K0,false_or->K4
open PySem.F renaming plainAttrs_list->Lk,slot_list_append->Lx,type_list_append->Ly,excBase_ValueError->LG,slot_tuple_iterator_next->NG,plainAttrs_dict->NL,slot_zip_next->NP,slot_tuple_add->NU,entry_tuple_add->NV,args_tuple_add_2->NW,slot_dict_get->N5,slot_dict_itemiterator_iter->Sa,args_tuple_iterator_next_1->Sj,entry_tuple_iterator_next->Sk
open PySem.W renaming mg_of->Lm,mg_none_of->Lq,kia_one->Lu,looks_findIn->Mo,kia_tup->MB,callWith_K->M3,methodCall_KW->NK,Frag->ι,findIn->SK,nsIn->SN,kitOne->SR,findIn->SU,emptyDict->SW,keepIn->SX,kitOne->SY,keepIn->Si,plainGet->Sm,hasDictIn->So,fnOf->Sw,instObj->Sx,plainOver->S0,kitx_list->TB,makesIn->TK
open Option renaming map_eq_some_iff->Lo,isSome_iff_exists->Mw,getD_some->MO,isSome_map->N4,toList_some->KN,getD_none->Ki,isSome_iff_ne_none->R0,some->TH
open PySem.Obj renaming data_mapFields->Ma,isFreed_of_fields->MP,mapFields->SZ,cls_mapFields->Sv,mapSeq->Sz
open Int renaming emod_lt_of_pos->Mb,emod_nonneg->Mn,le_refl->MC,toNat_natCast->M9,zero_add->I0,toNat_of_nonneg->I1,add_assoc->KB,toNat_lt->KJ,sub_sub->KO,toNat_sub->KQ,toNat_le->KZ,emod_add_mul_ediv->K3,lt_of_lt_of_le->RS
open Array renaming length_toList->Mc,getElem?_eq_some_iff->Nf,toList->Ke,find?_toList->Kg,getElem?_toList->K7
open PySem.Calls renaming callWith_builtin->MM,evalArgs_plain->M4,spliced_cons->Sn,spliced_nil->Su
namespace L0
abbrev _root_.Α:=List PySem.Str
abbrev _root_.Ε:=List Int
abbrev _root_.Ζ:=List Γ
abbrev _root_.Η:=List Δ
abbrev _root_.Ι:=List Φ
abbrev _root_.Κ:=Option Δ
abbrev _root_.Λ:=Option Int
abbrev _root_.Μ:=List Nat
abbrev _root_.Ν:=Option Γ
abbrev _root_.Ρ:=List PySem.Env
abbrev _root_.Υ:=Option Φ
abbrev _root_.Χ:=List PySem.Keyword
abbrev JJ:=@if_neg
abbrev JK:=@if_pos
abbrev JM:=@decide_eq_true
abbrev JT:=@decide_eq_false
abbrev JY:=@or_false
abbrev J5:=@of_decide_eq_true
abbrev Lh:=@congrArg
abbrev LN:=@beq_iff_eq
abbrev LQ:=@beq_self_eq_true
abbrev LW:=@if_true
abbrev Mj:=@beq_false_of_ne
abbrev Mz:=@decide_eq_true_iff
abbrev MF:=@beq_eq_false_iff_ne
abbrev MK:=@if_false
abbrev Nn:=@not_false_eq_true
abbrev Lb:=@Option.some.inj
abbrev Ln:=@PySem.PassesOwn.never
abbrev MT:=@PySem.Around.in1_units
abbrev Na:=@PySem.Heap.SameBut.update
abbrev NM:=@PySem.Code.quiet_builtin
end L0
open L0
namespace L0
open PySem
abbrev Om:=Γ->Θ->Prop
abbrev On:=Str->Ν
abbrev Oo:=List (Δ×Obj)
end L0
open L0
namespace L2
open PySem PySem.Spec PyProof.Rows
abbrev qO:=Sum Int Str
noncomputable def gh:qO->Γ->Bool
 | .inl k,v=>Γ.isInt k v
 | .inr x,v=>Γ.isStrOf x v
noncomputable def Ji(w:Ω):qO->Int
 | .inl k=>hashInt k
 | .inr x=>hashStr w x
def Qo:∀{k:qO} {v:Γ},gh k v=true->(∃i t,k=TJ i/\v=Γ.int i t)\/(∃x t,k=SJ x/\v=Γ.str x t)
 | .inl i,v,h=>by
  let#[t,e]:=Γ.isInt_shape (k:=i) (v:=v) h
  exact .inl #[i,t,Z,e]
 | .inr x,v,h=>by
  let#[t,e]:=Γ.isStrOf_shape (x:=x) (v:=v) h
  exact .inr #[x,t,Z,e]
def Bp(i:Int)(t:Tok):gh (.inl i) (.int i t)=true:=by simp [gh,Γ.isInt]
def yz(x:Str)(t:Tok):gh (.inr x) (.str x t)=true:=by simp [gh,Γ.isStrOf]
def HU(a b:Int):decide ((TJ a:qO)=TJ b)=(a==b):=by
 by_cases e:a=b
 .subst e;simp
 .have h:¬(TJ a:qO)=TJ b:=λq=>e (Sum.inl.inj q)
  rw[JT h]
  exact(MF.mpr e).symm
def Gf(a b:Str):decide ((SJ a:qO)=SJ b)=decide (a=b):=by
 by_cases e:a=b
 .subst e;simp
 .have h:¬(SJ a:qO)=SJ b:=λq=>e (Sum.inr.inj q)
  rw[JT h,JT e]
def GN(a:Int)(b:Str):decide ((TJ a:qO)=SJ b)=false:=JT (λq=>nomatch q)
def GX(a:Str)(b:Int):decide ((SJ a:qO)=TJ b)=false:=JT (λq=>nomatch q)
noncomputable def zf(prog:Ξ)(w:Ω):PySem.KeyKind prog w qO where
 is:=gh
 hash:=Ji w
 inj:=λv a b g d=>by
  rcases Qo g with⟨i,t,rfl,rfl⟩|⟨x,t,rfl,rfl⟩
  .rcases Qo d with⟨j,u,rfl,e⟩|⟨y,u,rfl,e⟩
   .injection e with e1 _;rw[e1]
   .exact nomatch e
  .rcases Qo d with⟨j,u,rfl,e⟩|⟨y,u,rfl,e⟩
   .exact nomatch e
   .injection e with e1 _;rw[e1]
 byValue:=λk v h=>by
  rcases Qo h with⟨i,t,rfl,rfl⟩|⟨x,t,rfl,rfl⟩<;>rfl
 pyHash:=λc h=>by
  rcases Qo c with⟨i,t,rfl,rfl⟩|⟨x,t,rfl,rfl⟩
  .exact wpAny_pyHash_int h
  .exact wpAny_pyHash_str h
 eqBool:=λf c h=>by
  rcases Qo f with⟨i,t,rfl,rfl⟩|⟨x,t,rfl,rfl⟩
  .rcases Qo c with⟨j,u,rfl,rfl⟩|⟨y,u,rfl,rfl⟩
   .rw[HU]at h;exact wpAny_eqBool_int h
   .rw[GN]at h;exact SeqAt.EqAt.int_str i t y u _ _ _ _ h
  .rcases Qo c with⟨j,u,rfl,rfl⟩|⟨y,u,rfl,rfl⟩
   .rw[GX]at h;exact SeqAt.EqAt.str_int x t j u _ _ _ _ h
   .rw[Gf]at h;exact wpAny_eqBool_str h
 «strs»:=λk x t v h=>by
  rcases Qo h with⟨i,u,rfl,e⟩|⟨y,u,rfl,e⟩
  .exact nomatch e
  .injection e with e1 _
   subst e1;cases v<;>rfl
def uE(prog:Ξ)(w:Ω)(i:Int)(t:Tok):(zf prog w).is (.inl i) (.int i t)=true:=Bp i t
def uK(prog:Ξ)(w:Ω)(x:Str)(t:Tok):(zf prog w).is (.inr x) (.str x t)=true:=yz x t
inductive V where
 |non|bl (b:Bool)|int (i:Int)|str (x:Str)|byt (b:Array UInt8)|flt (b:UInt64)|ref (a:Δ)|ty (n:String)
 deriving DecidableEq
abbrev _root_.Ο:=Option V
abbrev _root_.Β:=List V
def Oz:V->Γ->Prop
 | .non,u=>u=Γ.none
 | .bl b,u=>u=Γ.bool b
 | .int i,u=>∃t,u=Γ.int i t
 | .str x,u=>∃t,u=Γ.str x t
 | .byt b,u=>∃t,u=Γ.bytes b t
 | .flt b,u=>∃t,u=Γ.float b t
 | .ref a,u=>u=Γ.ref a
 | .ty n,u=>u=Γ.type n
abbrev OB:Β->Ζ->Prop:=Paired Oz
theorem OB.length(r:OB xs us):xs.length=us.length:=Paired.length r
theorem OB.get:∀{xs:Β} {us:Ζ} {i:Nat} {x:V},OB xs us->xs[i]? =↑x->∃u,us[i]? =↑u/\Oz x u
 |_,_,_,_,.nil,e=>by simp at e
 |_,_,0,_,.cons r _,e=>by simp at e;subst e;exact#[0,r]
 |_,_,i+1,x,.cons _ t,e=>by
  let#[u,h1,a]:=OB.get (i:=i) (x:=x) t (by simpa using e)
  exact#[u,by simpa using h1,a]
theorem OB.set{x:V}{u:Γ}(r:Oz x u):∀{xs:Β} {us:Ζ} (i:Nat),OB xs us->OB (xs.set i x) (us.set i u)
 |_,_,_,.nil=> .nil
 |_,_,0,.cons _ t=> .cons r t
 |_,_,i+1,.cons q t=> .cons q (OB.set r i t)
theorem OB.append:∀{xs ys:Β} {us ws:Ζ},OB xs us->OB ys ws->OB (xs++ys) (us++ws)
 |_,_,_,_,.nil,s=>s
 |_,_,_,_,.cons r t,s=> .cons r (OB.append t s)
theorem OB.take:∀{xs:Β} {us:Ζ} (n:Nat),OB xs us->OB (xs.take n) (us.take n)
 |_,_,0,_=> .nil
 |_,_,_+1,.nil=> .nil
 |_,_,n+1,.cons r t=> .cons r (OB.take n t)
theorem OB.drop:∀{xs:Β} {us:Ζ} (n:Nat),OB xs us->OB (xs.drop n) (us.drop n)
 |_,_,0,r=>r
 |_,_,_+1,.nil=> .nil
 |_,_,n+1,.cons _ t=>OB.drop n t
def PL:Ο->Ν->Prop
 |some v,↑u=>Oz v u
 |none,none=>True
 |_,_=>False
def KV{κ:Type}:List (κ×V)->List (κ×Γ)->Prop:=Paired λ(p:κ×V) (q:κ×Γ)=>p.1=q.1/\Oz p.2 q.2
def kV:qO->V
 | .inl i=> .int i
 | .inr x=> .str x
inductive HO where
 |lst (xs:Β)
 |tup (xs:Β)
 |dK (kvs:List (qO×V))|dT (kvs:List (List qO×V))
 |set (S:Int->Bool)(n:Nat)
 |ins (C dx:Δ)(fs:List (Str×V))
 |own (x:Δ)
 |xd (fs:List (Str×V))
 |met (f x:Δ)
 |rng (lo hi:Int)
 |frz (o:Obj)(u:HO)
 |tbl (ps:Array Γ)
 |ext (φ:Ψ->Prop)
abbrev Hp:=Δ->Option HO
noncomputable def Ot(H:Hp)(a:Δ)(o:HO):Hp:=λb=>if b=a then ↑o else H b
def qb:Ot H a o a=↑o:=by unfold Ot;rw[JK Z]
def qk{a b:Δ}(h:b≠a):Ot H a o b=H b:=by unfold Ot;rw[JJ h]
def zn{H:Hp}{b:Δ}{o u:HO}(h:H a=↑o)(h':H b=↑u)(d:o≠u):a≠b:=by
 intro e;subst e;rw[h]at h';exact d (Lb h')
def qr{H:Hp}{b:Δ}{o:HO}(h:H a=↑o)(h':H b=none):a≠b:=by
 intro e;subst e;rw[h]at h';cases h'
section
variable(P:Ξ)(w:Ω)
def OI(H:Hp)(h:Ψ)(a:Δ):HO->Prop
 | .lst xs=>xs.length<=ζ/\∃(its:Ζ) (n:Nat),OB xs its/\h.get? a=some {cls:= .type "list",data:= .seq its.toArray n}
 | .tup xs=>xs.length<=ζ/\∃its:Ζ,OB xs its/\IsTup h a its.toArray
 | .dK kvs=>kvs.length<=ζ/\(a==sysModules)=false/\∃d,KV kvs d/\h.DictOf (zf P w) a d
 | .dT kvs=>kvs.length<=ζ/\(a==sysModules)=false/\∃xs:List (List qO×Δ×Γ),
   Paired (λ(p:List qO×V) (q:List qO×Δ×Γ)=>p.1=q.1/\H q.2.1=↑(.tup (p.1.map kV))/\Oz p.2 q.2.2) kvs xs/\
   ∃o es e,h.get? a=↑o/\o.ExactDict/\o.data= .dict es e/\es.toList=xs.map (entryOfKey (tupleKind (zf P w)))/\(xs.map (·.1)).Nodup
 | .set S n=>h.SetOf (intKind P w) a S n
 | .ins C dx fs=>H dx=↑(.own a)/\fs.length<=1000/\dx≠a/\h.get? a=↑(PySem.W.instObj C dx)/\
   ∃mA,h.Ns1 dx mA/\(∀f,PL (fs.lookup f) (mA f))/\PySem.Within mA (fs.map (·.1))
 | .own _=>∃o,h.get? a=↑o
 | .xd fs=>∃mA,h.Ns1 a mA/\∀f,PL (fs.lookup f) (mA f)
 | .rng lo hi=>∃t u v,h.get? a=some {cls:= .type "range",data:= .fields (B0 [.int lo t,.int hi u,.int 1 v])}
 | .frz o u=>h.get? a=↑o/\OI H h a u
 | .tbl ps=>h.get? a=some {cls:= .none,data:= .fields ps}
 | .met f x=>h.get? a=↑(PySem.W.methodObj (-f) (-x))
 | .ext φ=>φ h/\(∃o,h.get? a=↑o)/\∀h1 c:Ψ,φ h1->(∀o,h1.get? a=↑o->c.get? a=↑o)->φ c
def PN(H:Hp)(h:Ψ):Prop:=∀a o,H a=↑o->OI P w H h a o
end
theorem OI.lt(x:OI P w H h a o):a<h.objs.size:=by
 cases o with
 |lst xs=>let#[_,_,_,_,e]:=x;exact JS e
 |tup xs=>let#[_,_,_,p]:=x;exact p.lt
 |dK kvs=>let#[_,_,_,_,o,_,_,e,_]:=x;exact JS e
 |dT kvs=>let#[_,_,_,_,o,_,_,e,_]:=x;exact JS e
 |set S n=>let#[o,_,_,_,e,_]:=x;exact JS e
 |ins C dx fs=>let#[_,_,_,e,_]:=x;exact JS e
 |own y=>let#[_,e]:=x;exact JS e
 |xd fs=>let#[_,#[_,_,_,e,_],_]:=x;exact JS e
 |rng lo hi=>let#[_,_,_,e]:=x;exact JS e
 |frz ob u=>let#[e,_]:=x;exact JS e
 |tbl ps=>exact JS (show h.get? a=↑_ from x)
 |met f y=>exact JS (show h.get? a=↑_ from x)
 |ext φ=>let#[_,#[_,e],_]:=x;exact JS e
theorem Paired.mapP{α d:Type}{F G:α->d->Prop}:∀{l₁:List α} {c:List d},Paired F l₁ c->(∀a b,F a b->G a b)->Paired G l₁ c
 |_,_,.nil,_=> .nil
 |_,_,.cons r t,f=> .cons (f _ _ r) (Paired.mapP t f)
def OI.stay(x:OI P w H h a o)(k:∀b u,(b=a\/H b=↑(.own a))->h.get? b=↑u->h'.get? b=↑u)
  (ho:∀b,H b=↑(.own a)->H' b=↑(.own a))(l:∀b xs,H b=↑(.tup xs)->H' b=↑(.tup xs)):OI P w H' h' a o:=by
 induction o with
 |lst xs=>let#[z,j,n,r,e]:=x;exact#[z,j,n,r,k _ _ (.inl Z) e]
 |tup xs=>let#[z,j,r,g,e,c]:=x;exact#[z,j,r,g,k _ _ (.inl Z) e,c]
 |dK kvs=>let#[z,y,m,r,g,es,i,e,c]:=x;exact#[z,y,m,r,g,es,i,k _ _ (.inl Z) e,c]
 |dT kvs=>
  let#[z,y,xs,r,g,es,i,e,c]:=x
  exact#[z,y,xs,Paired.mapP r λp q z=>#[z.1,l _ _ z.2.1,z.2.2],g,es,i,k _ _ (.inl Z) e,c]
 |set S n=>let#[g,es,i,t,e,c]:=x;exact#[g,es,i,t,k _ _ (.inl Z) e,c]
 |ins C dx fs=>
  let#[d,z,ne,e,mA,#[od,es,i,s,c],r]:=x
  exact#[ho _ d,z,ne,k _ _ (.inl Z) e,mA,#[od,es,i,k _ _ (.inr d) s,c],r]
 |own y=>let#[g,e]:=x;exact#[g,k _ _ (.inl Z) e]
 |xd fs=>let#[mA,#[od,es,i,e,c],r]:=x;exact#[mA,#[od,es,i,k _ _ (.inl Z) e,c],r]
 |rng lo hi=>let#[t,u,v,e]:=x;exact#[t,u,v,k _ _ (.inl Z) e]
 |frz g u ih=>let#[e,q]:=x;exact#[k _ _ (.inl Z) e,ih q]
 |tbl ps=>
  have e:h.get? a=some {cls:= .none,data:= .fields ps}:=x
  show h'.get? a=some {cls:= .none,data:= .fields ps}
  exact k a _ (.inl Z) e
 |met f y=>
  have e:h.get? a=↑(W.methodObj (-f) (-y)):=x
  show h'.get? a=↑(W.methodObj (-f) (-y))
  exact k a _ (.inl Z) e
 |ext φ=>let#[p,#[o,e],st]:=x;exact#[st _ _ p λo q=>k _ _ (.inl Z) q,#[o,k _ _ (.inl Z) e],st]
theorem PN.lt(x:PN P w H h)(e:H a=↑o):a<h.objs.size:=(x a o e).lt
def PN.fresh(x:PN P w H h)(e:h.objs.size<=a):H a=none:=by
 cases q:H a with
 |none=>rfl
 |some u=>exact absurd (Ll (x.lt q) e) (LC _)
def PN.kept(x:PN P w H h)(k:∀b u,h.get? b=↑u->h'.get? b=↑u):PN P w H h':=λa o e=>
 (x a o e).stay (λb u _ q=>k b u q) (λ_ q=>q) λ_ _ q=>q
def PN.laid(x:PN P w H h)(k:∀b u,h.get? b=↑u->h'.get? b=↑u)(hp:h.objs.size<=a)(new:OI P w (Ot H a o) h' a o):PN P w (Ot H a o) h':=λb u e=>by
 have f:=x.fresh hp
 by_cases d:b=a
 .subst d;rw[qb]at e;cases e;exact new
 .rw[qk d]at e
  exact(x b u e).stay (λc v _ q=>k c v q) (λc q=>by rw[qk (qr q f)];exact q) λc xs q=>by rw[qk (qr q f)];exact q
def Rd(H:Hp)(a:Δ)(u:HO):Prop:=H a=↑u\/∃o,H a=↑(.frz o u)
def Rd.ok(r:Rd H a u)(x:PN P w H h):OI P w H h a u:=by
 rcases r with r|⟨o,r⟩
 .exact x a u r
 .let#[_,q]:=x a _ r
  exact q
def AD:Option HO->Prop
 |some (.lst _)=>True
 |some (.dK _)=>True
 |some (.dT _)=>True
 |some (.set _ _)=>True
 |some (.ins _ _ _)=>True
 |some (.ext _)=>True
 |_=>False
def PN.write(ok:PN P w H h)(g:AD (H x))(he:e=x\/H e=↑(.own x))(k:∀b u,b≠e->h.get? b=↑u->h'.get? b=↑u)(l:∃u,h'.get? e=↑u)
  (new:OI P w (Ot H x o') h' x o'):PN P w (Ot H x o') h':=λb u q=>by
 have d:∀c y,H c=↑(.own y)->c≠x:=λc y r z=>by subst z;rw[r]at g;exact g
 have f:∀c xs,H c=↑(.tup xs)->c≠x:=λc xs r z=>by subst z;rw[r]at g;exact g
 by_cases i:b=x
 .subst i;rw[qb]at q;cases q;exact new
 .rw[qk i]at q
  by_cases a:b=e
  .have m:H b=↑(.own x):=by
    rcases he with z|z
    .exact absurd (a.trans z) i
    .rw[a];exact z
   rw[q]at m;cases m
   let#[v,n]:=l
   exact#[v,by rw[a];exact n]
  .refine(ok b u q).stay (λc v j r=>k c v ?_ r) (λc r=>by rw[qk (d c b r)];exact r) λc xs r=>by rw[qk (f c xs r)];exact r
   rcases j with rfl|j
   .exact a
   .rintro rfl
    rcases he with z|z
    .exact d c b j z
    .rw[j]at z;cases z;exact i Z
structure Un(fs ex:Η)(H H':Hp)(h h':Ψ):Prop where
 keep:∀b o,h.get? b=↑o->H b=none->b∉fs->b∉ex->h'.get? b=↑o
 slot:∀b o,h.get? b=↑o->H b=none->b∈fs->b∉ex->∃sl,h'.get? b=some {o with slots:=sl}
 free:∀b o,h.get? b=↑o->H b=none->b∉ex->H' b=none
 there:∀b o,h.get? b=↑o->b∉ex->∃o',h'.get? b=↑o'
 tups:∀b xs,H b=↑(.tup xs)->H' b=↑(.tup xs)
 frzs:∀b o u,H b=↑(.frz o u)->H' b=↑(.frz o u)
 tbls:∀b ps,H b=↑(.tbl ps)->∃more,H' b=↑(.tbl (ps++more))
section
variable{fs:Η}
def Un.any(u:Un fs ex H H1 h h1){b:Δ}{a:Obj}(q:h.get? b=↑a)(n:H b=none)(hx:b∉ex):∃d,h1.get? b=some {a with slots:=d}:=by
 by_cases c:b∈fs
 .exact u.slot b a q n c hx
 .exact#[a.slots,u.keep b a q n c hx]
def Un.kept(k:∀b u,h.get? b=↑u->h'.get? b=↑u):Un fs ex H H h h':=
 #[λb a q _ _ _=>k b a q,λb a q _ _ _=>#[a.slots,k b a q],λ_ _ _ n _=>n,λb a q _=>#[a,k b a q],λ_ _ q=>q,λ_ _ _ q=>q,λ_ ps q=>#[(B0 []),by rw[q];simp]]
def Un.refl:Un fs ex H H h h:=Un.kept λ_ _ q=>q
def Un.laid(k:∀b u,h.get? b=↑u->h'.get? b=↑u)(hp:h.objs.size<=a)(hn:H a=none):Un fs ex H (Ot H a o) h h' where
 keep:=λb u q _ _ _=>k b u q
 slot:=λb u q _ _ _=>#[u.slots,k b u q]
 free:=λb u q n _=>by rw[qk (J4 (Ll (JS q) hp))];exact n
 there:=λb u q _=>#[u,k b u q]
 tups:=λb xs q=>by rw[qk (qr q hn)];exact q
 frzs:=λb u xs q=>by rw[qk (qr q hn)];exact q
 tbls:=λb ps q=>#[(B0 []),by rw[qk (qr q hn),q];simp]
def Un.write(c:AD (H x))(he:e=x\/H e=↑(.own x))(k:∀b u,b≠e->h.get? b=↑u->h'.get? b=↑u)(d:∃u,h'.get? e=↑u):Un fs ex H (Ot H x o) h h':=by
 have i:∀b,H b=none->b≠x:=λb n z=>by subst z;rw[n]at c;exact c
 have g:∀b,H b=none->b≠e:=λb n z=>by
  subst z;rcases he with r|r
  .exact i b n r
  .rw[n]at r;cases r
 have f:∀b u,H b=↑u->¬AD ↑u->b≠x:=λb u q nm z=>by subst z;rw[q]at c;exact nm c
 refine#[λb u q n _ _=>k b u (g b n) q,λb u q n _ _=>#[u.slots,k b u (g b n) q],λb u q n _=>by rw[qk (i b n)];exact n,λb u q _=>?_,
  λb xs q=>by rw[qk (f b _ q λz=>z)];exact q,λb u xs q=>by rw[qk (f b _ q λz=>z)];exact q,λb ps q=>#[(B0 []),by rw[qk (f b _ q λz=>z),q];simp]]
 by_cases a:b=e
 .subst a;exact d
 .exact#[u,k b u a q]
end
noncomputable def DN(h:Ψ)(H:Hp):Η:=(C2 h.objs.size).filter λa=>(H a).isSome
def gC(h:Ψ)(H:Hp):Ψ:=PySem.W.hideAll h (DN h H)
def AT(h:Ψ)(H:Hp):(gC h H).objs.size=h.objs.size:=W.hideAll_size _ _
def C8{h:Ψ}{H:Hp}{b:Δ}{o:Obj}(e:h.get? b=↑o)(n:H b=none):(gC h H).get? b=↑o:=
 W.hideAll_get _ e λa=>by
  have q:(H b).isSome=true:=(Nr.mp a).2
  rw[n]at q;simp at q
def Fl{b:Δ}{o:Obj}(e:(gC h H).get? b=↑o):h.get? b=↑o/\H b=none:=by
 have a:h.get? b=↑o:=W.of_hideAll (DN h H) e
 exists a
 cases q:H b with
 |none=>rfl
 |some x=>
  have c:b∈DN h H:=Nr.mpr #[Mq.mpr (JS a),by simp [q]]
  have z:(gC h H).get? b=none:=W.hideAll_none (DN h H) c
  rw[z]at e;cases e
structure Vd(K:ι)(mg:On)(base:Ψ):Prop where
 kin:K.In base
 glob:base.Ns η mg
 blt:∃mb,base.Ns builtinsNs mb/\∀x:Str,x≠"__name__"->mb x=bootBuiltins x
 nolimit:base.NoLimit
structure Cx where
 prog:Ξ
 w:Ω
 K:ι
 mg:Str->Ν
 base:Ψ
 A:SO
 N:Α
 s₀:Θ
 H₀:Hp
 env:Env
 outer:Ρ
 stack:Ρ
 ex:Η
 fn:Str->Bool
 calm:Bool
 pn:List (Δ×Obj)
 xe:Γ->Θ->Prop
def Qz(l:Ρ):Η:=l.filterMap (·.frame)
abbrev Cx.fs(X:Cx):Η:=Qz X.outer
def Go(a:Scope)(x:Str):Prop:=a.names.lookup x=some .local\/a.names.lookup x=some .cell\/a.names.lookup x=some .free
def lD(a:Scope)(x:Str):Prop:=a.names.lookup x=some .local\/a.names.lookup x=some .cell
def Js(env:Env)(h:Ψ)(m:On)(x:Str)(u:Γ):Prop:=
 (env.kindOf x=some .local/\m x=↑u)\/((env.kindOf x=some .cell\/env.kindOf x=some .free)/\∃c,env.cells.lookup x=↑c/\h.IsCell c ↑u)
structure Cx.Ok(X:Cx):Prop where
 mod:Vd X.K X.mg X.base
 kind:X.env.scope.kind= .function
 glob:X.env.globals=η
 blt:X.env.builtins=builtinsNs
 above:X.s₀.heap.objs.size<=X.env.locals
 inj:∀x y c,X.env.cells.lookup x=↑c->X.env.cells.lookup y=↑c->x=y
 has:∀x,(X.env.kindOf x=some .cell\/X.env.kindOf x=some .free)->∃c,X.env.cells.lookup x=↑c
 cab:∀x c,X.fn x=true->X.env.cells.lookup x=↑c->X.s₀.heap.objs.size<=c
 hd:X.calm=true->X.A.handled=none
 frames:X.A.frames=↑X.stack
 stk:X.stack=X.outer\/(X.stack=X.env::X.outer/\X.env.frame=↑X.env.locals)
 exf:∀b∈X.ex,b≠X.env.locals/\∀x c,X.env.cells.lookup x=↑c->c≠b
 bs:∀b o,X.base.get? b=↑o->X.s₀.heap.get? b=↑o/\X.H₀ b=none
 bsz:X.base.objs.size<=X.s₀.heap.objs.size
 noex:∀b o,X.base.get? b=↑o->b∉X.ex
 exfs:∀b∈X.ex,b∉X.fs
 funs:X.s₀.heap.FunFrames X.base X.outer
 frf:∀b∈X.fs,X.H₀ b=none
structure Ov(X:Cx)(tx:Oo)(σ:List Ο)(H:Hp)(s:Θ):Prop where
 ok:X.Ok
 os:s.os=X.s₀.os
 bare:AllBare s.gens
 base:Un X.fs X.ex X.H₀ H X.s₀.heap s.heap
 loc:∃m,s.heap.Ns X.env.locals m/\∀(i:Nat) (x:Str) (v:V),X.N[i]? =↑x->σ[i]? =↑(↑v)->Go X.env.scope x->∃u,Oz v u/\Js X.env s.heap m x u
 cell:∀x c,X.env.cells.lookup x=↑c->∃v,s.heap.IsCell c v
 free:H X.env.locals=none
 freeC:∀x c,X.env.cells.lookup x=↑c->H c=none
 pin:∀p∈X.pn++tx,s.heap.get? p.1=↑p.2/\H p.1=none/\p.1≠X.env.locals/\p.1∉X.fs/\∀v,p.2.data≠ .cell v
 hok:PN X.prog X.w H s.heap
 len:σ.length=X.N.length
section
variable{X:Cx}
def Cx.Ok.nofr(ok:X.Ok){b:Δ}{o:Obj}(e:X.base.get? b=↑o):b∉X.fs:=λa=>by
 have:=(ok.funs.mem a).1
 rw[e]at this;cases this
theorem Ov.bs(I:Ov X tx σ H s):∀b o,X.base.get? b=↑o->s.heap.get? b=↑o/\H b=none:=λb o e=>
 #[I.base.keep b o (I.ok.bs b o e).1 (I.ok.bs b o e).2 (I.ok.nofr e) (I.ok.noex b o e),I.base.free b o (I.ok.bs b o e).1 (I.ok.bs b o e).2 (I.ok.noex b o e)]
def Ov.bk(I:Ov X tx σ H s):∀b o,X.base.get? b=↑o->s.heap.get? b=↑o:=λb o e=>(I.bs b o e).1
theorem Ov.mod(I:Ov X tx σ H s):Vd X.K X.mg X.base:=I.ok.mod
def Ov.kIn(I:Ov X tx σ H s):X.K.In s.heap:=I.ok.mod.kin.keeps I.bk
theorem Ov.lt(I:Ov X tx σ H s):X.env.locals<s.heap.objs.size:=let⟨_,hn,_⟩:=I.loc;hn.lt
def Ov.sz(I:Ov X tx σ H s):X.s₀.heap.objs.size<=s.heap.objs.size:=Lc I.ok.above (Nt I.lt)
def Ov.nofs(I:Ov X tx σ H s){a:Δ}(h:s.heap.objs.size<=a):a∉X.fs:=λd=>by
 let#[_,o,c,_]:=I.ok.funs.mem d;exact absurd (Ll (JS c) (Lc I.sz h)) (LC _)
def Ov.cne(I:Ov X tx σ H s):∀x c,X.env.cells.lookup x=↑c->c≠X.env.locals:=λx c e z=>by
 let#[v,o,f,g]:=I.cell x c e;let#[m,#[o',es,h,d,a,_],_]:=I.loc;rw[z,d]at f;cases f;rw[a]at g;cases g
theorem Ov.funs(I:Ov X tx σ H s):s.heap.FunFrames X.base X.outer:=by
 have all:∀(l:Ρ),(∀b∈Qz l,b∈X.fs)->X.s₀.heap.FunFrames X.base l->s.heap.FunFrames X.base l:=by
  intro l
  induction l with
  |nil=>intro _ _;trivial
  |cons env r ih=>
   intro f j;let#[hk,#[L,o,d,i,h,m],g]:=j;have c:L∈X.fs:=f L (by unfold Qz;rw[NR,d];exact J3)
   let#[n,e]:=I.base.slot L o h (I.ok.frf L c) c λz=>I.ok.exfs L z c
   exact#[hk,#[L,_,d,i,e,m],ih (λb a=>f b (by unfold Qz;rw[NR,d];exact F0 _ a)) g]
 exact all X.outer (λ_ a=>a) I.ok.funs
theorem Ov.stack(I:Ov X tx σ H s):s.heap.FunFrames X.base X.stack:=by
 rcases I.ok.stk with e|⟨e,a⟩
 .rw[e];exact I.funs
 .rw[e]
  let#[m,c,_]:=I.loc;refine .cons (by rw[I.ok.kind];decide) a c ?_ I.funs
  exact MW (Lc I.ok.bsz I.ok.above)
def Ov.stkSub(I:Ov X tx σ H s):∀b∈Qz X.stack,b∈X.env.locals::X.fs:=λb a=>by
 rcases I.ok.stk with e|⟨e,c⟩
 .rw[e]at a;exact F0 _ a
 .rw[e]at a
  unfold Qz at a;rw[NR,c]at a;exact a
def Ov.stkFree(I:Ov X tx σ H s):∀b∈Qz X.stack,H b=none:=λb a=>by
 rcases JO.mp (I.stkSub b a)with e|a
 .rw[e];exact I.free
 .let#[_,o,c,_]:=I.ok.funs.mem a
  exact I.base.free b o c (I.ok.frf b a) λz=>I.ok.exfs b z a
def Ov.step{t':Nat}{d':Drawn}{ch:Η}(I:Ov X tx σ H s)
  (g:∀b∈ch,(b∈X.ex\/X.s₀.heap.objs.size<=b)/\b≠X.env.locals/\(∀x c,X.env.cells.lookup x=↑c->c≠b)/\∀p∈X.pn++tx,p.1≠b)
  (keep:∀b o,b≠X.env.locals->b∉X.fs->b∉ch->s.heap.get? b=↑o->H b=none->h'.get? b=↑o)
  (w:∀b o,b≠X.env.locals->b∈X.fs->b∉ch->s.heap.get? b=↑o->H b=none->∃L,h'.get? b=some {o with slots:=L})(free:∀b o,b∉ch->s.heap.get? b=↑o->H b=none->H' b=none)
  (A:∀b o,b∉ch->s.heap.get? b=↑o->∃o',h'.get? b=↑o')
  (E:∀b xs,H b=↑(.tup xs)->H' b=↑(.tup xs))(C:∀b o u,H b=↑(.frz o u)->H' b=↑(.frz o u))(D:∀b ps,H b=↑(.tbl ps)->∃G,H' b=↑(.tbl (ps++G)))
  (ns:∀m,s.heap.Ns X.env.locals m->h'.Ns X.env.locals m)(M:PN X.prog X.w H' h')(hg:AllBare g'):
  Ov X tx σ H' {s with heap:=h',gens:=g',drawn:=d',toks:=t'}:=by
 have J:∀b o,X.s₀.heap.get? b=↑o->b≠X.env.locals:=λb o e=>J4 (Ll (JS e) I.ok.above)
 have j:∀b o,X.s₀.heap.get? b=↑o->b∉X.ex->b∉ch:=λb o e a y=>by
  rcases(g b y).1 with z|z
  .exact a z
  .exact absurd (Ll (JS e) z) (LC _)
 have h:∀x c,X.env.cells.lookup x=↑c->∀v,s.heap.IsCell c v->h'.IsCell c v:=λx c e v ⟨o,B,N⟩=>by
  have f:c∉ch:=λz=>(g c z).2.2.1 x c e Z
  by_cases Q:c∈X.fs
  .let#[L,q]:=w c o (I.cne x c e) Q f B (I.freeC x c e)
   exact#[_,q,N]
  .exact#[o,keep c o (I.cne x c e) Q f B (I.freeC x c e),N]
 refine#[I.ok,I.os,hg,#[λb o e n y a=>?_,λb o e n y a=>?_,λb o e n a=>?_,λb o e a=>?_,λb xs e=>E b xs (I.base.tups b xs e),λb o xs e=>C b o xs (I.base.frzs b o xs e),λb ps e=>?_],?_,λx c e=>?_,?_,λx c e=>?_,λp P=>?_,M,I.len]
 .exact keep b o (J b o e) y (j b o e a) (I.base.keep b o e n y a) (I.base.free b o e n a)
 .let#[L,t]:=I.base.slot b o e n y a
  let#[K,F]:=w b _ (J b o e) y (j b o e a) t (I.base.free b o e n a)
  exact#[K,F]
 .let#[o',t]:=I.base.there b o e a
  exact free b o' (j b o e a) t (I.base.free b o e n a)
 .let#[o',t]:=I.base.there b o e a
  exact A b o' (j b o e a) t
 .let#[T,t]:=I.base.tbls b ps e
  let#[U,F]:=D b _ t
  exact#[T++U,by rw[F,Array.append_assoc]]
 .let#[m,R,W]:=I.loc
  refine#[m,ns m R,λi x v t F S=>?_]
  let#[u,r,l]:=W i x v t F S;exists u,r
  rcases l with l|⟨k,c,e,z⟩
  .exact .inl l
  .exact .inr #[k,c,e,h x c e _ z]
 .let#[v,z]:=I.cell x c e
  exact#[v,h x c e v z]
 .let#[m,#[o,_,_,B,_],_]:=I.loc
  exact free _ o (λz=>(g _ z).2.1 Z) B I.free
 .let#[v,o,B,N]:=I.cell x c e
  exact free c o (λz=>(g c z).2.2.1 x c e Z) B (I.freeC x c e)
 .let#[e,n,ne,O,d]:=I.pin p P
  have f:p.1∉ch:=λz=>(g p.1 z).2.2.2 p P Z
  exact#[keep p.1 p.2 ne O f e n,free p.1 p.2 f e n,ne,O,d]
def Ov.un{t':Nat}(I:Ov X tx σ H s)(u:Un X.fs [] H H' s.heap h')(f:PN X.prog X.w H' h'):Ov X tx σ H' {s with heap:=h',toks:=t'}:=by
 let#[m,#[o,es,q,h,r],_]:=id I.loc;let#[p,j]:=u.any h I.free (by simp)
 exact I.step (g':=s.gens) (d':=s.drawn) (ch:=[]) (λ_ z=>nomatch z) (λb o _ d _ e n=>u.keep b o e n d (by simp)) (λb o _ d _ e n=>u.slot b o e n d (by simp)) (λb o _ e n=>u.free b o e n (by simp)) (λb o _ e=>u.there b o e (by simp)) u.tups u.frzs u.tbls (λm' l=>by
  let#[o',c,g,a,i]:=l;rw[h]at a;cases a
  exact#[_,c,g,j,i]) f I.bare
def Ov.call{t':Nat}{d':Drawn}{ch:Η}(I:Ov X tx σ H s)(u:Un (Qz X.stack) ch H H' s.heap h')(i:PN X.prog X.w H' h')(hg:AllBare g')
  (d:∀b∈ch,(b∈X.ex\/X.s₀.heap.objs.size<=b)/\b≠X.env.locals/\(∀x c,X.env.cells.lookup x=↑c->c≠b)/\∀p∈X.pn++tx,p.1≠b):
  Ov X tx σ H' {s with heap:=h',gens:=g',drawn:=d',toks:=t'}:=by
 let#[m,#[o,es,y,l,r],_]:=id I.loc;let#[w,j]:=u.any l I.free λz=>(d _ z).2.1 Z
 exact I.step (ch:=ch) d (λb o j v a e n=>u.keep b o e n (λz=>(JO.mp (I.stkSub b z)).elim j v) a) (λb o _ _ a e n=>u.any e n a) (λb o a e n=>u.free b o e n a) (λb o a e=>u.there b o e a) u.tups u.frzs u.tbls (λm' q=>by
  let#[o',g,h,f,t]:=q;rw[l]at f;cases f
  exact#[_,g,h,j,t]) i hg
def Ov.turned{t':Nat}{it:Δ}(I:Ov X tx σ H s)(k:∀b o,b≠it->s.heap.get? b=↑o->h'.get? b=↑o)(hn:H it=none)(f:it≠X.env.locals)
  (h1:it∈X.ex\/X.s₀.heap.objs.size<=it)(h2:∀x c,X.env.cells.lookup x=↑c->c≠it)(l:∀p∈X.pn++tx,p.1≠it):Ov X tx σ H {s with heap:=h',toks:=t'}:=by
 have d:∀b u,H b=↑u->b≠it:=λb u e z=>by rw[z,hn]at e;cases e
 refine I.step (g':=s.gens) (d':=s.drawn) (ch:=[it]) (λb j=>?_) (λb o _ _ a e _=>k b o (λz=>a (by simp [z])) e) (λb o _ _ a e _=>#[o.slots,k b o (λz=>a (by simp [z])) e]) (λ_ _ _ _ n=>n)
  (λb o a e=>#[o,k b o (λz=>a (by simp [z])) e]) (λ_ _ e=>e) (λ_ _ _ e=>e) (λb ps e=>#[(B0 []),by rw[e];simp]) (λm g=>?_) (λb u e=>?_) I.bare
 .have e:b=it:=by simpa using j
  subst e
  exact#[h1,f,h2,l]
 .let#[o,es,i,h,r]:=g
  exact#[o,es,i,k _ o (Ne.symm f) h,r]
 .refine(I.hok b u e).stay (λc v a q=>k c v ?_ q) (λ_ q=>q) λ_ _ q=>q
  rcases a with z|z
  .rw[z];exact d b u e
  .exact d c _ z
def Ov.tok(I:Ov X tx σ H s)(t:Nat):Ov X tx σ H {s with toks:=t}:=I.un (h':=s.heap) (t':=t) Un.refl I.hok
theorem Ov.kept{t':Nat}(I:Ov X tx σ H s)(k:∀b u,s.heap.get? b=↑u->h'.get? b=↑u):Ov X tx σ H {s with heap:=h',toks:=t'}:=I.un (Un.kept k) (I.hok.kept k)
theorem Ov.laid{a:Δ}{t':Nat}(I:Ov X tx σ H s)(k:∀b u,s.heap.get? b=↑u->h'.get? b=↑u)(hp:s.heap.objs.size<=a)(new:OI X.prog X.w (Ot H a o) h' a o):
  Ov X tx σ (Ot H a o) {s with heap:=h',toks:=t'}:=I.un (Un.laid k hp (I.hok.fresh hp)) (I.hok.laid k hp new)
theorem Ov.write{e:Δ}{t':Nat}(I:Ov X tx σ H s)(c:AD (H x))(he:e=x\/H e=↑(.own x))(k:∀b u,b≠e->s.heap.get? b=↑u->h'.get? b=↑u)(a:∃u,h'.get? e=↑u)
  (new:OI X.prog X.w (Ot H x o) h' x o):Ov X tx σ (Ot H x o) {s with heap:=h',toks:=t'}:=I.un (Un.write c he k a) (I.hok.write c he k a new)
def Ov.pins_of{pins':Oo}(I:Ov X tx σ H s)(h:∀p∈pins',s.heap.get? p.1=↑p.2/\H p.1=none/\p.1≠X.env.locals/\p.1∉X.fs/\∀v,p.2.data≠ .cell v):Ov X pins' σ H s:=
 #[I.ok,I.os,I.bare,I.base,I.loc,I.cell,I.free,I.freeC,λp a=>(J1.mp a).elim (λz=>I.pin p (Nu _ z)) (h p),I.hok,I.len]
def ki{N:Α}(hN:N.Nodup){i j:Nat}{x:Str}(a:N[i]? =↑x)(b:N[j]? =↑x):i=j:=by
 let#[h1,c]:=JZ.mp a;let#[e,d]:=JZ.mp b
 exact(Kd hN).mp (c.trans d.symm)
abbrev _root_.hO(X:Cx)(x):=X.fn x=true\/X.env.scope.names.lookup x=some .local
def oY{i:Nat}{x:Str}{Q:Unit->Θ->Prop}(I:Ov X tx σ H s)(hN:X.N.Nodup)(hi:X.N[i]? =↑x)(hx:lD X.env.scope x)(r:Oz v u)
  (h:∀s',Ov X tx (σ.set i ↑v) H s'->(∃a,Ψ.SameBut a s.heap s'.heap/\(a=X.env.locals\/X.env.cells.lookup x=↑a))->Q () s')(hf:hO X x:=by first|exact .inl Z|exact .inr Z|assumption):ε M A (storeName X.env x u) Q E s:=by
 let#[m,S,hl]:=id I.loc;have K:(X.env.scope.kind== .class||(X.env.scope.kind== .module&&X.env.locals != X.env.globals))=false:=by rw[I.ok.kind];rfl
 have C:i<σ.length:=by rw[I.len];exact(JZ.mp hi).1
 have cne:=I.cne;have l:∀{a:Δ} {h':Ψ},(∃o,s.heap.get? a=↑o/\H a=none)->Ψ.SameBut a s.heap h'->PN X.prog X.w H h':=λ{a h'} ha f b ob e=>by
  let#[_,_,w]:=ha;refine(I.hok b ob e).stay (λc P t q=>(f.2 c ?_).trans q) (λ_ q=>q) λ_ _ q=>q
  rintro rfl
  rcases t with rfl|t
  .rw[w]at e;cases e
  .rw[w]at t;cases t
 rcases hx with hk|hk
 .refine wpAny_storeName_local hk S (λh' T f=>?_) K
  let#[oL,_,_,U,_]:=id S;refine h _ #[I.ok,I.os,I.bare,#[λb o e n D hx=>?_,λb o e n D hx=>?_,I.base.free,λb o e hx=>?_,I.base.tups,I.base.frzs,I.base.tbls],#[_,T,λj y v' g B Y=>?_],λy c e=>?_,I.free,I.freeC,λp hp=>?_,l #[oL,U,I.free] f,by simpa using I.len] #[_,f,.inl Z]
  .exact(f.2 b (J4 (Ll (JS e) I.ok.above))).trans (I.base.keep b o e n D hx)
  .let#[W,g]:=I.base.slot b o e n D hx
   exact#[W,(f.2 b (J4 (Ll (JS e) I.ok.above))).trans g]
  .let#[o',g]:=I.base.there b o e hx
   exact#[o',(f.2 b (J4 (Ll (JS e) I.ok.above))).trans g]
  .by_cases G:j=i
   .subst G
    rw[hi]at g;cases g
    rw[MX C]at B;cases B
    exact#[u,r,.inl #[hk,by simp]]
   .rw[Nv (Ne.symm G)]at B
    let#[u',R,q]:=hl j y v' g B Y;exists u',R
    rcases q with⟨k,e⟩|⟨k,c,e,z⟩
    .refine .inl #[k,?_]
     have:y≠x:=λe=>G (ki hN g (e▸hi))
     simp [this,e]
    .exact .inr #[k,c,e,z.sameBut f (cne y c e)]
  .let#[P,z]:=I.cell y c e
   exact#[P,z.sameBut f (cne y c e)]
  .let#[e,n,ne,nf,d]:=I.pin p hp
   exact#[(f.2 p.1 ne).trans e,n,ne,nf,d]
 .have F:X.fn x=true:=by
   rcases hf with z|z
   .exact z
   .rw[z]at hk;cases hk
  let#[c,t]:=I.ok.has x (.inl hk)
  let#[P,z]:=I.cell x c t;refine wpAny_storeName_cell I.ok.kind hk t z (λh' L f=>?_)
  let#[oc,J,O]:=id z;refine h {s with heap:=h'} #[I.ok,I.os,I.bare,#[λb o e n D hx=>?_,λb o e n D hx=>?_,I.base.free,λb o e hx=>?_,I.base.tups,I.base.frzs,I.base.tbls],#[m,S.sameBut f (Ne.symm (cne x c t)),λj y v' g B Y=>?_],λy c' e=>?_,I.free,I.freeC,λp hp=>?_,l #[oc,J,I.freeC x c t] f,by simpa using I.len] #[c,f,.inr t]
  .exact(f.2 b (J4 (Ll (JS e) (I.ok.cab x c F t)))).trans (I.base.keep b o e n D hx)
  .let#[W,g]:=I.base.slot b o e n D hx
   exact#[W,(f.2 b (J4 (Ll (JS e) (I.ok.cab x c F t)))).trans g]
  .let#[o',g]:=I.base.there b o e hx
   exact#[o',(f.2 b (J4 (Ll (JS e) (I.ok.cab x c F t)))).trans g]
  .by_cases G:j=i
   .subst G
    rw[hi]at g;cases g
    rw[MX C]at B;cases B
    exact#[u,r,.inr #[.inl hk,c,t,L]]
   .rw[Nv (Ne.symm G)]at B
    let#[u',R,q]:=hl j y v' g B Y;exists u',R
    rcases q with q|⟨k,c',e,z'⟩
    .exact .inl q
    .refine .inr #[k,c',e,z'.sameBut f ?_]
     rintro rfl
     exact G (ki hN g (I.ok.inj _ _ _ e t▸hi))
  .by_cases N:c'=c
   .subst N;exact#[_,L]
   .let#[w2,z2]:=I.cell y c' e
    exact#[w2,z2.sameBut f N]
  .let#[e,n,ne,nf,d]:=I.pin p hp
   refine#[(f.2 p.1 ?_).trans e,n,ne,nf,d]
   intro q;rw[q,J]at e;have q':oc=p.2:=Lb e
   exact d P (by rw[<- q'];exact O)
def bv{i:Nat}{x:Str}{Q:Unit->Θ->Prop}(I:Ov X tx σ H s)(hN:X.N.Nodup)(hi:X.N[i]? =↑x)(hx:lD X.env.scope x)(r:Oz v u)
  (h:∀s',Ov X tx (σ.set i ↑v) H s'->Q () s')(hf:hO X x:=by first|exact .inl Z|exact .inr Z|assumption):ε M A (storeName X.env x u) Q E s:=
 oY I hN hi hx r (λs' a _=>h s' a) hf
def Ov.call'{s':Θ}{ch:Η}(I:Ov X tx σ H s)(ho:s'.os=s.os)(u:Un (Qz X.stack) ch H H' s.heap s'.heap)(a:PN X.prog X.w H' s'.heap)(hg:AllBare s'.gens)
  (d:∀b∈ch,(b∈X.ex\/X.s₀.heap.objs.size<=b)/\b≠X.env.locals/\(∀x c,X.env.cells.lookup x=↑c->c≠b)/\∀p∈X.pn++tx,p.1≠b):Ov X tx σ H' s':=by
 let#[h',g',d',t',o']:=s';have e:o'=s.os:=ho
 subst e;exact I.call (g':=g') (t':=t') (d':=d') u a hg d
end
abbrev XK:=Γ->Κ->Hp->Prop
abbrev St:=List Ο
abbrev VK:=V->Hp->Prop
abbrev TE:=St->Hp->VK->Prop
abbrev TT:=St->Hp->(Bool->Hp->Prop)->Prop
abbrev TA:=St->Hp->(Β->Hp->Prop)->Prop
structure OU where
 nx:St->Hp->Prop
 rt:VK
 bk:St->Hp->Prop:=λ_ _=>False
 ct:St->Hp->Prop:=λ_ _=>False
abbrev TS:=OU->St->Hp->Prop
def EP(X:Cx)(tx:Oo)(σ:St)(Q:VK)(u:Γ)(s':Θ):Prop:=∃v H',Ov X tx σ H' s'/\Oz v u/\Q v H'
def TP(X:Cx)(tx:Oo)(σ:St)(Q:Bool->Hp->Prop)(b:Bool)(s':Θ):Prop:=∃H',Ov X tx σ H' s'/\Q b H'
def AP(X:Cx)(tx:Oo)(σ:St)(Q:Β->Hp->Prop)(us:Ζ)(s':Θ):Prop:=∃a H',Ov X tx σ H' s'/\OB a us/\Q a H'
def SP(X:Cx)(tx:Oo)(D:OU)(f:Flow)(s':Θ):Prop:=
 match f with
 | .next=>∃a H',Ov X tx a H' s'/\D.nx a H'
 | .brk=>∃a H',Ov X tx a H' s'/\D.bk a H'
 | .cont=>∃a H',Ov X tx a H' s'/\D.ct a H'
 | .ret u=>∃v a H',Ov X tx a H' s'/\Oz v u/\D.rt v H'
def PE(X:Cx)(e:Φ)(t:TE):Prop:=
 ∀(tx:Oo) (s:Θ) (σ:St) (H:Hp) (Q:VK),Ov X tx σ H s->t σ H Q->ε (model X.prog X.w) X.A (eval e X.env) (EP X tx σ Q) X.xe s
def PT(X:Cx)(e:Φ)(t:TT):Prop:=
 ∀(tx:Oo) (s:Θ) (σ:St) (H:Hp) (Q:Bool->Hp->Prop),Ov X tx σ H s->t σ H Q->ε (model X.prog X.w) X.A (isTrue e X.env (eval e X.env)) (TP X tx σ Q) X.xe s
def PW(X:Cx)(e:Φ)(t:TT):Prop:=
 ∀(a:Sem Γ) (tx:Oo) (s:Θ) (σ:St) (H:Hp) (Q:Bool->Hp->Prop),Ov X tx σ H s->t σ H Q->ε (model X.prog X.w) X.A (isTrue e X.env a) (TP X tx σ Q) X.xe s
def PW.pt(h:PW X e t):PT X e t:=h _
def PA(X:Cx)(es:Ι)(t:TA):Prop:=
 ∀(pos:Pos) (tx:Oo) (s:Θ) (σ:St) (H:Hp) (Q:Β->Hp->Prop),Ov X tx σ H s->t σ H Q->ε (model X.prog X.w) X.A (spliced (backTo pos (θ es X.env))) (AP X tx σ Q) X.xe s
def PS(X:Cx)(st:δ)(t:TS):Prop:=
 ∀(tx:Oo) (s:Θ) (σ:St) (H:Hp) (D:OU),Ov X tx σ H s->t D σ H->ε (model X.prog X.w) X.A (exec st X.env) (SP X tx D) X.xe s
def R6(X:Cx)(st:List δ)(t:TS):Prop:=
 ∀(tx:Oo) (s:Θ) (σ:St) (H:Hp) (D:OU),Ov X tx σ H s->t D σ H->ε (model X.prog X.w) X.A (execs st X.env) (SP X tx D) X.xe s
def qG{α:Type}{t:Sem α}{Q c:α->Θ->Prop}{M:Model}{A:SO}{E:Om}{s:Θ}(h:ε M A t Q E s)(d:∀a s,Q a s->c a s):ε M A t c E s:=Lg h d λ_ _ x=>x
section
inductive UQ (i:Nat)(σ:L2.St)(H:Hp)(Q:VK):Prop
 |mk (v:_)(h1:σ[i]? =↑(↑v))(h2:Q v H)
def FU(i:Nat):TE:=λσ H Q=>UQ i σ H Q
def tC(v:V):TE:=λ_ H Q=>Q v H
abbrev _root_.hH(x:Str):=(x==("__debug__":Str))=false
def FR{i:Nat}{x:Str}(hN:X.N[i]? =↑x)(hv:Go X.env.scope x)(hd:hH x:=by decide)(f:(x==("__classdict__":Str))=false:=by decide):PE X (.Name x pos) (FU i):=by
 intro tx s σ H Q I h;let#[v,e,h]:=h;let#[m,j,n]:=I.loc;let#[u,r,l]:=n i x v hN e hv;have d:EP X tx σ Q u s:=#[v,H,I,r,h]
 rcases l with⟨hk,o⟩|⟨hk,c,g,a⟩
 .exact wpAny_Name (wpAny_loadName_local I.ok.kind hk j o d) hd
 .rcases hk with hk|hk
  .exact wpAny_Name (wpAny_loadName_cell I.ok.kind hk g a d) hd
  .exact wpAny_Name (wpAny_loadName_free I.ok.kind hk g a d f) hd
def Gq{i j pos}:PE X (.Constant (.int i) j pos) (tC (.int i)):=λ_ _ _ H _ I h=>wpAny_Constant_int #[.int i,H,I.tok _,#[0],h]
def Ix{b j pos}:PE X (.Constant (.bool b) j pos) (tC (.bl b)):=λ_ _ _ H _ I h=>Constant_bool #[.bl b,H,I,Z,h]
def Gn{j pos}:PE X (.Constant .none j pos) (tC .non):=λ_ _ _ H _ I h=>Constant_none #[.non,H,I,Z,h]
def HJ{x j pos}:PE X (.Constant (.str x) j pos) (tC (.str x)):=λ_ _ _ H _ I h=>Calls.Constant_str #[.str x,H,I.tok _,#[0],h]
def Gl(X:Cx)(x:Str):Prop:=X.env.kindOf x=some .globalImplicit
def ay{u:Γ}{Q:Om}(I:Ov X tx σ H s)(hg:Gl X x)(hm:X.mg x=↑u)(h:Q u s)
  (hd:hH x:=by decide):ε (model X.prog X.w) X.A (eval (.Name x pos) X.env) Q E s:=
 Calls.Name_function_global I.ok.kind hg (Calls.loadGlobal_global (by rw[I.ok.glob];exact I.mod.glob.keeps I.bk) hm h) hd
def bQ{u:Γ}{Q:Om}(I:Ov X tx σ H s)(hg:Gl X x)(hm:X.mg x=none)(hv:bootBuiltins x=↑u)(h:Q u s)
  (hn:x≠"__name__":=by decide)(hd:hH x:=by decide):ε (model X.prog X.w) X.A (eval (.Name x pos) X.env) Q E s:=by
 let#[c,h1,a]:=I.mod.blt;exact Calls.Name_function_global I.ok.kind hg (Calls.loadGlobal_builtin (by rw[I.ok.glob];exact I.mod.glob.keeps I.bk) hm (by rw[I.ok.blt];exact h1.keeps I.bk) ((a x hn).trans hv) h) hd
def Fs{u:Γ}(hg:Gl X x)(hm:X.mg x=↑u)(r:Oz v u)(hd:hH x:=by decide):PE X (.Name x pos) (tC v):=
 λ_ _ _ H _ I h=>ay I hg hm #[v,H,I,r,h] hd
def EE{u:Γ}(hg:Gl X x)(hm:X.mg x=none)(hv:bootBuiltins x=↑u)(r:Oz v u)(hn:x≠"__name__":=by decide)(hd:hH x:=by decide):PE X (.Name x pos) (tC v):=
 λ_ _ _ H _ I h=>bQ I hg hm hv #[v,H,I,r,h] hn hd
variable{b:Φ}
def PC(X:Cx)(e:CmpOp)(a b:Φ)(t:TE):Prop:=
 ∀(tx:Oo) (s:Θ) (σ:St) (H:Hp) (Q:VK),Ov X tx σ H s->t σ H Q->
  ε (model X.prog X.w) X.A (eval a X.env) (λv d=>ε (model X.prog X.w) X.A (eval b X.env) (λu c=>ε (model X.prog X.w) X.A (SL e v u) (EP X tx σ Q) X.xe c) X.xe d) X.xe s
def tB(t:TE):TT:=λσ H Q=>t σ H λx H1=>∃c,x= .bl c/\Q c H1
def GD(h:PC X c a b t)(h1:behindInMarks c b=false:=by first|exact nobehind _ ⋯ ⋯|rfl):PE X (.Compare a [c] [b] pos) t:=λtx s σ H Q I d=>wpAny_Compare1 (h tx s σ H Q I d) h1
def Bg(h:PC X e a b t)(h1:behindInMarks e b=false:=by first|exact nobehind _ ⋯ ⋯|rfl):PT X (.Compare a [e] [b] pos) (tB t):=by
 intro tx s σ H Q I g;refine wpAny_isTrue_Compare1 (qG (h tx s σ H _ I g) λv n h1=>qG h1 λu p i=>qG i λc o m=>?_) h1
 let#[x,H1,f,l,j]:=m;let#[d,rfl,q]:=j;cases l;exact L4 #[H1,f,q]
def FW(h:PE X e t)(he:∀a,isTrue e X.env a=(do let v <- a;standAt e.pos;holding [v] (truthy v)):=by intro _;rfl):PT X e (tB t):=by
 intro tx s σ H Q I f;refine isTrue_plain (qG (h tx s σ H _ I f) λv l j=>?_) (he _)
 let#[x,H1,c,i,g]:=j;let#[d,rfl,q]:=g;cases i;exact L4 #[H1,c,q]
def HG(t u:TT):TT:=λσ H Q=>t σ H λc H1=>if c=true then u σ H1 Q else Q false H1
def IL(t u:TT):TT:=λσ H Q=>t σ H λc H1=>if c=true then Q true H1 else u σ H1 Q
def HX(t:TT):TT:=λσ H Q=>t σ H λc H1=>Q (! c) H1
def EI(ha:PT X a tA):PW X (.BoolOp .And [a] pos) tA:=by
 intro d tx s σ H Q I h;refine isTrue_and (qG (ha tx s σ H Q I h) λc f e=>?_)
 cases c with
 |true=>exact isTrue_and_nil e
 |false=>exact e
def GI(ha:PT X a tA):PW X (.BoolOp .Or [a] pos) tA:=by
 intro d tx s σ H Q I h;refine isTrue_or (qG (ha tx s σ H Q I h) λc f e=>?_)
 cases c with
 |false=>exact isTrue_or_nil e
 |true=>exact e
def Gj(ha:PT X a tA)(hb:PW X (.BoolOp .And (b::rest) pos) tB'):PW X (.BoolOp .And (a::b::rest) pos) (HG tA tB'):=by
 intro f tx s σ H Q I h;refine isTrue_and (qG (ha tx s σ H _ I h) λc g i=>?_)
 let#[H1,d,e]:=i;cases c with
 |true=>exact hb f tx g σ H1 Q d e
 |false=>exact#[H1,d,e]
def If(ha:PT X a tA)(hb:PW X (.BoolOp .Or (b::rest) pos) tB'):PW X (.BoolOp .Or (a::b::rest) pos) (IL tA tB'):=by
 intro f tx s σ H Q I h;refine isTrue_or (qG (ha tx s σ H _ I h) λc g i=>?_)
 let#[H1,d,e]:=i;cases c with
 |true=>exact#[H1,d,e]
 |false=>exact hb f tx g σ H1 Q d e
def Gp(ha:PT X a tA):PT X (.UnaryOp .Not a pos) (HX tA):=by
 intro tx s σ H Q I h;exact isTrue_not (ha tx s σ H (λc H1=>Q (! c) H1) I h)
def DY(ta tb:TE):TE:=λσ H Q=>ta σ H λx H1=>∃c,x= .bl c/\if c=true then tb σ H1 Q else Q (.bl false) H1
def Ey(ta:TE):TE:=λσ H Q=>ta σ H λx H1=>∃c,x= .bl c/\Q (.bl (! c)) H1
def HW{op}(h:PE X a t):PE X (.BoolOp op [a] pos) t:=λtx s σ H Q I c=>BoolOp_one (h tx s σ H Q I c)
def GA(ha:PE X a ta)(hb:PE X (.BoolOp .And (b::rest) pos) tb):PE X (.BoolOp .And (a::b::rest) pos) (DY ta tb):=by
 intro tx s σ H Q I h;refine BoolOp_and (qG (ha tx s σ H _ I h) λv f i=>?_)
 let#[x,H1,e,g,d]:=i;let#[c,rfl,d]:=d;cases g;refine L4 ?_
 cases c with
 |true=>exact hb tx f σ H1 Q e d
 |false=>exact#[.bl false,H1,e,Z,d]
def F1(ha:PE X a ta):PE X (.UnaryOp .Not a pos) (Ey ta):=by
 intro tx s σ H Q I h;refine UnaryOp_ (qG (ha tx s σ H _ I h) λv i g=>?_)
 let#[x,H1,e,f,d]:=g;let#[c,rfl,d]:=d;cases f;exact not_of (L4 #[.bl (! c),H1,e,Z,d])
def IK(t:TT)(ta tb:TE):TE:=λσ H Q=>t σ H λc H1=>if c=true then ta σ H1 Q else tb σ H1 Q
def DJ(hc:PT X c tA)(ha:PE X a ta)(hb:PE X b tb):PE X (.IfExp c a b pos) (IK tA ta tb):=by
 intro tx s σ H Q I h;refine wpAny_IfExp (qG (hc tx s σ H _ I h) λd f i=>?_)
 let#[H1,e,g]:=i;cases d with
 |true=>exact ha tx f σ H1 Q e g
 |false=>exact hb tx f σ H1 Q e g
end
def OA(K:ι)(H:Hp)(a:Δ)(xs:Β):Prop:=
 Rd H a (.lst xs)\/
  ∃(o:Obj) (c:Array Γ) (n:Nat),K.lookup a=↑o/\o.cls= .type "list"/\o.dict=none/\o.data= .seq c n/\c.size<=ζ/\OB xs c.toList
def OC(K:ι)(H:Hp)(a:Δ)(xs:Β):Prop:=
 Rd H a (.tup xs)\/
  ∃(o:Obj) (c:Array Γ) (n:Nat),K.lookup a=↑o/\o.cls= .type "tuple"/\o.data= .seq c n/\c.size<=ζ/\OB xs c.toList
noncomputable def Jh:Γ->Ο
 | .none=>some .non
 | .bool b=>↑(.bl b)
 | .int i _=>↑(.int i)
 | .str x _=>↑(.str x)
 | .bytes b _=>↑(.byt b)
 | .float b _=>↑(.flt b)
 | .ref a=>↑(-a)
 | .type n=>↑(.ty n)
 |_=>none
def Oz.abs(r:Oz x u):Jh u=↑x:=by
 cases x with
 |non=>cases r;rfl
 |bl _=>cases r;rfl
 |int _=>let#[t,rfl]:=r;rfl
 |str _=>let#[t,rfl]:=r;rfl
 |byt _=>let#[t,rfl]:=r;rfl
 |flt _=>let#[t,rfl]:=r;rfl
 |ref _=>cases r;rfl
 |ty _=>cases r;rfl
def Oz.inj(r:Oz x u)(q:Oz y u):x=y:=Lb (r.abs.symm.trans q.abs)
theorem OB.inj:∀{xs ys:Β} {us:Ζ},OB xs us->OB ys us->xs=ys
 :=by
 intro xs ys us h
 induction h generalizing ys with
 |nil=>intro g;cases g;rfl
 |cons r t ih=>intro g;cases g with
  |cons r' t'=>rw[r.inj r',ih t']
def OA.of{K:ι}(h:H a=↑(.lst xs)):OA K H a xs:= .inl (.inl h)
def OC.of{K:ι}(h:H a=↑(.tup xs)):OC K H a xs:= .inl (.inl h)
def Ov.list(I:Ov X tx σ H s)(h:OA X.K H a xs):∃c:Ζ,OB xs c/\PlainL s.heap a c.toArray/\xs.length<=ζ:=by
 rcases h with h|⟨o,c,n,hk,d,f,g,i,r⟩
 .let#[z,c,n,r,e]:=h.ok I.hok
  exact#[c,r,#[_,n,e,23],z]
 .exists c.toList,r,#[o,n,I.kIn a o hk,d,f,by simpa using g]
  have e:=r.length;simp only[Mc]at e;lia
def Ov.tuple(I:Ov X tx σ H s)(h:OC X.K H a xs):∃c:Ζ,OB xs c/\IsTup s.heap a c.toArray/\xs.length<=ζ:=by
 rcases h with h|⟨o,c,n,hk,d,f,g,r⟩
 .let#[z,c,r,p]:=h.ok I.hok
  exact#[c,r,p,z]
 .exists c.toList,r,#[o,I.kIn a o hk,d,n,by simpa using f]
  have e:=r.length;simp only[Mc]at e;lia
def Ov.list_inj(I:Ov X tx σ H s)(h:OA X.K H a xs)(h':OA X.K H a ys):xs=ys:=by
 let#[f,r,#[o,n,e,_,_,d],_]:=I.list h;let#[c,j,#[o',l,i,_,_,g],_]:=I.list h';rw[e]at i;cases i
 rw[d]at g;injection g with d1 _
 have:f=c:=by simpa using Lh Ke d1
 subst this;exact r.inj j
def Ov.tuple_inj(I:Ov X tx σ H s)(h:OC X.K H a xs)(h':OC X.K H a ys):xs=ys:=by
 let#[f,r,#[o,e,_,n,d],_]:=I.tuple h;let#[c,j,#[o',i,_,l,g],_]:=I.tuple h';rw[e]at i;cases i
 rw[d]at g;injection g with d1 _
 have:f=c:=by simpa using Lh Ke d1
 subst this;exact r.inj j
abbrev Cx.wish(X:Cx)(E:Om):Cx:={X with xe:=E}
abbrev Cx.nox(X:Cx):Cx:=X.wish λ_ _=>False
theorem Cx.Ok.wish{X:Cx}(ok:X.Ok)(E:Om):(X.wish E).Ok:=
 #[ok.mod,ok.kind,ok.glob,ok.blt,ok.above,ok.inj,ok.has,ok.cab,ok.hd,ok.frames,ok.stk,ok.exf,ok.bs,ok.bsz,ok.noex,ok.exfs,ok.funs,ok.frf]
def Cx.Ok.unwish{X:Cx}(ok:(X.wish E).Ok):X.Ok:=
 #[ok.mod,ok.kind,ok.glob,ok.blt,ok.above,ok.inj,ok.has,ok.cab,ok.hd,ok.frames,ok.stk,ok.exf,ok.bs,ok.bsz,ok.noex,ok.exfs,ok.funs,ok.frf]
section
variable{X:Cx}{st:δ}{rest:List δ}{t u:TS}
theorem Ov.wish(I:Ov X tx σ H s)(E:Om):Ov (X.wish E) tx σ H s:=#[I.ok.wish E,I.os,I.bare,I.base,I.loc,I.cell,I.free,I.freeC,I.pin,I.hok,I.len]
theorem Ov.unwish(I:Ov (X.wish E) tx σ H s):Ov X tx σ H s:=#[I.ok.unwish,I.os,I.bare,I.base,I.loc,I.cell,I.free,I.freeC,I.pin,I.hok,I.len]
theorem SP.unwish(h:SP (X.wish E) tx D f s'):SP X tx D f s':=by
 cases f with
 |next=>let#[a,H',I,q]:=h;exact#[a,H',I.unwish,q]
 |brk=>let#[a,H',I,q]:=h;exact#[a,H',I.unwish,q]
 |cont=>let#[a,H',I,q]:=h;exact#[a,H',I.unwish,q]
 |ret u=>let#[v,a,H',I,r,q]:=h;exact#[v,a,H',I.unwish,r,q]
theorem R6.nox{st:List δ}{t:TS}(h:R6 X.nox st t):R6 X st t:=λtx s σ H D I a=>
 Lg (h tx s σ H D (I.wish _) a) (λ_ _ q=>q.unwish) λ_ _ z=>False.elim z
def Ec:TS:=λD σ H=>D.nx σ H
def fX(t u:TS):TS:=λD σ H=>t {D with nx:=u D} σ H
def EZ:R6 X [] Ec:=λ_ _ σ H _ I h=>MG #[σ,H,I,h]
def BX(h1:PS X st t)(h2:R6 X rest u):R6 X (st::rest) (fX t u):=by
 intro tx s σ H D I h;refine wpAny_execs_cons (qG (h1 tx s σ H {D with nx:=u D} I h) λf c q=>?_)
 cases f with
 |next=>
  let#[a,H',d,q]:=q;exact h2 tx c a H' D d q
 |ret v=>exact q
 |brk=>exact q
 |cont=>exact q
def Fk(h1:PS X st t):R6 X [st] t:=by
 intro tx s σ H D I h;refine wpAny_execs_cons (qG (h1 tx s σ H D I h) λf a q=>?_)
 cases f with
 |next=>exact MG q
 |ret v=>exact q
 |brk=>exact q
 |cont=>exact q
def Ov.quiet{tx:Oo}{σ:St}{H:Hp}{s:Θ}(I:Ov X tx σ H s):interactive X.env=false:=by simp [interactive,I.ok.kind]
def Eh(te:TE):TS:=λD σ H=>te σ H λ_ H1=>D.nx σ H1
def FM(he:PE X e te)(hs:swapsWith e none pos.line X.env=pure false:=by rfl):PS X (.Expr e pos) (Eh te):=by
 intro tx s σ H D I h;exact wpAny_Expr_any (qG (he tx s σ H _ I h) λv d ⟨x,H1,a,f,c⟩=>#[σ,H1,a,c]) I.quiet hs
def Gb(te:TE):TS:=λD σ H=>te σ H D.rt
def GZ(he:PE X e te):PS X (.Return ↑e pos) (Gb te):=by
 intro tx s σ H D I h;exact wpAny_Return_some (qG (he tx s σ H _ I h) λv f ⟨x,H1,a,d,c⟩=>#[x,σ,H1,a,d,c])
def HZ(c:TT)(t u:TS):TS:=λD σ H=>c σ H λb H1=>if b=true then t D σ H1 else u D σ H1
def ID{b:List δ}(hc:PT X c tc)(ha:R6 X a t)(hb:R6 X b u):PS X (.If c a b pos) (HZ tc t u):=by
 intro tx s σ H D I h;refine wpAny_If (qG (hc tx s σ H _ I h) λd f i=>?_)
 let#[H1,e,g]:=i;cases d with
 |true=>exact ha tx f σ H1 D e g
 |false=>exact hb tx f σ H1 D e g
def AE:TS:=λ_ _ _=>False
def AJ:R6 X a AE:=λ_ _ _ _ _ _ h=>h.elim
end
abbrev TG:=V->St->Hp->(St->Hp->Prop)->Prop
abbrev bK:=Β->St->Hp->(St->Hp->Prop)->Prop
def PG(X:Cx)(a:Φ)(t:TG):Prop:=
 ∀(tx:Oo) (s:Θ) (σ:St) (H:Hp) (v:V) (u:Γ) (Q:St->Hp->Prop),Ov X tx σ H s->Oz v u->t v σ H Q->
  ε (model X.prog X.w) X.A (assign a X.env u) (λ_ s'=>∃c H',Ov X tx c H' s'/\Q c H') X.xe s
def vD(X:Cx)(e:Ι)(t:bK):Prop:=
 ∀(tx:Oo) (s:Θ) (σ:St) (H:Hp) (c:Β) (d:Ζ) (Q:St->Hp->Prop),Ov X tx σ H s->OB c d->t c σ H Q->
  ε (model X.prog X.w) X.A (assignInOrder ((assignEach e X.env).map (·.2)) d) (λ_ s'=>∃a H',Ov X tx a H' s'/\Q a H') X.xe s
abbrev kB:=V->V->V->Hp->(Hp->Prop)->Prop
def rQ(X:Cx)(t:kB):Prop:=
 ∀(tx:Oo) (s:Θ) (σ:St) (H:Hp) (o i v:V) (c a u:Γ) (Q:Hp->Prop),Ov X tx σ H s->Oz o c->Oz i a->Oz v u->t o i v H Q->
  ε (model X.prog X.w) X.A (setItem c a u) (λ_ s'=>∃H',Ov X tx σ H' s'/\Q H') X.xe s
abbrev Ba:=V->V->Hp->VK->Prop
def Gw(X:Cx)(a:Operator)(t:Ba):Prop:=
 ∀(tx:Oo) (s:Θ) (σ:St) (H:Hp) (x y:V) (v u:Γ) (Q:VK),Ov X tx σ H s->Oz x v->Oz y u->t x y H Q->
  ε (model X.prog X.w) X.A (inplaceOp a v u) (EP X tx σ Q) X.xe s
def aR(i:Nat):TG:=λv σ H Q=>Q (σ.set i ↑v) H
def FJ{i:Nat}{x:Str}(hN:X.N.Nodup)(hi:X.N[i]? =↑x)(hx:lD X.env.scope x)(hf:hO X x:=by first|exact .inl Z|exact .inr Z|assumption):PG X (.Name x pos) (aR i):=by
 intro tx s σ H v u Q I r h;exact wpAny_assign_Name (bv I hN hi hx r (λs' a=>#[_,H,a,h]) hf)
def CV:bK:=λa σ H Q=>a=[]/\Q σ H
inductive UF (t:TG)(u:bK)(vs:Β)(σ:L2.St)(H:Hp)(Q:L2.St->Hp->Prop):Prop
 |mk (v:_)(r:_)(h1:vs=v::r)(h2:t v σ H λσ' H'=>u r σ' H' Q)
def rJ(t:TG)(u:bK):bK:=λa σ H Q=>UF t u a σ H Q
def FO:vD X [] CV:=by
 intro tx s σ H a c Q I r h;let#[e,h]:=h;subst e;cases r;exact assignInOrder_nil #[σ,H,I,h]
def Dz(h1:PG X e t)(h2:vD X es u)
  (hs:(assignEach (e::es) X.env).map (·.2)=assign e X.env::(assignEach es X.env).map (·.2):=by rfl):vD X (e::es) (rJ t u):=by
 intro tx s σ H m l Q I r h;let#[v,j,g,h]:=h;subst g;cases r with
 |cons r rr=>
  rw[hs];refine assignInOrder_cons (qG (h1 tx s σ H _ _ _ I r h) λ_ d i=>?_)
  let#[a,H1,c,f]:=i;exact h2 tx d a H1 _ _ Q c rr f
inductive UR (K:ι)(n:Nat)(t:bK)(v:V)(σ:L2.St)(H:Hp)(Q:L2.St->Hp->Prop):Prop
 |mk (a:_)(xs:_)(h1:v= .ref a)(h2:OC K H a xs)(h3:xs.length=n)(h4:t xs σ H Q)
def xn(K:ι)(n:Nat)(t:bK):TG:=λv σ H Q=>UR K n t v σ H Q
def tU{k:Nat}{n:Nat}(hc:X.calm=true)(h:vD X es t)
  (hn:(assignEach es X.env).length=n:=by rfl)(hst:(assignEach es X.env).findIdx? (·.1)=none:=by rfl):PG X (.Tuple es k pos) (xn X.K n t):=by
 intro tx s σ H v u Q I r c;let#[a,xs,m,i,l,c]:=c;subst m;cases r;let#[f,d,j,q]:=I.tuple i;refine assign_Tuple_tuple (I.ok.hd hc) j (by simp [hn,<- l,d.length]) hst λh' p=>?_
 have g:Ov X tx σ H {s with heap:=h'}:=I.kept (t':=s.toks) λb o e=>p b o (J4 (JS e)) e
 exact h tx _ σ H xs _ Q g (by simpa using d) c
def Gy(to a:TE)(t:kB):TG:=λv σ H Q=>to σ H λo H1=>a σ H1 λi c=>t o i v c λH3=>Q σ H3
def HA{to:TE}(ho:PE X o to)(hi:PE X i e)(hs:rQ X t)
  (ha:∀v,assign (.Subscript o i pos) X.env v=(do
   let a <- holding [v] (eval o X.env)
   let c <- holding [v,a] (eval i X.env)
   standAt pos
   holding [v,a,c] (setItem a c v)
   release [v,a,c] []):=by intro _;rfl):PG X (.Subscript o i pos) (Gy to e t):=by
 intro tx s σ H v u Q I r h;rw[ha];refine JH (LD (qG (ho tx s σ H _ I h) λa j d=>?_))
 let#[x,H1,f,n,l]:=d;refine JH (LD (qG (hi tx j σ H1 _ f l) λc p d=>?_))
 let#[y,A,q,z,w]:=d;refine JH (L5 (JH (LD (qG (hs tx p σ A x y v a c u _ q n z r w) λ_ B d=>?_))))
 let#[H3,m,g]:=d;exact wpAny_release #[σ,H3,m,g]
def nv(te:TE)(g:TG):TS:=λD σ H=>te σ H λx H1=>g x σ H1 D.nx
def GJ(he:PE X e te)(hg:PG X tg g)(hs:swapsWithSole [tg] e pos.line X.env=pure false:=by rfl)(hw:swappedStores [tg] e X.env=pure none:=by rfl)
  (h1:(assignEach [tg] X.env).map (·.2)=[assign tg X.env]:=by rfl):PS X (.Assign [tg] e pos) (nv te g):=by
 intro tx s σ H D I h;refine wpAny_Assign_stores (qG (he tx s σ H _ I h) λv d i=>?_) hs hw
 let#[x,H1,a,f,c]:=i;rw[h1];exact qG (hg tx d σ H1 x v _ a f c) λ_ j q=>q
def GO{i:Nat}{x:Str}(hN:X.N.Nodup)(hi:X.N[i]? =↑x)(hx:lD X.env.scope x)(he:PE X e te)(hs:swapsWith e ↑(.Name x pos') pos.line X.env=pure false:=by rfl)(hf:hO X x:=by first|exact .inl Z|exact .inr Z|assumption):
  PS X (.Assign [.Name x pos'] e pos) (nv te (aR i)):=by
 intro tx s σ H D I h;refine wpAny_Assign_Name (qG (he tx s σ H _ I h) λv j g=>?_) hs
 let#[y,H1,a,d,c]:=g;exact bv a hN hi hx d (λl f=>#[_,H1,f,c]) hf
def FZ(i j:Nat)(ta:TA):TS:=λD σ H=>ta σ H λa H1=>∃v w,a=[v,w]/\D.nx ((σ.set i ↑v).set j ↑w) H1
def HY{i j:Nat}{x y:Str}{a b:Φ}{pt:Pos}{kt k2 pt2}(hc:X.calm=true)(hN:X.N.Nodup)(hi:X.N[i]? =↑x)(J:X.N[j]? =↑y)(t:i≠j)
  (hx:X.env.scope.names.lookup x=some .local)(z:X.env.scope.names.lookup y=some .local)(ha:PA X [a,b] ta)
  (hw:swappedStores [.Tuple [.Name x g,.Name y m] kt pt] (.Tuple [a,b] k2 pt2) X.env=pure (some [x,y]))
  (hs:swapsWithSole [.Tuple [.Name x g,.Name y m] kt pt] (.Tuple [a,b] k2 pt2) pos.line X.env=pure false:=by rfl):
  PS X (.Assign [.Tuple [.Name x g,.Name y m] kt pt] (.Tuple [a,b] k2 pt2) pos) (FZ i j ta):=by
 intro tx s σ H D I h;rw[exec_Assign_arm];refine JH (L5 ?_)
 rw[hs];refine JH (JP ?_)
 rw[JJ ⋯]
 refine JH (Tuple_ (qG (ha _ tx s σ H _ I h) λC d F=>?_))
 let#[P,H1,E,K,r]:=F;let#[v,w,M,r]:=r;subst M;let#[f,c,rfl,L,l]:∃f c,C=[f,c]/\Oz v f/\Oz w c:=by
  cases K with
  |cons p q=>
   cases q with
   |cons p' q'=>
    cases q'
    exact#[6,p,p']
 refine LH ?_ (by show 2<=ζ;decide)
 have B:Ov X tx σ H1 {d with heap:=d.heap.push {cls:= .type "tuple",data:= .seq [f,c].toArray}}:=E.kept (t':=d.toks) λb o e=>JR _ e
 rw[hw];refine JH (JP ?_)
 show ε (model X.prog X.w) X.A (do rule "assign.swapped-stores";let items <- unpackItems (-d.heap.objs.size) 2 none;assignInOrder [λv=>bindName X.env y v,λv=>bindName X.env x v] items.reverse;pure Flow.next) _ _ _
 refine JH (Mr (JH (unpackItems_tuple (items:= (B0 [f,c])) (I.ok.hd hc) (IsTup.new d.heap _) λh' n=>?_)))
 have G:=B.kept (h':=h') (t':=d.toks) λb o e=>n b o (J4 (JS e)) e
 show ε _ _ (assignInOrder [λv=>bindName X.env y v,λv=>bindName X.env x v] [c,f] >>= λ_=>pure Flow.next) _ _ _
 refine JH (assignInOrder_cons (wpAny_bindName (bv G hN J (.inl z) l (λO A=>?_) (.inr z))))
 refine assignInOrder_cons (wpAny_bindName (bv A hN hi (.inl hx) L (λN u=>assignInOrder_nil (JP ?_)) (.inr hx)))
 rw[List.set_comm _ _ (Ne.symm t)]at u
 exact#[_,H1,u,r]
def Ej(to g te:TE)(c:V->V->Hp->VK->Prop)(d:Ba)(a:kB):TS:=λD σ H=>to σ H λo H1=>g σ H1 λi j=>c o i j λx H3=>te σ H3 λy h=>d x y h λz e=>a o i z e λf=>D.nx σ f
def CO(X:Cx)(t:V->V->Hp->VK->Prop):Prop:=
 ∀(tx:Oo) (s:Θ) (σ:St) (H:Hp) (o i:V) (c a:Γ) (Q:VK),Ov X tx σ H s->Oz o c->Oz i a->t o i H Q->
  ε (model X.prog X.w) X.A (getItem c a) (EP X tx σ Q) X.xe s
def ES{to:TE}{c:V->V->Hp->VK->Prop}(ho:PE X o to)(hi:PE X i t)(hg:CO X c)(he:PE X e te)(hp:Gw X n j)(hs:rQ X d)
  (ha:∀f g new,augStore i f g new=(do holding [new,f,g] (setItem f g new);release [new,f,g] [];pure .next):=by intros;rfl):PS X (.AugAssign (.Subscript o i tpos) n e pos) (Ej to t te c j d):=by
 intro tx s σ H D I h;refine wpAny_AugAssign_SubscriptAny (qG (ho tx s σ H _ I h) λf A a=>?_) ha
 let#[q,H1,K,r,S]:=a;refine qG (hi tx A σ H1 _ K S) λg M a=>?_
 let#[p,P,G,m,J]:=a;refine qG (hg tx M σ P q p f g _ G r m J) λl w a=>?_
 let#[Y,H3,Q,E,z]:=a;refine qG (he tx w σ H3 _ Q z) λv C a=>?_
 let#[x4,N,F,W,y]:=a;refine qG (hp tx C σ N Y x4 l v _ F E W y) λnew U a=>?_
 let#[x,B,O,R,T]:=a;exact qG (hs tx U σ B q p x f g new _ O r m R T) λ_ s6 ⟨L,I6,u⟩=>#[σ,L,I6,u]
def JF(f:Int->Int->Int):Ba:=λx y H Q=>∃i j,x= .int i/\y= .int j/\Q (.int (f i j)) H
def GY:Gw X .Add (JF λi j=>i+j):=by
 intro tx s σ H x y v u Q I a d h;let#[i,j,c,e,q]:=h;subst c;subst e
 let#[t,rfl]:=a;let#[f,rfl]:=d;exact iadd_int #[.int _,H,I.tok _,#[0],q]
inductive Ul (c:TT)(tb:TS)(D:OU)(σ:L2.St)(H:Hp):Prop
 |mk (W:Nat->St->Hp->Prop)(h1:(∃m,W m σ H))(h2:∀m σ H,W m σ H->c σ H λb H1=>if b=true then∃N:St->Hp->Prop,(∀σ' H',N σ' H'->∃m',m'<m/\W m' σ' H')/\tb {D with nx:=N,ct:=N,bk:=D.nx} σ H1 else D.nx σ H1)
def Bm(c:TT)(tb:TS):TS:=λD σ H=>Ul c tb D σ H
def DF(hp:PassesOwn (model X.prog X.w) X.A X.env X.xe)(hc:PT X c tc)(hb:R6 X e tb):PS X (.While c e [] pos) (Bm tc tb):=by
 intro tx s σ H D I h;let#[W,#[B,w],turn]:=h;refine wpAny_While (codeAny_whileLoop (λn s'=>∃g H',Ov X tx g H' s'/\W n g H') ?_ B #[σ,H,I,w])
 rintro n u ⟨d,H1,x,z⟩
 refine Ms hp (qG (hc tx u d H1 _ x (turn n d H1 z)) λb y A=>?_)
 let#[t,q,j]:=A;cases b with
 |true=>
  let#[N,r,j]:=j;rw[JK Z];refine Ms hp (qG (hb tx y d t _ q j) λf C i=>?_)
  cases f with
  |next=>
   let#[a,H3,p,m]:=i;let#[m',l,o]:=r a H3 m
   exact#[m',l,a,H3,p,o]
  |cont=>
   let#[a,H3,p,m]:=i;let#[m',l,o]:=r a H3 m
   exact#[m',l,a,H3,p,o]
  |brk=>exact i
  |ret v=>exact i
 |false=>
  rw[JJ Le];exact MG #[d,t,q,j]
structure It where
 go:Nat->Hp->Prop
 yld:Nat->Hp->V->Hp->Prop
 stop:Nat->Hp->Prop
def ao(X:Cx)(tx:Oo)(H:Hp)(b:Δ):Prop:=
 H b=none/\b≠X.env.locals/\b∉X.fs/\(b∈X.ex\/X.s₀.heap.objs.size<=b)/\(∀x c,X.env.cells.lookup x=↑c->c≠b)/\∀p∈X.pn++tx,p.1≠b
def Ov.fpOk{H':Hp}{b:Δ}(I:Ov X tx σ H s)(hb:s.heap.objs.size<=b)(hn:H' b=none):ao X tx H' b:=by
 refine#[hn,LB (Ll I.lt hb),I.nofs hb,.inr (Lc I.sz hb),λx c e z=>?_,λp a z=>?_]
 .let#[v,q]:=I.cell x c e
  exact absurd (Ll q.lt (by rw[z];exact hb)) (LC _)
 .exact absurd (Ll (JS (I.pin p a).1) (by rw[z];exact hb)) (LC _)
structure Rq(P:Ξ)(w:Ω)(K:ι)(tg:Φ)(J:It)(fp:Η)(it:Δ)(tn:Nat->Ψ->Prop):Prop where
 mem:it∈fp
 obj:∀i h,tn i h->∀b∈fp,∃o,h.get? b=↑o/\∀v,o.data≠ .cell v
 keep:∀i h h',tn i h->(∀b∈fp,∀o,h.get? b=↑o->h'.get? b=↑o)->tn i h'
 item:∀(X:Cx),X.prog=P->X.w=w->X.K=K->X.calm=true->∀(i:Nat) (tx:Oo) (s:Θ) (σ:St) (H:Hp) (E:Om),Ov X tx σ H s->(∀b∈fp,ao X tx H b)->tn i s.heap->J.go i H->
  ε (model P w) X.A (pyNext (-it)) (λr s1=>∃u,r=↑u/\
   ε (model P w) X.A (letOwnedTupleGo tg (-it) u) (λ_ s2=>∃x H',Ov X tx σ H' s2/\Oz x u/\J.yld i H x H'/\tn (i+1) s2.heap/\∀b∈fp,H' b=none) E s1) E s
 done:∀(X:Cx),X.prog=P->X.w=w->X.K=K->X.calm=true->∀(i:Nat) (tx:Oo) (s:Θ) (σ:St) (H:Hp) (E:Om),Ov X tx σ H s->(∀b∈fp,ao X tx H b)->tn i s.heap->J.stop i H->
  ε (model P w) X.A (pyNext (-it)) (λr s1=>r=none/\Ov X tx σ H s1) E s
 self:∀(A:SO) (i:Nat) (s:Θ) (Q:Om) (E:Om),tn i s.heap->Q (-it) s->ε (model P w) A (pyIter (-it)) Q E s
abbrev TI:=St->Hp->(It->Hp->Prop)->Prop
def IN(X:Cx)(tx:Oo)(σ:St)(tg:Φ)(R:It->Hp->Prop)(a:Γ)(d:Θ):Prop:=
 ∃(c:Δ) (e:Η) (tn:Nat->Ψ->Prop) (J:It) (H':Hp),a= .ref c/\Ov X tx σ H' d/\Rq X.prog X.w X.K tg J e c tn/\tn 0 d.heap/\(∀b∈e,ao X tx H' b)/\R J H'
def PI(X:Cx)(tg a:Φ)(d:TI):Prop:=
 ∀(tx:Oo) (s:Θ) (σ:St) (H:Hp) (R:It->Hp->Prop),Ov X tx σ H s->d σ H R->
  ε (model X.prog X.w) X.A (eval a X.env) (λv c=>ε (model X.prog X.w) X.A (pyIter v) (IN X tx σ tg R) X.xe c) X.xe s
def gp{s:Θ}{tg:Φ}{it:Δ}{u:Γ}{o:Obj}{Q:Unit->Θ->Prop}(ho:s.heap.get? it=↑o)(hc:o.cls= .type n)(hd:o.data= .fields vs)
    (hn:["enumerate","zip","dict_itemiterator","dict_reverseitemiterator","odict_iterator","itertools.zip_longest","itertools.pairwise"].contains n=false)(a:Q () s):ε M A (letOwnedTupleGo tg (-it) u) Q E s:=by
  unfold letOwnedTupleGo;cases tg<;>first
    |exact JP a
    |(cases u<;>first
        |exact JP a
        | (refine JH (wpAny_load ho ?_)
           rw[hc,hd]
           show ε M A (if(["enumerate","zip","dict_itemiterator","dict_reverseitemiterator","odict_iterator","itertools.zip_longest","itertools.pairwise"].contains n&&vs[0]? ==↑(rawInt _))=true then _ else _) Q E s
           rw[JJ (by intro h;rw[hn,LR]at h;cases h)]
           exact JP a))
noncomputable def ji(K:ι)(a:Δ):It:=
 ⟨λi H=>∃xs x,OA K H a xs/\xs[i]? =↑x,λi H x H'=>H'=H/\∀xs,OA K H a xs->xs[i]? =↑x,λi H=>∃xs,OA K H a xs/\xs.length<=i⟩
noncomputable def i7(K:ι)(a:Δ):It:=
 ⟨λi H=>∃xs x,OC K H a xs/\xs[i]? =↑x,λi H x H'=>H'=H/\∀xs,OC K H a xs->xs[i]? =↑x,λi H=>∃xs,OC K H a xs/\xs.length<=i⟩
noncomputable def uC(lo:Int)(n:Nat):It:=⟨λi _=>i<n,λi H x H'=>H'=H/\x= .int (lo+i),λi _=>n<=i⟩
def pW{K:ι}(a it:Δ):Rq P w K tg (ji K a) [it] it (λi h=>h.IsListIter it a i) where
 mem:=by simp
 obj:=λi h st b f=>by
  have e:b=it:=by simpa using f
  subst e;let#[o,e,c,d]:=st
  exact#[o,e,λv z=>by rw[d]at z;cases z]
 keep:=λi h h' st k=>st.at λo e=>k it (by simp) o e
 item:=by
  intro X q r y G i tx s σ H E I l st n;subst q r y;let#[xs,x,j,A]:=n;let#[t,D,p,Q]:=I.list j;let#[u,M,L]:=D.get A;let#[B,f1,f2,C,F,m]:=l it (by simp)
  refine wpAny_pyNext_list_item st p.isList (x:=u) (by simpa using M) λh' g J=>?_
  have N:Ov X tx σ H {s with heap:=h'}:=I.turned (t':=s.toks) (λb o f e=>(J.2 b f).trans e) B f1 C F m
  let#[o,e,c,d]:=id g
  exact#[u,Z,gp (s:={s with heap:=h'}) e c d ⋯ #[x,H,N,L,#[Z,λys R=>by rw[I.list_inj R j];exact A],g,λb f=>(l b f).1]]
 done:=by
  intro X q r y G i tx s σ H E I l st n;subst q r y;let#[xs,j,A]:=n;let#[t,D,p,Q]:=I.list j;let#[B,f1,f2,C,F,m]:=l it (by simp)
  have S:=D.length;exact wpAny_pyNext_list_end (I.ok.hd G) st p.isList (by simp;lia) λh' O=>#[Z,I.turned (t':=s.toks) (λb o f e=>O b o f e) B f1 C F m]
 self:=λ_ _ _ _ _ st h=>wpAny_pyIter_listiter st h
def mj{K:ι}(a it:Δ):Rq P w K tg (i7 K a) [it] it (λi h=>h.IsTupleIter it a i) where
 mem:=by simp
 obj:=λi h st b f=>by
  have e:b=it:=by simpa using f
  subst e;let#[o,e,c,d]:=st
  exact#[o,e,λv z=>by rw[d]at z;cases z]
 keep:=λi h h' st k=>st.at λo e=>k it (by simp) o e
 item:=by
  intro X r t y G i tx s σ H E I m st q;subst r t y;let#[xs,x,l,A]:=q;let#[g,D,p,Q]:=I.tuple l;let#[u,M,L]:=D.get A;let#[B,f1,f2,C,F,n]:=m it (by simp)
  refine wpAny_pyNext_tuple_item st (show s.heap.IsTuple a g.toArray from p) (x:=u) (by simpa using M) λh' j J=>?_
  have N:Ov X tx σ H {s with heap:=h'}:=I.turned (t':=s.toks) (λb o f e=>(J.2 b f).trans e) B f1 C F n
  let#[o,e,c,d]:=id j
  exact#[u,Z,gp (s:={s with heap:=h'}) e c d ⋯ #[x,H,N,L,#[Z,λys R=>by rw[I.tuple_inj R l];exact A],j,λb f=>(m b f).1]]
 done:=by
  intro X r t y G i tx s σ H E I m st q;subst r t y;let#[xs,l,A]:=q;let#[g,D,p,Q]:=I.tuple l;let#[B,f1,f2,C,F,n]:=m it (by simp)
  have S:=D.length;exact wpAny_pyNext_tuple_end (I.ok.hd G) st (show s.heap.IsTuple a g.toArray from p) (by simp;lia) λh' O=>#[Z,I.turned (t':=s.toks) (λb o f e=>O b o f e) B f1 C F n]
 self:=λ_ _ _ _ _ st h=>wpAny_pyIter_tupleiter st h
def wO{K:ι}(it:Δ)(lo:Int)(n:Nat):Rq P w K tg (uC lo n) [it] it (λi h=>IsRangeIter h it (lo+(i:Nat)*1) ((n:Int)-(i:Nat)) 1) where
 mem:=by simp
 obj:=λi h st b a=>by
  have e:b=it:=by simpa using a
  subst e
  exact#[_,st,λv z=>by
   have A:Sg _=Sf v:=z
   cases A]
 keep:=λi h h' st k=>k it (by simp) _ st
 item:=by
  intro X u f g q i tx s σ H E I d st r;subst u f g;let#[m,f1,f2,j,p,l]:=d it (by simp)
  have W:=Walks.range (prog:=X.prog) (w:=X.w) (I.ok.hd q) it lo 1 n
  refine W.item i s _ _ r st λv h' tk B c kk=>?_
  let#[t,rfl]:=B;have x:Ov X tx σ H {s with heap:=h',toks:=tk}:=I.turned (λb o a e=>kk b o (by simpa using a) e) m f1 j p l
  refine#[0,gp (s:={s with heap:=h',toks:=tk}) (n:="range_iterator") c Z Z ⋯ #[.int (lo+i),H,x,#[t,?_],#[9],c,λb a=>(d b a).1]]
  rw[Int.mul_one]
 done:=by
  intro X u f g q i tx s σ H E I d st r;subst u f g;let#[m,f1,f2,j,p,l]:=d it (by simp)
  exact wpAny_pyNext_range_end (I.ok.hd q) st (by have:n<=i:=r;lia) λh' y=>#[Z,I.turned (t':=s.toks) (λb o a e=>y b o a e) m f1 j p l]
 self:=λ_ _ _ _ _ st h=>NS st h
def Ea(K:ι)(tl:TE):TI:=λσ H R=>tl σ H λx H1=>∃a,x= .ref a/\(∃xs,OA K H1 a xs)/\R (ji K a) H1
def Hn(K:ι)(tl:TE):TI:=λσ H R=>tl σ H λx H1=>∃a,x= .ref a/\(∃xs,OC K H1 a xs)/\R (i7 K a) H1
def Fb(hl:PE X l tl):PI X tg l (Ea X.K tl):=by
 intro tx s σ H R I h;refine qG (hl tx s σ H _ I h) λv d n=>?_
 let#[x,H1,c,j,i]:=n;let#[a,e,#[xs,g],q]:=i;subst e;cases j;let#[f,t,p,r]:=c.list g;refine MY p.isList ?_
 refine#[d.heap.objs.size,[d.heap.objs.size],8,H1,Z,c.kept (t':=d.toks) λb o e=>JR _ e,pW a _,#[_,J2 _ Z,9],λb m=>?_,q]
 have e:b=d.heap.objs.size:=by simpa using m
 subst e;exact c.fpOk (JL _) (c.hok.fresh (JL _))
def Hj(hl:PE X l tl):PI X tg l (Hn X.K tl):=by
 intro tx s σ H R I h;refine qG (hl tx s σ H _ I h) λv c n=>?_
 let#[x,H1,d,j,i]:=n;let#[a,e,#[xs,g],q]:=i;subst e;cases j;let#[f,t,p,r]:=d.tuple g;refine Md (show c.heap.IsTuple a f.toArray from p) ?_
 refine#[c.heap.objs.size,[c.heap.objs.size],8,H1,Z,d.kept (t':=c.toks) λb o e=>JR _ e,mj a _,#[_,J2 _ Z,9],λb m=>?_,q]
 have e:b=c.heap.objs.size:=by simpa using m
 subst e;exact d.fpOk (JL _) (d.hok.fresh (JL _))
def C4{R:It->Hp->Prop}{lo hi:Int}{tk:Nat}(I:Ov X tx σ H s)(h1: -(2 ^ 62)<=lo)(h2:lo<2 ^ 62)(g: -(2 ^ 62)<=hi)(c:hi<2 ^ 62)
  (q:R (uC lo (hi-lo).toNat) H):ε (model X.prog X.w) X.A (pyIter (-s.heap.objs.size)) (IN X tx σ tg R) E {s with heap:=s.heap.push {cls:= .type "range",data:= .fields (B0 [.int lo t,.int hi u,.int 1 v])},toks:=tk}:=by
 refine wpAny_pyIter_range (IsRange.new ..) (small_one h1 h2 g c) ?_
 have a:Ov X tx σ H {s with heap:=s.heap.push {cls:= .type "range",data:= .fields (B0 [.int lo t,.int hi u,.int 1 v])},toks:=tk}:=I.kept λb o e=>JR _ e
 refine#[(s.heap.push {cls:= .type "range",data:= .fields (B0 [.int lo t,.int hi u,.int 1 v])}).objs.size,[(s.heap.push {cls:= .type "range",data:= .fields (B0 [.int lo t,.int hi u,.int 1 v])}).objs.size],8,H,Z,
  a.kept (t':=tk) λb o e=>JR _ e,wO _ lo (hi-lo).toNat,?_,λb d=>?_,q]
 .have f:lo+((0:Nat):Int)*1=lo:=by simp
  have h:(((hi-lo).toNat:Nat):Int)-((0:Nat):Int)=γ.Range.rangeSize lo hi 1:=by rw[rangeSize_one];split<;>lia
  show IsRangeIter _ _ (lo+((0:Nat):Int)*1) ((((hi-lo).toNat:Nat):Int)-((0:Nat):Int)) 1
  rw[f,h];exact J2 _ Z
 .have e:b=(s.heap.push {cls:= .type "range",data:= .fields (B0 [.int lo t,.int hi u,.int 1 v])}).objs.size:=by simpa using d
  subst e;exact a.fpOk (JL _) (a.hok.fresh (JL _))
def DP(ta:TA):TI:=λσ H R=>ta σ H λa H1=>∃j:Int,a=[.int j]/\ -(2 ^ 62)<=j/\j<2 ^ 62/\R (uC 0 j.toNat) H1
def yo{a:Φ}{p:Pos}(hg:Gl X "range")(hm:X.mg "range"=none)(ha:PA X [a] ta)(hs:θ [a] X.env=[(false,eval a X.env)]:=by rfl):PI X tg (.Call (.Name "range" p) [a] [] pos) (DP ta):=by
 intro tx s σ H R I h;refine Call_ (bQ I hg hm boot_range (MH (qG (ha pos tx s σ H _ I h) λm l i=>?_) hs Z))
 let#[n,H1,d,f,c]:=i;let#[j,e,c,g,q]:=c;subst e;cases f with
 |cons r rr=>
  cases rr;let#[t,rfl]:=r;exact call_range_1 (C4 d (by lia) (by lia) c g (by simpa using q))
def C1(d:TI)(g:TG)(tb:TS):TS:=λD σ H=>d σ H λJ H1=>∃W:Nat->Nat->St->Hp->Prop,(∃m,W 0 m σ H1)/\∀i m σ H,W i m σ H->
 (J.stop i H/\D.nx σ H)\/(J.go i H/\∃N:St->Hp->Prop,(∀a H',N a H'->∃m',m'<m/\W (i+1) m' a H')/\∀x H',J.yld i H x H'->g x σ H' λc e=>tb {D with nx:=N,ct:=N,bk:=D.nx} c e)
noncomputable def lH(a:Η)(h:Ψ):List (Δ×Obj):=a.filterMap λb=>(h.get? b).map λo=>(b,o)
def fW{a:Η}{h:Ψ}{b:Δ}{o:Obj}(hb:b∈a)(e:h.get? b=↑o):(b,o)∈lH a h:=Kf.mpr #[b,hb,by rw[e];rfl]
def Bo{p:Δ×Obj}(hp:p∈lH a h):p.1∈a/\h.get? p.1=↑p.2:=by
 let#[b,c,e]:=Kf.mp hp;cases q:h.get? b with
 |none=>rw[q]at e;cases e
 |some o=>
  rw[q]at e;have d:(b,o)=p:=Lb e
  subst d
  exact#[c,q]
def Ov.pinned{a:Η}(I:Ov X tx σ H s)(hf:∀b∈a,ao X tx H b)(ho:∀b∈a,∃o,s.heap.get? b=↑o/\∀v,o.data≠ .cell v):Ov X (tx++lH a s.heap) σ H s:=
 I.pins_of λp h=>(J1.mp h).elim (λz=>I.pin p (LS _ z)) λz=>by
  let#[c,e]:=Bo z;let#[g,f1,f2,_]:=hf p.1 c;let#[o,f,d]:=ho p.1 c;rw[e]at f;cases f
  exact#[e,g,f1,f2,d]
def Ov.unpinned{tx pl:Oo}(I:Ov X (tx++pl) σ H s):Ov X tx σ H s:=I.pins_of λp a=>I.pin p (LS _ (Nu _ a))
def Hr(hp:PassesOwn (model X.prog X.w) X.A X.env X.xe)(hc:X.calm=true)(hi:PI X tg t wi)(hg:PG X tg g)(hb:R6 X y tb)
  (hs:∀x,foldedSetIterable t X.env x=pure x:=by intro _;rfl):PS X (.For tg t y [] pos) (C1 wi g tb):=by
 intro tx s σ H D I h;refine wpAny_For (qG (hi tx s σ H _ I h) λv s1 h1=>qG h1 λa0 s2 h2=>?_) hs
 let#[it,K,tn,J,H2,e,I2,T,M,f2,W,#[m0,w0],turn]:=h2;subst e;have c:∀{H':Hp},(∀b∈K,H' b=none)->∀b∈K,ao X tx H' b:=λhn b hb=>#[hn b hb,(f2 b hb).2]
 refine codeAny_forLoop_any (λn s'=>∃i j H',Ov X tx j H' s'/\tn i s'.heap/\(∀b∈K,H' b=none)/\W i n j H') ?_ m0 #[(0),σ,H2,I2,M,λb hb=>(f2 b hb).1,w0]
 rintro n R ⟨i,q,H3,U,F,E,w3⟩
 rcases turn i n q H3 w3 with⟨G,qn⟩|⟨go,N,hN,step⟩
 .refine Ms hp (qG (T.done X Z Z Z hc i tx R q H3 X.xe U (c E) F G) λr s4 B=>?_)
  let#[L,I4]:=B;subst L;exact MG #[q,H3,I4,qn]
 .refine Ms hp (qG (T.item X Z Z Z hc i tx R q H3 X.xe U (c E) F go) λr s4 B=>?_)
  let#[u,L,h4]:=B;subst L;refine Ms hp (qG h4 λ_ Y B=>?_)
  let#[x,S,I5,r5,y5,A,Q]:=B;have I5':=I5.pinned (c Q) (T.obj _ _ A);refine Ms hp (qG (hg _ Y q S x u _ I5' r5 (step x S y5)) λ_ s6 B=>?_)
  let#[P,H6,I6,q6]:=B;refine Ms hp (qG (hb _ s6 P H6 _ I6 q6) λf O z=>?_)
  have w:∀{a:St} {l:Hp},Ov X (tx++lH K Y.heap) a l O->N a l->∃m,m<n/\∃i j H',Ov X tx j H' O/\tn i O.heap/\(∀b∈K,H' b=none)/\W i m j H':=λ{a l} p C=>by
   let#[m',hm,w7]:=hN a l C;refine#[m',hm,i+1,a,l,p.unpinned,T.keep _ _ _ A λb hb o e=>(p.pin (b,o) (LS _ (LS _ (fW hb e)))).1,λb hb=>?_,w7]
   let#[o,e,d]:=T.obj _ _ A b hb
   exact(p.pin (b,o) (LS _ (LS _ (fW hb e)))).2.1
  cases f with
  |next=>let#[a,l,p,C]:=z;exact w p C
  |cont=>let#[a,l,p,C]:=z;exact w p C
  |brk=>let#[a,l,p,z]:=z;exact#[a,l,p.unpinned,z]
  |ret v=>let#[x7,a,l,p,r7,z]:=z;exact#[x7,a,l,p.unpinned,r7,z]
def bz{K:ι}{xs:Β}{g:TG}{tb:TS}{D:OU}{σ:St}{H:Hp}(Pv:Nat->St->Hp->Prop)(j:Pv 0 σ H)(hl:∀i σ H,i<=xs.length->Pv i σ H->OA K H a xs)
  (hs:∀i x σ H,xs[i]? =↑x->Pv i σ H->g x σ H λc h=>tb {D with nx:=Pv (i+1),ct:=Pv (i+1),bk:=D.nx} c h)(hd:∀σ H,Pv xs.length σ H->D.nx σ H):
  ∃W:Nat->Nat->St->Hp->Prop,(∃m,W 0 m σ H)/\∀i m σ H,W i m σ H->
   ((ji K a).stop i H/\D.nx σ H)\/((ji K a).go i H/\∃N:St->Hp->Prop,(∀d H',N d H'->∃m',m'<m/\W (i+1) m' d H')/\∀x H',(ji K a).yld i H x H'->g x σ H' λc h=>tb {D with nx:=N,ct:=N,bk:=D.nx} c h):=by
 exists λi m σ H=>m=xs.length-i/\i<=xs.length/\Pv i σ H,#[xs.length,by simp,Li _,j]
 rintro i m σ H ⟨rfl,hi,p⟩
 have q:=hl i σ H hi p
 by_cases f:i<xs.length
 .refine .inr #[#[xs,xs[i],q,by simp [f]],Pv (i+1),λd H' l=>#[xs.length-(i+1),by lia,Z,f,l],λx H' y=>?_]
  let#[e,y]:=y;subst e;exact hs i x σ _ (y xs q) p
 .have e:i=xs.length:=by lia
  subst e;exact .inl #[#[xs,q,JL _],hd σ H p]
def oA{K:ι}{xs:Β}{g:TG}{tb:TS}{D:OU}{σ:St}{H:Hp}(Pv:Nat->St->Hp->Prop)(j:Pv 0 σ H)(hl:∀i σ H,i<=xs.length->Pv i σ H->OC K H a xs)
  (hs:∀i x σ H,xs[i]? =↑x->Pv i σ H->g x σ H λc h=>tb {D with nx:=Pv (i+1),ct:=Pv (i+1),bk:=D.nx} c h)(hd:∀σ H,Pv xs.length σ H->D.nx σ H):
  ∃W:Nat->Nat->St->Hp->Prop,(∃m,W 0 m σ H)/\∀i m σ H,W i m σ H->
   ((i7 K a).stop i H/\D.nx σ H)\/((i7 K a).go i H/\∃N:St->Hp->Prop,(∀d H',N d H'->∃m',m'<m/\W (i+1) m' d H')/\∀x H',(i7 K a).yld i H x H'->g x σ H' λc h=>tb {D with nx:=N,ct:=N,bk:=D.nx} c h):=by
 exists λi m σ H=>m=xs.length-i/\i<=xs.length/\Pv i σ H,#[xs.length,by simp,Li _,j]
 rintro i m σ H ⟨rfl,hi,p⟩
 have q:=hl i σ H hi p
 by_cases f:i<xs.length
 .refine .inr #[#[xs,xs[i],q,by simp [f]],Pv (i+1),λd H' l=>#[xs.length-(i+1),by lia,Z,f,l],λx H' y=>?_]
  let#[e,y]:=y;subst e;exact hs i x σ _ (y xs q) p
 .have e:i=xs.length:=by lia
  subst e;exact .inl #[#[xs,q,JL _],hd σ H p]
def aB{lo:Int}{n:Nat}{g:TG}{tb:TS}{D:OU}{σ:St}{H:Hp}(Pv:Nat->St->Hp->Prop)(h:Pv 0 σ H)
  (hs:∀i σ H,i<n->Pv i σ H->g (.int (lo+i)) σ H λa f=>tb {D with nx:=Pv (i+1),ct:=Pv (i+1),bk:=D.nx} a f)(hd:∀σ H,Pv n σ H->D.nx σ H):
  ∃W:Nat->Nat->St->Hp->Prop,(∃m,W 0 m σ H)/\∀i m σ H,W i m σ H->
   ((uC lo n).stop i H/\D.nx σ H)\/((uC lo n).go i H/\∃N:St->Hp->Prop,(∀d H',N d H'->∃m',m'<m/\W (i+1) m' d H')/\∀x H',(uC lo n).yld i H x H'->g x σ H' λa f=>tb {D with nx:=N,ct:=N,bk:=D.nx} a f):=by
 exists λi m σ H=>m=n-i/\i<=n/\Pv i σ H,#[n,by simp,Li _,h]
 rintro i m σ H ⟨rfl,hi,p⟩
 by_cases c:i<n
 .refine .inr #[c,Pv (i+1),λd H' j=>#[n-(i+1),by lia,Z,c,j],λx H' y=>?_]
  let#[e,y]:=y;subst e y;exact hs i σ _ c p
 .have e:i=n:=by lia
  subst e;exact .inl #[JL _,hd σ H p]
abbrev R2:=V->V->Hp->VK->Prop
def Qj(X:Cx)(f:Γ->Γ->Sem Γ)(r:R2):Prop:=
 ∀(tx:Oo) (s:Θ) (σ:St) (H:Hp) (x y:V) (v u:Γ) (Q:VK),Ov X tx σ H s->Oz x v->Oz y u->r x y H Q->
  ε (model X.prog X.w) X.A (f v u) (EP X tx σ Q) X.xe s
def DM(X:Cx)(f:Γ->Sem Γ)(r:V->Hp->VK->Prop):Prop:=
 ∀(tx:Oo) (s:Θ) (σ:St) (H:Hp) (x:V) (v:Γ) (Q:VK),Ov X tx σ H s->Oz x v->r x H Q->
  ε (model X.prog X.w) X.A (f v) (EP X tx σ Q) X.xe s
def zY(X:Cx)(f:Γ)(r:Β->Hp->VK->Prop):Prop:=
 ∀(tx:Oo) (s:Θ) (σ:St) (H:Hp) (xs:Β) (a:Ζ) (Q:VK),Ov X tx σ H s->OB xs a->r xs H Q->
  ε (model X.prog X.w) X.A (call f a) (EP X tx σ Q) X.xe s
def pR(r:R2)(ta tb:TE):TE:=λσ H Q=>ta σ H λx H1=>tb σ H1 λy a=>r x y a Q
def IW(r:V->Hp->VK->Prop)(ta:TE):TE:=λσ H Q=>ta σ H λx H1=>r x H1 Q
inductive Vj (C:Int->Int->Prop)(g:Int->Int->V)(x:V)(y:V)(H:Hp)(Q:VK):Prop
 |mk (i:_)(j:_)(h1:x= .int i)(h2:y= .int j)(h3:C i j)(h4:Q (g i j) H)
def rI(C:Int->Int->Prop)(g:Int->Int->V):R2:=λx y H Q=>Vj C g x y H Q
inductive Vf (g:Int->Int->V)(x:V)(y:V)(H:Hp)(Q:VK):Prop
 |mk (i:_)(j:_)(h1:x= .int i)(h2:y= .int j)(h3:Q (g i j) H)
def pF(g:Int->Int->V):R2:=λx y H Q=>Vf g x y H Q
inductive Vk (g:Int->V)(x:V)(H:Hp)(Q:VK):Prop
 |mk (i:_)(h1:x= .int i)(h2:Q (g i) H)
def rU(g:Int->V):V->Hp->VK->Prop:=λx H Q=>Vk g x H Q
section
variable{b:Φ}
def CL(ha:PE X a ta)(hb:PE X b tb){R:V->V->Hp->Prop}(I:Ov X tx σ H s)
  (h:ta σ H λx H1=>tb σ H1 λy c=>R x y c){f:Γ->Γ->Sem Γ}
  (hf:∀v u g x y c,Ov X tx σ c g->Oz x v->Oz y u->R x y c->ε (model X.prog X.w) X.A (f v u) Q X.xe g):
  ε (model X.prog X.w) X.A (eval a X.env) (λv e=>ε (model X.prog X.w) X.A (eval b X.env) (λu d=>ε (model X.prog X.w) X.A (f v u) Q X.xe d) X.xe e) X.xe s:=by
 refine qG (ha tx s σ H _ I h) λv l i=>?_
 let#[x,H1,j,n,m]:=i;refine qG (hb tx l σ H1 _ j m) λu g i=>?_
 let#[y,c,o,q,p]:=i;exact hf v u g x y c o n q p
def Ie{c:Operator}(ho:Qj X (binaryOp c) r)(ha:PE X a ta)(hb:PE X b tb):PE X (.BinOp a c b pos) (pR r ta tb):=by
 intro tx s σ H Q I h;exact wpAny_BinOp (CL ha hb I h λv u e x y i g d f q=>ho tx e σ i x y v u Q g d f q)
def IE{c:UnaryOp}{r:V->Hp->VK->Prop}(ho:DM X (unaryOp c) r)(ha:PE X a ta):PE X (.UnaryOp c a pos) (IW r ta):=by
 intro tx s σ H Q I h;exact UnaryOp_ (qG (ha tx s σ H _ I h) λv e ⟨x,H1,d,g,f⟩=>ho tx e σ H1 x v Q d g f)
def Ev{f:Γ->Γ->Sem Γ}{C:Int->Int->Prop}{g:Int->Int->Int}
  (a:∀(i j:Int) (t u:Tok) (s:Θ) (Q:Om) (E:Om),C i j->Q (.int (g i j) s.toks) {s with toks:=s.toks+1}->ε (model X.prog X.w) X.A (f (.int i t) (.int j u)) Q E s):
  Qj X f (rI C λi j=> .int (g i j)):=by
 intro tx s σ H x y v u Q I c d h;let#[i,j,rfl,rfl,l,q]:=h;let#[t,rfl]:=c;let#[e,rfl]:=d;exact a i j t e s _ _ l #[.int (g i j),H,I.tok _,#[0],q]
def GC{f:Γ->Γ->Sem Γ}{g:Int->Int->Int}
  (a:∀(i j:Int) (t u:Tok) (s:Θ) (Q:Om) (E:Om),Q (.int (g i j) s.toks) {s with toks:=s.toks+1}->ε (model X.prog X.w) X.A (f (.int i t) (.int j u)) Q E s):
  Qj X f (pF λi j=> .int (g i j)):=by
 intro tx s σ H x y v u Q I c d h;let#[i,j,rfl,rfl,q]:=h;let#[t,rfl]:=c;let#[e,rfl]:=d;exact a i j t e s _ _ #[.int (g i j),H,I.tok _,#[0],q]
def wj{f:Γ->Γ->Sem Γ}{g:Int->Int->Bool}
  (a:∀(i j:Int) (t u:Tok) (s:Θ) (Q:Om) (E:Om),Q (.bool (g i j)) s->ε (model X.prog X.w) X.A (f (.int i t) (.int j u)) Q E s):
  Qj X f (pF λi j=> .bl (g i j)):=by
 intro tx s σ H x y v u Q I c d h;let#[i,j,rfl,rfl,q]:=h;let#[t,rfl]:=c;let#[e,rfl]:=d;exact a i j t e s _ _ #[.bl (g i j),H,I,Z,q]
def Ja(i j:Int):Prop:=0<j/\j<1073741824
def Jb(i j:Int):Prop:=0<=j/\j<=1000000/\i.natAbs<2 ^ 64
def UG(i j:Int):Prop:=(-(2 ^ 64)<i/\i<2 ^ 64)\/(-(2 ^ 64)<j/\j<2 ^ 64)
def UG.ok(h:UG i j):IntMulOk i j:=by
 rcases h with⟨h1,a⟩|⟨h1,a⟩
 .exact .of_left (intBits_le_64 h1 a)
 .exact .of_right (intBits_le_64 h1 a)
def zo:Qj X (binaryOp .Add) (pF λi j=> .int (i+j)):=GC λ_ _ _ _ _ _ _ q=>add_int q
def Q4:Qj X (binaryOp .Sub) (pF λi j=> .int (i-j)):=GC λ_ _ _ _ _ _ _ q=>sub_int q
def Z1:Qj X (binaryOp .Mult) (rI UG λi j=> .int (i*j)):=Ev λ_ _ _ _ _ _ _ a q=>mul_int q a.ok
def cI:Qj X (binaryOp .FloorDiv) (rI Ja λi j=> .int (i/j)):=Ev λi j _ _ _ _ _ a q=>by
 have h1:(0:Int)<j:=a.1
 have c:j<1073741824:=a.2
 exact floordiv_int (by lia) (by rw[Int.fdiv_eq_ediv_of_nonneg i (by lia)];exact q) (.inl (PyProof.noPylong_small (by lia)))
def QC:Qj X (binaryOp .Mod) (rI (λ_ j=>0<j) λi j=> .int (i%j)):=Ev λi j _ _ _ _ _ a q=>by
 have h1:(0:Int)<j:=a
 exact mod_int' (by lia) (by rw[Int.fmod_eq_emod_of_nonneg i (by lia)];exact q)
def F7:Qj X (binaryOp .Pow) (rI Jb λi j=> .int (i ^ j.toNat)):=Ev λ_ _ _ _ _ _ _ a q=>pow_int_small a.1 a.2.1 a.2.2 q
def JA{f:Γ->Sem Γ}{g:Int->Int}
  (a:∀(i:Int) (t:Tok) (s:Θ) (Q:Om) (E:Om),Q (.int (g i) s.toks) {s with toks:=s.toks+1}->ε (model X.prog X.w) X.A (f (.int i t)) Q E s):
  DM X f (rU λi=> .int (g i)):=by
 intro tx s σ H x v Q I c h;let#[i,rfl,q]:=h;let#[t,rfl]:=c;exact a i t s _ _ #[.int (g i),H,I.tok _,#[0],q]
def l7:DM X (unaryOp .USub) (rU λi=> .int (Neg.neg i)):=JA λ_ _ _ _ _ q=>neg_int q
end
noncomputable def CW:V->V->Bool
 | .non,.non=>true| .non,.int _=>true| .int _,.non=>true| .non,.bl _=>true| .bl _,.non=>true| .non,.str _=>true| .str _,.non=>true
 | .int _,.int _=>true| .bl _,.bl _=>true| .str _,.str _=>true| .byt _,.byt _=>true
 | .int _,.str _=>true| .str _,.int _=>true| .bl _,.str _=>true| .str _,.bl _=>true
 |_,_=>false
def JD:R2:=λx y H Q=>CW x y=true/\Q (.bl (decide (x=y))) H
def JG:R2:=λx y H Q=>CW x y=true/\Q (.bl (! decide (x=y))) H
def vN:decide (V.int i=V.int j)=(i==j):=by
 rw[Mt];simp
def AA:decide (V.bl i=V.bl j)=(i==j):=by
 rw[Mt];simp
def vc:decide (V.str i=V.str j)=(i==j):=by
 rw[Mt];simp
def vJ:decide (V.byt i=V.byt j)=(i.toList==j.toList):=by
 rw[Mt];cases i;cases j;simp
section
variable{b:Φ}
def zp{Q:VK}{k k':Bool}(I:Ov X tx σ H s)(q:Q (.bl k) H)(e:k=k'):EP X tx σ Q (.bool k') s:=by
 subst e
 exact#[.bl k,H,I,Z,q]
def qQ:Qj X (SL .Eq) JD:=by
 intro tx s σ H x y v u Q I e a h;let#[d,q]:=h;cases x with
 |non=>
  cases e;cases y with
  |non=>cases a;exact PySem.EqNone.eq_none_none (zp I q (by simp))
  |bl j=>cases a;exact PySem.EqNone.eq_none_bool (zp I q (by simp))
  |int j=>let#[c,rfl]:=a;exact PySem.EqNone.eq_none_int (zp I q (by simp))
  |str j=>let#[c,rfl]:=a;exact PySem.EqNone.eq_none_str (zp I q (by simp))
  |_=>exact absurd (show false=true from d) Le
 |bl i=>
  cases e;cases y with
  |non=>cases a;exact PySem.EqNone.eq_bool_none (zp I q (by simp))
  |bl j=>cases a;exact eq_bool (zp I q AA)
  |str j=>let#[c,rfl]:=a;exact PySem.EqMixed.eq_bool_str (zp I q (by simp))
  |_=>exact absurd (show false=true from d) Le
 |int i=>
  let#[t,rfl]:=e;cases y with
  |non=>cases a;exact PySem.EqNone.eq_int_none (zp I q (by simp))
  |int j=>let#[c,rfl]:=a;exact eq_int (zp I q vN)
  |str j=>let#[c,rfl]:=a;exact PySem.EqMixed.eq_int_str (zp I q (by simp))
  |_=>exact absurd (show false=true from d) Le
 |str i=>
  let#[t,rfl]:=e;cases y with
  |non=>cases a;exact PySem.EqNone.eq_str_none (zp I q (by simp))
  |bl j=>cases a;exact PySem.EqMixed.eq_str_bool (zp I q (by simp))
  |int j=>let#[c,rfl]:=a;exact PySem.EqMixed.eq_str_int (zp I q (by simp))
  |str j=>let#[c,rfl]:=a;exact eq_str (zp I q vc)
  |_=>exact absurd (show false=true from d) Le
 |byt i=>
  let#[t,rfl]:=e;cases y with
  |byt j=>let#[c,rfl]:=a;exact W.eq_bytes (zp I q vJ)
  |_=>exact absurd (show false=true from d) Le
 |_=>cases y<;>exact absurd (show false=true from d) Le
def bG:Qj X (SL .NotEq) JG:=by
 intro tx s σ H x y v u Q I e a h;let#[d,q]:=h;cases x with
 |non=>
  cases e;cases y with
  |non=>cases a;exact PySem.EqNone.ne_none_none (zp I q (by simp))
  |bl j=>cases a;exact PySem.EqNone.ne_none_bool (zp I q (by simp))
  |int j=>let#[c,rfl]:=a;exact PySem.EqNone.ne_none_int (zp I q (by simp))
  |str j=>let#[c,rfl]:=a;exact PySem.EqNone.ne_none_str (zp I q (by simp))
  |_=>exact absurd (show false=true from d) Le
 |bl i=>
  cases e;cases y with
  |non=>cases a;exact PySem.EqNone.ne_bool_none (zp I q (by simp))
  |bl j=>cases a;exact ne_bool (zp I q (Lh not AA))
  |str j=>let#[c,rfl]:=a;exact PySem.EqMixed.ne_bool_str (zp I q (by simp))
  |_=>exact absurd (show false=true from d) Le
 |int i=>
  let#[t,rfl]:=e;cases y with
  |non=>cases a;exact PySem.EqNone.ne_int_none (zp I q (by simp))
  |int j=>let#[c,rfl]:=a;exact ne_int (zp I q (Lh not vN))
  |str j=>let#[c,rfl]:=a;exact PySem.EqMixed.ne_int_str (zp I q (by simp))
  |_=>exact absurd (show false=true from d) Le
 |str i=>
  let#[t,rfl]:=e;cases y with
  |non=>cases a;exact PySem.EqNone.ne_str_none (zp I q (by simp))
  |bl j=>cases a;exact PySem.EqMixed.ne_str_bool (zp I q (by simp))
  |int j=>let#[c,rfl]:=a;exact PySem.EqMixed.ne_str_int (zp I q (by simp))
  |str j=>let#[c,rfl]:=a;exact ne_str (zp I q (Lh not vc))
  |_=>exact absurd (show false=true from d) Le
 |byt i=>
  let#[t,rfl]:=e;cases y with
  |byt j=>let#[c,rfl]:=a;exact W.ne_bytes (zp I q (Lh not vJ))
  |_=>exact absurd (show false=true from d) Le
 |_=>cases y<;>exact absurd (show false=true from d) Le
def jB:Qj X (SL .Lt) (pF λi j=> .bl (decide (i<j))):=wj λ_ _ _ _ _ _ _ q=>lt_int q
def cB:Qj X (SL .LtE) (pF λi j=> .bl (decide (i<=j))):=wj λ_ _ _ _ _ _ _ q=>le_int q
def lZ:Qj X (SL .Gt) (pF λi j=> .bl (decide (j<i))):=wj λ_ _ _ _ _ _ _ q=>gt_int q
def eD:Qj X (SL .GtE) (pF λi j=> .bl (decide (j<=i))):=wj λ_ _ _ _ _ _ _ q=>ge_int q
def a6:Qj X (SL .Is) (λx y H Q=>y= .non/\Q (.bl (decide (x= .non))) H):=by
 intro tx s σ H x y v u Q I a c h;let#[rfl,q]:=h;cases c;refine is_none_gen (zp I q ?_)
 cases x<;>first
  |(cases a;rfl)
  |(let#[t,rfl]:=a;rfl)
def vX:Qj X (SL .IsNot) (λx y H Q=>y= .non/\Q (.bl (! decide (x= .non))) H):=by
 intro tx s σ H x y v u Q I a c h;let#[rfl,q]:=h;cases c;refine isnot_none_gen (zp I q ?_)
 cases x<;>first
  |(cases a;rfl)
  |(let#[t,rfl]:=a;rfl)
def qy(b:Φ){a:CmpOp}(h:a≠ .In:=by decide)(h2:a≠ .NotIn:=by decide):behindInMarks a b=false:=by
 have c:(a==CmpOp.In)=false:=by cases a<;>first|rfl|exact absurd Z h
 have d:(a==CmpOp.NotIn)=false:=by cases a<;>first|rfl|exact absurd Z h2
 cases b<;>simp [behindInMarks,c,d]
def Ff{c:CmpOp}(ho:Qj X (SL c) r)(ha:PE X a ta)(hb:PE X b tb)(hm:behindInMarks c b=false):PE X (.Compare a [c] [b] pos) (pR r ta tb):=by
 intro tx s σ H Q I h;exact wpAny_Compare1 (CL ha hb I h λv u e x y i g d f q=>ho tx e σ i x y v u Q g d f q) hm
def ju(t:TE):TT:=λσ H Q=>t σ H λx H'=>∃k,x= .bl k/\Q k H'
def E3{d:CmpOp}(ho:Qj X (SL d) r)(ha:PE X a ta)(hb:PE X b tb)(hm:behindInMarks d b=false):PT X (.Compare a [d] [b] pos) (ju (pR r ta tb)):=by
 intro tx s σ H Q I h;refine wpAny_isTrue_Compare1 (qG (ha tx s σ H _ I h) λv i ⟨x,H1,f,m,j⟩=>qG (hb tx i σ H1 _ f j) λu o ⟨y,w,p,t,q⟩=>
  qG (ho tx o σ w x y v u _ p m t q) λc A ⟨z,H3,l,n,k,e,g⟩=>?_) hm
 subst e;cases n;exact L4 #[H3,l,g]
def lV(r d:R2)(ta tb tc:TE):TE:=λσ H Q=>ta σ H λx H1=>tb σ H1 λy e=>r x y e λz H3=>∃k,z= .bl k/\
 (if k=true then tc σ H3 λc a=>d y c a Q else Q (.bl false) H3)
def CZ{f op':CmpOp}(ho:Qj X (SL f) r)(ho':Qj X (SL op') g)(ha:PE X a ta)(hb:PE X b tb)(hc:PE X c tc)
  (hm:lastMarks [f,op'] [b,c]=false:=by with_unfolding_all rfl):PE X (.Compare a [f,op'] [b,c] pos) (lV r g ta tb tc):=by
 intro tx s σ H Q I h;refine Compare_chain (qG (ha tx s σ H _ I h) λv p ⟨x,H1,C,K,J⟩=>chain_link (qG (hb tx p σ H1 _ C J) λu D ⟨y,G,A,i,B⟩=>
  qG (ho tx D σ G x y v u _ A K i B) λd m ⟨z,H3,l,q,k,e,j⟩=>?_)) hm
 subst e;cases q;refine L4 ?_
 cases k with
 |false=>exact ite_ff #[.bl false,H3,l,Z,j]
 |true=>exact ite_tt (chain_last (qG (hc tx m σ H3 _ l j) λn t ⟨E,F,w,L,o⟩=>ho' tx t σ F y E u n Q w i L o))
def DE{f op':CmpOp}(ho:Qj X (SL f) r)(ho':Qj X (SL op') g)(ha:PE X a ta)(hb:PE X b tb)(hc:PE X c tc)
  (hm:lastMarks [f,op'] [b,c]=false:=by with_unfolding_all rfl):PT X (.Compare a [f,op'] [b,c] pos) (ju (lV r g ta tb tc)):=by
 intro tx s σ H Q I h;refine isTrue_chain (qG (ha tx s σ H _ I h) λv q ⟨x,H1,F,S,R⟩=>test_link (qG (hb tx q σ H1 _ F R) λu G ⟨y,N,C,i,D⟩=>
  qG (ho tx G σ N x y v u _ C S i D) λd m ⟨z,H3,l,w,k,e,j⟩=>?_)) hm
 subst e;cases w;refine L4 ?_
 cases k with
 |false=>
  let#[k',O,n]:=j;cases O;exact ite_ff #[H3,l,n]
 |true=>
  refine ite_tt (test_last (qG (hc tx m σ H3 _ l j) λo A ⟨J,K,B,U,p⟩=>qG (ho' tx A σ K y J u o _ B i U p) λd' Y M=>?_))
  let#[W,t,L,P,k2,E,T]:=M;subst E;cases P;exact L4 #[t,L,T]
def bJ:(ζ:Nat)<2 ^ 63:=by rw[JV];decide
def QU{x:V}(r:OB [x] us):∃u,us=[u]/\Oz x u:=by
 cases r with
 |cons r1 r2=>cases r2;exact#[0,r1]
def em{x y:V}(r:OB [x,y] us):∃u a,us=[u,a]/\Oz x u/\Oz y a:=by
 cases r with
 |cons r1 r2=>
  cases r2 with
  |cons r3 r4=>cases r4;exact#[6,r1,r3]
def ur:zY X (.builtin "abs") (λxs H Q=>∃i,xs=[.int i]/\Q (.int (if i<0 then (Neg.neg i) else i)) H):=by
 intro tx s σ H xs a Q I r h;let#[i,rfl,q]:=h;let#[u,rfl,t,rfl]:=QU r;exact call_abs_int λu tk=>#[.int (if i<0 then (Neg.neg i) else i),H,I.tok _,#[0],q]
def jf(hc:X.calm=true):zY X (.builtin "max") (λxs H Q=>∃i j,xs=[.int i,.int j]/\Q (.int (if j>i then j else i)) H):=by
 intro tx s σ H xs e Q I r h;let#[i,j,rfl,q]:=h;let#[u,c,rfl,#[t,rfl],#[d,rfl]]:=em r;refine max_two_ints (I.ok.hd hc) λh' tk k=>#[_,H,I.kept k,?_,q]
 by_cases a:j>i
 .rw[JK a,JK a];exact#[0]
 .rw[JJ a,JJ a];exact#[0]
def pZ(hc:X.calm=true):zY X (.builtin "min") (λxs H Q=>∃i j,xs=[.int i,.int j]/\Q (.int (if j<i then j else i)) H):=by
 intro tx s σ H xs e Q I r h;let#[i,j,rfl,q]:=h;let#[u,c,rfl,#[t,rfl],#[d,rfl]]:=em r;refine min_two_ints (I.ok.hd hc) λh' tk k=>#[_,H,I.kept k,?_,q]
 by_cases a:j<i
 .rw[JK a,JK a];exact#[0]
 .rw[JJ a,JJ a];exact#[0]
def oR:zY X (.type "int") (λxs H Q=>(∃i,xs=[.int i]/\Q (.int i) H)\/∃k,xs=[.bl k]/\Q (.int (if k then 1 else 0)) H):=by
 intro tx s σ H xs c Q I r h;rcases h with⟨i,rfl,q⟩|⟨k,rfl,q⟩
 .let#[u,rfl,t,rfl]:=QU r
  exact call_int_int #[.int i,H,I,#[0],q]
 .let#[u,rfl,a]:=QU r
  cases a;exact call_int_bool #[.int (if k then 1 else 0),H,I.tok _,#[0],q]
def tE:zY X (.builtin "ord") (λxs H Q=>∃x,xs=[.str x]/\x.length=1/\Q (.int (x.cps.getD 0 0:Nat)) H):=by
 intro tx s σ H xs c Q I r h;let#[x,rfl,a,q]:=h;let#[u,rfl,t,rfl]:=QU r;exact ord_of_one a #[.int _,H,I.tok _,#[0],q]
end
structure R7(h:Ψ)(x dx C:Δ)(mA:On):Prop where
 obj:h.get? x=↑(PySem.W.instObj C dx)
 ns:h.Ns1 dx mA
 ne:dx≠x
def AY{h:Ψ}(n:h.Ns1 dx mA):∃od,h.get? dx=↑od/\∀name,W.lookIn name od=↑(mA name):=by
 let#[o,es,j,d,i,hk,_,g]:=n;refine#[o,d,λname=>?_]
 have e:=g name;unfold nsFind findBy at e;rw[<- Kg]at e;unfold W.lookIn;rw[i]
 dsimp only
 split
 .rename_i y q
  rw[q]at e;exact Lh some e
 .rename_i q
  rw[q]at e;have a:es.toList.any (·.refKey)=false:=by
   rw[List.any_eq_false];intro y f;let#[z,t,c]:=hk y (Array.mem_toList_iff.mp f)
   simp [DictEntry.refKey,c]
  have a':¬es.toList.any (·.refKey)=true:=by rw[a];exact Le
  rw[JJ a'];exact Lh some e
def R7.look(I:R7 h x dx C mA):∃od,W.InstAt h x (Sx C dx) C ↑od/\∀name,W.lookIn name od=↑(mA name):=
 let⟨od,ho,hl⟩:=AY I.ns
 #[od,#[I.obj,9,ho],hl]
section
variable{K:ι}
def Fu{a:Bool}{Q:Om}(X:K.In s.heap)(I:R7 s.heap x dx C mA)(hg:Sm K C name=true)(d:So K C=true)
  (ha:SK K (-C) name=↑none)(hv:mA name=↑v)(c:W.handedIn v=true)(h:Q v {s with toks:=s.toks+1}):
  ε (model prog w) A (getAttr (-x) name a) Q E s:=by
 let#[od,J,e]:=I.look;exact W.get_value X J (W.plainGet_of hg).1 (W.findObj_own d ha Z (by rw[e,hv])) c h
def BR{pl:Sem Bool}{Q:Γ×Ζ->Θ->Prop}(X:K.In s.heap)(I:R7 s.heap x dx C mA)(hg:Sm K C name=true)
  (hf:SK K (-C) name=↑(↑(-f)))(a:W.isFn K (-f)=true)(hv:mA name=none)(h:Q (-f,[-x]) s):
  ε (model prog w) A (getMethod (-x) name pl) Q E s:=by
 let#[od,J,c]:=I.look;exact W.method_fn X J (W.plainGet_of hg).1 (W.plainGet_of hg).2 hf (LN.mp a) (by show(W.lookIn name od).map (·.isSome)=↑false;rw[c,hv];rfl) h
def Qi{Q:Unit->Θ->Prop}(X:K.In s.heap)(I:R7 s.heap x dx C mA)
  (hs:SK K (-C) "__setattr__"=↑(↑(.builtin "object.__setattr__")))(hp:S0 K C=true)(m:W.takerIn K C name=↑none)(n:So K C=true)
  (hw:PySem.Within mA ns)(hsz:ns.length<=ζ)
  (h:∀h',R7 h' x dx C (λy=>if y=name then ↑v else mA y)->Ψ.SameBut dx s.heap h'->Q () {s with heap:=h',toks:=s.toks+2}):
  ε (model prog w) A (setAttr (-x) name v) Q E s:=by
 let#[od,J,q]:=I.look;refine W.set_plain X J hs (W.osa_open (s:={s with toks:=s.toks+1}) (r:=none) X J hp m λb=>?_)
 let#[u,p,i]:=W.any_some n;have o:s.heap.get? x=some #[-C,↑dx,.plain,(B0 [])]:=I.obj
 refine JH (JP (JH (JH (wpAny_loadPart o (JH (W.Looks.here (s:={s with toks:=s.toks+1}) (W.looks_clsIn X p) ?_))))))
 rw[i];refine JP (a:=↑dx) (JH (JP (JH ?_)))
 refine wpAny_nsSet1 (s:={s with toks:=s.toks+1}) I.ns λh' c d=>?_
 let#[t,l,j,g,e,f]:=c.count (PySem.Within.cons name v hw)
 refine JH (wpAny_lookBehind g (by rw[e];exact pastItsLine_dict (Lc f (by rw[LI];lia))) ?_)
 exact JP (h _ #[(d.2 _ (Ne.symm I.ne)).trans I.obj,c,I.ne] d)
def BY{R:Result->Θ->Prop}{vs:Ζ}{c:List (Str×Γ)}(X:K.In s.heap)(hm:TK K C=true)
  (hi:SK K (-C) "__init__"=↑(↑(-f)))(hf:W.typeIn K (-f)=↑(.type "function"))
  (h:codeAny (model prog w) (A.under (.builtin "type.__call__" #[.ref C::vs,c])) (.call (-f) #[.ref (s.heap.objs.size+1)::vs,c]) (W.InitBack (s.heap.objs.size+1) R)
   {s with heap:=(s.heap.push SW).push (Sx C s.heap.objs.size)}):
  codeAny (model prog w) A (.call (-C) #[vs,c]) R s:=by
 let#[e,g,d,t,os]:=s;exact W.make_core (W.makes_of X hm) (W.looks_findIn X hi) (λa=>W.bind_fn X a hf) (.inl Z) h
end
noncomputable def Q6(f:Str)(v:V):List (Str×V)->List (Str×V)
 | []=>[(f,v)]
 |(g,x)::r=>if g=f then(g,v)::r else(g,x)::Q6 f v r
theorem ke(f g:Str)(v:V):∀fs:List (Str×V),(Q6 f v fs).lookup g=if g=f then ↑v else fs.lookup g
 | []=>by
  show Ds g [(f,v)]=_
  by_cases h:g=f
  .have a:(g==f)=true:=LN.mpr h
   simp only[Ds,a,JK h]
  .have a:(g==f)=false:=MF.mpr h
   simp only[Ds,a,JJ h]
 |(k,x)::r=>by
  have c:=ke f g v r;rw[show Q6 f v ((k,x)::r)=(if k=f then(k,v)::r else(k,x)::Q6 f v r)from Z]
  by_cases hk:k=f
  .rw[JK hk]
   by_cases h:g=k
   .have a:(g==k)=true:=LN.mpr h
    simp only[Ds,a,JK (h.trans hk)]
   .have a:(g==k)=false:=MF.mpr h
    simp only[Ds,a,JJ (λe:g=f=>h (e.trans hk.symm))]
  .rw[JJ hk]
   by_cases h:g=k
   .have a:(g==k)=true:=LN.mpr h
    simp only[Ds,a,JJ (λe:g=f=>hk (h.symm.trans e))]
   .have a:(g==k)=false:=MF.mpr h
    simp only[Ds,a];exact c
theorem iN(f:Str)(v:V):∀fs:List (Str×V),f∈(Q6 f v fs).map (·.1)/\∀g,g∈fs.map (·.1)->g∈(Q6 f v fs).map (·.1)
 | []=>#[by simp [Q6],λg h=>by simp at h]
 |(k,x)::r=>by
  let#[i1,i2]:=iN f v r;rw[show Q6 f v ((k,x)::r)=(if k=f then(k,v)::r else(k,x)::Q6 f v r)from Z]
  by_cases hk:k=f
  .rw[JK hk]
   subst hk
   exact#[by simp,λg h=>by simpa using h]
  .rw[JJ hk]
   refine#[?_,λg h=>?_]
   .rw[Ls]
    exact F0 _ i1
   .rw[Ls]at h⊢
    rcases JO.mp h with e|e
    .exact JO.mpr (.inl e)
    .exact F0 _ (i2 g e)
theorem j9(f:Str)(v:V):∀fs:List (Str×V),(Q6 f v fs).length<=fs.length+1
 | []=>by simp [Q6]
 |(k,x)::r=>by
  have a:=j9 f v r;rw[show Q6 f v ((k,x)::r)=(if k=f then(k,v)::r else(k,x)::Q6 f v r)from Z]
  by_cases hk:k=f
  .rw[JK hk,LI,LI];lia
  .rw[JJ hk,LI,LI];lia
def PL.some_of{v:V}(r:PL ↑v o):∃u,o=↑u/\Oz v u:=by
 cases o with
 |none=>exact(show False from r).elim
 |some u=>exact#[u,Z,r]
def PL.none_of(r:PL none o):o=none:=by
 cases o with
 |none=>rfl
 |some u=>exact(show False from r).elim
def pq(r:Oz v u):W.handedIn u=true:=by
 cases v with
 |non=>cases(show u=Γ.none from r);rfl
 |bl b=>cases(show u=Γ.bool b from r);rfl
 |int i=>let#[t,e]:=(show∃t,u=Γ.int i t from r);cases e;rfl
 |str x=>let#[t,e]:=(show∃t,u=Γ.str x t from r);cases e;rfl
 |byt b=>let#[t,e]:=(show∃t,u=Γ.bytes b t from r);cases e;rfl
 |flt b=>let#[t,e]:=(show∃t,u=Γ.float b t from r);cases e;rfl
 |ref a=>cases(show u=Γ.ref a from r);rfl
 |ty n=>cases(show u=Γ.type n from r);rfl
section
variable{fs:List (Str×V)}
def jE(c:PN P w H h)(e:H a=↑(.ins C dx fs)):∃mA,R7 h a dx C mA/\(∀f,PL (fs.lookup f) (mA f))/\PySem.Within mA (fs.map (·.1))/\fs.length<=1000/\H dx=↑(.own a):=by
 let#[d,z,ne,g,mA,n,r,q]:=(show OI P w H h a (.ins C dx fs)from c a _ e)
 exact#[mA,#[g,n,ne],r,q,z,d]
end
structure RT(K:ι)(C:Δ):Prop where
 pg:PySem.W.plainGet K C Str.empty=true
 hd:PySem.W.hasDictIn K C=true
 po:PySem.W.plainOver K C=true
 sa:SU K (-C) "__setattr__"=↑(↑(.builtin "object.__setattr__"))
def RT.get{K:ι}(c:RT K C)(f:Str):Sm K C f=true:=c.pg
def OF(K:ι)(C:Δ)(f:Str):Prop:=SU K (-C) f=↑none
def OF.taker{K:ι}(n:OF K C f):W.takerIn K C f=↑none:=by
 unfold W.takerIn;rw[show SK K (-C) f=↑none from n]
 rfl
structure Tn(K:ι)(C:Δ)(m:Str)(f:Δ):Prop where
 at_:SU K (-C) m=↑(↑(-f))
 fn:PySem.W.isFn K (-f)=true
 kp:SX K (-f)=true
section
variable{fs:List (Str×V)}
def mR{b:Bool}{Q:Om}(I:Ov X tx σ H s)(e:H a=↑(.ins C dx fs))(c:RT X.K C)(n:OF X.K C f)(l:fs.lookup f=↑v)
  (h:∀u s',Ov X tx σ H s'->Oz v u->Q u s'):ε (model X.prog X.w) A (getAttr (-a) f b) Q E s:=by
 let#[mA,O,r,_,_,_]:=jE I.hok e;let#[u,g,d]:=PL.some_of (v:=v) (o:=mA f) (by rw[<- l];exact r f)
 exact Fu I.kIn O (c.get f) c.hd n g (pq d) (h u _ (I.tok _) d)
def gW{pl:Sem Bool}{Q:Γ×Ζ->Θ->Prop}(I:Ov X tx σ H s)(e:H a=↑(.ins C dx fs))(c:RT X.K C)(k:Tn X.K C m g)(l:fs.lookup m=none)
  (h:Q (-g,[-a]) s):ε (model X.prog X.w) A (getMethod (-a) m pl) Q E s:=by
 let#[mA,O,r,_,_,_]:=jE I.hok e;have d:mA m=none:=PL.none_of (by rw[<- l];exact r m)
 exact BR I.kIn O (c.get m) k.at_ k.fn d h
def lW{Q:Unit->Θ->Prop}(I:Ov X tx σ H s)(e:H a=↑(.ins C dx fs))(c:RT X.K C)(n:OF X.K C f)(hl:fs.length<1000)(m:Oz y u)
  (h:∀s',Ov X tx σ (Ot H a (.ins C dx (Q6 f y fs))) s'->Q () s'):ε (model X.prog X.w) A (setAttr (-a) f u) Q E s:=by
 let#[mA,O,r,j,_,i]:=jE I.hok e;have l:(fs.map (·.1)).length<=ζ:=by rw[JI,JV];lia
 refine Qi I.kIn O c.sa c.po n.taker c.hd j l λh' d t=>h _ ?_
 have v:∃o,h'.get? dx=↑o:=let⟨o,_,_,e',_⟩:=d.ns;#[o,e']
 refine I.write (x:=a) (e:=dx) (by rw[e];exact SM) (.inr i) (λb q p z=>(t.2 b p).trans z) v ?_
 refine#[by rw[qk O.ne];exact i,?_,O.ne,d.obj,_,d.ns,λg=>?_,λg w=>?_]
 .have:=j9 f y fs;lia
 .show PL ((Q6 f y fs).lookup g) (if g=f then ↑u else mA g)
  rw[ke]
  by_cases q:g=f
  .rw[JK q,JK q];exact m
  .rw[JJ q,JJ q];exact r g
 .by_cases q:g=f
  .rw[q];exact(iN f y fs).1
  .refine(iN f y fs).2 g (j g λz=>w ?_)
   show(if g=f then ↑u else mA g)=none
   rw[JJ q];exact z
def Ov.made(I:Ov X tx σ H s):Ov X tx σ (Ot (Ot H s.heap.objs.size (.own (s.heap.objs.size+1))) (s.heap.objs.size+1) (.ins C s.heap.objs.size []))
  {s with heap:=(s.heap.push SW).push (Sx C s.heap.objs.size)}:=by
 have c:(s.heap.push SW).get? s.heap.objs.size=↑SW:=J2 s.heap Z
 have i:((s.heap.push SW).push (Sx C s.heap.objs.size)).get? (s.heap.objs.size+1)=↑(Sx C s.heap.objs.size):=by
  have:=J2 (s.heap.push SW) (o:=Sx C s.heap.objs.size) Z
  rwa [LJ]at this
 have f:(s.heap.push SW).Ns s.heap.objs.size (λ_=>none):=#[SW,(B0 []),_,c,Z,(λe g=>absurd g (by simp)),λ_=>rfl]
 have d:=I.laid (a:=s.heap.objs.size) (o:= .own (s.heap.objs.size+1)) (h':=s.heap.push SW) (t':=s.toks) (λb u q=>JR _ q) (JL _) #[_,c]
 refine d.laid (a:=s.heap.objs.size+1) (o:= .ins C s.heap.objs.size []) (t':=s.toks) (λb u q=>JR _ q) (Nw (LJ _ _)) ?_
 have ne:s.heap.objs.size≠s.heap.objs.size+1:=J4 (LU _)
 refine#[by rw[qk ne,qb],Li _,ne,i,λ_=>none,(Ψ.Ns1.of_empty f).at λo q=>JR _ q,λ_=>SM,λy h=>absurd Z h]
def vi{prog:Ξ}{w:Ω}{env:Env}{e:Φ}{f:Str}{s:Θ}(hb:attributeBase e f env (eval e env)=eval e env)
  (h:ε (model prog w) A (eval e env) (λo a=>ε (model prog w) A (getAttr o f true) Q E a) E s):ε (model prog w) A (eval (.Attribute e f pos) env) Q E s:=
 Attribute_any_ h (by rw[arm_eval_Attribute,hb])
end
def Gg(X:Cx)(a:Operator)(rd:V->V->Hp->VK->Prop):Prop:=
 ∀(tx:Oo) (s:Θ) (σ:St) (H:Hp) (x y:V) (u v:Γ) (Q:VK),Ov X tx σ H s->Oz x u->Oz y v->rd x y H Q->ε (model X.prog X.w) X.A (inplaceOp a u v) (EP X tx σ Q) X.xe s
section
variable{b:Bool}
inductive US (x:V)(y:V)(H:Hp)(Q:VK):Prop
 |mk (i:_)(j:_)(h1:x= .int i)(h2:y= .int j)(h3:Q (.int (i+j)) H)
def Jk:V->V->Hp->VK->Prop:=λx y H Q=>US x y H Q
def AI:Gg X .Add Jk:=by
 rintro tx s σ H x y u v Q I d c ⟨i,j,rfl,rfl,q⟩
 let#[t,rfl]:=(show∃t,u=Γ.int i t from d)
 let#[a,rfl]:=(show∃a,v=Γ.int j a from c)
 exact PyProof.Rows.iadd_int #[.int (i+j),H,I.tok _,#[0],q]
inductive Rr (K:ι)(H:Hp):V->Γ->Prop where
 |non:Rr K H .non (.type "NoneType")
 |bl (x:Bool):Rr K H (.bl x) (.type "bool")
 |int (i:Int):Rr K H (.int i) (.type "int")
 |str (x:Str):Rr K H (.str x) (.type "str")
 |flt (x:UInt64):Rr K H (.flt x) (.type "float")
 |lst {a:Δ} {xs:Β} (e:H a=↑(.lst xs)):Rr K H (-a) (.type "list")
 |frz {a:Δ} {o:Obj} {xs:Β} (e:H a=↑(.frz o (.lst xs))):Rr K H (-a) (.type "list")
 |tup {a:Δ} {xs:Β} (e:H a=↑(.tup xs)):Rr K H (-a) (.type "tuple")
 |dK {a:Δ} {kvs:List (qO×V)} (e:H a=↑(.dK kvs)):Rr K H (-a) (.type "dict")
 |dT {a:Δ} {kvs:List (List qO×V)} (e:H a=↑(.dT kvs)):Rr K H (-a) (.type "dict")
 | ins {a C dx:Δ} {fs:List (Str×V)} (e:H a=↑(.ins C dx fs)) (cl:RT K C) (ha:SU K (-C) "__class__"=↑(↑(.builtin "object.__class__")))
   (hn:PySem.W.specialIn K (.builtin "object.__class__") "__get__"=↑(↑(.builtin "getset_descriptor.__get__"))) (htk:PySem.W.takesIn K (.builtin "object.__class__")=↑true)
   (hm:PySem.W.mroIn K C (.type "object")=↑true):Rr K H (-a) (-C)
def Bv(I:Ov X tx σ H s)(d:Oz x u)(ty:Rr X.K H x t)(e:SR X.K t c=↑b)(h:∀tk,Q (.bool b) {s with toks:=tk}):
  ε (model X.prog X.w) A (call (.builtin "isinstance") [u,c]) Q E s:=by
 cases ty with
 |non=>cases(show u=Γ.none from d);exact Lu W.kitx_none I.kIn SM e (λz=>nomatch z) h
 |bl y=>cases(show u=Γ.bool y from d);exact Lu W.kitx_bool I.kIn SM e (λz=>nomatch z) h
 |int i=>let#[t,q]:=(show∃t,u=Γ.int i t from d);cases q;exact Lu W.kitx_int I.kIn SM e (λz=>nomatch z) h
 |str y=>let#[t,q]:=(show∃t,u=Γ.str y t from d);cases q;exact Lu W.kitx_str I.kIn SM e (λz=>nomatch z) h
 |flt y=>let#[t,q]:=(show∃t,u=Γ.float y t from d);cases q;exact Lu W.kitx_float I.kIn SM e (λz=>nomatch z) h
 | @lst a xs ea=>
  cases(show u=Γ.ref a from d)
  let#[_,_,n,_,h1]:=(show OI X.prog X.w H s.heap a (.lst xs)from I.hok a _ ea)
  exact Lu TB I.kIn #[_,h1,Z] e (λz=>nomatch z) h
 | @frz a ob xs ea=>
  cases(show u=Γ.ref a from d)
  let#[_,_,_,n,_,h1]:=(show OI X.prog X.w H s.heap a (.frz ob (.lst xs))from I.hok a _ ea)
  exact Lu TB I.kIn #[_,h1,Z] e (λz=>nomatch z) h
 | @tup a xs ea=>
  cases(show u=Γ.ref a from d)
  let#[_,_,_,p]:=(show OI X.prog X.w H s.heap a (.tup xs)from I.hok a _ ea)
  let#[o,h1,f,_]:=p;exact Lu W.kitx_tuple I.kIn #[o,h1,f] e (λz=>nomatch z) h
 | @dK a kvs ea=>
  cases(show u=Γ.ref a from d)
  let#[_,_,j,_,p]:=(show OI X.prog X.w H s.heap a (.dK kvs)from I.hok a _ ea)
  let#[o,es,g,h1,f,_]:=p;exact Lu W.kitx_dict I.kIn #[o,h1,f.1] e (λz=>nomatch z) h
 | @dT a kvs ea=>
  cases(show u=Γ.ref a from d)
  let#[_,_,xs,_,o,es,g,h1,f,_]:=(show OI X.prog X.w H s.heap a (.dT kvs)from I.hok a _ ea)
  exact Lu W.kitx_dict I.kIn #[o,h1,f.1] e (λz=>nomatch z) h
 | @ins a C dx fs ea cl ha hn htk hm=>
  cases(show u=Γ.ref a from d)
  let#[mA,O,_]:=jE I.hok ea;let#[od,J,_]:=O.look;exact Lu (W.kitx_own (cl.get _) cl.hd ha hn htk hm) I.kIn J e (λz=>nomatch z) h
end
structure OL(k:Nat)(A:SO):Prop where
 hd:A.handled=none
 dp:A.depth+3*k+5<recursionLimit
 un:A.units+16*k+200<cLine
def OL.mono{j k:Nat}(r:OL k A)(h:j<=k):OL j A:=#[r.hd,by have:=r.dp;lia,by have:=r.un;lia]
def OL.mo{j k:Nat}(r:OL k A)(h:j<=k:=by first|decide|omega):OL j A:=r.mono h
theorem OL.deeper{k:Nat}(r:OL (k+1) A)(env:Env):OL k (A.deeper env):=
 #[r.hd,by have:=r.dp;show A.depth+1+3*k+5<_;lia,by have:=r.un;show A.units+3+16*k+200<_;lia]
def wW{A:SO}{us:Ζ}{a:List (Str×Γ)}:(A.under (.builtin "type.__call__" #[.ref C::us,a])).depth=A.depth+1:=by
 first|rfl|simp [Around.under,Code.weight,Code.isCreation,Code.isGuard,Code.isCaller,Code.frames,Code.isFrame,guardIds]
def wz{A:SO}{us:Ζ}{a:List (Str×Γ)}:(A.under (.builtin "type.__call__" #[.ref C::us,a])).units=A.units+1:=by
 first|rfl|simp [Around.under,Code.cUnits,Code.frames,Code.isFrame]
def OL.make{k:Nat}(r:OL (k+1) A)(C:Δ)(us:Ζ)(a:List (Str×Γ)):OL k (A.under (.builtin "type.__call__" #[.ref C::us,a])):=
 #[r.hd,by have:=r.dp;rw[wW];lia,by have:=r.un;rw[wz];lia]
theorem OL.depth{k:Nat}(r:OL k A):A.depth<recursionLimit:=by have:=r.dp;lia
def Cv:TA:=λ_ H Q=>Q [] H
def wy(ta:TE)(a:TA):TA:=λσ H Q=>ta σ H λx H1=>a σ H1 λxs c=>Q (x::xs) c
def Ga:PA X [] Cv:=λ_ _ _ _ H Q I h=>Su #[[],H,I,.nil,h]
abbrev _root_.hG(X:Cx)(e es):=θ (e::es) X.env=(false,eval e X.env)::θ es X.env
def Fj(ha:PE X e te)(hr:PA X es t)(hs:hG X e es:=by rfl):PA X (e::es) (wy te t):=by
 intro pos tx s σ H Q I h;rw[hs]
 show ε _ _ (spliced ((false,eval e X.env)::backTo pos (θ es X.env))) _ _ s
 refine Sn (qG (ha tx s σ H _ I h) λu c l=>?_)
 let#[x,H1,a,f,d]:=l;exact qG (hr pos tx c σ H1 _ a d) λo n ⟨xs,m,g,j,i⟩=>#[x::xs,m,g,.cons f j,i]
def Gr(t:TA):TE:=λσ H Q=>t σ H λxs H1=>xs.length<=ζ/\∀p,H1 p=none->Q (-p) (Ot H1 p (.tup xs))
def FX(t:TA):TE:=λσ H Q=>t σ H λxs H1=>xs.length<=ζ/\∀p,H1 p=none->Q (-p) (Ot H1 p (.lst xs))
def Gm{x1}(h:PA X es t):PE X (.Tuple es x1 pos) (Gr t):=by
 intro tx s σ H Q I d;refine wpAny_Tuple_spliced (qG (h pos tx s σ H _ I d) λf a ⟨xs,H1,c,r,z,q⟩=>#[by rw[<- r.length];exact z,?_])
 have g:H1 a.heap.objs.size=none:=c.hok.fresh (JL _)
 refine#[-a.heap.objs.size,Ot H1 a.heap.objs.size (.tup xs),c.laid (t':=a.toks) (λb u e=>JR _ e) (JL _) ?_,Z,q _ g]
 exact#[z,f,r,#[_,J2 _ Z,7]]
def Gd(h:PA X es t):PE X (.List es pos) (FX t):=by
 intro tx s σ H Q I d;refine wpAny_List_spliced (qG (h pos tx s σ H _ I d) λf a ⟨xs,H1,c,r,z,q⟩=>#[by rw[<- r.length];exact z,?_])
 have g:H1 a.heap.objs.size=none:=c.hok.fresh (JL _)
 refine#[-a.heap.objs.size,Ot H1 a.heap.objs.size (.lst xs),c.laid (t':=a.toks) (λb u e=>JR _ e) (JL _) ?_,Z,q _ g]
 exact#[z,f,(0),r,J2 _ Z]
abbrev Sp:=Β->Hp->VK->XK->Prop
abbrev je:=Ρ->Hp->Θ->XK->Γ->Θ->Prop
structure R8(P:Ξ)(w:Ω)(K:ι)(mg:On)(base:Ψ)(A:SO)(outer:Ρ)(s:Θ)(H:Hp):Prop where
 frames:A.frames=↑outer
 mod:Vd K mg base
 bs:∀b o,base.get? b=↑o->s.heap.get? b=↑o/\H b=none
 bsz:base.objs.size<=s.heap.objs.size
 funs:s.heap.FunFrames base outer
 frf:∀b∈Qz outer,H b=none
 hok:PN P w H s.heap
 bare:AllBare s.gens
def CE(outer:Ρ)(P:Ξ)(w:Ω)(H:Hp)(s:Θ)(Q:VK)(u:Γ)(s':Θ):Prop:=
 ∃v H',s'.os=s.os/\AllBare s'.gens/\Un (Qz outer) [] H H' s.heap s'.heap/\PN P w H' s'.heap/\Oz v u/\Q v H'
def CR(CX:je)(outer:Ρ)(P:Ξ)(w:Ω)(H:Hp)(s:Θ)(Q:VK)(E:XK)(r:Result)(s':Θ):Prop:=
 match r with
 | .ok (.ret u)=>CE outer P w H s Q u s'
 | .ok _=>False
 | .error e=>CX outer H s E e s'
structure P5(P:Ξ)(w:Ω)(K:ι)(mg:On)(base:Ψ)(CX:je)(k:Nat)(f:Δ)(fd:FuncData)(ps:Α)(sp:Sp):Prop where
 len:∀vs H Q E,sp vs H Q E->vs.length=ps.length
 run:∀(A:SO) (outer:Ρ) (s:Θ) (H:Hp) (args:Args) (us:Ζ) (vs:Β) (Q:VK) (E:XK),OL k A->R8 P w K mg base A outer s H->BindsTo s fd args (ps.zip us)->OB vs us->sp vs H Q E->
  codeAny (model P w) A (.call (-f) args) (CR CX outer P w H s Q E) s
def R8.make{K:ι}(e:R8 P w K mg base A outer s H)(C:Δ)(us:Ζ)(a:List (Str×Γ)):
  R8 P w K mg base (A.under (.builtin "type.__call__" #[.ref C::us,a])) outer s H:=#[by first|exact e.frames|(simpa [Around.under,Code.envs,Code.isFrame,pushEnvs]using e.frames),e.mod,e.bs,e.bsz,e.funs,e.frf,e.hok,e.bare]
def Ov.env0(I:Ov X tx σ H s):R8 X.prog X.w X.K X.mg X.base X.A X.stack s H:=
 #[I.ok.frames,I.ok.mod,I.bs,Lc I.ok.bsz I.sz,I.stack,I.stkFree,I.hok,I.bare]
def Ov.after(I:Ov X tx σ H s)(h:CE X.stack X.prog X.w H s Q u s'):EP X tx σ Q u s':=by
 let#[v,H',os,a,un,e,r,q]:=h;let#[f,g,d,t,c]:=s'
 obtain rfl:c=s.os:=os
 exact#[v,H',I.call (h':=f) (g':=g) (d':=d) (t':=t) (ch:=[]) un e a (λb z=>absurd z (by simp)),r,q]
def xm(sp:Sp)(dvs:Β)(E:XK)(t:TA):TE:=λσ H Q=>t σ H λa H1=>sp (a++dvs) H1 Q E
def DO(C:Δ)(sp:Sp)(dvs:Β)(E:XK)(t:TA):TE:=λσ H Q=>t σ H λa H1=>∀x dx,H1 x=none->H1 dx=none->dx≠x->
 sp (.ref x::(a++dvs)) (Ot (Ot H1 dx (.own x)) x (.ins C dx [])) (λv c=>v= .non/\Q (-x) c) E
def Pn(K:ι)(fd:FuncData)(ps:Α)(ds:Ζ):Prop:=
 ∀(s:Θ) (a:Ζ),K.In s.heap->(a++ds).length=ps.length->BindsTo s fd #[a,[]] (ps.zip (a++ds))
def Pn.all{K:ι}{fd:FuncData}{ps:Α}(h:∀a:Ζ,a.length=ps.length->bindArgs fd #[a,[]]=pure (ps.zip a)):Pn K fd ps []:=λs a _ c=>by
 rw[MZ]at c⊢;exact .of_eq (h a c)
def cO(CX:je)(X:Cx)(E:XK):Prop:=∀(tx:Oo) (σ:St) (H:Hp) (s:Θ) (e:Γ) (s':Θ),Ov X tx σ H s->CX X.stack H s E e s'->X.xe e s'
section
variable{k:Nat}{sp:Sp}
def lU(F:P5 X.prog X.w X.K X.mg X.base CX k f fd ps sp)(hr:OL k X.A)(hb:Pn X.K fd ps ds)(hd:OB dvs ds)(hx:cO CX X E)
  (I:Ov X tx σ H s)(r:OB vs us)(h:sp (vs++dvs) H Q E):ε (model X.prog X.w) X.A (call (-f) us) (EP X tx σ Q) X.xe s:=by
 have c:OB (vs++dvs) (us++ds):=r.append hd
 have d:(us++ds).length=ps.length:=by rw[<- c.length];exact F.len _ _ _ _ h
 refine MI (Mu (F.run X.A X.stack s H #[us,[]] (us++ds) (vs++dvs) Q E hr I.env0 (hb s us I.kIn d) c h) λr s' a=>?_)
 cases r with
 |error e=>exact hx tx σ H s e s' I a
 |ok fl=>
  cases fl with
  |ret u=>exact I.after a
  |next=>exact False.elim a
  |brk=>exact False.elim a
  |cont=>exact False.elim a
abbrev _root_.hI(X:Cx)(es p):=(backTo p (θ es X.env)).any (·.1)=false
def Fz(F:P5 X.prog X.w X.K X.mg X.base CX k f fd ps sp)(hr:OL k X.A)(hg:Gl X x)(hm:X.mg x=↑(-f))(hk:Si X.K (-f)=true)(hb:Pn X.K fd ps ds)(hd:OB dvs ds)(hx:cO CX X E)
  (ha:PA X (e::es) t)(hdb:hH x:=by decide)(he:hG X e es:=by rfl)(hpl:hI X es pos:=by rfl):
  PE X (.Call (.Name x p) (e::es) [] pos) (xm sp dvs E t):=by
 intro tx s σ H Q I h;refine M0 (ay I hg hm ?_ hdb)
 refine M3 (h₀:=X.base) I.ok.mod.kin hk (qG (ha pos tx s σ H _ I h) λd c ⟨g,H1,a,r,q⟩=>#[a.kIn,?_]) he hpl
 exact lU F hr hb hd hx a r q
structure Mk(K:ι)(C f:Δ):Prop where
 makes:PySem.W.makesIn K C=true
 init:SU K (-C) "__init__"=↑(↑(-f))
 fn:PySem.W.isFn K (-f)=true
 kp:SX K (-C)=true
def BS{Q:VK}(M:Mk X.K C f)(F:P5 X.prog X.w X.K X.mg X.base CX k f fd ps sp)(hr:OL (k+1) X.A)(hb:Pn X.K fd ps ds)(hd:OB dvs ds)
  (hx:cO CX X E)(I:Ov X tx σ H s)(r:OB vs us)
  (h:∀x dx,H x=none->H dx=none->dx≠x->sp (.ref x::(vs++dvs)) (Ot (Ot H dx (.own x)) x (.ins C dx [])) (λv o=>v= .non/\Q (-x) o) E):
  ε (model X.prog X.w) X.A (call (-C) us) (EP X tx σ Q) X.xe s:=by
 have d:=h (s.heap.objs.size+1) s.heap.objs.size (I.hok.fresh (Lr _)) (I.hok.fresh (JL _)) (J4 (LU _));have c:=Ov.made (C:=C) I
 have g:OB (V.ref (s.heap.objs.size+1)::(vs++dvs)) (Γ.ref (s.heap.objs.size+1)::(us++ds)):= .cons Z (r.append hd)
 have m:(Γ.ref (s.heap.objs.size+1)::us++ds).length=ps.length:=by
  have e:=g.length;rw[F.len _ _ _ _ d]at e;exact e.symm
 refine MI (BY (f:=f) I.kIn M.makes M.init (LN.mp M.fn) (Mu (F.run _ X.stack _ _ #[Γ.ref (s.heap.objs.size+1)::us,[]] (Γ.ref (s.heap.objs.size+1)::(us++ds)) _ _ E (hr.make C us [])
  (c.env0.make C us []) (hb _ (Γ.ref (s.heap.objs.size+1)::us) c.kIn m) g d) λr s' a=>?_))
 cases r with
 |error e=>exact hx tx σ _ _ e s' c a
 |ok fl=>
  cases fl with
  |ret u=>
   let#[v,H',j,n,l,i]:=c.after a;subst l
   exact#[n,#[V.ref (s.heap.objs.size+1),H',j,Z,i]]
  |next=>exact False.elim a
  |brk=>exact False.elim a
  |cont=>exact False.elim a
def E6(M:Mk X.K C f)(F:P5 X.prog X.w X.K X.mg X.base CX k f fd ps sp)(hr:OL (k+1) X.A)(hg:Gl X x)(hm:X.mg x=↑(-C))(hb:Pn X.K fd ps ds)(hd:OB dvs ds)(hx:cO CX X E)
  (ha:PA X (e::es) t)(hdb:hH x:=by decide)(he:hG X e es:=by rfl)(hpl:hI X es pos:=by rfl):
  PE X (.Call (.Name x p) (e::es) [] pos) (DO C sp dvs E t):=by
 intro tx s σ H Q I h;refine M0 (ay I hg hm ?_ hdb)
 refine M3 (h₀:=X.base) I.ok.mod.kin M.kp (qG (ha pos tx s σ H _ I h) λd c ⟨g,H1,a,r,q⟩=>#[a.kIn,?_]) he hpl
 exact BS M F hr hb hd hx a r q
end
structure Os(N P:Α)(sc:Scope):Prop where
 kind:sc.kind= .function
 co:sc.isCoroutine=false
 gen:sc.isGenerator=false
 nd:N.Nodup
 pre:N.take P.length=P
 par:∀x∈P,sc.names.lookup x=some .local\/sc.names.lookup x=some .cell
 nofree:∀y∈sc.names,y.2≠ .free
theorem pB{a:Str->Option NameKind}{x:Str}:∀{binds:List (Str×Γ)} {m:On},(∀v,(x,v)∉binds)->bindL a binds m x=m x
 | [],_,_=>rfl
 |(n,v)::r,m,h=>by
  unfold bindL;rw[pB λw c=>h w (F0 _ c)]
  split
  .have:x≠n:=by rintro rfl;exact h v J3
   simp [this]
  .rfl
theorem oH{a:Str->Option NameKind}{x:Str}:∀{binds:List (Str×Γ)} {m:On},(∀v,(x,v)∉binds)->bindC a binds m x=m x
 | [],_,_=>rfl
 |(n,v)::r,m,h=>by
  unfold bindC;rw[oH λw c=>h w (F0 _ c)]
  split
  .rfl
  .have:x≠n:=by rintro rfl;exact h v J3
   simp [this]
theorem pK{a:Str->Option NameKind}{x:Str}{v:Γ}:∀{P:Α} {vs:Ζ} {i:Nat} {m:On},P.Nodup->P[i]? =↑x->vs[i]? =↑v->a x=some .local->
  bindL a (P.zip vs) m x=↑v
 | [],_,_,_,_,h,_,_=>by simp at h
 |_::_,[],_,_,_,_,h,_=>by simp at h
 |p::P,w::vs,0,m,nd,h1,h2,hk=>by
  simp at h1 h2;subst h1;subst h2
  show bindL a ((p,w)::P.zip vs) m p=_
  unfold bindL;rw[pB λv c=>(LF.mp nd).1 (KC c).1,JK hk]
  simp
 |p::P,w::vs,i+1,m,nd,h1,h2,hk=>by
  show bindL a ((p,w)::P.zip vs) m x=_
  unfold bindL;exact pK (i:=i) (LF.mp nd).2 (by simpa using h1) (by simpa using h2) hk
theorem oO{a:Str->Option NameKind}{x:Str}{v:Γ}:∀{P:Α} {vs:Ζ} {i:Nat} {m:On},P.Nodup->P[i]? =↑x->vs[i]? =↑v->a x≠some .local->
  bindC a (P.zip vs) m x=↑v
 | [],_,_,_,_,h,_,_=>by simp at h
 |_::_,[],_,_,_,_,h,_=>by simp at h
 |p::P,w::vs,0,m,nd,h1,h2,hk=>by
  simp at h1 h2;subst h1;subst h2
  show bindC a ((p,w)::P.zip vs) m p=_
  unfold bindC;rw[oH λv c=>(LF.mp nd).1 (KC c).1,JJ hk]
  simp
 |p::P,w::vs,i+1,m,nd,h1,h2,hk=>by
  show bindC a ((p,w)::P.zip vs) m x=_
  unfold bindC;exact oO (i:=i) (LF.mp nd).2 (by simpa using h1) (by simpa using h2) hk
noncomputable def Zm(N:Α)(vs:Β):St:=vs.map some++CC (N.length-vs.length) none
noncomputable def QD(CX:je)(P:Ξ)(w:Ω)(K:ι)(mg:On)(base:Ψ)(N:Α)(Vm:Str)(a:Scope)(f:Δ)(d:Γ)(A:SO)(outer:Ρ)(s:Θ)(H:Hp)(E:XK):Cx where
 prog:=P
 w:=w
 K:=K
 mg:=mg
 base:=base
 A:=A.deeper (envOfC Vm a s.heap.objs.size f d)
 N:=N
 s₀:=s
 H₀:=H
 env:=envOfC Vm a s.heap.objs.size f d
 outer:=outer
 stack:=envOfC Vm a s.heap.objs.size f d::outer
 ex:=[]
 calm:=true
 fn:=λ_=>true
 pn:=[]
 xe:=λe s'=>ε (model P w) (A.deeper (envOfC Vm a s.heap.objs.size f d)) (leaving (envOfC Vm a s.heap.objs.size f d) e) (λ_ c=>CX outer H s E e c) (λg c=>CX outer H s E g c) s'
def sT{a:Scope}{n:Nat}(h:a.names.lookup x=some .cell):∃c,(cellsFrom n a.names []).lookup x=↑c:=by
 have q:=W.cellsFrom_some a.names n [] (.inl h);exact Mw.mp q
def AM{K:ι}{Vm:Str}{f:Δ}{B:Γ}{A:SO}{vs:Β}
  (S:Os N ps d)(hd:A.handled=none)(j:R8 P w K mg base A outer s H)(hl:vs.length=ps.length)(r:OB vs us)
  (x:InCallC s s.heap.objs.size (bindL (envOfC Vm d s.heap.objs.size f B).kindOf (ps.zip us) λ_=>none) (cellsFrom (s.heap.objs.size+1) d.names []) (bindC (envOfC Vm d s.heap.objs.size f B).kindOf (ps.zip us) λ_=>none) C):
  Ov (QD CX P w K mg base N Vm d f B A outer s H E) [] (Zm N vs) H C:=by
 have F:ps.length<=N.length:=by have:=Lh List.length S.pre;rw[LO]at this;lia
 let#[h1,tk,rfl,hk]:=x.done;have l:∀b:Δ,b∉(QD CX P w K mg base N Vm d f B A outer s H E).ex:=λb z=>absurd (show b∈([]:Η)from z) (by simp)
 exists #[j.mod,S.kind,9,JL _,λy z c h1 g=>?_,λy m=>?_,λy c _ h=>?_,λ_=>hd,Around.frames_deeper j.frames,.inr #[9],λb z=>absurd z (l b),j.bs,j.bsz,λb _ _=>l b,λb z=>absurd z (l b),j.funs,j.frf],
  rfl,j.bare,Un.kept hk,#[_,x.toInCall.ns,λi y v h1 g J=>?_],λy c h=>#[_,x.cell y c h],j.hok.fresh (JL _),λy c h=>?_,λp o=>absurd (show p∈([]:Oo)from o) (by simp),j.hok.kept hk
 .exact name_of_addr x.apart (MJ h1) (MJ g)
 .have m:d.names.lookup y=some .cell\/d.names.lookup y=some .free:=m
  rcases m with m|m
  .exact sT m
  .exact absurd Z (S.nofree _ (MJ m))
 .exact Nt (x.above y c (MJ h))
 .have hi:i<vs.length:=by
   unfold Zm at g
   by_cases hi:i<vs.length
   .exact hi
   .rw[LV (by simpa using hi)]at g
    rw[Kh]at g;split at g<;>cases g
  have G:vs[i]? =↑v:=by
   unfold Zm at g;rw[L6 (by simpa using hi),JW]at g
   cases e:vs[i]? with
   |none=>rw[e]at g;cases g
   |some a=>rw[e]at g;cases g;rfl
  let#[u,D,I]:=r.get G;have o:ps[i]? =↑y:=by
   rw[<- S.pre,List.getElem?_take_of_lt (by lia)];exact h1
  have t:ps.Nodup:=by rw[<- S.pre];exact S.nd.sublist (List.take_sublist _ _)
  exists u,I
  rcases S.par y (JU o)with k|k
  .exact .inl #[k,pK t o D k]
  .let#[c,e]:=sT (n:=s.heap.objs.size+1) k
   refine .inr #[.inl k,c,e,?_]
   have q:=x.cell y c e;rw[oO t o D (by show d.names.lookup y≠_;rw[k];decide)]at q
   exact q
 .exact j.hok.fresh (Nt (x.above y c (MJ h)))
 .unfold Zm
  show _=N.length
  rw[J0,JI,Nx];lia
def wg{K:ι}{k:Nat}{kV oc:Γ}{od:Κ}
  {osl:Array Ν}{sp:Sp}(Y:K.lookup f=some #[oc,od,.func (Sw name Vm c d a O kV doc pm an cdv ct),osl])(D:W.codeIn K cdv Vm=true)(S:Os N ps a)
  (p:∀vs H Q E,sp vs H Q E->vs.length=ps.length)
  (h:∀(A:SO) (outer:Ρ) (s:Θ) (H:Hp) (vs:Β) (Q:VK) (E:XK),OL k (A.deeper (envOfC Vm a s.heap.objs.size f cdv))->sp vs H Q E->
   ∃t,R6 (QD CX P w K mg base N Vm a f cdv A outer s H E) d t/\t {nx:=λ_ H'=>Q .non H',rt:=Q} (Zm N vs) H):
  P5 P w K mg base CX (k+1) f (Sw name Vm c d a O kV doc pm an cdv ct) ps sp:=by
 refine#[p,λA outer s H M X vs Q E B l T r z=>?_]
 have hl:=p _ _ _ _ z;have G:K.In s.heap:=l.mod.kin.keeps λb o e=>(l.bs b o e).1
 have C:s.heap.NoLimit:=l.mod.nolimit.keeps λb o e=>(l.bs b o e).1
 have i:∀y∈ps.zip X,a.names.lookup y.1=some .local\/(a.names.lookup y.1=some .cell/\((cellsFrom (s.heap.objs.size+1) a.names []).lookup y.1).isSome=true):=λ⟨n,v⟩ hy=>by
  rcases S.par n (KC hy).1 with q|q
  .exact .inl q
  .exact .inr #[q,W.cellsFrom_some _ _ _ (.inl q)]
 refine codeAny_call_function B.depth (G _ _ Y) Z S.co S.gen Z (W.codeRec_of G D) (T _ _ _ _ ?_)
 refine wpAny_newFunctionEnv_cells S.kind i λenv U L x=>?_
 subst U;refine#[C.keeps x.toInCall.keep,codeAny_func ?_]
 let#[t,ht,R]:=h A outer s H vs Q E (B.deeper _) z
 have I:Ov (QD CX P w K mg base N Vm a f cdv A outer s H E) [] (Zm N vs) H L:=AM S B.hd l hl r x
 refine Lg (ht [] L (Zm N vs) H _ I R) (λfl s' j=>?_) λe s' j=>j
 have m:∀{g:St} {H':Hp} {v:V} {u:Γ},Ov (QD CX P w K mg base N Vm a f cdv A outer s H E) [] g H' s'->Oz v u->Q v H'->CE outer P w H s Q u s':=
  λ{g H' v u} J F q=>#[v,H',J.os,J.bare,J.base,J.hok,F,q]
 cases fl with
 |ret u=>
  let#[v,g,H',J,F,q]:=j;exact m J F q
 |next=>
  let#[g,H',J,q]:=j;exact m (v:=V.non) (u:=Γ.none) J Z q
 |brk=>
  let#[_,_,_,q]:=j;exact False.elim q
 |cont=>
  let#[_,_,_,q]:=j;exact False.elim q
section
variable{X:Cx}{x:Str}{e:Φ}{es:Ι}{t:TA}{id:String}{r:Β->Hp->VK->Prop}
def El(r:Β->Hp->VK->Prop)(t:TA):TE:=λσ H Q=>t σ H λa H1=>r a H1 Q
def Cg(hc:zY X (.builtin id) r)(hg:Gl X x)(hm:X.mg x=none)(hv:bootBuiltins x=↑(.builtin id))(ha:PA X (e::es) t)(hn:x≠"__name__":=by decide)(hdb:hH x:=by decide)
  (he:hG X e es:=by rfl)(hpl:hI X es pos:=by rfl):PE X (.Call (.Name x p) (e::es) [] pos) (El r t):=by
 intro tx s σ H Q I h;refine M0 (bQ I hg hm hv ?_ hn hdb)
 exact PyProof.Rows.callWith_builtin1 (qG (ha pos tx s σ H _ I h) λg c ⟨i,H1,a,f,d⟩=>hc tx c σ H1 i g Q a f d) he hpl
def Bf(hc:zY X (.type T) r)(hg:Gl X x)(hm:X.mg x=none)(hv:bootBuiltins x=↑(.type T))(ha:PA X (e::es) t)(hn:x≠"__name__":=by decide)(hdb:hH x:=by decide)
  (he:hG X e es:=by rfl)(hpl:hI X es pos:=by rfl):PE X (.Call (.Name x p) (e::es) [] pos) (El r t):=by
 intro tx s σ H Q I h;refine M0 (bQ I hg hm hv ?_ hn hdb)
 exact MH (qG (ha pos tx s σ H _ I h) λg c ⟨i,H1,a,f,d⟩=>hc tx c σ H1 i g Q a f d) he hpl
end
end L2
namespace HT
open PySem PyProof.Rows
def cat_tup{b:Δ}{vs ws:Ζ}{Q:Om}(q:IsTup s.heap t vs.toArray)(hb:IsTup s.heap b ws.toArray)(hv:vs≠[])
  (h1:ws=[]->Q (-t) s)(h2:ws≠[]->Q (-s.heap.objs.size) {s with heap:=s.heap.push {cls:= .type "tuple",data:= .seq (vs++ws).toArray}})
  (hsz:vs.length+ws.length<=ζ):ε (model prog w) A (binaryOp .Add (-t) (-b)) Q E s:=by
 let#[#[cls,dd,data,l],i,o,n,p]:=id q;let#[#[m,c,j,f],a,d,n2,g]:=id hb;simp only at o p d g
 subst o p d g;have e:vs.toArray++ws.toArray=(vs++ws).toArray:=by simp
 by_cases h:ws=[]
 .exact concat_meets #[_,i,Z] #[_,a,Z] noFill_tuple_add seq_tuple_add NU NV (NW _ _)
   (tuple_addW1 t b vs.toArray ws.toArray n n2 dd c l f (by simpa using hv) (by simp [h])) #[i,a,h1 h]
 .refine concat_meets #[_,i,Z] #[_,a,Z] noFill_tuple_add seq_tuple_add NU NV (NW _ _)
   (tuple_addW2 t b vs.toArray ws.toArray n n2 dd c l f (by simpa using hv) (by simpa using h) (by rw[J9,J9];exact hsz)) #[i,a,?_]
  rw[e];exact h2 h
noncomputable def sIx(n d:Nat):Λ->Nat
 |none=>d
 |some v=>if v<0 then(v+(n:Int)).toNat else min v.toNat n
def F8(n d:Nat)(hd:d<=n)(o:Λ):sIx n d o<=n:=by
 cases o with
 |none=>exact hd
 |some v=>
  show(if v<0 then(v+(n:Int)).toNat else min v.toNat n)<=n
  by_cases a:v<0
  .rw[JK a];lia
  .rw[JJ a];exact Ny _ _
def vn(v:Int)(n d:Nat):(if v<0 then max (v+(n:Int)) 0 else min v (n:Int))=((sIx n d ↑v:Nat):Int):=by
 show(if v<0 then max (v+(n:Int)) 0 else min v (n:Int))=(((if v<0 then(v+(n:Int)).toNat else min v.toNat n):Nat):Int)
 by_cases a:v<0
 .simp only[JK a];lia
 .simp only[JJ a];lia
def wX(lo hi:Λ)(n:Nat):γ.Slice.sliceAdjust lo hi 1 (n:Int)=(((sIx n 0 lo:Nat):Int),((sIx n n hi:Nat):Int)):=by
 have h1:¬((1:Int)<0):=by lia
 unfold γ.Slice.sliceAdjust;simp only[h1,MK];refine Prod.ext ?_ ?_
 .cases lo with
  |none=>rfl
  |some v=>exact vn v n 0
 .cases hi with
  |none=>rfl
  |some v=>exact vn v n n
def wF(i j:Nat):γ.Slice.slicePlaces (i:Int) (j:Int) 1=j-i:=by
 unfold γ.Slice.slicePlaces;have h1:(1:Int)>0:=by lia
 simp only[h1,LW,Int.ediv_one];split<;>lia
def mr{Q:Λ->Θ->Prop}(p:IsPart v o)(h:Q o s):ε (model prog w) A (γ.Slice.slicePartIndex v) Q E s:=by
 cases p with
 |none=>exact slicePart_none h
 |int i t=>exact slicePart_int h
def sliceApplied_gen{f:Δ}{e d:Γ}{lo hi:Λ}{n:Nat}{Q:Int×Int×Nat->Θ->Prop}(hs:s.heap.IsSliceOf f e d .none)(pl:IsPart e lo)(g:IsPart d hi)
  (h:Q (((sIx n 0 lo:Nat):Int),1,sIx n n hi-sIx n 0 lo) s):ε (model prog w) A (γ.Slice.sliceApplied (-f) (pure (n:Int))) Q E s:=by
 let#[os,a,i,c]:=id hs;unfold γ.Slice.sliceApplied γ.Slice.sliceFields;refine JH (JH (Lf a c (x:=e) Z (JH (Lf a c (x:=d) Z (JH (Lf a c (x:= .none) Z (JP ?_)))))))
 refine JH (slicePart_none ?_)
 show ε _ _ (if((1:Int)==0)=true then _ else _) _ _ s
 rw[JJ ⋯]
 refine JH (mr pl (JH (mr g (JH (JP ?_)))))
 show ε _ _ (match γ.Slice.sliceAdjust lo hi 1 (n:Int)with|(lo,hi)=>pure (lo,(1:Int),γ.Slice.slicePlaces lo hi 1)) _ _ s
 rw[wX lo hi n]
 show ε _ _ (pure (((sIx n 0 lo:Nat):Int),(1:Int),γ.Slice.slicePlaces ((sIx n 0 lo:Nat):Int) ((sIx n n hi:Nat):Int) 1)) _ _ s
 rw[wF];exact JP h
def Ce(xs:Array Γ)(i k:Nat):((C2 k).filterMap λ(m:Nat)=>xs[((i:Int)+(m:Int)*1).toNat]?).toArray=((xs.toList.drop i).take k).toArray:=by
 have e:(λ(m:Nat)=>xs[((i:Int)+(m:Int)*1).toNat]?)=λm=>xs[i+m]? :=by
  funext m
  have:((i:Int)+(m:Int)*1).toNat=i+m:=by lia
  rw[this]
 rw[e]
 have:=pick_run xs i k
 rw[List.filterMap_map]at this;have a:((λx=>xs[x]?)∘λx=>i+x)=λm=>xs[i+m]? :=Z
 rw[a]at this;rw[this]
def getItem_tuple_cut{t e:Δ}{items:Array Γ}{l j:Γ}{lo hi:Λ}{Q:Om}(c:IsTup s.heap t items)(hs:s.heap.IsSliceOf e l j .none)(pl:IsPart l lo)(n:IsPart j hi)
  (hw:¬(sIx items.size 0 lo=0/\sIx items.size items.size hi=items.size))
  (h:Q (-s.heap.objs.size) {s with heap:=s.heap.push {cls:= .type "tuple",data:= .seq ((items.toList.drop (sIx items.size 0 lo)).take (sIx items.size items.size hi-sIx items.size 0 lo)).toArray}})
  (hsz:items.size<=ζ):ε (model prog w) A (getItem (-t) (-e)) Q E s:=by
 have a:sizeOk (.seq ((items.toList.drop (sIx items.size 0 lo)).take (sIx items.size items.size hi-sIx items.size 0 lo)).toArray):=by
  show((items.toList.drop (sIx items.size 0 lo)).take (sIx items.size items.size hi-sIx items.size 0 lo)).toArray.size<=ζ
  rw[J9,LO,Nz,Mc];lia
 have p:sIx items.size items.size hi<=items.size:=F8 _ _ (JL _) hi
 let#[os,d,f,o]:=id hs;have g:s.TypeIs (-e) "slice":=#[os,d,f]
 unfold getItem
 try with_reducible refine LD ?_
 first|refine JH (JP ?_)|skip
 refine JH (wpAny_sequenceKey c.typeIs ⋯ ?_)
 refine JH (wpAny_callSpecial?_slot (name:=SV "__getitem__") c.typeIs NA
  (LK NA c.typeIs entry_tuple_getitem ?_ (args_tuple_getitem _ _)))
 show ε _ _ (γ.Tuple.tupleItemsOf (-t) >>= _) _ _ s
 refine JH (tupleItemsOf_ c ?_)
 refine JH (wpAny_typeOf g ?_)
 rw[JK ⋯]
 refine JH (sliceApplied_gen hs pl n ?_)
 have i:¬((((sIx items.size 0 lo:Nat):Int)==0&&(1:Int)==1&&(sIx items.size items.size hi-sIx items.size 0 lo)==items.size)=true):=by
  intro q;rw[Lz,Lz]at q;have r:((sIx items.size 0 lo:Nat):Int)=0:=eq_of_beq q.1.1
  have u:sIx items.size items.size hi-sIx items.size 0 lo=items.size:=eq_of_beq q.2
  exact hw #[by lia,by lia]
 show ε _ _ (if(((sIx items.size 0 lo:Nat):Int)==0&&(1:Int)==1&&(sIx items.size items.size hi-sIx items.size 0 lo)==items.size)=true then _ else _) _ _ s
 rw[JJ i,Ce]
 first
  |exact JH (m:=γ.Tuple.tupleExact _) (LH (JP ⟨_,rfl,JP h⟩) a)
  |exact JH (m:=γ.Tuple.tupleExact _) (LH (JH (JP (JP ⟨_,rfl,JP h⟩))) a)
  |exact JH (JH (m:=γ.Tuple.tupleExact _) (LH (JP (JP ⟨_,rfl,JP h⟩)) a))
  |exact JH (JH (m:=γ.Tuple.tupleExact _) (LH (JP ⟨_,rfl,JP h⟩) a))
end HT
namespace L2
open PySem PySem.Spec PyProof.Rows
abbrev TO:=St->Hp->(Λ->Hp->Prop)->Prop
def PO(X:Cx)(e:Υ)(t:TO):Prop:=
 ∀(tx:Oo) (s:Θ) (σ:St) (H:Hp) (Q:Λ->Hp->Prop),Ov X tx σ H s->t σ H Q->
  ε (model X.prog X.w) X.A (evalPart e X.env) (λu s'=>∃o H',Ov X tx σ H' s'/\IsPart u o/\Q o H') X.xe s
def vj:TO:=λ_ H Q=>Q none H
def Ez(t:TE):TO:=λσ H Q=>t σ H λx H1=>∃i,x= .int i/\Q ↑i H1
def w6{ns:Ε}:∀{us:Ζ},OB (ns.map V.int) us->IntsAre us ns:=by
 induction ns with
 |nil=>intro us r;rw[NB]at r;cases r;exact .nil
 |cons n ns ih=>
  intro us r;rw[Ls]at r;cases r with
  |cons r1 r2=>
   let#[t,e]:=r1;subst e;exact .cons n t (ih r2)
section
variable{X:Cx}{e:Φ}{te:TE}{lo hi:Υ}{tl th:TO}{pos p2:Pos}
def E1:PO X none vj:=by
 intro tx s σ H Q I h;rw[evalPart_none];exact JP #[none,H,I,.none,h]
def EY(h:PE X e te):PO X ↑e (Ez te):=by
 intro tx s σ H Q I c;rw[evalPart_some];refine qG (h tx s σ H _ I c) λu j g=>?_
 let#[x,H1,a,f,d]:=g;let#[i,rfl,q]:=d;let#[t,rfl]:=f
 exact#[↑i,H1,a,.int i t,q]
def yv(X:Cx)(r:V->Λ->Λ->Hp->VK->Prop):Prop:=
 ∀(tx:Oo) (s:Θ) (σ:St) (H:Hp) (x:V) (v a d:Γ) (lo hi:Λ) (c:Δ) (Q:VK),Ov X tx σ H s->Oz x v->s.heap.IsSliceOf c a d .none->IsPart a lo->IsPart d hi->r x lo hi H Q->
  ∃T id,typeLookup (.type T) "__getitem__"=pure ↑(.builtin id)/\s.TypeIs v T/\ε (model X.prog X.w) X.A (getItem v (-c)) (EP X tx σ Q) X.xe s
def IU(r:V->Λ->Λ->Hp->VK->Prop)(te:TE)(tl th:TO):TE:=λσ H Q=>te σ H λx H1=>tl σ H1 λl a=>th σ a λu H3=>r x l u H3 Q
def CF{r:V->Λ->Λ->Hp->VK->Prop}(hr:yv X r)(he:PE X e te)(hl:PO X lo tl)(hu:PO X hi th):PE X (.Subscript e (.Slice lo hi none p2) pos) (IU r te tl th):=by
 intro tx s σ H Q I h;refine Subscript_ (qG (he tx s σ H _ I h) λv j f=>?_)
 let#[x,H1,y,D,C]:=f;refine wpAny_Slice (qG (hl tx j σ H1 _ y C) λd z ⟨l,B,p,n,w⟩=>qG (hu tx z σ B _ p w) λc a f=>?_)
 let#[u,H3,A,m,i]:=f;rw[evalPart_none];refine JP ?_
 have o:Ov X tx σ H3 {a with heap:=a.heap.push {cls:= .type "slice",data:= .fields (B0 [d,c,.none])}}:=A.kept (t':=a.toks) λb F q=>JR _ q
 let#[T,id,t,E,g]:=hr tx {a with heap:=a.heap.push {cls:= .type "slice",data:= .fields (B0 [d,c,.none])}} σ H3 x v d c l u a.heap.objs.size Q o D (Ψ.IsSliceOf.new ..) n m i
 show ε (model X.prog X.w) X.A (subscriptTail e (.Slice lo hi none p2) v (-a.heap.objs.size)) (EP X tx σ Q) X.xe {a with heap:=a.heap.push {cls:= .type "slice",data:= .fields (B0 [d,c,.none])}}
 exact tail_any (ops:=[-a.heap.objs.size,v]) E t g (by with_unfolding_all rfl)
noncomputable def cg(xs:Β)(lo hi:Λ):Β:=(xs.drop (HT.sIx xs.length 0 lo)).take (HT.sIx xs.length xs.length hi-HT.sIx xs.length 0 lo)
def j7(xs:Β)(lo hi:Λ):(cg xs lo hi).length<=xs.length:=by
 unfold cg;rw[LO,Nz];lia
inductive UT (K:ι)(x:V)(lo:Λ)(hi:Λ)(H:Hp)(Q:VK):Prop
 |mk (a:_)(xs:_)(h1:x= .ref a)(h2:OC K H a xs)(h3:¬(HT.sIx xs.length 0 lo=0/\HT.sIx xs.length xs.length hi=xs.length))(h4:∀p,H p=none->Q (-p) (Ot H p (.tup (cg xs lo hi))))
def Jp(K:ι):V->Λ->Λ->Hp->VK->Prop:=λx lo hi H Q=>UT K x lo hi H Q
def GQ:yv X (Jp X.K):=by
 intro tx s σ H x v w p lo hi t Q I i n l j h;let#[a,xs,rfl,m,g,q]:=h;cases i;let#[d,r,f,e]:=I.tuple m;have c:d.toArray.size=xs.length:=by rw[J9];exact r.length.symm
 exists "tuple",_,PyProof.Rows.slot_tuple_getitem.lookup,f.typeIs
 refine HT.getItem_tuple_cut f n l j (by rw[c];exact g) ?_ (by rw[c];exact e)
 rw[c];refine#[-s.heap.objs.size,_,I.laid (t':=s.toks) (o:= .tup (cg xs lo hi)) (λb u q=>JR _ q) (JL _) ?_,Z,q _ (I.hok.fresh (JL _))]
 exact#[Lc (j7 xs lo hi) e,_,(r.drop (HT.sIx xs.length 0 lo)).take (HT.sIx xs.length xs.length hi-HT.sIx xs.length 0 lo),IsTup.new _ _]
inductive UH (K:ι)(x:V)(y:V)(H:Hp)(Q:VK):Prop
 |mk (a:_)(b:_)(xs:_)(ys:_)(h1:x= .ref a)(h2:y= .ref b)(h3:OC K H a xs)(h4:OC K H b ys)(h5:xs≠[])(h6:xs.length+ys.length<=ζ)(h7:(ys=[]->Q (-a) H))(h8:(ys≠[]->∀p,H p=none->Q (-p) (Ot H p (.tup (xs++ys)))))
def IG(K:ι):R2:=λx y H Q=>UH K x y H Q
def OB.nil_iff(r:OB xs us):us=[]↔xs=[]:=by
 cases r with
 |nil=>simp
 |cons _ _=>simp
def FF:Qj X (binaryOp .Add) (IG X.K):=by
 intro tx s σ H x y v u Q I j n h;let#[a,b,xs,ys,rfl,rfl,t,p,r,e,l,m]:=h;cases j;cases n;let#[g,d,i,_]:=I.tuple t;let#[f,c,p2,_]:=I.tuple p;refine HT.cat_tup i p2 (λz=>r (d.nil_iff.mp z)) (λz=>#[-a,H,I,Z,l (c.nil_iff.mp z)]) (λz=>?_) (by rw[<- d.length,<- c.length];exact e)
 refine#[-s.heap.objs.size,_,I.laid (t':=s.toks) (o:= .tup (xs++ys)) (λb A q=>JR _ q) (JL _) ?_,Z,m (λw=>z (c.nil_iff.mpr w)) _ (I.hok.fresh (JL _))]
 exact#[by rw[J0];exact e,_,d.append c,IsTup.new _ _]
end
noncomputable def bS(n:Nat)(i:Int):Option Nat:=if 0<=i then(if i<n then ↑i.toNat else none)else if -(n:Int)<=i then some (i+n).toNat else none
noncomputable def Q3{α:Type}(xs:List α)(i:Int):Option α:=(bS xs.length i).bind λj=>xs[j]?
def vT{n:Nat}{j:Nat}(h:bS n i=↑j):seqIndex? i n=↑j/\j<n/\ -(n:Int)<=i/\i<n:=by
 unfold bS at h
 by_cases a:0<=i
 .rw[JK a]at h
  by_cases h1:i<n
  .rw[JK h1]at h
   have e:i.toNat=j:=Lb h
   exact#[by rw[seqIndex_of a h1,e],by lia,by lia,h1]
  .rw[JJ h1]at h;cases h
 .rw[JJ a]at h
  by_cases h1: -(n:Int)<=i
  .rw[JK h1]at h
   have e:(i+n).toNat=j:=Lb h
   exact#[by rw[seqIndex_neg (by lia) h1,e],by lia,h1,by lia]
  .rw[JJ h1]at h;cases h
def vk{α:Type}{xs:List α}{i:Int}{v:α}(h:Q3 xs i=↑v):∃j,seqIndex? i xs.length=↑j/\xs[j]? =↑v/\j<xs.length/\ -(xs.length:Int)<=i/\i<xs.length:=by
 unfold Q3 at h;cases e:bS xs.length i with
 |none=>rw[e]at h;cases h
 |some j=>
  rw[e]at h;let#[h1,c,d,a]:=vT e
  exact#[j,h1,h,c,d,a]
def Qf{α:Type}{xs:List α}{j:Nat}{v:α}(h:xs[j]? =↑v):Q3 xs (j:Int)=↑v:=by
 have a:j<xs.length:=(JZ.mp h).1
 have e:bS xs.length (j:Int)=↑j:=by
  unfold bS;rw[JK (by lia),JK (by lia)];simp
 unfold Q3;rw[e];exact h
def vw(b:Φ):Prop:=∀o i,subscripted b false o i=operate [o,i] (getItem o i)
def Ui(X:Cx)(r:R2):Prop:=
 ∀(value a:Φ) (tx:Oo) (s:Θ) (σ:St) (H:Hp) (x y:V) (v u:Γ) (Q:VK),Ov X tx σ H s->Oz x v->Oz y u->r x y H Q->
  subscripted a false v u=operate [v,u] (getItem v u)->ε (model X.prog X.w) X.A (subscriptTail value a v u) (EP X tx σ Q) X.xe s
def i8(X:Cx)(id:String)(r:V->Β->Hp->VK->Prop):Prop:=
 ∀(tx:Oo) (s:Θ) (σ:St) (H:Hp) (x:V) (xs:Β) (v:Γ) (a:Ζ) (Q:VK),Ov X tx σ H s->Oz x v->OB xs a->r x xs H Q->
  ε (model X.prog X.w) X.A (call (.builtin id) (v::a)) (EP X tx σ Q) X.xe s
section
variable{X:Cx}{a b:Φ}
def Ui.or(h:Ui X r)(h':Ui X d):Ui X (λx y H Q=>r x y H Q\/d x y H Q):=by
 intro value a tx s σ H x y v u Q I c e q f;rcases q with q|q
 .exact h value a tx s σ H x y v u Q I c e q f
 .exact h' value a tx s σ H x y v u Q I c e q f
def Iz(hr:Ui X r)(ha:PE X a ta)(hb:PE X b tb)(hs:vw b):PE X (.Subscript a b pos) (pR r ta tb):=by
 intro tx s σ H Q I h;exact Subscript_ (CL ha hb I h λv u d x y g f c e q=>hr a b tx d σ g x y v u Q f c e q (hs _ _))
inductive UV (K:ι)(x:V)(y:V)(H:Hp)(Q:VK):Prop
 |mk (p:_)(xs:_)(i:_)(v:_)(h1:x= .ref p)(h2:y= .int i)(h3:OA K H p xs)(h4:Q3 xs i=↑v)(h5:Q v H)
def F5(K:ι):R2:=λx y H Q=>UV K x y H Q
inductive UW (K:ι)(x:V)(y:V)(H:Hp)(Q:VK):Prop
 |mk (p:_)(xs:_)(i:_)(v:_)(h1:x= .ref p)(h2:y= .int i)(h3:OC K H p xs)(h4:Q3 xs i=↑v)(h5:Q v H)
def DL(K:ι):R2:=λx y H Q=>UW K x y H Q
def qS:Ui X (F5 X.K):=by
 intro value d tx s σ H x y v u Q I A E h n;let#[p,xs,i,z,rfl,rfl,o,D,q]:=h;cases A;let#[t,rfl]:=E;let#[e,r,f,L]:=I.list o;let#[j,h1,F,K,C,B]:=vk D;let#[w,l,c]:=r.get F;have G:=r.length;have J:=bJ;have a:EP X tx σ Q w s:=#[z,H,I,c,q]
 by_cases m:0<=i
 .have g:i.toNat=j:=by
   rw[seqIndex_of m B]at h1;exact Lb h1
  exact item_listR f.isList m (by lia) (by rw[g];simpa using l) a n
 .have g:(i+(e.toArray.size:Int)).toNat=j:=by
   rw[seqIndex_neg (by lia) C]at h1
   rw[J9,<- G];exact Lb h1
  exact subscriptTail_builtinR (x:=w) f.isList.typeIs slot_list_getitem.lookup
   (wpAny_getItem_list_neg (Q:=λr s'=>r=w/\EP X tx σ Q r s') f.isList (by lia) (by rw[J9]<;>lia) (by lia) (by rw[g];simpa using l) #[Z,a]) n
def qT:Ui X (DL X.K):=by
 intro value c tx s σ H x y v u Q I g o h C;let#[p,xs,i,z,rfl,rfl,f,n,q]:=h;cases g;let#[t,rfl]:=o;let#[m,r,e,J]:=I.tuple f;let#[j,h1,A,F,G,E]:=vk n;let#[w,l,a]:=r.get A;have B:=r.length;have D:=bJ;have d:EP X tx σ Q w s:=#[z,H,I,a,q]
 exact subscriptTail_builtinR (x:=w) e.typeIs slot_tuple_getitem.lookup
  (getItem_tuple (j:=j) (Q:=λr s'=>r=w/\EP X tx σ Q r s') e (by lia) (by lia) (by rw[J9,<- B];exact h1) (by simpa using l) #[Z,d]) C
def xq(its:Ζ)(n j:Nat)(u:Γ):Sz (·.setIfInBounds j u) {cls:= .type "list",data:= .seq its.toArray n}={cls:= .type "list",data:= .seq (its.set j u).toArray n}:=by
 simp [Sz]
theorem Ov.lst(I:Ov X tx σ H s)(h:H p=↑(.lst xs)):
  ∃(its:Ζ) (n:Nat),OB xs its/\s.heap.get? p=some {cls:= .type "list",data:= .seq its.toArray n}/\xs.length<=ζ:=by
 let#[z,its,n,r,e]:=I.hok p _ h
 exact#[its,n,r,e,z]
def Ov.lstUpd{its its':Ζ}{a:Nat}{f:Obj->Obj}(I:Ov X tx σ H s)(h:H p=↑(.lst xs))
  (ho:s.heap.get? p=some {cls:= .type "list",data:= .seq its.toArray n})(hf:f {cls:= .type "list",data:= .seq its.toArray n}={cls:= .type "list",data:= .seq its'.toArray a})(r:OB ys its')(d:ys.length<=ζ)(t:Nat):
  Ov X tx σ (Ot H p (.lst ys)) {s with heap:=s.heap.update p f,toks:=t}:=by
 have e:(s.heap.update p f).get? p=some {cls:= .type "list",data:= .seq its'.toArray a}:=by
  rw[Me f ho (by rw[hf]<;>rfl),hf]
 refine I.write (x:=p) (e:=p) (by rw[h];trivial) (.inl Z) (λb u c q=>(L7 _ _ (Ne.symm c)).trans q) #[_,e] ?_
 exact#[d,its',a,r,e]
inductive UI (o:V)(i:V)(v:V)(H:Hp)(Q:Hp->Prop):Prop
 |mk (p:_)(xs:_)(k:_)(j:_)(h1:o= .ref p)(h2:i= .int k)(h3:H p=↑(.lst xs))(h4:bS xs.length k=↑j)(h5:Q (Ot H p (.lst (xs.set j v))))
def Ij:V->V->V->Hp->(Hp->Prop)->Prop:=λo i v H Q=>UI o i v H Q
def Zt:rQ X Ij:=by
 intro tx s σ H o i v D E u Q I z w A h;let#[p,xs,k,j,rfl,rfl,l,x,q]:=h;cases z;let#[t,rfl]:=w;let#[a,n,r,c,y]:=I.lst l;let#[h1,B,m,e]:=vT x;have d:=r.length;have C:=bJ;have g:Ov X tx σ (Ot H p (.lst (xs.set j v))) {s with heap:=s.heap.update p (Sz (·.setIfInBounds j u))}:=
  I.lstUpd l c (xq a n j u) (r.set A j) (by rw[Mg];exact y) s.toks
 by_cases f:0<=k
 .have hk:k.toNat=j:=by
   rw[seqIndex_of f e]at h1;exact Lb h1
  exact W.ki_setAt c f (by lia) (by rw[J9,<- d];exact e) (by rw[hk];exact#[_,g,q])
 .have hk:(k+(a.toArray.size:Int)).toNat=j:=by
   rw[seqIndex_neg (by lia) m]at h1
   rw[J9,<- d];exact Lb h1
  exact W.ki_setBack c (by lia) (by rw[J9,<- d];exact m) (by lia) (by rw[hk];exact#[_,g,q])
def sQ(lo hi:Λ)(n:Nat):(sliceBounds lo hi none n).1=((HT.sIx n 0 lo:Nat):Int)/\(sliceBounds lo hi none n).2.1=((HT.sIx n n hi:Nat):Int)/\(sliceBounds lo hi none n).2.2=1:=by
 refine#[?_,?_,Z]
 .cases lo with
  |none=>simp [sliceBounds,HT.sIx]
  |some i=>
   simp only[sliceBounds,HT.sIx,Ki,show(1:Int)>0 by decide,LW]
   by_cases h:i<0
   .simp only[h,LW]<;>lia
   .simp only[h,MK]<;>lia
 .cases hi with
  |none=>simp [sliceBounds,HT.sIx]
  |some i=>
   simp only[sliceBounds,HT.sIx,Ki,show(1:Int)>0 by decide,LW]
   by_cases h:i<0
   .simp only[h,LW]<;>lia
   .simp only[h,MK]<;>lia
def rq(its:Ζ)(lo hi:Λ):slicePick its.toArray lo hi none=((its.drop (HT.sIx its.length 0 lo)).take (HT.sIx its.length its.length hi-HT.sIx its.length 0 lo)).toArray:=by
 let#[h1,a,c]:=sQ lo hi its.toArray.size;unfold slicePick;rw[h1,a,c];simp only[sliceRange_one,pick_run,J9]<;>rfl
inductive UX (K:ι)(x:V)(lo:Λ)(hi:Λ)(H:Hp)(Q:VK):Prop
 |mk (a:_)(xs:_)(h1:x= .ref a)(h2:OA K H a xs)(h3:∀p,H p=none->Q (-p) (Ot H p (.lst (cg xs lo hi))))
def IZ(K:ι):V->Λ->Λ->Hp->VK->Prop:=λx lo hi H Q=>UX K x lo hi H Q
def E7:yv X (IZ X.K):=by
 intro tx s σ H x v u n lo hi p Q I f m j g h;let#[a,xs,rfl,l,q]:=h;cases f;let#[e,r,d,i]:=I.list l;have c:=r.length;exists "list",_,slot_list_getitem.lookup,d.isList.typeIs
 refine wpAny_getItem_list_slice d.isList m j g .none (by simp) ?_ (by rw[J9]<;>lia)
 rw[rq,<- c];refine#[-s.heap.objs.size,_,I.laid (t':=s.toks) (o:= .lst (cg xs lo hi)) (λb t q=>JR _ q) (JL _) ?_,Z,q _ (I.hok.fresh (JL _))]
 exact#[Lc (j7 xs lo hi) i,_,(0),(r.drop (HT.sIx xs.length 0 lo)).take (HT.sIx xs.length xs.length hi-HT.sIx xs.length 0 lo),J2 _ Z]
noncomputable def cn:V->Bool
 | .non=>true
 | .bl _=>true
 | .int _=>true
 | .str _=>true
 |_=>false
noncomputable def fz:V->V->Bool
 | .non,.non=>true
 | .bl a,.bl b=>a==b
 | .bl a,.int b=>(if a then 1 else 0)==b
 | .int a,.bl b=>a==(if b then 1 else 0)
 | .int a,.int b=>a==b
 | .str a,.str b=>a==b
 |_,_=>false
def GK(e:Oz y u)(c:Oz x v)(g:cn y=true)(f:cn x=true):SeqAt.EqAt A s u v (fz y x):=by
 cases y with
 |non=>
  cases e;cases x with
  |non=>cases c;exact SeqAt.EqAt.same _
  |bl b=>cases c;exact SeqAt.EqAt.none_bool b
  |int b=>let#[t,rfl]:=c;exact SeqAt.EqAt.none_int b t
  |str b=>let#[t,rfl]:=c;exact SeqAt.EqAt.none_str b t
  |_=>exact absurd (show false=true from f) Le
 |bl a=>
  cases e;cases x with
  |non=>cases c;exact SeqAt.EqAt.bool_none a
  |bl b=>cases c;exact SeqAt.EqAt.bool_bool a b
  |int b=>let#[t,rfl]:=c;exact SeqAt.EqAt.bool_int a b t
  |str b=>let#[t,rfl]:=c;exact SeqAt.EqAt.bool_str a b t
  |_=>exact absurd (show false=true from f) Le
 |int a=>
  let#[d,rfl]:=e;cases x with
  |non=>cases c;exact SeqAt.EqAt.int_none a d
  |bl b=>cases c;exact SeqAt.EqAt.int_bool a d b
  |int b=>let#[t,rfl]:=c;exact SeqAt.EqAt.int_int a d b t
  |str b=>let#[t,rfl]:=c;exact SeqAt.EqAt.int_str a d b t
  |_=>exact absurd (show false=true from f) Le
 |str a=>
  let#[d,rfl]:=e;cases x with
  |non=>cases c;exact SeqAt.EqAt.str_none a d
  |bl b=>cases c;exact SeqAt.EqAt.str_bool a d b
  |int b=>let#[t,rfl]:=c;exact SeqAt.EqAt.str_int a d b t
  |str b=>let#[t,rfl]:=c;exact SeqAt.EqAt.str_str a d b t
  |_=>exact absurd (show false=true from f) Le
 |_=>exact absurd (show false=true from g) Le
noncomputable def db(x:V)(u:Γ):Bool:=match u with
 | .none=>fz .non x
 | .bool b=>fz (.bl b) x
 | .int i _=>fz (.int i) x
 | .str z _=>fz (.str z) x
 |_=>false
def yx(r:Oz y u)(f:cn y=true):db x u=fz y x:=by
 cases y with
 |non=>cases r;rfl
 |bl b=>cases r;rfl
 |int i=>let#[t,rfl]:=r;rfl
 |str z=>let#[t,rfl]:=r;rfl
 |_=>exact absurd (show false=true from f) Le
theorem fG{x:V}:∀{xs:Β} {us:Ζ},OB xs us->xs.all cn=true->us.any (db x)=xs.any λy=>fz y x
 |_,_,.nil,_=>rfl
 |y::xs,u::us,.cons r t,f=>by
  rw[Kj,Lz]at f;rw[ML,ML,yx r f.1,fG t f.2]
theorem cR{A:SO}{s:Θ}{x:V}{v:Γ}(d:Oz x v)(c:cn x=true):∀{xs:Β} {us:Ζ},OB xs us->xs.all cn=true->∀u∈us,SeqAt.EqAt A s u v (db x u)
 |_,_,.nil,_=>λu a=>by cases a
 |y::xs,u::us,.cons r t,f=>λe a=>by
  rw[Kj,Lz]at f;rcases JO.mp a with rfl|a
  .rw[yx r f.1];exact GK r d f.1 c
  .exact cR d c t f.2 e a
def DU(x:V)(xs:Β):Bool:=xs.any λy=>fz y x
inductive Vg (K:ι)(neg:Bool)(x:V)(y:V)(H:Hp)(Q:VK):Prop
 |mk (p:_)(xs:_)(h1:y= .ref p)(h2:(OA K H p xs\/OC K H p xs))(h3:cn x=true)(h4:xs.all cn=true)(h5:Q (.bl (if neg then ! DU x xs else DU x xs)) H)
def IM(K:ι)(a:Bool):R2:=λx y H Q=>Vg K a x y H Q
def bT:Qj X (SL .In) (IM X.K false):=by
 intro tx s σ H x y v u Q I f j h;let#[p,xs,rfl,c,g,fs,q]:=h;cases j;rcases c with c|c
 .let#[a,r,e,i]:=I.list c
  refine SeqAt.in_listAt (db x) e.isList (λw d=>cR f g r fs w (by simpa using d)) #[.bl _,H,I,Z,?_]
  rw[show a.toArray.any (db x)=a.any (db x) by simp,fG r fs]
  exact q
 .let#[a,r,e,i]:=I.tuple c
  refine SeqAt.in_tupleAt (db x) e (λw d=>cR f g r fs w (by simpa using d)) #[.bl _,H,I,Z,?_]
  rw[show a.toArray.any (db x)=a.any (db x) by simp,fG r fs]
  exact q
def uy:Qj X (SL .NotIn) (IM X.K true):=by
 intro tx s σ H x y v u Q I f j h;let#[p,xs,rfl,c,g,fs,q]:=h;cases j;rcases c with c|c
 .let#[a,r,e,i]:=I.list c
  refine SeqAt.notIn_listAt (db x) e.isList (λw d=>cR f g r fs w (by simpa using d)) #[.bl _,H,I,Z,?_]
  rw[show a.toArray.any (db x)=a.any (db x) by simp,fG r fs]
  exact q
 .let#[a,r,e,i]:=I.tuple c
  refine SeqAt.notIn_tupleAt (db x) e (λw d=>cR f g r fs w (by simpa using d)) #[.bl _,H,I,Z,?_]
  rw[show a.toArray.any (db x)=a.any (db x) by simp,fG r fs]
  exact q
def qN:zY X (.builtin "len") (λxs H Q=>∃p ys,xs=[-p]/\(OA X.K H p ys\/OC X.K H p ys)/\Q (.int ys.length) H):=by
 intro tx s σ H xs l Q I r h;let#[p,ys,rfl,c,q]:=h;let#[u,rfl,g]:=QU r;cases g;have j:=bJ;rcases c with c|c
 .let#[d,f,e,i]:=I.list c
  have a:=f.length;exact Calls.call_len_list e.isList (by simp only[J9]<;>lia) #[.int ys.length,H,I.tok _,#[s.toks+1,by rw[J9,a]],q]
 .let#[d,f,e,i]:=I.tuple c
  have a:=f.length;exact len_tuple e (by simp only[J9]<;>lia) #[.int ys.length,H,I.tok _,#[s.toks+1,by rw[J9,a]],q]
def rY:zY X (.builtin "len") (λxs H Q=>∃z,xs=[.str z]/\z.length<=ζ/\Q (.int z.length) H):=by
 intro tx s σ H xs d Q I r h;let#[z,rfl,c,q]:=h;let#[u,rfl,t,rfl]:=QU r;have a:=bJ;exact len_str (by lia) #[.int z.length,H,I.tok _,#[0],q]
def QN:zY X (.type "list") (λxs H Q=>∃p ys,xs=[-p]/\(OA X.K H p ys\/OC X.K H p ys)/\∀l,H l=none->Q (-l) (Ot H l (.lst ys))):=by
 intro tx s σ H xs y Q I r h;let#[p,ys,rfl,f,q]:=h;let#[u,rfl,x]:=QU r;cases x;have j:∀(a:Ζ),OB ys a->ys.length<=ζ->∀(h':Ψ) (c':Nat),(∀b o',s.heap.get? b=↑o'->h'.get? b=↑o')->
   h'.get? s.heap.objs.size=some {cls:= .type "list",dict:=none,data:= .seq a.toArray c',slots:= (B0 [])}->EP X tx σ Q (-s.heap.objs.size) {s with heap:=h'}:=λa c g h' c' d e=>
  #[-s.heap.objs.size,_,I.laid (t':=s.toks) d (JL _) (show OI X.prog X.w _ h' _ (.lst ys)from#[g,a,c',c,e]),Z,q _ (I.hok.fresh (JL _))]
 rcases f with f|f
 .let#[a,c,m,g]:=I.list f
  have i:=c.length;let#[o,t,v,n,w]:=m.isList;exact call_list_seq p (.inl Z) t v w (λh' c' d e=>j a c g h' c' d e) (by simp only[J9]<;>lia)
 .let#[a,c,m,g]:=I.tuple f
  have i:=c.length;let#[o,t,v,n,w]:=m;exact call_list_seq p (.inr Z) t v w (λh' c' d e=>j a c g h' c' d e) (by simp only[J9]<;>lia)
def za:zY X (.type "tuple") (λxs H Q=>∃p ys,xs=[-p]/\((OA X.K H p ys/\∀l,H l=none->Q (-l) (Ot H l (.tup ys)))\/(OC X.K H p ys/\Q (-p) H))):=by
 intro tx s σ H xs v Q I r h;let#[p,ys,rfl,h]:=h;let#[u,rfl,n]:=QU r;cases n;rcases h with⟨c,q⟩|⟨c,q⟩
 .let#[a,f,d,i]:=I.list c
  have j:=f.length;refine call_tuple_list d.isList (λh' m=>?_) (by simp only[J9]<;>lia)
  have g:Ov X tx σ H {s with heap:=h'}:=I.kept (t':=s.toks) m
  have t:Ov X tx σ (Ot H h'.objs.size (.tup ys)) {s with heap:=h'.push {cls:= .type "tuple",data:= .seq a.toArray}}:=
   g.laid (t':=s.toks) (λb o e=>JR _ e) (JL _) (show OI X.prog X.w _ _ _ (.tup ys)from#[i,a,f,IsTup.new _ _])
  exact#[-h'.objs.size,_,t,Z,q _ (g.hok.fresh (JL _))]
 .let#[a,f,d,i]:=I.tuple c
  exact call_tuple_same d #[-p,H,I,Z,q]
def GG(K:ι)(T:String)(x:V)(H:Hp):Prop:=match x with
 | .str _=>T="str"
 | .int _=>T="int"
 | .ref p=>(T="list"/\∃xs,OA K H p xs)\/(T="tuple"/\∃o,K.lookup p=↑o/\o.cls= .type "tuple"/\o.dict=none)\/
   (T="dict"/\((∃kvs,H p=↑(.dK kvs))\/∃kvs,H p=↑(.dT kvs)))\/(T="set"/\∃S n,H p=↑(.set S n))
 |_=>False
def AZ(I:Ov X tx σ H s)(r:Oz x v)(ty:GG X.K T x H):
  s.TypeIs v T/\∀a,v= .ref a->∃h,s.heap.get? a=↑h/\h.dict=none:=by
 cases x with
 |str z=>
  let#[t,rfl]:=r
  cases(show T="str" from ty)
  exact#[typeIs_str s z t,λ_ e=>nomatch e]
 |int i=>
  let#[t,rfl]:=r
  cases(show T="int" from ty)
  exact#[typeIs_int s i t,λ_ e=>nomatch e]
 |ref p=>
  cases r;rcases ty with⟨rfl,xs,l⟩|⟨rfl,o,hk,m,d⟩|⟨rfl,hk⟩|⟨rfl,S,n,hk⟩
  .let#[j,_,g,_]:=I.list l
   refine#[g.isList.typeIs,λa e=>?_]
   cases e;let#[o,n,e,c,d,_]:=g
   exact#[o,e,d]
  .refine#[#[o,I.kIn p o hk,m],λa e=>?_]
   cases e
   exact#[o,I.kIn _ o hk,d]
  .have z:∃o,s.heap.get? p=↑o/\o.ExactDict:=by
    rcases hk with⟨kvs,hk⟩|⟨kvs,hk⟩
    .let#[_,_,_,_,o,_,_,e,ex,_]:=I.hok p _ hk
     exact#[o,e,ex]
    .let#[_,_,_,_,o,_,_,e,ex,_]:=I.hok p _ hk
     exact#[o,e,ex]
   let#[o,e,ex]:=z;refine#[#[o,e,ex.1],λa f=>?_]
   cases f
   exact#[o,e,ex.2.1]
  .let#[o,_,_,_,e,ex,_]:=I.hok p _ hk
   refine#[#[o,e,ex.1],λa f=>?_]
   cases f
   exact#[o,e,ex.2.1]
 |_=>exact False.elim ty
def FT(K:ι)(T:String)(r:V->Β->Hp->VK->Prop)(to:TE):TE:=λσ H Q=>to σ H λx H1=>GG K T x H1/\r x [] H1 Q
def II(K:ι)(T:String)(r:V->Β->Hp->VK->Prop)(to:TE)(t:TA):TE:=λσ H Q=>to σ H λx H1=>GG K T x H1/\t σ H1 λxs a=>r x xs a Q
variable{o e:Φ}{es:Ι}{to:TE}{t:TA}{name:Str}{apos cpos:Pos}{T id:String}{r:V->Β->Hp->VK->Prop}
def GT(m:PlainAttrs T)(d:Slot T name id)(e:typeOf (.builtin id)=pure (.type "method_descriptor"))(hm:i8 X id r)(ho:PE X o to)
  (a:attributeBase o name X.env (eval o X.env)=eval o X.env:=by rfl)(c:(apos.endLine==cpos.line)=true:=by rfl):PE X (.Call (.Attribute o name apos) [] [] cpos) (FT X.K T r to):=by
 intro tx s σ H Q I h;refine NX a c (qG (ho tx s σ H _ I h) λv j n=>?_)
 let#[x,H1,f,g,ty,l]:=n;let#[h1,i]:=AZ f g ty
 exact#[T,id,m,d,e,h1,i,MM Z (NY (hm tx j σ H1 x [] v [] Q f g .nil l))]
def Ih(D:PlainAttrs T)(g:Slot T name id)(i:typeOf (.builtin id)=pure (.type "method_descriptor"))(hm:i8 X id r)(ho:PE X o to)(ha:PA X (e::es) t)
  (c:attributeBase o name X.env (eval o X.env)=eval o X.env:=by rfl)
  (f:((backTo cpos (θ (e::es) X.env)).all (λx=> ! x.1)&&(backToKw cpos (keywordEach [] X.env)).all (λx=>x.1.isSome)
   &&decide ((e::es).length+([]:Χ).length+(if([]:Χ).isEmpty then 0 else 1)<30))=true:=by rfl)
  (d:(apos.endLine==cpos.line)=true:=by rfl)(hs:hG X e es:=by rfl)(a:hI X es cpos:=by rfl):
  PE X (.Call (.Attribute o name apos) (e::es) [] cpos) (II X.K T r to t):=by
 intro tx s σ H Q I h;refine wpAny_Call_method_late c f d Z (qG (ho tx s σ H _ I h) λv p z=>?_)
 let#[x,H1,j,l,ty,C]:=z;let#[h1,B]:=AZ j l ty;exists T,id,D,g,i,h1,B
 have m:=ha cpos tx p σ H1 _ j C;rw[hs]at m⊢;refine MM (by show(false||(backTo cpos (θ es X.env)).any (·.1))=false;rw[a]<;>rfl) (M4 ?_)
 exact qG m λu y ⟨E,A,q,n,w⟩=>hm tx y σ A x E v u Q q l n w
end
def IR(X:Cx)(id:String)(r:V->Β->Hp->VK->Prop):Prop:=
 ∀(tx:Oo) (s:Θ) (σ:St) (H:Hp) (x:V) (xs:Β) (v:Γ) (a:Ζ) (Q:VK),Ov X tx σ H s->Oz x v->OB xs a->r x xs H Q->
  ε (model X.prog X.w) X.A (call (.builtin id) (v::a)) (EP X tx σ Q) X.xe s
def OB.one:∀{x:V} {us:Ζ},OB [x] us->∃u,us=[u]/\Oz x u
 :=by
 intro x us h;cases h with
 |cons r q=>cases q;exact#[0,r]
def OB.two:∀{x y:V} {us:Ζ},OB [x,y] us->∃u v,us=[u,v]/\Oz x u/\Oz y v
 :=by
 intro x y us h;cases h with
 |cons r q=>cases q with
  |cons q z=>cases z;exact#[6,r,q]
def OB.zero:∀{us:Ζ},OB [] us->us=[]
 |_,.nil=>rfl
theorem OB.reverse(h:OB xs us):OB xs.reverse us.reverse:=by
 induction h with
 |nil=>exact .nil
 |cons r t ih=>rw[Kk,Kk];exact OB.append ih (.cons r .nil)
theorem OB.rep{xs:Β}{us:Ζ}(h:OB xs us):∀k:Nat,OB (CC k xs).flatten (CC k us).flatten
 |0=> .nil
 |k+1=>by
  rw[M5,M5,NC,NC];exact OB.append h (OB.rep h k)
theorem oC(its:Ζ):∀(k:Nat) (a:Ζ),
  KD (λc d=>c++d) a.toArray (CC k its.toArray)=(a++(CC k its).flatten).toArray
 |0,a=>by simp
 |k+1,a=>by
  have e:a.toArray++its.toArray=(a++its).toArray:=by simp
  have f:(a++its)++(CC k its).flatten=a++(CC (k+1) its).flatten:=by
   rw[M5,NC,ND]
  rw[<- f,<- oC its k (a++its),<- e,M5,List.foldl_cons]
def Ov.lset{its its':Ζ}{f:Array Γ->Array Γ}{t':Nat}(I:Ov X tx σ H s)(d:H l=↑(.lst xs))
  (e:s.heap.get? l=some {cls:= .type "list",data:= .seq its.toArray n})(hf:f its.toArray=its'.toArray)(hv:OB ys its')(a:ys.length<=ζ):
  Ov X tx σ (Ot H l (.lst ys)) {s with heap:=s.heap.update l (Sz f),toks:=t'}:=by
 have q:=PySem.IsL.update e f;rw[hf]at q;refine I.write (x:=l) (e:=l) (by rw[d];exact trivial) (.inl Z) (λb' u c g=>(L7 s.heap (Sz f) (Ne.symm c)).trans g) #[_,q] ?_
 exact#[a,its',_,hv,q]
def Ov.lnew{t':Nat}(I:Ov X tx σ H s)(hv:OB ys its)(a:ys.length<=ζ):
  Ov X tx σ (Ot H s.heap.objs.size (.lst ys)) {s with heap:=s.heap.push {cls:= .type "list",data:= .seq its.toArray},toks:=t'}:=
 I.laid (λ_ _ q=>JR _ q) (JL _) #[a,its,(0),hv,J2 _ Z]
theorem Ov.fresh(I:Ov X tx σ H s):H s.heap.objs.size=none:=I.hok.fresh (JL _)
def Ov.lstM(I:Ov X tx σ H s)(a:H l=↑(.lst xs)):xs.length<=ζ/\∃(its:Ζ) (n:Nat),OB xs its/\xs.length=its.length/\s.heap.get? l=some {cls:= .type "list",data:= .seq its.toArray n}:=by
 let#[z,its,n,r,e]:=I.hok l _ a
 exact#[z,its,n,r,r.length,e]
def C6{n:Nat}(h:n<=ζ):γ.List.listTooLong n=false:=by
 unfold γ.List.listTooLong;exact JT (by lia)
inductive To (x:V)(vs:Β)(H:Hp)(Q:VK):Prop
 |mk (l:_)(xs:_)(y:_)(h1:x= .ref l)(h2:vs=[y])(h3:H l=↑(.lst xs))(h4:xs.length<ζ)(h5:Q .non (Ot H l (.lst (xs++[y]))))
def vq:V->Β->Hp->VK->Prop:=λx a H Q=>To x a H Q
def AR:IR X "list.append" vq:=by
 intro tx s σ H x o v m Q I d f h;let#[l,xs,y,rfl,rfl,c,i,q]:=h;cases d;let#[u,rfl,g]:=f.one;let#[z,a,n,r,j,e]:=I.lstM c;refine Mh F.slot_list_append #[_,e,Z] F.entry_list_append (F.args_list_append_2 _ _) (PySem.list_append l a.toArray n u (by rw[J9];lia)) #[e,?_]
 refine#[.non,_,I.lset (its':=a++[u]) c e (by simp) (r.append (.cons g .nil)) ?_,Z,q]
 rw[J0,Kl];lia
inductive SH (x:V)(vs:Β)(H:Hp)(Q:VK):Prop
 |mk (l:_)(xs:_)(h1:x= .ref l)(h2:vs=[])(h3:H l=↑(.lst xs))(h4:Q .non (Ot H l (.lst xs.reverse)))
def sL:V->Β->Hp->VK->Prop:=λx a H Q=>SH x a H Q
def wv:IR X "list.reverse" sL:=by
 intro tx s σ H x j v m Q I f g h;let#[l,xs,rfl,rfl,d,q]:=h;cases f;have c:=g.zero;subst c;let#[z,a,n,r,i,e]:=I.lstM d;refine Mh F.slot_list_reverse #[_,e,Z] F.entry_list_reverse (F.args_list_reverse_1 _) (AutoSeq1.list_reverse_list_0 l a.toArray n (by rw[J9];lia)) #[e,?_]
 refine#[.non,_,I.lset (its':=a.reverse) d e (by simp) r.reverse ?_,Z,q]
 rw[List.length_reverse];lia
inductive UY (x:V)(y:V)(H:Hp)(Q:VK):Prop
 |mk (l:_)(b:_)(xs:_)(zs:_)(h1:x= .ref l)(h2:y= .ref b)(h3:H l=↑(.lst xs))(h4:H b=↑(.lst zs))(h5:xs.length+zs.length<=ζ)(h6:∀p,H p=none->Q (-p) (Ot H p (.lst (xs++zs))))
def Jl:R2:=λx y H Q=>UY x y H Q
def lJ:Qj X (binaryOp .Add) Jl:=by
 intro tx s σ H x y v u Q I d i h;let#[l,b,xs,B,rfl,rfl,o,m,t,q]:=h;cases d;cases i;let#[z,c,n,r,A,e]:=I.lstM o;let#[w,a,n2,f,g,p]:=I.lstM m;refine PySem.P.add_list e p ?_ (by rw[J9,J9];lia)
 have j:c.toArray++a.toArray=(c++a).toArray:=by simp
 rw[j]
 exact#[.ref _,_,I.lnew (t':=s.toks) (r.append f) (by rw[J0];lia),Z,q _ I.fresh]
inductive UZ (x:V)(y:V)(H:Hp)(Q:VK):Prop
 |mk (l:_)(k:_)(xs:_)(h1:x= .ref l)(h2:y= .int k)(h3:H l=↑(.lst xs))(h4: -(2 ^ 63)<=k)(h5:k<2 ^ 63)(h6:xs.length*k.toNat<=ζ)(h7:∀p,H p=none->Q (-p) (Ot H p (.lst (CC k.toNat xs).flatten)))
def Jn:R2:=λx y H Q=>UZ x y H Q
def EK{α:Type}(xs:List α)(k:Nat):(CC k xs).flatten.length=k*xs.length:=by
 induction k with
 |zero=>simp
 |succ k ih=>rw[M5,NC,J0,ih,Nat.succ_mul,KG]
def ue:Qj X (binaryOp .Mult) Jn:=by
 intro tx s σ H x y v u Q I A E h;let#[l,k,xs,rfl,rfl,G,h1,B,w,q]:=h;cases A;let#[t,rfl]:=E;let#[z,c,n,r,C,e]:=I.lstM G;have i:c.toArray.size*k.toNat<=ζ:=by rw[J9,<- C];exact w
 have j:¬c.toArray.size*k.toNat>(2 ^ 63-1)/8:=by
  have:(ζ:Nat)<=(2 ^ 63-1)/8:=by decide
  lia
 have g:¬(!γ.List.listFitsIndex k)=true:=by
  rw[fitsIndex_both h1 B];exact Le
 have d:¬γ.List.listTooLong (c.toArray.size*k.toNat)=true:=by
  rw[C6 i];exact Le
 have f:KD (λo p=>o++p) (B0 []) (CC (if c.toArray.isEmpty=true then 0 else k.toNat) c.toArray)=(CC k.toNat c).flatten.toArray:=by
  have D:∀m:Nat,KD (λo p=>o++p) (B0 []) (CC m c.toArray)=(CC m c).flatten.toArray:=λm=>by
   have:=oC c m []
   rw[NF]at this;exact this
  rw[D];cases c with
  |nil=>simp
  |cons a r'=>rw[JJ (by simp)]
 refine wpAny_binaryOp_repeat_ref (T:="list") (U:="int") ⋯ #[_,e,Z] (λs'=>typeIs_int s' k t) noFill_list_mul F.fills_int_mul F.slot_int_rmul repeat_list F.slot_int_index.lookup
  (Mh F.slot_int_rmul (typeIs_int s k t) F.entry_int_rmul (F.args_int_rmul_2 _ _) (int___rmul___int_list k t l c.toArray n)
   #[e,Z,#[_,e,Z],Mh F.slot_list_mul #[_,e,Z] F.entry_list_mul (F.args_list_mul_2 _ _) (AutoListH.list___mul___list_int_3 l c.toArray n k t g j d) #[e,?_]])
 rw[f]
 exact#[.ref _,_,I.lnew (t':=s.toks) (r.rep k.toNat) (by rw[EK,Nat.mul_comm];exact w),Z,q _ I.fresh]
end L2
namespace Att
open PySem PySem.W PySem.Calls PyProof.Rows
def mG:∀(ns:Ε) (vs:Ζ),WellAll P h vs (ns.map WData.int)->IntsAre vs ns:=by
 intro ns
 induction ns with
 |nil=>
  intro vs w;rw[NB]at w;cases w;exact .nil
 |cons n ns ih=>
  intro vs w;rw[Ls]at w;cases w with
  |cons a b=>
   cases a;exact .cons _ _ (ih _ b)
def Ag{l:OpenLaw}{n:Nat}(hn:l.most=↑n)
  (e:l.row.toRowW.claim.pre args=true)(o:WellAll P h f args):
  ∃a s c,f=[Γ.ref a]/\args=[WData.list (c.map WData.int)]/\h.get? a=some {cls:= .type "list",data:= .seq s.toArray}/\IntsAre s c/\c.length<=n:=by
 have m:WShape.hasAll [] args [.list .int]=true:=(pre_splitW e).1
 have p:l.pre.holds [] {args:=args}=true:=(pre_splitW e).2
 let#[d,r,rfl,h1,t]:=hasAllW_cons m
 obtain rfl:=hasAllW_nil t
 let#[xs,rfl,v]:=hasW_list h1;let#[c,rfl]:=items_int v;have g:c.length<=n:=by
  unfold OpenLaw.pre at p;have i:(WTm.not (.lt (.lit (.int (n:Int))) (.len (.arg 0)))).holds [] {args:=[.list (c.map .int)]}=true:=by
   have i:=(holds_andW p).1;rw[hn]at i;exact i
  have j:=condW_of i (w_not (w_lt w_lit (w_len_list (w_arg Z))));rw[JI]at j;refine KH λq=>?_
  have u:(n:Int)<((c.length:Nat):Int):=by lia
  first
   |(rw[JM u]at j;exact absurd j ⋯)
   |(simp at j;lia)
 cases o with
 |cons w1 w2=>
  cases w2;cases w1 with
  |list ho hall=>exact#[8,c,9,ho,mG c _ hall,g]
def As(l:OpenLaw)(args:List WData):l.row.toRowW.claim.post args (.bool true) args=true:=
 postW_of (r:=l.row.toRowW) (X:=(true==true))
  (show WShape.has [] (.bool true) .bool=true by first|rfl|decide|simp [WShape.has,WShape.arms,WShape.armsAll])
  (show(WTm.eq .res (.lit (.bool true))).value [] {args:=args,res:=↑(.bool true),after:=args}=↑(.bool (true==true))from w_eq_bool (w_res Z) w_lit) Z
def attach_call{l:OpenLaw}{n:Nat}{E:(Str->Ν)->Ψ->Prop}{D:Ω->Ψ->Prop}{d:DefRec}
  (hn:l.most=↑n)(u:d.params.defaults=[])
  (call:∀(w:Ω) (e c:Θ) (mg t:On) (p:Δ) (o:Obj) (pm s doc:Γ) (a:Δ) (vs:Ζ) (ns:Ε),
   Ground q g [] E w e mg t c.heap->D w c.heap->
   c.heap.get? p=↑o->o.data= .func (docDef d.name d.params d.body d.scope pm s doc)->c.heap.CodeRec s d.name->mg d.name=↑(-p)->
   c.heap.get? a=some {cls:= .type "list",data:= .seq vs.toArray}->IntsAre vs ns->ns.length<=n->c.gens= (B0 [])->
   codeAny (model l.prog w) callerA (.call (-p) #[[-a],[]]) (λr s'=>r= .ok (.ret (.bool true))/\OldK c.heap s'.heap/\s'.os=c.os/\AllBare s'.gens) c):
  WalkO q g E D l.row.toRowW d [] (λf vs=>PySem.call f vs):=by
 intro w e c mg t G Y p o pm s doc P kV I Q x z y L C A R i B H v N
 obtain rfl:P= .none:=Dflts.none z u
 obtain rfl:kV= .none:=Dflts.noKw z
 let#[a,vs,ns,rfl,rfl,m,h,j]:=Ag hn i v;refine enter_call (Mu (call w e c mg t p o pm s doc a vs ns G Y I (fd_plain Q) x y m h j L) λr s' F=>?_)
 let#[rfl,O,K,M]:=F
 exact#[.inl #[.bool true,.bool true,[],Z,λ_=>rfl,.bool true,As l _,λ_=>#[List.Pairwise.nil,λ_ J=>(nomatch J)]],O,K,M]
end Att
namespace L2
open PySem PySem.Spec PyProof.Rows
theorem p8:∀{vs:Ζ} {ns:Ε},IntsAre vs ns->OB (ns.map V.int) vs
 |_,_,.nil=> .nil
 |_,_,.cons n t h=> .cons #[t,Z] (p8 h)
def Cp(H:Hp):Prop:=∀b,H b=none\/∃o xs,H b=↑(.frz o (.lst xs))
def B9{K:ι}{k:Nat}{a:Δ}{x:Str}{sp:Sp}{c:Θ}{vs:Ζ}
  (R:K.In c.heap)(D:c.heap.Ns η mg)(hb:c.heap.Ns builtinsNs G)(J:∀x:Str,x≠"__name__"->G x=bootBuiltins x)(p:c.heap.NoLimit)(hg:c.gens= (B0 []))
  (ha:c.heap.get? a=some {cls:= .type "list",data:= .seq vs.toArray})(hi:IntsAre vs ns)(hl:ns.length<=ζ)(hr:OL k callerA)
  (F:∀base:Ψ,K.In base->base.Ns η mg->P5 P w K mg base CX k O fd [x] sp)(j:∀(s:Θ) (u:Γ),BindsTo s fd #[[u],[]] [(x,u)])
  (N:∀H:Hp,Cp H->OA K H a (ns.map V.int)->sp [-a] H (λv _=>v= .bl true) λ_ _ _=>False)
  (L:∀H e s',CX [] H c (λ_ _ _=>False) e s'->False):
  codeAny (model P w) callerA (.call (-O) #[[-a],[]]) (λr s'=>r= .ok (.ret (.bool true))/\OldK c.heap s'.heap/\s'.os=c.os/\AllBare s'.gens) c:=by
 have S:=p8 hi;have C:=hi.length;have i:∀H:Hp,Cp H->OA K H a (ns.map V.int)->PN P w H c.heap->(∀b,H b≠none->b=a)->(H a≠none->K.lookup a=none)->
   codeAny (model P w) callerA (.call (-O) #[[-a],[]]) (λr s'=>r= .ok (.ret (.bool true))/\OldK c.heap s'.heap/\s'.os=c.os/\AllBare s'.gens) c:=by
  intro H T hS A Q hK;have f:∀{b:Δ} {o:Obj},c.heap.get? b=↑o->H b=none->(gC c.heap H).get? b=↑o:=λe n=>C8 e n
  have I:∀{b:Δ} {o:Obj} {es:Array DictEntry} {t:Nat},c.heap.get? b=↑o->o.data= .dict es t->H b=none:=λ{b o es t} e d=>by
   cases q:H b with
   |none=>rfl
   |some u=>
    have M:b=a:=Q b (by rw[q];simp)
    subst M;rw[ha]at e;cases e
    have d':Data.seq vs.toArray _=Data.dict es t:=d
    cases d'
  have g:∀{b:Δ} {m:On},c.heap.Ns b m->(gC c.heap H).Ns b m:=λ{b m} ⟨o,es,t,e,d,r⟩=>#[o,es,t,f e (I e d),d,r]
  have l:K.In (gC c.heap H):=λb o e=>f (R b o e) (by
   cases q:H b with
   |none=>rfl
   |some u=>
    have M:b=a:=Q b (by rw[q];simp)
    subst M;rw[hK (by rw[q];simp)]at e;cases e)
  have hM:Vd K mg (gC c.heap H):=#[l,g D,#[G,g hb,J],let⟨mc,h1,h2⟩:=p;#[mc,g h1,h2]]
  have e0:R8 P w K mg (gC c.heap H) callerA [] c H:=#[Z,hM,λb o e=>Fl e,Nw (AT _ _),trivial,λb hb=>absurd (show b∈([]:Η)from hb) (by simp),A,.of_eq hg]
  refine Mu ((F _ l (g D)).run callerA [] c H #[[-a],[]] [-a] [-a] _ _ hr e0 (j c (-a)) (.cons Z .nil) (N H T hS)) λr s' h=>?_
  cases r with
  |error e=>exact(L H e s' h).elim
  |ok fl=>
   cases fl with
   |next=>exact False.elim h
   |brk=>exact False.elim h
   |cont=>exact False.elim h
   |ret u=>
    let#[v,H',os,y,un,E,W,q]:=h;have X:v= .bl true:=q
    subst X
    obtain rfl:u=Γ.bool true:=W
    refine#[Z,OldK.of_keep λb o e=>?_,os,y]
    cases q:H b with
    |none=>exact un.keep b o e q (by intro z;exact absurd (show b∈([]:Η)from z) (by simp)) (by simp)
    |some u=>
     rcases T b with z|⟨ob,xs,z⟩
     .rw[q]at z;cases z
     .have Y:=un.frzs b ob _ z
      let#[U,_]:=A b _ z;let#[e2,_]:=E b _ Y;rw[e]at U;cases U
      exact e2
 cases hk:K.lookup a with
 |some o=>
  have e:=R a o hk;rw[ha]at e;cases e;refine i (λ_=>none) (λ_=> .inl Z) (.inr #[_,vs.toArray,_,hk,23,by rw[J9,C];exact hl,by simpa using S]) (λb u z=>by have B:(none:Option HO)=↑u:=z;cases B) (λb z=>absurd Z z) λz=>absurd Z z
 |none=>
  refine i (λb=>if b=a then ↑(.frz {cls:= .type "list",data:= .seq vs.toArray} (.lst (ns.map V.int)))else none) (λb=>?_) (.inl (.inr #[{cls:= .type "list",data:= .seq vs.toArray},JK Z])) (λb u z=>?_) (λb z=>?_) λ_=>hk
  .by_cases hb:b=a
   .exact .inr #[8,JK hb]
   .exact .inl (JJ hb)
  .by_cases hb:b=a
   .have B:=(JK hb).symm.trans z
    cases B;subst hb
    exact#[ha,by rw[JI];exact hl,vs,_,S,ha]
   .have B:=(JJ hb).symm.trans z
    cases B
  .by_cases hb:b=a
   .exact hb
   .exact absurd (JJ hb) z
def Fg{l:W.OpenLaw}{n k:Nat}{O:(Str->Ν)->Ψ->Prop}{E:Ω->Ψ->Prop}{d:DefRec}{K:Params->ι}{CX:Ω->je}{sp:Ω->Sp}{x:Str}
  (hn:l.most=↑n)(t:n<=ζ)(r:d.params.defaults=[])(hr:OL k callerA)
  (M:∀(w:Ω) (h:Ψ),E w h->(K w.params).In h)
  (F:∀(w:Ω) (mg:On) (p:Δ) (h:Ψ),(K w.params).In h->h.Ns η mg->mg d.name=↑(-p)->
   ∃fd:FuncData,(∀(s:Θ) (u:Γ),BindsTo s fd #[[u],[]] [(x,u)])/\
    ∀base:Ψ,(K w.params).In base->base.Ns η mg->P5 l.prog w (K w.params) mg base (CX w) k p fd [x] (sp w))
  (A:∀(w:Ω) (H:Hp) (a:Δ) (ns:Ε),ns.length<=n->Cp H->OA (K w.params) H a (ns.map V.int)->sp w [-a] H (λv _=>v= .bl true) λ_ _ _=>False)
  (y:∀(w:Ω) (H:Hp) (s:Θ) (e:Γ) (s':Θ),CX w [] H s (λ_ _ _=>False) e s'->False):
  W.WalkO q g O E l.row.toRowW d [] (λf B=>PySem.call f B):=by
 refine Att.attach_call hn r λw C j mg Q p o pm T doc a B ns G Y R S N z m i c J=>?_
 have D:=M w _ Y;let#[fd,I,hF]:=F w mg p _ D G.T.g z;exact B9 D G.T.g G.T.b G.T.builtins G.T.nolimit J m i (Lc c t) hr hF I (λH P L=>A w H a ns c P L) λH e s'=>y w H j e s'
noncomputable def qK(s:δ)(j:Nat):δ:=match s with
 | .ClassDef _ _ _ body _ _ _ _ _ _ _=>body.getD j (.Pass #[(0),(0),(0),(0)])
 |_=> .Pass #[(0),(0),(0),(0)]
noncomputable def Zh(s:δ):Arguments:=match s with
 | .FunctionDef _ a _ _ _ _ _ _ _ _=>a
 |_=>{posonlyargs:=[],args:=[],vararg:=none,kwonlyargs:=[],kw_defaults:=[],kwarg:=none,defaults:=[]}
noncomputable def Qk(s:δ):List δ:=match s with
 | .FunctionDef _ _ b _ _ _ _ _ _ _=>b
 |_=>[]
noncomputable def ql(s:δ):Scope:=match s with
 | .FunctionDef _ _ _ _ _ _ sc _ _ _=>sc
 |_=>{kind:= .function,names:=[],isGenerator:=false,isCoroutine:=false}
abbrev ci:je:=λ_ _ _ _ _ _=>False
abbrev E0:XK:=λ_ _ _=>False
def mM:cO ci X E0:=λ_ _ _ _ _ _ _ h=>h.elim
structure SI(K:ι)(x Vm:Str)(st:δ)(f:Δ)(fd:FuncData):Prop where
 ex:∃(oc:Γ) (od:Κ) (kV doc pm:Γ) (an:Κ) (cdv ct:Γ) (osl:Array Ν),
  fd=PySem.W.fnOf x Vm (Zh st) (Qk st) (ql st) .none kV doc pm an cdv ct/\K.lookup f=some #[oc,od,.func fd,osl]/\PySem.W.codeIn K cdv Vm=true
 kp:SX K (-f)=true
section
variable{K:ι}
def SI.ok{x Vm:Str}{st:δ}{f:Δ}{fd:FuncData}{N ps:Α}{k:Nat}{sp:Sp}(F:SI K x Vm st f fd)(S:Os N ps (ql st))(e:∀vs H Q E,sp vs H Q E->vs.length=ps.length)
  (a:∀(cdv:Γ) (A:SO) (outer:Ρ) (s:Θ) (H:Hp) (vs:Β) (Q:VK) (E:XK),OL k (A.deeper (envOfC Vm (ql st) s.heap.objs.size f cdv))->sp vs H Q E->
   ∃t,R6 (QD ci P w K mg base N Vm (ql st) f cdv A outer s H E).nox (Qk st) t/\t {nx:=λ_ H'=>Q .non H',rt:=Q} (Zm N vs) H):P5 P w K mg base ci (k+1) f fd ps sp:=by
 let#[oc,od,kV,doc,pm,an,cdv,ct,osl,rfl,i,c]:=F.ex;refine wg i c S e λA outer s H vs Q E g d=>?_
 let#[t,h,q]:=a cdv A outer s H vs Q E g d
 exact#[t,h.nox,q]
def SI.binds{x Vm:Str}{st:δ}{f:Δ}{fd:FuncData}{ps:Α}(F:SI K x Vm st f fd)
  (h:∀(kV doc pm:Γ) (an:Κ) (cdv ct:Γ) (us:Ζ),us.length=ps.length->bindArgs (Sw x Vm (Zh st) (Qk st) (ql st) .none kV doc pm an cdv ct) #[us,[]]=pure (ps.zip us)):Pn K fd ps []:=by
 let#[oc,od,kV,doc,pm,an,cdv,ct,osl,rfl,c,a]:=F.ex;exact .all (h kV doc pm an cdv ct)
def sZ{x Vm:Str}{st:δ}{f:Δ}{oc:Γ}{od an:Κ}{osl:Array Ν}{kV doc pm cdv ct:Γ}(l:K.lookup f=some #[oc,od,.func (Sw x Vm (Zh st) (Qk st) (ql st) .none kV doc pm an cdv ct),osl])
  (c:W.codeIn K cdv Vm=true)(k:Si K (-f)=true):SI K x Vm st f (Sw x Vm (Zh st) (Qk st) (ql st) .none kV doc pm an cdv ct):=#[#[oc,od,kV,doc,pm,an,cdv,ct,osl,Z,l,c],k]
end
def zu{A B:Prop}(h:B):if false=true then A else B:=by
 rw[JJ Le];exact h
def zZ{A B:Prop}(h:A):if true=true then A else B:=by
 rw[JK Z];exact h
def qL{c A B:Prop} [Decidable c](h1:c->A)(h2:¬c->B):if c then A else B:=by
 by_cases h:c
 .rw[JK h]
  exact h1 h
 .rw[JJ h]
  exact h2 h
def gK{c A B:Prop} [Decidable c](hc:c)(h:B):if(! decide c)=true then A else B:=by
 rw[JM hc];exact zu h
def Oq(H H':Hp):Prop:=∀b o,H b=↑o->H' b=↑o
def Oq.refl(H:Hp):Oq H H:=λ_ _ h=>h
def Oq.trans(a:Oq H H1)(b:Oq H1 d):Oq H d:=λc o h=>b c o (a c o h)
def Oq.seq{K:ι}(e:Oq H H')(h:OA K H a xs):OA K H' a xs:=by
 rcases h with(h|⟨o,h⟩)|h
 .exact .inl (.inl (e _ _ h))
 .exact .inl (.inr #[o,e _ _ h])
 .exact .inr h
end L2
namespace L3
open PySem PySem.Spec PyProof.Rows L2
def gN{i n:Nat}(h:i<n):n-(i+1)<n-i:=Nat.sub_lt_sub_left h (LU i)
def IJ{i n:Nat}(h:i<n):n-1-i<n:=Gx (KA _ _) (KI h)
def GF{i n:Nat}(h:i<n):(n:Int)-1-i=((n-1-i:Nat):Int):=by lia
def DZ{i n:Nat}(h:i<n):((n-1-i:Nat):Int)-1=(n:Int)-1-((i+1:Nat):Int):=by lia
def Jv{z:Int}(h:z<16):z.toNat<16:=by lia
def JC{z:Int}{n:Nat}(a:0<=z)(h:z<n):z.toNat<n:=(KJ a).2 h
noncomputable def Qy(X:Cx)(N:Α)(a:Scope)(cl:List (Str×Δ))(C:Δ)(s:Θ)(H:Hp)(c:Η):Cx:=
 {X with N:=N,s₀:=s,H₀:=H,env:=compEnvC a cl C X.env,outer:=X.stack,ex:=c,fn:=λ_=>false,pn:=[],xe:=λ_ _=>False}
structure Pa(X:Cx)(scope:Scope)(fr:Α)(js:Μ):Prop where
 kind:scope.kind= .function
 names:∀x∈scope.names,x.2= .local->scope.names.lookup x.1=some .local
 nocell:∀x∈scope.names,x.2≠ .cell
 free:∀x∈scope.names,x.2= .free->x.1∈fr
 len:js.length=fr.length
 at_:∀(i j:Nat) (y:Str),js[i]? =↑j->fr[i]? =↑y->X.N[j]? =↑y/\X.env.kindOf y=some .cell/\(relabel scope X.env).names.lookup y=some .cell
theorem ZP{α:Type}{y:Str}:∀{l:List (Str×α)},y∈l.map (·.1)->∃c,l.lookup y=↑c
 | [],h=>by simp at h
 |(n,a)::r,h=>by
  cases e:y==n with
  |true=>exact#[a,by simp [LL,e]]
  |false=>
   have d:y∈r.map (·.1):=by
    rcases JO.mp h with z|z
    .exact absurd z (by simpa using e)
    .exact z
   let#[c,f]:=ZP d
   exact#[c,by simp [LL,e,f]]
noncomputable def σ0(k:Nat)(js:Μ)(σ:L2.St):L2.St:=CC k none++js.map λj=>(σ[j]?).join
def wV(k:Nat)(js:Μ)(g:TG)(te:TE)(σ:L2.St)(Q:VK)(J:It)(H1:Hp):Prop:=∃W:Nat->Nat->Β->L2.St->Hp->Prop,(∃m,W 0 m [] (σ0 k js σ) H1)/\∀i m ys c H,W i m ys c H->
 (J.stop i H/\∀p,H p=none->Q (-p) (Ot H p (.lst ys)))\/(J.go i H/\ys.length<ζ/\∀x H',J.yld i H x H'->g x c H' λa d=>∃N:V->Hp->Prop,(∀v H3,N v H3->∃m',m'<m/\W (i+1) m' (ys++[v]) a H3)/\te a d N)
def mt(k:Nat)(js:Μ)(a:TI)(g:TG)(te:TE):TE:=λσ H Q=>a σ H (wV k js g te σ Q)
def rX{p a j:Φ}{it q:Γ}{env:Env}(I:Nat->Θ->Prop)
  (turn:∀n s,I n s->ε (model prog w) A (pyNext it) (λr d=>match r with
   |none=>R (.ok .next) d
   | some v=>ε (model prog w) A (letOwnedTupleGo a it v) (λ_ c=>ε (model prog w) A (assign a env v) (λ_ g=>ε (model prog w) A (eval p env) (λx i=>
     ε (model prog w) A (call (.builtin "list.append") [q,x]) (λ_ f=>∃m,m<n/\I m f) (λ_ _=>False) i)
     (λ_ _=>False) g) (λ_ _=>False) c) (λ_ _=>False) d) (λ_ _=>False) s)
  (n:Nat)(h:I n s):
  codeAny (model prog w) A (.compLoop (.ListComp p [#[a,j,[],(0)]] e pos) 0 it q env) R s:=by
 refine codeAny_loop Z I (λn s z=>?_) n h
 show ε _ _ ((compTurn (.ListComp p [#[a,j,[],(0)]] e pos) 0 it q env).onRaise (λx=>do noteFrame x env;theTreesLotGoes x)) _ _ s
 refine wpAny_noted ?_
 rw[compTurn_list1];refine JH (L5 (JH (Lg (turn n s z) (λr d l=>?_) λ_ _ h'=>h'.elim)))
 cases r with
 |none=>exact JP l
 |some v=>
  refine JH (Lg l (λ_ c o=>?_) λ_ _ h'=>h'.elim)
  exact JH (Lg o (λ_ g y=>JH (JH (Lg y (λx i u=>JH (Lg u
   (λ_ f t=>JP (JP #[Z,t])) λ_ _ h'=>h'.elim)) λ_ _ h'=>h'.elim))) λ_ _ h'=>h'.elim)
structure Um(X:Cx)(tx:Oo)(H:Hp)(C:Δ):Prop where
 free:H C=none
 loc:C≠X.env.locals
 new:X.s₀.heap.objs.size<=C
 cell:∀x c,X.env.cells.lookup x=↑c->c≠C
 pin:∀p∈X.pn++tx,p.1≠C
abbrev _root_.hL(X:Cx)(l:List (Str×_)):=∀y c,l.lookup y=↑c->X.env.cells.lookup y=↑c
def CM{cl:List (Str×Δ)}{fr own:Α}{K:Hp}{B:Η}{tn:Nat->Ψ->Prop}{A:Ψ}{g:Nat}
  (r:hL X cl)(W:cl.map (·.1)=fr)(S:Pa X a fr js)(f:L2.Ov X tx σ K d)(T:Rq X.prog X.w X.K tg J B it tn)(a0:tn 0 d.heap)(f2:∀b∈B,ao X tx K b)
  (hC:g=d.heap.objs.size+1)(G:∀b o,d.heap.get? b=↑o->A.get? b=↑o)(I:A.Ns g m):
  (∀b∈B,b<d.heap.objs.size)/\L2.Ov (Qy X (own++fr) a cl g d K B) [] (σ0 own.length js σ) K {d with heap:=A,toks:=d.toks+([]:List (Str×Γ)).length}/\d.heap.objs.size∉Qz X.stack/\(∀x c,cl.lookup x=↑c->c≠d.heap.objs.size)/\
  ∀{H':Hp} {pl:Oo},(∀b∈B,H' b=none)->(∀p∈pl,p.1=d.heap.objs.size)->∀b∈B,ao (Qy X (own++fr) a cl g d K B) pl H' b:=by
 have t:∀b,b<d.heap.objs.size->b≠g/\b≠d.heap.objs.size:=λb h=>#[by rw[hC];exact J4 (MN h),J4 h]
 let Y:Cx:=Qy X (own++fr) a cl g d K B
 have w:∀b∈B,b<d.heap.objs.size:=λb h=>by let#[o,e,_]:=T.obj _ _ a0 b h;exact JS e
 have R:(Qy X (own++fr) a cl g d K B).Ok:=by
  refine#[f.ok.mod,S.kind,f.ok.glob,f.ok.blt,by show d.heap.objs.size<=g;lia,?_,?_,?_,f.ok.hd,f.ok.frames,.inl Z,?_,f.bs,Lc f.ok.bsz f.sz,?_,?_,f.stack,f.stkFree]
  .exactλx y c e1 e2=>f.ok.inj x y c (r x c e1) (r y c e2)
  .intro x hx
   have a2:(relabel a X.env).names.lookup x=some .cell\/(relabel a X.env).names.lookup x=some .free:=hx
   have hm:∃k,(x,k)∈a.names/\k= .free:=by
    have P:∀kk:NameKind,(kk= .cell\/kk= .free)->(relabel a X.env).names.lookup x=↑kk->∃k,(x,k)∈a.names/\k= .free:=by
     intro kk hk el;let#[#[n,k],s,e]:=J7.mp (MJ el)
     dsimp only at e
     split at e
     .rename_i E
      cases e;exists k,s
      simp only[Lz,LN]at E;exact E.1.1
     .cases e
      rcases hk with z|z
      .subst z;exact absurd Z (S.nocell _ s)
      .exact#[_,s,z]
    rcases a2 with z|z
    .exact P _ (.inl Z) z
    .exact P _ (.inr Z) z
   let#[k,s,hk]:=hm;exact ZP (l:=cl) (by rw[W];exact S.free _ s hk)
  .exactλx c e _=>nomatch e
  .refineλb h=>#[?_,λx c e=>(f2 b h).2.2.2.2.1 x c (r x c e)]
   show b≠g
   exact(t b (w b h)).1
  .intro b o e h
   rcases(f2 b h).2.2.2.1 with z|z
   .exact f.ok.noex b o e z
   .exact absurd (Ll (JS e) (Lc f.ok.bsz z)) (LC _)
  .intro b h hf
   rcases JO.mp (f.stkSub b hf)with z|z
   .exact(f2 b h).2.1 z
   .exact(f2 b h).2.2.1 z
 have L:(σ0 own.length js σ).length=(own++fr).length:=by unfold σ0;simp [S.len]
 have IY:Ov Y [] (σ0 own.length js σ) K {d with heap:=A,toks:=d.toks+([]:List (Str×Γ)).length}:=by
  refine#[R,Z,f.bare,Un.kept G,#[_,I,?_],?_,?_,?_,λp hp=>absurd (show p∈([]:Oo)from hp) (by simp),f.hok.kept G,L]
  .intro i x v hN F _
   have N:(own++fr)[i]? =↑x:=hN
   unfold σ0 at F
   by_cases O:i<own.length
   .rw[L6 (by simpa using O),Kh]at F
    split at F<;>cases F
   .rw[LV (by simpa using KH O),Nx,JW]at F
    rw[LV (KH O)]at N;cases ej:js[i-own.length]? with
    |none=>rw[ej]at F;cases F
    |some j=>
     rw[ej]at F;have a3:σ[j]? =↑(↑v):=by
      have H:(σ[j]?).join=↑v:=Lb F
      cases q:σ[j]? with
      |none=>rw[q]at H;cases H
      |some o=>rw[q]at H;have:o=↑v:=H;rw[this]
     let#[a5,hk,b0]:=S.at_ _ j x ej N;let#[m,hn,hl]:=f.loc;let#[u,ru,lk]:=hl j x v a5 a3 (.inr (.inl hk))
     refine#[u,ru,.inr ?_]
     rcases lk with⟨k1,_⟩|⟨_,c,ec,ic⟩
     .rw[hk]at k1;cases k1
     .let#[c',Q]:=ZP (y:=x) (l:=cl) (by rw[W];exact JU N)
      have:c'=c:=by have:=r x c' Q;rw[ec]at this;exact(Lb this).symm
      subst this;exists ?_,c',Q
      .show(relabel a X.env).names.lookup x=some .cell\/(relabel a X.env).names.lookup x=some .free
       exact .inl b0
      .let#[oc,C,hd]:=ic
       exact#[oc,G _ _ C,hd]
  .intro x c e
   let#[v,oc,C,hd]:=f.cell x c (r x c e)
   exact#[v,oc,G _ _ C,hd]
  .exact f.hok.fresh (by show d.heap.objs.size<=g;lia)
  .exactλx c e=>f.freeC x c (r x c e)
 have M:d.heap.objs.size∉Qz X.stack:=λhf=>by
  rcases JO.mp (f.stkSub _ hf)with z|z
  .exact absurd (by rw[<- z];exact JL _:d.heap.objs.size<=X.env.locals) (Nat.not_le.mpr f.lt)
  .exact f.nofs (JL _) z
 have D:∀x c,cl.lookup x=↑c->c≠d.heap.objs.size:=λx c e z=>by
  let#[v,oc,C,_]:=f.cell x c (r x c e)
  exact absurd (JS C) (by rw[z];exact LC _)
 have a4:∀{H':Hp} {pl:Oo},(∀b∈B,H' b=none)->(∀p∈pl,p.1=d.heap.objs.size)->∀b∈B,ao Y pl H' b:=λ{H' pl} hn hp b h=>
  #[hn b h,(t b (w b h)).1,R.exfs b h,.inl h,λx c e=>(f2 b h).2.2.2.2.1 x c (r x c e),λp a1=>by
   have U:p∈pl:=by simpa [Y,Qy]using a1
   rw[hp p U];exact Ne.symm (t b (w b h)).2]
 exact#[w,IY,M,D,a4]
def Di{cl:List (Str×Δ)}{K:L2.St}{F:Η}{g:Nat}(r:L2.Ov X tx σ D d)(f2:∀b∈F,ao X tx D b)(H:g=d.heap.objs.size+1)
  (s:L2.Ov (Qy X N j cl g d D F) pl K m y)(a:m d.heap.objs.size=none)(E:OI X.prog X.w (Ot m d.heap.objs.size w) y.heap d.heap.objs.size w):L2.Ov X tx σ (Ot m d.heap.objs.size w) y/\Um X tx (Ot m d.heap.objs.size w) g:=by
 have l:∀b,b<d.heap.objs.size->b≠g/\b≠d.heap.objs.size:=λb f=>#[by rw[H];exact J4 (MN f),J4 f]
 have C:d.heap.objs.size≠g:=by lia
 have B:=s.base;have G:m g=none:=s.free
 exists ?_
 .refine r.call' (s':=y) (ch:=F) s.os #[B.keep,B.slot,λb o e n I=>?_,B.there,λb xs e=>?_,λb o u e=>?_,λb ps e=>?_] ?_ s.bare ?_
  .rw[qk (l b (JS e)).2];exact B.free b o e n I
  .have i:=B.tups b xs e
   rw[qk (qr i a)];exact i
  .have i:=B.frzs b o u e
   rw[qk (qr i a)];exact i
  .let#[t,i]:=B.tbls b ps e
   exact#[t,by rw[qk (qr i a)];exact i]
  .intro b u e
   by_cases f:b=d.heap.objs.size
   .subst f
    rw[qb]at e;cases e
    exact E
   .rw[qk f]at e
    exact(s.hok b u e).stay (λc v _ q=>q) (λc q=>by rw[qk (qr q a)];exact q) λc xs q=>by rw[qk (qr q a)];exact q
  .exactλb f=>#[(f2 b f).2.2.2.1,(f2 b f).2.1,(f2 b f).2.2.2.2.1,(f2 b f).2.2.2.2.2]
 .have h:d.heap.objs.size<=g:=by lia
  refine#[by rw[qk (Ne.symm C)];exact G,?_,Lc r.sz h,λx c e z=>?_,λp J z=>?_]
  .exact LB (Ll r.lt h)
  .let#[v,oc,A,_]:=r.cell x c e
   exact absurd (Ll (JS A) h) (by rw[z];exact LC _)
  .exact absurd (Ll (JS (r.pin p J).1) h) (by rw[z];exact LC _)
def pz{α:Type}{ex:Φ}{f0:Ι}{d:Scope}{cl:List (Str×Δ)}{pos:Pos}{fr own:Α}{use:Option (Γ->Sem Unit)}{Post:Om}
  {s:Θ}{H:Hp}{Q:VK}{new:Sem Γ}
  (a0:α)(Raw:α->Obj->Prop)(sz:α->Nat)(ob:Δ->α->HO)(B:α->(α->Hp->Prop)->L2.St->Hp->Prop)(Body:Δ->Env->(Θ->Prop)->Θ->Prop)
  (hc:X.calm=true)(hi:PI X tg D wi)(b2:closureFor d X.env=pure cl)(d8:hL X cl)(e6:cl.map (·.1)=fr)
  (S:Pa X d fr js)(hg:∀C s H fp,PG (Qy X (own++fr) d cl C s H fp) tg g)(hs:∀x,foldedSetIterable D X.env x=pure x)
  (e0:clausesOf ex=[#[tg,D,f0,(0)]])(d2:∀{R:Om} {s:Θ},R (-s.heap.objs.size) {s with heap:=s.heap.push o0}->ε (model X.prog X.w) X.A new R X.xe s)
  (d0:Raw a0 o0)(f1:sz a0=0)(f6:o0.isFreed=false)(E:∀{a o},Raw a o->∀v:Ν,o.data≠ .cell v)
  (b6:∀{it:Γ} {j:Δ} {env:Env} {R:Result->Θ->Prop} {s:Θ} (I:Nat->Θ->Prop) (_:∀n s,I n s->ε (model X.prog X.w) X.A (pyNext it) (λr a3=>match r with
   |none=>R (.ok .next) a3
   | some v=>ε (model X.prog X.w) X.A (letOwnedTupleGo tg it v) (λ_ b5=>ε (model X.prog X.w) X.A (assign tg env v) (λ_ d5=>Body j env (λs'=>∃m,m<n/\I m s') d5)
     (λ_ _=>False) b5) (λ_ _=>False) a3) (λ_ _=>False) s) (n:Nat) (_:I n s),codeAny (model X.prog X.w) X.A (.compLoop ex 0 it (-j) env) R s)
  (a2:∀{it j env} {R:Result->Θ->Prop} {s:Θ},codeAny (model X.prog X.w) X.A (.compLoop ex 0 it j env) R s->ε (model X.prog X.w) X.A (pyIter it) (λe2 s'=>codeAny (model X.prog X.w) X.A (.compLoop ex 0 e2 j env) R s') (notedBy (model X.prog X.w) X.A env λx s'=>R (.error x) s') s->codeAny (model X.prog X.w) X.A (.compStart ex 0 it j env) R s)
  (e5:∀{H:Hp} {h:Ψ} {a o b},Raw a o->sz a<=ζ->h.get? b=↑o->(b==sysModules)=false->OI X.prog X.w (Ot H b (ob b a)) h b (ob b a))
  (b1:∀{C s H fp pl F H' s' b a o N} {G:α->Hp->Prop},L2.Ov (Qy X (own++fr) d cl C s H fp) pl F H' s'->s'.heap.get? b=↑o->(∀{t H'' s''},L2.Ov (Qy X (own++fr) d cl C s H fp) pl t H'' s''->s''.heap.get? b=↑o)->Raw a o->sz a<ζ->B a G F H'->
   (∀{a' o' s'' H'' h' tk},L2.Ov (Qy X (own++fr) d cl C s H fp) pl F H'' s''->Raw a' o'->sz a'<=sz a+1->(∀c,c≠b->h'.get? c=s''.heap.get? c)->h'.get? b=↑o'->G a' H''->N {s'' with heap:=h',toks:=tk})->Body b (compEnvC d cl C X.env) N s')
  (I:L2.Ov X tx σ H s)
  (h:wi σ H λJ H1=>∃W:Nat->Nat->α->L2.St->Hp->Prop,(∃m,W 0 m a0 (σ0 own.length js σ) H1)/\∀i m a F H,W i m a F H->(J.stop i H/\∀p,H p=none->Q (-p) (Ot H p (ob p a)))\/
   (J.go i H/\sz a<ζ/\∀x H',J.yld i H x H'->g x F H' λd7 H2=>B a (λa' H3=>∃m',m'<m/\W (i+1) m' a' d7 H3) d7 H2))
  (c0:∀(j C:Δ) (s5:Θ) (H':Hp) (m:On),L2.Ov X tx σ H' s5->s5.heap.Ns C m->Um X tx H' C->Q (-j) H'->compPost (model X.prog X.w) X.A X.xe use Post (-j) C (.ok .next) s5):
  ε (model X.prog X.w) X.A (comprehension ex d X.env pos new false (eval D X.env) use) Post X.xe s:=by
 refine wpAny_comprehension_free (use:=use) e0 hs b2 S.kind S.names (qG (hi tx s σ H _ I h) λv s1 h1=>qG h1 λf7 w h2=>?_)
 let#[it,fp,tn,J,H2,e,I2,T,c2,f2,W,#[m0,w0],turn]:=h2;subst e;refine d2 (wpAny_newFunctionEnv S.nocell (by intro y hy;simp at hy) (λM l f=>?_) S.kind)
 dsimp only at l f⊢
 generalize hH2:w.heap.push o0=G at l f⊢
 have hC:G.objs.size=w.heap.objs.size+1:=by rw[<- hH2,LJ]
 have a1:w.heap.objs.size≠G.objs.size:=by rw[hC];exact J4 (LU _)
 have P:∀b,b<w.heap.objs.size->b≠G.objs.size/\b≠w.heap.objs.size:=λb A=>#[by rw[hC];exact J4 (MN A),J4 A]
 have c5:∀b o,w.heap.get? b=↑o->M.get? b=↑o:=λb o e=>f.extBut b o (P b (JS e)).1 (JR _ (hH2▸JR _ e))
 have a5:M.get? w.heap.objs.size=↑o0:=f.extBut _ _ a1 (JR _ (hH2▸J2 _ f6))
 let Y:Cx:=Qy X (own++fr) d cl G.objs.size w H2 fp
 let#[d3,IY,K,U,b3]:=CM (own:=own) (js:=js) d8 e6 S I2 T c2 f2 hC c5 l
 have a4:∀q:Θ,Ov Y [] (σ0 own.length js σ) H2 q->tn 0 q.heap->q.heap.get? w.heap.objs.size=↑o0->
   codeAny (model X.prog X.w) X.A (.compLoop ex 0 (-it) (-w.heap.objs.size) (compEnvC d cl G.objs.size X.env))
    (compPost (model X.prog X.w) X.A X.xe use Post (-w.heap.objs.size) G.objs.size) q:=by
  intro q I3 e9 d9;refine b6 (λn s'=>∃i a F H' o,Ov Y [(w.heap.objs.size,o)] F H' s'/\tn i s'.heap/\(∀b∈fp,H' b=none)/\Raw a o/\sz a<=ζ/\W i n a F H') ?_ m0 ?_
  .rintro n s4 ⟨i,a,F,H4,o,I4,c1,d1,c4,hz,w4⟩
   rcases turn i n a F H4 w4 with⟨d6,qn⟩|⟨go,c6,step⟩
   .refine qG (T.done Y Z Z Z hc i _ s4 F H4 _ I4 (b3 d1 (by simp)) c1 d6) λr s5 zq=>?_
    let#[hr,I5]:=zq;subst hr
    show compPost _ _ _ _ _ _ _ _ _
    let#[m5,f3,_]:=I5.loc;have O:=I5.pin (w.heap.objs.size,o) (by simp [Y,Qy])
    let#[z1,z2]:=Di I2 f2 hC I5 O.2.1 (e5 c4 hz O.1 (Mj (LB (KL ⋯ (I2.mod.glob.keeps I2.bk).lt))))
    exact c0 _ _ s5 _ m5 z1 f3 z2 (qn _ O.2.1)
   .refine qG (T.item Y Z Z Z hc i _ s4 F H4 _ I4 (b3 d1 (by simp)) c1 go) λr s5 zq=>?_
    let#[u,hr,h5]:=zq;subst hr;refine qG h5 λ_ s6 zq=>?_
    let#[x,H6,I6,r6,y6,b7,e3]:=zq;have I6':=I6.pinned (b3 e3 (by simp)) (T.obj _ _ b7)
    refine qG (hg _ _ _ _ _ s6 F H6 x u _ I6' r6 (step x H6 y6)) λ_ s7 zq=>?_
    let#[e1,H7,I7,q7]:=zq;refine b1 I7 (I7.pin (w.heap.objs.size,o) (by simp [Qy])).1 (λI=>(I.pin (w.heap.objs.size,o) (by simp [Qy])).1) c4 c6 q7 λ{a' o' s8 H8 h' tk} I8 d4 e4 c3 f4 g8=>?_
    let#[m',f5,w8]:=g8;have b0:=I8.pin (w.heap.objs.size,o) (by simp [Qy])
    have L:∀b∈fp,∀o,s6.heap.get? b=↑o->s8.heap.get? b=↑o/\H8 b=none:=λb A o e=>by
     have:=I8.pin (b,o) (LS _ (LS _ (fW A e)))
     exact#[this.1,this.2.1]
    have I9:=(I8.pins_of (pins':=[]) (by simp)).turned (t':=tk) (it:=w.heap.objs.size) (λb o A e=>(c3 b A).trans e) b0.2.1 a1 (.inr (JL _)) (λx c e=>U x c e) (λp hp=>absurd (show p∈([]:Oo)from by simpa [Y,Qy]using hp) (by simp))
    refine#[m',f5,i+1,a',e1,H8,o',I9.pins_of ?_,T.keep _ _ _ b7 λb A o e=>(c3 b (P b (d3 b A)).2).trans (L b A o e).1,λb A=>?_,d4,Lc e4 c6,w8]
    .intro p hp
     rw[JN.mp hp]
     exact#[f4,b0.2.1,a1,K,λv z=>E d4 v z]
    .let#[o,e,_]:=T.obj _ _ b7 b A
     exact(L b A o e).2
  .refine#[(0),a0,σ0 own.length js σ,H2,o0,I3.pins_of ?_,e9,λb A=>(f2 b A).1,d0,f1▸Li _,w0]
   intro p hp;rw[JN.mp hp]
   exact#[d9,I2.hok.fresh (JL _),a1,K,λv z=>E d0 v z]
 have b4:tn 0 M:=T.keep _ _ _ c2 λb _ o e=>c5 b o e
 exact a2 (a4 _ IY b4 a5) (T.self _ 0 _ _ _ b4 (a4 _ IY b4 a5))
def mX(ys:Β)(o:Obj):Prop:=∃a k,OB ys a/\o={cls:= .type "list",data:= .seq a.toArray k}
def tP{prog:Ξ}{w:Ω}{b:Δ}{s:Θ}{N:Θ->Prop}(r:mX ys o)(hb:s.heap.get? b=↑o)(hl:ys.length<ζ)(g:Oz x v)
  (hN:∀{o' h'},mX (ys++[x]) o'->(∀c,c≠b->h'.get? c=s.heap.get? c)->h'.get? b=↑o'->N {s with heap:=h'}):ε (model prog w) A (call (.builtin "list.append") [-b,v]) (λ_=>N) E s:=by
 let#[d,k,f,rfl]:=r;refine wpAny_list_append_plain (items:=d.toArray) #[k,hb] (λh' a e=>?_) (by have:=f.length;simp;lia)
 let#[k',a]:=a;rw[show d.toArray.push v=(d++[v]).toArray by simp]at a
 exact hN #[_,k',f.append (.cons g .nil),Z] e.2 a
def uX{h:Ψ}{b:Δ}(r:mX ys o)(d:ys.length<=ζ)(hb:h.get? b=↑o):OI P w (Ot H b (.lst ys)) h b (.lst ys):=by
 let#[a,k,c,rfl]:=r
 exact#[d,a,k,c,hb]
def oG(r:mX ys o)(v:Ν):o.data≠ .cell v:=λz=>by
 let#[_,_,_,rfl]:=r;cases z
def sG{d:Scope}{cl:List (Str×Δ)}{w:Pos}{fr own:Α}{K:TI}{use:Option (Γ->Sem Unit)}{Post:Om}
  {s:Θ}{H:Hp}
  (hc:X.calm=true)(hi:PI X tg f K)(j:closureFor d X.env=pure cl)(B:hL X cl)(F:cl.map (·.1)=fr)
  (S:Pa X d fr js)
  (hg:∀C s H A,PG (Qy X (own++fr) d cl C s H A) tg g)(he:∀C s H A,PE (Qy X (own++fr) d cl C s H A) l te)
  (hs:∀x,foldedSetIterable f X.env x=pure x)
  (I:L2.Ov X tx σ H s)(h:mt own.length js K g te σ H Q)
  (p:∀(i C:Δ) (E:Θ) (H':Hp) (m:On),L2.Ov X tx σ H' E->E.heap.Ns C m->Um X tx H' C->Q (-i) H'->compPost (model X.prog X.w) X.A X.xe use Post (-i) C (.ok .next) E):
  ε (model X.prog X.w) X.A (comprehension (.ListComp l [#[tg,f,[],(0)]] d pos) d X.env w (newList []) false (eval f X.env) use) Post X.xe s:=
 pz (α:=Β) [] mX List.length (λ_=> .lst) (λys G D H=>∃N:V->Hp->Prop,(∀v H3,N v H3->G (ys++[v]) H3)/\te D H N)
  (λi env N s=>ε (model X.prog X.w) X.A (eval l env) (λx u=>ε (model X.prog X.w) X.A (call (.builtin "list.append") [-i,x]) (λ_=>N) (λ_ _=>False) u) (λ_ _=>False) s)
  hc hi j B F S hg hs Z (λh=>LH h) #[[],(0),.nil,Z] Z Z oG (λI t n h=>rX I t n h) codeAny_compStart_list (λr z e _=>uX r z e)
  (λ{C s H A W D H' s' b a o N G} I _ M r T q k=>qG (he _ _ _ _ _ s' D H' _ I q.choose_spec.2) λv s8 P=>by
   let#[y,Y,J,O,U]:=P;exact tP r (M J) T O λL h1 R=>k J L (by simp) h1 R (q.choose_spec.1 _ _ U))
  I h p
def E5{a:Scope}{cl:List (Str×Δ)}{fr own:Α}
  (hc:X.calm=true)(hi:PI X tg d u)(f:closureFor a X.env=pure cl)(l:hL X cl)(r:cl.map (·.1)=fr)
  (S:Pa X a fr js)
  (hg:∀C s H t,PG (Qy X (own++fr) a cl C s H t) tg g)(he:∀C s H t,PE (Qy X (own++fr) a cl C s H t) i te)
  (hs:∀x,foldedSetIterable d X.env x=pure x:=by intro _;rfl):
  PE X (.ListComp i [#[tg,d,[],(0)]] a pos) (mt own.length js u g te):=by
 intro tx s σ H Q I h;rw[eval_ListComp];refine sG (use:=none) hc hi f l r S hg he hs I h λn C v H' m A w j q=>?_
 exact#[m,w,λh' p=>#[-n,H',A.turned (t':=v.toks) (λb o z e=>(p.2 b z).trans e) j.free j.loc (.inr j.new) j.cell j.pin,Z,q]]
def E8{d:Scope}{cl:List (Str×Δ)}{l:Pos}{fr own:Α}{K:TI}{i:Nat}{y:Str}
  (hN:X.N.Nodup)(A:X.N[i]? =↑y)(hx:lD X.env.scope y)
  (hc:X.calm=true)(hi:PI X tg f K)(n:closureFor d X.env=pure cl)(u:hL X cl)(G:cl.map (·.1)=fr)
  (S:Pa X d fr js)
  (hg:∀C s H J,PG (Qy X (own++fr) d cl C s H J) tg g)(he:∀C s H J,PE (Qy X (own++fr) d cl C s H J) j te)
  (hs:∀x,foldedSetIterable f X.env x=pure x:=by intro _;rfl)(F:swapsWith (.ListComp j [#[tg,f,[],(0)]] d pos) ↑(.Name y r) l.line X.env=pure true:=by rfl)
  (hf:hO X y:=by first|exact .inl Z|exact .inr Z|assumption):
  PS X (.Assign [.Name y r] (.ListComp j [#[tg,f,[],(0)]] d pos) l) (nv (mt own.length js K g te) (aR i)):=by
 intro tx s σ H D I h;rw[exec_Assign_Name_used _ _ _ _ F];refine JH (L5 (JH ?_))
 show ε _ X.A (do let _ <- comprehension (.ListComp j [#[tg,f,[],(0)]] d pos) d X.env _ (newList []) false (eval f X.env) ↑(assign (.Name y r) X.env)) _ _ s
 refine JH (Lg (sG (use:=↑(assign (.Name y r) X.env)) (Post:=λ_ s'=>SP X tx D .next s') hc hi n u G S hg he hs I h ?_) (λ_ s' L=>JP (JP L)) λ_ _ e=>e)
 intro t C U H' m P M p q
 show ε _ X.A (assign (.Name y r) X.env (-t)) _ _ _
 refine wpAny_assign_Name (oY (v:= .ref t) P hN A hx Z (λR T Q=>?_) hf)
 let#[a,w,O]:=Q;have E:C≠a:=by
  rcases O with z|z
  .rw[z];exact p.loc
  .exact Ne.symm (p.cell _ _ z)
 refine#[m,M.sameBut w E,λh' B=>?_]
 exact#[_,H',T.turned (t':=R.toks) (λb o N e=>(B.2 b N).trans e) p.free p.loc (.inr p.new) p.cell p.pin,q]
section
variable{K:ι}
noncomputable abbrev Q1(js:Μ)(σ:L2.St):L2.St:=js.map λj=>(σ[j]?).join
abbrev bH(J:It)(js:Μ)(te:TE)(σ:L2.St)(H1:Hp)(Q:VK):Prop:=wV 1 js (aR 0) te σ Q J H1
def gI{J:It}{n:Nat}(hn:n<=ζ)(c:Nat->V->Prop)(Pv:Nat->Β->Hp->Prop)(h:Pv 0 [] H)(f:∀i ys H,i<n->Pv i ys H->J.go i H)(hst:∀ys H,Pv n ys H->J.stop n H)
  (l:∀i ys H x H',i<n->Pv i ys H->J.yld i H x H'->H'=H/\c i x)
  (hs:∀i ys H x,i<n->ys.length=i->Pv i ys H->c i x->te (↑x::Q1 js σ) H λv H3=>Pv (i+1) (ys++[v]) H3)
  (hd:∀ys H,ys.length=n->Pv n ys H->∀p,H p=none->Q (-p) (Ot H p (.lst ys))):bH J js te σ H Q:=by
 exists λi m ys g H=>m=n-i/\i<=n/\ys.length=i/\Pv i ys H/\∃o,g=o::Q1 js σ,#[n,by simp,Li _,Z,h,none,Z]
 rintro i m ys g H ⟨rfl,hi,d,p,o,rfl⟩
 by_cases a:i<n
 .refine .inr #[f i ys H a p,by lia,λx H' y=>?_]
  let#[e,q]:=l i ys H x H' a p y;subst e
  exact#[λv H3=>Pv (i+1) (ys++[v]) H3,λv H3 j=>#[n-(i+1),gN a,Z,a,by simp [d],j,0],hs i ys _ x a d p q]
 .have e:i=n:=by lia
  subst e;exact .inl #[hst ys H p,hd ys H d p]
def dw{xs:Β}(hn:xs.length<=ζ)(Pv:Nat->Β->Hp->Prop)(c:Pv 0 [] H)(hl:∀i ys H,Pv i ys H->OA K H a xs)
  (hs:∀i ys H x,xs[i]? =↑x->ys.length=i->Pv i ys H->te (↑x::Q1 js σ) H λv H3=>Pv (i+1) (ys++[v]) H3)
  (hd:∀ys H,ys.length=xs.length->Pv xs.length ys H->∀p,H p=none->Q (-p) (Ot H p (.lst ys))):bH (ji K a) js te σ H Q:=
 gI hn (λi x=>xs[i]? =↑x) Pv c (λi ys H hi p=>#[xs,xs[i],hl _ _ _ p,by simp [hi]]) (λys H p=>#[xs,hl _ _ _ p,JL _]) (λi ys H x H' _ p y=>#[y.1,y.2 xs (hl _ _ _ p)]) (λi ys H x _ hl p d=>hs i ys H x d hl p) hd
def fV{xs:Β}(hn:xs.length<=ζ)(Pv:Nat->Β->Hp->Prop)(c:Pv 0 [] H)(hl:∀i ys H,Pv i ys H->OC K H a xs)
  (hs:∀i ys H x,xs[i]? =↑x->ys.length=i->Pv i ys H->te (↑x::Q1 js σ) H λv H3=>Pv (i+1) (ys++[v]) H3)
  (hd:∀ys H,ys.length=xs.length->Pv xs.length ys H->∀p,H p=none->Q (-p) (Ot H p (.lst ys))):bH (i7 K a) js te σ H Q:=
 gI hn (λi x=>xs[i]? =↑x) Pv c (λi ys H hi p=>#[xs,xs[i],hl _ _ _ p,by simp [hi]]) (λys H p=>#[xs,hl _ _ _ p,JL _]) (λi ys H x H' _ p y=>#[y.1,y.2 xs (hl _ _ _ p)]) (λi ys H x _ hl p d=>hs i ys H x d hl p) hd
def mK{lo:Int}{n:Nat}(hn:n<=ζ)(Pv:Nat->Β->Hp->Prop)(a:Pv 0 [] H)
  (hs:∀i ys H,i<n->ys.length=i->Pv i ys H->te (↑(.int (lo+i))::Q1 js σ) H λv H3=>Pv (i+1) (ys++[v]) H3)
  (hd:∀ys H,ys.length=n->Pv n ys H->∀p,H p=none->Q (-p) (Ot H p (.lst ys))):bH (uC lo n) js te σ H Q:=
 gI hn (λi x=>x= .int (lo+i)) Pv a (λi ys H hi p=>hi) (λys H p=>JL _) (λi ys H x H' _ p y=>y) (λi ys H x hi d p c=>by subst c;exact hs i ys H hi d p) hd
end
def jA{h':Ψ}{t':Nat}{ch:Η}{a:Δ}{xs:Β}(I:L2.Ov X tx σ H s)(k:∀b o,b∉ch->s.heap.get? b=↑o->h'.get? b=↑o)(d:∀b∈ch,ao X tx H b)
  (ho:∀b∈ch,∃o,h'.get? b=↑o)(ha:s.heap.objs.size<=a)(l:xs.length<=ζ)(hv:OB xs its)(p:IsTup h' a its.toArray):L2.Ov X tx σ (Ot H a (.tup xs)) {s with heap:=h',toks:=t'}:=by
 have h:H a=none:=I.hok.fresh ha
 have j:∀b o,s.heap.get? b=↑o->b≠a:=λb o e=>J4 (Ll (JS e) ha)
 have i:∀b u,H b=↑u->b∉ch:=λb u e z=>by rw[(d b z).1]at e;cases e
 refine I.step (g':=s.gens) (d':=s.drawn) (ch:=ch) (λb f=>#[(d b f).2.2.2.1,(d b f).2.1,(d b f).2.2.2.2.1,(d b f).2.2.2.2.2]) (λb o _ _ g e _=>k b o g e) (λb o _ _ g e _=>#[o.slots,k b o g e])
  (λb o _ e n=>by rw[qk (j b o e)];exact n) (λb o g e=>#[o,k b o g e]) (λb ys e=>by rw[qk (qr e h)];exact e) (λb o u e=>by rw[qk (qr e h)];exact e)
  (λb ps e=>#[(B0 []),by rw[qk (qr e h),e];simp]) (λm w=>?_) (λb u e=>?_) I.bare
 .let#[o,es,t,ho,r]:=w
  exact#[o,es,t,k _ o (λz=>(d _ z).2.1 Z) ho,r]
 .by_cases f:b=a
  .subst f
   rw[qb]at e;cases e
   exact#[l,its,hv,p]
  .rw[qk f]at e
   refine(I.hok b u e).stay (λc v g q=>k c v ?_ q) (λc q=>by rw[qk (qr q h)];exact q) λc ys q=>by rw[qk (qr q h)];exact q
   rcases g with z|z
   .rw[z];exact i b u e
   .exact i c _ z
noncomputable def vP(K:ι)(a:Δ):It:=
 #[λi H=>∃xs x,OA K H a xs/\xs[i]? =↑x,λi H x H'=>∃p v,H p=none/\x= .ref p/\(∀xs,OA K H a xs->xs[i]? =↑v)/\H'=Ot H p (.tup [.int i,v]),λi H=>∃xs,OA K H a xs/\xs.length<=i]
def pV{K:ι}{x1}(a e it:Δ)(n:e≠it):
  Rq P w K (.Tuple r x1 pos) (vP K a) [e,it] e (λi h=>(∃c,IsEnum h e it i c)/\h.IsListIter it a i) where
 mem:=by simp
 obj:=λi h st b f=>by
  let#[#[c,g],#[o,D,Q,T]]:=st;rcases JO.mp f with z|z
  .subst z
   refine#[_,g,λv z=>?_]
   have z':Sg _=Sf v:=z
   cases z'
  .rw[JN.mp z]
   exact#[o,D,λv z=>by rw[T]at z;cases z]
 keep:=λi h h' st k=>#[let⟨c,g⟩:=st.1;#[c,k e (by simp) _ g],st.2.at λo q=>k it (by simp) o q]
 item:=by
  intro X J L M Q i tx s σ H E I C st G;subst J L M;let#[xs,x,B,O]:=G;let#[its,R,p,hz]:=I.list B;let#[u,Y,W]:=R.get O;let#[#[c,g],hit]:=st;refine wpAny_pyNext_enum_item g hit p.isList (x:=u) (by simpa using Y) n λh' D m ht U hk=>#[0,?_]
  refine wpAny_letOwnedTupleGo_enum D λF l d=>?_
  have j:e<s.heap.objs.size:=JS g
  have A:it<s.heap.objs.size:=by let#[_,y,_]:=hit;exact JS y
  exists .ref s.heap.objs.size,Ot H s.heap.objs.size (.tup [.int i,x]),?_,Z,#[_,x,I.hok.fresh (JL _),Z,λys hy=>by rw[I.list_inj hy B];exact O,Z],#[#[_,by simpa using l],?_]
  .show L2.Ov X tx σ _ {s with heap:=F,toks:=s.toks+1}
   refine jA (s:=s) (its:=[.int i s.toks,u]) I (ch:=[e,it]) (λb o f q=>?_) C (λb f=>?_) (JL _) (by show 2<=ζ;decide) (.cons #[0] (.cons W .nil)) ?_
   .have t:b≠e:=λz=>f (by simp [z])
    have N:b≠it:=λz=>f (by simp [z])
    exact(d.2 b t).trans (hk b o t N q)
   .rcases JO.mp f with z|z
    .subst z;exact#[_,l]
    .rw[JN.mp z]
     let#[o,y,_]:=m
     exact#[o,(d.2 it (Ne.symm n)).trans y]
   .exact#[_,(d.2 _ (LB j)).trans ht,7]
  .exact m.extBut d.extBut (Ne.symm n)
  .intro b f
   rw[qk]
   .exact(C b f).1
   .rcases JO.mp f with z|z
    .subst z;exact J4 j
    .rw[JN.mp z];exact J4 A
 done:=by
  intro X J L M Q i tx s σ H E I C st G;subst J L M;let#[xs,B,O]:=G;let#[its,R,p,hz]:=I.list B;let#[#[c,g],hit]:=st;let#[f0,f1,f2,f3,f4,S]:=C it (by simp)
  have hl:=R.length;exact wpAny_pyNext_enum_end (I.ok.hd Q) g hit p.isList (by simp;lia) λh' eb=>#[Z,I.turned (t':=s.toks) (λb o f e=>eb b o f e) f0 f1 f3 f4 S]
 self:=λ_ _ _ _ _ st h=>by
  let#[#[c,g],_]:=st;exact M8 g h
def Eb(K:ι)(ta:TA):TI:=λσ H R=>ta σ H λc H1=>∃a,c=[-a]/\(∃xs,OA K H1 a xs)/\R (vP K a) H1
def Fh{a:Φ}{p:Pos}{x1}(hg:Gl X "enumerate")(hm:X.mg "enumerate"=none)(ha:PA X [a] ta)(hs:θ [a] X.env=[(false,eval a X.env)]:=by rfl):
  PI X (.Tuple d x1 tpos) (.Call (.Name "enumerate" p) [a] [] pos) (Eb X.K ta):=by
 intro tx s σ H R I h;refine Call_ (bQ I hg hm boot_enumerate (MH (qG (ha pos tx s σ H _ I h) λA c w=>?_) hs Z))
 let#[D,H1,g,y,x]:=w;let#[l,e,#[xs,j],q]:=x;subst e;let#[u,rfl,v]:=y.one;cases v;let#[n,C,o,B]:=g.list j;refine call_enumerate_list o.isList λh' i hit r hk=>M8 i ?_
 have t:L2.Ov X tx σ H1 {c with heap:=h'}:=g.kept (t':=c.toks) hk
 refine#[c.heap.objs.size+1,[c.heap.objs.size+1,c.heap.objs.size],8,H1,Z,t,pV l _ _ (LB (LU _)),#[#[_,i],hit],λb m=>?_,q]
 have f:c.heap.objs.size<=b:=by
  rcases JO.mp m with z|z
  .rw[z];exact Lr _
  .rw[JN.mp z];exact JL _
 exact g.fpOk f (g.hok.fresh f)
def ui{K:ι}{xs:Β}{g:TG}{tb:TS}{D:OU}{σ:L2.St}{H:Hp}(Pv:Nat->L2.St->Hp->Prop)(j:Pv 0 σ H)(hl:∀i σ H,i<=xs.length->Pv i σ H->OA K H a xs)
  (hs:∀i x σ H p,xs[i]? =↑x->Pv i σ H->H p=none->g (-p) σ (Ot H p (.tup [.int i,x])) λc h=>tb {D with nx:=Pv (i+1),ct:=Pv (i+1),bk:=D.nx} c h)(hd:∀σ H,Pv xs.length σ H->D.nx σ H):
  ∃W:Nat->Nat->L2.St->Hp->Prop,(∃m,W 0 m σ H)/\∀i m σ H,W i m σ H->
   ((vP K a).stop i H/\D.nx σ H)\/((vP K a).go i H/\∃N:L2.St->Hp->Prop,(∀f H',N f H'->∃m',m'<m/\W (i+1) m' f H')/\∀x H',(vP K a).yld i H x H'->g x σ H' λc h=>tb {D with nx:=N,ct:=N,bk:=D.nx} c h):=by
 exists λi m σ H=>m=xs.length-i/\i<=xs.length/\Pv i σ H,#[xs.length,by simp,Li _,j]
 rintro i m σ H ⟨rfl,hi,p⟩
 have q:=hl i σ H hi p
 by_cases d:i<xs.length
 .refine .inr #[#[xs,xs[i],q,by simp [d]],Pv (i+1),λf H' l=>#[xs.length-(i+1),gN d,Z,d,l],λx H' y=>?_]
  let#[n,v,o,rfl,r,rfl]:=y;exact hs i v σ H n (r xs q) p o
 .have e:i=xs.length:=by lia
  subst e;exact .inl #[#[xs,q,JL _],hd σ H p]
def Ql(t c:String):Bool:=t==c||(t=="bool"&&c=="int")
noncomputable abbrev nR:List String:=["NoneType","bool","int","str","list","tuple"]
noncomputable abbrev nK:List String:=["bool","int","str","list","tuple"]
def nG(K:ι):∀t∈nR,∀c∈nK,SR K (.type t) (.type c)=↑(Ql t c):=by
 intro t a c d;simp only[nR,nK,JO,JX,JY]at a d;rcases a with rfl|rfl|rfl|rfl|rfl|rfl<;>rcases d with rfl|rfl|rfl|rfl|rfl<;>kernel_rfl
def ud:zY X (.builtin "isinstance") (λxs H Q=>∃x c t,xs=[x,.ty c]/\Rr X.K H x (.type t)/\t∈nR/\c∈nK/\Q (.bl (Ql t c)) H):=by
 intro tx s σ H xs g Q I r h;let#[x,c,t,rfl,ty,a,f,q]:=h;let#[u,v,rfl,e,d]:=em r
 cases(show v=Γ.type c from d)
 exact Bv I e ty (nG X.K t a c f) λtk=>#[.bl _,H,I.tok tk,Z,q]
theorem gG:∀{bs:List Bool} {us:Ζ},OB (bs.map V.bl) us->us=bs.map Γ.bool
 | [],_,.nil=>rfl
 |b::bs,_,.cons r t=>by
  cases(show _=Γ.bool b from r)
  rw[gG t];rfl
def wn(bs:List Bool):((C2 bs.length).all λi=>(bs[i]?).getD true)=bs.all id:=by
 rw[Mt,L8,L8];constructor
 .intro h b c
  let#[i,hi,e]:=List.mem_iff_getElem.mp c
  have:=h i (Mq.mpr hi)
  rw[JQ hi,MO,e]at this;exact this
 .intro h i hi
  have a:=Mq.mp hi;rw[JQ a,MO];exact h _ (L9 a)
def bU(hc:X.calm=true):zY X (.builtin "all") (λxs H Q=>∃(p:Δ) (bs:List Bool),xs=[-p]/\OA X.K H p (bs.map V.bl)/\Q (.bl (bs.all id)) H):=by
 intro tx s σ H xs C Q I r h;let#[p,bs,rfl,j,q]:=h;let#[u,rfl,n]:=QU r;cases n;let#[c,m,l,B]:=I.list j;have e:=gG m;have f:=l.isList;have d:p<s.heap.objs.size:=by let#[_,e,_]:=f;exact JS e
 refine call_all_walk (MY f ?_)
 refine#[s.heap.objs.size,[s.heap.objs.size,p],[s.heap.objs.size],c.toArray.size,8,λi=>(bs[i]?).getD true,Z,Walks.list (A:=X.A.in1) (I.ok.hd hc) _ p (J4 d) c.toArray,
  #[#[_,J2 _ Z,9],f.push _],λi v s' z y x g=>?_,λh' tk hk=>?_]
 .have a:c[i]? =↑v:=by simpa using x
  rw[e,JW]at a;cases eb:bs[i]? with
  |none=>rw[eb]at a;cases a
  |some b=>
   rw[eb]at a
   cases(Lb a:Γ.bool b=v)
   simp only[eb,MO]at g;exact L4 g
 .have w:((C2 c.toArray.size).all λi=>(bs[i]?).getD true)=bs.all id:=by
   rw[J9,e,JI];exact wn bs
  rw[w];refine#[.bl _,H,I.kept (h':=h') (t':=tk) λb o q=>hk b o (λt=>?_) (JR _ q),Z,q]
  rw[JN.mp t]at q;exact LC _ (JS q)
def AW:zY X (.type "range") (λxs H Q=>∃j:Int,xs=[.int j]/\∀p,H p=none->Q (-p) (Ot H p (.rng 0 j))):=by
 intro tx s σ H xs c Q I r h;let#[j,rfl,q]:=h;let#[u,rfl,a]:=QU r;let#[t,rfl]:=a;refine call_range_1 #[-s.heap.objs.size,_,I.laid (o:= .rng 0 j) (λb o e=>JR _ e) (JL _) #[21,J2 _ Z],Z,q _ (I.hok.fresh (JL _))]
inductive U0 (x:V)(lo:Λ)(hi:Λ)(H:Hp)(Q:VK):Prop
 |mk (a:_)(xs:_)(h1:x= .ref a)(h2:H a=↑(.tup xs))(h3:∀p H',Oq H H'->H' p=↑(.tup (cg xs lo hi))->(p=a\/H p=none)->Q (-p) H')
def Jt:V->Λ->Λ->Hp->VK->Prop:=λx lo hi H Q=>U0 x lo hi H Q
def hW{prog:Ξ}{w:Ω}{A:SO}{E:Om}{s:Θ}{t d:Δ}{items:Array Γ}{i g:Γ}{lo hi:Λ}{Q:Om}(a:IsTup s.heap t items)(hs:s.heap.IsSliceOf d i g .none)(pl:IsPart i lo)(j:IsPart g hi)
  (hw:HT.sIx items.size 0 lo=0/\HT.sIx items.size items.size hi=items.size)(h:Q (-t) s):ε (model prog w) A (getItem (-t) (-d)) Q E s:=by
 let#[os,c,e,l]:=id hs;have f:s.TypeIs (-d) "slice":=#[os,c,e]
 unfold getItem
 try with_reducible refine LD ?_
 first|refine JH (JP ?_)|skip
 refine JH (wpAny_sequenceKey a.typeIs ⋯ ?_)
 refine JH (wpAny_callSpecial?_slot (name:=SV "__getitem__") a.typeIs NA
  (LK NA a.typeIs entry_tuple_getitem ?_ (args_tuple_getitem _ _)))
 show ε _ _ (γ.Tuple.tupleItemsOf (-t) >>= _) _ _ s
 refine JH (tupleItemsOf_ a ?_)
 refine JH (wpAny_typeOf f ?_)
 rw[JK ⋯]
 refine JH (HT.sliceApplied_gen hs pl j ?_)
 show ε _ _ (if(((HT.sIx items.size 0 lo:Nat):Int)==0&&(1:Int)==1&&(HT.sIx items.size items.size hi-HT.sIx items.size 0 lo)==items.size)=true then _ else _) _ _ s
 rw[hw.1,hw.2,JK (by simp)]
 refine JH (m:=γ.Tuple.tupleIsExact _) ?_
 unfold γ.Tuple.tupleIsExact;refine JH (wpAny_typeOf a.typeIs (JP ?_))
 rw[JK (by rfl)]
 exact JH (Mr (JP #[0,JP h]))
def fF:yv X Jt:=by
 intro tx s σ H x v y u lo hi w Q I i t m j h;let#[a,xs,rfl,g,q]:=h
 by_cases d:HT.sIx xs.length 0 lo=0/\HT.sIx xs.length xs.length hi=xs.length
 .cases i
  let#[f,r,l,z]:=I.tuple (OC.of g)
  have c:f.toArray.size=xs.length:=by rw[J9];exact r.length.symm
  exists "tuple",_,PyProof.Rows.slot_tuple_getitem.lookup,l.typeIs
  refine hW l t m j (by rw[c];exact d) #[-a,H,I,Z,q a H (Oq.refl H) ?_ (.inl Z)]
  have:cg xs lo hi=xs:=by unfold cg;rw[d.1,d.2];simp
  rw[this];exact g
 .exact GQ tx s σ H _ v y u lo hi w Q I i t m j #[a,xs,Z,OC.of g,d,λp n=>q p _ (λb o e=>by rw[qk (qr e n)];exact e) qb (.inr n)]
inductive UJ (x:V)(y:V)(H:Hp)(Q:VK):Prop
 |mk (a:_)(b:_)(xs:_)(ys:_)(h1:x= .ref a)(h2:y= .ref b)(h3:H a=↑(.tup xs))(h4:H b=↑(.tup ys))(h5:xs.length+ys.length<=ζ)(h6:∀p H',Oq H H'->H' p=↑(.tup (xs++ys))->Q (-p) H')
def Ib:R2:=λx y H Q=>UJ x y H Q
def oa:Qj X (binaryOp .Add) Ib:=by
 intro tx s σ H x y v u Q I t B h;let#[a,b,xs,ys,rfl,rfl,m,l,L,q]:=h
 by_cases z:xs=[]
 .subst z
  cases t;cases B;let#[F,M,J,_]:=I.tuple (OC.of m)
  let#[g,N,p2,_]:=I.tuple (OC.of l)
  cases M;let#[#[cls,dd,A,G],w,D,n,E]:=id J;let#[#[C,i,j,r],f,d,n2,c]:=id p2;simp only at D E d c
  subst D E d c;exact concat_meets #[_,w,Z] #[_,f,Z] noFill_tuple_add seq_tuple_add NU NV (NW _ _)
   (tuple_addW0 a b _ g.toArray n n2 dd i G r (by simp)) #[w,f,#[-b,H,I,Z,q b H (Oq.refl H) l]]
 .refine FF tx s σ H _ _ v u Q I t B #[a,b,xs,ys,9,OC.of m,OC.of l,z,L,λe=>q a H (Oq.refl H) (by subst e;simpa using m),λ_ p K=>q p _ (λb o e=>by rw[qk (qr e K)];exact e) qb]
def va{ns:Ε}(r:OB (ns.map V.int) us)(j:Nat)(h:j<us.length)(h':j<ns.length):∃t,us[j]=Γ.int ns[j] t:=by
 let#[u,a,c]:=r.get (i:=j) (x:=V.int ns[j]) (by rw[JW,JQ h'];rfl)
 rw[JQ h]at a;cases a;exact c
def CU(ns ms:Ε)(h:ns.length=ms.length):((C2 ns.length).all λj=>(ns.getD j 0==ms.getD j 0))=decide (ns=ms):=by
 rw[Mt,L8,Mz];constructor
 .intro q
  refine KM h λi h1 a=>?_
  have:=q i (Mq.mpr h1)
  simp only[Lj,JQ h1,JQ a,MO,LN]at this;exact this
 .rintro rfl i _
  simp
def ZH:Φ->Bool
 | .Starred .. =>false
 |_=>true
def eA{es:Ι}(h:ZH e=true):θ (e::es) env=(false,eval e env)::θ es env:=by
 cases e<;>first|rfl|cases h
def Jz(ha:PE X e te)(hr:PA X es t)(h:ZH e=true:=by rfl):PA X (e::es) (wy te t):=Fj ha hr (eA h)
structure Df(P:Ξ)(w:Ω)(K:ι)(mg:On)(base:Ψ)(x:Str)(ps:Α)(k:Nat)(sp:Sp):Prop where
 ex:∃(f:Δ) (fd:FuncData),P5 P w K mg base ci k f fd ps sp/\mg x=↑(-f)/\SX K (-f)=true/\Pn K fd ps []
structure At(K:ι)(mg:On)(x:Str)(st:δ)(ps:Α):Prop where
 ex:∃(f:Δ) (fd:FuncData),SI K x x st f fd/\mg x=↑(-f)/\SX K (-f)=true/\Pn K fd ps []
section
variable{K:ι}{k:Nat}{sp:Sp}
def At.df{x:Str}{st:δ}{ps N:Α}{k:Nat}{sp:Sp}(a:At K mg x st ps)(S:Os N ps (ql st))(d:∀vs H Q E,sp vs H Q E->vs.length=ps.length)
  (c:∀(f:Δ) (cdv:Γ) (A:SO) (outer:Ρ) (s:Θ) (H:Hp) (vs:Β) (Q:VK) (E:XK),OL k (A.deeper (envOfC x (ql st) s.heap.objs.size f cdv))->sp vs H Q E->
   ∃t,R6 (QD ci P w K mg base N x (ql st) f cdv A outer s H E).nox (Qk st) t/\t {nx:=λ_ H'=>Q .non H',rt:=Q} (Zm N vs) H):Df P w K mg base x ps (k+1) sp:=by
 let#[f,fd,F,m,g,bd]:=a.ex
 exact#[f,fd,F.ok S d (λcdv A outer s H vs Q E e h=>c f cdv A outer s H vs Q E e h),m,g,bd]
def Gc(D:Df X.prog X.w X.K X.mg X.base x ps k sp)(hr:OL k X.A)(ha:PA X (e::es) t)(hg:Gl X x:=by rfl)(hdb:hH x:=by decide)(he:hG X e es:=by rfl)(hpl:hI X es pos:=by rfl):
  PE X (.Call (.Name x p) (e::es) [] pos) (xm sp [] E0 t):=by
 let#[f,fd,ok,m,a,bd]:=D.ex;exact Fz ok hr hg m a bd .nil mM ha hdb he hpl
end
def gQ{a:Scope}(e:a.kind= .function)(d:∀x∈a.names,x.2= .local->a.names.lookup x.1=some .local)(c:∀x∈a.names,x.2≠ .cell)
  (free:∀x∈a.names,x.2= .free->x.1∈([]:Α)):Pa X a [] []:=#[e,d,c,free,Z,λi j y h=>by simp at h]
def CI{X:Cx}{a:Scope}{y:Str}{j:Nat}(e:a.kind= .function)(d:∀x∈a.names,x.2= .local->a.names.lookup x.1=some .local)(c:∀x∈a.names,x.2≠ .cell)
  (free:∀x∈a.names,x.2= .free->x.1∈([y]:Α))(h1:X.N[j]? =↑y)(h2:X.env.kindOf y=some .cell)(g:(relabel a X.env).names.lookup y=some .cell):Pa X a [y] [j]:=
 #[e,d,c,free,Z,λi l y' f h=>by
  cases i with
  |zero=>cases f;cases h;exact#[h1,h2,g]
  |succ i=>simp at f]
def DG{X:Cx}{c:Δ}(h:X.env.cells.lookup y=↑c):∀z d,([(y,c)]:List (Str×Δ)).lookup z=↑d->X.env.cells.lookup z=↑d:=λz d e=>by
 by_cases a:z=y
 .subst a
  simp at e
  rw[<- e];exact h
 .simp [LL,show(z==y)=false from by simpa using a]at e
def vU{X:Cx}{K:ι}(h:X.K=K):Ui X (DL K):=by subst h;exact qT
abbrev Dl(n m k:Int):HO:= .lst [.int n,.int m,.int k]
def _root_.L2.Oq.upd{H:Hp}(h:H p=none):Oq H (Ot H p o):=λb u e=>by rw[qk (qr e h)];exact e
def GW(c:Bool): -(2 ^ 64:Int)<(if c=true then(1:Int)else 0):=by cases c<;>decide
def FY(c:Bool):(if c=true then(1:Int)else 0)<(2 ^ 64:Int):=by cases c<;>decide
def vV{n j:Nat}(h:j<n):bS n (j:Int)=↑j:=by unfold bS;rw[JK (by lia),JK (by lia)];simp
noncomputable def nX(ns:Ε)(lo hi:Λ):Ε:=(ns.drop (HT.sIx ns.length 0 lo)).take (HT.sIx ns.length ns.length hi-HT.sIx ns.length 0 lo)
def CA(ns:Ε)(lo hi:Λ):cg (ns.map V.int) lo hi=(nX ns lo hi).map V.int:=by unfold cg nX;rw[JI,Ko,Kp]
def Cd(ns:Ε)(lo hi:Λ):(nX ns lo hi).length=min (HT.sIx ns.length ns.length hi-HT.sIx ns.length 0 lo) (ns.length-HT.sIx ns.length 0 lo):=by unfold nX;rw[LO,Nz]
def ZF{ns:Ε}{i:Nat}{x:V}(h:(ns.map V.int)[i]? =↑x):∃z,x= .int z/\ns[i]? =↑z:=by
 rw[JW]at h;cases e:ns[i]? with
 |none=>rw[e]at h;cases h
 |some z=>rw[e]at h;exact#[z,(Lb h).symm,Z]
def mU{ns:Ε}{i:Nat}(h:i<ns.length):(ns.map V.int)[i]? =↑(.int ns[i]):=by rw[JW,JQ h];rfl
def gi(ns:Ε)(i:Nat)(z:Int):(ns.map V.int).set i (.int z)=(ns.set i z).map V.int:=by rw[List.map_set]
noncomputable def Ef:Option HO->Option String
 |some (.lst _)=>↑"list"
 |some (.tup _)=>↑"tuple"
 |_=>none
noncomputable def kd(H:Hp):V->Option String
 | .non=>↑"NoneType"
 | .bl _=>↑"bool"
 | .int _=>↑"int"
 | .str _=>↑"str"
 | .ref a=>Ef (H a)
 |_=>none
def Aj{t:String}(h:Ef o=↑t):(∃xs,o=↑(.lst xs)/\t="list")\/(∃xs,o=↑(.tup xs)/\t="tuple"):=by
 cases o with
 |none=>cases h
 |some u=>
  cases u with
  |lst xs=>cases h;exact .inl #[xs,9]
  |tup xs=>cases h;exact .inr #[xs,9]
  |_=>cases h
def mz{t:String}(h:kd H (-a)=↑t):(∃xs,H a=↑(.lst xs)/\t="list")\/(∃xs,H a=↑(.tup xs)/\t="tuple"):=Aj h
def Iw{K:ι}{t:String}(h:kd H x=↑t):Rr K H x (.type t)/\t∈nR:=by
 cases x with
 |non=>cases h;exact#[.non,by simp]
 |bl b=>cases h;exact#[.bl b,by simp]
 |int i=>cases h;exact#[.int i,by simp]
 |str x=>cases h;exact#[.str x,by simp]
 |byt b=>cases h
 |flt b=>cases h
 |ty b=>cases h
 |ref a=>
  rcases mz h with⟨xs,e,rfl⟩|⟨xs,e,rfl⟩
  .exact#[.lst e,by simp]
  .exact#[.tup e,by simp]
def jx{t:String}(s:Oq H H')(h:kd H x=↑t):kd H' x=↑t:=by
 cases x with
 |ref a=>
  rcases mz h with⟨xs,e,rfl⟩|⟨xs,e,rfl⟩
  .show Ef (H' a)=_;rw[s _ _ e];rfl
  .show Ef (H' a)=_;rw[s _ _ e];rfl
 |_=>exact h
noncomputable def gP:V->Bool
 | .int i=>decide (0<=i)&&decide (i<16)
 |_=>false
def ZI{α:Type}{xs:List α}{r:Int}(c:0<=r)(h1:r<xs.length):∃v,Q3 xs r=↑v/\v∈xs:=by
 have a:=JC c h1;refine#[xs[r.toNat],?_,L9 a]
 have e:Q3 xs ((r.toNat:Nat):Int)=some xs[r.toNat]:=Qf (JQ a)
 rwa [show((r.toNat:Nat):Int)=r by lia]at e
inductive rG(K:ι)|mk (a:Δ)(ns:Ε)(h1:vs=[-a])(h2:OA K H a (ns.map V.int))(h3:ns.length<=63)(h4:∀H',Q (.bl true) H')
inductive vA|mk (x:_)(t:_)(h1:vs=[x])(h2:kd H x=↑t)(h3:Q (.bl (gP x)) H)
inductive tZ|mk (p:_)(xs:_)(h1:vs=[-p])(h2:H p=↑(.tup xs))(h3:xs.length<=ζ)(h4:(∀x∈xs,∃t,kd H x=↑t))(h5:∀H',Oq H H'->Q (.bl (xs.all gP)) H')
end L3
namespace L3
open PySem PySem.Spec L2
structure QE(X:Cx)(e:Φ)(t:TE):Prop where
 h:PE X e t
structure QT(X:Cx)(e:Φ)(t:TT):Prop where
 h:PT X e t
structure QW(X:Cx)(e:Φ)(t:TT):Prop where
 h:PW X e t
structure QA(X:Cx)(e:Ι)(t:TA):Prop where
 h:PA X e t
structure QS(X:Cx)(e:δ)(t:TS):Prop where
 h:PS X e t
structure R9(X:Cx)(e:List δ)(t:TS):Prop where
 h:R6 X e t
structure QG(X:Cx)(e:Φ)(t:TG):Prop where
 h:PG X e t
structure UO(X:Cx)(e:Ι)(t:bK):Prop where
 h:vD X e t
structure QO(X:Cx)(e:Υ)(t:TO):Prop where
 h:PO X e t
structure QI(X:Cx)(tg e:Φ)(t:TI):Prop where
 h:PI X tg e t
def qj{i j pos}:QE X (.Constant (.int i) j pos) (tC (.int i)):=#[Gq]
def QH{b j pos}:QE X (.Constant (.bool b) j pos) (tC (.bl b)):=#[Ix]
def zi{j pos}:QE X (.Constant .none j pos) (tC .non):=#[Gn]
def qi{x j pos}:QE X (.Constant (.str x) j pos) (tC (.str x)):=#[HJ]
def zh{u:Γ}(hg:Gl X x)(hm:X.mg x=↑u)(r:Oz v u)(hd:hH x:=by decide):QE X (.Name x pos) (tC v):=#[Fs (hg:=hg) (hm:=hm) (r:=r) (hd:=hd)]
def qZ{u:Γ}(hg:Gl X x)(hm:X.mg x=none)(hv:bootBuiltins x=↑u)(r:Oz v u)(hn:x≠"__name__":=by decide)(hd:hH x:=by decide):QE X (.Name x pos) (tC v):=#[EE (hg:=hg) (hm:=hm) (hv:=hv) (r:=r) (hn:=hn) (hd:=hd)]
def qF{b:Φ}{c:Operator}(ho:Qj X (binaryOp c) r)(ha:QE X a ta)(hb:QE X b tb):QE X (.BinOp a c b pos) (pR r ta tb):=#[Ie (ho:=ho) (ha:=ha.h) (hb:=hb.h)]
def rE{c:UnaryOp}{r:V->Hp->VK->Prop}(ho:DM X (unaryOp c) r)(ha:QE X a ta):QE X (.UnaryOp c a pos) (IW r ta):=#[IE (ho:=ho) (ha:=ha.h)]
def Qh{b:Φ}{c:CmpOp}(ho:Qj X (SL c) r)(ha:QE X a ta)(hb:QE X b tb)(hm:behindInMarks c b=false):QE X (.Compare a [c] [b] pos) (pR r ta tb):=#[Ff (ho:=ho) (ha:=ha.h) (hb:=hb.h) (hm:=hm)]
def qw{b:Φ}{c:CmpOp}(ho:Qj X (SL c) r)(ha:QE X a ta)(hb:QE X b tb)(hm:behindInMarks c b=false):QT X (.Compare a [c] [b] pos) (ju (pR r ta tb)):=#[E3 (ho:=ho) (ha:=ha.h) (hb:=hb.h) (hm:=hm)]
def kD{b:Φ}{d op':CmpOp}(ho:Qj X (SL d) r)(ho':Qj X (SL op') e)(ha:QE X a ta)(hb:QE X b tb)(hc:QE X c tc)(hm:lastMarks [d,op'] [b,c]=false:=by with_unfolding_all rfl):QE X (.Compare a [d,op'] [b,c] pos) (lV r e ta tb tc):=#[CZ (ho:=ho) (ho':=ho') (ha:=ha.h) (hb:=hb.h) (hc:=hc.h) (hm:=hm)]
def kN{b:Φ}{d op':CmpOp}(ho:Qj X (SL d) r)(ho':Qj X (SL op') e)(ha:QE X a ta)(hb:QE X b tb)(hc:QE X c tc)(hm:lastMarks [d,op'] [b,c]=false:=by with_unfolding_all rfl):QT X (.Compare a [d,op'] [b,c] pos) (ju (lV r e ta tb tc)):=#[DE (ho:=ho) (ho':=ho') (ha:=ha.h) (hb:=hb.h) (hc:=hc.h) (hm:=hm)]
def Qp{b:Φ}{rest:Ι}(ha:QE X a ta)(hb:QE X (.BoolOp .And (b::rest) pos) tb):QE X (.BoolOp .And (a::b::rest) pos) (DY ta tb):=#[GA (ha:=ha.h) (hb:=hb.h)]
def QP{op}(h:QE X a t):QE X (.BoolOp op [a] pos) t:=#[HW (h:=h.h)]
def iy(ha:QE X a ta):QE X (.UnaryOp .Not a pos) (Ey ta):=#[F1 (ha:=ha.h)]
def iI{b:Φ}{rest:Ι}(ha:QT X a tA)(hb:QW X (.BoolOp .And (b::rest) pos) tB'):QW X (.BoolOp .And (a::b::rest) pos) (HG tA tB'):=#[Gj (ha:=ha.h) (hb:=hb.h)]
def Zb{b:Φ}{rest:Ι}(ha:QT X a tA)(hb:QW X (.BoolOp .Or (b::rest) pos) tB'):QW X (.BoolOp .Or (a::b::rest) pos) (IL tA tB'):=#[If (ha:=ha.h) (hb:=hb.h)]
def fS(ha:QT X a tA):QW X (.BoolOp .And [a] pos) tA:=#[EI (ha:=ha.h)]
def Q5(ha:QT X a tA):QW X (.BoolOp .Or [a] pos) tA:=#[GI (ha:=ha.h)]
def Qg(ha:QT X a tA):QT X (.UnaryOp .Not a pos) (HX tA):=#[Gp (ha:=ha.h)]
def zw(h:QE X e t)(he:∀a,isTrue e X.env a=(do let v <- a;standAt e.pos;holding [v] (truthy v)):=by intro _;rfl):QT X e (tB t):=#[FW (h:=h.h) (he:=he)]
def gF{b:Φ}(hc:QT X c tA)(ha:QE X a ta)(hb:QE X b tb):QE X (.IfExp c a b pos) (IK tA ta tb):=#[DJ (hc:=hc.h) (ha:=ha.h) (hb:=hb.h)]
def qc(ha:QE X e te)(hr:QA X es t)(h:ZH e=true:=by rfl):QA X (e::es) (wy te t):=#[Jz (ha:=ha.h) (hr:=hr.h) (h:=h)]
def qa:QA X [] Cv:=#[Ga]
def qD{x1}(h:QA X es t):QE X (.Tuple es x1 pos) (Gr t):=#[Gm (h:=h.h)]
def ze(h:QA X es t):QE X (.List es pos) (FX t):=#[Gd (h:=h.h)]
def qE{b:Φ}(hr:Ui X r)(ha:QE X a ta)(hb:QE X b tb)(hs:vw b:=by exactλ_ _=>rfl):QE X (.Subscript a b pos) (pR r ta tb):=#[Iz (hr:=hr) (ha:=ha.h) (hb:=hb.h) (hs:=hs)]
def bB{r:V->Λ->Λ->Hp->VK->Prop}(hr:yv X r)(he:QE X e te)(hl:QO X lo tl)(hu:QO X hi th):QE X (.Subscript e (.Slice lo hi none p2) pos) (IU r te tl th):=#[CF (hr:=hr) (he:=he.h) (hl:=hl.h) (hu:=hu.h)]
def cF:QO X none vj:=#[E1]
def cG(h:QE X e te):QO X ↑e (Ez te):=#[EY (h:=h.h)]
def qq{x:Str}{p pos:Pos}{e:Φ}{es:Ι}{t:TA}{id:String}{r:Β->Hp->VK->Prop}(hc:zY X (.builtin id) r)(hm:X.mg x=none)(hv:bootBuiltins x=↑(.builtin id))(ha:QA X (e::es) t)(hg:Gl X x:=by rfl)(hn:x≠"__name__":=by decide)(hdb:hH x:=by decide)(he:hG X e es:=by rfl)(hpl:hI X es pos:=by rfl):QE X (.Call (.Name x p) (e::es) [] pos) (El r t):=#[Cg (hc:=hc) (hg:=hg) (hm:=hm) (hv:=hv) (ha:=ha.h) (hn:=hn) (hdb:=hdb) (he:=he) (hpl:=hpl)]
def qI{pos:Pos}{e:Φ}{es:Ι}{r:Β->Hp->VK->Prop}(hc:zY X (.type T) r)(hm:X.mg x=none)(hv:bootBuiltins x=↑(.type T))(ha:QA X (e::es) t)(hg:Gl X x:=by rfl)(hn:x≠"__name__":=by decide)(hdb:hH x:=by decide)(he:hG X e es:=by rfl)(hpl:hI X es pos:=by rfl):QE X (.Call (.Name x p) (e::es) [] pos) (El r t):=#[Bf (hc:=hc) (hg:=hg) (hm:=hm) (hv:=hv) (ha:=ha.h) (hn:=hn) (hdb:=hdb) (he:=he) (hpl:=hpl)]
def qu{k:Nat}{sp:Sp}{e:Φ}{es:Ι}{pos:Pos}(D:Df X.prog X.w X.K X.mg X.base x ps k sp)(hr:OL k X.A)(ha:QA X (e::es) t)(hg:Gl X x:=by rfl)(hdb:hH x:=by decide)(he:hG X e es:=by rfl)(hpl:hI X es pos:=by rfl):QE X (.Call (.Name x p) (e::es) [] pos) (xm sp [] E0 t):=#[Gc (D:=D) (hr:=hr) (ha:=ha.h) (hg:=hg) (hdb:=hdb) (he:=he) (hpl:=hpl)]
def qp:R9 X [] Ec:=#[EZ]
def qg(h1:QS X st t)(h2:R9 X rest u):R9 X (st::rest) (fX t u):=#[BX (h1:=h1.h) (h2:=h2.h)]
def qh(h1:QS X st t):R9 X [st] t:=#[Fk (h1:=h1.h)]
def qC{pos:Pos}{i:Nat}{x:Str}(hN:X.N.Nodup)(hi:X.N[i]? =↑x)(hx:lD X.env.scope x)(he:QE X e te)(hs:swapsWith e ↑(.Name x pos') pos.line X.env=pure false:=by rfl)(hf:hO X x:=by first|exact .inl Z|exact .inr Z|assumption):QS X (.Assign [.Name x pos'] e pos) (nv te (aR i)):=#[GO (hN:=hN) (hi:=hi) (hx:=hx) (he:=he.h) (hs:=hs) (hf:=hf)]
def Qx{pos:Pos}(he:QE X e te)(hg:QG X tg g)(hs:swapsWithSole [tg] e pos.line X.env=pure false:=by rfl)(hw:swappedStores [tg] e X.env=pure none:=by rfl)(h1:(assignEach [tg] X.env).map (·.2)=[assign tg X.env]:=by rfl):QS X (.Assign [tg] e pos) (nv te g):=#[GJ (he:=he.h) (hg:=hg.h) (hs:=hs) (hw:=hw) (h1:=h1)]
def qm(he:QE X e te):QS X (.Return ↑e pos) (Gb te):=#[GZ (he:=he.h)]
def qA{b:List δ}(hc:QT X c tc)(ha:R9 X a t)(hb:R9 X b u):QS X (.If c a b pos) (HZ tc t u):=#[ID (hc:=hc.h) (ha:=ha.h) (hb:=hb.h)]
def Qc(hp:PassesOwn (model X.prog X.w) X.A X.env X.xe)(hc:X.calm=true)(hi:QI X tg a d)(hg:QG X tg g)(hb:R9 X c tb)(hs:∀x,foldedSetIterable a X.env x=pure x:=by intro _;rfl):QS X (.For tg a c [] pos) (C1 d g tb):=#[Hr (hp:=hp) (hc:=hc) (hi:=hi.h) (hg:=hg.h) (hb:=hb.h) (hs:=hs)]
def qJ{pos:Pos}(he:QE X e te)(hs:swapsWith e none pos.line X.env=pure false:=by rfl):QS X (.Expr e pos) (Eh te):=#[FM (he:=he.h) (hs:=hs)]
def Fy{to:TE}{c:V->V->Hp->VK->Prop}(ho:QE X o to)(hi:QE X i h)(hg:CO X c)(he:QE X e te)(hp:Gw X j d)(hs:rQ X a)(ha:∀f g new,augStore i f g new=(do holding [new,f,g] (setItem f g new);release [new,f,g] [];pure .next):=by intros;rfl):QS X (.AugAssign (.Subscript o i tpos) j e pos) (Ej to h te c d a):=#[ES (ho:=ho.h) (hi:=hi.h) (hg:=hg) (he:=he.h) (hp:=hp) (hs:=hs) (ha:=ha)]
def ba(hl:QE X l tl):QI X tg l (Ea X.K tl):=#[Fb (hl:=hl.h)]
def lL(hl:QE X l tl):QI X tg l (Hn X.K tl):=#[Hj (hl:=hl.h)]
def Q7{a:Φ}{p:Pos}(hg:Gl X "range")(hm:X.mg "range"=none)(ha:QA X [a] ta)(hs:θ [a] X.env=[(false,eval a X.env)]:=by rfl):QI X tg (.Call (.Name "range" p) [a] [] pos) (DP ta):=#[yo (hg:=hg) (hm:=hm) (ha:=ha.h) (hs:=hs)]
def FB{a:Φ}{p:Pos}{x1}(hg:Gl X "enumerate")(hm:X.mg "enumerate"=none)(ha:QA X [a] ta)(hs:θ [a] X.env=[(false,eval a X.env)]:=by rfl):QI X (.Tuple c x1 tpos) (.Call (.Name "enumerate" p) [a] [] pos) (Eb X.K ta):=#[Fh (hg:=hg) (hm:=hm) (ha:=ha.h) (hs:=hs)]
def qB{i:Nat}{x:Str}(hN:X.N.Nodup)(hi:X.N[i]? =↑x)(hx:lD X.env.scope x)(hf:hO X x:=by first|exact .inl Z|exact .inr Z|assumption):QG X (.Name x pos) (aR i):=#[FJ (hN:=hN) (hi:=hi) (hx:=hx) (hf:=hf)]
def cL{k:Nat}{n:Nat}(hc:X.calm=true)(h:UO X es t)(hn:(assignEach es X.env).length=n:=by rfl)(hst:(assignEach es X.env).findIdx? (·.1)=none:=by rfl):QG X (.Tuple es k pos) (xn X.K n t):=#[tU (hc:=hc) (h:=h.h) (hn:=hn) (hst:=hst)]
def cT{to:TE}(ho:QE X o to)(hi:QE X i d)(hs:rQ X t)(ha:∀v,assign (.Subscript o i pos) X.env v=(do
      let a <- holding [v] (eval o X.env)
      let c <- holding [v,a] (eval i X.env)
      standAt pos
      holding [v,a,c] (setItem a c v)
      release [v,a,c] []):=by intro _;rfl):QG X (.Subscript o i pos) (Gy to d t):=#[HA (ho:=ho.h) (hi:=hi.h) (hs:=hs) (ha:=ha)]
def Qs:UO X [] CV:=#[FO]
def qM(h1:QG X e t)(h2:UO X es u)(hs:(assignEach (e::es) X.env).map (·.2)=assign e X.env::(assignEach es X.env).map (·.2):=by rfl):UO X (e::es) (rJ t u):=#[Dz (h1:=h1.h) (h2:=h2.h) (hs:=hs)]
theorem QW.pt(h:QW X e t):QT X e t:=#[PW.pt h.h]
def qv(i:Nat){x:Str}(hN:X.N[i]? =↑x:=by rfl)(hv:Go X.env.scope x:=by first|exact SF Z|exact Or.inr (SF Z)|exact Or.inr (Or.inr Z))(hd:hH x:=by decide)
  (a:(x==("__classdict__":Str))=false:=by decide):QE X (.Name x pos) (FU i):=#[FR hN hv hd a]
def QR{a:Scope}{cl:List (Str×Δ)}{fr own:Α}
  (hc:X.calm=true)(hi:QI X tg d l)(f:closureFor a X.env=pure cl)(i:hL X cl)(j:cl.map (·.1)=fr)
  (S:Pa X a fr js)
  (hg:∀C s H e,QG (Qy X (own++fr) a cl C s H e) tg g)(he:∀C s H e,QE (Qy X (own++fr) a cl C s H e) h te)
  (hs:∀x,foldedSetIterable d X.env x=pure x:=by intro _;rfl):
  QE X (.ListComp h [#[tg,d,[],(0)]] a pos) (mt own.length js l g te):=#[E5 hc hi.h f i j S (λC s H e=>(hg C s H e).h) (λC s H e=>(he C s H e).h) hs]
def vH{a:Scope}{cl:List (Str×Δ)}{e:Pos}{fr own:Α}{i:Nat}{y:Str}
  (hN:X.N.Nodup)(m:X.N[i]? =↑y)(hx:lD X.env.scope y)
  (hc:X.calm=true)(hi:QI X tg d q)(j:closureFor a X.env=pure cl)(l:hL X cl)(o:cl.map (·.1)=fr)
  (S:Pa X a fr js)
  (hg:∀C s H h,QG (Qy X (own++fr) a cl C s H h) tg g)(he:∀C s H h,QE (Qy X (own++fr) a cl C s H h) f te)
  (hs:∀x,foldedSetIterable d X.env x=pure x:=by intro _;rfl)(n:swapsWith (.ListComp f [#[tg,d,[],(0)]] a pos) ↑(.Name y p) e.line X.env=pure true:=by rfl)
  (hf:hO X y:=by first|exact .inl Z|exact .inr Z|assumption):
  QS X (.Assign [.Name y p] (.ListComp f [#[tg,d,[],(0)]] a pos) e) (nv (mt own.length js q g te) (aR i)):=#[E8 hN m hx hc hi.h j l o S (λC s H h=>(hg C s H h).h) (λC s H h=>(he C s H h).h) hs n hf]
section
variable{K:ι}
def At.dq{k:Nat}{sp:Sp}(a:At K mg x st ps)(S:Os N ps (ql st))
  (c:∀(f:Δ) (cdv:Γ) (A:SO) (outer:Ρ) (s:Θ) (H:Hp) (vs:Β) (Q:VK) (E:XK),OL k (A.deeper (PyProof.Rows.envOfC x (ql st) s.heap.objs.size f cdv))->sp vs H Q E->
   ∃t,R9 (QD ci P w K mg base N x (ql st) f cdv A outer s H E).nox (Qk st) t/\t {nx:=λ_ H'=>Q .non H',rt:=Q} (Zm N vs) H)(d:∀vs H Q E,sp vs H Q E->vs.length=ps.length:=by intro vs H Q E h;first|(cases h;subst_vars;rfl)|((repeat first|let#[rfl,h]:=h|let#[_,h]:=h);all_goals rfl)):Df P w K mg base x ps (k+1) sp:=
 a.df S d λf cdv A outer s H vs Q E e h=>let⟨t,q1,q2⟩:=c f cdv A outer s H vs Q E e h;#[t,q1.h,q2]
def _root_.L2.SI.dq{k:Nat}{sp:Sp}(F:SI K x Vm st f fd)(S:Os N ps (ql st))(c:∀vs H Q E,sp vs H Q E->vs.length=ps.length)
  (a:∀(cdv:Γ) (A:SO) (outer:Ρ) (s:Θ) (H:Hp) (vs:Β) (Q:VK) (E:XK),OL k (A.deeper (PyProof.Rows.envOfC Vm (ql st) s.heap.objs.size f cdv))->sp vs H Q E->
   ∃t,R9 (QD ci P w K mg base N Vm (ql st) f cdv A outer s H E).nox (Qk st) t/\t {nx:=λ_ H'=>Q .non H',rt:=Q} (Zm N vs) H):P5 P w K mg base ci (k+1) f fd ps sp:=
 F.ok S c λcdv A outer s H vs Q E d h=>let⟨t,q1,q2⟩:=a cdv A outer s H vs Q E d h;#[t,q1.h,q2]
def Ic(F:SI K x x st f fd)(m:mg x=↑(-f))(b:Pn K fd ps []):At K mg x st ps:=#[f,fd,F,m,F.kp,b]
end
open PyProof.Rows
def O6:Ε:=(C2 16).map λi=>((i:Nat):Int)
def Dq:O6.length=16:=by decide
def EC{α:Type}{xs:List α}{z:Int}{j:Nat}{v:α}(e:z=(j:Int))(h:xs[j]? =↑v):Q3 xs z=↑v:=by rw[e];exact Qf h
def oh{n j:Nat}{z:Int}(e:z=(j:Int))(h:j<n):bS n z=↑j:=by rw[e];exact vV h
def uA{z:Int}(h:z∈O6):0<=z/\z<16:=by
 let#[i,hi,e]:=J7.mp h
 have:=Mq.mp hi
 lia
open Sem (wp)
def wA{x:Γ}{Q:Om}(hit:s.heap.IsTupleIter it t i)(f:s.heap.IsTuple t its)(hx:its[i]? =↑x)
  (g:∀h',h'.IsTupleIter it t (i+1)->Ψ.SameBut it s.heap h'->Q x {s with heap:=h'}):ε (model prog w) A (γ.SmallTypes.nextOf (-it)) Q E s:=by
 let#[o,c,h,a]:=id hit;let#[ol,d,_,j,e]:=f;unfold γ.SmallTypes.nextOf;refine JH (wpAny_callSpecial?_slot (name:=SV "__next__") hit.typeIs NG
  (LK NG hit.typeIs Sk ?_ (Sj _)))
 show ε _ _ (field (-it) 0 >>= _) _ _ s
 refine JH (Lf c a (x:= .ref t) Z ?_)
 show ε _ _ (if(Γ.ref t==Γ.none)=true then _ else _) _ _ s
 rw[JJ (show¬((Γ.ref t==Γ.none)=true)from Le)]
 show ε _ _ (field (-it) 1 >>= _) _ _ s
 refine JH (Lf c a (x:= .int i 0) Z ?_)
 show ε _ _ (seqItems? (-t) >>= _) _ _ s
 refine JH (MA d e ?_)
 simp only[M9,hx];refine JH (Ml c a (by simp) (JP #[x,Z,JP (g _ ?_ (Na ..))]))
 exact#[_,Me _ c (MP (Ma a _)),(Sv ..).trans h,by
  rw[Ma a];simp [rawInt]]
def oQ(h:A.handled=none)(hit:s.heap.IsTupleIter it t i)(j:s.heap.IsTuple t its)(hx:its[i]? =none)
  (l:∀h' e,Ψ.ExtBut it s.heap h'->(∃o,h'.get? e=↑o/\o.cls= .type "StopIteration")->E (-e) {s with heap:=h'}):
  ε (model prog w) A (γ.SmallTypes.nextOf (-it)) Q E s:=by
 let#[o,c,p,g]:=id hit;let#[ol,d,_,n,f]:=j;unfold γ.SmallTypes.nextOf;refine JH (wpAny_callSpecial?_slot (name:=SV "__next__") hit.typeIs NG
  (LK NG hit.typeIs Sk ?_ (Sj _)))
 show ε _ _ (field (-it) 0 >>= _) _ _ s
 refine JH (Lf c g (x:= .ref t) Z ?_)
 show ε _ _ (if(Γ.ref t==Γ.none)=true then _ else _) _ _ s
 rw[JJ (show¬((Γ.ref t==Γ.none)=true)from Le)]
 show ε _ _ (field (-it) 1 >>= _) _ _ s
 refine JH (Lf c g (x:= .int i 0) Z ?_)
 show ε _ _ (seqItems? (-t) >>= _) _ _ s
 refine JH (MA d f ?_)
 simp only[M9,hx];refine JH (Mr (JH (Ml c g (by simp) ?_)))
 show ε _ _ (newExc (.type "StopIteration") [] >>= _) _ _ _
 refine JH ?_
 simp only[newExc,newTuple];refine JH (LH ?_ (by size_fits))
 refine JH (m:=firstArgMember _ _) (LX (a:=Γ.none) (by first|rfl|(simp only[firstArgMember];rfl)) ?_)
 refine LH ?_ (by size_fits)
 simp only[raiseNew];refine JH (wpAny_handled ?_)
 first|rw[show A.in1.handled=none from h]|rw[h]
 refine JH (JP (wpAny_throw ?_))
 exact l _ _ (((Na ..).extBut.push _).push _) #[_,J2 _ Z,Z]
def Br{A:SO}(g:A.handled=none)(it t:Δ)(d:t≠it)(its:Array Γ):
  Draws prog w A it [it,t] its.size (λi v=>its[i]? =↑v) (λi h=>h.IsTupleIter it t i/\h.IsTuple t its) where
 live:=λ_ _ st=>let⟨o,ho,_⟩:=st.1;#[o,ho]
 frame:=λ_ _ _ st hk=>#[st.1.at λo e=>hk it (by simp) o e,let⟨o,e,r⟩:=st.2;#[o,hk t (by simp) o e,r]]
 item:=λi s Q E hi st f=>by
  refine wA st.1 st.2 (x:=its[i]) (by simp [hi]) λh' c a=>?_
  exact f _ h' s.toks (by simp [hi]) #[c,let⟨o,e,r⟩:=st.2;#[o,a.extBut _ _ d e,r]] a
 done:=λs Q E st j=>oQ g st.1 st.2 (by simp) j
open AutoSeq1 (wpAny_loadPart')in
def uQ(l:Δ)(items:Array Γ)(n:Nat)(e:Κ)(j:Array Ν):
  Meets (γ.«enumerate.__new__» #[[.type "enumerate",-l],[]]) (λ_ R s=>s.heap.get? l=some {cls:= .type "tuple",dict:=e,data:= .seq items n,slots:=j}/\
   R (.ok (.ret (.ref (s.heap.push {cls:= .type "tuple_iterator",data:= .fields (B0 [-l,.int 0 0])}).objs.size)))
    {s with heap:=(s.heap.push {cls:= .type "tuple_iterator",data:= .fields (B0 [-l,.int 0 0])}).push {cls:= .type "enumerate",data:= .fields (B0 [.none,.bool false,-s.heap.objs.size,rawInt 0,.none,.none])}}):=
 .of_wp λprog w A R s h=>by
  let#[m,g,d,tk,os]:=s;let#[a,h]:=h
  have i:=sub_enumerate;have f:Ψ.IsTuple (Θ.heap #[m,g,d,tk,os]) l items:=#[_,a,Z,n,Z]
  wp_walk using MQ a
  refine wpAny_stack_any λst=>JP ?_
  split
  .rename_i c _ _ _ _ _
   cases(c==Γ.type "enumerate")
   .wp_walk using MQ a,Md f
    exact#[0,h]
   .wp_walk using MQ a,Md f
    exact#[0,h]
  .wp_walk using MQ a,Md f
   exact#[0,h]
def xi{Q:Om}(q:s.heap.IsTuple l items)
  (h:∀h',IsEnum h' (s.heap.objs.size+1) s.heap.objs.size 0 .none->h'.IsTupleIter s.heap.objs.size l 0->(∀b o,s.heap.get? b=↑o->h'.get? b=↑o)->Q (.ref (s.heap.objs.size+1)) {s with heap:=h'}):
  ε (model prog w) A (call (.type "enumerate") [-l]) Q E s:=by
 let#[#[c,a,p,j],m,e,n,f]:=q
 replace e:c= .type "tuple":=e
 replace f:p= .seq items n:=f
 subst e f;refine callType_new F.called_enumerate ⋯ (F.typeCall_enumerate_1 _) (F.newCall_enumerate_1 _) (λd=>F.args_object_init_2 d _) F.entry_enumerate_new
  (uQ l items n a j) #[m,?_]
 have g:(s.heap.push {cls:= .type "tuple_iterator",data:= .fields (B0 [-l,.int 0 0])}).objs.size=s.heap.objs.size+1:=LJ ..
 show _/\_
 rw[g];have i:IsEnum ((s.heap.push {cls:= .type "tuple_iterator",data:= .fields (B0 [-l,.int 0 0])}).push
   {cls:= .type "enumerate",data:= .fields (B0 [.none,.bool false,-s.heap.objs.size,rawInt 0,.none,.none])}) (s.heap.objs.size+1) s.heap.objs.size 0 .none:=by
  have:=J2 (s.heap.push {cls:= .type "tuple_iterator",data:= .fields (B0 [-l,.int 0 0])})
   (o:={cls:= .type "enumerate",data:= .fields (B0 [.none,.bool false,-s.heap.objs.size,rawInt 0,.none,.none])}) Z
  rw[g]at this;exact this
 exact#[#[_,i,Z],h _ i #[_,JR _ (J2 _ Z),9] λb o x=>JR _ (JR _ x)]
noncomputable def uu(K:ι)(a:Δ):It:=
 #[λi H=>∃xs x,OC K H a xs/\xs[i]? =↑x,λi H x H'=>∃p v,H p=none/\x= .ref p/\(∀xs,OC K H a xs->xs[i]? =↑v)/\H'=Ot H p (.tup [.int i,v]),λi H=>∃xs,OC K H a xs/\xs.length<=i]
def wC{K:ι}{x1}(a e it:Δ)(r:e≠it):
  Rq P w K (.Tuple J x1 pos) (uu K a) [e,it] e (λi h=>(∃d,IsEnum h e it i d)/\h.IsTupleIter it a i) where
 mem:=by simp
 obj:=λi h st b l=>by
  let#[#[d,j],#[o,g,Q,hd]]:=st;rcases JO.mp l with z|z
  .subst z
   refine#[_,j,λv z=>?_]
   have z':Sg _=Sf v:=z
   cases z'
  .rw[JN.mp z]
   exact#[o,g,λv z=>by rw[hd]at z;cases z]
 keep:=λi h h' st k=>#[let⟨d,j⟩:=st.1;#[d,k e (by simp) _ j],st.2.at λo q=>k it (by simp) o q]
 item:=by
  intro X W Y hK Q i tx s σ H E I O st U;subst W Y hK;let#[xs,x,N,hx]:=U;let#[its,rv,p,hz]:=I.tuple N;let#[u,hu,ru]:=rv.get hx;let#[#[d,j],hit]:=st;have a2:a≠e:=λz=>by
   subst z;let#[o,g,c,_]:=p;rw[j]at g;cases g;exact absurd (show Γ.type "enumerate"=Γ.type "tuple" from c) ⋯
  have D:a≠it:=λz=>by
   subst z;let#[o,g,c,_]:=p;let#[o',n,m,_]:=hit;rw[g]at n;cases n;rw[c]at m;exact absurd m ⋯
  have R:i<its.toArray.size:=by
   have:=(JZ.mp hu).1
   simpa using this
  refine wpAny_pyNext_enum_itemD (Br (A:=X.A.in1) (I.ok.hd Q) it a D its.toArray) j #[hit,p] R r (by simp [r,Ne.symm a2]) λv h' tk hv g ⟨C,_⟩ ht a3 hk=>#[0,?_]
  have ev:v=u:=by
   have G:its[i]? =↑v:=by simpa using hv
   rw[hu]at G;exact(Lb G).symm
  subst ev;refine wpAny_letOwnedTupleGo_enum g λS B f=>?_
  have t:e<s.heap.objs.size:=JS j
  have M:it<s.heap.objs.size:=by let#[_,y,_]:=hit;exact JS y
  exists .ref s.heap.objs.size,Ot H s.heap.objs.size (.tup [.int i,x]),?_,Z,#[_,x,I.hok.fresh (JL _),Z,λys hy=>by rw[I.tuple_inj hy N];exact hx,Z],#[#[_,by simpa using B],?_]
  .show L2.Ov X tx σ _ {s with heap:=S,toks:=tk+1}
   refine jA (s:=s) (its:=[.int i tk,v]) I (ch:=[e,it]) (λb o l q=>?_) O (λb l=>?_) (JL _) (by show 2<=ζ;decide) (.cons #[0] (.cons ru .nil)) ?_
   .have L:b≠e:=λz=>l (by simp [z])
    have a0:b≠it:=λz=>l (by simp [z])
    exact(f.2 b L).trans (hk b o L a0 q)
   .rcases JO.mp l with z|z
    .subst z;exact#[_,B]
    .rw[JN.mp z]
     let#[o,y,_]:=C
     exact#[o,(f.2 it (Ne.symm r)).trans y]
   .exact#[_,(f.2 _ (LB t)).trans ht,7]
  .exact C.extBut f.extBut (Ne.symm r)
  .intro b l
   rw[qk]
   .exact(O b l).1
   .rcases JO.mp l with z|z
    .subst z;exact J4 t
    .rw[JN.mp z];exact J4 M
 done:=by
  intro X W Y hK Q i tx s σ H E I O st U;subst W Y hK;let#[xs,N,hx]:=U;let#[its,rv,p,hz]:=I.tuple N;let#[#[d,j],hit]:=st;let#[f0,f1,f2,f3,f4,f5]:=O it (by simp)
  have hl:=rv.length;have D:a≠it:=λz=>by
   subst z;let#[o,g,c,_]:=p;let#[o',n,m,_]:=hit;rw[g]at n;cases n;rw[c]at m;exact absurd m ⋯
  unfold pyNext;have hT:s.TypeIs (-e) "enumerate":=#[_,j,Z]
  refine JH (MR (wpAny_callSpecial?_slot (name:=SV "__next__") hT F.slot_enumerate_next
   (LK F.slot_enumerate_next hT F.entry_enumerate_next ?_ (F.args_enumerate_next_1 _))))
  show ε _ _ (field (-e) 2 >>= _) _ _ _
  refine JH (Lf j Z (x:= .ref it) Z ?_)
  refine JH (oQ (I.ok.hd Q) hit p (by simp;lia) λh' ex eb a1=>?_)
  let#[o,g,c]:=a1;refine JH (wpAny_isInstance (T:="StopIteration") (b:=true) #[o,g,c] isSubtype_stop ?_)
  exact JP #[Z,I.turned (t':=s.toks) (λb o l e=>eb b o l e) f0 f1 f3 f4 f5]
 self:=λ_ _ _ _ _ st h=>by
  let#[#[d,j],_]:=st;exact M8 j h
def Av(K:ι)(ta:TA):TI:=λσ H R=>ta σ H λc H1=>∃a,c=[-a]/\((∃xs,OA K H1 a xs)/\R (vP K a) H1\/(∃xs,OC K H1 a xs)/\R (uu K a) H1)
def BK{a:Φ}{p:Pos}{x1}(hg:Gl X "enumerate")(hm:X.mg "enumerate"=none)(ha:PA X [a] ta)(hs:θ [a] X.env=[(false,eval a X.env)]:=by rfl):
  PI X (.Tuple j x1 tpos) (.Call (.Name "enumerate" p) [a] [] pos) (Av X.K ta):=by
 intro tx s σ H R I h;refine Call_ (bQ I hg hm boot_enumerate (MH (qG (ha pos tx s σ H _ I h) λC c x=>?_) hs Z))
 let#[D,H1,d,y,r]:=x;let#[l,e,r]:=r;subst e;let#[u,rfl,w]:=y.one;cases w;have i:∀b∈[c.heap.objs.size+1,c.heap.objs.size],ao X tx H1 b:=λb t=>by
  have m:c.heap.objs.size<=b:=by
   rcases JO.mp t with z|z
   .rw[z];exact Lr _
   .rw[JN.mp z];exact JL _
  exact d.fpOk m (d.hok.fresh m)
 rcases r with⟨⟨xs,n⟩,q⟩|⟨⟨xs,n⟩,q⟩
 .let#[f,B,o,A]:=d.list n
  refine call_enumerate_list o.isList λh' g hit v hk=>M8 g ?_
  exact#[c.heap.objs.size+1,[c.heap.objs.size+1,c.heap.objs.size],8,H1,Z,d.kept (t':=c.toks) hk,pV l _ _ (LB (LU _)),#[#[_,g],hit],i,q]
 .let#[f,B,o,A]:=d.tuple n
  refine xi (show c.heap.IsTuple l f.toArray from o) λh' g hit hk=>M8 g ?_
  exact#[c.heap.objs.size+1,[c.heap.objs.size+1,c.heap.objs.size],8,H1,Z,d.kept (t':=c.toks) hk,wC l _ _ (LB (LU _)),#[#[_,g],hit],i,q]
def Ar{K:ι}{xs:Β}{g:TG}{tb:TS}{D:OU}{σ:L2.St}{H:Hp}(Pv:Nat->L2.St->Hp->Prop)(j:Pv 0 σ H)(hl:∀i σ H,i<=xs.length->Pv i σ H->OC K H a xs)
  (hs:∀i x σ H p,xs[i]? =↑x->Pv i σ H->H p=none->g (-p) σ (Ot H p (.tup [.int i,x])) λc h=>tb {D with nx:=Pv (i+1),ct:=Pv (i+1),bk:=D.nx} c h)(hd:∀σ H,Pv xs.length σ H->D.nx σ H):
  ∃W:Nat->Nat->L2.St->Hp->Prop,(∃m,W 0 m σ H)/\∀i m σ H,W i m σ H->
   ((uu K a).stop i H/\D.nx σ H)\/((uu K a).go i H/\∃N:L2.St->Hp->Prop,(∀f H',N f H'->∃m',m'<m/\W (i+1) m' f H')/\∀x H',(uu K a).yld i H x H'->g x σ H' λc h=>tb {D with nx:=N,ct:=N,bk:=D.nx} c h):=by
 exists λi m σ H=>m=xs.length-i/\i<=xs.length/\Pv i σ H,#[xs.length,by simp,Li _,j]
 rintro i m σ H ⟨rfl,hi,p⟩
 have q:=hl i σ H hi p
 by_cases d:i<xs.length
 .refine .inr #[#[xs,xs[i],q,by simp [d]],Pv (i+1),λf H' l=>#[xs.length-(i+1),gN d,Z,d,l],λx H' y=>?_]
  let#[n,v,o,rfl,r,rfl]:=y;exact hs i v σ H n (r xs q) p o
 .have e:i=xs.length:=by lia
  subst e;exact .inl #[#[xs,q,JL _],hd σ H p]
structure RP(z TI TO i1 i2:Δ)(f1 f2:Η):Prop where
 TIz:TI≠z
 TOz:TO≠z
 i1z:i1≠z
 i2z:i2≠z
 TITO:TI≠TO
 TIi1:TI≠i1
 TIi2:TI≠i2
 TOi1:TO≠i1
 TOi2:TO≠i2
 i12:i1≠i2
 z1:z∉f1
 z2:z∉f2
 t1:TO∉f1
 t2:TO∉f2
 x1:i2∉f1
 x2:i1∉f2
section
variable{TI TO:Δ}{n1 n2 k:Nat}{P1 P2:Nat->Γ->Prop}{S1 S2:Nat->Ψ->Prop}{b:Γ}
def Bc{Q:Om}(D1:Draws prog w A i1 f1 n1 P1 S1)(Y:Draws prog w A i2 f2 n2 P2 S2)(Z:RP z TI TO i1 i2 f1 f2)
  (X:IsZip s.heap z TI TO .none)(a4:IsPair s.heap TI (-i1) (-i2))(b2:IsPair s.heap TO a b)(q1:S1 k s.heap)(q2:S2 k s.heap)(k1:k<n1)(k2:k<n2)
  (hQ:∀x y h' tk,P1 k x->P2 k y->IsZip h' z TI TO (rawInt s.heap.objs.size)->IsPair h' TO x y->S1 (k+1) h'->S2 (k+1) h'->IsPair h' s.heap.objs.size x y->
   (∀c o,c≠z->c≠TO->c≠i1->c≠i2->s.heap.get? c=↑o->h'.get? c=↑o)->Q (-s.heap.objs.size) {s with heap:=h',toks:=tk}):
  ε (model prog w) A (γ.«zip.__next__» #[[-z],[]]) (λa1 s'=>∃v,a1= .done (.ret v)/\Q v s') E s:=by
 let#[hp,g,d,t0,os]:=s
 show ε _ _ (field (-z) 2 >>= _) _ _ _
 refine JH (Lf X rfl (x:= .bool false) rfl ?_)
 show ε _ _ (field (-z) 3 >>= _) _ _ _
 refine JH (Lf X rfl (x:= .ref TI) rfl ?_)
 refine JH (MA a4 rfl ?_)
 show ε _ _ (γ.SmallTypes.ownedTupleIsFree (-z) >>= _) _ _ _
 refine JH ?_
 unfold γ.SmallTypes.ownedTupleIsFree;refine JH (Lf X rfl (x:= .none) rfl (JP ?_))
 simp only[LW];refine JH (Mr ?_)
 refine JH (Lf X rfl (x:= .ref TO) rfl ?_)
 refine JH (Nb X (by simp) λt u i=>?_)
 replace u:IsZip t z TI TO .ellipsis:=u
 replace i:Ψ.SameBut z hp t:=i
 refine JH ?_
 simp only[Kq,Kr,Kt,Ku];refine JH (JH (wpAny_onRaise ?_))
 show ε _ _ (γ.SmallTypes.nextOf (-i1) >>= _) _ _ _
 have b1:S1 k t:=D1.frame _ _ _ q1 λc C o e=>i.extBut c o (λy=>Z.z1 (y▸C)) e
 refine JH (D1.item k #[t,g,d,t0,os] _ _ k1 b1 λx L P p1 b0 l=>JP ?_)
 replace l:Ψ.SameBut i1 t L:=l
 have F:IsPair L TO a b:=l.extBut _ _ Z.TOi1 (i.extBut _ _ Z.TOz b2)
 refine JH (MA F rfl ?_)
 refine JH (wpAny_updateSeq_pair F λr q j=>?_)
 replace q:IsPair r TO x b:=q
 replace j:Ψ.SameBut TO L r:=j
 refine JH (wpAny_letGo (JP ?_))
 refine JH (JH (wpAny_onRaise ?_))
 show ε _ _ (γ.SmallTypes.nextOf (-i2) >>= _) _ _ _
 have a0:S2 k r:=Y.frame _ _ _ q2 λc C o e=>j.extBut c o (λy=>Z.t2 (y▸C)) (l.extBut c o (λy=>Z.x2 (y▸C)) (i.extBut c o (λy=>Z.z2 (y▸C)) e))
 refine JH (Y.item k #[r,g,d,P,os] _ _ k2 a0 λy K S p2 a2 m=>JP ?_)
 replace m:Ψ.SameBut i2 r K:=m
 have G:IsPair K TO x b:=m.extBut _ _ Z.TOi2 q
 refine JH (MA G rfl ?_)
 refine JH (wpAny_updateSeq_pair G λf n h=>?_)
 replace n:IsPair f TO x y:=n
 replace h:Ψ.SameBut TO K f:=h
 refine JH (wpAny_letGo (JP (JP ?_)))
 refine JH (MA n rfl ?_)
 refine JH (wpAny_newTuple ?_)
 have W:f.objs.size=hp.objs.size:=by rw[h.1,m.1,j.1,l.1,i.1]
 have H:IsZip f z TI TO .ellipsis:=h.extBut _ _ Z.TOz.symm (m.extBut _ _ Z.i2z.symm (j.extBut _ _ Z.TOz.symm (l.extBut _ _ Z.i1z.symm u)))
 have R:∀c o,c≠z->c≠TO->c≠i1->c≠i2->hp.get? c=↑o->f.get? c=↑o:=λc o O c2 c3 c4 e=>
  h.extBut _ _ c2 (m.extBut _ _ c4 (j.extBut _ _ c2 (l.extBut _ _ c3 (i.extBut _ _ O e))))
 have a5:S1 (k+1) f:=D1.frame _ _ _ b0 λc C o e=>h.extBut c o (λy=>Z.t1 (y▸C)) (m.extBut c o (λy=>Z.x1 (y▸C)) (j.extBut c o (λy=>Z.t1 (y▸C)) e))
 have a3:S2 (k+1) f:=Y.frame _ _ _ a2 λc C o e=>h.extBut c o (λy=>Z.t2 (y▸C)) e
 have N:z<f.objs.size:=JS H
 show ε _ _ (γ.SmallTypes.ownedTupleHandOut (-z) (-f.objs.size) >>= _) _ _ _
 refine JH ?_
 unfold γ.SmallTypes.ownedTupleHandOut;have T:IsZip (f.push {cls:= .type "tuple",data:= .seq (B0 [x,y])}) z TI TO .ellipsis:=JR _ H
 refine JH (Nb T (by simp) λU B M=>?_)
 replace B:IsZip U z TI TO (rawInt f.objs.size):=B
 refine Nb B (by simp) λD p J=>?_
 replace p:IsZip D z TI TO (rawInt f.objs.size):=p
 have up:∀c o,c≠z->f.get? c=↑o->D.get? c=↑o:=λc o O e=>J.extBut _ _ O (M.extBut _ _ O (JR _ e))
 have I:IsPair D f.objs.size x y:=J.extBut _ _ (LB N) (M.extBut _ _ (LB N) (J2 _ rfl))
 rw[W]at p I;refine JP #[_,rfl,?_]
 show Q (-f.objs.size) _
 rw[W];exact hQ x y D S p1 p2 p (up _ _ Z.TOz n) (D1.frame _ _ _ a5 λc C o e=>up c o (λy=>Z.z1 (y▸C)) e) (Y.frame _ _ _ a3 λc C o e=>up c o (λy=>Z.z2 (y▸C)) e) I λc o O c2 c3 c4 e=>up c o O (R c o O c2 c3 c4 e)
def Dc{Q:Fin->Θ->Prop}(C:Draws prog w A i1 f1 n1 P1 S1)(Z:RP z TI TO i1 i2 f1 f2)
  (r:IsZip s.heap z TI TO .none)(u:IsPair s.heap TI (-i1) (-i2))(K:S1 n1 s.heap)
  (J:∀h' e,(∀c o,c≠z->c≠i1->s.heap.get? c=↑o->h'.get? c=↑o)->(∃o,h'.get? e=↑o/\o.cls= .type "StopIteration")->E (-e) {s with heap:=h'}):
  ε (model prog w) A (γ.«zip.__next__» #[[-z],[]]) Q E s:=by
 let#[H,g,d,D,os]:=s
 show ε _ _ (field (-z) 2 >>= _) _ _ _
 refine JH (Lf r rfl (x:= .bool false) rfl ?_)
 show ε _ _ (field (-z) 3 >>= _) _ _ _
 refine JH (Lf r rfl (x:= .ref TI) rfl ?_)
 refine JH (MA u rfl ?_)
 show ε _ _ (γ.SmallTypes.ownedTupleIsFree (-z) >>= _) _ _ _
 refine JH ?_
 unfold γ.SmallTypes.ownedTupleIsFree;refine JH (Lf r rfl (x:= .none) rfl (JP ?_))
 simp only[LW];refine JH (Mr ?_)
 refine JH (Lf r rfl (x:= .ref TO) rfl ?_)
 refine JH (Nb r (by simp) λh i a=>?_)
 replace i:IsZip h z TI TO .ellipsis:=i
 replace a:Ψ.SameBut z H h:=a
 refine JH ?_
 simp only[Kq,Kr,Kt,Ku];refine JH (JH (wpAny_onRaise ?_))
 show ε _ _ (γ.SmallTypes.nextOf (-i1) >>= _) _ _ _
 have v:S1 n1 h:=C.frame _ _ _ K λc I o e=>a.extBut c o (λy=>Z.z1 (y▸I)) e
 refine JH (C.done #[h,g,d,D,os] _ _ v λm e f F=>?_)
 let#[G,n,q]:=F
 replace f:Ψ.ExtBut i1 h m:=f
 have j:IsZip m z TI TO .ellipsis:=f _ _ Z.i1z.symm i
 have t:e≠z:=λx=>by subst x;rw[j]at n;cases n;simp at q
 refine Nb j (by simp) λp _ l=>J p e (λc o B L x=>l.extBut _ _ B (f _ _ L (a.extBut _ _ B x))) #[G,l.extBut _ _ t n,q]
end
noncomputable abbrev Ew(h:Ψ)(l1:Δ):Ψ:=h.push {cls:= .type "tuple_iterator",data:= .fields (B0 [-l1,.int 0 0])}
noncomputable abbrev Em(h:Ψ)(l1 l2:Δ):Ψ:=(Ew h l1).push {cls:= .type "tuple_iterator",data:= .fields (B0 [-l2,.int 0 0])}
noncomputable abbrev DQ(h:Ψ)(l1 l2:Δ):Ψ:=(Em h l1 l2).push {cls:= .type "tuple",data:= .seq (B0 [-h.objs.size,.ref (Ew h l1).objs.size])}
noncomputable abbrev Ee(h:Ψ)(l1 l2:Δ):Ψ:=(DQ h l1 l2).push {cls:= .type "tuple",data:= .seq (B0 [.none,.none])}
noncomputable abbrev vz(h:Ψ)(l1 l2:Δ):Ψ:=(Ee h l1 l2).push {cls:= .type "zip",data:= .fields (B0 [.none,.bool false,.bool false,.ref (Em h l1 l2).objs.size,.ref (DQ h l1 l2).objs.size])}
def wM(a c:Δ)(xs ys:Array Γ):
  Meets (γ.«zip.__new__» #[[.type "zip",-a,-c],[]]) (λ_ R s=>s.heap.IsTuple a xs/\s.heap.IsTuple c ys/\
   R (.ok (.ret (.ref (Ee s.heap a c).objs.size))) {s with heap:=vz s.heap a c}):=
 .of_wp λprog w A R s h=>by
  let#[n,g,d,tk,os]:=s;let#[f,j,h]:=h
  have m:=sub_zip;have i:Ψ.IsTuple (Θ.heap #[n,g,d,tk,os]) a xs:=f
  have l:Ψ.IsTuple (Θ.heap #[n.push {cls:= .type "tuple_iterator",data:= .fields (B0 [-a,.int 0 0])},g,d,tk,os]) c ys:=let⟨o,e,r⟩:=j;#[o,JR _ e,r]
  wp_walk using Md i,Md l
  exact#[0,h]
def BH{Q:Om}(f:s.heap.IsTuple a xs)(i:s.heap.IsTuple d ys)
  (h:∀h',IsZip h' (s.heap.objs.size+4) (s.heap.objs.size+2) (s.heap.objs.size+3) .none->IsPair h' (s.heap.objs.size+2) (-s.heap.objs.size) (.ref (s.heap.objs.size+1))->
   IsPair h' (s.heap.objs.size+3) .none .none->h'.IsTupleIter s.heap.objs.size a 0->h'.IsTupleIter (s.heap.objs.size+1) d 0->
   (∀c o,s.heap.get? c=↑o->h'.get? c=↑o)->Q (.ref (s.heap.objs.size+4)) {s with heap:=h'}):
  ε (model prog w) A (call (.type "zip") [-a,-d]) Q E s:=by
 refine callType_new F.called_zip ⋯ (F.typeCall_zip_2 _ _) (F.newCall_zip_2 _ _) (λg=>F.args_object_init_3 g _ _) F.entry_zip_new
  (wM a d xs ys) #[f,i,?_]
 have j:(Ew s.heap a).objs.size=s.heap.objs.size+1:=LJ ..
 have l:(Em s.heap a d).objs.size=s.heap.objs.size+2:=by rw[LJ,j]
 have m:(DQ s.heap a d).objs.size=s.heap.objs.size+3:=by rw[LJ,l]
 have n:(Ee s.heap a d).objs.size=s.heap.objs.size+4:=by rw[LJ,m]
 have e:(vz s.heap a d).get? (Ee s.heap a d).objs.size=↑_:=J2 _ Z
 have p:(vz s.heap a d).get? (DQ s.heap a d).objs.size=↑_:=JR _ (J2 _ Z)
 have r:(vz s.heap a d).get? (Em s.heap a d).objs.size=↑_:=JR _ (JR _ (J2 _ Z))
 have q:(vz s.heap a d).get? (Ew s.heap a).objs.size=↑_:=JR _ (JR _ (JR _ (J2 _ Z)))
 have t:(vz s.heap a d).get? s.heap.objs.size=↑_:=JR _ (JR _ (JR _ (JR _ (J2 _ Z))))
 show _/\_
 rw[l,m,n]at e;rw[j,l]at r;rw[m]at p;rw[j]at q;rw[n]
 exact#[#[_,e,Z],h _ e r p #[_,t,9] #[_,q,9] λc o x=>
  JR _ (JR _ (JR _ (JR _ (JR _ x))))]
def FC{h':Ψ}{t':Nat}{ch:Η}(I:L2.Ov X tx σ H s)(k:∀b o,b∉ch->s.heap.get? b=↑o->h'.get? b=↑o)(a:∀b∈ch,ao X tx H b):L2.Ov X tx σ H {s with heap:=h',toks:=t'}:=by
 have f:∀b u,H b=↑u->b∉ch:=λb u e z=>by rw[(a b z).1]at e;cases e
 refine I.step (g':=s.gens) (d':=s.drawn) (ch:=ch) (λb g=>#[(a b g).2.2.2.1,(a b g).2.1,(a b g).2.2.2.2.1,(a b g).2.2.2.2.2]) (λb o _ _ d e _=>k b o d e) (λb o _ _ d e _=>#[o.slots,k b o d e])
  (λ_ _ _ _ n=>n) (λb o d e=>#[o,k b o d e]) (λ_ _ e=>e) (λ_ _ _ e=>e) (λb ps e=>#[(B0 []),by rw[e];simp]) (λm j=>?_) (λb u e=>?_) I.bare
 .let#[o,es,i,h,r]:=j
  exact#[o,es,i,k _ o (λz=>(a _ z).2.1 Z) h,r]
 .refine(I.hok b u e).stay (λc v d q=>k c v ?_ q) (λ_ q=>q) λ_ _ q=>q
  rcases d with z|z
  .rw[z];exact f b u e
  .exact f c _ z
def wZ{H:Hp}{b:Δ}(h:Rd H a u)(h':H b=none):a≠b:=by
 rcases h with h|⟨o,h⟩
 .exact qr h h'
 .exact qr h h'
open PySem.SeqAt
open AutoSeq1 (wpAny_loadPart')
def Rd.same(s:Oq H H')(h:Rd H a u):Rd H' a u:=by
 rcases h with h|⟨o,h⟩
 .exact .inl (s _ _ h)
 .exact .inr #[o,s _ _ h]
inductive Uj (H:Hp):V->String->Prop where
 |int (i:Int):Uj H (.int i) "int"
 |bl (b:Bool):Uj H (.bl b) "bool"
 |tup {a:Δ} {xs:Β} (h:Rd H a (.tup xs)):Uj H (-a) "tuple"
 |str (x:Str):Uj H (.str x) "str"
 |non:Uj H .non "NoneType"
 |lst {a:Δ} {xs:Β} (h:H a=↑(.lst xs)):Uj H (-a) "list"
def vt(h:Uj H x t):t∈nR:=by cases h<;>simp
theorem uW(K:ι){t:String}(f:t∈nR):∀a:List String,(∀c∈a,c∈nK)->W.kitAny K (.type t) (a.map Γ.type)=↑(a.any (Ql t))
 | [],_=>rfl
 |c::r,h=>by
  have e:=nG K t f c (h c J3);have g:=uW K f r λd i=>h d (F0 _ i)
  simp only[Ls,W.kitAny,e,ML];cases Ql t c with
  |true=>rfl
  |false=>simpa using g
def zc:zY X (.builtin "isinstance") (λxs H Q=>∃x c t,xs=[x,.ty c]/\Uj H x t/\c∈nK/\Q (.bl (Ql t c)) H):=by
 intro tx s σ H xs p Q I r h;let#[x,c,t,rfl,ty,m,q]:=h;let#[u,v,rfl,f,l]:=em r
 cases(show v=Γ.type c from l)
 have e:=nG X.K t (vt ty) c m;have d:∀tk,EP X tx σ Q (.bool (Ql t c)) {s with toks:=tk}:=λtk=>#[.bl _,H,I.tok tk,Z,q]
 cases ty with
 |int i=>let#[t,q]:=(show∃t,u=Γ.int i t from f);cases q;exact Lu W.kitx_int I.kIn SM e (λz=>nomatch z) d
 |bl b=>cases(show u=Γ.bool b from f);exact Lu W.kitx_bool I.kIn SM e (λz=>nomatch z) d
 | @tup a ys hr=>
  cases(show u=Γ.ref a from f)
  let#[g,_,#[o,h1,j,_],_]:=I.tuple (.inl hr)
  exact Lu W.kitx_tuple I.kIn #[o,h1,j] e (λz=>nomatch z) d
 |str x=>let#[t,q]:=(show∃t,u=Γ.str x t from f);cases q;exact Lu W.kitx_str I.kIn SM e (λz=>nomatch z) d
 |non=>cases(show u=Γ.none from f);exact Lu W.kitx_none I.kIn SM e (λz=>nomatch z) d
 | @lst a ys ea=>
  cases(show u=Γ.ref a from f)
  let#[_,_,n,_,h1]:=(show OI X.prog X.w H s.heap a (.lst ys)from I.hok a _ ea)
  exact Lu TB I.kIn #[_,h1,Z] e (λz=>nomatch z) d
theorem sf:∀{a:List String} {us:Ζ},OB (a.map V.ty) us->us=a.map Γ.type
 | [],_,.nil=>rfl
 |c::a,_,.cons r t=>by
  cases(show _=Γ.type c from r)
  rw[sf t];rfl
def iZ:zY X (.builtin "isinstance") (λxs H Q=>∃(x:V) (p:Δ) (m:List String) (t:String),xs=[x,-p]/\H p=↑(.tup (m.map V.ty))/\Uj H x t/\(∀c∈m,c∈nK)/\Q (.bl (m.any (Ql t))) H):=by
 intro tx s σ H xs J Q I r h;let#[x,p,m,t,rfl,D,ty,B,q]:=h;let#[u,v,rfl,l,E]:=em r
 cases(show v=Γ.ref p from E)
 let#[w,y,#[#[cl,dd,F,G],j,f,n,g],_]:=I.tuple (OC.of D)
 replace f:cl= .type "tuple":=f
 replace g:F= .seq w.toArray n:=g
 subst f g;have e:=uW X.K (vt ty) m B;rw[<- sf y]at e;have d:∀tk,EP X tx σ Q (.bool (m.any (Ql t))) {s with toks:=tk}:=λtk=>#[.bl _,H,I.tok tk,Z,q]
 cases ty with
 |int i=>let#[t,q]:=(show∃t,u=Γ.int i t from l);cases q;exact MB W.kitx_int I.kIn SM j e (λz=>nomatch z) d
 |bl b=>cases(show u=Γ.bool b from l);exact MB W.kitx_bool I.kIn SM j e (λz=>nomatch z) d
 | @tup a ys hr=>
  cases(show u=Γ.ref a from l)
  let#[A,_,#[o,h1,C,_],_]:=I.tuple (.inl hr)
  exact MB W.kitx_tuple I.kIn #[o,h1,C] j e (λz=>nomatch z) d
 |str x=>let#[t,q]:=(show∃t,u=Γ.str x t from l);cases q;exact MB W.kitx_str I.kIn SM j e (λz=>nomatch z) d
 |non=>cases(show u=Γ.none from l);exact MB W.kitx_none I.kIn SM j e (λz=>nomatch z) d
 | @lst a ys ea=>
  cases(show u=Γ.ref a from l)
  let#[_,_,n,_,h1]:=(show OI X.prog X.w H s.heap a (.lst ys)from I.hok a _ ea)
  exact MB TB I.kIn #[_,h1,Z] j e (λz=>nomatch z) d
noncomputable def Qq(t:Ε):Ε:=(C2 16).map λd=>((t.idxOf ((d:Nat):Int):Nat):Int)
def dv(t:Ε):(Qq t).length=16:=by simp [Qq]
section
variable{t:Ε}(p:t.Perm O6)
include p
theorem Ap:t.Nodup:=p.nodup_iff.mpr ⋯
theorem vL:t.length=16:=by rw[p.length_eq,Dq]
theorem FL{d:Nat}(h:d<16):((d:Nat):Int)∈t:=p.mem_iff.mpr (J7.mpr #[d,Mq.mpr h,Z])
theorem tJ{i:Nat}(h:i<t.length):0<=t[i]/\t[i]<16:=uA (p.mem_iff.mp (L9 h))
theorem yq{i:Nat}(h:i<t.length):t.idxOf t[i]=i:=(Ap p).idxOf_getElem i h
theorem EG{d:Nat}(h:d<16):(Qq t)[d]'(by rw[dv];exact h)=((t.idxOf ((d:Nat):Int):Nat):Int):=by simp [Qq]
end
end L3
namespace L3
open PySem PySem.Spec L2
def Qt:R9 X a AE:=#[AJ]
def Cw{a:Φ}{p:Pos}{x1}(hg:Gl X "enumerate")(hm:X.mg "enumerate"=none)(ha:QA X [a] ta)(hs:θ [a] X.env=[(false,eval a X.env)]:=by rfl):QI X (.Tuple c x1 tpos) (.Call (.Name "enumerate" p) [a] [] pos) (Av X.K ta):=#[BK (hg:=hg) (hm:=hm) (ha:=ha.h) (hs:=hs)]
def PM(H:Hp)(b:Δ)(c:Nat):Prop:=∃n m k:Int,H b=↑(Dl n m k)/\0<=m/\m<4611686018427387904/\0<=k/\k<=c
structure Rj(b:Δ)(c:Nat)(H H':Hp):Prop where
 kp:∀a o,a≠b->H a=↑o->H' a=↑o
 bx:PM H' b c
def PM.mono{b:Δ}{d:Nat}(h:PM H b c)(l:c<=d):PM H b d:=by
 let#[n,m,k,e,g,a,f,i]:=h
 exact#[n,m,k,e,g,a,f,by lia]
theorem Rj.mono{b:Δ}{d:Nat}(h:Rj b c H H')(l:c<=d):Rj b d H H':=#[h.kp,h.bx.mono l]
def Rj.trans{b:Δ}(x:Rj b c H H1)(y:Rj b d H1 a):Rj b d H a:=#[λc o n e=>y.kp c o n (x.kp c o n e),y.bx]
def _root_.L2.Oq.grc{b:Δ}(x:Oq H H')(h:PM H b c):Rj b c H H':=#[λc o _ e=>x c o e,let⟨n,m,k,e,r⟩:=h;#[n,m,k,x _ _ e,r]]
def Rj.same{b:Δ}(x:Rj b c H H1)(y:Oq H1 a):Rj b c H a:=x.trans (y.grc x.bx)
def zk{b:Δ}(hb:PM H b c)(h:H l=none):l≠b:=λz=>by
 let#[_,_,_,e,_]:=hb;subst z;rw[e]at h;cases h
inductive az|mk (b:Δ)(many:Int)(c:Nat)(h1:vs=[-b,.int many])(h2:PM H b c)(h3:c<1000000000)(h4:0<many)(h5:many<1073741824)(h6:∀r H',0<=r->r<many->Rj b (c+1) H H'->Q (.int r) H')
def Q0{H':Hp}(h:H' p=none)(s:Oq H H'):H p=none:=by
 cases e:H p with
 |none=>rfl
 |some o=>rw[s _ _ e]at h;cases h
def kJ:V->Bool
 | .int _=>true
 |_=>false
def Ft{t:String}(h:kd H x=↑t):kJ x=(Ql t "int"&& ! Ql t "bool"):=by
 cases x with
 |non=>cases h;decide
 |bl b=>cases h;show false=_;decide
 |int i=>cases h;show true=_;decide
 |str x=>cases h;show false=_;decide
 |byt b=>cases h
 |flt b=>cases h
 |ty b=>cases h
 |ref a=>
  rcases mz h with⟨xs,e,rfl⟩|⟨xs,e,rfl⟩
  .show false=_;decide
  .show false=_;decide
def BQ(h:kJ x=true):∃i,x= .int i:=by
 cases x<;>first|exact#[0]|cases h
def yd(h:kJ x=false):gP x=false:=by
 cases x<;>first|rfl|cases h
inductive kh|mk (x:_)(t:_)(h1:vs=[x])(h2:kd H x=↑t)(h3:Q (.bl (kJ x)) H)
inductive RB (H:Hp):Nat->V->V->Prop where
 |int (n:Nat)(i:Int):RB H n (.int i) (.int i)
 |str (n:Nat)(x:Str):RB H n (.str x) (.str x)
 |non (n:Nat):RB H n .non .non
 | tup {n:Nat} {a b:Δ} {xs ys:Β} (h1:Rd H a (.tup xs)) (h2:Rd H b (.tup ys)) (hl:xs.length=ys.length) (hz:xs.length<=ζ)
   (hi:∀(i:Nat) (x y:V),xs[i]? =↑x->ys[i]? =↑y->RB H n x y):RB H (n+1) (-a) (-b)
theorem RB.same(s:Oq H H'):∀{n:Nat} {x y:V},RB H n x y->RB H' n x y:=λh=>by
 induction h with
 |int n i=>exact .int n i
 |str n x=>exact .str n x
 |non n=>exact .non n
 |tup h1 h2 hl hz _ ih=>exact .tup (Rd.same s h1) (Rd.same s h2) hl hz ih
def RB.ints{n:Nat}{b:Δ}{ns:Ε}(h1:Rd H a (.tup (ns.map V.int)))(h2:Rd H b (.tup (ns.map V.int)))(e:ns.length<=ζ):RB H (n+1) (-a) (-b):=
 .tup h1 h2 Z (by rw[JI];exact e) λi x y c d=>by
  rw[c]at d;cases d;let#[z,rfl,_]:=ZF c;exact .int _ _
inductive wf(n:Nat)|mk (x:_)(y:_)(h1:vs=[x,y])(h2:RB H n x y)(h3:∀H',Oq H H'->Q (.bl true) H')
def Oq.sqt{K:ι}(e:Oq H H')(h:OC K H a xs):OC K H' a xs:=by
 rcases h with h|h
 .exact .inl (Rd.same e h)
 .exact .inr h
noncomputable def ZN(t:Ε)(i:Nat):Ε:=(C2 16).map λd=>if((d:Nat):Int)∈t.take i then((t.idxOf ((d:Nat):Int):Nat):Int)else 0
def fP(t:Ε)(i:Nat):(ZN t i).length=16:=by simp [ZN]
def CK(t:Ε):ZN t 0=CC 16 0:=by simp only[ZN,List.take_zero,JX,MK];rfl
def yk{d:Nat}(h:d<16):(ZN t i)[d]'(by rw[fP];exact h)=if((d:Nat):Int)∈t.take i then((t.idxOf ((d:Nat):Int):Nat):Int)else 0:=by simp [ZN]
def FG{t:Ε}(p:t.Perm O6):ZN t t.length=Qq t:=by
 unfold ZN Qq;refine Nc λd a=>?_
 rw[Mm,JK (FL p (Mq.mp a))]
def Ci{t:Ε}(p:t.Perm O6){i:Nat}(hi:i<t.length):(ZN t i).set t[i].toNat (i:Int)=ZN t (i+1):=by
 have b:=tJ p hi;refine KM (by rw[Mg,fP,fP]) λd h1 c=>?_
 have f:d<16:=by rw[fP]at c;exact c
 rw[Kv,yk f,yk f,LP,JQ hi,KN]
 by_cases e:t[i].toNat=d
 .have a:((d:Nat):Int)=t[i]:=by lia
  rw[JK e,JK (by rw[a];exact LS _ (JN.mpr Z)),a,yq p hi]
 .have a:((d:Nat):Int)≠t[i]:=by lia
  rw[JJ e];simp only[J1,JN,a,JY]
inductive Ax(K:ι)|mk (a:Δ)(t:Ε)(h1:vs=[-a])(h2:(OA K H a (t.map V.int)\/OC K H a (t.map V.int)))(h3:t.Perm O6)(h4:∀p H',Oq H H'->H' p=↑(.tup ((Qq t).map V.int))->Q (-p) H')
def vx{X:Cx}{K:ι}(a:X.K=K){k:Nat}(n:Nat)(hc:X.calm=true)(h:UO X es t)(hn:(assignEach es X.env).length=n:=by rfl)(hst:(assignEach es X.env).findIdx? (·.1)=none:=by rfl):QG X (.Tuple es k pos) (xn K n t):=by
 subst a
 exact#[tU (hc:=hc) (h:=h.h) (hn:=hn) (hst:=hst)]
open PyProof.Rows
open Sem (wp)
namespace RV
def Ah:Slot "reversed" "__init__" "object.__init__":=
  .of (owner := "object") (n := "__init__") (by rw[NH,NI];kernel_rfl) nofun nofun nofun
    (by first | exact .inl nofun | exact .inr nofun) (by rw[Nd];kernel_rfl)
def called:TypeCalled "reversed" "reversed.__new__" "object.__init__":=
 #[nofun,nofun,#[8,F.mro_reversed],F.made_reversed,nofun,F.sub_reversed_self,Ah]
def slot_next:Slot "reversed" "__next__" "reversed.__next__":=
  .of (owner := "reversed") (n := "__next__") (by rw[NH,NI];kernel_rfl) nofun nofun nofun
    (by first | exact .inl nofun | exact .inr nofun) (by rw[Nd];kernel_rfl)
def entry_next:entryFor table "reversed.__next__"=some γ.«reversed.__next__»:=entryFor_of_tree (by kernel_rfl)
def pS:Manifest.owners.lookup (String.ofList ['d', 'e', 's', 'r', 'e', 'v', 'e', 'r'].reverse)=↑Manifest.sig_reversed:=by kernel_rfl
def args_next(a:Γ):argsOk "reversed.__next__" #[[a],[]]:=by
 unfold argsOk;rw[signature?_of (id:="reversed.__next__") (n:=['_', '_', 't', 'x', 'e', 'n', '_', '_']) (o:=['d', 'e', 's', 'r', 'e', 'v', 'e', 'r']) (by kernel_rfl) pS]
 kernel_rfl
def slot_iter:Slot "reversed" "__iter__" "reversed.__iter__":=
  .of (owner := "reversed") (n := "__iter__") (by rw[NH,NI];kernel_rfl) nofun nofun nofun
    (by first | exact .inl nofun | exact .inr nofun) (by rw[Nd];kernel_rfl)
def args_iter(a:Γ):argsOk "reversed.__iter__" #[[a],[]]:=by
 unfold argsOk;rw[signature?_of (id:="reversed.__iter__") (n:=['_', '_', 'r', 'e', 't', 'i', '_', '_']) (o:=['d', 'e', 's', 'r', 'e', 'v', 'e', 'r']) (by kernel_rfl) pS]
 kernel_rfl
def entry_iter:entryFor table "reversed.__iter__"=some γ.«dict_keyiterator.__iter__»:=
  entryFor_alias (id':="dict_keyiterator.__iter__") (by kernel_rfl)
    (by first | rfl | decide +kernel | (unfold String.splitOn
                                        simp +decide [String.splitOnAux])) nofun (by kernel_rfl)
def no_tuple:typeLookup (.type "tuple") "__reversed__"=pure none:=by
 rw[NH,NI]
 kernel_rfl
def tup_dict:isSubtype (.type "tuple") (.type "dict")=pure false:=by
 rw[Nd]
 kernel_rfl
def ri_rev:isSubtype (.type "range_iterator") (.type "reversed")=pure false:=by
 rw[Nd]
 kernel_rfl
def tc1(a:Γ):checkTypeCall "reversed" #[[a],[]]=pure ():=by kernel_rfl
end RV
def Rk(h:Ψ)(it t:Δ)(i:Int):Prop:=∃o,h.get? it=↑o/\o.cls= .type "reversed"/\o.data= .fields (B0 [-t,rawInt i])
def wU(l:Δ)(items:Array Γ)(p:items.size<=ζ):
  Meets (γ.«reversed.__new__» #[[.type "reversed",-l],[]]) (λA R s=>s.heap.IsTuple l items/\
   R (.ok (.ret (-s.heap.objs.size))) {s with heap:=s.heap.push {cls:= .type "reversed",data:= .fields (B0 [-l,rawInt ((items.size:Int)-1)])},toks:=s.toks+2}):=
 .of_wp λprog w A R s h=>by
  let#[f,g,d,tk,os]:=s;let#[a,h]:=h
  have i:=F.sub_reversed_self;have j:Θ.TypeIs #[f,g,d,tk,os] (-l) "tuple":=let⟨o,e,c,_⟩:=a;#[o,e,c]
  have r:Ψ.IsTuple (Θ.heap #[f,g,d,tk,os]) l items:=a
  have n:=RV.tup_dict;have m:IsTup (Θ.heap #[f,g,d,tk,os]) l items:=a
  have q:=bJ
  wp_walk using MS j RV.no_tuple,LX n,MS j F.slot_tuple_getitem.lookup,len_tuple m (by omega)
  exact#[0,h]
noncomputable abbrev Eo(a b c:Int):Bool:=γ.Range.rangeFitsLong a&&γ.Range.rangeFitsLong b&&γ.Range.rangeFitsLong c&&γ.Range.rangeFitsLong (Neg.neg c)&&γ.Range.rangeFitsLong (a-c)&&γ.Range.rangeFitsLong (γ.Range.rangeSize a b c)
def uR(r:Δ)(a b c:Int)(t u v:Tok)(e:¬(! Eo a b c)=true):
  Meets (γ.«range.__reversed__» #[[-r],[]]) (λ_ R s=>s.heap.get? r=some {cls:= .type "range",dict:=none,data:= .fields (B0 [.int a t,.int b u,.int c v]),slots:= (B0 [])}/\
   R (.ok (.ret (-s.heap.objs.size))) {s with heap:=s.heap.push {cls:= .type (if Eo a b c then "range_iterator" else "longrange_iterator"),data:= .fields (B0 [rawInt (a+(γ.Range.rangeSize a b c-1)*c),rawInt (γ.Range.rangeSize a b c),rawInt (Neg.neg c)])}}):=
 .of_wp λprog w A R s h=>by let#[f,g,d,tk,os]:=s;let#[i,h]:=h;wp_walk;exact#[0,h]
def AN(n:Nat):γ.Range.rangeSize 0 n 1=n:=by
 unfold γ.Range.rangeSize;rw[JK ⋯]
 split<;>lia
def BG{n:Nat}(hn:(n:Int)<2 ^ 62):Eo 0 n 1=true:=by
 unfold Eo;rw[AN];simp only[γ.Range.rangeFitsLong,Lz,decide_eq_true_eq];lia
def xy(r:Δ)(n:Nat)(t u v:Tok)(hn:(n:Int)<2 ^ 62):
  Meets (γ.«range.__reversed__» #[[-r],[]]) (λ_ R s=>s.heap.get? r=some {cls:= .type "range",data:= .fields (B0 [.int 0 t,.int n u,.int 1 v])}/\
   R (.ok (.ret (-s.heap.objs.size))) {s with heap:=s.heap.push {cls:= .type "range_iterator",data:= .fields (B0 [rawInt ((n:Int)-1),rawInt n,rawInt (-1)])}}):=by
 have g:=uR r 0 n 1 t u v (by rw[BG hn];decide)
 rw[BG hn,AN,JK Z,Int.mul_one,I0]at g;exact g
section
variable{s:Θ}
def Rk.typeIs(x:Rk s.heap it t i):s.TypeIs (-it) "reversed":=by
 let#[o,c,a,_]:=x
 exact#[o,c,a]
def uI{i:Nat}{x:Γ}{Q:Ν->Θ->Prop}(hit:Rk s.heap it t (i:Int))(hl:IsTup s.heap t items)(hx:items[i]? =↑x)(n:items.size<=ζ)
  (j:∀h' tk,Rk h' it t ((i:Int)-1)->Ψ.SameBut it s.heap h'->Q ↑x {s with heap:=h',toks:=tk}):ε (model prog w) A (pyNext (-it)) Q E s:=by
 let#[o,f,m,d]:=id hit;have l:s.TypeIs (-t) "tuple":=let⟨o,e,c,_⟩:=hl;#[o,e,c]
 have p:=bJ;have g:i<items.size:=(Nf.mp hx).1
 unfold pyNext;refine JH (MR (wpAny_callSpecial?_slot (name:=SV "__next__") (Rk.typeIs hit) RV.slot_next
  (LK RV.slot_next (Rk.typeIs hit) RV.entry_next ?_ (RV.args_next _))))
 unfold γ.«reversed.__next__»
 refine JH (LX (a:=(Γ.ref it,[])) Z ?_)
 try dsimp only
 refine JH (Lf f d (x:= .ref t) Z ?_)
 refine JH (Lf f d (x:=rawInt (i:Int)) Z ?_)
 show ε _ _ (if(i:Int)<0 then _ else _) _ _ s
 rw[JJ (by lia)]
 try dsimp only
 refine JH (MS l F.slot_tuple_getitem.lookup ?_)
 rw[JJ (show¬((↑(Γ.builtin "tuple.__getitem__")).isNone=true)from Le)]
 refine JH (wpAny_mkInt ?_)
 have h:IsTup (Θ.heap {s with toks:=s.toks+1}) t items:=hl
 refine JH (MR (getItem_tuple h (by lia) (by lia) (by unfold seqIndex?;rw[JJ (show¬((i:Int)<0) by lia)];simp [g]) hx ?_))
 try dsimp only
 refine JH (Lf (s:={s with toks:=s.toks+1}) f d (x:=rawInt (i:Int)) Z ?_)
 show ε _ _ (setField (-it) 1 (rawInt ((i:Int)-1)) >>= _) _ _ _
 refine JH (Ml (s:={s with toks:=s.toks+1}) f d (by simp) ?_)
 refine JP #[x,Z,JP (j _ _ ?_ (Na ..))]
 exact#[_,Me _ f (MP (Ma d _)),(Sv ..).trans m,by
  rw[Ma d];simp]
def wI{Q:Ν->Θ->Prop}(f:A.handled=none)(hit:Rk s.heap it t (-1))
  (g:∀h',Ψ.ExtBut it s.heap h'->Q none {s with heap:=h'}):ε (model prog w) A (pyNext (-it)) Q E s:=by
 let#[o,d,h,c]:=id hit;unfold pyNext;refine JH (MR (wpAny_callSpecial?_slot (name:=SV "__next__") (Rk.typeIs hit) RV.slot_next
  (LK RV.slot_next (Rk.typeIs hit) RV.entry_next ?_ (RV.args_next _))))
 unfold γ.«reversed.__next__»
 refine JH (LX (a:=(Γ.ref it,[])) Z ?_)
 try dsimp only
 refine JH (Lf d c (x:= .ref t) Z ?_)
 refine JH (Lf d c (x:=rawInt (-1)) Z ?_)
 show ε _ _ (if(-1:Int)<0 then _ else _) _ _ s
 rw[JK ⋯]
 refine JH (Mr ?_)
 refine JH ?_
 show ε _ _ (setField (-it) 1 (rawInt (-1)) >>= _) _ _ _
 refine JH (Ml d c (by simp) ?_)
 have e:=Me (SZ (·.setIfInBounds 1 (rawInt (-1)))) d (MP (Ma c _))
 refine Ml e (Ma c _) (by simp) ?_
 refine JH ?_
 show ε _ _ (newExc (.type "StopIteration") [] >>= _) _ _ _
 refine JH ?_
 simp only[newExc,newTuple];refine JH (LH ?_ (by size_fits))
 refine JH (m:=firstArgMember _ _) (LX (a:=Γ.none) (by first|rfl|(simp only[firstArgMember];rfl)) ?_)
 refine LH ?_ (by size_fits)
 simp only[raiseNew];refine JH (wpAny_handled ?_)
 first|rw[show A.in1.handled=none from f]|rw[f]
 refine JH (JP (wpAny_throw ?_))
 refine JH (wpAny_isInstance (T:="StopIteration") (b:=true) #[_,J2 _ Z,Z] isSubtype_stop ?_)
 exact JP (g _ (((((Na ..).trans (Na ..)).extBut).push _).push _))
def AC{Q:Om}(hit:Rk s.heap it t i)(h:Q (-it) s):ε (model prog w) A (pyIter (-it)) Q E s:=by
 refine wpAny_pyIter_slot (Rk.typeIs hit) RV.slot_iter (LK RV.slot_iter (Rk.typeIs hit) RV.entry_iter ?_ (RV.args_iter _))
 show ε _ _ (ret (-it)) _ _ s
 exact JP #[0,"reversed",_,Rk.typeIs hit,RV.slot_next.lookup,h]
def HL{Q:Om}(hl:s.heap.IsTuple l items)(c:items.size<=ζ)
  (h:∀h' tk,Rk h' s.heap.objs.size l ((items.size:Int)-1)->(∀b o,s.heap.get? b=↑o->h'.get? b=↑o)->Q (-s.heap.objs.size) {s with heap:=h',toks:=tk}):
  ε (model prog w) A (call (.type "reversed") [-l]) Q E s:=by
 refine callType_new RV.called ⋯ (RV.tc1 _) (F.newCall_reversed_1 _) (λa=>F.args_object_init_2 a _) F.entry_reversed_new (wU l items c) #[hl,?_]
 exact#[#[_,J2 _ Z,Z],h _ _ #[_,J2 _ Z,9] λb o e=>JR _ e]
def GP{r:Δ}{n:Nat}{Q:Om}(hr:s.heap.get? r=some {cls:= .type "range",data:= .fields (B0 [.int 0 t,.int n u,.int 1 v])})(hn:(n:Int)<2 ^ 62)
    (h:∀h',IsRangeIter h' s.heap.objs.size ((n:Int)-1) n (-1)->(∀b o,s.heap.get? b=↑o->h'.get? b=↑o)->Q (-s.heap.objs.size) {s with heap:=h'}):
    ε (model prog w) A (call (.type "reversed") [-r]) Q E s:=by
  have f:s.TypeIs (-r) "range":=#[_,hr,Z]
  refine callType_other (U:="range_iterator") (Q₁:=λd c=>d= .ref s.heap.objs.size/\∃h',c={s with heap:=h'}/\IsRangeIter h' s.heap.objs.size ((n:Int)-1) n (-1)/\∀b o,s.heap.get? b=↑o->h'.get? b=↑o) nofun F.create_reversed #[8,F.mro_reversed] F.made_reversed RV.ri_rev (RV.tc1 _) ?_ ?_
  · refine codeAny_of_tree ?_
    show ε _ A.in1.in1 (do checkBuiltinCall "reversed.__new__" #[[.type "reversed",-r],[]];again (.builtin "reversed.__new__" #[[.type "reversed",-r],[]])) _ _ s
    refine JH (LX (F.newCall_reversed_1 _) (JP #[plainId_quiet F.plain_reversed_new _,NJ F.entry_reversed_new ?_]))
    rw[Around.under_plainId F.plain_reversed_new _];unfold γ.«reversed.__new__»
    refine JH (LX (newClass_reversed _) ?_)
    try dsimp only
    refine JH (LX (a:=()) (by first|rfl|kernel_rfl) ?_)
    refine JH (LX (a:=()) (by first|rfl|kernel_rfl) ?_)
    try dsimp only
    refine JH (MS f F.slot_range_reversed.lookup ?_)
    try dsimp only
    refine JH (LX (F.slot_range_reversed.bind _) ?_)
    try dsimp only
    first
    |rw[JJ (show¬((Γ.builtin "range.__reversed__"==Γ.none)=true)from Le)]
    | (show ε _ _ (if(Γ.builtin "range.__reversed__"==Γ.none)=true then _ else _) _ _ _
       rw[JJ (show¬((Γ.builtin "range.__reversed__"==Γ.none)=true)from Le)])
    refine JH (Mr ?_)
    refine JH (m:=runValue (.call (.builtin "range.__reversed__") ⟨[-r],[]⟩)) (show ε _ _ (call (.builtin "range.__reversed__") [-r]) _ _ _ from
      Mh F.slot_range_reversed f F.entry_range_reversed (F.args_range_reversed_1 _) (xy r n t u v hn) ⟨hr,?_⟩)
    first
    |exact JP ⟨rfl,_,rfl,J2 _ rfl,λb o e=>JR _ e⟩
    |exact JH (JP (JP ⟨rfl,_,rfl,J2 _ rfl,λb o e=>JR _ e⟩))
  · rintro d c ⟨rfl,h',rfl,hi,hk⟩
    exact⟨⟨_,hi,rfl⟩,h h' hi hk⟩
end
noncomputable def xg(K:ι)(a:Δ)(n:Nat):It:=
 ⟨λi H=>i<n/\∃xs,OA K H a xs/\xs.length=n,λi H x H'=>H'=H/\∀xs,OA K H a xs->xs[n-1-i]? =↑x,λi _=>n<=i⟩
noncomputable def ww(K:ι)(a:Δ)(n:Nat):It:=
 ⟨λi H=>i<n/\∃xs,OC K H a xs/\xs.length=n,λi H x H'=>H'=H/\∀xs,OC K H a xs->xs[n-1-i]? =↑x,λi _=>n<=i⟩
noncomputable def wb(n:Nat):It:=⟨λi _=>i<n,λi H x H'=>H'=H/\x= .int ((n:Int)-1-i),λi _=>n<=i⟩
def wc{K:ι}(a it:Δ)(n:Nat):Rq P w K tg (xg K a n) [it] it (λi h=>i<=n/\h.IsRevIter it a ((n:Int)-1-i)) where
 mem:=by simp
 obj:=λi h st b g=>by
  have e:b=it:=by simpa using g
  subst e;let#[_,o,e,c,d]:=st
  exact#[o,e,λv z=>by rw[d]at z;cases z]
 keep:=λi h h' st k=>#[st.1,st.2.at λo e=>k it (by simp) o e]
 item:=by
  intro X t y A G i tx s σ H E I m st r;subst t y A;let#[hi,xs,F,J]:=r;let#[L,T,p,Y]:=I.list F;have j:n-1-i<xs.length:=J.symm▸IJ hi
  let#[u,O,N]:=T.get (JQ j)
  let#[B,f1,f2,C,D,q]:=m it (by simp)
  have W:=GF hi;have f:=st.2;rw[W]at f;refine wpAny_pyNext_rev_item f p.isList (x:=u) (by simpa using O) λh' l M=>?_
  have R:L2.Ov X tx σ H {s with heap:=h'}:=I.turned (t':=s.toks) (λb o g e=>(M.2 b g).trans e) B f1 C D q
  let#[o,e,c,d]:=id l;refine#[u,Z,gp (s:={s with heap:=h'}) e c d ⋯ #[_,H,R,N,#[Z,λys U=>by rw[I.list_inj U F];exact JQ j],#[by lia,?_],λb g=>(m b g).1]]
  have Q:=DZ hi;rw[<- Q];exact l
 done:=by
  intro X t y A G i tx s σ H E I m st r;subst t y A;let#[B,f1,f2,C,D,q]:=m it (by simp)
  have hi:i=n:=Ky st.1 r
  have f:=st.2;rw[show(n:Int)-1-i= -1 by lia]at f
  exact wpAny_pyNext_rev_end (I.ok.hd G) f λh' S=>#[Z,I.turned (t':=s.toks) (λb o g e=>S b o g e) B f1 C D q]
 self:=λ_ _ _ _ _ st h=>wpAny_pyIter_revIter st.2 h
def BD{K:ι}(a it:Δ)(n:Nat):Rq P w K tg (ww K a n) [it] it (λi h=>i<=n/\Rk h it a ((n:Int)-1-i)) where
 mem:=by simp
 obj:=λi h st b g=>by
  have e:b=it:=by simpa using g
  subst e;let#[_,o,e,c,d]:=st
  exact#[o,e,λv z=>by rw[d]at z;cases z]
 keep:=λi h h' st k=>#[st.1,let⟨o,e,r⟩:=st.2;#[o,k it (by simp) o e,r]]
 item:=by
  intro X y A B L i tx s σ H E I m st t;subst y A B;let#[hi,xs,G,N]:=t;let#[O,M,p,hz]:=I.tuple G;have J:=M.length;have j:n-1-i<xs.length:=N.symm▸IJ hi
  let#[u,S,R]:=M.get (JQ j)
  let#[C,f1,f2,D,F,q]:=m it (by simp)
  have e1:=GF hi;have f:=st.2;rw[e1]at f;refine uI f p (x:=u) (by simpa using S) (by simp;lia) λh' tk l Q=>?_
  have U:L2.Ov X tx σ H {s with heap:=h',toks:=tk}:=I.turned (t':=tk) (λb o g e=>(Q.2 b g).trans e) C f1 D F q
  let#[o,e,c,d]:=id l;refine#[u,Z,gp (s:={s with heap:=h',toks:=tk}) e c d ⋯ #[_,H,U,R,#[Z,λys Y=>by rw[I.tuple_inj Y G];exact JQ j],#[by lia,?_],λb g=>(m b g).1]]
  have T:=DZ hi;rw[<- T];exact l
 done:=by
  intro X y A B L i tx s σ H E I m st t;subst y A B;let#[C,f1,f2,D,F,q]:=m it (by simp)
  have hi:i=n:=Ky st.1 t
  have f:=st.2;rw[show(n:Int)-1-i= -1 by lia]at f
  exact wI (I.ok.hd L) f λh' W=>#[Z,I.turned (t':=s.toks) (λb o g e=>W b o g e) C f1 D F q]
 self:=λ_ _ _ _ _ st h=>AC st.2 h
def Ao{K:ι}(it:Δ)(n:Nat):Rq P w K tg (wb n) [it] it (λi h=>IsRangeIter h it ((n:Int)-1+(i:Nat)*(-1)) ((n:Int)-(i:Nat)) (-1)) where
 mem:=by simp
 obj:=λi h st b a=>by
  have e:b=it:=by simpa using a
  subst e
  exact#[_,st,λv z=>by
   have A:Sg _=Sf v:=z
   cases A]
 keep:=λi h h' st k=>k it (by simp) _ st
 item:=by
  intro X u f g q i tx s σ H E I d st r;subst u f g;let#[m,f1,f2,j,p,l]:=d it (by simp)
  have W:=Walks.range (prog:=X.prog) (w:=X.w) (I.ok.hd q) it ((n:Int)-1) (-1) n
  refine W.item i s _ _ r st λv h' tk B c kk=>?_
  let#[t,rfl]:=B;have x:L2.Ov X tx σ H {s with heap:=h',toks:=tk}:=I.turned (λb o a e=>kk b o (by simpa using a) e) m f1 j p l
  refine#[0,gp (s:={s with heap:=h',toks:=tk}) (n:="range_iterator") c Z Z ⋯ #[.int ((n:Int)-1-i),H,x,#[t,?_],#[9],c,λb a=>(d b a).1]]
  rw[show(n:Int)-1+(i:Nat)*(-1)=(n:Int)-1-i by lia]
 done:=by
  intro X u f g q i tx s σ H E I d st r;subst u f g;let#[m,f1,f2,j,p,l]:=d it (by simp)
  exact wpAny_pyNext_range_end (I.ok.hd q) st (by have:n<=i:=r;lia) λh' y=>#[Z,I.turned (t':=s.toks) (λb o a e=>y b o a e) m f1 j p l]
 self:=λ_ _ _ _ _ st h=>NS st h
section
variable{K:ι}
def Cf:bootBuiltins "reversed"=↑(.type "reversed"):=by kernel_rfl
def Ge(K:ι)(ta:TA):TI:=λσ H R=>ta σ H λc H1=>∃a,c=[-a]/\((∃xs,OA K H1 a xs/\R (xg K a xs.length) H1)\/(∃xs,OC K H1 a xs/\R (ww K a xs.length) H1)\/∃n:Nat,H1 a=↑(.rng 0 n)/\(n:Int)<2 ^ 62/\R (wb n) H1)
def GM{a:Φ}{p:Pos}(hg:Gl X "reversed")(hm:X.mg "reversed"=none)(ha:PA X [a] ta)(hn:ZH a=true:=by rfl):
  PI X tg (.Call (.Name "reversed" p) [a] [] pos) (Ge X.K ta):=by
 intro tx s σ H R I h;refine Call_ (bQ I hg hm Cf (MH (qG (ha pos tx s σ H _ I h) λE d B=>?_) (eA hn) Z))
 let#[F,H1,g,C,w]:=B;let#[l,e,w]:=w;subst e;let#[u,rfl,A]:=C.one;cases A;have i:∀b∈[d.heap.objs.size],ao X tx H1 b:=λb z=>by
  rw[JN.mp z];exact g.fpOk (JL _) (g.hok.fresh (JL _))
 rcases w with⟨xs,j,q⟩|⟨xs,j,q⟩|⟨n,j,m,q⟩
 .let#[c,x,r,D]:=g.list j
  have f:=x.length;refine call_reversed_list r.isList ?_
  have hi:(d.heap.push (revObj l ((c.toArray.size:Int)-1))).IsRevIter d.heap.objs.size l ((c.toArray.size:Int)-1):=#[_,J2 _ Z,9]
  refine wpAny_pyIter_revIter hi ?_
  refine#[d.heap.objs.size,[d.heap.objs.size],8,H1,Z,g.kept (t':=d.toks) λb o e=>JR _ e,wc l _ xs.length,#[Li _,?_],i,q]
  rw[show(xs.length:Int)-1-((0:Nat):Int)=(c.toArray.size:Int)-1 by simp [f]]
  exact hi
 .let#[c,x,r,D]:=g.tuple j
  have f:=x.length;refine HL (show d.heap.IsTuple l c.toArray from r) (by simp;lia) λh' tk hi hk=>AC hi ?_
  refine#[d.heap.objs.size,[d.heap.objs.size],8,H1,Z,g.kept (t':=tk) hk,BD l _ xs.length,#[Li _,?_],i,q]
  rw[show(xs.length:Int)-1-((0:Nat):Int)=(c.toArray.size:Int)-1 by simp [f]]
  exact hi
 .let#[t,u,v,y]:=g.hok l _ j
  refine GP y m λh' hi hk=>NS hi ?_
  refine#[d.heap.objs.size,[d.heap.objs.size],8,H1,Z,g.kept (t':=d.toks) hk,Ao _ n,?_,i,q]
  show IsRangeIter _ _ _ _ _
  rw[show(n:Int)-1+((0:Nat):Int)*(-1)=(n:Int)-1 by lia,show(n:Int)-((0:Nat):Int)=n by lia]
  exact hi
def CT(K:ι)(tl:TE):TI:=λσ H R=>tl σ H λx H1=>∃a,x= .ref a/\((∃xs,OA K H1 a xs)/\R (ji K a) H1\/(∃xs,OC K H1 a xs)/\R (i7 K a) H1)
def F9(hl:PE X l tl):PI X tg l (CT X.K tl):=by
 intro tx s σ H R I h;refine qG (hl tx s σ H _ I h) λv c u=>?_
 let#[x,H1,d,m,j]:=u;let#[a,e,j]:=j;subst e;cases m;have g:∀b∈[c.heap.objs.size],ao X tx H1 b:=λb t=>by
  rw[JN.mp t];exact d.fpOk (JL _) (d.hok.fresh (JL _))
 rcases j with⟨⟨xs,i⟩,q⟩|⟨⟨xs,i⟩,q⟩
 .let#[f,r,p,n]:=d.list i
  refine MY p.isList ?_
  exact#[c.heap.objs.size,[c.heap.objs.size],8,H1,Z,d.kept (t':=c.toks) λb o e=>JR _ e,pW a _,#[_,J2 _ Z,9],g,q]
 .let#[f,r,p,n]:=d.tuple i
  refine Md (show c.heap.IsTuple a f.toArray from p) ?_
  exact#[c.heap.objs.size,[c.heap.objs.size],8,H1,Z,d.kept (t':=c.toks) λb o e=>JR _ e,mj a _,#[_,J2 _ Z,9],g,q]
abbrev bD(J:It)(g:TG)(tb:TS)(D:OU)(σ:L2.St)(H:Hp):Prop:=∃W:Nat->Nat->L2.St->Hp->Prop,(∃m,W 0 m σ H)/\∀i m σ H,W i m σ H->
      (J.stop i H/\D.nx σ H)\/(J.go i H/\∃N:L2.St->Hp->Prop,(∀σ' H',N σ' H'->∃m',m'<m/\W (i+1) m' σ' H')/\∀x H',J.yld i H x H'->g x σ H' λσ2 H2=>tb {D with nx:=N,ct:=N,bk:=D.nx} σ2 H2)
def jt{J:It}{n:Nat}(Pv:Nat->L2.St->Hp->Prop)(f:Pv 0 σ H)(d:∀i σ H,i<n->Pv i σ H->J.go i H)(hst:∀H,J.stop n H)
  (hs:∀i x σ H H',i<n->Pv i σ H->J.yld i H x H'->g x σ H' λc l=>tb {D with nx:=Pv (i+1),ct:=Pv (i+1),bk:=D.nx} c l)(hd:∀σ H,Pv n σ H->D.nx σ H):bD J g tb D σ H:=by
 exists λi m σ H=>m=n-i/\i<=n/\Pv i σ H,#[n,by simp,Li _,f]
 rintro i m σ H ⟨rfl,hi,p⟩
 by_cases a:i<n
 .exact .inr #[d i σ H a p,Pv (i+1),λh H' j=>#[n-(i+1),gN a,Z,a,j],λx H' y=>hs i x σ H H' a p y]
 .have e:i=n:=by lia
  subst e;exact .inl #[hst H,hd σ H p]
def Do(Pv:Nat->L2.St->Hp->Prop)(d:Pv 0 σ H)(hl:∀i σ H,Pv i σ H->OA K H a xs)
  (hs:∀i x σ H,i<xs.length->xs[xs.length-1-i]? =↑x->Pv i σ H->g x σ H λc e=>tb {D with nx:=Pv (i+1),ct:=Pv (i+1),bk:=D.nx} c e)(hd:∀σ H,Pv xs.length σ H->D.nx σ H):bD (xg K a xs.length) g tb D σ H:=
 jt Pv d (λi σ H hi p=>#[hi,xs,hl i σ H p,Z]) (λ_=>JL _) (λi x σ H H' hi p y=>by
  let#[rfl,y]:=y;exact hs i x σ H' hi (y xs (hl i σ H' p)) p) hd
def CN(Pv:Nat->L2.St->Hp->Prop)(d:Pv 0 σ H)(hl:∀i σ H,Pv i σ H->OC K H a xs)
  (hs:∀i x σ H,i<xs.length->xs[xs.length-1-i]? =↑x->Pv i σ H->g x σ H λc e=>tb {D with nx:=Pv (i+1),ct:=Pv (i+1),bk:=D.nx} c e)(hd:∀σ H,Pv xs.length σ H->D.nx σ H):bD (ww K a xs.length) g tb D σ H:=
 jt Pv d (λi σ H hi p=>#[hi,xs,hl i σ H p,Z]) (λ_=>JL _) (λi x σ H H' hi p y=>by
  let#[rfl,y]:=y;exact hs i x σ H' hi (y xs (hl i σ H' p)) p) hd
def CY{n:Nat}(Pv:Nat->L2.St->Hp->Prop)(c:Pv 0 σ H)
  (hs:∀i σ H,i<n->Pv i σ H->g (.int ((n:Int)-1-i)) σ H λa d=>tb {D with nx:=Pv (i+1),ct:=Pv (i+1),bk:=D.nx} a d)(hd:∀σ H,Pv n σ H->D.nx σ H):bD (wb n) g tb D σ H:=
 jt Pv c (λi σ H hi p=>hi) (λ_=>JL _) (λi x σ H H' hi p y=>by
  let#[rfl,rfl]:=y;exact hs i σ H' hi p) hd
end
end L3
namespace L3
open PySem PySem.Spec L2
def yf{a:Φ}{p:Pos}(hg:Gl X "reversed")(hm:X.mg "reversed"=none)(ha:QA X [a] ta)(hn:ZH a=true:=by rfl):QI X tg (.Call (.Name "reversed" p) [a] [] pos) (Ge X.K ta):=#[GM (hg:=hg) (hm:=hm) (ha:=ha.h) (hn:=hn)]
def fu(hl:QE X l tl):QI X tg l (CT X.K tl):=#[F9 (hl:=hl.h)]
def ZO(x:Int):Prop:=0<=x/\x<16
def Qn(r:Ε):Prop:=∀x∈r,ZO x
def DW(n i:Nat):Nat:=if i=0 then n-1 else i-1
def ah(r:Ε)(i:Nat):Int:=r.getD (DW r.length i) 0
noncomputable def nV(t:Ε)(s:Int)(r:Ε)(i:Nat):Ε:=r.set i (t.getD ((r.getD i 0+s+i+ah r i)%16).toNat 0)
noncomputable def kC(b:Ε)(s:Int)(r:Ε)(i:Nat):Ε:=r.set i ((b.getD (r.getD i 0).toNat 0-s-i-ah r i)%16)
noncomputable def cf(t:Ε)(s:Int)(r:Ε):Nat->Ε
 |0=>r
 |n+1=>nV t s (cf t s r n) n
noncomputable def cU(b:Ε)(s:Int)(r:Ε):Nat->Ε
 |0=>r
 |n+1=>cU b s (kC b s r n) n
noncomputable def ZG(t:Ε):Ε->Ε->Ε
 | [],r=>r
 |s::ks,r=>ZG t ks (cf t s r r.length)
noncomputable def ai(b:Ε):Ε->Ε->Ε
 | [],r=>r
 |s::ks,r=>cU b s (ai b ks r) r.length
def Db:(nV t s r i).length=r.length:=Mg ..
def tK{b:Ε}:(kC b s r i).length=r.length:=Mg ..
theorem Zp{t:Ε}{s:Int}{r:Ε}:∀{n:Nat},(cf t s r n).length=r.length
 |0=>rfl
 |n+1=>by rw[cf,Db,Zp]
theorem uc{b:Ε}{s:Int}:∀{n:Nat} {r:Ε},(cU b s r n).length=r.length
 |0,_=>rfl
 |n+1,r=>by rw[cU,uc,tK]
theorem gS{t:Ε}:∀{ks r:Ε},(ZG t ks r).length=r.length
 | [],_=>rfl
 |s::ks,r=>by rw[ZG,gS,Zp]
theorem km{b:Ε}:∀{ks r:Ε},(ai b ks r).length=r.length
 | [],_=>rfl
 |s::ks,r=>by rw[ai,uc,km]
def tF(h:Qn r)(hx:ZO x):Qn (r.set i x):=λy a=>by
 rcases List.mem_or_eq_of_mem_set a with z|z
 .exact h y z
 .rw[z];exact hx
def cH(x:Int):ZO (x%16):=#[Mn _ ⋯,Mb _ ⋯]
def oz(h:Qn r)(i:Nat):ZO (r.getD i 0):=by
 rw[Lj]
 by_cases hi:i<r.length
 .rw[JQ hi];exact h _ (L9 hi)
 .rw[Ng (by lia)];exact#[⋯,⋯]
def Cq{t:Ε}(p:t.Perm O6):Qn t:=λx a=>uA (p.mem_iff.mp a)
def Cy{t:Ε}(p:t.Perm O6)(h:Qn r):Qn (nV t s r i):=tF h (oz (Cq p) _)
def tO{b:Ε}(h:Qn r):Qn (kC b s r i):=tF h (cH _)
theorem gX{t:Ε}(p:t.Perm O6){s:Int}{r:Ε}(h:Qn r):∀{n:Nat},Qn (cf t s r n)
 |0=>h
 |n+1=>Cy p (gX p h)
theorem sS{b:Ε}{s:Int}:∀{n:Nat} {r:Ε},Qn r->Qn (cU b s r n)
 |0,_,h=>h
 |n+1,_,h=>sS (n:=n) (tO h)
theorem rS{t:Ε}(p:t.Perm O6):∀{ks r:Ε},Qn r->Qn (ZG t ks r)
 | [],_,h=>h
 |s::ks,_,h=>rS (ks:=ks) p (gX p h)
theorem sU{b:Ε}:∀{ks r:Ε},Qn r->Qn (ai b ks r)
 | [],_,h=>h
 |s::ks,_,h=>sS (sU (ks:=ks) h)
def rl{r:Ε}{i:Nat}(h:i<r.length):(r.set i x).getD i 0=x:=by
 rw[Lj,MX h];rfl
def uU{r:Ε}{i j:Nat}(h:i≠j):(r.set i x).getD j 0=r.getD j 0:=by
 rw[Lj,Nv h,<- Lj]
def Ii{n i:Nat}(h2:2<=n)(hi:i<n):i≠DW n i:=by unfold DW;split<;>lia
def F6{r:Ε}{i:Nat}(h2:2<=r.length)(hi:i<r.length):ah (r.set i x) i=ah r i:=by
 unfold ah;rw[Mg,uU (Ii h2 hi)]
def BW{r:Ε}{i:Nat}(hi:i<r.length):r.set i (r.getD i 0)=r:=by
 rw[Lj,JQ hi];exact List.set_getElem_self hi
def BI{t:Ε}(p:t.Perm O6)(h:ZO z):(Qq t).getD (t.getD z.toNat 0).toNat 0=z:=by
 have c:z.toNat<t.length:=by rw[vL p];have:=h.1;have:=h.2;lia
 have e:t.getD z.toNat 0=t[z.toNat]:=by rw[Lj,JQ c];rfl
 have bd:=tJ p c;have a:t[z.toNat].toNat<(Qq t).length:=by rw[dv];exact Jv bd.2
 rw[e,Lj,JQ a,MO,EG p (by rw[dv]at a;exact a)]
 have d:=I1 bd.1;rw[d,yq p c]
 have:=h.1
 lia
def Dx{t:Ε}(p:t.Perm O6){i:Nat}(hr:Qn r)(h2:2<=r.length)(hi:i<r.length):kC (Qq t) s (nV t s r i) i=r:=by
 unfold kC nV;rw[rl hi,F6 h2 hi,List.set_set,BI p (cH _)];have a:=oz hr i;have e:((r.getD i 0+s+i+ah r i)%16-s-i-ah r i)%16=r.getD i 0:=by
  rw[KO,KO,Int.sub_emod,Int.emod_emod,<- Int.sub_emod,KB (r.getD i 0),KB (r.getD i 0),KB s,Int.add_sub_cancel,Int.emod_eq_of_lt a.1 a.2]
 rw[e,BW hi]
theorem tm{t:Ε}(p:t.Perm O6){s:Int}{r:Ε}(hr:Qn r)(h2:2<=r.length):∀{n:Nat},n<=r.length->cU (Qq t) s (cf t s r n) n=r
 |0,_=>rfl
 |n+1,hn=>by
  rw[cf,cU,Dx p (gX p hr) (by rw[Zp];exact h2) (by rw[Zp];lia)]
  exact tm p hr h2 (by lia)
theorem uv{t:Ε}(p:t.Perm O6):∀{ks r:Ε},Qn r->2<=r.length->ai (Qq t) ks (ZG t ks r)=r
 | [],_,_,_=>rfl
 |s::ks,r,hr,h2=>by
  rw[ai,ZG,uv p (gX p hr) (by rw[Zp];exact h2),gS,Zp,tm p hr h2 (JL _)]
theorem rZ(t:Ε):∀(ks:Ε) (s:Int) (r:Ε),ZG t (ks++[s]) r=cf t s (ZG t ks r) r.length
 | [],_,_=>rfl
 |a::ks,s,r=>by rw[KP,ZG,rZ t ks s,ZG,Zp]
def Sq(K:ι)(H:Hp)(a:Δ)(xs:Β):Prop:=OA K H a xs\/OC K H a xs
def Sq.same{K:ι}(e:Oq H H')(h:Sq K H a xs):Sq K H' a xs:=h.elim (λh=> .inl (e.seq h)) λh=> .inr (Oq.sqt e h)
theorem Sq.lst{K:ι}{H:Hp}(h:H a=↑(.lst xs)):Sq K H a xs:= .inl (OA.of h)
theorem Sq.tup{K:ι}{H:Hp}(h:H a=↑(.tup xs)):Sq K H a xs:= .inr (OC.of h)
inductive nJ(K:ι)|mk (a b c:Δ)(t ks ds:Ε)(h1:vs=[-a,-b,-c])(h2:Sq K H a (t.map V.int))(h3:Sq K H b (ks.map V.int))(h4:Sq K H c (ds.map V.int))(h5:t.length=16)(h6:1<=ds.length)(h7:ds.length<64)(h8:∀p H',Oq H H'->H p=none->H' p=↑(.tup ((ZG t ks ds).map V.int))->Q (-p) H')
inductive rc(K:ι)|mk (a b c:Δ)(t ks ds:Ε)(h1:vs=[-a,-b,-c])(h2:Sq K H a (t.map V.int))(h3:Sq K H b (ks.map V.int))(h4:Sq K H c (ds.map V.int))(h5:t.Perm O6)(h6:Qn ds)(h7:1<=ds.length)(h8:ds.length<64)(h9:∀p H',Oq H H'->H p=none->H' p=↑(.tup ((ai (Qq t) ks ds).map V.int))->Q (-p) H')
def cQ{r:Ε}{i:Nat}{z:Int}(e:z=(i:Int))(h:i<r.length):Q3 (r.map V.int) z=↑(.int (r.getD i 0)):=by
 rw[EC e (mU h),Lj,JQ h];rfl
def Aq{r:Ε}{i:Nat}{z:Int}(e:z=(i:Int)-1)(h:i<r.length):Q3 (r.map V.int) z=↑(.int (ah r i)):=by
 subst e;unfold ah DW
 by_cases a:i=0
 .subst a
  rw[JK Z];have c:=KI h;unfold Q3 bS;rw[JI,JJ (by lia),JK (by lia)]
  have d:((((0:Nat):Int)-1)+(r.length:Int)).toNat=r.length-1:=by rw[Int.add_comm];exact KQ r.length 1
  show(r.map V.int)[((((0:Nat):Int)-1)+(r.length:Int)).toNat]? =_
  rw[d,mU c,Lj,JQ c];rfl
 .rw[JJ a]
  exact cQ (Int.ofNat_sub (Nat.pos_of_ne_zero a)).symm (Gx (KA i 1) h)
def Sq.ix{K:ι}{v:V}{Q:VK}(h:Sq K H a xs)(e:Q3 xs i=↑v)(q:Q v H):F5 K (-a) (.int i) H Q\/DL K (-a) (.int i) H Q:=
 h.elim (λh=> .inl #[a,xs,i,v,9,h,e,q]) λh=> .inr #[a,xs,i,v,9,h,e,q]
section
variable{K:ι}
def FD(c:Sq K H0 a xs)(Pv:Nat->L2.St->Hp->Prop)(d:Pv 0 σ H)(hk:∀i f H',Pv i f H'->Oq H0 H')
  (hs:∀i x σ H,xs[i]? =↑x->Pv i σ H->g x σ H λe h=>tb {D with nx:=Pv (i+1),ct:=Pv (i+1),bk:=D.nx} e h)(hd:∀σ H,Pv xs.length σ H->D.nx σ H):
  ((∃xs,OA K H a xs)/\bD (ji K a) g tb D σ H)\/((∃xs,OC K H a xs)/\bD (i7 K a) g tb D σ H):=by
 rcases c with c|c
 .exact .inl #[#[xs,(hk _ _ _ d).seq c],bz Pv d (λi σ H _ p=>(hk i σ H p).seq c) hs hd]
 .exact .inr #[#[xs,Oq.sqt (hk _ _ _ d) c],oA Pv d (λi σ H _ p=>Oq.sqt (hk i σ H p) c) hs hd]
def DB(c:Sq K H0 a xs)(Pv:Nat->L2.St->Hp->Prop)(d:Pv 0 σ H)(hk:∀i f H',Pv i f H'->Oq H0 H')
  (hs:∀i x σ H,i<xs.length->xs[xs.length-1-i]? =↑x->Pv i σ H->g x σ H λe h=>tb {D with nx:=Pv (i+1),ct:=Pv (i+1),bk:=D.nx} e h)(hd:∀σ H,Pv xs.length σ H->D.nx σ H):
  (∃xs,OA K H a xs/\bD (xg K a xs.length) g tb D σ H)\/(∃xs,OC K H a xs/\bD (ww K a xs.length) g tb D σ H)\/(∃n:Nat,H a=↑(.rng 0 n)/\(n:Int)<2 ^ 62/\bD (wb n) g tb D σ H):=by
 rcases c with c|c
 .exact .inl #[xs,(hk _ _ _ d).seq c,Do Pv d (λi σ H p=>(hk i σ H p).seq c) hs hd]
 .exact .inr (.inl #[xs,Oq.sqt (hk _ _ _ d) c,CN Pv d (λi σ H p=>Oq.sqt (hk i σ H p) c) hs hd])
end
def aN(s:Oq H a)(h:H l=none):Oq H (Ot a l o):=λd u e=>by
 rw[qk (qr e h)];exact s _ _ e
def ny{ks:Ε}{j:Nat}{s:Int}(h:ks[j]? =↑s):ks.take (j+1)=ks.take j++[s]:=by rw[LP,h];rfl
def Bi{ks:Ε}{j:Nat}{s:Int}(h:ks[j]? =↑s):ks.drop j=s::ks.drop (j+1):=by
 let#[a,e]:=JZ.mp h;rw[Kz a,e]
inductive SE (H:Hp):Nat->V->V->Prop where
 |int (n:Nat)(i:Int):SE H n (.int i) (.int i)
 |str (n:Nat)(x:Str):SE H n (.str x) (.str x)
 |non (n:Nat):SE H n .non .non
 |bl (n:Nat)(b:Bool):SE H n (.bl b) (.bl b)
 | tup {n:Nat} {a b:Δ} {xs ys:Β} (h1:Rd H a (.tup xs)) (h2:Rd H b (.tup ys)) (hl:xs.length=ys.length)
   (hi:∀(i:Nat) (x y:V),xs[i]? =↑x->ys[i]? =↑y->SE H n x y):SE H (n+1) (-a) (-b)
 | lst {n:Nat} {a b:Δ} {xs ys:Β} (h1:H a=↑(.lst xs)) (h2:H b=↑(.lst ys)) (hl:xs.length=ys.length)
   (hi:∀(i:Nat) (x y:V),xs[i]? =↑x->ys[i]? =↑y->SE H n x y):SE H (n+1) (-a) (-b)
def fU(n:Nat):((C2 n).all λ_=>true)=true:=by simp
section
open SeqAt
def QK(r:OB xs us){j:Nat}(h:j<us.length):∃x,xs[j]? =↑x/\Oz x us[j]:=by
 have e:=r.length;have c:j<xs.length:=by lia
 let#[u,a,d]:=r.get (JQ c)
 rw[JQ h]at a;cases a
 exact⟨_,JQ c,d⟩
def ym(I:L2.Ov X tx σ H s)(h:SE H n x y):∀{v u:Γ} {A:SO},Oz x v->Oz y u->A.units+n<cLine->EqAt A s v u true:=by
 induction h with
 |int n i=>rintro v u A ⟨t,rfl⟩ ⟨D,rfl⟩ _;have:=EqAt.int_int (A:=A) (s:=s) i t i D;rwa [LQ]at this
 |str n z=>rintro v u A ⟨t,rfl⟩ ⟨D,rfl⟩ _;have:=EqAt.str_str (A:=A) (s:=s) z t z D;rwa [LQ]at this
 |non n=>
  intro v u A g l _
  cases(show v=Γ.none from g)
  cases(show u=Γ.none from l)
  exact Sy _
 |bl n b=>
  intro v u A g l _
  cases(show v=Γ.bool b from g)
  cases(show u=Γ.bool b from l)
  exact Sy _
 | @tup n a b xs ys h1 h2 hl _ ih=>
  intro v u A g l F
  cases(show v=Γ.ref a from g)
  cases(show u=Γ.ref b from l)
  by_cases c:a=b
  .rw[c];exact Sy _
  .let#[f,m,q,_]:=I.tuple (.inl h1)
   let#[d,o,p2,_]:=I.tuple (.inl h2)
   have G:=m.length;have E:=o.length;have e:=TC (A:=A) (e:=λ_=>true) (show s.heap.IsTuple a f.toArray from q) (show s.heap.IsTuple b d.toArray from p2) (by lia) (λj w B=>by
    let#[x,ex,p]:=QK m (j:=j) (by simpa using w)
    let#[y,r,C]:=QK o (j:=j) (by simpa using B)
    exact ih j x y ex r p C (by rw[MT];lia))
   rw[fU,show(f.toArray.size==d.toArray.size)=true by simp;lia]at e
   exact EqAt.of_refs c e
 | @lst n a b xs ys h1 h2 hl _ ih=>
  intro v u A g l F
  cases(show v=Γ.ref a from g)
  cases(show u=Γ.ref b from l)
  by_cases c:a=b
  .rw[c];exact Sy _
  .let#[f,m,q,_]:=I.list (OA.of h1)
   let#[d,o,p2,_]:=I.list (OA.of h2)
   have G:=m.length;have E:=o.length;have e:=RcAt.lists (A:=A) (e:=λ_=>true) q.isList p2.isList (by simp;lia) (by lia) (λj w B=>by
    let#[x,ex,p]:=QK m (j:=j) (by simpa using w)
    let#[y,r,C]:=QK o (j:=j) (by simpa using B)
    exact ih j x y ex r p C (by rw[MT];lia))
   rw[fU]at e;exact EqAt.of_refs c e
def HS(I:L2.Ov X tx σ H s){A:SO}(h:SE H n x y)(m:Oz x v)(l:Oz y u)(hu:A.units+n<cLine):RcAt A s v u true/\RcNeAt A s v u false:=by
 cases h with
 |int n i=>
  let#[t,rfl]:=m;let#[C,rfl]:=l;have g:=RcAt.int_int (A:=A) (s:=s) i t i C
  have f:=RcNeAt.int_int (A:=A) (s:=s) i t i C
  rw[LQ]at g f
  exact#[g,f]
 |str n z=>
  let#[t,rfl]:=m;let#[C,rfl]:=l;have g:=RcAt.str_str (A:=A) (s:=s) z t z C
  have f:=RcNeAt.str_str (A:=A) (s:=s) z t z C
  rw[LQ]at g f
  exact#[g,f]
 |non n=>
  cases(show v=Γ.none from m)
  cases(show u=Γ.none from l)
  exact#[RcAt.none_none,RcNeAt.none_none]
 |bl n b=>
  cases(show v=Γ.bool b from m)
  cases(show u=Γ.bool b from l)
  have g:=RcAt.bool_bool (A:=A) (s:=s) b b
  have f:=RcNeAt.bool_bool (A:=A) (s:=s) b b
  rw[LQ]at g f
  exact#[g,f]
 | @tup n a b xs ys h1 h2 hl ih=>
  cases(show v=Γ.ref a from m)
  cases(show u=Γ.ref b from l)
  let#[d,B,w,_]:=I.tuple (.inl h1)
  let#[c,r,p2,_]:=I.tuple (.inl h2)
  have J:=B.length;have G:=r.length;have q:∀j (o:j<d.toArray.size) (p:j<c.toArray.size),EqAt A.in1 s d.toArray[j] c.toArray[j] ((λ_=>true) j):=λj o p=>by
   let#[x,ex,D]:=QK B (j:=j) (by simpa using o)
   let#[y,E,F]:=QK r (j:=j) (by simpa using p)
   exact ym I (ih j x y ex E) D F (by rw[MT];lia)
  have g:=TC (A:=A) (e:=λ_=>true) (show s.heap.IsTuple a d.toArray from w) (show s.heap.IsTuple b c.toArray from p2) (by lia) q
  have f:=RcNeAt.tuples (A:=A) (e:=λ_=>true) (show s.heap.IsTuple a d.toArray from w) (show s.heap.IsTuple b c.toArray from p2) (by lia) q
  rw[fU,show(d.toArray.size==c.toArray.size)=true by simp;lia]at g f
  exact#[g,f]
 | @lst n a b xs ys h1 h2 hl ih=>
  cases(show v=Γ.ref a from m)
  cases(show u=Γ.ref b from l)
  let#[d,B,w,_]:=I.list (OA.of h1)
  let#[c,r,p2,_]:=I.list (OA.of h2)
  have J:=B.length;have G:=r.length;have q:∀j (o:j<d.toArray.size) (p:j<c.toArray.size),EqAt A.in1 s d.toArray[j] c.toArray[j] ((λ_=>true) j):=λj o p=>by
   let#[x,ex,D]:=QK B (j:=j) (by simpa using o)
   let#[y,E,F]:=QK r (j:=j) (by simpa using p)
   exact ym I (ih j x y ex E) D F (by rw[MT];lia)
  have g:=RcAt.lists (A:=A) (e:=λ_=>true) w.isList p2.isList (by simp;lia) (by lia) q
  have f:=RcNeAt.lists (A:=A) (e:=λ_=>true) w.isList p2.isList (by simp;lia) (by lia) q
  rw[fU]at g f
  exact#[g,f]
inductive U2 (b:Bool)(x:V)(y:V)(H:Hp)(Q:VK):Prop
 |mk (n:_)(h1:n<=32)(h2:SE H n x y)(h3:Q (.bl b) H)
def Jj(b:Bool):R2:=λx y H Q=>U2 b x y H Q
def HC{k:Nat}(hr:OL k X.A):Qj X (SL .NotEq) (Jj false):=by
 intro tx s σ H x y v u Q I c a h;let#[n,d,e,q]:=h
 exact(HS I e c a (by have:=hr.un;lia)).2 _ _ _ _ #[.bl _,H,I,Z,q]
end
end L3
namespace L3
open PySem PySem.Spec PyProof.Rows L2
open Sem (wp)
noncomputable def DV(x:Str):It:=#[λi _=>i<x.cps.size,λi H v H'=>H'=H/\∃c,x.cps[i]? =↑c/\v= .str #[(B0 [c])],λi _=>x.cps.size<=i]
def Dv{K:ι}(it:Δ)(x:Str)(t:Tok):Rq P w K tg (DV x) [it] it (λi h=>h.IsStrIter it "str_ascii_iterator" x t i) where
 mem:=by simp
 obj:=λi h st b a=>by
  have e:b=it:=by simpa using a
  subst e;let#[o,e,c,d]:=st
  exact#[o,e,λv z=>by rw[d]at z;cases z]
 keep:=λi h h' st k=>let⟨o,e,r⟩:=st;#[o,k it (by simp) o e,r]
 item:=by
  intro X n p q B i tx s σ H E I g st m;subst n p q;let#[A,f1,f2,C,D,l]:=g it (by simp)
  have W:=Walks.strAscii (prog:=X.prog) (w:=X.w) (I.ok.hd B) it x t
  refine W.item i s _ _ m st λv h' tk F f kk=>?_
  let#[c,u,y,rfl]:=F;have G:L2.Ov X tx σ H {s with heap:=h',toks:=tk}:=I.turned (λb o a e=>kk b o (by simpa using a) e) A f1 C D l
  let#[o,e,L,d]:=id f
  exact#[0,gp (s:={s with heap:=h',toks:=tk}) e L d ⋯ #[.str #[(B0 [c])],H,G,#[u,Z],#[Z,c,y,Z],f,λb a=>(g b a).1]]
 done:=by
  intro X n p q B i tx s σ H E I g st m;subst n p q;let#[A,f1,f2,C,D,l]:=g it (by simp)
  have j:x.cps.size<=i:=m
  exact wpAny_pyNext_ascii_end (I.ok.hd B) st (by simp [j]) λh' J=>#[Z,I.turned (t':=s.toks) (λb o a e=>J b o a e) A f1 C D l]
 self:=λ_ _ _ _ _ st h=>wpAny_pyIter_striter_ascii st h
def GU(tl:TE):TI:=λσ H R=>tl σ H λv H1=>∃x,v= .str x/\x.cps.all (· <128)=true/\R (DV x) H1
def Hk(hl:PE X l tl):PI X tg l (GU tl):=by
 intro tx s σ H R I h;refine qG (hl tx s σ H _ I h) λv c i=>?_
 let#[x,H1,a,f,d]:=i;let#[z,rfl,j,q]:=d;let#[t,rfl]:=f;refine wpAny_pyIter_ascii j ?_
 refine#[c.heap.objs.size,[c.heap.objs.size],8,H1,Z,a.kept (t':=c.toks) λb o e=>JR _ e,Dv _ z t,#[_,J2 _ Z,9],λb g=>?_,q]
 rw[JN.mp g];exact a.fpOk (JL _) (a.hok.fresh (JL _))
def Bb(hl:QE X l tl):QI X tg l (GU tl):=#[Hk hl.h]
def ET{x:Str}{g:TG}{tb:TS}{D:OU}{σ:L2.St}{H:Hp}(Pv:Nat->L2.St->Hp->Prop)(d:Pv 0 σ H)
  (hs:∀i c σ H,x.cps[i]? =↑c->Pv i σ H->g (.str #[(B0 [c])]) σ H λa f=>tb {D with nx:=Pv (i+1),ct:=Pv (i+1),bk:=D.nx} a f)(hd:∀σ H,Pv x.cps.size σ H->D.nx σ H):bD (DV x) g tb D σ H:=
 jt Pv d (λi σ H hi p=>hi) (λ_=>JL _) (λi v σ H H' hi p y=>by
  let#[rfl,c,e,rfl]:=y;exact hs i c σ H' e p) hd
section
variable{X:Cx}{o e:Φ}{es:Ι}{to:TE}{t:TA}{name:Str}{apos cpos:Pos}{T id:String}{r:V->Β->Hp->VK->Prop}
def Qw(i:PlainAttrs T)(f:Slot T name id)(h:typeOf (.builtin id)=pure (.type "method_descriptor"))(hm:i8 X id r)(ho:QE X o to)(ha:QA X (e::es) t)
  (c:attributeBase o name X.env (eval o X.env)=eval o X.env:=by rfl)
  (g:((backTo cpos (θ (e::es) X.env)).all (λx=> ! x.1)&&(backToKw cpos (keywordEach [] X.env)).all (λx=>x.1.isSome)
   &&decide ((e::es).length+([]:Χ).length+(if([]:Χ).isEmpty then 0 else 1)<30))=true:=by rfl)
  (d:(apos.endLine==cpos.line)=true:=by rfl)(hs:hG X e es:=by rfl)(a:hI X es cpos:=by rfl):
  QE X (.Call (.Attribute o name apos) (e::es) [] cpos) (II X.K T r to t):=#[Ih i f h hm ho.h ha.h c g d hs a]
def zy:i8 X "list.append" vq:=AR
end
theorem fq(ns:Ε):∀n,n<=ns.length->preSum (λi=>ns.getD i 0) n=(ns.take n).sum
 |0,_=>by simp [preSum]
 |n+1,h=>by
  have a:n<ns.length:=by lia
  rw[preSum,fq ns n (by lia),LP,JQ a,KN,List.sum_append,Lj,JQ a]
  simp
theorem yp{B:Int}:∀{ns:Ε},(∀z∈ns,0<=z/\z<=B)->0<=ns.sum/\ns.sum<=ns.length*B
 | [],_=>#[by simp,by simp]
 |n::r,h=>by
  have h1:=h n J3;have c:=yp (ns:=r) λz a=>h z (F0 _ a)
  rw[List.sum_cons,LI];exists by lia
  have:(((r.length+1:Nat):Int))*B=r.length*B+B:=by rw[Int.natCast_add,Int.add_mul];simp
  lia
def Ab(hc:X.calm=true):zY X (.builtin "sum") (λxs H Q=>∃(p:Δ) (ns:Ε),xs=[-p]/\Sq X.K H p (ns.map V.int)/\ns.length<=1000/\(∀z∈ns,0<=z/\z<=1000000)/\Q (.int ns.sum) H):=by
 intro tx s σ H xs S Q I r h;let#[p,ns,rfl,m,U,J,q]:=h;let#[u,rfl,P]:=QU r;cases P;have bd:∀n,n<=ns.length->0<=preSum (λi=>ns.getD i 0) n/\preSum (λi=>ns.getD i 0) n<=1000000000:=λn N=>by
  rw[fq ns n N];have h1:=yp (B:=1000000) (ns:=ns.take n) λz D=>J z (List.mem_of_mem_take D)
  have T:(ns.take n).length<=1000:=by rw[LO];lia
  lia
 have C:∀j,j<ns.length->InLong ((λi=>ns.getD i 0) j)/\InLong (preSum (λi=>ns.getD i 0) (j+1)):=λj l=>by
  have R:=bd (j+1) (by lia)
  have W:0<=ns.getD j 0/\ns.getD j 0<=1000000:=by
   rw[Lj,JQ l];exact J _ (L9 l)
  unfold InLong;simp only
  lia
 have K:preSum (λi=>ns.getD i 0) ns.length=ns.sum:=by rw[fq ns _ (JL _),Mm]
 have val:∀{a:Ζ},OB (ns.map V.int) a->∀(i:Nat) (v:Γ),a.toArray[i]? =↑v->∃t,v= .int ((λi=>ns.getD i 0) i) t:=λ{a} g i v O=>by
  have y:a[i]? =↑v:=by simpa using O
  have hi:i<a.length:=(JZ.mp y).1
  let#[x,ex,M]:=QK g hi;let#[z,rfl,D]:=ZF ex;let#[t,L]:=M;exists t
  rw[(JZ.mp y).2]at L;rw[L]
  show Γ.int z t=Γ.int (ns.getD i 0) t
  rw[Lj,D];rfl
 rcases m with m|m
 .let#[a,g,w,D]:=I.list m
  have c:ns.length=a.length:=by have:=g.length;rwa [JI]at this
  have d:p<s.heap.objs.size:=by let#[_,e,_]:=w.isList;exact JS e
  refine call_sum_walk (MY w.isList ?_)
  refine#[s.heap.objs.size,[s.heap.objs.size,p],[s.heap.objs.size],a.toArray.size,8,λi=>ns.getD i 0,Z,Walks.list (A:=X.A.in1) (I.ok.hd hc) _ p (J4 d) a.toArray,
   #[#[_,J2 _ Z,9],w.isList.push _],λb f=>?_,val g,λj l=>C j (by simp at l;lia),λh' tk t' hk=>?_]
  .have sz:(s.heap.push {cls:= .type "list_iterator",data:= .fields (B0 [-p,.int 0 0])}).objs.size=s.heap.objs.size+1:=LJ ..
   simp only[JO,JX,JY]at f
   show b<(Ψ.push s.heap _).objs.size
   rw[LJ];rcases f with rfl|rfl
   .exact LU _
   .exact MN d
  .have G:preSum (λi=>ns.getD i 0) a.toArray.size=ns.sum:=by rw[J9,<- c];exact K
   rw[G];refine#[.int _,H,I.kept (h':=h') (t':=tk) λb o q=>hk b o (λE=>?_) (JR _ q),#[0],q]
   rw[JN.mp E]at q;exact LC _ (JS q)
 .let#[a,g,w,D]:=I.tuple m
  have c:ns.length=a.length:=by have:=g.length;rwa [JI]at this
  have F:s.heap.IsTuple p a.toArray:=w
  have d:p<s.heap.objs.size:=by let#[_,e,_]:=F;exact JS e
  refine call_sum_walk (Md F ?_)
  refine#[s.heap.objs.size,[s.heap.objs.size,p],[s.heap.objs.size],a.toArray.size,8,λi=>ns.getD i 0,Z,Walks.tuple (A:=X.A.in1) (I.ok.hd hc) _ p (J4 d) a.toArray,
   #[#[_,J2 _ Z,9],let⟨o,e,r⟩:=F;#[o,JR _ e,r]],λb f=>?_,val g,λj l=>C j (by simp at l;lia),λh' tk t' hk=>?_]
  .simp only[JO,JX,JY]at f
   show b<(Ψ.push s.heap _).objs.size
   rw[LJ];rcases f with rfl|rfl
   .exact LU _
   .exact MN d
  .have G:preSum (λi=>ns.getD i 0) a.toArray.size=ns.sum:=by rw[J9,<- c];exact K
   rw[G];refine#[.int _,H,I.kept (h':=h') (t':=tk) λb o q=>hk b o (λE=>?_) (JR _ q),#[0],q]
   rw[JN.mp E]at q;exact LC _ (JS q)
def Cu:CO X (λx y H Q=>∃(p:Δ) (xs:Β) (i:Nat) (v:V),x= .ref p/\y= .int (i:Int)/\H p=↑(.lst xs)/\xs[i]? =↑v/\Q v H):=by
 intro tx s σ H o i A C Q I d m h;let#[p,xs,j,v,rfl,rfl,f,a,q]:=h;cases d;let#[t,rfl]:=m;let#[c,r,e,w]:=I.list (OA.of f)
 let#[u,l,g]:=r.get a;have B:=r.length;have z:=bJ;have n:j<xs.length:=(JZ.mp a).1
 exact wpAny_getItem_list e.isList (by lia) (by lia) (by simpa using l) #[v,H,I,g,q]
def Zo(z:Str):Prop:=(∀c∈z.cps.toList,97<=c/\c<=122)/\1<=z.cps.toList.length/\z.cps.toList.length<=8
def rM(h:Zo z):z.cps.all (· <128)=true:=by
 rw[Array.all_eq_true'];intro c a
 have:=h.1 c (by simpa using a)
 simp;lia
def Ct(c:Nat):Ε:=[((c:Int)-97)%16,((c:Int)-97)/16]
def Z7(a:Μ):Ε:=a.flatMap Ct
def AV(a:Μ)(c:Nat):Z7 (a++[c])=Z7 a++Ct c:=by simp [Z7]
def oN(a:Μ):(Z7 a).length=2*a.length:=by
 induction a with
 |nil=>rfl
 |cons c r ih=>simp only[Z7,List.flatMap_cons,J0,LI]at ih⊢;rw[ih];simp [Ct];lia
noncomputable def nD(ds:Ε)(j:Nat):Nat->Int
 |0=>0
 |n+1=>nD ds j n+if n%4=j then ds.getD n 0 else 0
noncomputable def bE(ds:Ε)(n:Nat):Ε:=[nD ds 0 n,nD ds 1 n,nD ds 2 n,nD ds 3 n]
def AQ(ds:Ε)(n:Nat):(bE ds n).set (n%4) ((bE ds n).getD (n%4) 0+ds.getD n 0)=bE ds (n+1):=by
 have h:n%4=0\/n%4=1\/n%4=2\/n%4=3:=by lia
 rcases h with h|h|h|h<;>simp [bE,nD,h]
def eQ(ds:Ε):Ε:=(bE ds ds.length).map (· %16)
def rR(ds:Ε):(eQ ds).length=4:=Z
inductive oE|mk (z:_)(h1:vs=[.str z])(h2:Zo z)(h3:∀l H',Oq H H'->H l=none->H' l=↑(.lst ((Z7 z.cps.toList).map V.int))->Q (-l) H')
inductive nA(K:ι)|mk (a b:Δ)(z:Str)(t ks:Ε)(h1:vs=[-a,-b,.str z])(h2:Sq K H a (t.map V.int))(h3:Sq K H b (ks.map V.int))(h4:Zo z)(h5:t.length=16)(h6:∀p H',Oq H H'->H p=none->H' p=↑(.tup ((ZG t ks (eQ (Z7 z.cps.toList))).map V.int))->Q (-p) H')
def EV{a:Μ}{i c:Nat}(h:a[i]? =↑c):a.take (i+1)=a.take i++[c]:=by rw[LP,h];rfl
def vp{z:Str}{i c:Nat}(h:z.cps[i]? =↑c):z.cps.toList[i]? =↑c:=by simpa using h
def DA{X:Cx}{a:Scope}{y z:Str}{j k:Nat}(e:a.kind= .function)(d:∀x∈a.names,x.2= .local->a.names.lookup x.1=some .local)(c:∀x∈a.names,x.2≠ .cell)
  (free:∀x∈a.names,x.2= .free->x.1∈([y,z]:Α))(h1:X.N[j]? =↑y)(h2:X.env.kindOf y=some .cell)(h:(relabel a X.env).names.lookup y=some .cell)
  (m:X.N[k]? =↑z)(l:X.env.kindOf z=some .cell)(n:(relabel a X.env).names.lookup z=some .cell):Pa X a [y,z] [j,k]:=
 #[e,d,c,free,Z,λi o y' f g=>by
  match i with
  |0=>cases f;cases g;exact#[h1,h2,h]
  |1=>cases f;cases g;exact#[m,l,n]
  |i+2=>simp at f]
def BO{X:Cx}{c d:Δ}(h:X.env.cells.lookup y=↑c)(g:X.env.cells.lookup z=↑d):∀u e,([(y,c),(z,d)]:List (Str×Δ)).lookup u=↑e->X.env.cells.lookup u=↑e:=λu e a=>by
 by_cases f:u=y
 .subst f
  simp at a
  rw[<- a];exact h
 .by_cases i:u=z
  .subst i
   simp [LL,show(u==y)=false from by simpa using f]at a
   rw[<- a];exact g
  .simp [LL,show(u==y)=false from by simpa using f,show(u==z)=false from by simpa using i]at a
section
variable{prog:Ξ}{w:Ω}{A:SO}{E:Om}{s:Θ}
theorem lI{it t:Δ}{items:Array Γ}(h:t≠it):∀(n i:Nat) (s:Θ) (Q:Ζ->Θ->Prop),s.heap.IsListIter it t i->s.heap.IsList t items->i+n<=items.size->
  (∀h',h'.IsListIter it t (i+n)->Ψ.SameBut it s.heap h'->Q ((items.toList.drop i).take n) {s with heap:=h'})->ε (model prog w) A (draw (-it) n) Q E s
 |0,i,s,Q,hit,_,_,hQ=>by
  show ε _ _ (pure []) Q E s
  refine JP ?_
  have:=hQ s.heap hit (Ψ.SameBut.refl ..)
  simpa using this
 |n+1,i,s,Q,hit,ht,hle,hQ=>by
  have g:i<items.size:=by lia
  show ε _ _ (pyNext (-it) >>= _) Q E s
  refine JH (wpAny_pyNext_list_item hit ht (x:=items[i]) (by simp [g]) λl c a=>?_)
  have m:(Θ.heap {s with heap:=l}).IsList t items:=let⟨o,e,r⟩:=ht;#[o,a.extBut _ _ h e,r]
  refine JH (LD (lI h n (i+1) _ _ c m (by lia) λj d f=>JP ?_))
  have p:items.toList.drop i=items[i]::items.toList.drop (i+1):=by simp [Kz,g]
  have z:=hQ j (by rw[show i+(n+1)=i+1+n by lia];exact d) (a.trans f)
  rw[p,List.take_succ_cons]at z;exact z
def uk{a:List (Bool×(Γ->Sem Unit))}{Q:Unit->Θ->Prop}(u:A.handled=none)(j:s.heap.IsList t items)
  (hn:a.length=items.size)(g:a.findIdx? (·.1)=none)
  (h:∀h',Ψ.ExtBut s.heap.objs.size s.heap h'->ε (model prog w) A (assignInOrder (a.map (·.2)) items.toList) Q E {s with heap:=h'}):
  ε (model prog w) A (unpack (-t) a) Q E s:=by
 have l:t≠s.heap.objs.size:=by let#[o,v,_]:=j;exact J4 (JS v)
 unfold unpack;rw[hn,g];refine JH (LD ?_)
 unfold unpackItems;refine JH ?_
 unfold notIterableAtAll;refine JH (MS j.typeIs F.slot_list_iter.lookup ?_)
 refine JP ?_
 simp only[K0,MK];refine JH (LD (MY j ?_))
 refine JH (LD (lI l items.size 0 _ _ #[_,J2 _ Z,9] (j.push _) (by lia) λp d c=>?_))
 have n:List.take items.size (List.drop 0 items.toList)=items.toList:=by
  rw[K2];exact NZ (by simp)
 rw[n];rw[JJ (by simp)]
 have f:p.IsList t items:=let⟨o,e,r⟩:=j.push _;#[o,c.extBut _ _ l e,r]
 refine JH (LD (wpAny_pyNext_list_end u d f (by simp) λm i=>?_))
 simp only[Option.isSome_none,K0,MK];exact JP (h m λb o q e=>i b o q (c.extBut b o q (JR _ e)))
inductive U5 (K:ι)(n:Nat)(t:bK)(v:V)(σ:L2.St)(H:Hp)(Q:L2.St->Hp->Prop):Prop
 |mk (a:_)(xs:_)(h1:v= .ref a)(h2:Sq K H a xs)(h3:xs.length=n)(h4:t xs σ H Q)
def F4(K:ι)(n:Nat)(t:bK):TG:=λv σ H Q=>U5 K n t v σ H Q
def Gh{k:Nat}{n:Nat}(hc:X.calm=true)(h:vD X es t)
  (hn:(assignEach es X.env).length=n:=by rfl)(hst:(assignEach es X.env).findIdx? (·.1)=none:=by rfl):PG X (.Tuple es k pos) (F4 X.K n t):=by
 intro tx s σ H v u Q I r d;let#[a,xs,i,c,f,d]:=d;rcases c with c|c
 .subst i
  cases r;let#[j,g,m,q]:=I.list c;rw[assign_Tuple];refine JH (L5 (uk (I.ok.hd hc) m.isList (by simp [hn,<- f,g.length]) hst λh' p=>?_))
  have l:L2.Ov X tx σ H {s with heap:=h'}:=I.kept (t':=s.toks) λb o e=>p b o (J4 (JS e)) e
  exact h tx _ σ H xs _ Q l (by simpa using g) d
 .exact tU hc h hn hst tx s σ H v u Q I r #[a,xs,i,c,f,d]
def cP{k:Nat}{n:Nat}(hc:X.calm=true)(h:UO X es t)
  (hn:(assignEach es X.env).length=n:=by rfl)(hst:(assignEach es X.env).findIdx? (·.1)=none:=by rfl):QG X (.Tuple es k pos) (F4 X.K n t):=#[Gh hc h.h hn hst]
end
def cu(c d:Int):Ε:=[c%16,c/16%16,c/256,d]
def cA(c d:Int):Ε:=cu c d++[(cu c d).sum%16]
def ot(t ks:Ε)(z:Str):Ε:=ZG t ks (eQ (Z7 z.cps.toList))
noncomputable def cz(t ks:Ε)(z:Str)(c d:Int):Ε:=ZG t (ot t ks z) (cA c d)
noncomputable def rH(r:Ε):Option (Int×Int):=if r.getD 4 0=(r.getD 0 0+r.getD 1 0+r.getD 2 0+r.getD 3 0)%16 then ↑(r.getD 0 0+r.getD 1 0*16+r.getD 2 0*256,r.getD 3 0)else none
noncomputable def aF(t ks:Ε)(z:Str)(ds:Ε):Option (Int×Int):=rH (ai (Qq t) (ot t ks z) ds)
def gn(c d:Int):(cA c d).length=5:=Z
def DD(c d:Int):(cu c d).sum=c%16+c/16%16+c/256+d:=by simp [cu];lia
def kE{c:Int}(e:0<=c)(h1:c<4096)(hd:ZO d):Qn (cA c d):=λx a=>by
 simp only[cA,cu,KP,NF,JO,JX,JY]at a;rcases a with rfl|rfl|rfl|rfl|rfl
 .exact cH _
 .exact cH _
 .exact#[Int.ediv_nonneg e ⋯,Int.ediv_lt_of_lt_mul ⋯ h1]
 .exact hd
 .exact cH _
def yh{c:Int}(a:0<=c)(h1:c<4096):rH (cA c d)=↑(c,d):=by
 have e:(cA c d)=[c%16,c/16%16,c/256,d,(c%16+c/16%16+c/256+d)%16]:=by unfold cA;rw[DD];rfl
 unfold rH;rw[e]
 show(if(c%16+c/16%16+c/256+d)%16=(c%16+c/16%16+c/256+d)%16 then ↑(c%16+c/16%16*16+c/256*256,d)else none)=_
 rw[JK Z,show c%16+c/16%16*16+c/256*256=c by rw[show c/256=c/16/16 from(Int.ediv_ediv_of_nonneg (x:=c) (y:=16) (z:=16) ⋯).symm,show(256:Int)=16*16 from Z,<- Int.mul_assoc,KB,<- Int.add_mul,Int.mul_comm (c/16/16),K3,Int.mul_comm,K3]]
def ED{r:Ε}(hl:r.length=5):∃a b c d e:Int,r=[a,b,c,d,e]:=by
 match r,hl with
 | [a,b,c,d,e],_=>exact#[a,b,c,d,e,Z]
def Bl(t ks:Ε)(z:Str)(c d:Int):(cz t ks z c d).length=5:=by unfold cz;rw[gS,gn]
def Du{t:Ε}(p:t.Perm O6){c:Int}(a:0<=c)(h1:c<4096)(hd:ZO d):Qn (cz t ks z c d):=rS p (kE a h1 hd)
def AO{t:Ε}(p:t.Perm O6){c:Int}(a:0<=c)(h1:c<4096)(hd:ZO d):aF t ks z (cz t ks z c d)=↑(c,d):=by
 unfold aF cz;rw[uv p (kE a h1 hd) (by rw[gn];decide),yh a h1]
def ja(H:Hp)(x:V):Option (Int×Int)->Prop
 |none=>x= .non
 |some (c,d)=>∃p,x= .ref p/\H p=↑(.tup [.int c,.int d])
inductive Gi|mk (c:Int)(h1:vs=[.int c])(h2:∀p H',Oq H H'->H' p=↑(.tup [.int (c%16),.int (c/16%16),.int (c/256)])->Q (-p) H')
inductive v5(K:ι)|mk (a b:Δ)(z:Str)(age c d:Int)(t ks:Ε)(h1:vs=[-a,-b,.str z,.int age,.int c,.int d])(h2:Sq K H a (t.map V.int))(h3:Sq K H b (ks.map V.int))(h4:Zo z)(h5:t.length=16)(h6:0<=c)(h7:c<4096)(h8:ZO d)(h9:∀p pc H',Oq H H'->H' p=↑(.tup [.str z,.int age,-pc])->H' pc=↑(.tup ((cz t ks z c d).map V.int))->Q (-p) H')
inductive sX(K:ι)|mk (a b pr pc:Δ)(z:Str)(age:Int)(t ks ds:Ε)(h1:vs=[-a,-b,-pr])(h2:Sq K H a (t.map V.int))(h3:Sq K H b (ks.map V.int))(h4:Sq K H pr [.str z,.int age,-pc])(h5:Sq K H pc (ds.map V.int))(h6:Zo z)(h7:t.Perm O6)(h8:ds.length=5)(h9:Qn ds)(h10:∀x H',Oq H H'->ja H' x (aF t ks z ds)->Q x H')
def Al{X:Cx}{pos:Pos}{i j:Nat}{x y:Str}{a b:Φ}{pt:Pos}{kt k2 pt2}(hc:X.calm=true)(hN:X.N.Nodup)(hi:X.N[i]? =↑x)(f:X.N[j]? =↑y)(e:i≠j)
  (hx:X.env.scope.names.lookup x=some .local)(g:X.env.scope.names.lookup y=some .local)(ha:QA X [a,b] ta)
  (hw:swappedStores [.Tuple [.Name x c,.Name y d] kt pt] (.Tuple [a,b] k2 pt2) X.env=pure (some [x,y]):=by rfl)
  (hs:swapsWithSole [.Tuple [.Name x c,.Name y d] kt pt] (.Tuple [a,b] k2 pt2) pos.line X.env=pure false:=by rfl):
  QS X (.Assign [.Tuple [.Name x c,.Name y d] kt pt] (.Tuple [a,b] k2 pt2) pos) (FZ i j ta):=#[HY hc hN hi f e hx g ha.h hw hs]
def Qm(K:ι)(H:Hp)(a:Δ)(f:Str)(v:V):Prop:=∃C dx fs,H a=↑(.ins C dx fs)/\RT K C/\OF K C f/\fs.lookup f=↑v
def bZ(K:ι)(H:Hp)(a:Δ)(f:Str)(v:V)(H':Hp):Prop:=∃C dx fs,H a=↑(.ins C dx fs)/\RT K C/\OF K C f/\fs.length<1000/\H'=Ot H a (.ins C dx (Q6 f v fs))
def Ad(C:Δ)(H:Hp)(a:Δ)(m:Str):Prop:=∃dx fs,H a=↑(.ins C dx fs)/\fs.lookup m=none
def Ed(K:ι)(ta:TE)(f:Str):TE:=λσ H Q=>ta σ H λx H1=>∃a v,x= .ref a/\Qm K H1 a f v/\Q v H1
def Ia(K:ι)(ta tv:TE)(f:Str):TS:=λD σ H=>tv σ H λy H1=>ta σ H1 λx c=>∃a H3,x= .ref a/\bZ K c a f y H3/\D.nx σ H3
def BT(K:ι)(ta tv:TE)(rd:V->V->Hp->VK->Prop)(f:Str):TS:=λD σ H=>ta σ H λx H1=>∃a v,x= .ref a/\Qm K H1 a f v/\
 tv σ H1 λy d=>rd v y d λz H3=>(∀o,H1 a=↑o->H3 a=↑o)/\∃c,bZ K H3 a f z c/\D.nx σ c
def AS(C:Δ)(m:Str)(sp:Sp)(ta:TE)(t:TA):TE:=λσ H Q=>ta σ H λx H1=>∃a,x= .ref a/\Ad C H1 a m/\t σ H1 λc d=>sp (x::(c++[])) d Q E0
def qz(he:QE X e ta)(hb:attributeBase e f X.env (eval e X.env)=eval e X.env:=by rfl):QE X (.Attribute e f pos) (Ed X.K ta f):=#[by
 intro tx s σ H Q I h;refine vi hb (qG (he.h tx s σ H _ I h) λu p j=>?_)
 let#[x,H1,d,g,a,v,ex,#[C,dx,fs,i,c,n,l],q]:=j;subst ex
 obtain rfl:u=Γ.ref a:=g
 exact mR d i c n l λt r m o=>#[v,H1,m,o,q]]
def zt(ha:QE X o ta)(hv:QE X value tv)(hs:swapsWith value ↑(.Attribute o f pos') pos.line X.env=pure false:=by rfl):QS X (.Assign [.Attribute o f pos'] value pos) (Ia X.K ta tv f):=#[by
 intro tx s σ H D I h;refine plainObj_wpAny_Assign_Attribute (qG (hv.h tx s σ H _ I h) λu e ⟨y,H1,d,p,q⟩=>qG (ha.h tx e σ H1 _ d q) λj B v=>?_) hs
 let#[x,z,r,g,a,H3,ex,#[C,dx,fs,m,c,n,l,i],t]:=v;subst ex i
 obtain rfl:j=Γ.ref a:=g
 exact lW r m c n l p λA w=>#[σ,_,w,t]]
def oF{rd:V->V->Hp->VK->Prop}(d:Gg X i rd)(ha:QE X o ta)(hv:QE X value tv):QS X (.AugAssign (.Attribute o f tpos) i value pos) (BT X.K ta tv rd f):=#[by
 intro tx s σ H D I h;refine wpAny_AugAssign_AttributeAny (qG (ha.h tx s σ H _ I h) λp Y e=>?_)
 let#[x,H1,K,j,a,v,ex,#[C,dx,fs,r,c,n,l],q]:=e;subst ex
 obtain rfl:p=Γ.ref a:=j
 refine mR K r c n l λu M G J=>qG (hv.h tx M σ H1 _ G q) λF m ⟨y,Q,R,N,A⟩=>qG (d tx m σ Q v y u F _ R J N A) λU s4 e=>?_
 let#[z,H3,E,T,_,H4,#[W,O,w,g,c',L,S,B],t]:=e;subst B;exact lW E g c' L S T λs5 P=>#[σ,_,P,t]]
structure Mf(P:Ξ)(w:Ω)(K:ι)(mg:On)(base:Ψ)(C:Δ)(m:Str)(ps:Α)(k:Nat)(sp:Sp):Prop where
 ex:∃(f:Δ) (fd:FuncData),P5 P w K mg base ci k f fd ps sp/\Tn K C m f/\Pn K fd ps []
structure O7(K:ι)(C:Δ)(m Vm:Str)(st:δ)(ps:Α):Prop where
 ex:∃(f:Δ) (fd:FuncData),SI K m Vm st f fd/\Tn K C m f/\Pn K fd ps []
structure Mi(P:Ξ)(w:Ω)(K:ι)(mg:On)(base:Ψ)(C:Δ)(x:Str)(ps:Α)(k:Nat)(sp:Sp):Prop where
 ex:∃(f:Δ) (fd:FuncData),P5 P w K mg base ci k f fd ps sp/\Mk K C f/\mg x=↑(-C)/\Pn K fd ps []
section
variable{K:ι}{X:Cx}{k:Nat}{sp:Sp}{o e:Φ}{apos:Pos}{to:TE}{name:Str}{cpos:Pos}{T id:String}{r:V->Β->Hp->VK->Prop}
def O7.mq{m Vm:Str}{st:δ}{ps N:Α}{k:Nat}{sp:Sp}(a:O7 K C m Vm st ps)(S:Os N ps (ql st))
  (c:∀(f:Δ) (cdv:Γ) (A:SO) (outer:Ρ) (s:Θ) (H:Hp) (vs:Β) (Q:VK) (E:XK),OL k (A.deeper (envOfC Vm (ql st) s.heap.objs.size f cdv))->sp vs H Q E->
   ∃t,R9 (QD ci P w K mg base N Vm (ql st) f cdv A outer s H E).nox (Qk st) t/\t {nx:=λ_ H'=>Q .non H',rt:=Q} (Zm N vs) H)(d:∀vs H Q E,sp vs H Q E->vs.length=ps.length:=by intro vs H Q E h;first|(cases h;subst_vars;rfl)|((repeat first|let#[rfl,h]:=h|let#[_,h]:=h);all_goals rfl)):Mf P w K mg base C m ps (k+1) sp:=by
 let#[f,fd,F,m,bd]:=a.ex
 exact#[f,fd,F.ok S d (λcdv A outer s H vs Q E e h=>let⟨t,q1,q2⟩:=c f cdv A outer s H vs Q E e h;#[t,q1.h,q2]),m,bd]
def Mf.mi{x:Str}{ps:Α}{k:Nat}{sp:Sp}(a:Mf P w K mg base C "__init__" ps k sp)(mk:TK K C=true)(c:Si K (-C)=true)(hx:mg x=↑(-C)):Mi P w K mg base C x ps k sp:=
 let⟨f,fd,F,m,bd⟩:=a.ex;#[f,fd,F,#[mk,m.at_,m.fn,c],hx,bd]
def zb{pl:Sem Bool}(M:Mf X.prog X.w X.K X.mg X.base C m ps k sp)(c:RT X.K C)(hr:OL k X.A)(he:QE X o ta)(ha:QA X (e::es) t)
  (hst:hG X e es:=by rfl)(hpl:hI X es pos:=by rfl)
  (v:eval (.Call (.Attribute o m apos) (e::es) [] pos) X.env=(do
   let g <- eval o X.env
   standAt apos.atName
   let(f,first) <- holding [g] (getMethod g m pl)
   TF pos f first (backTo pos (θ (e::es) X.env)) (backToKw pos (keywordEach [] X.env))):=by rfl):
  QE X (.Call (.Attribute o m apos) (e::es) [] pos) (AS C m sp ta t):=#[by
 let#[f,fd,F,j,y]:=M.ex;intro tx s σ H Q I h;refine NK (pl:=pl) (qG (he.h tx s σ H _ I h) λu p A=>?_) v
 let#[x,H1,d,n,a,ex,#[dx,fs,w,l],q]:=A;subst ex
 obtain rfl:u=Γ.ref a:=n
 refine gW d w c j l ?_
 refine M3 (first:=[-a]) (h₀:=X.base) I.ok.mod.kin j.kp (qG (ha.h pos tx p σ H1 _ d q) λus B ⟨vs,D,i,r,z⟩=>#[i.kIn,?_]) hst hpl
 exact lU (us:= .ref a::us) (vs:= .ref a::vs) F hr y .nil mM i (.cons Z r) z]
def qP{pl:Sem Bool}(M:Mf X.prog X.w X.K X.mg X.base C m ps k sp)(c:RT X.K C)(hr:OL k X.A)(he:QE X o ta)
  (j:eval (.Call (.Attribute o m apos) [] [] pos) X.env=(do
   let e <- eval o X.env
   standAt apos.atName
   let(f,first) <- holding [e] (getMethod e m pl)
   TF pos f first (backTo pos (θ [] X.env)) (backToKw pos (keywordEach [] X.env))):=by rfl):
  QE X (.Call (.Attribute o m apos) [] [] pos) (AS C m sp ta Cv):=#[by
 let#[f,fd,F,g,p]:=M.ex;intro tx s σ H Q I h;refine NK (pl:=pl) (qG (he.h tx s σ H _ I h) λu t r=>?_) j
 let#[x,H1,d,i,a,ex,#[dx,fs,n,l],q]:=r;subst ex
 obtain rfl:u=Γ.ref a:=i
 refine gW d n c g l ?_
 exact W.callWith_K0 (first:=[-a]) d.kIn g.kp (lU (us:=[-a]) (vs:=[-a]) F hr p .nil mM d (.cons Z .nil) q)]
def bw(M:Mi X.prog X.w X.K X.mg X.base C x ps k sp)(hr:OL (k+1) X.A)(ha:QA X (e::es) t)(hg:Gl X x:=by rfl)(hdb:hH x:=by decide)
  (he:hG X e es:=by rfl)(hpl:hI X es pos:=by rfl):
  QE X (.Call (.Name x p) (e::es) [] pos) (DO C sp [] E0 t):=#[by
 let#[f,fd,F,mk,c,a]:=M.ex;exact E6 mk F hr hg c a .nil mM ha.h hdb he hpl]
def Gs(f:PlainAttrs T)(d:Slot T name id)(e:typeOf (.builtin id)=pure (.type "method_descriptor"))(hm:i8 X id r)(ho:QE X o to)
  (a:attributeBase o name X.env (eval o X.env)=eval o X.env:=by rfl)(c:(apos.endLine==cpos.line)=true:=by rfl):QE X (.Call (.Attribute o name apos) [] [] cpos) (FT X.K T r to):=#[GT f d e hm ho.h a c]
def wo:i8 X "list.reverse" sL:=wv
end
theorem bR{f:Str}{v:V}:∀{fs:List (Str×V)} (i:Nat),fs[i]? =↑(f,v)->(fs.map (·.1)).Nodup->fs.lookup f=↑v
 | [],i,h,_=>by cases h
 |(g,x)::r,0,h,_=>by
  cases Lb h
  exact N3
 |(g,x)::r,i+1,h,nd=>by
  have h':r[i]? =↑(f,v):=h
  have a:g∉r.map (·.1)/\(r.map (·.1)).Nodup:=LF.mp nd
  have c:f∈r.map (·.1):=J7.mpr #[(f,v),JU h',Z]
  have ne:f≠g:=λz=>a.1 (z▸c)
  rw[LL,Mj ne];exact bR i h' a.2
theorem ef{f:Str}:∀{fs:List (Str×V)},f∉fs.map (·.1)->fs.lookup f=none
 | [],_=>rfl
 |(g,x)::r,h=>by
  have ne:f≠g:=λz=>h (z▸J3 ..)
  rw[LL,Mj ne];exact ef λz=>h (F0 _ z)
theorem jC{f:Str}{v u:V}:∀{fs:List (Str×V)} (i:Nat),fs[i]? =↑(f,u)->(fs.map (·.1)).Nodup->Q6 f v fs=fs.set i (f,v)
 | [],i,h,_=>by cases h
 |(g,x)::r,0,h,_=>by
  cases Lb h
  show(if f=f then _ else _)=_
  rw[JK Z];rfl
 |(g,x)::r,i+1,h,nd=>by
  have h':r[i]? =↑(f,u):=h
  have a:g∉r.map (·.1)/\(r.map (·.1)).Nodup:=LF.mp nd
  have c:f∈r.map (·.1):=J7.mpr #[(f,u),JU h',Z]
  have ne:¬g=f:=λz=>a.1 (z▸c)
  show(if g=f then _ else(g,x)::Q6 f v r)=_
  rw[JJ ne,jC i h' a.2];rfl
theorem gZ{f:Str}{v:V}:∀{fs:List (Str×V)},f∉fs.map (·.1)->Q6 f v fs=fs++[(f,v)]
 | [],_=>rfl
 |(g,x)::r,h=>by
  have ne:¬g=f:=λz=>h (z▸J3 ..)
  show(if g=f then _ else(g,x)::Q6 f v r)=_
  rw[JJ ne,gZ λz=>h (F0 _ z)];rfl
def Mv(S:Η)(H H':Hp):Prop:=∀c o,c∉S->H c=↑o->H' c=↑o
def Mv.refl:Mv S H H:=λ_ _ _ e=>e
def Mv.trans(a:Mv S H H1)(b:Mv S H1 d):Mv S H d:=λc o n e=>b c o n (a c o n e)
def Mv.mono{S':Η}(a:Mv S H H')(h:∀c,c∉S'->c∉S):Mv S' H H':=λc o n e=>a c o (h c n) e
def _root_.L2.Oq.mv(a:Oq H H'):Mv S H H':=λc o _ e=>a c o e
def Mv.upd1{a:Δ}:Mv [a] H (Ot H a o):=λc u n e=>by
 rw[qk (λz=>n (JN.mpr z))];exact e
def Rj.mv{b:Δ}(g:Rj b n H H'):Mv [b] H H':=λc o h e=>g.kp c o (λz=>h (JN.mpr z)) e
def jw:HO->Prop
 | .tup _=>False
 | .frz _ (.dK _)=>True
 | .frz _ _=>False
 |_=>True
def NT(S:Η)(H:Hp):Prop:=∀c,c∈S->∃o,H c=↑o/\jw o
def Mv.rd(m:Mv S H H')(n:NT S H)(h:Rd H a (.tup xs)):Rd H' a (.tup xs):=by
 have c:a∉S:=λz=>by
  let#[o,e,no]:=n a z;rcases h with h|⟨o',h⟩
  .rw[e]at h;cases h;exact no
  .rw[e]at h;cases h;exact no
 rcases h with h|⟨o',h⟩
 .exact .inl (m _ _ c h)
 .exact .inr #[o',m _ _ c h]
def Mv.sqt{K:ι}(m:Mv S H H')(n:NT S H)(h:OC K H a xs):OC K H' a xs:=by
 rcases h with h|h
 .exact .inl (m.rd n h)
 .exact .inr h
structure Bt where
 nm:Str
 t:Ε
 ks:Ε
 age:Int
 step:Int
 cnt:Int
 bnd:Int
 x:Λ
 y:Λ
def oV:Λ->V
 |none=> .non
 |some i=> .int i
def Hf{b:Λ}(h:oV a=oV b):a=b:=by
 cases a<;>cases b<;>simp [oV]at h⊢ <;>exact h
def E4(a:Λ)(i:Int):CW (oV a) (.int i)=true:=by cases a<;>rfl
def Hh(a:Λ)(i:Int):decide (oV a= .int i)=decide (a=↑i):=by
 rw[Mt,Mz,Mz];constructor
 .intro h;exact Hf (b:=↑i) h
 .intro h;rw[h];rfl
noncomputable def bF(B:Bt)(ta ka ce:Δ):List (Str×V):=
 [("name",.str B.nm),("table",-ta),("key",-ka),("age",.int B.age),("step",.int B.step),("next_count",.int B.cnt),("bound",.int B.bnd),("cells",-ce)]
noncomputable def bN:Α:=["name","table","key","age","step","next_count","bound","cells"]
def Iv:bN.Nodup:=by decide +kernel
def En(B:Bt)(ta ka ce:Δ):((bF B ta ka ce).map (·.1)).Nodup:=Iv
structure Rc(K:ι)(C:Δ):Prop where
 cl:RT K C
 n_name:OF K C "name"
 n_table:OF K C "table"
 n_key:OF K C "key"
 n_age:OF K C "age"
 n_step:OF K C "step"
 n_next_count:OF K C "next_count"
 n_bound:OF K C "bound"
 n_cells:OF K C "cells"
structure Oy(K:ι)(C:Δ)(H:Hp)(p ta ka ce:Δ)(B:Bt):Prop where
 ob:∃dx,H p=↑(.ins C dx (bF B ta ka ce))
 tb:OC K H ta (B.t.map V.int)
 ky:OC K H ka (B.ks.map V.int)
 cs:H ce=↑(.lst [oV B.x,oV B.y])
section
variable{K:ι}
def Oy.has(b:Oy K C H p ta ka ce B)(U:Rc K C)(i:Nat){f:Str}{v:V}(h:(bF B ta ka ce)[i]? =↑(f,v))(n:OF K C f):Qm K H p f v:=by
 let#[dx,e]:=b.ob
 exact#[C,dx,_,e,U.cl,n,bR i h (En ..)]
def Oy.h_name(b:Oy K C H p ta ka ce B)(U:Rc K C):Qm K H p "name" (.str B.nm):=b.has U 0 Z U.n_name
def Oy.h_table(b:Oy K C H p ta ka ce B)(U:Rc K C):Qm K H p "table" (-ta):=b.has U 1 Z U.n_table
def Oy.h_key(b:Oy K C H p ta ka ce B)(U:Rc K C):Qm K H p "key" (-ka):=b.has U 2 Z U.n_key
def Oy.h_age(b:Oy K C H p ta ka ce B)(U:Rc K C):Qm K H p "age" (.int B.age):=b.has U 3 Z U.n_age
def Oy.h_step(b:Oy K C H p ta ka ce B)(U:Rc K C):Qm K H p "step" (.int B.step):=b.has U 4 Z U.n_step
def Oy.h_next_count(b:Oy K C H p ta ka ce B)(U:Rc K C):Qm K H p "next_count" (.int B.cnt):=b.has U 5 Z U.n_next_count
def Oy.h_bound(b:Oy K C H p ta ka ce B)(U:Rc K C):Qm K H p "bound" (.int B.bnd):=b.has U 6 Z U.n_bound
def Oy.h_cells(b:Oy K C H p ta ka ce B)(U:Rc K C):Qm K H p "cells" (-ce):=b.has U 7 Z U.n_cells
def Oy.no(b:Oy K C H p ta ka ce B){m:Str}(h:m∉bN:=by decide +kernel):Ad C H p m:=by
 let#[dx,e]:=b.ob
 exact#[dx,_,e,ef h]
def Oy.ne(b:Oy K C H p ta ka ce B):p≠ce:=by
 let#[dx,e]:=b.ob;exact zn e b.cs (by intro z;cases z)
def Oy.nt(b:Oy K C H p ta ka ce B):NT [p,ce] H:=λc a=>by
 let#[dx,e]:=b.ob;simp only[JO,JX,JY]at a;rcases a with rfl|rfl
 .exact#[_,e,trivial]
 .exact#[_,b.cs,trivial]
def Oy.put(U:Rc K C)(e:H p=↑(.ins C dx (bF B ta ka ce)))(i:Nat){f:Str}{u:V}(v:V)(h:(bF B ta ka ce)[i]? =↑(f,u))(n:OF K C f):
  bZ K H p f v (Ot H p (.ins C dx ((bF B ta ka ce).set i (f,v)))):=#[C,dx,_,e,U.cl,n,by show 8<1000;decide,by rw[jC i h (En ..)]]
def Oy.to(b:Oy K C H p ta ka ce B)(m:Mv [p,ce] H H'){B':Bt}(a:B'.t=B.t)(hk:B'.ks=B.ks)(e:H' p=↑(.ins C dx (bF B' ta ka ce)))(c:H' ce=↑(.lst [oV B'.x,oV B'.y])):Oy K C H' p ta ka ce B':=
 #[#[dx,e],by rw[a];exact m.sqt b.nt b.tb,by rw[hk];exact m.sqt b.nt b.ky,c]
def Oy.mv(b:Oy K C H p ta ka ce B)(m:Mv S H H')(n:NT S H)(hp:p∉S)(hc:ce∉S):Oy K C H' p ta ka ce B:=by
 let#[dx,e]:=b.ob
 exact#[#[dx,m _ _ hp e],m.sqt n b.tb,m.sqt n b.ky,m _ _ hc b.cs]
def Oy.same(b:Oy K C H p ta ka ce B)(s:Oq H H'):Oy K C H' p ta ka ce B:=b.mv (S:=[]) s.mv (λc h=>nomatch h) (λh=>nomatch h) (λh=>nomatch h)
end
def Bt.sp(B:Bt):Int:=if B.x=↑B.bnd then 1 else 0
noncomputable def Bt.nb(B:Bt):Int:=if 4096<B.bnd+B.step then 4096 else B.bnd+B.step
noncomputable def Bt.wr(B:Bt):Bt:=if B.x=↑B.bnd then{B with bnd:=B.nb,y:=↑B.nb}else{B with bnd:=B.nb,x:=↑B.nb}
noncomputable def Bt.mw(B:Bt):Bool:=decide (B.cnt=B.bnd)&& ! decide (4096<=B.cnt)
noncomputable def Bt.pr(B:Bt):Bt:=if B.mw then{B.wr with cnt:=B.cnt+1}else{B with cnt:=B.cnt+1}
def Er(B:Bt):B.wr.nm=B.nm:=by unfold Bt.wr;split<;>rfl
def GV(B:Bt):B.wr.t=B.t:=by unfold Bt.wr;split<;>rfl
def DR(B:Bt):B.wr.ks=B.ks:=by unfold Bt.wr;split<;>rfl
def BC(B:Bt):B.wr.age=B.age:=by unfold Bt.wr;split<;>rfl
def yy(B:Bt):B.wr.cnt=B.cnt:=by unfold Bt.wr;split<;>rfl
def ZJ(B:Bt):B.pr.nm=B.nm:=by unfold Bt.pr;split<;>first|exact Er B|rfl
def Je(B:Bt):B.pr.t=B.t:=by unfold Bt.pr;split<;>first|exact GV B|rfl
def Ik(B:Bt):B.pr.ks=B.ks:=by unfold Bt.pr;split<;>first|exact DR B|rfl
def aI(B:Bt):B.pr.age=B.age:=by unfold Bt.pr;split<;>first|exact BC B|rfl
def Z5(B:Bt):B.pr.cnt=B.cnt+1:=by unfold Bt.pr;split<;>rfl
section
variable(K:ι)(C:Δ)
inductive mV|mk (p a b dx:Δ)(nm:Str)(age step:Int)(t ks:Ε)(h1:vs=[-p,.str nm,-a,-b,.int age,.int step])(h2:H p=↑(.ins C dx []))(h3:Sq K H a (t.map V.int))(h4:Sq K H b (ks.map V.int))(h5:∀ta ka ce H',H ce=none->Mv [p] H H'->Oy K C H' p ta ka ce ⟨nm,t,ks,age,step,0,0,↑0,none⟩->Q .non H')
inductive nL|mk (p ta ka ce:Δ)(B:Bt)(h1:vs=[-p])(h2:Oy K C H p ta ka ce B)(h3:Q (.bl (decide (4096<=B.cnt))) H)
inductive vQ|mk (p ta ka ce:Δ)(B:Bt)(h1:vs=[-p])(h2:Oy K C H p ta ka ce B)(h3:Q (.bl B.mw) H)
inductive uq|mk (p ta ka ce:Δ)(B:Bt)(h1:vs=[-p])(h2:Oy K C H p ta ka ce B)(h3:Q (.int B.sp) H)
inductive tN|mk (p ta ka ce:Δ)(B:Bt)(h1:vs=[-p])(h2:Oy K C H p ta ka ce B)(h3:∀H',Mv [p,ce] H H'->Oy K C H' p ta ka ce B.wr->Q .non H')
inductive kM|mk (p ta ka ce:Δ)(B:Bt)(d:Int)(h1:vs=[-p,.int d])(h2:Oy K C H p ta ka ce B)(h3:Zo B.nm)(h4:B.t.length=16)(h5:0<=B.cnt)(h6:B.cnt<4096)(h7:ZO d)(h8:∀q pc H',Mv [p,ce] H H'->Oy K C H' p ta ka ce B.pr->H' q=↑(.tup [.str B.nm,.int B.age,-pc])->H' pc=↑(.tup ((cz B.t B.ks B.nm B.cnt d).map V.int))->Q (-q) H')
inductive vm|mk (p ta ka ce:Δ)(B:Bt)(h1:vs=[-p])(h2:Oy K C H p ta ka ce B)(h3:Q (.str B.nm) H)
inductive cY|mk (p ta ka ce:Δ)(B:Bt)(h1:vs=[-p])(h2:Oy K C H p ta ka ce B)(h3:Q (.int B.age) H)
inductive Z8|mk (p ta ka ce:Δ)(B:Bt)(h1:vs=[-p])(h2:Oy K C H p ta ka ce B)(h3:Q (.int B.cnt) H)
inductive kU|mk (p ta ka ce:Δ)(B:Bt)(h1:vs=[-p])(h2:Oy K C H p ta ka ce B)(h3:∀q H',Oq H H'->H' q=↑(.tup [oV B.x,oV B.y])->Q (-q) H')
end
inductive sP|mk (b:Δ)(c:Nat)(h1:vs=[-b])(h2:PM H b c)(h3:c<100000000)(h4:∀p (t:Ε) H',Rj b (c+16) H H'->H p=none->H' p=↑(.tup (t.map V.int))->t.Perm O6->Q (-p) H')
def Rj.fresh{b:Δ}(g:Rj b n H H')(hb:PM H b n)(h:H' c=Option.none):H c=Option.none:=by
 cases e:H c with
 |none=>rfl
 |some o=>
  by_cases z:c=b
  .subst z
   let#[_,_,_,a,_]:=g.bx;rw[a]at h;cases h
  .rw[g.kp c o z e]at h;cases h
def aD{K:ι}{H:Hp}{fs:List (Str×V)}(c:RT K C)(e:H p=↑(.ins C dx fs))(n:OF K C f)(i:Nat)(a:fs.map (·.1)=bN.take i:=by rfl)(hn:f∉bN.take i:=by decide +kernel):
  bZ K H p f v (Ot H p (.ins C dx (fs++[(f,v)]))):=#[C,dx,fs,e,c,n,by
  have h1:fs.length=(bN.take i).length:=by rw[<- a,JI]
  have d:(bN.take i).length<=8:=by rw[LO];exact Ny _ _
  omega,by rw[gZ (by rw[a];exact hn)]]
def Dm{K:ι}{Q:VK}(h:Sq K H a xs)(q:∀l H',Oq H H'->OC K H' l xs->Q (-l) H'):(OA K H a xs/\∀l,H l=none->Q (-l) (Ot H l (.tup xs)))\/(OC K H a xs/\Q (-a) H):=
 h.elim (λh=> .inl #[h,λl c=>q l _ (Oq.upd c) (OC.of qb)]) λh=> .inr #[h,q a H (Oq.refl _) h]
def rT{K:ι}{H:Hp}{fs:List (Str×V)}(e:H p=↑(.ins C dx fs))(h:Sq K H a xs):Sq K (Ot H p o) a xs:=by
 rcases h with(h|h)|(h|h)
 .refine .inl (.inl ?_)
  rcases h with h|⟨u,h⟩
  .exact .inl (by rw[qk (zn h e (by intro z;cases z))];exact h)
  .exact .inr #[u,by rw[qk (zn h e (by intro z;cases z))];exact h]
 .exact .inl (.inr h)
 .refine .inr (.inl ?_)
  rcases h with h|⟨u,h⟩
  .exact .inl (by rw[qk (zn h e (by intro z;cases z))];exact h)
  .exact .inr #[u,by rw[qk (zn h e (by intro z;cases z))];exact h]
 .exact .inr (.inr h)
def Qe{K:ι}{H:Hp}{fs:List (Str×V)}(e:H p=↑(.ins C dx fs))(h:OC K H a xs):OC K (Ot H p o) a xs:=by
 rcases h with(h|⟨u,h⟩)|h
 .exact .inl (.inl (by rw[qk (zn h e (by intro z;cases z))];exact h))
 .exact .inl (.inr #[u,by rw[qk (zn h e (by intro z;cases z))];exact h])
 .exact .inr h
def Zg:zY X (.type "tuple") (λxs H Q=>∃p ys,xs=[-p]/\Sq X.K H p ys/\∀l H',Oq H H'->OC X.K H' l ys->Q (-l) H'):=by
 intro tx s σ H xs c Q I r h;let#[p,ys,e,a,q]:=h;exact za tx s σ H xs c Q I r #[p,ys,e,Dm a q]
section
variable{b:Δ}{n:Nat}
def zr{a x:Δ}(h:a≠x):a∉[x]:=λz=>h (JN.mp z)
def bh(hb:PM H b n):NT [b] H:=λc a=>by
 let#[_,_,_,e,_]:=hb;rw[JN.mp a]
 exact#[_,e,trivial]
end
def Oq.mv_of{S:Η}(s:Oq H H1)(m:Mv S H1 a)(h:∀c∈S,H c=none):Oq H a:=λc o e=>m c o (λz=>qr e (h c z) Z) (s c o e)
def rK(n:Nat)(h:n<=100:=by omega):n<ζ:=Gx h ⋯
def NT.one{H:Hp}{o:HO}(e:H a=↑o)(n:jw o):NT [a] H:=λc d=>#[o,by rw[JN.mp d];exact e,n]
end L3
namespace L2
open PySem PySem.Spec PyProof.Rows
section
variable{κ:Type}[DecidableEq κ]
noncomputable def QM(kvs:List (κ×V))(k:κ):Ο:=(kvs.find? λa=>decide (a.1=k)).map (·.2)
noncomputable def Px(kvs:List (κ×V))(k:κ)(v:V):List (κ×V):=
 if(kvs.any λa=>decide (a.1=k))=true then kvs.map (λa=>if a.1=k then(a.1,v)else a)else kvs++[(k,v)]
noncomputable def di(kvs:List (κ×V))(k:κ):List (κ×V):=kvs.filter λa=>decide (a.1≠k)
def cV{p:κ×V}{r:List (κ×V)}{k:κ}(e:p.1=k):QM (p::r) k=↑p.2:=by simp [QM,MU,e]
def c9{p:κ×V}{r:List (κ×V)}{k:κ}(e:¬p.1=k):QM (p::r) k=QM r k:=by simp [QM,MU,e]
theorem uz(k:κ):∀kvs:List (κ×V),(kvs.any λa=>decide (a.1=k))=(QM kvs k).isSome
 | []=>rfl
 |p::r=>by
  rw[ML]
  by_cases e:p.1=k
  .simp only[cV e,JM e,Bool.true_or,Option.isSome_some]
  .rw[c9 e,JT e,K4];exact uz k r
def eI(kvs:List (κ×V))(k:κ)(v:V):(Px kvs k v).length<=kvs.length+1:=by
 unfold Px;split
 .rw[JI];lia
 .rw[J0,LI,KS];lia
def PL.isSome_eq(r:PL o u):o.isSome=u.isSome:=by
 cases o with
 |none=>cases u with
  |none=>rfl
  |some _=>exact(show False from r).elim
 |some _=>cases u with
  |none=>exact(show False from r).elim
  |some _=>rfl
theorem PL.getD(r:PL o u)(rd:Oz d d'):Oz (o.getD d) (u.getD d'):=by
 cases o with
 |none=>cases u with
  |none=>exact rd
  |some _=>exact(show False from r).elim
 |some _=>cases u with
  |none=>exact(show False from r).elim
  |some _=>exact r
def KV.val(r:KV kvs vs)(k:κ):PL (QM kvs k) (valueAt vs k):=by
 unfold KV at r
 induction r with
 |nil=>exact SM
 | @cons p q ps qs h t ih=>
  let#[h1,c]:=h
  by_cases e:p.1=k
  .have a:q.1=k:=h1.symm.trans e
   have b:valueAt (q::qs) k=↑q.2:=by simp [valueAt,MU,a]
   rw[cV e,b];exact c
  .have a:¬q.1=k:=λz=>e (h1.trans z)
   have b:valueAt (q::qs) k=valueAt qs k:=by simp [valueAt,MU,a]
   rw[c9 e,b];exact ih
theorem KV.any(r:KV kvs vs)(k:κ):(kvs.any λa=>decide (a.1=k))=vs.any λa=>decide (a.1=k):=by
 unfold KV at r
 induction r with
 |nil=>rfl
 |cons h t ih=>rw[ML,ML,ih,h.1]
def KV.repl(r:KV kvs vs)(k:κ)(c:Oz y u):
  KV (kvs.map λa=>if a.1=k then(a.1,y)else a) (vs.map λa=>if a.1=k then(a.1,u)else a):=by
 unfold KV at r⊢
 induction r with
 |nil=>exact .nil
 | @cons p q ps qs h t ih=>
  rw[Ls,Ls];refine .cons ?_ ih
  let#[h1,d]:=h
  by_cases e:p.1=k
  .rw[JK e,JK (h1.symm.trans e)];exact#[h1,c]
  .rw[JJ e,JJ (λz=>e (h1.trans z))];exact#[h1,d]
def KV.put(r:KV kvs vs)(k:κ)(a:Oz y u):KV (Px kvs k y) (stored vs k u):=by
 unfold Px stored;rw[r.any k]
 by_cases e:(vs.any λc=>decide (c.1=k))=true
 .rw[JK e,JK e];exact r.repl k a
 .rw[JJ e,JJ e];exact Paired.snoc r #[Z,a]
def KV.drop(r:KV kvs vs)(k:κ):KV (di kvs k) (without vs k):=by
 unfold KV at r⊢;unfold di without
 induction r with
 |nil=>exact .nil
 | @cons p q ps qs h t ih=>
  let#[h1,c]:=h;rw[K5,K5]
  by_cases e:p.1=k
  .have a:¬decide (p.1≠k)=true:=by simp [e]
   have b:¬decide (q.1≠k)=true:=by simp [h1.symm.trans e]
   rw[JJ a,JJ b];exact ih
  .have d:¬q.1=k:=λz=>e (h1.trans z)
   have a:decide (p.1≠k)=true:=by simp [e]
   have b:decide (q.1≠k)=true:=by simp [d]
   rw[JK a,JK b];exact .cons #[h1,c] ih
def KV.keys{kvs:List (κ×V)}{vs:List (κ×Γ)}(r:KV kvs vs):kvs.map (·.1)=vs.map (·.1):=by
 unfold KV at r
 induction r with
 |nil=>rfl
 |cons h t ih=>rw[Ls,Ls,ih,h.1]
theorem KV.length(r:KV kvs vs):kvs.length=vs.length:=Paired.length r
def BP(kvs:List (κ×V))(k:κ):(di kvs k).length<=kvs.length:=K6 _ _
end
def eC{k:qO}(r:Oz (kV k) u):(zf P w).is k u=true:=by
 cases k with
 |inl i=>let#[t,e]:=(show∃t,u=Γ.int i t from r);subst e;exact uE P w i t
 |inr x=>let#[t,e]:=(show∃t,u=Γ.str x t from r);subst e;exact uK P w x t
theorem pC{P:Ξ}{w:Ω}:∀{ks:List qO} {us:Ζ},OB (ks.map kV) us->ItemsAre (zf P w) ks us
 | [],_,r=>by rw[NB]at r;cases r;exact .nil
 |k::ks,_,r=>by
  rw[Ls]at r;cases r with
  |cons h t=>exact .cons (eC h) (pC t)
abbrev KT(H:Hp):List (List qO×V)->List (List qO×Δ×Γ)->Prop:=Paired λp q=>p.1=q.1/\H q.2.1=↑(.tup (p.1.map kV))/\Oz p.2 q.2.2
def KT.val(r:KT H kvs xs)(k:List qO):PL (QM kvs k) ((atKey xs k).map (·.2)):=by
 induction r with
 |nil=>exact SM
 | @cons p q ps qs h t ih=>
  let#[h1,_,c]:=h
  by_cases e:p.1=k
  .have a:q.1=k:=h1.symm.trans e
   have b:atKey (q::qs) k=↑q.2:=by simp [atKey,MU,a]
   rw[cV e,b];exact c
  .have a:¬q.1=k:=λz=>e (h1.trans z)
   have b:atKey (q::qs) k=atKey qs k:=by simp [atKey,MU,a]
   rw[c9 e,b];exact ih
def KT.repl(r:KT H kvs xs)(k:List qO)(d:Oz y u):
  KT H (kvs.map λa=>if a.1=k then(a.1,y)else a) (xs.map (putAt k u)):=by
 induction r with
 |nil=>exact .nil
 | @cons p q ps qs h t ih=>
  rw[Ls,Ls];refine .cons ?_ ih
  let#[h1,c,f]:=h;unfold putAt
  by_cases e:p.1=k
  .rw[JK e,JK (h1.symm.trans e)];exact#[h1,c,d]
  .rw[JJ e,JJ (λz=>e (h1.trans z))];exact#[h1,c,f]
def KT.put(r:KT H kvs xs)(k:List qO){b:Δ}(hb:H b=↑(.tup (k.map kV)))(a:Oz y u):
  KT H (Px kvs k y) (storedH xs k b u):=by
 have e:(kvs.any λc=>decide (c.1=k))=(atKey xs k).isSome:=by
  rw[uz,(r.val k).isSome_eq,N4]
 unfold Px storedH;rw[e]
 by_cases q:(atKey xs k).isSome=true
 .rw[JK q,JK q];exact r.repl k a
 .rw[JJ q,JJ q];exact Paired.snoc r #[Z,hb,a]
def KT.keeps{H':Hp}(r:KT H kvs xs)(a:∀b ys,H b=↑(.tup ys)->H' b=↑(.tup ys)):KT H' kvs xs:=
 Paired.mapP r λ_ _ z=>#[z.1,a _ _ z.2.1,z.2.2]
def EB(ok:PN P w H h)(e:Rd H a u):OI P w H h a u:=e.ok ok
def cr(ok:PN P w H h)(e:Rd H a (.dK kvs)):kvs.length<=ζ/\(a==sysModules)=false/\∃c,KV kvs c/\h.DictOf (zf P w) a c:=
 show OI P w H h a (.dK kvs)from EB ok e
def cE(ok:PN P w H h)(e:H a=↑(.dK kvs)):kvs.length<=ζ/\(a==sysModules)=false/\∃c,KV kvs c/\h.DictOf (zf P w) a c:=cr ok (.inl e)
def fJ{ks:List qO}(ok:PN P w H h)(e:H a=↑(.tup (ks.map kV))):(tupleKind (zf P w)).is h ks a:=by
 let#[_,c,r,o,h1,d,n,f]:=(show OI P w H h a (.tup (ks.map kV))from ok a _ e)
 exact#[o,c.toArray,n,h1,d,f,by simpa using pC r]
def f9(ok:PN P w H h)(e:Rd H a (.dT kvs)):kvs.length<=ζ/\(a==sysModules)=false/\
  ∃xs,KT H kvs xs/\h.DictOfH (tupleKind (zf P w)) a xs:=by
 let#[z,y,xs,r,o,es,g,h1,d,j,f,i]:=(show OI P w H h a (.dT kvs)from EB ok e)
 refine#[z,y,xs,r,o,es,g,h1,d,j,f,λx c=>?_,i]
 have all:∀{l:List (List qO×V)} {m:List (List qO×Δ×Γ)},KT H l m->∀x∈m,(tupleKind (zf P w)).is h x.1 x.2.1:=by
  intro l m q
  induction q with
  |nil=>intro x c;exact nomatch c
  | @cons p q ps qs hq t ih=>
   intro x c;rcases JO.mp c with e|c
   .subst e
    exact fJ ok (by rw[<- hq.1];exact hq.2.1)
   .exact ih x c
 exact all r x c
def Ip(ok:PN P w H h)(e:H a=↑(.dT kvs)):kvs.length<=ζ/\(a==sysModules)=false/\
  ∃xs,KT H kvs xs/\h.DictOfH (tupleKind (zf P w)) a xs:=f9 ok (.inl e)
def OR(H:Hp)(a:Δ)(y:V)(r:Ο):Prop:=
 (∃kvs k,Rd H a (.dK kvs)/\y=kV k/\r=QM kvs k)\/∃kvs k b,Rd H a (.dT kvs)/\y= .ref b/\H b=↑(.tup (k.map kV))/\r=QM kvs k
def Rt(H:Hp)(a:Δ)(y v:V)(H':Hp):Prop:=
 (∃kvs k,H a=↑(.dK kvs)/\y=kV k/\kvs.length<ζ/\H'=Ot H a (.dK (Px kvs k v)))\/
 ∃kvs k b,H a=↑(.dT kvs)/\y= .ref b/\H b=↑(.tup (k.map kV))/\kvs.length<ζ/\H'=Ot H a (.dT (Px kvs k v))
theorem OR.k{H:Hp}{k:qO}(e:H a=↑(.dK kvs)):OR H a (kV k) (QM kvs k):= .inl #[kvs,k,.inl e,9]
theorem Rt.k{H:Hp}{k:qO}(e:H a=↑(.dK kvs))(hl:kvs.length<ζ):Rt H a (kV k) v (Ot H a (.dK (Px kvs k v))):= .inl #[kvs,k,e,Z,hl,Z]
section
variable{k:qO}
def Ov.big(I:Ov X tx σ H s):sysModules<s.heap.objs.size:=by
 have h:η<s.heap.objs.size:=(I.mod.glob.keeps I.bk).lt
 exact KL ⋯ h
def Af{Q:Om}(hu:A.units+1<cLine)(I:Ov X tx σ H s)(g:OR H a y ↑v)(n:Oz y u)(h:∀f s',Ov X tx σ H s'->Oz v f->Q f s'):
  ε (model X.prog X.w) A (getItem (-a) u) Q E s:=by
 rcases g with⟨kvs,k,e,j,l⟩|⟨kvs,k,b,e,j,q,l⟩
 .subst j
  let#[z,w,t,c,dd]:=cr I.hok e;let#[f,i,d]:=PL.some_of (v:=v) (o:=valueAt t k) (by rw[l];exact c.val k)
  exact wpAny_getItem_of (eC n) dd.mapOf i (h f _ (I.tok _) d)
 .subst j
  cases(show u=Γ.ref b from n)
  let#[z,w,xs,c,dd]:=f9 I.hok e;let#[f,i,d]:=PL.some_of (v:=v) (o:=(atKey xs k).map (·.2)) (by rw[l];exact c.val k)
  let#[p,r,m]:=Lo.mp i;refine wpAny_getItem_heap (Nh hu) (fJ I.hok q) dd r ?_
  rw[m];exact h f _ (I.tok _) d
def Jr{Q:Om}(hu:A.units+1<cLine)(I:Ov X tx σ H s)(g:OR H a y o)(i:Oz y u)(h:∀s',Ov X tx σ H s'->Q (.bool o.isSome) s'):
  ε (model X.prog X.w) A (SL .In u (-a)) Q E s:=by
 rcases g with⟨kvs,k,e,d,l⟩|⟨kvs,k,b,e,d,j,l⟩
 .subst d
  let#[z,f,m,c,dd]:=cr I.hok e;refine wpAny_in_of (eC i) f dd.mapOf ?_
  rw[<- (c.val k).isSome_eq,<- l];exact h _ (I.tok _)
 .subst d
  cases(show u=Γ.ref b from i)
  let#[z,f,xs,c,dd]:=f9 I.hok e;refine wpAny_in_heap (Nh hu) (fJ I.hok j) f dd ?_
  have q:=(c.val k).isSome_eq;rw[N4]at q;rw[<- q,<- l];exact h _ (I.tok _)
def Fe{Q:Om}(hu:A.units+1<cLine)(I:Ov X tx σ H s)(g:OR H a y o)(i:Oz y u)(h:∀s',Ov X tx σ H s'->Q (.bool (! o.isSome)) s'):
  ε (model X.prog X.w) A (SL .NotIn u (-a)) Q E s:=by
 rcases g with⟨kvs,k,e,d,l⟩|⟨kvs,k,b,e,d,j,l⟩
 .subst d
  let#[z,f,m,c,dd]:=cr I.hok e;refine wpAny_notIn_of (eC i) f dd.mapOf ?_
  rw[<- (c.val k).isSome_eq,<- l];exact h _ (I.tok _)
 .subst d
  cases(show u=Γ.ref b from i)
  let#[z,f,xs,c,dd]:=f9 I.hok e;refine wpAny_notIn_heap (Nh hu) (fJ I.hok j) f dd ?_
  have q:=(c.val k).isSome_eq;rw[N4]at q;rw[<- q,<- l];exact h _ (I.tok _)
def jr{t':Nat}(I:Ov X tx σ H s)(f:AD (H a))(hs:Ψ.SameBut a s.heap h')(he:∃q,h'.get? a=↑q)(new:OI X.prog X.w (Ot H a c) h' a c):
  Ov X tx σ (Ot H a c) {s with heap:=h',toks:=t'}:=
 I.write (x:=a) (e:=a) f (.inl Z) (λb q d z=>(hs.2 b d).trans z) he new
def mB{h':Ψ}{kvs:List (qO×V)}(z:kvs.length<=ζ)(hd:(a==sysModules)=false)(c:KV kvs vs)(dd:h'.DictOf (zf P w) a vs):
  OI P w H' h' a (.dK kvs):=#[z,hd,vs,c,dd]
def Bh{Q:Unit->Θ->Prop}(hu:A.units+1<cLine)(I:Ov X tx σ H s)(g:Rt H a y v H')(B:Oz y u)(C:Oz v r)(h:∀s',Ov X tx σ H' s'->Q () s'):
  ε (model X.prog X.w) A (setItem (-a) u r) Q E s:=by
 rcases g with⟨kvs,k,e,m,l,j⟩|⟨kvs,k,b,e,m,x,l,j⟩
 .subst m j
  let#[z,p,M,d,dd]:=cE I.hok e;have n:M.length<=ζ:=by rw[<- d.length];exact z
  have o:(Px kvs k v).length<=ζ:=by have:=eI kvs k v;lia
  refine wpAny_setItem_pairs (hsz:=n) (eC B) dd λh' f t=>h _ ?_
  have J:∃q,h'.get? a=↑q:=let⟨q,_,_,i,_⟩:=f;#[q,i]
  exact jr I (by rw[e];exact SM) t J (mB o p (d.put k C) f)
 .subst m j
  cases(show u=Γ.ref b from B)
  let#[z,p,xs,d,dd]:=Ip I.hok e;have n:xs.length<=ζ:=by rw[<- Paired.length d];exact z
  have o:(Px kvs k v).length<=ζ:=by have:=eI kvs k v;lia
  refine wpAny_setItem_heap (hsz:=n) (Nh hu) (fJ I.hok x) dd λh' f t=>h _ ?_
  let#[q,es,K,i,L,F,G,_,D]:=f;refine jr I (by rw[e];exact SM) t #[q,i] #[o,p,_,(d.put k x C).keeps λc ys w=>?_,q,es,K,i,L,F,G,D]
  rw[qk (zn w e (λz=>nomatch z))]
  exact w
def IB{v:V}{c:Ζ}{Q:Om}(I:Ov X tx σ H s)(e:H a=↑(.dK kvs))(j:Oz (kV k) u)(l:QM kvs k=↑v)(hm:c=[]\/∃x,c=[x])
  (h:∀g s',Ov X tx σ (Ot H a (.dK (di kvs k))) s'->Oz v g->Q g s'):ε (model X.prog X.w) A (call (.builtin "dict.pop") (.ref a::u::c)) Q E s:=by
 let#[z,B,n,d,dd]:=cE I.hok e;let#[g,p,m]:=PL.some_of (v:=v) (o:=valueAt n k) (by rw[<- l];exact d.val k)
 have y:(keyPart u).isSome=true:=by
  cases k with
  |inl i=>let#[t,q]:=(show∃t,u=Γ.int i t from j);subst q;rfl
  |inr x=>let#[t,q]:=(show∃t,u=Γ.str x t from j);subst q;rfl
 have r:argsOk "dict.pop" #[.ref a::u::c,[]]:=by
  rcases hm with q|⟨x,q⟩
  .subst q;exact PySem.F.args_dict_pop_2 _ _
  .subst q;exact PySem.F.args_dict_pop_3 _ _ _
 refine call_meetsIn PySem.F.slot_dict_pop dd.typeIs PySem.F.entry_dict_pop r (meets_dict_pop_there (zf X.prog X.w) a (eC j) c hm y)
  #[n,g,dd,by rw[<- d.length];exact z,p,λh' f C=>h g _ ?_ m]
 have w:∃q,h'.get? a=↑q:=let⟨q,_,_,hq,_⟩:=f;#[q,hq]
 exact jr I (by rw[e];exact SM) C w (mB (Lc (BP kvs k) z) B (d.drop k) f)
def IA{Q:Om}(I:Ov X tx σ H s)(e:Rd H a (.dK kvs))(h:∀t s',Ov X tx σ H s'->Q (.int kvs.length t) s'):ε (model X.prog X.w) A (call (.builtin "len") [-a]) Q E s:=by
 let#[z,d,f,c,dd]:=cr I.hok e;refine call_len_dict d dd (by rw[<- c.length];rw[JV]at z;lia) ?_
 rw[<- c.length];exact h _ _ (I.tok _)
end
def BN(i:Φ):Prop:=∀c a,subscripted i false c a=operate [c,a] (getItem c a)
def ER{prog:Ξ}{w:Ω}{A:SO}{E:Om}{s:Θ}{env:Env}{value a:Φ}{pos:Pos}{T id:String}{Q:Om}
  (hl:typeLookup (.type T) "__getitem__"=pure ↑(.builtin id))(hs:BN a)
  (h:ε (model prog w) A (eval value env) (λo f=>ε (model prog w) A (eval a env) (λi c=>c.TypeIs o T/\ε (model prog w) A (getItem o i) Q E c) E f) E s):
  ε (model prog w) A (eval (.Subscript value a pos) env) Q E s:=by
 refine Subscript_ (Lg h (λo f j=>Lg j (λi c d=>?_) λ_ _ x=>x) λ_ _ x=>x)
 let#[m,d]:=d;unfold subscriptTail;refine JH ?_
 rw[getitemInPython_of_ne m.not_modules];refine JH (MS m hl ?_)
 have g:ε (model prog w) A (subscripted a false o i) (λr e=>ε (model prog w) A (letTemporaryGo value o r >>= λ_=>pure r) Q E e) E c:=by
  rw[hs o i];exact wpAny_operating (Lg d (λr e l=>JH (wpAny_letTemporaryGo (JP l))) λ_ _ x=>x)
 first
  |exact JP (JH g)
  |exact JH (JP (JH g))
  |exact JH g
def uJ(I:Ov X tx σ H s)(g:OR H a y o):s.TypeIs (-a) "dict":=by
 rcases g with⟨kvs,k,e,_,_⟩|⟨kvs,k,b,e,_,_,_⟩
 .let#[_,_,c,_,dd]:=cr I.hok e
  exact dd.typeIs
 .let#[_,_,xs,_,dd]:=f9 I.hok e
  exact dd.typeIs
def Ep(td ty:TE):TE:=λσ H Q=>td σ H λx H1=>ty σ H1 λy c=>∃a v,x= .ref a/\OR c a y ↑v/\Q v c
def Cn(ty td:TE):TE:=λσ H Q=>ty σ H λy H1=>td σ H1 λx c=>∃a o,x= .ref a/\OR c a y o/\Q (.bl o.isSome) c
def vv(ty td:TE):TE:=λσ H Q=>ty σ H λy H1=>td σ H1 λx c=>∃a o,x= .ref a/\OR c a y o/\Q (.bl (! o.isSome)) c
def Eg(td ty tv:TE):TS:=λD σ H=>tv σ H λv H1=>td σ H1 λx d=>ty σ d λy H3=>∃a c,x= .ref a/\Rt H3 a y v c/\D.nx σ c
def EW(hu:X.A.units+1<cLine)(ho:PE X o td)(hi:PE X i ty)(hs:BN i):PE X (.Subscript o i pos) (Ep td ty):=by
 intro tx s σ H Q I h;refine ER PySem.F.slot_dict_getitem.lookup hs (qG (ho tx s σ H _ I h) λu l ⟨x,H1,e,j,m⟩=>qG (hi tx l σ H1 _ e m) λA w p=>?_)
 let#[y,f,d,n,a,v,ex,g,q]:=p;subst ex
 obtain rfl:u=Γ.ref a:=j
 exact#[uJ d g,Af hu d g n λz t r c=>#[v,f,r,c,q]]
def Bu(hu:X.A.units+1<cLine)(hi:PE X i ty)(ho:PE X o td):PC X .In i o (Cn ty td):=by
 intro tx s σ H Q I h;refine qG (hi tx s σ H _ I h) λw f ⟨y,H1,c,m,j⟩=>qG (ho tx f σ H1 _ c j) λu v q=>?_
 let#[x,d,n,e,a,l,ex,g,p]:=q;subst ex
 obtain rfl:u=Γ.ref a:=e
 exact Jr hu n g m λt r=>#[.bl l.isSome,d,r,Z,p]
def xz(hu:X.A.units+1<cLine)(hi:PE X i ty)(ho:PE X o td):PC X .NotIn i o (vv ty td):=by
 intro tx s σ H Q I h;refine qG (hi tx s σ H _ I h) λw f ⟨y,H1,c,m,j⟩=>qG (ho tx f σ H1 _ c j) λu v q=>?_
 let#[x,d,n,e,a,l,ex,g,p]:=q;subst ex
 obtain rfl:u=Γ.ref a:=e
 exact Fe hu n g m λt r=>#[.bl (! l.isSome),d,r,Z,p]
def E2(hu:X.A.units+1<cLine)(ho:PE X o td)(hi:PE X i ty)(hv:PE X value tv)(hs:swapsWith value ↑(.Subscript o i pos') pos.line X.env=pure false):
  PS X (.Assign [.Subscript o i pos'] value pos) (Eg td ty tv):=by
 intro tx s σ H D I h;refine wpAny_Assign_Subscript (qG (hv tx s σ H _ I h) λr e ⟨v,H1,m,B,A⟩=>qG (ho tx e σ H1 _ m A) λu n ⟨x,z,j,c,l⟩=>qG (hi tx n σ z _ j l) λE C t=>?_) hs
 let#[y,H3,w,p,a,q,ex,g,d]:=t;subst ex
 obtain rfl:u=Γ.ref a:=c
 exact Bh hu w g p B λF f=>#[σ,q,f,d]
def tD(h:Ψ)(hb:sysModules<h.objs.size):OI P w H (h.push {cls:= .type "dict",data:= .dict (B0 [])}) h.objs.size (.dK []):=
 #[Li _,MF.mpr (Ne.symm (J4 hb)),[],.nil,Ψ.DictOf.new h]
def yg:TE:=λ_ H Q=>∀p,H p=none->Q (-p) (Ot H p (.dK []))
def Ch:PE X (.Dict [] [] pos) yg:=λtx s σ H Q I h=>
 wpAny_Dict_empty #[-s.heap.objs.size,_,I.laid (a:=s.heap.objs.size) (o:= .dK []) (t':=s.toks) (λ_ _ q=>JR _ q) (JL _) (tD s.heap I.big),Z,h _ (I.hok.fresh (JL _))]
def t8:List (TE×TE)->St->Hp->(List (V×V)->Hp->Prop)->Prop
 | [],_,H,Q=>Q [] H
 |(tk,tv)::r,σ,H,Q=>tk σ H λx H1=>tv σ H1 λy a=>t8 r σ a λps H3=>Q ((x,y)::ps) H3
abbrev VV:List (V×V)->List (Γ×Γ)->Prop:=Paired λp q=>Oz p.1 q.1/\Oz p.2 q.2
def Am(X:Cx)(pos:Pos)(keys:List Υ)(a:Ι)(c:List (TE×TE)):Prop:=
 ∀(tx:Oo) (s:Θ) (σ:St) (H:Hp) (Q:List (V×V)->Hp->Prop),Ov X tx σ H s->t8 c σ H Q->
  ε (model X.prog X.w) X.A (evalPairs (pairTrees keys a X.env pos)) (λd s'=>∃ps H',Ov X tx σ H' s'/\VV ps d/\Q ps H') X.xe s
def EN:Am X pos [] [] []:=λtx s σ H Q I h=>pairTrees_nil_walk #[[],H,I,.nil,h]
def Dg{k:Φ}(hk:PE X k tk)(hv:PE X v tv)(hr:Am X pos ks vs a):
  Am X pos (↑k::ks) (v::vs) ((tk,tv)::a):=λtx s σ H Q I h=>
 pairTrees_cons_walk (qG (hk tx s σ H _ I h) λu g ⟨x,H1,d,f,j⟩=>qG (hv tx g σ H1 _ d j) λr l ⟨y,p,n,m,o⟩=>
  qG (hr tx l σ p _ n o) λws q ⟨ps,H3,i,c,e⟩=>#[(x,y)::ps,H3,i,.cons #[f,m] c,e])
noncomputable def aK(kvs a:List (qO×V)):List (qO×V):=a.foldl (λc d=>Px c d.1 d.2) kvs
def KV.merge:∀{a:List (qO×V)} {rs:List (qO×Γ)} {kvs:List (qO×V)} {vs:List (qO×Γ)},KV a rs->KV kvs vs->KV (aK kvs a) (merged vs rs):=by
 intro a rs kvs vs r;unfold KV at r
 induction r generalizing kvs vs with
 |nil=>intro q;exact q
 | @cons p q ps qs h t ih=>
  intro c;have e:KV (Px kvs p.1 p.2) (stored vs q.1 q.2):=by
   have:=c.put p.1 h.2
   rw[<- h.1];exact this
  exact ih e
theorem g9:∀(a kvs:List (qO×V)),(aK kvs a).length<=kvs.length+a.length
 | [],kvs=>by show kvs.length<=kvs.length+0;lia
 |p::r,kvs=>by
  have h1:=g9 r (Px kvs p.1 p.2);have c:=eI kvs p.1 p.2
  show(aK (Px kvs p.1 p.2) r).length<=_
  rw[LI];lia
theorem lX{P:Ξ}{w:Ω}:∀{kvs:List (qO×V)} {ws:List (Γ×Γ)},VV (kvs.map λd=>(kV d.1,d.2)) ws->∃rs,Carries (zf P w) ws rs/\KV kvs rs
 | [],_,r=>by rw[NB]at r;cases r;exact#[[],SM,.nil]
 |p::kvs,_,r=>by
  rw[Ls]at r;cases r with
  | @cons a b as bs h t=>
   let#[rs,c,q]:=lX (P:=P) (w:=w) t
   let#[f,e]:=b
   exact#[(p.1,e)::rs,#[eC h.1,Z,c],.cons #[Z,h.2] q]
def Ek(a:List (TE×TE)):TE:=λσ H Q=>∀p,H p=none->t8 a σ (Ot H p (.dK [])) λps c=>c p=↑(.dK [])/\∃kvs:List (qO×V),ps=kvs.map (λd=>(kV d.1,d.2))/\kvs.length<=15/\Q (-p) (Ot c p (.dK (aK [] kvs)))
def Fc{keys:List Υ}(h:Am X pos keys d g)(f:keys.all (·.isSome)=true)(hl:keys.length=d.length)(C:keys≠[])
  (j:keys.length<=15):PE X (.Dict keys d pos) (Ek g):=by
 intro tx s σ H Q I q;have p:=I.hok.fresh (JL s.heap.objs.size);have y:=I.laid (a:=s.heap.objs.size) (o:= .dK []) (h':=s.heap.push {cls:= .type "dict",data:= .dict (B0 [])}) (t':=s.toks) (λ_ _ q=>JR _ q) (JL _) (tD s.heap I.big)
 refine wpAny_Dict_walk (knd:=zf X.prog X.w) f hl C j (qG (h tx _ σ _ _ y (q _ p)) λws G A=>?_)
 let#[ps,J,m,l,e,kvs,v,F,x]:=A;subst v;let#[rs,c,t]:=lX (P:=X.prog) (w:=X.w) l
 let#[z,D,n,E,dd]:=cE m.hok e;cases E;refine#[rs,c,dd,λh' i r=>#[-s.heap.objs.size,_,?_,Z,x]]
 have B:(aK [] kvs).length<=ζ:=by
  have h1:=g9 kvs [];rw[KS]at h1;rw[JV];lia
 have u:∃q,h'.get? s.heap.objs.size=↑q:=let⟨q,_,_,hq,_⟩:=i;#[q,hq]
 exact jr m (by rw[e];exact SM) r u (mB B D (t.merge .nil) i)
structure M1(X:Cx)(o:Φ)(m:Str)(apos:Pos)(e:Φ)(cpos:Pos):Prop where
 base:attributeBase o m X.env (eval o X.env)=eval o X.env
 few:((backTo cpos (θ [e] X.env)).all (λx=> ! x.1)&&(backToKw cpos (keywordEach [] X.env)).all (λx=>x.1.isSome)
  &&decide (([e]:Ι).length+([]:Χ).length+(if([]:Χ).isEmpty then 0 else 1)<30))=true
 line:(apos.endLine==cpos.line)=true
 trees:backTo cpos (θ [e] X.env)=[(false,eval e X.env)]
def HD(H:Hp)(a:Δ):Prop:=(∃kvs,Rd H a (.dK kvs))\/∃kvs,Rd H a (.dT kvs)
def mD(I:Ov X tx σ H s)(d:HD H a):
  s.TypeIs (-a) "dict"/\(∀b,Γ.ref a= .ref b->∃c,s.heap.get? b=↑c/\c.dict=none)/\(a==sysModules)=false:=by
 rcases d with⟨kvs,e⟩|⟨kvs,e⟩
 .let#[_,g,h,_,dd]:=cr I.hok e
  refine#[dd.typeIs,λb q=>?_,g]
  cases q;let#[c,_,_,h1,f,_]:=dd
  exact#[c,h1,f.2.1]
 .let#[_,g,xs,_,dd]:=f9 I.hok e
  refine#[dd.typeIs,λb q=>?_,g]
  cases q;let#[c,_,_,h1,f,_]:=dd
  exact#[c,h1,f.2.1]
def HR{Q:Om}(hu:A.units+1<cLine)(I:Ov X tx σ H s)(g:OR H a y o)(i:Oz y u)(h:∀j s',Ov X tx σ H s'->Oz (o.getD .non) j->Q j s'):
  ε (model X.prog X.w) A (call (.builtin "dict.get") [-a,u]) Q E s:=by
 rcases g with⟨kvs,k,e,d,l⟩|⟨kvs,k,b,e,d,m,l⟩
 .subst d
  let#[z,f,n,c,dd]:=cr I.hok e;refine call_meetsIn N5 dd.typeIs PySem.F.entry_dict_get (PySem.F.args_dict_get_2 _ _) (meets_dict_get (zf X.prog X.w) a (eC i) f) #[_,dd.mapOf,h _ _ (I.tok _) ?_]
  rw[l]
  exact(c.val k).getD Z
 .subst d
  cases(show u=Γ.ref b from i)
  let#[z,f,xs,c,dd]:=f9 I.hok e;refine call_meetsIn N5 dd.typeIs PySem.F.entry_dict_get (PySem.F.args_dict_get_2 _ _) (meetsH_dict_get (tupleKind (zf X.prog X.w)) a b f) #[Nh hu,k,xs,fJ I.hok m,dd,h _ _ (I.tok _) ?_]
  rw[l]
  exact(c.val k).getD Z
def yu(td ty:TE):TE:=λσ H Q=>td σ H λx H1=>∃a,x= .ref a/\HD H1 a/\ty σ H1 λy c=>∃o,OR c a y o/\Q (o.getD .non) c
def AH(td ty:TE):TE:=λσ H Q=>td σ H λx H1=>∃a,x= .ref a/\HD H1 a/\ty σ H1 λy c=>∃kvs k v,c a=↑(.dK kvs)/\y=kV k/\QM kvs k=↑v/\Q v (Ot c a (.dK (di kvs k)))
def Cc(hu:X.A.units+1<cLine)(ho:PE X o td)(he:PE X e ty)(m:M1 X o "get" apos e cpos):PE X (.Call (.Attribute o "get" apos) [e] [] cpos) (yu td ty):=by
 intro tx s σ H Q I h;refine wpAny_Call_method m.base m.few m.line NL N5 PySem.F.type_dict_get (qG (ho tx s σ H _ I h) λu l t=>?_)
 let#[x,H1,f,i,a,ex,d,z]:=t;subst ex
 obtain rfl:u=Γ.ref a:=i
 let#[n,j,_]:=mD f d;exists n,j
 rw[m.trees];refine MM Z (M4 (Sn (qG (he tx l σ H1 _ f z) λD E ⟨y,w,p,r,B,g,q⟩=>Su ?_)))
 exact HR hu p g r λC A v c=>#[_,w,v,c,q]
def AL:zY X (.builtin "len") (λxs H Q=>∃a kvs,xs=[V.ref a]/\H a=↑(.dK kvs)/\Q (.int kvs.length) H):=by
 intro tx s σ H xs f Q I r h;let#[a,kvs,rfl,e,q]:=h;let#[u,rfl,c]:=QU r;cases c;exact IA I (.inl e) λt s' d=>#[.int kvs.length,H,d,#[t,Z],q]
end L2
namespace L3
open PySem PySem.Spec PyProof.Rows L2
open PySem.W (kdl_dict kdl_extend)
def rV{Q:Ζ->Θ->Prop}(l:A.handled=none)(hm:s.heap.DictAt (zf prog w) d kvs ep)(lo:(d==sysModules)=false)(hn:kvs.length<=ζ)
  (h:∀(vs:Ζ) (h':Ψ) (tk:Nat),s.heap.objs.size<h'.objs.size->(∀b o,s.heap.get? b=↑o->h'.get? b=↑o)->vs.length=kvs.length->(∀(j:Nat) (v:Γ),vs[j]? =↑v->∃k x,kvs[j]? =↑(k,x)/\(zf prog w).is k v=true)->Q vs {s with heap:=h',toks:=tk}):
  ε (model prog w) A (collect (-d)) Q E s:=by
 unfold collect;refine JH (wpAny_runValue (NJ entry_proto_collect' ?_))
 show ε _ _ (do again (.builtin "list.__iadd__" #[[<- newList [],-d],[]])) _ _ s
 refine JH (wpAny_newList (JP #[NM _ nofun,NJ entry_list_iadd' ?_]))
 rw[Around.under_plainId PySem.F.plain_list_iadd _];have c:d<s.heap.objs.size:=hm.lt_size
 refine kdl_extend (s:={s with heap:=s.heap.push (seqObj "list" (B0 []) 0)}) (R:=λr s'=>match r with
   | .ok (.ret v)=>ε (model prog w) A (match v with
    | .ref a=>(do
     let o <- load a
     match o.data with
     | .seq xs _=>pure xs.toList
     |_=>unsupported "internal:collect")
    |_=>unsupported "internal:collect") Q E s'
   | .ok _=>False
   | .error e=>E e s') (kdl_dict (knd:=zf prog w) (ep:=ep) (kvs:=kvs) lo) l (hm.push _) s.heap.objs.size (LB c) (LB c) _ 0 (J2 _ Z) (λh' tk f c' hk i g=>?_) hn
 show ε (model prog w) A (do
   let o <- load s.heap.objs.size
   match o.data with
   | .seq xs _=>pure xs.toList
   |_=>unsupported "internal:collect") Q E {s with heap:=h',toks:=tk}
 refine JH (wpAny_load i ?_)
 refine JP (h f.toList h' tk (JS i) (λb o e=>hk b o (J4 (JS e)) (JR _ e)) (by rw[Mc];exact g.1) λj v e=>g.2 j v (by rw[<- K7];exact e))
theorem nj:∀{us:Ζ} {a:Α},us.length=a.length->(∀(j:Nat) (v:Γ),us[j]? =↑v->∃x t,a[j]? =↑x/\v= .str x t)->StrsAre us a
 | [],[],_,_=> .nil
 |u::us,x::a,hl,h=>by
  let#[y,t,c,d]:=h 0 u Z;cases c;subst d;exact .cons _ _ (nj (Nat.succ.inj hl) λj v e=>h (j+1) v e)
 | [],_::_,hl,_=>by cases hl
 |_::_,[],hl,_=>by cases hl
def uP{i:Α}{Q:Om}(L:A.handled=none)(hm:s.heap.DictAt (zf prog w) d kvs ep)(lo:(d==sysModules)=false)(q:kvs.map (·.1)=i.map SJ)(z:i.length<64)
  (h:∀(h':Ψ) (tk:Nat) (l:Δ) (its:Ζ) (n:Nat) (a:Α),s.heap.objs.size<=l->(∀b o,s.heap.get? b=↑o->h'.get? b=↑o)->h'.get? l=↑(seqObj "list" its.toArray n)->StrsAre its a->a.Perm i->sortedS a=true->Q (-l) {s with heap:=h',toks:=tk}):
  ε (model prog w) A (call (.builtin "sorted") [-d]) Q E s:=by
 have c:kvs.length=i.length:=by have:=Lh List.length q;rwa [JI,JI]at this
 refine Calls.call_function_entry kind_sorted plain_sorted entry_sorted (args_sorted1 _) ?_
 unfold γ.«sorted»
 refine JH (m:=checkCount "sorted" 1 1 _) (JP ?_)
 refine JH (rV (ep:=ep) (kvs:=kvs) L hm lo (by rw[JV];lia) λp h' tk C hk J M=>?_)
 have u:StrsAre p i:=nj (J.trans c) λj v e=>by
  let#[k,x,U,S]:=M j v e;have r:(kvs.map (·.1))[j]? =↑k:=by rw[JW,U];rfl
  rw[q,JW]at r;cases e4:i[j]? with
  |none=>rw[e4]at r;cases r
  |some y=>
   rw[e4]at r;have O:SJ y=k:=Lb r
   subst O;have G:Γ.isStrOf y v=true:=S
   cases v<;>simp [Γ.isStrOf]at G
   subst G
   exact#[4]
 refine JH (wpAny_newList ?_)
 have f:(h'.push (seqObj "list" p.toArray 0)).get? h'.objs.size=↑(seqObj "list" p.toArray 0):=J2 _ Z
 show ε _ _ _ _ _ {s with heap:=h'.push (seqObj "list" p.toArray 0),toks:=tk}
 refine JH (LD (LK slot_list_sort #[_,f,Z] entry_list_sort (list_sort_treeK (κ:=PyProof.Rows.strKind) strKind_oneLt f u.keysOf (λH F rest e=>keyKind_strs (by rw[<- e];exact u)) (by rw[J,c];exact z) λg N P=>#[0,?_]) (args_list_sort _)))
 let#[a,K,T,R]:=sorted_out_str u N P;let#[B,t]:∃B,(sortedHeap (h'.push (seqObj "list" p.toArray 0)) h'.objs.size p ((arrOf g).map (·.2))).get? h'.objs.size=↑(seqObj "list" ((arrOf g).map (·.2)) B):=sortedHeap_at f
 refine JP #[0,h _ tk h'.objs.size ((arrOf g).map (·.2)).toList B a (Nt C) (λb o e=>?_) (by rw[t]) K T R]
 have I:=hk b o e;have D:b<h'.objs.size:=JS I
 rw[sortedHeap_old (J4 D) (by rw[LJ];exact MN D)]
 exact JR _ I
theorem eF:∀{us:Ζ} {a:Α},StrsAre us a->OB (a.map V.str) us
 | [],[],.nil=> .nil
 |_,_::_,.cons _ _ t=> .cons #[0] (eF t)
def ug{X:Cx}(hc:X.calm=true):zY X (.builtin "sorted") (λxs H Q=>∃(d:Δ) (kvs:List (qO×V)) (f:Α),xs=[-d]/\H d=↑(.dK kvs)/\kvs.map (·.1)=f.map SJ/\f.length<64/\
  ∀l c,H l=none->c.Perm f->sortedS c=true->Q (-l) (Ot H l (.lst (c.map V.str)))):=by
 intro tx s σ H xs M Q I r h;let#[d,kvs,f,rfl,L,g,j,q]:=h;let#[u,rfl,D]:=QU r;cases D;let#[z,lo,v,m,o,es,C,A,J,G,E,x,K]:=cE I.hok L;have e:v.map (·.1)=f.map SJ:=by rw[<- g,m.keys]
 refine uP (I.ok.hd hc) (#[o,es,A,J,G,E,x,K]:s.heap.DictAt (zf X.prog X.w) d v C) lo e j λh' tk l i n c p hk y w t B=>?_
 refine#[-l,_,I.laid (a:=l) (o:= .lst (c.map V.str)) (t':=tk) hk p ?_,Z,q l c (I.hok.fresh p) t B]
 have F:=eF w;refine#[?_,i,n,F,y]
 have:=t.length_eq
 rw[JI,JV];lia
open Sem (wp)
def yt(k:Nat)(js:Μ)(g:TG)(tc:TT)(te:TE)(σ:L2.St)(Q:VK)(J:It)(H1:Hp):Prop:=∃W:Nat->Nat->Β->L2.St->Hp->Prop,(∃m,W 0 m [] (σ0 k js σ) H1)/\∀i m ys e H,W i m ys e H->
 (J.stop i H/\∀p,H p=none->Q (-p) (Ot H p (.lst ys)))\/(J.go i H/\ys.length<ζ/\∀x H',J.yld i H x H'->g x e H' λa f=>∃(N:V->Hp->Prop) (d:Hp->Prop),(∀v H3,N v H3->∃m',m'<m/\W (i+1) m' (ys++[v]) a H3)/\
  (∀H3,d H3->∃m',m'<m/\W (i+1) m' ys a H3)/\tc a f λc H3=>if c=true then te a H3 N else d H3)
def sB(k:Nat)(js:Μ)(a:TI)(g:TG)(tc:TT)(te:TE):TE:=λσ H Q=>a σ H (yt k js g tc te σ Q)
def uV{t a q i:Φ}{it u:Γ}{env:Env}(I:Nat->Θ->Prop)
  (turn:∀n s,I n s->ε (model prog w) A (pyNext it) (λr d=>match r with
   |none=>R (.ok .next) d
   | some v=>ε (model prog w) A (letOwnedTupleGo a it v) (λ_ g=>ε (model prog w) A (assign a env v) (λ_ p=>ε (model prog w) A (isTrue i env (eval i env)) (λok c=>
     if ok=true then ε (model prog w) A (eval t env) (λx j=>
      ε (model prog w) A (call (.builtin "list.append") [u,x]) (λ_ o=>∃m,m<n/\I m o) (λ_ _=>False) j) (λ_ _=>False) c else∃m,m<n/\I m c)
     (λ_ _=>False) p) (λ_ _=>False) g) (λ_ _=>False) d) (λ_ _=>False) s)
  (n:Nat)(h:I n s):
  codeAny (model prog w) A (.compLoop (.ListComp t [#[a,q,[i],(0)]] e pos) 0 it u env) R s:=by
 refine codeAny_loop Z I (λn s D=>?_) n h
 show ε _ _ ((compTurn (.ListComp t [#[a,q,[i],(0)]] e pos) 0 it u env).onRaise (λx=>do noteFrame x env;theTreesLotGoes x)) _ _ s
 refine wpAny_noted ?_
 rw[compTurn_list];refine JH (L5 (JH (Lg (turn n s D) (λr d l=>?_) λ_ _ h'=>h'.elim)))
 cases r with
 |none=>exact JP l
 |some v=>
  refine JH (Lg l (λ_ g y=>?_) λ_ _ h'=>h'.elim)
  refine JH (Lg y (λ_ p C=>JH (wpAny_tests_one (Lg C (λok c f=>?_) λ_ _ h'=>h'.elim))) λ_ _ h'=>h'.elim)
  cases ok with
  |false=>exact JP #[Z,f]
  |true=>
   exact JH (JH (Lg f (λx j z=>JH (Lg z (λ_ o B=>JP (JP #[Z,B])) λ_ _ h'=>h'.elim)) λ_ _ h'=>h'.elim))
def BF{d:Scope}{cl:List (Str×Δ)}{D:Pos}{fr own:Α}{use:Option (Γ->Sem Unit)}{Post:Om}
  {s:Θ}{H:Hp}
  (hc:X.calm=true)(hi:PI X tg f U)(p:closureFor d X.env=pure cl)(F:hL X cl)(P:cl.map (·.1)=fr)
  (S:Pa X d fr js)
  (hg:∀C s H w,PG (Qy X (own++fr) d cl C s H w) tg g)(ht:∀C s H w,PT (Qy X (own++fr) d cl C s H w) j tc)(he:∀C s H w,PE (Qy X (own++fr) d cl C s H w) u te)
  (hs:∀x,foldedSetIterable f X.env x=pure x)
  (I:L2.Ov X tx σ H s)(h:sB own.length js U g tc te σ H Q)
  (A:∀(l C:Δ) (M:Θ) (H':Hp) (m:On),L2.Ov X tx σ H' M->M.heap.Ns C m->Um X tx H' C->Q (-l) H'->compPost (model X.prog X.w) X.A X.xe use Post (-l) C (.ok .next) M):
  ε (model X.prog X.w) X.A (comprehension (.ListComp u [#[tg,f,[j],(0)]] d pos) d X.env D (newList []) false (eval f X.env) use) Post X.xe s:=
 pz (α:=Β) [] mX List.length (λ_=> .lst) (λys G E H=>∃(N:V->Hp->Prop) (O:Hp->Prop),(∀v H3,N v H3->G (ys++[v]) H3)/\(∀H3,O H3->G ys H3)/\tc E H λc H3=>if c=true then te E H3 N else O H3)
  (λl env N s=>ε (model X.prog X.w) X.A (isTrue j env (eval j env)) (λok i=>if ok=true then ε (model X.prog X.w) X.A (eval u env) (λx B=>ε (model X.prog X.w) X.A (call (.builtin "list.append") [-l,x]) (λ_=>N) (λ_ _=>False) B) (λ_ _=>False) i else N i) (λ_ _=>False) s)
  hc hi p F P S hg hs Z (λh=>LH h) #[[],(0),.nil,Z] Z Z oG (λI t n h=>uV I t n h) codeAny_compStart_list (λr z e _=>uX r z e)
  (λ{C s H w pl E H' s' b a o N G} I _ R r hl q k=>by
   let#[N1,O,h1,h0,q]:=q;refine qG (ht _ _ _ _ _ s' E H' _ I q) λok J L=>?_
   let#[H7,K,W]:=L;cases ok with
   |false=>exact k (h':=J.heap) (tk:=J.toks) K r (Lr _) (λ_ _=>rfl) (R K) (h0 _ W)
   |true=>
    refine qG (he _ _ _ _ _ J E H7 _ K W) λv s8 L=>?_
    let#[y,H8,T,r8,n8]:=L;exact tP r (R T) hl r8 λY g1 g2=>k T Y (by simp) g1 g2 (h1 _ _ n8))
  I h A
def CP{a:Scope}{cl:List (Str×Δ)}{fr own:Α}
  (hc:X.calm=true)(hi:PI X tg d v)(f:closureFor a X.env=pure cl)(p:hL X cl)(u:cl.map (·.1)=fr)
  (S:Pa X a fr js)
  (hg:∀C s H n,PG (Qy X (own++fr) a cl C s H n) tg g)(w:∀C s H n,PT (Qy X (own++fr) a cl C s H n) l tc)(he:∀C s H n,PE (Qy X (own++fr) a cl C s H n) i te)
  (hs:∀x,foldedSetIterable d X.env x=pure x:=by intro _;rfl):
  PE X (.ListComp i [#[tg,d,[l],(0)]] a pos) (sB own.length js v g tc te):=by
 intro tx s σ H Q I h;rw[eval_ListComp];refine BF (use:=none) hc hi f p u S hg w he hs I h λt C z H' m D A j q=>?_
 exact#[m,A,λh' r=>#[-t,H',D.turned (t':=z.toks) (λb o B e=>(r.2 b B).trans e) j.free j.loc (.inr j.new) j.cell j.pin,Z,q]]
def BJ{a:Scope}{cl:List (Str×Δ)}{fr own:Α}
  (hc:X.calm=true)(hi:QI X tg d m)(f:closureFor a X.env=pure cl)(j:hL X cl)(l:cl.map (·.1)=fr)
  (S:Pa X a fr js)
  (hg:∀C s H e,QG (Qy X (own++fr) a cl C s H e) tg g)(n:∀C s H e,QT (Qy X (own++fr) a cl C s H e) i tc)(he:∀C s H e,QE (Qy X (own++fr) a cl C s H e) h te)
  (hs:∀x,foldedSetIterable d X.env x=pure x:=by intro _;rfl):
  QE X (.ListComp h [#[tg,d,[i],(0)]] a pos) (sB own.length js m g tc te):=#[CP hc hi.h f j l S (λC s H e=>(hg C s H e).h) (λC s H e=>(n C s H e).h) (λC s H e=>(he C s H e).h) hs]
section
variable{K:ι}
abbrev Be(J:It)(js:Μ)(tc:TT)(te:TE)(σ:L2.St)(H1:Hp)(Q:VK):Prop:=yt 1 js (aR 0) tc te σ Q J H1
def AG{J:It}{n:Nat}(hn:n<=ζ)(d:Nat->V->Prop)(Pv:Nat->Β->Hp->Prop)(j:Pv 0 [] H)(g:∀i ys H,i<n->Pv i ys H->J.go i H)(hst:∀ys H,Pv n ys H->J.stop n H)
  (l:∀i ys H x H',i<n->Pv i ys H->J.yld i H x H'->H'=H/\d i x)
  (hs:∀i ys H x,i<n->Pv i ys H->d i x->tc (↑x::Q1 js σ) H λc H3=>if c=true then te (↑x::Q1 js σ) H3 (λv q=>Pv (i+1) (ys++[v]) q)else Pv (i+1) ys H3)
  (hd:∀ys H,Pv n ys H->∀p,H p=none->Q (-p) (Ot H p (.lst ys))):Be J js tc te σ H Q:=by
 exists λi m ys h H=>m=n-i/\i<=n/\ys.length<=i/\Pv i ys H/\∃o,h=o::Q1 js σ,#[n,by simp,Li _,JL _,j,none,Z]
 rintro i m ys h H ⟨rfl,hi,s,p,o,rfl⟩
 by_cases a:i<n
 .refine .inr #[g i ys H a p,by lia,λx H' y=>?_]
  let#[e,r]:=l i ys H x H' a p y;subst e
  exact#[λv H3=>Pv (i+1) (ys++[v]) H3,λH3=>Pv (i+1) ys H3,λv H3 f=>#[n-(i+1),gN a,Z,a,by simp;lia,f,0],λH3 f=>#[n-(i+1),gN a,Z,a,by lia,f,0],hs i ys _ x a p r]
 .have e:i=n:=by lia
  subst e;exact .inl #[hst ys H p,hd ys H p]
def xp{xs:Β}(hn:xs.length<=ζ)(Pv:Nat->Β->Hp->Prop)(f:Pv 0 [] H)(hl:∀i ys H,Pv i ys H->OA K H a xs)
  (hs:∀i ys H x,xs[i]? =↑x->Pv i ys H->tc (↑x::Q1 js σ) H λc H3=>if c=true then te (↑x::Q1 js σ) H3 (λv d=>Pv (i+1) (ys++[v]) d)else Pv (i+1) ys H3)
  (hd:∀ys H,Pv xs.length ys H->∀p,H p=none->Q (-p) (Ot H p (.lst ys))):Be (ji K a) js tc te σ H Q:=
 AG hn (λi x=>xs[i]? =↑x) Pv f (λi ys H hi p=>#[xs,xs[i],hl _ _ _ p,by simp [hi]]) (λys H p=>#[xs,hl _ _ _ p,JL _]) (λi ys H x H' _ p y=>#[y.1,y.2 xs (hl _ _ _ p)]) (λi ys H x _ p e=>hs i ys H x e p) hd
end
noncomputable def p9(x y:Λ):Ε:=(match x with|some i=>[i]|none=>[])++(match y with|some i=>[i]|none=>[])
def ya(hc:X.calm=true):zY X (.builtin "max") (λxs H Q=>∃(p:Δ) (ns:Ε),xs=[-p]/\H p=↑(.lst (ns.map V.int))/\0<ns.length/\∀M,M∈ns->(∀a∈ns,a<=M)->Q (.int M) H):=by
 intro tx s σ H xs F Q I r h;let#[p,ns,rfl,C,g,q]:=h;let#[u,rfl,A]:=QU r;cases A;let#[z,d,n,y,E,e]:=I.lstM C;have hi:IntsAre d ns:=w6 y
 let#[ys,l]:=hi.allInts.items;have c:ns=ys.toList.map (·.1):=by rw[<- hi.numsOf,<- nums_intItems,<- l]
 have f:0<ys.size:=by
  have o:=g;rw[c,JI,Mc]at o;exact o
 have B:s.heap.IsList p (intItems ys):=by
  rw[<- l]
  exact#[_,e,Z,#[n,Z]]
 refine max_intList (I.ok.hd hc) B f λv h' tk D hk=>?_
 let#[t,rfl]:=intItems_at D;let#[h1,w]:=argBest_gt (numAt ys) (ys.size-1)
 refine#[.int (numAt ys (argBest (λi j=>decide (numAt ys i>numAt ys j)) (ys.size-1))),H,I.kept (t':=tk) hk,#[0],q _ ?_ λa m=>?_]
 .rw[c,numAt_eq];exact PySem.getD_mem (by rw[JI,Mc];lia)
 .rw[c]at m
  let#[j,x,rfl]:=mem_getD m;rw[JI,Mc]at x;rw[<- numAt_eq];exact w j (by lia)
def qH{k:Nat}(hr:OL k X.A)(ho:QE X o td)(hi:QE X i ty)(hs:BN i:=by exactλ_ _=>rfl):QE X (.Subscript o i pos) (Ep td ty):=#[EW (by have:=hr.un;lia) ho.h hi.h hs]
def Za{k:Nat}(hr:OL k X.A)(ho:QE X o td)(hi:QE X i ty)(hv:QE X value tv)(hs:swapsWith value ↑(.Subscript o i pos') pos.line X.env=pure false:=by rfl):
  QS X (.Assign [.Subscript o i pos'] value pos) (Eg td ty tv):=#[E2 (by have:=hr.un;lia) ho.h hi.h hv.h hs]
structure Ve(X:Cx)(pos:Pos)(keys:List Υ)(values:Ι)(trs:List (TE×TE)):Prop where
 h:Am X pos keys values trs
def Fn:Ve X pos [] [] []:=#[EN]
def aa{k:Φ}{tv:TE}(hk:QE X k tk)(hv:QE X v tv)(hr:Ve X pos ks vs a):Ve X pos (↑k::ks) (v::vs) ((tk,tv)::a):=#[Dg hk.h hv.h hr.h]
def Fr{keys:List Υ}(h:Ve X pos keys a c)(d:keys.all (·.isSome)=true:=by rfl)(hl:keys.length=a.length:=by rfl)(f:keys≠[]:=by(intro z;cases z))
  (e:keys.length<=15:=by decide):QE X (.Dict keys a pos) (Ek c):=#[Fc h.h d hl f e]
theorem nY{k:qO}{v:V}:∀{kvs:List (qO×V)} (i:Nat),kvs[i]? =↑(k,v)->(kvs.map (·.1)).Nodup->QM kvs k=↑v
 | [],i,h,_=>by cases h
 |p::r,0,h,_=>by
  cases Lb h
  exact cV Z
 |p::r,i+1,h,nd=>by
  have h':r[i]? =↑(k,v):=h
  have a:p.1∉r.map (·.1)/\(r.map (·.1)).Nodup:=LF.mp nd
  have c:k∈r.map (·.1):=J7.mpr #[(k,v),JU h',Z]
  have ne:p.1≠k:=λz=>a.1 (z▸c)
  rw[c9 ne];exact nY i h' a.2
def De{k:qO}{u:V}{kvs:List (qO×V)}(i:Nat)(h:kvs[i]? =↑(k,u))(d:(kvs.map (·.1)).Nodup):Px kvs k v=kvs.set i (k,v):=by
 have c:i<kvs.length:=(JZ.mp h).1
 have a:=(JZ.mp h).2;unfold Px;rw[JK]
 .refine KM (by simp) λj h1 l=>?_
  rw[Ni,Kv];have f:j<kvs.length:=by simpa using h1
  by_cases e:i=j
  .subst e
   rw[JK (by rw[a]),JK Z,a]
  .rw[JJ e,JJ]
   intro z;have g:(kvs.map (·.1))[i]'(by simpa using c)=(kvs.map (·.1))[j]'(by simpa using f):=by rw[Ni,Ni,a,z]
   exact e ((Kd d).mp g)
 .rw[KU]
  exact#[kvs[i],L9 c,by rw[a];exact JM Z]
def vg{k:qO}{kvs:List (qO×V)}(h:k∉kvs.map (·.1)):Px kvs k v=kvs++[(k,v)]:=by
 unfold Px;rw[JJ];intro z;let#[p,a,e]:=KU.mp z;exact h (J7.mpr #[p,a,J5 e])
def tR{k:Nat}(hr:OL k X.A)(ho:QE X o td)(ha:QE X e ty)(m:M1 X o "get" apos e cpos:=by exact#[41]):QE X (.Call (.Attribute o "get" apos) [e] [] cpos) (yu td ty):=#[Cc (by have:=hr.un;lia) ho.h ha.h m]
def Z9:QE X (.Dict [] [] pos) yg:=#[Ch]
def mS{k:Nat}(hr:OL k X.A)(hi:QE X e ty)(ho:QE X o td)(h1:behindInMarks CmpOp.In o=false:=by rfl):QT X (.Compare e [.In] [o] pos) (ju (Cn ty td)):=#[Bg (Bu (by have:=hr.un;lia) hi.h ho.h) (h1:=h1)]
def bO{k:Nat}(hr:OL k X.A)(hi:QE X e ty)(ho:QE X o td)(h1:behindInMarks CmpOp.NotIn o=false:=by rfl):QT X (.Compare e [.NotIn] [o] pos) (ju (vv ty td)):=#[Bg (xz (by have:=hr.un;lia) hi.h ho.h) (h1:=h1)]
structure Kb where
 age:Int
 last:Int
 wt:Option (Int×Int)
abbrev Kw:=List (Str×Kb)
def Wt(H:Hp)(v:V):Option (Int×Int)->Prop
 |none=>v= .non
 |some (x,c)=>∃w,v= .ref w/\H w=↑(.tup [.int x,.int c])
def PQ(H:Hp)(a:Δ)(e:Kb):Prop:=∃v,H a=↑(.tup [.int e.age,.int e.last,v])/\Wt H v e.wt
noncomputable def cM(a:Kw)(f:Str->Δ):List (qO×V):=a.map λe=>(SJ e.1,V.ref (f e.1))
def RC(H:Hp)(d:Δ)(a:Kw):Prop:=∃f:Kw×(Str->Δ),H d=↑(.dK (cM f.1 f.2))/\(∀e∈a,PQ H (f.2 e.1) e.2)/\f.1.Perm a/\(a.map (·.1)).Nodup
noncomputable def QL(a:Kw)(nm:Str)(e:Kb):Kw:=if nm∈a.map (·.1)then a.map (λp=>if p.1=nm then(nm,e)else p)else a++[(nm,e)]
theorem Mv.tup(m:Mv S H H')(n:NT S H)(h:H a=↑(.tup xs)):H' a=↑(.tup xs):=m _ _ (λz=>by
 let#[o,e,no]:=n a z;rw[e]at h;cases h;exact no) h
def Wt.mv(m:Mv S H H')(n:NT S H)(h:Wt H v o):Wt H' v o:=by
 cases o with
 |none=>exact h
 |some p=>let#[w,e,r]:=h;exact#[w,e,m.tup n r]
theorem PQ.mv(m:Mv S H H')(n:NT S H)(h:PQ H a e):PQ H' a e:=by
 let#[v,r,w]:=h
 exact#[v,m.tup n r,w.mv m n]
def PQ.same(s:Oq H H')(h:PQ H a e):PQ H' a e:=h.mv (S:=[]) s.mv (λc h=>nomatch h)
theorem RC.mv{d:Δ}(m:Mv S H H')(n:NT S H)(hd:d∉S)(h:RC H d a):RC H' d a:=by
 let#[f,r,w,p]:=h
 exact#[f,m _ _ hd r,λe c=>(w e c).mv m n,p]
theorem nZ(f:Str->Δ)(nm:Str):∀a:Kw,QM (cM a f) (SJ nm:qO)=(a.lookup nm).map λ_=>V.ref (f nm)
 | []=>rfl
 |(m,e)::r=>by
  show QM ((SJ m,V.ref (f m))::cM r f) (SJ nm)=_
  by_cases q:m=nm
  .subst q
   rw[cV Z,N3];rfl
  .rw[c9 (by intro z;injection z with z;exact q z),LL,Mj (λz=>q z.symm)]
   exact nZ f nm r
theorem ZL{nm:Str}{e:Kb}:∀{a:Kw},a.lookup nm=↑e->(nm,e)∈a
 |(m,x)::r,h=>by
  rw[LL]at h
  by_cases q:nm=m
  .subst q
   rw[LQ]at h;cases h;exact J3 ..
  .rw[Mj q]at h
   exact F0 _ (ZL h)
theorem OM{nm:Str}:∀{a:Kw},(a.lookup nm).isSome=true↔nm∈a.map (·.1)
 | []=>by simp
 |(m,x)::r=>by
  rw[LL,Ls,JO]
  by_cases q:nm=m
  .subst q;simp
  .rw[Mj q]
   simp only[q,false_or];exact OM
def jo(a:Kw)(nm:Str)(e:Kb):(QL a nm e).map (·.1)=if nm∈a.map (·.1)then a.map (·.1)else a.map (·.1)++[nm]:=by
 unfold QL;split
 .rw[LY]
  refine Nc λp c=>?_
  simp only[Function.comp]
  by_cases y:p.1=nm
  .rw[JK y,y]
  .rw[JJ y]
 .rw[La];rfl
def Dk(a:Kw)(nm:Str)(e:Kb):(QL a nm e).length<=a.length+1:=by
 have:=Lh List.length (jo a nm e)
 rw[JI]at this;rw[this];split
 .rw[JI];lia
 .rw[J0,JI];exact JL _
def uY{d:Kw}(c:(d.map (·.1)).Nodup)(nm:Str)(e:Kb):((QL d nm e).map (·.1)).Nodup:=by
 rw[jo];split
 .exact c
 .rename_i z
  exact N6.mpr #[c,by simp,λa f b g=>by rw[JN.mp g];exactλw=>z (w▸f)]
theorem j8{nm:Str}{e:Kb}:∀{d:Kw},(d.map (·.1)).Nodup->d.lookup nm=↑e->∀p∈d,p.1=nm->p=(nm,e)
 | [],_,h,_,a,_=>by cases a
 |(m,x)::r,nd,h,p,a,hn=>by
  have c:m∉r.map (·.1)/\(r.map (·.1)).Nodup:=LF.mp nd
  rw[LL]at h
  by_cases q:nm=m
  .subst q
   rw[LQ]at h;cases h;rcases JO.mp a with rfl|a
   .rfl
   .exact absurd (J7.mpr #[p,a,hn]) c.1
  .rw[Mj q]at h
   rcases JO.mp a with rfl|a
   .exact absurd hn.symm q
   .exact j8 c.2 h p a hn
def jY{k0:Kw}(pm:k0.Perm a)(d:(a.map (·.1)).Nodup)(nm:Str):k0.lookup nm=a.lookup nm:=by
 cases e:k0.lookup nm with
 |none=>
  cases e':a.lookup nm with
  |none=>rfl
  |some x=>
   have:(k0.lookup nm).isSome=true:=OM.mpr ((pm.map (·.1)).mem_iff.mpr (OM.mp (by rw[e'];rfl)))
   rw[e]at this;cases this
 |some x=>
  let#[y,c]:∃y,a.lookup nm=↑y:=Mw.mp (OM.mpr (J7.mpr #[_,pm.mem_iff.mp (ZL e),Z]))
  rw[c]
  have:=j8 d c _ (pm.mem_iff.mp (ZL e)) Z
  cases this;rfl
def RC.get(h:RC H d c)(nm:Str):(c.lookup nm=none/\OR H d (.str nm) none)\/∃e a,c.lookup nm=↑e/\OR H d (.str nm) ↑(-a)/\PQ H a e:=by
 let#[#[k0,f],j,l,pm,i]:=h;have g:=OR.k (k:=SJ nm) j
 rw[nZ,jY pm i]at g;cases q:c.lookup nm with
 |none=>rw[q]at g;exact .inl #[Z,g]
 |some e=>rw[q]at g;exact .inr #[e,f nm,Z,g,l _ (ZL q)]
def rb{k0:Kw}(pm:k0.Perm a)(nm:Str)(e:Kb):(QL k0 nm e).Perm (QL a nm e):=by
 unfold QL
 by_cases z:nm∈a.map (·.1)
 .rw[JK ((pm.map (·.1)).mem_iff.mpr z),JK z];exact pm.map _
 .rw[JJ (λw=>z ((pm.map (·.1)).mem_iff.mp w)),JJ z];exact pm.append_right _
def RC.put(h:RC H d l)(nm:Str)(hl:l.length<=100)(hb:PQ H a e):∃H',Rt H d (.str nm) (-a) H'/\Mv [d] H H'/\RC H' d (QL l nm e):=by
 let#[#[k0,f],t,m,pm,u]:=h;have j:(cM k0 f).length=l.length:=(JI _).trans pm.length_eq
 have hk:∀e∈k0,PQ H (f e.1) e.2:=λe x=>m e (pm.mem_iff.mp x)
 refine#[_,Rt.k (k:=SJ nm) t (by rw[j];exact rK _),Mv.upd1,(QL k0 nm e,λn=>if n=nm then a else f n),?_,?_,rb pm nm e,uY u nm e]
 .rw[qb]
  congr 2
  unfold Px QL cM;have s:((k0.map λe=>((SJ e.1:qO),V.ref (f e.1))).any λv=>decide (v.1=(SJ nm:qO)))=true↔nm∈k0.map (·.1):=by
   rw[KU];constructor
   .rintro⟨p,c,z⟩
    let#[q,g,rfl]:=J7.mp c;have r:(SJ q.1:qO)=SJ nm:=J5 z
    injection r with r
    exact J7.mpr #[q,g,r]
   .intro z
    let#[q,g,e]:=J7.mp z
    exact#[_,J7.mpr #[q,g,Z],JM (by rw[e])]
  by_cases z:nm∈k0.map (·.1)
  .rw[JK (s.mpr z),JK z,LY,LY]
   refine Nc λp c=>?_
   simp only[Function.comp]
   by_cases y:p.1=nm
   .rw[JK (by rw[y]),JK y]
    simp [y]
   .rw[JJ (by intro w;injection w with w;exact y w),JJ y]
    simp [y]
  .rw[JJ (λw=>z (s.mp w)),JJ z,La]
   congr 1
   .refine Nc λp c=>?_
    have y:¬p.1=nm:=λw=>z (J7.mpr #[p,c,w])
    simp [y]
   .simp
 .have nt:NT [d] H:=NT.one t trivial
  intro p c;have c:=(rb pm nm e).mem_iff.mpr c;have i:=hb.mv (Mv.upd1 (o:= .dK (Px (cM k0 f) (SJ nm) (-a)))) nt
  unfold QL at c;split at c
  .let#[q,g,rfl]:=J7.mp c
   by_cases y:q.1=nm
   .rw[JK y];simp only[LW];exact i
   .rw[JJ y]
    show PQ _ (if q.1=nm then a else f q.1) q.2
    rw[JJ y]
    exact(hk q g).mv Mv.upd1 nt
  .rename_i z
   rcases J1.mp c with g|g
   .have y:¬p.1=nm:=λw=>z (J7.mpr #[p,g,w])
    show PQ _ (if p.1=nm then a else f p.1) p.2
    rw[JJ y]
    exact(hk p g).mv Mv.upd1 nt
   .rw[JN.mp g];simp only[LW];exact i
def OP(K:ι)(H:Hp)(hk:Δ)(c:List Ε):Prop:=∃d:Η,H hk=↑(.lst (d.map V.ref))/\d.length=c.length/\∀(i:Nat) (a:Δ) (ks:Ε),d[i]? =↑a->c[i]? =↑ks->OC K H a (ks.map V.int)
def OP.mv{K:ι}{hk:Δ}(m:Mv S H H')(n:NT S H)(hd:hk∉S)(h:OP K H hk c):OP K H' hk c:=by
 let#[g,e,l,r]:=h
 exact#[g,m _ _ hd e,l,λi a ks d f=>m.sqt n (r i a ks d f)]
structure Dr where
 t:Ε
 kss:List Ε
 near:Int
 far:Int
 most:Int
 least:Int
 kn:Kw
noncomputable def dF(D:Dr)(ta hk bd lg:Δ):List (Str×V):=
 [("table",-ta),("house_keys",-hk),("near",.int D.near),("far",.int D.far),("most",.int D.most),("least_age",.int D.least),("buttons",-bd),("log",-lg)]
noncomputable def dN:Α:=["table","house_keys","near","far","most","least_age","buttons","log"]
def Io:dN.Nodup:=by decide +kernel
def rL(D:Dr)(ta hk bd lg:Δ):((dF D ta hk bd lg).map (·.1)).Nodup:=Io
structure PB(K:ι)(C:Δ):Prop where
 cl:RT K C
 n_table:OF K C "table"
 n_house_keys:OF K C "house_keys"
 n_near:OF K C "near"
 n_far:OF K C "far"
 n_most:OF K C "most"
 n_least_age:OF K C "least_age"
 n_buttons:OF K C "buttons"
 n_log:OF K C "log"
structure Ox(K:ι)(C:Δ)(H:Hp)(p ta hk bd lg:Δ)(n:Nat)(D:Dr):Prop where
 ob:∃dx,H p=↑(.ins C dx (dF D ta hk bd lg))
 tb:OC K H ta (D.t.map V.int)
 ks:OP K H hk D.kss
 kb:RC H bd D.kn
 lo:∃rs:Η,H lg=↑(.lst (rs.map V.ref))/\rs.length<=n
 ne:lg≠hk
section
variable{K:ι}{n:Nat}
def Ox.has(b:Ox K C H p ta hk bd lg n D)(U:PB K C)(i:Nat){f:Str}{v:V}(h:(dF D ta hk bd lg)[i]? =↑(f,v))(a:OF K C f):Qm K H p f v:=by
 let#[dx,e]:=b.ob
 exact#[C,dx,_,e,U.cl,a,bR i h (rL ..)]
def Ox.h_table(b:Ox K C H p ta hk bd lg n D)(U:PB K C):Qm K H p "table" (-ta):=b.has U 0 Z U.n_table
def Ox.h_house_keys(b:Ox K C H p ta hk bd lg n D)(U:PB K C):Qm K H p "house_keys" (-hk):=b.has U 1 Z U.n_house_keys
def Ox.h_near(b:Ox K C H p ta hk bd lg n D)(U:PB K C):Qm K H p "near" (.int D.near):=b.has U 2 Z U.n_near
def Ox.h_far(b:Ox K C H p ta hk bd lg n D)(U:PB K C):Qm K H p "far" (.int D.far):=b.has U 3 Z U.n_far
def Ox.h_most(b:Ox K C H p ta hk bd lg n D)(U:PB K C):Qm K H p "most" (.int D.most):=b.has U 4 Z U.n_most
def Ox.h_least_age(b:Ox K C H p ta hk bd lg n D)(U:PB K C):Qm K H p "least_age" (.int D.least):=b.has U 5 Z U.n_least_age
def Ox.h_buttons(b:Ox K C H p ta hk bd lg n D)(U:PB K C):Qm K H p "buttons" (-bd):=b.has U 6 Z U.n_buttons
def Ox.h_log(b:Ox K C H p ta hk bd lg n D)(U:PB K C):Qm K H p "log" (-lg):=b.has U 7 Z U.n_log
def Ox.no(b:Ox K C H p ta hk bd lg n D){m:Str}(h:m∉dN:=by decide +kernel):Ad C H p m:=by
 let#[dx,e]:=b.ob
 exact#[dx,_,e,ef h]
theorem Ox.mv(b:Ox K C H p ta hk bd lg n D)(m:Mv S H H')(nt:NT S H)(hp:p∉S)(a:hk∉S)(hb:bd∉S)(hl:lg∉S):Ox K C H' p ta hk bd lg n D:=by
 let#[dx,e]:=b.ob;let#[rs,c,l]:=b.lo
 exact#[#[dx,m _ _ hp e],m.sqt nt b.tb,b.ks.mv m nt a,b.kb.mv m nt hb,#[rs,m _ _ hl c,l],b.ne]
def Ox.same(b:Ox K C H p ta hk bd lg n D)(s:Oq H H'):Ox K C H' p ta hk bd lg n D:=b.mv (S:=[]) s.mv (λc h=>nomatch h) (λh=>nomatch h) (λh=>nomatch h) (λh=>nomatch h) (λh=>nomatch h)
end
inductive U7 (x:V)(y:V)(H:Hp)(Q:VK):Prop
 |mk (o:Option (Int×Int))(b:Δ)(a c:Int)(h1:Wt H x o)(h2:y= .ref b)(h3:Rd H b (.tup [.int a,.int c]))(h4:Q (.bl (decide (o=↑(a,c)))) H)
def IX:R2:=λx y H Q=>U7 x y H Q
def G0{X:Cx}{k:Nat}(hr:OL k X.A):Qj X (SL .Eq) IX:=by
 intro tx s σ H x y v u Q I B M h;let#[o,b,a,c,D,rfl,K,q]:=h;cases M;let#[d,C,p2,_]:=I.tuple (.inl K)
 have E:X.A.units<cLine:=by have:=hr.un;lia
 cases o with
 |none=>
  have l:x= .non:=D
  subst l;cases B;rw[JT (by intro z;cases z)]at q
  exact SeqAt.RcAt.none_tuple p2 E _ _ _ _ #[.bl false,H,I,Z,q]
 |some pr=>
  let#[n,m]:=pr;let#[w,rfl,l]:=D;cases B;let#[i,F,L,_]:=I.tuple (.inl (.inl l))
  have r:=F.length;have p:=C.length;have P:=SeqAt.RcAt.tuples (A:=X.A) (e:=λj=>[n,m].getD j 0==[a,c].getD j 0) (show s.heap.IsTuple w i.toArray from L) (show s.heap.IsTuple b d.toArray from p2) E (λj h1 O=>by
   have g:j<i.length:=by simpa using h1
   have f:j<d.length:=by simpa using O
   let#[t,e]:=va (ns:=[n,m]) F j g (by rw[<- r]at g;exact g)
   let#[R,N]:=va (ns:=[a,c]) C j f (by rw[<- p]at f;exact f)
   simp only[KW,e,N,Lj,JQ (show j<[n,m].length by rw[<- r]at g;exact g),JQ (show j<[a,c].length by rw[<- p]at f;exact f),MO]
   exact SeqAt.EqAt.int_int _ _ _ _)
  have G:i.toArray.size=2:=by rw[J9,<- r];rfl
  have J:d.toArray.size=2:=by rw[J9,<- p];rfl
  refine P _ _ _ _ #[.bl _,H,I,?_,q]
  show Γ.bool _=Γ.bool _
  congr 1
  rw[G,J,show min 2 2=([n,m]:Ε).length from Z,CU [n,m] [a,c] Z]
  simp
noncomputable def wx(c l n f:Int):Str:=if c<=l then "old" else if c<=l+n then "near" else if c<=l+f then "far" else "beyond"
inductive vI|mk (c l n f:Int)(h1:vs=[.int c,.int l,.int n,.int f])(h2:Q (.str (wx c l n f)) H)
noncomputable def ZK(a d:Int)(e:Kb)(age c:Int):Str×Kb:=
 if c<=e.last then("old",e)else if c<=e.last+a then("near",#[age,c,none])
 else if c<=e.last+d then(if e.wt=↑(age,c-1)then("near",#[age,c,none])else("far",#[e.age,e.last,↑(age,c)]))else("beyond",e)
inductive vK|mk (a:Δ)(e:Kb)(age c near far:Int)(h1:vs=[-a,.int age,.int c,.int near,.int far])(h2:PQ H a e)(h3:∀q a' H',Oq H H'->H' q=↑(.tup [.str (ZK near far e age c).1,-a'])->PQ H' a' (ZK near far e age c).2->Q (-q) H')
noncomputable def Z4(D:Dr)(age:Int):Bool:=decide (D.least<=age)&&decide (age<D.kss.length)
noncomputable def aS(D:Dr)(e:Kb)(age:Int):Bool:=Z4 D age&&decide (e.age<=age)
noncomputable def QF(D:Dr)(nm:Str)(age:Int)(r:Option (Int×Int)):Β×Kw:=
 match D.kn.lookup nm with
 |none=>([.str "held",.str "unknown"],D.kn)
 |some e=>if aS D e age=true then(match r with
   |none=>([.str "held",.str "false"],D.kn)
   |some (c,d)=>if(ZK D.near D.far e age c).1="near" then([.str "open",.str nm,.int d],QL D.kn nm (ZK D.near D.far e age c).2)else([.str "held",.str (ZK D.near D.far e age c).1],QL D.kn nm (ZK D.near D.far e age c).2))
  else([.str "held",.str "age"],D.kn)
structure RW(D:Dr):Prop where
 tp:D.t.Perm O6
 l0:0<=D.least
 kl:D.kss.length<=8
 nl:D.kn.length<=60
 nd:(D.kn.map (·.1)).Nodup
section
variable(K:ι)(C:Δ)
inductive mY|mk (p ta hk bd lg:Δ)(n:Nat)(D:Dr)(h1:vs=[-p])(h2:Ox K C H p ta hk bd lg n D)(h3:Q (.bl (decide (D.most<=(D.kn.length:Int)))) H)
inductive gA|mk (p ta hk bd lg:Δ)(n:Nat)(D:Dr)(age:Int)(h1:vs=[-p,.int age])(h2:Ox K C H p ta hk bd lg n D)(h3:Q (.bl (Z4 D age)) H)
inductive ng|mk (p ta hk bd lg a:Δ)(n:Nat)(D:Dr)(e:Kb)(age:Int)(h1:vs=[-p,-a,.int age])(h2:Ox K C H p ta hk bd lg n D)(h3:PQ H a e)(h4:Q (.bl (aS D e age)) H)
inductive wT|mk (p ta hk bd lg:Δ)(n:Nat)(D:Dr)(nm:Str)(h1:vs=[-p,.str nm])(h2:Ox K C H p ta hk bd lg n D)(h3:(D.kn.lookup nm=none->Q .non H))(h4:(∀e a,D.kn.lookup nm=↑e->PQ H a e->Q (-a) H))
inductive vy|mk (p ta hk bd lg a:Δ)(n:Nat)(D:Dr)(e:Kb)(age c:Int)(h1:vs=[-p,-a,.int age,.int c])(h2:Ox K C H p ta hk bd lg n D)(h3:PQ H a e)(h4:aS D e age=true)(h5:∀q a' H',Oq H H'->H' q=↑(.tup [.str (ZK D.near D.far e age c).1,-a'])->PQ H' a' (ZK D.near D.far e age c).2->Q (-q) H')
def OY(H:Hp)(pr:Δ)(nm:Str)(age:Int)(ds:Ε):Prop:=∃a,H pr=↑(.tup [.str nm,.int age,-a])/\H a=↑(.tup (ds.map V.int))
def aW(D:Dr)(age:Int):Ε:=D.kss.getD age.toNat []
inductive pM|mk (p ta hk bd lg pr:Δ)(n:Nat)(D:Dr)(nm:Str)(age:Int)(ds:Ε)(h1:vs=[-p,-pr])(h2:Ox K C H p ta hk bd lg n D)(h3:RW D)(h4:OY H pr nm age ds)(h5:Zo nm)(h6:ds.length=5)(h7:Qn ds)(h8:∀q H',Mv [bd] H H'->H' q=↑(.tup (QF D nm age (aF D.t (aW D age) nm ds)).1)->Ox K C H' p ta hk bd lg n {D with kn:=(QF D nm age (aF D.t (aW D age) nm ds)).2}->Q (-q) H')
end
def OY.mv{pr:Δ}(m:Mv S H H')(n:NT S H)(h:OY H pr nm age ds):OY H' pr nm age ds:=by
 let#[a,c,d]:=h
 exact#[a,m.tup n c,m.tup n d]
def OY.same{pr:Δ}(s:Oq H H')(h:OY H pr nm age ds):OY H' pr nm age ds:=by
 let#[a,c,d]:=h
 exact#[a,s _ _ c,s _ _ d]
def ra:Qj X (SL .LtE) (λx y H Q=>∃i j,x= .str i/\y= .str j/\Q (.bl (! decide (j.cps.toList<i.cps.toList))) H):=by
 intro tx s σ H x y v u Q I c a h;let#[i,j,rfl,rfl,q]:=h;let#[t,rfl]:=c;let#[d,rfl]:=a;exact PySem.P.le_str (zp I q Z)
def Dn{te:TE}{H:Hp}{Q:VK}{x:Str}(hn:x.cps.size<=ζ)(Pv:Nat->Β->Hp->Prop)(a:Pv 0 [] H)
  (hs:∀i ys H c,x.cps[i]? =↑c->ys.length=i->Pv i ys H->te (↑(.str #[(B0 [c])])::Q1 js σ) H λv H3=>Pv (i+1) (ys++[v]) H3)
  (hd:∀ys H,ys.length=x.cps.size->Pv x.cps.size ys H->∀p,H p=none->Q (-p) (Ot H p (.lst ys))):bH (DV x) js te σ H Q:=
 gI hn (λi v=>∃c,x.cps[i]? =↑c/\v= .str #[(B0 [c])]) Pv a (λi ys H hi p=>hi) (λys H p=>JL _) (λi ys H v H' _ p y=>y) (λi ys H v hi f p e=>by
  let#[c,d,rfl]:=e;exact hs i ys H c d f p) hd
def C5(h:Qn ds):(ds.map V.int).all gP=true:=by
 rw[L8];intro x a;let#[i,hi,rfl]:=J7.mp a
 have:=h i hi
 show(decide (0<=i)&&decide (i<16))=true
 rw[JM this.1,JM this.2];rfl
def Qb{c:Bool}{a b:Prop}(h:c=true)(x:a):if c=true then a else b:=by rw[JK h];exact x
def zz{c:Bool}{a b:Prop}(h:c=false)(x:b):if c=true then a else b:=by rw[JJ (by rw[h];intro z;cases z)];exact x
def Zr{K:ι}{H:Hp}{fs:List (Str×V)}(c:RT K C)(e:H p=↑(.ins C dx fs))(n:OF K C f)(i:Nat)(a:fs.map (·.1)=dN.take i:=by rfl)(hn:f∉dN.take i:=by decide +kernel):
  bZ K H p f v (Ot H p (.ins C dx (fs++[(f,v)]))):=#[C,dx,fs,e,c,n,by
  have h1:fs.length=(dN.take i).length:=by rw[<- a,JI]
  have d:(dN.take i).length<=8:=by rw[LO];exact Ny _ _
  lia,by rw[gZ (by rw[a];exact hn)]]
def OP.same{K:ι}{b:Δ}(s:Oq H H')(h:OP K H b a):OP K H' b a:=h.mv (S:=[]) s.mv (λc h=>nomatch h) (λh=>nomatch h)
def Mv.nfree{x:Δ}(m:Mv S H H')(hn:x∉S)(h:H' x=none):H x=none:=by
 cases e:H x with
 |none=>rfl
 |some o=>rw[m x o hn e]at h;cases h
def OP.at{K:ι}{D:Dr}{age:Int}(h:OP K H hk D.kss)(f:0<=age)(h1:age<D.kss.length):∃(xs:Β) (d:Δ),H hk=↑(.lst xs)/\Q3 xs age=↑(-d)/\OC K H d ((aW D age).map V.int):=by
 let#[c,e,l,r]:=h;let#[i,rfl]:∃i:Nat,age=(i:Int):=#[age.toNat,by lia]
 have hi:i<D.kss.length:=by lia
 have a:i<c.length:=by lia
 exists _,c[i],e,Qf (by rw[JW,JQ a];rfl)
 have:=r i c[i] D.kss[i] (JQ a) (JQ hi)
 unfold aW;rw[M9,Lj,JQ hi];exact this
def pT(h:aS D e age=true)(a:0<=D.least):0<=age/\age<D.kss.length:=by
 unfold aS Z4 at h;rw[Lz,Lz]at h;have h1:=J5 h.1.1;have c:=J5 h.1.2;lia
def Ox.putK{K:ι}(b:Ox K C H p ta hk bd lg n D)(m:Mv [bd] H H')(h:RC H' bd a):Ox K C H' p ta hk bd lg n {D with kn:=a}:=by
 let#[dx,e]:=b.ob;let#[f,c,_]:=b.kb;let#[rs,d,l]:=b.lo;let#[i,g,_]:=id b.ks;have nt:NT [bd] H:=NT.one c trivial
 exact#[#[dx,m _ _ (zr (zn e c (by intro z;cases z))) e],m.sqt nt b.tb,b.ks.mv m nt (zr (zn g c (by intro z;cases z))),h,#[rs,m _ _ (zr (zn d c (by intro z;cases z))) d,l],b.ne]
def Ox.putL{K:ι}{rs:Η}(b:Ox K C H p ta hk bd lg n D)(a:H lg=↑(.lst (rs.map V.ref)))(hl:rs.length<=n):Ox K C (Ot H lg (.lst (rs.map V.ref++[-r]))) p ta hk bd lg (n+1) D:=by
 let#[dx,e]:=b.ob;let#[f,c,_]:=id b.kb;have nt:NT [lg] H:=NT.one a trivial
 have m:Mv [lg] H (Ot H lg (.lst (rs.map V.ref++[-r]))):=Mv.upd1
 exact#[#[dx,m _ _ (zr (zn e a (by intro z;cases z))) e],m.sqt nt b.tb,b.ks.mv m nt (zr b.ne.symm),b.kb.mv m nt (zr (zn c a (by intro z;cases z))),#[rs++[r],by rw[qb,La];rfl,by rw[J0];exact LM hl],b.ne]
def SE.pair{H:Hp}{b:Δ}(h1:H a=↑(.tup [.str z,.int i]))(h2:H b=↑(.tup [.str z,.int i])):SE H 1 (-a) (-b):=
 .tup (n:=0) (.inl h1) (.inl h2) Z λj x y ex c=>by
  match j,ex,c with
  |0,ex,c=>cases ex;cases c;exact .str _ _
  |1,ex,c=>cases ex;cases c;exact .int _ _
  |j+2,ex,c=>cases ex
abbrev Es(a b:Str):Prop:=a.cps.toList<=b.cps.toList
def GR{a b:Str}(h:ltCps b.cps.toList a.cps.toList=false):Es a b:=by
 rw[ltCps_eq]at h;exact List.not_lt.mp (of_decide_eq_false h)
theorem oP:∀{l:Α} {p:Str},risingS p l=true->(p::l).Pairwise Es
 | [],p,_=>by simp
 |x::r,p,h=>by
  have h':(! ltCps x.cps.toList p.cps.toList&&risingS x r)=true:=h
  rw[Lz,N7]at h';have d:=oP h'.2;have a:=GR h'.1;refine K8.mpr #[λy c=>?_,d]
  rcases JO.mp c with rfl|c
  .exact a
  .exact List.le_trans a ((K8.mp d).1 y c)
def ly{l:Α}(h:sortedS l=true):l.Pairwise Es:=by
 cases l with
 |nil=>exact .nil
 |cons x r=>exact oP h
def uH{a b:Α}(d:a.Perm l)(f:sortedS a=true)(h:b.Perm l)(g:sortedS b=true):a=b:=by
 refine List.Perm.eq_of_pairwise (le:=Es) (λx y _ _ h1 c=>?_) (ly f) (ly g) (d.trans h.symm)
 have e:x.cps.toList=y.cps.toList:=List.le_antisymm h1 c
 cases x with
 |mk u=>cases y with
  |mk v=>
   have:u=v:=Array.toList_inj.mp e
   rw[this]
def Sh(H:Hp)(q:Δ)(d:Α)(f:Kw):Prop:=∃c:Η,H q=↑(.tup (c.map V.ref))/\c.length=d.length/\∀(i:Nat) (a:Δ) (nm:Str) (e:Kb),c[i]? =↑a->d[i]? =↑nm->f.lookup nm=↑e->∃v,H a=↑(.tup [.str nm,.int e.age,.int e.last,v])/\Wt H v e.wt
inductive gb(K:ι)(C:Δ)|mk (p ta hk bd lg:Δ)(n:Nat)(D:Dr)(h1:vs=[-p])(h2:Ox K C H p ta hk bd lg n D)(h3:RW D)(h4:∀q ss H',Oq H H'->ss.Perm (D.kn.map (·.1))->sortedS ss=true->Sh H' q ss D.kn->Q (-q) H')
def EM{X:Cx}{K:ι}{f:Str}(a:X.K=K)(he:QE X e ta)(hb:attributeBase e f X.env (eval e X.env)=eval e X.env:=by rfl):QE X (.Attribute e f pos) (Ed K ta f):=by
 subst a;exact qz he hb
def FE(a:Kw)(f:Str->Δ):(cM a f).map (·.1)=(a.map (·.1)).map SJ:=by
 unfold cM;rw[LY,LY];rfl
def Zd{a:Kw}{nm:Str}(h:nm∈a.map (·.1)):∃e,a.lookup nm=↑e:=Mw.mp (OM.mpr h)
theorem sD:∀(a kvs:List (qO×V)),((kvs++a).map (·.1)).Nodup->aK kvs a=kvs++a
 | [],kvs,_=>by simp [aK]
 |p::r,kvs,nd=>by
  have c:p.1∉kvs.map (·.1):=λz=>by
   rw[La,Ls]at nd
   exact(N6.mp nd).2.2 _ z _ (J3 ..) Z
  show aK (Px kvs p.1 p.2) r=_
  rw[vg c,sD r (kvs++[(p.1,p.2)]) (by rw[ND];exact nd),ND]
  rfl
def lM{a:Kw}{e:Kb}(h:a.lookup nm=↑e):(QL a nm x).map (·.1)=a.map (·.1):=by
 rw[jo,JK (OM.mp (by rw[h];rfl))]
end L3
namespace L2
open PySem PySem.Spec PyProof.Rows
def Ck{Q:Om}(I:Ov X tx σ H s)(e:Rd H a (.dK kvs))(h:∀p s',H p=none->Ov X tx σ (Ot H p (.dK kvs)) s'->Q (-p) s'):ε (model X.prog X.w) A (call (.type "dict") [-a]) Q E s:=by
 let#[z,g,j,c,dd]:=cr I.hok e;refine kt_call_dict g dd (by rw[<- c.length];exact z) λh' d i=>?_
 refine h _ _ (I.hok.fresh (JL _)) (I.laid (a:=s.heap.objs.size) (o:= .dK kvs) (t':=s.toks) (λb q f=>?_) (JL _) (mB z (MF.mpr (Ne.symm (J4 I.big))) c d))
 exact(i.2 b (J4 (JS f))).trans (JR _ f)
end L2
namespace L3
open PySem PySem.Spec PyProof.Rows L2
def wR:zY X (.type "dict") (λxs H Q=>∃(d:Δ) (kvs:List (qO×V)),xs=[-d]/\H d=↑(.dK kvs)/\∀p,H p=none->Q (-p) (Ot H p (.dK kvs))):=by
 intro tx s σ H xs g Q I r h;let#[d,kvs,rfl,f,q]:=h;let#[u,rfl,a]:=QU r;cases a;exact Ck I (.inl f) λp s' e c=>#[-p,_,c,Z,q p e]
def Ox.setF{K:ι}{H:Hp}{fs:List (Str×V)}{u:V}(i:Nat)(c:RT K C)(d:OF K C f)(e:H p=↑(.ins C dx fs))(hf:fs[i]? =↑(f,u))(a:(fs.map (·.1)).Nodup)(hl:fs.length<1000):
  bZ K H p f v (Ot H p (.ins C dx (fs.set i (f,v)))):=#[C,dx,fs,e,c,d,hl,by rw[jC i hf a]]
def _root_.L2.Oq.put(s:Oq H H1)(h:H x=none):Oq H (Ot H1 x o):=λc u e=>by
 rw[qk (qr e h)];exact s c u e
section
variable{K:ι}
def oB(U:PB K C)(e:H p=↑(.ins C dx (dF D ta hk bd lg)))(z:Int):bZ K H p "least_age" (.int z) (Ot H p (.ins C dx (dF {D with least:=z} ta hk bd lg))):=Ox.setF 5 U.cl U.n_least_age e Z (rL ..) (by show 8<1000;decide)
def uL(U:PB K C)(e:H p=↑(.ins C dx (dF D ta hk bd lg)))(x:Δ):bZ K H p "buttons" (-x) (Ot H p (.ins C dx (dF D ta hk x lg))):=Ox.setF 6 U.cl U.n_buttons e Z (rL ..) (by show 8<1000;decide)
def Fm(U:PB K C)(e:H p=↑(.ins C dx (dF D ta hk bd lg)))(x:Δ):bZ K H p "log" (-x) (Ot H p (.ins C dx (dF D ta hk bd x))):=Ox.setF 7 U.cl U.n_log e Z (rL ..) (by show 8<1000;decide)
end
def uf{x:V}{r:Β}:Q3 (x::r) 0=↑x:=Qf (j:=0) Z
def v8{f b c:L2.St->Hp->Prop}(h:f σ H):(OU.mk f r b c).nx σ H:=h
end L3
namespace L2
open PySem PySem.Spec PyProof.Rows
def Cm(ho:PE X o td)(he:PE X e ty)(m:M1 X o "pop" apos e cpos):PE X (.Call (.Attribute o "pop" apos) [e] [] cpos) (AH td ty):=by
 intro tx s σ H Q I h;refine wpAny_Call_method m.base m.few m.line NL PySem.F.slot_dict_pop PySem.F.type_dict_pop (qG (ho tx s σ H _ I h) λu n z=>?_)
 let#[x,H1,f,g,a,ex,d,B]:=z;subst ex
 obtain rfl:u=Γ.ref a:=g
 let#[p,j,_]:=mD f d;exists p,j
 rw[m.trees];refine MM Z (M4 (Sn (qG (he tx n σ H1 _ f B) λE F ⟨y,G,q,w,kvs,k,v,i,t,l,r⟩=>Su ?_)))
 subst t;exact IB q i w l (.inl Z) λD C A c=>#[v,_,A,c,r]
end L2
namespace L3
open PySem PySem.Spec PyProof.Rows L2
def C9(ho:QE X o td)(he:QE X e ty)(m:M1 X o "pop" apos e cpos:=by exact#[41]):QE X (.Call (.Attribute o "pop" apos) [e] [] cpos) (AH td ty):=#[Cm ho.h he.h m]
def CQ(hp:PassesOwn (model X.prog X.w) X.A X.env X.xe)(hc:QT X c tc)(hb:R9 X a tb):QS X (.While c a [] pos) (Bm tc tb):=#[DF hp hc.h hb.h]
def RC.drop(h:RC H d a)(nm:Str):∃kvs,H d=↑(.dK kvs)/\RC (Ot H d (.dK (di kvs (SJ nm:qO)))) d (a.filter λp=>decide (p.1≠nm)):=by
 let#[#[k0,f],c,hk,pm,g]:=h;have nt:NT [d] H:=NT.one c trivial
 exists _,c,(k0.filter λp=>decide (p.1≠nm),f),?_,λe i=>?_,pm.filter _
 .rw[qb]
  congr 2
  unfold di cM;rw[List.filter_map];congr 1
  refine List.filter_congr λp _=>?_
  simp only[Function.comp];rw[decide_eq_decide]
  exact#[λz w=>z (by rw[w]),λz w=>z (by injection w)]
 .exact(hk e (Nr.mp i).1).mv Mv.upd1 nt
 .exact(K9.map _).nodup g
theorem kS(z:Str):∀a:Α,DU (.str z) (a.map V.str)=decide (z∈a)
 | []=>rfl
 |x::r=>by
  show(fz (.str x) (.str z)||DU (.str z) (r.map V.str))=_
  rw[kS z r]
  by_cases h:z=x
  .subst h
   rw[JM (J3 ..),show fz (V.str z) (V.str z)=true from by simp [fz]];rfl
  .have c:fz (V.str x) (V.str z)=false:=by simp [fz,Ne.symm h]
   rw[c,K4];exact decide_eq_decide.mpr #[λw=>F0 _ w,λw=>(JO.mp w).resolve_left h]
def pI(a:Α):(a.map V.str).all cn=true:=by
 rw[L8];intro v c;let#[z,_,rfl]:=J7.mp c;rfl
def Sh.same(h:Sh H q d f)(s:Oq H H'):Sh H' q d f:=by
 let#[j,e,l,r]:=h
 exact#[j,s _ _ e,l,λi a nm x m n g=>let⟨v,a1,a2⟩:=r i a nm x m n g;#[v,s _ _ a1,a2.mv (S:=[]) s.mv (λc h=>nomatch h)]]
def ml{K:ι}{H:Hp}{g:Η}{c:List Ε}{ks:Ε}(e:H hk=↑(.lst (g.map V.ref)))(l:g.length=c.length)(r:∀(i:Nat) (a:Δ) (ks:Ε),g[i]? =↑a->c[i]? =↑ks->OC K H a (ks.map V.int))(h:OC K H t (ks.map V.int)):OP K (Ot H hk (.lst (g.map V.ref++[-t]))) hk (c++[ks]):=by
 have nt:NT [hk] H:=NT.one e trivial
 refine#[g++[t],by rw[qb,La];rfl,by rw[J0,J0,l];rfl,λi a q d f=>?_]
 rw[N8]at d f;rw[l]at d
 by_cases hi:i<c.length
 .rw[JK hi]at d f
  exact Mv.upd1.sqt nt (r i a q d f)
 .rw[JJ hi]at d f
  cases hz:i-c.length with
  |zero=>
   rw[hz]at d f;cases d;cases f;exact Mv.upd1.sqt nt h
  |succ k=>rw[hz]at d;cases d
def Ox.putH{K:ι}(b:Ox K C H p ta hk bd lg n D)(m:Mv [hk] H H')(ks:OP K H' hk a):Ox K C H' p ta hk bd lg n {D with kss:=a}:=by
 let#[dx,e]:=b.ob;let#[f,d,_]:=id b.kb;let#[rs,g,l]:=b.lo;let#[h,c,_]:=id b.ks;have nt:NT [hk] H:=NT.one c trivial
 exact#[#[dx,m _ _ (zr (zn e c (by intro z;cases z))) e],m.sqt nt b.tb,ks,b.kb.mv m nt (zr (zn d c (by intro z;cases z))),#[rs,m _ _ (zr b.ne) g,l],b.ne]
def Ox.putLeast{K:ι}(b:Ox K C H p ta hk bd lg n D)(U:PB K C)(z:Int):∃dx,bZ K H p "least_age" (.int z) (Ot H p (.ins C dx (dF {D with least:=z} ta hk bd lg)))/\Mv [p] H (Ot H p (.ins C dx (dF {D with least:=z} ta hk bd lg)))/\Ox K C (Ot H p (.ins C dx (dF {D with least:=z} ta hk bd lg))) p ta hk bd lg n {D with least:=z}:=by
 let#[dx,e]:=b.ob;let#[f,c,_]:=id b.kb;let#[rs,a,l]:=b.lo;let#[g,d,_]:=id b.ks;have nt:NT [p] H:=NT.one e trivial
 have m:Mv [p] H (Ot H p (.ins C dx (dF {D with least:=z} ta hk bd lg))):=Mv.upd1
 exact#[dx,oB U e z,m,#[dx,qb],m.sqt nt b.tb,b.ks.mv m nt (zr (zn d e (by intro z;cases z))),b.kb.mv m nt (zr (zn c e (by intro z;cases z))),#[rs,m _ _ (zr (zn a e (by intro z;cases z))) a,l],b.ne]
def mh(o:Obj):Obj:={o with data:= .freed}
noncomputable def aU(h:Ψ):Η->Ψ
 | []=>h
 |a::S=>(aU h S).update a mh
def Dp(h:Ψ)(a:Δ):(h.update a mh).get? a=none:=by
 let#[c,l]:=h
 show(match(c.modify a mh)[a]? with|some ⟨_,_,.freed,_⟩=>none|o=>o)=none
 rw[Array.getElem?_modify];simp only[LW];cases c[a]? with
 |none=>rfl
 |some o=>rfl
theorem QV{h:Ψ}{b:Δ}:∀{S:Η},b∈S->(aU h S).get? b=none
 |a::S,m=>by
  show((aU h S).update a mh).get? b=none
  by_cases e:a=b
  .subst e;exact Dp _ _
  .rw[L7 _ _ e]
   rcases JO.mp m with z|z
   .exact absurd z.symm e
   .exact QV z
theorem aA{h:Ψ}{b:Δ}:∀{S:Η},b∉S->(aU h S).get? b=h.get? b
 | [],_=>rfl
 |a::S,m=>by
  show((aU h S).update a mh).get? b=h.get? b
  rw[L7 _ _ (λe=>m (by rw[e];exact J3 ..))]
  exact aA λz=>m (F0 _ z)
def gV{b:Δ}{o:Obj}(e:(aU h S).get? b=↑o):b∉S/\h.get? b=↑o:=by
 by_cases z:b∈S
 .rw[QV z]at e;cases e
 .rw[aA z]at e;exact#[z,e]
theorem aZ{h B B':Ψ}:∀{l:Ρ},h.FunFrames B l->(∀b∈Qz l,B'.get? b=none)->h.FunFrames B' l
 | [],_,_=>trivial
 |env::r,⟨k,⟨L,o,hf,a,ho,hn⟩,t⟩,q=>by
  have e:Qz (env::r)=L::Qz r:=by unfold Qz;rw[List.filterMap_cons_some hf]
  rw[e]at q
  exact#[k,#[L,o,hf,q L (J3 ..),ho,hn],aZ t λb a=>q b (F0 _ a)]
def OI.got(x:OI P w H h a o):∃u,h.get? a=↑u:=by
 cases o with
 |lst xs=>let#[_,_,_,_,e]:=x;exact#[_,e]
 |tup xs=>let#[_,_,_,c,e,_]:=x;exact#[_,e]
 |dK kvs=>let#[_,_,_,_,o,_,_,e,_]:=x;exact#[_,e]
 |dT kvs=>let#[_,_,_,_,o,_,_,e,_]:=x;exact#[_,e]
 |set S n=>let#[o,_,_,_,e,_]:=x;exact#[_,e]
 |ins C dx fs=>let#[_,_,_,e,_]:=x;exact#[_,e]
 |own y=>exact x
 |xd fs=>let#[_,#[_,_,_,e,_],_]:=x;exact#[_,e]
 |rng lo hi=>let#[_,_,_,e]:=x;exact#[_,e]
 |frz c u=>let#[e,_]:=x;exact#[_,e]
 |tbl ps=>exact#[_,x]
 |met f y=>exact#[_,x]
 |ext φ=>let#[_,e,_]:=x;exact e
theorem PN.none{a:Δ}(x:PN P w H h)(e:h.get? a=none):H a=none:=by
 cases q:H a with
 |none=>rfl
 |some u=>
  let#[v,c]:=OI.got (x a u q)
  rw[e]at c;cases c
noncomputable def aL(K:ι)(C:Δ)(bm bmB:Ζ)(newId:String):Bool:=match K.lookup C with
 |some ⟨.type "type",_,.cls cd,sl⟩=>(match sl.toList with
  | [_,_,_,_,↑(.builtin n),_]=>cd.mro== .ref C::bm&&n==newId&& ! cd.hasDel&&PySem.W.tailIn K bmB bm&&PySem.W.nsOkIn K cd.ns&&PySem.W.nsIn K cd.ns "__init__"==↑none
  |_=>false)
 |_=>false
def sA{K:ι}(X:K.In h)(q:aL K C bm bmB newId=true):
  ∃N nm e bs hdct sn sub ab col dd k0 k1 k2 k3 k5 f,h.get? C=↑(excClassObj nm e C N bs bm hdct sn sub ab col dd k0 k1 k2 k3 k5 newId)/\h.Ns N f/\f "__init__"=none/\OwnTail h bmB bm:=by
 unfold aL at q;split at q
 .rename_i dd u j o
  split at q
  .rename_i k0 k1 k2 k3 n k5 i
   simp only[Lz,LN,N7]at q;let#[#[#[#[#[g,rfl],a],m],c],d]:=q;let#[nm,bs,t,p,e,s,sn,sub,ab,col,r]:=u
   dsimp only at g a c d
   subst g a;let#[l]:=j;simp only at i
   subst i
   exact#[p,nm,e,bs,s,sn,sub,ab,col,dd,k0,k1,k2,k3,k5,_,X _ _ o,.of_isNs (W.isNs_of_in X c),W.nsMap_none_of_in X c d,W.tail_of_in X m]
  .cases q
 .cases q
abbrev TX:=OU->(L2.St->Δ->Hp->Prop)->L2.St->Hp->Prop
def gD{i:Nat}{x:Str}{pos:Pos}{Q:Unit->Θ->Prop}(I:L2.Ov X tx σ H s)(hN:X.N.Nodup)(hi:X.N[i]? =↑x)(hk:X.env.kindOf x=some .local)
  (h:∀s',L2.Ov X tx (σ.set i none) H s'->Q () s'):ε M A (do bindName X.env x .none;unbindBehindTheSuite X.env x pos) Q E s:=by
 let#[m,N,Y]:=id I.loc;have r:(X.env.scope.kind== .class||(X.env.scope.kind== .module&&X.env.locals != X.env.globals))=false:=by rw[I.ok.kind];rfl
 have u:i<σ.length:=by rw[I.len];exact(JZ.mp hi).1
 have cne:=I.cne;have f:∀{a:Δ} {h':Ψ},H a=none->Ψ.SameBut a s.heap h'->PN X.prog X.w H h':=λ{a h'} d g b O e=>by
  refine(I.hok b O e).stay (λc w' B q=>(g.2 c ?_).trans q) (λ_ q=>q) λ_ _ q=>q
  rintro rfl
  rcases B with rfl|B
  .rw[d]at e;cases e
  .rw[d]at B;cases B
 refine wpAny_nameGoes_keeps hk N r λh' v D g=>?_
 have lo:∀b o,X.s₀.heap.get? b=↑o->b≠X.env.locals:=λb o e=>J4 (Ll (JS e) I.ok.above)
 refine h _ #[I.ok,I.os,I.bare,#[λb o e n C t=>(g.2 b (lo b o e)).trans (I.base.keep b o e n C t),λb o e n C t=>?_,I.base.free,λb o e t=>?_,I.base.tups,I.base.frzs,I.base.tbls],#[_,D,λj y F l w R=>?_],λy c e=>?_,I.free,I.freeC,λp U=>?_,f I.free g,by simpa using I.len]
 .let#[P,l]:=I.base.slot b o e n C t
  exact#[P,(g.2 b (lo b o e)).trans l]
 .let#[o',l]:=I.base.there b o e t
  exact#[o',(g.2 b (lo b o e)).trans l]
 .by_cases G:j=i
  .subst G
   rw[MX u]at w;cases w
  .rw[Nv (Ne.symm G)]at w
   let#[W,L,q]:=Y j y F l w R;exists W,L
   rcases q with⟨k,e⟩|⟨k,c,e,z⟩
   .refine .inl #[k,?_]
    have:y≠x:=λe=>G (ki hN l (e▸hi))
    simp [this,e]
   .exact .inr #[k,c,e,z.sameBut g (cne y c e)]
 .let#[F,z]:=I.cell y c e
  exact#[F,z.sameBut g (cne y c e)]
 .let#[T,p2,J,S,K]:=I.pin p U
  exact#[(g.2 _ J).trans T,p2,J,S,K]
def oj{nm q p J:Str}{C N j O:Δ}{bs bm y c:Ζ}{hdct i:Bool}{sn u:Α}{sub m:Ζ}{ab v:Bool}{col l:Option Bool}{dd o:Κ}{k0 k1 k2 k3 k5 L G H F K:Ν}{newId a:String}
  {h:Ψ}{g:Array GenState}{d:Drawn}{t:Nat}{os:OsState}{e:Δ}{z:Obj}{Q:Bool->Θ->Prop}
  (I:h.get? C=↑(excClassObj nm q C N bs bm hdct sn sub ab col dd k0 k1 k2 k3 k5 newId))(B:h.get? j=↑(excClassObj p J j O y c i u m v l o L G H F K a))(he:h.get? e=↑z)(n:z.cls= .ref C)(s:c.contains (.type "BaseException")=true)(r:bm.contains (-j)=true)
  (D:Q true #[h,g,d,t,os]):ε M A (excMatches (-e) (-j)) Q E #[h,g,d,t,os]:=by
 have x:(Γ.ref j::c).contains (.type "BaseException")=true:=by rw[Nj,s,KY]
 have w:(Γ.ref C::bm).contains (-j)=true:=by rw[Nj,r,KY]
 have f:=tc_notTuple;unfold excMatches
 repeat (first|(with_reducible refine Lv he ?_;rw[n])|with_reducible refine Lv B ?_|(with_reducible refine Nk B ?_;rw[x])|(with_reducible refine Nk I ?_;rw[w])|wp_step)
 exact D
noncomputable abbrev Cj(X:Cx)(a:Δ):Cx:={X with A:=X.A.mark ↑(-a),calm:=false,xe:=λ_ _=>False}
def tM(I:L2.Ov X tx σ H s):L2.Ov (Cj X a) tx σ H s:=by
 have ok:=I.ok
 exact#[#[ok.mod,ok.kind,ok.glob,ok.blt,ok.above,ok.inj,ok.has,ok.cab,λz=>(by cases z),ok.frames,ok.stk,ok.exf,ok.bs,ok.bsz,ok.noex,ok.exfs,ok.funs,ok.frf],I.os,I.bare,I.base,I.loc,I.cell,I.free,I.freeC,I.pin,I.hok,I.len]
def jH{X:Cx}(ok:X.Ok)(I:L2.Ov (Cj X a) tx σ H s):L2.Ov X tx σ H s:=
 #[ok,I.os,I.bare,I.base,I.loc,I.cell,I.free,I.freeC,I.pin,I.hok,I.len]
noncomputable def DS(D:OU)(i:Nat):OU:={nx:=λσ H=>D.nx (σ.set i none) H,rt:=D.rt,bk:=λσ H=>D.bk (σ.set i none) H,ct:=λσ H=>D.ct (σ.set i none) H}
end L3
namespace L3
open PySem PySem.Spec PySem.Calls PySem.W PyProof.Rows Builtin Builtin.ObjectAttr Builtin.Getset_descriptor
section
variable{prog:Ξ}{w:Ω}{A:SO}{E:Om}{K:ι}{h:Ψ}{g:Array GenState}{d:Drawn}{t:Nat}{os:OsState}{a C:Δ}{o:Obj}
def rm{R:Result->Θ->Prop}{e:Γ}(X:K.In h)(hx:h.get? a=↑o)(hc:o.cls= .ref C)(hm:mroIn K C (.type "object")=↑true)(c:R (.ok (.ret (-C))) #[h,g,d,t,os]):
  codeAny (model prog w) A (.call (.builtin "getset_descriptor.__get__") #[[.builtin "object.__class__",-a,e],[]]) R #[h,g,d,t,os]:=by
 have f:Looks (model prog w) h (typeOf (-a)) (-C):=hc▸(Looks.ld hx).andThen .now
 have i:=looks_mroIn (M:=model prog w) X hm
 refine Nl KF.slot_gs.plain KF.entry_gs (KF.slot_gs.check _ _ _ _ _ _ _ _ KF.type_class (KF.args_gs _ _ _) ?_)
 unfold γ.«getset_descriptor.__get__» descrGet
 rw[dga_obj];refine JH (JP ?_)
 unfold descrGetter descrCheckInstance descrNameAndClass isInstance;simp only[KF.owner_class]
 repeat lk
 refine#[NM _ nofun,NJ KF.entry_class ?_]
 unfold γ.«object.__class__» shownTypeOf
 repeat lk
 exact c
def mJ{tk:Tok}{Q:Fin->Θ->Prop}(X:K.In h)(hx:h.get? a=↑o)(hc:o.cls= .ref C)(hm:mroIn K C (.type "object")=↑true)(c:findIn K (-C) "__class__"=↑(↑(.builtin "object.__class__")))(i:Q (.done (.ret (-C))) #[h,g,d,t,os]):
  ε (model prog w) A (γ.«object.__getattribute__» #[[-a,.str "__class__" tk],[]]) Q E #[h,g,d,t,os]:=by
 have e:(#[h,g,d,t,os]:Θ).TypeIs (.builtin "object.__class__") "getset_descriptor":=F.typeOf_object_class
 have l:=F.typeOf_object_class;have m:=F.slot_gs_get.lookup;have j:=F.slot_gs_set.lookup;have f:=Mo (M:=model prog w) X c
 repeat (any_goals (first|assumption|(with_reducible refine Lv hx ?_;rw[hc])|with_reducible refine f.at ?_|wp_step))
 refine rm X hx hc hm ?_
 repeat (any_goals (first|assumption|wp_step))
def iJ{c:Γ}{Q:Unit->Θ->Prop}(X:K.In h)(hx:h.get? a=↑o)(hc:o.cls= .ref C)(f:mroIn K C (.type "BaseException")=↑true)(i:Q () #[h,g,d,t,os]):ε M A (checkBuiltinCall "BaseException.__getattribute__" #[[-a,c],[]]) Q E #[h,g,d,t,os]:=by
 have hk:builtinKind "BaseException.__getattribute__"=some .slot:=by decide +kernel
 have e:splitId "BaseException.__getattribute__"=↑("BaseException","__getattribute__"):=by decide +kernel
 have j:=looks_mroIn (M:=M) X f
 have l:=F.args_bexc_ga (-a) c;simp only[checkBuiltinCall,hk,e];refine JH ?_
 .unfold isInstance
  repeat (first|(with_reducible refine Lv hx ?_;rw[hc])|with_reducible refine j.at ?_|wp_step)
  exact i
def oq{tk:Tok}{R:Result->Θ->Prop}(X:K.In h)(hx:h.get? a=↑o)(hc:o.cls= .ref C)(hm:mroIn K C (.type "object")=↑true)(e:mroIn K C (.type "BaseException")=↑true)(c:findIn K (-C) "__class__"=↑(↑(.builtin "object.__class__")))(f:R (.ok (.ret (-C))) #[h,g,d,t,os]):
  codeAny (model prog w) A (.call (.builtin "BaseException.__getattribute__") #[[-a,.str "__class__" tk],[]]) R #[h,g,d,t,os]:=
 Nl PySem.F.attr_ValueError.ga.plain F.entry_bexc_ga (iJ X hx hc e (mJ X hx hc hm c f))
def tH{tk:Tok}{Q:Om}(X:K.In h)(hx:h.get? a=↑o)(hc:o.cls= .ref C)(hm:mroIn K C (.type "object")=↑true)(i:mroIn K C (.type "BaseException")=↑true)(c:findIn K (-C) "__class__"=↑(↑(.builtin "object.__class__")))
  (f:findIn K (-C) "__getattribute__"=↑(↑(.builtin "BaseException.__getattribute__")))(e:findIn K (-C) "__getattr__"=↑none)(p:Q (-C) #[h,g,d,t,os]):
  ε (model prog w) A (getAttrBy (-a) (.str "__class__" tk) false) Q E #[h,g,d,t,os]:=by
 have q:=PySem.F.attr_ValueError.ga.bind (-a);have j:(Γ.builtin "BaseException.__getattribute__"==Γ.builtin "object.__getattribute__")=false:=by decide +kernel
 have m:(onTheHeap (Γ.ref C)&&Γ.builtin "BaseException.__getattribute__"==Γ.builtin "object.__getattribute__")=false:=by rw[j];rfl
 have n:=Mo (M:=model prog w) X f
 have l:=Mo (M:=model prog w) X e
 repeat (any_goals (first|assumption|(with_reducible refine Lv hx ?_;rw[hc])|with_reducible refine n.at ?_|with_reducible refine l.at ?_|wp_step))
 refine oq X hx hc hm i c ?_
 repeat (any_goals (first|assumption|wp_step))
def nU{Q:Ν->Θ->Prop}(X:K.In h)(hx:h.get? a=↑o)(hc:o.cls= .ref C)(hm:mroIn K C (.type "object")=↑true)(i:mroIn K C (.type "BaseException")=↑true)(c:findIn K (-C) "__class__"=↑(↑(.builtin "object.__class__")))
  (f:findIn K (-C) "__getattribute__"=↑(↑(.builtin "BaseException.__getattribute__")))(e:findIn K (-C) "__getattr__"=↑none)(j:Q ↑(-C) #[h,g,d,t+1,os]):
  ε (model prog w) A (getAttr? (-a) "__class__") Q E #[h,g,d,t,os]:=by
 unfold getAttr? getAttrBy?
 repeat (any_goals (first|assumption|with_reducible apply tH X hx hc hm i c f e|wp_step))
end
end L3
namespace L3
open PySem PySem.Spec PyProof.Rows L2
structure RO(K:ι)(C:Δ):Prop where
 m:PySem.W.mroIn K C (.type "object")=↑true
 b:PySem.W.mroIn K C (.type "BaseException")=↑true
 cl:SU K (-C) "__class__"=↑(↑(.builtin "object.__class__"))
 ga:SU K (-C) "__getattribute__"=↑(↑(.builtin "BaseException.__getattribute__"))
 gt:SU K (-C) "__getattr__"=↑none
 cd:(PySem.W.clsIn K C).isSome=true
def sN{K:ι}(c:RO K C):W.KitX K (-a) (-C) (λh=>∃o,h.get? a=↑o/\o.cls= .ref C) where
 ty:=λM h _ ⟨o,e,r⟩=>r▸(W.Looks.ld e).andThen .now
 it:=λ_ _ X _=>by
  let#[i,f]:=Mw.mp c.cd;unfold W.clsIn at f;split at f
  .rename_i c' x m j p
   intro F D B s' k q;unfold isType loadHead;exact JH (wpAny_loadPart (k _ _ (X _ _ p)) (JP q))
  .cases f
 ne:=λh v dd u n y X l=>by
  let#[i,f]:=Mw.mp c.cd;refine Nm.mpr λq=>?_
  have e:C=v:=Γ.ref.inj (LN.mp q)
  subst e;unfold W.clsIn at f;split at f
  .rename_i c' x m j p
   have z:=(X _ _ p).symm.trans l;cases z
  .cases f
 ca:=λ{prog w A E Q s} X ⟨o,e,r⟩ k=>by
  let#[h,g,d,t,os]:=s;exact nU X e r c.m c.b c.cl c.ga c.gt k
open SeqAt
def jD:Γ->Bool
 | .bool b=>b
 |_=>false
theorem mC:∀bs:List Bool,(bs.map Γ.bool).countP jD=bs.count true
 | []=>rfl
 |b::r=>by
  rw[Ls,List.countP_cons,List.count_cons,mC r];cases b<;>rfl
def AX:i8 X "list.count" (λx o H Q=>∃(l:Δ) (bs:List Bool),x= .ref l/\o=[.bl true]/\H l=↑(.lst (bs.map V.bl))/\Q (.int (bs.count true:Nat)) H):=by
 intro tx s σ H x xs v p Q I f i h;let#[l,bs,rfl,rfl,g,q]:=h;cases f;let#[u,rfl,m]:=i.one
 cases(show u=Γ.bool true from m)
 let#[z,c,n,d,a]:=I.hok l _ g;have e:=gG d;subst e;refine Mh F.slot_list_count #[_,a,Z] F.entry_list_count (F.args_list_count_2 _ _) (list_countAt l _ n none _ (.bool true) jD) #[a,λy j=>?_,?_]
 .let#[b,_,rfl]:=J7.mp (show y∈bs.map Γ.bool by simpa using j)
  have:=EqAt.bool_bool (A:=X.A.in1) (s:=s) b true
  cases b<;>exact this
 .exists .int _,H,I.tok _,#[0]
  show Q (.int (((bs.map Γ.bool).toArray.toList.countP jD:Nat):Int)) H
  rw[List.toList_toArray,mC];exact q
def BB:i8 X "list.index" (λx r H Q=>∃(l:Δ) (bs:List Bool) (j:Nat),x= .ref l/\r=[.bl true]/\H l=↑(.lst (bs.map V.bl))/\bs[j]? =↑true/\(∀m,m<j->bs[m]? =↑false)/\j<1000/\Q (.int j) H):=by
 intro tx s σ H x xs v D Q I p w h;let#[l,bs,j,rfl,rfl,t,f,d,G,q]:=h;cases p;let#[u,rfl,C]:=w.one
 cases(show u=Γ.bool true from C)
 let#[z,i,n,o,g]:=I.hok l _ t;have e:=gG o;subst e;have a:j<bs.length:=(JZ.mp f).1
 refine Mh F.slot_list_index #[_,g,Z] F.entry_list_index (F.args_list_index_2 _ _) (list_indexAt l _ n none _ (.bool true) jD j (by simpa using a) (by omega) ?_ ?_) #[g,λy B=>?_,?_]
 .simp only[KW,Ni]
  rw[(JZ.mp f).2];rfl
 .intro m E c
  simp only[KW,Ni];rw[(JZ.mp (d m c)).2];rfl
 .let#[b,_,rfl]:=J7.mp (show y∈bs.map Γ.bool by simpa using B)
  have:=EqAt.bool_bool (A:=X.A.in1) (s:=s) b true
  cases b<;>exact this
 .exact#[.int _,H,I.tok _,#[0],q]
end L3
namespace L3
open PySem PySem.Spec PyProof.Rows L2
def BM{k:qO}{u:Γ}(h:(zf P w).is k u=true):Oz (kV k) u:=by
 rcases Qo (show gh k u=true from h)with⟨i,t,rfl,rfl⟩|⟨x,t,rfl,rfl⟩
 .exact#[t,Z]
 .exact#[t,Z]
theorem Bk:∀{kvs:List (qO×V)} {vs:List (qO×Γ)},KV kvs vs->∀(i:Nat) a b,kvs[i]? =↑a->vs[i]? =↑b->a.1=b.1
 |_,_,.nil,i,a,b,h,_=>by cases h
 |_,_,.cons r t,0,a,b,h1,h2=>by cases h1;cases h2;exact r.1
 |_,_,.cons r t,i+1,a,b,h1,h2=>Bk t i a b h1 h2
def Ov.thaw{o:Obj}(I:L2.Ov X tx σ H s)(hd:H d=↑(.frz o (.dK kvs)))(i:∀o u,X.H₀ d≠↑(.frz o u)):L2.Ov X tx σ (Ot H d (.dK kvs)) s:=by
 have ne:∀b,H b=none->b≠d:=λb e z=>by subst z;rw[hd]at e;cases e
 have a:∀b,H b=none->Ot H d (.dK kvs) b=none:=λb e=>by rw[qk (ne b e)];exact e
 refine#[I.ok,I.os,I.bare,#[I.base.keep,I.base.slot,λb g q n l=>a b (I.base.free b g q n l),I.base.there,λb xs q=>?_,λb g u q=>?_,λb ps q=>?_],I.loc,I.cell,a _ I.free,λx c e=>a _ (I.freeC x c e),λp m=>?_,λb u q=>?_,I.len]
 .have:=I.base.tups b xs q
  rw[qk (λz=>by subst z;rw[hd]at this;cases this)];exact this
 .rw[qk (λz=>by subst z;exact i _ _ q)];exact I.base.frzs b g u q
 .let#[f,e]:=I.base.tbls b ps q
  exact#[f,by rw[qk (λz=>by subst z;rw[hd]at e;cases e)];exact e]
 .let#[r,p2,j]:=I.pin p m
  exact#[r,a _ p2,j]
 .have st:∀{b:Δ} {u:HO},OI X.prog X.w H s.heap b u->OI X.prog X.w (Ot H d (.dK kvs)) s.heap b u:=λ{b u} x=>x.stay (λ_ _ _ e=>e) (λc e=>by rw[qk (λz=>by subst z;rw[hd]at e;cases e)];exact e) (λc xs e=>by rw[qk (λz=>by subst z;rw[hd]at e;cases e)];exact e)
  by_cases h:b=d
  .subst h
   rw[qb]at q;cases q;exact st (I.hok b _ hd).2
  .rw[qk h]at q
   exact st (I.hok b u q)
noncomputable abbrev Qv:Ζ:=[.type "ValueError",.type "Exception",.type "BaseException",.type "object"]
structure Xa where
 e:Δ
 k:Δ
 f:Δ
 u:Δ
 t:Δ
 b:Δ
 w:Δ
 l:Δ
 r:Δ
def Xa.all(x:Xa):Η:=[x.b,x.k,x.f,x.u,x.t,x.w,x.l,x.r]
def IC{l:Η}(c:l.Nodup){j:Nat}{C:Δ}(h:l[j]? =↑C)(m:Nat):(l.map λD=>decide (C=D))[m]? =if m<l.length then ↑(decide (m=j))else none:=by
 rw[JW]
 by_cases a:m<l.length
 .rw[JK a,JQ a]
  show ↑(decide (C=l[m]))=_
  congr 1
  rw[decide_eq_decide];let#[d,e]:=JZ.mp h;constructor
  .intro z
   exact(List.getElem?_inj a c).mp (by rw[h,JQ a,z])
  .intro z;subst z;exact e.symm
 .rw[JJ a,Ng (by omega)];rfl
def tS{K:ι}{x:Xa}(h1:SR K (-C) (-x.b)=↑(decide (C=x.b)))(h2:SR K (-C) (-x.k)=↑(decide (C=x.k)))(h:SR K (-C) (-x.f)=↑(decide (C=x.f)))(c:SR K (-C) (-x.u)=↑(decide (C=x.u)))
  (f:SR K (-C) (-x.t)=↑(decide (C=x.t)))(e:SR K (-C) (-x.w)=↑(decide (C=x.w)))(g:SR K (-C) (-x.l)=↑(decide (C=x.l)))(d:SR K (-C) (-x.r)=↑(decide (C=x.r))):∀D∈x.all,SR K (-C) (-D)=↑(decide (C=D)):=by
 intro D a;simp only[Xa.all,JO,JX,JY]at a;rcases a with rfl|rfl|rfl|rfl|rfl|rfl|rfl|rfl
 .exact h1
 .exact h2
 .exact h
 .exact c
 .exact f
 .exact e
 .exact g
 .exact d
inductive Uk (K:ι)(H:Hp):Nat->V->V->Prop where
 |int (n:Nat)(i:Int):Uk K H n (.int i) (.int i)
 |str (n:Nat)(x:Str):Uk K H n (.str x) (.str x)
 |non (n:Nat):Uk K H n .non .non
 | tup {n:Nat} {a b:Δ} {xs ys:Β} (h1:OC K H a xs) (h2:OC K H b ys) (hl:xs.length=ys.length)
   (hi:∀(i:Nat) (x y:V),xs[i]? =↑x->ys[i]? =↑y->Uk K H n x y):Uk K H (n+1) (-a) (-b)
section
open SeqAt
def Hq(I:L2.Ov X tx σ H s)(h:Uk X.K H n x y):∀{v u:Γ} {A:SO},Oz x v->Oz y u->A.units+n<cLine->EqAt A s v u true:=by
 induction h with
 |int n i=>rintro v u A ⟨t,rfl⟩ ⟨l,rfl⟩ _;have:=EqAt.int_int (A:=A) (s:=s) i t i l;rwa [LQ]at this
 |str n z=>rintro v u A ⟨t,rfl⟩ ⟨l,rfl⟩ _;have:=EqAt.str_str (A:=A) (s:=s) z t z l;rwa [LQ]at this
 |non n=>
  intro v u A g m _
  cases(show v=Γ.none from g)
  cases(show u=Γ.none from m)
  exact Sy _
 | @tup n a b xs ys h1 h2 hl _ ih=>
  intro v u A g m F
  cases(show v=Γ.ref a from g)
  cases(show u=Γ.ref b from m)
  by_cases d:a=b
  .rw[d];exact Sy _
  .let#[f,o,r,_]:=I.tuple h1
   let#[c,p,p2,_]:=I.tuple h2;have G:=o.length;have E:=p.length;have e:=TC (A:=A) (e:=λ_=>true) (show s.heap.IsTuple a f.toArray from r) (show s.heap.IsTuple b c.toArray from p2) (by lia) (λj B C=>by
    let#[x,ex,q]:=QK o (j:=j) (by simpa using B)
    let#[y,w,D]:=QK p (j:=j) (by simpa using C)
    exact ih j x y ex w q D (by rw[MT];lia))
   rw[fU,show(f.toArray.size==c.toArray.size)=true by simp;lia]at e
   exact EqAt.of_refs d e
def F2(I:L2.Ov X tx σ H s){A:SO}(h:Uk X.K H n x y)(o:Oz x v)(m:Oz y u)(hu:A.units+n<cLine):RcAt A s v u true/\RcNeAt A s v u false:=by
 cases h with
 |int n i=>
  let#[t,rfl]:=o;let#[l,rfl]:=m;have g:=RcAt.int_int (A:=A) (s:=s) i t i l
  have f:=RcNeAt.int_int (A:=A) (s:=s) i t i l
  rw[LQ]at g f
  exact#[g,f]
 |str n z=>
  let#[t,rfl]:=o;let#[l,rfl]:=m;have g:=RcAt.str_str (A:=A) (s:=s) z t z l
  have f:=RcNeAt.str_str (A:=A) (s:=s) z t z l
  rw[LQ]at g f
  exact#[g,f]
 |non n=>
  cases(show v=Γ.none from o)
  cases(show u=Γ.none from m)
  exact#[RcAt.none_none,RcNeAt.none_none]
 | @tup n a b xs ys h1 h2 hl ih=>
  cases(show v=Γ.ref a from o)
  cases(show u=Γ.ref b from m)
  let#[d,C,B,_]:=I.tuple h1;let#[c,w,p2,_]:=I.tuple h2;have J:=C.length;have G:=w.length;have r:∀j (p:j<d.toArray.size) (q:j<c.toArray.size),EqAt A.in1 s d.toArray[j] c.toArray[j] ((λ_=>true) j):=λj p q=>by
   let#[x,ex,D]:=QK C (j:=j) (by simpa using p)
   let#[y,E,F]:=QK w (j:=j) (by simpa using q)
   exact Hq I (ih j x y ex E) D F (by rw[MT];lia)
  have g:=TC (A:=A) (e:=λ_=>true) (show s.heap.IsTuple a d.toArray from B) (show s.heap.IsTuple b c.toArray from p2) (by lia) r
  have f:=RcNeAt.tuples (A:=A) (e:=λ_=>true) (show s.heap.IsTuple a d.toArray from B) (show s.heap.IsTuple b c.toArray from p2) (by lia) r
  rw[fU,show(d.toArray.size==c.toArray.size)=true by simp;lia]at g f
  exact#[g,f]
inductive U8 (K:ι)(b:Bool)(x:V)(y:V)(H:Hp)(Q:VK):Prop
 |mk (n:_)(h1:n<=32)(h2:Uk K H n x y)(h3:Q (.bl b) H)
def Jm(K:ι)(b:Bool):R2:=λx y H Q=>U8 K b x y H Q
def Gz{k:Nat}(hr:OL k X.A):Qj X (SL .NotEq) (Jm X.K false):=by
 intro tx s σ H x y v u Q I c a h;let#[n,d,e,q]:=h
 exact(F2 I e c a (by have:=hr.un;lia)).2 _ _ _ _ #[.bl _,H,I,Z,q]
end
structure XGx(K:ι)(mg:On)(x:Xa):Prop where
 g_CodeError:mg "CodeError"=↑(-x.e)
 g_Known:mg "Known"=↑(-x.k)
 g_Full:mg "Full"=↑(-x.f)
 g_Unknown:mg "Unknown"=↑(-x.u)
 g_TooMany:mg "TooMany"=↑(-x.t)
 g_BadPress:mg "BadPress"=↑(-x.b)
 g_Worn:mg "Worn"=↑(-x.w)
 g_BadLog:mg "BadLog"=↑(-x.l)
 g_BadRow:mg "BadRow"=↑(-x.r)
 e_CodeError:aL K x.e Qv Qv "ValueError.__new__"=true
 nd:x.all.Nodup
 b_ValueError:mg "ValueError"=none
structure RH(K:ι)(x:Xa)(C:Δ):Prop where
 e:aL K C (.ref x.e::Qv) Qv "ValueError.__new__"=true
 c:RO K C
 i:∀D∈x.all,SY K (-C) (-D)=↑(decide (C=D))
 v:SY K (-C) (.type "ValueError")=↑true
section
variable(K:ι)(C:Δ)
inductive vB|mk (p ta hk bd lg:Δ)(n:Nat)(D:Dr)(h1:vs=[-p])(h2:Ox K C H p ta hk bd lg n D)(h3:∀t (as:Η) H',Oq H H'->OC K H' t (as.map V.ref)->as.length=D.kss.length->(∀(i:Nat)(a:Δ)(ks:Ε),as[i]? =↑a->D.kss[i]? =↑ks->OC K H' a (ks.map V.int))->Q (-t) H')
inductive pU|mk (p ta hk bd lg:Δ)(n:Nat)(D:Dr)(h1:vs=[-p])(h2:Ox K C H p ta hk bd lg n D)(h3:Q (.int D.least) H)
inductive p7|mk (p ta hk bd lg:Δ)(n:Nat)(D:Dr)(h1:vs=[-p])(h2:Ox K C H p ta hk bd lg n D)(h3:∀t H',Oq H H'->H' t=↑(.tup [.int D.near,.int D.far,.int D.most])->Q (-t) H')
end
structure UE(h base:Ψ)(e:Δ)(cls:Γ)(dd:Κ)(fl:Γ):Prop where
 ex:∃oe vs T oT ts a0,h.get? e=↑oe/\oe.cls=cls/\oe.dict=dd/\oe.data= .fields vs/\vs[0]? =↑a0/\vs[1]? =↑(-T)/\base.get? T=none/\T≠e/\h.get? T=↑oT/\oT.data= .fields ts/\ts[3]? =↑fl
def BZ(o:Obj)(f:Array Γ->Array Γ):(o.mapFields f).dict=o.dict:=by let#[c,d,a,e]:=o;cases a<;>rfl
section
variable{A:SO}{s:Θ}{base:Ψ}{env:Env}{outer:Ρ}{L e:Δ}
def Aa{j:Obj}{F:Γ}{c:Bool}{Q:Unit->Θ->Prop}(D:A.frames=↑(env::outer))(hl:s.heap.FunFrames base (env::outer))(hf:env.frame=↑L)(he:s.heap.get? e=↑j)(y:base.StaysIn s.heap)(C:base.get? e=none)(hd:j.data= .fields vs)(hsz:1<vs.size)(R:vs[0]? =↑F)
  (k:∀h',base.StaysIn h'->h'.FunFrames base (env::outer)->UE h' base e j.cls j.dict (rawInt L)->s.heap.UpToSlots h'->Q () {s with heap:=h'}):
  ε M A (frameOf env >>= λO=>entryPlaceOf L c >>= λg=>EntryCells.newEntry a O .none (rawInt L) .none g >>= λb=>setField (-e) 1 b) Q E s:=by
 have x:e∉(env::outer).filterMap (·.frame):=λm=>by
  let#[_,o,q,f]:=hl.mem m;rw[he]at q;cases q
  exact f vs hd
 refine JH (wpAny_frameOf_fun D hl hf λh1 v=>JH (wpAny_entryPlaceOf λg t=>?_))
 unfold EntryCells.newEntry newFields;refine JH (LH ?_ (t.sizeOk5 _ _ _ _ _))
 let#[nO,d]:∃nO:Obj,nO=#[.type "traceback",none,.fields ([a,-L,.none,rawInt L,.none]++(if g.isEmpty then CC 6 Γ.none else g)).toArray,(B0 [])]:=#[0]
 show ε M A (setField (-e) 1 (-h1.objs.size)) Q E {s with heap:=h1.push #[.type "traceback",none,.fields ([a,-L,.none,rawInt L,.none]++(if g.isEmpty then CC 6 Γ.none else g)).toArray,(B0 [])]}
 rw[<- d];let#[w,i,K]:∃w,nO.data= .fields w/\w[3]? =↑(rawInt L):=#[_,by rw[d],by first|(simp;done)|(rcases t with rfl|⟨_,_,_,_,_,_,_,rfl⟩<;>simp)]
 have u:nO.isFreed=false:=MP i
 clear d;have J:h1.get? e=↑j:=(v.2.1 e x).trans he
 have H:=JR (h:=h1) nO J
 have l:h1.objs.size≠e:=LB (JS J)
 have I:=Ma hd (·.setIfInBounds 1 (Γ.ref h1.objs.size))
 have N:=Me (SZ (·.setIfInBounds 1 (Γ.ref h1.objs.size))) H (MP I)
 have keep:∀b o,b≠e->h1.get? b=↑o->((h1.push nO).update e (SZ (·.setIfInBounds 1 (Γ.ref h1.objs.size)))).get? b=↑o:=λb o n q=>by
  rw[L7 _ _ n.symm];exact JR _ q
 have P:((h1.push nO).update e (SZ (·.setIfInBounds 1 (Γ.ref h1.objs.size)))).get? h1.objs.size=↑nO:=by
  rw[L7 _ _ l.symm];exact J2 h1 u
 have r:base.StaysIn h1:=λb o q=>(v.2.1 b λm=>by rw[(hl.mem m).1]at q;cases q).trans (y b o q)
 have p:∀b o,s.heap.get? b=↑o->(∀vs,o.data≠ .fields vs)->b≠e:=λb o q f z=>by
  rw[z,he]at q;cases q;exact f vs hd
 refine Ml H hd hsz (k _ (λb o q=>keep b o (λz=>by rw[z,C]at q;cases q) (r b o q)) (hl.of_keeps λb o q f=>?_) #[8,h1.objs.size,nO,w,F,N,Sv _ _,BZ _ _,I,by rw[Array.getElem?_setIfInBounds_ne ⋯];exact R,by simp [hsz],r.fresh,l,P,i,K] λb o q f=>?_)
 .let#[G,B]:=v.2.2 b o q
  exact#[_,keep b _ (p b o q f) B,Z]
 .let#[G,B]:=v.2.2 b o q
  exact#[G,keep b _ (p b o q f) B]
def jv{Q:Unit->Θ->Prop}(i:base.StaysIn s.heap)(hl:s.heap.FunFrames base l)(t:UE s.heap base e cls dd fl)
  (k:∀h',base.StaysIn h'->h'.FunFrames base l->UE h' base e cls dd .none->s.heap.UpToSlots h'->Q () {s with heap:=h'}):ε M A (setFlight (-e) none) Q E s:=by
 let#[x,m,T,D,y,v,p,B,h,u,C,h1,r,c,j,g,w]:=t.ex;have sz:=(Nf.mp w).1;have a:∀b,b≠T->(s.heap.update T (SZ (·.setIfInBounds 3 Γ.none))).get? b=s.heap.get? b:=λb n=>L7 _ _ n.symm
 have d:∀b o,s.heap.get? b=↑o->(∀m,o.data≠ .fields m)->b≠T:=λb o q f z=>by
  rw[z,j]at q;cases q;exact f y g
 unfold setFlight;refine JH (Lf p u h1 ?_)
 rw[JK (show(Γ.ref T != Γ.none)=true from by simp)]
 refine Ml j g sz (k _ (λb o q=>(a b λz=>by rw[z,r]at q;cases q).trans (i b o q)) (hl.of_keeps λb o q f=>#[o,(a b (d b o q f)).trans q,Z]) #[x,m,T,8,v,(a e c.symm).trans p,B,h,u,C,h1,r,c,Me _ j (MP (Ma g _)),Ma g _,by simp [sz]] λb o q f=>#[o.slots,(a b (d b o q f)).trans q])
def Fp{a:Obj}{n:Γ}{Q:Unit->Θ->Prop}(g:A.frames=↑(env::outer))(hl:s.heap.FunFrames base (env::outer))(hf:env.frame=↑L)(he:s.heap.get? e=↑a)(f:base.StaysIn s.heap)(c:base.get? e=none)(hd:a.data= .fields vs)(h1:vs[1]? =some .none)(i:vs[0]? =↑n)
  (k:∀h',base.StaysIn h'->h'.FunFrames base (env::outer)->UE h' base e a.cls a.dict .none->s.heap.UpToSlots h'->Q () {s with heap:=h'}):ε M A (leaving env (-e)) Q E s:=by
 unfold leaving noteFrame;simp only[hf];refine JH (JH (Lf he hd h1 ?_))
 rw[JJ ⋯]
 exact Aa g hl hf he f c hd (Nf.mp h1).1 i λh' k1 k2 k3 h=>jv k1 k2 k3 λd j l o m=>k d j l o (h.trans m)
def ye{Q:Unit->Θ->Prop}(m:A.frames=↑(env::outer))(hl:s.heap.FunFrames base (env::outer))(hf:env.frame=↑L)(t:UE s.heap base e cls dd .none)(h:base.StaysIn s.heap)(l:base.get? e=none)
  (k:∀h',base.StaysIn h'->h'.FunFrames base (env::outer)->UE h' base e cls dd (rawInt L)->s.heap.UpToSlots h'->Q () {s with heap:=h'}):ε M A (noteFrame (-e) env) Q E s:=by
 let#[I,u,T,J,D,H,r,F,f,v,G,h1,B,i,j,g,p]:=t.ex;subst F f;have a:∀b,b≠T->(s.heap.update T (SZ (·.setIfInBounds 3 Γ.none))).get? b=s.heap.get? b:=λb n=>L7 _ _ n.symm
 have d:∀b o,s.heap.get? b=↑o->(∀u,o.data≠ .fields u)->b≠T:=λb o q c z=>by
  rw[z,j]at q;cases q;exact c D g
 unfold noteFrame;simp only[hf];refine JH (Lf r v h1 ?_)
 rw[JK (show(Γ.ref T != Γ.none)=true from by simp)]
 refine JH (Lf j g p ?_)
 rw[JJ (show¬((Γ.none==rawInt L)=true)from by simp [rawInt])]
 refine JH (Ml j g (Nf.mp p).1 ?_)
 exact Aa m (hl.of_keeps λb o q c=>#[o,(a b (d b o q c)).trans q,Z]) hf ((a e i.symm).trans r) (λb o q=>(a b λz=>by rw[z,B]at q;cases q).trans (h b o q)) l v (Nf.mp h1).1 G
  λh' x y w C=>k h' x y w λb o q c=>C b o ((a b (d b o q c)).trans q) c
end
end L3
namespace L3
open PySem PySem.Spec PySem.Calls PySem.W PyProof.Rows Builtin Builtin.ObjectAttr
noncomputable abbrev kL(t:Δ):Array Γ:= (B0 [-t,.none,.none,.none,.bool false,.none])
section
variable{prog:Ξ}{w:Ω}{A:SO}{E:Om}{K:ι}{h:Ψ}{g:Array GenState}{d:Drawn}{t:Nat}{os:OsState}
variable{nm q:Str}{C N:Δ}{bs bm bmB:Ζ}{hdct:Bool}{sn:Α}{sub:Ζ}{ab:Bool}{col:Option Bool}{dd:Κ}{k0 k1 k2 k3 k5:Ν}{B newId initId:String}{e:Δ}
def re(F:ExcBaseFacts B newId initId bmB)(T:OwnTail h bmB bm)(j:h.get? C=↑(excClassObj nm q C N bs bm hdct sn sub ab col dd k0 k1 k2 k3 k5 newId)){i:Κ}{c:Array Ν}{f:Γ}{Q:Om}(he:h.get? e=some #[-C,i,.fields (kL l),c])
  (k:∀h',h'.get? e=some #[-C,i,.fields (kL h.objs.size),c]->(∀b o,b≠e->h.get? b=↑o->h'.get? b=↑o)->Q .none #[h',g,d,t,os]):
  ε (model prog w) A (call (.builtin initId) [-e,f]) Q E #[h,g,d,t,os]:=by
 refine MI (Nl F.init.plain F.initEntry (wpAny_check_init_subT F T j he Z ?_))
 unfold γ.«BaseException.__init__» γ.BaseException.bexcPut
 have a:=JR (h:=h) {cls:= .type "tuple",data:= .seq [f].toArray} he
 repeat (first|with_reducible refine Lf a Z Z ?_|wp_step)
 exact k _ (Me _ a Z) λb o n z=>by rw[L7 _ _ n.symm];exact JR _ z
def AB{CE:Δ}{name:Str}{v:Γ}{l:Array Ν}{Q:Unit->Θ->Prop}(X:K.In h)(D:h.get? C=↑(excClassObj nm q C N bs [-CE,.type "ValueError",.type "Exception",.type "BaseException",.type "object"] true sn sub ab col dd k0 k1 k2 k3 k5 newId))
  (B:findIn K (-C) name=↑none)(u:findIn K (-C) "__setattr__"=↑(↑(.builtin "object.__setattr__")))(he:h.get? e=some #[-C,none,.fields vs,l])
  (k:∀h' j,h'.get? e=some #[-C,↑h.objs.size,.fields vs,l]->h'.Ns1 h.objs.size (λy=>if y=name then ↑v else none)->(∀b o,b≠e->h.get? b=↑o->h'.get? b=↑o)->Q () #[h',g,d,j,os]):
  ε (model prog w) A (setAttr (-e) name v) Q E #[h,g,d,t,os]:=by
 have c:=PySem.F.store_ValueError;have Y:=c.slot.bind (-e);have H:=Mo (M:=model prog w) X B
 have J:=Mo (M:=model prog w) X u
 unfold setAttr callSpecial? specialOf
 repeat (any_goals (first|assumption|with_reducible refine Lv he ?_|with_reducible refine J.at ?_|wp_step))
 have x:(Γ.ref C::[Γ.ref CE,.type "ValueError",.type "Exception",.type "BaseException",.type "object"]).contains (.type "object")=true:=by simp
 have W:=c.args (-e) (.str name t) v;refine Nl c.slot.plain c.entry ?_
 simp only[checkBuiltinCall,c.kind,c.split];refine JH ?_
 unfold isInstance
 repeat (first|with_reducible refine Lv he ?_|(with_reducible refine Nk D ?_;rw[x])|wp_step)
 refine H.at ?_
 unfold storeInOwnDict
 repeat (first|with_reducible refine Lv he ?_|with_reducible refine Lv D ?_|with_reducible refine wpAny_nsSet1 (m:=λ_=>none) ?hns ?hk|wp_step)
 case hns=>
  have a:h.objs.size≠e:=LB (JS he)
  exact Ψ.Ns1.of_empty #[_,(B0 []),_,(Ψ.get?_update_ne _ _ _ _ a).trans (Ψ.get?_push_at Z Z),Z,(λz T=>absurd T (by simp)),λ_=>rfl]
 case hk=>
  intro h' f F;have a:e≠h.objs.size:=J4 (JS he)
  have r:(h.push {cls:= .type "dict",data:= .dict (B0 [])}).get? e=some #[-C,none,.fields vs,l]:=JR _ he
  let#[oD,S,G,s,i,p]:=f.count (Within.cons name v Within.nil)
  refine JH (wpAny_lookBehind s (by rw[i];exact pastItsLine_dict (Lc p (by rw[LI,KS,JV];omega))) ?_)
  wp_walk
  refine k h' _ ((F.2 e a).trans (Me _ r Z)) ?_ λb o n z=>?_
  .let#[o',es,O,U,P,L,R,I]:=f
   exact#[o',es,O,U,P,L,R,I]
  .exact(F.2 b (J4 (JS z))).trans ((Ψ.get?_update_ne _ _ _ _ n).trans (JR _ z))
end
section
variable{prog:Ξ}{w:Ω}{A:SO}{E:Om}{K:ι}{h:Ψ}{g:Array GenState}{d:Drawn}{t:Nat}{os:OsState}
variable{nm q:Str}{C N:Δ}{bs bm:Ζ}{sn:Α}{sub:Ζ}{ab:Bool}{col:Option Bool}{dd:Κ}{k0 k1 k2 k3 k5:Ν}{newId:String}{e:Δ}
def C7{v:Γ}{o:Obj}{dx:Δ}{a:Bool}{Q:Om}(X:K.In h)(z:h.get? C=↑(excClassObj nm q C N bs bm true sn sub ab col dd k0 k1 k2 k3 k5 newId))(hx:h.get? e=↑o)(hc:o.cls= .ref C)(s:∀c,o.data≠ .cls c)(j:o.dict=↑dx)(f:h.Ns1 dx mA)(hv:mA name=↑v)(H:handedOut v=pure v)
  (n:mroIn K C (.type "BaseException")=↑true)(r:findIn K (-C) name=↑none)(m:findIn K (-C) "__getattribute__"=↑(↑(.builtin "BaseException.__getattribute__")))(l:findIn K (-C) "__getattr__"=↑none)(k:Q v #[h,g,d,t+1,os]):
  ε (model prog w) A (getAttr (-e) name a) Q E #[h,g,d,t,os]:=by
 have G:=PySem.F.attr_ValueError.ga.bind (-e);have B:(a&&onTheHeap (Γ.builtin "BaseException.__getattribute__"))=false:=by cases a<;>rfl
 have p:(Γ.builtin "BaseException.__getattribute__"==Γ.builtin "object.__getattribute__")=false:=by decide +kernel
 have y:(onTheHeap (Γ.ref C)&&Γ.builtin "BaseException.__getattribute__"==Γ.builtin "object.__getattribute__")=false:=by rw[p];rfl
 have D:=Mo (M:=model prog w) X m
 have u:=Mo (M:=model prog w) X l
 have x:=Mo (M:=model prog w) X r
 unfold getAttr getAttrBy
 repeat (any_goals (first|assumption|(with_reducible refine Lv hx ?_;rw[hc])|with_reducible refine D.at ?_|with_reducible refine u.at ?_|wp_step))
 refine Nl PySem.F.attr_ValueError.ga.plain F.entry_bexc_ga (iJ X hx hc n ?_)
 repeat (any_goals (first|assumption|(with_reducible refine Lv hx ?_;rw[hc])|with_reducible refine x.at ?_|(with_reducible refine wpAny_nsGet f.ns ?_;rw[hv])|wp_step))
 split
 .rename_i c i
  exact absurd i (s c)
 unfold instanceDict
 repeat (first|(with_reducible refine Lv hx ?_;rw[hc])|with_reducible refine Lv z ?_|wp_step)
 rw[j]
 repeat (first|(with_reducible refine wpAny_nsGet f.ns ?_;rw[hv])|wp_step)
 exact k
end
section
variable{prog:Ξ}{w:Ω}{A:SO}{E:Om}{h:Ψ}{g:Array GenState}{d:Drawn}{t:Nat}{os:OsState}
variable{nm q:Str}{C N:Δ}{bs bm bmB:Ζ}{hdct:Bool}{sn:Α}{sub:Ζ}{ab:Bool}{col:Option Bool}{dd:Κ}{k0 k1 k2 k3 k5:Ν}{B newId initId:String}{e:Δ}
def Bs(F:ExcBaseFacts B newId initId bmB)(T:OwnTail h bmB bm){rest:Ζ}{H:Obj}{Q:Fin->Θ->Prop}(n:h.get? C=↑(excClassObj nm q C N bs bm hdct sn sub ab col dd k0 k1 k2 k3 k5 newId))(hn:h.Ns N I)(hi:I "__init__"=↑(-fI))(G:h.get? fI=↑H)(y:H.cls= .type "function")(j:rest.length<=ζ)
  (k:∀h' e,h.objs.size<=e->Ψ.MadeExcOf h h' e (-C) rest->ε (model prog w) A (call (-fI) (.ref e::rest)) (λr s'=>r= .none/\Q (.done (.ret (-e))) s') E #[h',g,d,t,os]):
  ε (model prog w) A (γ.«type.__call__» #[.ref C::rest,[]]) Q E #[h,g,d,t,os]:=by
 repeat (first|with_reducible refine Lv n ?_|with_reducible refine wpAny_madeBy_exc n ?_|wp_step)
 refine codeAny_call_builtin_code (NM _ F.quiet) (wpAny_check_new_subT F T n (codeAny_exc_new_subT F T n ?_ j))
 show ε _ _ _ _ _ _
 let#[i,c]:∃i:Obj,i=#[.type "tuple",none,.seq rest.toArray 0,(B0 [])]:=#[0]
 let#[f,a]:∃f:Obj,f=#[-C,none,.fields (kL h.objs.size),(B0 [])]:=#[0]
 have up:∀b o,h.get? b=↑o->((h.push i).push f).get? b=↑o:=λb o z=>JR _ (JR _ z)
 have s:((h.push i).push f).get? (h.objs.size+1)=↑f:=by rw[c,a];heap_get
 have v:((h.push i).push f).get? h.objs.size=↑i:=by rw[c,a];exact JR _ (Ψ.get?_push_at Z Z)
 have D:(Γ.ref C::bm).contains (-C)=true:=by simp
 have p:=up _ _ n;have J:=T.keeps up;have x:=hn.keeps up;have u:f.cls= .ref C:=by rw[a]
 have l:Ψ.MadeExcOf h ((h.push i).push f) (h.objs.size+1) (-C) rest:=#[up,MW (Lr _),h.objs.size,by rw[s,a],MW (JL _),by rw[v,c]]
 have m:(h.push {cls:= .type "tuple",data:= .seq rest.toArray}).push {cls:= .ref C,data:= .fields (B0 [-h.objs.size,.none,.none,.none,.bool false,.none])}=(h.push i).push f:=by rw[c,a]
 rw[m];clear m c a;unfold isInstance
 repeat (first|(with_reducible refine Lv s ?_;rw[u])|(with_reducible refine Nk p ?_;rw[D])|wp_step)
 show ε _ _ (typeLookup (-C) _) _ _ _
 refine wpAny_typeLookup_tail p x J F.mroIs F.init.lookup ?_
 rw[hi];refine LD (JH ?_)
 unfold bindSpecial;refine JH (wpAny_typeOf (T:="function") #[_,up _ _ G,y] ?_)
 rw[JK ⋯]
 refine JP (JH (Lg (k _ _ (Lr _) l) (λr s' z=>?_) λ_ _ z=>z))
 let#[rfl,z]:=z
 wp_walk
 exact z
def BE(F:ExcBaseFacts B newId initId bmB)(T:OwnTail h bmB bm){rest:Ζ}{j:Obj}{Q:Om}(c:h.get? C=↑(excClassObj nm q C N bs bm hdct sn sub ab col dd k0 k1 k2 k3 k5 newId))(hn:h.Ns N l)(hi:l "__init__"=↑(-fI))(i:h.get? fI=↑j)(f:j.cls= .type "function")(a:rest.length<=ζ)
  (k:∀h' e,h.objs.size<=e->Ψ.MadeExcOf h h' e (-C) rest->ε (model prog w) (A.under (.builtin "type.__call__" #[.ref C::rest,[]])) (call (-fI) (.ref e::rest)) (λr s'=>r= .none/\Q (-e) s') E #[h',g,d,t,os]):
  ε (model prog w) A (call (-C) rest) Q E #[h,g,d,t,os]:=by
 have f1:=tc_lookup;have f2:=tc_bind (-C);have m:(#[h,g,d,t,os]:Θ).TypeIs (-C) "type":=#[_,c,Z]
 refine MI (codeAny_of_tree ?_)
 show ε _ _ (callAny (-C) _) _ _ _
 repeat (any_goals (first|assumption|with_reducible refine Lv c ?_|wp_step))
 exact#[Z,codeAny_call_builtin_at (NM _ nofun) entry_typeCall (wpAny_check_type_call_sub c (Bs F T c hn hi i f a k))]
def wE{env:Env}{Q:Flow->Θ->Prop}(a:bm.contains (.type "BaseException")=true)(m:A.handled=none)
  (k:ε (model prog w) A x (λv c=>∃e t j h,v= .ref e/\c.heap.get? C=↑(excClassObj nm q C N bs bm hdct sn sub ab col dd k0 k1 k2 k3 k5 newId)/\c.heap.get? e=some #[-C,j,.fields (kL t),h]/\E (-e) c) E s):ε (model prog w) A (raiseStmt env ↑x none) Q E s:=by
 have f:(Γ.ref C::bm).contains (.type "BaseException")=true:=by rw[Nj,a,KY]
 unfold raiseStmt;refine JH (Lg k (λv c z=>?_) λ_ _ z=>z)
 let#[e,t,j,h,rfl,i,l,n]:=z;let#[o,g,d,tk,os]:=c
 repeat (first|with_reducible refine Lv l ?_|with_reducible refine Lv i ?_|(with_reducible refine Nk i ?_;rw[f])|wp_step)
 exact wpAny_raiseNew_none m n
end
end L3
namespace L3
open PySem PySem.Spec PyProof.Rows L2
noncomputable def RE(a:Δ)(cls:Γ)(dd:Κ):HO:= .ext λh=>∃t c,h.get? a=some #[cls,dd,.fields (kL t),c]
noncomputable def Rl(a:Δ)(cls:Γ)(dd:Κ):HO:= .ext λh=>∃o c,h.get? a=↑o/\o.cls=cls/\o.data= .fields c/\o.dict=dd
def RE.ok{h:Ψ}{a:Δ}{cls:Γ}{dd:Κ}{c:Array Ν}(e:h.get? a=some #[cls,dd,.fields (kL t),c]):OI P w H h a (RE a cls dd):=
 #[#[t,c,e],#[_,e],λh1 d ⟨t,c,e⟩ k=>#[t,c,k _ e]]
def Rl.ok{h:Ψ}{a:Δ}{cls:Γ}{dd:Κ}{o:Obj}(e:h.get? a=↑o)(c:o.cls=cls)(d:o.data= .fields vs)(x:o.dict=dd):OI P w H h a (Rl a cls dd):=
 #[#[o,vs,e,c,d,x],#[o,e],λh1 f ⟨o,vs,e,c,d,x⟩ k=>#[o,vs,k o e,c,d,x]]
def aE(P:Ξ)(w:Ω):je:=λouter H s E e s'=>∃a cls dd T H',e= .ref a/\s'.os=s.os/\AllBare s'.gens/\Un (Qz outer) [] H H' s.heap s'.heap/\PN P w H' s'.heap/\
 H' a=↑(Rl a cls dd)/\s.heap.get? a=none/\s.heap.get? T=none/\H' T=none/\(∃c d f g h,s'.heap.get? a=↑c/\c.cls=cls/\c.dict=dd/\c.data= .fields d/\d[0]? =↑h/\d[1]? =↑(-T)/\T≠a/\s'.heap.get? T=↑f/\f.data= .fields g/\g[3]? =some .none)/\E (-a) none H'
def xv{K:ι}
  (I:L2.Ov (QD (aE P w) P w K mg base N Vm g f U A outer i H0 E) tx σ H s)(he:H e=↑(RE e cls dd))(hn:i.heap.get? e=none)
  (q:E (-e) none (Ot H e (Rl e cls dd))):(QD (aE P w) P w K mg base N Vm g f U A outer i H0 E).xe (-e) s:=by
 let#[#[t,a1,ee],_,_]:=I.hok e _ he;let#[fl,l]:∃fl,fl=i.heap.objs.size::Qz outer:=#[0]
 have R:Qz ((QD (aE P w) P w K mg base N Vm g f U A outer i H0 E).stack)=fl:=l.symm
 have tk:∀c u,H c=↑u->c∉fl:=λc u h hm=>by
  have:=I.stkFree c (by rw[R];exact hm)
  rw[h]at this;cases this
 have j:Un (Qz outer) [] H0 H i.heap s.heap:=I.base
 have ab:∀b o,i.heap.get? b=↑o->b≠i.heap.objs.size:=λb o e z=>absurd (JS e) (by rw[z];exact LC _)
 refine Fp (base:=aU s.heap (e::fl)) (L:=i.heap.objs.size) (e:=e) I.ok.frames (aZ I.stack λb a=>QV (F0 _ (by rw[l];exact a))) Z ee (λb o z=>(gV z).2) (QV (J3 ..)) Z Z Z λh' k1 k2 k3 k4=>?_
 let#[oe,vs,T,oT,ts,a0,e1,h,y,W,h0,h1,hT,p,eT,Y,h3]:=k3.ex;have G:∀b o,b≠e->b∉fl->s.heap.get? b=↑o->h'.get? b=↑o:=λb o n1 n2 z=>k1 b o (by rw[aA (λm=>(JO.mp m).elim n1 n2)];exact z)
 have B:∀b o,s.heap.get? b=↑o->b∈fl->∃B,h'.get? b=some {o with slots:=B}:=λb o z m=>by
  let#[_,o',C,Q]:=I.stack.mem (show b∈Qz _ by rw[R];exact m)
  rw[z]at C;cases C
  exact k4 b o z Q
 have n:s.heap.get? T=none:=by
  cases z:s.heap.get? T with
  |none=>rfl
  |some o=>
   by_cases m:T∈fl
   .let#[_,o',C,Q]:=I.stack.mem (show T∈Qz _ by rw[R];exact m)
    let#[s1,F]:=B T o z m;rw[z]at C;cases C
    rw[eT]at F;cases F
    exact absurd Y (Q ts)
   .rw[aA (λm'=>(JO.mp m').elim p m),z]at hT
    cases hT
 have S:H T=none:=PN.none I.hok n
 have r:∀b o,i.heap.get? b=↑o->b≠e/\b≠T:=λb o a=>by
  let#[o',d]:=j.there b o a (by simp)
  exact#[λz=>by(rw[z,hn]at a;cases a),λz=>by(rw[z,n]at d;cases d)]
 have O:i.heap.get? T=none:=by
  cases z:i.heap.get? T with
  |none=>rfl
  |some o=>
   let#[o',d]:=j.there T o z (by simp)
   rw[n]at d;cases d
 have J:∀b o,i.heap.get? b=↑o->b∉Qz outer->b∉fl:=λb o a x m=>by
  rw[l]at m;rcases JO.mp m with z|z
  .exact ab b o a z
  .exact x z
 refine#[e,cls,dd,T,Ot H e (Rl e cls dd),Z,I.os,I.bare,#[λb o a hn x _=>?_,λb o a hn x _=>?_,λb o a hn _=>?_,λb o a _=>?_,λb xs a=>?_,λb o u a=>?_,λb ps a=>?_],λb u a=>?_,qb,hn,O,by rw[qk p];exact S,#[oe,vs,oT,ts,a0,e1,h,y,W,h0,h1,p,eT,Y,h3],q]
 .exact G b o (r b o a).1 (J b o a x) (j.keep b o a hn x (by simp))
 .let#[s1,F]:=j.slot b o a hn x (by simp)
  let#[s2,M]:=B b _ F (by rw[l];exact F0 _ x)
  exact#[s2,M]
 .rw[qk (r b o a).1]
  exact j.free b o a hn (by simp)
 .let#[o',d]:=j.there b o a (by simp)
  by_cases z:b∈fl
  .let#[s2,M]:=B b _ d z
   exact#[_,M]
  .exact#[_,G b _ (r b o a).1 z d]
 .have z:=j.tups b xs a
  rw[qk (zn z he (by intro z;cases z))];exact z
 .have z:=j.frzs b o u a
  rw[qk (zn z he (by intro z;cases z))];exact z
 .let#[D,z]:=j.tbls b ps a
  exact#[D,by rw[qk (zn z he (by intro z;cases z))];exact z]
 .by_cases z:b=e
  .subst z
   rw[qb]at a;cases a
   exact Rl.ok e1 h W y
  .rw[qk z]at a
   refine(I.hok b u a).stay (λc v h X=>?_) (λc h=>by rw[qk (zn h he (by intro z;cases z))];exact h) (λc xs h=>by rw[qk (zn h he (by intro z;cases z))];exact h)
   rcases h with rfl|h
   .exact G _ _ z (tk _ _ a) X
   .exact G _ _ (zn h he (by intro z;cases z)) (tk _ _ h) X
def nF(X:Cx)(a:XK):Prop:=∀(tx:Oo) (σ:L2.St) (H:Hp) (s:Θ) (e:Δ) (cls:Γ) (dd:Κ),L2.Ov X tx σ H s->H e=↑(RE e cls dd)->X.s₀.heap.get? e=none->a (-e) none (Ot H e (Rl e cls dd))->X.xe (-e) s
def Qd{K:ι}:
  nF (QD (aE P w) P w K mg base N Vm a f g A outer c H0 E) E:=λ_ _ _ _ _ _ _ I d e q=>xv I d e q
open PySem.Calls
def pP{h':Ψ}{a:Δ}{t':Nat}(I:L2.Ov X tx σ H s)(k:∀b u,s.heap.get? b=↑u->h'.get? b=↑u)(hn:s.heap.get? a=none)(new:OI X.prog X.w (Ot H a o) h' a o):L2.Ov X tx σ (Ot H a o) {s with heap:=h',toks:=t'}:=by
 have d:H a=none:=PN.none I.hok hn
 have e:∀b u,s.heap.get? b=↑u->b≠a:=λb u q z=>by rw[z,hn]at q;cases q
 refine I.un #[λb u q _ _ _=>k b u q,λb u q _ _ _=>#[u.slots,k b u q],λb u q n _=>by rw[qk (e b u q)];exact n,λb u q _=>#[u,k b u q],λb xs q=>by rw[qk (qr q d)];exact q,λb u xs q=>by rw[qk (qr q d)];exact q,λb ps q=>#[(B0 []),by rw[qk (qr q d),q];simp]] λb u q=>?_
 by_cases z:b=a
 .subst z;rw[qb]at q;cases q;exact new
 .rw[qk z]at q
  exact(I.hok b u q).stay (λc v _ r=>k c v r) (λc r=>by rw[qk (qr r d)];exact r) λc xs r=>by rw[qk (qr r d)];exact r
def vC{a:Δ}(I:L2.Ov X tx σ H s)(hx:X.ex=[])(hn:s.heap.get? a=none):X.s₀.heap.get? a=none:=by
 cases z:X.s₀.heap.get? a with
 |none=>rfl
 |some o=>
  let#[o',c]:=I.base.there a o z (by rw[hx];simp)
  rw[hn]at c;cases c
def FN(d:XK)(C:Δ)(ta:TA):TS:=λ_ σ H=>ta σ H λc H1=>c.length<=ζ/\∀a,H1 a=none->d (-a) none (Ot (Ot H1 a (RE a (-C) none)) a (Rl a (-C) none))
def Qu{cpos pos:Pos}{a:Φ}{es:Ι}(A:nF X p)(d:X.calm=true)(m:X.ex=[])(F:ExcBaseFacts B newId initId bmB)(hg:Gl X x)(hm:X.mg x=↑(-C))(y:aL X.K C bm bmB newId=true)(ha:QA X (a::es) ta)
  (f:bm.contains (.type "BaseException")=true)(hs:hG X a es:=by rfl)(c:hI X es cpos:=by rfl)(hd:hH x:=by decide):QS X (.Raise ↑(.Call (.Name x w) (a::es) [] cpos) none pos) (FN p C ta):=#[by
 intro tx s σ H D I h;let#[N,nm,v,bs,hdct,sn,sub,ab,col,dd,k0,k1,k2,k3,k5,O,G,K,j,T]:=sA I.ok.mod.kin y;have u:=ha.h cpos tx s σ H _ I h;rw[hs]at u;refine wpAny_Raise_call_subT F (nm:=nm) (q:=v) (C:=C) (N:=N) (bs:=bs) (bm:=bm) (hdct:=hdct) (sn:=sn) (sub:=sub) (ab:=ab) (col:=col) (dd:=dd) (k0:=k0) (k1:=k1) (k2:=k2) (k3:=k3) (k5:=k5) f (I.ok.hd d) (by rw[hs];show(false||(backTo cpos (θ es X.env)).any (·.1))=false;rw[c];rfl) j (ay I hg hm #[Z,?_] hd)
 rw[hs];refine M4 (qG u λJ l L=>?_)
 let#[P,H1,i,r,M,q]:=L;have n:∀b o,X.base.get? b=↑o->l.heap.get? b=↑o:=λb o e=>(i.bs b o e).1
 refine#[Z,by show J.length<=ζ;rw[<- r.length];exact M,n _ _ G,K.keeps n,T.keeps n,λh' e g=>?_]
 let#[t,z,_,_]:=g.there;have E:L2.Ov X tx σ (Ot H1 e (RE e (-C) none)) {l with heap:=h'}:=pP (t':=l.toks) i g.keeps g.new (RE.ok z)
 exact A tx σ _ _ e _ none E qb (vC i m g.new) (q e (PN.none i.hok g.new))]
noncomputable def dh(K:ι)(C:Δ)(bm bmB:Ζ)(newId:String)(fI:Δ):Bool:=match K.lookup C with
 |some ⟨.type "type",_,.cls cd,sl⟩=>(match sl.toList with
  | [_,_,_,_,↑(.builtin n),_]=>cd.mro== .ref C::bm&&n==newId&& ! cd.hasDel&&cd.hasDict&&PySem.W.tailIn K bmB bm&&PySem.W.nsOkIn K cd.ns&&PySem.W.nsIn K cd.ns "__init__"==↑(↑(-fI))
  |_=>false)
 |_=>false
def Is{K:ι}{v:Γ}(X:K.In h)(G:h.Ns N m)(e:SN K N n=↑(↑v)):m n=↑v:=by
 let#[q,es,p,a,da,_,d]:=G;unfold SN at e;split at e
 .rename_i j o g n1 i z
  have c:=X _ _ z;rw[a]at c;cases c;cases da
  split at e
  .rename_i l f
   cases e;rw[<- d n];unfold nsFind findBy;rw[<- Kg,f];rfl
  .split at e<;>cases e
 .cases e
def fT{K:ι}(X:K.In h)(q:dh K C bm bmB newId fI=true):
  ∃N nm f bs sn sub ab col dd k0 k1 k2 k3 k5 g,h.get? C=↑(excClassObj nm f C N bs bm true sn sub ab col dd k0 k1 k2 k3 k5 newId)/\h.Ns N g/\g "__init__"=↑(-fI)/\OwnTail h bmB bm:=by
 unfold dh at q;split at q
 .rename_i dd u m p
  split at q
  .rename_i k0 k1 k2 k3 n k5 j
   simp only[Lz,LN,N7]at q;let#[#[#[#[#[#[i,rfl],a],e],o],c],d]:=q;let#[nm,bs,t,r,f,v,sn,sub,ab,col,s]:=u
   dsimp only at i a e c d
   subst i a e;let#[l]:=m;simp only at j
   subst j
   exact#[r,nm,f,bs,sn,sub,ab,col,dd,k0,k1,k2,k3,k5,_,X _ _ p,.of_isNs (W.isNs_of_in X c),Is X (.of_isNs (W.isNs_of_in X c)) d,W.tail_of_in X o]
  .cases q
 .cases q
structure Xi(P:Ξ)(w:Ω)(K:ι)(mg:On)(base:Ψ)(C:Δ)(x:Str)(bm bmB:Ζ)(newId:String)(ps:Α)(k:Nat)(sp:Sp):Prop where
 ex:∃(f:Δ) (fd:FuncData),P5 P w K mg base ci k f fd ps sp/\dh K C bm bmB newId f=true/\PySem.W.isFn K (-f)=true/\mg x=↑(-C)/\Pn K fd ps []
def Fx(d:XK)(C:Δ)(sp:Sp)(ta:TA):TS:=λ_ σ H=>ta σ H λa H1=>a.length<=ζ/\∀e,H1 e=none->sp (.ref e::(a++[])) (Ot H1 e (RE e (-C) none)) (λv c=>v= .non/\∃dd,c e=↑(RE e (-C) dd)/\d (-e) none (Ot c e (Rl e (-C) dd))) E0
def HM{K:ι}(X:K.In h)(q:W.isFn K (-f)=true):∃o,h.get? f=↑o/\o.cls= .type "function":=by
 have z:W.typeIn K (-f)=↑(.type "function"):=LN.mp q
 have a:(K.lookup f).map (·.cls)=↑(.type "function"):=z
 cases e:K.lookup f with
 |none=>rw[e]at a;cases a
 |some o=>
  rw[e]at a
  exact#[o,X _ _ e,Lb a]
def Bn{k:Nat}{sp:Sp}{cpos pos:Pos}{a:Φ}{es:Ι}(hT:nF X Ex)(j:X.calm=true)(Q:X.ex=[])(F:ExcBaseFacts B newId initId bmB)(hg:Gl X x)(M:Xi X.prog X.w X.K X.mg X.base C x bm bmB newId ps k sp)(hr:OL (k+1) X.A)(ha:QA X (a::es) ta)
  (l:bm.contains (.type "BaseException")=true)(hs:hG X a es:=by rfl)(i:hI X es cpos:=by rfl)(hd:hH x:=by decide):QS X (.Raise ↑(.Call (.Name x np) (a::es) [] cpos) none pos) (Fx Ex C sp ta):=#[by
 intro tx s σ H D I h;let#[f,fd,FI,hK,K,hm,hb]:=M.ex;let#[N,nm,qn,bs,sn,sub,ab,col,dd,k0,k1,k2,k3,k5,mN,hC,hN,J,T]:=fT I.ok.mod.kin hK;have hA:=ha.h cpos tx s σ H _ I h;rw[hs]at hA;have E:(backTo cpos (θ (a::es) X.env)).any (·.1)=false:=by rw[hs];show(false||(backTo cpos (θ es X.env)).any (·.1))=false;rw[i];rfl
 rw[arm_exec_Raise];refine JH (L5 (wE (C:=C) (nm:=nm) (q:=qn) (N:=N) (bs:=bs) (bm:=bm) (hdct:=true) (sn:=sn) (sub:=sub) (ab:=ab) (col:=col) (dd:=dd) (k0:=k0) (k1:=k1) (k2:=k2) (k3:=k3) (k5:=k5) (newId:=newId) l (I.ok.hd j) ?_))
 refine JH (Lg (wpAny_Call_ofName (ay I hg hm ?_ hd)) (λv s3 z=>JH (L5 (JP z))) λ_ _ z=>z)
 unfold TF;refine JH (LD ?_)
 rw[hs];refine M4 (qG hA λc s1 ⟨vs,H1,w,r,hl,q⟩=>JH (L5 ?_))
 have U:∀b o,X.base.get? b=↑o->s1.heap.get? b=↑o:=λb o e=>(w.bs b o e).1
 have A:=U _ _ hC;let#[hp,g,d,tk,os]:=s1;rw[hs]at E;simp only[E];refine JH (wpAny_keeperOf_exc A ?_)
 have K1:X.K.In hp:=w.kIn
 let#[oI,W,R]:=HM K1 K;refine JH (BE F (T.keeps U) A (hN.keeps U) J W R (by show c.length<=ζ;rw[<- r.length];exact hl) λh' e a0 n=>?_)
 let#[t,he,_,_]:=n.there;have G:L2.Ov X tx σ (Ot H1 e (RE e (-C) none)) #[h',g,d,tk,os]:=pP (t':=tk) w n.keeps n.new (RE.ok he)
 have Y:=q e (PN.none w.hok n.new);have r2:OB (.ref e::(vs++[])) (Γ.ref e::(c++[])):=by rw[MZ,MZ];exact .cons Z r
 have L:((Γ.ref e::c)++[]).length=ps.length:=by
  have z:=r2.length;rw[FI.len _ _ _ _ Y]at z;exact z.symm
 have O:BindsTo #[h',g,d,tk,os] fd #[Γ.ref e::c,[]] (ps.zip (Γ.ref e::(c++[]))):=by
  have z:=hb #[h',g,d,tk,os] (Γ.ref e::c) G.kIn L
  rw[KP]at z;exact z
 refine MI (Mu (FI.run _ X.stack _ _ #[Γ.ref e::c,[]] (Γ.ref e::(c++[])) _ _ E0 (hr.make C c []) (G.env0.make C c []) O r2 Y) λrr s' m=>?_)
 cases rr with
 |error e=>exact(mM tx σ _ _ e s' G m)
 |ok fl=>
  cases fl with
  |ret u=>
   let#[v,H',S,rv,ev,p,y,q3]:=G.after m;subst ev;refine#[rv,JH (LD (wpAny_point (JP ?_)))]
   let#[#[t3,P,e3],_,_]:=S.hok e _ y
   exact#[e,t3,p,P,Z,(S.bs _ _ hC).1,e3,hT tx σ _ _ e _ p S y (vC w Q n.new) q3]
  |next=>exact False.elim m
  |brk=>exact False.elim m
  |cont=>exact False.elim m]
def FV{H:Hp}{o:HO}(h:H a=↑o):Ot H a o=H:=by
 funext b
 by_cases z:b=a
 .subst z;rw[qb,h]
 .rw[qk z]
def wL{K:ι}{pos:Pos}{b:String}{first:Ζ}{e:Φ}{rest:Ι}(h:ε M A (spliced (backTo pos (θ (e::rest) env))) (λd c=>K.In c.heap/\ε M A (call (.builtin b) (first++d)) Q E c) E s)
  (he:θ (e::rest) env=(false,eval e env)::θ rest env:=by rfl)(a:(backTo pos (θ rest env)).any (·.1)=false:=by rfl):ε M A (TF pos (.builtin b) first (backTo pos (θ (e::rest) env)) []) Q E s:=by
 rw[he]at h⊢;exact W.callWith_of (P:=λh=>K.In h) (by show((false||(backTo pos (θ rest env)).any (·.1))||false)=false;rw[a];rfl) (λh _=>#[.machine,.inr (.inl Z),.now]) (PySem.Calls.evalArgs_plain h)
structure UM(K:ι)(CE:Δ)(initId:String):Prop where
 sp:PySem.W.specialIn K (-CE) "__getattribute__"=↑(↑(.builtin "type.__getattribute__"))
 rd:PySem.W.readsIn K CE (.type "type")=true
 fc:PySem.W.findCls K (-CE) (.type "type") "__init__"=↑(.val (.builtin initId))
 hi:PySem.W.handedIn (.builtin initId)=true
def Bj(C:Δ)(t:TA):TE:=λσ H Q=>t σ H λa H1=>∃(e:Δ) (v:V),a=[-e,v]/\H1 e=↑(RE e (-C) none)/\Q .non H1
def uT{CE:Δ}{c a:Φ}{apos pos:Pos}{pl:Sem Bool}(F:ExcBaseFacts B newId initId bmB)(hg:Gl X x)(hm:X.mg x=↑(-CE))(B:UM X.K CE initId)(L:dh X.K C bm bmB newId fI=true)(ha:QA X [c,a] t)
  (hst:θ [c,a] X.env=(false,eval c X.env)::θ [a] X.env:=by rfl)(hpl:(backTo pos (θ [a] X.env)).any (·.1)=false:=by rfl)(hd:hH x:=by decide)
  (P:eval (.Call (.Attribute (.Name x j) "__init__" apos) [c,a] [] pos) X.env=(do
   let m <- eval (.Name x j) X.env
   standAt apos.atName
   let(f,first) <- holding [m] (getMethod m "__init__" pl)
   TF pos f first (backTo pos (θ [c,a] X.env)) (backToKw pos (keywordEach [] X.env))):=by rfl):
  QE X (.Call (.Attribute (.Name x j) "__init__" apos) [c,a] [] pos) (Bj C t):=#[by
 intro tx s σ H Q I h;let#[N,nm,S,bs,sn,sub,ab,col,dd,k0,k1,k2,k3,k5,mN,M,hN,J,T]:=fT I.ok.mod.kin L;refine NK (pl:=pl) (ay I hg hm ?_ hd) P
 refine W.method_cls I.kIn B.sp (W.cls_value I.kIn B.rd B.fc B.hi ?_)
 have G:L2.Ov X tx σ H {s with toks:=s.toks+1}:=I.tok _
 refine wL (first:=[]) (K:=X.K) (qG (ha.h pos tx _ σ H _ G h) λus p ⟨vs,w,i,r,e,v,R,l,q⟩=>#[i.kIn,?_]) hst hpl
 subst R;let#[u1,u2,rfl,O,Y]:=em r;cases O;let#[#[U,sl,E],_,_]:=i.hok e _ l;have D:∀b o,X.base.get? b=↑o->p.heap.get? b=↑o:=λb o z=>(i.bs b o z).1
 let#[hp,g,d,tk,os]:=p;refine re F (T.keeps D) (D _ _ M) E λh' y k'=>?_
 have A:L2.Ov X tx σ (Ot w e (RE e (-C) none)) #[h',g,d,tk,os]:=i.write (x:=e) (e:=e) (t':=tk) (by rw[l];exact trivial) (.inl Z) (λb u n z=>k' b u n z) #[_,y] (RE.ok y)
 rw[FV l]at A
 exact#[.non,w,A,Z,q]]
noncomputable abbrev Ei:Ζ:=[.type "ValueError",.type "Exception",.type "BaseException",.type "object"]
def CJ{h':Ψ}{d:Δ}{u:Γ}{f:Str}{B:Array Ν}{t':Nat}(I:L2.Ov X tx σ H s)(he:H e=↑(RE e cls none))(hd:d=s.heap.objs.size)(x:h'.get? e=some #[cls,↑d,.fields (kL t),B])(j:h'.Ns1 d (λz=>if z=f then ↑u else none))(C:Oz y u)(k:∀b o,b≠e->s.heap.get? b=↑o->h'.get? b=↑o):
  L2.Ov X tx σ (Ot (Ot H d (.xd [(f,y)])) e (RE e cls ↑d)) {s with heap:=h',toks:=t'}:=by
 have h:s.heap.get? d=none:=by rw[hd];exact MW (JL _)
 have w:H d=none:=PN.none I.hok h
 have D:d≠e:=(qr he w).symm
 have A:∀b u,s.heap.get? b=↑u->b≠d:=λb u q z=>by rw[z,h]at q;cases q
 have ne:∀b,H b=none->b≠e:=λb n z=>by rw[z,he]at n;cases n
 have i:∀b,b≠d->b≠e->Ot (Ot H d (.xd [(f,y)])) e (RE e cls ↑d) b=H b:=λb n1 n2=>by rw[qk n2,qk n1]
 have tup:∀b o,H b=↑o->(∀a,o≠ .ext a)->Ot (Ot H d (.xd [(f,y)])) e (RE e cls ↑d) b=↑o:=λb o q n=>by
  rw[i b (qr q w) (zn q he (n _))];exact q
 refine I.un #[λb o q n _ _=>k b o (ne b n) q,λb o q n _ _=>#[o.slots,k b o (ne b n) q],λb o q n _=>by rw[i b (A b o q) (ne b n)];exact n,λb o q _=>?_,λb xs q=>tup b _ q (by intro a z;cases z),λb o xs q=>tup b _ q (by intro a z;cases z),λb ps q=>#[(B0 []),by rw[tup b _ q (by intro a z;cases z)];simp]] λb o q=>?_
 .by_cases z:b=e
  .rw[z];exact#[_,x]
  .exact#[o,k b o z q]
 .by_cases z:b=e
  .subst z;rw[qb]at q;cases q;exact RE.ok x
  .rw[qk z]at q
   by_cases p:b=d
   .subst p;rw[qb]at q;cases q
    refine#[_,j,λg=>?_]
    by_cases l:g=f
    .subst l
     rw[JK Z,N3];exact C
    .rw[JJ l,LL,Mj l];exact trivial
   .rw[qk p]at q
    refine(I.hok b o q).stay (λc v m r=>k c v ?_ r) (λc r=>tup c _ r (by intro a z;cases z)) λc xs r=>tup c _ r (by intro a z;cases z)
    rcases m with rfl|m
    .exact z
    .exact zn m he (by intro z;cases z)
structure Ur(K:ι)(CE C fI:Δ)(f:Str):Prop where
 bi:dh K C (.ref CE::Ei) Ei "ValueError.__new__" fI=true
 na:SU K (-C) f=↑none
 sa:SU K (-C) "__setattr__"=↑(↑(.builtin "object.__setattr__"))
 cl:RO K C
def Iy(C:Δ)(f:Str)(ta tv:TE):TS:=λD σ H=>tv σ H λy H1=>ta σ H1 λx a=>∃e,x= .ref e/\a e=↑(RE e (-C) none)/\∀d,a d=none->D.nx σ (Ot (Ot a d (.xd [(f,y)])) e (RE e (-C) ↑d))
def FA{X:Cx}{CE:Δ}{pos:Pos}(B:Ur X.K CE C fI f)(ha:QE X o ta)(hv:QE X value tv)(hs:swapsWith value ↑(.Attribute o f pos') pos.line X.env=pure false:=by rfl):QS X (.Assign [.Attribute o f pos'] value pos) (Iy C f ta tv):=#[by
 intro tx s σ H D I h;let#[N,nm,L,bs,sn,sub,ab,col,dd,k0,k1,k2,k3,k5,P,v,Q,p,T]:=fT I.ok.mod.kin B.bi;refine plainObj_wpAny_Assign_Attribute (qG (hv.h tx s σ H _ I h) λu t ⟨y,H1,z,A,q⟩=>qG (ha.h tx t σ H1 _ z q) λr E G=>?_) hs
 let#[x,R,a,n,e,ex,l,w]:=G;subst ex
 obtain rfl:r=Γ.ref e:=n
 let#[#[M,O,m],_,_]:=a.hok e _ l;have j:=(a.bs _ _ v).1;have hk:=a.kIn;let#[F,g,d,tk,os]:=E;refine AB hk j B.na B.sa m λh' c J i k'=>?_
 have K:=CJ (t':=c) (s:=#[F,g,d,tk,os]) a l Z J i A k'
 exact#[σ,_,K,w _ (PN.none a.hok (MW (JL _)))]]
def Im(C:Δ)(f:Str)(ta:TE):TE:=λσ H Q=>ta σ H λx H1=>∃(e d:Δ) (fs:List (Str×V)) (v:V),x= .ref e/\H1 e=↑(Rl e (-C) ↑d)/\H1 d=↑(.xd fs)/\fs.lookup f=↑v/\Q v H1
def Fq{X:Cx}{CE:Δ}(B:Ur X.K CE C fI f)(he:QE X e ta)(hb:attributeBase e f X.env (eval e X.env)=eval e X.env:=by rfl):QE X (.Attribute e f pos) (Im C f ta):=#[by
 intro tx s σ H Q I h;let#[N,nm,M,bs,sn,sub,ab,col,dd,k0,k1,k2,k3,k5,R,G,S,A,T]:=fT I.ok.mod.kin B.bi;refine vi hb (qG (he.h tx s σ H _ I h) λu m L=>?_)
 let#[x,H1,i,y,a,d,fs,v,ex,D,F,l,q]:=L;subst ex
 obtain rfl:u=Γ.ref a:=y
 let#[#[o,Y,E,K,t,j],_,_]:=i.hok a _ D;let#[mA,n,r]:=(show∃mA,m.heap.Ns1 d mA/\∀f,PL (fs.lookup f) (mA f)from i.hok d _ F)
 let#[O,J,w]:=PL.some_of (v:=v) (o:=mA f) (by rw[<- l];exact r f)
 have p:=(i.bs _ _ G).1;have hk:=i.kIn;have It:=i.tok (m.toks+1);let#[U,g,P,tk,os]:=m;exact C7 hk p E K (by intro c z;rw[t]at z;cases z) j n J (W.handedOut_of (pq w)) B.cl.b B.na B.cl.ga B.cl.gt #[v,H1,It,w,q]]
def Zx:zY X (.builtin "isinstance") (λxs H Q=>∃(a C:Δ) (dd:Κ) (c:V) (d:Γ) (b:Bool),xs=[-a,c]/\H a=↑(Rl a (-C) dd)/\RO X.K C/\((∃D,c= .ref D/\d= .ref D)\/∃T,c= .ty T/\d= .type T)/\SR X.K (-C) d=↑b/\Q (.bl b) H):=by
 intro tx s σ H xs n Q I r h;let#[a,C,dd,c,d,b,rfl,m,i,l,hk,q]:=h;let#[u,v,rfl,j,g]:=em r;cases j
 obtain rfl:v=d:=by
  rcases l with⟨D,rfl,rfl⟩|⟨T,rfl,rfl⟩
  .exact g
  .exact g
 let#[#[o,p,e,f,_],_]:=I.hok a _ m;exact Lu (sN i) I.kIn #[o,e,f] hk (λz=>nomatch z) λtk=>#[.bl _,H,I.tok tk,Z,q]
end L3
namespace L3
open PySem PySem.Spec PyProof.Rows L2
structure My(P:Ξ)(w:Ω)(K:ι)(mg:On)(base:Ψ)(C:Δ)(m:Str)(ps:Α)(k:Nat)(sp:Sp):Prop where
 ex:∃(f:Δ) (fd:FuncData),P5 P w K mg base (aE P w) k f fd ps sp/\Tn K C m f/\Pn K fd ps []
def O7.my{P:Ξ}{w:Ω}{K:ι}{mg:On}{base:Ψ}{C:Δ}{m Vm:Str}{st:δ}{ps N:Α}{k:Nat}{sp:Sp}(a:O7 K C m Vm st ps)(S:Os N ps (ql st))
  (c:∀(f:Δ) (cdv:Γ) (A:SO) (outer:Ρ) (s:Θ) (H:Hp) (vs:Β) (Q:VK) (E:XK),OL k (A.deeper (envOfC Vm (ql st) s.heap.objs.size f cdv))->sp vs H Q E->
   ∃t,R9 (QD (aE P w) P w K mg base N Vm (ql st) f cdv A outer s H E) (Qk st) t/\t {nx:=λ_ H'=>Q .non H',rt:=Q} (Zm N vs) H)(g:∀vs H Q E,sp vs H Q E->vs.length=ps.length:=by intro vs H Q E h;first|(cases h;subst_vars;rfl)|((repeat first|let#[rfl,h]:=h|let#[_,h]:=h);all_goals rfl)):My P w K mg base C m ps (k+1) sp:=by
 let#[f,fd,F,m,bd]:=a.ex;refine#[f,fd,?_,m,bd]
 let#[oc,od,kV,doc,pm,an,cdv,ct,osl,rfl,j,d]:=F.ex;refine wg j d S g λA outer s H vs Q E i e=>?_
 let#[t,h,q]:=c f cdv A outer s H vs Q E i e
 exact#[t,h.h,q]
def Jg(X:Cx)(tx:Oo)(σ:L2.St)(d:L2.St->Δ->Hp->Prop)(e:Γ)(s':Θ):Prop:=
 ∃H c,L2.Ov X tx σ H c/\aE X.prog X.w X.stack H c (λv _ H'=>∃a,v= .ref a/\d σ a H') e s'
structure QY(X:Cx)(st:List δ)(t:TX):Prop where
 h:∀(tx:Oo) (s:Θ) (σ:L2.St) (H:Hp) (D:OU) (EX:L2.St->Δ->Hp->Prop) (R:Om),L2.Ov X tx σ H s->t D EX σ H->(∀σ' e s',Jg X tx σ' EX e s'->R e s')->ε (model X.prog X.w) X.A (execs st X.env) (SP X tx D) R s
def My.mf{K:ι}{k:Nat}{sp c:Sp}(M:My P w K mg base C m ps k sp)(h:∀a H Q E,c a H Q E->sp a H Q E0):Mf P w K mg base C m ps k c:=by
 let#[f,fd,F,l,g]:=M.ex;refine#[f,fd,#[λa H Q E q=>F.len a H Q E0 (h a H Q E q),λA outer s H d j a Q E i o g n p=>?_],l,g]
 refine Mu (F.run A outer s H d j a Q E0 i o g n (h _ _ _ _ p)) λr s' q=>?_
 cases r with
 |ok fl=>cases fl<;>exact q
 |error e=>let#[_,_,_,_,_,_,_,_,_,_,_,_,_,_,_,z]:=q;exact z.elim
def kO{s':Θ}{T:Δ}{i:Ψ}{M:Nat}(I:L2.Ov X tx σ H j)(os:s'.os=j.os)(n:AllBare s'.gens)(un:Un (Qz X.stack) [] H H' j.heap s'.heap)(C:PN X.prog X.w H' s'.heap)(ha:H' a=↑(Rl a cls dd))(F:j.heap.get? a=none)(E:j.heap.get? T=none)(D:H' T=none)
  (st:(aU s'.heap (a::T::Qz X.stack)).StaysIn i)(up:s'.heap.UpToSlots i){w:Obj}(he:i.get? a=↑w)(hc:w.cls=cls)(hd:w.data= .fields vs)(y:w.dict=dd):L2.Ov X tx σ H' {s' with heap:=i,toks:=M}:=by
 have g:∀b o,j.heap.get? b=↑o->b≠a/\b≠T:=λb o d=>#[λz=>by(rw[z,F]at d;cases d),λz=>by(rw[z,E]at d;cases d)]
 have x:∀b o,b≠a->b≠T->b∉Qz X.stack->s'.heap.get? b=↑o->i.get? b=↑o:=λb o h1 Q O d=>st b o (by
  rw[aA]
  .exact d
  .intro z
   rcases JO.mp z with z|z
   .exact h1 z
   .rcases JO.mp z with z|z
    .exact Q z
    .exact O z)
 have t:∀b o,b∈Qz X.stack->j.heap.get? b=↑o->∀o',s'.heap.get? b=↑o'->∃t,i.get? b=some {o' with slots:=t}:=λb o d s o' p=>by
  let#[_,u,L,G]:=I.stack.mem d;rw[s]at L;cases L
  let#[P,l]:=un.slot b o s (I.stkFree b d) d (by simp)
  rw[p]at l;cases l
  exact up b _ p G
 refine I.call' (s':={s' with heap:=i,toks:=M}) os #[λb o d m r _=>?_,λb o d m r _=>?_,λb o d m A=>un.free b o d m A,λb o d A=>?_,un.tups,un.frzs,un.tbls] (λb u d=>?_) n (λb z=>absurd z (by simp))
 .exact x b o (g b o d).1 (g b o d).2 r (un.keep b o d m r (by simp))
 .let#[P,l]:=un.slot b o d m r (by simp)
  let#[N,B]:=t b o r d _ l
  exact#[N,B]
 .let#[o',l]:=un.there b o d A
  by_cases z:b∈Qz X.stack
  .let#[N,B]:=t b o z d _ l
   exact#[_,B]
  .exact#[_,x b _ (g b o d).1 (g b o d).2 z l]
 .by_cases z:b=a
  .subst z
   rw[ha]at d;cases d
   exact Rl.ok he hc hd y
  .have tk:∀c u,H' c=↑u->c∉Qz X.stack/\c≠T:=λc u h=>by
    refine#[λJ=>?_,λz=>by(rw[z,D]at h;cases h)]
    let#[_,o,s,_]:=I.stack.mem J
    have:=un.free c o s (I.stkFree c J) (by simp)
    rw[h]at this;cases this
   refine(C b u d).stay (λc v f K=>?_) (λ_ q=>q) (λ_ _ q=>q)
   rcases f with rfl|f
   .exact x c v z (tk _ _ d).2 (tk _ _ d).1 K
   .exact x c v (λe=>by(rw[e,ha]at f;cases f)) (tk _ _ f).2 (tk _ _ f).1 K
def wN(K:ι)(CE:Δ)(cls:Γ):Prop:=∃C bm bmB newId,cls= .ref C/\(aL K C bm bmB newId=true\/∃fI,dh K C bm bmB newId fI=true)/\bm.contains (-CE)=true
def EH{K:ι}(X:K.In h)(q:aL K C bm bmB newId=true\/∃fI,dh K C bm bmB newId fI=true):∃N nm a bs hdct sn sub ab col dd k0 k1 k2 k3 k5,h.get? C=↑(excClassObj nm a C N bs bm hdct sn sub ab col dd k0 k1 k2 k3 k5 newId):=by
 rcases q with q|⟨fI,q⟩
 .let#[N,nm,a,bs,hdct,sn,sub,ab,col,dd,k0,k1,k2,k3,k5,d,c,_]:=sA X q
  exact#[N,nm,a,bs,hdct,sn,sub,ab,col,dd,k0,k1,k2,k3,k5,c]
 .let#[N,nm,a,bs,sn,sub,ab,col,dd,k0,k1,k2,k3,k5,d,c,_]:=fT X q
  exact#[N,nm,a,bs,true,sn,sub,ab,col,dd,k0,k1,k2,k3,k5,c]
def v7(K:ι)(CE:Δ)(i:Nat)(tb:TX)(d:TS):TS:=λD σ H=>tb D (λc a H'=>(∀cls dd,H' a=↑(Rl a cls dd)->wN K CE cls)/\d (DS D i) (c.set i ↑(-a)) H') σ H
def EL{d:List δ}{m:δ}{n:Str}{CE:Δ}{i:Nat}(hb:QY X l tb)(hs:∀a,R9 (Cj X a) (m::d) P)(j:X.stack=X.env::X.outer)(a5:X.env.frame=↑X.env.locals)(hg:Gl X x)(hm:X.mg x=↑(-CE))(hE:aL X.K CE J bmB E=true)(A:J.contains (.type "BaseException")=true)
  (hN:X.N.Nodup)(hi:X.N[i]? =↑n)(hk:X.env.kindOf n=some .local)(hd:hH x:=by decide):
  QS X (.Try l [.ExceptHandler ↑(.Name x np) ↑n (m::d) L] [] [] pos) (v7 X.K CE i tb P):=#[by
 intro tx s σ H D I h;refine wpAny_Try_except (Lg (hb.h tx s σ H D _ _ I h ?_) (λf s1 q=>?_) λ_ _ z=>z)
 .rintro r e s' ⟨H1,s0,U,a,cls,dd,T,Q,rfl,os,g,un,y,ha,K,N,F,⟨oe,vs,oT,P,a0,he,hc,b0,G,h0,h1,b1,a3,b4,h3⟩,a',ea,sub,S⟩
  obtain rfl:a=a':=by injection ea
  have I2:L2.Ov X tx r Q s':=U.call' os un y g (λb z=>absurd z (by simp))
  let#[M,c]:∃M,M=aU s'.heap (a::T::Qz X.stack):=#[0]
  have kb:M.StaysIn s'.heap:=λb o q=>by rw[c]at q;exact(gV q).2
  have ff:s'.heap.FunFrames M X.stack:=aZ I2.stack (λb hb=>by rw[c];exact QV (F0 _ (F0 _ hb)))
  have td:UE s'.heap M a cls dd .none:=#[oe,vs,T,oT,P,a0,he,hc,b0,G,h0,h1,by rw[c];exact QV (F0 _ (J3 ..)),b1,a3,b4,h3]
  have fr:X.A.frames=↑(X.env::X.outer):=by rw[<- j];exact I.ok.frames
  rw[j]at ff;refine ye fr ff a5 td kb (by rw[c];exact QV (J3 ..)) λh4 k1 k2 k3 b7=>?_
  refine jv k1 k2 k3 λh5 j1 j2 j3 a4=>?_
  have up:=b7.trans a4;let#[C,bm,c0,newId,rfl,b6,R]:=sub cls dd ha;let#[o5,f1,T5,e3,d8,d3,e5,c5,b3,d5,_]:=id j3.ex;have a1:(aU s'.heap (a::T::Qz X.stack)).StaysIn h5:=by rw[<- c];exact j1
  have W:L2.Ov X tx r Q {s' with heap:=h5,toks:=s'.toks}:=kO U os g un y ha K N F a1 up e5 c5 d5 b3
  let#[N1,nm,qn,bs,hdct,sn,sb,ab,col,e1,k0,d4,c2,d1,k5,hC]:=EH W.kIn b6;let#[N2,e2,d9,d0,a2,e0,c4,d7,c1,d2,q0,q1,q2,q3,q5,f0,Y,_,_,_]:=sA W.kIn hE;refine wpAny_handleBy_cons (codeAny_handlers_test (ay (tM (a:=a) W) hg hm ?_ hd)) (by intro z;cases z)
  refine oj hC Y e5 c5 A R ?_
  refine codeAny_handlers_suite_as ?_
  refine jv j1 j2 j3 λh6 l1 l2 l3 b5=>?_
  let#[o6,e9,T6,c3,f2,e4,e6,c6,b2,d6,_]:=id l3.ex;have I6:L2.Ov X tx r Q {s' with heap:=h6,toks:=s'.toks}:=kO U os g un y ha K N F (by rw[<- c];exact l1) (up.trans b5) e6 c6 d6 b2
  refine bv (v:= .ref a) I6 hN hi (.inl hk) Z (λs7 I7=>?_) (.inr hk)
  refine Lg ((hs a).h tx s7 _ Q (DS D i) (tM I7) S) (λf s8 O=>?_) λ_ _ z=>z.elim
  cases f with
  |next=>let#[w,H9,p,t]:=O;exact gD (jH I.ok p) hN hi hk λs' B=>#[8,B,t]
  |brk=>let#[w,H9,p,t]:=O;exact gD (jH I.ok p) hN hi hk λs' B=>#[8,B,t]
  |cont=>let#[w,H9,p,t]:=O;exact gD (jH I.ok p) hN hi hk λs' B=>#[8,B,t]
  |ret u=>let#[v,w,H9,p,r9,t]:=O;exact gD (jH I.ok p) hN hi hk λs' B=>#[21,B,r9,t]
 .cases f with
  |next=>exact MG q
  |ret v=>exact q
  |brk=>exact q
  |cont=>exact q]
structure Ac(K:ι)(mg:On)(x:Str)(st:δ):Prop where
 ex:∃(f:Δ) (fd:FuncData),SI K x x st f fd/\mg x=↑(-f)
structure Pg(K:ι)(C:Δ)(m Vm:Str)(st:δ):Prop where
 ex:∃(f:Δ) (fd:FuncData),SI K m Vm st f fd/\Tn K C m f
section
variable{K:ι}{mg:On}{h:Ψ}{x m Vm:Str}{st:δ}{C f:Δ}{oc:Γ}{od an:Κ}{osl:Array Ν}{kV doc pm cdv ct:Γ}{ps:Α}
def Iu(X:K.In h)(G:h.Ns η mg)(a:SN K η x=↑(↑(-f)))(l:K.lookup f=some #[oc,od,.func (Sw x x (Zh st) (Qk st) (ql st) .none kV doc pm an cdv ct),osl])(c:W.codeIn K cdv x=true)(k:Si K (-f)=true):Ac K mg x st:=#[f,_,sZ l c k,Lm X G a]
def HN(a:SK K (-C) m=↑(↑(-f)))(i:W.isFn K (-f)=true)(l:K.lookup f=some #[oc,od,.func (Sw m Vm (Zh st) (Qk st) (ql st) .none kV doc pm an cdv ct),osl])(c:W.codeIn K cdv Vm=true)(k:Si K (-f)=true):Pg K C m Vm st:=#[f,_,sZ l c k,a,i,k]
def JE{p:Ζ->Prop}(h:p []):∀a:Ζ,a.length=0->p a:=by
 intro a c;rw[List.eq_nil_of_length_eq_zero c];exact h
def vW{n:Nat}{p:Ζ->Prop}(h:∀a c,c.length=n->p (a::c)):∀c:Ζ,c.length=n+1->p c:=by
 intro c d;cases c with
 |nil=>cases d
 |cons a r=>exact h a r (Nat.succ.inj d)
def QQ{p:Ζ->Prop}(h:∀d,p [d]):∀c:Ζ,c.length=1->p c:=vW λa=>JE (p:=λr=>p (a::r)) (h a)
def QJ{p:Ζ->Prop}(h:∀d e,p [d,e]):∀c:Ζ,c.length=2->p c:=vW λa=>QQ (p:=λr=>p (a::r)) (h a)
def aC{p:Ζ->Prop}(h:∀d f e,p [d,f,e]):∀c:Ζ,c.length=3->p c:=vW λa=>QJ (p:=λr=>p (a::r)) (h a)
def tY{p:Ζ->Prop}(h:∀g d e f,p [g,d,e,f]):∀c:Ζ,c.length=4->p c:=vW λa=>aC (p:=λr=>p (a::r)) (h a)
def Gt{p:Ζ->Prop}(h:∀i e f g d,p [i,e,f,g,d]):∀c:Ζ,c.length=5->p c:=vW λa=>tY (p:=λr=>p (a::r)) (h a)
def GE{p:Ζ->Prop}(h:∀i e f g d j,p [i,e,f,g,d,j]):∀c:Ζ,c.length=6->p c:=vW λa=>Gt (p:=λr=>p (a::r)) (h a)
def Ac.at(a:Ac K mg x st)(b:∀(kV doc pm:Γ) (an:Κ) (cdv ct:Γ) (us:Ζ),us.length=ps.length->bindArgs (Sw x x (Zh st) (Qk st) (ql st) .none kV doc pm an cdv ct) #[us,[]]=pure (ps.zip us):=by intro _ _ _ _ _ _;first|exact QQ λ_=>rfl|exact QJ λ_ _=>rfl|exact aC λ_ _ _=>rfl|exact tY λ_ _ _ _=>rfl|exact Gt λ_ _ _ _ _=>rfl|exact GE λ_ _ _ _ _ _=>rfl):At K mg x st ps:=by
 let#[_,_,F,m]:=a.ex;exact Ic F m (F.binds b)
def Pg.at(a:Pg K C m Vm st)(b:∀(kV doc pm:Γ) (an:Κ) (cdv ct:Γ) (us:Ζ),us.length=ps.length->bindArgs (Sw m Vm (Zh st) (Qk st) (ql st) .none kV doc pm an cdv ct) #[us,[]]=pure (ps.zip us):=by intro _ _ _ _ _ _;first|exact QQ λ_=>rfl|exact QJ λ_ _=>rfl|exact aC λ_ _ _=>rfl|exact tY λ_ _ _ _=>rfl|exact Gt λ_ _ _ _ _=>rfl|exact GE λ_ _ _ _ _ _=>rfl):O7 K C m Vm st ps:=by
 let#[_,_,F,m]:=a.ex
 exact#[8,F,m,F.binds b]
end
def Dt{K:ι}{CE:Δ}{u:TS}(G:L2.St->Hp->Prop)(h:∀D':OU,(∀a H',G a H'->D'.nx a H')->v7 K CE i tb c D' σ H)(d:∀a H',G a H'->u D a H'):fX (v7 K CE i tb c) u D σ H:=h {D with nx:=u D} d
def Rl.inj(h:Rl a c d=Rl a g l):c=g:=by
 unfold Rl at h;injection h with h
 let#[f,n]:∃f:Ψ,f.objs.size=a:=#[{objs:=Array.replicate a default},Array.size_replicate]
 have e:(f.push #[c,d,.fields (B0 []),(B0 [])]).get? a=some #[c,d,.fields (B0 []),(B0 [])]:=by rw[<- n];exact J2 _ Z
 have z:(λh:Ψ=>∃o i,h.get? a=↑o/\o.cls=c/\o.data= .fields i/\o.dict=d) (f.push #[c,d,.fields (B0 []),(B0 [])]):=#[8,e,23]
 rw[h]at z;let#[o,i,j,m,_]:=z;rw[e]at j;cases j
 exact m
def HH{H:Hp}(h1:H a=↑(Rl a (-C) d))(h:H a=↑(Rl a cls c)):cls= .ref C:=by
 rw[h1]at h
 exact(Rl.inj (Lb h)).symm
structure Ps where
 nm:Str
 age:Int
 ds:Ε
def PX(H:Hp)(p:Δ)(P:Ps):Prop:=OY H p P.nm P.age P.ds
structure RM(P:Ps):Prop where
 nm:Zo P.nm
 l:P.ds.length=5
 dg:Qn P.ds
noncomputable def i9(D:Dr)(P:Ps):Option (Int×Int):=if Z4 D P.age=true then aF D.t (aW D P.age) P.nm P.ds else none
noncomputable def An(D:Dr)(P R:Ps):Str×Int×Kw:=match i9 D P with
 |none=>("press",0,D.kn)
 |some (c,_)=>match i9 D R with
  |none=>("press",1,D.kn)
  |some (c',_)=>if R.nm=P.nm/\R.age=P.age/\c'=c+1 then(match D.kn.lookup P.nm with
    |some _=>("known",0,D.kn)
    |none=>if(D.kn.length:Int)<D.most then("",0,QL D.kn P.nm #[P.age,c',none])else("full",0,D.kn))
   else("press",1,D.kn)
def OH(E:XK)(H:Hp)(C:Δ):Prop:=∀H' e,Oq H H'->H' e=↑(Rl e (-C) none)->E (-e) none H'
def RF(E:XK)(H:Hp)(C:Δ)(f:Str)(n:Int):Prop:=∀H' e d,Oq H H'->H' e=↑(Rl e (-C) ↑d)->H' d=↑(.xd [(f,.int n)])->E (-e) none H'
def RF.mk(j:RF E H C f n)(s:Oq H H1)(he:H1 e=none)(hd:Ot H1 e o d=none):E (-e) none (Ot (Ot (Ot (Ot H1 e o) d (.xd [(f,.int n)])) e i) e (Rl e (-C) ↑d)):=by
 have a:d≠e:=λz=>by rw[z,qb]at hd;cases hd
 have h:H1 d=none:=by rw[qk a]at hd;exact hd
 refine j _ e d (λc u z=>?_) qb ?_
 .have g:=s _ _ z
  rw[qk (qr g he),qk (qr g he),qk (qr g h),qk (qr g he)];exact g
 .rw[qk a,qk a,qb]
def OH.mk(d:OH E H C)(s:Oq H H1)(he:H1 e=none):E (-e) none (Ot (Ot H1 e o) e (Rl e (-C) none)):=by
 refine d _ e (λc u z=>?_) qb
 have a:=s _ _ z;rw[qk (qr a he),qk (qr a he)];exact a
structure Vh(K:ι)(x:Xa)(fI:Δ):Prop where
 f:Ur K x.e x.b fI "place"
 i:∀D∈x.all,SY K (-x.b) (-D)=↑(decide (x.b=D))
 v:SY K (-x.b) (.type "ValueError")=↑true
structure X16(K:ι)(mg:On)(x:Xa)(fI:Δ):Prop extends XGx K mg x where
 o_Known:RH K x x.k
 o_Full:RH K x x.f
 bp:Vh K x fI
 bi:UM K x.e "ValueError.__init__"
def sI(c:Nat):Bool:=decide (97<=c)&&decide (c<=122)
def Gk(z:Str):Bool:=z.cps.toList.all sI
noncomputable def Et(z:Str):Bool:=decide (1<=z.length)&&decide (z.length<=8)&&Gk z
def Us:Et z=true↔Zo z:=by
 unfold Et Gk Zo;rw[Lz,Lz,Mz,Mz,L8];have f:z.length=z.cps.toList.length:=Z
 rw[f];constructor
 .rintro⟨⟨h1,e⟩,a⟩
  refine#[λc d=>?_,h1,e]
  have:=a c d
  unfold sI at this;rw[Lz,Mz,Mz]at this;exact this
 .rintro⟨a,h1,e⟩
  refine#[#[h1,e],λc d=>?_]
  unfold sI;rw[JM (a c d).1,JM (a c d).2];rfl
def mQ{a b:Nat}:([a]:Μ)<[b]↔a<b:=by
 rw[List.cons_lt_cons_iff];constructor
 .rintro(h|⟨_,h⟩)
  .exact h
  .exact absurd h (List.not_lt_nil _)
 .exact .inl
def wm(c:Nat):(! decide ((#[(B0 [c])]:Str).cps.toList<("a":Str).cps.toList))=decide (97<=c)/\(! decide (("z":Str).cps.toList<(#[(B0 [c])]:Str).cps.toList))=decide (c<=122):=by
 have a:("a":Str).cps.toList=[97]:=by decide +kernel
 have d:("z":Str).cps.toList=[122]:=by decide +kernel
 rw[a,d]
 show(! decide ([c]<[97]))=_/\(! decide ([122]<[c]))=_
 constructor
 .by_cases h:97<=c
  .rw[JM h,JT (by rw[mQ];lia)];rfl
  .rw[JT h,JM (by rw[mQ];lia)];rfl
 .by_cases h:c<=122
  .rw[JM h,JT (by rw[mQ];lia)];rfl
  .rw[JT h,JM (by rw[mQ];lia)];rfl
def sC{t:String}(h:kd H x=↑t):Uj H x t:=by
 cases x with
 |non=>cases h;exact .non
 |bl b=>cases h;exact .bl b
 |int i=>cases h;exact .int i
 |str x=>cases h;exact .str x
 |byt b=>cases h
 |flt b=>cases h
 |ty b=>cases h
 |ref a=>
  rcases mz h with⟨xs,e,rfl⟩|⟨xs,e,rfl⟩
  .exact .lst e
  .exact .tup (.inl e)
def IP(H:Hp)(x:V)(b:Bool):Prop:=(∃z,x= .str z/\z.cps.all (· <128)=true/\z.length<=100/\b=Et z)\/(∃t,kd H x=↑t/\Ql t "str"=false/\b=false)
def U9(H:Hp)(x:V)(b:Bool):Prop:=(∃(p:Δ) (ds:Β),x= .ref p/\H p=↑(.tup ds)/\ds.length<=100/\(∀v∈ds,∃t,kd H v=↑t)/\b=(decide (ds.length=5)&&ds.all gP))\/(∃t,kd H x=↑t/\Ql t "tuple"=false/\b=false)
inductive UN (H:Hp)(x:V):Bool->Prop where
 |kd {t:String} (h:kd H x=↑t) (n:Ql t "tuple"=false):UN H x false
 |len {a:Δ} {xs:Β} (e:x= .ref a) (h:H a=↑(.tup xs)) (l:xs.length<=100) (n:xs.length≠3):UN H x false
 |tup {a:Δ} {n y c:V} {bn bc:Bool} {ty:String} (e:x= .ref a) (h:H a=↑(.tup [n,y,c])) (hn:IP H n bn) (hy:L3.kd H y=↑ty) (hc:U9 H c bc):UN H x (bn&&kJ y&&bc)
def U9.same{b:Bool}(s:Oq H H')(h:U9 H x b):U9 H' x b:=h.elim (λ⟨p,ds,e,h1,a,f,c⟩=> .inl ⟨p,ds,e,s _ _ h1,a,(λv d=>let⟨t,ht⟩:=f v d;⟨t,jx s ht⟩),c⟩) (λ⟨t,h1,a⟩=> .inr ⟨t,jx s h1,a⟩)
def Tg(H:Hp)(x:V)(o:Option Ps):Prop:=match o with
 |none=>UN H x false
 |some P=>∃pr,x= .ref pr/\PX H pr P/\RM P
def Tg.b(h:Tg H x o):UN H x o.isSome:=by
 cases o with
 |none=>exact h
 |some P=>
  let#[pr,e,#[a,h1,c],ok]:=h;have t:=UN.tup (bn:=true) (bc:=true) e h1 (.inl #[P.nm,Z,rM ok.nm,by have:=ok.nm.2.2;show P.nm.cps.toList.length<=100;lia,(Us.mpr ok.nm).symm]) (ty:="int") Z (.inl #[a,0,c,by rw[JI,ok.l];decide,(λv d=>by let#[i,_,rfl]:=J7.mp d;exact#[0]),by rw[JI,ok.l,C5 ok.dg];rfl])
  exact t
inductive pD|mk (x:_)(b:_)(h1:vs=[x])(h2:IP H x b)(h3:∀H',Oq H H'->Q (.bl b) H')
inductive pe|mk (x:_)(b:_)(h1:vs=[x])(h2:U9 H x b)(h3:∀H',Oq H H'->Q (.bl b) H')
inductive gs|mk (x:_)(b:_)(h1:vs=[x])(h2:UN H x b)(h3:∀H',Oq H H'->Q (.bl b) H')
section
variable(K:ι)(C:Δ)
inductive oS|mk (p ta hk bd lg:Δ)(n:Nat)(D:Dr)(x:V)(o:Option Ps)(h1:vs=[-p,x])(h2:Ox K C H p ta hk bd lg n D)(h3:RW D)(h4:Tg H x o)(h5:∀y H',Oq H H'->ja H' y (o.bind (i9 D))->Q y H')
end
def Mf.weak{K:ι}{k:Nat}{sp c:Sp}(M:Mf P w K mg base C m ps k sp)(h:∀a H Q E,c a H Q E->sp a H Q E):Mf P w K mg base C m ps k c:=by
 let#[f,fd,F,j,e]:=M.ex
 exact#[f,fd,#[λa H Q E q=>F.len a H Q E (h a H Q E q),λA outer s H d i a Q E g n e l o=>F.run A outer s H d i a Q E g n e l (h _ _ _ _ o)],j,e]
structure P6(B:Bt):Prop where
 c0:0<=B.cnt
 cb:B.cnt<=B.bnd
 bm:B.bnd<=4096
 s1:1<=B.step
 eq:B.x=↑B.bnd\/B.y=↑B.bnd
 hx:∀v,B.x=↑v->0<=v/\v<=B.bnd
 hy:∀v,B.y=↑v->0<=v/\v<=B.bnd
def P6.new{nm:Str}{t ks:Ε}{age step:Int}(h:1<=step):P6 #[nm,t,ks,age,step,(0),(0),↑0,none]:=
 #[MC _,MC _,by show(0:Int)<=4096;decide,h,.inl Z,λv e=>by cases e;exact#[MC _,MC _],λv e=>by cases e]
theorem P6.pr(h:P6 B)(hc:B.cnt<4096):P6 B.pr:=by
 let#[l,j,bm,a,g,f,d]:=h;unfold Bt.pr
 by_cases m:B.mw=true
 .rw[JK m]
  have i:B.cnt=B.bnd:=by
   unfold Bt.mw at m;rw[Lz]at m;exact J5 m.1
  have n1:B.bnd+1<=B.nb:=by unfold Bt.nb;split<;>lia
  have n2:B.nb<=4096:=by unfold Bt.nb;split<;>lia
  unfold Bt.wr
  by_cases e:B.x=↑B.bnd
  .rw[JK e]
   refine#[by show 0<=B.cnt+1;lia,by show B.cnt+1<=B.nb;lia,n2,a,.inr Z,λv q=>?_,λv q=>?_]
   .have:=f v q;show 0<=v/\v<=B.nb;lia
   .have c:↑B.nb=↑v:=q
    cases c;show 0<=B.nb/\B.nb<=B.nb;lia
  .rw[JJ e]
   refine#[by show 0<=B.cnt+1;lia,by show B.cnt+1<=B.nb;lia,n2,a,.inl Z,λv q=>?_,λv q=>?_]
   .have c:↑B.nb=↑v:=q
    cases c;show 0<=B.nb/\B.nb<=B.nb;lia
   .have:=d v q;show 0<=v/\v<=B.nb;lia
 .rw[JJ m]
  have i:B.cnt≠B.bnd:=λz=>m (by unfold Bt.mw;rw[JM z,JT (by lia:¬4096<=B.cnt)];rfl)
  exact#[by show 0<=B.cnt+1;lia,by show B.cnt+1<=B.bnd;lia,bm,a,g,f,d]
def P6.ok{B:Bt}(h:P6 B):B.bnd∈p9 B.x B.y/\0<(p9 B.x B.y).length/\∀a∈p9 B.x B.y,a<=B.bnd:=by
 let#[m,l,bm,j,f,i,g]:=h;have c:B.bnd∈p9 B.x B.y:=by
  unfold p9;rcases f with e|e
  .rw[e];exact Nu _ (JN.mpr Z)
  .rw[e];exact LS _ (JN.mpr Z)
 refine#[c,List.length_pos_of_mem c,λa d=>?_]
 unfold p9 at d;rcases J1.mp d with z|z
 .cases e:B.x with
  |none=>rw[e]at z;cases z
  |some v=>rw[e]at z;rw[JN.mp z];exact(i v e).2
 .cases e:B.y with
  |none=>rw[e]at z;cases z
  |some v=>rw[e]at z;rw[JN.mp z];exact(g v e).2
def ft(v:V):Bool:= ! decide (v= .non)
def wQ(x y:Λ):[oV x,oV y].filter ft=(p9 x y).map V.int:=by
 cases x<;>cases y<;>rfl
def Az{xs:Β}{i:Nat}{x:V}(h:xs[i]? =↑x):(xs.take (i+1)).filter ft=if ft x=true then(xs.take i).filter ft++[x]else(xs.take i).filter ft:=by
 rw[LP,h,KN,List.filter_append]
 by_cases e:ft x=true
 .rw[JK e,List.filter_cons_of_pos e];rfl
 .rw[JJ e,List.filter_cons_of_neg e];simp
open Sem (wp)
def Bt.ou(B:Bt):Bt:={B with cnt:=B.bnd}
theorem P6.ou(h:P6 B):P6 B.ou:=#[by show 0<=B.bnd;have:=h.c0;have:=h.cb;lia,MC _,h.bm,h.s1,h.eq,h.hx,h.hy]
inductive rN(K:ι)(C:Δ)|mk (p ta ka ce:Δ)(B:Bt)(h1:vs=[-p])(h2:Oy K C H p ta ka ce B)(h3:P6 B)(h4:∀H',Mv [p,ce] H H'->Oy K C H' p ta ka ce B.ou->Q .non H')
def yl{a:Η}:∀{its:Ζ},OB (a.map V.ref) its->its=a.map Γ.ref:=by
 induction a with
 |nil=>intro its h;cases h;rfl
 |cons D r ih=>
  intro its h;cases h with
  |cons p q=>cases(show _=Γ.ref D from p);rw[ih q];rfl
theorem rO{K:ι}{C:Δ}:∀{a:Η},(∀D∈a,SR K (-C) (-D)=↑(decide (C=D)))->C∉a->W.kitAny K (-C) (a.map Γ.ref)=↑false
 | [],_,_=>rfl
 |D::r,h,hn=>by
  have e:=h D (J3 ..);rw[JT (λz:C=D=>hn (by rw[z];exact J3 ..))]at e
  simp only[Ls,W.kitAny,e];exact rO (λD c=>h D (F0 _ c)) (λz=>hn (F0 _ z))
noncomputable def Bt.tn(B:Bt):Bt:=if B.mw then(if B.x=↑B.bnd then{B with y:=none}else{B with x:=none}).ou else B.ou
theorem P6.tn(h:P6 B):P6 B.tn:=by
 unfold Bt.tn
 by_cases m:B.mw=true
 .rw[JK m]
  by_cases e:B.x=↑B.bnd
  .rw[JK e]
   exact P6.ou #[h.c0,h.cb,h.bm,h.s1,.inl e,h.hx,λv q=>by cases q]
  .rw[JJ e]
   exact P6.ou #[h.c0,h.cb,h.bm,h.s1,.inr (h.eq.resolve_left e),(λv q=>by cases q),h.hy]
 .rw[JJ m];exact h.ou
def D0(B:Bt):B.tn.nm=B.nm:=by unfold Bt.tn;split<;>(try split)<;>rfl
def Jf(B:Bt):B.tn.t=B.t:=by unfold Bt.tn;split<;>(try split)<;>rfl
def Il(B:Bt):B.tn.ks=B.ks:=by unfold Bt.tn;split<;>(try split)<;>rfl
def sw(B:Bt):B.tn.age=B.age:=by unfold Bt.tn;split<;>(try split)<;>rfl
inductive nh(K:ι)(C:Δ)|mk (p ta ka ce kt:Δ)(B:Bt)(ks:Ε)(h1:vs=[-p,-kt])(h2:Oy K C H p ta ka ce B)(h3:Sq K H kt (ks.map V.int))(h4:B.age<7)(h5:∀ka' H',Mv [p] H H'->Oy K C H' p ta ka' ce {B with ks:=ks,age:=B.age+1}->Q .non H')
def Jw(K:ι)(H:Hp)(b:Δ)(c:List Ε):Prop:=∃d:Η,OC K H b (d.map V.ref)/\d.length=c.length/\∀(i:Nat) (a:Δ) (ks:Ε),d[i]? =↑a->c[i]? =↑ks->OC K H a (ks.map V.int)
inductive Rw where
 |learn (P R:Ps)
 |forget (nm:Str)
 |turn (ks:Ε)
 |close (age:Int)
 |hear (P:Ps)(ans:Β)
abbrev _root_.Τ:=List Rw
def kf:V->Prop
 | .int _=>True
 | .str _=>True
 |_=>False
def RI(H:Hp)(a:Δ):Rw->Prop
 | .learn P R=>∃c p2,Rd H a (.tup [.str "learn",-c,-p2])/\PX H c P/\PX H p2 R/\RM P/\RM R
 | .forget nm=>Rd H a (.tup [.str "forget",.str nm])
 | .turn ks=>∃k,Rd H a (.tup [.str "turn",-k])/\Rd H k (.tup (ks.map V.int))/\ks.length<=8
 | .close age=>Rd H a (.tup [.str "close",.int age])
 | .hear P ans=>∃p q,Rd H a (.tup [.str "hear",-p,-q])/\PX H p P/\RM P/\H q=↑(.tup ans)/\ans.length<=3/\∀v∈ans,kf v
def Pk(H:Hp)(rs:Η)(L:Τ):Prop:=rs.length=L.length/\∀(i:Nat) (a:Δ) (r:Rw),rs[i]? =↑a->L[i]? =↑r->RI H a r
def RJ(H:Hp)(lg:Δ)(L:Τ):Prop:=∃rs:Η,H lg=↑(.lst (rs.map V.ref))/\Pk H rs L
def RN(H:Hp)(t:Δ)(L:Τ):Prop:=∃rs:Η,Rd H t (.tup (rs.map V.ref))/\Pk H rs L
theorem RI.mv(m:Mv S H H')(n:NT S H)(h:RI H a r):RI H' a r:=by
 cases r with
 |learn P R=>let#[g,p2,h1,c,d,e]:=h;exact#[g,p2,m.rd n h1,OY.mv m n c,OY.mv m n d,e]
 |forget nm=>exact m.rd n h
 |turn ks=>let#[k,h1,c,d]:=h;exact#[k,m.rd n h1,m.rd n c,d]
 |close age=>exact m.rd n h
 |hear P ans=>let#[p,q,h1,c,d,e,f]:=h;exact#[p,q,m.rd n h1,OY.mv m n c,d,m.tup n e,f]
theorem Pk.mv(m:Mv S H H')(n:NT S H)(h:Pk H rs L):Pk H' rs L:=#[h.1,λi a r c d=>(h.2 i a r c d).mv m n]
theorem RJ.mv(m:Mv S H H')(n:NT S H)(hl:lg∉S)(h:RJ H lg L):RJ H' lg L:=by
 let#[rs,e,r]:=h
 exact#[rs,m _ _ hl e,r.mv m n]
theorem RN.mv(m:Mv S H H')(n:NT S H)(h:RN H t L):RN H' t L:=by
 let#[rs,e,r]:=h
 exact#[rs,m.rd n e,r.mv m n]
def iu:NT [] H:=λc h=>nomatch h
def Pk.same(s:Oq H H')(h:Pk H rs L):Pk H' rs L:=h.mv (S:=[]) s.mv iu
def RJ.same(s:Oq H H')(h:RJ H lg L):RJ H' lg L:=h.mv (S:=[]) s.mv iu (λz=>nomatch z)
def RN.same(s:Oq H H')(h:RN H t L):RN H' t L:=h.mv (S:=[]) s.mv iu
def Pk.add(h:Pk H rs L)(hr:RI H a r):Pk H (rs++[a]) (L++[r]):=by
 refine#[by simp [h.1],λi b q c d=>?_]
 by_cases hi:i<rs.length
 .rw[L6 hi]at c
  rw[L6 (by rw[<- h.1];exact hi)]at d
  exact h.2 i b q c d
 .rw[LV (by lia)]at c
  rw[LV (by rw[<- h.1];lia),<- h.1]at d
  cases e:i-rs.length with
  |zero=>rw[e]at c d;cases c;cases d;exact hr
  |succ k=>rw[e]at c;cases c
def tV(h:kf v):RB H n v v:=by
 cases v with
 |int i=>exact .int _ _
 |str i=>exact .str _ _
 |_=>exact h.elim
def PX.eqv(h1:PX H p P)(h2:PX H q P)(o:RM P):RB H 2 (-p) (-q):=by
 let#[g,d,c]:=h1;let#[h,e,f]:=h2;refine .tup (.inl d) (.inl e) Z (by show 3<=ζ;decide) λi x y ex a=>?_
 match i,ex,a with
 |0,ex,a=>cases ex;cases a;exact .str _ _
 |1,ex,a=>cases ex;cases a;exact .int _ _
 |2,ex,a=>cases ex;cases a;exact .ints (.inl c) (.inl f) (by rw[o.l];decide)
 |i+3,ex,a=>cases ex
theorem RI.eqv{b:Δ}(h1:RI H a r)(h2:RI H b r):RB H 3 (-a) (-b):=by
 cases r with
 |learn P R=>
  let#[p,p2,d,e,f,g,j]:=h1;let#[l,o,f1,f2,h,_]:=h2;refine .tup d f1 Z (by show 3<=ζ;decide) λi x y ex c=>?_
  match i,ex,c with
  |0,ex,c=>cases ex;cases c;exact .str _ _
  |1,ex,c=>cases ex;cases c;exact PX.eqv e f2 g
  |2,ex,c=>cases ex;cases c;exact PX.eqv f h j
  |i+3,ex,c=>cases ex
 |forget nm=>
  refine .tup (n:=2) h1 h2 Z (by show 2<=ζ;decide) λi x y ex c=>?_
  match i,ex,c with
  |0,ex,c=>cases ex;cases c;exact .str _ _
  |1,ex,c=>cases ex;cases c;exact .str _ _
  |i+2,ex,c=>cases ex
 |turn ks=>
  let#[k1,d,e,f]:=h1;let#[k2,f1,f2,_]:=h2;refine .tup (n:=2) d f1 Z (by show 2<=ζ;decide) λi x y ex c=>?_
  match i,ex,c with
  |0,ex,c=>cases ex;cases c;exact .str _ _
  |1,ex,c=>cases ex;cases c;exact .ints e f2 (by rw[JV];lia)
  |i+2,ex,c=>cases ex
 |close age=>
  refine .tup (n:=2) h1 h2 Z (by show 2<=ζ;decide) λi x y ex c=>?_
  match i,ex,c with
  |0,ex,c=>cases ex;cases c;exact .str _ _
  |1,ex,c=>cases ex;cases c;exact .int _ _
  |i+2,ex,c=>cases ex
 |hear P ans=>
  let#[p,p2,d,e,g,f,q,m]:=h1;let#[l,o,f1,f2,_,h,_]:=h2;refine .tup d f1 Z (by show 3<=ζ;decide) λi x y ex c=>?_
  match i,ex,c with
  |0,ex,c=>cases ex;cases c;exact .str _ _
  |1,ex,c=>cases ex;cases c;exact PX.eqv e f2 g
  |2,ex,c=>
   cases ex;cases c
   refine .tup (n:=1) (.inl f) (.inl h) Z (by rw[JV];lia) λi x y ex c=>?_
   rw[ex]at c;cases c
   exact tV (m _ (JU ex))
  |i+3,ex,c=>cases ex
theorem RN.eqv(h1:RN H t L)(h2:RN H t' L)(hl:L.length<=2000000):RB H 4 (-t) (-t'):=by
 let#[rs,g,d,f]:=h1;let#[h,l,e,j]:=h2;refine .tup g l (by simp [d,e]) (by rw[JI,d,JV];lia) λi x y ex c=>?_
 rw[JW]at ex c;cases q1:rs[i]? with
 |none=>rw[q1]at ex;cases ex
 |some a=>
  cases q2:h[i]? with
  |none=>rw[q2]at c;cases c
  |some b=>
   rw[q1]at ex;rw[q2]at c;cases ex;cases c
   have hi:i<L.length:=by rw[<- d];exact(JZ.mp q1).1
   exact(f i a _ q1 (JQ hi)).eqv (j i b _ q2 (JQ hi))
def _root_.L2.OC.up{K:ι}(h:OC [] H a xs):OC K H a xs:=h.elim .inl λ⟨_,_,_,z,_⟩=>nomatch z
def _root_.L2.OC.rd(h:OC [] H a xs):Rd H a (.tup xs):=h.elim id λ⟨_,_,_,z,_⟩=>nomatch z
theorem OP.up{K:ι}(h:OP [] H a c):OP K H a c:=by
 let#[g,e,l,r]:=h
 exact#[g,e,l,λi a ks d f=>(r i a ks d f).up]
inductive nT(K:ι)(C:Δ)|mk (p a b dx:Δ)(near far most:Int)(t:Ε)(kss:List Ε)(h1:vs=[-p,-a,-b,.int near,.int far,.int most])(h2:H p=↑(.ins C dx []))(h3:Sq K H a (t.map V.int))(h4:OP [] H b kss)(h5:kss.length<=8)(h6:∀ta hk bd lg H',H hk=none->H bd=none->H lg=none->Mv [p] H H'->Ox K C H' p ta hk bd lg 0 ⟨t,kss,near,far,most,0,[]⟩->OP [] H' hk kss->Q .non H')
inductive sF(K:ι)(C:Δ)|mk (p a b dx:Δ)(near far most:Int)(t:Ε)(kss:List Ε)(h1:vs=[-p,-a,-b,.int near,.int far,.int most])(h2:H p=↑(.ins C dx []))(h3:Sq K H a (t.map V.int))(h4:Jw [] H b kss)(h5:kss.length<=8)(h6:∀ta hk bd lg H',H hk=none->H bd=none->H lg=none->Mv [p] H H'->Ox K C H' p ta hk bd lg 0 ⟨t,kss,near,far,most,0,[]⟩->OP [] H' hk kss->Q .non H')
structure Da where
 p:Δ
 ta:Δ
 hk:Δ
 bd:Δ
 lg:Δ
structure OO(K:ι)(C:Δ)(H:Hp)(a:Da)(D:Dr)(L:Τ):Prop where
 dr:Ox K C H a.p a.ta a.hk a.bd a.lg L.length D
 lo:RJ H a.lg L
 kr:OP [] H a.hk D.kss
section
variable{K:ι}
theorem OO.mv(b:OO K C H a D L)(m:Mv S H H')(nt:NT S H)(hp:a.p∉S)(c:a.hk∉S)(hb:a.bd∉S)(hl:a.lg∉S):OO K C H' a D L:=#[b.dr.mv m nt hp c hb hl,b.lo.mv m nt hl,OP.mv m nt c b.kr]
theorem OO.same(b:OO K C H a D L)(s:Oq H H'):OO K C H' a D L:=#[b.dr.same s,b.lo.same s,OP.same s b.kr]
def OO.push(b:Ox K C H a.p a.ta a.hk a.bd a.lg L.length D)(d:H a.lg=↑(.lst (rs.map V.ref)))(c:Pk H rs L)(f:OP [] H a.hk D.kss)(hr:RI H r rw):OO K C (Ot H a.lg (.lst (rs.map V.ref++[-r]))) a D (L++[rw]):=by
 have nt:NT [a.lg] H:=NT.one d trivial
 have e:=b.putL (r:=r) d (Nw c.1)
 rw[show L.length+1=(L++[rw]).length by simp]at e
 exact#[e,#[rs++[r],by rw[qb,La];rfl,(c.add hr).mv Mv.upd1 nt],OP.mv Mv.upd1 nt (zr b.ne.symm) f]
def wK{a:List (qO×V)}(e:H bd=↑(.dK a))(b:Ox K C H p ta hk bd lg n D):hk≠bd:=by
 let#[d,c,_]:=b.ks;exact zn c e (by intro z;cases z)
def HQ{a:List (Str×V)}(e:H p=↑(.ins C dx a))(b:Ox K C H p ta hk bd lg n D):hk≠p:=by
 let#[d,c,_]:=b.ks;exact zn c e (by intro z;cases z)
def Ox.dl(b:Ox K C H p ta hk bd lg 0 D)(c:OP [] H hk D.kss):OO K C H #[p,ta,hk,bd,lg] D []:=by
 let#[rs,e,l]:=id b.lo
 obtain rfl:rs=[]:=List.length_eq_zero_iff.mp (Nat.le_zero.mp l)
 exact#[b,#[[],e,Z,λi a r h=>by cases h],c]
end
inductive Dd where
 |learn (o1 o2:Option Ps)
 |forget (nm:Str)
 |turn (ks:Ε)
 |close (age:Int)
 |hear (o:Option Ps)
noncomputable def zd(D:Dr)(P:Ps):Β×Kw:=QF D P.nm P.age (aF D.t (aW D P.age) P.nm P.ds)
noncomputable def HF(D:Dr):Dd->Option (Dr×Rw)
 | .learn ↑P ↑R=>if(An D P R).1="" then ↑({D with kn:=(An D P R).2.2},.learn P R)else none
 | .learn _ _=>none
 | .forget nm=>if D.kn.lookup nm=none then none else ↑({D with kn:=D.kn.filter λp=>decide (p.1≠nm)},.forget nm)
 | .turn ks=>if D.kss.length<8 then ↑({D with kss:=D.kss++[ks]},.turn ks)else none
 | .close age=>↑({D with least:=if age>D.least then age else D.least},.close age)
 | .hear ↑P=>↑({D with kn:=(zd D P).2},.hear P (zd D P).1)
 | .hear none=>none
section
variable(K:ι)(C:Δ)(x:Xa)
inductive nS|mk (a:Da)(D:Dr)(L:Τ)(x:V)(o:Option Ps)(h1:vs=[-a.p,x])(h2:OO K C H a D L)(h3:L.length<=1000000)(h4:RW D)(h5:Tg H x o)(h6:(o=none->∀q H',Oq H H'->H' q=↑(.tup [.str "held",.str "bad"])->Q (-q) H'))(h7:∀P,o=↑P->∀pr q H',x= .ref pr->Mv [a.bd,a.lg] H H'->PX H' pr P->H' q=↑(.tup (zd D P).1)->OO K C H' a {D with kn:=(zd D P).2} (L++[.hear P (zd D P).1])->Q (-q) H')
def RU(H:Hp)(k:Δ)(ks:Ε):Prop:=H k=↑(.lst (ks.map V.int))\/Rd H k (.tup (ks.map V.int))
inductive c7|mk (a:Da)(D:Dr)(L:Τ)(age:Int)(h1:vs=[-a.p,.int age])(h2:OO K C H a D L)(h3:L.length<=1000000)(h4:∀D' r,HF D (.close age)=↑(D',r)->∀H',Mv [a.p,a.lg] H H'->OO K C H' a D' (L++[r])->Q .non H')
inductive AK|mk (a:Da)(D:Dr)(L:Τ)(h1:vs=[-a.p])(h2:OO K C H a D L)(h3:∀t H',Oq H H'->RN H' t L->Q (-t) H')
inductive vG|mk (a:Da)(D:Dr)(L:Τ)(h1:vs=[-a.p])(h2:OO K C H a D L)(h3:D.kss.length<=8)(h4:∀a' H',Oq H H'->H a'.p=none->H a'.hk=none->H a'.bd=none->H a'.lg=none->OO K C H' a' D L->Q (-a'.p) H')
end
def Zf:zY X (.type "tuple") (λxs H Q=>∃a ks,xs=[-a]/\RU H a ks/\∀t c,Oq H c->Rd c t (.tup (ks.map V.int))->Q (-t) c):=by
 intro tx s σ H xs f Q I r h;let#[a,ks,e,h,q]:=h;refine za tx s σ H xs f Q I r #[a,ks.map V.int,e,?_]
 rcases h with h|h
 .exact .inl #[OA.of h,λt d=>q t _ (Oq.upd d) (.inl qb)]
 .exact .inr #[.inl h,q a _ (Oq.refl _) h]
def du(D:Dr)(nm:Str)(age:Int)(r:Option (Int×Int)):(QF D nm age r).1.length<=3/\∀v∈(QF D nm age r).1,kf v:=by
 have two:∀a b:Str,([V.str a,.str b]:Β).length<=3/\∀v∈([V.str a,.str b]:Β),kf v:=λa b=>#[by show 2<=3;decide,λv d=>by simp at d;rcases d with rfl|rfl<;>trivial]
 have c:∀(a b:Str) (i:Int),([V.str a,.str b,.int i]:Β).length<=3/\∀v∈([V.str a,.str b,.int i]:Β),kf v:=λa b i=>#[by show 3<=3;decide,λv d=>by simp at d;rcases d with rfl|rfl|rfl<;>trivial]
 unfold QF;split
 .exact two _ _
 .split
  .split
   .exact two _ _
   .split
    .exact c _ _ _
    .exact two _ _
  .exact two _ _
def Ay(D:Dr)(P:Ps):(zd D P).1.length<=3:=(du ..).1
def BV(D:Dr)(P:Ps):∀v∈(zd D P).1,kf v:=(du ..).2
def jG{t u:TS}{D:OU}(G:L2.St->Hp->Prop)(h:∀D':OU,D'.rt=D.rt->(∀a H',G a H'->D'.nx a H')->t D' σ H)(c:∀a H',G a H'->u D a H'):fX t u D σ H:=h {D with nx:=u D} rfl c
section
variable{K:ι}
def dS(a:Da):Η:=[a.p,a.hk,a.bd,a.lg]
def OO.nt(d:OO K C H a D L):NT (dS a) H:=λc e=>by
 let#[dx,f]:=id d.dr.ob;let#[j,h,_]:=id d.dr.kb;let#[l,g,_]:=id d.dr.ks;let#[rs,i,_]:=id d.lo;simp only[dS,JO,JX,JY]at e;rcases e with rfl|rfl|rfl|rfl
 .exact#[_,f,trivial]
 .exact#[_,g,trivial]
 .exact#[_,h,trivial]
 .exact#[_,i,trivial]
end
def BL{v:V}{σ:L2.St}{t u:TS}{D:OU}{rt:VK}{bk ct:L2.St->Hp->Prop}(G:L2.St->Hp->Prop)(h:∀D':OU,D'.rt=D.rt->(∀a H',G a H'->D'.nx a H')->t D' (σ.set i ↑v) H)(c:∀a H',G a H'->u D a H'):aR i v σ H (OU.nx {nx:=fX t u D,rt:=rt,bk:=bk,ct:=ct}):=h {D with nx:=u D} rfl c
def AU{t u:TS}{D:OU}{rt:VK}{bk ct:L2.St->Hp->Prop}(G:L2.St->Hp->Prop)(h:∀D':OU,D'.rt=D.rt->(∀a H',G a H'->D'.nx a H')->t D' σ H)(c:∀a H',G a H'->u D a H'):OU.nx {nx:=fX t u D,rt:=rt,bk:=bk,ct:=ct} σ H:=h {D with nx:=u D} rfl c
def cj{a:Da}(m:Mv [a.bd,a.lg] H H'):Mv (dS a) H H':=m.mono λc h z=>h (by simp only[dS,JO,JX,JY]at z⊢;rcases z with z|z<;>simp [z])
def Eu{a:Da}(m:Mv [a.hk,a.lg] H H'):Mv (dS a) H H':=m.mono λc h z=>h (by simp only[dS,JO,JX,JY]at z⊢;rcases z with z|z<;>simp [z])
def GB{a:Da}(m:Mv [a.p,a.lg] H H'):Mv (dS a) H H':=m.mono λc h z=>h (by simp only[dS,JO,JX,JY]at z⊢;rcases z with z|z<;>simp [z])
def zj{K:ι}:
  cO (aE P w) (QD (aE P w) P w K mg base N Vm c f Q A outer d H0 E) E:=by
 intro tx σ H s e s' I h;let#[a,cls,dd,T,H',rfl,os,l,un,n,ha,O,F,D,#[oe,vs,oT,ts,a0,he,hc,W,p,h0,h1,a2,b1,Y,h3],q]:=h;let#[X,hX]:∃X,X=QD (aE P w) P w K mg base N Vm c f Q A outer d H0 E:=#[0]
 have I2:L2.Ov (QD (aE P w) P w K mg base N Vm c f Q A outer d H0 E) tx σ H' s':=I.call' os un n l (λb z=>absurd z (by simp))
 let#[fl,a4]:∃fl,fl=d.heap.objs.size::Qz outer:=#[0]
 have fe:Qz ((QD (aE P w) P w K mg base N Vm c f Q A outer d H0 E).stack)=fl:=a4.symm
 let#[C,g]:∃C,C=aU s'.heap (a::T::fl):=#[0]
 have kb:C.StaysIn s'.heap:=λb o q=>by rw[g]at q;exact(gV q).2
 have ff:=aZ (B':=C) I2.stack (λb S=>by rw[g];exact QV (F0 _ (F0 _ (by rw[<- fe];exact S))))
 have td:UE s'.heap C a cls dd .none:=#[oe,vs,T,oT,ts,a0,he,hc,W,p,h0,h1,by rw[g];exact QV (F0 _ (J3 ..)),a2,b1,Y,h3]
 show ε _ _ (leaving _ (-a)) _ _ s'
 unfold leaving;refine JH (ye (L:=d.heap.objs.size) I.ok.frames ff Z td kb (by rw[g];exact QV (J3 ..)) λh4 k1 k2 k3 a5=>?_)
 refine jv k1 k2 k3 λh5 j1 j2 j3 b3=>?_
 have up:=a5.trans b3;let#[o5,b0,i,a1,G,U,e5,c5,B,d5,x0,x1,x,r,M,t,x3]:=id j3.ex;have R:L2.Ov (QD (aE P w) P w K mg base N Vm c f Q A outer d H0 E) tx σ H' {s' with heap:=h5,toks:=s'.toks}:=kO I os l un n ha O F D (by rw[fe,<- g];exact j1) up e5 c5 d5 B
 have v:∀b o,d.heap.get? b=↑o->∃o',s.heap.get? b=↑o':=λb o S=>I.base.there b o S (λz=>nomatch z)
 have b2:d.heap.get? a=none:=by
  cases z:d.heap.get? a with
  |none=>rfl
  |some o=>let#[o',j]:=v a o z;rw[O]at j;cases j
 have a3:d.heap.get? T=none:=by
  cases z:d.heap.get? T with
  |none=>rfl
  |some o=>let#[o',j]:=v T o z;rw[F]at j;cases j
 have key:i=T\/s'.heap.get? i=none:=by
  by_cases z:i=T
  .exact .inl z
  .refine .inr ?_
   cases y:s'.heap.get? i with
   |none=>rfl
   |some o=>
    by_cases m:i∈fl
    .let#[_,o',z',nf]:=I2.stack.mem (show i∈Qz _ by rw[fe];exact m)
     rw[y]at z';cases z'
     let#[sl,q1]:=up i o y nf;rw[M]at q1;cases q1
     exact absurd t (nf G)
    .rw[g,aA (λm'=>by
      rcases JO.mp m' with m'|m'
      .exact r m'
      .rcases JO.mp m' with m'|m'
       .exact z m'
       .exact m m'),y]at x
     cases x
 have u:d.heap.get? i=none:=by
  rcases key with rfl|z
  .exact a3
  .cases y:d.heap.get? i with
   |none=>rfl
   |some o=>let#[o',j]:=I2.base.there i o y (λz=>nomatch z);rw[z]at j;cases j
 have J:H' i=none:=by
  rcases key with rfl|z
  .exact D
  .exact PN.none n z
 exact#[a,cls,dd,i,H',Z,R.os,R.bare,R.base,R.hok,ha,b2,u,J,#[o5,b0,a1,G,U,e5,c5,B,d5,x0,x1,r,M,t,x3],q]
def GS(C:Δ)(m:Str)(sp:Sp)(E:XK)(ta:TE)(t:TA):TE:=λσ H Q=>ta σ H λx H1=>∃a,x= .ref a/\Ad C H1 a m/\t σ H1 λc d=>sp (x::(c++[])) d Q E
section
variable{k:Nat}{sp:Sp}
def zx{pl:Sem Bool}(M:My X.prog X.w X.K X.mg X.base C m ps k sp)(hx:cO (aE X.prog X.w) X E)(c:RT X.K C)(hr:OL k X.A)(he:QE X o ta)(ha:QA X (e::es) t)
  (hst:hG X e es:=by rfl)(hpl:hI X es pos:=by rfl)
  (v:eval (.Call (.Attribute o m apos) (e::es) [] pos) X.env=(do
   let g <- eval o X.env
   standAt apos.atName
   let(f,first) <- holding [g] (getMethod g m pl)
   TF pos f first (backTo pos (θ (e::es) X.env)) (backToKw pos (keywordEach [] X.env))):=by rfl):
  QE X (.Call (.Attribute o m apos) (e::es) [] pos) (GS C m sp E ta t):=#[by
 let#[f,fd,F,j,y]:=M.ex;intro tx s σ H Q I h;refine NK (pl:=pl) (qG (he.h tx s σ H _ I h) λu p A=>?_) v
 let#[x,H1,d,n,a,ex,#[dx,fs,w,l],q]:=A;subst ex
 obtain rfl:u=Γ.ref a:=n
 refine gW d w c j l ?_
 refine M3 (first:=[-a]) (h₀:=X.base) I.ok.mod.kin j.kp (qG (ha.h pos tx p σ H1 _ d q) λus B ⟨vs,D,i,r,z⟩=>#[i.kIn,?_]) hst hpl
 exact lU (us:= .ref a::us) (vs:= .ref a::vs) F hr y .nil hx i (.cons Z r) z]
end
structure Dy(P:Ξ)(w:Ω)(K:ι)(mg:On)(base:Ψ)(x:Str)(ps:Α)(k:Nat)(sp:Sp):Prop where
 ex:∃(f:Δ) (fd:FuncData),P5 P w K mg base (aE P w) k f fd ps sp/\mg x=↑(-f)/\SX K (-f)=true/\Pn K fd ps []
def At.dy{P:Ξ}{w:Ω}{K:ι}{mg:On}{base:Ψ}{x:Str}{st:δ}{ps N:Α}{k:Nat}{sp:Sp}(a:At K mg x st ps)(S:Os N ps (ql st))
  (c:∀(f:Δ) (cdv:Γ) (A:SO) (outer:Ρ) (s:Θ) (H:Hp) (vs:Β) (Q:VK) (E:XK),OL k (A.deeper (envOfC x (ql st) s.heap.objs.size f cdv))->sp vs H Q E->
   ∃t,R9 (QD (aE P w) P w K mg base N x (ql st) f cdv A outer s H E) (Qk st) t/\t {nx:=λ_ H'=>Q .non H',rt:=Q} (Zm N vs) H)(g:∀vs H Q E,sp vs H Q E->vs.length=ps.length:=by intro vs H Q E h;first|(cases h;subst_vars;rfl)|((repeat first|let#[rfl,h]:=h|let#[_,h]:=h);all_goals rfl)):Dy P w K mg base x ps (k+1) sp:=by
 let#[f,fd,F,m,l,bd]:=a.ex;refine#[f,fd,?_,m,l,bd]
 let#[oc,od,kV,doc,pm,an,cdv,ct,osl,rfl,j,d]:=F.ex;refine wg j d S g λA outer s H vs Q E i e=>?_
 let#[t,h,q]:=c f cdv A outer s H vs Q E i e
 exact#[t,h.h,q]
def Jq(i:Nat)(sp:Sp)(t:TA):TX:=λD d σ H=>t σ H λc a=>sp (c++[]) a (λv H3=>D.nx (σ.set i ↑v) H3) (λv _ H'=>∃b,v= .ref b/\d σ b H')
def HK{X:Cx}{x:Str}{k i:Nat}{sp:Sp}{e:Φ}{es:Ι}{pos a:Pos}(M:Dy X.prog X.w X.K X.mg X.base y ps k sp)(hr:OL k X.A)(hN:X.N.Nodup)(hi:X.N[i]? =↑x)(hx:lD X.env.scope x)(ha:QA X.nox (e::es) t)(hg:Gl X y:=by rfl)(hdb:hH y:=by decide)
  (hst:hG X e es:=by rfl)(hpl:hI X es pos:=by rfl)
  (hs:swapsWith (.Call (.Name y p) (e::es) [] pos) ↑(.Name x pos') a.line X.env=pure false:=by rfl)(hf:hO X x:=by first|exact .inl Z|exact .inr Z|assumption):
  QY X [.Assign [.Name x pos'] (.Call (.Name y p) (e::es) [] pos) a] (Jq i sp t):=#[by
 let#[f,fd,F,A,L,w]:=M.ex;intro tx s σ H D N R I h C;refine wpAny_execs_cons (qG (Q:=SP X tx D) (wpAny_Assign_Name (Q:=SP X tx D) (qG (Q:=EP X tx σ λv H3=>D.nx (σ.set i ↑v) H3) ?_ λv B ⟨y,H1,E,J,G⟩=>bv E hN hi hx J (λj c=>#[_,H1,c,G]) hf) hs) λf B q=>?_)
 .refine M0 (ay I hg A ?_ hdb)
  refine M3 (h₀:=X.base) I.ok.mod.kin L (Lg (ha.h pos tx s σ H _ (I.wish _) h) (λg j ⟨l,o,I2',r,n⟩=>#[I2'.unwish.kIn,?_]) λ_ _ z=>z.elim) hst hpl
  have c:=I2'.unwish;have m:OB (l++[]) (g++[]):=by rw[MZ,MZ];exact r
  have K:(g++[]).length=ps.length:=by rw[<- m.length];exact F.len _ _ _ _ n
  refine MI (Mu (F.run X.A X.stack j o #[g,[]] (g++[]) (l++[]) _ _ hr c.env0 (w j _ c.kIn K) m n) λr s' d=>?_)
  cases r with
  |error e=>exact C σ e s' #[o,j,c,d]
  |ok fl=>
   cases fl with
   |ret u=>exact c.after d
   |next=>exact False.elim d
   |brk=>exact False.elim d
   |cont=>exact False.elim d
 .cases f with
  |next=>exact MG q
  |ret v=>exact q
  |brk=>exact q
  |cont=>exact q]
def fj{P:Ξ}{w:Ω}{K:ι}:
  PassesOwn (model P w) (QD (aE P w) P w K mg base N Vm a f d A outer c H0 E).A (QD (aE P w) P w K mg base N Vm a f d A outer c H0 E).env (QD (aE P w) P w K mg base N Vm a f d A outer c H0 E).xe:=PassesOwn.leaving
def iw(p d:Δ):HO:= .ext λh=>h.IsValuesView p d
inductive TU (x:V)(vs:Β)(H:Hp)(Q:VK):Prop
 |mk (d:_)(kvs:_)(h1:x= .ref d)(h2:vs=[])(h3:H d=↑(.dK kvs))(h4:∀p,H p=none->Q (-p) (Ot H p (iw p d)))
def vR:V->Β->Hp->VK->Prop:=λx a H Q=>TU x a H Q
def Ae:i8 X "dict.values" vR:=by
 intro tx s σ H x i v t Q I l m h;let#[d,kvs,rfl,rfl,p,q]:=h;cases l;cases m;let#[z,lo,i,j,g]:=cE I.hok p;refine PySem.call_meetsIn PySem.F.slot_dict_values g.typeIs PySem.F.entry_dict_values (PySem.F.args_dict_values_1 _) (meets_dict_values (zf X.prog X.w) d lo) #[#[i,g],?_]
 have e:(s.heap.push {cls:= .type "dict_values",data:= .fields (B0 [-d])}).get? s.heap.objs.size=some {cls:= .type "dict_values",data:= .fields (B0 [-d])}:=J2 _ Z
 have n:=I.laid (a:=s.heap.objs.size) (o:=iw s.heap.objs.size d) (t':=s.toks) (h':=s.heap.push {cls:= .type "dict_values",data:= .fields (B0 [-d])}) (λb u e=>JR _ e) (JL _) #[#[_,e,9],#[_,e],λh1 r ⟨o,e,c,f⟩ k=>#[o,k o e,c,f]]
 exact#[.ref _,_,n,Z,q _ (I.hok.fresh (JL _))]
noncomputable def pG(d:Δ)(o:Obj)(kvs:List (qO×V)):It:=
 #[λi H=>H d=↑(.frz o (.dK kvs))/\i<kvs.length,λi H x H'=>H'=H/\∃a,kvs[i]? =↑a/\x=a.2,λi H=>H d=↑(.frz o (.dK kvs))/\kvs.length<=i]
theorem sH:∀{kvs:List (qO×V)} {vs:List (qO×Γ)},KV kvs vs->∀(i:Nat) a b,kvs[i]? =↑a->vs[i]? =↑b->Oz a.2 b.2
 |_,_,.nil,i,a,b,h,_=>by cases h
 |_,_,.cons r t,0,a,b,h1,h2=>by cases h1;cases h2;exact r.2
 |_,_,.cons r t,i+1,a,b,h1,h2=>sH t i a b h1 h2
def uG{K:ι}(d it:Δ){o:Obj}(D:∀h:Ψ,h.get? d=↑o->h.DictAt (zf P w) d vs ep)(f:KV kvs vs):
  Rq P w K tg (pG d o kvs) [it] it (λi h=>h.IsValIter it d i vs.length ep) where
 mem:=by simp
 obj:=λi h st b a=>by
  have e:b=it:=by simpa using a
  subst e;let#[o,e,c,d]:=st
  exact#[o,e,λv z=>by rw[d]at z;cases z]
 keep:=λi h h' st k=>let⟨o,e,r⟩:=st;#[o,k it (by simp) o e,r]
 item:=by
  intro X p q u G i tx s σ H E I l st n;subst p q u;let#[B,hi]:=n;have g:=(I.hok d _ B).1;have t:i<vs.length:=by rw[<- f.length];exact hi
  have F:vs[i]? =↑(vs[i].1,vs[i].2):=JQ t
  have hk:kvs[i]? =some kvs[i]:=JQ hi
  have y:Oz kvs[i].2 vs[i].2:=sH f i _ _ hk F
  let#[x,f1,f2,A,C,m]:=l it (by simp)
  refine wpAny_pyNext_values_item st (D _ g) F λh' j J=>?_
  have L:L2.Ov X tx σ H {s with heap:=h'}:=I.turned (t':=s.toks) (λb o a e=>(J.2 b a).trans e) x f1 A C m
  exact#[0,letGo_valiter (s':={s with heap:=h'}) j #[kvs[i].2,H,L,y,#[25,hk,Z],j,λb a=>(l b a).1]]
 done:=by
  intro X p q u G i tx s σ H E I l st n;subst p q u;let#[B,hi]:=n;have g:=(I.hok d _ B).1;let#[x,f1,f2,A,C,m]:=l it (by simp)
  have N:=f.length;exact wpAny_pyNext_values_end (I.ok.hd G) st (D _ g) (Ng (by lia)) λh' M=>#[Z,I.turned (t':=s.toks) (λb o a e=>M b o a e) x f1 A C m]
 self:=λ_ _ _ _ _ st h=>wpAny_pyIter_valiter st h
def Iq(tl:TE):TI:=λσ H R=>tl σ H λx H1=>∃p d kvs,x= .ref p/\H1 p=↑(iw p d)/\H1 d=↑(.dK kvs)/\∀o,R (pG d o kvs) (Ot H1 d (.frz o (.dK kvs)))
def nB(hl:QE X l tl):QI X tg l (Iq tl):=#[by
 intro tx s σ H R I h;refine qG (hl.h tx s σ H _ I h) λv a F=>?_
 let#[x,H1,j,J,G]:=F;let#[p,d,kvs,e,E,C,q]:=G;subst e;cases J;have m:a.heap.IsValuesView p d:=(j.hok p _ E).1
 let#[z,lo,B,f,o,es,r,g,y,w,t,n,A]:=cE j.hok C;have c:∀h:Ψ,h.get? d=↑o->h.DictAt (zf X.prog X.w) d B r:=λh e=>#[o,es,e,y,w,t,n,A]
 refine wpAny_pyIter_values m (c _ g) ?_
 have i:=j.write (x:=d) (e:=d) (o:= .frz o (.dK kvs)) (h':=a.heap) (t':=a.toks) (by rw[C];exact SM) (.inl Z) (λb u _ e=>e) #[o,g] #[g,z,lo,B,f,o,es,r,g,y,w,t,n,A]
 refine#[a.heap.objs.size,[a.heap.objs.size],19,i.kept (t':=a.toks) λb o e=>JR _ e,uG d _ c f,#[_,J2 _ Z,9],λb D=>?_,q o]
 have e:b=a.heap.objs.size:=by simpa using D
 subst e;exact i.fpOk (JL _) (i.hok.fresh (JL _))]
def CG(td:TE):TE:=λσ H Q=>td σ H λx H1=>vR x [] H1 Q
def gJ{apos cpos:Pos}(ho:QE X o td)(a:attributeBase o "values" X.env (eval o X.env)=eval o X.env:=by rfl)(c:(apos.endLine==cpos.line)=true:=by rfl):QE X (.Call (.Attribute o "values" apos) [] [] cpos) (CG td):=#[by
 intro tx s σ H Q I h;refine NX a c (qG (ho.h tx s σ H _ I h) λv g n=>?_)
 let#[x,H1,e,i,f]:=n;let#[d,kvs,ex,p,m,q]:=id f;subst ex
 obtain rfl:v=Γ.ref d:=i
 let#[j,l,_]:=mD e (.inl #[kvs,.inl m])
 exact#["dict","dict.values",NL,PySem.F.slot_dict_values,PySem.F.type_dict_values,j,l,MM Z (NY (Ae tx g σ H1 (-d) [] (-d) [] Q e Z .nil f))]]
def C0{g:TG}{tb:TS}{D:OU}{σ:L2.St}{H:Hp}(Pv:Nat->L2.St->Hp->Prop)(l:Pv 0 σ H)(hl:∀i σ H,Pv i σ H->H d=↑(.frz o (.dK kvs)))
  (hs:∀i h σ H,kvs[i]? =↑h->Pv i σ H->g h.2 σ H λa j=>tb {D with nx:=Pv (i+1),ct:=Pv (i+1),bk:=D.nx} a j)(hd:∀σ H,Pv kvs.length σ H->D.nx σ H):
  ∃W:Nat->Nat->L2.St->Hp->Prop,(∃m,W 0 m σ H)/\∀i m σ H,W i m σ H->
   ((pG d o kvs).stop i H/\D.nx σ H)\/((pG d o kvs).go i H/\∃N:L2.St->Hp->Prop,(∀f H',N f H'->∃m',m'<m/\W (i+1) m' f H')/\∀x H',(pG d o kvs).yld i H x H'->g x σ H' λa j=>tb {D with nx:=N,ct:=N,bk:=D.nx} a j):=by
 exists λi m σ H=>m=kvs.length-i/\i<=kvs.length/\Pv i σ H,#[kvs.length,by simp,Li _,l]
 rintro i m σ H ⟨rfl,hi,p⟩
 by_cases c:i<kvs.length
 .refine .inr #[#[hl i σ H p,c],Pv (i+1),λf H' n=>#[kvs.length-(i+1),gN c,Z,c,n],?_]
  rintro x H' ⟨rfl,h,e,rfl⟩
  exact hs i h σ H' e p
 .have:i=kvs.length:=by lia
  subst this;exact .inl #[#[hl _ σ H p,JL _],hd σ H p]
def IF(a:Hp)(t:TS):TS:=λD σ H=>t {nx:=λc H'=>∃d o kvs,H' d=↑(.frz o (.dK kvs))/\(∀o u,a d≠↑(.frz o u))/\D.nx c (Ot H' d (.dK kvs)),rt:=D.rt,bk:=D.bk,ct:=D.ct} σ H
def fB{X:Cx}{st:δ}{t:TS}(h:QS X st t):QS X st (IF X.H₀ t):=#[by
 intro tx s σ H D I w;refine qG (h.h tx s σ H _ I w) λf i q=>?_
 cases f with
 |next=>let#[a,H',e,d,o,kvs,g,c,q]:=q;exact#[a,_,Ov.thaw e g c,q]
 |ret v=>exact q
 |brk=>exact q
 |cont=>exact q]
section
variable{K:ι}
def CS{b:Δ}{ns:Ε}{n:Nat}(h1:OC K H a (ns.map V.int))(h2:OC K H b (ns.map V.int)):Uk K H (n+1) (-a) (-b):=by
 refine .tup h1 h2 Z λi x y c d=>?_
 rw[c]at d;cases d
 rw[JW]at c;cases h:ns[i]? with
 |none=>rw[h]at c;cases c
 |some v=>rw[h]at c;cases c;exact .int _ _
def BU{a b:Δ}{f bs:Η}{c:List Ε}(h1:OC K H a (f.map V.ref))(g:f.length=c.length)(k1:∀(i:Nat) (a:Δ) (ks:Ε),f[i]? =↑a->c[i]? =↑ks->OC K H a (ks.map V.int))(h2:OC K H b (bs.map V.ref))(h:bs.length=c.length)(k2:∀(i:Nat) (a:Δ) (ks:Ε),bs[i]? =↑a->c[i]? =↑ks->OC K H a (ks.map V.int)):Uk K H 2 (-a) (-b):=by
 refine .tup h1 h2 (by simp [g,h]) λi x y d e=>?_
 rw[JW]at d e;cases q1:f[i]? with
 |none=>rw[q1]at d;cases d
 |some a=>
  cases q2:bs[i]? with
  |none=>rw[q2]at e;cases e
  |some b=>
   rw[q1]at d;rw[q2]at e;cases d;cases e
   have hi:i<c.length:=by rw[<- g];exact(JZ.mp q1).1
   exact CS (k1 i a _ q1 (JQ hi)) (k2 i b _ q2 (JQ hi))
end
def gT(a:Da):a.p∈dS a:=by simp [dS]
def gL(a:Da):a.hk∈dS a:=by simp [dS]
def gw(a:Da):a.bd∈dS a:=by simp [dS]
def cq(a:Da):a.lg∈dS a:=by simp [dS]
theorem RU.same(s:Oq H H')(h:RU H a ks):RU H' a ks:=h.elim (λz=> .inl (s _ _ z)) λz=> .inr (Rd.same s z)
def vF{H:Hp}{a:Β}{n:Nat}(d:H q=↑(.tup a))(e:H y=↑(.tup a))(hl:a.length<=3)(h:∀v∈a,kf v):RB H (n+1) (-q) (-y):=by
 refine .tup (.inl d) (.inl e) Z (by rw[JV];omega) λi x z h1 c=>?_
 rw[h1]at c;cases c
 exact tV (h _ (JU h1))
section
variable(K:ι)(C:Δ)
inductive jk|mk (a:Da)(D:Dr)(L:Τ)(p1 p2:Δ)(P R:Ps)(c d d':Int)(h1:vs=[-a.p,-p1,-p2])(h2:OO K C H a D L)(h3:L.length<=1000000)(h4:RW D)(h5:PX H p1 P)(h6:PX H p2 R)(h7:RM P)(h8:RM R)(h9:i9 D P=↑(c,d))(h10:i9 D R=↑(c+1,d'))(h11:R.nm=P.nm)(h12:R.age=P.age)(h13:D.kn.lookup R.nm=none)(h14:(D.kn.length:Int)<D.most)(h15:∀H',Mv [a.bd,a.lg] H H'->OO K C H' a {D with kn:=QL D.kn R.nm ⟨R.age,c+1,none⟩} (L++[.learn P R])->Q .non H')
end
def Fd{xs:Β}{x:V}:Q3 (xs++[x]) (-1)=↑x/\bS (xs++[x]).length (-1)=↑xs.length:=by
 have e:bS (xs++[x]).length (-1)=↑xs.length:=by
  unfold bS;rw[JJ ⋯,JK (by rw[J0];simp;omega),J0]
  congr 1
  simp
  omega
 refine#[?_,e]
 unfold Q3;rw[e];simp
section
variable(K:ι)(C:Δ)
inductive lQ|mk (a:Da)(D:Dr)(L:Τ)(nm:Str)(h1:vs=[-a.p,.str nm])(h2:OO K C H a D L)(h3:L.length<=1000000)(h4:D.kn.lookup nm≠none)(h5:∀D' r,HF D (.forget nm)=↑(D',r)->∀H',Mv [a.bd,a.lg] H H'->OO K C H' a D' (L++[r])->Q .non H')
inductive kA|mk (a:Da)(D:Dr)(L:Τ)(k:Δ)(ks:Ε)(h1:vs=[-a.p,-k])(h2:OO K C H a D L)(h3:L.length<=1000000)(h4:D.kss.length<8)(h5:RU H k ks)(h6:ks.length<=8)(h7:∀D' r,HF D (.turn ks)=↑(D',r)->∀H',Mv [a.hk,a.lg] H H'->OO K C H' a D' (L++[r])->Q .non H')
end
def vh{H:Hp}{a:Da}(f1:H a.p=none)(f2:H a.hk=none)(e:H a.bd=none)(d:H a.lg=none):∀z∈dS a,H z=none:=λz c=>by
 simp only[dS,JO,JX,JY]at c;rcases c with rfl|rfl|rfl|rfl<;>assumption
inductive TV (x:V)(vs:Β)(H:Hp)(Q:VK):Prop
 |mk (l:Δ)(xs:Β)(i:Int)(y:V)(h1:x= .ref l)(h2:vs=[.int i,y])(h3:H l=↑(.lst xs))(h4:0<=i)(h5:i<=xs.length)(h6:xs.length<ζ)(h7:Q .non (Ot H l (.lst (xs.take i.toNat++y::xs.drop i.toNat))))
def Fw:V->Β->Hp->VK->Prop:=λx a H Q=>TV x a H Q
def yn:i8 X "list.insert" Fw:=by
 intro tx s σ H x G v E Q I g o h;let#[l,xs,i,y,rfl,rfl,f,D,hk,j,q]:=h;cases g;let#[C,u,rfl,d,w]:=o.two;let#[t,rfl]:=d;let#[z,a,n,r,m,e]:=I.lstM f;have c:a.length<ζ:=by lia
 have p:i<2 ^ 63:=by have:a.length<ζ:=c;rw[JV]at this;lia
 have B:¬(!γ.List.listFitsIndex i)=true:=by rw[fitsIndex_both (by lia) p];decide
 refine Mh F.slot_list_insert #[_,e,Z] F.entry_list_insert (F.args_list_insert_3 _ _ _) (PySem.AutoSeq1.list_insert_list_int_val_1 l a.toArray n i t u B (by rw[J9];lia)) #[e,?_]
 refine#[.non,_,I.lset (its':=a.take i.toNat++u::a.drop i.toNat) f e ?_ ((r.take i.toNat).append (.cons w (r.drop i.toNat))) ?_,Z,q]
 .simp only[J9]
  have A:=L1 (KZ.2 (m▸hk));rw[JJ (by lia),A]
  apply Array.ext'
  simp [NZ]
 .rw[J0,LI,LO,Nz,L1 (KZ.2 hk),<- Nat.add_assoc,Nat.add_sub_of_le (KZ.2 hk)]
  exact j
def Fo{K:ι}{te:TE}{Q:VK}{xs:Β}(c:Sq K H0 a xs)(hn:xs.length<=ζ)(Pv:Nat->Β->Hp->Prop)(d:Pv 0 [] H)(ps:∀i ys H',Pv i ys H'->Oq H0 H')
  (hs:∀i ys H' x,xs[i]? =↑x->ys.length=i->Pv i ys H'->te (↑x::Q1 js σ) H' λv H3=>Pv (i+1) (ys++[v]) H3)
  (hd:∀ys H',ys.length=xs.length->Pv xs.length ys H'->∀p,H' p=none->Q (-p) (Ot H' p (.lst ys))):((∃xs,OA K H a xs)/\bH (ji K a) js te σ H Q)\/((∃xs,OC K H a xs)/\bH (i7 K a) js te σ H Q):=by
 rcases c with c|c
 .exact .inl #[#[_,(ps _ _ _ d).seq c],dw hn Pv d (λi ys H' p=>(ps i ys H' p).seq c) hs hd]
 .exact .inr #[#[_,Oq.sqt (ps _ _ _ d) c],fV hn Pv d (λi ys H' p=>Oq.sqt (ps i ys H' p) c) hs hd]
def iU(D:Dr)(nm:Str)(age:Int)(r:Option (Int×Int)):(QF D nm age r).2.map (·.1)=D.kn.map (·.1):=by
 unfold QF;cases e:D.kn.lookup nm with
 |none=>rfl
 |some x=>
  simp only
  split
  .split
   .rfl
   .split
    .exact lM e
    .exact lM e
  .rfl
def wP(ok:RW D)(P:Ps):RW {D with kn:=(zd D P).2}:=by
 have h:(zd D P).2.map (·.1)=D.kn.map (·.1):=iU ..
 have a:=Lh List.length h;rw[JI,JI]at a
 exact#[ok.tp,ok.l0,ok.kl,by show(zd D P).2.length<=60;rw[a];exact ok.nl,by show((zd D P).2.map (·.1)).Nodup;rw[h];exact ok.nd]
def Uv(H:Hp)(pl:Δ)(ps:List Ps):Prop:=∃c:Η,H pl=↑(.lst (c.map V.ref))/\c.length=ps.length/\∀(i:Nat) (a:Δ) (P:Ps),c[i]? =↑a->ps[i]? =↑P->PX H a P
def Ak{g:Α}(h1:Sh H p g m)(h2:Sh H q g m)(hs:∀nm∈g,nm∈m.map (·.1))(hl:g.length<=60):RB H 3 (-p) (-q):=by
 let#[w,C,l,A]:=h1;let#[bs,v,o,s]:=h2;refine .tup (.inl C) (.inl v) (by simp [l,o]) (by rw[JI,l,JV];lia) λi x y ex c=>?_
 rw[JW]at ex c;cases q1:w[i]? with
 |none=>rw[q1]at ex;cases ex
 |some a=>
  cases q2:bs[i]? with
  |none=>rw[q2]at c;cases c
  |some b=>
   rw[q1]at ex;rw[q2]at c;cases ex;cases c
   have hi:i<g.length:=by rw[<- l];exact(JZ.mp q1).1
   have n:=JQ hi;let#[e,h]:=Zd (hs _ (L9 hi))
   let#[D,u,f]:=A i a _ e q1 n h;let#[B,r,d]:=s i b _ e q2 n h;refine .tup (.inl u) (.inl r) Z (by show 4<=ζ;decide) λj x y ex c=>?_
   match j,ex,c with
   |0,ex,c=>cases ex;cases c;exact .str _ _
   |1,ex,c=>cases ex;cases c;exact .int _ _
   |2,ex,c=>cases ex;cases c;exact .int _ _
   |3,ex,c=>
    cases ex;cases c
    cases hw:e.wt with
    |none=>
     rw[hw]at f d;have f:D= .non:=f
     have d:B= .non:=d
     rw[f,d];exact .non _
    |some xc=>
     rw[hw]at f d;let#[E,rfl,z]:=f;let#[F,rfl,t]:=d;exact RB.ints (ns:=[xc.1,xc.2]) (.inl z) (.inl t) (by show 2<=ζ;decide)
   |j+4,ex,c=>cases ex
theorem Uv.mv(h:Uv H pl ps)(m:Mv S H H')(nt:NT S H)(hr:pl∉S):Uv H' pl ps:=by
 let#[d,e,l,r]:=h
 exact#[d,m _ _ hr e,l,λi a P h1 c=>OY.mv m nt (r i a P h1 c)]
noncomputable def qR:Α->Str->Option Nat
 | [],_=>none
 |n::r,m=>if n=m then ↑0 else(qR r m).map (· +1)
theorem bj:∀{l:Α} {m:Str} {i:Nat},qR l m=↑i->l[i]? =↑m
 | [],m,i,h=>by cases h
 |n::r,m,i,h=>by
  unfold qR at h;split at h
  .rename_i e;cases h;rw[e];rfl
  .cases q:qR r m with
   |none=>rw[q]at h;cases h
   |some j=>rw[q]at h;cases h;have:=bj q;simpa using this
theorem QZ:∀{l:Α} {m:Str},qR l m=none->m∉l
 | [],m,h=>λz=>by cases z
 |n::r,m,h=>by
  unfold qR at h;split at h
  .cases h
  .rename_i e
   cases q:qR r m with
   |none=>intro z;rcases JO.mp z with z|z;exact e z.symm;exact QZ q z
   |some j=>rw[q]at h;cases h
def iX{i:Nat}(h:qR l m=↑i):i<l.length:=(JZ.mp (bj h)).1
section
variable{α:Type}{f:α->Str}{g:α->V}
noncomputable def zv(f:α->Str)(g:α->V)(l:List α):List (qO×V):=l.map λx=>(SJ (f x),g x)
theorem ve:∀(l:List α) (m:Str),QM (zv f g l) (SJ m:qO)=(qR (l.map f) m).bind λi=>(l[i]?).map g
 | [],m=>rfl
 |x::r,m=>by
  show QM ((SJ (f x),g x)::zv f g r) (SJ m:qO)=(qR (f x::r.map f) m).bind λi=>((x::r)[i]?).map g
  unfold qR
  by_cases e:f x=m
  .rw[JK e]
   unfold QM;rw[List.find?_cons_of_pos (by simp [e])];rfl
  .rw[JJ e]
   have h1:QM ((SJ (f x),g x)::zv f g r) (SJ m:qO)=QM (zv f g r) (SJ m:qO):=by
    unfold QM;rw[List.find?_cons_of_neg (by simp [e])]
   rw[h1,ve r m];cases qR (r.map f) m with
   |none=>rfl
   |some i=>rfl
def ge(l:List α):(zv f g l).map (·.1)=(l.map f).map SJ:=by
 unfold zv;rw[LY,LY];rfl
def oi(l:List α){m:Str}(h:m∉l.map f):Px (zv f g l) (SJ m:qO) v=zv f g l++[(SJ m,v)]:=by
 refine vg λz=>h ?_
 rw[ge]at z;let#[y,a,e]:=J7.mp z;injection e with e
 exact e▸a
def jz{H:Hp}(e:H d=↑(.dK (zv f g l)))(m:Str):(qR (l.map f) m=none/\OR H d (.str m) none)\/∃i x,qR (l.map f) m=↑i/\l[i]? =↑x/\f x=m/\OR H d (.str m) ↑(g x):=by
 have k:=OR.k (k:=(SJ m:qO)) e
 rw[ve]at k;cases q:qR (l.map f) m with
 |none=>rw[q]at k;exact .inl #[Z,k]
 |some i=>
  have hi:i<l.length:=by have:=iX q;rwa [JI]at this
  have a:=JQ hi;have c:=bj q;rw[JW,a]at c;rw[q]at k;simp only[Option.bind_some,a,Option.map_some]at k;exact .inr #[i,0,a,Lb c,k]
end
structure Dh where
 nm:Str
 D:Dr
 L:Τ
 op:Μ
structure Hs where
 t:Ε
 kss:List Ε
 least:Int
 ds:List Dh
 bs:List Bt
 kp:List Ps
def Hs.dn(S:Hs):Α:=S.ds.map (·.nm)
def Hs.bn(S:Hs):Α:=S.bs.map (·.nm)
structure O8 where
 nm:Str
 a:Da
 ol:Δ
structure Rg where
 nm:Str
 p:Δ
 ce:Δ
structure Ha where
 ma:Δ
 ta:Δ
 hk:Δ
 dd:Δ
 bd:Δ
 od:Δ
 kl:Δ
 ds:List O8
 bs:List Rg
inductive Vi where
 |ma|hk|dd|bd|od|kl
 |dr (i:Nat)|ol (i:Nat)|bt (i:Nat)
 |no
noncomputable def hF(a:Ha):Η:=[a.ma,a.hk,a.dd,a.bd,a.od,a.kl]++(a.ds.flatMap (λx=>x.ol::dS x.a)++a.bs.flatMap λx=>[x.p,x.ce])
def OQ{a:Ha}{z:Δ}:z∈hF a↔(z=a.ma\/z=a.hk\/z=a.dd\/z=a.bd\/z=a.od\/z=a.kl)\/(∃x∈a.ds,z=x.ol\/z∈dS x.a)\/∃x∈a.bs,z=x.p\/z=x.ce:=by
 unfold hF;simp only[J1,JO,JX,JY,List.mem_flatMap]
structure Ow(w:Δ->Vi)(a:Ha):Prop where
 ma:w a.ma= .ma
 hk:w a.hk= .hk
 dd:w a.dd= .dd
 bd:w a.bd= .bd
 od:w a.od= .od
 kl:w a.kl= .kl
 dr:∀(i:Nat) (x:O8),a.ds[i]? =↑x->∀z∈dS x.a,w z= .dr i
 ol:∀(i:Nat) (x:O8),a.ds[i]? =↑x->w x.ol= .ol i
 bp:∀(i:Nat) (x:Rg),a.bs[i]? =↑x->w x.p= .bt i
 bc:∀(i:Nat) (x:Rg),a.bs[i]? =↑x->w x.ce= .bt i
def RD(K:ι)(CB:Δ)(H:Hp)(x:Rg)(B:Bt):Prop:=∃ta ka,Oy K CB H x.p ta ka x.ce B
def nu(H:Hp)(l:Δ)(a:Μ):Prop:=H l=↑(.lst (a.map λn:Nat=>V.int (n:Int)))
structure Pj(K:ι)(CB CD:Δ)(H:Hp)(a:Ha)(S:Hs):Prop where
 tb:OC K H a.ta (S.t.map V.int)
 ks:OP [] H a.hk S.kss
 dd:H a.dd=↑(.dK (zv O8.nm (λx=> .ref x.a.p) a.ds))
 bd:H a.bd=↑(.dK (zv Rg.nm (λx=> .ref x.p) a.bs))
 od:H a.od=↑(.dK (zv O8.nm (λx=> .ref x.ol) a.ds))
 kl:Uv H a.kl S.kp
 dn:a.ds.map (·.nm)=S.dn
 bn:a.bs.map (·.nm)=S.bn
 de:∀(i:Nat) (x:O8) (y:Dh),a.ds[i]? =↑x->S.ds[i]? =↑y->OO K CD H x.a y.D y.L/\nu H x.ol y.op
 be:∀(i:Nat) (x:Rg) (y:Bt),a.bs[i]? =↑x->S.bs[i]? =↑y->RD K CB H x y
 ma:∃o,H a.ma=↑o/\jw o
 ow:∃w,Ow w a
section
variable{K:ι}{CB CD:Δ}{Z:Η}{H H':Hp}{a:Ha}{S S':Hs}{i:Nat}{x:O8}{y:Dh}{B:Bt}
theorem RD.mv{x:Rg}{B:Bt}(b:RD K CB H x B)(m:Mv Z H H')(n:NT Z H)(h1:x.p∉Z)(h2:x.ce∉Z):RD K CB H' x B:=by
 let#[ta,ka,b]:=b
 exact⟨ta,ka,b.mv m n h1 h2⟩
def Pj.dS_at(h:Pj K CB CD H a S){x:O8}(hx:x∈a.ds):∃(i:Nat) (y:Dh),a.ds[i]? =↑x/\S.ds[i]? =↑y:=by
 let#[i,hi]:=N0 hx
 have c:i<S.ds.length:=by
  have:=Lh List.length h.dn
  unfold Hs.dn at this;rw[JI,JI]at this;rw[<- this];exact(JZ.mp hi).1
 exact⟨i,_,hi,JQ c⟩
def Pj.bS_at(h:Pj K CB CD H a S){x:Rg}(hx:x∈a.bs):∃(i:Nat) (y:Bt),a.bs[i]? =↑x/\S.bs[i]? =↑y:=by
 let#[i,hi]:=N0 hx
 have c:i<S.bs.length:=by
  have:=Lh List.length h.bn
  unfold Hs.bn at this;rw[JI,JI]at this;rw[<- this];exact(JZ.mp hi).1
 exact⟨i,_,hi,JQ c⟩
theorem Pj.nt(h:Pj K CB CD H a S):NT (hF a) H:=λz c=>by
 rcases OQ.mp c with(rfl|rfl|rfl|rfl|rfl|rfl)|⟨x,f,c⟩|⟨x,f,c⟩
 .exact h.ma
 .let#[j,e,_]:=h.ks;exact#[_,e,trivial]
 .exact#[_,h.dd,trivial]
 .exact#[_,h.bd,trivial]
 .exact#[_,h.od,trivial]
 .let#[j,e,_]:=h.kl;exact#[_,e,trivial]
 .let#[i,y,h1,g]:=h.dS_at f
  let#[d,o]:=h.de i x y h1 g;rcases c with rfl|c
  .exact#[_,o,trivial]
  .exact d.nt z c
 .let#[i,y,h1,g]:=h.bS_at f
  let#[ta,ka,b]:=h.be i x y h1 g;exact b.nt z (by rcases c with rfl|rfl<;>simp)
def Pj.live(h:Pj K CB CD H a S){z:Δ}(d:z∈hF a):H z≠none:=λe=>by
 let#[o,c,_]:=h.nt z d;rw[e]at c;cases c
def jy:a.ma∈hF a:=OQ.mpr (.inl (.inl rfl))
def lO:a.hk∈hF a:=OQ.mpr (.inl (.inr (.inl rfl)))
def cC:a.dd∈hF a:=OQ.mpr (.inl (.inr (.inr (.inl rfl))))
def lN:a.bd∈hF a:=OQ.mpr (.inl (.inr (.inr (.inr (.inl rfl)))))
def rF:a.od∈hF a:=OQ.mpr (.inl (.inr (.inr (.inr (.inr (.inl rfl))))))
def mF:a.kl∈hF a:=OQ.mpr (.inl (.inr (.inr (.inr (.inr (.inr rfl))))))
def lT{i:Nat}{x:O8}(h:a.ds[i]? =↑x):x.ol∈hF a:=OQ.mpr (.inr (.inl #[x,JU h,.inl rfl]))
def mL{i:Nat}{x:O8}{z:Δ}(h:a.ds[i]? =↑x)(c:z∈dS x.a):z∈hF a:=OQ.mpr (.inr (.inl #[x,JU h,.inr c]))
def rD{i:Nat}{x:Rg}(h:a.bs[i]? =↑x):x.p∈hF a:=OQ.mpr (.inr (.inr #[x,JU h,.inl rfl]))
def rC{i:Nat}{x:Rg}(h:a.bs[i]? =↑x):x.ce∈hF a:=OQ.mpr (.inr (.inr #[x,JU h,.inr rfl]))
def Pj.gen(h:Pj K CB CD H a S)(m:Mv Z H H')(nt:NT Z H)(F:S'.t=S.t)
  (hk:(a.hk∉Z/\S'.kss=S.kss)\/OP [] H' a.hk S'.kss)(r:a.dd∉Z)(p:a.bd∉Z)(B:a.od∉Z)(u:(a.kl∉Z/\S'.kp=S.kp)\/Uv H' a.kl S'.kp)(g:S'.dn=S.dn)(l:S'.bn=S.bn)
  (D:∀(i:Nat) (x:O8) (y y':Dh),a.ds[i]? =↑x->S.ds[i]? =↑y->S'.ds[i]? =↑y'->(((∀z∈dS x.a,z∉Z)/\y'.D=y.D/\y'.L=y.L)\/OO K CD H' x.a y'.D y'.L)/\((x.ol∉Z/\y'.op=y.op)\/nu H' x.ol y'.op))
  (v:∀(i:Nat) (x:Rg) (y y':Bt),a.bs[i]? =↑x->S.bs[i]? =↑y->S'.bs[i]? =↑y'->(x.p∉Z/\x.ce∉Z/\y'=y)\/RD K CB H' x y')
  (A:a.ma∉Z\/∃o,H' a.ma=↑o/\jw o):Pj K CB CD H' a S':=by
 refine#[by rw[F];exact m.sqt nt h.tb,?_,m _ _ r h.dd,m _ _ p h.bd,m _ _ B h.od,?_,h.dn.trans g.symm,h.bn.trans l.symm,λi x y' h1 c=>?_,λi x y' h1 c=>?_,?_,h.ow]
 .rcases hk with⟨h1,c⟩|h1
  .rw[c];exact OP.mv m nt h1 h.ks
  .exact h1
 .rcases u with⟨h1,c⟩|h1
  .rw[c];exact h.kl.mv m nt h1
  .exact h1
 .let#[j,y,I,G]:=h.dS_at (JU h1)
  have C:i<S.ds.length:=by
   have:=Lh List.length g
   unfold Hs.dn at this;rw[JI,JI]at this;rw[<- this];exact(JZ.mp c).1
  have f:=JQ C;let#[d,o]:=h.de i x _ h1 f;let#[w,t]:=D i x _ y' h1 f c;exists ?_
  .rcases w with⟨n,s,E⟩|w
   .rw[s,E];exact d.mv m nt (n _ (gT _)) (n _ (gL _)) (n _ (gw _)) (n _ (cq _))
   .exact w
  .rcases t with⟨n,s⟩|t
   .rw[s];exact m _ _ n o
   .exact t
 .have C:i<S.bs.length:=by
   have:=Lh List.length l
   unfold Hs.bn at this;rw[JI,JI]at this;rw[<- this];exact(JZ.mp c).1
  have f:=JQ C;rcases v i x _ y' h1 f c with⟨n1,n2,e⟩|q
  .rw[e];exact(h.be i x _ h1 f).mv m nt n1 n2
  .exact q
 .rcases A with n|q
  .let#[o,e,no]:=h.ma;exact#[o,m _ _ n e,no]
  .exact q
def Pj.mv(h:Pj K CB CD H a S)(m:Mv Z H H')(nt:NT Z H)(c:∀z∈hF a,z∉Z):Pj K CB CD H' a S:=
 h.gen m nt rfl (.inl #[c _ lO,rfl]) (c _ cC) (c _ lN) (c _ rF) (.inl #[c _ mF,rfl]) rfl rfl (λi x y y' h1 e d=>by
  rw[e]at d;cases d
  exact#[.inl #[λz q=>c z (mL h1 q),rfl,rfl],.inl #[c _ (lT h1),rfl]]) (λi x y y' h1 e d=>by
  rw[e]at d;cases d
  exact .inl #[c _ (rD h1),c _ (rC h1),rfl]) (.inl (c _ jy))
def Pj.same(h:Pj K CB CD H a S)(s:Oq H H'):Pj K CB CD H' a S:=h.mv (Z:=[]) s.mv iu (λz _ q=>nomatch q)
noncomputable def Hs.setD(S:Hs)(i:Nat)(y:Dh):Hs:={S with ds:=S.ds.set i y}
noncomputable def Hs.setB(S:Hs)(i:Nat)(y:Bt):Hs:={S with bs:=S.bs.set i y}
theorem Qi{α a:Type}{f:α->a}:∀{l:List α} {i:Nat} {x y:α},l[i]? =TH x->f y=f x->(l.set i y).map f=l.map f
 | [],i,x,y,h,_=>by cases h
 |z::r,0,x,y,h,e=>by
  have h:z=x:=Lb h
  show f y::r.map f=f z::r.map f;rw[e,h]
 |z::r,i+1,x,y,h,e=>by show f z::(r.set i y).map f=f z::r.map f;rw[Qi (l:=r) h e]
def cJ{α:Type}{l:List α}{i j:Nat}{x y z w:α}(h:l[i]? =TH x)(a:l[j]? =TH y)(hs:(l.set i z)[j]? =TH w):(j=i/\w=z)\/(j≠i/\w=y):=by
 rw[Ka]at hs;split at hs
 .rename_i e
  subst e;split at hs
  .injection hs with hs;exact .inl #[rfl,hs.symm]
  .cases hs
 .rename_i e
  rw[a]at hs;injection hs with hs
  exact .inr #[λq=>e q.symm,hs.symm]
def Pj.door(h:Pj K CB CD H a S)(hi:a.ds[i]? =↑x)(g:S.ds[i]? =↑y)(m:Mv (dS x.a) H H')(d:OO K CD H' x.a D' L'):Pj K CB CD H' a (S.setD i {y with D:=D',L:=L'}):=by
 let#[w,c]:=h.ow;have no:∀{z:Δ},w z≠ .dr i->z∉dS x.a:=λn q=>n (c.dr i x hi _ q)
 refine h.gen m (h.de i x y hi g).1.nt rfl (.inl #[no (by rw[c.hk];intro q;cases q),rfl]) (no (by rw[c.dd];intro q;cases q)) (no (by rw[c.bd];intro q;cases q)) (no (by rw[c.od];intro q;cases q)) (.inl #[no (by rw[c.kl];intro q;cases q),rfl]) (Qi g rfl) rfl (λj u v l h1 f e=>?_) (λj u v l h1 f e=>?_) (.inl (no (by rw[c.ma];intro q;cases q)))
 .refine#[?_,.inl #[no (by rw[c.ol j u h1];intro q;cases q),?_]]
  .rcases cJ g f e with⟨rfl,rfl⟩|⟨n,rfl⟩
   .rw[hi]at h1;cases h1;exact .inr d
   .exact .inl #[λz o=>no (by rw[c.dr j u h1 z o];intro q;injection q with q;exact n q),rfl,rfl]
  .rcases cJ g f e with⟨rfl,rfl⟩|⟨n,rfl⟩
   .rw[g]at f;cases f;rfl
   .rfl
 .have e:S.bs[j]? =↑l:=e
  rw[f]at e;cases e
  exact .inl #[no (by rw[c.bp j u h1];intro q;cases q),no (by rw[c.bc j u h1];intro q;cases q),rfl]
def Pj.opd{op':Μ}(h:Pj K CB CD H a S)(hi:a.ds[i]? =↑x)(f:S.ds[i]? =↑y):Pj K CB CD (Ot H x.ol (.lst (op'.map λn:Nat=>V.int (n:Int)))) a (S.setD i {y with op:=op'}):=by
 let#[w,c]:=h.ow;have no:∀{z:Δ},w z≠ .ol i->z∉[x.ol]:=λn q=>n (by rw[JN.mp q];exact c.ol i x hi)
 refine h.gen (Z:=[x.ol]) Mv.upd1 (NT.one (h.de i x y hi f).2 trivial) rfl (.inl #[no (by rw[c.hk];intro q;cases q),rfl]) (no (by rw[c.dd];intro q;cases q)) (no (by rw[c.bd];intro q;cases q)) (no (by rw[c.od];intro q;cases q)) (.inl #[no (by rw[c.kl];intro q;cases q),rfl]) (Qi f rfl) rfl (λj u v g h1 d e=>?_) (λj u v g h1 d e=>?_) (.inl (no (by rw[c.ma];intro q;cases q)))
 .exists .inl #[λz l=>no (by rw[c.dr j u h1 z l];intro q;cases q),?_,?_]
  .rcases cJ f d e with⟨rfl,rfl⟩|⟨n,rfl⟩
   .rw[f]at d;cases d;rfl
   .rfl
  .rcases cJ f d e with⟨rfl,rfl⟩|⟨n,rfl⟩
   .rw[f]at d;cases d;rfl
   .rfl
  .rcases cJ f d e with⟨rfl,rfl⟩|⟨n,rfl⟩
   .rw[hi]at h1;cases h1;exact .inr qb
   .exact .inl #[no (by rw[c.ol j u h1];intro q;injection q with q;exact n q),rfl]
 .have e:S.bs[j]? =↑g:=e
  rw[d]at e;cases e
  exact .inl #[no (by rw[c.bp j u h1];intro q;cases q),no (by rw[c.bc j u h1];intro q;cases q),rfl]
def Pj.btn(h:Pj K CB CD H a S)(hi:a.bs[i]? =↑xb)(f:S.bs[i]? =↑B)(m:Mv [xb.p,xb.ce] H H')(b:RD K CB H' xb B')(hn:B'.nm=B.nm):Pj K CB CD H' a (S.setB i B'):=by
 let#[w,c]:=h.ow;have no:∀{z:Δ},w z≠ .bt i->z∉[xb.p,xb.ce]:=λn q=>n (by
  simp only[JO,JX,JY]at q;rcases q with rfl|rfl
  .exact c.bp i xb hi
  .exact c.bc i xb hi)
 let#[ta,ka,o]:=h.be i xb B hi f;refine h.gen m o.nt rfl (.inl #[no (by rw[c.hk];intro q;cases q),rfl]) (no (by rw[c.dd];intro q;cases q)) (no (by rw[c.bd];intro q;cases q)) (no (by rw[c.od];intro q;cases q)) (.inl #[no (by rw[c.kl];intro q;cases q),rfl]) rfl (Qi f hn) (λj u v g h1 e d=>?_) (λj u v g h1 e d=>?_) (.inl (no (by rw[c.ma];intro q;cases q)))
 .have d:S.ds[j]? =↑g:=d
  rw[e]at d;cases d
  exact#[.inl #[λz l=>no (by rw[c.dr j u h1 z l];intro q;cases q),rfl,rfl],.inl #[no (by rw[c.ol j u h1];intro q;cases q),rfl]]
 .rcases cJ f e d with⟨rfl,rfl⟩|⟨n,rfl⟩
  .rw[hi]at h1;cases h1;exact .inr b
  .exact .inl #[no (by rw[c.bp j u h1];intro q;injection q with q;exact n q),no (by rw[c.bc j u h1];intro q;injection q with q;exact n q),rfl]
def Pj.kpt(h:Pj K CB CD H a S)(p:Uv (Ot H a.kl o) a.kl f):Pj K CB CD (Ot H a.kl o) a {S with kp:=f}:=by
 let#[w,c]:=h.ow;have no:∀{z:Δ},w z≠ .kl->z∉[a.kl]:=λn q=>n (by rw[JN.mp q];exact c.kl)
 let#[m,e,_]:=id h.kl;refine h.gen (Z:=[a.kl]) Mv.upd1 (NT.one e trivial) rfl (.inl #[no (by rw[c.hk];intro q;cases q),rfl]) (no (by rw[c.dd];intro q;cases q)) (no (by rw[c.bd];intro q;cases q)) (no (by rw[c.od];intro q;cases q)) (.inr p) rfl rfl (λj u v i h1 g d=>?_) (λj u v i h1 g d=>?_) (.inl (no (by rw[c.ma];intro q;cases q)))
 .have d:S.ds[j]? =↑i:=d
  rw[g]at d;cases d
  exact#[.inl #[λz l=>no (by rw[c.dr j u h1 z l];intro q;cases q),rfl,rfl],.inl #[no (by rw[c.ol j u h1];intro q;cases q),rfl]]
 .have d:S.bs[j]? =↑i:=d
  rw[g]at d;cases d
  exact .inl #[no (by rw[c.bp j u h1];intro q;cases q),no (by rw[c.bc j u h1];intro q;cases q),rfl]
def Pj.key(h:Pj K CB CD H a S)(p:OP [] (Ot H a.hk o) a.hk f):Pj K CB CD (Ot H a.hk o) a {S with kss:=f}:=by
 let#[w,c]:=h.ow;have no:∀{z:Δ},w z≠ .hk->z∉[a.hk]:=λn q=>n (by rw[JN.mp q];exact c.hk)
 let#[m,e,_]:=id h.ks;refine h.gen (Z:=[a.hk]) Mv.upd1 (NT.one e trivial) rfl (.inr p) (no (by rw[c.dd];intro q;cases q)) (no (by rw[c.bd];intro q;cases q)) (no (by rw[c.od];intro q;cases q)) (.inl #[no (by rw[c.kl];intro q;cases q),rfl]) rfl rfl (λj u v i h1 g d=>?_) (λj u v i h1 g d=>?_) (.inl (no (by rw[c.ma];intro q;cases q)))
 .have d:S.ds[j]? =↑i:=d
  rw[g]at d;cases d
  exact#[.inl #[λz l=>no (by rw[c.dr j u h1 z l];intro q;cases q),rfl,rfl],.inl #[no (by rw[c.ol j u h1];intro q;cases q),rfl]]
 .have d:S.bs[j]? =↑i:=d
  rw[g]at d;cases d
  exact .inl #[no (by rw[c.bp j u h1];intro q;cases q),no (by rw[c.bc j u h1];intro q;cases q),rfl]
def Pj.man{p:Int}(h:Pj K CB CD H a S)(i:jw o):Pj K CB CD (Ot H a.ma o) a {S with least:=p}:=by
 let#[w,c]:=h.ow;have no:∀{z:Δ},w z≠ .ma->z∉[a.ma]:=λn q=>n (by rw[JN.mp q];exact c.ma)
 let#[r,e,m]:=id h.ma;refine h.gen (Z:=[a.ma]) Mv.upd1 (NT.one e m) rfl (.inl #[no (by rw[c.hk];intro q;cases q),rfl]) (no (by rw[c.dd];intro q;cases q)) (no (by rw[c.bd];intro q;cases q)) (no (by rw[c.od];intro q;cases q)) (.inl #[no (by rw[c.kl];intro q;cases q),rfl]) rfl rfl (λj u v g h1 f d=>?_) (λj u v g h1 f d=>?_) (.inr #[_,qb,i])
 .have d:S.ds[j]? =↑g:=d
  rw[f]at d;cases d
  exact#[.inl #[λz l=>no (by rw[c.dr j u h1 z l];intro q;cases q),rfl,rfl],.inl #[no (by rw[c.ol j u h1];intro q;cases q),rfl]]
 .have d:S.bs[j]? =↑g:=d
  rw[f]at d;cases d
  exact .inl #[no (by rw[c.bp j u h1];intro q;cases q),no (by rw[c.bc j u h1];intro q;cases q),rfl]
def mW{α:Type}{f:α->Str}{g:α->V}(l:List α)(x:α):zv f g (l++[x])=zv f g l++[(SJ (f x),g x)]:=by unfold zv;rw[La];rfl
def bg{α:Type}{l:List α}{x u:α}{j:Nat}(h:(l++[x])[j]? =↑u):l[j]? =↑u\/(j=l.length/\u=x):=by
 by_cases a:j<l.length
 .rw[L6 a]at h;exact .inl h
 .rw[LV (by lia)]at h
  cases q:j-l.length with
  |zero=>rw[q]at h;cases h;exact .inr #[by lia,rfl]
  |succ k=>rw[q]at h;cases h
def bq{α d:Type}{l:List α}{k:List d}{x u:α}{y v:d}{j:Nat}(hl:l.length=k.length)(h1:(l++[x])[j]? =↑u)(h2:(k++[y])[j]? =↑v):(l[j]? =↑u/\k[j]? =↑v)\/(u=x/\v=y):=by
 rcases bg h1 with a|⟨e,rfl⟩
 .have f:=(JZ.mp a).1
  rw[L6 (by lia)]at h2
  exact .inl #[a,h2]
 .rcases bg h2 with c|⟨_,rfl⟩
  .have f:=(JZ.mp c).1
   lia
  .exact .inr #[rfl,rfl]
def Pj.addD(h:Pj K CB CD H a S)(m:Mv [a.dd,a.od] H H')(t:H' a.dd=↑(.dK (zv O8.nm (λx=> .ref x.a.p) (a.ds++[x]))))(B:H' a.od=↑(.dK (zv O8.nm (λx=> .ref x.ol) (a.ds++[x]))))(d:OO K CD H' x.a y.D y.L)(o:nu H' x.ol y.op)(fd:∀z∈dS x.a,H z=none)(r:H x.ol=none)(ne:x.ol∉dS x.a)(hn:x.nm=y.nm):
  Pj K CB CD H' {a with ds:=a.ds++[x]} {S with ds:=S.ds++[y]}:=by
 let#[w,c]:=h.ow;have nt:NT [a.dd,a.od] H:=λz f=>by
  simp only[JO,JX,JY]at f;rcases f with rfl|rfl
  .exact#[_,h.dd,trivial]
  .exact#[_,h.od,trivial]
 have no:∀{z:Δ},w z≠ .dd->w z≠ .od->z∉[a.dd,a.od]:=λn1 n2 q=>by
  simp only[JO,JX,JY]at q;rcases q with rfl|rfl
  .exact n1 c.dd
  .exact n2 c.od
 have s:a.ds.length=S.ds.length:=by
  have:=Lh List.length h.dn
  unfold Hs.dn at this
  rwa [JI,JI]at this
 have n:∀{z:Δ},z∈hF a->z∉dS x.a/\z≠x.ol:=λf=>#[λq=>h.live f (fd _ q),λq=>h.live f (q▸r)]
 have g:∀{z:Δ},z∈hF a->(if z∈dS x.a then Vi.dr a.ds.length else if z=x.ol then .ol a.ds.length else w z)=w z:=λf=>by rw[JJ (n f).1,JJ (n f).2]
 exists m.sqt nt h.tb,OP.mv m nt (no (by rw[c.hk];intro q;cases q) (by rw[c.hk];intro q;cases q)) h.ks,t,m _ _ (no (by rw[c.bd];intro q;cases q) (by rw[c.bd];intro q;cases q)) h.bd,B,h.kl.mv m nt (no (by rw[c.kl];intro q;cases q) (by rw[c.kl];intro q;cases q)),?_,h.bn,λj u v h1 i=>?_,λj u v h1 i=>(h.be j u v h1 i).mv m nt (no (by rw[c.bp j u h1];intro q;cases q) (by rw[c.bp j u h1];intro q;cases q)) (no (by rw[c.bc j u h1];intro q;cases q) (by rw[c.bc j u h1];intro q;cases q)),?_,λz=>if z∈dS x.a then .dr a.ds.length else if z=x.ol then .ol a.ds.length else w z
 .show(a.ds++[x]).map (·.nm)=(S.ds++[y]).map (·.nm)
  rw[La,La,h.dn]
  show _++[x.nm]=_++[y.nm]
  rw[hn];rfl
 .rcases bq s h1 i with⟨h1,i⟩|⟨rfl,rfl⟩
  .let#[p,A]:=h.de j u v h1 i
   have l:∀z∈dS u.a,z∉[a.dd,a.od]:=λz f=>no (by rw[c.dr j u h1 z f];intro q;cases q) (by rw[c.dr j u h1 z f];intro q;cases q)
   exact#[p.mv m nt (l _ (gT _)) (l _ (gL _)) (l _ (gw _)) (l _ (cq _)),m _ _ (no (by rw[c.ol j u h1];intro q;cases q) (by rw[c.ol j u h1];intro q;cases q)) A]
  .exact#[d,o]
 .let#[o,e,q]:=h.ma
  exact#[o,m _ _ (no (by rw[c.ma];intro q;cases q) (by rw[c.ma];intro q;cases q)) e,q]
 .refine#[(g jy).trans c.ma,(g lO).trans c.hk,(g cC).trans c.dd,(g lN).trans c.bd,(g rF).trans c.od,(g mF).trans c.kl,λj u h1 z f=>?_,λj u h1=>?_,λj u h1=>(g (rD h1)).trans (c.bp j u h1),λj u h1=>(g (rC h1)).trans (c.bc j u h1)]
  .rcases bg h1 with h1|⟨rfl,rfl⟩
   .exact(g (mL h1 f)).trans (c.dr j u h1 z f)
   .show(if z∈dS _ then _ else _)=_
    rw[JK f]
  .rcases bg h1 with h1|⟨rfl,rfl⟩
   .exact(g (lT h1)).trans (c.ol j u h1)
   .show(if _∈dS _ then _ else _)=_
    rw[JJ ne,JK rfl]
def Pj.addB(h:Pj K CB CD H a S)(m:Mv [a.bd] H H')(r:H' a.bd=↑(.dK (zv Rg.nm (λx=> .ref x.p) (a.bs++[xb]))))(b:RD K CB H' xb B)(f1:H xb.p=none)(f2:H xb.ce=none)(hn:xb.nm=B.nm):
  Pj K CB CD H' {a with bs:=a.bs++[xb]} {S with bs:=S.bs++[B]}:=by
 let#[w,c]:=h.ow;have nt:NT [a.bd] H:=NT.one h.bd trivial
 have no:∀{z:Δ},w z≠ .bd->z∉[a.bd]:=λn1 q=>n1 (by rw[JN.mp q];exact c.bd)
 have p:a.bs.length=S.bs.length:=by
  have:=Lh List.length h.bn
  unfold Hs.bn at this
  rwa [JI,JI]at this
 have n:∀{z:Δ},z∈hF a->¬(z=xb.p\/z=xb.ce):=λf q=>h.live f (by rcases q with rfl|rfl;exact f1;exact f2)
 have d:∀{z:Δ},z∈hF a->(if z=xb.p\/z=xb.ce then Vi.bt a.bs.length else w z)=w z:=λf=>by rw[JJ (n f)]
 exists m.sqt nt h.tb,OP.mv m nt (no (by rw[c.hk];intro q;cases q)) h.ks,m _ _ (no (by rw[c.dd];intro q;cases q)) h.dd,r,m _ _ (no (by rw[c.od];intro q;cases q)) h.od,h.kl.mv m nt (no (by rw[c.kl];intro q;cases q)),h.dn,?_,λj u v h1 g=>?_,λj u v h1 g=>?_,?_,λz=>if z=xb.p\/z=xb.ce then .bt a.bs.length else w z
 .show(a.bs++[xb]).map (·.nm)=(S.bs++[B]).map (·.nm)
  rw[La,La,h.bn]
  show _++[xb.nm]=_++[B.nm]
  rw[hn];rfl
 .let#[l,s]:=h.de j u v h1 g
  have i:∀z∈dS u.a,z∉[a.bd]:=λz f=>no (by rw[c.dr j u h1 z f];intro q;cases q)
  exact#[l.mv m nt (i _ (gT _)) (i _ (gL _)) (i _ (gw _)) (i _ (cq _)),m _ _ (no (by rw[c.ol j u h1];intro q;cases q)) s]
 .rcases bq p h1 g with⟨h1,g⟩|⟨rfl,rfl⟩
  .exact(h.be j u v h1 g).mv m nt (no (by rw[c.bp j u h1];intro q;cases q)) (no (by rw[c.bc j u h1];intro q;cases q))
  .exact b
 .let#[o,e,q]:=h.ma
  exact#[o,m _ _ (no (by rw[c.ma];intro q;cases q)) e,q]
 .refine#[(d jy).trans c.ma,(d lO).trans c.hk,(d cC).trans c.dd,(d lN).trans c.bd,(d rF).trans c.od,(d mF).trans c.kl,λj u h1 z f=>(d (mL h1 f)).trans (c.dr j u h1 z f),λj u h1=>(d (lT h1)).trans (c.ol j u h1),λj u h1=>?_,λj u h1=>?_]
  .rcases bg h1 with h1|⟨rfl,rfl⟩
   .exact(d (rD h1)).trans (c.bp j u h1)
   .show(if _ then _ else _)=_
    rw[JK (.inl rfl)]
  .rcases bg h1 with h1|⟨rfl,rfl⟩
   .exact(d (rC h1)).trans (c.bc j u h1)
   .show(if _ then _ else _)=_
    rw[JK (.inr rfl)]
end
structure PY(S:Hs)(n:Nat)(y:Dh):Prop where
 t:y.D.t=S.t
 k:y.D.kss=S.kss
 l:y.D.least=S.least
 ok:RW y.D
 m:(y.D.kn.length:Int)<=y.D.most
 m1:y.D.most<=12
 ll:y.L.length<=n
 lo:y.op.length<=n
 kb:∀e∈y.D.kn,e.1∈S.bn
structure PR(S:Hs)(B:Bt):Prop where
 ok:P6 B
 t:B.t=S.t
 a0:0<=B.age
 a1:B.age<S.kss.length
 k:B.ks=S.kss.getD B.age.toNat []
 nm:Zo B.nm
structure OJ(n:Nat)(S:Hs):Prop where
 tp:S.t.Perm O6
 k1:1<=S.kss.length
 k8:S.kss.length<=8
 kk:∀ks∈S.kss,ks.length<=8
 l0:0<=S.least
 l1:S.least<S.kss.length
 dr:∀y∈S.ds,PY S n y
 bt:∀B∈S.bs,PR S B
 kp:∀P∈S.kp,RM P
 nk:S.kp.length<=n
 nd:S.ds.length<=n
 nb:S.bs.length<=n
 un:S.dn.Nodup
 ub:S.bn.Nodup
section
variable{n m:Nat}{i j:Nat}{y:Dh}
def PY.mono(h:PY S n y)(l:n<=m):PY S m y:=#[h.t,h.k,h.l,h.ok,h.m,h.m1,Lc h.ll l,Lc h.lo l,h.kb]
def PY.to{S':Hs}(h:PY S n y)(a:S'.t=S.t:=by rfl)(hk:S'.kss=S.kss:=by rfl)(hl:S'.least=S.least:=by rfl)(hb:∀z∈S.bn,z∈S'.bn:=by exactλ_ h=>h):PY S' n y:=#[h.t.trans a.symm,h.k.trans hk.symm,h.l.trans hl.symm,h.ok,h.m,h.m1,h.ll,h.lo,λe c=>hb _ (h.kb e c)]
def PR.to{S':Hs}(h:PR S B)(a:S'.t=S.t:=by rfl)(hk:S'.kss=S.kss:=by rfl):PR S' B:=#[h.ok,h.t.trans a.symm,h.a0,by rw[hk];exact h.a1,by rw[hk];exact h.k,h.nm]
theorem OJ.mono(h:OJ n S)(l:n<=m):OJ m S:=#[h.tp,h.k1,h.k8,h.kk,h.l0,h.l1,λy a=>(h.dr y a).mono l,h.bt,h.kp,Lc h.nk l,Lc h.nd l,Lc h.nb l,h.un,h.ub]
theorem nQ{α:Type}:∀{l:List α} {i:Nat} {x z:α},z∈l.set i x->z=x\/z∈l
 | [],i,x,z,h=>by cases h
 |y::r,0,x,z,h=>by
  rcases JO.mp h with h|h
  .exact .inl h
  .exact .inr (F0 _ h)
 |y::r,i+1,x,z,h=>by
  rcases JO.mp h with h|h
  .exact .inr (h▸J3 ..)
  .rcases nQ h with h|h
   .exact .inl h
   .exact .inr (F0 _ h)
theorem OJ.setD(h:OJ n S)(l:n<=m)(hi:S.ds[i]? =↑y')(hn:y.nm=y'.nm)(c:PY S m y):OJ m (S.setD i y):=
 #[h.tp,h.k1,h.k8,h.kk,h.l0,h.l1,λz a=>by
  have e:PY S m z:=by
   rcases nQ a with rfl|a
   .exact c
   .exact(h.dr z a).mono l
  exact e.to,λB d=>(h.bt B d).to,h.kp,Lc h.nk l,by show(S.ds.set i y).length<=m;rw[Mg];exact Lc h.nd l,Lc h.nb l,by rw[show(S.setD i y).dn=S.dn from Qi hi hn];exact h.un,h.ub]
theorem OJ.setB(h:OJ n S)(d:PR S B)(hi:S.bs[i]? =↑B')(hn:B.nm=B'.nm):OJ n (S.setB i B):=
 #[h.tp,h.k1,h.k8,h.kk,h.l0,h.l1,λz a=>(h.dr z a).to (hb:=λw c=>by rw[show(S.setB i B).bn=S.bn from Qi hi hn];exact c),λz a=>by
  have e:PR S z:=by
   rcases nQ a with rfl|a
   .exact d
   .exact h.bt z a
  exact e.to,h.kp,h.nk,h.nd,by show(S.bs.set i B).length<=n;rw[Mg];exact h.nb,h.un,by rw[show(S.setB i B).bn=S.bn from Qi hi hn];exact h.ub]
noncomputable def qY(B:Bt)(d:Int):Ps:=#[B.nm,B.age,cz B.t B.ks B.nm B.cnt d]
noncomputable def qW(S:Hs)(j:Nat)(B:Bt)(d:Int):Hs:={S.setB j B.pr with kp:=S.kp++[qY B d]}
noncomputable def jl(a:Β):Bool:=match a with
 | .str z::_=>decide (z="open")
 |_=>false
noncomputable def ZM(y:Dh)(P:Ps)(k:Nat):Dh:={y with D:={y.D with kn:=(zd y.D P).2},L:=y.L++[.hear P (zd y.D P).1],op:=if jl (zd y.D P).1=true then y.op++[k]else y.op}
theorem PR.pr(h:PR S B)(hc:B.cnt<4096):PR S B.pr:=#[h.ok.pr hc,(Je B).trans h.t,by rw[aI];exact h.a0,by rw[aI];exact h.a1,by rw[aI,Ik];exact h.k,by rw[ZJ];exact h.nm]
def bI(hs:OJ n S)(h:PR S B)(hc:B.cnt<4096)(hd:ZO d):RM (qY B d):=#[h.nm,Bl ..,Du (by rw[h.t];exact hs.tp) h.ok.c0 hc hd]
def OJ.keep(h:OJ n S)(f:S.bs[j]? =↑B)(hc:B.cnt<4096)(hd:ZO d):OJ (n+1) (qW S j B d):=by
 have e:=h.bt B (JU f);have h1:=(h.setB (i:=j) (e.pr hc) f (ZJ B)).mono (Lr n)
 refine#[h1.tp,h1.k1,h1.k8,h1.kk,h1.l0,h1.l1,λz c=>?_,λz c=>?_,λP a=>?_,?_,h1.nd,h1.nb,h1.un,h1.ub]
 .exact(h1.dr z c).to
 .exact(h1.bt z c).to
 .rcases J1.mp a with a|a
  .exact h.kp P a
  .rw[JN.mp a];exact bI h e hc hd
 .show(S.kp++[qY B d]).length<=n+1
  rw[J0];exact LM h.nk
def Cb(D:Dr)(P:Ps):(zd D P).2.length=D.kn.length:=by
 have h:(zd D P).2.map (·.1)=D.kn.map (·.1):=iU ..
 have:=Lh List.length h
 rwa [JI,JI]at this
def PY.hear(h:PY S n y)(k:Nat):PY S (n+1) (ZM y P k):=by
 refine#[h.t,h.k,h.l,wP h.ok P,?_,h.m1,?_,?_,λe d=>?_]
 .show((zd y.D P).2.length:Int)<=_
  rw[Cb];exact h.m
 .show(y.L++[_]).length<=n+1
  rw[J0];exact LM h.ll
 .show(if _ then y.op++[k]else y.op).length<=n+1
  split
  .rw[J0];exact LM h.lo
  .exact MD h.lo
 .have c:e.1∈(zd y.D P).2.map (·.1):=J7.mpr #[e,d,Z]
  rw[show(zd y.D P).2.map (·.1)=y.D.kn.map (·.1)from iU ..]at c
  let#[f,a,q]:=J7.mp c;rw[<- q];exact h.kb f a
theorem OJ.hear(h:OJ n S)(hi:S.ds[i]? =↑y)(k:Nat):OJ (n+1) (S.setD i (ZM y P k)):=h.setD (Lr n) hi Z ((h.dr y (JU hi)).hear k)
end
noncomputable def UP:Α:=["table","house_keys","least_age","doors","buttons","kept","opened"]
def tT:UP.Nodup:=by decide +kernel
noncomputable def yc(a:Ha)(l:Int):List (Str×V):=[("table",-a.ta),("house_keys",-a.hk),("least_age",.int l),("doors",-a.dd),("buttons",-a.bd),("kept",-a.kl),("opened",-a.od)]
noncomputable def Vl:List qO:=[.inr "table",.inr "keys",.inr "shut",.inr "doors",.inr "buttons",.inr "kept",.inr "opened"]
def lu:Vl.Nodup:=by decide +kernel
noncomputable def Zz(a:Ha)(l:Int):List (qO×V):=[(.inr "table",-a.ta),(.inr "keys",-a.hk),(.inr "shut",.int l),(.inr "doors",-a.dd),(.inr "buttons",-a.bd),(.inr "kept",-a.kl),(.inr "opened",-a.od)]
def RQ(k:Κ)(H:Hp)(a:Ha)(l:Int):Prop:=match k with
 |some C=>∃dx,H a.ma=↑(.ins C dx (yc a l))
 |none=>H a.ma=↑(.dK (Zz a l))
structure Ro(K:ι)(C:Δ):Prop where
 cl:RT K C
 n_table:OF K C "table"
 n_house_keys:OF K C "house_keys"
 n_least_age:OF K C "least_age"
 n_doors:OF K C "doors"
 n_buttons:OF K C "buttons"
 n_kept:OF K C "kept"
 n_opened:OF K C "opened"
structure Ou(K:ι)(CB CD:Δ)(k:Κ)(H:Hp)(a:Ha)(S:Hs):Prop where
 mn:RQ k H a S.least
 at_:Pj K CB CD H a S
section
variable{K:ι}{CB CD:Δ}{k:Κ}{Z:Η}{H H':Hp}{a:Ha}{S:Hs}{i:Nat}
def RQ.to(h:RQ k H a l)(e:∀o,H a.ma=↑o->H' a.ma=↑o):RQ k H' a l:=by
 cases k with
 |none=>exact e _ h
 |some C=>let#[dx,q]:=h;exact#[dx,e _ q]
theorem Ou.mv(h:Ou K CB CD k H a S)(m:Mv Z H H')(nt:NT Z H)(c:∀z∈hF a,z∉Z):Ou K CB CD k H' a S:=#[h.mn.to λo e=>m _ _ (c _ jy) e,h.at_.mv m nt c]
theorem Ou.same(h:Ou K CB CD k H a S)(s:Oq H H'):Ou K CB CD k H' a S:=#[h.mn.to λo e=>s _ _ e,h.at_.same s]
theorem Ou.door(h:Ou K CB CD k H a S)(hi:a.ds[i]? =↑x)(f:S.ds[i]? =↑y)(m:Mv (dS x.a) H H')(d:OO K CD H' x.a D' L'):Ou K CB CD k H' a (S.setD i {y with D:=D',L:=L'}):=by
 let#[w,c]:=h.at_.ow
 exact#[h.mn.to λo e=>m _ _ (λq=>by have:=c.dr i x hi _ q;rw[c.ma]at this;cases this) e,h.at_.door hi f m d]
theorem Ou.opd{op':Μ}(h:Ou K CB CD k H a S)(hi:a.ds[i]? =↑x)(d:S.ds[i]? =↑y):Ou K CB CD k (Ot H x.ol (.lst (op'.map λn:Nat=>V.int (n:Int)))) a (S.setD i {y with op:=op'}):=by
 let#[w,c]:=h.at_.ow
 exact#[h.mn.to λo e=>by rw[qk (λq=>by have:=c.ol i x hi;rw[<- q,c.ma]at this;cases this)];exact e,h.at_.opd hi d]
theorem Ou.btn(h:Ou K CB CD k H a S)(hi:a.bs[i]? =↑xb)(d:S.bs[i]? =↑B)(m:Mv [xb.p,xb.ce] H H')(b:RD K CB H' xb B')(hn:B'.nm=B.nm):Ou K CB CD k H' a (S.setB i B'):=by
 let#[w,c]:=h.at_.ow;refine#[h.mn.to λo e=>m _ _ (λq=>?_) e,h.at_.btn hi d m b hn]
 simp only[JO,JX,JY]at q;rcases q with q|q
 .have:=c.bp i xb hi;rw[<- q,c.ma]at this;cases this
 .have:=c.bc i xb hi;rw[<- q,c.ma]at this;cases this
theorem Ou.kpt(h:Ou K CB CD k H a S)(p:Uv (Ot H a.kl o) a.kl c):Ou K CB CD k (Ot H a.kl o) a {S with kp:=c}:=by
 let#[w,d]:=h.at_.ow
 exact#[h.mn.to λo e=>by rw[qk (λq=>by have:=d.kl;rw[<- q,d.ma]at this;cases this)];exact e,h.at_.kpt p]
theorem Ou.key(h:Ou K CB CD k H a S)(p:OP [] (Ot H a.hk o) a.hk c):Ou K CB CD k (Ot H a.hk o) a {S with kss:=c}:=by
 let#[w,d]:=h.at_.ow
 exact#[h.mn.to λo e=>by rw[qk (λq=>by have:=d.hk;rw[<- q,d.ma]at this;cases this)];exact e,h.at_.key p]
theorem Ou.addD(h:Ou K CB CD k H a S)(m:Mv [a.dd,a.od] H H')(f:H' a.dd=↑(.dK (zv O8.nm (λx=> .ref x.a.p) (a.ds++[x]))))(i:H' a.od=↑(.dK (zv O8.nm (λx=> .ref x.ol) (a.ds++[x]))))(d:OO K CD H' x.a y.D y.L)(o:nu H' x.ol y.op)(fd:∀z∈dS x.a,H z=none)(g:H x.ol=none)(ne:x.ol∉dS x.a)(hn:x.nm=y.nm):
  Ou K CB CD k H' {a with ds:=a.ds++[x]} {S with ds:=S.ds++[y]}:=by
 let#[w,c]:=h.at_.ow;refine#[(show RQ k H' {a with ds:=a.ds++[x]} S.least↔RQ k H' a S.least by cases k<;>exact Iff.rfl).mpr (h.mn.to λo e=>m _ _ (λq=>?_) e),h.at_.addD m f i d o fd g ne hn]
 simp only[JO,JX,JY]at q;rcases q with q|q
 .have:=c.dd;rw[<- q,c.ma]at this;cases this
 .have:=c.od;rw[<- q,c.ma]at this;cases this
theorem Ou.addB(h:Ou K CB CD k H a S)(m:Mv [a.bd] H H')(d:H' a.bd=↑(.dK (zv Rg.nm (λx=> .ref x.p) (a.bs++[xb]))))(b:RD K CB H' xb B)(f1:H xb.p=none)(f2:H xb.ce=none)(hn:xb.nm=B.nm):
  Ou K CB CD k H' {a with bs:=a.bs++[xb]} {S with bs:=S.bs++[B]}:=by
 let#[w,c]:=h.at_.ow;refine#[(show RQ k H' {a with bs:=a.bs++[xb]} S.least↔RQ k H' a S.least by cases k<;>exact Iff.rfl).mpr (h.mn.to λo e=>m _ _ (λq=>?_) e),h.at_.addB m d b f1 f2 hn]
 have q:=JN.mp q
 have:=c.bd;rw[<- q,c.ma]at this;cases this
def Ou.has(h:Ou K CB CD ↑C H a S)(U:Ro K C)(i:Nat){f:Str}{v:V}(e:(yc a S.least)[i]? =↑(f,v))(n:OF K C f):Qm K H a.ma f v:=by
 let#[dx,q]:=h.mn
 exact#[C,dx,_,q,U.cl,n,bR i e (show((yc a S.least).map (·.1)).Nodup from tT)]
def Ou.h_table(h:Ou K CB CD ↑C H a S)(U:Ro K C):Qm K H a.ma "table" (-a.ta):=h.has U 0 rfl U.n_table
def Ou.h_keys(h:Ou K CB CD ↑C H a S)(U:Ro K C):Qm K H a.ma "house_keys" (-a.hk):=h.has U 1 rfl U.n_house_keys
def Ou.h_least(h:Ou K CB CD ↑C H a S)(U:Ro K C):Qm K H a.ma "least_age" (.int S.least):=h.has U 2 rfl U.n_least_age
def Ou.h_doors(h:Ou K CB CD ↑C H a S)(U:Ro K C):Qm K H a.ma "doors" (-a.dd):=h.has U 3 rfl U.n_doors
def Ou.h_buttons(h:Ou K CB CD ↑C H a S)(U:Ro K C):Qm K H a.ma "buttons" (-a.bd):=h.has U 4 rfl U.n_buttons
def Ou.h_kept(h:Ou K CB CD ↑C H a S)(U:Ro K C):Qm K H a.ma "kept" (-a.kl):=h.has U 5 rfl U.n_kept
def Ou.h_opened(h:Ou K CB CD ↑C H a S)(U:Ro K C):Qm K H a.ma "opened" (-a.od):=h.has U 6 rfl U.n_opened
def Ou.no(h:Ou K CB CD ↑C H a S){m:Str}(hm:m∉UP:=by decide +kernel):Ad C H a.ma m:=by
 let#[dx,e]:=h.mn
 exact#[dx,_,e,ef hm]
def Ou.get(h:Ou K CB CD none H a S)(i:Nat){q:qO}{v:V}(e:(Zz a S.least)[i]? =↑(q,v)):OR H a.ma (kV q) ↑v:=by
 have:=OR.k (k:=q) (show H a.ma=↑(.dK (Zz a S.least))from h.mn)
 rw[nY i e (show((Zz a S.least).map (·.1)).Nodup from lu)]at this
 exact this
def Ou.g_table(h:Ou K CB CD none H a S):OR H a.ma (.str "table") ↑(-a.ta):=h.get (q:= .inr "table") 0 rfl
def Ou.g_keys(h:Ou K CB CD none H a S):OR H a.ma (.str "keys") ↑(-a.hk):=h.get (q:= .inr "keys") 1 rfl
def Ou.g_shut(h:Ou K CB CD none H a S):OR H a.ma (.str "shut") ↑(.int S.least):=h.get (q:= .inr "shut") 2 rfl
def Ou.g_doors(h:Ou K CB CD none H a S):OR H a.ma (.str "doors") ↑(-a.dd):=h.get (q:= .inr "doors") 3 rfl
def Ou.g_buttons(h:Ou K CB CD none H a S):OR H a.ma (.str "buttons") ↑(-a.bd):=h.get (q:= .inr "buttons") 4 rfl
def Ou.g_kept(h:Ou K CB CD none H a S):OR H a.ma (.str "kept") ↑(-a.kl):=h.get (q:= .inr "kept") 5 rfl
def Ou.g_opened(h:Ou K CB CD none H a S):OR H a.ma (.str "opened") ↑(-a.od):=h.get (q:= .inr "opened") 6 rfl
def bC{z:Δ}(h:z∈hF a)(m:Mv [z] H H'):Mv (hF a) H H':=m.mono λc n q=>n (JN.mp q▸h)
def cm(hi:a.ds[i]? =↑x)(m:Mv (dS x.a) H H'):Mv (hF a) H H':=m.mono λc n q=>n (mL hi q)
def lf(hi:a.bs[i]? =↑xb)(m:Mv [xb.p,xb.ce] H H'):Mv (hF a) H H':=m.mono λc n q=>n (by
 simp only[JO,JX,JY]at q;rcases q with rfl|rfl
 .exact rD hi
 .exact rC hi)
def Pj.dix(h:Pj K CB CD H a S)(e:qR S.dn nm=↑i):∃x y,a.ds[i]? =↑x/\S.ds[i]? =↑y/\x.nm=nm/\y.nm=nm:=by
 have h1:=bj e;have c:=h1;rw[<- h.dn,JW]at h1;unfold Hs.dn at c;rw[JW]at c;let#[x,d,ex]:=Lo.mp h1;let#[y,g,f]:=Lo.mp c
 exact#[x,y,d,g,ex,f]
def Pj.bix(h:Pj K CB CD H a S)(e:qR S.bn nm=↑i):∃x y,a.bs[i]? =↑x/\S.bs[i]? =↑y/\x.nm=nm/\y.nm=nm:=by
 have h1:=bj e;have c:=h1;rw[<- h.bn,JW]at h1;unfold Hs.bn at c;rw[JW]at c;let#[x,d,ex]:=Lo.mp h1;let#[y,g,f]:=Lo.mp c
 exact#[x,y,d,g,ex,f]
def Pj.gdd(h:Pj K CB CD H a S)(nm:Str):(qR S.dn nm=none/\OR H a.dd (.str nm) none)\/∃i x y,qR S.dn nm=↑i/\a.ds[i]? =↑x/\S.ds[i]? =↑y/\x.nm=nm/\y.nm=nm/\OR H a.dd (.str nm) ↑(-x.a.p):=by
 rcases jz h.dd nm with⟨e,g⟩|⟨i,x,e,d,ex,g⟩
 .exact .inl #[by rw[<- h.dn];exact e,g]
 .have f:qR S.dn nm=↑i:=by rw[<- h.dn];exact e
  let#[m,y,c,l,_,j]:=h.dix f;rw[d]at c;cases c
  exact .inr #[i,x,y,f,d,l,ex,j,g]
def Pj.god(h:Pj K CB CD H a S)(nm:Str):(qR S.dn nm=none/\OR H a.od (.str nm) none)\/∃i x y,qR S.dn nm=↑i/\a.ds[i]? =↑x/\S.ds[i]? =↑y/\x.nm=nm/\y.nm=nm/\OR H a.od (.str nm) ↑(-x.ol):=by
 rcases jz h.od nm with⟨e,g⟩|⟨i,x,e,d,ex,g⟩
 .exact .inl #[by rw[<- h.dn];exact e,g]
 .have f:qR S.dn nm=↑i:=by rw[<- h.dn];exact e
  let#[m,y,c,l,_,j]:=h.dix f;rw[d]at c;cases c
  exact .inr #[i,x,y,f,d,l,ex,j,g]
def Pj.gbd(h:Pj K CB CD H a S)(nm:Str):(qR S.bn nm=none/\OR H a.bd (.str nm) none)\/∃i x y,qR S.bn nm=↑i/\a.bs[i]? =↑x/\S.bs[i]? =↑y/\x.nm=nm/\y.nm=nm/\OR H a.bd (.str nm) ↑(-x.p):=by
 rcases jz h.bd nm with⟨e,g⟩|⟨i,x,e,d,ex,g⟩
 .exact .inl #[by rw[<- h.bn];exact e,g]
 .have f:qR S.bn nm=↑i:=by rw[<- h.bn];exact e
  let#[m,y,c,l,_,j]:=h.bix f;rw[d]at c;cases c
  exact .inr #[i,x,y,f,d,l,ex,j,g]
end
inductive Hd where
 |addD (nm:Str)(near far most:Int)
 |addB (nm:Str)(step:Int)
 |teach (d b:Str)
 |press (b:Str)(deed:Int)(ds:Α)
 |play (k:Int)(d:Str)
 |lose (b:Str)
 |tear (b:Str)
 |turnH (ks:Ε)
 |turnB (b:Str)
 |close (age:Int)
 |forget (d b:Str)
inductive Rf where
 |known|full|worn|unknown|toomany
 |badp (n:Int)
inductive RR where
 |non
 |num (k:Nat)(as:List Β)
 |ans (as:Β)
inductive OZ where
 |ref (r:Rf)
 |ok (S:Hs)(o:RR)
noncomputable def Zu(S:Hs)(nm:Str)(a d c:Int):Dh:=⟨nm,⟨S.t,S.kss,a,d,c,S.least,[]⟩,if 0<S.least then [.close S.least]else [],[]⟩
noncomputable def eZ(S:Hs)(nm:Str)(step:Int):Bt:=⟨nm,S.t,S.kss.getD (S.kss.length-1) [],(S.kss.length:Int)-1,step,0,0,↑0,none⟩
noncomputable def lm(y:Dh)(P R:Ps)(nm:Str)(age c:Int):Dh:={y with D:={y.D with kn:=QL y.D.kn nm ⟨age,c,none⟩},L:=y.L++[.learn P R]}
noncomputable def cy(ks:Ε)(y:Dh):Dh:={y with D:={y.D with kss:=y.D.kss++[ks]},L:=y.L++[.turn ks]}
noncomputable def bV(age:Int)(y:Dh):Dh:={y with D:={y.D with least:=if age>y.D.least then age else y.D.least},L:=y.L++[.close age]}
noncomputable def fD(nm:Str)(y:Dh):Dh:={y with D:={y.D with kn:=y.D.kn.filter λp=>decide (p.1≠nm)},L:=y.L++[.forget nm]}
noncomputable def Bt.turn(B:Bt)(ks:Ε):Bt:={B with ks:=ks,age:=B.age+1}
noncomputable def OE(S:Hs)(k:Nat)(is:Μ):Nat->Hs×List Β
 |0=>(S,[])
 |m+1=>match is[m]? with
  |none=>OE S k is m
  |some i=>match(OE S k is m).1.ds[i]?,(OE S k is m).1.kp[k]? with
   |some y,↑P=>((OE S k is m).1.setD i (ZM y P k),(OE S k is m).2++[(zd y.D P).1])
   |_,_=>OE S k is m
noncomputable def QB(l:Α):Α->Option Μ
 | []=>some []
 |m::r=>match qR l m,QB l r with
  |some i,↑q=>↑(i::q)
  |_,_=>none
noncomputable def iY(S:Hs)(i j:Nat):OZ:=match S.ds[i]?,S.bs[j]? with
 |some y,↑B=>
  if y.D.kn.lookup B.nm≠none then .ref .known
  else if y.D.most<=(y.D.kn.length:Int)then .ref .full
  else if 4094<B.cnt then .ref .worn
  else if B.age<S.least then .ref (.badp 0)
  else .ok ((qW (qW S j B 0) j B.pr 0).setD i (lm y (qY B 0) (qY B.pr 0) B.nm B.age (B.cnt+1))) .non
 |_,_=> .ref .unknown
noncomputable def bL(S:Hs)(b:Str)(f:Nat->Bt->OZ):OZ:=match qR S.bn b with
 |none=> .ref .unknown
 |some j=>match S.bs[j]? with
  |none=> .ref .unknown
  |some B=>f j B
noncomputable def fM(S:Hs)(d:Str)(f:Nat->Dh->OZ):OZ:=match qR S.dn d with
 |none=> .ref .unknown
 |some i=>match S.ds[i]? with
  |none=> .ref .unknown
  |some y=>f i y
noncomputable def zm(S:Hs):Hd->OZ
 | .addD nm near far most=>if(qR S.dn nm).isSome=true then .ref .known else .ok {S with ds:=S.ds++[Zu S nm near far most]} .non
 | .addB nm step=>if(qR S.bn nm).isSome=true then .ref .known else .ok {S with bs:=S.bs++[eZ S nm step]} .non
 | .teach d b=>fM S d λi _=>bL S b λj _=>iY S i j
 | .press b deed ds=>match QB S.dn ds with
  |none=> .ref .unknown
  |some is=>bL S b λj B=>if 4096<=B.cnt then .ref .worn else .ok (OE (qW S j B deed) S.kp.length is is.length).1 (.num S.kp.length (OE (qW S j B deed) S.kp.length is is.length).2)
 | .play k d=>fM S d λi y=>match S.kp[k.toNat]? with
  |none=> .ref (.badp k)
  |some P=>if k<0 then .ref (.badp k)else .ok (S.setD i (ZM y P k.toNat)) (.ans (zd y.D P).1)
 | .lose b=>bL S b λj B=> .ok (S.setB j B.ou) .non
 | .tear b=>bL S b λj B=> .ok (S.setB j B.tn) .non
 | .turnH ks=>if 8<=S.kss.length then .ref .toomany else .ok {S with kss:=S.kss++[ks],ds:=S.ds.map (cy ks)} .non
 | .turnB b=>bL S b λj B=>if(S.kss.length:Int)<=B.age+1 then .ref .worn else .ok (S.setB j (B.turn (S.kss.getD (B.age+1).toNat []))) .non
 | .close age=>if 0<=age/\age<S.kss.length then .ok {S with least:=if age>S.least then age else S.least,ds:=S.ds.map (bV age)} .non else .ref .unknown
 | .forget d b=>fM S d λi y=>if y.D.kn.lookup b=none then .ref .unknown else .ok (S.setD i (fD b y)) .non
def RG(x:Xa)(E:XK)(H:Hp):Rf->Prop
 | .known=>OH E H x.k
 | .full=>OH E H x.f
 | .worn=>OH E H x.w
 | .unknown=>OH E H x.u
 | .toomany=>OH E H x.t
 | .badp n=>RF E H x.b "place" n
def Rh(H:Hp)(v:V):RR->Prop
 | .non=>v= .non
 | .num k as=>∃q t,∃xs:Η,v= .ref q/\H q=↑(.tup [.int (k:Int),-t])/\H t=↑(.tup (xs.map V.ref))/\xs.length=as.length/\∀(i:Nat) (x:Δ) (l:Β),xs[i]? =↑x->as[i]? =↑l->H x=↑(.tup l)
 | .ans as=>∃q,v= .ref q/\H q=↑(.tup as)
def PZ(H:Hp)(a a':Ha):Prop:=∀z∈hF a',z∈hF a\/H z=none
def PZ.refl:PZ H a a:=λz h=> .inl h
structure Rm(d:Hd):Prop where
 ok:match d with
  | .addD nm near far most=>0<=most/\most<=12
  | .addB nm step=>1<=step/\Zo nm
  | .press b deed ds=>ZO deed/\ds.length<=5
  | .turnH ks=>ks.length<=8
  |_=>True
section
variable{n:Nat}{S:Hs}{i j:Nat}{B:Bt}{age:Int}
def oU{l:Α}{z:Str}(h:l.Nodup)(hn:z∉l):(l++[z]).Nodup:=N6.mpr #[h,(by simp),λx a y c e=>hn (by rw[JN.mp c]at e;rw[<- e];exact a)]
def OJ.addD(h:OJ n S){a:Int}(hn:qR S.dn nm=none)(l:0<=a)(g:a<=12):OJ (n+1) {S with ds:=S.ds++[Zu S nm c f a]}:=by
 have h1:=h.mono (Lr n);refine#[h.tp,h.k1,h.k8,h.kk,h.l0,h.l1,λz d=>?_,λB j=>(h.bt B j).to,h.kp,h1.nk,?_,h1.nb,by show((S.ds++[Zu S nm c f a]).map (·.nm)).Nodup;rw[La];exact oU h.un (QZ hn),h.ub]
 .rcases J1.mp d with d|d
  .exact(h1.dr z d).to
  .rw[JN.mp d]
   refine#[23,#[h.tp,h.l0,h.k8,Li _,ME],l,g,?_,Li _,λe i=>nomatch i]
   show(if 0<S.least then [Rw.close S.least]else []).length<=n+1
   split
   .exact LM (Li _)
   .exact Li _
 .show(S.ds++[_]).length<=n+1
  rw[J0];exact LM h.nd
def OJ.addB(h:OJ n S){step:Int}(hx:qR S.bn nm=none)(d:1<=step)(hn:Zo nm):OJ (n+1) {S with bs:=S.bs++[eZ S nm step]}:=by
 have h1:=h.mono (Lr n);have k1:=h.k1;refine#[h.tp,h.k1,h.k8,h.kk,h.l0,h.l1,λz e=>(h1.dr z e).to (hb:=λw c=>?_),λB a=>?_,h.kp,h1.nk,h1.nd,?_,h.un,by show((S.bs++[eZ S nm step]).map (·.nm)).Nodup;rw[La];exact oU h.ub (QZ hx)]
 .show w∈(S.bs++[eZ S nm step]).map (·.nm)
  rw[La];exact J1.mpr (.inl c)
 .rcases J1.mp a with a|a
  .exact(h.bt B a).to
  .rw[JN.mp a]
   refine#[P6.new d,Z,?_,?_,?_,hn]
   .show 0<=(S.kss.length:Int)-1;lia
   .show(S.kss.length:Int)-1<S.kss.length;lia
   .show S.kss.getD (S.kss.length-1) []=S.kss.getD ((S.kss.length:Int)-1).toNat []
    rw[show(S.kss.length:Int)-1=S.kss.length-(1:Nat)from Z,KQ]
 .show(S.bs++[_]).length<=n+1
  rw[J0];exact LM h.nb
def PY.learn(h:PY S n y){P:Ps}(hm:(y.D.kn.length:Int)<y.D.most)(hb:nm∈S.bn):PY S (n+1) (lm y P R nm age c):=by
 have i:=Dk y.D.kn nm #[age,c,none];have g:=h.m1;refine#[h.t,h.k,h.l,#[h.ok.tp,h.ok.l0,h.ok.kl,?_,uY h.ok.nd nm _],?_,h.m1,?_,MD h.lo,λe a=>?_]
 .show(QL y.D.kn nm _).length<=60;lia
 .show((QL y.D.kn nm _).length:Int)<=y.D.most;lia
 .show(y.L++[_]).length<=n+1
  rw[J0];exact LM h.ll
 .have a:e∈QL y.D.kn nm #[age,c,none]:=a
  unfold QL at a;split at a
  .let#[f,h1,d]:=J7.mp a
   split at d
   .rw[<- d];exact hb
   .rw[<- d];exact h.kb f h1
  .rcases J1.mp a with a|a
   .exact h.kb e a
   .rw[JN.mp a];exact hb
def PY.forget(h:PY S n y):PY S (n+1) (fD nm y):=by
 have c:(y.D.kn.filter λp=>decide (p.1≠nm)).length<=y.D.kn.length:=K6 ..
 refine#[h.t,h.k,h.l,#[h.ok.tp,h.ok.l0,h.ok.kl,Lc c h.ok.nl,?_],?_,h.m1,?_,MD h.lo,λe a=>h.kb e (Nr.mp a).1]
 .exact List.Nodup.sublist (List.Sublist.map _ K9) h.ok.nd
 .show((y.D.kn.filter λp=>decide (p.1≠nm)).length:Int)<=y.D.most
  have:=h.m;lia
 .show(y.L++[_]).length<=n+1
  rw[J0];exact LM h.ll
def Au(f:Dh->Dh)(hf:∀y,(f y).nm=y.nm):(S.ds.map f).map (·.nm)=S.ds.map (·.nm):=by
 rw[LY];exact Nc λy _=>hf y
def OJ.turnH(h:OJ n S)(i:S.kss.length<8)(hk:ks.length<=8):OJ (n+1) {S with kss:=S.kss++[ks],ds:=S.ds.map (cy ks)}:=by
 have h1:=h.mono (Lr n);have j:(S.kss++[ks]).length=S.kss.length+1:=by simp
 refine#[h.tp,?_,?_,λk a=>?_,h.l0,?_,λz c=>?_,λB d=>?_,h.kp,h1.nk,?_,h1.nb,by show((S.ds.map (cy ks)).map (·.nm)).Nodup;rw[Au (cy ks) (λy=>rfl)];exact h.un,h.ub]
 .show 1<=(S.kss++[ks]).length;lia
 .show(S.kss++[ks]).length<=8;lia
 .rcases J1.mp a with q|q
  .exact h.kk k q
  .rw[JN.mp q];exact hk
 .show S.least<((S.kss++[ks]).length:Int);have:=h.l1;lia
 .let#[y,f,rfl]:=J7.mp c
  have e:=h.dr y f;refine#[e.t,?_,e.l,#[e.ok.tp,e.ok.l0,?_,e.ok.nl,e.ok.nd],e.m,e.m1,?_,MD e.lo,e.kb]
  .show y.D.kss++[ks]=S.kss++[ks];rw[e.k]
  .show(y.D.kss++[ks]).length<=8;rw[e.k];lia
  .show(y.L++[_]).length<=n+1
   rw[J0];exact LM e.ll
 .have e:=h.bt B d
  have g:=e.a1;have l:=e.a0;refine#[e.ok,e.t,e.a0,?_,?_,e.nm]
  .show B.age<((S.kss++[ks]).length:Int);lia
  .show B.ks=(S.kss++[ks]).getD B.age.toNat []
   rw[Lj,L6 (by lia),<- Lj];exact e.k
 .show(S.ds.map _).length<=n+1
  rw[JI];exact h1.nd
def OJ.close(h:OJ n S)(i:0<=age)(f:age<S.kss.length):OJ (n+1) {S with least:=if age>S.least then age else S.least,ds:=S.ds.map (bV age)}:=by
 have h1:=h.mono (Lr n);have g:=h.l0;have j:=h.l1;refine#[h.tp,h.k1,h.k8,h.kk,?_,?_,λz a=>?_,λB c=>(h.bt B c).to,h.kp,h1.nk,?_,h1.nb,by show((S.ds.map (bV age)).map (·.nm)).Nodup;rw[Au (bV age) (λy=>rfl)];exact h.un,h.ub]
 .show 0<=if age>S.least then age else S.least;split<;>lia
 .show(if age>S.least then age else S.least)<S.kss.length;split<;>lia
 .let#[y,d,rfl]:=J7.mp a
  have e:=h.dr y d;refine#[e.t,e.k,?_,#[e.ok.tp,?_,e.ok.kl,e.ok.nl,e.ok.nd],e.m,e.m1,?_,MD e.lo,e.kb]
  .show(if age>y.D.least then age else y.D.least)=_;rw[e.l]
  .show 0<=if age>y.D.least then age else y.D.least;rw[e.l];split<;>lia
  .show(y.L++[_]).length<=n+1
   rw[J0];exact LM e.ll
 .show(S.ds.map _).length<=n+1
  rw[JI];exact h1.nd
theorem PR.turn(h:PR S B)(ha:B.age+1<S.kss.length):PR S (B.turn (S.kss.getD (B.age+1).toNat [])):=#[#[h.ok.c0,h.ok.cb,h.ok.bm,h.ok.s1,h.ok.eq,h.ok.hx,h.ok.hy],h.t,by show 0<=B.age+1;have:=h.a0;lia,ha,Z,h.nm]
theorem PR.ou(h:PR S B):PR S B.ou:=#[h.ok.ou,h.t,h.a0,h.a1,h.k,h.nm]
theorem PR.tn(h:PR S B):PR S B.tn:=#[h.ok.tn,(Jf B).trans h.t,by rw[sw];exact h.a0,by rw[sw];exact h.a1,by rw[sw,Il];exact h.k,by rw[D0];exact h.nm]
theorem OJ.hearN(h:OJ n S)(k:Nat)(is:Μ):∀m,OJ (n+m) (OE S k is m).1
 |0=>h
 |m+1=>by
  have a:=OJ.hearN h k is m;unfold L3.OE;split
  .exact a.mono (by lia)
  .split
   .rename_i y P c d
    exact a.hear c k
   .exact a.mono (by lia)
def cW(a:S.bs[j]? =↑B):(S.setB j B').bs[j]? =↑B':=by
 show(S.bs.set j B')[j]? =↑B'
 rw[Ka];rw[JK Z,JK (JZ.mp a).1]
def Z2{b:Str}{f:Nat->Bt->OZ}{S':Hs}{o:RR}(h:bL S b f= .ok S' o):∃j B,qR S.bn b=↑j/\S.bs[j]? =↑B/\f j B= .ok S' o:=by
 unfold bL at h;split at h
 .cases h
 .rename_i j c
  split at h
  .cases h
  .rename_i B a
   exact#[j,B,c,a,h]
def fN{d:Str}{f:Nat->Dh->OZ}{S':Hs}{o:RR}(h:fM S d f= .ok S' o):∃i y,qR S.dn d=↑i/\S.ds[i]? =↑y/\f i y= .ok S' o:=by
 unfold fM at h;split at h
 .cases h
 .rename_i j c
  split at h
  .cases h
  .rename_i B a
   exact#[j,B,c,a,h]
theorem bP{l:Α}:∀{ds:Α} {is:Μ},QB l ds=↑is->is.length=ds.length
 | [],is,h=>by cases h;rfl
 |m::r,is,h=>by
  unfold QB at h;split at h
  .rename_i i q h1 a
   cases h
   show q.length+1=r.length+1
   rw[bP a]
  .cases h
def GH(h:OJ n S)(hd:Rm d)(e:zm S d= .ok S' o):OJ (n+6) S':=by
 cases d with
 |addD nm near far most=>
  have e:(if(qR S.dn nm).isSome=true then OZ.ref .known else .ok {S with ds:=S.ds++[Zu S nm near far most]} .non)= .ok S' o:=e
  split at e
  .cases e
  .rename_i q;cases e;exact(h.addD (by cases z:qR S.dn nm with|none=>rfl|some i=>rw[z]at q;exact absurd Z q) hd.ok.1 hd.ok.2).mono (by lia)
 |addB nm step=>
  have e:(if(qR S.bn nm).isSome=true then OZ.ref .known else .ok {S with bs:=S.bs++[eZ S nm step]} .non)= .ok S' o:=e
  split at e
  .cases e
  .rename_i q;cases e;exact(h.addB (by cases z:qR S.bn nm with|none=>rfl|some i=>rw[z]at q;exact absurd Z q) hd.ok.1 hd.ok.2).mono (by lia)
 |teach dn bn=>
  let#[i,y,hi,c,e]:=fN (show fM S dn _=_ from e)
  let#[j,B,f,a,e]:=Z2 e;unfold iY at e;rw[c,a]at e;simp only at e
  split at e
  .cases e
  split at e
  .cases e
  split at e
  .cases e
  split at e
  .cases e
  cases e;rename_i n1 n2 w x
  have u:=h.bt B (JU a);have h1:=h.keep a (by lia) (d:=0) #[⋯,⋯]
  have l:=h1.keep (j:=j) (B:=B.pr) (cW a) (by rw[Z5];lia) (d:=0) #[⋯,⋯]
  have g:PY (qW (qW S j B 0) j B.pr 0) (n+2) y:=(l.dr y (JU c)).mono (by lia)
  refine(l.setD (m:=n+3) (i:=i) (y:=lm y (qY B 0) (qY B.pr 0) B.nm B.age (B.cnt+1)) (by lia) (y':=y) c Z (g.learn (by lia) ?_)).mono (by lia)
  have p:B.nm∈S.bn:=J7.mpr #[B,JU a,Z]
  have r:(qW S j B 0).bn=S.bn:=Qi a (ZJ B)
  have s:(qW (qW S j B 0) j B.pr 0).bn=(qW S j B 0).bn:=Qi (cW a) (ZJ B.pr)
  rw[s,r];exact p
 |press b deed ds=>
  have e:(match QB S.dn ds with
   |none=>OZ.ref .unknown
   |some is=>bL S b λj B=>if 4096<=B.cnt then .ref .worn else .ok (L3.OE (qW S j B deed) S.kp.length is is.length).1 (.num S.kp.length (L3.OE (qW S j B deed) S.kp.length is is.length).2))= .ok S' o:=e
  cases hx:QB S.dn ds with
  |none=>rw[hx]at e;cases e
  |some is=>
   rw[hx]at e;let#[j,B,f,a,e]:=Z2 e;split at e
   .cases e
   cases e;have t:=bP hx;have v:=hd.ok.2
   exact((h.keep a (by lia) hd.ok.1).hearN S.kp.length is is.length).mono (by lia)
 |play k dn=>
  let#[i,y,hi,c,e]:=fN (show fM S dn _=_ from e)
  split at e
  .cases e
  .split at e
   .cases e
   .cases e;exact(h.hear c _).mono (by lia)
 |lose b=>
  let#[j,B,f,a,e]:=Z2 (show bL S b _=_ from e)
  cases e
  exact(h.setB (h.bt B (JU a)).ou a Z).mono (by lia)
 |tear b=>
  let#[j,B,f,a,e]:=Z2 (show bL S b _=_ from e)
  cases e
  exact(h.setB (h.bt B (JU a)).tn a (D0 B)).mono (by lia)
 |turnH ks=>
  have e:(if 8<=S.kss.length then OZ.ref .toomany else .ok {S with kss:=S.kss++[ks],ds:=S.ds.map (cy ks)} .non)= .ok S' o:=e
  split at e
  .cases e
  .cases e;exact(h.turnH (by lia) hd.ok).mono (by lia)
 |turnB b=>
  let#[j,B,f,a,e]:=Z2 (show bL S b _=_ from e)
  split at e
  .cases e
  .cases e;exact(h.setB ((h.bt B (JU a)).turn (by lia)) a Z).mono (by lia)
 |close age=>
  have e:(if 0<=age/\age<S.kss.length then OZ.ok {S with least:=if age>S.least then age else S.least,ds:=S.ds.map (bV age)} .non else .ref .unknown)= .ok S' o:=e
  split at e
  .rename_i q;cases e;exact(h.close q.1 q.2).mono (by lia)
  .cases e
 |forget dn bn=>
  let#[i,y,hi,c,e]:=fN (show fM S dn _=_ from e)
  split at e
  .cases e
  .cases e;exact(h.setD (y:=fD bn y) (Lr n) c Z (h.dr y (JU c)).forget).mono (by lia)
end
def TY(H:Hp)(q:Δ)(ps:List Ps):Prop:=∃c:Η,H q=↑(.tup (c.map V.ref))/\c.length=ps.length/\∀(i:Nat) (a:Δ) (P:Ps),c[i]? =↑a->ps[i]? =↑P->PX H a P
def Sr(K:ι)(CB CD:Δ)(k:Κ)(x:Xa)(H:Hp)(a:Ha)(S:Hs)(d:Hd)(Q:VK)(E:XK):Prop:=
 (∀r,zm S d= .ref r->RG x E H r)/\∀S' o,zm S d= .ok S' o->∀v a' H',Mv (hF a) H H'->PZ H a a'->a'.ma=a.ma->Ou K CB CD k H' a' S'->Rh H' v o->Q v H'
structure Rp(K:ι)(mg:On)(x:Xa)(fI:Δ):Prop extends X16 K mg x fI where
 o_Unknown:RH K x x.u
 o_TooMany:RH K x x.t
 o_Worn:RH K x x.w
section
variable{K:ι}
def Rp.e_Known(X:Rp K mg x fI):aL K x.k (.ref x.e::Qv) Qv "ValueError.__new__"=true:=X.o_Known.e
def Rp.e_Full(X:Rp K mg x fI):aL K x.f (.ref x.e::Qv) Qv "ValueError.__new__"=true:=X.o_Full.e
def Rp.e_Unknown(X:Rp K mg x fI):aL K x.u (.ref x.e::Qv) Qv "ValueError.__new__"=true:=X.o_Unknown.e
def Rp.e_TooMany(X:Rp K mg x fI):aL K x.t (.ref x.e::Qv) Qv "ValueError.__new__"=true:=X.o_TooMany.e
def Rp.e_Worn(X:Rp K mg x fI):aL K x.w (.ref x.e::Qv) Qv "ValueError.__new__"=true:=X.o_Worn.e
end
inductive Ss (K:ι)(C:Δ)(x:Xa)(vs:Β)(H:Hp)(Q:VK)(E:XK):Prop
 |mk (p ta ka ce:Δ)(B:Bt)(d:Int)(h1:vs=[-p,.int d])(h2:Oy K C H p ta ka ce B)(h3:Zo B.nm)(h4:B.t.length=16)(h5:0<=B.cnt)(h6:ZO d)(h7:(4096<=B.cnt->OH E H x.w))(h8:(B.cnt<4096->∀q pc H',Mv [p,ce] H H'->Oy K C H' p ta ka ce B.pr->H' q=↑(.tup [.str B.nm,.int B.age,-pc])->H' pc=↑(.tup ((cz B.t B.ks B.nm B.cnt d).map V.int))->Q (-q) H'))
def jg(K:ι)(C:Δ)(x:Xa):Sp:=λa H Q E=>Ss K C x a H Q E
section
variable(K:ι)(CB CD CH:Δ)(x:Xa)
inductive kW|mk (a:Ha)(S:Hs)(nm:Str)(i:Nat)(y:O8)(h1:vs=[-a.ma,.str nm])(h2:Ou K CB CD ↑CH H a S)(h3:qR S.dn nm=↑i)(h4:a.ds[i]? =↑y)(h5:Q (-y.a.p) H)
inductive vS|mk (a:Ha)(S:Hs)(nm:Str)(i:Nat)(y:Rg)(h1:vs=[-a.ma,.str nm])(h2:Ou K CB CD ↑CH H a S)(h3:qR S.bn nm=↑i)(h4:a.bs[i]? =↑y)(h5:Q (-y.p) H)
def lG(t ks:Ε):Hs:=#[t,[ks],(0),[],[],[]]
inductive oy|mk (p t k dx:Δ)(tt ks:Ε)(h1:vs=[-p,-t,-k])(h2:H p=↑(.ins CH dx []))(h3:Sq K H t (tt.map V.int))(h4:RU H k ks)(h5:∀a H',a.ma=p->Mv [p] H H'->(∀z∈hF a,z=p\/H z=none)->Ou K CB CD ↑CH H' a (lG tt ks)->Q .non H')
inductive T3 (vs:Β)(H:Hp)(Q:VK)(E:XK):Prop
 |mk (a:Ha)(S:Hs)(nm:Str)(h1:vs=[-a.ma,.str nm])(h2:Ou K CB CD ↑CH H a S)(h3:(qR S.dn nm=none->OH E H x.u))(h4:∀i y,qR S.dn nm=↑i->a.ds[i]? =↑y->Q (-y.a.p) H)
def fw:Sp:=λa H Q E=>T3 K CB CD CH x a H Q E
inductive Uw (vs:Β)(H:Hp)(Q:VK)(E:XK):Prop
 |mk (a:Ha)(S:Hs)(nm:Str)(h1:vs=[-a.ma,.str nm])(h2:Ou K CB CD ↑CH H a S)(h3:(qR S.bn nm=none->OH E H x.u))(h4:∀i y,qR S.bn nm=↑i->a.bs[i]? =↑y->Q (-y.p) H)
def fA:Sp:=λa H Q E=>Uw K CB CD CH x a H Q E
inductive T4 (vs:Β)(H:Hp)(Q:VK)(E:XK):Prop
 |mk (a:Ha)(S:Hs)(n j:Nat)(y:Rg)(B:Bt)(d:Int)(h1:vs=[-a.ma,-y.p,.int d])(h2:Ou K CB CD ↑CH H a S)(h3:OJ n S)(h4:n<=990000)(h5:a.bs[j]? =↑y)(h6:S.bs[j]? =↑B)(h7:ZO d)(h8:(4096<=B.cnt->OH E H x.w))(h9:∀H',B.cnt<4096->Mv (hF a) H H'->Ou K CB CD ↑CH H' a (qW S j B d)->Q (.int (S.kp.length:Int)) H')
def ni:Sp:=λa H Q E=>T4 K CB CD CH x a H Q E
inductive T7 (vs:Β)(H:Hp)(Q:VK)(E:XK):Prop
 |mk (a:Ha)(S:Hs)(n:Nat)(nm:Str)(near far most:Int)(h1:vs=[-a.ma,.str nm,.int near,.int far,.int most])(h2:Ou K CB CD ↑CH H a S)(h3:OJ n S)(h4:n<=900000)(h5:Sr K CB CD ↑CH x H a S (.addD nm near far most) Q E)
def vb:Sp:=λa H Q E=>T7 K CB CD CH x a H Q E
inductive T8 (vs:Β)(H:Hp)(Q:VK)(E:XK):Prop
 |mk (a:Ha)(S:Hs)(n:Nat)(nm:Str)(step:Int)(h1:vs=[-a.ma,.str nm,.int step])(h2:Ou K CB CD ↑CH H a S)(h3:OJ n S)(h4:n<=900000)(h5:Sr K CB CD ↑CH x H a S (.addB nm step) Q E)
def uZ:Sp:=λa H Q E=>T8 K CB CD CH x a H Q E
inductive S8 (vs:Β)(H:Hp)(Q:VK)(E:XK):Prop
 |mk (a:Ha)(S:Hs)(n:Nat)(d b:Str)(h1:vs=[-a.ma,.str d,.str b])(h2:Ou K CB CD ↑CH H a S)(h3:OJ n S)(h4:n<=900000)(h5:Sr K CB CD ↑CH x H a S (.teach d b) Q E)
def sr:Sp:=λa H Q E=>S8 K CB CD CH x a H Q E
inductive T9 (vs:Β)(H:Hp)(Q:VK)(E:XK):Prop
 |mk (a:Ha)(S:Hs)(n:Nat)(k:Δ)(ks:Ε)(h1:vs=[-a.ma,-k])(h2:Ou K CB CD ↑CH H a S)(h3:OJ n S)(h4:n<=900000)(h5:RU H k ks)(h6:k∉hF a)(h7:ks.length<=8)(h8:Sr K CB CD ↑CH x H a S (.turnH ks) Q E)
def nW:Sp:=λa H Q E=>T9 K CB CD CH x a H Q E
inductive Ta (vs:Β)(H:Hp)(Q:VK)(E:XK):Prop
 |mk (a:Ha)(S:Hs)(n:Nat)(age:Int)(h1:vs=[-a.ma,.int age])(h2:Ou K CB CD ↑CH H a S)(h3:OJ n S)(h4:n<=900000)(h5:Sr K CB CD ↑CH x H a S (.close age) Q E)
def tj:Sp:=λa H Q E=>Ta K CB CD CH x a H Q E
inductive mI|mk (a:Ha)(S:Hs)(n:Nat)(nm:Str)(i:Nat)(y:Dh)(h1:vs=[-a.ma,.str nm])(h2:Ou K CB CD ↑CH H a S)(h3:OJ n S)(h4:qR S.dn nm=↑i)(h5:S.ds[i]? =↑y)(h6:∀da H',Oq H H'->OO K CD H' da y.D y.L->Q (-da.p) H')
inductive pj|mk (a:Ha)(S:Hs)(nm:Str)(j:Nat)(B:Bt)(h1:vs=[-a.ma,.str nm])(h2:Ou K CB CD ↑CH H a S)(h3:qR S.bn nm=↑j)(h4:S.bs[j]? =↑B)(h5:∀q c H',Oq H H'->H' q=↑(.tup [.int B.age,.int B.cnt,-c])->H' c=↑(.tup [oV B.x,oV B.y])->Q (-q) H')
inductive vZ|mk (a:Ha)(S:Hs)(h1:vs=[-a.ma])(h2:Ou K CB CD ↑CH H a S)(h3:∀q H',Oq H H'->TY H' q S.kp->Q (-q) H')
inductive pX|mk (a:Ha)(S:Hs)(nm:Str)(i:Nat)(y:Dh)(h1:vs=[-a.ma,.str nm])(h2:Ou K CB CD ↑CH H a S)(h3:qR S.dn nm=↑i)(h4:S.ds[i]? =↑y)(h5:∀q H',Oq H H'->H' q=↑(.tup (y.op.map λn:Nat=>V.int (n:Int)))->Q (-q) H')
end
def un(h:Ot H a o z=none):H z=none/\z≠a:=by
 have n:z≠a:=λe=>by rw[e,qb]at h;cases h
 exact#[by rwa [qk n]at h,n]
section
variable{K:ι}{k:Κ}{b:Str}{i j:Nat}{n:Nat}
def Ou.dne(h:Ou K CB CD k H a S):a.dd≠a.od:=λe=>by
 let#[w,c]:=h.at_.ow
 have:=c.dd;rw[e,c.od]at this;cases this
def Ou.dlen(h:Ou K CB CD k H a S):a.ds.length=S.ds.length:=by
 have:=Lh List.length h.at_.dn
 unfold Hs.dn at this
 rwa [JI,JI]at this
def Ou.blen(h:Ou K CB CD k H a S):a.bs.length=S.bs.length:=by
 have:=Lh List.length h.at_.bn
 unfold Hs.bn at this
 rwa [JI,JI]at this
def Ou.putD(h:Ou K CB CD k H a S)(i:Oq H H3)(d:OO K CD H3 da y.D y.L)(fd:∀z∈dS da,H z=none)(hn:qR S.dn y.nm=none)(ho:y.op=[])(hl:S.ds.length<=900000):
  ∃kvs,Rt H3 a.dd (.str y.nm) (-da.p) (Ot H3 a.dd (.dK kvs))/\∀ol,Ot H3 a.dd (.dK kvs) ol=none->∃f,Rt (Ot (Ot H3 a.dd (.dK kvs)) ol (.lst [])) a.od (.str y.nm) (-ol) (Ot (Ot (Ot H3 a.dd (.dK kvs)) ol (.lst [])) a.od (.dK f))/\
   Mv (hF a) H (Ot (Ot (Ot H3 a.dd (.dK kvs)) ol (.lst [])) a.od (.dK f))/\PZ H a {a with ds:=a.ds++[#[y.nm,da,ol]]}/\Ou K CB CD k (Ot (Ot (Ot H3 a.dd (.dK kvs)) ol (.lst [])) a.od (.dK f)) {a with ds:=a.ds++[#[y.nm,da,ol]]} {S with ds:=S.ds++[y]}:=by
 have C:=h.dlen;have j:y.nm∉a.ds.map O8.nm:=by rw[h.at_.dn];exact QZ hn
 have w:=i _ _ h.at_.dd;have A:=i _ _ h.at_.od;have ne:=h.dne;refine#[_,Rt.k (k:=(SJ y.nm:qO)) w (by unfold zv;rw[JI,JV];omega),λol s=>?_]
 let#[f1,n1]:=un s;have t:H ol=none:=Q0 f1 i
 have no:a.od≠ol:=λe=>by have:=h.at_.od;rw[e,t]at this;cases this
 have B:Ot (Ot H3 a.dd (.dK (Px (zv O8.nm (λx=> .ref x.a.p) a.ds) (SJ y.nm) (-da.p)))) ol (.lst []) a.od=↑(.dK (zv O8.nm (λx=> .ref x.ol) a.ds)):=by rw[qk no,qk ne.symm];exact A
 exists _,Rt.k (k:=(SJ y.nm:qO)) B (by unfold zv;rw[JI,JV];omega)
 rw[oi a.ds j,oi a.ds j];have m:Mv [a.dd,a.od] H3 (Ot (Ot (Ot H3 a.dd (.dK (zv O8.nm (λx=>V.ref x.a.p) a.ds++[(SJ y.nm,-da.p)]))) ol (.lst [])) a.od (.dK (zv O8.nm (λx=>V.ref x.ol) a.ds++[(SJ y.nm,-ol)]))):=λc o v e=>by
  simp only[JO,JX,JY,not_or]at v;rw[qk v.2,qk (qr e f1),qk v.1];exact e
 have nt:NT [a.dd,a.od] H3:=λz g=>by
  simp only[JO,JX,JY]at g;rcases g with rfl|rfl
  .exact#[_,w,trivial]
  .exact#[_,A,trivial]
 have p:∀z∈dS da,z∉[a.dd,a.od]:=λz g q=>by
  simp only[JO,JX,JY]at q
  have:=fd z g
  rcases q with rfl|rfl
  .rw[h.at_.dd]at this;cases this
  .rw[h.at_.od]at this;cases this
 have D:=d.mv m nt (p _ (gT _)) (p _ (gL _)) (p _ (gw _)) (p _ (cq _));have r:ol∉dS da:=λq=>by
  let#[o,e,_]:=d.nt ol q;rw[f1]at e;cases e
 exists (i.mv.trans m).mono λc n q=>?_,λz g=>?_
 .simp only[JO,JX,JY]at q
  rcases q with rfl|rfl
  .exact n cC
  .exact n rF
 .rcases OQ.mp g with q|⟨u,l,q⟩|q
  .exact .inl (OQ.mpr (.inl q))
  .rcases J1.mp l with l|l
   .exact .inl (OQ.mpr (.inr (.inl #[u,l,q])))
   .rw[JN.mp l]at q
    rcases q with rfl|q
    .exact .inr t
    .exact .inr (fd z q)
  .exact .inl (OQ.mpr (.inr (.inr q)))
 .refine h.addD (x:=#[y.nm,da,ol]) (i.mv.trans m) ?_ ?_ D ?_ fd t r Z
  .rw[qk ne,qk n1.symm,qb,mW]
  .rw[qb,mW]
  .show _=↑(HO.lst (y.op.map λn:Nat=>V.int (n:Int)))
   rw[ho,qk no.symm,qb];rfl
def Ou.putB{p ce:Δ}{B:Bt}(h:Ou K CB CD k H a S)(e:Oq H H3)(b:RD K CB H3 #[B.nm,p,ce] B)(f1:H p=none)(f2:H ce=none)(hn:qR S.bn B.nm=none)(hl:S.bs.length<=900000):
  ∃kvs,Rt H3 a.bd (.str B.nm) (-p) (Ot H3 a.bd (.dK kvs))/\Mv (hF a) H (Ot H3 a.bd (.dK kvs))/\PZ H a {a with bs:=a.bs++[#[B.nm,p,ce]]}/\Ou K CB CD k (Ot H3 a.bd (.dK kvs)) {a with bs:=a.bs++[#[B.nm,p,ce]]} {S with bs:=S.bs++[B]}:=by
 have l:=h.blen;have f:B.nm∉a.bs.map Rg.nm:=by rw[h.at_.bn];exact QZ hn
 have g:=e _ _ h.at_.bd;exists _,Rt.k (k:=(SJ B.nm:qO)) g (by unfold zv;rw[JI,JV];omega)
 rw[oi a.bs f];have m:Mv [a.bd] H3 (Ot H3 a.bd (.dK (zv Rg.nm (λx=>V.ref x.p) a.bs++[(SJ B.nm,-p)]))):=Mv.upd1
 have nt:NT [a.bd] H3:=NT.one g trivial
 have j:p∉[a.bd]:=λq=>by rw[JN.mp q,h.at_.bd]at f1;cases f1
 have o:ce∉[a.bd]:=λq=>by rw[JN.mp q,h.at_.bd]at f2;cases f2
 exists (e.mv.trans m).mono λc n q=>n (JN.mp q▸lN),λz i=>?_
 .rcases OQ.mp i with q|q|⟨u,d,q⟩
  .exact .inl (OQ.mpr (.inl q))
  .exact .inl (OQ.mpr (.inr (.inl q)))
  .rcases J1.mp d with d|d
   .exact .inl (OQ.mpr (.inr (.inr #[u,d,q])))
   .rw[JN.mp d]at q
    rcases q with rfl|rfl
    .exact .inr f1
    .exact .inr f2
 .refine h.addB (xb:=#[B.nm,p,ce]) (e.mv.trans m) ?_ (b.mv m nt j o) f1 f2 Z
  rw[qb,mW]
def lA{f:Nat->Dh->OZ}(h:qR S.dn d=none):fM S d f= .ref .unknown:=by unfold fM;rw[h]
def aY{f:Nat->Bt->OZ}(h:qR S.bn b=none):bL S b f= .ref .unknown:=by unfold bL;rw[h]
def iR{f:Nat->Dh->OZ}(h:qR S.dn d=↑i)(a:S.ds[i]? =↑y):fM S d f=f i y:=by unfold fM;rw[h];simp only[a]
def bM{f:Nat->Bt->OZ}(h:qR S.bn b=↑j)(a:S.bs[j]? =↑B):bL S b f=f j B:=by unfold bL;rw[h];simp only[a]
noncomputable def fH(S:Hs)(i j:Nat)(y:Dh)(B:Bt):OZ:=if y.D.kn.lookup B.nm≠none then .ref .known
  else if y.D.most<=(y.D.kn.length:Int)then .ref .full
  else if 4094<B.cnt then .ref .worn
  else if B.age<S.least then .ref (.badp 0)
  else .ok ((qW (qW S j B 0) j B.pr 0).setD i (lm y (qY B 0) (qY B.pr 0) B.nm B.age (B.cnt+1))) .non
def oK(hi:qR S.dn d=↑i)(a:S.ds[i]? =↑y)(e:qR S.bn b=↑j)(c:S.bs[j]? =↑B):zm S (.teach d b)=fH S i j y B:=by
 show fM S d _=_
 rw[iR hi a,bM e c]
 show iY S i j=_
 unfold iY fH;rw[a,c]
def cD(ok:OJ n S)(d:y∈S.ds)(a:PR S B)(hl:S.least<=B.age)(hc:B.cnt<4096)(hd:ZO dd):i9 y.D (qY B dd)=↑(B.cnt,dd):=by
 have e:=ok.dr y d;unfold i9 qY;simp only
 have c:Z4 y.D B.age=true:=by
  unfold Z4;rw[Lz]
  exact#[JM (by rw[e.l];exact hl),JM (by rw[e.k];exact a.a1)]
 rw[JK c];have hk:aW y.D B.age=B.ks:=by unfold aW;rw[e.k];exact a.k.symm
 rw[hk,e.t,<- a.t];exact AO (by rw[a.t];exact ok.tp) a.ok.c0 hc hd
end
noncomputable def bo(f:Dh->Dh):Nat->List Dh->List Dh
 |0,l=>l
 |_+1,[]=>[]
 |i+1,y::l=>f y::bo f i l
section
variable{f:Dh->Dh}{K:ι}{k:Κ}{i:Nat}{y:Dh}
theorem sV:∀{l:List Dh} {i:Nat} {y:Dh},l[i]? =↑y->(bo f i l)[i]? =↑y
 | [],i,y,h=>by cases h
 |z::l,0,y,h=>h
 |z::l,i+1,y,h=>sV (l:=l) (i:=i) h
theorem tu:∀{l:List Dh} {i:Nat} {y:Dh},l[i]? =↑y->(bo f i l).set i (f y)=bo f (i+1) l
 | [],i,y,h=>by cases h
 |z::l,0,y,h=>by
  have h:z=y:=Lb h
  rw[h];rfl
 |z::l,i+1,y,h=>by
  show f z::(bo f i l).set i (f y)=f z::bo f (i+1) l
  rw[tu (l:=l) (i:=i) h]
theorem sM:∀(l:List Dh),bo f l.length l=l.map f
 | []=>rfl
 |z::l=>by show f z::bo f l.length l=f z::l.map f;rw[sM l]
def Ou.frzD(h:Ou K CB CD k (Ot H a.dd (.dK kvs)) a S)(hi:a.ds[i]? =↑x)(j:S.ds[i]? =↑y):OO K CD H x.a y.D y.L:=by
 let#[w,f]:=h.at_.ow;have m:Mv [a.dd] (Ot H a.dd (.dK kvs)) H:=λc o l e=>by rw[qk (λz=>l (JN.mpr z))]at e;exact e
 have d:∀z∈dS x.a,z∉[a.dd]:=λz g q=>by have:=f.dr i x hi z g;rw[JN.mp q,f.dd]at this;cases this
 exact(h.at_.de i x y hi j).1.mv m (NT.one qb trivial) (d _ (gT _)) (d _ (gL _)) (d _ (gw _)) (d _ (cq _))
def Ou.frzS(h:Ou K CB CD k (Ot H a.dd (.dK kvs)) a S)(hx:H a.dd=↑(.frz o (.dK kvs)))(hi:a.ds[i]? =↑x)(n:S.ds[i]? =↑y)(m:Mv (dS x.a) H H')(d:OO K CD H' x.a D' L'):
  Ou K CB CD k (Ot H' a.dd (.dK kvs)) a (S.setD i {y with D:=D',L:=L'})/\H' a.dd=↑(.frz o (.dK kvs)):=by
 let#[w,j]:=h.at_.ow;have f:∀z∈dS x.a,z∉[a.dd]:=λz l q=>by have:=j.dr i x hi z l;rw[JN.mp q,j.dd]at this;cases this
 have g:=m _ _ (λq=>f _ q (JN.mpr Z)) hx
 refine#[h.door hi n (λc o p e=>?_) (d.mv (Mv.upd1 (a:=a.dd) (o:= .dK kvs)) (NT.one g trivial) (f _ (gT _)) (f _ (gL _)) (f _ (gw _)) (f _ (cq _))),g]
 by_cases z:c=a.dd
 .rw[z,qb]at e⊢;exact e
 .rw[qk z]at e⊢;exact m c o p e
def DT{i:Nat}{a:qO×V}{f:O8->V}(h:(zv O8.nm f l)[i]? =↑a):∃x,l[i]? =↑x/\a=(SJ x.nm,f x):=by
 unfold zv at h;rw[JW]at h;let#[x,c,e]:=Lo.mp h
 exact#[x,c,e.symm]
def RU.mv{Z:Η}(h:RU H z ks)(m:Mv Z H H')(nt:NT Z H)(n:z∉Z):RU H' z ks:=h.elim (λe=> .inl (m _ _ n e)) λe=> .inr (m.rd nt e)
def Ou.leastI(h:Ou K CB CD ↑C H a S)(U:Ro K C)(l:Int):∃H',bZ K H a.ma "least_age" (.int l) H'/\Mv [a.ma] H H'/\Ou K CB CD ↑C H' a {S with least:=l}:=by
 let#[dx,e]:=h.mn;exists _,#[C,dx,_,e,U.cl,U.n_least_age,by show 7<1000;decide,Z],Mv.upd1
 rw[jC 2 Z (show((yc a S.least).map (·.1)).Nodup from tT)]
 exact#[#[dx,qb],h.at_.man trivial]
def ae{K:ι}{C:Δ}{H:Hp}{fs:List (Str×V)}{f:Str}{v:V}(d:List (Str×V))(c:RT K C)(e:H p=↑(.ins C dx fs))(n:OF K C f)(i:Nat)(a:fs.map (·.1)=UP.take i:=by rfl)(hn:f∉UP.take i:=by decide +kernel)(he:fs++[(f,v)]=d:=by rfl):
  bZ K H p f v (Ot H p (.ins C dx d)):=#[C,dx,fs,e,c,n,by
  have h1:fs.length=(UP.take i).length:=by rw[<- a,JI]
  have g:(UP.take i).length<=7:=by rw[LO];exact Ny _ _
  omega,by rw[gZ (by rw[a];exact hn),he]]
def IQ{p:Δ}(m:Mv [p] H H')(h:H' z=none)(n:z≠p):H z=none:=by
 cases e:H z with
 |none=>rfl
 |some o=>rw[m z o (zr n) e]at h;cases h
def Ou.new{p ta hk dd bd c od:Δ}{t ks:Ε}(L:RQ k H #[p,ta,hk,dd,bd,od,c,[],[]] 0)(tb:OC K H ta (t.map V.int))(A:H hk=↑(.lst [-kt]))(C:Rd H kt (.tup (ks.map V.int)))(G:H dd=↑(.dK []))(u:H bd=↑(.dK []))(n:H c=↑(.lst []))(l:H od=↑(.dK []))(g:∃o,H p=↑o/\jw o)(e:[p,hk,dd,bd,c,od].Nodup):Ou K CB CD k H #[p,ta,hk,dd,bd,od,c,[],[]] (lG t ks):=by
 exists L,tb,#[[kt],A,Z,λi a k h1 d=>?_],G,u,l,#[[],n,Z,λi a P h=>by cases h],9,λi x y h=>by(cases h),λi x y h=>by(cases h),g,λz=>if z=p then .ma else if z=hk then .hk else if z=dd then .dd else if z=bd then .bd else if z=c then .kl else .od
 .match i,h1,d with
  |0,h1,d=>cases h1;cases d;exact .inl C
  |i+1,h1,d=>cases h1
 .simp only[LF,JO,JX,JY,not_or,Nn,and_true]at e
  let#[#[q,r,w,E,B],#[f,I,s,D],#[j,v,J],#[m,F],f1,_]:=e;refine#[JK Z,?_,?_,?_,?_,?_,λi x h=>by(cases h),λi x h=>by(cases h),λi x h=>by(cases h),λi x h=>by(cases h)]<;>simp only
  .rw[JJ (Ne.symm q),JK trivial]
  .rw[JJ (Ne.symm r),JJ (Ne.symm f),JK trivial]
  .rw[JJ (Ne.symm w),JJ (Ne.symm I),JJ (Ne.symm j),JK trivial]
  .rw[JJ (Ne.symm B),JJ (Ne.symm D),JJ (Ne.symm J),JJ (Ne.symm F),JJ (Ne.symm f1)]
  .rw[JJ (Ne.symm E),JJ (Ne.symm s),JJ (Ne.symm v),JJ (Ne.symm m),JK trivial]
end
noncomputable def vf:Rf->Str
 | .known=>"Known"
 | .full=>"Full"
 | .worn=>"Worn"
 | .unknown=>"Unknown"
 | .toomany=>"TooMany"
 | .badp _=>"BadPress"
def DX:Rf->V
 | .badp n=> .int n
 |_=> .non
def Ux(H:Hp)(q:Δ):OZ->Prop
 | .ref r=>H q=↑(.tup [.str "refused",.str (vf r),DX r])
 | .ok _ o=>∃v,H q=↑(.tup [.str "told",v])/\Rh H v o
def Qr(S:Hs):OZ->Hs
 | .ref _=>S
 | .ok S' _=>S'
def Jd(H:Hp)(l:Δ):Hd->Prop
 | .addD nm near far most=>H l=↑(.tup [.str "add_door",.str nm,.int near,.int far,.int most])
 | .addB nm step=>H l=↑(.tup [.str "add_button",.str nm,.int step])
 | .teach d b=>H l=↑(.tup [.str "teach",.str d,.str b])
 | .press b deed ds=>∃p,H l=↑(.tup [.str "press_button",.str b,.int deed,-p])/\Sq [] H p (ds.map V.str)
 | .play k d=>H l=↑(.tup [.str "play_kept",.int k,.str d])
 | .lose b=>H l=↑(.tup [.str "lose_cell",.str b])
 | .tear b=>H l=↑(.tup [.str "tear_cell",.str b])
 | .turnH ks=>∃p,H l=↑(.tup [.str "turn_house",-p])/\H p=↑(.tup (ks.map V.int))
 | .turnB b=>H l=↑(.tup [.str "turn_button",.str b])
 | .close age=>H l=↑(.tup [.str "close_ages",.int age])
 | .forget d b=>H l=↑(.tup [.str "forget_at",.str d,.str b])
section
variable(K:ι)(CB CD:Δ)
def P7(H:Hp)(a:Ha)(S:Hs)(r:OZ)(Q:VK):Prop:=∀q a' H',Mv (hF a) H H'->PZ H a a'->a'.ma=a.ma->Ou K CB CD none H' a' (Qr S r)->Ux H' q r->Q (-q) H'
inductive v6|mk (t k:Δ)(tt ks:Ε)(h1:vs=[-t,-k])(h2:OC K H t (tt.map V.int))(h3:Rd H k (.tup (ks.map V.int)))(h4:∀a H',Oq H H'->(∀z∈hF a,H z=none)->Ou K CB CD none H' a (lG tt ks)->Q (-a.ma) H')
inductive QX|mk (w:Str)(v:V)(h1:vs=[.str w,v])(h2:∀q,H q=none->Q (-q) (Ot H q (.tup [.str "refused",.str w,v])))
inductive ph|mk (a:Ha)(S:Hs)(n:Nat)(word nm:Str)(p:Δ)(d:Hd)(h1:vs=[-a.ma,.str word,.str nm,-p])(h2:Ou K CB CD none H a S)(h3:OJ n S)(h4:n<=900000)(h5:((word="add_door"/\∃near far most,d= .addD nm near far most/\H p=↑(.tup [.int near,.int far,.int most]))\/(word="add_button"/\∃step,d= .addB nm step/\H p=↑(.tup [.int step]))))(h6:P7 K CB CD H a S (zm S d) Q)
inductive lj|mk (a:Ha)(S:Hs)(n i j:Nat)(z:O8)(y:Dh)(u:Rg)(B:Bt)(h1:vs=[-a.ma,-z.a.p,-u.p])(h2:Ou K CB CD none H a S)(h3:OJ n S)(h4:n<=900000)(h5:a.ds[i]? =↑z)(h6:S.ds[i]? =↑y)(h7:a.bs[j]? =↑u)(h8:S.bs[j]? =↑B)(h9:P7 K CB CD H a S (fH S i j y B) Q)
inductive pA|mk (a:Ha)(S:Hs)(n:Nat)(word:Str)(v:V)(d:Hd)(h1:vs=[-a.ma,.str word,v])(h2:Ou K CB CD none H a S)(h3:OJ n S)(h4:n<=900000)(h5:((word="turn_house"/\∃p ks,v= .ref p/\d= .turnH ks/\H p=↑(.tup (ks.map V.int))/\ks.length<=8)\/(word="close_ages"/\∃age,v= .int age/\d= .close age)))(h6:P7 K CB CD H a S (zm S d) Q)
end
section
variable{K:ι}{CB CD:Δ}{k:Κ}{H:Hp}{a:Ha}{S:Hs}{l:Int}
def Ou.leastD(h:Ou K CB CD none H a S)(l:Int):Rt H a.ma (.str "shut") (.int l) (Ot H a.ma (.dK (Zz a l)))/\Ou K CB CD none (Ot H a.ma (.dK (Zz a l))) a {S with least:=l}:=by
 have e:H a.ma=↑(.dK (Zz a S.least)):=h.mn
 refine#[?_,qb,h.at_.man trivial]
 have p:=Rt.k (k:=(SJ "shut":qO)) (v:= .int l) e (by show 7<ζ;decide)
 rw[De 2 Z (show((Zz a S.least).map (·.1)).Nodup from lu)]at p
 exact p
def xj{q:qO}{v:V}(e:H a.ma=↑(.dK (Zz a l)))(i:Nat)(h:(Zz a l)[i]? =↑(q,v)):OR H a.ma (kV q) ↑v:=by
 have:=OR.k (k:=q) e
 rw[nY i h (show((Zz a l).map (·.1)).Nodup from lu)]at this
 exact this
def BA{xs:Β}{x:V}(h:xs[xs.length-1]? =↑x):Q3 xs (-1)=↑x:=by
 rcases List.eq_nil_or_concat xs with rfl|⟨ys,y,rfl⟩
 .cases h
 .rw[List.concat_eq_append]at h⊢
  have:y=x:=by simpa using h
  rw[<- this];exact Fd.1
def Fa{α:Type}(l:List α)(x y:α):(l++[x]).set l.length y=l++[y]:=by simp
def Ou.mne(h:Ou K CB CD k H a S):a.ma≠a.dd:=λe=>by
 let#[w,c]:=h.at_.ow
 have:=c.ma;rw[e,c.dd]at this;cases this
def Ou.lastD{nm:Str}{da:Da}{ol:Δ}{y:Dh}(h:Ou K CB CD k H {a with ds:=a.ds++[#[nm,da,ol]]} {S with ds:=S.ds++[y]})(hn:qR S.dn nm=none)(hl:a.ds.length=S.ds.length)(d:a.ds.map (·.nm)=S.dn):OR H a.dd (.str nm) ↑(-da.p)/\(a.ds++[#[nm,da,ol]])[S.ds.length]? =↑(#[nm,da,ol]:O8)/\(S.ds++[y])[S.ds.length]? =↑y:=by
 have f:(a.ds++[(#[nm,da,ol]:O8)])[S.ds.length]? =some #[nm,da,ol]:=by rw[<- hl];simp
 refine#[?_,f,by simp]
 rcases h.at_.gdd nm with⟨e,g⟩|⟨i,x,y',e,c,_,ex,_,g⟩
 .have e:qR ((S.ds++[y]).map (·.nm)) nm=none:=e
  have j:y.nm=nm:=by
   have:=h.at_.dn
   have this:(a.ds++[(#[nm,da,ol]:O8)]).map (·.nm)=(S.ds++[y]).map (·.nm):=this
   rw[La,La]at this
   have:=List.append_inj_right this (by rw[JI,JI,hl])
   injection this with this
   exact this.symm
  exact absurd (J7.mpr #[y,J1.mpr (.inr (JN.mpr Z)),j]) (QZ e)
 .rcases bg c with c|⟨_,rfl⟩
  .have:nm∈S.dn:=by rw[<- d];exact J7.mpr #[x,JU c,ex]
   exact absurd this (QZ hn)
  .exact g
end
def Fv{xs:Β}{x:V}(hl:2<=xs.length)(h:xs[xs.length-2]? =↑x):Q3 xs (-2)=↑x:=by
 have e:bS xs.length (-2)=↑(xs.length-2):=by
  unfold bS;rw[JJ ⋯,JK (by lia)]
  congr 1
  rw[Int.add_comm];exact KQ xs.length 2
 unfold Q3;rw[e];exact h
section
variable{K:ι}{k:Κ}{j:Nat}{pr:Δ}{d:Int}
def Ou.keepL(h:Ou K CB CD k H a S)(hu:a.bs[j]? =↑u)(s:S.bs[j]? =↑B)(p:Mv [u.p,u.ce] H H1)(q:RD K CB H1 u B.pr)(t:PX H1 pr (qY B d)):
  ∃c:Η,H1 a.kl=↑(.lst (c.map V.ref))/\c.length=S.kp.length/\Ou K CB CD k (Ot H1 a.kl (.lst (c.map V.ref++[-pr]))) a (qW S j B d)/\Mv (hF a) H (Ot H1 a.kl (.lst (c.map V.ref++[-pr]))):=by
 have h1:=h.btn hu s p q (ZJ B);let#[c,g,e,o]:=id h1.at_.kl;have e:c.length=S.kp.length:=e
 have l:Mv [a.kl] H1 (Ot H1 a.kl (.lst (c.map V.ref++[-pr]))):=Mv.upd1
 have f:NT [a.kl] H1:=NT.one g trivial
 have r:Uv (Ot H1 a.kl (.lst (c.map V.ref++[-pr]))) a.kl (S.kp++[qY B d]):=by
  refine#[c++[pr],by rw[qb,La];rfl,by rw[J0,J0,e];rfl,λi u P n m=>?_]
  rcases bq e n m with⟨n,m⟩|⟨rfl,rfl⟩
  .exact OY.mv l f (o i u P n m)
  .exact OY.mv l f t
 exact#[c,g,e,h1.kpt r,(lf hu p).trans (bC mF l)]
end
def cp{K:ι}{k:Κ}{g:TG}{tb:TS}{D:OU}{σ0:L2.St}(r:Ou K CB CD k H1 a S)(f:Dh->Dh)(hf:∀y,f y={y with D:=(f y).D,L:=(f y).L})(e:L2.St->Prop)(M:e σ0)(Aux:Hp->Prop)(A:Aux (Ot H1 a.dd (.frz o (.dK (zv O8.nm (λx=> .ref x.a.p) a.ds)))))
  (hs:∀(i:Nat) (z:O8) (y:Dh) (σ:L2.St) (Hx:Hp),a.ds[i]? =↑z->S.ds[i]? =↑y->e σ->Aux Hx->OO K CD Hx z.a y.D y.L->∀N:L2.St->Hp->Prop,(∀d H',e d->Aux H'->Mv (dS z.a) Hx H'->OO K CD H' z.a (f y).D (f y).L->N d H')->g (-z.a.p) σ Hx λl w=>tb {D with nx:=N,ct:=N,bk:=D.nx} l w)
  (hd:∀σ Hx,e σ->Aux Hx->Hx a.dd=↑(.frz o (.dK (zv O8.nm (λx=> .ref x.a.p) a.ds)))->Mv (hF a) H1 (Ot Hx a.dd (.dK (zv O8.nm (λx=> .ref x.a.p) a.ds)))->Ou K CB CD k (Ot Hx a.dd (.dK (zv O8.nm (λx=> .ref x.a.p) a.ds))) a {S with ds:=S.ds.map f}->D.nx σ Hx):
  ∃W:Nat->Nat->L2.St->Hp->Prop,(∃m,W 0 m σ0 (Ot H1 a.dd (.frz o (.dK (zv O8.nm (λx=> .ref x.a.p) a.ds)))))/\∀i m σ H,W i m σ H->
   ((pG a.dd o (zv O8.nm (λx=> .ref x.a.p) a.ds)).stop i H/\D.nx σ H)\/((pG a.dd o (zv O8.nm (λx=> .ref x.a.p) a.ds)).go i H/\∃N:L2.St->Hp->Prop,(∀d H',N d H'->∃m',m'<m/\W (i+1) m' d H')/\∀x H',(pG a.dd o (zv O8.nm (λx=> .ref x.a.p) a.ds)).yld i H x H'->g x σ H' λl w=>tb {D with nx:=N,ct:=N,bk:=D.nx} l w):=by
 have O:=r.at_.dd;have G:Ot (Ot H1 a.dd (.frz o (.dK (zv O8.nm (λx=> .ref x.a.p) a.ds)))) a.dd (.dK (zv O8.nm (λx=> .ref x.a.p) a.ds))=H1:=by
  funext c
  by_cases z:c=a.dd
  .rw[z,qb,O]
  .rw[qk z,qk z]
 refine C0 (Pv:=λi σ Hx=>e σ/\Aux Hx/\Mv (hF a) H1 Hx/\Hx a.dd=↑(.frz o (.dK (zv O8.nm (λx=> .ref x.a.p) a.ds)))/\Ou K CB CD k (Ot Hx a.dd (.dK (zv O8.nm (λx=> .ref x.a.p) a.ds))) a {S with ds:=bo f i S.ds}) #[M,A,bC cC Mv.upd1,qb,by rw[G];exact r] (λi σ Hx h=>h.2.2.2.1) ?_ ?_
 .rintro i Q σ Hx u ⟨v,j,s,ex,n⟩
  let#[z,q,rfl]:=DT u;have t:i<S.ds.length:=by rw[<- r.dlen];exact(JZ.mp q).1
  have B:=JQ t;have p:(bo f i S.ds)[i]? =some S.ds[i]:=sV B
  refine hs i z _ σ Hx q B v j (n.frzD q p) _ λd H' J I m' P=>?_
  let#[C,F]:=n.frzS ex q p m' P;exists J,I,s.trans (cm q m'),F
  have E:({S with ds:=bo f i S.ds}:Hs).setD i (f S.ds[i])={S with ds:=bo f (i+1) S.ds}:=by
   show({S with ds:=(bo f i S.ds).set i (f S.ds[i])}:Hs)=_
   rw[tu B]
  rw[<- E,hf S.ds[i]];exact C
 .rintro σ Hx ⟨v,j,s,ex,n⟩
  rw[show(zv O8.nm (λx=>V.ref x.a.p) a.ds).length=S.ds.length by unfold zv;rw[JI,r.dlen],sM]at n
  exact hd σ Hx v j ex (s.trans (bC cC Mv.upd1)) n
def lR{K:ι}{te:TE}{Q:VK}{c:Α}(s:Sh H q c n)(hs:∀nm∈c,nm∈n.map (·.1))(hl:c.length<=60)
  (d:∀(Hx:Hp) (a:Δ) (nm:Str) (xs:Β) (g:VK),Hx a=↑(.tup (.str nm::xs))->g (.str nm) Hx->te (↑(-a)::Q1 js σ) Hx g)
  (o:∀l H',Oq H H'->H' l=↑(.lst (c.map V.str))->Q (-l) H'):(∃xs,OC K H q xs)/\bH (i7 K q) js te σ H Q:=by
 let#[x,e,l,r]:=s;refine#[#[_,OC.of e],fV (K:=K) (xs:=x.map V.ref) (by rw[JI,l,JV];lia) (λi ys Hx=>Hx=H/\ys=(c.take i).map V.str) #[9] (λi ys Hx y=>by rw[y.1];exact OC.of e) ?_ ?_]
 .rintro i ys Hx v m f ⟨rfl,rfl⟩
  rw[JW]at m;let#[b,j,rfl]:=Lo.mp m;have hi:i<c.length:=by rw[<- l];exact(JZ.mp j).1
  have h:=JQ hi;let#[z,u]:=Zd (hs _ (L9 hi))
  let#[A,t,_]:=r i b _ z j h u;refine d _ _ _ _ _ t #[Z,?_]
  rw[LP,h,La];rfl
 .rintro ys Hx f ⟨rfl,rfl⟩ p w
  refine o p _ (Oq.upd w) ?_
  rw[qb,JI,l,NZ (JL _)]
section
variable{K:ι}{k:Κ}
def PZ.same(g:PZ H1 a a')(s:Oq H H1):PZ H a a':=λz c=>(g z c).elim .inl λq=> .inr (Q0 q s)
theorem P7.same(h:P7 K CB CD H a S r Q)(s:Oq H H1):P7 K CB CD H1 a S r Q:=λq a' H' m g e d c=>h q a' H' (s.mv.trans m) (g.same s) e d c
def OH.same(h:OH E H C)(s:Oq H H1):OH E H1 C:=λH' e s' a=>h H' e (s.trans s') a
theorem RG.same{r:Rf}(h:RG x E H r)(s:Oq H H1):RG x E H1 r:=by
 cases r with
 |badp n=>exactλH' e d s' a c=>h H' e d (s.trans s') a c
 |_=>exact OH.same h s
theorem Sr.same(h:Sr K CB CD k x H a S d Q E)(s:Oq H H1):Sr K CB CD k x H1 a S d Q E:=#[λr e=>(h.1 r e).same s,λS' o e v a' H' m g c i f=>h.2 S' o e v a' H' (s.mv.trans m) (g.same s) c i f]
def Rh.same(h:Rh H v o)(s:Oq H H1):Rh H1 v o:=by
 cases o with
 |non=>exact h
 |num k as=>let#[q,t,xs,e,a,d,l,r]:=h;exact#[q,t,xs,e,s _ _ a,s _ _ d,l,λi x l h1 c=>s _ _ (r i x l h1 c)]
 |ans as=>let#[q,e,a]:=h;exact#[q,e,s _ _ a]
end
def we:zY X (.builtin "isinstance") (λxs H Q=>∃(a C f:Δ) (dd:Κ) (l:Η) (b:Bool),xs=[-a,-f]/\H a=↑(Rl a (-C) dd)/\RO X.K C/\H f=↑(.tup (l.map V.ref))/\W.kitAny X.K (-C) (l.map Γ.ref)=↑b/\Q (.bl b) H):=by
 intro tx s σ H xs D Q I r h;let#[a,C,f,dd,l,b,rfl,A,m,y,hk,q]:=h;let#[u,v,rfl,x,t]:=em r;cases x
 cases(show v=Γ.ref f from t)
 let#[#[o,E,e,g,_],_]:=I.hok a _ A;let#[i,j,#[#[cl,dd,w,B],p,c,n,d],_]:=I.tuple (OC.of y)
 replace c:cl= .type "tuple":=c
 replace d:w= .seq i.toArray n:=d
 subst c d;rw[<- yl j]at hk;exact MB (sN m) I.kIn #[o,e,g] p hk (λz=>nomatch z) λtk=>#[.bl _,H,I.tok tk,Z,q]
def Xa.six(x:Xa):Η:=[x.k,x.f,x.w,x.u,x.t,x.b]
noncomputable def RK:Α:=["Known","Full","Worn","Unknown","TooMany","BadPress"]
structure Ru(x:Xa)(C:Δ)(wd:Str)(j:Nat):Prop where
 l:x.six.map (λD=>decide (C=D))=(C2 6).map λm=>decide (m=j)
 j6:j<6
 w:RK[j]? =↑wd
 n:C∉[x.l,x.r]
def Bd{x:Xa}(c:x.all.Nodup):x.six.Nodup/\∀C∈x.six,C∉[x.l,x.r]:=by
 simp only[Xa.all,LF,JO,JX,JY,not_or,Nn,and_true]at c;let#[#[d,z,o,u,m,e,y],#[k1,k2,k3,v,k5,f],#[f1,f2,w,B,g],#[t,l,n,A],#[p,j,r],#[s,i],D,_]:=c;constructor
 .simp only[Xa.six,LF,JO,JX,JY,not_or,Nn,and_true]
  exact#[#[k1,v,k2,k3,Ne.symm d],#[w,f1,f2,Ne.symm z],#[Ne.symm l,Ne.symm p,Ne.symm m],#[t,Ne.symm o],Ne.symm u,trivial,ME]
 .intro C a q
  simp only[Xa.six,JO,JX,JY]at a q;rcases q with rfl|rfl
  .rcases a with h|h|h|h|h|h
   .exact k5 h.symm
   .exact B h.symm
   .exact s h.symm
   .exact n h.symm
   .exact j h.symm
   .exact e h.symm
  .rcases a with h|h|h|h|h|h
   .exact f h.symm
   .exact g h.symm
   .exact i h.symm
   .exact A h.symm
   .exact r h.symm
   .exact y h.symm
def Ru.of{x:Xa}{C:Δ}{c:Str}{j:Nat}(a:x.all.Nodup)(h:x.six[j]? =↑C)(d:j<6)(w:RK[j]? =↑c):Ru x C c j:=by
 have e:∀m:Nat,((C2 6).map λi=>decide (i=j))[m]? =if m<6 then ↑(decide (m=j))else none:=λm=>by
  rw[JW]
  by_cases z:m<6
  .rw[JK z,N9 z];rfl
  .rw[JJ z,Ng (by rw[List.length_range];lia)];rfl
 exact#[List.ext_getElem? λm=>by rw[IC (Bd a).1 h m,e m];rfl,d,w,(Bd a).2 C (JU h)]
theorem Ru.count(m:Ru x C a j):(x.six.map λD=>decide (C=D)).count true=1:=by
 rw[m.l]
 have:∀j<6,((C2 6).map λm=>decide (m=j)).count true=1:=by decide
 exact this j m.j6
def Ru.hit(m:Ru x C c j):(x.six.map λD=>decide (C=D))[j]? =↑true/\∀i,i<j->(x.six.map λD=>decide (C=D))[i]? =↑false:=by
 rw[m.l];have a:=m.j6;refine#[?_,λi hi=>?_]
 .rw[JW,N9 a];simp
 .rw[JW,N9 (by lia)]
  show ↑(decide (i=j))=↑false
  rw[JT (by lia)]
structure Uy(K:ι)(x:Xa)(C:Δ)(wd:Str)(j:Nat):Prop where
 c:RO K C
 i:∀D∈x.all,SY K (-C) (-D)=↑(decide (C=D))
 v:SY K (-C) (.type "ValueError")=↑true
 m:Ru x C wd j
 s:wN K x.e (-C)
def Uy.one{K:ι}(o:RH K x C)(m:Ru x C a j):Uy K x C a j:=#[o.c,o.i,o.v,m,26,.inl o.e,by rw[Nj];simp]
noncomputable def Gu(x:Xa):Rf->Δ
 | .known=>x.k
 | .full=>x.f
 | .worn=>x.w
 | .unknown=>x.u
 | .toomany=>x.t
 | .badp _=>x.b
theorem Rp.cl{K:ι}(X:Rp K mg x fI)(r:Rf):∃j,Uy K x (Gu x r) (vf r) j:=by
 cases r with
 |known=>exact#[(0),Uy.one X.o_Known (Ru.of X.nd Z ⋯ Z)]
 |full=>exact#[(1),Uy.one X.o_Full (Ru.of X.nd Z ⋯ Z)]
 |worn=>exact#[(2),Uy.one X.o_Worn (Ru.of X.nd Z ⋯ Z)]
 |unknown=>exact#[(3),Uy.one X.o_Unknown (Ru.of X.nd Z ⋯ Z)]
 |toomany=>exact#[(4),Uy.one X.o_TooMany (Ru.of X.nd Z ⋯ Z)]
 |badp n=>exact#[(5),X.bp.f.cl,X.bp.i,X.bp.v,Ru.of X.nd Z ⋯ Z,26,.inr #[_,X.bp.f.bi],by rw[Nj];simp]
inductive pY(K:ι)(x:Xa)|mk (e C:Δ)(dd:Κ)(wd:Str)(j:Nat)(h1:vs=[-e])(h2:H e=↑(Rl e (-C) dd))(h3:Uy K x C wd j)(h4:∀H',Oq H H'->Q (.str wd) H')
def sW(p d:Δ):HO:= .ext λh=>h.IsItemsView p d
inductive Uz (x:V)(vs:Β)(H:Hp)(Q:VK):Prop
 |mk (d:_)(kvs:_)(h1:x= .ref d)(h2:vs=[])(h3:H d=↑(.dK kvs))(h4:∀p,H p=none->Q (-p) (Ot H p (sW p d)))
def yw:V->Β->Hp->VK->Prop:=λx a H Q=>Uz x a H Q
def DH:i8 X "dict.items" yw:=by
 intro tx s σ H x i v t Q I l m h;let#[d,kvs,rfl,rfl,p,q]:=h;cases l;cases m;let#[z,lo,i,j,g]:=cE I.hok p;refine PySem.call_meetsIn PySem.F.slot_dict_items g.typeIs PySem.F.entry_dict_items (PySem.F.args_dict_items_1 _) (meets_dict_items (zf X.prog X.w) d lo) #[#[i,g],?_]
 have e:(s.heap.push {cls:= .type "dict_items",data:= .fields (B0 [-d])}).get? s.heap.objs.size=some {cls:= .type "dict_items",data:= .fields (B0 [-d])}:=J2 _ Z
 have n:=I.laid (a:=s.heap.objs.size) (o:=sW s.heap.objs.size d) (t':=s.toks) (h':=s.heap.push {cls:= .type "dict_items",data:= .fields (B0 [-d])}) (λb u e=>JR _ e) (JL _) #[#[_,e,9],#[_,e],λh1 r ⟨o,e,c,f⟩ k=>#[o,k o e,c,f]]
 exact#[.ref _,_,n,Z,q _ (I.hok.fresh (JL _))]
noncomputable def AF(d:Δ)(o:Obj)(kvs:List (qO×V)):It:=
 #[λi H=>H d=↑(.frz o (.dK kvs))/\i<kvs.length,λi H x H'=>∃p a,H p=none/\x= .ref p/\kvs[i]? =↑a/\H'=Ot H p (.tup [kV a.1,a.2]),λi H=>H d=↑(.frz o (.dK kvs))/\kvs.length<=i]
def ir:entryFor table "dict_itemiterator.__iter__"=some γ.«dict_keyiterator.__iter__»:=entryFor_alias (id':="dict_keyiterator.__iter__") (by kernel_rfl) Z nofun (by kernel_rfl)
def lY{prog:Ξ}{w:Ω}{s:Θ}{ok:Γ}{Q:Om}(hit:IsItemIter s.heap it d i n ep ok c)(h:Q (-it) s):ε (model prog w) A (pyIter (-it)) Q E s:=by
 have a:s.TypeIs (-it) "dict_itemiterator":=#[_,hit,Z]
 refine wpAny_pyIter_slot a Sa (LK Sa a ir ?_ (PySem.F.args_dict_itemiterator_iter_1 _))
 show ε _ _ (ret (-it)) _ _ s
 exact JP #[0,"dict_itemiterator",_,a,PySem.F.slot_dict_itemiterator_next.lookup,h]
def wJ{K:ι}{x1}(d it:Δ){o:Obj}(M:∀h:Ψ,h.get? d=↑o->h.DictAt (zf P w) d vs ep)(c:KV kvs vs):
  Rq P w K (.Tuple n x1 pos) (AF d o kvs) [it] it (λi h=>∃ok j,IsItemIter h it d i vs.length ep ok j) where
 mem:=by simp
 obj:=λi h st b a=>by
  have e:b=it:=by simpa using a
  subst e;let#[ok,j,st]:=st;refine#[_,st,λv z=>?_]
  have U:Sg _=Sf v:=z
  cases U
 keep:=λi h h' st k=>let⟨ok,j,e⟩:=st;#[ok,j,k it (by simp) _ e]
 item:=by
  intro X A B D N i tx s σ H E I t st y;subst A B D;let#[L,hi]:=y;let#[ok,j,st]:=st;have l:=(I.hok d _ L).1;have C:i<vs.length:=by rw[<- c.length];exact hi
  have x:vs[i]? =↑(vs[i].1,vs[i].2):=JQ C
  have hk:kvs[i]? =some kvs[i]:=JQ hi
  have G:kvs[i].1=vs[i].1:=Bk c i _ _ hk x
  have F:Oz kvs[i].2 vs[i].2:=sH c i _ _ hk x
  refine wpAny_pyNext_items_item st (M _ l) x λkey h' m O Y R J=>#[0,?_]
  refine wpAny_letOwnedTupleGo_items O λu g f=>?_
  have p:it<s.heap.objs.size:=JS st
  exists .ref s.heap.objs.size,Ot H s.heap.objs.size (.tup [kV kvs[i].1,kvs[i].2]),?_,Z,#[8,I.hok.fresh (JL _),Z,hk,Z],#[8,g]
  .show L2.Ov X tx σ _ {s with heap:=u,toks:=s.toks}
   refine jA (s:=s) (its:=[key,vs[i].2]) I (ch:=[it]) (λb o a q=>?_) t (λb a=>?_) (JL _) (by show 2<=ζ;decide) (.cons (by rw[G];exact BM m) (.cons F .nil)) ?_
   .have r:b≠it:=λz=>a (by simp [z])
    exact(f.2 b r).trans (J b o r q)
   .rw[JN.mp a];exact#[_,g]
   .exact#[_,(f.2 _ (LB p)).trans Y,7]
  .intro b a
   rw[JN.mp a,qk (J4 p)]
   exact(t it (by simp)).1
 done:=by
  intro X A B D N i tx s σ H E I t st y;subst A B D;let#[L,hi]:=y;let#[ok,j,st]:=st;have l:=(I.hok d _ L).1;let#[T,f1,f2,W,f4,Q]:=t it (by simp)
  have hl:=c.length;exact wpAny_pyNext_items_end (I.ok.hd N) st (M _ l) (Ng (by lia)) λh' S=>#[Z,I.turned (t':=s.toks) (λb o a e=>S b o a e) T f1 W f4 Q]
 self:=λ_ _ _ _ _ st h=>by
  let#[ok,j,st]:=st;exact lY st h
def Gv(tl:TE):TI:=λσ H R=>tl σ H λx H1=>∃p d kvs,x= .ref p/\H1 p=↑(sW p d)/\H1 d=↑(.dK kvs)/\∀o,R (AF d o kvs) (Ot H1 d (.frz o (.dK kvs)))
def sY{x1}(hl:QE X l tl):QI X (.Tuple g x1 tpos) l (Gv tl):=#[by
 intro tx s σ H R I h;refine qG (hl.h tx s σ H _ I h) λv a G=>?_
 let#[x,H1,m,K,J]:=G;let#[p,d,kvs,e,F,D,q]:=J;subst e;cases K;have n:a.heap.IsItemsView p d:=(m.hok p _ F).1
 let#[z,lo,C,f,o,es,t,i,A,y,w,r,B]:=cE m.hok D;have c:∀h:Ψ,h.get? d=↑o->h.DictAt (zf X.prog X.w) d C t:=λh e=>#[o,es,e,A,y,w,r,B]
 refine wpAny_pyIter_items n (c _ i) ?_
 have j:=m.write (x:=d) (e:=d) (o:= .frz o (.dK kvs)) (h':=a.heap) (t':=a.toks) (by rw[D];exact SM) (.inl Z) (λb u _ e=>e) #[o,i] #[i,z,lo,C,f,o,es,t,i,A,y,w,r,B]
 refine#[a.heap.objs.size,[a.heap.objs.size],19,j.kept (t':=a.toks) λb o e=>JR _ e,wJ d _ c f,#[8,J2 _ Z],λb E=>?_,q o]
 have e:b=a.heap.objs.size:=by simpa using E
 subst e;exact j.fpOk (JL _) (j.hok.fresh (JL _))]
def FP(td:TE):TE:=λσ H Q=>td σ H λx H1=>yw x [] H1 Q
def oZ{apos cpos:Pos}(ho:QE X o td)(a:attributeBase o "items" X.env (eval o X.env)=eval o X.env:=by rfl)(c:(apos.endLine==cpos.line)=true:=by rfl):QE X (.Call (.Attribute o "items" apos) [] [] cpos) (FP td):=#[by
 intro tx s σ H Q I h;refine NX a c (qG (ho.h tx s σ H _ I h) λv g n=>?_)
 let#[x,H1,e,i,f]:=n;let#[d,kvs,ex,p,m,q]:=id f;subst ex
 obtain rfl:v=Γ.ref d:=i
 let#[j,l,_]:=mD e (.inl #[kvs,.inl m])
 exact#["dict","dict.items",NL,PySem.F.slot_dict_items,PySem.F.type_dict_items,j,l,MM Z (NY (DH tx g σ H1 (-d) [] (-d) [] Q e Z .nil f))]]
def oW{g:TG}{tb:TS}{D:OU}{σ:L2.St}{H:Hp}(Pv:Nat->L2.St->Hp->Prop)(l:Pv 0 σ H)(hl:∀i σ H,Pv i σ H->H d=↑(.frz o (.dK kvs)))
  (hs:∀i h p σ H,kvs[i]? =↑h->Pv i σ H->H p=none->g (-p) σ (Ot H p (.tup [kV h.1,h.2])) λa j=>tb {D with nx:=Pv (i+1),ct:=Pv (i+1),bk:=D.nx} a j)(hd:∀σ H,Pv kvs.length σ H->D.nx σ H):
  ∃W:Nat->Nat->L2.St->Hp->Prop,(∃m,W 0 m σ H)/\∀i m σ H,W i m σ H->
   ((AF d o kvs).stop i H/\D.nx σ H)\/((AF d o kvs).go i H/\∃N:L2.St->Hp->Prop,(∀f H',N f H'->∃m',m'<m/\W (i+1) m' f H')/\∀x H',(AF d o kvs).yld i H x H'->g x σ H' λa j=>tb {D with nx:=N,ct:=N,bk:=D.nx} a j):=by
 exists λi m σ H=>m=kvs.length-i/\i<=kvs.length/\Pv i σ H,#[kvs.length,by simp,Li _,l]
 rintro i m σ H ⟨rfl,hi,p⟩
 by_cases c:i<kvs.length
 .refine .inr #[#[hl i σ H p,c],Pv (i+1),λf H' n=>#[kvs.length-(i+1),gN c,Z,c,n],?_]
  rintro x H' ⟨q,h,r,rfl,e,rfl⟩
  exact hs i h q σ H e p r
 .have:i=kvs.length:=by lia
  subst this;exact .inl #[#[hl _ σ H p,JL _],hd σ H p]
inductive vo(n:Nat)|mk (c d:Δ)(xs ys:Β)(h1:vs=[-c,-d])(h2:H c=↑(.lst xs))(h3:H d=↑(.lst ys))(h4:xs.length=ys.length)(h5:xs.length<=ζ)(h6:(∀(i:Nat)(x y:V),xs[i]? =↑x->ys[i]? =↑y->RB H n x y))(h7:∀H',Oq H H'->Q (.bl true) H')
theorem tX:∀{l:Α} {i:Nat} {z:Str},l.Nodup->l[i]? =↑z->qR l z=↑i
 | [],i,z,_,h=>by cases h
 |y::r,0,z,_,h=>by
  have h:y=z:=Lb h
  unfold qR;rw[JK h]
 |y::r,i+1,z,nd,h=>by
  have h:r[i]? =↑z:=h
  have a:=LF.mp nd;unfold qR;rw[JJ (λe:y=z=>a.1 (by rw[e];exact JU h)),tX a.2 h];rfl
def RB.up:∀{n:Nat} {x y:V},RB H n x y->RB H (n+1) x y:=λh=>by
 induction h with
 |int n i=>exact .int _ i
 |str n x=>exact .str _ x
 |non n=>exact .non _
 |tup h1 h2 hl hz _ ih=>exact .tup h1 h2 hl hz ih
theorem TY.eqv{ps:List Ps}(h1:TY H q ps)(h2:TY H e ps)(ok:∀P∈ps,RM P)(hl:ps.length<=2000000):RB H 3 (-q) (-e):=by
 let#[r,m,c,j]:=h1;let#[bs,p,h,o]:=h2;refine .tup (n:=2) (.inl m) (.inl p) (by simp [c,h]) (by rw[JI,c,JV];lia) λi x y ex d=>?_
 rw[JW]at ex d;let#[a,g,rfl]:=Lo.mp ex;let#[b,l,rfl]:=Lo.mp d;have hi:i<ps.length:=by rw[<- c];exact(JZ.mp g).1
 have f:=JQ hi;exact PX.eqv (j i a _ g f) (o i b _ l f) (ok _ (L9 hi))
def Dj{H:Hp}{n:Nat}{a:Μ}(h1:H q=↑(.tup (a.map λn:Nat=>V.int (n:Int))))(h2:H d=↑(.tup (a.map λn:Nat=>V.int (n:Int))))(hl:a.length<=2000000):RB H (n+1) (-q) (-d):=by
 refine .tup (.inl h1) (.inl h2) Z (by rw[JI,JV];lia) λi x y ex c=>?_
 rw[ex]at c;cases c
 rw[JW]at ex;let#[z,e,rfl]:=Lo.mp ex;exact .int _ _
def FQ{H:Hp}{B:Bt}(h1:H q=↑(.tup [.int B.age,.int B.cnt,-c]))(g:H c=↑(.tup [oV B.x,oV B.y]))(h2:H d=↑(.tup [.int B.age,.int B.cnt,-c']))(f:H c'=↑(.tup [oV B.x,oV B.y])):RB H 3 (-q) (-d):=by
 have e:∀(o:Λ),RB H 1 (oV o) (oV o):=λo=>by cases o<;>constructor
 refine .tup (n:=2) (.inl h1) (.inl h2) Z (by show 3<=ζ;decide) λi x y ex a=>?_
 match i,ex,a with
 |0,ex,a=>cases ex;cases a;exact .int _ _
 |1,ex,a=>cases ex;cases a;exact .int _ _
 |2,ex,a=>
  cases ex;cases a
  refine .tup (n:=1) (.inl g) (.inl f) Z (by show 2<=ζ;decide) λi x y ex a=>?_
  match i,ex,a with
  |0,ex,a=>cases ex;cases a;exact e _
  |1,ex,a=>cases ex;cases a;exact e _
  |i+2,ex,a=>cases ex
 |i+3,ex,a=>cases ex
def IH{i:Nat}{a:qO×V}{f:Rg->V}(h:(zv Rg.nm f l)[i]? =↑a):∃x,l[i]? =↑x/\a=(SJ x.nm,f x):=by
 unfold zv at h;rw[JW]at h;let#[x,c,e]:=Lo.mp h
 exact#[x,c,e.symm]
def pN{H:Hp}(e:H d=↑(.dK kvs))(g:Oq H H1)(f:Oq (Ot H1 d (.frz o (.dK kvs))) Hx):Oq H (Ot Hx d (.dK kvs)):=λc u a=>by
 by_cases z:c=d
 .rw[z,qb];rw[z,e]at a;exact a
 .rw[qk z];exact f c u (by rw[qk z];exact g c u a)
structure W2(K:ι)(CB CD C:Δ)(H:Hp)(aH aO:Ha)(S:Hs):Prop where
 hh:Ou K CB CD ↑C H aH S
 oo:Ou K CB CD none H aO S
 dj:∀z∈hF aH,z∉hF aO
theorem W2.same{K:ι}(w:W2 K CB CD C H aH aO S)(s:Oq H H'):W2 K CB CD C H' aH aO S:=#[w.hh.same s,w.oo.same s,w.dj]
inductive oJ(K:ι)(CB CD C:Δ)|mk (aH aO:Ha)(S:Hs)(n:Nat)(h1:vs=[-aH.ma,-aO.ma])(h2:W2 K CB CD C H aH aO S)(h3:OJ n S)(h4:n<=900000)(h5:∀H',Oq H H'->Q (.bl true) H')
open PySem.W (kdl_dict kdl_call)
def gc(hc:X.calm=true):zY X (.type "list") (λxs H Q=>∃(d:Δ) (kvs:List (qO×V)) (a:Α),xs=[-d]/\H d=↑(.dK kvs)/\kvs.map (·.1)=a.map SJ/\a.length<=2000/\∀l,H l=none->Q (-l) (Ot H l (.lst (a.map V.str)))):=by
 intro tx s σ H xs P Q I r h;let#[d,kvs,a,rfl,N,n,R,q]:=h;let#[u,rfl,E]:=QU r;cases E;let#[z,lo,m,p,o,es,ep,C,L,K,J,A,M]:=cE I.hok N;have c:m.map (·.1)=a.map SJ:=by rw[<- n,p.keys]
 have g:m.length=a.length:=by have:=Lh List.length c;rwa [JI,JI]at this
 refine kdl_call (kdl_dict (knd:=zf X.prog X.w) (ep:=ep) (kvs:=m) lo) (I.ok.hd hc) (#[o,es,C,L,K,J,A,M]:s.heap.DictAt (zf X.prog X.w) d m ep) (by rw[JV];lia) λh' tk i c' hk F t=>?_
 have B:StrsAre i.toList a:=nj (by rw[Mc];exact t.1.trans g) λj v e=>by
  let#[k,x,O,G]:=t.2 j v (by rw[<- K7];exact e)
  have f:(m.map (·.1))[j]? =↑k:=by rw[JW,O];rfl
  rw[c,JW]at f;cases e4:a[j]? with
  |none=>rw[e4]at f;cases f
  |some y=>
   rw[e4]at f;have D:SJ y=k:=Lb f
   subst D;have w:Γ.isStrOf y v=true:=G
   cases v<;>simp [Γ.isStrOf]at w
   subst w
   exact#[4]
 refine#[-s.heap.objs.size,_,I.laid (h':=h') (t':=tk) (o:= .lst (a.map V.str)) hk (JL _) ?_,Z,q _ (I.hok.fresh (JL _))]
 exact#[by rw[JI,JV];lia,i.toList,c',eF B,F]
theorem pJ:∀{us:Ζ} {a:Α},OB (a.map V.str) us->StrsAre us a
 | [],[],_=> .nil
 | [],_::_,h=>by cases h
 |_::_,[],h=>by cases h
 |u::us,x::a,h=>by
  cases h with
  |cons r t=>let#[c,rfl]:=r;exact .cons _ _ (pJ t)
def uo:zY X (.builtin "sorted") (λxs H Q=>∃(p:Δ) (d:Α),xs=[-p]/\H p=↑(.lst (d.map V.str))/\d.length<64/\
  ∀l a,H l=none->a.Perm d->sortedS a=true->Q (-l) (Ot H l (.lst (a.map V.str)))):=by
 intro tx s σ H xs z Q I r h;let#[p,d,rfl,w,y,q]:=h;let#[u,rfl,v]:=QU r;cases v;let#[f,g,x,_]:=I.list (OA.of w)
 have n:=g.length;rw[JI]at n;refine sorted_strs x.isList (pJ g) (by lia) λc a j i t=>?_
 let#[e,m]:=sortedAll_at s.heap f c;refine#[.ref (s.heap.objs.size+1),_,I.laid (t':=s.toks) (o:= .lst (a.map V.str)) (λb o q=>sortedAll_old q) (Lr _) ?_,Z,q _ a (I.hok.fresh (Lr _)) i t]
 have A:a.length=d.length:=i.length_eq
 exact#[by rw[JI,JV];lia,c.toList,e,eF j,m]
inductive Va (K:ι)(x:V)(y:V)(H:Hp)(Q:VK):Prop
 |mk (a b:Δ)(xs:Β)(h1:x= .ref a)(h2:y= .ref b)(h3:OA K H a xs)(h4:OA K H b [])(h5:Q (.bl xs.isEmpty) H)
def Jo(K:ι):R2:=λx y H Q=>Va K x y H Q
def HV{k:Nat}(hr:OL k X.A):Qj X (SL .Eq) (Jo X.K):=by
 intro tx s σ H x y v u Q I n t h;let#[a,b,xs,rfl,rfl,B,w,q]:=h;cases n;cases t;have g:X.A.units+1<cLine:=by have:=hr.un;lia
 let#[d,p,i,_]:=I.list B;let#[c,o,p2,_]:=I.list w;have l:=p.length;have f:=o.length;cases xs with
 |nil=>
  refine SeqAt.eq_listAt (e:=λ_=>true) i.isList p2.isList (by simp;lia) (Pr g) (λj h1 m=>?_) #[.bl _,H,I,?_,q]
  .have A:j<c.length:=by simpa using m
   have:c.length=0:=by rw[<- f];rfl
   lia
  .show Γ.bool _=Γ.bool _
   congr 1
   have z:d.toArray.size=0:=by rw[J9,<- l];rfl
   rw[z];rfl
 |cons x r=>
  refine SeqAt.eq_list_lengthsAt i.isList p2.isList (by
   have C:d.length=r.length+1:=by rw[<- l];rfl
   have D:c.length=0:=by rw[<- f];rfl
   simp;lia) (Pr g) #[.bl _,H,I,Z,q]
structure Hm(m:Nat)(S:Hs):Prop where
 ok:OJ (6*m) S
 dl:S.ds.length<=m
 bl:S.bs.length<=m
theorem Hm.mono{k:Nat}(h:Hm m S)(l:m<=k):Hm k S:=#[h.ok.mono (by lia),Lc h.dl l,Lc h.bl l]
section
variable{K:ι}{k:Κ}{b:Ha}
def Ou.beside(f:Ou K CB CD k H a S)(d:Ou K CB CD k' H b T)(e:∀z∈hF a,z∉hF b)(m:Mv (hF a) H H')(g:PZ H a a'):Ou K CB CD k' H' b T/\∀z∈hF a',z∉hF b:=
 #[d.mv m f.at_.nt λz c q=>e z q c,λz c q=>by
  rcases g z c with g|g
  .exact e z g q
  .exact d.at_.live q g]
structure R1(H:Hp)(aH aO:Ha)(H':Hp)(aH' aO':Ha):Prop where
 m:Mv (hF aH++hF aO) H H'
 gH:∀z∈hF aH',z∈hF aH++hF aO\/H z=none
 gO:∀z∈hF aO',z∈hF aH++hF aO\/H z=none
 mH:aH'.ma=aH.ma
 mO:aO'.ma=aO.ma
theorem W2.nt(w:W2 K CB CD C H aH aO S):NT (hF aH++hF aO) H:=λz a=>by
 rcases J1.mp a with h|h
 .exact w.hh.at_.nt z h
 .exact w.oo.at_.nt z h
def R1.free(s:R1 H aH aO H' aH' aO'){o:HO}(e:H p=↑o)(n:p∉hF aH++hF aO):p∉hF aH'++hF aO':=λq=>by
 rcases J1.mp q with h|h
 .rcases s.gH p h with g|g
  .exact n g
  .rw[e]at g;cases g
 .rcases s.gO p h with g|g
  .exact n g
  .rw[e]at g;cases g
def R1.mk'(w:W2 K CB CD C H aH aO S)(m:Mv (hF aH) H H1)(g:PZ H aH aH')(p:Ou K CB CD ↑C H1 aH' S')(m':Mv (hF aO) H1 H')(g':PZ H1 aO aO')(l:Ou K CB CD none H' aO' S')(e:aH'.ma=aH.ma)(r:aO'.ma=aO.ma):
  R1 H aH aO H' aH' aO'/\W2 K CB CD C H' aH' aO' S':=by
 let#[i,f]:=w.hh.beside w.oo w.dj m g;let#[d,j]:=i.beside p (λz a q=>f z q a) m' g'
 refine#[#[λc o n q=>?_,λz a=>?_,λz a=>?_,e,r],d,l,λz a q=>j z q a]
 .exact m' c o (λz=>n (J1.mpr (.inr z))) (m c o (λz=>n (J1.mpr (.inl z))) q)
 .rcases g z a with q|q
  .exact .inl (J1.mpr (.inl q))
  .exact .inr q
 .rcases g' z a with q|q
  .exact .inl (J1.mpr (.inr q))
  .by_cases h:z∈hF aH
   .exact .inl (J1.mpr (.inl h))
   .exact .inr (m.nfree h q)
end
noncomputable def HB(z:Str):Bool:=(z.cps.toList.all λc=>decide (97<=c)&&decide (c<=122))&&(decide (1<=z.cps.toList.length)&&decide (z.cps.toList.length<=8))
def sv{l:Α}(h:l.all HB=true):∀z∈l,Zo z:=λz d=>by
 have h:=L8.mp h z d;unfold HB at h;simp only[Lz,L8,decide_eq_true_eq]at h
 exact#[λc a=>h.1 c a,h.2.1,h.2.2]
inductive sK|mk (b l:Δ)(ss:Α)(o:Str)(c:Nat)(h1:vs=[-b,-l,.str o])(h2:PM H b c)(h3:c<100000000)(h4:H l=↑(.lst (ss.map V.str)))(h5:l≠b)(h6:ss.length<64)(h7:∀nm H',Rj b (c+2) H H'->Q (.str nm) H')
inductive vM|mk (b:Δ)(word:Str)(c:Nat)(h1:vs=[-b,.str word])(h2:PM H b c)(h3:c<100000000)(h4:∀nm H',Rj b (c+1) H H'->Zo nm->Q (.str nm) H')
section
variable{K:ι}{k:Κ}{b:Δ}{n c:Nat}{c' m:Nat}
def Ou.grc(h:Ou K CB CD k H a S)(hb:PM H b n)(nb:b∉hF a)(g:Rj b c H H'):Ou K CB CD k H' a S:=h.mv g.mv (bh hb) λz d q=>nb (by rw[JN.mp q]at d;exact d)
def R1.same(s:R1 H aH aO H' aH' aO')(e:Oq H' H''):R1 H aH aO H'' aH' aO':=#[s.m.trans e.mv,s.gH,s.gO,s.mH,s.mO]
theorem W2.grc(w:W2 K CB CD C H aH aO S)(hb:PM H b c)(nb:b∉hF aH++hF aO)(g:Rj b c' H H'):W2 K CB CD C H' aH aO S:=
 #[w.hh.grc hb (λq=>nb (J1.mpr (.inl q))) g,w.oo.grc hb (λq=>nb (J1.mpr (.inr q))) g,w.dj]
end
structure Hb(K:ι)(CB CD C:Δ)(H Hx:Hp)(b:Δ)(c:Nat)(aH aO:Ha)(S:Hs)(m:Nat):Prop where
 s:Oq H Hx
 bx:PM Hx b c
 w:W2 K CB CD C Hx aH aO S
 hm:Hm m S
 nb:b∉hF aH++hF aO
 fb:H b=none
 fr:∀z∈hF aH++hF aO,H z=none
section
variable{K:ι}{b:Δ}{c c' m m':Nat}
theorem Hb.mono(h:Hb K CB CD C H Hx b c aH aO S m)(l:c<=c')(a:m<=m'):Hb K CB CD C H Hx b c' aH aO S m':=#[h.s,h.bx.mono l,h.w,h.hm.mono a,h.nb,h.fb,h.fr]
theorem Hb.grc(h:Hb K CB CD C H Hx b c aH aO S m)(g:Rj b c' Hx Hy):Hb K CB CD C H Hy b c' aH aO S m:=
 #[λp o e=>g.kp _ _ (qr e h.fb) (h.s _ _ e),g.bx,h.w.grc h.bx h.nb g,h.hm,h.nb,h.fb,h.fr]
theorem Hb.same(h:Hb K CB CD C H Hx b c aH aO S m)(s:Oq Hx Hy):Hb K CB CD C H Hy b c aH aO S m:=#[h.s.trans s,(s.grc h.bx).bx,h.w.same s,h.hm,h.nb,h.fb,h.fr]
theorem Hb.live(h:Hb K CB CD C H Hx b c aH aO S m){z:Δ}(a:z∈hF aH++hF aO):Hx z≠none:=by
 rcases J1.mp a with q|q
 .exact h.w.hh.at_.live q
 .exact h.w.oo.at_.live q
def Hb.rebox(h:Hb K CB CD C H Hx b c aH aO S m)(s:Oq Hx Hy)(f:Hx b'=none)(a:PM Hy b' c'):Hb K CB CD C H Hy b' c' aH aO S m:=
 #[h.s.trans s,a,h.w.same s,h.hm,λq=>h.live q f,Q0 f h.s,h.fr]
def Hb.nO(h:Hb K CB CD C H Hx b c aH aO S m):b∉hF aO:=λq=>h.nb (J1.mpr (.inr q))
end
def HI{t ks:Ε}(pt:t.Perm O6)(c:ks.length<=8):Hm 0 (lG t ks):=
 #[#[pt,JL _,(by decide:(1:Nat)<=8),λk hk=>by rw[JN.mp hk];exact c,MC _,(by decide:(0:Int)<1),(λy a=>nomatch a),(λy a=>nomatch a),(λy a=>nomatch a),JL _,JL _,JL _,ME,ME],JL _,JL _]
section
variable{K:ι}{S:Hs}{k:Nat}{is:Μ}{l:Α}{nm:Str}
def Ir:∀d H Q E,kW K CB CD C d H Q E->fw K CB CD C x d H Q E0:=by
 rintro d H Q E ⟨a,S,nm,i,y,e,h,ix,f,q⟩
 exact#[a,S,nm,e,h,λz=>by(rw[ix]at z;cases z),λg y' z c=>by
  rw[ix]at z;cases z
  rw[f]at c;cases c
  exact q]
def Jc:∀d H Q E,vS K CB CD C d H Q E->fA K CB CD C x d H Q E0:=by
 rintro d H Q E ⟨a,S,nm,i,y,e,h,ix,f,q⟩
 exact#[a,S,nm,e,h,λz=>by(rw[ix]at z;cases z),λg y' z c=>by
  rw[ix]at z;cases z
  rw[f]at c;cases c
  exact q]
def F3:∀a H Q E,kM K CB a H Q E->jg K CB x a H Q E0:=by
 rintro a H Q E ⟨p,ta,ka,ce,B,d,e,g,f,c,h,j,i,q⟩
 exact#[p,ta,ka,ce,B,d,e,g,f,c,h,i,λz=>absurd z (by omega),λ_=>q]
def lC{m i:Nat}{y:Dh}{P:Ps}(h1:is[m]? =↑i)(h2:(OE S k is m).1.ds[i]? =↑y)(a:(OE S k is m).1.kp[k]? =↑P):
  OE S k is (m+1)=((OE S k is m).1.setD i (ZM y P k),(OE S k is m).2++[(zd y.D P).1]):=by
 conv=>lhs;unfold OE
 simp only[h1,h2,a]
theorem Z6(S:Hs)(k:Nat)(is:Μ):∀m,(OE S k is m).1.ds.length=S.ds.length/\(OE S k is m).1.bs=S.bs/\(OE S k is m).1.kp=S.kp/\(OE S k is m).1.dn=S.dn
 |0=>#[41]
 |m+1=>by
  let#[i1,i2,c,a]:=Z6 S k is m;unfold OE;split
  .exact#[i1,i2,c,a]
  .split
   .rename_i y P d e
    exact#[by show(List.set _ _ _).length=_;rw[Mg];exact i1,i2,c,(show((OE S k is m).1.setD _ (ZM y P k)).dn=(OE S k is m).1.dn from Qi d Z).trans a]
   .exact#[i1,i2,c,a]
theorem pL(S:Hs)(k:Nat)(is:Μ):∀m,∀a∈(OE S k is m).2,a.length<=3/\∀v∈a,kf v
 |0=>λa h=>nomatch h
 |m+1=>by
  have c:=pL S k is m;unfold OE;split
  .exact c
  .split
   .intro a h
    rcases J1.mp h with h|h
    .exact c a h
    .rw[JN.mp h];exact du ..
   .exact c
theorem pQ(S:Hs)(k:Nat)(is:Μ):∀m,(OE S k is m).2.length<=m
 |0=>JL _
 |m+1=>by
  have a:=pQ S k is m;unfold OE;split
  .exact MD a
  .split
   .show((OE S k is m).2++[_]).length<=m+1
    rw[J0];exact LM a
   .exact MD a
theorem kF:∀{ms:Α},nm∈ms->qR l nm=none->QB l ms=none
 | [],h,_=>nomatch h
 |m::r,h,hn=>by
  unfold QB;rcases JO.mp h with rfl|h
  .rw[hn]
  .rw[kF h hn]
   cases qR l m<;>rfl
theorem iW:∀{ms:Α},(∀z∈ms,qR l z≠none)->∃is,QB l ms=↑is
 | [],_=>#[[],Z]
 |m::r,h=>by
  let#[q,a]:=iW (ms:=r) λz c=>h z (F0 _ c)
  cases e:qR l m with
  |none=>exact absurd e (h m J3)
  |some i=>exact#[i::q,by unfold QB;rw[e,a]]
theorem kj:∀{ms:Α} {is:Μ} {j:Nat},QB l ms=↑is->ms[j]? =↑nm->∃i,is[j]? =↑i/\qR l nm=↑i
 | [],_,j,_,h=>by cases h
 |m::r,is,j,h,hj=>by
  unfold QB at h;cases e:qR l m with
  |none=>rw[e]at h;cases h
  |some i=>
   cases e2:QB l r with
   |none=>rw[e,e2]at h;cases h
   |some q=>
    rw[e,e2]at h;cases h;cases j with
    |zero=>cases hj;exact#[i,Z,e]
    |succ j=>exact kj (ms:=r) (j:=j) e2 hj
end
noncomputable def Z3(S:Hs)(j:Nat)(B:Bt)(deed:Int)(ds:Α):OZ:=match QB S.dn ds with
 |none=> .ref .unknown
 |some is=>if 4096<=B.cnt then .ref .worn else .ok (OE (qW S j B deed) S.kp.length is is.length).1 (.num S.kp.length (OE (qW S j B deed) S.kp.length is is.length).2)
section
variable{b dn:Str}{j i:Nat}{deed k:Int}
def eE(c:qR S.bn b=↑j)(a:S.bs[j]? =↑B):zm S (.press b deed ds)=Z3 S j B deed ds:=by
 show(match QB S.dn ds with
  |none=>OZ.ref .unknown
  |some is=>bL S b λj B=>if 4096<=B.cnt then .ref .worn else .ok (OE (qW S j B deed) S.kp.length is is.length).1 (.num S.kp.length (OE (qW S j B deed) S.kp.length is is.length).2))=_
 unfold Z3;cases QB S.dn ds with
 |none=>rfl
 |some is=>exact bM c a
def fY(h:qR S.bn b=none):zm S (.press b deed ds)= .ref .unknown:=by
 show(match QB S.dn ds with
  |none=>OZ.ref .unknown
  |some is=>bL S b λj B=>if 4096<=B.cnt then .ref .worn else .ok (OE (qW S j B deed) S.kp.length is is.length).1 (.num S.kp.length (OE (qW S j B deed) S.kp.length is is.length).2))=_
 cases QB S.dn ds with
 |none=>rfl
 |some is=>exact aY h
def Ig(d:Hd):RR->Prop
 | .non=>True
 | .num _ as=>(∀l∈as,l.length<=3/\∀v∈l,kf v)/\(Rm d->as.length<=1000)
 | .ans as=>as.length<=3/\∀v∈as,kf v
def bW(e:zm S d= .ok S' o):S.ds.length<=S'.ds.length/\S'.ds.length<=S.ds.length+1/\S'.bs.length<=S.bs.length+1/\Ig d o:=by
 cases d with
 |addD nm near far most=>
  simp only[zm]at e;split at e<;>cases e
  exact#[by simp,by simp,by simp,trivial]
 |addB nm step=>
  simp only[zm]at e;split at e<;>cases e
  exact#[by simp,by simp,by simp,trivial]
 |teach dn bn=>
  let#[i,y,_,_,e]:=fN e;let#[j,B,_,_,e]:=Z2 e;unfold iY at e;split at e
  .repeat (split at e;cases e)
   cases e
   exact#[by simp [Hs.setD,qW,Hs.setB],by simp [Hs.setD,qW,Hs.setB],by simp [Hs.setD,qW,Hs.setB],trivial]
  .cases e
 |turnH ks=>
  simp only[zm]at e;split at e<;>cases e
  exact#[by simp,by simp,by simp,trivial]
 |close age=>
  simp only[zm]at e;split at e<;>cases e
  exact#[by simp,by simp,by simp,trivial]
 |press b deed ds=>
  simp only[zm]at e;split at e
  .cases e
  .rename_i is f
   let#[j,B,_,_,e]:=Z2 e;split at e<;>cases e
   let#[h1,a,_,_]:=Z6 (qW S j B deed) S.kp.length is is.length
   refine#[by rw[h1];exact JL _,by rw[h1];exact Lr _,by rw[a];simp [qW,Hs.setB],λl c=>pL _ _ _ _ l c,λg=>?_]
   have n:=pQ (qW S j B deed) S.kp.length is is.length;have h:=bP f;have m:=g.ok.2;lia
 |play k dn=>
  let#[i,y,_,_,e]:=fN e;split at e
  .cases e
  .split at e<;>cases e
   exact#[by simp [Hs.setD],by simp [Hs.setD],by simp [Hs.setD],du ..]
 |lose b=>let#[j,B,_,_,e]:=Z2 e;cases e;exact#[by simp [Hs.setB],by simp [Hs.setB],by simp [Hs.setB],trivial]
 |tear b=>let#[j,B,_,_,e]:=Z2 e;cases e;exact#[by simp [Hs.setB],by simp [Hs.setB],by simp [Hs.setB],trivial]
 |turnB b=>
  let#[j,B,_,_,e]:=Z2 e;split at e<;>cases e
  exact#[by simp [Hs.setB],by simp [Hs.setB],by simp [Hs.setB],trivial]
 |forget dn bn=>
  let#[i,y,_,_,e]:=fN e;split at e<;>cases e
  exact#[by simp [Hs.setD],by simp [Hs.setD],by simp [Hs.setD],trivial]
end
def Hm.nxtH(h:Hm m S)(hd:Rm d):Hm (m+1) (Qr S (zm S d)):=by
 cases e:zm S d with
 |ref r=>exact h.mono (Lr m)
 |ok S' o=>
  let#[_,c,a,_]:=bW e
  have:=h.dl
  have:=h.bl
  exact#[(GH h.ok hd e).mono (by lia),by show S'.ds.length<=m+1;lia,by show S'.bs.length<=m+1;lia]
def Rh.mv{Z:Η}(h:Rh H v o)(m:Mv Z H H')(nt:NT Z H):Rh H' v o:=by
 cases o with
 |non=>exact h
 |num k as=>
  let#[q,t,xs,e,h1,a,d,g]:=h
  exact#[q,t,xs,e,m.tup nt h1,m.tup nt a,d,λi x l f c=>m.tup nt (g i x l f c)]
 |ans as=>
  let#[q,e,h1]:=h
  exact#[q,e,m.tup nt h1]
def Ux.mvH{Z:Η}(h:Ux H l r)(m:Mv Z H H')(nt:NT Z H):Ux H' l r:=by
 cases r with
 |ref r=>exact m.tup nt h
 |ok S' o=>
  let#[v,h1,a]:=h
  exact#[v,m.tup nt h1,a.mv m nt]
def Ux.eqvH(h1:Ux H q (zm S d))(h2:Ux H A (zm S d))(hd:Rm d):RB H 4 (-q) (-A):=by
 cases e:zm S d with
 |ref r=>
  rw[e]at h1 h2;refine .tup (.inl h1) (.inl h2) Z (by show 3<=ζ;decide) λi x y ex c=>?_
  match i,ex,c with
  |0,ex,c=>cases ex;cases c;exact .str _ _
  |1,ex,c=>cases ex;cases c;exact .str _ _
  |2,ex,c=>
   cases ex;cases c
   cases r<;>constructor
  |i+3,ex,c=>cases ex
 |ok S' o=>
  rw[e]at h1 h2;have g:=(bW e).2.2.2;let#[v,K,l]:=h1;let#[u,G,j]:=h2;refine .tup (.inl K) (.inl G) Z (by show 2<=ζ;decide) λi x y ex c=>?_
  match i,ex,c with
  |0,ex,c=>cases ex;cases c;exact .str _ _
  |i+2,ex,c=>cases ex
  |1,ex,c=>
   cases ex;cases c
   cases o with
   |non=>
    have l:v= .non:=l
    have j:u= .non:=j
    subst l j;exact .non _
   |ans as=>
    let#[a,rfl,z]:=l;let#[b,rfl,m]:=j;exact vF z m g.1 g.2
   |num k as=>
    have L:=g.2 hd;have g:=g.1;let#[a,t,xs,rfl,z,D,p,I]:=l;let#[b,s,ys,rfl,m,J,E,C]:=j;refine .tup (n:=2) (.inl z) (.inl m) Z (by show 2<=ζ;decide) λi x y ex c=>?_
    match i,ex,c with
    |0,ex,c=>cases ex;cases c;exact .int _ _
    |i+2,ex,c=>cases ex
    |1,ex,c=>
     cases ex;cases c
     refine .tup (n:=1) (.inl D) (.inl J) (by rw[JI,JI,p,E]) (by rw[JI,p,JV];lia) λi x y ex c=>?_
     rw[JW]at ex c;let#[F,h,rfl]:=Lo.mp ex;let#[y',w,rfl]:=Lo.mp c;have hi:i<as.length:=by rw[<- p];exact(JZ.mp h).1
     have f:=JQ hi;have B:=g _ (JU f);exact vF (I i F _ h f) (C i y' _ w f) B.1 B.2
def Rv(Z:Η)(H:Hp)(l:Δ):Hd->Prop
 | .press b deed ds=>∃p,H l=↑(.tup [.str "press_button",.str b,.int deed,-p])/\Sq [] H p (ds.map V.str)/\p∉Z
 |d=>Jd H l d
def Rv.sub{Z Z':Η}(h:Rv Z H l d)(s:∀z∈Z',z∈Z):Rv Z' H l d:=by
 cases d with
 |press b deed ds=>let#[p,h1,a,c]:=h;exact#[p,h1,a,λq=>c (s p q)]
 |_=>exact h
def gU{Z:Η}(h:Sq [] H p xs)(m:Mv Z H H')(nt:NT Z H)(hp:p∉Z):Sq [] H' p xs:=by
 rcases h with h|h
 .rcases h with h|h
  .rcases h with h|⟨o,h⟩
   .exact .inl (.inl (.inl (m _ _ hp h)))
   .exact .inl (.inl (.inr #[o,m _ _ hp h]))
  .exact .inl (.inr h)
 .exact .inr (m.sqt nt h)
def Rv.mv{Z Z':Η}(h:Rv Z H l d)(m:Mv Z' H H')(nt:NT Z' H)(s:∀z∈Z',z∈Z):Rv Z H' l d:=by
 cases d with
 |press b deed ds=>let#[p,h1,a,c]:=h;exact#[p,m.tup nt h1,gU a m nt (λq=>c (s p q)),c]
 |turnH ks=>let#[p,h1,a]:=h;exact#[p,m.tup nt h1,m.tup nt a]
 |addD=>exact m.tup nt h
 |addB=>exact m.tup nt h
 |teach=>exact m.tup nt h
 |close=>exact m.tup nt h
 |play=>exact m.tup nt h
 |lose=>exact m.tup nt h
 |tear=>exact m.tup nt h
 |turnB=>exact m.tup nt h
 |forget=>exact m.tup nt h
def Rv.same{Z:Η}(h:Rv Z H l d)(s:Oq H H'):Rv Z H' l d:=h.mv (Z':=[]) s.mv iu (λ_ h=>nomatch h)
def mP(D:Dr)(P:Ps):∃(w:Str) (r:Β),(zd D P).1= .str w::r:=by
 unfold zd QF;split
 .exact#[6]
 .split
  .split
   .exact#[6]
   .split<;>exact#[6]
  .exact#[6]
section
variable{K:ι}{S:Hs}{i k:Nat}
def yb{a:Dh}:(S.setD i c).setD i a=S.setD i a:=by
 show({S with ds:=(S.ds.set i c).set i a}:Hs)={S with ds:=S.ds.set i a}
 rw[List.set_set]
def Ou.heard(h:Ou K CB CD kk H a S)(hi:a.ds[i]? =↑z)(g:S.ds[i]? =↑y)(m:Mv [z.a.bd,z.a.lg] H H1)(d:OO K CD H1 z.a {y.D with kn:=(zd y.D P).2} (y.L++[.hear P (zd y.D P).1])):
  (jl (zd y.D P).1=false->Ou K CB CD kk H1 a (S.setD i (ZM y P k)))/\
  (jl (zd y.D P).1=true->OR H1 a.od (.str y.nm) ↑(-z.ol)->nu H1 z.ol y.op/\Ou K CB CD kk (Ot H1 z.ol (.lst ((y.op++[k]).map λn:Nat=>V.int (n:Int)))) a (S.setD i (ZM y P k))):=by
 have h1:=h.door hi g (cj m) d;have j:i<S.ds.length:=(JZ.mp g).1
 have c:(S.setD i {y with D:={y.D with kn:=(zd y.D P).2},L:=y.L++[.hear P (zd y.D P).1]}).ds[i]? =some {y with D:={y.D with kn:=(zd y.D P).2},L:=y.L++[.hear P (zd y.D P).1]}:=by
  show(S.ds.set i _)[i]? =_
  rw[Ka,JK Z,JK j]
 refine#[λe=>?_,λe _=>?_]
 .have:ZM y P k={y with D:={y.D with kn:=(zd y.D P).2},L:=y.L++[.hear P (zd y.D P).1]}:=by
   unfold ZM;rw[e];rfl
  rw[this];exact h1
 .have:ZM y P k={y with D:={y.D with kn:=(zd y.D P).2},L:=y.L++[.hear P (zd y.D P).1],op:=y.op++[k]}:=by
   unfold ZM;rw[e];rfl
  rw[this];have f:=h1.opd (op':=y.op++[k]) hi c
  rw[yb]at f
  exact#[(h1.at_.de i z _ hi c).2,f]
end
section
variable(K:ι)(CB CD CH:Δ)(x:Xa)
inductive jF(kk:Κ)|mk (a:Ha)(S:Hs)(n:Nat)(nm:Str)(k i:Nat)(y:Dh)(P:Ps)(h1:vs=[-a.ma,.str nm,.int (k:Int)])(h2:Ou K CB CD kk H a S)(h3:OJ n S)(h4:n<=990000)(h5:qR S.dn nm=↑i)(h6:S.ds[i]? =↑y)(h7:S.kp[k]? =↑P)(h8:∀q H',Mv (hF a) H H'->Ou K CB CD kk H' a (S.setD i (ZM y P k))->H' q=↑(.tup (zd y.D P).1)->Q (-q) H')
inductive Tc (vs:Β)(H:Hp)(Q:VK)(E:XK):Prop
 |mk (a:Ha)(S:Hs)(n:Nat)(b:Str)(deed:Int)(p:Δ)(ds:Α)(h1:vs=[-a.ma,.str b,.int deed,-p])(h2:Ou K CB CD ↑CH H a S)(h3:OJ n S)(h4:n<=900000)(h5:Sq [] H p (ds.map V.str))(h6:p∉hF a)(h7:ZO deed)(h8:ds.length<=5)(h9:Sr K CB CD ↑CH x H a S (.press b deed ds) Q E)
def tL:Sp:=λa H Q E=>Tc K CB CD CH x a H Q E
inductive Ug (vs:Β)(H:Hp)(Q:VK)(E:XK):Prop
 |mk (a:Ha)(S:Hs)(n:Nat)(b:Str)(h1:vs=[-a.ma,.str b])(h2:Ou K CB CD ↑CH H a S)(h3:OJ n S)(h4:n<=900000)(h5:Sr K CB CD ↑CH x H a S (.lose b) Q E)
def vE:Sp:=λa H Q E=>Ug K CB CD CH x a H Q E
inductive Td (vs:Β)(H:Hp)(Q:VK)(E:XK):Prop
 |mk (a:Ha)(S:Hs)(n:Nat)(b:Str)(h1:vs=[-a.ma,.str b])(h2:Ou K CB CD ↑CH H a S)(h3:OJ n S)(h4:n<=900000)(h5:Sr K CB CD ↑CH x H a S (.turnB b) Q E)
def uB:Sp:=λa H Q E=>Td K CB CD CH x a H Q E
inductive SA (vs:Β)(H:Hp)(Q:VK)(E:XK):Prop
 |mk (a:Ha)(S:Hs)(n:Nat)(d b:Str)(h1:vs=[-a.ma,.str d,.str b])(h2:Ou K CB CD ↑CH H a S)(h3:OJ n S)(h4:n<=900000)(h5:Sr K CB CD ↑CH x H a S (.forget d b) Q E)
def oX:Sp:=λa H Q E=>SA K CB CD CH x a H Q E
inductive lb|mk (a:Ha)(S:Hs)(n j:Nat)(u:Rg)(B:Bt)(deed:Int)(p:Δ)(ds:Α)(h1:vs=[-a.ma,-u.p,.int deed,-p])(h2:Ou K CB CD none H a S)(h3:OJ n S)(h4:n<=900000)(h5:a.bs[j]? =↑u)(h6:S.bs[j]? =↑B)(h7:Sq [] H p (ds.map V.str))(h8:p∉hF a)(h9:ZO deed)(h10:ds.length<=5)(h11:P7 K CB CD H a S (Z3 S j B deed ds) Q)
end
open PySem.Calls
def HP(te:TE):TE:=λσ H Q=>te σ H λv H1=>∃n:Int,n.natAbs<4611686018427387904/\v= .int n/\∀z,Q (.str z) H1
def Ca{z:Str}(w:z.length<=100)(he:QE X e te):QE X (.JoinedStr [.Constant (.str z) j d,.FormattedValue e (-1) none p2] pos) (HP te):=#[by
 intro tx s σ H Q I h;refine wpAny_JoinedStr ?_
 show ε _ _ (eval (.Constant (.str z) j d) X.env) _ _ _
 refine qG ((qi (X:=X) (x:=z) (j:=j) (pos:=d)).h tx s σ H (λv H'=>v= .str z/\H'=H) I #[9]) λv m f=>?_
 let#[x,H1,l,c,ex,p]:=f;subst ex p;let#[t,rfl]:=c;exists z,t,Z,?_
 .rw[Np]
  show 0+z.length<=ζ
  rw[JV];lia
 show ε _ _ (eval (.FormattedValue e (-1) none p2) X.env) _ _ _
 refine wpAny_FormattedValue_plain (qG (he.h tx m σ H1 _ l h) λv y f=>?_)
 let#[x,u,r,c,n,o,ex,q]:=f;subst ex;let#[A,rfl]:=c;have a:n.natAbs.log2<1920:=by
  by_cases g:n.natAbs=0
  .rw[g];decide
  .exact KL ((Nat.log2_lt g).mpr (show n.natAbs<2 ^ 62 from o)) ⋯
 have i:=PyProof.Rows.int_text_len_1921 a;refine wpAny_formatField_int a #[6,?_,?_]
 .rw[Np,Np]
  show 0+z.length+(SV (toString n)).length<=ζ
  rw[JV];lia
 .refine#[?_,#[.str _,u,r.tok _,#[0],q _]]
  rw[Np,Np]
  show 0+z.length+(SV (toString n)).length<=ζ
  rw[JV];lia]
inductive kg(C:Δ)(f:Str)|mk (e:Δ)(n:Int)(h1:vs=[-e,.int n])(h2:n.natAbs<4611686018427387904)(h3:H e=↑(RE e (-C) none))(h4:∀d,H d=none->Q .non (Ot (Ot H d (.xd [(f,.int n)])) e (RE e (-C) ↑d)))
noncomputable def qX:Hd->Str
 | .addD .. =>"add_door"
 | .addB .. =>"add_button"
 | .teach .. =>"teach"
 | .press .. =>"press_button"
 | .play .. =>"play_kept"
 | .lose .. =>"lose_cell"
 | .tear .. =>"tear_cell"
 | .turnH .. =>"turn_house"
 | .turnB .. =>"turn_button"
 | .close .. =>"close_ages"
 | .forget .. =>"forget_at"
def Hm.lt(h:Hm m S)(l:m<64):S.ds.length<64/\S.bs.length<64/\m<=9000:=#[Gx h.dl l,Gx h.bl l,by lia]
def fm:Hd->Prop
 | .play k _=> -10000000<k/\k<10000000
 |_=>True
section
variable(K:ι)(CB CD CH:Δ)(x:Xa)(ws:Α)
inductive fO|mk (a:Ha)(S:Hs)(n:Nat)(l:Δ)(d:Hd)(h1:vs=[-a.ma,-l])(h2:Ou K CB CD none H a S)(h3:OJ n S)(h4:n<=900000)(h5:Rv (hF a) H l d)(h6:Rm d)(h7:fm d)(h8:qX d∈ws)(h9:P7 K CB CD H a S (zm S d) Q)
inductive SB (vs:Β)(H:Hp)(Q:VK)(E:XK):Prop
 |mk (a:Ha)(S:Hs)(n:Nat)(l:Δ)(d:Hd)(h1:vs=[-a.ma,-l])(h2:Ou K CB CD ↑CH H a S)(h3:OJ n S)(h4:n<=900000)(h5:Rv (hF a) H l d)(h6:Rm d)(h7:fm d)(h8:qX d∈ws)(h9:Sr K CB CD ↑CH x H a S d Q E)
def p6:Sp:=λa H Q E=>SB K CB CD CH x ws a H Q E
inductive fR|mk (a:Ha)(S:Hs)(n:Nat)(l:Δ)(d:Hd)(h1:vs=[-a.ma,-l])(h2:Ou K CB CD ↑CH H a S)(h3:OJ n S)(h4:n<=900000)(h5:Rv (hF a) H l d)(h6:Rm d)(h7:fm d)(h8:qX d∈ws)(h9:∀q a' H',Mv (hF a) H H'->PZ H a a'->a'.ma=a.ma->Ou K CB CD ↑CH H' a' (Qr S (zm S d))->Ux H' q (zm S d)->Q (-q) H')
inductive mZ|mk (b wl:Δ)(a:Ha)(S:Hs)(m c:Nat)(us:Α)(h1:vs=[-b,-a.ma,-wl])(h2:PM H b c)(h3:c<90000000)(h4:b∉hF a)(h5:Ou K CB CD none H a S)(h6:Hm m S)(h7:(S.ds.length<64/\S.bs.length<64/\m<=9000))(h8:H wl=↑(.lst (us.map V.str)))(h9:wl≠b)(h10:1<=us.length)(h11:us.length<=20)(h12:(∀z∈us,z∈ws))(h13:∀l d H',Rj b (c+20) H H'->(∀Z,(∀z∈Z,H z≠none)->Rv Z H' l d)->Rm d->fm d->qX d∈us->Q (-l) H')
inductive rP|mk (aH aO:Ha)(S:Hs)(m:Nat)(l:Δ)(d:Hd)(h1:vs=[-aH.ma,-aO.ma,-l])(h2:W2 K CB CD CH H aH aO S)(h3:Hm m S)(h4:m<=9000)(h5:Rv (hF aH++hF aO) H l d)(h6:Rm d)(h7:fm d)(h8:qX d∈ws)(h9:∀aH' aO' H',R1 H aH aO H' aH' aO'->W2 K CB CD CH H' aH' aO' (Qr S (zm S d))->Q (.bl true) H')
end
section
variable{K:ι}{b:Δ}{c m:Nat}
def Hb.stepH(h:Hb K CB CD C H Hx b c aH aO S m)(hd:Rm d)(st:R1 Hx aH aO Hy aH' aO')(w:W2 K CB CD C Hy aH' aO' (Qr S (zm S d))):Hb K CB CD C H Hy b c aH' aO' (Qr S (zm S d)) (m+1):=by
 let#[n,k,j,e,r]:=h.bx;refine#[λp o e=>st.m _ _ (λq=>by rw[h.fr p q]at e;cases e) (h.s _ _ e),#[n,k,j,st.m _ _ h.nb e,r],w,h.hm.nxtH hd,st.free e h.nb,h.fb,λz a=>?_]
 have g:z∈hF aH++hF aO\/Hx z=none:=by
  rcases J1.mp a with q|q
  .exact st.gH z q
  .exact st.gO z q
 rcases g with g|g
 .exact h.fr z g
 .exact Q0 g h.s
def Hb.dez(h:Hb K CB CD C H Hx b c aH aO S m)(a:∀Z,(∀z∈Z,Hx z≠none)->Rv Z Hy l d):Rv (hF aH++hF aO) Hy l d:=a _ λz a=>h.live a
end
end L3
namespace L3
open PySem PySem.Spec PyProof.Rows L2
section
variable{K:ι}
def SG(H:Hp)(a:Δ)(H':Hp):Prop:=∃Z,Mv Z H H'/\NT Z H/\a∉Z
def SG.refl:SG H a H:=#[[],λ_ _ _ e=>e,iu,λh=>nomatch h]
def SG.sql(s:SG H a H')(h:OA [] H a xs):OA K H' a xs:=by
 let#[Z,m,nt,c]:=s;rcases h with(h|⟨o,h⟩)|⟨o,d,n,h,_⟩
 .exact .inl (.inl (m _ _ c h))
 .exact .inl (.inr #[o,m _ _ c h])
 .cases h
def SG.sqt(s:SG H a H')(h:OC [] H a xs):OC K H' a xs:=by
 let#[Z,m,nt,d]:=s;rcases h with h|⟨o,c,n,h,_⟩
 .exact .inl (m.rd nt h)
 .cases h
def kI{te:TE}{Q:VK}(c:Sq [] H a xs)(hn:xs.length<=ζ)(Pv:Nat->Β->Hp->Prop)(d:Pv 0 [] H)(ps:∀i ys H',Pv i ys H'->SG H a H')
  (hs:∀i ys H' x,xs[i]? =↑x->ys.length=i->Pv i ys H'->te (↑x::Q1 js σ) H' λv H3=>Pv (i+1) (ys++[v]) H3)
  (hd:∀ys H',ys.length=xs.length->Pv xs.length ys H'->∀p,H' p=none->Q (-p) (Ot H' p (.lst ys))):((∃xs,OA K H a xs)/\bH (ji K a) js te σ H Q)\/((∃xs,OC K H a xs)/\bH (i7 K a) js te σ H Q):=by
 rcases c with c|c
 .exact .inl #[#[_,SG.refl.sql c],dw hn Pv d (λi ys H' p=>(ps i ys H' p).sql c) hs hd]
 .exact .inr #[#[_,SG.refl.sqt c],fV hn Pv d (λi ys H' p=>(ps i ys H' p).sqt c) hs hd]
def Fi{g:TG}{tb:TS}{D:OU}{σ:L2.St}(c:Sq [] H a xs)(Pv:Nat->L2.St->Hp->Prop)(e:Pv 0 σ H)(ps:∀i σ H',Pv i σ H'->SG H a H')
  (hs:∀i x σ H,xs[i]? =↑x->Pv i σ H->g x σ H λd h=>tb {D with nx:=Pv (i+1),ct:=Pv (i+1),bk:=D.nx} d h)(hd:∀σ H,Pv xs.length σ H->D.nx σ H){f:TI}(hw:f=CT K (λ_ H Q=>Q (-a) H)):C1 f g tb D σ H:=by
 subst hw;exists a,Z
 rcases c with c|c
 .exact .inl #[#[_,SG.refl.sql c],bz Pv e (λi σ H' _ p=>(ps i σ H' p).sql c) hs hd]
 .exact .inr #[#[_,SG.refl.sqt c],oA Pv e (λi σ H' _ p=>(ps i σ H' p).sqt c) hs hd]
end
def Ho{X:Cx}{k:Nat}(hr:OL k X.A)(hi:QE X e ty)(ho:QE X o td)(h1:behindInMarks CmpOp.In o=false:=by rfl):QE X (.Compare e [.In] [o] pos) (Cn ty td):=#[GD (Bu (by have:=hr.un;lia) hi.h ho.h) (h1:=h1)]
end L3
namespace Lw
open PySem L2 L3
def Oa:0<=ζ:=by decide
def Ob:1<=ζ:=by decide
def Oc:2<=ζ:=by decide
def Od:3<=ζ:=by decide
def Oe:4<=ζ:=by decide
def Of:5<=ζ:=by decide
def Og:6<=ζ:=by decide
def Oh:8<=ζ:=by decide
def Oi:10<=ζ:=by decide
def Oj:12<=ζ:=by decide
def Ol:16<=ζ:=by decide
noncomputable def qU(i:Nat):δ:=PySem.Challenge.pw_rollcode_k45_doors_taught.main.body.getD i (.Pass #[(0),(0),(0),(0)])
abbrev eM:δ:=qU 13
abbrev gv:δ:=qU 14
abbrev cX:δ:=qU 15
abbrev cN:δ:=qU 16
abbrev nr:δ:=qU 17
abbrev iS:δ:=qU 18
abbrev iF:δ:=qU 25
abbrev iA:δ:=qU 26
abbrev gl:δ:=qU 27
abbrev aJ:δ:=qU 28
abbrev kK:δ:=qU 29
abbrev bA:δ:=qU 30
abbrev gB:δ:=qU 31
abbrev cS:δ:=qU 32
abbrev iQ:δ:=qU 36
abbrev iT:δ:=qU 37
abbrev ZS:δ:=qK (qU 8) 0
abbrev aQ:δ:=qK (qU 34) 0
abbrev au:δ:=qK (qU 34) 2
abbrev Zk:δ:=qK (qU 34) 3
abbrev Zj:δ:=qK (qU 34) 4
abbrev Zc:δ:=qK (qU 34) 5
abbrev Zi:δ:=qK (qU 34) 1
abbrev ZU:δ:=qK (qU 34) 6
abbrev ZY:δ:=qK (qU 34) 8
abbrev ZC:δ:=qK (qU 34) 9
abbrev aj:δ:=qK (qU 34) 10
abbrev Zw:δ:=qK (qU 34) 11
abbrev ZA:δ:=qK (qU 34) 12
abbrev Ze:δ:=qK (qU 39) 0
abbrev bu:δ:=qK (qU 39) 2
abbrev aq:δ:=qK (qU 39) 8
abbrev ar:δ:=qK (qU 39) 11
abbrev ZQ:δ:=qK (qU 39) 10
abbrev ZR:δ:=qK (qU 39) 9
abbrev af:δ:=qK (qU 39) 7
abbrev eK:δ:=qK (qU 39) 6
abbrev ZX:δ:=qK (qU 39) 12
abbrev cK:δ:=qK (qU 39) 1
abbrev b9:δ:=qK (qU 39) 3
abbrev aV:δ:=qK (qU 39) 4
abbrev Zs:δ:=qK (qU 39) 5
abbrev ag:δ:=qK (qU 39) 13
abbrev aM:δ:=qK (qU 39) 14
abbrev ZW:δ:=qK (qU 39) 15
abbrev Zq:δ:=qK (qU 39) 16
abbrev bb:δ:=qK (qU 39) 18
abbrev ac:δ:=qK (qU 39) 19
abbrev a9:δ:=qK (qU 41) 0
abbrev ZB:δ:=qK (qU 41) 3
abbrev Q9:δ:=qK (qU 41) 4
abbrev av:δ:=qK (qU 41) 1
abbrev ZE:δ:=qK (qU 41) 2
abbrev ZD:δ:=qK (qU 41) 7
abbrev b8:δ:=qK (qU 41) 5
abbrev aP:δ:=qK (qU 41) 8
abbrev Q8:δ:=qK (qU 41) 6
abbrev ZV:δ:=qK (qU 41) 10
abbrev Zn:δ:=qK (qU 41) 12
abbrev Zl:δ:=qK (qU 41) 13
abbrev Zy:δ:=qK (qU 41) 14
abbrev ZT:δ:=qK (qU 41) 15
abbrev ap:δ:=qK (qU 41) 16
abbrev Zv:δ:=qK (qU 41) 17
abbrev am:δ:=qK (qU 41) 18
abbrev ZZ:δ:=qK (qU 41) 19
abbrev jc:δ:=qU 43
abbrev gu:δ:=qU 44
abbrev eV:δ:=qU 45
abbrev jj:δ:=qU 46
abbrev iC:δ:=qU 47
abbrev bY:δ:=qU 48
abbrev fg:δ:=qU 49
abbrev cZ:δ:=qU 50
abbrev e8:δ:=qU 53
abbrev br:δ:=qU 51
abbrev bX:δ:=qU 52
abbrev aG:δ:=qU 54
abbrev iG:δ:=qU 55
abbrev dc:δ:=qU 56
abbrev eU:δ:=qU 57
abbrev jh:δ:=qU 58
abbrev cx:δ:=qU 60
abbrev eL:δ:=qU 59
abbrev aX:δ:=qU 61
abbrev a8:δ:=qU 62
abbrev gk:δ:=qU 63
abbrev eR:δ:=qU 64
abbrev eW:δ:=qU 65
abbrev c8:δ:=qU 66
abbrev cw:δ:=qU 67
def qV{N P:Α}{c:Scope}(h1:c.kind= .function:=by rfl)(h2:c.isCoroutine=false:=by rfl)(g:c.isGenerator=false:=by rfl)(a:N.Nodup:=by decide +kernel)(e:N.take P.length=P:=by rfl)(d:∀x∈P,c.names.lookup x=some .local\/c.names.lookup x=some .cell:=by decide +kernel)(f:∀y∈c.names,y.2≠ .free:=by decide +kernel):Os N P c:=#[h1,h2,g,a,e,d,f]
def uh:Os (["thing"]:Α) (["thing"]:Α) (ql eM):=qV
def uF:Os (["thing"]:Α) (["thing"]:Α) (ql gv):=qV
def rn:Os (["things"]:Α) (["things"]:Α) (ql cX):=qV
def Pe:Os (["table","back","place","digit"]:Α) (["table"]:Α) (ql cN):=qV
def P8:Os (["table","key","digits","row","shift","place","ahead"]:Α) (["table","key","digits"]:Α) (ql nr):=qV
def Pb:Os (["table","key","digits","back","row","shift","place","ahead"]:Α) (["table","key","digits"]:Α) (ql iS):=qV
def xo:Os (["thing"]:Α) (["thing"]:Α) (ql iF):=qV
def wD:Os (["thing"]:Α) (["thing"]:Α) (ql iA):=qV
def PF:Os (["thing","name","age","code"]:Α) (["thing"]:Α) (ql gl):=qV
def O0:Os (["name","digits","letter","place"]:Α) (["name"]:Α) (ql aJ):=qV
def Re:Os (["table","key","name","sums","place","digit"]:Α) (["table","key","name"]:Α) (ql kK):=qV
def lB:Os (["count"]:Α) (["count"]:Α) (ql bA):=qV
def P9:Os (["table","key","name","age","count","deed","four","five"]:Α) (["table","key","name","age","count","deed"]:Α) (ql gB):=qV
def OK:Os (["table","key","press","name","age","code","low","middle","high","deed","check"]:Α) (["table","key","press"]:Α) (ql cS):=qV
def wS:Os (["count","last","near","far"]:Α) (["count","last","near","far"]:Α) (ql iQ):=qV
def Pc:Os (["button","age","count","near","far","own_age","last","waiting","word"]:Α) (["button","age","count","near","far"]:Α) (ql iT):=qV
def iz:Os (["self","place"]:Α) (["self","place"]:Α) (ql ZS):=qV
def kT:Os (["self","name","table","key","age","step"]:Α) (["self","name","table","key","age","step"]:Α) (ql aQ):=qV
def jV:Os (["self"]:Α) (["self"]:Α) (ql au):=qV
def gj:Os (["self"]:Α) (["self"]:Α) (ql Zk):=qV
def gm:Os (["self"]:Α) (["self"]:Α) (ql Zj):=qV
def O9:Os (["self","spare"]:Α) (["self"]:Α) (ql Zc):=qV
def Ph:Os (["self","deed","press"]:Α) (["self","deed"]:Α) (ql Zi):=qV
def PD:Os (["self","greatest"]:Α) (["self"]:Α) (ql ZU):=qV
def iP:Os (["self","key"]:Α) (["self","key"]:Α) (ql ZY):=qV
def ie:Os (["self"]:Α) (["self"]:Α) (ql ZC):=qV
def jX:Os (["self"]:Α) (["self"]:Α) (ql aj):=qV
def hU:Os (["self"]:Α) (["self"]:Α) (ql Zw):=qV
def ib:Os (["self"]:Α) (["self"]:Α) (ql ZA):=qV
def nP:Os (["self","table","keys","near","far","most"]:Α) (["self","table","keys","near","far","most"]:Α) (ql Ze):=qV
def kZ:Os (["self"]:Α) (["self"]:Α) (ql bu):=qV
def jN:Os (["self","name"]:Α) (["self","name"]:Α) (ql aq):=qV
def jT:Os (["self","age"]:Α) (["self","age"]:Α) (ql ar):=qV
def iO:Os (["self","button","age"]:Α) (["self","button","age"]:Α) (ql ZQ):=qV
def jb:Os (["self","button","age","count"]:Α) (["self","button","age","count"]:Α) (ql ZR):=qV
def OD:Os (["self","press","name","age","code","button","pair","count","deed","word","behind"]:Α) (["self","press"]:Α) (ql af):=qV
def Rx:Os (["self","thing","answer"]:Α) (["self","thing"]:Α) (ql eK):=qV
def jp:Os (["self","thing"]:Α) (["self","thing"]:Α) (ql ZX):=qV
def OS:Os (["self","one","other","first","second","name","age","code"]:Α) (["self","one","other"]:Α) (ql cK):=qV
def og:Os (["self","name"]:Α) (["self","name"]:Α) (ql b9):=qV
def PU:Os (["self","key","turned"]:Α) (["self","key"]:Α) (ql aV):=qV
def il:Os (["self","age"]:Α) (["self","age"]:Α) (ql Zs):=qV
def jR:Os (["self"]:Α) (["self"]:Α) (ql ag):=qV
def kR:Os (["self"]:Α) (["self"]:Α) (ql aM):=qV
def iD:Os (["self"]:Α) (["self"]:Α) (ql ZW):=qV
def ik:Os (["self"]:Α) (["self"]:Α) (ql Zq):=qV
def lq:Os (["self"]:Α) (["self"]:Α) (ql bb):=qV
def PH:Os (["self","twin"]:Α) (["self"]:Α) (ql ac):=qV
def lK:Os (["self","table","key"]:Α) (["self","table","key"]:Α) (ql a9):=qV
def hV:Os (["self","name"]:Α) (["self","name"]:Α) (ql ZB):=qV
def fC:Os (["self","name"]:Α) (["self","name"]:Α) (ql Q9):=qV
def PJ:Os (["self","name","near","far","most","door"]:Α) (["self","name","near","far","most"]:Α) (ql av):=qV
def Po:Os (["self","name","step","age"]:Α) (["self","name","step"]:Α) (ql ZE):=qV
def io:Os (["self","pressed","deed"]:Α) (["self","pressed","deed"]:Α) (ql ZD):=qV
def OV:Os (["self","door","button","taught","pressed","one","other"]:Α) (["self","door","button"]:Α) (ql b8):=qV
def PV:Os (["self","door","number","answer"]:Α) (["self","door","number"]:Α) (ql aP):=qV
def OT:Os (["self","button","deed","doors","name","number"]:Α) (["self","button","deed","doors"]:Α) (ql Q8):=qV
def iM:Os (["self","button"]:Α) (["self","button"]:Α) (ql ZV):=qV
def Pq:Os (["self","key","door"]:Α) (["self","key"]:Α) (ql Zn):=qV
def OW:Os (["self","button","turned","age"]:Α) (["self","button"]:Α) (ql Zl):=qV
def Pt:Os (["self","age","door"]:Α) (["self","age"]:Α) (ql Zy):=qV
def jn:Os (["self","door","button"]:Α) (["self","door","button"]:Α) (ql ZT):=qV
def jI:Os (["self","door"]:Α) (["self","door"]:Α) (ql ap):=qV
def Pu:Os (["self","button","asked"]:Α) (["self","button"]:Α) (ql Zv):=qV
def jM:Os (["self"]:Α) (["self"]:Α) (ql am):=qV
def jd:Os (["self","door"]:Α) (["self","door"]:Α) (ql ZZ):=qV
def Pd:Os (["_law_script","_law_k","_law_cells","_law_cell","_law_fold","_law_one"]:Α) (["_law_script","_law_k"]:Α) (ql jc):=qV
def Ra:Os (["_law_box_here","_law_many","_law_digit","_law_mix"]:Α) (["_law_box_here","_law_many"]:Α) (ql gu):=qV
def P0:Os (["_law_box_here","_law_table_here","_law_digit"]:Α) (["_law_box_here"]:Α) (ql eV):=qV
def RL:Os (["_law_box_here","_law_long"]:Α) (["_law_box_here"]:Α) (ql jj):=qV
def wa:Os (["_law_table_here","_law_key_here"]:Α) (["_law_table_here","_law_key_here"]:Α) (ql iC):=qV
def om:Os (["_law_word","_law_place"]:Α) (["_law_word","_law_place"]:Α) (ql bY):=qV
def Ry:Os (["_law_own_here","_law_word","_law_name","_law_parts","_law_some"]:Α) (["_law_own_here","_law_word","_law_name","_law_parts"]:Α) (ql fg):=qV
def Ri:Os (["_law_own_here","_law_gate","_law_button","_law_known"]:Α) (["_law_own_here","_law_gate","_law_button"]:Α) (ql cZ):=qV
def Rz:Os (["_law_own_here","_law_word","_law_part","_law_gate"]:Α) (["_law_own_here","_law_word","_law_part"]:Α) (ql e8):=qV
def P4:Os (["_law_own_here","_law_name","_law_number","_law_answer"]:Α) (["_law_own_here","_law_name","_law_number"]:Α) (ql br):=qV
def Rb:Os (["_law_own_here","_law_button","_law_deed_here","_law_doors","_law_number"]:Α) (["_law_own_here","_law_button","_law_deed_here","_law_doors"]:Α) (ql bX):=qV
def ku:Os (["_law_own_here","_law_word","_law_button","_law_parts"]:Α) (["_law_own_here","_law_word","_law_button","_law_parts"]:Α) (ql aG):=qV
def Rn:Os (["_law_own_here","_law_deed_here","_law_word","_law_gate"]:Α) (["_law_own_here","_law_deed_here"]:Α) (ql iG):=qV
def Pf:Os (["_law_house","_law_deed_here","_law_word","_law_parts","_law_handed","_law_told"]:Α) (["_law_house","_law_deed_here"]:Α) (ql dc):=qV
def Py:Os (["_law_caught","_law_fits","_law_names"]:Α) (["_law_caught"]:Α) (ql eU):=qV
def O5:Os (["_law_house","_law_deed_here","_law_told","_law_caught","error","_law_word"]:Α) (["_law_house","_law_deed_here"]:Α) (ql jh):=qV
def e7:Os (["_law_found","_law_due_here"]:Α) (["_law_found","_law_due_here"]:Α) (ql cx):=qV
def O1:Os (["_law_house","_law_own_here","_law_name","_law_button","_law_gate","_law_told"]:Α) (["_law_house","_law_own_here"]:Α) (ql eL):=qV
def kG:Os (["_law_box_here","_law_some","_law_other"]:Α) (["_law_box_here","_law_some","_law_other"]:Α) (ql aX):=qV
def Pm:Os (["_law_box_here","_law_word","_law_pool"]:Α) (["_law_box_here","_law_word"]:Α) (ql a8):=qV
def OX:Os (["_law_box_here","_law_own_here","_law_words","_law_word","_law_door","_law_button","_law_near","_law_doors","_law_ages"]:Α) (["_law_box_here","_law_own_here","_law_words"]:Α) (ql gk):=qV
def OG:Os (["_law_script","_law_great","_law_box_here","_law_table_here","_law_key_here","_law_lists","_law_house","_law_own_here","_law_many","_law_k","_law_word","_law_deed_here","_law_turn"]:Α) (["_law_script","_law_great"]:Α) (ql eR):=qV
def RA:Os (["_law_house","_law_own_here","_law_deed_here","_law_found"]:Α) (["_law_house","_law_own_here","_law_deed_here"]:Α) (ql eW):=qV
def O4:Os (["_law_house","_law_own_here","_law_count","_law_some","_law_deed_here","_law_turn"]:Α) (["_law_house","_law_own_here","_law_count"]:Α) (ql c8):=qV
def P3:Os (["_law_script","_law_box_here","_law_house","_law_own_here","_law_deed_here","_law_words","_law_k"]:Α) (["_law_script"]:Α) (ql cw):=qV
structure ON(K:ι)(mg:On)(tk:Nat->Tok):Prop where
 g_DIGITS:mg "DIGITS"=↑(.int 16 (tk 0))
 g_KEY_PLACES:mg "KEY_PLACES"=↑(.int 4 (tk 1))
 g_LONGEST_NAME:mg "LONGEST_NAME"=↑(.int 8 (tk 2))
 g_CODE_DIGITS:mg "CODE_DIGITS"=↑(.int 5 (tk 3))
 g_AGES:mg "AGES"=↑(.int 8 (tk 4))
 g_COUNTS:mg "COUNTS"=↑(.int 4096 (tk 5))
 b_isinstance:mg "isinstance"=none
 b_bool:mg "bool"=none
 b_int:mg "int"=none
 b_tuple:mg "tuple"=none
 b_all:mg "all"=none
 b_len:mg "len"=none
 b_abs:mg "abs"=none
 b_list:mg "list"=none
 b_enumerate:mg "enumerate"=none
 b_range:mg "range"=none
 b_max:mg "max"=none
 b_min:mg "min"=none
 b_str:mg "str"=none
 b_zip:mg "zip"=none
 b_ord:mg "ord"=none
 b_sum:mg "sum"=none
 b_reversed:mg "reversed"=none
 b_sorted:mg "sorted"=none
 b_dict:mg "dict"=none
section
variable{K:ι}{tk:Nat->Tok}
def tQ(a:At K mg "is_number" eM ["thing"])(T:ON K mg tk):Df P w K mg base "is_number" W6 1 kh:=by
 refine a.dq uh λf _ A _ s H e Q E d h=>?_
 .let#[x,t,rfl,hk,q]:=h
  let#[ty,c]:=Iw (K:=K) hk
  exists _,(qh (qm (Qp (qq ud T.b_isinstance J6 (qc (qv 0) (qc (qZ (v:= .ty "int") Z T.b_int MV Z) qa))) (QP (iy (qq ud T.b_isinstance J6 (qc (qv 0) (qc (qZ (v:= .ty "bool") Z T.b_bool NN Z) qa))))))))
  rw[Ft hk]at q;exists 0,x,"int",t,Z,ty,c,by simp,0
  cases hi:Ql t "int" with
  |false=>
   refine zu ?_
   rw[hi,LR]at q;exact q
  |true=>
   refine zZ ?_
   rw[hi,Mp]at q
   exact#[0,x,"bool",t,Z,ty,c,by simp,0,q]
def uS(a:At K mg "is_digit" gv ["thing"])(T:ON K mg tk)(g:Df P w K mg base "is_number" W6 1 kh):Df P w K mg base "is_digit" W6 2 vA:=by
 refine a.dq uF λf _ A _ s H j Q E e h=>?_
 .let#[x,t,rfl,hk,q]:=h
  exists _,(qh (qm (Qp (qu g e.mo (qc (qv 0) qa)) (QP (kD cB jB qj (qv 0) (zh (v:= .int 16) Z T.g_DIGITS #[0]))))))
  exists 0,x,t,Z,hk,0
  cases hn:kJ x with
  |false=>
   refine zu ?_
   rw[yd hn]at q;exact q
  |true=>
   refine zZ ?_
   let#[i,rfl]:=BQ hn;exists 16
   have c:Q (.bl (decide (0<=i)&&decide (i<16))) H:=q
   refine qL (λd=>?_) (λd=>?_)
   .exists 4
    rw[d,Mp]at c;exact c
   .rw[Nm.mpr d,LR]at c
    exact c
def rf(a:At K mg "are_digits" cX ["things"])(T:ON K mg tk)(o:Df P w K mg base "is_digit" W6 2 vA):Df P w K mg base "are_digits" ["things"] 3 tZ:=by
 refine a.dq rn λf _ A _ s H u Q E j h=>?_
 .let#[p,xs,rfl,g,m,hk,q]:=h
  exists _,(qh (qm (qq (bU Z) T.b_all Nq (qc (QR (own:=["thing"]) (fr:=[]) (js:=[]) Z (lL (qv 0)) Z (λ_ _ h=>nomatch h) Z (gQ Z nofun nofun nofun) (λ_ _ _ _=>qB (i:=0) (show SQ (["thing"]:Α)from by decide +kernel) Z (SF Z) (.inr Z)) (λ_ _ _ _=>(qu o j.mo (qc (qv 0) qa)))) qa))))
  refine#[0,p,Z,#[xs,OC.of g],fV (xs:=xs) m (λi ys d=>ys=(xs.take i).map (λx=>V.bl (gP x))/\Oq H d) #[by simp,Oq.refl H] (λi ys d ⟨_,c⟩=>OC.of (c _ _ g)) ?_ ?_]
  .rintro i ys d x e _ ⟨rfl,c⟩
   let#[t,n]:=hk x (JU e)
   refine#[0,x,t,Z,jx c n,?_,c]
   rw[LP,e];simp
  .rintro ys d _ ⟨rfl,c⟩ l r
   rw[Mm];exists l,xs.map gP,Z,OA.of (by rw[LY];exact qb)
   rw[List.all_map];exact q _ (c.trans (Oq.upd r))
def wH(a:At K mg "is_name" iF ["thing"])(T:ON K mg tk):Df P w K mg base "is_name" W6 1 pD:=by
 refine a.dq xo λf _ A _ s H F Q E C h=>?_
 .let#[x,b,rfl,y,q]:=h
  exists _,(qg (qA (QW.pt (Zb (Qg (zw (qq zc T.b_isinstance J6 (qc (qv 0) (qc (qZ (v:= .ty "str") Z T.b_str LZ Z) qa))))) (Q5 (Qg (kN cB cB qj (qq rY T.b_len Ld (qc (qv 0) qa)) (zh (v:= .int 8) Z T.g_LONGEST_NAME #[0])))))) (qh (qm QH)) qp)
   (qh (qm (qq (bU Z) T.b_all Nq (qc (QR (own:=["letter"]) (fr:=[]) (js:=[]) Z (Bb (qv 0)) Z (λ_ _ h=>nomatch h) Z (gQ Z nofun nofun nofun) (λ_ _ _ _=>qB (i:=0) (show SQ (["letter"]:Α)from by decide +kernel) Z (SF Z) (.inr Z)) (λ_ _ _ _=>(kD ra ra qi (qv 0) qi))) qa)))))
  rcases y with⟨z,rfl,r,u,rfl⟩|⟨t,hk,B,rfl⟩
  case inr=>
   exists 0,x,"str",t,Z,sC hk,by simp,0
   rw[B];exact zZ (q _ (Oq.refl _))
  have D:z.length=z.cps.toList.length:=Z
  exists 10,"str","str",Z,.str z,by simp,0
  refine zu ?_
  exists 0,z,Z,by rw[JV];lia,_,_,Z,Z,_,Z
  unfold Et at q
  by_cases h1:1<=z.length
  case neg=>
   refine zz (JT (by lia)) #[0,zZ ?_]
   rw[JT h1,LR,LR]at q;exact q _ (Oq.refl _)
  refine Qb (JM (by lia)) ?_
  exists 12
  rw[JM h1,Mp]at q
  by_cases m:z.length<=8
  case neg=>
   refine Qb (by rw[JT (by lia:¬((z.length:Nat):Int)<=8)];rfl) ?_
   rw[JT m,LR]at q;exact q _ (Oq.refl _)
  refine zz (by rw[JM (by lia:((z.length:Nat):Int)<=8)];rfl) ?_
  rw[JM m,Mp]at q;refine#[0,z,Z,r,Dn (by show z.cps.toList.length<=_;rw[JV];lia) (λi ys j=>j=H/\ys=((z.cps.toList.take i).map sI).map V.bl) #[9] ?_ ?_]
  .rintro i ys j c p _ ⟨rfl,rfl⟩
   have e:=vp p;let#[n,o]:=wm c;exists 16
   rw[LP,e,La,La]
   by_cases d:97<=c
   .refine Qb (by rw[n,JM d]) #[_,_,Z,Z,Z,?_]
    rw[o]
    show _=_++[V.bl (decide (97<=c)&&decide (c<=122))]
    rw[JM d,Mp]
   .refine zz (by rw[n,JT d]) #[Z,?_]
    show _=_++[V.bl (decide (97<=c)&&decide (c<=122))]
    rw[JT d,LR]
  .rintro ys j u ⟨rfl,rfl⟩ l g
   exists l,z.cps.toList.map sI,Z,OA.of (by rw[show z.cps.size=z.cps.toList.length from Z,Mm];exact qb)
   rw[List.all_map];exact q _ (Oq.upd g)
def wY(a:At K mg "is_code" iA ["thing"])(T:ON K mg tk)(i:Df P w K mg base "are_digits" ["things"] 3 tZ):Df P w K mg base "is_code" W6 4 pe:=by
 refine a.dq wD λf _ A _ s H n Q E g h=>?_
 .let#[x,b,rfl,j,q]:=h
  exists _,(qg (qA (Qg (zw (qq zc T.b_isinstance J6 (qc (qv 0) (qc (qZ (v:= .ty "tuple") Z T.b_tuple J8 Z) qa))))) (qh (qm QH)) qp)
   (qh (qm (Qp (Qh qQ (qq qN T.b_len Ld (qc (qv 0) qa)) (zh (v:= .int 5) Z T.g_CODE_DIGITS #[0]) (qy _)) (QP (qu i g.mo (qc (qv 0) qa)))))))
  rcases j with⟨e,ds,rfl,d,m,hk,rfl⟩|⟨t,hk,l,rfl⟩
  case inr=>
   exists 0,x,"tuple",t,Z,sC hk,by simp,0
   rw[l];exact zZ (q _ (Oq.refl _))
  exists 10,"tuple","tuple",Z,.tup (.inl d),by simp,0
  refine zu ?_
  exists 0,e,0,.inr (OC.of d),7
  by_cases c:ds.length=5
  .refine Qb (JM (by rw[c];rfl)) ?_
   refine#[0,e,0,d,by rw[JV];lia,hk,λH' s'=>?_]
   rw[JM c,Mp]at q;exact q _ s'
  .rw[JT c,LR]at q
   refine zz (JT (by intro z;injection z with z;lia)) ?_
   exact q _ (Oq.refl _)
def uO(a:At K mg "is_press" gl ["thing"])(T:ON K mg tk)(o:Df P w K mg base "is_name" W6 1 pD)(j:Df P w K mg base "is_number" W6 1 kh)(m:Df P w K mg base "is_code" W6 4 pe):Df P w K mg base "is_press" W6 5 gs:=by
 refine a.dq PF λf _ A _ s H u Q E g h=>?_
 .let#[x,b,rfl,r,q]:=h
  exists _,(qg (qA (QW.pt (Zb (Qg (zw (qq zc T.b_isinstance J6 (qc (qv 0) (qc (qZ (v:= .ty "tuple") Z T.b_tuple J8 Z) qa))))) (Q5 (qw bG (qq qN T.b_len Ld (qc (qv 0) qa)) qj (qy _))))) (qh (qm QH)) qp)
   (qg (Qx (qv 0) (cP Z (qM (qB (i:=1) PF.nd Z (SF Z)) (qM (qB (i:=2) PF.nd Z (SF Z)) (qM (qB (i:=3) PF.nd Z (SF Z)) Qs)))))
   (qh (qm (Qp (qu o g.mo (qc (qv 1) qa)) (Qp (qu j g.mo (qc (qv 2) qa)) (QP (qu m g.mo (qc (qv 3) qa)))))))))
  cases r with
  | @kd t hk hs=>
   exists 0,x,"tuple",t,Z,sC hk,by simp,0
   rw[hs];exact zZ (q _ (Oq.refl _))
  | @len a xs e h l n=>
   subst e;exists 10,"tuple","tuple",Z,.tup (.inl h),by simp,0
   refine zu ?_
   exists 0,a,0,.inr (OC.of h),7
   refine Qb (by rw[JT (by intro z;injection z with z;lia)];rfl) ?_
   exact q _ (Oq.refl _)
  | @tup a n y c bn bc ty e h hn hy hc=>
   subst e;exists 10,"tuple","tuple",Z,.tup (.inl h),by simp,0
   refine zu ?_
   exists 0,a,0,.inr (OC.of h),7
   refine gK Z ?_
   exists 0,a,0,.tup h,13
   refine#[0,n,bn,Z,hn,λH1 d=>#[0,?_]]
   cases bn with
   |false=>exact zu (q _ d)
   |true=>
    refine zZ ?_
    exists 0,y,ty,Z,jx d hy,0
    cases hnum:kJ y with
    |false=>
     rw[hnum]at q;exact zu (q _ d)
    |true=>
     rw[hnum]at q;refine zZ ?_
     exact#[0,c,bc,Z,hc.same d,λB p=>q _ (d.trans p)]
def Co(K:ι)(C:Δ):Sp:=λh H Q _=>∃(p a b dx:Δ) (d f e:Int) (t:Ε) (c:List Ε),h=[-p,-a,-b,.int d,.int f,.int e]/\H p=↑(.ins C dx [])/\Sq K H a (t.map V.int)/\(∃g:Η,Sq K H b (g.map V.ref)/\g.length=c.length/\∀(i:Nat) (a:Δ) (ks:Ε),g[i]? =↑a->c[i]? =↑ks->OC [] H a (ks.map V.int))/\c.length<=8/\
 ∀ta hk bd lg H',H hk=none->H bd=none->H lg=none->Mv [p] H H'->Ox K C H' p ta hk bd lg 0 #[t,c,d,f,e,(0),[]]->OP [] H' hk c->Q .non H'
def FK{K:ι}{C:Δ}{H:Hp}{fs:List (Str×V)}(e:H p=↑(.ins C dx fs))(h:Sq K H a xs):Sq K (Ot H p o) a xs:=by
 rcases h with((h|⟨u,h⟩)|h)|h
 .exact .inl (.inl (.inl (by rw[qk (zn h e (by intro z;cases z))];exact h)))
 .exact .inl (.inl (.inr #[u,by rw[qk (zn h e (by intro z;cases z))];exact h]))
 .exact .inl (.inr h)
 .exact .inr (Qe e h)
def ei(a:O7 K C "__init__" "Door.__init__" Ze ["self","table","keys","near","far","most"])(T:ON K mg tk)(U:PB K C):Mf P w K mg base C "__init__" x5 1 (Co K C):=by
 refine a.mq nP λf _ A _ s H vs Q E hr h=>?_
 .let#[p,a,b,dx,J,a3,O,t,n,rfl,hp,ha,hb,hl,q]:=h
  exists _,(qg (zt (qv 0) (qI Zg T.b_tuple J8 (qc (qv 1) qa)))
   (qg (zt (qv 0) (QR (own:=["key"]) (fr:=[]) (js:=[]) Z (fu (qv 2)) Z (λ_ _ h=>nomatch h) Z (gQ Z nofun nofun nofun) (λ_ _ _ _=>qB (i:=0) (show SQ (["key"]:Α)from by decide +kernel) Z (SF Z) (.inr Z)) (λ_ _ _ _=>(qI Zf T.b_tuple J8 (qc (qv 0) qa)))))
   (qg (zt (qv 0) (qv 3))
   (qg (zt (qv 0) (qv 4))
   (qg (zt (qv 0) (qv 5))
   (qg (zt (qv 0) qj)
   (qg (zt (qv 0) Z9)
   (qh (zt (qv 0) (ze qa))))))))))
  refine#[0,a,0,ha,λta H2 L ht=>#[0,p,0,Zr U.cl (L _ _ hp) U.n_table 0,?_]]
  have e2:=L _ _ hp;let#[as,eb,W,v]:=hb;have eb:=FK (o:= .ins C dx [("table",-ta)]) e2 (eb.same L)
  have v:=λi a ks r d=>Qe (o:= .ins C dx [("table",-ta)]) e2 (Oq.sqt L (v i a ks r d))
  have a2:=Qe (o:= .ins C dx [("table",-ta)]) e2 ht
  refine#[0,b,Z,Fo (K:=K) eb (by rw[JI,W,JV];lia) (λi ys H3=>Oq (Ot H2 p (.ins C dx [("table",-ta)])) H3/\∃bs:Η,ys=bs.map V.ref/\bs.length=i/\∀(j:Nat) (x:Δ) (ks:Ε),bs[j]? =↑x->n[j]? =↑ks->OC [] H3 x (ks.map V.int)) #[Oq.refl _,[],9,λj x ks e=>by(cases e)] (λi ys H3 h=>h.1) ?_ ?_]
  .rintro i ys H3 x I a0 ⟨z,bs,rfl,D,B⟩
   rw[JW]at I;cases ea:as[i]? with
   |none=>rw[ea]at I;cases I
   |some x0=>
    rw[ea]at I
    obtain rfl:V.ref x0=x:=Lb I
    have hi:i<n.length:=by rw[<- W];exact(JZ.mp ea).1
    have a1:=v i x0 n[i] ea (JQ hi);refine#[0,x0,0,.inr (Oq.sqt z a1).rd,λl H4 s4 X=>#[z.trans s4,bs++[l],by simp,by simp [D],λj y ks r d=>?_]]
    rw[N8]at r;split at r
    .exact Oq.sqt s4 (B j y ks r d)
    .have hj:j-bs.length=0:=by
      cases hj:j-bs.length with
      |zero=>rfl
      |succ k=>rw[hj]at r;cases r
     rw[hj]at r;cases r
     have:j=i:=by lia
     subst this;rw[JQ hi]at d;cases d;exact .inl X
  .rintro ys H3 a0 ⟨z,bs,rfl,D,B⟩ hk G
   have R:=Oq.upd (o:= .lst (bs.map V.ref)) G
   have e3:=R _ _ (z _ _ qb);exists 0,p,0,Zr U.cl e3 U.n_house_keys 1
   exists 2,p,0,Zr U.cl qb U.n_near 2
   exists 2,p,0,Zr U.cl qb U.n_far 3
   exists 2,p,0,Zr U.cl qb U.n_most 4
   exists 0,p,0,Zr U.cl qb U.n_least_age 5
   refineλbd g=>#[0,p,0,Zr U.cl (by rw[qk (qr qb g)];exact qb) U.n_buttons 6,?_]
   have u:=qr qb g;refine#[Oa,λlg m=>#[0,p,0,Zr U.cl (by rw[qk (qr qb m)];exact qb) U.n_log 7,?_]]
   have N:=qr qb m;have m3:Mv [p] H H3:=((L.mv (S:=[p])).trans Mv.upd1).trans z.mv
   have c:hk≠p:=(qr (z _ _ qb) G).symm
   have Y:Mv [p] H (Ot H3 hk (.lst (bs.map V.ref))):=m3.trans R.mv
   have M:∀o1 o2 o3 o4 o5,Mv [p] (Ot H3 hk (.lst (bs.map V.ref))) (Ot (Ot (Ot (Ot (Ot (Ot H3 hk (.lst (bs.map V.ref))) p o1) p o2) p o3) p o4) p o5):=λo1 o2 o3 o4 o5=>(((Mv.upd1.trans Mv.upd1).trans Mv.upd1).trans Mv.upd1).trans Mv.upd1
   have M6:Mv [p] (Ot H3 hk (.lst (bs.map V.ref))) _:=(((M _ _ _ _ _).trans (Oq.upd g).mv).trans Mv.upd1).trans (Oq.upd (o:= .lst []) m).mv
   have M7:=M6.trans (Mv.upd1 (o:= .ins C dx (dF #[t,n,J,a3,O,(0),[]] ta hk bd lg)))
   have nt:NT [p] (Ot H3 hk (.lst (bs.map V.ref))):=NT.one e3 trivial
   have F:bd≠lg:=qr (by rw[qk u.symm];exact qb) m
   have KR:=OP.mv M7 nt (zr c) (show OP [] _ hk n from#[bs,qb,by rw[D,JI,W],λj x ks r d=>Oq.sqt R (B j x ks r d)])
   refine q ta hk bd lg _ (m3.nfree (zr c) G) ((Y.trans (M _ _ _ _ _)).nfree (zr u.symm) g) ((Y.trans ((((M _ _ _ _ _).trans (Oq.upd g).mv).trans Mv.upd1))).nfree (zr N.symm) m) (Y.trans M7) #[#[dx,qb],?_,OP.up KR,?_,?_,?_] KR
   .exact M7.sqt nt (Oq.sqt R (Oq.sqt z a2))
   .exact#[([],λ_=>0),by rw[qk u.symm,qk F,qk u.symm];exact qb,λe he=>by(cases he),.refl _,ME]
   .exact#[[],by rw[qk N.symm];exact qb,JL _]
   .refine(qr (o:= .lst (bs.map V.ref)) ?_ m).symm
    rw[qk c];rw[qk (qr (o:= .lst (bs.map V.ref)) (by rw[qk c,qk c,qk c,qk c,qk c];exact qb) g)]
    rw[qk c,qk c,qk c,qk c,qk c];exact qb
def nM(a:O7 K C "__init__" "Door.__init__" Ze ["self","table","keys","near","far","most"])(T:ON K mg tk)(U:PB K C):Mf P w K mg base C "__init__" x5 1 (nT K C):=(ei a T U).weak (by
 rintro j H Q E ⟨p,a,b,dx,n,f,m,t,c,e,h1,g,⟨h,i,l,r⟩,d,q⟩
 exact#[p,a,b,dx,n,f,m,t,c,e,h1,g,#[h,.inl (OA.of i),l,r],d,q])
def k9(a:O7 K C "is_full" "Door.is_full" bu ["self"])(T:ON K mg tk)(U:PB K C):Mf P w K mg base C "is_full" q9 1 (mY K C):=by
 refine a.mq kZ λf _ A _ s H i Q E g h=>?_
 .let#[p,ta,hk,bd,lg,n,D,rfl,b,q]:=h
  let#[d,e,_,c,_]:=b.kb;exists _,(qh (qm (Qh eD (qq AL T.b_len Ld (qc (qz (qv 0)) qa)) (qz (qv 0)) (qy _))))
  exists 0,p,0,b.h_buttons U,bd,0,e,0,p,0,b.h_most U,4
  rw[show(cM d.1 d.2).length=D.kn.length from(JI _).trans c.length_eq]
  exact q
def jL(a:O7 K C "button_of" "Door.button_of" aq ["self","name"])(T:ON K mg tk)(U:PB K C):Mf P w K mg base C "button_of" u0 1 (wT K C):=by
 refine a.mq jN λf _ A _ s H q Q E d h=>?_
 .let#[p,ta,hk,bd,lg,n,D,nm,rfl,b,i,j]:=h
  exists _,(qh (qm (tR d (qz (qv 0)) (qv 1))))
  let#[o,m,_]:=id b.kb;exists 0,p,0,b.h_buttons U,bd,Z,.inl #[_,.inl m],0
  rcases b.kb.get nm with⟨c,g⟩|⟨e,x,c,g,l⟩
  .exact#[_,g,i c]
  .exact#[_,g,j e x c l]
def jK(a:O7 K C "takes_age" "Door.takes_age" ar ["self","age"])(T:ON K mg tk)(U:PB K C):Mf P w K mg base C "takes_age" X2 1 (gA K C):=by
 refine a.mq jT λf _ A _ s H i Q E e h=>?_
 .let#[p,ta,hk,bd,lg,n,D,age,rfl,b,q]:=h
  let#[g,d,c,_]:=b.ks;exists _,(qh (qm (kD cB jB (qz (qv 0)) (qv 1) (qq qN T.b_len Ld (qc (qz (qv 0)) qa)))))
  unfold Z4 at q;exists 0,p,0,b.h_least_age U,16
  refine qL (λz=>?_) (λz=>?_)
  .rw[z,Mp]at q
   exists 0,p,0,b.h_house_keys U,hk,0,.inl (OA.of d),4
   rw[JI,c];exact q
  .rw[Nm.mpr z,LR]at q
   exact q
def jm(a:O7 K C "read_right" "Door.read_right" ZX ["self","thing"])(T:ON K mg tk)(U:PB K C)(I:Df P w K mg base "is_press" W6 5 gs)(G:Mf P w K mg base C "takes_age" X2 1 (gA K C))(R:Df P w K mg base "read_press" Y0 3 (sX K)):Mf P w K mg base C "read_right" V3 6 (oS K C):=by
 refine a.mq jp λf _ A _ s H W Q E l h=>?_
 .let#[p,ta,hk,bd,lg,n,D,x,o,rfl,b,ok,tg,q]:=h
  exists _,(qg (qA (QW.pt (Zb (Qg (zw (qu I l.mo (qc (qv 1) qa)))) (Q5 (Qg (zw (zb G U.cl l.mo (qv 0) (qc (qE qT (qv 1) qj) qa))))))) (qh (qm zi)) qp)
   (qh (qm (qu R l.mo (qc (qz (qv 0)) (qc (qE qS (qz (qv 0)) (qE qT (qv 1) qj)) (qc (qv 1) qa)))))))
  refine#[0,x,0,tg.b,λH1 i=>#[0,?_]]
  cases o with
  |none=>exact zZ (zZ (q .non _ i Z))
  |some PP=>
  let#[pr,rfl,N,u,v,e]:=tg;have q:∀y H',Oq H H'->ja H' y (i9 D PP)->Q y H':=q
  let#[nm,age,ds]:=PP;simp only at u v e
  refine zu ?_
  have d:=b.same i;let#[S,c,j]:=OY.same i N;exists 0,p,Z,d.no,0,pr,1,OC.of c,Z,p,ta,hk,bd,lg,n,D,age,Z,d,0
  unfold i9 at q;cases ht:Z4 D age with
  |false=>
   rw[JJ (by rw[ht];intro z;cases z)]at q
   exact zZ (q _ _ i Z)
  |true=>
  rw[JK ht]at q;refine zu ?_
  have r:aS D #[age,(0),none] age=true:=by unfold aS;rw[ht,JM (MC _)];rfl
  let#[B,J]:=pT r ok.l0;let#[xs,F,M,m,t]:=d.ks.at B J
  exact#[0,p,0,d.h_table U,0,p,0,d.h_house_keys U,0,pr,1,OC.of c,Z,hk,1,OA.of M,m,0,ta,F,pr,S,nm,age,D.t,aW D age,ds,Z,.inr d.tb,.inr t,.tup c,.tup j,u,ok.tp,v,e,λy O L g=>q y O (i.trans L) g]
def jQ(a:O7 K C "known_now" "Door.known_now" ag ["self"])(T:ON K mg tk)(U:PB K C):Mf P w K mg base C "known_now" q9 1 (gb K C):=by
 refine a.mq jR λf _ A _ s H vs Q E hr h=>?_
 .let#[p,ta,hk,bd,lg,n,D,rfl,b,ok,q]:=h
  let#[fn,hd,a5,O,_]:=id b.kb;exists _,(qh (qm (qI za T.b_tuple J8 (qc (QR (own:=["name"]) (fr:=["self"]) (js:=[0]) Z (ba (qq (ug Z) T.b_sorted PyProof.Rows.boot_sorted (qc (qz (qv 0)) qa))) Z (DG Z) Z (CI Z nofun nofun nofun Z Z Z) (λ_ _ _ _=>qB (i:=0) (show SQ (["name","self"]:Α)from by decide +kernel) Z (SF Z) (.inr Z)) (λ_ _ _ _=>(qF oa (qD (qc (qv 0) qa)) (qH hr (EM (K:=K) Z (qv 1)) (qv 0))))) qa))))
  refine#[0,p,0,b.h_buttons U,bd,_,fn.1.map (·.1),Z,hd,FE _ _,by rw[JI,O.length_eq];have:=ok.nl;lia,λl r hl a4 so=>#[l,Z,#[_,OA.of qb],?_]]
  have pm:=a4.trans (O.map (·.1))
  have u1:=Oq.upd (o:= .lst (r.map V.str)) hl
  have ls:r.length<=60:=by rw[pm.length_eq,JI];exact ok.nl
  refine dw (K:=K) (xs:=r.map V.str) (by rw[JI,JV];lia) (λi ys H3=>Oq (Ot H l (.lst (r.map V.str))) H3/\∃m:Η,ys=m.map V.ref/\m.length=i/\∀(j:Nat) (x:Δ) (nm:Str) (e:Kb),m[j]? =↑x->r[j]? =↑nm->D.kn.lookup nm=↑e->∃v,H3 x=↑(.tup [.str nm,.int e.age,.int e.last,v])/\Wt H3 v e.wt) #[Oq.refl _,[],9,λj x nm e h=>by(cases h)] (λi ys H3 ⟨F,_⟩=>F.seq (OA.of qb)) ?_ ?_
  .rintro i ys H3 x N a3 ⟨F,m,rfl,u,has⟩
   rw[JW]at N;cases es:r[i]? with
   |none=>rw[es]at N;cases N
   |some nm=>
    rw[es]at N
    obtain rfl:V.str nm=x:=Lb N
    have I:nm∈D.kn.map (·.1):=pm.mem_iff.mp (JU es)
    let#[e,L]:=Zd I;have b3:=b.same (u1.trans F);let#[e',x0,d,g,v0,M,R]:=(b3.kb.get nm).resolve_left (λz=>by rw[L]at z;cases z.1)
    rw[L]at d;cases d;refine#[0,Ob,λt ht=>?_]
    have G:=Oq.upd (o:= .tup [.str nm]) ht
    have b4:=b3.same G;let#[e',x0,d,g,v0,M,R]:=(b4.kb.get nm).resolve_left (λz=>by rw[L]at z;cases z.1)
    rw[L]at d;cases d;refine#[0,p,0,b4.h_buttons U,0,bd,0,g,t,x0,4,qb,M,Oe,λq1 H5 X B=>?_]
    refine#[(F.trans G).trans X,m++[q1],by simp,by simp [u],λj y m2 e2 h1 W J=>?_]
    rw[N8]at h1;split at h1
    .let#[v,Y,a2]:=has j y m2 e2 h1 W J
     exact#[v,X _ _ (G _ _ Y),a2.mv (S:=[]) (G.trans X).mv (λc h=>nomatch h)]
    .have hj:j-m.length=0:=by
      cases hj:j-m.length with
      |zero=>rfl
      |succ k=>rw[hj]at h1;cases h1
     rw[hj]at h1;cases h1
     obtain rfl:j=i:=by lia
     rw[es]at W;cases W;rw[L]at J;cases J
     exact#[v0,B,R.mv (S:=[]) X.mv (λc h=>nomatch h)]
  .rintro ys H3 a3 ⟨F,m,rfl,u,has⟩ l2 a0
   have G:=Oq.upd (o:= .lst (m.map V.ref)) a0
   refine#[l2,0,.inl #[OA.of qb,λq1 B=>?_]]
   have u5:=Oq.upd (o:= .tup (m.map V.ref)) B
   have S:=G.trans u5;refine q q1 r _ ((u1.trans F).trans S) pm so #[m,qb,by rw[u,JI],λj x nm e h1 W J=>?_]
   let#[v,Y,a2]:=has j x nm e h1 W J
   exact#[v,S _ _ Y,a2.mv (S:=[]) S.mv (λc h=>nomatch h)]
def wq(a:At K mg "word_of" iQ ["count","last","near","far"])(T:ON K mg tk):Df P w K mg base "word_of" ["count","last","near","far"] 1 vI:=by
 refine a.dq wS λf _ A _ s H e Q E d h=>?_
 .let#[c,l,n,f,rfl,q]:=h
  unfold wx at q;exists _,(qg (qA (qw cB (qv 0) (qv 1) (qy _)) (qh (qm qi)) qp)
   (qg (qA (qw cB (qv 0) (qF zo (qv 1) (qv 2)) (qy _)) (qh (qm qi)) qp)
   (qg (qA (qw cB (qv 0) (qF zo (qv 1) (qv 3)) (qy _)) (qh (qm qi)) qp)
   (qh (qm qi)))))
  exists 42
  refine qL (λz=>?_) (λz=>?_)
  .rw[JK (J5 z)]at q;exact q
  .rw[JJ (λy=>z (JM y))]at q
   exists 22
   refine qL (λz=>?_) (λz=>?_)
   .rw[JK (J5 z)]at q;exact q
   .rw[JJ (λy=>z (JM y))]at q
    exists 22
    refine qL (λz=>?_) (λz=>?_)
    .rw[JK (J5 z)]at q;exact q
    .rw[JJ (λy=>z (JM y))]at q;exact q
def xa(a:At K mg "step_by" iT ["button","age","count","near","far"])(T:ON K mg tk)(N:Df P w K mg base "word_of" ["count","last","near","far"] 1 vI):Df P w K mg base "step_by" V4 2 vK:=by
 refine a.dq Pc λf _ A _ s H O Q E L h=>?_
 .let#[a,e,age,c,l,p,rfl,#[v,z,C],q]:=h
  exists _,(qg (Qx (qv 0) (cP Z (qM (qB (i:=5) Pc.nd Z (SF Z)) (qM (qB (i:=6) Pc.nd Z (SF Z)) (qM (qB (i:=7) Pc.nd Z (SF Z)) Qs)))))
   (qg (qC (i:=8) Pc.nd Z (SF Z) (qu N L.mo (qc (qv 2) (qc (qv 6) (qc (qv 3) (qc (qv 4) qa))))))
   (qg (qA (QW.pt (iI (qw qQ (qv 8) qi (qy _)) (fS (qw (G0 L) (qv 7) (qD (qc (qv 1) (qc (qF Q4 (qv 2) qj) qa))) (qy _))))) (qh (qC (i:=8) Pc.nd Z (SF Z) qi)) qp)
   (qg (qA (qw qQ (qv 8) qi (qy _)) (qh (qm (qD (qc (qv 8) (qc (qD (qc (qv 1) (qc (qv 2) (qc zi qa)))) qa))))) qp)
   (qg (qA (qw qQ (qv 8) qi (qy _)) (qh (qm (qD (qc (qv 8) (qc (qD (qc (qv 5) (qc (qv 6) (qc (qD (qc (qv 1) (qc (qv 2) qa))) qa)))) qa))))) qp)
   (qh (qm (qD (qc (qv 8) (qc (qv 0) qa))))))))))
  exists 0,a,0,.tup z,13
  exists 27,c,e.last,l,p,Z
  unfold ZK at q;unfold wx
  by_cases h1:c<=e.last
  .rw[JK h1]
   rw[JK h1]at q;exists 3
   refine qL (λy=>absurd (J5 y) nofun) (λ_=>?_)
   exists 3
   refine qL (λy=>absurd (J5 y) nofun) (λ_=>?_)
   exists 3
   refine qL (λy=>absurd (J5 y) nofun) (λ_=>?_)
   refine#[2,Oc,λg d=>?_]
   exact q g a _ (Oq.upd d) qb (PQ.same (Oq.upd d) #[v,z,C])
  .rw[JJ h1]
   rw[JJ h1]at q
   by_cases x:c<=e.last+l
   .rw[JK x]
    rw[JK x]at q;exists 3
    refine qL (λy=>absurd (J5 y) nofun) (λ_=>?_)
    exists 3
    refine qL (λ_=>?_) (λy=>absurd (JM Z) y)
    refine#[5,Od,λt n=>#[Oc,λg d=>?_]]
    have m:=Oq.upd (o:= .tup [.int age,.int c,.non]) n
    have j:=Oq.upd (o:= .tup [.str "near",-t]) d
    exact q g t _ (m.trans j) qb #[.non,j _ _ qb,Z]
   .rw[JJ x]
    rw[JJ x]at q
    by_cases r:c<=e.last+p
    .rw[JK r]
     rw[JK r]at q;exists 3
     refine qL (λ_=>?_) (λy=>absurd (JM Z) y)
     refine#[43,Oc,λM G=>?_]
     have B:=Oq.upd (o:= .tup [.int age,.int (c-1)]) G
     have I:=C.mv (S:=[]) B.mv (λc h=>nomatch h)
     exists e.wt,M,age,c-1,I,Z,.inl qb,0
     by_cases u:e.wt=↑(age,c-1)
     .rw[JK u]at q
      refine Qb (JM u) ?_
      exists 3
      refine qL (λ_=>?_) (λy=>absurd (JM Z) y)
      refine#[5,Od,λt n=>#[Oc,λg d=>?_]]
      have m:=Oq.upd (o:= .tup [.int age,.int c,.non]) n
      have j:=Oq.upd (o:= .tup [.str "near",-t]) d
      exact q g t _ ((B.trans m).trans j) qb #[.non,j _ _ qb,Z]
     .rw[JJ u]at q
      refine zz (JT u) ?_
      exists 3
      refine qL (λy=>absurd (J5 y) nofun) (λ_=>?_)
      exists 3
      refine qL (λ_=>?_) (λy=>absurd (JM Z) y)
      refine#[28,Oc,λF J=>#[Od,λt n=>#[Oc,λg d=>?_]]]
      have m:=Oq.upd (o:= .tup [.int age,.int c]) J
      have j:=Oq.upd (o:= .tup [.int e.age,.int e.last,-F]) n
      have D:=Oq.upd (o:= .tup [.str "far",-t]) d
      exact q g t _ (((B.trans m).trans j).trans D) qb #[-F,D _ _ qb,F,Z,D _ _ (j _ _ qb)]
    .rw[JJ r]
     rw[JJ r]at q;exists 3
     refine qL (λy=>absurd (J5 y) nofun) (λ_=>?_)
     exists 3
     refine qL (λy=>absurd (J5 y) nofun) (λ_=>?_)
     exists 3
     refine qL (λy=>absurd (J5 y) nofun) (λ_=>?_)
     refine#[2,Oc,λg d=>?_]
     exact q g a _ (Oq.upd d) qb (PQ.same (Oq.upd d) #[v,z,C])
def iE(a:O7 K C "takes_from" "Door.takes_from" ZQ ["self","button","age"])(T:ON K mg tk)(U:PB K C)(d:Mf P w K mg base C "takes_age" X2 1 (gA K C)):Mf P w K mg base C "takes_from" Y1 2 (ng K C):=by
 refine a.mq iO λf _ A _ s H j Q E c h=>?_
 .let#[p,ta,hk,bd,lg,x,n,D,e,age,rfl,b,#[v,g,i],q]:=h
  exists _,(qh (qm (Qp (zb d U.cl c.mo (qv 0) (qc (qv 2) qa)) (QP (Qh eD (qv 2) (qE qT (qv 1) qj) (qy _))))))
  unfold aS at q;exists 0,p,Z,b.no,0,p,ta,hk,bd,lg,n,D,age,Z,b,0
  refine qL (λz=>?_) (λz=>?_)
  .rw[z,Mp]at q
   exact#[2,x,1,OC.of g,33,q]
  .rw[Nm.mpr z,LR]at q
   exact q
def iK(a:O7 K C "plain_step" "Door.plain_step" ZR ["self","button","age","count"])(T:ON K mg tk)(U:PB K C)(l:Mf P w K mg base C "takes_from" Y1 2 (ng K C))(i:Df P w K mg base "step_by" V4 2 vK):Mf P w K mg base C "plain_step" Y5 3 (vy K C):=by
 refine a.mq jb λf _ A _ s H m Q E d h=>?_
 .let#[p,ta,hk,bd,lg,x,n,D,e,age,c,rfl,b,g,j,q]:=h
  exists _,(qg (qA (Qg (zw (zb l U.cl d.mo (qv 0) (qc (qv 1) (qc (qv 2) qa))))) (qh (qm (qD (qc qi (qc (qv 1) qa))))) qp)
   (qh (qm (qu i d.mo (qc (qv 1) (qc (qv 2) (qc (qv 3) (qc (qz (qv 0)) (qc (qz (qv 0)) qa)))))))))
  exists 0,p,Z,b.no,2,p,ta,hk,bd,lg,x,n,D,e,age,Z,b,g,0
  rw[j];refine zu ?_
  exact#[27,p,0,b.h_near U,0,p,0,b.h_far U,x,e,age,c,D.near,D.far,Z,g,q]
def jS(a:O7 K C "answer_to" "Door.answer_to" af ["self","press"])(T:ON K mg tk)(U:PB K C)(xA:Mf P w K mg base C "button_of" u0 1 (wT K C))(dU:Mf P w K mg base C "takes_from" Y1 2 (ng K C))(yC:Mf P w K mg base C "plain_step" Y5 3 (vy K C))
  (xI:Df P w K mg base "read_press" Y0 3 (sX K)):Mf P w K mg base C "answer_to" ["self","press"] 4 (pM K C):=by
 refine a.mq OD λf _ A _ s H vs Q E t h=>?_
 .let#[p,ta,hk,bd,lg,pr,n,D,nm,age,ds,rfl,b,ok,#[pc,hp,G],hn,l5,I,q]:=h
  exists _,(qg (Qx (qv 1) (cP Z (qM (qB (i:=2) OD.nd Z (SF Z)) (qM (qB (i:=3) OD.nd Z (SF Z)) (qM (qB (i:=4) OD.nd Z (SF Z)) Qs)))))
   (qg (qC (i:=5) OD.nd Z (SF Z) (zb xA U.cl t.mo (qv 0) (qc (qv 2) qa)))
   (qg (qA (qw a6 (qv 5) zi (qy _)) (qh (qm (qD (qc qi (qc qi qa))))) qp)
   (qg (qA (Qg (zw (zb dU U.cl t.mo (qv 0) (qc (qv 5) (qc (qv 3) qa))))) (qh (qm (qD (qc qi (qc qi qa))))) qp)
   (qg (qC (i:=6) OD.nd Z (SF Z) (qu xI t.mo (qc (qz (qv 0)) (qc (qE qS (qz (qv 0)) (qv 3)) (qc (qv 1) qa)))))
   (qg (qA (qw a6 (qv 6) zi (qy _)) (qh (qm (qD (qc qi (qc qi qa))))) qp)
   (qg (Qx (qv 6) (cP Z (qM (qB (i:=7) OD.nd Z (SF Z)) (qM (qB (i:=8) OD.nd Z (SF Z)) Qs))))
   (qg (Qx (zb yC U.cl t.mo (qv 0) (qc (qv 5) (qc (qv 3) (qc (qv 7) qa)))) (cP Z (qM (qB (i:=9) OD.nd Z (SF Z)) (qM (qB (i:=10) OD.nd Z (SF Z)) Qs))))
   (qg (Za t (qz (qv 0)) (qv 2) (qv 10))
   (qg (qA (qw qQ (qv 9) qi (qy _)) (qh (qm (qD (qc qi (qc (qv 2) (qc (qv 8) qa)))))) qp)
   (qh (qm (qD (qc qi (qc (qv 9) qa)))))))))))))))
  exists 0,pr,0,.tup hp,13
  refine#[0,p,Z,b.no,0,p,ta,hk,bd,lg,n,D,nm,Z,b,λr=>?_,λe x r hx=>?_]
  .have m:QF D nm age (aF D.t (aW D age) nm ds)=([.str "held",.str "unknown"],D.kn):=by unfold QF;rw[r]
   rw[m]at q;exists 3
   refine qL (λ_=>?_) (λy=>absurd (JM Z) y)
   refine#[Oc,λo g=>?_]
   exact q o _ (Oq.upd g).mv qb (b.same (Oq.upd g))
  .exists 3
   refine qL (λy=>nomatch (J5 y)) (λ_=>?_)
   exists 0,p,Z,b.no,2,p,ta,hk,bd,lg,x,n,D,e,age,Z,b,hx,0
   cases ht:aS D e age with
   |false=>
    have m:QF D nm age (aF D.t (aW D age) nm ds)=([.str "held",.str "age"],D.kn):=by unfold QF;rw[r];simp only;rw[ht];rfl
    rw[m]at q;refine zZ ?_
    refine#[Oc,λo g=>?_]
    exact q o _ (Oq.upd g).mv qb (b.same (Oq.upd g))
   |true=>
    refine zu ?_
    let#[a0,a1]:=pT ht ok.l0;let#[xs,ak,eh,J,X]:=b.ks.at a0 a1;refine#[0,p,0,b.h_table U,0,p,0,b.h_house_keys U,0,hk,1,OA.of eh,J,0,ta,ak,pr,pc,nm,age,D.t,aW D age,ds,Z,.inr b.tb,.inr X,.tup hp,.tup G,hn,ok.tp,l5,I,λy H1 F u=>?_]
    have v:=b.same F;have M:=hx.same F;have j:ja H1 y (aF D.t (aW D age) nm ds):=u
    cases er:aF D.t (aW D age) nm ds with
    |none=>
     rw[er]at j q;have O:y= .non:=j
     subst O;have m:QF D nm age none=([.str "held",.str "false"],D.kn):=by unfold QF;rw[r];simp only;rw[ht];rfl
     rw[m]at q;exists 3
     refine qL (λ_=>?_) (λy=>absurd (JM Z) y)
     refine#[Oc,λo g=>?_]
     exact q o _ (F.trans (Oq.upd g)).mv qb (v.same (Oq.upd g))
    |some cd=>
     let#[c,d]:=cd;rw[er]at j q;let#[pp,O,L]:=j;subst O;exists 3
     refine qL (λy=>nomatch (J5 y)) (λ_=>?_)
     exists 0,pp,0,.tup L,11
     refine#[0,p,Z,v.no,5,p,ta,hk,bd,lg,x,n,D,e,age,c,Z,v,M,ht,λo a' H2 s2 g S=>#[o,0,.tup g,11,?_]]
     have W:=v.same s2;let#[H3,dp,m3,R]:=W.kb.put nm (by have:=ok.nl;lia) S
     exists 2,p,0,W.h_buttons U,0,bd,H3,Z,dp
     have b3:=W.putK m3 R;have Y:Mv [bd] H H3:=(F.trans s2).mv.trans m3
     exists 3
     by_cases B:(ZK D.near D.far e age c).1="near"
     .have m:QF D nm age ↑(c,d)=([.str "open",.str nm,.int d],QL D.kn nm (ZK D.near D.far e age c).2):=by unfold QF;rw[r];simp only;rw[JK ht,JK B]
      rw[m]at q;refine qL (λ_=>?_) (λy=>absurd (JM (by rw[B])) y)
      refine#[2,Od,λN l=>?_]
      exact q N _ (Y.trans (Oq.upd l).mv) qb (b3.same (Oq.upd l))
     .have m:QF D nm age ↑(c,d)=([.str "held",.str (ZK D.near D.far e age c).1],QL D.kn nm (ZK D.near D.far e age c).2):=by unfold QF;rw[r];simp only;rw[JK ht,JJ B]
      rw[m]at q;refine qL (λy=>absurd (J5 y) (by intro z;injection z with z;exact B z)) (λ_=>?_)
      refine#[0,Oc,λN l=>?_]
      exact q N _ (Y.trans (Oq.upd l).mv) qb (b3.same (Oq.upd l))
def um(a:O7 K C "hear" "Door.hear" eK ["self","thing"])(T:ON K mg tk)(U:PB K C)(Y:Df P w K mg base "is_press" W6 5 gs)(yJ:Mf P w K mg base C "answer_to" ["self","press"] 4 (pM K C)):Mf P w K mg base C "hear" V3 6 (nS K C):=by
 refine a.mq Rx λf _ A _ s H vs Q E J h=>?_
 .let#[#[p,ta,hk,bd,lg],D,L,x,o,rfl,#[b,#[rs,F,M],R],n1,ok,tg,X,N]:=h
  simp only at b F R N
  exists _,(qg (qA (Qg (zw (qu Y J.mo (qc (qv 1) qa)))) (qh (qm (qD (qc qi (qc qi qa))))) qp)
   (qg (qC (i:=2) Rx.nd Z (SF Z) (zb yJ U.cl J.mo (qv 0) (qc (qv 1) qa)))
   (qg (qJ (Qw Lk Lx Ly zy (qz (qv 0)) (qc (qD (qc qi (qc (qv 1) (qc (qv 2) qa)))) qa)))
   (qh (qm (qv 2))))))
  refine#[0,x,0,tg.b,λH1 g=>#[0,?_]]
  cases o with
  |none=>exact zZ #[Oc,λq W=>X Z q _ (g.trans (Oq.upd W)) qb]
  |some PP=>
  let#[pr,rfl,O,e]:=tg;have q:=N PP Z;refine zu ?_
  have v:=b.same g;let#[f0,I,_]:=id v.kb;have l:NT [bd] H1:=NT.one I trivial
  refine#[0,p,Z,v.no,0,p,ta,hk,bd,lg,pr,L.length,D,PP.nm,PP.age,PP.ds,Z,v,ok,OY.same g O,e.nm,e.l,e.dg,λG H2 n m S=>?_]
  have j:=n _ _ (zr (zn (g _ _ F) I (by intro z;cases z))) (g _ _ F)
  have y:=(M.same g).mv n l;refine#[0,p,0,S.h_log U,.inl #[25,OA.of j],2,Od,λr B=>?_]
  have d:=Oq.upd (o:= .tup [.str "hear",-pr,-G]) B
  have b3:=S.same d;have t:=OY.same d (OY.mv n l (OY.same g O));have u:NT [lg] _:=NT.one (d _ _ j) trivial
  refine#[lg,4,d _ _ j,by rw[JI,M.1,JV];lia,#[0,?_]]
  exact q pr G _ Z (((g.mv.trans (n.mono (λc h z=>h (by rw[JN.mp z];exact J3 ..)))).trans d.mv).trans (Mv.upd1.mono (λc h z=>h (by rw[JN.mp z];exact F0 _ (J3 ..))))) (OY.mv Mv.upd1 u t) (Mv.upd1.tup u (d _ _ m)) (OO.push (a:=#[p,ta,hk,bd,lg]) b3 (d _ _ j) (y.same d) ((OP.mv n l (zr (wK I v)) (OP.same g R)).same d) #[pr,G,.inl qb,t,e,d _ _ m,Ay D PP,BV D PP])
def ia(a:O7 K C "close_below" "Door.close_below" Zs ["self","age"])(T:ON K mg tk)(U:PB K C):Mf P w K mg base C "close_below" X2 1 (c7 K C):=by
 refine a.mq il λf _ A _ s H G Q E F h=>?_
 .let#[#[p,ta,hk,bd,lg],D,L,age,rfl,#[b,#[rs,l,v],u],n1,q]:=h
  simp only at b l u q
  exists _,(qg (zt (qv 0) (qq (jf Z) T.b_max NO (qc (qz (qv 0)) (qc (qv 1) qa))))
   (qh (qJ (Qw Lk Lx Ly zy (qz (qv 0)) (qc (qD (qc qi (qc (qv 1) qa))) qa)))))
  have q:=q _ _ Z;let#[z,n]:∃z:Int,z=if age>D.least then age else D.least:=#[0]
  rw[<- n]at q;let#[y,g]:=id b.ob;let#[dx,x,m,t]:=b.putLeast U z;have d:=m _ _ (zr (zn l g (by intro z;cases z))) l
  have i:=v.mv m (NT.one g trivial);exists 0,p,0,b.h_least_age U,29,p,0,by rw[<- n];exact x
  refine#[0,p,0,t.h_log U,.inl #[25,OA.of d],0,Oc,λr j=>?_]
  have e:=Oq.upd (o:= .tup [.str "close",.int age]) j
  have B:=t.same e;exists lg,4,e _ _ d,by rw[JI,v.1,JV];lia
  exact q _ (((m.mono (λc h z=>h (by rw[JN.mp z];exact J3 ..))).trans e.mv).trans (Mv.upd1.mono (λc h z=>h (by rw[JN.mp z];exact F0 _ (J3 ..))))) (OO.push (a:=#[p,ta,hk,bd,lg]) B (e _ _ d) (i.same e) ((OP.mv m (NT.one g trivial) (zr (HQ g b)) u).same e) (show RI _ r (.close age)from .inl qb))
def ln(a:O7 K C "log_now" "Door.log_now" bb ["self"])(T:ON K mg tk)(U:PB K C):Mf P w K mg base C "log_now" q9 1 (AK K C):=by
 refine a.mq lq λf _ A _ s H j Q E i h=>?_
 .let#[#[p,ta,hk,bd,lg],D,L,rfl,#[b,#[rs,d,g],e],q]:=h
  simp only at b d e
  exists _,(qh (qm (qI za T.b_tuple J8 (qc (qz (qv 0)) qa))))
  exact#[0,p,0,b.h_log U,lg,0,.inl #[OA.of d,λt c=>q t _ (Oq.upd c) #[rs,.inl qb,g.same (Oq.upd c)]]]
def rg(a:O7 K C "learn" "Door.learn" cK ["self","one","other"])(T:ON K mg tk)(U:PB K C)(xH:Mf P w K mg base C "read_right" V3 6 (oS K C))(xD:Mf P w K mg base C "is_full" q9 1 (mY K C)):Mf P w K mg base C "learn" Y2 7 (jk K C):=by
 refine a.mq OS λf _ A _ s H vs Q E F h=>?_
 .let#[#[p,ta,hk,bd,lg],D,L,I,p2,#[nm,age,c0],#[j,d,cj],c,d1,d2,rfl,#[b,#[rs,el,ro],kr],n1,ok,t,v,Y,M,r1,r2,en,ea,S,b3,q]:=h
  simp only at b el kr q en ea S
  subst en;subst ea
  exists _,(qg (qC (i:=3) OS.nd Z (SF Z) (zb xH U.cl F.mo (qv 0) (qc (qv 1) qa)))
   (qg (qA (qw a6 (qv 3) zi (qy _)) Qt qp)
   (qg (qC (i:=4) OS.nd Z (SF Z) (zb xH U.cl F.mo (qv 0) (qc (qv 2) qa)))
   (qg (qA (QW.pt (Zb (qw a6 (qv 4) zi (qy _)) (Zb (qw (HC F) (bB fF (qv 2) cF (cG qj)) (bB fF (qv 1) cF (cG qj)) (qy _)) (Q5 (qw bG (qE qT (qv 4) qj) (qF zo (qE qT (qv 3) qj) qj) (qy _)))))) Qt qp)
   (qg (Qx (qv 1) (cP Z (qM (qB (i:=5) OS.nd Z (SF Z)) (qM (qB (i:=6) OS.nd Z (SF Z)) (qM (qB (i:=7) OS.nd Z (SF Z)) Qs)))))
   (qg (qA (mS F (qv 5) (qz (qv 0))) Qt qp)
   (qg (qA (zw (qP xD U.cl F.mo (qv 0))) Qt qp)
   (qg (Za F (qz (qv 0)) (qv 5) (qD (qc (qv 6) (qc (qE qT (qv 4) qj) (qc zi qa)))))
   (qh (qJ (Qw Lk Lx Ly zy (qz (qv 0)) (qc (qD (qc qi (qc (qv 1) (qc (qv 2) qa)))) qa))))))))))))
  refine#[0,p,Z,b.no,0,p,ta,hk,bd,lg,L.length,D,-I,↑_,Z,b,ok,#[I,Z,t,Y],λy1 H1 N t1=>?_]
  have t1:ja H1 y1 (i9 D _):=t1
  rw[r1]at t1;let#[f1,rfl,a0]:=t1;refine#[3,qL (λy=>nomatch (J5 y)) (λ_=>?_)]
  have b1:=b.same N;refine#[0,p,Z,b1.no,0,p,ta,hk,bd,lg,L.length,D,-p2,↑_,Z,b1,ok,#[p2,Z,OY.same N v,M],λy2 H2 X t2=>?_]
  have t2:ja H2 y2 (i9 D _):=t2
  rw[r2]at t2;let#[f2,rfl,R]:=t2;have b2:=b1.same X;have W:=OY.same (N.trans X) t;have J:=OY.same (N.trans X) v;let#[c1,e1,_]:=id W;let#[c2,e2,_]:=id J;simp only at e1 e2
  exists 3
  refine qL (λy=>nomatch (J5 y)) (λ_=>?_)
  refine#[2,p2,0,e2,λt3 H3 s3 h3 _=>#[2,I,0,s3 _ _ e1,λt4 H4 s4 h4 _=>?_]]
  have b0:H4 t3=↑(.tup [.str j,.int d]):=s4 _ _ h3
  have a1:H4 t4=↑(.tup [.str j,.int d]):=h4
  have G:=(s3.trans s4);have SS:=(N.trans X).trans G;refine#[(1),⋯,SE.pair b0 a1,0,zu ?_]
  exists 0,f2,1,OC.of (G _ _ R),7,f1,1,OC.of (G _ _ (X _ _ a0)),49
  refine gK Z ?_
  have b4:=b2.same G;exists 0,I,0,.tup (G _ _ e1),13
  have g4:OR H4 bd (.str j) none:=by
   rcases b4.kb.get j with⟨_,g⟩|⟨e,x,e5,_⟩
   .exact g
   .rw[S]at e5;cases e5
  exists 2,p,0,b4.h_buttons U,bd,0,g4,0
  refine zu ?_
  exists 0,p,Z,b4.no,p,ta,hk,bd,lg,L.length,D,Z,b4,0
  refine qL (λy=>absurd (J5 y) (by lia)) (λ_=>?_)
  refine#[2,f2,1,OC.of (G _ _ R),Z,Od,λt5 a3=>?_]
  have u5:=Oq.upd (o:= .tup [.int d,.int (c+1),.non]) a3
  have O:=b4.same u5;let#[f0,hd,_]:=id O.kb;have n:=SS.trans u5;let#[H6,dp,u,a5]:=O.kb.put j (a:=t5) (e:=#[d,c+1,none]) (by have:=ok.nl;lia) #[.non,qb,Z]
  exists 0,p,0,O.h_buttons U,0,bd,H6,Z,dp
  have b6:=O.putK u a5;have B:=u _ _ (zr (zn (n _ _ el) hd (by intro z;cases z))) (n _ _ el)
  have l:NT [bd] _:=NT.one hd trivial
  have a4:=(ro.same n).mv u l;refine#[0,p,0,b6.h_log U,.inl #[25,OA.of B],2,Od,λr a2=>?_]
  have m:=Oq.upd (o:= .tup [.str "learn",-I,-p2]) a2
  have b7:=b6.same m;exists lg,4,m _ _ B,by rw[JI,ro.1,JV];lia
  exact q _ (((n.mv.trans (u.mono (λc h z=>h (by rw[JN.mp z];exact J3 ..)))).trans m.mv).trans (Mv.upd1.mono (λc h z=>h (by rw[JN.mp z];exact F0 _ (J3 ..))))) (OO.push (a:=#[p,ta,hk,bd,lg]) b7 (m _ _ B) (a4.same m) ((OP.mv u l (zr (wK hd O)) (OP.same n kr)).same m) #[I,p2,.inl qb,OY.same m (OY.mv u l (OY.same n t)),OY.same m (OY.mv u l (OY.same n v)),Y,M])
def jO(a:O7 K C "twin_door" "Door.twin_door" ac ["self"])(T:ON K mg tk)(U:PB K C)(yG:Mi P w K mg base C "Door" x5 1 (nT K C)):Mf P w K mg base C "twin_door" q9 3 (vG K C):=by
 refine a.mq PH λf _ A _ s H vs Q E hr h=>?_
 .let#[#[p,ta,hk,bd,lg],D,L,rfl,#[b,#[rs,el,ro],kr],k8,q]:=h
  simp only at b el kr q
  exists _,(qg (qC (i:=1) PH.nd Z (SF Z) (bw yG hr.mo (qc (qz (qv 0)) (qc (qz (qv 0)) (qc (qz (qv 0)) (qc (qz (qv 0)) (qc (qz (qv 0)) qa)))))))
   (qg (zt (qv 1) (qz (qv 0)))
   (qg (zt (qv 1) (qI wR T.b_dict PyProof.Rows.boot_dict (qc (qz (qv 0)) qa)))
   (qg (zt (qv 1) (qI QN T.b_list LA (qc (qz (qv 0)) qa)))
   (qh (qm (qv 1)))))))
  refine#[0,p,0,b.h_table U,0,p,0,b.h_house_keys U,0,p,0,b.h_near U,0,p,0,b.h_far U,0,p,0,b.h_most U,λx dx I b3 a2=>?_]
  have W:Oq H (Ot (Ot H dx (.own x)) x (.ins C dx [])):=(Oq.upd b3).trans (Oq.upd (by rw[qk a2.symm];exact I))
  refine#[x,ta,hk,dx,D.near,D.far,D.most,D.t,D.kss,Z,qb,.inr (Oq.sqt W b.tb),OP.same W kr,k8,λl d F t H1 h1 h2 h3 mv Y b0=>#[Z,?_]]
  have S1:Oq H H1:=λc o e=>mv c o (zr (qr e I)) (W c o e)
  let#[m,e1]:=id Y.ob;let#[as,B,_]:=id Y.ks;have u:d≠x:=zn B e1 (by intro z;cases z)
  let#[v,hd,a5,a4,nd]:=id b.kb;have b1:=b.same S1;exists 0,p,0,b1.h_least_age U,0,x,0,oB U e1 D.least
  have S2:=S1.put (o:= .ins C m (dF #[D.t,D.kss,D.near,D.far,D.most,D.least,[]] l d F t)) I
  have b2:=b.same S2;refine#[0,p,0,b2.h_buttons U,bd,0,S2 _ _ hd,λg r=>?_]
  have y:g≠x:=(qr qb r).symm
  have J:H g=none:=Q0 r S2
  have S3:=S2.put (o:= .dK (cM v.1 v.2)) J
  exists 0,x,0,uL U (by rw[qk y.symm];exact qb) g
  have X:=S3.put (o:= .ins C m (dF #[D.t,D.kss,D.near,D.far,D.most,D.least,[]] l d g t)) I
  have b4:=b.same X;refine#[0,p,0,b4.h_log U,lg,0,.inl (OA.of (X _ _ el)),λj n=>?_]
  have O:j≠x:=(qr qb n).symm
  have S:H j=none:=Q0 n X
  have S5:=X.put (o:= .lst (rs.map V.ref)) S
  exists 0,x,0,Fm U (by rw[qk O.symm];exact qb) j
  have S6:=S5.put (o:= .ins C m (dF #[D.t,D.kss,D.near,D.far,D.most,D.least,[]] l d g j)) I
  have R:_=↑(HO.dK (cM v.1 v.2)):=(qk (o:= .ins C m (dF #[D.t,D.kss,D.near,D.far,D.most,D.least,[]] l d g t)) y).trans (qb (H:=Ot H1 x (.ins C m (dF #[D.t,D.kss,D.near,D.far,D.most,D.least,[]] l d F t))) (a:=g) (o:= .dK (cM v.1 v.2)))
  have a3:j≠g:=(qr R n).symm
  have a0:d≠g:=qr (by rw[qk u];exact B) r
  have a1:d≠j:=qr (by rw[qk u,qk a0,qk u];exact B) n
  have M:Mv [x] H1 _:=(((Mv.upd1 (a:=x) (H:=H1) (o:= .ins C m (dF #[D.t,D.kss,D.near,D.far,D.most,D.least,[]] l d F t))).trans (Oq.upd (o:= .dK (cM v.1 v.2)) r).mv).trans (Mv.upd1 (o:= .ins C m (dF #[D.t,D.kss,D.near,D.far,D.most,D.least,[]] l d g t)))).trans (Oq.upd (o:= .lst (rs.map V.ref)) n).mv
  have M6:=M.trans (Mv.upd1 (o:= .ins C m (dF #[D.t,D.kss,D.near,D.far,D.most,D.least,[]] l d g j)))
  have nt:NT [x] H1:=NT.one e1 trivial
  have N:∀(G:Hp) (o:HO),Ot (Ot G j (.lst (rs.map V.ref))) x o j=↑(HO.lst (rs.map V.ref)):=λG o=>by rw[qk O];exact qb
  refine#[0,q #[x,l,d,g,j] _ S6 I (Q0 h1 W) J S #[#[#[m,qb],M6.sqt nt Y.tb,Y.ks.mv M6 nt (zr u),#[v,?_,λe he=>(a5 e he).same S6,a4,nd],#[rs,N _ _,Nw ro.1],a1.symm],#[rs,N _ _,ro.same S6],OP.mv M6 nt (zr u) b0]]
  rw[qk y,qk a3.symm];exact R
def lS(a:O7 K C "__init__" "Door.__init__" Ze ["self","table","keys","near","far","most"])(T:ON K mg tk)(U:PB K C):Mf P w K mg base C "__init__" x5 1 (sF K C):=(ei a T U).weak (by
 rintro j H Q E ⟨p,a,b,dx,n,f,m,t,c,e,h1,g,⟨h,i,l,r⟩,d,q⟩
 exact#[p,a,b,dx,n,f,m,t,c,e,h1,g,#[h,.inr i.up,l,r],d,q])
def kz(a:O7 K C "keys_now" "Door.keys_now" aM ["self"])(T:ON K mg tk)(U:PB K C):Mf P w K mg base C "keys_now" q9 1 (vB K C):=by
 refine a.mq kR λf _ A _ s H v Q E u h=>?_
 .let#[p,ta,hk,bd,lg,n,D,rfl,b,q]:=h
  exists _,(qh (qm (qI Zg T.b_tuple J8 (qc (qz (qv 0)) qa))))
  let#[l,j,e,c]:=id b.ks;refine#[0,p,0,b.h_house_keys U,hk,0,.inl (OA.of j),λt r d g=>?_]
  exact q t l r d g e λi a ks m o=>Oq.sqt d (c i a ks m o)
def iL(a:O7 K C "closed_now" "Door.closed_now" ZW ["self"])(T:ON K mg tk)(U:PB K C):Mf P w K mg base C "closed_now" q9 1 (pU K C):=by
 refine a.mq iD λf _ A _ s H d Q E c h=>?_
 .let#[p,ta,hk,bd,lg,n,D,rfl,b,q]:=h
  exists _,(qh (qm (qz (qv 0))))
  exact#[0,p,0,b.h_least_age U,q]
def ij(a:O7 K C "bounds_told" "Door.bounds_told" Zq ["self"])(T:ON K mg tk)(U:PB K C):Mf P w K mg base C "bounds_told" q9 1 (p7 K C):=by
 refine a.mq ik λf _ A _ s H e Q E d h=>?_
 .let#[p,ta,hk,bd,lg,n,D,rfl,b,q]:=h
  exists _,(qh (qm (qD (qc (qz (qv 0)) (qc (qz (qv 0)) (qc (qz (qv 0)) qa))))))
  exact#[0,p,0,b.h_near U,0,p,0,b.h_far U,0,p,0,b.h_most U,Od,λt c=>q t _ (Oq.upd c) qb]
def kQ(a:O7 K C "turn_key" "Door.turn_key" aV ["self","key"])(T:ON K mg tk)(U:PB K C):Mf P w K mg base C "turn_key" W0 1 (kA K C):=by
 refine a.mq PU λf _ A _ s H vs Q E hr h=>?_
 .let#[#[p,ta,hk,bd,lg],D,L,kt,ks,rfl,#[b,#[rs,el,Y],kr],n1,k7,R,J,q]:=h
  simp only at b el kr q
  exists _,(qg (qA (qw eD (qq qN T.b_len Ld (qc (qz (qv 0)) qa)) (zh (v:= .int 8) Z T.g_AGES #[0]) (qy _)) Qt qp)
   (qg (qC (i:=2) PU.nd Z (SF Z) (qI Zf T.b_tuple J8 (qc (qv 1) qa)))
   (qg (qJ (Qw Lk Lx Ly zy (qz (qv 0)) (qc (qv 2) qa)))
   (qh (qJ (Qw Lk Lx Ly zy (qz (qv 0)) (qc (qD (qc qi (qc (qv 2) qa))) qa)))))))
  let#[N,d,u,l]:=id b.ks;exists 0,p,0,b.h_house_keys U,hk,0,.inl (OA.of d),12
  rw[JI,u];have q:=q _ _ (JK k7);refine zz (JT (by lia)) ?_
  refine#[0,kt,ks,Z,R,λt H2 n W=>?_]
  have X:=b.same n;let#[N,d,u,l]:=id X.ks;have y:lg≠hk:=b.ne
  exists 0,p,0,X.h_house_keys U,.inl #[25,OA.of d],0,hk,4,d,by rw[JI,u,JV];lia
  have b3:=X.putH Mv.upd1 (ml d u l (.inl W));let#[B,j,x,m]:=OP.same n kr
  obtain rfl:N=B:=by rw[d]at j;injection j with z;injection z with z;exact(List.map_inj_right (λ_ _ h=>by injection h)).mp z
  have I:=ml j x m (.inl W);have F:Mv [hk] H2 (Ot H2 hk (.lst (N.map V.ref++[-t]))):=Mv.upd1
  have g:=F _ _ (zr y) (n _ _ el);have M:=(Y.same n).mv F (NT.one d trivial);have O:=F.rd (NT.one d trivial) W;refine#[0,p,0,b3.h_log U,.inl #[25,OA.of g],0,Oc,λr G=>?_]
  have e:=Oq.upd (o:= .tup [.str "turn",-t]) G
  have b7:=b3.same e;exists lg,4,e _ _ g,by rw[JI,Y.1,JV];lia
  exact q _ (((n.mv.trans (Mv.upd1.mono (λc h z=>h (by rw[JN.mp z];exact J3 ..)))).trans e.mv).trans (Mv.upd1.mono (λc h z=>h (by rw[JN.mp z];exact F0 _ (J3 ..))))) (OO.push (a:=#[p,ta,hk,bd,lg]) b7 (e _ _ g) (M.same e) (I.same e) #[t,.inl qb,e.mv.rd (S:=[]) iu O,J])
def kX(a:O7 K C "__init__" "Button.__init__" aQ ["self","name","table","key","age","step"])(T:ON K mg tk)(U:Rc K C):Mf P w K mg base C "__init__" X5 1 (mV K C):=by
 refine a.mq kT λf _ A _ s H R Q E O h=>?_
 .let#[p,a,b,dx,nm,age,step,t,ks,rfl,l,I,G,q]:=h
  exists _,(qg (zt (qv 0) (qv 1))
   (qg (zt (qv 0) (qI Zg T.b_tuple J8 (qc (qv 2) qa)))
   (qg (zt (qv 0) (qI Zg T.b_tuple J8 (qc (qv 3) qa)))
   (qg (zt (qv 0) (qv 4))
   (qg (zt (qv 0) (qv 5))
   (qg (zt (qv 0) qj)
   (qg (zt (qv 0) qj)
   (qh (zt (qv 0) (ze (qc qj (qc zi qa))))))))))))
  exists 2,p,0,aD U.cl l U.n_name 0
  refine#[0,a,0,rT l I,λta M i N=>#[0,p,0,aD U.cl (i _ _ qb) U.n_table 1,?_]]
  have x:=i _ _ qb;refine#[0,b,0,rT x ((rT l G).same i),λka H3 g hk=>#[0,p,0,aD U.cl (g _ _ qb) U.n_key 2,?_]]
  have u:=g _ _ qb;have m:=Qe (o:= .ins C dx [("name",.str nm),("table",-ta),("key",-ka)]) u (Oq.sqt g (Qe x N))
  have j:=Qe (o:= .ins C dx [("name",.str nm),("table",-ta),("key",-ka)]) u hk
  exists 2,p,0,aD U.cl qb U.n_age 3
  exists 2,p,0,aD U.cl qb U.n_step 4
  exists 0,p,0,aD U.cl qb U.n_next_count 5
  exists 0,p,0,aD U.cl qb U.n_bound 6
  refine#[Oc,λce c=>#[0,p,0,aD U.cl (by rw[qk (qr qb c)];exact qb) U.n_cells 7,?_]]
  have d:=qr qb c;have L:Mv [p] H M:=Mv.upd1.trans i.mv
  have J:Mv [p] H H3:=(L.trans Mv.upd1).trans g.mv
  have v:∀B y r F D,Mv [p] H (Ot (Ot (Ot (Ot (Ot H3 p B) p y) p r) p F) p D):=λB y r F D=>((((J.trans Mv.upd1).trans Mv.upd1).trans Mv.upd1).trans Mv.upd1).trans Mv.upd1
  have n:H ce=none:=by
   cases e:H ce with
   |none=>rfl
   |some o=>exact absurd (c.symm.trans (v _ _ _ _ _ ce o (λz=>d (JN.mp z).symm) e)) (by intro h;cases h)
  refine q ta ka ce _ n (((v _ _ _ _ _).trans (Oq.upd c).mv).trans Mv.upd1) #[#[dx,qb],?_,?_,?_]
  .exact Qe (by rw[qk d];exact qb) (Oq.sqt (Oq.upd c) (Qe qb (Qe qb (Qe qb (Qe qb m)))))
  .exact Qe (by rw[qk d];exact qb) (Oq.sqt (Oq.upd c) (Qe qb (Qe qb (Qe qb (Qe qb j)))))
  .rw[qk d.symm];exact qb
def jJ(a:O7 K C "is_worn" "Button.is_worn" au ["self"])(T:ON K mg tk)(U:Rc K C):Mf P w K mg base C "is_worn" q9 1 (nL K C):=by
 refine a.mq jV λf _ A _ s H d Q E c h=>?_
 .let#[p,ta,ka,ce,B,rfl,b,q]:=h
  exists _,(qh (qm (Qh eD (qz (qv 0)) (zh (v:= .int 4096) Z T.g_COUNTS #[0]) (qy _))))
  exact#[0,p,0,b.h_next_count U,4,q]
def gE(a:O7 K C "must_write" "Button.must_write" Zk ["self"])(T:ON K mg tk)(U:Rc K C)(g:Mf P w K mg base C "is_worn" q9 1 (nL K C)):Mf P w K mg base C "must_write" q9 2 (vQ K C):=by
 refine a.mq gj λf _ A _ s H i Q E d h=>?_
 .let#[p,ta,ka,ce,B,rfl,b,q]:=h
  exists _,(qh (qm (Qp (Qh qQ (qz (qv 0)) (qz (qv 0)) (qy _)) (QP (iy (qP g U.cl d.mo (qv 0)))))))
  exists 0,p,0,b.h_next_count U,0,p,0,b.h_bound U,7
  unfold Bt.mw at q;refine qL (λz=>?_) (λz=>?_)
  .exists 0,p,Z,b.no,p,ta,ka,ce,B,Z,b,0
   have c:B.cnt=B.bnd:=by have:=J5 z;injection this
   rw[JM c]at q;exact q
  .have c:¬B.cnt=B.bnd:=λe=>z (JM (by rw[e]))
   rw[JT c]at q;exact q
def gg(a:O7 K C "spare_cell" "Button.spare_cell" Zj ["self"])(T:ON K mg tk)(U:Rc K C):Mf P w K mg base C "spare_cell" q9 1 (uq K C):=by
 refine a.mq gm λf _ A _ s H d Q E c h=>?_
 .let#[p,ta,ka,ce,B,rfl,b,q]:=h
  exists _,(qg (qA (qw qQ (qE qS (qz (qv 0)) qj) (qz (qv 0)) (qy _)) (qh (qm qj)) qp)
   (qh (qm qj)))
  exists 0,p,0,b.h_cells U,ce,1,OA.of b.cs,7,p,0,b.h_bound U,E4 _ _,0
  rw[Hh];unfold Bt.sp at q;refine qL (λz=>?_) (λz=>?_)
  .rw[JK (J5 z)]at q;exact q
  .rw[JJ (λe=>z (JM e))]at q;exact q
def fQ(a:O7 K C "write_bound" "Button.write_bound" Zc ["self"])(T:ON K mg tk)(U:Rc K C)(m:Mf P w K mg base C "spare_cell" q9 1 (uq K C)):Mf P w K mg base C "write_bound" q9 2 (tN K C):=by
 refine a.mq O9 λf _ A _ s H r Q E l h=>?_
 .let#[p,ta,ka,ce,B,rfl,b,q]:=h
  let#[dx,n]:=b.ob;exists _,(qg (qC (i:=1) O9.nd Z (SF Z) (qP m U.cl l.mo (qv 0)))
   (qg (zt (qv 0) (qq (pZ Z) T.b_min PyProof.Rows.boot_min (qc (qF zo (qz (qv 0)) (qz (qv 0))) (qc (zh (v:= .int 4096) Z T.g_COUNTS #[0]) qa))))
   (qh (Qx (qz (qv 0)) (cT (qz (qv 0)) (qv 1) Zt)))))
  exists 0,p,Z,b.no,p,ta,ka,ce,B,Z,b
  exists 0,p,0,b.h_bound U,0,p,0,b.h_step U,45,p,0,Oy.put U n 6 _ Z U.n_bound
  have d:Oy K C (Ot H p (.ins C dx (bF {B with bnd:=B.nb} ta ka ce))) p ta ka ce {B with bnd:=B.nb}:=b.to (B':={B with bnd:=B.nb}) (Mv.upd1.mono (λc h z=>h (by rw[JN.mp z];exact J3 ..))) Z Z qb (by rw[qk b.ne.symm];exact b.cs)
  exists 0,p,0,d.h_bound U,0,p,0,d.h_cells U,0
  unfold Bt.sp Bt.wr at *
  have mv:∀o o',Mv [p,ce] H (Ot (Ot H p o) ce o'):=λo o' c u j e=>by
   rw[qk (λz=>j (by rw[z];exact F0 _ (J3 ..))),qk (λz=>j (by rw[z];exact J3 ..))];exact e
  by_cases g:B.x=↑B.bnd
  .rw[JK g]
   rw[JK g]at q;exists ce,8,(1),9,d.cs,Z
   exact q _ (mv _ _) (b.to (B':={B with bnd:=B.nb,y:=↑B.nb}) (mv _ _) Z Z (by rw[qk b.ne];exact qb) qb)
  .rw[JJ g]
   rw[JJ g]at q;exists ce,8,(0),9,d.cs,Z
   exact q _ (mv _ _) (b.to (B':={B with bnd:=B.nb,x:=↑B.nb}) (mv _ _) Z Z (by rw[qk b.ne];exact qb) qb)
def fK(a:O7 K C "press_once" "Button.press_once" Zi ["self","deed"])(T:ON K mg tk)(U:Rc K C)(XC:Rp K mg x fI)(xB:Mf P w K mg base C "is_worn" q9 1 (nL K C))(xR:Mf P w K mg base C "must_write" q9 2 (vQ K C))
  (xK:Mf P w K mg base C "write_bound" q9 2 (tN K C))(zJ:Df P w K mg base "press_of" W7 3 (v5 K)):My P w K mg base C "press_once" Y7 4 (jg K C x):=by
 refine a.my Ph λf _ A _ s H vs Q E M h=>?_
 .let#[p,ta,ka,ce,B,d,rfl,b,X,hl,Y,hd,tw,q]:=h
  exists _,(qg (qA (zw (qP xB U.cl M.mo (qv 0))) (qh (Qu Qd Z Z LG Z XC.g_Worn XC.e_Worn (qc qi qa) Z)) qp)
   (qg (qA (zw (qP xR U.cl M.mo (qv 0))) (qh (qJ (qP xK U.cl M.mo (qv 0)))) qp)
   (qg (qC (i:=2) Ph.nd Z (SF Z) (qu zJ M.mo (qc (qz (qv 0)) (qc (qz (qv 0)) (qc (qz (qv 0)) (qc (qz (qv 0)) (qc (qz (qv 0)) (qc (qv 1) qa))))))))
   (qg (oF AI (qv 0) qj)
   (qh (qm (qv 2)))))))
  exists 0,p,Z,b.no,p,ta,ka,ce,B,Z,b,0
  refine qL (λz=>#[Ob,λa ha=>(tw (J5 z)).mk (Oq.refl _) ha]) (λz=>?_)
  have R:B.cnt<4096:=by have:¬4096<=B.cnt:=λy=>z (JM y);lia
  have q:=q R;clear z;exists 0,p,Z,b.no,p,ta,ka,ce,B,Z,b,0
  refine qL (λz=>?_) (λz=>?_)
  .refine#[0,p,Z,b.no,p,ta,ka,ce,B,Z,b,λH1 W j=>?_]
   have v:({B.wr with cnt:=B.wr.cnt+1}:Bt)=B.pr:=by unfold Bt.pr;rw[JK z,yy]
   have o:=Er B;have D:=GV B;have O:=DR B;have N:=BC B;have n:=yy B;generalize B.wr=g at j v o D O N n
   refine#[0,p,0,j.h_table U,0,p,0,j.h_key U,0,p,0,j.h_name U,0,p,0,j.h_age U,0,p,0,j.h_next_count U,0,ta,ka,g.nm,g.age,g.cnt,d,g.t,g.ks,Z,.inr j.tb,.inr j.ky,by rw[o];exact X,by rw[D];exact hl,by rw[n];exact Y,by rw[n];exact R,hd,λJ L u G h1 I=>?_]
   have m:=j.same G;let#[dx,t]:=m.ob;exists 0,p,0,m.h_next_count U,4,(λ_ e=>e),_,Oy.put U t 5 _ Z U.n_next_count
   have n1:J≠p:=zn h1 t (by intro z;cases z)
   have n2:L≠p:=zn I t (by intro z;cases z)
   have F:Mv [p,ce] u (Ot u p (.ins C dx (bF {g with cnt:=g.cnt+1} ta ka ce))):=Mv.upd1.mono (λc h z=>h (by rw[JN.mp z];exact J3 ..))
   have S:Oy K C (Ot u p (.ins C dx (bF {g with cnt:=g.cnt+1} ta ka ce))) p ta ka ce B.pr:=by
    have l:=m.to (B':={g with cnt:=g.cnt+1}) F Z Z qb (by rw[qk m.ne.symm];exact m.cs)
    rw[v]at l⊢;exact l
   refine#[0,q J L _ ((W.trans G.mv).trans F) S ?_ ?_]
   .rw[qk n1,h1,o,N]
   .rw[qk n2,I,o,D,O,n]
  .have j:=b
   have W:Mv [p,ce] H H:=Mv.refl
   have v:({B with cnt:=B.cnt+1}:Bt)=B.pr:=by unfold Bt.pr;rw[JJ z]
   let#[g,r]:∃g,g=B:=#[B,Z]
   have o:g.nm=B.nm:=by rw[r]
   have D:g.t=B.t:=by rw[r]
   have O:g.ks=B.ks:=by rw[r]
   have N:g.age=B.age:=by rw[r]
   have n:g.cnt=B.cnt:=by rw[r]
   have v:({g with cnt:=g.cnt+1}:Bt)=B.pr:=by rw[r];exact v
   have j:Oy K C H p ta ka ce g:=by rw[r];exact b
   refine#[0,p,0,j.h_table U,0,p,0,j.h_key U,0,p,0,j.h_name U,0,p,0,j.h_age U,0,p,0,j.h_next_count U,0,ta,ka,g.nm,g.age,g.cnt,d,g.t,g.ks,Z,.inr j.tb,.inr j.ky,by rw[o];exact X,by rw[D];exact hl,by rw[n];exact Y,by rw[n];exact R,hd,λJ L u G h1 I=>?_]
   have m:=j.same G;let#[dx,t]:=m.ob;exists 0,p,0,m.h_next_count U,4,(λ_ e=>e),_,Oy.put U t 5 _ Z U.n_next_count
   have n1:J≠p:=zn h1 t (by intro z;cases z)
   have n2:L≠p:=zn I t (by intro z;cases z)
   have F:Mv [p,ce] u (Ot u p (.ins C dx (bF {g with cnt:=g.cnt+1} ta ka ce))):=Mv.upd1.mono (λc h z=>h (by rw[JN.mp z];exact J3 ..))
   have S:Oy K C (Ot u p (.ins C dx (bF {g with cnt:=g.cnt+1} ta ka ce))) p ta ka ce B.pr:=by
    have l:=m.to (B':={g with cnt:=g.cnt+1}) F Z Z qb (by rw[qk m.ne.symm];exact m.cs)
    rw[v]at l⊢;exact l
   refine#[0,q J L _ ((W.trans G.mv).trans F) S ?_ ?_]
   .rw[qk n1,h1,o,N]
   .rw[qk n2,I,o,D,O,n]
def ii(a:O7 K C "count_now" "Button.count_now" Zw ["self"])(T:ON K mg tk)(U:Rc K C):Mf P w K mg base C "count_now" q9 1 (Z8 K C):=by
 refine a.mq hU λf _ A _ s H d Q E c h=>?_
 .let#[p,ta,ka,ce,B,rfl,b,q]:=h
  exists _,(qh (qm (qz (qv 0))))
  exact#[0,p,0,b.h_next_count U,q]
def ig(a:O7 K C "cells_now" "Button.cells_now" ZA ["self"])(T:ON K mg tk)(U:Rc K C):Mf P w K mg base C "cells_now" q9 1 (kU K C):=by
 refine a.mq ib λf _ A _ s H e Q E d h=>?_
 .let#[p,ta,ka,ce,B,rfl,b,q]:=h
  exists _,(qh (qm (qI za T.b_tuple J8 (qc (qz (qv 0)) qa))))
  exact#[0,p,0,b.h_cells U,ce,0,.inl #[OA.of b.cs,λl c=>q l _ (Oq.upd c) qb]]
def iq(a:O7 K C "name_told" "Button.name_told" ZC ["self"])(T:ON K mg tk)(U:Rc K C):Mf P w K mg base C "name_told" q9 1 (vm K C):=by
 refine a.mq ie λf _ A _ s H d Q E c h=>?_
 .let#[p,ta,ka,ce,B,rfl,b,q]:=h
  exists _,(qh (qm (qz (qv 0))))
  exact#[0,p,0,b.h_name U,q]
def jW(a:O7 K C "age_now" "Button.age_now" aj ["self"])(T:ON K mg tk)(U:Rc K C):Mf P w K mg base C "age_now" q9 1 (cY K C):=by
 refine a.mq jX λf _ A _ s H d Q E c h=>?_
 .let#[p,ta,ka,ce,B,rfl,b,q]:=h
  exists _,(qh (qm (qz (qv 0))))
  exact#[0,p,0,b.h_age U,q]
def jq(a:O7 K C "cell_out" "Button.cell_out" ZU ["self"])(T:ON K mg tk)(U:Rc K C):Mf P w K mg base C "cell_out" q9 1 (rN K C):=by
 refine a.mq PD λf _ A _ s H I Q E F h=>?_
 .let#[p,ta,ka,ce,B,rfl,b,ok,q]:=h
  exists _,(qg (qC (i:=1) PD.nd Z (SF Z) (qq (ya Z) T.b_max NO (qc (BJ (own:=["cell"]) (fr:=[]) (js:=[]) Z (ba (qz (qv 0))) Z (λ_ _ h=>nomatch h) Z (gQ Z nofun nofun nofun) (λ_ _ _ _=>qB (i:=0) (show SQ (["cell"]:Α)from by decide +kernel) Z (SF Z) (.inr Z)) (λ_ _ _ _=>(qw vX (qv 0) zi (qy _))) (λ_ _ _ _=>(qv 0))) qa)))
   (qg (zt (qv 0) (qv 1))
   (qh (zt (qv 0) (qv 1)))))
  refine#[0,p,0,b.h_cells U,ce,Z,#[_,OA.of b.cs],xp (K:=K) (xs:=[oV B.x,oV B.y]) (Oc) (λi ys d=>d=H/\ys=([oV B.x,oV B.y].take i).filter ft) #[9] (λi ys d ⟨e,_⟩=>by subst e;exact OA.of b.cs) ?_ ?_]
  .rintro i ys d v D ⟨rfl,rfl⟩
   exists 3
   rw[Az D]
   by_cases e:ft v=true
   .exact Qb e #[17,by rw[JK e]]
   .exact zz (Nm.mpr e) #[Z,by rw[JJ e]]
  .rintro ys d ⟨rfl,rfl⟩ pm l
   let#[k1,k2,k3]:=ok.ok;refine#[pm,p9 B.x B.y,Z,?_,k2,λM m n=>?_]
   .show Ot d pm (.lst ([oV B.x,oV B.y].filter ft)) pm=_
    rw[qb,wQ]
   .have y:M=B.bnd:=by have h1:=n _ k1;have G:=k3 _ m;lia
    subst y;have r:Oq d _:=Oq.upd (o:= .lst ([oV B.x,oV B.y].filter ft)) l
    have g:=b.same r;let#[dx,x]:=g.ob;exists 2,p,0,Oy.put U x 5 _ Z U.n_next_count
    have j:∀(H:Hp) (o:HO),Mv [p,ce] H (Ot H p o):=λH o=>Mv.upd1.mono (λc h z=>h (by rw[JN.mp z];exact J3 ..))
    have t:=g.to (B':={B with cnt:=B.bnd}) (j _ (.ins C dx (bF {B with cnt:=B.bnd} ta ka ce))) Z Z qb (by rw[qk g.ne.symm];exact g.cs)
    exists 2,p,0,Oy.put (B:={B with cnt:=B.bnd}) (ta:=ta) (ka:=ka) (ce:=ce) (dx:=dx) U qb 6 (.int B.bnd) Z U.n_bound
    have u:=t.to (B':={B with cnt:=B.bnd}) (j _ (.ins C dx (bF {B with cnt:=B.bnd} ta ka ce))) Z Z qb (by rw[qk g.ne.symm];exact t.cs)
    exact q _ ((r.mv.trans (j _ _)).trans (j _ _)) u
def iV(a:O7 K C "turn_key" "Button.turn_key" ZY ["self","key"])(T:ON K mg tk)(U:Rc K C):Mf P w K mg base C "turn_key" W0 1 (nh K C):=by
 refine a.mq iP λf _ A _ s H y Q E u h=>?_
 .let#[p,ta,ka,ce,t,B,ks,rfl,b,j,x,q]:=h
  exists _,(qg (qA (qw eD (qz (qv 0)) (qF Q4 (zh (v:= .int 8) Z T.g_AGES #[0]) qj) (qy _)) Qt qp)
   (qg (zt (qv 0) (qI Zg T.b_tuple J8 (qc (qv 1) qa)))
   (qh (oF AI (qv 0) qj))))
  exists 0,p,0,b.h_age U,30
  refine zz (JT (by show¬(8:Int)-1<=B.age;lia)) ?_
  refine#[0,t,0,j,λc H1 o n=>?_]
  have g:=b.same o;let#[dx,r]:=g.ob;exists 0,p,0,Oy.put U r 2 _ Z U.n_key
  have l:Mv [p] H1 (Ot H1 p (.ins C dx (bF {B with ks:=ks} ta c ce))):=Mv.upd1
  have nt:NT [p] H1:=NT.one r trivial
  have i:Oy K C (Ot H1 p (.ins C dx (bF {B with ks:=ks} ta c ce))) p ta c ce {B with ks:=ks}:=#[#[dx,qb],l.sqt nt g.tb,l.sqt nt n,by rw[qk g.ne.symm];exact g.cs]
  exists 0,p,0,i.h_age U,4,(λ_ e=>e),_,Oy.put (B:={B with ks:=ks}) U qb 3 _ Z U.n_age
  have d:NT [p] (Ot H1 p (.ins C dx (bF {B with ks:=ks} ta c ce))):=NT.one qb trivial
  have m:Mv [p] (Ot H1 p (.ins C dx (bF {B with ks:=ks} ta c ce))) (Ot (Ot H1 p (.ins C dx (bF {B with ks:=ks} ta c ce))) p (.ins C dx (bF {B with ks:=ks,age:=B.age+1} ta c ce))):=Mv.upd1
  exact q c _ ((o.mv.trans l).trans m) #[#[dx,qb],m.sqt d i.tb,m.sqt d i.ky,by rw[qk g.ne.symm];exact i.cs]
end
def sE(K:ι):Sp:=λc H Q _=>∃(a:Δ) (d:Ε) (k:Nat),c=[-a,.int k]/\OA K H a (d.map V.int)/\k<=1000/\∀b H',H b=none->Oq H H'->PM H' b 0->Q (-b) H'
def lr:Sp:=λa H Q _=>∃(b:Δ) (c:Nat),a=[-b]/\PM H b c/\c<100000000/\∀p (ks:Ε) H',Rj b (c+10) H H'->H p=none->H' p=↑(.tup (ks.map V.int))->Qn ks->1<=ks.length->ks.length<=8->Q (-p) H'
section
variable{K:ι}{tk:Nat->Tok}
def uN(a:At K mg "_law_take" gu ["_law_box_here","_law_many"])(T:ON K mg tk):Df P w K mg base "_law_take" u7 1 az:=by
 refine a.dq Ra λf _ A _ s H z Q E v h=>?_
 .let#[b,p,c,rfl,#[n,m,k,g,u,r,k0,k1],l,j,h1,q]:=h
  exists _,(qg (qA (qw lZ (qE qS (qv 0) qj) qj (qy _)) (qg (qC (i:=2) Ra.nd Z (SF Z) (qF QC (qE qS (qv 0) qj) (qv 1)))
   (qg (Qx (qF cI (qE qS (qv 0) qj) (qv 1)) (cT (qv 0) qj Zt))
   (qh (qm (qv 2))))) qp)
   (qg (Qx (qF zo (qE qS (qv 0) qj) qj) (cT (qv 0) qj Zt))
   (qg (qC (i:=3) Ra.nd Z (SF Z) (qF QC (qF zo (qF zo (qF Z1 (qE qS (qv 0) qj) qj) (qF Z1 (qE qS (qv 0) qj) qj)) qj) qj))
   (qg (Qx (qF zo (qF QC (qF Z1 (qv 3) (qv 3)) qj) (qE qS (qv 0) qj)) (cT (qv 0) qj Zt))
   (qh (qm (qF QC (qF cI (qE qS (qv 0) qj) qj) (qv 1))))))))
  exists 0,b,1,OA.of g,31
  refine qL (λ_=>?_) (λ_=>?_)
  .exists 0,b,1,OA.of g,35,j
   exists 0,b,1,OA.of g,35,#[j,h1],0,b,8,(0),9,g,Z
   exists 0
   refine q _ _ (Mn _ (by lia)) (Mb _ j) #[λc o l e=>?_,21,qb,u,r,k0,by lia]
   rw[qk l];exact e
  .exists 0,b,1,OA.of g,31,b,8,(2),9,g,Z
   have d:(Ot H b (Dl n m (k+1))) b=↑(Dl n m (k+1)):=qb
   exists 0,b,1,OA.of d,33,.inr #[⋯,⋯],0,b,1,OA.of d,33,.inr #[⋯,⋯],37,(by decide:(0:Int)<2305843009213693921)
   have x:=Mn (m*48271+(k+1)*39373+11) (by decide:(2305843009213693921:Int)≠0)
   have y:=Mb (m*48271+(k+1)*39373+11) (by decide:(0:Int)<2305843009213693921)
   exists 14,.inl #[RS ⋯ (Mn _ ⋯),Int.lt_trans (Mb _ ⋯) ⋯],4,(by decide:(0:Int)<2305843009213693907),0,b,1,OA.of d,31,b,8,(1),9,d,Z
   have t:=Mn ((m*48271+(k+1)*39373+11)%2305843009213693921*((m*48271+(k+1)*39373+11)%2305843009213693921)) (by decide:(2305843009213693907:Int)≠0)
   have i1:=Mb ((m*48271+(k+1)*39373+11)%2305843009213693921*((m*48271+(k+1)*39373+11)%2305843009213693921)) (by decide:(0:Int)<2305843009213693907)
   exists 0,b,1,OA.of qb,33,#[⋯,⋯],15,j
   refine q _ _ (Mn _ (by lia)) (Mb _ j) #[λc o l e=>?_,21,qb,Int.add_nonneg t (by lia),RS (Int.add_lt_add_right i1 _) (by lia),by lia,by lia]
   rw[qk l,qk l];exact e
def v9(a:At K mg "_law_box" jc ["_law_script","_law_k"])(T:ON K mg tk):Df P w K mg base "_law_box" V7 1 (sE K):=by
 refine a.dq Pd λf _ A _ s H vs Q E hr h=>?_
 .let#[b,j,k,rfl,W,X,q]:=h
  exists _,(qg (qC (i:=2) Pd.nd Z (SF Z) (qI QN T.b_list LA (qc (bB E7 (qv 0) cF (cG qj)) qa)))
   (qg (qC (i:=3) Pd.nd Z (SF Z) (qE qS (qF lJ (qv 2) (qF ue (ze (qc qj qa)) (qF zo (qv 1) qj))) (qv 1)))
   (qg (qC (i:=4) Pd.nd Z (SF Z) qj)
   (qg (Qc Ln Z (ba (qv 2)) (qB (i:=5) Pd.nd Z (SF Z))
   (qh (qC (i:=4) Pd.nd Z (SF Z) (qF QC (qF zo (qF Z1 (qv 4) qj) (qv 5)) qj))))
   (qh (qm (ze (qc (qF Z1 (qq ur T.b_abs PyProof.Rows.boot_abs (qc (qv 3) qa)) (qI oR T.b_int MV (qc (Qh eD (qq ur T.b_abs PyProof.Rows.boot_abs (qc (qv 3) qa)) (qF F7 qj qj) (qy _)) qa))) (qc (qF QC (qF zo (qF zo (qv 3) (qF Z1 qj (qv 4))) (qF Z1 qj (qv 1))) qj) (qc qj qa))))))))))
  refine#[2,b,0,W,λl hl=>?_]
  rw[CA];have Y:(nX j none ↑63).length<=63:=by
   rw[Cd]
   have:HT.sIx j.length j.length ↑63<=63:=by unfold HT.sIx;simp only;split<;>lia
   exact Lc (Nat.min_le_left _ _) (Lc (KA _ _) this)
  generalize nX j none ↑63=c at Y⊢
  have u1:=Oq.upd (o:= .lst (c.map V.int)) hl
  refine#[l,0,.inl (OA.of qb),λg n=>?_]
  have G:=u1.trans (Oq.upd (o:= .lst (c.map V.int)) n)
  have u:(Ot (Ot H l (.lst (c.map V.int))) g (.lst (c.map V.int))) g=↑(.lst (c.map V.int)):=qb
  generalize Ot (Ot H l (.lst (c.map V.int))) g (.lst (c.map V.int))=H2 at G u⊢
  refine#[0,Ob,λJ C=>?_]
  have r:=Oq.upd (o:= .lst [.int 0]) C
  refine#[15,J,4,qb,by lia,by lia,by show 1*_<=_;rw[JV];lia,λM t=>?_]
  have O:(CC ((k:Int)+1).toNat [V.int 0]).flatten=(CC (k+1) (0:Int)).map V.int:=by
   rw[show((k:Int)+1).toNat=k+1 by lia]
   simp [List.flatten_replicate_singleton]
  rw[O];have D:=Oq.upd (o:= .lst ((CC (k+1) (0:Int)).map V.int)) t
  refine#[g,M,4,D _ _ (r _ _ u),qb,by rw[JI,JI,Nx,JV];lia,λF v=>?_]
  rw[<- La];have B:k<(c++CC (k+1) (0:Int)).length:=by rw[J0,Nx];lia
  exists 0,F,8,.int (c++CC (k+1) (0:Int))[k],9,OA.of qb,Qf (by rw[JW,JQ B];rfl)
  have I:=Oq.upd (o:= .lst ((c++CC (k+1) (0:Int)).map V.int)) v
  generalize (c++CC (k+1) (0:Int))[k]=d
  have S:=G.trans (r.trans (D.trans I));have m:=I _ _ (D _ _ (r _ _ u));generalize Ot (Ot (Ot H2 J (.lst [.int 0])) M (.lst ((CC (k+1) (0:Int)).map V.int))) F (.lst ((c++CC (k+1) (0:Int)).map V.int))=R at S m⊢
  exists 0,g,Z,#[_,OA.of m]
  refine bz (K:=K) (a:=g) (xs:=c.map V.int) (λi σ Hx=>Hx=R/\∃(z:Int) (o:Ο),σ=[↑(-b),↑(.int (k:Int)),↑(-g),↑(.int d),↑(.int z),o]/\0<=z/\z<2305843009213693951) #[51,⋯,⋯] (λi σ Hx _ ⟨e,_⟩=>by subst e;exact OA.of m) ?_ ?_
  .rintro i x σ Hx U ⟨rfl,z,o,rfl,z0,N⟩
   let#[y,rfl,hy]:=ZF U;refine#[15,.inl #[by lia,by lia],44,(by decide:(0:Int)<2305843009213693951),51,Mn _ ⋯,Mb _ ⋯]
  .rintro σ Hx ⟨rfl,z,o,rfl,z0,N⟩
   refine#[38,#[⋯,⋯,⋯],4,.inr #[0,?_]]
   exists 4,.inr #[GW _,FY _],14,.inl #[⋯,⋯],32,.inl #[⋯,⋯],50,(by decide:(0:Int)<2305843009213693951)
   have g0:=Mn (d+39373*z+7919*(k:Int)) (by decide:(2305843009213693951:Int)≠0)
   have g1:=Mb (d+39373*z+7919*(k:Int)) (by decide:(0:Int)<2305843009213693951)
   exact#[Od,λp L=>q _ _ (Q0 L S) (S.trans (Oq.upd L)) #[21,qb,g0,Int.lt_trans (Mb _ ⋯) ⋯,⋯,⋯]]
def tI(a:At K mg "_law_table" eV ["_law_box_here"])(T:ON K mg tk)(L:Df P w K mg base "_law_take" u7 1 az):Df P w K mg base "_law_table" W1 2 sP:=by
 refine a.dq P0 λf _ A _ s H N Q E J h=>?_
 .let#[b,c,rfl,F,O,q]:=h
  exists _,(qg (qC (i:=1) P0.nd Z (SF Z) (ze qa))
   (qg (Qc Ln Z (Q7 Z T.b_range (qc qj qa)) (qB (i:=2) P0.nd Z (SF Z))
   (qh (qJ (Qw Lk PySem.F.slot_list_insert PySem.F.type_list_insert yn (qv 1) (qc (qu L J.mo (qc (qv 0) (qc (qF zo (qv 2) qj) qa))) (qc (qv 2) qa))))))
   (qh (qm (qI za T.b_tuple J8 (qc (qv 1) qa))))))
  refine#[Oa,λl B=>?_]
  have p:l≠b:=zk F B
  refine#[(16),Z,⋯,⋯,aB (n:=16) (Pv:=λi σ C=>Rj b (c+i) H C/\∃(d:Ε) (o:Ο),C l=↑(.lst (d.map V.int))/\d.Perm (O6.take i)/\σ=[↑(-b),↑(-l),o]) #[(Oq.upd B).grc F,[],_,qb,.refl _,Z] ?_ ?_]
  .rintro i σ C hi ⟨g,d,o,v,pm,rfl⟩
   have I:d.length=i:=by rw[pm.length_eq,LO,show O6.length=16 from Z];lia
   refine#[0,.inl #[25,OA.of v],14,b,6,g.bx,by lia,by lia,by lia,λx H3 M R G=>?_]
   have D:=G.kp _ _ p v;exists 0,l,1,D,M,by rw[JI,I];lia,by rw[JI,I,JV];lia
   refine#[#[λc o u e=>?_,?_],d.take x.toNat++(i:Int)::d.drop x.toNat,_,?_,?_,Z]
   .by_cases z:c=l
    .subst z
     rw[e]at B;cases B
    .rw[qk z];exact G.kp _ _ u (g.kp _ _ u e)
   .let#[n,m,k',e,r]:=G.bx
    exact#[n,m,k',by rw[qk p.symm];exact e,r]
   .rw[qb,La,Ls,Ko,Kp]
    simp
   .refine(List.perm_middle.trans (List.Perm.cons _ (by rw[List.take_append_drop]))).trans ?_
    have y:O6.take (i+1)=O6.take i++[(i:Int)]:=(by decide:∀j:Nat,j<16->O6.take (j+1)=O6.take j++[(j:Int)]) i hi
    rw[y]
    exact(List.Perm.cons _ pm).trans (List.perm_append_comm (l₁:=[(i:Int)]))
  .rintro σ C ⟨g,d,o,v,pm,rfl⟩
   refine#[0,l,0,.inl #[OA.of v,λt y=>?_]]
   exact q t d _ (g.same (Oq.upd y)) (g.fresh (F.mono (by lia)) y) qb pm
def wB(a:At K mg "_law_key" jj ["_law_box_here"])(T:ON K mg tk)(m:Df P w K mg base "_law_take" u7 1 az):Df P w K mg base "_law_key" W1 2 lr:=by
 refine a.dq RL λf _ A _ s H vs Q E j h=>?_
 .let#[b,c,rfl,F,hc,q]:=h
  exists _,(qg (qC (i:=1) RL.nd Z (SF Z) (qE qS (ze (qc qj (qc qj (qc qj (qc qj (qc (qF zo qj (qu m j.mo (qc (qv 0) (qc qj qa)))) qa)))))) (qu m j.mo (qc (qv 0) (qc qj qa)))))
   (qh (qm (qI za T.b_tuple J8 (qc (QR (own:=["_law_k"]) (fr:=["_law_box_here"]) (js:=[0]) Z (Q7 Z T.b_range (qc (qv 1) qa)) Z (DG Z) Z (CI Z nofun nofun nofun Z Z Z) (λ_ _ _ _=>qB (i:=0) (show SQ (["_law_k","_law_box_here"]:Α)from by decide +kernel) Z (SF Z) (.inr Z)) (λ_ _ _ _=>(qu m j.mo (qc (qv 1) (qc qj qa))))) qa)))))
  refine#[0,b,6,F,by lia,⋯,⋯,λr H1 r0 r1 C=>#[4,Of,λl M=>?_]]
  have G:=Oq.upd (o:= .lst [.int 1,.int 2,.int 4,.int 8,.int (1+r)]) M
  refine#[0,b,6,(G.grc C.bx).bx,by lia,⋯,⋯,λY g D u L=>?_]
  let#[v,N,e]:=ZI (xs:=[V.int 1,.int 2,.int 4,.int 8,.int (1+r)]) D u
  let#[n,rfl,n1,n8]:∃z:Nat,v= .int (z:Int)/\1<=z/\z<=8:=by
   simp only[JO,JX,JY]at e;rcases e with rfl|rfl|rfl|rfl|rfl
   .exact#[(1),Z,⋯,⋯]
   .exact#[(2),Z,⋯,⋯]
   .exact#[(4),Z,⋯,⋯]
   .exact#[(8),Z,⋯,⋯]
   .exact#[(1+r).toNat,by congr 1;lia,by lia,by lia]
  have d:Rj b (c+2) H g:=((C.same G).trans L).mono (by lia)
  exists l,1,OA.of (L.kp _ _ (zk C.bx M) qb),N,2,by lia,by lia
  rw[M9];refine mK (n:=n) (Lc (by lia:n<=8) ⋯) (λi ys g=>Rj b (c+2+i) H g/\∃ks:Ε,ys=ks.map V.int/\Qn ks) #[d,[],Z,λ_ h=>nomatch h] ?_ ?_
  .rintro i ys g hi O ⟨d,ks,rfl,hk⟩
   refine#[0,b,6,d.bx,by lia,⋯,⋯,λx H3 S R U=>#[d.trans U,ks++[x],by simp,λz X=>?_]]
   rcases J1.mp X with y|y
   .exact hk z y
   .rw[JN.mp y];exact#[S,R]
  .rintro ys g B ⟨d,ks,rfl,hk⟩ p W
   rw[JI]at B;refine#[p,0,.inl #[OA.of qb,λt I=>?_]]
   have J:=d.same (Oq.upd (o:= .lst (ks.map V.int)) W)
   exact q t ks _ ((J.same (Oq.upd I)).mono (by lia)) (J.fresh (F.mono (by lia)) I) qb hk (by lia) (by lia)
def rp(a:At K mg "back_table" cN ["table"])(T:ON K mg tk):Df P w K mg base "back_table" ["table"] 1 (Ax K):=by
 refine a.dq Pe λf _ A _ s H vs Q E hr h=>?_
 .let#[c,t,rfl,D,pm,q]:=h
  exists _,(qg (qC (i:=1) Pe.nd Z (SF Z) (qF ue (ze (qc qj qa)) (zh (v:= .int 16) Z T.g_DIGITS #[0])))
   (qg (Qc Ln Z (Cw Z T.b_enumerate (qc (qv 0) qa)) (cL Z (qM (qB (i:=2) Pe.nd Z (SF Z)) (qM (qB (i:=3) Pe.nd Z (SF Z)) Qs)))
   (qh (Qx (qv 2) (cT (qv 1) (qv 3) Zt))))
   (qh (qm (qI za T.b_tuple J8 (qc (qv 1) qa))))))
  refine#[Ob,λp hp=>#[p,(16),17,qb,⋯,⋯,Ol,λl S=>?_]]
  have Y:(CC (16:Int).toNat [V.int 0]).flatten=(ZN t 0).map V.int:=by rw[CK];rfl
  rw[Y];have W:=(Oq.upd (o:= .lst [V.int 0]) hp)
  have J:=W.trans (Oq.upd (o:= .lst ((ZN t 0).map V.int)) S)
  have step:∀(i:Nat) (x:V) (g:Hp) (u:Δ),(t.map V.int)[i]? =↑x->g l=↑(.lst ((ZN t i).map V.int))->Oq H g->g u=none->
    ∃j:Nat,∃z:Int,x= .int z/\bS ((ZN t i).map V.int).length z=↑j/\(Ot g u (.tup [.int i,x])) l=↑(.lst ((ZN t i).map V.int))/\
     (Ot (Ot g u (.tup [.int i,x])) l (.lst (((ZN t i).map V.int).set j (.int i)))) l=↑(.lst ((ZN t (i+1)).map V.int))/\Oq H (Ot (Ot g u (.tup [.int i,x])) l (.lst (((ZN t i).map V.int).set j (.int i)))):=by
   intro i x g u G n m r;let#[z,rfl,X]:=ZF G;have hi:i<t.length:=(JZ.mp X).1
   have ez:t[i]=z:=(JZ.mp X).2
   have bd:=tJ pm hi;have sp:=Oq.upd (o:= .tup [.int i,.int z]) r
   refine#[z.toNat,z,Z,oh (by lia) (by rw[JI,fP];lia),sp _ _ n,?_,λd o e=>?_]
   .rw[qb,gi,<- ez,Ci pm hi]
   .have O:d≠l:=λy=>by
     rw[y]at e;rw[W _ _ e]at S;cases S
    rw[qk O];exact sp _ _ (m _ _ e)
  have F:∀(o:Ο) (o':Ο) (g:Hp),g l=↑(.lst ((ZN t t.length).map V.int))->Oq H g->∀I,g I=none->Q (-I) (Ot g I (.tup ((ZN t t.length).map V.int))):=λ_ _ g n m I N=>
   q _ _ (m.trans (Oq.upd N)) (by rw[qb,FG pm])
  rcases D with D|D
  .refine#[0,c,Z,.inl #[#[_,J.seq D],?_]]
   refine ui (K:=K) (a:=c) (xs:=t.map V.int) (λi σ g=>∃(B C:Ο),σ=[↑(-c),↑(-l),B,C]/\g l=↑(.lst ((ZN t i).map V.int))/\Oq H g) #[none,none,Z,qb,J] (λi σ g _ ⟨_,_,_,_,m⟩=>m.seq D) ?_ ?_
   .rintro i x σ g u G ⟨B,C,rfl,n,m⟩ r
    let#[j,z,rfl,R,U,M,L]:=step i x g u G n m r;exists u,0,OC.of qb,11
    exact#[5,l,8,j,9,U,R,6,M,L]
   .rintro σ g ⟨B,C,rfl,n,m⟩
    rw[JI]at n
    exact#[0,l,0,.inl #[OA.of n,F B C g n m]]
  .refine#[0,c,Z,.inr #[#[_,Oq.sqt J D],?_]]
   refine Ar (K:=K) (a:=c) (xs:=t.map V.int) (λi σ g=>∃(B C:Ο),σ=[↑(-c),↑(-l),B,C]/\g l=↑(.lst ((ZN t i).map V.int))/\Oq H g) #[none,none,Z,qb,J] (λi σ g _ ⟨_,_,_,_,m⟩=>Oq.sqt m D) ?_ ?_
   .rintro i x σ g u G ⟨B,C,rfl,n,m⟩ r
    let#[j,z,rfl,R,U,M,L]:=step i x g u G n m r;exists u,0,OC.of qb,11
    exact#[5,l,8,j,9,U,R,6,M,L]
   .rintro σ g ⟨B,C,rfl,n,m⟩
    rw[JI]at n
    exact#[0,l,0,.inl #[OA.of n,F B C g n m]]
def DK(a:At K mg "coded" nr ["table","key","digits"])(T:ON K mg tk):Df P w K mg base "coded" X7 1 (nJ K):=by
 refine a.dq P8 λf _ A _ s H vs Q E hr h=>?_
 .let#[a,b,c,t,ks,ds,rfl,U,S,N,lt,l1,Y,q]:=h
  exists _,(qg (qC (i:=3) P8.nd Z (SF Z) (qI QN T.b_list LA (qc (qv 2) qa)))
   (qg (Qc Ln Z (fu (qv 1)) (qB (i:=4) P8.nd Z (SF Z))
   (qh (Qc Ln Z (Q7 Z T.b_range (qc (qq qN T.b_len Ld (qc (qv 2) qa)) qa)) (qB (i:=5) P8.nd Z (SF Z))
   (qg (qC (i:=6) P8.nd Z (SF Z) (qE qS (qv 3) (qF Q4 (qv 5) qj)))
   (qh (Qx (qE (Ui.or qS qT) (qv 0) (qF QC (qF zo (qF zo (qF zo (qE qS (qv 3) (qv 5)) (qv 4)) (qv 5)) (qv 6)) (zh (v:= .int 16) Z T.g_DIGITS #[0]))) (cT (qv 3) (qv 5) Zt)))))))
   (qh (qm (qI za T.b_tuple J8 (qc (qv 3) qa))))))
  refine#[0,c,0,N,λl O=>?_]
  have W:Oq H _:=Oq.upd (o:= .lst (ds.map V.int)) O
  refine#[0,b,Z,FD (K:=K) (H0:=H) S (λj σ G=>Oq H G/\∃J y m,σ=[↑(-a),↑(-b),↑(-c),↑(-l),J,y,m]/\G l=↑(.lst ((ZG t (ks.take j) ds).map V.int))) #[W,19,qb] (λj R H' h=>h.1) ?_ ?_]
  .rintro j x σ G X ⟨D,J,y,m,rfl,B⟩
   let#[d,rfl,I]:=ZF X;rw[ny I,rZ];have C:(ZG t (ks.take j) ds).length=ds.length:=gS
   generalize ZG t (ks.take j) ds=r at B C
   exists 0,c,0,N.same D,0,?_,?_
   .lia
   .rw[JI];lia
   rw[show((((ds.map V.int).length:Nat):Int)).toNat=ds.length by rw[JI];rfl]
   refine aB (n:=ds.length) (Pv:=λi σ H3=>Oq H H3/\∃y m,σ=[↑(-a),↑(-b),↑(-c),↑(-l),↑(.int d),y,m]/\H3 l=↑(.lst ((cf t d r i).map V.int))) #[D,6,B] ?_ ?_
   .rintro i σ H3 hi ⟨F,y,m,rfl,e⟩
    have g:(cf t d r i).length=ds.length:=by rw[Zp,C]
    generalize hr':cf t d r i=z at e g
    have u:i<z.length:=g.symm▸hi
    exists 14,l,1,OA.of e,Aq (i:=i) (by rw[I0]) u
    exists 5,l,1,OA.of e,cQ (i:=i) (I0 _) u,18,(by decide:(0:Int)<16)
    have L:=cH (z.getD i 0+d+(0+(i:Int))+ah z i)
    refine(U.same F).ix (cQ (i:=((z.getD i 0+d+(0+(i:Int))+ah z i)%16).toNat) (I1 L.1).symm (by rw[lt];exact(KJ L.1).2 L.2)) ?_
    exists 2,l,8,i,9,e,oh (I0 _) (by rw[JI];exact u),aN F O,6
    rw[qb,gi,cf,hr',nV,I0]
   .rintro σ H3 ⟨F,y,m,rfl,e⟩
    exact#[F,19,e]
  .rintro σ G ⟨D,J,y,m,rfl,B⟩
   rw[JI,Mm]at B
   exact#[0,l,0,.inl #[OA.of B,λp M=>q p _ (D.trans (Oq.upd M)) (Q0 M D) qb]]
def xh(a:At K mg "decoded" iS ["table","key","digits"])(T:ON K mg tk)(zB:Df P w K mg base "back_table" ["table"] 1 (Ax K)):Df P w K mg base "decoded" X7 2 (rc K):=by
 refine a.dq Pb λf _ A _ s H vs Q E hr h=>?_
 .let#[a,b,c,t,ks,ds,rfl,ha,hb,hc,pm,S,l1,a3,q]:=h
  exists _,(qg (qC (i:=3) Pb.nd Z (SF Z) (qu zB hr.mo (qc (qv 0) qa)))
   (qg (qC (i:=4) Pb.nd Z (SF Z) (qI QN T.b_list LA (qc (qv 2) qa)))
   (qg (Qc Ln Z (yf Z T.b_reversed (qc (qv 1) qa)) (qB (i:=5) Pb.nd Z (SF Z))
   (qh (Qc Ln Z (yf Z T.b_reversed (qc (qI AW T.b_range PyProof.Rows.boot_range (qc (qq qN T.b_len Ld (qc (qv 2) qa)) qa)) qa)) (qB (i:=6) Pb.nd Z (SF Z))
   (qg (qC (i:=7) Pb.nd Z (SF Z) (qE qS (qv 4) (qF Q4 (qv 6) qj)))
   (qh (Qx (qF QC (qF Q4 (qF Q4 (qF Q4 (qE qT (qv 3) (qE qS (qv 4) (qv 6))) (qv 5)) (qv 6)) (qv 7)) (zh (v:= .int 16) Z T.g_DIGITS #[0])) (cT (qv 4) (qv 6) Zt)))))))
   (qh (qm (qI za T.b_tuple J8 (qc (qv 4) qa)))))))
  refine#[0,a,t,Z,ha,pm,λY H1 L a1=>?_]
  refine#[0,c,0,hc.same L,λl hl=>?_]
  have D:Oq H1 _:=Oq.upd (o:= .lst (ds.map V.int)) hl
  refine#[0,b,Z,DB (K:=K) (H0:=H1) (hb.same L) (λj σ R=>Oq H1 R/\∃X C z,σ=[↑(-a),↑(-b),↑(-c),↑(-Y),↑(-l),X,C,z]/\R l=↑(.lst ((ai (Qq t) (ks.drop (ks.length-j)) ds).map V.int))) #[D,19,by rw[Nat.sub_zero,List.drop_length];exact qb] (λj a2 H' h=>h.1) ?_ ?_]
  .rintro j x σ R hj hx ⟨D,X,C,z,rfl,I⟩
   let#[d,rfl,F]:=ZF hx;rw[JI]at hj F;have ed:ks.drop (ks.length-(j+1))=d::ks.drop (ks.length-j):=by
    have:=Bi F
    rw[Kc,RX (RY hj)]at this;rw[RZ];exact this
   rw[ed,ai];have M:(ai (Qq t) (ks.drop (ks.length-j)) ds).length=ds.length:=km
   have G:Qn (ai (Qq t) (ks.drop (ks.length-j)) ds):=sU S
   generalize ai (Qq t) (ks.drop (ks.length-j)) ds=r at I M G
   refine#[0,c,0,(hc.same L).same D,0,λpr J=>#[pr,Z,.inr (.inr #[ds.length,?_,by lia,?_])]]
   .rw[qb,JI]
   have W:=D.trans (Oq.upd (o:= .rng 0 ((ds.map V.int).length:Nat)) J)
   have a0:=Oq.upd (o:= .rng 0 ((ds.map V.int).length:Nat)) J _ _ I
   refine CY (n:=ds.length) (Pv:=λi σ H3=>Oq H1 H3/\∃C z u,σ=[↑(-a),↑(-b),↑(-c),↑(-Y),↑(-l),↑(.int d),C,z]/\H3 l=↑(.lst (u.map V.int))/\u.length=ds.length/\Qn u/\cU (Qq t) d u (ds.length-i)=cU (Qq t) d r ds.length) #[W,8,r,Z,a0,M,G,Z] ?_ ?_
   .rintro i σ H3 hi ⟨O,C,z,u,rfl,e,m,g,N⟩
    have y:ds.length-1-i<u.length:=m.symm▸Gx (KA _ _) (KI hi)
    have ep:(ds.length:Int)-1-i=((ds.length-1-i:Nat):Int):=by rw[KO,Nat.sub_sub];exact(Int.ofNat_sub (by rw[KG];exact hi)).symm
    rw[ep];generalize hpl:ds.length-1-i=B at y
    rw[show ds.length-i=B+1 by rw[<- hpl,Kc,RX (RY hi)],cU]at N
    exists 14,l,1,OA.of e,Aq (i:=B) Z y
    have U:=oz g B;exists 5,l,1,OA.of e,cQ (i:=B) Z y,Y,1,OC.of (O _ _ a1),cQ (i:=(u.getD B 0).toNat) (I1 U.1).symm (by rw[dv];exact(KJ U.1).2 U.2)
    exists 18,(by decide:(0:Int)<16)
    exists 2,l,8,B,9,e,vV (by rw[JI];exact y),aN O hl,8,kC (Qq t) d u B,Z,?_,by rw[tK];exact m,tO g
    .rw[qb,gi,kC]
    .rw[RZ,Kc,hpl];exact N
   .rintro σ H3 ⟨O,C,z,u,rfl,e,m,g,N⟩
    rw[Nat.sub_self,cU]at N;rw[N]at e
    exact#[O,19,e]
  .rintro σ R ⟨D,X,C,z,rfl,I⟩
   rw[JI,Nat.sub_self,K2]at I
   exact#[0,l,0,.inl #[OA.of I,λp hp=>q p _ ((L.trans D).trans (Oq.upd hp)) (Q0 hp (L.trans D)) qb]]
def kP(a:At K mg "letter_digits" aJ ["name"])(T:ON K mg tk):Df P w K mg base "letter_digits" ["name"] 1 oE:=by
 refine a.dq O0 λf _ A _ s H B Q E x h=>?_
 .let#[z,rfl,r,q]:=h
  exists _,(qg (qC (i:=1) O0.nd Z (SF Z) (ze qa))
   (qg (Qc Ln Z (Bb (qv 0)) (qB (i:=2) O0.nd Z (SF Z))
   (qg (qC (i:=3) O0.nd Z (SF Z) (qF Q4 (qq tE T.b_ord PyProof.Rows.boot_ord (qc (qv 2) qa)) (qq tE T.b_ord PyProof.Rows.boot_ord (qc qi qa))))
   (qg (qJ (Qw Lk Lx Ly zy (qv 1) (qc (qF QC (qv 3) (zh (v:= .int 16) Z T.g_DIGITS #[0])) qa)))
   (qh (qJ (Qw Lk Lx Ly zy (qv 1) (qc (qF cI (qv 3) (zh (v:= .int 16) Z T.g_DIGITS #[0])) qa)))))))
   (qh (qm (qv 1)))))
  refine#[Oa,λl g=>?_]
  refine#[0,z,Z,rM r,ET (λi σ d=>Oq H d/\∃j o,σ=[↑(.str z),↑(-l),j,o]/\d l=↑(.lst ((Z7 (z.cps.toList.take i)).map V.int))) #[Oq.upd g,6,qb] ?_ ?_]
  .rintro i c σ d u ⟨p,j,o,rfl,e⟩
   have n:=vp u;rw[EV n,AV];have m:(Z7 (z.cps.toList.take i)).length<=16:=by rw[oN,LO];have:=r.2.2;lia
   generalize Z7 (z.cps.toList.take i)=ds at e m
   have y:((((#[(B0 [c])]:Str).cps.getD 0 0:Nat):Int)-((("a":Str).cps.getD 0 0:Nat):Int))=(c:Int)-97:=Z
   have big:(100:Nat)<ζ:=by decide
   exists 39
   show fX _ _ _ [↑(V.str z),↑(V.ref l),↑(V.str #[(B0 [c])]),↑(V.int ((c:Int)-97))] d
   exists 0,.inl #[25,OA.of e],15,(by decide:(0:Int)<16),l,4,e,by rw[JI];lia
   have t:Oq H (Ot d l (.lst (ds.map V.int++[V.int (((c:Int)-97)%16)]))):=aN p g
   exists 0,.inl #[25,OA.of qb],15,#[⋯,⋯],l,4,qb,by rw[J0,JI,Kl];lia,aN t g,_,_,Z
   rw[qb,La,ND];rfl
  .rintro σ d ⟨p,j,o,rfl,e⟩
   rw[show z.cps.size=z.cps.toList.length from Z,Mm]at e
   exact#[0,q l d p g e]
def Aw(a:At K mg "key_of" kK ["table","key","name"])(T:ON K mg tk)(yO:Df P w K mg base "letter_digits" ["name"] 1 oE)(yY:Df P w K mg base "coded" X7 1 (nJ K)):Df P w K mg base "key_of" Y3 2 (nA K):=by
 refine a.dq Re λf _ A _ s H vs Q E W h=>?_
 .let#[a,b,z,t,ks,rfl,ha,hb,hz,lt,q]:=h
  exists _,(qg (qC (i:=3) Re.nd Z (SF Z) (qF ue (ze (qc qj qa)) (zh (v:= .int 4) Z T.g_KEY_PLACES #[0])))
   (qg (Qc Ln Z (FB Z T.b_enumerate (qc (qu yO W.mo (qc (qv 2) qa)) qa)) (cL Z (qM (qB (i:=4) Re.nd Z (SF Z)) (qM (qB (i:=5) Re.nd Z (SF Z)) Qs)))
   (qh (Fy (qv 3) (qF QC (qv 4) (zh (v:= .int 4) Z T.g_KEY_PLACES #[0])) Cu (qv 5) GY Zt)))
   (qh (qm (qu yY W.mo (qc (qv 0) (qc (qv 1) (qc (QR (own:=["total"]) (fr:=[]) (js:=[]) Z (ba (qv 3)) Z (λ_ _ h=>nomatch h) Z (gQ Z nofun nofun nofun) (λ_ _ _ _=>qB (i:=0) (show SQ (["total"]:Α)from by decide +kernel) Z (SF Z) (.inr Z)) (λ_ _ _ _=>(qF QC (qv 0) (zh (v:= .int 16) Z T.g_DIGITS #[0])))) qa))))))))
  refine#[Ob,λp0 U=>#[p0,(4),17,qb,⋯,⋯,Oe,λl hl=>?_]]
  have s1:=(Oq.upd (o:= .lst [V.int 0]) U)
  have s2:=s1.trans (Oq.upd (o:= .lst (CC (4:Int).toNat [V.int 0]).flatten) hl)
  have F:H l=none:=Q0 hl s1
  refine#[0,z,Z,hz,λC H1 X c j=>?_]
  have G:=X _ _ (qb (H:=Ot H p0 (.lst [V.int 0])) (a:=l) (o:= .lst (CC (4:Int).toNat [V.int 0]).flatten))
  have S:C≠l:=λy=>by rw[y,qb]at c;cases c
  generalize hds:Z7 z.cps.toList=ds at j q
  have a1:ds.length<=16:=by rw[<- hds,oN];have:=hz.2.2;lia
  refine#[C,Z,#[_,OA.of j],ui (K:=K) (a:=C) (xs:=ds.map V.int) (λi σ d=>∃(O N:Ο),σ=[↑(-a),↑(-b),↑(.str z),↑(-l),O,N]/\d l=↑(.lst ((bE ds i).map V.int))/\d C=↑(.lst (ds.map V.int))/\Oq H d)
   #[none,none,Z,G,j,s2.trans X] (λi σ d _ ⟨_,_,_,_,hd,_⟩=>OA.of hd) ?_ ?_]
  .rintro i x σ d pp M ⟨O,N,rfl,n,r,m⟩ L
   let#[Y,rfl,u]:=ZF M;have hi:i<ds.length:=(JZ.mp u).1
   have eg:ds.getD i 0=Y:=by rw[Lj,u];rfl
   have g:=Oq.upd (o:= .tup [.int i,.int Y]) L
   have B:=g _ _ n;have J:i%4<(bE ds i).length:=Nat.mod_lt i ⋯
   have e4:(i:Int)%4=((i%4:Nat):Int):=by lia
   exists pp,0,OC.of qb,11
   exists 14,(by decide:(0:Int)<4),l,_,i%4,.int ((bE ds i).getD (i%4) 0),Z,(by show V.int ((i:Int)%4)=_;rw[e4]),B,?_,15,l,8,i%4,9,B,oh e4 (by rw[JI];exact J),6,?_,?_
   .rw[mU J,Lj,JQ J];rfl
   .rw[qb,gi,<- eg,AQ]
   .rw[qk S];exact g _ _ r
   .exact aN (m.trans g) F
  .rintro σ d ⟨O,N,rfl,n,r,m⟩
   rw[JI]at n;refine#[5,l,Z,#[_,OA.of n],dw (xs:=(bE ds ds.length).map V.int) (Oe) (λi ys H3=>ys=((eQ ds).take i).map V.int/\H3=d) #[by simp,Z] (λi ys H3 ⟨_,e⟩=>by rw[e];exact OA.of n) ?_ ?_]
   .rintro i ys H3 x M _ ⟨rfl,rfl⟩
    let#[y,rfl,hy]:=ZF M;refine#[15,(by decide:(0:Int)<16),?_,Z]
    have:(eQ ds)[i]? =↑(y%16):=by unfold eQ;rw[JW,hy];rfl
    rw[LP,this];simp
   .rintro ys H3 a0 ⟨rfl,rfl⟩ p hp
    rw[show(eQ ds).take ((bE ds ds.length).map V.int).length=eQ ds from Z]
    have D:=Oq.upd (o:= .lst ((eQ ds).map V.int)) hp
    exact#[a,b,p,t,ks,eQ ds,Z,(ha.same m).same D,(hb.same m).same D,.lst qb,lt,by rw[rR];decide,by rw[rR];decide,λp' H' s' I R=>q p' H' ((m.trans D).trans s') (Q0 I (m.trans D)) R]
def lF(a:At K mg "count_digits" bA ["count"])(T:ON K mg tk):Df P w K mg base "count_digits" ["count"] 1 Gi:=by
 refine a.dq lB λf _ A _ s H g Q E e h=>?_
 .let#[c,rfl,q]:=h
  exists _,(qh (qm (qD (qc (qF QC (qv 0) (zh (v:= .int 16) Z T.g_DIGITS #[0])) (qc (qF QC (qF cI (qv 0) (zh (v:= .int 16) Z T.g_DIGITS #[0])) (zh (v:= .int 16) Z T.g_DIGITS #[0])) (qc (qF cI (qv 0) qj) qa))))))
  exact#[15,(by decide:(0:Int)<16),15,#[⋯,⋯],4,(by decide:(0:Int)<16),15,#[⋯,⋯],Od,λp d=>q p _ (Oq.upd d) qb]
def FH{c d:Int}(a:0<=c)(h1:c<4096)(hd:ZO d):∀z∈cu c d,0<=z/\z<=1000000:=λz e=>by
 have:=kE a h1 hd z (Nu _ e)
 exact#[this.1,Int.le_trans (Int.le_of_lt this.2) ⋯]
def uM(a:At K mg "press_of" gB ["table","key","name","age","count","deed"])(T:ON K mg tk)(U:Df P w K mg base "count_digits" ["count"] 1 Gi)(yR:Df P w K mg base "key_of" Y3 2 (nA K))(yY:Df P w K mg base "coded" X7 1 (nJ K)):Df P w K mg base "press_of" W7 3 (v5 K):=by
 refine a.dq P9 λf _ A _ s H vs Q E l h=>?_
 .let#[a,b,z,age,c,d,t,ks,rfl,G,S,hz,lt,W,X,hd,q]:=h
  exists _,(qg (qC (i:=6) P9.nd Z (SF Z) (qF oa (qu U l.mo (qc (qv 4) qa)) (qD (qc (qv 5) qa))))
   (qg (qC (i:=7) P9.nd Z (SF Z) (qF oa (qv 6) (qD (qc (qF QC (qq (Ab Z) T.b_sum PyProof.Rows.boot_sum (qc (qv 6) qa)) (zh (v:= .int 16) Z T.g_DIGITS #[0])) qa))))
   (qh (qm (qD (qc (qv 2) (qc (qv 3) (qc (qu yY l.mo (qc (qv 0) (qc (qu yR l.mo (qc (qv 0) (qc (qv 1) (qc (qv 2) qa)))) (qc (qv 7) qa)))) qa))))))))
  refine#[0,c,Z,λp1 H1 s1 u=>?_]
  refine#[0,Ob,λp2 C=>?_]
  have I:=Oq.upd (o:= .tup [V.int d]) C
  refine#[p1,p2,4,I _ _ u,qb,Oe,λB H3 N m=>?_]
  have e:H3 B=↑(.tup ((cu c d).map V.int)):=m
  have S3:=(s1.trans I).trans N;refine#[2,B,cu c d,Z,.tup e,by show 4<=1000;decide,FH W X hd,4,(by decide:(0:Int)<16),Ob,λp4 y=>?_]
  have L:=Oq.upd (o:= .tup [V.int ((cu c d).sum%16)]) y
  refine#[B,p4,4,L _ _ e,qb,Of,λF Y s5 x=>?_]
  have g:Y F=↑(.tup ((cA c d).map V.int)):=x
  have j:=(S3.trans L).trans s5;refine#[40,a,b,z,t,ks,Z,G.same j,S.same j,hz,lt,λO H6 D _ r=>?_]
  refine#[0,a,O,F,t,ot t ks z,cA c d,Z,(G.same j).same D,.tup r,.tup (D _ _ g),lt,by rw[gn];decide,by rw[gn];decide,λJ H7 R _ n=>?_]
  refine#[Od,λp hp=>?_]
  have M:=Oq.upd (o:= .tup [V.str z,.int age,-J]) hp
  exact q p J _ (((j.trans D).trans R).trans M) qb (M _ _ n)
def rj(a:At K mg "read_press" cS ["table","key","press"])(T:ON K mg tk)(O:Df P w K mg base "key_of" Y3 2 (nA K))(N:Df P w K mg base "decoded" X7 2 (rc K)):Df P w K mg base "read_press" Y0 3 (sX K):=by
 refine a.dq OK λf _ A _ s H vs Q E B h=>?_
 .let#[a,b,pr,pc,z,age,t,ks,ds,rfl,D,L,r,m,W,pm,I,o,q]:=h
  exists _,(qg (Qx (qv 2) (cP Z (qM (qB (i:=3) OK.nd Z (SF Z)) (qM (qB (i:=4) OK.nd Z (SF Z)) (qM (qB (i:=5) OK.nd Z (SF Z)) Qs)))))
   (qg (Qx (qu N B.mo (qc (qv 0) (qc (qu O B.mo (qc (qv 0) (qc (qv 1) (qc (qv 3) qa)))) (qc (qv 5) qa)))) (cL Z (qM (qB (i:=6) OK.nd Z (SF Z)) (qM (qB (i:=7) OK.nd Z (SF Z)) (qM (qB (i:=8) OK.nd Z (SF Z)) (qM (qB (i:=9) OK.nd Z (SF Z)) (qM (qB (i:=10) OK.nd Z (SF Z)) Qs)))))))
   (qg (qA (qw bG (qv 10) (qF QC (qF zo (qF zo (qF zo (qv 6) (qv 7)) (qv 8)) (qv 9)) (zh (v:= .int 16) Z T.g_DIGITS #[0])) (qy _)) (qh (qm zi)) qp)
   (qh (qm (qD (qc (qF zo (qF zo (qv 6) (qF Z1 (qv 7) (zh (v:= .int 16) Z T.g_DIGITS #[0]))) (qF Z1 (qv 8) qj)) (qc (qv 9) qa))))))))
  exists 0,pr,0,r,13
  refine#[27,a,b,z,t,ks,Z,D,L,W,vL pm,λG H1 u _ n=>?_]
  refine#[0,a,G,pc,t,ot t ks z,ds,Z,D.same u,.tup n,m.same u,pm,o,by lia,by lia,λM F R _ j=>?_]
  have C:∀x H',Oq F H'->ja H' x (rH (ai (Qq t) (ot t ks z) ds))->Q x H':=λx H' s' X=>q x H' ((u.trans R).trans s') X
  have Y:(ai (Qq t) (ot t ks z) ds).length=5:=by rw[km,I]
  let#[lo,mi,hi,d,g,S]:=ED Y;rw[S]at j C;exists M,0,OC.of j,34
  exists 24,(by decide:(0:Int)<16),7
  have l:∀x H',Oq F H'->ja H' x (if g=(lo+mi+hi+d)%16 then ↑(lo+mi*16+hi*256,d)else none)->Q x H':=C
  by_cases e:g=(lo+mi+hi+d)%16
  .rw[JK e]at l
   refine gK (c:=V.int g=V.int ((lo+mi+hi+d)%16)) (by rw[e]) ?_
   refine#[14,.inr #[⋯,⋯],32,.inr #[⋯,⋯],12,Oc,λp U=>?_]
   exact l _ _ (Oq.upd U) #[p,Z,qb]
  .rw[JJ e]at l
   refine qL (λ_=>l _ _ (Oq.refl _) Z) (λy=>absurd ?_ y)
   have:¬V.int g=V.int ((lo+mi+hi+d)%16):=λJ=>e (by injection J)
   show(! decide (V.int g=V.int ((lo+mi+hi+d)%16)))=true
   rw[JT this];rfl
def gM(a:O7 K C "door_named" "House.door_named" ZB ["self","name"])(T:ON K mg tk)(U:Ro K C)(m:Rp K mg x fI):My P w K mg base C "door_named" u0 1 (fw K CB CD C x):=by
 refine a.my hV λf _ A _ s H q Q E l h=>?_
 .let#[c,S,nm,rfl,d,n,p]:=h
  exists _,(qg (qA (bO l (qv 1) (qz (qv 0))) (qh (Qu Qd Z Z LG Z m.g_Unknown m.e_Unknown (qc qi qa) Z)) qp)
   (qh (qm (qH l (qz (qv 0)) (qv 1)))))
  rcases d.at_.gdd nm with⟨e,g⟩|⟨i,y,z,e,o,_,_,_,g⟩
  .refine#[2,c.ma,0,d.h_doors U,c.dd,0,g,0,zZ ?_]
   exact#[Ob,λa j=>(n e).mk (Oq.refl _) j]
  .refine#[2,c.ma,0,d.h_doors U,c.dd,0,g,0,zu ?_]
   exact#[0,c.ma,0,d.h_doors U,0,c.dd,0,g,p i y e o]
def eN(a:O7 K C "button_named" "House.button_named" Q9 ["self","name"])(T:ON K mg tk)(U:Ro K C)(m:Rp K mg x fI):My P w K mg base C "button_named" u0 1 (fA K CB CD C x):=by
 refine a.my fC λf _ A _ s H q Q E l h=>?_
 .let#[c,S,nm,rfl,d,n,p]:=h
  exists _,(qg (qA (bO l (qv 1) (qz (qv 0))) (qh (Qu Qd Z Z LG Z m.g_Unknown m.e_Unknown (qc qi qa) Z)) qp)
   (qh (qm (qH l (qz (qv 0)) (qv 1)))))
  rcases d.at_.gbd nm with⟨e,g⟩|⟨i,y,z,e,o,_,_,_,g⟩
  .refine#[2,c.ma,0,d.h_buttons U,c.bd,0,g,0,zZ ?_]
   exact#[Ob,λa j=>(n e).mk (Oq.refl _) j]
  .refine#[2,c.ma,0,d.h_buttons U,c.bd,0,g,0,zu ?_]
   exact#[0,c.ma,0,d.h_buttons U,0,c.bd,0,g,p i y e o]
def jP(a:O7 K C "kept_now" "House.kept_now" am ["self"])(T:ON K mg tk)(U:Ro K C):Mf P w K mg base C "kept_now" q9 1 (vZ K CB CD C):=by
 refine a.mq jM λf _ A _ s H o Q E n h=>?_
 .let#[g,S,rfl,d,q]:=h
  exists _,(qh (qm (qI za T.b_tuple J8 (qc (qz (qv 0)) qa))))
  let#[m,e,l,r]:=id d.at_.kl
  exact#[0,g.ma,0,d.h_kept U,g.kl,0,.inl #[OA.of e,λt c=>q t _ (Oq.upd c) #[m,qb,l,λi a P h1 j=>OY.same (Oq.upd c) (r i a P h1 j)]]]
def iB(a:O7 K C "opened_by" "House.opened_by" ZZ ["self","door"])(T:ON K mg tk)(U:Ro K C)(r:Mf P w K mg base C "door_named" u0 1 (kW K CB CD C)):Mf P w K mg base C "opened_by" Y8 2 (pX K CB CD C):=by
 refine a.mq jd λf _ A _ s H v Q E l h=>?_
 .let#[j,S,nm,i,y,rfl,c,hi,n,q]:=h
  exists _,(qg (qJ (zb r U.cl l.mo (qv 0) (qc (qv 1) qa)))
   (qh (qm (qI za T.b_tuple J8 (qc (qH l (qz (qv 0)) (qv 1)) qa)))))
  rcases c.at_.god nm with⟨e,g⟩|⟨u,z,y',e,m,d,_,_,g⟩
  .rw[hi]at e;cases e
  .rw[hi]at e;cases e
   rw[n]at d;cases d
   have o:=(c.at_.de i z y m n).2;exists 0,j.ma,Z,c.no,0,j,S,nm,i,z,Z,c,hi,m
   exact#[0,j.ma,0,c.h_opened U,0,j.od,0,g,z.ol,0,.inl #[OA.of o,λt p=>q t _ (Oq.upd p) qb]]
def jU(a:O7 K C "door_now" "House.door_now" ap ["self","door"])(T:ON K mg tk)(U:Ro K C)(m:PB K CD)(r:Mf P w K mg base C "door_named" u0 1 (kW K CB CD C))(o:Mf P w K mg base CD "twin_door" q9 3 (vG K CD)):Mf P w K mg base C "door_now" Y8 4 (mI K CB CD C):=by
 refine a.mq jI λf _ A _ s H t Q E g h=>?_
 .let#[l,S,n,nm,i,y,rfl,d,ok,hi,e,q]:=h
  exists _,(qh (qm (qP o m.cl g.mo (zb r U.cl g.mo (qv 0) (qc (qv 1) qa)))))
  let#[z,y',j,c,_,_]:=d.at_.dix hi;rw[e]at c;cases c
  have dl:=(d.at_.de i z y j e).1
  exact#[0,l.ma,Z,d.no,0,l,S,nm,i,z,Z,d,hi,j,z.a.p,Z,dl.dr.no,z.a,y.D,y.L,Z,dl,(ok.dr y (JU e)).ok.kl,λda H' s' _ _ _ _ p=>q da H' s' p]
def hJ(a:O7 K C "button_now" "House.button_now" Zv ["self","button"])(T:ON K mg tk)(U:Ro K C)(l:Rc K CB)(D:Mf P w K mg base C "button_named" u0 1 (vS K CB CD C))(r:Mf P w K mg base CB "age_now" q9 1 (cY K CB))(v:Mf P w K mg base CB "count_now" q9 1 (Z8 K CB))(F:Mf P w K mg base CB "cells_now" q9 1 (kU K CB)):Mf P w K mg base C "button_now" W3 2 (pj K CB CD C):=by
 refine a.mq Pu λf _ A _ s H I Q E e h=>?_
 .let#[p,S,nm,j,B,rfl,g,hi,n,q]:=h
  exists _,(qg (qC (i:=2) Pu.nd Z (SF Z) (zb D U.cl e.mo (qv 0) (qc (qv 1) qa)))
   (qh (qm (qD (qc (qP r l.cl e.mo (qv 2)) (qc (qP v l.cl e.mo (qv 2)) (qc (qP F l.cl e.mo (qv 2)) qa)))))))
  let#[z,B',m,d,_,_]:=g.at_.bix hi;rw[n]at d;cases d
  let#[ta,ka,b]:=g.at_.be j z B m n;exists 0,p.ma,Z,g.no,0,p,S,nm,j,z,Z,g,hi,m
  refine#[0,z.p,Z,b.no,z.p,ta,ka,z.ce,B,Z,b,0,z.p,Z,b.no,z.p,ta,ka,z.ce,B,Z,b,0,z.p,Z,b.no,z.p,ta,ka,z.ce,B,Z,b,λc H1 x G=>#[Od,λt y=>?_]]
  have u:=Oq.upd (o:= .tup [.int B.age,.int B.cnt,-c]) y
  exact q t c _ (x.trans u) qb (u _ _ G)
def gR(a:O7 K C "keep_press" "House.keep_press" ZD ["self","pressed","deed"])(T:ON K mg tk)(U:Ro K C)(XC:Rp K mg x fI)(UB:Rc K CB)(O:My P w K mg base CB "press_once" Y7 4 (jg K CB x)):My P w K mg base C "keep_press" V5 5 (ni K CB CD C x):=by
 refine a.my io λf _ A _ s H vs Q E J h=>?_
 .let#[g,S,n,j,z,B,d,rfl,o,ok,n9,v,r,M,N,q]:=h
  exists _,(qg (qJ (Qw Lk Lx Ly zy (qz (qv 0)) (qc (zx O zj UB.cl J.mo (qv 1) (qc (qv 2) qa)) qa)))
   (qh (qm (qF Q4 (qq qN T.b_len Ld (qc (qz (qv 0)) qa)) qj))))
  let#[ta,ka,b]:=o.at_.be j z B v r;have p:=ok.bt B (JU r);let#[as,ek,lk,rk]:=id o.at_.kl;have nk:=ok.nk;refine#[0,g.ma,0,o.h_kept U,.inl #[25,OA.of ek],0,z.p,Z,b.no,0,z.p,ta,ka,z.ce,B,d,Z,b,p.nm,by rw[p.t,ok.tp.length_eq];rfl,p.ok.c0,M,N,λY pr pc H1 G L e1 X=>?_]
  have h1:=o.btn v r G #[ta,ka,L] (ZJ B);let#[e,l,c,F]:=id h1.at_.kl;have c:e.length=S.kp.length:=c
  exists g.kl,4,l,by rw[JI,c,JV];lia
  have t:Mv [g.kl] H1 (Ot H1 g.kl (.lst (e.map V.ref++[-pr]))):=Mv.upd1
  have m:NT [g.kl] H1:=NT.one l trivial
  have W:Uv (Ot H1 g.kl (.lst (e.map V.ref++[-pr]))) g.kl (S.kp++[qY B d]):=by
   refine#[e++[pr],by rw[qb,La];rfl,by rw[J0,J0,c];rfl,λi u P D y=>?_]
   rcases bq c D y with⟨D,y⟩|⟨rfl,rfl⟩
   .exact OY.mv t m (F i u P D y)
   .exact OY.mv t m #[pc,e1,X]
  have I:=h1.kpt W;exists 0,g.ma,0,I.h_kept U,g.kl,0,.inl (OA.of qb),4
  have R:((e.map V.ref++[V.ref pr]).length:Int)-1=(S.kp.length:Int):=by rw[J0,JI,c];simp
  show Q (.int (((e.map V.ref++[V.ref pr]).length:Int)-1)) _
  rw[R];exact q _ Y ((lf v G).trans (bC mF t)) I
def i6(a:O7 K C "add_door" "House.add_door" av ["self","name","near","far","most"])(T:ON K mg tk)(U:Ro K C)(X:Rp K mg x fI)(UD:PB K CD)(yG:Mi P w K mg base CD "Door" x5 1 (nT K CD))(dG:Mf P w K mg base CD "close_below" X2 1 (c7 K CD)):My P w K mg base C "add_door" V8 3 (vb K CB CD C x):=by
 refine a.my PJ λf _ A _ s H vs Q E v h=>?_
 .let#[d,S,n,nm,j,m,l,rfl,o,ok,n9,dr,dq]:=h
  exists _,(qg (qA (mS v (qv 1) (qz (qv 0))) (qh (Qu Qd Z Z LG Z X.g_Known X.e_Known (qc qi qa) Z)) qp)
   (qg (qC (i:=5) PJ.nd Z (SF Z) (bw yG v.mo (qc (qz (qv 0)) (qc (qz (qv 0)) (qc (qv 2) (qc (qv 3) (qc (qv 4) qa)))))))
   (qg (qA (qw lZ (qz (qv 0)) qj (qy _)) (qh (qJ (zb dG UD.cl v.mo (qv 5) (qc (qz (qv 0)) qa)))) qp)
   (qg (Za v (qz (qv 0)) (qv 1) (qv 5))
   (qh (Za v (qz (qv 0)) (qv 1) (ze qa)))))))
  rcases o.at_.gdd nm with⟨e,g⟩|⟨i,y,z,e,hy,_,_,_,g⟩
  case inr=>
   refine#[2,d.ma,0,o.h_doors U,d.dd,0,g,0,zZ ?_]
   exact#[Ob,λa L=>OH.mk (dr .known (JK (by rw[e];rfl))) (Oq.refl _) L]
  have dq:=dq _ _ (JJ (by rw[e];intro z;cases z))
  refine#[2,d.ma,0,o.h_doors U,d.dd,0,g,0,zu ?_]
  refine#[0,d.ma,0,o.h_table U,0,d.ma,0,o.h_keys U,5,λp dx O R M=>?_]
  have F:Oq H (Ot (Ot H dx (.own p)) p (.ins CD dx [])):=(Oq.upd R).trans (Oq.upd (by rw[qk M.symm];exact O))
  have Y:=o.same F;refine#[p,d.ta,d.hk,dx,j,m,l,S.t,S.kss,Z,qb,.inr Y.at_.tb,Y.at_.ks,ok.k8,λta hk bd lg H2 fh fb fl m2 d2 k2=>#[Z,?_]]
  have t:=Ox.dl d2 k2;have N:Oq H H2:=Oq.mv_of F m2 (λc I=>by rw[JN.mp I];exact O)
  have o2:=o.same N;have fd:∀z∈dS #[p,ta,hk,bd,lg],H z=none:=vh O (Q0 fh F) (Q0 fb F) (Q0 fl F)
  have l0:=ok.l0;refine BL (λJ H3=>J=[↑(-d.ma),↑(.str nm),↑(.int j),↑(.int m),↑(.int l),↑(-p)]/\Oq H H3/\OO K CD H3 #[p,ta,hk,bd,lg] (Zu S nm j m l).D (Zu S nm j m l).L) (λD' a1 B=>?_) ?_
  .refine#[0,d.ma,0,o2.h_least U,12,qL (λz=>?_) (λz=>?_)]
   .have z:0<S.least:=J5 z
    refine#[0,p,Z,t.dr.no,0,d.ma,0,o2.h_least U,#[p,ta,hk,bd,lg],_,[],S.least,Z,t,Li _,λD2 r h2 H3 m3 G=>B _ _ #[Z,?_,?_]]
    .exact Oq.mv_of N m3 (λc I=>fd c (by simp only[JO,JX,JY]at I;rcases I with rfl|rfl;exact gT _;exact cq _))
    .cases h2
     unfold Zu;simp only
     rw[JK z];have e2:(if S.least>0 then S.least else 0)=S.least:=JK z
     simp only at G
     rw[e2]at G;exact G
   .have z:¬0<S.least:=λy=>z (JM y)
    refine B _ _ #[Z,N,?_]
    unfold Zu;simp only
    rw[JJ z,show S.least=0 by lia]
    exact t
  rintro _ H3 ⟨rfl,W,G⟩
  have nd:=ok.nd;have o3:=o.same W;let#[kvs,p1,r1]:=o.putD (y:=Zu S nm j m l) W G fd e Z (by lia)
  exists 2,d.ma,0,o3.h_doors U,0,d.dd,0,p1
  have o4:Qm K (Ot H3 d.dd (.dK kvs)) d.ma "opened" (-d.od):=by
   let#[u,q]:=o3.mn;let#[w,ow]:=o.at_.ow
   exact#[C,u,_,by rw[qk (λz=>by have:=ow.dd;rw[<- z,ow.ma]at this;cases this)];exact q,U.cl,U.n_opened,bR 6 Z (show((yc d S.least).map (·.1)).Nodup from tT)]
  refine#[Oa,λol D=>?_]
  let#[a0,p2,m6,gr,h6]:=r1 ol D;have o5:Qm K (Ot (Ot H3 d.dd (.dK kvs)) ol (.lst [])) d.ma "opened" (-d.od):=by
   let#[C',u,fs,q,r]:=o4
   exact#[C',u,fs,by rw[qk (qr q D)];exact q,r]
  exists 0,d.ma,0,o5,0,d.od,0,p2
  exact dq .non _ _ m6 gr Z h6 Z
def gY(a:O7 K C "add_button" "House.add_button" ZE ["self","name","step"])(T:ON K mg tk)(U:Ro K C)(F:Rp K mg x fI)(UB:Rc K CB)(W:Mi P w K mg base CB "Button" X5 1 (mV K CB)):My P w K mg base C "add_button" ["self","name","step"] 3 (uZ K CB CD C x):=by
 refine a.my Po λf _ A _ s H vs Q E o h=>?_
 .let#[d,S,n,nm,step,rfl,j,ok,n9,X,dq]:=h
  exists _,(qg (qA (mS o (qv 1) (qz (qv 0))) (qh (Qu Qd Z Z LG Z F.g_Known F.e_Known (qc qi qa) Z)) qp)
   (qg (qC (i:=3) Po.nd Z (SF Z) (qF Q4 (qq qN T.b_len Ld (qc (qz (qv 0)) qa)) qj))
   (qh (Za o (qz (qv 0)) (qv 1) (bw W o.mo (qc (qv 1) (qc (qz (qv 0)) (qc (qE qS (qz (qv 0)) (qv 3)) (qc (qv 3) (qc (qv 2) qa))))))))))
  rcases j.at_.gbd nm with⟨e,g⟩|⟨i,y,z,e,hy,_,_,_,g⟩
  case inr=>
   refine#[2,d.ma,0,j.h_buttons U,d.bd,0,g,0,zZ ?_]
   exact#[Ob,λa r=>OH.mk (X .known (JK (by rw[e];rfl))) (Oq.refl _) r]
  have dq:=dq _ _ (JJ (by rw[e];intro z;cases z))
  refine#[2,d.ma,0,j.h_buttons U,d.bd,0,g,0,zu ?_]
  let#[l,I,L,q]:=id j.at_.ks;exists 0,d.ma,0,j.h_keys U,d.hk,0,.inl (OA.of I),4
  rw[JI,L];have k1:=ok.k1;have hk:S.kss.length-1<l.length:=by lia
  have J:=JQ hk;have D:S.kss[S.kss.length-1]? =↑(S.kss.getD (S.kss.length-1) []):=by
   rw[Lj,JQ (by lia)];rfl
  have Y:=q _ _ _ J D;refine#[2,d.ma,0,j.h_table U,0,d.ma,0,j.h_keys U,0,d.hk,8,.ref l[S.kss.length-1],9,OA.of I,?_,2,λp dx v t u=>?_]
  .have e1:((S.kss.length:Int)-1)=((S.kss.length-1:Nat):Int):=by lia
   show Q3 (l.map V.ref) ((S.kss.length:Int)-1)=_
   rw[e1];exact Qf (by rw[JW,J];rfl)
  have m:Oq H (Ot (Ot H dx (.own p)) p (.ins CB dx [])):=(Oq.upd t).trans (Oq.upd (by rw[qk u.symm];exact v))
  have O:=j.same m;refine#[p,d.ta,l[S.kss.length-1],dx,nm,(S.kss.length:Int)-1,step,S.t,S.kss.getD (S.kss.length-1) [],Z,qb,.inr O.at_.tb,.inr (Oq.sqt m Y.up),λta ka ce H2 N m2 b2=>#[Z,?_]]
  have G:Oq H H2:=Oq.mv_of m m2 (λc hc=>by rw[JN.mp hc];exact v)
  have o2:=j.same G;have nb:=ok.nb;let#[kvs,p1,R,gr,M]:=j.putB (B:=eZ S nm step) (p:=p) (ce:=ce) G #[ta,ka,b2] v (Q0 N m) e (by lia)
  exists 0,d.ma,0,o2.h_buttons U,0,d.bd,0,p1
  exact dq .non _ _ R gr Z M Z
def me(a:O7 K C "teach" "House.teach" b8 ["self","door","button"])(T:ON K mg tk)(U:Ro K C)(L:Rp K mg x fI)(UB:Rc K CB)(UD:PB K CD)(XI:Xi P w K mg base x.b "BadPress" (.ref x.e::Qv) Qv "ValueError.__new__" Y6 2 (kg x.b "place"))(dH:My P w K mg base C "door_named" u0 1 (fw K CB CD C x))(dE:My P w K mg base C "button_named" u0 1 (fA K CB CD C x))(dO:My P w K mg base C "keep_press" V5 5 (ni K CB CD C x))(xA:Mf P w K mg base CD "button_of" u0 1 (wT K CD))(xD:Mf P w K mg base CD "is_full" q9 1 (mY K CD))(dL:Mf P w K mg base CD "takes_age" X2 1 (gA K CD))(xJ:Mf P w K mg base CD "learn" Y2 7 (jk K CD))(dB:Mf P w K mg base CB "count_now" q9 1 (Z8 K CB))(dD:Mf P w K mg base CB "age_now" q9 1 (cY K CB)):My P w K mg base C "teach" W5 8 (sr K CB CD C x):=by
 refine a.my OV λf _ A _ s H vs Q E l h=>?_
 .let#[g,S,n,dn,bn,rfl,p,ok,n9,r,dq]:=h
  exists _,(qg (qC (i:=3) OV.nd Z (SF Z) (zx dH zj U.cl l.mo (qv 0) (qc (qv 1) qa)))
   (qg (qC (i:=4) OV.nd Z (SF Z) (zx dE zj U.cl l.mo (qv 0) (qc (qv 2) qa)))
   (qg (qA (qw vX (zb xA UD.cl l.mo (qv 3) (qc (qv 2) qa)) zi (qy _)) (qh (Qu Qd Z Z LG Z L.g_Known L.e_Known (qc qi qa) Z)) qp)
   (qg (qA (zw (qP xD UD.cl l.mo (qv 3))) (qh (Qu Qd Z Z LG Z L.g_Full L.e_Full (qc qi qa) Z)) qp)
   (qg (qA (qw lZ (qP dB UB.cl l.mo (qv 4)) (qF Q4 (zh (v:= .int 4096) Z T.g_COUNTS #[0]) qj) (qy _)) (qh (Qu Qd Z Z LG Z L.g_Worn L.e_Worn (qc qi qa) Z)) qp)
   (qg (qA (Qg (zw (zb dL UD.cl l.mo (qv 3) (qc (qP dD UB.cl l.mo (qv 4)) qa)))) (qh (Bn Qd Z Z LG Z XI l.mo (qc qj qa) Z)) qp)
   (qg (qC (i:=5) OV.nd Z (SF Z) (zx dO zj U.cl l.mo (qv 0) (qc (qv 4) (qc qj qa))))
   (qg (qC (i:=6) OV.nd Z (SF Z) (zx dO zj U.cl l.mo (qv 0) (qc (qv 4) (qc qj qa))))
   (qh (qJ (zb xJ UD.cl l.mo (qv 3) (qc (qE qS (qz (qv 0)) (qv 5)) (qc (qE qS (qz (qv 0)) (qv 6)) qa)))))))))))))
  refine#[0,g.ma,Z,p.no,0,g,S,dn,Z,p,λe=>r .unknown (lA e),λi z hi Y=>?_]
  let#[z',y,R,G,_,_]:=p.at_.dix hi;rw[Y]at R;cases R
  refine#[0,g.ma,Z,p.no,0,g,S,bn,Z,p,λe=>r .unknown ((iR hi G).trans (aY e)),λj u hj hu=>?_]
  let#[u',B,N,J,_,eB]:=p.at_.bix hj;rw[hu]at N;cases N
  rw[oK hi G hj J]at r dq;have dl:=(p.at_.de i z y Y G).1;let#[ta,ka,b]:=p.at_.be j u B hu J;have D:=ok.bt B (JU J);have I:=ok.dr y (JU G);subst eB;refine#[0,z.a.p,Z,dl.dr.no,0,z.a.p,z.a.ta,z.a.hk,z.a.bd,z.a.lg,y.L.length,y.D,B.nm,Z,dl.dr,λW=>?_,λe a he a3=>?_]
  case refine_2=>
   refine#[7,Qb (by rw[JT (by intro z;cases z)];rfl) ?_]
   exact#[Ob,λa o=>OH.mk (r .known (JK (by rw[he];intro z;cases z))) (Oq.refl _) o]
  have r1:fH S i j y B=_:=JJ (λq=>q W)
  rw[r1]at r dq;refine#[7,zz (by rw[JM Z];rfl) ?_]
  refine#[0,z.a.p,Z,dl.dr.no,z.a.p,z.a.ta,z.a.hk,z.a.bd,z.a.lg,y.L.length,y.D,Z,dl.dr,0,qL (λq=>?_) (λq=>?_)]
  .exact#[Ob,λa o=>OH.mk (r .full (JK (J5 q))) (Oq.refl _) o]
  have hm:¬y.D.most<=(y.D.kn.length:Int):=λz=>q (JM z)
  rw[JJ hm]at r dq;refine#[0,u.p,Z,b.no,u.p,ta,ka,u.ce,B,Z,b,30,qL (λq=>?_) (λq=>?_)]
  .have q:B.cnt>4096-2:=J5 q
   exact#[Ob,λa o=>OH.mk (r .worn (JK (by lia))) (Oq.refl _) o]
  have hc:¬4094<B.cnt:=λz=>q (JM (show B.cnt>4096-2 by lia))
  rw[JJ hc]at r dq;exists 0,z.a.p,Z,dl.dr.no,0,u.p,Z,b.no,u.p,ta,ka,u.ce,B,Z,b,z.a.p,z.a.ta,z.a.hk,z.a.bd,z.a.lg,y.L.length,y.D,B.age,Z,dl.dr,0
  by_cases hl:B.age<S.least
  .refine Qb (by unfold Z4;rw[JT (by rw[I.l];lia)];rfl) ?_
   exact#[Ob,λe he=>#[e,(0),Z,⋯,qb,λd I=>#[Z,↑d,qb,RF.mk (r (.badp 0) (JK hl)) (Oq.refl _) he I]]]
  rw[JJ hl]at dq;have a1:=D.a1;refine zz (by unfold Z4;rw[JM (by rw[I.l];lia),JM (by rw[I.k];exact D.a1)];rfl) ?_
  have F:ZO 0:=#[⋯,⋯]
  refine#[0,g.ma,Z,p.no,0,g,S,n,j,u,B,(0),Z,p,ok,by lia,hu,J,F,(λq=>by lia),λH1 c1 m1 h1=>?_]
  have a0:=ok.keep J c1 F;refine#[0,g.ma,Z,h1.no,0,g,qW S j B 0,n+1,j,u,B.pr,(0),Z,h1,a0,by lia,hu,cW J,F,(λq=>by rw[Z5]at q;lia),λH2 c2 m2 X=>?_]
  let#[c,O,m,t]:=id X.at_.kl;have m:c.length=((S.kp++[qY B 0])++[qY B.pr 0]).length:=m
  have t:∀(i:Nat) (a:Δ) (P:Ps),c[i]? =↑a->((S.kp++[qY B 0])++[qY B.pr 0])[i]? =↑P->PX H2 a P:=t
  rw[J0,J0]at m;have m:c.length=S.kp.length+1+1:=m
  have g1:=JQ (show S.kp.length<c.length by lia)
  have g2:=JQ (show S.kp.length+1<c.length by lia)
  have q1:=t _ _ (qY B 0) g1 (by rw[L6 (by rw[J0];simp),LV (JL _)];simp)
  have q2:=t _ _ (qY B.pr 0) g2 (by rw[LV (by rw[J0];exact JL _),J0];simp)
  have M:=(X.at_.de i z y Y G).1;have y1:=JU G;have a2:(0:Int)<=B.cnt:=D.ok.c0
  have ll:=I.ll;refine#[0,z.a.p,Z,M.dr.no,0,g.ma,0,X.h_kept U,0,g.kl,8,.ref c[S.kp.length],9,OA.of O,Qf (by rw[JW,g1];rfl),0,g.ma,0,X.h_kept U,0,g.kl,8,.ref c[S.kp.length+1],9,OA.of O,?_,z.a,y.D,y.L,8,qY B 0,qY B.pr 0,B.cnt,(0),(0),Z,M,by lia,I.ok,q1,q2,bI ok D (by lia) F,?_,cD ok y1 D (by lia) (by lia) F,?_,ZJ B,aI B,?_,by lia,λH3 m3 d3=>?_]
  .have e1:(((qW S j B 0).kp.length:Nat):Int)=((S.kp.length+1:Nat):Int):=by
    show((S.kp++[qY B 0]).length:Int)=_
    rw[J0];rfl
   rw[e1];exact Qf (by rw[JW,g2];rfl)
  .exact bI ok (D.pr (by lia)) (by rw[Z5];lia) F
  .have:=cD ok y1 (D.pr (by lia)) (by rw[aI];lia) (by rw[Z5];lia) F
   rw[this,Z5]
  .show y.D.kn.lookup B.pr.nm=none
   rw[ZJ];exact W
  .have h3:=X.door Y G (cj m3) d3
   have en:(qY B.pr 0).nm=B.nm:=ZJ B
   have ea:(qY B.pr 0).age=B.age:=aI B
   rw[en,ea]at h3;exact dq _ _ Z .non g H3 ((m1.trans m2).trans (cm Y (cj m3))) PZ.refl Z h3 Z
end
end Lw
namespace L3
open PySem PySem.Spec PyProof.Rows L2
noncomputable def tz(S:Hs)(j:Nat)(B:Bt):Hd->OZ
 | .press _ deed ds=>Z3 S j B deed ds
 | .lose _=> .ok (S.setB j B.ou) .non
 | .tear _=> .ok (S.setB j B.tn) .non
 | .turnB _=>if(S.kss.length:Int)<=B.age+1 then .ref .worn else .ok (S.setB j (B.turn (S.kss.getD (B.age+1).toNat []))) .non
 |_=> .ref .unknown
noncomputable def rB:Hd->Option Str
 | .press b _ _=>↑b
 | .lose b=>↑b
 | .tear b=>↑b
 | .turnB b=>↑b
 |_=>none
def EU{S:Hs}{b:Str}{j:Nat}{B:Bt}(hb:rB d=↑b)(c:qR S.bn b=↑j)(a:S.bs[j]? =↑B):zm S d=tz S j B d:=by
 cases d with
 |press b' deed ds=>cases hb;exact eE c a
 |lose b'=>cases hb;exact bM c a
 |tear b'=>cases hb;exact bM c a
 |turnB b'=>cases hb;exact bM c a
 |_=>cases hb
def DC{S:Hs}{b:Str}(hb:rB d=↑b)(a:qR S.bn b=none):zm S d= .ref .unknown:=by
 cases d with
 |press b' deed ds=>cases hb;exact fY a
 |lose b'=>cases hb;exact aY a
 |tear b'=>cases hb;exact aY a
 |turnB b'=>cases hb;exact aY a
 |_=>cases hb
def HE(H:Hp)(p:Δ)(a:Ha):Hd->Prop
 | .press _ deed ds=>∃q,H p=↑(.tup [.int deed,-q])/\Sq [] H q (ds.map V.str)/\q∉hF a/\ZO deed/\ds.length<=5
 |_=>True
inductive ux(K:ι)(CB CD:Δ)(ws:Α)|mk (a:Ha)(S:Hs)(n j:Nat)(u:Rg)(B:Bt)(p:Δ)(d:Hd)(h1:vs=[-a.ma,.str (qX d),-u.p,-p])(h2:Ou K CB CD none H a S)(h3:OJ n S)(h4:n<=900000)(h5:a.bs[j]? =↑u)(h6:S.bs[j]? =↑B)(h7:rB d≠none)(h8:qX d∈ws)(h9:HE H p a d)(h10:P7 K CB CD H a S (tz S j B d) Q)
def tW{S:Hs}{n:Nat}(h:n<=S.ds.length):n<=(Qr S (zm S d)).ds.length:=by
 cases e:zm S d with
 |ref r=>exact h
 |ok S' o=>exact Lc h (bW e).1
def Cr(hw:qX d="add_door"):1<=(Qr S (zm S d)).ds.length:=by
 cases d with
 |addD nm near far most=>
  have e:zm S (.addD nm near far most)=if(qR S.dn nm).isSome=true then OZ.ref .known else .ok {S with ds:=S.ds++[Zu S nm near far most]} .non:=Z
  rw[e];split
  .rename_i h
   let#[i,hi]:=Mw.mp h
   have:=iX hi
   unfold Hs.dn at this;rw[JI]at this
   show 1<=S.ds.length
   omega
  .show 1<=(S.ds++[_]).length
   rw[J0];exact Nat.le_add_left _ _
 |_=>exact absurd (show(_:Str)=_ from hw) (by show¬((_:Str)=_);first|exact(show¬(("add_button":Str)="add_door") by decide +kernel)|exact(show¬(("teach":Str)="add_door") by decide +kernel)|exact(show¬(("press_button":Str)="add_door") by decide +kernel)|exact(show¬(("play_kept":Str)="add_door") by decide +kernel)|exact(show¬(("lose_cell":Str)="add_door") by decide +kernel)|exact(show¬(("tear_cell":Str)="add_door") by decide +kernel)|exact(show¬(("turn_house":Str)="add_door") by decide +kernel)|exact(show¬(("turn_button":Str)="add_door") by decide +kernel)|exact(show¬(("close_ages":Str)="add_door") by decide +kernel)|exact(show¬(("forget_at":Str)="add_door") by decide +kernel))
inductive sk(K:ι)(CB CD C:Δ)|mk (sc:Δ)(ns:Ε)(g:Bool)(h1:vs=[-sc,.bl g])(h2:OA K H sc (ns.map V.int))(h3:∀q b aH aO S H',H' q=↑(.tup [-b,-aH.ma,-aO.ma])->Hb K CB CD C H H' b 1000 aH aO S 30->1<=S.ds.length->Q (-q) H')
inductive R4 (K:ι)(C:Δ)(x:Xa)(vs:Β)(H:Hp)(Q:VK)(E:XK):Prop
 |mk (a:Da)(D:Dr)(L:Τ)(nm:Str)(h1:vs=[-a.p,.str nm])(h2:OO K C H a D L)(h3:L.length<=1000000)(h4:(D.kn.lookup nm=none->OH E H x.u))(h5:(D.kn.lookup nm≠none->∀H',Mv [a.bd,a.lg] H H'->OO K C H' a {D with kn:=D.kn.filter λp=>decide (p.1≠nm)} (L++[.forget nm])->Q .non H'))
def gq(K:ι)(C:Δ)(x:Xa):Sp:=λa H Q E=>R4 K C x a H Q E
def E9{K:ι}:∀c H Q E,lQ K C c H Q E->gq K C x c H Q E0:=by
 rintro c H Q E ⟨a,D,L,nm,e,h,l,d,q⟩
 exact#[a,D,L,nm,e,h,l,λz=>absurd z d,λ_=>q _ _ (JJ d)]
end L3
namespace Lw
open PySem L2 L3
section
variable{K:ι}{tk:Nat->Tok}
noncomputable abbrev yi(a c:Δ)(r:List (Str×V)):List (Str×V):=("table",V.ref a)::("house_keys",V.ref c)::("least_age",V.int 0)::r
noncomputable abbrev vO(a c d b:Δ)(r:List (Str×V)):List (Str×V):=yi a c (("doors",V.ref d)::("buttons",V.ref b)::r)
def mT(a:O7 K C "__init__" "House.__init__" a9 ["self","table","key"])(T:ON K mg tk)(U:Ro K C):Mf P w K mg base C "__init__" ["self","table","key"] 1 (oy K CB CD C):=by
 refine a.mq lK λf _ A _ s H vs Q E hr h=>?_
 .let#[p,t,k,dx,tt,ks,rfl,hp,hT,hk,q]:=h
  exists _,(qg (zt (qv 0) (qI Zg T.b_tuple J8 (qc (qv 1) qa)))
   (qg (zt (qv 0) (ze (qc (qI Zf T.b_tuple J8 (qc (qv 2) qa)) qa)))
   (qg (zt (qv 0) qj)
   (qg (zt (qv 0) Z9)
   (qg (zt (qv 0) Z9)
   (qg (zt (qv 0) (ze qa))
   (qh (zt (qv 0) Z9))))))))
  refine#[0,t,0,hT,λta H1 s1 ht=>#[0,p,0,ae [("table",V.ref ta)] U.cl (s1 _ _ hp) U.n_table 0,?_]]
  have e1:=s1 _ _ hp;have m1:Mv [p] H (Ot H1 p (.ins C dx [("table",V.ref ta)])):=s1.mv.trans Mv.upd1
  have b6:RU (Ot H1 p (.ins C dx [("table",V.ref ta)])) k ks:=(RU.same s1 hk).mv Mv.upd1 (NT.one e1 trivial) (zr (λz=>by
   rcases RU.same s1 hk with q|q|⟨o,q⟩<;>(rw[z,e1]at q;cases q)))
  have b2:=Qe (o:= .ins C dx [("table",V.ref ta)]) e1 ht
  have L:(Ot H1 p (.ins C dx [("table",V.ref ta)])) p=↑(.ins C dx [("table",V.ref ta)]):=qb
  generalize Ot H1 p (.ins C dx [("table",V.ref ta)])=G1 at m1 b6 b2 L⊢
  refine#[0,k,ks,Z,b6,λkt H2 s2 c6=>#[Ob,λc B=>#[0,p,0,ae [("table",V.ref ta),("house_keys",V.ref c)] U.cl (Oq.upd B _ _ (s2 _ _ L)) U.n_house_keys 1,?_]]]
  have u2:=Oq.upd (o:= .lst [-kt]) B
  have a0:=s2.trans u2;have N:=a0 _ _ L;have m2:Mv [p] G1 (Ot (Ot H2 c (.lst [-kt])) p (.ins C dx [("table",V.ref ta),("house_keys",V.ref c)])):=a0.mv.trans Mv.upd1
  have M:c≠p:=λz=>by rw[z,s2 _ _ L]at B;cases B
  have f1:H c=none:=IQ (m1.trans s2.mv) B M
  have c3:(Ot (Ot H2 c (.lst [-kt])) p (.ins C dx [("table",V.ref ta),("house_keys",V.ref c)])) c=↑(.lst [-kt]):=by rw[qk M];exact qb
  have O:=(Mv.upd1 (a:=p) (o:= .ins C dx [("table",V.ref ta),("house_keys",V.ref c)])).rd (NT.one N trivial) (Rd.same u2 c6)
  have b7:=Qe (o:= .ins C dx [("table",V.ref ta),("house_keys",V.ref c)]) N (Oq.sqt a0 b2)
  have a5:(Ot (Ot H2 c (.lst [-kt])) p (.ins C dx [("table",V.ref ta),("house_keys",V.ref c)])) p=↑(.ins C dx [("table",V.ref ta),("house_keys",V.ref c)]):=qb
  have b1:=m1.trans m2;generalize Ot (Ot H2 c (.lst [-kt])) p (.ins C dx [("table",V.ref ta),("house_keys",V.ref c)])=G2 at b1 c3 O b7 a5⊢
  exists 0,p,0,ae (yi ta c []) U.cl a5 U.n_least_age 2
  have x:∀{G:Hp} {fs:List (Str×V)} (i:List (Str×V)),G p=↑(.ins C dx fs)->Mv [p] H G->OC K G ta (tt.map V.int)->G c=↑(.lst [-kt])->Rd G kt (.tup (ks.map V.int))->∃l,Ot G p (.ins C dx i)=l/\Mv [p] G l/\Mv [p] H l/\OC K l ta (tt.map V.int)/\l c=↑(.lst [-kt])/\Rd l kt (.tup (ks.map V.int))/\l p=↑(.ins C dx i):=λi e m t h r=>
   #[0,Mv.upd1,m.trans Mv.upd1,Qe e t,by rw[qk M];exact h,Mv.upd1.rd (NT.one e trivial) r,qb]
  have g:∀{G:Hp} {fs:List (Str×V)} {z:Δ} (o:HO) (i:List (Str×V)),G p=↑(.ins C dx fs)->Mv [p] H G->OC K G ta (tt.map V.int)->G c=↑(.lst [-kt])->Rd G kt (.tup (ks.map V.int))->G z=none->∃l,Ot (Ot G z o) p (.ins C dx i)=l/\z≠p/\z≠c/\H z=none/\Mv [p] G l/\Mv [p] H l/\OC K l ta (tt.map V.int)/\l c=↑(.lst [-kt])/\Rd l kt (.tup (ks.map V.int))/\l z=↑o/\l p=↑(.ins C dx i):=λ{G fs z} o i e m t h r R=>by
   have nz:z≠p:=λq=>by rw[q,e]at R;cases R
   have u:=Oq.upd (o:=o) R
   let#[_,rfl,g',m',t',h',r',e']:=x i (u _ _ e) (m.trans u.mv) (Oq.sqt u t) (u _ _ h) (Rd.same u r)
   exact#[0,nz,λq=>(by rw[q,h]at R;cases R),IQ m R nz,u.mv.trans g',m',t',h',r',by rw[qk nz];exact qb,e']
  let#[G3,J,_,m3,t3,h3,r3,c2]:=x (yi ta c []) a5 b1 b7 c3 O
  rw[J];refineλdd c0=>#[0,p,0,ae (yi ta c [("doors",V.ref dd)]) U.cl (Oq.upd c0 _ _ c2) U.n_doors 3,?_]
  let#[G4,J,I,d1,c4,g4,m4,t4,h4,r4,d,c1]:=g (.dK []) (yi ta c [("doors",V.ref dd)]) c2 m3 t3 h3 r3 c0
  rw[J];refineλbd F=>#[0,p,0,ae (vO ta c dd bd []) U.cl (Oq.upd F _ _ c1) U.n_buttons 4,?_]
  let#[G5,J,a2,d4,d0,g5,m5,t5,h5,r5,n,b4]:=g (.dK []) (vO ta c dd bd []) c1 m4 t4 h4 r4 F
  rw[J];have a1:dd≠bd:=λz=>by rw[<- z,d]at F;cases F
  have d:=g5 _ _ (zr I) d;refine#[Oa,λS v=>#[0,p,0,ae (vO ta c dd bd [("kept",V.ref S)]) U.cl (Oq.upd v _ _ b4) U.n_kept 5,?_]]
  let#[G6,J,b0,d5,d7,g6,m6,t6,h6,r6,D,b3]:=g (.lst []) (vO ta c dd bd [("kept",V.ref S)]) b4 m5 t5 h5 r5 v
  rw[J];have a4:dd≠S:=λz=>by rw[<- z,d]at v;cases v
  have W:bd≠S:=λz=>by rw[<- z,n]at v;cases v
  have d:=g6 _ _ (zr I) d;have n:=g6 _ _ (zr a2) n;refineλod j=>#[0,p,0,ae (vO ta c dd bd [("kept",V.ref S),("opened",V.ref od)]) U.cl (Oq.upd j _ _ b3) U.n_opened 6,?_]
  let#[G7,J,d2,d6,d3,g7,m7,t7,h7,r7,c5,b5]:=g (.dK []) (vO ta c dd bd [("kept",V.ref S),("opened",V.ref od)]) b3 m6 t6 h6 r6 j
  rw[J];have a3:dd≠od:=λz=>by rw[<- z,d]at j;cases j
  have Y:bd≠od:=λz=>by rw[<- z,n]at j;cases j
  have X:S≠od:=λz=>by rw[<- z,D]at j;cases j
  have d:=g7 _ _ (zr I) d;have n:=g7 _ _ (zr a2) n;have D:=g7 _ _ (zr b0) D;refine q #[p,ta,c,dd,bd,od,S,[],[]] G7 Z m7 (λz R=>?_) (Ou.new (kt:=kt) #[dx,b5] t7 h7 r7 d n D c5 #[_,b5,trivial] ?_)
  .rcases OQ.mp R with(z|z|z|z|z|z)|⟨y,hy,_⟩|⟨y,hy,_⟩
   .exact .inl z
   .exact .inr (by rw[z];exact f1)
   .exact .inr (by rw[z];exact c4)
   .exact .inr (by rw[z];exact d0)
   .exact .inr (by rw[z];exact d3)
   .exact .inr (by rw[z];exact d7)
   .cases hy
   .cases hy
  .simp only[LF,JO,JX,JY,not_or,Nn,and_true]
   exact#[#[M.symm,I.symm,a2.symm,b0.symm,d2.symm],#[d1.symm,d4.symm,d5.symm,d6.symm],#[a1,a4,a3],#[W,Y],X,trivial,ME]
def fZ(a:O7 K C "turn_house" "House.turn_house" Zn ["self","key"])(T:ON K mg tk)(U:Ro K C)(XC:Rp K mg x fI)(UD:PB K CD)(xC:Mf P w K mg base CD "turn_key" W0 1 (kA K CD)):My P w K mg base C "turn_house" W0 2 (nW K CB CD C x):=by
 refine a.my Pq λf _ A _ s H vs Q E hr h=>?_
 .let#[c,S,n,F,ks,rfl,d,ok,n9,hk,X,k8,dr,dq]:=h
  exists _,(qg (qA (qw eD (qq qN T.b_len Ld (qc (qz (qv 0)) qa)) (zh (v:= .int 8) Z T.g_AGES #[0]) (qy _)) (qh (Qu Qd Z Z LG Z XC.g_TooMany XC.e_TooMany (qc qi qa) Z)) qp)
   (qg (fB (Qc fj Z (nB (gJ (qz (qv 0)))) (qB (i:=2) Pq.nd Z (SF Z))
   (qh (qJ (zb xC UD.cl hr.mo (qv 2) (qc (qv 1) qa))))))
   (qh (qJ (Qw Lk Lx Ly zy (qz (qv 0)) (qc (qI Zf T.b_tuple J8 (qc (qv 1) qa)) qa))))))
  let#[as,I,D,j]:=id d.at_.ks;exists 0,c.ma,0,d.h_keys U,c.hk,0,.inl (OA.of I),12
  rw[JI,D]
  by_cases h8:8<=S.kss.length
  .refine Qb (JM (by omega)) ?_
   exact#[Ob,λa R=>OH.mk (dr .toomany (JK h8)) (Oq.refl _) R]
  have dq:=dq _ _ (JJ h8);refine zz (JT (by omega)) ?_
  refine#[0,c.ma,0,d.h_doors U,c.dd,17,d.at_.dd,λL p=>#[L,c.dd,0,qb,Oq.upd p _ _ d.at_.dd,λo=>?_]]
  have J:=Oq.upd (o:=iw L c.dd) p
  have O:=d.same J;have l:=RU.same J hk;generalize Ot H L (iw L c.dd)=H1 at J O l⊢
  refine cp O (cy ks) (λy=>rfl) (λσ=>∃W,σ=[↑(-c.ma),↑(-F),W]) #[0] (λHx=>RU Hx F ks) (l.mv (Mv.upd1 (a:=c.dd)) (NT.one O.at_.dd trivial) (zr (λz=>X (z▸cC)))) ?_ ?_
  .rintro i z y σ Hx hz hy ⟨W,rfl⟩ M dl N hN
   have Y:=ok.dr y (JU hy);have ll:=Y.ll;refine#[0,z.a.p,Z,dl.dr.no,0,z.a,y.D,y.L,F,ks,Z,dl,by omega,by rw[Y.k];omega,M,k8,λD2 r g H2 e d2=>?_]
   have g:(if y.D.kss.length<8 then ↑(({y.D with kss:=y.D.kss++[ks]}:Dr),Rw.turn ks)else none)=↑(D2,r):=g
   rw[JK (by rw[Y.k];omega)]at g
   cases g;exact hN _ _ #[0] (M.mv (Eu e) dl.nt (λq=>X (mL hz q))) (Eu e) d2
  .rintro σ Hx ⟨W,rfl⟩ M ex e G
   exists c.dd,o,_,ex,λo' u' q=>by(have q:H c.dd=↑(.frz o' u'):=q;rw[d.at_.dd]at q;cases q)
   have e:=J.mv.trans e;have m:=M.mv (Mv.upd1 (a:=c.dd) (o:= .dK (zv O8.nm (λx=>V.ref x.a.p) c.ds))) (NT.one ex trivial) (zr (λz=>X (z▸cC)))
   generalize Ot Hx c.dd (.dK (zv O8.nm (λx=>V.ref x.a.p) c.ds))=H2 at G e m⊢
   let#[as,I,D,j]:=id G.at_.ks;refine#[0,c.ma,0,G.h_keys U,.inl #[25,OA.of I],0,F,ks,Z,m,λt H3 B ht=>?_]
   have h3:=G.same B;have u:=B _ _ I;exists c.hk,4,u,by rw[JI,D,JV];show S.kss.length<_;omega
   have k3:=ml u D (λi a ks h1 g=>Oq.sqt B (j i a ks h1 g)) (.inl ht)
   have h4:=h3.key k3;exact dq .non c _ ((e.trans B.mv).trans (bC lO Mv.upd1)) PZ.refl Z h4 Z
def gf(a:O7 K C "close_ages" "House.close_ages" Zy ["self","age"])(T:ON K mg tk)(U:Ro K C)(D:Rp K mg x fI)(W:PB K CD)(M:Mf P w K mg base CD "close_below" X2 1 (c7 K CD)):My P w K mg base C "close_ages" X2 2 (tj K CB CD C x):=by
 refine a.my Pt λf _ A _ s H vs Q E G h=>?_
 .let#[c,S,n,age,rfl,e,ok,n9,X,dq]:=h
  exists _,(qg (qA (Qg (kN cB jB qj (qv 1) (qq qN T.b_len Ld (qc (qz (qv 0)) qa)))) (qh (Qu Qd Z Z LG Z D.g_Unknown D.e_Unknown (qc qi qa) Z)) qp)
   (qg (fB (Qc fj Z (nB (gJ (qz (qv 0)))) (qB (i:=2) Pt.nd Z (SF Z))
   (qh (qJ (zb M W.cl G.mo (qv 2) (qc (qv 1) qa))))))
   (qh (zt (qv 0) (qq (jf Z) T.b_max NO (qc (qz (qv 0)) (qc (qv 1) qa)))))))
  let#[as,Y,J,I]:=id e.at_.ks;have l:¬(0<=age/\age<S.kss.length)->∀a,H a=none->E (-a) none (Ot (Ot H a (RE a (-x.u) none)) a (Rl a (-x.u) none)):=λq a d=>OH.mk (X .unknown (JJ q)) (Oq.refl _) d
  refine#[16,qL (λg=>?_) (λg=>?_)]
  case refine_2=>
   have g:¬(0<=age):=λq=>g (JM q)
   refine#[0,zZ ?_]
   exact#[Ob,λa d=>l (λq=>g q.1) a d]
  have g:0<=age:=J5 g
  exists 0,c.ma,0,e.h_keys U,c.hk,0,.inl (OA.of Y),12
  rw[JI,J]
  by_cases p:age<(S.kss.length:Int)
  case neg=>
   refine Qb (by rw[JT p];rfl) ?_
   exact#[Ob,λa d=>l (λq=>p q.2) a d]
  have dq:=dq _ _ (JK #[g,p]);refine zz (by rw[JM p];rfl) ?_
  refine#[0,c.ma,0,e.h_doors U,c.dd,17,e.at_.dd,λt m=>#[t,c.dd,0,qb,Oq.upd m _ _ e.at_.dd,λo=>?_]]
  have B:=Oq.upd (o:=iw t c.dd) m
  have F:=e.same B;generalize Ot H t (iw t c.dd)=H1 at B F⊢
  refine cp F (bV age) (λy=>rfl) (λσ=>∃v,σ=[↑(-c.ma),↑(.int age),v]) #[0] (λHx=>True) trivial ?_ ?_
  .rintro i z y σ Hx hz hy ⟨v,rfl⟩ _ dl N hN
   have ll:=(ok.dr y (JU hy)).ll;refine#[0,z.a.p,Z,dl.dr.no,0,z.a,y.D,y.L,age,Z,dl,by omega,λD2 r h2 H2 j d2=>?_]
   cases h2;exact hN _ _ #[0] trivial (GB j) d2
  .rintro σ Hx ⟨v,rfl⟩ _ ex j u
   exists c.dd,o,_,ex,λo' u' q=>by(have q:H c.dd=↑(.frz o' u'):=q;rw[e.at_.dd]at q;cases q)
   have j:=B.mv.trans j;generalize Ot Hx c.dd (.dK (zv O8.nm (λx=>V.ref x.a.p) c.ds))=H2 at u j⊢
   let#[H3,O,R,L]:=u.leastI U (if age>S.least then age else S.least)
   exists 0,c.ma,0,u.h_least U,29,c.ma,0,O
   exact dq .non c _ (j.trans (bC jy R)) PZ.refl Z L Z
def mE(a:O7 K C "forget" "Door.forget" b9 ["self","name"])(T:ON K mg tk)(U:PB K C)(M:Rp K mg x fI):My P w K mg base C "forget" u0 1 (gq K C x):=by
 refine a.my og λf _ A _ s H vs Q E R h=>?_
 .let#[#[p,ta,hk,bd,lg],D,L,nm,rfl,#[b,#[rs,F,J],O],n1,S,q]:=h
  simp only at b F O q
  exists _,(qg (qA (bO R (qv 1) (qz (qv 0))) (qh (Qu Qd Z Z LG Z M.g_Unknown M.e_Unknown (qc qi qa) Z)) qp)
   (qg (qJ (C9 (qz (qv 0)) (qv 1)))
   (qh (qJ (Qw Lk Lx Ly zy (qz (qv 0)) (qc (qD (qc qi (qc (qv 1) qa))) qa))))))
  rcases b.kb.get nm with⟨e,g⟩|⟨e,xx,N,g,hx⟩
  .refine#[2,p,0,b.h_buttons U,bd,0,g,0,zZ ?_]
   exact#[Ob,λa t=>(S e).mk (Oq.refl _) t]
  have q:=q (by rw[N];intro z;cases z)
  refine#[2,p,0,b.h_buttons U,bd,0,g,0,zu ?_]
  let#[y,l,Y,u,X]:=id b.kb;let#[kvs,i,m]:=b.kb.drop nm;have G:kvs=cM y.1 y.2:=by rw[l]at i;injection i with z;injection z with z;exact z.symm
  have W:QM kvs (SJ nm:qO)=↑(.ref (y.2 nm)):=by rw[G,nZ,jY u X,N];rfl
  exists 0,p,0,b.h_buttons U,bd,Z,.inl #[_,.inl l],0,kvs,.inr nm,_,i,Z,W
  have I:=b.putK Mv.upd1 m;have B:Mv [bd] H (Ot H bd (.dK (di kvs (SJ nm)))):=Mv.upd1
  have d:=B _ _ (zr (zn F l (by intro z;cases z))) F
  have v:=J.mv B (NT.one l trivial);refine#[0,p,0,I.h_log U,.inl #[25,OA.of d],0,Oc,λr n=>?_]
  have j:=Oq.upd (o:= .tup [.str "forget",.str nm]) n
  have b7:=I.same j;exists lg,4,j _ _ d,by rw[JI,J.1,JV];omega
  exact q _ (((Mv.upd1.mono (λc h z=>h (by rw[JN.mp z];exact J3 ..))).trans j.mv).trans (Mv.upd1.mono (λc h z=>h (by rw[JN.mp z];exact F0 _ (J3 ..))))) (OO.push (a:=#[p,ta,hk,bd,lg]) b7 (j _ _ d) (v.same j) ((OP.mv B (NT.one l trivial) (zr (wK l b)) O).same j) (show RI _ r (.forget nm)from .inl qb))
end
end Lw
namespace L3
open PySem PySem.Spec PyProof.Rows L2
def aT{a b:Str}{i:Decidable (V.str a=V.str b)}(h:@decide _ i=true):a=b:=by injection J5 h
noncomputable def IV(q:Δ):Hd->Β
 | .addD nm near far most=>[.str nm,.int near,.int far,.int most]
 | .addB nm step=>[.str nm,.int step]
 | .teach d b=>[.str d,.str b]
 | .press b deed ds=>[.str b,.int deed,-q]
 | .play k d=>[.int k,.str d]
 | .lose b=>[.str b]
 | .tear b=>[.str b]
 | .turnH ks=>[-q]
 | .turnB b=>[.str b]
 | .close age=>[.int age]
 | .forget d b=>[.str d,.str b]
def Jy(Z:Η)(H:Hp)(q:Δ):Hd->Prop
 | .press b deed ds=>Sq [] H q (ds.map V.str)/\q∉Z
 | .turnH ks=>H q=↑(.tup (ks.map V.int))
 |_=>True
def Rv.cells{Z:Η}(h:Rv Z H l d):∃q,H l=↑(.tup (.str (qX d)::IV q d))/\Jy Z H q d:=by
 cases d with
 |press b deed ds=>let#[p,h1,a]:=h;exact#[p,h1,a]
 |turnH ks=>let#[p,h1,a]:=h;exact#[p,h1,a]
 |_=>exact#[(0),h,trivial]
def Bq{K:ι}(h:OP [] H hk a){z:Int}(m:0<=z)(n:z<a.length):∃(c:Η) (t:Δ),H hk=↑(.lst (c.map V.ref))/\c.length=a.length/\Q3 (c.map V.ref) z=↑(-t)/\Sq K H t ((a.getD z.toNat []).map V.int):=by
 let#[c,l,i,d]:=h;have h1:z.toNat<c.length:=by lia
 have g:z.toNat<a.length:=by lia
 have f:=JQ h1;have e:(z.toNat:Int)=z:=by lia
 refine#[c,c[z.toNat],l,i,?_,.inr (OC.up (d _ _ _ f ?_))]
 .have:=Qf (xs:=c.map V.ref) (j:=z.toNat) (v:= .ref c[z.toNat]) (by rw[JW,f];rfl)
  rw[e]at this;exact this
 .rw[Lj,JQ g];rfl
end L3
namespace Lw
open PySem L2 L3
section
variable{K:ι}{tk:Nat->Tok}
def kY(a:O7 K C "hear_at" "House.hear_at" aP ["self","door","number"])(T:ON K mg tk)(U:Ro K C)(UD:PB K CD)(xP:Mf P w K mg base CD "hear" V3 6 (nS K CD)):Mf P w K mg base C "hear_at" ["self","door","number"] 7 (jF K CB CD ↑C):=by
 refine a.mq PV λf _ A _ s H vs Q E G h=>?_
 .let#[o,S,n,nm,k,i,y,d,rfl,j,ok,n9,hi,m,I,q]:=h
  exists _,(qg (qC (i:=3) PV.nd Z (SF Z) (zb xP UD.cl G.mo (qH G (qz (qv 0)) (qv 1)) (qc (qE qS (qz (qv 0)) (qv 2)) qa)))
   (qg (qA (qw qQ (qE qT (qv 3) qj) qi (qy _)) (qh (qJ (Qw Lk Lx Ly zy (qH G (qz (qv 0)) (qv 1)) (qc (qv 2) qa)))) qp)
   (qh (qm (qv 3)))))
  rcases j.at_.gdd nm with⟨e,g⟩|⟨i',z,y',e,l,p,_,ey,g⟩
  .rw[hi]at e;cases e
  rw[hi]at e;cases e
  rw[m]at p;cases p
  have dl:=(j.at_.de i z y l m).1;let#[M,ek,lk,rk]:=id j.at_.kl;have hk:k<M.length:=by rw[lk];exact(JZ.mp I).1
  have g1:=JQ hk;have pa:=rk k _ d g1 I;have R:=ok.dr y (JU m);have ll:=R.ll;refine#[0,o.ma,0,j.h_doors U,0,o.dd,0,g,z.a.p,Z,dl.dr.no,0,o.ma,0,j.h_kept U,0,o.kl,8,.ref M[k],9,OA.of ek,Qf (by rw[JW,g1];rfl),z.a,y.D,y.L,.ref M[k],↑d,Z,dl,by lia,R.ok,#[0,pa,ok.kp d (JU I)],(λh=>nomatch h),λP' eP pr O H1 _ F _ c Y=>?_]
  cases eP;let#[N,J]:=j.heard (k:=k) l m F Y
  let#[t,r,W]:=mP y.D d;have x:=c;rw[W]at x;have X:jl (zd y.D d).1=decide (t="open"):=by rw[W];rfl
  exists 0,O,8,.str t,9,OC.of x,(show Q3 (V.str t::r) ((0:Nat):Int)=↑(.str t)from Qf Z),7
  by_cases B:t="open"
  .have h1:=j.door l m (cj F) Y
   rcases h1.at_.god nm with⟨e,_⟩|⟨i',z',y',e,v,_,_,_,g3⟩
   .rw[show(S.setD i {y with D:={y.D with kn:=(zd y.D d).2},L:=y.L++[.hear d (zd y.D d).1]}).dn=S.dn from Qi m Z,hi]at e;cases e
   rw[show(S.setD i {y with D:={y.D with kn:=(zd y.D d).2},L:=y.L++[.hear d (zd y.D d).1]}).dn=S.dn from Qi m Z,hi]at e;cases e
   rw[l]at v;cases v
   let#[u,h2]:=J (by rw[X,JM B]) (by rw[ey];exact g3)
   refine Qb (JM (by rw[B])) ?_
   have u:H1 z.ol=↑(.lst (y.op.map λn:Nat=>V.int (n:Int))):=u
   have lo:=R.lo;exists 0,o.ma,0,h1.h_opened U,0,o.od,0,g3,.inl #[25,OA.of u],0,z.ol,4,u,by rw[JI,JV];lia
   rw[show(y.op.map (λn:Nat=>V.int (n:Int))++[V.int (k:Int)])=(y.op++[k]).map λn:Nat=>V.int (n:Int) by rw[La];rfl]
   refine#[0,q O _ ((cm l (cj F)).trans (bC (lT l) Mv.upd1)) h2 ?_]
   rw[qk (λz=>by rw[z,u]at c;cases c)];exact c
  .refine zz (JT (by intro z;injection z with z;exact B z)) ?_
   exact#[0,q O _ (cm l (cj F)) (N (by rw[X,JT B])) c]
def im(a:O7 K C "lose_cell" "House.lose_cell" ZV ["self","button"])(T:ON K mg tk)(U:Ro K C)(G:Rp K mg x fI)(y:Rc K CB)(q:My P w K mg base C "button_named" u0 1 (fA K CB CD C x))(v:Mf P w K mg base CB "cell_out" q9 1 (rN K CB)):My P w K mg base C "lose_cell" W3 2 (vE K CB CD C x):=by
 refine a.my iM λf _ A _ s H F Q E m h=>?_
 .let#[l,S,n,bn,rfl,d,ok,z,t,dq]:=h
  exists _,(qh (qJ (qP v y.cl m.mo (zx q zj U.cl m.mo (qv 0) (qc (qv 1) qa)))))
  refine#[0,l.ma,Z,d.no,0,l,S,bn,Z,d,λe=>t .unknown (aY e),λj u p i=>?_]
  let#[D,B,c,g,_,_]:=d.at_.bix p;rw[i]at c;cases c
  let#[ta,ka,b]:=d.at_.be j u B i g
  exact#[u.p,Z,b.no,u.p,ta,ka,u.ce,B,Z,b,(ok.bt B (JU g)).ok,λH1 o r=>dq _ _ (bM p g) .non l H1 (lf i o) PZ.refl Z (d.btn i g o #[ta,ka,r] Z) Z]
def eY(a:O7 K C "press_button" "House.press_button" Q8 ["self","button","deed","doors"])(T:ON K mg tk)(U:Ro K C)(XC:Rp K mg x fI)(dH:My P w K mg base C "door_named" u0 1 (fw K CB CD C x))(dE:My P w K mg base C "button_named" u0 1 (fA K CB CD C x))(dO:My P w K mg base C "keep_press" V5 5 (ni K CB CD C x))(yP:Mf P w K mg base C "hear_at" ["self","door","number"] 7 (jF K CB CD ↑C)):My P w K mg base C "press_button" Y4 8 (tL K CB CD C x):=by
 refine a.my OT λf _ A _ s H vs Q E hr h=>?_
 .let#[c,S,n,bn,deed,p,ds,rfl,D,ok,n9,sq,np,Y,d5,M,dq]:=h
  exists _,(qg (Qc fj Z (fu (qv 3)) (qB (i:=4) OT.nd Z (SF Z))
   (qh (qJ (zx dH zj U.cl hr.mo (qv 0) (qc (qv 4) qa)))))
   (qg (qC (i:=5) OT.nd Z (Or.inr Z) (zx dO zj U.cl hr.mo (qv 0) (qc (zx dE zj U.cl hr.mo (qv 0) (qc (qv 1) qa)) (qc (qv 2) qa))))
   (qh (qm (qD (qc (qv 5) (qc (qI za T.b_tuple J8 (qc (QR (own:=["name"]) (fr:=["self","number"]) (js:=[0,5]) Z (fu (qv 3)) Z (BO Z Z) Z (DA Z nofun nofun nofun Z Z Z Z Z Z) (λ_ _ _ _=>qB (i:=0) (show SQ (["name","self","number"]:Α)from by decide +kernel) Z (SF Z) (.inr Z)) (λ_ _ _ _=>(zb yP U.cl hr.mo (qv 1) (qc (qv 0) (qc (qv 2) qa))))) qa)) qa)))))))
  refine jG (λN H'=>H'=H/\(∀nm∈ds,qR S.dn nm≠none)/\∃o,N=[↑(-c.ma),↑(.str bn),↑(.int deed),↑(-p),o,none]) (λD' b6 a1=>?_) ?_
  .exists 0
   refine Fi (K:=K) sq (λi σ Hx=>Hx=H/\(∀nm∈ds.take i,qR S.dn nm≠none)/\∃o,σ=[↑(-c.ma),↑(.str bn),↑(.int deed),↑(-p),o,none]) #[Z,(λnm h=>by simp at h),0] (λi σ H' h=>h.1▸SG.refl) ?_ ?_ Z
   .rintro i v σ Hx O ⟨rfl,d,o,rfl⟩
    rw[JW]at O;let#[nm,r,rfl]:=Lo.mp O;refine#[0,c.ma,Z,D.no,0,c,S,nm,Z,D,λe=>M .unknown ?_,λj z hj hz=>#[Z,λm L=>?_,0]]
    .show(match QB S.dn ds with
      |none=>OZ.ref .unknown
      |some is=>_)=_
     rw[kF (JU r) e]
    .rw[LP,r]at L
     rcases J1.mp L with L|L
     .exact d m L
     .rw[JN.mp L,hj];intro z;cases z
   .rintro σ Hx ⟨rfl,d,o,rfl⟩
    rw[JI,Mm]at d;exact a1 _ _ #[Z,d,o,Z]
  rintro N Hx ⟨rfl,d,o,rfl⟩
  let#[is,I]:=iW d;have G:=bP I;refine#[0,c.ma,Z,D.no,0,c.ma,Z,D.no,0,c,S,bn,Z,D,λe=>M .unknown (fY e),λj u hj hu=>?_]
  let#[u',B,R,hB,_,_]:=D.at_.bix hj;rw[hu]at R;cases R
  rw[eE hj hB]at M dq;unfold Z3 at M dq;rw[I]at M dq;refine#[0,c,S,n,j,u,B,deed,Z,D,ok,by lia,hu,hB,Y,λq=>M .worn (JK q),λH1 hc m1 h1=>?_]
  have dq:=dq _ _ (JJ (by lia))
  have b1:=ok.keep hB hc Y;have a2:Sq [] H1 p (ds.map V.str):=gU sq m1 D.at_.nt np
  have hk:(qW S j B deed).kp[S.kp.length]? =↑(qY B deed):=by show(S.kp++[_])[S.kp.length]? =_;simp
  exists 2,p,Z
  refine kI (K:=K) a2 (by rw[JI,JV];lia) (λi ys Hx=>Mv (hF c) H1 Hx/\Ou K CB CD ↑C Hx c (OE (qW S j B deed) S.kp.length is i).1/\∃xs:Η,ys=xs.map V.ref/\xs.length=i/\(OE (qW S j B deed) S.kp.length is i).2.length=i/\∀(k:Nat) (x:Δ) (l:Β),xs[k]? =↑x->(OE (qW S j B deed) S.kp.length is i).2[k]? =↑l->Hx x=↑(.tup l)) #[λ_ _ _ e=>e,h1,[],23,λk x l h=>by cases h] (λi ys H' h=>#[hF c,h.1,h1.at_.nt,np]) ?_ ?_
  .rintro i ys Hx v O a5 ⟨mx,F,xs,rfl,W,J,g⟩
   rw[JW]at O;let#[nm,r,rfl]:=Lo.mp O;let#[i',b2,b0]:=kj I r;have b5:i<ds.length:=(JZ.mp r).1
   let#[kd,kb,kp,kn]:=Z6 (qW S j B deed) S.kp.length is i
   have a3:(qW S j B deed).dn=S.dn:=Z
   have X:qR (OE (qW S j B deed) S.kp.length is i).1.dn nm=↑i':=by rw[kn,a3];exact b0
   let#[z,y,hz,hy,_,_]:=F.at_.dix X;have a0:(OE (qW S j B deed) S.kp.length is i).1.kp[S.kp.length]? =↑(qY B deed):=by rw[kp];exact hk
   have a4:=b1.hearN S.kp.length is i;have st:=lC b2 hy a0;refine#[0,c.ma,Z,F.no,2,c,8,nm,S.kp.length,i',y,0,F,a4,by lia,X,hy,a0,λq1 H2 m2 h2 e2=>?_]
   rw[st];refine#[mx.trans m2,h2,xs++[q1],by simp,by simp [W],by rw[J0,J];rfl,λk x l g1 g2=>?_]
   rcases bq (W.trans J.symm) g1 g2 with⟨g1,g2⟩|⟨rfl,rfl⟩
   .exact m2.tup F.at_.nt (g k x l g1 g2)
   .exact e2
  .rintro ys Hx a5 ⟨mx,F,xs,rfl,W,J,g⟩ lp b3
   rw[JI]at W J F g;have u1:=Oq.upd (o:= .lst (xs.map V.ref)) b3
   refine#[lp,0,.inl #[OA.of qb,λt ht=>#[Oc,λqt b4=>?_]]]
   have u2:=Oq.upd (o:= .tup (xs.map V.ref)) ht
   have u3:=Oq.upd (o:= .tup [.int (S.kp.length:Int),-t]) b4
   have U3:=(u1.trans u2).trans u3;rw[<- G]at F J g;refine dq (-qt) c _ ((m1.trans mx).trans U3.mv) PZ.refl Z (F.same U3) #[qt,t,xs,Z,qb,u3 _ _ qb,by rw[W,J,G],λk x l g1 g2=>U3 _ _ (g k x l g1 g2)]
def fL(a:O7 K C "turn_button" "House.turn_button" Zl ["self","button"])(T:ON K mg tk)(U:Ro K C)(D:Rp K mg x fI)(G:Rc K CB)(L:My P w K mg base C "button_named" u0 1 (fA K CB CD C x))(W:Mf P w K mg base CB "age_now" q9 1 (cY K CB))(dX:Mf P w K mg base CB "turn_key" W0 1 (nh K CB)):My P w K mg base C "turn_button" W3 2 (uB K CB CD C x):=by
 refine a.my OW λf _ A _ s H vs Q E p h=>?_
 .let#[g,S,n,bn,rfl,d,ok,n9,q,dq]:=h
  exists _,(qg (qC (i:=2) OW.nd Z (SF Z) (zx L zj U.cl p.mo (qv 0) (qc (qv 1) qa)))
   (qg (qC (i:=3) OW.nd Z (SF Z) (qF zo (qP W G.cl p.mo (qv 2)) qj))
   (qg (qA (qw eD (qv 3) (qq qN T.b_len Ld (qc (qz (qv 0)) qa)) (qy _)) (qh (Qu Qd Z Z LG Z D.g_Worn D.e_Worn (qc qi qa) Z)) qp)
   (qh (qJ (zb dX G.cl p.mo (qv 2) (qc (qE qS (qz (qv 0)) (qv 3)) qa)))))))
  refine#[0,g.ma,Z,d.no,0,g,S,bn,Z,d,λe=>q .unknown (aY e),λj u I o=>?_]
  let#[u',B,l,m,_,_]:=d.at_.bix I;rw[o]at l;cases l
  let#[ta,ka,b]:=d.at_.be j u B o m;have O:=ok.bt B (JU m);let#[as,Y,N,J]:=id d.at_.ks;have er:zm S (.turnB bn)=tz S j B (.turnB bn):=bM I m
  rw[er]at q dq;have a0:=O.a0;exists 0,u.p,Z,b.no,u.p,ta,ka,u.ce,B,Z,b,4
  exists 2,g.ma,0,d.h_keys U,g.hk,0,.inl (OA.of Y),12
  rw[JI,N]
  by_cases hk:(S.kss.length:Int)<=B.age+1
  .exact Qb (JM hk) #[Ob,λa r=>OH.mk (q .worn (JK hk)) (Oq.refl _) r]
  refine zz (JT hk) ?_
  have k8:=ok.k8;let#[R,y,v,_,e1,X]:=Bq (K:=K) d.at_.ks (show 0<=B.age+1 by lia) (show B.age+1<S.kss.length by lia)
  refine#[0,u.p,Z,b.no,0,g.ma,0,d.h_keys U,0,g.hk,8,-y,9,OA.of v,e1,u.p,ta,ka,u.ce,y,B,S.kss.getD (B.age+1).toNat [],Z,b,X,by lia,λt H1 F M=>?_]
  exact dq _ _ (JJ hk) .non g H1 (lf o (F.mono λc h z=>h (by rw[JN.mp z];exact J3 ..))) PZ.refl Z (d.btn o m (F.mono λc h z=>h (by rw[JN.mp z];exact J3 ..)) #[ta,t,M] Z) Z
def ip(a:O7 K C "forget_at" "House.forget_at" ZT ["self","door","button"])(T:ON K mg tk)(U:Ro K C)(I:Rp K mg x fI)(r:PB K CD)(v:My P w K mg base C "door_named" u0 1 (fw K CB CD C x))(t:My P w K mg base CD "forget" u0 1 (gq K CD x)):My P w K mg base C "forget_at" W5 2 (oX K CB CD C x):=by
 refine a.my jn λf _ A _ s H F Q E o h=>?_
 .let#[m,S,n,dn,bn,rfl,c,ok,D,l,dq]:=h
  exists _,(qh (qJ (zx t zj r.cl o.mo (zx v zj U.cl o.mo (qv 0) (qc (qv 1) qa)) (qc (qv 2) qa))))
  refine#[0,m.ma,Z,c.no,0,m,S,dn,Z,c,λe=>l .unknown (lA e),λi z hi g=>?_]
  let#[G,y,d,j,_,_]:=c.at_.dix hi;rw[g]at d;cases d
  have dl:=(c.at_.de i z y g j).1;have u:zm S (.forget dn bn)=if y.D.kn.lookup bn=none then OZ.ref .unknown else .ok (S.setD i (fD bn y)) .non:=iR hi j
  rw[u]at l dq;have B:=(ok.dr y (JU j)).ll
  exact#[z.a.p,Z,dl.dr.no,0,z.a,y.D,y.L,bn,Z,dl,by lia,λe=>l .unknown (JK e),λe H1 p q=>dq _ _ (JJ e) .non m H1 (cm g (cj p)) PZ.refl Z (c.door g j (cj p) q) Z]
def nE(a:At K mg "_law_refused" bY ["_law_word","_law_place"])(T:ON K mg tk):Df P w K mg base "_law_refused" X1 1 QX:=by
 refine a.dq om λf _ A _ s H e Q E d h=>?_
 .let#[g,v,rfl,q]:=h
  exists _,(qh (qm (qD (qc qi (qc (qv 0) (qc (qv 1) qa))))))
  exact#[2,Od,λt c=>q t c]
def wG(a:At K mg "_law_own" iC ["_law_table_here","_law_key_here"])(T:ON K mg tk):Df P w K mg base "_law_own" V9 1 (v6 K CB CD):=by
 refine a.dq wa λf _ A _ s H vs Q E hr h=>?_
 .let#[t,k,tt,ks,rfl,ht,hk,q]:=h
  exists _,(qh (qm (Fr (aa qi (qv 0) (aa qi (ze (qc (qv 1) qa)) (aa qi qj (aa qi Z9 (aa qi Z9 (aa qi (ze qa) (aa qi Z9 Fn))))))))))
  refineλp C=>?_
  have u1:=Oq.upd (o:= .dK []) C
  refine#[2,Ob,λg v=>?_]
  have L:=Oq.upd (o:= .lst [-k]) v
  refineλdd m=>?_
  have B:=Oq.upd (o:= .dK []) m
  refineλbd l=>?_
  have x:=Oq.upd (o:= .dK []) l
  refine#[Oa,λi r=>?_]
  have n:=Oq.upd (o:= .lst []) r
  refineλod u=>?_
  have j:=Oq.upd (o:= .dK []) u
  let#[fh,n1]:=un v;let#[d,n2]:=un m;let#[fd,I]:=un d;let#[d,n4]:=un l;let#[d,n5]:=un d;let#[fb,G]:=un d;let#[d,Y]:=un r;let#[d,n8]:=un d;let#[d,n9]:=un d;let#[fk,X]:=un d;let#[d,nb]:=un u;let#[d,nc]:=un d;let#[d,nd]:=un d;let#[d,ne]:=un d;let#[fo,S]:=un d;have M:=u1.trans (L.trans (B.trans (x.trans (n.trans j))));have O:=(L.trans (B.trans (x.trans (n.trans j)))) p _ qb;have U:=(B.trans (x.trans (n.trans j))) g _ qb;have N:=(x.trans (n.trans j)) dd _ qb;have R:=(n.trans j) bd _ qb;have W:=j i _ qb;have J:(Ot (Ot (Ot (Ot (Ot (Ot H p (.dK [])) g (.lst [-k])) dd (.dK [])) bd (.dK [])) i (.lst [])) od (.dK [])) od=↑(.dK []):=qb
  generalize Ot (Ot (Ot (Ot (Ot (Ot H p (.dK [])) g (.lst [-k])) dd (.dK [])) bd (.dK [])) i (.lst [])) od (.dK [])=H7 at M O U N R W J⊢
  exists O,Zz #[p,t,g,dd,bd,od,i,[],[]] 0,Z,by show 7<=15;decide
  rw[show aK [] (Zz #[p,t,g,dd,bd,od,i,[],[]] 0)=Zz #[p,t,g,dd,bd,od,i,[],[]] 0 from(sD (Zz #[p,t,g,dd,bd,od,i,[],[]] 0) [] (by rw[NF];exact lu)).trans (NF _)]
  have D:Oq H (Ot H7 p (.dK (Zz #[p,t,g,dd,bd,od,i,[],[]] 0))):=λc o e=>by rw[qk (qr e C)];exact M _ _ e
  refine q #[p,t,g,dd,bd,od,i,[],[]] _ D (λz hz=>?_) (Ou.new (kt:=k) qb (Oq.sqt D ht) (by rw[qk n1];exact U) (Rd.same D hk) (by rw[qk I];exact N) (by rw[qk G];exact R) (by rw[qk X];exact W) (by rw[qk S];exact J) #[_,qb,trivial] ?_)
  .rcases OQ.mp hz with(z|z|z|z|z|z)|⟨y,F,_⟩|⟨y,F,_⟩
   .rw[z];exact C
   .rw[z];exact fh
   .rw[z];exact fd
   .rw[z];exact fb
   .rw[z];exact fo
   .rw[z];exact fk
   .cases F
   .cases F
  .simp only[LF,JO,JX,JY,not_or,Nn,and_true]
   exact#[#[n1.symm,I.symm,G.symm,X.symm,S.symm],#[n2.symm,n5.symm,n9.symm,ne.symm],#[n4.symm,n8.symm,nd.symm],#[Y.symm,nc.symm],nb.symm,trivial,ME]
def sR(a:At K mg "_law_added" fg ["_law_own_here","_law_word","_law_name","_law_parts"])(T:ON K mg tk)(UD:PB K CD)(yU:Mi P w K mg base CB "Button" X5 1 (mV K CB))(yG:Mi P w K mg base CD "Door" x5 1 (sF K CD))(dG:Mf P w K mg base CD "close_below" X2 1 (c7 K CD))(dC:Df P w K mg base "_law_refused" X1 1 QX):Df P w K mg base "_law_added" X9 3 (ph K CB CD):=by
 refine a.dq Ry λf _ A _ s H vs Q E u h=>?_
 .let#[j,S,n,b5,nm,pp,d,rfl,I,ok,n9,hd,dq]:=h
  exists _,(qg (qC (i:=4) Ry.nd Z (SF Z) (qH u (qv 0) (qE qS (ze (qc qi (qc qi qa))) (qI oR T.b_int MV (qc (Qh qQ (qv 1) qi (qy _)) qa)))))
   (qg (qA (mS u (qv 2) (qv 4)) (qh (qm (qu dC u.mo (qc qi (qc zi qa))))) qp)
   (qg (qA (qw qQ (qv 1) qi (qy _)) (qh (Za u (qv 4) (qv 2) (bw yU u.mo (qc (qv 2) (qc (qH u (qv 0) qi) (qc (qE qS (qH u (qv 0) qi) (rE l7 qj)) (qc (qF Q4 (qq qN T.b_len Ld (qc (qH u (qv 0) qi) qa)) qj) (qc (qE qT (qv 3) qj) qa)))))))) (qg (Za u (qv 4) (qv 2) (bw yG u.mo (qc (qH u (qv 0) qi) (qc (qI za T.b_tuple J8 (qc (qH u (qv 0) qi) qa)) (qc (qE qT (qv 3) qj) (qc (qE qT (qv 3) qj) (qc (qE qT (qv 3) qj) qa)))))))
   (qg (Za u (qH u (qv 0) qi) (qv 2) (ze qa))
   (qh (qA (qw lZ (qH u (qv 0) qi) qj (qy _)) (qh (qJ (zb dG UD.cl u.mo (qH u (qv 4) (qv 2)) (qc (qH u (qv 0) qi) qa)))) qp)))))
   (qh (qm (qD (qc qi (qc zi qa))))))))
  rcases hd with⟨rfl,l,t,m,rfl,U⟩|⟨rfl,step,rfl,U⟩
  .refine#[0,Oc,λl1 L=>?_]
   have C:=Oq.upd (o:= .lst [.str "buttons",.str "doors"]) L
   have v:=I.same C;refine#[17,.inr #[0,l1,8,.str "doors",9,OA.of qb,by rw[JM Z];rfl,j.ma,0,v.g_doors,?_]]
   have D:=C _ _ U;generalize Ot H l1 (.lst [.str "buttons",.str "doors"])=H1 at C v D⊢
   rcases v.at_.gdd nm with⟨e,g⟩|⟨i,y,z,e,hy,_,_,_,g⟩
   case inr=>
    have O:zm S (.addD nm l t m)= .ref .known:=JK (by rw[e];rfl)
    rw[O]at dq;refine#[2,j.dd,0,g,0,zZ #[6,λq x=>?_]]
    exact dq q j _ (C.trans (Oq.upd x)).mv PZ.refl Z (v.same (Oq.upd x)) qb
   have O:zm S (.addD nm l t m)= .ok {S with ds:=S.ds++[Zu S nm l t m]} .non:=JJ (by rw[e];intro z;cases z)
   rw[O]at dq;refine#[2,j.dd,0,g,0,zu ?_]
   refine#[3,zz (JT (by intro z;injection z with z;revert z;decide +kernel)) ?_]
   let#[F,eh,la,J]:=id v.at_.ks;refine#[0,j.ma,0,v.g_table,0,j.ma,0,v.g_keys,j.hk,0,.inl #[OA.of eh,λkt b0=>?_]]
   have u2:=Oq.upd (o:= .tup (F.map V.ref)) b0
   have M:=u2 _ _ D;have o2:=v.same u2;refine#[0,pp,1,OC.of M,7,pp,1,OC.of M,7,pp,1,OC.of M,Z,λp dx hp R N=>?_]
   have a3:p≠dx:=N.symm
   have G:Oq _ (Ot (Ot (Ot H1 kt (.tup (F.map V.ref))) dx (.own p)) p (.ins CD dx [])):=(Oq.upd R).trans (Oq.upd (by rw[qk a3];exact hp))
   have o3:=o2.same G;have W:=C.trans (u2.trans G);have fp:H p=none:=Q0 hp (C.trans u2)
   refine#[p,j.ta,kt,dx,l,t,m,S.t,S.kss,Z,qb,.inr o3.at_.tb,#[F,OC.of (G _ _ qb),la,λi a ks h1 h2=>Oq.sqt (u2.trans G) (J i a ks h1 h2)],ok.k8,λta hk bd lg H4 fh fb fl m4 d4 k4=>#[Z,?_]]
   have b3:=Ox.dl d4 k4;have s4:Oq H H4:=Oq.mv_of W m4 (λc hc=>by rw[JN.mp hc];exact fp)
   have fd:∀z∈dS #[p,ta,hk,bd,lg],H z=none:=vh fp (Q0 fh W) (Q0 fb W) (Q0 fl W)
   have nd:=ok.nd;have l0:=ok.l0;let#[kvs,p1,r1]:=I.putD (y:=#[nm,#[S.t,S.kss,l,t,m,(0),[]],[],[]]) s4 b3 fd e Z (by lia)
   exists 2,j.dd,0,p1
   refine#[Oa,λol a0=>?_]
   let#[a1,p2,m6,gr,Y]:=r1 ol a0;have q4:H4 j.ma=↑(.dK (Zz j S.least)):=s4 _ _ I.mn
   have q5:(Ot (Ot H4 j.dd (.dK kvs)) ol (.lst [])) j.ma=↑(.dK (Zz j S.least)):=by
    have q:(Ot H4 j.dd (.dK kvs)) j.ma=↑(.dK (Zz j S.least)):=by rw[qk I.mne];exact q4
    rw[qk (qr q a0)];exact q
   exists 0,j.ma,0,xj (q:= .inr "opened") q5 6 Z,0,j.od,0,p2
   generalize Ot (Ot (Ot H4 j.dd (.dK kvs)) ol (.lst [])) j.od (.dK a1)=H6 at m6 Y⊢
   have a2:∀X:Hp,Mv (hF j) H X->Ou K CB CD none X {j with ds:=j.ds++[#[nm,#[p,ta,hk,bd,lg],ol]]} {S with ds:=S.ds++[Zu S nm l t m]}->∀q,X q=none->Q (-q) (Ot X q (.tup [.str "told",.non])):=λX m7 h7 q x=>dq q _ _ (m7.trans (Oq.upd x).mv) gr Z (h7.same (Oq.upd x)) #[.non,qb,Z]
   let#[gd,gx,gy]:=Y.lastD e I.dlen I.at_.dn;have q6:H6 j.ma=↑(.dK (Zz j S.least)):=Y.mn
   refine#[0,j.ma,0,xj (q:= .inr "shut") q6 2 Z,12,qL (λz=>?_) (λz=>?_)]
   .have z:0<S.least:=J5 z
    have a4:=(Y.at_.de _ _ _ gx gy).1;refine#[2,j.dd,0,gd,p,Z,a4.dr.no,0,j.ma,0,xj (q:= .inr "shut") q6 2 Z,#[p,ta,hk,bd,lg],_,[],S.least,Z,a4,Li _,λD2 r h2 X m7 d7=>?_]
    have h7:=Y.door gx gy (GB m7) d7;refine#[Oc,λq x=>a2 X (λc o hc ec=>m7 c o (λq=>?_) (m6 c o hc ec)) ?_ q x]
    .simp only[JO,JX,JY]at q
     rcases q with rfl|rfl
     .have:=fd _ (gT _);rw[ec]at this;cases this
     .have:=fd _ (cq _);rw[ec]at this;cases this
    .cases h2
     have e2:({S with ds:=S.ds++[Zu S nm l t m]}:Hs)=({S with ds:=S.ds++[#[nm,#[S.t,S.kss,l,t,m,(0),[]],[],[]]]}:Hs).setD S.ds.length #[nm,#[S.t,S.kss,l,t,m,if S.least>0 then S.least else 0,[]],[]++[.close S.least],[]]:=by
      show _=({S with ds:=(S.ds++[_]).set S.ds.length _}:Hs)
      rw[Fa,JK z];unfold Zu;rw[JK z];rfl
     rw[e2];exact h7
   .have z:¬0<S.least:=λy=>z (JM y)
    refine#[Oc,λq x=>a2 H6 m6 ?_ q x]
    have e2:Zu S nm l t m=#[nm,#[S.t,S.kss,l,t,m,(0),[]],[],[]]:=by unfold Zu;rw[JJ z,show S.least=0 by lia]
    rw[e2];exact Y
  .refine#[0,Oc,λl1 L=>?_]
   have C:=Oq.upd (o:= .lst [.str "buttons",.str "doors"]) L
   have v:=I.same C;refine#[17,.inr #[0,l1,8,.str "buttons",9,OA.of qb,by rw[JT (by intro z;injection z with z;revert z;decide +kernel)];rfl,j.ma,0,v.g_buttons,?_]]
   have D:=C _ _ U;generalize Ot H l1 (.lst [.str "buttons",.str "doors"])=H1 at C v D⊢
   rcases v.at_.gbd nm with⟨e,g⟩|⟨i,y,z,e,hy,_,_,_,g⟩
   case inr=>
    have O:zm S (.addB nm step)= .ref .known:=JK (by rw[e];rfl)
    rw[O]at dq;refine#[2,j.bd,0,g,0,zZ #[6,λq x=>?_]]
    exact dq q j _ (C.trans (Oq.upd x)).mv PZ.refl Z (v.same (Oq.upd x)) qb
   have O:zm S (.addB nm step)= .ok {S with bs:=S.bs++[eZ S nm step]} .non:=JJ (by rw[e];intro z;cases z)
   rw[O]at dq;refine#[2,j.bd,0,g,0,zu ?_]
   refine#[3,Qb (JM Z) ?_]
   let#[F,eh,la,J]:=id v.at_.ks;have k1:=ok.k1;have b1:S.kss.length-1<F.length:=by lia
   have ek:=JQ b1;have b4:S.kss[S.kss.length-1]? =↑(S.kss.getD (S.kss.length-1) []):=by
    rw[Lj,JQ (by lia)];rfl
   have sq:=J _ _ _ ek b4;have a5:Q3 (F.map V.ref) (-1)=↑(.ref F[S.kss.length-1]):=BA (by rw[JI,JW,la,ek];rfl)
   exists 2,j.ma,0,v.g_table,0,j.ma,0,v.g_keys,0,j.hk,8,.ref F[S.kss.length-1],9,OA.of eh,a5
   exists 0,j.ma,0,v.g_keys,j.hk,0,.inl (OA.of eh),12,pp,1,OC.of D,Z
   rw[JI,la];intro p dx hp R N;have G:Oq H1 (Ot (Ot H1 dx (.own p)) p (.ins CB dx [])):=(Oq.upd R).trans (Oq.upd (by rw[qk N.symm];exact hp))
   have o3:=v.same G;have W:=C.trans G;have fp:H p=none:=Q0 hp C
   refine#[p,j.ta,F[S.kss.length-1],dx,nm,(S.kss.length:Int)-1,step,S.t,S.kss.getD (S.kss.length-1) [],Z,qb,.inr o3.at_.tb,.inr (Oq.sqt G sq.up),λta ka ce H2 fc m2 b2=>#[Z,?_]]
   have s2:Oq H H2:=Oq.mv_of W m2 (λc hc=>by rw[JN.mp hc];exact fp)
   have nb:=ok.nb;let#[kvs,p1,m3,gr,h3]:=I.putB (B:=eZ S nm step) (p:=p) (ce:=ce) s2 #[ta,ka,b2] fp (Q0 fc W) e (by lia)
   exists 2,j.bd,0,p1
   exact#[Oc,λq x=>dq q _ _ (m3.trans (Oq.upd x).mv) gr Z (h3.same (Oq.upd x)) #[.non,qb,Z]]
def rh(a:At K mg "_law_taught" cZ ["_law_own_here","_law_gate","_law_button"])(T:ON K mg tk)(UB:Rc K CB)(UD:PB K CD)(dJ:Mf P w K mg base CD "known_now" q9 1 (gb K CD))(xW:Mf P w K mg base CD "bounds_told" q9 1 (p7 K CD))(xJ:Mf P w K mg base CD "learn" Y2 7 (jk K CD))(xV:Mf P w K mg base CB "name_told" q9 1 (vm K CB))(dB:Mf P w K mg base CB "count_now" q9 1 (Z8 K CB))(dD:Mf P w K mg base CB "age_now" q9 1 (cY K CB))(dM:Mf P w K mg base CB "press_once" Y7 4 (kM K CB))(dC:Df P w K mg base "_law_refused" X1 1 QX):Df P w K mg base "_law_taught" W8 8 (lj K CB CD):=by
 refine a.dq Ri λf _ A _ s H vs Q E g h=>?_
 .let#[m,S,n,i,j,z,y,u,B,rfl,ho,ok,n9,hz,W,hu,M,dq]:=h
  exists _,(qg (vH (i:=3) Ri.nd Z (SF Z) (own:=["_law_row"]) (fr:=[]) (js:=[]) Z (lL (qP dJ UD.cl g.mo (qv 1))) Z (λ_ _ h=>nomatch h) Z (gQ Z nofun nofun nofun) (λ_ _ _ _=>qB (i:=0) (show SQ (["_law_row"]:Α)from by decide +kernel) Z (SF Z) (.inr Z)) (λ_ _ _ _=>(qE (vU (K:=K) Z) (qv 0) qj)))
   (qg (qA (qw bT (qP xV UB.cl g.mo (qv 2)) (qv 3) (by rfl)) (qh (qm (qu dC g.mo (qc qi (qc zi qa))))) qp)
   (qg (qA (qw qQ (qq qN T.b_len Ld (qc (qv 3) qa)) (qE qT (qP xW UD.cl g.mo (qv 1)) qj) (qy _)) (qh (qm (qu dC g.mo (qc qi (qc zi qa))))) qp)
   (qg (qA (qw lZ (qP dB UB.cl g.mo (qv 2)) qj (qy _)) (qh (qm (qu dC g.mo (qc qi (qc zi qa))))) qp)
   (qg (qA (qw jB (qP dD UB.cl g.mo (qv 2)) (qH g (qv 0) qi) (qy _)) (qh (qm (qu dC g.mo (qc qi (qc qj qa))))) qp)
   (qg (qJ (Qw Lk Lx Ly zy (qH g (qv 0) qi) (qc (zb dM UB.cl g.mo (qv 2) (qc qj qa)) qa)))
   (qg (qJ (Qw Lk Lx Ly zy (qH g (qv 0) qi) (qc (zb dM UB.cl g.mo (qv 2) (qc qj qa)) qa)))
   (qg (qJ (zb xJ UD.cl g.mo (qv 1) (qc (qE qS (qH g (qv 0) qi) (rE l7 qj)) (qc (qE qS (qH g (qv 0) qi) (rE l7 qj)) qa))))
   (qh (qm (qD (qc qi (qc zi qa)))))))))))))
  have dl:=(ho.at_.de i z y hz W).1;let#[ta,ka,b]:=ho.at_.be j u B hu M;have C:=ok.bt B (JU M);have Y:=ok.dr y (JU W);have l:∀(Hx:Hp) (r:Rf),Oq H Hx->fH S i j y B= .ref r->∀q,Hx q=none->Q (-q) (Ot Hx q (.tup [.str "refused",.str (vf r),DX r])):=λHx r sx er q v=>by
   rw[er]at dq;exact dq q m _ (sx.trans (Oq.upd v)).mv PZ.refl Z (ho.same (sx.trans (Oq.upd v))) qb
  refine#[0,z.a.p,Z,dl.dr.no,z.a.p,z.a.ta,z.a.hk,z.a.bd,z.a.lg,y.L.length,y.D,Z,dl.dr,Y.ok,λkq ss H1 s1 pm so sh=>#[kq,Z,?_]]
  refine lR (K:=K) sh (λnm h=>pm.mem_iff.mp h) (by rw[pm.length_eq,JI];exact Y.ok.nl) (λHx a nm xs Q' e q'=>#[0,a,1,OC.of e,(show Q3 (V.str nm::xs) ((0:Nat):Int)=↑(.str nm)from Qf Z),q']) λkl H2 s2 X=>?_
  have S2:=s1.trans s2;have b2:=b.same S2;have a0:=dl.same S2;exists 0,u.p,Z,b2.no,u.p,ta,ka,u.ce,B,Z,b2,0,kl,0,.inl (OA.of X),Z,pI ss,0
  rw[JJ ⋯,kS]
  have D:B.nm∈ss↔y.D.kn.lookup B.nm≠none:=by
   rw[pm.mem_iff];constructor
   .intro h q;let#[e,he]:=Zd h;rw[q]at he;cases he
   .intro h
    cases q:y.D.kn.lookup B.nm with
    |none=>exact absurd q h
    |some e=>exact J7.mpr #[_,ZL q,Z]
  by_cases hk:y.D.kn.lookup B.nm≠none
  .exact Qb (JM (D.mpr hk)) #[6,λq v=>l H2 .known S2 (JK hk) q v]
  refine zz (JT (λq=>hk (D.mp q))) ?_
  have F:fH S i j y B=_:=JJ hk
  have d5:y.D.kn.lookup B.nm=none:=Classical.not_not.mp hk
  have c6:ss.length=y.D.kn.length:=by rw[pm.length_eq,JI]
  refine#[0,kl,0,.inl (OA.of X),0,z.a.p,Z,a0.dr.no,z.a.p,z.a.ta,z.a.hk,z.a.bd,z.a.lg,y.L.length,y.D,Z,a0.dr,λbt H3 s3 d2=>?_]
  exists bt,1,OC.of d2,36
  have I:=S2.trans s3;rw[JI,c6];have d7:=Y.m
  by_cases hf:y.D.most<=(y.D.kn.length:Int)
  .refine Qb (JM (by congr 1;lia)) #[6,λq v=>l H3 .full I (by rw[F];exact JK hf) q v]
  refine zz (JT (by intro q;injection q with q;lia)) ?_
  rw[JJ hf]at F;have L:=b.same I;have e1:=dl.same I;have o3:=ho.same I;refine#[0,u.p,Z,L.no,u.p,ta,ka,u.ce,B,Z,L,12,qL (λq=>?_) (λq=>?_)]
  .have q:B.cnt>4094:=J5 q
   exact#[6,λt ht=>l H3 .worn I (by rw[F];exact JK q) t ht]
  have hc:¬4094<B.cnt:=λz=>q (JM z)
  rw[JJ hc]at F;refine#[0,u.p,Z,L.no,u.p,ta,ka,u.ce,B,Z,L,0,m.ma,0,o3.g_shut,12,qL (λq=>?_) (λq=>?_)]
  .have q:B.age<S.least:=J5 q
   exact#[6,λt ht=>l H3 (.badp 0) I (by rw[F];exact JK q) t ht]
  have hl:¬B.age<S.least:=λz=>q (JM z)
  rw[JJ hl]at F;rw[F]at dq;have G:ZO 0:=#[⋯,⋯]
  have c0:=C.ok.c0;let#[d9,c3,_,_]:=id o3.at_.kl;refine#[0,m.ma,0,o3.g_kept,.inl #[25,OA.of c3],0,u.p,Z,L.no,u.p,ta,ka,u.ce,B,(0),Z,L,C.nm,by rw[C.t,ok.tp.length_eq];rfl,c0,by lia,G,λb0 c2 H4 m4 b4 c5 d6=>?_]
  let#[d4,b1,c4,O,m5]:=o3.keepL (d:=0) hu M m4 #[ta,ka,b4] #[c2,c5,d6]
  have nk:=ok.nk;exists m.kl,4,b1,by rw[JI,c4,JV];lia
  generalize Ot H4 m.kl (.lst (d4.map V.ref++[-b0]))=H5 at O m5⊢
  have e0:=ok.keep M (by lia) G
  let#[U,a2,b5]:=O.at_.be j u B.pr hu (cW M)
  have J:=C.pr (by lia)
  let#[e2,a5,_,_]:=id O.at_.kl;refine#[0,m.ma,0,O.g_kept,.inl #[25,OA.of a5],0,u.p,Z,b5.no,u.p,U,a2,u.ce,B.pr,(0),Z,b5,J.nm,by rw[J.t,ok.tp.length_eq];rfl,J.ok.c0,by rw[Z5];lia,G,λb7 c1 H6 m6 b6 a4 d3=>?_]
  let#[a3,d1,p,N,m7]:=O.keepL (d:=0) hu (cW M) m6 #[U,a2,b6] #[c1,a4,d3]
  have p:a3.length=(S.kp++[qY B 0]).length:=p
  rw[J0]at p;exists m.kl,4,d1,by rw[JI,p,JV];show S.kp.length+1<_;lia
  generalize Ot H6 m.kl (.lst (a3.map V.ref++[-b7]))=H7 at N m7⊢
  let#[c,R,o,x]:=id N.at_.kl;have o:c.length=((S.kp++[qY B 0])++[qY B.pr 0]).length:=o
  have x:∀(i:Nat) (a:Δ) (P:Ps),c[i]? =↑a->((S.kp++[qY B 0])++[qY B.pr 0])[i]? =↑P->PX H7 a P:=x
  rw[J0,J0]at o;have o:c.length=S.kp.length+1+1:=o
  have g1:=JQ (show S.kp.length<c.length by lia)
  have g2:=JQ (show S.kp.length+1<c.length by lia)
  have q1:=x _ _ (qY B 0) g1 (by rw[L6 (by rw[J0];simp),LV (JL _)];simp)
  have q2:=x _ _ (qY B.pr 0) g2 (by rw[LV (by rw[J0];exact JL _),J0];simp)
  have a1:=(N.at_.de i z y hz W).1;have y1:=JU W;have ll:=Y.ll;refine#[0,z.a.p,Z,a1.dr.no,0,m.ma,0,N.g_kept,0,m.kl,8,.ref c[S.kp.length],9,OA.of R,?_,0,m.ma,0,N.g_kept,0,m.kl,8,.ref c[S.kp.length+1],9,OA.of R,?_,z.a,y.D,y.L,8,qY B 0,qY B.pr 0,B.cnt,(0),(0),Z,a1,by lia,Y.ok,q1,q2,bI ok C (by lia) G,?_,cD ok y1 C (by lia) (by lia) G,?_,ZJ B,aI B,?_,by lia,λH8 m8 d8=>?_]
  .exact Fv (by rw[JI];lia) (by rw[JI,JW,show c.length-2=S.kp.length by lia,g1];rfl)
  .exact BA (by rw[JI,JW,show c.length-1=S.kp.length+1 by lia,g2];rfl)
  .exact bI ok (C.pr (by lia)) (by rw[Z5];lia) G
  .have:=cD ok y1 (C.pr (by lia)) (by rw[aI];lia) (by rw[Z5];lia) G
   rw[this,Z5]
  .show y.D.kn.lookup B.pr.nm=none
   rw[ZJ];exact d5
  .have h8:=N.door hz W (cj m8) d8
   have en:(qY B.pr 0).nm=B.nm:=ZJ B
   have ea:(qY B.pr 0).age=B.age:=aI B
   rw[en,ea]at h8
   exact#[Oc,λq v=>dq q m _ ((((I.mv.trans m5).trans m7).trans (cm hz (cj m8))).trans (Oq.upd v).mv) PZ.refl Z (h8.same (Oq.upd v)) #[.non,qb,Z]]
def sO(a:At K mg "_law_keyed" e8 ["_law_own_here","_law_word","_law_part"])(T:ON K mg tk)(UD:PB K CD)(xC:Mf P w K mg base CD "turn_key" W0 1 (kA K CD))(dG:Mf P w K mg base CD "close_below" X2 1 (c7 K CD))(dC:Df P w K mg base "_law_refused" X1 1 QX):Df P w K mg base "_law_keyed" V2 2 (pA K CB CD):=by
 refine a.dq Rz λf _ A _ s H vs Q E m h=>?_
 .let#[c,S,n,a3,v,d,rfl,g,ok,n9,G,dq]:=h
  exists _,(qg (qA (QW.pt (iI (qw qQ (qv 1) qi (qy _)) (fS (qw qQ (qq qN T.b_len Ld (qc (qH m (qv 0) qi) qa)) qj (qy _))))) (qh (qm (qu dC m.mo (qc qi (qc zi qa))))) qp)
   (qg (qA (QW.pt (iI (qw qQ (qv 1) qi (qy _)) (fS (Qg (kN cB jB qj (qv 2) (qq qN T.b_len Ld (qc (qH m (qv 0) qi) qa))))))) (qh (qm (qu dC m.mo (qc qi (qc zi qa))))) qp)
   (qg (qA (qw qQ (qv 1) qi (qy _)) (qh (qJ (Qw Lk Lx Ly zy (qH m (qv 0) qi) (qc (qI Zf T.b_tuple J8 (qc (qv 2) qa)) qa)))) (qh (Za m (qv 0) qi (qq (jf Z) T.b_max NO (qc (qH m (qv 0) qi) (qc (qv 2) qa))))))
   (qg (fB (Qc Ln Z (nB (gJ (qH m (qv 0) qi))) (qB (i:=3) Rz.nd Z (SF Z))
   (qh (qA (qw qQ (qv 1) qi (qy _)) (qh (qJ (zb xC UD.cl m.mo (qv 3) (qc (qI Zf T.b_tuple J8 (qc (qv 2) qa)) qa)))) (qh (qJ (zb dG UD.cl m.mo (qv 3) (qc (qv 2) qa))))))))
   (qh (qm (qD (qc qi (qc zi qa)))))))))
  let#[as,eh,W,a0]:=id g.at_.ks;have k8:=ok.k8;rcases G with⟨rfl,p,ks,rfl,rfl,hp,kl⟩|⟨rfl,age,rfl,rfl⟩
  .refine#[3,Qb (JM Z) ?_]
   exists 0,c.ma,0,g.g_keys,c.hk,0,.inl (OA.of eh),7
   rw[JI,W]
   by_cases h8:8<=S.kss.length
   .have F:zm S (.turnH ks)= .ref .toomany:=JK h8
    rw[F]at dq;refine Qb (JM (by congr 1;lia)) #[6,λq e=>?_]
    exact dq q c _ (Oq.upd e).mv PZ.refl Z (g.same (Oq.upd e)) qb
   have F:zm S (.turnH ks)= .ok {S with kss:=S.kss++[ks],ds:=S.ds.map (cy ks)} .non:=JJ h8
   rw[F]at dq;refine zz (JT (by intro q;injection q with q;lia)) ?_
   refine#[3,zz (JT (by intro z;injection z with z;revert z;decide +kernel)) ?_]
   refine#[3,Qb (JM Z) ?_]
   refine#[0,c.ma,0,g.g_keys,.inl #[25,OA.of eh],0,p,ks,Z,.inr (.inl hp),λt H2 Y ht=>?_]
   have u:=g.same Y;have U:=Y _ _ eh;exists c.hk,4,U,by rw[JI,W,JV];lia
   have j:=u.key (ml U W (λi a ks h1 u=>Oq.sqt Y (a0 i a ks h1 u)) (.inl ht))
   have J:Mv (hF c) H (Ot H2 c.hk (.lst (as.map V.ref++[-t]))):=Y.mv.trans (bC lO Mv.upd1)
   generalize Ot H2 c.hk (.lst (as.map V.ref++[-t]))=H3 at j J⊢
   have a1:H3 p=↑(.tup (ks.map V.int)):=J.tup g.at_.nt hp
   refine#[0,c.ma,0,j.g_doors,c.dd,17,j.at_.dd,λx l=>#[x,c.dd,0,qb,Oq.upd l _ _ j.at_.dd,λo=>?_]]
   have L:=Oq.upd (o:=iw x c.dd) l
   have I:=j.same L;have B:=L _ _ a1;have R:=J.trans L.mv;generalize Ot H3 x (iw x c.dd)=H4 at I B R⊢
   refine cp I (cy ks) (λy=>rfl) (λσ=>∃D,σ=[↑(-c.ma),↑(.str "turn_house"),↑(-p),D]) #[0] (λHx=>Hx p=↑(.tup (ks.map V.int))) (by rw[qk (zn B I.at_.dd (by intro z;cases z))];exact B) ?_ ?_
   .rintro i z y σ Hx hz hy ⟨D,rfl⟩ hx dl N hN
    have G:=ok.dr y (JU hy);have ll:=G.ll;refine#[3,Qb (JM Z) ?_]
    refine#[0,z.a.p,Z,dl.dr.no,0,p,ks,Z,.inr (.inl hx),λt2 H5 s5 a2=>?_]
    have O:=dl.same s5;refine#[z.a,y.D,y.L,t2,ks,Z,O,by lia,by rw[G.k];lia,.inr a2,kl,λD2 r u H6 m6 d6=>?_]
    have u:(if y.D.kss.length<8 then ↑(({y.D with kss:=y.D.kss++[ks]}:Dr),Rw.turn ks)else none)=↑(D2,r):=u
    rw[JK (by rw[G.k];lia)]at u
    cases u;exact hN _ _ #[0] ((Eu m6).tup O.nt (s5 _ _ hx)) (s5.mv.trans (Eu m6)) d6
   .rintro σ Hx ⟨D,rfl⟩ hx ex mx h6
    exists c.dd,o,_,ex,λo' u' q=>by(have q:H c.dd=↑(.frz o' u'):=q;rw[g.at_.dd]at q;cases q)
    exact#[Oc,λq e=>dq q c _ ((R.trans mx).trans (Oq.upd e).mv) PZ.refl Z (h6.same (Oq.upd e)) #[.non,qb,Z]]
  .refine#[3,zz (JT (by intro z;injection z with z;revert z;decide +kernel)) ?_]
   have M:¬(0<=age/\age<S.kss.length)->∀q,H q=none->Q (-q) (Ot H q (.tup [.str "refused",.str "Unknown",.non])):=λhn q e=>by
    have F:zm S (.close age)= .ref .unknown:=JJ hn
    rw[F]at dq;exact dq q c _ (Oq.upd e).mv PZ.refl Z (g.same (Oq.upd e)) qb
   refine#[3,Qb (JM Z) ?_]
   refine#[16,qL (λC=>?_) (λC=>?_)]
   case refine_2=>
    have C:¬(0<=age):=λq=>C (JM q)
    exact#[0,zZ #[6,λq e=>M (λq=>C q.1) q e]]
   have C:0<=age:=J5 C
   exists 0,c.ma,0,g.g_keys,c.hk,0,.inl (OA.of eh),12
   rw[JI,W]
   by_cases X:age<(S.kss.length:Int)
   case neg=>exact Qb (by rw[JT X];rfl) #[6,λq e=>M (λq=>X q.2) q e]
   have F:zm S (.close age)= .ok {S with least:=if age>S.least then age else S.least,ds:=S.ds.map (bV age)} .non:=JK #[C,X]
   rw[F]at dq;refine zz (by rw[JM X];rfl) ?_
   refine#[3,zz (JT (by intro z;injection z with z;revert z;decide +kernel)) ?_]
   let#[pu,j]:=g.leastD (if age>S.least then age else S.least)
   have J:Mv (hF c) H (Ot H c.ma (.dK (Zz c (if age>S.least then age else S.least)))):=bC jy Mv.upd1
   exists 0,c.ma,0,g.g_shut,29,c.ma,0,pu
   generalize Ot H c.ma (.dK (Zz c (if age>S.least then age else S.least)))=H3 at j J⊢
   refine#[0,c.ma,0,j.g_doors,c.dd,17,j.at_.dd,λx l=>#[x,c.dd,0,qb,Oq.upd l _ _ j.at_.dd,λo=>?_]]
   have L:=Oq.upd (o:=iw x c.dd) l
   have I:=j.same L;have R:=J.trans L.mv;generalize Ot H3 x (iw x c.dd)=H4 at I R⊢
   refine cp I (bV age) (λy=>rfl) (λσ=>∃D,σ=[↑(-c.ma),↑(.str "close_ages"),↑(.int age),D]) #[0] (λHx=>True) trivial ?_ ?_
   .rintro i z y σ Hx hz hy ⟨D,rfl⟩ _ dl N hN
    have G:=ok.dr y (JU hy);have ll:=G.ll;refine#[3,zz (JT (by intro z;injection z with z;revert z;decide +kernel)) ?_]
    refine#[0,z.a.p,Z,dl.dr.no,0,z.a,y.D,y.L,age,Z,dl,by lia,λD2 r u H6 m6 d6=>?_]
    cases u;exact hN _ _ #[0] trivial (GB m6) d6
   .rintro σ Hx ⟨D,rfl⟩ _ ex mx h6
    exists c.dd,o,_,ex,λo' u' q=>by(have q:H c.dd=↑(.frz o' u'):=q;rw[g.at_.dd]at q;cases q)
    exact#[Oc,λq e=>dq q c _ ((R.trans mx).trans (Oq.upd e).mv) PZ.refl Z (h6.same (Oq.upd e)) #[.non,qb,Z]]
def lE(a:At K mg "_law_listened" br ["_law_own_here","_law_name","_law_number"])(T:ON K mg tk)(UD:PB K CD)(xP:Mf P w K mg base CD "hear" V3 6 (nS K CD)):Df P w K mg base "_law_listened" W9 7 (jF K CB CD none):=by
 refine a.dq P4 λf _ A _ s H vs Q E o h=>?_
 .let#[p,S,n,nm,k,i,y,d,rfl,j,ok,n9,hi,m,G,q]:=h
  exists _,(qg (qC (i:=3) P4.nd Z (SF Z) (zb xP UD.cl o.mo (qH o (qH o (qv 0) qi) (qv 1)) (qc (qE qS (qH o (qv 0) qi) (qv 2)) qa)))
   (qg (qA (qw qQ (qE qT (qv 3) qj) qi (qy _)) (qh (qJ (Qw Lk Lx Ly zy (qH o (qH o (qv 0) qi) (qv 1)) (qc (qv 2) qa)))) qp)
   (qh (qm (qv 3)))))
  rcases j.at_.gdd nm with⟨e,g⟩|⟨i',z,y',e,l,t,_,ey,g⟩
  .rw[hi]at e;cases e
  rw[hi]at e;cases e
  rw[m]at t;cases t
  have dl:=(j.at_.de i z y l m).1;let#[J,ek,lk,rk]:=id j.at_.kl;have hk:k<J.length:=by rw[lk];exact(JZ.mp G).1
  have Y:=JQ hk;have pa:=rk k _ d Y G;have O:=ok.dr y (JU m);have ll:=O.ll;refine#[0,p.ma,0,j.g_doors,0,p.dd,0,g,z.a.p,Z,dl.dr.no,0,p.ma,0,j.g_kept,0,p.kl,8,.ref J[k],9,OA.of ek,Qf (by rw[JW,Y];rfl),z.a,y.D,y.L,.ref J[k],↑d,Z,dl,by lia,O.ok,#[0,pa,ok.kp d (JU G)],(λh=>nomatch h),λP' eP pr N H1 _ F _ c W=>?_]
  cases eP;let#[M,I]:=j.heard (k:=k) l m F W
  let#[u,r,R]:=mP y.D d;have B:=c;rw[R]at B;have U:jl (zd y.D d).1=decide (u="open"):=by rw[R];rfl
  exists 0,N,8,.str u,9,OC.of B,(show Q3 (V.str u::r) ((0:Nat):Int)=↑(.str u)from Qf Z),7
  by_cases C:u="open"
  .have h1:=j.door l m (cj F) W
   rcases h1.at_.god nm with⟨e,_⟩|⟨i',z',y',e,x,_,_,_,X⟩
   .rw[show(S.setD i {y with D:={y.D with kn:=(zd y.D d).2},L:=y.L++[.hear d (zd y.D d).1]}).dn=S.dn from Qi m Z,hi]at e;cases e
   rw[show(S.setD i {y with D:={y.D with kn:=(zd y.D d).2},L:=y.L++[.hear d (zd y.D d).1]}).dn=S.dn from Qi m Z,hi]at e;cases e
   rw[l]at x;cases x
   let#[v,h2]:=I (by rw[U,JM C]) (by rw[ey];exact X)
   refine Qb (JM (by rw[C])) ?_
   have v:H1 z.ol=↑(.lst (y.op.map λn:Nat=>V.int (n:Int))):=v
   have lo:=O.lo;exists 0,p.ma,0,h1.g_opened,0,p.od,0,X,.inl #[25,OA.of v],0,z.ol,4,v,by rw[JI,JV];lia
   rw[show(y.op.map (λn:Nat=>V.int (n:Int))++[V.int (k:Int)])=(y.op++[k]).map λn:Nat=>V.int (n:Int) by rw[La];rfl]
   refine#[0,q N _ ((cm l (cj F)).trans (bC (lT l) Mv.upd1)) h2 ?_]
   rw[qk (λz=>by rw[z,v]at c;cases c)];exact c
  .refine zz (JT (by intro z;injection z with z;exact C z)) ?_
   exact#[0,q N _ (cm l (cj F)) (M (by rw[U,JT C])) c]
def nN(a:At K mg "_law_pressed" bX ["_law_own_here","_law_button","_law_deed_here","_law_doors"])(T:ON K mg tk)(UB:Rc K CB)(dB:Mf P w K mg base CB "count_now" q9 1 (Z8 K CB))(dM:Mf P w K mg base CB "press_once" Y7 4 (kM K CB))(dC:Df P w K mg base "_law_refused" X1 1 QX)(yS:Df P w K mg base "_law_listened" W9 7 (jF K CB CD none)):Df P w K mg base "_law_pressed" X6 8 (lb K CB CD):=by
 refine a.dq Rb λf _ A _ s H vs Q E D h=>?_
 .let#[c,S,n,j,u,B,deed,p,ds,rfl,X,ok,n9,hu,hB,sq,np,a5,d5,dq]:=h
  exists _,(qg (qA (Qg (zw (qq (bU Z) T.b_all Nq (qc (QR (own:=["_law_name"]) (fr:=["_law_own_here"]) (js:=[0]) Z (fu (qv 3)) Z (DG Z) Z (CI Z nofun nofun nofun Z Z Z) (λ_ _ _ _=>qB (i:=0) (show SQ (["_law_name","_law_own_here"]:Α)from by decide +kernel) Z (SF Z) (.inr Z)) (λ_ _ _ _=>(Ho D (qv 0) (qH D (qv 1) qi)))) qa)))) (qh (qm (qu dC D.mo (qc qi (qc zi qa))))) qp)
   (qg (qA (qw qQ (qP dB UB.cl D.mo (qv 1)) qj (qy _)) (qh (qm (qu dC D.mo (qc qi (qc zi qa))))) qp)
   (qg (qJ (Qw Lk Lx Ly zy (qH D (qv 0) qi) (qc (zb dM UB.cl D.mo (qv 1) (qc (qv 2) qa)) qa)))
   (qg (qC (i:=4) Rb.nd Z (Or.inr Z) (qF Q4 (qq qN T.b_len Ld (qc (qH D (qv 0) qi) qa)) qj))
   (qh (qm (qD (qc qi (qc (qD (qc (qv 4) (qc (qI za T.b_tuple J8 (qc (QR (own:=["_law_name"]) (fr:=["_law_own_here","_law_number"]) (js:=[0,4]) Z (fu (qv 3)) Z (BO Z Z) Z (DA Z nofun nofun nofun Z Z Z Z Z Z) (λ_ _ _ _=>qB (i:=0) (show SQ (["_law_name","_law_own_here","_law_number"]:Α)from by decide +kernel) Z (SF Z) (.inr Z)) (λ_ _ _ _=>(qu yS D.mo (qc (qv 1) (qc (qv 0) (qc (qv 2) qa)))))) qa)) qa))) qa)))))))))
  let#[ta,ka,b]:=X.at_.be j u B hu hB;have hb:=ok.bt B (JU hB);have J:∀(Hx:Hp) (r:Rf),Oq H Hx->Z3 S j B deed ds= .ref r->∀q,Hx q=none->Q (-q) (Ot Hx q (.tup [.str "refused",.str (vf r),DX r])):=λHx r sx er q W=>by
   rw[er]at dq;exact dq q c _ (sx.trans (Oq.upd W)).mv PZ.refl Z (X.same (sx.trans (Oq.upd W))) qb
  exists 0,p,Z
  refine kI (K:=K) sq (by rw[JI,JV];lia) (λi ys Hx=>Hx=H/\ys=(ds.take i).map λnm=>V.bl (qR S.dn nm).isSome) #[9] (λi ys H' h=>h.1▸SG.refl) ?_ ?_
  .rintro i ys Hx v hv M ⟨rfl,rfl⟩
   rw[JW]at hv;let#[nm,F,rfl]:=Lo.mp hv;have b0:ds.take (i+1)=ds.take i++[nm]:=by rw[LP,F];rfl
   rcases X.at_.gdd nm with⟨e,g⟩|⟨i',z,y',e,hz,e0,_,ey,g⟩
   .exact#[2,c.ma,0,X.g_doors,c.dd,0,g,Z,by rw[b0,La];show _++[V.bl false]=_++[V.bl (qR S.dn nm).isSome];rw[e];rfl]
   .exact#[2,c.ma,0,X.g_doors,c.dd,0,g,Z,by rw[b0,La];show _++[V.bl true]=_++[V.bl (qR S.dn nm).isSome];rw[e];rfl]
  rintro ys Hx M ⟨rfl,rfl⟩ l1 b3
  have d1:(ds.take (ds.map V.str).length).map (λnm=>V.bl (qR S.dn nm).isSome)=(ds.map λnm=>(qR S.dn nm).isSome).map V.bl:=by rw[JI,Mm,LY];rfl
  rw[d1];have N:=Oq.upd (o:= .lst ((ds.map λnm=>(qR S.dn nm).isSome).map V.bl)) b3
  have b1:=b.same N;have o1:=X.same N;have R:=P7.same dq N;exists l1,0,OA.of qb,0
  by_cases L:∀nm∈ds,qR S.dn nm≠none
  case neg=>
   have hn:∃nm∈ds,qR S.dn nm=none:=Classical.byContradiction λz=>L λnm Y e=>z #[nm,Y,e]
   let#[nm,Y,e]:=hn
   have:((ds.map λnm=>(qR S.dn nm).isSome).all id)=false:=by
    rw[List.all_eq_false]
    exact#[false,J7.mpr #[nm,Y,by rw[e];rfl],⋯]
   rw[this];refine zZ #[6,λq W=>J _ .unknown N ?_ q W]
   unfold Z3;rw[kF Y e]
  have:((ds.map λnm=>(qR S.dn nm).isSome).all id)=true:=by
   rw[L8];intro x G;let#[nm,Y,rfl]:=J7.mp G;exact R0.mpr (L nm Y)
  rw[this];refine zu ?_
  let#[is,U]:=iW L;have I:=bP U;have a3:Z3 S j B deed ds=if 4096<=B.cnt then .ref .worn else .ok (OE (qW S j B deed) S.kp.length is is.length).1 (.num S.kp.length (OE (qW S j B deed) S.kp.length is is.length).2):=by unfold Z3;rw[U]
  have cb:=hb.ok.c0;have a1:Sq [] _ p (ds.map V.str):=gU sq N.mv (iu) (λh=>nomatch h)
  generalize Ot Hx l1 (.lst ((ds.map λnm=>(qR S.dn nm).isSome).map V.bl))=H1 at N b1 o1 R a1⊢
  have c4:=Int.le_trans hb.ok.cb hb.ok.bm;exists 0,u.p,Z,b1.no,u.p,ta,ka,u.ce,B,Z,b1,7
  by_cases hc:4096<=B.cnt
  .refine Qb (JM (by congr 1;lia)) #[6,λq W=>J _ .worn N (by rw[a3];exact JK hc) q W]
  refine zz (JT (by intro z;injection z with z;lia)) ?_
  rw[a3,JJ hc]at R;let#[e1,c2,_,_]:=id o1.at_.kl;refine#[0,c.ma,0,o1.g_kept,.inl #[25,OA.of c2],0,u.p,Z,b1.no,0,u.p,ta,ka,u.ce,B,deed,Z,b1,hb.nm,by rw[hb.t,ok.tp.length_eq];rfl,cb,by lia,a5,λb6 c1 H4 m4 b4 c6 d9=>?_]
  let#[d7,b7,c3,h5,m5]:=o1.keepL (d:=deed) hu hB m4 #[ta,ka,b4] #[c1,c6,d9]
  have nk:=ok.nk;exists c.kl,4,b7,by rw[JI,c3,JV];lia
  have a0:Sq [] _ p (ds.map V.str):=gU a1 m5 o1.at_.nt np
  generalize Ot H4 c.kl (.lst (d7.map V.ref++[-b6]))=H5 at h5 m5 a0⊢
  have d3:=ok.keep hB (by lia) a5
  let#[O,b5,m,_]:=id h5.at_.kl;have m:O.length=(S.kp++[qY B deed]).length:=m
  rw[J0]at m;have m:O.length=S.kp.length+1:=m
  exists 0,c.ma,0,h5.g_kept,c.kl,0,.inl (OA.of b5),4
  have e3:((O.map V.ref).length:Int)-1=(S.kp.length:Int):=by rw[JI,m];lia
  rw[e3];have hk:(qW S j B deed).kp[S.kp.length]? =↑(qY B deed):=by show(S.kp++[_])[S.kp.length]? =_;simp
  exists 2,p,Z
  refine kI (K:=K) a0 (by rw[JI,JV];lia) (λi ys Hx=>Mv (hF c) H5 Hx/\Ou K CB CD none Hx c (OE (qW S j B deed) S.kp.length is i).1/\∃xs:Η,ys=xs.map V.ref/\xs.length=i/\(OE (qW S j B deed) S.kp.length is i).2.length=i/\∀(k:Nat) (x:Δ) (l:Β),xs[k]? =↑x->(OE (qW S j B deed) S.kp.length is i).2[k]? =↑l->Hx x=↑(.tup l)) #[λ_ _ _ e=>e,h5,[],23,λk x l h=>by cases h] (λi ys H' h=>#[hF c,h.1,h5.at_.nt,np]) ?_ ?_
  .rintro i ys Hx v hv M ⟨mx,G,xs,rfl,lx,la,C⟩
   rw[JW]at hv;let#[nm,F,rfl]:=Lo.mp hv;let#[i',d4,d0]:=kj U F;have e4:i<ds.length:=(JZ.mp F).1
   let#[kd,kb,kp,kn]:=Z6 (qW S j B deed) S.kp.length is i
   have b2:(qW S j B deed).dn=S.dn:=Z
   have a4:qR (OE (qW S j B deed) S.kp.length is i).1.dn nm=↑i':=by rw[kn,b2];exact d0
   let#[z,y,hz,hy,_,_]:=G.at_.dix a4;have a2:(OE (qW S j B deed) S.kp.length is i).1.kp[S.kp.length]? =↑(qY B deed):=by rw[kp];exact hk
   have d2:=d3.hearN S.kp.length is i;have st:=lC d4 hy a2;refine#[5,c,8,nm,S.kp.length,i',y,0,G,d2,by lia,a4,hy,a2,λq1 H2 m2 h2 e2=>?_]
   rw[st];refine#[mx.trans m2,h2,xs++[q1],by simp,by simp [lx],by rw[J0,la];rfl,λk x l g1 g2=>?_]
   rcases bq (lx.trans la.symm) g1 g2 with⟨g1,g2⟩|⟨rfl,rfl⟩
   .exact m2.tup G.at_.nt (C k x l g1 g2)
   .exact e2
  .rintro ys Hx M ⟨mx,G,xs,rfl,lx,la,C⟩ lp d8
   rw[JI]at lx la G C;have c5:=Oq.upd (o:= .lst (xs.map V.ref)) d8
   refine#[lp,0,.inl #[OA.of qb,λt ht=>#[Oc,λqt d6=>#[Oc,λqo c0=>?_]]]]
   have u2:=Oq.upd (o:= .tup (xs.map V.ref)) ht
   have u3:=Oq.upd (o:= .tup [.int (S.kp.length:Int),-t]) d6
   have u4:=Oq.upd (o:= .tup [.str "told",-qt]) c0
   have U4:=((c5.trans u2).trans u3).trans u4;rw[<- I]at G la C;refine R qo c _ ((m5.trans mx).trans U4.mv) PZ.refl Z (G.same U4) #[-qt,qb,qt,t,xs,Z,u4 _ _ qb,u4 _ _ (u3 _ _ qb),by rw[lx,la,I],λk x l g1 g2=>U4 _ _ (C k x l g1 g2)]
end
noncomputable abbrev Qa:Α:=["add_door","add_button","teach","forget_at","press_button","turn_house","close_ages","lose_cell","turn_button"]
section
variable{K:ι}{tk:Nat->Tok}
def kH(a:At K mg "_law_of_button" aG ["_law_own_here","_law_word","_law_button","_law_parts"])(T:ON K mg tk)(F:Rc K CB)
 (dW:Mf P w K mg base CB "cell_out" q9 1 (rN K CB))
 (O:Mf P w K mg base CB "age_now" q9 1 (cY K CB))(dX:Mf P w K mg base CB "turn_key" W0 1 (nh K CB))(dC:Df P w K mg base "_law_refused" X1 1 QX)
 (yW:Df P w K mg base "_law_pressed" X6 8 (lb K CB CD)):Df P w K mg base "_law_of_button" X8 9 (ux K CB CD Qa):=by
 refine a.dq ku λf _ A _ s H vs Q E g h=>?_
 .let#[m,S,n,j,u,B,p,d,rfl,i,ok,W,D,C,I,X,hp,dq]:=h
  exists _,(qg (qA (qw qQ (qv 1) qi (qy _)) (qh (qm (qu yW g.mo (qc (qv 0) (qc (qv 2) (qc (qE qT (qv 3) qj) (qc (qE qT (qv 3) qj) qa))))))) qp)
   (qg (qA (qw qQ (qv 1) qi (qy _)) (qh (qJ (qP dW F.cl g.mo (qv 2)))) (qh (qA (qw qQ (qv 1) qi (qy _)) Qt (qh (qA (qw qQ (qF zo (qP O F.cl g.mo (qv 2)) qj) (qq qN T.b_len Ld (qc (qH g (qv 0) qi) qa)) (qy _)) (qh (qm (qu dC g.mo (qc qi (qc zi qa))))) (qh (qJ (zb dX F.cl g.mo (qv 2) (qc (qE qS (qH g (qv 0) qi) (qF zo (qP O F.cl g.mo (qv 2)) qj)) qa)))))))))
   (qh (qm (qD (qc qi (qc zi qa)))))))
  let#[ta,ka,b]:=i.at_.be j u B D C;have G:=ok.bt B (JU C);have l:∀(B':Bt) (H1:Hp) (o e:Δ),tz S j B d= .ok (S.setB j B') .non->Mv [u.p,u.ce] H H1->Oy K CB H1 u.p o e u.ce B'->B'.nm=B.nm->2<=ζ/\∀q,H1 q=none->Q (-q) (Ot H1 q (.tup [.str "told",.non])):=λB' H1 o e L r v en=>#[⋯,λq t=>by
   rw[L]at dq;exact dq q m _ ((lf D r).trans (Oq.upd t).mv) PZ.refl Z ((i.btn D C r #[o,e,v] en).same (Oq.upd t)) #[.non,qb,Z]]
  refine#[3,qL (λy=>?_) (λy1=>?_)]
  .cases d with
   |press bn deed ds=>
    let#[qd,x,sq,nq,J,U]:=hp
    exact#[5,p,1,OC.of x,7,p,1,OC.of x,Z,m,S,n,j,u,B,deed,qd,ds,Z,i,ok,W,D,C,sq,nq,J,U,dq]
   |_=>exact absurd (aT y) (by dsimp only[qX];decide +kernel)
  refine#[3,qL (λy=>?_) (λy2=>?_)]
  .cases d with
   |lose bn=>exact#[0,u.p,Z,b.no,u.p,ta,ka,u.ce,B,Z,b,G.ok,λH1 r v=>l _ H1 ta ka Z r v Z]
   |_=>exact absurd (aT y) (by dsimp only[qX];decide +kernel)
  refine#[3,qL (λy=>?_) (λy3=>?_)]
  .cases d with
   |tear bn=>exact absurd X (show¬("tear_cell":Str)∈Qa by decide +kernel)
   |_=>exact absurd (aT y) (by dsimp only[qX];decide +kernel)
  cases d with
  |press bn deed ds=>exact(y1 (JM Z)).elim
  |lose bn=>exact(y2 (JM Z)).elim
  |tear bn=>exact(y3 (JM Z)).elim
  |turnB bn=>
   have a0:=G.a0;have a1:=G.a1;have k8:=ok.k8;let#[as,eh,R,_]:=id i.at_.ks;exists 0,u.p,Z,b.no,u.p,ta,ka,u.ce,B,Z,b,4
   exists 0,m.ma,0,i.g_keys,m.hk,0,.inl (OA.of eh),7
   rw[JI,R]
   by_cases hk:(S.kss.length:Int)<=B.age+1
   .have L:tz S j B (.turnB bn)= .ref .worn:=JK hk
    rw[L]at dq;exact Qb (JM (by congr 1;lia)) #[6,λq t=>dq q m _ (Oq.upd t).mv PZ.refl Z (i.same (Oq.upd t)) qb]
   refine zz (JT (by intro z;injection z with z;lia)) ?_
   let#[Y,N,M,_,e1,e2]:=Bq (K:=K) i.at_.ks (show 0<=B.age+1 by lia) (show B.age+1<S.kss.length by lia)
   refine#[0,u.p,Z,b.no,0,m.ma,0,i.g_keys,0,u.p,Z,b.no,u.p,ta,ka,u.ce,B,Z,b,4,m.hk,8,-N,9,OA.of M,e1,u.p,ta,ka,u.ce,N,B,S.kss.getD (B.age+1).toNat [],Z,b,e2,by lia,λe H1 r v=>?_]
   exact l _ H1 ta e (JJ hk) (r.mono λc h z=>h (by rw[JN.mp z];exact J3 ..)) v Z
  |_=>exact absurd Z I
def wu(a:At K mg "_law_due" iG ["_law_own_here","_law_deed_here"])(T:ON K mg tk)(zG:Df P w K mg base "_law_added" X9 3 (ph K CB CD))(zA:Df P w K mg base "_law_taught" W8 8 (lj K CB CD))
 (zI:Df P w K mg base "_law_keyed" V2 2 (pA K CB CD))
 (yQ:Df P w K mg base "_law_of_button" X8 9 (ux K CB CD Qa))
 (UD:PB K CD)(dJ:Mf P w K mg base CD "known_now" q9 1 (gb K CD))(yV:Mf P w K mg base CD "forget" u0 1 (lQ K CD))
 (dC:Df P w K mg base "_law_refused" X1 1 QX):Df P w K mg base "_law_due" X4 10 (fO K CB CD Qa):=by
 refine a.dq Rn λf _ A _ s H vs Q E x h=>?_
 .let#[c,S,n,l,d,rfl,ho,ok,Y,O,hd,b2,hw,dq]:=h
  exists _,(qg (qC (i:=2) Rn.nd Z (SF Z) (qE qT (qv 1) qj))
   (qg (qA (qw bT (qv 2) (qD (qc qi (qc qi qa))) (by rfl)) (qh (qm (qu zG x.mo (qc (qv 0) (qc (qv 2) (qc (qE qT (qv 1) qj) (qc (bB fF (qv 1) (cG qj) cF) qa))))))) qp)
   (qg (qA (qw bT (qv 2) (qD (qc qi (qc qi qa))) (by rfl)) (qh (qm (qu zI x.mo (qc (qv 0) (qc (qv 2) (qc (qE qT (qv 1) qj) qa)))))) qp)
   (qg (qA (qw bT (qv 2) (qD (qc qi (qc qi (qc qi (qc qi qa))))) (by rfl)) (qg (qA (bO x (qE qT (qv 1) qj) (qH x (qv 0) qi)) (qh (qm (qu dC x.mo (qc qi (qc zi qa))))) qp)
   (qh (qm (qu yQ x.mo (qc (qv 0) (qc (qv 2) (qc (qH x (qH x (qv 0) qi) (qE qT (qv 1) qj)) (qc (bB fF (qv 1) (cG qj) cF) qa)))))))) qp)
   (qg (qC (i:=3) Rn.nd Z (SF Z) (tR x (qH x (qv 0) qi) (qE qT (qv 1) (gF (qw qQ (qv 2) qi (qy _)) qj qj))))
   (qg (qA (QW.pt (Zb (qw a6 (qv 3) zi (qy _)) (Q5 (QW.pt (iI (qw bG (qv 2) qi (qy _)) (fS (bO x (qE qT (qv 1) qj) (qH x (qv 0) qi)))))))) (qh (qm (qu dC x.mo (qc qi (qc zi qa))))) qp)
   (qg (qA (qw qQ (qv 2) qi (qy _)) (qh (qm (qu zA x.mo (qc (qv 0) (qc (qv 3) (qc (qH x (qH x (qv 0) qi) (qE qT (qv 1) qj)) qa)))))) qp)
   (qg (qA (qw qQ (qv 2) qi (qy _)) Qt qp)
   (qg (qA (qw uy (qE qT (qv 1) qj) (QR (own:=["_law_row"]) (fr:=[]) (js:=[]) Z (lL (qP dJ UD.cl x.mo (qv 3))) Z (λ_ _ h=>nomatch h) Z (gQ Z nofun nofun nofun) (λ_ _ _ _=>qB (i:=0) (show SQ (["_law_row"]:Α)from by decide +kernel) Z (SF Z) (.inr Z)) (λ_ _ _ _=>(qE (vU (K:=K) Z) (qv 0) qj))) (by rfl)) (qh (qm (qu dC x.mo (qc qi (qc zi qa))))) qp)
   (qg (qJ (zb yV UD.cl x.mo (qv 3) (qc (qE qT (qv 1) qj) qa)))
   (qh (qm (qD (qc qi (qc zi qa)))))))))))))))
  have O:Rv (hF c) H l d:=O
  let#[qx,M,hx]:=Rv.cells O;exists 0,l,1,OC.of M,uf
  refine#[0,Oc,λt1 a1=>#[t1,0,.inr (OC.of qb),36,qL (λz1=>?_) (λz1=>?_)]]
  .have R:=Oq.upd (o:= .tup [.str "add_door",.str "add_button"]) a1
   have o1:=ho.same R;have X:=P7.same dq R;have e1:=R _ _ M;have G:=O.same R;generalize Ot H t1 (.tup [.str "add_door",.str "add_button"])=H1 at o1 X e1 G⊢
   cases d with
   |addD nm near far most=>
    refine#[5,l,1,OC.of G,46,l,0,G,λp H2 s2 hp _=>?_]
    exact#[c,S,n,"add_door",nm,p,.addD nm near far most,Z,o1.same s2,ok,Y,.inl #[Z,near,far,most,Z,hp],P7.same X s2]
   |addB nm step=>
    refine#[5,l,1,OC.of G,46,l,0,G,λp H2 s2 hp _=>?_]
    exact#[c,S,n,"add_button",nm,p,.addB nm step,Z,o1.same s2,ok,Y,.inr #[Z,step,Z,hp],P7.same X s2]
   |_=>exact absurd z1 (by dsimp only[qX];decide +kernel)
  have R:=Oq.upd (o:= .tup [.str "add_door",.str "add_button"]) a1
  refine#[0,Oc,λt2 a2=>#[t2,0,.inr (OC.of qb),36,qL (λz2=>?_) (λz2=>?_)]]
  .have S2:=R.trans (Oq.upd (o:= .tup [.str "turn_house",.str "close_ages"]) a2)
   have o2:=ho.same S2;have a3:=P7.same dq S2;have D:=O.same S2;cases d with
   |turnH ks=>
    let#[p,D,a5]:=D
    exact#[5,l,1,OC.of D,Z,c,S,n,"turn_house",-p,.turnH ks,Z,o2,ok,Y,.inl #[Z,p,ks,9,a5,hd.ok],a3]
   |close age=>
    have D:=(show(_:Option HO)=↑(.tup [.str "close_ages",.int age])from D)
    exact#[5,l,1,OC.of D,Z,c,S,n,"close_ages",.int age,.close age,Z,o2,ok,Y,.inr #[Z,age,9],a3]
   |_=>exact absurd z2 (by dsimp only[qX];decide +kernel)
  have S2:=R.trans (Oq.upd (o:= .tup [.str "turn_house",.str "close_ages"]) a2)
  refine#[0,Oe,λt3 b0=>?_]
  have S3:=S2.trans (Oq.upd (o:= .tup [.str "press_button",.str "lose_cell",.str "tear_cell",.str "turn_button"]) b0)
  have t:=ho.same S3;have e3:=S3 _ _ M;have m:=O.same S3;have v:=P7.same dq S3;refine#[t3,0,.inr (OC.of qb),36,qL (λz3=>?_) (λz3=>?_)]
  all_goals generalize Ot (Ot (Ot H t1 (.tup [.str "add_door",.str "add_button"])) t2 (.tup [.str "turn_house",.str "close_ages"])) t3 (.tup [.str "press_button",.str "lose_cell",.str "tear_cell",.str "turn_button"])=H3 at t e3 m v⊢
  .let#[bn,eb,vs,M,pt]:∃bn,rB d=↑bn/\∃vs,H3 l=↑(.tup (.str (qX d):: .str bn::vs))/\∀W p,Oq H3 W->W p=↑(.tup (cg (.str (qX d):: .str bn::vs) ↑2 none))->HE W p c d:=by
    cases d with
    |press bn deed ds=>
     let#[qd,O,sq,nq]:=m
     exact#[10,O,λW p U hp=>#[qd,hp,gU sq U.mv iu (λh=>nomatch h),nq,hd.ok.1,hd.ok.2]]
    |lose bn=>exact#[10,m,λ_ _ _ _=>trivial]
    |tear bn=>exact#[10,m,λ_ _ _ _=>trivial]
    |turnB bn=>exact#[10,m,λ_ _ _ _=>trivial]
    |_=>exact absurd z3 (by dsimp only[qX];decide +kernel)
   rcases t.at_.gbd bn with⟨e,F⟩|⟨j,u,B,hj,hu,hB,_,_,F⟩
   .refine#[0,l,1,OC.of M,Qf (j:=1) Z,0,c.ma,0,t.g_buttons,c.bd,0,F,0,zZ ?_]
    rw[DC eb e]at v
    exact#[6,λq C=>v q c _ (Oq.upd C).mv PZ.refl Z (t.same (Oq.upd C)) qb]
   refine#[0,l,1,OC.of M,Qf (j:=1) Z,0,c.ma,0,t.g_buttons,c.bd,0,F,0,zu ?_]
   rw[EU eb hj hB]at v;refine#[5,c.ma,0,t.g_buttons,0,l,1,OC.of M,Qf (j:=1) Z,c.bd,0,F,2,l,0,M,λp W U a4 _=>?_]
   exact#[c,S,n,j,u,B,p,d,Z,t.same U,ok,Y,hu,hB,(by rw[eb];intro z;cases z),hw,pt W p U a4,P7.same v U]
  have L:zm S d= .ref .unknown->∀q,H3 q=none->Q (-q) (Ot H3 q (.tup [.str "refused",.str "Unknown",.non])):=λer q C=>by
   rw[er]at v;exact v q c _ (Oq.upd C).mv PZ.refl Z (t.same (Oq.upd C)) qb
  exists 0,c.ma,0,t.g_doors,c.dd,Z,.inl #[_,.inl t.at_.dd]
  exists 20
  cases d with
  |teach dn bn=>
   dsimp only[qX]
   refine zz (JT (by intro z;injection z with z;revert z;decide +kernel)) ?_
   exists l,1,OC.of m,Z
   rcases t.at_.gdd dn with⟨e,g⟩|⟨i,z,y,hi,hz,N,_,_,g⟩
   .exists _,g
    refine#[3,Qb (JM Z) ?_]
    exact#[6,λq C=>L (lA e) q C]
   exists _,g
   refine#[3,zz (JT (by intro z;cases z)) ?_]
   refine#[3,Qb (by rw[JT (by intro z;injection z with z;revert z;decide +kernel)];rfl) ?_]
   rcases t.at_.gbd bn with⟨e,F⟩|⟨j,u,B,hj,hu,hB,_,eB,F⟩
   .refine#[0,l,1,OC.of m,7,c.ma,0,t.g_buttons,c.bd,0,F,0,zZ ?_]
    exact#[6,λq C=>L ((iR hi N).trans (aY e)) q C]
   refine#[0,l,1,OC.of m,7,c.ma,0,t.g_buttons,c.bd,0,F,0,zu ?_]
   refine#[3,Qb (JM Z) ?_]
   exists 5,c.ma,0,t.g_buttons,0,l,1,OC.of m,Z,c.bd,0,F
   rw[oK hi N hj hB]at v
   exact#[c,S,n,i,j,z,y,u,B,Z,t,ok,Y,hz,N,hu,hB,v]
  |play k dn=>exact absurd hw (show¬("play_kept":Str)∈Qa by decide +kernel)
  |forget dn bn=>
   dsimp only[qX]
   refine zz (JT (by intro z;injection z with z;revert z;decide +kernel)) ?_
   exists l,1,OC.of m,Z
   rcases t.at_.gdd dn with⟨e,g⟩|⟨i,z,y,hi,hz,N,_,_,g⟩
   .exists _,g
    refine#[3,Qb (JM Z) ?_]
    exact#[6,λq C=>L (lA e) q C]
   exists _,g
   refine#[3,zz (JT (by intro z;cases z)) ?_]
   refine#[3,Qb (by rw[JT (by intro z;injection z with z;revert z;decide +kernel)];rfl) ?_]
   have J:=ok.dr y (JU N);have dl:=(t.at_.de i z y hz N).1;have er:zm S (.forget dn bn)=if y.D.kn.lookup bn=none then OZ.ref .unknown else .ok (S.setD i (fD bn y)) .non:=iR hi N
   rcases t.at_.gbd bn with⟨e,F⟩|⟨j,u,B,hj,hu,hB,_,eB,F⟩
   .refine#[0,l,1,OC.of m,7,c.ma,0,t.g_buttons,c.bd,0,F,0,zZ ?_]
    refine#[6,λq C=>L (er.trans (JK ?_)) q C]
    cases z:y.D.kn.lookup bn with
    |none=>rfl
    |some e'=>exact absurd (J.kb _ (ZL z)) (QZ e)
   refine#[0,l,1,OC.of m,7,c.ma,0,t.g_buttons,c.bd,0,F,0,zu ?_]
   refine#[3,zz nofun ?_]
   refine#[3,zz nofun ?_]
   refine#[0,l,1,OC.of m,7,z.a.p,Z,dl.dr.no,z.a.p,z.a.ta,z.a.hk,z.a.bd,z.a.lg,y.L.length,y.D,Z,dl.dr,J.ok,λkq ss W U pm so sh=>#[kq,Z,?_]]
   refine lR (K:=K) sh (λnm h=>pm.mem_iff.mp h) (by rw[pm.length_eq,JI];exact J.ok.nl) (λHx a nm xs Q' e q'=>#[0,a,1,OC.of e,(show Q3 (V.str nm::xs) ((0:Nat):Int)=↑(.str nm)from Qf Z),q']) λkl H5 s5 b1=>?_
   have S5:=U.trans s5;have a0:=dl.same S5;have o5:=t.same S5;have I:=P7.same v S5;have ll:=J.ll;rw[er]at I;exists kl,0,.inl (OA.of b1),Z,pI ss,0
   rw[JK Z,kS]
   by_cases hk:y.D.kn.lookup bn=none
   .rw[JK hk]at I
    exact Qb (by rw[JT];rfl;intro h;let#[e,he]:=Zd (pm.mem_iff.mp h);rw[hk]at he;cases he) #[6,λq C=>I q c _ (Oq.upd C).mv PZ.refl Z (o5.same (Oq.upd C)) qb]
   rw[JJ hk]at I;refine zz (by rw[JM];rfl;exact pm.mem_iff.mpr (OM.mp (R0.mpr hk))) ?_
   refine#[0,z.a.p,Z,a0.dr.no,0,l,1,OC.of (S5 _ _ m),Z,z.a,y.D,y.L,bn,Z,a0,by lia,hk,λD2 r h2 H6 m6 d6=>#[Oc,λq C=>?_]]
   have h2:(if y.D.kn.lookup bn=none then none else ↑(({y.D with kn:=y.D.kn.filter λp=>decide (p.1≠bn)}:Dr),Rw.forget bn))=↑(D2,r):=h2
   rw[JJ hk]at h2;cases h2;exact I q c _ ((cm hz (cj m6)).trans (Oq.upd C).mv) PZ.refl Z ((o5.door hz N (cj m6) d6).same (Oq.upd C)) #[.non,qb,Z]
  |_=>first|exact(z2 (by dsimp only[qX];decide +kernel)).elim|exact absurd z1 (by dsimp only[qX];decide +kernel)|exact absurd hw (by dsimp only[qX];decide +kernel)|exact(z3 (by dsimp only[qX];decide +kernel)).elim|exact(z1 (by dsimp only[qX];decide +kernel)).elim
def sj(a:At K mg "_law_class" eU ["_law_caught"])(T:ON K mg tk)(d:Rp K mg x fI):Df P w K mg base "_law_class" ["_law_caught"] 1 (pY K x):=by
 refine a.dq Py λf _ A _ s H vs Q E hr h=>?_
 .let#[e,c,dd,Y,j,rfl,l,cl,q]:=h
  exists _,(qg (qC (i:=1) Py.nd Z (SF Z) (ze (qc (qq Zx T.b_isinstance J6 (qc (qv 0) (qc (zh (v:= .ref x.k) Z d.g_Known Z) qa))) (qc (qq Zx T.b_isinstance J6 (qc (qv 0) (qc (zh (v:= .ref x.f) Z d.g_Full Z) qa))) (qc (qq Zx T.b_isinstance J6 (qc (qv 0) (qc (zh (v:= .ref x.w) Z d.g_Worn Z) qa))) (qc (qq Zx T.b_isinstance J6 (qc (qv 0) (qc (zh (v:= .ref x.u) Z d.g_Unknown Z) qa))) qa))))))
   (qg (qC (i:=1) Py.nd Z (SF Z) (qF lJ (qv 1) (ze (qc (qq Zx T.b_isinstance J6 (qc (qv 0) (qc (zh (v:= .ref x.t) Z d.g_TooMany Z) qa))) (qc (qq Zx T.b_isinstance J6 (qc (qv 0) (qc (zh (v:= .ref x.b) Z d.g_BadPress Z) qa))) qa)))))
   (qg (qC (i:=2) Py.nd Z (SF Z) (ze (qc qi (qc qi (qc qi (qc qi (qc qi (qc qi qa))))))))
   (qg (qA (QW.pt (Zb (qw bG (Qw Lk PySem.F.slot_list_count PySem.F.type_list_count AX (qv 1) (qc QH qa)) qj (qy _)) (Zb (Qg (zw (qq Zx T.b_isinstance J6 (qc (qv 0) (qc (qZ (v:= .ty "ValueError") Z d.b_ValueError nofun Z) qa))))) (Q5 (zw (qq we T.b_isinstance J6 (qc (qv 0) (qc (qD (qc (zh (v:= .ref x.l) Z d.g_BadLog Z) (qc (zh (v:= .ref x.r) Z d.g_BadRow Z) qa))) qa)))))))) (qh (qm qi)) qp)
   (qh (qm (qE qS (qv 2) (Qw Lk PySem.F.slot_list_index PySem.F.type_list_index BB (qv 1) (qc QH qa)))))))))
  have mw:=cl.m;refine#[0,e,c,dd,19,l,cl.c,.inl #[17],cl.i x.k (by simp [Xa.all]),0,e,c,dd,19,l,cl.c,.inl #[17],cl.i x.f (by simp [Xa.all]),0,e,c,dd,19,l,cl.c,.inl #[17],cl.i x.w (by simp [Xa.all]),0,e,c,dd,19,l,cl.c,.inl #[17],cl.i x.u (by simp [Xa.all]),Oe,λz C=>?_]
  have U:=Oq.upd (o:= .lst [.bl (decide (c=x.k)),.bl (decide (c=x.f)),.bl (decide (c=x.w)),.bl (decide (c=x.u))]) C
  have p:=U _ _ l;refine#[2,e,c,dd,19,p,cl.c,.inl #[17],cl.i x.t (by simp [Xa.all]),0,e,c,dd,19,p,cl.c,.inl #[17],cl.i x.b (by simp [Xa.all]),Oc,λt F=>?_]
  have O:=Oq.upd (o:= .lst [.bl (decide (c=x.t)),.bl (decide (c=x.b))]) F
  refine#[z,t,4,O _ _ qb,qb,Og,λm L=>?_]
  have u3:=Oq.upd (o:= .lst ((x.six.map λD=>decide (c=D)).map V.bl)) L
  have S:=U.trans (O.trans u3);have R:(Ot (Ot (Ot H z (.lst [.bl (decide (c=x.k)),.bl (decide (c=x.f)),.bl (decide (c=x.w)),.bl (decide (c=x.u))])) t (.lst [.bl (decide (c=x.t)),.bl (decide (c=x.b))])) m (.lst ((x.six.map λD=>decide (c=D)).map V.bl))) m=↑(.lst ((x.six.map λD=>decide (c=D)).map V.bl)):=qb
  refine v8 ?_
  show fX _ _ _ _ (Ot (Ot (Ot H z (.lst [.bl (decide (c=x.k)),.bl (decide (c=x.f)),.bl (decide (c=x.w)),.bl (decide (c=x.u))])) t (.lst [.bl (decide (c=x.t)),.bl (decide (c=x.b))])) m (.lst ((x.six.map λD=>decide (c=D)).map V.bl)))
  generalize Ot (Ot (Ot H z (.lst [.bl (decide (c=x.k)),.bl (decide (c=x.f)),.bl (decide (c=x.w)),.bl (decide (c=x.u))])) t (.lst [.bl (decide (c=x.t)),.bl (decide (c=x.b))])) m (.lst ((x.six.map λD=>decide (c=D)).map V.bl))=H3 at S R⊢
  refine#[Og,λI J=>?_]
  have W:=Oq.upd (o:= .lst (RK.map V.str)) J
  have X:(Ot H3 I (.lst (RK.map V.str))) I=↑(.lst (RK.map V.str)):=qb
  have N:=S.trans W;have u:=W _ _ R;have r:=N _ _ l;have B:=mw.count;let#[hit,g]:=mw.hit;exists 0,.inl #[25,OA.of u],m,17,u
  rw[B];exists 7
  refine qL (λy=>absurd y (by rw[JM (show V.int ((1:Nat):Int)=V.int 1 from Z)];decide)) (λ_=>?_)
  refine#[0,e,c,dd,8,true,Z,r,cl.c,.inr #[17],cl.v,0,zu ?_]
  refine#[0,Oc,λtp G=>?_]
  have n:=Oq.upd (o:= .tup [-x.l,-x.r]) G
  refine#[e,c,tp,dd,[x.l,x.r],false,Z,n _ _ r,cl.c,qb,rO (λD M=>cl.i D (by simp only[JO,JX,JY]at M;rcases M with rfl|rfl<;>simp [Xa.all])) mw.n,0,zu ?_]
  exists 2,.inl #[25,OA.of (n _ _ u)],m,_,j,9,n _ _ u,hit,g,by have:=mw.j6;omega,I,_,_,.str Y,Z,Z,OA.of (n _ _ X),Qf (by rw[JW,mw.w];rfl)
  exact q _ (N.trans n)
def nI(a:At K mg "_law_called" dc ["_law_house","_law_deed_here"])(T:ON K mg tk)(U:Ro K C)
 (yL:My P w K mg base C "add_door" V8 3 (vb K CB CD C x))
 (xY:My P w K mg base C "add_button" ["self","name","step"] 3 (uZ K CB CD C x))
 (yX:My P w K mg base C "teach" W5 8 (sr K CB CD C x))
 (xL:My P w K mg base C "press_button" Y4 8 (tL K CB CD C x))
 (yF:My P w K mg base C "lose_cell" W3 2 (vE K CB CD C x))
 (xZ:My P w K mg base C "turn_house" W0 2 (nW K CB CD C x))
 (xS:My P w K mg base C "turn_button" W3 2 (uB K CB CD C x))
 (xX:My P w K mg base C "close_ages" X2 2 (tj K CB CD C x))
 (yE:My P w K mg base C "forget_at" W5 2 (oX K CB CD C x))
 :Dy P w K mg base "_law_called" X0 9 (p6 K CB CD C x Qa):=by
 refine a.dy Pf λf _ A _ s H vs Q E I h=>?_
 .let#[r,S,n,l,d,rfl,ho,ok,J,hl,hd,a5,hw,dd]:=h
  exists _,(qg (Al (i:=2) (j:=3) Z Pf.nd Z Z ⋯ Z Z (qc (qE qT (qv 1) qj) (qc (bB fF (qv 1) (cG qj) cF) qa)))
   (qg (qA (qw qQ (qv 2) qi (qy _)) (qh (qm (zx yL zj U.cl I.mo (qv 0) (qc (qE qT (qv 3) qj) (qc (qE qT (qv 3) qj) (qc (qE qT (qv 3) qj) (qc (qE qT (qv 3) qj) qa))))))) qp)
   (qg (qA (qw qQ (qv 2) qi (qy _)) (qh (qm (zx xY zj U.cl I.mo (qv 0) (qc (qE qT (qv 3) qj) (qc (qE qT (qv 3) qj) qa))))) qp)
   (qg (qA (qw qQ (qv 2) qi (qy _)) (qh (qm (zx yX zj U.cl I.mo (qv 0) (qc (qE qT (qv 3) qj) (qc (qE qT (qv 3) qj) qa))))) qp)
   (qg (qA (qw qQ (qv 2) qi (qy _)) (qh (qm (zx xL zj U.cl I.mo (qv 0) (qc (qE qT (qv 3) qj) (qc (qE qT (qv 3) qj) (qc (qE qT (qv 3) qj) qa)))))) qp)
   (qg (qA (qw qQ (qv 2) qi (qy _)) Qt qp)
   (qg (qA (qw qQ (qv 2) qi (qy _)) (qh (qm (zx yF zj U.cl I.mo (qv 0) (qc (qE qT (qv 3) qj) qa)))) qp)
   (qg (qA (qw qQ (qv 2) qi (qy _)) Qt qp)
   (qg (qA (qw qQ (qv 2) qi (qy _)) (qg (qC (i:=4) Pf.nd Z (SF Z) (qI QN T.b_list LA (qc (qE qT (qv 3) qj) qa)))
   (qg (qC (i:=5) Pf.nd Z (SF Z) (zx xZ zj U.cl I.mo (qv 0) (qc (gF (qw qQ (qF QC (qq qN T.b_len Ld (qc (qv 4) qa)) qj) qj (qy _)) (qv 4) (qE qT (qv 3) qj)) qa)))
   (qg (qJ (Qw Lk Lx Ly zy (qv 4) (qc qj qa)))
   (qh (qm (qv 5)))))) qp)
   (qg (qA (qw qQ (qv 2) qi (qy _)) (qh (qm (zx xS zj U.cl I.mo (qv 0) (qc (qE qT (qv 3) qj) qa)))) qp)
   (qg (qA (qw qQ (qv 2) qi (qy _)) (qh (qm (zx xX zj U.cl I.mo (qv 0) (qc (qE qT (qv 3) qj) qa)))) qp)
   (qh (qm (zx yE zj U.cl I.mo (qv 0) (qc (qE qT (qv 3) qj) (qc (qE qT (qv 3) qj) qa))))))))))))))))
  let#[L,e0,hx]:=Rv.cells hl;refine#[0,l,1,OC.of e0,uf,2,l,0,e0,λp H1 R t _=>#[6,?_]]
  have u:=ho.same R;have t:H1 p=↑(.tup (IV L d)):=by cases d<;>exact t
  have B:=Sr.same dd R;refine#[3,qL (λy=>?_) (λy1=>?_)]
  .cases d with
   |addD nm near far most=>exact#[0,r.ma,Z,u.no,0,p,1,OC.of t,7,p,1,OC.of t,7,p,1,OC.of t,7,p,1,OC.of t,Z,r,S,n,nm,near,far,most,Z,u,ok,J,B]
   |_=>exact absurd (aT y) (by dsimp only[qX];decide +kernel)
  refine#[3,qL (λy=>?_) (λy2=>?_)]
  .cases d with
   |addB nm step=>exact#[0,r.ma,Z,u.no,0,p,1,OC.of t,7,p,1,OC.of t,Z,r,S,n,nm,step,Z,u,ok,J,B]
   |_=>exact absurd (aT y) (by dsimp only[qX];decide +kernel)
  refine#[3,qL (λy=>?_) (λy3=>?_)]
  .cases d with
   |teach dn bn=>exact#[0,r.ma,Z,u.no,0,p,1,OC.of t,7,p,1,OC.of t,Z,r,S,n,dn,bn,Z,u,ok,J,B]
   |_=>exact absurd (aT y) (by dsimp only[qX];decide +kernel)
  refine#[3,qL (λy=>?_) (λy4=>?_)]
  .cases d with
   |press bn deed ds=>exact#[0,r.ma,Z,u.no,0,p,1,OC.of t,7,p,1,OC.of t,7,p,1,OC.of t,Z,r,S,n,bn,deed,L,ds,Z,u,ok,J,gU hx.1 R.mv iu (λh=>nomatch h),hx.2,hd.ok.1,hd.ok.2,B]
   |_=>exact absurd (aT y) (by dsimp only[qX];decide +kernel)
  refine#[3,qL (λy=>?_) (λy5=>?_)]
  .cases d with
   |play k dn=>exact absurd hw (show¬("play_kept":Str)∈Qa by decide +kernel)
   |_=>exact absurd (aT y) (by dsimp only[qX];decide +kernel)
  refine#[3,qL (λy=>?_) (λy6=>?_)]
  .cases d with
   |lose bn=>exact#[0,r.ma,Z,u.no,0,p,1,OC.of t,Z,r,S,n,bn,Z,u,ok,J,B]
   |_=>exact absurd (aT y) (by dsimp only[qX];decide +kernel)
  refine#[3,qL (λy=>?_) (λy7=>?_)]
  .cases d with
   |tear bn=>exact absurd hw (show¬("tear_cell":Str)∈Qa by decide +kernel)
   |_=>exact absurd (aT y) (by dsimp only[qX];decide +kernel)
  refine#[3,qL (λy=>?_) (λy8=>?_)]
  .cases d with
   |turnH ks=>
    have hk:H L=↑(.tup (ks.map V.int)):=hx
    have k8:ks.length<=8:=hd.ok
    have t:H1 p=↑(.tup [-L]):=t
    refine#[0,p,1,OC.of t,Z,L,0,.inr (OC.of (R _ _ hk)),λD M=>?_]
    have u2:=Oq.upd (o:= .lst (ks.map V.int)) M
    have S2:=R.trans u2;have o2:=ho.same S2;have X:=u2 _ _ t;have N:=S2 _ _ hk;have W:=Sr.same dd S2;have O:D∉hF r:=λq=>u.at_.live q M
    have nk:L∉hF r:=λq=>by
     let#[o,e,no]:=o2.at_.nt L q;rw[N]at e;cases e;exact no
    have F:(Ot H1 D (.lst (ks.map V.int))) D=↑(.lst (ks.map V.int)):=qb
    generalize Ot H1 D (.lst (ks.map V.int))=H2 at S2 o2 X N W F⊢
    have a2:∀S' o,zm S (.turnH ks)= .ok S' o->∀v a' H',Mv (hF r) H2 H'->PZ H2 r a'->a'.ma=r.ma->Ou K CB CD ↑C H' a' S'->Rh H' v o->H' D=↑(.lst (ks.map V.int))/\Q v (Ot H' D (.lst (ks.map V.int++[.int 1]))):=λS' o e v a' H' m g ea h' hv=>by
     have G:=m _ _ O F;exists G
     have m2:Mv [D] H' (Ot H' D (.lst (ks.map V.int++[.int 1]))):=Mv.upd1
     have a4:H D=none:=Q0 M R
     refine dd.2 S' o e v a' _ (λc o' hc ec=>?_) (g.same S2) ea (h'.mv m2 (NT.one G trivial) (λz hz q=>?_)) ?_
     .rw[qk (qr ec a4)]
      exact m c o' hc (S2 _ _ ec)
     .rw[JN.mp q]at hz
      rcases g D hz with q|q
      .exact O q
      .rw[F]at q;cases q
     .have e:(if 8<=S.kss.length then OZ.ref .toomany else .ok {S with kss:=S.kss++[ks],ds:=S.ds.map (cy ks)} .non)= .ok S' o:=e
      split at e
      .cases e
      .cases e;exact hv
    have rest:∀kx,RU H2 kx ks->kx∉hF r->∀Q':VK,(∀v H',H' D=↑(.lst (ks.map V.int))->Q v (Ot H' D (.lst (ks.map V.int++[.int 1])))->Q' v H')->nW K CB CD C x [-r.ma,-kx] H2 Q' E:=λkx a3 a1 Q' hQ=>#[r,S,n,kx,ks,Z,o2,ok,J,a3,a1,k8,W.1,λS' o e v a' H' m g ea h' hv=>let⟨G,Y⟩:=a2 S' o e v a' H' m g ea h' hv;hQ v H' G Y]
    exists 0,r.ma,Z,o2.no,0,D,0,.inl (OA.of F)
    refine#[4,(by decide:(0:Int)<2),7,qL (λ_=>?_) (λ_=>?_)]
    .refine#[0,rest D (.inl F) O _ λv H' G Y=>?_]
     exact#[0,.inl #[25,OA.of G],D,4,G,by rw[JI,JV];omega,0,Y]
    .refine#[0,p,1,OC.of X,Z,rest L (.inr (.inl N)) nk _ λv H' G Y=>?_]
     exact#[0,.inl #[25,OA.of G],D,4,G,by rw[JI,JV];omega,0,Y]
   |_=>exact absurd (aT y) (by dsimp only[qX];decide +kernel)
  refine#[3,qL (λy=>?_) (λy9=>?_)]
  .cases d with
   |turnB bn=>exact#[0,r.ma,Z,u.no,0,p,1,OC.of t,Z,r,S,n,bn,Z,u,ok,J,B]
   |_=>exact absurd (aT y) (by dsimp only[qX];decide +kernel)
  refine#[3,qL (λy=>?_) (λa0=>?_)]
  .cases d with
   |close age=>exact#[0,r.ma,Z,u.no,0,p,1,OC.of t,Z,r,S,n,age,Z,u,ok,J,B]
   |_=>exact absurd (aT y) (by dsimp only[qX];decide +kernel)
  cases d with
  |addD nm near far most=>exact(y1 (JM Z)).elim
  |addB nm step=>exact(y2 (JM Z)).elim
  |teach dn bn=>exact(y3 (JM Z)).elim
  |press bn deed ds=>exact(y4 (JM Z)).elim
  |play k dn=>exact(y5 (JM Z)).elim
  |lose bn=>exact(y6 (JM Z)).elim
  |tear bn=>exact(y7 (JM Z)).elim
  |turnH ks=>exact(y8 (JM Z)).elim
  |turnB bn=>exact(y9 (JM Z)).elim
  |close age=>exact(a0 (JM Z)).elim
  |forget dn bn=>exact#[0,r.ma,Z,u.no,0,p,1,OC.of t,7,p,1,OC.of t,Z,r,S,n,dn,bn,Z,u,ok,J,B]
def w9(a:At K mg "_law_did" jh ["_law_house","_law_deed_here"])(T:ON K mg tk)(M:Rp K mg x fI)(Y_law_called:Dy P w K mg base "_law_called" X0 9 (p6 K CB CD C x Qa))(zE:Df P w K mg base "_law_class" ["_law_caught"] 1 (pY K x)):Df P w K mg base "_law_did" X0 10 (fR K CB CD C Qa):=by
 refine a.dq O5 λf _ A _ s H vs Q E hr h=>?_
 .let#[I,S,n,l,d,rfl,ho,ok,n9,hl,hd,a1,hw,q]:=h
  exists _,(qg (Qx (qD (qc zi (qc zi qa))) (cL Z (qM (qB (i:=2) O5.nd Z (SF Z)) (qM (qB (i:=3) O5.nd Z (SF Z)) Qs))))
   (qg (EL (HK Y_law_called hr.mo O5.nd Z (SF Z) (qc (qv 0) (qc (qv 1) qa)) (i:=2)) (λ_=>(qh (qC (i:=3) O5.nd Z (SF Z) (qv 4)))) Z Z Z M.g_CodeError M.e_CodeError Z O5.nd (i:=4) Z Z)
   (qg (qA (qw a6 (qv 3) zi (qy _)) (qh (qm (qD (qc qi (qc (qv 2) qa))))) qp)
   (qg (qC (i:=5) O5.nd Z (SF Z) (qu zE hr.mo (qc (qv 3) qa)))
   (qh (qm (qD (qc qi (qc (qv 5) (qc (gF (qw qQ (qv 5) qi (qy _)) (Fq M.bp.f (qv 3)) zi) qa))))))))))
  refine#[Oc,λt0 a0=>#[t0,0,OC.of qb,11,?_]]
  have L:=Oq.upd (o:= .tup [.non,.non]) a0
  generalize Ot H t0 (.tup [.non,.non])=H0 at L⊢
  refine v8 ?_
  refine Dt (λJ H'=>(∃(v:V) (a':Ha),J=[↑(-I.ma),↑(-l),↑v,some .non,none,none]/\Mv (hF I) H H'/\PZ H I a'/\a'.ma=I.ma/\Ou K CB CD ↑C H' a' (Qr S (zm S d))/\∃S' o,zm S d= .ok S' o/\Rh H' v o)\/
   ∃(e:Δ) (r:Rf) (dd:Κ),J=[↑(-I.ma),↑(-l),some .non,↑(-e),none,none]/\zm S d= .ref r/\Oq H H'/\H' e=↑(Rl e (.ref (Gu x r)) dd)/\∀n,r= .badp n->∃dx,dd=↑dx/\H' dx=↑(.xd [("place",.int n)])) (λD' hD=>?_) ?_
  .have base:∀(r:Rf),zm S d= .ref r->∀(H':Hp) (e:Δ) (dd:Κ),Oq H0 H'->H' e=↑(Rl e (.ref (Gu x r)) dd)->(∀n,r= .badp n->∃dx,dd=↑dx/\H' dx=↑(.xd [("place",.int n)]))->(∀cls N,H' e=↑(Rl e cls N)->wN K x.e cls)/\D'.nx [↑(-I.ma),↑(-l),some .non,↑(-e),none,none] H':=λr O H' e dd s' p hp=>by
    let#[j,cl]:=M.cl r
    exact#[λcls N hc=>by rw[HH p hc];exact cl.s,hD _ _ (.inr #[e,r,dd,Z,O,L.trans s',p,hp])]
   refine#[2,I,S,n,l,d,Z,ho.same L,ok,n9,hl.same L,hd,a1,hw,λr O=>?_,λS' o U v a' H' m g W h' X=>?_]
   .have D:=base r O
    cases r with
    |badp n=>exactλH' e dx s' p G=>#[e,Z,(D H' e ↑dx s' p (λF c=>by cases c;exact#[dx,Z,G])).1,0,(D H' e ↑dx s' p (λF c=>by cases c;exact#[dx,Z,G])).2]
    |known=>exactλH' e s' p=>#[e,Z,(D H' e none s' p (λF c=>by cases c)).1,0,(D H' e none s' p (λF c=>by cases c)).2]
    |full=>exactλH' e s' p=>#[e,Z,(D H' e none s' p (λF c=>by cases c)).1,0,(D H' e none s' p (λF c=>by cases c)).2]
    |worn=>exactλH' e s' p=>#[e,Z,(D H' e none s' p (λF c=>by cases c)).1,0,(D H' e none s' p (λF c=>by cases c)).2]
    |unknown=>exactλH' e s' p=>#[e,Z,(D H' e none s' p (λF c=>by cases c)).1,0,(D H' e none s' p (λF c=>by cases c)).2]
    |toomany=>exactλH' e s' p=>#[e,Z,(D H' e none s' p (λF c=>by cases c)).1,0,(D H' e none s' p (λF c=>by cases c)).2]
   .refine hD _ _ (.inl #[v,a',Z,L.mv.trans m,g.same L,W,?_,S',o,U,X])
    rw[U];exact h'
  .rintro J H' (⟨v,a',rfl,m,g,W,h',S',o,U,X⟩|⟨e,r,dd,rfl,O,s',p,hp⟩)
   .refine#[3,Qb (JM Z) ?_]
    refine#[0,Oc,λt y=>?_]
    have u:=Oq.upd (o:= .tup [.str "told",v]) y
    refine q t a' _ (m.trans u.mv) g W (h'.same u) ?_
    rw[U]
    exact#[v,qb,X.same u]
   .let#[j,cl]:=M.cl r
    refine#[3,zz (JT (by intro z;cases z)) ?_]
    refine#[0,e,_,dd,vf r,j,Z,p,cl,λH3 R=>?_]
    have Y:=R _ _ p;rw[O]at q;have B:∀t,H3 t=none->Q (-t) (Ot H3 t (.tup [.str "refused",.str (vf r),DX r])):=λt y=>q t I _ ((s'.trans R).trans (Oq.upd y)).mv PZ.refl Z (ho.same ((s'.trans R).trans (Oq.upd y))) qb
    exists 20
    cases r with
    |badp n=>
     let#[dx,rfl,G]:=hp n Z;refine Qb (JM Z) ?_
     exact#[0,e,dx,[("place",.int n)],.int n,Z,Y,R _ _ G,Z,Od,λt y=>B t y]
    |known=>exact zz nofun #[Od,λt y=>B t y]
    |full=>exact zz nofun #[Od,λt y=>B t y]
    |worn=>exact zz nofun #[Od,λt y=>B t y]
    |unknown=>exact zz nofun #[Od,λt y=>B t y]
    |toomany=>exact zz nofun #[Od,λt y=>B t y]
end
end Lw
namespace L3
open PySem PySem.Spec PyProof.Rows L2
structure Vb(O:Β->HO)(IT:Ψ->Δ->Δ->Nat->Prop)(IS:Ψ->Δ->Array Γ->Prop):Prop where
 seq:∀{X:Cx} {tx:Oo} {σ:L2.St} {H:Hp} {s:Θ} {a:Δ} {xs:Β},L2.Ov X tx σ H s->Rd H a (O xs)->∃its:Ζ,OB xs its/\IS s.heap a its.toArray
 inj:∀{X:Cx} {tx:Oo} {σ:L2.St} {H:Hp} {s:Θ} {a:Δ} {xs ys:Β},L2.Ov X tx σ H s->Rd H a (O xs)->Rd H a (O ys)->xs=ys
 obj:∀{h:Ψ} {i a:Δ} {n:Nat},IT h i a n->∃o,h.get? i=↑o/\∀v,o.data≠ .cell v
 at_:∀{h h':Ψ} {i a:Δ} {n:Nat},IT h i a n->(∀o,h.get? i=↑o->h'.get? i=↑o)->IT h' i a n
 dr:∀{prog:Ξ} {w:Ω} {A:SO},A.handled=none->∀(it t:Δ),t≠it->∀its:Array Γ,Draws prog w A it [it,t] its.size (λi v=>its[i]? =↑v) (λi h=>IT h it t i/\IS h t its)
 call:∀{prog:Ξ} {w:Ω} {A:SO} {E:Om} {s:Θ} {l1 l2:Δ} {xs ys:Array Γ} {Q:Om},IS s.heap l1 xs->IS s.heap l2 ys->
  (∀h',IsZip h' (s.heap.objs.size+4) (s.heap.objs.size+2) (s.heap.objs.size+3) .none->IsPair h' (s.heap.objs.size+2) (-s.heap.objs.size) (.ref (s.heap.objs.size+1))->
   IsPair h' (s.heap.objs.size+3) .none .none->IT h' s.heap.objs.size l1 0->IT h' (s.heap.objs.size+1) l2 0->
   (∀c o,s.heap.get? c=↑o->h'.get? c=↑o)->Q (.ref (s.heap.objs.size+4)) {s with heap:=h'})->ε (model prog w) A (call (.type "zip") [-l1,-l2]) Q E s
def JB:Vb .tup Ψ.IsTupleIter Ψ.IsTuple:=#[λI h=>by let#[a,r,p,_]:=I.tuple (.inl h);exact#[a,r,p],λI h h'=>I.tuple_inj (.inl h) (.inl h'),λh=>by let#[o,e,_,d]:=h;exact#[o,e,λv y=>by rw[d]at y;cases y],λh k=>h.at k,Br,BH]
def Jx:Vb .lst Ψ.IsListIter Ψ.IsList:=#[λI h=>by let#[c,r,p,_]:=I.list (.inl h);exact#[c,r,p.isList],λI h h'=>I.list_inj (.inl h) (.inl h'),λh=>by let#[o,e,_,d]:=h;exact#[o,e,λv y=>by rw[d]at y;cases y],λh k=>h.at k,Draws.list,λh1 g q=>call_zip_2 h1 g λh' i a f i1 i2 _ hk=>q h' i a f i1 i2 hk]
noncomputable def DI(O:Β->HO)(a c:Δ):It:=
  #[λi H=>∃xs ys x y,Rd H a (O xs)/\Rd H c (O ys)/\xs[i]? =↑x/\ys[i]? =↑y,
   λi H v H'=>∃p x y,H p=none/\v= .ref p/\(∀xs,Rd H a (O xs)->xs[i]? =↑x)/\(∀ys,Rd H c (O ys)->ys[i]? =↑y)/\H'=Ot H p (.tup [x,y]),
   λi H=>∃xs,Rd H a (O xs)/\xs.length=i]
def Ai(j:Vb O IT IS){K:ι}{x1}(J S z TI TO i1 i2:Δ)(d1:TI≠z)(d2:TO≠z)(d3:i1≠z)(d4:i2≠z)(d5:TI≠TO)(d6:TI≠i1)(d7:TI≠i2)(d8:TO≠i1)(d9:TO≠i2)(r:i1≠i2):
  Rq P w K (.Tuple a0 x1 pos) (DI O J S) [z,TI,TO,i1,i2] z (λi h=>IsZip h z TI TO .none/\IsPair h TI (-i1) (-i2)/\(∃a b,IsPair h TO a b)/\IT h i1 J i/\IT h i2 S i) where
 mem:=by simp
 obj:=λi h st b d=>by
  let#[G,g,#[a,b',l],c1,c0]:=st;let#[o1,b3,b6]:=j.obj c1;let#[o2,b7,b4]:=j.obj c0;simp only[JO,JX,JY]at d;rcases d with rfl|rfl|rfl|rfl|rfl
  .exact#[_,G,λv y=>by have y':Sg _=Sf v:=y;cases y']
  .exact#[_,g,λv y=>by have y':Data.seq _ _=Sf v:=y;cases y']
  .exact#[_,l,λv y=>by have y':Data.seq _ _=Sf v:=y;cases y']
  .exact#[_,b3,b6]
  .exact#[_,b7,b4]
 keep:=λi h h' st k=>by
  let#[G,g,#[a,b',l],h1,h2]:=st
  exact#[k z (by simp) _ G,k TI (by simp) _ g,#[a,b',k TO (by simp) _ l],j.at_ h1 λo e=>k i1 (by simp) o e,j.at_ h2 λo e=>k i2 (by simp) o e]
 item:=by
  intro X hP hw hK n i tx s σ H E I R st hg;subst hP hw hK;let#[xs,ys,x,y,m,Q,hx,hy]:=hg;let#[its,rv,p]:=j.seq I m;let#[D,c3,p2]:=j.seq I Q;let#[u,hu,ru]:=rv.get hx;let#[u2,U,b5]:=c3.get hy;let#[G,g,#[a,b',l],h1,h2]:=st;have n1:∀c∈[z,TI,TO,i1,i2],J≠c:=λc n=>wZ m (R c n).1
  have n2:∀c∈[z,TI,TO,i1,i2],S≠c:=λc n=>wZ Q (R c n).1
  have Z:RP z TI TO i1 i2 [i1,J] [i2,S]:=#[d1,d2,d3,d4,d5,d6,d7,d8,d9,r,by simp [Ne.symm d3,Ne.symm (n1 z (by simp))],by simp [Ne.symm d4,Ne.symm (n2 z (by simp))],by simp [d8,Ne.symm (n1 TO (by simp))],by simp [d9,Ne.symm (n2 TO (by simp))],by simp [Ne.symm r,Ne.symm (n1 i2 (by simp))],by simp [r,Ne.symm (n2 i1 (by simp))]]
  have b1:i<its.toArray.size:=by have:=(JZ.mp hu).1;simpa using this
  have Y:i<D.toArray.size:=by have:=(JZ.mp U).1;simpa using this
  have W:s.TypeIs (-z) "zip":=#[_,G,rfl]
  unfold pyNext;refine JH (MR (wpAny_callSpecial?_slot (name:=SV "__next__") W NP
   (LK NP W F.entry_zip_next
    (Bc (j.dr (A:=X.A.in1) (I.ok.hd n) i1 J (n1 i1 (by simp)) its.toArray) (j.dr (A:=X.A.in1) (I.ok.hd n) i2 S (n2 i2 (by simp)) D.toArray) Z G g l #[h1,p] #[h2,p2] b1 Y
     λv v2 h' tk hv b2 ho a3 q1 q2 ht hk=>JP #[_,rfl,?_]) (F.args_zip_next_1 _))))
  have ev:v=u:=by
   have C:its[i]? =↑v:=by simpa using hv
   rw[hu]at C;exact(Lb C).symm
  have c2:v2=u2:=by
   have C:D[i]? =↑v2:=by simpa using b2
   rw[U]at C;exact(Lb C).symm
  subst ev c2;refine wpAny_letOwnedTupleGo_zip ho λt M f=>?_
  have lt:∀c∈[z,TI,TO,i1,i2],c<s.heap.objs.size:=λc n=>by
   simp only[JO,JX,JY]at n;rcases n with rfl|rfl|rfl|rfl|rfl
   .exact JS G
   .exact JS g
   .exact JS l
   .let#[_,e,_]:=j.obj h1;exact JS e
   .let#[_,e,_]:=j.obj h2;exact JS e
  have L:IsPair t TI (-i1) (-i2):=f.extBut _ _ d1 (hk _ _ d1 d5 d6 d7 g)
  have B:IsPair t TO v v2:=f.extBut _ _ d2 a3
  have a5:IT t i1 J (i+1):=j.at_ q1.1 λo e=>f.extBut _ _ d3 e
  have a4:IT t i2 S (i+1):=j.at_ q2.1 λo e=>f.extBut _ _ d4 e
  exists .ref s.heap.objs.size,Ot H s.heap.objs.size (.tup [x,y]),?_,rfl,#[_,x,y,I.hok.fresh (JL _),rfl,λzs N=>by rw[j.inj I N m];exact hx,λzs N=>by rw[j.inj I N Q];exact hy,rfl],#[M,L,#[8,B],a5,a4]
  .show L2.Ov X tx σ _ {s with heap:=t,toks:=tk}
   refine jA (s:=s) (its:=[v,v2]) I (ch:=[z,TI,TO,i1,i2]) (λb o d q=>?_) R (λb d=>?_) (JL _) (by show 2<=ζ;decide) (.cons ru (.cons b5 .nil)) ?_
   .simp only[JO,JX,JY,not_or]at d
    exact f.extBut b o d.1 (hk b o d.1 d.2.2.1 d.2.2.2.1 d.2.2.2.2 q)
   .simp only[JO,JX,JY]at d
    rcases d with rfl|rfl|rfl|rfl|rfl
    .exact#[_,M]
    .exact#[_,L]
    .exact#[_,B]
    .let#[o,e,_]:=j.obj a5;exact#[o,e]
    .let#[o,e,_]:=j.obj a4;exact#[o,e]
   .exact#[_,f.extBut _ _ (LB (lt z (by simp))) ht,rfl,_,rfl]
  .intro b d
   rw[qk (J4 (lt b d))]
   exact(R b d).1
 done:=by
  intro X hP hw hK n i tx s σ H E I R st hg;subst hP hw hK;let#[xs,m,hx]:=hg;let#[its,rv,p]:=j.seq I m;let#[G,g,#[a,b',l],h1,h2]:=st;have n1:∀c∈[z,TI,TO,i1,i2],J≠c:=λc n=>wZ m (R c n).1
  have Z:RP z TI TO i1 i2 [i1,J] [i2]:=#[d1,d2,d3,d4,d5,d6,d7,d8,d9,r,by simp [Ne.symm d3,Ne.symm (n1 z (by simp))],by simp [Ne.symm d4],by simp [d8,Ne.symm (n1 TO (by simp))],by simp [d9],by simp [Ne.symm r,Ne.symm (n1 i2 (by simp))],by simp [r]]
  have hl:its.toArray.size=i:=by rw[J9,<- rv.length];exact hx
  have W:s.TypeIs (-z) "zip":=#[_,G,rfl]
  unfold pyNext;refine JH (MR (wpAny_callSpecial?_slot (name:=SV "__next__") W NP
   (LK NP W F.entry_zip_next
    (Dc (j.dr (A:=X.A.in1) (I.ok.hd n) i1 J (n1 i1 (by simp)) its.toArray) Z G g #[by rw[hl];exact h1,p] λh' e hk he=>?_) (F.args_zip_next_1 _))))
  let#[o,ho,b0]:=he;refine JH (wpAny_isInstance (T:="StopIteration") (b:=true) #[o,ho,b0] isSubtype_stop ?_)
  refine JP #[rfl,FC (t':=s.toks) I (ch:=[z,i1]) (λb o d e=>?_) (λb d=>R b ?_)]
  .simp only[JO,JX,JY,not_or]at d
   exact hk b o d.1 d.2 e
  .simp only[JO,JX,JY]at d
   rcases d with rfl|rfl<;>simp
 self:=λ_ _ _ _ _ st h=>wpAny_pyIter_zip st.1 h
def EA(O:Β->HO)(ta:TA):TI:=λσ H R=>ta σ H λd H1=>∃c a xs ys,d=[-c,-a]/\Rd H1 c (O xs)/\Rd H1 a (O ys)/\R (DI O c a) H1
def EQ(o:Vb O IT IS){a b:Φ}{p:Pos}{x1}(hg:Gl X "zip")(hm:X.mg "zip"=none)(ha:PA X [a,b] ta)(h1:ZH a=true:=by rfl)(h2:ZH b=true:=by rfl):
  PI X (.Tuple g x1 tpos) (.Call (.Name "zip" p) [a,b] [] pos) (EA O ta):=by
 intro tx s σ H R I h;have l:θ [b] X.env=[(false,eval b X.env)]:=eA h2
 refine Call_ (bQ I hg hm PyProof.Rows.boot_zip (MH (qG (ha pos tx s σ H _ I h) λQ c G=>?_) (by rw[eA h1,l]) (by rw[l];rfl)))
 let#[P,H1,f,K,J]:=G;let#[A,B,xs,ys,e,N,E,q]:=J;subst e;let#[u,v,rfl,C,L]:=K.two;cases C;cases L;let#[z,M,D]:=o.seq f N;let#[y,F,p2]:=o.seq f E;have d:∀(n i j:Nat),i≠j->n+i≠n+j:=λn i j h=>by lia
 refine o.call D p2 λh' x r t h1 h2 hk=>wpAny_pyIter_zip x ?_
 refine#[c.heap.objs.size+4,[c.heap.objs.size+4,c.heap.objs.size+2,c.heap.objs.size+3,c.heap.objs.size,c.heap.objs.size+1],8,H1,Z,f.kept (t':=c.toks) hk,
  Ai o A B (c.heap.objs.size+4) (c.heap.objs.size+2) (c.heap.objs.size+3) c.heap.objs.size (c.heap.objs.size+1) (d _ 2 4 ⋯) (d _ 3 4 ⋯) (d _ 0 4 ⋯) (d _ 1 4 ⋯) (d _ 2 3 ⋯) (d _ 2 0 ⋯) (d _ 2 1 ⋯) (d _ 3 0 ⋯) (d _ 3 1 ⋯) (d _ 0 1 ⋯),#[x,r,#[8,t],h1,h2],λb w=>?_,q]
 have m:c.heap.objs.size<=b:=by
  simp only[JO,JX,JY]at w;rcases w with rfl|rfl|rfl|rfl|rfl
  .exact NQ _ 4
  .exact NQ _ 2
  .exact NQ _ 3
  .exact JL _
  .exact NQ _ 1
 exact f.fpOk m (f.hok.fresh m)
def vY(d:Vb O IT IS){a b:Φ}{p:Pos}{x1}(hg:Gl X "zip")(hm:X.mg "zip"=none)(ha:QA X [a,b] ta)(h1:ZH a=true:=by rfl)(h2:ZH b=true:=by rfl):
  QI X (.Tuple c x1 tpos) (.Call (.Name "zip" p) [a,b] [] pos) (EA O ta):=#[EQ d hg hm ha.h h1 h2]
def pE{O:Β->HO}{K:ι}{te:TE}{H:Hp}{Q:VK}{xs ys:Β}(hl:xs.length=ys.length)(hn:xs.length<=ζ)(Pv:Nat->Β->Hp->Prop)(r:Pv 0 [] H)
  (hk:∀i a H,Pv i a H->Rd H h (O xs)/\Rd H j (O ys))
  (hs:∀i a H p x y,xs[i]? =↑x->ys[i]? =↑y->a.length=i->Pv i a H->H p=none->te (↑x::↑y::Q1 js σ) (Ot H p (.tup [x,y])) λv H3=>Pv (i+1) (a++[v]) H3)
  (hd:∀a H,a.length=xs.length->Pv xs.length a H->∀p,H p=none->Q (-p) (Ot H p (.lst a))):
  wV 2 js (xn K 2 (rJ (aR 0) (rJ (aR 1) CV))) te σ Q (DI O h j) H:=by
 exists λi m a q H=>m=xs.length-i/\i<=xs.length/\a.length=i/\Pv i a H/\∃o o',q=o::o'::Q1 js σ,#[xs.length,by simp,Li _,Z,r,none,none,Z]
 rintro i m a q H ⟨rfl,hi,c,p,o,o',rfl⟩
 let#[g,n]:=hk i a H p
 by_cases d:i<xs.length
 .have f:i<ys.length:=by lia
  refine .inr #[#[xs,ys,xs[i],ys[i],g,n,by simp [d],by simp [f]],by lia,λv H' y=>?_]
  let#[l,x,y,s,rfl,w,u,rfl]:=y;exists l,0,OC.of qb,11
  exact#[λv H3=>Pv (i+1) (a++[v]) H3,λv H3 t=>#[xs.length-(i+1),gN d,Z,d,by simp [c],t,6],hs i a _ l x y (w xs g) (u ys n) c p s]
 .have e:i=xs.length:=by lia
  subst e;exact .inl #[#[xs,g,Z],hd a H c p]
end L3
namespace Lw
open PySem L2 L3
section
variable{P:Ξ}{w:Ω}{K:ι}{mg:On}{base:Ψ}{tk:Nat->Tok}
theorem jZ(a:At K mg "_law_same" cx ["_law_found","_law_due_here"])(T:ON K mg tk):∀n:Nat,n<=8->Df P w K mg base "_law_same" Q2 (n+1) (wf n)
 |0,_=>by
  refine a.dq e7 λf _ A _ s H G Q E C h=>?_
  .let#[x,y,rfl,e,q]:=h
   exists _,(qg (qA (zw (qq iZ T.b_isinstance J6 (qc (qv 1) (qc (qD (qc (qZ (v:= .ty "list") Z T.b_list LA Z) (qc (qZ (v:= .ty "tuple") Z T.b_tuple J8 Z) qa))) qa)))) Qt qp)
   (qg (qA (QW.pt (Zb (qw a6 (qv 1) zi (qy _)) (Q5 (zw (qq zc T.b_isinstance J6 (qc (qv 1) (qc (qZ (v:= .ty "str") Z T.b_str LZ Z) qa))))))) (qh (qm (Qp (Qh qQ (qv 0) (qv 1) (qy _)) (QP (Qh qQ (qq zc T.b_isinstance J6 (qc (qv 0) (qc (qZ (v:= .ty "str") Z T.b_str LZ Z) qa))) (qq zc T.b_isinstance J6 (qc (qv 1) (qc (qZ (v:= .ty "str") Z T.b_str LZ Z) qa))) (qy _)))))) qp)
   (qh (qm (Qp (qq zc T.b_isinstance J6 (qc (qv 0) (qc (qZ (v:= .ty "int") Z T.b_int MV Z) qa))) (Qp (iy (qq zc T.b_isinstance J6 (qc (qv 0) (qc (qZ (v:= .ty "bool") Z T.b_bool NN Z) qa)))) (QP (Qh qQ (qv 0) (qv 1) (qy _)))))))))
   cases e with
   |int _ i=>
    refine#[0,Oc,λp g=>#[_,p,["list","tuple"],"int",Z,qb,.int i,by simp,0,?_]]
    rw[show(["list","tuple"].any (Ql "int"))=false from by decide]
    refine zu #[3,?_]
    refine qL (λz=>nomatch (J5 z)) (λ_=>#[10,"str","int",Z,.int i,by simp,0,?_])
    rw[show Ql "int" "str"=false from by decide]
    refine zu #[10,"int","int",Z,.int i,by simp,0,?_]
    rw[show Ql "int" "int"=true from by decide]
    refine zZ #[10,"bool","int",Z,.int i,by simp,0,?_]
    rw[show Ql "int" "bool"=false from by decide]
    refine#[0,zZ #[47,?_]]
    rw[JM Z];exact q _ (Oq.upd g)
   |str _ z=>
    refine#[0,Oc,λp g=>#[_,p,["list","tuple"],"str",Z,qb,.str z,by simp,0,?_]]
    rw[show(["list","tuple"].any (Ql "str"))=false from by decide]
    refine zu #[3,?_]
    refine qL (λz=>nomatch (J5 z)) (λ_=>#[10,"str","str",Z,.str z,by simp,0,?_])
    rw[show Ql "str" "str"=true from by decide]
    refine zZ #[20,?_]
    refine qL (λ_=>?_) (λy=>absurd (JM Z) y)
    exists 10,"str","str",Z,.str z,by simp,10,"str","str",Z,.str z,by simp,Z
    rw[JM Z];exact q _ (Oq.upd g)
   |non _=>
    refine#[0,Oc,λp g=>#[_,p,["list","tuple"],"NoneType",Z,qb,.non,by simp,0,?_]]
    rw[show(["list","tuple"].any (Ql "NoneType"))=false from by decide]
    refine zu #[3,?_]
    refine qL (λ_=>#[20,?_]) (λz=>absurd (JM Z) z)
    refine qL (λ_=>?_) (λy=>absurd (JM Z) y)
    exists 10,"str","NoneType",Z,.non,by simp,10,"str","NoneType",Z,.non,by simp,Z
    rw[JM Z];exact q _ (Oq.upd g)
 |n+1,hn=>by
  have I:=jZ a T n (by lia)
  refine a.dq e7 λf _ A _ s H G Q E C h=>?_
  .let#[x,y,rfl,e,q]:=h
   exists _,(qg (qA (zw (qq iZ T.b_isinstance J6 (qc (qv 1) (qc (qD (qc (qZ (v:= .ty "list") Z T.b_list LA Z) (qc (qZ (v:= .ty "tuple") Z T.b_tuple J8 Z) qa))) qa)))) (qg (qA (QW.pt (Zb (qw bG (qq zc T.b_isinstance J6 (qc (qv 0) (qc (qZ (v:= .ty "list") Z T.b_list LA Z) qa))) (qq zc T.b_isinstance J6 (qc (qv 1) (qc (qZ (v:= .ty "list") Z T.b_list LA Z) qa))) (qy _)) (Q5 (qw bG (qq zc T.b_isinstance J6 (qc (qv 0) (qc (qZ (v:= .ty "tuple") Z T.b_tuple J8 Z) qa))) (qq zc T.b_isinstance J6 (qc (qv 1) (qc (qZ (v:= .ty "tuple") Z T.b_tuple J8 Z) qa))) (qy _))))) (qh (qm QH)) qp)
   (qh (qm (Qp (Qh qQ (qq qN T.b_len Ld (qc (qv 0) qa)) (qq qN T.b_len Ld (qc (qv 1) qa)) (qy _)) (QP (qq (bU Z) T.b_all Nq (qc (QR (own:=["_law_one","_law_other"]) (fr:=[]) (js:=[]) Z (vY JB Z T.b_zip (qc (qv 0) (qc (qv 1) qa))) Z (λ_ _ h=>nomatch h) Z (gQ Z nofun nofun nofun) (λ_ _ _ _=>vx (K:=K) Z 2 Z (qM (qB (i:=0) (show SQ (["_law_one","_law_other"]:Α)from by decide +kernel) Z (SF Z) (.inr Z)) (qM (qB (i:=1) (show SQ (["_law_one","_law_other"]:Α)from by decide +kernel) Z (SF Z) (.inr Z)) Qs))) (λ_ _ _ _=>(qu I C.mo (qc (qv 0) (qc (qv 1) qa))))) qa))))))) qp)
   (qg (qA (QW.pt (Zb (qw a6 (qv 1) zi (qy _)) (Q5 (zw (qq zc T.b_isinstance J6 (qc (qv 1) (qc (qZ (v:= .ty "str") Z T.b_str LZ Z) qa))))))) (qh (qm (Qp (Qh qQ (qv 0) (qv 1) (qy _)) (QP (Qh qQ (qq zc T.b_isinstance J6 (qc (qv 0) (qc (qZ (v:= .ty "str") Z T.b_str LZ Z) qa))) (qq zc T.b_isinstance J6 (qc (qv 1) (qc (qZ (v:= .ty "str") Z T.b_str LZ Z) qa))) (qy _)))))) qp)
   (qh (qm (Qp (qq zc T.b_isinstance J6 (qc (qv 0) (qc (qZ (v:= .ty "int") Z T.b_int MV Z) qa))) (Qp (iy (qq zc T.b_isinstance J6 (qc (qv 0) (qc (qZ (v:= .ty "bool") Z T.b_bool NN Z) qa)))) (QP (Qh qQ (qv 0) (qv 1) (qy _)))))))))
   cases e with
   |int _ i=>
    refine#[0,Oc,λp g=>#[_,p,["list","tuple"],"int",Z,qb,.int i,by simp,0,?_]]
    rw[show(["list","tuple"].any (Ql "int"))=false from by decide]
    refine zu #[3,?_]
    refine qL (λz=>nomatch (J5 z)) (λ_=>#[10,"str","int",Z,.int i,by simp,0,?_])
    rw[show Ql "int" "str"=false from by decide]
    refine zu #[10,"int","int",Z,.int i,by simp,0,?_]
    rw[show Ql "int" "int"=true from by decide]
    refine zZ #[10,"bool","int",Z,.int i,by simp,0,?_]
    rw[show Ql "int" "bool"=false from by decide]
    refine#[0,zZ #[47,?_]]
    rw[JM Z];exact q _ (Oq.upd g)
   |str _ z=>
    refine#[0,Oc,λp g=>#[_,p,["list","tuple"],"str",Z,qb,.str z,by simp,0,?_]]
    rw[show(["list","tuple"].any (Ql "str"))=false from by decide]
    refine zu #[3,?_]
    refine qL (λz=>nomatch (J5 z)) (λ_=>#[10,"str","str",Z,.str z,by simp,0,?_])
    rw[show Ql "str" "str"=true from by decide]
    refine zZ #[20,?_]
    refine qL (λ_=>?_) (λy=>absurd (JM Z) y)
    exists 10,"str","str",Z,.str z,by simp,10,"str","str",Z,.str z,by simp,Z
    rw[JM Z];exact q _ (Oq.upd g)
   |non _=>
    refine#[0,Oc,λp g=>#[_,p,["list","tuple"],"NoneType",Z,qb,.non,by simp,0,?_]]
    rw[show(["list","tuple"].any (Ql "NoneType"))=false from by decide]
    refine zu #[3,?_]
    refine qL (λ_=>#[20,?_]) (λz=>absurd (JM Z) z)
    refine qL (λ_=>?_) (λy=>absurd (JM Z) y)
    exists 10,"str","NoneType",Z,.non,by simp,10,"str","NoneType",Z,.non,by simp,Z
    rw[JM Z];exact q _ (Oq.upd g)
   | @tup _ c d xs ys h1 h2 hl hz hi=>
    refine#[0,Oc,λp g=>#[_,p,["list","tuple"],"tuple",Z,qb,.tup (Rd.same (Oq.upd g) h2),by simp,0,?_]]
    rw[show(["list","tuple"].any (Ql "tuple"))=true from by decide]
    have u:Oq H _:=Oq.upd (o:= .tup (["list","tuple"].map V.ty)) g
    have k1:=Rd.same u h1;have k2:=Rd.same u h2;refine zZ #[10,"list","tuple",Z,.tup k1,by simp,10,"list","tuple",Z,.tup k2,by simp,7,?_]
    refine gK Z #[10,"tuple","tuple",Z,.tup k1,by simp,10,"tuple","tuple",Z,.tup k2,by simp,7,?_]
    refine gK Z ?_
    exists 0,c,0,.inr (.inl k1),0,d,0,.inr (.inl k2),7
    refine qL (λ_=>?_) (λz=>absurd (JM (by rw[hl])) z)
    refine#[2,c,d,xs,ys,Z,k1,k2,pE (O:= .tup) hl hz (λi l m=>l=(CC i true).map V.bl/\Oq H m) #[Z,u] (λi l m ⟨_,j⟩=>#[Rd.same j h1,Rd.same j h2]) ?_ ?_]
    .rintro i l m N x y L J r ⟨rfl,j⟩ B
     have D:=j.trans (Oq.upd (o:= .tup [x,y]) B)
     refine#[2,x,y,Z,(hi i x y L J).same D,λM F=>#[?_,D.trans F]]
     rw[R3,La];rfl
    .rintro l m r ⟨rfl,j⟩ p2 t
     exists p2,0,OA.of qb
     rw[show(CC xs.length true).all id=true from by simp]
     exact q _ (j.trans (Oq.upd t))
def rW(a:At K mg "_law_same" cx ["_law_found","_law_due_here"])(T:ON K mg tk)(n:Nat)(G:Df P w K mg base "_law_same" Q2 (n+1) (wf n)):Df P w K mg base "_law_same" Q2 (n+2) (vo n):=by
 refine a.dq e7 λf _ A _ s H S Q E F h=>?_
 .let#[c,d,xs,ys,rfl,h1,u,D,L,hi,q]:=h
  exists _,(qg (qA (zw (qq iZ T.b_isinstance J6 (qc (qv 1) (qc (qD (qc (qZ (v:= .ty "list") Z T.b_list LA Z) (qc (qZ (v:= .ty "tuple") Z T.b_tuple J8 Z) qa))) qa)))) (qg (qA (QW.pt (Zb (qw bG (qq zc T.b_isinstance J6 (qc (qv 0) (qc (qZ (v:= .ty "list") Z T.b_list LA Z) qa))) (qq zc T.b_isinstance J6 (qc (qv 1) (qc (qZ (v:= .ty "list") Z T.b_list LA Z) qa))) (qy _)) (Q5 (qw bG (qq zc T.b_isinstance J6 (qc (qv 0) (qc (qZ (v:= .ty "tuple") Z T.b_tuple J8 Z) qa))) (qq zc T.b_isinstance J6 (qc (qv 1) (qc (qZ (v:= .ty "tuple") Z T.b_tuple J8 Z) qa))) (qy _))))) (qh (qm QH)) qp)
   (qh (qm (Qp (Qh qQ (qq qN T.b_len Ld (qc (qv 0) qa)) (qq qN T.b_len Ld (qc (qv 1) qa)) (qy _)) (QP (qq (bU Z) T.b_all Nq (qc (QR (own:=["_law_one","_law_other"]) (fr:=[]) (js:=[]) Z (vY Jx Z T.b_zip (qc (qv 0) (qc (qv 1) qa))) Z (λ_ _ h=>nomatch h) Z (gQ Z nofun nofun nofun) (λ_ _ _ _=>vx (K:=K) Z 2 Z (qM (qB (i:=0) (show SQ (["_law_one","_law_other"]:Α)from by decide +kernel) Z (SF Z) (.inr Z)) (qM (qB (i:=1) (show SQ (["_law_one","_law_other"]:Α)from by decide +kernel) Z (SF Z) (.inr Z)) Qs))) (λ_ _ _ _=>(qu G F.mo (qc (qv 0) (qc (qv 1) qa))))) qa))))))) qp)
   (qg (qA (QW.pt (Zb (qw a6 (qv 1) zi (qy _)) (Q5 (zw (qq zc T.b_isinstance J6 (qc (qv 1) (qc (qZ (v:= .ty "str") Z T.b_str LZ Z) qa))))))) (qh (qm (Qp (Qh qQ (qv 0) (qv 1) (qy _)) (QP (Qh qQ (qq zc T.b_isinstance J6 (qc (qv 0) (qc (qZ (v:= .ty "str") Z T.b_str LZ Z) qa))) (qq zc T.b_isinstance J6 (qc (qv 1) (qc (qZ (v:= .ty "str") Z T.b_str LZ Z) qa))) (qy _)))))) qp)
   (qh (qm (Qp (qq zc T.b_isinstance J6 (qc (qv 0) (qc (qZ (v:= .ty "int") Z T.b_int MV Z) qa))) (Qp (iy (qq zc T.b_isinstance J6 (qc (qv 0) (qc (qZ (v:= .ty "bool") Z T.b_bool NN Z) qa)))) (QP (Qh qQ (qv 0) (qv 1) (qy _)))))))))
  refine#[0,Oc,λp C=>#[_,p,["list","tuple"],"list",Z,qb,.lst (Oq.upd C _ _ u),by simp,0,?_]]
  rw[show(["list","tuple"].any (Ql "list"))=true from by decide]
  have l:Oq H _:=Oq.upd (o:= .tup (["list","tuple"].map V.ty)) C
  have k1:=l _ _ h1;have k2:=l _ _ u;refine zZ #[10,"list","list",Z,.lst k1,by simp,10,"list","list",Z,.lst k2,by simp,7,?_]
  refine gK Z #[10,"tuple","list",Z,.lst k1,by simp,10,"tuple","list",Z,.lst k2,by simp,7,?_]
  refine gK Z ?_
  exists 0,c,0,.inl (OA.of k1),0,d,0,.inl (OA.of k2),7
  refine qL (λ_=>?_) (λz=>absurd (JM (by rw[D])) z)
  refine#[2,c,d,xs,ys,Z,.inl k1,.inl k2,pE (O:= .lst) D L (λi g j=>g=(CC i true).map V.bl/\Oq H j) #[Z,l] (λi g j ⟨_,e⟩=>#[.inl (e _ _ h1),.inl (e _ _ u)]) ?_ ?_]
  .rintro i g j R x y J M r ⟨rfl,e⟩ m
   have B:=e.trans (Oq.upd (o:= .tup [x,y]) m)
   refine#[2,x,y,Z,(hi i x y J M).same B,λN I=>#[?_,B.trans I]]
   rw[R3,La];rfl
  .rintro g j r ⟨rfl,e⟩ p2 t
   exists p2,0,OA.of qb
   rw[show(CC xs.length true).all id=true from by simp]
   exact q _ (e.trans (Oq.upd t))
end
end Lw
namespace L3
open PySem PySem.Spec PyProof.Rows L2
def a7{t u:TS}(h:∀D':OU,(∀a H',u D a H'->D'.nx a H')->t D' σ H):fX t u D σ H:=h {D with nx:=u D} λ_ _ h=>h
end L3
namespace Lw
open PySem L2 L3
section
variable{K:ι}{tk:Nat->Tok}
def uj(a:At K mg "_law_shown" eL ["_law_house","_law_own_here"])(T:ON K mg tk)(U:Ro K C)(UB:Rc K CB)(L:PB K CD)(yI:Mf P w K mg base C "kept_now" q9 1 (vZ K CB CD C))(x8:Mf P w K mg base C "button_now" W3 2 (pj K CB CD C))(yM:Mf P w K mg base C "door_now" Y8 4 (mI K CB CD C))(yD:Mf P w K mg base C "opened_by" Y8 2 (pX K CB CD C))(dD:Mf P w K mg base CB "age_now" q9 1 (cY K CB))(dB:Mf P w K mg base CB "count_now" q9 1 (Z8 K CB))(dR:Mf P w K mg base CB "cells_now" q9 1 (kU K CB))(dJ:Mf P w K mg base CD "known_now" q9 1 (gb K CD))(yA:Mf P w K mg base CD "log_now" q9 1 (AK K CD))(xG:Mf P w K mg base CD "closed_now" q9 1 (pU K CD))(xU:Mf P w K mg base CD "keys_now" q9 1 (vB K CD))(zW:∀n:Nat,n<=8->Df P w K mg base "_law_same" Q2 (n+1) (wf n))(zD:Df P w K mg base "_law_same" Q2 6 (vo 4)):Df P w K mg base "_law_shown" ["_law_house","_law_own_here"] 7 (oJ K CB CD C):=by
 have dI:=zW 3 ⋯
 refine a.dq O1 λf _ A _ s H vs Q E c h=>?_
 .let#[aH,aO,S,n,rfl,D,ok,n9,q]:=h
  exists _,(qg (qA (Qg (zw (qu dI c.mo (qc (qP yI U.cl c.mo (qv 0)) (qc (qI za T.b_tuple J8 (qc (qH c (qv 1) qi) qa)) qa))))) (qh (qm QH)) qp)
   (qg (fB (Qc Ln Z (sY (oZ (qH c (qv 1) qi))) (cL Z (qM (qB (i:=2) O1.nd Z (SF Z)) (qM (qB (i:=3) O1.nd Z (SF Z)) Qs)))
   (qh (qA (Qg (zw (qu dI c.mo (qc (zb x8 U.cl c.mo (qv 0) (qc (qv 2) qa)) (qc (qD (qc (qP dD UB.cl c.mo (qv 3)) (qc (qP dB UB.cl c.mo (qv 3)) (qc (qP dR UB.cl c.mo (qv 3)) qa)))) qa))))) (qh (qm QH)) qp))))
   (qg (fB (Qc Ln Z (sY (oZ (qH c (qv 1) qi))) (cL Z (qM (qB (i:=2) O1.nd Z (SF Z)) (qM (qB (i:=4) O1.nd Z (SF Z)) Qs)))
   (qg (qC (i:=5) O1.nd Z (SF Z) (zb yM U.cl c.mo (qv 0) (qc (qv 2) qa)))
   (qg (qA (Qg (zw (qu dI c.mo (qc (zb yD U.cl c.mo (qv 0) (qc (qv 2) qa)) (qc (qI za T.b_tuple J8 (qc (qH c (qH c (qv 1) qi) (qv 2)) qa)) qa))))) (qh (qm QH)) qp)
   (qg (qA (Qg (zw (qu zD c.mo (qc (ze (qc (qP dJ L.cl c.mo (qv 5)) (qc (qP yA L.cl c.mo (qv 5)) qa))) (qc (ze (qc (qP dJ L.cl c.mo (qv 4)) (qc (qP yA L.cl c.mo (qv 4)) qa))) qa))))) (qh (qm QH)) qp)
   (qh (qA (QW.pt (Zb (qw bG (qP xG L.cl c.mo (qv 5)) (qP xG L.cl c.mo (qv 4)) (qy _)) (Q5 (qw (Gz c) (qP xU L.cl c.mo (qv 5)) (qP xU L.cl c.mo (qv 4)) (qy _))))) (qh (qm QH)) qp)))))))
   (qh (qm QH)))))
  have nk:=ok.nk;refine a7 λD1 y1=>?_
  refine#[0,aH.ma,Z,D.hh.no,aH,S,Z,D.hh,λq1 H1 s1 k1=>?_]
  have w1:=D.same s1;let#[as,ek,lk,rk]:=id w1.oo.at_.kl;refine#[0,aO.ma,0,w1.oo.g_kept,aO.kl,0,.inl #[OA.of ek,λq2 e5=>?_]]
  have u2:=Oq.upd (o:= .tup (as.map V.ref)) e5
  have d2:TY (Ot H1 q2 (.tup (as.map V.ref))) q1 S.kp:=by
   let#[bs,e,l,r]:=k1
   exact#[bs,u2 _ _ e,l,λi a P h1 h2=>OY.same u2 (r i a P h1 h2)]
  refine#[6,d2.eqv #[as,qb,lk,λi a P h1 h2=>OY.same u2 (rk i a P h1 h2)] ok.kp (by lia),λH3 s3=>#[0,zu (y1 _ _ (a7 λD2 y2=>?_))]]
  have S3:=(s1.trans u2).trans s3;have w3:=D.same S3;refine#[0,aO.ma,0,w3.oo.g_buttons,aO.bd,17,w3.oo.at_.bd,λpv b3=>#[pv,aO.bd,0,qb,Oq.upd b3 _ _ w3.oo.at_.bd,λo=>?_]]
  have M:=Oq.upd (o:=sW pv aO.bd) b3
  have m:=w3.same M;generalize Ot H3 pv (sW pv aO.bd)=v at M m⊢
  let#[ow,N]:=m.oo.at_.ow;have mf:Mv [aO.bd] v (Ot v aO.bd (.frz o (.dK (zv Rg.nm (λx=> .ref x.p) aO.bs)))):=Mv.upd1
  have nf:NT [aO.bd] v:=NT.one m.oo.at_.bd trivial
  have hf:=m.hh.mv mf nf (λz F q=>m.dj z F (JN.mp q▸lN))
  have bf:∀(i:Nat) (u:Rg) (B:Bt),aO.bs[i]? =↑u->S.bs[i]? =↑B->RD K CB (Ot v aO.bd (.frz o (.dK (zv Rg.nm (λx=> .ref x.p) aO.bs)))) u B:=λi u B W hB=>(m.oo.at_.be i u B W hB).mv mf nf (zr (λz=>by have:=N.bp i u W;rw[z,N.bd]at this;cases this)) (zr (λz=>by have:=N.bc i u W;rw[z,N.bd]at this;cases this))
  refine oW (Pv:=λi σ Hx=>Oq (Ot v aO.bd (.frz o (.dK (zv Rg.nm (λx=> .ref x.p) aO.bs)))) Hx/\∃o2 O o4 X,σ=[↑(-aH.ma),↑(-aO.ma),o2,O,o4,X]) #[Oq.refl _,26] (λi σ Hx h=>h.1 _ _ qb) ?_ ?_
  .rintro i kv pp σ Hx Y ⟨J,o2,O,o4,X,rfl⟩ a2
   let#[u,W,rfl]:=IH Y;have f2:i<S.bs.length:=by rw[<- D.oo.blen];exact(JZ.mp W).1
   have hB:=JQ f2;let#[ta,ka,b]:=bf i u _ W hB;have I:qR S.bn u.nm=↑i:=tX ok.ub (by rw[<- D.oo.at_.bn,JW,W];rfl)
   have up:=Oq.upd (o:= .tup [V.str u.nm,-u.p]) a2
   have sp:=J.trans up;have G:=hf.same sp;have bx:=b.same sp;exists pp,0,OC.of qb,11
   refine#[0,aH.ma,Z,G.no,0,aH,S,u.nm,i,0,G,I,hB,λq5 c5 H5 s5 e3 e1=>?_]
   have b5:=bx.same s5;refine#[0,u.p,Z,b5.no,u.p,ta,ka,u.ce,0,b5,0,u.p,Z,b5.no,u.p,ta,ka,u.ce,0,b5,0,u.p,Z,b5.no,u.p,ta,ka,u.ce,0,b5,λc6 H6 s6 b7=>#[Od,λq6 c1=>?_]]
   have u6:=Oq.upd (o:= .tup [.int S.bs[i].age,.int S.bs[i].cnt,-c6]) c1
   have S6:=s6.trans u6
   exact#[6,FQ (S6 _ _ e3) (S6 _ _ e1) qb (u6 _ _ b7),λH7 s7=>#[0,zu #[sp.trans (s5.trans (S6.trans s7)),26]]]
  rintro σ Hx ⟨J,o2,O,o4,X,rfl⟩
  have ex:=J _ _ (qb (H:=v) (a:=aO.bd) (o:= .frz o (.dK (zv Rg.nm (λx=> .ref x.p) aO.bs))))
  exists aO.bd,o,_,ex,λo' u' q=>by(have q:H aO.bd=↑(.frz o' u'):=q;rw[D.oo.at_.bd]at q;cases q)
  have S5:Oq H (Ot Hx aO.bd (.dK (zv Rg.nm (λx=> .ref x.p) aO.bs))):=pN D.oo.at_.bd (S3.trans M) J
  have w5:=D.same S5;generalize Ot Hx aO.bd (.dK (zv Rg.nm (λx=> .ref x.p) aO.bs))=H5 at S5 w5⊢
  clear hf bf mf nf J ex m M;refine y2 _ _ (a7 λD3 y3=>?_)
  refine#[0,aO.ma,0,w5.oo.g_doors,aO.dd,17,w5.oo.at_.dd,λpw b4=>#[pw,aO.dd,0,qb,Oq.upd b4 _ _ w5.oo.at_.dd,λo'=>?_]]
  have M:=Oq.upd (o:=sW pw aO.dd) b4
  have m:=w5.same M;generalize Ot H5 pw (sW pw aO.dd)=v at M m⊢
  have mf:Mv [aO.dd] v (Ot v aO.dd (.frz o' (.dK (zv O8.nm (λx=> .ref x.a.p) aO.ds)))):=Mv.upd1
  have nf:NT [aO.dd] v:=NT.one m.oo.at_.dd trivial
  have hf:=m.hh.mv mf nf (λz F q=>m.dj z F (JN.mp q▸cC))
  have df:∀(i:Nat) (z:O8) (y:Dh),aO.ds[i]? =↑z->S.ds[i]? =↑y->OO K CD (Ot v aO.dd (.frz o' (.dK (zv O8.nm (λx=> .ref x.a.p) aO.ds)))) z.a y.D y.L/\nu (Ot v aO.dd (.frz o' (.dK (zv O8.nm (λx=> .ref x.a.p) aO.ds)))) z.ol y.op:=λi z y F hy=>by
   let#[d,p]:=m.oo.at_.de i z y F hy;have nd:∀t∈dS z.a,t∉[aO.dd]:=λt ht q=>by have:=N.dr i z F t ht;rw[JN.mp q,N.dd]at this;cases this
   exact#[d.mv mf nf (nd _ (gT _)) (nd _ (gL _)) (nd _ (gw _)) (nd _ (cq _)),mf _ _ (zr (λt=>by have:=N.ol i z F;rw[t,N.dd]at this;cases this)) p]
  have qf:(Ot v aO.dd (.frz o' (.dK (zv O8.nm (λx=> .ref x.a.p) aO.ds)))) aO.ma=↑(.dK (Zz aO S.least)):=by rw[qk m.oo.mne];exact m.oo.mn
  have of:(Ot v aO.dd (.frz o' (.dK (zv O8.nm (λx=> .ref x.a.p) aO.ds)))) aO.od=↑(.dK (zv O8.nm (λx=> .ref x.ol) aO.ds)):=by rw[qk m.oo.dne.symm];exact m.oo.at_.od
  refine oW (Pv:=λi σ Hx=>Oq (Ot v aO.dd (.frz o' (.dK (zv O8.nm (λx=> .ref x.a.p) aO.ds)))) Hx/\∃o2 O o4 X,σ=[↑(-aH.ma),↑(-aO.ma),o2,O,o4,X]) #[Oq.refl _,26] (λi σ Hx h=>h.1 _ _ qb) ?_ ?_
  .rintro i kv pp σ Hx Y ⟨J,o2,O,o4,X,rfl⟩ a2
   let#[z,F,rfl]:=DT Y;have d0:i<S.ds.length:=by rw[<- D.oo.dlen];exact(JZ.mp F).1
   have hy:=JQ d0;let#[dl,op]:=df i z _ F hy;have hd:=ok.dr _ (JU hy);have I:qR S.dn z.nm=↑i:=tX ok.un (by rw[<- D.oo.at_.dn,JW,F];rfl)
   have up:=Oq.upd (o:= .tup [V.str z.nm,-z.a.p]) a2
   have sp:=J.trans up;refine#[pp,0,OC.of qb,11,a7 λD4 y4=>?_]
   have G:=hf.same sp;refine#[0,aH.ma,Z,G.no,0,aH,S,n,z.nm,i,0,G,ok,I,hy,λda H6 s6 d6=>y4 _ _ (a7 λD5 y5=>?_)]
   have a4:=sp.trans s6;have b1:=hf.same a4;refine#[0,aH.ma,Z,b1.no,0,aH,S,z.nm,i,0,b1,I,hy,λq7 H7 s7 c0=>?_]
   have a0:=a4.trans s7;have g7:OR H7 aO.od (.str z.nm) ↑(-z.ol):=by
    rcases jz (a0 _ _ of) z.nm with⟨e,_⟩|⟨i',x',e,b2,_,g⟩
    .exact absurd (J7.mpr #[z,JU F,Z]) (QZ e)
    .have e':qR S.dn z.nm=↑i':=by rw[<- D.oo.at_.dn];exact e
     rw[I]at e';cases e'
     rw[F]at b2;cases b2
     exact g
   refine#[0,aO.ma,0,xj (q:= .inr "opened") (a0 _ _ qf) 6 Z,0,aO.od,0,g7,z.ol,0,.inl #[OA.of (a0 _ _ op),λq8 e4=>?_]]
   have u8:=Oq.upd (o:= .tup (S.ds[i].op.map λn:Nat=>V.int (n:Int))) e4
   have lo:=hd.lo;have ll:=hd.ll;refine#[6,(Dj (n:=2) (u8 _ _ c0) qb (by lia)),λH9 s9=>#[0,zu (y5 _ _ (a7 λD6 y6=>?_))]]
   have S9:=s7.trans (u8.trans s9);have b0:=a4.trans S9;have d9:=d6.same S9;have e9:=dl.same b0;have kl:=hd.ok.nl;refine#[0,da.p,Z,d9.dr.no,da.p,da.ta,da.hk,da.bd,da.lg,6,d9.dr,hd.ok,λk1 d8 Ha sa a3 e2 c3=>?_]
   have a5:=d9.same sa;refine#[0,da.p,Z,a5.dr.no,da,6,a5,λl1 Hb sb c4=>#[Oc,λx1 e6=>?_]]
   have a1:=Oq.upd (o:= .lst [-k1,-l1]) e6
   have Sb:=sa.trans (sb.trans a1);have eb:=e9.same Sb;refine#[0,z.a.p,Z,eb.dr.no,z.a.p,z.a.ta,z.a.hk,z.a.bd,z.a.lg,6,eb.dr,hd.ok,λk2 f4 Hc sc d4 d7 e0=>?_]
   have ec:=eb.same sc;refine#[0,z.a.p,Z,ec.dr.no,z.a,6,ec,λl2 Hd sd f0=>#[Oc,λx2 b6=>?_]]
   have R:=Oq.upd (o:= .lst [-k2,-l2]) b6
   obtain rfl:d8=f4:=uH a3 e2 d4 d7
   have Sd:=sc.trans (sd.trans R);refine#[x1,x2,6,Sd _ _ qb,qb,Z,Oc,λj x y ex ey=>?_,λHe se=>#[0,zu (y6 _ _ ?_)]]
   .match j,ex,ey with
    |0,ex,ey=>cases ex;cases ey;exact(Ak ((c3.same (sb.trans a1)).same Sd) (e0.same (sd.trans R)) (λnm h=>a3.mem_iff.mp h) (by rw[a3.length_eq,JI];exact kl)).up
    |1,ex,ey=>cases ex;cases ey;exact(c4.same (a1.trans Sd)).eqv (f0.same R) (by lia)
    |j+2,ex,ey=>cases ex
   have Se:=Sb.trans (Sd.trans se);have de:=d9.same Se;have ee:=e9.same Se;refine#[0,da.p,Z,de.dr.no,da.p,da.ta,da.hk,da.bd,da.lg,6,de.dr,0,z.a.p,Z,ee.dr.no,z.a.p,z.a.ta,z.a.hk,z.a.bd,z.a.lg,6,ee.dr,7,zz (by rw[JM Z];rfl) ?_]
   refine#[0,da.p,Z,de.dr.no,da.p,da.ta,da.hk,da.bd,da.lg,6,de.dr,λt1 f5 Hg sg c2 f3 d1=>?_]
   have eg:=ee.same sg;refine#[0,z.a.p,Z,eg.dr.no,z.a.p,z.a.ta,z.a.hk,z.a.bd,z.a.lg,6,eg.dr,λt2 f6 Hi si d3 d5 f1=>?_]
   refine#[(2),⋯,BU (Oq.sqt si c2) f3 (λi a ks h1 h2=>Oq.sqt si (d1 i a ks h1 h2)) d3 d5 f1,0,zu #[b0.trans (Se.trans (sg.trans si)),26]]
  rintro σ Hx ⟨J,o2,O,o4,X,rfl⟩
  have ex:=J _ _ (qb (H:=v) (a:=aO.dd) (o:= .frz o' (.dK (zv O8.nm (λx=> .ref x.a.p) aO.ds))))
  exists aO.dd,o',_,ex,λo' u' q=>by(have q:H aO.dd=↑(.frz o' u'):=q;rw[D.oo.at_.dd]at q;cases q)
  exact y3 _ _ (q _ (pN D.oo.at_.dd (S5.trans M) J))
def ko(a:At K mg "_law_some_name" aX ["_law_box_here","_law_some","_law_other"])(T:ON K mg tk)(I:Df P w K mg base "_law_take" u7 1 az):Df P w K mg base "_law_some_name" V1 2 sK:=by
 refine a.dq kG λf _ A _ s H vs Q E u h=>?_
 .let#[b,l,z,o,c,rfl,N,Y,U,S,D,q]:=h
  exists _,(qg (qA (QW.pt (Zb (qw (HV u) (qv 1) (ze qa) (qy _)) (Q5 (qw qQ (qu I u.mo (qc (qv 0) (qc qj qa))) qj (qy _))))) (qh (qm (qv 2))) qp)
   (qh (qm (qE qS (qq uo T.b_sorted PyProof.Rows.boot_sorted (qc (qv 1) qa)) (qu I u.mo (qc (qv 0) (qc (qq qN T.b_len Ld (qc (qv 1) qa)) qa)))))))
  refine#[0,Oa,λp F=>?_]
  have B:=Oq.upd (o:= .lst []) F
  have m:=B.grc N;have J:(Ot H p (.lst [])) p=↑(.lst []):=qb
  have e:=B _ _ U;generalize Ot H p (.lst [])=H0 at B m J e⊢
  exists l,p,17,OA.of e,OA.of J
  cases z with
  |nil=>exact#[0,Qb Z (Qb Z #[0,q o H0 (m.mono (by lia))])]
  |cons s1 z=>
   refine#[0,zz Z ?_]
   refine#[0,b,(14),c,Z,m.bx,by lia,⋯,⋯,λr H1 r0 r1 t=>#[7,qL (λ_=>?_) (λ_=>?_)]]
   .exact#[0,q o H1 ((m.trans t).mono (by lia))]
   have i:=t.kp _ _ S e;refine#[0,l,s1::z,Z,i,D,λg d j pm _=>?_]
   have C:=Oq.upd (o:= .lst (d.map V.str)) j
   have G:=(m.trans t).same C;have n2:g≠b:=zk t.bx j
   have L:(Ot H1 g (.lst (d.map V.str))) g=↑(.lst (d.map V.str)):=qb
   have n:=C _ _ i;generalize Ot H1 g (.lst (d.map V.str))=H2 at C G L n⊢
   have X:=pm.length_eq;refine#[2,l,0,.inl (OA.of n),b,_,c+1,Z,G.bx,by lia,by rw[JI,LI];lia,by rw[JI];lia,λW H3 v y M=>?_]
   let#[x,R,O]:=ZI (xs:=d.map V.str) v (by rw[JI]at y⊢;lia)
   let#[nm,_,rfl]:=J7.mp O
   exact#[g,1,OA.of (M.kp _ _ n2 L),R,q nm H3 (G.trans M)]
def lP(a:At K mg "_law_new_name" a8 ["_law_box_here","_law_word"])(T:ON K mg tk)(D:Df P w K mg base "_law_take" u7 1 az):Df P w K mg base "_law_new_name" ["_law_box_here","_law_word"] 2 vM:=by
 refine a.dq Pm λf _ A _ s H W Q E C h=>?_
 .let#[b,j,c,rfl,n,U,q]:=h
  exists _,(qg (qC (i:=2) Pm.nd Z (SF Z) (ze (qc qi (qc qi (qc qi (qc qi (qc qi (qc qi (qc qi (qc qi (qc qi (qc qi (qc qi (qc qi qa))))))))))))))
   (qg (qA (qw qQ (qv 1) qi (qy _)) (qh (qC (i:=2) Pm.nd Z (SF Z) (ze (qc qi (qc qi (qc qi (qc qi (qc qi (qc qi (qc qi (qc qi (qc qi (qc qi (qc qi (qc qi qa))))))))))))))) qp)
   (qh (qm (qE qS (qv 2) (qu D C.mo (qc (qv 0) (qc qj qa))))))))
  refine#[Oj,λp v=>?_]
  refine v8 ?_
  refine jG (λe H'=>∃(l:Δ) (d:Α),Rj b c H H'/\d.length=12/\(∀z∈d,Zo z)/\H' l=↑(.lst (d.map V.str))/\l≠b/\e=[↑(-b),↑(.str j),↑(-l)]) (λD' R g=>?_) ?_
  .have t:=Oq.upd (o:= .lst ((["a","b","ab","ba","button","buttona","zzzzzzzz","key","c","d","e","f"]:Α).map V.str)) v
   refine#[3,qL (λ_=>?_) (λ_=>?_)]
   .refine#[Oj,λp2 m=>g _ _ ?_]
    exact#[p2,["a","gate","gates","back","barn","buttonaa","dd","d","shed","attic","cellar","garage"],(t.grc n).same (Oq.upd m),Z,sv nofun,qb,zk (t.grc n).bx m,Z]
   .exact g _ _ #[p,["a","b","ab","ba","button","buttona","zzzzzzzz","key","c","d","e","f"],t.grc n,Z,sv nofun,qb,zk n v,Z]
  rintro e H1 ⟨l,d,B,I,F,N,L,rfl⟩
  refine#[2,b,(12),c,Z,B.bx,by lia,⋯,⋯,λr M S O y=>?_]
  let#[x,J,G]:=ZI (xs:=d.map V.str) S (by rw[JI,I];exact O)
  let#[nm,u,rfl]:=J7.mp G
  exact#[l,1,OA.of (y.kp _ _ L N),J,q nm M (B.trans y) (F nm u)]
def uD(a:At K mg "_law_deed" gk ["_law_box_here","_law_own_here","_law_words"])(T:ON K mg tk)(D:Df P w K mg base "_law_take" u7 1 az)(xF:Df P w K mg base "_law_some_name" V1 2 sK)(x9:Df P w K mg base "_law_new_name" ["_law_box_here","_law_word"] 2 vM)(dP:Df P w K mg base "_law_key" W1 2 lr):Df P w K mg base "_law_deed" X3 3 (mZ K CB CD Qa):=by
 refine a.dq OX λf _ A _ s H vs Q E g h=>?_
 .let#[b,wl,G,S,m,c,us,rfl,I,hc,nb,ho,hm,m6,hw,nw,w1,h1,f5,q]:=h
  exists _,(qg (qC (i:=3) OX.nd rfl (SF rfl) (qE qS (qv 2) (qu D g.mo (qc (qv 0) (qc (qq qN T.b_len Ld (qc (qv 2) qa)) qa)))))
   (qg (qC (i:=4) OX.nd rfl (SF rfl) (qu xF g.mo (qc (qv 0) (qc (qI (gc rfl) T.b_list LA (qc (qH g (qv 1) qi) qa)) (qc qi qa)))))
   (qg (qC (i:=5) OX.nd rfl (SF rfl) (qu xF g.mo (qc (qv 0) (qc (qI (gc rfl) T.b_list LA (qc (qH g (qv 1) qi) qa)) (qc qi qa)))))
   (qg (qA (qw qQ (qv 3) qi (qy _)) (qg (qC (i:=6) OX.nd rfl (SF rfl) (qE qS (ze (qc qj (qc qj (qc qj (qc qj qa))))) (qu D g.mo (qc (qv 0) (qc qj qa)))))
   (qh (qm (qD (qc (qv 3) (qc (qu x9 g.mo (qc (qv 0) (qc (qv 3) qa))) (qc (qv 6) (qc (qF zo (qv 6) (qE qS (ze (qc qj (qc qj (qc qj (qc qj qa))))) (qu D g.mo (qc (qv 0) (qc qj qa))))) (qc (qF zo qj (qu D g.mo (qc (qv 0) (qc qj qa)))) qa))))))))) qp)
   (qg (qA (qw qQ (qv 3) qi (qy _)) (qh (qm (qD (qc (qv 3) (qc (qu x9 g.mo (qc (qv 0) (qc (qv 3) qa))) (qc (qE qS (ze (qc qj (qc qj (qc qj (qc qj (qc qj qa)))))) (qu D g.mo (qc (qv 0) (qc qj qa)))) qa)))))) qp)
   (qg (qA (qw bT (qv 3) (qD (qc qi (qc qi qa))) (by rfl)) (qh (qm (qD (qc (qv 3) (qc (qv 4) (qc (qv 5) qa)))))) qp)
   (qg (qA (qw qQ (qv 3) qi (qy _)) (qg (vH (i:=7) OX.nd rfl (SF rfl) (own:=["_law_k"]) (fr:=["_law_own_here","_law_box_here"]) (js:=[1,0]) rfl (Q7 rfl T.b_range (qc (qu D g.mo (qc (qv 0) (qc qj qa))) qa)) rfl (BO rfl rfl) rfl (DA rfl nofun nofun nofun rfl rfl rfl rfl rfl rfl) (λ_ _ _ _=>qB (i:=0) (show SQ (["_law_k","_law_own_here","_law_box_here"]:Α)from by decide +kernel) rfl (SF rfl) (.inr rfl)) (λ_ _ _ _=>(qu xF g.mo (qc (qv 2) (qc (qI (gc rfl) T.b_list LA (qc (qH g (qv 1) qi) qa)) (qc qi qa))))))
   (qh (qm (qD (qc (qv 3) (qc (qv 5) (qc (qu D g.mo (qc (qv 0) (qc qj qa))) (qc (qE qS (ze (qc (qv 7) (qc (qI za T.b_tuple J8 (qc (qv 7) qa)) qa))) (qu D g.mo (qc (qv 0) (qc qj qa)))) qa)))))))) qp)
   (qg (qA (qw qQ (qv 3) qi (qy _)) Qt qp)
   (qg (qA (qw qQ (qv 3) qi (qy _)) (qh (qm (qD (qc (qv 3) (qc (qu dP g.mo (qc (qv 0) qa)) qa))))) qp)
   (qg (qA (qw qQ (qv 3) qi (qy _)) (qg (qC (i:=8) OX.nd rfl (SF rfl) (ze (qc (qu D g.mo (qc (qv 0) (qc (qq qN T.b_len Ld (qc (qH g (qv 1) qi) qa)) qa))) (qc (qq qN T.b_len Ld (qc (qH g (qv 1) qi) qa)) (qc (rE l7 qj) (qc qj qa))))))
   (qh (qm (qD (qc (qv 3) (qc (qE qS (qv 8) (qF Z1 (qF cI (qu D g.mo (qc (qv 0) (qc qj qa))) qj) (qu D g.mo (qc (qv 0) (qc qj qa))))) qa)))))) qp)
   (qh (qm (qD (qc (qv 3) (qc (qv 5) qa)))))))))))))))
  refine a7 λD1 z1=>?_
  refine#[_,rfl,_,rfl,_,rfl,wl,_,rfl,.inl (OA.of hw),b,_,c,rfl,I,by lia,by rw[JI];lia,by rw[JI];lia,λr H1 r0 r1 g1=>?_]
  let#[x,hx,d3]:=ZI (xs:=us.map V.str) r0 r1
  let#[v,d,rfl]:=J7.mp d3;refine#[wl,21,rfl,rfl,OA.of (g1.kp _ _ nw hw),hx,z1 _ _ (a7 λD2 z2=>?_)]
  have o1:=ho.grc I nb g1;let#[md,mb,m6]:=m6;have g0:S.dn.length<64:=by unfold Hs.dn;rw[JI];exact md
  have f8:S.bn.length<64:=by unfold Hs.bn;rw[JI];exact mb
  refine#[_,rfl,_,rfl,G.ma,_,rfl,o1.g_doors,G.dd,_,S.dn,rfl,o1.at_.dd,by rw[ge,o1.at_.dn],by lia,λl1 a5=>?_]
  have u1:=Oq.upd (o:= .lst (S.dn.map V.str)) a5
  have b6:=g1.same u1;refine#[b,l1,S.dn,_,c+1,rfl,b6.bx,by lia,qb,zk g1.bx a5,by lia,λdn H2 g2=>z2 _ _ (a7 λD3 z3=>?_)]
  have G2:=b6.trans g2;have o2:=ho.grc I nb G2;refine#[_,rfl,_,rfl,G.ma,_,rfl,o2.g_buttons,G.bd,_,S.bn,rfl,o2.at_.bd,by rw[ge,o2.at_.bn],by lia,λl2 b0=>?_]
  have u2:=Oq.upd (o:= .lst (S.bn.map V.str)) b0
  have G2':=G2.same u2;refine#[b,l2,S.bn,_,c+1+2,rfl,G2'.bx,by lia,qb,zk G2.bx b0,by lia,λbn H3 g3=>z3 _ _ ?_]
  have G3:=G2'.trans g3;have o3:=ho.grc I nb G3;have d0:=f5 v d;refine#[_,rfl,rfl,_,rfl,qL (λy=>?_) (λy1=>?_)]
  .obtain rfl:=aT y
   refine#[Oe,λl4 c2=>?_]
   have u4:=Oq.upd (o:= .lst [.int 1,.int 2,.int 3,.int 64]) c2
   have G3':=G3.same u4;refine#[_,rfl,b,(4),c+1+2+2,rfl,G3'.bx,by lia,⋯,⋯,λr4 H4 d8 d4 g4=>?_]
   have l:=G3'.trans g4;let#[x4,f0,b4]:=ZI (xs:=[V.int 1,.int 2,.int 3,.int 64]) d8 d4
   let#[O,rfl]:∃z:Int,x4= .int z:=by
    simp only[JO,JX,JY]at b4;rcases b4 with rfl|rfl|rfl|rfl<;>exact#[_,rfl]
   exists l4,21,rfl,rfl,OA.of (g4.kp _ _ (zk G3.bx c2) qb),f0
   refine#[_,rfl,_,rfl,_,rfl,b,"add_door",_,rfl,l.bx,by lia,λnm H5 g5 hn=>?_]
   have t:=l.trans g5;refine#[_,rfl,_,rfl,Oe,λl6 j=>?_]
   have u6:=Oq.upd (o:= .lst [.int 0,.int 1,.int 2,.int 20]) j
   have G5':=t.same u6;refine#[_,rfl,b,(4),_,rfl,G5'.bx,by lia,⋯,⋯,λN H6 J L U=>?_]
   have G6:=G5'.trans U;let#[x6,X,C]:=ZI (xs:=[V.int 0,.int 1,.int 2,.int 20]) J L
   let#[c4,rfl]:∃z:Int,x6= .int z:=by
    simp only[JO,JX,JY]at C;rcases C with rfl|rfl|rfl|rfl<;>exact#[_,rfl]
   exists l6,21,rfl,rfl,OA.of (U.kp _ _ (zk t.bx j) qb),X,8,rfl,rfl
   refine#[_,rfl,b,(4),_,rfl,G6.bx,by lia,⋯,⋯,λr7 H7 e3 d5 g7=>#[8,rfl,rfl,Of,λlt e=>?_]]
   exact q lt (.addD nm O (O+c4) (1+r7)) _ (((G6.trans g7).same (Oq.upd e)).mono (by lia)) (λ_ _=>qb) #[by show 0<=1+r7/\1+r7<=12;lia] trivial d
  refine#[_,rfl,rfl,_,rfl,qL (λy=>?_) (λy2=>?_)]
  .obtain rfl:=aT y
   refine#[_,rfl,_,rfl,_,rfl,b,"add_button",_,rfl,G3.bx,by lia,λnm H4 g4 hn=>?_]
   have l:=G3.trans g4;refine#[Of,λl6 j=>?_]
   have u6:=Oq.upd (o:= .lst [.int 1,.int 2,.int 3,.int 4,.int 64]) j
   have G4':=l.same u6;refine#[_,rfl,b,(5),_,rfl,G4'.bx,by lia,⋯,⋯,λN H6 J L U=>?_]
   have G6:=G4'.trans U;let#[x6,X,C]:=ZI (xs:=[V.int 1,.int 2,.int 3,.int 4,.int 64]) J L
   let#[step,rfl,s1]:∃z:Int,x6= .int z/\1<=z:=by
    simp only[JO,JX,JY]at C;rcases C with rfl|rfl|rfl|rfl|rfl<;>exact#[_,rfl,⋯]
   refine#[l6,21,rfl,rfl,OA.of (U.kp _ _ (zk l.bx j) qb),X,Od,λlt e=>?_]
   exact q lt (.addB nm step) _ ((G6.same (Oq.upd e)).mono (by lia)) (λ_ _=>qb) #[#[s1,hn]] trivial d
  refine#[_,rfl,Oc,λt1 d6=>#[t1,_,rfl,.inr (OC.of qb),rfl,rfl,_,rfl,?_]]
  have l:=G3.same (Oq.upd (o:= .tup [.str "teach",.str "forget_at"]) d6)
  have o4:=ho.grc I nb l;generalize Ot H3 t1 (.tup [.str "teach",.str "forget_at"])=H4 at l o4⊢
  have a0:=d0;simp only[Qa,JO,JX,JY]at a0;refine qL (λy=>?_) (λy3=>?_)
  .refine#[_,rfl,_,rfl,_,rfl,Od,λlt e=>?_]
   have t:=(l.same (Oq.upd (o:= .tup [.str v,.str dn,.str bn]) e)).mono (show _<=c+20 by lia)
   rcases a0 with rfl|rfl|rfl|rfl|rfl|rfl|rfl|rfl|rfl
   all_goals first
    |exact absurd y nofun
    |exact q lt (.teach dn bn) _ t (λ_ _=>qb) ⟨trivial⟩ trivial d
    |exact q lt (.forget dn bn) _ t (λ_ _=>qb) ⟨trivial⟩ trivial d
  refine⟨_,rfl,rfl,_,rfl,qL (λy=>?_) (λy4=>?_)⟩
  .obtain rfl:=aT y
   refine⟨_,rfl,b,4,_,rfl,l.bx,by lia,⋯,⋯,λr5 H5 d7 f2 g5=>⟨_,rfl,by lia,by lia,?_⟩⟩
   have t:=l.trans g5;let#[nn,en,n4]:∃nn:Nat,r5.toNat=nn/\nn<4:=⟨_,rfl,by lia⟩
   rw[en];refine mK (n:=nn) (by rw[JV];lia) (λi ys Hx=>Rj b (c+6+2*i) H Hx/\∃u:Α,ys=u.map V.str/\u.length=i) ⟨t.mono (by lia),[],rfl,rfl⟩ ?_ ?_
   .rintro i ys Hx hi e0 ⟨W,u,rfl,lz⟩
    have ox:=ho.grc I nb W;refine⟨_,rfl,_,rfl,G.ma,_,rfl,ox.g_doors,G.dd,_,S.dn,rfl,ox.at_.dd,by rw[ge,ox.at_.dn],by lia,λl6 j=>?_⟩
    have u6:=Oq.upd (o:= .lst (S.dn.map V.str)) j
    have Gx':=W.same u6;refine⟨b,l6,S.dn,_,c+6+2*i,rfl,Gx'.bx,by lia,qb,zk W.bx j,by lia,λnm H7 g7=>?_⟩
    exact⟨(Gx'.trans g7).mono (by lia),u++[nm],by simp,by simp [lz]⟩
   rintro ys Hx e0 ⟨W,u,rfl,lz⟩ B a3
   have ul:=Oq.upd (o:= .lst (u.map V.str)) a3
   have Gl:=W.same ul;have c3:B≠b:=zk W.bx a3
   have f4:H B=none:=W.fresh (I.mono (by lia)) a3
   have b7:(Ot Hx B (.lst (u.map V.str))) B=↑(.lst (u.map V.str)):=qb
   generalize Ot Hx B (.lst (u.map V.str))=Hl at ul Gl b7⊢
   refine⟨_,rfl,_,rfl,_,rfl,b,16,_,rfl,Gl.bx,by lia,⋯,⋯,λr8 H8 e2 h0 g8=>?_⟩
   have G8:=Gl.trans g8;have b1:=g8.kp _ _ c3 b7;refine⟨_,rfl,_,rfl,B,_,rfl,.inl ⟨OA.of b1,λF a2=>⟨Oc,λl9 a4=>?_⟩⟩⟩
   have u9:=Oq.upd (o:= .tup (u.map V.str)) a2
   have Y:=Oq.upd (o:= .lst [-B,-F]) a4
   have G9:=(G8.same u9).same Y;have e1:H F=none:=G8.fresh (I.mono (by lia)) a2
   have e5:F≠b:=zk G8.bx a2
   have f1:l9≠b:=zk (G8.same u9).bx a4
   have c6:=Y _ _ (qb (H:=H8) (a:=F) (o:= .tup (u.map V.str)))
   have d1:=Y _ _ (u9 _ _ b1);have e9:(Ot (Ot H8 F (.tup (u.map V.str))) l9 (.lst [-B,-F])) l9=↑(.lst [-B,-F]):=qb
   generalize Ot (Ot H8 F (.tup (u.map V.str))) l9 (.lst [-B,-F])=H9 at G9 c6 d1 e9⊢
   refine⟨_,rfl,b,2,_,rfl,G9.bx,by lia,⋯,⋯,λh2 H10 c0 c5 M=>?_⟩
   let#[e6,b2,R]:=ZI (xs:=[V.ref B,-F]) c0 c5
   let#[pd,rfl,e4,f3]:∃pd,e6= .ref pd/\H pd=none/\Sq [] H10 pd (u.map V.str):=by
    simp only[JO,JX,JY]at R;rcases R with rfl|rfl
    .exact⟨_,rfl,f4,.inl (OA.of (M.kp _ _ c3 d1))⟩
    .exact⟨_,rfl,e1,.inr (OC.of (M.kp _ _ e5 c6))⟩
   refine⟨l9,_,_,_,rfl,rfl,OA.of (M.kp _ _ f1 e9),b2,Oe,λlt e=>?_⟩
   have ut:=Oq.upd (o:= .tup [.str "press_button",.str bn,.int r8,-pd]) e
   exact q lt (.press bn r8 u) _ (((G9.trans M).same ut).mono (by lia)) (λZ hZ=>⟨pd,qb,gU f3 ut.mv iu (λh=>nomatch h),λz=>hZ pd z e4⟩) ⟨⟨e2,by lia⟩,by show u.length<=5;lia⟩ trivial d
  refine⟨_,rfl,rfl,_,rfl,qL (λy=>?_) (λy5=>?_)⟩
  .obtain rfl:=aT y
   exact absurd d0 (show¬("play_kept":Str)∈Qa by decide +kernel)
  refine⟨_,rfl,rfl,_,rfl,qL (λy=>?_) (λy6=>?_)⟩
  .obtain rfl:=aT y
   refine⟨_,rfl,_,rfl,b,_,rfl,l.bx,by lia,λp ks H5 g5 fp hp dk k1 k8=>⟨Oc,λlt e=>?_⟩⟩
   have u5:=Oq.upd (o:= .tup [.str "turn_house",-p]) e
   exact q lt (.turnH ks) _ (((l.trans g5).same u5).mono (by lia)) (λZ hZ=>⟨p,qb,u5 _ _ hp⟩) ⟨k8⟩ trivial d
  refine⟨_,rfl,rfl,_,rfl,qL (λy=>?_) (λy7=>?_)⟩
  .obtain rfl:=aT y
   let#[as,d9,f7,_]:=o4.at_.ks;have k1:=hm.ok.k1;have k8:=hm.ok.k8;refine⟨_,rfl,_,rfl,G.ma,_,rfl,o4.g_keys,G.hk,_,rfl,.inl (OA.of d9),b,_,_,rfl,l.bx,by lia,by rw[JI];lia,by rw[JI];lia,λr5 H5 d7 f2 g5=>?_⟩
   have t:=l.trans g5;have o5:=ho.grc I nb t;let#[c1,b5,f6,_]:=o5.at_.ks;refine⟨_,rfl,G.ma,_,rfl,o5.g_keys,G.hk,_,rfl,.inl (OA.of b5),_,rfl,Oe,λal a1=>?_⟩
   have u5:=Oq.upd (o:= .lst [.int r5,.int ((c1.map V.ref).length:Int),.int (-1),.int 0]) a1
   have G5':=t.same u5;refine⟨_,rfl,_,rfl,_,rfl,b,8,_,rfl,G5'.bx,by lia,⋯,⋯,λN H6 J L U=>⟨_,_,rfl,rfl,⟨by decide,⋯⟩,?_⟩⟩
   have G6:=G5'.trans U;refine⟨_,rfl,b,4,_,rfl,G6.bx,by lia,⋯,⋯,λr7 H7 e3 d5 g7=>?_⟩
   have G7:=G6.trans g7;have i0:0<=N/5*r7/\N/5*r7<4:=by
    have h5:N/5=0\/N/5=1:=by lia
    rcases h5 with h|h<;>rw[h]<;>lia
   let#[x7,d2,b3]:=ZI (xs:=[V.int r5,.int ((c1.map V.ref).length:Int),.int (-1),.int 0]) i0.1 i0.2
   let#[age,rfl]:∃z:Int,x7= .int z:=by
    simp only[JO,JX,JY]at b3;rcases b3 with rfl|rfl|rfl|rfl<;>exact⟨_,rfl⟩
   refine⟨_,_,rfl,rfl,?_,al,_,_,_,rfl,rfl,OA.of (g7.kp _ _ (zk t.bx a1) (U.kp _ _ (zk t.bx a1) qb)),d2,Oc,λlt e=>?_⟩
   .left;constructor<;>(have:N/5=0\/N/5=1:=by lia)<;>lia
   exact q lt (.close age) _ ((G7.same (Oq.upd e)).mono (by lia)) (λ_ _=>qb) ⟨trivial⟩ trivial d
  refine⟨_,rfl,_,rfl,Oc,λlt e=>?_⟩
  have t:=(l.same (Oq.upd (o:= .tup [.str v,.str bn]) e)).mono (show _<=c+20 by lia)
  rcases a0 with rfl|rfl|rfl|rfl|rfl|rfl|rfl|rfl|rfl
  all_goals first
   |exact q lt (.lose bn) _ t (λ_ _=>qb) ⟨trivial⟩ trivial d
   |exact q lt (.tear bn) _ t (λ_ _=>qb) ⟨trivial⟩ trivial d
   |exact q lt (.turnB bn) _ t (λ_ _=>qb) ⟨trivial⟩ trivial d
   |exact(y1 (JM rfl)).elim
   |exact(y2 (JM rfl)).elim
   |exact(y3 nofun).elim
   |exact(y4 (JM rfl)).elim
   |exact(y5 (JM rfl)).elim
   |exact(y6 (JM rfl)).elim
   |exact(y7 (JM rfl)).elim
def iH(a:O7 K x.b "__init__" "BadPress.__init__" ZS ["self","place"])(T:ON K mg tk)(c:Rp K mg x fI)(hi:SK K (-x.b) "__init__"=↑(↑(-fI))):Xi P w K mg base x.b "BadPress" (.ref x.e::Qv) Qv "ValueError.__new__" Y6 2 (kg x.b "place"):=by
 have M:Mf P w K mg base x.b "__init__" Y6 2 (kg x.b "place"):=by
  refine a.mq iz λf _ A _ s H o Q E l h=>?_
  .let#[e,n,rfl,i,g,q]:=h
   exists _,(qg (qJ (uT LG Z c.g_CodeError c.bi c.bp.f.bi (qc (qv 0) (qc (Ca ⋯ (qv 1)) qa))))
   (qh (FA c.bp.f (qv 0) (qv 1))))
   refine#[2,n,i,Z,λz=>#[e,.str z,Z,g,?_]]
   exact#[2,e,Z,g,λd j=>q d j]
 let#[f,fd,F,m,bd]:=M.ex;have e:f=fI:=by
  have z:=m.at_;rw[hi]at z;injection z with z
  injection z with z
  injection z with z
  exact z.symm
 subst e
 exact#[f,fd,F,c.bp.f.bi,m.fn,c.g_BadPress,bd]
def ua(a:At K mg "_law_right" eW ["_law_house","_law_own_here","_law_deed_here"])(T:ON K mg tk)(J:Df P w K mg base "_law_did" X0 10 (fR K CB CD C Qa))(M:Df P w K mg base "_law_due" X4 10 (fO K CB CD Qa))(I:Df P w K mg base "_law_same" Q2 5 (wf 4))(U:Df P w K mg base "_law_shown" ["_law_house","_law_own_here"] 7 (oJ K CB CD C)):Df P w K mg base "_law_right" W4 11 (rP K CB CD C Qa):=by
 refine a.dq RA λf _ A _ s H vs Q E n h=>?_
 .let#[aH,aO,S,m,l,d,rfl,e,r,Y,D,o,j,v,q]:=h
  exists _,(qg (qC (i:=3) RA.nd Z (SF Z) (qu J n.mo (qc (qv 0) (qc (qv 2) qa))))
   (qh (qm (Qp (qu I n.mo (qc (qv 3) (qc (qu M n.mo (qc (qv 1) (qc (qv 2) qa))) qa))) (QP (qu U n.mo (qc (qv 0) (qc (qv 1) qa))))))))
  refine#[2,aH,S,6*m,l,d,Z,e.hh,r.ok,by lia,D.sub (λz h=>J1.mpr (.inl h)),o,j,v,λf1 aH' H1 c F G h1 R=>?_]
  let#[x,X]:=e.hh.beside e.oo e.dj c F;refine#[5,aO,S,6*m,l,d,Z,x,r.ok,by lia,(D.mv c e.hh.at_.nt (λz h=>J1.mpr (.inl h))).sub (λz h=>J1.mpr (.inr h)),o,j,v,λf2 aO' H2 g W B O L=>?_]
  let#[st,u]:=R1.mk' e c F h1 g W O G B;have t:=(r.nxtH o).ok;refine#[6,Ux.eqvH (R.mvH g x.at_.nt) L o,λH3 p=>#[0,zZ ?_]]
  refine#[2,aH',aO',_,6*(m+1),by rw[G,B];rfl,u.same p,t,by lia,λN y=>?_]
  exact q aH' aO' N ((st.same p).same y) ((u.same p).same y)
def tG(a:At K mg "_law_begun" eR ["_law_script","_law_great"])(T:ON K mg tk)(zR:Mi P w K mg base C "House" ["self","table","key"] 1 (oy K CB CD C))(yN:Df P w K mg base "_law_box" V7 1 (sE K))(dA:Df P w K mg base "_law_take" u7 1 az)(zF:Df P w K mg base "_law_table" W1 2 sP)(dP:Df P w K mg base "_law_key" W1 2 lr)(zP:Df P w K mg base "_law_own" V9 1 (v6 K CB CD))(xN:Df P w K mg base "_law_deed" X3 3 (mZ K CB CD Qa))(dY:Df P w K mg base "_law_did" X0 10 (fR K CB CD C Qa))(dZ:Df P w K mg base "_law_due" X4 10 (fO K CB CD Qa)):Df P w K mg base "_law_begun" ["_law_script","_law_great"] 11 (sk K CB CD C):=by
 refine a.dq OG λf _ A _ s H vs Q E S h=>?_
 .let#[sc,ns,g,rfl,hS,q]:=h
  exists _,(qg (qC (i:=2) OG.nd Z (SF Z) (qu yN S.mo (qc (qv 0) (qc qj qa))))
   (qg (Al (i:=3) (j:=4) Z OG.nd Z Z ⋯ Z Z (qc (qu zF S.mo (qc (qv 2) qa)) (qc (qu dP S.mo (qc (qv 2) qa)) qa)))
   (qg (qC (i:=5) OG.nd Z (SF Z) (ze (qc (qI QN T.b_list LA (qc (qv 3) qa)) (qc (qI QN T.b_list LA (qc (qv 4) qa)) qa))))
   (qg (qC (i:=6) OG.nd Z (SF Z) (gF (qw qQ (qu dA S.mo (qc (qv 2) (qc qj qa))) qj (qy _)) (bw zR S.mo (qc (qv 3) (qc (qv 4) qa))) (bw zR S.mo (qc (qE qS (qv 5) qj) (qc (qE qS (qv 5) qj) qa)))))
   (qg (qJ (Gs Lk PySem.F.slot_list_reverse PySem.F.type_list_reverse wo (qE qS (qv 5) qj)))
   (qg (qJ (Qw Lk Lx Ly zy (qE qS (qv 5) qj) (qc qj qa)))
   (qg (qC (i:=7) OG.nd Z (SF Z) (qu zP S.mo (qc (qv 3) (qc (qv 4) qa))))
   (qg (qC (i:=8) OG.nd Z (SF Z) (qF zo qj (qu dA S.mo (qc (qv 2) (qc qj qa)))))
   (qg (qA (QW.pt (iI (zw (qv 1)) (fS (qw qQ (qu dA S.mo (qc (qv 2) (qc qj qa))) qj (qy _))))) (qh (qC (i:=8) OG.nd Z (SF Z) (qF zo qj (qu dA S.mo (qc (qv 2) (qc qj qa)))))) qp)
   (qg (Qc Ln Z (Q7 Z T.b_range (qc (qv 8) qa)) (qB (i:=9) OG.nd Z (SF Z))
   (qh (Qc Ln Z (lL (qD (qc qi (qc qi qa)))) (qB (i:=10) OG.nd Z (SF Z))
   (qg (qC (i:=11) OG.nd Z (SF Z) (qu xN S.mo (qc (qv 2) (qc (qv 7) (qc (ze (qc (qv 10) qa)) qa)))))
   (qg (qJ (qu dY S.mo (qc (qv 6) (qc (qv 11) qa))))
   (qh (qJ (qu dZ S.mo (qc (qv 7) (qc (qv 11) qa))))))))))
   (qg (Qc Ln Z (Q7 Z T.b_range (qc (qF zo (qv 8) qj) qa)) (qB (i:=12) OG.nd Z (SF Z))
   (qg (qC (i:=11) OG.nd Z (SF Z) (qu xN S.mo (qc (qv 2) (qc (qv 7) (qc (ze (qc qi qa)) qa)))))
   (qg (qJ (qu dY S.mo (qc (qv 6) (qc (qv 11) qa))))
   (qh (qJ (qu dZ S.mo (qc (qv 7) (qc (qv 11) qa))))))))
   (qh (qm (qD (qc (qv 2) (qc (qv 6) (qc (qv 7) qa)))))))))))))))))
  refine a7 λD1 z1=>?_
  refine#[0,sc,ns,(0),Z,hS,by lia,λb H1 fb s1 i1=>z1 _ _ (a7 λD2 z2=>?_)]
  refine#[0,b,(0),Z,i1,by lia,λtb X H2 g2 m7 i3 pt=>?_]
  refine#[0,b,0,g2.bx,by lia,λky ks H3 g3 m5 h4 dk k1 k8=>#[6,z2 _ _ (a7 λD3 z3=>?_)]]
  have S03:Oq H H3:=λp o e=>g3.kp _ _ (qr e fb) (g2.kp _ _ (qr e fb) (s1 _ _ e))
  have c6:H3 tb=↑(.tup (X.map V.int)):=g3.mv.tup (bh g2.bx) i3
  refine#[0,tb,0,.inr (OC.of c6),λO d8=>?_]
  have u1:=Oq.upd (o:= .lst (X.map V.int)) d8
  have e6:(Ot H3 O (.lst (X.map V.int))) O=↑(.lst (X.map V.int)):=qb
  have n1:O≠b:=zk g3.bx d8
  have f1:H O=none:=Q0 d8 S03
  have d5:=(u1.grc g3.bx).bx;generalize Ot H3 O (.lst (X.map V.int))=H4 at u1 e6 d5⊢
  refine#[0,ky,0,.inr (OC.of (u1 _ _ h4)),λW a4=>#[Oc,λN b1=>?_]]
  have u2:=Oq.upd (o:= .lst (ks.map V.int)) a4
  have h5:(Ot H4 W (.lst (ks.map V.int))) W=↑(.lst (ks.map V.int)):=qb
  have n2:W≠b:=zk d5 a4
  have i0:W≠O:=λz=>by rw[z,e6]at a4;cases a4
  have f2:H W=none:=Q0 a4 (S03.trans u1)
  have d4:=(u2.grc d5).bx;have c0:=u2 _ _ e6;generalize Ot H4 W (.lst (ks.map V.int))=H5 at u2 h5 d4 c0 b1⊢
  have u3:=Oq.upd (o:= .lst [-O,-W]) b1
  have g4:(Ot H5 N (.lst [-O,-W])) N=↑(.lst [-O,-W]):=qb
  have n3:N≠b:=zk d4 b1
  have l0:N≠O:=λz=>by rw[z,c0]at b1;cases b1
  have R:=(u3.grc d4).bx;have S36:=(u1.trans u2).trans u3;have S06:=S03.trans S36;have b6:=S36 _ _ c6;have a5:=S36 _ _ h4;have c4:=u3 _ _ c0;have c2:=u3 _ _ h5;generalize Ot H5 N (.lst [-O,-W])=H6 at u3 g4 R S36 S06 b6 a5 c4 c2⊢
  refine z3 _ _ (jG (λb3 H'=>∃aH:Ha,b3=[↑(-sc),↑(.bl g),↑(-b),↑(-tb),↑(-ky),↑(-N),↑(-aH.ma),none,none,none,none,none,none]/\Rj b 27 H6 H'/\Ou K CB CD ↑C H' aH (lG X ks)/\∀z∈hF aH,H6 z=none) (λD' i4 b5=>?_) ?_)
  .refine#[0,b,(2),0,R,by lia,⋯,⋯,λr H7 r0 r1 U=>?_]
   have mk:∀(Q':VK),(∀(aH:Ha) (H':Hp),Rj b 27 H6 H'->Ou K CB CD ↑C H' aH (lG X ks)->(∀z∈hF aH,H6 z=none)->Q' (-aH.ma) H')->∀(t k:Δ),Sq K H7 t (X.map V.int)->RU H7 k ks->∀p dx,H7 p=none->H7 dx=none->dx≠p->oy K CB CD C [-p,-t,-k] (Ot (Ot H7 dx (.own p)) p (.ins C dx [])) (λv H2=>v= .non/\Q' (-p) H2) E0:=λQ' hQ t k ht hk p dx hp b4 ne=>by
    have u:=Oq.upd (o:= .own p) b4
    have u':=Oq.upd (o:= .ins C dx []) (show(Ot H7 dx (.own p)) p=none by rw[qk ne.symm];exact hp)
    have UU:=u.trans u';refine#[p,t,k,dx,X,ks,Z,qb,ht.same UU,RU.same UU hk,λaH H8 ea m8 f8 h8=>#[Z,?_]]
    rw[<- ea];refine hQ aH H8 ?_ h8 λz m=>?_
    .have kp:∀{x:Δ} {o:HO},H7 x=↑o->H8 x=↑o:=λ{x o} e=>m8 _ _ (zr (qr e hp)) (UU _ _ e)
     let#[y1,y2,y3,eb,k5,i5,j0,m3]:=U.bx
     exact#[λx o n e=>kp (U.kp _ _ n e),y1,y2,y3,kp eb,k5,i5,j0,by lia]
    .have z7:H7 z=none:=by
      rcases f8 z m with rfl|q
      .exact hp
      .exact Q0 q UU
     exact U.fresh (R.mono (by lia)) z7
   have a3:=U.kp _ _ n1 c4;have f5:=U.kp _ _ n2 c2;have b2:=U.kp _ _ n3 g4;refine#[7,qL (λ_=>?_) (λ_=>?_)]
   .exact#[2,λp dx hp b4 ne=>mk (λv H'=>D'.nx [↑(-sc),↑(.bl g),↑(-b),↑(-tb),↑(-ky),↑(-N),↑v,none,none,none,none,none,none] H') (λaH' H' q1 q2 q3=>b5 _ _ #[aH',Z,q1,q2,q3]) tb ky (Sq.tup (U.mv.tup (bh R) b6)) (.inr (.inl (U.mv.tup (bh R) a5))) p dx hp b4 ne]
   .exact#[0,N,1,OA.of b2,7,N,1,OA.of b2,Z,λp dx hp b4 ne=>mk (λv H'=>D'.nx [↑(-sc),↑(.bl g),↑(-b),↑(-tb),↑(-ky),↑(-N),↑v,none,none,none,none,none,none] H') (λaH' H' q1 q2 q3=>b5 _ _ #[aH',Z,q1,q2,q3]) O W (Sq.lst a3) (.inl f5) p dx hp b4 ne]
  rintro b3 H7 ⟨aH,rfl,U,h7,f7⟩
  have nH:∀{x:Δ} {o:HO},H6 x=↑o->x∉hF aH:=λ{x o} e q=>by rw[f7 x q]at e;cases e
  have a3:=U.kp _ _ n1 c4;have f5:=U.kp _ _ n2 c2;have b2:=U.kp _ _ n3 g4;have g5:=U.mv.tup (bh R) b6;have h6:=U.mv.tup (bh R) a5;have S07:Oq H H7:=λp o e=>U.kp _ _ (qr e fb) (S06 _ _ e)
  refine a7 λD4 z4=>?_
  exists 0,N,1,OA.of b2,Z,.inl #[25,OA.of a3],O,17,a3
  have m8:Mv [O] H7 (Ot H7 O (.lst (X.map V.int).reverse)):=Mv.upd1
  have e3:=NT.one a3 trivial;have h8:=h7.mv m8 e3 (λz m q=>nH c4 (by rw[JN.mp q]at m;exact m))
  have h3:PM (Ot H7 O (.lst (X.map V.int).reverse)) b 27:=by
   let#[y1,y2,y3,eb,yr]:=U.bx
   exact#[y1,y2,y3,m8 _ _ (zr n1.symm) eb,yr]
  have c3:=m8 _ _ (zr i0) f5;have h0:=m8 _ _ (zr l0) b2;have d0:=m8.tup e3 g5;have d3:=m8.tup e3 h6;have S08:Oq H _:=λp o e=>m8 _ _ (zr (qr e f1)) (S07 _ _ e)
  generalize Ot H7 O (.lst (X.map V.int).reverse)=H8 at m8 h8 h3 c3 h0 d0 d3 S08⊢
  refine z4 _ _ (a7 λD5 z5=>?_)
  exists 0,N,1,OA.of h0,Z,.inl #[25,OA.of c3],W,4,c3,by rw[JI,JV];lia
  have m9:Mv [W] H8 (Ot H8 W (.lst (ks.map V.int++[.int 1]))):=Mv.upd1
  have e9:=NT.one c3 trivial;have h9:=h8.mv m9 e9 (λz m q=>nH c2 (by rw[JN.mp q]at m;exact m))
  have e4:PM (Ot H8 W (.lst (ks.map V.int++[.int 1]))) b 27:=by
   let#[y1,y2,y3,eb,yr]:=h3
   exact#[y1,y2,y3,m9 _ _ (zr n2.symm) eb,yr]
  have d2:=m9.tup e9 d0;have c5:=m9.tup e9 d3;have S09:Oq H _:=λp o e=>m9 _ _ (zr (qr e f2)) (S08 _ _ e)
  generalize Ot H8 W (.lst (ks.map V.int++[.int 1]))=H9 at m9 h9 e4 d2 c5 S09⊢
  refine z5 _ _ (a7 λD6 z6=>?_)
  refine#[2,tb,ky,X,ks,Z,OC.of d2,.inl c5,λaO H10 g0 f4 I=>z6 _ _ (a7 λD7 z7=>?_)]
  have B10:Hb K CB CD C H H10 b 27 aH aO (lG X ks) 0:=by
   refine#[S09.trans g0,(g0.grc e4).bx,#[h9.same g0,I,λz m q=>h9.at_.live m (f4 z q)],HI pt k8,λq=>?_,fb,λz m=>?_]
   .let#[y1,y2,y3,eb,yr]:=e4
    let#[x1,x2,x3,j3,xr]:=R;rcases J1.mp q with q|q
    .exact nH j3 q
    .rw[f4 b q]at eb;cases eb
   .rcases J1.mp m with q|q
    .exact Q0 (f7 z q) S06
    .exact Q0 (f4 z q) S09
  refine#[0,b,(3),0,B10.bx,by lia,⋯,⋯,λg8 H11 l8 m0 k3=>#[4,?_]]
  have B11:=B10.grc k3;refine z7 _ _ ?_
  refine jG (λb3 H'=>∃c:Nat,1<=c/\c<=9/\Hb K CB CD C H H' b 30 aH aO (lG X ks) 0/\b3=[↑(-sc),↑(.bl g),↑(-b),↑(-tb),↑(-ky),↑(-N),↑(-aH.ma),↑(-aO.ma),↑(.int (c:Int)),none,none,none,none]) (λD' i4 b5=>?_) ?_
  .have rK:∀Hx,Hb K CB CD C H Hx b 30 aH aO (lG X ks) 0->D'.nx [↑(-sc),↑(.bl g),↑(-b),↑(-tb),↑(-ky),↑(-N),↑(-aH.ma),↑(-aO.ma),↑(.int (1+g8)),none,none,none,none] Hx:=λHx B=>b5 _ _ #[(1+g8).toNat,by lia,by lia,B,by rw[I1 (by lia)]]
   exists 2
   cases g with
   |false=>exact zu (zu (rK _ (B11.mono (by lia) (JL _))))
   |true=>
    refine zZ #[0,b,(8),0,B11.bx,by lia,⋯,⋯,λn0 H12 l9 l5 e0=>#[7,qL (λ_=>?_) (λ_=>rK _ ((B11.grc e0).mono (by lia) (JL _)))]]
    refine#[0,b,(3),0,e0.bx,by lia,⋯,⋯,λj5 H13 l4 l6 j2=>#[4,b5 _ _ #[(7+j5).toNat,by lia,by lia,((B11.grc e0).grc j2).mono (by lia) (JL _),?_]]]
    rw[I1 (by lia)];rfl
  rintro b3 H12 ⟨c,m6,m4,B12,rfl⟩
  refine a7 λD8 z8=>?_
  exists 2,by lia,by lia
  rw[M9];refine aB (Pv:=λk σ Hx=>∃(aH' aO':Ha) (S':Hs) (o9 I M:Ο),Hb K CB CD C H Hx b (30+40*k) aH' aO' S' (2*k)/\(0<k->1<=S'.ds.length)/\aH'.ma=aH.ma/\aO'.ma=aO.ma/\σ=[↑(-sc),↑(.bl g),↑(-b),↑(-tb),↑(-ky),↑(-N),↑(-aH.ma),↑(-aO.ma),↑(.int (c:Int)),o9,I,M,none]) #[aH,aO,_,none,none,none,B12,(λh=>absurd h (LC 0)),23] ?_ ?_
  .rintro k σ Hx hk ⟨d7,f6,S1,o9,I,M,B,k0,eH,eO,rfl⟩
   refine#[Oc,λt ht=>#[t,Z,#[_,OC.of qb],?_]]
   have ut:=Oq.upd (o:= .tup [.str "add_door",.str "add_button"]) ht
   have Bt':=B.same ut;have et:(Ot Hx t (.tup [.str "add_door",.str "add_button"])) t=↑(.tup [.str "add_door",.str "add_button"]):=qb
   generalize Ot Hx t (.tup [.str "add_door",.str "add_button"])=Ht at Bt' et⊢
   refine oA (K:=K) (a:=t) (xs:=[.str "add_door",.str "add_button"]) (λi σ Hx=>Hx t=↑(.tup [.str "add_door",.str "add_button"])/\∃(aH' aO':Ha) (S':Hs) (I M:Ο),Hb K CB CD C H Hx b (30+40*k+20*i) aH' aO' S' (2*k+i)/\(0<k+i->1<=S'.ds.length)/\aH'.ma=aH.ma/\aO'.ma=aO.ma/\σ=[↑(-sc),↑(.bl g),↑(-b),↑(-tb),↑(-ky),↑(-N),↑(-aH.ma),↑(-aO.ma),↑(.int (c:Int)),↑(.int (0+(k:Int))),I,M,none]) #[et,d7,f6,S1,I,M,Bt',k0,eH,eO,Z] (λi σ Hx _ h=>OC.of h.1) ?_ ?_
   .rintro i z σ Hy m ⟨g6,a0,J,S2,j1,f0,By,y,L,D,rfl⟩
    let#[F,rfl,hw,k7]:∃F:Str,z= .str F/\F∈Qa/\(i=0->F="add_door"):=by
     match i,m with
     |0,m=>cases m;exact#[0,by simp [Qa],λ_=>rfl]
     |1,m=>cases m;exact#[0,by simp [Qa],λh=>absurd h ⋯]
     |i+2,m=>cases m
    have i2:i<2:=(JZ.mp m).1
    refine#[5,Ob,λwl b7=>?_]
    have uw:=Oq.upd (o:= .lst [.str F]) b7
    have Y:=By.same uw;refine#[b,wl,J,S2,8,[F],by rw[D];rfl,Y.bx,by lia,Y.nO,Y.w.oo,Y.hm,Y.hm.lt (by lia),qb,zk By.bx b7,JL 1,by show 1<=20;decide,λz m=>by rw[JN.mp m];exact hw,λl d Hz gz d9 hd b0 a2=>?_]
    have hl:=Y.dez d9;have a2:=JN.mp a2;have c1:qX d∈Qa:=by rw[a2];exact hw
    have G:=Y.grc gz;have k2:=gz.mv.tup (bh Y.bx) (uw _ _ g6);refine#[2,a0,S2,_,l,d,by rw[L];rfl,G.w.hh,G.hm.ok,by lia,hl.sub (λz h=>J1.mpr (.inl h)),hd,b0,c1,λq1 e5 Hu m1 g1 e1 h1 r1=>?_]
    let#[o1,d1]:=G.w.hh.beside G.w.oo G.w.dj m1 g1;refine#[2,J,S2,_,l,d,by rw[D];rfl,o1,G.hm.ok,by lia,(hl.mv m1 G.w.hh.at_.nt (λz h=>J1.mpr (.inl h))).sub (λz h=>J1.mpr (.inr h)),hd,b0,c1,λq2 d6 Hv m2 f3 e2 h2 r2=>?_]
    let#[st,w']:=R1.mk' G.w m1 g1 h1 m2 f3 h2 e1 e2;refine#[st.m.tup G.w.nt k2,e5,d6,21,(G.stepH hd st w').mono (by lia) (by lia),λ_=>?_,e1.trans L,e2.trans D,Z]
    by_cases j4:i=0
    .exact Cr (a2.trans (k7 j4))
    .exact tW (y (by lia))
   .rintro σ Hy ⟨g6,a0,J,S2,j1,f0,By,y,L,D,rfl⟩
    exact#[a0,J,S2,21,By.mono (by show _+20*2<=_;lia) (by show _+2<=_;lia),(λ_=>y (by show 0<k+2;lia)),L,D,Z]
  rintro σ H13 ⟨d7,f6,S1,o9,I,M,B13,a1,eH,eO,rfl⟩
  have a1:=a1 (by lia)
  refine z8 _ _ (a7 λD9 z9=>?_)
  exists 16,by lia,by lia
  refine aB (Pv:=λk σ Hx=>∃(aH' aO':Ha) (S':Hs) (M k6:Ο),Hb K CB CD C H Hx b (30+40*c+20*k) aH' aO' S' (2*c+k)/\1<=S'.ds.length/\aH'.ma=aH.ma/\aO'.ma=aO.ma/\σ=[↑(-sc),↑(.bl g),↑(-b),↑(-tb),↑(-ky),↑(-N),↑(-aH.ma),↑(-aO.ma),↑(.int (c:Int)),o9,I,M,k6]) #[d7,f6,S1,M,none,B13,a1,eH,eO,Z] ?_ ?_
  .rintro k σ Hy hk ⟨a0,J,S2,f0,j6,By,y,L,D,rfl⟩
   have hk:k<c+1:=by lia
   refine#[2,Ob,λwl b7=>?_]
   have uw:=Oq.upd (o:= .lst [.str "teach"]) b7
   have Y:=By.same uw;refine#[b,wl,J,S2,8,["teach"],by rw[D];rfl,Y.bx,by lia,Y.nO,Y.w.oo,Y.hm,Y.hm.lt (by lia),qb,zk By.bx b7,⋯,⋯,λz m=>by rw[JN.mp m];simp [Qa],λl d Hz gz d9 hd b0 a2=>?_]
   have hl:=Y.dez d9;have c1:qX d∈Qa:=by rw[JN.mp a2];simp [Qa]
   have G:=Y.grc gz;refine#[2,a0,S2,_,l,d,by rw[L];rfl,G.w.hh,G.hm.ok,by lia,hl.sub (λz h=>J1.mpr (.inl h)),hd,b0,c1,λq1 e5 Hu m1 g1 e1 h1 r1=>?_]
   let#[o1,d1]:=G.w.hh.beside G.w.oo G.w.dj m1 g1;refine#[2,J,S2,_,l,d,by rw[D];rfl,o1,G.hm.ok,by lia,(hl.mv m1 G.w.hh.at_.nt (λz h=>J1.mpr (.inl h))).sub (λz h=>J1.mpr (.inr h)),hd,b0,c1,λq2 d6 Hv m2 f3 e2 h2 r2=>?_]
   let#[st,w']:=R1.mk' G.w m1 g1 h1 m2 f3 h2 e1 e2
   exact#[e5,d6,21,(G.stepH hd st w').mono (by lia) (by lia),tW y,e1.trans L,e2.trans D,Z]
  rintro σ Hy ⟨a0,J,S2,f0,j6,By,y,L,D,rfl⟩
  refine z9 _ _ ?_
  refine#[5,Od,λqt k4=>?_]
  exact q qt b a0 J S2 _ (by rw[qb,L,D]) ((By.same (Oq.upd k4)).mono (by lia) (by lia)) y
end
end Lw
namespace L3
open PySem PySem.Spec PyProof.Rows L2
section
variable{K:ι}{b:Δ}{c m:Nat}
def Hb.did2(B:Hb K CB CD C H Hx b c aH aO S m)(M:m<=9000)(x:aH.ma=pH)(G:aO.ma=pO)(hl:Rv (hF aH++hF aO) Hx l d)(hd:Rm d)(hpl:fm d)(hw:qX d∈ws){Q:VK}
  (k:∀v f,(∀z∈hF aO,f z≠none)->Rv (hF aO) f l d->(∀(n:VK) (i:Hp) (g:Δ),Oq f i->Rv (hF aO) i g d->(∀F j e a,R1 Hx aH aO j e a->Hb K CB CD C H j b c e a (Qr S (zm S d)) (m+1)->e.ma=pH->a.ma=pO->n F j)->fO K CB CD ws [-pO,-g] i n E0)->Q v f):fR K CB CD C ws [-pH,-l] Hx Q E0:=by
 subst x G;refine#[aH,S,_,l,d,Z,B.w.hh,B.hm.ok,by lia,hl.sub (λz h=>J1.mpr (.inl h)),hd,hpl,hw,λN e f p t u h1 O=>?_]
 let#[q,J]:=B.w.hh.beside B.w.oo B.w.dj p t;refine k _ _ (λz D=>q.at_.live D) ((hl.mv p B.w.hh.at_.nt (λz h=>J1.mpr (.inl h))).sub (λz h=>J1.mpr (.inr h))) λn i g s o k2=>#[aO,S,_,g,d,Z,q.same s,B.hm.ok,by lia,o,hd,hpl,hw,λL a j y E r A I=>?_]
 let#[st,w]:=R1.mk' B.w (p.trans s.mv) t (h1.same s) y E A u r
 exact k2 _ _ _ _ st (B.stepH hd st w) u r
def Hb.didue(B:Hb K CB CD C H Hx b c aH aO S m)(n:m<=9000)(q:aH.ma=pH)(i:aO.ma=pO)(hl:Rv (hF aH++hF aO) Hx l d)(hd:Rm d)(hpl:fm d)(hw:qX d∈ws){Q:VK}
  (k:∀v f,(∀(g:VK),(∀p h e a,R1 Hx aH aO h e a->Hb K CB CD C H h b c e a (Qr S (zm S d)) (m+1)->e.ma=pH->a.ma=pO->g p h)->fO K CB CD ws [-pO,-l] f g E0)->Q v f):fR K CB CD C ws [-pH,-l] Hx Q E0:=
 B.did2 n q i hl hd hpl hw λv f _ o j=>k v f λg k2=>j g f l (Oq.refl _) o k2
end
def fE(S:Hs)(d:Hd):(Qr S (zm S d)).ds.length<=S.ds.length+1/\(Qr S (zm S d)).bs.length<=S.bs.length+1:=by
 cases e:zm S d with
 |ref r=>exact#[Lr _,Lr _]
 |ok S' o=>exact#[(bW e).2.1,(bW e).2.2.1]
def oM(S:Hs)(b:Str)(deed:Int)(ds:Α):(Qr S (zm S (.press b deed ds))).ds.length=S.ds.length/\(Qr S (zm S (.press b deed ds))).bs.length=S.bs.length/\(Qr S (zm S (.press b deed ds))).bn=S.bn:=by
 cases hj:qR S.bn b with
 |none=>rw[fY hj];exact#[23]
 |some j=>
  have a:j<S.bs.length:=by have:=iX hj;unfold Hs.bn at this;rw[JI]at this;exact this
  rw[eE hj (JQ a)];unfold Z3;cases QB S.dn ds with
  |none=>exact#[23]
  |some is=>
   by_cases h:4096<=S.bs[j].cnt
   .simp only[JK h];exact#[23]
   .simp only[JJ h]
    let#[h1,c,_,_]:=Z6 (qW S j S.bs[j] deed) S.kp.length is is.length
    exists h1,(Lh List.length c).trans (by simp [qW,Hs.setB])
    show(OE _ _ _ _).1.bs.map (·.nm)=S.bs.map (·.nm)
    rw[c]
    show(S.bs.set j S.bs[j].pr).map (·.nm)=_
    exact Qi (JQ a) (ZJ _)
def Cl(S:Hs)(b:Str):(Qr S (zm S (.lose b))).ds.length=S.ds.length/\(Qr S (zm S (.lose b))).bs.length=S.bs.length/\(Qr S (zm S (.lose b))).bn=S.bn:=by
 cases hj:qR S.bn b with
 |none=>rw[show zm S (.lose b)= .ref .unknown from aY hj];exact#[23]
 |some j=>
  have a:j<S.bs.length:=by have:=iX hj;unfold Hs.bn at this;rw[JI]at this;exact this
  rw[show zm S (.lose b)= .ok (S.setB j S.bs[j].ou) .non from bM hj (JQ a)]
  exact#[Z,by simp [Qr,Hs.setB],Qi (JQ a) Z]
def yj{S:Hs}{b:Str}{j:Nat}{B:Bt}(deed:Int)(c:qR S.bn b=↑j)(a:S.bs[j]? =↑B)(hc:B.cnt<4096):(Qr S (zm S (.press b deed []))).bs[j]? =↑B.pr:=by
 rw[eE c a]
 show(Qr S (if 4096<=B.cnt then .ref .worn else .ok (OE (qW S j B deed) S.kp.length [] 0).1 (.num S.kp.length (OE (qW S j B deed) S.kp.length [] 0).2))).bs[j]? =_
 rw[JJ (by lia)]
 show(S.bs.set j B.pr)[j]? =_
 let#[h,_]:=JZ.mp a;rw[MX h]
def Cs{l:Α}{z:Str}(h:z∈l):∃i,qR l z=↑i:=by
 cases e:qR l z with
 |none=>exact absurd h (QZ e)
 |some i=>exact#[i,Z]
def C3(S:Hs)(nm:Str)(step:Int):nm∈(Qr S (zm S (.addB nm step))).bn:=by
 have e:zm S (.addB nm step)=if(qR S.bn nm).isSome=true then OZ.ref .known else .ok {S with bs:=S.bs++[eZ S nm step]} .non:=Z
 rw[e];split
 .rename_i h
  let#[i,hi]:=Mw.mp h;exact JU (bj hi)
 .show nm∈(S.bs++[eZ S nm step]).map (·.nm)
  rw[La];exact J1.mpr (.inr (JN.mpr Z))
def Cz(S:Hs)(nm:Str)(a d c:Int):(Qr S (zm S (.addD nm a d c))).bn=S.bn:=by
 have e:zm S (.addD nm a d c)=if(qR S.dn nm).isSome=true then OZ.ref .known else .ok {S with ds:=S.ds++[Zu S nm a d c]} .non:=Z
 rw[e];split<;>rfl
def Rv.w2s(h:Rv (hF aH++hF aO) H l d)(st:R1 H aH aO H' aH' aO')(nt:NT (hF aH++hF aO) H):Rv (hF aH'++hF aO') H' l d:=by
 have c:=h.mv st.m nt (λ_ h=>h)
 cases d with
 |press b deed ds=>
  let#[p,f,a,n1]:=h;let#[j,g,i,_]:=c;rw[st.m.tup nt f]at g;cases g;exists p,st.m.tup nt f,i
  rcases a with((a|⟨o,a⟩)|⟨o,_,_,e,_⟩)|((a|⟨o,a⟩)|⟨o,_,_,e,_⟩)
  .exact st.free a n1
  .exact st.free a n1
  .cases e
  .exact st.free a n1
  .exact st.free a n1
  .cases e
 |_=>exact c
structure Dw(K:ι)(CB CD C:Δ)(H Hx:Hp)(b:Δ)(c:Nat)(aH aO:Ha)(S:Hs)(m:Nat)(l:Δ)(ts:Η)(dds:List Hd):Prop where
 hb:Hb K CB CD C H Hx b c aH aO S m
 el:Hx l=↑(.lst (ts.map V.ref))
 nl:l∉hF aH++hF aO
 dz:∀(i:Nat) (t:Δ) (d:Hd),ts[i]? =↑t->dds[i]? =↑d->Rv (hF aH++hF aO) Hx t d
def Dw.step{K:ι}{b:Δ}(h:Dw K CB CD C H Hx b c aH aO S m l e a)(st:R1 Hx aH aO Hy aH' aO')(hb:Hb K CB CD C H Hy b c aH' aO' S' m'):Dw K CB CD C H Hy b c aH' aO' S' m' l e a:=
 #[hb,st.m _ _ h.nl h.el,st.free h.el h.nl,λi t d h1 f=>(h.dz i t d h1 f).w2s st h.hb.w.nt]
end L3
namespace Lw
open PySem L2 L3
def vd(K:ι)(CB CD C:Δ):Sp:=λd H Q _=>∃(H0:Hp) (b:Δ) (a:Nat) (aH aO:Ha) (S:Hs) (m:Nat) (c:Int),d=[-aH.ma,-aO.ma,.int c]/\Hb K CB CD C H0 H b a aH aO S m/\m<=40/\c<=4096/\
 ∀H' aH' aO' S' m',Hb K CB CD C H0 H' b a aH' aO' S' m'->m'<=5000->S'.ds.length<=S.ds.length+5->S'.bs.length<=S.bs.length+5->aH'.ma=aH.ma->aO'.ma=aO.ma->Q .non H'
noncomputable abbrev SC:List Hd:=[.addD "fullat" 1 1 1,.addB "other" 2,.teach "fullat" "other",.addB "worn" 64,.addD "wornat" 1 1 3]
def EJ:∀d∈SC,Rm d/\fm d/\qX d∈Qa:=by
 intro d a;simp only[SC,JO,JX,JY]at a;rcases a with rfl|rfl|rfl|rfl|rfl
 .exact#[#[by show(0:Int)<=1/\(1:Int)<=12;decide],trivial,(by decide +kernel:("add_door":Str)∈Qa)]
 .exact#[#[#[⋯,⋯,⋯,nofun]],trivial,(by decide +kernel:("add_button":Str)∈Qa)]
 .exact#[#[trivial],trivial,(by decide +kernel:("teach":Str)∈Qa)]
 .exact#[#[#[⋯,⋯,⋯,nofun]],trivial,(by decide +kernel:("add_button":Str)∈Qa)]
 .exact#[#[by show(0:Int)<=3/\(3:Int)<=12;decide],trivial,(by decide +kernel:("add_door":Str)∈Qa)]
abbrev SD:List Hd:=[.press "worn" 0 [],.lose "worn"]
def EF:∀d∈SD,Rm d/\fm d/\qX d∈Qa:=by
 intro d a;simp only[SD,JO,JX,JY]at a;rcases a with rfl|rfl
 .exact#[#[#[#[⋯,⋯],⋯]],trivial,(by decide +kernel:("press_button":Str)∈Qa)]
 .exact#[#[trivial],trivial,(by decide +kernel:("lose_cell":Str)∈Qa)]
def EO(S:Hs):∀d∈SD,(Qr S (zm S d)).ds.length=S.ds.length/\(Qr S (zm S d)).bs.length=S.bs.length/\(Qr S (zm S d)).bn=S.bn:=by
 intro d a;simp only[SD,JO,JX,JY]at a;rcases a with rfl|rfl
 .exact oM ..
 .exact Cl ..
section
variable{K:ι}{tk:Nat->Tok}
def rA(a:At K mg "_law_far_on" c8 ["_law_house","_law_own_here","_law_count"])(T:ON K mg tk)(UB:Rc K CB)(dB:Mf P w K mg base CB "count_now" q9 1 (Z8 K CB))(dY:Df P w K mg base "_law_did" X0 10 (fR K CB CD C Qa))(dZ:Df P w K mg base "_law_due" X4 10 (fO K CB CD Qa)):Df P w K mg base "_law_far_on" V0 11 (vd K CB CD C):=by
 refine a.dq O4 λf _ A _ s H vs Q E X h=>?_
 .let#[H0,b,cc,aH,aO,S,m,c,rfl,B,d8,hc,q]:=h
  exists _,(qg (qC (i:=3) O4.nd Z (SF Z) (ze (qc (qD (qc qi (qc qi (qc qj (qc qj (qc qj qa)))))) (qc (qD (qc qi (qc qi (qc qj qa)))) (qc (qD (qc qi (qc qi (qc qi qa)))) qa)))))
   (qg (Qc Ln Z (ba (qF lJ (qv 3) (ze (qc (qD (qc qi (qc qi (qc qj qa)))) (qc (qD (qc qi (qc qi (qc qj (qc qj (qc qj qa)))))) qa))))) (qB (i:=4) O4.nd Z (SF Z))
   (qg (qJ (qu dY X.mo (qc (qv 0) (qc (qv 4) qa))))
   (qh (qJ (qu dZ X.mo (qc (qv 1) (qc (qv 4) qa)))))))
   (qg (Qc Ln Z (Q7 Z T.b_range (qc qj qa)) (qB (i:=5) O4.nd Z (SF Z))
   (qh (Qc Ln Z (ba (ze (qc (qD (qc qi (qc qi (qc qj (qc (qD qa) qa))))) (qc (qD (qc qi (qc qi qa))) qa)))) (qB (i:=4) O4.nd Z (SF Z))
   (qg (qJ (qu dY X.mo (qc (qv 0) (qc (qv 4) qa))))
   (qh (qJ (qu dZ X.mo (qc (qv 1) (qc (qv 4) qa)))))))))
   (qh (CQ Ln (qw jB (qP dB UB.cl X.mo (qH X (qH X (qv 1) qi) qi)) (qv 2) (qy _))
   (qg (qJ (qu dY X.mo (qc (qv 0) (qc (qD (qc qi (qc qi (qc qj (qc (qD qa) qa))))) qa))))
   (qh (qJ (qu dZ X.mo (qc (qv 1) (qc (qD (qc qi (qc qi (qc qj (qc (qD qa) qa))))) qa)))))))))))
  refine#[Of,λr d1=>#[Od,λL d3=>#[Od,λI d0=>#[Od,λl1 c4=>?_]]]]
  have u1:=Oq.upd (o:= .tup [.str "add_door",.str "fullat",.int 1,.int 1,.int 1]) d1
  have u2:=Oq.upd (o:= .tup [.str "add_button",.str "other",.int 2]) d3
  have Y:=Oq.upd (o:= .tup [.str "teach",.str "fullat",.str "other"]) d0
  have u4:=Oq.upd (o:= .lst [-r,-L,-I]) c4
  have e1:=u4 _ _ (Y _ _ (u2 _ _ (qb (H:=H) (a:=r) (o:= .tup [.str "add_door",.str "fullat",.int 1,.int 1,.int 1]))))
  have e2:=u4 _ _ (Y _ _ (qb (H:=Ot H r (.tup [.str "add_door",.str "fullat",.int 1,.int 1,.int 1])) (a:=L) (o:= .tup [.str "add_button",.str "other",.int 2])))
  have e3:=u4 _ _ (qb (H:=_) (a:=I) (o:= .tup [.str "teach",.str "fullat",.str "other"]))
  have b7:(Ot (Ot (Ot (Ot H r (.tup [.str "add_door",.str "fullat",.int 1,.int 1,.int 1])) L (.tup [.str "add_button",.str "other",.int 2])) I (.tup [.str "teach",.str "fullat",.str "other"])) l1 (.lst [-r,-L,-I])) l1=↑(.lst [-r,-L,-I]):=qb
  have B1:=(((B.same u1).same u2).same Y).same u4;generalize Ot (Ot (Ot (Ot H r (.tup [.str "add_door",.str "fullat",.int 1,.int 1,.int 1])) L (.tup [.str "add_button",.str "other",.int 2])) I (.tup [.str "teach",.str "fullat",.str "other"])) l1 (.lst [-r,-L,-I])=H1 at B1 e1 e2 e3 b7⊢
  clear u1 u2 Y u4;refine#[0,Od,λx d4=>#[Of,λM d6=>#[Oc,λl2 c5=>?_]]]
  have u1:=Oq.upd (o:= .tup [.str "add_button",.str "worn",.int 64]) d4
  have u2:=Oq.upd (o:= .tup [.str "add_door",.str "wornat",.int 1,.int 1,.int 3]) d6
  have Y:=Oq.upd (o:= .lst [-x,-M]) c5
  have e4:=Y _ _ (u2 _ _ (qb (H:=H1) (a:=x) (o:= .tup [.str "add_button",.str "worn",.int 64])))
  have e5:=Y _ _ (qb (H:=Ot H1 x (.tup [.str "add_button",.str "worn",.int 64])) (a:=M) (o:= .tup [.str "add_door",.str "wornat",.int 1,.int 1,.int 3]))
  have c3:(Ot (Ot (Ot H1 x (.tup [.str "add_button",.str "worn",.int 64])) M (.tup [.str "add_door",.str "wornat",.int 1,.int 1,.int 3])) l2 (.lst [-x,-M])) l2=↑(.lst [-x,-M]):=qb
  have B2:=((B1.same u1).same u2).same Y;have S2:=(u1.trans u2).trans Y;generalize Ot (Ot (Ot H1 x (.tup [.str "add_button",.str "worn",.int 64])) M (.tup [.str "add_door",.str "wornat",.int 1,.int 1,.int 3])) l2 (.lst [-x,-M])=H2 at B2 e4 e5 c3 S2⊢
  refine#[l1,l2,4,S2 _ _ b7,c3,Of,λl3 a2=>#[l3,Z,#[_,OA.of qb],?_]]
  have u5:=Oq.upd (o:= .lst ([V.ref r,V.ref L,V.ref I]++[V.ref x,V.ref M])) a2
  have D3:Dw K CB CD C H0 (Ot H2 l3 (.lst ([V.ref r,V.ref L,V.ref I]++[V.ref x,V.ref M]))) b cc aH aO S m l3 [r,L,I,x,M] SC:=by
   refine#[B2.same u5,qb,λz=>B2.live z a2,λi t d h1 g=>?_]
   match i,h1,g with
   |0,h1,g=>cases h1;cases g;exact u5 _ _ (S2 _ _ e1)
   |1,h1,g=>cases h1;cases g;exact u5 _ _ (S2 _ _ e2)
   |2,h1,g=>cases h1;cases g;exact u5 _ _ (S2 _ _ e3)
   |3,h1,g=>cases h1;cases g;exact u5 _ _ e4
   |4,h1,g=>cases h1;cases g;exact u5 _ _ e5
   |i+5,h1,g=>cases h1
  generalize Ot H2 l3 (.lst ([V.ref r,V.ref L,V.ref I]++[V.ref x,V.ref M]))=H3 at D3⊢
  refine bz (K:=K) (a:=l3) (xs:=[r,L,I,x,M].map V.ref) (λi σ Hx=>∃(aH' aO':Ha) (S':Hs) (p:Ο),Dw K CB CD C H0 Hx b cc aH' aO' S' (m+i) l3 [r,L,I,x,M] SC/\S'.ds.length<=S.ds.length+i/\S'.bs.length<=S.bs.length+i/\(4<=i->("worn":Str)∈S'.bn)/\aH'.ma=aH.ma/\aO'.ma=aO.ma/\σ=[↑(-aH.ma),↑(-aO.ma),↑(.int c),↑(-l1),p,none]) #[aH,aO,S,none,D3,JL _,JL _,λh=>absurd h ⋯,23] (λi σ Hx _ ⟨_,_,_,_,h,_⟩=>OA.of h.el) ?_ ?_
  .rintro i v σ Hx hv ⟨a0,b2,S1,p,D,n1,n2,N,eH,eO,rfl⟩
   rw[JW]at hv;let#[t,ht,rfl]:=Lo.mp hv;have i5:i<5:=(JZ.mp ht).1
   have J:=JQ (show i<SC.length from i5)
   let#[k1,k2,k3]:=EJ _ (JU J)
   refine#[2,D.hb.didue (by omega) eH eO (D.dz i t _ ht J) k1 k2 k3 λv Hu g=>#[2,g _ λv2 Hv U F st B' e1 e2=>?_]]
   let#[d9,e0]:=fE S1 SC[i]
   refine#[U,F,8,D.step st B',by omega,by omega,λhi=>?_,e1,e2,Z]
   by_cases h3:i=3
   .subst h3;exact C3 S1 "worn" 64
   .have h4:i=4:=by omega
    subst h4;rw[show(Qr S1 (zm S1 SC[4])).bn=S1.bn from Cz ..]
    exact N (JL _)
  rintro σ H4 ⟨a0,b2,S1,p,D,n1,n2,N,eH,eO,rfl⟩
  have B4:=D.hb;have N:=N (show 4<=5 by decide)
  have n1:S1.ds.length<=S.ds.length+5:=n1
  have n2:S1.bs.length<=S.bs.length+5:=n2
  have B4:Hb K CB CD C H0 H4 b cc a0 b2 S1 (m+5):=B4
  clear D D3 a2 u5;exists 0,⋯,⋯
  refine aB (Pv:=λk σ Hx=>∃(aH' aO':Ha) (S':Hs) (p o5:Ο),Hb K CB CD C H0 Hx b cc aH' aO' S' (m+5+2*k)/\S'.ds.length=S1.ds.length/\S'.bs.length=S1.bs.length/\("worn":Str)∈S'.bn/\aH'.ma=aH.ma/\aO'.ma=aO.ma/\σ=[↑(-aH.ma),↑(-aO.ma),↑(.int c),↑(-l1),p,o5]) #[a0,b2,S1,p,none,B4,9,N,eH,eO,Z] ?_ ?_
  .rintro k σ Hx hk ⟨R,O,S2',p,o5,B5,n3,n4,b0,a5,b3,rfl⟩
   have hk:k<63:=hk
   refine#[Oa,λte W=>#[Oe,λtp b1=>#[Oc,λtl d5=>#[Oc,λli b4=>#[li,Z,#[_,OA.of qb],?_]]]]]
   have v1:=Oq.upd (o:= .tup []) W
   have v2:=Oq.upd (o:= .tup [.str "press_button",.str "worn",.int 0,-te]) b1
   have v3:=Oq.upd (o:= .tup [.str "lose_cell",.str "worn"]) d5
   have v4:=Oq.upd (o:= .lst [V.ref tp,V.ref tl]) b4
   have D5:Dw K CB CD C H0 (Ot (Ot (Ot (Ot Hx te (.tup [])) tp (.tup [.str "press_button",.str "worn",.int 0,-te])) tl (.tup [.str "lose_cell",.str "worn"])) li (.lst [V.ref tp,V.ref tl])) b cc R O S2' (m+5+2*k) li [tp,tl] SD:=by
    refine#[(((B5.same v1).same v2).same v3).same v4,qb,λz=>(((B5.same v1).same v2).same v3).live z b4,λi t d h1 g=>?_]
    match i,h1,g with
    |0,h1,g=>cases h1;cases g;exact#[te,v4 _ _ (v3 _ _ qb),.inr (OC.of (v4 _ _ (v3 _ _ (v2 _ _ qb)))),λz=>B5.live z W]
    |1,h1,g=>cases h1;cases g;exact v4 _ _ qb
    |i+2,h1,g=>cases h1
   generalize Ot (Ot (Ot (Ot Hx te (.tup [])) tp (.tup [.str "press_button",.str "worn",.int 0,-te])) tl (.tup [.str "lose_cell",.str "worn"])) li (.lst [V.ref tp,V.ref tl])=H5 at D5⊢
   refine bz (K:=K) (a:=li) (xs:=[tp,tl].map V.ref) (λi σ Hx=>∃(aH' aO':Ha) (S':Hs) (p:Ο),Dw K CB CD C H0 Hx b cc aH' aO' S' (m+5+2*k+i) li [tp,tl] SD/\S'.ds.length=S1.ds.length/\S'.bs.length=S1.bs.length/\("worn":Str)∈S'.bn/\aH'.ma=aH.ma/\aO'.ma=aO.ma/\σ=[↑(-aH.ma),↑(-aO.ma),↑(.int c),↑(-l1),p,↑(.int (0+(k:Int)))]) #[R,O,S2',p,D5,n3,n4,b0,a5,b3,Z] (λi σ Hx _ ⟨_,_,_,_,h,_⟩=>OA.of h.el) ?_ ?_
   .rintro i v σ Hy hv ⟨U,F,S3,p,D,n5,n6,a1,G,l,rfl⟩
    rw[JW]at hv;let#[t,ht,rfl]:=Lo.mp hv;have i2:i<2:=(JZ.mp ht).1
    have J:=JQ (show i<SD.length from i2)
    let#[k1,k2,k3]:=EF _ (JU J)
    refine#[2,D.hb.didue (by omega) G l (D.dz i t _ ht J) k1 k2 k3 λv Hu g=>#[2,g _ λv2 Hv a3 a4 st B' e1 e2=>?_]]
    let#[y1,y2,y3]:=EO S3 _ (JU J)
    exact#[a3,a4,8,D.step st B',y1.trans n5,y2.trans n6,y3▸a1,e1,e2,Z]
   .rintro σ Hy ⟨U,F,S3,p,D,n5,n6,a1,G,l,rfl⟩
    exact#[U,F,S3,8,D.hb,n5,n6,a1,G,l,Z]
  rintro σ H6 ⟨R,O,S2',p,o5,B6,n3,n4,b0,a5,b3,rfl⟩
  have B6:Hb K CB CD C H0 H6 b cc R O S2' (m+131):=B6
  let#[j,hj]:=Cs b0;have d7:j<S2'.bs.length:=by have:=iX hj;unfold Hs.bn at this;rw[JI]at this;exact this
  have c0:=JQ d7;exists λn σ Hx=>∃(aH' aO':Ha) (S':Hs) (j k:Nat) (B':Bt),Hb K CB CD C H0 Hx b cc aH' aO' S' (m+131+k)/\k+n<=4096/\qR S'.bn "worn"=↑j/\S'.bs[j]? =↑B'/\(4096-B'.cnt).toNat=n/\S'.ds.length=S1.ds.length/\S'.bs.length=S1.bs.length/\aH'.ma=aH.ma/\aO'.ma=aO.ma/\σ=[↑(-aH.ma),↑(-aO.ma),↑(.int c),↑(-l1),p,o5],#[_,R,O,S2',j,(0),_,B6,?_,hj,c0,Z,n3,n4,a5,b3,Z]
  .have:=(B6.hm.ok.bt _ (JU c0)).ok.c0
   omega
  rintro n σ Hx ⟨U,F,S3,j,k,B',B7,hk,hj,hB,hn,n5,n6,G,l,rfl⟩
  rcases B7.w.oo.at_.gbd "worn" with⟨e,_⟩|⟨j',u,B2',c1,hu,c2,_,_,g2⟩
  .rw[hj]at e;cases e
  rw[hj]at c1;cases c1
  rw[hB]at c2;cases c2
  let#[ta,ka,bt]:=B7.w.oo.at_.be j u B' hu hB;refine#[0,aO.ma,0,l▸B7.w.oo.g_buttons,F.bd,0,g2,u.p,Z,bt.no,u.p,ta,ka,u.ce,B',Z,bt,16,qL (λy=>?_) (λy=>?_)]
  .have y:B'.cnt<c:=J5 y
   exists λd2 H'=>∃n',n'<n/\∃(aH' aO':Ha) (S':Hs) (j k:Nat) (B':Bt),Hb K CB CD C H0 H' b cc aH' aO' S' (m+131+k)/\k+n'<=4096/\qR S'.bn "worn"=↑j/\S'.bs[j]? =↑B'/\(4096-B'.cnt).toNat=n'/\S'.ds.length=S1.ds.length/\S'.bs.length=S1.bs.length/\aH'.ma=aH.ma/\aO'.ma=aO.ma/\d2=[↑(-aH.ma),↑(-aO.ma),↑(.int c),↑(-l1),p,o5],λ_ _ h=>h
   refine#[0,Oa,λte W=>#[Oe,λtp b1=>?_]]
   have v1:=Oq.upd (o:= .tup []) W
   have v2:=Oq.upd (o:= .tup [.str "press_button",.str "worn",.int 1,-te]) b1
   have By:=(B7.same v1).same v2;refine By.did2 (d:= .press "worn" 1 []) (by omega) G l #[te,qb,.inr (OC.of (v2 _ _ qb)),λz=>B7.live z W] #[#[#[⋯,⋯],⋯]] trivial (by decide +kernel:("press_button":Str)∈Qa) λv Hu lv _ g=>?_
   refine#[0,Oa,λtf b6=>#[Oe,λtq c6=>?_]]
   have v3:=Oq.upd (o:= .tup []) b6
   have v4:=Oq.upd (o:= .tup [.str "press_button",.str "worn",.int 1,-tf]) c6
   refine g _ _ _ (v3.trans v4) #[tf,qb,.inr (OC.of (v4 _ _ qb)),λz=>lv _ z b6] λv2 Hv a3 a4 st Bw e1 e2=>?_
   let#[y1,y2,y3]:=oM S3 "worn" 1 []
   have b5:(4096-B'.cnt-1).toNat+1=n:=by omega
   refine#[(4096-B'.cnt-1).toNat,b5▸LU _,a3,a4,_,j,k+1,_,Bw,by rw[Nat.add_assoc,KG 1,b5];exact hk,y3▸hj,yj 1 hj hB (by omega),?_,y1.trans n5,y2.trans n6,e1,e2,Z]
   rw[Z5];congr 1;omega
  .exact q _ _ _ _ _ B7 (by omega) (by omega) (by omega) G l
noncomputable abbrev R5:Α:=["teach","teach","teach","teach","forget_at","forget_at","press_button","turn_house","close_ages","turn_button"]
def GL(F:SI K "law" "law" cw f fd)(T:ON K mg tk)(yN:Df P w K mg base "_law_box" V7 1 (sE K))(dA:Df P w K mg base "_law_take" u7 1 az)(dP:Df P w K mg base "_law_key" W1 2 lr)(xN:Df P w K mg base "_law_deed" X3 3 (mZ K CB CD Qa))(zH:Df P w K mg base "_law_begun" ["_law_script","_law_great"] 11 (sk K CB CD C))(xQ:Df P w K mg base "_law_right" W4 11 (rP K CB CD C Qa))(y0:Df P w K mg base "_law_far_on" V0 11 (vd K CB CD C)):P5 P w K mg base ci 12 f fd ["_law_script"] (rG K):=by
 refine F.dq P3 (λvs H Q E h=>?_) (λcdv A outer s H vs Q E e h=>?_)
 .let#[x,ns,rfl,_]:=h
  rfl
 .let#[J,ns,rfl,hS,e6,q]:=h
  exists _,(qg (Qx (qu zH e.mo (qc (qv 0) (qc QH qa))) (cL Z (qM (qB (i:=1) P3.nd Z (SF Z)) (qM (qB (i:=2) P3.nd Z (SF Z)) (qM (qB (i:=3) P3.nd Z (SF Z)) Qs)))))
   (qg (qA (qw qQ (qu dA e.mo (qc (qv 1) (qc qj qa))) qj (qy _)) (qg (qJ (qu y0 e.mo (qc (qv 2) (qc (qv 3) (qc (qF zo qj (qu dA e.mo (qc (qv 1) (qc qj qa)))) qa)))))
   (qg (qA (Qg (zw (qu xQ e.mo (qc (qv 2) (qc (qv 3) (qc (qD (qc qi (qc qi (qc qi qa)))) qa)))))) (qh (qm QH)) qp)
   (qg (qA (qw qQ (qu dA e.mo (qc (qv 1) (qc qj qa))) qj (qy _)) (qh (Qc Ln Z (ba (ze (qc (qD (qc qi (qc (qu dP e.mo (qc (qv 1) qa)) qa))) (qc (qD (qc qi (qc qj qa))) qa)))) (qB (i:=4) P3.nd Z (SF Z))
   (qh (qA (Qg (zw (qu xQ e.mo (qc (qv 2) (qc (qv 3) (qc (qv 4) qa)))))) (qh (qm QH)) qp)))) qp)
   (qh (qA (Qg (zw (qu xQ e.mo (qc (qv 2) (qc (qv 3) (qc (qD (qc qi (qc qi (qc qi qa)))) qa)))))) (qh (qm QH)) qp))))) qp)
   (qg (qC (i:=5) P3.nd Z (SF Z) (ze (qc qi (qc qi (qc qi (qc qi (qc qi (qc qi (qc qi (qc qi qa))))))))))
   (qg (qC (i:=5) P3.nd Z (SF Z) (qF lJ (qv 5) (ze (qc qi (qc qi qa)))))
   (qg (Qc Ln Z (Q7 Z T.b_range (qc (qF zo qj (qq (pZ Z) T.b_min PyProof.Rows.boot_min (qc qj (qc (qq qN T.b_len Ld (qc (qv 0) qa)) qa)))) qa)) (qB (i:=6) P3.nd Z (SF Z))
   (qg (qC (i:=1) P3.nd Z (SF Z) (qu yN e.mo (qc (qv 0) (qc (qF zo qj (qv 6)) qa))))
   (qh (qA (Qg (zw (qu xQ e.mo (qc (qv 2) (qc (qv 3) (qc (qu xN e.mo (qc (qv 1) (qc (qv 3) (qc (qv 5) qa)))) qa)))))) (qh (qm QH)) qp))))
   (qh (qm QH)))))))
  refine#[0,J,ns,true,Z,hS,λqt b aH aO S H1 d7 B f7=>#[qt,0,OC.of d7,13,?_]]
  have d0:=B.hm.dl;have b0:=B.hm.bl;refine AU (λm H'=>∃(aH' aO':Ha) (S':Hs) (m':Nat) (r:Ο),Hb K CB CD C H H' b 1100 aH' aO' S' m'/\m'<=6000/\S'.ds.length<=39/\S'.bs.length<=39/\aH'.ma=aH.ma/\aO'.ma=aO.ma/\m=[↑(-J),↑(-b),↑(-aH.ma),↑(-aO.ma),r,none,none]) (λD' f4 b7=>?_) ?_
  .refine#[0,b,(8),0,B.bx,by omega,⋯,⋯,λr2 H2 g0 f1 g2=>#[7,qL (λ_=>?_) (λ_=>b7 _ _ #[aH,aO,S,(30),none,(B.grc g2).mono (by omega) (JL _),⋯,by omega,by omega,23])]]
   refine#[5,b,(5),0,g2.bx,by omega,⋯,⋯,λr3 H3 f8 f0 g3=>#[4,H,b,_,aH,aO,S,(30),0,(B.grc g2).grc g3,⋯,by omega,λH4 R U S4 m4 B4 m5 n1 n2 c0 b3=>?_]]
   refine#[2,Od,λlt X=>?_]
   have B5:=B4.same (Oq.upd (o:= .tup [.str "teach",.str "fullat",.str "worn"]) X)
   refine#[R,U,S4,_,lt,.teach "fullat" "worn",by rw[c0,b3];rfl,B5.w,B5.hm,by omega,qb,#[trivial],trivial,(by decide +kernel:("teach":Str)∈Qa),λa0 O H6 st I=>#[0,zu ?_]]
   have B6:=B5.stepH (d:= .teach "fullat" "worn") #[trivial] st I
   let#[n3,n4]:=fE S4 (.teach "fullat" "worn")
   generalize Qr S4 (zm S4 (.teach "fullat" "worn"))=S6 at B6 n3 n4
   have c1:=st.mH.trans c0;have c4:=st.mO.trans b3;clear st I B5 B4;refine AU (λm H'=>∃(aH' aO':Ha) (S':Hs) (m':Nat) (r:Ο),Hb K CB CD C H H' b 1080 aH' aO' S' m'/\m'<=5500/\S'.ds.length<=38/\S'.bs.length<=38/\aH'.ma=aH.ma/\aO'.ma=aO.ma/\m=[↑(-J),↑(-b),↑(-aH.ma),↑(-aO.ma),r,none,none]) (λD2 e9 N=>?_) ?_
   .refine#[0,b,(2),0,B6.bx,by omega,⋯,⋯,λr7 H7 f5 f2 g7=>#[7,qL (λ_=>?_) (λ_=>N _ _ #[a0,O,S6,_,none,(B6.grc g7).mono (by omega) (JL _),by omega,by omega,by omega,c1,c4,Z])]]
    have B7:=B6.grc g7;refine#[0,b,0,g7.bx,by omega,λp ks H8 g8 fp hp dk l1 l8=>#[Oc,λM d4=>#[Oc,λL e0=>#[Oc,λli a3=>#[li,Z,#[_,OA.of qb],?_]]]]]
    have B8:=B7.grc g8;have W:=Oq.upd (o:= .tup [.str "turn_house",-p]) d4
    have u2:=Oq.upd (o:= .tup [.str "close_ages",.int 1]) e0
    have u3:=Oq.upd (o:= .lst [V.ref M,V.ref L]) a3
    have D9:Dw K CB CD C H (Ot (Ot (Ot H8 M (.tup [.str "turn_house",-p])) L (.tup [.str "close_ages",.int 1])) li (.lst [V.ref M,V.ref L])) b 1080 a0 O S6 (m4+1) li [M,L] [.turnH ks,.close 1]:=by
     refine#[(((B8.same W).same u2).same u3).mono (by omega) (JL _),qb,λz=>((B8.same W).same u2).live z a3,λi t d h1 h2=>?_]
     match i,h1,h2 with
     |0,h1,h2=>cases h1;cases h2;exact#[p,u3 _ _ (u2 _ _ qb),u3 _ _ (u2 _ _ (W _ _ hp))]
     |1,h1,h2=>cases h1;cases h2;exact u3 _ _ qb
     |i+2,h1,h2=>cases h1
    have a2:∀d∈([.turnH ks,.close 1]:List Hd),Rm d/\fm d/\qX d∈Qa:=by
     intro d hd;simp only[JO,JX,JY]at hd;rcases hd with rfl|rfl
     .exact#[#[l8],trivial,(by decide +kernel:("turn_house":Str)∈Qa)]
     .exact#[#[trivial],trivial,(by decide +kernel:("close_ages":Str)∈Qa)]
    generalize Ot (Ot (Ot H8 M (.tup [.str "turn_house",-p])) L (.tup [.str "close_ages",.int 1])) li (.lst [V.ref M,V.ref L])=H9 at D9⊢
    refine bz (K:=K) (a:=li) (xs:=[M,L].map V.ref) (λi σ Hx=>∃(aH' aO':Ha) (S':Hs) (r:Ο),Dw K CB CD C H Hx b 1080 aH' aO' S' (m4+1+i) li [M,L] [.turnH ks,.close 1]/\S'.ds.length<=36+i/\S'.bs.length<=36+i/\aH'.ma=aH.ma/\aO'.ma=aO.ma/\σ=[↑(-J),↑(-b),↑(-aH.ma),↑(-aO.ma),r,none,none]) #[a0,O,S6,none,D9,by omega,by omega,c1,c4,Z] (λi σ Hx _ ⟨_,_,_,_,h,_⟩=>OA.of h.el) ?_ ?_
    .rintro i v σ Hy hv ⟨n,g,S3,r,D,n5,n6,y,G,rfl⟩
     rw[JW]at hv;let#[t,ht,rfl]:=Lo.mp hv;have i2:i<2:=(JZ.mp ht).1
     have c2:=JQ (show i<([.turnH ks,.close 1]:List Hd).length from i2)
     let#[k1,k2,k3]:=a2 _ (JU c2)
     refine#[5,n,g,S3,_,t,_,by rw[y,G];rfl,D.hb.w,D.hb.hm,by omega,D.dz i t _ ht c2,k1,k2,k3,λR U Hw st I=>#[0,zu ?_]]
     have l2:=fE S3 ([.turnH ks,.close 1]:List Hd)[i]
     exact#[R,U,8,D.step st (D.hb.stepH k1 st I),by omega,by omega,st.mH.trans y,st.mO.trans G,Z]
    .rintro σ Hy ⟨n,g,S3,r,D,n5,n6,y,G,rfl⟩
     have n5:S3.ds.length<=36+2:=n5
     have n6:S3.bs.length<=36+2:=n6
     exact N _ _ #[n,g,S3,8,D.hb,by show m4+1+2<=5500;omega,by omega,by omega,y,G,Z]
   .rintro m H7 ⟨c5,d3,S7,m7,r,B7,f6,n5,n6,b6,a1,rfl⟩
    refine#[2,Od,λlt X=>?_]
    have B8:=B7.same (Oq.upd (o:= .tup [.str "teach",.str "wornat",.str "worn"]) X)
    refine#[c5,d3,S7,_,lt,.teach "wornat" "worn",by rw[b6,a1];rfl,B8.w,B8.hm,by omega,qb,#[trivial],trivial,(by decide +kernel:("teach":Str)∈Qa),λe2 e3 H8 st I=>#[0,zu ?_]]
    have l2:=fE S7 (.teach "wornat" "worn");exact b7 _ _ #[e2,e3,21,(B8.stepH (d:= .teach "wornat" "worn") #[trivial] st I).mono (by omega) (JL _),by omega,by omega,by omega,st.mH.trans b6,st.mO.trans a1,Z]
  rintro m H1 ⟨j,c,S1,m0,r,B,m6,n1,n2,d1,d5,rfl⟩
  refine#[Oh,λw1 e4=>?_]
  have W:=Oq.upd (o:= .lst [.str "teach",.str "teach",.str "teach",.str "teach",.str "forget_at",.str "forget_at",.str "press_button",.str "turn_house"]) e4
  have e1:(Ot H1 w1 (.lst [.str "teach",.str "teach",.str "teach",.str "teach",.str "forget_at",.str "forget_at",.str "press_button",.str "turn_house"])) w1=↑(.lst [.str "teach",.str "teach",.str "teach",.str "teach",.str "forget_at",.str "forget_at",.str "press_button",.str "turn_house"]):=qb
  generalize Ot H1 w1 (.lst [.str "teach",.str "teach",.str "teach",.str "teach",.str "forget_at",.str "forget_at",.str "press_button",.str "turn_house"])=G1 at W e1⊢
  refine#[0,Oc,λw2 Y=>#[w1,w2,4,(Oq.upd Y) _ _ e1,qb,Oi,λu c3=>?_]]
  have V6:=(W.trans (Oq.upd (o:= .lst [.str "close_ages",.str "turn_button"]) Y)).trans (Oq.upd (o:= .lst (R5.map V.str)) c3)
  have d6:u∉hF j++hF c:=λq=>(B.same (W.trans (Oq.upd Y))).live q c3
  rw[show [V.str "teach",V.str "teach",V.str "teach",V.str "teach",V.str "forget_at",V.str "forget_at",V.str "press_button",V.str "turn_house"]++[V.str "close_ages",V.str "turn_button"]=R5.map V.str from Z]
  have b5:(Ot (Ot G1 w2 (.lst [.str "close_ages",.str "turn_button"])) u (.lst (R5.map V.str))) u=↑(.lst (R5.map V.str)):=qb
  generalize Ot (Ot G1 w2 (.lst [.str "close_ages",.str "turn_button"])) u (.lst (R5.map V.str))=H2 at V6 b5⊢
  have B2:=B.same V6;have d9:=B2.s.seq hS;exists 0,J,0,.inl d9,48,?_,?_
  .split<;>omega
  .split<;>omega
  refine aB (Pv:=λk σ Hx=>Hx u=↑(.lst (R5.map V.str))/\∃(b':Δ) (aH' aO':Ha) (S':Hs) (o6:Ο),Hb K CB CD C H Hx b' 1100 aH' aO' S' (m0+k)/\S'.ds.length<=39+k/\S'.bs.length<=39+k/\aH'.ma=aH.ma/\aO'.ma=aO.ma/\u∉hF aH'++hF aO'/\σ=[↑(-J),↑(-b'),↑(-aH.ma),↑(-aO.ma),r,↑(-u),o6]) #[b5,b,j,c,S1,none,B2,n1,n2,d1,d5,d6,Z] ?_ ?_
  .rintro k σ Hx hk ⟨ew,b1,j,c,S1,o6,Bx,n3,n4,eH,eO,nw,rfl⟩
   have f3:k<20:=by
    refine Ll hk ?_
    split<;>omega
   refine#[14,J,ns,1+k,Lh (λz=>[V.ref J,V.int z]) (show(1+(0+(k:Int)))=((1+k:Nat):Int) by omega),Bx.s.seq hS,by omega,λb2 Hy fb sy d8=>?_]
   have By:=Bx.rebox sy fb d8;have a4:=sy _ _ ew;have a5:u≠b2:=λz=>by rw[z,fb]at ew;cases ew
   refine#[28,b2,u,c,S1,8,R5,by rw[eO];rfl,By.bx,by omega,By.nO,By.w.oo,By.hm,#[by omega,by omega,by omega],a4,a5,⋯,⋯,λz hz=>?_,λl d Hz gz hl hd d2 c6=>?_]
   .revert z;decide +kernel
   have Bz:=By.grc gz;have b4:=gz.kp _ _ a5 a4;have e5:qX d∈Qa:=(show∀z∈R5,z∈Qa by decide +kernel) _ c6
   have l2:=fE S1 d;refine#[j,c,S1,_,l,d,by rw[eH,eO];rfl,Bz.w,Bz.hm,by omega,By.dez hl,hd,d2,e5,λn g Hw st I=>#[0,zu ?_]]
   exact#[st.m _ _ nw b4,b2,n,g,8,(Bz.stepH hd st I).mono (by omega) (by omega),by omega,by omega,st.mH.trans eH,st.mO.trans eO,st.free b4 nw,Z]
  rintro σ H3 ⟨ew,b1,j,c,S1,o5,B3,_,_,eH,eO,nw,rfl⟩
  exact q _
end
def FS{l:W.OpenLaw}{K:ι}(X:K.In h)(G:h.Ns η mg)(f2:mg "law"=↑(-fa))
  
  
  (c4:SN K η "Button"=↑(↑(-CB)))
  (g2:Sm K CB Str.empty=true)
  (g3:So K CB=true)
  (b7:S0 K CB=true)
  (g7:SK K (-CB) "__setattr__"=↑(↑(.builtin "object.__setattr__")))
  (j1:TK K CB=true)
  (h8:Si K (-CB)=true)
  (Pz:SK K (-CB) "name"=↑none)
  (Pi:SK K (-CB) "table"=↑none)
  (ST:SK K (-CB) "key"=↑none)
  (Rs:SK K (-CB) "age"=↑none)
  (Pp:SK K (-CB) "step"=↑none)
  (Id:SK K (-CB) "next_count"=↑none)
  (O3:SK K (-CB) "bound"=↑none)
  (Op:SK K (-CB) "cells"=↑none)
  
  (b5:SN K η "Door"=↑(↑(-CD)))
  (g4:Sm K CD Str.empty=true)
  (h4:So K CD=true)
  (i1:S0 K CD=true)
  (i3:SK K (-CD) "__setattr__"=↑(↑(.builtin "object.__setattr__")))
  (a3:TK K CD=true)
  (b4:Si K (-CD)=true)
  (NE:SK K (-CD) "table"=↑none)
  (pi:SK K (-CD) "house_keys"=↑none)
  (PK:SK K (-CD) "near"=↑none)
  (Sl:SK K (-CD) "far"=↑none)
  (Pw:SK K (-CD) "most"=↑none)
  (LE:SK K (-CD) "least_age"=↑none)
  (Mx:SK K (-CD) "buttons"=↑none)
  (Sc:SK K (-CD) "log"=↑none)
  
  (d3:SN K η "House"=↑(↑(-C)))
  (d6:Sm K C Str.empty=true)
  (h5:So K C=true)
  (d7:S0 K C=true)
  (f7:SK K (-C) "__setattr__"=↑(↑(.builtin "object.__setattr__")))
  (j3:TK K C=true)
  (c3:Si K (-C)=true)
  (No:SK K (-C) "table"=↑none)
  (IO:SK K (-C) "house_keys"=↑none)
  (Lp:SK K (-C) "least_age"=↑none)
  (O2:SK K (-C) "doors"=↑none)
  (LT:SK K (-C) "buttons"=↑none)
  (Pl:SK K (-C) "kept"=↑none)
  (M2:SK K (-C) "opened"=↑none)
  (A0:Ac K mg "is_number" eM)
  (A1:Ac K mg "is_digit" gv)
  (A2:Ac K mg "are_digits" cX)
  (A3:Ac K mg "back_table" cN)
  (A4:Ac K mg "coded" nr)
  (A5:Ac K mg "decoded" iS)
  (A6:Ac K mg "is_name" iF)
  (A7:Ac K mg "is_code" iA)
  (A8:Ac K mg "is_press" gl)
  (A9:Ac K mg "letter_digits" aJ)
  (A10:Ac K mg "key_of" kK)
  (A11:Ac K mg "count_digits" bA)
  (A12:Ac K mg "press_of" gB)
  (A13:Ac K mg "read_press" cS)
  (A14:Ac K mg "word_of" iQ)
  (A15:Ac K mg "step_by" iT)
  (A17:Pg K CB "__init__" "Button.__init__" aQ)
  (A18:Pg K CB "is_worn" "Button.is_worn" au)
  (A19:Pg K CB "must_write" "Button.must_write" Zk)
  (A20:Pg K CB "spare_cell" "Button.spare_cell" Zj)
  (A21:Pg K CB "write_bound" "Button.write_bound" Zc)
  (A22:Pg K CB "press_once" "Button.press_once" Zi)
  (A23:Pg K CB "cell_out" "Button.cell_out" ZU)
  (A24:Pg K CB "turn_key" "Button.turn_key" ZY)
  (A25:Pg K CB "name_told" "Button.name_told" ZC)
  (A26:Pg K CB "age_now" "Button.age_now" aj)
  (A27:Pg K CB "count_now" "Button.count_now" Zw)
  (A28:Pg K CB "cells_now" "Button.cells_now" ZA)
  (A29:Pg K CD "__init__" "Door.__init__" Ze)
  (A30:Pg K CD "is_full" "Door.is_full" bu)
  (A31:Pg K CD "button_of" "Door.button_of" aq)
  (A32:Pg K CD "takes_age" "Door.takes_age" ar)
  (A33:Pg K CD "takes_from" "Door.takes_from" ZQ)
  (A34:Pg K CD "plain_step" "Door.plain_step" ZR)
  (A35:Pg K CD "answer_to" "Door.answer_to" af)
  (A36:Pg K CD "hear" "Door.hear" eK)
  (A37:Pg K CD "read_right" "Door.read_right" ZX)
  (A38:Pg K CD "learn" "Door.learn" cK)
  (A39:Pg K CD "forget" "Door.forget" b9)
  (A40:Pg K CD "turn_key" "Door.turn_key" aV)
  (A41:Pg K CD "close_below" "Door.close_below" Zs)
  (A42:Pg K CD "known_now" "Door.known_now" ag)
  (A43:Pg K CD "keys_now" "Door.keys_now" aM)
  (A44:Pg K CD "closed_now" "Door.closed_now" ZW)
  (A45:Pg K CD "bounds_told" "Door.bounds_told" Zq)
  (A46:Pg K CD "log_now" "Door.log_now" bb)
  (A47:Pg K CD "twin_door" "Door.twin_door" ac)
  (A48:Pg K C "__init__" "House.__init__" a9)
  (A49:Pg K C "door_named" "House.door_named" ZB)
  (A50:Pg K C "button_named" "House.button_named" Q9)
  (A51:Pg K C "add_door" "House.add_door" av)
  (A52:Pg K C "add_button" "House.add_button" ZE)
  (A53:Pg K C "keep_press" "House.keep_press" ZD)
  (A54:Pg K C "teach" "House.teach" b8)
  (A55:Pg K C "hear_at" "House.hear_at" aP)
  (A56:Pg K C "press_button" "House.press_button" Q8)
  (A57:Pg K C "lose_cell" "House.lose_cell" ZV)
  (A58:Pg K C "turn_house" "House.turn_house" Zn)
  (A59:Pg K C "turn_button" "House.turn_button" Zl)
  (A60:Pg K C "close_ages" "House.close_ages" Zy)
  (A61:Pg K C "forget_at" "House.forget_at" ZT)
  (A62:Pg K C "door_now" "House.door_now" ap)
  (A63:Pg K C "button_now" "House.button_now" Zv)
  (A64:Pg K C "kept_now" "House.kept_now" am)
  (A65:Pg K C "opened_by" "House.opened_by" ZZ)
  (A66:Ac K mg "_law_box" jc)
  (A67:Ac K mg "_law_take" gu)
  (A68:Ac K mg "_law_table" eV)
  (A69:Ac K mg "_law_key" jj)
  (A70:Ac K mg "_law_own" iC)
  (A71:Ac K mg "_law_refused" bY)
  (A72:Ac K mg "_law_added" fg)
  (A73:Ac K mg "_law_taught" cZ)
  (A74:Ac K mg "_law_keyed" e8)
  (A75:Ac K mg "_law_listened" br)
  (A76:Ac K mg "_law_pressed" bX)
  (A77:Ac K mg "_law_of_button" aG)
  (A78:Ac K mg "_law_due" iG)
  (A79:Ac K mg "_law_called" dc)
  (A80:Ac K mg "_law_class" eU)
  (A81:Ac K mg "_law_did" jh)
  (A82:Ac K mg "_law_same" cx)
  (A83:Ac K mg "_law_shown" eL)
  (A84:Ac K mg "_law_some_name" aX)
  (A85:Ac K mg "_law_new_name" a8)
  (A86:Ac K mg "_law_deed" gk)
  (A87:Ac K mg "_law_begun" eR)
  (A88:Ac K mg "_law_right" eW)
  (A89:Ac K mg "_law_far_on" c8)
  {b1:Κ}{b2:Array Ν}{a1:Γ}
  (h9:SN K η "law"=↑(↑(-D)))
  (h0:K.lookup D=some #[a1,b1,.func (Sw "law" "law" (Zh cw) (Qk cw) (ql cw) .none A u B z r y),b2])
  (j2:W.codeIn K r "law"=true)
  (e9:Si K (-D)=true)
  
  (f6:SN K η "DIGITS"=↑(↑(.int 16 t0)))
  
  (f5:SN K η "KEY_PLACES"=↑(↑(.int 4 t1)))
  
  (i0:SN K η "LONGEST_NAME"=↑(↑(.int 8 t2)))
  
  (f1:SN K η "CODE_DIGITS"=↑(↑(.int 5 t3)))
  
  (e5:SN K η "AGES"=↑(↑(.int 8 t4)))
  
  (c5:SN K η "COUNTS"=↑(↑(.int 4096 t5)))
  (z0:SN K η "isinstance"=↑none)
  (z1:SN K η "bool"=↑none)
  (z2:SN K η "int"=↑none)
  (z3:SN K η "tuple"=↑none)
  (z4:SN K η "all"=↑none)
  (z5:SN K η "len"=↑none)
  (z6:SN K η "abs"=↑none)
  (z7:SN K η "list"=↑none)
  (z8:SN K η "enumerate"=↑none)
  (z9:SN K η "range"=↑none)
  (b6:SN K η "max"=↑none)
  (d4:SN K η "min"=↑none)
  (e4:SN K η "str"=↑none)
  (d5:SN K η "zip"=↑none)
  (h3:SN K η "ord"=↑none)
  (h7:SN K η "sum"=↑none)
  (c2:SN K η "reversed"=↑none)
  (f3:SN K η "sorted"=↑none)
  (e1:SN K η "dict"=↑none)
  (c1:SN K η "CodeError"=↑(↑(-f)))
  (g0:SN K η "Known"=↑(↑(-m)))
  (g5:SN K η "Full"=↑(↑(-n)))
  (h2:SN K η "Unknown"=↑(↑(-o)))
  (i4:SN K η "TooMany"=↑(↑(-j)))
  (d0:SN K η "BadPress"=↑(↑(-xb)))
  (f0:SN K η "Worn"=↑(↑(-g)))
  (e3:SN K η "BadLog"=↑(↑(-p)))
  (c6:SN K η "BadRow"=↑(↑(-q)))
  (g6:aL K f Qv Qv "ValueError.__new__"=true)
  
  (d1:SK K (-xb) "__init__"=↑(↑(-t)))
  (A16:Pg K xb "__init__" "BadPress.__init__" ZS)
  (e6:SK K (-xb) "place"=↑none)
  (f4:SK K (-xb) "__setattr__"=↑(↑(.builtin "object.__setattr__")))
  (g1:W.specialIn K (-f) "__getattribute__"=↑(↑(.builtin "type.__getattribute__")))
  (g8:W.readsIn K f (.type "type")=true)
  (i5:W.findCls K (-f) (.type "type") "__init__"=↑(.val (.builtin "ValueError.__init__")))
  (i2:W.handedIn (.builtin "ValueError.__init__")=true)
  (a5:RH K (#[f,m,n,o,j,xb,g,p,q]:Xa) m)
  (b0:RH K (#[f,m,n,o,j,xb,g,p,q]:Xa) n)
  (Y:RH K (#[f,m,n,o,j,xb,g,p,q]:Xa) o)
  (b3:RH K (#[f,m,n,o,j,xb,g,p,q]:Xa) j)
  (a2:RH K (#[f,m,n,o,j,xb,g,p,q]:Xa) g)
  (h6:dh K xb (.ref f::Qv) Qv "ValueError.__new__" t=true)
  (e2:W.mroIn K xb (.type "object")=↑true)
  (d9:W.mroIn K xb (.type "BaseException")=↑true)
  (j4:SK K (-xb) "__class__"=↑(↑(.builtin "object.__class__")))
  (j0:SK K (-xb) "__getattribute__"=↑(↑(.builtin "BaseException.__getattribute__")))
  (d2:SK K (-xb) "__getattr__"=↑none)
  (f8:(W.clsIn K xb).isSome=true)
  (H:SR K (-xb) (-xb)=↑(decide (xb=xb)))
  (F:SR K (-xb) (-m)=↑(decide (xb=m)))
  (L:SR K (-xb) (-n)=↑(decide (xb=n)))
  (E:SR K (-xb) (-o)=↑(decide (xb=o)))
  (I:SR K (-xb) (-j)=↑(decide (xb=j)))
  (J:SR K (-xb) (-g)=↑(decide (xb=g)))
  (O:SR K (-xb) (-p)=↑(decide (xb=p)))
  (N:SR K (-xb) (-q)=↑(decide (xb=q)))
  (e0:SR K (-xb) (.type "ValueError")=↑true)
  (h1:([xb,m,n,o,j,g,p,q]:Η).Nodup)
  (d8:SN K η "ValueError"=↑none):
  ∃fd:FuncData,(∀(s:Θ) (v:Γ),BindsTo s fd #[[v],[]] [("_law_script",v)])/\∀base:Ψ,K.In base->base.Ns η mg->P5 l.prog w K mg base ci 12 fa fd ["_law_script"] (rG K):=by
 have e:=f2.symm.trans (Lm X G h9);cases e;have T:ON K mg (λi=>if i=0 then t0 else if i=1 then t1 else if i=2 then t2 else if i=3 then t3 else if i=4 then t4 else if i=5 then t5 else 0):=#[Lm X G f6,Lm X G f5,Lm X G i0,Lm X G f1,Lm X G e5,Lm X G c5,Lq X G z0,Lq X G z1,Lq X G z2,Lq X G z3,Lq X G z4,Lq X G z5,Lq X G z6,Lq X G z7,Lq X G z8,Lq X G z9,Lq X G b6,Lq X G d4,Lq X G e4,Lq X G d5,Lq X G h3,Lq X G h7,Lq X G c2,Lq X G f3,Lq X G e1]
 refine#[Sw "law" "law" (Zh cw) (Qk cw) (ql cw) .none A u B z r y,λs v=> .of_eq Z,λbase _ _=>?_]
 have c:Rc K CB:=#[#[g2,g3,b7,g7],Pz,Pi,ST,Rs,Pp,Id,O3,Op]
 have a:PB K CD:=#[#[g4,h4,i1,i3],NE,pi,PK,Sl,Pw,LE,Mx,Sc]
 have U:Ro K C:=#[#[d6,h5,d7,f7],No,IO,Lp,O2,LT,Pl,M2]
 have XG:XGx K mg (#[f,m,n,o,j,xb,g,p,q]:Xa):=#[Lm X G c1,Lm X G g0,Lm X G g5,Lm X G h2,Lm X G i4,Lm X G d0,Lm X G f0,Lm X G e3,Lm X G c6,g6,h1,Lq X G d8]
 have a4:Ur K f xb t "place":=#[h6,e6,f4,#[e2,d9,j4,j0,d2,f8]]
 have a0:=tS (x:=(#[f,m,n,o,j,xb,g,p,q]:Xa)) H F L E I J O N
 have c0:UM K f "ValueError.__init__":=#[g1,g8,i5,i2]
 have d:Rp K mg (#[f,m,n,o,j,xb,g,p,q]:Xa) t:=#[#[XG,a5,b0,#[a4,a0,e0],c0],Y,b3,a2]
 have xO:=tQ (P:=l.prog) (w:=w) (base:=base) A0.at T
 have zK:=uS A1.at T xO
 have yZ:=rf A2.at T zK
 have zB:=rp (P:=l.prog) (w:=w) (base:=base) A3.at T
 have yY:=DK (P:=l.prog) (w:=w) (base:=base) A4.at T
 have zM:=xh A5.at T zB
 have zL:=wH (P:=l.prog) (w:=w) (base:=base) A6.at T
 have zN:=wY A7.at T yZ
 have yB:=uO A8.at T zL xO zN
 have yO:=kP (P:=l.prog) (w:=w) (base:=base) A9.at T
 have yR:=Aw A10.at T yO yY
 have yT:=lF (P:=l.prog) (w:=w) (base:=base) A11.at T
 have zJ:=uM A12.at T yT yR yY
 have xI:=rj A13.at T yR zM
 have zO:=wq (P:=l.prog) (w:=w) (base:=base) A14.at T
 have zQ:=xa A15.at T zO
 have A16:=A16.at (ps:=Y6)
 have zX:=iH (P:=l.prog) (w:=w) (base:=base) A16 T d d1
 have zS:=kX (P:=l.prog) (w:=w) (base:=base) A17.at T c
 have yU:=zS.mi j1 h8 (Lm X G c4);have xB:=jJ (P:=l.prog) (w:=w) (base:=base) A18.at T c
 have xR:=gE A19.at T c xB
 have xT:=gg (P:=l.prog) (w:=w) (base:=base) A20.at T c
 have xK:=fQ A21.at T c xT
 have xE:=fK A22.at T c d xB xR xK zJ
 have dM:=xE.mf F3;have dW:=jq (P:=l.prog) (w:=w) (base:=base) A23.at T c
 have dX:=iV (P:=l.prog) (w:=w) (base:=base) A24.at T c
 have xV:=iq (P:=l.prog) (w:=w) (base:=base) A25.at T c
 have R:=jW (P:=l.prog) (w:=w) (base:=base) A26.at T c
 have Q:=ii (P:=l.prog) (w:=w) (base:=base) A27.at T c
 have dR:=ig (P:=l.prog) (w:=w) (base:=base) A28.at T c
 have A29:=A29.at (ps:=x5)
 have zU:=nM (P:=l.prog) (w:=w) (base:=base) A29 T a
 have yG:=zU.mi a3 b4 (Lm X G b5);have zV:=(lS (P:=l.prog) (w:=w) (base:=base) A29 T a).mi a3 b4 (Lm X G b5)
 have xD:=k9 (P:=l.prog) (w:=w) (base:=base) A30.at T a
 have xA:=jL (P:=l.prog) (w:=w) (base:=base) A31.at T a
 have dL:=jK (P:=l.prog) (w:=w) (base:=base) A32.at T a
 have dU:=iE A33.at T a dL
 have yC:=iK A34.at T a dU zQ
 have yJ:=jS A35.at T a xA dU yC xI
 have xP:=um A36.at T a yB yJ
 have xH:=jm A37.at T a yB dL xI
 have xJ:=rg A38.at T a xH xD
 have yH:=mE (P:=l.prog) (w:=w) (base:=base) A39.at T a d
 have yV:=yH.mf E9;have xC:=kQ (P:=l.prog) (w:=w) (base:=base) A40.at T a
 have dG:=ia (P:=l.prog) (w:=w) (base:=base) A41.at T a
 have dJ:=jQ (P:=l.prog) (w:=w) (base:=base) A42.at T a
 have xU:=kz (P:=l.prog) (w:=w) (base:=base) A43.at T a
 have xG:=iL (P:=l.prog) (w:=w) (base:=base) A44.at T a
 have xW:=ij (P:=l.prog) (w:=w) (base:=base) A45.at T a
 have yA:=ln (P:=l.prog) (w:=w) (base:=base) A46.at T a
 have yK:=jO A47.at T a yG
 have zT:=mT (P:=l.prog) (w:=w) (base:=base) A48.at T U (CB:=CB) (CD:=CD)
 have zR:=zT.mi j3 c3 (Lm X G d3);have dH:=gM (P:=l.prog) (w:=w) (base:=base) A49.at T U d (CB:=CB) (CD:=CD)
 have dQ:=dH.mf Ir;have dE:=eN (P:=l.prog) (w:=w) (base:=base) A50.at T U d (CB:=CB) (CD:=CD)
 have xM:=dE.mf Jc;have yL:=i6 A51.at T U d a yG dG (CB:=CB)
 have xY:=gY A52.at T U d c yU (CD:=CD)
 have dO:=gR A53.at T U d c xE (CD:=CD)
 have yX:=me A54.at T U d c a zX dH dE dO xA xD dL xJ Q R
 have yP:=kY A55.at T U a xP (CB:=CB)
 have xL:=eY A56.at T U d dH dE dO yP
 have yF:=im A57.at T U d c dE dW
 have xZ:=fZ A58.at T U d a xC (CB:=CB)
 have xS:=fL A59.at T U d c dE R dX
 have xX:=gf A60.at T U d a dG (CB:=CB)
 have yE:=ip A61.at T U d a dH yH
 have yM:=jU A62.at T U a dQ yK
 have x8:=hJ A63.at T U c xM R Q dR
 have yI:=jP (P:=l.prog) (w:=w) (base:=base) A64.at T U (CB:=CB) (CD:=CD)
 have yD:=iB A65.at T U dQ
 have yN:=v9 (P:=l.prog) (w:=w) (base:=base) A66.at T
 have M:=uN (P:=l.prog) (w:=w) (base:=base) A67.at T
 have zF:=tI A68.at T M
 have dP:=wB A69.at T M
 have zP:=wG (P:=l.prog) (w:=w) (base:=base) A70.at T (CB:=CB) (CD:=CD)
 have S:=nE (P:=l.prog) (w:=w) (base:=base) A71.at T
 have zG:=sR A72.at T a yU zV dG S
 have zA:=rh A73.at T c a dJ xW xJ xV Q R dM S
 have zI:=sO A74.at T a xC dG S (CB:=CB)
 have yS:=lE A75.at T a xP (CB:=CB)
 have yW:=nN A76.at T c Q dM S yS
 have yQ:=kH A77.at T c dW R dX S yW
 have dZ:=wu A78.at T zG zA zI yQ a dJ yV S
 have Y_law_called:=nI A79.at T U yL xY yX xL yF xZ xS xX yE
 have zE:=sj (P:=l.prog) (w:=w) (base:=base) A80.at T d
 have dY:=w9 A81.at T d Y_law_called zE
 have A82:=A82.at (ps:=Q2)
 have dI:=jZ (P:=l.prog) (w:=w) (base:=base) A82 T
 have zD:=rW (P:=l.prog) (w:=w) (base:=base) A82 T 4 (dI 4 ⋯)
 have zC:=uj A83.at T U c a yI x8 yM yD R Q dR dJ yA xG xU dI zD
 have xF:=ko A84.at T M
 have x9:=lP A85.at T M
 have xN:=uD A86.at T M xF x9 dP (CB:=CB) (CD:=CD)
 have zH:=tG A87.at T zR yN M zF dP zP xN dY dZ
 have xQ:=ua A88.at T dY dZ (dI 4 ⋯) zC
 have y0:=rA A89.at T c Q dY dZ
 exact GL (sZ (st:=cw) h0 j2 e9) T yN M dP xN zH xQ y0
def Ju{l:W.OpenLaw}{j:(Str->Ν)->Ψ->Prop}{i:Ω->Ψ->Prop}{d:DefRec}{K:Params->ι}(hn:l.most=↑63)(e:d.params.defaults=[])
  (o:∀(w:Ω) (h:Ψ),i w h->(K w.params).In h)
  (F:∀(w:Ω) (mg:On) (g:Δ) (h:Ψ),(K w.params).In h->h.Ns η mg->mg d.name=↑(-g)->
   ∃fd:FuncData,(∀(s:Θ) (u:Γ),BindsTo s fd #[[u],[]] [("_law_script",u)])/\∀base:Ψ,(K w.params).In base->base.Ns η mg->P5 l.prog w (K w.params) mg base ci 12 g fd ["_law_script"] (rG (K w.params))):
  W.WalkO q c j i l.row.toRowW d [] (λf t=>PySem.call f t):=
 L2.Fg (n:=63) (k:=12) (x:="_law_script") (CX:=λ_=>ci) (sp:=λw=>rG (K w.params)) hn ⋯ e #[Z,⋯,⋯] o F (λ_ _ a m p _ r=>#[a,m,Z,r,p,λ_=>rfl]) λ_ _ _ _ _ z=>z
end Lw
local macro_rules|`(#print $s:str)=>do
 let mut z:=Array.empty
 let mut h:=0
 let mut k:=0
 for c in s.getString.toList do
  let n:=c.toNat
  h:=h*62+n-(if n<58 then 48 else if n<91 then 55 else 61)
  k:=k+1
  if k==11 then
   z:=z.push (←`(theorem $(Lean.mkIdent (.mkStr `PySem.W.Fast s!"tw{h}")):ident:True:=⟨⟩))
   h:=0;k:=0
 return Lean.mkNullNode z
#print"882ThszGJ6E5ikY9HYT7sT0ENiJqfkcuUBXVOQNzozmJHM0EPpM1pg93J4N8rg7vShAx0yBpsrPWaBFfV053ZVau28i19hxBtapCZBexegcXDqKidFUbsWdSHJdf0yj6ElGX6Ad79us5kLg9P7A0YQ6Qaj2lFlQ0sd7D72GSf4KcJ1n7EQPuqlFibHgHMkep0VGJS27unz5ywTpR06Svjuz6wDK21xdNjazB7PhC1HQjth54Tu0J6WDpXWasz7qyDdjAlXux76xgzeDDtaA5pFdqYVhzag5FmWdOz3drzL99uW5RdVsbIY37sIrgBiyI0DSg5xO2HHDt1KrNx1GAwGDdz1zS0dop99HLVb1rN7gEo8gcB0YA5X038eO8crGxzKMkhrRwLQxR070crbC9LzlIx3SJjCnS539ucJSTkjdXZ5Rk9pwDqjZV88yZQky70wM6Otbywa1xHEEonxptWrNZ0BJAlhZ5ICqJIh2jGCR9HEBHlYSlyHL9WiIrrkUyBYgL0IMQJlqo9LgV8AmTrIdJslU5cPWl0zNS8ZDFJhVZBqVy8JKM4T2YrdCQ0fiFpR1eZnbAoRjSkxiFIwHs6oVIfRhQCKCB2OS8ZLKaHa8uL14Qbns7GEwgZd0eLDCvNXAMqTYKUAjwAzQ6P2941eArCyn4SoxJYI48zVAymoHrtkeUiitxR7RuD2hhxyyKD0EF7t8v0zv9bdyCm2zzQy0cZcjDh3TZD3gWFAvy9dtO1ZrRlILeAem3LvvDkLfS3cBNnqy1aXXQjKs9xLOwJVP8Ghr13sNRRV659MAEkhG9clHEnY9NTFMvbGyTwnWpqJRDFsMVrsbv4B03t20ri9LKQ7HH8NyV420pD6MSx0xopEcJ6VW6zlzoGchENs0TPzB9ey6HlNq4oAn51A3kIOLtVT8d8Qu6Ph2d51WA3KzEFHmaO3HslLHnaMUTMBEULqNcOa6j4JJrxcGn0ZN1tUKlhMLGYREGXyYhQ562GF4rTdTsAcBoLtulXWez60a1JP5HNGpDJf5hn917UUZGjFbFpojcHib8KMXBxTFVg41JacxFjum22wCt0bb1DxuKFGvNvS3lYrdB7T2WqA5pzo717exhQm6ATz9iRXkcipYAb8J4jxemha4qGzoOPxZcc0a1ljftAtMTpuC4hgd9zxgKd0hOvKZVIkkgBAux2jLVFP6GoUcCr4Asbv0xBTk5jzjRjFT3y6xyNq0EKSQjcIx6EdkGILSxkbswJz5Jl1ox7UvjlCs6ir57ylLZ1SIgndJQ9LFEklx38ROgAtLbhNZDQyi5lLaKynmbuUsCCdJMAJBnn3J1KrJli2C9CP3DdziMAnBpsGO8InVkogGM8W7UdOlanl6JxVHkyXMzVTHBmd38XNh4z9RqQaQuZIr1LYWETIJmEh2CNBkWN5xxVU3DE4G9dzGCd6t590W77bj47oWLiwf1zzBBx83RFcNbpkHgzktdNUJjtB5xp1bqGR5hBvjv9mUqSq82HPc3Nsmy9FGpIfeuwYJoN1NpznjjE4n7JDq3CaeAhTk9hUxPq8aNC71u5AyvP3kM34UDZLntVOBs9BfwFiWHnhB7RzrPFHYpkN8LXJ6DXPJgE26X3wXKkEQEEqSfHous90LFZh7bm1moH2FiUTr3xxz29BfwsGccyVrCDvNdcEgkwJdBdtIyCl4LoeI7PSCSiXlvcI26Gc8bpQ7WCMtOr1x2bQyH9DMBt4LvZc1feln1F9JsB044h4hewI4BGqxOCi7xWkdBx1kFwRoip96IHKuAniCTvFz72XrVxoq2BAKngShByFG8wOlg1iWxyI4SoxH4KFiLpDNX0J98gZcfEbGpgLGivhW4B6zBjTObcS8AdeLEfIFrC9SlGwbltPq0HpWQW8WxfpMKPjVAZQrHB58uRUybfI3zsIX7e1zuOjCmBBAab0YmcXZHpIIKHvl8kvFRZznBkvzbe8PmywPhuAXO9TcoaPgZlEu81aljkKh2zI3vCSGiRSblQAzTbNdz1v4e2keBsosk1kYI7kjV2ehqKsIpV5EIywanR35ZE4xSK23ZK01YYxonaM5ASND2wxfpIl2Nql8axXDP92s05s24ZFr6BM5gSHMWI2t97ytqUOomHREjyYERXvj7CIgiovE9cTKJ0how5ls81mO0OldYw9CJpv3bmB09XObhYJloWVg8dvjU4kutHyf09YL9YDRf19kOxtB1lZtxXiCgeKITj0VclrJQ5OqNUC3R8RA7x7gtl1KCNoIPmD7hwANv6C75lRngw9S6Ltxc4m3nzMG294luvjxB3PImxWD33hgNDAMKjnznovXJD44shVLlaPe0o9tUWqAyn88SJACMQou9o7VSZD8cZFJw1AYma1vReca44sFD7dRcjpGln5q4aCRSYLlNZjQc6bMw6h5gnbay62K76h5kZ5yPSf5piVbe9qyaiEidFvwB83RKLsK9v14yVQ2BZyfvKSK7Ya9ITakmXerkd26rZ7rdLKTD2IUiSJi4Q81FYoX7KP6YsBHbvA0HDCkYGFHAedVcVaNBHuzU3tGKZwuC3Edh9CKQLn0HfNB4Tdg4J4x1EKlGG1p5Hj3aTPqOYKz27YbtEPgVJwKnmyoO264YeD6jV9sjOJzCE76OrA9ssvfA805e3FUlWm3EGy2Cxw2Af3CaYnVMZAFB3lYY6nDaJL44ALVI9WZkjZ7YP95m5f3ai5m4fXco9ExN6APdih8NS7xE3wxSxz1TveBNuRj4tHFY0A1ODKSsJBZ41HXBLE4gxdxI3dYyWCI7LiEkb2PCLVcm56nzngHzFmewFhryTUD6pMj2ea9dLwZun18aDwCThSAvN4XdXqPKoRSCLdypTUCTDs3AgpDgLcJiFRJnyKPyCgOtEAv3PUPULyI2KkK0UCbJUUS9pLMp0bq1hvD1wvkuLhBMV5iIFuIdoeU3KWiBtddZflt9EoiiLtUR4p1iVNfwhzXT39Er9a2xG6ztDzHPbiyimV7CsRwE2zy4YZ02wcJn2bVVRGQkhd1qk06960DzwLAkDhS1UNkHGtqfDLILUP8Zvcgu81A6z0KsMfPvJSCJeNltVPkBwfo4Fp8EOCBMQsATYAobIKogqmUSofY6GIW7LrDDgVO68quMwpzblfFuwn8HYJFGs2wwx2iLGQ9f3Ds7b8kvqrtIukzMtezKbqCQ3ckrDswCiLdnZfR7SOBPEmpyaXrrzNeLDwnYpyGOByAOx0VKdif6HKc6G6B6drW402mONxXlJZG1eqNrETugq77pMyRY7oZy4K1hQ8nGpGbc2WXgGgT03kNDlZHdyEGxOkKLbR3lmmvLCJWLvL6hgLqKJis7aPnV4hNFmp5yKhEdI66ruFePsVPklKv6y6hZoQHuH9eFfsyRLXSDYqMUvJQayyCOlIDnTyGATCDLETRc3V1qL9Mp91nh3cE6ni8sqWbCOj8PoPaMym5hbKxhrM19xeD6FLDDzoMnQNs6EhwLeJIhhlFbzk05C4vqZ5cF1m5UR17YEM6dZp78hXk6tKUIdYTxJ96Gc8QMS2JuJDfQghsivyE2FKScGB62XjMLArNEG2Krp2GTctbEYmasNE9cAZD83gVk6vkyx5l4CrW3gojqfnFmYzFNQdLc6hyXP91PJmwegxan1D4lOpcuv2iA3Cyh1SjGToIc2KVfEirSb5DxQNAhmm6m9kwErMA4rbB6mhT2fcRFo7JLFsaK2GGasKCOiqsiEVpVLhjhVkVOgC6CvRujdv51ne66Wz7oBUnTnLid59SHpSiY9HjkpEBZ4AK0GoMwy2Wbqg9T1HMCh5Why0jZpFEo4znc1LFZwUgTYmjBEASMKUfSHzAE58YWndNoXEO1DN7EKO7t79hsDTZuYKi0MHmlMb5QLX3m21KaSt83i49BmpY21GhF56XXSLwD1O5AvccQNNDDzfDBbQKoKEAgf0oJ74GRQ4lK5wPdTIuvpyvKUrP6x0a1YP6yqSoyCx8z2F3YcEdbkUH97LCQgtuOJtXBJoVlU0S2eLAopMgc3SFdX07dossQS5XuGkQC3dkvzcN0LnRFi4U1z24jcdQZ7CSbE83RJYq25nnFA9bxKYf9ulDKLExXosbByPEz0UUhwsx7k6QLPpZXsVCr4c72rxaQC3VBrnYVB5Loep9pPrd7VS1AP4pb52i5cMyG38mg5hUdUKD7DYaYxXS1sxGCkxrBqfRTa1BhFcMyFqrGAsbSjm7lwhU7Nr8229x8D3F3CC0hTB2RE4rwqwjAsqNe0ymlsY0RjWa3fcL0OrZJKB84NyAZw8KcgGiMlPoeYMLV8pTSdkqv91N5ZFzsQCZE9JEB614Yz51zd38e4Z5Kh0HkJcLdjwgw6NKHKVxdIXev510R1vNVVdO0nFkfL5f0HDc76ixGRuDDjjy2K1PyBmagAoL5W3JDFaTycAEN4gWYOYviJKAgEbyjZoYHalLcKNBXRD3I6lCTjvR8EI66HGin6cmb65Iazb0OnwN7eDlc6GboHSLT5DAVLd2hA4QWsLg28UCDDGkHKJYtFihL2zbiShGTQY8X67IO8GpfgCsnjnThweva9bwIsaftm3nKsUnWhHzKVW35RTCMEz3v0FiwQh9YkBHTJLbXjhGnaYGAW1jxIB7hgMKhwGfd6DkpVGvQVgbD0KlUBpv5fcxReUF3OWqrXtUTue9TiQ3rBMO3x3EV70vJTzEGFqoXRdUZoV7D7F8Y5lo31c1rKfdk6tkLjEkTRGwQwUvu3VpiLUDZPMv9wJjs2ymVWvGKuQHbuL7dh3b0dv3AwyjKD0Ya5Y6Yyoc8r7Aj1JgB7SJTG8uPEE16GAmAx804GstcFwdg8YdbdLJJAs8pMrTQel0p232XdY5Vw3S0xVIeCGWWGvIRQeh7VOtAIBUfk8lWu79wGd1DIUYprFh3rf3ZRD3DD8NuzJs0ytY3ohYhw2q7Dv4B5Q0kez87b14Zfv4Pum9o3jEGbWCIHU7CdCzXl917hlDUBu6RHA02I3NgFE0ILpYFHFFIdYHpfx4A8cjPEdNEmCKmVSnflrfKF7QA3Y7ilviC41L7aYC2Ef53YHD2cznRqc3spBhSN6hMPBj2G856jZKfD8aWYs735KdGcRy5oTLod7EBO7OA4HIMLIKa271MvgLo8uPb8cXvAbU5dlcTiYjZCNFryLZM5vnw237UyjBWfgPGLku45BJ78Vo8Q6uO0cpi5IHO8K43bzg0X0ZJ3QvnZh5lCtjcVCKEfZM1pkXHALfreI3j66Zsk9NEX3B6J7EfNqc19T7sIa4kCBiErJnTSNUmrYEZU43XAIbnC4GETb7Cb50ELBuEejgX043Ap1qlYDvtEPHyx4j4etDeq8Zsojm2hyLB4R4codtfrjb9zVH38VAreNE1HUPdc3O4s5FiTb2zzYCl45OiDavEGF2Gw6zHXuiMNh4jzKjG0iDK7H7axqF5fxBFIwMZNsXsDi6LpUf61e96D6FWSCORjtZRNGGGhJY5xCZ11fWPNGVcRJy13TjTclFsKN5QKOkSSiORhDMM8Lskmb7HHFyYRGE9f8f6BPXEwMHf6LEEBQsd1SJS79oMXQ2no7hJAt1qAm8Q1POAcMM19wI6nSIRHJh20vg9y4U6KmRxoqX55rBmAgPzxSbEtmIzmeX249FmJbQAyE8Af2rIGenO3AcE6RLUNt7WcTDIIxmIZcKQbz7i2msuFo20S7IvmKu5POz11eKP5S7HjwYBeI24FYZkfN8fo3uNes0ww7BTHJrnXJPF9wStUgs6WELEepicP6wn88Ago8vb0dJR0HbNXpOPlDwQ0ZafCs5Z1yxL8Omyr3UgBuJsqDDQwnThf4QLzRaoi7EtC9rnYXLnrkIKM9pbMUKdo7KCAD0LgBp1sLGlq23giz2rEvbblb10rl01Q294vJXgdoIZv1fK4vN0eK80gH7qhZyQEafKjAHa1KB7ZkYtnY0vsZLs5PBAZnWrw61lef4rZnIsGLd90rBCIIBBZFr2w4WKViKKHPbeERhzi5FWmK0zQiTo4IReBZ0fhGd1lxvz44TJTE8kVulEGgyKVLJN3oPuXFTx0G361Nq5OeM7sMIOWcLFZaGwXRtf7LmwGDmw8Vzj31oY2hyTtE35HZv9bpUQ6dlvpNHqivZHPmOyV6VesTgeXLARC7kCo0qNUE3FM2WXC7zYuP7QYcVKsfbWkDwn7rfEHOY8EnAFBaHSBdh7dbF40arKst9IXXxoKHD5m50S4efqlrmb3HHcHFX9dG35avcygFyC5w4dzFtGQLhd8E1BnH1pFgYQ1mCT99HAAWeHYuL9Jiik0n11nILh5FNM5IZQxMmythCE6F2Qu7xa7f47peyBHJA13NBJqHTlJaVDh3T4cC75jfvCAmg7ehJcC6ZGkCJkJJSevhF6RbP0Zt9QoFLWRI78CdLMChTYv3yMxEWDRraNuJZ9FU2u8R9mtMc3fIdHJKsMBmIM2MYMu7Yvmqr093EsMNWgOZ0Imw9SZDsVZI1JoRKfyAgi0cckoQ5EGBG9lRR0kyQOx243XNg8zcJvsLgj45CaSDbfCmgVIXmMFOzHbQ78fNcEkLEQbzs7aZIy99TwVrfHQHFb4gEz1HNoYPl6LXPINiEGdnJiTKtwqk3Gs9c1R9vIqftrHOVquqT2PEl05LPXR3tdua5j9Iojjvp3xFgjEn6J9UGb6SjH5pbQaQp6s1v77oiWBQ7TkaSXImhSGEg25CZYm6HW25xxLv9UI2Q7QoL3KDnmxZBVenw2a7s9LCHs6KaxwKHbGs8KBYW5GcxBk9HCWJ7HHtCQgW3IZ5fQWA6QBNY7vFSr2BZEryUPIH0HwxEg5sMVRNC32IF4l8c86ADrfLG2U909IwP7FOYyE2GKXDLKDWA3WPDjaIxH1HXvf7VxEIvoWVEp5T3wuXTd1bX9UGvNW3xL1S8er6pcoSwOv42K3QLV7ifaHEgCaf56CN6FWGco1KC3NJ3gHsyWhMdjZGpspuYlOaRb1k4W6MTi6PECxdEnCdkYYR86oJTfz4h96D8Cdg131bUp1fciUmV8bwU89mc0AUepOnJokx469KcXq0kLWuUi5SZCAgGHZGZ15CFGdToaA7s1yiETSIXbeycVh4GtHeDKsywJ3E1iKA4CIwOH5v3yG6WD7DGb3hg1psNrFL0lfAQCQAUxGaJmz8KC7KG69tAXLpuQlK9L4GE0iKAPHL5ybjOoFLAuKR7Up3rc3hAIavKNW262hADrytAWUOyTe9TCePAPJeqd87iF00O87QWGvjSTzBHW5BEBqpgQaJIf17z7xIUHci2P602wRRyC8w5KFVWCFbxweJ5ZumkMBOKMbGLky2VKc2iB8QpdSrAj6Ta3Tc3dQoG0YPB5wC04jlfRRA7A8s7QPl7I8ckCrb9bvprHyvXPKsx3aoGiXrkLu2JWo3mDjqtDcJV26Cx7kIpHNHSEaJyFI0vFOJ9oNgpPJo9sn9W5zjF8KFYuAZp2WyqQbgnKsDQv8p4BDfLroVDNCpmdBB1ZLR1pnsDmCULC2PsnFxo4l0JOxsvQ6Q2MRYVufKrqMFG49MucwUlB5hUEnfRm6VL8NgSbDYqG0LCZxV2Pt5nKDDpO0rQyiEmCA32NbO8EJHB5NPagCwS5LgB89eBsuykmjC9AWEWNyD7lEUVNNyOfr43KLyOrFpkHJG6AL0X0EHZ6cJAK755sRoQCEoPSnbARb8AKfRFeEnvfptG4fRxXvhgkK9musL707N3Q9Ys4CFZ96WI3vGSfY7codJ4dr7Wm67p7LJoC5gkAzzFY6u7Fz0nY2vV9ABPvGDMEa7Ku7zTUZm6RHI61Jdy3Gs4GFw6LDnZZhTs082BmcHNS7782BBYzkqVjM5Rha76MqxVR5wQ9LZytinD8jKFbEDJzdLFJBylobADXF6JQvXm5LdMPEuxjzOoXYV7H74sMqipGoFFa4UlXeBiEWG1VhL7MPvjI2XZjWXjw9IuCkDKAv2WNss8olZstn3jyE265Yu4lIEe6JzosyhvHD9a6JqGCOu3e1c303afXkNWpr21t02LpI6gtJ1gKmhq9OvfGDmjh8jpvSNKHa7aE02ChgHpSyOGncSZeD0gLjlCoB8a7hgcIOkMJtDJ9b8FKrviGVHt3QytTDzuj2zaquOFrLfa2pDbDN3USEPIQsH1eJTnXwGAKZBy6sCAWLNr7apR3kPe4TznCQZg6QQ9tP3GhkC2fmJ3TLwLoN8ye6RlXZPeEQKHDWG6V29r6u9AR3qYxPgtQpERa9wQMDxHE01HKb5zv5OR9h5aiEK2TXAFeK0XbeLpSPE8TFneiuBfj3ilGjelbL22KJi1etSp97MHLavaobhYFnCfGbUrBnL2WC4XM0Am1GUNJoq2psTNhhwAENwGeXLPl87xdrTBKFJvf7wLysnBL8hS7VSFehbGMHnKnyOy3IdJlaKkyRCqGJW8oKNFIUFX46ecJZkza6cFyuWFFvXstQrQSFFt3saBT7irE5kkWJ0nB1knKOWwrOrrbVrE69PWOrAFyL6hxfecbyxi7HhXsYwDVj68200n1FpT3tjL3af6IEs8KgDx1hiryelIG64xiHA1NNdyAmDmnklpuPm1tBWdZeALTtHKYsZP8uiVK88oIJFdI4hZDD6BQSbbMyQCo7JBP4EDeFLMC0KtqdlguI0G1TZbH7SZKPgi9m76dcY9yJmto2SjmI7X4pJ8p8Yeh4GPRpqWsLHf0MAq8FPogdAHLxCP1iOEMT3nQWaOhUgFCGcraYR3wbCkEey3bIblDb20nxHBH4trqg1MYjGmG8lG5"
open PySem PySem.W PyProof.Rows
end
set_option maxRecDepth 100000 in
set_option maxHeartbeats 0 in
theorem PySem.Challenge.cw_rollcode_k45_doors_taught_holds : PySem.Challenge.rw_rollcode_k45_doors_taught.Holds := by
 w_on;o_law;k_head;(case hw=>w_witness2)
 k_fill
 refine Lw.Ju (l:=PySem.Challenge.rw_rollcode_k45_doors_taught) rfl rfl (fun w h Y=>PySem.W.kIn_of Y) ?F
 case F=>
  intro w mg fa h KX G hmg;refine' Lw.FS KX G hmg ..
  all_goals first|k_is|(refine' L3.Iu KX G ..<;>first|k_is|skip)|(refine' L3.HN ..<;>first|k_is|skip)|kernel_rfl|(refine' ⟨?_,⟨?_,?_,?_,?_,?_,?_⟩,L3.tS ?_ ?_ ?_ ?_ ?_ ?_ ?_ ?_,?_⟩<;>kernel_rfl)|decide|skip