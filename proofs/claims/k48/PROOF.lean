import PyProof.Rows.All
import Wide.All
import OpenK.AllK
import Wide.FinOn
import Lean
import PyProof.EqAt
import PyProof.EqKinds
import PyProof.TupleCall
import PySem.Challenge.RW_rollcode_k48_keys_turned
import PyProof.StationsW
import PyProof.ExcClass2
import OpenK.KOwn
import PyProof.ExcBaseAll.ValueError
import PyProof.RulesAs
import PyProof.NsDelKeeps
import PyProof.Rows.Catch
import KE.KIsAll
import PyProof.ExcArgsOwn
import PyProof.Rows.CatchOwn
import PyProof.ExcAttrAll.ValueError
import PyProof.AttrMissHeap
import PyProof.Rows.SetFrom
import KE.KDictOf
import PyProof.DictWalks
import PyProof.Rows.DictUnroll
import PyProof.ExcInit
import PyProof.InstStoreFacts
import PyProof.FString
import OpenK.KCls
import PyProof.ListMulRoad
import PyProof.FactsAll.tuple_2
import PyProof.DictValues
import PyProof.AutoSeq1
import PyProof.FactsAll.list_3
import PyProof.DictItems
import PyProof.Rows.RegStrFacts
set_option Elab.async false
set_option autoImplicit true
set_option maxRecDepth 100000
set_option maxHeartbeats 4000000
set_option linter.unusedVariables false
set_option linter.all false
noncomputable section
def PySem.rpat:Nat→Lean.Term→Lean.MacroM (Lean.TSyntax `rcasesPat)
|0,_=>Lean.Macro.throwUnsupported
|n+1,t=>match t with
 |`(#[$xs,*])=>do
  let ys←xs.getElems.mapM fun x=>do `(Lean.Parser.Tactic.rcasesPatLo|$(←rpat n x):rcasesPat)
  `(rcasesPat|⟨$ys,*⟩)
 |`($x:ident)=>`(rcasesPat|$x:ident)
 |`(_)=>`(rcasesPat|_)
 |_=>Lean.Macro.throwUnsupported
local macro_rules|`(#[$xs,*])=>do
 let mut y:=#[]
 for x in xs.getElems do
  if let some n:=x.raw.isNatLit? then
   for c in ("_Z ___ZZ _ZZ_Z _Z_Z __ZZ _Z_Z_Z __Z Z_Z __ __ZZ_Z _Z_ Z__Z__ZZ ZZ Z__Z__Z__ZZ _Z_Z__ZZ _Z__ZZ _Z__ZZ_Z _Z__ZZ_Z__ZZ_Z__ZZ__ZZ _ZZ ___Z _Z_ZZ_Z _Z_Z_Z__ZZ__ZZ_Z ___ _Z_Z_Z__ZZ_Z__ZZ_Z__ZZ__ZZ Z_ ____Z Z__ZZ_Z _Z_Z_Z_Z _Z_Z_Z_Z_Z _Z__Z_Z __ZZ__ZZ_Z __ZZ_Z__ZZ Z__ZZ Z__Z__Z__Z__Z__ZZ ZZZ Z_Z__ZZ Z__Z ZZ_Z __ZZ__ZZ__ZZ _Z_Z_Z_Z__ZZ _Z_ZZ_ZZ__ZZ _Z_Z_Z_Z_Z_Z ZZZZ _Z_Z__ZZ_Z _Z_Z_Z__ZZ _Z__ZZ__ZZ __ZZ__Z_Z Z_Z_Z _Z_ZZ __Z__ZZ_Z Z__ZZZ_Z __ZZ__ZZ".splitOn " ")[n]!.toList do
    if c=='Z' then y:=y.push (←`(rfl)) else y:=y.push (←`(_))
  else y:=y.push x
 `(⟨$y,*⟩)
local macro_rules|`(-$x)=>if x.raw.isIdent||x.raw.isOfKind ``Lean.Parser.Term.proj then `(.ref $x) else Lean.Macro.throwUnsupported
local macro_rules|`(tactic|exists $xs,*)=>`(tactic|refine#[$xs,*, ?_])
local macro_rules|`(tactic|let $d:letDecl)=>do
 let d:=d.raw[0]
 let p←PySem.rpat 9 ⟨d[0]⟩
 let e:Lean.Term:=⟨d[4]⟩
 if d[2].getNumArgs==0 then `(tactic|obtain $p:rcasesPat := $e) else
 let y:Lean.Term:=⟨d[2][0][1]⟩
 `(tactic|obtain $p:rcasesPat : $y := $e)
local macro_rules|`(↑$x)=>`(some $x)
theorem Z.{u}{α:Sort u}{a:α}:a=a:=rfl
local macro_rules|`(nofun)=>`(by decide +kernel)
local macro_rules|`(⋯)=>`(by decide)
noncomputable abbrev x5:List PySem.Str:=["self","table","keys","near","far","most"]
abbrev v1:List PySem.Str:=["self"]
abbrev v3:List PySem.Str:=["self","name"]
noncomputable abbrev u0:List PySem.Str:=["_law_found","_law_due_here"]
noncomputable abbrev u7:List PySem.Str:=["_law_box_here","_law_many"]
noncomputable abbrev X0:List PySem.Str:=["_law_word","_law_place"]
noncomputable abbrev X1:List PySem.Str:=["_law_house","_law_deed_here"]
abbrev X2:List PySem.Str:=["self","age"]
noncomputable abbrev X3:List PySem.Str:=["_law_box_here","_law_own_here","_law_words"]
noncomputable abbrev X4:List PySem.Str:=["_law_own_here","_law_name","_law_number"]
noncomputable abbrev X5:List PySem.Str:=["self","name","table","key","age","step"]
noncomputable abbrev X6:List PySem.Str:=["_law_own_here","_law_button","_law_deed_here","_law_doors"]
noncomputable abbrev X7:List PySem.Str:=["table","key","digits"]
noncomputable abbrev X8:List PySem.Str:=["_law_own_here","_law_word","_law_button","_law_parts"]
noncomputable abbrev X9:List PySem.Str:=["_law_own_here","_law_word","_law_name","_law_parts"]
abbrev W0:List PySem.Str:=["self","key"]
noncomputable abbrev W1:List PySem.Str:=["_law_own_here","_law_deed_here"]
noncomputable abbrev W3:List PySem.Str:=["_law_box_here"]
noncomputable abbrev W4:List PySem.Str:=["_law_house","_law_own_here","_law_deed_here"]
noncomputable abbrev W5:List PySem.Str:=["self","door","button"]
abbrev W6:List PySem.Str:=["thing"]
noncomputable abbrev W7:List PySem.Str:=["table","key","name","age","count","deed"]
noncomputable abbrev W8:List PySem.Str:=["_law_own_here","_law_gate","_law_button"]
noncomputable abbrev W9:List PySem.Str:=["_law_box_here","_law_some","_law_other"]
noncomputable abbrev V0:List PySem.Str:=["_law_own_here","_law_word","_law_part"]
abbrev V1:List PySem.Str:=["self","thing"]
noncomputable abbrev V2:List PySem.Str:=["button","age","count","near","far"]
noncomputable abbrev V3:List PySem.Str:=["self","place"]
noncomputable abbrev V4:List PySem.Str:=["self","pressed","deed"]
noncomputable abbrev V5:List PySem.Str:=["_law_script","_law_k"]
noncomputable abbrev V7:List PySem.Str:=["self","name","near","far","most"]
noncomputable abbrev V8:List PySem.Str:=["self","door","number"]
noncomputable abbrev V9:List PySem.Str:=["_law_table_here","_law_key_here"]
noncomputable abbrev Y0:List PySem.Str:=["table","key","press"]
noncomputable abbrev Y1:List PySem.Str:=["self","button","age"]
noncomputable abbrev Y2:List PySem.Str:=["self","one","other"]
noncomputable abbrev Y3:List PySem.Str:=["table","key","name"]
noncomputable abbrev Y4:List PySem.Str:=["self","button"]
noncomputable abbrev Y5:List PySem.Str:=["self","button","deed","doors"]
noncomputable abbrev Y6:List PySem.Str:=["self","button","age","count"]
abbrev Y7:List PySem.Str:=["self","deed"]
abbrev Y8:List PySem.Str:=["self","door"]
open PySem.W (Frag)
set_option compiler.extract_closed false
open PySem renaming wpAny_bind->Ja,wpAny_pure->Ji,sizeLine_eq->Jn,boot_len->JE,wpAny_field->JJ,wpAny_mono->JR,wpAny_loadPart_at->JT,wpAny_holding->J5,wpAny_call_entry->J9,wpAny_newObj_type->Ft,wpAny_of_eq->FB,wpAny_truthy_bool->FF,wpAny_standAt->FN,wpAny_pyIter_tuple->FO,call_meets->FS,wpAny_setField->FT,wpAny_rule->FY,wpAny_passesOwn->FZ,codeAny_mono->F1,wpAny_seqItems->F3,wpAny_execs_nil->Gd,wpAny_call->Gf,mem_of_lookup->Gh,wpAny_loadPart'->Gq,wpAny_attempt->Gu,wpAny_specialOf->Gv,wpAny_pyIter_list->GC,wpAny_Call_Name_kw->GF,wpAny_pyIter_enum->GJ,wpAny_setField_rec->GM,isSubtype_type->GO,tupleKind_room_in1->GQ,wpAny_isSubtype_exc->GU,codeAny_call_builtin->GV,strLen_append->GX,typeLookup_type->Ip,builtinLookup_eq_fast->Iq,codeAny_builtin->Ir,wpAny_pyIter_rangeiter->IE,wpAny_Call_method0_late->II,evalArgs_none->IJ,Value->Γ,Addr->Δ,Shared->Θ,Program->Ξ,Expr->Φ,Heap->Ψ,World->Ω,Builtin->γ,Stmt->δ,wpAny->ε,sizeLine->ζ,mainGlobals->η,starEach->θ
open List renaming length_map->Jb,mem_singleton->Jg,mem_cons->Jh,getElem?_eq_getElem->Jk,mem_of_getElem?->Jo,getElem?_map->Jp,length_append->Jq,not_mem_nil->Jr,getElem?_eq_some_iff->Jt,mem_append->Jw,mem_cons_self->Jy,mem_map->JA,size_toArray->JC,mem_cons_of_mem->JD,map_append->JG,getD_eq_getElem?_getD->JM,map_cons->JW,nodup_cons->J6,length_cons->J7,lookup_cons->Fp,length_take->Fv,getElem?_append_right->Fy,take_add_one->FC,map_map->FD,mem_append_right->FG,getElem?_append_left->FH,all_eq_true->FK,getElem_mem->FL,length_set->FR,take_length->FU,mem_range->FX,nodup_nil->Ga,any_cons->Gj,getElem?_eq_none->Gw,find?_cons->Gz,append_nil->GD,replicate_succ->GI,map_congr_left->GN,getElem_map->GR,contains_cons->GS,mem_filter->GZ,getElem?_set_self->Ia,getElem?_set_ne->Ib,length_replicate->Ie,length_drop->Ih,flatten_cons->Ij,append_assoc->Ik,nil_append->Il,filterMap_cons->IC,mem_append_left->ID,length_singleton->IK,take_of_length_le->IL,lookup_cons_self->IM,nodup_append->IR,getElem?_append->IV,getElem?_range->IW
open Nat renaming le_refl->Jf,ne_of_lt->Jx,le_trans->JI,zero_le->JL,lt_of_lt_of_le->JO,le_succ->J1,ne_of_gt->J2,lt_irrefl->J4,succ_le_succ->Fq,lt_succ_self->FP,le_succ_of_le->F9,lt_succ_of_lt->Gm,le_of_lt->G0,le_of_eq->Ic,min_le_right->Ig,le_add_right->IB
open PySem.Heap renaming get?_push_of_some->Jj,lt_size->Jl,get?_push_size->Ju,size_push->J8,get?_update_other->FJ,get?_update_self->FQ,get?_none_of_le->GA
open PyProof.Rows renaming boot_isinstance->Jz,boot_tuple->JB,boot_list->JZ,boot_str->FE,boot_int->Gb,callWith_type1->Ge,boot_all->GY,slot_tuple_getitem->Ii,boot_bool->Iz,boot_max->IX
open Bool renaming false_ne_true->JH,and_eq_true->JX,false_and->Fx,true_and->FW,eq_iff_iff->F0,eq_false_iff->Iy,not_eq_true'->IU
open PySem.F renaming plainAttrs_list->JN,slot_list_append->JU,type_list_append->JV,excBase_ValueError->J3,slot_tuple_iterator_next->Io,plainAttrs_dict->Iv,slot_zip_next->IA,slot_tuple_add->IF,entry_tuple_add->IG,args_tuple_add_2->IH,slot_dict_get->IQ
open PySem.W renaming mg_of->JP,mg_none_of->JQ,kia_one->JS,looks_findIn->FV,kia_tup->F4,callWith_K->GG,methodCall_KW->Iu,Frag->ι
open Option renaming map_eq_some_iff->JY,isSome_iff_exists->Gg,getD_some->Gn,isSome_map->IP
open PySem.Obj renaming data_mapFields->FM,isFreed_of_fields->Gp
open Int renaming emod_nonneg->F5,emod_lt_of_pos->F6,le_refl->F8,toNat_natCast->GK
open PySem.Calls renaming callWith_builtin->Gk,evalArgs_plain->GH
open Array renaming length_toList->GB,getElem?_eq_some_iff->GP
namespace L0
abbrev _root_.Α:=List PySem.Str
abbrev _root_.Ε:=List Int
abbrev _root_.Ζ:=List Γ
abbrev _root_.Η:=List Δ
abbrev _root_.Ι:=List Φ
abbrev _root_.Κ:=Option Δ
abbrev _root_.Λ:=Option Int
abbrev _root_.Μ:=List Nat
abbrev _root_.Ν:=Option Γ
abbrev _root_.Ο:=List PySem.Env
abbrev _root_.Υ:=Option Φ
abbrev _root_.Χ:=List PySem.Keyword
abbrev Jc:=@if_neg
abbrev Jd:=@if_pos
abbrev Je:=@decide_eq_true
abbrev Jm:=@decide_eq_false
abbrev Js:=@or_false
abbrev Jv:=@of_decide_eq_true
abbrev JK:=@congrArg
abbrev Fu:=@beq_iff_eq
abbrev Fw:=@beq_self_eq_true
abbrev FA:=@if_true
abbrev F2:=@decide_eq_true_iff
abbrev F7:=@beq_false_of_ne
abbrev Gc:=@beq_eq_false_iff_ne
abbrev Gi:=@if_false
abbrev GW:=@not_false_eq_true
abbrev JF:=@Option.some.inj
abbrev J0:=@PySem.PassesOwn.never
abbrev Gy:=@PySem.Around.in1_units
abbrev GL:=@PySem.Heap.SameBut.update
abbrev Iw:=@PySem.Code.quiet_builtin
end L0
open L0
namespace L0
open PySem
abbrev HD:=Γ->Θ->Prop
abbrev HE:=Str->Ν
abbrev HF:=List (Δ×Obj)
end L0
open L0
namespace L2
open PySem PySem.Spec PyProof.Rows
abbrev qR:=Sum Int Str
noncomputable def fT:qR->Γ->Bool
 | .inl k,v=>Γ.isInt k v
 | .inr x,v=>Γ.isStrOf x v
noncomputable def EQ(w:Ω):qR->Int
 | .inl k=>hashInt k
 | .inr x=>hashStr w x
theorem Qp:∀{k:qR} {v:Γ},fT k v=true->(∃i t,k=Sum.inl i/\v=Γ.int i t)\/(∃x t,k=Sum.inr x/\v=Γ.str x t)
 | .inl i,v,h=>by
  let#[t,e]:=Γ.isInt_shape (k:=i) (v:=v) h
  exact .inl #[i,t,Z,e]
 | .inr x,v,h=>by
  let#[t,e]:=Γ.isStrOf_shape (x:=x) (v:=v) h
  exact .inr #[x,t,Z,e]
theorem vi(i:Int)(t:Tok):fT (.inl i) (.int i t)=true:=by simp [fT,Γ.isInt]
theorem vv(x:Str)(t:Tok):fT (.inr x) (.str x t)=true:=by simp [fT,Γ.isStrOf]
theorem Cs(a b:Int):decide ((Sum.inl a:qR)=Sum.inl b)=(a==b):=by
 by_cases e:a=b
 .subst e;simp
 .have h:¬(Sum.inl a:qR)=Sum.inl b:=λq=>e (Sum.inl.inj q)
  rw[Jm h]
  exact(Gc.mpr e).symm
theorem DD(a b:Str):decide ((Sum.inr a:qR)=Sum.inr b)=decide (a=b):=by
 by_cases e:a=b
 .subst e;simp
 .have h:¬(Sum.inr a:qR)=Sum.inr b:=λq=>e (Sum.inr.inj q)
  rw[Jm h,Jm e]
theorem CL(a:Int)(b:Str):decide ((Sum.inl a:qR)=Sum.inr b)=false:=Jm (λq=>nomatch q)
theorem CW(a:Str)(b:Int):decide ((Sum.inr a:qR)=Sum.inl b)=false:=Jm (λq=>nomatch q)
noncomputable def zj(prog:Ξ)(w:Ω):PySem.KeyKind prog w qR where
 is:=fT
 hash:=EQ w
 inj:=λv a b f d=>by
  rcases Qp f with⟨i,t,rfl,rfl⟩|⟨x,t,rfl,rfl⟩
  .rcases Qp d with⟨j,u,rfl,e⟩|⟨y,u,rfl,e⟩
   .injection e with e1 _;rw[e1]
   .exact nomatch e
  .rcases Qp d with⟨j,u,rfl,e⟩|⟨y,u,rfl,e⟩
   .exact nomatch e
   .injection e with e1 _;rw[e1]
 byValue:=λk v h=>by
  rcases Qp h with⟨i,t,rfl,rfl⟩|⟨x,t,rfl,rfl⟩<;>rfl
 pyHash:=λc h=>by
  rcases Qp c with⟨i,t,rfl,rfl⟩|⟨x,t,rfl,rfl⟩
  .exact wpAny_pyHash_int h
  .exact wpAny_pyHash_str h
 eqBool:=λg c h=>by
  rcases Qp g with⟨i,t,rfl,rfl⟩|⟨x,t,rfl,rfl⟩
  .rcases Qp c with⟨j,u,rfl,rfl⟩|⟨y,u,rfl,rfl⟩
   .rw[Cs]at h;exact wpAny_eqBool_int h
   .rw[CL]at h;exact SeqAt.EqAt.int_str i t y u _ _ _ _ h
  .rcases Qp c with⟨j,u,rfl,rfl⟩|⟨y,u,rfl,rfl⟩
   .rw[CW]at h;exact SeqAt.EqAt.str_int x t j u _ _ _ _ h
   .rw[DD]at h;exact wpAny_eqBool_str h
 «strs»:=λk x t v h=>by
  rcases Qp h with⟨i,u,rfl,e⟩|⟨y,u,rfl,e⟩
  .exact nomatch e
  .injection e with e1 _
   subst e1;cases v<;>rfl
theorem sA(prog:Ξ)(w:Ω)(i:Int)(t:Tok):(zj prog w).is (.inl i) (.int i t)=true:=vi i t
theorem sD(prog:Ξ)(w:Ω)(x:Str)(t:Tok):(zj prog w).is (.inr x) (.str x t)=true:=vv x t
inductive V where
 |non|bl (b:Bool)|int (i:Int)|str (x:Str)|byt (b:Array UInt8)|flt (b:UInt64)|ref (a:Δ)|ty (n:String)
 deriving DecidableEq
abbrev _root_.Ρ:=Option V
abbrev _root_.Β:=List V
noncomputable def HN:V->Γ->Prop
 | .non,u=>u=Γ.none
 | .bl b,u=>u=Γ.bool b
 | .int i,u=>∃t,u=Γ.int i t
 | .str x,u=>∃t,u=Γ.str x t
 | .byt b,u=>∃t,u=Γ.bytes b t
 | .flt b,u=>∃t,u=Γ.float b t
 | .ref a,u=>u=Γ.ref a
 | .ty n,u=>u=Γ.type n
abbrev HR:Β->Ζ->Prop:=Paired HN
theorem HR.length(r:HR xs us):xs.length=us.length:=Paired.length r
theorem HR.get:∀{xs:Β} {us:Ζ} {i:Nat} {x:V},HR xs us->xs[i]? =↑x->∃u,us[i]? =↑u/\HN x u
 |_,_,_,_,.nil,e=>by simp at e
 |_,_,0,_,.cons r _,e=>by simp at e;subst e;exact#[0,r]
 |_,_,i+1,x,.cons _ t,e=>by
  let#[u,h1,a]:=HR.get (i:=i) (x:=x) t (by simpa using e)
  exact#[u,by simpa using h1,a]
theorem HR.set{x:V}{u:Γ}(r:HN x u):∀{xs:Β} {us:Ζ} (i:Nat),HR xs us->HR (xs.set i x) (us.set i u)
 |_,_,_,.nil=> .nil
 |_,_,0,.cons _ t=> .cons r t
 |_,_,i+1,.cons q t=> .cons q (HR.set r i t)
theorem HR.append:∀{xs ys:Β} {us ws:Ζ},HR xs us->HR ys ws->HR (xs++ys) (us++ws)
 |_,_,_,_,.nil,s=>s
 |_,_,_,_,.cons r t,s=> .cons r (HR.append t s)
theorem HR.take:∀{xs:Β} {us:Ζ} (n:Nat),HR xs us->HR (xs.take n) (us.take n)
 |_,_,0,_=> .nil
 |_,_,_+1,.nil=> .nil
 |_,_,n+1,.cons r t=> .cons r (HR.take n t)
theorem HR.drop:∀{xs:Β} {us:Ζ} (n:Nat),HR xs us->HR (xs.drop n) (us.drop n)
 |_,_,0,r=>r
 |_,_,_+1,.nil=> .nil
 |_,_,n+1,.cons _ t=>HR.drop n t
noncomputable def LX:Ρ->Ν->Prop
 |some v,↑u=>HN v u
 |none,none=>True
 |_,_=>False
def KV{κ:Type}:List (κ×V)->List (κ×Γ)->Prop:=Paired λ(p:κ×V) (q:κ×Γ)=>p.1=q.1/\HN p.2 q.2
noncomputable def kV:qR->V
 | .inl i=> .int i
 | .inr x=> .str x
inductive HO where
 |lst (xs:Β)
 |tup (xs:Β)
 |dK (kvs:List (qR×V))|dT (kvs:List (List qR×V))
 |set (S:Int->Bool) (n:Nat)
 |ins (C dx:Δ) (fs:List (Str×V))
 |own (x:Δ)
 |xd (fs:List (Str×V))
 |met (f x:Δ)
 |rng (lo hi:Int)
 |frz (o:Obj) (u:HO)
 |tbl (ps:Array Γ)
 |ext (φ:Ψ->Prop)
abbrev Hp:=Δ->Option HO
noncomputable def HI(H:Hp)(a:Δ)(o:HO):Hp:=λb=>if b=a then ↑o else H b
theorem qb:HI H a o a=↑o:=by unfold HI;rw[Jd Z]
theorem qk{b:Δ}(h:b≠a):HI H a o b=H b:=by unfold HI;rw[Jc h]
theorem zr{H:Hp}{a b:Δ}{o u:HO}(h:H a=↑o)(h':H b=↑u)(d:o≠u):a≠b:=by
 intro e;subst e;rw[h]at h';exact d (JF h')
theorem qu{H:Hp}{a b:Δ}{o:HO}(h:H a=↑o)(h':H b=none):a≠b:=by
 intro e;subst e;rw[h]at h';cases h'
section
variable(P:Ξ)(w:Ω)
noncomputable def HY(H:Hp)(h:Ψ)(a:Δ):HO->Prop
 | .lst xs=>xs.length<=ζ/\∃(its:Ζ) (n:Nat),HR xs its/\h.get? a=some {cls:= .type "list",data:= .seq its.toArray n}
 | .tup xs=>xs.length<=ζ/\∃its:Ζ,HR xs its/\IsTup h a its.toArray
 | .dK kvs=>kvs.length<=ζ/\(a==sysModules)=false/\∃d,KV kvs d/\h.DictOf (zj P w) a d
 | .dT kvs=>kvs.length<=ζ/\(a==sysModules)=false/\∃xs:List (List qR×Δ×Γ),
   Paired (λ(p:List qR×V) (q:List qR×Δ×Γ)=>p.1=q.1/\H q.2.1=↑(.tup (p.1.map kV))/\HN p.2 q.2.2) kvs xs/\
   ∃o es e,h.get? a=↑o/\o.ExactDict/\o.data= .dict es e/\es.toList=xs.map (entryOfKey (tupleKind (zj P w)))/\(xs.map (·.1)).Nodup
 | .set S n=>h.SetOf (intKind P w) a S n
 | .ins C dx fs=>H dx=↑(.own a)/\fs.length<=1000/\dx≠a/\h.get? a=↑(PySem.W.instObj C dx)/\
   ∃mA,h.Ns1 dx mA/\(∀f,LX (fs.lookup f) (mA f))/\PySem.Within mA (fs.map (·.1))
 | .own _=>∃o,h.get? a=↑o
 | .xd fs=>∃mA,h.Ns1 a mA/\∀f,LX (fs.lookup f) (mA f)
 | .rng lo hi=>∃t u v,h.get? a=some {cls:= .type "range",data:= .fields (List.toArray [.int lo t,.int hi u,.int 1 v])}
 | .frz o u=>h.get? a=↑o/\HY H h a u
 | .tbl ps=>h.get? a=some {cls:= .none,data:= .fields ps}
 | .met f x=>h.get? a=↑(PySem.W.methodObj (-f) (-x))
 | .ext φ=>φ h/\(∃o,h.get? a=↑o)/\∀h1 c:Ψ,φ h1->(∀o,h1.get? a=↑o->c.get? a=↑o)->φ c
def LZ(H:Hp)(h:Ψ):Prop:=∀a o,H a=↑o->HY P w H h a o
end
section
theorem HY.lt(x:HY P w H h a o):a<h.objs.size:=by
 cases o with
 |lst xs=>let#[_,_,_,_,e]:=x;exact Jl e
 |tup xs=>let#[_,_,_,p]:=x;exact p.lt
 |dK kvs=>let#[_,_,_,_,o,_,_,e,_]:=x;exact Jl e
 |dT kvs=>let#[_,_,_,_,o,_,_,e,_]:=x;exact Jl e
 |set S n=>let#[o,_,_,_,e,_]:=x;exact Jl e
 |ins C dx fs=>let#[_,_,_,e,_]:=x;exact Jl e
 |own y=>let#[_,e]:=x;exact Jl e
 |xd fs=>let#[_,#[_,_,_,e,_],_]:=x;exact Jl e
 |rng lo hi=>let#[_,_,_,e]:=x;exact Jl e
 |frz ob u=>let#[e,_]:=x;exact Jl e
 |tbl ps=>exact Jl (show h.get? a=↑_ from x)
 |met f y=>exact Jl (show h.get? a=↑_ from x)
 |ext φ=>let#[_,#[_,e],_]:=x;exact Jl e
theorem Paired.mapP{α d:Type}{F G:α->d->Prop}:∀{l₁:List α} {c:List d},Paired F l₁ c->(∀a b,F a b->G a b)->Paired G l₁ c
 |_,_,.nil,_=> .nil
 |_,_,.cons r t,f=> .cons (f _ _ r) (Paired.mapP t f)
theorem HY.stay(x:HY P w H h a o)(k:∀b u,(b=a\/H b=↑(.own a))->h.get? b=↑u->h'.get? b=↑u)
  (ho:∀b,H b=↑(.own a)->H' b=↑(.own a))(m:∀b xs,H b=↑(.tup xs)->H' b=↑(.tup xs)):HY P w H' h' a o:=by
 induction o with
 |lst xs=>let#[z,j,n,r,e]:=x;exact#[z,j,n,r,k _ _ (.inl Z) e]
 |tup xs=>let#[z,j,r,g,e,c]:=x;exact#[z,j,r,g,k _ _ (.inl Z) e,c]
 |dK kvs=>let#[z,y,s,r,g,es,i,e,c]:=x;exact#[z,y,s,r,g,es,i,k _ _ (.inl Z) e,c]
 |dT kvs=>
  let#[z,y,xs,r,g,es,i,e,c]:=x
  exact#[z,y,xs,Paired.mapP r λp q z=>#[z.1,m _ _ z.2.1,z.2.2],g,es,i,k _ _ (.inl Z) e,c]
 |set S n=>let#[g,es,i,t,e,c]:=x;exact#[g,es,i,t,k _ _ (.inl Z) e,c]
 |ins C dx fs=>
  let#[d,z,ne,e,mA,#[od,es,i,l,c],r]:=x
  exact#[ho _ d,z,ne,k _ _ (.inl Z) e,mA,#[od,es,i,k _ _ (.inr d) l,c],r]
 |own y=>let#[g,e]:=x;exact#[g,k _ _ (.inl Z) e]
 |xd fs=>let#[mA,#[od,es,i,e,c],r]:=x;exact#[mA,#[od,es,i,k _ _ (.inl Z) e,c],r]
 |rng lo hi=>let#[t,u,v,e]:=x;exact#[t,u,v,k _ _ (.inl Z) e]
 |frz g u ih=>let#[e,q]:=x;exact#[k _ _ (.inl Z) e,ih q]
 |tbl ps=>
  have e:h.get? a=some {cls:= .none,data:= .fields ps}:=x
  show h'.get? a=some {cls:= .none,data:= .fields ps}
  exact k a _ (.inl Z) e
 |met f y=>
  have e:h.get? a=↑(W.methodObj (-f) (-y)):=x
  show h'.get? a=↑(W.methodObj (-f) (-y))
  exact k a _ (.inl Z) e
 |ext φ=>let#[p,#[o,e],st]:=x;exact#[st _ _ p λo q=>k _ _ (.inl Z) q,#[o,k _ _ (.inl Z) e],st]
theorem LZ.lt(x:LZ P w H h)(e:H a=↑o):a<h.objs.size:=(x a o e).lt
theorem LZ.fresh(x:LZ P w H h)(e:h.objs.size<=a):H a=none:=by
 cases q:H a with
 |none=>rfl
 |some u=>exact absurd (JO (x.lt q) e) (J4 _)
theorem LZ.kept(x:LZ P w H h)(k:∀b u,h.get? b=↑u->h'.get? b=↑u):LZ P w H h':=λa o e=>
 (x a o e).stay (λb u _ q=>k b u q) (λ_ q=>q) λ_ _ q=>q
theorem LZ.laid(x:LZ P w H h)(k:∀b u,h.get? b=↑u->h'.get? b=↑u)(hp:h.objs.size<=a)(new:HY P w (HI H a o) h' a o):LZ P w (HI H a o) h':=λb u e=>by
 have d:=x.fresh hp
 by_cases f:b=a
 .subst f;rw[qb]at e;cases e;exact new
 .rw[qk f]at e
  exact(x b u e).stay (λc v _ q=>k c v q) (λc q=>by rw[qk (qu q d)];exact q) λc xs q=>by rw[qk (qu q d)];exact q
end
def Rd(H:Hp)(a:Δ)(u:HO):Prop:=H a=↑u\/∃o,H a=↑(.frz o u)
theorem Rd.ok(r:Rd H a u)(x:LZ P w H h):HY P w H h a u:=by
 rcases r with r|⟨o,r⟩
 .exact x a u r
 .let#[_,q]:=x a _ r
  exact q
noncomputable def vO:Option HO->Prop
 |some (.lst _)=>True
 |some (.dK _)=>True
 |some (.dT _)=>True
 |some (.set _ _)=>True
 |some (.ins _ _ _)=>True
 |some (.ext _)=>True
 |_=>False
section
theorem LZ.write(ok:LZ P w H h)(i:vO (H x))(n:e=x\/H e=↑(.own x))(k:∀b u,b≠e->h.get? b=↑u->h'.get? b=↑u)(l:∃u,h'.get? e=↑u)
  (new:HY P w (HI H x o') h' x o'):LZ P w (HI H x o') h':=λb u q=>by
 have d:∀c y,H c=↑(.own y)->c≠x:=λc y r z=>by subst z;rw[r]at i;exact i
 have f:∀c xs,H c=↑(.tup xs)->c≠x:=λc xs r z=>by subst z;rw[r]at i;exact i
 by_cases j:b=x
 .subst j;rw[qb]at q;cases q;exact new
 .rw[qk j]at q
  by_cases a:b=e
  .have m:H b=↑(.own x):=by
    rcases n with z|z
    .exact absurd (a.trans z) j
    .rw[a];exact z
   rw[q]at m;cases m
   let#[v,o]:=l
   exact#[v,by rw[a];exact o]
  .refine(ok b u q).stay (λc v g r=>k c v ?_ r) (λc r=>by rw[qk (d c b r)];exact r) λc xs r=>by rw[qk (f c xs r)];exact r
   rcases g with rfl|g
   .exact a
   .rintro rfl
    rcases n with z|z
    .exact d c b g z
    .rw[g]at z;cases z;exact j Z
end
structure Un(fs ex:Η)(H H':Hp)(h h':Ψ):Prop where
 keep:∀b o,h.get? b=↑o->H b=none->b∉fs->b∉ex->h'.get? b=↑o
 slot:∀b o,h.get? b=↑o->H b=none->b∈fs->b∉ex->∃sl,h'.get? b=some {o with slots:=sl}
 free:∀b o,h.get? b=↑o->H b=none->b∉ex->H' b=none
 there:∀b o,h.get? b=↑o->b∉ex->∃o',h'.get? b=↑o'
 tups:∀b xs,H b=↑(.tup xs)->H' b=↑(.tup xs)
 frzs:∀b o u,H b=↑(.frz o u)->H' b=↑(.frz o u)
 tbls:∀b ps,H b=↑(.tbl ps)->∃more,H' b=↑(.tbl (ps++more))
section
variable{fs:Η}
theorem Un.any(u:Un fs ex H H1 h h1){b:Δ}(q:h.get? b=↑ob)(n:H b=none)(a:b∉ex):∃d,h1.get? b=some {ob with slots:=d}:=by
 by_cases c:b∈fs
 .exact u.slot b ob q n c a
 .exact#[ob.slots,u.keep b ob q n c a]
theorem Un.kept(k:∀b u,h.get? b=↑u->h'.get? b=↑u):Un fs ex H H h h':=
 #[λb a q _ _ _=>k b a q,λb a q _ _ _=>#[a.slots,k b a q],λ_ _ _ n _=>n,λb a q _=>#[a,k b a q],λ_ _ q=>q,λ_ _ _ q=>q,λ_ ps q=>#[(List.toArray []),by rw[q];simp]]
theorem Un.refl:Un fs ex H H h h:=Un.kept λ_ _ q=>q
theorem Un.laid(k:∀b u,h.get? b=↑u->h'.get? b=↑u)(hp:h.objs.size<=a)(hn:H a=none):Un fs ex H (HI H a o) h h' where
 keep:=λb u q _ _ _=>k b u q
 slot:=λb u q _ _ _=>#[u.slots,k b u q]
 free:=λb u q n _=>by rw[qk (Jx (JO (Jl q) hp))];exact n
 there:=λb u q _=>#[u,k b u q]
 tups:=λb xs q=>by rw[qk (qu q hn)];exact q
 frzs:=λb u xs q=>by rw[qk (qu q hn)];exact q
 tbls:=λb ps q=>#[(List.toArray []),by rw[qk (qu q hn),q];simp]
theorem Un.write(c:vO (H x))(j:e=x\/H e=↑(.own x))(k:∀b u,b≠e->h.get? b=↑u->h'.get? b=↑u)(f:∃u,h'.get? e=↑u):Un fs ex H (HI H x o) h h':=by
 have g:∀b,H b=none->b≠x:=λb n z=>by subst z;rw[n]at c;exact c
 have i:∀b,H b=none->b≠e:=λb n z=>by
  subst z;rcases j with r|r
  .exact g b n r
  .rw[n]at r;cases r
 have d:∀b u,H b=↑u->¬vO ↑u->b≠x:=λb u q nm z=>by subst z;rw[q]at c;exact nm c
 refine#[λb u q n _ _=>k b u (i b n) q,λb u q n _ _=>#[u.slots,k b u (i b n) q],λb u q n _=>by rw[qk (g b n)];exact n,λb u q _=>?_,
  λb xs q=>by rw[qk (d b _ q λz=>z)];exact q,λb u xs q=>by rw[qk (d b _ q λz=>z)];exact q,λb ps q=>#[(List.toArray []),by rw[qk (d b _ q λz=>z),q];simp]]
 by_cases a:b=e
 .subst a;exact f
 .exact#[u,k b u a q]
end
noncomputable def AC(h:Ψ)(H:Hp):Η:=(List.range h.objs.size).filter λa=>(H a).isSome
noncomputable def ge(h:Ψ)(H:Hp):Ψ:=PySem.W.hideAll h (AC h H)
theorem vS(h:Ψ)(H:Hp):(ge h H).objs.size=h.objs.size:=W.hideAll_size _ _
theorem Ao{b:Δ}(e:h.get? b=↑o)(n:H b=none):(ge h H).get? b=↑o:=
 W.hideAll_get _ e λa=>by
  have q:(H b).isSome=true:=(GZ.mp a).2
  rw[n]at q;simp at q
theorem B6{b:Δ}(e:(ge h H).get? b=↑o):h.get? b=↑o/\H b=none:=by
 have a:h.get? b=↑o:=W.of_hideAll (AC h H) e
 exists a
 cases q:H b with
 |none=>rfl
 |some x=>
  have c:b∈AC h H:=GZ.mpr #[FX.mpr (Jl a),by simp [q]]
  have z:(ge h H).get? b=none:=W.hideAll_none (AC h H) c
  rw[z]at e;cases e
structure PY(K:ι)(mg:HE)(base:Ψ):Prop where
 kin:K.In base
 glob:base.Ns η mg
 blt:∃mb,base.Ns builtinsNs mb/\∀x:Str,x≠"__name__"->mb x=bootBuiltins x
 nolimit:base.NoLimit
structure Cx where
 prog:Ξ
 w:Ω
 K:ι
 mg:Str->Ν
 base:Ψ
 A:Around
 N:Α
 s₀:Θ
 H₀:Hp
 env:Env
 outer:Ο
 stack:Ο
 ex:Η
 fn:Str->Bool
 calm:Bool
 pn:List (Δ×Obj)
 xe:Γ->Θ->Prop
def QB(l:Ο):Η:=l.filterMap (·.frame)
abbrev Cx.fs(X:Cx):Η:=QB X.outer
def Dg(a:Scope)(x:Str):Prop:=a.names.lookup x=some .local\/a.names.lookup x=some .cell\/a.names.lookup x=some .free
def pJ(a:Scope)(x:Str):Prop:=a.names.lookup x=some .local\/a.names.lookup x=some .cell
def EW(env:Env)(h:Ψ)(m:HE)(x:Str)(u:Γ):Prop:=
 (env.kindOf x=some .local/\m x=↑u)\/((env.kindOf x=some .cell\/env.kindOf x=some .free)/\∃c,env.cells.lookup x=↑c/\h.IsCell c ↑u)
structure Cx.Ok(X:Cx):Prop where
 mod:PY X.K X.mg X.base
 kind:X.env.scope.kind= .function
 glob:X.env.globals=η
 blt:X.env.builtins=builtinsNs
 above:X.s₀.heap.objs.size<=X.env.locals
 inj:∀x y c,X.env.cells.lookup x=↑c->X.env.cells.lookup y=↑c->x=y
 has:∀x,(X.env.kindOf x=some .cell\/X.env.kindOf x=some .free)->∃c,X.env.cells.lookup x=↑c
 cab:∀x c,X.fn x=true->X.env.cells.lookup x=↑c->X.s₀.heap.objs.size<=c
 hd:X.calm=true->X.A.handled=none
 frames:X.A.frames=↑X.stack
 stk:X.stack=X.outer\/(X.stack=X.env::X.outer/\X.env.frame=↑X.env.locals)
 exf:∀b∈X.ex,b≠X.env.locals/\∀x c,X.env.cells.lookup x=↑c->c≠b
 bs:∀b o,X.base.get? b=↑o->X.s₀.heap.get? b=↑o/\X.H₀ b=none
 bsz:X.base.objs.size<=X.s₀.heap.objs.size
 noex:∀b o,X.base.get? b=↑o->b∉X.ex
 exfs:∀b∈X.ex,b∉X.fs
 funs:X.s₀.heap.FunFrames X.base X.outer
 frf:∀b∈X.fs,X.H₀ b=none
structure HL(X:Cx)(tx:HF)(σ:List Ρ)(H:Hp)(s:Θ):Prop where
 ok:X.Ok
 os:s.os=X.s₀.os
 bare:AllBare s.gens
 base:Un X.fs X.ex X.H₀ H X.s₀.heap s.heap
 loc:∃m,s.heap.Ns X.env.locals m/\∀(i:Nat) (x:Str) (v:V),X.N[i]? =↑x->σ[i]? =↑(↑v)->Dg X.env.scope x->∃u,HN v u/\EW X.env s.heap m x u
 cell:∀x c,X.env.cells.lookup x=↑c->∃v,s.heap.IsCell c v
 free:H X.env.locals=none
 freeC:∀x c,X.env.cells.lookup x=↑c->H c=none
 pin:∀p∈X.pn++tx,s.heap.get? p.1=↑p.2/\H p.1=none/\p.1≠X.env.locals/\p.1∉X.fs/\∀v,p.2.data≠ .cell v
 hok:LZ X.prog X.w H s.heap
 len:σ.length=X.N.length
section
variable{X:Cx}
theorem Cx.Ok.nofr(ok:X.Ok){b:Δ}{o:Obj}(e:X.base.get? b=↑o):b∉X.fs:=λa=>by
 have:=(ok.funs.mem a).1
 rw[e]at this;cases this
theorem HL.bs(I:HL X tx σ H s):∀b o,X.base.get? b=↑o->s.heap.get? b=↑o/\H b=none:=λb o e=>
 #[I.base.keep b o (I.ok.bs b o e).1 (I.ok.bs b o e).2 (I.ok.nofr e) (I.ok.noex b o e),I.base.free b o (I.ok.bs b o e).1 (I.ok.bs b o e).2 (I.ok.noex b o e)]
theorem HL.bk(I:HL X tx σ H s):∀b o,X.base.get? b=↑o->s.heap.get? b=↑o:=λb o e=>(I.bs b o e).1
theorem HL.mod(I:HL X tx σ H s):PY X.K X.mg X.base:=I.ok.mod
theorem HL.kIn(I:HL X tx σ H s):X.K.In s.heap:=I.ok.mod.kin.keeps I.bk
theorem HL.lt(I:HL X tx σ H s):X.env.locals<s.heap.objs.size:=let⟨_,hn,_⟩:=I.loc;hn.lt
theorem HL.sz(I:HL X tx σ H s):X.s₀.heap.objs.size<=s.heap.objs.size:=JI I.ok.above (G0 I.lt)
theorem HL.nofs(I:HL X tx σ H s){a:Δ}(h:s.heap.objs.size<=a):a∉X.fs:=λd=>by
 let#[_,o,c,_]:=I.ok.funs.mem d;exact absurd (JO (Jl c) (JI I.sz h)) (J4 _)
theorem HL.cne(I:HL X tx σ H s):∀x c,X.env.cells.lookup x=↑c->c≠X.env.locals:=λx c e z=>by
 let#[v,o,g,f]:=I.cell x c e;let#[m,#[o',es,h,d,a,_],_]:=I.loc;rw[z,d]at g;cases g;rw[a]at f;cases f
theorem HL.funs(I:HL X tx σ H s):s.heap.FunFrames X.base X.outer:=by
 have all:∀(l:Ο),(∀b∈QB l,b∈X.fs)->X.s₀.heap.FunFrames X.base l->s.heap.FunFrames X.base l:=by
  intro l
  induction l with
  |nil=>intro _ _;trivial
  |cons env r ih=>
   intro f j;let#[hk,#[L,o,c,h,i,g],m]:=j;have a:L∈X.fs:=f L (by unfold QB;rw[IC,c];exact Jy)
   let#[n,e]:=I.base.slot L o i (I.ok.frf L a) a λz=>I.ok.exfs L z a
   exact#[hk,#[L,_,c,h,e,g],ih (λb d=>f b (by unfold QB;rw[IC,c];exact JD _ d)) m]
 exact all X.outer (λ_ d=>d) I.ok.funs
theorem HL.stack(I:HL X tx σ H s):s.heap.FunFrames X.base X.stack:=by
 rcases I.ok.stk with e|⟨e,c⟩
 .rw[e];exact I.funs
 .rw[e]
  let#[m,a,_]:=I.loc;refine .cons (by rw[I.ok.kind];decide) c a ?_ I.funs
  exact GA (JI I.ok.bsz I.ok.above)
theorem HL.stkSub(I:HL X tx σ H s):∀b∈QB X.stack,b∈X.env.locals::X.fs:=λb a=>by
 rcases I.ok.stk with e|⟨e,c⟩
 .rw[e]at a;exact JD _ a
 .rw[e]at a
  unfold QB at a;rw[IC,c]at a;exact a
theorem HL.stkFree(I:HL X tx σ H s):∀b∈QB X.stack,H b=none:=λb a=>by
 rcases Jh.mp (I.stkSub b a)with e|a
 .rw[e];exact I.free
 .let#[_,o,c,_]:=I.ok.funs.mem a
  exact I.base.free b o c (I.ok.frf b a) λz=>I.ok.exfs b z a
theorem HL.step{ch:Η}(I:HL X tx σ H s)(g:∀b∈ch,(b∈X.ex\/X.s₀.heap.objs.size<=b)/\b≠X.env.locals/\(∀x c,X.env.cells.lookup x=↑c->c≠b)/\∀p∈X.pn++tx,p.1≠b)(keep:∀b o,b≠X.env.locals->b∉X.fs->b∉ch->s.heap.get? b=↑o->H b=none->h'.get? b=↑o)(w:∀b o,b≠X.env.locals->b∈X.fs->b∉ch->s.heap.get? b=↑o->H b=none->∃N,h'.get? b=some {o with slots:=N})(free:∀b o,b∉ch->s.heap.get? b=↑o->H b=none->H' b=none)(y:∀b o,b∉ch->s.heap.get? b=↑o->∃o',h'.get? b=↑o')(D:∀b xs,H b=↑(.tup xs)->H' b=↑(.tup xs))(E:∀b o u,H b=↑(.frz o u)->H' b=↑(.frz o u))(J:∀b ps,H b=↑(.tbl ps)->∃C,H' b=↑(.tbl (ps++C)))(ns:∀m,s.heap.Ns X.env.locals m->h'.Ns X.env.locals m)(K:LZ X.prog X.w H' h')(hg:AllBare g'):
  HL X tx σ H' {s with heap:=h',gens:=g',drawn:=d',toks:=t'}:=by
 have G:∀b o,X.s₀.heap.get? b=↑o->b≠X.env.locals:=λb o e=>Jx (JO (Jl e) I.ok.above)
 have t:∀b o,X.s₀.heap.get? b=↑o->b∉X.ex->b∉ch:=λb o e a A=>by
  rcases(g b A).1 with z|z
  .exact a z
  .exact absurd (JO (Jl e) z) (J4 _)
 have f:∀x c,X.env.cells.lookup x=↑c->∀v,s.heap.IsCell c v->h'.IsCell c v:=λx c e v ⟨o,B,L⟩=>by
  have h:c∉ch:=λz=>(g c z).2.2.1 x c e Z
  by_cases P:c∈X.fs
  .let#[N,q]:=w c o (I.cne x c e) P h B (I.freeC x c e)
   exact#[_,q,L]
  .exact#[o,keep c o (I.cne x c e) P h B (I.freeC x c e),L]
 refine#[I.ok,I.os,hg,#[λb o e n A a=>?_,λb o e n A a=>?_,λb o e n a=>?_,λb o e a=>?_,λb xs e=>D b xs (I.base.tups b xs e),λb o xs e=>E b o xs (I.base.frzs b o xs e),λb ps e=>?_],?_,λx c e=>?_,?_,λx c e=>?_,λp O=>?_,K,I.len]
 .exact keep b o (G b o e) A (t b o e a) (I.base.keep b o e n A a) (I.base.free b o e n a)
 .let#[N,j]:=I.base.slot b o e n A a
  let#[M,F]:=w b _ (G b o e) A (t b o e a) j (I.base.free b o e n a)
  exact#[M,F]
 .let#[o',j]:=I.base.there b o e a
  exact free b o' (t b o e a) j (I.base.free b o e n a)
 .let#[o',j]:=I.base.there b o e a
  exact y b o' (t b o e a) j
 .let#[R,j]:=I.base.tbls b ps e
  let#[U,F]:=J b _ j
  exact#[R++U,by rw[F,Array.append_assoc]]
 .let#[m,W,T]:=I.loc
  refine#[m,ns m W,λi x v j F S=>?_]
  let#[u,r,l]:=T i x v j F S;exists u,r
  rcases l with l|⟨k,c,e,z⟩
  .exact .inl l
  .exact .inr #[k,c,e,f x c e _ z]
 .let#[v,z]:=I.cell x c e
  exact#[v,f x c e v z]
 .let#[m,#[o,_,_,B,_],_]:=I.loc
  exact free _ o (λz=>(g _ z).2.1 Z) B I.free
 .let#[v,o,B,L]:=I.cell x c e
  exact free c o (λz=>(g c z).2.2.1 x c e Z) B (I.freeC x c e)
 .let#[e,n,ne,Q,d]:=I.pin p O
  have h:p.1∉ch:=λz=>(g p.1 z).2.2.2 p O Z
  exact#[keep p.1 p.2 ne Q h e n,free p.1 p.2 h e n,ne,Q,d]
theorem HL.un(I:HL X tx σ H s)(u:Un X.fs [] H H' s.heap h')(f:LZ X.prog X.w H' h'):HL X tx σ H' {s with heap:=h',toks:=t'}:=by
 let#[m,#[o,es,q,h,r],_]:=id I.loc;let#[p,l]:=u.any h I.free (by simp)
 exact I.step (g':=s.gens) (d':=s.drawn) (ch:=[]) (λ_ z=>nomatch z) (λb o _ g _ e n=>u.keep b o e n g (by simp)) (λb o _ g _ e n=>u.slot b o e n g (by simp)) (λb o _ e n=>u.free b o e n (by simp)) (λb o _ e=>u.there b o e (by simp)) u.tups u.frzs u.tbls (λm' i=>by
  let#[o',d,c,a,j]:=i;rw[h]at a;cases a
  exact#[_,d,c,l,j]) f I.bare
theorem HL.call(I:HL X tx σ H s)(u:Un (QB X.stack) ch H H' s.heap h')(i:LZ X.prog X.w H' h')(hg:AllBare g')(d:∀b∈ch,(b∈X.ex\/X.s₀.heap.objs.size<=b)/\b≠X.env.locals/\(∀x c,X.env.cells.lookup x=↑c->c≠b)/\∀p∈X.pn++tx,p.1≠b):
  HL X tx σ H' {s with heap:=h',gens:=g',drawn:=d',toks:=t'}:=by
 let#[m,#[o,es,y,l,r],_]:=id I.loc;let#[w,j]:=u.any l I.free λz=>(d _ z).2.1 Z
 exact I.step (ch:=ch) d (λb o j v a e n=>u.keep b o e n (λz=>(Jh.mp (I.stkSub b z)).elim j v) a) (λb o _ _ a e n=>u.any e n a) (λb o a e n=>u.free b o e n a) (λb o a e=>u.there b o e a) u.tups u.frzs u.tbls (λm' q=>by
  let#[o',h,g,f,t]:=q;rw[l]at f;cases f
  exact#[_,h,g,j,t]) i hg
theorem HL.turned(I:HL X tx σ H s)(k:∀b o,b≠it->s.heap.get? b=↑o->h'.get? b=↑o)(hn:H it=none)(f:it≠X.env.locals)(h1:it∈X.ex\/X.s₀.heap.objs.size<=it)(h:∀x c,X.env.cells.lookup x=↑c->c≠it)(j:∀p∈X.pn++tx,p.1≠it):HL X tx σ H {s with heap:=h',toks:=t'}:=by
 have d:∀b u,H b=↑u->b≠it:=λb u e z=>by rw[z,hn]at e;cases e
 refine I.step (g':=s.gens) (d':=s.drawn) (ch:=[it]) (λb l=>?_) (λb o _ _ a e _=>k b o (λz=>a (by simp [z])) e) (λb o _ _ a e _=>#[o.slots,k b o (λz=>a (by simp [z])) e]) (λ_ _ _ _ n=>n)
  (λb o a e=>#[o,k b o (λz=>a (by simp [z])) e]) (λ_ _ e=>e) (λ_ _ _ e=>e) (λb ps e=>#[(List.toArray []),by rw[e];simp]) (λm g=>?_) (λb u e=>?_) I.bare
 .have e:b=it:=by simpa using l
  subst e
  exact#[h1,f,h,j]
 .let#[o,es,t,i,r]:=g
  exact#[o,es,t,k _ o (Ne.symm f) i,r]
 .refine(I.hok b u e).stay (λc v a q=>k c v ?_ q) (λ_ q=>q) λ_ _ q=>q
  rcases a with z|z
  .rw[z];exact d b u e
  .exact d c _ z
theorem HL.tok(I:HL X tx σ H s)(t:Nat):HL X tx σ H {s with toks:=t}:=I.un (h':=s.heap) (t':=t) Un.refl I.hok
theorem HL.kept(I:HL X tx σ H s)(k:∀b u,s.heap.get? b=↑u->h'.get? b=↑u):HL X tx σ H {s with heap:=h',toks:=t'}:=I.un (Un.kept k) (I.hok.kept k)
theorem HL.laid(I:HL X tx σ H s)(k:∀b u,s.heap.get? b=↑u->h'.get? b=↑u)(hp:s.heap.objs.size<=a)(new:HY X.prog X.w (HI H a o) h' a o):
  HL X tx σ (HI H a o) {s with heap:=h',toks:=t'}:=I.un (Un.laid k hp (I.hok.fresh hp)) (I.hok.laid k hp new)
theorem HL.write(I:HL X tx σ H s)(c:vO (H x))(d:e=x\/H e=↑(.own x))(k:∀b u,b≠e->s.heap.get? b=↑u->h'.get? b=↑u)(a:∃u,h'.get? e=↑u)(new:HY X.prog X.w (HI H x o) h' x o):HL X tx σ (HI H x o) {s with heap:=h',toks:=t'}:=I.un (Un.write c d k a) (I.hok.write c d k a new)
theorem HL.pins_of(I:HL X tx σ H s)(h:∀p∈pins',s.heap.get? p.1=↑p.2/\H p.1=none/\p.1≠X.env.locals/\p.1∉X.fs/\∀v,p.2.data≠ .cell v):HL X pins' σ H s:=
 #[I.ok,I.os,I.bare,I.base,I.loc,I.cell,I.free,I.freeC,λp a=>(Jw.mp a).elim (λz=>I.pin p (ID _ z)) (h p),I.hok,I.len]
theorem kg{N:Α}(c:N.Nodup){i:Nat}(a:N[i]? =↑x)(b:N[j]? =↑x):i=j:=by
 let#[h1,e]:=Jt.mp a;let#[f,d]:=Jt.mp b
 exact(List.getElem_inj c).mp (e.trans d.symm)
theorem nN{M:Model}{A:Around}{E:HD}{i:Nat}{x:Str}{v:V}{u:Γ}{Q:Unit->Θ->Prop}(I:HL X tx σ H s)(hN:X.N.Nodup)(hi:X.N[i]? =↑x)(w:pJ X.env.scope x)(r:HN v u)
  (h:∀s',HL X tx (σ.set i ↑v) H s'->(∃a,Ψ.SameBut a s.heap s'.heap/\(a=X.env.locals\/X.env.cells.lookup x=↑a))->Q () s')(hf:X.fn x=true\/X.env.scope.names.lookup x=some .local:=by first|exact .inl Z|exact .inr Z|assumption):ε M A (storeName X.env x u) Q E s:=by
 let#[m,hn,hl]:=id I.loc;have L:(X.env.scope.kind== .class||(X.env.scope.kind== .module&&X.env.locals != X.env.globals))=false:=by rw[I.ok.kind];rfl
 have D:i<σ.length:=by rw[I.len];exact(Jt.mp hi).1
 have cne:=I.cne;have g:∀{a:Δ} {h':Ψ},(∃o,s.heap.get? a=↑o/\H a=none)->Ψ.SameBut a s.heap h'->LZ X.prog X.w H h':=λ{a h'} ha f b ob e=>by
  let#[_,_,B]:=ha;refine(I.hok b ob e).stay (λc R t q=>(f.2 c ?_).trans q) (λ_ q=>q) λ_ _ q=>q
  rintro rfl
  rcases t with rfl|t
  .rw[B]at e;cases e
  .rw[B]at t;cases t
 rcases w with hk|hk
 .refine wpAny_storeName_local hk hn (λh' T f=>?_) L
  let#[oL,_,_,a0,_]:=id hn;refine h _ #[I.ok,I.os,I.bare,#[λb o e n J w=>?_,λb o e n J w=>?_,I.base.free,λb o e w=>?_,I.base.tups,I.base.frzs,I.base.tbls],#[_,T,λj y U l C W=>?_],λy c e=>?_,I.free,I.freeC,λp hp=>?_,g #[oL,a0,I.free] f,by simpa using I.len] #[_,f,.inl Z]
  .exact(f.2 b (Jx (JO (Jl e) I.ok.above))).trans (I.base.keep b o e n J w)
  .let#[sl,l]:=I.base.slot b o e n J w
   exact#[sl,(f.2 b (Jx (JO (Jl e) I.ok.above))).trans l]
  .let#[o',l]:=I.base.there b o e w
   exact#[o',(f.2 b (Jx (JO (Jl e) I.ok.above))).trans l]
  .by_cases F:j=i
   .subst F
    rw[hi]at l;cases l
    rw[Ia D]at C;cases C
    exact#[u,r,.inl #[hk,by simp]]
   .rw[Ib (Ne.symm F)]at C
    let#[Y,S,q]:=hl j y U l C W;exists Y,S
    rcases q with⟨k,e⟩|⟨k,c,e,z⟩
    .refine .inl #[k,?_]
     have:y≠x:=λe=>F (kg hN l (e▸hi))
     simp [this,e]
    .exact .inr #[k,c,e,z.sameBut f (cne y c e)]
  .let#[R,z]:=I.cell y c e
   exact#[R,z.sameBut f (cne y c e)]
  .let#[e,n,ne,nf,d]:=I.pin p hp
   exact#[(f.2 p.1 ne).trans e,n,ne,nf,d]
 .have G:X.fn x=true:=by
   rcases hf with z|z
   .exact z
   .rw[z]at hk;cases hk
  let#[c,t]:=I.ok.has x (.inl hk)
  let#[R,z]:=I.cell x c t;refine wpAny_storeName_cell I.ok.kind hk t z (λh' P f=>?_)
  let#[oc,K,N]:=id z;refine h {s with heap:=h'} #[I.ok,I.os,I.bare,#[λb o e n J w=>?_,λb o e n J w=>?_,I.base.free,λb o e w=>?_,I.base.tups,I.base.frzs,I.base.tbls],#[m,hn.sameBut f (Ne.symm (cne x c t)),λj y U l C W=>?_],λy c' e=>?_,I.free,I.freeC,λp hp=>?_,g #[oc,K,I.freeC x c t] f,by simpa using I.len] #[c,f,.inr t]
  .exact(f.2 b (Jx (JO (Jl e) (I.ok.cab x c G t)))).trans (I.base.keep b o e n J w)
  .let#[sl,l]:=I.base.slot b o e n J w
   exact#[sl,(f.2 b (Jx (JO (Jl e) (I.ok.cab x c G t)))).trans l]
  .let#[o',l]:=I.base.there b o e w
   exact#[o',(f.2 b (Jx (JO (Jl e) (I.ok.cab x c G t)))).trans l]
  .by_cases F:j=i
   .subst F
    rw[hi]at l;cases l
    rw[Ia D]at C;cases C
    exact#[u,r,.inr #[.inl hk,c,t,P]]
   .rw[Ib (Ne.symm F)]at C
    let#[Y,S,q]:=hl j y U l C W;exists Y,S
    rcases q with q|⟨k,c',e,z'⟩
    .exact .inl q
    .refine .inr #[k,c',e,z'.sameBut f ?_]
     rintro rfl
     exact F (kg hN l (I.ok.inj _ _ _ e t▸hi))
  .by_cases O:c'=c
   .subst O;exact#[_,P]
   .let#[w2,z2]:=I.cell y c' e
    exact#[w2,z2.sameBut f O]
  .let#[e,n,ne,nf,d]:=I.pin p hp
   refine#[(f.2 p.1 ?_).trans e,n,ne,nf,d]
   intro q;rw[q,K]at e;have q':oc=p.2:=JF e
   exact d R (by rw[<- q'];exact N)
theorem a7{M:Model}{A:Around}{E:HD}{i:Nat}{x:Str}{v:V}{u:Γ}{Q:Unit->Θ->Prop}(I:HL X tx σ H s)(a:X.N.Nodup)(hi:X.N[i]? =↑x)(c:pJ X.env.scope x)(r:HN v u)
  (h:∀s',HL X tx (σ.set i ↑v) H s'->Q () s')(d:X.fn x=true\/X.env.scope.names.lookup x=some .local:=by first|exact .inl Z|exact .inr Z|assumption):ε M A (storeName X.env x u) Q E s:=
 nN I a hi c r (λs' e _=>h s' e) d
theorem HL.call'(I:HL X tx σ H s)(ho:s'.os=s.os)(u:Un (QB X.stack) ch H H' s.heap s'.heap)(a:LZ X.prog X.w H' s'.heap)(hg:AllBare s'.gens)(d:∀b∈ch,(b∈X.ex\/X.s₀.heap.objs.size<=b)/\b≠X.env.locals/\(∀x c,X.env.cells.lookup x=↑c->c≠b)/\∀p∈X.pn++tx,p.1≠b):HL X tx σ H' s':=by
 let#[h',g',d',t',o']:=s';have e:o'=s.os:=ho
 subst e;exact I.call (g':=g') (t':=t') (d':=d') u a hg d
end
abbrev XK:=Γ->Κ->Hp->Prop
abbrev St:=List Ρ
abbrev VK:=V->Hp->Prop
abbrev TE:=St->Hp->VK->Prop
abbrev TT:=St->Hp->(Bool->Hp->Prop)->Prop
abbrev TA:=St->Hp->(Β->Hp->Prop)->Prop
structure Lr where
 nx:St->Hp->Prop
 rt:VK
 bk:St->Hp->Prop:=λ_ _=>False
 ct:St->Hp->Prop:=λ_ _=>False
abbrev TS:=Lr->St->Hp->Prop
def EP(X:Cx)(tx:HF)(σ:St)(Q:VK)(u:Γ)(s':Θ):Prop:=∃v H',HL X tx σ H' s'/\HN v u/\Q v H'
def TP(X:Cx)(tx:HF)(σ:St)(Q:Bool->Hp->Prop)(b:Bool)(s':Θ):Prop:=∃H',HL X tx σ H' s'/\Q b H'
def AP(X:Cx)(tx:HF)(σ:St)(Q:Β->Hp->Prop)(us:Ζ)(s':Θ):Prop:=∃a H',HL X tx σ H' s'/\HR a us/\Q a H'
def SP(X:Cx)(tx:HF)(D:Lr)(f:Flow)(s':Θ):Prop:=
 match f with
 | .next=>∃a H',HL X tx a H' s'/\D.nx a H'
 | .brk=>∃a H',HL X tx a H' s'/\D.bk a H'
 | .cont=>∃a H',HL X tx a H' s'/\D.ct a H'
 | .ret u=>∃v a H',HL X tx a H' s'/\HN v u/\D.rt v H'
def PE(X:Cx)(e:Φ)(t:TE):Prop:=
 ∀(tx:HF) (s:Θ) (σ:St) (H:Hp) (Q:VK),HL X tx σ H s->t σ H Q->ε (model X.prog X.w) X.A (eval e X.env) (EP X tx σ Q) X.xe s
structure QE(X:Cx)(e:Φ)(t:TE):Prop where
 h:PE X e t
def PT(X:Cx)(e:Φ)(t:TT):Prop:=
 ∀(tx:HF) (s:Θ) (σ:St) (H:Hp) (Q:Bool->Hp->Prop),HL X tx σ H s->t σ H Q->ε (model X.prog X.w) X.A (isTrue e X.env (eval e X.env)) (TP X tx σ Q) X.xe s
structure QT(X:Cx)(e:Φ)(t:TT):Prop where
 h:PT X e t
def PW(X:Cx)(e:Φ)(t:TT):Prop:=
 ∀(a:Sem Γ) (tx:HF) (s:Θ) (σ:St) (H:Hp) (Q:Bool->Hp->Prop),HL X tx σ H s->t σ H Q->ε (model X.prog X.w) X.A (isTrue e X.env a) (TP X tx σ Q) X.xe s
structure QW(X:Cx)(e:Φ)(t:TT):Prop where
 h:PW X e t
theorem PW.pt{X:Cx}{e:Φ}{t:TT}(h:PW X e t):PT X e t:=h _
def PA(X:Cx)(es:Ι)(t:TA):Prop:=
 ∀(pos:Pos) (tx:HF) (s:Θ) (σ:St) (H:Hp) (Q:Β->Hp->Prop),HL X tx σ H s->t σ H Q->ε (model X.prog X.w) X.A (spliced (backTo pos (θ es X.env))) (AP X tx σ Q) X.xe s
structure QA(X:Cx)(e:Ι)(t:TA):Prop where
 h:PA X e t
def PS(X:Cx)(st:δ)(t:TS):Prop:=
 ∀(tx:HF) (s:Θ) (σ:St) (H:Hp) (D:Lr),HL X tx σ H s->t D σ H->ε (model X.prog X.w) X.A (exec st X.env) (SP X tx D) X.xe s
structure QS(X:Cx)(e:δ)(t:TS):Prop where
 h:PS X e t
def O7(X:Cx)(st:List δ)(t:TS):Prop:=
 ∀(tx:HF) (s:Θ) (σ:St) (H:Hp) (D:Lr),HL X tx σ H s->t D σ H->ε (model X.prog X.w) X.A (execs st X.env) (SP X tx D) X.xe s
structure On(X:Cx)(e:List δ)(t:TS):Prop where
 h:O7 X e t
theorem qK{α:Type}{t:Sem α}{Q c:α->Θ->Prop}{M:Model}{A:Around}{E:HD}{s:Θ}(h:ε M A t Q E s)(d:∀a s,Q a s->c a s):ε M A t c E s:=JR h d λ_ _ x=>x
section
inductive Px (i:Nat) (σ:L2.St) (H:Hp) (Q:VK):Prop
 |mk (v:_) (h1:σ[i]? =↑(↑v)) (h2:Q v H)
def DO(i:Nat):TE:=λσ H Q=>Px i σ H Q
def tC(v:V):TE:=λ_ H Q=>Q v H
theorem Dw{i:Nat}{x:Str}{pos:Pos}(n:X.N[i]? =↑x)(p:Dg X.env.scope x)(f:(x==("__debug__":Str))=false:=by decide)(g:(x==("__classdict__":Str))=false:=by decide):PE X (.Name x pos) (DO i):=by
 intro tx s σ H Q I h;let#[v,e,h]:=h;let#[m,q,t]:=I.loc;let#[u,r,l]:=t i x v n e p;have d:EP X tx σ Q u s:=#[v,H,I,r,h]
 rcases l with⟨hk,o⟩|⟨hk,c,j,a⟩
 .exact wpAny_Name (wpAny_loadName_local I.ok.kind hk q o d) f
 .rcases hk with hk|hk
  .exact wpAny_Name (wpAny_loadName_cell I.ok.kind hk j a d) f
  .exact wpAny_Name (wpAny_loadName_free I.ok.kind hk j a d g) f
theorem qj{i j pos}:QE X (.Constant (.int i) j pos) (tC (.int i)):=#[λ_ _ _ H _ I h=>wpAny_Constant_int #[.int i,H,I.tok _,#[0],h]]
theorem Q0{b j pos}:QE X (.Constant (.bool b) j pos) (tC (.bl b)):=#[λ_ _ _ H _ I h=>Constant_bool #[.bl b,H,I,Z,h]]
theorem zo{j pos}:QE X (.Constant .none j pos) (tC .non):=#[λ_ _ _ H _ I h=>Constant_none #[.non,H,I,Z,h]]
theorem qi{x j pos}:QE X (.Constant (.str x) j pos) (tC (.str x)):=#[λ_ _ _ H _ I h=>Calls.Constant_str #[.str x,H,I.tok _,#[0],h]]
def Gl(X:Cx)(x:Str):Prop:=X.env.kindOf x=some .globalImplicit
theorem au{E:HD}{tx:HF}{s:Θ}{σ:St}{H:Hp}{x:Str}{u:Γ}{pos:Pos}{Q:HD}(I:HL X tx σ H s)(hg:Gl X x)(hm:X.mg x=↑u)(h:Q u s)
  (a:(x==("__debug__":Str))=false:=by decide):ε (model X.prog X.w) X.A (eval (.Name x pos) X.env) Q E s:=
 Calls.Name_function_global I.ok.kind hg (Calls.loadGlobal_global (by rw[I.ok.glob];exact I.mod.glob.keeps I.bk) hm h) a
theorem bJ{E:HD}{tx:HF}{s:Θ}{σ:St}{H:Hp}{x:Str}{u:Γ}{pos:Pos}{Q:HD}(I:HL X tx σ H s)(hg:Gl X x)(hm:X.mg x=none)(c:bootBuiltins x=↑u)(h:Q u s)
  (hn:x≠"__name__":=by decide)(a:(x==("__debug__":Str))=false:=by decide):ε (model X.prog X.w) X.A (eval (.Name x pos) X.env) Q E s:=by
 let#[e,h1,d]:=I.mod.blt;exact Calls.Name_function_global I.ok.kind hg (Calls.loadGlobal_builtin (by rw[I.ok.glob];exact I.mod.glob.keeps I.bk) hm (by rw[I.ok.blt];exact h1.keeps I.bk) ((d x hn).trans c) h) a
theorem zk(hg:Gl X x)(hm:X.mg x=↑u)(r:HN v u)(a:(x==("__debug__":Str))=false:=by decide):QE X (.Name x pos) (tC v):=#[λ_ _ _ H _ I h=>au I hg hm #[v,H,I,r,h] a]
theorem za(hg:Gl X x)(hm:X.mg x=none)(c:bootBuiltins x=↑u)(r:HN v u)(hn:x≠"__name__":=by decide)(a:(x==("__debug__":Str))=false:=by decide):QE X (.Name x pos) (tC v):=#[λ_ _ _ H _ I h=>bJ I hg hm c #[v,H,I,r,h] hn a]
variable{b:Φ}
def PC(X:Cx)(e:CmpOp)(a b:Φ)(t:TE):Prop:=
 ∀(tx:HF) (s:Θ) (σ:St) (H:Hp) (Q:VK),HL X tx σ H s->t σ H Q->
  ε (model X.prog X.w) X.A (eval a X.env) (λv c=>ε (model X.prog X.w) X.A (eval b X.env) (λu d=>ε (model X.prog X.w) X.A (compareOp e v u) (EP X tx σ Q) X.xe d) X.xe c) X.xe s
noncomputable def tB(t:TE):TT:=λσ H Q=>t σ H λx H1=>∃c,x= .bl c/\Q c H1
theorem Db{c:CmpOp}{t:TE}(h:PC X c a b t)(h1:behindInMarks c b=false:=by first|exact nobehind _ ⋯ ⋯|rfl):PE X (.Compare a [c] [b] pos) t:=λtx s σ H Q I d=>wpAny_Compare1 (h tx s σ H Q I d) h1
theorem vE{e:CmpOp}{t:TE}(h:PC X e a b t)(h1:behindInMarks e b=false:=by first|exact nobehind _ ⋯ ⋯|rfl):PT X (.Compare a [e] [b] pos) (tB t):=by
 intro tx s σ H Q I f;refine wpAny_isTrue_Compare1 (qK (h tx s σ H _ I f) λv p h1=>qK h1 λu n g=>qK g λc o j=>?_) h1
 let#[x,H1,i,m,l]:=j;let#[d,rfl,q]:=l;cases m;exact FF #[H1,i,q]
theorem zW(h:QE X e t)(f:∀a,isTrue e X.env a=(do let v <- a;standAt e.pos;holding [v] (truthy v)):=by intro _;rfl):QT X e (tB t):=#[by
 intro tx s σ H Q I c;refine isTrue_plain (qK (h.h tx s σ H _ I c) λv m i=>?_) (f _)
 let#[x,H1,g,l,j]:=i;let#[d,rfl,q]:=j;cases l;exact FF #[H1,g,q]]
noncomputable def E8(t u:TT):TT:=λσ H Q=>t σ H λc H1=>if c=true then u σ H1 Q else Q false H1
noncomputable def Fi(t u:TT):TT:=λσ H Q=>t σ H λc H1=>if c=true then Q true H1 else u σ H1 Q
noncomputable def E9(t:TT):TT:=λσ H Q=>t σ H λc H1=>Q (! c) H1
theorem eZ(ha:QT X a tA):QW X (.BoolOp .And [a] pos) tA:=#[by
 intro f tx s σ H Q I h;refine isTrue_and (qK (ha.h tx s σ H Q I h) λc d e=>?_)
 cases c with
 |true=>exact isTrue_and_nil e
 |false=>exact e]
theorem Q4(ha:QT X a tA):QW X (.BoolOp .Or [a] pos) tA:=#[by
 intro f tx s σ H Q I h;refine isTrue_or (qK (ha.h tx s σ H Q I h) λc d e=>?_)
 cases c with
 |false=>exact isTrue_or_nil e
 |true=>exact e]
theorem iT{b:Φ}(ha:QT X a tA)(hb:QW X (.BoolOp .And (b::rest) pos) tB'):QW X (.BoolOp .And (a::b::rest) pos) (E8 tA tB'):=#[by
 intro f tx s σ H Q I h;refine isTrue_and (qK (ha.h tx s σ H _ I h) λc i g=>?_)
 let#[H1,d,e]:=g;cases c with
 |true=>exact hb.h f tx i σ H1 Q d e
 |false=>exact#[H1,d,e]]
theorem Q7{b:Φ}(ha:QT X a tA)(hb:QW X (.BoolOp .Or (b::rest) pos) tB'):QW X (.BoolOp .Or (a::b::rest) pos) (Fi tA tB'):=#[by
 intro f tx s σ H Q I h;refine isTrue_or (qK (ha.h tx s σ H _ I h) λc i g=>?_)
 let#[H1,d,e]:=g;cases c with
 |true=>exact#[H1,d,e]
 |false=>exact hb.h f tx i σ H1 Q d e]
theorem Qg(ha:QT X a tA):QT X (.UnaryOp .Not a pos) (E9 tA):=#[by
 intro tx s σ H Q I h;exact isTrue_not (ha.h tx s σ H (λc H1=>Q (! c) H1) I h)]
noncomputable def DU(ta tb:TE):TE:=λσ H Q=>ta σ H λx H1=>∃c,x= .bl c/\if c=true then tb σ H1 Q else Q (.bl false) H1
noncomputable def DY(ta:TE):TE:=λσ H Q=>ta σ H λx H1=>∃c,x= .bl c/\Q (.bl (! c)) H1
theorem QD{op}(h:QE X a t):QE X (.BoolOp op [a] pos) t:=#[λtx s σ H Q I c=>BoolOp_one (h.h tx s σ H Q I c)]
theorem Qj{b:Φ}(ha:QE X a ta)(hb:QE X (.BoolOp .And (b::rest) pos) tb):QE X (.BoolOp .And (a::b::rest) pos) (DU ta tb):=#[by
 intro tx s σ H Q I h;refine BoolOp_and (qK (ha.h tx s σ H _ I h) λv g f=>?_)
 let#[x,H1,e,i,d]:=f;let#[c,rfl,d]:=d;cases i;refine FF ?_
 cases c with
 |true=>exact hb.h tx g σ H1 Q e d
 |false=>exact#[.bl false,H1,e,Z,d]]
theorem iO(ha:QE X a ta):QE X (.UnaryOp .Not a pos) (DY ta):=#[by
 intro tx s σ H Q I h;refine UnaryOp_ (qK (ha.h tx s σ H _ I h) λv i f=>?_)
 let#[x,H1,e,g,d]:=f;let#[c,rfl,d]:=d;cases g;exact not_of (FF #[.bl (! c),H1,e,Z,d])]
noncomputable def Fo(t:TT)(ta tb:TE):TE:=λσ H Q=>t σ H λc H1=>if c=true then ta σ H1 Q else tb σ H1 Q
theorem fZ{b:Φ}(hc:QT X c tA)(ha:QE X a ta)(hb:QE X b tb):QE X (.IfExp c a b pos) (Fo tA ta tb):=#[by
 intro tx s σ H Q I h;refine wpAny_IfExp (qK (hc.h tx s σ H _ I h) λd g i=>?_)
 let#[H1,e,f]:=i;cases d with
 |true=>exact ha.h tx g σ H1 Q e f
 |false=>exact hb.h tx g σ H1 Q e f]
end
def HP(K:ι)(H:Hp)(a:Δ)(xs:Β):Prop:=
 Rd H a (.lst xs)\/
  ∃(o:Obj) (c:Array Γ) (n:Nat),K.lookup a=↑o/\o.cls= .type "list"/\o.dict=none/\o.data= .seq c n/\c.size<=ζ/\HR xs c.toList
def HQ(K:ι)(H:Hp)(a:Δ)(xs:Β):Prop:=
 Rd H a (.tup xs)\/
  ∃(o:Obj) (c:Array Γ) (n:Nat),K.lookup a=↑o/\o.cls= .type "tuple"/\o.data= .seq c n/\c.size<=ζ/\HR xs c.toList
noncomputable def E4:Γ->Ρ
 | .none=>some .non
 | .bool b=>↑(.bl b)
 | .int i _=>↑(.int i)
 | .str x _=>↑(.str x)
 | .bytes b _=>↑(.byt b)
 | .float b _=>↑(.flt b)
 | .ref a=>↑(-a)
 | .type n=>↑(.ty n)
 |_=>none
theorem HN.abs(r:HN x u):E4 u=↑x:=by
 cases x with
 |non=>cases r;rfl
 |bl _=>cases r;rfl
 |int _=>let#[t,rfl]:=r;rfl
 |str _=>let#[t,rfl]:=r;rfl
 |byt _=>let#[t,rfl]:=r;rfl
 |flt _=>let#[t,rfl]:=r;rfl
 |ref _=>cases r;rfl
 |ty _=>cases r;rfl
theorem HN.inj(r:HN x u)(q:HN y u):x=y:=JF (r.abs.symm.trans q.abs)
theorem HR.inj:∀{xs ys:Β} {us:Ζ},HR xs us->HR ys us->xs=ys
 :=by
 intro xs ys us h
 induction h generalizing ys with
 |nil=>intro g;cases g;rfl
 |cons r t ih=>intro g;cases g with
  |cons r' t'=>rw[r.inj r',ih t']
section
theorem HP.of{K:ι}(h:H a=↑(.lst xs)):HP K H a xs:= .inl (.inl h)
theorem HQ.of{K:ι}(h:H a=↑(.tup xs)):HQ K H a xs:= .inl (.inl h)
theorem HL.list(I:HL X tx σ H s)(h:HP X.K H a xs):∃c:Ζ,HR xs c/\PlainL s.heap a c.toArray/\xs.length<=ζ:=by
 rcases h with h|⟨o,c,n,hk,f,d,g,i,r⟩
 .let#[z,c,n,r,e]:=h.ok I.hok
  exact#[c,r,#[_,n,e,34],z]
 .exists c.toList,r,#[o,n,I.kIn a o hk,f,d,by simpa using g]
  have e:=r.length;simp only[GB]at e;lia
theorem HL.tuple(I:HL X tx σ H s)(h:HQ X.K H a xs):∃c:Ζ,HR xs c/\IsTup s.heap a c.toArray/\xs.length<=ζ:=by
 rcases h with h|⟨o,c,n,hk,d,f,g,r⟩
 .let#[z,c,r,p]:=h.ok I.hok
  exact#[c,r,p,z]
 .exists c.toList,r,#[o,I.kIn a o hk,d,n,by simpa using f]
  have e:=r.length;simp only[GB]at e;lia
theorem HL.list_inj(I:HL X tx σ H s)(h:HP X.K H a xs)(h':HP X.K H a ys):xs=ys:=by
 let#[f,r,#[o,n,e,_,_,d],_]:=I.list h;let#[c,j,#[o',l,g,_,_,i],_]:=I.list h';rw[e]at g;cases g
 rw[d]at i;injection i with d1 _
 have:f=c:=by simpa using JK Array.toList d1
 subst this;exact r.inj j
theorem HL.tuple_inj(I:HL X tx σ H s)(h:HQ X.K H a xs)(h':HQ X.K H a ys):xs=ys:=by
 let#[f,r,#[o,e,_,n,d],_]:=I.tuple h;let#[c,j,#[o',g,_,l,i],_]:=I.tuple h';rw[e]at g;cases g
 rw[d]at i;injection i with d1 _
 have:f=c:=by simpa using JK Array.toList d1
 subst this;exact r.inj j
end
noncomputable abbrev Cx.wish(X:Cx)(E:HD):Cx:={X with xe:=E}
noncomputable abbrev Cx.nox(X:Cx):Cx:=X.wish λ_ _=>False
theorem Cx.Ok.wish{X:Cx}(ok:X.Ok)(E:HD):(X.wish E).Ok:=
 #[ok.mod,ok.kind,ok.glob,ok.blt,ok.above,ok.inj,ok.has,ok.cab,ok.hd,ok.frames,ok.stk,ok.exf,ok.bs,ok.bsz,ok.noex,ok.exfs,ok.funs,ok.frf]
theorem Cx.Ok.unwish{X:Cx}(ok:(X.wish E).Ok):X.Ok:=
 #[ok.mod,ok.kind,ok.glob,ok.blt,ok.above,ok.inj,ok.has,ok.cab,ok.hd,ok.frames,ok.stk,ok.exf,ok.bs,ok.bsz,ok.noex,ok.exfs,ok.funs,ok.frf]
section
theorem HL.wish(I:HL X tx σ H s)(E:HD):HL (X.wish E) tx σ H s:=#[I.ok.wish E,I.os,I.bare,I.base,I.loc,I.cell,I.free,I.freeC,I.pin,I.hok,I.len]
theorem HL.unwish(I:HL (X.wish E) tx σ H s):HL X tx σ H s:=#[I.ok.unwish,I.os,I.bare,I.base,I.loc,I.cell,I.free,I.freeC,I.pin,I.hok,I.len]
theorem SP.unwish(h:SP (X.wish E) tx D f s'):SP X tx D f s':=by
 cases f with
 |next=>let#[a,H',I,q]:=h;exact#[a,H',I.unwish,q]
 |brk=>let#[a,H',I,q]:=h;exact#[a,H',I.unwish,q]
 |cont=>let#[a,H',I,q]:=h;exact#[a,H',I.unwish,q]
 |ret u=>let#[v,a,H',I,r,q]:=h;exact#[v,a,H',I.unwish,r,q]
theorem O7.nox{st:List δ}{t:TS}(h:O7 X.nox st t):O7 X st t:=λtx s σ H D I a=>
 JR (h tx s σ H D (I.wish _) a) (λ_ _ q=>q.unwish) λ_ _ z=>False.elim z
end
section
variable{X:Cx}{st:δ}{rest:List δ}{t u:TS}
def Et:TS:=λD σ H=>D.nx σ H
noncomputable def jM(t u:TS):TS:=λD σ H=>t {D with nx:=u D} σ H
theorem qr:On X [] Et:=#[λ_ _ σ H _ I h=>Gd #[σ,H,I,h]]
theorem qg(h1:QS X st t)(c:On X rest u):On X (st::rest) (jM t u):=#[by
 intro tx s σ H D I h;refine wpAny_execs_cons (qK (h1.h tx s σ H {D with nx:=u D} I h) λf e q=>?_)
 cases f with
 |next=>
  let#[a,H',d,q]:=q;exact c.h tx e a H' D d q
 |ret v=>exact q
 |brk=>exact q
 |cont=>exact q]
theorem qh(h1:QS X st t):On X [st] t:=#[by
 intro tx s σ H D I h;refine wpAny_execs_cons (qK (h1.h tx s σ H D I h) λf a q=>?_)
 cases f with
 |next=>exact Gd q
 |ret v=>exact q
 |brk=>exact q
 |cont=>exact q]
theorem HL.quiet(I:HL X tx σ H s):interactive X.env=false:=by simp [interactive,I.ok.kind]
noncomputable def Ep(te:TE):TS:=λD σ H=>te σ H λ_ H1=>D.nx σ H1
theorem qT(a:QE X e te)(hs:swapsWith e none pos.line X.env=pure false:=by rfl):QS X (.Expr e pos) (Ep te):=#[by
 intro tx s σ H D I h;exact wpAny_Expr_any (qK (a.h tx s σ H _ I h) λv f ⟨x,H1,c,g,d⟩=>#[σ,H1,c,d]) I.quiet hs]
def EL(te:TE):TS:=λD σ H=>te σ H D.rt
theorem qp(a:QE X e te):QS X (.Return ↑e pos) (EL te):=#[by
 intro tx s σ H D I h;exact wpAny_Return_some (qK (a.h tx s σ H _ I h) λv g ⟨x,H1,c,f,d⟩=>#[x,σ,H1,c,f,d])]
noncomputable def EZ(c:TT)(t u:TS):TS:=λD σ H=>c σ H λb H1=>if b=true then t D σ H1 else u D σ H1
theorem qC{b:List δ}(hc:QT X c tc)(ha:On X a t)(hb:On X b u):QS X (.If c a b pos) (EZ tc t u):=#[by
 intro tx s σ H D I h;refine wpAny_If (qK (hc.h tx s σ H _ I h) λd g i=>?_)
 let#[H1,e,f]:=i;cases d with
 |true=>exact ha.h tx g σ H1 D e f
 |false=>exact hb.h tx g σ H1 D e f]
def DE:TS:=λ_ _ _=>False
theorem Qz:On X a DE:=#[λ_ _ _ _ _ _ h=>h.elim]
end
noncomputable abbrev TG:=V->St->Hp->(St->Hp->Prop)->Prop
noncomputable abbrev cW:=Β->St->Hp->(St->Hp->Prop)->Prop
def PG(X:Cx)(a:Φ)(t:TG):Prop:=
 ∀(tx:HF) (s:Θ) (σ:St) (H:Hp) (v:V) (u:Γ) (Q:St->Hp->Prop),HL X tx σ H s->HN v u->t v σ H Q->
  ε (model X.prog X.w) X.A (assign a X.env u) (λ_ s'=>∃c H',HL X tx c H' s'/\Q c H') X.xe s
structure QG(X:Cx)(e:Φ)(t:TG):Prop where
 h:PG X e t
def CI(X:Cx)(e:Ι)(t:cW):Prop:=
 ∀(tx:HF) (s:Θ) (σ:St) (H:Hp) (c:Β) (d:Ζ) (Q:St->Hp->Prop),HL X tx σ H s->HR c d->t c σ H Q->
  ε (model X.prog X.w) X.A (assignInOrder ((assignEach e X.env).map (·.2)) d) (λ_ s'=>∃a H',HL X tx a H' s'/\Q a H') X.xe s
structure Pt(X:Cx)(e:Ι)(t:cW):Prop where
 h:CI X e t
abbrev rL:=V->V->V->Hp->(Hp->Prop)->Prop
def yd(X:Cx)(t:rL):Prop:=
 ∀(tx:HF) (s:Θ) (σ:St) (H:Hp) (o i v:V) (c a u:Γ) (Q:Hp->Prop),HL X tx σ H s->HN o c->HN i a->HN v u->t o i v H Q->
  ε (model X.prog X.w) X.A (setItem c a u) (λ_ s'=>∃H',HL X tx σ H' s'/\Q H') X.xe s
abbrev Bh:=V->V->Hp->VK->Prop
def EE(X:Cx)(a:Operator)(t:Bh):Prop:=
 ∀(tx:HF) (s:Θ) (σ:St) (H:Hp) (x y:V) (v u:Γ) (Q:VK),HL X tx σ H s->HN x v->HN y u->t x y H Q->
  ε (model X.prog X.w) X.A (inplaceOp a v u) (EP X tx σ Q) X.xe s
section
noncomputable def cX(i:Nat):TG:=λv σ H Q=>Q (σ.set i ↑v) H
theorem qD(i:Nat)(a:X.N.Nodup)(hi:X.N[i]? =↑x:=by rfl)(c:pJ X.env.scope x:=by first|exact .inl Z|exact .inr Z)(d:X.fn x=true\/X.env.scope.names.lookup x=some .local:=by first|exact .inl Z|exact .inr Z|assumption):QG X (.Name x pos) (cX i):=#[by
 intro tx s σ H v u Q I r h;exact wpAny_assign_Name (a7 I a hi c r (λs' e=>#[_,H,e,h]) d)]
def Cy:cW:=λa σ H Q=>a=[]/\Q σ H
inductive Pj (t:TG) (u:cW) (vs:Β) (σ:L2.St) (H:Hp) (Q:L2.St->Hp->Prop):Prop
 |mk (v:_) (r:_) (h1:vs=v::r) (h2:t v σ H λσ' H'=>u r σ' H' Q)
noncomputable def uI(t:TG)(u:cW):cW:=λa σ H Q=>Pj t u a σ H Q
theorem Qu:Pt X [] Cy:=#[by
 intro tx s σ H a c Q I r h;let#[e,h]:=h;subst e;cases r;exact assignInOrder_nil #[σ,H,I,h]]
theorem qQ(h1:QG X e t)(d:Pt X es u)(hs:(assignEach (e::es) X.env).map (·.2)=assign e X.env::(assignEach es X.env).map (·.2):=by rfl):Pt X (e::es) (uI t u):=#[by
 intro tx s σ H l m Q I r h;let#[v,n,j,h]:=h;subst j;cases r with
 |cons r rr=>
  rw[hs];refine assignInOrder_cons (qK (h1.h tx s σ H _ _ _ I r h) λ_ c g=>?_)
  let#[a,H1,f,i]:=g;exact d.h tx c a H1 _ _ Q f rr i]
inductive Py (K:ι) (n:Nat) (t:cW) (v:V) (σ:L2.St) (H:Hp) (Q:L2.St->Hp->Prop):Prop
 |mk (a:_) (xs:_) (h1:v= .ref a) (h2:HQ K H a xs) (h3:xs.length=n) (h4:t xs σ H Q)
noncomputable def uz(K:ι)(n:Nat)(t:cW):TG:=λv σ H Q=>Py K n t v σ H Q
theorem pV{es:Ι}{k:Nat}{t:cW}{n:Nat}(hc:X.calm=true)(h:CI X es t)
  (hn:(assignEach es X.env).length=n:=by rfl)(hst:(assignEach es X.env).findIdx? (·.1)=none:=by rfl):PG X (.Tuple es k pos) (uz X.K n t):=by
 intro tx s σ H v u Q I r c;let#[a,xs,m,l,p,c]:=c;subst m;cases r;let#[i,d,g,q]:=I.tuple l;refine assign_Tuple_tuple (I.ok.hd hc) g (by simp [hn,<- p,d.length]) hst λh' f=>?_
 have j:HL X tx σ H {s with heap:=h'}:=I.kept (t':=s.toks) λb o e=>f b o (Jx (Jl e)) e
 exact h tx _ σ H xs _ Q j (by simpa using d) c
noncomputable def EN(to a:TE)(t:rL):TG:=λv σ H Q=>to σ H λo H1=>a σ H1 λi c=>t o i v c λH3=>Q σ H3
theorem cD{to:TE}(ho:QE X o to)(hi:QE X i e)(hs:yd X t)(ha:∀v,assign (.Subscript o i pos) X.env v=(do
      let a <- holding [v] (eval o X.env)
      let d <- holding [v,a] (eval i X.env)
      standAt pos
      holding [v,a,d] (setItem a d v)
      release [v,a,d] []):=by intro _;rfl):QG X (.Subscript o i pos) (EN to e t):=#[by
  intro tx s σ H v u Q I r h;rw[ha];refine Ja (J5 (qK (ho.h tx s σ H _ I h) λa A c=>?_))
  let#[x,H1,q,w,z]:=c;refine Ja (J5 (qK (hi.h tx A σ H1 _ q z) λd f c=>?_))
  let#[y,n,m,g,l]:=c;refine Ja (FN (Ja (J5 (qK (hs tx f σ n x y v a d u _ m w g r l) λ_ B c=>?_))))
  let#[H3,p,j]:=c;exact wpAny_release #[σ,H3,p,j]]
noncomputable def uM(te:TE)(g:TG):TS:=λD σ H=>te σ H λx H1=>g x σ H1 D.nx
theorem Qy(c:QE X e te)(hg:QG X tg g)(hs:swapsWithSole [tg] e pos.line X.env=pure false:=by rfl)(a:swappedStores [tg] e X.env=pure none:=by rfl)(h1:(assignEach [tg] X.env).map (·.2)=[assign tg X.env]:=by rfl):QS X (.Assign [tg] e pos) (uM te g):=#[by
 intro tx s σ H D I h;refine wpAny_Assign_stores (qK (c.h tx s σ H _ I h) λv j f=>?_) hs a
 let#[x,H1,d,l,i]:=f;rw[h1];exact qK (hg.h tx j σ H1 x v _ d l i) λ_ m q=>q]
theorem qG(i:Nat)(a:X.N.Nodup)(d:QE X e te)(hi:X.N[i]? =↑x:=by rfl)(c:pJ X.env.scope x:=by first|exact .inl Z|exact .inr Z)(hs:swapsWith e ↑(.Name x pos') pos.line X.env=pure false:=by rfl)(g:X.fn x=true\/X.env.scope.names.lookup x=some .local:=by first|exact .inl Z|exact .inr Z|assumption):QS X (.Assign [.Name x pos'] e pos) (uM te (cX i)):=#[by
 intro tx s σ H D I h;refine wpAny_Assign_Name (qK (d.h tx s σ H _ I h) λv p l=>?_) hs
 let#[y,H1,j,n,m]:=l;exact a7 j a hi c n (λo f=>#[_,H1,f,m]) g]
noncomputable def CA(i j:Nat)(ta:TA):TS:=λD σ H=>ta σ H λa H1=>∃v w,a=[v,w]/\D.nx ((σ.set i ↑v).set j ↑w) H1
theorem Do{i j:Nat}{x y:Str}{a b:Φ}{ta:TA}{t m pt:Pos}{kt k2 pt2}(hc:X.calm=true)(u:X.N.Nodup)(hi:X.N[i]? =↑x)(M:X.N[j]? =↑y)(r:i≠j)
  (z:X.env.scope.names.lookup x=some .local)(B:X.env.scope.names.lookup y=some .local)(ha:PA X [a,b] ta)
  (C:swappedStores [.Tuple [.Name x t,.Name y m] kt pt] (.Tuple [a,b] k2 pt2) X.env=pure (some [x,y]))
  (hs:swapsWithSole [.Tuple [.Name x t,.Name y m] kt pt] (.Tuple [a,b] k2 pt2) pos.line X.env=pure false:=by rfl):
  PS X (.Assign [.Tuple [.Name x t,.Name y m] kt pt] (.Tuple [a,b] k2 pt2) pos) (CA i j ta):=by
 intro tx s σ H D I h;rw[exec_Assign_arm];refine Ja (FN ?_)
 rw[hs];refine Ja (Ji ?_)
 rw[Jc ⋯]
 refine Ja (Tuple_ (qK (ha _ tx s σ H _ I h) λK d E=>?_))
 let#[Q,H1,O,P,n]:=E;let#[v,w,L,n]:=n;subst L;let#[c,f,rfl,G,l]:∃c f,K=[c,f]/\HN v c/\HN w f:=by
  cases P with
  |cons p q=>
   cases q with
   |cons p' q'=>
    cases q'
    exact#[6,p,p']
 refine Ft ?_ (by show 2<=ζ;decide)
 have F:HL X tx σ H1 {d with heap:=d.heap.push {cls:= .type "tuple",data:= .seq [c,f].toArray}}:=O.kept (t':=d.toks) λb o e=>Jj _ e
 rw[C];refine Ja (Ji ?_)
 show ε (model X.prog X.w) X.A (do rule "assign.swapped-stores";let items <- unpackItems (-d.heap.objs.size) 2 none;assignInOrder [λv=>bindName X.env y v,λv=>bindName X.env x v] items.reverse;pure Flow.next) _ _ _
 refine Ja (FY (Ja (unpackItems_tuple (items:= (List.toArray [c,f])) (I.ok.hd hc) (IsTup.new d.heap _) λh' g=>?_)))
 have N:=F.kept (h':=h') (t':=d.toks) λb o e=>g b o (Jx (Jl e)) e
 show ε _ _ (assignInOrder [λv=>bindName X.env y v,λv=>bindName X.env x v] [f,c] >>= λ_=>pure Flow.next) _ _ _
 refine Ja (assignInOrder_cons (wpAny_bindName (a7 N u M (.inl B) l (λR J=>?_) (.inr B))))
 refine assignInOrder_cons (wpAny_bindName (a7 J u hi (.inl z) G (λS A=>assignInOrder_nil (Ji ?_)) (.inr z)))
 rw[List.set_comm _ _ (Ne.symm r)]at A
 exact#[_,H1,A,n]
noncomputable def Ei(to h te:TE)(a:V->V->Hp->VK->Prop)(d:Bh)(c:rL):TS:=λD σ H=>to σ H λo H1=>h σ H1 λi f=>a o i f λx H3=>te σ H3 λy g=>d x y g λz j=>c o i z j λe=>D.nx σ e
def Cv(X:Cx)(t:V->V->Hp->VK->Prop):Prop:=
 ∀(tx:HF) (s:Θ) (σ:St) (H:Hp) (o i:V) (c a:Γ) (Q:VK),HL X tx σ H s->HN o c->HN i a->t o i H Q->
  ε (model X.prog X.w) X.A (getItem c a) (EP X tx σ Q) X.xe s
theorem Bi{to:TE}(ho:QE X o to)(hi:QE X i n)(hg:Cv X d)(he:QE X e te)(hp:EE X r j)(hs:yd X c)(ha:∀f g new,augStore i f g new=(do holding [new,f,g] (setItem f g new);release [new,f,g] [];pure .next):=by intros;rfl):QS X (.AugAssign (.Subscript o i tpos) r e pos) (Ei to n te d j c):=#[by
 intro tx s σ H D I h;refine wpAny_AugAssign_SubscriptAny (qK (ho.h tx s σ H _ I h) λf C a=>?_) ha
 let#[m,H1,I1,t,P]:=a;refine qK (hi.h tx C σ H1 _ I1 P) λg T a=>?_
 let#[q,M,A,p,x]:=a;refine qK (hg tx T σ M m q f g _ A t p x) λl U a=>?_
 let#[F,H3,R,G,L]:=a;refine qK (he.h tx U σ H3 _ R L) λv O a=>?_
 let#[y,Q,B,u,W]:=a;refine qK (hp tx O σ Q F y l v _ B G u W) λnew K a=>?_
 let#[w,H5,z,S,J]:=a;exact qK (hs tx K σ H5 m q w f g new _ z t p S J) λ_ s6 ⟨Y,N,E⟩=>#[σ,Y,N,E]]
noncomputable def Fg(f:Int->Int->Int):Bh:=λx y H Q=>∃i j,x= .int i/\y= .int j/\Q (.int (f i j)) H
theorem Cp:EE X .Add (Fg λi j=>i+j):=by
 intro tx s σ H x y v u Q I e c h;let#[i,j,d,a,q]:=h;subst d;subst a
 let#[t,rfl]:=e;let#[f,rfl]:=c;exact iadd_int #[.int _,H,I.tok _,#[0],q]
inductive O8 (c:TT) (tb:TS) (D:Lr) (σ:L2.St) (H:Hp):Prop
 |mk (W:Nat->St->Hp->Prop) (h1:(∃m,W m σ H)) (h2:∀m σ H,W m σ H->c σ H λb H1=>if b=true then∃N:St->Hp->Prop,(∀σ' H',N σ' H'->∃m',m'<m/\W m' σ' H')/\tb {D with nx:=N,ct:=N,bk:=D.nx} σ H1 else D.nx σ H1)
noncomputable def vP(c:TT)(tb:TS):TS:=λD σ H=>O8 c tb D σ H
theorem Af{c:Φ}{e:List δ}{tc:TT}{tb:TS}(hp:PassesOwn (model X.prog X.w) X.A X.env X.xe)(hc:PT X c tc)(hb:O7 X e tb):PS X (.While c e [] pos) (vP tc tb):=by
 intro tx s σ H D I h;let#[W,#[B,x],turn]:=h;refine wpAny_While (codeAny_whileLoop (λn s'=>∃g H',HL X tx g H' s'/\W n g H') ?_ B #[σ,H,I,x])
 rintro n w ⟨d,H1,A,y⟩
 refine FZ hp (qK (hc tx w d H1 _ A (turn n d H1 y)) λb z u=>?_)
 let#[t,r,i]:=u;cases b with
 |true=>
  let#[N,q,i]:=i;rw[Jd Z];refine FZ hp (qK (hb tx z d t _ r i) λf C j=>?_)
  cases f with
  |next=>
   let#[a,H3,p,o]:=j;let#[m',l,m]:=q a H3 o
   exact#[m',l,a,H3,p,m]
  |cont=>
   let#[a,H3,p,o]:=j;let#[m',l,m]:=q a H3 o
   exact#[m',l,a,H3,p,m]
  |brk=>exact j
  |ret v=>exact j
 |false=>
  rw[Jc JH];exact Gd #[d,t,r,i]
end
structure It where
 go:Nat->Hp->Prop
 yld:Nat->Hp->V->Hp->Prop
 stop:Nat->Hp->Prop
def am(X:Cx)(tx:HF)(H:Hp)(b:Δ):Prop:=
 H b=none/\b≠X.env.locals/\b∉X.fs/\(b∈X.ex\/X.s₀.heap.objs.size<=b)/\(∀x c,X.env.cells.lookup x=↑c->c≠b)/\∀p∈X.pn++tx,p.1≠b
theorem HL.fpOk{b:Δ}(I:HL X tx σ H s)(hb:s.heap.objs.size<=b)(hn:H' b=none):am X tx H' b:=by
 refine#[hn,J2 (JO I.lt hb),I.nofs hb,.inr (JI I.sz hb),λx c e z=>?_,λp a z=>?_]
 .let#[v,q]:=I.cell x c e
  exact absurd (JO q.lt (by rw[z];exact hb)) (J4 _)
 .exact absurd (JO (Jl (I.pin p a).1) (by rw[z];exact hb)) (J4 _)
structure MM(P:Ξ)(w:Ω)(K:ι)(tg:Φ)(J:It)(fp:Η)(it:Δ)(tn:Nat->Ψ->Prop):Prop where
 mem:it∈fp
 obj:∀i h,tn i h->∀b∈fp,∃o,h.get? b=↑o/\∀v,o.data≠ .cell v
 keep:∀i h h',tn i h->(∀b∈fp,∀o,h.get? b=↑o->h'.get? b=↑o)->tn i h'
 item:∀(X:Cx),X.prog=P->X.w=w->X.K=K->X.calm=true->∀(i:Nat) (tx:HF) (s:Θ) (σ:St) (H:Hp) (E:HD),HL X tx σ H s->(∀b∈fp,am X tx H b)->tn i s.heap->J.go i H->
  ε (model P w) X.A (pyNext (-it)) (λr s1=>∃u,r=↑u/\
   ε (model P w) X.A (letOwnedTupleGo tg (-it) u) (λ_ s2=>∃x H',HL X tx σ H' s2/\HN x u/\J.yld i H x H'/\tn (i+1) s2.heap/\∀b∈fp,H' b=none) E s1) E s
 done:∀(X:Cx),X.prog=P->X.w=w->X.K=K->X.calm=true->∀(i:Nat) (tx:HF) (s:Θ) (σ:St) (H:Hp) (E:HD),HL X tx σ H s->(∀b∈fp,am X tx H b)->tn i s.heap->J.stop i H->
  ε (model P w) X.A (pyNext (-it)) (λr s1=>r=none/\HL X tx σ H s1) E s
 self:∀(A:Around) (i:Nat) (s:Θ) (Q:HD) (E:HD),tn i s.heap->Q (-it) s->ε (model P w) A (pyIter (-it)) Q E s
abbrev TI:=St->Hp->(It->Hp->Prop)->Prop
def EG(X:Cx)(tx:HF)(σ:St)(tg:Φ)(R:It->Hp->Prop)(a:Γ)(d:Θ):Prop:=
 ∃(c:Δ) (e:Η) (tn:Nat->Ψ->Prop) (J:It) (H':Hp),a= .ref c/\HL X tx σ H' d/\MM X.prog X.w X.K tg J e c tn/\tn 0 d.heap/\(∀b∈e,am X tx H' b)/\R J H'
def PI(X:Cx)(tg a:Φ)(d:TI):Prop:=
 ∀(tx:HF) (s:Θ) (σ:St) (H:Hp) (R:It->Hp->Prop),HL X tx σ H s->d σ H R->
  ε (model X.prog X.w) X.A (eval a X.env) (λv c=>ε (model X.prog X.w) X.A (pyIter v) (EG X tx σ tg R) X.xe c) X.xe s
structure QI(X:Cx)(tg e:Φ)(t:TI):Prop where
 h:PI X tg e t
theorem gw{M:Model}{A:Around}{E:HD}{s:Θ}{tg:Φ}{it:Δ}{u:Γ}{o:Obj}{n:String}{vs:Array Γ}{Q:Unit->Θ->Prop}(ho:s.heap.get? it=↑o)(hc:o.cls= .type n)(c:o.data= .fields vs)
    (hn:["enumerate","zip","dict_itemiterator","dict_reverseitemiterator","odict_iterator","itertools.zip_longest","itertools.pairwise"].contains n=false)(a:Q () s):ε M A (letOwnedTupleGo tg (-it) u) Q E s:=by
  unfold letOwnedTupleGo;cases tg<;>first
    |exact Ji a
    |(cases u<;>first
        |exact Ji a
        | (refine Ja (wpAny_load ho ?_)
           rw[hc,c]
           show ε M A (if(["enumerate","zip","dict_itemiterator","dict_reverseitemiterator","odict_iterator","itertools.zip_longest","itertools.pairwise"].contains n&&vs[0]? ==↑(rawInt _))=true then _ else _) Q E s
           rw[Jc (by intro h;rw[hn,Fx]at h;cases h)]
           exact Ji a))
noncomputable def jy(K:ι)(a:Δ):It:=
 ⟨λi H=>∃xs x,HP K H a xs/\xs[i]? =↑x,λi H x H'=>H'=H/\∀xs,HP K H a xs->xs[i]? =↑x,λi H=>∃xs,HP K H a xs/\xs.length<=i⟩
noncomputable def gZ(K:ι)(a:Δ):It:=
 ⟨λi H=>∃xs x,HQ K H a xs/\xs[i]? =↑x,λi H x H'=>H'=H/\∀xs,HQ K H a xs->xs[i]? =↑x,λi H=>∃xs,HQ K H a xs/\xs.length<=i⟩
noncomputable def pB(lo:Int)(n:Nat):It:=⟨λi _=>i<n,λi H x H'=>H'=H/\x= .int (lo+i),λi _=>n<=i⟩
theorem nr{P:Ξ}{w:Ω}{K:ι}{tg:Φ}(a it:Δ):MM P w K tg (jy K a) [it] it (λi h=>h.IsListIter it a i) where
 mem:=by simp
 obj:=λi h st b f=>by
  have e:b=it:=by simpa using f
  subst e;let#[o,e,c,d]:=st
  exact#[o,e,λv z=>by rw[d]at z;cases z]
 keep:=λi h h' st k=>st.at λo e=>k it (by simp) o e
 item:=by
  intro X q m B G i tx s σ H E I j st y;subst q m B;let#[xs,x,l,n]:=y;let#[t,A,p,J]:=I.list l;let#[u,O,N]:=A.get n;let#[r,f1,f2,F,C,D]:=j it (by simp)
  refine wpAny_pyNext_list_item st p.isList (x:=u) (by simpa using O) λh' g L=>?_
  have Q:HL X tx σ H {s with heap:=h'}:=I.turned (t':=s.toks) (λb o f e=>(L.2 b f).trans e) r f1 F C D
  let#[o,e,c,d]:=id g
  exact#[u,Z,gw (s:={s with heap:=h'}) e c d ⋯ #[x,H,Q,N,#[Z,λys R=>by rw[I.list_inj R l];exact n],g,λb f=>(j b f).1]]
 done:=by
  intro X q m B G i tx s σ H E I j st y;subst q m B;let#[xs,l,n]:=y;let#[t,A,p,J]:=I.list l;let#[r,f1,f2,F,C,D]:=j it (by simp)
  have S:=A.length;exact wpAny_pyNext_list_end (I.ok.hd G) st p.isList (by simp;lia) λh' M=>#[Z,I.turned (t':=s.toks) (λb o f e=>M b o f e) r f1 F C D]
 self:=λ_ _ _ _ _ st h=>wpAny_pyIter_listiter st h
theorem kh{P:Ξ}{w:Ω}{K:ι}{tg:Φ}(a it:Δ):MM P w K tg (gZ K a) [it] it (λi h=>h.IsTupleIter it a i) where
 mem:=by simp
 obj:=λi h st b g=>by
  have e:b=it:=by simpa using g
  subst e;let#[o,e,c,d]:=st
  exact#[o,e,λv z=>by rw[d]at z;cases z]
 keep:=λi h h' st k=>st.at λo e=>k it (by simp) o e
 item:=by
  intro X r n B G i tx s σ H E I l st y;subst r n B;let#[xs,x,m,q]:=y;let#[f,A,p,J]:=I.tuple m;let#[u,O,N]:=A.get q;let#[t,f1,f2,F,C,D]:=l it (by simp)
  refine wpAny_pyNext_tuple_item st (show s.heap.IsTuple a f.toArray from p) (x:=u) (by simpa using O) λh' j L=>?_
  have Q:HL X tx σ H {s with heap:=h'}:=I.turned (t':=s.toks) (λb o g e=>(L.2 b g).trans e) t f1 F C D
  let#[o,e,c,d]:=id j
  exact#[u,Z,gw (s:={s with heap:=h'}) e c d ⋯ #[x,H,Q,N,#[Z,λys R=>by rw[I.tuple_inj R m];exact q],j,λb g=>(l b g).1]]
 done:=by
  intro X r n B G i tx s σ H E I l st y;subst r n B;let#[xs,m,q]:=y;let#[f,A,p,J]:=I.tuple m;let#[t,f1,f2,F,C,D]:=l it (by simp)
  have S:=A.length;exact wpAny_pyNext_tuple_end (I.ok.hd G) st (show s.heap.IsTuple a f.toArray from p) (by simp;lia) λh' M=>#[Z,I.turned (t':=s.toks) (λb o g e=>M b o g e) t f1 F C D]
 self:=λ_ _ _ _ _ st h=>wpAny_pyIter_tupleiter st h
theorem tR{P:Ξ}{w:Ω}{K:ι}{tg:Φ}(it:Δ)(lo:Int)(n:Nat):MM P w K tg (pB lo n) [it] it (λi h=>IsRangeIter h it (lo+(i:Nat)*1) ((n:Int)-(i:Nat)) 1) where
 mem:=by simp
 obj:=λi h st b a=>by
  have e:b=it:=by simpa using a
  subst e
  exact#[_,st,λv z=>by
   have B:Data.fields _=Data.cell v:=z
   cases B]
 keep:=λi h h' st k=>k it (by simp) _ st
 item:=by
  intro X j f p q i tx s σ H E I d st m;subst j f p;let#[g,f1,f2,r,u,l]:=d it (by simp)
  have W:=Walks.range (prog:=X.prog) (w:=X.w) (I.ok.hd q) it lo 1 n
  refine W.item i s _ _ m st λv h' tk y c kk=>?_
  let#[t,rfl]:=y;have A:HL X tx σ H {s with heap:=h',toks:=tk}:=I.turned (λb o a e=>kk b o (by simpa using a) e) g f1 r u l
  refine#[0,gw (s:={s with heap:=h',toks:=tk}) (n:="range_iterator") c Z Z ⋯ #[.int (lo+i),H,A,#[t,?_],#[12],c,λb a=>(d b a).1]]
  rw[Int.mul_one]
 done:=by
  intro X j f p q i tx s σ H E I d st m;subst j f p;let#[g,f1,f2,r,u,l]:=d it (by simp)
  exact wpAny_pyNext_range_end (I.ok.hd q) st (by have:n<=i:=m;lia) λh' x=>#[Z,I.turned (t':=s.toks) (λb o a e=>x b o a e) g f1 r u l]
 self:=λ_ _ _ _ _ st h=>IE st h
section
noncomputable def DS(K:ι)(tl:TE):TI:=λσ H R=>tl σ H λx H1=>∃a,x= .ref a/\(∃xs,HP K H1 a xs)/\R (jy K a) H1
noncomputable def EK(K:ι)(tl:TE):TI:=λσ H R=>tl σ H λx H1=>∃a,x= .ref a/\(∃xs,HQ K H1 a xs)/\R (gZ K a) H1
theorem lN(n:QE X l tl):QI X tg l (DS X.K tl):=#[by
 intro tx s σ H R I h;refine qK (n.h tx s σ H _ I h) λv c g=>?_
 let#[x,H1,d,m,i]:=g;let#[a,e,#[xs,j],q]:=i;subst e;cases m;let#[f,u,p,t]:=d.list j;refine GC p.isList ?_
 refine#[c.heap.objs.size,[c.heap.objs.size],8,H1,Z,d.kept (t':=c.toks) λb o e=>Jj _ e,nr a _,#[_,Ju _ Z,12],λb r=>?_,q]
 have e:b=c.heap.objs.size:=by simpa using r
 subst e;exact d.fpOk (Jf _) (d.hok.fresh (Jf _))]
theorem lC(n:QE X l tl):QI X tg l (EK X.K tl):=#[by
 intro tx s σ H R I h;refine qK (n.h tx s σ H _ I h) λv c g=>?_
 let#[x,H1,d,m,i]:=g;let#[a,e,#[xs,j],q]:=i;subst e;cases m;let#[f,u,p,t]:=d.tuple j;refine FO (show c.heap.IsTuple a f.toArray from p) ?_
 refine#[c.heap.objs.size,[c.heap.objs.size],8,H1,Z,d.kept (t':=c.toks) λb o e=>Jj _ e,kh a _,#[_,Ju _ Z,12],λb r=>?_,q]
 have e:b=c.heap.objs.size:=by simpa using r
 subst e;exact d.fpOk (Jf _) (d.hok.fresh (Jf _))]
theorem xh{tx:HF}{σ:St}{H:Hp}{s:Θ}{R:It->Hp->Prop}{E:HD}{lo hi:Int}{t u v:Tok}{tk:Nat}(I:HL X tx σ H s)(h1: -(2 ^ 62)<=lo)(d:lo<2 ^ 62)(f: -(2 ^ 62)<=hi)(i:hi<2 ^ 62)
  (q:R (pB lo (hi-lo).toNat) H):ε (model X.prog X.w) X.A (pyIter (-s.heap.objs.size)) (EG X tx σ tg R) E {s with heap:=s.heap.push {cls:= .type "range",data:= .fields (List.toArray [.int lo t,.int hi u,.int 1 v])},toks:=tk}:=by
 refine wpAny_pyIter_range (IsRange.new ..) (small_one h1 d f i) ?_
 have a:HL X tx σ H {s with heap:=s.heap.push {cls:= .type "range",data:= .fields (List.toArray [.int lo t,.int hi u,.int 1 v])},toks:=tk}:=I.kept λb o e=>Jj _ e
 refine#[(s.heap.push {cls:= .type "range",data:= .fields (List.toArray [.int lo t,.int hi u,.int 1 v])}).objs.size,[(s.heap.push {cls:= .type "range",data:= .fields (List.toArray [.int lo t,.int hi u,.int 1 v])}).objs.size],8,H,Z,
  a.kept (t':=tk) λb o e=>Jj _ e,tR _ lo (hi-lo).toNat,?_,λb h=>?_,q]
 .have g:lo+((0:Nat):Int)*1=lo:=by simp
  have c:(((hi-lo).toNat:Nat):Int)-((0:Nat):Int)=γ.Range.rangeSize lo hi 1:=by rw[rangeSize_one];split<;>lia
  show IsRangeIter _ _ (lo+((0:Nat):Int)*1) ((((hi-lo).toNat:Nat):Int)-((0:Nat):Int)) 1
  rw[g,c];exact Ju _ Z
 .have e:b=(s.heap.push {cls:= .type "range",data:= .fields (List.toArray [.int lo t,.int hi u,.int 1 v])}).objs.size:=by simpa using h
  subst e;exact a.fpOk (Jf _) (a.hok.fresh (Jf _))
noncomputable def DW(ta:TA):TI:=λσ H R=>ta σ H λa H1=>∃j:Int,a=[.int j]/\ -(2 ^ 62)<=j/\j<2 ^ 62/\R (pB 0 j.toNat) H1
theorem Zq(hg:Gl X "range")(hm:X.mg "range"=none)(ha:QA X [a] ta)(hs:θ [a] X.env=[(false,eval a X.env)]:=by rfl):QI X tg (.Call (.Name "range" p) [a] [] pos) (DW ta):=#[by
 intro tx s σ H R I h;refine Call_ (bJ I hg hm boot_range (Ge (qK (ha.h pos tx s σ H _ I h) λn l g=>?_) hs Z))
 let#[m,H1,d,i,c]:=g;let#[j,e,c,f,q]:=c;subst e;cases i with
 |cons r rr=>
  cases rr;let#[t,rfl]:=r;exact call_range_1 (xh d (by lia) (by lia) c f (by simpa using q))]
noncomputable def yb(d:TI)(g:TG)(tb:TS):TS:=λD σ H=>d σ H λJ H1=>∃W:Nat->Nat->St->Hp->Prop,(∃m,W 0 m σ H1)/\∀i m σ H,W i m σ H->
 (J.stop i H/\D.nx σ H)\/(J.go i H/\∃N:St->Hp->Prop,(∀a H',N a H'->∃m',m'<m/\W (i+1) m' a H')/\∀x H',J.yld i H x H'->g x σ H' λc e=>tb {D with nx:=N,ct:=N,bk:=D.nx} c e)
noncomputable def kZ(a:Η)(h:Ψ):List (Δ×Obj):=a.filterMap λb=>(h.get? b).map λo=>(b,o)
theorem fQ{b:Δ}(hb:b∈a)(e:h.get? b=↑o):(b,o)∈kZ a h:=List.mem_filterMap.mpr #[b,hb,by rw[e];rfl]
theorem vq(hp:p∈kZ a h):p.1∈a/\h.get? p.1=↑p.2:=by
 let#[b,d,e]:=List.mem_filterMap.mp hp;cases q:h.get? b with
 |none=>rw[q]at e;cases e
 |some o=>
  rw[q]at e;have c:(b,o)=p:=JF e
  subst c
  exact#[d,q]
theorem HL.pinned(I:HL X tx σ H s)(h:∀b∈a,am X tx H b)(ho:∀b∈a,∃o,s.heap.get? b=↑o/\∀v,o.data≠ .cell v):HL X (tx++kZ a s.heap) σ H s:=
 I.pins_of λp i=>(Jw.mp i).elim (λz=>I.pin p (FG _ z)) λz=>by
  let#[f,e]:=vq z;let#[g,f1,f2,_]:=h p.1 f;let#[o,c,d]:=ho p.1 f;rw[e]at c;cases c
  exact#[e,g,f1,f2,d]
theorem HL.unpinned(I:HL X (tx++pl) σ H s):HL X tx σ H s:=I.pins_of λp a=>I.pin p (FG _ (ID _ a))
theorem CZ{w:Φ}{y:List δ}{U:TI}{g:TG}{tb:TS}{pos:Pos}(hp:PassesOwn (model X.prog X.w) X.A X.env X.xe)(hc:X.calm=true)(hi:PI X tg w U)(hg:PG X tg g)(hb:O7 X y tb)
  (hs:∀x,foldedSetIterable w X.env x=pure x:=by intro _;rfl):PS X (.For tg w y [] pos) (yb U g tb):=by
 intro tx s σ H D I h;refine wpAny_For (qK (hi tx s σ H _ I h) λv s1 h1=>qK h1 λa0 s2 h2=>?_) hs
 let#[it,F,tn,J,H2,e,I2,T,R,f2,W,#[m0,w0],turn]:=h2;subst e;have q:∀{H':Hp},(∀b∈F,H' b=none)->∀b∈F,am X tx H' b:=λhn b hb=>#[hn b hb,(f2 b hb).2]
 refine codeAny_forLoop_any (λn s'=>∃i p H',HL X tx p H' s'/\tn i s'.heap/\(∀b∈F,H' b=none)/\W i n p H') ?_ m0 #[(0),σ,H2,I2,R,λb hb=>(f2 b hb).1,w0]
 rintro n s3 ⟨i,l,H3,Y,E,K,w3⟩
 rcases turn i n l H3 w3 with⟨C,qn⟩|⟨go,N,hN,step⟩
 .refine FZ hp (qK (T.done X Z Z Z hc i tx s3 l H3 X.xe Y (q K) E C) λr s4 A=>?_)
  let#[L,I4]:=A;subst L;exact Gd #[l,H3,I4,qn]
 .refine FZ hp (qK (T.item X Z Z Z hc i tx s3 l H3 X.xe Y (q K) E go) λr s4 A=>?_)
  let#[u,L,h4]:=A;subst L;refine FZ hp (qK h4 λ_ S A=>?_)
  let#[x,H5,I5,r5,y5,B,O]:=A;have Q:=I5.pinned (q O) (T.obj _ _ B);refine FZ hp (qK (hg _ S l H5 x u _ Q r5 (step x H5 y5)) λ_ s6 A=>?_)
  let#[M,H6,I6,q6]:=A;refine FZ hp (qK (hb _ s6 M H6 _ I6 q6) λf P z=>?_)
  have t:∀{a:St} {j:Hp},HL X (tx++kZ F S.heap) a j P->N a j->∃m,m<n/\∃i p H',HL X tx p H' P/\tn i P.heap/\(∀b∈F,H' b=none)/\W i m p H':=λ{a j} c G=>by
   let#[m',hm,w7]:=hN a j G;refine#[m',hm,i+1,a,j,c.unpinned,T.keep _ _ _ B λb hb o e=>(c.pin (b,o) (FG _ (FG _ (fQ hb e)))).1,λb hb=>?_,w7]
   let#[o,e,d]:=T.obj _ _ B b hb
   exact(c.pin (b,o) (FG _ (FG _ (fQ hb e)))).2.1
  cases f with
  |next=>let#[a,j,c,G]:=z;exact t c G
  |cont=>let#[a,j,c,G]:=z;exact t c G
  |brk=>let#[a,j,c,z]:=z;exact#[a,j,c.unpinned,z]
  |ret v=>let#[x7,a,j,c,r7,z]:=z;exact#[x7,a,j,c.unpinned,r7,z]
end
theorem ke{K:ι}{g:TG}{tb:TS}{D:Lr}(Pv:Nat->St->Hp->Prop)(n:Pv 0 σ H)(o:∀i σ H,i<=xs.length->Pv i σ H->HP K H a xs)(hs:∀i x σ H,xs[i]? =↑x->Pv i σ H->g x σ H λc h=>tb {D with nx:=Pv (i+1),ct:=Pv (i+1),bk:=D.nx} c h)(j:∀σ H,Pv xs.length σ H->D.nx σ H):
  ∃W:Nat->Nat->St->Hp->Prop,(∃m,W 0 m σ H)/\∀i m σ H,W i m σ H->
   ((jy K a).stop i H/\D.nx σ H)\/((jy K a).go i H/\∃N:St->Hp->Prop,(∀d H',N d H'->∃m',m'<m/\W (i+1) m' d H')/\∀x H',(jy K a).yld i H x H'->g x σ H' λc h=>tb {D with nx:=N,ct:=N,bk:=D.nx} c h):=by
 exists λi m σ H=>m=xs.length-i/\i<=xs.length/\Pv i σ H,#[xs.length,by simp,JL _,n]
 rintro i m σ H ⟨rfl,hi,p⟩
 have q:=o i σ H hi p
 by_cases f:i<xs.length
 .refine .inr #[#[xs,xs[i],q,by simp [f]],Pv (i+1),λd H' l=>#[xs.length-(i+1),by lia,Z,f,l],λx H' y=>?_]
  let#[e,y]:=y;subst e;exact hs i x σ _ (y xs q) p
 .have e:i=xs.length:=by lia
  subst e;exact .inl #[#[xs,q,Jf _],j σ H p]
theorem lY{K:ι}{g:TG}{tb:TS}{D:Lr}(Pv:Nat->St->Hp->Prop)(n:Pv 0 σ H)(o:∀i σ H,i<=xs.length->Pv i σ H->HQ K H a xs)(hs:∀i x σ H,xs[i]? =↑x->Pv i σ H->g x σ H λc h=>tb {D with nx:=Pv (i+1),ct:=Pv (i+1),bk:=D.nx} c h)(j:∀σ H,Pv xs.length σ H->D.nx σ H):
  ∃W:Nat->Nat->St->Hp->Prop,(∃m,W 0 m σ H)/\∀i m σ H,W i m σ H->
   ((gZ K a).stop i H/\D.nx σ H)\/((gZ K a).go i H/\∃N:St->Hp->Prop,(∀d H',N d H'->∃m',m'<m/\W (i+1) m' d H')/\∀x H',(gZ K a).yld i H x H'->g x σ H' λc h=>tb {D with nx:=N,ct:=N,bk:=D.nx} c h):=by
 exists λi m σ H=>m=xs.length-i/\i<=xs.length/\Pv i σ H,#[xs.length,by simp,JL _,n]
 rintro i m σ H ⟨rfl,hi,p⟩
 have q:=o i σ H hi p
 by_cases f:i<xs.length
 .refine .inr #[#[xs,xs[i],q,by simp [f]],Pv (i+1),λd H' l=>#[xs.length-(i+1),by lia,Z,f,l],λx H' y=>?_]
  let#[e,y]:=y;subst e;exact hs i x σ _ (y xs q) p
 .have e:i=xs.length:=by lia
  subst e;exact .inl #[#[xs,q,Jf _],j σ H p]
theorem bO{lo:Int}{g:TG}{tb:TS}{D:Lr}(Pv:Nat->St->Hp->Prop)(l:Pv 0 σ H)(hs:∀i σ H,i<n->Pv i σ H->g (.int (lo+i)) σ H λa f=>tb {D with nx:=Pv (i+1),ct:=Pv (i+1),bk:=D.nx} a f)(h:∀σ H,Pv n σ H->D.nx σ H):
  ∃W:Nat->Nat->St->Hp->Prop,(∃m,W 0 m σ H)/\∀i m σ H,W i m σ H->
   ((pB lo n).stop i H/\D.nx σ H)\/((pB lo n).go i H/\∃N:St->Hp->Prop,(∀c H',N c H'->∃m',m'<m/\W (i+1) m' c H')/\∀x H',(pB lo n).yld i H x H'->g x σ H' λa f=>tb {D with nx:=N,ct:=N,bk:=D.nx} a f):=by
 exists λi m σ H=>m=n-i/\i<=n/\Pv i σ H,#[n,by simp,JL _,l]
 rintro i m σ H ⟨rfl,hi,p⟩
 by_cases d:i<n
 .refine .inr #[d,Pv (i+1),λc H' j=>#[n-(i+1),by lia,Z,d,j],λx H' y=>?_]
  let#[e,y]:=y;subst e y;exact hs i σ _ d p
 .have e:i=n:=by lia
  subst e;exact .inl #[Jf _,h σ H p]
abbrev R2:=V->V->Hp->VK->Prop
def Qq(X:Cx)(f:Γ->Γ->Sem Γ)(r:R2):Prop:=
 ∀(tx:HF) (s:Θ) (σ:St) (H:Hp) (x y:V) (v u:Γ) (Q:VK),HL X tx σ H s->HN x v->HN y u->r x y H Q->
  ε (model X.prog X.w) X.A (f v u) (EP X tx σ Q) X.xe s
def Dc(X:Cx)(f:Γ->Sem Γ)(r:V->Hp->VK->Prop):Prop:=
 ∀(tx:HF) (s:Θ) (σ:St) (H:Hp) (x:V) (v:Γ) (Q:VK),HL X tx σ H s->HN x v->r x H Q->
  ε (model X.prog X.w) X.A (f v) (EP X tx σ Q) X.xe s
def Qh(X:Cx)(f:Γ)(r:Β->Hp->VK->Prop):Prop:=
 ∀(tx:HF) (s:Θ) (σ:St) (H:Hp) (xs:Β) (a:Ζ) (Q:VK),HL X tx σ H s->HR xs a->r xs H Q->
  ε (model X.prog X.w) X.A (call f a) (EP X tx σ Q) X.xe s
noncomputable def AR(r:R2)(ta tb:TE):TE:=λσ H Q=>ta σ H λx H1=>tb σ H1 λy a=>r x y a Q
noncomputable def Fk(r:V->Hp->VK->Prop)(ta:TE):TE:=λσ H Q=>ta σ H λx H1=>r x H1 Q
inductive Rb (C:Int->Int->Prop) (g:Int->Int->V) (x:V) (y:V) (H:Hp) (Q:VK):Prop
 |mk (i:_) (j:_) (h1:x= .int i) (h2:y= .int j) (h3:C i j) (h4:Q (g i j) H)
noncomputable def rI(C:Int->Int->Prop)(g:Int->Int->V):R2:=λx y H Q=>Rb C g x y H Q
inductive P0 (g:Int->Int->V) (x:V) (y:V) (H:Hp) (Q:VK):Prop
 |mk (i:_) (j:_) (h1:x= .int i) (h2:y= .int j) (h3:Q (g i j) H)
noncomputable def nR(g:Int->Int->V):R2:=λx y H Q=>P0 g x y H Q
inductive Rc (g:Int->V) (x:V) (H:Hp) (Q:VK):Prop
 |mk (i:_) (h1:x= .int i) (h2:Q (g i) H)
def rU(g:Int->V):V->Hp->VK->Prop:=λx H Q=>Rc g x H Q
section
variable{b:Φ}
theorem wR(ha:PE X a ta)(hb:PE X b tb){tx:HF}{s:Θ}{σ:St}{H:Hp}{R:V->V->Hp->Prop}(I:HL X tx σ H s)
  (h:ta σ H λx H1=>tb σ H1 λy c=>R x y c){Q:HD}{f:Γ->Γ->Sem Γ}
  (l:∀v u g x y c,HL X tx σ c g->HN x v->HN y u->R x y c->ε (model X.prog X.w) X.A (f v u) Q X.xe g):
  ε (model X.prog X.w) X.A (eval a X.env) (λv d=>ε (model X.prog X.w) X.A (eval b X.env) (λu e=>ε (model X.prog X.w) X.A (f v u) Q X.xe e) X.xe d) X.xe s:=by
 refine qK (ha tx s σ H _ I h) λv q i=>?_
 let#[x,H1,n,r,p]:=i;refine qK (hb tx q σ H1 _ n p) λu g i=>?_
 let#[y,c,o,j,m]:=i;exact l v u g x y c o r j m
theorem qF{b:Φ}(ho:Qq X (binaryOp c) r)(ha:QE X a ta)(hb:QE X b tb):QE X (.BinOp a c b pos) (AR r ta tb):=#[by
 intro tx s σ H Q I h;exact wpAny_BinOp (wR ha.h hb.h I h λv u e x y g i d f q=>ho tx e σ g x y v u Q i d f q)]
theorem om(ho:Dc X (unaryOp c) r)(ha:QE X a ta):QE X (.UnaryOp c a pos) (Fk r ta):=#[by
 intro tx s σ H Q I h;exact UnaryOp_ (qK (ha.h tx s σ H _ I h) λv f ⟨x,H1,d,g,e⟩=>ho tx f σ H1 x v Q d g e)]
theorem AW{f:Γ->Γ->Sem Γ}{C:Int->Int->Prop}{g:Int->Int->Int}
  (a:∀(i j:Int) (t u:Tok) (s:Θ) (Q:HD) (E:HD),C i j->Q (.int (g i j) s.toks) {s with toks:=s.toks+1}->ε (model X.prog X.w) X.A (f (.int i t) (.int j u)) Q E s):
  Qq X f (rI C λi j=> .int (g i j)):=by
 intro tx s σ H x y v u Q I c d h;let#[i,j,rfl,rfl,e,q]:=h;let#[t,rfl]:=c;let#[l,rfl]:=d;exact a i j t l s _ _ e #[.int (g i j),H,I.tok _,#[0],q]
theorem CJ{f:Γ->Γ->Sem Γ}{g:Int->Int->Int}
  (a:∀(i j:Int) (t u:Tok) (s:Θ) (Q:HD) (E:HD),Q (.int (g i j) s.toks) {s with toks:=s.toks+1}->ε (model X.prog X.w) X.A (f (.int i t) (.int j u)) Q E s):
  Qq X f (nR λi j=> .int (g i j)):=by
 intro tx s σ H x y v u Q I c d h;let#[i,j,rfl,rfl,q]:=h;let#[t,rfl]:=c;let#[e,rfl]:=d;exact a i j t e s _ _ #[.int (g i j),H,I.tok _,#[0],q]
theorem ui{f:Γ->Γ->Sem Γ}{g:Int->Int->Bool}
  (a:∀(i j:Int) (t u:Tok) (s:Θ) (Q:HD) (E:HD),Q (.bool (g i j)) s->ε (model X.prog X.w) X.A (f (.int i t) (.int j u)) Q E s):
  Qq X f (nR λi j=> .bl (g i j)):=by
 intro tx s σ H x y v u Q I c d h;let#[i,j,rfl,rfl,q]:=h;let#[t,rfl]:=c;let#[e,rfl]:=d;exact a i j t e s _ _ #[.bl (g i j),H,I,Z,q]
def E7(i j:Int):Prop:=0<j/\j<1073741824
def EU(i j:Int):Prop:=0<=j/\j<=1000000/\i.natAbs<2 ^ 64
def Pk(i j:Int):Prop:=(-(2 ^ 64)<i/\i<2 ^ 64)\/(-(2 ^ 64)<j/\j<2 ^ 64)
theorem Pk.ok{i j:Int}(h:Pk i j):IntMulOk i j:=by
 rcases h with⟨h1,a⟩|⟨h1,a⟩
 .exact .of_left (intBits_le_64 h1 a)
 .exact .of_right (intBits_le_64 h1 a)
theorem zt:Qq X (binaryOp .Add) (nR λi j=> .int (i+j)):=CJ λ_ _ _ _ _ _ _ q=>add_int q
theorem QU:Qq X (binaryOp .Sub) (nR λi j=> .int (i-j)):=CJ λ_ _ _ _ _ _ _ q=>sub_int q
theorem ZY:Qq X (binaryOp .Mult) (rI Pk λi j=> .int (i*j)):=AW λ_ _ _ _ _ _ _ a q=>mul_int q a.ok
theorem cA:Qq X (binaryOp .FloorDiv) (rI E7 λi j=> .int (i/j)):=AW λi j _ _ _ _ _ a q=>by
 have h1:(0:Int)<j:=a.1
 have c:j<1073741824:=a.2
 exact floordiv_int (by lia) (by rw[Int.fdiv_eq_ediv_of_nonneg i (by lia)];exact q) (.inl (PyProof.noPylong_small (by lia)))
theorem QC:Qq X (binaryOp .Mod) (rI (λ_ j=>0<j) λi j=> .int (i%j)):=AW λi j _ _ _ _ _ a q=>by
 have h1:(0:Int)<j:=a
 exact mod_int' (by lia) (by rw[Int.fmod_eq_emod_of_nonneg i (by lia)];exact q)
theorem CM:Qq X (binaryOp .Pow) (rI EU λi j=> .int (i ^ j.toNat)):=AW λ_ _ _ _ _ _ _ a q=>pow_int_small a.1 a.2.1 a.2.2 q
theorem Fh{f:Γ->Sem Γ}{g:Int->Int}
  (a:∀(i:Int) (t:Tok) (s:Θ) (Q:HD) (E:HD),Q (.int (g i) s.toks) {s with toks:=s.toks+1}->ε (model X.prog X.w) X.A (f (.int i t)) Q E s):
  Dc X f (rU λi=> .int (g i)):=by
 intro tx s σ H x v Q I c h;let#[i,rfl,q]:=h;let#[t,rfl]:=c;exact a i t s _ _ #[.int (g i),H,I.tok _,#[0],q]
theorem lI:Dc X (unaryOp .USub) (rU λi=> .int (Neg.neg i)):=Fh λ_ _ _ _ _ q=>neg_int q
end
noncomputable def yk:V->V->Bool
 | .non,.non=>true| .non,.int _=>true| .int _,.non=>true| .non,.bl _=>true| .bl _,.non=>true| .non,.str _=>true| .str _,.non=>true
 | .int _,.int _=>true| .bl _,.bl _=>true| .str _,.str _=>true| .byt _,.byt _=>true
 | .int _,.str _=>true| .str _,.int _=>true| .bl _,.str _=>true| .str _,.bl _=>true
 |_,_=>false
noncomputable def Ff:R2:=λx y H Q=>yk x y=true/\Q (.bl (decide (x=y))) H
noncomputable def Fc:R2:=λx y H Q=>yk x y=true/\Q (.bl (! decide (x=y))) H
theorem sY:decide (V.int i=V.int j)=(i==j):=by
 rw[F0];simp
theorem wq:decide (V.bl i=V.bl j)=(i==j):=by
 rw[F0];simp
theorem sQ:decide (V.str i=V.str j)=(i==j):=by
 rw[F0];simp
theorem tD:decide (V.byt i=V.byt j)=(i.toList==j.toList):=by
 rw[F0];cases i;cases j;simp
section
variable{b:Φ}
theorem zu{k:Bool}(I:HL X tx σ H s)(q:Q (.bl k) H)(e:k=k'):EP X tx σ Q (.bool k') s:=by
 subst e
 exact#[.bl k,H,I,Z,q]
theorem qV:Qq X (compareOp .Eq) Ff:=by
 intro tx s σ H x y v u Q I e a h;let#[d,q]:=h;cases x with
 |non=>
  cases e;cases y with
  |non=>cases a;exact PySem.EqNone.eq_none_none (zu I q (by simp))
  |bl j=>cases a;exact PySem.EqNone.eq_none_bool (zu I q (by simp))
  |int j=>let#[c,rfl]:=a;exact PySem.EqNone.eq_none_int (zu I q (by simp))
  |str j=>let#[c,rfl]:=a;exact PySem.EqNone.eq_none_str (zu I q (by simp))
  |_=>exact absurd (show false=true from d) JH
 |bl i=>
  cases e;cases y with
  |non=>cases a;exact PySem.EqNone.eq_bool_none (zu I q (by simp))
  |bl j=>cases a;exact eq_bool (zu I q wq)
  |str j=>let#[c,rfl]:=a;exact PySem.EqMixed.eq_bool_str (zu I q (by simp))
  |_=>exact absurd (show false=true from d) JH
 |int i=>
  let#[t,rfl]:=e;cases y with
  |non=>cases a;exact PySem.EqNone.eq_int_none (zu I q (by simp))
  |int j=>let#[c,rfl]:=a;exact eq_int (zu I q sY)
  |str j=>let#[c,rfl]:=a;exact PySem.EqMixed.eq_int_str (zu I q (by simp))
  |_=>exact absurd (show false=true from d) JH
 |str i=>
  let#[t,rfl]:=e;cases y with
  |non=>cases a;exact PySem.EqNone.eq_str_none (zu I q (by simp))
  |bl j=>cases a;exact PySem.EqMixed.eq_str_bool (zu I q (by simp))
  |int j=>let#[c,rfl]:=a;exact PySem.EqMixed.eq_str_int (zu I q (by simp))
  |str j=>let#[c,rfl]:=a;exact eq_str (zu I q sQ)
  |_=>exact absurd (show false=true from d) JH
 |byt i=>
  let#[t,rfl]:=e;cases y with
  |byt j=>let#[c,rfl]:=a;exact W.eq_bytes (zu I q tD)
  |_=>exact absurd (show false=true from d) JH
 |_=>cases y<;>exact absurd (show false=true from d) JH
theorem bu:Qq X (compareOp .NotEq) Fc:=by
 intro tx s σ H x y v u Q I e a h;let#[d,q]:=h;cases x with
 |non=>
  cases e;cases y with
  |non=>cases a;exact PySem.EqNone.ne_none_none (zu I q (by simp))
  |bl j=>cases a;exact PySem.EqNone.ne_none_bool (zu I q (by simp))
  |int j=>let#[c,rfl]:=a;exact PySem.EqNone.ne_none_int (zu I q (by simp))
  |str j=>let#[c,rfl]:=a;exact PySem.EqNone.ne_none_str (zu I q (by simp))
  |_=>exact absurd (show false=true from d) JH
 |bl i=>
  cases e;cases y with
  |non=>cases a;exact PySem.EqNone.ne_bool_none (zu I q (by simp))
  |bl j=>cases a;exact ne_bool (zu I q (JK not wq))
  |str j=>let#[c,rfl]:=a;exact PySem.EqMixed.ne_bool_str (zu I q (by simp))
  |_=>exact absurd (show false=true from d) JH
 |int i=>
  let#[t,rfl]:=e;cases y with
  |non=>cases a;exact PySem.EqNone.ne_int_none (zu I q (by simp))
  |int j=>let#[c,rfl]:=a;exact ne_int (zu I q (JK not sY))
  |str j=>let#[c,rfl]:=a;exact PySem.EqMixed.ne_int_str (zu I q (by simp))
  |_=>exact absurd (show false=true from d) JH
 |str i=>
  let#[t,rfl]:=e;cases y with
  |non=>cases a;exact PySem.EqNone.ne_str_none (zu I q (by simp))
  |bl j=>cases a;exact PySem.EqMixed.ne_str_bool (zu I q (by simp))
  |int j=>let#[c,rfl]:=a;exact PySem.EqMixed.ne_str_int (zu I q (by simp))
  |str j=>let#[c,rfl]:=a;exact ne_str (zu I q (JK not sQ))
  |_=>exact absurd (show false=true from d) JH
 |byt i=>
  let#[t,rfl]:=e;cases y with
  |byt j=>let#[c,rfl]:=a;exact W.ne_bytes (zu I q (JK not tD))
  |_=>exact absurd (show false=true from d) JH
 |_=>cases y<;>exact absurd (show false=true from d) JH
theorem dh:Qq X (compareOp .Lt) (nR λi j=> .bl (decide (i<j))):=ui λ_ _ _ _ _ _ _ q=>lt_int q
theorem av:Qq X (compareOp .LtE) (nR λi j=> .bl (decide (i<=j))):=ui λ_ _ _ _ _ _ _ q=>le_int q
theorem kB:Qq X (compareOp .Gt) (nR λi j=> .bl (decide (j<i))):=ui λ_ _ _ _ _ _ _ q=>gt_int q
theorem cY:Qq X (compareOp .GtE) (nR λi j=> .bl (decide (j<=i))):=ui λ_ _ _ _ _ _ _ q=>ge_int q
theorem aV:Qq X (compareOp .Is) (λx y H Q=>y= .non/\Q (.bl (decide (x= .non))) H):=by
 intro tx s σ H x y v u Q I a c h;let#[rfl,q]:=h;cases c;refine is_none_gen (zu I q ?_)
 cases x<;>first
  |(cases a;rfl)
  |(let#[t,rfl]:=a;rfl)
theorem Bk:Qq X (compareOp .IsNot) (λx y H Q=>y= .non/\Q (.bl (! decide (x= .non))) H):=by
 intro tx s σ H x y v u Q I a c h;let#[rfl,q]:=h;cases c;refine isnot_none_gen (zu I q ?_)
 cases x<;>first
  |(cases a;rfl)
  |(let#[t,rfl]:=a;rfl)
theorem qz(b:Φ){a:CmpOp}(h:a≠ .In:=by decide)(c:a≠ .NotIn:=by decide):behindInMarks a b=false:=by
 have e:(a==CmpOp.In)=false:=by cases a<;>first|rfl|exact absurd Z h
 have d:(a==CmpOp.NotIn)=false:=by cases a<;>first|rfl|exact absurd Z c
 cases b<;>simp [behindInMarks,e,d]
theorem Qf{b:Φ}{c:CmpOp}(ho:Qq X (compareOp c) r)(ha:QE X a ta)(hb:QE X b tb)(hm:behindInMarks c b=false):QE X (.Compare a [c] [b] pos) (AR r ta tb):=⟨by
 intro tx s σ H Q I h;exact wpAny_Compare1 (wR ha.h hb.h I h λv u e x y g i d f q=>ho tx e σ g x y v u Q i d f q) hm⟩
noncomputable def kX(t:TE):TT:=λσ H Q=>t σ H λx H'=>∃k,x= .bl k/\Q k H'
theorem qw{b:Φ}(ho:Qq X (compareOp d) r)(ha:QE X a ta)(hb:QE X b tb)(hm:behindInMarks d b=false):QT X (.Compare a [d] [b] pos) (kX (AR r ta tb)):=#[by
 intro tx s σ H Q I h;refine wpAny_isTrue_Compare1 (qK (ha.h tx s σ H _ I h) λv t ⟨x,H1,p,w,q⟩=>qK (hb.h tx t σ H1 _ p q) λu g ⟨y,n,m,i,l⟩=>
  qK (ho tx g σ n x y v u _ m w i l) λc A ⟨z,H3,o,f,k,e,j⟩=>?_) hm
 subst e;cases f;exact FF #[H3,o,j]]
noncomputable def ln(r c:R2)(ta tb tc:TE):TE:=λσ H Q=>ta σ H λx H1=>tb σ H1 λy d=>r x y d λz H3=>∃k,z= .bl k/\
 (if k=true then tc σ H3 λa e=>c y a e Q else Q (.bl false) H3)
theorem wP{f op':CmpOp}{r g:R2}(ho:Qq X (compareOp f) r)(ho':Qq X (compareOp op') g)(ha:PE X a ta)(hb:PE X b tb)(hc:PE X c tc)
  (hm:lastMarks [f,op'] [b,c]=false:=by with_unfolding_all rfl):PE X (.Compare a [f,op'] [b,c] pos) (ln r g ta tb tc):=by
 intro tx s σ H Q I h;refine Compare_chain (qK (ha tx s σ H _ I h) λv t ⟨x,H1,K,L,D⟩=>chain_link (qK (hb tx t σ H1 _ K D) λu F ⟨y,A,p,i,o⟩=>
  qK (ho tx F σ A x y v u _ p L i o) λd G ⟨z,H3,l,w,k,e,j⟩=>?_)) hm
 subst e;cases w;refine FF ?_
 cases k with
 |false=>exact ite_ff #[.bl false,H3,l,Z,j]
 |true=>exact ite_tt (chain_last (qK (hc tx G σ H3 _ l j) λm B ⟨E,C,q,n,J⟩=>ho' tx B σ C y E u m Q q i n J))
theorem xj{f op':CmpOp}{r g:R2}(ho:Qq X (compareOp f) r)(ho':Qq X (compareOp op') g)(ha:PE X a ta)(hb:PE X b tb)(hc:PE X c tc)
  (hm:lastMarks [f,op'] [b,c]=false:=by with_unfolding_all rfl):PT X (.Compare a [f,op'] [b,c] pos) (kX (ln r g ta tb tc)):=by
 intro tx s σ H Q I h;refine isTrue_chain (qK (ha tx s σ H _ I h) λv B ⟨x,H1,S,T,K⟩=>test_link (qK (hb tx B σ H1 _ S K) λu N ⟨y,F,w,i,p⟩=>
  qK (ho tx N σ F x y v u _ w T i p) λd O ⟨z,H3,l,C,k,e,j⟩=>?_)) hm
 subst e;cases C;refine FF ?_
 cases k with
 |false=>
  let#[k',R,o]:=j;cases R;exact ite_ff #[H3,l,o]
 |true=>
  refine ite_tt (test_last (qK (hc tx O σ H3 _ l j) λm G ⟨L,J,A,n,P⟩=>qK (ho' tx G σ J y L u m _ A i n P) λY W q=>?_))
  let#[z2,U,t,M,k2,D,E]:=q;subst D;cases M;exact FF #[U,t,E]
theorem bP:(ζ:Nat)<2 ^ 63:=by rw[Jn];decide
theorem Q1(r:HR [x] us):∃u,us=[u]/\HN x u:=by
 cases r with
 |cons r1 r2=>cases r2;exact#[0,r1]
theorem db{y:V}{us:Ζ}(r:HR [x,y] us):∃u a,us=[u,a]/\HN x u/\HN y a:=by
 cases r with
 |cons r1 r2=>
  cases r2 with
  |cons r3 r4=>cases r4;exact#[6,r1,r3]
theorem oO:Qh X (.builtin "abs") (λxs H Q=>∃i,xs=[.int i]/\Q (.int (if i<0 then (Neg.neg i) else i)) H):=by
 intro tx s σ H xs a Q I r h;let#[i,rfl,q]:=h;let#[u,rfl,t,rfl]:=Q1 r;exact call_abs_int λu tk=>#[.int (if i<0 then (Neg.neg i) else i),H,I.tok _,#[0],q]
theorem iN(hc:X.calm=true):Qh X (.builtin "max") (λxs H Q=>∃i j,xs=[.int i,.int j]/\Q (.int (if j>i then j else i)) H):=by
 intro tx s σ H xs d Q I r h;let#[i,j,rfl,q]:=h;let#[u,c,rfl,#[t,rfl],#[e,rfl]]:=db r;refine max_two_ints (I.ok.hd hc) λh' tk k=>#[_,H,I.kept k,?_,q]
 by_cases a:j>i
 .rw[Jd a,Jd a];exact#[0]
 .rw[Jc a,Jc a];exact#[0]
theorem nA(hc:X.calm=true):Qh X (.builtin "min") (λxs H Q=>∃i j,xs=[.int i,.int j]/\Q (.int (if j<i then j else i)) H):=by
 intro tx s σ H xs d Q I r h;let#[i,j,rfl,q]:=h;let#[u,c,rfl,#[t,rfl],#[e,rfl]]:=db r;refine min_two_ints (I.ok.hd hc) λh' tk k=>#[_,H,I.kept k,?_,q]
 by_cases a:j<i
 .rw[Jd a,Jd a];exact#[0]
 .rw[Jc a,Jc a];exact#[0]
theorem iz:Qh X (.type "int") (λxs H Q=>(∃i,xs=[.int i]/\Q (.int i) H)\/∃k,xs=[.bl k]/\Q (.int (if k then 1 else 0)) H):=by
 intro tx s σ H xs c Q I r h;rcases h with⟨i,rfl,q⟩|⟨k,rfl,q⟩
 .let#[u,rfl,t,rfl]:=Q1 r
  exact call_int_int #[.int i,H,I,#[0],q]
 .let#[u,rfl,a]:=Q1 r
  cases a;exact call_int_bool #[.int (if k then 1 else 0),H,I.tok _,#[0],q]
theorem pC:Qh X (.builtin "ord") (λxs H Q=>∃x,xs=[.str x]/\x.length=1/\Q (.int (x.cps.getD 0 0:Nat)) H):=by
 intro tx s σ H xs c Q I r h;let#[x,rfl,a,q]:=h;let#[u,rfl,t,rfl]:=Q1 r;exact ord_of_one a #[.int _,H,I.tok _,#[0],q]
end
structure Oo(h:Ψ)(x dx C:Δ)(mA:HE):Prop where
 obj:h.get? x=↑(PySem.W.instObj C dx)
 ns:h.Ns1 dx mA
 ne:dx≠x
theorem vT{h:Ψ}(n:h.Ns1 dx mA):∃od,h.get? dx=↑od/\∀name,W.lookIn name od=↑(mA name):=by
 let#[o,es,j,i,d,hk,_,f]:=n;refine#[o,i,λname=>?_]
 have e:=f name;unfold nsFind findBy at e;rw[<- Array.find?_toList]at e;unfold W.lookIn;rw[d]
 dsimp only
 split
 .rename_i y q
  rw[q]at e;exact JK some e
 .rename_i q
  rw[q]at e;have a:es.toList.any (·.refKey)=false:=by
   rw[List.any_eq_false];intro y g;let#[z,t,c]:=hk y (Array.mem_toList_iff.mp g)
   simp [DictEntry.refKey,c]
  have a':¬es.toList.any (·.refKey)=true:=by rw[a];exact JH
  rw[Jc a'];exact JK some e
theorem Oo.look(I:Oo h x dx C mA):∃od,W.InstAt h x (W.instObj C dx) C ↑od/\∀name,W.lookIn name od=↑(mA name):=
 let⟨od,ho,hl⟩:=vT I.ns
 #[od,#[I.obj,12,ho],hl]
section
variable{prog:Ξ}{w:Ω}{A:Around}{E:HD}{s:Θ}{K:ι}{x dx C f:Δ}{mA:HE}{name:Str}{v:Γ}
theorem BZ{a:Bool}{Q:HD}(X:K.In s.heap)(I:Oo s.heap x dx C mA)(hg:W.plainGet K C name=true)(d:W.hasDictIn K C=true)
  (ha:W.findIn K (-C) name=↑none)(e:mA name=↑v)(c:W.handedIn v=true)(h:Q v {s with toks:=s.toks+1}):
  ε (model prog w) A (getAttr (-x) name a) Q E s:=by
 let#[od,J,f]:=I.look;exact W.get_value X J (W.plainGet_of hg).1 (W.findObj_own d ha Z (by rw[f,e])) c h
theorem Au{pl:Sem Bool}{Q:Γ×Ζ->Θ->Prop}(X:K.In s.heap)(I:Oo s.heap x dx C mA)(hg:W.plainGet K C name=true)
  (d:W.findIn K (-C) name=↑(↑(-f)))(a:W.isFn K (-f)=true)(c:mA name=none)(h:Q (-f,[-x]) s):
  ε (model prog w) A (getMethod (-x) name pl) Q E s:=by
 let#[od,J,e]:=I.look;exact W.method_fn X J (W.plainGet_of hg).1 (W.plainGet_of hg).2 d (Fu.mp a) (by show(W.lookIn name od).map (·.isSome)=↑false;rw[e,c];rfl) h
theorem Qt{ns:Α}{Q:Unit->Θ->Prop}(X:K.In s.heap)(I:Oo s.heap x dx C mA)
  (hs:W.findIn K (-C) "__setattr__"=↑(↑(.builtin "object.__setattr__")))(hp:W.plainOver K C=true)(m:W.takerIn K C name=↑none)(o:W.hasDictIn K C=true)
  (l:PySem.Within mA ns)(hsz:ns.length<=ζ)
  (h:∀h',Oo h' x dx C (λy=>if y=name then ↑v else mA y)->Ψ.SameBut dx s.heap h'->Q () {s with heap:=h',toks:=s.toks+2}):
  ε (model prog w) A (setAttr (-x) name v) Q E s:=by
 let#[od,J,u]:=I.look;refine W.set_plain X J hs (W.osa_open (s:={s with toks:=s.toks+1}) (r:=none) X J hp m λb=>?_)
 let#[z,p,e]:=W.any_some o;have n:s.heap.get? x=some #[-C,↑dx,.plain,(List.toArray [])]:=I.obj
 refine Ja (Ji (Ja (Ja (wpAny_loadPart n (Ja (W.Looks.here (s:={s with toks:=s.toks+1}) (W.looks_clsIn X p) ?_))))))
 rw[e];refine Ji (a:=↑dx) (Ja (Ji (Ja ?_)))
 refine wpAny_nsSet1 (s:={s with toks:=s.toks+1}) I.ns λh' c d=>?_
 let#[t,q,j,g,f,i]:=c.count (PySem.Within.cons name v l)
 refine Ja (wpAny_lookBehind g (by rw[f];exact pastItsLine_dict (JI i (by rw[J7];lia))) ?_)
 exact Ji (h _ #[(d.2 _ (Ne.symm I.ne)).trans I.obj,c,I.ne] d)
theorem wL{R:Result->Θ->Prop}{vs:Ζ}{c:List (Str×Γ)}(X:K.In s.heap)(hm:W.makesIn K C=true)
  (hi:W.findIn K (-C) "__init__"=↑(↑(-f)))(e:W.typeIn K (-f)=↑(.type "function"))
  (h:codeAny (model prog w) (A.under (.builtin "type.__call__" #[.ref C::vs,c])) (.call (-f) #[.ref (s.heap.objs.size+1)::vs,c]) (W.InitBack (s.heap.objs.size+1) R)
   {s with heap:=(s.heap.push W.emptyDict).push (W.instObj C s.heap.objs.size)}):
  codeAny (model prog w) A (.call (-C) #[vs,c]) R s:=by
 let#[i,g,d,t,os]:=s;exact W.make_core (W.makes_of X hm) (W.looks_findIn X hi) (λa=>W.bind_fn X a e) (.inl Z) h
end
noncomputable def Q2(f:Str)(v:V):List (Str×V)->List (Str×V)
 | []=>[(f,v)]
 |(g,x)::r=>if g=f then(g,v)::r else(g,x)::Q2 f v r
theorem jD(f g:Str)(v:V):∀fs:List (Str×V),(Q2 f v fs).lookup g=if g=f then ↑v else fs.lookup g
 | []=>by
  show List.lookup g [(f,v)]=_
  by_cases h:g=f
  .have a:(g==f)=true:=Fu.mpr h
   simp only[List.lookup,a,Jd h]
  .have a:(g==f)=false:=Gc.mpr h
   simp only[List.lookup,a,Jc h]
 |(k,x)::r=>by
  have c:=jD f g v r;rw[show Q2 f v ((k,x)::r)=(if k=f then(k,v)::r else(k,x)::Q2 f v r)from Z]
  by_cases hk:k=f
  .rw[Jd hk]
   by_cases h:g=k
   .have a:(g==k)=true:=Fu.mpr h
    simp only[List.lookup,a,Jd (h.trans hk)]
   .have a:(g==k)=false:=Gc.mpr h
    simp only[List.lookup,a,Jc (λe:g=f=>h (e.trans hk.symm))]
  .rw[Jc hk]
   by_cases h:g=k
   .have a:(g==k)=true:=Fu.mpr h
    simp only[List.lookup,a,Jc (λe:g=f=>hk (h.symm.trans e))]
   .have a:(g==k)=false:=Gc.mpr h
    simp only[List.lookup,a];exact c
theorem iI(f:Str)(v:V):∀fs:List (Str×V),f∈(Q2 f v fs).map (·.1)/\∀g,g∈fs.map (·.1)->g∈(Q2 f v fs).map (·.1)
 | []=>#[by simp [Q2],λg h=>by simp at h]
 |(k,x)::r=>by
  let#[i1,i2]:=iI f v r;rw[show Q2 f v ((k,x)::r)=(if k=f then(k,v)::r else(k,x)::Q2 f v r)from Z]
  by_cases hk:k=f
  .rw[Jd hk]
   subst hk
   exact#[by simp,λg h=>by simpa using h]
  .rw[Jc hk]
   refine#[?_,λg h=>?_]
   .rw[JW]
    exact JD _ i1
   .rw[JW]at h⊢
    rcases Jh.mp h with e|e
    .exact Jh.mpr (.inl e)
    .exact JD _ (i2 g e)
theorem jA(f:Str)(v:V):∀fs:List (Str×V),(Q2 f v fs).length<=fs.length+1
 | []=>by simp [Q2]
 |(k,x)::r=>by
  have a:=jA f v r;rw[show Q2 f v ((k,x)::r)=(if k=f then(k,v)::r else(k,x)::Q2 f v r)from Z]
  by_cases hk:k=f
  .rw[Jd hk,J7,J7];lia
  .rw[Jc hk,J7,J7];lia
theorem LX.some_of(r:LX ↑v o):∃u,o=↑u/\HN v u:=by
 cases o with
 |none=>exact(show False from r).elim
 |some u=>exact#[u,Z,r]
theorem LX.none_of(r:LX none o):o=none:=by
 cases o with
 |none=>rfl
 |some u=>exact(show False from r).elim
theorem mU(r:HN v u):W.handedIn u=true:=by
 cases v with
 |non=>cases(show u=Γ.none from r);rfl
 |bl b=>cases(show u=Γ.bool b from r);rfl
 |int i=>let#[t,e]:=(show∃t,u=Γ.int i t from r);cases e;rfl
 |str x=>let#[t,e]:=(show∃t,u=Γ.str x t from r);cases e;rfl
 |byt b=>let#[t,e]:=(show∃t,u=Γ.bytes b t from r);cases e;rfl
 |flt b=>let#[t,e]:=(show∃t,u=Γ.float b t from r);cases e;rfl
 |ref a=>cases(show u=Γ.ref a from r);rfl
 |ty n=>cases(show u=Γ.type n from r);rfl
section
variable{fs:List (Str×V)}
theorem jf(c:LZ P w H h)(e:H a=↑(.ins C dx fs)):∃mA,Oo h a dx C mA/\(∀f,LX (fs.lookup f) (mA f))/\PySem.Within mA (fs.map (·.1))/\fs.length<=1000/\H dx=↑(.own a):=by
 let#[d,z,ne,g,mA,n,r,q]:=(show HY P w H h a (.ins C dx fs)from c a _ e)
 exact#[mA,#[g,n,ne],r,q,z,d]
end
structure N5(K:ι)(C:Δ):Prop where
 pg:PySem.W.plainGet K C Str.empty=true
 hd:PySem.W.hasDictIn K C=true
 po:PySem.W.plainOver K C=true
 sa:PySem.W.findIn K (-C) "__setattr__"=↑(↑(.builtin "object.__setattr__"))
theorem N5.get{K:ι}(c:N5 K C)(f:Str):W.plainGet K C f=true:=c.pg
def HU(K:ι)(C:Δ)(f:Str):Prop:=PySem.W.findIn K (-C) f=↑none
theorem HU.taker{K:ι}(n:HU K C f):W.takerIn K C f=↑none:=by
 unfold W.takerIn;rw[show W.findIn K (-C) f=↑none from n]
 rfl
structure OW(K:ι)(C:Δ)(m:Str)(f:Δ):Prop where
 at_:PySem.W.findIn K (-C) m=↑(↑(-f))
 fn:PySem.W.isFn K (-f)=true
 kp:PySem.W.keepIn K (-f)=true
section
variable{fs:List (Str×V)}
theorem kN{b:Bool}{Q:HD}(I:HL X tx σ H s)(e:H a=↑(.ins C dx fs))(c:N5 X.K C)(n:HU X.K C f)(l:fs.lookup f=↑v)
  (h:∀u s',HL X tx σ H s'->HN v u->Q u s'):ε (model X.prog X.w) A (getAttr (-a) f b) Q E s:=by
 let#[mA,O,r,_,_,_]:=jf I.hok e;let#[u,g,d]:=LX.some_of (v:=v) (o:=mA f) (by rw[<- l];exact r f)
 exact BZ I.kIn O (c.get f) c.hd n g (mU d) (h u _ (I.tok _) d)
theorem gp{m:Str}{g:Δ}{pl:Sem Bool}{Q:Γ×Ζ->Θ->Prop}(I:HL X tx σ H s)(e:H a=↑(.ins C dx fs))(c:N5 X.K C)(k:OW X.K C m g)(l:fs.lookup m=none)
  (h:Q (-g,[-a]) s):ε (model X.prog X.w) A (getMethod (-a) m pl) Q E s:=by
 let#[mA,O,r,_,_,_]:=jf I.hok e;have d:mA m=none:=LX.none_of (by rw[<- l];exact r m)
 exact Au I.kIn O (c.get m) k.at_ k.fn d h
theorem lJ{y:V}{u:Γ}{Q:Unit->Θ->Prop}(I:HL X tx σ H s)(e:H a=↑(.ins C dx fs))(c:N5 X.K C)(n:HU X.K C f)(B:fs.length<1000)(m:HN y u)
  (h:∀s',HL X tx σ (HI H a (.ins C dx (Q2 f y fs))) s'->Q () s'):ε (model X.prog X.w) A (setAttr (-a) f u) Q E s:=by
 let#[mA,O,r,i,_,j]:=jf I.hok e;have p:(fs.map (·.1)).length<=ζ:=by rw[Jb,Jn];lia
 refine Qt I.kIn O c.sa c.po n.taker c.hd i p λh' d t=>h _ ?_
 have l:∃o,h'.get? dx=↑o:=let⟨o,_,_,e',_⟩:=d.ns;#[o,e']
 refine I.write (x:=a) (e:=dx) (by rw[e];exact True.intro) (.inr j) (λb q w z=>(t.2 b w).trans z) l ?_
 refine#[by rw[qk O.ne];exact j,?_,O.ne,d.obj,_,d.ns,λg=>?_,λg v=>?_]
 .have:=jA f y fs;lia
 .show LX ((Q2 f y fs).lookup g) (if g=f then ↑u else mA g)
  rw[jD]
  by_cases q:g=f
  .rw[Jd q,Jd q];exact m
  .rw[Jc q,Jc q];exact r g
 .by_cases q:g=f
  .rw[q];exact(iI f y fs).1
  .refine(iI f y fs).2 g (i g λz=>v ?_)
   show(if g=f then ↑u else mA g)=none
   rw[Jc q];exact z
theorem HL.made(I:HL X tx σ H s):HL X tx σ (HI (HI H s.heap.objs.size (.own (s.heap.objs.size+1))) (s.heap.objs.size+1) (.ins C s.heap.objs.size []))
  {s with heap:=(s.heap.push W.emptyDict).push (W.instObj C s.heap.objs.size)}:=by
 have c:(s.heap.push W.emptyDict).get? s.heap.objs.size=↑W.emptyDict:=Ju s.heap Z
 have d:((s.heap.push W.emptyDict).push (W.instObj C s.heap.objs.size)).get? (s.heap.objs.size+1)=↑(W.instObj C s.heap.objs.size):=by
  have:=Ju (s.heap.push W.emptyDict) (o:=W.instObj C s.heap.objs.size) Z
  rwa [J8]at this
 have h:(s.heap.push W.emptyDict).Ns s.heap.objs.size (λ_=>none):=#[W.emptyDict,(List.toArray []),_,c,Z,(λe f=>absurd f (by simp)),λ_=>rfl]
 have g:=I.laid (a:=s.heap.objs.size) (o:= .own (s.heap.objs.size+1)) (h':=s.heap.push W.emptyDict) (t':=s.toks) (λb u q=>Jj _ q) (Jf _) #[_,c]
 refine g.laid (a:=s.heap.objs.size+1) (o:= .ins C s.heap.objs.size []) (t':=s.toks) (λb u q=>Jj _ q) (Ic (J8 _ _)) ?_
 have ne:s.heap.objs.size≠s.heap.objs.size+1:=Jx (FP _)
 refine#[by rw[qk ne,qb],JL _,ne,d,λ_=>none,(Ψ.Ns1.of_empty h).at λo q=>Jj _ q,λ_=>True.intro,λy i=>absurd Z i]
theorem sU{prog:Ξ}{w:Ω}{env:Env}{e:Φ}{f:Str}{pos:Pos}{s:Θ}{Q:HD}(hb:attributeBase e f env (eval e env)=eval e env)
  (h:ε (model prog w) A (eval e env) (λo a=>ε (model prog w) A (getAttr o f true) Q E a) E s):ε (model prog w) A (eval (.Attribute e f pos) env) Q E s:=
 Attribute_any_ h (by rw[arm_eval_Attribute,hb])
end
def Di(X:Cx)(a:Operator)(rd:V->V->Hp->VK->Prop):Prop:=
 ∀(tx:HF) (s:Θ) (σ:St) (H:Hp) (x y:V) (u v:Γ) (Q:VK),HL X tx σ H s->HN x u->HN y v->rd x y H Q->ε (model X.prog X.w) X.A (inplaceOp a u v) (EP X tx σ Q) X.xe s
section
inductive PB (x:V) (y:V) (H:Hp) (Q:VK):Prop
 |mk (i:_) (j:_) (h1:x= .int i) (h2:y= .int j) (h3:Q (.int (i+j)) H)
def ER:V->V->Hp->VK->Prop:=λx y H Q=>PB x y H Q
theorem vz:Di X .Add ER:=by
 rintro tx s σ H x y u v Q I d c ⟨i,j,rfl,rfl,q⟩
 let#[t,rfl]:=(show∃t,u=Γ.int i t from d)
 let#[a,rfl]:=(show∃a,v=Γ.int j a from c)
 exact PyProof.Rows.iadd_int #[.int (i+j),H,I.tok _,#[0],q]
end
section
variable{b:Bool}
inductive MN (K:ι) (H:Hp):V->Γ->Prop where
 |non:MN K H .non (.type "NoneType")
 |bl (x:Bool):MN K H (.bl x) (.type "bool")
 |int (i:Int):MN K H (.int i) (.type "int")
 |str (x:Str):MN K H (.str x) (.type "str")
 |flt (x:UInt64):MN K H (.flt x) (.type "float")
 |lst {a:Δ} {xs:Β} (e:H a=↑(.lst xs)):MN K H (-a) (.type "list")
 |frz {a:Δ} {o:Obj} {xs:Β} (e:H a=↑(.frz o (.lst xs))):MN K H (-a) (.type "list")
 |tup {a:Δ} {xs:Β} (e:H a=↑(.tup xs)):MN K H (-a) (.type "tuple")
 |dK {a:Δ} {kvs:List (qR×V)} (e:H a=↑(.dK kvs)):MN K H (-a) (.type "dict")
 |dT {a:Δ} {kvs:List (List qR×V)} (e:H a=↑(.dT kvs)):MN K H (-a) (.type "dict")
 | ins {a C dx:Δ} {fs:List (Str×V)} (e:H a=↑(.ins C dx fs)) (cl:N5 K C) (ha:PySem.W.findIn K (-C) "__class__"=↑(↑(.builtin "object.__class__")))
   (hn:PySem.W.specialIn K (.builtin "object.__class__") "__get__"=↑(↑(.builtin "getset_descriptor.__get__"))) (htk:PySem.W.takesIn K (.builtin "object.__class__")=↑true)
   (hm:PySem.W.mroIn K C (.type "object")=↑true):MN K H (-a) (-C)
theorem va{x:V}{u t:Γ}(I:HL X tx σ H s)(d:HN x u)(ty:MN X.K H x t)(e:W.kitOne X.K t c=↑b)(h:∀tk,Q (.bool b) {s with toks:=tk}):
  ε (model X.prog X.w) A (call (.builtin "isinstance") [u,c]) Q E s:=by
 cases ty with
 |non=>cases(show u=Γ.none from d);exact JS W.kitx_none I.kIn True.intro e (λz=>nomatch z) h
 |bl y=>cases(show u=Γ.bool y from d);exact JS W.kitx_bool I.kIn True.intro e (λz=>nomatch z) h
 |int i=>let#[t,q]:=(show∃t,u=Γ.int i t from d);cases q;exact JS W.kitx_int I.kIn True.intro e (λz=>nomatch z) h
 |str y=>let#[t,q]:=(show∃t,u=Γ.str y t from d);cases q;exact JS W.kitx_str I.kIn True.intro e (λz=>nomatch z) h
 |flt y=>let#[t,q]:=(show∃t,u=Γ.float y t from d);cases q;exact JS W.kitx_float I.kIn True.intro e (λz=>nomatch z) h
 | @lst a xs ea=>
  cases(show u=Γ.ref a from d)
  let#[_,_,n,_,h1]:=(show HY X.prog X.w H s.heap a (.lst xs)from I.hok a _ ea)
  exact JS W.kitx_list I.kIn #[_,h1,Z] e (λz=>nomatch z) h
 | @frz a ob xs ea=>
  cases(show u=Γ.ref a from d)
  let#[_,_,_,n,_,h1]:=(show HY X.prog X.w H s.heap a (.frz ob (.lst xs))from I.hok a _ ea)
  exact JS W.kitx_list I.kIn #[_,h1,Z] e (λz=>nomatch z) h
 | @tup a xs ea=>
  cases(show u=Γ.ref a from d)
  let#[_,_,_,p]:=(show HY X.prog X.w H s.heap a (.tup xs)from I.hok a _ ea)
  let#[o,h1,f,_]:=p;exact JS W.kitx_tuple I.kIn #[o,h1,f] e (λz=>nomatch z) h
 | @dK a kvs ea=>
  cases(show u=Γ.ref a from d)
  let#[_,_,j,_,p]:=(show HY X.prog X.w H s.heap a (.dK kvs)from I.hok a _ ea)
  let#[o,es,g,h1,f,_]:=p;exact JS W.kitx_dict I.kIn #[o,h1,f.1] e (λz=>nomatch z) h
 | @dT a kvs ea=>
  cases(show u=Γ.ref a from d)
  let#[_,_,xs,_,o,es,g,h1,f,_]:=(show HY X.prog X.w H s.heap a (.dT kvs)from I.hok a _ ea)
  exact JS W.kitx_dict I.kIn #[o,h1,f.1] e (λz=>nomatch z) h
 | @ins a C dx fs ea cl ha hn htk hm=>
  cases(show u=Γ.ref a from d)
  let#[mA,O,_]:=jf I.hok ea;let#[od,J,_]:=O.look;exact JS (W.kitx_own (cl.get _) cl.hd ha hn htk hm) I.kIn J e (λz=>nomatch z) h
end
structure Lb(k:Nat)(A:Around):Prop where
 hd:A.handled=none
 dp:A.depth+3*k+5<recursionLimit
 un:A.units+16*k+200<cLine
theorem Lb.mono{k:Nat}(r:Lb k A)(h:j<=k):Lb j A:=#[r.hd,by have:=r.dp;lia,by have:=r.un;lia]
theorem Lb.mo{k:Nat}(r:Lb k A)(h:j<=k:=by first|decide|omega):Lb j A:=r.mono h
theorem Lb.deeper{k:Nat}(r:Lb (k+1) A)(env:Env):Lb k (A.deeper env):=
 #[r.hd,by have:=r.dp;show A.depth+1+3*k+5<_;lia,by have:=r.un;show A.units+3+16*k+200<_;lia]
theorem uJ{A:Around}:(A.under (.builtin "type.__call__" #[.ref C::us,a])).depth=A.depth+1:=by
 first|rfl|simp [Around.under,Code.weight,Code.isCreation,Code.isGuard,Code.isCaller,Code.frames,Code.isFrame,guardIds]
theorem t8{A:Around}:(A.under (.builtin "type.__call__" #[.ref C::us,a])).units=A.units+1:=by
 first|rfl|simp [Around.under,Code.cUnits,Code.frames,Code.isFrame]
theorem Lb.make{k:Nat}(r:Lb (k+1) A)(C:Δ)(us:Ζ)(a:List (Str×Γ)):Lb k (A.under (.builtin "type.__call__" #[.ref C::us,a])):=
 #[r.hd,by have:=r.dp;rw[uJ];lia,by have:=r.un;rw[t8];lia]
theorem Lb.depth{k:Nat}(r:Lb k A):A.depth<recursionLimit:=by have:=r.dp;lia
def CV:TA:=λ_ H Q=>Q [] H
noncomputable def AF(ta:TE)(a:TA):TA:=λσ H Q=>ta σ H λx H1=>a σ H1 λxs c=>Q (x::xs) c
section
theorem qa:QA X [] CV:=#[λ_ _ _ _ H Q I h=>Calls.spliced_nil #[[],H,I,.nil,h]]
theorem BO(ha:PE X e te)(n:PA X es t)(hs:θ (e::es) X.env=(false,eval e X.env)::θ es X.env:=by rfl):PA X (e::es) (AF te t):=by
 intro pos tx s σ H Q I h;rw[hs]
 show ε _ _ (spliced ((false,eval e X.env)::backTo pos (θ es X.env))) _ _ s
 refine Calls.spliced_cons (qK (ha tx s σ H _ I h) λu a j=>?_)
 let#[x,H1,i,m,l]:=j;exact qK (n pos tx a σ H1 _ i l) λp o ⟨xs,d,g,c,f⟩=>#[x::xs,d,g,.cons m c,f]
noncomputable def EM(t:TA):TE:=λσ H Q=>t σ H λxs H1=>xs.length<=ζ/\∀p,H1 p=none->Q (-p) (HI H1 p (.tup xs))
noncomputable def EY(t:TA):TE:=λσ H Q=>t σ H λxs H1=>xs.length<=ζ/\∀p,H1 p=none->Q (-p) (HI H1 p (.lst xs))
theorem qM{x1}(h:QA X es t):QE X (.Tuple es x1 pos) (EM t):=#[by
 intro tx s σ H Q I g;refine wpAny_Tuple_spliced (qK (h.h pos tx s σ H _ I g) λf a ⟨xs,H1,c,r,z,q⟩=>#[by rw[<- r.length];exact z,?_])
 have d:H1 a.heap.objs.size=none:=c.hok.fresh (Jf _)
 refine#[-a.heap.objs.size,HI H1 a.heap.objs.size (.tup xs),c.laid (t':=a.toks) (λb u e=>Jj _ e) (Jf _) ?_,Z,q _ d]
 exact#[z,f,r,#[_,Ju _ Z,7]]]
theorem zp(h:QA X es t):QE X (.List es pos) (EY t):=#[by
 intro tx s σ H Q I g;refine wpAny_List_spliced (qK (h.h pos tx s σ H _ I g) λf a ⟨xs,H1,c,r,z,q⟩=>#[by rw[<- r.length];exact z,?_])
 have d:H1 a.heap.objs.size=none:=c.hok.fresh (Jf _)
 refine#[-a.heap.objs.size,HI H1 a.heap.objs.size (.lst xs),c.laid (t':=a.toks) (λb u e=>Jj _ e) (Jf _) ?_,Z,q _ d]
 exact#[z,f,(0),r,Ju _ Z]]
end
abbrev Sp:=Β->Hp->VK->XK->Prop
abbrev gY:=Ο->Hp->Θ->XK->Γ->Θ->Prop
structure Oq(P:Ξ)(w:Ω)(K:ι)(mg:HE)(base:Ψ)(A:Around)(outer:Ο)(s:Θ)(H:Hp):Prop where
 frames:A.frames=↑outer
 mod:PY K mg base
 bs:∀b o,base.get? b=↑o->s.heap.get? b=↑o/\H b=none
 bsz:base.objs.size<=s.heap.objs.size
 funs:s.heap.FunFrames base outer
 frf:∀b∈QB outer,H b=none
 hok:LZ P w H s.heap
 bare:AllBare s.gens
def CE(outer:Ο)(P:Ξ)(w:Ω)(H:Hp)(s:Θ)(Q:VK)(u:Γ)(s':Θ):Prop:=
 ∃v H',s'.os=s.os/\AllBare s'.gens/\Un (QB outer) [] H H' s.heap s'.heap/\LZ P w H' s'.heap/\HN v u/\Q v H'
def CR(CX:gY)(outer:Ο)(P:Ξ)(w:Ω)(H:Hp)(s:Θ)(Q:VK)(E:XK)(r:Result)(s':Θ):Prop:=
 match r with
 | .ok (.ret u)=>CE outer P w H s Q u s'
 | .ok _=>False
 | .error e=>CX outer H s E e s'
structure Mj(P:Ξ)(w:Ω)(K:ι)(mg:HE)(base:Ψ)(CX:gY)(k:Nat)(f:Δ)(fd:FuncData)(ps:Α)(sp:Sp):Prop where
 len:∀vs H Q E,sp vs H Q E->vs.length=ps.length
 run:∀(A:Around) (outer:Ο) (s:Θ) (H:Hp) (args:Args) (us:Ζ) (vs:Β) (Q:VK) (E:XK),Lb k A->Oq P w K mg base A outer s H->BindsTo s fd args (ps.zip us)->HR vs us->sp vs H Q E->
  codeAny (model P w) A (.call (-f) args) (CR CX outer P w H s Q E) s
theorem Oq.make{K:ι}(e:Oq P w K mg base A outer s H)(C:Δ)(us:Ζ)(a:List (Str×Γ)):
  Oq P w K mg base (A.under (.builtin "type.__call__" #[.ref C::us,a])) outer s H:=#[by first|exact e.frames|(simpa [Around.under,Code.envs,Code.isFrame,pushEnvs]using e.frames),e.mod,e.bs,e.bsz,e.funs,e.frf,e.hok,e.bare]
section
theorem HL.env0(I:HL X tx σ H s):Oq X.prog X.w X.K X.mg X.base X.A X.stack s H:=
 #[I.ok.frames,I.ok.mod,I.bs,JI I.ok.bsz I.sz,I.stack,I.stkFree,I.hok,I.bare]
theorem HL.after(I:HL X tx σ H s)(h:CE X.stack X.prog X.w H s Q u s'):EP X tx σ Q u s':=by
 let#[v,H',os,a,un,c,r,q]:=h;let#[f,g,d,t,e]:=s'
 obtain rfl:e=s.os:=os
 exact#[v,H',I.call (h':=f) (g':=g) (d':=d) (t':=t) (ch:=[]) un c a (λb z=>absurd z (by simp)),r,q]
end
noncomputable def AK(sp:Sp)(dvs:Β)(E:XK)(t:TA):TE:=λσ H Q=>t σ H λa H1=>sp (a++dvs) H1 Q E
noncomputable def AV(C:Δ)(sp:Sp)(dvs:Β)(E:XK)(t:TA):TE:=λσ H Q=>t σ H λa H1=>∀x dx,H1 x=none->H1 dx=none->dx≠x->
 sp (.ref x::(a++dvs)) (HI (HI H1 dx (.own x)) x (.ins C dx [])) (λv c=>v= .non/\Q (-x) c) E
def LL(K:ι)(fd:FuncData)(ps:Α)(ds:Ζ):Prop:=
 ∀(s:Θ) (a:Ζ),K.In s.heap->(a++ds).length=ps.length->BindsTo s fd #[a,[]] (ps.zip (a++ds))
theorem LL.all{K:ι}{fd:FuncData}{ps:Α}(h:∀a:Ζ,a.length=ps.length->bindArgs fd #[a,[]]=pure (ps.zip a)):LL K fd ps []:=λs a _ c=>by
 rw[GD]at c⊢;exact .of_eq (h a c)
def cH(CX:gY)(X:Cx)(E:XK):Prop:=∀(tx:HF) (σ:St) (H:Hp) (s:Θ) (e:Γ) (s':Θ),HL X tx σ H s->CX X.stack H s E e s'->X.xe e s'
section
variable{k:Nat}{sp:Sp}
theorem kM{tx:HF}{σ:St}{H:Hp}{s:Θ}{Q:VK}{us:Ζ}{vs:Β}(F:Mj X.prog X.w X.K X.mg X.base CX k f fd ps sp)(j:Lb k X.A)(hb:LL X.K fd ps ds)(d:HR dvs ds)(g:cH CX X E)
  (I:HL X tx σ H s)(r:HR vs us)(h:sp (vs++dvs) H Q E):ε (model X.prog X.w) X.A (call (-f) us) (EP X tx σ Q) X.xe s:=by
 have c:HR (vs++dvs) (us++ds):=r.append d
 have i:(us++ds).length=ps.length:=by rw[<- c.length];exact F.len _ _ _ _ h
 refine Gf (F1 (F.run X.A X.stack s H #[us,[]] (us++ds) (vs++dvs) Q E j I.env0 (hb s us I.kIn i) c h) λr s' a=>?_)
 cases r with
 |error e=>exact g tx σ H s e s' I a
 |ok fl=>
  cases fl with
  |ret u=>exact I.after a
  |next=>exact False.elim a
  |brk=>exact False.elim a
  |cont=>exact False.elim a
theorem BM(F:Mj X.prog X.w X.K X.mg X.base CX k f fd ps sp)(l:Lb k X.A)(hg:Gl X x)(hm:X.mg x=↑(-f))(hk:W.keepIn X.K (-f)=true)(hb:LL X.K fd ps ds)(g:HR dvs ds)(i:cH CX X E)
  (ha:PA X (e::es) t)(a:(x==("__debug__":Str))=false:=by decide)(j:θ (e::es) X.env=(false,eval e X.env)::θ es X.env:=by rfl)(c:(backTo pos (θ es X.env)).any (·.1)=false:=by rfl):
  PE X (.Call (.Name x p) (e::es) [] pos) (AK sp dvs E t):=by
 intro tx s σ H Q I h;refine GF (au I hg hm ?_ a)
 refine GG (h₀:=X.base) I.ok.mod.kin hk (qK (ha pos tx s σ H _ I h) λo m ⟨n,H1,d,r,q⟩=>#[d.kIn,?_]) j c
 exact kM F l hb g i d r q
structure Mk(K:ι)(C f:Δ):Prop where
 makes:PySem.W.makesIn K C=true
 init:PySem.W.findIn K (-C) "__init__"=↑(↑(-f))
 fn:PySem.W.isFn K (-f)=true
 kp:PySem.W.keepIn K (-C)=true
theorem Av{tx:HF}{σ:St}{H:Hp}{s:Θ}{Q:VK}{us:Ζ}{vs:Β}(M:Mk X.K C f)(F:Mj X.prog X.w X.K X.mg X.base CX k f fd ps sp)(t:Lb (k+1) X.A)(hb:LL X.K fd ps ds)(i:HR dvs ds)
  (j:cH CX X E)(I:HL X tx σ H s)(r:HR vs us)
  (h:∀x dx,H x=none->H dx=none->dx≠x->sp (.ref x::(vs++dvs)) (HI (HI H dx (.own x)) x (.ins C dx [])) (λv n=>v= .non/\Q (-x) n) E):
  ε (model X.prog X.w) X.A (call (-C) us) (EP X tx σ Q) X.xe s:=by
 have d:=h (s.heap.objs.size+1) s.heap.objs.size (I.hok.fresh (J1 _)) (I.hok.fresh (Jf _)) (Jx (FP _));have c:=HL.made (C:=C) I
 have g:HR (V.ref (s.heap.objs.size+1)::(vs++dvs)) (Γ.ref (s.heap.objs.size+1)::(us++ds)):= .cons Z (r.append i)
 have q:(Γ.ref (s.heap.objs.size+1)::us++ds).length=ps.length:=by
  have e:=g.length;rw[F.len _ _ _ _ d]at e;exact e.symm
 refine Gf (wL (f:=f) I.kIn M.makes M.init (Fu.mp M.fn) (F1 (F.run _ X.stack _ _ #[Γ.ref (s.heap.objs.size+1)::us,[]] (Γ.ref (s.heap.objs.size+1)::(us++ds)) _ _ E (t.make C us [])
  (c.env0.make C us []) (hb _ (Γ.ref (s.heap.objs.size+1)::us) c.kIn q) g d) λr s' a=>?_))
 cases r with
 |error e=>exact j tx σ _ _ e s' c a
 |ok fl=>
  cases fl with
  |ret u=>
   let#[v,H',p,o,l,m]:=c.after a;subst l
   exact#[o,#[V.ref (s.heap.objs.size+1),H',p,Z,m]]
  |next=>exact False.elim a
  |brk=>exact False.elim a
  |cont=>exact False.elim a
theorem BJ(M:Mk X.K C f)(F:Mj X.prog X.w X.K X.mg X.base CX k f fd ps sp)(l:Lb (k+1) X.A)(hg:Gl X x)(hm:X.mg x=↑(-C))(hb:LL X.K fd ps ds)(g:HR dvs ds)(i:cH CX X E)
  (ha:PA X (e::es) t)(a:(x==("__debug__":Str))=false:=by decide)(j:θ (e::es) X.env=(false,eval e X.env)::θ es X.env:=by rfl)(c:(backTo pos (θ es X.env)).any (·.1)=false:=by rfl):
  PE X (.Call (.Name x p) (e::es) [] pos) (AV C sp dvs E t):=by
 intro tx s σ H Q I h;refine GF (au I hg hm ?_ a)
 refine GG (h₀:=X.base) I.ok.mod.kin M.kp (qK (ha pos tx s σ H _ I h) λo m ⟨n,H1,d,r,q⟩=>#[d.kIn,?_]) j c
 exact Av M F l hb g i d r q
end
structure HH(N P:Α)(sc:Scope):Prop where
 kind:sc.kind= .function
 co:sc.isCoroutine=false
 gen:sc.isGenerator=false
 nd:N.Nodup
 pre:N.take P.length=P
 par:∀x∈P,sc.names.lookup x=some .local\/sc.names.lookup x=some .cell
 nofree:∀y∈sc.names,y.2≠ .free
theorem nh{a:Str->Option NameKind}{x:Str}:∀{binds:List (Str×Γ)} {m:HE},(∀v,(x,v)∉binds)->bindL a binds m x=m x
 | [],_,_=>rfl
 |(n,v)::r,m,h=>by
  unfold bindL;rw[nh λw c=>h w (JD _ c)]
  split
  .have:x≠n:=by rintro rfl;exact h v Jy
   simp [this]
  .rfl
theorem nF{a:Str->Option NameKind}{x:Str}:∀{binds:List (Str×Γ)} {m:HE},(∀v,(x,v)∉binds)->bindC a binds m x=m x
 | [],_,_=>rfl
 |(n,v)::r,m,h=>by
  unfold bindC;rw[nF λw c=>h w (JD _ c)]
  split
  .rfl
  .have:x≠n:=by rintro rfl;exact h v Jy
   simp [this]
theorem nQ{a:Str->Option NameKind}{x:Str}{v:Γ}:∀{P:Α} {vs:Ζ} {i:Nat} {m:HE},P.Nodup->P[i]? =↑x->vs[i]? =↑v->a x=some .local->
  bindL a (P.zip vs) m x=↑v
 | [],_,_,_,_,h,_,_=>by simp at h
 |_::_,[],_,_,_,_,h,_=>by simp at h
 |p::P,w::vs,0,m,nd,h1,h2,hk=>by
  simp at h1 h2;subst h1;subst h2
  show bindL a ((p,w)::P.zip vs) m p=_
  unfold bindL;rw[nh λv c=>(J6.mp nd).1 (List.of_mem_zip c).1,Jd hk]
  simp
 |p::P,w::vs,i+1,m,nd,h1,h2,hk=>by
  show bindL a ((p,w)::P.zip vs) m x=_
  unfold bindL;exact nQ (i:=i) (J6.mp nd).2 (by simpa using h1) (by simpa using h2) hk
theorem mR{a:Str->Option NameKind}{x:Str}{v:Γ}:∀{P:Α} {vs:Ζ} {i:Nat} {m:HE},P.Nodup->P[i]? =↑x->vs[i]? =↑v->a x≠some .local->
  bindC a (P.zip vs) m x=↑v
 | [],_,_,_,_,h,_,_=>by simp at h
 |_::_,[],_,_,_,_,h,_=>by simp at h
 |p::P,w::vs,0,m,nd,h1,h2,hk=>by
  simp at h1 h2;subst h1;subst h2
  show bindC a ((p,w)::P.zip vs) m p=_
  unfold bindC;rw[nF λv c=>(J6.mp nd).1 (List.of_mem_zip c).1,Jc hk]
  simp
 |p::P,w::vs,i+1,m,nd,h1,h2,hk=>by
  show bindC a ((p,w)::P.zip vs) m x=_
  unfold bindC;exact mR (i:=i) (J6.mp nd).2 (by simpa using h1) (by simpa using h2) hk
noncomputable def Zl(N:Α)(vs:Β):St:=vs.map some++List.replicate (N.length-vs.length) none
noncomputable def QJ(CX:gY)(P:Ξ)(w:Ω)(K:ι)(mg:HE)(base:Ψ)(N:Α)(Rg:Str)(a:Scope)(f:Δ)(d:Γ)(A:Around)(outer:Ο)(s:Θ)(H:Hp)(E:XK):Cx where
 prog:=P
 w:=w
 K:=K
 mg:=mg
 base:=base
 A:=A.deeper (envOfC Rg a s.heap.objs.size f d)
 N:=N
 s₀:=s
 H₀:=H
 env:=envOfC Rg a s.heap.objs.size f d
 outer:=outer
 stack:=envOfC Rg a s.heap.objs.size f d::outer
 ex:=[]
 calm:=true
 fn:=λ_=>true
 pn:=[]
 xe:=λe s'=>ε (model P w) (A.deeper (envOfC Rg a s.heap.objs.size f d)) (leaving (envOfC Rg a s.heap.objs.size f d) e) (λ_ c=>CX outer H s E e c) (λg c=>CX outer H s E g c) s'
theorem pR{a:Scope}(h:a.names.lookup x=some .cell):∃c,(cellsFrom n a.names []).lookup x=↑c:=by
 have q:=W.cellsFrom_some a.names n [] (.inl h);exact Gg.mp q
theorem vL{K:ι}(S:HH N ps d)(F:A.handled=none)(j:Oq P w K mg base A outer s H)(M:vs.length=ps.length)(r:HR vs us)(x:InCallC s s.heap.objs.size (bindL (envOfC Rg d s.heap.objs.size f B).kindOf (ps.zip us) λ_=>none) (cellsFrom (s.heap.objs.size+1) d.names []) (bindC (envOfC Rg d s.heap.objs.size f B).kindOf (ps.zip us) λ_=>none) C):
  HL (QJ CX P w K mg base N Rg d f B A outer s H E) [] (Zl N vs) H C:=by
 have J:ps.length<=N.length:=by have:=JK List.length S.pre;rw[Fv]at this;lia
 let#[h1,tk,rfl,hk]:=x.done;have l:∀b:Δ,b∉(QJ CX P w K mg base N Rg d f B A outer s H E).ex:=λb z=>absurd (show b∈([]:Η)from z) (by simp)
 exists #[j.mod,S.kind,12,Jf _,λy z c h1 g=>?_,λy m=>?_,λy c _ h=>?_,λ_=>F,Around.frames_deeper j.frames,.inr #[12],λb z=>absurd z (l b),j.bs,j.bsz,λb _ _=>l b,λb z=>absurd z (l b),j.funs,j.frf],
  rfl,j.bare,Un.kept hk,#[_,x.toInCall.ns,λi y v h1 g L=>?_],λy c h=>#[_,x.cell y c h],j.hok.fresh (Jf _),λy c h=>?_,λp t=>absurd (show p∈([]:HF)from t) (by simp),j.hok.kept hk
 .exact name_of_addr x.apart (Gh h1) (Gh g)
 .have m:d.names.lookup y=some .cell\/d.names.lookup y=some .free:=m
  rcases m with m|m
  .exact pR m
  .exact absurd Z (S.nofree _ (Gh m))
 .exact G0 (x.above y c (Gh h))
 .have hi:i<vs.length:=by
   unfold Zl at g
   by_cases hi:i<vs.length
   .exact hi
   .rw[Fy (by simpa using hi)]at g
    rw[List.getElem?_replicate]at g;split at g<;>cases g
  have I:vs[i]? =↑v:=by
   unfold Zl at g;rw[FH (by simpa using hi),Jp]at g
   cases e:vs[i]? with
   |none=>rw[e]at g;cases g
   |some a=>rw[e]at g;cases g;rfl
  let#[u,D,G]:=r.get I;have t:ps[i]? =↑y:=by
   rw[<- S.pre,List.getElem?_take_of_lt (by lia)];exact h1
  have o:ps.Nodup:=by rw[<- S.pre];exact S.nd.sublist (List.take_sublist _ _)
  exists u,G
  rcases S.par y (Jo t)with k|k
  .exact .inl #[k,nQ o t D k]
  .let#[c,e]:=pR (n:=s.heap.objs.size+1) k
   refine .inr #[.inl k,c,e,?_]
   have q:=x.cell y c e;rw[mR o t D (by show d.names.lookup y≠_;rw[k];decide)]at q
   exact q
 .exact j.hok.fresh (G0 (x.above y c (Gh h)))
 .unfold Zl
  show _=N.length
  rw[Jq,Jb,Ie];lia
theorem uo{K:ι}{k:Nat}{kV:Γ}{sp:Sp}(U:K.lookup f=some #[oc,od,.func (W.fnOf name Rg c d a G kV doc pm an cdv ct),osl])(D:W.codeIn K cdv Rg=true)(S:HH N ps a)(z:∀vs H Q E,sp vs H Q E->vs.length=ps.length)(h:∀(A:Around) (outer:Ο) (s:Θ) (H:Hp) (vs:Β) (Q:VK) (E:XK),Lb k (A.deeper (envOfC Rg a s.heap.objs.size f cdv))->sp vs H Q E->
   ∃t,O7 (QJ CX P w K mg base N Rg a f cdv A outer s H E) d t/\t {nx:=λ_ H'=>Q .non H',rt:=Q} (Zl N vs) H):
  Mj P w K mg base CX (k+1) f (W.fnOf name Rg c d a G kV doc pm an cdv ct) ps sp:=by
 refine#[z,λA outer s H M T vs Q E B p hb r l=>?_]
 have X:=z _ _ _ _ l;have L:K.In s.heap:=p.mod.kin.keeps λb o e=>(p.bs b o e).1
 have F:s.heap.NoLimit:=p.mod.nolimit.keeps λb o e=>(p.bs b o e).1
 have i:∀y∈ps.zip T,a.names.lookup y.1=some .local\/(a.names.lookup y.1=some .cell/\((cellsFrom (s.heap.objs.size+1) a.names []).lookup y.1).isSome=true):=λ⟨n,v⟩ hy=>by
  rcases S.par n (List.of_mem_zip hy).1 with q|q
  .exact .inl q
  .exact .inr #[q,W.cellsFrom_some _ _ _ (.inl q)]
 refine codeAny_call_function B.depth (L _ _ U) Z S.co S.gen Z (W.codeRec_of L D) (hb _ _ _ _ ?_)
 refine wpAny_newFunctionEnv_cells S.kind i λenv Y O x=>?_
 subst Y;refine#[F.keeps x.toInCall.keep,codeAny_func ?_]
 let#[t,R,hq]:=h A outer s H vs Q E (B.deeper _) l
 have I:HL (QJ CX P w K mg base N Rg a f cdv A outer s H E) [] (Zl N vs) H O:=vL S B.hd p X r x
 refine JR (R [] O (Zl N vs) H _ I hq) (λfl s' j=>?_) λe s' j=>j
 have m:∀{g:St} {H':Hp} {v:V} {u:Γ},HL (QJ CX P w K mg base N Rg a f cdv A outer s H E) [] g H' s'->HN v u->Q v H'->CE outer P w H s Q u s':=
  λ{g H' v u} J C q=>#[v,H',J.os,J.bare,J.base,J.hok,C,q]
 cases fl with
 |ret u=>
  let#[v,g,H',J,C,q]:=j;exact m J C q
 |next=>
  let#[g,H',J,q]:=j;exact m (v:=V.non) (u:=Γ.none) J Z q
 |brk=>
  let#[_,_,_,q]:=j;exact False.elim q
 |cont=>
  let#[_,_,_,q]:=j;exact False.elim q
section
variable{X:Cx}{x:Str}{e:Φ}{es:Ι}{t:TA}{id:String}{r:Β->Hp->VK->Prop}
noncomputable def EB(r:Β->Hp->VK->Prop)(t:TA):TE:=λσ H Q=>t σ H λa H1=>r a H1 Q
theorem qq(hc:Qh X (.builtin id) r)(hm:X.mg x=none)(d:bootBuiltins x=↑(.builtin id))(ha:QA X (e::es) t)(hg:Gl X x:=by rfl)(hn:x≠"__name__":=by decide)(c:(x==("__debug__":Str))=false:=by decide)(g:θ (e::es) X.env=(false,eval e X.env)::θ es X.env:=by rfl)(a:(backTo pos (θ es X.env)).any (·.1)=false:=by rfl):QE X (.Call (.Name x p) (e::es) [] pos) (EB r t):=#[by
 intro tx s σ H Q I h;refine GF (bJ I hg hm d ?_ hn c)
 exact PyProof.Rows.callWith_builtin1 (qK (ha.h pos tx s σ H _ I h) λm f ⟨j,H1,i,n,l⟩=>hc tx f σ H1 j m Q i n l) g a]
theorem qI(hc:Qh X (.type T) r)(hm:X.mg x=none)(d:bootBuiltins x=↑(.type T))(ha:QA X (e::es) t)(hg:Gl X x:=by rfl)(hn:x≠"__name__":=by decide)(c:(x==("__debug__":Str))=false:=by decide)(g:θ (e::es) X.env=(false,eval e X.env)::θ es X.env:=by rfl)(a:(backTo pos (θ es X.env)).any (·.1)=false:=by rfl):QE X (.Call (.Name x p) (e::es) [] pos) (EB r t):=#[by
 intro tx s σ H Q I h;refine GF (bJ I hg hm d ?_ hn c)
 exact Ge (qK (ha.h pos tx s σ H _ I h) λm f ⟨j,H1,i,n,l⟩=>hc tx f σ H1 j m Q i n l) g a]
end
end L2
namespace HT
open PySem PyProof.Rows
section
theorem cat_tup{t b:Δ}{vs ws:Ζ}{Q:HD}(r:IsTup s.heap t vs.toArray)(hb:IsTup s.heap b ws.toArray)(m:vs≠[])
  (h1:ws=[]->Q (-t) s)(u:ws≠[]->Q (-s.heap.objs.size) {s with heap:=s.heap.push {cls:= .type "tuple",data:= .seq (vs++ws).toArray}})
  (hsz:vs.length+ws.length<=ζ):ε (model prog w) A (binaryOp .Add (-t) (-b)) Q E s:=by
 let#[#[cls,dd,data,p],i,q,n,l]:=id r;let#[#[o,f,j,g],a,c,n2,d]:=id hb;simp only at q l c d
 subst q l c d;have e:vs.toArray++ws.toArray=(vs++ws).toArray:=by simp
 by_cases h:ws=[]
 .exact concat_meets #[_,i,Z] #[_,a,Z] noFill_tuple_add seq_tuple_add IF IG (IH _ _)
   (tuple_addW1 t b vs.toArray ws.toArray n n2 dd f p g (by simpa using m) (by simp [h])) #[i,a,h1 h]
 .refine concat_meets #[_,i,Z] #[_,a,Z] noFill_tuple_add seq_tuple_add IF IG (IH _ _)
   (tuple_addW2 t b vs.toArray ws.toArray n n2 dd f p g (by simpa using m) (by simpa using h) (by rw[JC,JC];exact hsz)) #[i,a,?_]
  rw[e];exact u h
noncomputable def sIx(n d:Nat):Λ->Nat
 |none=>d
 |some v=>if v<0 then(v+(n:Int)).toNat else min v.toNat n
theorem DM(n d:Nat)(c:d<=n)(o:Λ):sIx n d o<=n:=by
 cases o with
 |none=>exact c
 |some v=>
  show(if v<0 then(v+(n:Int)).toNat else min v.toNat n)<=n
  by_cases a:v<0
  .rw[Jd a];lia
  .rw[Jc a];exact Ig _ _
theorem tG(v:Int)(n d:Nat):(if v<0 then max (v+(n:Int)) 0 else min v (n:Int))=((sIx n d ↑v:Nat):Int):=by
 show(if v<0 then max (v+(n:Int)) 0 else min v (n:Int))=(((if v<0 then(v+(n:Int)).toNat else min v.toNat n):Nat):Int)
 by_cases a:v<0
 .simp only[Jd a];lia
 .simp only[Jc a];lia
theorem uv(lo hi:Λ)(n:Nat):γ.Slice.sliceAdjust lo hi 1 (n:Int)=(((sIx n 0 lo:Nat):Int),((sIx n n hi:Nat):Int)):=by
 have h1:¬((1:Int)<0):=by lia
 unfold γ.Slice.sliceAdjust;simp only[h1,Gi];refine Prod.ext ?_ ?_
 .cases lo with
  |none=>rfl
  |some v=>exact tG v n 0
 .cases hi with
  |none=>rfl
  |some v=>exact tG v n n
theorem um(i j:Nat):γ.Slice.slicePlaces (i:Int) (j:Int) 1=j-i:=by
 unfold γ.Slice.slicePlaces;have h1:(1:Int)>0:=by lia
 simp only[h1,FA,Int.ediv_one];split<;>lia
theorem kI{v:Γ}{o:Λ}{Q:Λ->Θ->Prop}(p:IsPart v o)(h:Q o s):ε (model prog w) A (γ.Slice.slicePartIndex v) Q E s:=by
 cases p with
 |none=>exact slicePart_none h
 |int i t=>exact slicePart_int h
theorem sliceApplied_gen{f:Δ}{e d:Γ}{lo hi:Λ}{n:Nat}{Q:Int×Int×Nat->Θ->Prop}(hs:s.heap.IsSliceOf f e d .none)(pl:IsPart e lo)(i:IsPart d hi)
  (h:Q (((sIx n 0 lo:Nat):Int),1,sIx n n hi-sIx n 0 lo) s):ε (model prog w) A (γ.Slice.sliceApplied (-f) (pure (n:Int))) Q E s:=by
 let#[os,c,g,a]:=id hs;unfold γ.Slice.sliceApplied γ.Slice.sliceFields;refine Ja (Ja (JJ c a (x:=e) Z (Ja (JJ c a (x:=d) Z (Ja (JJ c a (x:= .none) Z (Ji ?_)))))))
 refine Ja (slicePart_none ?_)
 show ε _ _ (if((1:Int)==0)=true then _ else _) _ _ s
 rw[Jc ⋯]
 refine Ja (kI pl (Ja (kI i (Ja (Ji ?_)))))
 show ε _ _ (match γ.Slice.sliceAdjust lo hi 1 (n:Int)with|(lo,hi)=>pure (lo,(1:Int),γ.Slice.slicePlaces lo hi 1)) _ _ s
 rw[uv lo hi n]
 show ε _ _ (pure (((sIx n 0 lo:Nat):Int),(1:Int),γ.Slice.slicePlaces ((sIx n 0 lo:Nat):Int) ((sIx n n hi:Nat):Int) 1)) _ _ s
 rw[um];exact Ji h
theorem wH(xs:Array Γ)(i k:Nat):((List.range k).filterMap λ(m:Nat)=>xs[((i:Int)+(m:Int)*1).toNat]?).toArray=((xs.toList.drop i).take k).toArray:=by
 have e:(λ(m:Nat)=>xs[((i:Int)+(m:Int)*1).toNat]?)=λm=>xs[i+m]? :=by
  funext m
  have:((i:Int)+(m:Int)*1).toNat=i+m:=by lia
  rw[this]
 rw[e]
 have:=pick_run xs i k
 rw[List.filterMap_map]at this;have a:((λx=>xs[x]?)∘λx=>i+x)=λm=>xs[i+m]? :=Z
 rw[a]at this;rw[this]
theorem getItem_tuple_cut{t f:Δ}{items:Array Γ}{j l:Γ}{lo hi:Λ}{Q:HD}(c:IsTup s.heap t items)(hs:s.heap.IsSliceOf f j l .none)(pl:IsPart j lo)(p:IsPart l hi)
  (n:¬(sIx items.size 0 lo=0/\sIx items.size items.size hi=items.size))
  (h:Q (-s.heap.objs.size) {s with heap:=s.heap.push {cls:= .type "tuple",data:= .seq ((items.toList.drop (sIx items.size 0 lo)).take (sIx items.size items.size hi-sIx items.size 0 lo)).toArray}})
  (hsz:items.size<=ζ):ε (model prog w) A (getItem (-t) (-f)) Q E s:=by
 have a:sizeOk (.seq ((items.toList.drop (sIx items.size 0 lo)).take (sIx items.size items.size hi-sIx items.size 0 lo)).toArray):=by
  show((items.toList.drop (sIx items.size 0 lo)).take (sIx items.size items.size hi-sIx items.size 0 lo)).toArray.size<=ζ
  rw[JC,Fv,Ih,GB];lia
 have r:sIx items.size items.size hi<=items.size:=DM _ _ (Jf _) hi
 let#[os,e,g,o]:=id hs;have i:s.TypeIs (-f) "slice":=#[os,e,g]
 unfold getItem
 try with_reducible refine J5 ?_
 first|refine Ja (Ji ?_)|skip
 refine Ja (wpAny_sequenceKey c.typeIs ⋯ ?_)
 refine Ja (wpAny_callSpecial?_slot (name:=Str.ofString "__getitem__") c.typeIs Ii
  (J9 Ii c.typeIs entry_tuple_getitem ?_ (args_tuple_getitem _ _)))
 show ε _ _ (γ.Tuple.tupleItemsOf (-t) >>= _) _ _ s
 refine Ja (tupleItemsOf_ c ?_)
 refine Ja (wpAny_typeOf i ?_)
 rw[Jd ⋯]
 refine Ja (sliceApplied_gen hs pl p ?_)
 have d:¬((((sIx items.size 0 lo:Nat):Int)==0&&(1:Int)==1&&(sIx items.size items.size hi-sIx items.size 0 lo)==items.size)=true):=by
  intro q;rw[JX,JX]at q;have v:((sIx items.size 0 lo:Nat):Int)=0:=eq_of_beq q.1.1
  have u:sIx items.size items.size hi-sIx items.size 0 lo=items.size:=eq_of_beq q.2
  exact n #[by lia,by lia]
 show ε _ _ (if(((sIx items.size 0 lo:Nat):Int)==0&&(1:Int)==1&&(sIx items.size items.size hi-sIx items.size 0 lo)==items.size)=true then _ else _) _ _ s
 rw[Jc d,wH]
 first
  |exact Ja (m:=γ.Tuple.tupleExact _) (Ft (Ji ⟨_,rfl,Ji h⟩) a)
  |exact Ja (m:=γ.Tuple.tupleExact _) (Ft (Ja (Ji (Ji ⟨_,rfl,Ji h⟩))) a)
  |exact Ja (Ja (m:=γ.Tuple.tupleExact _) (Ft (Ji (Ji ⟨_,rfl,Ji h⟩)) a))
  |exact Ja (Ja (m:=γ.Tuple.tupleExact _) (Ft (Ji ⟨_,rfl,Ji h⟩) a))
end
end HT
namespace L2
open PySem PySem.Spec PyProof.Rows
abbrev TO:=St->Hp->(Λ->Hp->Prop)->Prop
def PO(X:Cx)(e:Υ)(t:TO):Prop:=
 ∀(tx:HF) (s:Θ) (σ:St) (H:Hp) (Q:Λ->Hp->Prop),HL X tx σ H s->t σ H Q->
  ε (model X.prog X.w) X.A (evalPart e X.env) (λu s'=>∃o H',HL X tx σ H' s'/\IsPart u o/\Q o H') X.xe s
structure QO(X:Cx)(e:Υ)(t:TO):Prop where
 h:PO X e t
def BY:TO:=λ_ H Q=>Q none H
noncomputable def Eb(t:TE):TO:=λσ H Q=>t σ H λx H1=>∃i,x= .int i/\Q ↑i H1
section
variable{X:Cx}{e:Φ}{te:TE}{lo hi:Υ}{tl th:TO}{pos p2:Pos}
theorem cz:QO X none BY:=#[by
 intro tx s σ H Q I h;rw[evalPart_none];exact Ji #[none,H,I,.none,h]]
theorem cy(h:QE X e te):QO X ↑e (Eb te):=#[by
 intro tx s σ H Q I a;rw[evalPart_some];refine qK (h.h tx s σ H _ I a) λu j d=>?_
 let#[x,H1,c,g,f]:=d;let#[i,rfl,q]:=f;let#[t,rfl]:=g
 exact#[↑i,H1,c,.int i t,q]]
def AG(X:Cx)(r:V->Λ->Λ->Hp->VK->Prop):Prop:=
 ∀(tx:HF) (s:Θ) (σ:St) (H:Hp) (x:V) (v a c:Γ) (lo hi:Λ) (d:Δ) (Q:VK),HL X tx σ H s->HN x v->s.heap.IsSliceOf d a c .none->IsPart a lo->IsPart c hi->r x lo hi H Q->
  ∃T id,typeLookup (.type T) "__getitem__"=pure ↑(.builtin id)/\s.TypeIs v T/\ε (model X.prog X.w) X.A (getItem v (-d)) (EP X tx σ Q) X.xe s
noncomputable def Fj(r:V->Λ->Λ->Hp->VK->Prop)(te:TE)(tl th:TO):TE:=λσ H Q=>te σ H λx H1=>tl σ H1 λl a=>th σ a λu H3=>r x l u H3 Q
theorem a8(m:AG X r)(F:QE X e te)(C:QO X lo tl)(D:QO X hi th):QE X (.Subscript e (.Slice lo hi none p2) pos) (Fj r te tl th):=#[by
 intro tx s σ H Q I h;refine Subscript_ (qK (F.h tx s σ H _ I h) λv w f=>?_)
 let#[x,H1,G,K,A]:=f;refine wpAny_Slice (qK (C.h tx w σ H1 _ G A) λc E ⟨l,z,o,J,i⟩=>qK (D.h tx E σ z _ o i) λd a f=>?_)
 let#[u,H3,B,n,y]:=f;rw[evalPart_none];refine Ji ?_
 have t:HL X tx σ H3 {a with heap:=a.heap.push {cls:= .type "slice",data:= .fields (List.toArray [c,d,.none])}}:=B.kept (t':=a.toks) λb L q=>Jj _ q
 let#[T,id,j,g,p]:=m tx {a with heap:=a.heap.push {cls:= .type "slice",data:= .fields (List.toArray [c,d,.none])}} σ H3 x v c d l u a.heap.objs.size Q t K (Ψ.IsSliceOf.new ..) J n y
 show ε (model X.prog X.w) X.A (subscriptTail e (.Slice lo hi none p2) v (-a.heap.objs.size)) (EP X tx σ Q) X.xe {a with heap:=a.heap.push {cls:= .type "slice",data:= .fields (List.toArray [c,d,.none])}}
 exact tail_any (ops:=[-a.heap.objs.size,v]) g j p (by with_unfolding_all rfl)]
noncomputable def bV(xs:Β)(lo hi:Λ):Β:=(xs.drop (HT.sIx xs.length 0 lo)).take (HT.sIx xs.length xs.length hi-HT.sIx xs.length 0 lo)
theorem jz(xs:Β)(lo hi:Λ):(bV xs lo hi).length<=xs.length:=by
 unfold bV;rw[Fv,Ih];lia
inductive PD (K:ι) (x:V) (lo:Λ) (hi:Λ) (H:Hp) (Q:VK):Prop
 |mk (a:_) (xs:_) (h1:x= .ref a) (h2:HQ K H a xs) (h3:¬(HT.sIx xs.length 0 lo=0/\HT.sIx xs.length xs.length hi=xs.length)) (h4:∀p,H p=none->Q (-p) (HI H p (.tup (bV xs lo hi))))
def Fa(K:ι):V->Λ->Λ->Hp->VK->Prop:=λx lo hi H Q=>PD K x lo hi H Q
theorem Cw:AG X (Fa X.K):=by
 intro tx s σ H x v p u lo hi t Q I j l m n h;let#[a,xs,rfl,g,i,q]:=h;cases j;let#[d,r,e,f]:=I.tuple g;have c:d.toArray.size=xs.length:=by rw[JC];exact r.length.symm
 exists "tuple",_,PyProof.Rows.slot_tuple_getitem.lookup,e.typeIs
 refine HT.getItem_tuple_cut e l m n (by rw[c];exact i) ?_ (by rw[c];exact f)
 rw[c];refine#[-s.heap.objs.size,_,I.laid (t':=s.toks) (o:= .tup (bV xs lo hi)) (λb w q=>Jj _ q) (Jf _) ?_,Z,q _ (I.hok.fresh (Jf _))]
 exact#[JI (jz xs lo hi) f,_,(r.drop (HT.sIx xs.length 0 lo)).take (HT.sIx xs.length xs.length hi-HT.sIx xs.length 0 lo),IsTup.new _ _]
inductive Pm (K:ι) (x:V) (y:V) (H:Hp) (Q:VK):Prop
 |mk (a:_) (b:_) (xs:_) (ys:_) (h1:x= .ref a) (h2:y= .ref b) (h3:HQ K H a xs) (h4:HQ K H b ys) (h5:xs≠[]) (h6:xs.length+ys.length<=ζ) (h7:(ys=[]->Q (-a) H)) (h8:(ys≠[]->∀p,H p=none->Q (-p) (HI H p (.tup (xs++ys)))))
def Eu(K:ι):R2:=λx y H Q=>Pm K x y H Q
theorem HR.nil_iff(r:HR xs us):us=[]↔xs=[]:=by
 cases r with
 |nil=>simp
 |cons _ _=>simp
theorem BU:Qq X (binaryOp .Add) (Eu X.K):=by
 intro tx s σ H x y v u Q I i l h;let#[a,b,xs,ys,rfl,rfl,r,j,g,e,t,n]:=h;cases i;cases l;let#[m,d,p,_]:=I.tuple r;let#[f,c,p2,_]:=I.tuple j;refine HT.cat_tup p p2 (λz=>g (d.nil_iff.mp z)) (λz=>#[-a,H,I,Z,t (c.nil_iff.mp z)]) (λz=>?_) (by rw[<- d.length,<- c.length];exact e)
 refine#[-s.heap.objs.size,_,I.laid (t':=s.toks) (o:= .tup (xs++ys)) (λb A q=>Jj _ q) (Jf _) ?_,Z,n (λw=>z (c.nil_iff.mpr w)) _ (I.hok.fresh (Jf _))]
 exact#[by rw[Jq];exact e,_,d.append c,IsTup.new _ _]
end
noncomputable def bM(n:Nat)(i:Int):Option Nat:=if 0<=i then(if i<n then ↑i.toNat else none)else if -(n:Int)<=i then some (i+n).toNat else none
noncomputable def Q3{α:Type}(xs:List α)(i:Int):Option α:=(bM xs.length i).bind λj=>xs[j]?
theorem sK(h:bM n i=↑j):seqIndex? i n=↑j/\j<n/\ -(n:Int)<=i/\i<n:=by
 unfold bM at h
 by_cases a:0<=i
 .rw[Jd a]at h
  by_cases h1:i<n
  .rw[Jd h1]at h
   have e:i.toNat=j:=JF h
   exact#[by rw[seqIndex_of a h1,e],by lia,by lia,h1]
  .rw[Jc h1]at h;cases h
 .rw[Jc a]at h
  by_cases h1: -(n:Int)<=i
  .rw[Jd h1]at h
   have e:(i+n).toNat=j:=JF h
   exact#[by rw[seqIndex_neg (by lia) h1,e],by lia,h1,by lia]
  .rw[Jc h1]at h;cases h
theorem tu{α:Type}{xs:List α}{v:α}(h:Q3 xs i=↑v):∃j,seqIndex? i xs.length=↑j/\xs[j]? =↑v/\j<xs.length/\ -(xs.length:Int)<=i/\i<xs.length:=by
 unfold Q3 at h;cases e:bM xs.length i with
 |none=>rw[e]at h;cases h
 |some j=>
  rw[e]at h;let#[h1,a,c,d]:=sK e
  exact#[j,h1,h,a,c,d]
theorem Qe{α:Type}{xs:List α}{j:Nat}{v:α}(h:xs[j]? =↑v):Q3 xs (j:Int)=↑v:=by
 have a:j<xs.length:=(Jt.mp h).1
 have e:bM xs.length (j:Int)=↑j:=by
  unfold bM;rw[Jd (by lia),Jd (by lia)];simp
 unfold Q3;rw[e];exact h
def Ch(b:Φ):Prop:=∀o i,subscripted b false o i=operate [o,i] (getItem o i)
def O9(X:Cx)(r:R2):Prop:=
 ∀(value a:Φ) (tx:HF) (s:Θ) (σ:St) (H:Hp) (x y:V) (v u:Γ) (Q:VK),HL X tx σ H s->HN x v->HN y u->r x y H Q->
  subscripted a false v u=operate [v,u] (getItem v u)->ε (model X.prog X.w) X.A (subscriptTail value a v u) (EP X tx σ Q) X.xe s
def iK(X:Cx)(id:String)(r:V->Β->Hp->VK->Prop):Prop:=
 ∀(tx:HF) (s:Θ) (σ:St) (H:Hp) (x:V) (xs:Β) (v:Γ) (a:Ζ) (Q:VK),HL X tx σ H s->HN x v->HR xs a->r x xs H Q->
  ε (model X.prog X.w) X.A (call (.builtin id) (v::a)) (EP X tx σ Q) X.xe s
section
variable{X:Cx}{a b:Φ}
theorem O9.or{r e:R2}(h:O9 X r)(h':O9 X e):O9 X (λx y H Q=>r x y H Q\/e x y H Q):=by
 intro value a tx s σ H x y v u Q I c d q f;rcases q with q|q
 .exact h value a tx s σ H x y v u Q I c d q f
 .exact h' value a tx s σ H x y v u Q I c d q f
theorem qE{b:Φ}(i:O9 X r)(ha:QE X a ta)(hb:QE X b tb)(hs:Ch b:=by exactλ_ _=>rfl):QE X (.Subscript a b pos) (AR r ta tb):=#[by
 intro tx s σ H Q I h;exact Subscript_ (wR ha.h hb.h I h λv u c x y f g d e q=>i a b tx c σ f x y v u Q g d e q (hs _ _))]
inductive PF (K:ι) (x:V) (y:V) (H:Hp) (Q:VK):Prop
 |mk (p:_) (xs:_) (i:_) (v:_) (h1:x= .ref p) (h2:y= .int i) (h3:HP K H p xs) (h4:Q3 xs i=↑v) (h5:Q v H)
def Dx(K:ι):R2:=λx y H Q=>PF K x y H Q
inductive PH (K:ι) (x:V) (y:V) (H:Hp) (Q:VK):Prop
 |mk (p:_) (xs:_) (i:_) (v:_) (h1:x= .ref p) (h2:y= .int i) (h3:HQ K H p xs) (h4:Q3 xs i=↑v) (h5:Q v H)
def Am(K:ι):R2:=λx y H Q=>PH K x y H Q
theorem qU:O9 X (Dx X.K):=by
 intro value f tx s σ H x y v u Q I E o h m;let#[p,xs,i,z,rfl,rfl,G,F,q]:=h;cases E;let#[t,rfl]:=o;let#[c,r,g,J]:=I.list G;let#[j,h1,B,K,D,A]:=tu F;let#[w,n,d]:=r.get B;have C:=r.length;have L:=bP;have a:EP X tx σ Q w s:=#[z,H,I,d,q]
 by_cases l:0<=i
 .have e:i.toNat=j:=by
   rw[seqIndex_of l A]at h1;exact JF h1
  exact item_listR g.isList l (by lia) (by rw[e];simpa using n) a m
 .have e:(i+(c.toArray.size:Int)).toNat=j:=by
   rw[seqIndex_neg (by lia) D]at h1
   rw[JC,<- C];exact JF h1
  exact subscriptTail_builtinR (x:=w) g.isList.typeIs slot_list_getitem.lookup
   (wpAny_getItem_list_neg (Q:=λr s'=>r=w/\EP X tx σ Q r s') g.isList (by lia) (by rw[JC]<;>lia) (by lia) (by rw[e];simpa using n) #[Z,a]) m
theorem qS:O9 X (Am X.K):=by
 intro value d tx s σ H x y v u Q I A f h l;let#[p,xs,i,z,rfl,rfl,C,B,q]:=h;cases A;let#[t,rfl]:=f;let#[g,r,e,D]:=I.tuple C;let#[j,h1,m,E,G,F]:=tu B;let#[w,n,a]:=r.get m;have o:=r.length;have J:=bP;have c:EP X tx σ Q w s:=#[z,H,I,a,q]
 exact subscriptTail_builtinR (x:=w) e.typeIs slot_tuple_getitem.lookup
  (getItem_tuple (j:=j) (Q:=λr s'=>r=w/\EP X tx σ Q r s') e (by lia) (by lia) (by rw[JC,<- o];exact h1) (by simpa using n) #[Z,c]) l
theorem ua(its:Ζ)(n j:Nat)(u:Γ):Obj.mapSeq (·.setIfInBounds j u) {cls:= .type "list",data:= .seq its.toArray n}={cls:= .type "list",data:= .seq (its.set j u).toArray n}:=by
 simp [Obj.mapSeq]
theorem HL.lst(I:HL X tx σ H s)(h:H p=↑(.lst xs)):
  ∃(its:Ζ) (n:Nat),HR xs its/\s.heap.get? p=some {cls:= .type "list",data:= .seq its.toArray n}/\xs.length<=ζ:=by
 let#[z,its,n,r,e]:=I.hok p _ h
 exact#[its,n,r,e,z]
theorem HL.lstUpd{its:Ζ}{a:Nat}(I:HL X tx σ H s)(h:H p=↑(.lst xs))(ho:s.heap.get? p=some {cls:= .type "list",data:= .seq its.toArray n})(c:f {cls:= .type "list",data:= .seq its.toArray n}={cls:= .type "list",data:= .seq its'.toArray a})(r:HR ys its')(d:ys.length<=ζ)(t:Nat):
  HL X tx σ (HI H p (.lst ys)) {s with heap:=s.heap.update p f,toks:=t}:=by
 have e:(s.heap.update p f).get? p=some {cls:= .type "list",data:= .seq its'.toArray a}:=by
  rw[FQ f ho (by rw[c]<;>rfl),c]
 refine I.write (x:=p) (e:=p) (by rw[h];trivial) (.inl Z) (λb u g q=>(FJ _ _ (Ne.symm g)).trans q) #[_,e] ?_
 exact#[d,its',a,r,e]
inductive Pn (o:V) (i:V) (v:V) (H:Hp) (Q:Hp->Prop):Prop
 |mk (p:_) (xs:_) (k:_) (j:_) (h1:o= .ref p) (h2:i= .int k) (h3:H p=↑(.lst xs)) (h4:bM xs.length k=↑j) (h5:Q (HI H p (.lst (xs.set j v))))
def Eo:V->V->V->Hp->(Hp->Prop)->Prop:=λo i v H Q=>Pn o i v H Q
theorem Zz:yd X Eo:=by
 intro tx s σ H o i v D E u Q I A x z h;let#[p,xs,k,j,rfl,rfl,l,w,q]:=h;cases A;let#[t,rfl]:=x;let#[a,n,r,c,y]:=I.lst l;let#[h1,B,g,m]:=sK w;have d:=r.length;have C:=bP;have f:HL X tx σ (HI H p (.lst (xs.set j v))) {s with heap:=s.heap.update p (Obj.mapSeq (·.setIfInBounds j u))}:=
  I.lstUpd l c (ua a n j u) (r.set z j) (by rw[FR];exact y) s.toks
 by_cases e:0<=k
 .have hk:k.toNat=j:=by
   rw[seqIndex_of e m]at h1;exact JF h1
  exact W.ki_setAt c e (by lia) (by rw[JC,<- d];exact m) (by rw[hk];exact#[_,f,q])
 .have hk:(k+(a.toArray.size:Int)).toNat=j:=by
   rw[seqIndex_neg (by lia) g]at h1
   rw[JC,<- d];exact JF h1
  exact W.ki_setBack c (by lia) (by rw[JC,<- d];exact g) (by lia) (by rw[hk];exact#[_,f,q])
theorem rM(lo hi:Λ)(n:Nat):(sliceBounds lo hi none n).1=((HT.sIx n 0 lo:Nat):Int)/\(sliceBounds lo hi none n).2.1=((HT.sIx n n hi:Nat):Int)/\(sliceBounds lo hi none n).2.2=1:=by
 refine#[?_,?_,Z]
 .cases lo with
  |none=>simp [sliceBounds,HT.sIx]
  |some i=>
   simp only[sliceBounds,HT.sIx,Option.getD_none,show(1:Int)>0 by decide,FA]
   by_cases h:i<0
   .simp only[h,FA]<;>lia
   .simp only[h,Gi]<;>lia
 .cases hi with
  |none=>simp [sliceBounds,HT.sIx]
  |some i=>
   simp only[sliceBounds,HT.sIx,Option.getD_none,show(1:Int)>0 by decide,FA]
   by_cases h:i<0
   .simp only[h,FA]<;>lia
   .simp only[h,Gi]<;>lia
theorem nW(its:Ζ)(lo hi:Λ):slicePick its.toArray lo hi none=((its.drop (HT.sIx its.length 0 lo)).take (HT.sIx its.length its.length hi-HT.sIx its.length 0 lo)).toArray:=by
 let#[h1,a,c]:=rM lo hi its.toArray.size;unfold slicePick;rw[h1,a,c];simp only[sliceRange_one,pick_run,JC]<;>rfl
inductive PJ (K:ι) (x:V) (lo:Λ) (hi:Λ) (H:Hp) (Q:VK):Prop
 |mk (a:_) (xs:_) (h1:x= .ref a) (h2:HP K H a xs) (h3:∀p,H p=none->Q (-p) (HI H p (.lst (bV xs lo hi))))
def EV(K:ι):V->Λ->Λ->Hp->VK->Prop:=λx lo hi H Q=>PJ K x lo hi H Q
theorem Cf:AG X (EV X.K):=by
 intro tx s σ H x v n t lo hi p Q I f g l m h;let#[a,xs,rfl,e,q]:=h;cases f;let#[i,r,d,j]:=I.list e;have c:=r.length;exists "list",_,slot_list_getitem.lookup,d.isList.typeIs
 refine wpAny_getItem_list_slice d.isList g l m .none (by simp) ?_ (by rw[JC]<;>lia)
 rw[nW,<- c];refine#[-s.heap.objs.size,_,I.laid (t':=s.toks) (o:= .lst (bV xs lo hi)) (λb u q=>Jj _ q) (Jf _) ?_,Z,q _ (I.hok.fresh (Jf _))]
 exact#[JI (jz xs lo hi) j,_,(0),(r.drop (HT.sIx xs.length 0 lo)).take (HT.sIx xs.length xs.length hi-HT.sIx xs.length 0 lo),Ju _ Z]
noncomputable def cp:V->Bool
 | .non=>true
 | .bl _=>true
 | .int _=>true
 | .str _=>true
 |_=>false
noncomputable def e7:V->V->Bool
 | .non,.non=>true
 | .bl a,.bl b=>a==b
 | .bl a,.int b=>(if a then 1 else 0)==b
 | .int a,.bl b=>a==(if b then 1 else 0)
 | .int a,.int b=>a==b
 | .str a,.str b=>a==b
 |_,_=>false
theorem Dt{A:Around}{s:Θ}{y x:V}{u v:Γ}(e:HN y u)(c:HN x v)(g:cp y=true)(f:cp x=true):SeqAt.EqAt A s u v (e7 y x):=by
 cases y with
 |non=>
  cases e;cases x with
  |non=>cases c;exact SeqAt.EqAt.same _
  |bl b=>cases c;exact SeqAt.EqAt.none_bool b
  |int b=>let#[t,rfl]:=c;exact SeqAt.EqAt.none_int b t
  |str b=>let#[t,rfl]:=c;exact SeqAt.EqAt.none_str b t
  |_=>exact absurd (show false=true from f) JH
 |bl a=>
  cases e;cases x with
  |non=>cases c;exact SeqAt.EqAt.bool_none a
  |bl b=>cases c;exact SeqAt.EqAt.bool_bool a b
  |int b=>let#[t,rfl]:=c;exact SeqAt.EqAt.bool_int a b t
  |str b=>let#[t,rfl]:=c;exact SeqAt.EqAt.bool_str a b t
  |_=>exact absurd (show false=true from f) JH
 |int a=>
  let#[d,rfl]:=e;cases x with
  |non=>cases c;exact SeqAt.EqAt.int_none a d
  |bl b=>cases c;exact SeqAt.EqAt.int_bool a d b
  |int b=>let#[t,rfl]:=c;exact SeqAt.EqAt.int_int a d b t
  |str b=>let#[t,rfl]:=c;exact SeqAt.EqAt.int_str a d b t
  |_=>exact absurd (show false=true from f) JH
 |str a=>
  let#[d,rfl]:=e;cases x with
  |non=>cases c;exact SeqAt.EqAt.str_none a d
  |bl b=>cases c;exact SeqAt.EqAt.str_bool a d b
  |int b=>let#[t,rfl]:=c;exact SeqAt.EqAt.str_int a d b t
  |str b=>let#[t,rfl]:=c;exact SeqAt.EqAt.str_str a d b t
  |_=>exact absurd (show false=true from f) JH
 |_=>exact absurd (show false=true from g) JH
noncomputable def cT(x:V)(u:Γ):Bool:=match u with
 | .none=>e7 .non x
 | .bool b=>e7 (.bl b) x
 | .int i _=>e7 (.int i) x
 | .str z _=>e7 (.str z) x
 |_=>false
theorem uU(r:HN y u)(f:cp y=true):cT x u=e7 y x:=by
 cases y with
 |non=>cases r;rfl
 |bl b=>cases r;rfl
 |int i=>let#[t,rfl]:=r;rfl
 |str z=>let#[t,rfl]:=r;rfl
 |_=>exact absurd (show false=true from f) JH
theorem fB{x:V}:∀{xs:Β} {us:Ζ},HR xs us->xs.all cp=true->us.any (cT x)=xs.any λy=>e7 y x
 |_,_,.nil,_=>rfl
 |y::xs,u::us,.cons r t,f=>by
  rw[List.all_cons,JX]at f;rw[Gj,Gj,uU r f.1,fB t f.2]
theorem cR{A:Around}{s:Θ}{x:V}{v:Γ}(d:HN x v)(c:cp x=true):∀{xs:Β} {us:Ζ},HR xs us->xs.all cp=true->∀u∈us,SeqAt.EqAt A s u v (cT x u)
 |_,_,.nil,_=>λu a=>by cases a
 |y::xs,u::us,.cons r t,f=>λe a=>by
  rw[List.all_cons,JX]at f;rcases Jh.mp a with rfl|a
  .rw[uU r f.1];exact Dt r d f.1 c
  .exact cR d c t f.2 e a
noncomputable def AS(x:V)(xs:Β):Bool:=xs.any λy=>e7 y x
inductive P3 (K:ι) (neg:Bool) (x:V) (y:V) (H:Hp) (Q:VK):Prop
 |mk (p:_) (xs:_) (h1:y= .ref p) (h2:(HP K H p xs\/HQ K H p xs)) (h3:cp x=true) (h4:xs.all cp=true) (h5:Q (.bl (if neg then ! AS x xs else AS x xs)) H)
noncomputable def Ez(K:ι)(a:Bool):R2:=λx y H Q=>P3 K a x y H Q
theorem bC:Qq X (compareOp .In) (Ez X.K false):=by
 intro tx s σ H x y v u Q I f i h;let#[p,xs,rfl,c,g,fs,q]:=h;cases i;rcases c with c|c
 .let#[a,r,e,j]:=I.list c
  refine SeqAt.in_listAt (cT x) e.isList (λw d=>cR f g r fs w (by simpa using d)) #[.bl _,H,I,Z,?_]
  rw[show a.toArray.any (cT x)=a.any (cT x) by simp,fB r fs]
  exact q
 .let#[a,r,e,j]:=I.tuple c
  refine SeqAt.in_tupleAt (cT x) e (λw d=>cR f g r fs w (by simpa using d)) #[.bl _,H,I,Z,?_]
  rw[show a.toArray.any (cT x)=a.any (cT x) by simp,fB r fs]
  exact q
theorem rR:Qq X (compareOp .NotIn) (Ez X.K true):=by
 intro tx s σ H x y v u Q I f i h;let#[p,xs,rfl,c,g,fs,q]:=h;cases i;rcases c with c|c
 .let#[a,r,e,j]:=I.list c
  refine SeqAt.notIn_listAt (cT x) e.isList (λw d=>cR f g r fs w (by simpa using d)) #[.bl _,H,I,Z,?_]
  rw[show a.toArray.any (cT x)=a.any (cT x) by simp,fB r fs]
  exact q
 .let#[a,r,e,j]:=I.tuple c
  refine SeqAt.notIn_tupleAt (cT x) e (λw d=>cR f g r fs w (by simpa using d)) #[.bl _,H,I,Z,?_]
  rw[show a.toArray.any (cT x)=a.any (cT x) by simp,fB r fs]
  exact q
theorem qL:Qh X (.builtin "len") (λxs H Q=>∃p ys,xs=[-p]/\(HP X.K H p ys\/HQ X.K H p ys)/\Q (.int ys.length) H):=by
 intro tx s σ H xs j Q I r h;let#[p,ys,rfl,c,q]:=h;let#[u,rfl,g]:=Q1 r;cases g;have l:=bP;rcases c with c|c
 .let#[d,e,f,i]:=I.list c
  have a:=e.length;exact Calls.call_len_list f.isList (by simp only[JC]<;>lia) #[.int ys.length,H,I.tok _,#[s.toks+1,by rw[JC,a]],q]
 .let#[d,e,f,i]:=I.tuple c
  have a:=e.length;exact len_tuple f (by simp only[JC]<;>lia) #[.int ys.length,H,I.tok _,#[s.toks+1,by rw[JC,a]],q]
theorem pe:Qh X (.builtin "len") (λxs H Q=>∃z,xs=[.str z]/\z.length<=ζ/\Q (.int z.length) H):=by
 intro tx s σ H xs d Q I r h;let#[z,rfl,a,q]:=h;let#[u,rfl,t,rfl]:=Q1 r;have c:=bP;exact len_str (by lia) #[.int z.length,H,I.tok _,#[0],q]
theorem QM:Qh X (.type "list") (λxs H Q=>∃p ys,xs=[-p]/\(HP X.K H p ys\/HQ X.K H p ys)/\∀l,H l=none->Q (-l) (HI H l (.lst ys))):=by
 intro tx s σ H xs y Q I r h;let#[p,ys,rfl,j,q]:=h;let#[u,rfl,x]:=Q1 r;cases x;have i:∀(a:Ζ),HR ys a->ys.length<=ζ->∀(h':Ψ) (c':Nat),(∀b o',s.heap.get? b=↑o'->h'.get? b=↑o')->
   h'.get? s.heap.objs.size=some {cls:= .type "list",dict:=none,data:= .seq a.toArray c',slots:= (List.toArray [])}->EP X tx σ Q (-s.heap.objs.size) {s with heap:=h'}:=λa c f h' c' g e=>
  #[-s.heap.objs.size,_,I.laid (t':=s.toks) g (Jf _) (show HY X.prog X.w _ h' _ (.lst ys)from#[f,a,c',c,e]),Z,q _ (I.hok.fresh (Jf _))]
 rcases j with j|j
 .let#[a,c,w,f]:=I.list j
  have d:=c.length;let#[o,t,v,n,m]:=w.isList;exact call_list_seq p (.inl Z) t v m (λh' c' g e=>i a c f h' c' g e) (by simp only[JC]<;>lia)
 .let#[a,c,w,f]:=I.tuple j
  have d:=c.length;let#[o,t,v,n,m]:=w;exact call_list_seq p (.inr Z) t v m (λh' c' g e=>i a c f h' c' g e) (by simp only[JC]<;>lia)
theorem zf:Qh X (.type "tuple") (λxs H Q=>∃p ys,xs=[-p]/\((HP X.K H p ys/\∀l,H l=none->Q (-l) (HI H l (.tup ys)))\/(HQ X.K H p ys/\Q (-p) H))):=by
 intro tx s σ H xs v Q I r h;let#[p,ys,rfl,h]:=h;let#[u,rfl,m]:=Q1 r;cases m;rcases h with⟨d,q⟩|⟨d,q⟩
 .let#[a,c,f,i]:=I.list d
  have g:=c.length;refine call_tuple_list f.isList (λh' t=>?_) (by simp only[JC]<;>lia)
  have j:HL X tx σ H {s with heap:=h'}:=I.kept (t':=s.toks) t
  have n:HL X tx σ (HI H h'.objs.size (.tup ys)) {s with heap:=h'.push {cls:= .type "tuple",data:= .seq a.toArray}}:=
   j.laid (t':=s.toks) (λb o e=>Jj _ e) (Jf _) (show HY X.prog X.w _ _ _ (.tup ys)from#[i,a,c,IsTup.new _ _])
  exact#[-h'.objs.size,_,n,Z,q _ (j.hok.fresh (Jf _))]
 .let#[a,c,f,i]:=I.tuple d
  exact call_tuple_same f #[-p,H,I,Z,q]
def Du(K:ι)(T:String)(x:V)(H:Hp):Prop:=match x with
 | .str _=>T="str"
 | .int _=>T="int"
 | .ref p=>(T="list"/\∃xs,HP K H p xs)\/(T="tuple"/\∃o,K.lookup p=↑o/\o.cls= .type "tuple"/\o.dict=none)\/
   (T="dict"/\((∃kvs,H p=↑(.dK kvs))\/∃kvs,H p=↑(.dT kvs)))\/(T="set"/\∃S n,H p=↑(.set S n))
 |_=>False
theorem wm(I:HL X tx σ H s)(r:HN x v)(ty:Du X.K T x H):
  s.TypeIs v T/\∀a,v= .ref a->∃h,s.heap.get? a=↑h/\h.dict=none:=by
 cases x with
 |str z=>
  let#[t,rfl]:=r
  cases(show T="str" from ty)
  exact#[typeIs_str s z t,λ_ e=>nomatch e]
 |int i=>
  let#[t,rfl]:=r
  cases(show T="int" from ty)
  exact#[typeIs_int s i t,λ_ e=>nomatch e]
 |ref p=>
  cases r;rcases ty with⟨rfl,xs,m⟩|⟨rfl,o,hk,l,d⟩|⟨rfl,hk⟩|⟨rfl,S,n,hk⟩
  .let#[j,_,g,_]:=I.list m
   refine#[g.isList.typeIs,λa e=>?_]
   cases e;let#[o,n,e,c,d,_]:=g
   exact#[o,e,d]
  .refine#[#[o,I.kIn p o hk,l],λa e=>?_]
   cases e
   exact#[o,I.kIn _ o hk,d]
  .have z:∃o,s.heap.get? p=↑o/\o.ExactDict:=by
    rcases hk with⟨kvs,hk⟩|⟨kvs,hk⟩
    .let#[_,_,_,_,o,_,_,e,ex,_]:=I.hok p _ hk
     exact#[o,e,ex]
    .let#[_,_,_,_,o,_,_,e,ex,_]:=I.hok p _ hk
     exact#[o,e,ex]
   let#[o,e,ex]:=z;refine#[#[o,e,ex.1],λa f=>?_]
   cases f
   exact#[o,e,ex.2.1]
  .let#[o,_,_,_,e,ex,_]:=I.hok p _ hk
   refine#[#[o,e,ex.1],λa f=>?_]
   cases f
   exact#[o,e,ex.2.1]
 |_=>exact False.elim ty
noncomputable def DC(K:ι)(T:String)(r:V->Β->Hp->VK->Prop)(to:TE):TE:=λσ H Q=>to σ H λx H1=>Du K T x H1/\r x [] H1 Q
noncomputable def EF(K:ι)(T:String)(r:V->Β->Hp->VK->Prop)(to:TE)(t:TA):TE:=λσ H Q=>to σ H λx H1=>Du K T x H1/\t σ H1 λxs a=>r x xs a Q
variable{o e:Φ}{es:Ι}{to:TE}{t:TA}{name:Str}{apos cpos:Pos}{T id:String}{r:V->Β->Hp->VK->Prop}
theorem DL(n:PlainAttrs T)(d:Slot T name id)(e:typeOf (.builtin id)=pure (.type "method_descriptor"))(hm:iK X id r)(ho:PE X o to)
  (c:attributeBase o name X.env (eval o X.env)=eval o X.env:=by rfl)(a:(apos.endLine==cpos.line)=true:=by rfl):PE X (.Call (.Attribute o name apos) [] [] cpos) (DC X.K T r to):=by
 intro tx s σ H Q I h;refine II c a (qK (ho tx s σ H _ I h) λv m j=>?_)
 let#[x,H1,f,g,ty,l]:=j;let#[h1,i]:=wm f g ty
 exact#[T,id,n,d,e,h1,i,Gk Z (IJ (hm tx m σ H1 x [] v [] Q f g .nil l))]
theorem Ey(q:PlainAttrs T)(f:Slot T name id)(i:typeOf (.builtin id)=pure (.type "method_descriptor"))(hm:iK X id r)(ho:PE X o to)(ha:PA X (e::es) t)
  (d:attributeBase o name X.env (eval o X.env)=eval o X.env:=by rfl)
  (g:((backTo cpos (θ (e::es) X.env)).all (λx=> ! x.1)&&(backToKw cpos (keywordEach [] X.env)).all (λx=>x.1.isSome)
   &&decide ((e::es).length+([]:Χ).length+(if([]:Χ).isEmpty then 0 else 1)<30))=true:=by rfl)
  (c:(apos.endLine==cpos.line)=true:=by rfl)(hs:θ (e::es) X.env=(false,eval e X.env)::θ es X.env:=by rfl)(a:(backTo cpos (θ es X.env)).any (·.1)=false:=by rfl):
  PE X (.Call (.Attribute o name apos) (e::es) [] cpos) (EF X.K T r to t):=by
 intro tx s σ H Q I h;refine wpAny_Call_method_late d g c Z (qK (ho tx s σ H _ I h) λv z p=>?_)
 let#[x,H1,j,l,ty,D]:=p;let#[h1,A]:=wm j l ty;exists T,id,q,f,i,h1,A
 have m:=ha cpos tx z σ H1 _ j D;rw[hs]at m⊢;refine Gk (by show(false||(backTo cpos (θ es X.env)).any (·.1))=false;rw[a]<;>rfl) (GH ?_)
 exact qK m λy E ⟨w,C,u,B,n⟩=>hm tx E σ C x w v y Q u l B n
end
def ED(X:Cx)(id:String)(r:V->Β->Hp->VK->Prop):Prop:=
 ∀(tx:HF) (s:Θ) (σ:St) (H:Hp) (x:V) (xs:Β) (v:Γ) (a:Ζ) (Q:VK),HL X tx σ H s->HN x v->HR xs a->r x xs H Q->
  ε (model X.prog X.w) X.A (call (.builtin id) (v::a)) (EP X tx σ Q) X.xe s
theorem HR.one:∀{x:V} {us:Ζ},HR [x] us->∃u,us=[u]/\HN x u
 :=by
 intro x us h;cases h with
 |cons r q=>cases q;exact#[0,r]
theorem HR.two:∀{x y:V} {us:Ζ},HR [x,y] us->∃u v,us=[u,v]/\HN x u/\HN y v
 :=by
 intro x y us h;cases h with
 |cons r q=>cases q with
  |cons q z=>cases z;exact#[6,r,q]
theorem HR.zero:∀{us:Ζ},HR [] us->us=[]
 |_,.nil=>rfl
theorem HR.reverse(h:HR xs us):HR xs.reverse us.reverse:=by
 induction h with
 |nil=>exact .nil
 |cons r t ih=>rw[List.reverse_cons,List.reverse_cons];exact HR.append ih (.cons r .nil)
theorem HR.rep{xs:Β}{us:Ζ}(h:HR xs us):∀k:Nat,HR (List.replicate k xs).flatten (List.replicate k us).flatten
 |0=> .nil
 |k+1=>by
  rw[GI,GI,Ij,Ij];exact HR.append h (HR.rep h k)
theorem nI(its:Ζ):∀(k:Nat) (a:Ζ),
  List.foldl (λd f=>d++f) a.toArray (List.replicate k its.toArray)=(a++(List.replicate k its).flatten).toArray
 |0,a=>by simp
 |k+1,a=>by
  have e:a.toArray++its.toArray=(a++its).toArray:=by simp
  have c:(a++its)++(List.replicate k its).flatten=a++(List.replicate (k+1) its).flatten:=by
   rw[GI,Ij,Ik]
  rw[<- c,<- nI its k (a++its),<- e,GI,List.foldl_cons]
section
theorem HL.lset{its:Ζ}(I:HL X tx σ H s)(g:H l=↑(.lst xs))(e:s.heap.get? l=some {cls:= .type "list",data:= .seq its.toArray n})(d:f its.toArray=its'.toArray)(a:HR ys its')(c:ys.length<=ζ):
  HL X tx σ (HI H l (.lst ys)) {s with heap:=s.heap.update l (Obj.mapSeq f),toks:=t'}:=by
 have q:=PySem.IsL.update e f;rw[d]at q;refine I.write (x:=l) (e:=l) (by rw[g];exact trivial) (.inl Z) (λb' u i h=>(FJ s.heap (Obj.mapSeq f) (Ne.symm i)).trans h) #[_,q] ?_
 exact#[c,its',_,a,q]
theorem HL.lnew(I:HL X tx σ H s)(c:HR ys its)(a:ys.length<=ζ):
  HL X tx σ (HI H s.heap.objs.size (.lst ys)) {s with heap:=s.heap.push {cls:= .type "list",data:= .seq its.toArray},toks:=t'}:=
 I.laid (λ_ _ q=>Jj _ q) (Jf _) #[a,its,(0),c,Ju _ Z]
theorem HL.fresh(I:HL X tx σ H s):H s.heap.objs.size=none:=I.hok.fresh (Jf _)
theorem HL.lstM(I:HL X tx σ H s)(a:H l=↑(.lst xs)):xs.length<=ζ/\∃(its:Ζ) (n:Nat),HR xs its/\xs.length=its.length/\s.heap.get? l=some {cls:= .type "list",data:= .seq its.toArray n}:=by
 let#[z,its,n,r,e]:=I.hok l _ a
 exact#[z,its,n,r,r.length,e]
theorem Ae(h:n<=ζ):γ.List.listTooLong n=false:=by
 unfold γ.List.listTooLong;exact Jm (by lia)
end
section
inductive OX (x:V) (vs:Β) (H:Hp) (Q:VK):Prop
 |mk (l:_) (xs:_) (y:_) (h1:x= .ref l) (h2:vs=[y]) (h3:H l=↑(.lst xs)) (h4:xs.length<ζ) (h5:Q .non (HI H l (.lst (xs++[y]))))
def sO:V->Β->Hp->VK->Prop:=λx a H Q=>OX x a H Q
theorem uW:ED X "list.append" sO:=by
 intro tx s σ H x j v m Q I d g h;let#[l,xs,y,rfl,rfl,c,i,q]:=h;cases d;let#[u,rfl,f]:=g.one;let#[z,a,n,r,o,e]:=I.lstM c;refine FS F.slot_list_append #[_,e,Z] F.entry_list_append (F.args_list_append_2 _ _) (PySem.list_append l a.toArray n u (by rw[JC];lia)) #[e,?_]
 refine#[.non,_,I.lset (its':=a++[u]) c e (by simp) (r.append (.cons f .nil)) ?_,Z,q]
 rw[Jq,IK];lia
inductive OT (x:V) (vs:Β) (H:Hp) (Q:VK):Prop
 |mk (l:_) (xs:_) (h1:x= .ref l) (h2:vs=[]) (h3:H l=↑(.lst xs)) (h4:Q .non (HI H l (.lst xs.reverse)))
def re:V->Β->Hp->VK->Prop:=λx a H Q=>OT x a H Q
theorem tX:ED X "list.reverse" re:=by
 intro tx s σ H x i v j Q I f g h;let#[l,xs,rfl,rfl,d,q]:=h;cases f;have c:=g.zero;subst c;let#[z,a,n,r,m,e]:=I.lstM d;refine FS F.slot_list_reverse #[_,e,Z] F.entry_list_reverse (F.args_list_reverse_1 _) (AutoSeq1.list_reverse_list_0 l a.toArray n (by rw[JC];lia)) #[e,?_]
 refine#[.non,_,I.lset (its':=a.reverse) d e (by simp) r.reverse ?_,Z,q]
 rw[List.length_reverse];lia
inductive PL (x:V) (y:V) (H:Hp) (Q:VK):Prop
 |mk (l:_) (b:_) (xs:_) (zs:_) (h1:x= .ref l) (h2:y= .ref b) (h3:H l=↑(.lst xs)) (h4:H b=↑(.lst zs)) (h5:xs.length+zs.length<=ζ) (h6:∀p,H p=none->Q (-p) (HI H p (.lst (xs++zs))))
def EO:R2:=λx y H Q=>PL x y H Q
theorem oH:Qq X (binaryOp .Add) EO:=by
 intro tx s σ H x y v u Q I f j h;let#[l,b,xs,t,rfl,rfl,o,i,w,q]:=h;cases f;cases j;let#[z,c,n,r,B,e]:=I.lstM o;let#[A,a,n2,m,g,d]:=I.lstM i;refine PySem.P.add_list e d ?_ (by rw[JC,JC];lia)
 have p:c.toArray++a.toArray=(c++a).toArray:=by simp
 rw[p]
 exact#[.ref _,_,I.lnew (t':=s.toks) (r.append m) (by rw[Jq];lia),Z,q _ I.fresh]
inductive PM (x:V) (y:V) (H:Hp) (Q:VK):Prop
 |mk (l:_) (k:_) (xs:_) (h1:x= .ref l) (h2:y= .int k) (h3:H l=↑(.lst xs)) (h4: -(2 ^ 63)<=k) (h5:k<2 ^ 63) (h6:xs.length*k.toNat<=ζ) (h7:∀p,H p=none->Q (-p) (HI H p (.lst (List.replicate k.toNat xs).flatten)))
def Fb:R2:=λx y H Q=>PM x y H Q
theorem Cl{α:Type}(xs:List α)(k:Nat):(List.replicate k xs).flatten.length=k*xs.length:=by
 induction k with
 |zero=>simp
 |succ k ih=>rw[GI,Ij,Jq,ih,Nat.succ_mul,Nat.add_comm]
theorem rE:Qq X (binaryOp .Mult) Fb:=by
 intro tx s σ H x y v u Q I A D h;let#[l,k,xs,rfl,rfl,E,h1,C,w,q]:=h;cases A;let#[t,rfl]:=D;let#[z,c,n,r,G,e]:=I.lstM E;have f:c.toArray.size*k.toNat<=ζ:=by rw[JC,<- G];exact w
 have j:¬c.toArray.size*k.toNat>(2 ^ 63-1)/8:=by
  have:(ζ:Nat)<=(2 ^ 63-1)/8:=by decide
  lia
 have i:¬(!γ.List.listFitsIndex k)=true:=by
  rw[fitsIndex_both h1 C];exact JH
 have d:¬γ.List.listTooLong (c.toArray.size*k.toNat)=true:=by
  rw[Ae f];exact JH
 have g:List.foldl (λo p=>o++p) (List.toArray []) (List.replicate (if c.toArray.isEmpty=true then 0 else k.toNat) c.toArray)=(List.replicate k.toNat c).flatten.toArray:=by
  have B:∀m:Nat,List.foldl (λo p=>o++p) (List.toArray []) (List.replicate m c.toArray)=(List.replicate m c).flatten.toArray:=λm=>by
   have:=nI c m []
   rw[Il]at this;exact this
  rw[B];cases c with
  |nil=>simp
  |cons a r'=>rw[Jc (by simp)]
 refine wpAny_binaryOp_repeat_ref (T:="list") (U:="int") ⋯ #[_,e,Z] (λs'=>typeIs_int s' k t) noFill_list_mul F.fills_int_mul F.slot_int_rmul repeat_list F.slot_int_index.lookup
  (FS F.slot_int_rmul (typeIs_int s k t) F.entry_int_rmul (F.args_int_rmul_2 _ _) (int___rmul___int_list k t l c.toArray n)
   #[e,Z,#[_,e,Z],FS F.slot_list_mul #[_,e,Z] F.entry_list_mul (F.args_list_mul_2 _ _) (AutoListH.list___mul___list_int_3 l c.toArray n k t i j d) #[e,?_]])
 rw[g]
 exact#[.ref _,_,I.lnew (t':=s.toks) (r.rep k.toNat) (by rw[Cl,Nat.mul_comm];exact w),Z,q _ I.fresh]
end
end L2
namespace Att
open PySem PySem.W PySem.Calls PyProof.Rows
theorem lE{P:Params}{h:Ψ}:∀(ns:Ε) (vs:Ζ),WellAll P h vs (ns.map WData.int)->IntsAre vs ns:=by
 intro ns
 induction ns with
 |nil=>
  intro vs w;rw[List.map_nil]at w;cases w;exact .nil
 |cons n ns ih=>
  intro vs w;rw[JW]at w;cases w with
  |cons a b=>
   cases a;exact .cons _ _ (ih _ b)
theorem vw{l:OpenLaw}(hn:l.most=↑n)(f:l.row.toRowW.claim.pre args=true)(o:WellAll P h e args):
  ∃a p c,e=[Γ.ref a]/\args=[WData.list (c.map WData.int)]/\h.get? a=some {cls:= .type "list",data:= .seq p.toArray}/\IntsAre p c/\c.length<=n:=by
 have m:WShape.hasAll [] args [.list .int]=true:=(pre_splitW f).1
 have s:l.pre.holds [] {args:=args}=true:=(pre_splitW f).2
 let#[d,r,rfl,h1,t]:=hasAllW_cons m
 obtain rfl:=hasAllW_nil t
 let#[xs,rfl,v]:=hasW_list h1;let#[c,rfl]:=items_int v;have g:c.length<=n:=by
  unfold OpenLaw.pre at s;have j:(WTm.not (.lt (.lit (.int (n:Int))) (.len (.arg 0)))).holds [] {args:=[.list (c.map .int)]}=true:=by
   have j:=(holds_andW s).1;rw[hn]at j;exact j
  have i:=condW_of j (w_not (w_lt w_lit (w_len_list (w_arg Z))));rw[Jb]at i;refine Nat.le_of_not_lt λq=>?_
  have u:(n:Int)<((c.length:Nat):Int):=by lia
  first
   |(rw[Je u]at i;exact absurd i ⋯)
   |(simp at i;lia)
 cases o with
 |cons w1 w2=>
  cases w2;cases w1 with
  |list ho hall=>exact#[8,c,12,ho,lE c _ hall,g]
theorem wn(l:OpenLaw)(args:List WData):l.row.toRowW.claim.post args (.bool true) args=true:=
 postW_of (r:=l.row.toRowW) (X:=(true==true))
  (show WShape.has [] (.bool true) .bool=true by first|rfl|decide|simp [WShape.has,WShape.arms,WShape.armsAll])
  (show(WTm.eq .res (.lit (.bool true))).value [] {args:=args,res:=↑(.bool true),after:=args}=↑(.bool (true==true))from w_eq_bool (w_res Z) w_lit) Z
theorem attach_call{l:OpenLaw}{n:Nat}{q:Ξ}{g:Α}{D:(Str->Ν)->Ψ->Prop}{C:Ω->Ψ->Prop}{d:DefRec}
  (hn:l.most=↑n)(x:d.params.defaults=[])
  (call:∀(w:Ω) (e c:Θ) (mg v:HE) (i:Δ) (o:Obj) (pm s doc:Γ) (a:Δ) (vs:Ζ) (ns:Ε),
   Ground q g [] D w e mg v c.heap->C w c.heap->
   c.heap.get? i=↑o->o.data= .func (docDef d.name d.params d.body d.scope pm s doc)->c.heap.CodeRec s d.name->mg d.name=↑(-i)->
   c.heap.get? a=some {cls:= .type "list",data:= .seq vs.toArray}->IntsAre vs ns->ns.length<=n->c.gens= (List.toArray [])->
   codeAny (model l.prog w) callerA (.call (-i) #[[-a],[]]) (λr s'=>r= .ok (.ret (.bool true))/\OldK c.heap s'.heap/\s'.os=c.os/\AllBare s'.gens) c):
  WalkO q g D C l.row.toRowW d [] (λf vs=>PySem.call f vs):=by
 intro w e c mg v G Y i o pm s doc F kV L J u A t K z B R j E N y I
 obtain rfl:F= .none:=Dflts.none A x
 obtain rfl:kV= .none:=Dflts.noKw A
 let#[a,vs,ns,rfl,rfl,m,h,p]:=vw hn j y;refine enter_call (F1 (call w e c mg v i o pm s doc a vs ns G Y L (fd_plain J) u t m h p K) λr s' O=>?_)
 let#[rfl,P,M,Q]:=O
 exact#[.inl #[.bool true,.bool true,[],Z,λ_=>rfl,.bool true,wn l _,λ_=>#[List.Pairwise.nil,λ_ H=>(nomatch H)]],P,M,Q]
end Att
namespace L2
open PySem PySem.Spec PyProof.Rows
theorem nP:∀{vs:Ζ} {ns:Ε},IntsAre vs ns->HR (ns.map V.int) vs
 |_,_,.nil=> .nil
 |_,_,.cons n t h=> .cons #[t,Z] (nP h)
def Ad(H:Hp):Prop:=∀b,H b=none\/∃o xs,H b=↑(.frz o (.lst xs))
theorem yv{P:Ξ}{w:Ω}{K:ι}{mg N:HE}{CX:gY}{k:Nat}{G a:Δ}{fd:FuncData}{x:Str}{sp:Sp}{c:Θ}{vs:Ζ}{ns:Ε}
  (Q:K.In c.heap)(l:c.heap.Ns η mg)(hb:c.heap.Ns builtinsNs N)(I:∀x:Str,x≠"__name__"->N x=bootBuiltins x)(t:c.heap.NoLimit)(hg:c.gens= (List.toArray []))
  (ha:c.heap.get? a=some {cls:= .type "list",data:= .seq vs.toArray})(hi:IntsAre vs ns)(T:ns.length<=ζ)(hr:Lb k callerA)
  (F:∀base:Ψ,K.In base->base.Ns η mg->Mj P w K mg base CX k G fd [x] sp)(j:∀(s:Θ) (u:Γ),BindsTo s fd #[[u],[]] [(x,u)])
  (J:∀H:Hp,Ad H->HP K H a (ns.map V.int)->sp [-a] H (λv _=>v= .bl true) λ_ _ _=>False)
  (L:∀H e s',CX [] H c (λ_ _ _=>False) e s'->False):
  codeAny (model P w) callerA (.call (-G) #[[-a],[]]) (λr s'=>r= .ok (.ret (.bool true))/\OldK c.heap s'.heap/\s'.os=c.os/\AllBare s'.gens) c:=by
 have R:=nP hi;have y:=hi.length;have i:∀H:Hp,Ad H->HP K H a (ns.map V.int)->LZ P w H c.heap->(∀b,H b≠none->b=a)->(H a≠none->K.lookup a=none)->
   codeAny (model P w) callerA (.call (-G) #[[-a],[]]) (λr s'=>r= .ok (.ret (.bool true))/\OldK c.heap s'.heap/\s'.os=c.os/\AllBare s'.gens) c:=by
  intro H U hS p W hK;have f:∀{b:Δ} {o:Obj},c.heap.get? b=↑o->H b=none->(ge c.heap H).get? b=↑o:=λe n=>Ao e n
  have O:∀{b:Δ} {o:Obj} {es:Array DictEntry} {C:Nat},c.heap.get? b=↑o->o.data= .dict es C->H b=none:=λ{b o es C} e d=>by
   cases q:H b with
   |none=>rfl
   |some u=>
    have M:b=a:=W b (by rw[q];simp)
    subst M;rw[ha]at e;cases e
    have d':Data.seq vs.toArray _=Data.dict es C:=d
    cases d'
  have g:∀{b:Δ} {m:HE},c.heap.Ns b m->(ge c.heap H).Ns b m:=λ{b m} ⟨o,es,C,e,d,r⟩=>#[o,es,C,f e (O e d),d,r]
  have B:K.In (ge c.heap H):=λb o e=>f (Q b o e) (by
   cases q:H b with
   |none=>rfl
   |some u=>
    have M:b=a:=W b (by rw[q];simp)
    subst M;rw[hK (by rw[q];simp)]at e;cases e)
  have Y:PY K mg (ge c.heap H):=#[B,g l,#[N,g hb,I],let⟨mc,h1,h2⟩:=t;#[mc,g h1,h2]]
  have e0:Oq P w K mg (ge c.heap H) callerA [] c H:=#[Z,Y,λb o e=>B6 e,Ic (vS _ _),trivial,λb hb=>absurd (show b∈([]:Η)from hb) (by simp),p,.of_eq hg]
  refine F1 ((F _ B (g l)).run callerA [] c H #[[-a],[]] [-a] [-a] _ _ hr e0 (j c (-a)) (.cons Z .nil) (J H U hS)) λr s' h=>?_
  cases r with
  |error e=>exact(L H e s' h).elim
  |ok fl=>
   cases fl with
   |next=>exact False.elim h
   |brk=>exact False.elim h
   |cont=>exact False.elim h
   |ret u=>
    let#[v,H',os,A,un,D,r',q]:=h;have X:v= .bl true:=q
    subst X
    obtain rfl:u=Γ.bool true:=r'
    refine#[Z,OldK.of_keep λb o e=>?_,os,A]
    cases q:H b with
    |none=>exact un.keep b o e q (by intro z;exact absurd (show b∈([]:Η)from z) (by simp)) (by simp)
    |some u=>
     rcases U b with z|⟨ob,xs,z⟩
     .rw[q]at z;cases z
     .have z2:=un.frzs b ob _ z
      let#[S,_]:=p b _ z;let#[e2,_]:=D b _ z2;rw[e]at S;cases S
      exact e2
 cases hk:K.lookup a with
 |some o=>
  have e:=Q a o hk;rw[ha]at e;cases e;refine i (λ_=>none) (λ_=> .inl Z) (.inr #[_,vs.toArray,_,hk,34,by rw[JC,y];exact T,by simpa using R]) (λb u z=>by have E:(none:Option HO)=↑u:=z;cases E) (λb z=>absurd Z z) λz=>absurd Z z
 |none=>
  refine i (λb=>if b=a then ↑(.frz {cls:= .type "list",data:= .seq vs.toArray} (.lst (ns.map V.int)))else none) (λb=>?_) (.inl (.inr #[{cls:= .type "list",data:= .seq vs.toArray},Jd Z])) (λb u z=>?_) (λb z=>?_) λ_=>hk
  .by_cases hb:b=a
   .exact .inr #[8,Jd hb]
   .exact .inl (Jc hb)
  .by_cases hb:b=a
   .have E:=(Jd hb).symm.trans z
    cases E;subst hb
    exact#[ha,by rw[Jb];exact T,vs,_,R,ha]
   .have E:=(Jc hb).symm.trans z
    cases E
  .by_cases hb:b=a
   .exact hb
   .exact absurd (Jc hb) z
theorem BX{l:W.OpenLaw}{n k:Nat}{q:Ξ}{g:Α}{O:(Str->Ν)->Ψ->Prop}{E:Ω->Ψ->Prop}{d:DefRec}{K:Params->ι}{CX:Ω->gY}{sp:Ω->Sp}{x:Str}
  (hn:l.most=↑n)(z:n<=ζ)(A:d.params.defaults=[])(I:Lb k callerA)
  (N:∀(w:Ω) (h:Ψ),E w h->(K w.params).In h)
  (F:∀(w:Ω) (mg:HE) (p:Δ) (h:Ψ),(K w.params).In h->h.Ns η mg->mg d.name=↑(-p)->
   ∃fd:FuncData,(∀(s:Θ) (u:Γ),BindsTo s fd #[[u],[]] [(x,u)])/\
    ∀base:Ψ,(K w.params).In base->base.Ns η mg->Mj l.prog w (K w.params) mg base (CX w) k p fd [x] (sp w))
  (t:∀(w:Ω) (H:Hp) (a:Δ) (ns:Ε),ns.length<=n->Ad H->HP (K w.params) H a (ns.map V.int)->sp w [-a] H (λv _=>v= .bl true) λ_ _ _=>False)
  (y:∀(w:Ω) (H:Hp) (s:Θ) (e:Γ) (s':Θ),CX w [] H s (λ_ _ _=>False) e s'->False):
  W.WalkO q g O E l.row.toRowW d [] (λf D=>PySem.call f D):=by
 refine Att.attach_call hn A λw B m mg U p o pm T doc a D ns G Y S R L r j i c J=>?_
 have C:=N w _ Y;let#[fd,Q,hF]:=F w mg p _ C G.T.g r;exact yv C G.T.g G.T.b G.T.builtins G.T.nolimit J j i (JI c z) I hF Q (λH P M=>t w H a ns c P M) λH e s'=>y w H m e s'
noncomputable def qN(s:δ)(j:Nat):δ:=match s with
 | .ClassDef _ _ _ body _ _ _ _ _ _ _=>body.getD j (.Pass #[(0),(0),(0),(0)])
 |_=> .Pass #[(0),(0),(0),(0)]
noncomputable def Zf(s:δ):Arguments:=match s with
 | .FunctionDef _ a _ _ _ _ _ _ _ _=>a
 |_=>{posonlyargs:=[],args:=[],vararg:=none,kwonlyargs:=[],kw_defaults:=[],kwarg:=none,defaults:=[]}
noncomputable def Qi(s:δ):List δ:=match s with
 | .FunctionDef _ _ b _ _ _ _ _ _ _=>b
 |_=>[]
noncomputable def qm(s:δ):Scope:=match s with
 | .FunctionDef _ _ _ _ _ _ sc _ _ _=>sc
 |_=>{kind:= .function,names:=[],isGenerator:=false,isCoroutine:=false}
abbrev bY:gY:=λ_ _ _ _ _ _=>False
abbrev E0:XK:=λ_ _ _=>False
theorem lD{X:Cx}:cH bY X E0:=λ_ _ _ _ _ _ _ h=>h.elim
structure OU(K:ι)(x Rg:Str)(st:δ)(f:Δ)(fd:FuncData):Prop where
 ex:∃(oc:Γ) (od:Κ) (kV doc pm:Γ) (an:Κ) (cdv ct:Γ) (osl:Array Ν),
  fd=PySem.W.fnOf x Rg (Zf st) (Qi st) (qm st) .none kV doc pm an cdv ct/\K.lookup f=some #[oc,od,.func fd,osl]/\PySem.W.codeIn K cdv Rg=true
 kp:PySem.W.keepIn K (-f)=true
section
variable{P:Ξ}{w:Ω}{K:ι}{mg:HE}{base:Ψ}
theorem OU.ok{st:δ}{k:Nat}{sp:Sp}(F:OU K x Rg st f fd)(S:HH N ps (qm st))(d:∀vs H Q E,sp vs H Q E->vs.length=ps.length)(a:∀(cdv:Γ) (A:Around) (outer:Ο) (s:Θ) (H:Hp) (vs:Β) (Q:VK) (E:XK),Lb k (A.deeper (envOfC Rg (qm st) s.heap.objs.size f cdv))->sp vs H Q E->
   ∃t,O7 (QJ bY P w K mg base N Rg (qm st) f cdv A outer s H E).nox (Qi st) t/\t {nx:=λ_ H'=>Q .non H',rt:=Q} (Zl N vs) H):Mj P w K mg base bY (k+1) f fd ps sp:=by
 let#[oc,od,kV,doc,pm,an,cdv,ct,osl,rfl,g,e]:=F.ex;refine uo g e S d λA outer s H vs Q E i c=>?_
 let#[t,h,q]:=a cdv A outer s H vs Q E i c
 exact#[t,h.nox,q]
theorem OU.binds{x Rg:Str}{st:δ}{f:Δ}{fd:FuncData}{ps:Α}(F:OU K x Rg st f fd)
  (h:∀(kV doc pm:Γ) (an:Κ) (cdv ct:Γ) (us:Ζ),us.length=ps.length->bindArgs (W.fnOf x Rg (Zf st) (Qi st) (qm st) .none kV doc pm an cdv ct) #[us,[]]=pure (ps.zip us)):LL K fd ps []:=by
 let#[oc,od,kV,doc,pm,an,cdv,ct,osl,rfl,c,a]:=F.ex;exact .all (h kV doc pm an cdv ct)
theorem ph{st:δ}{kV:Γ}(l:K.lookup f=some #[oc,od,.func (W.fnOf x Rg (Zf st) (Qi st) (qm st) .none kV doc pm an cdv ct),osl])(c:W.codeIn K cdv Rg=true)(k:W.keepIn K (-f)=true):OU K x Rg st f (W.fnOf x Rg (Zf st) (Qi st) (qm st) .none kV doc pm an cdv ct):=#[#[oc,od,kV,doc,pm,an,cdv,ct,osl,Z,l,c],k]
end
theorem zx{A B:Prop}(h:B):if false=true then A else B:=by
 rw[Jc JH];exact h
theorem Qa{A B:Prop}(h:A):if true=true then A else B:=by
 rw[Jd Z];exact h
theorem qO{c A B:Prop} [Decidable c](h1:c->A)(a:¬c->B):if c then A else B:=by
 by_cases h:c
 .rw[Jd h]
  exact h1 h
 .rw[Jc h]
  exact a h
theorem fK{c A B:Prop} [Decidable c](hc:c)(h:B):if(! decide c)=true then A else B:=by
 rw[Je hc];exact zx h
def HG(H H':Hp):Prop:=∀b o,H b=↑o->H' b=↑o
theorem HG.refl(H:Hp):HG H H:=λ_ _ h=>h
theorem HG.trans{H H1 d:Hp}(a:HG H H1)(b:HG H1 d):HG H d:=λc o h=>b c o (a c o h)
theorem HG.seq{K:ι}(e:HG H H')(h:HP K H a xs):HP K H' a xs:=by
 rcases h with(h|⟨o,h⟩)|h
 .exact .inl (.inl (e _ _ h))
 .exact .inl (.inr #[o,e _ _ h])
 .exact .inr h
end L2
namespace L3
open PySem PySem.Spec PyProof.Rows L2
noncomputable def ZX(X:Cx)(N:Α)(a:Scope)(cl:List (Str×Δ))(C:Δ)(s:Θ)(H:Hp)(c:Η):Cx:=
 {X with N:=N,s₀:=s,H₀:=H,env:=compEnvC a cl C X.env,outer:=X.stack,ex:=c,fn:=λ_=>false,pn:=[],xe:=λ_ _=>False}
structure Ma(X:Cx)(scope:Scope)(fr:Α)(js:Μ):Prop where
 kind:scope.kind= .function
 names:∀x∈scope.names,x.2= .local->scope.names.lookup x.1=some .local
 nocell:∀x∈scope.names,x.2≠ .cell
 free:∀x∈scope.names,x.2= .free->x.1∈fr
 len:js.length=fr.length
 at_:∀(i j:Nat) (y:Str),js[i]? =↑j->fr[i]? =↑y->X.N[j]? =↑y/\X.env.kindOf y=some .cell/\(relabel scope X.env).names.lookup y=some .cell
theorem ZQ{α:Type}{y:Str}:∀{l:List (Str×α)},y∈l.map (·.1)->∃c,l.lookup y=↑c
 | [],h=>by simp at h
 |(n,a)::r,h=>by
  cases e:y==n with
  |true=>exact#[a,by simp [Fp,e]]
  |false=>
   have f:y∈r.map (·.1):=by
    rcases Jh.mp h with z|z
    .exact absurd z (by simpa using e)
    .exact z
   let#[c,d]:=ZQ f
   exact#[c,by simp [Fp,e,d]]
noncomputable def σ0(k:Nat)(js:Μ)(σ:L2.St):L2.St:=List.replicate k none++js.map λj=>(σ[j]?).join
def uA(k:Nat)(js:Μ)(g:TG)(te:TE)(σ:L2.St)(Q:VK)(J:It)(H1:Hp):Prop:=∃W:Nat->Nat->Β->L2.St->Hp->Prop,(∃m,W 0 m [] (σ0 k js σ) H1)/\∀i m ys c H,W i m ys c H->
 (J.stop i H/\∀p,H p=none->Q (-p) (HI H p (.lst ys)))\/(J.go i H/\ys.length<ζ/\∀x H',J.yld i H x H'->g x c H' λa d=>∃N:V->Hp->Prop,(∀v H3,N v H3->∃m',m'<m/\W (i+1) m' (ys++[v]) a H3)/\te a d N)
noncomputable def kA(k:Nat)(js:Μ)(a:TI)(g:TG)(te:TE):TE:=λσ H Q=>a σ H (uA k js g te σ Q)
section
theorem rK{q a f:Φ}{e:Scope}{pos:Pos}{it o:Γ}{env:Env}(I:Nat->Θ->Prop)
  (turn:∀n s,I n s->ε (model prog w) A (pyNext it) (λr d=>match r with
   |none=>R (.ok .next) d
   | some v=>ε (model prog w) A (letOwnedTupleGo a it v) (λ_ c=>ε (model prog w) A (assign a env v) (λ_ g=>ε (model prog w) A (eval q env) (λx l=>
     ε (model prog w) A (call (.builtin "list.append") [o,x]) (λ_ j=>∃m,m<n/\I m j) (λ_ _=>False) l)
     (λ_ _=>False) g) (λ_ _=>False) c) (λ_ _=>False) d) (λ_ _=>False) s)
  (n:Nat)(h:I n s):
  codeAny (model prog w) A (.compLoop (.ListComp q [#[a,f,[],(0)]] e pos) 0 it o env) R s:=by
 refine codeAny_loop Z I (λn s z=>?_) n h
 show ε _ _ ((compTurn (.ListComp q [#[a,f,[],(0)]] e pos) 0 it o env).onRaise (λx=>do noteFrame x env;theTreesLotGoes x)) _ _ s
 refine wpAny_noted ?_
 rw[compTurn_list1];refine Ja (FN (Ja (JR (turn n s z) (λr d i=>?_) λ_ _ h'=>h'.elim)))
 cases r with
 |none=>exact Ji i
 |some v=>
  refine Ja (JR i (λ_ c p=>?_) λ_ _ h'=>h'.elim)
  exact Ja (JR p (λ_ g y=>Ja (Ja (JR y (λx l t=>Ja (JR t
   (λ_ j u=>Ji (Ji #[Z,u])) λ_ _ h'=>h'.elim)) λ_ _ h'=>h'.elim))) λ_ _ h'=>h'.elim)
end
structure PN(X:Cx)(tx:HF)(H:Hp)(C:Δ):Prop where
 free:H C=none
 loc:C≠X.env.locals
 new:X.s₀.heap.objs.size<=C
 cell:∀x c,X.env.cells.lookup x=↑c->c≠C
 pin:∀p∈X.pn++tx,p.1≠C
theorem Ab{cl:List (Str×Δ)}{K:Hp}{tn:Nat->Ψ->Prop}(s:∀y c,cl.lookup y=↑c->X.env.cells.lookup y=↑c)(R:cl.map (·.1)=fr)(S:Ma X a fr js)(f:L2.HL X tx σ K d)(T:MM X.prog X.w X.K tg J B it tn)(b0:tn 0 d.heap)(f2:∀b∈B,am X tx K b)(hC:g=d.heap.objs.size+1)(H:∀b o,d.heap.get? b=↑o->A.get? b=↑o)(I:A.Ns g m):
  (∀b∈B,b<d.heap.objs.size)/\L2.HL (ZX X (own++fr) a cl g d K B) [] (σ0 own.length js σ) K {d with heap:=A,toks:=d.toks+([]:List (Str×Γ)).length}/\d.heap.objs.size∉QB X.stack/\(∀x c,cl.lookup x=↑c->c≠d.heap.objs.size)/\
  ∀{H':Hp} {pl:HF},(∀b∈B,H' b=none)->(∀p∈pl,p.1=d.heap.objs.size)->∀b∈B,am (ZX X (own++fr) a cl g d K B) pl H' b:=by
 have t:∀b,b<d.heap.objs.size->b≠g/\b≠d.heap.objs.size:=λb h=>#[by rw[hC];exact Jx (Gm h),Jx h]
 let Y:Cx:=ZX X (own++fr) a cl g d K B
 have w:∀b∈B,b<d.heap.objs.size:=λb h=>by let#[o,e,_]:=T.obj _ _ b0 b h;exact Jl e
 have Q:(ZX X (own++fr) a cl g d K B).Ok:=by
  refine#[f.ok.mod,S.kind,f.ok.glob,f.ok.blt,by show d.heap.objs.size<=g;lia,?_,?_,?_,f.ok.hd,f.ok.frames,.inl Z,?_,f.bs,JI f.ok.bsz f.sz,?_,?_,f.stack,f.stkFree]
  .exactλx y c e1 e2=>f.ok.inj x y c (s x c e1) (s y c e2)
  .intro x hx
   have a0:(relabel a X.env).names.lookup x=some .cell\/(relabel a X.env).names.lookup x=some .free:=hx
   have hm:∃k,(x,k)∈a.names/\k= .free:=by
    have P:∀kk:NameKind,(kk= .cell\/kk= .free)->(relabel a X.env).names.lookup x=↑kk->∃k,(x,k)∈a.names/\k= .free:=by
     intro kk hk el;let#[#[n,k],r,e]:=JA.mp (Gh el)
     dsimp only at e
     split at e
     .rename_i D
      cases e;exists k,r
      simp only[JX,Fu]at D;exact D.1.1
     .cases e
      rcases hk with z|z
      .subst z;exact absurd Z (S.nocell _ r)
      .exact#[_,r,z]
    rcases a0 with z|z
    .exact P _ (.inl Z) z
    .exact P _ (.inr Z) z
   let#[k,r,hk]:=hm;exact ZQ (l:=cl) (by rw[R];exact S.free _ r hk)
  .exactλx c e _=>nomatch e
  .refineλb h=>#[?_,λx c e=>(f2 b h).2.2.2.2.1 x c (s x c e)]
   show b≠g
   exact(t b (w b h)).1
  .intro b o e h
   rcases(f2 b h).2.2.2.1 with z|z
   .exact f.ok.noex b o e z
   .exact absurd (JO (Jl e) (JI f.ok.bsz z)) (J4 _)
  .intro b h hf
   rcases Jh.mp (f.stkSub b hf)with z|z
   .exact(f2 b h).2.1 z
   .exact(f2 b h).2.2.1 z
 have M:(σ0 own.length js σ).length=(own++fr).length:=by unfold σ0;simp [S.len]
 have IY:HL Y [] (σ0 own.length js σ) K {d with heap:=A,toks:=d.toks+([]:List (Str×Γ)).length}:=by
  refine#[Q,Z,f.bare,Un.kept H,#[_,I,?_],?_,?_,?_,λp hp=>absurd (show p∈([]:HF)from hp) (by simp),f.hok.kept H,M]
  .intro i x v hN F _
   have L:(own++fr)[i]? =↑x:=hN
   unfold σ0 at F
   by_cases O:i<own.length
   .rw[FH (by simpa using O),List.getElem?_replicate]at F
    split at F<;>cases F
   .rw[Fy (by simpa using Nat.le_of_not_lt O),Ie,Jp]at F
    rw[Fy (Nat.le_of_not_lt O)]at L;cases ej:js[i-own.length]? with
    |none=>rw[ej]at F;cases F
    |some j=>
     rw[ej]at F;have a3:σ[j]? =↑(↑v):=by
      have G:(σ[j]?).join=↑v:=JF F
      cases q:σ[j]? with
      |none=>rw[q]at G;cases G
      |some o=>rw[q]at G;have:o=↑v:=G;rw[this]
     let#[a2,hk,a4]:=S.at_ _ j x ej L;let#[m,hn,hl]:=f.loc;let#[u,ru,lk]:=hl j x v a2 a3 (.inr (.inl hk))
     refine#[u,ru,.inr ?_]
     rcases lk with⟨k1,_⟩|⟨_,c,ec,ic⟩
     .rw[hk]at k1;cases k1
     .let#[c',U]:=ZQ (y:=x) (l:=cl) (by rw[R];exact Jo L)
      have:c'=c:=by have:=s x c' U;rw[ec]at this;exact(JF this).symm
      subst this;exists ?_,c',U
      .show(relabel a X.env).names.lookup x=some .cell\/(relabel a X.env).names.lookup x=some .free
       exact .inl a4
      .let#[oc,C,hd]:=ic
       exact#[oc,H _ _ C,hd]
  .intro x c e
   let#[v,oc,C,hd]:=f.cell x c (s x c e)
   exact#[v,oc,H _ _ C,hd]
  .exact f.hok.fresh (by show d.heap.objs.size<=g;lia)
  .exactλx c e=>f.freeC x c (s x c e)
 have N:d.heap.objs.size∉QB X.stack:=λhf=>by
  rcases Jh.mp (f.stkSub _ hf)with z|z
  .exact absurd (by rw[<- z];exact Jf _:d.heap.objs.size<=X.env.locals) (Nat.not_le.mpr f.lt)
  .exact f.nofs (Jf _) z
 have E:∀x c,cl.lookup x=↑c->c≠d.heap.objs.size:=λx c e z=>by
  let#[v,oc,C,_]:=f.cell x c (s x c e)
  exact absurd (Jl C) (by rw[z];exact J4 _)
 have a1:∀{H':Hp} {pl:HF},(∀b∈B,H' b=none)->(∀p∈pl,p.1=d.heap.objs.size)->∀b∈B,am Y pl H' b:=λ{H' pl} hn hp b h=>
  #[hn b h,(t b (w b h)).1,Q.exfs b h,.inl h,λx c e=>(f2 b h).2.2.2.2.1 x c (s x c e),λp a5=>by
   have W:p∈pl:=by simpa [Y,ZX]using a5
   rw[hp p W];exact Ne.symm (t b (w b h)).2]
 exact#[w,IY,N,E,a1]
theorem xp{cl:List (Str×Δ)}(t:L2.HL X tx σ E d)(f2:∀b∈D,am X tx E b)(G:g=d.heap.objs.size+1)(r:L2.HL (ZX X N j cl g d E D) pl H m w)(a:m d.heap.objs.size=none)(y:HY X.prog X.w (HI m d.heap.objs.size ob) w.heap d.heap.objs.size ob):L2.HL X tx σ (HI m d.heap.objs.size ob) w/\PN X tx (HI m d.heap.objs.size ob) g:=by
 have l:∀b,b<d.heap.objs.size->b≠g/\b≠d.heap.objs.size:=λb f=>#[by rw[G];exact Jx (Gm f),Jx f]
 have A:d.heap.objs.size≠g:=by lia
 have B:=r.base;have J:m g=none:=r.free
 exists ?_
 .refine t.call' (s':=w) (ch:=D) r.os #[B.keep,B.slot,λb o e n F=>?_,B.there,λb xs e=>?_,λb o u e=>?_,λb ps e=>?_] ?_ r.bare ?_
  .rw[qk (l b (Jl e)).2];exact B.free b o e n F
  .have i:=B.tups b xs e
   rw[qk (qu i a)];exact i
  .have i:=B.frzs b o u e
   rw[qk (qu i a)];exact i
  .let#[s,i]:=B.tbls b ps e
   exact#[s,by rw[qk (qu i a)];exact i]
  .intro b u e
   by_cases f:b=d.heap.objs.size
   .subst f
    rw[qb]at e;cases e
    exact y
   .rw[qk f]at e
    exact(r.hok b u e).stay (λc v _ q=>q) (λc q=>by rw[qk (qu q a)];exact q) λc xs q=>by rw[qk (qu q a)];exact q
  .exactλb f=>#[(f2 b f).2.2.2.1,(f2 b f).2.1,(f2 b f).2.2.2.2.1,(f2 b f).2.2.2.2.2]
 .have h:d.heap.objs.size<=g:=by lia
  refine#[by rw[qk (Ne.symm A)];exact J,?_,JI t.sz h,λx c e z=>?_,λp I z=>?_]
  .exact J2 (JO t.lt h)
  .let#[v,oc,C,_]:=t.cell x c e
   exact absurd (JO (Jl C) h) (by rw[z];exact J4 _)
  .exact absurd (JO (Jl (t.pin p I).1) h) (by rw[z];exact J4 _)
theorem pq{b0 tg q:Φ}{a:Scope}{cl:List (Str×Δ)}{pos c1:Pos}{fr own:Α}{js:Μ}{wi:TI}{g:TG}{te:TE}{use:Option (Γ->Sem Unit)}{Post:HD}
  {tx:HF}{s:Θ}{σ:L2.St}{H:Hp}{Q:VK}
  (hc:X.calm=true)(hi:PI X tg q wi)(b1:closureFor a X.env=pure cl)(d2:∀y c,cl.lookup y=↑c->X.env.cells.lookup y=↑c)(d3:cl.map (·.1)=fr)
  (S:Ma X a fr js)
  (hg:∀C s H fp,PG (ZX X (own++fr) a cl C s H fp) tg g)(he:∀C s H fp,PE (ZX X (own++fr) a cl C s H fp) b0 te)
  (hs:∀x,foldedSetIterable q X.env x=pure x)
  (I:L2.HL X tx σ H s)(h:kA own.length js wi g te σ H Q)
  (b3:∀(b2 C:Δ) (s5:Θ) (H':Hp) (m:HE),L2.HL X tx σ H' s5->s5.heap.Ns C m->PN X tx H' C->Q (-b2) H'->compPost (model X.prog X.w) X.A X.xe use Post (-b2) C (.ok .next) s5):
  ε (model X.prog X.w) X.A (comprehension (.ListComp b0 [#[tg,q,[],(0)]] a pos) a X.env c1 (newList []) false (eval q X.env) use) Post X.xe s:=by
 refine wpAny_comprehension_free (use:=use) Z hs b1 S.kind S.names (qK (hi tx s σ H _ I h) λv s1 h1=>qK h1 λd7 l h2=>?_)
 let#[it,fp,tn,J,H2,e,I2,T,c0,f2,W,#[m0,w0],turn]:=h2;subst e;refine Ft (wpAny_newFunctionEnv S.nocell (by intro y hy;simp at hy) (λK j d=>?_) S.kind)
 dsimp only at j d⊢
 generalize hH2:l.heap.push {cls:= .type "list",dict:=none,data:= .seq ([]:Ζ).toArray}=G at j d⊢
 have hC:G.objs.size=l.heap.objs.size+1:=by rw[<- hH2,J8]
 have O:l.heap.objs.size≠G.objs.size:=by rw[hC];exact Jx (FP _)
 have L:∀b,b<l.heap.objs.size->b≠G.objs.size/\b≠l.heap.objs.size:=λb w=>#[by rw[hC];exact Jx (Gm w),Jx w]
 have c2:∀b o,l.heap.get? b=↑o->K.get? b=↑o:=λb o e=>d.extBut b o (L b (Jl e)).1 (Jj _ (hH2▸Jj _ e))
 have U:K.get? l.heap.objs.size=some {cls:= .type "list",data:= .seq ([]:Ζ).toArray 0}:=d.extBut _ _ O (Jj _ (hH2▸Ju _ Z))
 let Y:Cx:=ZX X (own++fr) a cl G.objs.size l H2 fp
 let#[b6,IY,D,F,a4]:=Ab (own:=own) (js:=js) d2 d3 S I2 T c0 f2 hC c2 j
 have a0:∀t:Θ,HL Y [] (σ0 own.length js σ) H2 t->tn 0 t.heap->t.heap.get? l.heap.objs.size=some {cls:= .type "list",data:= .seq ([]:Ζ).toArray 0}->
   codeAny (model X.prog X.w) X.A (.compLoop (.ListComp b0 [#[tg,q,[],(0)]] a pos) 0 (-it) (-l.heap.objs.size) (compEnvC a cl G.objs.size X.env))
    (compPost (model X.prog X.w) X.A X.xe use Post (-l.heap.objs.size) G.objs.size) t:=by
  intro t I3 d0 c6;refine rK (λn s'=>∃i ys τ H' f k,HL Y [(l.heap.objs.size,{cls:= .type "list",data:= .seq f.toArray k})] τ H' s'/\tn i s'.heap/\(∀b∈fp,H' b=none)/\HR ys f/\ys.length<=ζ/\W i n ys τ H') ?_ m0 ?_
  .rintro n s4 ⟨i,ys,τ,H4,f,k,I4,b4,b7,vl,hz,w4⟩
   have d5:=I4.pin (l.heap.objs.size,{cls:= .type "list",data:= .seq f.toArray k}) (by simp [Y,ZX])
   rcases turn i n ys τ H4 w4 with⟨c3,qn⟩|⟨go,d6,step⟩
   .refine qK (T.done Y Z Z Z hc i _ s4 τ H4 _ I4 (a4 b7 (by simp)) b4 c3) λr s5 P=>?_
    let#[hr,I5]:=P;subst hr
    show compPost _ _ _ _ _ _ _ _ _
    let#[m5,d4,_]:=I5.loc;have R:=I5.pin (l.heap.objs.size,{cls:= .type "list",data:= .seq f.toArray k}) (by simp [Y,ZX])
    have a1:H4 l.heap.objs.size=none:=R.2.1
    have B:=I5.base;have nC:H4 G.objs.size=none:=I5.free
    let#[z1,z2]:=xp (ob:= .lst ys) I2 f2 hC I5 a1 #[hz,f,k,vl,R.1]
    exact b3 l.heap.objs.size G.objs.size s5 (HI H4 l.heap.objs.size (.lst ys)) m5 z1 d4 z2 (qn _ a1)
   .refine qK (T.item Y Z Z Z hc i _ s4 τ H4 _ I4 (a4 b7 (by simp)) b4 go) λr s5 P=>?_
    let#[u,hr,h5]:=P;subst hr;refine qK h5 λ_ s6 P=>?_
    let#[x,H6,I6,r6,y6,a3,c5]:=P;have c4:=I6.pinned (a4 c5 (by simp)) (T.obj _ _ a3)
    refine qK (hg _ _ _ _ _ s6 τ H6 x u _ c4 r6 (step x H6 y6)) λ_ s7 P=>?_
    let#[a2,H7,I7,N,hN,q7]:=P;refine qK (he _ _ _ _ _ s7 a2 H7 _ I7 q7) λv' s8 P=>?_
    let#[y,H8,I8,r8,n8]:=P;let#[m',d1,w8]:=hN _ _ n8;have A:=I8.pin (l.heap.objs.size,{cls:= .type "list",data:= .seq f.toArray k}) (by simp [ZX])
    have E:∀b∈fp,∀o,s6.heap.get? b=↑o->s8.heap.get? b=↑o/\H8 b=none:=λb w o e=>by
     have:=I8.pin (b,o) (FG _ (FG _ (fQ w e)))
     exact#[this.1,this.2.1]
    refine wpAny_list_append_plain (items:=f.toArray) #[k,A.1] (λh' M b5=>?_) (by have:=vl.length;simp;lia)
    let#[k',M]:=M;have I9:HL Y [] a2 H8 {s8 with heap:=h'}:=by
     refine(I8.pins_of (pins':=[]) (by simp)).turned (t':=s8.toks) (it:=l.heap.objs.size) (λb o w e=>(b5.2 b w).trans e) A.2.1 ?_ (.inr (Jf _)) (λx c e=>F x c e) (λp hp=>absurd (show p∈([]:HF)from by simpa [Y,ZX]using hp) (by simp))
     exact O
    have ea:(f.toArray.push v')=(f++[v']).toArray:=by simp
    rw[ea]at M;refine#[m',d1,i+1,ys++[y],a2,H8,f++[v'],k',I9.pins_of ?_,T.keep _ _ _ a3 λb w o e=>(b5.2 b (L b (b6 b w)).2).trans (E b w o e).1,λb w=>?_,vl.append (.cons r8 .nil),?_,w8]
    .intro p hp
     rw[Jg.mp hp]
     exact#[M,A.2.1,O,D,λv z=>by cases z]
    .let#[o,e,_]:=T.obj _ _ a3 b w
     exact(E b w o e).2
    .rw[Jq,IK];lia
  .refine#[(0),[],σ0 own.length js σ,H2,[],(0),I3.pins_of ?_,d0,λb w=>(f2 b w).1,.nil,JL _,w0]
   intro p hp;rw[Jg.mp hp]
   exact#[c6,I2.hok.fresh (Jf _),O,D,λv z=>by cases z]
 have a5:tn 0 K:=T.keep _ _ _ c0 λb _ o e=>c2 b o e
 exact codeAny_compStart_list (a0 _ IY a5 U) (T.self _ 0 _ _ _ a5 (a0 _ IY a5 U))
theorem B5{j tg d:Φ}{a:Scope}{cl:List (Str×Δ)}{pos:Pos}{fr own:Α}{js:Μ}{u:TI}{g:TG}{te:TE}
  (hc:X.calm=true)(hi:PI X tg d u)(f:closureFor a X.env=pure cl)(t:∀y c,cl.lookup y=↑c->X.env.cells.lookup y=↑c)(n:cl.map (·.1)=fr)
  (S:Ma X a fr js)
  (hg:∀C s H r,PG (ZX X (own++fr) a cl C s H r) tg g)(w:∀C s H r,PE (ZX X (own++fr) a cl C s H r) j te)
  (hs:∀x,foldedSetIterable d X.env x=pure x:=by intro _;rfl):
  PE X (.ListComp j [#[tg,d,[],(0)]] a pos) (kA own.length js u g te):=by
 intro tx s σ H Q I h;rw[eval_ListComp];refine pq (use:=none) hc hi f t n S hg w hs I h λl C v H' m A z i q=>?_
 exact#[m,z,λh' p=>#[-l,H',A.turned (t':=v.toks) (λb o B e=>(p.2 b B).trans e) i.free i.loc (.inr i.new) i.cell i.pin,Z,q]]
theorem Ce{j tg f:Φ}{d:Scope}{cl:List (Str×Δ)}{pos l t:Pos}{fr own:Α}{js:Μ}{K:TI}{g:TG}{te:TE}{i:Nat}{y:Str}
  (L:X.N.Nodup)(J:X.N[i]? =↑y)(M:pJ X.env.scope y)
  (hc:X.calm=true)(hi:PI X tg f K)(p:closureFor d X.env=pure cl)(B:∀y c,cl.lookup y=↑c->X.env.cells.lookup y=↑c)(F:cl.map (·.1)=fr)
  (S:Ma X d fr js)
  (hg:∀C s H A,PG (ZX X (own++fr) d cl C s H A) tg g)(U:∀C s H A,PE (ZX X (own++fr) d cl C s H A) j te)
  (hs:∀x,foldedSetIterable f X.env x=pure x:=by intro _;rfl)(E:swapsWith (.ListComp j [#[tg,f,[],(0)]] d pos) ↑(.Name y t) l.line X.env=pure true:=by rfl)
  (R:X.fn y=true\/X.env.scope.names.lookup y=some .local:=by first|exact .inl Z|exact .inr Z|assumption):
  PS X (.Assign [.Name y t] (.ListComp j [#[tg,f,[],(0)]] d pos) l) (uM (kA own.length js K g te) (cX i)):=by
 intro tx s σ H D I h;rw[exec_Assign_Name_used _ _ _ _ E];refine Ja (FN (Ja ?_))
 show ε _ X.A (do let _ <- comprehension (.ListComp j [#[tg,f,[],(0)]] d pos) d X.env _ (newList []) false (eval f X.env) ↑(assign (.Name y t) X.env)) _ _ s
 refine Ja (JR (pq (use:=↑(assign (.Name y t) X.env)) (Post:=λ_ s'=>SP X tx D .next s') hc hi p B F S hg U hs I h ?_) (λ_ s' Q=>Ji (Ji Q)) λ_ _ e=>e)
 intro r C s5 H' m P Y n q
 show ε _ X.A (assign (.Name y t) X.env (-r)) _ _ _
 refine wpAny_assign_Name (nN (v:= .ref r) P L J M Z (λN T O=>?_) R)
 let#[a,w,W]:=O;have u:C≠a:=by
  rcases W with z|z
  .rw[z];exact n.loc
  .exact Ne.symm (n.cell _ _ z)
 refine#[m,Y.sameBut w u,λh' G=>?_]
 exact#[_,H',T.turned (t':=N.toks) (λb o hb e=>(G.2 b hb).trans e) n.free n.loc (.inr n.new) n.cell n.pin,q]
section
variable{js:Μ}{te:TE}{σ:L2.St}{H:Hp}{Q:VK}{K:ι}
noncomputable abbrev aQ(js:Μ)(σ:L2.St):L2.St:=js.map λj=>(σ[j]?).join
abbrev bA(J:It)(js:Μ)(te:TE)(σ:L2.St)(H1:Hp)(Q:VK):Prop:=uA 1 js (cX 0) te σ Q J H1
theorem fY(hn:n<=ζ)(c:Nat->V->Prop)(Pv:Nat->Β->Hp->Prop)(l:Pv 0 [] H)(d:∀i ys H,i<n->Pv i ys H->J.go i H)(hst:∀ys H,Pv n ys H->J.stop n H)(q:∀i ys H x H',i<n->Pv i ys H->J.yld i H x H'->H'=H/\c i x)(hs:∀i ys H x,i<n->ys.length=i->Pv i ys H->c i x->te (↑x::aQ js σ) H λv H3=>Pv (i+1) (ys++[v]) H3)(h:∀ys H,ys.length=n->Pv n ys H->∀p,H p=none->Q (-p) (HI H p (.lst ys))):bA J js te σ H Q:=by
 exists λi m ys g H=>m=n-i/\i<=n/\ys.length=i/\Pv i ys H/\∃o,g=o::aQ js σ,#[n,by simp,JL _,Z,l,none,Z]
 rintro i m ys g H ⟨rfl,hi,f,p,o,rfl⟩
 by_cases a:i<n
 .refine .inr #[d i ys H a p,by lia,λx H' y=>?_]
  let#[e,j]:=q i ys H x H' a p y;subst e
  exact#[λv H3=>Pv (i+1) (ys++[v]) H3,λv H3 r=>#[n-(i+1),by lia,Z,a,by simp [f],r,0],hs i ys _ x a f p j]
 .have e:i=n:=by lia
  subst e;exact .inl #[hst ys H p,h ys H f p]
theorem cZ(hn:xs.length<=ζ)(Pv:Nat->Β->Hp->Prop)(f:Pv 0 [] H)(c:∀i ys H,Pv i ys H->HP K H a xs)(hs:∀i ys H x,xs[i]? =↑x->ys.length=i->Pv i ys H->te (↑x::aQ js σ) H λv H3=>Pv (i+1) (ys++[v]) H3)(d:∀ys H,ys.length=xs.length->Pv xs.length ys H->∀p,H p=none->Q (-p) (HI H p (.lst ys))):bA (jy K a) js te σ H Q:=
 fY hn (λi x=>xs[i]? =↑x) Pv f (λi ys H hi p=>#[xs,xs[i],c _ _ _ p,by simp [hi]]) (λys H p=>#[xs,c _ _ _ p,Jf _]) (λi ys H x H' _ p y=>#[y.1,y.2 xs (c _ _ _ p)]) (λi ys H x _ c p e=>hs i ys H x e c p) d
theorem gu(hn:xs.length<=ζ)(Pv:Nat->Β->Hp->Prop)(f:Pv 0 [] H)(c:∀i ys H,Pv i ys H->HQ K H a xs)(hs:∀i ys H x,xs[i]? =↑x->ys.length=i->Pv i ys H->te (↑x::aQ js σ) H λv H3=>Pv (i+1) (ys++[v]) H3)(d:∀ys H,ys.length=xs.length->Pv xs.length ys H->∀p,H p=none->Q (-p) (HI H p (.lst ys))):bA (gZ K a) js te σ H Q:=
 fY hn (λi x=>xs[i]? =↑x) Pv f (λi ys H hi p=>#[xs,xs[i],c _ _ _ p,by simp [hi]]) (λys H p=>#[xs,c _ _ _ p,Jf _]) (λi ys H x H' _ p y=>#[y.1,y.2 xs (c _ _ _ p)]) (λi ys H x _ c p e=>hs i ys H x e c p) d
theorem ly{lo:Int}(hn:n<=ζ)(Pv:Nat->Β->Hp->Prop)(e:Pv 0 [] H)(hs:∀i ys H,i<n->ys.length=i->Pv i ys H->te (↑(.int (lo+i))::aQ js σ) H λv H3=>Pv (i+1) (ys++[v]) H3)(a:∀ys H,ys.length=n->Pv n ys H->∀p,H p=none->Q (-p) (HI H p (.lst ys))):bA (pB lo n) js te σ H Q:=
 fY hn (λi x=>x= .int (lo+i)) Pv e (λi ys H hi p=>hi) (λys H p=>Jf _) (λi ys H x H' _ p y=>y) (λi ys H x hi d p c=>by subst c;exact hs i ys H hi d p) a
end
end L3
namespace L3
open PySem PySem.Spec PyProof.Rows L2
section
theorem ja{ch:Η}(I:L2.HL X tx σ H s)(k:∀b o,b∉ch->s.heap.get? b=↑o->h'.get? b=↑o)(d:∀b∈ch,am X tx H b)(ho:∀b∈ch,∃o,h'.get? b=↑o)(ha:s.heap.objs.size<=a)(w:xs.length<=ζ)(t:HR xs its)(l:IsTup h' a its.toArray):L2.HL X tx σ (HI H a (.tup xs)) {s with heap:=h',toks:=t'}:=by
 have h:H a=none:=I.hok.fresh ha
 have j:∀b o,s.heap.get? b=↑o->b≠a:=λb o e=>Jx (JO (Jl e) ha)
 have i:∀b u,H b=↑u->b∉ch:=λb u e z=>by rw[(d b z).1]at e;cases e
 refine I.step (g':=s.gens) (d':=s.drawn) (ch:=ch) (λb g=>#[(d b g).2.2.2.1,(d b g).2.1,(d b g).2.2.2.2.1,(d b g).2.2.2.2.2]) (λb o _ _ f e _=>k b o f e) (λb o _ _ f e _=>#[o.slots,k b o f e])
  (λb o _ e n=>by rw[qk (j b o e)];exact n) (λb o f e=>#[o,k b o f e]) (λb ys e=>by rw[qk (qu e h)];exact e) (λb o u e=>by rw[qk (qu e h)];exact e)
  (λb ps e=>#[(List.toArray []),by rw[qk (qu e h),e];simp]) (λm p=>?_) (λb u e=>?_) I.bare
 .let#[o,es,x,ho,r]:=p
  exact#[o,es,x,k _ o (λz=>(d _ z).2.1 Z) ho,r]
 .by_cases g:b=a
  .subst g
   rw[qb]at e;cases e
   exact#[w,its,t,l]
  .rw[qk g]at e
   refine(I.hok b u e).stay (λc v f q=>k c v ?_ q) (λc q=>by rw[qk (qu q h)];exact q) λc ys q=>by rw[qk (qu q h)];exact q
   rcases f with z|z
   .rw[z];exact i b u e
   .exact i c _ z
noncomputable def tj(K:ι)(a:Δ):It:=
 #[λi H=>∃xs x,HP K H a xs/\xs[i]? =↑x,λi H x H'=>∃p v,H p=none/\x= .ref p/\(∀xs,HP K H a xs->xs[i]? =↑v)/\H'=HI H p (.tup [.int i,v]),λi H=>∃xs,HP K H a xs/\xs.length<=i]
theorem mX{P:Ξ}{w:Ω}{K:ι}{r:Ι}{x1}{pos:Pos}(a e it:Δ)(n:e≠it):
  MM P w K (.Tuple r x1 pos) (tj K a) [e,it] e (λi h=>(∃c,IsEnum h e it i c)/\h.IsListIter it a i) where
 mem:=by simp
 obj:=λi h st b f=>by
  let#[#[c,g],#[o,M,R,W]]:=st;rcases Jh.mp f with z|z
  .subst z
   refine#[_,g,λv z=>?_]
   have z':Data.fields _=Data.cell v:=z
   cases z'
  .rw[Jg.mp z]
   exact#[o,M,λv z=>by rw[W]at z;cases z]
 keep:=λi h h' st k=>#[let⟨c,g⟩:=st.1;#[c,k e (by simp) _ g],st.2.at λo q=>k it (by simp) o q]
 item:=by
  intro X G D N R i tx s σ H E I B st J;subst G D N;let#[xs,x,C,F]:=J;let#[its,L,p,U]:=I.list C;let#[u,hu,ru]:=L.get F;let#[#[c,g],hit]:=st;refine wpAny_pyNext_enum_item g hit p.isList (x:=u) (by simpa using hu) n λh' M j S Y hk=>#[0,?_]
  refine wpAny_letOwnedTupleGo_enum M λO l d=>?_
  have m:e<s.heap.objs.size:=Jl g
  have t:it<s.heap.objs.size:=by let#[_,y,_]:=hit;exact Jl y
  exists .ref s.heap.objs.size,HI H s.heap.objs.size (.tup [.int i,x]),?_,Z,#[_,x,I.hok.fresh (Jf _),Z,λys hy=>by rw[I.list_inj hy C];exact F,Z],#[#[_,by simpa using l],?_]
  .show L2.HL X tx σ _ {s with heap:=O,toks:=s.toks+1}
   refine ja (s:=s) (its:=[.int i s.toks,u]) I (ch:=[e,it]) (λb o f q=>?_) B (λb f=>?_) (Jf _) (by show 2<=ζ;decide) (.cons #[0] (.cons ru .nil)) ?_
   .have A:b≠e:=λz=>f (by simp [z])
    have Q:b≠it:=λz=>f (by simp [z])
    exact(d.2 b A).trans (hk b o A Q q)
   .rcases Jh.mp f with z|z
    .subst z;exact#[_,l]
    .rw[Jg.mp z]
     let#[o,y,_]:=j
     exact#[o,(d.2 it (Ne.symm n)).trans y]
   .exact#[_,(d.2 _ (J2 m)).trans S,7]
  .exact j.extBut d.extBut (Ne.symm n)
  .intro b f
   rw[qk]
   .exact(B b f).1
   .rcases Jh.mp f with z|z
    .subst z;exact Jx m
    .rw[Jg.mp z];exact Jx t
 done:=by
  intro X G D N R i tx s σ H E I B st J;subst G D N;let#[xs,C,F]:=J;let#[its,L,p,U]:=I.list C;let#[#[c,g],hit]:=st;let#[T,f1,f2,f3,f4,f5]:=B it (by simp)
  have hl:=L.length;exact wpAny_pyNext_enum_end (I.ok.hd R) g hit p.isList (by simp;lia) λh' eb=>#[Z,I.turned (t':=s.toks) (λb o f e=>eb b o f e) T f1 f3 f4 f5]
 self:=λ_ _ _ _ _ st h=>by
  let#[#[c,g],_]:=st;exact GJ g h
noncomputable def Ee(K:ι)(ta:TA):TI:=λσ H R=>ta σ H λc H1=>∃a,c=[-a]/\(∃xs,HP K H1 a xs)/\R (tj K a) H1
theorem BE{x1}(hg:Gl X "enumerate")(hm:X.mg "enumerate"=none)(ha:QA X [a] ta)(hs:θ [a] X.env=[(false,eval a X.env)]:=by rfl):QI X (.Tuple d x1 tpos) (.Call (.Name "enumerate" p) [a] [] pos) (Ee X.K ta):=#[by
 intro tx s σ H R I h;refine Call_ (bJ I hg hm boot_enumerate (Ge (qK (ha.h pos tx s σ H _ I h) λD c j=>?_) hs Z))
 let#[B,H1,g,x,t]:=j;let#[l,e,#[xs,v],q]:=t;subst e;let#[u,rfl,r]:=x.one;cases r;let#[m,C,w,A]:=g.list v;refine call_enumerate_list w.isList λh' i hit n hk=>GJ i ?_
 have o:L2.HL X tx σ H1 {c with heap:=h'}:=g.kept (t':=c.toks) hk
 refine#[c.heap.objs.size+1,[c.heap.objs.size+1,c.heap.objs.size],8,H1,Z,o,mX l _ _ (J2 (FP _)),#[#[_,i],hit],λb y=>?_,q]
 have f:c.heap.objs.size<=b:=by
  rcases Jh.mp y with z|z
  .rw[z];exact J1 _
  .rw[Jg.mp z];exact Jf _
 exact g.fpOk f (g.hok.fresh f)]
theorem rA{K:ι}{g:TG}{tb:TS}{D:Lr}(Pv:Nat->L2.St->Hp->Prop)(s:Pv 0 σ H)(t:∀i σ H,i<=xs.length->Pv i σ H->HP K H a xs)(hs:∀i x σ H p,xs[i]? =↑x->Pv i σ H->H p=none->g (-p) σ (HI H p (.tup [.int i,x])) λc h=>tb {D with nx:=Pv (i+1),ct:=Pv (i+1),bk:=D.nx} c h)(j:∀σ H,Pv xs.length σ H->D.nx σ H):
  ∃W:Nat->Nat->L2.St->Hp->Prop,(∃m,W 0 m σ H)/\∀i m σ H,W i m σ H->
   ((tj K a).stop i H/\D.nx σ H)\/((tj K a).go i H/\∃N:L2.St->Hp->Prop,(∀d H',N d H'->∃m',m'<m/\W (i+1) m' d H')/\∀x H',(tj K a).yld i H x H'->g x σ H' λc h=>tb {D with nx:=N,ct:=N,bk:=D.nx} c h):=by
 exists λi m σ H=>m=xs.length-i/\i<=xs.length/\Pv i σ H,#[xs.length,by simp,JL _,s]
 rintro i m σ H ⟨rfl,hi,p⟩
 have q:=t i σ H hi p
 by_cases f:i<xs.length
 .refine .inr #[#[xs,xs[i],q,by simp [f]],Pv (i+1),λd H' l=>#[xs.length-(i+1),by lia,Z,f,l],λx H' y=>?_]
  let#[n,v,r,rfl,o,rfl]:=y;exact hs i v σ H n (o xs q) p r
 .have e:i=xs.length:=by lia
  subst e;exact .inl #[#[xs,q,Jf _],j σ H p]
end
noncomputable def Qo(t c:String):Bool:=t==c||(t=="bool"&&c=="int")
noncomputable abbrev mJ:List String:=["NoneType","bool","int","str","list","tuple"]
noncomputable abbrev lR:List String:=["bool","int","str","list","tuple"]
theorem lX(K:ι):∀t∈mJ,∀c∈lR,W.kitOne K (.type t) (.type c)=↑(Qo t c):=by
 intro t a c d;simp only[mJ,lR,Jh,Jr,Js]at a d;rcases a with rfl|rfl|rfl|rfl|rfl|rfl<;>rcases d with rfl|rfl|rfl|rfl|rfl<;>kernel_rfl
section
theorem p9:Qh X (.builtin "isinstance") (λxs H Q=>∃x c t,xs=[x,.ty c]/\MN X.K H x (.type t)/\t∈mJ/\c∈lR/\Q (.bl (Qo t c)) H):=by
 intro tx s σ H xs g Q I r h;let#[x,c,t,rfl,ty,a,f,q]:=h;let#[u,v,rfl,d,e]:=db r
 cases(show v=Γ.type c from e)
 exact va I d ty (lX X.K t a c f) λtk=>#[.bl _,H,I.tok tk,Z,q]
theorem fV:∀{bs:List Bool} {us:Ζ},HR (bs.map V.bl) us->us=bs.map Γ.bool
 | [],_,.nil=>rfl
 |b::bs,_,.cons r t=>by
  cases(show _=Γ.bool b from r)
  rw[fV t];rfl
theorem uB(bs:List Bool):((List.range bs.length).all λi=>(bs[i]?).getD true)=bs.all id:=by
 rw[F0,FK,FK];constructor
 .intro h b c
  let#[i,hi,e]:=List.mem_iff_getElem.mp c
  have:=h i (FX.mpr hi)
  rw[Jk hi,Gn,e]at this;exact this
 .intro h i hi
  have a:=FX.mp hi;rw[Jk a,Gn];exact h _ (FL a)
theorem bL(hc:X.calm=true):Qh X (.builtin "all") (λxs H Q=>∃(p:Δ) (bs:List Bool),xs=[-p]/\HP X.K H p (bs.map V.bl)/\Q (.bl (bs.all id)) H):=by
 intro tx s σ H xs C Q I r h;let#[p,bs,rfl,w,q]:=h;let#[u,rfl,n]:=Q1 r;cases n;let#[c,t,x,y]:=I.list w;have e:=fV t;have d:=x.isList;have f:p<s.heap.objs.size:=by let#[_,e,_]:=d;exact Jl e
 refine call_all_walk (GC d ?_)
 refine#[s.heap.objs.size,[s.heap.objs.size,p],[s.heap.objs.size],c.toArray.size,8,λi=>(bs[i]?).getD true,Z,Walks.list (A:=X.A.in1) (I.ok.hd hc) _ p (Jx f) c.toArray,
  #[#[_,Ju _ Z,12],d.push _],λi v s' B z m g=>?_,λh' tk hk=>?_]
 .have a:c[i]? =↑v:=by simpa using m
  rw[e,Jp]at a;cases eb:bs[i]? with
  |none=>rw[eb]at a;cases a
  |some b=>
   rw[eb]at a
   cases(JF a:Γ.bool b=v)
   simp only[eb,Gn]at g;exact FF g
 .have j:((List.range c.toArray.size).all λi=>(bs[i]?).getD true)=bs.all id:=by
   rw[JC,e,Jb];exact uB bs
  rw[j];refine#[.bl _,H,I.kept (h':=h') (t':=tk) λb o q=>hk b o (λl=>?_) (Jj _ q),Z,q]
  rw[Jg.mp l]at q;exact J4 _ (Jl q)
theorem vU:Qh X (.type "range") (λxs H Q=>∃j:Int,xs=[.int j]/\∀p,H p=none->Q (-p) (HI H p (.rng 0 j))):=by
 intro tx s σ H xs c Q I r h;let#[j,rfl,q]:=h;let#[u,rfl,a]:=Q1 r;let#[t,rfl]:=a;refine call_range_1 #[-s.heap.objs.size,_,I.laid (o:= .rng 0 j) (λb o e=>Jj _ e) (Jf _) #[22,Ju _ Z],Z,q _ (I.hok.fresh (Jf _))]
inductive P4 (x:V) (lo:Λ) (hi:Λ) (H:Hp) (Q:VK):Prop
 |mk (a:_) (xs:_) (h1:x= .ref a) (h2:H a=↑(.tup xs)) (h3:∀p H',HG H H'->H' p=↑(.tup (bV xs lo hi))->(p=a\/H p=none)->Q (-p) H')
theorem gX{prog:Ξ}{w:Ω}{A:Around}{E:HD}{s:Θ}{t d:Δ}{items:Array Γ}{i j:Γ}{lo hi:Λ}{Q:HD}(a:IsTup s.heap t items)(hs:s.heap.IsSliceOf d i j .none)(pl:IsPart i lo)(n:IsPart j hi)
  (g:HT.sIx items.size 0 lo=0/\HT.sIx items.size items.size hi=items.size)(h:Q (-t) s):ε (model prog w) A (getItem (-t) (-d)) Q E s:=by
 let#[os,c,e,l]:=id hs;have f:s.TypeIs (-d) "slice":=⟨os,c,e⟩
 unfold getItem
 try with_reducible refine J5 ?_
 first|refine Ja (Ji ?_)|skip
 refine Ja (wpAny_sequenceKey a.typeIs ⋯ ?_)
 refine Ja (wpAny_callSpecial?_slot (name:=Str.ofString "__getitem__") a.typeIs Ii
  (J9 Ii a.typeIs entry_tuple_getitem ?_ (args_tuple_getitem _ _)))
 show ε _ _ (γ.Tuple.tupleItemsOf (-t) >>= _) _ _ s
 refine Ja (tupleItemsOf_ a ?_)
 refine Ja (wpAny_typeOf f ?_)
 rw[Jd ⋯]
 refine Ja (HT.sliceApplied_gen hs pl n ?_)
 show ε _ _ (if(((HT.sIx items.size 0 lo:Nat):Int)==0&&(1:Int)==1&&(HT.sIx items.size items.size hi-HT.sIx items.size 0 lo)==items.size)=true then _ else _) _ _ s
 rw[g.1,g.2,Jd (by simp)]
 refine Ja (m:=γ.Tuple.tupleIsExact _) ?_
 unfold γ.Tuple.tupleIsExact;refine Ja (wpAny_typeOf a.typeIs (Ji ?_))
 rw[Jd (by rfl)]
 exact Ja (FY (Ji ⟨_,Z,Ji h⟩))
theorem eV:AG X P4:=by
 intro tx s σ H x v u y lo hi w Q I j l n t h;let#[a,xs,rfl,f,q]:=h
 by_cases d:HT.sIx xs.length 0 lo=0/\HT.sIx xs.length xs.length hi=xs.length
 .cases j
  let#[g,r,i,z]:=I.tuple (HQ.of f)
  have c:g.toArray.size=xs.length:=by rw[JC];exact r.length.symm
  refine⟨"tuple",_,PyProof.Rows.slot_tuple_getitem.lookup,i.typeIs,?_⟩
  refine gX i l n t (by rw[c];exact d) ⟨.ref a,H,I,Z,q a H (HG.refl H) ?_ (.inl Z)⟩
  have:bV xs lo hi=xs:=by unfold bV;rw[d.1,d.2];simp
  rw[this];exact f
 .exact Cw tx s σ H _ v u y lo hi w Q I j l n t ⟨a,xs,Z,HQ.of f,d,λp m=>q p _ (λb o e=>by rw[qk (qu e m)];exact e) qb (.inr m)⟩
inductive PQ (x:V) (y:V) (H:Hp) (Q:VK):Prop
 |mk (a:_) (b:_) (xs:_) (ys:_) (h1:x= .ref a) (h2:y= .ref b) (h3:H a=↑(.tup xs)) (h4:H b=↑(.tup ys)) (h5:xs.length+ys.length<=ζ) (h6:∀p H',HG H H'->H' p=↑(.tup (xs++ys))->Q (-p) H')
theorem lO:Qq X (binaryOp .Add) PQ:=by
 intro tx s σ H x y v u Q I C z h;let#[a,b,xs,ys,rfl,rfl,l,r,F,q]:=h
 by_cases t:xs=[]
 .subst t
  cases C;cases z;let#[J,M,G,_]:=I.tuple (HQ.of l)
  let#[c,N,p2,_]:=I.tuple (HQ.of r)
  cases M;let#[#[cls,dd,D,L],B,E,n,w]:=id G;let#[#[A,j,i,m],g,f,n2,d]:=id p2;simp only at E w f d
  subst E w f d;exact concat_meets ⟨_,B,Z⟩ ⟨_,g,Z⟩ noFill_tuple_add seq_tuple_add IF IG (IH _ _)
   (tuple_addW0 a b _ c.toArray n n2 dd j L m (by simp)) ⟨B,g,⟨.ref b,H,I,Z,q b H (HG.refl H) r⟩⟩
 .refine BU tx s σ H _ _ v u Q I C z ⟨a,b,xs,ys,Z,Z,HQ.of l,HQ.of r,t,F,λe=>q a H (HG.refl H) (by subst e;simpa using l),λ_ p K=>q p _ (λb o e=>by rw[qk (qu e K)];exact e) qb⟩
theorem sL{ns:Ε}(r:HR (ns.map V.int) us)(j:Nat)(h:j<us.length)(h':j<ns.length):∃t,us[j]=Γ.int ns[j] t:=by
 let#[u,a,c]:=r.get (i:=j) (x:=V.int ns[j]) (by rw[Jp,Jk h'];rfl)
 rw[Jk h]at a;cases a;exact c
theorem Aj(ns ms:Ε)(h:ns.length=ms.length):((List.range ns.length).all λj=>(ns.getD j 0==ms.getD j 0))=decide (ns=ms):=by
 rw[F0,FK,F2];constructor
 .intro q
  refine List.ext_getElem h λi h1 a=>?_
  have:=q i (FX.mpr h1)
  simp only[JM,Jk h1,Jk a,Gn,Fu]at this;exact this
 .rintro rfl i _
  simp
end
noncomputable def ba:Φ->Bool
 | .Starred .. =>false
 |_=>true
theorem dv(h:ba e=true):θ (e::es) env=(false,eval e env)::θ es env:=by
 cases e<;>first|rfl|cases h
theorem qc(ha:QE X e te)(a:QA X es t)(h:ba e=true:=by rfl):QA X (e::es) (AF te t):=#[BO ha.h a.h (dv h)]
structure Df(P:Ξ)(w:Ω)(K:ι)(mg:HE)(base:Ψ)(x:Str)(ps:Α)(k:Nat)(sp:Sp):Prop where
 ex:∃(f:Δ) (fd:FuncData),Mj P w K mg base bY k f fd ps sp/\mg x=↑(-f)/\PySem.W.keepIn K (-f)=true/\LL K fd ps []
structure At(K:ι)(mg:HE)(x:Str)(st:δ)(ps:Α):Prop where
 ex:∃(f:Δ) (fd:FuncData),OU K x x st f fd/\mg x=↑(-f)/\PySem.W.keepIn K (-f)=true/\LL K fd ps []
section
variable{P:Ξ}{w:Ω}{K:ι}{mg:HE}{base:Ψ}
theorem At.df{st:δ}{k:Nat}{sp:Sp}(a:At K mg x st ps)(S:HH N ps (qm st))(d:∀vs H Q E,sp vs H Q E->vs.length=ps.length)(c:∀(f:Δ) (cdv:Γ) (A:Around) (outer:Ο) (s:Θ) (H:Hp) (vs:Β) (Q:VK) (E:XK),Lb k (A.deeper (envOfC x (qm st) s.heap.objs.size f cdv))->sp vs H Q E->
   ∃t,O7 (QJ bY P w K mg base N x (qm st) f cdv A outer s H E).nox (Qi st) t/\t {nx:=λ_ H'=>Q .non H',rt:=Q} (Zl N vs) H):Df P w K mg base x ps (k+1) sp:=by
 let#[f,fd,F,m,e,bd]:=a.ex
 exact#[f,fd,F.ok S d (λcdv A outer s H vs Q E g h=>c f cdv A outer s H vs Q E g h),m,e,bd]
end
section
variable{k:Nat}{sp:Sp}
theorem qy{k:Nat}{sp:Sp}(D:Df X.prog X.w X.K X.mg X.base x ps k sp)(h:Lb k X.A)(ha:QA X (e::es) t)(hg:Gl X x:=by rfl)(a:(x==("__debug__":Str))=false:=by decide)(d:θ (e::es) X.env=(false,eval e X.env)::θ es X.env:=by rfl)(c:(backTo pos (θ es X.env)).any (·.1)=false:=by rfl):QE X (.Call (.Name x p) (e::es) [] pos) (AK sp [] E0 t):=#[by
 let#[f,fd,ok,m,g,bd]:=D.ex;exact BM ok h hg m g bd .nil lD ha.h a d c]
end
theorem iy(e:a.kind= .function)(d:∀x∈a.names,x.2= .local->a.names.lookup x.1=some .local)(c:∀x∈a.names,x.2≠ .cell)(free:∀x∈a.names,x.2= .free->x.1∈([]:Α)):Ma X a [] []:=#[e,d,c,free,Z,λi j y h=>by simp at h]
theorem wF(e:a.kind= .function)(d:∀x∈a.names,x.2= .local->a.names.lookup x.1=some .local)(c:∀x∈a.names,x.2≠ .cell)(free:∀x∈a.names,x.2= .free->x.1∈([y]:Α))(h1:X.N[j]? =↑y)(h:X.env.kindOf y=some .cell)(l:(relabel a X.env).names.lookup y=some .cell):Ma X a [y] [j]:=
 #[e,d,c,free,Z,λi m y' f g=>by
  cases i with
  |zero=>cases f;cases g;exact#[h1,h,l]
  |succ i=>simp at f]
theorem Ai{X:Cx}{y:Str}{c:Δ}(h:X.env.cells.lookup y=↑c):∀z d,([(y,c)]:List (Str×Δ)).lookup z=↑d->X.env.cells.lookup z=↑d:=λz d e=>by
 by_cases a:z=y
 .subst a
  simp at e
  rw[<- e];exact h
 .simp [Fp,show(z==y)=false from by simpa using a]at e
theorem sS{X:Cx}{K:ι}(h:X.K=K):O9 X (Am K):=by subst h;exact qS
noncomputable abbrev wD(n m k:Int):HO:= .lst [.int n,.int m,.int k]
theorem _root_.L2.HG.upd{H:Hp}{p:Δ}{o:HO}(h:H p=none):HG H (HI H p o):=λb u e=>by rw[qk (qu e h)];exact e
theorem Dv(c:Bool): -(2 ^ 64:Int)<(if c=true then(1:Int)else 0):=by cases c<;>decide
theorem CY(c:Bool):(if c=true then(1:Int)else 0)<(2 ^ 64:Int):=by cases c<;>decide
theorem sI(h:j<n):bM n (j:Int)=↑j:=by unfold bM;rw[Jd (by lia),Jd (by lia)];simp
noncomputable def mC(ns:Ε)(lo hi:Λ):Ε:=(ns.drop (HT.sIx ns.length 0 lo)).take (HT.sIx ns.length ns.length hi-HT.sIx ns.length 0 lo)
theorem Aa(ns:Ε)(lo hi:Λ):bV (ns.map V.int) lo hi=(mC ns lo hi).map V.int:=by unfold bV mC;rw[Jb,List.map_take,List.map_drop]
theorem xm(ns:Ε)(lo hi:Λ):(mC ns lo hi).length=min (HT.sIx ns.length ns.length hi-HT.sIx ns.length 0 lo) (ns.length-HT.sIx ns.length 0 lo):=by unfold mC;rw[Fv,Ih]
theorem Zy{ns:Ε}{i:Nat}(h:(ns.map V.int)[i]? =↑x):∃z,x= .int z/\ns[i]? =↑z:=by
 rw[Jp]at h;cases e:ns[i]? with
 |none=>rw[e]at h;cases h
 |some z=>rw[e]at h;exact#[z,(JF h).symm,Z]
theorem lW{ns:Ε}(h:i<ns.length):(ns.map V.int)[i]? =↑(.int ns[i]):=by rw[Jp,Jk h];rfl
theorem gi(ns:Ε)(i:Nat)(z:Int):(ns.map V.int).set i (.int z)=(ns.set i z).map V.int:=by rw[List.map_set]
noncomputable def AN:Option HO->Option String
 |some (.lst _)=>↑"list"
 |some (.tup _)=>↑"tuple"
 |_=>none
noncomputable def kd(H:Hp):V->Option String
 | .non=>↑"NoneType"
 | .bl _=>↑"bool"
 | .int _=>↑"int"
 | .str _=>↑"str"
 | .ref a=>AN (H a)
 |_=>none
theorem vA(h:AN o=↑t):(∃xs,o=↑(.lst xs)/\t="list")\/(∃xs,o=↑(.tup xs)/\t="tuple"):=by
 cases o with
 |none=>cases h
 |some u=>
  cases u with
  |lst xs=>cases h;exact .inl #[xs,12]
  |tup xs=>cases h;exact .inr #[xs,12]
  |_=>cases h
theorem kO(h:kd H (-a)=↑t):(∃xs,H a=↑(.lst xs)/\t="list")\/(∃xs,H a=↑(.tup xs)/\t="tuple"):=vA h
theorem DZ{K:ι}(h:kd H x=↑t):MN K H x (.type t)/\t∈mJ:=by
 cases x with
 |non=>cases h;exact#[.non,by simp]
 |bl b=>cases h;exact#[.bl b,by simp]
 |int i=>cases h;exact#[.int i,by simp]
 |str x=>cases h;exact#[.str x,by simp]
 |byt b=>cases h
 |flt b=>cases h
 |ty b=>cases h
 |ref a=>
  rcases kO h with⟨xs,e,rfl⟩|⟨xs,e,rfl⟩
  .exact#[.lst e,by simp]
  .exact#[.tup e,by simp]
theorem jc(s:HG H H')(h:kd H x=↑t):kd H' x=↑t:=by
 cases x with
 |ref a=>
  rcases kO h with⟨xs,e,rfl⟩|⟨xs,e,rfl⟩
  .show AN (H' a)=_;rw[s _ _ e];rfl
  .show AN (H' a)=_;rw[s _ _ e];rfl
 |_=>exact h
noncomputable def gl:V->Bool
 | .int i=>decide (0<=i)&&decide (i<16)
 |_=>false
theorem ZG{α:Type}{xs:List α}{r:Int}(c:0<=r)(h1:r<xs.length):∃v,Q3 xs r=↑v/\v∈xs:=by
 have a:r.toNat<xs.length:=by lia
 refine#[xs[r.toNat],?_,FL a]
 have e:Q3 xs ((r.toNat:Nat):Int)=some xs[r.toNat]:=Qe (Jk a)
 rwa [show((r.toNat:Nat):Int)=r by lia]at e
inductive Oy (K:ι) (vs:Β) (H:Hp) (Q:VK) (_3:XK):Prop
 |mk (a:Δ) (ns:Ε) (h1:vs=[-a]) (h2:HP K H a (ns.map V.int)) (h3:ns.length<=63) (h4:∀H',Q (.bl true) H')
inductive Oz (vs:Β) (H:Hp) (Q:VK) (_3:XK):Prop
 |mk (x:_) (t:_) (h1:vs=[x]) (h2:kd H x=↑t) (h3:Q (.bl (gl x)) H)
inductive N7 (vs:Β) (H:Hp) (Q:VK) (_3:XK):Prop
 |mk (p:_) (xs:_) (h1:vs=[-p]) (h2:H p=↑(.tup xs)) (h3:xs.length<=ζ) (h4:(∀x∈xs,∃t,kd H x=↑t)) (h5:∀H',HG H H'->Q (.bl (xs.all gl)) H')
end L3
namespace L3
open PySem PySem.Spec L2
variable{X:Cx}
theorem jU{b:Φ}(ho:Qq X (compareOp d) r)(ho':Qq X (compareOp op') e)(ha:QE X a ta)(hb:QE X b tb)(hc:QE X c tc)(hm:lastMarks [d,op'] [b,c]=false:=by with_unfolding_all rfl):QE X (.Compare a [d,op'] [b,c] pos) (ln r e ta tb tc):=⟨wP (ho:=ho) (ho':=ho') (ha:=ha.h) (hb:=hb.h) (hc:=hc.h) (hm:=hm)⟩
theorem cB{b:Φ}(ho:Qq X (compareOp d) r)(ho':Qq X (compareOp op') e)(ha:QE X a ta)(hb:QE X b tb)(hc:QE X c tc)(hm:lastMarks [d,op'] [b,c]=false:=by with_unfolding_all rfl):QT X (.Compare a [d,op'] [b,c] pos) (kX (ln r e ta tb tc)):=⟨xj (ho:=ho) (ho':=ho') (ha:=ha.h) (hb:=hb.h) (hc:=hc.h) (hm:=hm)⟩
theorem Qs(hp:PassesOwn (model X.prog X.w) X.A X.env X.xe)(hc:X.calm=true)(hi:QI X tg a d)(hg:QG X tg g)(hb:On X c tb)(hs:∀x,foldedSetIterable a X.env x=pure x:=by intro _;rfl):QS X (.For tg a c [] pos) (yb d g tb):=⟨CZ (hp:=hp) (hc:=hc) (hi:=hi.h) (hg:=hg.h) (hb:=hb.h) (hs:=hs)⟩
theorem cU{k:Nat}(hc:X.calm=true)(h:Pt X es t)(hn:(assignEach es X.env).length=n:=by rfl)(hst:(assignEach es X.env).findIdx? (·.1)=none:=by rfl):QG X (.Tuple es k pos) (uz X.K n t):=⟨pV (hc:=hc) (h:=h.h) (hn:=hn) (hst:=hst)⟩
theorem QW.pt(h:QW X e t):QT X e t:=⟨PW.pt h.h⟩
theorem qv(i:Nat){x:Str}{pos:Pos}(c:X.N[i]? =↑x:=by rfl)(d:Dg X.env.scope x:=by first|exact Or.inl Z|exact Or.inr (Or.inl Z)|exact Or.inr (Or.inr Z))(e:(x==("__debug__":Str))=false:=by decide)
  (a:(x==("__classdict__":Str))=false:=by decide):QE X (.Name x pos) (DO i):=⟨Dw c d e a⟩
def ql{X:Cx}:=@qv X 0
def qB{X:Cx}:=@qv X 1
def qJ{X:Cx}:=@qv X 2
def qP{X:Cx}:=@qv X 3
def Qk{X:Cx}:=@qv X 4
def Qw{X:Cx}:=@qv X 5
def ar{X:Cx}:=@qv X 6
theorem QR{cl:List (Str×Δ)}(hc:X.calm=true)(hi:QI X tg d l)(e:closureFor a X.env=pure cl)(j:∀y c,cl.lookup y=↑c->X.env.cells.lookup y=↑c)(i:cl.map (·.1)=fr)(S:Ma X a fr js)(hg:∀C s H f,QG (ZX X (own++fr) a cl C s H f) tg g)(m:∀C s H f,QE (ZX X (own++fr) a cl C s H f) h te)(hs:∀x,foldedSetIterable d X.env x=pure x:=by intro _;rfl):
  QE X (.ListComp h [⟨tg,d,[],0⟩] a pos) (kA own.length js l g te):=⟨B5 hc hi.h e j i S (λC s H f=>(hg C s H f).h) (λC s H f=>(m C s H f).h) hs⟩
theorem sR{cl:List (Str×Δ)}(r:X.N.Nodup)(n:X.N[i]? =↑y)(t:pJ X.env.scope y)(hc:X.calm=true)(hi:QI X tg d p)(f:closureFor a X.env=pure cl)(o:∀y c,cl.lookup y=↑c->X.env.cells.lookup y=↑c)(m:cl.map (·.1)=fr)(S:Ma X a fr js)(hg:∀C s H j,QG (ZX X (own++fr) a cl C s H j) tg g)(u:∀C s H j,QE (ZX X (own++fr) a cl C s H j) h te)(hs:∀x,foldedSetIterable d X.env x=pure x:=by intro _;rfl)(l:swapsWith (.ListComp h [⟨tg,d,[],0⟩] a pos) ↑(.Name y q) e.line X.env=pure true:=by rfl)(v:X.fn y=true\/X.env.scope.names.lookup y=some .local:=by first|exact .inl Z|exact .inr Z|assumption):
  QS X (.Assign [.Name y q] (.ListComp h [⟨tg,d,[],0⟩] a pos) e) (uM (kA own.length js p g te) (cX i)):=⟨Ce r n t hc hi.h f o m S (λC s H j=>(hg C s H j).h) (λC s H j=>(u C s H j).h) hs l v⟩
section
theorem At.dq{k:Nat}{sp:Sp}(a:At K mg x st ps)(S:HH N ps (qm st))(c:∀(f:Δ) (cdv:Γ) (A:Around) (outer:Ο) (s:Θ) (H:Hp) (vs:Β) (Q:VK) (E:XK),Lb k (A.deeper (PyProof.Rows.envOfC x (qm st) s.heap.objs.size f cdv))->sp vs H Q E->
   ∃t,On (QJ bY P w K mg base N x (qm st) f cdv A outer s H E).nox (Qi st) t/\t {nx:=λ_ H'=>Q .non H',rt:=Q} (Zl N vs) H)(d:∀vs H Q E,sp vs H Q E->vs.length=ps.length:=by intro vs H Q E h;first|(cases h;subst_vars;rfl)|((repeat first|let#[rfl,h]:=h|let#[_,h]:=h);all_goals rfl)):Df P w K mg base x ps (k+1) sp:=
 a.df S d λf cdv A outer s H vs Q E e h=>let⟨t,q1,q2⟩:=c f cdv A outer s H vs Q E e h;#[t,q1.h,q2]
theorem _root_.L2.OU.dq{k:Nat}{sp:Sp}(F:OU K x Rg st f fd)(S:HH N ps (qm st))(c:∀vs H Q E,sp vs H Q E->vs.length=ps.length)(a:∀(cdv:Γ) (A:Around) (outer:Ο) (s:Θ) (H:Hp) (vs:Β) (Q:VK) (E:XK),Lb k (A.deeper (PyProof.Rows.envOfC Rg (qm st) s.heap.objs.size f cdv))->sp vs H Q E->
   ∃t,On (QJ bY P w K mg base N Rg (qm st) f cdv A outer s H E).nox (Qi st) t/\t {nx:=λ_ H'=>Q .non H',rt:=Q} (Zl N vs) H):Mj P w K mg base bY (k+1) f fd ps sp:=
 F.ok S c λcdv A outer s H vs Q E d h=>let⟨t,q1,q2⟩:=a cdv A outer s H vs Q E d h;#[t,q1.h,q2]
theorem Ea(F:OU K x x st f fd)(m:mg x=↑(-f))(b:LL K fd ps []):At K mg x st ps:=#[f,fd,F,m,F.kp,b]
end
end L3
namespace L3
open PySem PySem.Spec PyProof.Rows L2
noncomputable def Lv:Ε:=(List.range 16).map λi=>((i:Nat):Int)
theorem wT:Lv.length=16:=by decide
theorem BI{α:Type}{xs:List α}{j:Nat}{v:α}(e:z=(j:Int))(h:xs[j]? =↑v):Q3 xs z=↑v:=by rw[e];exact Qe h
theorem mt{j:Nat}(e:z=(j:Int))(h:j<n):bM n z=↑j:=by rw[e];exact sI h
theorem rh(h:z∈Lv):0<=z/\z<16:=by
 let#[i,hi,e]:=JA.mp h
 have:=FX.mp hi
 lia
end L3
namespace L3
open PySem PySem.Spec PyProof.Rows L2
open Sem (wp)
section
theorem uh{it t:Δ}{i:Nat}{its:Array Γ}{x:Γ}{Q:HD}(hit:s.heap.IsTupleIter it t i)(g:s.heap.IsTuple t its)(f:its[i]? =↑x)
  (j:∀h',h'.IsTupleIter it t (i+1)->Ψ.SameBut it s.heap h'->Q x {s with heap:=h'}):ε (model prog w) A (γ.SmallTypes.nextOf (-it)) Q E s:=by
 let#[o,c,h,a]:=id hit;let#[ol,d,_,l,e]:=g;unfold γ.SmallTypes.nextOf;refine Ja (wpAny_callSpecial?_slot (name:=Str.ofString "__next__") hit.typeIs Io
  (J9 Io hit.typeIs F.entry_tuple_iterator_next ?_ (F.args_tuple_iterator_next_1 _)))
 show ε _ _ (field (-it) 0 >>= _) _ _ s
 refine Ja (JJ c a (x:= .ref t) Z ?_)
 show ε _ _ (if(Γ.ref t==Γ.none)=true then _ else _) _ _ s
 rw[Jc (show¬((Γ.ref t==Γ.none)=true)from JH)]
 show ε _ _ (field (-it) 1 >>= _) _ _ s
 refine Ja (JJ c a (x:= .int i 0) Z ?_)
 show ε _ _ (seqItems? (-t) >>= _) _ _ s
 refine Ja (F3 d e ?_)
 simp only[GK,f];refine Ja (FT c a (by simp) (Ji #[x,Z,Ji (j _ ?_ (GL ..))]))
 exact#[_,FQ _ c (Gp (FM a _)),(Obj.cls_mapFields ..).trans h,by
  rw[FM a];simp [rawInt]]
theorem nS{it t:Δ}{i:Nat}{its:Array Γ}{Q:HD}(h:A.handled=none)(hit:s.heap.IsTupleIter it t i)(l:s.heap.IsTuple t its)(j:its[i]? =none)
  (n:∀h' e,Ψ.ExtBut it s.heap h'->(∃o,h'.get? e=↑o/\o.cls= .type "StopIteration")->E (-e) {s with heap:=h'}):
  ε (model prog w) A (γ.SmallTypes.nextOf (-it)) Q E s:=by
 let#[o,f,p,c]:=id hit;let#[ol,d,_,q,g]:=l;unfold γ.SmallTypes.nextOf;refine Ja (wpAny_callSpecial?_slot (name:=Str.ofString "__next__") hit.typeIs Io
  (J9 Io hit.typeIs F.entry_tuple_iterator_next ?_ (F.args_tuple_iterator_next_1 _)))
 show ε _ _ (field (-it) 0 >>= _) _ _ s
 refine Ja (JJ f c (x:= .ref t) Z ?_)
 show ε _ _ (if(Γ.ref t==Γ.none)=true then _ else _) _ _ s
 rw[Jc (show¬((Γ.ref t==Γ.none)=true)from JH)]
 show ε _ _ (field (-it) 1 >>= _) _ _ s
 refine Ja (JJ f c (x:= .int i 0) Z ?_)
 show ε _ _ (seqItems? (-t) >>= _) _ _ s
 refine Ja (F3 d g ?_)
 simp only[GK,j];refine Ja (FY (Ja (FT f c (by simp) ?_)))
 show ε _ _ (newExc (.type "StopIteration") [] >>= _) _ _ _
 refine Ja ?_
 simp only[newExc,newTuple];refine Ja (Ft ?_ (by size_fits))
 refine Ja (m:=firstArgMember _ _) (FB (a:=Γ.none) (by first|rfl|(simp only[firstArgMember];rfl)) ?_)
 refine Ft ?_ (by size_fits)
 simp only[raiseNew];refine Ja (wpAny_handled ?_)
 first|rw[show A.in1.handled=none from h]|rw[h]
 refine Ja (Ji (wpAny_throw ?_))
 exact n _ _ (((GL ..).extBut.push _).push _) #[_,Ju _ Z,Z]
end
theorem v4{prog:Ξ}{w:Ω}{A:Around}(f:A.handled=none)(it t:Δ)(d:t≠it)(its:Array Γ):
  Draws prog w A it [it,t] its.size (λi v=>its[i]? =↑v) (λi h=>h.IsTupleIter it t i/\h.IsTuple t its) where
 live:=λ_ _ st=>let⟨o,ho,_⟩:=st.1;#[o,ho]
 frame:=λ_ _ _ st hk=>#[st.1.at λo e=>hk it (by simp) o e,let⟨o,e,r⟩:=st.2;#[o,hk t (by simp) o e,r]]
 item:=λi s Q E hi st j=>by
  refine uh st.1 st.2 (x:=its[i]) (by simp [hi]) λh' a c=>?_
  exact j _ h' s.toks (by simp [hi]) #[a,let⟨o,e,r⟩:=st.2;#[o,c.extBut _ _ d e,r]] c
 done:=λs Q E st g=>nS f st.1 st.2 (by simp) g
open AutoSeq1 (wpAny_loadPart')in
theorem sw(l:Δ)(items:Array Γ)(n:Nat)(f:Κ)(m:Array Ν):
  Meets (γ.«enumerate.__new__» #[[.type "enumerate",-l],[]]) (λ_ R s=>s.heap.get? l=some {cls:= .type "tuple",dict:=f,data:= .seq items n,slots:=m}/\
   R (.ok (.ret (.ref (s.heap.push {cls:= .type "tuple_iterator",data:= .fields (List.toArray [-l,.int 0 0])}).objs.size)))
    {s with heap:=(s.heap.push {cls:= .type "tuple_iterator",data:= .fields (List.toArray [-l,.int 0 0])}).push {cls:= .type "enumerate",data:= .fields (List.toArray [.none,.bool false,-s.heap.objs.size,rawInt 0,.none,.none])}}):=
 .of_wp λprog w A R s h=>by
  let#[j,g,d,tk,os]:=s;let#[a,h]:=h
  have i:=sub_enumerate;have e:Ψ.IsTuple (Θ.heap #[j,g,d,tk,os]) l items:=#[_,a,Z,n,Z]
  wp_walk using Gq a
  refine wpAny_stack_any λst=>Ji ?_
  split
  .rename_i c _ _ _ _ _
   cases(c==Γ.type "enumerate")
   .wp_walk using Gq a,FO e
    exact#[0,h]
   .wp_walk using Gq a,FO e
    exact#[0,h]
  .wp_walk using Gq a,FO e
   exact#[0,h]
section
theorem tZ{l:Δ}{items:Array Γ}{Q:HD}(j:s.heap.IsTuple l items)
  (h:∀h',IsEnum h' (s.heap.objs.size+1) s.heap.objs.size 0 .none->h'.IsTupleIter s.heap.objs.size l 0->(∀b o,s.heap.get? b=↑o->h'.get? b=↑o)->Q (.ref (s.heap.objs.size+1)) {s with heap:=h'}):
  ε (model prog w) A (call (.type "enumerate") [-l]) Q E s:=by
 let#[#[c,f,m,p],q,e,n,a]:=j
 replace e:c= .type "tuple":=e
 replace a:m= .seq items n:=a
 subst e a;refine callType_new F.called_enumerate ⋯ (F.typeCall_enumerate_1 _) (F.newCall_enumerate_1 _) (λd=>F.args_object_init_2 d _) F.entry_enumerate_new
  (sw l items n f p) #[q,?_]
 have g:(s.heap.push {cls:= .type "tuple_iterator",data:= .fields (List.toArray [-l,.int 0 0])}).objs.size=s.heap.objs.size+1:=J8 ..
 show _/\_
 rw[g];have i:IsEnum ((s.heap.push {cls:= .type "tuple_iterator",data:= .fields (List.toArray [-l,.int 0 0])}).push
   {cls:= .type "enumerate",data:= .fields (List.toArray [.none,.bool false,-s.heap.objs.size,rawInt 0,.none,.none])}) (s.heap.objs.size+1) s.heap.objs.size 0 .none:=by
  have:=Ju (s.heap.push {cls:= .type "tuple_iterator",data:= .fields (List.toArray [-l,.int 0 0])})
   (o:={cls:= .type "enumerate",data:= .fields (List.toArray [.none,.bool false,-s.heap.objs.size,rawInt 0,.none,.none])}) Z
  rw[g]at this;exact this
 exact#[#[_,i,Z],h _ i #[_,Jj _ (Ju _ Z),12] λb o x=>Jj _ (Jj _ x)]
end
noncomputable def oF(K:ι)(a:Δ):It:=
 #[λi H=>∃xs x,HQ K H a xs/\xs[i]? =↑x,λi H x H'=>∃p v,H p=none/\x= .ref p/\(∀xs,HQ K H a xs->xs[i]? =↑v)/\H'=HI H p (.tup [.int i,v]),λi H=>∃xs,HQ K H a xs/\xs.length<=i]
theorem tO{P:Ξ}{w:Ω}{K:ι}{D:Ι}{x1}{pos:Pos}(a e it:Δ)(r:e≠it):
  MM P w K (.Tuple D x1 pos) (oF K a) [e,it] e (λi h=>(∃c,IsEnum h e it i c)/\h.IsTupleIter it a i) where
 mem:=by simp
 obj:=λi h st b n=>by
  let#[#[c,j],#[o,g,O,hd]]:=st;rcases Jh.mp n with z|z
  .subst z
   refine#[_,j,λv z=>?_]
   have z':Data.fields _=Data.cell v:=z
   cases z'
  .rw[Jg.mp z]
   exact#[o,g,λv z=>by rw[hd]at z;cases z]
 keep:=λi h h' st k=>#[let⟨c,j⟩:=st.1;#[c,k e (by simp) _ j],st.2.at λo q=>k it (by simp) o q]
 item:=by
  intro X U R hK O i tx s σ H E I N st Y;subst U R hK;let#[xs,x,Q,S]:=Y;let#[its,rv,p,hz]:=I.tuple Q;let#[u,hu,ru]:=rv.get S;let#[#[c,j],hit]:=st;have a2:a≠e:=λz=>by
   subst z;let#[o,g,d,_]:=p;rw[j]at g;cases g;exact absurd (show Γ.type "enumerate"=Γ.type "tuple" from d) ⋯
  have J:a≠it:=λz=>by
   subst z;let#[o,g,d,_]:=p;let#[o',m,l,_]:=hit;rw[g]at m;cases m;rw[d]at l;exact absurd l ⋯
  have a3:i<its.toArray.size:=by
   have:=(Jt.mp hu).1
   simpa using this
  refine wpAny_pyNext_enum_itemD (v4 (A:=X.A.in1) (I.ok.hd O) it a J its.toArray) j #[hit,p] a3 r (by simp [r,Ne.symm a2]) λv h' tk hv g ⟨t,_⟩ ht a4 hk=>#[0,?_]
  have ev:v=u:=by
   have G:its[i]? =↑v:=by simpa using hv
   rw[hu]at G;exact(JF G).symm
  subst ev;refine wpAny_letOwnedTupleGo_enum g λa0 B f=>?_
  have C:e<s.heap.objs.size:=Jl j
  have L:it<s.heap.objs.size:=by let#[_,y,_]:=hit;exact Jl y
  exists .ref s.heap.objs.size,HI H s.heap.objs.size (.tup [.int i,x]),?_,Z,#[_,x,I.hok.fresh (Jf _),Z,λys hy=>by rw[I.tuple_inj hy Q];exact S,Z],#[#[_,by simpa using B],?_]
  .show L2.HL X tx σ _ {s with heap:=a0,toks:=tk+1}
   refine ja (s:=s) (its:=[.int i tk,v]) I (ch:=[e,it]) (λb o n q=>?_) N (λb n=>?_) (Jf _) (by show 2<=ζ;decide) (.cons #[0] (.cons ru .nil)) ?_
   .have M:b≠e:=λz=>n (by simp [z])
    have a1:b≠it:=λz=>n (by simp [z])
    exact(f.2 b M).trans (hk b o M a1 q)
   .rcases Jh.mp n with z|z
    .subst z;exact#[_,B]
    .rw[Jg.mp z]
     let#[o,y,_]:=t
     exact#[o,(f.2 it (Ne.symm r)).trans y]
   .exact#[_,(f.2 _ (J2 C)).trans ht,7]
  .exact t.extBut f.extBut (Ne.symm r)
  .intro b n
   rw[qk]
   .exact(N b n).1
   .rcases Jh.mp n with z|z
    .subst z;exact Jx C
    .rw[Jg.mp z];exact Jx L
 done:=by
  intro X U R hK O i tx s σ H E I N st Y;subst U R hK;let#[xs,Q,S]:=Y;let#[its,rv,p,hz]:=I.tuple Q;let#[#[c,j],hit]:=st;let#[f0,f1,f2,f3,f4,f5]:=N it (by simp)
  have hl:=rv.length;have J:a≠it:=λz=>by
   subst z;let#[o,g,d,_]:=p;let#[o',m,l,_]:=hit;rw[g]at m;cases m;rw[d]at l;exact absurd l ⋯
  unfold pyNext;have hT:s.TypeIs (-e) "enumerate":=#[_,j,Z]
  refine Ja (Gu (wpAny_callSpecial?_slot (name:=Str.ofString "__next__") hT F.slot_enumerate_next
   (J9 F.slot_enumerate_next hT F.entry_enumerate_next ?_ (F.args_enumerate_next_1 _))))
  show ε _ _ (field (-e) 2 >>= _) _ _ _
  refine Ja (JJ j Z (x:= .ref it) Z ?_)
  refine Ja (nS (I.ok.hd O) hit p (by simp;lia) λh' ex eb W=>?_)
  let#[o,g,d]:=W;refine Ja (wpAny_isInstance (T:="StopIteration") (b:=true) #[o,g,d] isSubtype_stop ?_)
  exact Ji #[Z,I.turned (t':=s.toks) (λb o n e=>eb b o n e) f0 f1 f3 f4 f5]
 self:=λ_ _ _ _ _ st h=>by
  let#[#[c,j],_]:=st;exact GJ j h
section
noncomputable def Cn(K:ι)(ta:TA):TI:=λσ H R=>ta σ H λc H1=>∃a,c=[-a]/\((∃xs,HP K H1 a xs)/\R (tj K a) H1\/(∃xs,HQ K H1 a xs)/\R (oF K a) H1)
theorem wE{x1}(hg:Gl X "enumerate")(hm:X.mg "enumerate"=none)(ha:QA X [a] ta)(hs:θ [a] X.env=[(false,eval a X.env)]:=by rfl):QI X (.Tuple g x1 tpos) (.Call (.Name "enumerate" p) [a] [] pos) (Cn X.K ta):=#[by
 intro tx s σ H R I h;refine Call_ (bJ I hg hm boot_enumerate (Ge (qK (ha.h pos tx s σ H _ I h) λD c v=>?_) hs Z))
 let#[C,H1,d,A,n]:=v;let#[l,e,n]:=n;subst e;let#[u,rfl,y]:=A.one;cases y;have f:∀b∈[c.heap.objs.size+1,c.heap.objs.size],am X tx H1 b:=λb B=>by
  have j:c.heap.objs.size<=b:=by
   rcases Jh.mp B with z|z
   .rw[z];exact J1 _
   .rw[Jg.mp z];exact Jf _
  exact d.fpOk j (d.hok.fresh j)
 rcases n with⟨⟨xs,o⟩,q⟩|⟨⟨xs,o⟩,q⟩
 .let#[i,x,r,t]:=d.list o
  refine call_enumerate_list r.isList λh' m hit w hk=>GJ m ?_
  exact#[c.heap.objs.size+1,[c.heap.objs.size+1,c.heap.objs.size],8,H1,Z,d.kept (t':=c.toks) hk,mX l _ _ (J2 (FP _)),#[#[_,m],hit],f,q]
 .let#[i,x,r,t]:=d.tuple o
  refine tZ (show c.heap.IsTuple l i.toArray from r) λh' m hit hk=>GJ m ?_
  exact#[c.heap.objs.size+1,[c.heap.objs.size+1,c.heap.objs.size],8,H1,Z,d.kept (t':=c.toks) hk,tO l _ _ (J2 (FP _)),#[#[_,m],hit],f,q]]
theorem wa{K:ι}{g:TG}{tb:TS}{D:Lr}(Pv:Nat->L2.St->Hp->Prop)(s:Pv 0 σ H)(t:∀i σ H,i<=xs.length->Pv i σ H->HQ K H a xs)(hs:∀i x σ H p,xs[i]? =↑x->Pv i σ H->H p=none->g (-p) σ (HI H p (.tup [.int i,x])) λc h=>tb {D with nx:=Pv (i+1),ct:=Pv (i+1),bk:=D.nx} c h)(j:∀σ H,Pv xs.length σ H->D.nx σ H):
  ∃W:Nat->Nat->L2.St->Hp->Prop,(∃m,W 0 m σ H)/\∀i m σ H,W i m σ H->
   ((oF K a).stop i H/\D.nx σ H)\/((oF K a).go i H/\∃N:L2.St->Hp->Prop,(∀d H',N d H'->∃m',m'<m/\W (i+1) m' d H')/\∀x H',(oF K a).yld i H x H'->g x σ H' λc h=>tb {D with nx:=N,ct:=N,bk:=D.nx} c h):=by
 exists λi m σ H=>m=xs.length-i/\i<=xs.length/\Pv i σ H,#[xs.length,by simp,JL _,s]
 rintro i m σ H ⟨rfl,hi,p⟩
 have q:=t i σ H hi p
 by_cases f:i<xs.length
 .refine .inr #[#[xs,xs[i],q,by simp [f]],Pv (i+1),λd H' l=>#[xs.length-(i+1),by lia,Z,f,l],λx H' y=>?_]
  let#[n,v,r,rfl,o,rfl]:=y;exact hs i v σ H n (o xs q) p r
 .have e:i=xs.length:=by lia
  subst e;exact .inl #[#[xs,q,Jf _],j σ H p]
end
structure NM(z TI TO i1 i2:Δ)(f1 f2:Η):Prop where
 TIz:TI≠z
 TOz:TO≠z
 i1z:i1≠z
 i2z:i2≠z
 TITO:TI≠TO
 TIi1:TI≠i1
 TIi2:TI≠i2
 TOi1:TO≠i1
 TOi2:TO≠i2
 i12:i1≠i2
 z1:z∉f1
 z2:z∉f2
 t1:TO∉f1
 t2:TO∉f2
 x1:i2∉f1
 x2:i1∉f2
section
variable{TI TO:Δ}{n1 n2 k:Nat}{P1 P2:Nat->Γ->Prop}{S1 S2:Nat->Ψ->Prop}{b:Γ}
theorem vn{Q:HD}(D1:Draws prog w A i1 f1 n1 P1 S1)(D2:Draws prog w A i2 f2 n2 P2 S2)(Z:NM z TI TO i1 i2 f1 f2)
  (U:IsZip s.heap z TI TO .none)(a0:IsPair s.heap TI (-i1) (-i2))(a3:IsPair s.heap TO a b)(q1:S1 k s.heap)(q2:S2 k s.heap)(k1:k<n1)(k2:k<n2)
  (hQ:∀x y h' tk,P1 k x->P2 k y->IsZip h' z TI TO (rawInt s.heap.objs.size)->IsPair h' TO x y->S1 (k+1) h'->S2 (k+1) h'->IsPair h' s.heap.objs.size x y->
   (∀c o,c≠z->c≠TO->c≠i1->c≠i2->s.heap.get? c=↑o->h'.get? c=↑o)->Q (-s.heap.objs.size) {s with heap:=h',toks:=tk}):
  ε (model prog w) A (γ.«zip.__next__» #[[-z],[]]) (λa2 s'=>∃v,a2= .done (.ret v)/\Q v s') E s:=by
 let#[hp,g,d,t0,os]:=s
 show ε _ _ (field (-z) 2 >>= _) _ _ _
 refine Ja (JJ U rfl (x:= .bool false) rfl ?_)
 show ε _ _ (field (-z) 3 >>= _) _ _ _
 refine Ja (JJ U rfl (x:= .ref TI) rfl ?_)
 refine Ja (F3 a0 rfl ?_)
 show ε _ _ (γ.SmallTypes.ownedTupleIsFree (-z) >>= _) _ _ _
 refine Ja ?_
 unfold γ.SmallTypes.ownedTupleIsFree;refine Ja (JJ U rfl (x:= .none) rfl (Ji ?_))
 simp only[FA];refine Ja (FY ?_)
 refine Ja (JJ U rfl (x:= .ref TO) rfl ?_)
 refine Ja (GM U (by simp) λr u h=>?_)
 replace u:IsZip r z TI TO .ellipsis:=u
 replace h:Ψ.SameBut z hp r:=h
 refine Ja ?_
 simp only[List.zipIdx_cons,List.zipIdx_nil,List.forIn_cons,List.forIn_nil];refine Ja (Ja (wpAny_onRaise ?_))
 show ε _ _ (γ.SmallTypes.nextOf (-i1) >>= _) _ _ _
 have b0:S1 k r:=D1.frame _ _ _ q1 λc C o e=>h.extBut c o (λy=>Z.z1 (y▸C)) e
 refine Ja (D1.item k #[r,g,d,t0,os] _ _ k1 b0 λx J T p1 a4 i=>Ji ?_)
 replace i:Ψ.SameBut i1 r J:=i
 have D:IsPair J TO a b:=i.extBut _ _ Z.TOi1 (h.extBut _ _ Z.TOz a3)
 refine Ja (F3 D rfl ?_)
 refine Ja (wpAny_updateSeq_pair D λt p j=>?_)
 replace p:IsPair t TO x b:=p
 replace j:Ψ.SameBut TO J t:=j
 refine Ja (wpAny_letGo (Ji ?_))
 refine Ja (Ja (wpAny_onRaise ?_))
 show ε _ _ (γ.SmallTypes.nextOf (-i2) >>= _) _ _ _
 have b2:S2 k t:=D2.frame _ _ _ q2 λc C o e=>j.extBut c o (λy=>Z.t2 (y▸C)) (i.extBut c o (λy=>Z.x2 (y▸C)) (h.extBut c o (λy=>Z.z2 (y▸C)) e))
 refine Ja (D2.item k #[t,g,d,T,os] _ _ k2 b2 λy I O p2 a5 m=>Ji ?_)
 replace m:Ψ.SameBut i2 t I:=m
 have F:IsPair I TO x b:=m.extBut _ _ Z.TOi2 p
 refine Ja (F3 F rfl ?_)
 refine Ja (wpAny_updateSeq_pair F λf n l=>?_)
 replace n:IsPair f TO x y:=n
 replace l:Ψ.SameBut TO I f:=l
 refine Ja (wpAny_letGo (Ji (Ji ?_)))
 refine Ja (F3 n rfl ?_)
 refine Ja (wpAny_newTuple ?_)
 have X:f.objs.size=hp.objs.size:=by rw[l.1,m.1,j.1,i.1,h.1]
 have H:IsZip f z TI TO .ellipsis:=l.extBut _ _ Z.TOz.symm (m.extBut _ _ Z.i2z.symm (j.extBut _ _ Z.TOz.symm (i.extBut _ _ Z.i1z.symm u)))
 have R:∀c o,c≠z->c≠TO->c≠i1->c≠i2->hp.get? c=↑o->f.get? c=↑o:=λc o S Y c3 c4 e=>
  l.extBut _ _ Y (m.extBut _ _ c4 (j.extBut _ _ Y (i.extBut _ _ c3 (h.extBut _ _ S e))))
 have a1:S1 (k+1) f:=D1.frame _ _ _ a4 λc C o e=>l.extBut c o (λy=>Z.t1 (y▸C)) (m.extBut c o (λy=>Z.x1 (y▸C)) (j.extBut c o (λy=>Z.t1 (y▸C)) e))
 have b1:S2 (k+1) f:=D2.frame _ _ _ a5 λc C o e=>l.extBut c o (λy=>Z.t2 (y▸C)) e
 have N:z<f.objs.size:=Jl H
 show ε _ _ (γ.SmallTypes.ownedTupleHandOut (-z) (-f.objs.size) >>= _) _ _ _
 refine Ja ?_
 unfold γ.SmallTypes.ownedTupleHandOut;have P:IsZip (f.push {cls:= .type "tuple",data:= .seq (List.toArray [x,y])}) z TI TO .ellipsis:=Jj _ H
 refine Ja (GM P (by simp) λW B K=>?_)
 replace B:IsZip W z TI TO (rawInt f.objs.size):=B
 refine GM B (by simp) λG q L=>?_
 replace q:IsZip G z TI TO (rawInt f.objs.size):=q
 have up:∀c o,c≠z->f.get? c=↑o->G.get? c=↑o:=λc o S e=>L.extBut _ _ S (K.extBut _ _ S (Jj _ e))
 have M:IsPair G f.objs.size x y:=L.extBut _ _ (J2 N) (K.extBut _ _ (J2 N) (Ju _ rfl))
 rw[X]at q M;refine Ji #[_,rfl,?_]
 show Q (-f.objs.size) _
 rw[X];exact hQ x y G O p1 p2 q (up _ _ Z.TOz n) (D1.frame _ _ _ a1 λc C o e=>up c o (λy=>Z.z1 (y▸C)) e) (D2.frame _ _ _ b1 λc C o e=>up c o (λy=>Z.z2 (y▸C)) e) M λc o S Y c3 c4 e=>up c o S (R c o S Y c3 c4 e)
theorem yu{Q:Fin->Θ->Prop}(B:Draws prog w A i1 f1 n1 P1 S1)(Z:NM z TI TO i1 i2 f1 f2)
  (p:IsZip s.heap z TI TO .none)(u:IsPair s.heap TI (-i1) (-i2))(I:S1 n1 s.heap)
  (H:∀h' e,(∀c o,c≠z->c≠i1->s.heap.get? c=↑o->h'.get? c=↑o)->(∃o,h'.get? e=↑o/\o.cls= .type "StopIteration")->E (-e) {s with heap:=h'}):
  ε (model prog w) A (γ.«zip.__next__» #[[-z],[]]) Q E s:=by
 let#[K,g,d,G,os]:=s
 show ε _ _ (field (-z) 2 >>= _) _ _ _
 refine Ja (JJ p rfl (x:= .bool false) rfl ?_)
 show ε _ _ (field (-z) 3 >>= _) _ _ _
 refine Ja (JJ p rfl (x:= .ref TI) rfl ?_)
 refine Ja (F3 u rfl ?_)
 show ε _ _ (γ.SmallTypes.ownedTupleIsFree (-z) >>= _) _ _ _
 refine Ja ?_
 unfold γ.SmallTypes.ownedTupleIsFree;refine Ja (JJ p rfl (x:= .none) rfl (Ji ?_))
 simp only[FA];refine Ja (FY ?_)
 refine Ja (JJ p rfl (x:= .ref TO) rfl ?_)
 refine Ja (GM p (by simp) λh i a=>?_)
 replace i:IsZip h z TI TO .ellipsis:=i
 replace a:Ψ.SameBut z K h:=a
 refine Ja ?_
 simp only[List.zipIdx_cons,List.zipIdx_nil,List.forIn_cons,List.forIn_nil];refine Ja (Ja (wpAny_onRaise ?_))
 show ε _ _ (γ.SmallTypes.nextOf (-i1) >>= _) _ _ _
 have v:S1 n1 h:=B.frame _ _ _ I λc L o e=>a.extBut c o (λy=>Z.z1 (y▸L)) e
 refine Ja (B.done #[h,g,d,G,os] _ _ v λm e f J=>?_)
 let#[F,n,q]:=J
 replace f:Ψ.ExtBut i1 h m:=f
 have j:IsZip m z TI TO .ellipsis:=f _ _ Z.i1z.symm i
 have t:e≠z:=λx=>by subst x;rw[j]at n;cases n;simp at q
 refine GM j (by simp) λr _ l=>H r e (λc o C D x=>l.extBut _ _ C (f _ _ D (a.extBut _ _ C x))) #[F,l.extBut _ _ t n,q]
end
noncomputable abbrev AH(h:Ψ)(l1:Δ):Ψ:=h.push {cls:= .type "tuple_iterator",data:= .fields (List.toArray [-l1,.int 0 0])}
noncomputable abbrev AB(h:Ψ)(l1 l2:Δ):Ψ:=(AH h l1).push {cls:= .type "tuple_iterator",data:= .fields (List.toArray [-l2,.int 0 0])}
noncomputable abbrev AX(h:Ψ)(l1 l2:Δ):Ψ:=(AB h l1 l2).push {cls:= .type "tuple",data:= .seq (List.toArray [-h.objs.size,.ref (AH h l1).objs.size])}
noncomputable abbrev Be(h:Ψ)(l1 l2:Δ):Ψ:=(AX h l1 l2).push {cls:= .type "tuple",data:= .seq (List.toArray [.none,.none])}
noncomputable abbrev sW(h:Ψ)(l1 l2:Δ):Ψ:=(Be h l1 l2).push {cls:= .type "zip",data:= .fields (List.toArray [.none,.bool false,.bool false,.ref (AB h l1 l2).objs.size,.ref (AX h l1 l2).objs.size])}
theorem uk(a c:Δ)(xs ys:Array Γ):
  Meets (γ.«zip.__new__» #[[.type "zip",-a,-c],[]]) (λ_ R s=>s.heap.IsTuple a xs/\s.heap.IsTuple c ys/\
   R (.ok (.ret (.ref (Be s.heap a c).objs.size))) {s with heap:=sW s.heap a c}):=
 .of_wp λprog w A R s h=>by
  let#[n,g,d,tk,os]:=s;let#[f,i,h]:=h
  have m:=sub_zip;have l:Ψ.IsTuple (Θ.heap #[n,g,d,tk,os]) a xs:=f
  have j:Ψ.IsTuple (Θ.heap #[n.push {cls:= .type "tuple_iterator",data:= .fields (List.toArray [-a,.int 0 0])},g,d,tk,os]) c ys:=let⟨o,e,r⟩:=i;#[o,Jj _ e,r]
  wp_walk using FO l,FO j
  exact#[0,h]
section
theorem wv{a d:Δ}{xs ys:Array Γ}{Q:HD}(e:s.heap.IsTuple a xs)(f:s.heap.IsTuple d ys)
  (h:∀h',IsZip h' (s.heap.objs.size+4) (s.heap.objs.size+2) (s.heap.objs.size+3) .none->IsPair h' (s.heap.objs.size+2) (-s.heap.objs.size) (.ref (s.heap.objs.size+1))->
   IsPair h' (s.heap.objs.size+3) .none .none->h'.IsTupleIter s.heap.objs.size a 0->h'.IsTupleIter (s.heap.objs.size+1) d 0->
   (∀c o,s.heap.get? c=↑o->h'.get? c=↑o)->Q (.ref (s.heap.objs.size+4)) {s with heap:=h'}):
  ε (model prog w) A (call (.type "zip") [-a,-d]) Q E s:=by
 refine callType_new F.called_zip ⋯ (F.typeCall_zip_2 _ _) (F.newCall_zip_2 _ _) (λi=>F.args_object_init_3 i _ _) F.entry_zip_new
  (uk a d xs ys) #[e,f,?_]
 have g:(AH s.heap a).objs.size=s.heap.objs.size+1:=J8 ..
 have j:(AB s.heap a d).objs.size=s.heap.objs.size+2:=by rw[J8,g]
 have l:(AX s.heap a d).objs.size=s.heap.objs.size+3:=by rw[J8,j]
 have n:(Be s.heap a d).objs.size=s.heap.objs.size+4:=by rw[J8,l]
 have m:(sW s.heap a d).get? (Be s.heap a d).objs.size=↑_:=Ju _ Z
 have q:(sW s.heap a d).get? (AX s.heap a d).objs.size=↑_:=Jj _ (Ju _ Z)
 have p:(sW s.heap a d).get? (AB s.heap a d).objs.size=↑_:=Jj _ (Jj _ (Ju _ Z))
 have r:(sW s.heap a d).get? (AH s.heap a).objs.size=↑_:=Jj _ (Jj _ (Jj _ (Ju _ Z)))
 have t:(sW s.heap a d).get? s.heap.objs.size=↑_:=Jj _ (Jj _ (Jj _ (Jj _ (Ju _ Z))))
 show _/\_
 rw[j,l,n]at m;rw[g,j]at p;rw[l]at q;rw[g]at r;rw[n]
 exact#[#[_,m,Z],h _ m p q #[_,t,12] #[_,r,12] λc o x=>
  Jj _ (Jj _ (Jj _ (Jj _ (Jj _ x))))]
end
section
theorem Bp{ch:Η}(I:L2.HL X tx σ H s)(k:∀b o,b∉ch->s.heap.get? b=↑o->h'.get? b=↑o)(a:∀b∈ch,am X tx H b):L2.HL X tx σ H {s with heap:=h',toks:=t'}:=by
 have f:∀b u,H b=↑u->b∉ch:=λb u e z=>by rw[(a b z).1]at e;cases e
 refine I.step (g':=s.gens) (d':=s.drawn) (ch:=ch) (λb g=>#[(a b g).2.2.2.1,(a b g).2.1,(a b g).2.2.2.2.1,(a b g).2.2.2.2.2]) (λb o _ _ d e _=>k b o d e) (λb o _ _ d e _=>#[o.slots,k b o d e])
  (λ_ _ _ _ n=>n) (λb o d e=>#[o,k b o d e]) (λ_ _ e=>e) (λ_ _ _ e=>e) (λb ps e=>#[(List.toArray []),by rw[e];simp]) (λm h=>?_) (λb u e=>?_) I.bare
 .let#[o,es,j,i,r]:=h
  exact#[o,es,j,k _ o (λz=>(a _ z).2.1 Z) i,r]
 .refine(I.hok b u e).stay (λc v d q=>k c v ?_ q) (λ_ q=>q) λ_ _ q=>q
  rcases d with z|z
  .rw[z];exact f b u e
  .exact f c _ z
theorem uD{H:Hp}{a b:Δ}{u:HO}(h:Rd H a u)(h':H b=none):a≠b:=by
 rcases h with h|⟨o,h⟩
 .exact qu h h'
 .exact qu h h'
end
end L3
namespace L3
open PySem PySem.Spec PyProof.Rows L2 PySem.SeqAt
open Sem (wp)
open AutoSeq1 (wpAny_loadPart')
section
theorem Rd.same(s:HG H H')(h:Rd H a u):Rd H' a u:=by
 rcases h with h|⟨o,h⟩
 .exact .inl (s _ _ h)
 .exact .inr #[o,s _ _ h]
inductive O5 (H:Hp):V->String->Prop where
 |int (i:Int):O5 H (.int i) "int"
 |bl (b:Bool):O5 H (.bl b) "bool"
 |tup {a:Δ} {xs:Β} (h:Rd H a (.tup xs)):O5 H (-a) "tuple"
 |str (x:Str):O5 H (.str x) "str"
 |non:O5 H .non "NoneType"
 |lst {a:Δ} {xs:Β} (h:H a=↑(.lst xs)):O5 H (-a) "list"
theorem sX(h:O5 H x t):t∈mJ:=by cases h<;>simp
theorem tE(K:ι){t:String}(f:t∈mJ):∀a:List String,(∀c∈a,c∈lR)->W.kitAny K (.type t) (a.map Γ.type)=↑(a.any (Qo t))
 | [],_=>rfl
 |c::r,h=>by
  have e:=lX K t f c (h c Jy);have g:=tE K f r λd i=>h d (JD _ i)
  simp only[JW,W.kitAny,e,Gj];cases Qo t c with
  |true=>rfl
  |false=>simpa using g
theorem zh:Qh X (.builtin "isinstance") (λxs H Q=>∃x c t,xs=[x,.ty c]/\O5 H x t/\c∈lR/\Q (.bl (Qo t c)) H):=by
 intro tx s σ H xs p Q I r h;let#[x,c,t,rfl,ty,m,q]:=h;let#[u,v,rfl,f,l]:=db r
 cases(show v=Γ.type c from l)
 have e:=lX X.K t (sX ty) c m;have d:∀tk,EP X tx σ Q (.bool (Qo t c)) {s with toks:=tk}:=λtk=>#[.bl _,H,I.tok tk,Z,q]
 cases ty with
 |int i=>let#[t,q]:=(show∃t,u=Γ.int i t from f);cases q;exact JS W.kitx_int I.kIn True.intro e (λz=>nomatch z) d
 |bl b=>cases(show u=Γ.bool b from f);exact JS W.kitx_bool I.kIn True.intro e (λz=>nomatch z) d
 | @tup a ys hr=>
  cases(show u=Γ.ref a from f)
  let#[j,_,#[o,h1,g,_],_]:=I.tuple (.inl hr)
  exact JS W.kitx_tuple I.kIn #[o,h1,g] e (λz=>nomatch z) d
 |str x=>let#[t,q]:=(show∃t,u=Γ.str x t from f);cases q;exact JS W.kitx_str I.kIn True.intro e (λz=>nomatch z) d
 |non=>cases(show u=Γ.none from f);exact JS W.kitx_none I.kIn True.intro e (λz=>nomatch z) d
 | @lst a ys ea=>
  cases(show u=Γ.ref a from f)
  let#[_,_,n,_,h1]:=(show HY X.prog X.w H s.heap a (.lst ys)from I.hok a _ ea)
  exact JS W.kitx_list I.kIn #[_,h1,Z] e (λz=>nomatch z) d
theorem pN:∀{a:List String} {us:Ζ},HR (a.map V.ty) us->us=a.map Γ.type
 | [],_,.nil=>rfl
 |c::a,_,.cons r t=>by
  cases(show _=Γ.type c from r)
  rw[pN t];rfl
theorem ig:Qh X (.builtin "isinstance") (λxs H Q=>∃(x:V) (p:Δ) (j:List String) (t:String),xs=[x,-p]/\H p=↑(.tup (j.map V.ty))/\O5 H x t/\(∀c∈j,c∈lR)/\Q (.bl (j.any (Qo t))) H):=by
 intro tx s σ H xs G Q I r h;let#[x,p,j,t,rfl,E,ty,F,q]:=h;let#[u,v,rfl,l,C]:=db r
 cases(show v=Γ.ref p from C)
 let#[y,w,#[#[cl,dd,D,J],m,f,n,g],_]:=I.tuple (HQ.of E)
 replace f:cl= .type "tuple":=f
 replace g:D= .seq y.toArray n:=g
 subst f g;have e:=tE X.K (sX ty) j F;rw[<- pN w]at e;have d:∀tk,EP X tx σ Q (.bool (j.any (Qo t))) {s with toks:=tk}:=λtk=>#[.bl _,H,I.tok tk,Z,q]
 cases ty with
 |int i=>let#[t,q]:=(show∃t,u=Γ.int i t from l);cases q;exact F4 W.kitx_int I.kIn True.intro m e (λz=>nomatch z) d
 |bl b=>cases(show u=Γ.bool b from l);exact F4 W.kitx_bool I.kIn True.intro m e (λz=>nomatch z) d
 | @tup a ys hr=>
  cases(show u=Γ.ref a from l)
  let#[A,_,#[o,h1,B,_],_]:=I.tuple (.inl hr)
  exact F4 W.kitx_tuple I.kIn #[o,h1,B] m e (λz=>nomatch z) d
 |str x=>let#[t,q]:=(show∃t,u=Γ.str x t from l);cases q;exact F4 W.kitx_str I.kIn True.intro m e (λz=>nomatch z) d
 |non=>cases(show u=Γ.none from l);exact F4 W.kitx_none I.kIn True.intro m e (λz=>nomatch z) d
 | @lst a ys ea=>
  cases(show u=Γ.ref a from l)
  let#[_,_,n,_,h1]:=(show HY X.prog X.w H s.heap a (.lst ys)from I.hok a _ ea)
  exact F4 W.kitx_list I.kIn #[_,h1,Z] m e (λz=>nomatch z) d
end
noncomputable def Qr(t:Ε):Ε:=(List.range 16).map λd=>((t.idxOf ((d:Nat):Int):Nat):Int)
theorem du(t:Ε):(Qr t).length=16:=by simp [Qr]
section
variable{t:Ε}(p:t.Perm Lv)
include p
theorem vC:t.Nodup:=p.nodup_iff.mpr ⋯
theorem sV:t.length=16:=by rw[p.length_eq,wT]
theorem Bo{d:Nat}(h:d<16):((d:Nat):Int)∈t:=p.mem_iff.mpr (JA.mpr #[d,FX.mpr h,Z])
theorem rp{i:Nat}(h:i<t.length):0<=t[i]/\t[i]<16:=rh (p.mem_iff.mp (FL h))
theorem vK{i:Nat}(h:i<t.length):t.idxOf t[i]=i:=(vC p).idxOf_getElem i h
theorem Bu{d:Nat}(h:d<16):(Qr t)[d]'(by rw[du];exact h)=((t.idxOf ((d:Nat):Int):Nat):Int):=by simp [Qr]
end
end L3
namespace L3
open PySem PySem.Spec L2
def LY(H:Hp)(b:Δ)(c:Nat):Prop:=∃n m k:Int,H b=↑(wD n m k)/\0<=m/\m<4611686018427387904/\0<=k/\k<=c
structure MB(b:Δ)(c:Nat)(H H':Hp):Prop where
 kp:∀a o,a≠b->H a=↑o->H' a=↑o
 bx:LY H' b c
theorem LY.mono{b:Δ}(h:LY H b c)(l:c<=d):LY H b d:=by
 let#[n,m,k,e,a,g,f,i]:=h
 exact#[n,m,k,e,a,g,f,by lia]
theorem MB.mono{b:Δ}(h:MB b c H H')(l:c<=d):MB b d H H':=#[h.kp,h.bx.mono l]
theorem MB.trans{b:Δ}(x:MB b c H H1)(y:MB b d H1 a):MB b d H a:=#[λc o n e=>y.kp c o n (x.kp c o n e),y.bx]
theorem _root_.L2.HG.grc{b:Δ}(x:HG H H')(h:LY H b c):MB b c H H':=#[λc o _ e=>x c o e,let⟨n,m,k,e,r⟩:=h;#[n,m,k,x _ _ e,r]]
theorem MB.same{b:Δ}(x:MB b c H H1)(y:HG H1 a):MB b c H a:=x.trans (y.grc x.bx)
theorem zn{H:Hp}{b l:Δ}{c:Nat}(hb:LY H b c)(h:H l=none):l≠b:=λz=>by
 let#[_,_,_,e,_]:=hb;subst z;rw[e]at h;cases h
inductive Mb (vs:Β) (H:Hp) (Q:VK) (_3:XK):Prop
 |mk (b:Δ) (many:Int) (c:Nat) (h1:vs=[-b,.int many]) (h2:LY H b c) (h3:c<1000000000) (h4:0<many) (h5:many<1073741824) (h6:∀r H',0<=r->r<many->MB b (c+1) H H'->Q (.int r) H')
theorem QZ(h:H' p=none)(s:HG H H'):H p=none:=by
 cases e:H p with
 |none=>rfl
 |some o=>rw[s _ _ e]at h;cases h
def kf:V->Bool
 | .int _=>true
 |_=>false
theorem BN(h:kd H x=↑t):kf x=(Qo t "int"&& ! Qo t "bool"):=by
 cases x with
 |non=>cases h;decide
 |bl b=>cases h;show false=_;decide
 |int i=>cases h;show true=_;decide
 |str x=>cases h;show false=_;decide
 |byt b=>cases h
 |flt b=>cases h
 |ty b=>cases h
 |ref a=>
  rcases kO h with⟨xs,e,rfl⟩|⟨xs,e,rfl⟩
  .show false=_;decide
  .show false=_;decide
theorem yp(h:kf x=true):∃i,x= .int i:=by
 cases x<;>first|exact#[0]|cases h
theorem vt(h:kf x=false):gl x=false:=by
 cases x<;>first|rfl|cases h
inductive M8 (vs:Β) (H:Hp) (Q:VK) (_3:XK):Prop
 |mk (x:_) (t:_) (h1:vs=[x]) (h2:kd H x=↑t) (h3:Q (.bl (kf x)) H)
inductive MX (H:Hp):Nat->V->V->Prop where
 |int (n:Nat) (i:Int):MX H n (.int i) (.int i)
 |str (n:Nat) (x:Str):MX H n (.str x) (.str x)
 |non (n:Nat):MX H n .non .non
 | tup {n:Nat} {a b:Δ} {xs ys:Β} (h1:Rd H a (.tup xs)) (h2:Rd H b (.tup ys)) (hl:xs.length=ys.length) (hz:xs.length<=ζ)
   (hi:∀(i:Nat) (x y:V),xs[i]? =↑x->ys[i]? =↑y->MX H n x y):MX H (n+1) (-a) (-b)
theorem MX.same{H H':Hp}(s:HG H H'):∀{n:Nat} {x y:V},MX H n x y->MX H' n x y:=λh=>by
 induction h with
 |int n i=>exact .int n i
 |str n x=>exact .str n x
 |non n=>exact .non n
 |tup h1 h2 hl hz _ ih=>exact .tup (Rd.same s h1) (Rd.same s h2) hl hz ih
theorem MX.ints{b:Δ}{ns:Ε}(h1:Rd H a (.tup (ns.map V.int)))(e:Rd H b (.tup (ns.map V.int)))(f:ns.length<=ζ):MX H (n+1) (-a) (-b):=
 .tup h1 e Z (by rw[Jb];exact f) λi x y d c=>by
  rw[d]at c;cases c;let#[z,rfl,_]:=Zy d;exact .int _ _
inductive Pa (n:Nat) (vs:Β) (H:Hp) (Q:VK) (_3:XK):Prop
 |mk (x:_) (y:_) (h1:vs=[x,y]) (h2:MX H n x y) (h3:∀H',HG H H'->Q (.bl true) H')
theorem HG.sqt(e:HG H H')(h:HQ K H a xs):HQ K H' a xs:=by
 rcases h with h|h
 .exact .inl (Rd.same e h)
 .exact .inr h
noncomputable def ZK(t:Ε)(i:Nat):Ε:=(List.range 16).map λd=>if((d:Nat):Int)∈t.take i then((t.idxOf ((d:Nat):Int):Nat):Int)else 0
theorem fD(t:Ε)(i:Nat):(ZK t i).length=16:=by simp [ZK]
theorem yy(t:Ε):ZK t 0=List.replicate 16 0:=by simp only[ZK,List.take_zero,Jr,Gi];rfl
theorem v6(h:d<16):(ZK t i)[d]'(by rw[fD];exact h)=if((d:Nat):Int)∈t.take i then((t.idxOf ((d:Nat):Int):Nat):Int)else 0:=by simp [ZK]
theorem B9(p:t.Perm Lv):ZK t t.length=Qr t:=by
 unfold ZK Qr;refine GN λd a=>?_
 rw[FU,Jd (Bo p (FX.mp a))]
theorem xy(p:t.Perm Lv)(hi:i<t.length):(ZK t i).set t[i].toNat (i:Int)=ZK t (i+1):=by
 have b:=rp p hi;refine List.ext_getElem (by rw[FR,fD,fD]) λd h1 c=>?_
 have f:d<16:=by rw[fD]at c;exact c
 rw[List.getElem_set,v6 f,v6 f,FC,Jk hi,Option.toList_some]
 by_cases e:t[i].toNat=d
 .have a:((d:Nat):Int)=t[i]:=by lia
  rw[Jd e,Jd (by rw[a];exact FG _ (Jg.mpr Z)),a,vK p hi]
 .have a:((d:Nat):Int)≠t[i]:=by lia
  rw[Jc e];simp only[Jw,Jg,a,Js]
inductive OY (K:ι) (vs:Β) (H:Hp) (Q:VK) (_3:XK):Prop
 |mk (a:Δ) (t:Ε) (h1:vs=[-a]) (h2:(HP K H a (t.map V.int)\/HQ K H a (t.map V.int))) (h3:t.Perm Lv) (h4:∀p H',HG H H'->H' p=↑(.tup ((Qr t).map V.int))->Q (-p) H')
theorem tm(a:X.K=K){k:Nat}(n:Nat)(hc:X.calm=true)(h:Pt X es t)(hn:(assignEach es X.env).length=n:=by rfl)(hst:(assignEach es X.env).findIdx? (·.1)=none:=by rfl):QG X (.Tuple es k pos) (uz K n t):=by
 subst a
 exact⟨pV (hc:=hc) (h:=h.h) (hn:=hn) (hst:=hst)⟩
end L3
namespace L3
open PySem PySem.Spec PyProof.Rows L2
open Sem (wp)
namespace RV
theorem v8:Slot "reversed" "__init__" "object.__init__":=
  .of (owner := "object") (n := "__init__") (by rw[Ip,Iq];kernel_rfl) nofun nofun nofun
    (by first | exact .inl nofun | exact .inr nofun) (by rw[GO];kernel_rfl)
theorem called:TypeCalled "reversed" "reversed.__new__" "object.__init__":=
 ⟨by decide +kernel,nofun,⟨_,_,F.mro_reversed⟩,F.made_reversed,nofun,F.sub_reversed_self,v8⟩
theorem slot_next:Slot "reversed" "__next__" "reversed.__next__":=
  .of (owner := "reversed") (n := "__next__") (by rw[Ip,Iq];kernel_rfl) nofun nofun nofun
    (by first | exact .inl nofun | exact .inr nofun) (by rw[GO];kernel_rfl)
theorem entry_next:entryFor table "reversed.__next__"=some γ.«reversed.__next__»:=entryFor_of_tree (by kernel_rfl)
theorem mS:Manifest.owners.lookup (String.ofList ['d', 'e', 's', 'r', 'e', 'v', 'e', 'r'].reverse)=↑Manifest.sig_reversed:=by kernel_rfl
theorem args_next(a:Γ):argsOk "reversed.__next__" ⟨[a],[]⟩:=by
 unfold argsOk;rw[signature?_of (id:="reversed.__next__") (n:=['_', '_', 't', 'x', 'e', 'n', '_', '_']) (o:=['d', 'e', 's', 'r', 'e', 'v', 'e', 'r']) (by kernel_rfl) mS]
 kernel_rfl
theorem slot_iter:Slot "reversed" "__iter__" "reversed.__iter__":=
  .of (owner := "reversed") (n := "__iter__") (by rw[Ip,Iq];kernel_rfl) nofun nofun nofun
    (by first | exact .inl nofun | exact .inr nofun) (by rw[GO];kernel_rfl)
theorem args_iter(a:Γ):argsOk "reversed.__iter__" ⟨[a],[]⟩:=by
 unfold argsOk;rw[signature?_of (id:="reversed.__iter__") (n:=['_', '_', 'r', 'e', 't', 'i', '_', '_']) (o:=['d', 'e', 's', 'r', 'e', 'v', 'e', 'r']) (by kernel_rfl) mS]
 kernel_rfl
theorem entry_iter:entryFor table "reversed.__iter__"=some γ.«dict_keyiterator.__iter__»:=
  entryFor_alias (id':="dict_keyiterator.__iter__") (by kernel_rfl)
    (by first | rfl | decide +kernel | (unfold String.splitOn
                                        simp +decide [String.splitOnAux])) nofun (by kernel_rfl)
theorem no_tuple:typeLookup (.type "tuple") "__reversed__"=pure none:=by
 rw[Ip,Iq]
 kernel_rfl
theorem tup_dict:isSubtype (.type "tuple") (.type "dict")=pure false:=by
 rw[GO]
 kernel_rfl
theorem ri_rev:isSubtype (.type "range_iterator") (.type "reversed")=pure false:=by
 rw[GO]
 kernel_rfl
theorem tc1(a:Γ):checkTypeCall "reversed" ⟨[a],[]⟩=pure ():=by kernel_rfl
end RV
def MC(h:Ψ)(it t:Δ)(i:Int):Prop:=∃o,h.get? it=↑o/\o.cls= .type "reversed"/\o.data= .fields (List.toArray [-t,rawInt i])
theorem uq(l:Δ)(items:Array Γ)(p:items.size<=ζ):
  Meets (γ.«reversed.__new__» ⟨[.type "reversed",-l],[]⟩) (λA R s=>s.heap.IsTuple l items/\
   R (.ok (.ret (-s.heap.objs.size))) {s with heap:=s.heap.push {cls:= .type "reversed",data:= .fields (List.toArray [-l,rawInt ((items.size:Int)-1)])},toks:=s.toks+2}):=
 .of_wp λprog w A R s h=>by
  let#[a,g,d,tk,os]:=s;let#[f,h]:=h
  have i:=F.sub_reversed_self;have j:Θ.TypeIs #[a,g,d,tk,os] (-l) "tuple":=let⟨o,e,c,_⟩:=f;#[o,e,c]
  have r:Ψ.IsTuple (Θ.heap #[a,g,d,tk,os]) l items:=f
  have m:=RV.tup_dict;have n:IsTup (Θ.heap #[a,g,d,tk,os]) l items:=f
  have q:=bP
  wp_walk using Gv j RV.no_tuple,FB m,Gv j F.slot_tuple_getitem.lookup,len_tuple n (by omega)
  exact#[0,h]
end L3
namespace L3
open PySem PySem.Spec PyProof.Rows L2
open Sem (wp)
noncomputable abbrev AY(a b c:Int):Bool:=γ.Range.rangeFitsLong a&&γ.Range.rangeFitsLong b&&γ.Range.rangeFitsLong c&&γ.Range.rangeFitsLong (Neg.neg c)&&γ.Range.rangeFitsLong (a-c)&&γ.Range.rangeFitsLong (γ.Range.rangeSize a b c)
theorem sF(r:Δ)(a b c:Int)(t u v:Tok)(e:¬(! AY a b c)=true):
  Meets (γ.«range.__reversed__» #[[-r],[]]) (λ_ R s=>s.heap.get? r=some {cls:= .type "range",dict:=none,data:= .fields (List.toArray [.int a t,.int b u,.int c v]),slots:= (List.toArray [])}/\
   R (.ok (.ret (-s.heap.objs.size))) {s with heap:=s.heap.push {cls:= .type (if AY a b c then "range_iterator" else "longrange_iterator"),data:= .fields (List.toArray [rawInt (a+(γ.Range.rangeSize a b c-1)*c),rawInt (γ.Range.rangeSize a b c),rawInt (Neg.neg c)])}}):=
 .of_wp λprog w A R s h=>by let#[f,g,d,tk,os]:=s;let#[i,h]:=h;wp_walk;exact#[0,h]
theorem wx(n:Nat):γ.Range.rangeSize 0 n 1=n:=by
 unfold γ.Range.rangeSize;rw[Jd ⋯]
 split<;>lia
theorem vB{n:Nat}(hn:(n:Int)<2 ^ 62):AY 0 n 1=true:=by
 unfold AY;rw[wx];simp only[γ.Range.rangeFitsLong,JX,decide_eq_true_eq];lia
theorem tN(r:Δ)(n:Nat)(t u v:Tok)(hn:(n:Int)<2 ^ 62):
  Meets (γ.«range.__reversed__» #[[-r],[]]) (λ_ R s=>s.heap.get? r=some {cls:= .type "range",data:= .fields (List.toArray [.int 0 t,.int n u,.int 1 v])}/\
   R (.ok (.ret (-s.heap.objs.size))) {s with heap:=s.heap.push {cls:= .type "range_iterator",data:= .fields (List.toArray [rawInt ((n:Int)-1),rawInt n,rawInt (-1)])}}):=by
 have g:=sF r 0 n 1 t u v (by rw[vB hn];decide)
 rw[vB hn,wx,Jd Z,Int.mul_one,Int.zero_add]at g;exact g
section
variable{s:Θ}
theorem MC.typeIs(x:MC s.heap it t i):s.TypeIs (-it) "reversed":=by
 let#[o,a,c,_]:=x
 exact#[o,a,c]
theorem sr{it t:Δ}{i:Nat}{items:Array Γ}{x:Γ}{Q:Ν->Θ->Prop}(hit:MC s.heap it t (i:Int))(j:IsTup s.heap t items)(h:items[i]? =↑x)(q:items.size<=ζ)
  (n:∀h' tk,MC h' it t ((i:Int)-1)->Ψ.SameBut it s.heap h'->Q ↑x {s with heap:=h',toks:=tk}):ε (model prog w) A (pyNext (-it)) Q E s:=by
 let#[o,f,m,d]:=id hit;have p:s.TypeIs (-t) "tuple":=let⟨o,e,c,_⟩:=j;#[o,e,c]
 have r:=bP;have g:i<items.size:=(GP.mp h).1
 unfold pyNext;refine Ja (Gu (wpAny_callSpecial?_slot (name:=Str.ofString "__next__") (MC.typeIs hit) RV.slot_next
  (J9 RV.slot_next (MC.typeIs hit) RV.entry_next ?_ (RV.args_next _))))
 unfold γ.«reversed.__next__»
 refine Ja (FB (a:=(Γ.ref it,[])) Z ?_)
 try dsimp only
 refine Ja (JJ f d (x:= .ref t) Z ?_)
 refine Ja (JJ f d (x:=rawInt (i:Int)) Z ?_)
 show ε _ _ (if(i:Int)<0 then _ else _) _ _ s
 rw[Jc (by lia)]
 try dsimp only
 refine Ja (Gv p F.slot_tuple_getitem.lookup ?_)
 rw[Jc (show¬((↑(Γ.builtin "tuple.__getitem__")).isNone=true)from JH)]
 refine Ja (wpAny_mkInt ?_)
 have l:IsTup (Θ.heap {s with toks:=s.toks+1}) t items:=j
 refine Ja (Gu (getItem_tuple l (by lia) (by lia) (by unfold seqIndex?;rw[Jc (show¬((i:Int)<0) by lia)];simp [g]) h ?_))
 try dsimp only
 refine Ja (JJ (s:={s with toks:=s.toks+1}) f d (x:=rawInt (i:Int)) Z ?_)
 show ε _ _ (setField (-it) 1 (rawInt ((i:Int)-1)) >>= _) _ _ _
 refine Ja (FT (s:={s with toks:=s.toks+1}) f d (by simp) ?_)
 refine Ji #[x,Z,Ji (n _ _ ?_ (GL ..))]
 exact#[_,FQ _ f (Gp (FM d _)),(Obj.cls_mapFields ..).trans m,by
  rw[FM d];simp]
theorem ud{it t:Δ}{Q:Ν->Θ->Prop}(f:A.handled=none)(hit:MC s.heap it t (-1))
  (g:∀h',Ψ.ExtBut it s.heap h'->Q none {s with heap:=h'}):ε (model prog w) A (pyNext (-it)) Q E s:=by
 let#[o,d,h,c]:=id hit;unfold pyNext;refine Ja (Gu (wpAny_callSpecial?_slot (name:=Str.ofString "__next__") (MC.typeIs hit) RV.slot_next
  (J9 RV.slot_next (MC.typeIs hit) RV.entry_next ?_ (RV.args_next _))))
 unfold γ.«reversed.__next__»
 refine Ja (FB (a:=(Γ.ref it,[])) Z ?_)
 try dsimp only
 refine Ja (JJ d c (x:= .ref t) Z ?_)
 refine Ja (JJ d c (x:=rawInt (-1)) Z ?_)
 show ε _ _ (if(-1:Int)<0 then _ else _) _ _ s
 rw[Jd ⋯]
 refine Ja (FY ?_)
 refine Ja ?_
 show ε _ _ (setField (-it) 1 (rawInt (-1)) >>= _) _ _ _
 refine Ja (FT d c (by simp) ?_)
 have e:=FQ (Obj.mapFields (·.setIfInBounds 1 (rawInt (-1)))) d (Gp (FM c _))
 refine FT e (FM c _) (by simp) ?_
 refine Ja ?_
 show ε _ _ (newExc (.type "StopIteration") [] >>= _) _ _ _
 refine Ja ?_
 simp only[newExc,newTuple];refine Ja (Ft ?_ (by size_fits))
 refine Ja (m:=firstArgMember _ _) (FB (a:=Γ.none) (by first|rfl|(simp only[firstArgMember];rfl)) ?_)
 refine Ft ?_ (by size_fits)
 simp only[raiseNew];refine Ja (wpAny_handled ?_)
 first|rw[show A.in1.handled=none from f]|rw[f]
 refine Ja (Ji (wpAny_throw ?_))
 refine Ja (wpAny_isInstance (T:="StopIteration") (b:=true) #[_,Ju _ Z,Z] isSubtype_stop ?_)
 exact Ji (g _ (((((GL ..).trans (GL ..)).extBut).push _).push _))
theorem vN{it t:Δ}{i:Int}{Q:HD}(hit:MC s.heap it t i)(h:Q (-it) s):ε (model prog w) A (pyIter (-it)) Q E s:=by
 refine wpAny_pyIter_slot (MC.typeIs hit) RV.slot_iter (J9 RV.slot_iter (MC.typeIs hit) RV.entry_iter ?_ (RV.args_iter _))
 show ε _ _ (ret (-it)) _ _ s
 exact Ji #[0,"reversed",_,MC.typeIs hit,RV.slot_next.lookup,h]
theorem Dp{l:Δ}{items:Array Γ}{Q:HD}(d:s.heap.IsTuple l items)(c:items.size<=ζ)
  (h:∀h' tk,MC h' s.heap.objs.size l ((items.size:Int)-1)->(∀b o,s.heap.get? b=↑o->h'.get? b=↑o)->Q (-s.heap.objs.size) {s with heap:=h',toks:=tk}):
  ε (model prog w) A (call (.type "reversed") [-l]) Q E s:=by
 refine callType_new RV.called ⋯ (RV.tc1 _) (F.newCall_reversed_1 _) (λa=>F.args_object_init_2 a _) F.entry_reversed_new (uq l items c) #[d,?_]
 exact#[#[_,Ju _ Z,Z],h _ _ #[_,Ju _ Z,12] λb o e=>Jj _ e]
theorem C7{r:Δ}{n:Nat}{t u v:Tok}{Q:HD}(g:s.heap.get? r=some {cls:= .type "range",data:= .fields (List.toArray [.int 0 t,.int n u,.int 1 v])})(hn:(n:Int)<2 ^ 62)
    (h:∀h',IsRangeIter h' s.heap.objs.size ((n:Int)-1) n (-1)->(∀b o,s.heap.get? b=↑o->h'.get? b=↑o)->Q (-s.heap.objs.size) {s with heap:=h'}):
    ε (model prog w) A (call (.type "reversed") [-r]) Q E s:=by
  have f:s.TypeIs (-r) "range":=#[_,g,Z]
  refine callType_other (U:="range_iterator") (Q₁:=λd c=>d= .ref s.heap.objs.size/\∃h',c={s with heap:=h'}/\IsRangeIter h' s.heap.objs.size ((n:Int)-1) n (-1)/\∀b o,s.heap.get? b=↑o->h'.get? b=↑o) nofun F.create_reversed #[8,F.mro_reversed] F.made_reversed RV.ri_rev (RV.tc1 _) ?_ ?_
  · refine codeAny_of_tree ?_
    show ε _ A.in1.in1 (do checkBuiltinCall "reversed.__new__" #[[.type "reversed",-r],[]];again (.builtin "reversed.__new__" #[[.type "reversed",-r],[]])) _ _ s
    refine Ja (FB (F.newCall_reversed_1 _) (Ji #[plainId_quiet F.plain_reversed_new _,Ir F.entry_reversed_new ?_]))
    rw[Around.under_plainId F.plain_reversed_new _];unfold γ.«reversed.__new__»
    refine Ja (FB (newClass_reversed _) ?_)
    try dsimp only
    refine Ja (FB (a:=()) (by first|rfl|kernel_rfl) ?_)
    refine Ja (FB (a:=()) (by first|rfl|kernel_rfl) ?_)
    try dsimp only
    refine Ja (Gv f F.slot_range_reversed.lookup ?_)
    try dsimp only
    refine Ja (FB (F.slot_range_reversed.bind _) ?_)
    try dsimp only
    first
    |rw[Jc (show¬((Γ.builtin "range.__reversed__"==Γ.none)=true)from JH)]
    | (show ε _ _ (if(Γ.builtin "range.__reversed__"==Γ.none)=true then _ else _) _ _ _
       rw[Jc (show¬((Γ.builtin "range.__reversed__"==Γ.none)=true)from JH)])
    refine Ja (FY ?_)
    refine Ja (m:=runValue (.call (.builtin "range.__reversed__") ⟨[-r],[]⟩)) (show ε _ _ (call (.builtin "range.__reversed__") [-r]) _ _ _ from
      FS F.slot_range_reversed f F.entry_range_reversed (F.args_range_reversed_1 _) (tN r n t u v hn) ⟨g,?_⟩)
    first
    |exact Ji ⟨rfl,_,rfl,Ju _ rfl,λb o e=>Jj _ e⟩
    |exact Ja (Ji (Ji ⟨rfl,_,rfl,Ju _ rfl,λb o e=>Jj _ e⟩))
  · rintro d c ⟨rfl,h',rfl,hi,hk⟩
    exact⟨⟨_,hi,rfl⟩,h h' hi hk⟩
end
noncomputable def tY(K:ι)(a:Δ)(n:Nat):It:=
 ⟨λi H=>i<n/\∃xs,HP K H a xs/\xs.length=n,λi H x H'=>H'=H/\∀xs,HP K H a xs->xs[n-1-i]? =↑x,λi _=>n<=i⟩
noncomputable def tM(K:ι)(a:Δ)(n:Nat):It:=
 ⟨λi H=>i<n/\∃xs,HQ K H a xs/\xs.length=n,λi H x H'=>H'=H/\∀xs,HQ K H a xs->xs[n-1-i]? =↑x,λi _=>n<=i⟩
noncomputable def uN(n:Nat):It:=⟨λi _=>i<n,λi H x H'=>H'=H/\x= .int ((n:Int)-1-i),λi _=>n<=i⟩
theorem uC{P:Ξ}{w:Ω}{K:ι}{tg:Φ}(a it:Δ)(n:Nat):MM P w K tg (tY K a n) [it] it (λi h=>i<=n/\h.IsRevIter it a ((n:Int)-1-i)) where
 mem:=by simp
 obj:=λi h st b g=>by
  have e:b=it:=by simpa using g
  subst e;let#[_,o,e,c,d]:=st
  exact#[o,e,λv z=>by rw[d]at z;cases z]
 keep:=λi h h' st k=>#[st.1,st.2.at λo e=>k it (by simp) o e]
 item:=by
  intro X r q A F i tx s σ H E I m st y;subst r q A;let#[hi,xs,G,Y]:=y;let#[L,M,p,W]:=I.list G;have l:n-1-i<xs.length:=by lia
  let#[u,S,R]:=M.get (Jk l)
  let#[t,f1,f2,D,B,C]:=m it (by simp)
  have N:(n:Int)-1-i=((n-1-i:Nat):Int):=by lia
  have f:=st.2;rw[N]at f;refine wpAny_pyNext_rev_item f p.isList (x:=u) (by simpa using S) λh' j J=>?_
  have T:L2.HL X tx σ H {s with heap:=h'}:=I.turned (t':=s.toks) (λb o g e=>(J.2 b g).trans e) t f1 D B C
  let#[o,e,c,d]:=id j;refine#[u,Z,gw (s:={s with heap:=h'}) e c d ⋯ #[_,H,T,R,#[Z,λys U=>by rw[I.list_inj U G];exact Jk l],#[by lia,?_],λb g=>(m b g).1]]
  have O:((n-1-i:Nat):Int)-1=(n:Int)-1-((i+1:Nat):Int):=by lia
  rw[<- O];exact j
 done:=by
  intro X r q A F i tx s σ H E I m st y;subst r q A;let#[t,f1,f2,D,B,C]:=m it (by simp)
  have hi:i=n:=Nat.le_antisymm st.1 y
  have f:=st.2;rw[show(n:Int)-1-i= -1 by lia]at f
  exact wpAny_pyNext_rev_end (I.ok.hd F) f λh' Q=>#[Z,I.turned (t':=s.toks) (λb o g e=>Q b o g e) t f1 D B C]
 self:=λ_ _ _ _ _ st h=>wpAny_pyIter_revIter st.2 h
theorem vc{P:Ξ}{w:Ω}{K:ι}{tg:Φ}(a it:Δ)(n:Nat):MM P w K tg (tM K a n) [it] it (λi h=>i<=n/\MC h it a ((n:Int)-1-i)) where
 mem:=by simp
 obj:=λi h st b g=>by
  have e:b=it:=by simpa using g
  subst e;let#[_,o,e,c,d]:=st
  exact#[o,e,λv z=>by rw[d]at z;cases z]
 keep:=λi h h' st k=>#[st.1,let⟨o,e,r⟩:=st.2;#[o,k it (by simp) o e,r]]
 item:=by
  intro X t q B L i tx s σ H E I m st A;subst t q B;let#[hi,xs,M,hn]:=A;let#[O,G,p,hz]:=I.tuple M;have J:=G.length;have l:n-1-i<xs.length:=by lia
  let#[u,U,T]:=G.get (Jk l)
  let#[y,f1,f2,F,C,D]:=m it (by simp)
  have Q:(n:Int)-1-i=((n-1-i:Nat):Int):=by lia
  have f:=st.2;rw[Q]at f;refine sr f p (x:=u) (by simpa using U) (by simp;lia) λh' tk j N=>?_
  have W:L2.HL X tx σ H {s with heap:=h',toks:=tk}:=I.turned (t':=tk) (λb o g e=>(N.2 b g).trans e) y f1 F C D
  let#[o,e,c,d]:=id j;refine#[u,Z,gw (s:={s with heap:=h',toks:=tk}) e c d ⋯ #[_,H,W,T,#[Z,λys Y=>by rw[I.tuple_inj Y M];exact Jk l],#[by lia,?_],λb g=>(m b g).1]]
  have R:((n-1-i:Nat):Int)-1=(n:Int)-1-((i+1:Nat):Int):=by lia
  rw[<- R];exact j
 done:=by
  intro X t q B L i tx s σ H E I m st A;subst t q B;let#[y,f1,f2,F,C,D]:=m it (by simp)
  have hi:i=n:=Nat.le_antisymm st.1 A
  have f:=st.2;rw[show(n:Int)-1-i= -1 by lia]at f
  exact ud (I.ok.hd L) f λh' S=>#[Z,I.turned (t':=s.toks) (λb o g e=>S b o g e) y f1 F C D]
 self:=λ_ _ _ _ _ st h=>vN st.2 h
theorem wz{P:Ξ}{w:Ω}{K:ι}{tg:Φ}(it:Δ)(n:Nat):MM P w K tg (uN n) [it] it (λi h=>IsRangeIter h it ((n:Int)-1+(i:Nat)*(-1)) ((n:Int)-(i:Nat)) (-1)) where
 mem:=by simp
 obj:=λi h st b a=>by
  have e:b=it:=by simpa using a
  subst e
  exact#[_,st,λv z=>by
   have B:Data.fields _=Data.cell v:=z
   cases B]
 keep:=λi h h' st k=>k it (by simp) _ st
 item:=by
  intro X j f p q i tx s σ H E I d st m;subst j f p;let#[g,f1,f2,r,u,l]:=d it (by simp)
  have W:=Walks.range (prog:=X.prog) (w:=X.w) (I.ok.hd q) it ((n:Int)-1) (-1) n
  refine W.item i s _ _ m st λv h' tk y c kk=>?_
  let#[t,rfl]:=y;have A:L2.HL X tx σ H {s with heap:=h',toks:=tk}:=I.turned (λb o a e=>kk b o (by simpa using a) e) g f1 r u l
  refine#[0,gw (s:={s with heap:=h',toks:=tk}) (n:="range_iterator") c Z Z ⋯ #[.int ((n:Int)-1-i),H,A,#[t,?_],#[12],c,λb a=>(d b a).1]]
  rw[show(n:Int)-1+(i:Nat)*(-1)=(n:Int)-1-i by lia]
 done:=by
  intro X j f p q i tx s σ H E I d st m;subst j f p;let#[g,f1,f2,r,u,l]:=d it (by simp)
  exact wpAny_pyNext_range_end (I.ok.hd q) st (by have:n<=i:=m;lia) λh' x=>#[Z,I.turned (t':=s.toks) (λb o a e=>x b o a e) g f1 r u l]
 self:=λ_ _ _ _ _ st h=>IE st h
section
theorem Aq:bootBuiltins "reversed"=↑(.type "reversed"):=by kernel_rfl
noncomputable def E2(K:ι)(ta:TA):TI:=λσ H R=>ta σ H λc H1=>∃a,c=[-a]/\((∃xs,HP K H1 a xs/\R (tY K a xs.length) H1)\/(∃xs,HQ K H1 a xs/\R (tM K a xs.length) H1)\/∃n:Nat,H1 a=↑(.rng 0 n)/\(n:Int)<2 ^ 62/\R (uN n) H1)
theorem uR(hg:Gl X "reversed")(hm:X.mg "reversed"=none)(ha:QA X [a] ta)(hn:ba a=true:=by rfl):QI X tg (.Call (.Name "reversed" p) [a] [] pos) (E2 X.K ta):=#[by
 intro tx s σ H R I h;refine Call_ (bJ I hg hm Aq (Ge (qK (ha.h pos tx s σ H _ I h) λF d z=>?_) (dv hn) Z))
 let#[E,H1,g,C,w]:=z;let#[l,e,w]:=w;subst e;let#[u,rfl,B]:=C.one;cases B;have i:∀b∈[d.heap.objs.size],am X tx H1 b:=λb D=>by
  rw[Jg.mp D];exact g.fpOk (Jf _) (g.hok.fresh (Jf _))
 rcases w with⟨xs,m,q⟩|⟨xs,m,q⟩|⟨n,m,j,q⟩
 .let#[c,r,x,y]:=g.list m
  have f:=r.length;refine call_reversed_list x.isList ?_
  have hi:(d.heap.push (revObj l ((c.toArray.size:Int)-1))).IsRevIter d.heap.objs.size l ((c.toArray.size:Int)-1):=#[_,Ju _ Z,12]
  refine wpAny_pyIter_revIter hi ?_
  refine#[d.heap.objs.size,[d.heap.objs.size],8,H1,Z,g.kept (t':=d.toks) λb o e=>Jj _ e,uC l _ xs.length,#[JL _,?_],i,q]
  rw[show(xs.length:Int)-1-((0:Nat):Int)=(c.toArray.size:Int)-1 by simp [f]]
  exact hi
 .let#[c,r,x,y]:=g.tuple m
  have f:=r.length;refine Dp (show d.heap.IsTuple l c.toArray from x) (by simp;lia) λh' tk hi hk=>vN hi ?_
  refine#[d.heap.objs.size,[d.heap.objs.size],8,H1,Z,g.kept (t':=tk) hk,vc l _ xs.length,#[JL _,?_],i,q]
  rw[show(xs.length:Int)-1-((0:Nat):Int)=(c.toArray.size:Int)-1 by simp [f]]
  exact hi
 .let#[t,u,v,A]:=g.hok l _ m
  refine C7 A j λh' hi hk=>IE hi ?_
  refine#[d.heap.objs.size,[d.heap.objs.size],8,H1,Z,g.kept (t':=d.toks) hk,wz _ n,?_,i,q]
  show IsRangeIter _ _ _ _ _
  rw[show(n:Int)-1+((0:Nat):Int)*(-1)=(n:Int)-1 by lia,show(n:Int)-((0:Nat):Int)=n by lia]
  exact hi]
noncomputable def CN(K:ι)(tl:TE):TI:=λσ H R=>tl σ H λx H1=>∃a,x= .ref a/\((∃xs,HP K H1 a xs)/\R (jy K a) H1\/(∃xs,HQ K H1 a xs)/\R (gZ K a) H1)
theorem fA(u:QE X l tl):QI X tg l (CN X.K tl):=#[by
 intro tx s σ H R I h;refine qK (u.h tx s σ H _ I h) λv c r=>?_
 let#[x,H1,d,t,i]:=r;let#[a,e,i]:=i;subst e;cases t;have f:∀b∈[c.heap.objs.size],am X tx H1 b:=λb w=>by
  rw[Jg.mp w];exact d.fpOk (Jf _) (d.hok.fresh (Jf _))
 rcases i with⟨⟨xs,j⟩,q⟩|⟨⟨xs,j⟩,q⟩
 .let#[g,n,p,m]:=d.list j
  refine GC p.isList ?_
  exact#[c.heap.objs.size,[c.heap.objs.size],8,H1,Z,d.kept (t':=c.toks) λb o e=>Jj _ e,nr a _,#[_,Ju _ Z,12],f,q]
 .let#[g,n,p,m]:=d.tuple j
  refine FO (show c.heap.IsTuple a g.toArray from p) ?_
  exact#[c.heap.objs.size,[c.heap.objs.size],8,H1,Z,d.kept (t':=c.toks) λb o e=>Jj _ e,kh a _,#[_,Ju _ Z,12],f,q]]
end
section
variable{K:ι}{a:Δ}{xs:Β}{g:TG}{tb:TS}{D:Lr}{σ:L2.St}{H:Hp}
abbrev bw(J:It)(g:TG)(tb:TS)(D:Lr)(σ:L2.St)(H:Hp):Prop:=∃W:Nat->Nat->L2.St->Hp->Prop,(∃m,W 0 m σ H)/\∀i m σ H,W i m σ H->
      (J.stop i H/\D.nx σ H)\/(J.go i H/\∃N:L2.St->Hp->Prop,(∀σ' H',N σ' H'->∃m',m'<m/\W (i+1) m' σ' H')/\∀x H',J.yld i H x H'->g x σ H' λσ2 H2=>tb {D with nx:=N,ct:=N,bk:=D.nx} σ2 H2)
theorem jb(Pv:Nat->L2.St->Hp->Prop)(l:Pv 0 σ H)(d:∀i σ H,i<n->Pv i σ H->J.go i H)(hst:∀H,J.stop n H)(hs:∀i x σ H H',i<n->Pv i σ H->J.yld i H x H'->g x σ H' λc j=>tb {D with nx:=Pv (i+1),ct:=Pv (i+1),bk:=D.nx} c j)(f:∀σ H,Pv n σ H->D.nx σ H):bw J g tb D σ H:=by
 exists λi m σ H=>m=n-i/\i<=n/\Pv i σ H,#[n,by simp,JL _,l]
 rintro i m σ H ⟨rfl,hi,p⟩
 by_cases a:i<n
 .exact .inr #[d i σ H a p,Pv (i+1),λo H' h=>#[n-(i+1),by lia,Z,a,h],λx H' y=>hs i x σ H H' a p y]
 .have e:i=n:=by lia
  subst e;exact .inl #[hst H,f σ H p]
theorem ye(Pv:Nat->L2.St->Hp->Prop)(h:Pv 0 σ H)(d:∀i σ H,Pv i σ H->HP K H a xs)
  (hs:∀i x σ H,i<xs.length->xs[xs.length-1-i]? =↑x->Pv i σ H->g x σ H λc f=>tb {D with nx:=Pv (i+1),ct:=Pv (i+1),bk:=D.nx} c f)(e:∀σ H,Pv xs.length σ H->D.nx σ H):bw (tY K a xs.length) g tb D σ H:=
 jb Pv h (λi σ H hi p=>#[hi,xs,d i σ H p,Z]) (λ_=>Jf _) (λi x σ H H' hi p y=>by
  let#[rfl,y]:=y;exact hs i x σ H' hi (y xs (d i σ H' p)) p) e
theorem wX(Pv:Nat->L2.St->Hp->Prop)(h:Pv 0 σ H)(d:∀i σ H,Pv i σ H->HQ K H a xs)
  (hs:∀i x σ H,i<xs.length->xs[xs.length-1-i]? =↑x->Pv i σ H->g x σ H λc f=>tb {D with nx:=Pv (i+1),ct:=Pv (i+1),bk:=D.nx} c f)(e:∀σ H,Pv xs.length σ H->D.nx σ H):bw (tM K a xs.length) g tb D σ H:=
 jb Pv h (λi σ H hi p=>#[hi,xs,d i σ H p,Z]) (λ_=>Jf _) (λi x σ H H' hi p y=>by
  let#[rfl,y]:=y;exact hs i x σ H' hi (y xs (d i σ H' p)) p) e
theorem w9(Pv:Nat->L2.St->Hp->Prop)(d:Pv 0 σ H)(hs:∀i σ H,i<n->Pv i σ H->g (.int ((n:Int)-1-i)) σ H λa e=>tb {D with nx:=Pv (i+1),ct:=Pv (i+1),bk:=D.nx} a e)(c:∀σ H,Pv n σ H->D.nx σ H):bw (uN n) g tb D σ H:=
 jb Pv d (λi σ H hi p=>hi) (λ_=>Jf _) (λi x σ H H' hi p y=>by
  let#[rfl,rfl]:=y;exact hs i σ H' hi p) c
end
end L3
namespace L3
open PySem PySem.Spec L2
def ZJ(x:Int):Prop:=0<=x/\x<16
def Qn(r:Ε):Prop:=∀x∈r,ZJ x
noncomputable def AM(n i:Nat):Nat:=if i=0 then n-1 else i-1
noncomputable def ah(r:Ε)(i:Nat):Int:=r.getD (AM r.length i) 0
noncomputable def lP(t:Ε)(s:Int)(r:Ε)(i:Nat):Ε:=r.set i (t.getD ((r.getD i 0+s+i+ah r i)%16).toNat 0)
noncomputable def j8(b:Ε)(s:Int)(r:Ε)(i:Nat):Ε:=r.set i ((b.getD (r.getD i 0).toNat 0-s-i-ah r i)%16)
noncomputable def bS(t:Ε)(s:Int)(r:Ε):Nat->Ε
 |0=>r
 |n+1=>lP t s (bS t s r n) n
noncomputable def cC(b:Ε)(s:Int)(r:Ε):Nat->Ε
 |0=>r
 |n+1=>cC b s (j8 b s r n) n
noncomputable def Zt(t:Ε):Ε->Ε->Ε
 | [],r=>r
 |s::ks,r=>Zt t ks (bS t s r r.length)
noncomputable def Z4(b:Ε):Ε->Ε->Ε
 | [],r=>r
 |s::ks,r=>cC b s (Z4 b ks r) r.length
theorem yg:(lP t s r i).length=r.length:=FR ..
theorem rn{b:Ε}:(j8 b s r i).length=r.length:=FR ..
theorem ZC:∀{n:Nat},(bS t s r n).length=r.length
 |0=>rfl
 |n+1=>by rw[bS,yg,ZC]
theorem pI{b:Ε}:∀{n:Nat} {r:Ε},(cC b s r n).length=r.length
 |0,_=>rfl
 |n+1,r=>by rw[cC,pI,rn]
theorem fX:∀{ks r:Ε},(Zt t ks r).length=r.length
 | [],_=>rfl
 |s::ks,r=>by rw[Zt,fX,ZC]
theorem jW{b:Ε}:∀{ks r:Ε},(Z4 b ks r).length=r.length
 | [],_=>rfl
 |s::ks,r=>by rw[Z4,pI,jW]
theorem pU{r:Ε}{i:Nat}{x:Int}(h:Qn r)(a:ZJ x):Qn (r.set i x):=λy c=>by
 rcases List.mem_or_eq_of_mem_set c with z|z
 .exact h y z
 .rw[z];exact a
theorem cw(x:Int):ZJ (x%16):=#[F5 _ ⋯,F6 _ ⋯]
theorem mL(h:Qn r)(i:Nat):ZJ (r.getD i 0):=by
 rw[JM]
 by_cases hi:i<r.length
 .rw[Jk hi];exact h _ (FL hi)
 .rw[Gw (by lia)];exact#[⋯,⋯]
theorem yx{t:Ε}(p:t.Perm Lv):Qn t:=λx a=>rh (p.mem_iff.mp a)
theorem yt{t:Ε}(p:t.Perm Lv){s:Int}{r:Ε}{i:Nat}(h:Qn r):Qn (lP t s r i):=pU h (mL (yx p) _)
theorem pj{b:Ε}{s:Int}{r:Ε}{i:Nat}(h:Qn r):Qn (j8 b s r i):=pU h (cw _)
theorem gC{t:Ε}(p:t.Perm Lv){s:Int}{r:Ε}(h:Qn r):∀{n:Nat},Qn (bS t s r n)
 |0=>h
 |n+1=>yt p (gC p h)
theorem oQ{b:Ε}{s:Int}:∀{n:Nat} {r:Ε},Qn r->Qn (cC b s r n)
 |0,_,h=>h
 |n+1,_,h=>oQ (n:=n) (pj h)
theorem rO{t:Ε}(p:t.Perm Lv):∀{ks r:Ε},Qn r->Qn (Zt t ks r)
 | [],_,h=>h
 |s::ks,_,h=>rO (ks:=ks) p (gC p h)
theorem pY{b:Ε}:∀{ks r:Ε},Qn r->Qn (Z4 b ks r)
 | [],_,h=>h
 |s::ks,_,h=>oQ (pY (ks:=ks) h)
theorem oj{r:Ε}(h:i<r.length):(r.set i x).getD i 0=x:=by
 rw[JM,Ia h];rfl
theorem rZ{r:Ε}(h:i≠j):(r.set i x).getD j 0=r.getD j 0:=by
 rw[JM,Ib h,<- JM]
theorem Ec{n i:Nat}(a:2<=n)(hi:i<n):i≠AM n i:=by unfold AM;split<;>lia
theorem DN(a:2<=r.length)(hi:i<r.length):ah (r.set i x) i=ah r i:=by
 unfold ah;rw[FR,rZ (Ec a hi)]
theorem Ar{r:Ε}(hi:i<r.length):r.set i (r.getD i 0)=r:=by
 rw[JM,Jk hi];exact List.set_getElem_self hi
theorem yw(p:t.Perm Lv)(h:ZJ z):(Qr t).getD (t.getD z.toNat 0).toNat 0=z:=by
 have a:z.toNat<t.length:=by rw[sV p];have:=h.1;have:=h.2;lia
 have e:t.getD z.toNat 0=t[z.toNat]:=by rw[JM,Jk a];rfl
 have bd:=rp p a;have c:t[z.toNat].toNat<(Qr t).length:=by rw[du];lia
 rw[e,JM,Jk c,Gn,Bu p (by rw[du]at c;exact c)]
 have d:((t[z.toNat].toNat:Nat):Int)=t[z.toNat]:=by lia
 rw[d,vK p a]
 have:=h.1
 lia
theorem wI(p:t.Perm Lv)(d:Qn r)(c:2<=r.length)(hi:i<r.length):j8 (Qr t) s (lP t s r i) i=r:=by
 unfold j8 lP;rw[oj hi,DN c hi,List.set_set,yw p (cw _)];have a:=mL d i;have e:((r.getD i 0+s+i+ah r i)%16-s-i-ah r i)%16=r.getD i 0:=by
  have:=a.1
  have:=a.2
  lia
 rw[e,Ar hi]
theorem pP{t:Ε}(p:t.Perm Lv){s:Int}{r:Ε}(c:Qn r)(a:2<=r.length):∀{n:Nat},n<=r.length->cC (Qr t) s (bS t s r n) n=r
 |0,_=>rfl
 |n+1,hn=>by
  rw[bS,cC,wI p (gC p c) (by rw[ZC];exact a) (by rw[ZC];lia)]
  exact pP p c a (by lia)
theorem rN{t:Ε}(p:t.Perm Lv):∀{ks r:Ε},Qn r->2<=r.length->Z4 (Qr t) ks (Zt t ks r)=r
 | [],_,_,_=>rfl
 |s::ks,r,hr,h2=>by
  rw[Z4,Zt,rN p (gC p hr) (by rw[ZC];exact h2),fX,ZC,pP p hr h2 (Jf _)]
theorem rl(t:Ε):∀(ks:Ε) (s:Int) (r:Ε),Zt t (ks++[s]) r=bS t s (Zt t ks r) r.length
 | [],_,_=>rfl
 |a::ks,s,r=>by rw[List.cons_append,Zt,rl t ks s,Zt,ZC]
def Sq(K:ι)(H:Hp)(a:Δ)(xs:Β):Prop:=HP K H a xs\/HQ K H a xs
theorem Sq.same(e:HG H H')(h:Sq K H a xs):Sq K H' a xs:=h.elim (λh=> .inl (e.seq h)) λh=> .inr (HG.sqt e h)
theorem Sq.lst(h:H a=↑(.lst xs)):Sq K H a xs:= .inl (HP.of h)
theorem Sq.tup(h:H a=↑(.tup xs)):Sq K H a xs:= .inr (HQ.of h)
inductive NN (K:ι) (vs:Β) (H:Hp) (Q:VK) (_3:XK):Prop
 |mk (a b c:Δ) (t ks ds:Ε) (h1:vs=[-a,-b,-c]) (h2:Sq K H a (t.map V.int)) (h3:Sq K H b (ks.map V.int)) (h4:Sq K H c (ds.map V.int)) (h5:t.length=16) (h6:1<=ds.length) (h7:ds.length<64) (h8:∀p H',HG H H'->H p=none->H' p=↑(.tup ((Zt t ks ds).map V.int))->Q (-p) H')
inductive Nu (K:ι) (vs:Β) (H:Hp) (Q:VK) (_3:XK):Prop
 |mk (a b c:Δ) (t ks ds:Ε) (h1:vs=[-a,-b,-c]) (h2:Sq K H a (t.map V.int)) (h3:Sq K H b (ks.map V.int)) (h4:Sq K H c (ds.map V.int)) (h5:t.Perm Lv) (h6:Qn ds) (h7:1<=ds.length) (h8:ds.length<64) (h9:∀p H',HG H H'->H p=none->H' p=↑(.tup ((Z4 (Qr t) ks ds).map V.int))->Q (-p) H')
theorem cK{r:Ε}{i:Nat}(e:z=(i:Int))(h:i<r.length):Q3 (r.map V.int) z=↑(.int (r.getD i 0)):=by
 rw[BI e (lW h),JM,Jk h];rfl
theorem vJ{r:Ε}{i:Nat}(e:z=(i:Int)-1)(h:i<r.length):Q3 (r.map V.int) z=↑(.int (ah r i)):=by
 subst e;unfold ah AM
 by_cases c:i=0
 .subst c
  rw[Jd Z];have a:r.length-1<r.length:=by lia
  unfold Q3 bM;rw[Jb,Jc (by lia),Jd (by lia)]
  have d:((((0:Nat):Int)-1)+(r.length:Int)).toNat=r.length-1:=by lia
  show(r.map V.int)[((((0:Nat):Int)-1)+(r.length:Int)).toNat]? =_
  rw[d,lW a,JM,Jk a];rfl
 .rw[Jc c]
  exact cK (by lia) (by lia)
theorem Sq.ix(h:Sq K H a xs)(e:Q3 xs i=↑v)(q:Q v H):Dx K (-a) (.int i) H Q\/Am K (-a) (.int i) H Q:=
 h.elim (λh=> .inl ⟨a,xs,i,v,Z,Z,h,e,q⟩) λh=> .inr #[a,xs,i,v,12,h,e,q]
section
theorem BC(c:Sq K H0 a xs)(Pv:Nat->L2.St->Hp->Prop)(d:Pv 0 σ H)(hk:∀i f H',Pv i f H'->HG H0 H')
  (hs:∀i x σ H,xs[i]? =↑x->Pv i σ H->g x σ H λe j=>tb {D with nx:=Pv (i+1),ct:=Pv (i+1),bk:=D.nx} e j)(h:∀σ H,Pv xs.length σ H->D.nx σ H):
  ((∃xs,HP K H a xs)/\bw (jy K a) g tb D σ H)\/((∃xs,HQ K H a xs)/\bw (gZ K a) g tb D σ H):=by
 rcases c with c|c
 .exact .inl #[#[xs,(hk _ _ _ d).seq c],ke Pv d (λi σ H _ p=>(hk i σ H p).seq c) hs h]
 .exact .inr #[#[xs,HG.sqt (hk _ _ _ d) c],lY Pv d (λi σ H _ p=>HG.sqt (hk i σ H p) c) hs h]
theorem xn(c:Sq K H0 a xs)(Pv:Nat->L2.St->Hp->Prop)(d:Pv 0 σ H)(hk:∀i f H',Pv i f H'->HG H0 H')
  (hs:∀i x σ H,i<xs.length->xs[xs.length-1-i]? =↑x->Pv i σ H->g x σ H λe j=>tb {D with nx:=Pv (i+1),ct:=Pv (i+1),bk:=D.nx} e j)(h:∀σ H,Pv xs.length σ H->D.nx σ H):
  (∃xs,HP K H a xs/\bw (tY K a xs.length) g tb D σ H)\/(∃xs,HQ K H a xs/\bw (tM K a xs.length) g tb D σ H)\/(∃n:Nat,H a=↑(.rng 0 n)/\(n:Int)<2 ^ 62/\bw (uN n) g tb D σ H):=by
 rcases c with c|c
 .exact .inl #[xs,(hk _ _ _ d).seq c,ye Pv d (λi σ H p=>(hk i σ H p).seq c) hs h]
 .exact .inr (.inl #[xs,HG.sqt (hk _ _ _ d) c,wX Pv d (λi σ H p=>HG.sqt (hk i σ H p) c) hs h])
end
theorem aK{H a:Hp}{l:Δ}{o:HO}(s:HG H a)(h:H l=none):HG H (HI a l o):=λd u e=>by
 rw[qk (qu e h)];exact s _ _ e
theorem lU{ks:Ε}(h:ks[j]? =↑s):ks.take (j+1)=ks.take j++[s]:=by rw[FC,h];rfl
theorem uS{ks:Ε}(h:ks[j]? =↑s):ks.drop j=s::ks.drop (j+1):=by
 let#[a,e]:=Jt.mp h;rw[List.drop_eq_getElem_cons a,e]
inductive OA (H:Hp):Nat->V->V->Prop where
 |int (n:Nat) (i:Int):OA H n (.int i) (.int i)
 |str (n:Nat) (x:Str):OA H n (.str x) (.str x)
 |non (n:Nat):OA H n .non .non
 |bl (n:Nat) (b:Bool):OA H n (.bl b) (.bl b)
 | tup {n:Nat} {a b:Δ} {xs ys:Β} (h1:Rd H a (.tup xs)) (h2:Rd H b (.tup ys)) (hl:xs.length=ys.length)
   (hi:∀(i:Nat) (x y:V),xs[i]? =↑x->ys[i]? =↑y->OA H n x y):OA H (n+1) (-a) (-b)
 | lst {n:Nat} {a b:Δ} {xs ys:Β} (h1:H a=↑(.lst xs)) (h2:H b=↑(.lst ys)) (hl:xs.length=ys.length)
   (hi:∀(i:Nat) (x y:V),xs[i]? =↑x->ys[i]? =↑y->OA H n x y):OA H (n+1) (-a) (-b)
theorem fg(n:Nat):((List.range n).all λ_=>true)=true:=by simp
section
open SeqAt
theorem QL(r:HR xs us)(h:j<us.length):∃x,xs[j]? =↑x/\HN x us[j]:=by
 have e:=r.length;have a:j<xs.length:=by lia
 let#[u,c,d]:=r.get (Jk a)
 rw[Jk h]at c;cases c
 exact⟨_,Jk a,d⟩
theorem vx(I:L2.HL X tx σ H s){n:Nat}{x y:V}(h:OA H n x y):∀{v u:Γ} {A:Around},HN x v->HN y u->A.units+n<cLine->EqAt A s v u true:=by
 induction h with
 |int n i=>rintro v u A ⟨t,rfl⟩ ⟨D,rfl⟩ _;have:=EqAt.int_int (A:=A) (s:=s) i t i D;rwa [Fw]at this
 |str n z=>rintro v u A ⟨t,rfl⟩ ⟨D,rfl⟩ _;have:=EqAt.str_str (A:=A) (s:=s) z t z D;rwa [Fw]at this
 |non n=>
  intro v u A l g _
  cases(show v=Γ.none from l)
  cases(show u=Γ.none from g)
  exact EqAt.same _
 |bl n b=>
  intro v u A l g _
  cases(show v=Γ.bool b from l)
  cases(show u=Γ.bool b from g)
  exact EqAt.same _
 | @tup n a b xs ys h1 h2 hl _ ih=>
  intro v u A l g G
  cases(show v=Γ.ref a from l)
  cases(show u=Γ.ref b from g)
  by_cases d:a=b
  .rw[d];exact EqAt.same _
  .let#[f,o,B,_]:=I.tuple (.inl h1)
   let#[c,m,p2,_]:=I.tuple (.inl h2)
   have F:=o.length;have E:=m.length;have e:=RcAt.tuples (A:=A) (e:=λ_=>true) (show s.heap.IsTuple a f.toArray from B) (show s.heap.IsTuple b c.toArray from p2) (by lia) (λj q C=>by
    let#[x,ex,p]:=QL o (j:=j) (by simpa using q)
    let#[y,w,r]:=QL m (j:=j) (by simpa using C)
    exact ih j x y ex w p r (by rw[Gy];lia))
   rw[fg,show(f.toArray.size==c.toArray.size)=true by simp;lia]at e
   exact EqAt.of_refs d e
 | @lst n a b xs ys h1 h2 hl _ ih=>
  intro v u A l g G
  cases(show v=Γ.ref a from l)
  cases(show u=Γ.ref b from g)
  by_cases d:a=b
  .rw[d];exact EqAt.same _
  .let#[f,o,B,_]:=I.list (HP.of h1)
   let#[c,m,p2,_]:=I.list (HP.of h2)
   have F:=o.length;have E:=m.length;have e:=RcAt.lists (A:=A) (e:=λ_=>true) B.isList p2.isList (by simp;lia) (by lia) (λj q C=>by
    let#[x,ex,p]:=QL o (j:=j) (by simpa using q)
    let#[y,w,r]:=QL m (j:=j) (by simpa using C)
    exact ih j x y ex w p r (by rw[Gy];lia))
   rw[fg]at e;exact EqAt.of_refs d e
theorem C0(I:L2.HL X tx σ H s)(h:OA H n x y)(m:HN x v)(l:HN y u)(K:A.units+n<cLine):RcAt A s v u true/\RcNeAt A s v u false:=by
 cases h with
 |int n i=>
  let#[t,rfl]:=m;let#[q,rfl]:=l;have f:=RcAt.int_int (A:=A) (s:=s) i t i q
  have g:=RcNeAt.int_int (A:=A) (s:=s) i t i q
  rw[Fw]at f g
  exact#[f,g]
 |str n z=>
  let#[t,rfl]:=m;let#[q,rfl]:=l;have f:=RcAt.str_str (A:=A) (s:=s) z t z q
  have g:=RcNeAt.str_str (A:=A) (s:=s) z t z q
  rw[Fw]at f g
  exact#[f,g]
 |non n=>
  cases(show v=Γ.none from m)
  cases(show u=Γ.none from l)
  exact#[RcAt.none_none,RcNeAt.none_none]
 |bl n b=>
  cases(show v=Γ.bool b from m)
  cases(show u=Γ.bool b from l)
  have f:=RcAt.bool_bool (A:=A) (s:=s) b b
  have g:=RcNeAt.bool_bool (A:=A) (s:=s) b b
  rw[Fw]at f g
  exact#[f,g]
 | @tup n a b xs ys h1 h2 hl ih=>
  cases(show v=Γ.ref a from m)
  cases(show u=Γ.ref b from l)
  let#[d,w,p,_]:=I.tuple (.inl h1)
  let#[c,o,p2,_]:=I.tuple (.inl h2)
  have J:=w.length;have G:=o.length;have B:∀j (r:j<d.toArray.size) (C:j<c.toArray.size),EqAt A.in1 s d.toArray[j] c.toArray[j] ((λ_=>true) j):=λj r C=>by
   let#[x,ex,F]:=QL w (j:=j) (by simpa using r)
   let#[y,E,D]:=QL o (j:=j) (by simpa using C)
   exact vx I (ih j x y ex E) F D (by rw[Gy];lia)
  have f:=RcAt.tuples (A:=A) (e:=λ_=>true) (show s.heap.IsTuple a d.toArray from p) (show s.heap.IsTuple b c.toArray from p2) (by lia) B
  have g:=RcNeAt.tuples (A:=A) (e:=λ_=>true) (show s.heap.IsTuple a d.toArray from p) (show s.heap.IsTuple b c.toArray from p2) (by lia) B
  rw[fg,show(d.toArray.size==c.toArray.size)=true by simp;lia]at f g
  exact#[f,g]
 | @lst n a b xs ys h1 h2 hl ih=>
  cases(show v=Γ.ref a from m)
  cases(show u=Γ.ref b from l)
  let#[d,w,p,_]:=I.list (HP.of h1)
  let#[c,o,p2,_]:=I.list (HP.of h2)
  have J:=w.length;have G:=o.length;have B:∀j (r:j<d.toArray.size) (C:j<c.toArray.size),EqAt A.in1 s d.toArray[j] c.toArray[j] ((λ_=>true) j):=λj r C=>by
   let#[x,ex,F]:=QL w (j:=j) (by simpa using r)
   let#[y,E,D]:=QL o (j:=j) (by simpa using C)
   exact vx I (ih j x y ex E) F D (by rw[Gy];lia)
  have f:=RcAt.lists (A:=A) (e:=λ_=>true) p.isList p2.isList (by simp;lia) (by lia) B
  have g:=RcNeAt.lists (A:=A) (e:=λ_=>true) p.isList p2.isList (by simp;lia) (by lia) B
  rw[fg]at f g
  exact#[f,g]
inductive P5 (b:Bool) (x:V) (y:V) (H:Hp) (Q:VK):Prop
 |mk (n:_) (h1:n<=32) (h2:OA H n x y) (h3:Q (.bl b) H)
theorem Cz{k:Nat}(d:Lb k X.A):Qq X (compareOp .NotEq) (P5 false):=by
 intro tx s σ H x y v u Q I a c h;let#[n,f,e,q]:=h
 exact(C0 I e a c (by have:=d.un;lia)).2 _ _ _ _ ⟨.bl _,H,I,Z,q⟩
end
end L3
namespace L3
open PySem PySem.Spec PyProof.Rows L2
open Sem (wp)
noncomputable def AJ(x:Str):It:=⟨λi _=>i<x.cps.size,λi H v H'=>H'=H/\∃c,x.cps[i]? =↑c/\v= .str ⟨(List.toArray [c])⟩,λi _=>x.cps.size<=i⟩
theorem w6{P:Ξ}{w:Ω}{K:ι}{tg:Φ}(it:Δ)(x:Str)(t:Tok):MM P w K tg (AJ x) [it] it (λi h=>h.IsStrIter it "str_ascii_iterator" x t i) where
 mem:=by simp
 obj:=λi h st b a=>by
  have e:b=it:=by simpa using a
  subst e;let#[o,e,c,d]:=st
  exact#[o,e,λv z=>by rw[d]at z;cases z]
 keep:=λi h h' st k=>let⟨o,e,r⟩:=st;#[o,k it (by simp) o e,r]
 item:=by
  intro X m j p D i tx s σ H E I g st n;subst m j p;let#[l,f1,f2,B,y,A]:=g it (by simp)
  have W:=Walks.strAscii (prog:=X.prog) (w:=X.w) (I.ok.hd D) it x t
  refine W.item i s _ _ n st λv h' tk F f kk=>?_
  let#[c,u,C,rfl]:=F;have L:L2.HL X tx σ H {s with heap:=h',toks:=tk}:=I.turned (λb o a e=>kk b o (by simpa using a) e) l f1 B y A
  let#[o,e,J,d]:=id f
  exact#[0,gw (s:={s with heap:=h',toks:=tk}) e J d ⋯ #[.str #[(List.toArray [c])],H,L,#[u,Z],#[Z,c,C,Z],f,λb a=>(g b a).1]]
 done:=by
  intro X m j p D i tx s σ H E I g st n;subst m j p;let#[l,f1,f2,B,y,A]:=g it (by simp)
  have q:x.cps.size<=i:=n
  exact wpAny_pyNext_ascii_end (I.ok.hd D) st (by simp [q]) λh' G=>#[Z,I.turned (t':=s.toks) (λb o a e=>G b o a e) l f1 B y A]
 self:=λ_ _ _ _ _ st h=>wpAny_pyIter_striter_ascii st h
section
noncomputable def Dq(tl:TE):TI:=λσ H R=>tl σ H λv H1=>∃x,v= .str x/\x.cps.all (· <128)=true/\R (AJ x) H1
theorem Cr{l:Φ}{tl:TE}(j:PE X l tl):PI X tg l (Dq tl):=by
 intro tx s σ H R I h;refine qK (j tx s σ H _ I h) λv c f=>?_
 let#[x,H1,a,i,g]:=f;let#[z,rfl,d,q]:=g;let#[t,rfl]:=i;refine wpAny_pyIter_ascii d ?_
 refine#[c.heap.objs.size,[c.heap.objs.size],8,H1,Z,a.kept (t':=c.toks) λb o e=>Jj _ e,w6 _ z t,#[_,Ju _ Z,12],λb m=>?_,q]
 rw[Jg.mp m];exact a.fpOk (Jf _) (a.hok.fresh (Jf _))
theorem vy(a:QE X l tl):QI X tg l (Dq tl):=#[Cr a.h]
end
theorem B7(Pv:Nat->L2.St->Hp->Prop)(f:Pv 0 σ H)(hs:∀i c σ H,x.cps[i]? =↑c->Pv i σ H->g (.str #[(List.toArray [c])]) σ H λa e=>tb {D with nx:=Pv (i+1),ct:=Pv (i+1),bk:=D.nx} a e)(d:∀σ H,Pv x.cps.size σ H->D.nx σ H):bw (AJ x) g tb D σ H:=
 jb Pv f (λi σ H hi p=>hi) (λ_=>Jf _) (λi v σ H H' hi p y=>by
  let#[rfl,c,h,rfl]:=y;exact hs i c σ H' h p) d
section
variable{X:Cx}{o e:Φ}{es:Ι}{to:TE}{t:TA}{name:Str}{apos cpos:Pos}{T id:String}{r:V->Β->Hp->VK->Prop}
theorem Qx(i:PlainAttrs T)(f:Slot T name id)(h:typeOf (.builtin id)=pure (.type "method_descriptor"))(hm:iK X id r)(ho:QE X o to)(ha:QA X (e::es) t)
  (d:attributeBase o name X.env (eval o X.env)=eval o X.env:=by rfl)
  (g:((backTo cpos (θ (e::es) X.env)).all (λx=> ! x.1)&&(backToKw cpos (keywordEach [] X.env)).all (λx=>x.1.isSome)
   &&decide ((e::es).length+([]:Χ).length+(if([]:Χ).isEmpty then 0 else 1)<30))=true:=by rfl)
  (c:(apos.endLine==cpos.line)=true:=by rfl)(hs:θ (e::es) X.env=(false,eval e X.env)::θ es X.env:=by rfl)(a:(backTo cpos (θ es X.env)).any (·.1)=false:=by rfl):
  QE X (.Call (.Attribute o name apos) (e::es) [] cpos) (EF X.K T r to t):=#[Ey i f h hm ho.h ha.h d g c hs a]
theorem zY:iK X "list.append" sO:=uW
end
theorem eU(ns:Ε):∀n,n<=ns.length->preSum (λi=>ns.getD i 0) n=(ns.take n).sum
 |0,_=>by simp [preSum]
 |n+1,h=>by
  have a:n<ns.length:=by lia
  rw[preSum,eU ns n (by lia),FC,Jk a,Option.toList_some,List.sum_append,JM,Jk a]
  simp
theorem vg{B:Int}:∀{ns:Ε},(∀z∈ns,0<=z/\z<=B)->0<=ns.sum/\ns.sum<=ns.length*B
 | [],_=>#[by simp,by simp]
 |n::r,h=>by
  have h1:=h n Jy;have c:=vg (ns:=r) λz a=>h z (JD _ a)
  rw[List.sum_cons,J7];exists by lia
  have:(((r.length+1:Nat):Int))*B=r.length*B+B:=by rw[Int.natCast_add,Int.add_mul];simp
  lia
section
theorem vj(hc:X.calm=true):Qh X (.builtin "sum") (λxs H Q=>∃(p:Δ) (ns:Ε),xs=[-p]/\Sq X.K H p (ns.map V.int)/\ns.length<=1000/\(∀z∈ns,0<=z/\z<=1000000)/\Q (.int ns.sum) H):=by
 intro tx s σ H xs R Q I r h;let#[p,ns,rfl,C,T,L,q]:=h;let#[u,rfl,O]:=Q1 r;cases O;have bd:∀n,n<=ns.length->0<=preSum (λi=>ns.getD i 0) n/\preSum (λi=>ns.getD i 0) n<=1000000000:=λn N=>by
  rw[eU ns n N];have h1:=vg (B:=1000000) (ns:=ns.take n) λz w=>L z (List.mem_of_mem_take w)
  have S:(ns.take n).length<=1000:=by rw[Fv];lia
  lia
 have y:∀j,j<ns.length->InLong ((λi=>ns.getD i 0) j)/\InLong (preSum (λi=>ns.getD i 0) (j+1)):=λj l=>by
  have U:=bd (j+1) (by lia)
  have W:0<=ns.getD j 0/\ns.getD j 0<=1000000:=by
   rw[JM,Jk l];exact L _ (FL l)
  unfold InLong;simp only
  lia
 have K:preSum (λi=>ns.getD i 0) ns.length=ns.sum:=by rw[eU ns _ (Jf _),FU]
 have val:∀{a:Ζ},HR (ns.map V.int) a->∀(i:Nat) (v:Γ),a.toArray[i]? =↑v->∃t,v= .int ((λi=>ns.getD i 0) i) t:=λ{a} g i v M=>by
  have m:a[i]? =↑v:=by simpa using M
  have hi:i<a.length:=(Jt.mp m).1
  let#[x,ex,P]:=QL g hi;let#[z,rfl,w]:=Zy ex;let#[t,J]:=P;exists t
  rw[(Jt.mp m).2]at J;rw[J]
  show Γ.int z t=Γ.int (ns.getD i 0) t
  rw[JM,w];rfl
 rcases C with C|C
 .let#[a,g,D,w]:=I.list C
  have d:ns.length=a.length:=by have:=g.length;rwa [Jb]at this
  have f:p<s.heap.objs.size:=by let#[_,e,_]:=D.isList;exact Jl e
  refine call_sum_walk (GC D.isList ?_)
  refine#[s.heap.objs.size,[s.heap.objs.size,p],[s.heap.objs.size],a.toArray.size,8,λi=>ns.getD i 0,Z,Walks.list (A:=X.A.in1) (I.ok.hd hc) _ p (Jx f) a.toArray,
   #[#[_,Ju _ Z,12],D.isList.push _],λb c=>?_,val g,λj l=>y j (by simp at l;lia),λh' tk t' hk=>?_]
  .have sz:(s.heap.push {cls:= .type "list_iterator",data:= .fields (List.toArray [-p,.int 0 0])}).objs.size=s.heap.objs.size+1:=J8 ..
   simp only[Jh,Jr,Js]at c
   show b<(Ψ.push s.heap _).objs.size
   rw[J8];rcases c with rfl|rfl
   .exact FP _
   .exact Gm f
  .have G:preSum (λi=>ns.getD i 0) a.toArray.size=ns.sum:=by rw[JC,<- d];exact K
   rw[G];refine#[.int _,H,I.kept (h':=h') (t':=tk) λb o q=>hk b o (λE=>?_) (Jj _ q),#[0],q]
   rw[Jg.mp E]at q;exact J4 _ (Jl q)
 .let#[a,g,D,w]:=I.tuple C
  have d:ns.length=a.length:=by have:=g.length;rwa [Jb]at this
  have F:s.heap.IsTuple p a.toArray:=D
  have f:p<s.heap.objs.size:=by let#[_,e,_]:=F;exact Jl e
  refine call_sum_walk (FO F ?_)
  refine#[s.heap.objs.size,[s.heap.objs.size,p],[s.heap.objs.size],a.toArray.size,8,λi=>ns.getD i 0,Z,Walks.tuple (A:=X.A.in1) (I.ok.hd hc) _ p (Jx f) a.toArray,
   #[#[_,Ju _ Z,12],let⟨o,e,r⟩:=F;#[o,Jj _ e,r]],λb c=>?_,val g,λj l=>y j (by simp at l;lia),λh' tk t' hk=>?_]
  .simp only[Jh,Jr,Js]at c
   show b<(Ψ.push s.heap _).objs.size
   rw[J8];rcases c with rfl|rfl
   .exact FP _
   .exact Gm f
  .have G:preSum (λi=>ns.getD i 0) a.toArray.size=ns.sum:=by rw[JC,<- d];exact K
   rw[G];refine#[.int _,H,I.kept (h':=h') (t':=tk) λb o q=>hk b o (λE=>?_) (Jj _ q),#[0],q]
   rw[Jg.mp E]at q;exact J4 _ (Jl q)
end
end L3
namespace L3
open PySem PySem.Spec PyProof.Rows L2
section
theorem Ah:Cv X (λx y H Q=>∃(p:Δ) (xs:Β) (i:Nat) (v:V),x= .ref p/\y= .int (i:Int)/\H p=↑(.lst xs)/\xs[i]? =↑v/\Q v H):=by
 intro tx s σ H o i B z Q I g e h;let#[p,xs,j,v,rfl,rfl,c,a,q]:=h;cases g;let#[t,rfl]:=e;let#[d,r,l,w]:=I.list (HP.of c)
 let#[u,m,f]:=r.get a;have A:=r.length;have C:=bP;have n:j<xs.length:=(Jt.mp a).1
 exact wpAny_getItem_list l.isList (by lia) (by lia) (by simpa using m) #[v,H,I,f,q]
end
def ZE(z:Str):Prop:=(∀c∈z.cps.toList,97<=c/\c<=122)/\1<=z.cps.toList.length/\z.cps.toList.length<=8
theorem rq(h:ZE z):z.cps.all (· <128)=true:=by
 rw[Array.all_eq_true'];intro c a
 have:=h.1 c (by simpa using a)
 simp;lia
noncomputable def wG(c:Nat):Ε:=[((c:Int)-97)%16,((c:Int)-97)/16]
def Z1(a:Μ):Ε:=a.flatMap wG
theorem uZ(a:Μ)(c:Nat):Z1 (a++[c])=Z1 a++wG c:=by simp [Z1]
theorem mZ(a:Μ):(Z1 a).length=2*a.length:=by
 induction a with
 |nil=>rfl
 |cons c r ih=>simp only[Z1,List.flatMap_cons,Jq,J7]at ih⊢;rw[ih];simp [wG];lia
noncomputable def mh(ds:Ε)(j:Nat):Nat->Int
 |0=>0
 |n+1=>mh ds j n+if n%4=j then ds.getD n 0 else 0
noncomputable def bz(ds:Ε)(n:Nat):Ε:=[mh ds 0 n,mh ds 1 n,mh ds 2 n,mh ds 3 n]
theorem vQ(ds:Ε)(n:Nat):(bz ds n).set (n%4) ((bz ds n).getD (n%4) 0+ds.getD n 0)=bz ds (n+1):=by
 have h:n%4=0\/n%4=1\/n%4=2\/n%4=3:=by lia
 rcases h with h|h|h|h<;>simp [bz,mh,h]
noncomputable def eK(ds:Ε):Ε:=(bz ds ds.length).map (· %16)
theorem rB(ds:Ε):(eK ds).length=4:=Z
inductive Nv (vs:Β) (H:Hp) (Q:VK) (_3:XK):Prop
 |mk (z:_) (h1:vs=[.str z]) (h2:ZE z) (h3:∀l H',HG H H'->H l=none->H' l=↑(.lst ((Z1 z.cps.toList).map V.int))->Q (-l) H')
inductive NO (K:ι) (vs:Β) (H:Hp) (Q:VK) (_3:XK):Prop
 |mk (a b:Δ) (z:Str) (t ks:Ε) (h1:vs=[-a,-b,.str z]) (h2:Sq K H a (t.map V.int)) (h3:Sq K H b (ks.map V.int)) (h4:ZE z) (h5:t.length=16) (h6:∀p H',HG H H'->H p=none->H' p=↑(.tup ((Zt t ks (eK (Z1 z.cps.toList))).map V.int))->Q (-p) H')
theorem BS{a:Μ}(h:a[i]? =↑c):a.take (i+1)=a.take i++[c]:=by rw[FC,h];rfl
theorem sG{z:Str}{i:Nat}(h:z.cps[i]? =↑c):z.cps.toList[i]? =↑c:=by simpa using h
theorem wU{k:Nat}(e:a.kind= .function)(d:∀x∈a.names,x.2= .local->a.names.lookup x.1=some .local)(c:∀x∈a.names,x.2≠ .cell)(free:∀x∈a.names,x.2= .free->x.1∈([y,z]:Α))(h1:X.N[j]? =↑y)(h:X.env.kindOf y=some .cell)(o:(relabel a X.env).names.lookup y=some .cell)(n:X.N[k]? =↑z)(m:X.env.kindOf z=some .cell)(l:(relabel a X.env).names.lookup z=some .cell):Ma X a [y,z] [j,k]:=
 ⟨e,d,c,free,Z,λi p y' f g=>by
  match i with
  |0=>cases f;cases g;exact⟨h1,h,o⟩
  |1=>cases f;cases g;exact⟨n,m,l⟩
  |i+2=>simp at f⟩
theorem xg{X:Cx}{y z:Str}{c d:Δ}(h:X.env.cells.lookup y=↑c)(g:X.env.cells.lookup z=↑d):∀u e,([(y,c),(z,d)]:List (Str×Δ)).lookup u=↑e->X.env.cells.lookup u=↑e:=λu e a=>by
 by_cases f:u=y
 .subst f
  simp at a
  rw[<- a];exact h
 .by_cases i:u=z
  .subst i
   simp [Fp,show(u==y)=false from by simpa using f]at a
   rw[<- a];exact g
  .simp [Fp,show(u==y)=false from by simpa using f,show(u==z)=false from by simpa using i]at a
end L3
namespace L3
open PySem PySem.Spec PyProof.Rows L2
open Sem (wp)
section
variable{prog:Ξ}{w:Ω}{A:Around}{E:HD}{s:Θ}
theorem kC{it t:Δ}{items:Array Γ}(g:t≠it):∀(n i:Nat) (s:Θ) (Q:Ζ->Θ->Prop),s.heap.IsListIter it t i->s.heap.IsList t items->i+n<=items.size->
  (∀h',h'.IsListIter it t (i+n)->Ψ.SameBut it s.heap h'->Q ((items.toList.drop i).take n) {s with heap:=h'})->ε (model prog w) A (draw (-it) n) Q E s
 |0,i,s,Q,hit,_,_,hQ=>by
  show ε _ _ (pure []) Q E s
  refine Ji ?_
  have:=hQ s.heap hit (Ψ.SameBut.refl ..)
  simpa using this
 |n+1,i,s,Q,hit,ht,hle,hQ=>by
  have l:i<items.size:=by lia
  show ε _ _ (pyNext (-it) >>= _) Q E s
  refine Ja (wpAny_pyNext_list_item hit ht (x:=items[i]) (by simp [l]) λj c a=>?_)
  have m:(Θ.heap {s with heap:=j}).IsList t items:=let⟨o,e,r⟩:=ht;#[o,a.extBut _ _ g e,r]
  refine Ja (J5 (kC g n (i+1) _ _ c m (by lia) λh d f=>Ji ?_))
  have p:items.toList.drop i=items[i]::items.toList.drop (i+1):=by simp [List.drop_eq_getElem_cons,l]
  have z:=hQ h (by rw[show i+(n+1)=i+1+n by lia];exact d) (a.trans f)
  rw[p,List.take_succ_cons]at z;exact z
theorem p7{t:Δ}{items:Array Γ}{a:List (Bool×(Γ->Sem Unit))}{Q:Unit->Θ->Prop}(u:A.handled=none)(j:s.heap.IsList t items)
  (hn:a.length=items.size)(i:a.findIdx? (·.1)=none)
  (h:∀h',Ψ.ExtBut s.heap.objs.size s.heap h'->ε (model prog w) A (assignInOrder (a.map (·.2)) items.toList) Q E {s with heap:=h'}):
  ε (model prog w) A (unpack (-t) a) Q E s:=by
 have p:t≠s.heap.objs.size:=by let#[o,v,_]:=j;exact Jx (Jl v)
 unfold unpack;rw[hn,i];refine Ja (J5 ?_)
 unfold unpackItems;refine Ja ?_
 unfold notIterableAtAll;refine Ja (Gv j.typeIs F.slot_list_iter.lookup ?_)
 refine Ji ?_
 simp only[Bool.false_eq_true,Gi];refine Ja (J5 (GC j ?_))
 refine Ja (J5 (kC p items.size 0 _ _ #[_,Ju _ Z,12] (j.push _) (by lia) λn d c=>?_))
 have m:List.take items.size (List.drop 0 items.toList)=items.toList:=by
  rw[List.drop_zero];exact IL (by simp)
 rw[m];rw[Jc (by simp)]
 have g:n.IsList t items:=let⟨o,e,r⟩:=j.push _;#[o,c.extBut _ _ p e,r]
 refine Ja (J5 (wpAny_pyNext_list_end u d g (by simp) λl f=>?_))
 simp only[Option.isSome_none,Bool.false_eq_true,Gi];exact Ji (h l λb o q e=>f b o q (c.extBut b o q (Jj _ e)))
end
section
inductive PR (K:ι) (n:Nat) (t:cW) (v:V) (σ:L2.St) (H:Hp) (Q:L2.St->Hp->Prop):Prop
 |mk (a:_) (xs:_) (h1:v= .ref a) (h2:Sq K H a xs) (h3:xs.length=n) (h4:t xs σ H Q)
theorem Cu{es:Ι}{k:Nat}{t:cW}{n:Nat}(hc:X.calm=true)(h:CI X es t)
  (hn:(assignEach es X.env).length=n:=by rfl)(hst:(assignEach es X.env).findIdx? (·.1)=none:=by rfl):PG X (.Tuple es k pos) (PR X.K n t):=by
 intro tx s σ H v u Q I r d;let#[a,xs,g,c,i,d]:=d;rcases c with c|c
 .subst g
  cases r;let#[m,f,l,q]:=I.list c;rw[assign_Tuple];refine Ja (FN (p7 (I.ok.hd hc) l.isList (by simp [hn,<- i,f.length]) hst λh' j=>?_))
  have p:L2.HL X tx σ H {s with heap:=h'}:=I.kept (t':=s.toks) λb o e=>j b o (Jx (Jl e)) e
  exact h tx _ σ H xs _ Q p (by simpa using f) d
 .exact pV hc h hn hst tx s σ H v u Q I r #[a,xs,g,c,i,d]
theorem cO{k:Nat}(hc:X.calm=true)(h:Pt X es t)(hn:(assignEach es X.env).length=n:=by rfl)(hst:(assignEach es X.env).findIdx? (·.1)=none:=by rfl):QG X (.Tuple es k pos) (PR X.K n t):=#[Cu hc h.h hn hst]
end
end L3
namespace L3
open PySem PySem.Spec PyProof.Rows L2
noncomputable def b9(c d:Int):Ε:=[c%16,c/16%16,c/256,d]
noncomputable def cu(c d:Int):Ε:=b9 c d++[(b9 c d).sum%16]
noncomputable def mM(t ks:Ε)(z:Str):Ε:=Zt t ks (eK (Z1 z.cps.toList))
noncomputable def cg(t ks:Ε)(z:Str)(c d:Int):Ε:=Zt t (mM t ks z) (cu c d)
noncomputable def oE(r:Ε):Option (Int×Int):=if r.getD 4 0=(r.getD 0 0+r.getD 1 0+r.getD 2 0+r.getD 3 0)%16 then ↑(r.getD 0 0+r.getD 1 0*16+r.getD 2 0*256,r.getD 3 0)else none
noncomputable def aT(t ks:Ε)(z:Str)(ds:Ε):Option (Int×Int):=oE (Z4 (Qr t) (mM t ks z) ds)
theorem gv(c d:Int):(cu c d).length=5:=Z
theorem yq(c d:Int):(b9 c d).sum=c%16+c/16%16+c/256+d:=by simp [b9];lia
theorem jJ{c d:Int}(f:0<=c)(h1:c<4096)(e:ZJ d):Qn (cu c d):=λx a=>by
 simp only[cu,b9,List.cons_append,Il,Jh,Jr,Js]at a;rcases a with rfl|rfl|rfl|rfl|rfl
 .exact cw _
 .exact cw _
 .exact#[by lia,by lia]
 .exact e
 .exact cw _
theorem vF(a:0<=c)(h1:c<4096):oE (cu c d)=↑(c,d):=by
 have e:(cu c d)=[c%16,c/16%16,c/256,d,(c%16+c/16%16+c/256+d)%16]:=by unfold cu;rw[yq];rfl
 unfold oE;rw[e]
 show(if(c%16+c/16%16+c/256+d)%16=(c%16+c/16%16+c/256+d)%16 then ↑(c%16+c/16%16*16+c/256*256,d)else none)=_
 rw[Jd Z,show c%16+c/16%16*16+c/256*256=c by lia]
theorem BQ(f:r.length=5):∃a b c d e:Int,r=[a,b,c,d,e]:=by
 match r,f with
 | [a,b,c,d,e],_=>exact#[a,b,c,d,e,Z]
theorem we(t ks:Ε)(z:Str)(c d:Int):(cg t ks z c d).length=5:=by unfold cg;rw[fX,gv]
theorem yn{t ks:Ε}(p:t.Perm Lv){z:Str}{c d:Int}(e:0<=c)(h1:c<4096)(a:ZJ d):Qn (cg t ks z c d):=rO p (jJ e h1 a)
theorem ww(p:t.Perm Lv)(a:0<=c)(h1:c<4096)(e:ZJ d):aT t ks z (cg t ks z c d)=↑(c,d):=by
 unfold aT cg;rw[rN p (jJ a h1 e) (by rw[gv];decide),vF a h1]
noncomputable def ir(H:Hp)(x:V):Option (Int×Int)->Prop
 |none=>x= .non
 |some (c,d)=>∃p,x= .ref p/\H p=↑(.tup [.int c,.int d])
inductive PU (vs:Β) (H:Hp) (Q:VK) (_3:XK):Prop
 |mk (c:Int) (h1:vs=[.int c]) (h2:∀p H',HG H H'->H' p=↑(.tup [.int (c%16),.int (c/16%16),.int (c/256)])->Q (-p) H')
inductive OB (K:ι) (vs:Β) (H:Hp) (Q:VK) (_3:XK):Prop
 |mk (a b:Δ) (z:Str) (age c d:Int) (t ks:Ε) (h1:vs=[-a,-b,.str z,.int age,.int c,.int d]) (h2:Sq K H a (t.map V.int)) (h3:Sq K H b (ks.map V.int)) (h4:ZE z) (h5:t.length=16) (h6:0<=c) (h7:c<4096) (h8:ZJ d) (h9:∀p pc H',HG H H'->H' p=↑(.tup [.str z,.int age,-pc])->H' pc=↑(.tup ((cg t ks z c d).map V.int))->Q (-p) H')
inductive Os (K:ι) (vs:Β) (H:Hp) (Q:VK) (_3:XK):Prop
 |mk (a b pr pc:Δ) (z:Str) (age:Int) (t ks ds:Ε) (h1:vs=[-a,-b,-pr]) (h2:Sq K H a (t.map V.int)) (h3:Sq K H b (ks.map V.int)) (h4:Sq K H pr [.str z,.int age,-pc]) (h5:Sq K H pc (ds.map V.int)) (h6:ZE z) (h7:t.Perm Lv) (h8:ds.length=5) (h9:Qn ds) (h10:∀x H',HG H H'->ir H' x (aT t ks z ds)->Q x H')
theorem v5{b:Φ}{pt:Pos}{kt k2 pt2}(hc:X.calm=true)(g:X.N.Nodup)(hi:X.N[i]? =↑x)(f:X.N[j]? =↑y)(e:i≠j)(h:X.env.scope.names.lookup x=some .local)(m:X.env.scope.names.lookup y=some .local)(ha:QA X [a,b] ta)(l:swappedStores [.Tuple [.Name x c,.Name y d] kt pt] (.Tuple [a,b] k2 pt2) X.env=pure (some [x,y]):=by rfl)(hs:swapsWithSole [.Tuple [.Name x c,.Name y d] kt pt] (.Tuple [a,b] k2 pt2) pos.line X.env=pure false:=by rfl):
  QS X (.Assign [.Tuple [.Name x c,.Name y d] kt pt] (.Tuple [a,b] k2 pt2) pos) (CA i j ta):=⟨Do hc g hi f e h m ha.h l hs⟩
def Qm(K:ι)(H:Hp)(a:Δ)(f:Str)(v:V):Prop:=∃C dx fs,H a=↑(.ins C dx fs)/\N5 K C/\HU K C f/\fs.lookup f=↑v
def bR(K:ι)(H:Hp)(a:Δ)(f:Str)(v:V)(H':Hp):Prop:=∃C dx fs,H a=↑(.ins C dx fs)/\N5 K C/\HU K C f/\fs.length<1000/\H'=HI H a (.ins C dx (Q2 f v fs))
def vb(C:Δ)(H:Hp)(a:Δ)(m:Str):Prop:=∃dx fs,H a=↑(.ins C dx fs)/\fs.lookup m=none
noncomputable def AA(K:ι)(ta:TE)(f:Str):TE:=λσ H Q=>ta σ H λx H1=>∃a v,x= .ref a/\Qm K H1 a f v/\Q v H1
noncomputable def DV(K:ι)(ta tv:TE)(f:Str):TS:=λD σ H=>tv σ H λy H1=>ta σ H1 λx c=>∃a H3,x= .ref a/\bR K c a f y H3/\D.nx σ H3
noncomputable def Ap(K:ι)(ta tv:TE)(rd:V->V->Hp->VK->Prop)(f:Str):TS:=λD σ H=>ta σ H λx H1=>∃a v,x= .ref a/\Qm K H1 a f v/\
 tv σ H1 λy d=>rd v y d λz H3=>(∀o,H1 a=↑o->H3 a=↑o)/\∃c,bR K H3 a f z c/\D.nx σ c
noncomputable def vZ(C:Δ)(m:Str)(sp:Sp)(ta:TE)(t:TA):TE:=λσ H Q=>ta σ H λx H1=>∃a,x= .ref a/\vb C H1 a m/\t σ H1 λc d=>sp (x::(c++[])) d Q E0
section
theorem qA(g:QE X e ta)(hb:attributeBase e f X.env (eval e X.env)=eval e X.env:=by rfl):QE X (.Attribute e f pos) (AA X.K ta f):=#[by
 intro tx s σ H Q I h;refine sU hb (qK (g.h tx s σ H _ I h) λu t o=>?_)
 let#[x,H1,m,d,a,v,ex,#[C,dx,fs,p,c,n,l],q]:=o;subst ex
 obtain rfl:u=Γ.ref a:=d
 exact kN m p c n l λw r j i=>#[v,H1,j,i,q]]
theorem zy(ha:QE X o ta)(d:QE X value tv)(hs:swapsWith value ↑(.Attribute o f pos') pos.line X.env=pure false:=by rfl):QS X (.Assign [.Attribute o f pos'] value pos) (DV X.K ta tv f):=#[by
 intro tx s σ H D I h;refine plainObj_wpAny_Assign_Attribute (qK (d.h tx s σ H _ I h) λu w ⟨y,H1,p,e,q⟩=>qK (ha.h tx w σ H1 _ p q) λt A r=>?_) hs
 let#[x,E,j,g,a,H3,ex,#[C,dx,fs,z,c,n,l,v],i]:=r;subst ex v
 obtain rfl:t=Γ.ref a:=g
 exact lJ j z c n l e λB m=>#[σ,_,m,i]]
theorem nu{rd:V->V->Hp->VK->Prop}(g:Di X i rd)(ha:QE X o ta)(j:QE X value tv):QS X (.AugAssign (.Attribute o f tpos) i value pos) (Ap X.K ta tv rd f):=#[by
 intro tx s σ H D I h;refine wpAny_AugAssign_AttributeAny (qK (ha.h tx s σ H _ I h) λK Y d=>?_)
 let#[x,H1,S,R,a,v,ex,#[C,dx,fs,E,c,n,l],q]:=d;subst ex
 obtain rfl:K=Γ.ref a:=R
 refine kN S E c n l λu P A G=>qK (j.h tx P σ H1 _ A q) λp Q ⟨y,J,L,w,F⟩=>qK (g tx Q σ J v y u p _ L G w F) λw4 s4 d=>?_
 let#[z,H3,B,r,_,H4,#[W,M,U,e,c',T,m,N],O]:=d;subst N;exact lJ B e c' T m r λs5 t=>#[σ,_,t,O]]
end
structure Mf(P:Ξ)(w:Ω)(K:ι)(mg:HE)(base:Ψ)(C:Δ)(m:Str)(ps:Α)(k:Nat)(sp:Sp):Prop where
 ex:∃(f:Δ) (fd:FuncData),Mj P w K mg base bY k f fd ps sp/\OW K C m f/\LL K fd ps []
structure Ly(K:ι)(C:Δ)(m Rg:Str)(st:δ)(ps:Α):Prop where
 ex:∃(f:Δ) (fd:FuncData),OU K m Rg st f fd/\OW K C m f/\LL K fd ps []
structure Mi(P:Ξ)(w:Ω)(K:ι)(mg:HE)(base:Ψ)(C:Δ)(x:Str)(ps:Α)(k:Nat)(sp:Sp):Prop where
 ex:∃(f:Δ) (fd:FuncData),Mj P w K mg base bY k f fd ps sp/\Mk K C f/\mg x=↑(-C)/\LL K fd ps []
section
variable{P:Ξ}{w:Ω}{K:ι}{mg:HE}{base:Ψ}{C:Δ}
theorem Ly.mq{st:δ}{k:Nat}{sp:Sp}(a:Ly K C m Rg st ps)(S:HH N ps (qm st))(c:∀(f:Δ) (cdv:Γ) (A:Around) (outer:Ο) (s:Θ) (H:Hp) (vs:Β) (Q:VK) (E:XK),Lb k (A.deeper (envOfC Rg (qm st) s.heap.objs.size f cdv))->sp vs H Q E->
   ∃t,On (QJ bY P w K mg base N Rg (qm st) f cdv A outer s H E).nox (Qi st) t/\t {nx:=λ_ H'=>Q .non H',rt:=Q} (Zl N vs) H)(d:∀vs H Q E,sp vs H Q E->vs.length=ps.length:=by intro vs H Q E h;first|(cases h;subst_vars;rfl)|((repeat first|let#[rfl,h]:=h|let#[_,h]:=h);all_goals rfl)):Mf P w K mg base C m ps (k+1) sp:=by
 let#[f,fd,F,m,bd]:=a.ex
 exact#[f,fd,F.ok S d (λcdv A outer s H vs Q E e h=>let⟨t,q1,q2⟩:=c f cdv A outer s H vs Q E e h;#[t,q1.h,q2]),m,bd]
theorem Mf.mi{k:Nat}{sp:Sp}(a:Mf P w K mg base C "__init__" ps k sp)(mk:W.makesIn K C=true)(d:W.keepIn K (-C)=true)(c:mg x=↑(-C)):Mi P w K mg base C x ps k sp:=
 let⟨f,fd,F,m,bd⟩:=a.ex;#[f,fd,F,#[mk,m.at_,m.fn,d],c,bd]
end
section
variable{k:Nat}{sp:Sp}
theorem zc(M:Mf X.prog X.w X.K X.mg X.base C m ps k sp)(c:N5 X.K C)(D:Lb k X.A)(w:QE X o ta)(ha:QA X (e::es) t)(hst:θ (e::es) X.env=(false,eval e X.env)::θ es X.env:=by rfl)(d:(backTo pos (θ es X.env)).any (·.1)=false:=by rfl)(p:eval (.Call (.Attribute o m apos) (e::es) [] pos) X.env=(do
   let n <- eval o X.env
   standAt apos.atName
   let(f,first) <- holding [n] (getMethod n m pl)
   callWith pos f first (backTo pos (θ (e::es) X.env)) (backToKw pos (keywordEach [] X.env))):=by rfl):
  QE X (.Call (.Attribute o m apos) (e::es) [] pos) (vZ C m sp ta t):=#[by
 let#[f,fd,F,g,E]:=M.ex;intro tx s σ H Q I h;refine Iu (pl:=pl) (qK (w.h tx s σ H _ I h) λu B A=>?_) p
 let#[x,H1,j,v,a,ex,#[dx,fs,z,l],q]:=A;subst ex
 obtain rfl:u=Γ.ref a:=v
 refine gp j z c g l ?_
 refine GG (first:=[-a]) (h₀:=X.base) I.ok.mod.kin g.kp (qK (ha.h pos tx B σ H1 _ j q) λus G ⟨vs,J,i,r,y⟩=>#[i.kIn,?_]) hst d
 exact kM (us:= .ref a::us) (vs:= .ref a::vs) F D E .nil lD i (.cons Z r) y]
theorem qW(M:Mf X.prog X.w X.K X.mg X.base C m ps k sp)(c:N5 X.K C)(t:Lb k X.A)(n:QE X o ta)(i:eval (.Call (.Attribute o m apos) [] [] pos) X.env=(do
   let g <- eval o X.env
   standAt apos.atName
   let(f,first) <- holding [g] (getMethod g m pl)
   callWith pos f first (backTo pos (θ [] X.env)) (backToKw pos (keywordEach [] X.env))):=by rfl):
  QE X (.Call (.Attribute o m apos) [] [] pos) (vZ C m sp ta CV):=#[by
 let#[f,fd,F,e,v]:=M.ex;intro tx s σ H Q I h;refine Iu (pl:=pl) (qK (n.h tx s σ H _ I h) λu w r=>?_) i
 let#[x,H1,d,j,a,ex,#[dx,fs,p,l],q]:=r;subst ex
 obtain rfl:u=Γ.ref a:=j
 refine gp d p c e l ?_
 exact W.callWith_K0 (first:=[-a]) d.kIn e.kp (kM (us:=[-a]) (vs:=[-a]) F t v .nil lD d (.cons Z .nil) q)]
theorem a9(M:Mi X.prog X.w X.K X.mg X.base C x ps k sp)(h:Lb (k+1) X.A)(ha:QA X (e::es) t)(hg:Gl X x:=by rfl)(a:(x==("__debug__":Str))=false:=by decide)
  (g:θ (e::es) X.env=(false,eval e X.env)::θ es X.env:=by rfl)(c:(backTo pos (θ es X.env)).any (·.1)=false:=by rfl):
  QE X (.Call (.Name x p) (e::es) [] pos) (AV C sp [] E0 t):=#[by
 let#[f,fd,F,mk,d,i]:=M.ex;exact BJ mk F h hg d i .nil lD ha.h a g c]
end
section
variable{X:Cx}{o:Φ}{to:TE}{name:Str}{apos cpos:Pos}{T id:String}{r:V->Β->Hp->VK->Prop}
theorem Dj(f:PlainAttrs T)(d:Slot T name id)(e:typeOf (.builtin id)=pure (.type "method_descriptor"))(hm:iK X id r)(ho:QE X o to)
  (c:attributeBase o name X.env (eval o X.env)=eval o X.env:=by rfl)(a:(apos.endLine==cpos.line)=true:=by rfl):QE X (.Call (.Attribute o name apos) [] [] cpos) (DC X.K T r to):=#[DL f d e hm ho.h c a]
theorem uj:iK X "list.reverse" re:=tX
end
theorem bD{f:Str}{v:V}:∀{fs:List (Str×V)} (i:Nat),fs[i]? =↑(f,v)->(fs.map (·.1)).Nodup->fs.lookup f=↑v
 | [],i,h,_=>by cases h
 |(g,x)::r,0,h,_=>by
  cases JF h
  exact IM
 |(g,x)::r,i+1,h,nd=>by
  have h':r[i]? =↑(f,v):=h
  have a:g∉r.map (·.1)/\(r.map (·.1)).Nodup:=J6.mp nd
  have c:f∈r.map (·.1):=JA.mpr #[(f,v),Jo h',Z]
  have ne:f≠g:=λz=>a.1 (z▸c)
  rw[Fp,F7 ne];exact bD i h' a.2
theorem dw{f:Str}:∀{fs:List (Str×V)},f∉fs.map (·.1)->fs.lookup f=none
 | [],_=>rfl
 |(g,x)::r,h=>by
  have ne:f≠g:=λz=>h (z▸Jy ..)
  rw[Fp,F7 ne];exact dw λz=>h (JD _ z)
theorem i5{f:Str}{v u:V}:∀{fs:List (Str×V)} (i:Nat),fs[i]? =↑(f,u)->(fs.map (·.1)).Nodup->Q2 f v fs=fs.set i (f,v)
 | [],i,h,_=>by cases h
 |(g,x)::r,0,h,_=>by
  cases JF h
  show(if f=f then _ else _)=_
  rw[Jd Z];rfl
 |(g,x)::r,i+1,h,nd=>by
  have h':r[i]? =↑(f,u):=h
  have a:g∉r.map (·.1)/\(r.map (·.1)).Nodup:=J6.mp nd
  have c:f∈r.map (·.1):=JA.mpr #[(f,u),Jo h',Z]
  have ne:¬g=f:=λz=>a.1 (z▸c)
  show(if g=f then _ else(g,x)::Q2 f v r)=_
  rw[Jc ne,i5 i h' a.2];rfl
theorem fO{f:Str}{v:V}:∀{fs:List (Str×V)},f∉fs.map (·.1)->Q2 f v fs=fs++[(f,v)]
 | [],_=>rfl
 |(g,x)::r,h=>by
  have ne:¬g=f:=λz=>h (z▸Jy ..)
  show(if g=f then _ else(g,x)::Q2 f v r)=_
  rw[Jc ne,fO λz=>h (JD _ z)];rfl
def Mv(S:Η)(H H':Hp):Prop:=∀c o,c∉S->H c=↑o->H' c=↑o
theorem Mv.refl{S:Η}{H:Hp}:Mv S H H:=λ_ _ _ e=>e
theorem Mv.trans{S:Η}{H H1 d:Hp}(a:Mv S H H1)(b:Mv S H1 d):Mv S H d:=λc o n e=>b c o n (a c o n e)
theorem Mv.mono{S S':Η}{H H':Hp}(a:Mv S H H')(h:∀c,c∉S'->c∉S):Mv S' H H':=λc o n e=>a c o (h c n) e
theorem _root_.L2.HG.mv{S:Η}{H H':Hp}(a:HG H H'):Mv S H H':=λc o _ e=>a c o e
theorem Mv.upd1{a:Δ}{H:Hp}{o:HO}:Mv [a] H (HI H a o):=λc u n e=>by
 rw[qk (λz=>n (Jg.mpr z))];exact e
theorem MB.mv{b:Δ}{n:Nat}{H H':Hp}(g:MB b n H H'):Mv [b] H H':=λc o h e=>g.kp c o (λz=>h (Jg.mpr z)) e
noncomputable def i7:HO->Prop
 | .tup _=>False
 | .frz _ (.dK _)=>True
 | .frz _ _=>False
 |_=>True
def NT(S:Η)(H:Hp):Prop:=∀c,c∈S->∃o,H c=↑o/\i7 o
theorem Mv.rd(m:Mv S H H')(n:NT S H)(h:Rd H a (.tup xs)):Rd H' a (.tup xs):=by
 have c:a∉S:=λz=>by
  let#[o,e,no]:=n a z;rcases h with h|⟨o',h⟩
  .rw[e]at h;cases h;exact no
  .rw[e]at h;cases h;exact no
 rcases h with h|⟨o',h⟩
 .exact .inl (m _ _ c h)
 .exact .inr #[o',m _ _ c h]
theorem Mv.sqt{K:ι}(m:Mv S H H')(n:NT S H)(h:HQ K H a xs):HQ K H' a xs:=by
 rcases h with h|h
 .exact .inl (m.rd n h)
 .exact .inr h
structure Bt where
 nm:Str
 t:Ε
 ks:Ε
 age:Int
 step:Int
 cnt:Int
 bnd:Int
 x:Λ
 y:Λ
noncomputable def oV:Λ->V
 |none=> .non
 |some i=> .int i
theorem DH{b:Λ}(h:oV a=oV b):a=b:=by
 cases a<;>cases b<;>simp [oV]at h⊢ <;>exact h
theorem Cg(a:Λ)(i:Int):yk (oV a) (.int i)=true:=by cases a<;>rfl
theorem DG(a:Λ)(i:Int):decide (oV a= .int i)=decide (a=↑i):=by
 rw[F0,F2,F2];constructor
 .intro h;exact DH (b:=↑i) h
 .intro h;rw[h];rfl
noncomputable def bF(B:Bt)(ta ka ce:Δ):List (Str×V):=
 [("name",.str B.nm),("table",-ta),("key",-ka),("age",.int B.age),("step",.int B.step),("next_count",.int B.cnt),("bound",.int B.bnd),("cells",-ce)]
noncomputable def bN:Α:=["name","table","key","age","step","next_count","bound","cells"]
theorem En:bN.Nodup:=by decide +kernel
theorem Bb(B:Bt)(ta ka ce:Δ):((bF B ta ka ce).map (·.1)).Nodup:=En
structure MD(K:ι)(C:Δ):Prop where
 cl:N5 K C
 n_name:HU K C "name"
 n_table:HU K C "table"
 n_key:HU K C "key"
 n_age:HU K C "age"
 n_step:HU K C "step"
 n_next_count:HU K C "next_count"
 n_bound:HU K C "bound"
 n_cells:HU K C "cells"
structure HM(K:ι)(C:Δ)(H:Hp)(p ta ka ce:Δ)(B:Bt):Prop where
 ob:∃dx,H p=↑(.ins C dx (bF B ta ka ce))
 tb:HQ K H ta (B.t.map V.int)
 ky:HQ K H ka (B.ks.map V.int)
 cs:H ce=↑(.lst [oV B.x,oV B.y])
section
variable{K:ι}{C:Δ}{H H':Hp}{p ta ka ce dx:Δ}{B:Bt}
theorem HM.has(b:HM K C H p ta ka ce B)(U:MD K C)(i:Nat)(h:(bF B ta ka ce)[i]? =↑(f,v))(n:HU K C f):Qm K H p f v:=by
 let#[dx,e]:=b.ob
 exact#[C,dx,_,e,U.cl,n,bD i h (Bb ..)]
theorem HM.h_name(b:HM K C H p ta ka ce B)(U:MD K C):Qm K H p "name" (.str B.nm):=b.has U 0 Z U.n_name
theorem HM.h_table(b:HM K C H p ta ka ce B)(U:MD K C):Qm K H p "table" (-ta):=b.has U 1 Z U.n_table
theorem HM.h_key(b:HM K C H p ta ka ce B)(U:MD K C):Qm K H p "key" (-ka):=b.has U 2 Z U.n_key
theorem HM.h_age(b:HM K C H p ta ka ce B)(U:MD K C):Qm K H p "age" (.int B.age):=b.has U 3 Z U.n_age
theorem HM.h_step(b:HM K C H p ta ka ce B)(U:MD K C):Qm K H p "step" (.int B.step):=b.has U 4 Z U.n_step
theorem HM.h_next_count(b:HM K C H p ta ka ce B)(U:MD K C):Qm K H p "next_count" (.int B.cnt):=b.has U 5 Z U.n_next_count
theorem HM.h_bound(b:HM K C H p ta ka ce B)(U:MD K C):Qm K H p "bound" (.int B.bnd):=b.has U 6 Z U.n_bound
theorem HM.h_cells(b:HM K C H p ta ka ce B)(U:MD K C):Qm K H p "cells" (-ce):=b.has U 7 Z U.n_cells
theorem HM.no(b:HM K C H p ta ka ce B)(h:m∉bN:=by decide +kernel):vb C H p m:=by
 let#[dx,e]:=b.ob
 exact#[dx,_,e,dw h]
theorem HM.ne(b:HM K C H p ta ka ce B):p≠ce:=by
 let#[dx,e]:=b.ob;exact zr e b.cs (by intro z;cases z)
theorem HM.nt(b:HM K C H p ta ka ce B):NT [p,ce] H:=λc a=>by
 let#[dx,e]:=b.ob;simp only[Jh,Jr,Js]at a;rcases a with rfl|rfl
 .exact#[_,e,trivial]
 .exact#[_,b.cs,trivial]
theorem HM.put(U:MD K C)(e:H p=↑(.ins C dx (bF B ta ka ce)))(i:Nat)(v:V)(h:(bF B ta ka ce)[i]? =↑(f,u))(n:HU K C f):
  bR K H p f v (HI H p (.ins C dx ((bF B ta ka ce).set i (f,v)))):=#[C,dx,_,e,U.cl,n,by show 8<1000;decide,by rw[i5 i h (Bb ..)]]
theorem HM.to(b:HM K C H p ta ka ce B)(m:Mv [p,ce] H H')(a:B'.t=B.t)(hk:B'.ks=B.ks)(e:H' p=↑(.ins C dx (bF B' ta ka ce)))(c:H' ce=↑(.lst [oV B'.x,oV B'.y])):HM K C H' p ta ka ce B':=
 #[#[dx,e],by rw[a];exact m.sqt b.nt b.tb,by rw[hk];exact m.sqt b.nt b.ky,c]
theorem HM.mv(b:HM K C H p ta ka ce B)(m:Mv S H H')(n:NT S H)(hp:p∉S)(hc:ce∉S):HM K C H' p ta ka ce B:=by
 let#[dx,e]:=b.ob
 exact#[#[dx,m _ _ hp e],m.sqt n b.tb,m.sqt n b.ky,m _ _ hc b.cs]
theorem HM.same(b:HM K C H p ta ka ce B)(s:HG H H'):HM K C H' p ta ka ce B:=b.mv (S:=[]) s.mv (λc h=>nomatch h) (λh=>nomatch h) (λh=>nomatch h)
end
noncomputable def Bt.sp(B:Bt):Int:=if B.x=↑B.bnd then 1 else 0
noncomputable def Bt.nb(B:Bt):Int:=if 4096<B.bnd+B.step then 4096 else B.bnd+B.step
noncomputable def Bt.wr(B:Bt):Bt:=if B.x=↑B.bnd then{B with bnd:=B.nb,y:=↑B.nb}else{B with bnd:=B.nb,x:=↑B.nb}
noncomputable def Bt.mw(B:Bt):Bool:=decide (B.cnt=B.bnd)&& ! decide (4096<=B.cnt)
noncomputable def Bt.pr(B:Bt):Bt:=if B.mw then{B.wr with cnt:=B.cnt+1}else{B with cnt:=B.cnt+1}
theorem Bc(B:Bt):B.wr.nm=B.nm:=by unfold Bt.wr;split<;>rfl
theorem C6(B:Bt):B.wr.t=B.t:=by unfold Bt.wr;split<;>rfl
theorem AZ(B:Bt):B.wr.ks=B.ks:=by unfold Bt.wr;split<;>rfl
theorem wg(B:Bt):B.wr.age=B.age:=by unfold Bt.wr;split<;>rfl
theorem vH(B:Bt):B.wr.cnt=B.cnt:=by unfold Bt.wr;split<;>rfl
theorem Z2(B:Bt):B.pr.nm=B.nm:=by unfold Bt.pr;split<;>first|exact Bc B|rfl
theorem ET(B:Bt):B.pr.t=B.t:=by unfold Bt.pr;split<;>first|exact C6 B|rfl
theorem Ek(B:Bt):B.pr.ks=B.ks:=by unfold Bt.pr;split<;>first|exact AZ B|rfl
theorem aL(B:Bt):B.pr.age=B.age:=by unfold Bt.pr;split<;>first|exact wg B|rfl
theorem aR(B:Bt):B.pr.cnt=B.cnt+1:=by unfold Bt.pr;split<;>rfl
section
variable(K:ι)(C:Δ)
inductive NP (vs:Β) (H:Hp) (Q:VK) (_3:XK):Prop
 |mk (p a b dx:Δ) (nm:Str) (age step:Int) (t ks:Ε) (h1:vs=[-p,.str nm,-a,-b,.int age,.int step]) (h2:H p=↑(.ins C dx [])) (h3:Sq K H a (t.map V.int)) (h4:Sq K H b (ks.map V.int)) (h5:∀ta ka ce H',H ce=none->Mv [p] H H'->HM K C H' p ta ka ce ⟨nm,t,ks,age,step,0,0,↑0,none⟩->Q .non H')
inductive NQ (vs:Β) (H:Hp) (Q:VK) (_3:XK):Prop
 |mk (p ta ka ce:Δ) (B:Bt) (h1:vs=[-p]) (h2:HM K C H p ta ka ce B) (h3:Q (.bl (decide (4096<=B.cnt))) H)
inductive OC (vs:Β) (H:Hp) (Q:VK) (_3:XK):Prop
 |mk (p ta ka ce:Δ) (B:Bt) (h1:vs=[-p]) (h2:HM K C H p ta ka ce B) (h3:Q (.bl B.mw) H)
inductive N8 (vs:Β) (H:Hp) (Q:VK) (_3:XK):Prop
 |mk (p ta ka ce:Δ) (B:Bt) (h1:vs=[-p]) (h2:HM K C H p ta ka ce B) (h3:Q (.int B.sp) H)
inductive N9 (vs:Β) (H:Hp) (Q:VK) (_3:XK):Prop
 |mk (p ta ka ce:Δ) (B:Bt) (h1:vs=[-p]) (h2:HM K C H p ta ka ce B) (h3:∀H',Mv [p,ce] H H'->HM K C H' p ta ka ce B.wr->Q .non H')
inductive M9 (vs:Β) (H:Hp) (Q:VK) (_3:XK):Prop
 |mk (p ta ka ce:Δ) (B:Bt) (d:Int) (h1:vs=[-p,.int d]) (h2:HM K C H p ta ka ce B) (h3:ZE B.nm) (h4:B.t.length=16) (h5:0<=B.cnt) (h6:B.cnt<4096) (h7:ZJ d) (h8:∀q pc H',Mv [p,ce] H H'->HM K C H' p ta ka ce B.pr->H' q=↑(.tup [.str B.nm,.int B.age,-pc])->H' pc=↑(.tup ((cg B.t B.ks B.nm B.cnt d).map V.int))->Q (-q) H')
inductive OD (vs:Β) (H:Hp) (Q:VK) (_3:XK):Prop
 |mk (p ta ka ce:Δ) (B:Bt) (h1:vs=[-p]) (h2:HM K C H p ta ka ce B) (h3:Q (.str B.nm) H)
inductive ME (vs:Β) (H:Hp) (Q:VK) (_3:XK):Prop
 |mk (p ta ka ce:Δ) (B:Bt) (h1:vs=[-p]) (h2:HM K C H p ta ka ce B) (h3:Q (.int B.age) H)
inductive L4 (vs:Β) (H:Hp) (Q:VK) (_3:XK):Prop
 |mk (p ta ka ce:Δ) (B:Bt) (h1:vs=[-p]) (h2:HM K C H p ta ka ce B) (h3:Q (.int B.cnt) H)
inductive Na (vs:Β) (H:Hp) (Q:VK) (_3:XK):Prop
 |mk (p ta ka ce:Δ) (B:Bt) (h1:vs=[-p]) (h2:HM K C H p ta ka ce B) (h3:∀q H',HG H H'->H' q=↑(.tup [oV B.x,oV B.y])->Q (-q) H')
end
inductive Oa (vs:Β) (H:Hp) (Q:VK) (_3:XK):Prop
 |mk (b:Δ) (c:Nat) (h1:vs=[-b]) (h2:LY H b c) (h3:c<100000000) (h4:∀p (t:Ε) H',MB b (c+16) H H'->H p=none->H' p=↑(.tup (t.map V.int))->t.Perm Lv->Q (-p) H')
theorem MB.fresh{b:Δ}(g:MB b n H H')(hb:LY H b n)(h:H' c=Option.none):H c=Option.none:=by
 cases e:H c with
 |none=>rfl
 |some o=>
  by_cases z:c=b
  .subst z
   let#[_,_,_,a,_]:=g.bx;rw[a]at h;cases h
  .rw[g.kp c o z e]at h;cases h
theorem aq{K:ι}{fs:List (Str×V)}(c:N5 K C)(e:H p=↑(.ins C dx fs))(n:HU K C f)(i:Nat)(a:fs.map (·.1)=bN.take i:=by rfl)(hn:f∉bN.take i:=by decide +kernel):
  bR K H p f v (HI H p (.ins C dx (fs++[(f,v)]))):=#[C,dx,fs,e,c,n,by
  have h1:fs.length=(bN.take i).length:=by rw[<- a,Jb]
  have d:(bN.take i).length<=8:=by rw[Fv];exact Ig _ _
  omega,by rw[fO (by rw[a];exact hn)]]
theorem yo{K:ι}{Q:VK}(h:Sq K H a xs)(q:∀l H',HG H H'->HQ K H' l xs->Q (-l) H'):(HP K H a xs/\∀l,H l=none->Q (-l) (HI H l (.tup xs)))\/(HQ K H a xs/\Q (-a) H):=
 h.elim (λh=> .inl #[h,λl c=>q l _ (HG.upd c) (HQ.of qb)]) λh=> .inr #[h,q a H (HG.refl _) h]
theorem rG{K:ι}{fs:List (Str×V)}(e:H p=↑(.ins C dx fs))(h:Sq K H a xs):Sq K (HI H p o) a xs:=by
 rcases h with(h|h)|(h|h)
 .refine .inl (.inl ?_)
  rcases h with h|⟨u,h⟩
  .exact .inl (by rw[qk (zr h e (by intro z;cases z))];exact h)
  .exact .inr #[u,by rw[qk (zr h e (by intro z;cases z))];exact h]
 .exact .inl (.inr h)
 .refine .inr (.inl ?_)
  rcases h with h|⟨u,h⟩
  .exact .inl (by rw[qk (zr h e (by intro z;cases z))];exact h)
  .exact .inr #[u,by rw[qk (zr h e (by intro z;cases z))];exact h]
 .exact .inr (.inr h)
theorem Qd{K:ι}{fs:List (Str×V)}(e:H p=↑(.ins C dx fs))(h:HQ K H a xs):HQ K (HI H p o) a xs:=by
 rcases h with(h|⟨u,h⟩)|h
 .exact .inl (.inl (by rw[qk (zr h e (by intro z;cases z))];exact h))
 .exact .inl (.inr #[u,by rw[qk (zr h e (by intro z;cases z))];exact h])
 .exact .inr h
theorem Ze{X:Cx}:Qh X (.type "tuple") (λxs H Q=>∃p ys,xs=[-p]/\Sq X.K H p ys/\∀l H',HG H H'->HQ X.K H' l ys->Q (-l) H'):=by
 intro tx s σ H xs a Q I r h;let#[p,ys,e,c,q]:=h;exact zf tx s σ H xs a Q I r #[p,ys,e,yo c q]
section
variable{b:Δ}{n:Nat}
theorem zv{a x:Δ}(h:a≠x):a∉[x]:=λz=>h (Jg.mp z)
theorem bq(hb:LY H b n):NT [b] H:=λc a=>by
 let#[_,_,_,e,_]:=hb;rw[Jg.mp a]
 exact#[_,e,trivial]
end
theorem HG.mv_of{H H1 a:Hp}{S:Η}(s:HG H H1)(m:Mv S H1 a)(h:∀c∈S,H c=none):HG H a:=λc o e=>m c o (λz=>qu e (h c z) Z) (s c o e)
theorem oz(n:Nat)(h:n<=100:=by omega):n<ζ:=Nat.lt_of_le_of_lt h ⋯
theorem NT.one{H:Hp}{a:Δ}{o:HO}(e:H a=↑o)(n:i7 o):NT [a] H:=λc d=>#[o,by rw[Jg.mp d];exact e,n]
end L3
namespace L2
open PySem PySem.Spec PyProof.Rows
section
variable{κ:Type}[DecidableEq κ]
noncomputable def QQ(kvs:List (κ×V))(k:κ):Ρ:=(kvs.find? λa=>decide (a.1=k)).map (·.2)
noncomputable def LQ(kvs:List (κ×V))(k:κ)(v:V):List (κ×V):=
 if(kvs.any λa=>decide (a.1=k))=true then kvs.map (λa=>if a.1=k then(a.1,v)else a)else kvs++[(k,v)]
noncomputable def c8(kvs:List (κ×V))(k:κ):List (κ×V):=kvs.filter λa=>decide (a.1≠k)
theorem cG{k:κ}(e:p.1=k):QQ (p::r) k=↑p.2:=by simp [QQ,Gz,e]
theorem cL{k:κ}(e:¬p.1=k):QQ (p::r) k=QQ r k:=by simp [QQ,Gz,e]
theorem rP(k:κ):∀kvs:List (κ×V),(kvs.any λa=>decide (a.1=k))=(QQ kvs k).isSome
 | []=>rfl
 |p::r=>by
  rw[Gj]
  by_cases e:p.1=k
  .simp only[cG e,Je e,Bool.true_or,Option.isSome_some]
  .rw[cL e,Jm e,Bool.false_or];exact rP k r
theorem eQ(kvs:List (κ×V))(k:κ)(v:V):(LQ kvs k v).length<=kvs.length+1:=by
 unfold LQ;split
 .rw[Jb];lia
 .rw[Jq,J7,List.length_nil];lia
theorem LX.isSome_eq(r:LX o u):o.isSome=u.isSome:=by
 cases o with
 |none=>cases u with
  |none=>rfl
  |some _=>exact(show False from r).elim
 |some _=>cases u with
  |none=>exact(show False from r).elim
  |some _=>rfl
theorem LX.getD(r:LX o u)(rd:HN d d'):HN (o.getD d) (u.getD d'):=by
 cases o with
 |none=>cases u with
  |none=>exact rd
  |some _=>exact(show False from r).elim
 |some _=>cases u with
  |none=>exact(show False from r).elim
  |some _=>exact r
theorem KV.val(r:KV kvs vs)(k:κ):LX (QQ kvs k) (valueAt vs k):=by
 unfold KV at r
 induction r with
 |nil=>exact True.intro
 | @cons p q ps qs h t ih=>
  let#[h1,c]:=h
  by_cases e:p.1=k
  .have a:q.1=k:=h1.symm.trans e
   have b:valueAt (q::qs) k=↑q.2:=by simp [valueAt,Gz,a]
   rw[cG e,b];exact c
  .have a:¬q.1=k:=λz=>e (h1.trans z)
   have b:valueAt (q::qs) k=valueAt qs k:=by simp [valueAt,Gz,a]
   rw[cL e,b];exact ih
theorem KV.any(r:KV kvs vs)(k:κ):(kvs.any λa=>decide (a.1=k))=vs.any λa=>decide (a.1=k):=by
 unfold KV at r
 induction r with
 |nil=>rfl
 |cons h t ih=>rw[Gj,Gj,ih,h.1]
theorem KV.repl(r:KV kvs vs)(k:κ)(c:HN y u):
  KV (kvs.map λa=>if a.1=k then(a.1,y)else a) (vs.map λa=>if a.1=k then(a.1,u)else a):=by
 unfold KV at r⊢
 induction r with
 |nil=>exact .nil
 | @cons p q ps qs h t ih=>
  rw[JW,JW];refine .cons ?_ ih
  let#[h1,d]:=h
  by_cases e:p.1=k
  .rw[Jd e,Jd (h1.symm.trans e)];exact#[h1,c]
  .rw[Jc e,Jc (λz=>e (h1.trans z))];exact#[h1,d]
theorem KV.put(r:KV kvs vs)(k:κ)(a:HN y u):KV (LQ kvs k y) (stored vs k u):=by
 unfold LQ stored;rw[r.any k]
 by_cases e:(vs.any λc=>decide (c.1=k))=true
 .rw[Jd e,Jd e];exact r.repl k a
 .rw[Jc e,Jc e];exact Paired.snoc r #[Z,a]
theorem KV.drop(r:KV kvs vs)(k:κ):KV (c8 kvs k) (without vs k):=by
 unfold KV at r⊢;unfold c8 without
 induction r with
 |nil=>exact .nil
 | @cons p q ps qs h t ih=>
  let#[h1,c]:=h;rw[List.filter_cons,List.filter_cons]
  by_cases e:p.1=k
  .have a:¬decide (p.1≠k)=true:=by simp [e]
   have b:¬decide (q.1≠k)=true:=by simp [h1.symm.trans e]
   rw[Jc a,Jc b];exact ih
  .have d:¬q.1=k:=λz=>e (h1.trans z)
   have a:decide (p.1≠k)=true:=by simp [e]
   have b:decide (q.1≠k)=true:=by simp [d]
   rw[Jd a,Jd b];exact .cons #[h1,c] ih
theorem KV.keys{vs:List (κ×Γ)}(r:KV kvs vs):kvs.map (·.1)=vs.map (·.1):=by
 unfold KV at r
 induction r with
 |nil=>rfl
 |cons h t ih=>rw[JW,JW,ih,h.1]
theorem KV.length{vs:List (κ×Γ)}(r:KV kvs vs):kvs.length=vs.length:=Paired.length r
theorem Ay(kvs:List (κ×V))(k:κ):(c8 kvs k).length<=kvs.length:=List.length_filter_le _ _
end
theorem dc{k:qR}(r:HN (kV k) u):(zj P w).is k u=true:=by
 cases k with
 |inl i=>let#[t,e]:=(show∃t,u=Γ.int i t from r);subst e;exact sA P w i t
 |inr x=>let#[t,e]:=(show∃t,u=Γ.str x t from r);subst e;exact sD P w x t
theorem mV{P:Ξ}{w:Ω}:∀{ks:List qR} {us:Ζ},HR (ks.map kV) us->ItemsAre (zj P w) ks us
 | [],_,r=>by rw[List.map_nil]at r;cases r;exact .nil
 |k::ks,_,r=>by
  rw[JW]at r;cases r with
  |cons h t=>exact .cons (dc h) (mV t)
abbrev KT(H:Hp):List (List qR×V)->List (List qR×Δ×Γ)->Prop:=Paired λp q=>p.1=q.1/\H q.2.1=↑(.tup (p.1.map kV))/\HN p.2 q.2.2
theorem KT.val(r:KT H kvs xs)(k:List qR):LX (QQ kvs k) ((atKey xs k).map (·.2)):=by
 induction r with
 |nil=>exact True.intro
 | @cons p q ps qs h t ih=>
  let#[h1,_,c]:=h
  by_cases e:p.1=k
  .have a:q.1=k:=h1.symm.trans e
   have b:atKey (q::qs) k=↑q.2:=by simp [atKey,Gz,a]
   rw[cG e,b];exact c
  .have a:¬q.1=k:=λz=>e (h1.trans z)
   have b:atKey (q::qs) k=atKey qs k:=by simp [atKey,Gz,a]
   rw[cL e,b];exact ih
theorem KT.repl(r:KT H kvs xs)(k:List qR)(d:HN y u):
  KT H (kvs.map λa=>if a.1=k then(a.1,y)else a) (xs.map (putAt k u)):=by
 induction r with
 |nil=>exact .nil
 | @cons p q ps qs h t ih=>
  rw[JW,JW];refine .cons ?_ ih
  let#[h1,c,f]:=h;unfold putAt
  by_cases e:p.1=k
  .rw[Jd e,Jd (h1.symm.trans e)];exact#[h1,c,d]
  .rw[Jc e,Jc (λz=>e (h1.trans z))];exact#[h1,c,f]
theorem KT.put(r:KT H kvs xs)(k:List qR){b:Δ}(hb:H b=↑(.tup (k.map kV)))(a:HN y u):
  KT H (LQ kvs k y) (storedH xs k b u):=by
 have e:(kvs.any λc=>decide (c.1=k))=(atKey xs k).isSome:=by
  rw[rP,(r.val k).isSome_eq,IP]
 unfold LQ storedH;rw[e]
 by_cases q:(atKey xs k).isSome=true
 .rw[Jd q,Jd q];exact r.repl k a
 .rw[Jc q,Jc q];exact Paired.snoc r #[Z,hb,a]
theorem KT.keeps(r:KT H kvs xs)(a:∀b ys,H b=↑(.tup ys)->H' b=↑(.tup ys)):KT H' kvs xs:=
 Paired.mapP r λ_ _ z=>#[z.1,a _ _ z.2.1,z.2.2]
section
theorem AT(ok:LZ P w H h)(e:Rd H a u):HY P w H h a u:=e.ok ok
theorem cq(ok:LZ P w H h)(e:Rd H a (.dK kvs)):kvs.length<=ζ/\(a==sysModules)=false/\∃c,KV kvs c/\h.DictOf (zj P w) a c:=
 show HY P w H h a (.dK kvs)from AT ok e
theorem cm(ok:LZ P w H h)(e:H a=↑(.dK kvs)):kvs.length<=ζ/\(a==sysModules)=false/\∃c,KV kvs c/\h.DictOf (zj P w) a c:=cq ok (.inl e)
theorem fz(ok:LZ P w H h)(e:H a=↑(.tup (ks.map kV))):(tupleKind (zj P w)).is h ks a:=by
 let#[_,c,r,o,h1,d,n,f]:=(show HY P w H h a (.tup (ks.map kV))from ok a _ e)
 exact#[o,c.toArray,n,h1,d,f,by simpa using mV r]
theorem gh(ok:LZ P w H h)(e:Rd H a (.dT kvs)):kvs.length<=ζ/\(a==sysModules)=false/\
  ∃xs,KT H kvs xs/\h.DictOfH (tupleKind (zj P w)) a xs:=by
 let#[z,y,xs,r,o,es,i,h1,d,f,j,g]:=(show HY P w H h a (.dT kvs)from AT ok e)
 refine#[z,y,xs,r,o,es,i,h1,d,f,j,λx c=>?_,g]
 have all:∀{l:List (List qR×V)} {m:List (List qR×Δ×Γ)},KT H l m->∀x∈m,(tupleKind (zj P w)).is h x.1 x.2.1:=by
  intro l m q
  induction q with
  |nil=>intro x c;exact nomatch c
  | @cons p q ps qs hq t ih=>
   intro x c;rcases Jh.mp c with e|c
   .subst e
    exact fz ok (by rw[<- hq.1];exact hq.2.1)
   .exact ih x c
 exact all r x c
theorem DT(ok:LZ P w H h)(e:H a=↑(.dT kvs)):kvs.length<=ζ/\(a==sysModules)=false/\
  ∃xs,KT H kvs xs/\h.DictOfH (tupleKind (zj P w)) a xs:=gh ok (.inl e)
end
def Lg(H:Hp)(a:Δ)(y:V)(r:Ρ):Prop:=
 (∃kvs k,Rd H a (.dK kvs)/\y=kV k/\r=QQ kvs k)\/∃kvs k b,Rd H a (.dT kvs)/\y= .ref b/\H b=↑(.tup (k.map kV))/\r=QQ kvs k
def MO(H:Hp)(a:Δ)(y v:V)(H':Hp):Prop:=
 (∃kvs k,H a=↑(.dK kvs)/\y=kV k/\kvs.length<ζ/\H'=HI H a (.dK (LQ kvs k v)))\/
 ∃kvs k b,H a=↑(.dT kvs)/\y= .ref b/\H b=↑(.tup (k.map kV))/\kvs.length<ζ/\H'=HI H a (.dT (LQ kvs k v))
theorem Lg.k{k:qR}(e:H a=↑(.dK kvs)):Lg H a (kV k) (QQ kvs k):= .inl #[kvs,k,.inl e,12]
theorem MO.k{k:qR}(e:H a=↑(.dK kvs))(c:kvs.length<ζ):MO H a (kV k) v (HI H a (.dK (LQ kvs k v))):= .inl #[kvs,k,e,Z,c,Z]
section
theorem HL.big(I:HL X tx σ H s):sysModules<s.heap.objs.size:=by
 have h:η<s.heap.objs.size:=(I.mod.glob.keeps I.bk).lt
 exact Nat.lt_trans ⋯ h
theorem vh{Q:HD}(x:A.units+1<cLine)(I:HL X tx σ H s)(g:Lg H a y ↑v)(n:HN y u)(h:∀f s',HL X tx σ H s'->HN v f->Q f s'):
  ε (model X.prog X.w) A (getItem (-a) u) Q E s:=by
 rcases g with⟨kvs,k,e,m,l⟩|⟨kvs,k,b,e,m,r,l⟩
 .subst m
  let#[z,q,t,d,dd]:=cq I.hok e;let#[f,i,c]:=LX.some_of (v:=v) (o:=valueAt t k) (by rw[l];exact d.val k)
  exact wpAny_getItem_of (dc n) dd.mapOf i (h f _ (I.tok _) c)
 .subst m
  cases(show u=Γ.ref b from n)
  let#[z,q,xs,d,dd]:=gh I.hok e;let#[f,i,c]:=LX.some_of (v:=v) (o:=(atKey xs k).map (·.2)) (by rw[l];exact d.val k)
  let#[p,w,j]:=JY.mp i;refine wpAny_getItem_heap (GQ x) (fz I.hok r) dd w ?_
  rw[j];exact h f _ (I.tok _) c
theorem E6{Q:HD}(m:A.units+1<cLine)(I:HL X tx σ H s)(g:Lg H a y o)(i:HN y u)(h:∀s',HL X tx σ H s'->Q (.bool o.isSome) s'):
  ε (model X.prog X.w) A (compareOp .In u (-a)) Q E s:=by
 rcases g with⟨kvs,k,e,f,l⟩|⟨kvs,k,b,e,f,j,l⟩
 .subst f
  let#[z,d,n,c,dd]:=cq I.hok e;refine wpAny_in_of (dc i) d dd.mapOf ?_
  rw[<- (c.val k).isSome_eq,<- l];exact h _ (I.tok _)
 .subst f
  cases(show u=Γ.ref b from i)
  let#[z,d,xs,c,dd]:=gh I.hok e;refine wpAny_in_heap (GQ m) (fz I.hok j) d dd ?_
  have q:=(c.val k).isSome_eq;rw[IP]at q;rw[<- q,<- l];exact h _ (I.tok _)
theorem BT{Q:HD}(m:A.units+1<cLine)(I:HL X tx σ H s)(g:Lg H a y o)(i:HN y u)(h:∀s',HL X tx σ H s'->Q (.bool (! o.isSome)) s'):
  ε (model X.prog X.w) A (compareOp .NotIn u (-a)) Q E s:=by
 rcases g with⟨kvs,k,e,f,l⟩|⟨kvs,k,b,e,f,j,l⟩
 .subst f
  let#[z,d,n,c,dd]:=cq I.hok e;refine wpAny_notIn_of (dc i) d dd.mapOf ?_
  rw[<- (c.val k).isSome_eq,<- l];exact h _ (I.tok _)
 .subst f
  cases(show u=Γ.ref b from i)
  let#[z,d,xs,c,dd]:=gh I.hok e;refine wpAny_notIn_heap (GQ m) (fz I.hok j) d dd ?_
  have q:=(c.val k).isSome_eq;rw[IP]at q;rw[<- q,<- l];exact h _ (I.tok _)
theorem i6(I:HL X tx σ H s)(c:vO (H a))(hs:Ψ.SameBut a s.heap h')(d:∃q,h'.get? a=↑q)(new:HY X.prog X.w (HI H a ob) h' a ob):
  HL X tx σ (HI H a ob) {s with heap:=h',toks:=t'}:=
 I.write (x:=a) (e:=a) c (.inl Z) (λb q f z=>(hs.2 b f).trans z) d new
theorem kS(z:kvs.length<=ζ)(d:(a==sysModules)=false)(c:KV kvs vs)(dd:h'.DictOf (zj P w) a vs):
  HY P w H' h' a (.dK kvs):=#[z,d,vs,c,dd]
theorem wc{H':Hp}{Q:Unit->Θ->Prop}(K:A.units+1<cLine)(I:HL X tx σ H s)(g:MO H a y v H')(w:HN y u)(B:HN v r)(h:∀s',HL X tx σ H' s'->Q () s'):
  ε (model X.prog X.w) A (setItem (-a) u r) Q E s:=by
 rcases g with⟨kvs,k,e,p,l,m⟩|⟨kvs,k,b,e,p,C,l,m⟩
 .subst p m
  let#[z,n,D,d,dd]:=cm I.hok e;have j:D.length<=ζ:=by rw[<- d.length];exact z
  have t:(LQ kvs k v).length<=ζ:=by have:=eQ kvs k v;lia
  refine wpAny_setItem_pairs (hsz:=j) (dc w) dd λh' f o=>h _ ?_
  have M:∃q,h'.get? a=↑q:=let⟨q,_,_,i,_⟩:=f;#[q,i]
  exact i6 I (by rw[e];exact True.intro) o M (kS t n (d.put k B) f)
 .subst p m
  cases(show u=Γ.ref b from w)
  let#[z,n,xs,d,dd]:=DT I.hok e;have j:xs.length<=ζ:=by rw[<- Paired.length d];exact z
  have t:(LQ kvs k v).length<=ζ:=by have:=eQ kvs k v;lia
  refine wpAny_setItem_heap (hsz:=j) (GQ K) (fz I.hok C) dd λh' f o=>h _ ?_
  let#[q,es,N,i,J,F,L,_,G]:=f;refine i6 I (by rw[e];exact True.intro) o #[q,i] #[t,n,_,(d.put k C B).keeps λc ys x=>?_,q,es,N,i,J,F,L,G]
  rw[qk (zr x e (λz=>nomatch z))]
  exact x
end
section
variable{k:qR}
theorem Es{v:V}{c:Ζ}{Q:HD}(I:HL X tx σ H s)(e:H a=↑(.dK kvs))(j:HN (kV k) u)(l:QQ kvs k=↑v)(hm:c=[]\/∃x,c=[x])
  (h:∀f s',HL X tx σ (HI H a (.dK (c8 kvs k))) s'->HN v f->Q f s'):ε (model X.prog X.w) A (call (.builtin "dict.pop") (.ref a::u::c)) Q E s:=by
 let#[z,p,n,d,dd]:=cm I.hok e;let#[f,r,m]:=LX.some_of (v:=v) (o:=valueAt n k) (by rw[<- l];exact d.val k)
 have B:(keyPart u).isSome=true:=by
  cases k with
  |inl i=>let#[t,q]:=(show∃t,u=Γ.int i t from j);subst q;rfl
  |inr x=>let#[t,q]:=(show∃t,u=Γ.str x t from j);subst q;rfl
 have y:argsOk "dict.pop" #[.ref a::u::c,[]]:=by
  rcases hm with q|⟨x,q⟩
  .subst q;exact PySem.F.args_dict_pop_2 _ _
  .subst q;exact PySem.F.args_dict_pop_3 _ _ _
 refine call_meetsIn PySem.F.slot_dict_pop dd.typeIs PySem.F.entry_dict_pop y (meets_dict_pop_there (zj X.prog X.w) a (dc j) c hm B)
  #[n,f,dd,by rw[<- d.length];exact z,r,λh' g C=>h f _ ?_ m]
 have w:∃q,h'.get? a=↑q:=let⟨q,_,_,hq,_⟩:=g;#[q,hq]
 exact i6 I (by rw[e];exact True.intro) C w (kS (JI (Ay kvs k) z) p (d.drop k) g)
theorem D0{Q:HD}(I:HL X tx σ H s)(e:Rd H a (.dK kvs))(h:∀t s',HL X tx σ H s'->Q (.int kvs.length t) s'):ε (model X.prog X.w) A (call (.builtin "len") [-a]) Q E s:=by
 let#[z,d,f,c,dd]:=cq I.hok e;refine call_len_dict d dd (by rw[<- c.length];rw[Jn]at z;lia) ?_
 rw[<- c.length];exact h _ _ (I.tok _)
end
def xa(i:Φ):Prop:=∀c a,subscripted i false c a=operate [c,a] (getItem c a)
theorem BA{prog:Ξ}{w:Ω}{A:Around}{E:HD}{s:Θ}{env:Env}{value a:Φ}{pos:Pos}{T id:String}{Q:HD}
  (n:typeLookup (.type T) "__getitem__"=pure ↑(.builtin id))(hs:xa a)
  (h:ε (model prog w) A (eval value env) (λo e=>ε (model prog w) A (eval a env) (λi c=>c.TypeIs o T/\ε (model prog w) A (getItem o i) Q E c) E e) E s):
  ε (model prog w) A (eval (.Subscript value a pos) env) Q E s:=by
 refine Subscript_ (JR h (λo e l=>JR l (λi c d=>?_) λ_ _ x=>x) λ_ _ x=>x)
 let#[m,d]:=d;unfold subscriptTail;refine Ja ?_
 rw[getitemInPython_of_ne m.not_modules];refine Ja (Gv m n ?_)
 have g:ε (model prog w) A (subscripted a false o i) (λr f=>ε (model prog w) A (letTemporaryGo value o r >>= λ_=>pure r) Q E f) E c:=by
  rw[hs o i];exact wpAny_operating (JR d (λr f j=>Ja (wpAny_letTemporaryGo (Ji j))) λ_ _ x=>x)
 first
  |exact Ji (Ja g)
  |exact Ja (Ji (Ja g))
  |exact Ja g
theorem rV(I:HL X tx σ H s)(g:Lg H a y o):s.TypeIs (-a) "dict":=by
 rcases g with⟨kvs,k,e,_,_⟩|⟨kvs,k,b,e,_,_,_⟩
 .let#[_,_,c,_,dd]:=cq I.hok e
  exact dd.typeIs
 .let#[_,_,xs,_,dd]:=gh I.hok e
  exact dd.typeIs
noncomputable def Bf(td ty:TE):TE:=λσ H Q=>td σ H λx H1=>ty σ H1 λy c=>∃a v,x= .ref a/\Lg c a y ↑v/\Q v c
noncomputable def wS(ty td:TE):TE:=λσ H Q=>ty σ H λy H1=>td σ H1 λx c=>∃a o,x= .ref a/\Lg c a y o/\Q (.bl o.isSome) c
noncomputable def sT(ty td:TE):TE:=λσ H Q=>ty σ H λy H1=>td σ H1 λx c=>∃a o,x= .ref a/\Lg c a y o/\Q (.bl (! o.isSome)) c
noncomputable def AU(td ty tv:TE):TS:=λD σ H=>tv σ H λv H1=>td σ H1 λx d=>ty σ d λy H3=>∃a c,x= .ref a/\MO H3 a y v c/\D.nx σ c
section
theorem BK(t:X.A.units+1<cLine)(ho:PE X o td)(hi:PE X i ty)(hs:xa i):PE X (.Subscript o i pos) (Bf td ty):=by
 intro tx s σ H Q I h;refine BA PySem.F.slot_dict_getitem.lookup hs (qK (ho tx s σ H _ I h) λu j ⟨x,H1,n,e,q⟩=>qK (hi tx j σ H1 _ n q) λB z p=>?_)
 let#[y,l,d,f,a,v,ex,g,m]:=p;subst ex
 obtain rfl:u=Γ.ref a:=e
 exact#[rV d g,vh t d g f λw A r c=>#[v,l,r,c,m]]
theorem vD(t:X.A.units+1<cLine)(hi:PE X i ty)(ho:PE X o td):PC X .In i o (wS ty td):=by
 intro tx s σ H Q I h;refine qK (hi tx s σ H _ I h) λz e ⟨y,H1,l,c,q⟩=>qK (ho tx e σ H1 _ l q) λu v n=>?_
 let#[x,f,m,d,a,p,ex,g,j]:=n;subst ex
 obtain rfl:u=Γ.ref a:=d
 exact E6 t m g c λw r=>#[.bl p.isSome,f,r,Z,j]
theorem vd(t:X.A.units+1<cLine)(hi:PE X i ty)(ho:PE X o td):PC X .NotIn i o (sT ty td):=by
 intro tx s σ H Q I h;refine qK (hi tx s σ H _ I h) λz e ⟨y,H1,l,c,q⟩=>qK (ho tx e σ H1 _ l q) λu v n=>?_
 let#[x,f,m,d,a,p,ex,g,j]:=n;subst ex
 obtain rfl:u=Γ.ref a:=d
 exact BT t m g c λw r=>#[.bl (! p.isSome),f,r,Z,j]
theorem BB(A:X.A.units+1<cLine)(ho:PE X o td)(hi:PE X i ty)(c:PE X value tv)(hs:swapsWith value ↑(.Subscript o i pos') pos.line X.env=pure false):
  PS X (.Assign [.Subscript o i pos'] value pos) (AU td ty tv):=by
 intro tx s σ H D I h;refine wpAny_Assign_Subscript (qK (c tx s σ H _ I h) λr n ⟨v,H1,E,l,w⟩=>qK (ho tx n σ H1 _ E w) λu B ⟨x,q,j,C,d⟩=>qK (hi tx B σ q _ j d) λJ G e=>?_) hs
 let#[y,H3,z,f,a,t,ex,g,p]:=e;subst ex
 obtain rfl:u=Γ.ref a:=C
 exact wc A z g f l λF m=>#[σ,t,m,p]
end
theorem oK(h:Ψ)(hb:sysModules<h.objs.size):HY P w H (h.push {cls:= .type "dict",data:= .dict (List.toArray [])}) h.objs.size (.dK []):=
 #[JL _,Gc.mpr (Ne.symm (Jx hb)),[],.nil,Ψ.DictOf.new h]
noncomputable def DP:TE:=λ_ H Q=>∀p,H p=none->Q (-p) (HI H p (.dK []))
section
theorem ag:QE X (.Dict [] [] pos) DP:=#[λtx s σ H Q I h=>
 wpAny_Dict_empty #[-s.heap.objs.size,_,I.laid (a:=s.heap.objs.size) (o:= .dK []) (t':=s.toks) (λ_ _ q=>Jj _ q) (Jf _) (oK s.heap I.big),Z,h _ (I.hok.fresh (Jf _))]]
end
noncomputable def pz:List (TE×TE)->St->Hp->(List (V×V)->Hp->Prop)->Prop
 | [],_,H,Q=>Q [] H
 |(tk,tv)::r,σ,H,Q=>tk σ H λx H1=>tv σ H1 λy a=>pz r σ a λps H3=>Q ((x,y)::ps) H3
abbrev VV:List (V×V)->List (Γ×Γ)->Prop:=Paired λp q=>HN p.1 q.1/\HN p.2 q.2
def wo(X:Cx)(pos:Pos)(keys:List Υ)(a:Ι)(c:List (TE×TE)):Prop:=
 ∀(tx:HF) (s:Θ) (σ:St) (H:Hp) (Q:List (V×V)->Hp->Prop),HL X tx σ H s->pz c σ H Q->
  ε (model X.prog X.w) X.A (evalPairs (pairTrees keys a X.env pos)) (λd s'=>∃ps H',HL X tx σ H' s'/\VV ps d/\Q ps H') X.xe s
theorem BR{X:Cx}{pos:Pos}:wo X pos [] [] []:=λtx s σ H Q I h=>pairTrees_nil_walk #[[],H,I,.nil,h]
theorem wO{X:Cx}{pos:Pos}{k v:Φ}{ks:List Υ}{vs:Ι}{tk tv:TE}{a:List (TE×TE)}(hk:PE X k tk)(d:PE X v tv)(r:wo X pos ks vs a):
  wo X pos (↑k::ks) (v::vs) ((tk,tv)::a):=λtx s σ H Q I h=>
 pairTrees_cons_walk (qK (hk tx s σ H _ I h) λu q ⟨x,H1,o,e,p⟩=>qK (d tx q σ H1 _ o p) λw g ⟨y,m,l,f,j⟩=>
  qK (r tx g σ m _ l j) λws t ⟨ps,H3,n,c,i⟩=>#[(x,y)::ps,H3,n,.cons #[e,f] c,i])
noncomputable def aE(kvs a:List (qR×V)):List (qR×V):=a.foldl (λc d=>LQ c d.1 d.2) kvs
theorem KV.merge:∀{a:List (qR×V)} {rs:List (qR×Γ)} {kvs:List (qR×V)} {vs:List (qR×Γ)},KV a rs->KV kvs vs->KV (aE kvs a) (merged vs rs):=by
 intro a rs kvs vs r;unfold KV at r
 induction r generalizing kvs vs with
 |nil=>intro q;exact q
 | @cons p q ps qs h t ih=>
  intro c;have e:KV (LQ kvs p.1 p.2) (stored vs q.1 q.2):=by
   have:=c.put p.1 h.2
   rw[<- h.1];exact this
  exact ih e
theorem gE:∀(a kvs:List (qR×V)),(aE kvs a).length<=kvs.length+a.length
 | [],kvs=>by show kvs.length<=kvs.length+0;lia
 |p::r,kvs=>by
  have h1:=gE r (LQ kvs p.1 p.2);have c:=eQ kvs p.1 p.2
  show(aE (LQ kvs p.1 p.2) r).length<=_
  rw[J7];lia
theorem lA{P:Ξ}{w:Ω}:∀{kvs:List (qR×V)} {ws:List (Γ×Γ)},VV (kvs.map λd=>(kV d.1,d.2)) ws->∃rs,Carries (zj P w) ws rs/\KV kvs rs
 | [],_,r=>by rw[List.map_nil]at r;cases r;exact#[[],True.intro,.nil]
 |p::kvs,_,r=>by
  rw[JW]at r;cases r with
  | @cons a b as bs h t=>
   let#[rs,c,q]:=lA (P:=P) (w:=w) t
   let#[f,e]:=b
   exact#[(p.1,e)::rs,#[dc h.1,Z,c],.cons #[Z,h.2] q]
noncomputable def Ba(a:List (TE×TE)):TE:=λσ H Q=>∀p,H p=none->pz a σ (HI H p (.dK [])) λps d=>d p=↑(.dK [])/\∃kvs:List (qR×V),ps=kvs.map (λc=>(kV c.1,c.2))/\kvs.length<=15/\Q (-p) (HI d p (.dK (aE [] kvs)))
theorem BW{X:Cx}{pos:Pos}{keys:List Υ}{d:Ι}{g:List (TE×TE)}(h:wo X pos keys d g)(f:keys.all (·.isSome)=true)(y:keys.length=d.length)(t:keys≠[])
  (j:keys.length<=15):PE X (.Dict keys d pos) (Ba g):=by
 intro tx s σ H Q I q;have E:=I.hok.fresh (Jf s.heap.objs.size);have C:=I.laid (a:=s.heap.objs.size) (o:= .dK []) (h':=s.heap.push {cls:= .type "dict",data:= .dict (List.toArray [])}) (t':=s.toks) (λ_ _ q=>Jj _ q) (Jf _) (oK s.heap I.big)
 refine wpAny_Dict_walk (knd:=zj X.prog X.w) f y t j (qK (h tx _ σ _ _ C (q _ E)) λws K r=>?_)
 let#[ps,G,m,l,e,kvs,F,J,p]:=r;subst F;let#[rs,c,A]:=lA (P:=X.prog) (w:=X.w) l
 let#[z,v,u,D,dd]:=cm m.hok e;cases D;refine#[rs,c,dd,λh' i x=>#[-s.heap.objs.size,_,?_,Z,p]]
 have n:(aE [] kvs).length<=ζ:=by
  have h1:=gE kvs [];rw[List.length_nil]at h1;rw[Jn];lia
 have B:∃q,h'.get? s.heap.objs.size=↑q:=let⟨q,_,_,hq,_⟩:=i;#[q,hq]
 exact i6 m (by rw[e];exact True.intro) x B (kS n v (A.merge .nil) i)
structure M1(X:Cx)(o:Φ)(m:Str)(apos:Pos)(e:Φ)(cpos:Pos):Prop where
 base:attributeBase o m X.env (eval o X.env)=eval o X.env
 few:((backTo cpos (θ [e] X.env)).all (λx=> ! x.1)&&(backToKw cpos (keywordEach [] X.env)).all (λx=>x.1.isSome)
  &&decide (([e]:Ι).length+([]:Χ).length+(if([]:Χ).isEmpty then 0 else 1)<30))=true
 line:(apos.endLine==cpos.line)=true
 trees:backTo cpos (θ [e] X.env)=[(false,eval e X.env)]
def Dm(H:Hp)(a:Δ):Prop:=(∃kvs,Rd H a (.dK kvs))\/∃kvs,Rd H a (.dT kvs)
theorem kP(I:HL X tx σ H s)(d:Dm H a):
  s.TypeIs (-a) "dict"/\(∀b,Γ.ref a= .ref b->∃c,s.heap.get? b=↑c/\c.dict=none)/\(a==sysModules)=false:=by
 rcases d with⟨kvs,e⟩|⟨kvs,e⟩
 .let#[_,f,h,_,dd]:=cq I.hok e
  refine#[dd.typeIs,λb q=>?_,f]
  cases q;let#[c,_,_,h1,g,_]:=dd
  exact#[c,h1,g.2.1]
 .let#[_,f,xs,_,dd]:=gh I.hok e
  refine#[dd.typeIs,λb q=>?_,f]
  cases q;let#[c,_,_,h1,g,_]:=dd
  exact#[c,h1,g.2.1]
section
theorem Dn{Q:HD}(n:A.units+1<cLine)(I:HL X tx σ H s)(g:Lg H a y o)(j:HN y u)(h:∀i s',HL X tx σ H s'->HN (o.getD .non) i->Q i s'):
  ε (model X.prog X.w) A (call (.builtin "dict.get") [-a,u]) Q E s:=by
 rcases g with⟨kvs,k,e,f,l⟩|⟨kvs,k,b,e,f,m,l⟩
 .subst f
  let#[z,d,p,c,dd]:=cq I.hok e;refine call_meetsIn IQ dd.typeIs PySem.F.entry_dict_get (PySem.F.args_dict_get_2 _ _) (meets_dict_get (zj X.prog X.w) a (dc j) d) #[_,dd.mapOf,h _ _ (I.tok _) ?_]
  rw[l]
  exact(c.val k).getD Z
 .subst f
  cases(show u=Γ.ref b from j)
  let#[z,d,xs,c,dd]:=gh I.hok e;refine call_meetsIn IQ dd.typeIs PySem.F.entry_dict_get (PySem.F.args_dict_get_2 _ _) (meetsH_dict_get (tupleKind (zj X.prog X.w)) a b d) #[GQ n,k,xs,fz I.hok m,dd,h _ _ (I.tok _) ?_]
  rw[l]
  exact(c.val k).getD Z
end
noncomputable def vW(td ty:TE):TE:=λσ H Q=>td σ H λx H1=>∃a,x= .ref a/\Dm H1 a/\ty σ H1 λy c=>∃o,Lg c a y o/\Q (o.getD .non) c
noncomputable def wA(td ty:TE):TE:=λσ H Q=>td σ H λx H1=>∃a,x= .ref a/\Dm H1 a/\ty σ H1 λy c=>∃kvs k v,c a=↑(.dK kvs)/\y=kV k/\QQ kvs k=↑v/\Q v (HI c a (.dK (c8 kvs k)))
section
theorem ya(z:X.A.units+1<cLine)(ho:PE X o td)(B:PE X e ty)(m:M1 X o "get" apos e cpos):PE X (.Call (.Attribute o "get" apos) [e] [] cpos) (vW td ty):=by
 intro tx s σ H Q I h;refine wpAny_Call_method m.base m.few m.line Iv IQ PySem.F.type_dict_get (qK (ho tx s σ H _ I h) λu r j=>?_)
 let#[x,H1,f,A,a,ex,d,v]:=j;subst ex
 obtain rfl:u=Γ.ref a:=A
 let#[l,p,_]:=kP f d;exists l,p
 rw[m.trees];refine Gk Z (GH (Calls.spliced_cons (qK (B tx r σ H1 _ f v) λG E ⟨y,t,q,n,D,g,i⟩=>Calls.spliced_nil ?_)))
 exact Dn z q g n λC F w c=>#[_,t,w,c,i]
end
section
theorem wy:Qh X (.builtin "len") (λxs H Q=>∃a kvs,xs=[V.ref a]/\H a=↑(.dK kvs)/\Q (.int kvs.length) H):=by
 intro tx s σ H xs f Q I r h;let#[a,kvs,rfl,d,q]:=h;let#[u,rfl,c]:=Q1 r;cases c;exact D0 I (.inl d) λt s' e=>#[.int kvs.length,H,e,#[t,Z],q]
end
end L2
namespace L3
open PySem PySem.Spec PyProof.Rows L2
open PySem.W (kdl_dict kdl_extend)
section
theorem rS{d:Δ}{kvs:List (qR×Γ)}{ep:Nat}{Q:Ζ->Θ->Prop}(l:A.handled=none)(hm:s.heap.DictAt (zj prog w) d kvs ep)(lo:(d==sysModules)=false)(hn:kvs.length<=ζ)
  (h:∀(vs:Ζ) (h':Ψ) (tk:Nat),s.heap.objs.size<h'.objs.size->(∀b o,s.heap.get? b=↑o->h'.get? b=↑o)->vs.length=kvs.length->(∀(j:Nat) (v:Γ),vs[j]? =↑v->∃k x,kvs[j]? =↑(k,x)/\(zj prog w).is k v=true)->Q vs {s with heap:=h',toks:=tk}):
  ε (model prog w) A (collect (-d)) Q E s:=by
 unfold collect;refine Ja (wpAny_runValue (Ir entry_proto_collect' ?_))
 show ε _ _ (do again (.builtin "list.__iadd__" #[[<- newList [],-d],[]])) _ _ s
 refine Ja (wpAny_newList (Ji #[Iw _ nofun,Ir entry_list_iadd' ?_]))
 rw[Around.under_plainId PySem.F.plain_list_iadd _];have f:d<s.heap.objs.size:=hm.lt_size
 refine kdl_extend (s:={s with heap:=s.heap.push (seqObj "list" (List.toArray []) 0)}) (R:=λr s'=>match r with
   | .ok (.ret v)=>ε (model prog w) A (match v with
    | .ref a=>(do
     let o <- load a
     match o.data with
     | .seq xs _=>pure xs.toList
     |_=>unsupported "internal:collect")
    |_=>unsupported "internal:collect") Q E s'
   | .ok _=>False
   | .error e=>E e s') (kdl_dict (knd:=zj prog w) (ep:=ep) (kvs:=kvs) lo) l (hm.push _) s.heap.objs.size (J2 f) (J2 f) _ 0 (Ju _ Z) (λh' tk c c' hk i g=>?_) hn
 show ε (model prog w) A (do
   let o <- load s.heap.objs.size
   match o.data with
   | .seq xs _=>pure xs.toList
   |_=>unsupported "internal:collect") Q E {s with heap:=h',toks:=tk}
 refine Ja (wpAny_load i ?_)
 refine Ji (h c.toList h' tk (Jl i) (λb o e=>hk b o (Jx (Jl e)) (Jj _ e)) (by rw[GB];exact g.1) λj v e=>g.2 j v (by rw[<- Array.getElem?_toList];exact e))
theorem me:∀{us:Ζ} {a:Α},us.length=a.length->(∀(j:Nat) (v:Γ),us[j]? =↑v->∃x t,a[j]? =↑x/\v= .str x t)->StrsAre us a
 | [],[],_,_=> .nil
 |u::us,x::a,hl,h=>by
  let#[y,t,d,c]:=h 0 u Z;cases d;subst c;exact .cons _ _ (me (Nat.succ.inj hl) λj v e=>h (j+1) v e)
 | [],_::_,hl,_=>by cases hl
 |_::_,[],hl,_=>by cases hl
theorem rX{d:Δ}{kvs:List (qR×Γ)}{ep:Nat}{p:Α}{Q:HD}(M:A.handled=none)(hm:s.heap.DictAt (zj prog w) d kvs ep)(lo:(d==sysModules)=false)(q:kvs.map (·.1)=p.map Sum.inr)(u:p.length<64)
  (h:∀(h':Ψ) (tk:Nat) (l:Δ) (its:Ζ) (n:Nat) (a:Α),s.heap.objs.size<=l->(∀b o,s.heap.get? b=↑o->h'.get? b=↑o)->h'.get? l=↑(seqObj "list" its.toArray n)->StrsAre its a->a.Perm p->sortedS a=true->Q (-l) {s with heap:=h',toks:=tk}):
  ε (model prog w) A (call (.builtin "sorted") [-d]) Q E s:=by
 have c:kvs.length=p.length:=by have:=JK List.length q;rwa [Jb,Jb]at this
 refine Calls.call_function_entry kind_sorted plain_sorted entry_sorted (args_sorted1 _) ?_
 unfold γ.«sorted»
 refine Ja (m:=checkCount "sorted" 1 1 _) (Ji ?_)
 refine Ja (rS (ep:=ep) (kvs:=kvs) M hm lo (by rw[Jn];lia) λi h' tk C hk G K=>?_)
 have z:StrsAre i p:=me (G.trans c) λj v e=>by
  let#[k,x,O,R]:=K j v e;have r:(kvs.map (·.1))[j]? =↑k:=by rw[Jp,O];rfl
  rw[q,Jp]at r;cases e4:p[j]? with
  |none=>rw[e4]at r;cases r
  |some y=>
   rw[e4]at r;have S:Sum.inr y=k:=JF r
   subst S;have F:Γ.isStrOf y v=true:=R
   cases v<;>simp [Γ.isStrOf]at F
   subst F
   exact#[4]
 refine Ja (wpAny_newList ?_)
 have f:(h'.push (seqObj "list" i.toArray 0)).get? h'.objs.size=↑(seqObj "list" i.toArray 0):=Ju _ Z
 show ε _ _ _ _ _ {s with heap:=h'.push (seqObj "list" i.toArray 0),toks:=tk}
 refine Ja (J5 (J9 slot_list_sort #[_,f,Z] entry_list_sort (list_sort_treeK (κ:=PyProof.Rows.strKind) strKind_oneLt f z.keysOf (λH D rest e=>keyKind_strs (by rw[<- e];exact z)) (by rw[G,c];exact u) λg P N=>#[0,?_]) (args_list_sort _)))
 let#[a,T,U,L]:=sorted_out_str z P N;let#[B,t]:∃B,(sortedHeap (h'.push (seqObj "list" i.toArray 0)) h'.objs.size i ((arrOf g).map (·.2))).get? h'.objs.size=↑(seqObj "list" ((arrOf g).map (·.2)) B):=sortedHeap_at f
 refine Ji #[0,h _ tk h'.objs.size ((arrOf g).map (·.2)).toList B a (G0 C) (λb o e=>?_) (by rw[t]) T U L]
 have I:=hk b o e;have J:b<h'.objs.size:=Jl I
 rw[sortedHeap_old (Jx J) (by rw[J8];exact Gm J)]
 exact Jj _ I
end
theorem c7:∀{us:Ζ} {a:Α},StrsAre us a->HR (a.map V.str) us
 | [],[],.nil=> .nil
 |_,_::_,.cons _ _ t=> .cons #[0] (c7 t)
theorem oY{X:Cx}(hc:X.calm=true):Qh X (.builtin "sorted") (λxs H Q=>∃(d:Δ) (kvs:List (qR×V)) (f:Α),xs=[-d]/\H d=↑(.dK kvs)/\kvs.map (·.1)=f.map Sum.inr/\f.length<64/\
  ∀l c,H l=none->c.Perm f->sortedS c=true->Q (-l) (HI H l (.lst (c.map V.str)))):=by
 intro tx s σ H xs M Q I r h;let#[d,kvs,f,rfl,J,i,j,q]:=h;let#[u,rfl,D]:=Q1 r;cases D;let#[z,lo,p,m,o,es,K,x,y,w,C,F,G]:=cm I.hok J;have e:p.map (·.1)=f.map Sum.inr:=by rw[<- i,m.keys]
 refine rX (I.ok.hd hc) (#[o,es,x,y,w,C,F,G]:s.heap.DictAt (zj X.prog X.w) d p K) lo e j λh' tk l g n c t hk L E v A=>?_
 refine#[-l,_,I.laid (a:=l) (o:= .lst (c.map V.str)) (t':=tk) hk t ?_,Z,q l c (I.hok.fresh t) v A]
 have B:=c7 E;refine#[?_,g,n,B,L]
 have:=v.length_eq
 rw[Jb,Jn];lia
end L3
namespace L3
open PySem PySem.Spec PyProof.Rows L2
open Sem (wp)
section
theorem qH{k:Nat}(a:Lb k X.A)(ho:QE X o td)(hi:QE X i ty)(hs:xa i:=by exactλ_ _=>rfl):QE X (.Subscript o i pos) (Bf td ty):=#[BK (by have:=a.un;lia) ho.h hi.h hs]
theorem Q8{k:Nat}(a:Lb k X.A)(ho:QE X o td)(hi:QE X i ty)(c:QE X value tv)(hs:swapsWith value ↑(.Subscript o i pos') pos.line X.env=pure false:=by rfl):
  QS X (.Assign [.Subscript o i pos'] value pos) (AU td ty tv):=#[BB (by have:=a.un;lia) ho.h hi.h c.h hs]
structure PZ(X:Cx)(pos:Pos)(keys:List Υ)(values:Ι)(trs:List (TE×TE)):Prop where
 h:wo X pos keys values trs
theorem Ci:PZ X pos [] [] []:=#[BR]
theorem af{k:Φ}(hk:QE X k tk)(d:QE X v tv)(c:PZ X pos ks vs a):PZ X pos (↑k::ks) (v::vs) ((tk,tv)::a):=#[wO hk.h d.h c.h]
theorem Bj{keys:List Υ}(h:PZ X pos keys a c)(d:keys.all (·.isSome)=true:=by rfl)(g:keys.length=a.length:=by rfl)(f:keys≠[]:=by(intro z;cases z))(e:keys.length<=15:=by decide):QE X (.Dict keys a pos) (Ba c):=#[BW h.h d g f e]
end
theorem lS{k:qR}{v:V}:∀{kvs:List (qR×V)} (i:Nat),kvs[i]? =↑(k,v)->(kvs.map (·.1)).Nodup->QQ kvs k=↑v
 | [],i,h,_=>by cases h
 |p::r,0,h,_=>by
  cases JF h
  exact cG Z
 |p::r,i+1,h,nd=>by
  have h':r[i]? =↑(k,v):=h
  have a:p.1∉r.map (·.1)/\(r.map (·.1)).Nodup:=J6.mp nd
  have c:k∈r.map (·.1):=JA.mpr #[(k,v),Jo h',Z]
  have ne:p.1≠k:=λz=>a.1 (z▸c)
  rw[cL ne];exact lS i h' a.2
theorem yf{k:qR}(i:Nat)(h:kvs[i]? =↑(k,u))(g:(kvs.map (·.1)).Nodup):LQ kvs k v=kvs.set i (k,v):=by
 have c:i<kvs.length:=(Jt.mp h).1
 have a:=(Jt.mp h).2;unfold LQ;rw[Jd]
 .refine List.ext_getElem (by simp) λj h1 l=>?_
  rw[GR,List.getElem_set];have d:j<kvs.length:=by simpa using h1
  by_cases e:i=j
  .subst e
   rw[Jd (by rw[a]),Jd Z,a]
  .rw[Jc e,Jc]
   intro z;have f:(kvs.map (·.1))[i]'(by simpa using c)=(kvs.map (·.1))[j]'(by simpa using d):=by rw[GR,GR,a,z]
   exact e ((List.getElem_inj g).mp f)
 .rw[List.any_eq_true]
  exact#[kvs[i],FL c,by rw[a];exact Je Z]
theorem sN{k:qR}(h:k∉kvs.map (·.1)):LQ kvs k v=kvs++[(k,v)]:=by
 unfold LQ;rw[Jc];intro z;let#[p,a,e]:=List.any_eq_true.mp z;exact h (JA.mpr #[p,a,Jv e])
end L3
namespace L3
open PySem PySem.Spec PyProof.Rows L2
section
theorem pK{k:Nat}(a:Lb k X.A)(ho:QE X o td)(ha:QE X e ty)(m:M1 X o "get" apos e cpos:=by exact#[42]):QE X (.Call (.Attribute o "get" apos) [e] [] cpos) (vW td ty):=#[ya (by have:=a.un;lia) ho.h ha.h m]
theorem ki{k:Nat}(a:Lb k X.A)(hi:QE X e ty)(ho:QE X o td)(h1:behindInMarks CmpOp.In o=false:=by rfl):QT X (.Compare e [.In] [o] pos) (kX (wS ty td)):=#[vE (vD (by have:=a.un;lia) hi.h ho.h) (h1:=h1)]
theorem bK{k:Nat}(a:Lb k X.A)(hi:QE X e ty)(ho:QE X o td)(h1:behindInMarks CmpOp.NotIn o=false:=by rfl):QT X (.Compare e [.NotIn] [o] pos) (kX (sT ty td)):=#[vE (vd (by have:=a.un;lia) hi.h ho.h) (h1:=h1)]
end
structure Kb where
 age:Int
 last:Int
 wt:Option (Int×Int)
abbrev Kw:=List (Str×Kb)
noncomputable def Wt(H:Hp)(v:V):Option (Int×Int)->Prop
 |none=>v= .non
 |some (x,c)=>∃w,v= .ref w/\H w=↑(.tup [.int x,.int c])
def L5(H:Hp)(a:Δ)(e:Kb):Prop:=∃v,H a=↑(.tup [.int e.age,.int e.last,v])/\Wt H v e.wt
noncomputable def cQ(a:Kw)(f:Str->Δ):List (qR×V):=a.map λe=>(Sum.inr e.1,V.ref (f e.1))
def MY(H:Hp)(d:Δ)(a:Kw):Prop:=∃f:Kw×(Str->Δ),H d=↑(.dK (cQ f.1 f.2))/\(∀e∈a,L5 H (f.2 e.1) e.2)/\f.1.Perm a/\(a.map (·.1)).Nodup
noncomputable def QN(a:Kw)(nm:Str)(e:Kb):Kw:=if nm∈a.map (·.1)then a.map (λp=>if p.1=nm then(nm,e)else p)else a++[(nm,e)]
theorem Mv.tup(m:Mv S H H')(n:NT S H)(h:H a=↑(.tup xs)):H' a=↑(.tup xs):=m _ _ (λz=>by
 let#[o,e,no]:=n a z;rw[e]at h;cases h;exact no) h
theorem Wt.mv(m:Mv S H H')(n:NT S H)(h:Wt H v o):Wt H' v o:=by
 cases o with
 |none=>exact h
 |some p=>let#[w,e,r]:=h;exact#[w,e,m.tup n r]
theorem L5.mv(m:Mv S H H')(n:NT S H)(h:L5 H a e):L5 H' a e:=by
 let#[v,r,w]:=h
 exact#[v,m.tup n r,w.mv m n]
theorem L5.same(s:HG H H')(h:L5 H a e):L5 H' a e:=h.mv (S:=[]) s.mv (λc h=>nomatch h)
theorem MY.mv(m:Mv S H H')(n:NT S H)(c:d∉S)(h:MY H d a):MY H' d a:=by
 let#[f,r,w,p]:=h
 exact#[f,m _ _ c r,λe g=>(w e g).mv m n,p]
theorem mK(f:Str->Δ)(nm:Str):∀a:Kw,QQ (cQ a f) (Sum.inr nm:qR)=(a.lookup nm).map λ_=>V.ref (f nm)
 | []=>rfl
 |(m,e)::r=>by
  show QQ ((Sum.inr m,V.ref (f m))::cQ r f) (Sum.inr nm)=_
  by_cases q:m=nm
  .subst q
   rw[cG Z,IM];rfl
  .rw[cL (by intro z;injection z with z;exact q z),Fp,F7 (λz=>q z.symm)]
   exact mK f nm r
theorem ZH{nm:Str}{e:Kb}:∀{a:Kw},a.lookup nm=↑e->(nm,e)∈a
 |(m,x)::r,h=>by
  rw[Fp]at h
  by_cases q:nm=m
  .subst q
   rw[Fw]at h;cases h;exact Jy ..
  .rw[F7 q]at h
   exact JD _ (ZH h)
theorem La:∀{a:Kw},(a.lookup nm).isSome=true↔nm∈a.map (·.1)
 | []=>by simp
 |(m,x)::r=>by
  rw[Fp,JW,Jh]
  by_cases q:nm=m
  .subst q;simp
  .rw[F7 q]
   simp only[q,false_or];exact La
theorem iF(a:Kw)(nm:Str)(e:Kb):(QN a nm e).map (·.1)=if nm∈a.map (·.1)then a.map (·.1)else a.map (·.1)++[nm]:=by
 unfold QN;split
 .rw[FD]
  refine GN λp c=>?_
  simp only[Function.comp]
  by_cases y:p.1=nm
  .rw[Jd y,y]
  .rw[Jc y]
 .rw[JG];rfl
theorem Aw(a:Kw)(nm:Str)(e:Kb):(QN a nm e).length<=a.length+1:=by
 have:=JK List.length (iF a nm e)
 rw[Jb]at this;rw[this];split
 .rw[Jb];lia
 .rw[Jq,Jb];exact Jf _
theorem tF(c:(d.map (·.1)).Nodup)(nm:Str)(e:Kb):((QN d nm e).map (·.1)).Nodup:=by
 rw[iF];split
 .exact c
 .rename_i z
  exact IR.mpr #[c,by simp,λa f b g=>by rw[Jg.mp g];exactλw=>z (w▸f)]
theorem jC{nm:Str}{e:Kb}:∀{d:Kw},(d.map (·.1)).Nodup->d.lookup nm=↑e->∀p∈d,p.1=nm->p=(nm,e)
 | [],_,h,_,a,_=>by cases a
 |(m,x)::r,nd,h,p,a,hn=>by
  have c:m∉r.map (·.1)/\(r.map (·.1)).Nodup:=J6.mp nd
  rw[Fp]at h
  by_cases q:nm=m
  .subst q
   rw[Fw]at h;cases h;rcases Jh.mp a with rfl|a
   .rfl
   .exact absurd (JA.mpr #[p,a,hn]) c.1
  .rw[F7 q]at h
   rcases Jh.mp a with rfl|a
   .exact absurd hn.symm q
   .exact jC c.2 h p a hn
theorem jF{k0:Kw}(pm:k0.Perm a)(d:(a.map (·.1)).Nodup)(nm:Str):k0.lookup nm=a.lookup nm:=by
 cases e:k0.lookup nm with
 |none=>
  cases e':a.lookup nm with
  |none=>rfl
  |some x=>
   have:(k0.lookup nm).isSome=true:=La.mpr ((pm.map (·.1)).mem_iff.mpr (La.mp (by rw[e'];rfl)))
   rw[e]at this;cases this
 |some x=>
  let#[y,c]:∃y,a.lookup nm=↑y:=Gg.mp (La.mpr (JA.mpr #[_,pm.mem_iff.mp (ZH e),Z]))
  rw[c]
  have:=jC d c _ (pm.mem_iff.mp (ZH e)) Z
  cases this;rfl
theorem MY.get(h:MY H d c)(nm:Str):(c.lookup nm=none/\Lg H d (.str nm) none)\/∃e a,c.lookup nm=↑e/\Lg H d (.str nm) ↑(-a)/\L5 H a e:=by
 let#[#[k0,f],j,l,pm,i]:=h;have g:=Lg.k (k:=Sum.inr nm) j
 rw[mK,jF pm i]at g;cases q:c.lookup nm with
 |none=>rw[q]at g;exact .inl #[Z,g]
 |some e=>rw[q]at g;exact .inr #[e,f nm,Z,g,l _ (ZH q)]
theorem nE(pm:k0.Perm a)(nm:Str)(e:Kb):(QN k0 nm e).Perm (QN a nm e):=by
 unfold QN
 by_cases z:nm∈a.map (·.1)
 .rw[Jd ((pm.map (·.1)).mem_iff.mpr z),Jd z];exact pm.map _
 .rw[Jc (λw=>z ((pm.map (·.1)).mem_iff.mp w)),Jc z];exact pm.append_right _
theorem MY.put(h:MY H d l)(nm:Str)(A:l.length<=100)(hb:L5 H a e):∃H',MO H d (.str nm) (-a) H'/\Mv [d] H H'/\MY H' d (QN l nm e):=by
 let#[#[k0,f],s,m,pm,x]:=h;have i:(cQ k0 f).length=l.length:=(Jb _).trans pm.length_eq
 have hk:∀e∈k0,L5 H (f e.1) e.2:=λe v=>m e (pm.mem_iff.mp v)
 refine#[_,MO.k (k:=Sum.inr nm) s (by rw[i];exact oz _),Mv.upd1,(QN k0 nm e,λn=>if n=nm then a else f n),?_,?_,nE pm nm e,tF x nm e]
 .rw[qb]
  congr 2
  unfold LQ QN cQ;have t:((k0.map λe=>((Sum.inr e.1:qR),V.ref (f e.1))).any λu=>decide (u.1=(Sum.inr nm:qR)))=true↔nm∈k0.map (·.1):=by
   rw[List.any_eq_true];constructor
   .rintro⟨p,c,z⟩
    let#[q,g,rfl]:=JA.mp c;have r:(Sum.inr q.1:qR)=Sum.inr nm:=Jv z
    injection r with r
    exact JA.mpr #[q,g,r]
   .intro z
    let#[q,g,e]:=JA.mp z
    exact#[_,JA.mpr #[q,g,Z],Je (by rw[e])]
  by_cases z:nm∈k0.map (·.1)
  .rw[Jd (t.mpr z),Jd z,FD,FD]
   refine GN λp c=>?_
   simp only[Function.comp]
   by_cases y:p.1=nm
   .rw[Jd (by rw[y]),Jd y]
    simp [y]
   .rw[Jc (by intro w;injection w with w;exact y w),Jc y]
    simp [y]
  .rw[Jc (λw=>z (t.mp w)),Jc z,JG]
   congr 1
   .refine GN λp c=>?_
    have y:¬p.1=nm:=λw=>z (JA.mpr #[p,c,w])
    simp [y]
   .simp
 .have nt:NT [d] H:=NT.one s trivial
  intro p c;have c:=(nE pm nm e).mem_iff.mpr c;have j:=hb.mv (Mv.upd1 (o:= .dK (LQ (cQ k0 f) (Sum.inr nm) (-a)))) nt
  unfold QN at c;split at c
  .let#[q,g,rfl]:=JA.mp c
   by_cases y:q.1=nm
   .rw[Jd y];simp only[FA];exact j
   .rw[Jc y]
    show L5 _ (if q.1=nm then a else f q.1) q.2
    rw[Jc y]
    exact(hk q g).mv Mv.upd1 nt
  .rename_i z
   rcases Jw.mp c with g|g
   .have y:¬p.1=nm:=λw=>z (JA.mpr #[p,g,w])
    show L5 _ (if p.1=nm then a else f p.1) p.2
    rw[Jc y]
    exact(hk p g).mv Mv.upd1 nt
   .rw[Jg.mp g];simp only[FA];exact j
def Le(K:ι)(H:Hp)(hk:Δ)(c:List Ε):Prop:=∃d:Η,H hk=↑(.lst (d.map V.ref))/\d.length=c.length/\∀(i:Nat) (a:Δ) (ks:Ε),d[i]? =↑a->c[i]? =↑ks->HQ K H a (ks.map V.int)
theorem Le.mv{K:ι}(m:Mv S H H')(n:NT S H)(d:hk∉S)(h:Le K H hk c):Le K H' hk c:=by
 let#[g,e,l,r]:=h
 exact#[g,m _ _ d e,l,λi a ks j f=>m.sqt n (r i a ks j f)]
structure Dr where
 t:Ε
 kss:List Ε
 near:Int
 far:Int
 most:Int
 least:Int
 kn:Kw
noncomputable def dF(D:Dr)(ta hk bd lg:Δ):List (Str×V):=
 [("table",-ta),("house_keys",-hk),("near",.int D.near),("far",.int D.far),("most",.int D.most),("least_age",.int D.least),("buttons",-bd),("log",-lg)]
noncomputable def dN:Α:=["table","house_keys","near","far","most","least_age","buttons","log"]
theorem Eg:dN.Nodup:=by decide +kernel
theorem oq(D:Dr)(ta hk bd lg:Δ):((dF D ta hk bd lg).map (·.1)).Nodup:=Eg
structure LS(K:ι)(C:Δ):Prop where
 cl:N5 K C
 n_table:HU K C "table"
 n_house_keys:HU K C "house_keys"
 n_near:HU K C "near"
 n_far:HU K C "far"
 n_most:HU K C "most"
 n_least_age:HU K C "least_age"
 n_buttons:HU K C "buttons"
 n_log:HU K C "log"
structure HK(K:ι)(C:Δ)(H:Hp)(p ta hk bd lg:Δ)(n:Nat)(D:Dr):Prop where
 ob:∃dx,H p=↑(.ins C dx (dF D ta hk bd lg))
 tb:HQ K H ta (D.t.map V.int)
 ks:Le K H hk D.kss
 kb:MY H bd D.kn
 lo:∃rs:Η,H lg=↑(.lst (rs.map V.ref))/\rs.length<=n
 ne:lg≠hk
section
variable{K:ι}{C:Δ}{H H':Hp}{p ta hk bd lg:Δ}{n:Nat}{D:Dr}
theorem HK.has(b:HK K C H p ta hk bd lg n D)(U:LS K C)(i:Nat)(h:(dF D ta hk bd lg)[i]? =↑(f,v))(a:HU K C f):Qm K H p f v:=by
 let#[dx,e]:=b.ob
 exact#[C,dx,_,e,U.cl,a,bD i h (oq ..)]
theorem HK.h_table(b:HK K C H p ta hk bd lg n D)(U:LS K C):Qm K H p "table" (-ta):=b.has U 0 Z U.n_table
theorem HK.h_house_keys(b:HK K C H p ta hk bd lg n D)(U:LS K C):Qm K H p "house_keys" (-hk):=b.has U 1 Z U.n_house_keys
theorem HK.h_near(b:HK K C H p ta hk bd lg n D)(U:LS K C):Qm K H p "near" (.int D.near):=b.has U 2 Z U.n_near
theorem HK.h_far(b:HK K C H p ta hk bd lg n D)(U:LS K C):Qm K H p "far" (.int D.far):=b.has U 3 Z U.n_far
theorem HK.h_most(b:HK K C H p ta hk bd lg n D)(U:LS K C):Qm K H p "most" (.int D.most):=b.has U 4 Z U.n_most
theorem HK.h_least_age(b:HK K C H p ta hk bd lg n D)(U:LS K C):Qm K H p "least_age" (.int D.least):=b.has U 5 Z U.n_least_age
theorem HK.h_buttons(b:HK K C H p ta hk bd lg n D)(U:LS K C):Qm K H p "buttons" (-bd):=b.has U 6 Z U.n_buttons
theorem HK.h_log(b:HK K C H p ta hk bd lg n D)(U:LS K C):Qm K H p "log" (-lg):=b.has U 7 Z U.n_log
theorem HK.no(b:HK K C H p ta hk bd lg n D)(h:m∉dN:=by decide +kernel):vb C H p m:=by
 let#[dx,e]:=b.ob
 exact#[dx,_,e,dw h]
theorem HK.mv(b:HK K C H p ta hk bd lg n D)(m:Mv S H H')(nt:NT S H)(hp:p∉S)(d:hk∉S)(hb:bd∉S)(c:lg∉S):HK K C H' p ta hk bd lg n D:=by
 let#[dx,e]:=b.ob;let#[rs,a,l]:=b.lo
 exact#[#[dx,m _ _ hp e],m.sqt nt b.tb,b.ks.mv m nt d,b.kb.mv m nt hb,#[rs,m _ _ c a,l],b.ne]
theorem HK.same(b:HK K C H p ta hk bd lg n D)(s:HG H H'):HK K C H' p ta hk bd lg n D:=b.mv (S:=[]) s.mv (λc h=>nomatch h) (λh=>nomatch h) (λh=>nomatch h) (λh=>nomatch h) (λh=>nomatch h)
end
inductive P6 (x:V) (y:V) (H:Hp) (Q:VK):Prop
 |mk (o:Option (Int×Int)) (b:Δ) (a c:Int) (h1:Wt H x o) (h2:y= .ref b) (h3:Rd H b (.tup [.int a,.int c])) (h4:Q (.bl (decide (o=↑(a,c)))) H)
theorem DF{X:Cx}{k:Nat}(J:Lb k X.A):Qq X (compareOp .Eq) P6:=by
 intro tx s σ H x y v u Q I F K h;let#[o,b,a,c,B,rfl,R,q]:=h;cases K;let#[d,D,p2,_]:=I.tuple (.inl R)
 have E:X.A.units<cLine:=by have:=J.un;lia
 cases o with
 |none=>
  have i:x= .non:=B
  subst i;cases F;rw[Jm (by intro z;cases z)]at q
  exact SeqAt.RcAt.none_tuple p2 E _ _ _ _ #[.bl false,H,I,Z,q]
 |some pr=>
  let#[m,n]:=pr;let#[w,rfl,i]:=B;cases F;let#[l,C,G,_]:=I.tuple (.inl (.inl i))
  have r:=C.length;have p:=D.length;have M:=SeqAt.RcAt.tuples (A:=X.A) (e:=λj=>[m,n].getD j 0==[a,c].getD j 0) (show s.heap.IsTuple w l.toArray from G) (show s.heap.IsTuple b d.toArray from p2) E (λj h1 N=>by
   have f:j<l.length:=by simpa using h1
   have g:j<d.length:=by simpa using N
   let#[t,e]:=sL (ns:=[m,n]) C j f (by rw[<- r]at f;exact f)
   let#[S,O]:=sL (ns:=[a,c]) D j g (by rw[<- p]at g;exact g)
   simp only[List.getElem_toArray,e,O,JM,Jk (show j<[m,n].length by rw[<- r]at f;exact f),Jk (show j<[a,c].length by rw[<- p]at g;exact g),Gn]
   exact SeqAt.EqAt.int_int _ _ _ _)
  have L:l.toArray.size=2:=by rw[JC,<- r];rfl
  have P:d.toArray.size=2:=by rw[JC,<- p];rfl
  refine M _ _ _ _ #[.bl _,H,I,?_,q]
  show Γ.bool _=Γ.bool _
  congr 1
  rw[L,P,show min 2 2=([m,n]:Ε).length from Z,Aj [m,n] [a,c] Z]
  simp
noncomputable def tW(c l n f:Int):Str:=if c<=l then "old" else if c<=l+n then "near" else if c<=l+f then "far" else "beyond"
inductive OE (vs:Β) (H:Hp) (Q:VK) (_3:XK):Prop
 |mk (c l n f:Int) (h1:vs=[.int c,.int l,.int n,.int f]) (h2:Q (.str (tW c l n f)) H)
noncomputable def ZI(a d:Int)(e:Kb)(age c:Int):Str×Kb:=
 if c<=e.last then("old",e)else if c<=e.last+a then("near",⟨age,c,none⟩)
 else if c<=e.last+d then(if e.wt=↑(age,c-1)then("near",⟨age,c,none⟩)else("far",⟨e.age,e.last,↑(age,c)⟩))else("beyond",e)
inductive OF (vs:Β) (H:Hp) (Q:VK) (_3:XK):Prop
 |mk (a:Δ) (e:Kb) (age c near far:Int) (h1:vs=[-a,.int age,.int c,.int near,.int far]) (h2:L5 H a e) (h3:∀q a' H',HG H H'->H' q=↑(.tup [.str (ZI near far e age c).1,-a'])->L5 H' a' (ZI near far e age c).2->Q (-q) H')
noncomputable def ZW(D:Dr)(age:Int):Bool:=decide (D.least<=age)&&decide (age<D.kss.length)
noncomputable def aP(D:Dr)(e:Kb)(age:Int):Bool:=ZW D age&&decide (e.age<=age)
noncomputable def QF(D:Dr)(nm:Str)(age:Int)(r:Option (Int×Int)):Β×Kw:=
 match D.kn.lookup nm with
 |none=>([.str "held",.str "unknown"],D.kn)
 |some e=>if aP D e age=true then(match r with
   |none=>([.str "held",.str "false"],D.kn)
   |some (c,d)=>if(ZI D.near D.far e age c).1="near" then([.str "open",.str nm,.int d],QN D.kn nm (ZI D.near D.far e age c).2)else([.str "held",.str (ZI D.near D.far e age c).1],QN D.kn nm (ZI D.near D.far e age c).2))
  else([.str "held",.str "age"],D.kn)
structure Ob(D:Dr):Prop where
 tp:D.t.Perm Lv
 l0:0<=D.least
 kl:D.kss.length<=8
 nl:D.kn.length<=60
 nd:(D.kn.map (·.1)).Nodup
section
variable(K:ι)(C:Δ)
inductive NR (vs:Β) (H:Hp) (Q:VK) (_3:XK):Prop
 |mk (p ta hk bd lg:Δ) (n:Nat) (D:Dr) (h1:vs=[-p]) (h2:HK K C H p ta hk bd lg n D) (h3:Q (.bl (decide (D.most<=(D.kn.length:Int)))) H)
inductive MP (vs:Β) (H:Hp) (Q:VK) (_3:XK):Prop
 |mk (p ta hk bd lg:Δ) (n:Nat) (D:Dr) (age:Int) (h1:vs=[-p,.int age]) (h2:HK K C H p ta hk bd lg n D) (h3:Q (.bl (ZW D age)) H)
inductive NS (vs:Β) (H:Hp) (Q:VK) (_3:XK):Prop
 |mk (p ta hk bd lg a:Δ) (n:Nat) (D:Dr) (e:Kb) (age:Int) (h1:vs=[-p,-a,.int age]) (h2:HK K C H p ta hk bd lg n D) (h3:L5 H a e) (h4:Q (.bl (aP D e age)) H)
inductive OZ (vs:Β) (H:Hp) (Q:VK) (_3:XK):Prop
 |mk (p ta hk bd lg:Δ) (n:Nat) (D:Dr) (nm:Str) (h1:vs=[-p,.str nm]) (h2:HK K C H p ta hk bd lg n D) (h3:(D.kn.lookup nm=none->Q .non H)) (h4:(∀e a,D.kn.lookup nm=↑e->L5 H a e->Q (-a) H))
inductive OG (vs:Β) (H:Hp) (Q:VK) (_3:XK):Prop
 |mk (p ta hk bd lg a:Δ) (n:Nat) (D:Dr) (e:Kb) (age c:Int) (h1:vs=[-p,-a,.int age,.int c]) (h2:HK K C H p ta hk bd lg n D) (h3:L5 H a e) (h4:aP D e age=true) (h5:∀q a' H',HG H H'->H' q=↑(.tup [.str (ZI D.near D.far e age c).1,-a'])->L5 H' a' (ZI D.near D.far e age c).2->Q (-q) H')
def Ln(H:Hp)(pr:Δ)(nm:Str)(age:Int)(ds:Ε):Prop:=∃a,H pr=↑(.tup [.str nm,.int age,-a])/\H a=↑(.tup (ds.map V.int))
noncomputable def aI(D:Dr)(age:Int):Ε:=D.kss.getD age.toNat []
inductive Nw (vs:Β) (H:Hp) (Q:VK) (_3:XK):Prop
 |mk (p ta hk bd lg pr:Δ) (n:Nat) (D:Dr) (nm:Str) (age:Int) (ds:Ε) (h1:vs=[-p,-pr]) (h2:HK K C H p ta hk bd lg n D) (h3:Ob D) (h4:Ln H pr nm age ds) (h5:ZE nm) (h6:ds.length=5) (h7:Qn ds) (h8:∀q H',Mv [bd] H H'->H' q=↑(.tup (QF D nm age (aT D.t (aI D age) nm ds)).1)->HK K C H' p ta hk bd lg n {D with kn:=(QF D nm age (aT D.t (aI D age) nm ds)).2}->Q (-q) H')
end
theorem Ln.mv{pr:Δ}(m:Mv S H H')(n:NT S H)(h:Ln H pr nm age ds):Ln H' pr nm age ds:=by
 let#[d,a,c]:=h
 exact⟨d,m.tup n a,m.tup n c⟩
theorem Ln.same{pr:Δ}(s:HG H H')(h:Ln H pr nm age ds):Ln H' pr nm age ds:=by
 let#[d,a,c]:=h
 exact⟨d,s _ _ a,s _ _ c⟩
theorem nT{X:Cx}:Qq X (compareOp .LtE) (λx y H Q=>∃i j,x= .str i/\y= .str j/\Q (.bl (! decide (j.cps.toList<i.cps.toList))) H):=by
 intro tx s σ H x y v u Q I c a h;let#[i,j,rfl,rfl,q]:=h;let#[t,rfl]:=c;let#[d,rfl]:=a;exact PySem.P.le_str (zu I q Z)
theorem Al(hn:x.cps.size<=ζ)(Pv:Nat->Β->Hp->Prop)(e:Pv 0 [] H)(hs:∀i ys H c,x.cps[i]? =↑c->ys.length=i->Pv i ys H->te (↑(.str ⟨(List.toArray [c])⟩)::aQ js σ) H λv H3=>Pv (i+1) (ys++[v]) H3)(a:∀ys H,ys.length=x.cps.size->Pv x.cps.size ys H->∀p,H p=none->Q (-p) (HI H p (.lst ys))):bA (AJ x) js te σ H Q:=
 fY hn (λi v=>∃c,x.cps[i]? =↑c/\v= .str ⟨(List.toArray [c])⟩) Pv e (λi ys H hi p=>hi) (λys H p=>Jf _) (λi ys H v H' _ p y=>y) (λi ys H v hi g p d=>by
  let#[c,f,rfl]:=d;exact hs i ys H c f g p) a
theorem wV(h:Qn ds):(ds.map V.int).all gl=true:=by
 rw[FK];intro x a;let#[i,hi,rfl]:=JA.mp a
 have:=h i hi
 show(decide (0<=i)&&decide (i<16))=true
 rw[Je this.1,Je this.2];rfl
theorem zZ{a b:Prop}(h:c=true)(x:a):if c=true then a else b:=by rw[Jd h];exact x
theorem zz{a b:Prop}(h:c=false)(x:b):if c=true then a else b:=by rw[Jc (by rw[h];intro z;cases z)];exact x
theorem Zo{K:ι}{fs:List (Str×V)}(c:N5 K C)(e:H p=↑(.ins C dx fs))(n:HU K C f)(i:Nat)(a:fs.map (·.1)=dN.take i:=by rfl)(hn:f∉dN.take i:=by decide +kernel):
  bR K H p f v (HI H p (.ins C dx (fs++[(f,v)]))):=⟨C,dx,fs,e,c,n,by
  have h1:fs.length=(dN.take i).length:=by rw[<- a,Jb]
  have d:(dN.take i).length<=8:=by rw[Fv];exact Ig _ _
  lia,by rw[fO (by rw[a];exact hn)]⟩
theorem Le.same{K:ι}{b:Δ}(s:HG H H')(h:Le K H b a):Le K H' b a:=h.mv (S:=[]) s.mv (λc h=>nomatch h) (λh=>nomatch h)
theorem Mv.nfree(m:Mv S H H')(hn:x∉S)(h:H' x=none):H x=none:=by
 cases e:H x with
 |none=>rfl
 |some o=>rw[m x o hn e]at h;cases h
theorem Le.at{K:ι}{age:Int}(h:Le K H hk D.kss)(f:0<=age)(h1:age<D.kss.length):∃(xs:Β) (d:Δ),H hk=↑(.lst xs)/\Q3 xs age=↑(-d)/\HQ K H d ((aI D age).map V.int):=by
 let#[c,e,l,r]:=h;let#[i,rfl]:∃i:Nat,age=(i:Int):=#[age.toNat,by lia]
 have hi:i<D.kss.length:=by lia
 have a:i<c.length:=by lia
 exists _,c[i],e,Qe (by rw[Jp,Jk a];rfl)
 have:=r i c[i] D.kss[i] (Jk a) (Jk hi)
 unfold aI;rw[GK,JM,Jk hi];exact this
theorem nM(h:aP D e age=true)(c:0<=D.least):0<=age/\age<D.kss.length:=by
 unfold aP ZW at h;rw[JX,JX]at h;have h1:=Jv h.1.1;have a:=Jv h.1.2;lia
theorem HK.putK{K:ι}(b:HK K C H p ta hk bd lg n D)(m:Mv [bd] H H')(g:MY H' bd a):HK K C H' p ta hk bd lg n {D with kn:=a}:=by
 let#[dx,e]:=b.ob;let#[f,c,_]:=b.kb;let#[rs,d,l]:=b.lo;let#[i,h,_]:=id b.ks;have nt:NT [bd] H:=NT.one c trivial
 exact#[#[dx,m _ _ (zv (zr e c (by intro z;cases z))) e],m.sqt nt b.tb,b.ks.mv m nt (zv (zr h c (by intro z;cases z))),g,#[rs,m _ _ (zv (zr d c (by intro z;cases z))) d,l],b.ne]
theorem HK.putL{K:ι}{rs:Η}(b:HK K C H p ta hk bd lg n D)(a:H lg=↑(.lst (rs.map V.ref)))(d:rs.length<=n):HK K C (HI H lg (.lst (rs.map V.ref++[-r]))) p ta hk bd lg (n+1) D:=by
 let#[dx,e]:=b.ob;let#[f,c,_]:=id b.kb;have nt:NT [lg] H:=NT.one a trivial
 have m:Mv [lg] H (HI H lg (.lst (rs.map V.ref++[-r]))):=Mv.upd1
 exact#[#[dx,m _ _ (zv (zr e a (by intro z;cases z))) e],m.sqt nt b.tb,b.ks.mv m nt (zv b.ne.symm),b.kb.mv m nt (zv (zr c a (by intro z;cases z))),#[rs++[r],by rw[qb,JG];rfl,by rw[Jq];exact Fq d],b.ne]
theorem OA.pair{b:Δ}(h1:H a=↑(.tup [.str z,.int i]))(d:H b=↑(.tup [.str z,.int i])):OA H 1 (-a) (-b):=
 .tup (n:=0) (.inl h1) (.inl d) Z λj x y ex c=>by
  match j,ex,c with
  |0,ex,c=>cases ex;cases c;exact .str _ _
  |1,ex,c=>cases ex;cases c;exact .int _ _
  |j+2,ex,c=>cases ex
abbrev Bg(a b:Str):Prop:=a.cps.toList<=b.cps.toList
theorem CQ{a b:Str}(h:ltCps b.cps.toList a.cps.toList=false):Bg a b:=by
 rw[ltCps_eq]at h;exact List.not_lt.mp (of_decide_eq_false h)
theorem nB:∀{l:Α} {p:Str},risingS p l=true->(p::l).Pairwise Bg
 | [],p,_=>by simp
 |x::r,p,h=>by
  have h':(! ltCps x.cps.toList p.cps.toList&&risingS x r)=true:=h
  rw[JX,IU]at h';have d:=nB h'.2;have a:=CQ h'.1;refine List.pairwise_cons.mpr #[λy c=>?_,d]
  rcases Jh.mp c with rfl|c
  .exact a
  .exact List.le_trans a ((List.pairwise_cons.mp d).1 y c)
theorem lH(h:sortedS l=true):l.Pairwise Bg:=by
 cases l with
 |nil=>exact .nil
 |cons x r=>exact nB h
theorem sE{b:Α}(h:a.Perm l)(f:sortedS a=true)(g:b.Perm l)(d:sortedS b=true):a=b:=by
 refine List.Perm.eq_of_pairwise (le:=Bg) (λx y _ _ h1 c=>?_) (lH f) (lH d) (h.trans g.symm)
 have e:x.cps.toList=y.cps.toList:=List.le_antisymm h1 c
 cases x with
 |mk u=>cases y with
  |mk v=>
   have:u=v:=Array.toList_inj.mp e
   rw[this]
def Ot(H:Hp)(q:Δ)(d:Α)(f:Kw):Prop:=∃c:Η,H q=↑(.tup (c.map V.ref))/\c.length=d.length/\∀(i:Nat) (a:Δ) (nm:Str) (e:Kb),c[i]? =↑a->d[i]? =↑nm->f.lookup nm=↑e->∃v,H a=↑(.tup [.str nm,.int e.age,.int e.last,v])/\Wt H v e.wt
inductive MQ (K:ι) (C:Δ) (vs:Β) (H:Hp) (Q:VK) (_3:XK):Prop
 |mk (p ta hk bd lg:Δ) (n:Nat) (D:Dr) (h1:vs=[-p]) (h2:HK K C H p ta hk bd lg n D) (h3:Ob D) (h4:∀q ss H',HG H H'->ss.Perm (D.kn.map (·.1))->sortedS ss=true->Ot H' q ss D.kn->Q (-q) H')
theorem BG{K:ι}(c:X.K=K)(a:QE X e ta)(hb:attributeBase e f X.env (eval e X.env)=eval e X.env:=by rfl):QE X (.Attribute e f pos) (AA K ta f):=by
 subst c;exact qA a hb
theorem BV(a:Kw)(f:Str->Δ):(cQ a f).map (·.1)=(a.map (·.1)).map Sum.inr:=by
 unfold cQ;rw[FD,FD];rfl
theorem Zd{a:Kw}(h:nm∈a.map (·.1)):∃e,a.lookup nm=↑e:=Gg.mp (La.mpr h)
theorem oG:∀(a kvs:List (qR×V)),((kvs++a).map (·.1)).Nodup->aE kvs a=kvs++a
 | [],kvs,_=>by simp [aE]
 |p::r,kvs,nd=>by
  have c:p.1∉kvs.map (·.1):=λz=>by
   rw[JG,JW]at nd
   exact(IR.mp nd).2.2 _ z _ (Jy ..) Z
  show aE (LQ kvs p.1 p.2) r=_
  rw[sN c,oG r (kvs++[(p.1,p.2)]) (by rw[Ik];exact nd),Ik]
  rfl
theorem kK(h:a.lookup nm=↑e):(QN a nm x).map (·.1)=a.map (·.1):=by
 rw[iF,Jd (La.mp (by rw[h];rfl))]
end L3
namespace L2
open PySem PySem.Spec PyProof.Rows
section
theorem wJ{Q:HD}(I:HL X tx σ H s)(e:Rd H a (.dK kvs))(h:∀p s',H p=none->HL X tx σ (HI H p (.dK kvs)) s'->Q (-p) s'):ε (model X.prog X.w) A (call (.type "dict") [-a]) Q E s:=by
 let#[z,g,j,c,dd]:=cq I.hok e;refine kt_call_dict g dd (by rw[<- c.length];exact z) λh' d i=>?_
 refine h _ _ (I.hok.fresh (Jf _)) (I.laid (a:=s.heap.objs.size) (o:= .dK kvs) (t':=s.toks) (λb q f=>?_) (Jf _) (kS z (Gc.mpr (Ne.symm (Jx I.big))) c d))
 exact(i.2 b (Jx (Jl f))).trans (Jj _ f)
end
end L2
namespace L3
open PySem PySem.Spec PyProof.Rows L2
theorem tJ{X:Cx}:Qh X (.type "dict") (λxs H Q=>∃(d:Δ) (kvs:List (qR×V)),xs=[-d]/\H d=↑(.dK kvs)/\∀p,H p=none->Q (-p) (HI H p (.dK kvs))):=by
 intro tx s σ H xs g Q I r h;let#[d,kvs,rfl,a,q]:=h;let#[u,rfl,c]:=Q1 r;cases c;exact wJ I (.inl a) λp s' e f=>#[-p,_,f,Z,q p e]
theorem HK.setF{K:ι}{fs:List (Str×V)}(i:Nat)(c:N5 K C)(g:HU K C f)(e:H p=↑(.ins C dx fs))(h:fs[i]? =↑(f,u))(a:(fs.map (·.1)).Nodup)(d:fs.length<1000):
  bR K H p f v (HI H p (.ins C dx (fs.set i (f,v)))):=#[C,dx,fs,e,c,g,d,by rw[i5 i h a]]
theorem _root_.L2.HG.put{H H1:Hp}{x:Δ}{o:HO}(s:HG H H1)(h:H x=none):HG H (HI H1 x o):=λc u e=>by
 rw[qk (qu e h)];exact s c u e
section
variable{K:ι}{C:Δ}{H:Hp}{p ta hk bd lg dx:Δ}{D:Dr}
theorem nU(U:LS K C)(e:H p=↑(.ins C dx (dF D ta hk bd lg)))(z:Int):bR K H p "least_age" (.int z) (HI H p (.ins C dx (dF {D with least:=z} ta hk bd lg))):=HK.setF 5 U.cl U.n_least_age e Z (oq ..) (by show 8<1000;decide)
theorem rT(U:LS K C)(e:H p=↑(.ins C dx (dF D ta hk bd lg)))(x:Δ):bR K H p "buttons" (-x) (HI H p (.ins C dx (dF D ta hk x lg))):=HK.setF 6 U.cl U.n_buttons e Z (oq ..) (by show 8<1000;decide)
theorem B8(U:LS K C)(e:H p=↑(.ins C dx (dF D ta hk bd lg)))(x:Δ):bR K H p "log" (-x) (HI H p (.ins C dx (dF D ta hk bd x))):=HK.setF 7 U.cl U.n_log e Z (oq ..) (by show 8<1000;decide)
end
theorem pO{r:Β}:Q3 (x::r) 0=↑x:=Qe (j:=0) Z
theorem uH{b:L2.St->Hp->Prop}(h:f σ H):(Lr.mk f r b c).nx σ H:=h
end L3
namespace L2
open PySem PySem.Spec PyProof.Rows
section
theorem wN(ho:PE X o td)(C:PE X e ty)(m:M1 X o "pop" apos e cpos):PE X (.Call (.Attribute o "pop" apos) [e] [] cpos) (wA td ty):=by
 intro tx s σ H Q I h;refine wpAny_Call_method m.base m.few m.line Iv PySem.F.slot_dict_pop PySem.F.type_dict_pop (qK (ho tx s σ H _ I h) λu r i=>?_)
 let#[x,H1,f,B,a,ex,d,z]:=i;subst ex
 obtain rfl:u=Γ.ref a:=B
 let#[j,p,_]:=kP f d;exists j,p
 rw[m.trees];refine Gk Z (GH (Calls.spliced_cons (qK (C tx r σ H1 _ f z) λJ F ⟨y,E,q,n,kvs,k,v,t,w,l,g⟩=>Calls.spliced_nil ?_)))
 subst w;exact Es q t n l (.inl Z) λD G A c=>#[v,_,A,c,g]
end
end L2
namespace L3
open PySem PySem.Spec PyProof.Rows L2
section
theorem xo(ho:QE X o td)(a:QE X e ty)(m:M1 X o "pop" apos e cpos:=by exact#[42]):QE X (.Call (.Attribute o "pop" apos) [e] [] cpos) (wA td ty):=#[wN ho.h a.h m]
theorem wW(hp:PassesOwn (model X.prog X.w) X.A X.env X.xe)(hc:QT X c tc)(hb:On X a tb):QS X (.While c a [] pos) (vP tc tb):=#[Af hp hc.h hb.h]
end
theorem MY.drop(h:MY H d c)(nm:Str):∃kvs,H d=↑(.dK kvs)/\MY (HI H d (.dK (c8 kvs (Sum.inr nm:qR)))) d (c.filter λp=>decide (p.1≠nm)):=by
 let#[#[k0,f],a,hk,pm,g]:=h;have nt:NT [d] H:=NT.one a trivial
 exists _,a,(k0.filter λp=>decide (p.1≠nm),f),?_,λe i=>?_,pm.filter _
 .rw[qb]
  congr 2
  unfold c8 cQ;rw[List.filter_map];congr 1
  refine List.filter_congr λp _=>?_
  simp only[Function.comp];rw[decide_eq_decide]
  exact#[λz w=>z (by rw[w]),λz w=>z (by injection w)]
 .exact(hk e (GZ.mp i).1).mv Mv.upd1 nt
 .exact(List.filter_sublist.map _).nodup g
theorem jL(z:Str):∀a:Α,AS (.str z) (a.map V.str)=decide (z∈a)
 | []=>rfl
 |x::r=>by
  show(e7 (.str x) (.str z)||AS (.str z) (r.map V.str))=_
  rw[jL z r]
  by_cases h:z=x
  .subst h
   rw[Je (Jy ..),show e7 (V.str z) (V.str z)=true from by simp [e7]];rfl
  .have c:e7 (V.str x) (V.str z)=false:=by simp [e7,Ne.symm h]
   rw[c,Bool.false_or];exact decide_eq_decide.mpr #[λw=>JD _ w,λw=>(Jh.mp w).resolve_left h]
theorem mQ(a:Α):(a.map V.str).all cp=true:=by
 rw[FK];intro v c;let#[z,_,rfl]:=JA.mp c;rfl
theorem Ot.same(h:Ot H q d f)(s:HG H H'):Ot H' q d f:=by
 let#[j,e,l,r]:=h
 exact#[j,s _ _ e,l,λi a nm x n g m=>let⟨v,a1,a2⟩:=r i a nm x n g m;#[v,s _ _ a1,a2.mv (S:=[]) s.mv (λc h=>nomatch h)]]
theorem kz{K:ι}{g:Η}(e:H hk=↑(.lst (g.map V.ref)))(l:g.length=c.length)(r:∀(i:Nat) (a:Δ) (ks:Ε),g[i]? =↑a->c[i]? =↑ks->HQ K H a (ks.map V.int))(h:HQ K H t (ks.map V.int)):Le K (HI H hk (.lst (g.map V.ref++[-t]))) hk (c++[ks]):=by
 have nt:NT [hk] H:=NT.one e trivial
 refine#[g++[t],by rw[qb,JG];rfl,by rw[Jq,Jq,l];rfl,λi a q d f=>?_]
 rw[IV]at d f;rw[l]at d
 by_cases hi:i<c.length
 .rw[Jd hi]at d f
  exact Mv.upd1.sqt nt (r i a q d f)
 .rw[Jc hi]at d f
  cases hz:i-c.length with
  |zero=>
   rw[hz]at d f;cases d;cases f;exact Mv.upd1.sqt nt h
  |succ k=>rw[hz]at d;cases d
theorem HK.putH{K:ι}(b:HK K C H p ta hk bd lg n D)(m:Mv [hk] H H')(ks:Le K H' hk a):HK K C H' p ta hk bd lg n {D with kss:=a}:=by
 let#[dx,e]:=b.ob;let#[f,d,_]:=id b.kb;let#[rs,g,l]:=b.lo;let#[h,c,_]:=id b.ks;have nt:NT [hk] H:=NT.one c trivial
 exact#[#[dx,m _ _ (zv (zr e c (by intro z;cases z))) e],m.sqt nt b.tb,ks,b.kb.mv m nt (zv (zr d c (by intro z;cases z))),#[rs,m _ _ (zv b.ne) g,l],b.ne]
theorem HK.putLeast{K:ι}(b:HK K C H p ta hk bd lg n D)(U:LS K C)(z:Int):∃dx,bR K H p "least_age" (.int z) (HI H p (.ins C dx (dF {D with least:=z} ta hk bd lg)))/\Mv [p] H (HI H p (.ins C dx (dF {D with least:=z} ta hk bd lg)))/\HK K C (HI H p (.ins C dx (dF {D with least:=z} ta hk bd lg))) p ta hk bd lg n {D with least:=z}:=by
 let#[dx,e]:=b.ob;let#[f,d,_]:=id b.kb;let#[rs,a,l]:=b.lo;let#[g,c,_]:=id b.ks;have nt:NT [p] H:=NT.one e trivial
 have m:Mv [p] H (HI H p (.ins C dx (dF {D with least:=z} ta hk bd lg))):=Mv.upd1
 exact#[dx,nU U e z,m,#[dx,qb],m.sqt nt b.tb,b.ks.mv m nt (zv (zr c e (by intro z;cases z))),b.kb.mv m nt (zv (zr d e (by intro z;cases z))),#[rs,m _ _ (zv (zr a e (by intro z;cases z))) a,l],b.ne]
def lr(o:Obj):Obj:={o with data:= .freed}
noncomputable def aU(h:Ψ):Η->Ψ
 | []=>h
 |a::S=>(aU h S).update a lr
theorem wM(h:Ψ)(a:Δ):(h.update a lr).get? a=none:=by
 let#[c,l]:=h
 show(match(c.modify a lr)[a]? with|some ⟨_,_,.freed,_⟩=>none|o=>o)=none
 rw[Array.getElem?_modify];simp only[FA];cases c[a]? with
 |none=>rfl
 |some o=>rfl
theorem QX{h:Ψ}{b:Δ}:∀{S:Η},b∈S->(aU h S).get? b=none
 |a::S,m=>by
  show((aU h S).update a lr).get? b=none
  by_cases e:a=b
  .subst e;exact wM _ _
  .rw[FJ _ _ e]
   rcases Jh.mp m with z|z
   .exact absurd z.symm e
   .exact QX z
theorem ap{h:Ψ}{b:Δ}:∀{S:Η},b∉S->(aU h S).get? b=h.get? b
 | [],_=>rfl
 |a::S,m=>by
  show((aU h S).update a lr).get? b=h.get? b
  rw[FJ _ _ (λe=>m (by rw[e];exact Jy ..))]
  exact ap λz=>m (JD _ z)
theorem gs{b:Δ}(e:(aU h S).get? b=↑o):b∉S/\h.get? b=↑o:=by
 by_cases z:b∈S
 .rw[QX z]at e;cases e
 .rw[ap z]at e;exact#[z,e]
theorem aF{h B B':Ψ}:∀{l:Ο},h.FunFrames B l->(∀b∈QB l,B'.get? b=none)->h.FunFrames B' l
 | [],_,_=>trivial
 |env::r,⟨k,⟨L,o,hf,a,ho,hn⟩,t⟩,q=>by
  have e:QB (env::r)=L::QB r:=by unfold QB;rw[List.filterMap_cons_some hf]
  rw[e]at q
  exact#[k,#[L,o,hf,q L (Jy ..),ho,hn],aF t λb a=>q b (JD _ a)]
theorem HY.got(x:HY P w H h a o):∃u,h.get? a=↑u:=by
 cases o with
 |lst xs=>let#[_,_,_,_,e]:=x;exact#[_,e]
 |tup xs=>let#[_,_,_,c,e,_]:=x;exact#[_,e]
 |dK kvs=>let#[_,_,_,_,o,_,_,e,_]:=x;exact#[_,e]
 |dT kvs=>let#[_,_,_,_,o,_,_,e,_]:=x;exact#[_,e]
 |set S n=>let#[o,_,_,_,e,_]:=x;exact#[_,e]
 |ins C dx fs=>let#[_,_,_,e,_]:=x;exact#[_,e]
 |own y=>exact x
 |xd fs=>let#[_,#[_,_,_,e,_],_]:=x;exact#[_,e]
 |rng lo hi=>let#[_,_,_,e]:=x;exact#[_,e]
 |frz c u=>let#[e,_]:=x;exact#[_,e]
 |tbl ps=>exact#[_,x]
 |met f y=>exact#[_,x]
 |ext φ=>let#[_,e,_]:=x;exact e
theorem LZ.none{P:Ξ}{w:Ω}{H:Hp}{h:Ψ}{a:Δ}(x:LZ P w H h)(e:h.get? a=none):H a=none:=by
 cases q:H a with
 |none=>rfl
 |some u=>
  let#[v,c]:=HY.got (x a u q)
  rw[e]at c;cases c
noncomputable def ay(K:ι)(C:Δ)(bm bmB:Ζ)(newId:String):Bool:=match K.lookup C with
 |some ⟨.type "type",_,.cls cd,sl⟩=>(match sl.toList with
  | [_,_,_,_,↑(.builtin n),_]=>cd.mro== .ref C::bm&&n==newId&& ! cd.hasDel&&PySem.W.tailIn K bmB bm&&PySem.W.nsOkIn K cd.ns&&PySem.W.nsIn K cd.ns "__init__"==↑none
  |_=>false)
 |_=>false
theorem pQ{K:ι}(X:K.In h)(q:ay K C bm bmB newId=true):
  ∃N nm e bs hdct sn sub ab col dd k0 k1 k2 k3 k5 g,h.get? C=↑(excClassObj nm e C N bs bm hdct sn sub ab col dd k0 k1 k2 k3 k5 newId)/\h.Ns N g/\g "__init__"=none/\OwnTail h bmB bm:=by
 unfold ay at q;split at q
 .rename_i dd s t r
  split at q
  .rename_i k0 k1 k2 k3 n k5 i
   simp only[JX,Fu,IU]at q;let#[#[#[#[#[f,rfl],a],m],c],d]:=q;let#[nm,bs,u,j,e,o,sn,sub,ab,col,p]:=s
   dsimp only at f a c d
   subst f a;let#[l]:=t;simp only at i
   subst i
   exact#[j,nm,e,bs,o,sn,sub,ab,col,dd,k0,k1,k2,k3,k5,_,X _ _ r,.of_isNs (W.isNs_of_in X c),W.nsMap_none_of_in X c d,W.tail_of_in X m]
  .cases q
 .cases q
noncomputable abbrev TX:=Lr->(L2.St->Δ->Hp->Prop)->L2.St->Hp->Prop
theorem fP{X:Cx}{tx:HF}{σ:L2.St}{H:Hp}{s:Θ}{M:Model}{A:Around}{E:HD}{i:Nat}{x:Str}{pos:Pos}{Q:Unit->Θ->Prop}(I:L2.HL X tx σ H s)(K:X.N.Nodup)(hi:X.N[i]? =↑x)(hk:X.env.kindOf x=some .local)
  (h:∀s',L2.HL X tx (σ.set i none) H s'->Q () s'):ε M A (do bindName X.env x .none;unbindBehindTheSuite X.env x pos) Q E s:=by
 let#[m,hn,U]:=id I.loc;have u:(X.env.scope.kind== .class||(X.env.scope.kind== .module&&X.env.locals != X.env.globals))=false:=by rw[I.ok.kind];rfl
 have t:i<σ.length:=by rw[I.len];exact(Jt.mp hi).1
 have cne:=I.cne;have d:∀{a:Δ} {h':Ψ},H a=none->Ψ.SameBut a s.heap h'->LZ X.prog X.w H h':=λ{a h'} f g b P e=>by
  refine(I.hok b P e).stay (λc w' B q=>(g.2 c ?_).trans q) (λ_ q=>q) λ_ _ q=>q
  rintro rfl
  rcases B with rfl|B
  .rw[f]at e;cases e
  .rw[f]at B;cases B
 refine wpAny_nameGoes_keeps hk hn u λh' v C g=>?_
 have lo:∀b o,X.s₀.heap.get? b=↑o->b≠X.env.locals:=λb o e=>Jx (JO (Jl e) I.ok.above)
 refine h _ #[I.ok,I.os,I.bare,#[λb o e n G r=>(g.2 b (lo b o e)).trans (I.base.keep b o e n G r),λb o e n G r=>?_,I.base.free,λb o e r=>?_,I.base.tups,I.base.frzs,I.base.tbls],#[_,C,λj y D l w S=>?_],λy c e=>?_,I.free,I.freeC,λp W=>?_,d I.free g,by simpa using I.len]
 .let#[Y,l]:=I.base.slot b o e n G r
  exact#[Y,(g.2 b (lo b o e)).trans l]
 .let#[o',l]:=I.base.there b o e r
  exact#[o',(g.2 b (lo b o e)).trans l]
 .by_cases F:j=i
  .subst F
   rw[Ia t]at w;cases w
  .rw[Ib (Ne.symm F)]at w
   let#[T,O,q]:=U j y D l w S;exists T,O
   rcases q with⟨k,e⟩|⟨k,c,e,z⟩
   .refine .inl #[k,?_]
    have:y≠x:=λe=>F (kg K l (e▸hi))
    simp [this,e]
   .exact .inr #[k,c,e,z.sameBut g (cne y c e)]
 .let#[D,z]:=I.cell y c e
  exact#[D,z.sameBut g (cne y c e)]
 .let#[N,p2,J,L,R]:=I.pin p W
  exact#[(g.2 _ J).trans N,p2,J,L,R]
theorem lZ{M:Model}{A:Around}{E:HD}{nm q o F:Str}{C N j D:Δ}{bs bm u i:Ζ}{hdct c:Bool}{sn y:Α}{sub l:Ζ}{ab v:Bool}{col n:Option Bool}{dd s:Κ}{k0 k1 k2 k3 k5 I G H L K:Ν}{newId a:String}
  {h:Ψ}{g:Array GenState}{d:Drawn}{t:Nat}{os:OsState}{e:Δ}{z:Obj}{Q:Bool->Θ->Prop}
  (J:h.get? C=↑(excClassObj nm q C N bs bm hdct sn sub ab col dd k0 k1 k2 k3 k5 newId))(B:h.get? j=↑(excClassObj o F j D u i c y l v n s I G H L K a))(O:h.get? e=↑z)(m:z.cls= .ref C)(x:i.contains (.type "BaseException")=true)(r:bm.contains (-j)=true)
  (P:Q true #[h,g,d,t,os]):ε M A (excMatches (-e) (-j)) Q E #[h,g,d,t,os]:=by
 have w:(Γ.ref j::i).contains (.type "BaseException")=true:=by rw[GS,x,Bool.or_true]
 have p:(Γ.ref C::bm).contains (-j)=true:=by rw[GS,r,Bool.or_true]
 have f:=tc_notTuple;unfold excMatches
 repeat (first|(with_reducible refine JT O ?_;rw[m])|with_reducible refine JT B ?_|(with_reducible refine GU B ?_;rw[w])|(with_reducible refine GU J ?_;rw[p])|wp_step)
 exact P
noncomputable abbrev yc(X:Cx)(a:Δ):Cx:={X with A:=X.A.mark ↑(-a),calm:=false,xe:=λ_ _=>False}
theorem pL(I:L2.HL X tx σ H s):L2.HL (yc X a) tx σ H s:=by
 have ok:=I.ok
 exact#[#[ok.mod,ok.kind,ok.glob,ok.blt,ok.above,ok.inj,ok.has,ok.cab,λz=>(by cases z),ok.frames,ok.stk,ok.exf,ok.bs,ok.bsz,ok.noex,ok.exfs,ok.funs,ok.frf],I.os,I.bare,I.base,I.loc,I.cell,I.free,I.freeC,I.pin,I.hok,I.len]
theorem i8(ok:X.Ok)(I:L2.HL (yc X a) tx σ H s):L2.HL X tx σ H s:=
 #[ok,I.os,I.bare,I.base,I.loc,I.cell,I.free,I.freeC,I.pin,I.hok,I.len]
noncomputable def AL(D:Lr)(i:Nat):Lr:={nx:=λσ H=>D.nx (σ.set i none) H,rt:=D.rt,bk:=λσ H=>D.bk (σ.set i none) H,ct:=λσ H=>D.ct (σ.set i none) H}
end L3
namespace L3
open PySem PySem.Spec PySem.Calls PySem.W PyProof.Rows Builtin Builtin.ObjectAttr Builtin.Getset_descriptor
section
variable{prog:Ξ}{w:Ω}{A:Around}{E:HD}{K:ι}{h:Ψ}{g:Array GenState}{d:Drawn}{t:Nat}{os:OsState}{a C:Δ}{o:Obj}
theorem nZ{R:Result->Θ->Prop}{e:Γ}(X:K.In h)(c:h.get? a=↑o)(hc:o.cls= .ref C)(hm:mroIn K C (.type "object")=↑true)(f:R (.ok (.ret (-C))) #[h,g,d,t,os]):
  codeAny (model prog w) A (.call (.builtin "getset_descriptor.__get__") #[[.builtin "object.__class__",-a,e],[]]) R #[h,g,d,t,os]:=by
 have j:Looks (model prog w) h (typeOf (-a)) (-C):=hc▸(Looks.ld c).andThen .now
 have i:=looks_mroIn (M:=model prog w) X hm
 refine GV KF.slot_gs.plain KF.entry_gs (KF.slot_gs.check _ _ _ _ _ _ _ _ KF.type_class (KF.args_gs _ _ _) ?_)
 unfold γ.«getset_descriptor.__get__» descrGet
 rw[dga_obj];refine Ja (Ji ?_)
 unfold descrGetter descrCheckInstance descrNameAndClass isInstance;simp only[KF.owner_class]
 repeat lk
 refine#[Iw _ nofun,Ir KF.entry_class ?_]
 unfold γ.«object.__class__» shownTypeOf
 repeat lk
 exact f
theorem lG{tk:Tok}{Q:Fin->Θ->Prop}(X:K.In h)(e:h.get? a=↑o)(hc:o.cls= .ref C)(hm:mroIn K C (.type "object")=↑true)(c:findIn K (-C) "__class__"=↑(↑(.builtin "object.__class__")))(n:Q (.done (.ret (-C))) #[h,g,d,t,os]):
  ε (model prog w) A (γ.«object.__getattribute__» #[[-a,.str "__class__" tk],[]]) Q E #[h,g,d,t,os]:=by
 have i:(#[h,g,d,t,os]:Θ).TypeIs (.builtin "object.__class__") "getset_descriptor":=F.typeOf_object_class
 have m:=F.typeOf_object_class;have j:=F.slot_gs_get.lookup;have l:=F.slot_gs_set.lookup;have f:=FV (M:=model prog w) X c
 repeat (any_goals (first|assumption|(with_reducible refine JT e ?_;rw[hc])|with_reducible refine f.at ?_|wp_step))
 refine nZ X e hc hm ?_
 repeat (any_goals (first|assumption|wp_step))
theorem iM{M:Model}{c:Γ}{Q:Unit->Θ->Prop}(X:K.In h)(i:h.get? a=↑o)(hc:o.cls= .ref C)(f:mroIn K C (.type "BaseException")=↑true)(l:Q () #[h,g,d,t,os]):ε M A (checkBuiltinCall "BaseException.__getattribute__" #[[-a,c],[]]) Q E #[h,g,d,t,os]:=by
 have hk:builtinKind "BaseException.__getattribute__"=some .slot:=by decide +kernel
 have e:splitId "BaseException.__getattribute__"=↑("BaseException","__getattribute__"):=by decide +kernel
 have j:=looks_mroIn (M:=M) X f
 have m:=F.args_bexc_ga (-a) c;simp only[checkBuiltinCall,hk,e];refine Ja ?_
 .unfold isInstance
  repeat (first|(with_reducible refine JT i ?_;rw[hc])|with_reducible refine j.at ?_|wp_step)
  exact l
theorem mP{tk:Tok}{R:Result->Θ->Prop}(X:K.In h)(f:h.get? a=↑o)(hc:o.cls= .ref C)(hm:mroIn K C (.type "object")=↑true)(e:mroIn K C (.type "BaseException")=↑true)(c:findIn K (-C) "__class__"=↑(↑(.builtin "object.__class__")))(i:R (.ok (.ret (-C))) #[h,g,d,t,os]):
  codeAny (model prog w) A (.call (.builtin "BaseException.__getattribute__") #[[-a,.str "__class__" tk],[]]) R #[h,g,d,t,os]:=
 GV PySem.F.attr_ValueError.ga.plain F.entry_bexc_ga (iM X f hc e (lG X f hc hm c i))
theorem rF{tk:Tok}{Q:HD}(X:K.In h)(l:h.get? a=↑o)(hc:o.cls= .ref C)(hm:mroIn K C (.type "object")=↑true)(i:mroIn K C (.type "BaseException")=↑true)(j:findIn K (-C) "__class__"=↑(↑(.builtin "object.__class__")))
  (f:findIn K (-C) "__getattribute__"=↑(↑(.builtin "BaseException.__getattribute__")))(c:findIn K (-C) "__getattr__"=↑none)(r:Q (-C) #[h,g,d,t,os]):
  ε (model prog w) A (getAttrBy (-a) (.str "__class__" tk) false) Q E #[h,g,d,t,os]:=by
 have q:=PySem.F.attr_ValueError.ga.bind (-a);have e:(Γ.builtin "BaseException.__getattribute__"==Γ.builtin "object.__getattribute__")=false:=by decide +kernel
 have p:(onTheHeap (Γ.ref C)&&Γ.builtin "BaseException.__getattribute__"==Γ.builtin "object.__getattribute__")=false:=by rw[e];rfl
 have n:=FV (M:=model prog w) X f
 have m:=FV (M:=model prog w) X c
 repeat (any_goals (first|assumption|(with_reducible refine JT l ?_;rw[hc])|with_reducible refine n.at ?_|with_reducible refine m.at ?_|wp_step))
 refine mP X l hc hm i j ?_
 repeat (any_goals (first|assumption|wp_step))
theorem l7{Q:Ν->Θ->Prop}(X:K.In h)(j:h.get? a=↑o)(hc:o.cls= .ref C)(hm:mroIn K C (.type "object")=↑true)(f:mroIn K C (.type "BaseException")=↑true)(i:findIn K (-C) "__class__"=↑(↑(.builtin "object.__class__")))
  (e:findIn K (-C) "__getattribute__"=↑(↑(.builtin "BaseException.__getattribute__")))(c:findIn K (-C) "__getattr__"=↑none)(l:Q ↑(-C) #[h,g,d,t+1,os]):
  ε (model prog w) A (getAttr? (-a) "__class__") Q E #[h,g,d,t,os]:=by
 unfold getAttr? getAttrBy?
 repeat (any_goals (first|assumption|with_reducible apply rF X j hc hm f i e c|wp_step))
end
end L3
namespace L3
open PySem PySem.Spec PyProof.Rows L2
structure Nx(K:ι)(C:Δ):Prop where
 m:PySem.W.mroIn K C (.type "object")=↑true
 b:PySem.W.mroIn K C (.type "BaseException")=↑true
 cl:PySem.W.findIn K (-C) "__class__"=↑(↑(.builtin "object.__class__"))
 ga:PySem.W.findIn K (-C) "__getattribute__"=↑(↑(.builtin "BaseException.__getattribute__"))
 gt:PySem.W.findIn K (-C) "__getattr__"=↑none
 cd:(PySem.W.clsIn K C).isSome=true
theorem pT{K:ι}{a C:Δ}(c:Nx K C):W.KitX K (-a) (-C) (λh=>∃o,h.get? a=↑o/\o.cls= .ref C) where
 ty:=λM h _ ⟨o,e,m⟩=>m▸(W.Looks.ld e).andThen .now
 it:=λ_ _ X _=>by
  let#[r,f]:=Gg.mp c.cd;unfold W.clsIn at f;split at f
  .rename_i c' v j p l
   intro y D B s' k q;unfold isType loadHead;exact Ja (wpAny_loadPart (k _ _ (X _ _ l)) (Ji q))
  .cases f
 ne:=λh x dd u n F X i=>by
  let#[r,f]:=Gg.mp c.cd;refine Iy.mpr λq=>?_
  have e:C=x:=Γ.ref.inj (Fu.mp q)
  subst e;unfold W.clsIn at f;split at f
  .rename_i c' v j p l
   have z:=(X _ _ l).symm.trans i;cases z
  .cases f
 ca:=λ{prog w A E Q s} X ⟨o,e,m⟩ k=>by
  let#[h,g,d,t,os]:=s;exact l7 X e m c.m c.b c.cl c.ga c.gt k
end L3
namespace L3
open PySem PySem.Spec PyProof.Rows L2 SeqAt
def i9:Γ->Bool
 | .bool b=>b
 |_=>false
theorem kF:∀bs:List Bool,(bs.map Γ.bool).countP i9=bs.count true
 | []=>rfl
 |b::r=>by
  rw[JW,List.countP_cons,List.count_cons,kF r];cases b<;>rfl
theorem wb{X:Cx}:iK X "list.count" (λx i H Q=>∃(l:Δ) (bs:List Bool),x= .ref l/\i=[.bl true]/\H l=↑(.lst (bs.map V.bl))/\Q (.int (bs.count true:Nat)) H):=by
 intro tx s σ H x xs v p Q I d j h;let#[l,bs,rfl,rfl,m,q]:=h;cases d;let#[u,rfl,g]:=j.one
 cases(show u=Γ.bool true from g)
 let#[z,f,n,c,a]:=I.hok l _ m;have e:=fV c;subst e;refine FS F.slot_list_count #[_,a,Z] F.entry_list_count (F.args_list_count_2 _ _) (list_countAt l _ n none _ (.bool true) i9) #[a,λy o=>?_,?_]
 .let#[b,_,rfl]:=JA.mp (show y∈bs.map Γ.bool by simpa using o)
  have:=EqAt.bool_bool (A:=X.A.in1) (s:=s) b true
  cases b<;>exact this
 .exists .int _,H,I.tok _,#[0]
  show Q (.int (((bs.map Γ.bool).toArray.toList.countP i9:Nat):Int)) H
  rw[List.toList_toArray,kF];exact q
theorem uV{X:Cx}:iK X "list.index" (λx t H Q=>∃(l:Δ) (bs:List Bool) (j:Nat),x= .ref l/\t=[.bl true]/\H l=↑(.lst (bs.map V.bl))/\bs[j]? =↑true/\(∀m,m<j->bs[m]? =↑false)/\j<1000/\Q (.int j) H):=by
 intro tx s σ H x xs v E Q I o w h;let#[l,bs,j,rfl,rfl,B,f,c,G,q]:=h;cases o;let#[u,rfl,r]:=w.one
 cases(show u=Γ.bool true from r)
 let#[z,p,n,i,g]:=I.hok l _ B;have e:=fV i;subst e;have a:j<bs.length:=(Jt.mp f).1
 refine FS F.slot_list_index #[_,g,Z] F.entry_list_index (F.args_list_index_2 _ _) (list_indexAt l _ n none _ (.bool true) i9 j (by simpa using a) (by omega) ?_ ?_) #[g,λy C=>?_,?_]
 .simp only[List.getElem_toArray,GR]
  rw[(Jt.mp f).2];rfl
 .intro m D d
  simp only[List.getElem_toArray,GR];rw[(Jt.mp (c m d)).2];rfl
 .let#[b,_,rfl]:=JA.mp (show y∈bs.map Γ.bool by simpa using C)
  have:=EqAt.bool_bool (A:=X.A.in1) (s:=s) b true
  cases b<;>exact this
 .exact#[.int _,H,I.tok _,#[0],q]
end L3
namespace L3
open PySem PySem.Spec PyProof.Rows L2
theorem yl{k:qR}(h:(zj P w).is k u=true):HN (kV k) u:=by
 rcases Qp (show fT k u=true from h)with⟨i,t,rfl,rfl⟩|⟨x,t,rfl,rfl⟩
 .exact#[t,Z]
 .exact#[t,Z]
theorem uT:∀{kvs:List (qR×V)} {vs:List (qR×Γ)},KV kvs vs->∀(i:Nat) a b,kvs[i]? =↑a->vs[i]? =↑b->a.1=b.1
 |_,_,.nil,i,a,b,h,_=>by cases h
 |_,_,.cons r t,0,a,b,h1,h2=>by cases h1;cases h2;exact r.1
 |_,_,.cons r t,i+1,a,b,h1,h2=>uT t i a b h1 h2
theorem HL.thaw(I:L2.HL X tx σ H s)(f:H d=↑(.frz o (.dK kvs)))(r:∀o u,X.H₀ d≠↑(.frz o u)):L2.HL X tx σ (HI H d (.dK kvs)) s:=by
 have ne:∀b,H b=none->b≠d:=λb e z=>by subst z;rw[f]at e;cases e
 have a:∀b,H b=none->HI H d (.dK kvs) b=none:=λb e=>by rw[qk (ne b e)];exact e
 refine#[I.ok,I.os,I.bare,#[I.base.keep,I.base.slot,λb h q n j=>a b (I.base.free b h q n j),I.base.there,λb xs q=>?_,λb h u q=>?_,λb ps q=>?_],I.loc,I.cell,a _ I.free,λx c e=>a _ (I.freeC x c e),λp m=>?_,λb u q=>?_,I.len]
 .have:=I.base.tups b xs q
  rw[qk (λz=>by subst z;rw[f]at this;cases this)];exact this
 .rw[qk (λz=>by subst z;exact r _ _ q)];exact I.base.frzs b h u q
 .let#[g,e]:=I.base.tbls b ps q
  exact#[g,by rw[qk (λz=>by subst z;rw[f]at e;cases e)];exact e]
 .let#[l,p2,t]:=I.pin p m
  exact#[l,a _ p2,t]
 .have st:∀{b:Δ} {u:HO},HY X.prog X.w H s.heap b u->HY X.prog X.w (HI H d (.dK kvs)) s.heap b u:=λ{b u} x=>x.stay (λ_ _ _ e=>e) (λc e=>by rw[qk (λz=>by subst z;rw[f]at e;cases e)];exact e) (λc xs e=>by rw[qk (λz=>by subst z;rw[f]at e;cases e)];exact e)
  by_cases i:b=d
  .subst i
   rw[qb]at q;cases q;exact st (I.hok b _ f).2
  .rw[qk i]at q
   exact st (I.hok b u q)
noncomputable abbrev Ql:Ζ:=[.type "ValueError",.type "Exception",.type "BaseException",.type "object"]
structure Xa where
 e:Δ
 k:Δ
 f:Δ
 u:Δ
 t:Δ
 b:Δ
 w:Δ
 l:Δ
 r:Δ
noncomputable def Xa.all(x:Xa):Η:=[x.b,x.k,x.f,x.u,x.t,x.w,x.l,x.r]
theorem Er{l:Η}(c:l.Nodup)(h:l[j]? =↑C)(m:Nat):(l.map λD=>decide (C=D))[m]? =if m<l.length then ↑(decide (m=j))else none:=by
 rw[Jp]
 by_cases a:m<l.length
 .rw[Jd a,Jk a]
  show ↑(decide (C=l[m]))=_
  congr 1
  rw[decide_eq_decide];let#[d,e]:=Jt.mp h;constructor
  .intro z
   exact(List.getElem?_inj a c).mp (by rw[h,Jk a,z])
  .intro z;subst z;exact e.symm
 .rw[Jc a,Gw (by omega)];rfl
theorem rJ{K:ι}{x:Xa}{C:Δ}(h1:W.kitOne K (-C) (-x.b)=↑(decide (C=x.b)))(d:W.kitOne K (-C) (-x.k)=↑(decide (C=x.k)))(f:W.kitOne K (-C) (-x.f)=↑(decide (C=x.f)))(i:W.kitOne K (-C) (-x.u)=↑(decide (C=x.u)))
  (g:W.kitOne K (-C) (-x.t)=↑(decide (C=x.t)))(e:W.kitOne K (-C) (-x.w)=↑(decide (C=x.w)))(c:W.kitOne K (-C) (-x.l)=↑(decide (C=x.l)))(h:W.kitOne K (-C) (-x.r)=↑(decide (C=x.r))):∀D∈x.all,W.kitOne K (-C) (-D)=↑(decide (C=D)):=by
 intro D a;simp only[Xa.all,Jh,Jr,Js]at a;rcases a with rfl|rfl|rfl|rfl|rfl|rfl|rfl|rfl
 .exact h1
 .exact d
 .exact f
 .exact i
 .exact g
 .exact e
 .exact c
 .exact h
inductive O6 (K:ι) (H:Hp):Nat->V->V->Prop where
 |int (n:Nat) (i:Int):O6 K H n (.int i) (.int i)
 |str (n:Nat) (x:Str):O6 K H n (.str x) (.str x)
 |non (n:Nat):O6 K H n .non .non
 | tup {n:Nat} {a b:Δ} {xs ys:Β} (h1:HQ K H a xs) (h2:HQ K H b ys) (hl:xs.length=ys.length)
   (hi:∀(i:Nat) (x y:V),xs[i]? =↑x->ys[i]? =↑y->O6 K H n x y):O6 K H (n+1) (-a) (-b)
section
open SeqAt
theorem CK(I:L2.HL X tx σ H s){n:Nat}{x y:V}(h:O6 X.K H n x y):∀{v u:Γ} {A:Around},HN x v->HN y u->A.units+n<cLine->EqAt A s v u true:=by
 induction h with
 |int n i=>rintro v u A ⟨t,rfl⟩ ⟨m,rfl⟩ _;have:=EqAt.int_int (A:=A) (s:=s) i t i m;rwa [Fw]at this
 |str n z=>rintro v u A ⟨t,rfl⟩ ⟨m,rfl⟩ _;have:=EqAt.str_str (A:=A) (s:=s) z t z m;rwa [Fw]at this
 |non n=>
  intro v u A l g _
  cases(show v=Γ.none from l)
  cases(show u=Γ.none from g)
  exact EqAt.same _
 | @tup n a b xs ys h1 h2 hl _ ih=>
  intro v u A l g G
  cases(show v=Γ.ref a from l)
  cases(show u=Γ.ref b from g)
  by_cases f:a=b
  .rw[f];exact EqAt.same _
  .let#[d,p,C,_]:=I.tuple h1
   let#[c,o,p2,_]:=I.tuple h2;have F:=p.length;have E:=o.length;have e:=RcAt.tuples (A:=A) (e:=λ_=>true) (show s.heap.IsTuple a d.toArray from C) (show s.heap.IsTuple b c.toArray from p2) (by lia) (λj r D=>by
    let#[x,ex,q]:=QL p (j:=j) (by simpa using r)
    let#[y,B,w]:=QL o (j:=j) (by simpa using D)
    exact ih j x y ex B q w (by rw[Gy];lia))
   rw[fg,show(d.toArray.size==c.toArray.size)=true by simp;lia]at e
   exact EqAt.of_refs f e
theorem C3(I:L2.HL X tx σ H s)(h:O6 X.K H n x y)(o:HN x v)(m:HN y u)(J:A.units+n<cLine):RcAt A s v u true/\RcNeAt A s v u false:=by
 cases h with
 |int n i=>
  let#[t,rfl]:=o;let#[l,rfl]:=m;have f:=RcAt.int_int (A:=A) (s:=s) i t i l
  have g:=RcNeAt.int_int (A:=A) (s:=s) i t i l
  rw[Fw]at f g
  exact#[f,g]
 |str n z=>
  let#[t,rfl]:=o;let#[l,rfl]:=m;have f:=RcAt.str_str (A:=A) (s:=s) z t z l
  have g:=RcNeAt.str_str (A:=A) (s:=s) z t z l
  rw[Fw]at f g
  exact#[f,g]
 |non n=>
  cases(show v=Γ.none from o)
  cases(show u=Γ.none from m)
  exact#[RcAt.none_none,RcNeAt.none_none]
 | @tup n a b xs ys h1 h2 hl ih=>
  cases(show v=Γ.ref a from o)
  cases(show u=Γ.ref b from m)
  let#[d,w,q,_]:=I.tuple h1;let#[c,p,p2,_]:=I.tuple h2;have K:=w.length;have G:=p.length;have B:∀j (r:j<d.toArray.size) (C:j<c.toArray.size),EqAt A.in1 s d.toArray[j] c.toArray[j] ((λ_=>true) j):=λj r C=>by
   let#[x,ex,F]:=QL w (j:=j) (by simpa using r)
   let#[y,E,D]:=QL p (j:=j) (by simpa using C)
   exact CK I (ih j x y ex E) F D (by rw[Gy];lia)
  have f:=RcAt.tuples (A:=A) (e:=λ_=>true) (show s.heap.IsTuple a d.toArray from q) (show s.heap.IsTuple b c.toArray from p2) (by lia) B
  have g:=RcNeAt.tuples (A:=A) (e:=λ_=>true) (show s.heap.IsTuple a d.toArray from q) (show s.heap.IsTuple b c.toArray from p2) (by lia) B
  rw[fg,show(d.toArray.size==c.toArray.size)=true by simp;lia]at f g
  exact#[f,g]
inductive P7 (K:ι) (b:Bool) (x:V) (y:V) (H:Hp) (Q:VK):Prop
 |mk (n:_) (h1:n<=32) (h2:O6 K H n x y) (h3:Q (.bl b) H)
theorem Cq{k:Nat}(d:Lb k X.A):Qq X (compareOp .NotEq) (P7 X.K false):=by
 intro tx s σ H x y v u Q I a c h;let#[n,f,e,q]:=h
 exact(C3 I e a c (by have:=d.un;lia)).2 _ _ _ _ ⟨.bl _,H,I,Z,q⟩
end
structure XGx(K:ι)(mg:HE)(x:Xa):Prop where
 g_CodeError:mg "CodeError"=↑(-x.e)
 g_Known:mg "Known"=↑(-x.k)
 g_Full:mg "Full"=↑(-x.f)
 g_Unknown:mg "Unknown"=↑(-x.u)
 g_TooMany:mg "TooMany"=↑(-x.t)
 g_BadPress:mg "BadPress"=↑(-x.b)
 g_Worn:mg "Worn"=↑(-x.w)
 g_BadLog:mg "BadLog"=↑(-x.l)
 g_BadRow:mg "BadRow"=↑(-x.r)
 e_CodeError:ay K x.e Ql Ql "ValueError.__new__"=true
 nd:x.all.Nodup
 b_ValueError:mg "ValueError"=none
structure Nb(K:ι)(x:Xa)(C:Δ):Prop where
 e:ay K C (.ref x.e::Ql) Ql "ValueError.__new__"=true
 c:Nx K C
 i:∀D∈x.all,PySem.W.kitOne K (-C) (-D)=↑(decide (C=D))
 v:PySem.W.kitOne K (-C) (.type "ValueError")=↑true
section
variable(K:ι)(C:Δ)
inductive OH (vs:Β) (H:Hp) (Q:VK) (_3:XK):Prop
 |mk (p ta hk bd lg:Δ) (n:Nat) (D:Dr) (h1:vs=[-p]) (h2:HK K C H p ta hk bd lg n D) (h3:∀t (as:Η) H',HG H H'->HQ K H' t (as.map V.ref)->as.length=D.kss.length->(∀(i:Nat) (a:Δ) (ks:Ε),as[i]? =↑a->D.kss[i]? =↑ks->HQ K H' a (ks.map V.int))->Q (-t) H')
inductive Ny (vs:Β) (H:Hp) (Q:VK) (_3:XK):Prop
 |mk (p ta hk bd lg:Δ) (n:Nat) (D:Dr) (h1:vs=[-p]) (h2:HK K C H p ta hk bd lg n D) (h3:Q (.int D.least) H)
inductive Nz (vs:Β) (H:Hp) (Q:VK) (_3:XK):Prop
 |mk (p ta hk bd lg:Δ) (n:Nat) (D:Dr) (h1:vs=[-p]) (h2:HK K C H p ta hk bd lg n D) (h3:∀t H',HG H H'->H' t=↑(.tup [.int D.near,.int D.far,.int D.most])->Q (-t) H')
end
structure Ph(h base:Ψ)(e:Δ)(cls:Γ)(dd:Κ)(fl:Γ):Prop where
 ex:∃oe vs T oT ts a0,h.get? e=↑oe/\oe.cls=cls/\oe.dict=dd/\oe.data= .fields vs/\vs[0]? =↑a0/\vs[1]? =↑(-T)/\base.get? T=none/\T≠e/\h.get? T=↑oT/\oT.data= .fields ts/\ts[3]? =↑fl
theorem yj(o:Obj)(f:Array Γ->Array Γ):(o.mapFields f).dict=o.dict:=by let#[c,d,a,e]:=o;cases a<;>rfl
section
variable{A:Around}{s:Θ}{base:Ψ}{env:Env}{outer:Ο}{L e:Δ}
theorem vM{j:Obj}{vs:Array Γ}{c J:Γ}{a:Bool}{Q:Unit->Θ->Prop}(F:A.frames=↑(env::outer))(y:s.heap.FunFrames base (env::outer))(T:env.frame=↑L)(H:s.heap.get? e=↑j)(B:base.StaysIn s.heap)(C:base.get? e=none)(w:j.data= .fields vs)(hsz:1<vs.size)(R:vs[0]? =↑J)
  (k:∀h',base.StaysIn h'->h'.FunFrames base (env::outer)->Ph h' base e j.cls j.dict (rawInt L)->s.heap.UpToSlots h'->Q () {s with heap:=h'}):
  ε M A (frameOf env >>= λP=>entryPlaceOf L a >>= λg=>EntryCells.newEntry c P .none (rawInt L) .none g >>= λb=>setField (-e) 1 b) Q E s:=by
 have D:e∉(env::outer).filterMap (·.frame):=λm=>by
  let#[_,o,q,f]:=y.mem m;rw[H]at q;cases q
  exact f vs w
 refine Ja (wpAny_frameOf_fun F y T λh1 v=>Ja (wpAny_entryPlaceOf λg u=>?_))
 unfold EntryCells.newEntry newFields;refine Ja (Ft ?_ (u.sizeOk5 _ _ _ _ _))
 let#[nO,d]:∃nO:Obj,nO=#[.type "traceback",none,.fields ([c,-L,.none,rawInt L,.none]++(if g.isEmpty then List.replicate 6 Γ.none else g)).toArray,(List.toArray [])]:=#[0]
 show ε M A (setField (-e) 1 (-h1.objs.size)) Q E {s with heap:=h1.push #[.type "traceback",none,.fields ([c,-L,.none,rawInt L,.none]++(if g.isEmpty then List.replicate 6 Γ.none else g)).toArray,(List.toArray [])]}
 rw[<- d];let#[x,r,S]:∃x,nO.data= .fields x/\x[3]? =↑(rawInt L):=#[_,by rw[d],by first|(simp;done)|(rcases u with rfl|⟨_,_,_,_,_,_,_,rfl⟩<;>simp)]
 have t:nO.isFreed=false:=Gp r
 clear d;have K:h1.get? e=↑j:=(v.2.1 e D).trans H
 have N:=Jj (h:=h1) nO K
 have l:h1.objs.size≠e:=J2 (Jl K)
 have I:=FM w (·.setIfInBounds 1 (Γ.ref h1.objs.size))
 have U:=FQ (Obj.mapFields (·.setIfInBounds 1 (Γ.ref h1.objs.size))) N (Gp I)
 have keep:∀b o,b≠e->h1.get? b=↑o->((h1.push nO).update e (Obj.mapFields (·.setIfInBounds 1 (Γ.ref h1.objs.size)))).get? b=↑o:=λb o n q=>by
  rw[FJ _ _ n.symm];exact Jj _ q
 have W:((h1.push nO).update e (Obj.mapFields (·.setIfInBounds 1 (Γ.ref h1.objs.size)))).get? h1.objs.size=↑nO:=by
  rw[FJ _ _ l.symm];exact Ju h1 t
 have p:base.StaysIn h1:=λb o q=>(v.2.1 b λm=>by rw[(y.mem m).1]at q;cases q).trans (B b o q)
 have i:∀b o,s.heap.get? b=↑o->(∀vs,o.data≠ .fields vs)->b≠e:=λb o q f z=>by
  rw[z,H]at q;cases q;exact f vs w
 refine FT N w hsz (k _ (λb o q=>keep b o (λz=>by rw[z,C]at q;cases q) (p b o q)) (y.of_keeps λb o q f=>?_) #[8,h1.objs.size,nO,x,J,U,Obj.cls_mapFields _ _,yj _ _,I,by rw[Array.getElem?_setIfInBounds_ne ⋯];exact R,by simp [hsz],p.fresh,l,W,r,S] λb o q f=>?_)
 .let#[O,G]:=v.2.2 b o q
  exact#[_,keep b _ (i b o q f) G,Z]
 .let#[O,G]:=v.2.2 b o q
  exact#[O,keep b _ (i b o q f) G]
theorem je{l:Ο}{Q:Unit->Θ->Prop}(h:base.StaysIn s.heap)(C:s.heap.FunFrames base l)(t:Ph s.heap base e cls dd fl)
  (k:∀h',base.StaysIn h'->h'.FunFrames base l->Ph h' base e cls dd .none->s.heap.UpToSlots h'->Q () {s with heap:=h'}):ε M A (setFlight (-e) none) Q E s:=by
 let#[x,j,T,F,B,w,u,D,i,r,v,h1,p,d,m,g,y]:=t.ex;have sz:=(GP.mp y).1;have a:∀b,b≠T->(s.heap.update T (Obj.mapFields (·.setIfInBounds 3 Γ.none))).get? b=s.heap.get? b:=λb n=>FJ _ _ n.symm
 have c:∀b o,s.heap.get? b=↑o->(∀j,o.data≠ .fields j)->b≠T:=λb o q f z=>by
  rw[z,m]at q;cases q;exact f B g
 unfold setFlight;refine Ja (JJ u r h1 ?_)
 rw[Jd (show(Γ.ref T != Γ.none)=true from by simp)]
 refine FT m g sz (k _ (λb o q=>(a b λz=>by rw[z,p]at q;cases q).trans (h b o q)) (C.of_keeps λb o q f=>#[o,(a b (c b o q f)).trans q,Z]) #[x,j,T,8,w,(a e d.symm).trans u,D,i,r,v,h1,p,d,FQ _ m (Gp (FM g _)),FM g _,by simp [sz]] λb o q f=>#[o.slots,(a b (c b o q f)).trans q])
theorem Ck{a:Obj}{vs:Array Γ}{q:Γ}{Q:Unit->Θ->Prop}(d:A.frames=↑(env::outer))(t:s.heap.FunFrames base (env::outer))(j:env.frame=↑L)(i:s.heap.get? e=↑a)(f:base.StaysIn s.heap)(c:base.get? e=none)(h:a.data= .fields vs)(h1:vs[1]? =some .none)(o:vs[0]? =↑q)
  (k:∀h',base.StaysIn h'->h'.FunFrames base (env::outer)->Ph h' base e a.cls a.dict .none->s.heap.UpToSlots h'->Q () {s with heap:=h'}):ε M A (leaving env (-e)) Q E s:=by
 unfold leaving noteFrame;simp only[j];refine Ja (Ja (JJ i h h1 ?_))
 rw[Jc ⋯]
 exact vM d t j i f c h (GP.mp h1).1 o λh' k1 k2 k3 p=>je k1 k2 k3 λg r m n l=>k g r m n (p.trans l)
theorem vR{Q:Unit->Θ->Prop}(l:A.frames=↑(env::outer))(G:s.heap.FunFrames base (env::outer))(v:env.frame=↑L)(t:Ph s.heap base e cls dd .none)(f:base.StaysIn s.heap)(j:base.get? e=none)
  (k:∀h',base.StaysIn h'->h'.FunFrames base (env::outer)->Ph h' base e cls dd (rawInt L)->s.heap.UpToSlots h'->Q () {s with heap:=h'}):ε M A (noteFrame (-e) env) Q E s:=by
 let#[K,r,T,N,F,J,w,I,h,p,x,h1,y,i,m,g,u]:=t.ex;subst I h;have a:∀b,b≠T->(s.heap.update T (Obj.mapFields (·.setIfInBounds 3 Γ.none))).get? b=s.heap.get? b:=λb n=>FJ _ _ n.symm
 have d:∀b o,s.heap.get? b=↑o->(∀r,o.data≠ .fields r)->b≠T:=λb o q c z=>by
  rw[z,m]at q;cases q;exact c F g
 unfold noteFrame;simp only[v];refine Ja (JJ w p h1 ?_)
 rw[Jd (show(Γ.ref T != Γ.none)=true from by simp)]
 refine Ja (JJ m g u ?_)
 rw[Jc (show¬((Γ.none==rawInt L)=true)from by simp [rawInt])]
 refine Ja (FT m g (GP.mp u).1 ?_)
 exact vM l (G.of_keeps λb o q c=>#[o,(a b (d b o q c)).trans q,Z]) v ((a e i.symm).trans w) (λb o q=>(a b λz=>by rw[z,y]at q;cases q).trans (f b o q)) j p (GP.mp h1).1 x
  λh' B C H D=>k h' B C H λb o q c=>D b o ((a b (d b o q c)).trans q) c
end
end L3
namespace L3
open PySem PySem.Spec PySem.Calls PySem.W PyProof.Rows Builtin Builtin.ObjectAttr
noncomputable abbrev jY(t:Δ):Array Γ:= (List.toArray [-t,.none,.none,.none,.bool false,.none])
section
variable{prog:Ξ}{w:Ω}{A:Around}{E:HD}{K:ι}{h:Ψ}{g:Array GenState}{d:Drawn}{t:Nat}{os:OsState}
variable{nm q:Str}{C N:Δ}{bs bm bmB:Ζ}{hdct:Bool}{sn:Α}{sub:Ζ}{ab:Bool}{col:Option Bool}{dd:Κ}{k0 k1 k2 k3 k5:Ν}{B newId initId:String}{e:Δ}
theorem nY(F:ExcBaseFacts B newId initId bmB)(T:OwnTail h bmB bm)(m:h.get? C=↑(excClassObj nm q C N bs bm hdct sn sub ab col dd k0 k1 k2 k3 k5 newId)){j:Κ}{i:Array Ν}{l:Δ}{c:Γ}{Q:HD}(f:h.get? e=some #[-C,j,.fields (jY l),i])
  (k:∀h',h'.get? e=some #[-C,j,.fields (jY h.objs.size),i]->(∀b o,b≠e->h.get? b=↑o->h'.get? b=↑o)->Q .none #[h',g,d,t,os]):
  ε (model prog w) A (call (.builtin initId) [-e,c]) Q E #[h,g,d,t,os]:=by
 refine Gf (GV F.init.plain F.initEntry (wpAny_check_init_subT F T m f Z ?_))
 unfold γ.«BaseException.__init__» γ.BaseException.bexcPut
 have a:=Jj (h:=h) {cls:= .type "tuple",data:= .seq [c].toArray} f
 repeat (first|with_reducible refine JJ a Z Z ?_|wp_step)
 exact k _ (FQ _ a Z) λb o n z=>by rw[FJ _ _ n.symm];exact Jj _ z
theorem ve{CE:Δ}{name:Str}{v:Γ}{vs:Array Γ}{B:Array Ν}{Q:Unit->Θ->Prop}(X:K.In h)(G:h.get? C=↑(excClassObj nm q C N bs [-CE,.type "ValueError",.type "Exception",.type "BaseException",.type "object"] true sn sub ab col dd k0 k1 k2 k3 k5 newId))
  (s:findIn K (-C) name=↑none)(D:findIn K (-C) "__setattr__"=↑(↑(.builtin "object.__setattr__")))(f:h.get? e=some #[-C,none,.fields vs,B])
  (k:∀h' p,h'.get? e=some #[-C,↑h.objs.size,.fields vs,B]->h'.Ns1 h.objs.size (λy=>if y=name then ↑v else none)->(∀b o,b≠e->h.get? b=↑o->h'.get? b=↑o)->Q () #[h',g,d,p,os]):
  ε (model prog w) A (setAttr (-e) name v) Q E #[h,g,d,t,os]:=by
 have c:=PySem.F.store_ValueError;have f3:=c.slot.bind (-e);have H:=FV (M:=model prog w) X s
 have U:=FV (M:=model prog w) X D
 unfold setAttr callSpecial? specialOf
 repeat (any_goals (first|assumption|with_reducible refine JT f ?_|with_reducible refine U.at ?_|wp_step))
 have r:(Γ.ref C::[Γ.ref CE,.type "ValueError",.type "Exception",.type "BaseException",.type "object"]).contains (.type "object")=true:=by simp
 have ha:=c.args (-e) (.str name t) v;refine GV c.slot.plain c.entry ?_
 simp only[checkBuiltinCall,c.kind,c.split];refine Ja ?_
 unfold isInstance
 repeat (first|with_reducible refine JT f ?_|(with_reducible refine GU G ?_;rw[r])|wp_step)
 refine H.at ?_
 unfold storeInOwnDict
 repeat (first|with_reducible refine JT f ?_|with_reducible refine JT G ?_|with_reducible refine wpAny_nsSet1 (m:=λ_=>none) ?hns ?hk|wp_step)
 case hns=>
  have a:h.objs.size≠e:=J2 (Jl f)
  exact Ψ.Ns1.of_empty #[_,(List.toArray []),_,(Ψ.get?_update_ne _ _ _ _ a).trans (Ψ.get?_push_at Z Z),Z,(λz I=>absurd I (by simp)),λ_=>rfl]
 case hk=>
  intro h' i F;have a:e≠h.objs.size:=Jx (Jl f)
  have l:(h.push {cls:= .type "dict",data:= .dict (List.toArray [])}).get? e=some #[-C,none,.fields vs,B]:=Jj _ f
  let#[Y,T,O,u,j,x]:=i.count (Within.cons name v Within.nil)
  refine Ja (wpAny_lookBehind u (by rw[j];exact pastItsLine_dict (JI x (by rw[J7,List.length_nil,Jn];omega))) ?_)
  wp_walk
  refine k h' _ ((F.2 e a).trans (FQ _ l Z)) ?_ λb o n z=>?_
  .let#[o',es,W,L,P,R,J,S]:=i
   exact#[o',es,W,L,P,R,J,S]
  .exact(F.2 b (Jx (Jl z))).trans ((Ψ.get?_update_ne _ _ _ _ n).trans (Jj _ z))
end
section
variable{prog:Ξ}{w:Ω}{A:Around}{E:HD}{K:ι}{h:Ψ}{g:Array GenState}{d:Drawn}{t:Nat}{os:OsState}
variable{nm q:Str}{C N:Δ}{bs bm:Ζ}{sn:Α}{sub:Ζ}{ab:Bool}{col:Option Bool}{dd:Κ}{k0 k1 k2 k3 k5:Ν}{newId:String}{e:Δ}
theorem wY{name:Str}{v:Γ}{o:Obj}{dx:Δ}{mA:HE}{a:Bool}{Q:HD}(X:K.In h)(D:h.get? C=↑(excClassObj nm q C N bs bm true sn sub ab col dd k0 k1 k2 k3 k5 newId))(i:h.get? e=↑o)(hc:o.cls= .ref C)(r:∀c,o.data≠ .cls c)(l:o.dict=↑dx)(f:h.Ns1 dx mA)(x:mA name=↑v)(I:handedOut v=pure v)
  (m:mroIn K C (.type "BaseException")=↑true)(p:findIn K (-C) name=↑none)(u:findIn K (-C) "__getattribute__"=↑(↑(.builtin "BaseException.__getattribute__")))(s:findIn K (-C) "__getattr__"=↑none)(k:Q v #[h,g,d,t+1,os]):
  ε (model prog w) A (getAttr (-e) name a) Q E #[h,g,d,t,os]:=by
 have J:=PySem.F.attr_ValueError.ga.bind (-e);have H:(a&&onTheHeap (Γ.builtin "BaseException.__getattribute__"))=false:=by cases a<;>rfl
 have j:(Γ.builtin "BaseException.__getattribute__"==Γ.builtin "object.__getattribute__")=false:=by decide +kernel
 have z:(onTheHeap (Γ.ref C)&&Γ.builtin "BaseException.__getattribute__"==Γ.builtin "object.__getattribute__")=false:=by rw[j];rfl
 have y:=FV (M:=model prog w) X u
 have G:=FV (M:=model prog w) X s
 have B:=FV (M:=model prog w) X p
 unfold getAttr getAttrBy
 repeat (any_goals (first|assumption|(with_reducible refine JT i ?_;rw[hc])|with_reducible refine y.at ?_|with_reducible refine G.at ?_|wp_step))
 refine GV PySem.F.attr_ValueError.ga.plain F.entry_bexc_ga (iM X i hc m ?_)
 repeat (any_goals (first|assumption|(with_reducible refine JT i ?_;rw[hc])|with_reducible refine B.at ?_|(with_reducible refine wpAny_nsGet f.ns ?_;rw[x])|wp_step))
 split
 .rename_i c n
  exact absurd n (r c)
 unfold instanceDict
 repeat (first|(with_reducible refine JT i ?_;rw[hc])|with_reducible refine JT D ?_|wp_step)
 rw[l]
 repeat (first|(with_reducible refine wpAny_nsGet f.ns ?_;rw[x])|wp_step)
 exact k
end
section
variable{prog:Ξ}{w:Ω}{A:Around}{E:HD}{h:Ψ}{g:Array GenState}{d:Drawn}{t:Nat}{os:OsState}
variable{nm q:Str}{C N:Δ}{bs bm bmB:Ζ}{hdct:Bool}{sn:Α}{sub:Ζ}{ab:Bool}{col:Option Bool}{dd:Κ}{k0 k1 k2 k3 k5:Ν}{B newId initId:String}{e:Δ}
theorem wu(F:ExcBaseFacts B newId initId bmB)(T:OwnTail h bmB bm){I:HE}{rest:Ζ}{fI:Δ}{H:Obj}{Q:Fin->Θ->Prop}(s:h.get? C=↑(excClassObj nm q C N bs bm hdct sn sub ab col dd k0 k1 k2 k3 k5 newId))(hn:h.Ns N I)(hi:I "__init__"=↑(-fI))(u:h.get? fI=↑H)(x:H.cls= .type "function")(j:rest.length<=ζ)
  (k:∀h' e,h.objs.size<=e->Ψ.MadeExcOf h h' e (-C) rest->ε (model prog w) A (call (-fI) (.ref e::rest)) (λr s'=>r= .none/\Q (.done (.ret (-e))) s') E #[h',g,d,t,os]):
  ε (model prog w) A (γ.«type.__call__» #[.ref C::rest,[]]) Q E #[h,g,d,t,os]:=by
 repeat (first|with_reducible refine JT s ?_|with_reducible refine wpAny_madeBy_exc s ?_|wp_step)
 refine codeAny_call_builtin_code (Iw _ F.quiet) (wpAny_check_new_subT F T s (codeAny_exc_new_subT F T s ?_ j))
 show ε _ _ _ _ _ _
 let#[i,c]:∃i:Obj,i=#[.type "tuple",none,.seq rest.toArray 0,(List.toArray [])]:=#[0]
 let#[f,a]:∃f:Obj,f=#[-C,none,.fields (jY h.objs.size),(List.toArray [])]:=#[0]
 have up:∀b o,h.get? b=↑o->((h.push i).push f).get? b=↑o:=λb o z=>Jj _ (Jj _ z)
 have n:((h.push i).push f).get? (h.objs.size+1)=↑f:=by rw[c,a];heap_get
 have y:((h.push i).push f).get? h.objs.size=↑i:=by rw[c,a];exact Jj _ (Ψ.get?_push_at Z Z)
 have v:(Γ.ref C::bm).contains (-C)=true:=by simp
 have p:=up _ _ s;have J:=T.keeps up;have D:=hn.keeps up;have G:f.cls= .ref C:=by rw[a]
 have l:Ψ.MadeExcOf h ((h.push i).push f) (h.objs.size+1) (-C) rest:=#[up,GA (J1 _),h.objs.size,by rw[n,a],GA (Jf _),by rw[y,c]]
 have m:(h.push {cls:= .type "tuple",data:= .seq rest.toArray}).push {cls:= .ref C,data:= .fields (List.toArray [-h.objs.size,.none,.none,.none,.bool false,.none])}=(h.push i).push f:=by rw[c,a]
 rw[m];clear m c a;unfold isInstance
 repeat (first|(with_reducible refine JT n ?_;rw[G])|(with_reducible refine GU p ?_;rw[v])|wp_step)
 show ε _ _ (typeLookup (-C) _) _ _ _
 refine wpAny_typeLookup_tail p D J F.mroIs F.init.lookup ?_
 rw[hi];refine J5 (Ja ?_)
 unfold bindSpecial;refine Ja (wpAny_typeOf (T:="function") #[_,up _ _ u,x] ?_)
 rw[Jd ⋯]
 refine Ji (Ja (JR (k _ _ (J1 _) l) (λr s' z=>?_) λ_ _ z=>z))
 let#[rfl,z]:=z
 wp_walk
 exact z
theorem vm(F:ExcBaseFacts B newId initId bmB)(T:OwnTail h bmB bm){j:HE}{rest:Ζ}{fI:Δ}{l:Obj}{Q:HD}(c:h.get? C=↑(excClassObj nm q C N bs bm hdct sn sub ab col dd k0 k1 k2 k3 k5 newId))(hn:h.Ns N j)(hi:j "__init__"=↑(-fI))(i:h.get? fI=↑l)(f:l.cls= .type "function")(a:rest.length<=ζ)
  (k:∀h' e,h.objs.size<=e->Ψ.MadeExcOf h h' e (-C) rest->ε (model prog w) (A.under (.builtin "type.__call__" #[.ref C::rest,[]])) (call (-fI) (.ref e::rest)) (λr s'=>r= .none/\Q (-e) s') E #[h',g,d,t,os]):
  ε (model prog w) A (call (-C) rest) Q E #[h,g,d,t,os]:=by
 have f1:=tc_lookup;have f2:=tc_bind (-C);have m:(#[h,g,d,t,os]:Θ).TypeIs (-C) "type":=#[_,c,Z]
 refine Gf (codeAny_of_tree ?_)
 show ε _ _ (callAny (-C) _) _ _ _
 repeat (any_goals (first|assumption|with_reducible refine JT c ?_|wp_step))
 exact#[Z,codeAny_call_builtin_at (Iw _ nofun) entry_typeCall (wpAny_check_type_call_sub c (wu F T c hn hi i f a k))]
theorem uu{env:Env}{s:Θ}{x:Sem Γ}{Q:Flow->Θ->Prop}(a:bm.contains (.type "BaseException")=true)(l:A.handled=none)
  (k:ε (model prog w) A x (λv c=>∃e t j i,v= .ref e/\c.heap.get? C=↑(excClassObj nm q C N bs bm hdct sn sub ab col dd k0 k1 k2 k3 k5 newId)/\c.heap.get? e=some #[-C,j,.fields (jY t),i]/\E (-e) c) E s):ε (model prog w) A (raiseStmt env ↑x none) Q E s:=by
 have f:(Γ.ref C::bm).contains (.type "BaseException")=true:=by rw[GS,a,Bool.or_true]
 unfold raiseStmt;refine Ja (JR k (λv c z=>?_) λ_ _ z=>z)
 let#[e,t,j,i,rfl,h,m,n]:=z;let#[o,g,d,tk,os]:=c
 repeat (first|with_reducible refine JT m ?_|with_reducible refine JT h ?_|(with_reducible refine GU h ?_;rw[f])|wp_step)
 exact wpAny_raiseNew_none l n
end
end L3
namespace L3
open PySem PySem.Spec PyProof.Rows L2
noncomputable def M4(a:Δ)(cls:Γ)(dd:Κ):HO:= .ext λh=>∃t c,h.get? a=some #[cls,dd,.fields (jY t),c]
noncomputable def MF(a:Δ)(cls:Γ)(dd:Κ):HO:= .ext λh=>∃o c,h.get? a=↑o/\o.cls=cls/\o.data= .fields c/\o.dict=dd
theorem M4.ok(e:h.get? a=some #[cls,dd,.fields (jY t),c]):HY P w H h a (M4 a cls dd):=
 #[#[t,c,e],#[_,e],λh1 d ⟨t,c,e⟩ k=>#[t,c,k _ e]]
theorem MF.ok(e:h.get? a=↑o)(c:o.cls=cls)(d:o.data= .fields vs)(x:o.dict=dd):HY P w H h a (MF a cls dd):=
 #[#[o,vs,e,c,d,x],#[o,e],λh1 f ⟨o,vs,e,c,d,x⟩ k=>#[o,vs,k o e,c,d,x]]
noncomputable def az(P:Ξ)(w:Ω):gY:=λouter H s E e s'=>∃a cls dd T H',e= .ref a/\s'.os=s.os/\AllBare s'.gens/\Un (QB outer) [] H H' s.heap s'.heap/\LZ P w H' s'.heap/\
 H' a=↑(MF a cls dd)/\s.heap.get? a=none/\s.heap.get? T=none/\H' T=none/\(∃c d g f h,s'.heap.get? a=↑c/\c.cls=cls/\c.dict=dd/\c.data= .fields d/\d[0]? =↑h/\d[1]? =↑(-T)/\T≠a/\s'.heap.get? T=↑g/\g.data= .fields f/\f[3]? =some .none)/\E (-a) none H'
theorem tQ{P:Ξ}{w:Ω}{K:ι}{mg:HE}{base:Ψ}{N:Α}{Rg:Str}{g:Scope}{f:Δ}{S:Γ}{A:Around}{outer:Ο}{i:Θ}{H0:Hp}{E:XK}
  {tx:HF}{σ:L2.St}{H:Hp}{s:Θ}{e:Δ}{cls:Γ}{dd:Κ}(I:L2.HL (QJ (az P w) P w K mg base N Rg g f S A outer i H0 E) tx σ H s)(y:H e=↑(M4 e cls dd))(hn:i.heap.get? e=none)
  (q:E (-e) none (HI H e (MF e cls dd))):(QJ (az P w) P w K mg base N Rg g f S A outer i H0 E).xe (-e) s:=by
 let#[#[t,a1,ee],_,_]:=I.hok e _ y;let#[fl,j]:∃fl,fl=i.heap.objs.size::QB outer:=#[0]
 have Q:QB ((QJ (az P w) P w K mg base N Rg g f S A outer i H0 E).stack)=fl:=j.symm
 have tk:∀c u,H c=↑u->c∉fl:=λc u h hm=>by
  have:=I.stkFree c (by rw[Q];exact hm)
  rw[h]at this;cases this
 have l:Un (QB outer) [] H0 H i.heap s.heap:=I.base
 have ab:∀b o,i.heap.get? b=↑o->b≠i.heap.objs.size:=λb o e z=>absurd (Jl e) (by rw[z];exact J4 _)
 refine Ck (base:=aU s.heap (e::fl)) (L:=i.heap.objs.size) (e:=e) I.ok.frames (aF I.stack λb a=>QX (JD _ (by rw[j];exact a))) Z ee (λb o z=>(gs z).2) (QX (Jy ..)) Z Z Z λh' k1 k2 k3 k4=>?_
 let#[oe,vs,T,oT,ts,a0,e1,h,B,hd,h0,h1,hT,p,eT,Y,h3]:=k3.ex;have J:∀b o,b≠e->b∉fl->s.heap.get? b=↑o->h'.get? b=↑o:=λb o n1 n2 z=>k1 b o (by rw[ap (λm=>(Jh.mp m).elim n1 n2)];exact z)
 have F:∀b o,s.heap.get? b=↑o->b∈fl->∃F,h'.get? b=some {o with slots:=F}:=λb o z m=>by
  let#[_,o',D,W]:=I.stack.mem (show b∈QB _ by rw[Q];exact m)
  rw[z]at D;cases D
  exact k4 b o z W
 have n:s.heap.get? T=none:=by
  cases z:s.heap.get? T with
  |none=>rfl
  |some o=>
   by_cases m:T∈fl
   .let#[_,o',D,W]:=I.stack.mem (show T∈QB _ by rw[Q];exact m)
    let#[s1,G]:=F T o z m;rw[z]at D;cases D
    rw[eT]at G;cases G
    exact absurd Y (W ts)
   .rw[ap (λm'=>(Jh.mp m').elim p m),z]at hT
    cases hT
 have R:H T=none:=LZ.none I.hok n
 have x:∀b o,i.heap.get? b=↑o->b≠e/\b≠T:=λb o a=>by
  let#[o',d]:=l.there b o a (by simp)
  exact#[λz=>by(rw[z,hn]at a;cases a),λz=>by(rw[z,n]at d;cases d)]
 have M:i.heap.get? T=none:=by
  cases z:i.heap.get? T with
  |none=>rfl
  |some o=>
   let#[o',d]:=l.there T o z (by simp)
   rw[n]at d;cases d
 have U:∀b o,i.heap.get? b=↑o->b∉QB outer->b∉fl:=λb o a r m=>by
  rw[j]at m;rcases Jh.mp m with z|z
  .exact ab b o a z
  .exact r z
 refine#[e,cls,dd,T,HI H e (MF e cls dd),Z,I.os,I.bare,#[λb o a hn r _=>?_,λb o a hn r _=>?_,λb o a hn _=>?_,λb o a _=>?_,λb xs a=>?_,λb o u a=>?_,λb ps a=>?_],λb u a=>?_,qb,hn,M,by rw[qk p];exact R,#[oe,vs,oT,ts,a0,e1,h,B,hd,h0,h1,p,eT,Y,h3],q]
 .exact J b o (x b o a).1 (U b o a r) (l.keep b o a hn r (by simp))
 .let#[s1,G]:=l.slot b o a hn r (by simp)
  let#[s2,O]:=F b _ G (by rw[j];exact JD _ r)
  exact#[s2,O]
 .rw[qk (x b o a).1]
  exact l.free b o a hn (by simp)
 .let#[o',d]:=l.there b o a (by simp)
  by_cases z:b∈fl
  .let#[s2,O]:=F b _ d z
   exact#[_,O]
  .exact#[_,J b _ (x b o a).1 z d]
 .have z:=l.tups b xs a
  rw[qk (zr z y (by intro z;cases z))];exact z
 .have z:=l.frzs b o u a
  rw[qk (zr z y (by intro z;cases z))];exact z
 .let#[C,z]:=l.tbls b ps a
  exact#[C,by rw[qk (zr z y (by intro z;cases z))];exact z]
 .by_cases z:b=e
  .subst z
   rw[qb]at a;cases a
   exact MF.ok e1 h hd B
  .rw[qk z]at a
   refine(I.hok b u a).stay (λc v h X=>?_) (λc h=>by rw[qk (zr h y (by intro z;cases z))];exact h) (λc xs h=>by rw[qk (zr h y (by intro z;cases z))];exact h)
   rcases h with rfl|h
   .exact J _ _ z (tk _ _ a) X
   .exact J _ _ (zr h y (by intro z;cases z)) (tk _ _ h) X
def mB(X:Cx)(a:XK):Prop:=∀(tx:HF) (σ:L2.St) (H:Hp) (s:Θ) (e:Δ) (cls:Γ) (dd:Κ),L2.HL X tx σ H s->H e=↑(M4 e cls dd)->X.s₀.heap.get? e=none->a (-e) none (HI H e (MF e cls dd))->X.xe (-e) s
theorem Qc{P:Ξ}{w:Ω}{K:ι}{mg:HE}{base:Ψ}{N:Α}{Rg:Str}{a:Scope}{f:Δ}{e:Γ}{A:Around}{outer:Ο}{c:Θ}{H0:Hp}{E:XK}:
  mB (QJ (az P w) P w K mg base N Rg a f e A outer c H0 E) E:=λ_ _ _ _ _ _ _ I d g q=>tQ I d g q
end L3
namespace L3
open PySem PySem.Spec PySem.Calls PyProof.Rows L2
theorem ng(I:L2.HL X tx σ H s)(k:∀b u,s.heap.get? b=↑u->h'.get? b=↑u)(hn:s.heap.get? a=none)(new:HY X.prog X.w (HI H a o) h' a o):L2.HL X tx σ (HI H a o) {s with heap:=h',toks:=t'}:=by
 have d:H a=none:=LZ.none I.hok hn
 have e:∀b u,s.heap.get? b=↑u->b≠a:=λb u q z=>by rw[z,hn]at q;cases q
 refine I.un #[λb u q _ _ _=>k b u q,λb u q _ _ _=>#[u.slots,k b u q],λb u q n _=>by rw[qk (e b u q)];exact n,λb u q _=>#[u,k b u q],λb xs q=>by rw[qk (qu q d)];exact q,λb u xs q=>by rw[qk (qu q d)];exact q,λb ps q=>#[(List.toArray []),by rw[qk (qu q d),q];simp]] λb u q=>?_
 by_cases z:b=a
 .subst z;rw[qb]at q;cases q;exact new
 .rw[qk z]at q
  exact(I.hok b u q).stay (λc v _ r=>k c v r) (λc r=>by rw[qk (qu r d)];exact r) λc xs r=>by rw[qk (qu r d)];exact r
theorem tq(I:L2.HL X tx σ H s)(d:X.ex=[])(hn:s.heap.get? a=none):X.s₀.heap.get? a=none:=by
 cases z:X.s₀.heap.get? a with
 |none=>rfl
 |some o=>
  let#[o',c]:=I.base.there a o z (by rw[d];simp)
  rw[hn]at c;cases c
noncomputable def Cb(c:XK)(C:Δ)(ta:TA):TS:=λ_ σ H=>ta σ H λd H1=>d.length<=ζ/\∀a,H1 a=none->c (-a) none (HI (HI H1 a (M4 a (-C) none)) a (MF a (-C) none))
theorem Qv(z:mB X p)(d:X.calm=true)(m:X.ex=[])(F:ExcBaseFacts B newId initId bmB)(hg:Gl X x)(hm:X.mg x=↑(-C))(G:ay X.K C bm bmB newId=true)(ha:QA X (a::es) ta)(f:bm.contains (.type "BaseException")=true)(hs:θ (a::es) X.env=(false,eval a X.env)::θ es X.env:=by rfl)(c:(backTo cpos (θ es X.env)).any (·.1)=false:=by rfl)(A:(x==("__debug__":Str))=false:=by decide):QS X (.Raise ↑(.Call (.Name x w) (a::es) [] cpos) none pos) (Cb p C ta):=#[by
 intro tx s σ H D I h;let#[N,nm,L,bs,hdct,sn,sub,ab,col,dd,k0,k1,k2,k3,k5,Q,K,v,j,T]:=pQ I.ok.mod.kin G;have u:=ha.h cpos tx s σ H _ I h;rw[hs]at u;refine wpAny_Raise_call_subT F (nm:=nm) (q:=L) (C:=C) (N:=N) (bs:=bs) (bm:=bm) (hdct:=hdct) (sn:=sn) (sub:=sub) (ab:=ab) (col:=col) (dd:=dd) (k0:=k0) (k1:=k1) (k2:=k2) (k3:=k3) (k5:=k5) f (I.ok.hd d) (by rw[hs];show(false||(backTo cpos (θ es X.env)).any (·.1))=false;rw[c];rfl) j (au I hg hm #[Z,?_] A)
 rw[hs];refine GH (qK u λJ l y=>?_)
 let#[P,H1,i,r,M,q]:=y;have n:∀b o,X.base.get? b=↑o->l.heap.get? b=↑o:=λb o e=>(i.bs b o e).1
 refine#[Z,by show J.length<=ζ;rw[<- r.length];exact M,n _ _ K,v.keeps n,T.keeps n,λh' e g=>?_]
 let#[t,O,_,_]:=g.there;have E:L2.HL X tx σ (HI H1 e (M4 e (-C) none)) {l with heap:=h'}:=ng (t':=l.toks) i g.keeps g.new (M4.ok O)
 exact z tx σ _ _ e _ none E qb (tq i m g.new) (q e (LZ.none i.hok g.new))]
noncomputable def dz(K:ι)(C:Δ)(bm bmB:Ζ)(newId:String)(fI:Δ):Bool:=match K.lookup C with
 |some ⟨.type "type",_,.cls cd,sl⟩=>(match sl.toList with
  | [_,_,_,_,↑(.builtin n),_]=>cd.mro== .ref C::bm&&n==newId&& ! cd.hasDel&&cd.hasDict&&PySem.W.tailIn K bmB bm&&PySem.W.nsOkIn K cd.ns&&PySem.W.nsIn K cd.ns "__init__"==↑(↑(-fI))
  |_=>false)
 |_=>false
theorem Ev{K:ι}(X:K.In h)(G:h.Ns N m)(e:W.nsIn K N n=↑(↑v)):m n=↑v:=by
 let#[q,es,p,a,da,_,g]:=G;unfold W.nsIn at e;split at e
 .rename_i o j d n1 f z
  have c:=X _ _ z;rw[a]at c;cases c;cases da
  split at e
  .rename_i l i
   cases e;rw[<- g n];unfold nsFind findBy;rw[<- Array.find?_toList,i];rfl
  .split at e<;>cases e
 .cases e
theorem fC{K:ι}(X:K.In h)(q:dz K C bm bmB newId fI=true):
  ∃N nm f bs sn sub ab col dd k0 k1 k2 k3 k5 i,h.get? C=↑(excClassObj nm f C N bs bm true sn sub ab col dd k0 k1 k2 k3 k5 newId)/\h.Ns N i/\i "__init__"=↑(-fI)/\OwnTail h bmB bm:=by
 unfold dz at q;split at q
 .rename_i dd s t r
  split at q
  .rename_i k0 k1 k2 k3 n k5 j
   simp only[JX,Fu,IU]at q;let#[#[#[#[#[#[g,rfl],a],e],o],c],d]:=q;let#[nm,bs,u,m,f,v,sn,sub,ab,col,p]:=s
   dsimp only at g a e c d
   subst g a e;let#[l]:=t;simp only at j
   subst j
   exact#[m,nm,f,bs,sn,sub,ab,col,dd,k0,k1,k2,k3,k5,_,X _ _ r,.of_isNs (W.isNs_of_in X c),Ev X (.of_isNs (W.isNs_of_in X c)) d,W.tail_of_in X o]
  .cases q
 .cases q
structure Xi(P:Ξ)(w:Ω)(K:ι)(mg:HE)(base:Ψ)(C:Δ)(x:Str)(bm bmB:Ζ)(newId:String)(ps:Α)(k:Nat)(sp:Sp):Prop where
 ex:∃(f:Δ) (fd:FuncData),Mj P w K mg base bY k f fd ps sp/\dz K C bm bmB newId f=true/\PySem.W.isFn K (-f)=true/\mg x=↑(-C)/\LL K fd ps []
noncomputable def Bs(d:XK)(C:Δ)(sp:Sp)(ta:TA):TS:=λ_ σ H=>ta σ H λa H1=>a.length<=ζ/\∀e,H1 e=none->sp (.ref e::(a++[])) (HI H1 e (M4 e (-C) none)) (λv c=>v= .non/\∃dd,c e=↑(M4 e (-C) dd)/\d (-e) none (HI c e (MF e (-C) dd))) E0
theorem DK{K:ι}(X:K.In h)(q:W.isFn K (-f)=true):∃o,h.get? f=↑o/\o.cls= .type "function":=by
 have z:W.typeIn K (-f)=↑(.type "function"):=Fu.mp q
 have a:(K.lookup f).map (·.cls)=↑(.type "function"):=z
 cases e:K.lookup f with
 |none=>rw[e]at a;cases a
 |some o=>
  rw[e]at a
  exact#[o,X _ _ e,JF a]
theorem nG{k:Nat}{sp:Sp}(hT:mB X Y)(j:X.calm=true)(Q:X.ex=[])(F:ExcBaseFacts B newId initId bmB)(hg:Gl X x)(M:Xi X.prog X.w X.K X.mg X.base C x bm bmB newId ps k sp)(hr:Lb (k+1) X.A)(ha:QA X (a::es) ta)(l:bm.contains (.type "BaseException")=true)(hs:θ (a::es) X.env=(false,eval a X.env)::θ es X.env:=by rfl)(i:(backTo cpos (θ es X.env)).any (·.1)=false:=by rfl)(hd:(x==("__debug__":Str))=false:=by decide):QS X (.Raise ↑(.Call (.Name x np) (a::es) [] cpos) none pos) (Bs Y C sp ta):=#[by
 intro tx s σ H D I h;let#[f,fd,FI,hK,R,hm,hb]:=M.ex;let#[N,nm,qn,bs,sn,sub,ab,col,dd,k0,k1,k2,k3,k5,mN,hC,hN,K,T]:=fC I.ok.mod.kin hK;have hA:=ha.h cpos tx s σ H _ I h;rw[hs]at hA;have E:(backTo cpos (θ (a::es) X.env)).any (·.1)=false:=by rw[hs];show(false||(backTo cpos (θ es X.env)).any (·.1))=false;rw[i];rfl
 rw[arm_exec_Raise];refine Ja (FN (uu (C:=C) (nm:=nm) (q:=qn) (N:=N) (bs:=bs) (bm:=bm) (hdct:=true) (sn:=sn) (sub:=sub) (ab:=ab) (col:=col) (dd:=dd) (k0:=k0) (k1:=k1) (k2:=k2) (k3:=k3) (k5:=k5) (newId:=newId) l (I.ok.hd j) ?_))
 refine Ja (JR (wpAny_Call_ofName (au I hg hm ?_ hd)) (λv s3 z=>Ja (FN (Ji z))) λ_ _ z=>z)
 unfold callWith;refine Ja (J5 ?_)
 rw[hs];refine GH (qK hA λc s1 ⟨vs,H1,y,r,hl,q⟩=>Ja (FN ?_))
 have W:∀b o,X.base.get? b=↑o->s1.heap.get? b=↑o:=λb o e=>(y.bs b o e).1
 have w:=W _ _ hC;let#[hp,g,d,tk,os]:=s1;rw[hs]at E;simp only[E];refine Ja (wpAny_keeperOf_exc w ?_)
 have K1:X.K.In hp:=y.kIn
 let#[oI,J,L]:=DK K1 R;refine Ja (vm F (T.keeps W) w (hN.keeps W) K J L (by show c.length<=ζ;rw[<- r.length];exact hl) λh' e a0 m=>?_)
 let#[t,he,_,_]:=m.there;have G:L2.HL X tx σ (HI H1 e (M4 e (-C) none)) #[h',g,d,tk,os]:=ng (t':=tk) y m.keeps m.new (M4.ok he)
 have qe:=q e (LZ.none y.hok m.new);have r2:HR (.ref e::(vs++[])) (Γ.ref e::(c++[])):=by rw[GD,GD];exact .cons Z r
 have S:((Γ.ref e::c)++[]).length=ps.length:=by
  have z:=r2.length;rw[FI.len _ _ _ _ qe]at z;exact z.symm
 have O:BindsTo #[h',g,d,tk,os] fd #[Γ.ref e::c,[]] (ps.zip (Γ.ref e::(c++[]))):=by
  have z:=hb #[h',g,d,tk,os] (Γ.ref e::c) G.kIn S
  rw[List.cons_append]at z;exact z
 refine Gf (F1 (FI.run _ X.stack _ _ #[Γ.ref e::c,[]] (Γ.ref e::(c++[])) _ _ E0 (hr.make C c []) (G.env0.make C c []) O r2 qe) λrr s' A=>?_)
 cases rr with
 |error e=>exact(lD tx σ _ _ e s' G A)
 |ok fl=>
  cases fl with
  |ret u=>
   let#[v,H',P,rv,ev,p,n,q3]:=G.after A;subst ev;refine#[rv,Ja (J5 (wpAny_point (Ji ?_)))]
   let#[#[t3,U,e3],_,_]:=P.hok e _ n
   exact#[e,t3,p,U,Z,(P.bs _ _ hC).1,e3,hT tx σ _ _ e _ p P n (tq y Q m.new) q3]
  |next=>exact False.elim A
  |brk=>exact False.elim A
  |cont=>exact False.elim A]
theorem C8(h:H a=↑o):HI H a o=H:=by
 funext b
 by_cases z:b=a
 .subst z;rw[qb,h]
 .rw[qk z]
theorem uL{M:Model}{A:Around}{E:HD}{s:Θ}{K:ι}{env:Env}{pos:Pos}{b:String}{first:Ζ}{Q:HD}{e:Φ}{rest:Ι}(h:ε M A (spliced (backTo pos (θ (e::rest) env))) (λd c=>K.In c.heap/\ε M A (call (.builtin b) (first++d)) Q E c) E s)
  (f:θ (e::rest) env=(false,eval e env)::θ rest env:=by rfl)(a:(backTo pos (θ rest env)).any (·.1)=false:=by rfl):ε M A (callWith pos (.builtin b) first (backTo pos (θ (e::rest) env)) []) Q E s:=by
 rw[f]at h⊢;exact W.callWith_of (P:=λh=>K.In h) (by show((false||(backTo pos (θ rest env)).any (·.1))||false)=false;rw[a];rfl) (λh _=>#[.machine,.inr (.inl Z),.now]) (PySem.Calls.evalArgs_plain h)
structure Po(K:ι)(CE:Δ)(initId:String):Prop where
 sp:PySem.W.specialIn K (-CE) "__getattribute__"=↑(↑(.builtin "type.__getattribute__"))
 rd:PySem.W.readsIn K CE (.type "type")=true
 fc:PySem.W.findCls K (-CE) (.type "type") "__init__"=↑(.val (.builtin initId))
 hi:PySem.W.handedIn (.builtin initId)=true
noncomputable def wj(C:Δ)(t:TA):TE:=λσ H Q=>t σ H λa H1=>∃(e:Δ) (v:V),a=[-e,v]/\H1 e=↑(M4 e (-C) none)/\Q .non H1
theorem sj{X:Cx}{x:Str}{CE C fI:Δ}{bm bmB:Ζ}{B newId initId:String}{c a:Φ}{j apos pos:Pos}{t:TA}{pl:Sem Bool}(F:ExcBaseFacts B newId initId bmB)(hg:Gl X x)(hm:X.mg x=↑(-CE))(B:Po X.K CE initId)(P:dz X.K C bm bmB newId fI=true)(ha:QA X [c,a] t)
  (hst:θ [c,a] X.env=(false,eval c X.env)::θ [a] X.env:=by rfl)(m:(backTo pos (θ [a] X.env)).any (·.1)=false:=by rfl)(M:(x==("__debug__":Str))=false:=by decide)
  (G:eval (.Call (.Attribute (.Name x j) "__init__" apos) [c,a] [] pos) X.env=(do
   let w <- eval (.Name x j) X.env
   standAt apos.atName
   let(f,first) <- holding [w] (getMethod w "__init__" pl)
   callWith pos f first (backTo pos (θ [c,a] X.env)) (backToKw pos (keywordEach [] X.env))):=by rfl):
  QE X (.Call (.Attribute (.Name x j) "__init__" apos) [c,a] [] pos) (wj C t):=#[by
 intro tx s σ H Q I h;let#[N,nm,qn,bs,sn,sub,ab,col,dd,k0,k1,k2,k3,k5,mN,R,Y,L,T]:=fC I.ok.mod.kin P;refine Iu (pl:=pl) (au I hg hm ?_ M) G
 refine W.method_cls I.kIn B.sp (W.cls_value I.kIn B.rd B.fc B.hi ?_)
 have U:L2.HL X tx σ H {s with toks:=s.toks+1}:=I.tok _
 refine uL (first:=[]) (K:=X.K) (qK (ha.h pos tx _ σ H _ U h) λus A ⟨vs,p,i,r,e,v,S,l,q⟩=>#[i.kIn,?_]) hst m
 subst S;let#[u1,u2,rfl,O,r2]:=db r;cases O;let#[#[t0,sl,J],_,_]:=i.hok e _ l;have E:∀b o,X.base.get? b=↑o->A.heap.get? b=↑o:=λb o z=>(i.bs b o z).1
 let#[hp,g,d,tk,os]:=A;refine nY F (T.keeps E) (E _ _ R) J λh' D k'=>?_
 have y:L2.HL X tx σ (HI p e (M4 e (-C) none)) #[h',g,d,tk,os]:=i.write (x:=e) (e:=e) (t':=tk) (by rw[l];exact trivial) (.inl Z) (λb u n z=>k' b u n z) #[_,D] (M4.ok D)
 rw[C8 l]at y
 exact#[.non,p,y,Z,q]]
noncomputable abbrev AD:Ζ:=[.type "ValueError",.type "Exception",.type "BaseException",.type "object"]
theorem xv(I:L2.HL X tx σ H s)(j:H e=↑(M4 e cls none))(C:d=s.heap.objs.size)(w:h'.get? e=some #[cls,↑d,.fields (jY t),E])(m:h'.Ns1 d (λz=>if z=f then ↑u else none))(D:HN y u)(k:∀b o,b≠e->s.heap.get? b=↑o->h'.get? b=↑o):
  L2.HL X tx σ (HI (HI H d (.xd [(f,y)])) e (M4 e cls ↑d)) {s with heap:=h',toks:=t'}:=by
 have h:s.heap.get? d=none:=by rw[C];exact GA (Jf _)
 have A:H d=none:=LZ.none I.hok h
 have B:d≠e:=(qu j A).symm
 have F:∀b u,s.heap.get? b=↑u->b≠d:=λb u q z=>by rw[z,h]at q;cases q
 have ne:∀b,H b=none->b≠e:=λb n z=>by rw[z,j]at n;cases n
 have i:∀b,b≠d->b≠e->HI (HI H d (.xd [(f,y)])) e (M4 e cls ↑d) b=H b:=λb n1 n2=>by rw[qk n2,qk n1]
 have tup:∀b o,H b=↑o->(∀a,o≠ .ext a)->HI (HI H d (.xd [(f,y)])) e (M4 e cls ↑d) b=↑o:=λb o q n=>by
  rw[i b (qu q A) (zr q j (n _))];exact q
 refine I.un #[λb o q n _ _=>k b o (ne b n) q,λb o q n _ _=>#[o.slots,k b o (ne b n) q],λb o q n _=>by rw[i b (F b o q) (ne b n)];exact n,λb o q _=>?_,λb xs q=>tup b _ q (by intro a z;cases z),λb o xs q=>tup b _ q (by intro a z;cases z),λb ps q=>#[(List.toArray []),by rw[tup b _ q (by intro a z;cases z)];simp]] λb o q=>?_
 .by_cases z:b=e
  .rw[z];exact#[_,w]
  .exact#[o,k b o z q]
 .by_cases z:b=e
  .subst z;rw[qb]at q;cases q;exact M4.ok w
  .rw[qk z]at q
   by_cases x:b=d
   .subst x;rw[qb]at q;cases q
    refine#[_,m,λg=>?_]
    by_cases l:g=f
    .subst l
     rw[Jd Z,IM];exact D
    .rw[Jc l,Fp,F7 l];exact trivial
   .rw[qk x]at q
    refine(I.hok b o q).stay (λc v p r=>k c v ?_ r) (λc r=>tup c _ r (by intro a z;cases z)) λc xs r=>tup c _ r (by intro a z;cases z)
    rcases p with rfl|p
    .exact z
    .exact zr p j (by intro z;cases z)
structure Pb(K:ι)(CE C fI:Δ)(f:Str):Prop where
 bi:dz K C (.ref CE::AD) AD "ValueError.__new__" fI=true
 na:PySem.W.findIn K (-C) f=↑none
 sa:PySem.W.findIn K (-C) "__setattr__"=↑(↑(.builtin "object.__setattr__"))
 cl:Nx K C
noncomputable def Ed(C:Δ)(f:Str)(ta tv:TE):TS:=λD σ H=>tv σ H λy H1=>ta σ H1 λx a=>∃e,x= .ref e/\a e=↑(M4 e (-C) none)/\∀d,a d=none->D.nx σ (HI (HI a d (.xd [(f,y)])) e (M4 e (-C) ↑d))
theorem Bl{CE:Δ}(B:Pb X.K CE C fI f)(ha:QE X o ta)(m:QE X value tv)(hs:swapsWith value ↑(.Attribute o f pos') pos.line X.env=pure false:=by rfl):QS X (.Assign [.Attribute o f pos'] value pos) (Ed C f ta tv):=#[by
 intro tx s σ H D I h;let#[N,nm,R,bs,sn,sub,ab,col,dd,k0,k1,k2,k3,k5,P,z,M,t,T]:=fC I.ok.mod.kin B.bi;refine plainObj_wpAny_Assign_Attribute (qK (m.h tx s σ H _ I h) λu w ⟨y,H1,K,v,q⟩=>qK (ha.h tx w σ H1 _ K q) λA F r=>?_) hs
 let#[x,Q,a,G,e,ex,l,n]:=r;subst ex
 obtain rfl:A=Γ.ref e:=G
 let#[#[O,S,p],_,_]:=a.hok e _ l;have c:=(a.bs _ _ z).1;have hk:=a.kIn;let#[L,g,d,tk,os]:=F;refine ve hk c B.na B.sa p λh' i J j k'=>?_
 have E:=xv (t':=i) (s:=#[L,g,d,tk,os]) a l Z J j v k'
 exact#[σ,_,E,n _ (LZ.none a.hok (GA (Jf _)))]]
noncomputable def Ew(C:Δ)(f:Str)(ta:TE):TE:=λσ H Q=>ta σ H λx H1=>∃(e d:Δ) (fs:List (Str×V)) (v:V),x= .ref e/\H1 e=↑(MF e (-C) ↑d)/\H1 d=↑(.xd fs)/\fs.lookup f=↑v/\Q v H1
theorem BH{CE:Δ}(B:Pb X.K CE C fI f)(K:QE X e ta)(hb:attributeBase e f X.env (eval e X.env)=eval e X.env:=by rfl):QE X (.Attribute e f pos) (Ew C f ta):=#[by
 intro tx s σ H Q I h;let#[N,nm,Y,bs,sn,sub,ab,col,dd,k0,k1,k2,k3,k5,S,F,O,D,T]:=fC I.ok.mod.kin B.bi;refine sU hb (qK (K.h tx s σ H _ I h) λu m A=>?_)
 let#[x,H1,i,J,a,d,fs,v,ex,E,y,l,q]:=A;subst ex
 obtain rfl:u=Γ.ref a:=J
 let#[#[o,P,M,L,p,j],_,_]:=i.hok a _ E;let#[mA,t,r]:=(show∃mA,m.heap.Ns1 d mA/\∀f,LX (fs.lookup f) (mA f)from i.hok d _ y)
 let#[U,G,w]:=LX.some_of (v:=v) (o:=mA f) (by rw[<- l];exact r f)
 have n:=(i.bs _ _ F).1;have hk:=i.kIn;have It:=i.tok (m.toks+1);let#[hp,g,R,tk,os]:=m;exact wY hk n M L (by intro c z;rw[p]at z;cases z) j t G (W.handedOut_of (mU w)) B.cl.b B.na B.cl.ga B.cl.gt #[v,H1,It,w,q]]
theorem ZA{X:Cx}:Qh X (.builtin "isinstance") (λxs H Q=>∃(a C:Δ) (dd:Κ) (c:V) (d:Γ) (b:Bool),xs=[-a,c]/\H a=↑(MF a (-C) dd)/\Nx X.K C/\((∃D,c= .ref D/\d= .ref D)\/∃T,c= .ty T/\d= .type T)/\W.kitOne X.K (-C) d=↑b/\Q (.bl b) H):=by
 intro tx s σ H xs p Q I r h;let#[a,C,dd,c,d,b,rfl,l,i,m,hk,q]:=h;let#[u,v,rfl,j,g]:=db r;cases j
 obtain rfl:v=d:=by
  rcases m with⟨D,rfl,rfl⟩|⟨T,rfl,rfl⟩
  .exact g
  .exact g
 let#[#[o,n,e,f,_],_]:=I.hok a _ l;exact JS (pT i) I.kIn #[o,e,f] hk (λz=>nomatch z) λtk=>#[.bl _,H,I.tok tk,Z,q]
end L3
namespace L3
open PySem PySem.Spec PyProof.Rows L2
structure My(P:Ξ)(w:Ω)(K:ι)(mg:HE)(base:Ψ)(C:Δ)(m:Str)(ps:Α)(k:Nat)(sp:Sp):Prop where
 ex:∃(f:Δ) (fd:FuncData),Mj P w K mg base (az P w) k f fd ps sp/\OW K C m f/\LL K fd ps []
theorem Ly.my{K:ι}{st:δ}{k:Nat}{sp:Sp}(a:Ly K C m Rg st ps)(S:HH N ps (qm st))(c:∀(f:Δ) (cdv:Γ) (A:Around) (outer:Ο) (s:Θ) (H:Hp) (vs:Β) (Q:VK) (E:XK),Lb k (A.deeper (envOfC Rg (qm st) s.heap.objs.size f cdv))->sp vs H Q E->
   ∃t,On (QJ (az P w) P w K mg base N Rg (qm st) f cdv A outer s H E) (Qi st) t/\t {nx:=λ_ H'=>Q .non H',rt:=Q} (Zl N vs) H)(e:∀vs H Q E,sp vs H Q E->vs.length=ps.length:=by intro vs H Q E h;first|(cases h;subst_vars;rfl)|((repeat first|let#[rfl,h]:=h|let#[_,h]:=h);all_goals rfl)):My P w K mg base C m ps (k+1) sp:=by
 let#[f,fd,F,m,bd]:=a.ex;refine#[f,fd,?_,m,bd]
 let#[oc,od,kV,doc,pm,an,cdv,ct,osl,rfl,i,g]:=F.ex;refine uo i g S e λA outer s H vs Q E j d=>?_
 let#[t,h,q]:=c f cdv A outer s H vs Q E j d
 exact#[t,h.h,q]
def ES(X:Cx)(tx:HF)(σ:L2.St)(d:L2.St->Δ->Hp->Prop)(e:Γ)(s':Θ):Prop:=
 ∃H c,L2.HL X tx σ H c/\az X.prog X.w X.stack H c (λv _ H'=>∃a,v= .ref a/\d σ a H') e s'
structure QY(X:Cx)(st:List δ)(t:TX):Prop where
 h:∀(tx:HF) (s:Θ) (σ:L2.St) (H:Hp) (D:Lr) (EX:L2.St->Δ->Hp->Prop) (R:HD),L2.HL X tx σ H s->t D EX σ H->(∀σ' e s',ES X tx σ' EX e s'->R e s')->ε (model X.prog X.w) X.A (execs st X.env) (SP X tx D) R s
theorem My.mf{K:ι}{k:Nat}{sp:Sp}(M:My P w K mg base C m ps k sp)(h:∀a H Q E,c a H Q E->sp a H Q E0):Mf P w K mg base C m ps k c:=by
 let#[f,fd,F,i,g]:=M.ex;refine#[f,fd,#[λa H Q E q=>F.len a H Q E0 (h a H Q E q),λA outer s H d n a Q E o j g l p=>?_],i,g]
 refine F1 (F.run A outer s H d n a Q E0 o j g l (h _ _ _ _ p)) λr s' q=>?_
 cases r with
 |ok fl=>cases fl<;>exact q
 |error e=>let#[_,_,_,_,_,_,_,_,_,_,_,_,_,_,_,z]:=q;exact z.elim
theorem jQ{s':Θ}(I:L2.HL X tx σ H h)(os:s'.os=h.os)(m:AllBare s'.gens)(un:Un (QB X.stack) [] H H' h.heap s'.heap)(A:LZ X.prog X.w H' s'.heap)(ha:H' a=↑(MF a cls dd))(F:h.heap.get? a=none)(E:h.heap.get? T=none)(D:H' T=none)(st:(aU s'.heap (a::T::QB X.stack)).StaysIn j)(up:s'.heap.UpToSlots j)(S:j.get? a=↑s)(hc:s.cls=cls)(O:s.data= .fields vs)(B:s.dict=dd):L2.HL X tx σ H' {s' with heap:=j,toks:=L}:=by
 have g:∀b o,h.heap.get? b=↑o->b≠a/\b≠T:=λb o d=>#[λz=>by(rw[z,F]at d;cases d),λz=>by(rw[z,E]at d;cases d)]
 have w:∀b o,b≠a->b≠T->b∉QB X.stack->s'.heap.get? b=↑o->j.get? b=↑o:=λb o h1 R P d=>st b o (by
  rw[ap]
  .exact d
  .intro z
   rcases Jh.mp z with z|z
   .exact h1 z
   .rcases Jh.mp z with z|z
    .exact R z
    .exact P z)
 have x:∀b o,b∈QB X.stack->h.heap.get? b=↑o->∀o',s'.heap.get? b=↑o'->∃x,j.get? b=some {o' with slots:=x}:=λb o d t o' p=>by
  let#[_,u,M,G]:=I.stack.mem d;rw[t]at M;cases M
  let#[Q,l]:=un.slot b o t (I.stkFree b d) d (by simp)
  rw[p]at l;cases l
  exact up b _ p G
 refine I.call' (s':={s' with heap:=j,toks:=L}) os #[λb o d r n _=>?_,λb o d r n _=>?_,λb o d r y=>un.free b o d r y,λb o d y=>?_,un.tups,un.frzs,un.tbls] (λb u d=>?_) m (λb z=>absurd z (by simp))
 .exact w b o (g b o d).1 (g b o d).2 n (un.keep b o d r n (by simp))
 .let#[Q,l]:=un.slot b o d r n (by simp)
  let#[N,C]:=x b o n d _ l
  exact#[N,C]
 .let#[o',l]:=un.there b o d y
  by_cases z:b∈QB X.stack
  .let#[N,C]:=x b o z d _ l
   exact#[_,C]
  .exact#[_,w b _ (g b o d).1 (g b o d).2 z l]
 .by_cases z:b=a
  .subst z
   rw[ha]at d;cases d
   exact MF.ok S hc O B
  .have tk:∀c u,H' c=↑u->c∉QB X.stack/\c≠T:=λc u i=>by
    refine#[λJ=>?_,λz=>by(rw[z,D]at i;cases i)]
    let#[_,o,t,_]:=I.stack.mem J
    have:=un.free c o t (I.stkFree c J) (by simp)
    rw[i]at this;cases this
   refine(A b u d).stay (λc v f K=>?_) (λ_ q=>q) (λ_ _ q=>q)
   rcases f with rfl|f
   .exact w c v z (tk _ _ d).2 (tk _ _ d).1 K
   .exact w c v (λe=>by(rw[e,ha]at f;cases f)) (tk _ _ f).2 (tk _ _ f).1 K
def tT(K:ι)(CE:Δ)(cls:Γ):Prop:=∃C bm bmB newId,cls= .ref C/\(ay K C bm bmB newId=true\/∃fI,dz K C bm bmB newId fI=true)/\bm.contains (-CE)=true
theorem Ca{K:ι}(X:K.In h)(q:ay K C bm bmB newId=true\/∃fI,dz K C bm bmB newId fI=true):∃N nm a bs hdct sn sub ab col dd k0 k1 k2 k3 k5,h.get? C=↑(excClassObj nm a C N bs bm hdct sn sub ab col dd k0 k1 k2 k3 k5 newId):=by
 rcases q with q|⟨fI,q⟩
 .let#[N,nm,a,bs,hdct,sn,sub,ab,col,dd,k0,k1,k2,k3,k5,d,c,_]:=pQ X q
  exact#[N,nm,a,bs,hdct,sn,sub,ab,col,dd,k0,k1,k2,k3,k5,c]
 .let#[N,nm,a,bs,sn,sub,ab,col,dd,k0,k1,k2,k3,k5,d,c,_]:=fC X q
  exact#[N,nm,a,bs,true,sn,sub,ab,col,dd,k0,k1,k2,k3,k5,c]
noncomputable def tU(K:ι)(CE:Δ)(i:Nat)(tb:TX)(d:TS):TS:=λD σ H=>tb D (λc a H'=>(∀cls dd,H' a=↑(MF a cls dd)->tT K CE cls)/\d (AL D i) (c.set i ↑(-a)) H') σ H
theorem Bq{CE:Δ}(hb:QY X m tb)(hs:∀a,On (yc X a) (j::d) Q)(l:X.stack=X.env::X.outer)(b4:X.env.frame=↑X.env.locals)(hg:Gl X x)(hm:X.mg x=↑(-CE))(hE:ay X.K CE L bmB N=true)(w:L.contains (.type "BaseException")=true)(G:X.N.Nodup)(hi:X.N[i]? =↑n)(hk:X.env.kindOf n=some .local)(hd:(x==("__debug__":Str))=false:=by decide):
  QS X (.Try m [.ExceptHandler ↑(.Name x np) ↑n (j::d) F] [] [] pos) (tU X.K CE i tb Q):=#[by
 intro tx s σ H D I h;refine wpAny_Try_except (JR (hb.h tx s σ H D _ _ I h ?_) (λf s1 q=>?_) λ_ _ z=>z)
 .rintro t e s' ⟨H1,s0,I1,a,cls,dd,T,R,rfl,os,g,un,p,ha,K,J,E,⟨oe,vs,oT,Q,a0,he,hc,b1,M,h0,h1,b2,U,b0,h3⟩,a',ea,sub,a5⟩
  obtain rfl:a=a':=by injection ea
  have I2:L2.HL X tx t R s':=I1.call' os un p g (λb z=>absurd z (by simp))
  let#[O,c]:∃O,O=aU s'.heap (a::T::QB X.stack):=#[0]
  have kb:O.StaysIn s'.heap:=λb o q=>by rw[c]at q;exact(gs q).2
  have ff:s'.heap.FunFrames O X.stack:=aF I2.stack (λb hb=>by rw[c];exact QX (JD _ (JD _ hb)))
  have td:Ph s'.heap O a cls dd .none:=#[oe,vs,T,oT,Q,a0,he,hc,b1,M,h0,h1,by rw[c];exact QX (JD _ (Jy ..)),b2,U,b0,h3]
  have fr:X.A.frames=↑(X.env::X.outer):=by rw[<- l];exact I.ok.frames
  rw[l]at ff;refine vR fr ff b4 td kb (by rw[c];exact QX (Jy ..)) λh4 k1 k2 k3 W=>?_
  refine je k1 k2 k3 λh5 j1 j2 j3 b5=>?_
  have up:=W.trans b5;let#[C,bm,c1,newId,rfl,a2,Y]:=sub cls dd ha;let#[o5,e1,T5,d9,f0,c2,e5,c5,b3,d5,_]:=id j3.ex;have b7:(aU s'.heap (a::T::QB X.stack)).StaysIn h5:=by rw[<- c];exact j1
  have I5:L2.HL X tx t R {s' with heap:=h5,toks:=s'.toks}:=jQ I1 os g un p ha K J E b7 up e5 c5 d5 b3
  let#[N1,nm,qn,bs,hdct,sn,sb,ab,col,e2,k0,f2,d7,d4,k5,hC]:=Ca I5.kIn a2;let#[N2,d1,e0,e9,a1,c3,d2,f1,c0,d3,q0,q1,q2,q3,q5,d8,a3,_,_,_]:=pQ I5.kIn hE;refine wpAny_handleBy_cons (codeAny_handlers_test (au (pL (a:=a) I5) hg hm ?_ hd)) (by intro z;cases z)
  refine lZ hC a3 e5 c5 w Y ?_
  refine codeAny_handlers_suite_as ?_
  refine je j1 j2 j3 λh6 l1 l2 l3 a4=>?_
  let#[o6,c4,T6,d0,e4,e3,e6,c6,b6,d6,_]:=id l3.ex;have I6:L2.HL X tx t R {s' with heap:=h6,toks:=s'.toks}:=jQ I1 os g un p ha K J E (by rw[<- c];exact l1) (up.trans a4) e6 c6 d6 b6
  refine a7 (v:= .ref a) I6 G hi (.inl hk) Z (λs7 I7=>?_) (.inr hk)
  refine JR ((hs a).h tx s7 _ R (AL D i) (pL I7) a5) (λf s8 P=>?_) λ_ _ z=>z.elim
  cases f with
  |next=>let#[y,S,A,B]:=P;exact fP (i8 I.ok A) G hi hk λs' r=>#[8,r,B]
  |brk=>let#[y,S,A,B]:=P;exact fP (i8 I.ok A) G hi hk λs' r=>#[8,r,B]
  |cont=>let#[y,S,A,B]:=P;exact fP (i8 I.ok A) G hi hk λs' r=>#[8,r,B]
  |ret u=>let#[v,y,S,A,r9,B]:=P;exact fP (i8 I.ok A) G hi hk λs' r=>#[22,r,r9,B]
 .cases f with
  |next=>exact Gd q
  |ret v=>exact q
  |brk=>exact q
  |cont=>exact q]
structure Ac(K:ι)(mg:HE)(x:Str)(st:δ):Prop where
 ex:∃(f:Δ) (fd:FuncData),OU K x x st f fd/\mg x=↑(-f)
structure LH(K:ι)(C:Δ)(m Rg:Str)(st:δ):Prop where
 ex:∃(f:Δ) (fd:FuncData),OU K m Rg st f fd/\OW K C m f
section
variable{K:ι}{mg:HE}{h:Ψ}{x m Rg:Str}{st:δ}{C f:Δ}{oc:Γ}{od an:Κ}{osl:Array Ν}{kV doc pm cdv ct:Γ}{ps:Α}
theorem Ef(X:K.In h)(G:h.Ns η mg)(a:W.nsIn K η x=↑(↑(-f)))(l:K.lookup f=some #[oc,od,.func (W.fnOf x x (Zf st) (Qi st) (qm st) .none kV doc pm an cdv ct),osl])(c:W.codeIn K cdv x=true)(k:W.keepIn K (-f)=true):Ac K mg x st:=#[f,_,ph l c k,JP X G a]
theorem DQ(a:W.findIn K (-C) m=↑(↑(-f)))(i:W.isFn K (-f)=true)(l:K.lookup f=some #[oc,od,.func (W.fnOf m Rg (Zf st) (Qi st) (qm st) .none kV doc pm an cdv ct),osl])(c:W.codeIn K cdv Rg=true)(k:W.keepIn K (-f)=true):LH K C m Rg st:=#[f,_,ph l c k,a,i,k]
theorem Fd{p:Ζ->Prop}(h:p []):∀a:Ζ,a.length=0->p a:=by
 intro a c;rw[List.eq_nil_of_length_eq_zero c];exact h
theorem tf{n:Nat}{p:Ζ->Prop}(h:∀a c,c.length=n->p (a::c)):∀c:Ζ,c.length=n+1->p c:=by
 intro c d;cases c with
 |nil=>cases d
 |cons a r=>exact h a r (Nat.succ.inj d)
theorem QV{p:Ζ->Prop}(h:∀d,p [d]):∀c:Ζ,c.length=1->p c:=tf λa=>Fd (p:=λr=>p (a::r)) (h a)
theorem QP{p:Ζ->Prop}(h:∀e d,p [e,d]):∀c:Ζ,c.length=2->p c:=tf λa=>QV (p:=λr=>p (a::r)) (h a)
theorem ao{p:Ζ->Prop}(h:∀e d f,p [e,d,f]):∀c:Ζ,c.length=3->p c:=tf λa=>QP (p:=λr=>p (a::r)) (h a)
theorem rc{p:Ζ->Prop}(h:∀f d e g,p [f,d,e,g]):∀c:Ζ,c.length=4->p c:=tf λa=>ao (p:=λr=>p (a::r)) (h a)
theorem Co{p:Ζ->Prop}(h:∀g d f i e,p [g,d,f,i,e]):∀c:Ζ,c.length=5->p c:=tf λa=>rc (p:=λr=>p (a::r)) (h a)
theorem CU{p:Ζ->Prop}(h:∀g d f i e j,p [g,d,f,i,e,j]):∀c:Ζ,c.length=6->p c:=tf λa=>Co (p:=λr=>p (a::r)) (h a)
theorem Ac.at(a:Ac K mg x st)(b:∀(kV doc pm:Γ) (an:Κ) (cdv ct:Γ) (us:Ζ),us.length=ps.length->bindArgs (W.fnOf x x (Zf st) (Qi st) (qm st) .none kV doc pm an cdv ct) #[us,[]]=pure (ps.zip us):=by intro _ _ _ _ _ _;first|exact QV λ_=>rfl|exact QP λ_ _=>rfl|exact ao λ_ _ _=>rfl|exact rc λ_ _ _ _=>rfl|exact Co λ_ _ _ _ _=>rfl|exact CU λ_ _ _ _ _ _=>rfl):At K mg x st ps:=by
 let#[_,_,F,m]:=a.ex;exact Ea F m (F.binds b)
theorem LH.at(a:LH K C m Rg st)(b:∀(kV doc pm:Γ) (an:Κ) (cdv ct:Γ) (us:Ζ),us.length=ps.length->bindArgs (W.fnOf m Rg (Zf st) (Qi st) (qm st) .none kV doc pm an cdv ct) #[us,[]]=pure (ps.zip us):=by intro _ _ _ _ _ _;first|exact QV λ_=>rfl|exact QP λ_ _=>rfl|exact ao λ_ _ _=>rfl|exact rc λ_ _ _ _=>rfl|exact Co λ_ _ _ _ _=>rfl|exact CU λ_ _ _ _ _ _=>rfl):Ly K C m Rg st ps:=by
 let#[_,_,F,m]:=a.ex
 exact#[8,F,m,F.binds b]
end
theorem Ag{K:ι}{CE:Δ}(G:L2.St->Hp->Prop)(h:∀D':Lr,(∀a H',G a H'->D'.nx a H')->tU K CE i tb c D' σ H)(d:∀a H',G a H'->u D a H'):jM (tU K CE i tb c) u D σ H:=h {D with nx:=u D} d
theorem MF.inj(h:MF a c d=MF a i l):c=i:=by
 unfold MF at h;injection h with h
 let#[f,n]:∃f:Ψ,f.objs.size=a:=#[{objs:=Array.replicate a default},Array.size_replicate]
 have e:(f.push #[c,d,.fields (List.toArray []),(List.toArray [])]).get? a=some #[c,d,.fields (List.toArray []),(List.toArray [])]:=by rw[<- n];exact Ju _ Z
 have z:(λh:Ψ=>∃o j,h.get? a=↑o/\o.cls=c/\o.data= .fields j/\o.dict=d) (f.push #[c,d,.fields (List.toArray []),(List.toArray [])]):=#[8,e,34]
 rw[h]at z;let#[o,j,g,m,_]:=z;rw[e]at g;cases g
 exact m
theorem Dz{H:Hp}(h1:H a=↑(MF a (-C) d))(h:H a=↑(MF a cls c)):cls= .ref C:=by
 rw[h1]at h
 exact(MF.inj (JF h)).symm
structure Ps where
 nm:Str
 age:Int
 ds:Ε
def Mc(H:Hp)(p:Δ)(P:Ps):Prop:=Ln H p P.nm P.age P.ds
structure Np(P:Ps):Prop where
 nm:ZE P.nm
 l:P.ds.length=5
 dg:Qn P.ds
noncomputable def ii(D:Dr)(P:Ps):Option (Int×Int):=if ZW D P.age=true then aT D.t (aI D P.age) P.nm P.ds else none
noncomputable def uX(D:Dr)(P R:Ps):Str×Int×Kw:=match ii D P with
 |none=>("press",0,D.kn)
 |some (c,_)=>match ii D R with
  |none=>("press",1,D.kn)
  |some (c',_)=>if R.nm=P.nm/\R.age=P.age/\c'=c+1 then(match D.kn.lookup P.nm with
    |some _=>("known",0,D.kn)
    |none=>if(D.kn.length:Int)<D.most then("",0,QN D.kn P.nm #[P.age,c',none])else("full",0,D.kn))
   else("press",1,D.kn)
def HX(E:XK)(H:Hp)(C:Δ):Prop:=∀H' e,HG H H'->H' e=↑(MF e (-C) none)->E (-e) none H'
def Md(E:XK)(H:Hp)(C:Δ)(f:Str)(n:Int):Prop:=∀H' e d,HG H H'->H' e=↑(MF e (-C) ↑d)->H' d=↑(.xd [(f,.int n)])->E (-e) none H'
theorem Md.mk(m:Md E H C f n)(s:HG H H1)(i:H1 e=none)(h:HI H1 e o d=none):E (-e) none (HI (HI (HI (HI H1 e o) d (.xd [(f,.int n)])) e l) e (MF e (-C) ↑d)):=by
 have a:d≠e:=λz=>by rw[z,qb]at h;cases h
 have j:H1 d=none:=by rw[qk a]at h;exact h
 refine m _ e d (λc u z=>?_) qb ?_
 .have g:=s _ _ z
  rw[qk (qu g i),qk (qu g i),qk (qu g j),qk (qu g i)];exact g
 .rw[qk a,qk a,qb]
theorem HX.mk(f:HX E H C)(s:HG H H1)(d:H1 e=none):E (-e) none (HI (HI H1 e o) e (MF e (-C) none)):=by
 refine f _ e (λc u z=>?_) qb
 have a:=s _ _ z;rw[qk (qu a d),qk (qu a d)];exact a
structure P8(K:ι)(x:Xa)(fI:Δ):Prop where
 f:Pb K x.e x.b fI "place"
 i:∀D∈x.all,PySem.W.kitOne K (-x.b) (-D)=↑(decide (x.b=D))
 v:PySem.W.kitOne K (-x.b) (.type "ValueError")=↑true
structure X16(K:ι)(mg:HE)(x:Xa)(fI:Δ):Prop extends XGx K mg x where
 o_Known:Nb K x x.k
 o_Full:Nb K x x.f
 bp:P8 K x fI
 bi:Po K x.e "ValueError.__init__"
noncomputable def pS(c:Nat):Bool:=decide (97<=c)&&decide (c<=122)
def CG(z:Str):Bool:=z.cps.toList.all pS
noncomputable def Az(z:Str):Bool:=decide (1<=z.length)&&decide (z.length<=8)&&CG z
theorem Pc:Az z=true↔ZE z:=by
 unfold Az CG ZE;rw[JX,JX,F2,F2,FK];have f:z.length=z.cps.toList.length:=Z
 rw[f];constructor
 .rintro⟨⟨h1,e⟩,a⟩
  refine#[λc d=>?_,h1,e]
  have:=a c d
  unfold pS at this;rw[JX,F2,F2]at this;exact this
 .rintro⟨a,h1,e⟩
  refine#[#[h1,e],λc d=>?_]
  unfold pS;rw[Je (a c d).1,Je (a c d).2];rfl
theorem lF{b:Nat}:([a]:Μ)<[b]↔a<b:=by
 rw[List.cons_lt_cons_iff];constructor
 .rintro(h|⟨_,h⟩)
  .exact h
  .exact absurd h (List.not_lt_nil _)
 .exact .inl
theorem ur(c:Nat):(! decide ((#[(List.toArray [c])]:Str).cps.toList<("a":Str).cps.toList))=decide (97<=c)/\(! decide (("z":Str).cps.toList<(#[(List.toArray [c])]:Str).cps.toList))=decide (c<=122):=by
 have a:("a":Str).cps.toList=[97]:=by decide +kernel
 have d:("z":Str).cps.toList=[122]:=by decide +kernel
 rw[a,d]
 show(! decide ([c]<[97]))=_/\(! decide ([122]<[c]))=_
 constructor
 .by_cases h:97<=c
  .rw[Je h,Jm (by rw[lF];lia)];rfl
  .rw[Jm h,Je (by rw[lF];lia)];rfl
 .by_cases h:c<=122
  .rw[Je h,Jm (by rw[lF];lia)];rfl
  .rw[Jm h,Je (by rw[lF];lia)];rfl
theorem rC(h:kd H x=↑t):O5 H x t:=by
 cases x with
 |non=>cases h;exact .non
 |bl b=>cases h;exact .bl b
 |int i=>cases h;exact .int i
 |str x=>cases h;exact .str x
 |byt b=>cases h
 |flt b=>cases h
 |ty b=>cases h
 |ref a=>
  rcases kO h with⟨xs,e,rfl⟩|⟨xs,e,rfl⟩
  .exact .lst e
  .exact .tup (.inl e)
def EC(H:Hp)(x:V)(b:Bool):Prop:=(∃z,x= .str z/\z.cps.all (· <128)=true/\z.length<=100/\b=Az z)\/(∃t,kd H x=↑t/\Qo t "str"=false/\b=false)
def PV(H:Hp)(x:V)(b:Bool):Prop:=(∃(p:Δ) (ds:Β),x= .ref p/\H p=↑(.tup ds)/\ds.length<=100/\(∀v∈ds,∃t,kd H v=↑t)/\b=(decide (ds.length=5)&&ds.all gl))\/(∃t,kd H x=↑t/\Qo t "tuple"=false/\b=false)
inductive Pq (H:Hp) (x:V):Bool->Prop where
 |kd {t:String} (h:kd H x=↑t) (n:Qo t "tuple"=false):Pq H x false
 |len {a:Δ} {xs:Β} (e:x= .ref a) (h:H a=↑(.tup xs)) (l:xs.length<=100) (n:xs.length≠3):Pq H x false
 |tup {a:Δ} {n y c:V} {bn bc:Bool} {ty:String} (e:x= .ref a) (h:H a=↑(.tup [n,y,c])) (hn:EC H n bn) (hy:L3.kd H y=↑ty) (hc:PV H c bc):Pq H x (bn&&kf y&&bc)
theorem PV.same{b:Bool}(s:HG H H')(h:PV H x b):PV H' x b:=h.elim (λ⟨p,ds,e,h1,a,c,f⟩=> .inl ⟨p,ds,e,s _ _ h1,a,(λv d=>let⟨t,ht⟩:=c v d;⟨t,jc s ht⟩),f⟩) (λ⟨t,h1,a⟩=> .inr ⟨t,jc s h1,a⟩)
def Tg(H:Hp)(x:V)(o:Option Ps):Prop:=match o with
 |none=>Pq H x false
 |some P=>∃pr,x= .ref pr/\Mc H pr P/\Np P
theorem Tg.b(h:Tg H x o):Pq H x o.isSome:=by
 cases o with
 |none=>exact h
 |some P=>
  let#[pr,e,#[c,h1,a],ok]:=h;have t:=Pq.tup (bn:=true) (bc:=true) e h1 (.inl #[P.nm,Z,rq ok.nm,by have:=ok.nm.2.2;show P.nm.cps.toList.length<=100;lia,(Pc.mpr ok.nm).symm]) (ty:="int") Z (.inl #[c,0,a,by rw[Jb,ok.l];decide,(λv d=>by let#[i,_,rfl]:=JA.mp d;exact#[0]),by rw[Jb,ok.l,wV ok.dg];rfl])
  exact t
inductive NA (vs:Β) (H:Hp) (Q:VK) (_3:XK):Prop
 |mk (x:_) (b:_) (h1:vs=[x]) (h2:EC H x b) (h3:∀H',HG H H'->Q (.bl b) H')
inductive NB (vs:Β) (H:Hp) (Q:VK) (_3:XK):Prop
 |mk (x:_) (b:_) (h1:vs=[x]) (h2:PV H x b) (h3:∀H',HG H H'->Q (.bl b) H')
inductive MG (vs:Β) (H:Hp) (Q:VK) (_3:XK):Prop
 |mk (x:_) (b:_) (h1:vs=[x]) (h2:Pq H x b) (h3:∀H',HG H H'->Q (.bl b) H')
section
variable(K:ι)(C:Δ)
inductive NC (vs:Β) (H:Hp) (Q:VK) (_3:XK):Prop
 |mk (p ta hk bd lg:Δ) (n:Nat) (D:Dr) (x:V) (o:Option Ps) (h1:vs=[-p,x]) (h2:HK K C H p ta hk bd lg n D) (h3:Ob D) (h4:Tg H x o) (h5:∀y H',HG H H'->ir H' y (o.bind (ii D))->Q y H')
end
theorem Mf.weak{K:ι}{k:Nat}{sp:Sp}(M:Mf P w K mg base C m ps k sp)(h:∀a H Q E,c a H Q E->sp a H Q E):Mf P w K mg base C m ps k c:=by
 let#[f,fd,F,g,e]:=M.ex
 exact⟨f,fd,⟨λa H Q E q=>F.len a H Q E (h a H Q E q),λA outer s H d l a Q E n i e j o=>F.run A outer s H d l a Q E n i e j (h _ _ _ _ o)⟩,g,e⟩
structure MH(B:Bt):Prop where
 c0:0<=B.cnt
 cb:B.cnt<=B.bnd
 bm:B.bnd<=4096
 s1:1<=B.step
 eq:B.x=↑B.bnd\/B.y=↑B.bnd
 hx:∀v,B.x=↑v->0<=v/\v<=B.bnd
 hy:∀v,B.y=↑v->0<=v/\v<=B.bnd
theorem MH.new{step:Int}(h:1<=step):MH ⟨nm,t,ks,age,step,0,0,↑0,none⟩:=
 ⟨F8 _,F8 _,by show(0:Int)<=4096;decide,h,.inl Z,λv e=>by cases e;exact⟨F8 _,F8 _⟩,λv e=>by cases e⟩
theorem MH.pr(h:MH B)(hc:B.cnt<4096):MH B.pr:=by
 let#[j,l,bm,c,g,d,f]:=h;unfold Bt.pr
 by_cases m:B.mw=true
 .rw[Jd m]
  have i:B.cnt=B.bnd:=by
   unfold Bt.mw at m;rw[JX]at m;exact Jv m.1
  have n1:B.bnd+1<=B.nb:=by unfold Bt.nb;split<;>lia
  have n2:B.nb<=4096:=by unfold Bt.nb;split<;>lia
  unfold Bt.wr
  by_cases e:B.x=↑B.bnd
  .rw[Jd e]
   refine⟨by show 0<=B.cnt+1;lia,by show B.cnt+1<=B.nb;lia,n2,c,.inr Z,λv q=>?_,λv q=>?_⟩
   .have:=d v q;show 0<=v/\v<=B.nb;lia
   .have a:↑B.nb=↑v:=q
    cases a;show 0<=B.nb/\B.nb<=B.nb;lia
  .rw[Jc e]
   refine⟨by show 0<=B.cnt+1;lia,by show B.cnt+1<=B.nb;lia,n2,c,.inl Z,λv q=>?_,λv q=>?_⟩
   .have a:↑B.nb=↑v:=q
    cases a;show 0<=B.nb/\B.nb<=B.nb;lia
   .have:=f v q;show 0<=v/\v<=B.nb;lia
 .rw[Jc m]
  have i:B.cnt≠B.bnd:=λz=>m (by unfold Bt.mw;rw[Je z,Jm (by lia:¬4096<=B.cnt)];rfl)
  exact#[by show 0<=B.cnt+1;lia,by show B.cnt+1<=B.bnd;lia,bm,c,g,d,f]
end L3
namespace L3
open PySem PySem.Spec PyProof.Rows L2
open Sem (wp)
def Bt.ou(B:Bt):Bt:={B with cnt:=B.bnd}
theorem MH.ou(h:MH B):MH B.ou:=#[by show 0<=B.bnd;have:=h.c0;have:=h.cb;lia,F8 _,h.bm,h.s1,h.eq,h.hx,h.hy]
end L3
namespace L3
open PySem PySem.Spec PyProof.Rows L2
theorem vf{a:Η}:∀{its:Ζ},HR (a.map V.ref) its->its=a.map Γ.ref:=by
 induction a with
 |nil=>intro its h;cases h;rfl
 |cons D r ih=>
  intro its h;cases h with
  |cons p q=>cases(show _=Γ.ref D from p);rw[ih q];rfl
theorem pA{K:ι}{C:Δ}:∀{a:Η},(∀D∈a,W.kitOne K (-C) (-D)=↑(decide (C=D)))->C∉a->W.kitAny K (-C) (a.map Γ.ref)=↑false
 | [],_,_=>rfl
 |D::r,h,hn=>by
  have e:=h D (Jy ..);rw[Jm (λz:C=D=>hn (by rw[z];exact Jy ..))]at e
  simp only[JW,W.kitAny,e];exact pA (λD c=>h D (JD _ c)) (λz=>hn (JD _ z))
noncomputable def Bt.tn(B:Bt):Bt:=if B.mw then(if B.x=↑B.bnd then{B with y:=none}else{B with x:=none}).ou else B.ou
theorem MH.tn(h:MH B):MH B.tn:=by
 unfold Bt.tn
 by_cases m:B.mw=true
 .rw[Jd m]
  by_cases e:B.x=↑B.bnd
  .rw[Jd e]
   exact MH.ou #[h.c0,h.cb,h.bm,h.s1,.inl e,h.hx,λv q=>by cases q]
  .rw[Jc e]
   exact MH.ou #[h.c0,h.cb,h.bm,h.s1,.inr (h.eq.resolve_left e),(λv q=>by cases q),h.hy]
 .rw[Jc m];exact h.ou
theorem AE(B:Bt):B.tn.nm=B.nm:=by unfold Bt.tn;split<;>(try split)<;>rfl
theorem E1(B:Bt):B.tn.t=B.t:=by unfold Bt.tn;split<;>(try split)<;>rfl
theorem El(B:Bt):B.tn.ks=B.ks:=by unfold Bt.tn;split<;>(try split)<;>rfl
theorem oZ(B:Bt):B.tn.age=B.age:=by unfold Bt.tn;split<;>(try split)<;>rfl
inductive NU (K:ι) (C:Δ) (vs:Β) (H:Hp) (Q:VK) (_3:XK):Prop
 |mk (p ta ka ce kt:Δ) (B:Bt) (ks:Ε) (h1:vs=[-p,-kt]) (h2:HM K C H p ta ka ce B) (h3:Sq K H kt (ks.map V.int)) (h4:B.age<7) (h5:∀ka' H',Mv [p] H H'->HM K C H' p ta ka' ce {B with ks:=ks,age:=B.age+1}->Q .non H')
def Fl(K:ι)(H:Hp)(b:Δ)(c:List Ε):Prop:=∃d:Η,HQ K H b (d.map V.ref)/\d.length=c.length/\∀(i:Nat) (a:Δ) (ks:Ε),d[i]? =↑a->c[i]? =↑ks->HQ K H a (ks.map V.int)
inductive Rw where
 |learn (P R:Ps)
 |forget (nm:Str)
 |turn (ks:Ε)
 |close (age:Int)
 |hear (P:Ps) (ans:Β)
abbrev _root_.Τ:=List Rw
noncomputable def jE:V->Prop
 | .int _=>True
 | .str _=>True
 |_=>False
noncomputable def Nc(H:Hp)(a:Δ):Rw->Prop
 | .learn P R=>∃c p2,Rd H a (.tup [.str "learn",-c,-p2])/\Mc H c P/\Mc H p2 R/\Np P/\Np R
 | .forget nm=>Rd H a (.tup [.str "forget",.str nm])
 | .turn ks=>∃k,Rd H a (.tup [.str "turn",-k])/\Rd H k (.tup (ks.map V.int))/\ks.length<=8
 | .close age=>Rd H a (.tup [.str "close",.int age])
 | .hear P ans=>∃p q,Rd H a (.tup [.str "hear",-p,-q])/\Mc H p P/\Np P/\H q=↑(.tup ans)/\ans.length<=3/\∀v∈ans,jE v
def LJ(H:Hp)(rs:Η)(L:Τ):Prop:=rs.length=L.length/\∀(i:Nat) (a:Δ) (r:Rw),rs[i]? =↑a->L[i]? =↑r->Nc H a r
def Nd(H:Hp)(lg:Δ)(L:Τ):Prop:=∃rs:Η,H lg=↑(.lst (rs.map V.ref))/\LJ H rs L
def Nq(H:Hp)(t:Δ)(L:Τ):Prop:=∃rs:Η,Rd H t (.tup (rs.map V.ref))/\LJ H rs L
section
theorem Nc.mv(m:Mv S H H')(n:NT S H)(h:Nc H a r):Nc H' a r:=by
 cases r with
 |learn P R=>let#[f,p2,h1,c,d,e]:=h;exact#[f,p2,m.rd n h1,Ln.mv m n c,Ln.mv m n d,e]
 |forget nm=>exact m.rd n h
 |turn ks=>let#[k,h1,c,d]:=h;exact#[k,m.rd n h1,m.rd n c,d]
 |close age=>exact m.rd n h
 |hear P ans=>let#[p,q,h1,c,d,e,g]:=h;exact#[p,q,m.rd n h1,Ln.mv m n c,d,m.tup n e,g]
theorem LJ.mv(m:Mv S H H')(n:NT S H)(h:LJ H rs L):LJ H' rs L:=#[h.1,λi a r c d=>(h.2 i a r c d).mv m n]
theorem Nd.mv(m:Mv S H H')(n:NT S H)(a:lg∉S)(h:Nd H lg L):Nd H' lg L:=by
 let#[rs,e,r]:=h
 exact#[rs,m _ _ a e,r.mv m n]
theorem Nq.mv(m:Mv S H H')(n:NT S H)(h:Nq H t L):Nq H' t L:=by
 let#[rs,e,r]:=h
 exact#[rs,m.rd n e,r.mv m n]
theorem iR:NT [] H:=λc h=>nomatch h
theorem LJ.same(s:HG H H')(h:LJ H rs L):LJ H' rs L:=h.mv (S:=[]) s.mv iR
theorem Nd.same(s:HG H H')(h:Nd H lg L):Nd H' lg L:=h.mv (S:=[]) s.mv iR (λz=>nomatch z)
theorem Nq.same(s:HG H H')(h:Nq H t L):Nq H' t L:=h.mv (S:=[]) s.mv iR
theorem LJ.add(h:LJ H rs L)(f:Nc H a r):LJ H (rs++[a]) (L++[r]):=by
 refine#[by simp [h.1],λi b q c d=>?_]
 by_cases hi:i<rs.length
 .rw[FH hi]at c
  rw[FH (by rw[<- h.1];exact hi)]at d
  exact h.2 i b q c d
 .rw[Fy (by lia)]at c
  rw[Fy (by rw[<- h.1];lia),<- h.1]at d
  cases e:i-rs.length with
  |zero=>rw[e]at c d;cases c;cases d;exact f
  |succ k=>rw[e]at c;cases c
theorem pF(h:jE v):MX H n v v:=by
 cases v with
 |int i=>exact .int _ _
 |str i=>exact .str _ _
 |_=>exact h.elim
theorem Mc.eqv(h1:Mc H p P)(e:Mc H q P)(o:Np P):MX H 2 (-p) (-q):=by
 let#[j,c,d]:=h1;let#[h,f,g]:=e;refine .tup (.inl c) (.inl f) Z (by show 3<=ζ;decide) λi x y ex a=>?_
 match i,ex,a with
 |0,ex,a=>cases ex;cases a;exact .str _ _
 |1,ex,a=>cases ex;cases a;exact .int _ _
 |2,ex,a=>cases ex;cases a;exact .ints (.inl d) (.inl g) (by rw[o.l];decide)
 |i+3,ex,a=>cases ex
theorem Nc.eqv{b:Δ}(h1:Nc H a r)(e:Nc H b r):MX H 3 (-a) (-b):=by
 cases r with
 |learn P R=>
  let#[p,p2,f,d,g,j,m]:=h1;let#[q,o,f1,f2,h,_]:=e;refine .tup f f1 Z (by show 3<=ζ;decide) λi x y ex c=>?_
  match i,ex,c with
  |0,ex,c=>cases ex;cases c;exact .str _ _
  |1,ex,c=>cases ex;cases c;exact Mc.eqv d f2 j
  |2,ex,c=>cases ex;cases c;exact Mc.eqv g h m
  |i+3,ex,c=>cases ex
 |forget nm=>
  refine .tup (n:=2) h1 e Z (by show 2<=ζ;decide) λi x y ex c=>?_
  match i,ex,c with
  |0,ex,c=>cases ex;cases c;exact .str _ _
  |1,ex,c=>cases ex;cases c;exact .str _ _
  |i+2,ex,c=>cases ex
 |turn ks=>
  let#[k1,f,d,g]:=h1;let#[k2,f1,f2,_]:=e;refine .tup (n:=2) f f1 Z (by show 2<=ζ;decide) λi x y ex c=>?_
  match i,ex,c with
  |0,ex,c=>cases ex;cases c;exact .str _ _
  |1,ex,c=>cases ex;cases c;exact .ints d f2 (by rw[Jn];lia)
  |i+2,ex,c=>cases ex
 |close age=>
  refine .tup (n:=2) h1 e Z (by show 2<=ζ;decide) λi x y ex c=>?_
  match i,ex,c with
  |0,ex,c=>cases ex;cases c;exact .str _ _
  |1,ex,c=>cases ex;cases c;exact .int _ _
  |i+2,ex,c=>cases ex
 |hear P ans=>
  let#[p,p2,f,d,j,g,s,l]:=h1;let#[q,o,f1,f2,_,h,_]:=e;refine .tup f f1 Z (by show 3<=ζ;decide) λi x y ex c=>?_
  match i,ex,c with
  |0,ex,c=>cases ex;cases c;exact .str _ _
  |1,ex,c=>cases ex;cases c;exact Mc.eqv d f2 j
  |2,ex,c=>
   cases ex;cases c
   refine .tup (n:=1) (.inl g) (.inl h) Z (by rw[Jn];lia) λi x y ex c=>?_
   rw[ex]at c;cases c
   exact pF (l _ (Jo ex))
  |i+3,ex,c=>cases ex
theorem Nq.eqv(h1:Nq H t L)(g:Nq H t' L)(n:L.length<=2000000):MX H 4 (-t) (-t'):=by
 let#[rs,l,d,m]:=h1;let#[j,e,f,h]:=g;refine .tup l e (by simp [d,f]) (by rw[Jb,d,Jn];lia) λi x y ex c=>?_
 rw[Jp]at ex c;cases q1:rs[i]? with
 |none=>rw[q1]at ex;cases ex
 |some a=>
  cases q2:j[i]? with
  |none=>rw[q2]at c;cases c
  |some b=>
   rw[q1]at ex;rw[q2]at c;cases ex;cases c
   have hi:i<L.length:=by rw[<- d];exact(Jt.mp q1).1
   exact(m i a _ q1 (Jk hi)).eqv (h i b _ q2 (Jk hi))
end
theorem _root_.L2.HQ.up{K:ι}(h:HQ [] H a xs):HQ K H a xs:=h.elim .inl λ⟨_,_,_,z,_⟩=>nomatch z
theorem _root_.L2.HQ.rd(h:HQ [] H a xs):Rd H a (.tup xs):=h.elim id λ⟨_,_,_,z,_⟩=>nomatch z
theorem Le.up{K:ι}(h:Le [] H a c):Le K H a c:=by
 let#[f,e,l,r]:=h
 exact#[f,e,l,λi a ks d g=>(r i a ks d g).up]
inductive NV (K:ι) (C:Δ) (vs:Β) (H:Hp) (Q:VK) (_3:XK):Prop
 |mk (p a b dx:Δ) (near far most:Int) (t:Ε) (kss:List Ε) (h1:vs=[-p,-a,-b,.int near,.int far,.int most]) (h2:H p=↑(.ins C dx [])) (h3:Sq K H a (t.map V.int)) (h4:Le [] H b kss) (h5:kss.length<=8) (h6:∀ta hk bd lg H',H hk=none->H bd=none->H lg=none->Mv [p] H H'->HK K C H' p ta hk bd lg 0 ⟨t,kss,near,far,most,0,[]⟩->Le [] H' hk kss->Q .non H')
inductive Oc (K:ι) (C:Δ) (vs:Β) (H:Hp) (Q:VK) (_3:XK):Prop
 |mk (p a b dx:Δ) (near far most:Int) (t:Ε) (kss:List Ε) (h1:vs=[-p,-a,-b,.int near,.int far,.int most]) (h2:H p=↑(.ins C dx [])) (h3:Sq K H a (t.map V.int)) (h4:Fl [] H b kss) (h5:kss.length<=8) (h6:∀ta hk bd lg H',H hk=none->H bd=none->H lg=none->Mv [p] H H'->HK K C H' p ta hk bd lg 0 ⟨t,kss,near,far,most,0,[]⟩->Le [] H' hk kss->Q .non H')
structure Da where
 p:Δ
 ta:Δ
 hk:Δ
 bd:Δ
 lg:Δ
structure Lc(K:ι)(C:Δ)(H:Hp)(a:Da)(D:Dr)(L:Τ):Prop where
 dr:HK K C H a.p a.ta a.hk a.bd a.lg L.length D
 lo:Nd H a.lg L
 kr:Le [] H a.hk D.kss
section
variable{K:ι}{C:Δ}{S:Η}{H H':Hp}{a:Da}{D:Dr}{L:Τ}{r:Δ}{rw:Rw}{rs:Η}
theorem Lc.mv(b:Lc K C H a D L)(m:Mv S H H')(nt:NT S H)(hp:a.p∉S)(d:a.hk∉S)(hb:a.bd∉S)(c:a.lg∉S):Lc K C H' a D L:=⟨b.dr.mv m nt hp d hb c,b.lo.mv m nt c,Le.mv m nt d b.kr⟩
theorem Lc.same(b:Lc K C H a D L)(s:HG H H'):Lc K C H' a D L:=⟨b.dr.same s,b.lo.same s,Le.same s b.kr⟩
theorem Lc.push(b:HK K C H a.p a.ta a.hk a.bd a.lg L.length D)(c:H a.lg=↑(.lst (rs.map V.ref)))(d:LJ H rs L)(g:Le [] H a.hk D.kss)(f:Nc H r rw):Lc K C (HI H a.lg (.lst (rs.map V.ref++[-r]))) a D (L++[rw]):=by
 have nt:NT [a.lg] H:=NT.one c trivial
 have e:=b.putL (r:=r) c (Ic d.1)
 rw[show L.length+1=(L++[rw]).length by simp]at e
 exact⟨e,⟨rs++[r],by rw[qb,JG];rfl,(d.add f).mv Mv.upd1 nt⟩,Le.mv Mv.upd1 nt (zv b.ne.symm) g⟩
theorem ue{p ta hk bd lg:Δ}{n:Nat}{c:List (qR×V)}(e:H bd=↑(.dK c))(b:HK K C H p ta hk bd lg n D):hk≠bd:=by
 let#[d,a,_]:=b.ks;exact zr a e (by intro z;cases z)
theorem C9{p ta hk bd lg dx:Δ}{n:Nat}{c:List (Str×V)}(e:H p=↑(.ins C dx c))(b:HK K C H p ta hk bd lg n D):hk≠p:=by
 let#[d,a,_]:=b.ks;exact zr a e (by intro z;cases z)
theorem HK.dl(b:HK K C H p ta hk bd lg 0 D)(c:Le [] H hk D.kss):Lc K C H ⟨p,ta,hk,bd,lg⟩ D []:=by
 let#[rs,e,l]:=id b.lo
 obtain rfl:rs=[]:=List.length_eq_zero_iff.mp (Nat.le_zero.mp l)
 exact⟨b,⟨[],e,Z,λi a r h=>by cases h⟩,c⟩
end
inductive Dd where
 |learn (o1 o2:Option Ps)
 |forget (nm:Str)
 |turn (ks:Ε)
 |close (age:Int)
 |hear (o:Option Ps)
noncomputable def ze(D:Dr)(P:Ps):Β×Kw:=QF D P.nm P.age (aT D.t (aI D P.age) P.nm P.ds)
noncomputable def CS(D:Dr):Dd->Option (Dr×Rw)
 | .learn ↑P ↑R=>if(uX D P R).1="" then ↑({D with kn:=(uX D P R).2.2},.learn P R)else none
 | .learn _ _=>none
 | .forget nm=>if D.kn.lookup nm=none then none else ↑({D with kn:=D.kn.filter λp=>decide (p.1≠nm)},.forget nm)
 | .turn ks=>if D.kss.length<8 then ↑({D with kss:=D.kss++[ks]},.turn ks)else none
 | .close age=>↑({D with least:=if age>D.least then age else D.least},.close age)
 | .hear ↑P=>↑({D with kn:=(ze D P).2},.hear P (ze D P).1)
 | .hear none=>none
section
variable(K:ι)(C:Δ)(x:Xa)
inductive NW (vs:Β) (H:Hp) (Q:VK) (_3:XK):Prop
 |mk (a:Da) (D:Dr) (L:Τ) (x:V) (o:Option Ps) (h1:vs=[-a.p,x]) (h2:Lc K C H a D L) (h3:L.length<=1000000) (h4:Ob D) (h5:Tg H x o) (h6:(o=none->∀q H',HG H H'->H' q=↑(.tup [.str "held",.str "bad"])->Q (-q) H')) (h7:∀P,o=↑P->∀pr q H',x= .ref pr->Mv [a.bd,a.lg] H H'->Mc H' pr P->H' q=↑(.tup (ze D P).1)->Lc K C H' a {D with kn:=(ze D P).2} (L++[.hear P (ze D P).1])->Q (-q) H')
def N6(H:Hp)(k:Δ)(ks:Ε):Prop:=H k=↑(.lst (ks.map V.int))\/Rd H k (.tup (ks.map V.int))
inductive Ml (vs:Β) (H:Hp) (Q:VK) (_3:XK):Prop
 |mk (a:Da) (D:Dr) (L:Τ) (age:Int) (h1:vs=[-a.p,.int age]) (h2:Lc K C H a D L) (h3:L.length<=1000000) (h4:∀D' r,CS D (.close age)=↑(D',r)->∀H',Mv [a.p,a.lg] H H'->Lc K C H' a D' (L++[r])->Q .non H')
inductive O0 (vs:Β) (H:Hp) (Q:VK) (_3:XK):Prop
 |mk (a:Da) (D:Dr) (L:Τ) (h1:vs=[-a.p]) (h2:Lc K C H a D L) (h3:∀t H',HG H H'->Nq H' t L->Q (-t) H')
inductive OI (vs:Β) (H:Hp) (Q:VK) (_3:XK):Prop
 |mk (a:Da) (D:Dr) (L:Τ) (h1:vs=[-a.p]) (h2:Lc K C H a D L) (h3:D.kss.length<=8) (h4:∀a' H',HG H H'->H a'.p=none->H a'.hk=none->H a'.bd=none->H a'.lg=none->Lc K C H' a' D L->Q (-a'.p) H')
end
theorem Zg{X:Cx}:Qh X (.type "tuple") (λxs H Q=>∃a ks,xs=[-a]/\N6 H a ks/\∀t c,HG H c->Rd c t (.tup (ks.map V.int))->Q (-t) c):=by
 intro tx s σ H xs f Q I r h;let#[a,ks,e,h,q]:=h;refine zf tx s σ H xs f Q I r ⟨a,ks.map V.int,e,?_⟩
 rcases h with h|h
 .exact .inl ⟨HP.of h,λt d=>q t _ (HG.upd d) (.inl qb)⟩
 .exact .inr ⟨.inl h,q a _ (HG.refl _) h⟩
section
theorem di(D:Dr)(nm:Str)(age:Int)(r:Option (Int×Int)):(QF D nm age r).1.length<=3/\∀v∈(QF D nm age r).1,jE v:=by
 have two:∀a b:Str,([V.str a,.str b]:Β).length<=3/\∀v∈([V.str a,.str b]:Β),jE v:=λa b=>#[by show 2<=3;decide,λv d=>by simp at d;rcases d with rfl|rfl<;>trivial]
 have c:∀(a b:Str) (i:Int),([V.str a,.str b,.int i]:Β).length<=3/\∀v∈([V.str a,.str b,.int i]:Β),jE v:=λa b i=>#[by show 3<=3;decide,λv d=>by simp at d;rcases d with rfl|rfl|rfl<;>trivial]
 unfold QF;split
 .exact two _ _
 .split
  .split
   .exact two _ _
   .split
    .exact c _ _ _
    .exact two _ _
  .exact two _ _
theorem vk(D:Dr)(P:Ps):(ze D P).1.length<=3:=(di ..).1
theorem wZ(D:Dr)(P:Ps):∀v∈(ze D P).1,jE v:=(di ..).2
end
theorem jd(G:L2.St->Hp->Prop)(h:∀D':Lr,D'.rt=D.rt->(∀a H',G a H'->D'.nx a H')->t D' σ H)(c:∀a H',G a H'->u D a H'):jM t u D σ H:=h {D with nx:=u D} rfl c
section
variable{K:ι}{C:Δ}{H:Hp}{a:Da}{D:Dr}{L:Τ}
def dS(a:Da):Η:=[a.p,a.hk,a.bd,a.lg]
theorem Lc.nt(d:Lc K C H a D L):NT (dS a) H:=λc e=>by
 let#[dx,i]:=id d.dr.ob;let#[j,f,_]:=id d.dr.kb;let#[l,h,_]:=id d.dr.ks;let#[rs,g,_]:=id d.lo;simp only[dS,Jh,Jr,Js]at e;rcases e with rfl|rfl|rfl|rfl
 .exact#[_,i,trivial]
 .exact#[_,h,trivial]
 .exact#[_,f,trivial]
 .exact#[_,g,trivial]
end
theorem An{bk:L2.St->Hp->Prop}(G:L2.St->Hp->Prop)(h:∀D':Lr,D'.rt=D.rt->(∀a H',G a H'->D'.nx a H')->t D' (σ.set i ↑v) H)(c:∀a H',G a H'->u D a H'):cX i v σ H (Lr.nx {nx:=jM t u D,rt:=rt,bk:=bk,ct:=ct}):=h {D with nx:=u D} rfl c
theorem bX{a:Da}{H H':Hp}(m:Mv [a.bd,a.lg] H H'):Mv (dS a) H H':=m.mono λc h z=>h (by simp only[dS,Jh,Jr,Js]at z⊢;rcases z with z|z<;>simp [z])
theorem Bd{a:Da}{H H':Hp}(m:Mv [a.hk,a.lg] H H'):Mv (dS a) H H':=m.mono λc h z=>h (by simp only[dS,Jh,Jr,Js]at z⊢;rcases z with z|z<;>simp [z])
theorem CP{a:Da}{H H':Hp}(m:Mv [a.p,a.lg] H H'):Mv (dS a) H H':=m.mono λc h z=>h (by simp only[dS,Jh,Jr,Js]at z⊢;rcases z with z|z<;>simp [z])
theorem zm{P:Ξ}{w:Ω}{K:ι}{mg:HE}{base:Ψ}{N:Α}{Rg:Str}{c:Scope}{f:Δ}{Q:Γ}{A:Around}{outer:Ο}{d:Θ}{H0:Hp}{E:XK}:
  cH (az P w) (QJ (az P w) P w K mg base N Rg c f Q A outer d H0 E) E:=by
 intro tx σ H s e s' I h;let#[a,cls,dd,T,H',rfl,os,l,un,n,ha,O,J,G,#[oe,vs,oT,ts,a0,he,hc,W,u,h0,h1,a4,U,b2,h3],q]:=h;let#[X,hX]:∃X,X=QJ (az P w) P w K mg base N Rg c f Q A outer d H0 E:=#[0]
 have I2:L2.HL (QJ (az P w) P w K mg base N Rg c f Q A outer d H0 E) tx σ H' s':=I.call' os un n l (λb z=>absurd z (by simp))
 let#[fl,a3]:∃fl,fl=d.heap.objs.size::QB outer:=#[0]
 have Y:QB ((QJ (az P w) P w K mg base N Rg c f Q A outer d H0 E).stack)=fl:=a3.symm
 let#[t,g]:∃t,t=aU s'.heap (a::T::fl):=#[0]
 have kb:t.StaysIn s'.heap:=λb o q=>by rw[g]at q;exact(gs q).2
 have ff:=aF (B':=t) I2.stack (λb hb=>by rw[g];exact QX (JD _ (JD _ (by rw[<- Y];exact hb))))
 have td:Ph s'.heap t a cls dd .none:=#[oe,vs,T,oT,ts,a0,he,hc,W,u,h0,h1,by rw[g];exact QX (JD _ (Jy ..)),a4,U,b2,h3]
 show ε _ _ (leaving _ (-a)) _ _ s'
 unfold leaving;refine Ja (vR (L:=d.heap.objs.size) I.ok.frames ff Z td kb (by rw[g];exact QX (Jy ..)) λh4 k1 k2 k3 a2=>?_)
 refine je k1 k2 k3 λh5 j1 j2 j3 b0=>?_
 have up:=a2.trans b0;let#[o5,b1,i,a1,D,a5,e5,c5,F,d5,x0,x1,x,p,r,v,x3]:=id j3.ex;have R:L2.HL (QJ (az P w) P w K mg base N Rg c f Q A outer d H0 E) tx σ H' {s' with heap:=h5,toks:=s'.toks}:=jQ I os l un n ha O J G (by rw[Y,<- g];exact j1) up e5 c5 d5 F
 have B:∀b o,d.heap.get? b=↑o->∃o',s.heap.get? b=↑o':=λb o hb=>I.base.there b o hb (λz=>nomatch z)
 have b3:d.heap.get? a=none:=by
  cases z:d.heap.get? a with
  |none=>rfl
  |some o=>let#[o',j]:=B a o z;rw[O]at j;cases j
 have S:d.heap.get? T=none:=by
  cases z:d.heap.get? T with
  |none=>rfl
  |some o=>let#[o',j]:=B T o z;rw[J]at j;cases j
 have key:i=T\/s'.heap.get? i=none:=by
  by_cases z:i=T
  .exact .inl z
  .refine .inr ?_
   cases y:s'.heap.get? i with
   |none=>rfl
   |some o=>
    by_cases m:i∈fl
    .let#[_,o',z',nf]:=I2.stack.mem (show i∈QB _ by rw[Y];exact m)
     rw[y]at z';cases z'
     let#[sl,q1]:=up i o y nf;rw[r]at q1;cases q1
     exact absurd v (nf D)
    .rw[g,ap (λm'=>by
      rcases Jh.mp m' with m'|m'
      .exact p m'
      .rcases Jh.mp m' with m'|m'
       .exact z m'
       .exact m m'),y]at x
     cases x
 have C:d.heap.get? i=none:=by
  rcases key with rfl|z
  .exact S
  .cases y:d.heap.get? i with
   |none=>rfl
   |some o=>let#[o',j]:=I2.base.there i o y (λz=>nomatch z);rw[z]at j;cases j
 have M:H' i=none:=by
  rcases key with rfl|z
  .exact G
  .exact LZ.none n z
 exact#[a,cls,dd,i,H',Z,R.os,R.bare,R.base,R.hok,ha,b3,C,M,#[o5,b1,a1,D,a5,e5,c5,F,d5,x0,x1,p,r,v,x3],q]
noncomputable def CT(C:Δ)(m:Str)(sp:Sp)(E:XK)(ta:TE)(t:TA):TE:=λσ H Q=>ta σ H λx H1=>∃a,x= .ref a/\vb C H1 a m/\t σ H1 λc d=>sp (x::(c++[])) d Q E
section
variable{k:Nat}{sp:Sp}
theorem zX(M:My X.prog X.w X.K X.mg X.base C m ps k sp)(p:cH (az X.prog X.w) X E)(c:N5 X.K C)(z:Lb k X.A)(G:QE X o ta)(ha:QA X (e::es) t)(hst:θ (e::es) X.env=(false,eval e X.env)::θ es X.env:=by rfl)(d:(backTo pos (θ es X.env)).any (·.1)=false:=by rfl)(v:eval (.Call (.Attribute o m apos) (e::es) [] pos) X.env=(do
   let j <- eval o X.env
   standAt apos.atName
   let(f,first) <- holding [j] (getMethod j m pl)
   callWith pos f first (backTo pos (θ (e::es) X.env)) (backToKw pos (keywordEach [] X.env))):=by rfl):
  QE X (.Call (.Attribute o m apos) (e::es) [] pos) (CT C m sp E ta t):=#[by
 let#[f,fd,F,g,J]:=M.ex;intro tx s σ H Q I h;refine Iu (pl:=pl) (qK (G.h tx s σ H _ I h) λu A y=>?_) v
 let#[x,H1,n,D,a,ex,#[dx,fs,B,l],q]:=y;subst ex
 obtain rfl:u=Γ.ref a:=D
 refine gp n B c g l ?_
 refine GG (first:=[-a]) (h₀:=X.base) I.ok.mod.kin g.kp (qK (ha.h pos tx A σ H1 _ n q) λus L ⟨vs,K,i,r,w⟩=>#[i.kIn,?_]) hst d
 exact kM (us:= .ref a::us) (vs:= .ref a::vs) F z J .nil p i (.cons Z r) w]
end
structure Dy(P:Ξ)(w:Ω)(K:ι)(mg:HE)(base:Ψ)(x:Str)(ps:Α)(k:Nat)(sp:Sp):Prop where
 ex:∃(f:Δ) (fd:FuncData),Mj P w K mg base (az P w) k f fd ps sp/\mg x=↑(-f)/\PySem.W.keepIn K (-f)=true/\LL K fd ps []
theorem At.dy{K:ι}{st:δ}{k:Nat}{sp:Sp}(a:At K mg x st ps)(S:HH N ps (qm st))(c:∀(f:Δ) (cdv:Γ) (A:Around) (outer:Ο) (s:Θ) (H:Hp) (vs:Β) (Q:VK) (E:XK),Lb k (A.deeper (envOfC x (qm st) s.heap.objs.size f cdv))->sp vs H Q E->
   ∃t,On (QJ (az P w) P w K mg base N x (qm st) f cdv A outer s H E) (Qi st) t/\t {nx:=λ_ H'=>Q .non H',rt:=Q} (Zl N vs) H)(e:∀vs H Q E,sp vs H Q E->vs.length=ps.length:=by intro vs H Q E h;first|(cases h;subst_vars;rfl)|((repeat first|let#[rfl,h]:=h|let#[_,h]:=h);all_goals rfl)):Dy P w K mg base x ps (k+1) sp:=by
 let#[f,fd,F,m,i,bd]:=a.ex;refine#[f,fd,?_,m,i,bd]
 let#[oc,od,kV,doc,pm,an,cdv,ct,osl,rfl,j,g]:=F.ex;refine uo j g S e λA outer s H vs Q E l d=>?_
 let#[t,h,q]:=c f cdv A outer s H vs Q E l d
 exact#[t,h.h,q]
noncomputable def EI(i:Nat)(sp:Sp)(t:TA):TX:=λD c σ H=>t σ H λa d=>sp (a++[]) d (λv H3=>D.nx (σ.set i ↑v) H3) (λv _ H'=>∃b,v= .ref b/\c σ b H')
theorem DI{k:Nat}{sp:Sp}(M:Dy X.prog X.w X.K X.mg X.base y ps k sp)(J:Lb k X.A)(C:X.N.Nodup)(hi:X.N[i]? =↑x)(E:pJ X.env.scope x)(ha:QA X.nox (e::es) t)(hg:Gl X y:=by rfl)(m:(y==("__debug__":Str))=false:=by decide)(hst:θ (e::es) X.env=(false,eval e X.env)::θ es X.env:=by rfl)(n:(backTo pos (θ es X.env)).any (·.1)=false:=by rfl)(hs:swapsWith (.Call (.Name y p) (e::es) [] pos) ↑(.Name x pos') a.line X.env=pure false:=by rfl)(N:X.fn x=true\/X.env.scope.names.lookup x=some .local:=by first|exact .inl Z|exact .inr Z|assumption):
  QY X [.Assign [.Name x pos'] (.Call (.Name y p) (e::es) [] pos) a] (EI i sp t):=#[by
 let#[f,fd,F,G,U,W]:=M.ex;intro tx s σ H D Y R I h S;refine wpAny_execs_cons (qK (Q:=SP X tx D) (wpAny_Assign_Name (Q:=SP X tx D) (qK (Q:=EP X tx σ λv H3=>D.nx (σ.set i ↑v) H3) ?_ λv L ⟨y,H1,T,K,O⟩=>a7 T C hi E K (λl c=>#[_,H1,c,O]) N) hs) λf L q=>?_)
 .refine GF (au I hg G ?_ m)
  refine GG (h₀:=X.base) I.ok.mod.kin U (JR (ha.h pos tx s σ H _ (I.wish _) h) (λj l ⟨w,B,d,r,o⟩=>#[d.unwish.kIn,?_]) λ_ _ z=>z.elim) hst n
  have c:=d.unwish;have A:HR (w++[]) (j++[]):=by rw[GD,GD];exact r
  have P:(j++[]).length=ps.length:=by rw[<- A.length];exact F.len _ _ _ _ o
  refine Gf (F1 (F.run X.A X.stack l B #[j,[]] (j++[]) (w++[]) _ _ J c.env0 (W l _ c.kIn P) A o) λr s' g=>?_)
  cases r with
  |error e=>exact S σ e s' #[B,l,c,g]
  |ok fl=>
   cases fl with
   |ret u=>exact c.after g
   |next=>exact False.elim g
   |brk=>exact False.elim g
   |cont=>exact False.elim g
 .cases f with
  |next=>exact Gd q
  |ret v=>exact q
  |brk=>exact q
  |cont=>exact q]
theorem em{P:Ξ}{w:Ω}{K:ι}{mg:HE}{base:Ψ}{N:Α}{Rg:Str}{a:Scope}{f:Δ}{c:Γ}{A:Around}{outer:Ο}{d:Θ}{H0:Hp}{E:XK}:
  PassesOwn (model P w) (QJ (az P w) P w K mg base N Rg a f c A outer d H0 E).A (QJ (az P w) P w K mg base N Rg a f c A outer d H0 E).env (QJ (az P w) P w K mg base N Rg a f c A outer d H0 E).xe:=PassesOwn.leaving
noncomputable def iH(p d:Δ):HO:= .ext λh=>h.IsValuesView p d
inductive OJ (x:V) (vs:Β) (H:Hp) (Q:VK):Prop
 |mk (d:_) (kvs:_) (h1:x= .ref d) (h2:vs=[]) (h3:H d=↑(.dK kvs)) (h4:∀p,H p=none->Q (-p) (HI H p (iH p d)))
theorem uQ{X:Cx}:iK X "dict.values" OJ:=by
 intro tx s σ H x i v t Q I l m h;let#[d,kvs,rfl,rfl,j,q]:=h;cases l;cases m;let#[z,lo,i,p,g]:=cm I.hok j;refine PySem.call_meetsIn PySem.F.slot_dict_values g.typeIs PySem.F.entry_dict_values (PySem.F.args_dict_values_1 _) (meets_dict_values (zj X.prog X.w) d lo) ⟨⟨i,g⟩,?_⟩
 have e:(s.heap.push {cls:= .type "dict_values",data:= .fields (List.toArray [-d])}).get? s.heap.objs.size=some {cls:= .type "dict_values",data:= .fields (List.toArray [-d])}:=Ju _ Z
 have n:=I.laid (a:=s.heap.objs.size) (o:=iH s.heap.objs.size d) (t':=s.toks) (h':=s.heap.push {cls:= .type "dict_values",data:= .fields (List.toArray [-d])}) (λb u e=>Jj _ e) (Jf _) ⟨⟨_,e,Z,Z⟩,⟨_,e⟩,λh1 r ⟨o,e,c,f⟩ k=>⟨o,k o e,c,f⟩⟩
 exact⟨.ref _,_,n,Z,q _ (I.hok.fresh (Jf _))⟩
noncomputable def mW(d:Δ)(o:Obj)(kvs:List (qR×V)):It:=
 ⟨λi H=>H d=↑(.frz o (.dK kvs))/\i<kvs.length,λi H x H'=>H'=H/\∃a,kvs[i]? =↑a/\x=a.2,λi H=>H d=↑(.frz o (.dK kvs))/\kvs.length<=i⟩
theorem rj:∀{kvs:List (qR×V)} {vs:List (qR×Γ)},KV kvs vs->∀(i:Nat) a b,kvs[i]? =↑a->vs[i]? =↑b->HN a.2 b.2
 |_,_,.nil,i,a,b,h,_=>by cases h
 |_,_,.cons r t,0,a,b,h1,h2=>by cases h1;cases h2;exact r.2
 |_,_,.cons r t,i+1,a,b,h1,h2=>rj t i a b h1 h2
theorem sB{P:Ξ}{w:Ω}{K:ι}{tg:Φ}(d it:Δ){o:Obj}{kvs:List (qR×V)}{vs:List (qR×Γ)}{ep:Nat}(F:∀h:Ψ,h.get? d=↑o->h.DictAt (zj P w) d vs ep)(f:KV kvs vs):
  MM P w K tg (mW d o kvs) [it] it (λi h=>h.IsValIter it d i vs.length ep) where
 mem:=by simp
 obj:=λi h st b g=>by
  have e:b=it:=by simpa using g
  subst e;let#[o,e,c,d]:=st
  exact#[o,e,λv z=>by rw[d]at z;cases z]
 keep:=λi h h' st k=>let⟨o,e,r⟩:=st;#[o,k it (by simp) o e,r]
 item:=by
  intro X n m u G i tx s σ H E I l st t;subst n m u;let#[q,hi]:=t;have a:=(I.hok d _ q).1;have C:i<vs.length:=by rw[<- f.length];exact hi
  have D:vs[i]? =↑(vs[i].1,vs[i].2):=Jk C
  have hk:kvs[i]? =some kvs[i]:=Jk hi
  have B:HN kvs[i].2 vs[i].2:=rj f i _ _ hk D
  let#[p,f1,f2,A,x,y]:=l it (by simp)
  refine wpAny_pyNext_values_item st (F _ a) D λh' j J=>?_
  have M:L2.HL X tx σ H {s with heap:=h'}:=I.turned (t':=s.toks) (λb o g e=>(J.2 b g).trans e) p f1 A x y
  exact#[0,letGo_valiter (s':={s with heap:=h'}) j #[kvs[i].2,H,M,B,#[24,hk,Z],j,λb g=>(l b g).1]]
 done:=by
  intro X n m u G i tx s σ H E I l st t;subst n m u;let#[q,hi]:=t;have a:=(I.hok d _ q).1;let#[p,f1,f2,A,x,y]:=l it (by simp)
  have N:=f.length;exact wpAny_pyNext_values_end (I.ok.hd G) st (F _ a) (Gw (by lia)) λh' L=>#[Z,I.turned (t':=s.toks) (λb o g e=>L b o g e) p f1 A x y]
 self:=λ_ _ _ _ _ st h=>wpAny_pyIter_valiter st h
noncomputable def DX(tl:TE):TI:=λσ H R=>tl σ H λx H1=>∃p d kvs,x= .ref p/\H1 p=↑(iH p d)/\H1 d=↑(.dK kvs)/\∀o,R (mW d o kvs) (HI H1 d (.frz o (.dK kvs)))
theorem lT(F:QE X l tl):QI X tg l (DX tl):=#[by
 intro tx s σ H R I h;refine qK (F.h tx s σ H _ I h) λv a D=>?_
 let#[x,H1,m,J,E]:=D;let#[p,d,kvs,e,G,w,q]:=E;subst e;cases J;have i:a.heap.IsValuesView p d:=(m.hok p _ G).1
 let#[z,lo,y,f,o,es,C,g,r,n,t,A,B]:=cm m.hok w;have c:∀h:Ψ,h.get? d=↑o->h.DictAt (zj X.prog X.w) d y C:=λh e=>#[o,es,e,r,n,t,A,B]
 refine wpAny_pyIter_values i (c _ g) ?_
 have j:=m.write (x:=d) (e:=d) (o:= .frz o (.dK kvs)) (h':=a.heap) (t':=a.toks) (by rw[w];exact True.intro) (.inl Z) (λb u _ e=>e) #[o,g] #[g,z,lo,y,f,o,es,C,g,r,n,t,A,B]
 refine#[a.heap.objs.size,[a.heap.objs.size],19,j.kept (t':=a.toks) λb o e=>Jj _ e,sB d _ c f,#[_,Ju _ Z,12],λb K=>?_,q o]
 have e:b=a.heap.objs.size:=by simpa using K
 subst e;exact j.fpOk (Jf _) (j.hok.fresh (Jf _))]
noncomputable def Ax(td:TE):TE:=λσ H Q=>td σ H λx H1=>OJ x [] H1 Q
theorem gj(ho:QE X o td)(c:attributeBase o "values" X.env (eval o X.env)=eval o X.env:=by rfl)(a:(apos.endLine==cpos.line)=true:=by rfl):QE X (.Call (.Attribute o "values" apos) [] [] cpos) (Ax td):=#[by
 intro tx s σ H Q I h;refine II c a (qK (ho.h tx s σ H _ I h) λv l j=>?_)
 let#[x,H1,e,m,f]:=j;let#[d,kvs,ex,p,g,q]:=id f;subst ex
 obtain rfl:v=Γ.ref d:=m
 let#[n,i,_]:=kP e (.inl #[kvs,.inl g])
 exact#["dict","dict.values",Iv,PySem.F.slot_dict_values,PySem.F.type_dict_values,n,i,Gk Z (IJ (uQ tx l σ H1 (-d) [] (-d) [] Q e Z .nil f))]]
theorem yz{g:TG}{tb:TS}{D:Lr}(Pv:Nat->L2.St->Hp->Prop)(r:Pv 0 σ H)(l:∀i σ H,Pv i σ H->H d=↑(.frz o (.dK kvs)))(hs:∀i h σ H,kvs[i]? =↑h->Pv i σ H->g h.2 σ H λa j=>tb {D with nx:=Pv (i+1),ct:=Pv (i+1),bk:=D.nx} a j)(n:∀σ H,Pv kvs.length σ H->D.nx σ H):
  ∃W:Nat->Nat->L2.St->Hp->Prop,(∃m,W 0 m σ H)/\∀i m σ H,W i m σ H->
   ((mW d o kvs).stop i H/\D.nx σ H)\/((mW d o kvs).go i H/\∃N:L2.St->Hp->Prop,(∀c H',N c H'->∃m',m'<m/\W (i+1) m' c H')/\∀x H',(mW d o kvs).yld i H x H'->g x σ H' λa j=>tb {D with nx:=N,ct:=N,bk:=D.nx} a j):=by
 exists λi m σ H=>m=kvs.length-i/\i<=kvs.length/\Pv i σ H,#[kvs.length,by simp,JL _,r]
 rintro i m σ H ⟨rfl,hi,p⟩
 by_cases f:i<kvs.length
 .refine .inr #[#[l i σ H p,f],Pv (i+1),λc H' q=>#[kvs.length-(i+1),by lia,Z,f,q],?_]
  rintro x H' ⟨rfl,h,e,rfl⟩
  exact hs i h σ H' e p
 .have:i=kvs.length:=by lia
  subst this;exact .inl #[#[l _ σ H p,Jf _],n σ H p]
noncomputable def Em(a:Hp)(t:TS):TS:=λD σ H=>t {nx:=λc H'=>∃d o kvs,H' d=↑(.frz o (.dK kvs))/\(∀o u,a d≠↑(.frz o u))/\D.nx c (HI H' d (.dK kvs)),rt:=D.rt,bk:=D.bk,ct:=D.ct} σ H
theorem eW{st:δ}(h:QS X st t):QS X st (Em X.H₀ t):=#[by
 intro tx s σ H D I w;refine qK (h.h tx s σ H _ I w) λf i q=>?_
 cases f with
 |next=>let#[a,H',e,d,o,kvs,c,g,q]:=q;exact#[a,_,HL.thaw e c g,q]
 |ret v=>exact q
 |brk=>exact q
 |cont=>exact q]
section
variable{K:ι}{H:Hp}
theorem wQ{b:Δ}{ns:Ε}(h1:HQ K H a (ns.map V.int))(e:HQ K H b (ns.map V.int)):O6 K H (n+1) (-a) (-b):=by
 refine .tup h1 e Z λi x y c d=>?_
 rw[c]at d;cases d
 rw[Jp]at c;cases h:ns[i]? with
 |none=>rw[h]at c;cases c
 |some v=>rw[h]at c;cases c;exact .int _ _
theorem xz{b:Δ}{f bs:Η}{c:List Ε}(h1:HQ K H a (f.map V.ref))(g:f.length=c.length)(k1:∀(i:Nat) (a:Δ) (ks:Ε),f[i]? =↑a->c[i]? =↑ks->HQ K H a (ks.map V.int))(j:HQ K H b (bs.map V.ref))(h:bs.length=c.length)(k2:∀(i:Nat) (a:Δ) (ks:Ε),bs[i]? =↑a->c[i]? =↑ks->HQ K H a (ks.map V.int)):O6 K H 2 (-a) (-b):=by
 refine .tup h1 j (by simp [g,h]) λi x y e d=>?_
 rw[Jp]at e d;cases q1:f[i]? with
 |none=>rw[q1]at e;cases e
 |some a=>
  cases q2:bs[i]? with
  |none=>rw[q2]at d;cases d
  |some b=>
   rw[q1]at e;rw[q2]at d;cases e;cases d
   have hi:i<c.length:=by rw[<- g];exact(Jt.mp q1).1
   exact wQ (k1 i a _ q1 (Jk hi)) (k2 i b _ q2 (Jk hi))
end
theorem gf(a:Da):a.p∈dS a:=by simp [dS]
theorem fL(a:Da):a.hk∈dS a:=by simp [dS]
theorem gB(a:Da):a.bd∈dS a:=by simp [dS]
theorem cf(a:Da):a.lg∈dS a:=by simp [dS]
theorem N6.same(s:HG H H')(h:N6 H a ks):N6 H' a ks:=h.elim (λz=> .inl (s _ _ z)) λz=> .inr (Rd.same s z)
theorem sM(e:H q=↑(.tup a))(d:H y=↑(.tup a))(f:a.length<=3)(h:∀v∈a,jE v):MX H (n+1) (-q) (-y):=by
 refine .tup (.inl e) (.inl d) Z (by rw[Jn];omega) λi x z h1 c=>?_
 rw[h1]at c;cases c
 exact pF (h _ (Jo h1))
section
variable(K:ι)(C:Δ)
inductive MZ (vs:Β) (H:Hp) (Q:VK) (_3:XK):Prop
 |mk (a:Da) (D:Dr) (L:Τ) (p1 p2:Δ) (P R:Ps) (c d d':Int) (h1:vs=[-a.p,-p1,-p2]) (h2:Lc K C H a D L) (h3:L.length<=1000000) (h4:Ob D) (h5:Mc H p1 P) (h6:Mc H p2 R) (h7:Np P) (h8:Np R) (h9:ii D P=↑(c,d)) (h10:ii D R=↑(c+1,d')) (h11:R.nm=P.nm) (h12:R.age=P.age) (h13:D.kn.lookup R.nm=none) (h14:(D.kn.length:Int)<D.most) (h15:∀H',Mv [a.bd,a.lg] H H'->Lc K C H' a {D with kn:=QN D.kn R.nm ⟨R.age,c+1,none⟩} (L++[.learn P R])->Q .non H')
end
theorem BP{x:V}:Q3 (xs++[x]) (-1)=↑x/\bM (xs++[x]).length (-1)=↑xs.length:=by
 have e:bM (xs++[x]).length (-1)=↑xs.length:=by
  unfold bM;rw[Jc ⋯,Jd (by rw[Jq];simp;omega),Jq]
  congr 1
  simp
  omega
 refine⟨?_,e⟩
 unfold Q3;rw[e];simp
section
variable(K:ι)(C:Δ)
inductive Nf (vs:Β) (H:Hp) (Q:VK) (_3:XK):Prop
 |mk (a:Da) (D:Dr) (L:Τ) (nm:Str) (h1:vs=[-a.p,.str nm]) (h2:Lc K C H a D L) (h3:L.length<=1000000) (h4:D.kn.lookup nm≠none) (h5:∀D' r,CS D (.forget nm)=↑(D',r)->∀H',Mv [a.bd,a.lg] H H'->Lc K C H' a D' (L++[r])->Q .non H')
inductive Ng (vs:Β) (H:Hp) (Q:VK) (_3:XK):Prop
 |mk (a:Da) (D:Dr) (L:Τ) (k:Δ) (ks:Ε) (h1:vs=[-a.p,-k]) (h2:Lc K C H a D L) (h3:L.length<=1000000) (h4:D.kss.length<8) (h5:N6 H k ks) (h6:ks.length<=8) (h7:∀D' r,CS D (.turn ks)=↑(D',r)->∀H',Mv [a.hk,a.lg] H H'->Lc K C H' a D' (L++[r])->Q .non H')
end
theorem tz{H:Hp}{a:Da}(f1:H a.p=none)(f2:H a.hk=none)(e:H a.bd=none)(d:H a.lg=none):∀z∈dS a,H z=none:=λz c=>by
 simp only[dS,Jh,Jr,Js]at c;rcases c with rfl|rfl|rfl|rfl<;>assumption
section
inductive Pd (x:V) (vs:Β) (H:Hp) (Q:VK):Prop
 |mk (l:Δ) (xs:Β) (i:Int) (y:V) (h1:x= .ref l) (h2:vs=[.int i,y]) (h3:H l=↑(.lst xs)) (h4:0<=i) (h5:i<=xs.length) (h6:xs.length<ζ) (h7:Q .non (HI H l (.lst (xs.take i.toNat++y::xs.drop i.toNat))))
theorem wB:iK X "list.insert" Pd:=by
 intro tx s σ H x C v G Q I g o h;let#[l,xs,i,y,rfl,rfl,f,E,hk,A,q]:=h;cases g;let#[B,u,rfl,d,j]:=o.two;let#[t,rfl]:=d;let#[z,a,n,r,D,e]:=I.lstM f;have c:a.length<ζ:=by lia
 have w:i<2 ^ 63:=by have:a.length<ζ:=c;rw[Jn]at this;lia
 have m:¬(!γ.List.listFitsIndex i)=true:=by rw[fitsIndex_both (by lia) w];decide
 refine FS F.slot_list_insert ⟨_,e,Z⟩ F.entry_list_insert (F.args_list_insert_3 _ _ _) (PySem.AutoSeq1.list_insert_list_int_val_1 l a.toArray n i t u m (by rw[JC];lia)) ⟨e,?_⟩
 refine⟨.non,_,I.lset (its':=a.take i.toNat++u::a.drop i.toNat) f e ?_ ((r.take i.toNat).append (.cons j (r.drop i.toNat))) ?_,Z,q⟩
 .simp only[JC]
  have p:min i.toNat a.length=i.toNat:=by lia
  rw[Jc (by lia),p]
  apply Array.ext'
  simp [IL]
 .rw[Jq,J7,Fv,Ih]
  lia
end
theorem BD{K:ι}(c:Sq K H0 a xs)(hn:xs.length<=ζ)(Pv:Nat->Β->Hp->Prop)(d:Pv 0 [] H)(ps:∀i ys H',Pv i ys H'->HG H0 H')(hs:∀i ys H' x,xs[i]? =↑x->ys.length=i->Pv i ys H'->te (↑x::aQ js σ) H' λv H3=>Pv (i+1) (ys++[v]) H3)(e:∀ys H',ys.length=xs.length->Pv xs.length ys H'->∀p,H' p=none->Q (-p) (HI H' p (.lst ys))):((∃xs,HP K H a xs)/\bA (jy K a) js te σ H Q)\/((∃xs,HQ K H a xs)/\bA (gZ K a) js te σ H Q):=by
 rcases c with c|c
 .exact .inl ⟨⟨_,(ps _ _ _ d).seq c⟩,cZ hn Pv d (λi ys H' p=>(ps i ys H' p).seq c) hs e⟩
 .exact .inr ⟨⟨_,HG.sqt (ps _ _ _ d) c⟩,gu hn Pv d (λi ys H' p=>HG.sqt (ps i ys H' p) c) hs e⟩
theorem iD(D:Dr)(nm:Str)(age:Int)(r:Option (Int×Int)):(QF D nm age r).2.map (·.1)=D.kn.map (·.1):=by
 unfold QF;cases e:D.kn.lookup nm with
 |none=>rfl
 |some x=>
  simp only
  split
  .split
   .rfl
   .split
    .exact kK e
    .exact kK e
  .rfl
theorem tV(ok:Ob D)(P:Ps):Ob {D with kn:=(ze D P).2}:=by
 have h:(ze D P).2.map (·.1)=D.kn.map (·.1):=iD ..
 have a:=JK List.length h;rw[Jb,Jb]at a
 exact#[ok.tp,ok.l0,ok.kl,by show(ze D P).2.length<=60;rw[a];exact ok.nl,by show((ze D P).2.map (·.1)).Nodup;rw[h];exact ok.nd]
def Pe(H:Hp)(pl:Δ)(ps:List Ps):Prop:=∃c:Η,H pl=↑(.lst (c.map V.ref))/\c.length=ps.length/\∀(i:Nat) (a:Δ) (P:Ps),c[i]? =↑a->ps[i]? =↑P->Mc H a P
section
theorem vo(h1:Ot H p h l)(A:Ot H q h l)(hs:∀nm∈h,nm∈l.map (·.1))(G:h.length<=60):MX H 3 (-p) (-q):=by
 let#[C,v,m,E]:=h1;let#[bs,w,s,B]:=A;refine .tup (.inl v) (.inl w) (by simp [m,s]) (by rw[Jb,m,Jn];lia) λi x y ex c=>?_
 rw[Jp]at ex c;cases q1:C[i]? with
 |none=>rw[q1]at ex;cases ex
 |some a=>
  cases q2:bs[i]? with
  |none=>rw[q2]at c;cases c
  |some b=>
   rw[q1]at ex;rw[q2]at c;cases ex;cases c
   have hi:i<h.length:=by rw[<- m];exact(Jt.mp q1).1
   have n:=Jk hi;let#[e,g]:=Zd (hs _ (FL hi))
   let#[z,r,f]:=E i a _ e q1 n g;let#[t,u,d]:=B i b _ e q2 n g;refine .tup (.inl r) (.inl u) Z (by show 4<=ζ;decide) λj x y ex c=>?_
   match j,ex,c with
   |0,ex,c=>cases ex;cases c;exact .str _ _
   |1,ex,c=>cases ex;cases c;exact .int _ _
   |2,ex,c=>cases ex;cases c;exact .int _ _
   |3,ex,c=>
    cases ex;cases c
    cases hw:e.wt with
    |none=>
     rw[hw]at f d;have f:z= .non:=f
     have d:t= .non:=d
     rw[f,d];exact .non _
    |some xc=>
     rw[hw]at f d;let#[F,rfl,o]:=f;let#[I,rfl,D]:=d;exact MX.ints (ns:=[xc.1,xc.2]) (.inl o) (.inl D) (by show 2<=ζ;decide)
   |j+4,ex,c=>cases ex
theorem Pe.mv(h:Pe H pl ps)(m:Mv S H H')(nt:NT S H)(f:pl∉S):Pe H' pl ps:=by
 let#[d,e,l,r]:=h
 exact#[d,m _ _ f e,l,λi a P h1 c=>Ln.mv m nt (r i a P h1 c)]
end
noncomputable def qX:Α->Str->Option Nat
 | [],_=>none
 |n::r,m=>if n=m then ↑0 else(qX r m).map (· +1)
theorem cV:∀{l:Α} {m:Str} {i:Nat},qX l m=↑i->l[i]? =↑m
 | [],m,i,h=>by cases h
 |n::r,m,i,h=>by
  unfold qX at h;split at h
  .rename_i e;cases h;rw[e];rfl
  .cases q:qX r m with
   |none=>rw[q]at h;cases h
   |some j=>rw[q]at h;cases h;have:=cV q;simpa using this
theorem Q5:∀{l:Α} {m:Str},qX l m=none->m∉l
 | [],m,h=>λz=>by cases z
 |n::r,m,h=>by
  unfold qX at h;split at h
  .cases h
  .rename_i e
   cases q:qX r m with
   |none=>intro z;rcases Jh.mp z with z|z;exact e z.symm;exact Q5 q z
   |some j=>rw[q]at h;cases h
theorem vX(h:qX l m=↑i):i<l.length:=(Jt.mp (cV h)).1
section
variable{α:Type}{f:α->Str}{g:α->V}
noncomputable def zw(f:α->Str)(g:α->V)(l:List α):List (qR×V):=l.map λx=>(Sum.inr (f x),g x)
theorem sP:∀(l:List α) (m:Str),QQ (zw f g l) (Sum.inr m:qR)=(qX (l.map f) m).bind λi=>(l[i]?).map g
 | [],m=>rfl
 |x::r,m=>by
  show QQ ((Sum.inr (f x),g x)::zw f g r) (Sum.inr m:qR)=(qX (f x::r.map f) m).bind λi=>((x::r)[i]?).map g
  unfold qX
  by_cases e:f x=m
  .rw[Jd e]
   unfold QQ;rw[List.find?_cons_of_pos (by simp [e])];rfl
  .rw[Jc e]
   have h1:QQ ((Sum.inr (f x),g x)::zw f g r) (Sum.inr m:qR)=QQ (zw f g r) (Sum.inr m:qR):=by
    unfold QQ;rw[List.find?_cons_of_neg (by simp [e])]
   rw[h1,sP r m];cases qX (r.map f) m with
   |none=>rfl
   |some i=>rfl
theorem gA(l:List α):(zw f g l).map (·.1)=(l.map f).map Sum.inr:=by
 unfold zw;rw[FD,FD];rfl
theorem mI(l:List α)(h:m∉l.map f):LQ (zw f g l) (Sum.inr m:qR) v=zw f g l++[(Sum.inr m,v)]:=by
 refine sN λz=>h ?_
 rw[gA]at z;let#[y,a,e]:=JA.mp z;injection e with e
 exact e▸a
theorem jg(e:H d=↑(.dK (zw f g l)))(m:Str):(qX (l.map f) m=none/\Lg H d (.str m) none)\/∃i x,qX (l.map f) m=↑i/\l[i]? =↑x/\f x=m/\Lg H d (.str m) ↑(g x):=by
 have k:=Lg.k (k:=(Sum.inr m:qR)) e
 rw[sP]at k;cases q:qX (l.map f) m with
 |none=>rw[q]at k;exact .inl #[Z,k]
 |some i=>
  have hi:i<l.length:=by have:=vX q;rwa [Jb]at this
  have a:=Jk hi;have c:=cV q;rw[Jp,a]at c;rw[q]at k;simp only[Option.bind_some,a,Option.map_some]at k;exact .inr #[i,0,a,JF c,k]
end
structure Dh where
 nm:Str
 D:Dr
 L:Τ
 op:Μ
structure Hs where
 t:Ε
 kss:List Ε
 least:Int
 ds:List Dh
 bs:List Bt
 kp:List Ps
def Hs.dn(S:Hs):Α:=S.ds.map (·.nm)
def Hs.bn(S:Hs):Α:=S.bs.map (·.nm)
structure Lx where
 nm:Str
 a:Da
 ol:Δ
structure Mw where
 nm:Str
 p:Δ
 ce:Δ
structure Ha where
 ma:Δ
 ta:Δ
 hk:Δ
 dd:Δ
 bd:Δ
 od:Δ
 kl:Δ
 ds:List Lx
 bs:List Mw
inductive P9 where
 |ma|hk|dd|bd|od|kl
 |dr (i:Nat)|ol (i:Nat)|bt (i:Nat)
 |no
noncomputable def hF(a:Ha):Η:=[a.ma,a.hk,a.dd,a.bd,a.od,a.kl]++(a.ds.flatMap (λx=>x.ol::dS x.a)++a.bs.flatMap λx=>[x.p,x.ce])
theorem Lf:z∈hF a↔(z=a.ma\/z=a.hk\/z=a.dd\/z=a.bd\/z=a.od\/z=a.kl)\/(∃x∈a.ds,z=x.ol\/z∈dS x.a)\/∃x∈a.bs,z=x.p\/z=x.ce:=by
 unfold hF;simp only[Jw,Jh,Jr,Js,List.mem_flatMap]
structure Ow(w:Δ->P9)(a:Ha):Prop where
 ma:w a.ma= .ma
 hk:w a.hk= .hk
 dd:w a.dd= .dd
 bd:w a.bd= .bd
 od:w a.od= .od
 kl:w a.kl= .kl
 dr:∀(i:Nat) (x:Lx),a.ds[i]? =↑x->∀z∈dS x.a,w z= .dr i
 ol:∀(i:Nat) (x:Lx),a.ds[i]? =↑x->w x.ol= .ol i
 bp:∀(i:Nat) (x:Mw),a.bs[i]? =↑x->w x.p= .bt i
 bc:∀(i:Nat) (x:Mw),a.bs[i]? =↑x->w x.ce= .bt i
def M3(K:ι)(CB:Δ)(H:Hp)(x:Mw)(B:Bt):Prop:=∃ta ka,HM K CB H x.p ta ka x.ce B
def mG(H:Hp)(l:Δ)(a:Μ):Prop:=H l=↑(.lst (a.map λn:Nat=>V.int (n:Int)))
structure LI(K:ι)(CB CD:Δ)(H:Hp)(a:Ha)(S:Hs):Prop where
 tb:HQ K H a.ta (S.t.map V.int)
 ks:Le [] H a.hk S.kss
 dd:H a.dd=↑(.dK (zw Lx.nm (λx=> .ref x.a.p) a.ds))
 bd:H a.bd=↑(.dK (zw Mw.nm (λx=> .ref x.p) a.bs))
 od:H a.od=↑(.dK (zw Lx.nm (λx=> .ref x.ol) a.ds))
 kl:Pe H a.kl S.kp
 dn:a.ds.map (·.nm)=S.dn
 bn:a.bs.map (·.nm)=S.bn
 de:∀(i:Nat) (x:Lx) (y:Dh),a.ds[i]? =↑x->S.ds[i]? =↑y->Lc K CD H x.a y.D y.L/\mG H x.ol y.op
 be:∀(i:Nat) (x:Mw) (y:Bt),a.bs[i]? =↑x->S.bs[i]? =↑y->M3 K CB H x y
 ma:∃o,H a.ma=↑o/\i7 o
 ow:∃w,Ow w a
section
variable{K:ι}{CB CD:Δ}{Z:Η}{H H':Hp}{a:Ha}{S S':Hs}
theorem M3.mv(b:M3 K CB H x B)(m:Mv Z H H')(n:NT Z H)(h1:x.p∉Z)(a:x.ce∉Z):M3 K CB H' x B:=by
 let#[ta,ka,b]:=b
 exact⟨ta,ka,b.mv m n h1 a⟩
theorem LI.dS_at(h:LI K CB CD H a S)(c:x∈a.ds):∃(i:Nat) (y:Dh),a.ds[i]? =↑x/\S.ds[i]? =↑y:=by
 let#[i,hi]:=List.getElem?_of_mem c
 have d:i<S.ds.length:=by
  have:=JK List.length h.dn
  unfold Hs.dn at this;rw[Jb,Jb]at this;rw[<- this];exact(Jt.mp hi).1
 exact⟨i,_,hi,Jk d⟩
theorem LI.bS_at(h:LI K CB CD H a S)(c:x∈a.bs):∃(i:Nat) (y:Bt),a.bs[i]? =↑x/\S.bs[i]? =↑y:=by
 let#[i,hi]:=List.getElem?_of_mem c
 have d:i<S.bs.length:=by
  have:=JK List.length h.bn
  unfold Hs.bn at this;rw[Jb,Jb]at this;rw[<- this];exact(Jt.mp hi).1
 exact⟨i,_,hi,Jk d⟩
theorem LI.nt(h:LI K CB CD H a S):NT (hF a) H:=λz c=>by
 rcases Lf.mp c with(rfl|rfl|rfl|rfl|rfl|rfl)|⟨x,g,c⟩|⟨x,g,c⟩
 .exact h.ma
 .let#[j,e,_]:=h.ks;exact#[_,e,trivial]
 .exact#[_,h.dd,trivial]
 .exact#[_,h.bd,trivial]
 .exact#[_,h.od,trivial]
 .let#[j,e,_]:=h.kl;exact#[_,e,trivial]
 .let#[i,y,h1,f]:=h.dS_at g
  let#[d,o]:=h.de i x y h1 f;rcases c with rfl|c
  .exact#[_,o,trivial]
  .exact d.nt z c
 .let#[i,y,h1,f]:=h.bS_at g
  let#[ta,ka,b]:=h.be i x y h1 f;exact b.nt z (by rcases c with rfl|rfl<;>simp)
theorem LI.live(h:LI K CB CD H a S){z:Δ}(d:z∈hF a):H z≠none:=λe=>by
 let#[o,c,_]:=h.nt z d;rw[e]at c;cases c
theorem iZ:a.ma∈hF a:=Lf.mpr (.inl (.inl rfl))
theorem ku:a.hk∈hF a:=Lf.mpr (.inl (.inr (.inl rfl)))
theorem b8:a.dd∈hF a:=Lf.mpr (.inl (.inr (.inr (.inl rfl))))
theorem lv:a.bd∈hF a:=Lf.mpr (.inl (.inr (.inr (.inr (.inl rfl)))))
theorem oA:a.od∈hF a:=Lf.mpr (.inl (.inr (.inr (.inr (.inr (.inl rfl))))))
theorem kY:a.kl∈hF a:=Lf.mpr (.inl (.inr (.inr (.inr (.inr (.inr rfl))))))
theorem kT{i:Nat}(h:a.ds[i]? =↑x):x.ol∈hF a:=Lf.mpr (.inr (.inl #[x,Jo h,.inl rfl]))
theorem kE{i:Nat}(h:a.ds[i]? =↑x)(c:z∈dS x.a):z∈hF a:=Lf.mpr (.inr (.inl #[x,Jo h,.inr c]))
theorem oy{i:Nat}(h:a.bs[i]? =↑x):x.p∈hF a:=Lf.mpr (.inr (.inr #[x,Jo h,.inl rfl]))
theorem ot{i:Nat}(h:a.bs[i]? =↑x):x.ce∈hF a:=Lf.mpr (.inr (.inr #[x,Jo h,.inr rfl]))
theorem LI.gen(h:LI K CB CD H a S)(m:Mv Z H H')(nt:NT Z H)(E:S'.t=S.t)
  (hk:(a.hk∉Z/\S'.kss=S.kss)\/Le [] H' a.hk S'.kss)(r:a.dd∉Z)(s:a.bd∉Z)(t:a.od∉Z)(D:(a.kl∉Z/\S'.kp=S.kp)\/Pe H' a.kl S'.kp)(f:S'.dn=S.dn)(l:S'.bn=S.bn)
  (v:∀(i:Nat) (x:Lx) (y y':Dh),a.ds[i]? =↑x->S.ds[i]? =↑y->S'.ds[i]? =↑y'->(((∀z∈dS x.a,z∉Z)/\y'.D=y.D/\y'.L=y.L)\/Lc K CD H' x.a y'.D y'.L)/\((x.ol∉Z/\y'.op=y.op)\/mG H' x.ol y'.op))
  (w:∀(i:Nat) (x:Mw) (y y':Bt),a.bs[i]? =↑x->S.bs[i]? =↑y->S'.bs[i]? =↑y'->(x.p∉Z/\x.ce∉Z/\y'=y)\/M3 K CB H' x y')
  (u:a.ma∉Z\/∃o,H' a.ma=↑o/\i7 o):LI K CB CD H' a S':=by
 refine#[by rw[E];exact m.sqt nt h.tb,?_,m _ _ r h.dd,m _ _ s h.bd,m _ _ t h.od,?_,h.dn.trans f.symm,h.bn.trans l.symm,λi x y' h1 c=>?_,λi x y' h1 c=>?_,?_,h.ow]
 .rcases hk with⟨h1,c⟩|h1
  .rw[c];exact Le.mv m nt h1 h.ks
  .exact h1
 .rcases D with⟨h1,c⟩|h1
  .rw[c];exact h.kl.mv m nt h1
  .exact h1
 .let#[j,y,G,I]:=h.dS_at (Jo h1)
  have C:i<S.ds.length:=by
   have:=JK List.length f
   unfold Hs.dn at this;rw[Jb,Jb]at this;rw[<- this];exact(Jt.mp c).1
  have g:=Jk C;let#[d,o]:=h.de i x _ h1 g;let#[B,p]:=v i x _ y' h1 g c;exists ?_
  .rcases B with⟨n,A,F⟩|B
   .rw[A,F];exact d.mv m nt (n _ (gf _)) (n _ (fL _)) (n _ (gB _)) (n _ (cf _))
   .exact B
  .rcases p with⟨n,A⟩|p
   .rw[A];exact m _ _ n o
   .exact p
 .have C:i<S.bs.length:=by
   have:=JK List.length l
   unfold Hs.bn at this;rw[Jb,Jb]at this;rw[<- this];exact(Jt.mp c).1
  have g:=Jk C;rcases w i x _ y' h1 g c with⟨n1,n2,e⟩|q
  .rw[e];exact(h.be i x _ h1 g).mv m nt n1 n2
  .exact q
 .rcases u with n|q
  .let#[o,e,no]:=h.ma;exact#[o,m _ _ n e,no]
  .exact q
theorem LI.mv(h:LI K CB CD H a S)(m:Mv Z H H')(nt:NT Z H)(c:∀z∈hF a,z∉Z):LI K CB CD H' a S:=
 h.gen m nt rfl (.inl #[c _ ku,rfl]) (c _ b8) (c _ lv) (c _ oA) (.inl #[c _ kY,rfl]) rfl rfl (λi x y y' h1 e d=>by
  rw[e]at d;cases d
  exact#[.inl #[λz q=>c z (kE h1 q),rfl,rfl],.inl #[c _ (kT h1),rfl]]) (λi x y y' h1 e d=>by
  rw[e]at d;cases d
  exact .inl #[c _ (oy h1),c _ (ot h1),rfl]) (.inl (c _ iZ))
theorem LI.same(h:LI K CB CD H a S)(s:HG H H'):LI K CB CD H' a S:=h.mv (Z:=[]) s.mv iR (λz _ q=>nomatch q)
noncomputable def Hs.setD(S:Hs)(i:Nat)(y:Dh):Hs:={S with ds:=S.ds.set i y}
noncomputable def Hs.setB(S:Hs)(i:Nat)(y:Bt):Hs:={S with bs:=S.bs.set i y}
theorem Qt{α a:Type}{f:α->a}:∀{l:List α} {i:Nat} {x y:α},l[i]? =Option.some x->f y=f x->(l.set i y).map f=l.map f
 | [],i,x,y,h,_=>by cases h
 |z::r,0,x,y,h,e=>by
  have h:z=x:=JF h
  show f y::r.map f=f z::r.map f;rw[e,h]
 |z::r,i+1,x,y,h,e=>by show f z::(r.set i y).map f=f z::r.map f;rw[Qt (l:=r) h e]
theorem cx{α:Type}{l:List α}{x y z w:α}(h:l[i]? =Option.some x)(a:l[j]? =Option.some y)(hs:(l.set i z)[j]? =Option.some w):(j=i/\w=z)\/(j≠i/\w=y):=by
 rw[List.getElem?_set]at hs;split at hs
 .rename_i e
  subst e;split at hs
  .injection hs with hs;exact .inl #[rfl,hs.symm]
  .cases hs
 .rename_i e
  rw[a]at hs;injection hs with hs
  exact .inr #[λq=>e q.symm,hs.symm]
end
section
variable{K:ι}{CB CD:Δ}{H H':Hp}{a:Ha}{S:Hs}{i:Nat}{x:Lx}{y:Dh}{xb:Mw}{B B':Bt}{D':Dr}{L':Τ}
theorem LI.door(h:LI K CB CD H a S)(hi:a.ds[i]? =↑x)(g:S.ds[i]? =↑y)(m:Mv (dS x.a) H H')(d:Lc K CD H' x.a D' L'):LI K CB CD H' a (S.setD i {y with D:=D',L:=L'}):=by
 let#[w,c]:=h.ow;have no:∀{z:Δ},w z≠ .dr i->z∉dS x.a:=λn q=>n (c.dr i x hi _ q)
 refine h.gen m (h.de i x y hi g).1.nt rfl (.inl #[no (by rw[c.hk];intro q;cases q),rfl]) (no (by rw[c.dd];intro q;cases q)) (no (by rw[c.bd];intro q;cases q)) (no (by rw[c.od];intro q;cases q)) (.inl #[no (by rw[c.kl];intro q;cases q),rfl]) (Qt g rfl) rfl (λj u v l h1 f e=>?_) (λj u v l h1 f e=>?_) (.inl (no (by rw[c.ma];intro q;cases q)))
 .refine#[?_,.inl #[no (by rw[c.ol j u h1];intro q;cases q),?_]]
  .rcases cx g f e with⟨rfl,rfl⟩|⟨n,rfl⟩
   .rw[hi]at h1;cases h1;exact .inr d
   .exact .inl #[λz o=>no (by rw[c.dr j u h1 z o];intro q;injection q with q;exact n q),rfl,rfl]
  .rcases cx g f e with⟨rfl,rfl⟩|⟨n,rfl⟩
   .rw[g]at f;cases f;rfl
   .rfl
 .have e:S.bs[j]? =↑l:=e
  rw[f]at e;cases e
  exact .inl #[no (by rw[c.bp j u h1];intro q;cases q),no (by rw[c.bc j u h1];intro q;cases q),rfl]
theorem LI.opd(h:LI K CB CD H a S)(hi:a.ds[i]? =↑x)(f:S.ds[i]? =↑y):LI K CB CD (HI H x.ol (.lst (op'.map λn:Nat=>V.int (n:Int)))) a (S.setD i {y with op:=op'}):=by
 let#[w,c]:=h.ow;have no:∀{z:Δ},w z≠ .ol i->z∉[x.ol]:=λn q=>n (by rw[Jg.mp q];exact c.ol i x hi)
 refine h.gen (Z:=[x.ol]) Mv.upd1 (NT.one (h.de i x y hi f).2 trivial) rfl (.inl #[no (by rw[c.hk];intro q;cases q),rfl]) (no (by rw[c.dd];intro q;cases q)) (no (by rw[c.bd];intro q;cases q)) (no (by rw[c.od];intro q;cases q)) (.inl #[no (by rw[c.kl];intro q;cases q),rfl]) (Qt f rfl) rfl (λj u v g h1 d e=>?_) (λj u v g h1 d e=>?_) (.inl (no (by rw[c.ma];intro q;cases q)))
 .exists .inl #[λz l=>no (by rw[c.dr j u h1 z l];intro q;cases q),?_,?_]
  .rcases cx f d e with⟨rfl,rfl⟩|⟨n,rfl⟩
   .rw[f]at d;cases d;rfl
   .rfl
  .rcases cx f d e with⟨rfl,rfl⟩|⟨n,rfl⟩
   .rw[f]at d;cases d;rfl
   .rfl
  .rcases cx f d e with⟨rfl,rfl⟩|⟨n,rfl⟩
   .rw[hi]at h1;cases h1;exact .inr qb
   .exact .inl #[no (by rw[c.ol j u h1];intro q;injection q with q;exact n q),rfl]
 .have e:S.bs[j]? =↑g:=e
  rw[d]at e;cases e
  exact .inl #[no (by rw[c.bp j u h1];intro q;cases q),no (by rw[c.bc j u h1];intro q;cases q),rfl]
theorem LI.btn(h:LI K CB CD H a S)(hi:a.bs[i]? =↑xb)(f:S.bs[i]? =↑B)(m:Mv [xb.p,xb.ce] H H')(b:M3 K CB H' xb B')(hn:B'.nm=B.nm):LI K CB CD H' a (S.setB i B'):=by
 let#[w,c]:=h.ow;have no:∀{z:Δ},w z≠ .bt i->z∉[xb.p,xb.ce]:=λn q=>n (by
  simp only[Jh,Jr,Js]at q;rcases q with rfl|rfl
  .exact c.bp i xb hi
  .exact c.bc i xb hi)
 let#[ta,ka,o]:=h.be i xb B hi f;refine h.gen m o.nt rfl (.inl #[no (by rw[c.hk];intro q;cases q),rfl]) (no (by rw[c.dd];intro q;cases q)) (no (by rw[c.bd];intro q;cases q)) (no (by rw[c.od];intro q;cases q)) (.inl #[no (by rw[c.kl];intro q;cases q),rfl]) rfl (Qt f hn) (λj u v g h1 e d=>?_) (λj u v g h1 e d=>?_) (.inl (no (by rw[c.ma];intro q;cases q)))
 .have d:S.ds[j]? =↑g:=d
  rw[e]at d;cases d
  exact#[.inl #[λz l=>no (by rw[c.dr j u h1 z l];intro q;cases q),rfl,rfl],.inl #[no (by rw[c.ol j u h1];intro q;cases q),rfl]]
 .rcases cx f e d with⟨rfl,rfl⟩|⟨n,rfl⟩
  .rw[hi]at h1;cases h1;exact .inr b
  .exact .inl #[no (by rw[c.bp j u h1];intro q;injection q with q;exact n q),no (by rw[c.bc j u h1];intro q;injection q with q;exact n q),rfl]
theorem LI.kpt(h:LI K CB CD H a S)(p:Pe (HI H a.kl o) a.kl f):LI K CB CD (HI H a.kl o) a {S with kp:=f}:=by
 let#[w,c]:=h.ow;have no:∀{z:Δ},w z≠ .kl->z∉[a.kl]:=λn q=>n (by rw[Jg.mp q];exact c.kl)
 let#[m,e,_]:=id h.kl;refine h.gen (Z:=[a.kl]) Mv.upd1 (NT.one e trivial) rfl (.inl #[no (by rw[c.hk];intro q;cases q),rfl]) (no (by rw[c.dd];intro q;cases q)) (no (by rw[c.bd];intro q;cases q)) (no (by rw[c.od];intro q;cases q)) (.inr p) rfl rfl (λj u v g h1 i d=>?_) (λj u v g h1 i d=>?_) (.inl (no (by rw[c.ma];intro q;cases q)))
 .have d:S.ds[j]? =↑g:=d
  rw[i]at d;cases d
  exact#[.inl #[λz l=>no (by rw[c.dr j u h1 z l];intro q;cases q),rfl,rfl],.inl #[no (by rw[c.ol j u h1];intro q;cases q),rfl]]
 .have d:S.bs[j]? =↑g:=d
  rw[i]at d;cases d
  exact .inl #[no (by rw[c.bp j u h1];intro q;cases q),no (by rw[c.bc j u h1];intro q;cases q),rfl]
theorem LI.key(h:LI K CB CD H a S)(p:Le [] (HI H a.hk o) a.hk f):LI K CB CD (HI H a.hk o) a {S with kss:=f}:=by
 let#[w,c]:=h.ow;have no:∀{z:Δ},w z≠ .hk->z∉[a.hk]:=λn q=>n (by rw[Jg.mp q];exact c.hk)
 let#[m,e,_]:=id h.ks;refine h.gen (Z:=[a.hk]) Mv.upd1 (NT.one e trivial) rfl (.inr p) (no (by rw[c.dd];intro q;cases q)) (no (by rw[c.bd];intro q;cases q)) (no (by rw[c.od];intro q;cases q)) (.inl #[no (by rw[c.kl];intro q;cases q),rfl]) rfl rfl (λj u v g h1 i d=>?_) (λj u v g h1 i d=>?_) (.inl (no (by rw[c.ma];intro q;cases q)))
 .have d:S.ds[j]? =↑g:=d
  rw[i]at d;cases d
  exact#[.inl #[λz l=>no (by rw[c.dr j u h1 z l];intro q;cases q),rfl,rfl],.inl #[no (by rw[c.ol j u h1];intro q;cases q),rfl]]
 .have d:S.bs[j]? =↑g:=d
  rw[i]at d;cases d
  exact .inl #[no (by rw[c.bp j u h1];intro q;cases q),no (by rw[c.bc j u h1];intro q;cases q),rfl]
theorem LI.man(h:LI K CB CD H a S)(i:i7 o):LI K CB CD (HI H a.ma o) a {S with least:=m}:=by
 let#[w,c]:=h.ow;have no:∀{z:Δ},w z≠ .ma->z∉[a.ma]:=λn q=>n (by rw[Jg.mp q];exact c.ma)
 let#[r,e,l]:=id h.ma;refine h.gen (Z:=[a.ma]) Mv.upd1 (NT.one e l) rfl (.inl #[no (by rw[c.hk];intro q;cases q),rfl]) (no (by rw[c.dd];intro q;cases q)) (no (by rw[c.bd];intro q;cases q)) (no (by rw[c.od];intro q;cases q)) (.inl #[no (by rw[c.kl];intro q;cases q),rfl]) rfl rfl (λj u v g h1 f d=>?_) (λj u v g h1 f d=>?_) (.inr #[_,qb,i])
 .have d:S.ds[j]? =↑g:=d
  rw[f]at d;cases d
  exact#[.inl #[λz p=>no (by rw[c.dr j u h1 z p];intro q;cases q),rfl,rfl],.inl #[no (by rw[c.ol j u h1];intro q;cases q),rfl]]
 .have d:S.bs[j]? =↑g:=d
  rw[f]at d;cases d
  exact .inl #[no (by rw[c.bp j u h1];intro q;cases q),no (by rw[c.bc j u h1];intro q;cases q),rfl]
theorem lQ{α:Type}{f:α->Str}{g:α->V}(l:List α)(x:α):zw f g (l++[x])=zw f g l++[(Sum.inr (f x),g x)]:=by unfold zw;rw[JG];rfl
theorem aX{α:Type}{l:List α}{x u:α}(h:(l++[x])[j]? =↑u):l[j]? =↑u\/(j=l.length/\u=x):=by
 by_cases a:j<l.length
 .rw[FH a]at h;exact .inl h
 .rw[Fy (by lia)]at h
  cases q:j-l.length with
  |zero=>rw[q]at h;cases h;exact .inr #[by lia,rfl]
  |succ k=>rw[q]at h;cases h
theorem bh{α f:Type}{l:List α}{k:List f}{x u:α}{y v:f}{j:Nat}(h:l.length=k.length)(h1:(l++[x])[j]? =↑u)(c:(k++[y])[j]? =↑v):(l[j]? =↑u/\k[j]? =↑v)\/(u=x/\v=y):=by
 rcases aX h1 with a|⟨e,rfl⟩
 .have g:=(Jt.mp a).1
  rw[FH (by lia)]at c
  exact .inl #[a,c]
 .rcases aX c with d|⟨_,rfl⟩
  .have g:=(Jt.mp d).1
   lia
  .exact .inr #[rfl,rfl]
theorem LI.addD(h:LI K CB CD H a S)(m:Mv [a.dd,a.od] H H')(A:H' a.dd=↑(.dK (zw Lx.nm (λx=> .ref x.a.p) (a.ds++[x]))))(r:H' a.od=↑(.dK (zw Lx.nm (λx=> .ref x.ol) (a.ds++[x]))))(d:Lc K CD H' x.a y.D y.L)(o:mG H' x.ol y.op)(fd:∀z∈dS x.a,H z=none)(B:H x.ol=none)(ne:x.ol∉dS x.a)(hn:x.nm=y.nm):
  LI K CB CD H' {a with ds:=a.ds++[x]} {S with ds:=S.ds++[y]}:=by
 let#[w,c]:=h.ow;have nt:NT [a.dd,a.od] H:=λz f=>by
  simp only[Jh,Jr,Js]at f;rcases f with rfl|rfl
  .exact#[_,h.dd,trivial]
  .exact#[_,h.od,trivial]
 have no:∀{z:Δ},w z≠ .dd->w z≠ .od->z∉[a.dd,a.od]:=λn1 n2 q=>by
  simp only[Jh,Jr,Js]at q;rcases q with rfl|rfl
  .exact n1 c.dd
  .exact n2 c.od
 have t:a.ds.length=S.ds.length:=by
  have:=JK List.length h.dn
  unfold Hs.dn at this
  rwa [Jb,Jb]at this
 have n:∀{z:Δ},z∈hF a->z∉dS x.a/\z≠x.ol:=λf=>#[λq=>h.live f (fd _ q),λq=>h.live f (q▸B)]
 have g:∀{z:Δ},z∈hF a->(if z∈dS x.a then P9.dr a.ds.length else if z=x.ol then .ol a.ds.length else w z)=w z:=λf=>by rw[Jc (n f).1,Jc (n f).2]
 exists m.sqt nt h.tb,Le.mv m nt (no (by rw[c.hk];intro q;cases q) (by rw[c.hk];intro q;cases q)) h.ks,A,m _ _ (no (by rw[c.bd];intro q;cases q) (by rw[c.bd];intro q;cases q)) h.bd,r,h.kl.mv m nt (no (by rw[c.kl];intro q;cases q) (by rw[c.kl];intro q;cases q)),?_,h.bn,λj u v h1 i=>?_,λj u v h1 i=>(h.be j u v h1 i).mv m nt (no (by rw[c.bp j u h1];intro q;cases q) (by rw[c.bp j u h1];intro q;cases q)) (no (by rw[c.bc j u h1];intro q;cases q) (by rw[c.bc j u h1];intro q;cases q)),?_,λz=>if z∈dS x.a then .dr a.ds.length else if z=x.ol then .ol a.ds.length else w z
 .show(a.ds++[x]).map (·.nm)=(S.ds++[y]).map (·.nm)
  rw[JG,JG,h.dn]
  show _++[x.nm]=_++[y.nm]
  rw[hn];rfl
 .rcases bh t h1 i with⟨h1,i⟩|⟨rfl,rfl⟩
  .let#[p,s]:=h.de j u v h1 i
   have l:∀z∈dS u.a,z∉[a.dd,a.od]:=λz f=>no (by rw[c.dr j u h1 z f];intro q;cases q) (by rw[c.dr j u h1 z f];intro q;cases q)
   exact#[p.mv m nt (l _ (gf _)) (l _ (fL _)) (l _ (gB _)) (l _ (cf _)),m _ _ (no (by rw[c.ol j u h1];intro q;cases q) (by rw[c.ol j u h1];intro q;cases q)) s]
  .exact#[d,o]
 .let#[o,e,q]:=h.ma
  exact#[o,m _ _ (no (by rw[c.ma];intro q;cases q) (by rw[c.ma];intro q;cases q)) e,q]
 .refine#[(g iZ).trans c.ma,(g ku).trans c.hk,(g b8).trans c.dd,(g lv).trans c.bd,(g oA).trans c.od,(g kY).trans c.kl,λj u h1 z f=>?_,λj u h1=>?_,λj u h1=>(g (oy h1)).trans (c.bp j u h1),λj u h1=>(g (ot h1)).trans (c.bc j u h1)]
  .rcases aX h1 with h1|⟨rfl,rfl⟩
   .exact(g (kE h1 f)).trans (c.dr j u h1 z f)
   .show(if z∈dS _ then _ else _)=_
    rw[Jd f]
  .rcases aX h1 with h1|⟨rfl,rfl⟩
   .exact(g (kT h1)).trans (c.ol j u h1)
   .show(if _∈dS _ then _ else _)=_
    rw[Jc ne,Jd rfl]
theorem LI.addB(h:LI K CB CD H a S)(m:Mv [a.bd] H H')(s:H' a.bd=↑(.dK (zw Mw.nm (λx=> .ref x.p) (a.bs++[xb]))))(b:M3 K CB H' xb B)(f1:H xb.p=none)(f2:H xb.ce=none)(hn:xb.nm=B.nm):
  LI K CB CD H' {a with bs:=a.bs++[xb]} {S with bs:=S.bs++[B]}:=by
 let#[w,c]:=h.ow;have nt:NT [a.bd] H:=NT.one h.bd trivial
 have no:∀{z:Δ},w z≠ .bd->z∉[a.bd]:=λn1 q=>n1 (by rw[Jg.mp q];exact c.bd)
 have p:a.bs.length=S.bs.length:=by
  have:=JK List.length h.bn
  unfold Hs.bn at this
  rwa [Jb,Jb]at this
 have r:∀{z:Δ},z∈hF a->¬(z=xb.p\/z=xb.ce):=λf q=>h.live f (by rcases q with rfl|rfl;exact f1;exact f2)
 have d:∀{z:Δ},z∈hF a->(if z=xb.p\/z=xb.ce then P9.bt a.bs.length else w z)=w z:=λf=>by rw[Jc (r f)]
 exists m.sqt nt h.tb,Le.mv m nt (no (by rw[c.hk];intro q;cases q)) h.ks,m _ _ (no (by rw[c.dd];intro q;cases q)) h.dd,s,m _ _ (no (by rw[c.od];intro q;cases q)) h.od,h.kl.mv m nt (no (by rw[c.kl];intro q;cases q)),h.dn,?_,λj u v h1 g=>?_,λj u v h1 g=>?_,?_,λz=>if z=xb.p\/z=xb.ce then .bt a.bs.length else w z
 .show(a.bs++[xb]).map (·.nm)=(S.bs++[B]).map (·.nm)
  rw[JG,JG,h.bn]
  show _++[xb.nm]=_++[B.nm]
  rw[hn];rfl
 .let#[l,n]:=h.de j u v h1 g
  have i:∀z∈dS u.a,z∉[a.bd]:=λz f=>no (by rw[c.dr j u h1 z f];intro q;cases q)
  exact#[l.mv m nt (i _ (gf _)) (i _ (fL _)) (i _ (gB _)) (i _ (cf _)),m _ _ (no (by rw[c.ol j u h1];intro q;cases q)) n]
 .rcases bh p h1 g with⟨h1,g⟩|⟨rfl,rfl⟩
  .exact(h.be j u v h1 g).mv m nt (no (by rw[c.bp j u h1];intro q;cases q)) (no (by rw[c.bc j u h1];intro q;cases q))
  .exact b
 .let#[o,e,q]:=h.ma
  exact#[o,m _ _ (no (by rw[c.ma];intro q;cases q)) e,q]
 .refine#[(d iZ).trans c.ma,(d ku).trans c.hk,(d b8).trans c.dd,(d lv).trans c.bd,(d oA).trans c.od,(d kY).trans c.kl,λj u h1 z f=>(d (kE h1 f)).trans (c.dr j u h1 z f),λj u h1=>(d (kT h1)).trans (c.ol j u h1),λj u h1=>?_,λj u h1=>?_]
  .rcases aX h1 with h1|⟨rfl,rfl⟩
   .exact(d (oy h1)).trans (c.bp j u h1)
   .show(if _ then _ else _)=_
    rw[Jd (.inl rfl)]
  .rcases aX h1 with h1|⟨rfl,rfl⟩
   .exact(d (ot h1)).trans (c.bc j u h1)
   .show(if _ then _ else _)=_
    rw[Jd (.inr rfl)]
end
structure Me(S:Hs)(n:Nat)(y:Dh):Prop where
 t:y.D.t=S.t
 k:y.D.kss=S.kss
 l:y.D.least=S.least
 ok:Ob y.D
 m:(y.D.kn.length:Int)<=y.D.most
 m1:y.D.most<=12
 ll:y.L.length<=n
 lo:y.op.length<=n
 kb:∀e∈y.D.kn,e.1∈S.bn
structure L6(S:Hs)(B:Bt):Prop where
 ok:MH B
 t:B.t=S.t
 a0:0<=B.age
 a1:B.age<S.kss.length
 k:B.ks=S.kss.getD B.age.toNat []
 nm:ZE B.nm
structure HZ(n:Nat)(S:Hs):Prop where
 tp:S.t.Perm Lv
 k1:1<=S.kss.length
 k8:S.kss.length<=8
 kk:∀ks∈S.kss,ks.length<=8
 l0:0<=S.least
 l1:S.least<S.kss.length
 dr:∀y∈S.ds,Me S n y
 bt:∀B∈S.bs,L6 S B
 kp:∀P∈S.kp,Np P
 nk:S.kp.length<=n
 nd:S.ds.length<=n
 nb:S.bs.length<=n
 un:S.dn.Nodup
 ub:S.bn.Nodup
section
variable{n m:Nat}{i j:Nat}{y:Dh}
theorem Me.mono(h:Me S n y)(l:n<=m):Me S m y:=#[h.t,h.k,h.l,h.ok,h.m,h.m1,JI h.ll l,JI h.lo l,h.kb]
theorem Me.to(h:Me S n y)(a:S'.t=S.t:=by rfl)(hk:S'.kss=S.kss:=by rfl)(c:S'.least=S.least:=by rfl)(hb:∀z∈S.bn,z∈S'.bn:=by exactλ_ h=>h):Me S' n y:=#[h.t.trans a.symm,h.k.trans hk.symm,h.l.trans c.symm,h.ok,h.m,h.m1,h.ll,h.lo,λe d=>hb _ (h.kb e d)]
theorem L6.to(h:L6 S B)(a:S'.t=S.t:=by rfl)(hk:S'.kss=S.kss:=by rfl):L6 S' B:=#[h.ok,h.t.trans a.symm,h.a0,by rw[hk];exact h.a1,by rw[hk];exact h.k,h.nm]
theorem HZ.mono(h:HZ n S)(l:n<=m):HZ m S:=#[h.tp,h.k1,h.k8,h.kk,h.l0,h.l1,λy a=>(h.dr y a).mono l,h.bt,h.kp,JI h.nk l,JI h.nd l,JI h.nb l,h.un,h.ub]
theorem mr{α:Type}:∀{l:List α} {i:Nat} {x z:α},z∈l.set i x->z=x\/z∈l
 | [],i,x,z,h=>by cases h
 |y::r,0,x,z,h=>by
  rcases Jh.mp h with h|h
  .exact .inl h
  .exact .inr (JD _ h)
 |y::r,i+1,x,z,h=>by
  rcases Jh.mp h with h|h
  .exact .inr (h▸Jy ..)
  .rcases mr h with h|h
   .exact .inl h
   .exact .inr (JD _ h)
theorem HZ.setD(h:HZ n S)(l:n<=m)(hi:S.ds[i]? =↑y')(hn:y.nm=y'.nm)(d:Me S m y):HZ m (S.setD i y):=
 #[h.tp,h.k1,h.k8,h.kk,h.l0,h.l1,λz a=>by
  have e:Me S m z:=by
   rcases mr a with rfl|a
   .exact d
   .exact(h.dr z a).mono l
  exact e.to,λB c=>(h.bt B c).to,h.kp,JI h.nk l,by show(S.ds.set i y).length<=m;rw[FR];exact JI h.nd l,JI h.nb l,by rw[show(S.setD i y).dn=S.dn from Qt hi hn];exact h.un,h.ub]
theorem HZ.setB(h:HZ n S)(c:L6 S B)(hi:S.bs[i]? =↑B')(hn:B.nm=B'.nm):HZ n (S.setB i B):=
 #[h.tp,h.k1,h.k8,h.kk,h.l0,h.l1,λz a=>(h.dr z a).to (hb:=λw d=>by rw[show(S.setB i B).bn=S.bn from Qt hi hn];exact d),λz a=>by
  have e:L6 S z:=by
   rcases mr a with rfl|a
   .exact c
   .exact h.bt z a
  exact e.to,h.kp,h.nk,h.nd,by show(S.bs.set i B).length<=n;rw[FR];exact h.nb,h.un,by rw[show(S.setB i B).bn=S.bn from Qt hi hn];exact h.ub]
noncomputable def zb(B:Bt)(d:Int):Ps:=#[B.nm,B.age,cg B.t B.ks B.nm B.cnt d]
noncomputable def zd(S:Hs)(j:Nat)(B:Bt)(d:Int):Hs:={S.setB j B.pr with kp:=S.kp++[zb B d]}
noncomputable def iW(a:Β):Bool:=match a with
 | .str z::_=>decide (z="open")
 |_=>false
noncomputable def Za(y:Dh)(P:Ps)(k:Nat):Dh:={y with D:={y.D with kn:=(ze y.D P).2},L:=y.L++[.hear P (ze y.D P).1],op:=if iW (ze y.D P).1=true then y.op++[k]else y.op}
theorem L6.pr(h:L6 S B)(hc:B.cnt<4096):L6 S B.pr:=#[h.ok.pr hc,(ET B).trans h.t,by rw[aL];exact h.a0,by rw[aL];exact h.a1,by rw[aL,Ek];exact h.k,by rw[Z2];exact h.nm]
theorem bG(hs:HZ n S)(h:L6 S B)(hc:B.cnt<4096)(a:ZJ d):Np (zb B d):=#[h.nm,we ..,yn (by rw[h.t];exact hs.tp) h.ok.c0 hc a]
theorem HZ.keep(h:HZ n S)(e:S.bs[j]? =↑B)(hc:B.cnt<4096)(g:ZJ d):HZ (n+1) (zd S j B d):=by
 have f:=h.bt B (Jo e);have h1:=(h.setB (i:=j) (f.pr hc) e (Z2 B)).mono (J1 n)
 refine#[h1.tp,h1.k1,h1.k8,h1.kk,h1.l0,h1.l1,λz c=>?_,λz c=>?_,λP a=>?_,?_,h1.nd,h1.nb,h1.un,h1.ub]
 .exact(h1.dr z c).to
 .exact(h1.bt z c).to
 .rcases Jw.mp a with a|a
  .exact h.kp P a
  .rw[Jg.mp a];exact bG h f hc g
 .show(S.kp++[zb B d]).length<=n+1
  rw[Jq];exact Fq h.nk
theorem ym(D:Dr)(P:Ps):(ze D P).2.length=D.kn.length:=by
 have h:(ze D P).2.map (·.1)=D.kn.map (·.1):=iD ..
 have:=JK List.length h
 rwa [Jb,Jb]at this
theorem Me.hear(h:Me S n y)(k:Nat):Me S (n+1) (Za y P k):=by
 refine#[h.t,h.k,h.l,tV h.ok P,?_,h.m1,?_,?_,λe f=>?_]
 .show((ze y.D P).2.length:Int)<=_
  rw[ym];exact h.m
 .show(y.L++[_]).length<=n+1
  rw[Jq];exact Fq h.ll
 .show(if _ then y.op++[k]else y.op).length<=n+1
  split
  .rw[Jq];exact Fq h.lo
  .exact F9 h.lo
 .have c:e.1∈(ze y.D P).2.map (·.1):=JA.mpr #[e,f,Z]
  rw[show(ze y.D P).2.map (·.1)=y.D.kn.map (·.1)from iD ..]at c
  let#[d,a,q]:=JA.mp c;rw[<- q];exact h.kb d a
theorem HZ.hear(h:HZ n S)(hi:S.ds[i]? =↑y)(k:Nat):HZ (n+1) (S.setD i (Za y P k)):=h.setD (J1 n) hi Z ((h.dr y (Jo hi)).hear k)
end
noncomputable def Pu:Α:=["table","house_keys","least_age","doors","buttons","kept","opened"]
theorem p6:Pu.Nodup:=by decide +kernel
noncomputable def uY(a:Ha)(l:Int):List (Str×V):=[("table",-a.ta),("house_keys",-a.hk),("least_age",.int l),("doors",-a.dd),("buttons",-a.bd),("kept",-a.kl),("opened",-a.od)]
noncomputable def Re:List qR:=[.inr "table",.inr "keys",.inr "shut",.inr "doors",.inr "buttons",.inr "kept",.inr "opened"]
theorem lm:Re.Nodup:=by decide +kernel
noncomputable def Zs(a:Ha)(l:Int):List (qR×V):=[(.inr "table",-a.ta),(.inr "keys",-a.hk),(.inr "shut",.int l),(.inr "doors",-a.dd),(.inr "buttons",-a.bd),(.inr "kept",-a.kl),(.inr "opened",-a.od)]
def NX(k:Κ)(H:Hp)(a:Ha)(l:Int):Prop:=match k with
 |some C=>∃dx,H a.ma=↑(.ins C dx (uY a l))
 |none=>H a.ma=↑(.dK (Zs a l))
structure MK(K:ι)(C:Δ):Prop where
 cl:N5 K C
 n_table:HU K C "table"
 n_house_keys:HU K C "house_keys"
 n_least_age:HU K C "least_age"
 n_doors:HU K C "doors"
 n_buttons:HU K C "buttons"
 n_kept:HU K C "kept"
 n_opened:HU K C "opened"
structure HJ(K:ι)(CB CD:Δ)(k:Κ)(H:Hp)(a:Ha)(S:Hs):Prop where
 mn:NX k H a S.least
 at_:LI K CB CD H a S
section
variable{K:ι}{CB CD C:Δ}{k:Κ}{Z:Η}{H H':Hp}{a:Ha}{S:Hs}{i:Nat}{x:Lx}{y:Dh}{xb:Mw}{B B':Bt}{D':Dr}{L':Τ}
theorem NX.to(h:NX k H a l)(e:∀o,H a.ma=↑o->H' a.ma=↑o):NX k H' a l:=by
 cases k with
 |none=>exact e _ h
 |some C=>let#[dx,q]:=h;exact#[dx,e _ q]
theorem HJ.mv(h:HJ K CB CD k H a S)(m:Mv Z H H')(nt:NT Z H)(c:∀z∈hF a,z∉Z):HJ K CB CD k H' a S:=#[h.mn.to λo e=>m _ _ (c _ iZ) e,h.at_.mv m nt c]
theorem HJ.same(h:HJ K CB CD k H a S)(s:HG H H'):HJ K CB CD k H' a S:=#[h.mn.to λo e=>s _ _ e,h.at_.same s]
theorem HJ.door(h:HJ K CB CD k H a S)(hi:a.ds[i]? =↑x)(f:S.ds[i]? =↑y)(m:Mv (dS x.a) H H')(d:Lc K CD H' x.a D' L'):HJ K CB CD k H' a (S.setD i {y with D:=D',L:=L'}):=by
 let#[w,c]:=h.at_.ow
 exact#[h.mn.to λo e=>m _ _ (λq=>by have:=c.dr i x hi _ q;rw[c.ma]at this;cases this) e,h.at_.door hi f m d]
theorem HJ.opd(h:HJ K CB CD k H a S)(hi:a.ds[i]? =↑x)(d:S.ds[i]? =↑y):HJ K CB CD k (HI H x.ol (.lst (op'.map λn:Nat=>V.int (n:Int)))) a (S.setD i {y with op:=op'}):=by
 let#[w,c]:=h.at_.ow
 exact#[h.mn.to λo e=>by rw[qk (λq=>by have:=c.ol i x hi;rw[<- q,c.ma]at this;cases this)];exact e,h.at_.opd hi d]
theorem HJ.btn(h:HJ K CB CD k H a S)(hi:a.bs[i]? =↑xb)(d:S.bs[i]? =↑B)(m:Mv [xb.p,xb.ce] H H')(b:M3 K CB H' xb B')(hn:B'.nm=B.nm):HJ K CB CD k H' a (S.setB i B'):=by
 let#[w,c]:=h.at_.ow;refine#[h.mn.to λo e=>m _ _ (λq=>?_) e,h.at_.btn hi d m b hn]
 simp only[Jh,Jr,Js]at q;rcases q with q|q
 .have:=c.bp i xb hi;rw[<- q,c.ma]at this;cases this
 .have:=c.bc i xb hi;rw[<- q,c.ma]at this;cases this
theorem HJ.kpt(h:HJ K CB CD k H a S)(p:Pe (HI H a.kl o) a.kl c):HJ K CB CD k (HI H a.kl o) a {S with kp:=c}:=by
 let#[w,d]:=h.at_.ow
 exact#[h.mn.to λo e=>by rw[qk (λq=>by have:=d.kl;rw[<- q,d.ma]at this;cases this)];exact e,h.at_.kpt p]
theorem HJ.key(h:HJ K CB CD k H a S)(p:Le [] (HI H a.hk o) a.hk c):HJ K CB CD k (HI H a.hk o) a {S with kss:=c}:=by
 let#[w,d]:=h.at_.ow
 exact#[h.mn.to λo e=>by rw[qk (λq=>by have:=d.hk;rw[<- q,d.ma]at this;cases this)];exact e,h.at_.key p]
theorem HJ.addD(h:HJ K CB CD k H a S)(m:Mv [a.dd,a.od] H H')(f:H' a.dd=↑(.dK (zw Lx.nm (λx=> .ref x.a.p) (a.ds++[x]))))(g:H' a.od=↑(.dK (zw Lx.nm (λx=> .ref x.ol) (a.ds++[x]))))(d:Lc K CD H' x.a y.D y.L)(o:mG H' x.ol y.op)(fd:∀z∈dS x.a,H z=none)(i:H x.ol=none)(ne:x.ol∉dS x.a)(hn:x.nm=y.nm):
  HJ K CB CD k H' {a with ds:=a.ds++[x]} {S with ds:=S.ds++[y]}:=by
 let#[w,c]:=h.at_.ow;refine#[(show NX k H' {a with ds:=a.ds++[x]} S.least↔NX k H' a S.least by cases k<;>exact Iff.rfl).mpr (h.mn.to λo e=>m _ _ (λq=>?_) e),h.at_.addD m f g d o fd i ne hn]
 simp only[Jh,Jr,Js]at q;rcases q with q|q
 .have:=c.dd;rw[<- q,c.ma]at this;cases this
 .have:=c.od;rw[<- q,c.ma]at this;cases this
theorem HJ.addB(h:HJ K CB CD k H a S)(m:Mv [a.bd] H H')(d:H' a.bd=↑(.dK (zw Mw.nm (λx=> .ref x.p) (a.bs++[xb]))))(b:M3 K CB H' xb B)(f1:H xb.p=none)(f2:H xb.ce=none)(hn:xb.nm=B.nm):
  HJ K CB CD k H' {a with bs:=a.bs++[xb]} {S with bs:=S.bs++[B]}:=by
 let#[w,c]:=h.at_.ow;refine#[(show NX k H' {a with bs:=a.bs++[xb]} S.least↔NX k H' a S.least by cases k<;>exact Iff.rfl).mpr (h.mn.to λo e=>m _ _ (λq=>?_) e),h.at_.addB m d b f1 f2 hn]
 have q:=Jg.mp q
 have:=c.bd;rw[<- q,c.ma]at this;cases this
theorem HJ.has(h:HJ K CB CD ↑C H a S)(U:MK K C)(i:Nat)(e:(uY a S.least)[i]? =↑(f,v))(n:HU K C f):Qm K H a.ma f v:=by
 let#[dx,q]:=h.mn
 exact#[C,dx,_,q,U.cl,n,bD i e (show((uY a S.least).map (·.1)).Nodup from p6)]
theorem HJ.h_table(h:HJ K CB CD ↑C H a S)(U:MK K C):Qm K H a.ma "table" (-a.ta):=h.has U 0 rfl U.n_table
theorem HJ.h_keys(h:HJ K CB CD ↑C H a S)(U:MK K C):Qm K H a.ma "house_keys" (-a.hk):=h.has U 1 rfl U.n_house_keys
theorem HJ.h_least(h:HJ K CB CD ↑C H a S)(U:MK K C):Qm K H a.ma "least_age" (.int S.least):=h.has U 2 rfl U.n_least_age
theorem HJ.h_doors(h:HJ K CB CD ↑C H a S)(U:MK K C):Qm K H a.ma "doors" (-a.dd):=h.has U 3 rfl U.n_doors
theorem HJ.h_buttons(h:HJ K CB CD ↑C H a S)(U:MK K C):Qm K H a.ma "buttons" (-a.bd):=h.has U 4 rfl U.n_buttons
theorem HJ.h_kept(h:HJ K CB CD ↑C H a S)(U:MK K C):Qm K H a.ma "kept" (-a.kl):=h.has U 5 rfl U.n_kept
theorem HJ.h_opened(h:HJ K CB CD ↑C H a S)(U:MK K C):Qm K H a.ma "opened" (-a.od):=h.has U 6 rfl U.n_opened
theorem HJ.no(h:HJ K CB CD ↑C H a S)(hm:m∉Pu:=by decide +kernel):vb C H a.ma m:=by
 let#[dx,e]:=h.mn
 exact#[dx,_,e,dw hm]
theorem HJ.get(h:HJ K CB CD none H a S)(i:Nat)(e:(Zs a S.least)[i]? =↑(q,v)):Lg H a.ma (kV q) ↑v:=by
 have:=Lg.k (k:=q) (show H a.ma=↑(.dK (Zs a S.least))from h.mn)
 rw[lS i e (show((Zs a S.least).map (·.1)).Nodup from lm)]at this
 exact this
theorem HJ.g_table(h:HJ K CB CD none H a S):Lg H a.ma (.str "table") ↑(-a.ta):=h.get (q:= .inr "table") 0 rfl
theorem HJ.g_keys(h:HJ K CB CD none H a S):Lg H a.ma (.str "keys") ↑(-a.hk):=h.get (q:= .inr "keys") 1 rfl
theorem HJ.g_shut(h:HJ K CB CD none H a S):Lg H a.ma (.str "shut") ↑(.int S.least):=h.get (q:= .inr "shut") 2 rfl
theorem HJ.g_doors(h:HJ K CB CD none H a S):Lg H a.ma (.str "doors") ↑(-a.dd):=h.get (q:= .inr "doors") 3 rfl
theorem HJ.g_buttons(h:HJ K CB CD none H a S):Lg H a.ma (.str "buttons") ↑(-a.bd):=h.get (q:= .inr "buttons") 4 rfl
theorem HJ.g_kept(h:HJ K CB CD none H a S):Lg H a.ma (.str "kept") ↑(-a.kl):=h.get (q:= .inr "kept") 5 rfl
theorem HJ.g_opened(h:HJ K CB CD none H a S):Lg H a.ma (.str "opened") ↑(-a.od):=h.get (q:= .inr "opened") 6 rfl
theorem br{z:Δ}(h:z∈hF a)(m:Mv [z] H H'):Mv (hF a) H H':=m.mono λc n q=>n (Jg.mp q▸h)
theorem ci(hi:a.ds[i]? =↑x)(m:Mv (dS x.a) H H'):Mv (hF a) H H':=m.mono λc n q=>n (kE hi q)
theorem oB(hi:a.bs[i]? =↑xb)(m:Mv [xb.p,xb.ce] H H'):Mv (hF a) H H':=m.mono λc n q=>n (by
 simp only[Jh,Jr,Js]at q;rcases q with rfl|rfl
 .exact oy hi
 .exact ot hi)
theorem LI.dix(h:LI K CB CD H a S)(e:qX S.dn nm=↑i):∃x y,a.ds[i]? =↑x/\S.ds[i]? =↑y/\x.nm=nm/\y.nm=nm:=by
 have h1:=cV e;have c:=h1;rw[<- h.dn,Jp]at h1;unfold Hs.dn at c;rw[Jp]at c;let#[x,d,ex]:=JY.mp h1;let#[y,f,g]:=JY.mp c
 exact#[x,y,d,f,ex,g]
theorem LI.bix(h:LI K CB CD H a S)(e:qX S.bn nm=↑i):∃x y,a.bs[i]? =↑x/\S.bs[i]? =↑y/\x.nm=nm/\y.nm=nm:=by
 have h1:=cV e;have c:=h1;rw[<- h.bn,Jp]at h1;unfold Hs.bn at c;rw[Jp]at c;let#[x,d,ex]:=JY.mp h1;let#[y,f,g]:=JY.mp c
 exact#[x,y,d,f,ex,g]
theorem LI.gdd(h:LI K CB CD H a S)(nm:Str):(qX S.dn nm=none/\Lg H a.dd (.str nm) none)\/∃i x y,qX S.dn nm=↑i/\a.ds[i]? =↑x/\S.ds[i]? =↑y/\x.nm=nm/\y.nm=nm/\Lg H a.dd (.str nm) ↑(-x.a.p):=by
 rcases jg h.dd nm with⟨e,g⟩|⟨i,x,e,d,ex,g⟩
 .exact .inl #[by rw[<- h.dn];exact e,g]
 .have f:qX S.dn nm=↑i:=by rw[<- h.dn];exact e
  let#[m,y,c,l,_,j]:=h.dix f;rw[d]at c;cases c
  exact .inr #[i,x,y,f,d,l,ex,j,g]
theorem LI.god(h:LI K CB CD H a S)(nm:Str):(qX S.dn nm=none/\Lg H a.od (.str nm) none)\/∃i x y,qX S.dn nm=↑i/\a.ds[i]? =↑x/\S.ds[i]? =↑y/\x.nm=nm/\y.nm=nm/\Lg H a.od (.str nm) ↑(-x.ol):=by
 rcases jg h.od nm with⟨e,g⟩|⟨i,x,e,d,ex,g⟩
 .exact .inl #[by rw[<- h.dn];exact e,g]
 .have f:qX S.dn nm=↑i:=by rw[<- h.dn];exact e
  let#[m,y,c,l,_,j]:=h.dix f;rw[d]at c;cases c
  exact .inr #[i,x,y,f,d,l,ex,j,g]
theorem LI.gbd(h:LI K CB CD H a S)(nm:Str):(qX S.bn nm=none/\Lg H a.bd (.str nm) none)\/∃i x y,qX S.bn nm=↑i/\a.bs[i]? =↑x/\S.bs[i]? =↑y/\x.nm=nm/\y.nm=nm/\Lg H a.bd (.str nm) ↑(-x.p):=by
 rcases jg h.bd nm with⟨e,g⟩|⟨i,x,e,d,ex,g⟩
 .exact .inl #[by rw[<- h.bn];exact e,g]
 .have f:qX S.bn nm=↑i:=by rw[<- h.bn];exact e
  let#[m,y,c,l,_,j]:=h.bix f;rw[d]at c;cases c
  exact .inr #[i,x,y,f,d,l,ex,j,g]
end
inductive Hd where
 |addD (nm:Str) (near far most:Int)
 |addB (nm:Str) (step:Int)
 |teach (d b:Str)
 |press (b:Str) (deed:Int) (ds:Α)
 |play (k:Int) (d:Str)
 |lose (b:Str)
 |tear (b:Str)
 |turnH (ks:Ε)
 |turnB (b:Str)
 |close (age:Int)
 |forget (d b:Str)
inductive Rf where
 |known|full|worn|unknown|toomany
 |badp (n:Int)
inductive NY where
 |non
 |num (k:Nat) (as:List Β)
 |ans (as:Β)
inductive Ls where
 |ref (r:Rf)
 |ok (S:Hs) (o:NY)
noncomputable def ZU(S:Hs)(nm:Str)(c d a:Int):Dh:=⟨nm,⟨S.t,S.kss,c,d,a,S.least,[]⟩,if 0<S.least then [.close S.least]else [],[]⟩
noncomputable def hU(S:Hs)(nm:Str)(step:Int):Bt:=⟨nm,S.t,S.kss.getD (S.kss.length-1) [],(S.kss.length:Int)-1,step,0,0,↑0,none⟩
noncomputable def kQ(y:Dh)(P R:Ps)(nm:Str)(age c:Int):Dh:={y with D:={y.D with kn:=QN y.D.kn nm ⟨age,c,none⟩},L:=y.L++[.learn P R]}
noncomputable def bB(ks:Ε)(y:Dh):Dh:={y with D:={y.D with kss:=y.D.kss++[ks]},L:=y.L++[.turn ks]}
noncomputable def bI(age:Int)(y:Dh):Dh:={y with D:={y.D with least:=if age>y.D.least then age else y.D.least},L:=y.L++[.close age]}
noncomputable def fu(nm:Str)(y:Dh):Dh:={y with D:={y.D with kn:=y.D.kn.filter λp=>decide (p.1≠nm)},L:=y.L++[.forget nm]}
noncomputable def Bt.turn(B:Bt)(ks:Ε):Bt:={B with ks:=ks,age:=B.age+1}
noncomputable def HV(S:Hs)(k:Nat)(is:Μ):Nat->Hs×List Β
 |0=>(S,[])
 |m+1=>match is[m]? with
  |none=>HV S k is m
  |some i=>match(HV S k is m).1.ds[i]?,(HV S k is m).1.kp[k]? with
   |some y,↑P=>((HV S k is m).1.setD i (Za y P k),(HV S k is m).2++[(ze y.D P).1])
   |_,_=>HV S k is m
noncomputable def QH(l:Α):Α->Option Μ
 | []=>some []
 |m::r=>match qX l m,QH l r with
  |some i,↑q=>↑(i::q)
  |_,_=>none
noncomputable def iL(S:Hs)(i j:Nat):Ls:=match S.ds[i]?,S.bs[j]? with
 |some y,↑B=>
  if y.D.kn.lookup B.nm≠none then .ref .known
  else if y.D.most<=(y.D.kn.length:Int)then .ref .full
  else if 4094<B.cnt then .ref .worn
  else if B.age<S.least then .ref (.badp 0)
  else .ok ((zd (zd S j B 0) j B.pr 0).setD i (kQ y (zb B 0) (zb B.pr 0) B.nm B.age (B.cnt+1))) .non
 |_,_=> .ref .unknown
noncomputable def bE(S:Hs)(b:Str)(f:Nat->Bt->Ls):Ls:=match qX S.bn b with
 |none=> .ref .unknown
 |some j=>match S.bs[j]? with
  |none=> .ref .unknown
  |some B=>f j B
noncomputable def fj(S:Hs)(d:Str)(f:Nat->Dh->Ls):Ls:=match qX S.dn d with
 |none=> .ref .unknown
 |some i=>match S.ds[i]? with
  |none=> .ref .unknown
  |some y=>f i y
noncomputable def Qb(S:Hs):Hd->Ls
 | .addD nm near far most=>if(qX S.dn nm).isSome=true then .ref .known else .ok {S with ds:=S.ds++[ZU S nm near far most]} .non
 | .addB nm step=>if(qX S.bn nm).isSome=true then .ref .known else .ok {S with bs:=S.bs++[hU S nm step]} .non
 | .teach d b=>fj S d λi _=>bE S b λj _=>iL S i j
 | .press b deed ds=>match QH S.dn ds with
  |none=> .ref .unknown
  |some is=>bE S b λj B=>if 4096<=B.cnt then .ref .worn else .ok (HV (zd S j B deed) S.kp.length is is.length).1 (.num S.kp.length (HV (zd S j B deed) S.kp.length is is.length).2)
 | .play k d=>fj S d λi y=>match S.kp[k.toNat]? with
  |none=> .ref (.badp k)
  |some P=>if k<0 then .ref (.badp k)else .ok (S.setD i (Za y P k.toNat)) (.ans (ze y.D P).1)
 | .lose b=>bE S b λj B=> .ok (S.setB j B.ou) .non
 | .tear b=>bE S b λj B=> .ok (S.setB j B.tn) .non
 | .turnH ks=>if 8<=S.kss.length then .ref .toomany else .ok {S with kss:=S.kss++[ks],ds:=S.ds.map (bB ks)} .non
 | .turnB b=>bE S b λj B=>if(S.kss.length:Int)<=B.age+1 then .ref .worn else .ok (S.setB j (B.turn (S.kss.getD (B.age+1).toNat []))) .non
 | .close age=>if 0<=age/\age<S.kss.length then .ok {S with least:=if age>S.least then age else S.least,ds:=S.ds.map (bI age)} .non else .ref .unknown
 | .forget d b=>fj S d λi y=>if y.D.kn.lookup b=none then .ref .unknown else .ok (S.setD i (fu b y)) .non
noncomputable def M5(x:Xa)(E:XK)(H:Hp):Rf->Prop
 | .known=>HX E H x.k
 | .full=>HX E H x.f
 | .worn=>HX E H x.w
 | .unknown=>HX E H x.u
 | .toomany=>HX E H x.t
 | .badp n=>Md E H x.b "place" n
noncomputable def Mz(H:Hp)(v:V):NY->Prop
 | .non=>v= .non
 | .num k as=>∃q t,∃xs:Η,v= .ref q/\H q=↑(.tup [.int (k:Int),-t])/\H t=↑(.tup (xs.map V.ref))/\xs.length=as.length/\∀(i:Nat) (x:Δ) (l:Β),xs[i]? =↑x->as[i]? =↑l->H x=↑(.tup l)
 | .ans as=>∃q,v= .ref q/\H q=↑(.tup as)
def L7(H:Hp)(a a':Ha):Prop:=∀z∈hF a',z∈hF a\/H z=none
theorem L7.refl{H:Hp}{a:Ha}:L7 H a a:=λz h=> .inl h
structure Nr(d:Hd):Prop where
 ok:match d with
  | .addD nm near far most=>0<=most/\most<=12
  | .addB nm step=>1<=step/\ZE nm
  | .press b deed ds=>ZJ deed/\ds.length<=5
  | .turnH ks=>ks.length<=8
  |_=>True
section
variable{n:Nat}{S:Hs}{i j:Nat}{B:Bt}{age:Int}
theorem ny{z:Str}(h:l.Nodup)(hn:z∉l):(l++[z]).Nodup:=IR.mpr #[h,(by simp),λx a y c e=>hn (by rw[Jg.mp c]at e;rw[<- e];exact a)]
theorem HZ.addD(h:HZ n S)(hn:qX S.dn nm=none)(l:0<=a)(j:a<=12):HZ (n+1) {S with ds:=S.ds++[ZU S nm c f a]}:=by
 have h1:=h.mono (J1 n);refine#[h.tp,h.k1,h.k8,h.kk,h.l0,h.l1,λz d=>?_,λB g=>(h.bt B g).to,h.kp,h1.nk,?_,h1.nb,by show((S.ds++[ZU S nm c f a]).map (·.nm)).Nodup;rw[JG];exact ny h.un (Q5 hn),h.ub]
 .rcases Jw.mp d with d|d
  .exact(h1.dr z d).to
  .rw[Jg.mp d]
   refine#[34,#[h.tp,h.l0,h.k8,JL _,Ga],l,j,?_,JL _,λe i=>nomatch i]
   show(if 0<S.least then [Rw.close S.least]else []).length<=n+1
   split
   .exact Fq (JL _)
   .exact JL _
 .show(S.ds++[_]).length<=n+1
  rw[Jq];exact Fq h.nd
theorem HZ.addB(h:HZ n S){step:Int}(c:qX S.bn nm=none)(f:1<=step)(hn:ZE nm):HZ (n+1) {S with bs:=S.bs++[hU S nm step]}:=by
 have h1:=h.mono (J1 n);have k1:=h.k1;refine#[h.tp,h.k1,h.k8,h.kk,h.l0,h.l1,λz e=>(h1.dr z e).to (hb:=λw d=>?_),λB a=>?_,h.kp,h1.nk,h1.nd,?_,h.un,by show((S.bs++[hU S nm step]).map (·.nm)).Nodup;rw[JG];exact ny h.ub (Q5 c)]
 .show w∈(S.bs++[hU S nm step]).map (·.nm)
  rw[JG];exact Jw.mpr (.inl d)
 .rcases Jw.mp a with a|a
  .exact(h.bt B a).to
  .rw[Jg.mp a]
   refine#[MH.new f,Z,?_,?_,?_,hn]
   .show 0<=(S.kss.length:Int)-1;lia
   .show(S.kss.length:Int)-1<S.kss.length;lia
   .show S.kss.getD (S.kss.length-1) []=S.kss.getD ((S.kss.length:Int)-1).toNat []
    congr 1;lia
 .show(S.bs++[_]).length<=n+1
  rw[Jq];exact Fq h.nb
theorem Me.learn(h:Me S n y)(hm:(y.D.kn.length:Int)<y.D.most)(hb:nm∈S.bn):Me S (n+1) (kQ y P R nm age c):=by
 have i:=Aw y.D.kn nm #[age,c,none];have g:=h.m1;refine#[h.t,h.k,h.l,#[h.ok.tp,h.ok.l0,h.ok.kl,?_,tF h.ok.nd nm _],?_,h.m1,?_,F9 h.lo,λe a=>?_]
 .show(QN y.D.kn nm _).length<=60;lia
 .show((QN y.D.kn nm _).length:Int)<=y.D.most;lia
 .show(y.L++[_]).length<=n+1
  rw[Jq];exact Fq h.ll
 .have a:e∈QN y.D.kn nm #[age,c,none]:=a
  unfold QN at a;split at a
  .let#[f,h1,d]:=JA.mp a
   split at d
   .rw[<- d];exact hb
   .rw[<- d];exact h.kb f h1
  .rcases Jw.mp a with a|a
   .exact h.kb e a
   .rw[Jg.mp a];exact hb
theorem Me.forget(h:Me S n y):Me S (n+1) (fu nm y):=by
 have c:(y.D.kn.filter λp=>decide (p.1≠nm)).length<=y.D.kn.length:=List.length_filter_le ..
 refine#[h.t,h.k,h.l,#[h.ok.tp,h.ok.l0,h.ok.kl,JI c h.ok.nl,?_],?_,h.m1,?_,F9 h.lo,λe a=>h.kb e (GZ.mp a).1]
 .exact List.Nodup.sublist (List.Sublist.map _ List.filter_sublist) h.ok.nd
 .show((y.D.kn.filter λp=>decide (p.1≠nm)).length:Int)<=y.D.most
  have:=h.m;lia
 .show(y.L++[_]).length<=n+1
  rw[Jq];exact Fq h.ll
theorem vG(f:Dh->Dh)(a:∀y,(f y).nm=y.nm):(S.ds.map f).map (·.nm)=S.ds.map (·.nm):=by
 rw[FD];exact GN λy _=>a y
theorem HZ.turnH(h:HZ n S)(j:S.kss.length<8)(hk:ks.length<=8):HZ (n+1) {S with kss:=S.kss++[ks],ds:=S.ds.map (bB ks)}:=by
 have h1:=h.mono (J1 n);have l:(S.kss++[ks]).length=S.kss.length+1:=by simp
 refine#[h.tp,?_,?_,λk a=>?_,h.l0,?_,λz d=>?_,λB c=>?_,h.kp,h1.nk,?_,h1.nb,by show((S.ds.map (bB ks)).map (·.nm)).Nodup;rw[vG (bB ks) (λy=>rfl)];exact h.un,h.ub]
 .show 1<=(S.kss++[ks]).length;lia
 .show(S.kss++[ks]).length<=8;lia
 .rcases Jw.mp a with q|q
  .exact h.kk k q
  .rw[Jg.mp q];exact hk
 .show S.least<((S.kss++[ks]).length:Int);have:=h.l1;lia
 .let#[y,f,rfl]:=JA.mp d
  have e:=h.dr y f;refine#[e.t,?_,e.l,#[e.ok.tp,e.ok.l0,?_,e.ok.nl,e.ok.nd],e.m,e.m1,?_,F9 e.lo,e.kb]
  .show y.D.kss++[ks]=S.kss++[ks];rw[e.k]
  .show(y.D.kss++[ks]).length<=8;rw[e.k];lia
  .show(y.L++[_]).length<=n+1
   rw[Jq];exact Fq e.ll
 .have e:=h.bt B c
  have g:=e.a1;have i:=e.a0;refine#[e.ok,e.t,e.a0,?_,?_,e.nm]
  .show B.age<((S.kss++[ks]).length:Int);lia
  .show B.ks=(S.kss++[ks]).getD B.age.toNat []
   rw[JM,FH (by lia),<- JM];exact e.k
 .show(S.ds.map _).length<=n+1
  rw[Jb];exact h1.nd
theorem HZ.close(h:HZ n S)(i:0<=age)(f:age<S.kss.length):HZ (n+1) {S with least:=if age>S.least then age else S.least,ds:=S.ds.map (bI age)}:=by
 have h1:=h.mono (J1 n);have j:=h.l0;have g:=h.l1;refine#[h.tp,h.k1,h.k8,h.kk,?_,?_,λz c=>?_,λB a=>(h.bt B a).to,h.kp,h1.nk,?_,h1.nb,by show((S.ds.map (bI age)).map (·.nm)).Nodup;rw[vG (bI age) (λy=>rfl)];exact h.un,h.ub]
 .show 0<=if age>S.least then age else S.least;split<;>lia
 .show(if age>S.least then age else S.least)<S.kss.length;split<;>lia
 .let#[y,d,rfl]:=JA.mp c
  have e:=h.dr y d;refine#[e.t,e.k,?_,#[e.ok.tp,?_,e.ok.kl,e.ok.nl,e.ok.nd],e.m,e.m1,?_,F9 e.lo,e.kb]
  .show(if age>y.D.least then age else y.D.least)=_;rw[e.l]
  .show 0<=if age>y.D.least then age else y.D.least;rw[e.l];split<;>lia
  .show(y.L++[_]).length<=n+1
   rw[Jq];exact Fq e.ll
 .show(S.ds.map _).length<=n+1
  rw[Jb];exact h1.nd
theorem L6.turn(h:L6 S B)(ha:B.age+1<S.kss.length):L6 S (B.turn (S.kss.getD (B.age+1).toNat [])):=#[#[h.ok.c0,h.ok.cb,h.ok.bm,h.ok.s1,h.ok.eq,h.ok.hx,h.ok.hy],h.t,by show 0<=B.age+1;have:=h.a0;lia,ha,Z,h.nm]
theorem L6.ou(h:L6 S B):L6 S B.ou:=#[h.ok.ou,h.t,h.a0,h.a1,h.k,h.nm]
theorem L6.tn(h:L6 S B):L6 S B.tn:=#[h.ok.tn,(E1 B).trans h.t,by rw[oZ];exact h.a0,by rw[oZ];exact h.a1,by rw[oZ,El];exact h.k,by rw[AE];exact h.nm]
theorem HZ.hearN(h:HZ n S)(k:Nat)(is:Μ):∀m,HZ (n+m) (HV S k is m).1
 |0=>h
 |m+1=>by
  have a:=HZ.hearN h k is m;unfold L3.HV;split
  .exact a.mono (by lia)
  .split
   .rename_i y P c d
    exact a.hear c k
   .exact a.mono (by lia)
theorem cJ(a:S.bs[j]? =↑B):(S.setB j B').bs[j]? =↑B':=by
 show(S.bs.set j B')[j]? =↑B'
 rw[List.getElem?_set];rw[Jd Z,Jd (Jt.mp a).1]
theorem ZZ{b:Str}(h:bE S b f= .ok S' o):∃j B,qX S.bn b=↑j/\S.bs[j]? =↑B/\f j B= .ok S' o:=by
 unfold bE at h;split at h
 .cases h
 .rename_i j a
  split at h
  .cases h
  .rename_i B c
   exact#[j,B,a,c,h]
theorem fE{d:Str}(h:fj S d f= .ok S' o):∃i y,qX S.dn d=↑i/\S.ds[i]? =↑y/\f i y= .ok S' o:=by
 unfold fj at h;split at h
 .cases h
 .rename_i j a
  split at h
  .cases h
  .rename_i B c
   exact#[j,B,a,c,h]
theorem bH{l:Α}:∀{ds:Α} {is:Μ},QH l ds=↑is->is.length=ds.length
 | [],is,h=>by cases h;rfl
 |m::r,is,h=>by
  unfold QH at h;split at h
  .rename_i i q h1 a
   cases h
   show q.length+1=r.length+1
   rw[bH a]
  .cases h
theorem CO(h:HZ n S)(f:Nr d)(e:Qb S d= .ok S' o):HZ (n+6) S':=by
 cases d with
 |addD nm near far most=>
  have e:(if(qX S.dn nm).isSome=true then Ls.ref .known else .ok {S with ds:=S.ds++[ZU S nm near far most]} .non)= .ok S' o:=e
  split at e
  .cases e
  .rename_i q;cases e;exact(h.addD (by cases z:qX S.dn nm with|none=>rfl|some i=>rw[z]at q;exact absurd Z q) f.ok.1 f.ok.2).mono (by lia)
 |addB nm step=>
  have e:(if(qX S.bn nm).isSome=true then Ls.ref .known else .ok {S with bs:=S.bs++[hU S nm step]} .non)= .ok S' o:=e
  split at e
  .cases e
  .rename_i q;cases e;exact(h.addB (by cases z:qX S.bn nm with|none=>rfl|some i=>rw[z]at q;exact absurd Z q) f.ok.1 f.ok.2).mono (by lia)
 |teach dn bn=>
  let#[i,y,hi,c,e]:=fE (show fj S dn _=_ from e)
  let#[j,B,g,a,e]:=ZZ e;unfold iL at e;rw[c,a]at e;simp only at e
  split at e
  .cases e
  split at e
  .cases e
  split at e
  .cases e
  split at e
  .cases e
  cases e;rename_i n1 n2 u v
  have A:=h.bt B (Jo a);have h1:=h.keep a (by lia) (d:=0) #[⋯,⋯]
  have p:=h1.keep (j:=j) (B:=B.pr) (cJ a) (by rw[aR];lia) (d:=0) #[⋯,⋯]
  have l:Me (zd (zd S j B 0) j B.pr 0) (n+2) y:=(p.dr y (Jo c)).mono (by lia)
  refine(p.setD (m:=n+3) (i:=i) (y:=kQ y (zb B 0) (zb B.pr 0) B.nm B.age (B.cnt+1)) (by lia) (y':=y) c Z (l.learn (by lia) ?_)).mono (by lia)
  have s:B.nm∈S.bn:=JA.mpr #[B,Jo a,Z]
  have t:(zd S j B 0).bn=S.bn:=Qt a (Z2 B)
  have r:(zd (zd S j B 0) j B.pr 0).bn=(zd S j B 0).bn:=Qt (cJ a) (Z2 B.pr)
  rw[r,t];exact s
 |press b deed ds=>
  have e:(match QH S.dn ds with
   |none=>Ls.ref .unknown
   |some is=>bE S b λj B=>if 4096<=B.cnt then .ref .worn else .ok (L3.HV (zd S j B deed) S.kp.length is is.length).1 (.num S.kp.length (L3.HV (zd S j B deed) S.kp.length is is.length).2))= .ok S' o:=e
  cases hx:QH S.dn ds with
  |none=>rw[hx]at e;cases e
  |some is=>
   rw[hx]at e;let#[j,B,g,a,e]:=ZZ e;split at e
   .cases e
   cases e;have x:=bH hx;have w:=f.ok.2
   exact((h.keep a (by lia) f.ok.1).hearN S.kp.length is is.length).mono (by lia)
 |play k dn=>
  let#[i,y,hi,c,e]:=fE (show fj S dn _=_ from e)
  split at e
  .cases e
  .split at e
   .cases e
   .cases e;exact(h.hear c _).mono (by lia)
 |lose b=>
  let#[j,B,g,a,e]:=ZZ (show bE S b _=_ from e)
  cases e
  exact(h.setB (h.bt B (Jo a)).ou a Z).mono (by lia)
 |tear b=>
  let#[j,B,g,a,e]:=ZZ (show bE S b _=_ from e)
  cases e
  exact(h.setB (h.bt B (Jo a)).tn a (AE B)).mono (by lia)
 |turnH ks=>
  have e:(if 8<=S.kss.length then Ls.ref .toomany else .ok {S with kss:=S.kss++[ks],ds:=S.ds.map (bB ks)} .non)= .ok S' o:=e
  split at e
  .cases e
  .cases e;exact(h.turnH (by lia) f.ok).mono (by lia)
 |turnB b=>
  let#[j,B,g,a,e]:=ZZ (show bE S b _=_ from e)
  split at e
  .cases e
  .cases e;exact(h.setB ((h.bt B (Jo a)).turn (by lia)) a Z).mono (by lia)
 |close age=>
  have e:(if 0<=age/\age<S.kss.length then Ls.ok {S with least:=if age>S.least then age else S.least,ds:=S.ds.map (bI age)} .non else .ref .unknown)= .ok S' o:=e
  split at e
  .rename_i q;cases e;exact(h.close q.1 q.2).mono (by lia)
  .cases e
 |forget dn bn=>
  let#[i,y,hi,c,e]:=fE (show fj S dn _=_ from e)
  split at e
  .cases e
  .cases e;exact(h.setD (y:=fu bn y) (J1 n) c Z (h.dr y (Jo c)).forget).mono (by lia)
end
def O1(H:Hp)(q:Δ)(ps:List Ps):Prop:=∃c:Η,H q=↑(.tup (c.map V.ref))/\c.length=ps.length/\∀(i:Nat) (a:Δ) (P:Ps),c[i]? =↑a->ps[i]? =↑P->Mc H a P
def Ou(K:ι)(CB CD:Δ)(k:Κ)(x:Xa)(H:Hp)(a:Ha)(S:Hs)(d:Hd)(Q:VK)(E:XK):Prop:=
 (∀r,Qb S d= .ref r->M5 x E H r)/\∀S' o,Qb S d= .ok S' o->∀v a' H',Mv (hF a) H H'->L7 H a a'->a'.ma=a.ma->HJ K CB CD k H' a' S'->Mz H' v o->Q v H'
structure ML(K:ι)(mg:HE)(x:Xa)(fI:Δ):Prop extends X16 K mg x fI where
 o_Unknown:Nb K x x.u
 o_TooMany:Nb K x x.t
 o_Worn:Nb K x x.w
section
variable{K:ι}{mg:HE}{x:Xa}{fI:Δ}
theorem ML.e_Known(X:ML K mg x fI):ay K x.k (.ref x.e::Ql) Ql "ValueError.__new__"=true:=X.o_Known.e
theorem ML.e_Full(X:ML K mg x fI):ay K x.f (.ref x.e::Ql) Ql "ValueError.__new__"=true:=X.o_Full.e
theorem ML.e_Unknown(X:ML K mg x fI):ay K x.u (.ref x.e::Ql) Ql "ValueError.__new__"=true:=X.o_Unknown.e
theorem ML.e_TooMany(X:ML K mg x fI):ay K x.t (.ref x.e::Ql) Ql "ValueError.__new__"=true:=X.o_TooMany.e
theorem ML.e_Worn(X:ML K mg x fI):ay K x.w (.ref x.e::Ql) Ql "ValueError.__new__"=true:=X.o_Worn.e
end
inductive M0 (K:ι) (C:Δ) (x:Xa) (vs:Β) (H:Hp) (Q:VK) (E:XK):Prop
 |mk (p ta ka ce:Δ) (B:Bt) (d:Int) (h1:vs=[-p,.int d]) (h2:HM K C H p ta ka ce B) (h3:ZE B.nm) (h4:B.t.length=16) (h5:0<=B.cnt) (h6:ZJ d) (h7:(4096<=B.cnt->HX E H x.w)) (h8:(B.cnt<4096->∀q pc H',Mv [p,ce] H H'->HM K C H' p ta ka ce B.pr->H' q=↑(.tup [.str B.nm,.int B.age,-pc])->H' pc=↑(.tup ((cg B.t B.ks B.nm B.cnt d).map V.int))->Q (-q) H'))
section
variable(K:ι)(CB CD CH:Δ)(x:Xa)
inductive Nh (vs:Β) (H:Hp) (Q:VK) (_3:XK):Prop
 |mk (a:Ha) (S:Hs) (nm:Str) (i:Nat) (y:Lx) (h1:vs=[-a.ma,.str nm]) (h2:HJ K CB CD ↑CH H a S) (h3:qX S.dn nm=↑i) (h4:a.ds[i]? =↑y) (h5:Q (-y.a.p) H)
inductive OK (vs:Β) (H:Hp) (Q:VK) (_3:XK):Prop
 |mk (a:Ha) (S:Hs) (nm:Str) (i:Nat) (y:Mw) (h1:vs=[-a.ma,.str nm]) (h2:HJ K CB CD ↑CH H a S) (h3:qX S.bn nm=↑i) (h4:a.bs[i]? =↑y) (h5:Q (-y.p) H)
noncomputable def kL(t ks:Ε):Hs:=⟨t,[ks],0,[],[],[]⟩
inductive NZ (vs:Β) (H:Hp) (Q:VK) (_3:XK):Prop
 |mk (p t k dx:Δ) (tt ks:Ε) (h1:vs=[-p,-t,-k]) (h2:H p=↑(.ins CH dx [])) (h3:Sq K H t (tt.map V.int)) (h4:N6 H k ks) (h5:∀a H',a.ma=p->Mv [p] H H'->(∀z∈hF a,z=p\/H z=none)->HJ K CB CD ↑CH H' a (kL tt ks)->Q .non H')
inductive Ms (vs:Β) (H:Hp) (Q:VK) (E:XK):Prop
 |mk (a:Ha) (S:Hs) (nm:Str) (h1:vs=[-a.ma,.str nm]) (h2:HJ K CB CD ↑CH H a S) (h3:(qX S.dn nm=none->HX E H x.u)) (h4:∀i y,qX S.dn nm=↑i->a.ds[i]? =↑y->Q (-y.a.p) H)
inductive Ni (vs:Β) (H:Hp) (Q:VK) (E:XK):Prop
 |mk (a:Ha) (S:Hs) (nm:Str) (h1:vs=[-a.ma,.str nm]) (h2:HJ K CB CD ↑CH H a S) (h3:(qX S.bn nm=none->HX E H x.u)) (h4:∀i y,qX S.bn nm=↑i->a.bs[i]? =↑y->Q (-y.p) H)
inductive N0 (vs:Β) (H:Hp) (Q:VK) (E:XK):Prop
 |mk (a:Ha) (S:Hs) (n j:Nat) (y:Mw) (B:Bt) (d:Int) (h1:vs=[-a.ma,-y.p,.int d]) (h2:HJ K CB CD ↑CH H a S) (h3:HZ n S) (h4:n<=990000) (h5:a.bs[j]? =↑y) (h6:S.bs[j]? =↑B) (h7:ZJ d) (h8:(4096<=B.cnt->HX E H x.w)) (h9:∀H',B.cnt<4096->Mv (hF a) H H'->HJ K CB CD ↑CH H' a (zd S j B d)->Q (.int (S.kp.length:Int)) H')
inductive OL (vs:Β) (H:Hp) (Q:VK) (E:XK):Prop
 |mk (a:Ha) (S:Hs) (n:Nat) (nm:Str) (near far most:Int) (h1:vs=[-a.ma,.str nm,.int near,.int far,.int most]) (h2:HJ K CB CD ↑CH H a S) (h3:HZ n S) (h4:n<=900000) (h5:Ou K CB CD ↑CH x H a S (.addD nm near far most) Q E)
inductive OM (vs:Β) (H:Hp) (Q:VK) (E:XK):Prop
 |mk (a:Ha) (S:Hs) (n:Nat) (nm:Str) (step:Int) (h1:vs=[-a.ma,.str nm,.int step]) (h2:HJ K CB CD ↑CH H a S) (h3:HZ n S) (h4:n<=900000) (h5:Ou K CB CD ↑CH x H a S (.addB nm step) Q E)
inductive Od (vs:Β) (H:Hp) (Q:VK) (E:XK):Prop
 |mk (a:Ha) (S:Hs) (n:Nat) (d b:Str) (h1:vs=[-a.ma,.str d,.str b]) (h2:HJ K CB CD ↑CH H a S) (h3:HZ n S) (h4:n<=900000) (h5:Ou K CB CD ↑CH x H a S (.teach d b) Q E)
inductive N3 (vs:Β) (H:Hp) (Q:VK) (E:XK):Prop
 |mk (a:Ha) (S:Hs) (n:Nat) (k:Δ) (ks:Ε) (h1:vs=[-a.ma,-k]) (h2:HJ K CB CD ↑CH H a S) (h3:HZ n S) (h4:n<=900000) (h5:N6 H k ks) (h6:k∉hF a) (h7:ks.length<=8) (h8:Ou K CB CD ↑CH x H a S (.turnH ks) Q E)
inductive Oe (vs:Β) (H:Hp) (Q:VK) (E:XK):Prop
 |mk (a:Ha) (S:Hs) (n:Nat) (age:Int) (h1:vs=[-a.ma,.int age]) (h2:HJ K CB CD ↑CH H a S) (h3:HZ n S) (h4:n<=900000) (h5:Ou K CB CD ↑CH x H a S (.close age) Q E)
inductive Nj (vs:Β) (H:Hp) (Q:VK) (_3:XK):Prop
 |mk (a:Ha) (S:Hs) (n:Nat) (nm:Str) (i:Nat) (y:Dh) (h1:vs=[-a.ma,.str nm]) (h2:HJ K CB CD ↑CH H a S) (h3:HZ n S) (h4:qX S.dn nm=↑i) (h5:S.ds[i]? =↑y) (h6:∀da H',HG H H'->Lc K CD H' da y.D y.L->Q (-da.p) H')
inductive ND (vs:Β) (H:Hp) (Q:VK) (_3:XK):Prop
 |mk (a:Ha) (S:Hs) (nm:Str) (j:Nat) (B:Bt) (h1:vs=[-a.ma,.str nm]) (h2:HJ K CB CD ↑CH H a S) (h3:qX S.bn nm=↑j) (h4:S.bs[j]? =↑B) (h5:∀q c H',HG H H'->H' q=↑(.tup [.int B.age,.int B.cnt,-c])->H' c=↑(.tup [oV B.x,oV B.y])->Q (-q) H')
inductive ON (vs:Β) (H:Hp) (Q:VK) (_3:XK):Prop
 |mk (a:Ha) (S:Hs) (h1:vs=[-a.ma]) (h2:HJ K CB CD ↑CH H a S) (h3:∀q H',HG H H'->O1 H' q S.kp->Q (-q) H')
inductive NF (vs:Β) (H:Hp) (Q:VK) (_3:XK):Prop
 |mk (a:Ha) (S:Hs) (nm:Str) (i:Nat) (y:Dh) (h1:vs=[-a.ma,.str nm]) (h2:HJ K CB CD ↑CH H a S) (h3:qX S.dn nm=↑i) (h4:S.ds[i]? =↑y) (h5:∀q H',HG H H'->H' q=↑(.tup (y.op.map λn:Nat=>V.int (n:Int)))->Q (-q) H')
end
theorem un(h:HI H a o z=none):H z=none/\z≠a:=by
 have n:z≠a:=λe=>by rw[e,qb]at h;cases h
 exact#[by rwa [qk n]at h,n]
section
variable{K:ι}{CB CD:Δ}{k:Κ}{H H3:Hp}{a:Ha}{S:Hs}{da:Da}{ol:Δ}{y:Dh}
theorem HJ.dne(h:HJ K CB CD k H a S):a.dd≠a.od:=λe=>by
 let#[w,c]:=h.at_.ow
 have:=c.dd;rw[e,c.od]at this;cases this
theorem HJ.dlen(h:HJ K CB CD k H a S):a.ds.length=S.ds.length:=by
 have:=JK List.length h.at_.dn
 unfold Hs.dn at this
 rwa [Jb,Jb]at this
theorem HJ.blen(h:HJ K CB CD k H a S):a.bs.length=S.bs.length:=by
 have:=JK List.length h.at_.bn
 unfold Hs.bn at this
 rwa [Jb,Jb]at this
theorem HJ.putD(h:HJ K CB CD k H a S)(i:HG H H3)(d:Lc K CD H3 da y.D y.L)(fd:∀z∈dS da,H z=none)(hn:qX S.dn y.nm=none)(ho:y.op=[])(E:S.ds.length<=900000):
  ∃kvs,MO H3 a.dd (.str y.nm) (-da.p) (HI H3 a.dd (.dK kvs))/\∀ol,HI H3 a.dd (.dK kvs) ol=none->∃f,MO (HI (HI H3 a.dd (.dK kvs)) ol (.lst [])) a.od (.str y.nm) (-ol) (HI (HI (HI H3 a.dd (.dK kvs)) ol (.lst [])) a.od (.dK f))/\
   Mv (hF a) H (HI (HI (HI H3 a.dd (.dK kvs)) ol (.lst [])) a.od (.dK f))/\L7 H a {a with ds:=a.ds++[#[y.nm,da,ol]]}/\HJ K CB CD k (HI (HI (HI H3 a.dd (.dK kvs)) ol (.lst [])) a.od (.dK f)) {a with ds:=a.ds++[#[y.nm,da,ol]]} {S with ds:=S.ds++[y]}:=by
 have B:=h.dlen;have j:y.nm∉a.ds.map Lx.nm:=by rw[h.at_.dn];exact Q5 hn
 have A:=i _ _ h.at_.dd;have w:=i _ _ h.at_.od;have ne:=h.dne;refine#[_,MO.k (k:=(Sum.inr y.nm:qR)) A (by unfold zw;rw[Jb,Jn];omega),λol s=>?_]
 let#[f1,n1]:=un s;have r:H ol=none:=QZ f1 i
 have no:a.od≠ol:=λe=>by have:=h.at_.od;rw[e,r]at this;cases this
 have D:HI (HI H3 a.dd (.dK (LQ (zw Lx.nm (λx=> .ref x.a.p) a.ds) (Sum.inr y.nm) (-da.p)))) ol (.lst []) a.od=↑(.dK (zw Lx.nm (λx=> .ref x.ol) a.ds)):=by rw[qk no,qk ne.symm];exact w
 exists _,MO.k (k:=(Sum.inr y.nm:qR)) D (by unfold zw;rw[Jb,Jn];omega)
 rw[mI a.ds j,mI a.ds j];have m:Mv [a.dd,a.od] H3 (HI (HI (HI H3 a.dd (.dK (zw Lx.nm (λx=>V.ref x.a.p) a.ds++[(Sum.inr y.nm,-da.p)]))) ol (.lst [])) a.od (.dK (zw Lx.nm (λx=>V.ref x.ol) a.ds++[(Sum.inr y.nm,-ol)]))):=λc o v e=>by
  simp only[Jh,Jr,Js,not_or]at v;rw[qk v.2,qk (qu e f1),qk v.1];exact e
 have nt:NT [a.dd,a.od] H3:=λz g=>by
  simp only[Jh,Jr,Js]at g;rcases g with rfl|rfl
  .exact#[_,A,trivial]
  .exact#[_,w,trivial]
 have p:∀z∈dS da,z∉[a.dd,a.od]:=λz g q=>by
  simp only[Jh,Jr,Js]at q
  have:=fd z g
  rcases q with rfl|rfl
  .rw[h.at_.dd]at this;cases this
  .rw[h.at_.od]at this;cases this
 have C:=d.mv m nt (p _ (gf _)) (p _ (fL _)) (p _ (gB _)) (p _ (cf _));have t:ol∉dS da:=λq=>by
  let#[o,e,_]:=d.nt ol q;rw[f1]at e;cases e
 exists (i.mv.trans m).mono λc n q=>?_,λz g=>?_
 .simp only[Jh,Jr,Js]at q
  rcases q with rfl|rfl
  .exact n b8
  .exact n oA
 .rcases Lf.mp g with q|⟨u,l,q⟩|q
  .exact .inl (Lf.mpr (.inl q))
  .rcases Jw.mp l with l|l
   .exact .inl (Lf.mpr (.inr (.inl #[u,l,q])))
   .rw[Jg.mp l]at q
    rcases q with rfl|q
    .exact .inr r
    .exact .inr (fd z q)
  .exact .inl (Lf.mpr (.inr (.inr q)))
 .refine h.addD (x:=#[y.nm,da,ol]) (i.mv.trans m) ?_ ?_ C ?_ fd r t Z
  .rw[qk ne,qk n1.symm,qb,lQ]
  .rw[qb,lQ]
  .show _=↑(HO.lst (y.op.map λn:Nat=>V.int (n:Int)))
   rw[ho,qk no.symm,qb];rfl
theorem HJ.putB(h:HJ K CB CD k H a S)(e:HG H H3)(b:M3 K CB H3 #[B.nm,p,ce] B)(f1:H p=none)(f2:H ce=none)(hn:qX S.bn B.nm=none)(r:S.bs.length<=900000):
  ∃kvs,MO H3 a.bd (.str B.nm) (-p) (HI H3 a.bd (.dK kvs))/\Mv (hF a) H (HI H3 a.bd (.dK kvs))/\L7 H a {a with bs:=a.bs++[#[B.nm,p,ce]]}/\HJ K CB CD k (HI H3 a.bd (.dK kvs)) {a with bs:=a.bs++[#[B.nm,p,ce]]} {S with bs:=S.bs++[B]}:=by
 have i:=h.blen;have f:B.nm∉a.bs.map Mw.nm:=by rw[h.at_.bn];exact Q5 hn
 have g:=e _ _ h.at_.bd;exists _,MO.k (k:=(Sum.inr B.nm:qR)) g (by unfold zw;rw[Jb,Jn];omega)
 rw[mI a.bs f];have m:Mv [a.bd] H3 (HI H3 a.bd (.dK (zw Mw.nm (λx=>V.ref x.p) a.bs++[(Sum.inr B.nm,-p)]))):=Mv.upd1
 have nt:NT [a.bd] H3:=NT.one g trivial
 have o:p∉[a.bd]:=λq=>by rw[Jg.mp q,h.at_.bd]at f1;cases f1
 have j:ce∉[a.bd]:=λq=>by rw[Jg.mp q,h.at_.bd]at f2;cases f2
 exists (e.mv.trans m).mono λc n q=>n (Jg.mp q▸lv),λz l=>?_
 .rcases Lf.mp l with q|q|⟨u,d,q⟩
  .exact .inl (Lf.mpr (.inl q))
  .exact .inl (Lf.mpr (.inr (.inl q)))
  .rcases Jw.mp d with d|d
   .exact .inl (Lf.mpr (.inr (.inr #[u,d,q])))
   .rw[Jg.mp d]at q
    rcases q with rfl|rfl
    .exact .inr f1
    .exact .inr f2
 .refine h.addB (xb:=#[B.nm,p,ce]) (e.mv.trans m) ?_ (b.mv m nt o j) f1 f2 Z
  rw[qb,lQ]
end
section
variable{b:Str}{i j:Nat}{n:Nat}
theorem e8(h:qX S.dn d=none):fj S d f= .ref .unknown:=by unfold fj;rw[h]
theorem cE(h:qX S.bn b=none):bE S b f= .ref .unknown:=by unfold bE;rw[h]
theorem fm(h:qX S.dn d=↑i)(a:S.ds[i]? =↑y):fj S d f=f i y:=by unfold fj;rw[h];simp only[a]
theorem fF(h:qX S.bn b=↑j)(a:S.bs[j]? =↑B):bE S b f=f j B:=by unfold bE;rw[h];simp only[a]
noncomputable def fG(S:Hs)(i j:Nat)(y:Dh)(B:Bt):Ls:=if y.D.kn.lookup B.nm≠none then .ref .known
  else if y.D.most<=(y.D.kn.length:Int)then .ref .full
  else if 4094<B.cnt then .ref .worn
  else if B.age<S.least then .ref (.badp 0)
  else .ok ((zd (zd S j B 0) j B.pr 0).setD i (kQ y (zb B 0) (zb B.pr 0) B.nm B.age (B.cnt+1))) .non
theorem nL(hi:qX S.dn d=↑i)(c:S.ds[i]? =↑y)(e:qX S.bn b=↑j)(a:S.bs[j]? =↑B):Qb S (.teach d b)=fG S i j y B:=by
 show fj S d _=_
 rw[fm hi c,fF e a]
 show iL S i j=_
 unfold iL fG;rw[c,a]
theorem cj(ok:HZ n S)(g:y∈S.ds)(a:L6 S B)(f:S.least<=B.age)(hc:B.cnt<4096)(c:ZJ dd):ii y.D (zb B dd)=↑(B.cnt,dd):=by
 have e:=ok.dr y g;unfold ii zb;simp only
 have d:ZW y.D B.age=true:=by
  unfold ZW;rw[JX]
  exact#[Je (by rw[e.l];exact f),Je (by rw[e.k];exact a.a1)]
 rw[Jd d];have hk:aI y.D B.age=B.ks:=by unfold aI;rw[e.k];exact a.k.symm
 rw[hk,e.t,<- a.t];exact ww (by rw[a.t];exact ok.tp) a.ok.c0 hc c
end
noncomputable def a6(f:Dh->Dh):Nat->List Dh->List Dh
 |0,l=>l
 |_+1,[]=>[]
 |i+1,y::l=>f y::a6 f i l
section
variable{f:Dh->Dh}
theorem pX:∀{l:List Dh} {i:Nat} {y:Dh},l[i]? =↑y->(a6 f i l)[i]? =↑y
 | [],i,y,h=>by cases h
 |z::l,0,y,h=>h
 |z::l,i+1,y,h=>pX (l:=l) (i:=i) h
theorem oJ:∀{l:List Dh} {i:Nat} {y:Dh},l[i]? =↑y->(a6 f i l).set i (f y)=a6 f (i+1) l
 | [],i,y,h=>by cases h
 |z::l,0,y,h=>by
  have h:z=y:=JF h
  rw[h];rfl
 |z::l,i+1,y,h=>by
  show f z::(a6 f i l).set i (f y)=f z::a6 f (i+1) l
  rw[oJ (l:=l) (i:=i) h]
theorem rb:∀(l:List Dh),a6 f l.length l=l.map f
 | []=>rfl
 |z::l=>by show f z::a6 f l.length l=f z::l.map f;rw[rb l]
end
section
variable{K:ι}{CB CD C:Δ}{k:Κ}{H H':Hp}{a:Ha}{S:Hs}{i:Nat}{x:Lx}{y:Dh}{o:Obj}{kvs:List (qR×V)}{D':Dr}{L':Τ}
theorem HJ.frzD(h:HJ K CB CD k (HI H a.dd (.dK kvs)) a S)(hi:a.ds[i]? =↑x)(l:S.ds[i]? =↑y):Lc K CD H x.a y.D y.L:=by
 let#[w,f]:=h.at_.ow;have m:Mv [a.dd] (HI H a.dd (.dK kvs)) H:=λc o j e=>by rw[qk (λz=>j (Jg.mpr z))]at e;exact e
 have d:∀z∈dS x.a,z∉[a.dd]:=λz g q=>by have:=f.dr i x hi z g;rw[Jg.mp q,f.dd]at this;cases this
 exact(h.at_.de i x y hi l).1.mv m (NT.one qb trivial) (d _ (gf _)) (d _ (fL _)) (d _ (gB _)) (d _ (cf _))
theorem HJ.frzS(h:HJ K CB CD k (HI H a.dd (.dK kvs)) a S)(l:H a.dd=↑(.frz o (.dK kvs)))(hi:a.ds[i]? =↑x)(r:S.ds[i]? =↑y)(m:Mv (dS x.a) H H')(d:Lc K CD H' x.a D' L'):
  HJ K CB CD k (HI H' a.dd (.dK kvs)) a (S.setD i {y with D:=D',L:=L'})/\H' a.dd=↑(.frz o (.dK kvs)):=by
 let#[w,j]:=h.at_.ow;have g:∀z∈dS x.a,z∉[a.dd]:=λz n q=>by have:=j.dr i x hi z n;rw[Jg.mp q,j.dd]at this;cases this
 have f:=m _ _ (λq=>g _ q (Jg.mpr Z)) l
 refine#[h.door hi r (λc o p e=>?_) (d.mv (Mv.upd1 (a:=a.dd) (o:= .dK kvs)) (NT.one f trivial) (g _ (gf _)) (g _ (fL _)) (g _ (gB _)) (g _ (cf _))),f]
 by_cases z:c=a.dd
 .rw[z,qb]at e⊢;exact e
 .rw[qk z]at e⊢;exact m c o p e
theorem AI{a:qR×V}(h:(zw Lx.nm f l)[i]? =↑a):∃x,l[i]? =↑x/\a=(Sum.inr x.nm,f x):=by
 unfold zw at h;rw[Jp]at h;let#[x,c,e]:=JY.mp h
 exact#[x,c,e.symm]
theorem N6.mv{Z:Η}(h:N6 H z ks)(m:Mv Z H H')(nt:NT Z H)(n:z∉Z):N6 H' z ks:=h.elim (λe=> .inl (m _ _ n e)) λe=> .inr (m.rd nt e)
theorem HJ.leastI(h:HJ K CB CD ↑C H a S)(U:MK K C)(l:Int):∃H',bR K H a.ma "least_age" (.int l) H'/\Mv [a.ma] H H'/\HJ K CB CD ↑C H' a {S with least:=l}:=by
 let#[dx,e]:=h.mn;exists _,#[C,dx,_,e,U.cl,U.n_least_age,by show 7<1000;decide,Z],Mv.upd1
 rw[i5 2 Z (show((uY a S.least).map (·.1)).Nodup from p6)]
 exact#[#[dx,qb],h.at_.man trivial]
theorem aj{fs:List (Str×V)}(a:List (Str×V))(c:N5 K C)(e:H p=↑(.ins C dx fs))(n:HU K C f)(i:Nat)(d:fs.map (·.1)=Pu.take i:=by rfl)(hn:f∉Pu.take i:=by decide +kernel)(g:fs++[(f,v)]=a:=by rfl):
  bR K H p f v (HI H p (.ins C dx a)):=#[C,dx,fs,e,c,n,by
  have h1:fs.length=(Pu.take i).length:=by rw[<- d,Jb]
  have h:(Pu.take i).length<=7:=by rw[Fv];exact Ig _ _
  omega,by rw[fO (by rw[d];exact hn),g]]
theorem EA(m:Mv [p] H H')(h:H' z=none)(n:z≠p):H z=none:=by
 cases e:H z with
 |none=>rfl
 |some o=>rw[m z o (zv n) e]at h;cases h
theorem HJ.new(G:NX k H #[p,ta,hk,dd,bd,od,c,[],[]] 0)(tb:HQ K H ta (t.map V.int))(q:H hk=↑(.lst [-kt]))(E:Rd H kt (.tup (ks.map V.int)))(u:H dd=↑(.dK []))(w:H bd=↑(.dK []))(C:H c=↑(.lst []))(D:H od=↑(.dK []))(r:∃o,H p=↑o/\i7 o)(e:[p,hk,dd,bd,c,od].Nodup):HJ K CB CD k H #[p,ta,hk,dd,bd,od,c,[],[]] (kL t ks):=by
 exists G,tb,#[[kt],q,Z,λi a k h1 d=>?_],u,w,D,#[[],C,Z,λi a P h=>by cases h],12,λi x y h=>by(cases h),λi x y h=>by(cases h),r,λz=>if z=p then .ma else if z=hk then .hk else if z=dd then .dd else if z=bd then .bd else if z=c then .kl else .od
 .match i,h1,d with
  |0,h1,d=>cases h1;cases d;exact .inl E
  |i+1,h1,d=>cases h1
 .simp only[J6,Jh,Jr,Js,not_or,GW,and_true]at e
  let#[#[v,s,n,B,L],#[F,J,l,A],#[I,j,m],#[f,g],f1,_]:=e;refine#[Jd Z,?_,?_,?_,?_,?_,λi x h=>by(cases h),λi x h=>by(cases h),λi x h=>by(cases h),λi x h=>by(cases h)]<;>simp only
  .rw[Jc (Ne.symm v),Jd trivial]
  .rw[Jc (Ne.symm s),Jc (Ne.symm F),Jd trivial]
  .rw[Jc (Ne.symm n),Jc (Ne.symm J),Jc (Ne.symm I),Jd trivial]
  .rw[Jc (Ne.symm L),Jc (Ne.symm A),Jc (Ne.symm m),Jc (Ne.symm g),Jc (Ne.symm f1)]
  .rw[Jc (Ne.symm B),Jc (Ne.symm l),Jc (Ne.symm j),Jc (Ne.symm f),Jd trivial]
end
noncomputable def sZ:Rf->Str
 | .known=>"Known"
 | .full=>"Full"
 | .worn=>"Worn"
 | .unknown=>"Unknown"
 | .toomany=>"TooMany"
 | .badp _=>"BadPress"
noncomputable def AQ:Rf->V
 | .badp n=> .int n
 |_=> .non
noncomputable def Pf(H:Hp)(q:Δ):Ls->Prop
 | .ref r=>H q=↑(.tup [.str "refused",.str (sZ r),AQ r])
 | .ok _ o=>∃v,H q=↑(.tup [.str "told",v])/\Mz H v o
noncomputable def eN(S:Hs):Ls->Hs
 | .ref _=>S
 | .ok S' _=>S'
noncomputable def EJ(H:Hp)(l:Δ):Hd->Prop
 | .addD nm near far most=>H l=↑(.tup [.str "add_door",.str nm,.int near,.int far,.int most])
 | .addB nm step=>H l=↑(.tup [.str "add_button",.str nm,.int step])
 | .teach d b=>H l=↑(.tup [.str "teach",.str d,.str b])
 | .press b deed ds=>∃p,H l=↑(.tup [.str "press_button",.str b,.int deed,-p])/\Sq [] H p (ds.map V.str)
 | .play k d=>H l=↑(.tup [.str "play_kept",.int k,.str d])
 | .lose b=>H l=↑(.tup [.str "lose_cell",.str b])
 | .tear b=>H l=↑(.tup [.str "tear_cell",.str b])
 | .turnH ks=>∃p,H l=↑(.tup [.str "turn_house",-p])/\H p=↑(.tup (ks.map V.int))
 | .turnB b=>H l=↑(.tup [.str "turn_button",.str b])
 | .close age=>H l=↑(.tup [.str "close_ages",.int age])
 | .forget d b=>H l=↑(.tup [.str "forget_at",.str d,.str b])
section
variable(K:ι)(CB CD:Δ)
def Mm(H:Hp)(a:Ha)(S:Hs)(r:Ls)(Q:VK):Prop:=∀q a' H',Mv (hF a) H H'->L7 H a a'->a'.ma=a.ma->HJ K CB CD none H' a' (eN S r)->Pf H' q r->Q (-q) H'
inductive OO (vs:Β) (H:Hp) (Q:VK) (_3:XK):Prop
 |mk (t k:Δ) (tt ks:Ε) (h1:vs=[-t,-k]) (h2:HQ K H t (tt.map V.int)) (h3:Rd H k (.tup (ks.map V.int))) (h4:∀a H',HG H H'->(∀z∈hF a,H z=none)->HJ K CB CD none H' a (kL tt ks)->Q (-a.ma) H')
inductive Lj (vs:Β) (H:Hp) (Q:VK) (_3:XK):Prop
 |mk (w:Str) (v:V) (h1:vs=[.str w,v]) (h2:∀q,H q=none->Q (-q) (HI H q (.tup [.str "refused",.str w,v])))
inductive NG (vs:Β) (H:Hp) (Q:VK) (_3:XK):Prop
 |mk (a:Ha) (S:Hs) (n:Nat) (word nm:Str) (p:Δ) (d:Hd) (h1:vs=[-a.ma,.str word,.str nm,-p]) (h2:HJ K CB CD none H a S) (h3:HZ n S) (h4:n<=900000) (h5:((word="add_door"/\∃near far most,d= .addD nm near far most/\H p=↑(.tup [.int near,.int far,.int most]))\/(word="add_button"/\∃step,d= .addB nm step/\H p=↑(.tup [.int step])))) (h6:Mm K CB CD H a S (Qb S d) Q)
inductive Nk (vs:Β) (H:Hp) (Q:VK) (_3:XK):Prop
 |mk (a:Ha) (S:Hs) (n i j:Nat) (z:Lx) (y:Dh) (u:Mw) (B:Bt) (h1:vs=[-a.ma,-z.a.p,-u.p]) (h2:HJ K CB CD none H a S) (h3:HZ n S) (h4:n<=900000) (h5:a.ds[i]? =↑z) (h6:S.ds[i]? =↑y) (h7:a.bs[j]? =↑u) (h8:S.bs[j]? =↑B) (h9:Mm K CB CD H a S (fG S i j y B) Q)
inductive NH (vs:Β) (H:Hp) (Q:VK) (_3:XK):Prop
 |mk (a:Ha) (S:Hs) (n:Nat) (word:Str) (v:V) (d:Hd) (h1:vs=[-a.ma,.str word,v]) (h2:HJ K CB CD none H a S) (h3:HZ n S) (h4:n<=900000) (h5:((word="turn_house"/\∃p ks,v= .ref p/\d= .turnH ks/\H p=↑(.tup (ks.map V.int))/\ks.length<=8)\/(word="close_ages"/\∃age,v= .int age/\d= .close age))) (h6:Mm K CB CD H a S (Qb S d) Q)
end
section
variable{K:ι}{CB CD:Δ}{k:Κ}{H:Hp}{a:Ha}{S:Hs}{l:Int}
theorem HJ.leastD(h:HJ K CB CD none H a S)(l:Int):MO H a.ma (.str "shut") (.int l) (HI H a.ma (.dK (Zs a l)))/\HJ K CB CD none (HI H a.ma (.dK (Zs a l))) a {S with least:=l}:=by
 have e:H a.ma=↑(.dK (Zs a S.least)):=h.mn
 refine⟨?_,qb,h.at_.man trivial⟩
 have p:=MO.k (k:=(Sum.inr "shut":qR)) (v:= .int l) e (by show 7<ζ;decide)
 rw[yf 2 Z (show((Zs a S.least).map (·.1)).Nodup from lm)]at p
 exact p
theorem uP(e:H a.ma=↑(.dK (Zs a l)))(i:Nat)(h:(Zs a l)[i]? =↑(q,v)):Lg H a.ma (kV q) ↑v:=by
 have:=Lg.k (k:=q) e
 rw[lS i h (show((Zs a l).map (·.1)).Nodup from lm)]at this
 exact this
theorem v9{x:V}(h:xs[xs.length-1]? =↑x):Q3 xs (-1)=↑x:=by
 rcases List.eq_nil_or_concat xs with rfl|⟨ys,y,rfl⟩
 .cases h
 .rw[List.concat_eq_append]at h⊢
  have:y=x:=by simpa using h
  rw[<- this];exact BP.1
theorem Cc{α:Type}(l:List α)(x y:α):(l++[x]).set l.length y=l++[y]:=by simp
theorem HJ.mne(h:HJ K CB CD k H a S):a.ma≠a.dd:=λe=>by
 let#[w,c]:=h.at_.ow
 have:=c.ma;rw[e,c.dd]at this;cases this
theorem HJ.lastD(h:HJ K CB CD k H {a with ds:=a.ds++[#[nm,da,ol]]} {S with ds:=S.ds++[y]})(hn:qX S.dn nm=none)(f:a.ds.length=S.ds.length)(d:a.ds.map (·.nm)=S.dn):Lg H a.dd (.str nm) ↑(-da.p)/\(a.ds++[#[nm,da,ol]])[S.ds.length]? =↑(#[nm,da,ol]:Lx)/\(S.ds++[y])[S.ds.length]? =↑y:=by
 have l:(a.ds++[(#[nm,da,ol]:Lx)])[S.ds.length]? =some #[nm,da,ol]:=by rw[<- f];simp
 refine#[?_,l,by simp]
 rcases h.at_.gdd nm with⟨e,g⟩|⟨i,x,y',e,c,_,ex,_,g⟩
 .have e:qX ((S.ds++[y]).map (·.nm)) nm=none:=e
  have j:y.nm=nm:=by
   have:=h.at_.dn
   have this:(a.ds++[(#[nm,da,ol]:Lx)]).map (·.nm)=(S.ds++[y]).map (·.nm):=this
   rw[JG,JG]at this
   have:=List.append_inj_right this (by rw[Jb,Jb,f])
   injection this with this
   exact this.symm
  exact absurd (JA.mpr #[y,Jw.mpr (.inr (Jg.mpr Z)),j]) (Q5 e)
 .rcases aX c with c|⟨_,rfl⟩
  .have:nm∈S.dn:=by rw[<- d];exact JA.mpr #[x,Jo c,ex]
   exact absurd this (Q5 hn)
  .exact g
end
theorem Cm{x:V}(a:2<=xs.length)(h:xs[xs.length-2]? =↑x):Q3 xs (-2)=↑x:=by
 have e:bM xs.length (-2)=↑(xs.length-2):=by
  unfold bM;rw[Jc ⋯,Jd (by lia)]
  congr 1
  lia
 unfold Q3;rw[e];exact h
section
variable{K:ι}{CB CD:Δ}{k:Κ}{H H1:Hp}{a:Ha}{S:Hs}{j:Nat}{u:Mw}{B:Bt}{pr:Δ}{d:Int}
theorem HJ.keepL(h:HJ K CB CD k H a S)(q:a.bs[j]? =↑u)(s:S.bs[j]? =↑B)(p:Mv [u.p,u.ce] H H1)(r:M3 K CB H1 u B.pr)(t:Mc H1 pr (zb B d)):
  ∃c:Η,H1 a.kl=↑(.lst (c.map V.ref))/\c.length=S.kp.length/\HJ K CB CD k (HI H1 a.kl (.lst (c.map V.ref++[-pr]))) a (zd S j B d)/\Mv (hF a) H (HI H1 a.kl (.lst (c.map V.ref++[-pr]))):=by
 have h1:=h.btn q s p r (Z2 B);let#[c,f,e,l]:=id h1.at_.kl;have e:c.length=S.kp.length:=e
 have m:Mv [a.kl] H1 (HI H1 a.kl (.lst (c.map V.ref++[-pr]))):=Mv.upd1
 have g:NT [a.kl] H1:=NT.one f trivial
 have v:Pe (HI H1 a.kl (.lst (c.map V.ref++[-pr]))) a.kl (S.kp++[zb B d]):=by
  refine#[c++[pr],by rw[qb,JG];rfl,by rw[Jq,Jq,e];rfl,λi u P o n=>?_]
  rcases bh e o n with⟨o,n⟩|⟨rfl,rfl⟩
  .exact Ln.mv m g (l i u P o n)
  .exact Ln.mv m g t
 exact#[c,f,e,h1.kpt v,(oB q p).trans (br kY m)]
end
theorem bZ{K:ι}{k:Κ}{g:TG}{tb:TS}{D:Lr}{σ0:L2.St}(s:HJ K CB CD k H1 a S)(f:Dh->Dh)(O:∀y,f y={y with D:=(f y).D,L:=(f y).L})(j:L2.St->Prop)(F:j σ0)(e:Hp->Prop)(w:e (HI H1 a.dd (.frz o (.dK (zw Lx.nm (λx=> .ref x.a.p) a.ds)))))(hs:∀(i:Nat) (z:Lx) (y:Dh) (σ:L2.St) (Hx:Hp),a.ds[i]? =↑z->S.ds[i]? =↑y->j σ->e Hx->Lc K CD Hx z.a y.D y.L->∀N:L2.St->Hp->Prop,(∀d H',j d->e H'->Mv (dS z.a) Hx H'->Lc K CD H' z.a (f y).D (f y).L->N d H')->g (-z.a.p) σ Hx λl v=>tb {D with nx:=N,ct:=N,bk:=D.nx} l v)(I:∀σ Hx,j σ->e Hx->Hx a.dd=↑(.frz o (.dK (zw Lx.nm (λx=> .ref x.a.p) a.ds)))->Mv (hF a) H1 (HI Hx a.dd (.dK (zw Lx.nm (λx=> .ref x.a.p) a.ds)))->HJ K CB CD k (HI Hx a.dd (.dK (zw Lx.nm (λx=> .ref x.a.p) a.ds))) a {S with ds:=S.ds.map f}->D.nx σ Hx):
  ∃W:Nat->Nat->L2.St->Hp->Prop,(∃m,W 0 m σ0 (HI H1 a.dd (.frz o (.dK (zw Lx.nm (λx=> .ref x.a.p) a.ds)))))/\∀i m σ H,W i m σ H->
   ((mW a.dd o (zw Lx.nm (λx=> .ref x.a.p) a.ds)).stop i H/\D.nx σ H)\/((mW a.dd o (zw Lx.nm (λx=> .ref x.a.p) a.ds)).go i H/\∃N:L2.St->Hp->Prop,(∀d H',N d H'->∃m',m'<m/\W (i+1) m' d H')/\∀x H',(mW a.dd o (zw Lx.nm (λx=> .ref x.a.p) a.ds)).yld i H x H'->g x σ H' λl v=>tb {D with nx:=N,ct:=N,bk:=D.nx} l v):=by
 have M:=s.at_.dd;have G:HI (HI H1 a.dd (.frz o (.dK (zw Lx.nm (λx=> .ref x.a.p) a.ds)))) a.dd (.dK (zw Lx.nm (λx=> .ref x.a.p) a.ds))=H1:=by
  funext c
  by_cases z:c=a.dd
  .rw[z,qb,M]
  .rw[qk z,qk z]
 refine yz (Pv:=λi σ Hx=>j σ/\e Hx/\Mv (hF a) H1 Hx/\Hx a.dd=↑(.frz o (.dK (zw Lx.nm (λx=> .ref x.a.p) a.ds)))/\HJ K CB CD k (HI Hx a.dd (.dK (zw Lx.nm (λx=> .ref x.a.p) a.ds))) a {S with ds:=a6 f i S.ds}) #[F,w,br b8 Mv.upd1,qb,by rw[G];exact s] (λi σ Hx h=>h.2.2.2.1) ?_ ?_
 .rintro i U σ Hx A ⟨B,n,t,ex,p⟩
  let#[z,q,rfl]:=AI A;have u:i<S.ds.length:=by rw[<- s.dlen];exact(Jt.mp q).1
  have C:=Jk u;have r:(a6 f i S.ds)[i]? =some S.ds[i]:=pX C
  refine hs i z _ σ Hx q C B n (p.frzD q r) _ λd H' E Q m' P=>?_
  let#[J,R]:=p.frzS ex q r m' P;exists E,Q,t.trans (ci q m'),R
  have T:({S with ds:=a6 f i S.ds}:Hs).setD i (f S.ds[i])={S with ds:=a6 f (i+1) S.ds}:=by
   show({S with ds:=(a6 f i S.ds).set i (f S.ds[i])}:Hs)=_
   rw[oJ C]
  rw[<- T,O S.ds[i]];exact J
 .rintro σ Hx ⟨B,n,t,ex,p⟩
  rw[show(zw Lx.nm (λx=>V.ref x.a.p) a.ds).length=S.ds.length by unfold zw;rw[Jb,s.dlen],rb]at p
  exact I σ Hx B n ex (t.trans (br b8 Mv.upd1)) p
theorem kH{K:ι}(o:Ot H q c j)(hs:∀nm∈c,nm∈j.map (·.1))(B:c.length<=60)(d:∀(Hx:Hp) (a:Δ) (nm:Str) (xs:Β) (m:VK),Hx a=↑(.tup (.str nm::xs))->m (.str nm) Hx->te (↑(-a)::aQ js σ) Hx m)(z:∀l H',HG H H'->H' l=↑(.lst (c.map V.str))->Q (-l) H'):(∃xs,HQ K H q xs)/\bA (gZ K q) js te σ H Q:=by
 let#[x,e,l,r]:=o;refine#[#[_,HQ.of e],gu (K:=K) (xs:=x.map V.ref) (by rw[Jb,l,Jn];lia) (λi ys Hx=>Hx=H/\ys=(c.take i).map V.str) #[12] (λi ys Hx s=>by rw[s.1];exact HQ.of e) ?_ ?_]
 .rintro i ys Hx v g f ⟨rfl,rfl⟩
  rw[Jp]at g;let#[b,n,rfl]:=JY.mp g;have hi:i<c.length:=by rw[<- l];exact(Jt.mp n).1
  have h:=Jk hi;let#[u,w]:=Zd (hs _ (FL hi))
  let#[A,t,_]:=r i b _ u n h w;refine d _ _ _ _ _ t #[Z,?_]
  rw[FC,h,JG];rfl
 .rintro ys Hx f ⟨rfl,rfl⟩ p y
  refine z p _ (HG.upd y) ?_
  rw[qb,Jb,l,IL (Jf _)]
section
variable{K:ι}{CB CD:Δ}{k:Κ}{x:Xa}{H H1:Hp}{a:Ha}{S:Hs}{r:Ls}{d:Hd}{Q:VK}{E:XK}
theorem L7.same{a':Ha}(g:L7 H1 a a')(s:HG H H1):L7 H a a':=λz c=>(g z c).elim .inl λq=> .inr (QZ q s)
theorem Mm.same(h:Mm K CB CD H a S r Q)(s:HG H H1):Mm K CB CD H1 a S r Q:=λq a' H' m g e c d=>h q a' H' (s.mv.trans m) (g.same s) e c d
theorem HX.same{C:Δ}(h:HX E H C)(s:HG H H1):HX E H1 C:=λH' e s' a=>h H' e (s.trans s') a
theorem M5.same{r:Rf}(h:M5 x E H r)(s:HG H H1):M5 x E H1 r:=by
 cases r with
 |badp n=>exactλH' e d s' c a=>h H' e d (s.trans s') c a
 |_=>exact HX.same h s
theorem Ou.same(h:Ou K CB CD k x H a S d Q E)(s:HG H H1):Ou K CB CD k x H1 a S d Q E:=#[λr e=>(h.1 r e).same s,λS' o e v a' H' m g f c i=>h.2 S' o e v a' H' (s.mv.trans m) (g.same s) f c i]
theorem Mz.same(h:Mz H v o)(s:HG H H1):Mz H1 v o:=by
 cases o with
 |non=>exact h
 |num k as=>let#[q,t,xs,e,a,d,l,r]:=h;exact#[q,t,xs,e,s _ _ a,s _ _ d,l,λi x l h1 c=>s _ _ (r i x l h1 c)]
 |ans as=>let#[q,e,a]:=h;exact#[q,e,s _ _ a]
end
theorem uc{X:Cx}:Qh X (.builtin "isinstance") (λxs H Q=>∃(a C f:Δ) (dd:Κ) (j:Η) (b:Bool),xs=[-a,-f]/\H a=↑(MF a (-C) dd)/\Nx X.K C/\H f=↑(.tup (j.map V.ref))/\W.kitAny X.K (-C) (j.map Γ.ref)=↑b/\Q (.bl b) H):=by
 intro tx s σ H xs D Q I r h;let#[a,C,f,dd,j,b,rfl,y,m,A,hk,q]:=h;let#[u,v,rfl,p,t]:=db r;cases p
 cases(show v=Γ.ref f from t)
 let#[#[o,B,e,l,_],_]:=I.hok a _ y;let#[i,g,#[#[cl,dd,w,E],x,c,n,d],_]:=I.tuple (HQ.of A)
 replace c:cl= .type "tuple":=c
 replace d:w= .seq i.toArray n:=d
 subst c d;rw[<- vf g]at hk;exact F4 (pT m) I.kIn #[o,e,l] x hk (λz=>nomatch z) λtk=>#[.bl _,H,I.tok tk,Z,q]
noncomputable def Xa.six(x:Xa):Η:=[x.k,x.f,x.w,x.u,x.t,x.b]
noncomputable def Nl:Α:=["Known","Full","Worn","Unknown","TooMany","BadPress"]
structure MR(x:Xa)(C:Δ)(wd:Str)(j:Nat):Prop where
 l:x.six.map (λD=>decide (C=D))=(List.range 6).map λm=>decide (m=j)
 j6:j<6
 w:Nl[j]? =↑wd
 n:C∉[x.l,x.r]
theorem vI{x:Xa}(c:x.all.Nodup):x.six.Nodup/\∀C∈x.six,C∉[x.l,x.r]:=by
 simp only[Xa.all,J6,Jh,Jr,Js,not_or,GW,and_true]at c;let#[#[w,B,f,o,p,t,d],#[k1,k2,k3,g,k5,m],#[f1,f2,v,n,r],#[e,u,j,A],#[i,l,z],#[y,s],D,_]:=c;constructor
 .simp only[Xa.six,J6,Jh,Jr,Js,not_or,GW,and_true]
  exact#[#[k1,g,k2,k3,Ne.symm w],#[v,f1,f2,Ne.symm B],#[Ne.symm u,Ne.symm i,Ne.symm p],#[e,Ne.symm f],Ne.symm o,trivial,Ga]
 .intro C a q
  simp only[Xa.six,Jh,Jr,Js]at a q;rcases q with rfl|rfl
  .rcases a with h|h|h|h|h|h
   .exact k5 h.symm
   .exact n h.symm
   .exact y h.symm
   .exact j h.symm
   .exact l h.symm
   .exact t h.symm
  .rcases a with h|h|h|h|h|h
   .exact m h.symm
   .exact r h.symm
   .exact s h.symm
   .exact A h.symm
   .exact z h.symm
   .exact d h.symm
theorem MR.of(a:x.all.Nodup)(h:x.six[j]? =↑C)(e:j<6)(w:Nl[j]? =↑c):MR x C c j:=by
 have d:∀m:Nat,((List.range 6).map λi=>decide (i=j))[m]? =if m<6 then ↑(decide (m=j))else none:=λm=>by
  rw[Jp]
  by_cases z:m<6
  .rw[Jd z,IW z];rfl
  .rw[Jc z,Gw (by rw[List.length_range];lia)];rfl
 exact#[List.ext_getElem? λm=>by rw[Er (vI a).1 h m,d m];rfl,e,w,(vI a).2 C (Jo h)]
theorem MR.count(m:MR x C a j):(x.six.map λD=>decide (C=D)).count true=1:=by
 rw[m.l]
 have:∀j<6,((List.range 6).map λm=>decide (m=j)).count true=1:=by decide
 exact this j m.j6
theorem MR.hit(m:MR x C a j):(x.six.map λD=>decide (C=D))[j]? =↑true/\∀i,i<j->(x.six.map λD=>decide (C=D))[i]? =↑false:=by
 rw[m.l];have c:=m.j6;refine#[?_,λi hi=>?_]
 .rw[Jp,IW c];simp
 .rw[Jp,IW (by lia)]
  show ↑(decide (i=j))=↑false
  rw[Jm (by lia)]
structure Pg(K:ι)(x:Xa)(C:Δ)(wd:Str)(j:Nat):Prop where
 c:Nx K C
 i:∀D∈x.all,PySem.W.kitOne K (-C) (-D)=↑(decide (C=D))
 v:PySem.W.kitOne K (-C) (.type "ValueError")=↑true
 m:MR x C wd j
 s:tT K x.e (-C)
theorem Pg.one{K:ι}(o:Nb K x C)(m:MR x C a j):Pg K x C a j:=#[o.c,o.i,o.v,m,25,.inl o.e,by rw[GS];simp]
noncomputable def Dk(x:Xa):Rf->Δ
 | .known=>x.k
 | .full=>x.f
 | .worn=>x.w
 | .unknown=>x.u
 | .toomany=>x.t
 | .badp _=>x.b
theorem ML.cl{K:ι}(X:ML K mg x fI)(r:Rf):∃j,Pg K x (Dk x r) (sZ r) j:=by
 cases r with
 |known=>exact#[(0),Pg.one X.o_Known (MR.of X.nd Z ⋯ Z)]
 |full=>exact#[(1),Pg.one X.o_Full (MR.of X.nd Z ⋯ Z)]
 |worn=>exact#[(2),Pg.one X.o_Worn (MR.of X.nd Z ⋯ Z)]
 |unknown=>exact#[(3),Pg.one X.o_Unknown (MR.of X.nd Z ⋯ Z)]
 |toomany=>exact#[(4),Pg.one X.o_TooMany (MR.of X.nd Z ⋯ Z)]
 |badp n=>exact#[(5),X.bp.f.cl,X.bp.i,X.bp.v,MR.of X.nd Z ⋯ Z,25,.inr #[_,X.bp.f.bi],by rw[GS];simp]
inductive NI (K:ι) (x:Xa) (vs:Β) (H:Hp) (Q:VK) (_3:XK):Prop
 |mk (e C:Δ) (dd:Κ) (wd:Str) (j:Nat) (h1:vs=[-e]) (h2:H e=↑(MF e (-C) dd)) (h3:Pg K x C wd j) (h4:∀H',HG H H'->Q (.str wd) H')
noncomputable def oM(p d:Δ):HO:= .ext λh=>h.IsItemsView p d
inductive O4 (x:V) (vs:Β) (H:Hp) (Q:VK):Prop
 |mk (d:_) (kvs:_) (h1:x= .ref d) (h2:vs=[]) (h3:H d=↑(.dK kvs)) (h4:∀p,H p=none->Q (-p) (HI H p (oM p d)))
theorem yh{X:Cx}:iK X "dict.items" O4:=by
 intro tx s σ H x i v t Q I l m h;let#[d,kvs,rfl,rfl,j,q]:=h;cases l;cases m;let#[z,lo,i,p,g]:=cm I.hok j;refine PySem.call_meetsIn PySem.F.slot_dict_items g.typeIs PySem.F.entry_dict_items (PySem.F.args_dict_items_1 _) (meets_dict_items (zj X.prog X.w) d lo) ⟨⟨i,g⟩,?_⟩
 have e:(s.heap.push {cls:= .type "dict_items",data:= .fields (List.toArray [-d])}).get? s.heap.objs.size=some {cls:= .type "dict_items",data:= .fields (List.toArray [-d])}:=Ju _ Z
 have n:=I.laid (a:=s.heap.objs.size) (o:=oM s.heap.objs.size d) (t':=s.toks) (h':=s.heap.push {cls:= .type "dict_items",data:= .fields (List.toArray [-d])}) (λb u e=>Jj _ e) (Jf _) ⟨⟨_,e,Z,Z⟩,⟨_,e⟩,λh1 r ⟨o,e,c,f⟩ k=>⟨o,k o e,c,f⟩⟩
 exact⟨.ref _,_,n,Z,q _ (I.hok.fresh (Jf _))⟩
noncomputable def v7(d:Δ)(o:Obj)(kvs:List (qR×V)):It:=
 ⟨λi H=>H d=↑(.frz o (.dK kvs))/\i<kvs.length,λi H x H'=>∃p a,H p=none/\x= .ref p/\kvs[i]? =↑a/\H'=HI H p (.tup [kV a.1,a.2]),λi H=>H d=↑(.frz o (.dK kvs))/\kvs.length<=i⟩
theorem gR:entryFor table "dict_itemiterator.__iter__"=some γ.«dict_keyiterator.__iter__»:=entryFor_alias (id':="dict_keyiterator.__iter__") (by kernel_rfl) Z nofun (by kernel_rfl)
theorem lB{prog:Ξ}{w:Ω}{A:Around}{E:HD}{s:Θ}{it d:Δ}{i n ep:Nat}{ok c:Γ}{Q:HD}(hit:IsItemIter s.heap it d i n ep ok c)(h:Q (-it) s):ε (model prog w) A (pyIter (-it)) Q E s:=by
 have a:s.TypeIs (-it) "dict_itemiterator":=⟨_,hit,Z⟩
 refine wpAny_pyIter_slot a PySem.F.slot_dict_itemiterator_iter (J9 PySem.F.slot_dict_itemiterator_iter a gR ?_ (PySem.F.args_dict_itemiterator_iter_1 _))
 show ε _ _ (ret (-it)) _ _ s
 exact Ji ⟨_,Z,"dict_itemiterator",_,a,PySem.F.slot_dict_itemiterator_next.lookup,h⟩
theorem tS{P:Ξ}{w:Ω}{K:ι}{m:Ι}{x1}{pos:Pos}(d it:Δ){o:Obj}{kvs:List (qR×V)}{vs:List (qR×Γ)}{ep:Nat}(M:∀h:Ψ,h.get? d=↑o->h.DictAt (zj P w) d vs ep)(a:KV kvs vs):
  MM P w K (.Tuple m x1 pos) (v7 d o kvs) [it] it (λi h=>∃ok l,IsItemIter h it d i vs.length ep ok l) where
 mem:=by simp
 obj:=λi h st b c=>by
  have e:b=it:=by simpa using c
  subst e;let#[ok,l,st]:=st;refine#[_,st,λv z=>?_]
  have z':Data.fields _=Data.cell v:=z
  cases z'
 keep:=λi h h' st k=>let⟨ok,l,e⟩:=st;#[ok,l,k it (by simp) _ e]
 item:=by
  intro X x u C N i tx s σ H E I t st B;subst x u C;let#[A,hi]:=B;let#[ok,l,st]:=st;have j:=(I.hok d _ A).1;have L:i<vs.length:=by rw[<- a.length];exact hi
  have y:vs[i]? =↑(vs[i].1,vs[i].2):=Jk L
  have hk:kvs[i]? =some kvs[i]:=Jk hi
  have G:kvs[i].1=vs[i].1:=uT a i _ _ hk y
  have J:HN kvs[i].2 vs[i].2:=rj a i _ _ hk y
  refine wpAny_pyNext_items_item st (M _ j) y λkey h' n S O R F=>#[0,?_]
  refine wpAny_letOwnedTupleGo_items S λD f g=>?_
  have r:it<s.heap.objs.size:=Jl st
  exists .ref s.heap.objs.size,HI H s.heap.objs.size (.tup [kV kvs[i].1,kvs[i].2]),?_,Z,#[8,I.hok.fresh (Jf _),Z,hk,Z],#[8,f]
  .show L2.HL X tx σ _ {s with heap:=D,toks:=s.toks}
   refine ja (s:=s) (its:=[key,vs[i].2]) I (ch:=[it]) (λb o c q=>?_) t (λb c=>?_) (Jf _) (by show 2<=ζ;decide) (.cons (by rw[G];exact yl n) (.cons J .nil)) ?_
   .have p:b≠it:=λz=>c (by simp [z])
    exact(g.2 b p).trans (F b o p q)
   .rw[Jg.mp c];exact#[_,f]
   .exact#[_,(g.2 _ (J2 r)).trans O,7]
  .intro b c
   rw[Jg.mp c,qk (Jx r)]
   exact(t it (by simp)).1
 done:=by
  intro X x u C N i tx s σ H E I t st B;subst x u C;let#[A,hi]:=B;let#[ok,l,st]:=st;have j:=(I.hok d _ A).1;let#[Q,f1,f2,Y,T,W]:=t it (by simp)
  have hl:=a.length;exact wpAny_pyNext_items_end (I.ok.hd N) st (M _ j) (Gw (by lia)) λh' U=>#[Z,I.turned (t':=s.toks) (λb o c e=>U b o c e) Q f1 Y T W]
 self:=λ_ _ _ _ _ st h=>by
  let#[ok,l,st]:=st;exact lB st h
noncomputable def C5(tl:TE):TI:=λσ H R=>tl σ H λx H1=>∃p d kvs,x= .ref p/\H1 p=↑(oM p d)/\H1 d=↑(.dK kvs)/\∀o,R (v7 d o kvs) (HI H1 d (.frz o (.dK kvs)))
theorem oX{x1}(G:QE X l tl):QI X (.Tuple c x1 tpos) l (C5 tl):=#[by
 intro tx s σ H R I h;refine qK (G.h tx s σ H _ I h) λv a E=>?_
 let#[x,H1,n,K,F]:=E;let#[p,d,kvs,e,J,y,q]:=F;subst e;cases K;have j:a.heap.IsItemsView p d:=(n.hok p _ J).1
 let#[z,lo,A,g,o,es,D,i,t,r,w,B,C]:=cm n.hok y;have f:∀h:Ψ,h.get? d=↑o->h.DictAt (zj X.prog X.w) d A D:=λh e=>#[o,es,e,t,r,w,B,C]
 refine wpAny_pyIter_items j (f _ i) ?_
 have m:=n.write (x:=d) (e:=d) (o:= .frz o (.dK kvs)) (h':=a.heap) (t':=a.toks) (by rw[y];exact True.intro) (.inl Z) (λb u _ e=>e) #[o,i] #[i,z,lo,A,g,o,es,D,i,t,r,w,B,C]
 refine#[a.heap.objs.size,[a.heap.objs.size],19,m.kept (t':=a.toks) λb o e=>Jj _ e,tS d _ f g,#[8,Ju _ Z],λb L=>?_,q o]
 have e:b=a.heap.objs.size:=by simpa using L
 subst e;exact m.fpOk (Jf _) (m.hok.fresh (Jf _))]
noncomputable def Cj(td:TE):TE:=λσ H Q=>td σ H λx H1=>O4 x [] H1 Q
theorem nJ(ho:QE X o td)(c:attributeBase o "items" X.env (eval o X.env)=eval o X.env:=by rfl)(a:(apos.endLine==cpos.line)=true:=by rfl):QE X (.Call (.Attribute o "items" apos) [] [] cpos) (Cj td):=#[by
 intro tx s σ H Q I h;refine II c a (qK (ho.h tx s σ H _ I h) λv l j=>?_)
 let#[x,H1,e,m,f]:=j;let#[d,kvs,ex,p,g,q]:=id f;subst ex
 obtain rfl:v=Γ.ref d:=m
 let#[n,i,_]:=kP e (.inl #[kvs,.inl g])
 exact#["dict","dict.items",Iv,PySem.F.slot_dict_items,PySem.F.type_dict_items,n,i,Gk Z (IJ (yh tx l σ H1 (-d) [] (-d) [] Q e Z .nil f))]]
theorem mT{g:TG}{tb:TS}{D:Lr}(Pv:Nat->L2.St->Hp->Prop)(t:Pv 0 σ H)(l:∀i σ H,Pv i σ H->H d=↑(.frz o (.dK kvs)))(hs:∀i f p σ H,kvs[i]? =↑f->Pv i σ H->H p=none->g (-p) σ (HI H p (.tup [kV f.1,f.2])) λa j=>tb {D with nx:=Pv (i+1),ct:=Pv (i+1),bk:=D.nx} a j)(n:∀σ H,Pv kvs.length σ H->D.nx σ H):
  ∃W:Nat->Nat->L2.St->Hp->Prop,(∃m,W 0 m σ H)/\∀i m σ H,W i m σ H->
   ((v7 d o kvs).stop i H/\D.nx σ H)\/((v7 d o kvs).go i H/\∃N:L2.St->Hp->Prop,(∀c H',N c H'->∃m',m'<m/\W (i+1) m' c H')/\∀x H',(v7 d o kvs).yld i H x H'->g x σ H' λa j=>tb {D with nx:=N,ct:=N,bk:=D.nx} a j):=by
 exists λi m σ H=>m=kvs.length-i/\i<=kvs.length/\Pv i σ H,#[kvs.length,by simp,JL _,t]
 rintro i m σ H ⟨rfl,hi,p⟩
 by_cases h:i<kvs.length
 .refine .inr #[#[l i σ H p,h],Pv (i+1),λc H' q=>#[kvs.length-(i+1),by lia,Z,h,q],?_]
  rintro x H' ⟨r,f,s,rfl,e,rfl⟩
  exact hs i f r σ H e p s
 .have:i=kvs.length:=by lia
  subst this;exact .inl #[#[l _ σ H p,Jf _],n σ H p]
inductive OP (n:Nat) (vs:Β) (H:Hp) (Q:VK) (_3:XK):Prop
 |mk (c d:Δ) (xs ys:Β) (h1:vs=[-c,-d]) (h2:H c=↑(.lst xs)) (h3:H d=↑(.lst ys)) (h4:xs.length=ys.length) (h5:xs.length<=ζ) (h6:(∀(i:Nat) (x y:V),xs[i]? =↑x->ys[i]? =↑y->MX H n x y)) (h7:∀H',HG H H'->Q (.bl true) H')
theorem rg:∀{l:Α} {i:Nat} {z:Str},l.Nodup->l[i]? =↑z->qX l z=↑i
 | [],i,z,_,h=>by cases h
 |y::r,0,z,_,h=>by
  have h:y=z:=JF h
  unfold qX;rw[Jd h]
 |y::r,i+1,z,nd,h=>by
  have h:r[i]? =↑z:=h
  have a:=J6.mp nd;unfold qX;rw[Jc (λe:y=z=>a.1 (by rw[e];exact Jo h)),rg a.2 h];rfl
theorem MX.up{H:Hp}:∀{n:Nat} {x y:V},MX H n x y->MX H (n+1) x y:=λh=>by
 induction h with
 |int n i=>exact .int _ i
 |str n x=>exact .str _ x
 |non n=>exact .non _
 |tup h1 h2 hl hz _ ih=>exact .tup h1 h2 hl hz ih
theorem O1.eqv(h1:O1 H q ps)(l:O1 H d ps)(ok:∀P∈ps,Np P)(t:ps.length<=2000000):MX H 3 (-q) (-d):=by
 let#[s,o,c,p]:=h1;let#[bs,h,j,m]:=l;refine .tup (n:=2) (.inl o) (.inl h) (by simp [c,j]) (by rw[Jb,c,Jn];lia) λi x y ex e=>?_
 rw[Jp]at ex e;let#[a,f,rfl]:=JY.mp ex;let#[b,r,rfl]:=JY.mp e;have hi:i<ps.length:=by rw[<- c];exact(Jt.mp f).1
 have g:=Jk hi;exact Mc.eqv (p i a _ f g) (m i b _ r g) (ok _ (FL hi))
theorem wK{a:Μ}(h1:H q=↑(.tup (a.map λn:Nat=>V.int (n:Int))))(e:H c=↑(.tup (a.map λn:Nat=>V.int (n:Int))))(g:a.length<=2000000):MX H (n+1) (-q) (-c):=by
 refine .tup (.inl h1) (.inl e) Z (by rw[Jb,Jn];lia) λi x y ex d=>?_
 rw[ex]at d;cases d
 rw[Jp]at ex;let#[z,f,rfl]:=JY.mp ex;exact .int _ _
theorem Br{B:Bt}(h1:H q=↑(.tup [.int B.age,.int B.cnt,-c]))(h:H c=↑(.tup [oV B.x,oV B.y]))(f:H d=↑(.tup [.int B.age,.int B.cnt,-c']))(g:H c'=↑(.tup [oV B.x,oV B.y])):MX H 3 (-q) (-d):=by
 have e:∀(o:Λ),MX H 1 (oV o) (oV o):=λo=>by cases o<;>constructor
 refine .tup (n:=2) (.inl h1) (.inl f) Z (by show 3<=ζ;decide) λi x y ex a=>?_
 match i,ex,a with
 |0,ex,a=>cases ex;cases a;exact .int _ _
 |1,ex,a=>cases ex;cases a;exact .int _ _
 |2,ex,a=>
  cases ex;cases a
  refine .tup (n:=1) (.inl h) (.inl g) Z (by show 2<=ζ;decide) λi x y ex a=>?_
  match i,ex,a with
  |0,ex,a=>cases ex;cases a;exact e _
  |1,ex,a=>cases ex;cases a;exact e _
  |i+2,ex,a=>cases ex
 |i+3,ex,a=>cases ex
theorem Ej{i:Nat}(h:(zw Mw.nm f l)[i]? =↑a):∃x,l[i]? =↑x/\a=(Sum.inr x.nm,f x):=by
 unfold zw at h;rw[Jp]at h;let#[x,c,e]:=JY.mp h
 exact#[x,c,e.symm]
theorem nK{H H1 Hx:Hp}{d:Δ}{o:Obj}{kvs:List (qR×V)}(e:H d=↑(.dK kvs))(f:HG H H1)(g:HG (HI H1 d (.frz o (.dK kvs))) Hx):HG H (HI Hx d (.dK kvs)):=λc u a=>by
 by_cases z:c=d
 .rw[z,qb];rw[z,e]at a;exact a
 .rw[qk z];exact g c u (by rw[qk z];exact f c u a)
structure W2(K:ι)(CB CD C:Δ)(H:Hp)(aH aO:Ha)(S:Hs):Prop where
 hh:HJ K CB CD ↑C H aH S
 oo:HJ K CB CD none H aO S
 dj:∀z∈hF aH,z∉hF aO
theorem W2.same{K:ι}(w:W2 K CB CD C H aH aO S)(s:HG H H'):W2 K CB CD C H' aH aO S:=#[w.hh.same s,w.oo.same s,w.dj]
inductive NJ (K:ι) (CB CD C:Δ) (vs:Β) (H:Hp) (Q:VK) (_3:XK):Prop
 |mk (aH aO:Ha) (S:Hs) (n:Nat) (h1:vs=[-aH.ma,-aO.ma]) (h2:W2 K CB CD C H aH aO S) (h3:HZ n S) (h4:n<=900000) (h5:∀H',HG H H'->Q (.bl true) H')
end L3
namespace L3
open PySem PySem.Spec PyProof.Rows L2
open PySem.W (kdl_dict kdl_call)
section
theorem gD(hc:X.calm=true):Qh X (.type "list") (λxs H Q=>∃(d:Δ) (kvs:List (qR×V)) (a:Α),xs=[-d]/\H d=↑(.dK kvs)/\kvs.map (·.1)=a.map Sum.inr/\a.length<=2000/\∀l,H l=none->Q (-l) (HI H l (.lst (a.map V.str)))):=by
 intro tx s σ H xs P Q I r h;let#[d,kvs,a,rfl,O,n,R,q]:=h;let#[u,rfl,K]:=Q1 r;cases K;let#[z,lo,g,p,o,es,ep,B,D,A,E,M,N]:=cm I.hok O;have c:g.map (·.1)=a.map Sum.inr:=by rw[<- n,p.keys]
 have m:g.length=a.length:=by have:=JK List.length c;rwa [Jb,Jb]at this
 refine kdl_call (kdl_dict (knd:=zj X.prog X.w) (ep:=ep) (kvs:=g) lo) (I.ok.hd hc) (⟨o,es,B,D,A,E,M,N⟩:s.heap.DictAt (zj X.prog X.w) d g ep) (by rw[Jn];lia) λh' tk f c' hk L w=>?_
 have C:StrsAre f.toList a:=me (by rw[GB];exact w.1.trans m) λj v e=>by
  let#[k,x,F,G]:=w.2 j v (by rw[<- Array.getElem?_toList];exact e)
  have i:(g.map (·.1))[j]? =↑k:=by rw[Jp,F];rfl
  rw[c,Jp]at i;cases e4:a[j]? with
  |none=>rw[e4]at i;cases i
  |some y=>
   rw[e4]at i;have J:Sum.inr y=k:=JF i
   subst J;have t:Γ.isStrOf y v=true:=G
   cases v<;>simp [Γ.isStrOf]at t
   subst t
   exact#[4]
 refine#[-s.heap.objs.size,_,I.laid (h':=h') (t':=tk) (o:= .lst (a.map V.str)) hk (Jf _) ?_,Z,q _ (I.hok.fresh (Jf _))]
 exact#[by rw[Jb,Jn];lia,f.toList,c',c7 C,L]
theorem mY:∀{us:Ζ} {a:Α},HR (a.map V.str) us->StrsAre us a
 | [],[],_=> .nil
 | [],_::_,h=>by cases h
 |_::_,[],h=>by cases h
 |u::us,x::a,h=>by
  cases h with
  |cons r t=>let#[c,rfl]:=r;exact .cons _ _ (mY t)
theorem rQ:Qh X (.builtin "sorted") (λxs H Q=>∃(p:Δ) (d:Α),xs=[-p]/\H p=↑(.lst (d.map V.str))/\d.length<64/\
  ∀l a,H l=none->a.Perm d->sortedS a=true->Q (-l) (HI H l (.lst (a.map V.str)))):=by
 intro tx s σ H xs A Q I r h;let#[p,d,rfl,w,m,q]:=h;let#[u,rfl,t]:=Q1 r;cases t;let#[f,i,v,_]:=I.list (HP.of w)
 have y:=i.length;rw[Jb]at y;refine sorted_strs v.isList (mY i) (by lia) λc a j g x=>?_
 let#[e,n]:=sortedAll_at s.heap f c;refine#[.ref (s.heap.objs.size+1),_,I.laid (t':=s.toks) (o:= .lst (a.map V.str)) (λb o q=>sortedAll_old q) (J1 _) ?_,Z,q _ a (I.hok.fresh (J1 _)) g x]
 have z:a.length=d.length:=g.length_eq
 exact#[by rw[Jb,Jn];lia,c.toList,e,c7 j,n]
inductive Ra (K:ι) (x:V) (y:V) (H:Hp) (Q:VK):Prop
 |mk (a b:Δ) (xs:Β) (h1:x= .ref a) (h2:y= .ref b) (h3:HP K H a xs) (h4:HP K H b []) (h5:Q (.bl xs.isEmpty) H)
theorem Dl{k:Nat}(B:Lb k X.A):Qq X (compareOp .Eq) (Ra X.K):=by
 intro tx s σ H x y v u Q I m o h;let#[a,b,xs,rfl,rfl,w,C,q]:=h;cases m;cases o;have l:X.A.units+1<cLine:=by have:=B.un;lia
 let#[d,A,i,_]:=I.list w;let#[c,t,p2,_]:=I.list C;have g:=A.length;have f:=t.length;cases xs with
 |nil=>
  refine SeqAt.eq_listAt (e:=λ_=>true) i.isList p2.isList (by simp;lia) (Nat.lt_of_succ_lt l) (λj h1 n=>?_) #[.bl _,H,I,?_,q]
  .have p:j<c.length:=by simpa using n
   have:c.length=0:=by rw[<- f];rfl
   lia
  .show Γ.bool _=Γ.bool _
   congr 1
   have z:d.toArray.size=0:=by rw[JC,<- g];rfl
   rw[z];rfl
 |cons x r=>
  refine SeqAt.eq_list_lengthsAt i.isList p2.isList (by
   have D:d.length=r.length+1:=by rw[<- g];rfl
   have E:c.length=0:=by rw[<- f];rfl
   simp;lia) (Nat.lt_of_succ_lt l) #[.bl _,H,I,Z,q]
end
structure Hm(m:Nat)(S:Hs):Prop where
 ok:HZ (6*m) S
 dl:S.ds.length<=m
 bl:S.bs.length<=m
theorem Hm.mono{k:Nat}(h:Hm m S)(l:m<=k):Hm k S:=#[h.ok.mono (by lia),JI h.dl l,JI h.bl l]
section
variable{K:ι}{CB CD C:Δ}{k k':Κ}{H H':Hp}{a a' b:Ha}{S S' T:Hs}
theorem HJ.beside(f:HJ K CB CD k H a S)(e:HJ K CB CD k' H b T)(d:∀z∈hF a,z∉hF b)(m:Mv (hF a) H H')(g:L7 H a a'):HJ K CB CD k' H' b T/\∀z∈hF a',z∉hF b:=
 #[e.mv m f.at_.nt λz c q=>d z q c,λz c q=>by
  rcases g z c with g|g
  .exact d z g q
  .exact e.at_.live q g]
structure OV(H:Hp)(aH aO:Ha)(H':Hp)(aH' aO':Ha):Prop where
 m:Mv (hF aH++hF aO) H H'
 gH:∀z∈hF aH',z∈hF aH++hF aO\/H z=none
 gO:∀z∈hF aO',z∈hF aH++hF aO\/H z=none
 mH:aH'.ma=aH.ma
 mO:aO'.ma=aO.ma
theorem W2.nt{aH aO:Ha}(w:W2 K CB CD C H aH aO S):NT (hF aH++hF aO) H:=λz a=>by
 rcases Jw.mp a with h|h
 .exact w.hh.at_.nt z h
 .exact w.oo.at_.nt z h
theorem OV.free{aH aO aH' aO':Ha}(s:OV H aH aO H' aH' aO'){p:Δ}{o:HO}(e:H p=↑o)(n:p∉hF aH++hF aO):p∉hF aH'++hF aO':=λq=>by
 rcases Jw.mp q with h|h
 .rcases s.gH p h with g|g
  .exact n g
  .rw[e]at g;cases g
 .rcases s.gO p h with g|g
  .exact n g
  .rw[e]at g;cases g
theorem OV.mk'(w:W2 K CB CD C H aH aO S)(m:Mv (hF aH) H H1)(g:L7 H aH aH')(d:HJ K CB CD ↑C H1 aH' S')(m':Mv (hF aO) H1 H')(g':L7 H1 aO aO')(p:HJ K CB CD none H' aO' S')(e:aH'.ma=aH.ma)(l:aO'.ma=aO.ma):
  OV H aH aO H' aH' aO'/\W2 K CB CD C H' aH' aO' S':=by
 let#[r,f]:=w.hh.beside w.oo w.dj m g;let#[i,j]:=r.beside d (λz a q=>f z q a) m' g'
 refine#[#[λc o n q=>?_,λz a=>?_,λz a=>?_,e,l],i,p,λz a q=>j z q a]
 .exact m' c o (λz=>n (Jw.mpr (.inr z))) (m c o (λz=>n (Jw.mpr (.inl z))) q)
 .rcases g z a with q|q
  .exact .inl (Jw.mpr (.inl q))
  .exact .inr q
 .rcases g' z a with q|q
  .exact .inl (Jw.mpr (.inr q))
  .by_cases h:z∈hF aH
   .exact .inl (Jw.mpr (.inl h))
   .exact .inr (m.nfree h q)
end
end L3
namespace L3
open PySem PySem.Spec PyProof.Rows L2
noncomputable def De(z:Str):Bool:=(z.cps.toList.all λc=>decide (97<=c)&&decide (c<=122))&&(decide (1<=z.cps.toList.length)&&decide (z.cps.toList.length<=8))
theorem pW{l:Α}(h:l.all De=true):∀z∈l,ZE z:=λz a=>by
 have h:=FK.mp h z a;unfold De at h;simp only[JX,FK,decide_eq_true_eq]at h
 exact#[λc d=>h.1 c d,h.2.1,h.2.2]
inductive Of (vs:Β) (H:Hp) (Q:VK) (_3:XK):Prop
 |mk (b l:Δ) (ss:Α) (o:Str) (c:Nat) (h1:vs=[-b,-l,.str o]) (h2:LY H b c) (h3:c<100000000) (h4:H l=↑(.lst (ss.map V.str))) (h5:l≠b) (h6:ss.length<64) (h7:∀nm H',MB b (c+2) H H'->Q (.str nm) H')
inductive OQ (vs:Β) (H:Hp) (Q:VK) (_3:XK):Prop
 |mk (b:Δ) (word:Str) (c:Nat) (h1:vs=[-b,.str word]) (h2:LY H b c) (h3:c<100000000) (h4:∀nm H',MB b (c+1) H H'->ZE nm->Q (.str nm) H')
section
variable{K:ι}{CB CD:Δ}{k:Κ}{H H':Hp}{a:Ha}{S:Hs}{b:Δ}{n c:Nat}
theorem HJ.grc(h:HJ K CB CD k H a S)(hb:LY H b n)(nb:b∉hF a)(g:MB b c H H'):HJ K CB CD k H' a S:=h.mv g.mv (bq hb) λz d q=>nb (by rw[Jg.mp q]at d;exact d)
end
section
variable{K:ι}{CB CD C:Δ}{H H':Hp}{aH aO:Ha}{S:Hs}{b:Δ}{c c' m:Nat}
theorem OV.same(s:OV H aH aO H' aH' aO')(e:HG H' H''):OV H aH aO H'' aH' aO':=#[s.m.trans e.mv,s.gH,s.gO,s.mH,s.mO]
theorem W2.grc(w:W2 K CB CD C H aH aO S)(hb:LY H b c)(nb:b∉hF aH++hF aO)(g:MB b c' H H'):W2 K CB CD C H' aH aO S:=
 #[w.hh.grc hb (λq=>nb (Jw.mpr (.inl q))) g,w.oo.grc hb (λq=>nb (Jw.mpr (.inr q))) g,w.dj]
end
structure Hb(K:ι)(CB CD C:Δ)(H Hx:Hp)(b:Δ)(c:Nat)(aH aO:Ha)(S:Hs)(m:Nat):Prop where
 s:HG H Hx
 bx:LY Hx b c
 w:W2 K CB CD C Hx aH aO S
 hm:Hm m S
 nb:b∉hF aH++hF aO
 fb:H b=none
 fr:∀z∈hF aH++hF aO,H z=none
section
variable{K:ι}{CB CD C:Δ}{H Hx Hy:Hp}{aH aO:Ha}{S:Hs}{b b':Δ}{c c' m m':Nat}
theorem Hb.mono(h:Hb K CB CD C H Hx b c aH aO S m)(l:c<=c')(a:m<=m'):Hb K CB CD C H Hx b c' aH aO S m':=#[h.s,h.bx.mono l,h.w,h.hm.mono a,h.nb,h.fb,h.fr]
theorem Hb.grc(h:Hb K CB CD C H Hx b c aH aO S m)(g:MB b c' Hx Hy):Hb K CB CD C H Hy b c' aH aO S m:=
 #[λp o e=>g.kp _ _ (qu e h.fb) (h.s _ _ e),g.bx,h.w.grc h.bx h.nb g,h.hm,h.nb,h.fb,h.fr]
theorem Hb.same(h:Hb K CB CD C H Hx b c aH aO S m)(s:HG Hx Hy):Hb K CB CD C H Hy b c aH aO S m:=#[h.s.trans s,(s.grc h.bx).bx,h.w.same s,h.hm,h.nb,h.fb,h.fr]
theorem Hb.live(h:Hb K CB CD C H Hx b c aH aO S m){z:Δ}(a:z∈hF aH++hF aO):Hx z≠none:=by
 rcases Jw.mp a with q|q
 .exact h.w.hh.at_.live q
 .exact h.w.oo.at_.live q
theorem Hb.rebox(h:Hb K CB CD C H Hx b c aH aO S m)(s:HG Hx Hy)(f:Hx b'=none)(a:LY Hy b' c'):Hb K CB CD C H Hy b' c' aH aO S m:=
 #[h.s.trans s,a,h.w.same s,h.hm,λq=>h.live q f,QZ f h.s,h.fr]
theorem Hb.nO(h:Hb K CB CD C H Hx b c aH aO S m):b∉hF aO:=λq=>h.nb (Jw.mpr (.inr q))
end
theorem DJ(pt:t.Perm Lv)(c:ks.length<=8):Hm 0 (kL t ks):=
 #[#[pt,Jf _,(by decide:(1:Nat)<=8),λk hk=>by rw[Jg.mp hk];exact c,F8 _,(by decide:(0:Int)<1),(λy a=>nomatch a),(λy a=>nomatch a),(λy a=>nomatch a),Jf _,Jf _,Jf _,Ga,Ga],Jf _,Jf _]
section
variable{K:ι}{CB CD C:Δ}{x:Xa}
theorem DR:∀d H Q E,Nh K CB CD C d H Q E->Ms K CB CD C x d H Q E0:=by
 rintro d H Q E ⟨a,S,nm,i,y,e,h,ix,f,q⟩
 exact#[a,S,nm,e,h,λz=>by(rw[ix]at z;cases z),λg y' z c=>by
  rw[ix]at z;cases z
  rw[f]at c;cases c
  exact q]
theorem E5:∀d H Q E,OK K CB CD C d H Q E->Ni K CB CD C x d H Q E0:=by
 rintro d H Q E ⟨a,S,nm,i,y,e,h,ix,f,q⟩
 exact#[a,S,nm,e,h,λz=>by(rw[ix]at z;cases z),λg y' z c=>by
  rw[ix]at z;cases z
  rw[f]at c;cases c
  exact q]
theorem C1:∀a H Q E,M9 K CB a H Q E->M0 K CB x a H Q E0:=by
 rintro a H Q E ⟨p,ta,ka,ce,B,d,e,i,h,f,g,j,c,q⟩
 exact#[p,ta,ka,ce,B,d,e,i,h,f,g,c,λz=>absurd z (by omega),λ_=>q]
end
section
variable{S:Hs}{k:Nat}{is:Μ}
theorem lL(h1:is[m]? =↑i)(a:(HV S k is m).1.ds[i]? =↑y)(c:(HV S k is m).1.kp[k]? =↑P):
  HV S k is (m+1)=((HV S k is m).1.setD i (Za y P k),(HV S k is m).2++[(ze y.D P).1]):=by
 conv=>lhs;unfold HV
 simp only[h1,a,c]
theorem bv(S:Hs)(k:Nat)(is:Μ):∀m,(HV S k is m).1.ds.length=S.ds.length/\(HV S k is m).1.bs=S.bs/\(HV S k is m).1.kp=S.kp/\(HV S k is m).1.dn=S.dn
 |0=>#[42]
 |m+1=>by
  let#[i1,i2,a,c]:=bv S k is m;unfold HV;split
  .exact#[i1,i2,a,c]
  .split
   .rename_i y P d e
    exact#[by show(List.set _ _ _).length=_;rw[FR];exact i1,i2,a,(show((HV S k is m).1.setD _ (Za y P k)).dn=(HV S k is m).1.dn from Qt d Z).trans c]
   .exact#[i1,i2,a,c]
theorem nv(S:Hs)(k:Nat)(is:Μ):∀m,∀a∈(HV S k is m).2,a.length<=3/\∀v∈a,jE v
 |0=>λa h=>nomatch h
 |m+1=>by
  have c:=nv S k is m;unfold HV;split
  .exact c
  .split
   .intro a h
    rcases Jw.mp h with h|h
    .exact c a h
    .rw[Jg.mp h];exact di ..
   .exact c
theorem nD(S:Hs)(k:Nat)(is:Μ):∀m,(HV S k is m).2.length<=m
 |0=>Jf _
 |m+1=>by
  have a:=nD S k is m;unfold HV;split
  .exact F9 a
  .split
   .show((HV S k is m).2++[_]).length<=m+1
    rw[Jq];exact Fq a
   .exact F9 a
end
section
variable{l:Α}{nm:Str}
theorem jN:∀{ms:Α},nm∈ms->qX l nm=none->QH l ms=none
 | [],h,_=>nomatch h
 |m::r,h,hn=>by
  unfold QH;rcases Jh.mp h with rfl|h
  .rw[hn]
  .rw[jN h hn]
   cases qX l m<;>rfl
theorem iY:∀{ms:Α},(∀z∈ms,qX l z≠none)->∃is,QH l ms=↑is
 | [],_=>#[[],Z]
 |m::r,h=>by
  let#[q,a]:=iY (ms:=r) λz c=>h z (JD _ c)
  cases e:qX l m with
  |none=>exact absurd e (h m Jy)
  |some i=>exact#[i::q,by unfold QH;rw[e,a]]
theorem jV:∀{ms:Α} {is:Μ} {j:Nat},QH l ms=↑is->ms[j]? =↑nm->∃i,is[j]? =↑i/\qX l nm=↑i
 | [],_,j,_,h=>by cases h
 |m::r,is,j,h,hj=>by
  unfold QH at h;cases e:qX l m with
  |none=>rw[e]at h;cases h
  |some i=>
   cases e2:QH l r with
   |none=>rw[e,e2]at h;cases h
   |some q=>
    rw[e,e2]at h;cases h;cases j with
    |zero=>cases hj;exact#[i,Z,e]
    |succ j=>exact jV (ms:=r) (j:=j) e2 hj
end
noncomputable def aC(S:Hs)(j:Nat)(B:Bt)(deed:Int)(ds:Α):Ls:=match QH S.dn ds with
 |none=> .ref .unknown
 |some is=>if 4096<=B.cnt then .ref .worn else .ok (HV (zd S j B deed) S.kp.length is is.length).1 (.num S.kp.length (HV (zd S j B deed) S.kp.length is is.length).2)
section
variable{b dn:Str}{j i:Nat}{deed k:Int}
theorem ni(a:qX S.bn b=↑j)(c:S.bs[j]? =↑B):Qb S (.press b deed ds)=aC S j B deed ds:=by
 show(match QH S.dn ds with
  |none=>Ls.ref .unknown
  |some is=>bE S b λj B=>if 4096<=B.cnt then .ref .worn else .ok (HV (zd S j B deed) S.kp.length is is.length).1 (.num S.kp.length (HV (zd S j B deed) S.kp.length is is.length).2))=_
 unfold aC;cases QH S.dn ds with
 |none=>rfl
 |some is=>exact fF a c
theorem lf(h:qX S.bn b=none):Qb S (.press b deed ds)= .ref .unknown:=by
 show(match QH S.dn ds with
  |none=>Ls.ref .unknown
  |some is=>bE S b λj B=>if 4096<=B.cnt then .ref .worn else .ok (HV (zd S j B deed) S.kp.length is is.length).1 (.num S.kp.length (HV (zd S j B deed) S.kp.length is is.length).2))=_
 cases QH S.dn ds with
 |none=>rfl
 |some is=>exact cE h
noncomputable def km(S:Hs)(i:Nat)(y:Dh)(k:Int):Ls:=match S.kp[k.toNat]? with
 |none=> .ref (.badp k)
 |some P=>if k<0 then .ref (.badp k)else .ok (S.setD i (Za y P k.toNat)) (.ans (ze y.D P).1)
theorem pE(h:¬(0<=k/\k<S.kp.length)):km S i y k= .ref (.badp k):=by
 unfold km
 by_cases a:k<0
 .cases S.kp[k.toNat]? with
  |none=>rfl
  |some P=>exact Jd a
 .rw[Gw (by lia)]
theorem ra(c:0<=k)(a:S.kp[k.toNat]? =↑P):km S i y k= .ok (S.setD i (Za y P k.toNat)) (.ans (ze y.D P).1):=by
 unfold km;rw[a];exact Jc (by lia)
theorem pM(hi:qX S.dn dn=↑i)(a:S.ds[i]? =↑y):Qb S (.play k dn)=km S i y k:=fm hi a
noncomputable def Eh(d:Hd):NY->Prop
 | .non=>True
 | .num _ as=>(∀l∈as,l.length<=3/\∀v∈l,jE v)/\(Nr d->as.length<=1000)
 | .ans as=>as.length<=3/\∀v∈as,jE v
theorem iE(e:Qb S d= .ok S' o):S.ds.length<=S'.ds.length/\S'.ds.length<=S.ds.length+1/\S'.bs.length<=S.bs.length+1/\Eh d o:=by
 cases d with
 |addD nm near far most=>
  simp only[Qb]at e;split at e<;>cases e
  exact#[by simp,by simp,by simp,trivial]
 |addB nm step=>
  simp only[Qb]at e;split at e<;>cases e
  exact#[by simp,by simp,by simp,trivial]
 |teach dn bn=>
  let#[i,y,_,_,e]:=fE e;let#[j,B,_,_,e]:=ZZ e;unfold iL at e;split at e
  .repeat (split at e;cases e)
   cases e
   exact#[by simp [Hs.setD,zd,Hs.setB],by simp [Hs.setD,zd,Hs.setB],by simp [Hs.setD,zd,Hs.setB],trivial]
  .cases e
 |turnH ks=>
  simp only[Qb]at e;split at e<;>cases e
  exact#[by simp,by simp,by simp,trivial]
 |close age=>
  simp only[Qb]at e;split at e<;>cases e
  exact#[by simp,by simp,by simp,trivial]
 |press b deed ds=>
  simp only[Qb]at e;split at e
  .cases e
  .rename_i is c
   let#[j,B,_,_,e]:=ZZ e;split at e<;>cases e
   let#[h1,f,_,_]:=bv (zd S j B deed) S.kp.length is is.length
   refine#[by rw[h1];exact Jf _,by rw[h1];exact J1 _,by rw[f];simp [zd,Hs.setB],λl g=>nv _ _ _ _ l g,λa=>?_]
   have h:=nD (zd S j B deed) S.kp.length is is.length;have n:=bH c;have m:=a.ok.2;lia
 |play k dn=>
  let#[i,y,_,_,e]:=fE e;split at e
  .cases e
  .split at e<;>cases e
   exact#[by simp [Hs.setD],by simp [Hs.setD],by simp [Hs.setD],di ..]
 |lose b=>let#[j,B,_,_,e]:=ZZ e;cases e;exact#[by simp [Hs.setB],by simp [Hs.setB],by simp [Hs.setB],trivial]
 |tear b=>let#[j,B,_,_,e]:=ZZ e;cases e;exact#[by simp [Hs.setB],by simp [Hs.setB],by simp [Hs.setB],trivial]
 |turnB b=>
  let#[j,B,_,_,e]:=ZZ e;split at e<;>cases e
  exact#[by simp [Hs.setB],by simp [Hs.setB],by simp [Hs.setB],trivial]
 |forget dn bn=>
  let#[i,y,_,_,e]:=fE e;split at e<;>cases e
  exact#[by simp [Hs.setD],by simp [Hs.setD],by simp [Hs.setD],trivial]
end
theorem Hm.nxtH(h:Hm m S)(a:Nr d):Hm (m+1) (eN S (Qb S d)):=by
 cases e:Qb S d with
 |ref r=>exact h.mono (J1 m)
 |ok S' o=>
  let#[_,c,f,_]:=iE e
  have:=h.dl
  have:=h.bl
  exact#[(CO h.ok a e).mono (by lia),by show S'.ds.length<=m+1;lia,by show S'.bs.length<=m+1;lia]
theorem Mz.mv{Z:Η}(h:Mz H v o)(m:Mv Z H H')(nt:NT Z H):Mz H' v o:=by
 cases o with
 |non=>exact h
 |num k as=>
  let#[q,t,xs,e,h1,c,g,a]:=h
  exact#[q,t,xs,e,m.tup nt h1,m.tup nt c,g,λi x l f d=>m.tup nt (a i x l f d)]
 |ans as=>
  let#[q,e,h1]:=h
  exact#[q,e,m.tup nt h1]
theorem Pf.mvH{Z:Η}(h:Pf H l r)(m:Mv Z H H')(nt:NT Z H):Pf H' l r:=by
 cases r with
 |ref r=>exact m.tup nt h
 |ok S' o=>
  let#[v,h1,a]:=h
  exact#[v,m.tup nt h1,a.mv m nt]
theorem Pf.eqvH(h1:Pf H q (Qb S d))(m:Pf H C (Qb S d))(D:Nr d):MX H 4 (-q) (-C):=by
 cases e:Qb S d with
 |ref r=>
  rw[e]at h1 m;refine .tup (.inl h1) (.inl m) Z (by show 3<=ζ;decide) λi x y ex c=>?_
  match i,ex,c with
  |0,ex,c=>cases ex;cases c;exact .str _ _
  |1,ex,c=>cases ex;cases c;exact .str _ _
  |2,ex,c=>
   cases ex;cases c
   cases r<;>constructor
  |i+3,ex,c=>cases ex
 |ok S' o=>
  rw[e]at h1 m;have g:=(iE e).2.2.2;let#[v,F,l]:=h1;let#[u,G,j]:=m;refine .tup (.inl F) (.inl G) Z (by show 2<=ζ;decide) λi x y ex c=>?_
  match i,ex,c with
  |0,ex,c=>cases ex;cases c;exact .str _ _
  |i+2,ex,c=>cases ex
  |1,ex,c=>
   cases ex;cases c
   cases o with
   |non=>
    have l:v= .non:=l
    have j:u= .non:=j
    subst l j;exact .non _
   |ans as=>
    let#[a,rfl,p]:=l;let#[b,rfl,z]:=j;exact sM p z g.1 g.2
   |num k as=>
    have N:=g.2 D;have g:=g.1;let#[a,t,xs,rfl,p,E,w,K]:=l;let#[b,s,ys,rfl,z,M,L,J]:=j;refine .tup (n:=2) (.inl p) (.inl z) Z (by show 2<=ζ;decide) λi x y ex c=>?_
    match i,ex,c with
    |0,ex,c=>cases ex;cases c;exact .int _ _
    |i+2,ex,c=>cases ex
    |1,ex,c=>
     cases ex;cases c
     refine .tup (n:=1) (.inl E) (.inl M) (by rw[Jb,Jb,w,L]) (by rw[Jb,w,Jn];lia) λi x y ex c=>?_
     rw[Jp]at ex c;let#[I,h,rfl]:=JY.mp ex;let#[y',A,rfl]:=JY.mp c;have hi:i<as.length:=by rw[<- w];exact(Jt.mp h).1
     have f:=Jk hi;have B:=g _ (Jo f);exact sM (K i I _ h f) (J i y' _ A f) B.1 B.2
noncomputable def Nt(Z:Η)(H:Hp)(l:Δ):Hd->Prop
 | .press b deed ds=>∃p,H l=↑(.tup [.str "press_button",.str b,.int deed,-p])/\Sq [] H p (ds.map V.str)/\p∉Z
 |d=>EJ H l d
theorem Nt.sub{Z:Η}(h:Nt Z H l d)(s:∀z∈Z',z∈Z):Nt Z' H l d:=by
 cases d with
 |press b deed ds=>let#[p,h1,a,c]:=h;exact#[p,h1,a,λq=>c (s p q)]
 |_=>exact h
theorem f9{Z:Η}(h:Sq [] H p xs)(m:Mv Z H H')(nt:NT Z H)(hp:p∉Z):Sq [] H' p xs:=by
 rcases h with h|h
 .rcases h with h|h
  .rcases h with h|⟨o,h⟩
   .exact .inl (.inl (.inl (m _ _ hp h)))
   .exact .inl (.inl (.inr #[o,m _ _ hp h]))
  .exact .inl (.inr h)
 .exact .inr (m.sqt nt h)
theorem Nt.mv{Z:Η}(h:Nt Z H l d)(m:Mv Z' H H')(nt:NT Z' H)(s:∀z∈Z',z∈Z):Nt Z H' l d:=by
 cases d with
 |press b deed ds=>let#[p,h1,a,c]:=h;exact#[p,m.tup nt h1,f9 a m nt (λq=>c (s p q)),c]
 |turnH ks=>let#[p,h1,a]:=h;exact#[p,m.tup nt h1,m.tup nt a]
 |addD=>exact m.tup nt h
 |addB=>exact m.tup nt h
 |teach=>exact m.tup nt h
 |close=>exact m.tup nt h
 |play=>exact m.tup nt h
 |lose=>exact m.tup nt h
 |tear=>exact m.tup nt h
 |turnB=>exact m.tup nt h
 |forget=>exact m.tup nt h
theorem Nt.same{Z:Η}(h:Nt Z H l d)(s:HG H H'):Nt Z H' l d:=h.mv (Z':=[]) s.mv iR (λ_ h=>nomatch h)
theorem kj(D:Dr)(P:Ps):∃(w:Str) (r:Β),(ze D P).1= .str w::r:=by
 unfold ze QF;split
 .exact#[6]
 .split
  .split
   .exact#[6]
   .split<;>exact#[6]
  .exact#[6]
section
variable{K:ι}{CB CD:Δ}{kk:Κ}{H H1:Hp}{a:Ha}{S:Hs}{i k:Nat}{z:Lx}{y:Dh}
theorem vp{a:Dh}:(S.setD i c).setD i a=S.setD i a:=by
 show({S with ds:=(S.ds.set i c).set i a}:Hs)={S with ds:=S.ds.set i a}
 rw[List.set_set]
theorem HJ.heard(h:HJ K CB CD kk H a S)(hi:a.ds[i]? =↑z)(g:S.ds[i]? =↑y)(m:Mv [z.a.bd,z.a.lg] H H1)(d:Lc K CD H1 z.a {y.D with kn:=(ze y.D P).2} (y.L++[.hear P (ze y.D P).1])):
  (iW (ze y.D P).1=false->HJ K CB CD kk H1 a (S.setD i (Za y P k)))/\
  (iW (ze y.D P).1=true->Lg H1 a.od (.str y.nm) ↑(-z.ol)->mG H1 z.ol y.op/\HJ K CB CD kk (HI H1 z.ol (.lst ((y.op++[k]).map λn:Nat=>V.int (n:Int)))) a (S.setD i (Za y P k))):=by
 have h1:=h.door hi g (bX m) d;have j:i<S.ds.length:=(Jt.mp g).1
 have c:(S.setD i {y with D:={y.D with kn:=(ze y.D P).2},L:=y.L++[.hear P (ze y.D P).1]}).ds[i]? =some {y with D:={y.D with kn:=(ze y.D P).2},L:=y.L++[.hear P (ze y.D P).1]}:=by
  show(S.ds.set i _)[i]? =_
  rw[List.getElem?_set,Jd Z,Jd j]
 refine#[λe=>?_,λe _=>?_]
 .have:Za y P k={y with D:={y.D with kn:=(ze y.D P).2},L:=y.L++[.hear P (ze y.D P).1]}:=by
   unfold Za;rw[e];rfl
  rw[this];exact h1
 .have:Za y P k={y with D:={y.D with kn:=(ze y.D P).2},L:=y.L++[.hear P (ze y.D P).1],op:=y.op++[k]}:=by
   unfold Za;rw[e];rfl
  rw[this];have f:=h1.opd (op':=y.op++[k]) hi c
  rw[vp]at f
  exact#[(h1.at_.de i z _ hi c).2,f]
end
section
variable(K:ι)(CB CD CH:Δ)(x:Xa)
inductive Mt (kk:Κ) (vs:Β) (H:Hp) (Q:VK) (_3:XK):Prop
 |mk (a:Ha) (S:Hs) (n:Nat) (nm:Str) (k i:Nat) (y:Dh) (P:Ps) (h1:vs=[-a.ma,.str nm,.int (k:Int)]) (h2:HJ K CB CD kk H a S) (h3:HZ n S) (h4:n<=990000) (h5:qX S.dn nm=↑i) (h6:S.ds[i]? =↑y) (h7:S.kp[k]? =↑P) (h8:∀q H',Mv (hF a) H H'->HJ K CB CD kk H' a (S.setD i (Za y P k))->H' q=↑(.tup (ze y.D P).1)->Q (-q) H')
inductive Og (vs:Β) (H:Hp) (Q:VK) (E:XK):Prop
 |mk (a:Ha) (S:Hs) (n:Nat) (b:Str) (deed:Int) (p:Δ) (ds:Α) (h1:vs=[-a.ma,.str b,.int deed,-p]) (h2:HJ K CB CD ↑CH H a S) (h3:HZ n S) (h4:n<=900000) (h5:Sq [] H p (ds.map V.str)) (h6:p∉hF a) (h7:ZJ deed) (h8:ds.length<=5) (h9:Ou K CB CD ↑CH x H a S (.press b deed ds) Q E)
inductive OR (vs:Β) (H:Hp) (Q:VK) (E:XK):Prop
 |mk (a:Ha) (S:Hs) (n:Nat) (k:Int) (d:Str) (h1:vs=[-a.ma,.int k,.str d]) (h2:HJ K CB CD ↑CH H a S) (h3:HZ n S) (h4:n<=900000) (h5: -10000000<k) (h6:k<10000000) (h7:Ou K CB CD ↑CH x H a S (.play k d) Q E)
inductive Oh (vs:Β) (H:Hp) (Q:VK) (E:XK):Prop
 |mk (a:Ha) (S:Hs) (n:Nat) (b:Str) (h1:vs=[-a.ma,.str b]) (h2:HJ K CB CD ↑CH H a S) (h3:HZ n S) (h4:n<=900000) (h5:Ou K CB CD ↑CH x H a S (.turnB b) Q E)
inductive NK (vs:Β) (H:Hp) (Q:VK) (E:XK):Prop
 |mk (a:Ha) (S:Hs) (n:Nat) (d b:Str) (h1:vs=[-a.ma,.str d,.str b]) (h2:HJ K CB CD ↑CH H a S) (h3:HZ n S) (h4:n<=900000) (h5:Ou K CB CD ↑CH x H a S (.forget d b) Q E)
inductive Nm (vs:Β) (H:Hp) (Q:VK) (_3:XK):Prop
 |mk (a:Ha) (S:Hs) (n j:Nat) (u:Mw) (B:Bt) (deed:Int) (p:Δ) (ds:Α) (h1:vs=[-a.ma,-u.p,.int deed,-p]) (h2:HJ K CB CD none H a S) (h3:HZ n S) (h4:n<=900000) (h5:a.bs[j]? =↑u) (h6:S.bs[j]? =↑B) (h7:Sq [] H p (ds.map V.str)) (h8:p∉hF a) (h9:ZJ deed) (h10:ds.length<=5) (h11:Mm K CB CD H a S (aC S j B deed ds) Q)
end
end L3
namespace L3
open PySem PySem.Spec PySem.Calls PyProof.Rows L2
noncomputable def Ct(te:TE):TE:=λσ H Q=>te σ H λv H1=>∃n:Int,n.natAbs<4611686018427387904/\v= .int n/\∀z,Q (.str z) H1
theorem yi(B:z.length<=100)(l:QE X e te):QE X (.JoinedStr [.Constant (.str z) j d,.FormattedValue e (-1) none p2] pos) (Ct te):=#[by
 intro tx s σ H Q I h;refine wpAny_JoinedStr ?_
 show ε _ _ (eval (.Constant (.str z) j d) X.env) _ _ _
 refine qK ((qi (X:=X) (x:=z) (j:=j) (pos:=d)).h tx s σ H (λv H'=>v= .str z/\H'=H) I #[12]) λv r f=>?_
 let#[x,H1,p,c,ex,w]:=f;subst ex w;let#[t,rfl]:=c;exists z,t,Z,?_
 .rw[GX]
  show 0+z.length<=ζ
  rw[Jn];lia
 show ε _ _ (eval (.FormattedValue e (-1) none p2) X.env) _ _ _
 refine wpAny_FormattedValue_plain (qK (l.h tx r σ H1 _ p h) λv y f=>?_)
 let#[x,o,m,c,n,u,ex,q]:=f;subst ex;let#[A,rfl]:=c;have a:n.natAbs.log2<1920:=by
  by_cases i:n.natAbs=0
  .rw[i];decide
  .exact Nat.lt_trans ((Nat.log2_lt i).mpr (show n.natAbs<2 ^ 62 from u)) ⋯
 have g:=PyProof.Rows.int_text_len_1921 a;refine wpAny_formatField_int a #[6,?_,?_]
 .rw[GX,GX]
  show 0+z.length+(Str.ofString (toString n)).length<=ζ
  rw[Jn];lia
 .refine#[?_,#[.str _,o,m.tok _,#[0],q _]]
  rw[GX,GX]
  show 0+z.length+(Str.ofString (toString n)).length<=ζ
  rw[Jn];lia]
inductive MS (C:Δ) (f:Str) (vs:Β) (H:Hp) (Q:VK) (_3:XK):Prop
 |mk (e:Δ) (n:Int) (h1:vs=[-e,.int n]) (h2:n.natAbs<4611686018427387904) (h3:H e=↑(M4 e (-C) none)) (h4:∀d,H d=none->Q .non (HI (HI H d (.xd [(f,.int n)])) e (M4 e (-C) ↑d)))
noncomputable def zi:Hd->Str
 | .addD .. =>"add_door"
 | .addB .. =>"add_button"
 | .teach .. =>"teach"
 | .press .. =>"press_button"
 | .play .. =>"play_kept"
 | .lose .. =>"lose_cell"
 | .tear .. =>"tear_cell"
 | .turnH .. =>"turn_house"
 | .turnB .. =>"turn_button"
 | .close .. =>"close_ages"
 | .forget .. =>"forget_at"
theorem Hm.lt(h:Hm m S)(l:m<64):S.ds.length<64/\S.bs.length<64/\m<=9000:=#[Nat.lt_of_le_of_lt h.dl l,Nat.lt_of_le_of_lt h.bl l,by lia]
noncomputable def rD:Hd->Prop
 | .play k _=> -10000000<k/\k<10000000
 |_=>True
section
variable(K:ι)(CB CD CH:Δ)(x:Xa)(ws:Α)
inductive Ov (vs:Β) (H:Hp) (Q:VK) (_3:XK):Prop
 |mk (a:Ha) (S:Hs) (n:Nat) (l:Δ) (d:Hd) (h1:vs=[-a.ma,-l]) (h2:HJ K CB CD none H a S) (h3:HZ n S) (h4:n<=900000) (h5:Nt (hF a) H l d) (h6:Nr d) (h7:rD d) (h8:zi d∈ws) (h9:Mm K CB CD H a S (Qb S d) Q)
inductive NL (vs:Β) (H:Hp) (Q:VK) (E:XK):Prop
 |mk (a:Ha) (S:Hs) (n:Nat) (l:Δ) (d:Hd) (h1:vs=[-a.ma,-l]) (h2:HJ K CB CD ↑CH H a S) (h3:HZ n S) (h4:n<=900000) (h5:Nt (hF a) H l d) (h6:Nr d) (h7:rD d) (h8:zi d∈ws) (h9:Ou K CB CD ↑CH x H a S d Q E)
inductive Ox (vs:Β) (H:Hp) (Q:VK) (_3:XK):Prop
 |mk (a:Ha) (S:Hs) (n:Nat) (l:Δ) (d:Hd) (h1:vs=[-a.ma,-l]) (h2:HJ K CB CD ↑CH H a S) (h3:HZ n S) (h4:n<=900000) (h5:Nt (hF a) H l d) (h6:Nr d) (h7:rD d) (h8:zi d∈ws) (h9:∀q a' H',Mv (hF a) H H'->L7 H a a'->a'.ma=a.ma->HJ K CB CD ↑CH H' a' (eN S (Qb S d))->Pf H' q (Qb S d)->Q (-q) H')
inductive N4 (vs:Β) (H:Hp) (Q:VK) (_3:XK):Prop
 |mk (b wl:Δ) (a:Ha) (S:Hs) (m c:Nat) (us:Α) (h1:vs=[-b,-a.ma,-wl]) (h2:LY H b c) (h3:c<90000000) (h4:b∉hF a) (h5:HJ K CB CD none H a S) (h6:Hm m S) (h7:(S.ds.length<64/\S.bs.length<64/\m<=9000)) (h8:H wl=↑(.lst (us.map V.str))) (h9:wl≠b) (h10:1<=us.length) (h11:us.length<=20) (h12:(∀z∈us,z∈ws)) (h13:∀l d H',MB b (c+20) H H'->(∀Z,(∀z∈Z,H z≠none)->Nt Z H' l d)->Nr d->rD d->zi d∈us->Q (-l) H')
inductive Oi (vs:Β) (H:Hp) (Q:VK) (_3:XK):Prop
 |mk (aH aO:Ha) (S:Hs) (m:Nat) (l:Δ) (d:Hd) (h1:vs=[-aH.ma,-aO.ma,-l]) (h2:W2 K CB CD CH H aH aO S) (h3:Hm m S) (h4:m<=9000) (h5:Nt (hF aH++hF aO) H l d) (h6:Nr d) (h7:rD d) (h8:zi d∈ws) (h9:∀aH' aO' H',OV H aH aO H' aH' aO'->W2 K CB CD CH H' aH' aO' (eN S (Qb S d))->Q (.bl true) H')
end
section
variable{K:ι}{CB CD C:Δ}{H Hx Hy:Hp}{aH aO aH' aO':Ha}{S:Hs}{b:Δ}{c m:Nat}{d:Hd}
theorem Hb.stepH(h:Hb K CB CD C H Hx b c aH aO S m)(a:Nr d)(st:OV Hx aH aO Hy aH' aO')(w:W2 K CB CD C Hy aH' aO' (eN S (Qb S d))):Hb K CB CD C H Hy b c aH' aO' (eN S (Qb S d)) (m+1):=by
 let#[n,k,j,e,r]:=h.bx;refine⟨λp o e=>st.m _ _ (λq=>by rw[h.fr p q]at e;cases e) (h.s _ _ e),⟨n,k,j,st.m _ _ h.nb e,r⟩,w,h.hm.nxtH a,st.free e h.nb,h.fb,λz f=>?_⟩
 have g:z∈hF aH++hF aO\/Hx z=none:=by
  rcases Jw.mp f with q|q
  .exact st.gH z q
  .exact st.gO z q
 rcases g with g|g
 .exact h.fr z g
 .exact QZ g h.s
theorem Hb.dez(h:Hb K CB CD C H Hx b c aH aO S m)(a:∀Z,(∀z∈Z,Hx z≠none)->Nt Z Hy l d):Nt (hF aH++hF aO) Hy l d:=a _ λz a=>h.live a
end
end L3
namespace L3
open PySem PySem.Spec PyProof.Rows L2
section
variable{K:ι}{H H':Hp}{a:Δ}{xs:Β}
def OS(H:Hp)(a:Δ)(H':Hp):Prop:=∃Z,Mv Z H H'/\NT Z H/\a∉Z
theorem OS.refl:OS H a H:=#[[],λ_ _ _ e=>e,iR,λh=>nomatch h]
theorem OS.sql(s:OS H a H')(h:HP [] H a xs):HP K H' a xs:=by
 let#[Z,m,nt,c]:=s;rcases h with(h|⟨o,h⟩)|⟨o,d,n,h,_⟩
 .exact .inl (.inl (m _ _ c h))
 .exact .inl (.inr #[o,m _ _ c h])
 .cases h
theorem OS.sqt(s:OS H a H')(h:HQ [] H a xs):HQ K H' a xs:=by
 let#[Z,m,nt,d]:=s;rcases h with h|⟨o,c,n,h,_⟩
 .exact .inl (m.rd nt h)
 .cases h
theorem jH(c:Sq [] H a xs)(hn:xs.length<=ζ)(Pv:Nat->Β->Hp->Prop)(e:Pv 0 [] H)(ps:∀i ys H',Pv i ys H'->OS H a H')(hs:∀i ys H' x,xs[i]? =↑x->ys.length=i->Pv i ys H'->te (↑x::aQ js σ) H' λv H3=>Pv (i+1) (ys++[v]) H3)(d:∀ys H',ys.length=xs.length->Pv xs.length ys H'->∀p,H' p=none->Q (-p) (HI H' p (.lst ys))):((∃xs,HP K H a xs)/\bA (jy K a) js te σ H Q)\/((∃xs,HQ K H a xs)/\bA (gZ K a) js te σ H Q):=by
 rcases c with c|c
 .exact .inl #[#[_,OS.refl.sql c],cZ hn Pv e (λi ys H' p=>(ps i ys H' p).sql c) hs d]
 .exact .inr #[#[_,OS.refl.sqt c],gu hn Pv e (λi ys H' p=>(ps i ys H' p).sqt c) hs d]
theorem Bm(c:Sq [] H a xs)(Pv:Nat->L2.St->Hp->Prop)(h:Pv 0 σ H)(ps:∀i σ H',Pv i σ H'->OS H a H')(hs:∀i x σ H,xs[i]? =↑x->Pv i σ H->g x σ H λd l=>tb {D with nx:=Pv (i+1),ct:=Pv (i+1),bk:=D.nx} d l)(e:∀σ H,Pv xs.length σ H->D.nx σ H)(j:f=CN K (λ_ H Q=>Q (-a) H)):yb f g tb D σ H:=by
 subst j;exists a,Z
 rcases c with c|c
 .exact .inl #[#[_,OS.refl.sql c],ke Pv h (λi σ H' _ p=>(ps i σ H' p).sql c) hs e]
 .exact .inr #[#[_,OS.refl.sqt c],lY Pv h (λi σ H' _ p=>(ps i σ H' p).sqt c) hs e]
end
theorem CF{k:Nat}(a:Lb k X.A)(hi:QE X e ty)(ho:QE X o td)(h1:behindInMarks CmpOp.In o=false:=by rfl):QE X (.Compare e [.In] [o] pos) (wS ty td):=#[Db (vD (by have:=a.un;lia) hi.h ho.h) (h1:=h1)]
end L3
namespace Lw
open PySem L2 L3
theorem Hf:0<=ζ:=by decide
theorem Hh:1<=ζ:=by decide
theorem Hj:2<=ζ:=by decide
theorem Hn:3<=ζ:=by decide
theorem Ho:4<=ζ:=by decide
theorem Hq:5<=ζ:=by decide
theorem Hr:6<=ζ:=by decide
theorem HA:7<=ζ:=by decide
theorem HB:12<=ζ:=by decide
theorem HC:16<=ζ:=by decide
noncomputable def qY(i:Nat):δ:=PySem.Challenge.pw_rollcode_k48_keys_turned.main.body.getD i (.Pass #[(0),(0),(0),(0)])
abbrev ef:δ:=qY 13
abbrev fU:δ:=qY 14
abbrev cN:δ:=qY 15
abbrev cS:δ:=qY 16
abbrev mF:δ:=qY 17
abbrev hJ:δ:=qY 18
abbrev hV:δ:=qY 25
abbrev iB:δ:=qY 26
abbrev fW:δ:=qY 27
abbrev aG:δ:=qY 28
abbrev jK:δ:=qY 29
abbrev bj:δ:=qY 30
abbrev fS:δ:=qY 31
abbrev cF:δ:=qY 32
abbrev io:δ:=qY 36
abbrev iu:δ:=qY 37
abbrev ZP:δ:=qN (qY 8) 0
abbrev aD:δ:=qN (qY 34) 0
abbrev ae:δ:=qN (qY 34) 2
abbrev Zh:δ:=qN (qY 34) 3
abbrev Zj:δ:=qN (qY 34) 4
abbrev Q6:δ:=qN (qY 34) 5
abbrev Zi:δ:=qN (qY 34) 1
abbrev ZN:δ:=qN (qY 34) 8
abbrev ZD:δ:=qN (qY 34) 9
abbrev Z6:δ:=qN (qY 34) 10
abbrev Zr:δ:=qN (qY 34) 11
abbrev ZB:δ:=qN (qY 34) 12
abbrev Zc:δ:=qN (qY 39) 0
abbrev aZ:δ:=qN (qY 39) 2
abbrev Z7:δ:=qN (qY 39) 8
abbrev Z9:δ:=qN (qY 39) 11
abbrev ZS:δ:=qN (qY 39) 10
abbrev ZV:δ:=qN (qY 39) 9
abbrev Z8:δ:=qN (qY 39) 7
abbrev eE:δ:=qN (qY 39) 6
abbrev ZR:δ:=qN (qY 39) 12
abbrev cI:δ:=qN (qY 39) 1
abbrev bW:δ:=qN (qY 39) 3
abbrev aB:δ:=qN (qY 39) 4
abbrev ZF:δ:=qN (qY 39) 5
abbrev ai:δ:=qN (qY 39) 13
abbrev aA:δ:=qN (qY 39) 14
abbrev ZL:δ:=qN (qY 39) 15
abbrev Zx:δ:=qN (qY 39) 16
abbrev bb:δ:=qN (qY 39) 18
abbrev ac:δ:=qN (qY 39) 19
abbrev aY:δ:=qN (qY 41) 0
abbrev Zw:δ:=qN (qY 41) 3
abbrev Zb:δ:=qN (qY 41) 4
abbrev aa:δ:=qN (qY 41) 1
abbrev Zp:δ:=qN (qY 41) 2
abbrev Zv:δ:=qN (qY 41) 7
abbrev bU:δ:=qN (qY 41) 5
abbrev aN:δ:=qN (qY 41) 8
abbrev Q9:δ:=qN (qY 41) 6
abbrev ZM:δ:=qN (qY 41) 9
abbrev Zn:δ:=qN (qY 41) 12
abbrev Zk:δ:=qN (qY 41) 13
abbrev Zm:δ:=qN (qY 41) 14
abbrev ZO:δ:=qN (qY 41) 15
abbrev Z5:δ:=qN (qY 41) 16
abbrev Zu:δ:=qN (qY 41) 17
abbrev Z3:δ:=qN (qY 41) 18
abbrev ZT:δ:=qN (qY 41) 19
abbrev iq:δ:=qY 43
abbrev fM:δ:=qY 44
abbrev eC:δ:=qY 45
abbrev iJ:δ:=qY 46
abbrev hW:δ:=qY 47
abbrev bT:δ:=qY 48
abbrev eD:δ:=qY 49
abbrev cP:δ:=qY 50
abbrev eL:δ:=qY 53
abbrev bo:δ:=qY 51
abbrev bQ:δ:=qY 52
abbrev aJ:δ:=qY 54
abbrev iA:δ:=qY 55
abbrev cM:δ:=qY 56
abbrev eM:δ:=qY 57
abbrev ib:δ:=qY 58
abbrev cr:δ:=qY 60
abbrev eA:δ:=qY 59
abbrev aS:δ:=qY 61
abbrev bg:δ:=qY 62
abbrev gc:δ:=qY 63
abbrev eR:δ:=qY 64
abbrev eG:δ:=qY 65
abbrev cn:δ:=qY 66
theorem qZ(h1:c.kind= .function:=by rfl)(d:c.isCoroutine=false:=by rfl)(f:c.isGenerator=false:=by rfl)(h:N.Nodup:=by decide +kernel)(g:N.take P.length=P:=by rfl)(e:∀x∈P,c.names.lookup x=some .local\/c.names.lookup x=some .cell:=by decide +kernel)(a:∀y∈c.names,y.2≠ .free:=by decide +kernel):HH N P c:=#[h1,d,f,h,g,e,a]
theorem oS:HH (["thing"]:Α) (["thing"]:Α) (qm ef):=qZ
theorem sv:HH (["thing"]:Α) (["thing"]:Α) (qm fU):=qZ
theorem og:HH (["things"]:Α) (["things"]:Α) (qm cN):=qZ
theorem LD:HH (["table","back","place","digit"]:Α) (["table"]:Α) (qm cS):=qZ
theorem Mn:HH (["table","key","digits","row","shift","place","ahead"]:Α) (["table","key","digits"]:Α) (qm mF):=qZ
theorem LA:HH (["table","key","digits","back","row","shift","place","ahead"]:Α) (["table","key","digits"]:Α) (qm hJ):=qZ
theorem uO:HH (["thing"]:Α) (["thing"]:Α) (qm hV):=qZ
theorem uf:HH (["thing"]:Α) (["thing"]:Α) (qm iB):=qZ
theorem LU:HH (["thing","name","age","code"]:Α) (["thing"]:Α) (qm fW):=qZ
theorem Lo:HH (["name","digits","letter","place"]:Α) (["name"]:Α) (qm aG):=qZ
theorem Mu:HH (["table","key","name","sums","place","digit"]:Α) (["table","key","name"]:Α) (qm jK):=qZ
theorem kW:HH (["count"]:Α) (["count"]:Α) (qm bj):=qZ
theorem Mo:HH (["table","key","name","age","count","deed","four","five"]:Α) (["table","key","name","age","count","deed"]:Α) (qm fS):=qZ
theorem IZ:HH (["table","key","press","name","age","code","low","middle","high","deed","check"]:Α) (["table","key","press"]:Α) (qm cF):=qZ
theorem uK:HH (["count","last","near","far"]:Α) (["count","last","near","far"]:Α) (qm io):=qZ
theorem LB:HH (["button","age","count","near","far","own_age","last","waiting","word"]:Α) (["button","age","count","near","far"]:Α) (qm iu):=qZ
theorem il:HH (["self","place"]:Α) (["self","place"]:Α) (qm ZP):=qZ
theorem jZ:HH (["self","name","table","key","age","step"]:Α) (["self","name","table","key","age","step"]:Α) (qm aD):=qZ
theorem jn:HH (["self"]:Α) (["self"]:Α) (qm ae):=qZ
theorem gk:HH (["self"]:Α) (["self"]:Α) (qm Zh):=qZ
theorem gb:HH (["self"]:Α) (["self"]:Α) (qm Zj):=qZ
theorem Lz:HH (["self","spare"]:Α) (["self"]:Α) (qm Q6):=qZ
theorem LG:HH (["self","deed","press"]:Α) (["self","deed"]:Α) (qm Zi):=qZ
theorem ik:HH (["self","key"]:Α) (["self","key"]:Α) (qm ZN):=qZ
theorem gF:HH (["self"]:Α) (["self"]:Α) (qm ZD):=qZ
theorem jq:HH (["self"]:Α) (["self"]:Α) (qm Z6):=qZ
theorem gM:HH (["self"]:Α) (["self"]:Α) (qm Zr):=qZ
theorem gW:HH (["self"]:Α) (["self"]:Α) (qm ZB):=qZ
theorem ml:HH (["self","table","keys","near","far","most"]:Α) (["self","table","keys","near","far","most"]:Α) (qm Zc):=qZ
theorem kU:HH (["self"]:Α) (["self"]:Α) (qm aZ):=qZ
theorem jl:HH (["self","name"]:Α) (["self","name"]:Α) (qm Z7):=qZ
theorem jm:HH (["self","age"]:Α) (["self","age"]:Α) (qm Z9):=qZ
theorem iP:HH (["self","button","age"]:Α) (["self","button","age"]:Α) (qm ZS):=qZ
theorem ip:HH (["self","button","age","count"]:Α) (["self","button","age","count"]:Α) (qm ZV):=qZ
theorem HS:HH (["self","press","name","age","code","button","pair","count","deed","word","behind"]:Α) (["self","press"]:Α) (qm Z8):=qZ
theorem MT:HH (["self","thing","answer"]:Α) (["self","thing"]:Α) (qm eE):=qZ
theorem iQ:HH (["self","thing"]:Α) (["self","thing"]:Α) (qm ZR):=qZ
theorem Lh:HH (["self","one","other","first","second","name","age","code"]:Α) (["self","one","other"]:Α) (qm cI):=qZ
theorem mz:HH (["self","name"]:Α) (["self","name"]:Α) (qm bW):=qZ
theorem L8:HH (["self","key","turned"]:Α) (["self","key"]:Α) (qm aB):=qZ
theorem gS:HH (["self","age"]:Α) (["self","age"]:Α) (qm ZF):=qZ
theorem jp:HH (["self"]:Α) (["self"]:Α) (qm ai):=qZ
theorem jP:HH (["self"]:Α) (["self"]:Α) (qm aA):=qZ
theorem ia:HH (["self"]:Α) (["self"]:Α) (qm ZL):=qZ
theorem gT:HH (["self"]:Α) (["self"]:Α) (qm Zx):=qZ
theorem k9:HH (["self"]:Α) (["self"]:Α) (qm bb):=qZ
theorem LV:HH (["self","twin"]:Α) (["self"]:Α) (qm ac):=qZ
theorem lu:HH (["self","table","key"]:Α) (["self","table","key"]:Α) (qm aY):=qZ
theorem gP:HH (["self","name"]:Α) (["self","name"]:Α) (qm Zw):=qZ
theorem ft:HH (["self","name"]:Α) (["self","name"]:Α) (qm Zb):=qZ
theorem LW:HH (["self","name","near","far","most","door"]:Α) (["self","name","near","far","most"]:Α) (qm aa):=qZ
theorem LM:HH (["self","name","step","age"]:Α) (["self","name","step"]:Α) (qm Zp):=qZ
theorem gI:HH (["self","pressed","deed"]:Α) (["self","pressed","deed"]:Α) (qm Zv):=qZ
theorem Lk:HH (["self","door","button","taught","pressed","one","other"]:Α) (["self","door","button"]:Α) (qm bU):=qZ
theorem L9:HH (["self","door","number","answer"]:Α) (["self","door","number"]:Α) (qm aN):=qZ
theorem Li:HH (["self","button","deed","doors","name","number"]:Α) (["self","button","deed","doors"]:Α) (qm Q9):=qZ
theorem ie:HH (["self","number","door"]:Α) (["self","number","door"]:Α) (qm ZM):=qZ
theorem LN:HH (["self","key","door"]:Α) (["self","key"]:Α) (qm Zn):=qZ
theorem Ll:HH (["self","button","turned","age"]:Α) (["self","button"]:Α) (qm Zk):=qZ
theorem LO:HH (["self","age","door"]:Α) (["self","age"]:Α) (qm Zm):=qZ
theorem ij:HH (["self","door","button"]:Α) (["self","door","button"]:Α) (qm ZO):=qZ
theorem jh:HH (["self","door"]:Α) (["self","door"]:Α) (qm Z5):=qZ
theorem LP:HH (["self","button","asked"]:Α) (["self","button"]:Α) (qm Zu):=qZ
theorem jo:HH (["self"]:Α) (["self"]:Α) (qm Z3):=qZ
theorem im:HH (["self","door"]:Α) (["self","door"]:Α) (qm ZT):=qZ
theorem LC:HH (["_law_script","_law_k","_law_cells","_law_cell","_law_fold","_law_one"]:Α) (["_law_script","_law_k"]:Α) (qm iq):=qZ
theorem Mp:HH (["_law_box_here","_law_many","_law_digit","_law_mix"]:Α) (["_law_box_here","_law_many"]:Α) (qm fM):=qZ
theorem Mg:HH (["_law_box_here","_law_table_here","_law_digit"]:Α) (["_law_box_here"]:Α) (qm eC):=qZ
theorem Nn:HH (["_law_box_here","_law_long"]:Α) (["_law_box_here"]:Α) (qm iJ):=qZ
theorem ug:HH (["_law_table_here","_law_key_here"]:Α) (["_law_table_here","_law_key_here"]:Α) (qm hW):=qZ
theorem mj:HH (["_law_word","_law_place"]:Α) (["_law_word","_law_place"]:Α) (qm bT):=qZ
theorem MU:HH (["_law_own_here","_law_word","_law_name","_law_parts","_law_some"]:Α) (["_law_own_here","_law_word","_law_name","_law_parts"]:Α) (qm eD):=qZ
theorem MA:HH (["_law_own_here","_law_gate","_law_button","_law_known"]:Α) (["_law_own_here","_law_gate","_law_button"]:Α) (qm cP):=qZ
theorem MV:HH (["_law_own_here","_law_word","_law_part","_law_gate"]:Α) (["_law_own_here","_law_word","_law_part"]:Α) (qm eL):=qZ
theorem Mh:HH (["_law_own_here","_law_name","_law_number","_law_answer"]:Α) (["_law_own_here","_law_name","_law_number"]:Α) (qm bo):=qZ
theorem Mq:HH (["_law_own_here","_law_button","_law_deed_here","_law_doors","_law_number"]:Α) (["_law_own_here","_law_button","_law_deed_here","_law_doors"]:Α) (qm bQ):=qZ
theorem jG:HH (["_law_own_here","_law_word","_law_button","_law_parts"]:Α) (["_law_own_here","_law_word","_law_button","_law_parts"]:Α) (qm aJ):=qZ
theorem MI:HH (["_law_own_here","_law_deed_here","_law_word","_law_gate"]:Α) (["_law_own_here","_law_deed_here"]:Α) (qm iA):=qZ
theorem LF:HH (["_law_house","_law_deed_here","_law_word","_law_parts","_law_handed","_law_told"]:Α) (["_law_house","_law_deed_here"]:Α) (qm cM):=qZ
theorem LR:HH (["_law_caught","_law_fits","_law_names"]:Α) (["_law_caught"]:Α) (qm eM):=qZ
theorem Lu:HH (["_law_house","_law_deed_here","_law_told","_law_caught","error","_law_word"]:Α) (["_law_house","_law_deed_here"]:Α) (qm ib):=qZ
theorem ei:HH (["_law_found","_law_due_here"]:Α) (["_law_found","_law_due_here"]:Α) (qm cr):=qZ
theorem Lq:HH (["_law_house","_law_own_here","_law_name","_law_button","_law_gate","_law_told"]:Α) (["_law_house","_law_own_here"]:Α) (qm eA):=qZ
theorem jI:HH (["_law_box_here","_law_some","_law_other"]:Α) (["_law_box_here","_law_some","_law_other"]:Α) (qm aS):=qZ
theorem LK:HH (["_law_box_here","_law_word","_law_pool"]:Α) (["_law_box_here","_law_word"]:Α) (qm bg):=qZ
theorem Lm:HH (["_law_box_here","_law_own_here","_law_words","_law_word","_law_door","_law_button","_law_near","_law_doors","_law_ages"]:Α) (["_law_box_here","_law_own_here","_law_words"]:Α) (qm gc):=qZ
theorem HW:HH (["_law_script","_law_great","_law_box_here","_law_table_here","_law_key_here","_law_lists","_law_house","_law_own_here","_law_many","_law_k","_law_word","_law_deed_here","_law_turn"]:Α) (["_law_script","_law_great"]:Α) (qm eR):=qZ
theorem MW:HH (["_law_house","_law_own_here","_law_deed_here","_law_found"]:Α) (["_law_house","_law_own_here","_law_deed_here"]:Α) (qm eG):=qZ
theorem Mr:HH (["_law_script","_law_box_here","_law_house","_law_own_here","_law_words","_law_k"]:Α) (["_law_script"]:Α) (qm cn):=qZ
structure Ld(K:ι)(mg:HE)(tk:Nat->Tok):Prop where
 g_DIGITS:mg "DIGITS"=↑(.int 16 (tk 0))
 g_KEY_PLACES:mg "KEY_PLACES"=↑(.int 4 (tk 1))
 g_LONGEST_NAME:mg "LONGEST_NAME"=↑(.int 8 (tk 2))
 g_CODE_DIGITS:mg "CODE_DIGITS"=↑(.int 5 (tk 3))
 g_AGES:mg "AGES"=↑(.int 8 (tk 4))
 g_COUNTS:mg "COUNTS"=↑(.int 4096 (tk 5))
 b_isinstance:mg "isinstance"=none
 b_bool:mg "bool"=none
 b_int:mg "int"=none
 b_tuple:mg "tuple"=none
 b_all:mg "all"=none
 b_len:mg "len"=none
 b_abs:mg "abs"=none
 b_list:mg "list"=none
 b_enumerate:mg "enumerate"=none
 b_range:mg "range"=none
 b_max:mg "max"=none
 b_min:mg "min"=none
 b_str:mg "str"=none
 b_zip:mg "zip"=none
 b_ord:mg "ord"=none
 b_sum:mg "sum"=none
 b_reversed:mg "reversed"=none
 b_sorted:mg "sorted"=none
 b_dict:mg "dict"=none
section
variable{tk:Nat->Tok}
theorem oU(a:At K mg "is_number" ef ["thing"])(T:Ld K mg tk):Df P w K mg base "is_number" W6 1 M8:=by
 refine a.dq oS λf _ A _ s H d Q E e h=>?_
 .let#[x,t,rfl,hk,q]:=h
  let#[ty,c]:=DZ (K:=K) hk
  exists _,(qh (qp (Qj (qq p9 T.b_isinstance Jz (qc ql (qc (za (v:= .ty "int") Z T.b_int Gb Z) qa))) (QD (iO (qq p9 T.b_isinstance Jz (qc ql (qc (za (v:= .ty "bool") Z T.b_bool Iz Z) qa))))))))
  rw[BN hk]at q;exists 0,x,"int",t,Z,ty,c,by simp,0
  cases hi:Qo t "int" with
  |false=>
   refine zx ?_
   rw[hi,Fx]at q;exact q
  |true=>
   refine Qa ?_
   rw[hi,FW]at q
   exact#[0,x,"bool",t,Z,ty,c,by simp,0,q]
theorem sk(a:At K mg "is_digit" fU ["thing"])(T:Ld K mg tk)(e:Df P w K mg base "is_number" W6 1 M8):Df P w K mg base "is_digit" W6 2 Oz:=by
 refine a.dq sv λf _ A _ s H j Q E g h=>?_
 .let#[x,t,rfl,hk,q]:=h
  exists _,(qh (qp (Qj (qy e g.mo (qc ql qa)) (QD (jU av dh qj ql (zk (v:= .int 16) Z T.g_DIGITS #[0]))))))
  exists 0,x,t,Z,hk,0
  cases hn:kf x with
  |false=>
   refine zx ?_
   rw[vt hn]at q;exact q
  |true=>
   refine Qa ?_
   let#[i,rfl]:=yp hn;exists 16
   have c:Q (.bl (decide (0<=i)&&decide (i<16))) H:=q
   refine qO (λd=>?_) (λd=>?_)
   .exists 4
    rw[d,FW]at c;exact c
   .rw[Iy.mpr d,Fx]at c
    exact c
theorem oi(a:At K mg "are_digits" cN ["things"])(T:Ld K mg tk)(m:Df P w K mg base "is_digit" W6 2 Oz):Df P w K mg base "are_digits" ["things"] 3 N7:=by
 refine a.dq og λf _ A _ s H u Q E r h=>?_
 .let#[p,xs,rfl,g,n,hk,q]:=h
  exists _,(qh (qp (qq (bL Z) T.b_all GY (qc (QR (own:=["thing"]) (fr:=[]) (js:=[]) Z (lC ql) Z (λ_ _ h=>nomatch h) Z (iy Z nofun nofun nofun) (λ_ _ _ _=>qD 0 (show List.Nodup (["thing"]:Α)from by decide +kernel) Z (Or.inl Z) (.inr Z)) (λ_ _ _ _=>(qy m r.mo (qc ql qa)))) qa))))
  refine#[0,p,Z,#[xs,HQ.of g],gu (xs:=xs) n (λi ys d=>ys=(xs.take i).map (λx=>V.bl (gl x))/\HG H d) #[by simp,HG.refl H] (λi ys d ⟨_,c⟩=>HQ.of (c _ _ g)) ?_ ?_]
  .rintro i ys d x e _ ⟨rfl,c⟩
   let#[t,j]:=hk x (Jo e)
   refine#[0,x,t,Z,jc c j,?_,c]
   rw[FC,e];simp
  .rintro ys d _ ⟨rfl,c⟩ l o
   rw[FU];exists l,xs.map gl,Z,HP.of (by rw[FD];exact qb)
   rw[List.all_map];exact q _ (c.trans (HG.upd o))
theorem tL(a:At K mg "is_name" hV ["thing"])(T:Ld K mg tk):Df P w K mg base "is_name" W6 1 NA:=by
 refine a.dq uO λf _ A _ s H D Q E F h=>?_
 .let#[x,b,rfl,o,q]:=h
  exists _,(qg (qC (QW.pt (Q7 (Qg (zW (qq zh T.b_isinstance Jz (qc ql (qc (za (v:= .ty "str") Z T.b_str FE Z) qa))))) (Q4 (Qg (cB av av qj (qq pe T.b_len JE (qc ql qa)) (zk (v:= .int 8) Z T.g_LONGEST_NAME #[0])))))) (qh (qp Q0)) qr)
   (qh (qp (qq (bL Z) T.b_all GY (qc (QR (own:=["letter"]) (fr:=[]) (js:=[]) Z (vy ql) Z (λ_ _ h=>nomatch h) Z (iy Z nofun nofun nofun) (λ_ _ _ _=>qD 0 (show List.Nodup (["letter"]:Α)from by decide +kernel) Z (Or.inl Z) (.inr Z)) (λ_ _ _ _=>(jU nT nT qi ql qi))) qa)))))
  rcases o with⟨z,rfl,r,y,rfl⟩|⟨t,hk,B,rfl⟩
  case inr=>
   exists 0,x,"str",t,Z,rC hk,by simp,0
   rw[B];exact Qa (q _ (HG.refl _))
  have C:z.length=z.cps.toList.length:=Z
  exists 10,"str","str",Z,.str z,by simp,0
  refine zx ?_
  exists 0,z,Z,by rw[Jn];lia,_,_,Z,Z,_,Z
  unfold Az at q
  by_cases h1:1<=z.length
  case neg=>
   refine zz (Jm (by lia)) #[0,Qa ?_]
   rw[Jm h1,Fx,Fx]at q;exact q _ (HG.refl _)
  refine zZ (Je (by lia)) ?_
  exists 9
  rw[Je h1,FW]at q
  by_cases n:z.length<=8
  case neg=>
   refine zZ (by rw[Jm (by lia:¬((z.length:Nat):Int)<=8)];rfl) ?_
   rw[Jm n,Fx]at q;exact q _ (HG.refl _)
  refine zz (by rw[Je (by lia:((z.length:Nat):Int)<=8)];rfl) ?_
  rw[Je n,FW]at q;refine#[0,z,Z,r,Al (by show z.cps.toList.length<=_;rw[Jn];lia) (λi ys j=>j=H/\ys=((z.cps.toList.take i).map pS).map V.bl) #[12] ?_ ?_]
  .rintro i ys j c u _ ⟨rfl,rfl⟩
   have g:=sG u;let#[m,p]:=ur c;exists 16
   rw[FC,g,JG,JG]
   by_cases d:97<=c
   .refine zZ (by rw[m,Je d]) #[_,_,Z,Z,Z,?_]
    rw[p]
    show _=_++[V.bl (decide (97<=c)&&decide (c<=122))]
    rw[Je d,FW]
   .refine zz (by rw[m,Jm d]) #[Z,?_]
    show _=_++[V.bl (decide (97<=c)&&decide (c<=122))]
    rw[Jm d,Fx]
  .rintro ys j y ⟨rfl,rfl⟩ l e
   exists l,z.cps.toList.map pS,Z,HP.of (by rw[show z.cps.size=z.cps.toList.length from Z,FU];exact qb)
   rw[List.all_map];exact q _ (HG.upd e)
theorem tH(a:At K mg "is_code" iB ["thing"])(T:Ld K mg tk)(i:Df P w K mg base "are_digits" ["things"] 3 N7):Df P w K mg base "is_code" W6 4 NB:=by
 refine a.dq uf λf _ A _ s H m Q E j h=>?_
 .let#[x,b,rfl,g,q]:=h
  exists _,(qg (qC (Qg (zW (qq zh T.b_isinstance Jz (qc ql (qc (za (v:= .ty "tuple") Z T.b_tuple JB Z) qa))))) (qh (qp Q0)) qr)
   (qh (qp (Qj (Qf qV (qq qL T.b_len JE (qc ql qa)) (zk (v:= .int 5) Z T.g_CODE_DIGITS #[0]) (qz _)) (QD (qy i j.mo (qc ql qa)))))))
  rcases g with⟨e,ds,rfl,c,n,hk,rfl⟩|⟨t,hk,l,rfl⟩
  case inr=>
   exists 0,x,"tuple",t,Z,rC hk,by simp,0
   rw[l];exact Qa (q _ (HG.refl _))
  exists 10,"tuple","tuple",Z,.tup (.inl c),by simp,0
  refine zx ?_
  exists 0,e,0,.inr (HQ.of c),7
  by_cases d:ds.length=5
  .refine zZ (Je (by rw[d];rfl)) ?_
   refine#[0,e,0,c,by rw[Jn];lia,hk,λH' s'=>?_]
   rw[Je d,FW]at q;exact q _ s'
  .rw[Jm d,Fx]at q
   refine zz (Jm (by intro z;injection z with z;lia)) ?_
   exact q _ (HG.refl _)
theorem sf(a:At K mg "is_press" fW ["thing"])(T:Ld K mg tk)(p:Df P w K mg base "is_name" W6 1 NA)(m:Df P w K mg base "is_number" W6 1 M8)(j:Df P w K mg base "is_code" W6 4 NB):Df P w K mg base "is_press" W6 5 MG:=by
 refine a.dq LU λf _ A _ s H u Q E g h=>?_
 .let#[x,b,rfl,i,q]:=h
  exists _,(qg (qC (QW.pt (Q7 (Qg (zW (qq zh T.b_isinstance Jz (qc ql (qc (za (v:= .ty "tuple") Z T.b_tuple JB Z) qa))))) (Q4 (qw bu (qq qL T.b_len JE (qc ql qa)) qj (qz _))))) (qh (qp Q0)) qr)
   (qg (Qy ql (cO Z (qQ (qD 1 LU.nd) (qQ (qD 2 LU.nd) (qQ (qD 3 LU.nd) Qu)))))
   (qh (qp (Qj (qy p g.mo (qc qB qa)) (Qj (qy m g.mo (qc qJ qa)) (QD (qy j g.mo (qc qP qa)))))))))
  cases i with
  | @kd t hk hs=>
   exists 0,x,"tuple",t,Z,rC hk,by simp,0
   rw[hs];exact Qa (q _ (HG.refl _))
  | @len a xs e h l n=>
   subst e;exists 10,"tuple","tuple",Z,.tup (.inl h),by simp,0
   refine zx ?_
   exists 0,a,0,.inr (HQ.of h),7
   refine zZ (by rw[Jm (by intro z;injection z with z;lia)];rfl) ?_
   exact q _ (HG.refl _)
  | @tup a n y c bn bc ty e h hn hy hc=>
   subst e;exists 10,"tuple","tuple",Z,.tup (.inl h),by simp,0
   refine zx ?_
   exists 0,a,0,.inr (HQ.of h),7
   refine fK Z ?_
   exists 0,a,0,.tup h,13
   refine#[0,n,bn,Z,hn,λH1 d=>#[0,?_]]
   cases bn with
   |false=>exact zx (q _ d)
   |true=>
    refine Qa ?_
    exists 0,y,ty,Z,jc d hy,0
    cases hnum:kf y with
    |false=>
     rw[hnum]at q;exact zx (q _ d)
    |true=>
     rw[hnum]at q;refine Qa ?_
     exact#[0,c,bc,Z,hc.same d,λr o=>q _ (d.trans o)]
end
section
variable{tk:Nat->Tok}
noncomputable def As(K:ι)(C:Δ):Sp:=λh H Q _=>∃(p a b dx:Δ) (d f e:Int) (t:Ε) (c:List Ε),h=[-p,-a,-b,.int d,.int f,.int e]/\H p=↑(.ins C dx [])/\Sq K H a (t.map V.int)/\(∃g:Η,Sq K H b (g.map V.ref)/\g.length=c.length/\∀(i:Nat) (a:Δ) (ks:Ε),g[i]? =↑a->c[i]? =↑ks->HQ [] H a (ks.map V.int))/\c.length<=8/\
 ∀ta hk bd lg H',H hk=none->H bd=none->H lg=none->Mv [p] H H'->HK K C H' p ta hk bd lg 0 #[t,c,d,f,e,(0),[]]->Le [] H' hk c->Q .non H'
theorem B4{fs:List (Str×V)}(e:H p=↑(.ins C dx fs))(h:Sq K H a xs):Sq K (HI H p o) a xs:=by
 rcases h with((h|⟨u,h⟩)|h)|h
 .exact .inl (.inl (.inl (by rw[qk (zr h e (by intro z;cases z))];exact h)))
 .exact .inl (.inl (.inr #[u,by rw[qk (zr h e (by intro z;cases z))];exact h]))
 .exact .inl (.inr h)
 .exact .inr (Qd e h)
theorem c9(a:Ly K C "__init__" "Door.__init__" Zc ["self","table","keys","near","far","most"])(T:Ld K mg tk)(U:LS K C):Mf P w K mg base C "__init__" x5 1 (As K C):=by
 refine a.mq ml λf _ A _ s H vs Q E hr h=>?_
 .let#[p,a,b,dx,N,a2,J,t,r,rfl,hp,ha,hb,hl,q]:=h
  exists _,(qg (zy ql (qI Ze T.b_tuple JB (qc qB qa)))
   (qg (zy ql (QR (own:=["key"]) (fr:=[]) (js:=[]) Z (fA qJ) Z (λ_ _ h=>nomatch h) Z (iy Z nofun nofun nofun) (λ_ _ _ _=>qD 0 (show List.Nodup (["key"]:Α)from by decide +kernel) Z (Or.inl Z) (.inr Z)) (λ_ _ _ _=>(qI Zg T.b_tuple JB (qc ql qa)))))
   (qg (zy ql qP)
   (qg (zy ql Qk)
   (qg (zy ql Qw)
   (qg (zy ql qj)
   (qg (zy ql ag)
   (qh (zy ql (zp qa))))))))))
  refine#[0,a,0,ha,λta H2 O ht=>#[0,p,0,Zo U.cl (O _ _ hp) U.n_table 0,?_]]
  have e2:=O _ _ hp;let#[as,eb,Y,z]:=hb;have eb:=B4 (o:= .ins C dx [("table",-ta)]) e2 (eb.same O)
  have z:=λi a ks n d=>Qd (o:= .ins C dx [("table",-ta)]) e2 (HG.sqt O (z i a ks n d))
  have a0:=Qd (o:= .ins C dx [("table",-ta)]) e2 ht
  refine#[0,b,Z,BD (K:=K) eb (by rw[Jb,Y,Jn];lia) (λi ys H3=>HG (HI H2 p (.ins C dx [("table",-ta)])) H3/\∃bs:Η,ys=bs.map V.ref/\bs.length=i/\∀(j:Nat) (x:Δ) (ks:Ε),bs[j]? =↑x->r[j]? =↑ks->HQ [] H3 x (ks.map V.int)) #[HG.refl _,[],12,λj x ks e=>by(cases e)] (λi ys H3 h=>h.1) ?_ ?_]
  .rintro i ys H3 x I a1 ⟨G,bs,rfl,F,D⟩
   rw[Jp]at I;cases ea:as[i]? with
   |none=>rw[ea]at I;cases I
   |some x0=>
    rw[ea]at I
    obtain rfl:V.ref x0=x:=JF I
    have hi:i<r.length:=by rw[<- Y];exact(Jt.mp ea).1
    have a3:=z i x0 r[i] ea (Jk hi);refine#[0,x0,0,.inr (HG.sqt G a3).rd,λl H4 s4 X=>#[G.trans s4,bs++[l],by simp,by simp [F],λj y ks n d=>?_]]
    rw[IV]at n;split at n
    .exact HG.sqt s4 (D j y ks n d)
    .have hj:j-bs.length=0:=by
      cases hj:j-bs.length with
      |zero=>rfl
      |succ k=>rw[hj]at n;cases n
     rw[hj]at n;cases n
     have:j=i:=by lia
     subst this;rw[Jk hi]at d;cases d;exact .inl X
  .rintro ys H3 a1 ⟨G,bs,rfl,F,D⟩ hk B
   have R:=HG.upd (o:= .lst (bs.map V.ref)) B
   have e3:=R _ _ (G _ _ qb);exists 0,p,0,Zo U.cl e3 U.n_house_keys 1
   exists 3,p,0,Zo U.cl qb U.n_near 2
   exists 3,p,0,Zo U.cl qb U.n_far 3
   exists 3,p,0,Zo U.cl qb U.n_most 4
   exists 0,p,0,Zo U.cl qb U.n_least_age 5
   refineλbd g=>#[0,p,0,Zo U.cl (by rw[qk (qu qb g)];exact qb) U.n_buttons 6,?_]
   have u:=qu qb g;refine#[Hf,λlg m=>#[0,p,0,Zo U.cl (by rw[qk (qu qb m)];exact qb) U.n_log 7,?_]]
   have L:=qu qb m;have m3:Mv [p] H H3:=((O.mv (S:=[p])).trans Mv.upd1).trans G.mv
   have c:hk≠p:=(qu (G _ _ qb) B).symm
   have m4:Mv [p] H (HI H3 hk (.lst (bs.map V.ref))):=m3.trans R.mv
   have M:∀o1 o2 o3 o4 o5,Mv [p] (HI H3 hk (.lst (bs.map V.ref))) (HI (HI (HI (HI (HI (HI H3 hk (.lst (bs.map V.ref))) p o1) p o2) p o3) p o4) p o5):=λo1 o2 o3 o4 o5=>(((Mv.upd1.trans Mv.upd1).trans Mv.upd1).trans Mv.upd1).trans Mv.upd1
   have M6:Mv [p] (HI H3 hk (.lst (bs.map V.ref))) _:=(((M _ _ _ _ _).trans (HG.upd g).mv).trans Mv.upd1).trans (HG.upd (o:= .lst []) m).mv
   have W:=M6.trans (Mv.upd1 (o:= .ins C dx (dF #[t,r,N,a2,J,(0),[]] ta hk bd lg)))
   have nt:NT [p] (HI H3 hk (.lst (bs.map V.ref))):=NT.one e3 trivial
   have v:bd≠lg:=qu (by rw[qk u.symm];exact qb) m
   have KR:=Le.mv W nt (zv c) (show Le [] _ hk r from#[bs,qb,by rw[F,Jb,Y],λj x ks n d=>HG.sqt R (D j x ks n d)])
   refine q ta hk bd lg _ (m3.nfree (zv c) B) ((m4.trans (M _ _ _ _ _)).nfree (zv u.symm) g) ((m4.trans ((((M _ _ _ _ _).trans (HG.upd g).mv).trans Mv.upd1))).nfree (zv L.symm) m) (m4.trans W) #[#[dx,qb],?_,Le.up KR,?_,?_,?_] KR
   .exact W.sqt nt (HG.sqt R (HG.sqt G a0))
   .exact#[([],λ_=>0),by rw[qk u.symm,qk v,qk u.symm];exact qb,λe he=>by(cases he),.refl _,Ga]
   .exact#[[],by rw[qk L.symm];exact qb,Jf _]
   .refine(qu (o:= .lst (bs.map V.ref)) ?_ m).symm
    rw[qk c];rw[qk (qu (o:= .lst (bs.map V.ref)) (by rw[qk c,qk c,qk c,qk c,qk c];exact qb) g)]
    rw[qk c,qk c,qk c,qk c,qk c];exact qb
theorem lM(a:Ly K C "__init__" "Door.__init__" Zc ["self","table","keys","near","far","most"])(T:Ld K mg tk)(U:LS K C):Mf P w K mg base C "__init__" x5 1 (NV K C):=(c9 a T U).weak (by
 rintro j H Q E ⟨p,a,b,dx,n,f,m,t,c,e,h1,d,⟨g,h,l,r⟩,i,q⟩
 exact#[p,a,b,dx,n,f,m,t,c,e,h1,d,#[g,.inl (HP.of h),l,r],i,q])
theorem kR(a:Ly K C "is_full" "Door.is_full" aZ ["self"])(T:Ld K mg tk)(U:LS K C):Mf P w K mg base C "is_full" v1 1 (NR K C):=by
 refine a.mq kU λf _ A _ s H g Q E i h=>?_
 .let#[p,ta,hk,bd,lg,n,D,rfl,b,q]:=h
  let#[d,e,_,c,_]:=b.kb;exists _,(qh (qp (Qf cY (qq wy T.b_len JE (qc (qA ql) qa)) (qA ql) (qz _))))
  exists 0,p,0,b.h_buttons U,bd,0,e,0,p,0,b.h_most U,4
  rw[show(cQ d.1 d.2).length=D.kn.length from(Jb _).trans c.length_eq]
  exact q
theorem ju(a:Ly K C "button_of" "Door.button_of" Z7 ["self","name"])(T:Ld K mg tk)(U:LS K C):Mf P w K mg base C "button_of" v3 1 (OZ K C):=by
 refine a.mq jl λf _ A _ s H o Q E m h=>?_
 .let#[p,ta,hk,bd,lg,n,D,nm,rfl,b,l,j]:=h
  exists _,(qh (qp (pK m (qA ql) qB)))
  let#[q,d,_]:=id b.kb;exists 0,p,0,b.h_buttons U,bd,Z,.inl #[_,.inl d],0
  rcases b.kb.get nm with⟨c,g⟩|⟨e,x,c,g,i⟩
  .exact#[_,g,l c]
  .exact#[_,g,j e x c i]
theorem jx(a:Ly K C "takes_age" "Door.takes_age" Z9 ["self","age"])(T:Ld K mg tk)(U:LS K C):Mf P w K mg base C "takes_age" X2 1 (MP K C):=by
 refine a.mq jm λf _ A _ s H g Q E i h=>?_
 .let#[p,ta,hk,bd,lg,n,D,age,rfl,b,q]:=h
  let#[e,d,c,_]:=b.ks;exists _,(qh (qp (jU av dh (qA ql) qB (qq qL T.b_len JE (qc (qA ql) qa)))))
  unfold ZW at q;exists 0,p,0,b.h_least_age U,16
  refine qO (λz=>?_) (λz=>?_)
  .rw[z,FW]at q
   exists 0,p,0,b.h_house_keys U,hk,0,.inl (HP.of d),4
   rw[Jb,c];exact q
  .rw[Iy.mpr z,Fx]at q
   exact q
theorem iw(a:Ly K C "read_right" "Door.read_right" ZR ["self","thing"])(T:Ld K mg tk)(U:LS K C)(J:Df P w K mg base "is_press" W6 5 MG)(B:Mf P w K mg base C "takes_age" X2 1 (MP K C))(I:Df P w K mg base "read_press" Y0 3 (Os K)):Mf P w K mg base C "read_right" V1 6 (NC K C):=by
 refine a.mq iQ λf _ A _ s H W Q E m h=>?_
 .let#[p,ta,hk,bd,lg,n,D,x,o,rfl,b,ok,tg,q]:=h
  exists _,(qg (qC (QW.pt (Q7 (Qg (zW (qy J m.mo (qc qB qa)))) (Q4 (Qg (zW (zc B U.cl m.mo ql (qc (qE qS qB qj) qa))))))) (qh (qp zo)) qr)
   (qh (qp (qy I m.mo (qc (qA ql) (qc (qE qU (qA ql) (qE qS qB qj)) (qc qB qa)))))))
  refine#[0,x,0,tg.b,λH1 i=>#[0,?_]]
  cases o with
  |none=>exact Qa (Qa (q .non _ i Z))
  |some PP=>
  let#[pr,rfl,S,v,u,e]:=tg;have q:∀y H',HG H H'->ir H' y (ii D PP)->Q y H':=q
  let#[nm,age,ds]:=PP;simp only at v u e
  refine zx ?_
  have d:=b.same i;let#[L,c,g]:=Ln.same i S;exists 0,p,Z,d.no,0,pr,1,HQ.of c,Z,p,ta,hk,bd,lg,n,D,age,Z,d,0
  unfold ii at q;cases ht:ZW D age with
  |false=>
   rw[Jc (by rw[ht];intro z;cases z)]at q
   exact Qa (q _ _ i Z)
  |true=>
  rw[Jd ht]at q;refine zx ?_
  have t:aP D #[age,(0),none] age=true:=by unfold aP;rw[ht,Je (F8 _)];rfl
  let#[F,M]:=nM t ok.l0;let#[xs,O,G,r,l]:=d.ks.at F M
  exact#[0,p,0,d.h_table U,0,p,0,d.h_house_keys U,0,pr,1,HQ.of c,Z,hk,1,HP.of G,r,0,ta,O,pr,L,nm,age,D.t,aI D age,ds,Z,.inr d.tb,.inr l,.tup c,.tup g,v,ok.tp,u,e,λy N R j=>q y N (i.trans R) j]
theorem jv(a:Ly K C "known_now" "Door.known_now" ai ["self"])(T:Ld K mg tk)(U:LS K C):Mf P w K mg base C "known_now" v1 1 (MQ K C):=by
 refine a.mq jp λf _ A _ s H vs Q E hr h=>?_
 .let#[p,ta,hk,bd,lg,n,D,rfl,b,ok,q]:=h
  let#[fn,hd,a5,M,_]:=id b.kb;exists _,(qh (qp (qI zf T.b_tuple JB (qc (QR (own:=["name"]) (fr:=["self"]) (js:=[0]) Z (lN (qq (oY Z) T.b_sorted PyProof.Rows.boot_sorted (qc (qA ql) qa))) Z (Ai Z) Z (wF Z nofun nofun nofun Z Z Z) (λ_ _ _ _=>qD 0 (show List.Nodup (["name","self"]:Α)from by decide +kernel) Z (Or.inl Z) (.inr Z)) (λ_ _ _ _=>(qF lO (qM (qc ql qa)) (qH hr (BG (K:=K) Z qB) ql)))) qa))))
  refine#[0,p,0,b.h_buttons U,bd,_,fn.1.map (·.1),Z,hd,BV _ _,by rw[Jb,M.length_eq];have:=ok.nl;lia,λl u hl a3 so=>#[l,Z,#[_,HP.of qb],?_]]
  have pm:=a3.trans (M.map (·.1))
  have u1:=HG.upd (o:= .lst (u.map V.str)) hl
  have ls:u.length<=60:=by rw[pm.length_eq,Jb];exact ok.nl
  refine cZ (K:=K) (xs:=u.map V.str) (by rw[Jb,Jn];lia) (λi ys H3=>HG (HI H l (.lst (u.map V.str))) H3/\∃m:Η,ys=m.map V.ref/\m.length=i/\∀(j:Nat) (x:Δ) (nm:Str) (e:Kb),m[j]? =↑x->u[j]? =↑nm->D.kn.lookup nm=↑e->∃v,H3 x=↑(.tup [.str nm,.int e.age,.int e.last,v])/\Wt H3 v e.wt) #[HG.refl _,[],12,λj x nm e h=>by(cases h)] (λi ys H3 ⟨F,_⟩=>F.seq (HP.of qb)) ?_ ?_
  .rintro i ys H3 x I a0 ⟨F,m,rfl,r,has⟩
   rw[Jp]at I;cases es:u[i]? with
   |none=>rw[es]at I;cases I
   |some nm=>
    rw[es]at I
    obtain rfl:V.str nm=x:=JF I
    have J:nm∈D.kn.map (·.1):=pm.mem_iff.mp (Jo es)
    let#[e,R]:=Zd J;have b3:=b.same (u1.trans F);let#[e',x0,d,g,v0,W,O]:=(b3.kb.get nm).resolve_left (λz=>by rw[R]at z;cases z.1)
    rw[R]at d;cases d;refine#[0,Hh,λt ht=>?_]
    have G:=HG.upd (o:= .tup [.str nm]) ht
    have b4:=b3.same G;let#[e',x0,d,g,v0,W,O]:=(b4.kb.get nm).resolve_left (λz=>by rw[R]at z;cases z.1)
    rw[R]at d;cases d;refine#[0,p,0,b4.h_buttons U,0,bd,0,g,t,x0,4,qb,W,Ho,λq1 H5 X B=>?_]
    refine#[(F.trans G).trans X,m++[q1],by simp,by simp [r],λj y m2 e2 h1 N L=>?_]
    rw[IV]at h1;split at h1
    .let#[v,a1,Y]:=has j y m2 e2 h1 N L
     exact#[v,X _ _ (G _ _ a1),Y.mv (S:=[]) (G.trans X).mv (λc h=>nomatch h)]
    .have hj:j-m.length=0:=by
      cases hj:j-m.length with
      |zero=>rfl
      |succ k=>rw[hj]at h1;cases h1
     rw[hj]at h1;cases h1
     obtain rfl:j=i:=by lia
     rw[es]at N;cases N;rw[R]at L;cases L
     exact#[v0,B,O.mv (S:=[]) X.mv (λc h=>nomatch h)]
  .rintro ys H3 a0 ⟨F,m,rfl,r,has⟩ l2 a4
   have G:=HG.upd (o:= .lst (m.map V.ref)) a4
   refine#[l2,0,.inl #[HP.of qb,λq1 B=>?_]]
   have u5:=HG.upd (o:= .tup (m.map V.ref)) B
   have S:=G.trans u5;refine q q1 u _ ((u1.trans F).trans S) pm so #[m,qb,by rw[r,Jb],λj x nm e h1 N L=>?_]
   let#[v,a1,Y]:=has j x nm e h1 N L
   exact#[v,S _ _ a1,Y.mv (S:=[]) S.mv (λc h=>nomatch h)]
end
section
variable{tk:Nat->Tok}
theorem uE(a:At K mg "word_of" io ["count","last","near","far"])(T:Ld K mg tk):Df P w K mg base "word_of" ["count","last","near","far"] 1 OE:=by
 refine a.dq uK λf _ A _ s H d Q E e h=>?_
 .let#[c,l,n,f,rfl,q]:=h
  unfold tW at q;exists _,(qg (qC (qw av ql qB (qz _)) (qh (qp qi)) qr)
   (qg (qC (qw av ql (qF zt qB qJ) (qz _)) (qh (qp qi)) qr)
   (qg (qC (qw av ql (qF zt qB qP) (qz _)) (qh (qp qi)) qr)
   (qh (qp qi)))))
  exists 43
  refine qO (λz=>?_) (λz=>?_)
  .rw[Jd (Jv z)]at q;exact q
  .rw[Jc (λy=>z (Je y))]at q
   exists 21
   refine qO (λz=>?_) (λz=>?_)
   .rw[Jd (Jv z)]at q;exact q
   .rw[Jc (λy=>z (Je y))]at q
    exists 21
    refine qO (λz=>?_) (λz=>?_)
    .rw[Jd (Jv z)]at q;exact q
    .rw[Jc (λy=>z (Je y))]at q;exact q
theorem tK(a:At K mg "step_by" iu ["button","age","count","near","far"])(T:Ld K mg tk)(L:Df P w K mg base "word_of" ["count","last","near","far"] 1 OE):Df P w K mg base "step_by" V2 2 OF:=by
 refine a.dq LB λf _ A _ s H N Q E J h=>?_
 .let#[a,e,age,c,j,n,rfl,#[v,I,x],q]:=h
  exists _,(qg (Qy ql (cO Z (qQ (qD 5 LB.nd) (qQ (qD 6 LB.nd) (qQ (qD 7 LB.nd) Qu)))))
   (qg (qG 8 LB.nd (qy L J.mo (qc qJ (qc ar (qc qP (qc Qk qa))))))
   (qg (qC (QW.pt (iT (qw qV (qv 8) qi (qz _)) (eZ (qw (DF J) (qv 7) (qM (qc qB (qc (qF QU qJ qj) qa))) (qz _))))) (qh (qG 8 LB.nd qi)) qr)
   (qg (qC (qw qV (qv 8) qi (qz _)) (qh (qp (qM (qc (qv 8) (qc (qM (qc qB (qc qJ (qc zo qa)))) qa))))) qr)
   (qg (qC (qw qV (qv 8) qi (qz _)) (qh (qp (qM (qc (qv 8) (qc (qM (qc Qw (qc ar (qc (qM (qc qB (qc qJ qa))) qa)))) qa))))) qr)
   (qh (qp (qM (qc (qv 8) (qc ql qa))))))))))
  exists 0,a,0,.tup I,13
  exists 27,c,e.last,j,n,Z
  unfold ZI at q;unfold tW
  by_cases h1:c<=e.last
  .rw[Jd h1]
   rw[Jd h1]at q;exists 2
   refine qO (λy=>absurd (Jv y) nofun) (λ_=>?_)
   exists 2
   refine qO (λy=>absurd (Jv y) nofun) (λ_=>?_)
   exists 2
   refine qO (λy=>absurd (Jv y) nofun) (λ_=>?_)
   refine#[3,Hj,λg d=>?_]
   exact q g a _ (HG.upd d) qb (L5.same (HG.upd d) #[v,I,x])
  .rw[Jc h1]
   rw[Jc h1]at q
   by_cases r:c<=e.last+j
   .rw[Jd r]
    rw[Jd r]at q;exists 2
    refine qO (λy=>absurd (Jv y) nofun) (λ_=>?_)
    exists 2
    refine qO (λ_=>?_) (λy=>absurd (Je Z) y)
    refine#[5,Hn,λt l=>#[Hj,λg d=>?_]]
    have m:=HG.upd (o:= .tup [.int age,.int c,.non]) l
    have i:=HG.upd (o:= .tup [.str "near",-t]) d
    exact q g t _ (m.trans i) qb #[.non,i _ _ qb,Z]
   .rw[Jc r]
    rw[Jc r]at q
    by_cases p:c<=e.last+n
    .rw[Jd p]
     rw[Jd p]at q;exists 2
     refine qO (λ_=>?_) (λy=>absurd (Je Z) y)
     refine#[44,Hj,λM C=>?_]
     have F:=HG.upd (o:= .tup [.int age,.int (c-1)]) C
     have G:=x.mv (S:=[]) F.mv (λc h=>nomatch h)
     exists e.wt,M,age,c-1,G,Z,.inl qb,0
     by_cases u:e.wt=↑(age,c-1)
     .rw[Jd u]at q
      refine zZ (Je u) ?_
      exists 2
      refine qO (λ_=>?_) (λy=>absurd (Je Z) y)
      refine#[5,Hn,λt l=>#[Hj,λg d=>?_]]
      have m:=HG.upd (o:= .tup [.int age,.int c,.non]) l
      have i:=HG.upd (o:= .tup [.str "near",-t]) d
      exact q g t _ ((F.trans m).trans i) qb #[.non,i _ _ qb,Z]
     .rw[Jc u]at q
      refine zz (Jm u) ?_
      exists 2
      refine qO (λy=>absurd (Jv y) nofun) (λ_=>?_)
      exists 2
      refine qO (λ_=>?_) (λy=>absurd (Je Z) y)
      refine#[28,Hj,λz D=>#[Hn,λt l=>#[Hj,λg d=>?_]]]
      have m:=HG.upd (o:= .tup [.int age,.int c]) D
      have i:=HG.upd (o:= .tup [.int e.age,.int e.last,-z]) l
      have B:=HG.upd (o:= .tup [.str "far",-t]) d
      exact q g t _ (((F.trans m).trans i).trans B) qb #[-z,B _ _ qb,z,Z,B _ _ (i _ _ qb)]
    .rw[Jc p]
     rw[Jc p]at q;exists 2
     refine qO (λy=>absurd (Jv y) nofun) (λ_=>?_)
     exists 2
     refine qO (λy=>absurd (Jv y) nofun) (λ_=>?_)
     exists 2
     refine qO (λy=>absurd (Jv y) nofun) (λ_=>?_)
     refine#[3,Hj,λg d=>?_]
     exact q g a _ (HG.upd d) qb (L5.same (HG.upd d) #[v,I,x])
end
section
variable{tk:Nat->Tok}
theorem iS(a:Ly K C "takes_from" "Door.takes_from" ZS ["self","button","age"])(T:Ld K mg tk)(U:LS K C)(d:Mf P w K mg base C "takes_age" X2 1 (MP K C)):Mf P w K mg base C "takes_from" Y1 2 (NS K C):=by
 refine a.mq iP λf _ A _ s H j Q E g h=>?_
 .let#[p,ta,hk,bd,lg,x,n,D,e,age,rfl,b,#[v,c,i],q]:=h
  exists _,(qh (qp (Qj (zc d U.cl g.mo ql (qc qJ qa)) (QD (Qf cY qJ (qE qS qB qj) (qz _))))))
  unfold aP at q;exists 0,p,Z,b.no,0,p,ta,hk,bd,lg,n,D,age,Z,b,0
  refine qO (λz=>?_) (λz=>?_)
  .rw[z,FW]at q
   exact#[3,x,1,HQ.of c,32,q]
  .rw[Iy.mpr z,Fx]at q
   exact q
theorem iV(a:Ly K C "plain_step" "Door.plain_step" ZV ["self","button","age","count"])(T:Ld K mg tk)(U:LS K C)(j:Mf P w K mg base C "takes_from" Y1 2 (NS K C))(l:Df P w K mg base "step_by" V2 2 OF):Mf P w K mg base C "plain_step" Y6 3 (OG K C):=by
 refine a.mq ip λf _ A _ s H m Q E g h=>?_
 .let#[p,ta,hk,bd,lg,x,n,D,e,age,c,rfl,b,d,i,q]:=h
  exists _,(qg (qC (Qg (zW (zc j U.cl g.mo ql (qc qB (qc qJ qa))))) (qh (qp (qM (qc qi (qc qB qa))))) qr)
   (qh (qp (qy l g.mo (qc qB (qc qJ (qc qP (qc (qA ql) (qc (qA ql) qa)))))))))
  exists 0,p,Z,b.no,3,p,ta,hk,bd,lg,x,n,D,e,age,Z,b,d,0
  rw[i];refine zx ?_
  exact#[27,p,0,b.h_near U,0,p,0,b.h_far U,x,e,age,c,D.near,D.far,Z,d,q]
theorem jr(a:Ly K C "answer_to" "Door.answer_to" Z8 ["self","press"])(T:Ld K mg tk)(U:LS K C)(dY:Mf P w K mg base C "button_of" v3 1 (OZ K C))(dW:Mf P w K mg base C "takes_from" Y1 2 (NS K C))(yF:Mf P w K mg base C "plain_step" Y6 3 (OG K C))
  (xH:Df P w K mg base "read_press" Y0 3 (Os K)):Mf P w K mg base C "answer_to" ["self","press"] 4 (Nw K C):=by
 refine a.mq HS λf _ A _ s H vs Q E r h=>?_
 .let#[p,ta,hk,bd,lg,pr,n,D,nm,age,ds,rfl,b,ok,#[pc,hp,M],hn,l5,L,q]:=h
  exists _,(qg (Qy qB (cO Z (qQ (qD 2 HS.nd) (qQ (qD 3 HS.nd) (qQ (qD 4 HS.nd) Qu)))))
   (qg (qG 5 HS.nd (zc dY U.cl r.mo ql (qc qJ qa)))
   (qg (qC (qw aV Qw zo (qz _)) (qh (qp (qM (qc qi (qc qi qa))))) qr)
   (qg (qC (Qg (zW (zc dW U.cl r.mo ql (qc Qw (qc qP qa))))) (qh (qp (qM (qc qi (qc qi qa))))) qr)
   (qg (qG 6 HS.nd (qy xH r.mo (qc (qA ql) (qc (qE qU (qA ql) qP) (qc qB qa)))))
   (qg (qC (qw aV ar zo (qz _)) (qh (qp (qM (qc qi (qc qi qa))))) qr)
   (qg (Qy ar (cO Z (qQ (qD 7 HS.nd) (qQ (qD 8 HS.nd) Qu))))
   (qg (Qy (zc yF U.cl r.mo ql (qc Qw (qc qP (qc (qv 7) qa)))) (cO Z (qQ (qD 9 HS.nd) (qQ (qD 10 HS.nd) Qu))))
   (qg (Q8 r (qA ql) qJ (qv 10))
   (qg (qC (qw qV (qv 9) qi (qz _)) (qh (qp (qM (qc qi (qc qJ (qc (qv 8) qa)))))) qr)
   (qh (qp (qM (qc qi (qc (qv 9) qa)))))))))))))))
  exists 0,pr,0,.tup hp,13
  refine#[0,p,Z,b.no,0,p,ta,hk,bd,lg,n,D,nm,Z,b,λo=>?_,λe x o X=>?_]
  .have l:QF D nm age (aT D.t (aI D age) nm ds)=([.str "held",.str "unknown"],D.kn):=by unfold QF;rw[o]
   rw[l]at q;exists 2
   refine qO (λ_=>?_) (λy=>absurd (Je Z) y)
   refine#[Hj,λm g=>?_]
   exact q m _ (HG.upd g).mv qb (b.same (HG.upd g))
  .exists 2
   refine qO (λy=>nomatch (Jv y)) (λ_=>?_)
   exists 0,p,Z,b.no,3,p,ta,hk,bd,lg,x,n,D,e,age,Z,b,X,0
   cases ht:aP D e age with
   |false=>
    have l:QF D nm age (aT D.t (aI D age) nm ds)=([.str "held",.str "age"],D.kn):=by unfold QF;rw[o];simp only;rw[ht];rfl
    rw[l]at q;refine Qa ?_
    refine#[Hj,λm g=>?_]
    exact q m _ (HG.upd g).mv qb (b.same (HG.upd g))
   |true=>
    refine zx ?_
    let#[a0,a1]:=nM ht ok.l0;let#[xs,ak,eh,O,F]:=b.ks.at a0 a1;refine#[0,p,0,b.h_table U,0,p,0,b.h_house_keys U,0,hk,1,HP.of eh,O,0,ta,ak,pr,pc,nm,age,D.t,aI D age,ds,Z,.inr b.tb,.inr F,.tup hp,.tup M,hn,ok.tp,l5,L,λy H1 v t=>?_]
    have B:=b.same v;have G:=X.same v;have i:ir H1 y (aT D.t (aI D age) nm ds):=t
    cases er:aT D.t (aI D age) nm ds with
    |none=>
     rw[er]at i q;have R:y= .non:=i
     subst R;have l:QF D nm age none=([.str "held",.str "false"],D.kn):=by unfold QF;rw[o];simp only;rw[ht];rfl
     rw[l]at q;exists 2
     refine qO (λ_=>?_) (λy=>absurd (Je Z) y)
     refine#[Hj,λm g=>?_]
     exact q m _ (v.trans (HG.upd g)).mv qb (B.same (HG.upd g))
    |some cd=>
     let#[c,d]:=cd;rw[er]at i q;let#[pp,R,S]:=i;subst R;exists 2
     refine qO (λy=>nomatch (Jv y)) (λ_=>?_)
     exists 0,pp,0,.tup S,11
     refine#[0,p,Z,B.no,5,p,ta,hk,bd,lg,x,n,D,e,age,c,Z,B,G,ht,λm a' H2 s2 g N=>#[m,0,.tup g,11,?_]]
     have W:=B.same s2;let#[H3,dp,m3,J]:=W.kb.put nm (by have:=ok.nl;lia) N
     exists 3,p,0,W.h_buttons U,0,bd,H3,Z,dp
     have Y:=W.putK m3 J;have mm:Mv [bd] H H3:=(v.trans s2).mv.trans m3
     exists 2
     by_cases u:(ZI D.near D.far e age c).1="near"
     .have l:QF D nm age ↑(c,d)=([.str "open",.str nm,.int d],QN D.kn nm (ZI D.near D.far e age c).2):=by unfold QF;rw[o];simp only;rw[Jd ht,Jd u]
      rw[l]at q;refine qO (λ_=>?_) (λy=>absurd (Je (by rw[u])) y)
      refine#[3,Hn,λI j=>?_]
      exact q I _ (mm.trans (HG.upd j).mv) qb (Y.same (HG.upd j))
     .have l:QF D nm age ↑(c,d)=([.str "held",.str (ZI D.near D.far e age c).1],QN D.kn nm (ZI D.near D.far e age c).2):=by unfold QF;rw[o];simp only;rw[Jd ht,Jc u]
      rw[l]at q;refine qO (λy=>absurd (Jv y) (by intro z;injection z with z;exact u z)) (λ_=>?_)
      refine#[0,Hj,λI j=>?_]
      exact q I _ (mm.trans (HG.upd j).mv) qb (Y.same (HG.upd j))
theorem p8(a:Ly K C "hear" "Door.hear" eE ["self","thing"])(T:Ld K mg tk)(U:LS K C)(W:Df P w K mg base "is_press" W6 5 MG)(Y:Mf P w K mg base C "answer_to" ["self","press"] 4 (Nw K C)):Mf P w K mg base C "hear" V1 6 (NW K C):=by
 refine a.mq MT λf _ A _ s H vs Q E J h=>?_
 .let#[#[p,ta,hk,bd,lg],D,L,x,o,rfl,#[b,#[rs,y,O],M],n1,ok,tg,X,I]:=h
  simp only at b y M I
  exists _,(qg (qC (Qg (zW (qy W J.mo (qc qB qa)))) (qh (qp (qM (qc qi (qc qi qa))))) qr)
   (qg (qG 2 MT.nd (zc Y U.cl J.mo ql (qc qB qa)))
   (qg (qT (Qx JN JU JV zY (qA ql) (qc (qM (qc qi (qc qB (qc qJ qa)))) qa)))
   (qh (qp qJ)))))
  refine#[0,x,0,tg.b,λH1 e=>#[0,?_]]
  cases o with
  |none=>exact Qa #[Hj,λq hq=>X Z q _ (e.trans (HG.upd hq)) qb]
  |some PP=>
  let#[pr,rfl,N,g]:=tg;have q:=I PP Z;refine zx ?_
  have u:=b.same e;let#[f0,v,_]:=id u.kb;have j:NT [bd] H1:=NT.one v trivial
  refine#[0,p,Z,u.no,0,p,ta,hk,bd,lg,pr,L.length,D,PP.nm,PP.age,PP.ds,Z,u,ok,Ln.same e N,g.nm,g.l,g.dg,λG H2 n t R=>?_]
  have i:=n _ _ (zv (zr (e _ _ y) v (by intro z;cases z))) (e _ _ y)
  have F:=(O.same e).mv n j;refine#[0,p,0,R.h_log U,.inl #[24,HP.of i],3,Hn,λr B=>?_]
  have d:=HG.upd (o:= .tup [.str "hear",-pr,-G]) B
  have S:=R.same d;have m:=Ln.same d (Ln.mv n j (Ln.same e N));have l:NT [lg] _:=NT.one (d _ _ i) trivial
  refine#[lg,4,d _ _ i,by rw[Jb,O.1,Jn];lia,#[0,?_]]
  exact q pr G _ Z (((e.mv.trans (n.mono (λc h z=>h (by rw[Jg.mp z];exact Jy ..)))).trans d.mv).trans (Mv.upd1.mono (λc h z=>h (by rw[Jg.mp z];exact JD _ (Jy ..))))) (Ln.mv Mv.upd1 l m) (Mv.upd1.tup l (d _ _ t)) (Lc.push (a:=#[p,ta,hk,bd,lg]) S (d _ _ i) (F.same d) ((Le.mv n j (zv (ue v u)) (Le.same e M)).same d) #[pr,G,.inl qb,m,g,d _ _ t,vk D PP,wZ D PP])
end
section
variable{tk:Nat->Tok}
theorem gG(a:Ly K C "close_below" "Door.close_below" ZF ["self","age"])(T:Ld K mg tk)(U:LS K C):Mf P w K mg base C "close_below" X2 1 (Ml K C):=by
 refine a.mq gS λf _ A _ s H F Q E G h=>?_
 .let#[#[p,ta,hk,bd,lg],D,L,age,rfl,#[b,#[rs,j,u],t],n1,q]:=h
  simp only at b j t q
  exists _,(qg (zy ql (qq (iN Z) T.b_max IX (qc (qA ql) (qc qB qa))))
   (qh (qT (Qx JN JU JV zY (qA ql) (qc (qM (qc qi (qc qB qa))) qa)))))
  have q:=q _ _ Z;let#[z,n]:∃z:Int,z=if age>D.least then age else D.least:=#[0]
  rw[<- n]at q;let#[B,g]:=id b.ob;let#[dx,x,m,v]:=b.putLeast U z;have d:=m _ _ (zv (zr j g (by intro z;cases z))) j
  have l:=u.mv m (NT.one g trivial);exists 0,p,0,b.h_least_age U,29,p,0,by rw[<- n];exact x
  refine#[0,p,0,v.h_log U,.inl #[24,HP.of d],0,Hj,λr i=>?_]
  have e:=HG.upd (o:= .tup [.str "close",.int age]) i
  have y:=v.same e;exists lg,4,e _ _ d,by rw[Jb,u.1,Jn];lia
  exact q _ (((m.mono (λc h z=>h (by rw[Jg.mp z];exact Jy ..))).trans e.mv).trans (Mv.upd1.mono (λc h z=>h (by rw[Jg.mp z];exact JD _ (Jy ..))))) (Lc.push (a:=#[p,ta,hk,bd,lg]) y (e _ _ d) (l.same e) ((Le.mv m (NT.one g trivial) (zv (C9 g b)) t).same e) (show Nc _ r (.close age)from .inl qb))
theorem kD(a:Ly K C "log_now" "Door.log_now" bb ["self"])(T:Ld K mg tk)(U:LS K C):Mf P w K mg base C "log_now" v1 1 (O0 K C):=by
 refine a.mq k9 λf _ A _ s H i Q E j h=>?_
 .let#[#[p,ta,hk,bd,lg],D,L,rfl,#[b,#[rs,d,g],e],q]:=h
  simp only at b d e
  exists _,(qh (qp (qI zf T.b_tuple JB (qc (qA ql) qa))))
  exact#[0,p,0,b.h_log U,lg,0,.inl #[HP.of d,λt c=>q t _ (HG.upd c) #[rs,.inl qb,g.same (HG.upd c)]]]
theorem oa(a:Ly K C "learn" "Door.learn" cI ["self","one","other"])(T:Ld K mg tk)(U:LS K C)(xF:Mf P w K mg base C "read_right" V1 6 (NC K C))(xC:Mf P w K mg base C "is_full" v1 1 (NR K C)):Mf P w K mg base C "learn" Y2 7 (MZ K C):=by
 refine a.mq Lh λf _ A _ s H vs Q E F h=>?_
 .let#[#[p,ta,hk,bd,lg],D,L,B,p2,#[nm,age,b3],#[i,d,bX],c,d1,d2,rfl,#[b,#[rs,el,ro],kr],n1,ok,u,m,I,M,r1,r2,en,ea,N,c0,q]:=h
  simp only at b el kr q en ea N
  subst en;subst ea
  exists _,(qg (qG 3 Lh.nd (zc xF U.cl F.mo ql (qc qB qa)))
   (qg (qC (qw aV qP zo (qz _)) Qz qr)
   (qg (qG 4 Lh.nd (zc xF U.cl F.mo ql (qc qJ qa)))
   (qg (qC (QW.pt (Q7 (qw aV Qk zo (qz _)) (Q7 (qw (Cz F) (a8 eV qJ cz (cy qj)) (a8 eV qB cz (cy qj)) (qz _)) (Q4 (qw bu (qE qS Qk qj) (qF zt (qE qS qP qj) qj) (qz _)))))) Qz qr)
   (qg (Qy qB (cO Z (qQ (qD 5 Lh.nd) (qQ (qD 6 Lh.nd) (qQ (qD 7 Lh.nd) Qu)))))
   (qg (qC (ki F Qw (qA ql)) Qz qr)
   (qg (qC (zW (qW xC U.cl F.mo ql)) Qz qr)
   (qg (Q8 F (qA ql) Qw (qM (qc ar (qc (qE qS Qk qj) (qc zo qa)))))
   (qh (qT (Qx JN JU JV zY (qA ql) (qc (qM (qc qi (qc qB (qc qJ qa)))) qa))))))))))))
  refine#[0,p,Z,b.no,0,p,ta,hk,bd,lg,L.length,D,-B,↑_,Z,b,ok,#[B,Z,u,I],λy1 H1 O t1=>?_]
  have t1:ir H1 y1 (ii D _):=t1
  rw[r1]at t1;let#[f1,rfl,a3]:=t1;refine#[2,qO (λy=>nomatch (Jv y)) (λ_=>?_)]
  have b1:=b.same O;refine#[0,p,Z,b1.no,0,p,ta,hk,bd,lg,L.length,D,-p2,↑_,Z,b1,ok,#[p2,Z,Ln.same O m,M],λy2 H2 Y t2=>?_]
  have t2:ir H2 y2 (ii D _):=t2
  rw[r2]at t2;let#[f2,rfl,J]:=t2;have b2:=b1.same Y;have X:=Ln.same (O.trans Y) u;have S:=Ln.same (O.trans Y) m;let#[c1,e1,_]:=id X;let#[c2,e2,_]:=id S;simp only at e1 e2
  exists 2
  refine qO (λy=>nomatch (Jv y)) (λ_=>?_)
  refine#[3,p2,0,e2,λt3 H3 s3 h3 _=>#[3,B,0,s3 _ _ e1,λt4 H4 s4 h4 _=>?_]]
  have a2:H4 t3=↑(.tup [.str i,.int d]):=s4 _ _ h3
  have a4:H4 t4=↑(.tup [.str i,.int d]):=h4
  have G:=(s3.trans s4);have SS:=(O.trans Y).trans G;refine#[(1),⋯,OA.pair a2 a4,0,zx ?_]
  exists 0,f2,1,HQ.of (G _ _ J),7,f1,1,HQ.of (G _ _ (Y _ _ a3)),50
  refine fK Z ?_
  have R:=b2.same G;exists 0,B,0,.tup (G _ _ e1),13
  have g4:Lg H4 bd (.str i) none:=by
   rcases R.kb.get i with⟨_,g⟩|⟨e,x,e5,_⟩
   .exact g
   .rw[N]at e5;cases e5
  exists 3,p,0,R.h_buttons U,bd,0,g4,0
  refine zx ?_
  exists 0,p,Z,R.no,p,ta,hk,bd,lg,L.length,D,Z,R,0
  refine qO (λy=>absurd (Jv y) (by lia)) (λ_=>?_)
  refine#[3,f2,1,HQ.of (G _ _ J),Z,Hn,λt5 b0=>?_]
  have u5:=HG.upd (o:= .tup [.int d,.int (c+1),.non]) b0
  have W:=R.same u5;let#[f0,hd,_]:=id W.kb;have n:=SS.trans u5;let#[H6,dp,v,a1]:=W.kb.put i (a:=t5) (e:=#[d,c+1,none]) (by have:=ok.nl;lia) #[.non,qb,Z]
  exists 0,p,0,W.h_buttons U,0,bd,H6,Z,dp
  have b6:=W.putK v a1;have t:=v _ _ (zv (zr (n _ _ el) hd (by intro z;cases z))) (n _ _ el)
  have j:NT [bd] _:=NT.one hd trivial
  have a0:=(ro.same n).mv v j;refine#[0,p,0,b6.h_log U,.inl #[24,HP.of t],3,Hn,λr a5=>?_]
  have l:=HG.upd (o:= .tup [.str "learn",-B,-p2]) a5
  have b7:=b6.same l;exists lg,4,l _ _ t,by rw[Jb,ro.1,Jn];lia
  exact q _ (((n.mv.trans (v.mono (λc h z=>h (by rw[Jg.mp z];exact Jy ..)))).trans l.mv).trans (Mv.upd1.mono (λc h z=>h (by rw[Jg.mp z];exact JD _ (Jy ..))))) (Lc.push (a:=#[p,ta,hk,bd,lg]) b7 (l _ _ t) (a0.same l) ((Le.mv v j (zv (ue hd W)) (Le.same n kr)).same l) #[B,p2,.inl qb,Ln.same l (Ln.mv v j (Ln.same n u)),Ln.same l (Ln.mv v j (Ln.same n m)),I,M])
theorem jj(a:Ly K C "twin_door" "Door.twin_door" ac ["self"])(T:Ld K mg tk)(U:LS K C)(yH:Mi P w K mg base C "Door" x5 1 (NV K C)):Mf P w K mg base C "twin_door" v1 3 (OI K C):=by
 refine a.mq LV λf _ A _ s H vs Q E hr h=>?_
 .let#[#[p,ta,hk,bd,lg],D,L,rfl,#[b,#[rs,el,ro],kr],k8,q]:=h
  simp only at b el kr q
  exists _,(qg (qG 1 LV.nd (a9 yH hr.mo (qc (qA ql) (qc (qA ql) (qc (qA ql) (qc (qA ql) (qc (qA ql) qa)))))))
   (qg (zy qB (qA ql))
   (qg (zy qB (qI tJ T.b_dict PyProof.Rows.boot_dict (qc (qA ql) qa)))
   (qg (zy qB (qI QM T.b_list JZ (qc (qA ql) qa)))
   (qh (qp qB))))))
  refine#[0,p,0,b.h_table U,0,p,0,b.h_house_keys U,0,p,0,b.h_near U,0,p,0,b.h_far U,0,p,0,b.h_most U,λx dx F a0 a3=>?_]
  have X:HG H (HI (HI H dx (.own x)) x (.ins C dx [])):=(HG.upd a0).trans (HG.upd (by rw[qk a3.symm];exact F))
  refine#[x,ta,hk,dx,D.near,D.far,D.most,D.t,D.kss,Z,qb,.inr (HG.sqt X b.tb),Le.same X kr,k8,λj g v r H1 h1 h2 h3 mv S b0=>#[Z,?_]]
  have S1:HG H H1:=λc o e=>mv c o (zv (qu e F)) (X c o e)
  let#[l,e1]:=id S.ob;let#[as,B,_]:=id S.ks;have t:g≠x:=zr B e1 (by intro z;cases z)
  let#[u,hd,a2,a4,nd]:=id b.kb;have b1:=b.same S1;exists 0,p,0,b1.h_least_age U,0,x,0,nU U e1 D.least
  have S2:=S1.put (o:= .ins C l (dF #[D.t,D.kss,D.near,D.far,D.most,D.least,[]] j g v r)) F
  have b2:=b.same S2;refine#[0,p,0,b2.h_buttons U,bd,0,S2 _ _ hd,λd n=>?_]
  have y:d≠x:=(qu qb n).symm
  have R:H d=none:=QZ n S2
  have S3:=S2.put (o:= .dK (cQ u.1 u.2)) R
  exists 0,x,0,rT U (by rw[qk y.symm];exact qb) d
  have W:=S3.put (o:= .ins C l (dF #[D.t,D.kss,D.near,D.far,D.most,D.least,[]] j g d r)) F
  have b4:=b.same W;refine#[0,p,0,b4.h_log U,lg,0,.inl (HP.of (W _ _ el)),λi m=>?_]
  have N:i≠x:=(qu qb m).symm
  have I:H i=none:=QZ m W
  have S5:=W.put (o:= .lst (rs.map V.ref)) I
  exists 0,x,0,B8 U (by rw[qk N.symm];exact qb) i
  have S6:=S5.put (o:= .ins C l (dF #[D.t,D.kss,D.near,D.far,D.most,D.least,[]] j g d i)) F
  have J:_=↑(HO.dK (cQ u.1 u.2)):=(qk (o:= .ins C l (dF #[D.t,D.kss,D.near,D.far,D.most,D.least,[]] j g d r)) y).trans (qb (H:=HI H1 x (.ins C l (dF #[D.t,D.kss,D.near,D.far,D.most,D.least,[]] j g v r))) (a:=d) (o:= .dK (cQ u.1 u.2)))
  have a1:i≠d:=(qu J m).symm
  have Y:g≠d:=qu (by rw[qk t];exact B) n
  have a5:g≠i:=qu (by rw[qk t,qk Y,qk t];exact B) m
  have M:Mv [x] H1 _:=(((Mv.upd1 (a:=x) (H:=H1) (o:= .ins C l (dF #[D.t,D.kss,D.near,D.far,D.most,D.least,[]] j g v r))).trans (HG.upd (o:= .dK (cQ u.1 u.2)) n).mv).trans (Mv.upd1 (o:= .ins C l (dF #[D.t,D.kss,D.near,D.far,D.most,D.least,[]] j g d r)))).trans (HG.upd (o:= .lst (rs.map V.ref)) m).mv
  have M6:=M.trans (Mv.upd1 (o:= .ins C l (dF #[D.t,D.kss,D.near,D.far,D.most,D.least,[]] j g d i)))
  have nt:NT [x] H1:=NT.one e1 trivial
  have O:∀(G:Hp) (o:HO),HI (HI G i (.lst (rs.map V.ref))) x o i=↑(HO.lst (rs.map V.ref)):=λG o=>by rw[qk N];exact qb
  refine#[0,q #[x,j,g,d,i] _ S6 F (QZ h1 X) R I #[#[#[l,qb],M6.sqt nt S.tb,S.ks.mv M6 nt (zv t),#[u,?_,λe he=>(a2 e he).same S6,a4,nd],#[rs,O _ _,Ic ro.1],a5.symm],#[rs,O _ _,ro.same S6],Le.mv M6 nt (zv t) b0]]
  rw[qk y,qk a1.symm];exact J
theorem ko(a:Ly K C "__init__" "Door.__init__" Zc ["self","table","keys","near","far","most"])(T:Ld K mg tk)(U:LS K C):Mf P w K mg base C "__init__" x5 1 (Oc K C):=(c9 a T U).weak (by
 rintro j H Q E ⟨p,a,b,dx,n,f,m,t,c,e,h1,d,⟨g,h,l,r⟩,i,q⟩
 exact#[p,a,b,dx,n,f,m,t,c,e,h1,d,#[g,.inr h.up,l,r],i,q])
theorem j7(a:Ly K C "keys_now" "Door.keys_now" aA ["self"])(T:Ld K mg tk)(U:LS K C):Mf P w K mg base C "keys_now" v1 1 (OH K C):=by
 refine a.mq jP λf _ A _ s H u Q E v h=>?_
 .let#[p,ta,hk,bd,lg,n,D,rfl,b,q]:=h
  exists _,(qh (qp (qI Ze T.b_tuple JB (qc (qA ql) qa))))
  let#[o,m,j,c]:=id b.ks;refine#[0,p,0,b.h_house_keys U,hk,0,.inl (HP.of m),λt l d g=>?_]
  exact q t o l d g j λi a ks r e=>HG.sqt d (c i a ks r e)
end
section
variable{tk:Nat->Tok}
theorem iU(a:Ly K C "closed_now" "Door.closed_now" ZL ["self"])(T:Ld K mg tk)(U:LS K C):Mf P w K mg base C "closed_now" v1 1 (Ny K C):=by
 refine a.mq ia λf _ A _ s H c Q E d h=>?_
 .let#[p,ta,hk,bd,lg,n,D,rfl,b,q]:=h
  exists _,(qh (qp (qA ql)))
  exact#[0,p,0,b.h_least_age U,q]
end
section
variable{tk:Nat->Tok}
theorem gN(a:Ly K C "bounds_told" "Door.bounds_told" Zx ["self"])(T:Ld K mg tk)(U:LS K C):Mf P w K mg base C "bounds_told" v1 1 (Nz K C):=by
 refine a.mq gT λf _ A _ s H d Q E e h=>?_
 .let#[p,ta,hk,bd,lg,n,D,rfl,b,q]:=h
  exists _,(qh (qp (qM (qc (qA ql) (qc (qA ql) (qc (qA ql) qa))))))
  exact#[0,p,0,b.h_near U,0,p,0,b.h_far U,0,p,0,b.h_most U,Hn,λt c=>q t _ (HG.upd c) qb]
theorem jS(a:Ly K C "turn_key" "Door.turn_key" aB ["self","key"])(T:Ld K mg tk)(U:LS K C):Mf P w K mg base C "turn_key" W0 1 (Ng K C):=by
 refine a.mq L8 λf _ A _ s H vs Q E hr h=>?_
 .let#[#[p,ta,hk,bd,lg],D,L,kt,ks,rfl,#[b,#[rs,Y,ro],kr],n1,k7,B,N,q]:=h
  simp only at b Y kr q
  exists _,(qg (qC (qw cY (qq qL T.b_len JE (qc (qA ql) qa)) (zk (v:= .int 8) Z T.g_AGES #[0]) (qz _)) Qz qr)
   (qg (qG 2 L8.nd (qI Zg T.b_tuple JB (qc qB qa)))
   (qg (qT (Qx JN JU JV zY (qA ql) (qc qJ qa)))
   (qh (qT (Qx JN JU JV zY (qA ql) (qc (qM (qc qi (qc qJ qa))) qa)))))))
  let#[J,d,n,j]:=id b.ks;exists 0,p,0,b.h_house_keys U,hk,0,.inl (HP.of d),9
  rw[Jb,n];have q:=q _ _ (Jd k7);refine zz (Jm (by lia)) ?_
  refine#[0,kt,ks,Z,B,λt H2 m u=>?_]
  have W:=b.same m;let#[J,d,n,j]:=id W.ks;have M:lg≠hk:=b.ne
  exists 0,p,0,W.h_house_keys U,.inl #[24,HP.of d],0,hk,4,d,by rw[Jb,n,Jn];lia
  have X:=W.putH Mv.upd1 (kz d n j (.inl u));let#[O,i,x,l]:=Le.same m kr
  obtain rfl:J=O:=by rw[d]at i;injection i with z;injection z with z;exact(List.map_inj_right (λ_ _ h=>by injection h)).mp z
  have y:=kz i x l (.inl u);have I:Mv [hk] H2 (HI H2 hk (.lst (J.map V.ref++[-t]))):=Mv.upd1
  have e:=I _ _ (zv M) (m _ _ Y);have F:=(ro.same m).mv I (NT.one d trivial);have R:=I.rd (NT.one d trivial) u;refine#[0,p,0,X.h_log U,.inl #[24,HP.of e],0,Hj,λr G=>?_]
  have g:=HG.upd (o:= .tup [.str "turn",-t]) G
  have b7:=X.same g;exists lg,4,g _ _ e,by rw[Jb,ro.1,Jn];lia
  exact q _ (((m.mv.trans (Mv.upd1.mono (λc h z=>h (by rw[Jg.mp z];exact Jy ..)))).trans g.mv).trans (Mv.upd1.mono (λc h z=>h (by rw[Jg.mp z];exact JD _ (Jy ..))))) (Lc.push (a:=#[p,ta,hk,bd,lg]) b7 (g _ _ e) (F.same g) (y.same g) #[t,.inl qb,g.mv.rd (S:=[]) iR R,N])
end
section
variable{tk:Nat->Tok}
theorem j9(a:Ly K C "__init__" "Button.__init__" aD ["self","name","table","key","age","step"])(T:Ld K mg tk)(U:MD K C):Mf P w K mg base C "__init__" X5 1 (NP K C):=by
 refine a.mq jZ λf _ A _ s H R Q E O h=>?_
 .let#[p,a,b,dx,nm,age,step,t,ks,rfl,n,M,N,q]:=h
  exists _,(qg (zy ql qB)
   (qg (zy ql (qI Ze T.b_tuple JB (qc qJ qa)))
   (qg (zy ql (qI Ze T.b_tuple JB (qc qP qa)))
   (qg (zy ql Qk)
   (qg (zy ql Qw)
   (qg (zy ql qj)
   (qg (zy ql qj)
   (qh (zy ql (zp (qc qj (qc zo qa))))))))))))
  exists 3,p,0,aq U.cl n U.n_name 0
  refine#[0,a,0,rG n M,λta J g G=>#[0,p,0,aq U.cl (g _ _ qb) U.n_table 1,?_]]
  have x:=g _ _ qb;refine#[0,b,0,rG x ((rG n N).same g),λka H3 i hk=>#[0,p,0,aq U.cl (i _ _ qb) U.n_key 2,?_]]
  have B:=i _ _ qb;have m:=Qd (o:= .ins C dx [("name",.str nm),("table",-ta),("key",-ka)]) B (HG.sqt i (Qd x G))
  have l:=Qd (o:= .ins C dx [("name",.str nm),("table",-ta),("key",-ka)]) B hk
  exists 3,p,0,aq U.cl qb U.n_age 3
  exists 3,p,0,aq U.cl qb U.n_step 4
  exists 0,p,0,aq U.cl qb U.n_next_count 5
  exists 0,p,0,aq U.cl qb U.n_bound 6
  refine#[Hj,λce c=>#[0,p,0,aq U.cl (by rw[qk (qu qb c)];exact qb) U.n_cells 7,?_]]
  have d:=qu qb c;have L:Mv [p] H J:=Mv.upd1.trans g.mv
  have I:Mv [p] H H3:=(L.trans Mv.upd1).trans i.mv
  have D:∀F y u r v,Mv [p] H (HI (HI (HI (HI (HI H3 p F) p y) p u) p r) p v):=λF y u r v=>((((I.trans Mv.upd1).trans Mv.upd1).trans Mv.upd1).trans Mv.upd1).trans Mv.upd1
  have j:H ce=none:=by
   cases e:H ce with
   |none=>rfl
   |some o=>exact absurd (c.symm.trans (D _ _ _ _ _ ce o (λz=>d (Jg.mp z).symm) e)) (by intro h;cases h)
  refine q ta ka ce _ j (((D _ _ _ _ _).trans (HG.upd c).mv).trans Mv.upd1) #[#[dx,qb],?_,?_,?_]
  .exact Qd (by rw[qk d];exact qb) (HG.sqt (HG.upd c) (Qd qb (Qd qb (Qd qb (Qd qb m)))))
  .exact Qd (by rw[qk d];exact qb) (HG.sqt (HG.upd c) (Qd qb (Qd qb (Qd qb (Qd qb l)))))
  .rw[qk d.symm];exact qb
theorem jt(a:Ly K C "is_worn" "Button.is_worn" ae ["self"])(T:Ld K mg tk)(U:MD K C):Mf P w K mg base C "is_worn" v1 1 (NQ K C):=by
 refine a.mq jn λf _ A _ s H c Q E d h=>?_
 .let#[p,ta,ka,ce,B,rfl,b,q]:=h
  exists _,(qh (qp (Qf cY (qA ql) (zk (v:= .int 4096) Z T.g_COUNTS #[0]) (qz _))))
  exact#[0,p,0,b.h_next_count U,4,q]
theorem gm(a:Ly K C "must_write" "Button.must_write" Zh ["self"])(T:Ld K mg tk)(U:MD K C)(g:Mf P w K mg base C "is_worn" v1 1 (NQ K C)):Mf P w K mg base C "must_write" v1 2 (OC K C):=by
 refine a.mq gk λf _ A _ s H i Q E d h=>?_
 .let#[p,ta,ka,ce,B,rfl,b,q]:=h
  exists _,(qh (qp (Qj (Qf qV (qA ql) (qA ql) (qz _)) (QD (iO (qW g U.cl d.mo ql))))))
  exists 0,p,0,b.h_next_count U,0,p,0,b.h_bound U,7
  unfold Bt.mw at q;refine qO (λz=>?_) (λz=>?_)
  .exists 0,p,Z,b.no,p,ta,ka,ce,B,Z,b,0
   have c:B.cnt=B.bnd:=by have:=Jv z;injection this
   rw[Je c]at q;exact q
  .have c:¬B.cnt=B.bnd:=λe=>z (Je (by rw[e]))
   rw[Jm c]at q;exact q
theorem fH(a:Ly K C "spare_cell" "Button.spare_cell" Zj ["self"])(T:Ld K mg tk)(U:MD K C):Mf P w K mg base C "spare_cell" v1 1 (N8 K C):=by
 refine a.mq gb λf _ A _ s H c Q E d h=>?_
 .let#[p,ta,ka,ce,B,rfl,b,q]:=h
  exists _,(qg (qC (qw qV (qE qU (qA ql) qj) (qA ql) (qz _)) (qh (qp qj)) qr)
   (qh (qp qj)))
  exists 0,p,0,b.h_cells U,ce,1,HP.of b.cs,7,p,0,b.h_bound U,Cg _ _,0
  rw[DG];unfold Bt.sp at q;refine qO (λz=>?_) (λz=>?_)
  .rw[Jd (Jv z)]at q;exact q
  .rw[Jc (λe=>z (Je e))]at q;exact q
theorem fw(a:Ly K C "write_bound" "Button.write_bound" Q6 ["self"])(T:Ld K mg tk)(U:MD K C)(j:Mf P w K mg base C "spare_cell" v1 1 (N8 K C)):Mf P w K mg base C "write_bound" v1 2 (N9 K C):=by
 refine a.mq Lz λf _ A _ s H n Q E l h=>?_
 .let#[p,ta,ka,ce,B,rfl,b,q]:=h
  let#[dx,m]:=b.ob;exists _,(qg (qG 1 Lz.nd (qW j U.cl l.mo ql))
   (qg (zy ql (qq (nA Z) T.b_min PyProof.Rows.boot_min (qc (qF zt (qA ql) (qA ql)) (qc (zk (v:= .int 4096) Z T.g_COUNTS #[0]) qa))))
   (qh (Qy (qA ql) (cD (qA ql) qB Zz)))))
  exists 0,p,Z,b.no,p,ta,ka,ce,B,Z,b
  exists 0,p,0,b.h_bound U,0,p,0,b.h_step U,46,p,0,HM.put U m 6 _ Z U.n_bound
  have d:HM K C (HI H p (.ins C dx (bF {B with bnd:=B.nb} ta ka ce))) p ta ka ce {B with bnd:=B.nb}:=b.to (B':={B with bnd:=B.nb}) (Mv.upd1.mono (λc h z=>h (by rw[Jg.mp z];exact Jy ..))) Z Z qb (by rw[qk b.ne.symm];exact b.cs)
  exists 0,p,0,d.h_bound U,0,p,0,d.h_cells U,0
  unfold Bt.sp Bt.wr at *
  have mv:∀o o',Mv [p,ce] H (HI (HI H p o) ce o'):=λo o' c u i e=>by
   rw[qk (λz=>i (by rw[z];exact JD _ (Jy ..))),qk (λz=>i (by rw[z];exact Jy ..))];exact e
  by_cases g:B.x=↑B.bnd
  .rw[Jd g]
   rw[Jd g]at q;exists ce,8,(1),12,d.cs,Z
   exact q _ (mv _ _) (b.to (B':={B with bnd:=B.nb,y:=↑B.nb}) (mv _ _) Z Z (by rw[qk b.ne];exact qb) qb)
  .rw[Jc g]
   rw[Jc g]at q;exists ce,8,(0),12,d.cs,Z
   exact q _ (mv _ _) (b.to (B':={B with bnd:=B.nb,x:=↑B.nb}) (mv _ _) Z Z (by rw[qk b.ne];exact qb) qb)
theorem fq(a:Ly K C "press_once" "Button.press_once" Zi ["self","deed"])(T:Ld K mg tk)(U:MD K C)(XC:ML K mg x fI)(dX:Mf P w K mg base C "is_worn" v1 1 (NQ K C))(xS:Mf P w K mg base C "must_write" v1 2 (OC K C))
  (xK:Mf P w K mg base C "write_bound" v1 2 (N9 K C))(zH:Df P w K mg base "press_of" W7 3 (OB K)):My P w K mg base C "press_once" Y7 4 (M0 K C x):=by
 refine a.my LG λf _ A _ s H vs Q E L h=>?_
 .let#[p,ta,ka,ce,B,d,rfl,b,Y,hl,X,W,tw,q]:=h
  exists _,(qg (qC (zW (qW dX U.cl L.mo ql)) (qh (Qv Qc Z Z J3 Z XC.g_Worn XC.e_Worn (qc qi qa) Z)) qr)
   (qg (qC (zW (qW xS U.cl L.mo ql)) (qh (qT (qW xK U.cl L.mo ql))) qr)
   (qg (qG 2 LG.nd (qy zH L.mo (qc (qA ql) (qc (qA ql) (qc (qA ql) (qc (qA ql) (qc (qA ql) (qc qB qa))))))))
   (qg (nu vz ql qj)
   (qh (qp qJ))))))
  exists 0,p,Z,b.no,p,ta,ka,ce,B,Z,b,0
  refine qO (λz=>#[Hh,λa ha=>(tw (Jv z)).mk (HG.refl _) ha]) (λz=>?_)
  have S:B.cnt<4096:=by have:¬4096<=B.cnt:=λy=>z (Je y);lia
  have q:=q S;clear z;exists 0,p,Z,b.no,p,ta,ka,ce,B,Z,b,0
  refine qO (λz=>?_) (λz=>?_)
  .refine#[0,p,Z,b.no,p,ta,ka,ce,B,Z,b,λH1 R i=>?_]
   have v:({B.wr with cnt:=B.wr.cnt+1}:Bt)=B.pr:=by unfold Bt.pr;rw[Jd z,vH]
   have m:=Bc B;have u:=C6 B;have M:=AZ B;have N:=wg B;have n:=vH B;generalize B.wr=g at i v m u M N n
   refine#[0,p,0,i.h_table U,0,p,0,i.h_key U,0,p,0,i.h_name U,0,p,0,i.h_age U,0,p,0,i.h_next_count U,0,ta,ka,g.nm,g.age,g.cnt,d,g.t,g.ks,Z,.inr i.tb,.inr i.ky,by rw[m];exact Y,by rw[u];exact hl,by rw[n];exact X,by rw[n];exact S,W,λI D r J h1 G=>?_]
   have l:=i.same J;let#[dx,t]:=l.ob;exists 0,p,0,l.h_next_count U,4,(λ_ e=>e),_,HM.put U t 5 _ Z U.n_next_count
   have n1:I≠p:=zr h1 t (by intro z;cases z)
   have n2:D≠p:=zr G t (by intro z;cases z)
   have F:Mv [p,ce] r (HI r p (.ins C dx (bF {g with cnt:=g.cnt+1} ta ka ce))):=Mv.upd1.mono (λc h z=>h (by rw[Jg.mp z];exact Jy ..))
   have O:HM K C (HI r p (.ins C dx (bF {g with cnt:=g.cnt+1} ta ka ce))) p ta ka ce B.pr:=by
    have j:=l.to (B':={g with cnt:=g.cnt+1}) F Z Z qb (by rw[qk l.ne.symm];exact l.cs)
    rw[v]at j⊢;exact j
   refine#[0,q I D _ ((R.trans J.mv).trans F) O ?_ ?_]
   .rw[qk n1,h1,m,N]
   .rw[qk n2,G,m,u,M,n]
  .have i:=b
   have R:Mv [p,ce] H H:=Mv.refl
   have v:({B with cnt:=B.cnt+1}:Bt)=B.pr:=by unfold Bt.pr;rw[Jc z]
   let#[g,o]:∃g,g=B:=#[B,Z]
   have m:g.nm=B.nm:=by rw[o]
   have u:g.t=B.t:=by rw[o]
   have M:g.ks=B.ks:=by rw[o]
   have N:g.age=B.age:=by rw[o]
   have n:g.cnt=B.cnt:=by rw[o]
   have v:({g with cnt:=g.cnt+1}:Bt)=B.pr:=by rw[o];exact v
   have i:HM K C H p ta ka ce g:=by rw[o];exact b
   refine#[0,p,0,i.h_table U,0,p,0,i.h_key U,0,p,0,i.h_name U,0,p,0,i.h_age U,0,p,0,i.h_next_count U,0,ta,ka,g.nm,g.age,g.cnt,d,g.t,g.ks,Z,.inr i.tb,.inr i.ky,by rw[m];exact Y,by rw[u];exact hl,by rw[n];exact X,by rw[n];exact S,W,λI D r J h1 G=>?_]
   have l:=i.same J;let#[dx,t]:=l.ob;exists 0,p,0,l.h_next_count U,4,(λ_ e=>e),_,HM.put U t 5 _ Z U.n_next_count
   have n1:I≠p:=zr h1 t (by intro z;cases z)
   have n2:D≠p:=zr G t (by intro z;cases z)
   have F:Mv [p,ce] r (HI r p (.ins C dx (bF {g with cnt:=g.cnt+1} ta ka ce))):=Mv.upd1.mono (λc h z=>h (by rw[Jg.mp z];exact Jy ..))
   have O:HM K C (HI r p (.ins C dx (bF {g with cnt:=g.cnt+1} ta ka ce))) p ta ka ce B.pr:=by
    have j:=l.to (B':={g with cnt:=g.cnt+1}) F Z Z qb (by rw[qk l.ne.symm];exact l.cs)
    rw[v]at j⊢;exact j
   refine#[0,q I D _ ((R.trans J.mv).trans F) O ?_ ?_]
   .rw[qk n1,h1,m,N]
   .rw[qk n2,G,m,u,M,n]
end
section
variable{tk:Nat->Tok}
theorem gQ(a:Ly K C "count_now" "Button.count_now" Zr ["self"])(T:Ld K mg tk)(U:MD K C):Mf P w K mg base C "count_now" v1 1 (L4 K C):=by
 refine a.mq gM λf _ A _ s H c Q E d h=>?_
 .let#[p,ta,ka,ce,B,rfl,b,q]:=h
  exists _,(qh (qp (qA ql)))
  exact#[0,p,0,b.h_next_count U,q]
theorem gU(a:Ly K C "cells_now" "Button.cells_now" ZB ["self"])(T:Ld K mg tk)(U:MD K C):Mf P w K mg base C "cells_now" v1 1 (Na K C):=by
 refine a.mq gW λf _ A _ s H d Q E e h=>?_
 .let#[p,ta,ka,ce,B,rfl,b,q]:=h
  exists _,(qh (qp (qI zf T.b_tuple JB (qc (qA ql) qa))))
  exact#[0,p,0,b.h_cells U,ce,0,.inl #[HP.of b.cs,λl c=>q l _ (HG.upd c) qb]]
theorem gK(a:Ly K C "name_told" "Button.name_told" ZD ["self"])(T:Ld K mg tk)(U:MD K C):Mf P w K mg base C "name_told" v1 1 (OD K C):=by
 refine a.mq gF λf _ A _ s H c Q E d h=>?_
 .let#[p,ta,ka,ce,B,rfl,b,q]:=h
  exists _,(qh (qp (qA ql)))
  exact#[0,p,0,b.h_name U,q]
theorem jw(a:Ly K C "age_now" "Button.age_now" Z6 ["self"])(T:Ld K mg tk)(U:MD K C):Mf P w K mg base C "age_now" v1 1 (ME K C):=by
 refine a.mq jq λf _ A _ s H c Q E d h=>?_
 .let#[p,ta,ka,ce,B,rfl,b,q]:=h
  exists _,(qh (qp (qA ql)))
  exact#[0,p,0,b.h_age U,q]
theorem iG(a:Ly K C "turn_key" "Button.turn_key" ZN ["self","key"])(T:Ld K mg tk)(U:MD K C):Mf P w K mg base C "turn_key" W0 1 (NU K C):=by
 refine a.mq ik λf _ A _ s H x Q E y h=>?_
 .let#[p,ta,ka,ce,t,B,ks,rfl,b,n,u,q]:=h
  exists _,(qg (qC (qw cY (qA ql) (qF QU (zk (v:= .int 8) Z T.g_AGES #[0]) qj) (qz _)) Qz qr)
   (qg (zy ql (qI Ze T.b_tuple JB (qc qB qa)))
   (qh (nu vz ql qj))))
  exists 0,p,0,b.h_age U,30
  refine zz (Jm (by show¬(8:Int)-1<=B.age;lia)) ?_
  refine#[0,t,0,n,λc H1 o m=>?_]
  have d:=b.same o;let#[dx,r]:=d.ob;exists 0,p,0,HM.put U r 2 _ Z U.n_key
  have l:Mv [p] H1 (HI H1 p (.ins C dx (bF {B with ks:=ks} ta c ce))):=Mv.upd1
  have nt:NT [p] H1:=NT.one r trivial
  have i:HM K C (HI H1 p (.ins C dx (bF {B with ks:=ks} ta c ce))) p ta c ce {B with ks:=ks}:=#[#[dx,qb],l.sqt nt d.tb,l.sqt nt m,by rw[qk d.ne.symm];exact d.cs]
  exists 0,p,0,i.h_age U,4,(λ_ e=>e),_,HM.put (B:={B with ks:=ks}) U qb 3 _ Z U.n_age
  have g:NT [p] (HI H1 p (.ins C dx (bF {B with ks:=ks} ta c ce))):=NT.one qb trivial
  have j:Mv [p] (HI H1 p (.ins C dx (bF {B with ks:=ks} ta c ce))) (HI (HI H1 p (.ins C dx (bF {B with ks:=ks} ta c ce))) p (.ins C dx (bF {B with ks:=ks,age:=B.age+1} ta c ce))):=Mv.upd1
  exact q c _ ((o.mv.trans l).trans j) #[#[dx,qb],j.sqt g i.tb,j.sqt g i.ky,by rw[qk d.ne.symm];exact i.cs]
end
noncomputable def pH(K:ι):Sp:=λd H Q _=>∃(a:Δ) (c:Ε) (k:Nat),d=[-a,.int k]/\HP K H a (c.map V.int)/\k<=1000/\∀b H',H b=none->HG H H'->LY H' b 0->Q (-b) H'
noncomputable def lj:Sp:=λa H Q _=>∃(b:Δ) (c:Nat),a=[-b]/\LY H b c/\c<100000000/\∀p (ks:Ε) H',MB b (c+10) H H'->H p=none->H' p=↑(.tup (ks.map V.int))->Qn ks->1<=ks.length->ks.length<=8->Q (-p) H'
section
variable{tk:Nat->Tok}
theorem rW(a:At K mg "_law_take" fM ["_law_box_here","_law_many"])(T:Ld K mg tk):Df P w K mg base "_law_take" u7 1 Mb:=by
 refine a.dq Mp λf _ A _ s H v Q E y h=>?_
 .let#[b,l,c,rfl,#[n,m,k,g,r,p,k0,k1],j,i,h1,q]:=h
  exists _,(qg (qC (qw kB (qE qU ql qj) qj (qz _)) (qg (qG 2 Mp.nd (qF QC (qE qU ql qj) qB))
   (qg (Qy (qF cA (qE qU ql qj) qB) (cD ql qj Zz))
   (qh (qp qJ)))) qr)
   (qg (Qy (qF zt (qE qU ql qj) qj) (cD ql qj Zz))
   (qg (qG 3 Mp.nd (qF QC (qF zt (qF zt (qF ZY (qE qU ql qj) qj) (qF ZY (qE qU ql qj) qj)) qj) qj))
   (qg (Qy (qF zt (qF QC (qF ZY qP qP) qj) (qE qU ql qj)) (cD ql qj Zz))
   (qh (qp (qF QC (qF cA (qE qU ql qj) qj) qB)))))))
  exists 0,b,1,HP.of g,26
  refine qO (λ_=>?_) (λ_=>?_)
  .exists 0,b,1,HP.of g,35,i
   exists 0,b,1,HP.of g,35,#[i,h1],0,b,8,(0),12,g,Z
   exists 0
   refine q _ _ (F5 _ (by lia)) (F6 _ i) #[λc o j e=>?_,22,qb,r,p,k0,by lia]
   rw[qk j];exact e
  .exists 0,b,1,HP.of g,26,b,8,(2),12,g,Z
   have d:(HI H b (wD n m (k+1))) b=↑(wD n m (k+1)):=qb
   exists 0,b,1,HP.of d,32,.inr #[⋯,⋯],0,b,1,HP.of d,32,.inr #[⋯,⋯],38,(by decide:(0:Int)<2305843009213693921)
   have x:=F5 (m*48271+(k+1)*39373+11) (by decide:(2305843009213693921:Int)≠0)
   have u:=F6 (m*48271+(k+1)*39373+11) (by decide:(0:Int)<2305843009213693921)
   exists 14,.inl #[by lia,by lia],4,(by decide:(0:Int)<2305843009213693907),0,b,1,HP.of d,26,b,8,(1),12,d,Z
   have t:=F5 ((m*48271+(k+1)*39373+11)%2305843009213693921*((m*48271+(k+1)*39373+11)%2305843009213693921)) (by decide:(2305843009213693907:Int)≠0)
   have i1:=F6 ((m*48271+(k+1)*39373+11)%2305843009213693921*((m*48271+(k+1)*39373+11)%2305843009213693921)) (by decide:(0:Int)<2305843009213693907)
   exists 0,b,1,HP.of qb,32,#[⋯,⋯],15,i
   refine q _ _ (F5 _ (by lia)) (F6 _ i) #[λc o j e=>?_,22,qb,Int.add_nonneg t (by lia),Int.lt_of_lt_of_le (Int.add_lt_add_right i1 _) (by lia),by lia,by lia]
   rw[qk j,qk j];exact e
theorem tI(a:At K mg "_law_box" iq ["_law_script","_law_k"])(T:Ld K mg tk):Df P w K mg base "_law_box" V5 1 (pH K):=by
 refine a.dq LC λf _ A _ s H vs Q E hr h=>?_
 .let#[b,j,k,rfl,hS,Y,q]:=h
  exists _,(qg (qG 2 LC.nd (qI QM T.b_list JZ (qc (a8 Cf ql cz (cy qj)) qa)))
   (qg (qG 3 LC.nd (qE qU (qF oH qJ (qF rE (zp (qc qj qa)) (qF zt qB qj))) qB))
   (qg (qG 4 LC.nd qj)
   (qg (Qs J0 Z (lN qJ) (qD 5 LC.nd)
   (qh (qG 4 LC.nd (qF QC (qF zt (qF ZY Qk qj) Qw) qj))))
   (qh (qp (zp (qc (qF ZY (qq oO T.b_abs PyProof.Rows.boot_abs (qc qP qa)) (qI iz T.b_int Gb (qc (Qf cY (qq oO T.b_abs PyProof.Rows.boot_abs (qc qP qa)) (qF CM qj qj) (qz _)) qa))) (qc (qF QC (qF zt (qF zt qP (qF ZY qj Qk)) (qF ZY qj qB)) qj) (qc qj qa))))))))))
  refine#[3,b,0,hS,λl hl=>?_]
  rw[Aa];have O:(mC j none ↑63).length<=63:=by
   rw[xm]
   have:HT.sIx j.length j.length ↑63<=63:=by unfold HT.sIx;simp only;split<;>lia
   lia
  generalize mC j none ↑63=c at O⊢
  have R:=HG.upd (o:= .lst (c.map V.int)) hl
  refine#[l,0,.inl (HP.of qb),λg B=>?_]
  have L:=R.trans (HG.upd (o:= .lst (c.map V.int)) B)
  have r:(HI (HI H l (.lst (c.map V.int))) g (.lst (c.map V.int))) g=↑(.lst (c.map V.int)):=qb
  generalize HI (HI H l (.lst (c.map V.int))) g (.lst (c.map V.int))=W at L r⊢
  refine#[0,Hh,λI v=>?_]
  have m:=HG.upd (o:= .lst [.int 0]) v
  refine#[15,I,4,qb,by lia,by lia,by show 1*_<=_;rw[Jn];lia,λF n=>?_]
  have e4:(List.replicate ((k:Int)+1).toNat [V.int 0]).flatten=(List.replicate (k+1) (0:Int)).map V.int:=by
   rw[show((k:Int)+1).toNat=k+1 by lia]
   simp [List.flatten_replicate_singleton]
  rw[e4];have C:=HG.upd (o:= .lst ((List.replicate (k+1) (0:Int)).map V.int)) n
  refine#[g,F,4,C _ _ (m _ _ r),qb,by rw[Jb,Jb,Ie,Jn];lia,λG u=>?_]
  rw[<- JG];have D:k<(c++List.replicate (k+1) (0:Int)).length:=by rw[Jq,Ie];lia
  exists 0,G,8,.int (c++List.replicate (k+1) (0:Int))[k],12,HP.of qb,Qe (by rw[Jp,Jk D];rfl)
  have J:=HG.upd (o:= .lst ((c++List.replicate (k+1) (0:Int)).map V.int)) u
  generalize (c++List.replicate (k+1) (0:Int))[k]=d
  have S:=L.trans (m.trans (C.trans J));have t:=J _ _ (C _ _ (m _ _ r));generalize HI (HI (HI W I (.lst [.int 0])) F (.lst ((List.replicate (k+1) (0:Int)).map V.int))) G (.lst ((c++List.replicate (k+1) (0:Int)).map V.int))=H5 at S t⊢
  exists 0,g,Z,#[_,HP.of t]
  refine ke (K:=K) (a:=g) (xs:=c.map V.int) (λi σ Hx=>Hx=H5/\∃(z:Int) (o:Ρ),σ=[↑(-b),↑(.int (k:Int)),↑(-g),↑(.int d),↑(.int z),o]/\0<=z/\z<2305843009213693951) #[36,⋯,⋯] (λi σ Hx _ ⟨e,_⟩=>by subst e;exact HP.of t) ?_ ?_
  .rintro i x σ Hx N ⟨rfl,z,o,rfl,z0,U⟩
   let#[y,rfl,hy]:=Zy N;refine#[15,.inl #[by lia,by lia],45,(by decide:(0:Int)<2305843009213693951),36,F5 _ ⋯,F6 _ ⋯]
  .rintro σ Hx ⟨rfl,z,o,rfl,z0,U⟩
   refine#[39,#[⋯,⋯,⋯],4,.inr #[0,?_]]
   exists 4,.inr #[Dv _,CY _],14,.inl #[⋯,⋯],31,.inl #[⋯,⋯],51,(by decide:(0:Int)<2305843009213693951)
   have X:=F5 (d+39373*z+7919*(k:Int)) (by decide:(2305843009213693951:Int)≠0)
   have g1:=F6 (d+39373*z+7919*(k:Int)) (by decide:(0:Int)<2305843009213693951)
   exact#[Hn,λp M=>q _ _ (QZ M S) (S.trans (HG.upd M)) #[22,qb,X,by lia,⋯,⋯]]
theorem oR(a:At K mg "_law_table" eC ["_law_box_here"])(T:Ld K mg tk)(J:Df P w K mg base "_law_take" u7 1 Mb):Df P w K mg base "_law_table" W3 2 Oa:=by
 refine a.dq Mg λf _ A _ s H O Q E M h=>?_
 .let#[b,c,rfl,G,R,q]:=h
  exists _,(qg (qG 1 Mg.nd (zp qa))
   (qg (Qs J0 Z (Zq Z T.b_range (qc qj qa)) (qD 2 Mg.nd)
   (qh (qT (Qx JN PySem.F.slot_list_insert PySem.F.type_list_insert wB qB (qc (qy J M.mo (qc ql (qc (qF zt qJ qj) qa))) (qc qJ qa))))))
   (qh (qp (qI zf T.b_tuple JB (qc qB qa))))))
  refine#[Hf,λl C=>?_]
  have p:l≠b:=zn G C
  refine#[(16),Z,⋯,⋯,bO (n:=16) (Pv:=λi σ B=>MB b (c+i) H B/\∃(d:Ε) (o:Ρ),B l=↑(.lst (d.map V.int))/\d.Perm (Lv.take i)/\σ=[↑(-b),↑(-l),o]) #[(HG.upd C).grc G,[],_,qb,.refl _,Z] ?_ ?_]
  .rintro i σ B hi ⟨g,d,o,y,pm,rfl⟩
   have I:d.length=i:=by rw[pm.length_eq,Fv,show Lv.length=16 from Z];lia
   refine#[0,.inl #[24,HP.of y],14,b,6,g.bx,by lia,by lia,by lia,λx H3 L N D=>?_]
   have F:=D.kp _ _ p y;exists 0,l,1,F,L,by rw[Jb,I];lia,by rw[Jb,I,Jn];lia
   refine#[#[λc o u e=>?_,?_],d.take x.toNat++(i:Int)::d.drop x.toNat,_,?_,?_,Z]
   .by_cases z:c=l
    .subst z
     rw[e]at C;cases C
    .rw[qk z];exact D.kp _ _ u (g.kp _ _ u e)
   .let#[n,m,k',e,r]:=D.bx
    exact#[n,m,k',by rw[qk p.symm];exact e,r]
   .rw[qb,JG,JW,List.map_take,List.map_drop]
    simp
   .refine(List.perm_middle.trans (List.Perm.cons _ (by rw[List.take_append_drop]))).trans ?_
    have v:Lv.take (i+1)=Lv.take i++[(i:Int)]:=(by decide:∀j:Nat,j<16->Lv.take (j+1)=Lv.take j++[(j:Int)]) i hi
    rw[v]
    exact(List.Perm.cons _ pm).trans (List.perm_append_comm (l₁:=[(i:Int)]))
  .rintro σ B ⟨g,d,o,y,pm,rfl⟩
   refine#[0,l,0,.inl #[HP.of y,λt v=>?_]]
   exact q t d _ (g.same (HG.upd v)) (g.fresh (G.mono (by lia)) v) qb pm
theorem tP(a:At K mg "_law_key" iJ ["_law_box_here"])(T:Ld K mg tk)(j:Df P w K mg base "_law_take" u7 1 Mb):Df P w K mg base "_law_key" W3 2 lj:=by
 refine a.dq Nn λf _ A _ s H Y Q E m h=>?_
 .let#[b,c,rfl,M,hc,q]:=h
  exists _,(qg (qG 1 Nn.nd (qE qU (zp (qc qj (qc qj (qc qj (qc qj (qc (qF zt qj (qy j m.mo (qc ql (qc qj qa)))) qa)))))) (qy j m.mo (qc ql (qc qj qa)))))
   (qh (qp (qI zf T.b_tuple JB (qc (QR (own:=["_law_k"]) (fr:=["_law_box_here"]) (js:=[0]) Z (Zq Z T.b_range (qc qB qa)) Z (Ai Z) Z (wF Z nofun nofun nofun Z Z Z) (λ_ _ _ _=>qD 0 (show List.Nodup (["_law_k","_law_box_here"]:Α)from by decide +kernel) Z (Or.inl Z) (.inr Z)) (λ_ _ _ _=>(qy j m.mo (qc qB (qc qj qa))))) qa)))))
  refine#[0,b,6,M,by lia,⋯,⋯,λr H1 r0 r1 u=>#[4,Hq,λl J=>?_]]
  have I:=HG.upd (o:= .lst [.int 1,.int 2,.int 4,.int 8,.int (1+r)]) J
  refine#[0,b,6,(I.grc u.bx).bx,by lia,⋯,⋯,λr2 g D B L=>?_]
  let#[v,O,e]:=ZG (xs:=[V.int 1,.int 2,.int 4,.int 8,.int (1+r)]) D B
  let#[n,rfl,n1,n8]:∃z:Nat,v= .int (z:Int)/\1<=z/\z<=8:=by
   simp only[Jh,Jr,Js]at e;rcases e with rfl|rfl|rfl|rfl|rfl
   .exact#[(1),Z,⋯,⋯]
   .exact#[(2),Z,⋯,⋯]
   .exact#[(4),Z,⋯,⋯]
   .exact#[(8),Z,⋯,⋯]
   .exact#[(1+r).toNat,by congr 1;lia,by lia,by lia]
  have d:MB b (c+2) H g:=((u.same I).trans L).mono (by lia)
  exists l,1,HP.of (L.kp _ _ (zn u.bx J) qb),O,3,by lia,by lia
  rw[GK];refine ly (n:=n) (JI (by lia:n<=8) ⋯) (λi ys g=>MB b (c+2+i) H g/\∃ks:Ε,ys=ks.map V.int/\Qn ks) #[d,[],Z,λ_ h=>nomatch h] ?_ ?_
  .rintro i ys g hi W ⟨d,ks,rfl,hk⟩
   refine#[0,b,6,d.bx,by lia,⋯,⋯,λx H3 U N R=>#[d.trans R,ks++[x],by simp,λz S=>?_]]
   rcases Jw.mp S with y|y
   .exact hk z y
   .rw[Jg.mp y];exact#[U,N]
  .rintro ys g C ⟨d,ks,rfl,hk⟩ p X
   rw[Jb]at C;refine#[p,0,.inl #[HP.of qb,λt F=>?_]]
   have G:=d.same (HG.upd (o:= .lst (ks.map V.int)) X)
   exact q t ks _ ((G.same (HG.upd F)).mono (by lia)) (G.fresh (M.mono (by lia)) F) qb hk (by lia) (by lia)
end
section
variable{tk:Nat->Tok}
theorem nV(a:At K mg "back_table" cS ["table"])(T:Ld K mg tk):Df P w K mg base "back_table" ["table"] 1 (OY K):=by
 refine a.dq LD λf _ A _ s H vs Q E hr h=>?_
 .let#[c,t,rfl,D,pm,q]:=h
  exists _,(qg (qG 1 LD.nd (qF rE (zp (qc qj qa)) (zk (v:= .int 16) Z T.g_DIGITS #[0])))
   (qg (Qs J0 Z (wE Z T.b_enumerate (qc ql qa)) (cU Z (qQ (qD 2 LD.nd) (qQ (qD 3 LD.nd) Qu)))
   (qh (Qy qJ (cD qB qP Zz))))
   (qh (qp (qI zf T.b_tuple JB (qc qB qa))))))
  refine#[Hh,λp hp=>#[p,(16),18,qb,⋯,⋯,HC,λl S=>?_]]
  have Y:(List.replicate (16:Int).toNat [V.int 0]).flatten=(ZK t 0).map V.int:=by rw[yy];rfl
  rw[Y];have X:=(HG.upd (o:= .lst [V.int 0]) hp)
  have J:=X.trans (HG.upd (o:= .lst ((ZK t 0).map V.int)) S)
  have step:∀(i:Nat) (x:V) (g:Hp) (r:Δ),(t.map V.int)[i]? =↑x->g l=↑(.lst ((ZK t i).map V.int))->HG H g->g r=none->
    ∃j:Nat,∃z:Int,x= .int z/\bM ((ZK t i).map V.int).length z=↑j/\(HI g r (.tup [.int i,x])) l=↑(.lst ((ZK t i).map V.int))/\
     (HI (HI g r (.tup [.int i,x])) l (.lst (((ZK t i).map V.int).set j (.int i)))) l=↑(.lst ((ZK t (i+1)).map V.int))/\HG H (HI (HI g r (.tup [.int i,x])) l (.lst (((ZK t i).map V.int).set j (.int i)))):=by
   intro i x g r F n m u;let#[z,rfl,W]:=Zy F;have hi:i<t.length:=(Jt.mp W).1
   have ez:t[i]=z:=(Jt.mp W).2
   have bd:=rp pm hi;have sp:=HG.upd (o:= .tup [.int i,.int z]) u
   refine#[z.toNat,z,Z,mt (by lia) (by rw[Jb,fD];lia),sp _ _ n,?_,λd o e=>?_]
   .rw[qb,gi,<- ez,xy pm hi]
   .have L:d≠l:=λy=>by
     rw[y]at e;rw[X _ _ e]at S;cases S
    rw[qk L];exact sp _ _ (m _ _ e)
  have G:∀(o:Ρ) (o':Ρ) (g:Hp),g l=↑(.lst ((ZK t t.length).map V.int))->HG H g->∀I,g I=none->Q (-I) (HI g I (.tup ((ZK t t.length).map V.int))):=λ_ _ g n m I N=>
   q _ _ (m.trans (HG.upd N)) (by rw[qb,B9 pm])
  rcases D with D|D
  .refine#[0,c,Z,.inl #[#[_,J.seq D],?_]]
   refine rA (K:=K) (a:=c) (xs:=t.map V.int) (λi σ g=>∃(C B:Ρ),σ=[↑(-c),↑(-l),C,B]/\g l=↑(.lst ((ZK t i).map V.int))/\HG H g) #[none,none,Z,qb,J] (λi σ g _ ⟨_,_,_,_,m⟩=>m.seq D) ?_ ?_
   .rintro i x σ g r F ⟨C,B,rfl,n,m⟩ u
    let#[j,z,rfl,O,M,R,U]:=step i x g r F n m u;exists r,0,HQ.of qb,11
    exact#[5,l,8,j,12,M,O,6,R,U]
   .rintro σ g ⟨C,B,rfl,n,m⟩
    rw[Jb]at n
    exact#[0,l,0,.inl #[HP.of n,G C B g n m]]
  .refine#[0,c,Z,.inr #[#[_,HG.sqt J D],?_]]
   refine wa (K:=K) (a:=c) (xs:=t.map V.int) (λi σ g=>∃(C B:Ρ),σ=[↑(-c),↑(-l),C,B]/\g l=↑(.lst ((ZK t i).map V.int))/\HG H g) #[none,none,Z,qb,J] (λi σ g _ ⟨_,_,_,_,m⟩=>HG.sqt m D) ?_ ?_
   .rintro i x σ g r F ⟨C,B,rfl,n,m⟩ u
    let#[j,z,rfl,O,M,R,U]:=step i x g r F n m u;exists r,0,HQ.of qb,11
    exact#[5,l,8,j,12,M,O,6,R,U]
   .rintro σ g ⟨C,B,rfl,n,m⟩
    rw[Jb]at n
    exact#[0,l,0,.inl #[HP.of n,G C B g n m]]
theorem Ak(a:At K mg "coded" mF ["table","key","digits"])(T:Ld K mg tk):Df P w K mg base "coded" X7 1 (NN K):=by
 refine a.dq Mn λf _ A _ s H vs Q E hr h=>?_
 .let#[a,b,c,t,ks,ds,rfl,X,Y,O,lt,l1,U,q]:=h
  exists _,(qg (qG 3 Mn.nd (qI QM T.b_list JZ (qc qJ qa)))
   (qg (Qs J0 Z (fA qB) (qD 4 Mn.nd)
   (qh (Qs J0 Z (Zq Z T.b_range (qc (qq qL T.b_len JE (qc qJ qa)) qa)) (qD 5 Mn.nd)
   (qg (qG 6 Mn.nd (qE qU qP (qF QU Qw qj)))
   (qh (Qy (qE (O9.or qU qS) ql (qF QC (qF zt (qF zt (qF zt (qE qU qP Qw) Qk) Qw) ar) (zk (v:= .int 16) Z T.g_DIGITS #[0]))) (cD qP Qw Zz)))))))
   (qh (qp (qI zf T.b_tuple JB (qc qP qa))))))
  refine#[0,c,0,O,λl M=>?_]
  have S:HG H _:=HG.upd (o:= .lst (ds.map V.int)) M
  refine#[0,b,Z,BC (K:=K) (H0:=H) Y (λj σ F=>HG H F/\∃J m g,σ=[↑(-a),↑(-b),↑(-c),↑(-l),J,m,g]/\F l=↑(.lst ((Zt t (ks.take j) ds).map V.int))) #[S,19,qb] (λj W H' h=>h.1) ?_ ?_]
  .rintro j x σ F R ⟨D,J,m,g,rfl,y⟩
   let#[d,rfl,I]:=Zy R;rw[lU I,rl];have C:(Zt t (ks.take j) ds).length=ds.length:=fX
   generalize Zt t (ks.take j) ds=r at y C
   exists 0,c,0,O.same D,0,?_,?_
   .lia
   .rw[Jb];lia
   rw[show((((ds.map V.int).length:Nat):Int)).toNat=ds.length by rw[Jb];rfl]
   refine bO (n:=ds.length) (Pv:=λi σ H3=>HG H H3/\∃m g,σ=[↑(-a),↑(-b),↑(-c),↑(-l),↑(.int d),m,g]/\H3 l=↑(.lst ((bS t d r i).map V.int))) #[D,6,y] ?_ ?_
   .rintro i σ H3 hi ⟨G,m,g,rfl,e⟩
    have z:(bS t d r i).length=ds.length:=by rw[ZC,C]
    generalize hr':bS t d r i=B at e z
    have u:i<B.length:=by lia
    exists 14,l,1,HP.of e,vJ (i:=i) (by lia) u
    exists 5,l,1,HP.of e,cK (i:=i) (by lia) u,17,(by decide:(0:Int)<16)
    have L:=cw (B.getD i 0+d+(0+(i:Int))+ah B i)
    refine(X.same G).ix (cK (i:=((B.getD i 0+d+(0+(i:Int))+ah B i)%16).toNat) (by have:=L.1;lia) (by rw[lt];have:=L.1;have:=L.2;lia)) ?_
    exists 3,l,8,i,12,e,mt (by lia) (by rw[Jb];exact u),aK G M,6
    rw[qb,gi,bS,hr',lP,Int.zero_add]
   .rintro σ H3 ⟨G,m,g,rfl,e⟩
    exact#[G,19,e]
  .rintro σ F ⟨D,J,m,g,rfl,y⟩
   rw[Jb,FU]at y
   exact#[0,l,0,.inl #[HP.of y,λp N=>q p _ (D.trans (HG.upd N)) (QZ N D) qb]]
theorem ux(a:At K mg "decoded" hJ ["table","key","digits"])(T:Ld K mg tk)(yY:Df P w K mg base "back_table" ["table"] 1 (OY K)):Df P w K mg base "decoded" X7 2 (Nu K):=by
 refine a.dq LA λf _ A _ s H vs Q E hr h=>?_
 .let#[a,b,c,t,ks,ds,rfl,ha,hb,hc,pm,W,l1,a2,q]:=h
  exists _,(qg (qG 3 LA.nd (qy yY hr.mo (qc ql qa)))
   (qg (qG 4 LA.nd (qI QM T.b_list JZ (qc qJ qa)))
   (qg (Qs J0 Z (uR Z T.b_reversed (qc qB qa)) (qD 5 LA.nd)
   (qh (Qs J0 Z (uR Z T.b_reversed (qc (qI vU T.b_range PyProof.Rows.boot_range (qc (qq qL T.b_len JE (qc qJ qa)) qa)) qa)) (qD 6 LA.nd)
   (qg (qG 7 LA.nd (qE qU Qk (qF QU ar qj)))
   (qh (Qy (qF QC (qF QU (qF QU (qF QU (qE qS qP (qE qU Qk ar)) Qw) ar) (qv 7)) (zk (v:= .int 16) Z T.g_DIGITS #[0])) (cD Qk ar Zz)))))))
   (qh (qp (qI zf T.b_tuple JB (qc Qk qa)))))))
  refine#[0,a,t,Z,ha,pm,λX H1 L a0=>?_]
  refine#[0,c,0,hc.same L,λl hl=>?_]
  have D:HG H1 _:=HG.upd (o:= .lst (ds.map V.int)) hl
  refine#[0,b,Z,xn (K:=K) (H0:=H1) (hb.same L) (λj σ O=>HG H1 O/\∃S C B,σ=[↑(-a),↑(-b),↑(-c),↑(-X),↑(-l),S,C,B]/\O l=↑(.lst ((Z4 (Qr t) (ks.drop (ks.length-j)) ds).map V.int))) #[D,19,by rw[Nat.sub_zero,List.drop_length];exact qb] (λj a3 H' h=>h.1) ?_ ?_]
  .rintro j x σ O hj hx ⟨D,S,C,B,rfl,F⟩
   let#[d,rfl,J]:=Zy hx;rw[Jb]at hj J;have ed:ks.drop (ks.length-(j+1))=d::ks.drop (ks.length-j):=by
    have:=uS J
    rw[show ks.length-1-j+1=ks.length-j by lia]at this
    rw[show ks.length-(j+1)=ks.length-1-j by lia]
    exact this
   rw[ed,Z4];have N:(Z4 (Qr t) (ks.drop (ks.length-j)) ds).length=ds.length:=jW
   have I:Qn (Z4 (Qr t) (ks.drop (ks.length-j)) ds):=pY W
   generalize Z4 (Qr t) (ks.drop (ks.length-j)) ds=r at F N I
   refine#[0,c,0,(hc.same L).same D,0,λpr G=>#[pr,Z,.inr (.inr #[ds.length,?_,by lia,?_])]]
   .rw[qb,Jb]
   have U:=D.trans (HG.upd (o:= .rng 0 ((ds.map V.int).length:Nat)) G)
   have a1:=HG.upd (o:= .rng 0 ((ds.map V.int).length:Nat)) G _ _ F
   refine w9 (n:=ds.length) (Pv:=λi σ H3=>HG H1 H3/\∃C B m,σ=[↑(-a),↑(-b),↑(-c),↑(-X),↑(-l),↑(.int d),C,B]/\H3 l=↑(.lst (m.map V.int))/\m.length=ds.length/\Qn m/\cC (Qr t) d m (ds.length-i)=cC (Qr t) d r ds.length) #[U,8,r,Z,a1,N,I,Z] ?_ ?_
   .rintro i σ H3 hi ⟨R,C,B,m,rfl,e,y,g,M⟩
    have u:ds.length-1-i<m.length:=by lia
    have ep:(ds.length:Int)-1-i=((ds.length-1-i:Nat):Int):=by lia
    rw[ep];generalize hpl:ds.length-1-i=z at u
    rw[show ds.length-i=z+1 by lia,cC]at M
    exists 14,l,1,HP.of e,vJ (i:=z) Z u
    have Y:=mL g z;exists 5,l,1,HP.of e,cK (i:=z) Z u,X,1,HQ.of (R _ _ a0),cK (i:=(m.getD z 0).toNat) (by have:=Y.1;lia) (by rw[du];have:=Y.1;have:=Y.2;lia)
    exists 17,(by decide:(0:Int)<16)
    exists 3,l,8,z,12,e,sI (by rw[Jb];exact u),aK R hl,8,j8 (Qr t) d m z,Z,?_,by rw[rn];exact y,pj g
    .rw[qb,gi,j8]
    .rw[show ds.length-(i+1)=z by lia];exact M
   .rintro σ H3 ⟨R,C,B,m,rfl,e,y,g,M⟩
    rw[Nat.sub_self,cC]at M;rw[M]at e
    exact#[R,19,e]
  .rintro σ O ⟨D,S,C,B,rfl,F⟩
   rw[Jb,Nat.sub_self,List.drop_zero]at F
   exact#[0,l,0,.inl #[HP.of F,λp hp=>q p _ ((L.trans D).trans (HG.upd hp)) (QZ hp (L.trans D)) qb]]
theorem jO(a:At K mg "letter_digits" aG ["name"])(T:Ld K mg tk):Df P w K mg base "letter_digits" ["name"] 1 Nv:=by
 refine a.dq Lo λf _ A _ s H y Q E B h=>?_
 .let#[z,rfl,r,q]:=h
  exists _,(qg (qG 1 Lo.nd (zp qa))
   (qg (Qs J0 Z (vy ql) (qD 2 Lo.nd)
   (qg (qG 3 Lo.nd (qF QU (qq pC T.b_ord PyProof.Rows.boot_ord (qc qJ qa)) (qq pC T.b_ord PyProof.Rows.boot_ord (qc qi qa))))
   (qg (qT (Qx JN JU JV zY qB (qc (qF QC qP (zk (v:= .int 16) Z T.g_DIGITS #[0])) qa)))
   (qh (qT (Qx JN JU JV zY qB (qc (qF cA qP (zk (v:= .int 16) Z T.g_DIGITS #[0])) qa)))))))
   (qh (qp qB))))
  refine#[Hf,λl g=>?_]
  refine#[0,z,Z,rq r,B7 (λi σ d=>HG H d/\∃o p,σ=[↑(.str z),↑(-l),o,p]/\d l=↑(.lst ((Z1 (z.cps.toList.take i)).map V.int))) #[HG.upd g,6,qb] ?_ ?_]
  .rintro i c σ d u ⟨j,o,p,rfl,e⟩
   have m:=sG u;rw[BS m,uZ];have n:(Z1 (z.cps.toList.take i)).length<=16:=by rw[mZ,Fv];have:=r.2.2;lia
   generalize Z1 (z.cps.toList.take i)=ds at e n
   have x:((((#[(List.toArray [c])]:Str).cps.getD 0 0:Nat):Int)-((("a":Str).cps.getD 0 0:Nat):Int))=(c:Int)-97:=Z
   have big:(100:Nat)<ζ:=by decide
   exists 40
   show jM _ _ _ [↑(V.str z),↑(V.ref l),↑(V.str #[(List.toArray [c])]),↑(V.int ((c:Int)-97))] d
   exists 0,.inl #[24,HP.of e],15,(by decide:(0:Int)<16),l,4,e,by rw[Jb];lia
   have t:HG H (HI d l (.lst (ds.map V.int++[V.int (((c:Int)-97)%16)]))):=aK j g
   exists 0,.inl #[24,HP.of qb],15,#[⋯,⋯],l,4,qb,by rw[Jq,Jb,IK];lia,aK t g,_,_,Z
   rw[qb,JG,Ik];rfl
  .rintro σ d ⟨j,o,p,rfl,e⟩
   rw[show z.cps.size=z.cps.toList.length from Z,FU]at e
   exact#[0,q l d j g e]
theorem vV(a:At K mg "key_of" jK ["table","key","name"])(T:Ld K mg tk)(yQ:Df P w K mg base "letter_digits" ["name"] 1 Nv)(yX:Df P w K mg base "coded" X7 1 (NN K)):Df P w K mg base "key_of" Y3 2 (NO K):=by
 refine a.dq Mu λf _ A _ s H vs Q E Y h=>?_
 .let#[a,b,z,t,ks,rfl,ha,hb,W,lt,q]:=h
  exists _,(qg (qG 3 Mu.nd (qF rE (zp (qc qj qa)) (zk (v:= .int 4) Z T.g_KEY_PLACES #[0])))
   (qg (Qs J0 Z (BE Z T.b_enumerate (qc (qy yQ Y.mo (qc qJ qa)) qa)) (cU Z (qQ (qD 4 Mu.nd) (qQ (qD 5 Mu.nd) Qu)))
   (qh (Bi qP (qF QC Qk (zk (v:= .int 4) Z T.g_KEY_PLACES #[0])) Ah Qw Cp Zz)))
   (qh (qp (qy yX Y.mo (qc ql (qc qB (qc (QR (own:=["total"]) (fr:=[]) (js:=[]) Z (lN qP) Z (λ_ _ h=>nomatch h) Z (iy Z nofun nofun nofun) (λ_ _ _ _=>qD 0 (show List.Nodup (["total"]:Α)from by decide +kernel) Z (Or.inl Z) (.inr Z)) (λ_ _ _ _=>(qF QC ql (zk (v:= .int 16) Z T.g_DIGITS #[0])))) qa))))))))
  refine#[Hh,λX J=>#[X,(4),18,qb,⋯,⋯,Ho,λl hl=>?_]]
  have s1:=(HG.upd (o:= .lst [V.int 0]) J)
  have s2:=s1.trans (HG.upd (o:= .lst (List.replicate (4:Int).toNat [V.int 0]).flatten) hl)
  have R:H l=none:=QZ hl s1
  refine#[0,z,Z,W,λD H1 s3 c d=>?_]
  have S:=s3 _ _ (qb (H:=HI H X (.lst [V.int 0])) (a:=l) (o:= .lst (List.replicate (4:Int).toNat [V.int 0]).flatten))
  have G:D≠l:=λy=>by rw[y,qb]at c;cases c
  generalize hds:Z1 z.cps.toList=ds at d q
  have a0:ds.length<=16:=by rw[<- hds,mZ];have:=W.2.2;lia
  refine#[D,Z,#[_,HP.of d],rA (K:=K) (a:=D) (xs:=ds.map V.int) (λi σ g=>∃(U M:Ρ),σ=[↑(-a),↑(-b),↑(.str z),↑(-l),U,M]/\g l=↑(.lst ((bz ds i).map V.int))/\g D=↑(.lst (ds.map V.int))/\HG H g)
   #[none,none,Z,S,d,s2.trans s3] (λi σ g _ ⟨_,_,_,_,hd,_⟩=>HP.of hd) ?_ ?_]
  .rintro i x σ g pp F ⟨U,M,rfl,n,r,m⟩ O
   let#[dg,rfl,B]:=Zy F;have hi:i<ds.length:=(Jt.mp B).1
   have eg:ds.getD i 0=dg:=by rw[JM,B];rfl
   have j:=HG.upd (o:= .tup [.int i,.int dg]) O
   have u:=j _ _ n;have N:i%4<(bz ds i).length:=Nat.mod_lt i ⋯
   have e4:(i:Int)%4=((i%4:Nat):Int):=by lia
   exists pp,0,HQ.of qb,11
   exists 14,(by decide:(0:Int)<4),l,_,i%4,.int ((bz ds i).getD (i%4) 0),Z,(by show V.int ((i:Int)%4)=_;rw[e4]),u,?_,15,l,8,i%4,12,u,mt e4 (by rw[Jb];exact N),6,?_,?_
   .rw[lW N,JM,Jk N];rfl
   .rw[qb,gi,<- eg,vQ]
   .rw[qk G];exact j _ _ r
   .exact aK (m.trans j) R
  .rintro σ g ⟨U,M,rfl,n,r,m⟩
   rw[Jb]at n;refine#[5,l,Z,#[_,HP.of n],cZ (xs:=(bz ds ds.length).map V.int) (Ho) (λi ys H3=>ys=((eK ds).take i).map V.int/\H3=g) #[by simp,Z] (λi ys H3 ⟨_,e⟩=>by rw[e];exact HP.of n) ?_ ?_]
   .rintro i ys H3 x F _ ⟨rfl,rfl⟩
    let#[y,rfl,hy]:=Zy F;refine#[15,(by decide:(0:Int)<16),?_,Z]
    have:(eK ds)[i]? =↑(y%16):=by unfold eK;rw[Jp,hy];rfl
    rw[FC,this];simp
   .rintro ys H3 a1 ⟨rfl,rfl⟩ p hp
    rw[show(eK ds).take ((bz ds ds.length).map V.int).length=eK ds from Z]
    have C:=HG.upd (o:= .lst ((eK ds).map V.int)) hp
    exact#[a,b,p,t,ks,eK ds,Z,(ha.same m).same C,(hb.same m).same C,.lst qb,lt,by rw[rB];decide,by rw[rB];decide,λp' H' s' I L=>q p' H' ((m.trans C).trans s') (QZ I (m.trans C)) L]
theorem lK(a:At K mg "count_digits" bj ["count"])(T:Ld K mg tk):Df P w K mg base "count_digits" ["count"] 1 PU:=by
 refine a.dq kW λf _ A _ s H e Q E g h=>?_
 .let#[c,rfl,q]:=h
  exists _,(qh (qp (qM (qc (qF QC ql (zk (v:= .int 16) Z T.g_DIGITS #[0])) (qc (qF QC (qF cA ql (zk (v:= .int 16) Z T.g_DIGITS #[0])) (zk (v:= .int 16) Z T.g_DIGITS #[0])) (qc (qF cA ql qj) qa))))))
  exact#[15,(by decide:(0:Int)<16),15,#[⋯,⋯],4,(by decide:(0:Int)<16),15,#[⋯,⋯],Hn,λp d=>q p _ (HG.upd d) qb]
theorem BF{c d:Int}(f:0<=c)(h1:c<4096)(a:ZJ d):∀z∈b9 c d,0<=z/\z<=1000000:=λz e=>by
 have:=jJ f h1 a z (ID _ e)
 exact#[this.1,Int.le_trans (Int.le_of_lt this.2) ⋯]
theorem rY(a:At K mg "press_of" fS ["table","key","name","age","count","deed"])(T:Ld K mg tk)(yS:Df P w K mg base "count_digits" ["count"] 1 PU)(Y:Df P w K mg base "key_of" Y3 2 (NO K))(yX:Df P w K mg base "coded" X7 1 (NN K)):Df P w K mg base "press_of" W7 3 (OB K):=by
 refine a.dq Mo λf _ A _ s H vs Q E l h=>?_
 .let#[a,b,z,age,c,d,t,ks,rfl,J,hb,M,lt,S,c1,R,q]:=h
  exists _,(qg (qG 6 Mo.nd (qF lO (qy yS l.mo (qc Qk qa)) (qM (qc Qw qa))))
   (qg (qG 7 Mo.nd (qF lO ar (qM (qc (qF QC (qq (vj Z) T.b_sum PyProof.Rows.boot_sum (qc ar qa)) (zk (v:= .int 16) Z T.g_DIGITS #[0])) qa))))
   (qh (qp (qM (qc qJ (qc qP (qc (qy yX l.mo (qc ql (qc (qy Y l.mo (qc ql (qc qB (qc qJ qa)))) (qc (qv 7) qa)))) qa))))))))
  refine#[0,c,Z,λO H1 U B=>?_]
  refine#[0,Hh,λp2 u=>?_]
  have I:=HG.upd (o:= .tup [V.int d]) u
  refine#[O,p2,4,I _ _ B,qb,Ho,λm H3 s3 y=>?_]
  have e:H3 m=↑(.tup ((b9 c d).map V.int)):=y
  have S3:=(U.trans I).trans s3;refine#[3,m,b9 c d,Z,.tup e,by show 4<=1000;decide,BF S c1 R,4,(by decide:(0:Int)<16),Hh,λN x=>?_]
  have L:=HG.upd (o:= .tup [V.int ((b9 c d).sum%16)]) x
  refine#[m,N,4,L _ _ e,qb,Hq,λD H5 X C=>?_]
  have g:H5 D=↑(.tup ((cu c d).map V.int)):=C
  have i:=(S3.trans L).trans X;refine#[41,a,b,z,t,ks,Z,J.same i,hb.same i,M,lt,λW H6 j _ n=>?_]
  refine#[0,a,W,D,t,mM t ks z,cu c d,Z,(J.same i).same j,.tup n,.tup (j _ _ g),lt,by rw[gv];decide,by rw[gv];decide,λG H7 s7 _ r=>?_]
  refine#[Hn,λp hp=>?_]
  have F:=HG.upd (o:= .tup [V.str z,.int age,-G]) hp
  exact q p G _ (((i.trans j).trans s7).trans F) qb (F _ _ r)
theorem nX(a:At K mg "read_press" cF ["table","key","press"])(T:Ld K mg tk)(S:Df P w K mg base "key_of" Y3 2 (NO K))(L:Df P w K mg base "decoded" X7 2 (Nu K)):Df P w K mg base "read_press" Y0 3 (Os K):=by
 refine a.dq IZ λf _ A _ s H vs Q E B h=>?_
 .let#[a,b,pr,M,z,age,t,ks,ds,rfl,D,Y,n,o,I,pm,J,l,q]:=h
  exists _,(qg (Qy qJ (cO Z (qQ (qD 3 IZ.nd) (qQ (qD 4 IZ.nd) (qQ (qD 5 IZ.nd) Qu)))))
   (qg (Qy (qy L B.mo (qc ql (qc (qy S B.mo (qc ql (qc qB (qc qP qa)))) (qc Qw qa)))) (cU Z (qQ (qD 6 IZ.nd) (qQ (qD 7 IZ.nd) (qQ (qD 8 IZ.nd) (qQ (qD 9 IZ.nd) (qQ (qD 10 IZ.nd) Qu)))))))
   (qg (qC (qw bu (qv 10) (qF QC (qF zt (qF zt (qF zt ar (qv 7)) (qv 8)) (qv 9)) (zk (v:= .int 16) Z T.g_DIGITS #[0])) (qz _)) (qh (qp zo)) qr)
   (qh (qp (qM (qc (qF zt (qF zt ar (qF ZY (qv 7) (zk (v:= .int 16) Z T.g_DIGITS #[0]))) (qF ZY (qv 8) qj)) (qc (qv 9) qa))))))))
  exists 0,pr,0,n,13
  refine#[27,a,b,z,t,ks,Z,D,Y,I,sV pm,λO H1 r _ m=>?_]
  refine#[0,a,O,M,t,mM t ks z,ds,Z,D.same r,.tup m,o.same r,pm,l,by lia,by lia,λR C W _ g=>?_]
  have u:∀x H',HG C H'->ir H' x (oE (Z4 (Qr t) (mM t ks z) ds))->Q x H':=λx H' s' G=>q x H' ((r.trans W).trans s') G
  have U:(Z4 (Qr t) (mM t ks z) ds).length=5:=by rw[jW,J]
  let#[lo,mi,hi,d,i,N]:=BQ U;rw[N]at g u;exists R,0,HQ.of g,33
  exists 23,(by decide:(0:Int)<16),7
  have j:∀x H',HG C H'->ir H' x (if i=(lo+mi+hi+d)%16 then ↑(lo+mi*16+hi*256,d)else none)->Q x H':=u
  by_cases e:i=(lo+mi+hi+d)%16
  .rw[Jd e]at j
   refine fK (c:=V.int i=V.int ((lo+mi+hi+d)%16)) (by rw[e]) ?_
   refine#[14,.inr #[⋯,⋯],31,.inr #[⋯,⋯],9,Hj,λp X=>?_]
   exact j _ _ (HG.upd X) #[p,Z,qb]
  .rw[Jc e]at j
   refine qO (λ_=>j _ _ (HG.refl _) Z) (λy=>absurd ?_ y)
   have:¬V.int i=V.int ((lo+mi+hi+d)%16):=λF=>e (by injection F)
   show(! decide (V.int i=V.int ((lo+mi+hi+d)%16)))=true
   rw[Jm this];rfl
end
section
variable{tk:Nat->Tok}
theorem gq(a:Ly K C "door_named" "House.door_named" Zw ["self","name"])(T:Ld K mg tk)(U:MK K C)(l:ML K mg x fI):My P w K mg base C "door_named" v3 1 (Ms K CB CD C x):=by
 refine a.my gP λf _ A _ s H q Q E m h=>?_
 .let#[c,S,nm,rfl,d,o,n]:=h
  exists _,(qg (qC (bK m qB (qA ql)) (qh (Qv Qc Z Z J3 Z l.g_Unknown l.e_Unknown (qc qi qa) Z)) qr)
   (qh (qp (qH m (qA ql) qB))))
  rcases d.at_.gdd nm with⟨e,g⟩|⟨i,y,z,e,p,_,_,_,g⟩
  .refine#[3,c.ma,0,d.h_doors U,c.dd,0,g,0,Qa ?_]
   exact#[Hh,λa j=>(o e).mk (HG.refl _) j]
  .refine#[3,c.ma,0,d.h_doors U,c.dd,0,g,0,zx ?_]
   exact#[0,c.ma,0,d.h_doors U,0,c.dd,0,g,n i y e p]
theorem eF(a:Ly K C "button_named" "House.button_named" Zb ["self","name"])(T:Ld K mg tk)(U:MK K C)(l:ML K mg x fI):My P w K mg base C "button_named" v3 1 (Ni K CB CD C x):=by
 refine a.my ft λf _ A _ s H q Q E m h=>?_
 .let#[c,S,nm,rfl,d,o,n]:=h
  exists _,(qg (qC (bK m qB (qA ql)) (qh (Qv Qc Z Z J3 Z l.g_Unknown l.e_Unknown (qc qi qa) Z)) qr)
   (qh (qp (qH m (qA ql) qB))))
  rcases d.at_.gbd nm with⟨e,g⟩|⟨i,y,z,e,p,_,_,_,g⟩
  .refine#[3,c.ma,0,d.h_buttons U,c.bd,0,g,0,Qa ?_]
   exact#[Hh,λa j=>(o e).mk (HG.refl _) j]
  .refine#[3,c.ma,0,d.h_buttons U,c.bd,0,g,0,zx ?_]
   exact#[0,c.ma,0,d.h_buttons U,0,c.bd,0,g,n i y e p]
theorem jk(a:Ly K C "kept_now" "House.kept_now" Z3 ["self"])(T:Ld K mg tk)(U:MK K C):Mf P w K mg base C "kept_now" v1 1 (ON K CB CD C):=by
 refine a.mq jo λf _ A _ s H n Q E o h=>?_
 .let#[d,S,rfl,g,q]:=h
  exists _,(qh (qp (qI zf T.b_tuple JB (qc (qA ql) qa))))
  let#[m,e,l,r]:=id g.at_.kl
  exact#[0,d.ma,0,g.h_kept U,d.kl,0,.inl #[HP.of e,λt c=>q t _ (HG.upd c) #[m,qb,l,λi a P h1 j=>Ln.same (HG.upd c) (r i a P h1 j)]]]
theorem iC(a:Ly K C "opened_by" "House.opened_by" ZT ["self","door"])(T:Ld K mg tk)(U:MK K C)(r:Mf P w K mg base C "door_named" v3 1 (Nh K CB CD C)):Mf P w K mg base C "opened_by" Y8 2 (NF K CB CD C):=by
 refine a.mq im λf _ A _ s H u Q E n h=>?_
 .let#[j,S,nm,i,y,rfl,d,hi,m,q]:=h
  exists _,(qg (qT (zc r U.cl n.mo ql (qc qB qa)))
   (qh (qp (qI zf T.b_tuple JB (qc (qH n (qA ql) qB) qa)))))
  rcases d.at_.god nm with⟨e,g⟩|⟨v,z,y',e,l,c,_,_,g⟩
  .rw[hi]at e;cases e
  .rw[hi]at e;cases e
   rw[m]at c;cases c
   have o:=(d.at_.de i z y l m).2;exists 0,j.ma,Z,d.no,0,j,S,nm,i,z,Z,d,hi,l
   exact#[0,j.ma,0,d.h_opened U,0,j.od,0,g,z.ol,0,.inl #[HP.of o,λt p=>q t _ (HG.upd p) qb]]
theorem ji(a:Ly K C "door_now" "House.door_now" Z5 ["self","door"])(T:Ld K mg tk)(U:MK K C)(m:LS K CD)(r:Mf P w K mg base C "door_named" v3 1 (Nh K CB CD C))(o:Mf P w K mg base CD "twin_door" v1 3 (OI K CD)):Mf P w K mg base C "door_now" Y8 4 (Nj K CB CD C):=by
 refine a.mq jh λf _ A _ s H t Q E l h=>?_
 .let#[j,S,n,nm,i,y,rfl,d,ok,hi,e,q]:=h
  exists _,(qh (qp (qW o m.cl l.mo (zc r U.cl l.mo ql (qc qB qa)))))
  let#[z,y',g,c,_,_]:=d.at_.dix hi;rw[e]at c;cases c
  have dl:=(d.at_.de i z y g e).1
  exact#[0,j.ma,Z,d.no,0,j,S,nm,i,z,Z,d,hi,g,z.a.p,Z,dl.dr.no,z.a,y.D,y.L,Z,dl,(ok.dr y (Jo e)).ok.kl,λda H' s' _ _ _ _ p=>q da H' s' p]
theorem gJ(a:Ly K C "button_now" "House.button_now" Zu ["self","button"])(T:Ld K mg tk)(U:MK K C)(i:MD K CB)(F:Mf P w K mg base C "button_named" v3 1 (OK K CB CD C))(v:Mf P w K mg base CB "age_now" v1 1 (ME K CB))(x:Mf P w K mg base CB "count_now" v1 1 (L4 K CB))(r:Mf P w K mg base CB "cells_now" v1 1 (Na K CB)):Mf P w K mg base C "button_now" Y4 2 (ND K CB CD C):=by
 refine a.mq LP λf _ A _ s H G Q E g h=>?_
 .let#[n,S,nm,j,B,rfl,e,hi,l,q]:=h
  exists _,(qg (qG 2 LP.nd (zc F U.cl g.mo ql (qc qB qa)))
   (qh (qp (qM (qc (qW v i.cl g.mo qJ) (qc (qW x i.cl g.mo qJ) (qc (qW r i.cl g.mo qJ) qa)))))))
  let#[z,B',m,d,_,_]:=e.at_.bix hi;rw[l]at d;cases d
  let#[ta,ka,b]:=e.at_.be j z B m l;exists 0,n.ma,Z,e.no,0,n,S,nm,j,z,Z,e,hi,m
  refine#[0,z.p,Z,b.no,z.p,ta,ka,z.ce,B,Z,b,0,z.p,Z,b.no,z.p,ta,ka,z.ce,B,Z,b,0,z.p,Z,b.no,z.p,ta,ka,z.ce,B,Z,b,λc H1 D y=>#[Hn,λt p=>?_]]
  have u:=HG.upd (o:= .tup [.int B.age,.int B.cnt,-c]) p
  exact q t c _ (D.trans u) qb (u _ _ y)
theorem fR(a:Ly K C "keep_press" "House.keep_press" Zv ["self","pressed","deed"])(T:Ld K mg tk)(U:MK K C)(XC:ML K mg x fI)(R:MD K CB)(M:My P w K mg base CB "press_once" Y7 4 (M0 K CB x)):My P w K mg base C "keep_press" V4 5 (N0 K CB CD C x):=by
 refine a.my gI λf _ A _ s H vs Q E J h=>?_
 .let#[g,S,n,j,z,B,d,rfl,o,ok,n9,r,p,L,Y,q]:=h
  exists _,(qg (qT (Qx JN JU JV zY (qA ql) (qc (zX M zm R.cl J.mo qB (qc qJ qa)) qa)))
   (qh (qp (qF QU (qq qL T.b_len JE (qc (qA ql) qa)) qj))))
  let#[ta,ka,b]:=o.at_.be j z B r p;have F:=ok.bt B (Jo p);let#[as,ek,lk,rk]:=id o.at_.kl;have nk:=ok.nk;refine#[0,g.ma,0,o.h_kept U,.inl #[24,HP.of ek],0,z.p,Z,b.no,0,z.p,ta,ka,z.ce,B,d,Z,b,F.nm,by rw[F.t,ok.tp.length_eq];rfl,F.ok.c0,L,Y,λhc pr O H1 I b1 N W=>?_]
  have h1:=o.btn r p I #[ta,ka,b1] (Z2 B);let#[c,l,e,v]:=id h1.at_.kl;have e:c.length=S.kp.length:=e
  exists g.kl,4,l,by rw[Jb,e,Jn];lia
  have y:Mv [g.kl] H1 (HI H1 g.kl (.lst (c.map V.ref++[-pr]))):=Mv.upd1
  have m:NT [g.kl] H1:=NT.one l trivial
  have pl:Pe (HI H1 g.kl (.lst (c.map V.ref++[-pr]))) g.kl (S.kp++[zb B d]):=by
   refine#[c++[pr],by rw[qb,JG];rfl,by rw[Jq,Jq,e];rfl,λi u P t D=>?_]
   rcases bh e t D with⟨t,D⟩|⟨rfl,rfl⟩
   .exact Ln.mv y m (v i u P t D)
   .exact Ln.mv y m #[O,N,W]
  have G:=h1.kpt pl;exists 0,g.ma,0,G.h_kept U,g.kl,0,.inl (HP.of qb),4
  have X:((c.map V.ref++[V.ref pr]).length:Int)-1=(S.kp.length:Int):=by rw[Jq,Jb,e];simp
  show Q (.int (((c.map V.ref++[V.ref pr]).length:Int)-1)) _
  rw[X];exact q _ hc ((oB r I).trans (br kY y)) G
end
section
variable{tk:Nat->Tok}
theorem g9(a:Ly K C "add_door" "House.add_door" aa ["self","name","near","far","most"])(T:Ld K mg tk)(U:MK K C)(XC:ML K mg x fI)(UD:LS K CD)(yH:Mi P w K mg base CD "Door" x5 1 (NV K CD))(dG:Mf P w K mg base CD "close_below" X2 1 (Ml K CD)):My P w K mg base C "add_door" V7 3 (OL K CB CD C x):=by
 refine a.my LW λf _ A _ s H vs Q E D h=>?_
 .let#[d,S,n,nm,l,m,j,rfl,o,ok,n9,dr,dq]:=h
  exists _,(qg (qC (ki D qB (qA ql)) (qh (Qv Qc Z Z J3 Z XC.g_Known XC.e_Known (qc qi qa) Z)) qr)
   (qg (qG 5 LW.nd (a9 yH D.mo (qc (qA ql) (qc (qA ql) (qc qJ (qc qP (qc Qk qa)))))))
   (qg (qC (qw kB (qA ql) qj (qz _)) (qh (qT (zc dG UD.cl D.mo Qw (qc (qA ql) qa)))) qr)
   (qg (Q8 D (qA ql) qB Qw)
   (qh (Q8 D (qA ql) qB (zp qa)))))))
  rcases o.at_.gdd nm with⟨e,g⟩|⟨i,y,z,e,hy,_,_,_,g⟩
  case inr=>
   refine#[3,d.ma,0,o.h_doors U,d.dd,0,g,0,Qa ?_]
   exact#[Hh,λa J=>HX.mk (dr .known (Jd (by rw[e];rfl))) (HG.refl _) J]
  have dq:=dq _ _ (Jc (by rw[e];intro z;cases z))
  refine#[3,d.ma,0,o.h_doors U,d.dd,0,g,0,zx ?_]
  refine#[0,d.ma,0,o.h_table U,0,d.ma,0,o.h_keys U,5,λp dx R L N=>?_]
  have B:HG H (HI (HI H dx (.own p)) p (.ins CD dx [])):=(HG.upd L).trans (HG.upd (by rw[qk N.symm];exact R))
  have Y:=o.same B;refine#[p,d.ta,d.hk,dx,l,m,j,S.t,S.kss,Z,qb,.inr Y.at_.tb,Y.at_.ks,ok.k8,λta hk bd lg H2 fh fb fl m2 d2 k2=>#[Z,?_]]
  have t:=HK.dl d2 k2;have O:HG H H2:=HG.mv_of B m2 (λc I=>by rw[Jg.mp I];exact R)
  have o2:=o.same O;have fd:∀z∈dS #[p,ta,hk,bd,lg],H z=none:=tz R (QZ fh B) (QZ fb B) (QZ fl B)
  have l0:=ok.l0;refine An (λM H3=>M=[↑(-d.ma),↑(.str nm),↑(.int l),↑(.int m),↑(.int j),↑(-p)]/\HG H H3/\Lc K CD H3 #[p,ta,hk,bd,lg] (ZU S nm l m j).D (ZU S nm l m j).L) (λD' a1 F=>?_) ?_
  .refine#[0,d.ma,0,o2.h_least U,9,qO (λz=>?_) (λz=>?_)]
   .have z:0<S.least:=Jv z
    refine#[0,p,Z,t.dr.no,0,d.ma,0,o2.h_least U,#[p,ta,hk,bd,lg],_,[],S.least,Z,t,JL _,λD2 r h2 H3 m3 v=>F _ _ #[Z,?_,?_]]
    .exact HG.mv_of O m3 (λc I=>fd c (by simp only[Jh,Jr,Js]at I;rcases I with rfl|rfl;exact gf _;exact cf _))
    .cases h2
     unfold ZU;simp only
     rw[Jd z];have e2:(if S.least>0 then S.least else 0)=S.least:=Jd z
     simp only at v
     rw[e2]at v;exact v
   .have z:¬0<S.least:=λy=>z (Je y)
    refine F _ _ #[Z,O,?_]
    unfold ZU;simp only
    rw[Jc z,show S.least=0 by lia]
    exact t
  rintro _ H3 ⟨rfl,s3,v⟩
  have nd:=ok.nd;have X:=o.same s3;let#[kvs,p1,r1]:=o.putD (y:=ZU S nm l m j) s3 v fd e Z (by lia)
  exists 3,d.ma,0,X.h_doors U,0,d.dd,0,p1
  have o4:Qm K (HI H3 d.dd (.dK kvs)) d.ma "opened" (-d.od):=by
   let#[u,q]:=X.mn;let#[w,W]:=o.at_.ow
   exact#[C,u,_,by rw[qk (λz=>by have:=W.dd;rw[<- z,W.ma]at this;cases this)];exact q,U.cl,U.n_opened,bD 6 Z (show((uY d S.least).map (·.1)).Nodup from p6)]
  refine#[Hf,λol G=>?_]
  let#[a0,p2,m6,gr,h6]:=r1 ol G;have o5:Qm K (HI (HI H3 d.dd (.dK kvs)) ol (.lst [])) d.ma "opened" (-d.od):=by
   let#[C',u,fs,q,r]:=o4
   exact#[C',u,fs,by rw[qk (qu q G)];exact q,r]
  exists 0,d.ma,0,o5,0,d.od,0,p2
  exact dq .non _ _ m6 gr Z h6 Z
theorem fJ(a:Ly K C "add_button" "House.add_button" Zp ["self","name","step"])(T:Ld K mg tk)(U:MK K C)(G:ML K mg x fI)(UB:MD K CB)(yT:Mi P w K mg base CB "Button" X5 1 (NP K CB)):My P w K mg base C "add_button" ["self","name","step"] 3 (OM K CB CD C x):=by
 refine a.my LM λf _ A _ s H vs Q E r h=>?_
 .let#[d,S,n,nm,step,rfl,j,ok,n9,O,dq]:=h
  exists _,(qg (qC (ki r qB (qA ql)) (qh (Qv Qc Z Z J3 Z G.g_Known G.e_Known (qc qi qa) Z)) qr)
   (qg (qG 3 LM.nd (qF QU (qq qL T.b_len JE (qc (qA ql) qa)) qj))
   (qh (Q8 r (qA ql) qB (a9 yT r.mo (qc qB (qc (qA ql) (qc (qE qU (qA ql) qP) (qc qP (qc qJ qa))))))))))
  rcases j.at_.gbd nm with⟨e,g⟩|⟨i,y,z,e,hy,_,_,_,g⟩
  case inr=>
   refine#[3,d.ma,0,j.h_buttons U,d.bd,0,g,0,Qa ?_]
   exact#[Hh,λa o=>HX.mk (O .known (Jd (by rw[e];rfl))) (HG.refl _) o]
  have dq:=dq _ _ (Jc (by rw[e];intro z;cases z))
  refine#[3,d.ma,0,j.h_buttons U,d.bd,0,g,0,zx ?_]
  let#[m,F,N,t]:=id j.at_.ks;exists 0,d.ma,0,j.h_keys U,d.hk,0,.inl (HP.of F),4
  rw[Jb,N];have k1:=ok.k1;have hk:S.kss.length-1<m.length:=by lia
  have I:=Jk hk;have u:S.kss[S.kss.length-1]? =↑(S.kss.getD (S.kss.length-1) []):=by
   rw[JM,Jk (by lia)];rfl
  have sq:=t _ _ _ I u;refine#[3,d.ma,0,j.h_table U,0,d.ma,0,j.h_keys U,0,d.hk,8,.ref m[S.kss.length-1],12,HP.of F,?_,3,λp dx D q v=>?_]
  .have X:((S.kss.length:Int)-1)=((S.kss.length-1:Nat):Int):=by lia
   show Q3 (m.map V.ref) ((S.kss.length:Int)-1)=_
   rw[X];exact Qe (by rw[Jp,I];rfl)
  have l:HG H (HI (HI H dx (.own p)) p (.ins CB dx [])):=(HG.upd q).trans (HG.upd (by rw[qk v.symm];exact D))
  have W:=j.same l;refine#[p,d.ta,m[S.kss.length-1],dx,nm,(S.kss.length:Int)-1,step,S.t,S.kss.getD (S.kss.length-1) [],Z,qb,.inr W.at_.tb,.inr (HG.sqt l sq.up),λta ka ce H2 fc m2 b2=>#[Z,?_]]
  have J:HG H H2:=HG.mv_of l m2 (λc hc=>by rw[Jg.mp hc];exact D)
  have o2:=j.same J;have nb:=ok.nb;let#[kvs,L,Y,M,R]:=j.putB (B:=hU S nm step) (p:=p) (ce:=ce) J #[ta,ka,b2] D (QZ fc l) e (by lia)
  exists 0,d.ma,0,o2.h_buttons U,0,d.bd,0,L
  exact dq .non _ _ Y M Z R Z
end
section
variable{tk:Nat->Tok}
theorem li(a:Ly K C "teach" "House.teach" bU ["self","door","button"])(T:Ld K mg tk)(U:MK K C)(L:ML K mg x fI)(UB:MD K CB)(UD:LS K CD)(XI:Xi P w K mg base x.b "BadPress" (.ref x.e::Ql) Ql "ValueError.__new__" V3 2 (MS x.b "place"))(dE:My P w K mg base C "door_named" v3 1 (Ms K CB CD C x))(dH:My P w K mg base C "button_named" v3 1 (Ni K CB CD C x))(dO:My P w K mg base C "keep_press" V4 5 (N0 K CB CD C x))(dY:Mf P w K mg base CD "button_of" v3 1 (OZ K CD))(xC:Mf P w K mg base CD "is_full" v1 1 (NR K CD))(dL:Mf P w K mg base CD "takes_age" X2 1 (MP K CD))(xI:Mf P w K mg base CD "learn" Y2 7 (MZ K CD))(dD:Mf P w K mg base CB "count_now" v1 1 (L4 K CB))(dC:Mf P w K mg base CB "age_now" v1 1 (ME K CB)):My P w K mg base C "teach" W5 8 (Od K CB CD C x):=by
 refine a.my Lk λf _ A _ s H vs Q E m h=>?_
 .let#[g,S,n,dn,bn,rfl,r,ok,n9,p,dq]:=h
  exists _,(qg (qG 3 Lk.nd (zX dE zm U.cl m.mo ql (qc qB qa)))
   (qg (qG 4 Lk.nd (zX dH zm U.cl m.mo ql (qc qJ qa)))
   (qg (qC (qw Bk (zc dY UD.cl m.mo qP (qc qJ qa)) zo (qz _)) (qh (Qv Qc Z Z J3 Z L.g_Known L.e_Known (qc qi qa) Z)) qr)
   (qg (qC (zW (qW xC UD.cl m.mo qP)) (qh (Qv Qc Z Z J3 Z L.g_Full L.e_Full (qc qi qa) Z)) qr)
   (qg (qC (qw kB (qW dD UB.cl m.mo Qk) (qF QU (zk (v:= .int 4096) Z T.g_COUNTS #[0]) qj) (qz _)) (qh (Qv Qc Z Z J3 Z L.g_Worn L.e_Worn (qc qi qa) Z)) qr)
   (qg (qC (Qg (zW (zc dL UD.cl m.mo qP (qc (qW dC UB.cl m.mo Qk) qa)))) (qh (nG Qc Z Z J3 Z XI m.mo (qc qj qa) Z)) qr)
   (qg (qG 5 Lk.nd (zX dO zm U.cl m.mo ql (qc Qk (qc qj qa))))
   (qg (qG 6 Lk.nd (zX dO zm U.cl m.mo ql (qc Qk (qc qj qa))))
   (qh (qT (zc xI UD.cl m.mo qP (qc (qE qU (qA ql) Qw) (qc (qE qU (qA ql) ar) qa)))))))))))))
  refine#[0,g.ma,Z,r.no,0,g,S,dn,Z,r,λe=>p .unknown (e8 e),λi z hi M=>?_]
  let#[z',y,Y,G,_,_]:=r.at_.dix hi;rw[M]at Y;cases Y
  refine#[0,g.ma,Z,r.no,0,g,S,bn,Z,r,λe=>p .unknown ((fm hi G).trans (cE e)),λj u hj hu=>?_]
  let#[u',B,N,J,_,eB]:=r.at_.bix hj;rw[hu]at N;cases N
  rw[nL hi G hj J]at p dq;have dl:=(r.at_.de i z y M G).1;let#[ta,ka,b]:=r.at_.be j u B hu J;have I:=ok.bt B (Jo J);have D:=ok.dr y (Jo G);subst eB;refine#[0,z.a.p,Z,dl.dr.no,0,z.a.p,z.a.ta,z.a.hk,z.a.bd,z.a.lg,y.L.length,y.D,B.nm,Z,dl.dr,λO=>?_,λe a he a3=>?_]
  case refine_2=>
   refine#[7,zZ (by rw[Jm (by intro z;cases z)];rfl) ?_]
   exact#[Hh,λa l=>HX.mk (p .known (Jd (by rw[he];intro z;cases z))) (HG.refl _) l]
  have r1:fG S i j y B=_:=Jc (λq=>q O)
  rw[r1]at p dq;refine#[7,zz (by rw[Je Z];rfl) ?_]
  refine#[0,z.a.p,Z,dl.dr.no,z.a.p,z.a.ta,z.a.hk,z.a.bd,z.a.lg,y.L.length,y.D,Z,dl.dr,0,qO (λq=>?_) (λq=>?_)]
  .exact#[Hh,λa l=>HX.mk (p .full (Jd (Jv q))) (HG.refl _) l]
  have hm:¬y.D.most<=(y.D.kn.length:Int):=λz=>q (Je z)
  rw[Jc hm]at p dq;refine#[0,u.p,Z,b.no,u.p,ta,ka,u.ce,B,Z,b,30,qO (λq=>?_) (λq=>?_)]
  .have q:B.cnt>4096-2:=Jv q
   exact#[Hh,λa l=>HX.mk (p .worn (Jd (by lia))) (HG.refl _) l]
  have hc:¬4094<B.cnt:=λz=>q (Je (show B.cnt>4096-2 by lia))
  rw[Jc hc]at p dq;exists 0,z.a.p,Z,dl.dr.no,0,u.p,Z,b.no,u.p,ta,ka,u.ce,B,Z,b,z.a.p,z.a.ta,z.a.hk,z.a.bd,z.a.lg,y.L.length,y.D,B.age,Z,dl.dr,0
  by_cases hl:B.age<S.least
  .refine zZ (by unfold ZW;rw[Jm (by rw[D.l];lia)];rfl) ?_
   exact#[Hh,λe he=>#[e,(0),Z,⋯,qb,λd D=>#[Z,↑d,qb,Md.mk (p (.badp 0) (Jd hl)) (HG.refl _) he D]]]
  rw[Jc hl]at dq;have a1:=I.a1;refine zz (by unfold ZW;rw[Je (by rw[D.l];lia),Je (by rw[D.k];exact I.a1)];rfl) ?_
  have F:ZJ 0:=#[⋯,⋯]
  refine#[0,g.ma,Z,r.no,0,g,S,n,j,u,B,(0),Z,r,ok,by lia,hu,J,F,(λq=>by lia),λH1 c1 m1 h1=>?_]
  have a0:=ok.keep J c1 F;refine#[0,g.ma,Z,h1.no,0,g,zd S j B 0,n+1,j,u,B.pr,(0),Z,h1,a0,by lia,hu,cJ J,F,(λq=>by rw[aR]at q;lia),λH2 c2 m2 W=>?_]
  let#[c,X,o,t]:=id W.at_.kl;have o:c.length=((S.kp++[zb B 0])++[zb B.pr 0]).length:=o
  have t:∀(i:Nat) (a:Δ) (P:Ps),c[i]? =↑a->((S.kp++[zb B 0])++[zb B.pr 0])[i]? =↑P->Mc H2 a P:=t
  rw[Jq,Jq]at o;have o:c.length=S.kp.length+1+1:=o
  have g1:=Jk (show S.kp.length<c.length by lia)
  have g2:=Jk (show S.kp.length+1<c.length by lia)
  have q1:=t _ _ (zb B 0) g1 (by rw[FH (by rw[Jq];simp),Fy (Jf _)];simp)
  have q2:=t _ _ (zb B.pr 0) g2 (by rw[Fy (by rw[Jq];exact Jf _),Jq];simp)
  have R:=(W.at_.de i z y M G).1;have y1:=Jo G;have a2:(0:Int)<=B.cnt:=I.ok.c0
  have ll:=D.ll;refine#[0,z.a.p,Z,R.dr.no,0,g.ma,0,W.h_kept U,0,g.kl,8,.ref c[S.kp.length],12,HP.of X,Qe (by rw[Jp,g1];rfl),0,g.ma,0,W.h_kept U,0,g.kl,8,.ref c[S.kp.length+1],12,HP.of X,?_,z.a,y.D,y.L,8,zb B 0,zb B.pr 0,B.cnt,(0),(0),Z,R,by lia,D.ok,q1,q2,bG ok I (by lia) F,?_,cj ok y1 I (by lia) (by lia) F,?_,Z2 B,aL B,?_,by lia,λH3 m3 d3=>?_]
  .have e1:(((zd S j B 0).kp.length:Nat):Int)=((S.kp.length+1:Nat):Int):=by
    show((S.kp++[zb B 0]).length:Int)=_
    rw[Jq];rfl
   rw[e1];exact Qe (by rw[Jp,g2];rfl)
  .exact bG ok (I.pr (by lia)) (by rw[aR];lia) F
  .have:=cj ok y1 (I.pr (by lia)) (by rw[aL];lia) (by rw[aR];lia) F
   rw[this,aR]
  .show y.D.kn.lookup B.pr.nm=none
   rw[Z2];exact O
  .have h3:=W.door M G (bX m3) d3
   have en:(zb B.pr 0).nm=B.nm:=Z2 B
   have ea:(zb B.pr 0).age=B.age:=aL B
   rw[en,ea]at h3;exact dq _ _ Z .non g H3 ((m1.trans m2).trans (ci M (bX m3))) L7.refl Z h3 Z
end
end Lw
namespace L3
open PySem PySem.Spec PyProof.Rows L2
noncomputable def pD(S:Hs)(j:Nat)(B:Bt):Hd->Ls
 | .press _ deed ds=>aC S j B deed ds
 | .lose _=> .ok (S.setB j B.ou) .non
 | .tear _=> .ok (S.setB j B.tn) .non
 | .turnB _=>if(S.kss.length:Int)<=B.age+1 then .ref .worn else .ok (S.setB j (B.turn (S.kss.getD (B.age+1).toNat []))) .non
 |_=> .ref .unknown
noncomputable def oC:Hd->Option Str
 | .press b _ _=>↑b
 | .lose b=>↑b
 | .tear b=>↑b
 | .turnB b=>↑b
 |_=>none
theorem BL{b:Str}(hb:oC d=↑b)(a:qX S.bn b=↑j)(c:S.bs[j]? =↑B):Qb S d=pD S j B d:=by
 cases d with
 |press b' deed ds=>cases hb;exact ni a c
 |lose b'=>cases hb;exact fF a c
 |tear b'=>cases hb;exact fF a c
 |turnB b'=>cases hb;exact fF a c
 |_=>cases hb
theorem xi{b:Str}(hb:oC d=↑b)(a:qX S.bn b=none):Qb S d= .ref .unknown:=by
 cases d with
 |press b' deed ds=>cases hb;exact lf a
 |lose b'=>cases hb;exact cE a
 |tear b'=>cases hb;exact cE a
 |turnB b'=>cases hb;exact cE a
 |_=>cases hb
noncomputable def DA(H:Hp)(p:Δ)(a:Ha):Hd->Prop
 | .press _ deed ds=>∃q,H p=↑(.tup [.int deed,-q])/\Sq [] H q (ds.map V.str)/\q∉hF a/\ZJ deed/\ds.length<=5
 |_=>True
inductive Oj (K:ι) (CB CD:Δ) (ws:Α) (vs:Β) (H:Hp) (Q:VK) (_3:XK):Prop
 |mk (a:Ha) (S:Hs) (n j:Nat) (u:Mw) (B:Bt) (p:Δ) (d:Hd) (h1:vs=[-a.ma,.str (zi d),-u.p,-p]) (h2:HJ K CB CD none H a S) (h3:HZ n S) (h4:n<=900000) (h5:a.bs[j]? =↑u) (h6:S.bs[j]? =↑B) (h7:oC d≠none) (h8:zi d∈ws) (h9:DA H p a d) (h10:Mm K CB CD H a S (pD S j B d) Q)
theorem oP(h:n<=S.ds.length):n<=(eN S (Qb S d)).ds.length:=by
 cases e:Qb S d with
 |ref r=>exact h
 |ok S' o=>exact JI h (iE e).1
theorem wC(a:zi d="add_door"):1<=(eN S (Qb S d)).ds.length:=by
 cases d with
 |addD nm near far most=>
  have e:Qb S (.addD nm near far most)=if(qX S.dn nm).isSome=true then Ls.ref .known else .ok {S with ds:=S.ds++[ZU S nm near far most]} .non:=Z
  rw[e];split
  .rename_i h
   let#[i,hi]:=Gg.mp h
   have:=vX hi
   unfold Hs.dn at this;rw[Jb]at this
   show 1<=S.ds.length
   omega
  .show 1<=(S.ds++[_]).length
   rw[Jq];exact Nat.le_add_left _ _
 |_=>exact absurd (show(_:Str)=_ from a) (by show¬((_:Str)=_);first|exact(show¬(("add_button":Str)="add_door") by decide +kernel)|exact(show¬(("teach":Str)="add_door") by decide +kernel)|exact(show¬(("press_button":Str)="add_door") by decide +kernel)|exact(show¬(("play_kept":Str)="add_door") by decide +kernel)|exact(show¬(("lose_cell":Str)="add_door") by decide +kernel)|exact(show¬(("tear_cell":Str)="add_door") by decide +kernel)|exact(show¬(("turn_house":Str)="add_door") by decide +kernel)|exact(show¬(("turn_button":Str)="add_door") by decide +kernel)|exact(show¬(("close_ages":Str)="add_door") by decide +kernel)|exact(show¬(("forget_at":Str)="add_door") by decide +kernel))
inductive Ol (K:ι) (CB CD C:Δ) (vs:Β) (H:Hp) (Q:VK) (_3:XK):Prop
 |mk (sc:Δ) (ns:Ε) (g:Bool) (h1:vs=[-sc,.bl g]) (h2:HP K H sc (ns.map V.int)) (h3:∀q b aH aO S H',H' q=↑(.tup [-b,-aH.ma,-aO.ma])->Hb K CB CD C H H' b 1000 aH aO S 30->1<=S.ds.length->Q (-q) H')
inductive MJ (K:ι) (C:Δ) (x:Xa) (vs:Β) (H:Hp) (Q:VK) (E:XK):Prop
 |mk (a:Da) (D:Dr) (L:Τ) (nm:Str) (h1:vs=[-a.p,.str nm]) (h2:Lc K C H a D L) (h3:L.length<=1000000) (h4:(D.kn.lookup nm=none->HX E H x.u)) (h5:(D.kn.lookup nm≠none->∀H',Mv [a.bd,a.lg] H H'->Lc K C H' a {D with kn:=D.kn.filter λp=>decide (p.1≠nm)} (L++[.forget nm])->Q .non H'))
theorem Cd{K:ι}{C:Δ}{x:Xa}:∀c H Q E,Nf K C c H Q E->MJ K C x c H Q E0:=by
 rintro c H Q E ⟨a,D,L,nm,e,h,l,d,q⟩
 exact⟨a,D,L,nm,e,h,l,λz=>absurd z d,λ_=>q _ _ (Jc d)⟩
end L3
namespace Lw
open PySem L2 L3
section
variable{tk:Nat->Tok}
theorem kG(a:Ly K C "__init__" "House.__init__" aY ["self","table","key"])(T:Ld K mg tk)(U:MK K C):Mf P w K mg base C "__init__" ["self","table","key"] 1 (NZ K CB CD C):=by
 refine a.mq lu λf _ A _ s H vs Q E hr h=>?_
 .let#[p,t,k,dx,tt,ks,rfl,hp,hT,hk,q]:=h
  exists _,(qg (zy ql (qI Ze T.b_tuple JB (qc qB qa)))
   (qg (zy ql (zp (qc (qI Zg T.b_tuple JB (qc qJ qa)) qa)))
   (qg (zy ql qj)
   (qg (zy ql ag)
   (qg (zy ql ag)
   (qg (zy ql (zp qa))
   (qh (zy ql ag))))))))
  refine#[0,t,0,hT,λta H1 s1 ht=>#[0,p,0,aj [("table",V.ref ta)] U.cl (s1 _ _ hp) U.n_table 0,?_]]
  have e1:=s1 _ _ hp;have m1:Mv [p] H (HI H1 p (.ins C dx [("table",V.ref ta)])):=s1.mv.trans Mv.upd1
  have b7:N6 (HI H1 p (.ins C dx [("table",V.ref ta)])) k ks:=(N6.same s1 hk).mv Mv.upd1 (NT.one e1 trivial) (zv (λz=>by
   rcases N6.same s1 hk with q|q|⟨o,q⟩<;>(rw[z,e1]at q;cases q)))
  have b5:=Qd (o:= .ins C dx [("table",V.ref ta)]) e1 ht
  have L:(HI H1 p (.ins C dx [("table",V.ref ta)])) p=↑(.ins C dx [("table",V.ref ta)]):=qb
  generalize HI H1 p (.ins C dx [("table",V.ref ta)])=G1 at m1 b7 b5 L⊢
  refine#[0,k,ks,Z,b7,λkt H2 s2 d0=>#[Hh,λc D=>#[0,p,0,aj [("table",V.ref ta),("house_keys",V.ref c)] U.cl (HG.upd D _ _ (s2 _ _ L)) U.n_house_keys 1,?_]]]
  have u2:=HG.upd (o:= .lst [-kt]) D
  have R:=s2.trans u2;have M:=R _ _ L;have m2:Mv [p] G1 (HI (HI H2 c (.lst [-kt])) p (.ins C dx [("table",V.ref ta),("house_keys",V.ref c)])):=R.mv.trans Mv.upd1
  have B:c≠p:=λz=>by rw[z,s2 _ _ L]at D;cases D
  have f1:H c=none:=EA (m1.trans s2.mv) D B
  have b2:(HI (HI H2 c (.lst [-kt])) p (.ins C dx [("table",V.ref ta),("house_keys",V.ref c)])) c=↑(.lst [-kt]):=by rw[qk B];exact qb
  have O:=(Mv.upd1 (a:=p) (o:= .ins C dx [("table",V.ref ta),("house_keys",V.ref c)])).rd (NT.one M trivial) (Rd.same u2 d0)
  have b6:=Qd (o:= .ins C dx [("table",V.ref ta),("house_keys",V.ref c)]) M (HG.sqt R b5)
  have I:(HI (HI H2 c (.lst [-kt])) p (.ins C dx [("table",V.ref ta),("house_keys",V.ref c)])) p=↑(.ins C dx [("table",V.ref ta),("house_keys",V.ref c)]):=qb
  have c1:=m1.trans m2;generalize HI (HI H2 c (.lst [-kt])) p (.ins C dx [("table",V.ref ta),("house_keys",V.ref c)])=G2 at c1 b2 O b6 I⊢
  exists 0,p,0,aj [("table",V.ref ta),("house_keys",V.ref c),("least_age",V.int 0)] U.cl I U.n_least_age 2
  have i:∀{G:Hp} {fs:List (Str×V)} {z:Δ} (o:HO) (n:List (Str×V)),G p=↑(.ins C dx fs)->Mv [p] H G->HQ K G ta (tt.map V.int)->G c=↑(.lst [-kt])->Rd G kt (.tup (ks.map V.int))->G z=none->z≠p/\z≠c/\H z=none/\Mv [p] G (HI (HI G z o) p (.ins C dx n))/\Mv [p] H (HI (HI G z o) p (.ins C dx n))/\HQ K (HI (HI G z o) p (.ins C dx n)) ta (tt.map V.int)/\(HI (HI G z o) p (.ins C dx n)) c=↑(.lst [-kt])/\Rd (HI (HI G z o) p (.ins C dx n)) kt (.tup (ks.map V.int))/\(HI (HI G z o) p (.ins C dx n)) z=↑o:=λ{G fs z} o n e m t h r N=>by
   have nz:z≠p:=λq=>by rw[q,e]at N;cases N
   have u:=HG.upd (o:=o) N
   have eu:=u _ _ e;refine#[nz,λq=>(by rw[q,h]at N;cases N),EA m N nz,u.mv.trans Mv.upd1,m.trans (u.mv.trans Mv.upd1),Qd eu (HG.sqt u t),by rw[qk B];exact u _ _ h,Mv.upd1.rd (NT.one eu trivial) (Rd.same u r),by rw[qk nz];exact qb]
  have t3:=Qd (o:= .ins C dx [("table",V.ref ta),("house_keys",V.ref c),("least_age",V.int 0)]) I b6
  have m3:Mv [p] H (HI G2 p (.ins C dx [("table",V.ref ta),("house_keys",V.ref c),("least_age",V.int 0)])):=c1.trans Mv.upd1
  have h3:(HI G2 p (.ins C dx [("table",V.ref ta),("house_keys",V.ref c),("least_age",V.int 0)])) c=↑(.lst [-kt]):=by rw[qk B];exact b2
  have r3:=(Mv.upd1 (a:=p) (o:= .ins C dx [("table",V.ref ta),("house_keys",V.ref c),("least_age",V.int 0)])).rd (NT.one I trivial) O
  have b0:(HI G2 p (.ins C dx [("table",V.ref ta),("house_keys",V.ref c),("least_age",V.int 0)])) p=↑(.ins C dx [("table",V.ref ta),("house_keys",V.ref c),("least_age",V.int 0)]):=qb
  generalize HI G2 p (.ins C dx [("table",V.ref ta),("house_keys",V.ref c),("least_age",V.int 0)])=G3 at m3 t3 h3 r3 b0⊢
  refineλdd b4=>#[0,p,0,aj [("table",V.ref ta),("house_keys",V.ref c),("least_age",V.int 0),("doors",V.ref dd)] U.cl (HG.upd b4 _ _ b0) U.n_doors 3,?_]
  let#[J,c3,d2,g4,m4,t4,h4,r4,d]:=i (.dK []) [("table",V.ref ta),("house_keys",V.ref c),("least_age",V.int 0),("doors",V.ref dd)] b0 m3 t3 h3 r3 b4
  have a3:(HI (HI G3 dd (.dK [])) p (.ins C dx [("table",V.ref ta),("house_keys",V.ref c),("least_age",V.int 0),("doors",V.ref dd)])) p=↑(.ins C dx [("table",V.ref ta),("house_keys",V.ref c),("least_age",V.int 0),("doors",V.ref dd)]):=qb
  generalize HI (HI G3 dd (.dK [])) p (.ins C dx [("table",V.ref ta),("house_keys",V.ref c),("least_age",V.int 0),("doors",V.ref dd)])=G4 at g4 m4 t4 h4 r4 d a3⊢
  refineλbd F=>#[0,p,0,aj [("table",V.ref ta),("house_keys",V.ref c),("least_age",V.int 0),("doors",V.ref dd),("buttons",V.ref bd)] U.cl (HG.upd F _ _ a3) U.n_buttons 4,?_]
  let#[W,c2,c5,g5,m5,t5,h5,r5,g]:=i (.dK []) [("table",V.ref ta),("house_keys",V.ref c),("least_age",V.int 0),("doors",V.ref dd),("buttons",V.ref bd)] a3 m4 t4 h4 r4 F
  have a2:dd≠bd:=λz=>by rw[<- z,d]at F;cases F
  have d:=g5 _ _ (zv J) d;have a1:(HI (HI G4 bd (.dK [])) p (.ins C dx [("table",V.ref ta),("house_keys",V.ref c),("least_age",V.int 0),("doors",V.ref dd),("buttons",V.ref bd)])) p=↑(.ins C dx [("table",V.ref ta),("house_keys",V.ref c),("least_age",V.int 0),("doors",V.ref dd),("buttons",V.ref bd)]):=qb
  generalize HI (HI G4 bd (.dK [])) p (.ins C dx [("table",V.ref ta),("house_keys",V.ref c),("least_age",V.int 0),("doors",V.ref dd),("buttons",V.ref bd)])=G5 at g5 m5 t5 h5 r5 g a1 d⊢
  refine#[Hf,λl x=>#[0,p,0,aj [("table",V.ref ta),("house_keys",V.ref c),("least_age",V.int 0),("doors",V.ref dd),("buttons",V.ref bd),("kept",V.ref l)] U.cl (HG.upd x _ _ a1) U.n_kept 5,?_]]
  let#[b3,c4,d4,g6,m6,t6,h6,r6,v]:=i (.lst []) [("table",V.ref ta),("house_keys",V.ref c),("least_age",V.int 0),("doors",V.ref dd),("buttons",V.ref bd),("kept",V.ref l)] a1 m5 t5 h5 r5 x
  have a4:dd≠l:=λz=>by rw[<- z,d]at x;cases x
  have Y:bd≠l:=λz=>by rw[<- z,g]at x;cases x
  have d:=g6 _ _ (zv J) d;have g:=g6 _ _ (zv W) g;have a0:(HI (HI G5 l (.lst [])) p (.ins C dx [("table",V.ref ta),("house_keys",V.ref c),("least_age",V.int 0),("doors",V.ref dd),("buttons",V.ref bd),("kept",V.ref l)])) p=↑(.ins C dx [("table",V.ref ta),("house_keys",V.ref c),("least_age",V.int 0),("doors",V.ref dd),("buttons",V.ref bd),("kept",V.ref l)]):=qb
  generalize HI (HI G5 l (.lst [])) p (.ins C dx [("table",V.ref ta),("house_keys",V.ref c),("least_age",V.int 0),("doors",V.ref dd),("buttons",V.ref bd),("kept",V.ref l)])=G6 at g6 m6 t6 h6 r6 v a0 d g⊢
  refineλod j=>#[0,p,0,aj [("table",V.ref ta),("house_keys",V.ref c),("least_age",V.int 0),("doors",V.ref dd),("buttons",V.ref bd),("kept",V.ref l),("opened",V.ref od)] U.cl (HG.upd j _ _ a0) U.n_opened 6,?_]
  let#[d3,d1,c6,g7,m7,t7,h7,r7,c0]:=i (.dK []) [("table",V.ref ta),("house_keys",V.ref c),("least_age",V.int 0),("doors",V.ref dd),("buttons",V.ref bd),("kept",V.ref l),("opened",V.ref od)] a0 m6 t6 h6 r6 j
  have b1:dd≠od:=λz=>by rw[<- z,d]at j;cases j
  have X:bd≠od:=λz=>by rw[<- z,g]at j;cases j
  have a5:l≠od:=λz=>by rw[<- z,v]at j;cases j
  have d:=g7 _ _ (zv J) d;have g:=g7 _ _ (zv W) g;have v:=g7 _ _ (zv b3) v;have S:(HI (HI G6 od (.dK [])) p (.ins C dx [("table",V.ref ta),("house_keys",V.ref c),("least_age",V.int 0),("doors",V.ref dd),("buttons",V.ref bd),("kept",V.ref l),("opened",V.ref od)])) p=↑(.ins C dx [("table",V.ref ta),("house_keys",V.ref c),("least_age",V.int 0),("doors",V.ref dd),("buttons",V.ref bd),("kept",V.ref l),("opened",V.ref od)]):=qb
  generalize HI (HI G6 od (.dK [])) p (.ins C dx [("table",V.ref ta),("house_keys",V.ref c),("least_age",V.int 0),("doors",V.ref dd),("buttons",V.ref bd),("kept",V.ref l),("opened",V.ref od)])=G7 at g7 m7 t7 h7 r7 c0 S d g v⊢
  refine q #[p,ta,c,dd,bd,od,l,[],[]] G7 Z m7 (λz N=>?_) (HJ.new (kt:=kt) #[dx,S] t7 h7 r7 d g v c0 #[_,S,trivial] ?_)
  .rcases Lf.mp N with(z|z|z|z|z|z)|⟨y,hy,_⟩|⟨y,hy,_⟩
   .exact .inl z
   .exact .inr (by rw[z];exact f1)
   .exact .inr (by rw[z];exact d2)
   .exact .inr (by rw[z];exact c5)
   .exact .inr (by rw[z];exact c6)
   .exact .inr (by rw[z];exact d4)
   .cases hy
   .cases hy
  .simp only[J6,Jh,Jr,Js,not_or,GW,and_true]
   exact#[#[B.symm,J.symm,W.symm,b3.symm,d3.symm],#[c3.symm,c2.symm,c4.symm,d1.symm],#[a2,a4,b1],#[Y,X],a5,trivial,Ga]
theorem gn(a:Ly K C "turn_house" "House.turn_house" Zn ["self","key"])(T:Ld K mg tk)(U:MK K C)(XC:ML K mg x fI)(UD:LS K CD)(dZ:Mf P w K mg base CD "turn_key" W0 1 (Ng K CD)):My P w K mg base C "turn_house" W0 2 (N3 K CB CD C x):=by
 refine a.my LN λf _ A _ s H vs Q E hr h=>?_
 .let#[c,S,n,D,ks,rfl,d,ok,n9,hk,X,k8,dr,dq]:=h
  exists _,(qg (qC (qw cY (qq qL T.b_len JE (qc (qA ql) qa)) (zk (v:= .int 8) Z T.g_AGES #[0]) (qz _)) (qh (Qv Qc Z Z J3 Z XC.g_TooMany XC.e_TooMany (qc qi qa) Z)) qr)
   (qg (eW (Qs em Z (lT (gj (qA ql))) (qD 2 LN.nd)
   (qh (qT (zc dZ UD.cl hr.mo qJ (qc qB qa))))))
   (qh (qT (Qx JN JU JV zY (qA ql) (qc (qI Zg T.b_tuple JB (qc qB qa)) qa))))))
  let#[as,G,I,p]:=id d.at_.ks;exists 0,c.ma,0,d.h_keys U,c.hk,0,.inl (HP.of G),9
  rw[Jb,I]
  by_cases h8:8<=S.kss.length
  .refine zZ (Je (by omega)) ?_
   exact#[Hh,λa O=>HX.mk (dr .toomany (Jd h8)) (HG.refl _) O]
  have dq:=dq _ _ (Jc h8);refine zz (Jm (by omega)) ?_
  refine#[0,c.ma,0,d.h_doors U,c.dd,18,d.at_.dd,λM l=>#[M,c.dd,0,qb,HG.upd l _ _ d.at_.dd,λo=>?_]]
  have F:=HG.upd (o:=iH M c.dd) l
  have W:=d.same F;have u:=N6.same F hk;generalize HI H M (iH M c.dd)=H1 at F W u⊢
  refine bZ W (bB ks) (λy=>rfl) (λσ=>∃Y,σ=[↑(-c.ma),↑(-D),Y]) #[0] (λHx=>N6 Hx D ks) (u.mv (Mv.upd1 (a:=c.dd)) (NT.one W.at_.dd trivial) (zv (λz=>X (z▸b8)))) ?_ ?_
  .rintro i z y σ Hx hz hy ⟨Y,rfl⟩ J dl N hN
   have R:=ok.dr y (Jo hy);have ll:=R.ll;refine#[0,z.a.p,Z,dl.dr.no,0,z.a,y.D,y.L,D,ks,Z,dl,by omega,by rw[R.k];omega,J,k8,λD2 r g H2 e d2=>?_]
   have g:(if y.D.kss.length<8 then ↑(({y.D with kss:=y.D.kss++[ks]}:Dr),Rw.turn ks)else none)=↑(D2,r):=g
   rw[Jd (by rw[R.k];omega)]at g
   cases g;exact hN _ _ #[0] (J.mv (Bd e) dl.nt (λq=>X (kE hz q))) (Bd e) d2
  .rintro σ Hx ⟨Y,rfl⟩ J ex e B
   exists c.dd,o,_,ex,λo' u' q=>by(have q:H c.dd=↑(.frz o' u'):=q;rw[d.at_.dd]at q;cases q)
   have e:=F.mv.trans e;have m:=J.mv (Mv.upd1 (a:=c.dd) (o:= .dK (zw Lx.nm (λx=>V.ref x.a.p) c.ds))) (NT.one ex trivial) (zv (λz=>X (z▸b8)))
   generalize HI Hx c.dd (.dK (zw Lx.nm (λx=>V.ref x.a.p) c.ds))=H2 at B e m⊢
   let#[as,G,I,p]:=id B.at_.ks;refine#[0,c.ma,0,B.h_keys U,.inl #[24,HP.of G],0,D,ks,Z,m,λt H3 L ht=>?_]
   have h3:=B.same L;have j:=L _ _ G;exists c.hk,4,j,by rw[Jb,I,Jn];show S.kss.length<_;omega
   have k3:=kz j I (λi a ks h1 g=>HG.sqt L (p i a ks h1 g)) (.inl ht)
   have h4:=h3.key k3;exact dq .non c _ ((e.trans L.mv).trans (br ku Mv.upd1)) L7.refl Z h4 Z
theorem fN(a:Ly K C "close_ages" "House.close_ages" Zm ["self","age"])(T:Ld K mg tk)(U:MK K C)(F:ML K mg x fI)(UD:LS K CD)(dG:Mf P w K mg base CD "close_below" X2 1 (Ml K CD)):My P w K mg base C "close_ages" X2 2 (Oe K CB CD C x):=by
 refine a.my LO λf _ A _ s H vs Q E M h=>?_
 .let#[c,S,n,age,rfl,e,ok,n9,R,dq]:=h
  exists _,(qg (qC (Qg (cB av dh qj qB (qq qL T.b_len JE (qc (qA ql) qa)))) (qh (Qv Qc Z Z J3 Z F.g_Unknown F.e_Unknown (qc qi qa) Z)) qr)
   (qg (eW (Qs em Z (lT (gj (qA ql))) (qD 2 LO.nd)
   (qh (qT (zc dG UD.cl M.mo qJ (qc qB qa))))))
   (qh (zy ql (qq (iN Z) T.b_max IX (qc (qA ql) (qc qB qa)))))))
  let#[as,L,O,X]:=id e.at_.ks;have l:¬(0<=age/\age<S.kss.length)->∀a,H a=none->E (-a) none (HI (HI H a (M4 a (-x.u) none)) a (MF a (-x.u) none)):=λq a d=>HX.mk (R .unknown (Jc q)) (HG.refl _) d
  refine#[16,qO (λg=>?_) (λg=>?_)]
  case refine_2=>
   have g:¬(0<=age):=λq=>g (Je q)
   refine#[0,Qa ?_]
   exact#[Hh,λa d=>l (λq=>g q.1) a d]
  have g:0<=age:=Jv g
  exists 0,c.ma,0,e.h_keys U,c.hk,0,.inl (HP.of L),9
  rw[Jb,O]
  by_cases p:age<(S.kss.length:Int)
  case neg=>
   refine zZ (by rw[Jm p];rfl) ?_
   exact#[Hh,λa d=>l (λq=>p q.2) a d]
  have dq:=dq _ _ (Jd #[g,p]);refine zz (by rw[Je p];rfl) ?_
  refine#[0,c.ma,0,e.h_doors U,c.dd,18,e.at_.dd,λt m=>#[t,c.dd,0,qb,HG.upd m _ _ e.at_.dd,λo=>?_]]
  have v:=HG.upd (o:=iH t c.dd) m
  have D:=e.same v;generalize HI H t (iH t c.dd)=H1 at v D⊢
  refine bZ D (bI age) (λy=>rfl) (λσ=>∃B,σ=[↑(-c.ma),↑(.int age),B]) #[0] (λHx=>True) trivial ?_ ?_
  .rintro i z y σ Hx hz hy ⟨B,rfl⟩ _ dl N G
   have ll:=(ok.dr y (Jo hy)).ll;refine#[0,z.a.p,Z,dl.dr.no,0,z.a,y.D,y.L,age,Z,dl,by omega,λD2 r h2 H2 j J=>?_]
   cases h2;exact G _ _ #[0] trivial (CP j) J
  .rintro σ Hx ⟨B,rfl⟩ _ ex j u
   exists c.dd,o,_,ex,λo' u' q=>by(have q:H c.dd=↑(.frz o' u'):=q;rw[e.at_.dd]at q;cases q)
   have j:=v.mv.trans j;generalize HI Hx c.dd (.dK (zw Lx.nm (λx=>V.ref x.a.p) c.ds))=H2 at u j⊢
   let#[H3,I,Y,W]:=u.leastI U (if age>S.least then age else S.least)
   exists 0,c.ma,0,u.h_least U,29,c.ma,0,I
   exact dq .non c _ (j.trans (br iZ Y)) L7.refl Z W Z
end
section
variable{tk:Nat->Tok}
theorem lq(a:Ly K C "forget" "Door.forget" bW ["self","name"])(T:Ld K mg tk)(U:LS K C)(M:ML K mg x fI):My P w K mg base C "forget" v3 1 (MJ K C x):=by
 refine a.my mz λf _ A _ s H vs Q E W h=>?_
 .let#[#[p,ta,hk,bd,lg],D,L,nm,rfl,#[b,#[rs,u,O],I],n1,qn,q]:=h
  simp only at b u I q
  exists _,(qg (qC (bK W qB (qA ql)) (qh (Qv Qc Z Z J3 Z M.g_Unknown M.e_Unknown (qc qi qa) Z)) qr)
   (qg (qT (xo (qA ql) qB))
   (qh (qT (Qx JN JU JV zY (qA ql) (qc (qM (qc qi (qc qB qa))) qa))))))
  rcases b.kb.get nm with⟨e,g⟩|⟨e,xx,N,g,hx⟩
  .refine#[3,p,0,b.h_buttons U,bd,0,g,0,Qa ?_]
   exact#[Hh,λa m=>(qn e).mk (HG.refl _) m]
  have q:=q (by rw[N];intro z;cases z)
  refine#[3,p,0,b.h_buttons U,bd,0,g,0,zx ?_]
  let#[t,j,X,y,Y]:=id b.kb;let#[kvs,d,F]:=b.kb.drop nm;have B:kvs=cQ t.1 t.2:=by rw[j]at d;injection d with z;injection z with z;exact z.symm
  have R:QQ kvs (Sum.inr nm:qR)=↑(.ref (t.2 nm)):=by rw[B,mK,jF y Y,N];rfl
  exists 0,p,0,b.h_buttons U,bd,Z,.inl #[_,.inl j],0,kvs,.inr nm,_,d,Z,R
  have J:=b.putK Mv.upd1 F;have G:Mv [bd] H (HI H bd (.dK (c8 kvs (Sum.inr nm)))):=Mv.upd1
  have i:=G _ _ (zv (zr u j (by intro z;cases z))) u
  have n:=O.mv G (NT.one j trivial);refine#[0,p,0,J.h_log U,.inl #[24,HP.of i],0,Hj,λr v=>?_]
  have l:=HG.upd (o:= .tup [.str "forget",.str nm]) v
  have S:=J.same l;exists lg,4,l _ _ i,by rw[Jb,O.1,Jn];omega
  exact q _ (((Mv.upd1.mono (λc h z=>h (by rw[Jg.mp z];exact Jy ..))).trans l.mv).trans (Mv.upd1.mono (λc h z=>h (by rw[Jg.mp z];exact JD _ (Jy ..))))) (Lc.push (a:=#[p,ta,hk,bd,lg]) S (l _ _ i) (n.same l) ((Le.mv G (NT.one j trivial) (zv (ue j b)) I).same l) (show Nc _ r (.forget nm)from .inl qb))
end
end Lw
namespace L3
open PySem PySem.Spec PyProof.Rows L2
theorem aM{b:Str}{i:Decidable (V.str a=V.str b)}(h:@decide _ i=true):a=b:=by injection Jv h
noncomputable def EH(q:Δ):Hd->Β
 | .addD nm near far most=>[.str nm,.int near,.int far,.int most]
 | .addB nm step=>[.str nm,.int step]
 | .teach d b=>[.str d,.str b]
 | .press b deed ds=>[.str b,.int deed,-q]
 | .play k d=>[.int k,.str d]
 | .lose b=>[.str b]
 | .tear b=>[.str b]
 | .turnH ks=>[-q]
 | .turnB b=>[.str b]
 | .close age=>[.int age]
 | .forget d b=>[.str d,.str b]
noncomputable def Fe(Z:Η)(H:Hp)(q:Δ):Hd->Prop
 | .press b deed ds=>Sq [] H q (ds.map V.str)/\q∉Z
 | .turnH ks=>H q=↑(.tup (ks.map V.int))
 |_=>True
theorem Nt.cells{Z:Η}(h:Nt Z H l d):∃q,H l=↑(.tup (.str (zi d)::EH q d))/\Fe Z H q d:=by
 cases d with
 |press b deed ds=>let#[p,h1,a]:=h;exact#[p,h1,a]
 |turnH ks=>let#[p,h1,a]:=h;exact#[p,h1,a]
 |_=>exact#[(0),h,trivial]
theorem vY{K:ι}(h:Le [] H hk a){z:Int}(n:0<=z)(m:z<a.length):∃(c:Η) (t:Δ),H hk=↑(.lst (c.map V.ref))/\c.length=a.length/\Q3 (c.map V.ref) z=↑(-t)/\Sq K H t ((a.getD z.toNat []).map V.int):=by
 let#[c,l,g,d]:=h;have h1:z.toNat<c.length:=by lia
 have i:z.toNat<a.length:=by lia
 have f:=Jk h1;have e:(z.toNat:Int)=z:=by lia
 refine#[c,c[z.toNat],l,g,?_,.inr (HQ.up (d _ _ _ f ?_))]
 .have:=Qe (xs:=c.map V.ref) (j:=z.toNat) (v:= .ref c[z.toNat]) (by rw[Jp,f];rfl)
  rw[e]at this;exact this
 .rw[JM,Jk i];rfl
end L3
namespace Lw
open PySem L2 L3
section
variable{tk:Nat->Tok}
theorem jR(a:Ly K C "hear_at" "House.hear_at" aN ["self","door","number"])(T:Ld K mg tk)(U:MK K C)(UD:LS K CD)(xO:Mf P w K mg base CD "hear" V1 6 (NW K CD)):Mf P w K mg base C "hear_at" V8 7 (Mt K CB CD ↑C):=by
 refine a.mq L9 λf _ A _ s H vs Q E I h=>?_
 .let#[o,S,n,nm,k,i,y,c,rfl,l,ok,n9,hi,m,G,q]:=h
  exists _,(qg (qG 3 L9.nd (zc xO UD.cl I.mo (qH I (qA ql) qB) (qc (qE qU (qA ql) qJ) qa)))
   (qg (qC (qw qV (qE qS qP qj) qi (qz _)) (qh (qT (Qx JN JU JV zY (qH I (qA ql) qB) (qc qJ qa)))) qr)
   (qh (qp qP))))
  rcases l.at_.gdd nm with⟨e,g⟩|⟨i',z,y',e,j,x,_,ey,g⟩
  .rw[hi]at e;cases e
  rw[hi]at e;cases e
  rw[m]at x;cases x
  have dl:=(l.at_.de i z y j m).1;let#[O,ek,lk,rk]:=id l.at_.kl;have hk:k<O.length:=by rw[lk];exact(Jt.mp G).1
  have Y:=Jk hk;have pa:=rk k _ c Y G;have J:=ok.dr y (Jo m);have ll:=J.ll;refine#[0,o.ma,0,l.h_doors U,0,o.dd,0,g,z.a.p,Z,dl.dr.no,0,o.ma,0,l.h_kept U,0,o.kl,8,.ref O[k],12,HP.of ek,Qe (by rw[Jp,Y];rfl),z.a,y.D,y.L,.ref O[k],↑c,Z,dl,by lia,J.ok,#[0,pa,ok.kp c (Jo G)],(λh=>nomatch h),λP' eP pr R H1 _ F _ d W=>?_]
  cases eP;let#[M,N]:=l.heard (k:=k) j m F W
  let#[u,r,ew]:=kj y.D c;have t:=d;rw[ew]at t;have eo:iW (ze y.D c).1=decide (u="open"):=by rw[ew];rfl
  exists 0,R,8,.str u,12,HQ.of t,(show Q3 (V.str u::r) ((0:Nat):Int)=↑(.str u)from Qe Z),7
  by_cases B:u="open"
  .have h1:=l.door j m (bX F) W
   rcases h1.at_.god nm with⟨e,_⟩|⟨i',z',y',e,v,_,_,_,X⟩
   .rw[show(S.setD i {y with D:={y.D with kn:=(ze y.D c).2},L:=y.L++[.hear c (ze y.D c).1]}).dn=S.dn from Qt m Z,hi]at e;cases e
   rw[show(S.setD i {y with D:={y.D with kn:=(ze y.D c).2},L:=y.L++[.hear c (ze y.D c).1]}).dn=S.dn from Qt m Z,hi]at e;cases e
   rw[j]at v;cases v
   let#[p,h2]:=N (by rw[eo,Je B]) (by rw[ey];exact X)
   refine zZ (Je (by rw[B])) ?_
   have p:H1 z.ol=↑(.lst (y.op.map λn:Nat=>V.int (n:Int))):=p
   have lo:=J.lo;exists 0,o.ma,0,h1.h_opened U,0,o.od,0,X,.inl #[24,HP.of p],0,z.ol,4,p,by rw[Jb,Jn];lia
   rw[show(y.op.map (λn:Nat=>V.int (n:Int))++[V.int (k:Int)])=(y.op++[k]).map λn:Nat=>V.int (n:Int) by rw[JG];rfl]
   refine#[0,q R _ ((ci j (bX F)).trans (br (kT j) Mv.upd1)) h2 ?_]
   rw[qk (λz=>by rw[z,p]at d;cases d)];exact d
  .refine zz (Jm (by intro z;injection z with z;exact B z)) ?_
   exact#[0,q R _ (ci j (bX F)) (M (by rw[eo,Jm B])) d]
theorem gV(a:Ly K C "play_kept" "House.play_kept" ZM ["self","number","door"])(T:Ld K mg tk)(U:MK K C)(Y:ML K mg x fI)(J:Xi P w K mg base x.b "BadPress" (.ref x.e::Ql) Ql "ValueError.__new__" V3 2 (MS x.b "place"))(I:My P w K mg base C "door_named" v3 1 (Ms K CB CD C x))(G:Mf P w K mg base C "hear_at" V8 7 (Mt K CB CD ↑C)):My P w K mg base C "play_kept" ["self","number","door"] 8 (OR K CB CD C x):=by
 refine a.my ie λf _ A _ s H R Q E o h=>?_
 .let#[j,S,n,k,dn,rfl,g,ok,X,k0,k1,t,dq]:=h
  exists _,(qg (qT (zX I zm U.cl o.mo ql (qc qJ qa)))
   (qg (qC (Qg (cB av dh qj qB (qq qL T.b_len JE (qc (qA ql) qa)))) (qh (nG Qc Z Z J3 Z J o.mo (qc qB qa) Z)) qr)
   (qh (qp (zc G U.cl o.mo ql (qc qJ (qc qB qa)))))))
  refine#[0,j.ma,Z,g.no,0,j,S,dn,Z,g,λe=>t .unknown (e8 e),λi z hi F=>?_]
  let#[z',y,m,D,_,_]:=g.at_.dix hi;rw[F]at m;cases m
  rw[pM hi D]at t dq;let#[W,O,N,rk]:=id g.at_.kl;have l:¬(0<=k/\k<S.kp.length)->Md E H x.b "place" k:=λq=>t (.badp k) (pE q)
  refine#[16,qO (λc=>?_) (λc=>?_)]
  case refine_2=>
   have c:¬(0<=k):=λq=>c (Je q)
   refine#[0,Qa ?_]
   exact#[0,Hh,λe u=>#[e,k,Z,by lia,qb,λd p=>#[Z,↑d,qb,Md.mk (l λq=>c q.1) (HG.refl _) u p]]]
  have c:0<=k:=Jv c
  exists 0,j.ma,0,g.h_kept U,j.kl,0,.inl (HP.of O),9
  rw[Jb,N]
  by_cases r:k<(S.kp.length:Int)
  case neg=>
   refine zZ (by rw[Jm r];rfl) ?_
   exact#[0,Hh,λe u=>#[e,k,Z,by lia,qb,λd p=>#[Z,↑d,qb,Md.mk (l λq=>r q.2) (HG.refl _) u p]]]
  refine zz (by rw[Je r];rfl) ?_
  have v:=Jk (show k.toNat<S.kp.length by lia)
  refine#[0,j.ma,Z,g.no,3,j,S,n,dn,k.toNat,i,y,_,(by rw[Int.toNat_of_nonneg c];rfl),g,ok,by lia,hi,D,v,λB H1 M h1 L=>?_]
  exact dq _ _ (ra c v) (-B) j H1 M L7.refl Z h1 #[B,Z,L]
theorem eI(a:Ly K C "press_button" "House.press_button" Q9 ["self","button","deed","doors"])(T:Ld K mg tk)(U:MK K C)(XC:ML K mg x fI)(dE:My P w K mg base C "door_named" v3 1 (Ms K CB CD C x))(dH:My P w K mg base C "button_named" v3 1 (Ni K CB CD C x))(dO:My P w K mg base C "keep_press" V4 5 (N0 K CB CD C x))(xA:Mf P w K mg base C "hear_at" V8 7 (Mt K CB CD ↑C)):My P w K mg base C "press_button" Y5 8 (Og K CB CD C x):=by
 refine a.my Li λf _ A _ s H vs Q E hr h=>?_
 .let#[c,S,n,bn,deed,p,ds,rfl,F,ok,n9,sq,np,Y,d5,M,dq]:=h
  exists _,(qg (Qs em Z (fA qP) (qD 4 Li.nd)
   (qh (qT (zX dE zm U.cl hr.mo ql (qc Qk qa)))))
   (qg (qG 5 Li.nd (zX dO zm U.cl hr.mo ql (qc (zX dH zm U.cl hr.mo ql (qc qB qa)) (qc qJ qa))))
   (qh (qp (qM (qc Qw (qc (qI zf T.b_tuple JB (qc (QR (own:=["name"]) (fr:=["self","number"]) (js:=[0,5]) Z (fA qP) Z (xg Z Z) Z (wU Z nofun nofun nofun Z Z Z Z Z Z) (λ_ _ _ _=>qD 0 (show List.Nodup (["name","self","number"]:Α)from by decide +kernel) Z (Or.inl Z) (.inr Z)) (λ_ _ _ _=>(zc xA U.cl hr.mo qB (qc ql (qc qJ qa))))) qa)) qa)))))))
  refine jd (λa1 H'=>H'=H/\(∀nm∈ds,qX S.dn nm≠none)/\∃o,a1=[↑(-c.ma),↑(.str bn),↑(.int deed),↑(-p),o,none]) (λD' b6 b2=>?_) ?_
  .exists 0
   refine Bm (K:=K) sq (λi σ Hx=>Hx=H/\(∀nm∈ds.take i,qX S.dn nm≠none)/\∃o,σ=[↑(-c.ma),↑(.str bn),↑(.int deed),↑(-p),o,none]) #[Z,(λnm h=>by simp at h),0] (λi σ H' h=>h.1▸OS.refl) ?_ ?_ Z
   .rintro i v σ Hx O ⟨rfl,d,o,rfl⟩
    rw[Jp]at O;let#[nm,r,rfl]:=JY.mp O;refine#[0,c.ma,Z,F.no,0,c,S,nm,Z,F,λe=>M .unknown ?_,λj z hj hz=>#[Z,λm J=>?_,0]]
    .show(match QH S.dn ds with
      |none=>Ls.ref .unknown
      |some is=>_)=_
     rw[jN (Jo r) e]
    .rw[FC,r]at J
     rcases Jw.mp J with J|J
     .exact d m J
     .rw[Jg.mp J,hj];intro z;cases z
   .rintro σ Hx ⟨rfl,d,o,rfl⟩
    rw[Jb,FU]at d;exact b2 _ _ #[Z,d,o,Z]
  rintro a1 Hx ⟨rfl,d,o,rfl⟩
  let#[is,I]:=iY d;have G:=bH I;refine#[0,c.ma,Z,F.no,0,c.ma,Z,F.no,0,c,S,bn,Z,F,λe=>M .unknown (lf e),λj u hj hu=>?_]
  let#[u',B,R,hB,_,_]:=F.at_.bix hj;rw[hu]at R;cases R
  rw[ni hj hB]at M dq;unfold aC at M dq;rw[I]at M dq;refine#[0,c,S,n,j,u,B,deed,Z,F,ok,by lia,hu,hB,Y,λq=>M .worn (Jd q),λH1 hc m1 h1=>?_]
  have dq:=dq _ _ (Jc (by lia))
  have a3:=ok.keep hB hc Y;have b5:Sq [] H1 p (ds.map V.str):=f9 sq m1 F.at_.nt np
  have hk:(zd S j B deed).kp[S.kp.length]? =↑(zb B deed):=by show(S.kp++[_])[S.kp.length]? =_;simp
  exists 3,p,Z
  refine jH (K:=K) b5 (by rw[Jb,Jn];lia) (λi ys Hx=>Mv (hF c) H1 Hx/\HJ K CB CD ↑C Hx c (HV (zd S j B deed) S.kp.length is i).1/\∃xs:Η,ys=xs.map V.ref/\xs.length=i/\(HV (zd S j B deed) S.kp.length is i).2.length=i/\∀(k:Nat) (x:Δ) (l:Β),xs[k]? =↑x->(HV (zd S j B deed) S.kp.length is i).2[k]? =↑l->Hx x=↑(.tup l)) #[λ_ _ _ e=>e,h1,[],34,λk x l h=>by cases h] (λi ys H' h=>#[hF c,h.1,h1.at_.nt,np]) ?_ ?_
  .rintro i ys Hx v O b3 ⟨mx,D,xs,rfl,X,L,g⟩
   rw[Jp]at O;let#[nm,r,rfl]:=JY.mp O;let#[i',a4,a2]:=jV I r;have b7:i<ds.length:=(Jt.mp r).1
   let#[kd,kb,kp,kn]:=bv (zd S j B deed) S.kp.length is i
   have b4:(zd S j B deed).dn=S.dn:=Z
   have N:qX (HV (zd S j B deed) S.kp.length is i).1.dn nm=↑i':=by rw[kn,b4];exact a2
   let#[z,y,hz,hy,_,_]:=D.at_.dix N;have a0:(HV (zd S j B deed) S.kp.length is i).1.kp[S.kp.length]? =↑(zb B deed):=by rw[kp];exact hk
   have a5:=a3.hearN S.kp.length is i;have st:=lL a4 hy a0;refine#[0,c.ma,Z,D.no,3,c,8,nm,S.kp.length,i',y,0,D,a5,by lia,N,hy,a0,λq1 H2 m2 h2 e2=>?_]
   rw[st];refine#[mx.trans m2,h2,xs++[q1],by simp,by simp [X],by rw[Jq,L];rfl,λk x l W g2=>?_]
   rcases bh (X.trans L.symm) W g2 with⟨W,g2⟩|⟨rfl,rfl⟩
   .exact m2.tup D.at_.nt (g k x l W g2)
   .exact e2
  .rintro ys Hx b3 ⟨mx,D,xs,rfl,X,L,g⟩ lp b1
   rw[Jb]at X L D g;have u1:=HG.upd (o:= .lst (xs.map V.ref)) b1
   refine#[lp,0,.inl #[HP.of qb,λt ht=>#[Hj,λqt b0=>?_]]]
   have u2:=HG.upd (o:= .tup (xs.map V.ref)) ht
   have u3:=HG.upd (o:= .tup [.int (S.kp.length:Int),-t]) b0
   have U3:=(u1.trans u2).trans u3;rw[<- G]at D L g;refine dq (-qt) c _ ((m1.trans mx).trans U3.mv) L7.refl Z (D.same U3) #[qt,t,xs,Z,qb,u3 _ _ qb,by rw[X,L,G],λk x l W g2=>U3 _ _ (g k x l W g2)]
theorem eY(a:Ly K C "turn_button" "House.turn_button" Zk ["self","button"])(T:Ld K mg tk)(U:MK K C)(G:ML K mg x fI)(y:MD K CB)(dH:My P w K mg base C "button_named" v3 1 (Ni K CB CD C x))(X:Mf P w K mg base CB "age_now" v1 1 (ME K CB))(O:Mf P w K mg base CB "turn_key" W0 1 (NU K CB)):My P w K mg base C "turn_button" Y4 2 (Oh K CB CD C x):=by
 refine a.my Ll λf _ A _ s H vs Q E p h=>?_
 .let#[g,S,n,bn,rfl,d,ok,n9,r,dq]:=h
  exists _,(qg (qG 2 Ll.nd (zX dH zm U.cl p.mo ql (qc qB qa)))
   (qg (qG 3 Ll.nd (qF zt (qW X y.cl p.mo qJ) qj))
   (qg (qC (qw cY qP (qq qL T.b_len JE (qc (qA ql) qa)) (qz _)) (qh (Qv Qc Z Z J3 Z G.g_Worn G.e_Worn (qc qi qa) Z)) qr)
   (qh (qT (zc O y.cl p.mo qJ (qc (qE qU (qA ql) qP) qa)))))))
  refine#[0,g.ma,Z,d.no,0,g,S,bn,Z,d,λe=>r .unknown (cE e),λj u D m=>?_]
  let#[u',B,i,l,_,_]:=d.at_.bix D;rw[m]at i;cases i
  let#[ta,ka,b]:=d.at_.be j u B m l;have hb:=ok.bt B (Jo l);let#[as,I,J,L]:=id d.at_.ks;have N:Qb S (.turnB bn)=pD S j B (.turnB bn):=fF D l
  rw[N]at r dq;have a0:=hb.a0;exists 0,u.p,Z,b.no,u.p,ta,ka,u.ce,B,Z,b,4
  exists 3,g.ma,0,d.h_keys U,g.hk,0,.inl (HP.of I),9
  rw[Jb,J]
  by_cases hk:(S.kss.length:Int)<=B.age+1
  .exact zZ (Je hk) #[Hh,λa o=>HX.mk (r .worn (Jd hk)) (HG.refl _) o]
  refine zz (Jm hk) ?_
  have k8:=ok.k8;let#[Y,v,t,_,M,R]:=vY (K:=K) d.at_.ks (show 0<=B.age+1 by lia) (show B.age+1<S.kss.length by lia)
  refine#[0,u.p,Z,b.no,0,g.ma,0,d.h_keys U,0,g.hk,8,-v,12,HP.of t,M,u.p,ta,ka,u.ce,v,B,S.kss.getD (B.age+1).toNat [],Z,b,R,by lia,λq H1 F W=>?_]
  exact dq _ _ (Jc hk) .non g H1 (oB m (F.mono λc h z=>h (by rw[Jg.mp z];exact Jy ..))) L7.refl Z (d.btn m l (F.mono λc h z=>h (by rw[Jg.mp z];exact Jy ..)) #[ta,q,W] Z) Z
theorem gL(a:Ly K C "forget_at" "House.forget_at" ZO ["self","door","button"])(T:Ld K mg tk)(U:MK K C)(G:ML K mg x fI)(q:LS K CD)(v:My P w K mg base C "door_named" v3 1 (Ms K CB CD C x))(t:My P w K mg base CD "forget" v3 1 (MJ K CD x)):My P w K mg base C "forget_at" W5 2 (NK K CB CD C x):=by
 refine a.my ij λf _ A _ s H D Q E p h=>?_
 .let#[m,S,n,dn,bn,rfl,c,ok,F,l,dq]:=h
  exists _,(qh (qT (zX t zm q.cl p.mo (zX v zm U.cl p.mo ql (qc qB qa)) (qc qJ qa))))
  refine#[0,m.ma,Z,c.no,0,m,S,dn,Z,c,λe=>l .unknown (e8 e),λi z hi g=>?_]
  let#[I,y,d,j,_,_]:=c.at_.dix hi;rw[g]at d;cases d
  have dl:=(c.at_.de i z y g j).1;have u:Qb S (.forget dn bn)=if y.D.kn.lookup bn=none then Ls.ref .unknown else .ok (S.setD i (fu bn y)) .non:=fm hi j
  rw[u]at l dq;have B:=(ok.dr y (Jo j)).ll
  exact#[z.a.p,Z,dl.dr.no,0,z.a,y.D,y.L,bn,Z,dl,by lia,λe=>l .unknown (Jd e),λe H1 o r=>dq _ _ (Jc e) .non m H1 (ci g (bX o)) L7.refl Z (c.door g j (bX o) r) Z]
end
section
variable{tk:Nat->Tok}
theorem mE(a:At K mg "_law_refused" bT ["_law_word","_law_place"])(T:Ld K mg tk):Df P w K mg base "_law_refused" X0 1 Lj:=by
 refine a.dq mj λf _ A _ s H e Q E g h=>?_
 .let#[d,v,rfl,q]:=h
  exists _,(qh (qp (qM (qc qi (qc ql (qc qB qa))))))
  exact#[3,Hn,λt c=>q t c]
theorem uy(a:At K mg "_law_own" hW ["_law_table_here","_law_key_here"])(T:Ld K mg tk):Df P w K mg base "_law_own" V9 1 (OO K CB CD):=by
 refine a.dq ug λf _ A _ s H vs Q E hr h=>?_
 .let#[t,k,tt,ks,rfl,Y,hk,q]:=h
  exists _,(qh (qp (Bj (af qi ql (af qi (zp (qc qB qa)) (af qi qj (af qi ag (af qi ag (af qi (zp qa) (af qi ag Ci))))))))))
  refineλp D=>?_
  have u1:=HG.upd (o:= .dK []) D
  refine#[3,Hh,λd u=>?_]
  have O:=HG.upd (o:= .lst [-k]) u
  refineλdd l=>?_
  have B:=HG.upd (o:= .dK []) l
  refineλbd m=>?_
  have x:=HG.upd (o:= .dK []) m
  refine#[Hf,λi v=>?_]
  have r:=HG.upd (o:= .lst []) v
  refineλod n=>?_
  have j:=HG.upd (o:= .dK []) n
  let#[fh,n1]:=un u;let#[g,n2]:=un l;let#[fd,M]:=un g;let#[g,n4]:=un m;let#[g,n5]:=un g;let#[fb,J]:=un g;let#[g,n7]:=un v;let#[g,n8]:=un g;let#[g,n9]:=un g;let#[fk,S]:=un g;let#[g,nb]:=un n;let#[g,nc]:=un g;let#[g,nd]:=un g;let#[g,ne]:=un g;let#[fo,R]:=un g;have N:=u1.trans (O.trans (B.trans (x.trans (r.trans j))));have U:=(O.trans (B.trans (x.trans (r.trans j)))) p _ qb;have I:=(B.trans (x.trans (r.trans j))) d _ qb;have G:=(x.trans (r.trans j)) dd _ qb;have L:=(r.trans j) bd _ qb;have W:=j i _ qb;have X:(HI (HI (HI (HI (HI (HI H p (.dK [])) d (.lst [-k])) dd (.dK [])) bd (.dK [])) i (.lst [])) od (.dK [])) od=↑(.dK []):=qb
  generalize HI (HI (HI (HI (HI (HI H p (.dK [])) d (.lst [-k])) dd (.dK [])) bd (.dK [])) i (.lst [])) od (.dK [])=H7 at N U I G L W X⊢
  exists U,Zs #[p,t,d,dd,bd,od,i,[],[]] 0,Z,by show 7<=15;decide
  rw[show aE [] (Zs #[p,t,d,dd,bd,od,i,[],[]] 0)=Zs #[p,t,d,dd,bd,od,i,[],[]] 0 from(oG (Zs #[p,t,d,dd,bd,od,i,[],[]] 0) [] (by rw[Il];exact lm)).trans (Il _)]
  have C:HG H (HI H7 p (.dK (Zs #[p,t,d,dd,bd,od,i,[],[]] 0))):=λc o e=>by rw[qk (qu e D)];exact N _ _ e
  refine q #[p,t,d,dd,bd,od,i,[],[]] _ C (λz hz=>?_) (HJ.new (kt:=k) qb (HG.sqt C Y) (by rw[qk n1];exact I) (Rd.same C hk) (by rw[qk M];exact G) (by rw[qk J];exact L) (by rw[qk S];exact W) (by rw[qk R];exact X) #[_,qb,trivial] ?_)
  .rcases Lf.mp hz with(z|z|z|z|z|z)|⟨y,F,_⟩|⟨y,F,_⟩
   .rw[z];exact D
   .rw[z];exact fh
   .rw[z];exact fd
   .rw[z];exact fb
   .rw[z];exact fo
   .rw[z];exact fk
   .cases F
   .cases F
  .simp only[J6,Jh,Jr,Js,not_or,GW,and_true]
   exact#[#[n1.symm,M.symm,J.symm,S.symm,R.symm],#[n2.symm,n5.symm,n9.symm,ne.symm],#[n4.symm,n8.symm,nd.symm],#[n7.symm,nc.symm],nb.symm,trivial,Ga]
theorem rm(a:At K mg "_law_added" eD ["_law_own_here","_law_word","_law_name","_law_parts"])(T:Ld K mg tk)(UD:LS K CD)(yT:Mi P w K mg base CB "Button" X5 1 (NP K CB))(yH:Mi P w K mg base CD "Door" x5 1 (Oc K CD))(dG:Mf P w K mg base CD "close_below" X2 1 (Ml K CD))(dB:Df P w K mg base "_law_refused" X0 1 Lj):Df P w K mg base "_law_added" X9 3 (NG K CB CD):=by
 refine a.dq MU λf _ A _ s H vs Q E u h=>?_
 .let#[j,S,n,b5,nm,pp,d,rfl,I,ok,n9,hd,dq]:=h
  exists _,(qg (qG 4 MU.nd (qH u ql (qE qU (zp (qc qi (qc qi qa))) (qI iz T.b_int Gb (qc (Qf qV qB qi (qz _)) qa)))))
   (qg (qC (ki u qJ Qk) (qh (qp (qy dB u.mo (qc qi (qc zo qa))))) qr)
   (qg (qC (qw qV qB qi (qz _)) (qh (Q8 u Qk qJ (a9 yT u.mo (qc qJ (qc (qH u ql qi) (qc (qE qU (qH u ql qi) (om lI qj)) (qc (qF QU (qq qL T.b_len JE (qc (qH u ql qi) qa)) qj) (qc (qE qS qP qj) qa)))))))) (qg (Q8 u Qk qJ (a9 yH u.mo (qc (qH u ql qi) (qc (qI zf T.b_tuple JB (qc (qH u ql qi) qa)) (qc (qE qS qP qj) (qc (qE qS qP qj) (qc (qE qS qP qj) qa)))))))
   (qg (Q8 u (qH u ql qi) qJ (zp qa))
   (qh (qC (qw kB (qH u ql qi) qj (qz _)) (qh (qT (zc dG UD.cl u.mo (qH u Qk qJ) (qc (qH u ql qi) qa)))) qr)))))
   (qh (qp (qM (qc qi (qc zo qa))))))))
  rcases hd with⟨rfl,m,t,l,rfl,M⟩|⟨rfl,step,rfl,M⟩
  .refine#[0,Hj,λl1 W=>?_]
   have C:=HG.upd (o:= .lst [.str "buttons",.str "doors"]) W
   have v:=I.same C;refine#[18,.inr #[0,l1,8,.str "doors",12,HP.of qb,by rw[Je Z];rfl,j.ma,0,v.g_doors,?_]]
   have D:=C _ _ M;generalize HI H l1 (.lst [.str "buttons",.str "doors"])=H1 at C v D⊢
   rcases v.at_.gdd nm with⟨e,g⟩|⟨i,y,z,e,hy,_,_,_,g⟩
   case inr=>
    have U:Qb S (.addD nm m t l)= .ref .known:=Jd (by rw[e];rfl)
    rw[U]at dq;refine#[3,j.dd,0,g,0,Qa #[6,λq x=>?_]]
    exact dq q j _ (C.trans (HG.upd x)).mv L7.refl Z (v.same (HG.upd x)) qb
   have U:Qb S (.addD nm m t l)= .ok {S with ds:=S.ds++[ZU S nm m t l]} .non:=Jc (by rw[e];intro z;cases z)
   rw[U]at dq;refine#[3,j.dd,0,g,0,zx ?_]
   refine#[2,zz (Jm (by intro z;injection z with z;revert z;decide +kernel)) ?_]
   let#[F,eh,la,R]:=id v.at_.ks;refine#[0,j.ma,0,v.g_table,0,j.ma,0,v.g_keys,j.hk,0,.inl #[HP.of eh,λkt b0=>?_]]
   have u2:=HG.upd (o:= .tup (F.map V.ref)) b0
   have J:=u2 _ _ D;have o2:=v.same u2;refine#[0,pp,1,HQ.of J,7,pp,1,HQ.of J,7,pp,1,HQ.of J,Z,λp dx hp N X=>?_]
   have a0:p≠dx:=X.symm
   have G:HG _ (HI (HI (HI H1 kt (.tup (F.map V.ref))) dx (.own p)) p (.ins CD dx [])):=(HG.upd N).trans (HG.upd (by rw[qk a0];exact hp))
   have o3:=o2.same G;have L:=C.trans (u2.trans G);have fp:H p=none:=QZ hp (C.trans u2)
   refine#[p,j.ta,kt,dx,m,t,l,S.t,S.kss,Z,qb,.inr o3.at_.tb,#[F,HQ.of (G _ _ qb),la,λi a ks h1 h2=>HG.sqt (u2.trans G) (R i a ks h1 h2)],ok.k8,λta hk bd lg H4 fh fb fl m4 d4 k4=>#[Z,?_]]
   have a5:=HK.dl d4 k4;have s4:HG H H4:=HG.mv_of L m4 (λc hc=>by rw[Jg.mp hc];exact fp)
   have fd:∀z∈dS #[p,ta,hk,bd,lg],H z=none:=tz fp (QZ fh L) (QZ fb L) (QZ fl L)
   have nd:=ok.nd;have l0:=ok.l0;let#[kvs,p1,r1]:=I.putD (y:=#[nm,#[S.t,S.kss,m,t,l,(0),[]],[],[]]) s4 a5 fd e Z (by lia)
   exists 3,j.dd,0,p1
   refine#[Hf,λol a4=>?_]
   let#[a1,p2,m6,gr,Y]:=r1 ol a4;have q4:H4 j.ma=↑(.dK (Zs j S.least)):=s4 _ _ I.mn
   have q5:(HI (HI H4 j.dd (.dK kvs)) ol (.lst [])) j.ma=↑(.dK (Zs j S.least)):=by
    have q:(HI H4 j.dd (.dK kvs)) j.ma=↑(.dK (Zs j S.least)):=by rw[qk I.mne];exact q4
    rw[qk (qu q a4)];exact q
   exists 0,j.ma,0,uP (q:= .inr "opened") q5 6 Z,0,j.od,0,p2
   generalize HI (HI (HI H4 j.dd (.dK kvs)) ol (.lst [])) j.od (.dK a1)=H6 at m6 Y⊢
   have a2:∀O:Hp,Mv (hF j) H O->HJ K CB CD none O {j with ds:=j.ds++[#[nm,#[p,ta,hk,bd,lg],ol]]} {S with ds:=S.ds++[ZU S nm m t l]}->∀q,O q=none->Q (-q) (HI O q (.tup [.str "told",.non])):=λO m7 h7 q x=>dq q _ _ (m7.trans (HG.upd x).mv) gr Z (h7.same (HG.upd x)) #[.non,qb,Z]
   let#[gd,gx,gy]:=Y.lastD e I.dlen I.at_.dn;have q6:H6 j.ma=↑(.dK (Zs j S.least)):=Y.mn
   refine#[0,j.ma,0,uP (q:= .inr "shut") q6 2 Z,9,qO (λz=>?_) (λz=>?_)]
   .have z:0<S.least:=Jv z
    have a3:=(Y.at_.de _ _ _ gx gy).1;refine#[3,j.dd,0,gd,p,Z,a3.dr.no,0,j.ma,0,uP (q:= .inr "shut") q6 2 Z,#[p,ta,hk,bd,lg],_,[],S.least,Z,a3,JL _,λD2 r h2 O m7 d7=>?_]
    have h7:=Y.door gx gy (CP m7) d7;refine#[Hj,λq x=>a2 O (λc o hc ec=>m7 c o (λq=>?_) (m6 c o hc ec)) ?_ q x]
    .simp only[Jh,Jr,Js]at q
     rcases q with rfl|rfl
     .have:=fd _ (gf _);rw[ec]at this;cases this
     .have:=fd _ (cf _);rw[ec]at this;cases this
    .cases h2
     have e2:({S with ds:=S.ds++[ZU S nm m t l]}:Hs)=({S with ds:=S.ds++[#[nm,#[S.t,S.kss,m,t,l,(0),[]],[],[]]]}:Hs).setD S.ds.length #[nm,#[S.t,S.kss,m,t,l,if S.least>0 then S.least else 0,[]],[]++[.close S.least],[]]:=by
      show _=({S with ds:=(S.ds++[_]).set S.ds.length _}:Hs)
      rw[Cc,Jd z];unfold ZU;rw[Jd z];rfl
     rw[e2];exact h7
   .have z:¬0<S.least:=λy=>z (Je y)
    refine#[Hj,λq x=>a2 H6 m6 ?_ q x]
    have e2:ZU S nm m t l=#[nm,#[S.t,S.kss,m,t,l,(0),[]],[],[]]:=by unfold ZU;rw[Jc z,show S.least=0 by lia]
    rw[e2];exact Y
  .refine#[0,Hj,λl1 W=>?_]
   have C:=HG.upd (o:= .lst [.str "buttons",.str "doors"]) W
   have v:=I.same C;refine#[18,.inr #[0,l1,8,.str "buttons",12,HP.of qb,by rw[Jm (by intro z;injection z with z;revert z;decide +kernel)];rfl,j.ma,0,v.g_buttons,?_]]
   have D:=C _ _ M;generalize HI H l1 (.lst [.str "buttons",.str "doors"])=H1 at C v D⊢
   rcases v.at_.gbd nm with⟨e,g⟩|⟨i,y,z,e,hy,_,_,_,g⟩
   case inr=>
    have U:Qb S (.addB nm step)= .ref .known:=Jd (by rw[e];rfl)
    rw[U]at dq;refine#[3,j.bd,0,g,0,Qa #[6,λq x=>?_]]
    exact dq q j _ (C.trans (HG.upd x)).mv L7.refl Z (v.same (HG.upd x)) qb
   have U:Qb S (.addB nm step)= .ok {S with bs:=S.bs++[hU S nm step]} .non:=Jc (by rw[e];intro z;cases z)
   rw[U]at dq;refine#[3,j.bd,0,g,0,zx ?_]
   refine#[2,zZ (Je Z) ?_]
   let#[F,eh,la,R]:=id v.at_.ks;have k1:=ok.k1;have b3:S.kss.length-1<F.length:=by lia
   have ek:=Jk b3;have b4:S.kss[S.kss.length-1]? =↑(S.kss.getD (S.kss.length-1) []):=by
    rw[JM,Jk (by lia)];rfl
   have sq:=R _ _ _ ek b4;have b1:Q3 (F.map V.ref) (-1)=↑(.ref F[S.kss.length-1]):=v9 (by rw[Jb,Jp,la,ek];rfl)
   exists 3,j.ma,0,v.g_table,0,j.ma,0,v.g_keys,0,j.hk,8,.ref F[S.kss.length-1],12,HP.of eh,b1
   exists 0,j.ma,0,v.g_keys,j.hk,0,.inl (HP.of eh),9,pp,1,HQ.of D,Z
   rw[Jb,la];intro p dx hp N X;have G:HG H1 (HI (HI H1 dx (.own p)) p (.ins CB dx [])):=(HG.upd N).trans (HG.upd (by rw[qk X.symm];exact hp))
   have o3:=v.same G;have L:=C.trans G;have fp:H p=none:=QZ hp C
   refine#[p,j.ta,F[S.kss.length-1],dx,nm,(S.kss.length:Int)-1,step,S.t,S.kss.getD (S.kss.length-1) [],Z,qb,.inr o3.at_.tb,.inr (HG.sqt G sq.up),λta ka ce H2 fc m2 b2=>#[Z,?_]]
   have s2:HG H H2:=HG.mv_of L m2 (λc hc=>by rw[Jg.mp hc];exact fp)
   have nb:=ok.nb;let#[kvs,p1,m3,gr,h3]:=I.putB (B:=hU S nm step) (p:=p) (ce:=ce) s2 #[ta,ka,b2] fp (QZ fc L) e (by lia)
   exists 3,j.bd,0,p1
   exact#[Hj,λq x=>dq q _ _ (m3.trans (HG.upd x).mv) gr Z (h3.same (HG.upd x)) #[.non,qb,Z]]
end
section
variable{tk:Nat->Tok}
theorem oh(a:At K mg "_law_taught" cP ["_law_own_here","_law_gate","_law_button"])(T:Ld K mg tk)(Y:MD K CB)(UD:LS K CD)(dJ:Mf P w K mg base CD "known_now" v1 1 (MQ K CD))(xX:Mf P w K mg base CD "bounds_told" v1 1 (Nz K CD))(xI:Mf P w K mg base CD "learn" Y2 7 (MZ K CD))(x8:Mf P w K mg base CB "name_told" v1 1 (OD K CB))(dD:Mf P w K mg base CB "count_now" v1 1 (L4 K CB))(dC:Mf P w K mg base CB "age_now" v1 1 (ME K CB))(dM:Mf P w K mg base CB "press_once" Y7 4 (M9 K CB))(dB:Df P w K mg base "_law_refused" X0 1 Lj):Df P w K mg base "_law_taught" W8 8 (Nk K CB CD):=by
 refine a.dq MA λf _ A _ s H vs Q E g h=>?_
 .let#[m,S,n,i,j,z,y,u,B,rfl,ho,ok,n9,hz,hy,hu,L,dq]:=h
  exists _,(qg (sR (i:=3) MA.nd Z (Or.inl Z) (own:=["_law_row"]) (fr:=[]) (js:=[]) Z (lC (qW dJ UD.cl g.mo qB)) Z (λ_ _ h=>nomatch h) Z (iy Z nofun nofun nofun) (λ_ _ _ _=>qD 0 (show List.Nodup (["_law_row"]:Α)from by decide +kernel) Z (Or.inl Z) (.inr Z)) (λ_ _ _ _=>(qE (sS (K:=K) Z) ql qj)))
   (qg (qC (qw bC (qW x8 Y.cl g.mo qJ) qP (by rfl)) (qh (qp (qy dB g.mo (qc qi (qc zo qa))))) qr)
   (qg (qC (qw qV (qq qL T.b_len JE (qc qP qa)) (qE qS (qW xX UD.cl g.mo qB) qj) (qz _)) (qh (qp (qy dB g.mo (qc qi (qc zo qa))))) qr)
   (qg (qC (qw kB (qW dD Y.cl g.mo qJ) qj (qz _)) (qh (qp (qy dB g.mo (qc qi (qc zo qa))))) qr)
   (qg (qC (qw dh (qW dC Y.cl g.mo qJ) (qH g ql qi) (qz _)) (qh (qp (qy dB g.mo (qc qi (qc qj qa))))) qr)
   (qg (qT (Qx JN JU JV zY (qH g ql qi) (qc (zc dM Y.cl g.mo qJ (qc qj qa)) qa)))
   (qg (qT (Qx JN JU JV zY (qH g ql qi) (qc (zc dM Y.cl g.mo qJ (qc qj qa)) qa)))
   (qg (qT (zc xI UD.cl g.mo qB (qc (qE qU (qH g ql qi) (om lI qj)) (qc (qE qU (qH g ql qi) (om lI qj)) qa))))
   (qh (qp (qM (qc qi (qc zo qa)))))))))))))
  have dl:=(ho.at_.de i z y hz hy).1;let#[ta,ka,b]:=ho.at_.be j u B hu L;have D:=ok.bt B (Jo L);have R:=ok.dr y (Jo hy);have l:∀(Hx:Hp) (r:Rf),HG H Hx->fG S i j y B= .ref r->∀q,Hx q=none->Q (-q) (HI Hx q (.tup [.str "refused",.str (sZ r),AQ r])):=λHx r sx er q p=>by
   rw[er]at dq;exact dq q m _ (sx.trans (HG.upd p)).mv L7.refl Z (ho.same (sx.trans (HG.upd p))) qb
  refine#[0,z.a.p,Z,dl.dr.no,z.a.p,z.a.ta,z.a.hk,z.a.bd,z.a.lg,y.L.length,y.D,Z,dl.dr,R.ok,λkq ss H1 s1 pm so sh=>#[kq,Z,?_]]
  refine kH (K:=K) sh (λnm h=>pm.mem_iff.mp h) (by rw[pm.length_eq,Jb];exact R.ok.nl) (λHx a nm xs Q' e q'=>#[0,a,1,HQ.of e,(show Q3 (V.str nm::xs) ((0:Nat):Int)=↑(.str nm)from Qe Z),q']) λkl H2 s2 a0=>?_
  have S2:=s1.trans s2;have b2:=b.same S2;have X:=dl.same S2;exists 0,u.p,Z,b2.no,u.p,ta,ka,u.ce,B,Z,b2,0,kl,0,.inl (HP.of a0),Z,mQ ss,0
  rw[Jc ⋯,jL]
  have C:B.nm∈ss↔y.D.kn.lookup B.nm≠none:=by
   rw[pm.mem_iff];constructor
   .intro h q;let#[e,he]:=Zd h;rw[q]at he;cases he
   .intro h
    cases q:y.D.kn.lookup B.nm with
    |none=>exact absurd q h
    |some e=>exact JA.mpr #[_,ZH q,Z]
  by_cases hk:y.D.kn.lookup B.nm≠none
  .exact zZ (Je (C.mpr hk)) #[6,λq p=>l H2 .known S2 (Jd hk) q p]
  refine zz (Jm (λq=>hk (C.mp q))) ?_
  have I:fG S i j y B=_:=Jc hk
  have d1:y.D.kn.lookup B.nm=none:=Classical.not_not.mp hk
  have a3:ss.length=y.D.kn.length:=by rw[pm.length_eq,Jb]
  refine#[0,kl,0,.inl (HP.of a0),0,z.a.p,Z,X.dr.no,z.a.p,z.a.ta,z.a.hk,z.a.bd,z.a.lg,y.L.length,y.D,Z,X.dr,λbt H3 s3 c1=>?_]
  exists bt,1,HQ.of c1,37
  have G:=S2.trans s3;rw[Jb,a3];have d6:=R.m
  by_cases hf:y.D.most<=(y.D.kn.length:Int)
  .refine zZ (Je (by congr 1;lia)) #[6,λq p=>l H3 .full G (by rw[I];exact Jd hf) q p]
  refine zz (Jm (by intro q;injection q with q;lia)) ?_
  rw[Jc hf]at I;have N:=b.same G;have e0:=dl.same G;have o3:=ho.same G;refine#[0,u.p,Z,N.no,u.p,ta,ka,u.ce,B,Z,N,9,qO (λq=>?_) (λq=>?_)]
  .have q:B.cnt>4094:=Jv q
   exact#[6,λt ht=>l H3 .worn G (by rw[I];exact Jd q) t ht]
  have hc:¬4094<B.cnt:=λz=>q (Je z)
  rw[Jc hc]at I;refine#[0,u.p,Z,N.no,u.p,ta,ka,u.ce,B,Z,N,0,m.ma,0,o3.g_shut,9,qO (λq=>?_) (λq=>?_)]
  .have q:B.age<S.least:=Jv q
   exact#[6,λt ht=>l H3 (.badp 0) G (by rw[I];exact Jd q) t ht]
  have hl:¬B.age<S.least:=λz=>q (Je z)
  rw[Jc hl]at I;rw[I]at dq;have J:ZJ 0:=#[⋯,⋯]
  have c0:=D.ok.c0;let#[d7,b0,_,_]:=id o3.at_.kl;refine#[0,m.ma,0,o3.g_kept,.inl #[24,HP.of b0],0,u.p,Z,N.no,u.p,ta,ka,u.ce,B,(0),Z,N,D.nm,by rw[D.t,ok.tp.length_eq];rfl,c0,by lia,J,λa5 d5 H4 m4 b4 a4 d3=>?_]
  let#[c4,c6,c5,h5,m5]:=o3.keepL (d:=0) hu L m4 #[ta,ka,b4] #[d5,a4,d3]
  have nk:=ok.nk;exists m.kl,4,c6,by rw[Jb,c5,Jn];lia
  generalize HI H4 m.kl (.lst (c4.map V.ref++[-a5]))=H5 at h5 m5⊢
  have e1:=ok.keep L (by lia) J
  let#[a2,a1,b5]:=h5.at_.be j u B.pr hu (cJ L)
  have F:=D.pr (by lia)
  let#[d9,d2,_,_]:=id h5.at_.kl;refine#[0,m.ma,0,h5.g_kept,.inl #[24,HP.of d2],0,u.p,Z,b5.no,u.p,a2,a1,u.ce,B.pr,(0),Z,b5,F.nm,by rw[F.t,ok.tp.length_eq];rfl,F.ok.c0,by rw[aR];lia,J,λc3 c2 H6 m6 b6 b7 b1=>?_]
  let#[W,d4,v,M,m7]:=h5.keepL (d:=0) hu (cJ L) m6 #[a2,a1,b6] #[c2,b7,b1]
  have v:W.length=(S.kp++[zb B 0]).length:=v
  rw[Jq]at v;exists m.kl,4,d4,by rw[Jb,v,Jn];show S.kp.length+1<_;lia
  generalize HI H6 m.kl (.lst (W.map V.ref++[-c3]))=H7 at M m7⊢
  let#[c,O,o,x]:=id M.at_.kl;have o:c.length=((S.kp++[zb B 0])++[zb B.pr 0]).length:=o
  have x:∀(i:Nat) (a:Δ) (P:Ps),c[i]? =↑a->((S.kp++[zb B 0])++[zb B.pr 0])[i]? =↑P->Mc H7 a P:=x
  rw[Jq,Jq]at o;have o:c.length=S.kp.length+1+1:=o
  have g1:=Jk (show S.kp.length<c.length by lia)
  have g2:=Jk (show S.kp.length+1<c.length by lia)
  have q1:=x _ _ (zb B 0) g1 (by rw[FH (by rw[Jq];simp),Fy (Jf _)];simp)
  have q2:=x _ _ (zb B.pr 0) g2 (by rw[Fy (by rw[Jq];exact Jf _),Jq];simp)
  have U:=(M.at_.de i z y hz hy).1;have y1:=Jo hy;have ll:=R.ll;refine#[0,z.a.p,Z,U.dr.no,0,m.ma,0,M.g_kept,0,m.kl,8,.ref c[S.kp.length],12,HP.of O,?_,0,m.ma,0,M.g_kept,0,m.kl,8,.ref c[S.kp.length+1],12,HP.of O,?_,z.a,y.D,y.L,8,zb B 0,zb B.pr 0,B.cnt,(0),(0),Z,U,by lia,R.ok,q1,q2,bG ok D (by lia) J,?_,cj ok y1 D (by lia) (by lia) J,?_,Z2 B,aL B,?_,by lia,λH8 m8 d8=>?_]
  .exact Cm (by rw[Jb];lia) (by rw[Jb,Jp,show c.length-2=S.kp.length by lia,g1];rfl)
  .exact v9 (by rw[Jb,Jp,show c.length-1=S.kp.length+1 by lia,g2];rfl)
  .exact bG ok (D.pr (by lia)) (by rw[aR];lia) J
  .have:=cj ok y1 (D.pr (by lia)) (by rw[aL];lia) (by rw[aR];lia) J
   rw[this,aR]
  .show y.D.kn.lookup B.pr.nm=none
   rw[Z2];exact d1
  .have h8:=M.door hz hy (bX m8) d8
   have en:(zb B.pr 0).nm=B.nm:=Z2 B
   have ea:(zb B.pr 0).age=B.age:=aL B
   rw[en,ea]at h8
   exact#[Hj,λq p=>dq q m _ ((((G.mv.trans m5).trans m7).trans (ci hz (bX m8))).trans (HG.upd p).mv) L7.refl Z (h8.same (HG.upd p)) #[.non,qb,Z]]
theorem oW(a:At K mg "_law_keyed" eL ["_law_own_here","_law_word","_law_part"])(T:Ld K mg tk)(UD:LS K CD)(dZ:Mf P w K mg base CD "turn_key" W0 1 (Ng K CD))(dG:Mf P w K mg base CD "close_below" X2 1 (Ml K CD))(dB:Df P w K mg base "_law_refused" X0 1 Lj):Df P w K mg base "_law_keyed" V0 2 (NH K CB CD):=by
 refine a.dq MV λf _ A _ s H vs Q E m h=>?_
 .let#[c,S,n,a3,v,d,rfl,g,ok,n9,B,dq]:=h
  exists _,(qg (qC (QW.pt (iT (qw qV qB qi (qz _)) (eZ (qw qV (qq qL T.b_len JE (qc (qH m ql qi) qa)) qj (qz _))))) (qh (qp (qy dB m.mo (qc qi (qc zo qa))))) qr)
   (qg (qC (QW.pt (iT (qw qV qB qi (qz _)) (eZ (Qg (cB av dh qj qJ (qq qL T.b_len JE (qc (qH m ql qi) qa))))))) (qh (qp (qy dB m.mo (qc qi (qc zo qa))))) qr)
   (qg (qC (qw qV qB qi (qz _)) (qh (qT (Qx JN JU JV zY (qH m ql qi) (qc (qI Zg T.b_tuple JB (qc qJ qa)) qa)))) (qh (Q8 m ql qi (qq (iN Z) T.b_max IX (qc (qH m ql qi) (qc qJ qa))))))
   (qg (eW (Qs J0 Z (lT (gj (qH m ql qi))) (qD 3 MV.nd)
   (qh (qC (qw qV qB qi (qz _)) (qh (qT (zc dZ UD.cl m.mo qP (qc (qI Zg T.b_tuple JB (qc qJ qa)) qa)))) (qh (qT (zc dG UD.cl m.mo qP (qc qJ qa))))))))
   (qh (qp (qM (qc qi (qc zo qa)))))))))
  let#[as,W,X,a1]:=id g.at_.ks;have k8:=ok.k8;rcases B with⟨rfl,p,ks,rfl,rfl,hp,kl⟩|⟨rfl,age,rfl,rfl⟩
  .refine#[2,zZ (Je Z) ?_]
   exists 0,c.ma,0,g.g_keys,c.hk,0,.inl (HP.of W),7
   rw[Jb,X]
   by_cases h8:8<=S.kss.length
   .have F:Qb S (.turnH ks)= .ref .toomany:=Jd h8
    rw[F]at dq;refine zZ (Je (by congr 1;lia)) #[6,λq e=>?_]
    exact dq q c _ (HG.upd e).mv L7.refl Z (g.same (HG.upd e)) qb
   have F:Qb S (.turnH ks)= .ok {S with kss:=S.kss++[ks],ds:=S.ds.map (bB ks)} .non:=Jc h8
   rw[F]at dq;refine zz (Jm (by intro q;injection q with q;lia)) ?_
   refine#[2,zz (Jm (by intro z;injection z with z;revert z;decide +kernel)) ?_]
   refine#[2,zZ (Je Z) ?_]
   refine#[0,c.ma,0,g.g_keys,.inl #[24,HP.of W],0,p,ks,Z,.inr (.inl hp),λt H2 s2 ht=>?_]
   have u:=g.same s2;have M:=s2 _ _ W;exists c.hk,4,M,by rw[Jb,X,Jn];lia
   have l:=u.key (kz M X (λi a ks h1 u=>HG.sqt s2 (a1 i a ks h1 u)) (.inl ht))
   have I:Mv (hF c) H (HI H2 c.hk (.lst (as.map V.ref++[-t]))):=s2.mv.trans (br ku Mv.upd1)
   generalize HI H2 c.hk (.lst (as.map V.ref++[-t]))=H3 at l I⊢
   have a2:H3 p=↑(.tup (ks.map V.int)):=I.tup g.at_.nt hp
   refine#[0,c.ma,0,l.g_doors,c.dd,18,l.at_.dd,λx j=>#[x,c.dd,0,qb,HG.upd j _ _ l.at_.dd,λo=>?_]]
   have L:=HG.upd (o:=iH x c.dd) j
   have J:=l.same L;have C:=L _ _ a2;have U:=I.trans L.mv;generalize HI H3 x (iH x c.dd)=H4 at J C U⊢
   refine bZ J (bB ks) (λy=>rfl) (λσ=>∃D,σ=[↑(-c.ma),↑(.str "turn_house"),↑(-p),D]) #[0] (λHx=>Hx p=↑(.tup (ks.map V.int))) (by rw[qk (zr C J.at_.dd (by intro z;cases z))];exact C) ?_ ?_
   .rintro i z y σ Hx hz hy ⟨D,rfl⟩ hx dl N hN
    have B:=ok.dr y (Jo hy);have ll:=B.ll;refine#[2,zZ (Je Z) ?_]
    refine#[0,z.a.p,Z,dl.dr.no,0,p,ks,Z,.inr (.inl hx),λt2 H5 s5 a0=>?_]
    have R:=dl.same s5;refine#[z.a,y.D,y.L,t2,ks,Z,R,by lia,by rw[B.k];lia,.inr a0,kl,λD2 r u H6 m6 d6=>?_]
    have u:(if y.D.kss.length<8 then ↑(({y.D with kss:=y.D.kss++[ks]}:Dr),Rw.turn ks)else none)=↑(D2,r):=u
    rw[Jd (by rw[B.k];lia)]at u
    cases u;exact hN _ _ #[0] ((Bd m6).tup R.nt (s5 _ _ hx)) (s5.mv.trans (Bd m6)) d6
   .rintro σ Hx ⟨D,rfl⟩ hx ex mx h6
    exists c.dd,o,_,ex,λo' u' q=>by(have q:H c.dd=↑(.frz o' u'):=q;rw[g.at_.dd]at q;cases q)
    exact#[Hj,λq e=>dq q c _ ((U.trans mx).trans (HG.upd e).mv) L7.refl Z (h6.same (HG.upd e)) #[.non,qb,Z]]
  .refine#[2,zz (Jm (by intro z;injection z with z;revert z;decide +kernel)) ?_]
   have O:¬(0<=age/\age<S.kss.length)->∀q,H q=none->Q (-q) (HI H q (.tup [.str "refused",.str "Unknown",.non])):=λhn q e=>by
    have F:Qb S (.close age)= .ref .unknown:=Jc hn
    rw[F]at dq;exact dq q c _ (HG.upd e).mv L7.refl Z (g.same (HG.upd e)) qb
   refine#[2,zZ (Je Z) ?_]
   refine#[16,qO (λG=>?_) (λG=>?_)]
   case refine_2=>
    have G:¬(0<=age):=λq=>G (Je q)
    exact#[0,Qa #[6,λq e=>O (λq=>G q.1) q e]]
   have G:0<=age:=Jv G
   exists 0,c.ma,0,g.g_keys,c.hk,0,.inl (HP.of W),9
   rw[Jb,X]
   by_cases Y:age<(S.kss.length:Int)
   case neg=>exact zZ (by rw[Jm Y];rfl) #[6,λq e=>O (λq=>Y q.2) q e]
   have F:Qb S (.close age)= .ok {S with least:=if age>S.least then age else S.least,ds:=S.ds.map (bI age)} .non:=Jd #[G,Y]
   rw[F]at dq;refine zz (by rw[Je Y];rfl) ?_
   refine#[2,zz (Jm (by intro z;injection z with z;revert z;decide +kernel)) ?_]
   let#[pu,l]:=g.leastD (if age>S.least then age else S.least)
   have I:Mv (hF c) H (HI H c.ma (.dK (Zs c (if age>S.least then age else S.least)))):=br iZ Mv.upd1
   exists 0,c.ma,0,g.g_shut,29,c.ma,0,pu
   generalize HI H c.ma (.dK (Zs c (if age>S.least then age else S.least)))=H3 at l I⊢
   refine#[0,c.ma,0,l.g_doors,c.dd,18,l.at_.dd,λx j=>#[x,c.dd,0,qb,HG.upd j _ _ l.at_.dd,λo=>?_]]
   have L:=HG.upd (o:=iH x c.dd) j
   have J:=l.same L;have U:=I.trans L.mv;generalize HI H3 x (iH x c.dd)=H4 at J U⊢
   refine bZ J (bI age) (λy=>rfl) (λσ=>∃D,σ=[↑(-c.ma),↑(.str "close_ages"),↑(.int age),D]) #[0] (λHx=>True) trivial ?_ ?_
   .rintro i z y σ Hx hz hy ⟨D,rfl⟩ _ dl N hN
    have B:=ok.dr y (Jo hy);have ll:=B.ll;refine#[2,zz (Jm (by intro z;injection z with z;revert z;decide +kernel)) ?_]
    refine#[0,z.a.p,Z,dl.dr.no,0,z.a,y.D,y.L,age,Z,dl,by lia,λD2 r u H6 m6 d6=>?_]
    cases u;exact hN _ _ #[0] trivial (CP m6) d6
   .rintro σ Hx ⟨D,rfl⟩ _ ex mx h6
    exists c.dd,o,_,ex,λo' u' q=>by(have q:H c.dd=↑(.frz o' u'):=q;rw[g.at_.dd]at q;cases q)
    exact#[Hj,λq e=>dq q c _ ((U.trans mx).trans (HG.upd e).mv) L7.refl Z (h6.same (HG.upd e)) #[.non,qb,Z]]
end
section
variable{tk:Nat->Tok}
theorem lb(a:At K mg "_law_listened" bo ["_law_own_here","_law_name","_law_number"])(T:Ld K mg tk)(UD:LS K CD)(xO:Mf P w K mg base CD "hear" V1 6 (NW K CD)):Df P w K mg base "_law_listened" X4 7 (Mt K CB CD none):=by
 refine a.dq Mh λf _ A _ s H vs Q E o h=>?_
 .let#[p,S,n,nm,k,i,y,c,rfl,l,ok,n9,hi,m,G,q]:=h
  exists _,(qg (qG 3 Mh.nd (zc xO UD.cl o.mo (qH o (qH o ql qi) qB) (qc (qE qU (qH o ql qi) qJ) qa)))
   (qg (qC (qw qV (qE qS qP qj) qi (qz _)) (qh (qT (Qx JN JU JV zY (qH o (qH o ql qi) qB) (qc qJ qa)))) qr)
   (qh (qp qP))))
  rcases l.at_.gdd nm with⟨e,g⟩|⟨i',z,y',e,j,B,_,ey,g⟩
  .rw[hi]at e;cases e
  rw[hi]at e;cases e
  rw[m]at B;cases B
  have dl:=(l.at_.de i z y j m).1;let#[N,ek,lk,rk]:=id l.at_.kl;have hk:k<N.length:=by rw[lk];exact(Jt.mp G).1
  have W:=Jk hk;have pa:=rk k _ c W G;have I:=ok.dr y (Jo m);have ll:=I.ll;refine#[0,p.ma,0,l.g_doors,0,p.dd,0,g,z.a.p,Z,dl.dr.no,0,p.ma,0,l.g_kept,0,p.kl,8,.ref N[k],12,HP.of ek,Qe (by rw[Jp,W];rfl),z.a,y.D,y.L,.ref N[k],↑c,Z,dl,by lia,I.ok,#[0,pa,ok.kp c (Jo G)],(λh=>nomatch h),λP' eP pr O H1 _ F _ d R=>?_]
  cases eP;let#[J,M]:=l.heard (k:=k) j m F R
  let#[v,r,X]:=kj y.D c;have u:=d;rw[X]at u;have Y:iW (ze y.D c).1=decide (v="open"):=by rw[X];rfl
  exists 0,O,8,.str v,12,HQ.of u,(show Q3 (V.str v::r) ((0:Nat):Int)=↑(.str v)from Qe Z),7
  by_cases C:v="open"
  .have h1:=l.door j m (bX F) R
   rcases h1.at_.god nm with⟨e,_⟩|⟨i',z',y',e,x,_,_,_,U⟩
   .rw[show(S.setD i {y with D:={y.D with kn:=(ze y.D c).2},L:=y.L++[.hear c (ze y.D c).1]}).dn=S.dn from Qt m Z,hi]at e;cases e
   rw[show(S.setD i {y with D:={y.D with kn:=(ze y.D c).2},L:=y.L++[.hear c (ze y.D c).1]}).dn=S.dn from Qt m Z,hi]at e;cases e
   rw[j]at x;cases x
   let#[t,h2]:=M (by rw[Y,Je C]) (by rw[ey];exact U)
   refine zZ (Je (by rw[C])) ?_
   have t:H1 z.ol=↑(.lst (y.op.map λn:Nat=>V.int (n:Int))):=t
   have lo:=I.lo;exists 0,p.ma,0,h1.g_opened,0,p.od,0,U,.inl #[24,HP.of t],0,z.ol,4,t,by rw[Jb,Jn];lia
   rw[show(y.op.map (λn:Nat=>V.int (n:Int))++[V.int (k:Int)])=(y.op++[k]).map λn:Nat=>V.int (n:Int) by rw[JG];rfl]
   refine#[0,q O _ ((ci j (bX F)).trans (br (kT j) Mv.upd1)) h2 ?_]
   rw[qk (λz=>by rw[z,t]at d;cases d)];exact d
  .refine zz (Jm (by intro z;injection z with z;exact C z)) ?_
   exact#[0,q O _ (ci j (bX F)) (J (by rw[Y,Jm C])) d]
theorem lV(a:At K mg "_law_pressed" bQ ["_law_own_here","_law_button","_law_deed_here","_law_doors"])(T:Ld K mg tk)(UB:MD K CB)(dD:Mf P w K mg base CB "count_now" v1 1 (L4 K CB))(dM:Mf P w K mg base CB "press_once" Y7 4 (M9 K CB))(dB:Df P w K mg base "_law_refused" X0 1 Lj)(xB:Df P w K mg base "_law_listened" X4 7 (Mt K CB CD none)):Df P w K mg base "_law_pressed" X6 8 (Nm K CB CD):=by
 refine a.dq Mq λf _ A _ s H vs Q E G h=>?_
 .let#[c,S,n,j,u,B,deed,p,ds,rfl,ho,ok,n9,hu,hB,sq,np,a2,d5,dq]:=h
  exists _,(qg (qC (Qg (zW (qq (bL Z) T.b_all GY (qc (QR (own:=["_law_name"]) (fr:=["_law_own_here"]) (js:=[0]) Z (fA qP) Z (Ai Z) Z (wF Z nofun nofun nofun Z Z Z) (λ_ _ _ _=>qD 0 (show List.Nodup (["_law_name","_law_own_here"]:Α)from by decide +kernel) Z (Or.inl Z) (.inr Z)) (λ_ _ _ _=>(CF G ql (qH G qB qi)))) qa)))) (qh (qp (qy dB G.mo (qc qi (qc zo qa))))) qr)
   (qg (qC (qw qV (qW dD UB.cl G.mo qB) qj (qz _)) (qh (qp (qy dB G.mo (qc qi (qc zo qa))))) qr)
   (qg (qT (Qx JN JU JV zY (qH G ql qi) (qc (zc dM UB.cl G.mo qB (qc qJ qa)) qa)))
   (qg (qG 4 Mq.nd (qF QU (qq qL T.b_len JE (qc (qH G ql qi) qa)) qj))
   (qh (qp (qM (qc qi (qc (qM (qc Qk (qc (qI zf T.b_tuple JB (qc (QR (own:=["_law_name"]) (fr:=["_law_own_here","_law_number"]) (js:=[0,4]) Z (fA qP) Z (xg Z Z) Z (wU Z nofun nofun nofun Z Z Z Z Z Z) (λ_ _ _ _=>qD 0 (show List.Nodup (["_law_name","_law_own_here","_law_number"]:Α)from by decide +kernel) Z (Or.inl Z) (.inr Z)) (λ_ _ _ _=>(qy xB G.mo (qc qB (qc ql (qc qJ qa)))))) qa)) qa))) qa)))))))))
  let#[ta,ka,b]:=ho.at_.be j u B hu hB;have hb:=ok.bt B (Jo hB);have I:∀(Hx:Hp) (r:Rf),HG H Hx->aC S j B deed ds= .ref r->∀q,Hx q=none->Q (-q) (HI Hx q (.tup [.str "refused",.str (sZ r),AQ r])):=λHx r sx er q Y=>by
   rw[er]at dq;exact dq q c _ (sx.trans (HG.upd Y)).mv L7.refl Z (ho.same (sx.trans (HG.upd Y))) qb
  exists 0,p,Z
  refine jH (K:=K) sq (by rw[Jb,Jn];lia) (λi ys Hx=>Hx=H/\ys=(ds.take i).map λnm=>V.bl (qX S.dn nm).isSome) #[12] (λi ys H' h=>h.1▸OS.refl) ?_ ?_
  .rintro i ys Hx v hv L ⟨rfl,rfl⟩
   rw[Jp]at hv;let#[nm,D,rfl]:=JY.mp hv;have b0:ds.take (i+1)=ds.take i++[nm]:=by rw[FC,D];rfl
   rcases ho.at_.gdd nm with⟨e,g⟩|⟨i',z,y',e,hz,e1,_,ey,g⟩
   .exact#[3,c.ma,0,ho.g_doors,c.dd,0,g,Z,by rw[b0,JG];show _++[V.bl false]=_++[V.bl (qX S.dn nm).isSome];rw[e];rfl]
   .exact#[3,c.ma,0,ho.g_doors,c.dd,0,g,Z,by rw[b0,JG];show _++[V.bl true]=_++[V.bl (qX S.dn nm).isSome];rw[e];rfl]
  rintro ys Hx L ⟨rfl,rfl⟩ l1 d1
  have d2:(ds.take (ds.map V.str).length).map (λnm=>V.bl (qX S.dn nm).isSome)=(ds.map λnm=>(qX S.dn nm).isSome).map V.bl:=by rw[Jb,FU,FD];rfl
  rw[d2];have U:=HG.upd (o:= .lst ((ds.map λnm=>(qX S.dn nm).isSome).map V.bl)) d1
  have b1:=b.same U;have o1:=ho.same U;have O:=Mm.same dq U;exists l1,0,HP.of qb,0
  by_cases R:∀nm∈ds,qX S.dn nm≠none
  case neg=>
   have hn:∃nm∈ds,qX S.dn nm=none:=Classical.byContradiction λz=>R λnm W e=>z #[nm,W,e]
   let#[nm,W,e]:=hn
   have:((ds.map λnm=>(qX S.dn nm).isSome).all id)=false:=by
    rw[List.all_eq_false]
    exact#[false,JA.mpr #[nm,W,by rw[e];rfl],⋯]
   rw[this];refine Qa #[6,λq Y=>I _ .unknown U ?_ q Y]
   unfold aC;rw[jN W e]
  have:((ds.map λnm=>(qX S.dn nm).isSome).all id)=true:=by
   rw[FK];intro x F;let#[nm,W,rfl]:=JA.mp F;exact Option.isSome_iff_ne_none.mpr (R nm W)
  rw[this];refine zx ?_
  let#[is,M]:=iY R;have J:=bH M;have a1:aC S j B deed ds=if 4096<=B.cnt then .ref .worn else .ok (HV (zd S j B deed) S.kp.length is is.length).1 (.num S.kp.length (HV (zd S j B deed) S.kp.length is is.length).2):=by unfold aC;rw[M]
  have cb:=hb.ok.c0;have a3:Sq [] _ p (ds.map V.str):=f9 sq U.mv (iR) (λh=>nomatch h)
  generalize HI Hx l1 (.lst ((ds.map λnm=>(qX S.dn nm).isSome).map V.bl))=H1 at U b1 o1 O a3⊢
  have c4:=Int.le_trans hb.ok.cb hb.ok.bm;exists 0,u.p,Z,b1.no,u.p,ta,ka,u.ce,B,Z,b1,7
  by_cases hc:4096<=B.cnt
  .refine zZ (Je (by congr 1;lia)) #[6,λq Y=>I _ .worn U (by rw[a1];exact Jd hc) q Y]
  refine zz (Jm (by intro z;injection z with z;lia)) ?_
  rw[a1,Jc hc]at O;let#[e0,b7,_,_]:=id o1.at_.kl;refine#[0,c.ma,0,o1.g_kept,.inl #[24,HP.of b7],0,u.p,Z,b1.no,0,u.p,ta,ka,u.ce,B,deed,Z,b1,hb.nm,by rw[hb.t,ok.tp.length_eq];rfl,cb,by lia,a2,λb6 d9 H4 m4 b4 b5 d7=>?_]
  let#[c5,d3,d0,h5,m5]:=o1.keepL (d:=deed) hu hB m4 #[ta,ka,b4] #[d9,b5,d7]
  have nk:=ok.nk;exists c.kl,4,d3,by rw[Jb,d0,Jn];lia
  have a5:Sq [] _ p (ds.map V.str):=f9 a3 m5 o1.at_.nt np
  generalize HI H4 c.kl (.lst (c5.map V.ref++[-b6]))=H5 at h5 m5 a5⊢
  have c3:=ok.keep hB (by lia) a2
  let#[N,d6,m,_]:=id h5.at_.kl;have m:N.length=(S.kp++[zb B deed]).length:=m
  rw[Jq]at m;have m:N.length=S.kp.length+1:=m
  exists 0,c.ma,0,h5.g_kept,c.kl,0,.inl (HP.of d6),4
  have e3:((N.map V.ref).length:Int)-1=(S.kp.length:Int):=by rw[Jb,m];lia
  rw[e3];have hk:(zd S j B deed).kp[S.kp.length]? =↑(zb B deed):=by show(S.kp++[_])[S.kp.length]? =_;simp
  exists 3,p,Z
  refine jH (K:=K) a5 (by rw[Jb,Jn];lia) (λi ys Hx=>Mv (hF c) H5 Hx/\HJ K CB CD none Hx c (HV (zd S j B deed) S.kp.length is i).1/\∃xs:Η,ys=xs.map V.ref/\xs.length=i/\(HV (zd S j B deed) S.kp.length is i).2.length=i/\∀(k:Nat) (x:Δ) (l:Β),xs[k]? =↑x->(HV (zd S j B deed) S.kp.length is i).2[k]? =↑l->Hx x=↑(.tup l)) #[λ_ _ _ e=>e,h5,[],34,λk x l h=>by cases h] (λi ys H' h=>#[hF c,h.1,h5.at_.nt,np]) ?_ ?_
  .rintro i ys Hx v hv L ⟨mx,F,xs,rfl,lx,X,C⟩
   rw[Jp]at hv;let#[nm,D,rfl]:=JY.mp hv;let#[i',b3,b2]:=jV M D;have e4:i<ds.length:=(Jt.mp D).1
   let#[kd,kb,kp,kn]:=bv (zd S j B deed) S.kp.length is i
   have d4:(zd S j B deed).dn=S.dn:=Z
   have a4:qX (HV (zd S j B deed) S.kp.length is i).1.dn nm=↑i':=by rw[kn,d4];exact b2
   let#[z,y,hz,hy,_,_]:=F.at_.dix a4;have a0:(HV (zd S j B deed) S.kp.length is i).1.kp[S.kp.length]? =↑(zb B deed):=by rw[kp];exact hk
   have c1:=c3.hearN S.kp.length is i;have st:=lL b3 hy a0;refine#[5,c,8,nm,S.kp.length,i',y,0,F,c1,by lia,a4,hy,a0,λq1 H2 m2 h2 e2=>?_]
   rw[st];refine#[mx.trans m2,h2,xs++[q1],by simp,by simp [lx],by rw[Jq,X];rfl,λk x l g1 g2=>?_]
   rcases bh (lx.trans X.symm) g1 g2 with⟨g1,g2⟩|⟨rfl,rfl⟩
   .exact m2.tup F.at_.nt (C k x l g1 g2)
   .exact e2
  .rintro ys Hx L ⟨mx,F,xs,rfl,lx,X,C⟩ lp c2
   rw[Jb]at lx X F C;have c0:=HG.upd (o:= .lst (xs.map V.ref)) c2
   refine#[lp,0,.inl #[HP.of qb,λt ht=>#[Hj,λqt c6=>#[Hj,λqo d8=>?_]]]]
   have u2:=HG.upd (o:= .tup (xs.map V.ref)) ht
   have u3:=HG.upd (o:= .tup [.int (S.kp.length:Int),-t]) c6
   have u4:=HG.upd (o:= .tup [.str "told",-qt]) d8
   have U4:=((c0.trans u2).trans u3).trans u4;rw[<- J]at F X C;refine O qo c _ ((m5.trans mx).trans U4.mv) L7.refl Z (F.same U4) #[-qt,qb,qt,t,xs,Z,u4 _ _ qb,u4 _ _ (u3 _ _ qb),by rw[lx,X,J],λk x l g1 g2=>U4 _ _ (C k x l g1 g2)]
end
noncomputable abbrev QK:Α:=["add_door","add_button","teach","forget_at","press_button","play_kept","turn_house","close_ages","turn_button"]
section
variable{tk:Nat->Tok}
theorem jX(a:At K mg "_law_of_button" aJ ["_law_own_here","_law_word","_law_button","_law_parts"])(T:Ld K mg tk)(G:MD K CB)
 (O:Mf P w K mg base CB "age_now" v1 1 (ME K CB))(dU:Mf P w K mg base CB "turn_key" W0 1 (NU K CB))(dB:Df P w K mg base "_law_refused" X0 1 Lj)
 (X:Df P w K mg base "_law_pressed" X6 8 (Nm K CB CD)):Df P w K mg base "_law_of_button" X8 9 (Oj K CB CD QK):=by
 refine a.dq jG λf _ A _ s H vs Q E i h=>?_
 .let#[l,S,n,j,u,B,p,d,rfl,g,ok,n9,C,v,L,M,hp,dq]:=h
  exists _,(qg (qC (qw qV qB qi (qz _)) (qh (qp (qy X i.mo (qc ql (qc qJ (qc (qE qS qP qj) (qc (qE qS qP qj) qa))))))) qr)
   (qg (qC (qw qV qB qi (qz _)) Qz (qh (qC (qw qV qB qi (qz _)) Qz (qh (qC (qw qV (qF zt (qW O G.cl i.mo qJ) qj) (qq qL T.b_len JE (qc (qH i ql qi) qa)) (qz _)) (qh (qp (qy dB i.mo (qc qi (qc zo qa))))) (qh (qT (zc dU G.cl i.mo qJ (qc (qE qU (qH i ql qi) (qF zt (qW O G.cl i.mo qJ) qj)) qa)))))))))
   (qh (qp (qM (qc qi (qc zo qa)))))))
  let#[ta,ka,b]:=g.at_.be j u B C v;have R:=ok.bt B (Jo v);have o:∀(B':Bt) (H1:Hp) (m e:Δ),pD S j B d= .ok (S.setB j B') .non->Mv [u.p,u.ce] H H1->HM K CB H1 u.p m e u.ce B'->B'.nm=B.nm->2<=ζ/\∀q,H1 q=none->Q (-q) (HI H1 q (.tup [.str "told",.non])):=λB' H1 m e D x J en=>#[⋯,λq t=>by
   rw[D]at dq;exact dq q l _ ((oB C x).trans (HG.upd t).mv) L7.refl Z ((g.btn C v x #[m,e,J] en).same (HG.upd t)) #[.non,qb,Z]]
  refine#[2,qO (λy=>?_) (λy1=>?_)]
  .cases d with
   |press bn deed ds=>
    let#[qd,r,sq,nq,F,d5]:=hp
    exact#[5,p,1,HQ.of r,7,p,1,HQ.of r,Z,l,S,n,j,u,B,deed,qd,ds,Z,g,ok,n9,C,v,sq,nq,F,d5,dq]
   |_=>exact absurd (aM y) (by dsimp only[zi];decide +kernel)
  refine#[2,qO (λy=>?_) (λy2=>?_)]
  .cases d with
   |lose bn=>exact absurd M (show¬("lose_cell":Str)∈QK by decide +kernel)
   |_=>exact absurd (aM y) (by dsimp only[zi];decide +kernel)
  refine#[2,qO (λy=>?_) (λy3=>?_)]
  .cases d with
   |tear bn=>exact absurd M (show¬("tear_cell":Str)∈QK by decide +kernel)
   |_=>exact absurd (aM y) (by dsimp only[zi];decide +kernel)
  cases d with
  |press bn deed ds=>exact(y1 (Je Z)).elim
  |lose bn=>exact(y2 (Je Z)).elim
  |tear bn=>exact(y3 (Je Z)).elim
  |turnB bn=>
   have a0:=R.a0;have a1:=R.a1;have k8:=ok.k8;let#[as,U,W,_]:=id g.at_.ks;exists 0,u.p,Z,b.no,u.p,ta,ka,u.ce,B,Z,b,4
   exists 0,l.ma,0,g.g_keys,l.hk,0,.inl (HP.of U),7
   rw[Jb,W]
   by_cases hk:(S.kss.length:Int)<=B.age+1
   .have D:pD S j B (.turnB bn)= .ref .worn:=Jd hk
    rw[D]at dq;exact zZ (Je (by congr 1;lia)) #[6,λq t=>dq q l _ (HG.upd t).mv L7.refl Z (g.same (HG.upd t)) qb]
   refine zz (Jm (by intro z;injection z with z;lia)) ?_
   let#[a2,N,I,_,Y,e2]:=vY (K:=K) g.at_.ks (show 0<=B.age+1 by lia) (show B.age+1<S.kss.length by lia)
   refine#[0,u.p,Z,b.no,0,l.ma,0,g.g_keys,0,u.p,Z,b.no,u.p,ta,ka,u.ce,B,Z,b,4,l.hk,8,-N,12,HP.of I,Y,u.p,ta,ka,u.ce,N,B,S.kss.getD (B.age+1).toNat [],Z,b,e2,by lia,λe H1 x J=>?_]
   exact o _ H1 ta e (Jc hk) (x.mono λc h z=>h (by rw[Jg.mp z];exact Jy ..)) J Z
  |_=>exact absurd Z L
theorem uF(a:At K mg "_law_due" iA ["_law_own_here","_law_deed_here"])(T:Ld K mg tk)(zB:Df P w K mg base "_law_added" X9 3 (NG K CB CD))(yZ:Df P w K mg base "_law_taught" W8 8 (Nk K CB CD))
 (zC:Df P w K mg base "_law_keyed" V0 2 (NH K CB CD))
 (yP:Df P w K mg base "_law_of_button" X8 9 (Oj K CB CD QK))
 (xB:Df P w K mg base "_law_listened" X4 7 (Mt K CB CD none))
 (UD:LS K CD)(dJ:Mf P w K mg base CD "known_now" v1 1 (MQ K CD))(yW:Mf P w K mg base CD "forget" v3 1 (Nf K CD))
 (dB:Df P w K mg base "_law_refused" X0 1 Lj):Df P w K mg base "_law_due" W1 10 (Ov K CB CD QK):=by
 refine a.dq MI λf _ A _ s H vs Q E C h=>?_
 .let#[m,S,n,l,d,rfl,ho,ok,n9,O,hd,b3,hw,dq]:=h
  exists _,(qg (qG 2 MI.nd (qE qS qB qj))
   (qg (qC (qw bC qJ (qM (qc qi (qc qi qa))) (by rfl)) (qh (qp (qy zB C.mo (qc ql (qc qJ (qc (qE qS qB qj) (qc (a8 eV qB (cy qj) cz) qa))))))) qr)
   (qg (qC (qw bC qJ (qM (qc qi (qc qi qa))) (by rfl)) (qh (qp (qy zC C.mo (qc ql (qc qJ (qc (qE qS qB qj) qa)))))) qr)
   (qg (qC (qw bC qJ (qM (qc qi (qc qi (qc qi (qc qi qa))))) (by rfl)) (qg (qC (bK C (qE qS qB qj) (qH C ql qi)) (qh (qp (qy dB C.mo (qc qi (qc zo qa))))) qr)
   (qh (qp (qy yP C.mo (qc ql (qc qJ (qc (qH C (qH C ql qi) (qE qS qB qj)) (qc (a8 eV qB (cy qj) cz) qa)))))))) qr)
   (qg (qG 3 MI.nd (pK C (qH C ql qi) (qE qS qB (fZ (qw qV qJ qi (qz _)) qj qj))))
   (qg (qC (QW.pt (Q7 (qw aV qP zo (qz _)) (Q4 (QW.pt (iT (qw bu qJ qi (qz _)) (eZ (bK C (qE qS qB qj) (qH C ql qi)))))))) (qh (qp (qy dB C.mo (qc qi (qc zo qa))))) qr)
   (qg (qC (qw qV qJ qi (qz _)) (qh (qp (qy yZ C.mo (qc ql (qc qP (qc (qH C (qH C ql qi) (qE qS qB qj)) qa)))))) qr)
   (qg (qC (qw qV qJ qi (qz _)) (qg (qC (Qg (cB av dh qj (qE qS qB qj) (qq qL T.b_len JE (qc (qH C ql qi) qa)))) (qh (qp (qy dB C.mo (qc qi (qc (qE qS qB qj) qa))))) qr)
   (qh (qp (qM (qc qi (qc (qy xB C.mo (qc ql (qc (qE qS qB qj) (qc (qE qS qB qj) qa)))) qa)))))) qr)
   (qg (qC (qw rR (qE qS qB qj) (QR (own:=["_law_row"]) (fr:=[]) (js:=[]) Z (lC (qW dJ UD.cl C.mo qP)) Z (λ_ _ h=>nomatch h) Z (iy Z nofun nofun nofun) (λ_ _ _ _=>qD 0 (show List.Nodup (["_law_row"]:Α)from by decide +kernel) Z (Or.inl Z) (.inr Z)) (λ_ _ _ _=>(qE (sS (K:=K) Z) ql qj))) (by rfl)) (qh (qp (qy dB C.mo (qc qi (qc zo qa))))) qr)
   (qg (qT (zc yW UD.cl C.mo qP (qc (qE qS qB qj) qa)))
   (qh (qp (qM (qc qi (qc zo qa)))))))))))))))
  have O:Nt (hF m) H l d:=O
  let#[qx,R,hx]:=Nt.cells O;exists 0,l,1,HQ.of R,pO
  refine#[0,Hj,λt1 a1=>#[t1,0,.inr (HQ.of qb),37,qO (λU=>?_) (λU=>?_)]]
  .have u1:=HG.upd (o:= .tup [.str "add_door",.str "add_button"]) a1
   have o1:=ho.same u1;have X:=Mm.same dq u1;have e1:=u1 _ _ R;have L:=O.same u1;generalize HI H t1 (.tup [.str "add_door",.str "add_button"])=H1 at o1 X e1 L⊢
   cases d with
   |addD nm near far most=>
    refine#[5,l,1,HQ.of L,47,l,0,L,λp H2 s2 hp _=>?_]
    exact#[m,S,n,"add_door",nm,p,.addD nm near far most,Z,o1.same s2,ok,n9,.inl #[Z,near,far,most,Z,hp],Mm.same X s2]
   |addB nm step=>
    refine#[5,l,1,HQ.of L,47,l,0,L,λp H2 s2 hp _=>?_]
    exact#[m,S,n,"add_button",nm,p,.addB nm step,Z,o1.same s2,ok,n9,.inr #[Z,step,Z,hp],Mm.same X s2]
   |_=>exact absurd U (by dsimp only[zi];decide +kernel)
  have u1:=HG.upd (o:= .tup [.str "add_door",.str "add_button"]) a1
  refine#[0,Hj,λt2 a3=>#[t2,0,.inr (HQ.of qb),37,qO (λz2=>?_) (λz2=>?_)]]
  .have S2:=u1.trans (HG.upd (o:= .tup [.str "turn_house",.str "close_ages"]) a3)
   have o2:=ho.same S2;have a0:=Mm.same dq S2;have D:=O.same S2;cases d with
   |turnH ks=>
    let#[p,D,a5]:=D
    exact#[5,l,1,HQ.of D,Z,m,S,n,"turn_house",-p,.turnH ks,Z,o2,ok,n9,.inl #[Z,p,ks,12,a5,hd.ok],a0]
   |close age=>
    have D:=(show(_:Option HO)=↑(.tup [.str "close_ages",.int age])from D)
    exact#[5,l,1,HQ.of D,Z,m,S,n,"close_ages",.int age,.close age,Z,o2,ok,n9,.inr #[Z,age,12],a0]
   |_=>exact absurd z2 (by dsimp only[zi];decide +kernel)
  have S2:=u1.trans (HG.upd (o:= .tup [.str "turn_house",.str "close_ages"]) a3)
  refine#[0,Ho,λt3 b0=>?_]
  have S3:=S2.trans (HG.upd (o:= .tup [.str "press_button",.str "lose_cell",.str "tear_cell",.str "turn_button"]) b0)
  have x:=ho.same S3;have e3:=S3 _ _ R;have c:=O.same S3;have v:=Mm.same dq S3;refine#[t3,0,.inr (HQ.of qb),37,qO (λz3=>?_) (λz3=>?_)]
  all_goals generalize HI (HI (HI H t1 (.tup [.str "add_door",.str "add_button"])) t2 (.tup [.str "turn_house",.str "close_ages"])) t3 (.tup [.str "press_button",.str "lose_cell",.str "tear_cell",.str "turn_button"])=H3 at x e3 c v⊢
  .let#[bn,eb,vs,R,pt]:∃bn,oC d=↑bn/\∃vs,H3 l=↑(.tup (.str (zi d):: .str bn::vs))/\∀N p,HG H3 N->N p=↑(.tup (bV (.str (zi d):: .str bn::vs) ↑2 none))->DA N p m d:=by
    cases d with
    |press bn deed ds=>
     let#[qd,O,sq,nq]:=c
     exact#[10,O,λN p Y hp=>#[qd,hp,f9 sq Y.mv iR (λh=>nomatch h),nq,hd.ok.1,hd.ok.2]]
    |lose bn=>exact#[10,c,λ_ _ _ _=>trivial]
    |tear bn=>exact#[10,c,λ_ _ _ _=>trivial]
    |turnB bn=>exact#[10,c,λ_ _ _ _=>trivial]
    |_=>exact absurd z3 (by dsimp only[zi];decide +kernel)
   rcases x.at_.gbd bn with⟨e,F⟩|⟨j,u,B,hj,hu,hB,_,_,F⟩
   .refine#[0,l,1,HQ.of R,Qe (j:=1) Z,0,m.ma,0,x.g_buttons,m.bd,0,F,0,Qa ?_]
    rw[xi eb e]at v
    exact#[6,λq t=>v q m _ (HG.upd t).mv L7.refl Z (x.same (HG.upd t)) qb]
   refine#[0,l,1,HQ.of R,Qe (j:=1) Z,0,m.ma,0,x.g_buttons,m.bd,0,F,0,zx ?_]
   rw[BL eb hj hB]at v;refine#[5,m.ma,0,x.g_buttons,0,l,1,HQ.of R,Qe (j:=1) Z,m.bd,0,F,3,l,0,R,λp N Y b2 _=>?_]
   exact#[m,S,n,j,u,B,p,d,Z,x.same Y,ok,n9,hu,hB,(by rw[eb];intro z;cases z),hw,pt N p Y b2,Mm.same v Y]
  have J:Qb S d= .ref .unknown->∀q,H3 q=none->Q (-q) (HI H3 q (.tup [.str "refused",.str "Unknown",.non])):=λer q t=>by
   rw[er]at v;exact v q m _ (HG.upd t).mv L7.refl Z (x.same (HG.upd t)) qb
  exists 0,m.ma,0,x.g_doors,m.dd,Z,.inl #[_,.inl x.at_.dd]
  exists 20
  cases d with
  |teach dn bn=>
   dsimp only[zi]
   refine zz (Jm (by intro z;injection z with z;revert z;decide +kernel)) ?_
   exists l,1,HQ.of c,Z
   rcases x.at_.gdd dn with⟨e,g⟩|⟨i,z,y,hi,hz,I,_,_,g⟩
   .exists _,g
    refine#[2,zZ (Je Z) ?_]
    exact#[6,λq t=>J (e8 e) q t]
   exists _,g
   refine#[2,zz (Jm (by intro z;cases z)) ?_]
   refine#[2,zZ (by rw[Jm (by intro z;injection z with z;revert z;decide +kernel)];rfl) ?_]
   rcases x.at_.gbd bn with⟨e,F⟩|⟨j,u,B,hj,hu,hB,_,eB,F⟩
   .refine#[0,l,1,HQ.of c,7,m.ma,0,x.g_buttons,m.bd,0,F,0,Qa ?_]
    exact#[6,λq t=>J ((fm hi I).trans (cE e)) q t]
   refine#[0,l,1,HQ.of c,7,m.ma,0,x.g_buttons,m.bd,0,F,0,zx ?_]
   refine#[2,zZ (Je Z) ?_]
   exists 5,m.ma,0,x.g_buttons,0,l,1,HQ.of c,Z,m.bd,0,F
   rw[nL hi I hj hB]at v
   exact#[m,S,n,i,j,z,y,u,B,Z,x,ok,n9,hz,I,hu,hB,v]
  |play k dn=>
   dsimp only[zi]
   refine zZ (Je Z) ?_
   exists l,1,HQ.of c,Z
   rcases x.at_.gdd dn with⟨e,g⟩|⟨i,z,y,hi,hz,I,_,_,g⟩
   .exists _,g
    refine#[2,zZ (Je Z) ?_]
    exact#[6,λq t=>J (e8 e) q t]
   exists _,g
   rw[pM hi I]at v;refine#[2,zz (Jm (by intro z;cases z)) ?_]
   refine#[2,zz (by rw[Je Z];rfl) (zx ?_)]
   refine#[2,zz nofun ?_]
   refine#[2,zZ (Je Z) ?_]
   have a4:¬(0<=k/\k<S.kp.length)->∀q,H3 q=none->Q (-q) (HI H3 q (.tup [.str "refused",.str "BadPress",.int k])):=λz q t=>by
    rw[pE z]at v;exact v q m _ (HG.upd t).mv L7.refl Z (x.same (HG.upd t)) qb
   let#[as,ek,lk,rk]:=id x.at_.kl;refine#[0,l,1,HQ.of c,26,qO (λW=>?_) (λW=>?_)]
   case refine_2=>
    have W:¬(0<=k):=λq=>W (Je q)
    refine#[0,Qa ?_]
    exact#[0,l,1,HQ.of c,36,λq t=>a4 (λz=>W z.1) q t]
   have W:0<=k:=Jv W
   exists 0,m.ma,0,x.g_kept,m.kl,0,.inl (HP.of ek),9
   rw[Jb,lk]
   by_cases U:k<(S.kp.length:Int)
   case neg=>
    refine zZ (by rw[Jm U];rfl) ?_
    exact#[0,l,1,HQ.of c,36,λq t=>a4 (λz=>U z.2) q t]
   refine zz (by rw[Je U];rfl) ?_
   have hP:=Jk (show k.toNat<S.kp.length by lia)
   rw[ra W hP]at v;refine#[3,l,1,HQ.of c,7,l,1,HQ.of c,Z,m,S,n,dn,k.toNat,i,y,_,(by rw[Int.toNat_of_nonneg W];rfl),x,ok,by lia,hi,I,hP,λq1 N m4 h4 e4=>#[Hj,λq t=>?_]]
   exact v q m _ (m4.trans (HG.upd t).mv) L7.refl Z (h4.same (HG.upd t)) #[-q1,qb,q1,Z,(HG.upd t) _ _ e4]
  |forget dn bn=>
   dsimp only[zi]
   refine zz (Jm (by intro z;injection z with z;revert z;decide +kernel)) ?_
   exists l,1,HQ.of c,Z
   rcases x.at_.gdd dn with⟨e,g⟩|⟨i,z,y,hi,hz,I,_,_,g⟩
   .exists _,g
    refine#[2,zZ (Je Z) ?_]
    exact#[6,λq t=>J (e8 e) q t]
   exists _,g
   refine#[2,zz (Jm (by intro z;cases z)) ?_]
   refine#[2,zZ (by rw[Jm (by intro z;injection z with z;revert z;decide +kernel)];rfl) ?_]
   have M:=ok.dr y (Jo I);have dl:=(x.at_.de i z y hz I).1;have er:Qb S (.forget dn bn)=if y.D.kn.lookup bn=none then Ls.ref .unknown else .ok (S.setD i (fu bn y)) .non:=fm hi I
   rcases x.at_.gbd bn with⟨e,F⟩|⟨j,u,B,hj,hu,hB,_,eB,F⟩
   .refine#[0,l,1,HQ.of c,7,m.ma,0,x.g_buttons,m.bd,0,F,0,Qa ?_]
    refine#[6,λq t=>J (er.trans (Jd ?_)) q t]
    cases z:y.D.kn.lookup bn with
    |none=>rfl
    |some e'=>exact absurd (M.kb _ (ZH z)) (Q5 e)
   refine#[0,l,1,HQ.of c,7,m.ma,0,x.g_buttons,m.bd,0,F,0,zx ?_]
   refine#[2,zz nofun ?_]
   refine#[2,zz nofun ?_]
   refine#[0,l,1,HQ.of c,7,z.a.p,Z,dl.dr.no,z.a.p,z.a.ta,z.a.hk,z.a.bd,z.a.lg,y.L.length,y.D,Z,dl.dr,M.ok,λkq ss N Y pm so sh=>#[kq,Z,?_]]
   refine kH (K:=K) sh (λnm h=>pm.mem_iff.mp h) (by rw[pm.length_eq,Jb];exact M.ok.nl) (λHx a nm xs Q' e q'=>#[0,a,1,HQ.of e,(show Q3 (V.str nm::xs) ((0:Nat):Int)=↑(.str nm)from Qe Z),q']) λkl H5 s5 b1=>?_
   have S5:=Y.trans s5;have a2:=dl.same S5;have o5:=x.same S5;have G:=Mm.same v S5;have ll:=M.ll;rw[er]at G;exists kl,0,.inl (HP.of b1),Z,mQ ss,0
   rw[Jd Z,jL]
   by_cases hk:y.D.kn.lookup bn=none
   .rw[Jd hk]at G
    exact zZ (by rw[Jm];rfl;intro h;let#[e,he]:=Zd (pm.mem_iff.mp h);rw[hk]at he;cases he) #[6,λq t=>G q m _ (HG.upd t).mv L7.refl Z (o5.same (HG.upd t)) qb]
   rw[Jc hk]at G;refine zz (by rw[Je];rfl;exact pm.mem_iff.mpr (La.mp (Option.isSome_iff_ne_none.mpr hk))) ?_
   refine#[0,z.a.p,Z,a2.dr.no,0,l,1,HQ.of (S5 _ _ c),Z,z.a,y.D,y.L,bn,Z,a2,by lia,hk,λD2 r h2 H6 m6 d6=>#[Hj,λq t=>?_]]
   have h2:(if y.D.kn.lookup bn=none then none else ↑(({y.D with kn:=y.D.kn.filter λp=>decide (p.1≠bn)}:Dr),Rw.forget bn))=↑(D2,r):=h2
   rw[Jc hk]at h2;cases h2;exact G q m _ ((ci hz (bX m6)).trans (HG.upd t).mv) L7.refl Z ((o5.door hz I (bX m6) d6).same (HG.upd t)) #[.non,qb,Z]
  |_=>first|exact(z2 (by dsimp only[zi];decide +kernel)).elim|exact absurd U (by dsimp only[zi];decide +kernel)|exact absurd hw (by dsimp only[zi];decide +kernel)|exact(z3 (by dsimp only[zi];decide +kernel)).elim|exact(U (by dsimp only[zi];decide +kernel)).elim
end
section
variable{tk:Nat->Tok}
theorem pZ(a:At K mg "_law_class" eM ["_law_caught"])(T:Ld K mg tk)(d:ML K mg x fI):Df P w K mg base "_law_class" ["_law_caught"] 1 (NI K x):=by
 refine a.dq LR λf _ A _ s H vs Q E hr h=>?_
 .let#[e,c,dd,Y,j,rfl,l,cl,q]:=h
  exists _,(qg (qG 1 LR.nd (zp (qc (qq ZA T.b_isinstance Jz (qc ql (qc (zk (v:= .ref x.k) Z d.g_Known Z) qa))) (qc (qq ZA T.b_isinstance Jz (qc ql (qc (zk (v:= .ref x.f) Z d.g_Full Z) qa))) (qc (qq ZA T.b_isinstance Jz (qc ql (qc (zk (v:= .ref x.w) Z d.g_Worn Z) qa))) (qc (qq ZA T.b_isinstance Jz (qc ql (qc (zk (v:= .ref x.u) Z d.g_Unknown Z) qa))) qa))))))
   (qg (qG 1 LR.nd (qF oH qB (zp (qc (qq ZA T.b_isinstance Jz (qc ql (qc (zk (v:= .ref x.t) Z d.g_TooMany Z) qa))) (qc (qq ZA T.b_isinstance Jz (qc ql (qc (zk (v:= .ref x.b) Z d.g_BadPress Z) qa))) qa)))))
   (qg (qG 2 LR.nd (zp (qc qi (qc qi (qc qi (qc qi (qc qi (qc qi qa))))))))
   (qg (qC (QW.pt (Q7 (qw bu (Qx JN PySem.F.slot_list_count PySem.F.type_list_count wb qB (qc Q0 qa)) qj (qz _)) (Q7 (Qg (zW (qq ZA T.b_isinstance Jz (qc ql (qc (za (v:= .ty "ValueError") Z d.b_ValueError nofun Z) qa))))) (Q4 (zW (qq uc T.b_isinstance Jz (qc ql (qc (qM (qc (zk (v:= .ref x.l) Z d.g_BadLog Z) (qc (zk (v:= .ref x.r) Z d.g_BadRow Z) qa))) qa)))))))) (qh (qp qi)) qr)
   (qh (qp (qE qU qJ (Qx JN PySem.F.slot_list_index PySem.F.type_list_index uV qB (qc Q0 qa)))))))))
  have mw:=cl.m;refine#[0,e,c,dd,19,l,cl.c,.inl #[18],cl.i x.k (by simp [Xa.all]),0,e,c,dd,19,l,cl.c,.inl #[18],cl.i x.f (by simp [Xa.all]),0,e,c,dd,19,l,cl.c,.inl #[18],cl.i x.w (by simp [Xa.all]),0,e,c,dd,19,l,cl.c,.inl #[18],cl.i x.u (by simp [Xa.all]),Ho,λu B=>?_]
  have L:=HG.upd (o:= .lst [.bl (decide (c=x.k)),.bl (decide (c=x.f)),.bl (decide (c=x.w)),.bl (decide (c=x.u))]) B
  have m:=L _ _ l;refine#[3,e,c,dd,19,m,cl.c,.inl #[18],cl.i x.t (by simp [Xa.all]),0,e,c,dd,19,m,cl.c,.inl #[18],cl.i x.b (by simp [Xa.all]),Hj,λr J=>?_]
  have O:=HG.upd (o:= .lst [.bl (decide (c=x.t)),.bl (decide (c=x.b))]) J
  refine#[u,r,4,O _ _ qb,qb,Hr,λi I=>?_]
  have W:=HG.upd (o:= .lst ((x.six.map λD=>decide (c=D)).map V.bl)) I
  have U:=L.trans (O.trans W);have R:(HI (HI (HI H u (.lst [.bl (decide (c=x.k)),.bl (decide (c=x.f)),.bl (decide (c=x.w)),.bl (decide (c=x.u))])) r (.lst [.bl (decide (c=x.t)),.bl (decide (c=x.b))])) i (.lst ((x.six.map λD=>decide (c=D)).map V.bl))) i=↑(.lst ((x.six.map λD=>decide (c=D)).map V.bl)):=qb
  refine uH ?_
  show jM _ _ _ _ (HI (HI (HI H u (.lst [.bl (decide (c=x.k)),.bl (decide (c=x.f)),.bl (decide (c=x.w)),.bl (decide (c=x.u))])) r (.lst [.bl (decide (c=x.t)),.bl (decide (c=x.b))])) i (.lst ((x.six.map λD=>decide (c=D)).map V.bl)))
  generalize HI (HI (HI H u (.lst [.bl (decide (c=x.k)),.bl (decide (c=x.f)),.bl (decide (c=x.w)),.bl (decide (c=x.u))])) r (.lst [.bl (decide (c=x.t)),.bl (decide (c=x.b))])) i (.lst ((x.six.map λD=>decide (c=D)).map V.bl))=H3 at U R⊢
  refine#[Hr,λF z=>?_]
  have N:=HG.upd (o:= .lst (Nl.map V.str)) z
  have X:(HI H3 F (.lst (Nl.map V.str))) F=↑(.lst (Nl.map V.str)):=qb
  have S:=U.trans N;have t:=N _ _ R;have p:=S _ _ l;have G:=mw.count;let#[hit,g]:=mw.hit;exists 0,.inl #[24,HP.of t],i,18,t
  rw[G];exists 7
  refine qO (λy=>absurd y (by rw[Je (show V.int ((1:Nat):Int)=V.int 1 from Z)];decide)) (λ_=>?_)
  refine#[0,e,c,dd,8,true,Z,p,cl.c,.inr #[18],cl.v,0,zx ?_]
  refine#[0,Hj,λtp C=>?_]
  have n:=HG.upd (o:= .tup [-x.l,-x.r]) C
  refine#[e,c,tp,dd,[x.l,x.r],false,Z,n _ _ p,cl.c,qb,pA (λD M=>cl.i D (by simp only[Jh,Jr,Js]at M;rcases M with rfl|rfl<;>simp [Xa.all])) mw.n,0,zx ?_]
  exists 3,.inl #[24,HP.of (n _ _ t)],i,_,j,12,n _ _ t,hit,g,by have:=mw.j6;omega,F,_,_,.str Y,Z,Z,HP.of (n _ _ X),Qe (by rw[Jp,mw.w];rfl)
  exact q _ (S.trans n)
end
section
variable{tk:Nat->Tok}
theorem mD(a:At K mg "_law_called" cM ["_law_house","_law_deed_here"])(T:Ld K mg tk)(U:MK K C)
 (yM:My P w K mg base C "add_door" V7 3 (OL K CB CD C x))
 (xW:My P w K mg base C "add_button" ["self","name","step"] 3 (OM K CB CD C x))
 (yU:My P w K mg base C "teach" W5 8 (Od K CB CD C x))
 (xM:My P w K mg base C "press_button" Y5 8 (Og K CB CD C x))
 (yE:My P w K mg base C "play_kept" ["self","number","door"] 8 (OR K CB CD C x))
 (xU:My P w K mg base C "turn_house" W0 2 (N3 K CB CD C x))
 (xR:My P w K mg base C "turn_button" Y4 2 (Oh K CB CD C x))
 (x9:My P w K mg base C "close_ages" X2 2 (Oe K CB CD C x))
 (yG:My P w K mg base C "forget_at" W5 2 (NK K CB CD C x))
 :Dy P w K mg base "_law_called" X1 9 (NL K CB CD C x QK):=by
 refine a.dy LF λf _ A _ s H vs Q E I h=>?_
 .let#[r,S,n,l,d,rfl,ho,ok,J,hl,hd,a0,hw,dd]:=h
  exists _,(qg (v5 (i:=2) (j:=3) Z LF.nd Z Z ⋯ Z Z (qc (qE qS qB qj) (qc (a8 eV qB (cy qj) cz) qa)))
   (qg (qC (qw qV qJ qi (qz _)) (qh (qp (zX yM zm U.cl I.mo ql (qc (qE qS qP qj) (qc (qE qS qP qj) (qc (qE qS qP qj) (qc (qE qS qP qj) qa))))))) qr)
   (qg (qC (qw qV qJ qi (qz _)) (qh (qp (zX xW zm U.cl I.mo ql (qc (qE qS qP qj) (qc (qE qS qP qj) qa))))) qr)
   (qg (qC (qw qV qJ qi (qz _)) (qh (qp (zX yU zm U.cl I.mo ql (qc (qE qS qP qj) (qc (qE qS qP qj) qa))))) qr)
   (qg (qC (qw qV qJ qi (qz _)) (qh (qp (zX xM zm U.cl I.mo ql (qc (qE qS qP qj) (qc (qE qS qP qj) (qc (qE qS qP qj) qa)))))) qr)
   (qg (qC (qw qV qJ qi (qz _)) (qh (qp (zX yE zm U.cl I.mo ql (qc (qE qS qP qj) (qc (qE qS qP qj) qa))))) qr)
   (qg (qC (qw qV qJ qi (qz _)) Qz qr)
   (qg (qC (qw qV qJ qi (qz _)) Qz qr)
   (qg (qC (qw qV qJ qi (qz _)) (qg (qG 4 LF.nd (qI QM T.b_list JZ (qc (qE qS qP qj) qa)))
   (qg (qG 5 LF.nd (zX xU zm U.cl I.mo ql (qc (fZ (qw qV (qF QC (qq qL T.b_len JE (qc Qk qa)) qj) qj (qz _)) Qk (qE qS qP qj)) qa)))
   (qg (qT (Qx JN JU JV zY Qk (qc qj qa)))
   (qh (qp Qw))))) qr)
   (qg (qC (qw qV qJ qi (qz _)) (qh (qp (zX xR zm U.cl I.mo ql (qc (qE qS qP qj) qa)))) qr)
   (qg (qC (qw qV qJ qi (qz _)) (qh (qp (zX x9 zm U.cl I.mo ql (qc (qE qS qP qj) qa)))) qr)
   (qh (qp (zX yG zm U.cl I.mo ql (qc (qE qS qP qj) (qc (qE qS qP qj) qa))))))))))))))))
  let#[L,e0,hx]:=Nt.cells hl;refine#[0,l,1,HQ.of e0,pO,3,l,0,e0,λp H1 R t _=>#[6,?_]]
  have B:=ho.same R;have t:H1 p=↑(.tup (EH L d)):=by cases d<;>exact t
  have u:=Ou.same dd R;refine#[2,qO (λy=>?_) (λy1=>?_)]
  .cases d with
   |addD nm near far most=>exact#[0,r.ma,Z,B.no,0,p,1,HQ.of t,7,p,1,HQ.of t,7,p,1,HQ.of t,7,p,1,HQ.of t,Z,r,S,n,nm,near,far,most,Z,B,ok,J,u]
   |_=>exact absurd (aM y) (by dsimp only[zi];decide +kernel)
  refine#[2,qO (λy=>?_) (λy2=>?_)]
  .cases d with
   |addB nm step=>exact#[0,r.ma,Z,B.no,0,p,1,HQ.of t,7,p,1,HQ.of t,Z,r,S,n,nm,step,Z,B,ok,J,u]
   |_=>exact absurd (aM y) (by dsimp only[zi];decide +kernel)
  refine#[2,qO (λy=>?_) (λy3=>?_)]
  .cases d with
   |teach dn bn=>exact#[0,r.ma,Z,B.no,0,p,1,HQ.of t,7,p,1,HQ.of t,Z,r,S,n,dn,bn,Z,B,ok,J,u]
   |_=>exact absurd (aM y) (by dsimp only[zi];decide +kernel)
  refine#[2,qO (λy=>?_) (λy4=>?_)]
  .cases d with
   |press bn deed ds=>exact#[0,r.ma,Z,B.no,0,p,1,HQ.of t,7,p,1,HQ.of t,7,p,1,HQ.of t,Z,r,S,n,bn,deed,L,ds,Z,B,ok,J,f9 hx.1 R.mv iR (λh=>nomatch h),hx.2,hd.ok.1,hd.ok.2,u]
   |_=>exact absurd (aM y) (by dsimp only[zi];decide +kernel)
  refine#[2,qO (λy=>?_) (λy5=>?_)]
  .cases d with
   |play k dn=>exact#[0,r.ma,Z,B.no,0,p,1,HQ.of t,7,p,1,HQ.of t,Z,r,S,n,k,dn,Z,B,ok,J,a0.1,a0.2,u]
   |_=>exact absurd (aM y) (by dsimp only[zi];decide +kernel)
  refine#[2,qO (λy=>?_) (λy6=>?_)]
  .cases d with
   |lose bn=>exact absurd hw (show¬("lose_cell":Str)∈QK by decide +kernel)
   |_=>exact absurd (aM y) (by dsimp only[zi];decide +kernel)
  refine#[2,qO (λy=>?_) (λy7=>?_)]
  .cases d with
   |tear bn=>exact absurd hw (show¬("tear_cell":Str)∈QK by decide +kernel)
   |_=>exact absurd (aM y) (by dsimp only[zi];decide +kernel)
  refine#[2,qO (λy=>?_) (λy8=>?_)]
  .cases d with
   |turnH ks=>
    have hk:H L=↑(.tup (ks.map V.int)):=hx
    have k8:ks.length<=8:=hd.ok
    have t:H1 p=↑(.tup [-L]):=t
    refine#[0,p,1,HQ.of t,Z,L,0,.inr (HQ.of (R _ _ hk)),λD M=>?_]
    have u2:=HG.upd (o:= .lst (ks.map V.int)) M
    have S2:=R.trans u2;have o2:=ho.same S2;have W:=u2 _ _ t;have N:=S2 _ _ hk;have X:=Ou.same dd S2;have O:D∉hF r:=λq=>B.at_.live q M
    have nk:L∉hF r:=λq=>by
     let#[o,e,no]:=o2.at_.nt L q;rw[N]at e;cases e;exact no
    have F:(HI H1 D (.lst (ks.map V.int))) D=↑(.lst (ks.map V.int)):=qb
    generalize HI H1 D (.lst (ks.map V.int))=H2 at S2 o2 W N X F⊢
    have a2:∀S' o,Qb S (.turnH ks)= .ok S' o->∀v a' H',Mv (hF r) H2 H'->L7 H2 r a'->a'.ma=r.ma->HJ K CB CD ↑C H' a' S'->Mz H' v o->H' D=↑(.lst (ks.map V.int))/\Q v (HI H' D (.lst (ks.map V.int++[.int 1]))):=λS' o e v a' H' m g ea h' hv=>by
     have G:=m _ _ O F;exists G
     have m2:Mv [D] H' (HI H' D (.lst (ks.map V.int++[.int 1]))):=Mv.upd1
     have a4:H D=none:=QZ M R
     refine dd.2 S' o e v a' _ (λc o' hc ec=>?_) (g.same S2) ea (h'.mv m2 (NT.one G trivial) (λz hz q=>?_)) ?_
     .rw[qk (qu ec a4)]
      exact m c o' hc (S2 _ _ ec)
     .rw[Jg.mp q]at hz
      rcases g D hz with q|q
      .exact O q
      .rw[F]at q;cases q
     .have e:(if 8<=S.kss.length then Ls.ref .toomany else .ok {S with kss:=S.kss++[ks],ds:=S.ds.map (bB ks)} .non)= .ok S' o:=e
      split at e
      .cases e
      .cases e;exact hv
    have rest:∀Y,N6 H2 Y ks->Y∉hF r->∀Q':VK,(∀v H',H' D=↑(.lst (ks.map V.int))->Q v (HI H' D (.lst (ks.map V.int++[.int 1])))->Q' v H')->N3 K CB CD C x [-r.ma,-Y] H2 Q' E:=λY a3 a5 Q' hQ=>#[r,S,n,Y,ks,Z,o2,ok,J,a3,a5,k8,X.1,λS' o e v a' H' m g ea h' hv=>let⟨G,q1⟩:=a2 S' o e v a' H' m g ea h' hv;hQ v H' G q1]
    exists 0,r.ma,Z,o2.no,0,D,0,.inl (HP.of F)
    refine#[4,(by decide:(0:Int)<2),7,qO (λ_=>?_) (λ_=>?_)]
    .refine#[0,rest D (.inl F) O _ λv H' G q1=>?_]
     exact#[0,.inl #[24,HP.of G],D,4,G,by rw[Jb,Jn];omega,0,q1]
    .refine#[0,p,1,HQ.of W,Z,rest L (.inr (.inl N)) nk _ λv H' G q1=>?_]
     exact#[0,.inl #[24,HP.of G],D,4,G,by rw[Jb,Jn];omega,0,q1]
   |_=>exact absurd (aM y) (by dsimp only[zi];decide +kernel)
  refine#[2,qO (λy=>?_) (λy9=>?_)]
  .cases d with
   |turnB bn=>exact#[0,r.ma,Z,B.no,0,p,1,HQ.of t,Z,r,S,n,bn,Z,B,ok,J,u]
   |_=>exact absurd (aM y) (by dsimp only[zi];decide +kernel)
  refine#[2,qO (λy=>?_) (λa1=>?_)]
  .cases d with
   |close age=>exact#[0,r.ma,Z,B.no,0,p,1,HQ.of t,Z,r,S,n,age,Z,B,ok,J,u]
   |_=>exact absurd (aM y) (by dsimp only[zi];decide +kernel)
  cases d with
  |addD nm near far most=>exact(y1 (Je Z)).elim
  |addB nm step=>exact(y2 (Je Z)).elim
  |teach dn bn=>exact(y3 (Je Z)).elim
  |press bn deed ds=>exact(y4 (Je Z)).elim
  |play k dn=>exact(y5 (Je Z)).elim
  |lose bn=>exact(y6 (Je Z)).elim
  |tear bn=>exact(y7 (Je Z)).elim
  |turnH ks=>exact(y8 (Je Z)).elim
  |turnB bn=>exact(y9 (Je Z)).elim
  |close age=>exact(a1 (Je Z)).elim
  |forget dn bn=>exact#[0,r.ma,Z,B.no,0,p,1,HQ.of t,7,p,1,HQ.of t,Z,r,S,n,dn,bn,Z,B,ok,J,u]
theorem uG(a:At K mg "_law_did" ib ["_law_house","_law_deed_here"])(T:Ld K mg tk)(R:ML K mg x fI)(y:Dy P w K mg base "_law_called" X1 9 (NL K CB CD C x QK))(zD:Df P w K mg base "_law_class" ["_law_caught"] 1 (NI K x)):Df P w K mg base "_law_did" X1 10 (Ox K CB CD C QK):=by
 refine a.dq Lu λf _ A _ s H vs Q E hr h=>?_
 .let#[J,S,n,l,d,rfl,ho,ok,n9,hl,hd,a1,hw,q]:=h
  exists _,(qg (Qy (qM (qc zo (qc zo qa))) (cU Z (qQ (qD 2 Lu.nd) (qQ (qD 3 Lu.nd) Qu))))
   (qg (Bq (DI y hr.mo Lu.nd Z (Or.inl Z) (qc ql (qc qB qa)) (i:=2)) (λ_=>(qh (qG 3 Lu.nd Qk))) Z Z Z R.g_CodeError R.e_CodeError Z Lu.nd (i:=4) Z Z)
   (qg (qC (qw aV qP zo (qz _)) (qh (qp (qM (qc qi (qc qJ qa))))) qr)
   (qg (qG 5 Lu.nd (qy zD hr.mo (qc qP qa)))
   (qh (qp (qM (qc qi (qc Qw (qc (fZ (qw qV Qw qi (qz _)) (BH R.bp.f qP) zo) qa))))))))))
  refine#[Hj,λt0 a0=>#[t0,0,HQ.of qb,11,?_]]
  have M:=HG.upd (o:= .tup [.non,.non]) a0
  generalize HI H t0 (.tup [.non,.non])=H0 at M⊢
  refine uH ?_
  refine Ag (λL H'=>(∃(v:V) (a':Ha),L=[↑(-J.ma),↑(-l),↑v,some .non,none,none]/\Mv (hF J) H H'/\L7 H J a'/\a'.ma=J.ma/\HJ K CB CD ↑C H' a' (eN S (Qb S d))/\∃S' o,Qb S d= .ok S' o/\Mz H' v o)\/
   ∃(e:Δ) (r:Rf) (dd:Κ),L=[↑(-J.ma),↑(-l),some .non,↑(-e),none,none]/\Qb S d= .ref r/\HG H H'/\H' e=↑(MF e (.ref (Dk x r)) dd)/\∀n,r= .badp n->∃dx,dd=↑dx/\H' dx=↑(.xd [("place",.int n)])) (λD' hD=>?_) ?_
  .have base:∀(r:Rf),Qb S d= .ref r->∀(H':Hp) (e:Δ) (dd:Κ),HG H0 H'->H' e=↑(MF e (.ref (Dk x r)) dd)->(∀n,r= .badp n->∃dx,dd=↑dx/\H' dx=↑(.xd [("place",.int n)]))->(∀cls N,H' e=↑(MF e cls N)->tT K x.e cls)/\D'.nx [↑(-J.ma),↑(-l),some .non,↑(-e),none,none] H':=λr O H' e dd s' c hp=>by
    let#[j,cl]:=R.cl r
    exact#[λcls N hc=>by rw[Dz c hc];exact cl.s,hD _ _ (.inr #[e,r,dd,Z,O,M.trans s',c,hp])]
   refine#[3,J,S,n,l,d,Z,ho.same M,ok,n9,hl.same M,hd,a1,hw,λr O=>?_,λS' o W v a' H' m g ea h' X=>?_]
   .have F:=base r O
    cases r with
    |badp n=>exactλH' e dx s' c I=>#[e,Z,(F H' e ↑dx s' c (λG p=>by cases p;exact#[dx,Z,I])).1,0,(F H' e ↑dx s' c (λG p=>by cases p;exact#[dx,Z,I])).2]
    |known=>exactλH' e s' c=>#[e,Z,(F H' e none s' c (λG p=>by cases p)).1,0,(F H' e none s' c (λG p=>by cases p)).2]
    |full=>exactλH' e s' c=>#[e,Z,(F H' e none s' c (λG p=>by cases p)).1,0,(F H' e none s' c (λG p=>by cases p)).2]
    |worn=>exactλH' e s' c=>#[e,Z,(F H' e none s' c (λG p=>by cases p)).1,0,(F H' e none s' c (λG p=>by cases p)).2]
    |unknown=>exactλH' e s' c=>#[e,Z,(F H' e none s' c (λG p=>by cases p)).1,0,(F H' e none s' c (λG p=>by cases p)).2]
    |toomany=>exactλH' e s' c=>#[e,Z,(F H' e none s' c (λG p=>by cases p)).1,0,(F H' e none s' c (λG p=>by cases p)).2]
   .refine hD _ _ (.inl #[v,a',Z,M.mv.trans m,g.same M,ea,?_,S',o,W,X])
    rw[W];exact h'
  .rintro L H' (⟨v,a',rfl,m,g,ea,h',S',o,W,X⟩|⟨e,r,dd,rfl,O,s',c,hp⟩)
   .refine#[2,zZ (Je Z) ?_]
    refine#[0,Hj,λt B=>?_]
    have u:=HG.upd (o:= .tup [.str "told",v]) B
    refine q t a' _ (m.trans u.mv) g ea (h'.same u) ?_
    rw[W]
    exact#[v,qb,X.same u]
   .let#[j,cl]:=R.cl r
    refine#[2,zz (Jm (by intro z;cases z)) ?_]
    refine#[0,e,_,dd,sZ r,j,Z,c,cl,λH3 U=>?_]
    have Y:=U _ _ c;rw[O]at q;have D:∀t,H3 t=none->Q (-t) (HI H3 t (.tup [.str "refused",.str (sZ r),AQ r])):=λt B=>q t J _ ((s'.trans U).trans (HG.upd B)).mv L7.refl Z (ho.same ((s'.trans U).trans (HG.upd B))) qb
    exists 20
    cases r with
    |badp n=>
     let#[dx,rfl,I]:=hp n Z;refine zZ (Je Z) ?_
     exact#[0,e,dx,[("place",.int n)],.int n,Z,Y,U _ _ I,Z,Hn,λt B=>D t B]
    |known=>exact zz nofun #[Hn,λt B=>D t B]
    |full=>exact zz nofun #[Hn,λt B=>D t B]
    |worn=>exact zz nofun #[Hn,λt B=>D t B]
    |unknown=>exact zz nofun #[Hn,λt B=>D t B]
    |toomany=>exact zz nofun #[Hn,λt B=>D t B]
end
end Lw
namespace L3
open PySem PySem.Spec PyProof.Rows L2
structure PX(O:Β->HO)(IT:Ψ->Δ->Δ->Nat->Prop)(IS:Ψ->Δ->Array Γ->Prop):Prop where
 seq:∀{X:Cx} {tx:HF} {σ:L2.St} {H:Hp} {s:Θ} {a:Δ} {xs:Β},L2.HL X tx σ H s->Rd H a (O xs)->∃its:Ζ,HR xs its/\IS s.heap a its.toArray
 inj:∀{X:Cx} {tx:HF} {σ:L2.St} {H:Hp} {s:Θ} {a:Δ} {xs ys:Β},L2.HL X tx σ H s->Rd H a (O xs)->Rd H a (O ys)->xs=ys
 obj:∀{h:Ψ} {i a:Δ} {n:Nat},IT h i a n->∃o,h.get? i=↑o/\∀v,o.data≠ .cell v
 at_:∀{h h':Ψ} {i a:Δ} {n:Nat},IT h i a n->(∀o,h.get? i=↑o->h'.get? i=↑o)->IT h' i a n
 dr:∀{prog:Ξ} {w:Ω} {A:Around},A.handled=none->∀(it t:Δ),t≠it->∀its:Array Γ,Draws prog w A it [it,t] its.size (λi v=>its[i]? =↑v) (λi h=>IT h it t i/\IS h t its)
 call:∀{prog:Ξ} {w:Ω} {A:Around} {E:HD} {s:Θ} {l1 l2:Δ} {xs ys:Array Γ} {Q:HD},IS s.heap l1 xs->IS s.heap l2 ys->
  (∀h',IsZip h' (s.heap.objs.size+4) (s.heap.objs.size+2) (s.heap.objs.size+3) .none->IsPair h' (s.heap.objs.size+2) (-s.heap.objs.size) (.ref (s.heap.objs.size+1))->
   IsPair h' (s.heap.objs.size+3) .none .none->IT h' s.heap.objs.size l1 0->IT h' (s.heap.objs.size+1) l2 0->
   (∀c o,s.heap.get? c=↑o->h'.get? c=↑o)->Q (.ref (s.heap.objs.size+4)) {s with heap:=h'})->ε (model prog w) A (call (.type "zip") [-l1,-l2]) Q E s
theorem Fm:PX .tup Ψ.IsTupleIter Ψ.IsTuple:=#[λI h=>by let#[a,r,p,_]:=I.tuple (.inl h);exact#[a,r,p],λI h h'=>I.tuple_inj (.inl h) (.inl h'),λh=>by let#[o,e,_,d]:=h;exact#[o,e,λv y=>by rw[d]at y;cases y],λh k=>h.at k,v4,wv]
theorem Fn:PX .lst Ψ.IsListIter Ψ.IsList:=#[λI h=>by let#[c,r,p,_]:=I.list (.inl h);exact#[c,r,p.isList],λI h h'=>I.list_inj (.inl h) (.inl h'),λh=>by let#[o,e,_,d]:=h;exact#[o,e,λv y=>by rw[d]at y;cases y],λh k=>h.at k,Draws.list,λh1 g q=>call_zip_2 h1 g λh' i f a i1 i2 _ hk=>q h' i f a i1 i2 hk]
section
noncomputable def xq(O:Β->HO)(a c:Δ):It:=
  #[λi H=>∃xs ys x y,Rd H a (O xs)/\Rd H c (O ys)/\xs[i]? =↑x/\ys[i]? =↑y,
   λi H v H'=>∃p x y,H p=none/\v= .ref p/\(∀xs,Rd H a (O xs)->xs[i]? =↑x)/\(∀ys,Rd H c (O ys)->ys[i]? =↑y)/\H'=HI H p (.tup [x,y]),
   λi H=>∃xs,Rd H a (O xs)/\xs.length=i]
theorem wf(j:PX O IT IS){P:Ξ}{w:Ω}{K:ι}{U:Ι}{x1}{pos:Pos}(J S z TI TO i1 i2:Δ)(d1:TI≠z)(d2:TO≠z)(W:i1≠z)(Y:i2≠z)(d5:TI≠TO)(d6:TI≠i1)(d7:TI≠i2)(d8:TO≠i1)(d9:TO≠i2)(m:i1≠i2):
  MM P w K (.Tuple U x1 pos) (xq O J S) [z,TI,TO,i1,i2] z (λi h=>IsZip h z TI TO .none/\IsPair h TI (-i1) (-i2)/\(∃a b,IsPair h TO a b)/\IT h i1 J i/\IT h i2 S i) where
 mem:=by simp
 obj:=λi h st b d=>by
  let#[G,g,#[a,b',l],b2,b1]:=st;let#[o1,b7,c0]:=j.obj b2;let#[o2,c2,b4]:=j.obj b1;simp only[Jh,Jr,Js]at d;rcases d with rfl|rfl|rfl|rfl|rfl
  .exact#[_,G,λv y=>by have y':Data.fields _=Data.cell v:=y;cases y']
  .exact#[_,g,λv y=>by have y':Data.seq _ _=Data.cell v:=y;cases y']
  .exact#[_,l,λv y=>by have y':Data.seq _ _=Data.cell v:=y;cases y']
  .exact#[_,b7,c0]
  .exact#[_,c2,b4]
 keep:=λi h h' st k=>by
  let#[G,g,#[a,b',l],h1,h2]:=st
  exact#[k z (by simp) _ G,k TI (by simp) _ g,#[a,b',k TO (by simp) _ l],j.at_ h1 λo e=>k i1 (by simp) o e,j.at_ h2 λo e=>k i2 (by simp) o e]
 item:=by
  intro X hP hw hK r i tx s σ H E I Q st hg;subst hP hw hK;let#[xs,ys,x,y,n,N,hx,hy]:=hg;let#[its,rv,p]:=j.seq I n;let#[B,c1,p2]:=j.seq I N;let#[u,hu,ru]:=rv.get hx;let#[u2,a4,c4]:=c1.get hy;let#[G,g,#[a,b',l],h1,h2]:=st;have n1:∀c∈[z,TI,TO,i1,i2],J≠c:=λc r=>uD n (Q c r).1
  have n2:∀c∈[z,TI,TO,i1,i2],S≠c:=λc r=>uD N (Q c r).1
  have Z:NM z TI TO i1 i2 [i1,J] [i2,S]:=#[d1,d2,W,Y,d5,d6,d7,d8,d9,m,by simp [Ne.symm W,Ne.symm (n1 z (by simp))],by simp [Ne.symm Y,Ne.symm (n2 z (by simp))],by simp [d8,Ne.symm (n1 TO (by simp))],by simp [d9,Ne.symm (n2 TO (by simp))],by simp [Ne.symm m,Ne.symm (n1 i2 (by simp))],by simp [m,Ne.symm (n2 i1 (by simp))]]
  have c3:i<its.toArray.size:=by have:=(Jt.mp hu).1;simpa using this
  have a0:i<B.toArray.size:=by have:=(Jt.mp a4).1;simpa using this
  have hT:s.TypeIs (-z) "zip":=#[_,G,rfl]
  unfold pyNext;refine Ja (Gu (wpAny_callSpecial?_slot (name:=Str.ofString "__next__") hT IA
   (J9 IA hT F.entry_zip_next
    (vn (j.dr (A:=X.A.in1) (I.ok.hd r) i1 J (n1 i1 (by simp)) its.toArray) (j.dr (A:=X.A.in1) (I.ok.hd r) i2 S (n2 i2 (by simp)) B.toArray) Z G g l #[h1,p] #[h2,p2] c3 a0
     λv v2 h' tk hv b6 ho a3 q1 q2 ht hk=>Ji #[_,rfl,?_]) (F.args_zip_next_1 _))))
  have ev:v=u:=by
   have t:its[i]? =↑v:=by simpa using hv
   rw[hu]at t;exact(JF t).symm
  have b3:v2=u2:=by
   have t:B[i]? =↑v2:=by simpa using b6
   rw[a4]at t;exact(JF t).symm
  subst ev b3;refine wpAny_letOwnedTupleGo_zip ho λC M f=>?_
  have lt:∀c∈[z,TI,TO,i1,i2],c<s.heap.objs.size:=λc r=>by
   simp only[Jh,Jr,Js]at r;rcases r with rfl|rfl|rfl|rfl|rfl
   .exact Jl G
   .exact Jl g
   .exact Jl l
   .let#[_,e,_]:=j.obj h1;exact Jl e
   .let#[_,e,_]:=j.obj h2;exact Jl e
  have L:IsPair C TI (-i1) (-i2):=f.extBut _ _ d1 (hk _ _ d1 d5 d6 d7 g)
  have D:IsPair C TO v v2:=f.extBut _ _ d2 a3
  have a5:IT C i1 J (i+1):=j.at_ q1.1 λo e=>f.extBut _ _ W e
  have b0:IT C i2 S (i+1):=j.at_ q2.1 λo e=>f.extBut _ _ Y e
  exists .ref s.heap.objs.size,HI H s.heap.objs.size (.tup [x,y]),?_,rfl,#[_,x,y,I.hok.fresh (Jf _),rfl,λzs R=>by rw[j.inj I R n];exact hx,λzs R=>by rw[j.inj I R N];exact hy,rfl],#[M,L,#[8,D],a5,b0]
  .show L2.HL X tx σ _ {s with heap:=C,toks:=tk}
   refine ja (s:=s) (its:=[v,v2]) I (ch:=[z,TI,TO,i1,i2]) (λb o d q=>?_) Q (λb d=>?_) (Jf _) (by show 2<=ζ;decide) (.cons ru (.cons c4 .nil)) ?_
   .simp only[Jh,Jr,Js,not_or]at d
    exact f.extBut b o d.1 (hk b o d.1 d.2.2.1 d.2.2.2.1 d.2.2.2.2 q)
   .simp only[Jh,Jr,Js]at d
    rcases d with rfl|rfl|rfl|rfl|rfl
    .exact#[_,M]
    .exact#[_,L]
    .exact#[_,D]
    .let#[o,e,_]:=j.obj a5;exact#[o,e]
    .let#[o,e,_]:=j.obj b0;exact#[o,e]
   .exact#[_,f.extBut _ _ (J2 (lt z (by simp))) ht,rfl,_,rfl]
  .intro b d
   rw[qk (Jx (lt b d))]
   exact(Q b d).1
 done:=by
  intro X hP hw hK r i tx s σ H E I Q st hg;subst hP hw hK;let#[xs,n,hx]:=hg;let#[its,rv,p]:=j.seq I n;let#[G,g,#[a,b',l],h1,h2]:=st;have n1:∀c∈[z,TI,TO,i1,i2],J≠c:=λc r=>uD n (Q c r).1
  have Z:NM z TI TO i1 i2 [i1,J] [i2]:=#[d1,d2,W,Y,d5,d6,d7,d8,d9,m,by simp [Ne.symm W,Ne.symm (n1 z (by simp))],by simp [Ne.symm Y],by simp [d8,Ne.symm (n1 TO (by simp))],by simp [d9],by simp [Ne.symm m,Ne.symm (n1 i2 (by simp))],by simp [m]]
  have hl:its.toArray.size=i:=by rw[JC,<- rv.length];exact hx
  have hT:s.TypeIs (-z) "zip":=#[_,G,rfl]
  unfold pyNext;refine Ja (Gu (wpAny_callSpecial?_slot (name:=Str.ofString "__next__") hT IA
   (J9 IA hT F.entry_zip_next
    (yu (j.dr (A:=X.A.in1) (I.ok.hd r) i1 J (n1 i1 (by simp)) its.toArray) Z G g #[by rw[hl];exact h1,p] λh' e hk he=>?_) (F.args_zip_next_1 _))))
  let#[o,ho,b5]:=he;refine Ja (wpAny_isInstance (T:="StopIteration") (b:=true) #[o,ho,b5] isSubtype_stop ?_)
  refine Ji #[rfl,Bp (t':=s.toks) I (ch:=[z,i1]) (λb o d e=>?_) (λb d=>Q b ?_)]
  .simp only[Jh,Jr,Js,not_or]at d
   exact hk b o d.1 d.2 e
  .simp only[Jh,Jr,Js]at d
   rcases d with rfl|rfl<;>simp
 self:=λ_ _ _ _ _ st h=>wpAny_pyIter_zip st.1 h
noncomputable def AO(O:Β->HO)(ta:TA):TI:=λσ H R=>ta σ H λd H1=>∃a c xs ys,d=[-a,-c]/\Rd H1 a (O xs)/\Rd H1 c (O ys)/\R (xq O a c) H1
theorem Bn(o:PX O IT IS){a b:Φ}{ta:TA}{p pos:Pos}{f:Ι}{x1}{tpos:Pos}(hg:Gl X "zip")(hm:X.mg "zip"=none)(ha:PA X [a,b] ta)(h1:ba a=true:=by rfl)(w:ba b=true:=by rfl):
  PI X (.Tuple f x1 tpos) (.Call (.Name "zip" p) [a,b] [] pos) (AO O ta):=by
 intro tx s σ H R I h;have g:θ [b] X.env=[(false,eval b X.env)]:=dv w
 refine Call_ (bJ I hg hm PyProof.Rows.boot_zip (Ge (qK (ha pos tx s σ H _ I h) λS c B=>?_) (by rw[dv h1,g]) (by rw[g];rfl)))
 let#[Q,H1,m,P,L]:=B;let#[G,D,xs,ys,e,F,J,q]:=L;subst e;let#[u,v,rfl,K,E]:=P.two;cases K;cases E;let#[C,M,A]:=o.seq m F;let#[y,N,p2]:=o.seq m J;have d:∀(n i j:Nat),i≠j->n+i≠n+j:=λn i j h=>by lia
 refine o.call A p2 λh' x r t h1 w hk=>wpAny_pyIter_zip x ?_
 refine#[c.heap.objs.size+4,[c.heap.objs.size+4,c.heap.objs.size+2,c.heap.objs.size+3,c.heap.objs.size,c.heap.objs.size+1],8,H1,Z,m.kept (t':=c.toks) hk,
  wf o G D (c.heap.objs.size+4) (c.heap.objs.size+2) (c.heap.objs.size+3) c.heap.objs.size (c.heap.objs.size+1) (d _ 2 4 ⋯) (d _ 3 4 ⋯) (d _ 0 4 ⋯) (d _ 1 4 ⋯) (d _ 2 3 ⋯) (d _ 2 0 ⋯) (d _ 2 1 ⋯) (d _ 3 0 ⋯) (d _ 3 1 ⋯) (d _ 0 1 ⋯),#[x,r,#[8,t],h1,w],λb z=>?_,q]
 have l:c.heap.objs.size<=b:=by
  simp only[Jh,Jr,Js]at z;rcases z with rfl|rfl|rfl|rfl|rfl
  .exact IB _ 4
  .exact IB _ 2
  .exact IB _ 3
  .exact Jf _
  .exact IB _ 1
 exact m.fpOk l (m.hok.fresh l)
theorem sH(e:PX O IT IS){b:Φ}{x1}(hg:Gl X "zip")(hm:X.mg "zip"=none)(ha:QA X [a,b] ta)(h1:ba a=true:=by rfl)(d:ba b=true:=by rfl):
  QI X (.Tuple c x1 tpos) (.Call (.Name "zip" p) [a,b] [] pos) (AO O ta):=#[Bn e hg hm ha.h h1 d]
end
theorem nj{K:ι}(A:xs.length=ys.length)(hn:xs.length<=ζ)(Pv:Nat->Β->Hp->Prop)(u:Pv 0 [] H)(hk:∀i a H,Pv i a H->Rd H h (O xs)/\Rd H q (O ys))(hs:∀i a H p x y,xs[i]? =↑x->ys[i]? =↑y->a.length=i->Pv i a H->H p=none->te (↑x::↑y::aQ js σ) (HI H p (.tup [x,y])) λv H3=>Pv (i+1) (a++[v]) H3)(r:∀a H,a.length=xs.length->Pv xs.length a H->∀p,H p=none->Q (-p) (HI H p (.lst a))):
  uA 2 js (uz K 2 (uI (cX 0) (uI (cX 1) Cy))) te σ Q (xq O h q) H:=by
 exists λi m a n H=>m=xs.length-i/\i<=xs.length/\a.length=i/\Pv i a H/\∃o o',n=o::o'::aQ js σ,#[xs.length,by simp,JL _,Z,u,none,none,Z]
 rintro i m a n H ⟨rfl,hi,c,p,o,o',rfl⟩
 let#[g,j]:=hk i a H p
 by_cases f:i<xs.length
 .have d:i<ys.length:=by lia
  refine .inr #[#[xs,ys,xs[i],ys[i],g,j,by simp [f],by simp [d]],by lia,λv H' y=>?_]
  let#[l,x,y,t,rfl,s,w,rfl]:=y;exists l,0,HQ.of qb,11
  exact#[λv H3=>Pv (i+1) (a++[v]) H3,λv H3 z=>#[xs.length-(i+1),by lia,Z,f,by simp [c],z,6],hs i a _ l x y (s xs g) (w ys j) c p t]
 .have e:i=xs.length:=by lia
  subst e;exact .inl #[#[xs,g,Z],r a H c p]
end L3
namespace Lw
open PySem L2 L3
section
variable{P:Ξ}{w:Ω}{K:ι}{mg:HE}{base:Ψ}{tk:Nat->Tok}
theorem jB(a:At K mg "_law_same" cr ["_law_found","_law_due_here"])(T:Ld K mg tk):∀n:Nat,n<=8->Df P w K mg base "_law_same" u0 (n+1) (Pa n)
 |0,_=>by
  refine a.dq ei λf _ A _ s H I Q E D h=>?_
  .let#[x,y,rfl,e,q]:=h
   exists _,(qg (qC (zW (qq ig T.b_isinstance Jz (qc qB (qc (qM (qc (za (v:= .ty "list") Z T.b_list JZ Z) (qc (za (v:= .ty "tuple") Z T.b_tuple JB Z) qa))) qa)))) Qz qr)
   (qg (qC (QW.pt (Q7 (qw aV qB zo (qz _)) (Q4 (zW (qq zh T.b_isinstance Jz (qc qB (qc (za (v:= .ty "str") Z T.b_str FE Z) qa))))))) (qh (qp (Qj (Qf qV ql qB (qz _)) (QD (Qf qV (qq zh T.b_isinstance Jz (qc ql (qc (za (v:= .ty "str") Z T.b_str FE Z) qa))) (qq zh T.b_isinstance Jz (qc qB (qc (za (v:= .ty "str") Z T.b_str FE Z) qa))) (qz _)))))) qr)
   (qh (qp (Qj (qq zh T.b_isinstance Jz (qc ql (qc (za (v:= .ty "int") Z T.b_int Gb Z) qa))) (Qj (iO (qq zh T.b_isinstance Jz (qc ql (qc (za (v:= .ty "bool") Z T.b_bool Iz Z) qa)))) (QD (Qf qV ql qB (qz _)))))))))
   cases e with
   |int _ i=>
    refine#[0,Hj,λp g=>#[_,p,["list","tuple"],"int",Z,qb,.int i,by simp,0,?_]]
    rw[show(["list","tuple"].any (Qo "int"))=false from by decide]
    refine zx #[2,?_]
    refine qO (λz=>nomatch (Jv z)) (λ_=>#[10,"str","int",Z,.int i,by simp,0,?_])
    rw[show Qo "int" "str"=false from by decide]
    refine zx #[10,"int","int",Z,.int i,by simp,0,?_]
    rw[show Qo "int" "int"=true from by decide]
    refine Qa #[10,"bool","int",Z,.int i,by simp,0,?_]
    rw[show Qo "int" "bool"=false from by decide]
    refine#[0,Qa #[48,?_]]
    rw[Je Z];exact q _ (HG.upd g)
   |str _ z=>
    refine#[0,Hj,λp g=>#[_,p,["list","tuple"],"str",Z,qb,.str z,by simp,0,?_]]
    rw[show(["list","tuple"].any (Qo "str"))=false from by decide]
    refine zx #[2,?_]
    refine qO (λz=>nomatch (Jv z)) (λ_=>#[10,"str","str",Z,.str z,by simp,0,?_])
    rw[show Qo "str" "str"=true from by decide]
    refine Qa #[20,?_]
    refine qO (λ_=>?_) (λy=>absurd (Je Z) y)
    exists 10,"str","str",Z,.str z,by simp,10,"str","str",Z,.str z,by simp,Z
    rw[Je Z];exact q _ (HG.upd g)
   |non _=>
    refine#[0,Hj,λp g=>#[_,p,["list","tuple"],"NoneType",Z,qb,.non,by simp,0,?_]]
    rw[show(["list","tuple"].any (Qo "NoneType"))=false from by decide]
    refine zx #[2,?_]
    refine qO (λ_=>#[20,?_]) (λz=>absurd (Je Z) z)
    refine qO (λ_=>?_) (λy=>absurd (Je Z) y)
    exists 10,"str","NoneType",Z,.non,by simp,10,"str","NoneType",Z,.non,by simp,Z
    rw[Je Z];exact q _ (HG.upd g)
 |n+1,hn=>by
  have G:=jB a T n (by lia)
  refine a.dq ei λf _ A _ s H I Q E D h=>?_
  .let#[x,y,rfl,e,q]:=h
   exists _,(qg (qC (zW (qq ig T.b_isinstance Jz (qc qB (qc (qM (qc (za (v:= .ty "list") Z T.b_list JZ Z) (qc (za (v:= .ty "tuple") Z T.b_tuple JB Z) qa))) qa)))) (qg (qC (QW.pt (Q7 (qw bu (qq zh T.b_isinstance Jz (qc ql (qc (za (v:= .ty "list") Z T.b_list JZ Z) qa))) (qq zh T.b_isinstance Jz (qc qB (qc (za (v:= .ty "list") Z T.b_list JZ Z) qa))) (qz _)) (Q4 (qw bu (qq zh T.b_isinstance Jz (qc ql (qc (za (v:= .ty "tuple") Z T.b_tuple JB Z) qa))) (qq zh T.b_isinstance Jz (qc qB (qc (za (v:= .ty "tuple") Z T.b_tuple JB Z) qa))) (qz _))))) (qh (qp Q0)) qr)
   (qh (qp (Qj (Qf qV (qq qL T.b_len JE (qc ql qa)) (qq qL T.b_len JE (qc qB qa)) (qz _)) (QD (qq (bL Z) T.b_all GY (qc (QR (own:=["_law_one","_law_other"]) (fr:=[]) (js:=[]) Z (sH Fm Z T.b_zip (qc ql (qc qB qa))) Z (λ_ _ h=>nomatch h) Z (iy Z nofun nofun nofun) (λ_ _ _ _=>tm (K:=K) Z 2 Z (qQ (qD 0 (show List.Nodup (["_law_one","_law_other"]:Α)from by decide +kernel) Z (Or.inl Z) (.inr Z)) (qQ (qD 1 (show List.Nodup (["_law_one","_law_other"]:Α)from by decide +kernel) Z (Or.inl Z) (.inr Z)) Qu))) (λ_ _ _ _=>(qy G D.mo (qc ql (qc qB qa))))) qa))))))) qr)
   (qg (qC (QW.pt (Q7 (qw aV qB zo (qz _)) (Q4 (zW (qq zh T.b_isinstance Jz (qc qB (qc (za (v:= .ty "str") Z T.b_str FE Z) qa))))))) (qh (qp (Qj (Qf qV ql qB (qz _)) (QD (Qf qV (qq zh T.b_isinstance Jz (qc ql (qc (za (v:= .ty "str") Z T.b_str FE Z) qa))) (qq zh T.b_isinstance Jz (qc qB (qc (za (v:= .ty "str") Z T.b_str FE Z) qa))) (qz _)))))) qr)
   (qh (qp (Qj (qq zh T.b_isinstance Jz (qc ql (qc (za (v:= .ty "int") Z T.b_int Gb Z) qa))) (Qj (iO (qq zh T.b_isinstance Jz (qc ql (qc (za (v:= .ty "bool") Z T.b_bool Iz Z) qa)))) (QD (Qf qV ql qB (qz _)))))))))
   cases e with
   |int _ i=>
    refine#[0,Hj,λp g=>#[_,p,["list","tuple"],"int",Z,qb,.int i,by simp,0,?_]]
    rw[show(["list","tuple"].any (Qo "int"))=false from by decide]
    refine zx #[2,?_]
    refine qO (λz=>nomatch (Jv z)) (λ_=>#[10,"str","int",Z,.int i,by simp,0,?_])
    rw[show Qo "int" "str"=false from by decide]
    refine zx #[10,"int","int",Z,.int i,by simp,0,?_]
    rw[show Qo "int" "int"=true from by decide]
    refine Qa #[10,"bool","int",Z,.int i,by simp,0,?_]
    rw[show Qo "int" "bool"=false from by decide]
    refine#[0,Qa #[48,?_]]
    rw[Je Z];exact q _ (HG.upd g)
   |str _ z=>
    refine#[0,Hj,λp g=>#[_,p,["list","tuple"],"str",Z,qb,.str z,by simp,0,?_]]
    rw[show(["list","tuple"].any (Qo "str"))=false from by decide]
    refine zx #[2,?_]
    refine qO (λz=>nomatch (Jv z)) (λ_=>#[10,"str","str",Z,.str z,by simp,0,?_])
    rw[show Qo "str" "str"=true from by decide]
    refine Qa #[20,?_]
    refine qO (λ_=>?_) (λy=>absurd (Je Z) y)
    exists 10,"str","str",Z,.str z,by simp,10,"str","str",Z,.str z,by simp,Z
    rw[Je Z];exact q _ (HG.upd g)
   |non _=>
    refine#[0,Hj,λp g=>#[_,p,["list","tuple"],"NoneType",Z,qb,.non,by simp,0,?_]]
    rw[show(["list","tuple"].any (Qo "NoneType"))=false from by decide]
    refine zx #[2,?_]
    refine qO (λ_=>#[20,?_]) (λz=>absurd (Je Z) z)
    refine qO (λ_=>?_) (λy=>absurd (Je Z) y)
    exists 10,"str","NoneType",Z,.non,by simp,10,"str","NoneType",Z,.non,by simp,Z
    rw[Je Z];exact q _ (HG.upd g)
   | @tup _ c d xs ys h1 h2 hl hz hi=>
    refine#[0,Hj,λp g=>#[_,p,["list","tuple"],"tuple",Z,qb,.tup (Rd.same (HG.upd g) h2),by simp,0,?_]]
    rw[show(["list","tuple"].any (Qo "tuple"))=true from by decide]
    have B:HG H _:=HG.upd (o:= .tup (["list","tuple"].map V.ty)) g
    have k1:=Rd.same B h1;have k2:=Rd.same B h2;refine Qa #[10,"list","tuple",Z,.tup k1,by simp,10,"list","tuple",Z,.tup k2,by simp,7,?_]
    refine fK Z #[10,"tuple","tuple",Z,.tup k1,by simp,10,"tuple","tuple",Z,.tup k2,by simp,7,?_]
    refine fK Z ?_
    exists 0,c,0,.inr (.inl k1),0,d,0,.inr (.inl k2),7
    refine qO (λ_=>?_) (λz=>absurd (Je (by rw[hl])) z)
    refine#[3,c,d,xs,ys,Z,k1,k2,nj (O:= .tup) hl hz (λi l m=>l=(List.replicate i true).map V.bl/\HG H m) #[Z,B] (λi l m ⟨_,j⟩=>#[Rd.same j h1,Rd.same j h2]) ?_ ?_]
    .rintro i l m M x y F L u ⟨rfl,j⟩ r
     have C:=j.trans (HG.upd (o:= .tup [x,y]) r)
     refine#[3,x,y,Z,(hi i x y F L).same C,λN J=>#[?_,C.trans J]]
     rw[List.replicate_succ',JG];rfl
    .rintro l m u ⟨rfl,j⟩ p2 t
     exists p2,0,HP.of qb
     rw[show(List.replicate xs.length true).all id=true from by simp]
     exact q _ (j.trans (HG.upd t))
theorem rH(a:At K mg "_law_same" cr ["_law_found","_law_due_here"])(T:Ld K mg tk)(n:Nat)(J:Df P w K mg base "_law_same" u0 (n+1) (Pa n)):Df P w K mg base "_law_same" u0 (n+2) (OP n):=by
 refine a.dq ei λf _ A _ s H R Q E I h=>?_
 .let#[c,d,xs,ys,rfl,h1,t,B,G,hi,q]:=h
  exists _,(qg (qC (zW (qq ig T.b_isinstance Jz (qc qB (qc (qM (qc (za (v:= .ty "list") Z T.b_list JZ Z) (qc (za (v:= .ty "tuple") Z T.b_tuple JB Z) qa))) qa)))) (qg (qC (QW.pt (Q7 (qw bu (qq zh T.b_isinstance Jz (qc ql (qc (za (v:= .ty "list") Z T.b_list JZ Z) qa))) (qq zh T.b_isinstance Jz (qc qB (qc (za (v:= .ty "list") Z T.b_list JZ Z) qa))) (qz _)) (Q4 (qw bu (qq zh T.b_isinstance Jz (qc ql (qc (za (v:= .ty "tuple") Z T.b_tuple JB Z) qa))) (qq zh T.b_isinstance Jz (qc qB (qc (za (v:= .ty "tuple") Z T.b_tuple JB Z) qa))) (qz _))))) (qh (qp Q0)) qr)
   (qh (qp (Qj (Qf qV (qq qL T.b_len JE (qc ql qa)) (qq qL T.b_len JE (qc qB qa)) (qz _)) (QD (qq (bL Z) T.b_all GY (qc (QR (own:=["_law_one","_law_other"]) (fr:=[]) (js:=[]) Z (sH Fn Z T.b_zip (qc ql (qc qB qa))) Z (λ_ _ h=>nomatch h) Z (iy Z nofun nofun nofun) (λ_ _ _ _=>tm (K:=K) Z 2 Z (qQ (qD 0 (show List.Nodup (["_law_one","_law_other"]:Α)from by decide +kernel) Z (Or.inl Z) (.inr Z)) (qQ (qD 1 (show List.Nodup (["_law_one","_law_other"]:Α)from by decide +kernel) Z (Or.inl Z) (.inr Z)) Qu))) (λ_ _ _ _=>(qy J I.mo (qc ql (qc qB qa))))) qa))))))) qr)
   (qg (qC (QW.pt (Q7 (qw aV qB zo (qz _)) (Q4 (zW (qq zh T.b_isinstance Jz (qc qB (qc (za (v:= .ty "str") Z T.b_str FE Z) qa))))))) (qh (qp (Qj (Qf qV ql qB (qz _)) (QD (Qf qV (qq zh T.b_isinstance Jz (qc ql (qc (za (v:= .ty "str") Z T.b_str FE Z) qa))) (qq zh T.b_isinstance Jz (qc qB (qc (za (v:= .ty "str") Z T.b_str FE Z) qa))) (qz _)))))) qr)
   (qh (qp (Qj (qq zh T.b_isinstance Jz (qc ql (qc (za (v:= .ty "int") Z T.b_int Gb Z) qa))) (Qj (iO (qq zh T.b_isinstance Jz (qc ql (qc (za (v:= .ty "bool") Z T.b_bool Iz Z) qa)))) (QD (Qf qV ql qB (qz _)))))))))
  refine#[0,Hj,λp D=>#[_,p,["list","tuple"],"list",Z,qb,.lst (HG.upd D _ _ t),by simp,0,?_]]
  rw[show(["list","tuple"].any (Qo "list"))=true from by decide]
  have r:HG H _:=HG.upd (o:= .tup (["list","tuple"].map V.ty)) D
  have k1:=r _ _ h1;have k2:=r _ _ t;refine Qa #[10,"list","list",Z,.lst k1,by simp,10,"list","list",Z,.lst k2,by simp,7,?_]
  refine fK Z #[10,"tuple","list",Z,.lst k1,by simp,10,"tuple","list",Z,.lst k2,by simp,7,?_]
  refine fK Z ?_
  exists 0,c,0,.inl (HP.of k1),0,d,0,.inl (HP.of k2),7
  refine qO (λ_=>?_) (λz=>absurd (Je (by rw[B])) z)
  refine#[3,c,d,xs,ys,Z,.inl k1,.inl k2,nj (O:= .lst) B G (λi j g=>j=(List.replicate i true).map V.bl/\HG H g) #[Z,r] (λi j g ⟨_,e⟩=>#[.inl (e _ _ h1),.inl (e _ _ t)]) ?_ ?_]
  .rintro i j g N x y F M l ⟨rfl,e⟩ u
   have C:=e.trans (HG.upd (o:= .tup [x,y]) u)
   refine#[3,x,y,Z,(hi i x y F M).same C,λS L=>#[?_,C.trans L]]
   rw[List.replicate_succ',JG];rfl
  .rintro j g l ⟨rfl,e⟩ p2 m
   exists p2,0,HP.of qb
   rw[show(List.replicate xs.length true).all id=true from by simp]
   exact q _ (e.trans (HG.upd m))
end
end Lw
namespace L3
open PySem PySem.Spec PyProof.Rows L2
theorem aW(h:∀D':Lr,(∀a H',u D a H'->D'.nx a H')->t D' σ H):jM t u D σ H:=h {D with nx:=u D} λ_ _ h=>h
end L3
namespace Lw
open PySem L2 L3
section
variable{tk:Nat->Tok}
theorem pG(a:At K mg "_law_shown" eA ["_law_house","_law_own_here"])(T:Ld K mg tk)(U:MK K C)(UB:MD K CB)(N:LS K CD)(yN:Mf P w K mg base C "kept_now" v1 1 (ON K CB CD C))(xZ:Mf P w K mg base C "button_now" Y4 2 (ND K CB CD C))(yL:Mf P w K mg base C "door_now" Y8 4 (Nj K CB CD C))(yD:Mf P w K mg base C "opened_by" Y8 2 (NF K CB CD C))(dC:Mf P w K mg base CB "age_now" v1 1 (ME K CB))(dD:Mf P w K mg base CB "count_now" v1 1 (L4 K CB))(dR:Mf P w K mg base CB "cells_now" v1 1 (Na K CB))(dJ:Mf P w K mg base CD "known_now" v1 1 (MQ K CD))(yB:Mf P w K mg base CD "log_now" v1 1 (O0 K CD))(xG:Mf P w K mg base CD "closed_now" v1 1 (Ny K CD))(xT:Mf P w K mg base CD "keys_now" v1 1 (OH K CD))(zV:∀n:Nat,n<=8->Df P w K mg base "_law_same" u0 (n+1) (Pa n))(zE:Df P w K mg base "_law_same" u0 6 (OP 4)):Df P w K mg base "_law_shown" ["_law_house","_law_own_here"] 7 (NJ K CB CD C):=by
 have dI:=zV 3 ⋯
 refine a.dq Lq λf _ A _ s H vs Q E c h=>?_
 .let#[aH,aO,S,n,rfl,D,ok,n9,q]:=h
  exists _,(qg (qC (Qg (zW (qy dI c.mo (qc (qW yN U.cl c.mo ql) (qc (qI zf T.b_tuple JB (qc (qH c qB qi) qa)) qa))))) (qh (qp Q0)) qr)
   (qg (eW (Qs J0 Z (oX (nJ (qH c qB qi))) (cU Z (qQ (qD 2 Lq.nd) (qQ (qD 3 Lq.nd) Qu)))
   (qh (qC (Qg (zW (qy dI c.mo (qc (zc xZ U.cl c.mo ql (qc qJ qa)) (qc (qM (qc (qW dC UB.cl c.mo qP) (qc (qW dD UB.cl c.mo qP) (qc (qW dR UB.cl c.mo qP) qa)))) qa))))) (qh (qp Q0)) qr))))
   (qg (eW (Qs J0 Z (oX (nJ (qH c qB qi))) (cU Z (qQ (qD 2 Lq.nd) (qQ (qD 4 Lq.nd) Qu)))
   (qg (qG 5 Lq.nd (zc yL U.cl c.mo ql (qc qJ qa)))
   (qg (qC (Qg (zW (qy dI c.mo (qc (zc yD U.cl c.mo ql (qc qJ qa)) (qc (qI zf T.b_tuple JB (qc (qH c (qH c qB qi) qJ) qa)) qa))))) (qh (qp Q0)) qr)
   (qg (qC (Qg (zW (qy zE c.mo (qc (zp (qc (qW dJ N.cl c.mo Qw) (qc (qW yB N.cl c.mo Qw) qa))) (qc (zp (qc (qW dJ N.cl c.mo Qk) (qc (qW yB N.cl c.mo Qk) qa))) qa))))) (qh (qp Q0)) qr)
   (qh (qC (QW.pt (Q7 (qw bu (qW xG N.cl c.mo Qw) (qW xG N.cl c.mo Qk) (qz _)) (Q4 (qw (Cq c) (qW xT N.cl c.mo Qw) (qW xT N.cl c.mo Qk) (qz _))))) (qh (qp Q0)) qr)))))))
   (qh (qp Q0)))))
  have nk:=ok.nk;refine aW λD1 y1=>?_
  refine#[0,aH.ma,Z,D.hh.no,aH,S,Z,D.hh,λq1 H1 s1 k1=>?_]
  have w1:=D.same s1;let#[as,ek,lk,rk]:=id w1.oo.at_.kl;refine#[0,aO.ma,0,w1.oo.g_kept,aO.kl,0,.inl #[HP.of ek,λq2 c1=>?_]]
  have u2:=HG.upd (o:= .tup (as.map V.ref)) c1
  have f4:O1 (HI H1 q2 (.tup (as.map V.ref))) q1 S.kp:=by
   let#[bs,e,l,r]:=k1
   exact#[bs,u2 _ _ e,l,λi a P h1 h2=>Ln.same u2 (r i a P h1 h2)]
  refine#[6,f4.eqv #[as,qb,lk,λi a P h1 h2=>Ln.same u2 (rk i a P h1 h2)] ok.kp (by lia),λH3 s3=>#[0,zx (y1 _ _ (aW λD2 y2=>?_))]]
  have S3:=(s1.trans u2).trans s3;have w3:=D.same S3;refine#[0,aO.ma,0,w3.oo.g_buttons,aO.bd,18,w3.oo.at_.bd,λpv b1=>#[pv,aO.bd,0,qb,HG.upd b1 _ _ w3.oo.at_.bd,λo=>?_]]
  have M:=HG.upd (o:=oM pv aO.bd) b1
  have m:=w3.same M;generalize HI H3 pv (oM pv aO.bd)=v at M m⊢
  let#[ow,L]:=m.oo.at_.ow;have mf:Mv [aO.bd] v (HI v aO.bd (.frz o (.dK (zw Mw.nm (λx=> .ref x.p) aO.bs)))):=Mv.upd1
  have nf:NT [aO.bd] v:=NT.one m.oo.at_.bd trivial
  have hf:=m.hh.mv mf nf (λz F q=>m.dj z F (Jg.mp q▸lv))
  have bf:∀(i:Nat) (u:Mw) (B:Bt),aO.bs[i]? =↑u->S.bs[i]? =↑B->M3 K CB (HI v aO.bd (.frz o (.dK (zw Mw.nm (λx=> .ref x.p) aO.bs)))) u B:=λi u B X hB=>(m.oo.at_.be i u B X hB).mv mf nf (zv (λz=>by have:=L.bp i u X;rw[z,L.bd]at this;cases this)) (zv (λz=>by have:=L.bc i u X;rw[z,L.bd]at this;cases this))
  refine mT (Pv:=λi σ Hx=>HG (HI v aO.bd (.frz o (.dK (zw Mw.nm (λx=> .ref x.p) aO.bs)))) Hx/\∃W o3 o4 R,σ=[↑(-aH.ma),↑(-aO.ma),W,o3,o4,R]) #[HG.refl _,25] (λi σ Hx h=>h.1 _ _ qb) ?_ ?_
  .rintro i kv pp σ Hx a3 ⟨J,W,o3,o4,R,rfl⟩ Y
   let#[u,X,rfl]:=Ej a3;have c0:i<S.bs.length:=by rw[<- D.oo.blen];exact(Jt.mp X).1
   have hB:=Jk c0;let#[ta,ka,b]:=bf i u _ X hB;have I:qX S.bn u.nm=↑i:=rg ok.ub (by rw[<- D.oo.at_.bn,Jp,X];rfl)
   have up:=HG.upd (o:= .tup [V.str u.nm,-u.p]) Y
   have sp:=J.trans up;have G:=hf.same sp;have bx:=b.same sp;exists pp,0,HQ.of qb,11
   refine#[0,aH.ma,Z,G.no,0,aH,S,u.nm,i,0,G,I,hB,λq5 c5 H5 s5 d2 e6=>?_]
   have b5:=bx.same s5;refine#[0,u.p,Z,b5.no,u.p,ta,ka,u.ce,0,b5,0,u.p,Z,b5.no,u.p,ta,ka,u.ce,0,b5,0,u.p,Z,b5.no,u.p,ta,ka,u.ce,0,b5,λc6 H6 s6 d7=>#[Hn,λq6 e0=>?_]]
   have u6:=HG.upd (o:= .tup [.int S.bs[i].age,.int S.bs[i].cnt,-c6]) e0
   have S6:=s6.trans u6
   exact#[6,Br (S6 _ _ d2) (S6 _ _ e6) qb (u6 _ _ d7),λH7 s7=>#[0,zx #[sp.trans (s5.trans (S6.trans s7)),25]]]
  rintro σ Hx ⟨J,W,o3,o4,R,rfl⟩
  have ex:=J _ _ (qb (H:=v) (a:=aO.bd) (o:= .frz o (.dK (zw Mw.nm (λx=> .ref x.p) aO.bs))))
  exists aO.bd,o,_,ex,λo' u' q=>by(have q:H aO.bd=↑(.frz o' u'):=q;rw[D.oo.at_.bd]at q;cases q)
  have S5:HG H (HI Hx aO.bd (.dK (zw Mw.nm (λx=> .ref x.p) aO.bs))):=nK D.oo.at_.bd (S3.trans M) J
  have w5:=D.same S5;generalize HI Hx aO.bd (.dK (zw Mw.nm (λx=> .ref x.p) aO.bs))=H5 at S5 w5⊢
  clear hf bf mf nf J ex m M;refine y2 _ _ (aW λD3 y3=>?_)
  refine#[0,aO.ma,0,w5.oo.g_doors,aO.dd,18,w5.oo.at_.dd,λpw b2=>#[pw,aO.dd,0,qb,HG.upd b2 _ _ w5.oo.at_.dd,λo'=>?_]]
  have M:=HG.upd (o:=oM pw aO.dd) b2
  have m:=w5.same M;generalize HI H5 pw (oM pw aO.dd)=v at M m⊢
  have mf:Mv [aO.dd] v (HI v aO.dd (.frz o' (.dK (zw Lx.nm (λx=> .ref x.a.p) aO.ds)))):=Mv.upd1
  have nf:NT [aO.dd] v:=NT.one m.oo.at_.dd trivial
  have hf:=m.hh.mv mf nf (λz F q=>m.dj z F (Jg.mp q▸b8))
  have df:∀(i:Nat) (z:Lx) (y:Dh),aO.ds[i]? =↑z->S.ds[i]? =↑y->Lc K CD (HI v aO.dd (.frz o' (.dK (zw Lx.nm (λx=> .ref x.a.p) aO.ds)))) z.a y.D y.L/\mG (HI v aO.dd (.frz o' (.dK (zw Lx.nm (λx=> .ref x.a.p) aO.ds)))) z.ol y.op:=λi z y F hy=>by
   let#[d,p]:=m.oo.at_.de i z y F hy;have nd:∀t∈dS z.a,t∉[aO.dd]:=λt ht q=>by have:=L.dr i z F t ht;rw[Jg.mp q,L.dd]at this;cases this
   exact#[d.mv mf nf (nd _ (gf _)) (nd _ (fL _)) (nd _ (gB _)) (nd _ (cf _)),mf _ _ (zv (λt=>by have:=L.ol i z F;rw[t,L.dd]at this;cases this)) p]
  have qf:(HI v aO.dd (.frz o' (.dK (zw Lx.nm (λx=> .ref x.a.p) aO.ds)))) aO.ma=↑(.dK (Zs aO S.least)):=by rw[qk m.oo.mne];exact m.oo.mn
  have of:(HI v aO.dd (.frz o' (.dK (zw Lx.nm (λx=> .ref x.a.p) aO.ds)))) aO.od=↑(.dK (zw Lx.nm (λx=> .ref x.ol) aO.ds)):=by rw[qk m.oo.dne.symm];exact m.oo.at_.od
  refine mT (Pv:=λi σ Hx=>HG (HI v aO.dd (.frz o' (.dK (zw Lx.nm (λx=> .ref x.a.p) aO.ds)))) Hx/\∃W o3 o4 R,σ=[↑(-aH.ma),↑(-aO.ma),W,o3,o4,R]) #[HG.refl _,25] (λi σ Hx h=>h.1 _ _ qb) ?_ ?_
  .rintro i kv pp σ Hx a3 ⟨J,W,o3,o4,R,rfl⟩ Y
   let#[z,F,rfl]:=AI a3;have c2:i<S.ds.length:=by rw[<- D.oo.dlen];exact(Jt.mp F).1
   have hy:=Jk c2;let#[dl,op]:=df i z _ F hy;have hd:=ok.dr _ (Jo hy);have I:qX S.dn z.nm=↑i:=rg ok.un (by rw[<- D.oo.at_.dn,Jp,F];rfl)
   have up:=HG.upd (o:= .tup [V.str z.nm,-z.a.p]) Y
   have sp:=J.trans up;refine#[pp,0,HQ.of qb,11,aW λD4 y4=>?_]
   have G:=hf.same sp;refine#[0,aH.ma,Z,G.no,0,aH,S,n,z.nm,i,0,G,ok,I,hy,λda H6 s6 d6=>y4 _ _ (aW λD5 y5=>?_)]
   have a2:=sp.trans s6;have a5:=hf.same a2;refine#[0,aH.ma,Z,a5.no,0,aH,S,z.nm,i,0,a5,I,hy,λq7 H7 s7 e4=>?_]
   have a0:=a2.trans s7;have g7:Lg H7 aO.od (.str z.nm) ↑(-z.ol):=by
    rcases jg (a0 _ _ of) z.nm with⟨e,_⟩|⟨i',x',e,b0,_,g⟩
    .exact absurd (JA.mpr #[z,Jo F,Z]) (Q5 e)
    .have e':qX S.dn z.nm=↑i':=by rw[<- D.oo.at_.dn];exact e
     rw[I]at e';cases e'
     rw[F]at b0;cases b0
     exact g
   refine#[0,aO.ma,0,uP (q:= .inr "opened") (a0 _ _ qf) 6 Z,0,aO.od,0,g7,z.ol,0,.inl #[HP.of (a0 _ _ op),λq8 e5=>?_]]
   have u8:=HG.upd (o:= .tup (S.ds[i].op.map λn:Nat=>V.int (n:Int))) e5
   have lo:=hd.lo;have ll:=hd.ll;refine#[6,(wK (n:=2) (u8 _ _ e4) qb (by lia)),λH9 s9=>#[0,zx (y5 _ _ (aW λD6 y6=>?_))]]
   have S9:=s7.trans (u8.trans s9);have b4:=a2.trans S9;have d9:=d6.same S9;have e9:=dl.same b4;have kl:=hd.ok.nl;refine#[0,da.p,Z,d9.dr.no,da.p,da.ta,da.hk,da.bd,da.lg,6,d9.dr,hd.ok,λk1 d3 Ha sa a1 d8 f1=>?_]
   have b3:=d9.same sa;refine#[0,da.p,Z,b3.dr.no,da,6,b3,λl1 Hb sb d4=>#[Hj,λx1 e3=>?_]]
   have O:=HG.upd (o:= .lst [-k1,-l1]) e3
   have Sb:=sa.trans (sb.trans O);have eb:=e9.same Sb;refine#[0,z.a.p,Z,eb.dr.no,z.a.p,z.a.ta,z.a.hk,z.a.bd,z.a.lg,6,eb.dr,hd.ok,λk2 c4 Hc sc f2 d0 b6=>?_]
   have ec:=eb.same sc;refine#[0,z.a.p,Z,ec.dr.no,z.a,6,ec,λl2 Hd sd b7=>#[Hj,λx2 e2=>?_]]
   have a4:=HG.upd (o:= .lst [-k2,-l2]) e2
   obtain rfl:d3=c4:=sE a1 d8 f2 d0
   have Sd:=sc.trans (sd.trans a4);refine#[x1,x2,6,Sd _ _ qb,qb,Z,Hj,λj x y ex ey=>?_,λHe se=>#[0,zx (y6 _ _ ?_)]]
   .match j,ex,ey with
    |0,ex,ey=>cases ex;cases ey;exact(vo ((f1.same (sb.trans O)).same Sd) (b6.same (sd.trans a4)) (λnm h=>a1.mem_iff.mp h) (by rw[a1.length_eq,Jb];exact kl)).up
    |1,ex,ey=>cases ex;cases ey;exact(d4.same (O.trans Sd)).eqv (b7.same a4) (by lia)
    |j+2,ex,ey=>cases ex
   have Se:=Sb.trans (Sd.trans se);have de:=d9.same Se;have ee:=e9.same Se;refine#[0,da.p,Z,de.dr.no,da.p,da.ta,da.hk,da.bd,da.lg,6,de.dr,0,z.a.p,Z,ee.dr.no,z.a.p,z.a.ta,z.a.hk,z.a.bd,z.a.lg,6,ee.dr,7,zz (by rw[Je Z];rfl) ?_]
   refine#[0,da.p,Z,de.dr.no,da.p,da.ta,da.hk,da.bd,da.lg,6,de.dr,λt1 f6 Hg sg e1 d5 f3=>?_]
   have eg:=ee.same sg;refine#[0,z.a.p,Z,eg.dr.no,z.a.p,z.a.ta,z.a.hk,z.a.bd,z.a.lg,6,eg.dr,λt2 f5 Hi si f0 d1 c3=>?_]
   refine#[(2),⋯,xz (HG.sqt si e1) d5 (λi a ks h1 h2=>HG.sqt si (f3 i a ks h1 h2)) f0 d1 c3,0,zx #[b4.trans (Se.trans (sg.trans si)),25]]
  rintro σ Hx ⟨J,W,o3,o4,R,rfl⟩
  have ex:=J _ _ (qb (H:=v) (a:=aO.dd) (o:= .frz o' (.dK (zw Lx.nm (λx=> .ref x.a.p) aO.ds))))
  exists aO.dd,o',_,ex,λo' u' q=>by(have q:H aO.dd=↑(.frz o' u'):=q;rw[D.oo.at_.dd]at q;cases q)
  exact y3 _ _ (q _ (nK D.oo.at_.dd (S5.trans M) J))
end
section
variable{tk:Nat->Tok}
theorem jT(a:At K mg "_law_some_name" aS ["_law_box_here","_law_some","_law_other"])(T:Ld K mg tk)(J:Df P w K mg base "_law_take" u7 1 Mb):Df P w K mg base "_law_some_name" W9 2 Of:=by
 refine a.dq jI λf _ A _ s H X Q E v h=>?_
 .let#[b,l,F,o,c,rfl,U,hc,R,S,B,q]:=h
  exists _,(qg (qC (QW.pt (Q7 (qw (Dl v) qB (zp qa) (qz _)) (Q4 (qw qV (qy J v.mo (qc ql (qc qj qa))) qj (qz _))))) (qh (qp qJ)) qr)
   (qh (qp (qE qU (qq rQ T.b_sorted PyProof.Rows.boot_sorted (qc qB qa)) (qy J v.mo (qc ql (qc (qq qL T.b_len JE (qc qB qa)) qa)))))))
  refine#[0,Hf,λt y=>?_]
  have C:=HG.upd (o:= .lst []) y
  have j:=C.grc U;have M:(HI H t (.lst [])) t=↑(.lst []):=qb
  have e:=C _ _ R;generalize HI H t (.lst [])=H0 at C j M e⊢
  exists l,t,18,HP.of e,HP.of M
  cases F with
  |nil=>exact#[0,zZ Z (zZ Z #[0,q o H0 (j.mono (by lia))])]
  |cons s1 F=>
   refine#[0,zz Z ?_]
   refine#[0,b,(14),c,Z,j.bx,by lia,⋯,⋯,λr H1 W r1 p=>#[7,qO (λ_=>?_) (λ_=>?_)]]
   .exact#[0,q o H1 ((j.trans p).mono (by lia))]
   have i:=p.kp _ _ S e;refine#[0,l,s1::F,Z,i,B,λg d m pm _=>?_]
   have D:=HG.upd (o:= .lst (d.map V.str)) m
   have G:=(j.trans p).same D;have n2:g≠b:=zn p.bx m
   have L:(HI H1 g (.lst (d.map V.str))) g=↑(.lst (d.map V.str)):=qb
   have n:=D _ _ i;generalize HI H1 g (.lst (d.map V.str))=H2 at D G L n⊢
   have pl:=pm.length_eq;refine#[3,l,0,.inl (HP.of n),b,_,c+1,Z,G.bx,by lia,by rw[Jb,J7];lia,by rw[Jb];lia,λY H3 u z I=>?_]
   let#[x,N,O]:=ZG (xs:=d.map V.str) u (by rw[Jb]at z⊢;lia)
   let#[nm,_,rfl]:=JA.mp O
   exact#[g,1,HP.of (I.kp _ _ n2 L),N,q nm H3 (G.trans I)]
theorem kJ(a:At K mg "_law_new_name" bg ["_law_box_here","_law_word"])(T:Ld K mg tk)(D:Df P w K mg base "_law_take" u7 1 Mb):Df P w K mg base "_law_new_name" ["_law_box_here","_law_word"] 2 OQ:=by
 refine a.dq LK λf _ A _ s H S Q E F h=>?_
 .let#[b,e,c,rfl,m,U,q]:=h
  exists _,(qg (qG 2 LK.nd (zp (qc qi (qc qi (qc qi (qc qi (qc qi (qc qi (qc qi (qc qi (qc qi (qc qi (qc qi (qc qi qa))))))))))))))
   (qg (qC (qw qV qB qi (qz _)) (qh (qG 2 LK.nd (zp (qc qi (qc qi (qc qi (qc qi (qc qi (qc qi (qc qi (qc qi (qc qi (qc qi (qc qi (qc qi qa))))))))))))))) qr)
   (qh (qp (qE qU qJ (qy D F.mo (qc ql (qc qj qa))))))))
  refine#[HB,λp y=>?_]
  refine uH ?_
  refine jd (λj H'=>∃(l:Δ) (d:Α),MB b c H H'/\d.length=12/\(∀z∈d,ZE z)/\H' l=↑(.lst (d.map V.str))/\l≠b/\j=[↑(-b),↑(.str e),↑(-l)]) (λD' L i=>?_) ?_
  .have n:=HG.upd (o:= .lst ((["a","b","ab","ba","button","buttona","zzzzzzzz","key","c","d","e","f"]:Α).map V.str)) y
   refine#[2,qO (λ_=>?_) (λ_=>?_)]
   .refine#[HB,λp2 g=>i _ _ ?_]
    exact#[p2,["a","gate","gates","back","barn","buttonaa","dd","d","shed","attic","cellar","garage"],(n.grc m).same (HG.upd g),Z,pW nofun,qb,zn (n.grc m).bx g,Z]
   .exact i _ _ #[p,["a","b","ab","ba","button","buttona","zzzzzzzz","key","c","d","e","f"],n.grc m,Z,pW nofun,qb,zn m y,Z]
  rintro j H1 ⟨l,d,u,N,R,G,M,rfl⟩
  refine#[3,b,(12),c,Z,u.bx,by lia,⋯,⋯,λr J I O v=>?_]
  let#[x,B,C]:=ZG (xs:=d.map V.str) I (by rw[Jb,N];exact O)
  let#[nm,t,rfl]:=JA.mp C
  exact#[l,1,HP.of (v.kp _ _ M G),B,q nm J (u.trans v) (R nm t)]
theorem sC(a:At K mg "_law_deed" gc ["_law_box_here","_law_own_here","_law_words"])(T:Ld K mg tk)(v:Df P w K mg base "_law_take" u7 1 Mb)(xE:Df P w K mg base "_law_some_name" W9 2 Of)(yA:Df P w K mg base "_law_new_name" ["_law_box_here","_law_word"] 2 OQ)(dP:Df P w K mg base "_law_key" W3 2 lj):Df P w K mg base "_law_deed" X3 3 (N4 K CB CD QK):=by
 refine a.dq Lm λf _ A _ s H vs Q E g h=>?_
 .let#[b,wl,B,S,m,c,us,rfl,X,hc,nb,ho,hm,m6,hw,nw,w1,h6,f4,q]:=h
  exists _,(qg (qG 3 Lm.nd (qE qU qJ (qy v g.mo (qc ql (qc (qq qL T.b_len JE (qc qJ qa)) qa)))))
   (qg (qG 4 Lm.nd (qy xE g.mo (qc ql (qc (qI (gD rfl) T.b_list JZ (qc (qH g qB qi) qa)) (qc qi qa)))))
   (qg (qG 5 Lm.nd (qy xE g.mo (qc ql (qc (qI (gD rfl) T.b_list JZ (qc (qH g qB qi) qa)) (qc qi qa)))))
   (qg (qC (qw qV qP qi (qz _)) (qg (qG 6 Lm.nd (qE qU (zp (qc qj (qc qj (qc qj (qc qj qa))))) (qy v g.mo (qc ql (qc qj qa)))))
   (qh (qp (qM (qc qP (qc (qy yA g.mo (qc ql (qc qP qa))) (qc ar (qc (qF zt ar (qE qU (zp (qc qj (qc qj (qc qj (qc qj qa))))) (qy v g.mo (qc ql (qc qj qa))))) (qc (qF zt qj (qy v g.mo (qc ql (qc qj qa)))) qa))))))))) qr)
   (qg (qC (qw qV qP qi (qz _)) (qh (qp (qM (qc qP (qc (qy yA g.mo (qc ql (qc qP qa))) (qc (qE qU (zp (qc qj (qc qj (qc qj (qc qj (qc qj qa)))))) (qy v g.mo (qc ql (qc qj qa)))) qa)))))) qr)
   (qg (qC (qw bC qP (qM (qc qi (qc qi qa))) (by rfl)) (qh (qp (qM (qc qP (qc Qk (qc Qw qa)))))) qr)
   (qg (qC (qw qV qP qi (qz _)) (qg (sR (i:=7) Lm.nd rfl (Or.inl rfl) (own:=["_law_k"]) (fr:=["_law_own_here","_law_box_here"]) (js:=[1,0]) rfl (Zq rfl T.b_range (qc (qy v g.mo (qc ql (qc qj qa))) qa)) rfl (xg rfl rfl) rfl (wU rfl nofun nofun nofun rfl rfl rfl rfl rfl rfl) (λ_ _ _ _=>qD 0 (show List.Nodup (["_law_k","_law_own_here","_law_box_here"]:Α)from by decide +kernel) rfl (Or.inl rfl) (.inr rfl)) (λ_ _ _ _=>(qy xE g.mo (qc qJ (qc (qI (gD rfl) T.b_list JZ (qc (qH g qB qi) qa)) (qc qi qa))))))
   (qh (qp (qM (qc qP (qc Qw (qc (qy v g.mo (qc ql (qc qj qa))) (qc (qE qU (zp (qc (qv 7) (qc (qI zf T.b_tuple JB (qc (qv 7) qa)) qa))) (qy v g.mo (qc ql (qc qj qa)))) qa)))))))) qr)
   (qg (qC (qw qV qP qi (qz _)) (qh (qp (qM (qc qP (qc (qF QU (qy v g.mo (qc ql (qc (qF zt (qq qL T.b_len JE (qc (qH g qB qi) qa)) qj) qa))) (qI iz T.b_int Gb (qc (Qf qV (qy v g.mo (qc ql (qc qj qa))) qj (qz _)) qa))) (qc Qk qa)))))) qr)
   (qg (qC (qw qV qP qi (qz _)) (qh (qp (qM (qc qP (qc (qy dP g.mo (qc ql qa)) qa))))) qr)
   (qg (qC (qw qV qP qi (qz _)) (qg (qG 8 Lm.nd (zp (qc (qy v g.mo (qc ql (qc (qq qL T.b_len JE (qc (qH g qB qi) qa)) qa))) (qc (qq qL T.b_len JE (qc (qH g qB qi) qa)) (qc (om lI qj) (qc qj qa))))))
   (qh (qp (qM (qc qP (qc (qE qU (qv 8) (qF ZY (qF cA (qy v g.mo (qc ql (qc qj qa))) qj) (qy v g.mo (qc ql (qc qj qa))))) qa)))))) qr)
   (qh (qp (qM (qc qP (qc Qw qa)))))))))))))))
  refine aW λD1 z1=>?_
  refine#[_,rfl,_,rfl,_,rfl,wl,_,rfl,.inl (HP.of hw),b,_,c,rfl,X,by lia,by rw[Jb];lia,by rw[Jb];lia,λr H1 r0 r1 g1=>?_]
  let#[x,hx,e4]:=ZG (xs:=us.map V.str) r0 r1
  let#[L,d,rfl]:=JA.mp e4;refine#[wl,22,rfl,rfl,HP.of (g1.kp _ _ nw hw),hx,z1 _ _ (aW λD2 z2=>?_)]
  have o1:=ho.grc X nb g1;let#[md,mb,m6]:=m6;have h7:S.dn.length<64:=by unfold Hs.dn;rw[Jb];exact md
  have i1:S.bn.length<64:=by unfold Hs.bn;rw[Jb];exact mb
  refine#[_,rfl,_,rfl,B.ma,_,rfl,o1.g_doors,B.dd,_,S.dn,rfl,o1.at_.dd,by rw[gA,o1.at_.dn],by lia,λl1 d7=>?_]
  have u1:=HG.upd (o:= .lst (S.dn.map V.str)) d7
  have d9:=g1.same u1;refine#[b,l1,S.dn,_,c+1,rfl,d9.bx,by lia,qb,zn g1.bx d7,by lia,λdn H2 g2=>z2 _ _ (aW λD3 z3=>?_)]
  have G2:=d9.trans g2;have o2:=ho.grc X nb G2;refine#[_,rfl,_,rfl,B.ma,_,rfl,o2.g_buttons,B.bd,_,S.bn,rfl,o2.at_.bd,by rw[gA,o2.at_.bn],by lia,λl2 b5=>?_]
  have u2:=HG.upd (o:= .lst (S.bn.map V.str)) b5
  have d5:=G2.same u2;refine#[b,l2,S.bn,_,c+1+2,rfl,d5.bx,by lia,qb,zn G2.bx b5,by lia,λbn H3 g3=>z3 _ _ ?_]
  have G3:=d5.trans g3;have o3:=ho.grc X nb G3;have f7:=f4 L d;refine#[_,rfl,rfl,_,rfl,qO (λy=>?_) (λy1=>?_)]
  .obtain rfl:=aM y
   refine#[Ho,λl4 c0=>?_]
   have u4:=HG.upd (o:= .lst [.int 1,.int 2,.int 3,.int 64]) c0
   have d6:=G3.same u4;refine#[_,rfl,b,(4),c+1+2+2,rfl,d6.bx,by lia,⋯,⋯,λr4 H4 e5 f8 g4=>?_]
   have l:=d6.trans g4;let#[x4,f0,b4]:=ZG (xs:=[V.int 1,.int 2,.int 3,.int 64]) e5 f8
   let#[Y,rfl]:∃z:Int,x4= .int z:=by
    simp only[Jh,Jr,Js]at b4;rcases b4 with rfl|rfl|rfl|rfl<;>exact#[_,rfl]
   exists l4,22,rfl,rfl,HP.of (g4.kp _ _ (zn G3.bx c0) qb),f0
   refine#[_,rfl,_,rfl,_,rfl,b,"add_door",_,rfl,l.bx,by lia,λnm H5 U hn=>?_]
   have j:=l.trans U;refine#[_,rfl,_,rfl,Ho,λl6 t=>?_]
   have u6:=HG.upd (o:= .lst [.int 0,.int 1,.int 2,.int 20]) t
   have J:=j.same u6;refine#[_,rfl,b,(4),_,rfl,J.bx,by lia,⋯,⋯,λN H6 I G O=>?_]
   have R:=J.trans O;let#[x6,a5,F]:=ZG (xs:=[V.int 0,.int 1,.int 2,.int 20]) I G
   let#[d3,rfl]:∃z:Int,x6= .int z:=by
    simp only[Jh,Jr,Js]at F;rcases F with rfl|rfl|rfl|rfl<;>exact#[_,rfl]
   exists l6,22,rfl,rfl,HP.of (O.kp _ _ (zn j.bx t) qb),a5,8,rfl,rfl
   refine#[_,rfl,b,(4),_,rfl,R.bx,by lia,⋯,⋯,λr7 H7 e1 h3 g7=>#[8,rfl,rfl,Hq,λlt e=>?_]]
   exact q lt (.addD nm Y (Y+d3) (1+r7)) _ (((R.trans g7).same (HG.upd e)).mono (by lia)) (λ_ _=>qb) #[by show 0<=1+r7/\1+r7<=12;lia] trivial d
  refine#[_,rfl,rfl,_,rfl,qO (λy=>?_) (λy2=>?_)]
  .obtain rfl:=aM y
   refine#[_,rfl,_,rfl,_,rfl,b,"add_button",_,rfl,G3.bx,by lia,λnm H4 g4 hn=>?_]
   have l:=G3.trans g4;refine#[Hq,λl6 t=>?_]
   have u6:=HG.upd (o:= .lst [.int 1,.int 2,.int 3,.int 4,.int 64]) t
   have d0:=l.same u6;refine#[_,rfl,b,(5),_,rfl,d0.bx,by lia,⋯,⋯,λN H6 I G O=>?_]
   have R:=d0.trans O;let#[x6,a5,F]:=ZG (xs:=[V.int 1,.int 2,.int 3,.int 4,.int 64]) I G
   let#[step,rfl,s1]:∃z:Int,x6= .int z/\1<=z:=by
    simp only[Jh,Jr,Js]at F;rcases F with rfl|rfl|rfl|rfl|rfl<;>exact#[_,rfl,⋯]
   refine#[l6,22,rfl,rfl,HP.of (O.kp _ _ (zn l.bx t) qb),a5,Hn,λlt e=>?_]
   exact q lt (.addB nm step) _ ((R.same (HG.upd e)).mono (by lia)) (λ_ _=>qb) #[#[s1,hn]] trivial d
  refine#[_,rfl,Hj,λt1 f5=>#[t1,_,rfl,.inr (HQ.of qb),rfl,rfl,_,rfl,?_]]
  have l:=G3.same (HG.upd (o:= .tup [.str "teach",.str "forget_at"]) f5)
  have o4:=ho.grc X nb l;generalize HI H3 t1 (.tup [.str "teach",.str "forget_at"])=H4 at l o4⊢
  have a2:=f7;simp only[QK,Jh,Jr,Js]at a2;refine qO (λy=>?_) (λy3=>?_)
  .refine#[_,rfl,_,rfl,_,rfl,Hn,λlt e=>?_]
   have j:=(l.same (HG.upd (o:= .tup [.str L,.str dn,.str bn]) e)).mono (show _<=c+20 by lia)
   rcases a2 with rfl|rfl|rfl|rfl|rfl|rfl|rfl|rfl|rfl
   all_goals first
    |exact absurd y nofun
    |exact q lt (.teach dn bn) _ j (λ_ _=>qb) ⟨trivial⟩ trivial d
    |exact q lt (.forget dn bn) _ j (λ_ _=>qb) ⟨trivial⟩ trivial d
  refine⟨_,rfl,rfl,_,rfl,qO (λy=>?_) (λy4=>?_)⟩
  .obtain rfl:=aM y
   refine⟨_,rfl,b,4,_,rfl,l.bx,by lia,⋯,⋯,λC H5 c5 a1 U=>⟨_,rfl,by lia,by lia,?_⟩⟩
   have j:=l.trans U;let#[nn,en,n4]:∃nn:Nat,C.toNat=nn/\nn<4:=⟨_,rfl,by lia⟩
   rw[en];refine ly (n:=nn) (by rw[Jn];lia) (λi ys Hx=>MB b (c+6+2*i) H Hx/\∃u:Α,ys=u.map V.str/\u.length=i) ⟨j.mono (by lia),[],rfl,rfl⟩ ?_ ?_
   .rintro i ys Hx hi e2 ⟨Gx,u,rfl,lz⟩
    have ox:=ho.grc X nb Gx;refine⟨_,rfl,_,rfl,B.ma,_,rfl,ox.g_doors,B.dd,_,S.dn,rfl,ox.at_.dd,by rw[gA,ox.at_.dn],by lia,λl6 t=>?_⟩
    have u6:=HG.upd (o:= .lst (S.dn.map V.str)) t
    have c1:=Gx.same u6;refine⟨b,l6,S.dn,_,c+6+2*i,rfl,c1.bx,by lia,qb,zn Gx.bx t,by lia,λnm H7 g7=>?_⟩
    exact⟨(c1.trans g7).mono (by lia),u++[nm],by simp,by simp [lz]⟩
   rintro ys Hx e2 ⟨Gx,u,rfl,lz⟩ D a4
   have ul:=HG.upd (o:= .lst (u.map V.str)) a4
   have Gl:=Gx.same ul;have c4:D≠b:=zn Gx.bx a4
   have f1:H D=none:=Gx.fresh (X.mono (by lia)) a4
   have b7:(HI Hx D (.lst (u.map V.str))) D=↑(.lst (u.map V.str)):=qb
   generalize HI Hx D (.lst (u.map V.str))=Hl at ul Gl b7⊢
   refine⟨_,rfl,_,rfl,_,rfl,b,16,_,rfl,Gl.bx,by lia,⋯,⋯,λr8 H8 e3 i2 g8=>?_⟩
   have G8:=Gl.trans g8;have c2:=g8.kp _ _ c4 b7;refine⟨_,rfl,_,rfl,D,_,rfl,.inl ⟨HP.of c2,λM b0=>⟨Hj,λl9 d8=>?_⟩⟩⟩
   have u9:=HG.upd (o:= .tup (u.map V.str)) b0
   have b1:=HG.upd (o:= .lst [-D,-M]) d8
   have G9:=(G8.same u9).same b1;have h0:H M=none:=G8.fresh (X.mono (by lia)) b0
   have f6:M≠b:=zn G8.bx b0
   have h1:l9≠b:=zn (G8.same u9).bx d8
   have d1:=b1 _ _ (qb (H:=H8) (a:=M) (o:= .tup (u.map V.str)))
   have c3:=b1 _ _ (u9 _ _ c2);have e9:(HI (HI H8 M (.tup (u.map V.str))) l9 (.lst [-D,-M])) l9=↑(.lst [-D,-M]):=qb
   generalize HI (HI H8 M (.tup (u.map V.str))) l9 (.lst [-D,-M])=H9 at G9 d1 c3 e9⊢
   refine⟨_,rfl,b,2,_,rfl,G9.bx,by lia,⋯,⋯,λh9 h2 d2 b6 W=>?_⟩
   let#[e0,b3,a0]:=ZG (xs:=[V.ref D,-M]) d2 b6
   let#[pd,rfl,f3,e6]:∃pd,e0= .ref pd/\H pd=none/\Sq [] h2 pd (u.map V.str):=by
    simp only[Jh,Jr,Js]at a0;rcases a0 with rfl|rfl
    .exact⟨_,rfl,f1,.inl (HP.of (W.kp _ _ c4 c3))⟩
    .exact⟨_,rfl,h0,.inr (HQ.of (W.kp _ _ f6 d1))⟩
   refine⟨l9,_,_,_,rfl,rfl,HP.of (W.kp _ _ h1 e9),b3,Ho,λlt e=>?_⟩
   have ut:=HG.upd (o:= .tup [.str "press_button",.str bn,.int r8,-pd]) e
   exact q lt (.press bn r8 u) _ (((G9.trans W).same ut).mono (by lia)) (λZ hZ=>⟨pd,qb,f9 e6 ut.mv iR (λh=>nomatch h),λz=>hZ pd z f3⟩) ⟨⟨e3,by lia⟩,by show u.length<=5;lia⟩ trivial d
  refine⟨_,rfl,rfl,_,rfl,qO (λy=>?_) (λy5=>?_)⟩
  .obtain rfl:=aM y
   let#[as,ek,lk,_]:=id o4.at_.kl;have nk:=hm.ok.nk;refine⟨_,rfl,_,rfl,_,rfl,B.ma,_,rfl,o4.g_kept,B.kl,_,rfl,.inl (HP.of ek),_,_,rfl,rfl,b,_,_,rfl,l.bx,by lia,by lia,by rw[Jb,lk];lia,λC H5 c5 a1 U=>?_⟩
   have j:=l.trans U;rw[Jb,lk]at a1;refine⟨_,rfl,b,20,_,rfl,j.bx,by lia,⋯,⋯,λN H6 I G O=>⟨rfl,.inr ⟨_,rfl,?_⟩⟩⟩
   have R:=j.trans O;generalize decide (V.int N=V.int 0)=gg
   refine⟨_,_,rfl,rfl,_,rfl,Hn,λlt e=>?_⟩
   refine q lt (.play (C-if gg=true then 1 else 0) dn) _ ((R.same (HG.upd e)).mono (by lia)) (λ_ _=>qb) ⟨trivial⟩ ?_ d
   show -10000000<(C-if gg=true then 1 else 0)/\(C-if gg=true then 1 else 0)<10000000
   cases gg
   .show -10000000<C-0/\C-0<10000000;lia
   .show -10000000<C-1/\C-1<10000000;lia
  refine⟨_,rfl,rfl,_,rfl,qO (λy=>?_) (λy6=>?_)⟩
  .obtain rfl:=aM y
   refine⟨_,rfl,_,rfl,b,_,rfl,l.bx,by lia,λp ks H5 U fp hp dk k1 k8=>⟨Hj,λlt e=>?_⟩⟩
   have u5:=HG.upd (o:= .tup [.str "turn_house",-p]) e
   exact q lt (.turnH ks) _ (((l.trans U).same u5).mono (by lia)) (λZ hZ=>⟨p,qb,u5 _ _ hp⟩) ⟨k8⟩ trivial d
  refine⟨_,rfl,rfl,_,rfl,qO (λy=>?_) (λy7=>?_)⟩
  .obtain rfl:=aM y
   let#[as,g0,h8,_]:=o4.at_.ks;have k1:=hm.ok.k1;have k8:=hm.ok.k8;refine⟨_,rfl,_,rfl,B.ma,_,rfl,o4.g_keys,B.hk,_,rfl,.inl (HP.of g0),b,_,_,rfl,l.bx,by lia,by rw[Jb];lia,by rw[Jb];lia,λC H5 c5 a1 U=>?_⟩
   have j:=l.trans U;have o5:=ho.grc X nb j;let#[c6,b2,h4,_]:=o5.at_.ks;refine⟨_,rfl,B.ma,_,rfl,o5.g_keys,B.hk,_,rfl,.inl (HP.of b2),_,rfl,Ho,λal a3=>?_⟩
   have u5:=HG.upd (o:= .lst [.int C,.int ((c6.map V.ref).length:Int),.int (-1),.int 0]) a3
   have J:=j.same u5;refine⟨_,rfl,_,rfl,_,rfl,b,8,_,rfl,J.bx,by lia,⋯,⋯,λN H6 I G O=>⟨_,_,rfl,rfl,⟨by decide,⋯⟩,?_⟩⟩
   have R:=J.trans O;refine⟨_,rfl,b,4,_,rfl,R.bx,by lia,⋯,⋯,λr7 H7 e1 h3 g7=>?_⟩
   have G7:=R.trans g7;have i0:0<=N/5*r7/\N/5*r7<4:=by
    have h5:N/5=0\/N/5=1:=by lia
    rcases h5 with h|h<;>rw[h]<;>lia
   let#[x7,f2,d4]:=ZG (xs:=[V.int C,.int ((c6.map V.ref).length:Int),.int (-1),.int 0]) i0.1 i0.2
   let#[age,rfl]:∃z:Int,x7= .int z:=by
    simp only[Jh,Jr,Js]at d4;rcases d4 with rfl|rfl|rfl|rfl<;>exact⟨_,rfl⟩
   refine⟨_,_,rfl,rfl,?_,al,_,_,_,rfl,rfl,HP.of (g7.kp _ _ (zn j.bx a3) (O.kp _ _ (zn j.bx a3) qb)),f2,Hj,λlt e=>?_⟩
   .left;constructor<;>(have:N/5=0\/N/5=1:=by lia)<;>lia
   exact q lt (.close age) _ ((G7.same (HG.upd e)).mono (by lia)) (λ_ _=>qb) ⟨trivial⟩ trivial d
  refine⟨_,rfl,_,rfl,Hj,λlt e=>?_⟩
  have j:=(l.same (HG.upd (o:= .tup [.str L,.str bn]) e)).mono (show _<=c+20 by lia)
  rcases a2 with rfl|rfl|rfl|rfl|rfl|rfl|rfl|rfl|rfl
  all_goals first
   |exact q lt (.lose bn) _ j (λ_ _=>qb) ⟨trivial⟩ trivial d
   |exact q lt (.tear bn) _ j (λ_ _=>qb) ⟨trivial⟩ trivial d
   |exact q lt (.turnB bn) _ j (λ_ _=>qb) ⟨trivial⟩ trivial d
   |exact(y1 (Je rfl)).elim
   |exact(y2 (Je rfl)).elim
   |exact(y3 nofun).elim
   |exact(y4 (Je rfl)).elim
   |exact(y5 (Je rfl)).elim
   |exact(y6 (Je rfl)).elim
   |exact(y7 (Je rfl)).elim
end
section
variable{tk:Nat->Tok}
theorem iX(a:Ly K x.b "__init__" "BadPress.__init__" ZP ["self","place"])(T:Ld K mg tk)(c:ML K mg x fI)(hi:W.findIn K (-x.b) "__init__"=↑(↑(-fI))):Xi P w K mg base x.b "BadPress" (.ref x.e::Ql) Ql "ValueError.__new__" V3 2 (MS x.b "place"):=by
 have M:Mf P w K mg base x.b "__init__" V3 2 (MS x.b "place"):=by
  refine a.mq il λf _ A _ s H l Q E o h=>?_
  .let#[e,n,rfl,j,g,q]:=h
   exists _,(qg (qT (sj J3 Z c.g_CodeError c.bi c.bp.f.bi (qc ql (qc (yi ⋯ qB) qa))))
   (qh (Bl c.bp.f ql qB)))
   refine#[3,n,j,Z,λz=>#[e,.str z,Z,g,?_]]
   exact#[3,e,Z,g,λd i=>q d i]
 let#[f,fd,F,m,bd]:=M.ex;have e:f=fI:=by
  have z:=m.at_;rw[hi]at z;injection z with z
  injection z with z
  injection z with z
  exact z.symm
 subst e
 exact#[f,fd,F,c.bp.f.bi,m.fn,c.g_BadPress,bd]
end
section
variable{tk:Nat->Tok}
theorem oN(a:At K mg "_law_right" eG ["_law_house","_law_own_here","_law_deed_here"])(T:Ld K mg tk)(I:Df P w K mg base "_law_did" X1 10 (Ox K CB CD C QK))(U:Df P w K mg base "_law_due" W1 10 (Ov K CB CD QK))(L:Df P w K mg base "_law_same" u0 5 (Pa 4))(G:Df P w K mg base "_law_shown" ["_law_house","_law_own_here"] 7 (NJ K CB CD C)):Df P w K mg base "_law_right" W4 11 (Oi K CB CD C QK):=by
 refine a.dq MW λf _ A _ s H X Q E j h=>?_
 .let#[aH,aO,S,m,l,d,rfl,e,o,m1,F,n,i,u,q]:=h
  exists _,(qg (qG 3 MW.nd (qy I j.mo (qc ql (qc qJ qa))))
   (qh (qp (Qj (qy L j.mo (qc qP (qc (qy U j.mo (qc qB (qc qJ qa))) qa))) (QD (qy G j.mo (qc ql (qc qB qa))))))))
  refine#[3,aH,S,6*m,l,d,Z,e.hh,o.ok,by lia,F.sub (λz h=>Jw.mpr (.inl h)),n,i,u,λf1 aH' H1 c v y h1 J=>?_]
  let#[x,W]:=e.hh.beside e.oo e.dj c v;refine#[5,aO,S,6*m,l,d,Z,x,o.ok,by lia,(F.mv c e.hh.at_.nt (λz h=>Jw.mpr (.inl h))).sub (λz h=>Jw.mpr (.inr h)),n,i,u,λf2 aO' Y g R B M N=>?_]
  let#[st,t]:=OV.mk' e c v h1 g R M y B;have p:=(o.nxtH n).ok;refine#[6,Pf.eqvH (J.mvH g x.at_.nt) N n,λH3 r=>#[0,Qa ?_]]
  refine#[3,aH',aO',_,6*(m+1),by rw[y,B];rfl,t.same r,p,by lia,λO D=>?_]
  exact q aH' aO' O ((st.same r).same D) ((t.same r).same D)
end
section
variable{tk:Nat->Tok}
theorem rf(a:At K mg "_law_begun" eR ["_law_script","_law_great"])(T:Ld K mg tk)(zP:Mi P w K mg base C "House" ["self","table","key"] 1 (NZ K CB CD C))(yO:Df P w K mg base "_law_box" V5 1 (pH K))(dA:Df P w K mg base "_law_take" u7 1 Mb)(zG:Df P w K mg base "_law_table" W3 2 Oa)(dP:Df P w K mg base "_law_key" W3 2 lj)(zK:Df P w K mg base "_law_own" V9 1 (OO K CB CD))(xL:Df P w K mg base "_law_deed" X3 3 (N4 K CB CD QK))(xV:Df P w K mg base "_law_did" X1 10 (Ox K CB CD C QK))(xY:Df P w K mg base "_law_due" W1 10 (Ov K CB CD QK)):Df P w K mg base "_law_begun" ["_law_script","_law_great"] 11 (Ol K CB CD C):=by
 refine a.dq HW λf _ A _ s H vs Q E X h=>?_
 .let#[sc,ns,g,rfl,hS,q]:=h
  exists _,(qg (qG 2 HW.nd (qy yO X.mo (qc ql (qc qj qa))))
   (qg (v5 (i:=3) (j:=4) Z HW.nd Z Z ⋯ Z Z (qc (qy zG X.mo (qc qJ qa)) (qc (qy dP X.mo (qc qJ qa)) qa)))
   (qg (qG 5 HW.nd (zp (qc (qI QM T.b_list JZ (qc qP qa)) (qc (qI QM T.b_list JZ (qc Qk qa)) qa))))
   (qg (qG 6 HW.nd (fZ (qw qV (qy dA X.mo (qc qJ (qc qj qa))) qj (qz _)) (a9 zP X.mo (qc qP (qc Qk qa))) (a9 zP X.mo (qc (qE qU Qw qj) (qc (qE qU Qw qj) qa)))))
   (qg (qT (Dj JN PySem.F.slot_list_reverse PySem.F.type_list_reverse uj (qE qU Qw qj)))
   (qg (qT (Qx JN JU JV zY (qE qU Qw qj) (qc qj qa)))
   (qg (qG 7 HW.nd (qy zK X.mo (qc qP (qc Qk qa))))
   (qg (qG 8 HW.nd (qF zt qj (qy dA X.mo (qc qJ (qc qj qa)))))
   (qg (qC (QW.pt (iT (zW qB) (eZ (qw qV (qy dA X.mo (qc qJ (qc qj qa))) qj (qz _))))) (qh (qG 8 HW.nd (qF zt qj (qy dA X.mo (qc qJ (qc qj qa)))))) qr)
   (qg (Qs J0 Z (Zq Z T.b_range (qc (qv 8) qa)) (qD 9 HW.nd)
   (qh (Qs J0 Z (lC (qM (qc qi (qc qi qa)))) (qD 10 HW.nd)
   (qg (qG 11 HW.nd (qy xL X.mo (qc qJ (qc (qv 7) (qc (zp (qc (qv 10) qa)) qa)))))
   (qg (qT (qy xV X.mo (qc ar (qc (qv 11) qa))))
   (qh (qT (qy xY X.mo (qc (qv 7) (qc (qv 11) qa))))))))))
   (qg (Qs J0 Z (Zq Z T.b_range (qc (qF zt (qv 8) qj) qa)) (qD 12 HW.nd)
   (qg (qG 11 HW.nd (qy xL X.mo (qc qJ (qc (qv 7) (qc (zp (qc qi qa)) qa)))))
   (qg (qT (qy xV X.mo (qc ar (qc (qv 11) qa))))
   (qh (qT (qy xY X.mo (qc (qv 7) (qc (qv 11) qa))))))))
   (qh (qp (qM (qc qJ (qc ar (qc (qv 7) qa)))))))))))))))))
  refine aW λD1 z1=>?_
  refine#[0,sc,ns,(0),Z,hS,by lia,λb H1 fb s1 j6=>z1 _ _ (aW λD2 z2=>?_)]
  refine#[0,b,(0),Z,j6,by lia,λtb U H2 g2 p1 j5 pt=>?_]
  refine#[0,b,0,g2.bx,by lia,λky ks H3 g3 o6 h5 dk k1 k8=>#[6,z2 _ _ (aW λD3 z3=>?_)]]
  have f3:HG H H3:=λp o e=>g3.kp _ _ (qu e fb) (g2.kp _ _ (qu e fb) (s1 _ _ e))
  have d2:H3 tb=↑(.tup (U.map V.int)):=g3.mv.tup (bq g2.bx) j5
  refine#[0,tb,0,.inr (HQ.of d2),λO g8=>?_]
  have u1:=HG.upd (o:= .lst (U.map V.int)) g8
  have h3:(HI H3 O (.lst (U.map V.int))) O=↑(.lst (U.map V.int)):=qb
  have n1:O≠b:=zn g3.bx g8
  have f1:H O=none:=QZ g8 f3
  have f4:=(u1.grc g3.bx).bx;generalize HI H3 O (.lst (U.map V.int))=H4 at u1 h3 f4⊢
  refine#[0,ky,0,.inr (HQ.of (u1 _ _ h5)),λS b0=>#[Hj,λR b4=>?_]]
  have u2:=HG.upd (o:= .lst (ks.map V.int)) b0
  have j0:(HI H4 S (.lst (ks.map V.int))) S=↑(.lst (ks.map V.int)):=qb
  have n2:S≠b:=zn f4 b0
  have m4:S≠O:=λz=>by rw[z,h3]at b0;cases b0
  have f2:H S=none:=QZ b0 (f3.trans u1)
  have e5:=(u2.grc f4).bx;have a4:=u2 _ _ h3;generalize HI H4 S (.lst (ks.map V.int))=H5 at u2 j0 e5 a4 b4⊢
  have u3:=HG.upd (o:= .lst [-O,-S]) b4
  have h0:(HI H5 R (.lst [-O,-S])) R=↑(.lst [-O,-S]):=qb
  have n3:R≠b:=zn e5 b4
  have m0:R≠O:=λz=>by rw[z,a4]at b4;cases b4
  have N:=(u3.grc e5).bx;have c3:=(u1.trans u2).trans u3;have e0:=f3.trans c3;have c0:=c3 _ _ d2;have b1:=c3 _ _ h5;have c4:=u3 _ _ a4;have c2:=u3 _ _ j0;generalize HI H5 R (.lst [-O,-S])=H6 at u3 h0 N c3 e0 c0 b1 c4 c2⊢
  refine z3 _ _ (jd (λa5 H'=>∃aH:Ha,a5=[↑(-sc),↑(.bl g),↑(-b),↑(-tb),↑(-ky),↑(-R),↑(-aH.ma),none,none,none,none,none,none]/\MB b 27 H6 H'/\HJ K CB CD ↑C H' aH (kL U ks)/\∀z∈hF aH,H6 z=none) (λD' l4 b3=>?_) ?_)
  .refine#[0,b,(2),0,N,by lia,⋯,⋯,λr H7 r0 r1 W=>?_]
   have mk:∀(Q':VK),(∀(aH:Ha) (H':Hp),MB b 27 H6 H'->HJ K CB CD ↑C H' aH (kL U ks)->(∀z∈hF aH,H6 z=none)->Q' (-aH.ma) H')->∀(t k:Δ),Sq K H7 t (U.map V.int)->N6 H7 k ks->∀p dx,H7 p=none->H7 dx=none->dx≠p->NZ K CB CD C [-p,-t,-k] (HI (HI H7 dx (.own p)) p (.ins C dx [])) (λv H2=>v= .non/\Q' (-p) H2) E0:=λQ' hQ t k ht hk p dx hp b2 ne=>by
    have u:=HG.upd (o:= .own p) b2
    have u':=HG.upd (o:= .ins C dx []) (show(HI H7 dx (.own p)) p=none by rw[qk ne.symm];exact hp)
    have UU:=u.trans u';refine#[p,t,k,dx,U,ks,Z,qb,ht.same UU,N6.same UU hk,λaH H8 ea m8 f8 h8=>#[Z,?_]]
    rw[<- ea];refine hQ aH H8 ?_ h8 λz m=>?_
    .have kp:∀{x:Δ} {o:HO},H7 x=↑o->H8 x=↑o:=λ{x o} e=>m8 _ _ (zv (qu e hp)) (UU _ _ e)
     let#[y1,y2,y3,eb,n5,k0,n6,o8]:=W.bx
     exact#[λx o n e=>kp (W.kp _ _ n e),y1,y2,y3,kp eb,n5,k0,n6,by lia]
    .have z7:H7 z=none:=by
      rcases f8 z m with rfl|q
      .exact hp
      .exact QZ q UU
     exact W.fresh (N.mono (by lia)) z7
   have b7:=W.kp _ _ n1 c4;have f6:=W.kp _ _ n2 c2;have b6:=W.kp _ _ n3 h0;refine#[7,qO (λ_=>?_) (λ_=>?_)]
   .exact#[3,λp dx hp b2 ne=>mk (λv H'=>D'.nx [↑(-sc),↑(.bl g),↑(-b),↑(-tb),↑(-ky),↑(-R),↑v,none,none,none,none,none,none] H') (λaH' H' q1 q2 q3=>b3 _ _ #[aH',Z,q1,q2,q3]) tb ky (Sq.tup (W.mv.tup (bq N) c0)) (.inr (.inl (W.mv.tup (bq N) b1))) p dx hp b2 ne]
   .exact#[0,R,1,HP.of b6,7,R,1,HP.of b6,Z,λp dx hp b2 ne=>mk (λv H'=>D'.nx [↑(-sc),↑(.bl g),↑(-b),↑(-tb),↑(-ky),↑(-R),↑v,none,none,none,none,none,none] H') (λaH' H' q1 q2 q3=>b3 _ _ #[aH',Z,q1,q2,q3]) O S (Sq.lst b7) (.inl f6) p dx hp b2 ne]
  rintro a5 H7 ⟨aH,rfl,W,h7,f7⟩
  have nH:∀{x:Δ} {o:HO},H6 x=↑o->x∉hF aH:=λ{x o} e q=>by rw[f7 x q]at e;cases e
  have b7:=W.kp _ _ n1 c4;have f6:=W.kp _ _ n2 c2;have b6:=W.kp _ _ n3 h0;have h6:=W.mv.tup (bq N) c0;have i3:=W.mv.tup (bq N) b1;have m5:HG H H7:=λp o e=>W.kp _ _ (qu e fb) (e0 _ _ e)
  refine aW λD4 z4=>?_
  exists 0,R,1,HP.of b6,Z,.inl #[24,HP.of b7],O,18,b7
  have m8:Mv [O] H7 (HI H7 O (.lst (U.map V.int).reverse)):=Mv.upd1
  have d7:=NT.one b7 trivial;have h8:=h7.mv m8 d7 (λz m q=>nH c4 (by rw[Jg.mp q]at m;exact m))
  have j1:LY (HI H7 O (.lst (U.map V.int).reverse)) b 27:=by
   let#[y1,y2,y3,eb,yr]:=W.bx
   exact#[y1,y2,y3,m8 _ _ (zv n1.symm) eb,yr]
  have c5:=m8 _ _ (zv m4) f6;have j2:=m8 _ _ (zv m0) b6;have d5:=m8.tup d7 h6;have d3:=m8.tup d7 i3;have h4:HG H _:=λp o e=>m8 _ _ (zv (qu e f1)) (m5 _ _ e)
  generalize HI H7 O (.lst (U.map V.int).reverse)=H8 at m8 h8 j1 c5 j2 d5 d3 h4⊢
  refine z4 _ _ (aW λD5 z5=>?_)
  exists 0,R,1,HP.of j2,Z,.inl #[24,HP.of c5],S,4,c5,by rw[Jb,Jn];lia
  have m9:Mv [S] H8 (HI H8 S (.lst (ks.map V.int++[.int 1]))):=Mv.upd1
  have g5:=NT.one c5 trivial;have h9:=h8.mv m9 g5 (λz m q=>nH c2 (by rw[Jg.mp q]at m;exact m))
  have e9:LY (HI H8 S (.lst (ks.map V.int++[.int 1]))) b 27:=by
   let#[y1,y2,y3,eb,yr]:=j1
   exact#[y1,y2,y3,m9 _ _ (zv n2.symm) eb,yr]
  have d4:=m9.tup g5 d5;have d0:=m9.tup g5 d3;have e3:HG H _:=λp o e=>m9 _ _ (zv (qu e f2)) (h4 _ _ e)
  generalize HI H8 S (.lst (ks.map V.int++[.int 1]))=H9 at m9 h9 e9 d4 d0 e3⊢
  refine z5 _ _ (aW λD6 z6=>?_)
  refine#[3,tb,ky,U,ks,Z,HQ.of d4,.inl d0,λaO n4 g4 d9 L=>z6 _ _ (aW λD7 z7=>?_)]
  have i4:Hb K CB CD C H n4 b 27 aH aO (kL U ks) 0:=by
   refine#[e3.trans g4,(g4.grc e9).bx,#[h9.same g4,L,λz m q=>h9.at_.live m (d9 z q)],DJ pt k8,λq=>?_,fb,λz m=>?_]
   .let#[y1,y2,y3,eb,yr]:=e9
    let#[x1,x2,x3,m3,xr]:=N;rcases Jw.mp q with q|q
    .exact nH m3 q
    .rw[d9 b q]at eb;cases eb
   .rcases Jw.mp m with q|q
    .exact QZ (f7 z q) e0
    .exact QZ (d9 z q) e3
  refine#[0,b,(3),0,i4.bx,by lia,⋯,⋯,λi1 o7 n7 o3 l8=>#[4,?_]]
  have c6:=i4.grc l8;refine z7 _ _ ?_
  refine jd (λa5 H'=>∃c:Nat,1<=c/\c<=9/\Hb K CB CD C H H' b 30 aH aO (kL U ks) 0/\a5=[↑(-sc),↑(.bl g),↑(-b),↑(-tb),↑(-ky),↑(-R),↑(-aH.ma),↑(-aO.ma),↑(.int (c:Int)),none,none,none,none]) (λD' l4 b3=>?_) ?_
  .have oz:∀Hx,Hb K CB CD C H Hx b 30 aH aO (kL U ks) 0->D'.nx [↑(-sc),↑(.bl g),↑(-b),↑(-tb),↑(-ky),↑(-R),↑(-aH.ma),↑(-aO.ma),↑(.int (1+i1)),none,none,none,none] Hx:=λHx B=>b3 _ _ #[(1+i1).toNat,by lia,by lia,B,by rw[Int.toNat_of_nonneg (by lia)]]
   exists 3
   cases g with
   |false=>exact zx (zx (oz _ (c6.mono (by lia) (Jf _))))
   |true=>
    refine Qa #[0,b,(8),0,c6.bx,by lia,⋯,⋯,λo5 k7 n8 o2 f5=>#[7,qO (λ_=>?_) (λ_=>oz _ ((c6.grc f5).mono (by lia) (Jf _)))]]
    refine#[0,b,(3),0,f5.bx,by lia,⋯,⋯,λk5 k3 o0 n9 j4=>#[4,b3 _ _ #[(7+k5).toNat,by lia,by lia,((c6.grc f5).grc j4).mono (by lia) (Jf _),?_]]]
    rw[Int.toNat_of_nonneg (by lia)];rfl
  rintro a5 k7 ⟨c,p0,o4,l9,rfl⟩
  refine aW λD8 z8=>?_
  exists 3,by lia,by lia
  rw[GK];refine bO (Pv:=λk σ Hx=>∃(aH' aO':Ha) (S':Hs) (o9 L J:Ρ),Hb K CB CD C H Hx b (30+40*k) aH' aO' S' (2*k)/\(0<k->1<=S'.ds.length)/\aH'.ma=aH.ma/\aO'.ma=aO.ma/\σ=[↑(-sc),↑(.bl g),↑(-b),↑(-tb),↑(-ky),↑(-R),↑(-aH.ma),↑(-aO.ma),↑(.int (c:Int)),o9,L,J,none]) #[aH,aO,_,none,none,none,l9,(λh=>absurd h (J4 0)),34] ?_ ?_
  .rintro k σ Hx hk ⟨d6,e4,S1,o9,L,J,B,k2,eH,eO,rfl⟩
   refine#[Hj,λt ht=>#[t,Z,#[_,HQ.of qb],?_]]
   have ut:=HG.upd (o:= .tup [.str "add_door",.str "add_button"]) ht
   have j3:=B.same ut;have et:(HI Hx t (.tup [.str "add_door",.str "add_button"])) t=↑(.tup [.str "add_door",.str "add_button"]):=qb
   generalize HI Hx t (.tup [.str "add_door",.str "add_button"])=Ht at j3 et⊢
   refine lY (K:=K) (a:=t) (xs:=[.str "add_door",.str "add_button"]) (λi σ Hx=>Hx t=↑(.tup [.str "add_door",.str "add_button"])/\∃(aH' aO':Ha) (S':Hs) (L J:Ρ),Hb K CB CD C H Hx b (30+40*k+20*i) aH' aO' S' (2*k+i)/\(0<k+i->1<=S'.ds.length)/\aH'.ma=aH.ma/\aO'.ma=aO.ma/\σ=[↑(-sc),↑(.bl g),↑(-b),↑(-tb),↑(-ky),↑(-R),↑(-aH.ma),↑(-aO.ma),↑(.int (c:Int)),↑(.int (0+(k:Int))),L,J,none]) #[et,d6,e4,S1,L,J,j3,k2,eH,eO,Z] (λi σ Hx _ h=>HQ.of h.1) ?_ ?_
   .rintro i z σ Hy m ⟨i0,a0,I,S2,n0,g6,By,y,M,D,rfl⟩
    let#[G,rfl,hw,l0]:∃G:Str,z= .str G/\G∈QK/\(i=0->G="add_door"):=by
     match i,m with
     |0,m=>cases m;exact#[0,by simp [QK],λ_=>rfl]
     |1,m=>cases m;exact#[0,by simp [QK],λh=>absurd h ⋯]
     |i+2,m=>cases m
    have i2:i<2:=(Jt.mp m).1
    refine#[5,Hh,λwl b5=>?_]
    have uw:=HG.upd (o:= .lst [.str G]) b5
    have Y:=By.same uw;refine#[b,wl,I,S2,8,[G],by rw[D];rfl,Y.bx,by lia,Y.nO,Y.w.oo,Y.hm,Y.hm.lt (by lia),qb,zn By.bx b5,Jf 1,by show 1<=20;decide,λz m=>by rw[Jg.mp m];exact hw,λl d Hz gz e6 hd c1 a2=>?_]
    have hl:=Y.dez e6;have a2:=Jg.mp a2;have a3:zi d∈QK:=by rw[a2];exact hw
    have F:=Y.grc gz;have k6:=gz.mv.tup (bq Y.bx) (uw _ _ i0);refine#[3,a0,S2,_,l,d,by rw[M];rfl,F.w.hh,F.hm.ok,by lia,hl.sub (λz h=>Jw.mpr (.inl h)),hd,c1,a3,λq1 f0 Hu m1 g1 e1 h1 r1=>?_]
    let#[o1,d1]:=F.w.hh.beside F.w.oo F.w.dj m1 g1;refine#[3,I,S2,_,l,d,by rw[D];rfl,o1,F.hm.ok,by lia,(hl.mv m1 F.w.hh.at_.nt (λz h=>Jw.mpr (.inl h))).sub (λz h=>Jw.mpr (.inr h)),hd,c1,a3,λq2 g0 Hv m2 d8 e2 h2 r2=>?_]
    let#[st,w']:=OV.mk' F.w m1 g1 h1 m2 d8 h2 e1 e2;refine#[st.m.tup F.w.nt k6,f0,g0,22,(F.stepH hd st w').mono (by lia) (by lia),λ_=>?_,e1.trans M,e2.trans D,Z]
    by_cases k4:i=0
    .exact wC (a2.trans (l0 k4))
    .exact oP (y (by lia))
   .rintro σ Hy ⟨i0,a0,I,S2,n0,g6,By,y,M,D,rfl⟩
    exact#[a0,I,S2,22,By.mono (by show _+20*2<=_;lia) (by show _+2<=_;lia),(λ_=>y (by show 0<k+2;lia)),M,D,Z]
  rintro σ k3 ⟨d6,e4,S1,o9,L,J,l6,a1,eH,eO,rfl⟩
  have a1:=a1 (by lia)
  refine z8 _ _ (aW λD9 z9=>?_)
  exists 16,by lia,by lia
  refine bO (Pv:=λk σ Hx=>∃(aH' aO':Ha) (S':Hs) (J m7:Ρ),Hb K CB CD C H Hx b (30+40*c+20*k) aH' aO' S' (2*c+k)/\1<=S'.ds.length/\aH'.ma=aH.ma/\aO'.ma=aO.ma/\σ=[↑(-sc),↑(.bl g),↑(-b),↑(-tb),↑(-ky),↑(-R),↑(-aH.ma),↑(-aO.ma),↑(.int (c:Int)),o9,L,J,m7]) #[d6,e4,S1,J,none,l6,a1,eH,eO,Z] ?_ ?_
  .rintro k σ Hy hk ⟨a0,I,S2,g6,l5,By,y,M,D,rfl⟩
   have hk:k<c+1:=by lia
   refine#[3,Hh,λwl b5=>?_]
   have uw:=HG.upd (o:= .lst [.str "teach"]) b5
   have Y:=By.same uw;refine#[b,wl,I,S2,8,["teach"],by rw[D];rfl,Y.bx,by lia,Y.nO,Y.w.oo,Y.hm,Y.hm.lt (by lia),qb,zn By.bx b5,⋯,⋯,λz m=>by rw[Jg.mp m];simp [QK],λl d Hz gz e6 hd c1 a2=>?_]
   have hl:=Y.dez e6;have a3:zi d∈QK:=by rw[Jg.mp a2];simp [QK]
   have F:=Y.grc gz;refine#[3,a0,S2,_,l,d,by rw[M];rfl,F.w.hh,F.hm.ok,by lia,hl.sub (λz h=>Jw.mpr (.inl h)),hd,c1,a3,λq1 f0 Hu m1 g1 e1 h1 r1=>?_]
   let#[o1,d1]:=F.w.hh.beside F.w.oo F.w.dj m1 g1;refine#[3,I,S2,_,l,d,by rw[D];rfl,o1,F.hm.ok,by lia,(hl.mv m1 F.w.hh.at_.nt (λz h=>Jw.mpr (.inl h))).sub (λz h=>Jw.mpr (.inr h)),hd,c1,a3,λq2 g0 Hv m2 d8 e2 h2 r2=>?_]
   let#[st,w']:=OV.mk' F.w m1 g1 h1 m2 d8 h2 e1 e2
   exact#[f0,g0,22,(F.stepH hd st w').mono (by lia) (by lia),oP y,e1.trans M,e2.trans D,Z]
  rintro σ Hy ⟨a0,I,S2,g6,l5,By,y,M,D,rfl⟩
  refine z9 _ _ ?_
  refine#[5,Hn,λqt m6=>?_]
  exact q qt b a0 I S2 _ (by rw[qb,M,D]) ((By.same (HG.upd m6)).mono (by lia) (by lia)) y
end
section
variable{tk:Nat->Tok}
noncomputable abbrev Om:Α:=["turn_house","turn_button","turn_button","close_ages","press_button","press_button","press_button","play_kept","add_door","add_button","teach","forget_at"]
theorem DB(F:OU K "law" "law" cn f fd)(T:Ld K mg tk)(yO:Df P w K mg base "_law_box" V5 1 (pH K))(dP:Df P w K mg base "_law_key" W3 2 lj)(xL:Df P w K mg base "_law_deed" X3 3 (N4 K CB CD QK))(zF:Df P w K mg base "_law_begun" ["_law_script","_law_great"] 11 (Ol K CB CD C))(xP:Df P w K mg base "_law_right" W4 11 (Oi K CB CD C QK)):Mj P w K mg base bY 12 f fd ["_law_script"] (Oy K):=by
 refine F.dq Mr (λvs H Q E h=>?_) (λcdv A outer s H vs Q E n h=>?_)
 .let#[x,ns,rfl,_]:=h
  rfl
 .let#[L,ns,rfl,hS,c2,q]:=h
  exists _,(qg (Qy (qy zF n.mo (qc ql (qc Q0 qa))) (cU Z (qQ (qD 1 Mr.nd) (qQ (qD 2 Mr.nd) (qQ (qD 3 Mr.nd) Qu)))))
   (qg (qG 4 Mr.nd (zp (qc qi (qc qi (qc qi (qc qi (qc qi (qc qi (qc qi qa)))))))))
   (qg (qG 4 Mr.nd (qF oH Qk (zp (qc qi (qc qi (qc qi (qc qi (qc qi qa))))))))
   (qg (Qs J0 Z (Zq Z T.b_range (qc (qF zt qj (qq (nA Z) T.b_min PyProof.Rows.boot_min (qc qj (qc (qq qL T.b_len JE (qc ql qa)) qa)))) qa)) (qD 5 Mr.nd)
   (qg (qG 1 Mr.nd (qy yO n.mo (qc ql (qc (qF zt qj Qw) qa))))
   (qh (qC (Qg (zW (qy xP n.mo (qc qJ (qc qP (qc (qy xL n.mo (qc qB (qc qP (qc Qk qa)))) qa)))))) (qh (qp Q0)) qr))))
   (qg (wW J0 (qw dh (qq qL T.b_len JE (qc (qH n qP qi) qa)) qj (qz _))
   (qh (qC (Qg (zW (qy xP n.mo (qc qJ (qc qP (qc (qM (qc qi (qc (qy dP n.mo (qc qB qa)) qa))) qa)))))) (qh (qp Q0)) qr)))
   (qh (qp (Qj (qy xP n.mo (qc qJ (qc qP (qc (qM (qc qi (qc (qy dP n.mo (qc qB qa)) qa))) qa)))) (QD (qy xP n.mo (qc qJ (qc qP (qc (qM (qc qi (qc qj qa))) qa)))))))))))))
  refine#[0,L,ns,true,Z,hS,λqt b aH aO S H1 c1 B c4=>#[qt,0,HQ.of c1,13,?_]]
  refine#[HA,λw1 b3=>?_]
  have u1:=HG.upd (o:= .lst [.str "turn_house",.str "turn_button",.str "turn_button",.str "close_ages",.str "press_button",.str "press_button",.str "press_button"]) b3
  have e1:(HI H1 w1 (.lst [.str "turn_house",.str "turn_button",.str "turn_button",.str "close_ages",.str "press_button",.str "press_button",.str "press_button"])) w1=↑(.lst [.str "turn_house",.str "turn_button",.str "turn_button",.str "close_ages",.str "press_button",.str "press_button",.str "press_button"]):=qb
  generalize HI H1 w1 (.lst [.str "turn_house",.str "turn_button",.str "turn_button",.str "close_ages",.str "press_button",.str "press_button",.str "press_button"])=G1 at u1 e1⊢
  refine#[0,Hq,λw2 J=>#[w1,w2,4,(HG.upd J) _ _ e1,qb,HB,λi X=>?_]]
  have V6:=(u1.trans (HG.upd (o:= .lst [.str "play_kept",.str "add_door",.str "add_button",.str "teach",.str "forget_at"]) J)).trans (HG.upd (o:= .lst (Om.map V.str)) X)
  have a5:i∉hF aH++hF aO:=λq=>(B.same (u1.trans (HG.upd J))).live q X
  rw[show [V.str "turn_house",V.str "turn_button",V.str "turn_button",V.str "close_ages",V.str "press_button",V.str "press_button",V.str "press_button"]++[V.str "play_kept",V.str "add_door",V.str "add_button",V.str "teach",V.str "forget_at"]=Om.map V.str from Z]
  have Y:(HI (HI G1 w2 (.lst [.str "play_kept",.str "add_door",.str "add_button",.str "teach",.str "forget_at"])) i (.lst (Om.map V.str))) i=↑(.lst (Om.map V.str)):=qb
  generalize HI (HI G1 w2 (.lst [.str "play_kept",.str "add_door",.str "add_button",.str "teach",.str "forget_at"])) i (.lst (Om.map V.str))=H2 at V6 Y⊢
  have B2:=B.same V6;have b6:=B2.s.seq hS;exists 0,L,0,.inl b6,49,?_,?_
  .split<;>omega
  .split<;>omega
  refine bO (Pv:=λk σ Hx=>Hx i=↑(.lst (Om.map V.str))/\∃(b':Δ) (aH' aO':Ha) (S':Hs) (N:Ρ),Hb K CB CD C H Hx b' 1000 aH' aO' S' (30+k)/\aH'.ma=aH.ma/\aO'.ma=aO.ma/\i∉hF aH'++hF aO'/\σ=[↑(-L),↑(-b'),↑(-aH.ma),↑(-aO.ma),↑(-i),N]) #[Y,b,aH,aO,S,none,B2,12,a5,Z] ?_ ?_
  .rintro k σ Hx hk ⟨ew,D,v,t,S1,N,j,eH,eO,nw,rfl⟩
   have c5:k<22:=by
    refine JO hk ?_
    split<;>omega
   refine#[14,L,ns,1+k,JK (λz=>[V.ref L,V.int z]) (show(1+(0+(k:Int)))=((1+k:Nat):Int) by omega),j.s.seq hS,by omega,λb2 Hy fb sy b4=>?_]
   have a:=j.rebox sy fb b4;have U:=sy _ _ ew;have O:i≠b2:=λz=>by rw[z,fb]at ew;cases ew
   refine#[28,b2,i,t,S1,8,Om,by rw[eO];rfl,a.bx,by omega,a.nO,a.w.oo,a.hm,a.hm.lt (by omega),U,O,⋯,⋯,λz hz=>?_,λl d Hz gz hl hd b7 b0=>?_]
   .revert z;decide +kernel
   have Bz:=a.grc gz;have a0:=gz.kp _ _ O U;have a1:zi d∈QK:=(show∀z∈Om,z∈QK by decide +kernel) _ b0
   refine#[v,t,S1,_,l,d,by rw[eH,eO];rfl,Bz.w,Bz.hm,by omega,a.dez hl,hd,b7,a1,λc g Hw st M=>#[0,zx ?_]]
   exact#[st.m _ _ nw a0,b2,c,g,8,(Bz.stepH hd st M).mono (by omega) (by omega),st.mH.trans eH,st.mO.trans eO,st.free a0 nw,Z]
  rintro σ H3 ⟨ew,D,v,t,S1,N,B3,eH,eO,nw,rfl⟩
  have B3:=B3.mono (c':=1000) (m':=52) (Jf _) (by split<;>omega)
  exists λm σ Hx=>∃(aH' aO':Ha) (S':Hs),Hb K CB CD C H Hx D (1000+10*(8-m)) aH' aO' S' (52+(8-m))/\m<=8/\8-m<=S'.kss.length/\aH'.ma=aH.ma/\aO'.ma=aO.ma/\σ=[↑(-L),↑(-D),↑(-aH.ma),↑(-aO.ma),↑(-i),N],#[(8),v,t,S1,B3.mono ⋯ ⋯,Jf _,JL _,eH,eO,Z]
  rintro m σ Hx ⟨W,I,S2,j,m8,c3,r,e,rfl⟩
  let#[as,c0,a4,_]:=j.w.oo.at_.ks;exists 0,aO.ma,0,e▸j.w.oo.g_keys,I.hk,0,.inl (HP.of c0),4
  rw[Jb,a4];refine#[0,qO (λy=>?_) (λy=>?_)]
  .have y:(S2.kss.length:Int)<8:=Jv y
   exists λa2 H'=>∃m',m'<m/\∃(aH' aO':Ha) (S':Hs),Hb K CB CD C H H' D (1000+10*(8-m')) aH' aO' S' (52+(8-m'))/\m'<=8/\8-m'<=S'.kss.length/\aH'.ma=aH.ma/\aO'.ma=aO.ma/\a2=[↑(-L),↑(-D),↑(-aH.ma),↑(-aO.ma),↑(-i),N],λ_ _ h=>h
   refine#[5,D,0,j.bx,by omega,λp ks Hy gy fp hp dk l1 R=>#[Hj,λlt G=>?_]]
   have u:=HG.upd (o:= .tup [.str "turn_house",-p]) G
   have a:=(j.grc gy).same u;refine#[W,I,S2,_,lt,.turnH ks,by rw[r,e];rfl,a.w,a.hm,by omega,#[p,qb,u _ _ hp],#[R],trivial,(by decide +kernel:("turn_house":Str)∈QK),λc g Hw st M=>#[0,zx ?_]]
   have en:Qb S2 (.turnH ks)= .ok {S2 with kss:=S2.kss++[ks],ds:=S2.ds.map (bB ks)} .non:=Jc (by omega)
   have b5:(eN S2 (Qb S2 (.turnH ks))).kss.length=S2.kss.length+1:=by
    rw[en]
    show(S2.kss++[ks]).length=_
    rw[Jq];rfl
   refine#[m-1,by omega,c,g,_,(a.stepH (d:= .turnH ks) #[R] st M).mono (by omega) (by omega),by omega,by rw[b5];omega,st.mH.trans r,st.mO.trans e,Z]
  .have j:=j.mono (c':=1080) (m':=60) (by omega) (by omega)
   refine#[5,D,0,j.bx,by omega,λp ks Hy gy fp hp dk l1 R=>#[Hj,λlt G=>?_]]
   have u:=HG.upd (o:= .tup [.str "turn_house",-p]) G
   have a:=(j.grc gy).same u;refine#[W,I,S2,_,lt,.turnH ks,by rw[r,e];rfl,a.w,a.hm,by omega,#[p,qb,u _ _ hp],#[R],trivial,(by decide +kernel:("turn_house":Str)∈QK),λc g Hw st M=>#[0,Qa ?_]]
   have Bw:=a.stepH (d:= .turnH ks) #[R] st M
   refine#[3,Hj,λl2 a3=>?_]
   have Bv:=Bw.same (HG.upd (o:= .tup [.str "close_ages",.int 8]) a3)
   exact#[c,g,8,l2,.close 8,by rw[st.mH.trans r,st.mO.trans e];rfl,Bv.w,Bv.hm,by omega,qb,#[trivial],trivial,(by decide +kernel:("close_ages":Str)∈QK),λ_ _ Hz d0 c6=>q _]
end
theorem C4{l:W.OpenLaw}(X:K.In h)(G:h.Ns η mg)(p5:mg "law"=↑(-fa))(h6:W.nsIn K η "Button"=↑(↑(-CB)))(c2:W.plainGet K CB Str.empty=true)(n4:W.hasDictIn K CB=true)(c3:W.plainOver K CB=true)(s0:W.findIn K (-CB) "__setattr__"=↑(↑(.builtin "object.__setattr__")))(d4:W.makesIn K CB=true)(c1:W.keepIn K (-CB)=true)(LE:W.findIn K (-CB) "name"=↑none)(Im:W.findIn K (-CB) "table"=↑none)(NE:W.findIn K (-CB) "key"=↑none)(Op:W.findIn K (-CB) "age"=↑none)(Mx:W.findIn K (-CB) "step"=↑none)(Fr:W.findIn K (-CB) "next_count"=↑none)(Hk:W.findIn K (-CB) "bound"=↑none)(Id:W.findIn K (-CB) "cells"=↑none)(b6:W.nsIn K η "Door"=↑(↑(-CD)))(c5:W.plainGet K CD Str.empty=true)(n8:W.hasDictIn K CD=true)(o0:W.plainOver K CD=true)(p2:W.findIn K (-CD) "__setattr__"=↑(↑(.builtin "object.__setattr__")))(b0:W.makesIn K CD=true)(a5:W.keepIn K (-CD)=true)(IN:W.findIn K (-CD) "table"=↑none)(Fs:W.findIn K (-CD) "house_keys"=↑none)(LT:W.findIn K (-CD) "near"=↑none)(M2:W.findIn K (-CD) "far"=↑none)(Lp:W.findIn K (-CD) "most"=↑none)(Go:W.findIn K (-CD) "least_age"=↑none)(Gr:W.findIn K (-CD) "buttons"=↑none)(No:W.findIn K (-CD) "log"=↑none)(i2:W.nsIn K η "House"=↑(↑(-C)))(q2:W.plainGet K C Str.empty=true)(q7:W.hasDictIn K C=true)(l6:W.plainOver K C=true)(h0:W.findIn K (-C) "__setattr__"=↑(↑(.builtin "object.__setattr__")))(l3:W.makesIn K C=true)(e0:W.keepIn K (-C)=true)(GT:W.findIn K (-C) "table"=↑none)(pi:W.findIn K (-C) "house_keys"=↑none)(Fz:W.findIn K (-C) "least_age"=↑none)(Ix:W.findIn K (-C) "doors"=↑none)(Gs:W.findIn K (-C) "buttons"=↑none)(IO:W.findIn K (-C) "kept"=↑none)(GE:W.findIn K (-C) "opened"=↑none)(A0:Ac K mg "is_number" ef)(A1:Ac K mg "is_digit" fU)(A2:Ac K mg "are_digits" cN)(A3:Ac K mg "back_table" cS)(A4:Ac K mg "coded" mF)(A5:Ac K mg "decoded" hJ)(A6:Ac K mg "is_name" hV)(A7:Ac K mg "is_code" iB)(A8:Ac K mg "is_press" fW)(A9:Ac K mg "letter_digits" aG)(h4:Ac K mg "key_of" jK)(n3:Ac K mg "count_digits" bj)(g6:Ac K mg "press_of" fS)(f1:Ac K mg "read_press" cF)(c4:Ac K mg "word_of" io)(g2:Ac K mg "step_by" iu)(l5:LH K CB "__init__" "Button.__init__" aD)(k7:LH K CB "is_worn" "Button.is_worn" ae)(l0:LH K CB "must_write" "Button.must_write" Zh)(f4:LH K CB "spare_cell" "Button.spare_cell" Zj)(o1:LH K CB "write_bound" "Button.write_bound" Q6)(f0:LH K CB "press_once" "Button.press_once" Zi)(d7:LH K CB "turn_key" "Button.turn_key" ZN)(p0:LH K CB "name_told" "Button.name_told" ZD)(q9:LH K CB "age_now" "Button.age_now" Z6)(d2:LH K CB "count_now" "Button.count_now" Zr)(d8:LH K CB "cells_now" "Button.cells_now" ZB)(u:LH K CD "__init__" "Door.__init__" Zc)(n7:LH K CD "is_full" "Door.is_full" aZ)(r3:LH K CD "button_of" "Door.button_of" Z7)(e5:LH K CD "takes_age" "Door.takes_age" Z9)(q3:LH K CD "takes_from" "Door.takes_from" ZS)(i3:LH K CD "plain_step" "Door.plain_step" ZV)(r2:LH K CD "answer_to" "Door.answer_to" Z8)(l9:LH K CD "hear" "Door.hear" eE)(b7:LH K CD "read_right" "Door.read_right" ZR)(h2:LH K CD "learn" "Door.learn" cI)(r6:LH K CD "forget" "Door.forget" bW)(g7:LH K CD "turn_key" "Door.turn_key" aB)(p1:LH K CD "close_below" "Door.close_below" ZF)(f8:LH K CD "known_now" "Door.known_now" ai)(j1:LH K CD "keys_now" "Door.keys_now" aA)(j4:LH K CD "closed_now" "Door.closed_now" ZL)(o4:LH K CD "bounds_told" "Door.bounds_told" Zx)(e2:LH K CD "log_now" "Door.log_now" bb)(m4:LH K CD "twin_door" "Door.twin_door" ac)(r1:LH K C "__init__" "House.__init__" aY)(e4:LH K C "door_named" "House.door_named" Zw)(i0:LH K C "button_named" "House.button_named" Zb)(n1:LH K C "add_door" "House.add_door" aa)(f5:LH K C "add_button" "House.add_button" Zp)(h3:LH K C "keep_press" "House.keep_press" Zv)(m0:LH K C "teach" "House.teach" bU)(k2:LH K C "hear_at" "House.hear_at" aN)(c0:LH K C "press_button" "House.press_button" Q9)(h5:LH K C "play_kept" "House.play_kept" ZM)(g8:LH K C "turn_house" "House.turn_house" Zn)(m3:LH K C "turn_button" "House.turn_button" Zk)(r0:LH K C "close_ages" "House.close_ages" Zm)(f7:LH K C "forget_at" "House.forget_at" ZO)(d1:LH K C "door_now" "House.door_now" Z5)(j6:LH K C "button_now" "House.button_now" Zu)(q4:LH K C "kept_now" "House.kept_now" Z3)(k6:LH K C "opened_by" "House.opened_by" ZT)(r4:Ac K mg "_law_box" iq)(n5:Ac K mg "_law_take" fM)(j3:Ac K mg "_law_table" eC)(m9:Ac K mg "_law_key" iJ)(m8:Ac K mg "_law_own" hW)(o2:Ac K mg "_law_refused" bT)(p4:Ac K mg "_law_added" eD)(k4:Ac K mg "_law_taught" cP)(q5:Ac K mg "_law_keyed" eL)(m5:Ac K mg "_law_listened" bo)(n2:Ac K mg "_law_pressed" bQ)(g0:Ac K mg "_law_of_button" aJ)(q1:Ac K mg "_law_due" iA)(r8:Ac K mg "_law_called" cM)(d5:Ac K mg "_law_class" eM)(g4:Ac K mg "_law_did" ib)(y:Ac K mg "_law_same" cr)(l4:Ac K mg "_law_shown" eA)(k3:Ac K mg "_law_some_name" aS)(h7:Ac K mg "_law_new_name" bg)(o3:Ac K mg "_law_deed" gc)(q8:Ac K mg "_law_begun" eR)(r5:Ac K mg "_law_right" eG)(l8:W.nsIn K η "law"=↑(↑(-N)))(k0:K.lookup N=some #[a0,b1,.func (W.fnOf "law" "law" (Zf cn) (Qi cn) (qm cn) .none D B A F t E),b4])(j5:W.codeIn K t "law"=true)(d9:W.keepIn K (-N)=true)(o5:W.nsIn K η "DIGITS"=↑(↑(.int 16 t0)))(k8:W.nsIn K η "KEY_PLACES"=↑(↑(.int 4 t1)))(i4:W.nsIn K η "LONGEST_NAME"=↑(↑(.int 8 t2)))(r9:W.nsIn K η "CODE_DIGITS"=↑(↑(.int 5 t3)))(e9:W.nsIn K η "AGES"=↑(↑(.int 8 t4)))(h9:W.nsIn K η "COUNTS"=↑(↑(.int 4096 t5)))(z0:W.nsIn K η "isinstance"=↑none)(z1:W.nsIn K η "bool"=↑none)(z2:W.nsIn K η "int"=↑none)(z3:W.nsIn K η "tuple"=↑none)(z4:W.nsIn K η "all"=↑none)(z5:W.nsIn K η "len"=↑none)(z6:W.nsIn K η "abs"=↑none)(z7:W.nsIn K η "list"=↑none)(z8:W.nsIn K η "enumerate"=↑none)(z9:W.nsIn K η "range"=↑none)(m2:W.nsIn K η "max"=↑none)(o7:W.nsIn K η "min"=↑none)(r7:W.nsIn K η "str"=↑none)(j2:W.nsIn K η "zip"=↑none)(o9:W.nsIn K η "ord"=↑none)(n9:W.nsIn K η "sum"=↑none)(i1:W.nsIn K η "reversed"=↑none)(d0:W.nsIn K η "sorted"=↑none)(p3:W.nsIn K η "dict"=↑none)(g3:W.nsIn K η "CodeError"=↑(↑(-g)))(k5:W.nsIn K η "Known"=↑(↑(-o)))(m7:W.nsIn K η "Full"=↑(↑(-m)))(n6:W.nsIn K η "Unknown"=↑(↑(-j)))(g5:W.nsIn K η "TooMany"=↑(↑(-n)))(e1:W.nsIn K η "BadPress"=↑(↑(-xb)))(n0:W.nsIn K η "Worn"=↑(↑(-p)))(g1:W.nsIn K η "BadLog"=↑(↑(-q)))(k1:W.nsIn K η "BadRow"=↑(↑(-r)))(e6:ay K g Ql Ql "ValueError.__new__"=true)(d3:W.findIn K (-xb) "__init__"=↑(↑(-z)))(M:LH K xb "__init__" "BadPress.__init__" ZP)(f6:W.findIn K (-xb) "place"=↑none)(d6:W.findIn K (-xb) "__setattr__"=↑(↑(.builtin "object.__setattr__")))(l2:W.specialIn K (-g) "__getattribute__"=↑(↑(.builtin "type.__getattribute__")))(o8:W.readsIn K g (.type "type")=true)(f3:W.findCls K (-g) (.type "type") "__init__"=↑(.val (.builtin "ValueError.__init__")))(q6:W.handedIn (.builtin "ValueError.__init__")=true)(a1:Nb K (#[g,o,m,j,n,xb,p,q,r]:Xa) o)(a3:Nb K (#[g,o,m,j,n,xb,p,q,r]:Xa) m)(a4:Nb K (#[g,o,m,j,n,xb,p,q,r]:Xa) j)(a2:Nb K (#[g,o,m,j,n,xb,p,q,r]:Xa) n)(b2:Nb K (#[g,o,m,j,n,xb,p,q,r]:Xa) p)(l1:dz K xb (.ref g::Ql) Ql "ValueError.__new__" z=true)(e3:W.mroIn K xb (.type "object")=↑true)(j0:W.mroIn K xb (.type "BaseException")=↑true)(m6:W.findIn K (-xb) "__class__"=↑(↑(.builtin "object.__class__")))(f2:W.findIn K (-xb) "__getattribute__"=↑(↑(.builtin "BaseException.__getattribute__")))(o6:W.findIn K (-xb) "__getattr__"=↑none)(q0:(W.clsIn K xb).isSome=true)(R:W.kitOne K (-xb) (-xb)=↑(decide (xb=xb)))(O:W.kitOne K (-xb) (-o)=↑(decide (xb=o)))(J:W.kitOne K (-xb) (-m)=↑(decide (xb=m)))(S:W.kitOne K (-xb) (-j)=↑(decide (xb=j)))(Q:W.kitOne K (-xb) (-n)=↑(decide (xb=n)))(H:W.kitOne K (-xb) (-p)=↑(decide (xb=p)))(I:W.kitOne K (-xb) (-q)=↑(decide (xb=q)))(L:W.kitOne K (-xb) (-r)=↑(decide (xb=r)))(h1:W.kitOne K (-xb) (.type "ValueError")=↑true)(h8:([xb,o,m,j,n,p,q,r]:Η).Nodup)(c6:W.nsIn K η "ValueError"=↑none):
  ∃fd:FuncData,(∀(s:Θ) (v:Γ),BindsTo s fd #[[v],[]] [("_law_script",v)])/\∀base:Ψ,K.In base->base.Ns η mg->Mj l.prog w K mg base bY 12 fa fd ["_law_script"] (Oy K):=by
 have e:=p5.symm.trans (JP X G l8);cases e;have T:Ld K mg (λi=>if i=0 then t0 else if i=1 then t1 else if i=2 then t2 else if i=3 then t3 else if i=4 then t4 else if i=5 then t5 else 0):=#[JP X G o5,JP X G k8,JP X G i4,JP X G r9,JP X G e9,JP X G h9,JQ X G z0,JQ X G z1,JQ X G z2,JQ X G z3,JQ X G z4,JQ X G z5,JQ X G z6,JQ X G z7,JQ X G z8,JQ X G z9,JQ X G m2,JQ X G o7,JQ X G r7,JQ X G j2,JQ X G o9,JQ X G n9,JQ X G i1,JQ X G d0,JQ X G p3]
 refine#[W.fnOf "law" "law" (Zf cn) (Qi cn) (qm cn) .none D B A F t E,λs v=> .of_eq Z,λbase _ _=>?_]
 have d:MD K CB:=#[#[c2,n4,c3,s0],LE,Im,NE,Op,Mx,Fr,Hk,Id]
 have a:LS K CD:=#[#[c5,n8,o0,p2],IN,Fs,LT,M2,Lp,Go,Gr,No]
 have U:MK K C:=#[#[q2,q7,l6,h0],GT,pi,Fz,Ix,Gs,IO,GE]
 have XG:XGx K mg (#[g,o,m,j,n,xb,p,q,r]:Xa):=#[JP X G g3,JP X G k5,JP X G m7,JP X G n6,JP X G g5,JP X G e1,JP X G n0,JP X G g1,JP X G k1,e6,h8,JQ X G c6]
 have b3:Pb K g xb z "place":=#[l1,f6,d6,#[e3,j0,m6,f2,o6,q0]]
 have b5:=rJ (x:=(#[g,o,m,j,n,xb,p,q,r]:Xa)) R O J S Q H I L
 have m1:Po K g "ValueError.__init__":=#[l2,o8,f3,q6]
 have f:ML K mg (#[g,o,m,j,n,xb,p,q,r]:Xa) z:=#[#[XG,a1,a3,#[b3,b5,h1],m1],a4,a2,b2]
 have xN:=oU (P:=l.prog) (w:=w) (base:=base) A0.at T
 have zI:=sk A1.at T xN
 have y0:=oi A2.at T zI
 have yY:=nV (P:=l.prog) (w:=w) (base:=base) A3.at T
 have yX:=Ak (P:=l.prog) (w:=w) (base:=base) A4.at T
 have zO:=ux A5.at T yY
 have zM:=tL (P:=l.prog) (w:=w) (base:=base) A6.at T
 have zN:=tH A7.at T y0
 have yC:=sf A8.at T zM xN zN
 have yQ:=jO (P:=l.prog) (w:=w) (base:=base) A9.at T
 have yR:=vV h4.at T yQ yX
 have yS:=lK (P:=l.prog) (w:=w) (base:=base) n3.at T
 have zH:=rY g6.at T yS yR yX
 have xH:=nX f1.at T yR zO
 have zL:=uE (P:=l.prog) (w:=w) (base:=base) c4.at T
 have zJ:=tK g2.at T zL
 have M:=M.at (ps:=V3)
 have zT:=iX (P:=l.prog) (w:=w) (base:=base) M T f d3
 have zQ:=j9 (P:=l.prog) (w:=w) (base:=base) l5.at T d
 have yT:=zQ.mi d4 c1 (JP X G h6);have dX:=jt (P:=l.prog) (w:=w) (base:=base) k7.at T d
 have xS:=gm l0.at T d dX
 have xQ:=fH (P:=l.prog) (w:=w) (base:=base) f4.at T d
 have xK:=fw o1.at T d xQ
 have xD:=fq f0.at T d f dX xS xK zH
 have dM:=xD.mf C1;have dU:=iG (P:=l.prog) (w:=w) (base:=base) d7.at T d
 have x8:=gK (P:=l.prog) (w:=w) (base:=base) p0.at T d
 have dC:=jw (P:=l.prog) (w:=w) (base:=base) q9.at T d
 have dD:=gQ (P:=l.prog) (w:=w) (base:=base) d2.at T d
 have dR:=gU (P:=l.prog) (w:=w) (base:=base) d8.at T d
 have u:=u.at (ps:=x5)
 have zS:=lM (P:=l.prog) (w:=w) (base:=base) u T a
 have yH:=zS.mi b0 a5 (JP X G b6);have zU:=(ko (P:=l.prog) (w:=w) (base:=base) u T a).mi b0 a5 (JP X G b6)
 have xC:=kR (P:=l.prog) (w:=w) (base:=base) n7.at T a
 have dY:=ju (P:=l.prog) (w:=w) (base:=base) r3.at T a
 have dL:=jx (P:=l.prog) (w:=w) (base:=base) e5.at T a
 have dW:=iS q3.at T a dL
 have yF:=iV i3.at T a dW zJ
 have yJ:=jr r2.at T a dY dW yF xH
 have xO:=p8 l9.at T a yC yJ
 have xF:=iw b7.at T a yC dL xH
 have xI:=oa h2.at T a xF xC
 have yI:=lq (P:=l.prog) (w:=w) (base:=base) r6.at T a f
 have yW:=yI.mf Cd;have dZ:=jS (P:=l.prog) (w:=w) (base:=base) g7.at T a
 have dG:=gG (P:=l.prog) (w:=w) (base:=base) p1.at T a
 have dJ:=jv (P:=l.prog) (w:=w) (base:=base) f8.at T a
 have xT:=j7 (P:=l.prog) (w:=w) (base:=base) j1.at T a
 have xG:=iU (P:=l.prog) (w:=w) (base:=base) j4.at T a
 have xX:=gN (P:=l.prog) (w:=w) (base:=base) o4.at T a
 have yB:=kD (P:=l.prog) (w:=w) (base:=base) e2.at T a
 have yK:=jj m4.at T a yH
 have zR:=kG (P:=l.prog) (w:=w) (base:=base) r1.at T U (CB:=CB) (CD:=CD)
 have zP:=zR.mi l3 e0 (JP X G i2);have dE:=gq (P:=l.prog) (w:=w) (base:=base) e4.at T U f (CB:=CB) (CD:=CD)
 have dQ:=dE.mf DR;have dH:=eF (P:=l.prog) (w:=w) (base:=base) i0.at T U f (CB:=CB) (CD:=CD)
 have xJ:=dH.mf E5;have yM:=g9 n1.at T U f a yH dG (CB:=CB)
 have xW:=fJ f5.at T U f d yT (CD:=CD)
 have dO:=fR h3.at T U f d xD (CD:=CD)
 have yU:=li m0.at T U f d a zT dE dH dO dY xC dL xI dD dC
 have xA:=jR k2.at T U a xO (CB:=CB)
 have xM:=eI c0.at T U f dE dH dO xA
 have yE:=gV h5.at T U f zT dE xA
 have xU:=gn g8.at T U f a dZ (CB:=CB)
 have xR:=eY m3.at T U f d dH dC dU
 have x9:=fN r0.at T U f a dG (CB:=CB)
 have yG:=gL f7.at T U f a dE yI
 have yL:=ji d1.at T U a dQ yK
 have xZ:=gJ j6.at T U d xJ dC dD dR
 have yN:=jk (P:=l.prog) (w:=w) (base:=base) q4.at T U (CB:=CB) (CD:=CD)
 have yD:=iC k6.at T U dQ
 have yO:=tI (P:=l.prog) (w:=w) (base:=base) r4.at T
 have dA:=rW (P:=l.prog) (w:=w) (base:=base) n5.at T
 have zG:=oR j3.at T dA
 have dP:=tP m9.at T dA
 have zK:=uy (P:=l.prog) (w:=w) (base:=base) m8.at T (CB:=CB) (CD:=CD)
 have Y:=mE (P:=l.prog) (w:=w) (base:=base) o2.at T
 have zB:=rm p4.at T a yT zU dG Y
 have yZ:=oh k4.at T d a dJ xX xI x8 dD dC dM Y
 have zC:=oW q5.at T a dZ dG Y (CB:=CB)
 have xB:=lb m5.at T a xO (CB:=CB)
 have yV:=lV n2.at T d dD dM Y xB
 have yP:=jX g0.at T d dC dU Y yV
 have xY:=uF q1.at T zB yZ zC yP xB a dJ yW Y
 have c:=mD r8.at T U yM xW yU xM yE xU xR x9 yG
 have zD:=pZ (P:=l.prog) (w:=w) (base:=base) d5.at T f
 have xV:=uG g4.at T f c zD
 have y:=y.at (ps:=u0)
 have dI:=jB (P:=l.prog) (w:=w) (base:=base) y T
 have zE:=rH (P:=l.prog) (w:=w) (base:=base) y T 4 (dI 4 ⋯)
 have zA:=pG l4.at T U d a yN xZ yL yD dC dD dR dJ yB xG xT dI zE
 have xE:=jT k3.at T dA
 have yA:=kJ h7.at T dA
 have xL:=sC o3.at T dA xE yA dP (CB:=CB) (CD:=CD)
 have zF:=rf q8.at T zP yO dA zG dP zK xL xV xY
 have xP:=oN r5.at T xV xY (dI 4 ⋯) zA
 exact DB (ph (st:=cn) k0 j5 d9) T yO dP xL zF xP
theorem E3{l:W.OpenLaw}{q:Ξ}{c:Α}{p:(Str->Ν)->Ψ->Prop}{i:Ω->Ψ->Prop}{d:DefRec}{K:Params->ι}(hn:l.most=↑63)(e:d.params.defaults=[])
  (m:∀(w:Ω) (h:Ψ),i w h->(K w.params).In h)
  (F:∀(w:Ω) (mg:HE) (g:Δ) (h:Ψ),(K w.params).In h->h.Ns η mg->mg d.name=↑(-g)->
   ∃fd:FuncData,(∀(s:Θ) (u:Γ),BindsTo s fd #[[u],[]] [("_law_script",u)])/\∀base:Ψ,(K w.params).In base->base.Ns η mg->Mj l.prog w (K w.params) mg base bY 12 g fd ["_law_script"] (Oy (K w.params))):
  W.WalkO q c p i l.row.toRowW d [] (λf o=>PySem.call f o):=
 L2.BX (n:=63) (k:=12) (x:="_law_script") (CX:=λ_=>bY) (sp:=λw=>Oy (K w.params)) hn ⋯ e #[Z,⋯,⋯] m F (λ_ _ a j t _ r=>#[a,j,Z,r,t,λ_=>rfl]) λ_ _ _ _ _ z=>z
end Lw
namespace PySem.W.Fast
theorem tw4966520709831643530:True:=⟨⟩
theorem tw13180356225410134565:True:=⟨⟩
theorem tw10366065408529556037:True:=⟨⟩
theorem tw13817813959585941767:True:=⟨⟩
theorem tw13310240611546961593:True:=⟨⟩
theorem tw5001700807016329887:True:=⟨⟩
theorem tw14411439919162802400:True:=⟨⟩
theorem tw16894929400361954204:True:=⟨⟩
theorem tw16822535011239867903:True:=⟨⟩
theorem tw15371412215562558606:True:=⟨⟩
theorem tw8271446226353415349:True:=⟨⟩
theorem tw4117417772883699853:True:=⟨⟩
theorem tw2844395769625929840:True:=⟨⟩
theorem tw3444448718088595965:True:=⟨⟩
theorem tw8204774850629946097:True:=⟨⟩
theorem tw13769260185452570673:True:=⟨⟩
theorem tw7236934435781529868:True:=⟨⟩
theorem tw13014610722949153478:True:=⟨⟩
theorem tw3410811574499544270:True:=⟨⟩
theorem tw8646634505005965054:True:=⟨⟩
theorem tw3108827634720514189:True:=⟨⟩
theorem tw43043990848231350:True:=⟨⟩
theorem tw2046777848846706001:True:=⟨⟩
theorem tw10968837458349094807:True:=⟨⟩
theorem tw5545413441104805062:True:=⟨⟩
theorem tw3381211548579140142:True:=⟨⟩
theorem tw3511102661775151783:True:=⟨⟩
theorem tw5286024563512137229:True:=⟨⟩
theorem tw1429176919707095376:True:=⟨⟩
theorem tw11076700944351710087:True:=⟨⟩
theorem tw6557566987892245358:True:=⟨⟩
theorem tw12515410695174772555:True:=⟨⟩
theorem tw12211996878758782912:True:=⟨⟩
theorem tw7703932310240473615:True:=⟨⟩
theorem tw12941003038961025023:True:=⟨⟩
theorem tw17776910342611743909:True:=⟨⟩
theorem tw15768249927923537889:True:=⟨⟩
theorem tw13789592396299320981:True:=⟨⟩
theorem tw13312646641667629053:True:=⟨⟩
theorem tw15136498307424485136:True:=⟨⟩
theorem tw13638524053719229198:True:=⟨⟩
theorem tw8714428023126601144:True:=⟨⟩
theorem tw2252522723458268667:True:=⟨⟩
theorem tw553431762967463323:True:=⟨⟩
theorem tw8344187390696476472:True:=⟨⟩
theorem tw6710439175197407383:True:=⟨⟩
theorem tw3547300836160711390:True:=⟨⟩
theorem tw17446962761832152503:True:=⟨⟩
theorem tw12399682963641075248:True:=⟨⟩
theorem tw7480071580934717147:True:=⟨⟩
theorem tw9974030790298905980:True:=⟨⟩
theorem tw820183460233475775:True:=⟨⟩
theorem tw5524850703130394262:True:=⟨⟩
theorem tw15147266285542769852:True:=⟨⟩
theorem tw17353537301633090658:True:=⟨⟩
theorem tw7581368646579775160:True:=⟨⟩
theorem tw7323651196725720787:True:=⟨⟩
theorem tw6673442736182675606:True:=⟨⟩
theorem tw3220533813858495314:True:=⟨⟩
theorem tw1594692763383203394:True:=⟨⟩
theorem tw10224462990941940791:True:=⟨⟩
theorem tw12328409909587657569:True:=⟨⟩
theorem tw9861028792224186500:True:=⟨⟩
theorem tw1174061102893058612:True:=⟨⟩
theorem tw16454091679902500787:True:=⟨⟩
theorem tw6155524406375606168:True:=⟨⟩
theorem tw6010676338311469790:True:=⟨⟩
theorem tw15724968082759404760:True:=⟨⟩
theorem tw8578422668617309845:True:=⟨⟩
theorem tw15159084215997071578:True:=⟨⟩
theorem tw12844048636929599884:True:=⟨⟩
theorem tw13100006617911380471:True:=⟨⟩
theorem tw15034157664909670787:True:=⟨⟩
theorem tw13388112742429269811:True:=⟨⟩
theorem tw3539832867839987138:True:=⟨⟩
theorem tw11776944823378098871:True:=⟨⟩
theorem tw3990917333974427851:True:=⟨⟩
theorem tw10089981336103613863:True:=⟨⟩
theorem tw11219326038698397887:True:=⟨⟩
theorem tw6457055853472121128:True:=⟨⟩
theorem tw14855989680763880011:True:=⟨⟩
theorem tw9020329968549849827:True:=⟨⟩
theorem tw2862538528719025082:True:=⟨⟩
theorem tw5772661894765917331:True:=⟨⟩
theorem tw15700194827617568324:True:=⟨⟩
theorem tw14480256789177963761:True:=⟨⟩
theorem tw3183147921697102383:True:=⟨⟩
theorem tw13383611721090953993:True:=⟨⟩
theorem tw3179255126101330108:True:=⟨⟩
theorem tw3998480823504775588:True:=⟨⟩
theorem tw17888150898653325332:True:=⟨⟩
theorem tw13841498401653171391:True:=⟨⟩
theorem tw6439165308829383401:True:=⟨⟩
theorem tw5779247618784384185:True:=⟨⟩
theorem tw11261435659962445670:True:=⟨⟩
theorem tw16248496881281284575:True:=⟨⟩
theorem tw18203449605875409118:True:=⟨⟩
theorem tw16421700719400759505:True:=⟨⟩
theorem tw17344603457121231375:True:=⟨⟩
theorem tw2734094324663552699:True:=⟨⟩
theorem tw15700478091059846657:True:=⟨⟩
theorem tw1811411418066238244:True:=⟨⟩
theorem tw1836965688242937670:True:=⟨⟩
theorem tw14492870074530303004:True:=⟨⟩
theorem tw16241781993274860991:True:=⟨⟩
theorem tw7545340835786988038:True:=⟨⟩
theorem tw13969255465789509335:True:=⟨⟩
theorem tw14062573191302064264:True:=⟨⟩
theorem tw9465255360840608051:True:=⟨⟩
theorem tw12303694735543969670:True:=⟨⟩
theorem tw6204257264355414495:True:=⟨⟩
theorem tw16414430483145042584:True:=⟨⟩
theorem tw5984172234667302297:True:=⟨⟩
theorem tw14498468786274026377:True:=⟨⟩
theorem tw1552345646342756261:True:=⟨⟩
theorem tw8008530648451647720:True:=⟨⟩
theorem tw16367376997101756917:True:=⟨⟩
theorem tw4404563376953606139:True:=⟨⟩
theorem tw15820810317625414181:True:=⟨⟩
theorem tw18043435664611447897:True:=⟨⟩
theorem tw2163285947396355604:True:=⟨⟩
theorem tw16092258258610167246:True:=⟨⟩
theorem tw8602391146569420348:True:=⟨⟩
theorem tw5067253067735825395:True:=⟨⟩
theorem tw17626945162580564729:True:=⟨⟩
theorem tw11220475006869030599:True:=⟨⟩
theorem tw2804843824397193172:True:=⟨⟩
theorem tw11052203893306409124:True:=⟨⟩
theorem tw10788925485470989111:True:=⟨⟩
theorem tw4181001336776758029:True:=⟨⟩
theorem tw1744764055228394678:True:=⟨⟩
theorem tw1785264072083984548:True:=⟨⟩
theorem tw11531112964747503433:True:=⟨⟩
theorem tw2817804453016876333:True:=⟨⟩
theorem tw18020403574884255376:True:=⟨⟩
theorem tw4461753344180538733:True:=⟨⟩
theorem tw14903080547996945679:True:=⟨⟩
theorem tw10760800815429263093:True:=⟨⟩
theorem tw14453318930039847568:True:=⟨⟩
theorem tw13357384003435222503:True:=⟨⟩
theorem tw14809363851478546795:True:=⟨⟩
theorem tw2453899452610958296:True:=⟨⟩
theorem tw13180959918132338545:True:=⟨⟩
theorem tw12619183446846051758:True:=⟨⟩
theorem tw13708986046205853799:True:=⟨⟩
theorem tw11431392171292276930:True:=⟨⟩
theorem tw1552689053176158648:True:=⟨⟩
theorem tw5414816694095661577:True:=⟨⟩
theorem tw16850912216704024625:True:=⟨⟩
theorem tw2508901127783338654:True:=⟨⟩
theorem tw5305554102819124121:True:=⟨⟩
theorem tw2601845050180880488:True:=⟨⟩
theorem tw840316205899213160:True:=⟨⟩
theorem tw6244119253866606066:True:=⟨⟩
theorem tw10118491606047852668:True:=⟨⟩
theorem tw10923263701805846364:True:=⟨⟩
theorem tw1955313510192201883:True:=⟨⟩
theorem tw1033525611857143859:True:=⟨⟩
theorem tw1119316923682270819:True:=⟨⟩
theorem tw1412891796059387187:True:=⟨⟩
theorem tw11500202940767884127:True:=⟨⟩
theorem tw9401229581127964666:True:=⟨⟩
theorem tw5488198862640343450:True:=⟨⟩
theorem tw4025708913152456870:True:=⟨⟩
theorem tw4408792122317031041:True:=⟨⟩
theorem tw2537734750470778169:True:=⟨⟩
theorem tw6791475456883978734:True:=⟨⟩
theorem tw5618662956138384404:True:=⟨⟩
theorem tw5589133462855294238:True:=⟨⟩
theorem tw18005931536249262484:True:=⟨⟩
theorem tw16484412113976275132:True:=⟨⟩
theorem tw13056210221099890955:True:=⟨⟩
theorem tw4803979914023774952:True:=⟨⟩
theorem tw12509384583974384921:True:=⟨⟩
theorem tw13146710729781407404:True:=⟨⟩
theorem tw5374198287729584117:True:=⟨⟩
theorem tw4853256237288884490:True:=⟨⟩
theorem tw17204037791956791054:True:=⟨⟩
theorem tw2411702949371967048:True:=⟨⟩
theorem tw14867696266953344832:True:=⟨⟩
theorem tw4702268498655331040:True:=⟨⟩
theorem tw5351657460065159340:True:=⟨⟩
theorem tw14199390353261888122:True:=⟨⟩
theorem tw1923090714300019846:True:=⟨⟩
theorem tw9362735782311038905:True:=⟨⟩
theorem tw2215544709636042277:True:=⟨⟩
theorem tw1782911875956322337:True:=⟨⟩
theorem tw1058831081611917311:True:=⟨⟩
theorem tw17281089204023044211:True:=⟨⟩
theorem tw6335589756776264891:True:=⟨⟩
theorem tw11242986508109539456:True:=⟨⟩
theorem tw14792728184481674537:True:=⟨⟩
theorem tw17787150888014387290:True:=⟨⟩
theorem tw14937881733026384319:True:=⟨⟩
theorem tw1003133974712521148:True:=⟨⟩
theorem tw2635241155075639631:True:=⟨⟩
theorem tw2924511706935036240:True:=⟨⟩
theorem tw12412561185603767856:True:=⟨⟩
theorem tw29574676994465313:True:=⟨⟩
theorem tw14739741127732222917:True:=⟨⟩
theorem tw6972811633842155412:True:=⟨⟩
theorem tw7937899374680060304:True:=⟨⟩
theorem tw1278806032887097100:True:=⟨⟩
theorem tw7371551901710428356:True:=⟨⟩
theorem tw6750242084600921312:True:=⟨⟩
theorem tw302074994534388096:True:=⟨⟩
theorem tw7529047728334068066:True:=⟨⟩
theorem tw4954384849491598039:True:=⟨⟩
theorem tw7634165559819115391:True:=⟨⟩
theorem tw14126279534347063061:True:=⟨⟩
theorem tw1384796575111946494:True:=⟨⟩
theorem tw11431419118607528006:True:=⟨⟩
theorem tw11607833354600573712:True:=⟨⟩
theorem tw11571653250871281168:True:=⟨⟩
theorem tw10498108051539800984:True:=⟨⟩
theorem tw13663079264821985961:True:=⟨⟩
theorem tw10401991294805919670:True:=⟨⟩
theorem tw7724597252740140114:True:=⟨⟩
theorem tw17250288221153630760:True:=⟨⟩
theorem tw6154476699173363429:True:=⟨⟩
theorem tw10362146739840797956:True:=⟨⟩
theorem tw7806507704907077914:True:=⟨⟩
theorem tw2788095474999584074:True:=⟨⟩
theorem tw3247060605102025564:True:=⟨⟩
theorem tw2171805695282122991:True:=⟨⟩
theorem tw2723496276989366091:True:=⟨⟩
theorem tw14457092457644895257:True:=⟨⟩
theorem tw17778376522663486164:True:=⟨⟩
theorem tw13160907917127761991:True:=⟨⟩
theorem tw15584499160358809077:True:=⟨⟩
theorem tw13448170045614930576:True:=⟨⟩
theorem tw6842378530321006447:True:=⟨⟩
theorem tw11307191863798938763:True:=⟨⟩
theorem tw14449797384751194243:True:=⟨⟩
theorem tw14984568558500579517:True:=⟨⟩
theorem tw12384610788951361380:True:=⟨⟩
theorem tw5385118856334168208:True:=⟨⟩
theorem tw12290621546629733294:True:=⟨⟩
theorem tw3641662258127988015:True:=⟨⟩
theorem tw8011291295850004300:True:=⟨⟩
theorem tw6989359136972658173:True:=⟨⟩
theorem tw9833615845944174582:True:=⟨⟩
theorem tw10841901163661429501:True:=⟨⟩
theorem tw12912348238436766217:True:=⟨⟩
theorem tw8700264967867040824:True:=⟨⟩
theorem tw11595421721356155121:True:=⟨⟩
theorem tw13658499971979246789:True:=⟨⟩
theorem tw5416699794816746194:True:=⟨⟩
theorem tw17462465721583552544:True:=⟨⟩
theorem tw2502964502893972745:True:=⟨⟩
theorem tw10036791342394003442:True:=⟨⟩
theorem tw7031206350060922382:True:=⟨⟩
theorem tw15479794697390951125:True:=⟨⟩
theorem tw15012328610595815522:True:=⟨⟩
theorem tw12295405905859311085:True:=⟨⟩
theorem tw10040529047291227325:True:=⟨⟩
theorem tw783365910791290215:True:=⟨⟩
theorem tw10135117155756186576:True:=⟨⟩
theorem tw3531258792799180195:True:=⟨⟩
theorem tw9605200736803070229:True:=⟨⟩
theorem tw13633068835584587632:True:=⟨⟩
theorem tw12725510557434258918:True:=⟨⟩
theorem tw3819926873542311831:True:=⟨⟩
theorem tw4972792113322823696:True:=⟨⟩
theorem tw15560627113688218759:True:=⟨⟩
theorem tw15091922296214756119:True:=⟨⟩
theorem tw12101586570404114293:True:=⟨⟩
theorem tw15543388654194065911:True:=⟨⟩
theorem tw6919686633628658261:True:=⟨⟩
theorem tw13379130376170470149:True:=⟨⟩
theorem tw14596694087983937311:True:=⟨⟩
theorem tw14781782791505951849:True:=⟨⟩
theorem tw6612099293085581105:True:=⟨⟩
theorem tw10233513605203660013:True:=⟨⟩
theorem tw13222644975027891146:True:=⟨⟩
theorem tw10568786426270367343:True:=⟨⟩
theorem tw2605192907584421440:True:=⟨⟩
theorem tw11931531952656217371:True:=⟨⟩
theorem tw1547645609697438480:True:=⟨⟩
theorem tw16814022750490644132:True:=⟨⟩
theorem tw12027522802448094208:True:=⟨⟩
theorem tw1214694195723696598:True:=⟨⟩
theorem tw11278305217033228362:True:=⟨⟩
theorem tw5918723909052104634:True:=⟨⟩
theorem tw7624159226236607783:True:=⟨⟩
theorem tw1036180215551540367:True:=⟨⟩
theorem tw1560607574486582069:True:=⟨⟩
theorem tw1588658929322552754:True:=⟨⟩
theorem tw2547452991335525244:True:=⟨⟩
theorem tw12383549983707735187:True:=⟨⟩
theorem tw14451516404370337462:True:=⟨⟩
theorem tw4230026532568379814:True:=⟨⟩
theorem tw13924334301043805177:True:=⟨⟩
theorem tw17807478717013749070:True:=⟨⟩
theorem tw13202678614461458272:True:=⟨⟩
theorem tw14398692029642278103:True:=⟨⟩
theorem tw621265597025859576:True:=⟨⟩
theorem tw13908103562340772695:True:=⟨⟩
theorem tw2394874472828759844:True:=⟨⟩
theorem tw11007222297952530790:True:=⟨⟩
theorem tw12126595162340471946:True:=⟨⟩
theorem tw1411053989029493984:True:=⟨⟩
theorem tw6394558984463590537:True:=⟨⟩
theorem tw10176494634804457406:True:=⟨⟩
theorem tw14887504851586926079:True:=⟨⟩
theorem tw1823173487755815166:True:=⟨⟩
theorem tw2721974029408364246:True:=⟨⟩
theorem tw6121454778956342676:True:=⟨⟩
theorem tw17736745109354245977:True:=⟨⟩
theorem tw16261778062220796966:True:=⟨⟩
theorem tw13578318865029226646:True:=⟨⟩
theorem tw10258019232421242659:True:=⟨⟩
theorem tw1970269752444184965:True:=⟨⟩
theorem tw7673168562075533284:True:=⟨⟩
theorem tw13770244484788948488:True:=⟨⟩
theorem tw7553213854125839525:True:=⟨⟩
theorem tw9950769591324084767:True:=⟨⟩
theorem tw6365137994384031552:True:=⟨⟩
theorem tw8098979315286881896:True:=⟨⟩
theorem tw11050937611715875559:True:=⟨⟩
theorem tw7982635035321881567:True:=⟨⟩
theorem tw4366052271144393678:True:=⟨⟩
theorem tw4345515159812192496:True:=⟨⟩
theorem tw2987854955981394224:True:=⟨⟩
theorem tw4426232390969186267:True:=⟨⟩
theorem tw15938270767240270688:True:=⟨⟩
theorem tw1847225144223043990:True:=⟨⟩
theorem tw10572593900593684367:True:=⟨⟩
theorem tw15762211078703634117:True:=⟨⟩
theorem tw14590480161183601356:True:=⟨⟩
theorem tw8353054726333818864:True:=⟨⟩
theorem tw6908701015870031969:True:=⟨⟩
theorem tw7575116981119413333:True:=⟨⟩
theorem tw11168234978735031444:True:=⟨⟩
theorem tw4246932488635608526:True:=⟨⟩
theorem tw10035433413471587399:True:=⟨⟩
theorem tw9918293120959141381:True:=⟨⟩
theorem tw1505878324767179974:True:=⟨⟩
theorem tw16492115761919301714:True:=⟨⟩
theorem tw16600662864852337467:True:=⟨⟩
theorem tw10219275574395151218:True:=⟨⟩
theorem tw5195874664370460444:True:=⟨⟩
theorem tw19028487987603190:True:=⟨⟩
theorem tw17582118132750720168:True:=⟨⟩
theorem tw10510979238421510062:True:=⟨⟩
theorem tw8611078838395121912:True:=⟨⟩
theorem tw13949908705104603597:True:=⟨⟩
theorem tw4902952659047953123:True:=⟨⟩
theorem tw4409590416801984625:True:=⟨⟩
theorem tw3144628585133798249:True:=⟨⟩
theorem tw13702403876386987335:True:=⟨⟩
theorem tw10173799395370221966:True:=⟨⟩
theorem tw16215083204730077649:True:=⟨⟩
theorem tw4351534596212864625:True:=⟨⟩
theorem tw12591130401724378955:True:=⟨⟩
theorem tw10851314966416585869:True:=⟨⟩
theorem tw7315524252091161446:True:=⟨⟩
theorem tw7228178798180692057:True:=⟨⟩
theorem tw9557034645751076677:True:=⟨⟩
theorem tw8617607848343314000:True:=⟨⟩
theorem tw14230171384729185695:True:=⟨⟩
theorem tw16861170593222574239:True:=⟨⟩
theorem tw9649459210127833325:True:=⟨⟩
theorem tw5223065242903108703:True:=⟨⟩
theorem tw4632771441397621322:True:=⟨⟩
theorem tw14023560282616629687:True:=⟨⟩
theorem tw2588644773275677788:True:=⟨⟩
theorem tw3509325612853161897:True:=⟨⟩
theorem tw6325745456458407076:True:=⟨⟩
theorem tw5494979601450756183:True:=⟨⟩
theorem tw7637184014303492700:True:=⟨⟩
theorem tw18244425761710609157:True:=⟨⟩
theorem tw14146539137094006105:True:=⟨⟩
theorem tw7040003095039227097:True:=⟨⟩
theorem tw16886818316880667955:True:=⟨⟩
theorem tw4958432130179295865:True:=⟨⟩
theorem tw1479331782007628048:True:=⟨⟩
theorem tw9416884399240566629:True:=⟨⟩
theorem tw15428699812882796142:True:=⟨⟩
theorem tw1855426567343790115:True:=⟨⟩
theorem tw14195111105131774142:True:=⟨⟩
theorem tw13618271795580131624:True:=⟨⟩
theorem tw289994992569818817:True:=⟨⟩
theorem tw3315831355713958456:True:=⟨⟩
theorem tw5846557256685682688:True:=⟨⟩
theorem tw14083190161611284442:True:=⟨⟩
theorem tw3100127798714183421:True:=⟨⟩
theorem tw13168517555121945969:True:=⟨⟩
theorem tw4461509592350439086:True:=⟨⟩
theorem tw2095694980153395303:True:=⟨⟩
theorem tw14824289450415979361:True:=⟨⟩
theorem tw17190349720460633385:True:=⟨⟩
theorem tw16909016124360535934:True:=⟨⟩
theorem tw8734290830738429959:True:=⟨⟩
theorem tw450818195324576142:True:=⟨⟩
theorem tw17431898536927524971:True:=⟨⟩
theorem tw5310840612403939782:True:=⟨⟩
theorem tw1370338283232458452:True:=⟨⟩
theorem tw7298949474351312985:True:=⟨⟩
theorem tw1979754396950868498:True:=⟨⟩
theorem tw239777445146389730:True:=⟨⟩
theorem tw6773500003160737746:True:=⟨⟩
theorem tw17720426651720962355:True:=⟨⟩
theorem tw1473333256220426370:True:=⟨⟩
theorem tw5442827607156006589:True:=⟨⟩
theorem tw831423568818130503:True:=⟨⟩
theorem tw6475344060107030930:True:=⟨⟩
theorem tw13698587795219919053:True:=⟨⟩
theorem tw10726795832313637143:True:=⟨⟩
theorem tw16812006960028348724:True:=⟨⟩
theorem tw10547756455483055460:True:=⟨⟩
theorem tw13423676529971210138:True:=⟨⟩
theorem tw16190360941387040442:True:=⟨⟩
theorem tw8131894943788378115:True:=⟨⟩
theorem tw12902684181377687570:True:=⟨⟩
theorem tw15744120504702164754:True:=⟨⟩
theorem tw4368790278869105204:True:=⟨⟩
theorem tw13927352882131591142:True:=⟨⟩
theorem tw7288022328034238519:True:=⟨⟩
theorem tw16627080668977714251:True:=⟨⟩
theorem tw7954716339309412259:True:=⟨⟩
theorem tw17388562802984548992:True:=⟨⟩
theorem tw17441992030219243278:True:=⟨⟩
theorem tw14594976754553089040:True:=⟨⟩
theorem tw15210959243155183093:True:=⟨⟩
theorem tw5514935468795064073:True:=⟨⟩
theorem tw620488337055899825:True:=⟨⟩
theorem tw15120942877188595714:True:=⟨⟩
theorem tw6448949884245124521:True:=⟨⟩
theorem tw14697614542938770320:True:=⟨⟩
theorem tw14341217989702199033:True:=⟨⟩
theorem tw6958312801631269621:True:=⟨⟩
theorem tw2089789998008250712:True:=⟨⟩
theorem tw7599221974016930426:True:=⟨⟩
theorem tw12292838712407856688:True:=⟨⟩
theorem tw6442564302680745626:True:=⟨⟩
theorem tw2280081500963242316:True:=⟨⟩
theorem tw3978529371473640848:True:=⟨⟩
theorem tw7741571355344040239:True:=⟨⟩
theorem tw17238069154363002957:True:=⟨⟩
theorem tw222841386332779968:True:=⟨⟩
theorem tw7149257091956535327:True:=⟨⟩
theorem tw1403963849183870075:True:=⟨⟩
theorem tw5092819854680139315:True:=⟨⟩
theorem tw18065372854568579835:True:=⟨⟩
theorem tw5300795799426907940:True:=⟨⟩
theorem tw3048846356310334439:True:=⟨⟩
theorem tw3435192214338190927:True:=⟨⟩
theorem tw5108435298049959088:True:=⟨⟩
theorem tw15458403609018255231:True:=⟨⟩
theorem tw15324060489384964078:True:=⟨⟩
theorem tw12257571882238520477:True:=⟨⟩
theorem tw8466350042896887402:True:=⟨⟩
theorem tw13030543734888669811:True:=⟨⟩
theorem tw15044675888370780188:True:=⟨⟩
theorem tw2799507767029809167:True:=⟨⟩
theorem tw18227574791454598962:True:=⟨⟩
theorem tw9245437860982872192:True:=⟨⟩
theorem tw15318505543643444377:True:=⟨⟩
theorem tw8806624291540204955:True:=⟨⟩
theorem tw10574899026563068331:True:=⟨⟩
theorem tw7638537905615313253:True:=⟨⟩
theorem tw15152770737060137193:True:=⟨⟩
theorem tw16432551745594143684:True:=⟨⟩
theorem tw14063354977431062440:True:=⟨⟩
theorem tw651497762383455578:True:=⟨⟩
theorem tw9064060467212771203:True:=⟨⟩
theorem tw12738446437291380265:True:=⟨⟩
theorem tw101896507617608670:True:=⟨⟩
theorem tw1903985773429038144:True:=⟨⟩
theorem tw1757124857975893548:True:=⟨⟩
theorem tw1661723167620465769:True:=⟨⟩
theorem tw12363238748194729041:True:=⟨⟩
theorem tw5022669755669550750:True:=⟨⟩
theorem tw16644611764861211844:True:=⟨⟩
theorem tw14964003049848578013:True:=⟨⟩
theorem tw17011728704423452921:True:=⟨⟩
theorem tw5000177848767538774:True:=⟨⟩
theorem tw8041601695289957624:True:=⟨⟩
theorem tw14642061236224292526:True:=⟨⟩
theorem tw17288815371778235930:True:=⟨⟩
theorem tw8829820042675836531:True:=⟨⟩
theorem tw5899584456276504929:True:=⟨⟩
theorem tw11941485869361772953:True:=⟨⟩
theorem tw9726063274625589280:True:=⟨⟩
theorem tw11859701832380932135:True:=⟨⟩
theorem tw13870520407786822139:True:=⟨⟩
theorem tw3396933780974763190:True:=⟨⟩
theorem tw6315875840736472711:True:=⟨⟩
theorem tw1504552405060540019:True:=⟨⟩
theorem tw12498899647580831061:True:=⟨⟩
theorem tw7488719687660812493:True:=⟨⟩
theorem tw6498861565177408476:True:=⟨⟩
theorem tw12786590446605217090:True:=⟨⟩
theorem tw9633772517443406243:True:=⟨⟩
theorem tw6481987513627721829:True:=⟨⟩
theorem tw9815242535718080703:True:=⟨⟩
theorem tw16450353583362557634:True:=⟨⟩
theorem tw13892204323882329015:True:=⟨⟩
theorem tw5201300189025426677:True:=⟨⟩
theorem tw3121543020055713242:True:=⟨⟩
theorem tw2779080768584836501:True:=⟨⟩
theorem tw18355708733668980549:True:=⟨⟩
theorem tw1009669976539119193:True:=⟨⟩
theorem tw13764122545909911915:True:=⟨⟩
theorem tw17931918592398851010:True:=⟨⟩
theorem tw11089590932340546250:True:=⟨⟩
theorem tw18196979225697495571:True:=⟨⟩
theorem tw6550028925249776449:True:=⟨⟩
theorem tw13802461525292903233:True:=⟨⟩
theorem tw14551680276702745394:True:=⟨⟩
theorem tw12662126621869809989:True:=⟨⟩
theorem tw1010044290056113019:True:=⟨⟩
theorem tw13032593813104162555:True:=⟨⟩
theorem tw2213341921091685935:True:=⟨⟩
theorem tw4798446489229687940:True:=⟨⟩
theorem tw18013263158856068490:True:=⟨⟩
theorem tw4287360645266089061:True:=⟨⟩
theorem tw10368964285845856310:True:=⟨⟩
theorem tw4470209176684480556:True:=⟨⟩
theorem tw3015821664633489809:True:=⟨⟩
theorem tw5985967231158970729:True:=⟨⟩
theorem tw6087528854693299134:True:=⟨⟩
theorem tw6614583944653458482:True:=⟨⟩
theorem tw5486466650638017092:True:=⟨⟩
theorem tw4570003099607911231:True:=⟨⟩
theorem tw8426079619290417322:True:=⟨⟩
theorem tw7760851009595464631:True:=⟨⟩
theorem tw16441021496673028146:True:=⟨⟩
theorem tw6848360987756163816:True:=⟨⟩
theorem tw569712702540795007:True:=⟨⟩
theorem tw16027395815295105413:True:=⟨⟩
theorem tw13822282775875576166:True:=⟨⟩
theorem tw816002790459859796:True:=⟨⟩
theorem tw17184389349806117622:True:=⟨⟩
theorem tw2528455456310905020:True:=⟨⟩
theorem tw16046939281509703511:True:=⟨⟩
theorem tw4128720945621675099:True:=⟨⟩
theorem tw7926290237814780088:True:=⟨⟩
theorem tw14720377672720089294:True:=⟨⟩
theorem tw6379049714079090527:True:=⟨⟩
theorem tw11747493880360607206:True:=⟨⟩
theorem tw2986472346169262462:True:=⟨⟩
theorem tw7667351602590968168:True:=⟨⟩
theorem tw7536048004456171851:True:=⟨⟩
theorem tw3292365262369849879:True:=⟨⟩
theorem tw9916399040294288248:True:=⟨⟩
theorem tw17974659314253970517:True:=⟨⟩
theorem tw13233863036889901086:True:=⟨⟩
theorem tw8674539864854097426:True:=⟨⟩
theorem tw10092552045444202564:True:=⟨⟩
theorem tw14540119191549427354:True:=⟨⟩
theorem tw15856600076072177407:True:=⟨⟩
theorem tw3144885902233335437:True:=⟨⟩
theorem tw16683698912601001063:True:=⟨⟩
theorem tw3990026883782143415:True:=⟨⟩
theorem tw4141673618933226195:True:=⟨⟩
theorem tw9487421974046468089:True:=⟨⟩
theorem tw1488488449084852570:True:=⟨⟩
theorem tw16048207741144556498:True:=⟨⟩
theorem tw3862907016908542503:True:=⟨⟩
theorem tw13752509739531483932:True:=⟨⟩
theorem tw8291080432714644417:True:=⟨⟩
theorem tw5336840637664654131:True:=⟨⟩
theorem tw5490746977998499385:True:=⟨⟩
theorem tw208402640614531312:True:=⟨⟩
theorem tw3598570616909278686:True:=⟨⟩
theorem tw11888287755385874928:True:=⟨⟩
theorem tw14645894823802852566:True:=⟨⟩
theorem tw553946853482473790:True:=⟨⟩
theorem tw5605204311255934506:True:=⟨⟩
theorem tw16547557352317469421:True:=⟨⟩
theorem tw1679934229397714473:True:=⟨⟩
theorem tw14404215840049099282:True:=⟨⟩
theorem tw6352578123744972757:True:=⟨⟩
theorem tw6657984617747698237:True:=⟨⟩
theorem tw2021740950837380358:True:=⟨⟩
theorem tw18100962021827940711:True:=⟨⟩
theorem tw3110792867762680841:True:=⟨⟩
theorem tw16860094437229272968:True:=⟨⟩
theorem tw1708440206085856992:True:=⟨⟩
theorem tw2247462175297413692:True:=⟨⟩
theorem tw17774960572034171003:True:=⟨⟩
theorem tw8996855980705368139:True:=⟨⟩
theorem tw4862937068107347834:True:=⟨⟩
theorem tw16979431215159452549:True:=⟨⟩
theorem tw8171977206352008176:True:=⟨⟩
theorem tw17957378884060637061:True:=⟨⟩
theorem tw14839225125963932784:True:=⟨⟩
theorem tw12968302531859097052:True:=⟨⟩
theorem tw17336416405227311770:True:=⟨⟩
theorem tw10756462670852028147:True:=⟨⟩
theorem tw2096754769640692129:True:=⟨⟩
theorem tw11382695945427623313:True:=⟨⟩
theorem tw4577199834269552633:True:=⟨⟩
theorem tw13315780301203768683:True:=⟨⟩
theorem tw8767041871453160133:True:=⟨⟩
theorem tw10481589403601127379:True:=⟨⟩
theorem tw5392180267916971723:True:=⟨⟩
theorem tw15552037714337585079:True:=⟨⟩
theorem tw15414884731166490610:True:=⟨⟩
theorem tw12048723013271995560:True:=⟨⟩
theorem tw11011581521530281653:True:=⟨⟩
theorem tw17887621209658433764:True:=⟨⟩
theorem tw14914127972899765859:True:=⟨⟩
theorem tw5262755199885399966:True:=⟨⟩
theorem tw17381620077153657711:True:=⟨⟩
theorem tw4845894131821229925:True:=⟨⟩
theorem tw8734633540604390276:True:=⟨⟩
theorem tw1554893356207563926:True:=⟨⟩
theorem tw1995278785204711465:True:=⟨⟩
theorem tw9367355466729658739:True:=⟨⟩
theorem tw11901997780505129607:True:=⟨⟩
theorem tw11030290597239699357:True:=⟨⟩
theorem tw8810651750574562046:True:=⟨⟩
theorem tw9916087671471215405:True:=⟨⟩
theorem tw2181797057582986593:True:=⟨⟩
theorem tw3345972812293166069:True:=⟨⟩
theorem tw4235733280741922193:True:=⟨⟩
theorem tw5723534170048362686:True:=⟨⟩
theorem tw11926687918473571096:True:=⟨⟩
theorem tw10887281084646498500:True:=⟨⟩
theorem tw15808728565383832355:True:=⟨⟩
theorem tw16148363802177048595:True:=⟨⟩
theorem tw8422031401033894163:True:=⟨⟩
theorem tw17616304326126191985:True:=⟨⟩
theorem tw7023766529845520049:True:=⟨⟩
theorem tw17308552343289368262:True:=⟨⟩
theorem tw8415377903839999048:True:=⟨⟩
theorem tw8034715075711971930:True:=⟨⟩
theorem tw1986158128395625509:True:=⟨⟩
theorem tw13364112585846366511:True:=⟨⟩
theorem tw273312721183263086:True:=⟨⟩
theorem tw18393809339284895716:True:=⟨⟩
theorem tw10852134734040223152:True:=⟨⟩
theorem tw10994997139851168403:True:=⟨⟩
theorem tw5211172879385094175:True:=⟨⟩
theorem tw15466792143496055635:True:=⟨⟩
theorem tw16049218125102331832:True:=⟨⟩
theorem tw961734470370696295:True:=⟨⟩
theorem tw17326345037653143585:True:=⟨⟩
theorem tw8586760041171767807:True:=⟨⟩
theorem tw9626538143425218263:True:=⟨⟩
theorem tw8328477650310377210:True:=⟨⟩
theorem tw12959787361082019712:True:=⟨⟩
theorem tw6210640532860071112:True:=⟨⟩
theorem tw2172887574346900448:True:=⟨⟩
theorem tw1614531466306264254:True:=⟨⟩
theorem tw6017232848181975071:True:=⟨⟩
theorem tw14902465190737848654:True:=⟨⟩
theorem tw618879175230472663:True:=⟨⟩
theorem tw11131490916207913221:True:=⟨⟩
theorem tw7912161769730564069:True:=⟨⟩
theorem tw13838469051589223923:True:=⟨⟩
theorem tw6824622161892452748:True:=⟨⟩
theorem tw5147771995737543534:True:=⟨⟩
theorem tw10339544740691225260:True:=⟨⟩
theorem tw15593018070005290249:True:=⟨⟩
theorem tw14281134663144822948:True:=⟨⟩
theorem tw15307577105643754413:True:=⟨⟩
theorem tw16005076412589513841:True:=⟨⟩
theorem tw4953342438001688003:True:=⟨⟩
theorem tw13674885671275117049:True:=⟨⟩
theorem tw12104620447687800299:True:=⟨⟩
theorem tw7558759698297522064:True:=⟨⟩
theorem tw3736700338983762263:True:=⟨⟩
theorem tw12553393872957421985:True:=⟨⟩
theorem tw14138644204811037246:True:=⟨⟩
theorem tw316973072810029040:True:=⟨⟩
theorem tw5744852687256796286:True:=⟨⟩
theorem tw4948718064791727834:True:=⟨⟩
theorem tw13788347311527678069:True:=⟨⟩
theorem tw13004872702854046606:True:=⟨⟩
theorem tw8428636025602262011:True:=⟨⟩
theorem tw8604676886884378955:True:=⟨⟩
theorem tw12532117335992335969:True:=⟨⟩
theorem tw6699593017264420805:True:=⟨⟩
theorem tw12353392002730393976:True:=⟨⟩
theorem tw4531686933992871465:True:=⟨⟩
theorem tw14339875323402512276:True:=⟨⟩
theorem tw5796459687135123957:True:=⟨⟩
theorem tw4828837814422981457:True:=⟨⟩
theorem tw10940211432282265028:True:=⟨⟩
theorem tw13469623620793742501:True:=⟨⟩
theorem tw222384164496413814:True:=⟨⟩
theorem tw12224796396276873087:True:=⟨⟩
theorem tw17588471099893471154:True:=⟨⟩
theorem tw995176948124236912:True:=⟨⟩
theorem tw9227551984777325358:True:=⟨⟩
theorem tw3662836884160415941:True:=⟨⟩
theorem tw5740870914763082229:True:=⟨⟩
theorem tw9914641206665778597:True:=⟨⟩
theorem tw2475540226708287421:True:=⟨⟩
theorem tw14625326175552067390:True:=⟨⟩
theorem tw4622823407899616840:True:=⟨⟩
theorem tw8772462952138373336:True:=⟨⟩
theorem tw987366552144212854:True:=⟨⟩
theorem tw13583901941102676110:True:=⟨⟩
theorem tw12753503719948305592:True:=⟨⟩
theorem tw4245052910987389511:True:=⟨⟩
theorem tw2764651387368933825:True:=⟨⟩
theorem tw15355888537695536848:True:=⟨⟩
theorem tw14579501507018959474:True:=⟨⟩
theorem tw9917476041750500027:True:=⟨⟩
theorem tw1858197197984653088:True:=⟨⟩
theorem tw4358188052983514160:True:=⟨⟩
theorem tw15879251627459674933:True:=⟨⟩
theorem tw9940923088210301897:True:=⟨⟩
theorem tw12267429674456484067:True:=⟨⟩
theorem tw14071932790966878477:True:=⟨⟩
theorem tw8297495169020631127:True:=⟨⟩
theorem tw11530217881281379992:True:=⟨⟩
theorem tw16039889050568725299:True:=⟨⟩
theorem tw15675191671595879500:True:=⟨⟩
theorem tw5126066661571640298:True:=⟨⟩
theorem tw15979290301278425341:True:=⟨⟩
theorem tw11030205771414044469:True:=⟨⟩
theorem tw5743659736363978863:True:=⟨⟩
theorem tw10237616471859592645:True:=⟨⟩
theorem tw17715180260950462873:True:=⟨⟩
theorem tw16131165376141490512:True:=⟨⟩
theorem tw17058376119338481735:True:=⟨⟩
theorem tw7292772161814981217:True:=⟨⟩
theorem tw17950379008902244077:True:=⟨⟩
theorem tw16019656683309743808:True:=⟨⟩
theorem tw4474339655266854213:True:=⟨⟩
theorem tw9622828466705761063:True:=⟨⟩
theorem tw15287213218426923496:True:=⟨⟩
theorem tw15347956571012686994:True:=⟨⟩
theorem tw12530230290587174278:True:=⟨⟩
theorem tw15864765970231731647:True:=⟨⟩
theorem tw17890564693702717414:True:=⟨⟩
theorem tw1912129824992319393:True:=⟨⟩
theorem tw6898132027062213287:True:=⟨⟩
theorem tw1589567029899350117:True:=⟨⟩
theorem tw14348944486410101026:True:=⟨⟩
theorem tw5663441464275234702:True:=⟨⟩
theorem tw369114627748233093:True:=⟨⟩
theorem tw16386364804140068411:True:=⟨⟩
theorem tw8845687548340342873:True:=⟨⟩
theorem tw3704378476916226991:True:=⟨⟩
theorem tw828833624362553716:True:=⟨⟩
theorem tw12675723214023630810:True:=⟨⟩
theorem tw17222134667275163467:True:=⟨⟩
theorem tw5569293090406102188:True:=⟨⟩
theorem tw18254483254224705661:True:=⟨⟩
theorem tw18395640013290709883:True:=⟨⟩
theorem tw755503665126679906:True:=⟨⟩
theorem tw18138641962553151107:True:=⟨⟩
theorem tw12679623835832394886:True:=⟨⟩
theorem tw6989461338718647634:True:=⟨⟩
theorem tw11507305710054566038:True:=⟨⟩
theorem tw5315507356456883751:True:=⟨⟩
theorem tw12660370894504114726:True:=⟨⟩
theorem tw1851867005093736772:True:=⟨⟩
theorem tw18223528086514014259:True:=⟨⟩
theorem tw7195691372154629240:True:=⟨⟩
theorem tw3272840123188767959:True:=⟨⟩
theorem tw3928268898048649212:True:=⟨⟩
theorem tw1474888325296156315:True:=⟨⟩
theorem tw1650003859119283739:True:=⟨⟩
theorem tw817166354638690328:True:=⟨⟩
theorem tw10396325802447404752:True:=⟨⟩
theorem tw6589742244373961985:True:=⟨⟩
theorem tw14406222391288586731:True:=⟨⟩
theorem tw7736483296069203708:True:=⟨⟩
theorem tw8700969625844324593:True:=⟨⟩
theorem tw15483934185602878086:True:=⟨⟩
theorem tw655823526592191416:True:=⟨⟩
theorem tw4385573416468633973:True:=⟨⟩
theorem tw2049501790942487387:True:=⟨⟩
theorem tw8470882732571019031:True:=⟨⟩
theorem tw12686627542792567137:True:=⟨⟩
theorem tw10957240362124453029:True:=⟨⟩
theorem tw18003598161883134498:True:=⟨⟩
theorem tw6291113254729626341:True:=⟨⟩
theorem tw11508903698349203328:True:=⟨⟩
theorem tw15851139896608465928:True:=⟨⟩
theorem tw185114900361744176:True:=⟨⟩
theorem tw13617899187824426246:True:=⟨⟩
theorem tw13198610601246873885:True:=⟨⟩
theorem tw8258136418698694905:True:=⟨⟩
theorem tw10325568172599043476:True:=⟨⟩
theorem tw3643530514534995651:True:=⟨⟩
theorem tw12835653965025014663:True:=⟨⟩
theorem tw8085777210582833994:True:=⟨⟩
theorem tw13161999384784607647:True:=⟨⟩
theorem tw13148961843992300798:True:=⟨⟩
theorem tw10376915145786046317:True:=⟨⟩
theorem tw6315755032801883625:True:=⟨⟩
theorem tw11438453333654876238:True:=⟨⟩
theorem tw5909072741345054271:True:=⟨⟩
theorem tw12121288797706224539:True:=⟨⟩
theorem tw8689867368802595575:True:=⟨⟩
theorem tw9833653965151930280:True:=⟨⟩
theorem tw6814527735578242777:True:=⟨⟩
theorem tw8777024324197783222:True:=⟨⟩
theorem tw9477036318581207097:True:=⟨⟩
theorem tw18123440476939220443:True:=⟨⟩
theorem tw8447217490377540059:True:=⟨⟩
end PySem.W.Fast
open PySem PySem.W PyProof.Rows
end
set_option maxRecDepth 100000 in
set_option maxHeartbeats 0 in
theorem PySem.Challenge.cw_rollcode_k48_keys_turned_holds : PySem.Challenge.rw_rollcode_k48_keys_turned.Holds := by
 w_on;o_law;k_head;(case hw=>w_witness2)
 k_fill
 refine Lw.E3 (l:=PySem.Challenge.rw_rollcode_k48_keys_turned) rfl rfl (fun w h Y=>PySem.W.kIn_of Y) ?F
 case F=>
  intro w mg fa h KX G hmg;refine' Lw.C4 KX G hmg ..
  all_goals first|k_is|(refine' L3.Ef KX G ..<;>first|k_is|skip)|(refine' L3.DQ ..<;>first|k_is|skip)|kernel_rfl|(refine' ⟨?_,⟨?_,?_,?_,?_,?_,?_⟩,L3.rJ ?_ ?_ ?_ ?_ ?_ ?_ ?_ ?_,?_⟩<;>kernel_rfl)|decide|skip