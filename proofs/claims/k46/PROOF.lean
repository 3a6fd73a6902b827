import PyProof.Rows.All
import Wide.All
import OpenK.AllK
import Wide.FinOn
import Lean
import PyProof.EqAt
import PyProof.EqKinds
import PyProof.TupleCall
import PySem.Challenge.RW_rollcode_k46_pressed_and_played
import PyProof.StationsW
import PyProof.ExcClass2
import OpenK.KOwn
import PyProof.ExcBaseAll.ValueError
import PyProof.RulesAs
import PyProof.NsDelKeeps
import PyProof.Rows.Catch
import KE.KIsAll
import PyProof.ExcArgsOwn
import PyProof.Rows.CatchOwn
import PyProof.ExcAttrAll.ValueError
import PyProof.AttrMissHeap
import PyProof.Rows.SetFrom
import KE.KDictOf
import PyProof.DictWalks
import PyProof.Rows.DictUnroll
import PyProof.ExcInit
import PyProof.InstStoreFacts
import PyProof.FString
import OpenK.KCls
import PyProof.ListMulRoad
import PyProof.FactsAll.tuple_2
import PyProof.DictValues
import PyProof.AutoSeq1
import PyProof.FactsAll.list_3
import PyProof.DictItems
import PyProof.Rows.RegStrFacts
set_option Elab.async false
set_option maxRecDepth 100000
set_option maxHeartbeats 4000000
set_option linter.unusedVariables false
set_option linter.all false
local macro_rules|`(#[$xs,*])=>`(⟨$xs,*⟩)
local macro_rules|`(↑$x)=>`(some $x)
theorem Z.{u}{α:Sort u}{a:α}:a=a:=rfl
local macro_rules|`(nofun)=>`(by decide +kernel)
local macro_rules|`(⋯)=>`(by decide)
abbrev y8:List PySem.Str:=["self"]
abbrev y9:List PySem.Str:=["self","table","keys","near","far","most"]
abbrev u0:List PySem.Str:=["_law_box_here","_law_many"]
abbrev X0:List PySem.Str:=["_law_found","_law_due_here"]
abbrev X1:List PySem.Str:=["self","name"]
abbrev X2:List PySem.Str:=["_law_house","_law_deed_here"]
abbrev X3:List PySem.Str:=["_law_box_here","_law_own_here","_law_words"]
abbrev X4:List PySem.Str:=["_law_own_here","_law_name","_law_number"]
abbrev X5:List PySem.Str:=["self","name","table","key","age","step"]
abbrev X6:List PySem.Str:=["_law_word","_law_place"]
abbrev X7:List PySem.Str:=["_law_own_here","_law_button","_law_deed_here","_law_doors"]
abbrev X8:List PySem.Str:=["table","key","digits"]
abbrev X9:List PySem.Str:=["_law_own_here","_law_word","_law_button","_law_parts"]
abbrev W0:List PySem.Str:=["_law_own_here","_law_word","_law_name","_law_parts"]
abbrev W1:List PySem.Str:=["_law_own_here","_law_deed_here"]
abbrev W3:List PySem.Str:=["self","button"]
abbrev W4:List PySem.Str:=["_law_house","_law_own_here","_law_deed_here"]
abbrev W5:List PySem.Str:=["thing"]
abbrev W6:List PySem.Str:=["self","age"]
abbrev W7:List PySem.Str:=["table","key","name","age","count","deed"]
abbrev W8:List PySem.Str:=["_law_own_here","_law_gate","_law_button"]
abbrev W9:List PySem.Str:=["_law_box_here","_law_some","_law_other"]
abbrev V0:List PySem.Str:=["_law_box_here"]
abbrev V1:List PySem.Str:=["self","thing"]
abbrev V3:List PySem.Str:=["button","age","count","near","far"]
abbrev V7:List PySem.Str:=["self","place"]
abbrev V8:List PySem.Str:=["self","pressed","deed"]
abbrev V9:List PySem.Str:=["_law_script","_law_k"]
abbrev Y0:List PySem.Str:=["self","name","near","far","most"]
abbrev Y1:List PySem.Str:=["self","door","number"]
abbrev Y2:List PySem.Str:=["_law_table_here","_law_key_here"]
abbrev Y3:List PySem.Str:=["table","key","press"]
abbrev Y4:List PySem.Str:=["self","button","age"]
abbrev Y5:List PySem.Str:=["self","one","other"]
abbrev Y6:List PySem.Str:=["table","key","name"]
abbrev Y7:List PySem.Str:=["self","button","deed","doors"]
abbrev Y8:List PySem.Str:=["self","button","age","count"]
abbrev Y9:List PySem.Str:=["self","deed"]
abbrev U0:List PySem.Str:=["self","door"]
open PySem.W (Frag)
set_option compiler.extract_closed false
open PySem renaming wpAny_bind->Ja,wpAny_pure->Jh,sizeLine_eq->Jn,wpAny_field->JI,wpAny_mono->JJ,boot_len->JK,wpAny_loadPart_at->JT,wpAny_holding->J2,wpAny_newObj_type->J6,wpAny_call_entry->J8,wpAny_of_eq->Io,wpAny_truthy_bool->Ir,wpAny_standAt->Iu,wpAny_pyIter_tuple->IC,call_meets->IF,wpAny_setField->IH,wpAny_rule->IM,codeAny_mono->IQ,wpAny_seqItems->IV,wpAny_call->Lh,mem_of_lookup->Lj,wpAny_loadPart'->Lo,wpAny_attempt->Lq,wpAny_specialOf->Lr,wpAny_execs_nil->Ly,wpAny_pyIter_list->Lz,wpAny_passesOwn->LA,wpAny_Call_Name_kw->LC,wpAny_pyIter_enum->LG,wpAny_setField_rec->LJ,isSubtype_type->LL,tupleKind_room_in1->LO,wpAny_isSubtype_exc->LQ,codeAny_call_builtin->LR,strLen_append->LV,typeLookup_type->Mj,builtinLookup_eq_fast->Ml,codeAny_builtin->Mm,wpAny_pyIter_rangeiter->Mt,Value->Γ,Addr->Δ,Shared->Θ,Program->Ξ,Expr->Φ,Heap->Ψ,World->Ω,Builtin->γ,Stmt->δ,wpAny->ε,sizeLine->ζ,mainGlobals->η,starEach->θ
open List renaming length_map->Jb,mem_singleton->Jg,mem_cons->Ji,getElem?_eq_getElem->Jk,getElem?_map->Jm,length_append->Jo,mem_of_getElem?->Jp,not_mem_nil->Jr,getElem?_eq_some_iff->Jt,mem_append->Jv,mem_map->Jy,size_toArray->JA,mem_cons_self->JB,mem_cons_of_mem->JC,map_append->JF,getD_eq_getElem?_getD->JO,map_cons->JR,mem_append_right->J3,nodup_cons->J4,length_cons->J7,lookup_cons->J9,length_take->Ie,take_add_one->Ig,getElem?_append_right->Ik,map_map->Ip,getElem?_append_left->Iw,all_eq_true->Iz,length_set->IE,getElem_mem->IG,take_length->II,mem_range->IL,nodup_nil->Ld,any_cons->Ll,find?_cons->Lu,append_nil->LB,replicate_succ->LF,map_congr_left->LK,getElem?_eq_none->LN,contains_cons->LP,mem_append_left->LX,getElem?_set_self->LY,getElem?_set_ne->LZ,length_replicate->L5,length_drop->L7,map_nil->L9,flatten_cons->Mc,append_assoc->Md,length_singleton->Me,nil_append->Mg,filterMap_cons->Ms,take_of_length_le->MA,lookup_cons_self->MB,nodup_append->ME,getElem?_range->MG
open Nat renaming le_refl->Je,ne_of_lt->Ju,le_trans->JH,zero_le->JM,lt_of_lt_of_le->JN,le_succ->JW,ne_of_gt->J0,lt_irrefl->J1,succ_le_succ->F0,lt_succ_self->Iv,lt_succ_of_lt->IR,le_succ_of_le->Lc,le_of_lt->LW,le_of_eq->L4,min_le_right->L6,le_add_right->Mr
open PySem.Heap renaming get?_push_of_some->Jj,lt_size->Jl,get?_push_size->Jw,size_push->J5,get?_update_other->Iy,get?_update_self->ID,get?_none_of_le->Lx
open PyProof.Rows renaming boot_isinstance->Jx,boot_tuple->JD,boot_list->JY,boot_str->Iq,boot_int->Le,callWith_type1->Lg,boot_all->Lv,slot_tuple_getitem->L8,boot_bool->Mp
open Bool renaming false_ne_true->JG,and_eq_true->JU,false_and->Ij,true_and->IK,eq_iff_iff->IP,eq_false_iff->LS,not_eq_true'->MF
open PySem.W renaming mg_of->JP,mg_none_of->JQ,kia_one->JS,looks_findIn->IJ,kia_tup->IW,callWith_K->LD,methodCall_KW->Mn,Frag->ι
open Option renaming map_eq_some_iff->JV,isSome_iff_exists->Li,getD_some->Lm,isSome_map->MC
open PySem.F renaming plainAttrs_list->JX,slot_list_append->Ia,type_list_append->Ib,excBase_ValueError->Ii,slot_tuple_iterator_next->Mh,slot_zip_next->Mq,slot_tuple_add->Mu,entry_tuple_add->Mw,args_tuple_add_2->Mz,slot_dict_get->MD
open PySem.Obj renaming data_mapFields->IA,isFreed_of_fields->Ln
open Array renaming length_toList->IB,getElem?_eq_some_iff->LM
open Int renaming emod_nonneg->IX,emod_lt_of_pos->IZ,le_refl->Lb,toNat_natCast->LH
open PySem.Calls renaming callWith_builtin->Ma,evalArgs_plain->Mb
namespace L0
abbrev _root_.Α:=List PySem.Str
abbrev _root_.Ε:=List Int
abbrev _root_.Ζ:=List Γ
abbrev _root_.Η:=List Δ
abbrev _root_.Ι:=List Φ
abbrev _root_.Κ:=Option Int
abbrev _root_.Λ:=Option Δ
abbrev _root_.Μ:=List Nat
abbrev _root_.Ν:=Option Γ
abbrev _root_.Ο:=List PySem.Env
abbrev _root_.Υ:=Option Φ
abbrev _root_.Χ:=List PySem.Keyword
abbrev Jc:=@if_neg
abbrev Jd:=@if_pos
abbrev Jf:=@decide_eq_true
abbrev Jq:=@decide_eq_false
abbrev Js:=@or_false
abbrev Jz:=@of_decide_eq_true
abbrev JL:=@congrArg
abbrev Ic:=@beq_iff_eq
abbrev Ih:=@beq_self_eq_true
abbrev Il:=@if_true
abbrev IU:=@decide_eq_true_iff
abbrev La:=@beq_false_of_ne
abbrev Lf:=@beq_eq_false_iff_ne
abbrev Lk:=@if_false
abbrev LU:=@not_false_eq_true
abbrev JE:=@Option.some.inj
abbrev JZ:=@PySem.PassesOwn.never
abbrev Ls:=@PySem.Around.in1_units
abbrev LI:=@PySem.Heap.SameBut.update
abbrev Mo:=@PySem.Code.quiet_builtin
end L0
open L0
namespace L0
open PySem
abbrev MJ:=Γ->Θ->Prop
abbrev MK:=Str->Ν
abbrev ML:=List (Δ×Obj)
end L0
open L0
namespace L2
open PySem PySem.Spec PyProof.Rows
abbrev qN:=Sum Int Str
def fJ:qN->Γ->Bool
 | .inl k,v=>Γ.isInt k v
 | .inr x,v=>Γ.isStrOf x v
def GT(w:Ω):qN->Int
 | .inl k=>hashInt k
 | .inr x=>hashStr w x
theorem Qb:∀{k:qN} {v:Γ},fJ k v=true->(∃i t,k=Sum.inl i/\v=Γ.int i t)\/(∃x t,k=Sum.inr x/\v=Γ.str x t)
 | .inl i,v,h=>by
  obtain⟨t,e⟩:=Γ.isInt_shape (k:=i) (v:=v) h
  exact .inl #[i,t,Z,e]
 | .inr x,v,h=>by
  obtain⟨t,e⟩:=Γ.isStrOf_shape (x:=x) (v:=v) h
  exact .inr #[x,t,Z,e]
theorem Al(i:Int)(t:Tok):fJ (.inl i) (.int i t)=true:=by simp [fJ,Γ.isInt]
theorem As(x:Str)(t:Tok):fJ (.inr x) (.str x t)=true:=by simp [fJ,Γ.isStrOf]
theorem E4(a b:Int):decide ((Sum.inl a:qN)=Sum.inl b)=(a==b):=by
 by_cases e:a=b
 ·subst e;simp
 ·have h:¬(Sum.inl a:qN)=Sum.inl b:=λq=>e (Sum.inl.inj q)
  rw[Jq h]
  exact(Lf.mpr e).symm
theorem FP(a b:Str):decide ((Sum.inr a:qN)=Sum.inr b)=decide (a=b):=by
 by_cases e:a=b
 ·subst e;simp
 ·have h:¬(Sum.inr a:qN)=Sum.inr b:=λq=>e (Sum.inr.inj q)
  rw[Jq h,Jq e]
theorem FO(a:Int)(b:Str):decide ((Sum.inl a:qN)=Sum.inr b)=false:=Jq (λq=>nomatch q)
theorem EZ(a:Str)(b:Int):decide ((Sum.inr a:qN)=Sum.inl b)=false:=Jq (λq=>nomatch q)
def zi(prog:Ξ)(w:Ω):PySem.KeyKind prog w qN where
 is:=fJ
 hash:=GT w
 inj:=λv a b f d=>by
  rcases Qb f with⟨i,t,rfl,rfl⟩|⟨x,t,rfl,rfl⟩
  ·rcases Qb d with⟨j,u,rfl,e⟩|⟨y,u,rfl,e⟩
   ·injection e with e1 _;rw[e1]
   ·exact nomatch e
  ·rcases Qb d with⟨j,u,rfl,e⟩|⟨y,u,rfl,e⟩
   ·exact nomatch e
   ·injection e with e1 _;rw[e1]
 byValue:=λk v h=>by
  rcases Qb h with⟨i,t,rfl,rfl⟩|⟨x,t,rfl,rfl⟩<;>rfl
 pyHash:=λc h=>by
  rcases Qb c with⟨i,t,rfl,rfl⟩|⟨x,t,rfl,rfl⟩
  ·exact wpAny_pyHash_int h
  ·exact wpAny_pyHash_str h
 eqBool:=λg c h=>by
  rcases Qb g with⟨i,t,rfl,rfl⟩|⟨x,t,rfl,rfl⟩
  ·rcases Qb c with⟨j,u,rfl,rfl⟩|⟨y,u,rfl,rfl⟩
   ·rw[E4]at h;exact wpAny_eqBool_int h
   ·rw[FO]at h;exact SeqAt.EqAt.int_str i t y u _ _ _ _ h
  ·rcases Qb c with⟨j,u,rfl,rfl⟩|⟨y,u,rfl,rfl⟩
   ·rw[EZ]at h;exact SeqAt.EqAt.str_int x t j u _ _ _ _ h
   ·rw[FP]at h;exact wpAny_eqBool_str h
 «strs»:=λk x t v h=>by
  rcases Qb h with⟨i,u,rfl,e⟩|⟨y,u,rfl,e⟩
  ·exact nomatch e
  ·injection e with e1 _
   subst e1;cases v<;>rfl
theorem sU(prog:Ξ)(w:Ω)(i:Int)(t:Tok):(zi prog w).is (.inl i) (.int i t)=true:=Al i t
theorem tu(prog:Ξ)(w:Ω)(x:Str)(t:Tok):(zi prog w).is (.inr x) (.str x t)=true:=As x t
inductive V where
 |non|bl (b:Bool)|int (i:Int)|str (x:Str)|byt (b:Array UInt8)|flt (b:UInt64)|ref (a:Δ)|ty (n:String)
 deriving DecidableEq
abbrev _root_.Ρ:=Option V
abbrev _root_.Β:=List V
def MT:V->Γ->Prop
 | .non,u=>u=Γ.none
 | .bl b,u=>u=Γ.bool b
 | .int i,u=>∃t,u=Γ.int i t
 | .str x,u=>∃t,u=Γ.str x t
 | .byt b,u=>∃t,u=Γ.bytes b t
 | .flt b,u=>∃t,u=Γ.float b t
 | .ref a,u=>u=Γ.ref a
 | .ty n,u=>u=Γ.type n
abbrev MU:Β->Ζ->Prop:=Paired MT
theorem MU.length{xs:Β}{us:Ζ}(r:MU xs us):xs.length=us.length:=Paired.length r
theorem MU.get:∀{xs:Β} {us:Ζ} {i:Nat} {x:V},MU xs us->xs[i]? =↑x->∃u,us[i]? =↑u/\MT x u
 |_,_,_,_,.nil,e=>by simp at e
 |_,_,0,_,.cons r _,e=>by simp at e;subst e;exact#[_,Z,r]
 |_,_,i+1,x,.cons _ t,e=>by
  obtain⟨u,h1,a⟩:=MU.get (i:=i) (x:=x) t (by simpa using e)
  exact#[u,by simpa using h1,a]
theorem MU.set{x:V}{u:Γ}(r:MT x u):∀{xs:Β} {us:Ζ} (i:Nat),MU xs us->MU (xs.set i x) (us.set i u)
 |_,_,_,.nil=> .nil
 |_,_,0,.cons _ t=> .cons r t
 |_,_,i+1,.cons q t=> .cons q (MU.set r i t)
theorem MU.append:∀{xs ys:Β} {us ws:Ζ},MU xs us->MU ys ws->MU (xs++ys) (us++ws)
 |_,_,_,_,.nil,s=>s
 |_,_,_,_,.cons r t,s=> .cons r (MU.append t s)
theorem MU.take:∀{xs:Β} {us:Ζ} (n:Nat),MU xs us->MU (xs.take n) (us.take n)
 |_,_,0,_=> .nil
 |_,_,_+1,.nil=> .nil
 |_,_,n+1,.cons r t=> .cons r (MU.take n t)
theorem MU.drop:∀{xs:Β} {us:Ζ} (n:Nat),MU xs us->MU (xs.drop n) (us.drop n)
 |_,_,0,r=>r
 |_,_,_+1,.nil=> .nil
 |_,_,n+1,.cons _ t=>MU.drop n t
def NU:Ρ->Ν->Prop
 |some v,↑u=>MT v u
 |none,none=>True
 |_,_=>False
def KV{κ:Type}:List (κ×V)->List (κ×Γ)->Prop:=Paired λ(p:κ×V) (q:κ×Γ)=>p.1=q.1/\MT p.2 q.2
def kV:qN->V
 | .inl i=> .int i
 | .inr x=> .str x
inductive HO where
 |lst (xs:Β)
 |tup (xs:Β)
 |dK (kvs:List (qN×V))|dT (kvs:List (List qN×V))
 |set (S:Int->Bool) (n:Nat)
 |ins (C dx:Δ) (fs:List (Str×V))
 |own (x:Δ)
 |xd (fs:List (Str×V))
 |met (f x:Δ)
 |rng (lo hi:Int)
 |frz (o:Obj) (u:HO)
 |tbl (ps:Array Γ)
 |ext (φ:Ψ->Prop)
abbrev Hp:=Δ->Option HO
def MO(H:Hp)(a:Δ)(o:HO):Hp:=λb=>if b=a then ↑o else H b
theorem qa{H:Hp}{a:Δ}{o:HO}:MO H a o a=↑o:=by unfold MO;rw[Jd Z]
theorem qk{H:Hp}{a b:Δ}{o:HO}(h:b≠a):MO H a o b=H b:=by unfold MO;rw[Jc h]
theorem zr{H:Hp}{a b:Δ}{o u:HO}(h:H a=↑o)(h':H b=↑u)(d:o≠u):a≠b:=by
 intro e;subst e;rw[h]at h';exact d (JE h')
theorem qr{H:Hp}{a b:Δ}{o:HO}(h:H a=↑o)(h':H b=none):a≠b:=by
 intro e;subst e;rw[h]at h';cases h'
section
variable(P:Ξ)(w:Ω)
def M3(H:Hp)(h:Ψ)(a:Δ):HO->Prop
 | .lst xs=>xs.length<=ζ/\∃(its:Ζ) (n:Nat),MU xs its/\h.get? a=some {cls:= .type "list",data:= .seq its.toArray n}
 | .tup xs=>xs.length<=ζ/\∃its:Ζ,MU xs its/\IsTup h a its.toArray
 | .dK kvs=>kvs.length<=ζ/\(a==sysModules)=false/\∃d,KV kvs d/\h.DictOf (zi P w) a d
 | .dT kvs=>kvs.length<=ζ/\(a==sysModules)=false/\∃xs:List (List qN×Δ×Γ),
   Paired (λ(p:List qN×V) (q:List qN×Δ×Γ)=>p.1=q.1/\H q.2.1=↑(.tup (p.1.map kV))/\MT p.2 q.2.2) kvs xs/\
   ∃o es e,h.get? a=↑o/\o.ExactDict/\o.data= .dict es e/\es.toList=xs.map (entryOfKey (tupleKind (zi P w)))/\(xs.map (·.1)).Nodup
 | .set S n=>h.SetOf (intKind P w) a S n
 | .ins C dx fs=>H dx=↑(.own a)/\fs.length<=1000/\dx≠a/\h.get? a=↑(PySem.W.instObj C dx)/\
   ∃mA,h.Ns1 dx mA/\(∀f,NU (fs.lookup f) (mA f))/\PySem.Within mA (fs.map (·.1))
 | .own _=>∃o,h.get? a=↑o
 | .xd fs=>∃mA,h.Ns1 a mA/\∀f,NU (fs.lookup f) (mA f)
 | .rng lo hi=>∃t u v,h.get? a=some {cls:= .type "range",data:= .fields (List.toArray [.int lo t,.int hi u,.int 1 v])}
 | .frz o u=>h.get? a=↑o/\M3 H h a u
 | .tbl ps=>h.get? a=some {cls:= .none,data:= .fields ps}
 | .met f x=>h.get? a=↑(PySem.W.methodObj (.ref f) (.ref x))
 | .ext φ=>φ h/\(∃o,h.get? a=↑o)/\∀h1 c:Ψ,φ h1->(∀o,h1.get? a=↑o->c.get? a=↑o)->φ c
def NS(H:Hp)(h:Ψ):Prop:=∀a o,H a=↑o->M3 P w H h a o
end
section
variable{P:Ξ}{w:Ω}{H H':Hp}{h h':Ψ}{a:Δ}{o:HO}
theorem M3.lt(x:M3 P w H h a o):a<h.objs.size:=by
 cases o with
 |lst xs=>obtain⟨_,_,_,_,e⟩:=x;exact Jl e
 |tup xs=>obtain⟨_,_,_,p⟩:=x;exact p.lt
 |dK kvs=>obtain⟨_,_,_,_,o,_,_,e,_⟩:=x;exact Jl e
 |dT kvs=>obtain⟨_,_,_,_,o,_,_,e,_⟩:=x;exact Jl e
 |set S n=>obtain⟨o,_,_,_,e,_⟩:=x;exact Jl e
 |ins C dx fs=>obtain⟨_,_,_,e,_⟩:=x;exact Jl e
 |own y=>obtain⟨_,e⟩:=x;exact Jl e
 |xd fs=>obtain⟨_,⟨_,_,_,e,_⟩,_⟩:=x;exact Jl e
 |rng lo hi=>obtain⟨_,_,_,e⟩:=x;exact Jl e
 |frz ob u=>obtain⟨e,_⟩:=x;exact Jl e
 |tbl ps=>exact Jl (show h.get? a=↑_ from x)
 |met f y=>exact Jl (show h.get? a=↑_ from x)
 |ext φ=>obtain⟨_,⟨_,e⟩,_⟩:=x;exact Jl e
theorem Paired.mapP{α d:Type}{F G:α->d->Prop}:∀{l₁:List α} {c:List d},Paired F l₁ c->(∀a b,F a b->G a b)->Paired G l₁ c
 |_,_,.nil,_=> .nil
 |_,_,.cons r t,f=> .cons (f _ _ r) (Paired.mapP t f)
theorem M3.stay(x:M3 P w H h a o)(k:∀b u,(b=a\/H b=↑(.own a))->h.get? b=↑u->h'.get? b=↑u)
  (ho:∀b,H b=↑(.own a)->H' b=↑(.own a))(m:∀b xs,H b=↑(.tup xs)->H' b=↑(.tup xs)):M3 P w H' h' a o:=by
 induction o with
 |lst xs=>obtain⟨z,j,n,r,e⟩:=x;exact#[z,j,n,r,k _ _ (.inl Z) e]
 |tup xs=>obtain⟨z,j,r,g,e,c⟩:=x;exact#[z,j,r,g,k _ _ (.inl Z) e,c]
 |dK kvs=>obtain⟨z,y,l,r,g,es,i,e,c⟩:=x;exact#[z,y,l,r,g,es,i,k _ _ (.inl Z) e,c]
 |dT kvs=>
  obtain⟨z,y,xs,r,g,es,i,e,c⟩:=x
  exact#[z,y,xs,Paired.mapP r λp q z=>#[z.1,m _ _ z.2.1,z.2.2],g,es,i,k _ _ (.inl Z) e,c]
 |set S n=>obtain⟨g,es,i,t,e,c⟩:=x;exact#[g,es,i,t,k _ _ (.inl Z) e,c]
 |ins C dx fs=>
  obtain⟨d,z,ne,e,mA,⟨od,es,i,s,c⟩,r⟩:=x
  exact#[ho _ d,z,ne,k _ _ (.inl Z) e,mA,#[od,es,i,k _ _ (.inr d) s,c],r]
 |own y=>obtain⟨g,e⟩:=x;exact#[g,k _ _ (.inl Z) e]
 |xd fs=>obtain⟨mA,⟨od,es,i,e,c⟩,r⟩:=x;exact#[mA,#[od,es,i,k _ _ (.inl Z) e,c],r]
 |rng lo hi=>obtain⟨t,u,v,e⟩:=x;exact#[t,u,v,k _ _ (.inl Z) e]
 |frz g u ih=>obtain⟨e,q⟩:=x;exact#[k _ _ (.inl Z) e,ih q]
 |tbl ps=>
  have e:h.get? a=some {cls:= .none,data:= .fields ps}:=x
  show h'.get? a=some {cls:= .none,data:= .fields ps}
  exact k a _ (.inl Z) e
 |met f y=>
  have e:h.get? a=↑(W.methodObj (.ref f) (.ref y)):=x
  show h'.get? a=↑(W.methodObj (.ref f) (.ref y))
  exact k a _ (.inl Z) e
 |ext φ=>obtain⟨p,⟨o,e⟩,st⟩:=x;exact#[st _ _ p λo q=>k _ _ (.inl Z) q,#[o,k _ _ (.inl Z) e],st]
theorem NS.lt(x:NS P w H h)(e:H a=↑o):a<h.objs.size:=(x a o e).lt
theorem NS.fresh(x:NS P w H h)(e:h.objs.size<=a):H a=none:=by
 cases q:H a with
 |none=>rfl
 |some u=>exact absurd (JN (x.lt q) e) (J1 _)
theorem NS.kept(x:NS P w H h)(k:∀b u,h.get? b=↑u->h'.get? b=↑u):NS P w H h':=λa o e=>
 (x a o e).stay (λb u _ q=>k b u q) (λ_ q=>q) λ_ _ q=>q
theorem NS.laid(x:NS P w H h)(k:∀b u,h.get? b=↑u->h'.get? b=↑u)(hp:h.objs.size<=a)(new:M3 P w (MO H a o) h' a o):NS P w (MO H a o) h':=λb u e=>by
 have d:=x.fresh hp
 by_cases f:b=a
 ·subst f;rw[qa]at e;cases e;exact new
 ·rw[qk f]at e
  exact(x b u e).stay (λc v _ q=>k c v q) (λc q=>by rw[qk (qr q d)];exact q) λc xs q=>by rw[qk (qr q d)];exact q
end
def Rd(H:Hp)(a:Δ)(u:HO):Prop:=H a=↑u\/∃o,H a=↑(.frz o u)
theorem Rd.ok{P:Ξ}{w:Ω}{H:Hp}{h:Ψ}{a:Δ}{u:HO}(r:Rd H a u)(x:NS P w H h):M3 P w H h a u:=by
 rcases r with r|⟨o,r⟩
 ·exact x a u r
 ·obtain⟨_,q⟩:=x a _ r
  exact q
def yw:Option HO->Prop
 |some (.lst _)=>True
 |some (.dK _)=>True
 |some (.dT _)=>True
 |some (.set _ _)=>True
 |some (.ins _ _ _)=>True
 |some (.ext _)=>True
 |_=>False
section
variable{P:Ξ}{w:Ω}{H:Hp}{h h':Ψ}{x e:Δ}{o':HO}
theorem NS.write(ok:NS P w H h)(i:yw (H x))(he:e=x\/H e=↑(.own x))(k:∀b u,b≠e->h.get? b=↑u->h'.get? b=↑u)(l:∃u,h'.get? e=↑u)
  (new:M3 P w (MO H x o') h' x o'):NS P w (MO H x o') h':=λb u q=>by
 have d:∀c y,H c=↑(.own y)->c≠x:=λc y r z=>by subst z;rw[r]at i;exact i
 have f:∀c xs,H c=↑(.tup xs)->c≠x:=λc xs r z=>by subst z;rw[r]at i;exact i
 by_cases j:b=x
 ·subst j;rw[qa]at q;cases q;exact new
 ·rw[qk j]at q
  by_cases a:b=e
  ·have m:H b=↑(.own x):=by
    rcases he with z|z
    ·exact absurd (a.trans z) j
    ·rw[a];exact z
   rw[q]at m;cases m
   obtain⟨v,n⟩:=l
   exact#[v,by rw[a];exact n]
  ·refine(ok b u q).stay (λc v g r=>k c v ?_ r) (λc r=>by rw[qk (d c b r)];exact r) λc xs r=>by rw[qk (f c xs r)];exact r
   rcases g with rfl|g
   ·exact a
   ·rintro rfl
    rcases he with z|z
    ·exact d c b g z
    ·rw[g]at z;cases z;exact j Z
end
structure Un(fs ex:Η)(H H':Hp)(h h':Ψ):Prop where
 keep:∀b o,h.get? b=↑o->H b=none->b∉fs->b∉ex->h'.get? b=↑o
 slot:∀b o,h.get? b=↑o->H b=none->b∈fs->b∉ex->∃sl,h'.get? b=some {o with slots:=sl}
 free:∀b o,h.get? b=↑o->H b=none->b∉ex->H' b=none
 there:∀b o,h.get? b=↑o->b∉ex->∃o',h'.get? b=↑o'
 tups:∀b xs,H b=↑(.tup xs)->H' b=↑(.tup xs)
 frzs:∀b o u,H b=↑(.frz o u)->H' b=↑(.frz o u)
 tbls:∀b ps,H b=↑(.tbl ps)->∃more,H' b=↑(.tbl (ps++more))
section
variable{fs ex:Η}{H H1:Hp}{h h1 h':Ψ}{a x e:Δ}{o:HO}
theorem Un.any(u:Un fs ex H H1 h h1){b:Δ}{ob:Obj}(q:h.get? b=↑ob)(n:H b=none)(hx:b∉ex):∃c,h1.get? b=some {ob with slots:=c}:=by
 by_cases a:b∈fs
 ·exact u.slot b ob q n a hx
 ·exact#[ob.slots,u.keep b ob q n a hx]
theorem Un.kept(k:∀b u,h.get? b=↑u->h'.get? b=↑u):Un fs ex H H h h':=
 #[λb a q _ _ _=>k b a q,λb a q _ _ _=>#[a.slots,k b a q],λ_ _ _ n _=>n,λb a q _=>#[a,k b a q],λ_ _ q=>q,λ_ _ _ q=>q,λ_ ps q=>#[(List.toArray []),by rw[q];simp]]
theorem Un.refl:Un fs ex H H h h:=Un.kept λ_ _ q=>q
theorem Un.laid(k:∀b u,h.get? b=↑u->h'.get? b=↑u)(hp:h.objs.size<=a)(hn:H a=none):Un fs ex H (MO H a o) h h' where
 keep:=λb u q _ _ _=>k b u q
 slot:=λb u q _ _ _=>#[u.slots,k b u q]
 free:=λb u q n _=>by rw[qk (Ju (JN (Jl q) hp))];exact n
 there:=λb u q _=>#[u,k b u q]
 tups:=λb xs q=>by rw[qk (qr q hn)];exact q
 frzs:=λb u xs q=>by rw[qk (qr q hn)];exact q
 tbls:=λb ps q=>#[(List.toArray []),by rw[qk (qr q hn),q];simp]
theorem Un.write(c:yw (H x))(he:e=x\/H e=↑(.own x))(k:∀b u,b≠e->h.get? b=↑u->h'.get? b=↑u)(f:∃u,h'.get? e=↑u):Un fs ex H (MO H x o) h h':=by
 have i:∀b,H b=none->b≠x:=λb n z=>by subst z;rw[n]at c;exact c
 have g:∀b,H b=none->b≠e:=λb n z=>by
  subst z;rcases he with r|r
  ·exact i b n r
  ·rw[n]at r;cases r
 have d:∀b u,H b=↑u->¬yw ↑u->b≠x:=λb u q nm z=>by subst z;rw[q]at c;exact nm c
 refine#[λb u q n _ _=>k b u (g b n) q,λb u q n _ _=>#[u.slots,k b u (g b n) q],λb u q n _=>by rw[qk (i b n)];exact n,λb u q _=>?_,
  λb xs q=>by rw[qk (d b _ q λz=>z)];exact q,λb u xs q=>by rw[qk (d b _ q λz=>z)];exact q,λb ps q=>#[(List.toArray []),by rw[qk (d b _ q λz=>z),q];simp]]
 by_cases a:b=e
 ·subst a;exact f
 ·exact#[u,k b u a q]
end
def C1(h:Ψ)(H:Hp):Η:=(List.range h.objs.size).filter λa=>(H a).isSome
def fz(h:Ψ)(H:Hp):Ψ:=PySem.W.hideAll h (C1 h H)
theorem wI(h:Ψ)(H:Hp):(fz h H).objs.size=h.objs.size:=W.hideAll_size _ _
theorem BA{h:Ψ}{H:Hp}{b:Δ}{o:Obj}(e:h.get? b=↑o)(n:H b=none):(fz h H).get? b=↑o:=
 W.hideAll_get _ e λa=>by
  have q:(H b).isSome=true:=(List.mem_filter.mp a).2
  rw[n]at q;simp at q
theorem DF{h:Ψ}{H:Hp}{b:Δ}{o:Obj}(e:(fz h H).get? b=↑o):h.get? b=↑o/\H b=none:=by
 have a:h.get? b=↑o:=W.of_hideAll (C1 h H) e
 refine#[a,?_]
 cases q:H b with
 |none=>rfl
 |some x=>
  have c:b∈C1 h H:=List.mem_filter.mpr #[IL.mpr (Jl a),by simp [q]]
  have z:(fz h H).get? b=none:=W.hideAll_none (C1 h H) c
  rw[z]at e;cases e
structure SU(K:ι)(mg:MK)(base:Ψ):Prop where
 kin:K.In base
 glob:base.Ns η mg
 blt:∃mb,base.Ns builtinsNs mb/\∀x:Str,x≠"__name__"->mb x=bootBuiltins x
 nolimit:base.NoLimit
structure Cx where
 prog:Ξ
 w:Ω
 K:ι
 mg:Str->Ν
 base:Ψ
 A:Around
 N:Α
 s₀:Θ
 H₀:Hp
 env:Env
 outer:Ο
 stack:Ο
 ex:Η
 fn:Str->Bool
 calm:Bool
 pn:List (Δ×Obj)
 xe:Γ->Θ->Prop
def Qp(l:Ο):Η:=l.filterMap (·.frame)
abbrev Cx.fs(X:Cx):Η:=Qp X.outer
def Fu(a:Scope)(x:Str):Prop:=a.names.lookup x=some .local\/a.names.lookup x=some .cell\/a.names.lookup x=some .free
def kD(a:Scope)(x:Str):Prop:=a.names.lookup x=some .local\/a.names.lookup x=some .cell
def HB(env:Env)(h:Ψ)(m:MK)(x:Str)(u:Γ):Prop:=
 (env.kindOf x=some .local/\m x=↑u)\/((env.kindOf x=some .cell\/env.kindOf x=some .free)/\∃c,env.cells.lookup x=↑c/\h.IsCell c ↑u)
structure Cx.Ok(X:Cx):Prop where
 mod:SU X.K X.mg X.base
 kind:X.env.scope.kind= .function
 glob:X.env.globals=η
 blt:X.env.builtins=builtinsNs
 above:X.s₀.heap.objs.size<=X.env.locals
 inj:∀x y c,X.env.cells.lookup x=↑c->X.env.cells.lookup y=↑c->x=y
 has:∀x,(X.env.kindOf x=some .cell\/X.env.kindOf x=some .free)->∃c,X.env.cells.lookup x=↑c
 cab:∀x c,X.fn x=true->X.env.cells.lookup x=↑c->X.s₀.heap.objs.size<=c
 hd:X.calm=true->X.A.handled=none
 frames:X.A.frames=↑X.stack
 stk:X.stack=X.outer\/(X.stack=X.env::X.outer/\X.env.frame=↑X.env.locals)
 exf:∀b∈X.ex,b≠X.env.locals/\∀x c,X.env.cells.lookup x=↑c->c≠b
 bs:∀b o,X.base.get? b=↑o->X.s₀.heap.get? b=↑o/\X.H₀ b=none
 bsz:X.base.objs.size<=X.s₀.heap.objs.size
 noex:∀b o,X.base.get? b=↑o->b∉X.ex
 exfs:∀b∈X.ex,b∉X.fs
 funs:X.s₀.heap.FunFrames X.base X.outer
 frf:∀b∈X.fs,X.H₀ b=none
structure MQ(X:Cx)(tx:ML)(σ:List Ρ)(H:Hp)(s:Θ):Prop where
 ok:X.Ok
 os:s.os=X.s₀.os
 bare:AllBare s.gens
 base:Un X.fs X.ex X.H₀ H X.s₀.heap s.heap
 loc:∃m,s.heap.Ns X.env.locals m/\∀(i:Nat) (x:Str) (v:V),X.N[i]? =↑x->σ[i]? =↑(↑v)->Fu X.env.scope x->∃u,MT v u/\HB X.env s.heap m x u
 cell:∀x c,X.env.cells.lookup x=↑c->∃v,s.heap.IsCell c v
 free:H X.env.locals=none
 freeC:∀x c,X.env.cells.lookup x=↑c->H c=none
 pin:∀p∈X.pn++tx,s.heap.get? p.1=↑p.2/\H p.1=none/\p.1≠X.env.locals/\p.1∉X.fs/\∀v,p.2.data≠ .cell v
 hok:NS X.prog X.w H s.heap
 len:σ.length=X.N.length
section
variable{X:Cx}{tx:ML}{σ:List Ρ}{H H':Hp}{s:Θ}{h':Ψ}
theorem Cx.Ok.nofr(ok:X.Ok){b:Δ}{o:Obj}(e:X.base.get? b=↑o):b∉X.fs:=λa=>by
 have:=(ok.funs.mem a).1
 rw[e]at this;cases this
theorem MQ.bs(I:MQ X tx σ H s):∀b o,X.base.get? b=↑o->s.heap.get? b=↑o/\H b=none:=λb o e=>
 #[I.base.keep b o (I.ok.bs b o e).1 (I.ok.bs b o e).2 (I.ok.nofr e) (I.ok.noex b o e),I.base.free b o (I.ok.bs b o e).1 (I.ok.bs b o e).2 (I.ok.noex b o e)]
theorem MQ.bk(I:MQ X tx σ H s):∀b o,X.base.get? b=↑o->s.heap.get? b=↑o:=λb o e=>(I.bs b o e).1
theorem MQ.mod(I:MQ X tx σ H s):SU X.K X.mg X.base:=I.ok.mod
theorem MQ.kIn(I:MQ X tx σ H s):X.K.In s.heap:=I.ok.mod.kin.keeps I.bk
theorem MQ.lt(I:MQ X tx σ H s):X.env.locals<s.heap.objs.size:=let⟨_,hn,_⟩:=I.loc;hn.lt
theorem MQ.sz(I:MQ X tx σ H s):X.s₀.heap.objs.size<=s.heap.objs.size:=JH I.ok.above (LW I.lt)
theorem MQ.nofs(I:MQ X tx σ H s){a:Δ}(h:s.heap.objs.size<=a):a∉X.fs:=λc=>by
 obtain⟨_,o,d,_⟩:=I.ok.funs.mem c;exact absurd (JN (Jl d) (JH I.sz h)) (J1 _)
theorem MQ.cne(I:MQ X tx σ H s):∀x c,X.env.cells.lookup x=↑c->c≠X.env.locals:=λx c e z=>by
 obtain⟨v,o,g,f⟩:=I.cell x c e;obtain⟨m,⟨o',es,h,a,d,_⟩,_⟩:=I.loc;rw[z,a]at g;cases g;rw[d]at f;cases f
theorem MQ.funs(I:MQ X tx σ H s):s.heap.FunFrames X.base X.outer:=by
 have all:∀(l:Ο),(∀b∈Qp l,b∈X.fs)->X.s₀.heap.FunFrames X.base l->s.heap.FunFrames X.base l:=by
  intro l
  induction l with
  |nil=>intro _ _;trivial
  |cons env r ih=>
   intro f g;obtain⟨hk,⟨L,o,d,m,j,h⟩,i⟩:=g;have a:L∈X.fs:=f L (by unfold Qp;rw[Ms,d];exact JB)
   obtain⟨n,e⟩:=I.base.slot L o j (I.ok.frf L a) a λz=>I.ok.exfs L z a
   exact#[hk,#[L,_,d,m,e,h],ih (λb c=>f b (by unfold Qp;rw[Ms,d];exact JC _ c)) i]
 exact all X.outer (λ_ c=>c) I.ok.funs
theorem MQ.stack(I:MQ X tx σ H s):s.heap.FunFrames X.base X.stack:=by
 rcases I.ok.stk with e|⟨e,a⟩
 ·rw[e];exact I.funs
 ·rw[e]
  obtain⟨m,c,_⟩:=I.loc;refine .cons (by rw[I.ok.kind];decide) a c ?_ I.funs
  exact Lx (JH I.ok.bsz I.ok.above)
theorem MQ.stkSub(I:MQ X tx σ H s):∀b∈Qp X.stack,b∈X.env.locals::X.fs:=λb a=>by
 rcases I.ok.stk with e|⟨e,c⟩
 ·rw[e]at a;exact JC _ a
 ·rw[e]at a
  unfold Qp at a;rw[Ms,c]at a;exact a
theorem MQ.stkFree(I:MQ X tx σ H s):∀b∈Qp X.stack,H b=none:=λb a=>by
 rcases Ji.mp (I.stkSub b a)with e|a
 ·rw[e];exact I.free
 ·obtain⟨_,o,c,_⟩:=I.ok.funs.mem a
  exact I.base.free b o c (I.ok.frf b a) λz=>I.ok.exfs b z a
theorem MQ.step{g':Array GenState}{t':Nat}{d':Drawn}{ch:Η}(I:MQ X tx σ H s)
  (g:∀b∈ch,(b∈X.ex\/X.s₀.heap.objs.size<=b)/\b≠X.env.locals/\(∀x c,X.env.cells.lookup x=↑c->c≠b)/\∀p∈X.pn++tx,p.1≠b)
  (keep:∀b o,b≠X.env.locals->b∉X.fs->b∉ch->s.heap.get? b=↑o->H b=none->h'.get? b=↑o)
  (w:∀b o,b≠X.env.locals->b∈X.fs->b∉ch->s.heap.get? b=↑o->H b=none->∃M,h'.get? b=some {o with slots:=M})(free:∀b o,b∉ch->s.heap.get? b=↑o->H b=none->H' b=none)
  (y:∀b o,b∉ch->s.heap.get? b=↑o->∃o',h'.get? b=↑o')
  (C:∀b xs,H b=↑(.tup xs)->H' b=↑(.tup xs))(D:∀b o u,H b=↑(.frz o u)->H' b=↑(.frz o u))(G:∀b ps,H b=↑(.tbl ps)->∃F,H' b=↑(.tbl (ps++F)))
  (ns:∀m,s.heap.Ns X.env.locals m->h'.Ns X.env.locals m)(K:NS X.prog X.w H' h')(hg:AllBare g'):
  MQ X tx σ H' {s with heap:=h',gens:=g',drawn:=d',toks:=t'}:=by
 have E:∀b o,X.s₀.heap.get? b=↑o->b≠X.env.locals:=λb o e=>Ju (JN (Jl e) I.ok.above)
 have t:∀b o,X.s₀.heap.get? b=↑o->b∉X.ex->b∉ch:=λb o e a A=>by
  rcases(g b A).1 with z|z
  ·exact a z
  ·exact absurd (JN (Jl e) z) (J1 _)
 have h:∀x c,X.env.cells.lookup x=↑c->∀v,s.heap.IsCell c v->h'.IsCell c v:=λx c e v ⟨o,B,L⟩=>by
  have f:c∉ch:=λz=>(g c z).2.2.1 x c e Z
  by_cases O:c∈X.fs
  ·obtain⟨M,q⟩:=w c o (I.cne x c e) O f B (I.freeC x c e)
   exact#[_,q,L]
  ·exact#[o,keep c o (I.cne x c e) O f B (I.freeC x c e),L]
 refine#[I.ok,I.os,hg,#[λb o e n A a=>?_,λb o e n A a=>?_,λb o e n a=>?_,λb o e a=>?_,λb xs e=>C b xs (I.base.tups b xs e),λb o xs e=>D b o xs (I.base.frzs b o xs e),λb ps e=>?_],?_,λx c e=>?_,?_,λx c e=>?_,λp P=>?_,K,I.len]
 ·exact keep b o (E b o e) A (t b o e a) (I.base.keep b o e n A a) (I.base.free b o e n a)
 ·obtain⟨M,j⟩:=I.base.slot b o e n A a
  obtain⟨N,J⟩:=w b _ (E b o e) A (t b o e a) j (I.base.free b o e n a)
  exact#[N,J]
 ·obtain⟨o',j⟩:=I.base.there b o e a
  exact free b o' (t b o e a) j (I.base.free b o e n a)
 ·obtain⟨o',j⟩:=I.base.there b o e a
  exact y b o' (t b o e a) j
 ·obtain⟨W,j⟩:=I.base.tbls b ps e
  obtain⟨R,J⟩:=G b _ j
  exact#[W++R,by rw[J,Array.append_assoc]]
 ·obtain⟨m,U,T⟩:=I.loc
  refine#[m,ns m U,λi x v j J S=>?_]
  obtain⟨u,r,l⟩:=T i x v j J S;refine#[u,r,?_]
  rcases l with l|⟨k,c,e,z⟩
  ·exact .inl l
  ·exact .inr #[k,c,e,h x c e _ z]
 ·obtain⟨v,z⟩:=I.cell x c e
  exact#[v,h x c e v z]
 ·obtain⟨m,⟨o,_,_,B,_⟩,_⟩:=I.loc
  exact free _ o (λz=>(g _ z).2.1 Z) B I.free
 ·obtain⟨v,o,B,L⟩:=I.cell x c e
  exact free c o (λz=>(g c z).2.2.1 x c e Z) B (I.freeC x c e)
 ·obtain⟨e,n,ne,Q,d⟩:=I.pin p P
  have f:p.1∉ch:=λz=>(g p.1 z).2.2.2 p P Z
  exact#[keep p.1 p.2 ne Q f e n,free p.1 p.2 f e n,ne,Q,d]
theorem MQ.un{t':Nat}(I:MQ X tx σ H s)(u:Un X.fs [] H H' s.heap h')(f:NS X.prog X.w H' h'):MQ X tx σ H' {s with heap:=h',toks:=t'}:=by
 obtain⟨m,⟨o,es,p,h,r⟩,_⟩:=id I.loc;obtain⟨q,i⟩:=u.any h I.free (by simp)
 exact I.step (g':=s.gens) (d':=s.drawn) (ch:=[]) (λ_ z=>nomatch z) (λb o _ g _ e n=>u.keep b o e n g (by simp)) (λb o _ g _ e n=>u.slot b o e n g (by simp)) (λb o _ e n=>u.free b o e n (by simp)) (λb o _ e=>u.there b o e (by simp)) u.tups u.frzs u.tbls (λm' j=>by
  obtain⟨o',c,d,a,l⟩:=j;rw[h]at a;cases a
  exact#[_,c,d,i,l]) f I.bare
theorem MQ.call{g':Array GenState}{t':Nat}{d':Drawn}{ch:Η}(I:MQ X tx σ H s)(u:Un (Qp X.stack) ch H H' s.heap h')(j:NS X.prog X.w H' h')(hg:AllBare g')
  (f:∀b∈ch,(b∈X.ex\/X.s₀.heap.objs.size<=b)/\b≠X.env.locals/\(∀x c,X.env.cells.lookup x=↑c->c≠b)/\∀p∈X.pn++tx,p.1≠b):
  MQ X tx σ H' {s with heap:=h',gens:=g',drawn:=d',toks:=t'}:=by
 obtain⟨m,⟨o,es,w,l,r⟩,_⟩:=id I.loc;obtain⟨y,g⟩:=u.any l I.free λz=>(f _ z).2.1 Z
 exact I.step (ch:=ch) f (λb o g t a e n=>u.keep b o e n (λz=>(Ji.mp (I.stkSub b z)).elim g t) a) (λb o _ _ a e n=>u.any e n a) (λb o a e n=>u.free b o e n a) (λb o a e=>u.there b o e a) u.tups u.frzs u.tbls (λm' q=>by
  obtain⟨o',h,i,d,v⟩:=q;rw[l]at d;cases d
  exact#[_,h,i,g,v]) j hg
theorem MQ.turned{t':Nat}{it:Δ}(I:MQ X tx σ H s)(k:∀b o,b≠it->s.heap.get? b=↑o->h'.get? b=↑o)(hn:H it=none)(f:it≠X.env.locals)
  (h1:it∈X.ex\/X.s₀.heap.objs.size<=it)(h2:∀x c,X.env.cells.lookup x=↑c->c≠it)(h:∀p∈X.pn++tx,p.1≠it):MQ X tx σ H {s with heap:=h',toks:=t'}:=by
 have d:∀b u,H b=↑u->b≠it:=λb u e z=>by rw[z,hn]at e;cases e
 refine I.step (g':=s.gens) (d':=s.drawn) (ch:=[it]) (λb l=>?_) (λb o _ _ a e _=>k b o (λz=>a (by simp [z])) e) (λb o _ _ a e _=>#[o.slots,k b o (λz=>a (by simp [z])) e]) (λ_ _ _ _ n=>n)
  (λb o a e=>#[o,k b o (λz=>a (by simp [z])) e]) (λ_ _ e=>e) (λ_ _ _ e=>e) (λb ps e=>#[(List.toArray []),by rw[e];simp]) (λm i=>?_) (λb u e=>?_) I.bare
 ·have e:b=it:=by simpa using l
  subst e
  exact#[h1,f,h2,h]
 ·obtain⟨o,es,g,j,r⟩:=i
  exact#[o,es,g,k _ o (Ne.symm f) j,r]
 ·refine(I.hok b u e).stay (λc v a q=>k c v ?_ q) (λ_ q=>q) λ_ _ q=>q
  rcases a with z|z
  ·rw[z];exact d b u e
  ·exact d c _ z
theorem MQ.tok(I:MQ X tx σ H s)(t:Nat):MQ X tx σ H {s with toks:=t}:=I.un (h':=s.heap) (t':=t) Un.refl I.hok
theorem MQ.kept{t':Nat}(I:MQ X tx σ H s)(k:∀b u,s.heap.get? b=↑u->h'.get? b=↑u):MQ X tx σ H {s with heap:=h',toks:=t'}:=I.un (Un.kept k) (I.hok.kept k)
theorem MQ.laid{a:Δ}{o:HO}{t':Nat}(I:MQ X tx σ H s)(k:∀b u,s.heap.get? b=↑u->h'.get? b=↑u)(hp:s.heap.objs.size<=a)(new:M3 X.prog X.w (MO H a o) h' a o):
  MQ X tx σ (MO H a o) {s with heap:=h',toks:=t'}:=I.un (Un.laid k hp (I.hok.fresh hp)) (I.hok.laid k hp new)
theorem MQ.write{x e:Δ}{o:HO}{t':Nat}(I:MQ X tx σ H s)(c:yw (H x))(he:e=x\/H e=↑(.own x))(k:∀b u,b≠e->s.heap.get? b=↑u->h'.get? b=↑u)(a:∃u,h'.get? e=↑u)
  (new:M3 X.prog X.w (MO H x o) h' x o):MQ X tx σ (MO H x o) {s with heap:=h',toks:=t'}:=I.un (Un.write c he k a) (I.hok.write c he k a new)
theorem MQ.pins_of{pins':ML}(I:MQ X tx σ H s)(h:∀p∈pins',s.heap.get? p.1=↑p.2/\H p.1=none/\p.1≠X.env.locals/\p.1∉X.fs/\∀v,p.2.data≠ .cell v):MQ X pins' σ H s:=
 #[I.ok,I.os,I.bare,I.base,I.loc,I.cell,I.free,I.freeC,λp a=>(Jv.mp a).elim (λz=>I.pin p (LX _ z)) (h p),I.hok,I.len]
theorem jo{N:Α}(hN:N.Nodup){i j:Nat}{x:Str}(a:N[i]? =↑x)(b:N[j]? =↑x):i=j:=by
 obtain⟨h1,c⟩:=Jt.mp a;obtain⟨e,d⟩:=Jt.mp b
 exact(List.getElem_inj hN).mp (c.trans d.symm)
theorem nN{M:Model}{A:Around}{E:MJ}{i:Nat}{x:Str}{v:V}{u:Γ}{Q:Unit->Θ->Prop}(I:MQ X tx σ H s)(hN:X.N.Nodup)(hi:X.N[i]? =↑x)(hx:kD X.env.scope x)(r:MT v u)
  (h:∀s',MQ X tx (σ.set i ↑v) H s'->(∃a,Ψ.SameBut a s.heap s'.heap/\(a=X.env.locals\/X.env.cells.lookup x=↑a))->Q () s')(hf:X.fn x=true\/X.env.scope.names.lookup x=some .local:=by first|exact .inl Z|exact .inr Z|assumption):ε M A (storeName X.env x u) Q E s:=by
 obtain⟨m,Y,hl⟩:=id I.loc;have K:(X.env.scope.kind== .class||(X.env.scope.kind== .module&&X.env.locals != X.env.globals))=false:=by rw[I.ok.kind];rfl
 have C:i<σ.length:=by rw[I.len];exact(Jt.mp hi).1
 have cne:=I.cne;have l:∀{a:Δ} {h':Ψ},(∃o,s.heap.get? a=↑o/\H a=none)->Ψ.SameBut a s.heap h'->NS X.prog X.w H h':=λ{a h'} ha f b ob e=>by
  obtain⟨_,_,w⟩:=ha;refine(I.hok b ob e).stay (λc P t q=>(f.2 c ?_).trans q) (λ_ q=>q) λ_ _ q=>q
  rintro rfl
  rcases t with rfl|t
  ·rw[w]at e;cases e
  ·rw[w]at t;cases t
 rcases hx with hk|hk
 ·refine wpAny_storeName_local hk Y (λh' R f=>?_) K
  obtain⟨oL,_,_,a0,_⟩:=id Y;refine h _ #[I.ok,I.os,I.bare,#[λb o e n F hx=>?_,λb o e n F hx=>?_,I.base.free,λb o e hx=>?_,I.base.tups,I.base.frzs,I.base.tbls],#[_,R,λj y U g B S=>?_],λy c e=>?_,I.free,I.freeC,λp W=>?_,l #[oL,a0,I.free] f,by simpa using I.len] #[_,f,.inl Z]
  ·exact(f.2 b (Ju (JN (Jl e) I.ok.above))).trans (I.base.keep b o e n F hx)
  ·obtain⟨sl,g⟩:=I.base.slot b o e n F hx
   exact#[sl,(f.2 b (Ju (JN (Jl e) I.ok.above))).trans g]
  ·obtain⟨o',g⟩:=I.base.there b o e hx
   exact#[o',(f.2 b (Ju (JN (Jl e) I.ok.above))).trans g]
  ·by_cases G:j=i
   ·subst G
    rw[hi]at g;cases g
    rw[LY C]at B;cases B
    exact#[u,r,.inl #[hk,by simp]]
   ·rw[LZ (Ne.symm G)]at B
    obtain⟨T,r',q⟩:=hl j y U g B S;refine#[T,r',?_]
    rcases q with⟨k,e⟩|⟨k,c,e,z⟩
    ·refine .inl #[k,?_]
     have:y≠x:=λe=>G (jo hN g (e▸hi))
     simp [this,e]
    ·exact .inr #[k,c,e,z.sameBut f (cne y c e)]
  ·obtain⟨P,z⟩:=I.cell y c e
   exact#[P,z.sameBut f (cne y c e)]
  ·obtain⟨e,n,ne,nf,d⟩:=I.pin p W
   exact#[(f.2 p.1 ne).trans e,n,ne,nf,d]
 ·have D:X.fn x=true:=by
   rcases hf with z|z
   ·exact z
   ·rw[z]at hk;cases hk
  obtain⟨c,t⟩:=I.ok.has x (.inl hk)
  obtain⟨P,z⟩:=I.cell x c t;refine wpAny_storeName_cell I.ok.kind hk t z (λh' O f=>?_)
  obtain⟨oc,N,J⟩:=id z;refine h {s with heap:=h'} #[I.ok,I.os,I.bare,#[λb o e n F hx=>?_,λb o e n F hx=>?_,I.base.free,λb o e hx=>?_,I.base.tups,I.base.frzs,I.base.tbls],#[m,Y.sameBut f (Ne.symm (cne x c t)),λj y U g B S=>?_],λy c' e=>?_,I.free,I.freeC,λp W=>?_,l #[oc,N,I.freeC x c t] f,by simpa using I.len] #[c,f,.inr t]
  ·exact(f.2 b (Ju (JN (Jl e) (I.ok.cab x c D t)))).trans (I.base.keep b o e n F hx)
  ·obtain⟨sl,g⟩:=I.base.slot b o e n F hx
   exact#[sl,(f.2 b (Ju (JN (Jl e) (I.ok.cab x c D t)))).trans g]
  ·obtain⟨o',g⟩:=I.base.there b o e hx
   exact#[o',(f.2 b (Ju (JN (Jl e) (I.ok.cab x c D t)))).trans g]
  ·by_cases G:j=i
   ·subst G
    rw[hi]at g;cases g
    rw[LY C]at B;cases B
    exact#[u,r,.inr #[.inl hk,c,t,O]]
   ·rw[LZ (Ne.symm G)]at B
    obtain⟨T,r',q⟩:=hl j y U g B S;refine#[T,r',?_]
    rcases q with q|⟨k,c',e,z'⟩
    ·exact .inl q
    ·refine .inr #[k,c',e,z'.sameBut f ?_]
     rintro rfl
     exact G (jo hN g (I.ok.inj _ _ _ e t▸hi))
  ·by_cases L:c'=c
   ·subst L;exact#[_,O]
   ·obtain⟨w2,z2⟩:=I.cell y c' e
    exact#[w2,z2.sameBut f L]
  ·obtain⟨e,n,ne,nf,d⟩:=I.pin p W
   refine#[(f.2 p.1 ?_).trans e,n,ne,nf,d]
   intro q;rw[q,N]at e;have q':oc=p.2:=JE e
   exact d P (by rw[<- q'];exact J)
theorem aM{M:Model}{A:Around}{E:MJ}{i:Nat}{x:Str}{v:V}{u:Γ}{Q:Unit->Θ->Prop}(I:MQ X tx σ H s)(hN:X.N.Nodup)(hi:X.N[i]? =↑x)(hx:kD X.env.scope x)(r:MT v u)
  (h:∀s',MQ X tx (σ.set i ↑v) H s'->Q () s')(hf:X.fn x=true\/X.env.scope.names.lookup x=some .local:=by first|exact .inl Z|exact .inr Z|assumption):ε M A (storeName X.env x u) Q E s:=
 nN I hN hi hx r (λs' a _=>h s' a) hf
theorem MQ.call'{s':Θ}{ch:Η}(I:MQ X tx σ H s)(ho:s'.os=s.os)(u:Un (Qp X.stack) ch H H' s.heap s'.heap)(a:NS X.prog X.w H' s'.heap)(hg:AllBare s'.gens)
  (d:∀b∈ch,(b∈X.ex\/X.s₀.heap.objs.size<=b)/\b≠X.env.locals/\(∀x c,X.env.cells.lookup x=↑c->c≠b)/\∀p∈X.pn++tx,p.1≠b):MQ X tx σ H' s':=by
 obtain⟨h',g',d',t',o'⟩:=s';have e:o'=s.os:=ho
 subst e;exact I.call (g':=g') (t':=t') (d':=d') u a hg d
end
abbrev XK:=Γ->Λ->Hp->Prop
abbrev St:=List Ρ
abbrev VK:=V->Hp->Prop
abbrev TE:=St->Hp->VK->Prop
abbrev TT:=St->Hp->(Bool->Hp->Prop)->Prop
abbrev TA:=St->Hp->(Β->Hp->Prop)->Prop
structure Nq where
 nx:St->Hp->Prop
 rt:VK
 bk:St->Hp->Prop:=λ_ _=>False
 ct:St->Hp->Prop:=λ_ _=>False
abbrev TS:=Nq->St->Hp->Prop
def EP(X:Cx)(tx:ML)(σ:St)(Q:VK)(u:Γ)(s':Θ):Prop:=∃v H',MQ X tx σ H' s'/\MT v u/\Q v H'
def TP(X:Cx)(tx:ML)(σ:St)(Q:Bool->Hp->Prop)(b:Bool)(s':Θ):Prop:=∃H',MQ X tx σ H' s'/\Q b H'
def AP(X:Cx)(tx:ML)(σ:St)(Q:Β->Hp->Prop)(us:Ζ)(s':Θ):Prop:=∃a H',MQ X tx σ H' s'/\MU a us/\Q a H'
def SP(X:Cx)(tx:ML)(D:Nq)(f:Flow)(s':Θ):Prop:=
 match f with
 | .next=>∃a H',MQ X tx a H' s'/\D.nx a H'
 | .brk=>∃a H',MQ X tx a H' s'/\D.bk a H'
 | .cont=>∃a H',MQ X tx a H' s'/\D.ct a H'
 | .ret u=>∃v a H',MQ X tx a H' s'/\MT v u/\D.rt v H'
def PE(X:Cx)(e:Φ)(t:TE):Prop:=
 ∀(tx:ML) (s:Θ) (σ:St) (H:Hp) (Q:VK),MQ X tx σ H s->t σ H Q->ε (model X.prog X.w) X.A (eval e X.env) (EP X tx σ Q) X.xe s
def PT(X:Cx)(e:Φ)(t:TT):Prop:=
 ∀(tx:ML) (s:Θ) (σ:St) (H:Hp) (Q:Bool->Hp->Prop),MQ X tx σ H s->t σ H Q->ε (model X.prog X.w) X.A (isTrue e X.env (eval e X.env)) (TP X tx σ Q) X.xe s
def PW(X:Cx)(e:Φ)(t:TT):Prop:=
 ∀(a:Sem Γ) (tx:ML) (s:Θ) (σ:St) (H:Hp) (Q:Bool->Hp->Prop),MQ X tx σ H s->t σ H Q->ε (model X.prog X.w) X.A (isTrue e X.env a) (TP X tx σ Q) X.xe s
theorem PW.pt{X:Cx}{e:Φ}{t:TT}(h:PW X e t):PT X e t:=h _
def PA(X:Cx)(es:Ι)(t:TA):Prop:=
 ∀(pos:Pos) (tx:ML) (s:Θ) (σ:St) (H:Hp) (Q:Β->Hp->Prop),MQ X tx σ H s->t σ H Q->ε (model X.prog X.w) X.A (spliced (backTo pos (θ es X.env))) (AP X tx σ Q) X.xe s
def PS(X:Cx)(st:δ)(t:TS):Prop:=
 ∀(tx:ML) (s:Θ) (σ:St) (H:Hp) (D:Nq),MQ X tx σ H s->t D σ H->ε (model X.prog X.w) X.A (exec st X.env) (SP X tx D) X.xe s
def O5(X:Cx)(st:List δ)(t:TS):Prop:=
 ∀(tx:ML) (s:Θ) (σ:St) (H:Hp) (D:Nq),MQ X tx σ H s->t D σ H->ε (model X.prog X.w) X.A (execs st X.env) (SP X tx D) X.xe s
theorem qF{α:Type}{t:Sem α}{Q c:α->Θ->Prop}{M:Model}{A:Around}{E:MJ}{s:Θ}(h:ε M A t Q E s)(d:∀a s,Q a s->c a s):ε M A t c E s:=JJ h d λ_ _ x=>x
section
variable{X:Cx}
inductive Sw (i:Nat) (σ:L2.St) (H:Hp) (Q:VK):Prop
 |mk (v:_) (h1:σ[i]? =↑(↑v)) (h2:Q v H)
def FJ(i:Nat):TE:=λσ H Q=>Sw i σ H Q
def tC(v:V):TE:=λ_ H Q=>Q v H
theorem Fj{i:Nat}{x:Str}{pos:Pos}(hN:X.N[i]? =↑x)(hv:Fu X.env.scope x)(hd:(x==("__debug__":Str))=false:=by decide)(f:(x==("__classdict__":Str))=false:=by decide):PE X (.Name x pos) (FJ i):=by
 intro tx s σ H Q I h;obtain⟨v,e,h⟩:=h;obtain⟨m,o,j⟩:=I.loc;obtain⟨u,r,l⟩:=j i x v hN e hv;have d:EP X tx σ Q u s:=#[v,H,I,r,h]
 rcases l with⟨hk,n⟩|⟨hk,c,g,a⟩
 ·exact wpAny_Name (wpAny_loadName_local I.ok.kind hk o n d) hd
 ·rcases hk with hk|hk
  ·exact wpAny_Name (wpAny_loadName_cell I.ok.kind hk g a d) hd
  ·exact wpAny_Name (wpAny_loadName_free I.ok.kind hk g a d f) hd
theorem FB{i j pos}:PE X (.Constant (.int i) j pos) (tC (.int i)):=λ_ _ _ H _ I h=>wpAny_Constant_int #[.int i,H,I.tok _,#[_,Z],h]
theorem Go{b j pos}:PE X (.Constant (.bool b) j pos) (tC (.bl b)):=λ_ _ _ H _ I h=>Constant_bool #[.bl b,H,I,Z,h]
theorem EA{j pos}:PE X (.Constant .none j pos) (tC .non):=λ_ _ _ H _ I h=>Constant_none #[.non,H,I,Z,h]
theorem FE{x j pos}:PE X (.Constant (.str x) j pos) (tC (.str x)):=λ_ _ _ H _ I h=>Calls.Constant_str #[.str x,H,I.tok _,#[_,Z],h]
def Gl(X:Cx)(x:Str):Prop:=X.env.kindOf x=some .globalImplicit
theorem Z8{E:MJ}{tx:ML}{s:Θ}{σ:St}{H:Hp}{x:Str}{u:Γ}{pos:Pos}{Q:MJ}(I:MQ X tx σ H s)(hg:Gl X x)(hm:X.mg x=↑u)(h:Q u s)
  (hd:(x==("__debug__":Str))=false:=by decide):ε (model X.prog X.w) X.A (eval (.Name x pos) X.env) Q E s:=
 Calls.Name_function_global I.ok.kind hg (Calls.loadGlobal_global (by rw[I.ok.glob];exact I.mod.glob.keeps I.bk) hm h) hd
theorem bu{E:MJ}{tx:ML}{s:Θ}{σ:St}{H:Hp}{x:Str}{u:Γ}{pos:Pos}{Q:MJ}(I:MQ X tx σ H s)(hg:Gl X x)(hm:X.mg x=none)(hv:bootBuiltins x=↑u)(h:Q u s)
  (hn:x≠"__name__":=by decide)(hd:(x==("__debug__":Str))=false:=by decide):ε (model X.prog X.w) X.A (eval (.Name x pos) X.env) Q E s:=by
 obtain⟨c,h1,a⟩:=I.mod.blt;exact Calls.Name_function_global I.ok.kind hg (Calls.loadGlobal_builtin (by rw[I.ok.glob];exact I.mod.glob.keeps I.bk) hm (by rw[I.ok.blt];exact h1.keeps I.bk) ((a x hn).trans hv) h) hd
theorem DN{x:Str}{v:V}{u:Γ}{pos:Pos}(hg:Gl X x)(hm:X.mg x=↑u)(r:MT v u)(hd:(x==("__debug__":Str))=false:=by decide):PE X (.Name x pos) (tC v):=
 λ_ _ _ H _ I h=>Z8 I hg hm #[v,H,I,r,h] hd
theorem Ea{x:Str}{v:V}{u:Γ}{pos:Pos}(hg:Gl X x)(hm:X.mg x=none)(hv:bootBuiltins x=↑u)(r:MT v u)(hn:x≠"__name__":=by decide)(hd:(x==("__debug__":Str))=false:=by decide):PE X (.Name x pos) (tC v):=
 λ_ _ _ H _ I h=>bu I hg hm hv #[v,H,I,r,h] hn hd
variable{a b:Φ}{ta tb:TE}{pos:Pos}
def PC(X:Cx)(e:CmpOp)(a b:Φ)(t:TE):Prop:=
 ∀(tx:ML) (s:Θ) (σ:St) (H:Hp) (Q:VK),MQ X tx σ H s->t σ H Q->
  ε (model X.prog X.w) X.A (eval a X.env) (λv d=>ε (model X.prog X.w) X.A (eval b X.env) (λu c=>ε (model X.prog X.w) X.A (compareOp e v u) (EP X tx σ Q) X.xe c) X.xe d) X.xe s
def tB(t:TE):TT:=λσ H Q=>t σ H λx H1=>∃c,x= .bl c/\Q c H1
theorem ES{c:CmpOp}{t:TE}(h:PC X c a b t)(h1:behindInMarks c b=false:=by first|exact nobehind _ ⋯ ⋯|rfl):PE X (.Compare a [c] [b] pos) t:=λtx s σ H Q I d=>wpAny_Compare1 (h tx s σ H Q I d) h1
theorem yt{e:CmpOp}{t:TE}(h:PC X e a b t)(h1:behindInMarks e b=false:=by first|exact nobehind _ ⋯ ⋯|rfl):PT X (.Compare a [e] [b] pos) (tB t):=by
 intro tx s σ H Q I f;refine wpAny_isTrue_Compare1 (qF (h tx s σ H _ I f) λv n h1=>qF h1 λu p i=>qF i λc o g=>?_) h1
 obtain⟨x,H1,j,m,l⟩:=g;obtain⟨d,rfl,q⟩:=l;cases m;exact Ir #[H1,j,q]
theorem F4{e:Φ}{t:TE}(h:PE X e t)(he:∀a,isTrue e X.env a=(do let v <- a;standAt e.pos;holding [v] (truthy v)):=by intro _;rfl):PT X e (tB t):=by
 intro tx s σ H Q I c;refine isTrue_plain (qF (h tx s σ H _ I c) λv l f=>?_) (he _)
 obtain⟨x,H1,g,j,i⟩:=f;obtain⟨d,rfl,q⟩:=i;cases j;exact Ir #[H1,g,q]
variable{tA tB':TT}{rest:Ι}
def FD(t u:TT):TT:=λσ H Q=>t σ H λc H1=>if c=true then u σ H1 Q else Q false H1
def GH(t u:TT):TT:=λσ H Q=>t σ H λc H1=>if c=true then Q true H1 else u σ H1 Q
def Eu(t:TT):TT:=λσ H Q=>t σ H λc H1=>Q (! c) H1
theorem Dx(ha:PT X a tA):PW X (.BoolOp .And [a] pos) tA:=by
 intro f tx s σ H Q I h;refine isTrue_and (qF (ha tx s σ H Q I h) λc d e=>?_)
 cases c with
 |true=>exact isTrue_and_nil e
 |false=>exact e
theorem FC(ha:PT X a tA):PW X (.BoolOp .Or [a] pos) tA:=by
 intro f tx s σ H Q I h;refine isTrue_or (qF (ha tx s σ H Q I h) λc d e=>?_)
 cases c with
 |false=>exact isTrue_or_nil e
 |true=>exact e
theorem Fv(ha:PT X a tA)(hb:PW X (.BoolOp .And (b::rest) pos) tB'):PW X (.BoolOp .And (a::b::rest) pos) (FD tA tB'):=by
 intro i tx s σ H Q I h;refine isTrue_and (qF (ha tx s σ H _ I h) λc f g=>?_)
 obtain⟨H1,d,e⟩:=g;cases c with
 |true=>exact hb i tx f σ H1 Q d e
 |false=>exact#[H1,d,e]
theorem Gz(ha:PT X a tA)(hb:PW X (.BoolOp .Or (b::rest) pos) tB'):PW X (.BoolOp .Or (a::b::rest) pos) (GH tA tB'):=by
 intro i tx s σ H Q I h;refine isTrue_or (qF (ha tx s σ H _ I h) λc f g=>?_)
 obtain⟨H1,d,e⟩:=g;cases c with
 |true=>exact#[H1,d,e]
 |false=>exact hb i tx f σ H1 Q d e
theorem FQ(ha:PT X a tA):PT X (.UnaryOp .Not a pos) (Eu tA):=by
 intro tx s σ H Q I h;exact isTrue_not (ha tx s σ H (λc H1=>Q (! c) H1) I h)
def Ct(ta tb:TE):TE:=λσ H Q=>ta σ H λx H1=>∃c,x= .bl c/\if c=true then tb σ H1 Q else Q (.bl false) H1
def CM(ta:TE):TE:=λσ H Q=>ta σ H λx H1=>∃c,x= .bl c/\Q (.bl (! c)) H1
theorem Fr{op}{t:TE}(h:PE X a t):PE X (.BoolOp op [a] pos) t:=λtx s σ H Q I c=>BoolOp_one (h tx s σ H Q I c)
theorem Fx(ha:PE X a ta)(hb:PE X (.BoolOp .And (b::rest) pos) tb):PE X (.BoolOp .And (a::b::rest) pos) (Ct ta tb):=by
 intro tx s σ H Q I h;refine BoolOp_and (qF (ha tx s σ H _ I h) λv f g=>?_)
 obtain⟨x,H1,e,i,d⟩:=g;obtain⟨c,rfl,d⟩:=d;cases i;refine Ir ?_
 cases c with
 |true=>exact hb tx f σ H1 Q e d
 |false=>exact#[.bl false,H1,e,Z,d]
theorem FG(ha:PE X a ta):PE X (.UnaryOp .Not a pos) (CM ta):=by
 intro tx s σ H Q I h;refine UnaryOp_ (qF (ha tx s σ H _ I h) λv i e=>?_)
 obtain⟨x,H1,f,g,d⟩:=e;obtain⟨c,rfl,d⟩:=d;cases g;exact not_of (Ir #[.bl (! c),H1,f,Z,d])
def GF(t:TT)(ta tb:TE):TE:=λσ H Q=>t σ H λc H1=>if c=true then ta σ H1 Q else tb σ H1 Q
theorem Cb{c:Φ}(hc:PT X c tA)(ha:PE X a ta)(hb:PE X b tb):PE X (.IfExp c a b pos) (GF tA ta tb):=by
 intro tx s σ H Q I h;refine wpAny_IfExp (qF (hc tx s σ H _ I h) λd e i=>?_)
 obtain⟨H1,f,g⟩:=i;cases d with
 |true=>exact ha tx e σ H1 Q f g
 |false=>exact hb tx e σ H1 Q f g
end
def MV(K:ι)(H:Hp)(a:Δ)(xs:Β):Prop:=
 Rd H a (.lst xs)\/
  ∃(o:Obj) (c:Array Γ) (n:Nat),K.lookup a=↑o/\o.cls= .type "list"/\o.dict=none/\o.data= .seq c n/\c.size<=ζ/\MU xs c.toList
def MW(K:ι)(H:Hp)(a:Δ)(xs:Β):Prop:=
 Rd H a (.tup xs)\/
  ∃(o:Obj) (c:Array Γ) (n:Nat),K.lookup a=↑o/\o.cls= .type "tuple"/\o.data= .seq c n/\c.size<=ζ/\MU xs c.toList
def Hf:Γ->Ρ
 | .none=>some .non
 | .bool b=>↑(.bl b)
 | .int i _=>↑(.int i)
 | .str x _=>↑(.str x)
 | .bytes b _=>↑(.byt b)
 | .float b _=>↑(.flt b)
 | .ref a=>↑(.ref a)
 | .type n=>↑(.ty n)
 |_=>none
theorem MT.abs{x:V}{u:Γ}(r:MT x u):Hf u=↑x:=by
 cases x with
 |non=>cases r;rfl
 |bl _=>cases r;rfl
 |int _=>obtain⟨t,rfl⟩:=r;rfl
 |str _=>obtain⟨t,rfl⟩:=r;rfl
 |byt _=>obtain⟨t,rfl⟩:=r;rfl
 |flt _=>obtain⟨t,rfl⟩:=r;rfl
 |ref _=>cases r;rfl
 |ty _=>cases r;rfl
theorem MT.inj{x y:V}{u:Γ}(r:MT x u)(q:MT y u):x=y:=JE (r.abs.symm.trans q.abs)
theorem MU.inj:∀{xs ys:Β} {us:Ζ},MU xs us->MU ys us->xs=ys
 :=by
 intro xs ys us h
 induction h generalizing ys with
 |nil=>intro g;cases g;rfl
 |cons r t ih=>intro g;cases g with
  |cons r' t'=>rw[r.inj r',ih t']
section
variable{X:Cx}{tx:ML}{σ:St}{H:Hp}{s:Θ}{a:Δ}{xs ys:Β}
theorem MV.of{K:ι}(h:H a=↑(.lst xs)):MV K H a xs:= .inl (.inl h)
theorem MW.of{K:ι}(h:H a=↑(.tup xs)):MW K H a xs:= .inl (.inl h)
theorem MQ.list(I:MQ X tx σ H s)(h:MV X.K H a xs):∃c:Ζ,MU xs c/\PlainL s.heap a c.toArray/\xs.length<=ζ:=by
 rcases h with h|⟨o,c,n,hk,d,f,g,i,r⟩
 ·obtain⟨z,c,n,r,e⟩:=h.ok I.hok
  exact#[c,r,#[_,n,e,Z,Z,Z],z]
 ·refine#[c.toList,r,#[o,n,I.kIn a o hk,d,f,by simpa using g],?_]
  have e:=r.length;simp only[IB]at e;lia
theorem MQ.tuple(I:MQ X tx σ H s)(h:MW X.K H a xs):∃c:Ζ,MU xs c/\IsTup s.heap a c.toArray/\xs.length<=ζ:=by
 rcases h with h|⟨o,c,n,hk,d,f,g,r⟩
 ·obtain⟨z,c,r,p⟩:=h.ok I.hok
  exact#[c,r,p,z]
 ·refine#[c.toList,r,#[o,I.kIn a o hk,d,n,by simpa using f],?_]
  have e:=r.length;simp only[IB]at e;lia
theorem MQ.list_inj(I:MQ X tx σ H s)(h:MV X.K H a xs)(h':MV X.K H a ys):xs=ys:=by
 obtain⟨f,r,⟨o,n,e,_,_,d⟩,_⟩:=I.list h;obtain⟨c,j,⟨o',l,i,_,_,g⟩,_⟩:=I.list h';rw[e]at i;cases i
 rw[d]at g;injection g with d1 _
 have:f=c:=by simpa using JL Array.toList d1
 subst this;exact r.inj j
theorem MQ.tuple_inj(I:MQ X tx σ H s)(h:MW X.K H a xs)(h':MW X.K H a ys):xs=ys:=by
 obtain⟨f,r,⟨o,e,_,n,d⟩,_⟩:=I.tuple h;obtain⟨c,j,⟨o',i,_,l,g⟩,_⟩:=I.tuple h';rw[e]at i;cases i
 rw[d]at g;injection g with d1 _
 have:f=c:=by simpa using JL Array.toList d1
 subst this;exact r.inj j
end
abbrev Cx.wish(X:Cx)(E:MJ):Cx:={X with xe:=E}
abbrev Cx.nox(X:Cx):Cx:=X.wish λ_ _=>False
theorem Cx.Ok.wish{X:Cx}(ok:X.Ok)(E:MJ):(X.wish E).Ok:=
 #[ok.mod,ok.kind,ok.glob,ok.blt,ok.above,ok.inj,ok.has,ok.cab,ok.hd,ok.frames,ok.stk,ok.exf,ok.bs,ok.bsz,ok.noex,ok.exfs,ok.funs,ok.frf]
theorem Cx.Ok.unwish{X:Cx}{E:MJ}(ok:(X.wish E).Ok):X.Ok:=
 #[ok.mod,ok.kind,ok.glob,ok.blt,ok.above,ok.inj,ok.has,ok.cab,ok.hd,ok.frames,ok.stk,ok.exf,ok.bs,ok.bsz,ok.noex,ok.exfs,ok.funs,ok.frf]
section
variable{X:Cx}{tx:ML}{σ:St}{H:Hp}{s:Θ}{E:MJ}
theorem MQ.wish(I:MQ X tx σ H s)(E:MJ):MQ (X.wish E) tx σ H s:=#[I.ok.wish E,I.os,I.bare,I.base,I.loc,I.cell,I.free,I.freeC,I.pin,I.hok,I.len]
theorem MQ.unwish(I:MQ (X.wish E) tx σ H s):MQ X tx σ H s:=#[I.ok.unwish,I.os,I.bare,I.base,I.loc,I.cell,I.free,I.freeC,I.pin,I.hok,I.len]
theorem SP.unwish{D:Nq}{f:Flow}{s':Θ}(h:SP (X.wish E) tx D f s'):SP X tx D f s':=by
 cases f with
 |next=>obtain⟨a,H',I,q⟩:=h;exact#[a,H',I.unwish,q]
 |brk=>obtain⟨a,H',I,q⟩:=h;exact#[a,H',I.unwish,q]
 |cont=>obtain⟨a,H',I,q⟩:=h;exact#[a,H',I.unwish,q]
 |ret u=>obtain⟨v,a,H',I,r,q⟩:=h;exact#[v,a,H',I.unwish,r,q]
theorem O5.nox{st:List δ}{t:TS}(h:O5 X.nox st t):O5 X st t:=λtx s σ H D I a=>
 JJ (h tx s σ H D (I.wish _) a) (λ_ _ q=>q.unwish) λ_ _ z=>False.elim z
end
section
variable{X:Cx}{st:δ}{rest:List δ}{t u:TS}{e:Φ}{te:TE}{pos:Pos}
def Cj:TS:=λD σ H=>D.nx σ H
def gm(t u:TS):TS:=λD σ H=>t {D with nx:=u D} σ H
theorem Eg:O5 X [] Cj:=λ_ _ σ H _ I h=>Ly #[σ,H,I,h]
theorem BC(h1:PS X st t)(h2:O5 X rest u):O5 X (st::rest) (gm t u):=by
 intro tx s σ H D I h;refine wpAny_execs_cons (qF (h1 tx s σ H {D with nx:=u D} I h) λf c q=>?_)
 cases f with
 |next=>
  obtain⟨a,H',d,q⟩:=q;exact h2 tx c a H' D d q
 |ret v=>exact q
 |brk=>exact q
 |cont=>exact q
theorem Ep(h1:PS X st t):O5 X [st] t:=by
 intro tx s σ H D I h;refine wpAny_execs_cons (qF (h1 tx s σ H D I h) λf a q=>?_)
 cases f with
 |next=>exact Ly q
 |ret v=>exact q
 |brk=>exact q
 |cont=>exact q
theorem MQ.quiet{tx:ML}{σ:St}{H:Hp}{s:Θ}(I:MQ X tx σ H s):interactive X.env=false:=by simp [interactive,I.ok.kind]
def Co(te:TE):TS:=λD σ H=>te σ H λ_ H1=>D.nx σ H1
theorem DC(he:PE X e te)(hs:swapsWith e none pos.line X.env=pure false:=by rfl):PS X (.Expr e pos) (Co te):=by
 intro tx s σ H D I h;exact wpAny_Expr_any (qF (he tx s σ H _ I h) λv d ⟨x,H1,a,f,c⟩=>#[σ,H1,a,c]) I.quiet hs
def FK(te:TE):TS:=λD σ H=>te σ H D.rt
theorem E1(he:PE X e te):PS X (.Return ↑e pos) (FK te):=by
 intro tx s σ H D I h;exact wpAny_Return_some (qF (he tx s σ H _ I h) λv f ⟨x,H1,a,d,c⟩=>#[x,σ,H1,a,d,c])
def FZ(c:TT)(t u:TS):TS:=λD σ H=>c σ H λb H1=>if b=true then t D σ H1 else u D σ H1
theorem Gc{c:Φ}{a b:List δ}{tc:TT}(hc:PT X c tc)(ha:O5 X a t)(hb:O5 X b u):PS X (.If c a b pos) (FZ tc t u):=by
 intro tx s σ H D I h;refine wpAny_If (qF (hc tx s σ H _ I h) λd e i=>?_)
 obtain⟨H1,f,g⟩:=i;cases d with
 |true=>exact ha tx e σ H1 D f g
 |false=>exact hb tx e σ H1 D f g
def Ap:TS:=λ_ _ _=>False
theorem wZ{a:List δ}:O5 X a Ap:=λ_ _ _ _ _ _ h=>h.elim
end
abbrev TG:=V->St->Hp->(St->Hp->Prop)->Prop
abbrev bz:=Β->St->Hp->(St->Hp->Prop)->Prop
def PG(X:Cx)(a:Φ)(t:TG):Prop:=
 ∀(tx:ML) (s:Θ) (σ:St) (H:Hp) (v:V) (u:Γ) (Q:St->Hp->Prop),MQ X tx σ H s->MT v u->t v σ H Q->
  ε (model X.prog X.w) X.A (assign a X.env u) (λ_ s'=>∃c H',MQ X tx c H' s'/\Q c H') X.xe s
def ug(X:Cx)(e:Ι)(t:bz):Prop:=
 ∀(tx:ML) (s:Θ) (σ:St) (H:Hp) (c:Β) (d:Ζ) (Q:St->Hp->Prop),MQ X tx σ H s->MU c d->t c σ H Q->
  ε (model X.prog X.w) X.A (assignInOrder ((assignEach e X.env).map (·.2)) d) (λ_ s'=>∃a H',MQ X tx a H' s'/\Q a H') X.xe s
abbrev jN:=V->V->V->Hp->(Hp->Prop)->Prop
def sj(X:Cx)(t:jN):Prop:=
 ∀(tx:ML) (s:Θ) (σ:St) (H:Hp) (o i v:V) (a c u:Γ) (Q:Hp->Prop),MQ X tx σ H s->MT o a->MT i c->MT v u->t o i v H Q->
  ε (model X.prog X.w) X.A (setItem a c u) (λ_ s'=>∃H',MQ X tx σ H' s'/\Q H') X.xe s
abbrev wP:=V->V->Hp->VK->Prop
def FV(X:Cx)(a:Operator)(t:wP):Prop:=
 ∀(tx:ML) (s:Θ) (σ:St) (H:Hp) (x y:V) (v u:Γ) (Q:VK),MQ X tx σ H s->MT x v->MT y u->t x y H Q->
  ε (model X.prog X.w) X.A (inplaceOp a v u) (EP X tx σ Q) X.xe s
section
variable{X:Cx}{pos:Pos}
def aG(i:Nat):TG:=λv σ H Q=>Q (σ.set i ↑v) H
theorem Dp{i:Nat}{x:Str}(hN:X.N.Nodup)(hi:X.N[i]? =↑x)(hx:kD X.env.scope x)(hf:X.fn x=true\/X.env.scope.names.lookup x=some .local:=by first|exact .inl Z|exact .inr Z|assumption):PG X (.Name x pos) (aG i):=by
 intro tx s σ H v u Q I r h;exact wpAny_assign_Name (aM I hN hi hx r (λs' a=>#[_,H,a,h]) hf)
def B9:bz:=λa σ H Q=>a=[]/\Q σ H
inductive Sg (t:TG) (u:bz) (vs:Β) (σ:L2.St) (H:Hp) (Q:L2.St->Hp->Prop):Prop
 |mk (v:_) (r:_) (h1:vs=v::r) (h2:t v σ H λσ' H'=>u r σ' H' Q)
def ph(t:TG)(u:bz):bz:=λa σ H Q=>Sg t u a σ H Q
theorem Ei:ug X [] B9:=by
 intro tx s σ H a c Q I r h;obtain⟨e,h⟩:=h;subst e;cases r;exact assignInOrder_nil #[σ,H,I,h]
theorem Bi{e:Φ}{es:Ι}{t:TG}{u:bz}(h1:PG X e t)(h2:ug X es u)
  (hs:(assignEach (e::es) X.env).map (·.2)=assign e X.env::(assignEach es X.env).map (·.2):=by rfl):ug X (e::es) (ph t u):=by
 intro tx s σ H j l Q I r h;obtain⟨v,m,g,h⟩:=h;subst g;cases r with
 |cons r rr=>
  rw[hs];refine assignInOrder_cons (qF (h1 tx s σ H _ _ _ I r h) λ_ c d=>?_)
  obtain⟨a,H1,f,i⟩:=d;exact h2 tx c a H1 _ _ Q f rr i
inductive Sx (K:ι) (n:Nat) (t:bz) (v:V) (σ:L2.St) (H:Hp) (Q:L2.St->Hp->Prop):Prop
 |mk (a:_) (xs:_) (h1:v= .ref a) (h2:MW K H a xs) (h3:xs.length=n) (h4:t xs σ H Q)
def uV(K:ι)(n:Nat)(t:bz):TG:=λv σ H Q=>Sx K n t v σ H Q
theorem rP{es:Ι}{k:Nat}{t:bz}{n:Nat}(hc:X.calm=true)(h:ug X es t)
  (hn:(assignEach es X.env).length=n:=by rfl)(hst:(assignEach es X.env).findIdx? (·.1)=none:=by rfl):PG X (.Tuple es k pos) (uV X.K n t):=by
 intro tx s σ H v u Q I r c;obtain⟨a,xs,j,p,i,c⟩:=c;subst j;cases r;obtain⟨l,d,f,q⟩:=I.tuple p;refine assign_Tuple_tuple (I.ok.hd hc) f (by simp [hn,<- i,d.length]) hst λh' m=>?_
 have g:MQ X tx σ H {s with heap:=h'}:=I.kept (t':=s.toks) λb o e=>m b o (Ju (Jl e)) e
 exact h tx _ σ H xs _ Q g (by simpa using d) c
def ET(to c:TE)(t:jN):TG:=λv σ H Q=>to σ H λo H1=>c σ H1 λi a=>t o i v a λH3=>Q σ H3
theorem Fo{o i:Φ}{to e:TE}{t:jN}(ho:PE X o to)(hi:PE X i e)(hs:sj X t)
  (ha:∀v,assign (.Subscript o i pos) X.env v=(do
   let a <- holding [v] (eval o X.env)
   let d <- holding [v,a] (eval i X.env)
   standAt pos
   holding [v,a,d] (setItem a d v)
   release [v,a,d] []):=by intro _;rfl):PG X (.Subscript o i pos) (ET to e t):=by
 intro tx s σ H v u Q I r h;rw[ha];refine Ja (J2 (qF (ho tx s σ H _ I h) λa g c=>?_))
 obtain⟨x,H1,j,z,n⟩:=c;refine Ja (J2 (qF (hi tx g σ H1 _ j n) λd p c=>?_))
 obtain⟨y,w,f,q,A⟩:=c;refine Ja (Iu (Ja (J2 (qF (hs tx p σ w x y v a d u _ f z q r A) λ_ B c=>?_))))
 obtain⟨H3,l,m⟩:=c;exact wpAny_release #[σ,H3,l,m]
def lZ(te:TE)(g:TG):TS:=λD σ H=>te σ H λx H1=>g x σ H1 D.nx
theorem Fs{tg e:Φ}{te:TE}{g:TG}(he:PE X e te)(hg:PG X tg g)(hs:swapsWithSole [tg] e pos.line X.env=pure false:=by rfl)(hw:swappedStores [tg] e X.env=pure none:=by rfl)
  (h1:(assignEach [tg] X.env).map (·.2)=[assign tg X.env]:=by rfl):PS X (.Assign [tg] e pos) (lZ te g):=by
 intro tx s σ H D I h;refine wpAny_Assign_stores (qF (he tx s σ H _ I h) λv a c=>?_) hs hw
 obtain⟨x,H1,d,i,f⟩:=c;rw[h1];exact qF (hg tx a σ H1 x v _ d i f) λ_ j q=>q
theorem Ft{i:Nat}{x:Str}{e:Φ}{te:TE}{pos':Pos}(hN:X.N.Nodup)(hi:X.N[i]? =↑x)(hx:kD X.env.scope x)(he:PE X e te)(hs:swapsWith e ↑(.Name x pos') pos.line X.env=pure false:=by rfl)(hf:X.fn x=true\/X.env.scope.names.lookup x=some .local:=by first|exact .inl Z|exact .inr Z|assumption):
  PS X (.Assign [.Name x pos'] e pos) (lZ te (aG i)):=by
 intro tx s σ H D I h;refine wpAny_Assign_Name (qF (he tx s σ H _ I h) λv j c=>?_) hs
 obtain⟨y,H1,d,g,f⟩:=c;exact aM d hN hi hx g (λl a=>#[_,H1,a,f]) hf
def FN(i j:Nat)(ta:TA):TS:=λD σ H=>ta σ H λa H1=>∃v w,a=[v,w]/\D.nx ((σ.set i ↑v).set j ↑w) H1
theorem EG{i j:Nat}{x y:Str}{a b:Φ}{ta:TA}{r m pt:Pos}{kt k2 pt2}(hc:X.calm=true)(hN:X.N.Nodup)(hi:X.N[i]? =↑x)(J:X.N[j]? =↑y)(g:i≠j)
  (hx:X.env.scope.names.lookup x=some .local)(u:X.env.scope.names.lookup y=some .local)(ha:PA X [a,b] ta)
  (hw:swappedStores [.Tuple [.Name x r,.Name y m] kt pt] (.Tuple [a,b] k2 pt2) X.env=pure (some [x,y]))
  (hs:swapsWithSole [.Tuple [.Name x r,.Name y m] kt pt] (.Tuple [a,b] k2 pt2) pos.line X.env=pure false:=by rfl):
  PS X (.Assign [.Tuple [.Name x r,.Name y m] kt pt] (.Tuple [a,b] k2 pt2) pos) (FN i j ta):=by
 intro tx s σ H D I h;rw[exec_Assign_arm];refine Ja (Iu ?_)
 rw[hs];refine Ja (Jh ?_)
 rw[Jc ⋯]
 refine Ja (Tuple_ (qF (ha _ tx s σ H _ I h) λC c E=>?_))
 obtain⟨N,H1,K,F,t⟩:=E;obtain⟨v,w,B,t⟩:=t;subst B;obtain⟨f,d,rfl,M,n⟩:∃f d,C=[f,d]/\MT v f/\MT w d:=by
  cases F with
  |cons p q=>
   cases q with
   |cons p' q'=>
    cases q'
    exact#[_,_,Z,p,p']
 refine J6 ?_ (by show 2<=ζ;decide)
 have G:MQ X tx σ H1 {c with heap:=c.heap.push {cls:= .type "tuple",data:= .seq [f,d].toArray}}:=K.kept (t':=c.toks) λb o e=>Jj _ e
 rw[hw];refine Ja (Jh ?_)
 show ε (model X.prog X.w) X.A (do rule "assign.swapped-stores";let items <- unpackItems (.ref c.heap.objs.size) 2 none;assignInOrder [λv=>bindName X.env y v,λv=>bindName X.env x v] items.reverse;pure Flow.next) _ _ _
 refine Ja (IM (Ja (unpackItems_tuple (items:= (List.toArray [f,d])) (I.ok.hd hc) (IsTup.new c.heap _) λh' l=>?_)))
 have L:=G.kept (h':=h') (t':=c.toks) λb o e=>l b o (Ju (Jl e)) e
 show ε _ _ (assignInOrder [λv=>bindName X.env y v,λv=>bindName X.env x v] [d,f] >>= λ_=>pure Flow.next) _ _ _
 refine Ja (assignInOrder_cons (wpAny_bindName (aM L hN J (.inl u) n (λP A=>?_) (.inr u))))
 refine assignInOrder_cons (wpAny_bindName (aM A hN hi (.inl hx) M (λO z=>assignInOrder_nil (Jh ?_)) (.inr hx)))
 rw[List.set_comm _ _ (Ne.symm g)]at z
 exact#[_,H1,z,t]
def Cs(to e te:TE)(a:V->V->Hp->VK->Prop)(d:wP)(c:jN):TS:=λD σ H=>to σ H λo H1=>e σ H1 λi j=>a o i j λx H3=>te σ H3 λy f=>d x y f λz h=>c o i z h λg=>D.nx σ g
def BB(X:Cx)(t:V->V->Hp->VK->Prop):Prop:=
 ∀(tx:ML) (s:Θ) (σ:St) (H:Hp) (o i:V) (a c:Γ) (Q:VK),MQ X tx σ H s->MT o a->MT i c->t o i H Q->
  ε (model X.prog X.w) X.A (getItem a c) (EP X tx σ Q) X.xe s
theorem Dw{o i e:Φ}{to m te:TE}{d:V->V->Hp->VK->Prop}{j:wP}{c:jN}{n:Operator}{tpos:Pos}(ho:PE X o to)(hi:PE X i m)(hg:BB X d)(he:PE X e te)(hp:FV X n j)(hs:sj X c)
  (ha:∀f g new,augStore i f g new=(do holding [new,f,g] (setItem f g new);release [new,f,g] [];pure .next):=by intros;rfl):PS X (.AugAssign (.Subscript o i tpos) n e pos) (Cs to m te d j c):=by
 intro tx s σ H D I h;refine wpAny_AugAssign_SubscriptAny (qF (ho tx s σ H _ I h) λf C a=>?_) ha
 obtain⟨p,H1,L,r,W⟩:=a;refine qF (hi tx C σ H1 _ L W) λg U a=>?_
 obtain⟨t,B,J,q,G⟩:=a;refine qF (hg tx U σ B p t f g _ J r q G) λl S a=>?_
 obtain⟨P,H3,M,O,z⟩:=a;refine qF (he tx S σ H3 _ M z) λv N a=>?_
 obtain⟨R,w,x,Q,q4⟩:=a;refine qF (hp tx N σ w P R l v _ x O Q q4) λnew T a=>?_
 obtain⟨u,Y,F,r5,y⟩:=a;exact qF (hs tx T σ Y p t u f g new _ F r q r5 y) λ_ s6 ⟨E,A,K⟩=>#[σ,E,A,K]
def HL(f:Int->Int->Int):wP:=λx y H Q=>∃i j,x= .int i/\y= .int j/\Q (.int (f i j)) H
theorem FY:FV X .Add (HL λi j=>i+j):=by
 intro tx s σ H x y v u Q I d c h;obtain⟨i,j,a,e,q⟩:=h;subst a;subst e
 obtain⟨t,rfl⟩:=d;obtain⟨f,rfl⟩:=c;exact iadd_int #[.int _,H,I.tok _,#[_,Z],q]
end
structure It where
 go:Nat->Hp->Prop
 yld:Nat->Hp->V->Hp->Prop
 stop:Nat->Hp->Prop
def ZZ(X:Cx)(tx:ML)(H:Hp)(b:Δ):Prop:=
 H b=none/\b≠X.env.locals/\b∉X.fs/\(b∈X.ex\/X.s₀.heap.objs.size<=b)/\(∀x c,X.env.cells.lookup x=↑c->c≠b)/\∀p∈X.pn++tx,p.1≠b
theorem MQ.fpOk{X:Cx}{tx:ML}{σ:St}{H H':Hp}{s:Θ}{b:Δ}(I:MQ X tx σ H s)(hb:s.heap.objs.size<=b)(hn:H' b=none):ZZ X tx H' b:=by
 refine#[hn,J0 (JN I.lt hb),I.nofs hb,.inr (JH I.sz hb),λx c e z=>?_,λp a z=>?_]
 ·obtain⟨v,q⟩:=I.cell x c e
  exact absurd (JN q.lt (by rw[z];exact hb)) (J1 _)
 ·exact absurd (JN (Jl (I.pin p a).1) (by rw[z];exact hb)) (J1 _)
structure Oz(P:Ξ)(w:Ω)(K:ι)(tg:Φ)(J:It)(fp:Η)(it:Δ)(tn:Nat->Ψ->Prop):Prop where
 mem:it∈fp
 obj:∀i h,tn i h->∀b∈fp,∃o,h.get? b=↑o/\∀v,o.data≠ .cell v
 keep:∀i h h',tn i h->(∀b∈fp,∀o,h.get? b=↑o->h'.get? b=↑o)->tn i h'
 item:∀(X:Cx),X.prog=P->X.w=w->X.K=K->X.calm=true->∀(i:Nat) (tx:ML) (s:Θ) (σ:St) (H:Hp) (E:MJ),MQ X tx σ H s->(∀b∈fp,ZZ X tx H b)->tn i s.heap->J.go i H->
  ε (model P w) X.A (pyNext (.ref it)) (λr s1=>∃u,r=↑u/\
   ε (model P w) X.A (letOwnedTupleGo tg (.ref it) u) (λ_ s2=>∃x H',MQ X tx σ H' s2/\MT x u/\J.yld i H x H'/\tn (i+1) s2.heap/\∀b∈fp,H' b=none) E s1) E s
 done:∀(X:Cx),X.prog=P->X.w=w->X.K=K->X.calm=true->∀(i:Nat) (tx:ML) (s:Θ) (σ:St) (H:Hp) (E:MJ),MQ X tx σ H s->(∀b∈fp,ZZ X tx H b)->tn i s.heap->J.stop i H->
  ε (model P w) X.A (pyNext (.ref it)) (λr s1=>r=none/\MQ X tx σ H s1) E s
 self:∀(A:Around) (i:Nat) (s:Θ) (Q:MJ) (E:MJ),tn i s.heap->Q (.ref it) s->ε (model P w) A (pyIter (.ref it)) Q E s
abbrev TI:=St->Hp->(It->Hp->Prop)->Prop
def GI(X:Cx)(tx:ML)(σ:St)(tg:Φ)(R:It->Hp->Prop)(a:Γ)(e:Θ):Prop:=
 ∃(d:Δ) (c:Η) (tn:Nat->Ψ->Prop) (J:It) (H':Hp),a= .ref d/\MQ X tx σ H' e/\Oz X.prog X.w X.K tg J c d tn/\tn 0 e.heap/\(∀b∈c,ZZ X tx H' b)/\R J H'
def PI(X:Cx)(tg a:Φ)(d:TI):Prop:=
 ∀(tx:ML) (s:Θ) (σ:St) (H:Hp) (R:It->Hp->Prop),MQ X tx σ H s->d σ H R->
  ε (model X.prog X.w) X.A (eval a X.env) (λv c=>ε (model X.prog X.w) X.A (pyIter v) (GI X tx σ tg R) X.xe c) X.xe s
theorem eV{M:Model}{A:Around}{E:MJ}{s:Θ}{tg:Φ}{it:Δ}{u:Γ}{o:Obj}{n:String}{vs:Array Γ}{Q:Unit->Θ->Prop}(ho:s.heap.get? it=↑o)(hc:o.cls= .type n)(hd:o.data= .fields vs)
    (hn:["enumerate","zip","dict_itemiterator","dict_reverseitemiterator","odict_iterator","itertools.zip_longest","itertools.pairwise"].contains n=false)(a:Q () s):ε M A (letOwnedTupleGo tg (.ref it) u) Q E s:=by
  unfold letOwnedTupleGo;cases tg<;>first
    |exact Jh a
    |(cases u<;>first
        |exact Jh a
        | (refine Ja (wpAny_load ho ?_)
           rw[hc,hd]
           show ε M A (if(["enumerate","zip","dict_itemiterator","dict_reverseitemiterator","odict_iterator","itertools.zip_longest","itertools.pairwise"].contains n&&vs[0]? ==↑(rawInt _))=true then _ else _) Q E s
           rw[Jc (by intro h;rw[hn,Ij]at h;cases h)]
           exact Jh a))
def iu(K:ι)(a:Δ):It:=
 ⟨λi H=>∃xs x,MV K H a xs/\xs[i]? =↑x,λi H x H'=>H'=H/\∀xs,MV K H a xs->xs[i]? =↑x,λi H=>∃xs,MV K H a xs/\xs.length<=i⟩
def ib(K:ι)(a:Δ):It:=
 ⟨λi H=>∃xs x,MW K H a xs/\xs[i]? =↑x,λi H x H'=>H'=H/\∀xs,MW K H a xs->xs[i]? =↑x,λi H=>∃xs,MW K H a xs/\xs.length<=i⟩
def pJ(lo:Int)(n:Nat):It:=⟨λi _=>i<n,λi H x H'=>H'=H/\x= .int (lo+i),λi _=>n<=i⟩
theorem nS{P:Ξ}{w:Ω}{K:ι}{tg:Φ}(a it:Δ):Oz P w K tg (iu K a) [it] it (λi h=>h.IsListIter it a i) where
 mem:=by simp
 obj:=λi h st b f=>by
  have e:b=it:=by simpa using f
  subst e;obtain⟨o,e,c,d⟩:=st
  exact#[o,e,λv z=>by rw[d]at z;cases z]
 keep:=λi h h' st k=>st.at λo e=>k it (by simp) o e
 item:=by
  intro X A t n G i tx s σ H E I l st m;subst A t n;obtain⟨xs,x,j,B⟩:=m;obtain⟨C,F,p,M⟩:=I.list j;obtain⟨u,J,O⟩:=F.get B;obtain⟨D,f1,f2,q,r,y⟩:=l it (by simp)
  refine wpAny_pyNext_list_item st p.isList (x:=u) (by simpa using J) λh' g Q=>?_
  have R:MQ X tx σ H {s with heap:=h'}:=I.turned (t':=s.toks) (λb o f e=>(Q.2 b f).trans e) D f1 q r y
  obtain⟨o,e,c,d⟩:=id g
  exact#[u,Z,eV (s:={s with heap:=h'}) e c d ⋯ #[x,H,R,O,#[Z,λys N=>by rw[I.list_inj N j];exact B],g,λb f=>(l b f).1]]
 done:=by
  intro X A t n G i tx s σ H E I l st m;subst A t n;obtain⟨xs,j,B⟩:=m;obtain⟨C,F,p,M⟩:=I.list j;obtain⟨D,f1,f2,q,r,y⟩:=l it (by simp)
  have S:=F.length;exact wpAny_pyNext_list_end (I.ok.hd G) st p.isList (by simp;lia) λh' L=>#[Z,I.turned (t':=s.toks) (λb o f e=>L b o f e) D f1 q r y]
 self:=λ_ _ _ _ _ st h=>wpAny_pyIter_listiter st h
theorem kZ{P:Ξ}{w:Ω}{K:ι}{tg:Φ}(a it:Δ):Oz P w K tg (ib K a) [it] it (λi h=>h.IsTupleIter it a i) where
 mem:=by simp
 obj:=λi h st b f=>by
  have e:b=it:=by simpa using f
  subst e;obtain⟨o,e,c,d⟩:=st
  exact#[o,e,λv z=>by rw[d]at z;cases z]
 keep:=λi h h' st k=>st.at λo e=>k it (by simp) o e
 item:=by
  intro X B y q G i tx s σ H E I m st n;subst B y q;obtain⟨xs,x,l,C⟩:=n;obtain⟨g,F,p,M⟩:=I.tuple l;obtain⟨u,J,O⟩:=F.get C;obtain⟨D,f1,f2,r,t,A⟩:=m it (by simp)
  refine wpAny_pyNext_tuple_item st (show s.heap.IsTuple a g.toArray from p) (x:=u) (by simpa using J) λh' j Q=>?_
  have R:MQ X tx σ H {s with heap:=h'}:=I.turned (t':=s.toks) (λb o f e=>(Q.2 b f).trans e) D f1 r t A
  obtain⟨o,e,c,d⟩:=id j
  exact#[u,Z,eV (s:={s with heap:=h'}) e c d ⋯ #[x,H,R,O,#[Z,λys N=>by rw[I.tuple_inj N l];exact C],j,λb f=>(m b f).1]]
 done:=by
  intro X B y q G i tx s σ H E I m st n;subst B y q;obtain⟨xs,l,C⟩:=n;obtain⟨g,F,p,M⟩:=I.tuple l;obtain⟨D,f1,f2,r,t,A⟩:=m it (by simp)
  have S:=F.length;exact wpAny_pyNext_tuple_end (I.ok.hd G) st (show s.heap.IsTuple a g.toArray from p) (by simp;lia) λh' L=>#[Z,I.turned (t':=s.toks) (λb o f e=>L b o f e) D f1 r t A]
 self:=λ_ _ _ _ _ st h=>wpAny_pyIter_tupleiter st h
theorem vg{P:Ξ}{w:Ω}{K:ι}{tg:Φ}(it:Δ)(lo:Int)(n:Nat):Oz P w K tg (pJ lo n) [it] it (λi h=>IsRangeIter h it (lo+(i:Nat)*1) ((n:Int)-(i:Nat)) 1) where
 mem:=by simp
 obj:=λi h st b a=>by
  have e:b=it:=by simpa using a
  subst e
  exact#[_,st,λv z=>by
   have B:Data.fields _=Data.cell v:=z
   cases B]
 keep:=λi h h' st k=>k it (by simp) _ st
 item:=by
  intro X q g l f i tx s σ H E I d st j;subst q g l;obtain⟨r,f1,f2,p,u,m⟩:=d it (by simp)
  have W:=Walks.range (prog:=X.prog) (w:=X.w) (I.ok.hd f) it lo 1 n
  refine W.item i s _ _ j st λv h' tk y c kk=>?_
  obtain⟨t,rfl⟩:=y;have x:MQ X tx σ H {s with heap:=h',toks:=tk}:=I.turned (λb o a e=>kk b o (by simpa using a) e) r f1 p u m
  refine#[_,Z,eV (s:={s with heap:=h',toks:=tk}) (n:="range_iterator") c Z Z ⋯ #[.int (lo+i),H,x,#[t,?_],#[Z,Z],c,λb a=>(d b a).1]]
  rw[Int.mul_one]
 done:=by
  intro X q g l f i tx s σ H E I d st j;subst q g l;obtain⟨r,f1,f2,p,u,m⟩:=d it (by simp)
  exact wpAny_pyNext_range_end (I.ok.hd f) st (by have:n<=i:=j;lia) λh' A=>#[Z,I.turned (t':=s.toks) (λb o a e=>A b o a e) r f1 p u m]
 self:=λ_ _ _ _ _ st h=>Mt st h
section
variable{X:Cx}{tg:Φ}
def CL(K:ι)(tl:TE):TI:=λσ H R=>tl σ H λx H1=>∃a,x= .ref a/\(∃xs,MV K H1 a xs)/\R (iu K a) H1
def F5(K:ι)(tl:TE):TI:=λσ H R=>tl σ H λx H1=>∃a,x= .ref a/\(∃xs,MW K H1 a xs)/\R (ib K a) H1
theorem Eb{l:Φ}{tl:TE}(hl:PE X l tl):PI X tg l (CL X.K tl):=by
 intro tx s σ H R I h;refine qF (hl tx s σ H _ I h) λv c f=>?_
 obtain⟨x,H1,d,n,j⟩:=f;obtain⟨a,e,⟨xs,m⟩,q⟩:=j;subst e;cases n;obtain⟨g,t,p,r⟩:=d.list m;refine Lz p.isList ?_
 refine#[c.heap.objs.size,[c.heap.objs.size],_,_,H1,Z,d.kept (t':=c.toks) λb o e=>Jj _ e,nS a _,#[_,Jw _ Z,Z,Z],λb i=>?_,q]
 have e:b=c.heap.objs.size:=by simpa using i
 subst e;exact d.fpOk (Je _) (d.hok.fresh (Je _))
theorem Fp{l:Φ}{tl:TE}(hl:PE X l tl):PI X tg l (F5 X.K tl):=by
 intro tx s σ H R I h;refine qF (hl tx s σ H _ I h) λv c g=>?_
 obtain⟨x,H1,d,n,j⟩:=g;obtain⟨a,e,⟨xs,m⟩,q⟩:=j;subst e;cases n;obtain⟨f,t,p,r⟩:=d.tuple m;refine IC (show c.heap.IsTuple a f.toArray from p) ?_
 refine#[c.heap.objs.size,[c.heap.objs.size],_,_,H1,Z,d.kept (t':=c.toks) λb o e=>Jj _ e,kZ a _,#[_,Jw _ Z,Z,Z],λb i=>?_,q]
 have e:b=c.heap.objs.size:=by simpa using i
 subst e;exact d.fpOk (Je _) (d.hok.fresh (Je _))
theorem AC{tx:ML}{σ:St}{H:Hp}{s:Θ}{R:It->Hp->Prop}{E:MJ}{lo hi:Int}{t u v:Tok}{tk:Nat}(I:MQ X tx σ H s)(h1: -(2 ^ 62)<=lo)(h2:lo<2 ^ 62)(f: -(2 ^ 62)<=hi)(c:hi<2 ^ 62)
  (q:R (pJ lo (hi-lo).toNat) H):ε (model X.prog X.w) X.A (pyIter (.ref s.heap.objs.size)) (GI X tx σ tg R) E {s with heap:=s.heap.push {cls:= .type "range",data:= .fields (List.toArray [.int lo t,.int hi u,.int 1 v])},toks:=tk}:=by
 refine wpAny_pyIter_range (IsRange.new ..) (small_one h1 h2 f c) ?_
 have a:MQ X tx σ H {s with heap:=s.heap.push {cls:= .type "range",data:= .fields (List.toArray [.int lo t,.int hi u,.int 1 v])},toks:=tk}:=I.kept λb o e=>Jj _ e
 refine#[(s.heap.push {cls:= .type "range",data:= .fields (List.toArray [.int lo t,.int hi u,.int 1 v])}).objs.size,[(s.heap.push {cls:= .type "range",data:= .fields (List.toArray [.int lo t,.int hi u,.int 1 v])}).objs.size],_,_,H,Z,
  a.kept (t':=tk) λb o e=>Jj _ e,vg _ lo (hi-lo).toNat,?_,λb g=>?_,q]
 ·have d:lo+((0:Nat):Int)*1=lo:=by simp
  have h:(((hi-lo).toNat:Nat):Int)-((0:Nat):Int)=γ.Range.rangeSize lo hi 1:=by rw[rangeSize_one];split<;>lia
  show IsRangeIter _ _ (lo+((0:Nat):Int)*1) ((((hi-lo).toNat:Nat):Int)-((0:Nat):Int)) 1
  rw[d,h];exact Jw _ Z
 ·have e:b=(s.heap.push {cls:= .type "range",data:= .fields (List.toArray [.int lo t,.int hi u,.int 1 v])}).objs.size:=by simpa using g
  subst e;exact a.fpOk (Je _) (a.hok.fresh (Je _))
def CW(ta:TA):TI:=λσ H R=>ta σ H λa H1=>∃j:Int,a=[.int j]/\ -(2 ^ 62)<=j/\j<2 ^ 62/\R (pJ 0 j.toNat) H1
theorem yz{a:Φ}{ta:TA}{p pos:Pos}(hg:Gl X "range")(hm:X.mg "range"=none)(ha:PA X [a] ta)(hs:θ [a] X.env=[(false,eval a X.env)]:=by rfl):PI X tg (.Call (.Name "range" p) [a] [] pos) (CW ta):=by
 intro tx s σ H R I h;refine Call_ (bu I hg hm boot_range (Lg (qF (ha pos tx s σ H _ I h) λn m d=>?_) hs Z))
 obtain⟨l,H1,f,g,c⟩:=d;obtain⟨j,e,c,i,q⟩:=c;subst e;cases g with
 |cons r rr=>
  cases rr;obtain⟨t,rfl⟩:=r;exact call_range_1 (AC f (by lia) (by lia) c i (by simpa using q))
def BW(d:TI)(g:TG)(tb:TS):TS:=λD σ H=>d σ H λJ H1=>∃W:Nat->Nat->St->Hp->Prop,(∃m,W 0 m σ H1)/\∀i m σ H,W i m σ H->
 (J.stop i H/\D.nx σ H)\/(J.go i H/\∃N:St->Hp->Prop,(∀a H',N a H'->∃m',m'<m/\W (i+1) m' a H')/\∀x H',J.yld i H x H'->g x σ H' λc e=>tb {D with nx:=N,ct:=N,bk:=D.nx} c e)
def kI(a:Η)(h:Ψ):List (Δ×Obj):=a.filterMap λb=>(h.get? b).map λo=>(b,o)
theorem az{a:Η}{h:Ψ}{b:Δ}{o:Obj}(hb:b∈a)(e:h.get? b=↑o):(b,o)∈kI a h:=List.mem_filterMap.mpr #[b,hb,by rw[e];rfl]
theorem yj{a:Η}{h:Ψ}{p:Δ×Obj}(hp:p∈kI a h):p.1∈a/\h.get? p.1=↑p.2:=by
 obtain⟨b,c,e⟩:=List.mem_filterMap.mp hp;cases q:h.get? b with
 |none=>rw[q]at e;cases e
 |some o=>
  rw[q]at e;have d:(b,o)=p:=JE e
  subst d
  exact#[c,q]
theorem MQ.pinned{tx:ML}{σ:St}{H:Hp}{s:Θ}{a:Η}(I:MQ X tx σ H s)(hf:∀b∈a,ZZ X tx H b)(ho:∀b∈a,∃o,s.heap.get? b=↑o/\∀v,o.data≠ .cell v):MQ X (tx++kI a s.heap) σ H s:=
 I.pins_of λp h=>(Jv.mp h).elim (λz=>I.pin p (J3 _ z)) λz=>by
  obtain⟨f,e⟩:=yj z;obtain⟨g,f1,f2,_⟩:=hf p.1 f;obtain⟨o,c,d⟩:=ho p.1 f;rw[e]at c;cases c
  exact#[e,g,f1,f2,d]
theorem MQ.unpinned{tx pl:ML}{σ:St}{H:Hp}{s:Θ}(I:MQ X (tx++pl) σ H s):MQ X tx σ H s:=I.pins_of λp a=>I.pin p (J3 _ (LX _ a))
theorem F3{c:Φ}{y:List δ}{S:TI}{g:TG}{tb:TS}{pos:Pos}(hp:PassesOwn (model X.prog X.w) X.A X.env X.xe)(hc:X.calm=true)(hi:PI X tg c S)(hg:PG X tg g)(hb:O5 X y tb)
  (hs:∀x,foldedSetIterable c X.env x=pure x:=by intro _;rfl):PS X (.For tg c y [] pos) (BW S g tb):=by
 intro tx s σ H D I h;refine wpAny_For (qF (hi tx s σ H _ I h) λv s1 h1=>qF h1 λa0 s2 h2=>?_) hs
 obtain⟨it,C,tn,J,H2,e,I2,T,R,f2,W,⟨m0,w0⟩,turn⟩:=h2;subst e;have j:∀{H':Hp},(∀b∈C,H' b=none)->∀b∈C,ZZ X tx H' b:=λhn b hb=>#[hn b hb,(f2 b hb).2]
 refine codeAny_forLoop_any (λn s'=>∃i q H',MQ X tx q H' s'/\tn i s'.heap/\(∀b∈C,H' b=none)/\W i n q H') ?_ m0 #[0,σ,H2,I2,R,λb hb=>(f2 b hb).1,w0]
 rintro n s3 ⟨i,p,H3,Y,G,F,w3⟩
 rcases turn i n p H3 w3 with⟨E,qn⟩|⟨go,N,hN,step⟩
 ·refine LA hp (qF (T.done X Z Z Z hc i tx s3 p H3 X.xe Y (j F) G E) λr s4 A=>?_)
  obtain⟨P,I4⟩:=A;subst P;exact Ly #[p,H3,I4,qn]
 ·refine LA hp (qF (T.item X Z Z Z hc i tx s3 p H3 X.xe Y (j F) G go) λr s4 A=>?_)
  obtain⟨u,P,h4⟩:=A;subst P;refine LA hp (qF h4 λ_ s5 A=>?_)
  obtain⟨x,U,I5,r5,y5,B,L⟩:=A;have O:=I5.pinned (j L) (T.obj _ _ B);refine LA hp (qF (hg _ s5 p U x u _ O r5 (step x U y5)) λ_ s6 A=>?_)
  obtain⟨M,H6,I6,q6⟩:=A;refine LA hp (qF (hb _ s6 M H6 _ I6 q6) λf Q z=>?_)
  have l:∀{a:St} {w:Hp},MQ X (tx++kI C s5.heap) a w Q->N a w->∃m,m<n/\∃i q H',MQ X tx q H' Q/\tn i Q.heap/\(∀b∈C,H' b=none)/\W i m q H':=λ{a w} t K=>by
   obtain⟨m',hm,w7⟩:=hN a w K;refine#[m',hm,i+1,a,w,t.unpinned,T.keep _ _ _ B λb hb o e=>(t.pin (b,o) (J3 _ (J3 _ (az hb e)))).1,λb hb=>?_,w7]
   obtain⟨o,e,d⟩:=T.obj _ _ B b hb
   exact(t.pin (b,o) (J3 _ (J3 _ (az hb e)))).2.1
  cases f with
  |next=>obtain⟨a,w,t,K⟩:=z;exact l t K
  |cont=>obtain⟨a,w,t,K⟩:=z;exact l t K
  |brk=>obtain⟨a,w,t,z⟩:=z;exact#[a,w,t.unpinned,z]
  |ret v=>obtain⟨x7,a,w,t,r7,z⟩:=z;exact#[x7,a,w,t.unpinned,r7,z]
end
theorem jH{K:ι}{a:Δ}{xs:Β}{g:TG}{tb:TS}{D:Nq}{σ:St}{H:Hp}(Pv:Nat->St->Hp->Prop)(l:Pv 0 σ H)(hl:∀i σ H,i<=xs.length->Pv i σ H->MV K H a xs)
  (hs:∀i x σ H,xs[i]? =↑x->Pv i σ H->g x σ H λd h=>tb {D with nx:=Pv (i+1),ct:=Pv (i+1),bk:=D.nx} d h)(hd:∀σ H,Pv xs.length σ H->D.nx σ H):
  ∃W:Nat->Nat->St->Hp->Prop,(∃m,W 0 m σ H)/\∀i m σ H,W i m σ H->
   ((iu K a).stop i H/\D.nx σ H)\/((iu K a).go i H/\∃N:St->Hp->Prop,(∀c H',N c H'->∃m',m'<m/\W (i+1) m' c H')/\∀x H',(iu K a).yld i H x H'->g x σ H' λd h=>tb {D with nx:=N,ct:=N,bk:=D.nx} d h):=by
 refine#[λi m σ H=>m=xs.length-i/\i<=xs.length/\Pv i σ H,#[xs.length,by simp,JM _,l],?_]
 rintro i m σ H ⟨rfl,hi,p⟩
 have q:=hl i σ H hi p
 by_cases f:i<xs.length
 ·refine .inr #[#[xs,xs[i],q,by simp [f]],Pv (i+1),λc H' j=>#[xs.length-(i+1),by lia,Z,f,j],λx H' y=>?_]
  obtain⟨e,y⟩:=y;subst e;exact hs i x σ _ (y xs q) p
 ·have e:i=xs.length:=by lia
  subst e;exact .inl #[#[xs,q,Je _],hd σ H p]
theorem iG{K:ι}{a:Δ}{xs:Β}{g:TG}{tb:TS}{D:Nq}{σ:St}{H:Hp}(Pv:Nat->St->Hp->Prop)(l:Pv 0 σ H)(hl:∀i σ H,i<=xs.length->Pv i σ H->MW K H a xs)
  (hs:∀i x σ H,xs[i]? =↑x->Pv i σ H->g x σ H λd h=>tb {D with nx:=Pv (i+1),ct:=Pv (i+1),bk:=D.nx} d h)(hd:∀σ H,Pv xs.length σ H->D.nx σ H):
  ∃W:Nat->Nat->St->Hp->Prop,(∃m,W 0 m σ H)/\∀i m σ H,W i m σ H->
   ((ib K a).stop i H/\D.nx σ H)\/((ib K a).go i H/\∃N:St->Hp->Prop,(∀c H',N c H'->∃m',m'<m/\W (i+1) m' c H')/\∀x H',(ib K a).yld i H x H'->g x σ H' λd h=>tb {D with nx:=N,ct:=N,bk:=D.nx} d h):=by
 refine#[λi m σ H=>m=xs.length-i/\i<=xs.length/\Pv i σ H,#[xs.length,by simp,JM _,l],?_]
 rintro i m σ H ⟨rfl,hi,p⟩
 have q:=hl i σ H hi p
 by_cases f:i<xs.length
 ·refine .inr #[#[xs,xs[i],q,by simp [f]],Pv (i+1),λc H' j=>#[xs.length-(i+1),by lia,Z,f,j],λx H' y=>?_]
  obtain⟨e,y⟩:=y;subst e;exact hs i x σ _ (y xs q) p
 ·have e:i=xs.length:=by lia
  subst e;exact .inl #[#[xs,q,Je _],hd σ H p]
theorem ba{lo:Int}{n:Nat}{g:TG}{tb:TS}{D:Nq}{σ:St}{H:Hp}(Pv:Nat->St->Hp->Prop)(j:Pv 0 σ H)
  (hs:∀i σ H,i<n->Pv i σ H->g (.int (lo+i)) σ H λd f=>tb {D with nx:=Pv (i+1),ct:=Pv (i+1),bk:=D.nx} d f)(hd:∀σ H,Pv n σ H->D.nx σ H):
  ∃W:Nat->Nat->St->Hp->Prop,(∃m,W 0 m σ H)/\∀i m σ H,W i m σ H->
   ((pJ lo n).stop i H/\D.nx σ H)\/((pJ lo n).go i H/\∃N:St->Hp->Prop,(∀a H',N a H'->∃m',m'<m/\W (i+1) m' a H')/\∀x H',(pJ lo n).yld i H x H'->g x σ H' λd f=>tb {D with nx:=N,ct:=N,bk:=D.nx} d f):=by
 refine#[λi m σ H=>m=n-i/\i<=n/\Pv i σ H,#[n,by simp,JM _,j],?_]
 rintro i m σ H ⟨rfl,hi,p⟩
 by_cases c:i<n
 ·refine .inr #[c,Pv (i+1),λa H' h=>#[n-(i+1),by lia,Z,c,h],λx H' y=>?_]
  obtain⟨e,y⟩:=y;subst e y;exact hs i σ _ c p
 ·have e:i=n:=by lia
  subst e;exact .inl #[Je _,hd σ H p]
abbrev R2:=V->V->Hp->VK->Prop
def zT(X:Cx)(f:Γ->Γ->Sem Γ)(r:R2):Prop:=
 ∀(tx:ML) (s:Θ) (σ:St) (H:Hp) (x y:V) (v u:Γ) (Q:VK),MQ X tx σ H s->MT x v->MT y u->r x y H Q->
  ε (model X.prog X.w) X.A (f v u) (EP X tx σ Q) X.xe s
def CS(X:Cx)(f:Γ->Sem Γ)(r:V->Hp->VK->Prop):Prop:=
 ∀(tx:ML) (s:Θ) (σ:St) (H:Hp) (x:V) (v:Γ) (Q:VK),MQ X tx σ H s->MT x v->r x H Q->
  ε (model X.prog X.w) X.A (f v) (EP X tx σ Q) X.xe s
def zx(X:Cx)(f:Γ)(r:Β->Hp->VK->Prop):Prop:=
 ∀(tx:ML) (s:Θ) (σ:St) (H:Hp) (xs:Β) (a:Ζ) (Q:VK),MQ X tx σ H s->MU xs a->r xs H Q->
  ε (model X.prog X.w) X.A (call f a) (EP X tx σ Q) X.xe s
def nu(r:R2)(ta tb:TE):TE:=λσ H Q=>ta σ H λx H1=>tb σ H1 λy a=>r x y a Q
def GG(r:V->Hp->VK->Prop)(ta:TE):TE:=λσ H Q=>ta σ H λx H1=>r x H1 Q
inductive S0 (C:Int->Int->Prop) (g:Int->Int->V) (x:V) (y:V) (H:Hp) (Q:VK):Prop
 |mk (i:_) (j:_) (h1:x= .int i) (h2:y= .int j) (h3:C i j) (h4:Q (g i j) H)
def rI(C:Int->Int->Prop)(g:Int->Int->V):R2:=λx y H Q=>S0 C g x y H Q
inductive SW (g:Int->Int->V) (x:V) (y:V) (H:Hp) (Q:VK):Prop
 |mk (i:_) (j:_) (h1:x= .int i) (h2:y= .int j) (h3:Q (g i j) H)
def nI(g:Int->Int->V):R2:=λx y H Q=>SW g x y H Q
inductive S8 (g:Int->V) (x:V) (H:Hp) (Q:VK):Prop
 |mk (i:_) (h1:x= .int i) (h2:Q (g i) H)
def rU(g:Int->V):V->Hp->VK->Prop:=λx H Q=>S8 g x H Q
section
variable{X:Cx}{a b:Φ}{ta tb:TE}{pos:Pos}
theorem Bu(ha:PE X a ta)(hb:PE X b tb){tx:ML}{s:Θ}{σ:St}{H:Hp}{R:V->V->Hp->Prop}(I:MQ X tx σ H s)
  (h:ta σ H λx H1=>tb σ H1 λy c=>R x y c){Q:MJ}{f:Γ->Γ->Sem Γ}
  (hf:∀v u g x y c,MQ X tx σ c g->MT x v->MT y u->R x y c->ε (model X.prog X.w) X.A (f v u) Q X.xe g):
  ε (model X.prog X.w) X.A (eval a X.env) (λv e=>ε (model X.prog X.w) X.A (eval b X.env) (λu d=>ε (model X.prog X.w) X.A (f v u) Q X.xe d) X.xe e) X.xe s:=by
 refine qF (ha tx s σ H _ I h) λv l i=>?_
 obtain⟨x,H1,m,p,n⟩:=i;refine qF (hb tx l σ H1 _ m n) λu g i=>?_
 obtain⟨y,c,j,o,q⟩:=i;exact hf v u g x y c j p o q
theorem Gm{c:Operator}{r:R2}(ho:zT X (binaryOp c) r)(ha:PE X a ta)(hb:PE X b tb):PE X (.BinOp a c b pos) (nu r ta tb):=by
 intro tx s σ H Q I h;exact wpAny_BinOp (Bu ha hb I h λv u f x y g d i e q=>ho tx f σ g x y v u Q d i e q)
theorem Gs{c:UnaryOp}{r:V->Hp->VK->Prop}(ho:CS X (unaryOp c) r)(ha:PE X a ta):PE X (.UnaryOp c a pos) (GG r ta):=by
 intro tx s σ H Q I h;exact UnaryOp_ (qF (ha tx s σ H _ I h) λv d ⟨x,H1,e,g,f⟩=>ho tx d σ H1 x v Q e g f)
theorem CK{f:Γ->Γ->Sem Γ}{C:Int->Int->Prop}{g:Int->Int->Int}
  (a:∀(i j:Int) (t u:Tok) (s:Θ) (Q:MJ) (E:MJ),C i j->Q (.int (g i j) s.toks) {s with toks:=s.toks+1}->ε (model X.prog X.w) X.A (f (.int i t) (.int j u)) Q E s):
  zT X f (rI C λi j=> .int (g i j)):=by
 intro tx s σ H x y v u Q I l d h;obtain⟨i,j,rfl,rfl,c,q⟩:=h;obtain⟨t,rfl⟩:=l;obtain⟨e,rfl⟩:=d;exact a i j t e s _ _ c #[.int (g i j),H,I.tok _,#[_,Z],q]
theorem Fm{f:Γ->Γ->Sem Γ}{g:Int->Int->Int}
  (a:∀(i j:Int) (t u:Tok) (s:Θ) (Q:MJ) (E:MJ),Q (.int (g i j) s.toks) {s with toks:=s.toks+1}->ε (model X.prog X.w) X.A (f (.int i t) (.int j u)) Q E s):
  zT X f (nI λi j=> .int (g i j)):=by
 intro tx s σ H x y v u Q I c d h;obtain⟨i,j,rfl,rfl,q⟩:=h;obtain⟨t,rfl⟩:=c;obtain⟨e,rfl⟩:=d;exact a i j t e s _ _ #[.int (g i j),H,I.tok _,#[_,Z],q]
theorem vy{f:Γ->Γ->Sem Γ}{g:Int->Int->Bool}
  (a:∀(i j:Int) (t u:Tok) (s:Θ) (Q:MJ) (E:MJ),Q (.bool (g i j)) s->ε (model X.prog X.w) X.A (f (.int i t) (.int j u)) Q E s):
  zT X f (nI λi j=> .bl (g i j)):=by
 intro tx s σ H x y v u Q I c d h;obtain⟨i,j,rfl,rfl,q⟩:=h;obtain⟨t,rfl⟩:=c;obtain⟨e,rfl⟩:=d;exact a i j t e s _ _ #[.bl (g i j),H,I,Z,q]
def Hn(i j:Int):Prop:=0<j/\j<1073741824
def Hh(i j:Int):Prop:=0<=j/\j<=1000000/\i.natAbs<2 ^ 64
def Sh(i j:Int):Prop:=(-(2 ^ 64)<i/\i<2 ^ 64)\/(-(2 ^ 64)<j/\j<2 ^ 64)
theorem Sh.ok{i j:Int}(h:Sh i j):IntMulOk i j:=by
 rcases h with⟨h1,a⟩|⟨h1,a⟩
 ·exact .of_left (intBits_le_64 h1 a)
 ·exact .of_right (intBits_le_64 h1 a)
theorem zo:zT X (binaryOp .Add) (nI λi j=> .int (i+j)):=Fm λ_ _ _ _ _ _ _ q=>add_int q
theorem QM:zT X (binaryOp .Sub) (nI λi j=> .int (i-j)):=Fm λ_ _ _ _ _ _ _ q=>sub_int q
theorem ap:zT X (binaryOp .Mult) (rI Sh λi j=> .int (i*j)):=CK λ_ _ _ _ _ _ _ a q=>mul_int q a.ok
theorem eC:zT X (binaryOp .FloorDiv) (rI Hn λi j=> .int (i/j)):=CK λi j _ _ _ _ _ a q=>by
 have h1:(0:Int)<j:=a.1
 have c:j<1073741824:=a.2
 exact floordiv_int (by lia) (by rw[Int.fdiv_eq_ediv_of_nonneg i (by lia)];exact q) (.inl (PyProof.noPylong_small (by lia)))
theorem Qv:zT X (binaryOp .Mod) (rI (λ_ j=>0<j) λi j=> .int (i%j)):=CK λi j _ _ _ _ _ a q=>by
 have h1:(0:Int)<j:=a
 exact mod_int' (by lia) (by rw[Int.fmod_eq_emod_of_nonneg i (by lia)];exact q)
theorem Ah:zT X (binaryOp .Pow) (rI Hh λi j=> .int (i ^ j.toNat)):=CK λ_ _ _ _ _ _ _ a q=>pow_int_small a.1 a.2.1 a.2.2 q
theorem HP{f:Γ->Sem Γ}{g:Int->Int}
  (a:∀(i:Int) (t:Tok) (s:Θ) (Q:MJ) (E:MJ),Q (.int (g i) s.toks) {s with toks:=s.toks+1}->ε (model X.prog X.w) X.A (f (.int i t)) Q E s):
  CS X f (rU λi=> .int (g i)):=by
 intro tx s σ H x v Q I c h;obtain⟨i,rfl,q⟩:=h;obtain⟨t,rfl⟩:=c;exact a i t s _ _ #[.int (g i),H,I.tok _,#[_,Z],q]
theorem gS:CS X (unaryOp .USub) (rU λi=> .int (-i)):=HP λ_ _ _ _ _ q=>neg_int q
end
def AJ:V->V->Bool
 | .non,.non=>true| .non,.int _=>true| .int _,.non=>true| .non,.bl _=>true| .bl _,.non=>true| .non,.str _=>true| .str _,.non=>true
 | .int _,.int _=>true| .bl _,.bl _=>true| .str _,.str _=>true| .byt _,.byt _=>true
 | .int _,.str _=>true| .str _,.int _=>true| .bl _,.str _=>true| .str _,.bl _=>true
 |_,_=>false
def HK:R2:=λx y H Q=>AJ x y=true/\Q (.bl (decide (x=y))) H
def HF:R2:=λx y H Q=>AJ x y=true/\Q (.bl (! decide (x=y))) H
theorem uk{i j:Int}:decide (V.int i=V.int j)=(i==j):=by
 rw[IP];simp
theorem yp{i j:Bool}:decide (V.bl i=V.bl j)=(i==j):=by
 rw[IP];simp
theorem tL{i j:Str}:decide (V.str i=V.str j)=(i==j):=by
 rw[IP];simp
theorem uA{i j:Array UInt8}:decide (V.byt i=V.byt j)=(i.toList==j.toList):=by
 rw[IP];cases i;cases j;simp
section
variable{X:Cx}{a b c:Φ}{ta tb tc:TE}{pos:Pos}
theorem zf{tx:ML}{σ:St}{H:Hp}{s:Θ}{Q:VK}{k k':Bool}(I:MQ X tx σ H s)(q:Q (.bl k) H)(e:k=k'):EP X tx σ Q (.bool k') s:=by
 subst e
 exact#[.bl k,H,I,Z,q]
theorem qR:zT X (compareOp .Eq) HK:=by
 intro tx s σ H x y v u Q I e a h;obtain⟨d,q⟩:=h;cases x with
 |non=>
  cases e;cases y with
  |non=>cases a;exact PySem.EqNone.eq_none_none (zf I q (by simp))
  |bl j=>cases a;exact PySem.EqNone.eq_none_bool (zf I q (by simp))
  |int j=>obtain⟨c,rfl⟩:=a;exact PySem.EqNone.eq_none_int (zf I q (by simp))
  |str j=>obtain⟨c,rfl⟩:=a;exact PySem.EqNone.eq_none_str (zf I q (by simp))
  |_=>exact absurd (show false=true from d) JG
 |bl i=>
  cases e;cases y with
  |non=>cases a;exact PySem.EqNone.eq_bool_none (zf I q (by simp))
  |bl j=>cases a;exact eq_bool (zf I q yp)
  |str j=>obtain⟨c,rfl⟩:=a;exact PySem.EqMixed.eq_bool_str (zf I q (by simp))
  |_=>exact absurd (show false=true from d) JG
 |int i=>
  obtain⟨t,rfl⟩:=e;cases y with
  |non=>cases a;exact PySem.EqNone.eq_int_none (zf I q (by simp))
  |int j=>obtain⟨c,rfl⟩:=a;exact eq_int (zf I q uk)
  |str j=>obtain⟨c,rfl⟩:=a;exact PySem.EqMixed.eq_int_str (zf I q (by simp))
  |_=>exact absurd (show false=true from d) JG
 |str i=>
  obtain⟨t,rfl⟩:=e;cases y with
  |non=>cases a;exact PySem.EqNone.eq_str_none (zf I q (by simp))
  |bl j=>cases a;exact PySem.EqMixed.eq_str_bool (zf I q (by simp))
  |int j=>obtain⟨c,rfl⟩:=a;exact PySem.EqMixed.eq_str_int (zf I q (by simp))
  |str j=>obtain⟨c,rfl⟩:=a;exact eq_str (zf I q tL)
  |_=>exact absurd (show false=true from d) JG
 |byt i=>
  obtain⟨t,rfl⟩:=e;cases y with
  |byt j=>obtain⟨c,rfl⟩:=a;exact W.eq_bytes (zf I q uA)
  |_=>exact absurd (show false=true from d) JG
 |_=>cases y<;>exact absurd (show false=true from d) JG
theorem aZ:zT X (compareOp .NotEq) HF:=by
 intro tx s σ H x y v u Q I e a h;obtain⟨d,q⟩:=h;cases x with
 |non=>
  cases e;cases y with
  |non=>cases a;exact PySem.EqNone.ne_none_none (zf I q (by simp))
  |bl j=>cases a;exact PySem.EqNone.ne_none_bool (zf I q (by simp))
  |int j=>obtain⟨c,rfl⟩:=a;exact PySem.EqNone.ne_none_int (zf I q (by simp))
  |str j=>obtain⟨c,rfl⟩:=a;exact PySem.EqNone.ne_none_str (zf I q (by simp))
  |_=>exact absurd (show false=true from d) JG
 |bl i=>
  cases e;cases y with
  |non=>cases a;exact PySem.EqNone.ne_bool_none (zf I q (by simp))
  |bl j=>cases a;exact ne_bool (zf I q (JL not yp))
  |str j=>obtain⟨c,rfl⟩:=a;exact PySem.EqMixed.ne_bool_str (zf I q (by simp))
  |_=>exact absurd (show false=true from d) JG
 |int i=>
  obtain⟨t,rfl⟩:=e;cases y with
  |non=>cases a;exact PySem.EqNone.ne_int_none (zf I q (by simp))
  |int j=>obtain⟨c,rfl⟩:=a;exact ne_int (zf I q (JL not uk))
  |str j=>obtain⟨c,rfl⟩:=a;exact PySem.EqMixed.ne_int_str (zf I q (by simp))
  |_=>exact absurd (show false=true from d) JG
 |str i=>
  obtain⟨t,rfl⟩:=e;cases y with
  |non=>cases a;exact PySem.EqNone.ne_str_none (zf I q (by simp))
  |bl j=>cases a;exact PySem.EqMixed.ne_str_bool (zf I q (by simp))
  |int j=>obtain⟨c,rfl⟩:=a;exact PySem.EqMixed.ne_str_int (zf I q (by simp))
  |str j=>obtain⟨c,rfl⟩:=a;exact ne_str (zf I q (JL not tL))
  |_=>exact absurd (show false=true from d) JG
 |byt i=>
  obtain⟨t,rfl⟩:=e;cases y with
  |byt j=>obtain⟨c,rfl⟩:=a;exact W.ne_bytes (zf I q (JL not uA))
  |_=>exact absurd (show false=true from d) JG
 |_=>cases y<;>exact absurd (show false=true from d) JG
theorem jU:zT X (compareOp .Lt) (nI λi j=> .bl (decide (i<j))):=vy λ_ _ _ _ _ _ _ q=>lt_int q
theorem bR:zT X (compareOp .LtE) (nI λi j=> .bl (decide (i<=j))):=vy λ_ _ _ _ _ _ _ q=>le_int q
theorem lu:zT X (compareOp .Gt) (nI λi j=> .bl (decide (j<i))):=vy λ_ _ _ _ _ _ _ q=>gt_int q
theorem oP:zT X (compareOp .GtE) (nI λi j=> .bl (decide (j<=i))):=vy λ_ _ _ _ _ _ _ q=>ge_int q
theorem aB:zT X (compareOp .Is) (λx y H Q=>y= .non/\Q (.bl (decide (x= .non))) H):=by
 intro tx s σ H x y v u Q I a c h;obtain⟨rfl,q⟩:=h;cases c;refine is_none_gen (zf I q ?_)
 cases x<;>first
  |(cases a;rfl)
  |(obtain⟨t,rfl⟩:=a;rfl)
theorem uL:zT X (compareOp .IsNot) (λx y H Q=>y= .non/\Q (.bl (! decide (x= .non))) H):=by
 intro tx s σ H x y v u Q I a c h;obtain⟨rfl,q⟩:=h;cases c;refine isnot_none_gen (zf I q ?_)
 cases x<;>first
  |(cases a;rfl)
  |(obtain⟨t,rfl⟩:=a;rfl)
theorem qw(b:Φ){a:CmpOp}(h:a≠ .In:=by decide)(h2:a≠ .NotIn:=by decide):behindInMarks a b=false:=by
 have c:(a==CmpOp.In)=false:=by cases a<;>first|rfl|exact absurd Z h
 have d:(a==CmpOp.NotIn)=false:=by cases a<;>first|rfl|exact absurd Z h2
 cases b<;>simp [behindInMarks,c,d]
theorem Er{c:CmpOp}{r:R2}(ho:zT X (compareOp c) r)(ha:PE X a ta)(hb:PE X b tb)(hm:behindInMarks c b=false):PE X (.Compare a [c] [b] pos) (nu r ta tb):=by
 intro tx s σ H Q I h;exact wpAny_Compare1 (Bu ha hb I h λv u f x y g d i e q=>ho tx f σ g x y v u Q d i e q) hm
def iz(t:TE):TT:=λσ H Q=>t σ H λx H'=>∃k,x= .bl k/\Q k H'
theorem Eh{d:CmpOp}{r:R2}(ho:zT X (compareOp d) r)(ha:PE X a ta)(hb:PE X b tb)(hm:behindInMarks d b=false):PT X (.Compare a [d] [b] pos) (iz (nu r ta tb)):=by
 intro tx s σ H Q I h;refine wpAny_isTrue_Compare1 (qF (ha tx s σ H _ I h) λv g ⟨x,H1,i,t,n⟩=>qF (hb tx g σ H1 _ i n) λu o ⟨y,q,f,p,w⟩=>
  qF (ho tx o σ q x y v u _ f t p w) λc A ⟨z,H3,j,l,k,e,m⟩=>?_) hm
 subst e;cases l;exact Ir #[H3,j,m]
def lj(r e:R2)(ta tb tc:TE):TE:=λσ H Q=>ta σ H λx H1=>tb σ H1 λy a=>r x y a λz H3=>∃k,z= .bl k/\
 (if k=true then tc σ H3 λc d=>e y c d Q else Q (.bl false) H3)
theorem Au{f op':CmpOp}{r i:R2}(ho:zT X (compareOp f) r)(ho':zT X (compareOp op') i)(ha:PE X a ta)(hb:PE X b tb)(hc:PE X c tc)
  (hm:lastMarks [f,op'] [b,c]=false:=by with_unfolding_all rfl):PE X (.Compare a [f,op'] [b,c] pos) (lj r i ta tb tc):=by
 intro tx s σ H Q I h;refine Compare_chain (qF (ha tx s σ H _ I h) λv o ⟨x,H1,A,q,E⟩=>chain_link (qF (hb tx o σ H1 _ A E) λu G ⟨y,J,w,j,t⟩=>
  qF (ho tx G σ J x y v u _ w q j t) λd F ⟨z,H3,l,B,k,e,g⟩=>?_)) hm
 subst e;cases B;refine Ir ?_
 cases k with
 |false=>exact ite_ff #[.bl false,H3,l,Z,g]
 |true=>exact ite_tt (chain_last (qF (hc tx F σ H3 _ l g) λp C ⟨n,K,m,D,L⟩=>ho' tx C σ K y n u p Q m j D L))
theorem BP{f op':CmpOp}{r i:R2}(ho:zT X (compareOp f) r)(ho':zT X (compareOp op') i)(ha:PE X a ta)(hb:PE X b tb)(hc:PE X c tc)
  (hm:lastMarks [f,op'] [b,c]=false:=by with_unfolding_all rfl):PT X (.Compare a [f,op'] [b,c] pos) (iz (lj r i ta tb tc)):=by
 intro tx s σ H Q I h;refine isTrue_chain (qF (ha tx s σ H _ I h) λv t ⟨x,H1,F,C,N⟩=>test_link (qF (hb tx t σ H1 _ F N) λu P ⟨y,q,E,j,D⟩=>
  qF (ho tx P σ q x y v u _ E C j D) λd O ⟨z,H3,l,J,k,e,g⟩=>?_)) hm
 subst e;cases J;refine Ir ?_
 cases k with
 |false=>
  obtain⟨k',L,G⟩:=g;cases L;exact ite_ff #[H3,l,G]
 |true=>
  refine ite_tt (test_last (qF (hc tx O σ H3 _ l g) λA K ⟨p,m,n,M,S⟩=>qF (ho' tx K σ m y p u A _ n j M S) λY s5 w=>?_))
  obtain⟨W,R,B,T,k2,U,o⟩:=w;subst U;cases T;exact Ir #[R,B,o]
theorem bo:(ζ:Nat)<2 ^ 63:=by rw[Jn];decide
theorem Qz{x:V}{us:Ζ}(r:MU [x] us):∃u,us=[u]/\MT x u:=by
 cases r with
 |cons r1 r2=>cases r2;exact#[_,Z,r1]
theorem cE{x y:V}{us:Ζ}(r:MU [x,y] us):∃u a,us=[u,a]/\MT x u/\MT y a:=by
 cases r with
 |cons r1 r2=>
  cases r2 with
  |cons r3 r4=>cases r4;exact#[_,_,Z,r1,r3]
theorem pO:zx X (.builtin "abs") (λxs H Q=>∃i,xs=[.int i]/\Q (.int (if i<0 then -i else i)) H):=by
 intro tx s σ H xs a Q I r h;obtain⟨i,rfl,q⟩:=h;obtain⟨u,rfl,t,rfl⟩:=Qz r;exact call_abs_int λu tk=>#[.int (if i<0 then -i else i),H,I.tok _,#[_,Z],q]
theorem yv(hc:X.calm=true):zx X (.builtin "max") (λxs H Q=>∃i j,xs=[.int i,.int j]/\Q (.int (if j>i then j else i)) H):=by
 intro tx s σ H xs c Q I r h;obtain⟨i,j,rfl,q⟩:=h;obtain⟨u,d,rfl,⟨t,rfl⟩,⟨e,rfl⟩⟩:=cE r;refine max_two_ints (I.ok.hd hc) λh' tk k=>#[_,H,I.kept k,?_,q]
 by_cases a:j>i
 ·rw[Jd a,Jd a];exact#[_,Z]
 ·rw[Jc a,Jc a];exact#[_,Z]
theorem mW(hc:X.calm=true):zx X (.builtin "min") (λxs H Q=>∃i j,xs=[.int i,.int j]/\Q (.int (if j<i then j else i)) H):=by
 intro tx s σ H xs c Q I r h;obtain⟨i,j,rfl,q⟩:=h;obtain⟨u,d,rfl,⟨t,rfl⟩,⟨e,rfl⟩⟩:=cE r;refine min_two_ints (I.ok.hd hc) λh' tk k=>#[_,H,I.kept k,?_,q]
 by_cases a:j<i
 ·rw[Jd a,Jd a];exact#[_,Z]
 ·rw[Jc a,Jc a];exact#[_,Z]
theorem gD:zx X (.type "int") (λxs H Q=>(∃i,xs=[.int i]/\Q (.int i) H)\/∃k,xs=[.bl k]/\Q (.int (if k then 1 else 0)) H):=by
 intro tx s σ H xs c Q I r h;rcases h with⟨i,rfl,q⟩|⟨k,rfl,q⟩
 ·obtain⟨u,rfl,t,rfl⟩:=Qz r
  exact call_int_int #[.int i,H,I,#[_,Z],q]
 ·obtain⟨u,rfl,a⟩:=Qz r
  cases a;exact call_int_bool #[.int (if k then 1 else 0),H,I.tok _,#[_,Z],q]
theorem rQ:zx X (.builtin "ord") (λxs H Q=>∃x,xs=[.str x]/\x.length=1/\Q (.int (x.cps.getD 0 0:Nat)) H):=by
 intro tx s σ H xs c Q I r h;obtain⟨x,rfl,a,q⟩:=h;obtain⟨u,rfl,t,rfl⟩:=Qz r;exact ord_of_one a #[.int _,H,I.tok _,#[_,Z],q]
end
structure O6(h:Ψ)(x dx C:Δ)(mA:MK):Prop where
 obj:h.get? x=↑(PySem.W.instObj C dx)
 ns:h.Ns1 dx mA
 ne:dx≠x
theorem wm{h:Ψ}{dx:Δ}{mA:MK}(n:h.Ns1 dx mA):∃od,h.get? dx=↑od/\∀name,W.lookIn name od=↑(mA name):=by
 obtain⟨o,es,j,g,d,hk,_,f⟩:=n;refine#[o,g,λname=>?_]
 have e:=f name;unfold nsFind findBy at e;rw[<- Array.find?_toList]at e;unfold W.lookIn;rw[d]
 dsimp only
 split
 ·rename_i y q
  rw[q]at e;exact JL some e
 ·rename_i q
  rw[q]at e;have a:es.toList.any (·.refKey)=false:=by
   rw[List.any_eq_false];intro y i;obtain⟨z,t,c⟩:=hk y (Array.mem_toList_iff.mp i)
   simp [DictEntry.refKey,c]
  have a':¬es.toList.any (·.refKey)=true:=by rw[a];exact JG
  rw[Jc a'];exact JL some e
theorem O6.look{h:Ψ}{x dx C:Δ}{mA:MK}(I:O6 h x dx C mA):∃od,W.InstAt h x (W.instObj C dx) C ↑od/\∀name,W.lookIn name od=↑(mA name):=
 let⟨od,ho,hl⟩:=wm I.ns
 #[od,#[I.obj,Z,Z,ho],hl]
section
variable{prog:Ξ}{w:Ω}{A:Around}{E:MJ}{s:Θ}{K:ι}{x dx C f:Δ}{mA:MK}{name:Str}{v:Γ}
theorem Es{a:Bool}{Q:MJ}(X:K.In s.heap)(I:O6 s.heap x dx C mA)(hg:W.plainGet K C name=true)(e:W.hasDictIn K C=true)
  (ha:W.findIn K (.ref C) name=↑none)(hv:mA name=↑v)(c:W.handedIn v=true)(h:Q v {s with toks:=s.toks+1}):
  ε (model prog w) A (getAttr (.ref x) name a) Q E s:=by
 obtain⟨od,J,d⟩:=I.look;exact W.get_value X J (W.plainGet_of hg).1 (W.findObj_own e ha Z (by rw[d,hv])) c h
theorem Bb{pl:Sem Bool}{Q:Γ×Ζ->Θ->Prop}(X:K.In s.heap)(I:O6 s.heap x dx C mA)(hg:W.plainGet K C name=true)
  (hf:W.findIn K (.ref C) name=↑(↑(.ref f)))(a:W.isFn K (.ref f)=true)(hv:mA name=none)(h:Q (.ref f,[.ref x]) s):
  ε (model prog w) A (getMethod (.ref x) name pl) Q E s:=by
 obtain⟨od,J,c⟩:=I.look;exact W.method_fn X J (W.plainGet_of hg).1 (W.plainGet_of hg).2 hf (Ic.mp a) (by show(W.lookIn name od).map (·.isSome)=↑false;rw[c,hv];rfl) h
theorem Qg{ns:Α}{Q:Unit->Θ->Prop}(X:K.In s.heap)(I:O6 s.heap x dx C mA)
  (hs:W.findIn K (.ref C) "__setattr__"=↑(↑(.builtin "object.__setattr__")))(hp:W.plainOver K C=true)(l:W.takerIn K C name=↑none)(m:W.hasDictIn K C=true)
  (hw:PySem.Within mA ns)(hsz:ns.length<=ζ)
  (h:∀h',O6 h' x dx C (λy=>if y=name then ↑v else mA y)->Ψ.SameBut dx s.heap h'->Q () {s with heap:=h',toks:=s.toks+2}):
  ε (model prog w) A (setAttr (.ref x) name v) Q E s:=by
 obtain⟨od,J,q⟩:=I.look;refine W.set_plain X J hs (W.osa_open (s:={s with toks:=s.toks+1}) (r:=none) X J hp l λb=>?_)
 obtain⟨t,j,f⟩:=W.any_some m;have o:s.heap.get? x=some #[.ref C,↑dx,.plain,(List.toArray [])]:=I.obj
 refine Ja (Jh (Ja (Ja (wpAny_loadPart o (Ja (W.Looks.here (s:={s with toks:=s.toks+1}) (W.looks_clsIn X j) ?_))))))
 rw[f];refine Jh (a:=↑dx) (Ja (Jh (Ja ?_)))
 refine wpAny_nsSet1 (s:={s with toks:=s.toks+1}) I.ns λh' d c=>?_
 obtain⟨u,n,p,g,i,e⟩:=d.count (PySem.Within.cons name v hw)
 refine Ja (wpAny_lookBehind g (by rw[i];exact pastItsLine_dict (JH e (by rw[J7];lia))) ?_)
 exact Jh (h _ #[(c.2 _ (Ne.symm I.ne)).trans I.obj,d,I.ne] c)
theorem BE{R:Result->Θ->Prop}{vs:Ζ}{c:List (Str×Γ)}(X:K.In s.heap)(hm:W.makesIn K C=true)
  (hi:W.findIn K (.ref C) "__init__"=↑(↑(.ref f)))(hf:W.typeIn K (.ref f)=↑(.type "function"))
  (h:codeAny (model prog w) (A.under (.builtin "type.__call__" #[.ref C::vs,c])) (.call (.ref f) #[.ref (s.heap.objs.size+1)::vs,c]) (W.InitBack (s.heap.objs.size+1) R)
   {s with heap:=(s.heap.push W.emptyDict).push (W.instObj C s.heap.objs.size)}):
  codeAny (model prog w) A (.call (.ref C) #[vs,c]) R s:=by
 obtain⟨e,g,d,t,os⟩:=s;exact W.make_core (W.makes_of X hm) (W.looks_findIn X hi) (λa=>W.bind_fn X a hf) (.inl Z) h
end
def QJ(f:Str)(v:V):List (Str×V)->List (Str×V)
 | []=>[(f,v)]
 |(g,x)::r=>if g=f then(g,v)::r else(g,x)::QJ f v r
theorem jd(f g:Str)(v:V):∀fs:List (Str×V),(QJ f v fs).lookup g=if g=f then ↑v else fs.lookup g
 | []=>by
  show List.lookup g [(f,v)]=_
  by_cases h:g=f
  ·have a:(g==f)=true:=Ic.mpr h
   simp only[List.lookup,a,Jd h]
  ·have a:(g==f)=false:=Lf.mpr h
   simp only[List.lookup,a,Jc h]
 |(k,x)::r=>by
  have c:=jd f g v r;rw[show QJ f v ((k,x)::r)=(if k=f then(k,v)::r else(k,x)::QJ f v r)from Z]
  by_cases hk:k=f
  ·rw[Jd hk]
   by_cases h:g=k
   ·have a:(g==k)=true:=Ic.mpr h
    simp only[List.lookup,a,Jd (h.trans hk)]
   ·have a:(g==k)=false:=Lf.mpr h
    simp only[List.lookup,a,Jc (λe:g=f=>h (e.trans hk.symm))]
  ·rw[Jc hk]
   by_cases h:g=k
   ·have a:(g==k)=true:=Ic.mpr h
    simp only[List.lookup,a,Jc (λe:g=f=>hk (h.symm.trans e))]
   ·have a:(g==k)=false:=Lf.mpr h
    simp only[List.lookup,a];exact c
theorem ik(f:Str)(v:V):∀fs:List (Str×V),f∈(QJ f v fs).map (·.1)/\∀g,g∈fs.map (·.1)->g∈(QJ f v fs).map (·.1)
 | []=>#[by simp [QJ],λg h=>by simp at h]
 |(k,x)::r=>by
  obtain⟨i1,i2⟩:=ik f v r;rw[show QJ f v ((k,x)::r)=(if k=f then(k,v)::r else(k,x)::QJ f v r)from Z]
  by_cases hk:k=f
  ·rw[Jd hk]
   subst hk
   exact#[by simp,λg h=>by simpa using h]
  ·rw[Jc hk]
   refine#[?_,λg h=>?_]
   ·rw[JR]
    exact JC _ i1
   ·rw[JR]at h⊢
    rcases Ji.mp h with e|e
    ·exact Ji.mpr (.inl e)
    ·exact JC _ (i2 g e)
theorem i8(f:Str)(v:V):∀fs:List (Str×V),(QJ f v fs).length<=fs.length+1
 | []=>by simp [QJ]
 |(k,x)::r=>by
  have a:=i8 f v r;rw[show QJ f v ((k,x)::r)=(if k=f then(k,v)::r else(k,x)::QJ f v r)from Z]
  by_cases hk:k=f
  ·rw[Jd hk,J7,J7];lia
  ·rw[Jc hk,J7,J7];lia
theorem NU.some_of{v:V}{o:Ν}(r:NU ↑v o):∃u,o=↑u/\MT v u:=by
 cases o with
 |none=>exact(show False from r).elim
 |some u=>exact#[u,Z,r]
theorem NU.none_of{o:Ν}(r:NU none o):o=none:=by
 cases o with
 |none=>rfl
 |some u=>exact(show False from r).elim
theorem nZ{v:V}{u:Γ}(r:MT v u):W.handedIn u=true:=by
 cases v with
 |non=>cases(show u=Γ.none from r);rfl
 |bl b=>cases(show u=Γ.bool b from r);rfl
 |int i=>obtain⟨t,e⟩:=(show∃t,u=Γ.int i t from r);cases e;rfl
 |str x=>obtain⟨t,e⟩:=(show∃t,u=Γ.str x t from r);cases e;rfl
 |byt b=>obtain⟨t,e⟩:=(show∃t,u=Γ.bytes b t from r);cases e;rfl
 |flt b=>obtain⟨t,e⟩:=(show∃t,u=Γ.float b t from r);cases e;rfl
 |ref a=>cases(show u=Γ.ref a from r);rfl
 |ty n=>cases(show u=Γ.type n from r);rfl
section
variable{P:Ξ}{w:Ω}{H:Hp}{h:Ψ}{a C dx:Δ}{fs:List (Str×V)}
theorem iE(c:NS P w H h)(e:H a=↑(.ins C dx fs)):∃mA,O6 h a dx C mA/\(∀f,NU (fs.lookup f) (mA f))/\PySem.Within mA (fs.map (·.1))/\fs.length<=1000/\H dx=↑(.own a):=by
 obtain⟨d,z,ne,g,mA,n,r,q⟩:=(show M3 P w H h a (.ins C dx fs)from c a _ e)
 exact#[mA,#[g,n,ne],r,q,z,d]
end
structure OW(K:ι)(C:Δ):Prop where
 pg:PySem.W.plainGet K C Str.empty=true
 hd:PySem.W.hasDictIn K C=true
 po:PySem.W.plainOver K C=true
 sa:PySem.W.findIn K (.ref C) "__setattr__"=↑(↑(.builtin "object.__setattr__"))
theorem OW.get{K:ι}{C:Δ}(c:OW K C)(f:Str):W.plainGet K C f=true:=c.pg
def MY(K:ι)(C:Δ)(f:Str):Prop:=PySem.W.findIn K (.ref C) f=↑none
theorem MY.taker{K:ι}{C:Δ}{f:Str}(n:MY K C f):W.takerIn K C f=↑none:=by
 unfold W.takerIn;rw[show W.findIn K (.ref C) f=↑none from n]
 rfl
structure Rc(K:ι)(C:Δ)(m:Str)(f:Δ):Prop where
 at_:PySem.W.findIn K (.ref C) m=↑(↑(.ref f))
 fn:PySem.W.isFn K (.ref f)=true
 kp:PySem.W.keepIn K (.ref f)=true
section
variable{X:Cx}{tx:ML}{σ:St}{H:Hp}{s:Θ}{a C dx:Δ}{fs:List (Str×V)}{f:Str}{v:V}{A:Around}{E:MJ}
theorem lb{b:Bool}{Q:MJ}(I:MQ X tx σ H s)(e:H a=↑(.ins C dx fs))(c:OW X.K C)(n:MY X.K C f)(l:fs.lookup f=↑v)
  (h:∀u s',MQ X tx σ H s'->MT v u->Q u s'):ε (model X.prog X.w) A (getAttr (.ref a) f b) Q E s:=by
 obtain⟨mA,O,r,_,_,_⟩:=iE I.hok e;obtain⟨u,g,d⟩:=NU.some_of (v:=v) (o:=mA f) (by rw[<- l];exact r f)
 exact Es I.kIn O (c.get f) c.hd n g (nZ d) (h u _ (I.tok _) d)
theorem fD{m:Str}{g:Δ}{pl:Sem Bool}{Q:Γ×Ζ->Θ->Prop}(I:MQ X tx σ H s)(e:H a=↑(.ins C dx fs))(c:OW X.K C)(k:Rc X.K C m g)(l:fs.lookup m=none)
  (h:Q (.ref g,[.ref a]) s):ε (model X.prog X.w) A (getMethod (.ref a) m pl) Q E s:=by
 obtain⟨mA,O,r,_,_,_⟩:=iE I.hok e;have d:mA m=none:=NU.none_of (by rw[<- l];exact r m)
 exact Bb I.kIn O (c.get m) k.at_ k.fn d h
theorem k7{y:V}{u:Γ}{Q:Unit->Θ->Prop}(I:MQ X tx σ H s)(e:H a=↑(.ins C dx fs))(c:OW X.K C)(n:MY X.K C f)(hl:fs.length<1000)(p:MT y u)
  (h:∀s',MQ X tx σ (MO H a (.ins C dx (QJ f y fs))) s'->Q () s'):ε (model X.prog X.w) A (setAttr (.ref a) f u) Q E s:=by
 obtain⟨mA,O,r,j,_,i⟩:=iE I.hok e;have w:(fs.map (·.1)).length<=ζ:=by rw[Jb,Jn];lia
 refine Qg I.kIn O c.sa c.po n.taker c.hd j w λh' d v=>h _ ?_
 have m:∃o,h'.get? dx=↑o:=let⟨o,_,_,e',_⟩:=d.ns;#[o,e']
 refine I.write (x:=a) (e:=dx) (by rw[e];exact True.intro) (.inr i) (λb q t z=>(v.2 b t).trans z) m ?_
 refine#[by rw[qk O.ne];exact i,?_,O.ne,d.obj,_,d.ns,λg=>?_,λg l=>?_]
 ·have:=i8 f y fs;lia
 ·show NU ((QJ f y fs).lookup g) (if g=f then ↑u else mA g)
  rw[jd]
  by_cases q:g=f
  ·rw[Jd q,Jd q];exact p
  ·rw[Jc q,Jc q];exact r g
 ·by_cases q:g=f
  ·rw[q];exact(ik f y fs).1
  ·refine(ik f y fs).2 g (j g λz=>l ?_)
   show(if g=f then ↑u else mA g)=none
   rw[Jc q];exact z
theorem MQ.made(I:MQ X tx σ H s):MQ X tx σ (MO (MO H s.heap.objs.size (.own (s.heap.objs.size+1))) (s.heap.objs.size+1) (.ins C s.heap.objs.size []))
  {s with heap:=(s.heap.push W.emptyDict).push (W.instObj C s.heap.objs.size)}:=by
 have c:(s.heap.push W.emptyDict).get? s.heap.objs.size=↑W.emptyDict:=Jw s.heap Z
 have i:((s.heap.push W.emptyDict).push (W.instObj C s.heap.objs.size)).get? (s.heap.objs.size+1)=↑(W.instObj C s.heap.objs.size):=by
  have:=Jw (s.heap.push W.emptyDict) (o:=W.instObj C s.heap.objs.size) Z
  rwa [J5]at this
 have d:(s.heap.push W.emptyDict).Ns s.heap.objs.size (λ_=>none):=#[W.emptyDict,(List.toArray []),_,c,Z,(λe g=>absurd g (by simp)),λ_=>rfl]
 have f:=I.laid (a:=s.heap.objs.size) (o:= .own (s.heap.objs.size+1)) (h':=s.heap.push W.emptyDict) (t':=s.toks) (λb u q=>Jj _ q) (Je _) #[_,c]
 refine f.laid (a:=s.heap.objs.size+1) (o:= .ins C s.heap.objs.size []) (t':=s.toks) (λb u q=>Jj _ q) (L4 (J5 _ _)) ?_
 have ne:s.heap.objs.size≠s.heap.objs.size+1:=Ju (Iv _)
 refine#[by rw[qk ne,qa],JM _,ne,i,λ_=>none,(Ψ.Ns1.of_empty d).at λo q=>Jj _ q,λ_=>True.intro,λy h=>absurd Z h]
theorem tR{prog:Ξ}{w:Ω}{env:Env}{e:Φ}{f:Str}{pos:Pos}{s:Θ}{Q:MJ}(hb:attributeBase e f env (eval e env)=eval e env)
  (h:ε (model prog w) A (eval e env) (λo a=>ε (model prog w) A (getAttr o f true) Q E a) E s):ε (model prog w) A (eval (.Attribute e f pos) env) Q E s:=
 Attribute_any_ h (by rw[arm_eval_Attribute,hb])
end
def EQ(X:Cx)(a:Operator)(rd:V->V->Hp->VK->Prop):Prop:=
 ∀(tx:ML) (s:Θ) (σ:St) (H:Hp) (x y:V) (u v:Γ) (Q:VK),MQ X tx σ H s->MT x u->MT y v->rd x y H Q->ε (model X.prog X.w) X.A (inplaceOp a u v) (EP X tx σ Q) X.xe s
section
variable{X:Cx}
inductive Sy (x:V) (y:V) (H:Hp) (Q:VK):Prop
 |mk (i:_) (j:_) (h1:x= .int i) (h2:y= .int j) (h3:Q (.int (i+j)) H)
def GX:V->V->Hp->VK->Prop:=λx y H Q=>Sy x y H Q
theorem Ff:EQ X .Add GX:=by
 rintro tx s σ H x y u v Q I c d ⟨i,j,rfl,rfl,q⟩
 obtain⟨t,rfl⟩:=(show∃t,u=Γ.int i t from c)
 obtain⟨a,rfl⟩:=(show∃a,v=Γ.int j a from d)
 exact PyProof.Rows.iadd_int #[.int (i+j),H,I.tok _,#[_,Z],q]
end
section
variable{X:Cx}{tx:ML}{σ:St}{H:Hp}{s:Θ}{A:Around}{E:MJ}{Q:MJ}{c:Γ}{b:Bool}
inductive Oq (K:ι) (H:Hp):V->Γ->Prop where
 |non:Oq K H .non (.type "NoneType")
 |bl (x:Bool):Oq K H (.bl x) (.type "bool")
 |int (i:Int):Oq K H (.int i) (.type "int")
 |str (x:Str):Oq K H (.str x) (.type "str")
 |flt (x:UInt64):Oq K H (.flt x) (.type "float")
 |lst {a:Δ} {xs:Β} (e:H a=↑(.lst xs)):Oq K H (.ref a) (.type "list")
 |frz {a:Δ} {o:Obj} {xs:Β} (e:H a=↑(.frz o (.lst xs))):Oq K H (.ref a) (.type "list")
 |tup {a:Δ} {xs:Β} (e:H a=↑(.tup xs)):Oq K H (.ref a) (.type "tuple")
 |dK {a:Δ} {kvs:List (qN×V)} (e:H a=↑(.dK kvs)):Oq K H (.ref a) (.type "dict")
 |dT {a:Δ} {kvs:List (List qN×V)} (e:H a=↑(.dT kvs)):Oq K H (.ref a) (.type "dict")
 | ins {a C dx:Δ} {fs:List (Str×V)} (e:H a=↑(.ins C dx fs)) (cl:OW K C) (ha:PySem.W.findIn K (.ref C) "__class__"=↑(↑(.builtin "object.__class__")))
   (hn:PySem.W.specialIn K (.builtin "object.__class__") "__get__"=↑(↑(.builtin "getset_descriptor.__get__"))) (htk:PySem.W.takesIn K (.builtin "object.__class__")=↑true)
   (hm:PySem.W.mroIn K C (.type "object")=↑true):Oq K H (.ref a) (.ref C)
theorem wj{x:V}{u t:Γ}(I:MQ X tx σ H s)(d:MT x u)(ty:Oq X.K H x t)(e:W.kitOne X.K t c=↑b)(h:∀tk,Q (.bool b) {s with toks:=tk}):
  ε (model X.prog X.w) A (call (.builtin "isinstance") [u,c]) Q E s:=by
 cases ty with
 |non=>cases(show u=Γ.none from d);exact JS W.kitx_none I.kIn True.intro e (λz=>nomatch z) h
 |bl y=>cases(show u=Γ.bool y from d);exact JS W.kitx_bool I.kIn True.intro e (λz=>nomatch z) h
 |int i=>obtain⟨t,q⟩:=(show∃t,u=Γ.int i t from d);cases q;exact JS W.kitx_int I.kIn True.intro e (λz=>nomatch z) h
 |str y=>obtain⟨t,q⟩:=(show∃t,u=Γ.str y t from d);cases q;exact JS W.kitx_str I.kIn True.intro e (λz=>nomatch z) h
 |flt y=>obtain⟨t,q⟩:=(show∃t,u=Γ.float y t from d);cases q;exact JS W.kitx_float I.kIn True.intro e (λz=>nomatch z) h
 | @lst a xs ea=>
  cases(show u=Γ.ref a from d)
  obtain⟨_,_,n,_,h1⟩:=(show M3 X.prog X.w H s.heap a (.lst xs)from I.hok a _ ea)
  exact JS W.kitx_list I.kIn #[_,h1,Z] e (λz=>nomatch z) h
 | @frz a ob xs ea=>
  cases(show u=Γ.ref a from d)
  obtain⟨_,_,_,n,_,h1⟩:=(show M3 X.prog X.w H s.heap a (.frz ob (.lst xs))from I.hok a _ ea)
  exact JS W.kitx_list I.kIn #[_,h1,Z] e (λz=>nomatch z) h
 | @tup a xs ea=>
  cases(show u=Γ.ref a from d)
  obtain⟨_,_,_,p⟩:=(show M3 X.prog X.w H s.heap a (.tup xs)from I.hok a _ ea)
  obtain⟨o,h1,f,_⟩:=p;exact JS W.kitx_tuple I.kIn #[o,h1,f] e (λz=>nomatch z) h
 | @dK a kvs ea=>
  cases(show u=Γ.ref a from d)
  obtain⟨_,_,j,_,p⟩:=(show M3 X.prog X.w H s.heap a (.dK kvs)from I.hok a _ ea)
  obtain⟨o,es,g,h1,f,_⟩:=p;exact JS W.kitx_dict I.kIn #[o,h1,f.1] e (λz=>nomatch z) h
 | @dT a kvs ea=>
  cases(show u=Γ.ref a from d)
  obtain⟨_,_,xs,_,o,es,g,h1,f,_⟩:=(show M3 X.prog X.w H s.heap a (.dT kvs)from I.hok a _ ea)
  exact JS W.kitx_dict I.kIn #[o,h1,f.1] e (λz=>nomatch z) h
 | @ins a C dx fs ea cl ha hn htk hm=>
  cases(show u=Γ.ref a from d)
  obtain⟨mA,O,_⟩:=iE I.hok ea;obtain⟨od,J,_⟩:=O.look;exact JS (W.kitx_own (cl.get _) cl.hd ha hn htk hm) I.kIn J e (λz=>nomatch z) h
end
structure M9(k:Nat)(A:Around):Prop where
 hd:A.handled=none
 dp:A.depth+3*k+5<recursionLimit
 un:A.units+16*k+200<cLine
theorem M9.mono{j k:Nat}{A:Around}(r:M9 k A)(h:j<=k):M9 j A:=#[r.hd,by have:=r.dp;lia,by have:=r.un;lia]
theorem M9.mo{j k:Nat}{A:Around}(r:M9 k A)(h:j<=k:=by first|decide|omega):M9 j A:=r.mono h
theorem M9.deeper{k:Nat}{A:Around}(r:M9 (k+1) A)(env:Env):M9 k (A.deeper env):=
 #[r.hd,by have:=r.dp;show A.depth+1+3*k+5<_;lia,by have:=r.un;show A.units+3+16*k+200<_;lia]
theorem uW{A:Around}{C:Δ}{us:Ζ}{a:List (Str×Γ)}:(A.under (.builtin "type.__call__" #[.ref C::us,a])).depth=A.depth+1:=by
 first|rfl|simp [Around.under,Code.weight,Code.isCreation,Code.isGuard,Code.isCaller,Code.frames,Code.isFrame,guardIds]
theorem vO{A:Around}{C:Δ}{us:Ζ}{a:List (Str×Γ)}:(A.under (.builtin "type.__call__" #[.ref C::us,a])).units=A.units+1:=by
 first|rfl|simp [Around.under,Code.cUnits,Code.frames,Code.isFrame]
theorem M9.make{k:Nat}{A:Around}(r:M9 (k+1) A)(C:Δ)(us:Ζ)(a:List (Str×Γ)):M9 k (A.under (.builtin "type.__call__" #[.ref C::us,a])):=
 #[r.hd,by have:=r.dp;rw[uW];lia,by have:=r.un;rw[vO];lia]
theorem M9.depth{k:Nat}{A:Around}(r:M9 k A):A.depth<recursionLimit:=by have:=r.dp;lia
def Bj:TA:=λ_ H Q=>Q [] H
def vh(ta:TE)(c:TA):TA:=λσ H Q=>ta σ H λx H1=>c σ H1 λxs a=>Q (x::xs) a
section
variable{X:Cx}{e:Φ}{es:Ι}{te:TE}{t:TA}{pos:Pos}
theorem EJ:PA X [] Bj:=λ_ _ _ _ H Q I h=>Calls.spliced_nil #[[],H,I,.nil,h]
theorem DY(ha:PE X e te)(hr:PA X es t)(hs:θ (e::es) X.env=(false,eval e X.env)::θ es X.env:=by rfl):PA X (e::es) (vh te t):=by
 intro pos tx s σ H Q I h;rw[hs]
 show ε _ _ (spliced ((false,eval e X.env)::backTo pos (θ es X.env))) _ _ s
 refine Calls.spliced_cons (qF (ha tx s σ H _ I h) λu c d=>?_)
 obtain⟨x,H1,f,l,g⟩:=d;exact qF (hr pos tx c σ H1 _ f g) λn o ⟨xs,j,a,i,m⟩=>#[x::xs,j,a,.cons l i,m]
def ED(t:TA):TE:=λσ H Q=>t σ H λxs H1=>xs.length<=ζ/\∀p,H1 p=none->Q (.ref p) (MO H1 p (.tup xs))
def EC(t:TA):TE:=λσ H Q=>t σ H λxs H1=>xs.length<=ζ/\∀p,H1 p=none->Q (.ref p) (MO H1 p (.lst xs))
theorem Fn{x1}(h:PA X es t):PE X (.Tuple es x1 pos) (ED t):=by
 intro tx s σ H Q I f;refine wpAny_Tuple_spliced (qF (h pos tx s σ H _ I f) λd a ⟨xs,H1,c,r,z,q⟩=>#[by rw[<- r.length];exact z,?_])
 have g:H1 a.heap.objs.size=none:=c.hok.fresh (Je _)
 refine#[.ref a.heap.objs.size,MO H1 a.heap.objs.size (.tup xs),c.laid (t':=a.toks) (λb u e=>Jj _ e) (Je _) ?_,Z,q _ g]
 exact#[z,d,r,#[_,Jw _ Z,Z,_,Z]]
theorem E2(h:PA X es t):PE X (.List es pos) (EC t):=by
 intro tx s σ H Q I f;refine wpAny_List_spliced (qF (h pos tx s σ H _ I f) λd a ⟨xs,H1,c,r,z,q⟩=>#[by rw[<- r.length];exact z,?_])
 have g:H1 a.heap.objs.size=none:=c.hok.fresh (Je _)
 refine#[.ref a.heap.objs.size,MO H1 a.heap.objs.size (.lst xs),c.laid (t':=a.toks) (λb u e=>Jj _ e) (Je _) ?_,Z,q _ g]
 exact#[z,d,0,r,Jw _ Z]
end
abbrev Sp:=Β->Hp->VK->XK->Prop
abbrev gn:=Ο->Hp->Θ->XK->Γ->Θ->Prop
structure O7(P:Ξ)(w:Ω)(K:ι)(mg:MK)(base:Ψ)(A:Around)(outer:Ο)(s:Θ)(H:Hp):Prop where
 frames:A.frames=↑outer
 mod:SU K mg base
 bs:∀b o,base.get? b=↑o->s.heap.get? b=↑o/\H b=none
 bsz:base.objs.size<=s.heap.objs.size
 funs:s.heap.FunFrames base outer
 frf:∀b∈Qp outer,H b=none
 hok:NS P w H s.heap
 bare:AllBare s.gens
def CE(outer:Ο)(P:Ξ)(w:Ω)(H:Hp)(s:Θ)(Q:VK)(u:Γ)(s':Θ):Prop:=
 ∃v H',s'.os=s.os/\AllBare s'.gens/\Un (Qp outer) [] H H' s.heap s'.heap/\NS P w H' s'.heap/\MT v u/\Q v H'
def CR(CX:gn)(outer:Ο)(P:Ξ)(w:Ω)(H:Hp)(s:Θ)(Q:VK)(E:XK)(r:Result)(s':Θ):Prop:=
 match r with
 | .ok (.ret u)=>CE outer P w H s Q u s'
 | .ok _=>False
 | .error e=>CX outer H s E e s'
structure N9(P:Ξ)(w:Ω)(K:ι)(mg:MK)(base:Ψ)(CX:gn)(k:Nat)(f:Δ)(fd:FuncData)(ps:Α)(sp:Sp):Prop where
 len:∀vs H Q E,sp vs H Q E->vs.length=ps.length
 run:∀(A:Around) (outer:Ο) (s:Θ) (H:Hp) (args:Args) (us:Ζ) (vs:Β) (Q:VK) (E:XK),M9 k A->O7 P w K mg base A outer s H->BindsTo s fd args (ps.zip us)->MU vs us->sp vs H Q E->
  codeAny (model P w) A (.call (.ref f) args) (CR CX outer P w H s Q E) s
theorem O7.make{P:Ξ}{w:Ω}{K:ι}{mg:MK}{base:Ψ}{A:Around}{outer:Ο}{s:Θ}{H:Hp}(e:O7 P w K mg base A outer s H)(C:Δ)(us:Ζ)(a:List (Str×Γ)):
  O7 P w K mg base (A.under (.builtin "type.__call__" #[.ref C::us,a])) outer s H:=#[by first|exact e.frames|(simpa [Around.under,Code.envs,Code.isFrame,pushEnvs]using e.frames),e.mod,e.bs,e.bsz,e.funs,e.frf,e.hok,e.bare]
section
variable{X:Cx}{tx:ML}{σ:St}{H:Hp}{s s':Θ}
theorem MQ.env0(I:MQ X tx σ H s):O7 X.prog X.w X.K X.mg X.base X.A X.stack s H:=
 #[I.ok.frames,I.ok.mod,I.bs,JH I.ok.bsz I.sz,I.stack,I.stkFree,I.hok,I.bare]
theorem MQ.after{Q:VK}{u:Γ}(I:MQ X tx σ H s)(h:CE X.stack X.prog X.w H s Q u s'):EP X tx σ Q u s':=by
 obtain⟨v,H',os,a,un,e,r,q⟩:=h;obtain⟨f,g,d,t,c⟩:=s'
 obtain rfl:c=s.os:=os
 exact#[v,H',I.call (h':=f) (g':=g) (d':=d) (t':=t) (ch:=[]) un e a (λb z=>absurd z (by simp)),r,q]
end
def vB(sp:Sp)(dvs:Β)(E:XK)(t:TA):TE:=λσ H Q=>t σ H λa H1=>sp (a++dvs) H1 Q E
def Cz(C:Δ)(sp:Sp)(dvs:Β)(E:XK)(t:TA):TE:=λσ H Q=>t σ H λa H1=>∀x dx,H1 x=none->H1 dx=none->dx≠x->
 sp (.ref x::(a++dvs)) (MO (MO H1 dx (.own x)) x (.ins C dx [])) (λv c=>v= .non/\Q (.ref x) c) E
def NF(K:ι)(fd:FuncData)(ps:Α)(ds:Ζ):Prop:=
 ∀(s:Θ) (a:Ζ),K.In s.heap->(a++ds).length=ps.length->BindsTo s fd #[a,[]] (ps.zip (a++ds))
theorem NF.all{K:ι}{fd:FuncData}{ps:Α}(h:∀a:Ζ,a.length=ps.length->bindArgs fd #[a,[]]=pure (ps.zip a)):NF K fd ps []:=λs a _ c=>by
 rw[LB]at c⊢;exact .of_eq (h a c)
def b9(CX:gn)(X:Cx)(E:XK):Prop:=∀(tx:ML) (σ:St) (H:Hp) (s:Θ) (e:Γ) (s':Θ),MQ X tx σ H s->CX X.stack H s E e s'->X.xe e s'
section
variable{X:Cx}{CX:gn}{k:Nat}{f C:Δ}{fd:FuncData}{ps:Α}{sp:Sp}{dvs:Β}{ds:Ζ}{E:XK}{x:Str}{p pos:Pos}{e:Φ}{es:Ι}{t:TA}
theorem kE{tx:ML}{σ:St}{H:Hp}{s:Θ}{Q:VK}{us:Ζ}{vs:Β}(F:N9 X.prog X.w X.K X.mg X.base CX k f fd ps sp)(hr:M9 k X.A)(hb:NF X.K fd ps ds)(hd:MU dvs ds)(hx:b9 CX X E)
  (I:MQ X tx σ H s)(r:MU vs us)(h:sp (vs++dvs) H Q E):ε (model X.prog X.w) X.A (call (.ref f) us) (EP X tx σ Q) X.xe s:=by
 have c:MU (vs++dvs) (us++ds):=r.append hd
 have d:(us++ds).length=ps.length:=by rw[<- c.length];exact F.len _ _ _ _ h
 refine Lh (IQ (F.run X.A X.stack s H #[us,[]] (us++ds) (vs++dvs) Q E hr I.env0 (hb s us I.kIn d) c h) λr s' a=>?_)
 cases r with
 |error e=>exact hx tx σ H s e s' I a
 |ok fl=>
  cases fl with
  |ret u=>exact I.after a
  |next=>exact False.elim a
  |brk=>exact False.elim a
  |cont=>exact False.elim a
theorem Dk(F:N9 X.prog X.w X.K X.mg X.base CX k f fd ps sp)(hr:M9 k X.A)(hg:Gl X x)(hm:X.mg x=↑(.ref f))(hk:W.keepIn X.K (.ref f)=true)(hb:NF X.K fd ps ds)(hd:MU dvs ds)(hx:b9 CX X E)
  (ha:PA X (e::es) t)(hdb:(x==("__debug__":Str))=false:=by decide)(he:θ (e::es) X.env=(false,eval e X.env)::θ es X.env:=by rfl)(hpl:(backTo pos (θ es X.env)).any (·.1)=false:=by rfl):
  PE X (.Call (.Name x p) (e::es) [] pos) (vB sp dvs E t):=by
 intro tx s σ H Q I h;refine LC (Z8 I hg hm ?_ hdb)
 refine LD (h₀:=X.base) I.ok.mod.kin hk (qF (ha pos tx s σ H _ I h) λg d ⟨c,H1,a,r,q⟩=>#[a.kIn,?_]) he hpl
 exact kE F hr hb hd hx a r q
structure Mk(K:ι)(C f:Δ):Prop where
 makes:PySem.W.makesIn K C=true
 init:PySem.W.findIn K (.ref C) "__init__"=↑(↑(.ref f))
 fn:PySem.W.isFn K (.ref f)=true
 kp:PySem.W.keepIn K (.ref C)=true
theorem Br{tx:ML}{σ:St}{H:Hp}{s:Θ}{Q:VK}{us:Ζ}{vs:Β}(M:Mk X.K C f)(F:N9 X.prog X.w X.K X.mg X.base CX k f fd ps sp)(hr:M9 (k+1) X.A)(hb:NF X.K fd ps ds)(hd:MU dvs ds)
  (hx:b9 CX X E)(I:MQ X tx σ H s)(r:MU vs us)
  (h:∀x dx,H x=none->H dx=none->dx≠x->sp (.ref x::(vs++dvs)) (MO (MO H dx (.own x)) x (.ins C dx [])) (λv o=>v= .non/\Q (.ref x) o) E):
  ε (model X.prog X.w) X.A (call (.ref C) us) (EP X tx σ Q) X.xe s:=by
 have g:=h (s.heap.objs.size+1) s.heap.objs.size (I.hok.fresh (JW _)) (I.hok.fresh (Je _)) (Ju (Iv _));have c:=MQ.made (C:=C) I
 have d:MU (V.ref (s.heap.objs.size+1)::(vs++dvs)) (Γ.ref (s.heap.objs.size+1)::(us++ds)):= .cons Z (r.append hd)
 have j:(Γ.ref (s.heap.objs.size+1)::us++ds).length=ps.length:=by
  have e:=d.length;rw[F.len _ _ _ _ g]at e;exact e.symm
 refine Lh (BE (f:=f) I.kIn M.makes M.init (Ic.mp M.fn) (IQ (F.run _ X.stack _ _ #[Γ.ref (s.heap.objs.size+1)::us,[]] (Γ.ref (s.heap.objs.size+1)::(us++ds)) _ _ E (hr.make C us [])
  (c.env0.make C us []) (hb _ (Γ.ref (s.heap.objs.size+1)::us) c.kIn j) d g) λr s' a=>?_))
 cases r with
 |error e=>exact hx tx σ _ _ e s' c a
 |ok fl=>
  cases fl with
  |ret u=>
   obtain⟨v,H',i,n,l,m⟩:=c.after a;subst l
   exact#[n,#[V.ref (s.heap.objs.size+1),H',i,Z,m]]
  |next=>exact False.elim a
  |brk=>exact False.elim a
  |cont=>exact False.elim a
theorem Dl(M:Mk X.K C f)(F:N9 X.prog X.w X.K X.mg X.base CX k f fd ps sp)(hr:M9 (k+1) X.A)(hg:Gl X x)(hm:X.mg x=↑(.ref C))(hb:NF X.K fd ps ds)(hd:MU dvs ds)(hx:b9 CX X E)
  (ha:PA X (e::es) t)(hdb:(x==("__debug__":Str))=false:=by decide)(he:θ (e::es) X.env=(false,eval e X.env)::θ es X.env:=by rfl)(hpl:(backTo pos (θ es X.env)).any (·.1)=false:=by rfl):
  PE X (.Call (.Name x p) (e::es) [] pos) (Cz C sp dvs E t):=by
 intro tx s σ H Q I h;refine LC (Z8 I hg hm ?_ hdb)
 refine LD (h₀:=X.base) I.ok.mod.kin M.kp (qF (ha pos tx s σ H _ I h) λg d ⟨c,H1,a,r,q⟩=>#[a.kIn,?_]) he hpl
 exact Br M F hr hb hd hx a r q
end
structure MN(N P:Α)(sc:Scope):Prop where
 kind:sc.kind= .function
 co:sc.isCoroutine=false
 gen:sc.isGenerator=false
 nd:N.Nodup
 pre:N.take P.length=P
 par:∀x∈P,sc.names.lookup x=some .local\/sc.names.lookup x=some .cell
 nofree:∀y∈sc.names,y.2≠ .free
theorem oq{a:Str->Option NameKind}{x:Str}:∀{binds:List (Str×Γ)} {m:MK},(∀v,(x,v)∉binds)->bindL a binds m x=m x
 | [],_,_=>rfl
 |(n,v)::r,m,h=>by
  unfold bindL;rw[oq λw c=>h w (JC _ c)]
  split
  ·have:x≠n:=by rintro rfl;exact h v JB
   simp [this]
  ·rfl
theorem oy{a:Str->Option NameKind}{x:Str}:∀{binds:List (Str×Γ)} {m:MK},(∀v,(x,v)∉binds)->bindC a binds m x=m x
 | [],_,_=>rfl
 |(n,v)::r,m,h=>by
  unfold bindC;rw[oy λw c=>h w (JC _ c)]
  split
  ·rfl
  ·have:x≠n:=by rintro rfl;exact h v JB
   simp [this]
theorem mX{a:Str->Option NameKind}{x:Str}{v:Γ}:∀{P:Α} {vs:Ζ} {i:Nat} {m:MK},P.Nodup->P[i]? =↑x->vs[i]? =↑v->a x=some .local->
  bindL a (P.zip vs) m x=↑v
 | [],_,_,_,_,h,_,_=>by simp at h
 |_::_,[],_,_,_,_,h,_=>by simp at h
 |p::P,w::vs,0,m,nd,h1,h2,hk=>by
  simp at h1 h2;subst h1;subst h2
  show bindL a ((p,w)::P.zip vs) m p=_
  unfold bindL;rw[oq λv c=>(J4.mp nd).1 (List.of_mem_zip c).1,Jd hk]
  simp
 |p::P,w::vs,i+1,m,nd,h1,h2,hk=>by
  show bindL a ((p,w)::P.zip vs) m x=_
  unfold bindL;exact mX (i:=i) (J4.mp nd).2 (by simpa using h1) (by simpa using h2) hk
theorem ni{a:Str->Option NameKind}{x:Str}{v:Γ}:∀{P:Α} {vs:Ζ} {i:Nat} {m:MK},P.Nodup->P[i]? =↑x->vs[i]? =↑v->a x≠some .local->
  bindC a (P.zip vs) m x=↑v
 | [],_,_,_,_,h,_,_=>by simp at h
 |_::_,[],_,_,_,_,h,_=>by simp at h
 |p::P,w::vs,0,m,nd,h1,h2,hk=>by
  simp at h1 h2;subst h1;subst h2
  show bindC a ((p,w)::P.zip vs) m p=_
  unfold bindC;rw[oy λv c=>(J4.mp nd).1 (List.of_mem_zip c).1,Jc hk]
  simp
 |p::P,w::vs,i+1,m,nd,h1,h2,hk=>by
  show bindC a ((p,w)::P.zip vs) m x=_
  unfold bindC;exact ni (i:=i) (J4.mp nd).2 (by simpa using h1) (by simpa using h2) hk
def Q7(N:Α)(vs:Β):St:=vs.map some++List.replicate (N.length-vs.length) none
def Qs(CX:gn)(P:Ξ)(w:Ω)(K:ι)(mg:MK)(base:Ψ)(N:Α)(Tb:Str)(a:Scope)(f:Δ)(d:Γ)(A:Around)(outer:Ο)(s:Θ)(H:Hp)(E:XK):Cx where
 prog:=P
 w:=w
 K:=K
 mg:=mg
 base:=base
 A:=A.deeper (envOfC Tb a s.heap.objs.size f d)
 N:=N
 s₀:=s
 H₀:=H
 env:=envOfC Tb a s.heap.objs.size f d
 outer:=outer
 stack:=envOfC Tb a s.heap.objs.size f d::outer
 ex:=[]
 calm:=true
 fn:=λ_=>true
 pn:=[]
 xe:=λe s'=>ε (model P w) (A.deeper (envOfC Tb a s.heap.objs.size f d)) (leaving (envOfC Tb a s.heap.objs.size f d) e) (λ_ c=>CX outer H s E e c) (λg c=>CX outer H s E g c) s'
theorem pG{a:Scope}{n:Nat}{x:Str}(h:a.names.lookup x=some .cell):∃c,(cellsFrom n a.names []).lookup x=↑c:=by
 have q:=W.cellsFrom_some a.names n [] (.inl h);exact Li.mp q
theorem wa{CX:gn}{P:Ξ}{w:Ω}{K:ι}{mg:MK}{base:Ψ}{N ps:Α}{Tb:Str}{d:Scope}{f:Δ}{B:Γ}{A:Around}{outer:Ο}{s C:Θ}{H:Hp}{E:XK}{us:Ζ}{vs:Β}
  (S:MN N ps d)(hd:A.handled=none)(j:O7 P w K mg base A outer s H)(hl:vs.length=ps.length)(r:MU vs us)
  (x:InCallC s s.heap.objs.size (bindL (envOfC Tb d s.heap.objs.size f B).kindOf (ps.zip us) λ_=>none) (cellsFrom (s.heap.objs.size+1) d.names []) (bindC (envOfC Tb d s.heap.objs.size f B).kindOf (ps.zip us) λ_=>none) C):
  MQ (Qs CX P w K mg base N Tb d f B A outer s H E) [] (Q7 N vs) H C:=by
 have F:ps.length<=N.length:=by have:=JL List.length S.pre;rw[Ie]at this;lia
 obtain⟨h1,tk,rfl,hk⟩:=x.done;have l:∀b:Δ,b∉(Qs CX P w K mg base N Tb d f B A outer s H E).ex:=λb z=>absurd (show b∈([]:Η)from z) (by simp)
 refine#[#[j.mod,S.kind,Z,Z,Je _,λy z c h1 g=>?_,λy m=>?_,λy c _ h=>?_,λ_=>hd,Around.frames_deeper j.frames,.inr #[Z,Z],λb z=>absurd z (l b),j.bs,j.bsz,λb _ _=>l b,λb z=>absurd z (l b),j.funs,j.frf],
  rfl,j.bare,Un.kept hk,#[_,x.toInCall.ns,λi y v h1 g J=>?_],λy c h=>#[_,x.cell y c h],j.hok.fresh (Je _),λy c h=>?_,λp t=>absurd (show p∈([]:ML)from t) (by simp),j.hok.kept hk,?_]
 ·exact name_of_addr x.apart (Lj h1) (Lj g)
 ·have m:d.names.lookup y=some .cell\/d.names.lookup y=some .free:=m
  rcases m with m|m
  ·exact pG m
  ·exact absurd Z (S.nofree _ (Lj m))
 ·exact LW (x.above y c (Lj h))
 ·have hi:i<vs.length:=by
   unfold Q7 at g
   by_cases hi:i<vs.length
   ·exact hi
   ·rw[Ik (by simpa using hi)]at g
    rw[List.getElem?_replicate]at g;split at g<;>cases g
  have G:vs[i]? =↑v:=by
   unfold Q7 at g;rw[Iw (by simpa using hi),Jm]at g
   cases e:vs[i]? with
   |none=>rw[e]at g;cases g
   |some a=>rw[e]at g;cases g;rfl
  obtain⟨u,D,I⟩:=r.get G;have t:ps[i]? =↑y:=by
   rw[<- S.pre,List.getElem?_take_of_lt (by lia)];exact h1
  have o:ps.Nodup:=by rw[<- S.pre];exact S.nd.sublist (List.take_sublist _ _)
  refine#[u,I,?_]
  rcases S.par y (Jp t)with k|k
  ·exact .inl #[k,mX o t D k]
  ·obtain⟨c,e⟩:=pG (n:=s.heap.objs.size+1) k
   refine .inr #[.inl k,c,e,?_]
   have q:=x.cell y c e;rw[ni o t D (by show d.names.lookup y≠_;rw[k];decide)]at q
   exact q
 ·exact j.hok.fresh (LW (x.above y c (Lj h)))
 ·unfold Q7
  show _=N.length
  rw[Jo,Jb,L5];lia
theorem uT{CX:gn}{P:Ξ}{w:Ω}{K:ι}{mg:MK}{base:Ψ}{k:Nat}{f:Δ}{name Tb:Str}{c:Arguments}{d:List δ}{a:Scope}{M kV doc pm cdv ct oc:Γ}{an od:Λ}
  {osl:Array Ν}{N ps:Α}{sp:Sp}(T:K.lookup f=some #[oc,od,.func (W.fnOf name Tb c d a M kV doc pm an cdv ct),osl])(B:W.codeIn K cdv Tb=true)(S:MN N ps a)
  (m:∀vs H Q E,sp vs H Q E->vs.length=ps.length)
  (h:∀(A:Around) (outer:Ο) (s:Θ) (H:Hp) (vs:Β) (Q:VK) (E:XK),M9 k (A.deeper (envOfC Tb a s.heap.objs.size f cdv))->sp vs H Q E->
   ∃t,O5 (Qs CX P w K mg base N Tb a f cdv A outer s H E) d t/\t {nx:=λ_ H'=>Q .non H',rt:=Q} (Q7 N vs) H):
  N9 P w K mg base CX (k+1) f (W.fnOf name Tb c d a M kV doc pm an cdv ct) ps sp:=by
 refine#[m,λA outer s H G Y vs Q E C p hb r l=>?_]
 have hl:=m _ _ _ _ l;have L:K.In s.heap:=p.mod.kin.keeps λb o e=>(p.bs b o e).1
 have D:s.heap.NoLimit:=p.mod.nolimit.keeps λb o e=>(p.bs b o e).1
 have i:∀y∈ps.zip Y,a.names.lookup y.1=some .local\/(a.names.lookup y.1=some .cell/\((cellsFrom (s.heap.objs.size+1) a.names []).lookup y.1).isSome=true):=λ⟨n,v⟩ X=>by
  rcases S.par n (List.of_mem_zip X).1 with q|q
  ·exact .inl q
  ·exact .inr #[q,W.cellsFrom_some _ _ _ (.inl q)]
 refine codeAny_call_function C.depth (L _ _ T) Z S.co S.gen Z (W.codeRec_of L B) (hb _ _ _ _ ?_)
 refine wpAny_newFunctionEnv_cells S.kind i λenv he O x=>?_
 subst he;refine#[D.keeps x.toInCall.keep,codeAny_func ?_]
 obtain⟨t,R,U⟩:=h A outer s H vs Q E (C.deeper _) l
 have I:MQ (Qs CX P w K mg base N Tb a f cdv A outer s H E) [] (Q7 N vs) H O:=wa S C.hd p hl r x
 refine JJ (R [] O (Q7 N vs) H _ I U) (λfl s' j=>?_) λe s' j=>j
 have z:∀{g:St} {H':Hp} {v:V} {u:Γ},MQ (Qs CX P w K mg base N Tb a f cdv A outer s H E) [] g H' s'->MT v u->Q v H'->CE outer P w H s Q u s':=
  λ{g H' v u} J F q=>#[v,H',J.os,J.bare,J.base,J.hok,F,q]
 cases fl with
 |ret u=>
  obtain⟨v,g,H',J,F,q⟩:=j;exact z J F q
 |next=>
  obtain⟨g,H',J,q⟩:=j;exact z (v:=V.non) (u:=Γ.none) J Z q
 |brk=>
  obtain⟨_,_,_,q⟩:=j;exact False.elim q
 |cont=>
  obtain⟨_,_,_,q⟩:=j;exact False.elim q
section
variable{X:Cx}{x:Str}{p pos:Pos}{e:Φ}{es:Ι}{t:TA}{id T:String}{r:Β->Hp->VK->Prop}
def CN(r:Β->Hp->VK->Prop)(t:TA):TE:=λσ H Q=>t σ H λa H1=>r a H1 Q
theorem AX(hc:zx X (.builtin id) r)(hg:Gl X x)(hm:X.mg x=none)(hv:bootBuiltins x=↑(.builtin id))(ha:PA X (e::es) t)(hn:x≠"__name__":=by decide)(hdb:(x==("__debug__":Str))=false:=by decide)
  (he:θ (e::es) X.env=(false,eval e X.env)::θ es X.env:=by rfl)(hpl:(backTo pos (θ es X.env)).any (·.1)=false:=by rfl):PE X (.Call (.Name x p) (e::es) [] pos) (CN r t):=by
 intro tx s σ H Q I h;refine LC (bu I hg hm hv ?_ hn hdb)
 exact PyProof.Rows.callWith_builtin1 (qF (ha pos tx s σ H _ I h) λd c ⟨a,H1,f,i,g⟩=>hc tx c σ H1 a d Q f i g) he hpl
theorem xm(hc:zx X (.type T) r)(hg:Gl X x)(hm:X.mg x=none)(hv:bootBuiltins x=↑(.type T))(ha:PA X (e::es) t)(hn:x≠"__name__":=by decide)(hdb:(x==("__debug__":Str))=false:=by decide)
  (he:θ (e::es) X.env=(false,eval e X.env)::θ es X.env:=by rfl)(hpl:(backTo pos (θ es X.env)).any (·.1)=false:=by rfl):PE X (.Call (.Name x p) (e::es) [] pos) (CN r t):=by
 intro tx s σ H Q I h;refine LC (bu I hg hm hv ?_ hn hdb)
 exact Lg (qF (ha pos tx s σ H _ I h) λd c ⟨a,H1,f,i,g⟩=>hc tx c σ H1 a d Q f i g) he hpl
end
end L2
namespace HT
open PySem PyProof.Rows
section
variable{prog:Ξ}{w:Ω}{A:Around}{E:MJ}{s:Θ}
theorem cat_tup{t b:Δ}{vs ws:Ζ}{Q:MJ}(q:IsTup s.heap t vs.toArray)(hb:IsTup s.heap b ws.toArray)(hv:vs≠[])
  (h1:ws=[]->Q (.ref t) s)(h2:ws≠[]->Q (.ref s.heap.objs.size) {s with heap:=s.heap.push {cls:= .type "tuple",data:= .seq (vs++ws).toArray}})
  (hsz:vs.length+ws.length<=ζ):ε (model prog w) A (binaryOp .Add (.ref t) (.ref b)) Q E s:=by
 obtain⟨⟨cls,dd,data,o⟩,i,l,n,m⟩:=id q;obtain⟨⟨p,c,j,d⟩,a,g,n2,f⟩:=id hb;simp only at l m g f
 subst l m g f;have e:vs.toArray++ws.toArray=(vs++ws).toArray:=by simp
 by_cases h:ws=[]
 ·exact concat_meets #[_,i,Z] #[_,a,Z] noFill_tuple_add seq_tuple_add Mu Mw (Mz _ _)
   (tuple_addW1 t b vs.toArray ws.toArray n n2 dd c o d (by simpa using hv) (by simp [h])) #[i,a,h1 h]
 ·refine concat_meets #[_,i,Z] #[_,a,Z] noFill_tuple_add seq_tuple_add Mu Mw (Mz _ _)
   (tuple_addW2 t b vs.toArray ws.toArray n n2 dd c o d (by simpa using hv) (by simpa using h) (by rw[JA,JA];exact hsz)) #[i,a,?_]
  rw[e];exact h2 h
def sIx(n d:Nat):Κ->Nat
 |none=>d
 |some v=>if v<0 then(v+(n:Int)).toNat else min v.toNat n
theorem Fw(n d:Nat)(hd:d<=n)(o:Κ):sIx n d o<=n:=by
 cases o with
 |none=>exact hd
 |some v=>
  show(if v<0 then(v+(n:Int)).toNat else min v.toNat n)<=n
  by_cases a:v<0
  ·rw[Jd a];lia
  ·rw[Jc a];exact L6 _ _
theorem tT(v:Int)(n d:Nat):(if v<0 then max (v+(n:Int)) 0 else min v (n:Int))=((sIx n d ↑v:Nat):Int):=by
 show(if v<0 then max (v+(n:Int)) 0 else min v (n:Int))=(((if v<0 then(v+(n:Int)).toNat else min v.toNat n):Nat):Int)
 by_cases a:v<0
 ·simp only[Jd a];lia
 ·simp only[Jc a];lia
theorem v9(lo hi:Κ)(n:Nat):γ.Slice.sliceAdjust lo hi 1 (n:Int)=(((sIx n 0 lo:Nat):Int),((sIx n n hi:Nat):Int)):=by
 have h1:¬((1:Int)<0):=by lia
 unfold γ.Slice.sliceAdjust;simp only[h1,Lk];refine Prod.ext ?_ ?_
 ·cases lo with
  |none=>rfl
  |some v=>exact tT v n 0
 ·cases hi with
  |none=>rfl
  |some v=>exact tT v n n
theorem vb(i j:Nat):γ.Slice.slicePlaces (i:Int) (j:Int) 1=j-i:=by
 unfold γ.Slice.slicePlaces;have h1:(1:Int)>0:=by lia
 simp only[h1,Il,Int.ediv_one];split<;>lia
theorem kj{v:Γ}{o:Κ}{Q:Κ->Θ->Prop}(p:IsPart v o)(h:Q o s):ε (model prog w) A (γ.Slice.slicePartIndex v) Q E s:=by
 cases p with
 |none=>exact slicePart_none h
 |int i t=>exact slicePart_int h
theorem sliceApplied_gen{f:Δ}{d e:Γ}{lo hi:Κ}{n:Nat}{Q:Int×Int×Nat->Θ->Prop}(hs:s.heap.IsSliceOf f d e .none)(pl:IsPart d lo)(g:IsPart e hi)
  (h:Q (((sIx n 0 lo:Nat):Int),1,sIx n n hi-sIx n 0 lo) s):ε (model prog w) A (γ.Slice.sliceApplied (.ref f) (pure (n:Int))) Q E s:=by
 obtain⟨os,a,i,c⟩:=id hs;unfold γ.Slice.sliceApplied γ.Slice.sliceFields;refine Ja (Ja (JI a c (x:=d) Z (Ja (JI a c (x:=e) Z (Ja (JI a c (x:= .none) Z (Jh ?_)))))))
 refine Ja (slicePart_none ?_)
 show ε _ _ (if((1:Int)==0)=true then _ else _) _ _ s
 rw[Jc ⋯]
 refine Ja (kj pl (Ja (kj g (Ja (Jh ?_)))))
 show ε _ _ (match γ.Slice.sliceAdjust lo hi 1 (n:Int)with|(lo,hi)=>pure (lo,(1:Int),γ.Slice.slicePlaces lo hi 1)) _ _ s
 rw[v9 lo hi n]
 show ε _ _ (pure (((sIx n 0 lo:Nat):Int),(1:Int),γ.Slice.slicePlaces ((sIx n 0 lo:Nat):Int) ((sIx n n hi:Nat):Int) 1)) _ _ s
 rw[vb];exact Jh h
theorem Bq(xs:Array Γ)(i k:Nat):((List.range k).filterMap λ(m:Nat)=>xs[((i:Int)+(m:Int)*1).toNat]?).toArray=((xs.toList.drop i).take k).toArray:=by
 have e:(λ(m:Nat)=>xs[((i:Int)+(m:Int)*1).toNat]?)=λm=>xs[i+m]? :=by
  funext m
  have:((i:Int)+(m:Int)*1).toNat=i+m:=by lia
  rw[this]
 rw[e]
 have:=pick_run xs i k
 rw[List.filterMap_map]at this;have a:((λx=>xs[x]?)∘λx=>i+x)=λm=>xs[i+m]? :=Z
 rw[a]at this;rw[this]
theorem getItem_tuple_cut{t e:Δ}{items:Array Γ}{j l:Γ}{lo hi:Κ}{Q:MJ}(c:IsTup s.heap t items)(hs:s.heap.IsSliceOf e j l .none)(pl:IsPart j lo)(n:IsPart l hi)
  (hw:¬(sIx items.size 0 lo=0/\sIx items.size items.size hi=items.size))
  (h:Q (.ref s.heap.objs.size) {s with heap:=s.heap.push {cls:= .type "tuple",data:= .seq ((items.toList.drop (sIx items.size 0 lo)).take (sIx items.size items.size hi-sIx items.size 0 lo)).toArray}})
  (hsz:items.size<=ζ):ε (model prog w) A (getItem (.ref t) (.ref e)) Q E s:=by
 have a:sizeOk (.seq ((items.toList.drop (sIx items.size 0 lo)).take (sIx items.size items.size hi-sIx items.size 0 lo)).toArray):=by
  show((items.toList.drop (sIx items.size 0 lo)).take (sIx items.size items.size hi-sIx items.size 0 lo)).toArray.size<=ζ
  rw[JA,Ie,L7,IB];lia
 have p:sIx items.size items.size hi<=items.size:=Fw _ _ (Je _) hi
 obtain⟨os,f,i,o⟩:=id hs;have g:s.TypeIs (.ref e) "slice":=#[os,f,i]
 unfold getItem
 try with_reducible refine J2 ?_
 first|refine Ja (Jh ?_)|skip
 refine Ja (wpAny_sequenceKey c.typeIs ⋯ ?_)
 refine Ja (wpAny_callSpecial?_slot (name:=Str.ofString "__getitem__") c.typeIs L8
  (J8 L8 c.typeIs entry_tuple_getitem ?_ (args_tuple_getitem _ _)))
 show ε _ _ (γ.Tuple.tupleItemsOf (.ref t) >>= _) _ _ s
 refine Ja (tupleItemsOf_ c ?_)
 refine Ja (wpAny_typeOf g ?_)
 rw[Jd ⋯]
 refine Ja (sliceApplied_gen hs pl n ?_)
 have d:¬((((sIx items.size 0 lo:Nat):Int)==0&&(1:Int)==1&&(sIx items.size items.size hi-sIx items.size 0 lo)==items.size)=true):=by
  intro q;rw[JU,JU]at q;have r:((sIx items.size 0 lo:Nat):Int)=0:=eq_of_beq q.1.1
  have u:sIx items.size items.size hi-sIx items.size 0 lo=items.size:=eq_of_beq q.2
  exact hw #[by lia,by lia]
 show ε _ _ (if(((sIx items.size 0 lo:Nat):Int)==0&&(1:Int)==1&&(sIx items.size items.size hi-sIx items.size 0 lo)==items.size)=true then _ else _) _ _ s
 rw[Jc d,Bq]
 first
  |exact Ja (m:=γ.Tuple.tupleExact _) (J6 (Jh ⟨_,rfl,Jh h⟩) a)
  |exact Ja (m:=γ.Tuple.tupleExact _) (J6 (Ja (Jh (Jh ⟨_,rfl,Jh h⟩))) a)
  |exact Ja (Ja (m:=γ.Tuple.tupleExact _) (J6 (Jh (Jh ⟨_,rfl,Jh h⟩)) a))
  |exact Ja (Ja (m:=γ.Tuple.tupleExact _) (J6 (Jh ⟨_,rfl,Jh h⟩) a))
end
end HT
namespace L2
open PySem PySem.Spec PyProof.Rows
abbrev TO:=St->Hp->(Κ->Hp->Prop)->Prop
def PO(X:Cx)(e:Υ)(t:TO):Prop:=
 ∀(tx:ML) (s:Θ) (σ:St) (H:Hp) (Q:Κ->Hp->Prop),MQ X tx σ H s->t σ H Q->
  ε (model X.prog X.w) X.A (evalPart e X.env) (λu s'=>∃o H',MQ X tx σ H' s'/\IsPart u o/\Q o H') X.xe s
def uP:TO:=λ_ H Q=>Q none H
def Cu(t:TE):TO:=λσ H Q=>t σ H λx H1=>∃i,x= .int i/\Q ↑i H1
theorem uR{ns:Ε}:∀{us:Ζ},MU (ns.map V.int) us->IntsAre us ns:=by
 induction ns with
 |nil=>intro us r;rw[L9]at r;cases r;exact .nil
 |cons n ns ih=>
  intro us r;rw[JR]at r;cases r with
  |cons r1 r2=>
   obtain⟨t,e⟩:=r1;subst e;exact .cons n t (ih r2)
section
variable{X:Cx}{e:Φ}{te:TE}{lo hi:Υ}{tl th:TO}{pos p2:Pos}
theorem Dg:PO X none uP:=by
 intro tx s σ H Q I h;rw[evalPart_none];exact Jh #[none,H,I,.none,h]
theorem DP(h:PE X e te):PO X ↑e (Cu te):=by
 intro tx s σ H Q I a;rw[evalPart_some];refine qF (h tx s σ H _ I a) λu j c=>?_
 obtain⟨x,H1,d,g,f⟩:=c;obtain⟨i,rfl,q⟩:=f;obtain⟨t,rfl⟩:=g
 exact#[↑i,H1,d,.int i t,q]
def wH(X:Cx)(r:V->Κ->Κ->Hp->VK->Prop):Prop:=
 ∀(tx:ML) (s:Θ) (σ:St) (H:Hp) (x:V) (v a c:Γ) (lo hi:Κ) (d:Δ) (Q:VK),MQ X tx σ H s->MT x v->s.heap.IsSliceOf d a c .none->IsPart a lo->IsPart c hi->r x lo hi H Q->
  ∃T id,typeLookup (.type T) "__getitem__"=pure ↑(.builtin id)/\s.TypeIs v T/\ε (model X.prog X.w) X.A (getItem v (.ref d)) (EP X tx σ Q) X.xe s
def GE(r:V->Κ->Κ->Hp->VK->Prop)(te:TE)(tl th:TO):TE:=λσ H Q=>te σ H λx H1=>tl σ H1 λl a=>th σ a λu H3=>r x l u H3 Q
theorem Aw{r:V->Κ->Κ->Hp->VK->Prop}(hr:wH X r)(he:PE X e te)(hl:PO X lo tl)(hu:PO X hi th):PE X (.Subscript e (.Slice lo hi none p2) pos) (GE r te tl th):=by
 intro tx s σ H Q I h;refine Subscript_ (qF (he tx s σ H _ I h) λv p f=>?_)
 obtain⟨x,H1,z,t,C⟩:=f;refine wpAny_Slice (qF (hl tx p σ H1 _ z C) λc D ⟨l,E,y,m,w⟩=>qF (hu tx D σ E _ y w) λd a f=>?_)
 obtain⟨u,H3,A,B,n⟩:=f;rw[evalPart_none];refine Jh ?_
 have j:MQ X tx σ H3 {a with heap:=a.heap.push {cls:= .type "slice",data:= .fields (List.toArray [c,d,.none])}}:=A.kept (t':=a.toks) λb F q=>Jj _ q
 obtain⟨T,id,o,g,i⟩:=hr tx {a with heap:=a.heap.push {cls:= .type "slice",data:= .fields (List.toArray [c,d,.none])}} σ H3 x v c d l u a.heap.objs.size Q j t (Ψ.IsSliceOf.new ..) m B n
 show ε (model X.prog X.w) X.A (subscriptTail e (.Slice lo hi none p2) v (.ref a.heap.objs.size)) (EP X tx σ Q) X.xe {a with heap:=a.heap.push {cls:= .type "slice",data:= .fields (List.toArray [c,d,.none])}}
 exact tail_any (ops:=[.ref a.heap.objs.size,v]) g o i (by with_unfolding_all rfl)
def bH(xs:Β)(lo hi:Κ):Β:=(xs.drop (HT.sIx xs.length 0 lo)).take (HT.sIx xs.length xs.length hi-HT.sIx xs.length 0 lo)
theorem i6(xs:Β)(lo hi:Κ):(bH xs lo hi).length<=xs.length:=by
 unfold bH;rw[Ie,L7];lia
inductive Sz (K:ι) (x:V) (lo:Κ) (hi:Κ) (H:Hp) (Q:VK):Prop
 |mk (a:_) (xs:_) (h1:x= .ref a) (h2:MW K H a xs) (h3:¬(HT.sIx xs.length 0 lo=0/\HT.sIx xs.length xs.length hi=xs.length)) (h4:∀p,H p=none->Q (.ref p) (MO H p (.tup (bH xs lo hi))))
def Hk(K:ι):V->Κ->Κ->Hp->VK->Prop:=λx lo hi H Q=>Sz K x lo hi H Q
theorem EV:wH X (Hk X.K):=by
 intro tx s σ H x v p w lo hi t Q I n j i l h;obtain⟨a,xs,rfl,m,g,q⟩:=h;cases n;obtain⟨d,r,e,f⟩:=I.tuple m;have c:d.toArray.size=xs.length:=by rw[JA];exact r.length.symm
 refine#["tuple",_,PyProof.Rows.slot_tuple_getitem.lookup,e.typeIs,?_]
 refine HT.getItem_tuple_cut e j i l (by rw[c];exact g) ?_ (by rw[c];exact f)
 rw[c];refine#[.ref s.heap.objs.size,_,I.laid (t':=s.toks) (o:= .tup (bH xs lo hi)) (λb u q=>Jj _ q) (Je _) ?_,Z,q _ (I.hok.fresh (Je _))]
 exact#[JH (i6 xs lo hi) f,_,(r.drop (HT.sIx xs.length 0 lo)).take (HT.sIx xs.length xs.length hi-HT.sIx xs.length 0 lo),IsTup.new _ _]
inductive Si (K:ι) (x:V) (y:V) (H:Hp) (Q:VK):Prop
 |mk (a:_) (b:_) (xs:_) (ys:_) (h1:x= .ref a) (h2:y= .ref b) (h3:MW K H a xs) (h4:MW K H b ys) (h5:xs≠[]) (h6:xs.length+ys.length<=ζ) (h7:(ys=[]->Q (.ref a) H)) (h8:(ys≠[]->∀p,H p=none->Q (.ref p) (MO H p (.tup (xs++ys)))))
def F8(K:ι):R2:=λx y H Q=>Si K x y H Q
theorem MU.nil_iff{xs:Β}{us:Ζ}(r:MU xs us):us=[]↔xs=[]:=by
 cases r with
 |nil=>simp
 |cons _ _=>simp
theorem DB:zT X (binaryOp .Add) (F8 X.K):=by
 intro tx s σ H x y v u Q I t j h;obtain⟨a,b,xs,ys,rfl,rfl,i,l,m,f,p,r⟩:=h;cases t;cases j;obtain⟨n,d,g,_⟩:=I.tuple i;obtain⟨e,c,p2,_⟩:=I.tuple l;refine HT.cat_tup g p2 (λz=>m (d.nil_iff.mp z)) (λz=>#[.ref a,H,I,Z,p (c.nil_iff.mp z)]) (λz=>?_) (by rw[<- d.length,<- c.length];exact f)
 refine#[.ref s.heap.objs.size,_,I.laid (t':=s.toks) (o:= .tup (xs++ys)) (λb A q=>Jj _ q) (Je _) ?_,Z,r (λw=>z (c.nil_iff.mpr w)) _ (I.hok.fresh (Je _))]
 exact#[by rw[Jo];exact f,_,d.append c,IsTup.new _ _]
end
def bA(n:Nat)(i:Int):Option Nat:=if 0<=i then(if i<n then ↑i.toNat else none)else if -(n:Int)<=i then some (i+n).toNat else none
def Q2{α:Type}(xs:List α)(i:Int):Option α:=(bA xs.length i).bind λj=>xs[j]?
theorem uh{n:Nat}{i:Int}{j:Nat}(h:bA n i=↑j):seqIndex? i n=↑j/\j<n/\ -(n:Int)<=i/\i<n:=by
 unfold bA at h
 by_cases a:0<=i
 ·rw[Jd a]at h
  by_cases h1:i<n
  ·rw[Jd h1]at h
   have e:i.toNat=j:=JE h
   exact#[by rw[seqIndex_of a h1,e],by lia,by lia,h1]
  ·rw[Jc h1]at h;cases h
 ·rw[Jc a]at h
  by_cases h1: -(n:Int)<=i
  ·rw[Jd h1]at h
   have e:(i+n).toNat=j:=JE h
   exact#[by rw[seqIndex_neg (by lia) h1,e],by lia,h1,by lia]
  ·rw[Jc h1]at h;cases h
theorem uH{α:Type}{xs:List α}{i:Int}{v:α}(h:Q2 xs i=↑v):∃j,seqIndex? i xs.length=↑j/\xs[j]? =↑v/\j<xs.length/\ -(xs.length:Int)<=i/\i<xs.length:=by
 unfold Q2 at h;cases e:bA xs.length i with
 |none=>rw[e]at h;cases h
 |some j=>
  rw[e]at h;obtain⟨h1,c,a,d⟩:=uh e
  exact#[j,h1,h,c,a,d]
theorem zV{α:Type}{xs:List α}{j:Nat}{v:α}(h:xs[j]? =↑v):Q2 xs (j:Int)=↑v:=by
 have a:j<xs.length:=(Jt.mp h).1
 have e:bA xs.length (j:Int)=↑j:=by
  unfold bA;rw[Jd (by lia),Jd (by lia)];simp
 unfold Q2;rw[e];exact h
def uO(b:Φ):Prop:=∀o i,subscripted b false o i=operate [o,i] (getItem o i)
def RS(X:Cx)(r:R2):Prop:=
 ∀(value a:Φ) (tx:ML) (s:Θ) (σ:St) (H:Hp) (x y:V) (v u:Γ) (Q:VK),MQ X tx σ H s->MT x v->MT y u->r x y H Q->
  subscripted a false v u=operate [v,u] (getItem v u)->ε (model X.prog X.w) X.A (subscriptTail value a v u) (EP X tx σ Q) X.xe s
def je(X:Cx)(id:String)(r:V->Β->Hp->VK->Prop):Prop:=
 ∀(tx:ML) (s:Θ) (σ:St) (H:Hp) (x:V) (xs:Β) (v:Γ) (a:Ζ) (Q:VK),MQ X tx σ H s->MT x v->MU xs a->r x xs H Q->
  ε (model X.prog X.w) X.A (call (.builtin id) (v::a)) (EP X tx σ Q) X.xe s
section
variable{X:Cx}{a b:Φ}{ta tb:TE}{pos:Pos}
theorem RS.or{r f:R2}(h:RS X r)(h':RS X f):RS X (λx y H Q=>r x y H Q\/f x y H Q):=by
 intro value a tx s σ H x y v u Q I e d q c;rcases q with q|q
 ·exact h value a tx s σ H x y v u Q I e d q c
 ·exact h' value a tx s σ H x y v u Q I e d q c
theorem Gd{r:R2}(hr:RS X r)(ha:PE X a ta)(hb:PE X b tb)(hs:uO b):PE X (.Subscript a b pos) (nu r ta tb):=by
 intro tx s σ H Q I h;exact Subscript_ (Bu ha hb I h λv u e x y f c g d q=>hr a b tx e σ f x y v u Q c g d q (hs _ _))
inductive SA (K:ι) (x:V) (y:V) (H:Hp) (Q:VK):Prop
 |mk (p:_) (xs:_) (i:_) (v:_) (h1:x= .ref p) (h2:y= .int i) (h3:MV K H p xs) (h4:Q2 xs i=↑v) (h5:Q v H)
def F6(K:ι):R2:=λx y H Q=>SA K x y H Q
inductive SB (K:ι) (x:V) (y:V) (H:Hp) (Q:VK):Prop
 |mk (p:_) (xs:_) (i:_) (v:_) (h1:x= .ref p) (h2:y= .int i) (h3:MW K H p xs) (h4:Q2 xs i=↑v) (h5:Q v H)
def BO(K:ι):R2:=λx y H Q=>SB K x y H Q
theorem qO:RS X (F6 X.K):=by
 intro value d tx s σ H x y v u Q I B G h m;obtain⟨p,xs,i,z,rfl,rfl,A,F,q⟩:=h;cases B;obtain⟨t,rfl⟩:=G;obtain⟨g,r,c,J⟩:=I.list A;obtain⟨j,h1,D,L,C,o⟩:=uH F;obtain⟨w,n,e⟩:=r.get D;have E:=r.length;have K:=bo;have a:EP X tx σ Q w s:=#[z,H,I,e,q]
 by_cases l:0<=i
 ·have f:i.toNat=j:=by
   rw[seqIndex_of l o]at h1;exact JE h1
  exact item_listR c.isList l (by lia) (by rw[f];simpa using n) a m
 ·have f:(i+(g.toArray.size:Int)).toNat=j:=by
   rw[seqIndex_neg (by lia) C]at h1
   rw[JA,<- E];exact JE h1
  exact subscriptTail_builtinR (x:=w) c.isList.typeIs slot_list_getitem.lookup
   (wpAny_getItem_list_neg (Q:=λr s'=>r=w/\EP X tx σ Q r s') c.isList (by lia) (by rw[JA]<;>lia) (by lia) (by rw[f];simpa using n) #[Z,a]) m
theorem qQ:RS X (BO X.K):=by
 intro value a tx s σ H x y v u Q I g o h A;obtain⟨p,xs,i,z,rfl,rfl,f,n,q⟩:=h;cases g;obtain⟨t,rfl⟩:=o;obtain⟨B,r,e,E⟩:=I.tuple f;obtain⟨j,h1,l,J,F,D⟩:=uH n;obtain⟨w,C,d⟩:=r.get l;have m:=r.length;have G:=bo;have c:EP X tx σ Q w s:=#[z,H,I,d,q]
 exact subscriptTail_builtinR (x:=w) e.typeIs slot_tuple_getitem.lookup
  (getItem_tuple (j:=j) (Q:=λr s'=>r=w/\EP X tx σ Q r s') e (by lia) (by lia) (by rw[JA,<- m];exact h1) (by simpa using C) #[Z,c]) A
theorem vE(its:Ζ)(n j:Nat)(u:Γ):Obj.mapSeq (·.setIfInBounds j u) {cls:= .type "list",data:= .seq its.toArray n}={cls:= .type "list",data:= .seq (its.set j u).toArray n}:=by
 simp [Obj.mapSeq]
theorem MQ.lst{tx:ML}{σ:St}{H:Hp}{s:Θ}{p:Δ}{xs:Β}(I:MQ X tx σ H s)(h:H p=↑(.lst xs)):
  ∃(its:Ζ) (n:Nat),MU xs its/\s.heap.get? p=some {cls:= .type "list",data:= .seq its.toArray n}/\xs.length<=ζ:=by
 obtain⟨z,its,n,r,e⟩:=I.hok p _ h
 exact#[its,n,r,e,z]
theorem MQ.lstUpd{tx:ML}{σ:St}{H:Hp}{s:Θ}{p:Δ}{xs ys:Β}{its its':Ζ}{n a:Nat}{f:Obj->Obj}(I:MQ X tx σ H s)(h:H p=↑(.lst xs))
  (ho:s.heap.get? p=some {cls:= .type "list",data:= .seq its.toArray n})(hf:f {cls:= .type "list",data:= .seq its.toArray n}={cls:= .type "list",data:= .seq its'.toArray a})(r:MU ys its')(d:ys.length<=ζ)(t:Nat):
  MQ X tx σ (MO H p (.lst ys)) {s with heap:=s.heap.update p f,toks:=t}:=by
 have e:(s.heap.update p f).get? p=some {cls:= .type "list",data:= .seq its'.toArray a}:=by
  rw[ID f ho (by rw[hf]<;>rfl),hf]
 refine I.write (x:=p) (e:=p) (by rw[h];trivial) (.inl Z) (λb u c q=>(Iy _ _ (Ne.symm c)).trans q) #[_,e] ?_
 exact#[d,its',a,r,e]
inductive Sj (o:V) (i:V) (v:V) (H:Hp) (Q:Hp->Prop):Prop
 |mk (p:_) (xs:_) (k:_) (j:_) (h1:o= .ref p) (h2:i= .int k) (h3:H p=↑(.lst xs)) (h4:bA xs.length k=↑j) (h5:Q (MO H p (.lst (xs.set j v))))
def Gu:V->V->V->Hp->(Hp->Prop)->Prop:=λo i v H Q=>Sj o i v H Q
theorem QV:sj X Gu:=by
 intro tx s σ H o i v E C u Q I x y z h;obtain⟨p,xs,k,j,rfl,rfl,l,w,q⟩:=h;cases x;obtain⟨t,rfl⟩:=y;obtain⟨a,n,r,d,A⟩:=I.lst l;obtain⟨h1,B,f,e⟩:=uh w;have c:=r.length;have D:=bo;have g:MQ X tx σ (MO H p (.lst (xs.set j v))) {s with heap:=s.heap.update p (Obj.mapSeq (·.setIfInBounds j u))}:=
  I.lstUpd l d (vE a n j u) (r.set z j) (by rw[IE];exact A) s.toks
 by_cases m:0<=k
 ·have hk:k.toNat=j:=by
   rw[seqIndex_of m e]at h1;exact JE h1
  exact W.ki_setAt d m (by lia) (by rw[JA,<- c];exact e) (by rw[hk];exact#[_,g,q])
 ·have hk:(k+(a.toArray.size:Int)).toNat=j:=by
   rw[seqIndex_neg (by lia) f]at h1
   rw[JA,<- c];exact JE h1
  exact W.ki_setBack d (by lia) (by rw[JA,<- c];exact f) (by lia) (by rw[hk];exact#[_,g,q])
theorem pA(lo hi:Κ)(n:Nat):(sliceBounds lo hi none n).1=((HT.sIx n 0 lo:Nat):Int)/\(sliceBounds lo hi none n).2.1=((HT.sIx n n hi:Nat):Int)/\(sliceBounds lo hi none n).2.2=1:=by
 refine#[?_,?_,Z]
 ·cases lo with
  |none=>simp [sliceBounds,HT.sIx]
  |some i=>
   simp only[sliceBounds,HT.sIx,Option.getD_none,show(1:Int)>0 by decide,Il]
   by_cases h:i<0
   ·simp only[h,Il]<;>lia
   ·simp only[h,Lk]<;>lia
 ·cases hi with
  |none=>simp [sliceBounds,HT.sIx]
  |some i=>
   simp only[sliceBounds,HT.sIx,Option.getD_none,show(1:Int)>0 by decide,Il]
   by_cases h:i<0
   ·simp only[h,Il]<;>lia
   ·simp only[h,Lk]<;>lia
theorem oF(its:Ζ)(lo hi:Κ):slicePick its.toArray lo hi none=((its.drop (HT.sIx its.length 0 lo)).take (HT.sIx its.length its.length hi-HT.sIx its.length 0 lo)).toArray:=by
 obtain⟨h1,a,c⟩:=pA lo hi its.toArray.size;unfold slicePick;rw[h1,a,c];simp only[sliceRange_one,pick_run,JA]<;>rfl
inductive SC (K:ι) (x:V) (lo:Κ) (hi:Κ) (H:Hp) (Q:VK):Prop
 |mk (a:_) (xs:_) (h1:x= .ref a) (h2:MV K H a xs) (h3:∀p,H p=none->Q (.ref p) (MO H p (.lst (bH xs lo hi))))
def Hj(K:ι):V->Κ->Κ->Hp->VK->Prop:=λx lo hi H Q=>SC K x lo hi H Q
theorem DK:wH X (Hj X.K):=by
 intro tx s σ H x v n u lo hi p Q I m f e g h;obtain⟨a,xs,rfl,j,q⟩:=h;cases m;obtain⟨i,r,d,l⟩:=I.list j;have c:=r.length;refine#["list",_,slot_list_getitem.lookup,d.isList.typeIs,?_]
 refine wpAny_getItem_list_slice d.isList f e g .none (by simp) ?_ (by rw[JA]<;>lia)
 rw[oF,<- c];refine#[.ref s.heap.objs.size,_,I.laid (t':=s.toks) (o:= .lst (bH xs lo hi)) (λb t q=>Jj _ q) (Je _) ?_,Z,q _ (I.hok.fresh (Je _))]
 exact#[JH (i6 xs lo hi) l,_,0,(r.drop (HT.sIx xs.length 0 lo)).take (HT.sIx xs.length xs.length hi-HT.sIx xs.length 0 lo),Jw _ Z]
def bJ:V->Bool
 | .non=>true
 | .bl _=>true
 | .int _=>true
 | .str _=>true
 |_=>false
def di:V->V->Bool
 | .non,.non=>true
 | .bl a,.bl b=>a==b
 | .bl a,.int b=>(if a then 1 else 0)==b
 | .int a,.bl b=>a==(if b then 1 else 0)
 | .int a,.int b=>a==b
 | .str a,.str b=>a==b
 |_,_=>false
theorem E6{A:Around}{s:Θ}{y x:V}{u v:Γ}(f:MT y u)(c:MT x v)(g:bJ y=true)(e:bJ x=true):SeqAt.EqAt A s u v (di y x):=by
 cases y with
 |non=>
  cases f;cases x with
  |non=>cases c;exact SeqAt.EqAt.same _
  |bl b=>cases c;exact SeqAt.EqAt.none_bool b
  |int b=>obtain⟨t,rfl⟩:=c;exact SeqAt.EqAt.none_int b t
  |str b=>obtain⟨t,rfl⟩:=c;exact SeqAt.EqAt.none_str b t
  |_=>exact absurd (show false=true from e) JG
 |bl a=>
  cases f;cases x with
  |non=>cases c;exact SeqAt.EqAt.bool_none a
  |bl b=>cases c;exact SeqAt.EqAt.bool_bool a b
  |int b=>obtain⟨t,rfl⟩:=c;exact SeqAt.EqAt.bool_int a b t
  |str b=>obtain⟨t,rfl⟩:=c;exact SeqAt.EqAt.bool_str a b t
  |_=>exact absurd (show false=true from e) JG
 |int a=>
  obtain⟨d,rfl⟩:=f;cases x with
  |non=>cases c;exact SeqAt.EqAt.int_none a d
  |bl b=>cases c;exact SeqAt.EqAt.int_bool a d b
  |int b=>obtain⟨t,rfl⟩:=c;exact SeqAt.EqAt.int_int a d b t
  |str b=>obtain⟨t,rfl⟩:=c;exact SeqAt.EqAt.int_str a d b t
  |_=>exact absurd (show false=true from e) JG
 |str a=>
  obtain⟨d,rfl⟩:=f;cases x with
  |non=>cases c;exact SeqAt.EqAt.str_none a d
  |bl b=>cases c;exact SeqAt.EqAt.str_bool a d b
  |int b=>obtain⟨t,rfl⟩:=c;exact SeqAt.EqAt.str_int a d b t
  |str b=>obtain⟨t,rfl⟩:=c;exact SeqAt.EqAt.str_str a d b t
  |_=>exact absurd (show false=true from e) JG
 |_=>exact absurd (show false=true from g) JG
def k9(x:V)(u:Γ):Bool:=match u with
 | .none=>di .non x
 | .bool b=>di (.bl b) x
 | .int i _=>di (.int i) x
 | .str z _=>di (.str z) x
 |_=>false
theorem yg{x y:V}{u:Γ}(r:MT y u)(f:bJ y=true):k9 x u=di y x:=by
 cases y with
 |non=>cases r;rfl
 |bl b=>cases r;rfl
 |int i=>obtain⟨t,rfl⟩:=r;rfl
 |str z=>obtain⟨t,rfl⟩:=r;rfl
 |_=>exact absurd (show false=true from f) JG
theorem lO{x:V}:∀{xs:Β} {us:Ζ},MU xs us->xs.all bJ=true->us.any (k9 x)=xs.any λy=>di y x
 |_,_,.nil,_=>rfl
 |y::xs,u::us,.cons r t,f=>by
  rw[List.all_cons,JU]at f;rw[Ll,Ll,yg r f.1,lO t f.2]
theorem jp{A:Around}{s:Θ}{x:V}{v:Γ}(d:MT x v)(c:bJ x=true):∀{xs:Β} {us:Ζ},MU xs us->xs.all bJ=true->∀u∈us,SeqAt.EqAt A s u v (k9 x u)
 |_,_,.nil,_=>λu a=>by cases a
 |y::xs,u::us,.cons r t,f=>λe a=>by
  rw[List.all_cons,JU]at f;rcases Ji.mp a with rfl|a
  ·rw[yg r f.1];exact E6 r d f.1 c
  ·exact jp d c t f.2 e a
def CO(x:V)(xs:Β):Bool:=xs.any λy=>di y x
inductive SX (K:ι) (neg:Bool) (x:V) (y:V) (H:Hp) (Q:VK):Prop
 |mk (p:_) (xs:_) (h1:y= .ref p) (h2:(MV K H p xs\/MW K H p xs)) (h3:bJ x=true) (h4:xs.all bJ=true) (h5:Q (.bl (if neg then ! CO x xs else CO x xs)) H)
def HJ(K:ι)(a:Bool):R2:=λx y H Q=>SX K a x y H Q
theorem bg:zT X (compareOp .In) (HJ X.K false):=by
 intro tx s σ H x y v u Q I g i h;obtain⟨p,xs,rfl,c,f,fs,q⟩:=h;cases i;rcases c with c|c
 ·obtain⟨a,r,e,j⟩:=I.list c
  refine SeqAt.in_listAt (k9 x) e.isList (λw d=>jp g f r fs w (by simpa using d)) #[.bl _,H,I,Z,?_]
  rw[show a.toArray.any (k9 x)=a.any (k9 x) by simp,lO r fs]
  exact q
 ·obtain⟨a,r,e,j⟩:=I.tuple c
  refine SeqAt.in_tupleAt (k9 x) e (λw d=>jp g f r fs w (by simpa using d)) #[.bl _,H,I,Z,?_]
  rw[show a.toArray.any (k9 x)=a.any (k9 x) by simp,lO r fs]
  exact q
theorem qS:zx X (.builtin "len") (λxs H Q=>∃p ys,xs=[.ref p]/\(MV X.K H p ys\/MW X.K H p ys)/\Q (.int ys.length) H):=by
 intro tx s σ H xs j Q I r h;obtain⟨p,ys,rfl,c,q⟩:=h;obtain⟨u,rfl,i⟩:=Qz r;cases i;have l:=bo;rcases c with c|c
 ·obtain⟨e,f,d,g⟩:=I.list c
  have a:=f.length;exact Calls.call_len_list d.isList (by simp only[JA]<;>lia) #[.int ys.length,H,I.tok _,#[s.toks+1,by rw[JA,a]],q]
 ·obtain⟨e,f,d,g⟩:=I.tuple c
  have a:=f.length;exact len_tuple d (by simp only[JA]<;>lia) #[.int ys.length,H,I.tok _,#[s.toks+1,by rw[JA,a]],q]
theorem pV:zx X (.builtin "len") (λxs H Q=>∃z,xs=[.str z]/\z.length<=ζ/\Q (.int z.length) H):=by
 intro tx s σ H xs c Q I r h;obtain⟨z,rfl,d,q⟩:=h;obtain⟨u,rfl,t,rfl⟩:=Qz r;have a:=bo;exact len_str (by lia) #[.int z.length,H,I.tok _,#[_,Z],q]
theorem QF:zx X (.type "list") (λxs H Q=>∃p ys,xs=[.ref p]/\(MV X.K H p ys\/MW X.K H p ys)/\∀l,H l=none->Q (.ref l) (MO H l (.lst ys))):=by
 intro tx s σ H xs y Q I r h;obtain⟨p,ys,rfl,i,q⟩:=h;obtain⟨u,rfl,x⟩:=Qz r;cases x;have f:∀(a:Ζ),MU ys a->ys.length<=ζ->∀(h':Ψ) (c':Nat),(∀b o',s.heap.get? b=↑o'->h'.get? b=↑o')->
   h'.get? s.heap.objs.size=some {cls:= .type "list",dict:=none,data:= .seq a.toArray c',slots:= (List.toArray [])}->EP X tx σ Q (.ref s.heap.objs.size) {s with heap:=h'}:=λa c j h' c' d e=>
  #[.ref s.heap.objs.size,_,I.laid (t':=s.toks) d (Je _) (show M3 X.prog X.w _ h' _ (.lst ys)from#[j,a,c',c,e]),Z,q _ (I.hok.fresh (Je _))]
 rcases i with i|i
 ·obtain⟨a,c,t,j⟩:=I.list i
  have g:=c.length;obtain⟨o,w,m,n,v⟩:=t.isList;exact call_list_seq p (.inl Z) w m v (λh' c' d e=>f a c j h' c' d e) (by simp only[JA]<;>lia)
 ·obtain⟨a,c,t,j⟩:=I.tuple i
  have g:=c.length;obtain⟨o,w,m,n,v⟩:=t;exact call_list_seq p (.inr Z) w m v (λh' c' d e=>f a c j h' c' d e) (by simp only[JA]<;>lia)
theorem qZ:zx X (.type "tuple") (λxs H Q=>∃p ys,xs=[.ref p]/\((MV X.K H p ys/\∀l,H l=none->Q (.ref l) (MO H l (.tup ys)))\/(MW X.K H p ys/\Q (.ref p) H))):=by
 intro tx s σ H xs v Q I r h;obtain⟨p,ys,rfl,h⟩:=h;obtain⟨u,rfl,t⟩:=Qz r;cases t;rcases h with⟨d,q⟩|⟨d,q⟩
 ·obtain⟨a,f,c,j⟩:=I.list d
  have i:=f.length;refine call_tuple_list c.isList (λh' n=>?_) (by simp only[JA]<;>lia)
  have g:MQ X tx σ H {s with heap:=h'}:=I.kept (t':=s.toks) n
  have m:MQ X tx σ (MO H h'.objs.size (.tup ys)) {s with heap:=h'.push {cls:= .type "tuple",data:= .seq a.toArray}}:=
   g.laid (t':=s.toks) (λb o e=>Jj _ e) (Je _) (show M3 X.prog X.w _ _ _ (.tup ys)from#[j,a,f,IsTup.new _ _])
  exact#[.ref h'.objs.size,_,m,Z,q _ (g.hok.fresh (Je _))]
 ·obtain⟨a,f,c,j⟩:=I.tuple d
  exact call_tuple_same c #[.ref p,H,I,Z,q]
def Fk(K:ι)(T:String)(x:V)(H:Hp):Prop:=match x with
 | .str _=>T="str"
 | .int _=>T="int"
 | .ref p=>(T="list"/\∃xs,MV K H p xs)\/(T="tuple"/\∃o,K.lookup p=↑o/\o.cls= .type "tuple"/\o.dict=none)\/
   (T="dict"/\((∃kvs,H p=↑(.dK kvs))\/∃kvs,H p=↑(.dT kvs)))\/(T="set"/\∃S n,H p=↑(.set S n))
 |_=>False
theorem wy{tx:ML}{σ:St}{H:Hp}{s:Θ}{T:String}{x:V}{v:Γ}(I:MQ X tx σ H s)(r:MT x v)(ty:Fk X.K T x H):
  s.TypeIs v T/\∀a,v= .ref a->∃h,s.heap.get? a=↑h/\h.dict=none:=by
 cases x with
 |str z=>
  obtain⟨t,rfl⟩:=r
  cases(show T="str" from ty)
  exact#[typeIs_str s z t,λ_ e=>nomatch e]
 |int i=>
  obtain⟨t,rfl⟩:=r
  cases(show T="int" from ty)
  exact#[typeIs_int s i t,λ_ e=>nomatch e]
 |ref p=>
  cases r;rcases ty with⟨rfl,xs,m⟩|⟨rfl,o,hk,j,d⟩|⟨rfl,hk⟩|⟨rfl,S,n,hk⟩
  ·obtain⟨l,_,g,_⟩:=I.list m
   refine#[g.isList.typeIs,λa e=>?_]
   cases e;obtain⟨o,n,e,c,d,_⟩:=g
   exact#[o,e,d]
  ·refine#[#[o,I.kIn p o hk,j],λa e=>?_]
   cases e
   exact#[o,I.kIn _ o hk,d]
  ·have z:∃o,s.heap.get? p=↑o/\o.ExactDict:=by
    rcases hk with⟨kvs,hk⟩|⟨kvs,hk⟩
    ·obtain⟨_,_,_,_,o,_,_,e,ex,_⟩:=I.hok p _ hk
     exact#[o,e,ex]
    ·obtain⟨_,_,_,_,o,_,_,e,ex,_⟩:=I.hok p _ hk
     exact#[o,e,ex]
   obtain⟨o,e,ex⟩:=z;refine#[#[o,e,ex.1],λa f=>?_]
   cases f
   exact#[o,e,ex.2.1]
  ·obtain⟨o,_,_,_,e,ex,_⟩:=I.hok p _ hk
   refine#[#[o,e,ex.1],λa f=>?_]
   cases f
   exact#[o,e,ex.2.1]
 |_=>exact False.elim ty
def Ev(K:ι)(T:String)(r:V->Β->Hp->VK->Prop)(to:TE):TE:=λσ H Q=>to σ H λx H1=>Fk K T x H1/\r x [] H1 Q
def GM(K:ι)(T:String)(r:V->Β->Hp->VK->Prop)(to:TE)(t:TA):TE:=λσ H Q=>to σ H λx H1=>Fk K T x H1/\t σ H1 λxs a=>r x xs a Q
variable{o e:Φ}{es:Ι}{to:TE}{t:TA}{name:Str}{apos cpos:Pos}{T id:String}{r:V->Β->Hp->VK->Prop}
theorem E9(n:PlainAttrs T)(d:Slot T name id)(e:typeOf (.builtin id)=pure (.type "method_descriptor"))(hm:je X id r)(ho:PE X o to)
  (c:attributeBase o name X.env (eval o X.env)=eval o X.env:=by rfl)(a:(apos.endLine==cpos.line)=true:=by rfl):PE X (.Call (.Attribute o name apos) [] [] cpos) (Ev X.K T r to):=by
 intro tx s σ H Q I h;refine wpAny_Call_method0_late c a (qF (ho tx s σ H _ I h) λv j l=>?_)
 obtain⟨x,H1,f,g,ty,m⟩:=l;obtain⟨h1,i⟩:=wy f g ty
 exact#[T,id,n,d,e,h1,i,Ma Z (PySem.evalArgs_none (hm tx j σ H1 x [] v [] Q f g .nil m))]
theorem Ge(y:PlainAttrs T)(f:Slot T name id)(i:typeOf (.builtin id)=pure (.type "method_descriptor"))(hm:je X id r)(ho:PE X o to)(ha:PA X (e::es) t)
  (c:attributeBase o name X.env (eval o X.env)=eval o X.env:=by rfl)
  (g:((backTo cpos (θ (e::es) X.env)).all (λx=> ! x.1)&&(backToKw cpos (keywordEach [] X.env)).all (λx=>x.1.isSome)
   &&decide ((e::es).length+([]:Χ).length+(if([]:Χ).isEmpty then 0 else 1)<30))=true:=by rfl)
  (d:(apos.endLine==cpos.line)=true:=by rfl)(hs:θ (e::es) X.env=(false,eval e X.env)::θ es X.env:=by rfl)(a:(backTo cpos (θ es X.env)).any (·.1)=false:=by rfl):
  PE X (.Call (.Attribute o name apos) (e::es) [] cpos) (GM X.K T r to t):=by
 intro tx s σ H Q I h;refine wpAny_Call_method_late c g d Z (qF (ho tx s σ H _ I h) λv p q=>?_)
 obtain⟨x,H1,m,l,ty,C⟩:=q;obtain⟨h1,w⟩:=wy m l ty;refine#[T,id,y,f,i,h1,w,?_]
 have j:=ha cpos tx p σ H1 _ m C;rw[hs]at j⊢;refine Ma (by show(false||(backTo cpos (θ es X.env)).any (·.1))=false;rw[a]<;>rfl) (Mb ?_)
 exact qF j λn D ⟨u,E,B,z,A⟩=>hm tx D σ E x u v n Q B l z A
end
def GO(X:Cx)(id:String)(r:V->Β->Hp->VK->Prop):Prop:=
 ∀(tx:ML) (s:Θ) (σ:St) (H:Hp) (x:V) (xs:Β) (v:Γ) (a:Ζ) (Q:VK),MQ X tx σ H s->MT x v->MU xs a->r x xs H Q->
  ε (model X.prog X.w) X.A (call (.builtin id) (v::a)) (EP X tx σ Q) X.xe s
theorem MU.one:∀{x:V} {us:Ζ},MU [x] us->∃u,us=[u]/\MT x u
 :=by
 intro x us h;cases h with
 |cons r q=>cases q;exact#[_,Z,r]
theorem MU.two:∀{x y:V} {us:Ζ},MU [x,y] us->∃u v,us=[u,v]/\MT x u/\MT y v
 :=by
 intro x y us h;cases h with
 |cons r q=>cases q with
  |cons q z=>cases z;exact#[_,_,Z,r,q]
theorem MU.zero:∀{us:Ζ},MU [] us->us=[]
 |_,.nil=>rfl
theorem MU.reverse{xs:Β}{us:Ζ}(h:MU xs us):MU xs.reverse us.reverse:=by
 induction h with
 |nil=>exact .nil
 |cons r t ih=>rw[List.reverse_cons,List.reverse_cons];exact MU.append ih (.cons r .nil)
theorem MU.rep{xs:Β}{us:Ζ}(h:MU xs us):∀k:Nat,MU (List.replicate k xs).flatten (List.replicate k us).flatten
 |0=> .nil
 |k+1=>by
  rw[LF,LF,Mc,Mc];exact MU.append h (MU.rep h k)
theorem og(its:Ζ):∀(k:Nat) (a:Ζ),
  List.foldl (λc d=>c++d) a.toArray (List.replicate k its.toArray)=(a++(List.replicate k its).flatten).toArray
 |0,a=>by simp
 |k+1,a=>by
  have e:a.toArray++its.toArray=(a++its).toArray:=by simp
  have f:(a++its)++(List.replicate k its).flatten=a++(List.replicate (k+1) its).flatten:=by
   rw[LF,Mc,Md]
  rw[<- f,<- og its k (a++its),<- e,LF,List.foldl_cons]
section
variable{X:Cx}{tx:ML}{σ:St}{H:Hp}{s:Θ}{l:Δ}{xs ys:Β}
theorem MQ.lset{its its':Ζ}{n:Nat}{f:Array Γ->Array Γ}{t':Nat}(I:MQ X tx σ H s)(a:H l=↑(.lst xs))
  (e:s.heap.get? l=some {cls:= .type "list",data:= .seq its.toArray n})(hf:f its.toArray=its'.toArray)(hv:MU ys its')(g:ys.length<=ζ):
  MQ X tx σ (MO H l (.lst ys)) {s with heap:=s.heap.update l (Obj.mapSeq f),toks:=t'}:=by
 have q:=PySem.IsL.update e f;rw[hf]at q;refine I.write (x:=l) (e:=l) (by rw[a];exact trivial) (.inl Z) (λb' u d c=>(Iy s.heap (Obj.mapSeq f) (Ne.symm d)).trans c) #[_,q] ?_
 exact#[g,its',_,hv,q]
theorem MQ.lnew{its:Ζ}{t':Nat}(I:MQ X tx σ H s)(hv:MU ys its)(a:ys.length<=ζ):
  MQ X tx σ (MO H s.heap.objs.size (.lst ys)) {s with heap:=s.heap.push {cls:= .type "list",data:= .seq its.toArray},toks:=t'}:=
 I.laid (λ_ _ q=>Jj _ q) (Je _) #[a,its,0,hv,Jw _ Z]
theorem MQ.fresh(I:MQ X tx σ H s):H s.heap.objs.size=none:=I.hok.fresh (Je _)
theorem MQ.lstM(I:MQ X tx σ H s)(a:H l=↑(.lst xs)):xs.length<=ζ/\∃(its:Ζ) (n:Nat),MU xs its/\xs.length=its.length/\s.heap.get? l=some {cls:= .type "list",data:= .seq its.toArray n}:=by
 obtain⟨z,its,n,r,e⟩:=I.hok l _ a
 exact#[z,its,n,r,r.length,e]
theorem AQ{n:Nat}(h:n<=ζ):γ.List.listTooLong n=false:=by
 unfold γ.List.listTooLong;exact Jq (by lia)
end
section
variable{X:Cx}
inductive Re (x:V) (vs:Β) (H:Hp) (Q:VK):Prop
 |mk (l:_) (xs:_) (y:_) (h1:x= .ref l) (h2:vs=[y]) (h3:H l=↑(.lst xs)) (h4:xs.length<ζ) (h5:Q .non (MO H l (.lst (xs++[y]))))
def uI:V->Β->Hp->VK->Prop:=λx a H Q=>Re x a H Q
theorem w9:GO X "list.append" uI:=by
 intro tx s σ H x i v j Q I g d h;obtain⟨l,xs,y,rfl,rfl,c,o,q⟩:=h;cases g;obtain⟨u,rfl,f⟩:=d.one;obtain⟨z,a,n,r,m,e⟩:=I.lstM c;refine IF F.slot_list_append #[_,e,Z] F.entry_list_append (F.args_list_append_2 _ _) (PySem.list_append l a.toArray n u (by rw[JA];lia)) #[e,?_]
 refine#[.non,_,I.lset (its':=a++[u]) c e (by simp) (r.append (.cons f .nil)) ?_,Z,q]
 rw[Jo,Me];lia
inductive PB (x:V) (vs:Β) (H:Hp) (Q:VK):Prop
 |mk (l:_) (xs:_) (h1:x= .ref l) (h2:vs=[]) (h3:H l=↑(.lst xs)) (h4:Q .non (MO H l (.lst xs.reverse)))
def rn:V->Β->Hp->VK->Prop:=λx a H Q=>PB x a H Q
theorem vJ:GO X "list.reverse" rn:=by
 intro tx s σ H x i v j Q I g f h;obtain⟨l,xs,rfl,rfl,d,q⟩:=h;cases g;have c:=f.zero;subst c;obtain⟨z,a,n,r,m,e⟩:=I.lstM d;refine IF F.slot_list_reverse #[_,e,Z] F.entry_list_reverse (F.args_list_reverse_1 _) (AutoSeq1.list_reverse_list_0 l a.toArray n (by rw[JA];lia)) #[e,?_]
 refine#[.non,_,I.lset (its':=a.reverse) d e (by simp) r.reverse ?_,Z,q]
 rw[List.length_reverse];lia
inductive SD (x:V) (y:V) (H:Hp) (Q:VK):Prop
 |mk (l:_) (b:_) (xs:_) (zs:_) (h1:x= .ref l) (h2:y= .ref b) (h3:H l=↑(.lst xs)) (h4:H b=↑(.lst zs)) (h5:xs.length+zs.length<=ζ) (h6:∀p,H p=none->Q (.ref p) (MO H p (.lst (xs++zs))))
def GU:R2:=λx y H Q=>SD x y H Q
theorem lr:zT X (binaryOp .Add) GU:=by
 intro tx s σ H x y v u Q I o j h;obtain⟨l,b,xs,t,rfl,rfl,f,i,B,q⟩:=h;cases o;cases j;obtain⟨z,c,n,r,w,e⟩:=I.lstM f;obtain⟨A,a,n2,m,d,p⟩:=I.lstM i;refine PySem.P.add_list e p ?_ (by rw[JA,JA];lia)
 have g:c.toArray++a.toArray=(c++a).toArray:=by simp
 rw[g]
 exact#[.ref _,_,I.lnew (t':=s.toks) (r.append m) (by rw[Jo];lia),Z,q _ I.fresh]
inductive SE (x:V) (y:V) (H:Hp) (Q:VK):Prop
 |mk (l:_) (k:_) (xs:_) (h1:x= .ref l) (h2:y= .int k) (h3:H l=↑(.lst xs)) (h4: -(2 ^ 63)<=k) (h5:k<2 ^ 63) (h6:xs.length*k.toNat<=ζ) (h7:∀p,H p=none->Q (.ref p) (MO H p (.lst (List.replicate k.toNat xs).flatten)))
def HA:R2:=λx y H Q=>SE x y H Q
theorem DG{α:Type}(xs:List α)(k:Nat):(List.replicate k xs).flatten.length=k*xs.length:=by
 induction k with
 |zero=>simp
 |succ k ih=>rw[LF,Mc,Jo,ih,Nat.succ_mul,Nat.add_comm]
theorem iq:zT X (binaryOp .Mult) HA:=by
 intro tx s σ H x y v u Q I G D h;obtain⟨l,k,xs,rfl,rfl,B,h1,A,w,q⟩:=h;cases G;obtain⟨t,rfl⟩:=D;obtain⟨z,c,n,r,C,e⟩:=I.lstM B;have i:c.toArray.size*k.toNat<=ζ:=by rw[JA,<- C];exact w
 have f:¬c.toArray.size*k.toNat>(2 ^ 63-1)/8:=by
  have:(ζ:Nat)<=(2 ^ 63-1)/8:=by decide
  lia
 have j:¬(!γ.List.listFitsIndex k)=true:=by
  rw[fitsIndex_both h1 A];exact JG
 have d:¬γ.List.listTooLong (c.toArray.size*k.toNat)=true:=by
  rw[AQ i];exact JG
 have g:List.foldl (λo p=>o++p) (List.toArray []) (List.replicate (if c.toArray.isEmpty=true then 0 else k.toNat) c.toArray)=(List.replicate k.toNat c).flatten.toArray:=by
  have E:∀m:Nat,List.foldl (λo p=>o++p) (List.toArray []) (List.replicate m c.toArray)=(List.replicate m c).flatten.toArray:=λm=>by
   have:=og c m []
   rw[Mg]at this;exact this
  rw[E];cases c with
  |nil=>simp
  |cons a r'=>rw[Jc (by simp)]
 refine wpAny_binaryOp_repeat_ref (T:="list") (U:="int") ⋯ #[_,e,Z] (λs'=>typeIs_int s' k t) noFill_list_mul F.fills_int_mul F.slot_int_rmul repeat_list F.slot_int_index.lookup
  (IF F.slot_int_rmul (typeIs_int s k t) F.entry_int_rmul (F.args_int_rmul_2 _ _) (int___rmul___int_list k t l c.toArray n)
   #[e,Z,#[_,e,Z],IF F.slot_list_mul #[_,e,Z] F.entry_list_mul (F.args_list_mul_2 _ _) (AutoListH.list___mul___list_int_3 l c.toArray n k t j f d) #[e,?_]])
 rw[g]
 exact#[.ref _,_,I.lnew (t':=s.toks) (r.rep k.toNat) (by rw[DG,Nat.mul_comm];exact w),Z,q _ I.fresh]
end
end L2
namespace Att
open PySem PySem.W PySem.Calls PyProof.Rows
theorem kz{P:Params}{h:Ψ}:∀(ns:Ε) (vs:Ζ),WellAll P h vs (ns.map WData.int)->IntsAre vs ns:=by
 intro ns
 induction ns with
 |nil=>
  intro vs w;rw[L9]at w;cases w;exact .nil
 |cons n ns ih=>
  intro vs w;rw[JR]at w;cases w with
  |cons a b=>
   cases a;exact .cons _ _ (ih _ b)
theorem xp{l:OpenLaw}{n:Nat}(hn:l.most=↑n){P:Params}{h:Ψ}{args:List WData}{f:Ζ}
  (e:l.row.toRowW.claim.pre args=true)(o:WellAll P h f args):
  ∃a s c,f=[Γ.ref a]/\args=[WData.list (c.map WData.int)]/\h.get? a=some {cls:= .type "list",data:= .seq s.toArray}/\IntsAre s c/\c.length<=n:=by
 have m:WShape.hasAll [] args [.list .int]=true:=(pre_splitW e).1
 have p:l.pre.holds [] {args:=args}=true:=(pre_splitW e).2
 obtain⟨d,r,rfl,h1,t⟩:=hasAllW_cons m
 obtain rfl:=hasAllW_nil t
 obtain⟨xs,rfl,v⟩:=hasW_list h1;obtain⟨c,rfl⟩:=items_int v;have g:c.length<=n:=by
  unfold OpenLaw.pre at p;have i:(WTm.not (.lt (.lit (.int (n:Int))) (.len (.arg 0)))).holds [] {args:=[.list (c.map .int)]}=true:=by
   have i:=(holds_andW p).1;rw[hn]at i;exact i
  have j:=condW_of i (w_not (w_lt w_lit (w_len_list (w_arg Z))));rw[Jb]at j;refine Nat.le_of_not_lt λq=>?_
  have u:(n:Int)<((c.length:Nat):Int):=by lia
  first
   |(rw[Jf u]at j;exact absurd j ⋯)
   |(simp at j;lia)
 cases o with
 |cons w1 w2=>
  cases w2;cases w1 with
  |list ho hall=>exact#[_,_,c,Z,Z,ho,kz c _ hall,g]
theorem wY(l:OpenLaw)(args:List WData):l.row.toRowW.claim.post args (.bool true) args=true:=
 postW_of (r:=l.row.toRowW) (X:=(true==true))
  (show WShape.has [] (.bool true) .bool=true by first|rfl|decide|simp [WShape.has,WShape.arms,WShape.armsAll])
  (show(WTm.eq .res (.lit (.bool true))).value [] {args:=args,res:=↑(.bool true),after:=args}=↑(.bool (true==true))from w_eq_bool (w_res Z) w_lit) Z
theorem attach_call{l:OpenLaw}{n:Nat}{q:Ξ}{g:Α}{D:(Str->Ν)->Ψ->Prop}{C:Ω->Ψ->Prop}{d:DefRec}
  (hn:l.most=↑n)(t:d.params.defaults=[])
  (call:∀(w:Ω) (e c:Θ) (mg x:MK) (i:Δ) (o:Obj) (pm s doc:Γ) (a:Δ) (vs:Ζ) (ns:Ε),
   Ground q g [] D w e mg x c.heap->C w c.heap->
   c.heap.get? i=↑o->o.data= .func (docDef d.name d.params d.body d.scope pm s doc)->c.heap.CodeRec s d.name->mg d.name=↑(.ref i)->
   c.heap.get? a=some {cls:= .type "list",data:= .seq vs.toArray}->IntsAre vs ns->ns.length<=n->c.gens= (List.toArray [])->
   codeAny (model l.prog w) callerA (.call (.ref i) #[[.ref a],[]]) (λr s'=>r= .ok (.ret (.bool true))/\OldK c.heap s'.heap/\s'.os=c.os/\AllBare s'.gens) c):
  WalkO q g D C l.row.toRowW d [] (λf vs=>PySem.call f vs):=by
 intro w e c mg x G Y i o pm s doc M kV I P v A u F z E R m B J y O
 obtain rfl:M= .none:=Dflts.none A t
 obtain rfl:kV= .none:=Dflts.noKw A
 obtain⟨a,vs,ns,rfl,rfl,p,h,j⟩:=xp hn m y;refine enter_call (IQ (call w e c mg x i o pm s doc a vs ns G Y I (fd_plain P) v u p h j F) λr s' K=>?_)
 obtain⟨rfl,N,Q,L⟩:=K
 exact#[.inl #[.bool true,.bool true,[],Z,λ_=>rfl,.bool true,wY l _,λ_=>#[List.Pairwise.nil,λ_ H=>(nomatch H)]],N,Q,L]
end Att
namespace L2
open PySem PySem.Spec PyProof.Rows
theorem nK:∀{vs:Ζ} {ns:Ε},IntsAre vs ns->MU (ns.map V.int) vs
 |_,_,.nil=> .nil
 |_,_,.cons n t h=> .cons #[t,Z] (nK h)
def BS(H:Hp):Prop:=∀b,H b=none\/∃o xs,H b=↑(.frz o (.lst xs))
theorem AK{P:Ξ}{w:Ω}{K:ι}{mg M:MK}{CX:gn}{k:Nat}{I a:Δ}{fd:FuncData}{x:Str}{sp:Sp}{c:Θ}{vs:Ζ}{ns:Ε}
  (S:K.In c.heap)(D:c.heap.Ns η mg)(hb:c.heap.Ns builtinsNs M)(O:∀x:Str,x≠"__name__"->M x=bootBuiltins x)(y:c.heap.NoLimit)(hg:c.gens= (List.toArray []))
  (ha:c.heap.get? a=some {cls:= .type "list",data:= .seq vs.toArray})(hi:IntsAre vs ns)(hl:ns.length<=ζ)(hr:M9 k callerA)
  (F:∀base:Ψ,K.In base->base.Ns η mg->N9 P w K mg base CX k I fd [x] sp)(j:∀(s:Θ) (u:Γ),BindsTo s fd #[[u],[]] [(x,u)])
  (J:∀H:Hp,BS H->MV K H a (ns.map V.int)->sp [.ref a] H (λv _=>v= .bl true) λ_ _ _=>False)
  (G:∀H e s',CX [] H c (λ_ _ _=>False) e s'->False):
  codeAny (model P w) callerA (.call (.ref I) #[[.ref a],[]]) (λr s'=>r= .ok (.ret (.bool true))/\OldK c.heap s'.heap/\s'.os=c.os/\AllBare s'.gens) c:=by
 have U:=nK hi;have E:=hi.length;have i:∀H:Hp,BS H->MV K H a (ns.map V.int)->NS P w H c.heap->(∀b,H b≠none->b=a)->(H a≠none->K.lookup a=none)->
   codeAny (model P w) callerA (.call (.ref I) #[[.ref a],[]]) (λr s'=>r= .ok (.ret (.bool true))/\OldK c.heap s'.heap/\s'.os=c.os/\AllBare s'.gens) c:=by
  intro H R hS B T W;have f:∀{b:Δ} {o:Obj},c.heap.get? b=↑o->H b=none->(fz c.heap H).get? b=↑o:=λe n=>BA e n
  have L:∀{b:Δ} {o:Obj} {es:Array DictEntry} {p:Nat},c.heap.get? b=↑o->o.data= .dict es p->H b=none:=λ{b o es p} e d=>by
   cases q:H b with
   |none=>rfl
   |some u=>
    have N:b=a:=T b (by rw[q];simp)
    subst N;rw[ha]at e;cases e
    have d':Data.seq vs.toArray _=Data.dict es p:=d
    cases d'
  have g:∀{b:Δ} {m:MK},c.heap.Ns b m->(fz c.heap H).Ns b m:=λ{b m} ⟨o,es,p,e,d,r⟩=>#[o,es,p,f e (L e d),d,r]
  have A:K.In (fz c.heap H):=λb o e=>f (S b o e) (by
   cases q:H b with
   |none=>rfl
   |some u=>
    have N:b=a:=T b (by rw[q];simp)
    subst N;rw[W (by rw[q];simp)]at e;cases e)
  have hM:SU K mg (fz c.heap H):=#[A,g D,#[M,g hb,O],let⟨mc,h1,h2⟩:=y;#[mc,g h1,h2]]
  have e0:O7 P w K mg (fz c.heap H) callerA [] c H:=#[Z,hM,λb o e=>DF e,L4 (wI _ _),trivial,λb hb=>absurd (show b∈([]:Η)from hb) (by simp),B,.of_eq hg]
  refine IQ ((F _ A (g D)).run callerA [] c H #[[.ref a],[]] [.ref a] [.ref a] _ _ hr e0 (j c (.ref a)) (.cons Z .nil) (J H R hS)) λr s' h=>?_
  cases r with
  |error e=>exact(G H e s' h).elim
  |ok fl=>
   cases fl with
   |next=>exact False.elim h
   |brk=>exact False.elim h
   |cont=>exact False.elim h
   |ret u=>
    obtain⟨v,H',os,l,un,C,r',q⟩:=h;have q':v= .bl true:=q
    subst q'
    obtain rfl:u=Γ.bool true:=r'
    refine#[Z,OldK.of_keep λb o e=>?_,os,l]
    cases q:H b with
    |none=>exact un.keep b o e q (by intro z;exact absurd (show b∈([]:Η)from z) (by simp)) (by simp)
    |some u=>
     rcases R b with z|⟨ob,xs,z⟩
     ·rw[q]at z;cases z
     ·have X:=un.frzs b ob _ z
      obtain⟨Q,_⟩:=B b _ z;obtain⟨Y,_⟩:=C b _ X;rw[e]at Q;cases Q
      exact Y
 cases hk:K.lookup a with
 |some o=>
  have e:=S a o hk;rw[ha]at e;cases e;refine i (λ_=>none) (λ_=> .inl Z) (.inr #[_,vs.toArray,_,hk,Z,Z,Z,by rw[JA,E];exact hl,by simpa using U]) (λb u z=>by have t:(none:Option HO)=↑u:=z;cases t) (λb z=>absurd Z z) λz=>absurd Z z
 |none=>
  refine i (λb=>if b=a then ↑(.frz {cls:= .type "list",data:= .seq vs.toArray} (.lst (ns.map V.int)))else none) (λb=>?_) (.inl (.inr #[{cls:= .type "list",data:= .seq vs.toArray},Jd Z])) (λb u z=>?_) (λb z=>?_) λ_=>hk
  ·by_cases hb:b=a
   ·exact .inr #[_,_,Jd hb]
   ·exact .inl (Jc hb)
  ·by_cases hb:b=a
   ·have t:=(Jd hb).symm.trans z
    cases t;subst hb
    exact#[ha,by rw[Jb];exact hl,vs,_,U,ha]
   ·have t:=(Jc hb).symm.trans z
    cases t
  ·by_cases hb:b=a
   ·exact hb
   ·exact absurd (Jc hb) z
theorem C9{l:W.OpenLaw}{n k:Nat}{q:Ξ}{g:Α}{P:(Str->Ν)->Ψ->Prop}{D:Ω->Ψ->Prop}{d:DefRec}{K:Params->ι}{CX:Ω->gn}{sp:Ω->Sp}{x:Str}
  (hn:l.most=↑n)(A:n<=ζ)(t:d.params.defaults=[])(hr:M9 k callerA)
  (N:∀(w:Ω) (h:Ψ),D w h->(K w.params).In h)
  (F:∀(w:Ω) (mg:MK) (p:Δ) (h:Ψ),(K w.params).In h->h.Ns η mg->mg d.name=↑(.ref p)->
   ∃fd:FuncData,(∀(s:Θ) (u:Γ),BindsTo s fd #[[u],[]] [(x,u)])/\
    ∀base:Ψ,(K w.params).In base->base.Ns η mg->N9 l.prog w (K w.params) mg base (CX w) k p fd [x] (sp w))
  (y:∀(w:Ω) (H:Hp) (a:Δ) (ns:Ε),ns.length<=n->BS H->MV (K w.params) H a (ns.map V.int)->sp w [.ref a] H (λv _=>v= .bl true) λ_ _ _=>False)
  (r:∀(w:Ω) (H:Hp) (s:Θ) (e:Γ) (s':Θ),CX w [] H s (λ_ _ _=>False) e s'->False):
  W.WalkO q g P D l.row.toRowW d [] (λf E=>PySem.call f E):=by
 refine Att.attach_call hn t λw B m mg S p o pm R doc a E ns G Y Q T L z j i c I=>?_
 have C:=N w _ Y;obtain⟨fd,O,hF⟩:=F w mg p _ C G.T.g z;exact AK C G.T.g G.T.b G.T.builtins G.T.nolimit I j i (JH c A) hr hF O (λH J M=>y w H a ns c J M) λH e s'=>r w H m e s'
def qL(s:δ)(j:Nat):δ:=match s with
 | .ClassDef _ _ _ body _ _ _ _ _ _ _=>body.getD j (.Pass #[0,0,0,0])
 |_=> .Pass #[0,0,0,0]
def Q3(s:δ):Arguments:=match s with
 | .FunctionDef _ a _ _ _ _ _ _ _ _=>a
 |_=>{posonlyargs:=[],args:=[],vararg:=none,kwonlyargs:=[],kw_defaults:=[],kwarg:=none,defaults:=[]}
def zU(s:δ):List δ:=match s with
 | .FunctionDef _ _ b _ _ _ _ _ _ _=>b
 |_=>[]
def ql(s:δ):Scope:=match s with
 | .FunctionDef _ _ _ _ _ _ sc _ _ _=>sc
 |_=>{kind:= .function,names:=[],isGenerator:=false,isCoroutine:=false}
abbrev bI:gn:=λ_ _ _ _ _ _=>False
abbrev E0:XK:=λ_ _ _=>False
theorem ki{X:Cx}:b9 bI X E0:=λ_ _ _ _ _ _ _ h=>h.elim
structure PD(K:ι)(x Tb:Str)(st:δ)(f:Δ)(fd:FuncData):Prop where
 ex:∃(oc:Γ) (od:Λ) (kV doc pm:Γ) (an:Λ) (cdv ct:Γ) (osl:Array Ν),
  fd=PySem.W.fnOf x Tb (Q3 st) (zU st) (ql st) .none kV doc pm an cdv ct/\K.lookup f=some #[oc,od,.func fd,osl]/\PySem.W.codeIn K cdv Tb=true
 kp:PySem.W.keepIn K (.ref f)=true
section
variable{P:Ξ}{w:Ω}{K:ι}{mg:MK}{base:Ψ}
theorem PD.ok{x Tb:Str}{st:δ}{f:Δ}{fd:FuncData}{N ps:Α}{k:Nat}{sp:Sp}(F:PD K x Tb st f fd)(S:MN N ps (ql st))(d:∀vs H Q E,sp vs H Q E->vs.length=ps.length)
  (a:∀(cdv:Γ) (A:Around) (outer:Ο) (s:Θ) (H:Hp) (vs:Β) (Q:VK) (E:XK),M9 k (A.deeper (envOfC Tb (ql st) s.heap.objs.size f cdv))->sp vs H Q E->
   ∃t,O5 (Qs bI P w K mg base N Tb (ql st) f cdv A outer s H E).nox (zU st) t/\t {nx:=λ_ H'=>Q .non H',rt:=Q} (Q7 N vs) H):N9 P w K mg base bI (k+1) f fd ps sp:=by
 obtain⟨oc,od,kV,doc,pm,an,cdv,ct,osl,rfl,i,e⟩:=F.ex;refine uT i e S d λA outer s H vs Q E g c=>?_
 obtain⟨t,h,q⟩:=a cdv A outer s H vs Q E g c
 exact#[t,h.nox,q]
theorem PD.binds{x Tb:Str}{st:δ}{f:Δ}{fd:FuncData}{ps:Α}(F:PD K x Tb st f fd)
  (h:∀(kV doc pm:Γ) (an:Λ) (cdv ct:Γ) (us:Ζ),us.length=ps.length->bindArgs (W.fnOf x Tb (Q3 st) (zU st) (ql st) .none kV doc pm an cdv ct) #[us,[]]=pure (ps.zip us)):NF K fd ps []:=by
 obtain⟨oc,od,kV,doc,pm,an,cdv,ct,osl,rfl,c,a⟩:=F.ex;exact .all (h kV doc pm an cdv ct)
theorem pN{x Tb:Str}{st:δ}{f:Δ}{oc:Γ}{od an:Λ}{osl:Array Ν}{kV doc pm cdv ct:Γ}(l:K.lookup f=some #[oc,od,.func (W.fnOf x Tb (Q3 st) (zU st) (ql st) .none kV doc pm an cdv ct),osl])
  (c:W.codeIn K cdv Tb=true)(k:W.keepIn K (.ref f)=true):PD K x Tb st f (W.fnOf x Tb (Q3 st) (zU st) (ql st) .none kV doc pm an cdv ct):=#[#[oc,od,kV,doc,pm,an,cdv,ct,osl,Z,l,c],k]
end
theorem zt{A B:Prop}(h:B):if false=true then A else B:=by
 rw[Jc JG];exact h
theorem zR{A B:Prop}(h:A):if true=true then A else B:=by
 rw[Jd Z];exact h
theorem qK{c A B:Prop} [Decidable c](h1:c->A)(h2:¬c->B):if c then A else B:=by
 by_cases h:c
 ·rw[Jd h]
  exact h1 h
 ·rw[Jc h]
  exact h2 h
theorem fM{c A B:Prop} [Decidable c](hc:c)(h:B):if(! decide c)=true then A else B:=by
 rw[Jf hc];exact zt h
def MM(H H':Hp):Prop:=∀b o,H b=↑o->H' b=↑o
theorem MM.refl(H:Hp):MM H H:=λ_ _ h=>h
theorem MM.trans{H H1 d:Hp}(a:MM H H1)(b:MM H1 d):MM H d:=λc o h=>b c o (a c o h)
theorem MM.seq{K:ι}{H H':Hp}{a:Δ}{xs:Β}(e:MM H H')(h:MV K H a xs):MV K H' a xs:=by
 rcases h with(h|⟨o,h⟩)|h
 ·exact .inl (.inl (e _ _ h))
 ·exact .inl (.inr #[o,e _ _ h])
 ·exact .inr h
end L2
namespace L3
open PySem PySem.Spec PyProof.Rows L2
def Qm(X:Cx)(N:Α)(a:Scope)(cl:List (Str×Δ))(C:Δ)(s:Θ)(H:Hp)(c:Η):Cx:=
 {X with N:=N,s₀:=s,H₀:=H,env:=compEnvC a cl C X.env,outer:=X.stack,ex:=c,fn:=λ_=>false,pn:=[],xe:=λ_ _=>False}
structure NB(X:Cx)(scope:Scope)(fr:Α)(js:Μ):Prop where
 kind:scope.kind= .function
 names:∀x∈scope.names,x.2= .local->scope.names.lookup x.1=some .local
 nocell:∀x∈scope.names,x.2≠ .cell
 free:∀x∈scope.names,x.2= .free->x.1∈fr
 len:js.length=fr.length
 at_:∀(i j:Nat) (y:Str),js[i]? =↑j->fr[i]? =↑y->X.N[j]? =↑y/\X.env.kindOf y=some .cell/\(relabel scope X.env).names.lookup y=some .cell
theorem ZH{α:Type}{y:Str}:∀{l:List (Str×α)},y∈l.map (·.1)->∃c,l.lookup y=↑c
 | [],h=>by simp at h
 |(n,a)::r,h=>by
  cases e:y==n with
  |true=>exact#[a,by simp [J9,e]]
  |false=>
   have f:y∈r.map (·.1):=by
    rcases Ji.mp h with z|z
    ·exact absurd z (by simpa using e)
    ·exact z
   obtain⟨c,d⟩:=ZH f
   exact#[c,by simp [J9,e,d]]
def σ0(k:Nat)(js:Μ)(σ:L2.St):L2.St:=List.replicate k none++js.map λj=>(σ[j]?).join
def vx(k:Nat)(js:Μ)(g:TG)(te:TE)(σ:L2.St)(Q:VK)(J:It)(H1:Hp):Prop:=∃W:Nat->Nat->Β->L2.St->Hp->Prop,(∃m,W 0 m [] (σ0 k js σ) H1)/\∀i m ys c H,W i m ys c H->
 (J.stop i H/\∀p,H p=none->Q (.ref p) (MO H p (.lst ys)))\/(J.go i H/\ys.length<ζ/\∀x H',J.yld i H x H'->g x c H' λa d=>∃N:V->Hp->Prop,(∀v H3,N v H3->∃m',m'<m/\W (i+1) m' (ys++[v]) a H3)/\te a d N)
def kK(k:Nat)(js:Μ)(a:TI)(g:TG)(te:TE):TE:=λσ H Q=>a σ H (vx k js g te σ Q)
section
variable{prog:Ξ}{w:Ω}{A:Around}{R:Result->Θ->Prop}{s:Θ}
theorem sw{o a f:Φ}{c:Scope}{pos:Pos}{it q:Γ}{env:Env}(I:Nat->Θ->Prop)
  (turn:∀n s,I n s->ε (model prog w) A (pyNext it) (λr e=>match r with
   |none=>R (.ok .next) e
   | some v=>ε (model prog w) A (letOwnedTupleGo a it v) (λ_ d=>ε (model prog w) A (assign a env v) (λ_ g=>ε (model prog w) A (eval o env) (λx l=>
     ε (model prog w) A (call (.builtin "list.append") [q,x]) (λ_ i=>∃m,m<n/\I m i) (λ_ _=>False) l)
     (λ_ _=>False) g) (λ_ _=>False) d) (λ_ _=>False) e) (λ_ _=>False) s)
  (n:Nat)(h:I n s):
  codeAny (model prog w) A (.compLoop (.ListComp o [#[a,f,[],0]] c pos) 0 it q env) R s:=by
 refine codeAny_loop Z I (λn s z=>?_) n h
 show ε _ _ ((compTurn (.ListComp o [#[a,f,[],0]] c pos) 0 it q env).onRaise (λx=>do noteFrame x env;theTreesLotGoes x)) _ _ s
 refine wpAny_noted ?_
 rw[compTurn_list1];refine Ja (Iu (Ja (JJ (turn n s z) (λr e j=>?_) λ_ _ h'=>h'.elim)))
 cases r with
 |none=>exact Jh j
 |some v=>
  refine Ja (JJ j (λ_ d p=>?_) λ_ _ h'=>h'.elim)
  exact Ja (JJ p (λ_ g t=>Ja (Ja (JJ t (λx l u=>Ja (JJ u
   (λ_ i y=>Jh (Jh #[Z,y])) λ_ _ h'=>h'.elim)) λ_ _ h'=>h'.elim))) λ_ _ h'=>h'.elim)
end
variable{X:Cx}
structure Sk(X:Cx)(tx:ML)(H:Hp)(C:Δ):Prop where
 free:H C=none
 loc:C≠X.env.locals
 new:X.s₀.heap.objs.size<=C
 cell:∀x c,X.env.cells.lookup x=↑c->c≠C
 pin:∀p∈X.pn++tx,p.1≠C
theorem rK{a:Scope}{cl:List (Str×Δ)}{fr own:Α}{js:Μ}{tx:ML}{d:Θ}{σ:L2.St}{K:Hp}{tg:Φ}{J:It}{B:Η}{it:Δ}{tn:Nat->Ψ->Prop}{A:Ψ}{g:Nat}{m:MK}
  (r:∀y c,cl.lookup y=↑c->X.env.cells.lookup y=↑c)(U:cl.map (·.1)=fr)(S:NB X a fr js)(f:L2.MQ X tx σ K d)(T:Oz X.prog X.w X.K tg J B it tn)(a3:tn 0 d.heap)(f2:∀b∈B,ZZ X tx K b)
  (hC:g=d.heap.objs.size+1)(G:∀b o,d.heap.get? b=↑o->A.get? b=↑o)(F:A.Ns g m):
  (∀b∈B,b<d.heap.objs.size)/\L2.MQ (Qm X (own++fr) a cl g d K B) [] (σ0 own.length js σ) K {d with heap:=A,toks:=d.toks+([]:List (Str×Γ)).length}/\d.heap.objs.size∉Qp X.stack/\(∀x c,cl.lookup x=↑c->c≠d.heap.objs.size)/\
  ∀{H':Hp} {pl:ML},(∀b∈B,H' b=none)->(∀p∈pl,p.1=d.heap.objs.size)->∀b∈B,ZZ (Qm X (own++fr) a cl g d K B) pl H' b:=by
 have t:∀b,b<d.heap.objs.size->b≠g/\b≠d.heap.objs.size:=λb h=>#[by rw[hC];exact Ju (IR h),Ju h]
 let Y:Cx:=Qm X (own++fr) a cl g d K B
 have w:∀b∈B,b<d.heap.objs.size:=λb h=>by obtain⟨o,e,_⟩:=T.obj _ _ a3 b h;exact Jl e
 have R:(Qm X (own++fr) a cl g d K B).Ok:=by
  refine#[f.ok.mod,S.kind,f.ok.glob,f.ok.blt,by show d.heap.objs.size<=g;lia,?_,?_,?_,f.ok.hd,f.ok.frames,.inl Z,?_,f.bs,JH f.ok.bsz f.sz,?_,?_,f.stack,f.stkFree]
  ·exactλx y c e1 e2=>f.ok.inj x y c (r x c e1) (r y c e2)
  ·intro x hx
   have a0:(relabel a X.env).names.lookup x=some .cell\/(relabel a X.env).names.lookup x=some .free:=hx
   have hm:∃k,(x,k)∈a.names/\k= .free:=by
    have P:∀kk:NameKind,(kk= .cell\/kk= .free)->(relabel a X.env).names.lookup x=↑kk->∃k,(x,k)∈a.names/\k= .free:=by
     intro kk hk el;obtain⟨⟨n,k⟩,s,e⟩:=Jy.mp (Lj el)
     dsimp only at e
     split at e
     ·rename_i D
      cases e;refine#[k,s,?_]
      simp only[JU,Ic]at D;exact D.1.1
     ·cases e
      rcases hk with z|z
      ·subst z;exact absurd Z (S.nocell _ s)
      ·exact#[_,s,z]
    rcases a0 with z|z
    ·exact P _ (.inl Z) z
    ·exact P _ (.inr Z) z
   obtain⟨k,s,hk⟩:=hm;exact ZH (l:=cl) (by rw[U];exact S.free _ s hk)
  ·exactλx c e _=>nomatch e
  ·refineλb h=>#[?_,λx c e=>(f2 b h).2.2.2.2.1 x c (r x c e)]
   show b≠g
   exact(t b (w b h)).1
  ·intro b o e h
   rcases(f2 b h).2.2.2.1 with z|z
   ·exact f.ok.noex b o e z
   ·exact absurd (JN (Jl e) (JH f.ok.bsz z)) (J1 _)
  ·intro b h hf
   rcases Ji.mp (f.stkSub b hf)with z|z
   ·exact(f2 b h).2.1 z
   ·exact(f2 b h).2.2.1 z
 have M:(σ0 own.length js σ).length=(own++fr).length:=by unfold σ0;simp [S.len]
 have IY:MQ Y [] (σ0 own.length js σ) K {d with heap:=A,toks:=d.toks+([]:List (Str×Γ)).length}:=by
  refine#[R,Z,f.bare,Un.kept G,#[_,F,?_],?_,?_,?_,λp hp=>absurd (show p∈([]:ML)from hp) (by simp),f.hok.kept G,M]
  ·intro i x v hN H _
   have O:(own++fr)[i]? =↑x:=hN
   unfold σ0 at H
   by_cases N:i<own.length
   ·rw[Iw (by simpa using N),List.getElem?_replicate]at H
    split at H<;>cases H
   ·rw[Ik (by simpa using Nat.le_of_not_lt N),L5,Jm]at H
    rw[Ik (Nat.le_of_not_lt N)]at O;cases ej:js[i-own.length]? with
    |none=>rw[ej]at H;cases H
    |some j=>
     rw[ej]at H;have a5:σ[j]? =↑(↑v):=by
      have I:(σ[j]?).join=↑v:=JE H
      cases q:σ[j]? with
      |none=>rw[q]at I;cases I
      |some o=>rw[q]at I;have:o=↑v:=I;rw[this]
     obtain⟨a2,hk,a1⟩:=S.at_ _ j x ej O;obtain⟨m,hn,hl⟩:=f.loc;obtain⟨u,ru,lk⟩:=hl j x v a2 a5 (.inr (.inl hk))
     refine#[u,ru,.inr ?_]
     rcases lk with⟨k1,_⟩|⟨_,c,ec,ic⟩
     ·rw[hk]at k1;cases k1
     ·obtain⟨c',W⟩:=ZH (y:=x) (l:=cl) (by rw[U];exact Jp O)
      have:c'=c:=by have:=r x c' W;rw[ec]at this;exact(JE this).symm
      subst this;refine#[?_,c',W,?_]
      ·show(relabel a X.env).names.lookup x=some .cell\/(relabel a X.env).names.lookup x=some .free
       exact .inl a1
      ·obtain⟨oc,E,hd⟩:=ic
       exact#[oc,G _ _ E,hd]
  ·intro x c e
   obtain⟨v,oc,E,hd⟩:=f.cell x c (r x c e)
   exact#[v,oc,G _ _ E,hd]
  ·exact f.hok.fresh (by show d.heap.objs.size<=g;lia)
  ·exactλx c e=>f.freeC x c (r x c e)
 have L:d.heap.objs.size∉Qp X.stack:=λhf=>by
  rcases Ji.mp (f.stkSub _ hf)with z|z
  ·exact absurd (by rw[<- z];exact Je _:d.heap.objs.size<=X.env.locals) (Nat.not_le.mpr f.lt)
  ·exact f.nofs (Je _) z
 have C:∀x c,cl.lookup x=↑c->c≠d.heap.objs.size:=λx c e z=>by
  obtain⟨v,oc,E,_⟩:=f.cell x c (r x c e)
  exact absurd (Jl E) (by rw[z];exact J1 _)
 have b0:∀{H':Hp} {pl:ML},(∀b∈B,H' b=none)->(∀p∈pl,p.1=d.heap.objs.size)->∀b∈B,ZZ Y pl H' b:=λ{H' pl} hn hp b h=>
  #[hn b h,(t b (w b h)).1,R.exfs b h,.inl h,λx c e=>(f2 b h).2.2.2.2.1 x c (r x c e),λp a4=>by
   have Q:p∈pl:=by simpa [Y,Qm]using a4
   rw[hp p Q];exact Ne.symm (t b (w b h)).2]
 exact#[w,IY,L,C,b0]
theorem rG{N:Α}{l:Scope}{cl:List (Str×Δ)}{tx pl:ML}{d w:Θ}{σ G:L2.St}{E m:Hp}{y:Η}{g:Nat}{ob:HO}(t:L2.MQ X tx σ E d)(f2:∀b∈y,ZZ X tx E b)(F:g=d.heap.objs.size+1)
  (r:L2.MQ (Qm X N l cl g d E y) pl G m w)(a:m d.heap.objs.size=none)(A:M3 X.prog X.w (MO m d.heap.objs.size ob) w.heap d.heap.objs.size ob):L2.MQ X tx σ (MO m d.heap.objs.size ob) w/\Sk X tx (MO m d.heap.objs.size ob) g:=by
 have j:∀b,b<d.heap.objs.size->b≠g/\b≠d.heap.objs.size:=λb f=>#[by rw[F];exact Ju (IR f),Ju f]
 have C:d.heap.objs.size≠g:=by lia
 have B:=r.base;have H:m g=none:=r.free
 refine#[?_,?_]
 ·refine t.call' (s':=w) (ch:=y) r.os #[B.keep,B.slot,λb o e n I=>?_,B.there,λb xs e=>?_,λb o u e=>?_,λb ps e=>?_] ?_ r.bare ?_
  ·rw[qk (j b (Jl e)).2];exact B.free b o e n I
  ·have i:=B.tups b xs e
   rw[qk (qr i a)];exact i
  ·have i:=B.frzs b o u e
   rw[qk (qr i a)];exact i
  ·obtain⟨s,i⟩:=B.tbls b ps e
   exact#[s,by rw[qk (qr i a)];exact i]
  ·intro b u e
   by_cases f:b=d.heap.objs.size
   ·subst f
    rw[qa]at e;cases e
    exact A
   ·rw[qk f]at e
    exact(r.hok b u e).stay (λc v _ q=>q) (λc q=>by rw[qk (qr q a)];exact q) λc xs q=>by rw[qk (qr q a)];exact q
  ·exactλb f=>#[(f2 b f).2.2.2.1,(f2 b f).2.1,(f2 b f).2.2.2.2.1,(f2 b f).2.2.2.2.2]
 ·have h:d.heap.objs.size<=g:=by lia
  refine#[by rw[qk (Ne.symm C)];exact H,?_,JH t.sz h,λx c e z=>?_,λp J z=>?_]
  ·exact J0 (JN t.lt h)
  ·obtain⟨v,oc,D,_⟩:=t.cell x c e
   exact absurd (JN (Jl D) h) (by rw[z];exact J1 _)
  ·exact absurd (JN (Jl (t.pin p J).1) h) (by rw[z];exact J1 _)
theorem sL{a3 tg t:Φ}{a:Scope}{cl:List (Str×Δ)}{pos c2:Pos}{fr own:Α}{js:Μ}{wi:TI}{g:TG}{te:TE}{use:Option (Γ->Sem Unit)}{Post:MJ}
  {tx:ML}{s:Θ}{σ:L2.St}{H:Hp}{Q:VK}
  (hc:X.calm=true)(hi:PI X tg t wi)(a4:closureFor a X.env=pure cl)(d2:∀y c,cl.lookup y=↑c->X.env.cells.lookup y=↑c)(d0:cl.map (·.1)=fr)
  (S:NB X a fr js)
  (hg:∀C s H fp,PG (Qm X (own++fr) a cl C s H fp) tg g)(he:∀C s H fp,PE (Qm X (own++fr) a cl C s H fp) a3 te)
  (hs:∀x,foldedSetIterable t X.env x=pure x)
  (I:L2.MQ X tx σ H s)(h:kK own.length js wi g te σ H Q)
  (b5:∀(c3 C:Δ) (s5:Θ) (H':Hp) (m:MK),L2.MQ X tx σ H' s5->s5.heap.Ns C m->Sk X tx H' C->Q (.ref c3) H'->compPost (model X.prog X.w) X.A X.xe use Post (.ref c3) C (.ok .next) s5):
  ε (model X.prog X.w) X.A (comprehension (.ListComp a3 [#[tg,t,[],0]] a pos) a X.env c2 (newList []) false (eval t X.env) use) Post X.xe s:=by
 refine wpAny_comprehension_free (use:=use) Z hs a4 S.kind S.names (qF (hi tx s σ H _ I h) λv s1 h1=>qF h1 λd6 j h2=>?_)
 obtain⟨it,fp,tn,J,H2,e,I2,T,c0,f2,W,⟨m0,w0⟩,turn⟩:=h2;subst e;refine J6 (wpAny_newFunctionEnv S.nocell (by intro y hy;simp at hy) (λK l d=>?_) S.kind)
 dsimp only at l d⊢
 generalize hH2:j.heap.push {cls:= .type "list",dict:=none,data:= .seq ([]:Ζ).toArray}=G at l d⊢
 have hC:G.objs.size=j.heap.objs.size+1:=by rw[<- hH2,J5]
 have M:j.heap.objs.size≠G.objs.size:=by rw[hC];exact Ju (Iv _)
 have F:∀b,b<j.heap.objs.size->b≠G.objs.size/\b≠j.heap.objs.size:=λb w=>#[by rw[hC];exact Ju (IR w),Ju w]
 have b3:∀b o,j.heap.get? b=↑o->K.get? b=↑o:=λb o e=>d.extBut b o (F b (Jl e)).1 (Jj _ (hH2▸Jj _ e))
 have a0:K.get? j.heap.objs.size=some {cls:= .type "list",data:= .seq ([]:Ζ).toArray 0}:=d.extBut _ _ M (Jj _ (hH2▸Jw _ Z))
 let Y:Cx:=Qm X (own++fr) a cl G.objs.size j H2 fp
 obtain⟨b2,IY,E,D,b1⟩:=rK (own:=own) (js:=js) d2 d0 S I2 T c0 f2 hC b3 l
 have a1:∀q:Θ,MQ Y [] (σ0 own.length js σ) H2 q->tn 0 q.heap->q.heap.get? j.heap.objs.size=some {cls:= .type "list",data:= .seq ([]:Ζ).toArray 0}->
   codeAny (model X.prog X.w) X.A (.compLoop (.ListComp a3 [#[tg,t,[],0]] a pos) 0 (.ref it) (.ref j.heap.objs.size) (compEnvC a cl G.objs.size X.env))
    (compPost (model X.prog X.w) X.A X.xe use Post (.ref j.heap.objs.size) G.objs.size) q:=by
  intro q I3 d3 c5;refine sw (λn s'=>∃i ys τ H' f k,MQ Y [(j.heap.objs.size,{cls:= .type "list",data:= .seq f.toArray k})] τ H' s'/\tn i s'.heap/\(∀b∈fp,H' b=none)/\MU ys f/\ys.length<=ζ/\W i n ys τ H') ?_ m0 ?_
  ·rintro n s4 ⟨i,ys,τ,H4,f,k,I4,b4,b7,vl,hz,w4⟩
   have d5:=I4.pin (j.heap.objs.size,{cls:= .type "list",data:= .seq f.toArray k}) (by simp [Y,Qm])
   rcases turn i n ys τ H4 w4 with⟨b6,qn⟩|⟨go,d7,step⟩
   ·refine qF (T.done Y Z Z Z hc i _ s4 τ H4 _ I4 (b1 b7 (by simp)) b4 b6) λr s5 O=>?_
    obtain⟨hr,I5⟩:=O;subst hr
    show compPost _ _ _ _ _ _ _ _ _
    obtain⟨m5,c6,_⟩:=I5.loc;have U:=I5.pin (j.heap.objs.size,{cls:= .type "list",data:= .seq f.toArray k}) (by simp [Y,Qm])
    have R:H4 j.heap.objs.size=none:=U.2.1
    have B:=I5.base;have nC:H4 G.objs.size=none:=I5.free
    obtain⟨z1,z2⟩:=rG (ob:= .lst ys) I2 f2 hC I5 R #[hz,f,k,vl,U.1]
    exact b5 j.heap.objs.size G.objs.size s5 (MO H4 j.heap.objs.size (.lst ys)) m5 z1 c6 z2 (qn _ R)
   ·refine qF (T.item Y Z Z Z hc i _ s4 τ H4 _ I4 (b1 b7 (by simp)) b4 go) λr s5 O=>?_
    obtain⟨u,hr,h5⟩:=O;subst hr;refine qF h5 λ_ s6 O=>?_
    obtain⟨x,H6,I6,r6,y6,a2,d4⟩:=O;have c4:=I6.pinned (b1 d4 (by simp)) (T.obj _ _ a2)
    refine qF (hg _ _ _ _ _ s6 τ H6 x u _ c4 r6 (step x H6 y6)) λ_ s7 O=>?_
    obtain⟨a5,H7,I7,N,hN,q7⟩:=O;refine qF (he _ _ _ _ _ s7 a5 H7 _ I7 q7) λv' s8 O=>?_
    obtain⟨y,H8,I8,r8,n8⟩:=O;obtain⟨m',d1,w8⟩:=hN _ _ n8;have A:=I8.pin (j.heap.objs.size,{cls:= .type "list",data:= .seq f.toArray k}) (by simp [Qm])
    have L:∀b∈fp,∀o,s6.heap.get? b=↑o->s8.heap.get? b=↑o/\H8 b=none:=λb w o e=>by
     have:=I8.pin (b,o) (J3 _ (J3 _ (az w e)))
     exact#[this.1,this.2.1]
    refine wpAny_list_append_plain (items:=f.toArray) #[k,A.1] (λh' P c1=>?_) (by have:=vl.length;simp;lia)
    obtain⟨k',P⟩:=P;have I9:MQ Y [] a5 H8 {s8 with heap:=h'}:=by
     refine(I8.pins_of (pins':=[]) (by simp)).turned (t':=s8.toks) (it:=j.heap.objs.size) (λb o w e=>(c1.2 b w).trans e) A.2.1 ?_ (.inr (Je _)) (λx c e=>D x c e) (λp hp=>absurd (show p∈([]:ML)from by simpa [Y,Qm]using hp) (by simp))
     exact M
    have ea:(f.toArray.push v')=(f++[v']).toArray:=by simp
    rw[ea]at P;refine#[m',d1,i+1,ys++[y],a5,H8,f++[v'],k',I9.pins_of ?_,T.keep _ _ _ a2 λb w o e=>(c1.2 b (F b (b2 b w)).2).trans (L b w o e).1,λb w=>?_,vl.append (.cons r8 .nil),?_,w8]
    ·intro p hp
     rw[Jg.mp hp]
     exact#[P,A.2.1,M,E,λv z=>by cases z]
    ·obtain⟨o,e,_⟩:=T.obj _ _ a2 b w
     exact(L b w o e).2
    ·rw[Jo,Me];lia
  ·refine#[0,[],σ0 own.length js σ,H2,[],0,I3.pins_of ?_,d3,λb w=>(f2 b w).1,.nil,JM _,w0]
   intro p hp;rw[Jg.mp hp]
   exact#[c5,I2.hok.fresh (Je _),M,E,λv z=>by cases z]
 have b0:tn 0 K:=T.keep _ _ _ c0 λb _ o e=>b3 b o e
 exact codeAny_compStart_list (a1 _ IY b0 a0) (T.self _ 0 _ _ _ b0 (a1 _ IY b0 a0))
theorem Eo{j tg d:Φ}{a:Scope}{cl:List (Str×Δ)}{pos:Pos}{fr own:Α}{js:Μ}{u:TI}{g:TG}{te:TE}
  (hc:X.calm=true)(hi:PI X tg d u)(f:closureFor a X.env=pure cl)(n:∀y c,cl.lookup y=↑c->X.env.cells.lookup y=↑c)(t:cl.map (·.1)=fr)
  (S:NB X a fr js)
  (hg:∀C s H l,PG (Qm X (own++fr) a cl C s H l) tg g)(he:∀C s H l,PE (Qm X (own++fr) a cl C s H l) j te)
  (hs:∀x,foldedSetIterable d X.env x=pure x:=by intro _;rfl):
  PE X (.ListComp j [#[tg,d,[],0]] a pos) (kK own.length js u g te):=by
 intro tx s σ H Q I h;rw[eval_ListComp];refine sL (use:=none) hc hi f n t S hg he hs I h λr C A H' m v z i q=>?_
 exact#[m,z,λh' p=>#[.ref r,H',v.turned (t':=A.toks) (λb o w e=>(p.2 b w).trans e) i.free i.loc (.inr i.new) i.cell i.pin,Z,q]]
theorem En{j tg f:Φ}{d:Scope}{cl:List (Str×Δ)}{pos l r:Pos}{fr own:Α}{js:Μ}{K:TI}{g:TG}{te:TE}{i:Nat}{y:Str}
  (hN:X.N.Nodup)(G:X.N[i]? =↑y)(hx:kD X.env.scope y)
  (hc:X.calm=true)(hi:PI X tg f K)(n:closureFor d X.env=pure cl)(B:∀y c,cl.lookup y=↑c->X.env.cells.lookup y=↑c)(F:cl.map (·.1)=fr)
  (S:NB X d fr js)
  (hg:∀C s H u,PG (Qm X (own++fr) d cl C s H u) tg g)(he:∀C s H u,PE (Qm X (own++fr) d cl C s H u) j te)
  (hs:∀x,foldedSetIterable f X.env x=pure x:=by intro _;rfl)(A:swapsWith (.ListComp j [#[tg,f,[],0]] d pos) ↑(.Name y r) l.line X.env=pure true:=by rfl)
  (hf:X.fn y=true\/X.env.scope.names.lookup y=some .local:=by first|exact .inl Z|exact .inr Z|assumption):
  PS X (.Assign [.Name y r] (.ListComp j [#[tg,f,[],0]] d pos) l) (lZ (kK own.length js K g te) (aG i)):=by
 intro tx s σ H D I h;rw[exec_Assign_Name_used _ _ _ _ A];refine Ja (Iu (Ja ?_))
 show ε _ X.A (do let _ <- comprehension (.ListComp j [#[tg,f,[],0]] d pos) d X.env _ (newList []) false (eval f X.env) ↑(assign (.Name y r) X.env)) _ _ s
 refine Ja (JJ (sL (use:=↑(assign (.Name y r) X.env)) (Post:=λ_ s'=>SP X tx D .next s') hc hi n B F S hg he hs I h ?_) (λ_ s' M=>Jh (Jh M)) λ_ _ e=>e)
 intro t C U H' m P R p q
 show ε _ X.A (assign (.Name y r) X.env (.ref t)) _ _ _
 refine wpAny_assign_Name (nN (v:= .ref t) P hN G hx Z (λT N O=>?_) hf)
 obtain⟨a,w,L⟩:=O;have E:C≠a:=by
  rcases L with z|z
  ·rw[z];exact p.loc
  ·exact Ne.symm (p.cell _ _ z)
 refine#[m,R.sameBut w E,λh' J=>?_]
 exact#[_,H',N.turned (t':=T.toks) (λb o Q e=>(J.2 b Q).trans e) p.free p.loc (.inr p.new) p.cell p.pin,q]
section
variable{js:Μ}{te:TE}{σ:L2.St}{H:Hp}{Q:VK}{K:ι}
abbrev QD(js:Μ)(σ:L2.St):L2.St:=js.map λj=>(σ[j]?).join
abbrev a6(J:It)(js:Μ)(te:TE)(σ:L2.St)(H1:Hp)(Q:VK):Prop:=vx 1 js (aG 0) te σ Q J H1
theorem eZ{J:It}{n:Nat}(hn:n<=ζ)(c:Nat->V->Prop)(Pv:Nat->Β->Hp->Prop)(l:Pv 0 [] H)(f:∀i ys H,i<n->Pv i ys H->J.go i H)(hst:∀ys H,Pv n ys H->J.stop n H)
  (q:∀i ys H x H',i<n->Pv i ys H->J.yld i H x H'->H'=H/\c i x)
  (hs:∀i ys H x,i<n->ys.length=i->Pv i ys H->c i x->te (↑x::QD js σ) H λv H3=>Pv (i+1) (ys++[v]) H3)
  (hd:∀ys H,ys.length=n->Pv n ys H->∀p,H p=none->Q (.ref p) (MO H p (.lst ys))):a6 J js te σ H Q:=by
 refine#[λi m ys g H=>m=n-i/\i<=n/\ys.length=i/\Pv i ys H/\∃o,g=o::QD js σ,#[n,by simp,JM _,Z,l,none,Z],?_]
 rintro i m ys g H ⟨rfl,hi,d,p,o,rfl⟩
 by_cases a:i<n
 ·refine .inr #[f i ys H a p,by lia,λx H' y=>?_]
  obtain⟨e,h⟩:=q i ys H x H' a p y;subst e
  exact#[λv H3=>Pv (i+1) (ys++[v]) H3,λv H3 j=>#[n-(i+1),by lia,Z,a,by simp [d],j,_,Z],hs i ys _ x a d p h]
 ·have e:i=n:=by lia
  subst e;exact .inl #[hst ys H p,hd ys H d p]
theorem bj{a:Δ}{xs:Β}(hn:xs.length<=ζ)(Pv:Nat->Β->Hp->Prop)(d:Pv 0 [] H)(hl:∀i ys H,Pv i ys H->MV K H a xs)
  (hs:∀i ys H x,xs[i]? =↑x->ys.length=i->Pv i ys H->te (↑x::QD js σ) H λv H3=>Pv (i+1) (ys++[v]) H3)
  (hd:∀ys H,ys.length=xs.length->Pv xs.length ys H->∀p,H p=none->Q (.ref p) (MO H p (.lst ys))):a6 (iu K a) js te σ H Q:=
 eZ hn (λi x=>xs[i]? =↑x) Pv d (λi ys H hi p=>#[xs,xs[i],hl _ _ _ p,by simp [hi]]) (λys H p=>#[xs,hl _ _ _ p,Je _]) (λi ys H x H' _ p y=>#[y.1,y.2 xs (hl _ _ _ p)]) (λi ys H x _ hl p c=>hs i ys H x c hl p) hd
theorem eI{a:Δ}{xs:Β}(hn:xs.length<=ζ)(Pv:Nat->Β->Hp->Prop)(d:Pv 0 [] H)(hl:∀i ys H,Pv i ys H->MW K H a xs)
  (hs:∀i ys H x,xs[i]? =↑x->ys.length=i->Pv i ys H->te (↑x::QD js σ) H λv H3=>Pv (i+1) (ys++[v]) H3)
  (hd:∀ys H,ys.length=xs.length->Pv xs.length ys H->∀p,H p=none->Q (.ref p) (MO H p (.lst ys))):a6 (ib K a) js te σ H Q:=
 eZ hn (λi x=>xs[i]? =↑x) Pv d (λi ys H hi p=>#[xs,xs[i],hl _ _ _ p,by simp [hi]]) (λys H p=>#[xs,hl _ _ _ p,Je _]) (λi ys H x H' _ p y=>#[y.1,y.2 xs (hl _ _ _ p)]) (λi ys H x _ hl p c=>hs i ys H x c hl p) hd
theorem lq{lo:Int}{n:Nat}(hn:n<=ζ)(Pv:Nat->Β->Hp->Prop)(c:Pv 0 [] H)
  (hs:∀i ys H,i<n->ys.length=i->Pv i ys H->te (↑(.int (lo+i))::QD js σ) H λv H3=>Pv (i+1) (ys++[v]) H3)
  (hd:∀ys H,ys.length=n->Pv n ys H->∀p,H p=none->Q (.ref p) (MO H p (.lst ys))):a6 (pJ lo n) js te σ H Q:=
 eZ hn (λi x=>x= .int (lo+i)) Pv c (λi ys H hi p=>hi) (λys H p=>Je _) (λi ys H x H' _ p y=>y) (λi ys H x hi d p a=>by subst a;exact hs i ys H hi d p) hd
end
end L3
namespace L3
open PySem PySem.Spec PyProof.Rows L2
section
variable{X:Cx}{tx:ML}{σ:L2.St}{H:Hp}{s:Θ}
theorem iI{h':Ψ}{t':Nat}{ch:Η}{a:Δ}{xs:Β}{its:Ζ}(I:L2.MQ X tx σ H s)(k:∀b o,b∉ch->s.heap.get? b=↑o->h'.get? b=↑o)(d:∀b∈ch,ZZ X tx H b)
  (ho:∀b∈ch,∃o,h'.get? b=↑o)(ha:s.heap.objs.size<=a)(w:xs.length<=ζ)(hv:MU xs its)(l:IsTup h' a its.toArray):L2.MQ X tx σ (MO H a (.tup xs)) {s with heap:=h',toks:=t'}:=by
 have h:H a=none:=I.hok.fresh ha
 have j:∀b o,s.heap.get? b=↑o->b≠a:=λb o e=>Ju (JN (Jl e) ha)
 have i:∀b u,H b=↑u->b∉ch:=λb u e z=>by rw[(d b z).1]at e;cases e
 refine I.step (g':=s.gens) (d':=s.drawn) (ch:=ch) (λb g=>#[(d b g).2.2.2.1,(d b g).2.1,(d b g).2.2.2.2.1,(d b g).2.2.2.2.2]) (λb o _ _ f e _=>k b o f e) (λb o _ _ f e _=>#[o.slots,k b o f e])
  (λb o _ e n=>by rw[qk (j b o e)];exact n) (λb o f e=>#[o,k b o f e]) (λb ys e=>by rw[qk (qr e h)];exact e) (λb o u e=>by rw[qk (qr e h)];exact e)
  (λb ps e=>#[(List.toArray []),by rw[qk (qr e h),e];simp]) (λm t=>?_) (λb u e=>?_) I.bare
 ·obtain⟨o,es,p,ho,r⟩:=t
  exact#[o,es,p,k _ o (λz=>(d _ z).2.1 Z) ho,r]
 ·by_cases g:b=a
  ·subst g
   rw[qa]at e;cases e
   exact#[w,its,hv,l]
  ·rw[qk g]at e
   refine(I.hok b u e).stay (λc v f q=>k c v ?_ q) (λc q=>by rw[qk (qr q h)];exact q) λc ys q=>by rw[qk (qr q h)];exact q
   rcases f with z|z
   ·rw[z];exact i b u e
   ·exact i c _ z
def uK(K:ι)(a:Δ):It:=
 #[λi H=>∃xs x,MV K H a xs/\xs[i]? =↑x,λi H x H'=>∃p v,H p=none/\x= .ref p/\(∀xs,MV K H a xs->xs[i]? =↑v)/\H'=MO H p (.tup [.int i,v]),λi H=>∃xs,MV K H a xs/\xs.length<=i]
theorem mZ{P:Ξ}{w:Ω}{K:ι}{t:Ι}{x1}{pos:Pos}(a e it:Δ)(n:e≠it):
  Oz P w K (.Tuple t x1 pos) (uK K a) [e,it] e (λi h=>(∃c,IsEnum h e it i c)/\h.IsListIter it a i) where
 mem:=by simp
 obj:=λi h st b f=>by
  obtain⟨⟨c,g⟩,⟨o,J,L,hd⟩⟩:=st;rcases Ji.mp f with z|z
  ·subst z
   refine#[_,g,λv z=>?_]
   have z':Data.fields _=Data.cell v:=z
   cases z'
  ·rw[Jg.mp z]
   exact#[o,J,λv z=>by rw[hd]at z;cases z]
 keep:=λi h h' st k=>#[let⟨c,g⟩:=st.1;#[c,k e (by simp) _ g],st.2.at λo q=>k it (by simp) o q]
 item:=by
  intro X O M G L i tx s σ H E I C st D;subst O M G;obtain⟨xs,x,B,Q⟩:=D;obtain⟨its,R,p,Y⟩:=I.list B;obtain⟨u,U,ru⟩:=R.get Q;obtain⟨⟨c,g⟩,hit⟩:=st;refine wpAny_pyNext_enum_item g hit p.isList (x:=u) (by simpa using U) n λh' J m S a0 hk=>#[_,Z,?_]
  refine wpAny_letOwnedTupleGo_enum J λF j d=>?_
  have l:e<s.heap.objs.size:=Jl g
  have A:it<s.heap.objs.size:=by obtain⟨_,y,_⟩:=hit;exact Jl y
  refine#[.ref s.heap.objs.size,MO H s.heap.objs.size (.tup [.int i,x]),?_,Z,#[_,x,I.hok.fresh (Je _),Z,λys hy=>by rw[I.list_inj hy B];exact Q,Z],#[#[_,by simpa using j],?_],?_]
  ·show L2.MQ X tx σ _ {s with heap:=F,toks:=s.toks+1}
   refine iI (s:=s) (its:=[.int i s.toks,u]) I (ch:=[e,it]) (λb o f q=>?_) C (λb f=>?_) (Je _) (by show 2<=ζ;decide) (.cons #[_,Z] (.cons ru .nil)) ?_
   ·have r:b≠e:=λz=>f (by simp [z])
    have N:b≠it:=λz=>f (by simp [z])
    exact(d.2 b r).trans (hk b o r N q)
   ·rcases Ji.mp f with z|z
    ·subst z;exact#[_,j]
    ·rw[Jg.mp z]
     obtain⟨o,y,_⟩:=m
     exact#[o,(d.2 it (Ne.symm n)).trans y]
   ·exact#[_,(d.2 _ (J0 l)).trans S,Z,_,Z]
  ·exact m.extBut d.extBut (Ne.symm n)
  ·intro b f
   rw[qk]
   ·exact(C b f).1
   ·rcases Ji.mp f with z|z
    ·subst z;exact Ju l
    ·rw[Jg.mp z];exact Ju A
 done:=by
  intro X O M G L i tx s σ H E I C st D;subst O M G;obtain⟨xs,B,Q⟩:=D;obtain⟨its,R,p,Y⟩:=I.list B;obtain⟨⟨c,g⟩,hit⟩:=st;obtain⟨f0,f1,f2,T,f4,f5⟩:=C it (by simp)
  have hl:=R.length;exact wpAny_pyNext_enum_end (I.ok.hd L) g hit p.isList (by simp;lia) λh' W=>#[Z,I.turned (t':=s.toks) (λb o f e=>W b o f e) f0 f1 T f4 f5]
 self:=λ_ _ _ _ _ st h=>by
  obtain⟨⟨c,g⟩,_⟩:=st;exact LG g h
def CF(K:ι)(ta:TA):TI:=λσ H R=>ta σ H λc H1=>∃a,c=[.ref a]/\(∃xs,MV K H1 a xs)/\R (uK K a) H1
theorem DW{a:Φ}{ta:TA}{p pos:Pos}{f:Ι}{x1}{tpos:Pos}(hg:Gl X "enumerate")(hm:X.mg "enumerate"=none)(ha:PA X [a] ta)(hs:θ [a] X.env=[(false,eval a X.env)]:=by rfl):
  PI X (.Tuple f x1 tpos) (.Call (.Name "enumerate" p) [a] [] pos) (CF X.K ta):=by
 intro tx s σ H R I h;refine Call_ (bu I hg hm boot_enumerate (Lg (qF (ha pos tx s σ H _ I h) λB c r=>?_) hs Z))
 obtain⟨C,H1,g,v,y⟩:=r;obtain⟨l,e,⟨xs,m⟩,q⟩:=y;subst e;obtain⟨u,rfl,o⟩:=v.one;cases o;obtain⟨x,D,j,A⟩:=g.list m;refine call_enumerate_list j.isList λh' i hit n hk=>LG i ?_
 have w:L2.MQ X tx σ H1 {c with heap:=h'}:=g.kept (t':=c.toks) hk
 refine#[c.heap.objs.size+1,[c.heap.objs.size+1,c.heap.objs.size],_,_,H1,Z,w,mZ l _ _ (J0 (Iv _)),#[#[_,i],hit],λb t=>?_,q]
 have d:c.heap.objs.size<=b:=by
  rcases Ji.mp t with z|z
  ·rw[z];exact JW _
  ·rw[Jg.mp z];exact Je _
 exact g.fpOk d (g.hok.fresh d)
theorem rm{K:ι}{a:Δ}{xs:Β}{g:TG}{tb:TS}{D:Nq}{σ:L2.St}{H:Hp}(Pv:Nat->L2.St->Hp->Prop)(r:Pv 0 σ H)(hl:∀i σ H,i<=xs.length->Pv i σ H->MV K H a xs)
  (hs:∀i x σ H p,xs[i]? =↑x->Pv i σ H->H p=none->g (.ref p) σ (MO H p (.tup [.int i,x])) λd h=>tb {D with nx:=Pv (i+1),ct:=Pv (i+1),bk:=D.nx} d h)(hd:∀σ H,Pv xs.length σ H->D.nx σ H):
  ∃W:Nat->Nat->L2.St->Hp->Prop,(∃m,W 0 m σ H)/\∀i m σ H,W i m σ H->
   ((uK K a).stop i H/\D.nx σ H)\/((uK K a).go i H/\∃N:L2.St->Hp->Prop,(∀c H',N c H'->∃m',m'<m/\W (i+1) m' c H')/\∀x H',(uK K a).yld i H x H'->g x σ H' λd h=>tb {D with nx:=N,ct:=N,bk:=D.nx} d h):=by
 refine#[λi m σ H=>m=xs.length-i/\i<=xs.length/\Pv i σ H,#[xs.length,by simp,JM _,r],?_]
 rintro i m σ H ⟨rfl,hi,p⟩
 have q:=hl i σ H hi p
 by_cases f:i<xs.length
 ·refine .inr #[#[xs,xs[i],q,by simp [f]],Pv (i+1),λc H' l=>#[xs.length-(i+1),by lia,Z,f,l],λx H' y=>?_]
  obtain⟨j,v,o,rfl,n,rfl⟩:=y;exact hs i v σ H j (n xs q) p o
 ·have e:i=xs.length:=by lia
  subst e;exact .inl #[#[xs,q,Je _],hd σ H p]
end
def zY(t c:String):Bool:=t==c||(t=="bool"&&c=="int")
abbrev me:List String:=["NoneType","bool","int","str","list","tuple"]
abbrev lR:List String:=["bool","int","str","list","tuple"]
theorem lX(K:ι):∀t∈me,∀c∈lR,W.kitOne K (.type t) (.type c)=↑(zY t c):=by
 intro t d c a;simp only[me,lR,Ji,Jr,Js]at d a;rcases d with rfl|rfl|rfl|rfl|rfl|rfl<;>rcases a with rfl|rfl|rfl|rfl|rfl<;>kernel_rfl
section
variable{X:Cx}
theorem sA:zx X (.builtin "isinstance") (λxs H Q=>∃x c t,xs=[x,.ty c]/\Oq X.K H x (.type t)/\t∈me/\c∈lR/\Q (.bl (zY t c)) H):=by
 intro tx s σ H xs g Q I r h;obtain⟨x,c,t,rfl,ty,d,a,q⟩:=h;obtain⟨u,v,rfl,f,e⟩:=cE r
 cases(show v=Γ.type c from e)
 exact wj I f ty (lX X.K t d c a) λtk=>#[.bl _,H,I.tok tk,Z,q]
theorem fA:∀{bs:List Bool} {us:Ζ},MU (bs.map V.bl) us->us=bs.map Γ.bool
 | [],_,.nil=>rfl
 |b::bs,_,.cons r t=>by
  cases(show _=Γ.bool b from r)
  rw[fA t];rfl
theorem vc(bs:List Bool):((List.range bs.length).all λi=>(bs[i]?).getD true)=bs.all id:=by
 rw[IP,Iz,Iz];constructor
 ·intro h b c
  obtain⟨i,hi,e⟩:=List.mem_iff_getElem.mp c
  have:=h i (IL.mpr hi)
  rw[Jk hi,Lm,e]at this;exact this
 ·intro h i hi
  have a:=IL.mp hi;rw[Jk a,Lm];exact h _ (IG a)
theorem Z5(hc:X.calm=true):zx X (.builtin "all") (λxs H Q=>∃(p:Δ) (bs:List Bool),xs=[.ref p]/\MV X.K H p (bs.map V.bl)/\Q (.bl (bs.all id)) H):=by
 intro tx s σ H xs y Q I r h;obtain⟨p,bs,rfl,w,q⟩:=h;obtain⟨u,rfl,n⟩:=Qz r;cases n;obtain⟨c,t,j,C⟩:=I.list w;have e:=fA t;have d:=j.isList;have f:p<s.heap.objs.size:=by obtain⟨_,e,_⟩:=d;exact Jl e
 refine call_all_walk (Lz d ?_)
 refine#[s.heap.objs.size,[s.heap.objs.size,p],[s.heap.objs.size],c.toArray.size,_,_,λi=>(bs[i]?).getD true,Z,Walks.list (A:=X.A.in1) (I.ok.hd hc) _ p (Ju f) c.toArray,
  #[#[_,Jw _ Z,Z,Z],d.push _],λi v s' B z m g=>?_,λh' tk hk=>?_]
 ·have a:c[i]? =↑v:=by simpa using m
  rw[e,Jm]at a;cases eb:bs[i]? with
  |none=>rw[eb]at a;cases a
  |some b=>
   rw[eb]at a
   cases(JE a:Γ.bool b=v)
   simp only[eb,Lm]at g;exact Ir g
 ·have x:((List.range c.toArray.size).all λi=>(bs[i]?).getD true)=bs.all id:=by
   rw[JA,e,Jb];exact vc bs
  rw[x];refine#[.bl _,H,I.kept (h':=h') (t':=tk) λb o q=>hk b o (λl=>?_) (Jj _ q),Z,q]
  rw[Jg.mp l]at q;exact J1 _ (Jl q)
theorem ww:zx X (.type "range") (λxs H Q=>∃j:Int,xs=[.int j]/\∀p,H p=none->Q (.ref p) (MO H p (.rng 0 j))):=by
 intro tx s σ H xs c Q I r h;obtain⟨j,rfl,q⟩:=h;obtain⟨u,rfl,a⟩:=Qz r;obtain⟨t,rfl⟩:=a;refine call_range_1 #[.ref s.heap.objs.size,_,I.laid (o:= .rng 0 j) (λb o e=>Jj _ e) (Je _) #[_,_,_,Jw _ Z],Z,q _ (I.hok.fresh (Je _))]
inductive SG (x:V) (lo:Κ) (hi:Κ) (H:Hp) (Q:VK):Prop
 |mk (a:_) (xs:_) (h1:x= .ref a) (h2:H a=↑(.tup xs)) (h3:∀p H',MM H H'->H' p=↑(.tup (bH xs lo hi))->(p=a\/H p=none)->Q (.ref p) H')
def GP:V->Κ->Κ->Hp->VK->Prop:=λx lo hi H Q=>SG x lo hi H Q
theorem gj{prog:Ξ}{w:Ω}{A:Around}{E:MJ}{s:Θ}{t c:Δ}{items:Array Γ}{g i:Γ}{lo hi:Κ}{Q:MJ}(a:IsTup s.heap t items)(hs:s.heap.IsSliceOf c g i .none)(pl:IsPart g lo)(j:IsPart i hi)
  (hw:HT.sIx items.size 0 lo=0/\HT.sIx items.size items.size hi=items.size)(h:Q (.ref t) s):ε (model prog w) A (getItem (.ref t) (.ref c)) Q E s:=by
 obtain⟨os,d,f,l⟩:=id hs;have e:s.TypeIs (.ref c) "slice":=#[os,d,f]
 unfold getItem
 try with_reducible refine J2 ?_
 first|refine Ja (Jh ?_)|skip
 refine Ja (wpAny_sequenceKey a.typeIs ⋯ ?_)
 refine Ja (wpAny_callSpecial?_slot (name:=Str.ofString "__getitem__") a.typeIs L8
  (J8 L8 a.typeIs entry_tuple_getitem ?_ (args_tuple_getitem _ _)))
 show ε _ _ (γ.Tuple.tupleItemsOf (.ref t) >>= _) _ _ s
 refine Ja (tupleItemsOf_ a ?_)
 refine Ja (wpAny_typeOf e ?_)
 rw[Jd ⋯]
 refine Ja (HT.sliceApplied_gen hs pl j ?_)
 show ε _ _ (if(((HT.sIx items.size 0 lo:Nat):Int)==0&&(1:Int)==1&&(HT.sIx items.size items.size hi-HT.sIx items.size 0 lo)==items.size)=true then _ else _) _ _ s
 rw[hw.1,hw.2,Jd (by simp)]
 refine Ja (m:=γ.Tuple.tupleIsExact _) ?_
 unfold γ.Tuple.tupleIsExact;refine Ja (wpAny_typeOf a.typeIs (Jh ?_))
 rw[Jd (by rfl)]
 exact Ja (IM (Jh #[_,Z,Jh h]))
theorem dz:wH X GP:=by
 intro tx s σ H x v u y lo hi w Q I t l j m h;obtain⟨a,xs,rfl,g,q⟩:=h
 by_cases d:HT.sIx xs.length 0 lo=0/\HT.sIx xs.length xs.length hi=xs.length
 ·cases t
  obtain⟨f,r,i,z⟩:=I.tuple (MW.of g)
  have c:f.toArray.size=xs.length:=by rw[JA];exact r.length.symm
  refine#["tuple",_,PyProof.Rows.slot_tuple_getitem.lookup,i.typeIs,?_]
  refine gj i l j m (by rw[c];exact d) #[.ref a,H,I,Z,q a H (MM.refl H) ?_ (.inl Z)]
  have:bH xs lo hi=xs:=by unfold bH;rw[d.1,d.2];simp
  rw[this];exact g
 ·exact EV tx s σ H _ v u y lo hi w Q I t l j m #[a,xs,Z,MW.of g,d,λp n=>q p _ (λb o e=>by rw[qk (qr e n)];exact e) qa (.inr n)]
inductive Sm (x:V) (y:V) (H:Hp) (Q:VK):Prop
 |mk (a:_) (b:_) (xs:_) (ys:_) (h1:x= .ref a) (h2:y= .ref b) (h3:H a=↑(.tup xs)) (h4:H b=↑(.tup ys)) (h5:xs.length+ys.length<=ζ) (h6:∀p H',MM H H'->H' p=↑(.tup (xs++ys))->Q (.ref p) H')
def GC:R2:=λx y H Q=>Sm x y H Q
theorem lQ:zT X (binaryOp .Add) GC:=by
 intro tx s σ H x y v u Q I w E h;obtain⟨a,b,xs,ys,rfl,rfl,i,m,F,q⟩:=h
 by_cases C:xs=[]
 ·subst C
  cases w;cases E;obtain⟨M,J,K,_⟩:=I.tuple (MW.of i)
  obtain⟨g,N,p2,_⟩:=I.tuple (MW.of m)
  cases J;obtain⟨⟨cls,dd,B,L⟩,t,z,n,D⟩:=id K;obtain⟨⟨A,l,j,r⟩,f,c,n2,d⟩:=id p2;simp only at z D c d
  subst z D c d;exact concat_meets #[_,t,Z] #[_,f,Z] noFill_tuple_add seq_tuple_add Mu Mw (Mz _ _)
   (tuple_addW0 a b _ g.toArray n n2 dd l L r (by simp)) #[t,f,#[.ref b,H,I,Z,q b H (MM.refl H) m]]
 ·refine DB tx s σ H _ _ v u Q I w E #[a,b,xs,ys,Z,Z,MW.of i,MW.of m,C,F,λe=>q a H (MM.refl H) (by subst e;simpa using i),λ_ p G=>q p _ (λb o e=>by rw[qk (qr e G)];exact e) qa]
theorem uG{ns:Ε}{us:Ζ}(r:MU (ns.map V.int) us)(j:Nat)(h:j<us.length)(h':j<ns.length):∃t,us[j]=Γ.int ns[j] t:=by
 obtain⟨u,a,c⟩:=r.get (i:=j) (x:=V.int ns[j]) (by rw[Jm,Jk h'];rfl)
 rw[Jk h]at a;cases a;exact c
theorem BL(ns ms:Ε)(h:ns.length=ms.length):((List.range ns.length).all λj=>(ns.getD j 0==ms.getD j 0))=decide (ns=ms):=by
 rw[IP,Iz,IU];constructor
 ·intro q
  refine List.ext_getElem h λi h1 a=>?_
  have:=q i (IL.mpr h1)
  simp only[JO,Jk h1,Jk a,Lm,Ic]at this;exact this
 ·rintro rfl i _
  simp
end
def Zs:Φ->Bool
 | .Starred .. =>false
 |_=>true
theorem cH{e:Φ}{es:Ι}{env:Env}(h:Zs e=true):θ (e::es) env=(false,eval e env)::θ es env:=by
 cases e<;>first|rfl|cases h
theorem HG{X:Cx}{e:Φ}{es:Ι}{te:TE}{t:TA}(ha:PE X e te)(hr:PA X es t)(h:Zs e=true:=by rfl):PA X (e::es) (vh te t):=DY ha hr (cH h)
structure Df(P:Ξ)(w:Ω)(K:ι)(mg:MK)(base:Ψ)(x:Str)(ps:Α)(k:Nat)(sp:Sp):Prop where
 ex:∃(f:Δ) (fd:FuncData),N9 P w K mg base bI k f fd ps sp/\mg x=↑(.ref f)/\PySem.W.keepIn K (.ref f)=true/\NF K fd ps []
structure At(K:ι)(mg:MK)(x:Str)(st:δ)(ps:Α):Prop where
 ex:∃(f:Δ) (fd:FuncData),PD K x x st f fd/\mg x=↑(.ref f)/\PySem.W.keepIn K (.ref f)=true/\NF K fd ps []
section
variable{P:Ξ}{w:Ω}{K:ι}{mg:MK}{base:Ψ}
theorem At.df{x:Str}{st:δ}{ps N:Α}{k:Nat}{sp:Sp}(a:At K mg x st ps)(S:MN N ps (ql st))(d:∀vs H Q E,sp vs H Q E->vs.length=ps.length)
  (c:∀(f:Δ) (cdv:Γ) (A:Around) (outer:Ο) (s:Θ) (H:Hp) (vs:Β) (Q:VK) (E:XK),M9 k (A.deeper (envOfC x (ql st) s.heap.objs.size f cdv))->sp vs H Q E->
   ∃t,O5 (Qs bI P w K mg base N x (ql st) f cdv A outer s H E).nox (zU st) t/\t {nx:=λ_ H'=>Q .non H',rt:=Q} (Q7 N vs) H):Df P w K mg base x ps (k+1) sp:=by
 obtain⟨f,fd,F,m,e,bd⟩:=a.ex
 exact#[f,fd,F.ok S d (λcdv A outer s H vs Q E g h=>c f cdv A outer s H vs Q E g h),m,e,bd]
end
section
variable{X:Cx}{x:Str}{ps:Α}{k:Nat}{sp:Sp}{e:Φ}{es:Ι}{p pos:Pos}{t:TA}
theorem EL(D:Df X.prog X.w X.K X.mg X.base x ps k sp)(hr:M9 k X.A)(ha:PA X (e::es) t)(hg:Gl X x:=by rfl)(hdb:(x==("__debug__":Str))=false:=by decide)(he:θ (e::es) X.env=(false,eval e X.env)::θ es X.env:=by rfl)(hpl:(backTo pos (θ es X.env)).any (·.1)=false:=by rfl):
  PE X (.Call (.Name x p) (e::es) [] pos) (vB sp [] E0 t):=by
 obtain⟨f,fd,ok,m,a,bd⟩:=D.ex;exact Dk ok hr hg m a bd .nil ki ha hdb he hpl
end
theorem gY{X:Cx}{a:Scope}(e:a.kind= .function)(d:∀x∈a.names,x.2= .local->a.names.lookup x.1=some .local)(c:∀x∈a.names,x.2≠ .cell)
  (free:∀x∈a.names,x.2= .free->x.1∈([]:Α)):NB X a [] []:=#[e,d,c,free,Z,λi j y h=>by simp at h]
theorem Cd{X:Cx}{a:Scope}{y:Str}{j:Nat}(e:a.kind= .function)(d:∀x∈a.names,x.2= .local->a.names.lookup x.1=some .local)(c:∀x∈a.names,x.2≠ .cell)
  (free:∀x∈a.names,x.2= .free->x.1∈([y]:Α))(h1:X.N[j]? =↑y)(h2:X.env.kindOf y=some .cell)(g:(relabel a X.env).names.lookup y=some .cell):NB X a [y] [j]:=
 #[e,d,c,free,Z,λi l y' f h=>by
  cases i with
  |zero=>cases f;cases h;exact#[h1,h2,g]
  |succ i=>simp at f]
theorem Cf{X:Cx}{y:Str}{c:Δ}(h:X.env.cells.lookup y=↑c):∀z d,([(y,c)]:List (Str×Δ)).lookup z=↑d->X.env.cells.lookup z=↑d:=λz d e=>by
 by_cases a:z=y
 ·subst a
  simp at e
  rw[<- e];exact h
 ·simp [J9,show(z==y)=false from by simpa using a]at e
theorem DI{X:Cx}{K:ι}(h:X.K=K):RS X (BO K):=by subst h;exact qQ
abbrev BX(n m k:Int):HO:= .lst [.int n,.int m,.int k]
theorem _root_.L2.MM.upd{H:Hp}{p:Δ}{o:HO}(h:H p=none):MM H (MO H p o):=λb u e=>by rw[qk (qr e h)];exact e
theorem FS(c:Bool): -(2 ^ 64:Int)<(if c=true then(1:Int)else 0):=by cases c<;>decide
theorem E3(c:Bool):(if c=true then(1:Int)else 0)<(2 ^ 64:Int):=by cases c<;>decide
theorem uy{n j:Nat}(h:j<n):bA n (j:Int)=↑j:=by unfold bA;rw[Jd (by lia),Jd (by lia)];simp
def lT(ns:Ε)(lo hi:Κ):Ε:=(ns.drop (HT.sIx ns.length 0 lo)).take (HT.sIx ns.length ns.length hi-HT.sIx ns.length 0 lo)
theorem AL(ns:Ε)(lo hi:Κ):bH (ns.map V.int) lo hi=(lT ns lo hi).map V.int:=by unfold bH lT;rw[Jb,List.map_take,List.map_drop]
theorem Bl(ns:Ε)(lo hi:Κ):(lT ns lo hi).length=min (HT.sIx ns.length ns.length hi-HT.sIx ns.length 0 lo) (ns.length-HT.sIx ns.length 0 lo):=by unfold lT;rw[Ie,L7]
theorem Zf{ns:Ε}{i:Nat}{x:V}(h:(ns.map V.int)[i]? =↑x):∃z,x= .int z/\ns[i]? =↑z:=by
 rw[Jm]at h;cases e:ns[i]? with
 |none=>rw[e]at h;cases h
 |some z=>rw[e]at h;exact#[z,(JE h).symm,Z]
theorem lY{ns:Ε}{i:Nat}(h:i<ns.length):(ns.map V.int)[i]? =↑(.int ns[i]):=by rw[Jm,Jk h];rfl
theorem fE(ns:Ε)(i:Nat)(z:Int):(ns.map V.int).set i (.int z)=(ns.set i z).map V.int:=by rw[List.map_set]
def CT:Option HO->Option String
 |some (.lst _)=>↑"list"
 |some (.tup _)=>↑"tuple"
 |_=>none
def kd(H:Hp):V->Option String
 | .non=>↑"NoneType"
 | .bl _=>↑"bool"
 | .int _=>↑"int"
 | .str _=>↑"str"
 | .ref a=>CT (H a)
 |_=>none
theorem yy{o:Option HO}{t:String}(h:CT o=↑t):(∃xs,o=↑(.lst xs)/\t="list")\/(∃xs,o=↑(.tup xs)/\t="tuple"):=by
 cases o with
 |none=>cases h
 |some u=>
  cases u with
  |lst xs=>cases h;exact .inl #[xs,Z,Z]
  |tup xs=>cases h;exact .inr #[xs,Z,Z]
  |_=>cases h
theorem jY{H:Hp}{a:Δ}{t:String}(h:kd H (.ref a)=↑t):(∃xs,H a=↑(.lst xs)/\t="list")\/(∃xs,H a=↑(.tup xs)/\t="tuple"):=yy h
theorem Gi{K:ι}{H:Hp}{x:V}{t:String}(h:kd H x=↑t):Oq K H x (.type t)/\t∈me:=by
 cases x with
 |non=>cases h;exact#[.non,by simp]
 |bl b=>cases h;exact#[.bl b,by simp]
 |int i=>cases h;exact#[.int i,by simp]
 |str x=>cases h;exact#[.str x,by simp]
 |byt b=>cases h
 |flt b=>cases h
 |ty b=>cases h
 |ref a=>
  rcases jY h with⟨xs,e,rfl⟩|⟨xs,e,rfl⟩
  ·exact#[.lst e,by simp]
  ·exact#[.tup e,by simp]
theorem iy{H H':Hp}{x:V}{t:String}(s:MM H H')(h:kd H x=↑t):kd H' x=↑t:=by
 cases x with
 |ref a=>
  rcases jY h with⟨xs,e,rfl⟩|⟨xs,e,rfl⟩
  ·show CT (H' a)=_;rw[s _ _ e];rfl
  ·show CT (H' a)=_;rw[s _ _ e];rfl
 |_=>exact h
def fm:V->Bool
 | .int i=>decide (0<=i)&&decide (i<16)
 |_=>false
theorem Zr{α:Type}{xs:List α}{r:Int}(c:0<=r)(h1:r<xs.length):∃v,Q2 xs r=↑v/\v∈xs:=by
 have a:r.toNat<xs.length:=by lia
 refine#[xs[r.toNat],?_,IG a]
 have e:Q2 xs ((r.toNat:Nat):Int)=some xs[r.toNat]:=zV (Jk a)
 rwa [show((r.toNat:Nat):Int)=r by lia]at e
inductive Sn (K:ι) (vs:Β) (H:Hp) (Q:VK):Prop
 |mk (a:Δ) (ns:Ε) (h1:vs=[.ref a]) (h2:MV K H a (ns.map V.int)) (h3:ns.length<=63) (h4:∀H',Q (.bl true) H')
def oX(K:ι):Sp:=λa H Q _=>Sn K a H Q
inductive Rg (vs:Β) (H:Hp) (Q:VK):Prop
 |mk (x:_) (t:_) (h1:vs=[x]) (h2:kd H x=↑t) (h3:Q (.bl (fm x)) H)
def tX:Sp:=λa H Q _=>Rg a H Q
inductive PF (vs:Β) (H:Hp) (Q:VK):Prop
 |mk (p:_) (xs:_) (h1:vs=[.ref p]) (h2:H p=↑(.tup xs)) (h3:xs.length<=ζ) (h4:(∀x∈xs,∃t,kd H x=↑t)) (h5:∀H',MM H H'->Q (.bl (xs.all fm)) H')
def rW:Sp:=λa H Q _=>PF a H Q
end L3
namespace L3
open PySem PySem.Spec L2
structure QE(X:Cx)(e:Φ)(t:TE):Prop where
 h:PE X e t
structure QT(X:Cx)(e:Φ)(t:TT):Prop where
 h:PT X e t
structure QW(X:Cx)(e:Φ)(t:TT):Prop where
 h:PW X e t
structure QA(X:Cx)(e:Ι)(t:TA):Prop where
 h:PA X e t
structure QS(X:Cx)(e:δ)(t:TS):Prop where
 h:PS X e t
structure Pu(X:Cx)(e:List δ)(t:TS):Prop where
 h:O5 X e t
structure QG(X:Cx)(e:Φ)(t:TG):Prop where
 h:PG X e t
structure Su(X:Cx)(e:Ι)(t:bz):Prop where
 h:ug X e t
structure QO(X:Cx)(e:Υ)(t:TO):Prop where
 h:PO X e t
structure QI(X:Cx)(tg e:Φ)(t:TI):Prop where
 h:PI X tg e t
variable{X:Cx}
theorem qi{i j pos}:QE X (.Constant (.int i) j pos) (tC (.int i)):=#[FB]
theorem QC{b j pos}:QE X (.Constant (.bool b) j pos) (tC (.bl b)):=#[Go]
theorem zk{j pos}:QE X (.Constant .none j pos) (tC .non):=#[EA]
theorem qj{x j pos}:QE X (.Constant (.str x) j pos) (tC (.str x)):=#[FE]
theorem zj{x:Str}{v:V}{u:Γ}{pos:Pos}(hg:Gl X x)(hm:X.mg x=↑u)(r:MT v u)(hd:(x==("__debug__":Str))=false:=by decide):QE X (.Name x pos) (tC v):=#[DN (hg:=hg) (hm:=hm) (r:=r) (hd:=hd)]
theorem qW{x:Str}{v:V}{u:Γ}{pos:Pos}(hg:Gl X x)(hm:X.mg x=none)(hv:bootBuiltins x=↑u)(r:MT v u)(hn:x≠"__name__":=by decide)(hd:(x==("__debug__":Str))=false:=by decide):QE X (.Name x pos) (tC v):=#[Ea (hg:=hg) (hm:=hm) (hv:=hv) (r:=r) (hn:=hn) (hd:=hd)]
theorem qC{a b:Φ}{ta tb:TE}{pos:Pos}{c:Operator}{r:R2}(ho:zT X (binaryOp c) r)(ha:QE X a ta)(hb:QE X b tb):QE X (.BinOp a c b pos) (nu r ta tb):=#[Gm (ho:=ho) (ha:=ha.h) (hb:=hb.h)]
theorem kf{a:Φ}{ta:TE}{pos:Pos}{c:UnaryOp}{r:V->Hp->VK->Prop}(ho:CS X (unaryOp c) r)(ha:QE X a ta):QE X (.UnaryOp c a pos) (GG r ta):=#[Gs (ho:=ho) (ha:=ha.h)]
theorem zz{a b:Φ}{ta tb:TE}{pos:Pos}{c:CmpOp}{r:R2}(ho:zT X (compareOp c) r)(ha:QE X a ta)(hb:QE X b tb)(hm:behindInMarks c b=false):QE X (.Compare a [c] [b] pos) (nu r ta tb):=#[Er (ho:=ho) (ha:=ha.h) (hb:=hb.h) (hm:=hm)]
theorem qy{a b:Φ}{ta tb:TE}{pos:Pos}{c:CmpOp}{r:R2}(ho:zT X (compareOp c) r)(ha:QE X a ta)(hb:QE X b tb)(hm:behindInMarks c b=false):QT X (.Compare a [c] [b] pos) (iz (nu r ta tb)):=#[Eh (ho:=ho) (ha:=ha.h) (hb:=hb.h) (hm:=hm)]
theorem jL{a b c:Φ}{ta tb tc:TE}{pos:Pos}{d op':CmpOp}{r e:R2}(ho:zT X (compareOp d) r)(ho':zT X (compareOp op') e)(ha:QE X a ta)(hb:QE X b tb)(hc:QE X c tc)(hm:lastMarks [d,op'] [b,c]=false:=by with_unfolding_all rfl):QE X (.Compare a [d,op'] [b,c] pos) (lj r e ta tb tc):=#[Au (ho:=ho) (ho':=ho') (ha:=ha.h) (hb:=hb.h) (hc:=hc.h) (hm:=hm)]
theorem jE{a b c:Φ}{ta tb tc:TE}{pos:Pos}{d op':CmpOp}{r e:R2}(ho:zT X (compareOp d) r)(ho':zT X (compareOp op') e)(ha:QE X a ta)(hb:QE X b tb)(hc:QE X c tc)(hm:lastMarks [d,op'] [b,c]=false:=by with_unfolding_all rfl):QT X (.Compare a [d,op'] [b,c] pos) (iz (lj r e ta tb tc)):=#[BP (ho:=ho) (ho':=ho') (ha:=ha.h) (hb:=hb.h) (hc:=hc.h) (hm:=hm)]
theorem Qc{a b:Φ}{rest:Ι}{ta tb:TE}{pos:Pos}(ha:QE X a ta)(hb:QE X (.BoolOp .And (b::rest) pos) tb):QE X (.BoolOp .And (a::b::rest) pos) (Ct ta tb):=#[Fx (ha:=ha.h) (hb:=hb.h)]
theorem Qx{a:Φ}{pos:Pos}{op}{t:TE}(h:QE X a t):QE X (.BoolOp op [a] pos) t:=#[Fr (h:=h.h)]
theorem gA{a:Φ}{ta:TE}{pos:Pos}(ha:QE X a ta):QE X (.UnaryOp .Not a pos) (CM ta):=#[FG (ha:=ha.h)]
theorem rV{a b:Φ}{rest:Ι}{tA tB':TT}{pos:Pos}(ha:QT X a tA)(hb:QW X (.BoolOp .And (b::rest) pos) tB'):QW X (.BoolOp .And (a::b::rest) pos) (FD tA tB'):=#[Fv (ha:=ha.h) (hb:=hb.h)]
theorem Q0{a b:Φ}{rest:Ι}{tA tB':TT}{pos:Pos}(ha:QT X a tA)(hb:QW X (.BoolOp .Or (b::rest) pos) tB'):QW X (.BoolOp .Or (a::b::rest) pos) (GH tA tB'):=#[Gz (ha:=ha.h) (hb:=hb.h)]
theorem mE{a:Φ}{tA:TT}{pos:Pos}(ha:QT X a tA):QW X (.BoolOp .And [a] pos) tA:=#[Dx (ha:=ha.h)]
theorem QH{a:Φ}{tA:TT}{pos:Pos}(ha:QT X a tA):QW X (.BoolOp .Or [a] pos) tA:=#[FC (ha:=ha.h)]
theorem zW{a:Φ}{tA:TT}{pos:Pos}(ha:QT X a tA):QT X (.UnaryOp .Not a pos) (Eu tA):=#[FQ (ha:=ha.h)]
theorem zn{e:Φ}{t:TE}(h:QE X e t)(he:∀a,isTrue e X.env a=(do let v <- a;standAt e.pos;holding [v] (truthy v)):=by intro _;rfl):QT X e (tB t):=#[F4 (h:=h.h) (he:=he)]
theorem jt{a b:Φ}{ta tb:TE}{tA:TT}{pos:Pos}{c:Φ}(hc:QT X c tA)(ha:QE X a ta)(hb:QE X b tb):QE X (.IfExp c a b pos) (GF tA ta tb):=#[Cb (hc:=hc.h) (ha:=ha.h) (hb:=hb.h)]
theorem qc{e:Φ}{es:Ι}{te:TE}{t:TA}(ha:QE X e te)(hr:QA X es t)(h:Zs e=true:=by rfl):QA X (e::es) (vh te t):=#[HG (ha:=ha.h) (hr:=hr.h) (h:=h)]
theorem qb:QA X [] Bj:=#[EJ]
theorem qG{es:Ι}{t:TA}{pos:Pos}{x1}(h:QA X es t):QE X (.Tuple es x1 pos) (ED t):=#[Fn (h:=h.h)]
theorem zd{es:Ι}{t:TA}{pos:Pos}(h:QA X es t):QE X (.List es pos) (EC t):=#[E2 (h:=h.h)]
theorem qD{a b:Φ}{ta tb:TE}{pos:Pos}{r:R2}(hr:RS X r)(ha:QE X a ta)(hb:QE X b tb)(hs:uO b:=by exactλ_ _=>rfl):QE X (.Subscript a b pos) (nu r ta tb):=#[Gd (hr:=hr) (ha:=ha.h) (hb:=hb.h) (hs:=hs)]
theorem aN{e:Φ}{te:TE}{lo hi:Υ}{tl th:TO}{pos p2:Pos}{r:V->Κ->Κ->Hp->VK->Prop}(hr:wH X r)(he:QE X e te)(hl:QO X lo tl)(hu:QO X hi th):QE X (.Subscript e (.Slice lo hi none p2) pos) (GE r te tl th):=#[Aw (hr:=hr) (he:=he.h) (hl:=hl.h) (hu:=hu.h)]
theorem bW:QO X none uP:=#[Dg]
theorem bU{e:Φ}{te:TE}(h:QE X e te):QO X ↑e (Cu te):=#[DP (h:=h.h)]
theorem qp{x:Str}{p pos:Pos}{e:Φ}{es:Ι}{t:TA}{id:String}{r:Β->Hp->VK->Prop}(hc:zx X (.builtin id) r)(hm:X.mg x=none)(hv:bootBuiltins x=↑(.builtin id))(ha:QA X (e::es) t)(hg:Gl X x:=by rfl)(hn:x≠"__name__":=by decide)(hdb:(x==("__debug__":Str))=false:=by decide)(he:θ (e::es) X.env=(false,eval e X.env)::θ es X.env:=by rfl)(hpl:(backTo pos (θ es X.env)).any (·.1)=false:=by rfl):QE X (.Call (.Name x p) (e::es) [] pos) (CN r t):=#[AX (hc:=hc) (hg:=hg) (hm:=hm) (hv:=hv) (ha:=ha.h) (hn:=hn) (hdb:=hdb) (he:=he) (hpl:=hpl)]
theorem qI{x:Str}{p pos:Pos}{e:Φ}{es:Ι}{t:TA}{T:String}{r:Β->Hp->VK->Prop}(hc:zx X (.type T) r)(hm:X.mg x=none)(hv:bootBuiltins x=↑(.type T))(ha:QA X (e::es) t)(hg:Gl X x:=by rfl)(hn:x≠"__name__":=by decide)(hdb:(x==("__debug__":Str))=false:=by decide)(he:θ (e::es) X.env=(false,eval e X.env)::θ es X.env:=by rfl)(hpl:(backTo pos (θ es X.env)).any (·.1)=false:=by rfl):QE X (.Call (.Name x p) (e::es) [] pos) (CN r t):=#[xm (hc:=hc) (hg:=hg) (hm:=hm) (hv:=hv) (ha:=ha.h) (hn:=hn) (hdb:=hdb) (he:=he) (hpl:=hpl)]
theorem qu{x:Str}{ps:Α}{k:Nat}{sp:Sp}{e:Φ}{es:Ι}{p pos:Pos}{t:TA}(D:Df X.prog X.w X.K X.mg X.base x ps k sp)(hr:M9 k X.A)(ha:QA X (e::es) t)(hg:Gl X x:=by rfl)(hdb:(x==("__debug__":Str))=false:=by decide)(he:θ (e::es) X.env=(false,eval e X.env)::θ es X.env:=by rfl)(hpl:(backTo pos (θ es X.env)).any (·.1)=false:=by rfl):QE X (.Call (.Name x p) (e::es) [] pos) (vB sp [] E0 t):=#[EL (D:=D) (hr:=hr) (ha:=ha.h) (hg:=hg) (hdb:=hdb) (he:=he) (hpl:=hpl)]
theorem qq:Pu X [] Cj:=#[Eg]
theorem qg{st:δ}{rest:List δ}{t u:TS}(h1:QS X st t)(h2:Pu X rest u):Pu X (st::rest) (gm t u):=#[BC (h1:=h1.h) (h2:=h2.h)]
theorem qh{st:δ}{t:TS}(h1:QS X st t):Pu X [st] t:=#[Ep (h1:=h1.h)]
theorem qE{pos:Pos}{i:Nat}{x:Str}{e:Φ}{te:TE}{pos':Pos}(hN:X.N.Nodup)(hi:X.N[i]? =↑x)(hx:kD X.env.scope x)(he:QE X e te)(hs:swapsWith e ↑(.Name x pos') pos.line X.env=pure false:=by rfl)(hf:X.fn x=true\/X.env.scope.names.lookup x=some .local:=by first|exact .inl Z|exact .inr Z|assumption):QS X (.Assign [.Name x pos'] e pos) (lZ te (aG i)):=#[Ft (hN:=hN) (hi:=hi) (hx:=hx) (he:=he.h) (hs:=hs) (hf:=hf)]
theorem Qk{pos:Pos}{tg e:Φ}{te:TE}{g:TG}(he:QE X e te)(hg:QG X tg g)(hs:swapsWithSole [tg] e pos.line X.env=pure false:=by rfl)(hw:swappedStores [tg] e X.env=pure none:=by rfl)(h1:(assignEach [tg] X.env).map (·.2)=[assign tg X.env]:=by rfl):QS X (.Assign [tg] e pos) (lZ te g):=#[Fs (he:=he.h) (hg:=hg.h) (hs:=hs) (hw:=hw) (h1:=h1)]
theorem qm{e:Φ}{te:TE}{pos:Pos}(he:QE X e te):QS X (.Return ↑e pos) (FK te):=#[E1 (he:=he.h)]
theorem qA{t u:TS}{pos:Pos}{c:Φ}{a b:List δ}{tc:TT}(hc:QT X c tc)(ha:Pu X a t)(hb:Pu X b u):QS X (.If c a b pos) (FZ tc t u):=#[Gc (hc:=hc.h) (ha:=ha.h) (hb:=hb.h)]
theorem Qo{tg:Φ}{a:Φ}{c:List δ}{d:TI}{g:TG}{tb:TS}{pos:Pos}(hp:PassesOwn (model X.prog X.w) X.A X.env X.xe)(hc:X.calm=true)(hi:QI X tg a d)(hg:QG X tg g)(hb:Pu X c tb)(hs:∀x,foldedSetIterable a X.env x=pure x:=by intro _;rfl):QS X (.For tg a c [] pos) (BW d g tb):=#[F3 (hp:=hp) (hc:=hc) (hi:=hi.h) (hg:=hg.h) (hb:=hb.h) (hs:=hs)]
theorem zb{e:Φ}{te:TE}{pos:Pos}(he:QE X e te)(hs:swapsWith e none pos.line X.env=pure false:=by rfl):QS X (.Expr e pos) (Co te):=#[DC (he:=he.h) (hs:=hs)]
theorem Em{pos:Pos}{o i e:Φ}{to h te:TE}{a:V->V->Hp->VK->Prop}{d:wP}{c:jN}{j:Operator}{tpos:Pos}(ho:QE X o to)(hi:QE X i h)(hg:BB X a)(he:QE X e te)(hp:FV X j d)(hs:sj X c)(ha:∀g f new,augStore i g f new=(do holding [new,g,f] (setItem g f new);release [new,g,f] [];pure .next):=by intros;rfl):QS X (.AugAssign (.Subscript o i tpos) j e pos) (Cs to h te a d c):=#[Dw (ho:=ho.h) (hi:=hi.h) (hg:=hg) (he:=he.h) (hp:=hp) (hs:=hs) (ha:=ha)]
theorem c7{tg:Φ}{l:Φ}{tl:TE}(hl:QE X l tl):QI X tg l (CL X.K tl):=#[Eb (hl:=hl.h)]
theorem jS{tg:Φ}{l:Φ}{tl:TE}(hl:QE X l tl):QI X tg l (F5 X.K tl):=#[Fp (hl:=hl.h)]
theorem Q9{tg:Φ}{a:Φ}{ta:TA}{p pos:Pos}(hg:Gl X "range")(hm:X.mg "range"=none)(ha:QA X [a] ta)(hs:θ [a] X.env=[(false,eval a X.env)]:=by rfl):QI X tg (.Call (.Name "range" p) [a] [] pos) (CW ta):=#[yz (hg:=hg) (hm:=hm) (ha:=ha.h) (hs:=hs)]
theorem Db{a:Φ}{ta:TA}{p pos:Pos}{c:Ι}{x1}{tpos:Pos}(hg:Gl X "enumerate")(hm:X.mg "enumerate"=none)(ha:QA X [a] ta)(hs:θ [a] X.env=[(false,eval a X.env)]:=by rfl):QI X (.Tuple c x1 tpos) (.Call (.Name "enumerate" p) [a] [] pos) (CF X.K ta):=#[DW (hg:=hg) (hm:=hm) (ha:=ha.h) (hs:=hs)]
theorem qB{pos:Pos}{i:Nat}{x:Str}(hN:X.N.Nodup)(hi:X.N[i]? =↑x)(hx:kD X.env.scope x)(hf:X.fn x=true\/X.env.scope.names.lookup x=some .local:=by first|exact .inl Z|exact .inr Z|assumption):QG X (.Name x pos) (aG i):=#[Dp (hN:=hN) (hi:=hi) (hx:=hx) (hf:=hf)]
theorem bY{pos:Pos}{es:Ι}{k:Nat}{t:bz}{n:Nat}(hc:X.calm=true)(h:Su X es t)(hn:(assignEach es X.env).length=n:=by rfl)(hst:(assignEach es X.env).findIdx? (·.1)=none:=by rfl):QG X (.Tuple es k pos) (uV X.K n t):=#[rP (hc:=hc) (h:=h.h) (hn:=hn) (hst:=hst)]
theorem bw{pos:Pos}{o i:Φ}{to d:TE}{t:jN}(ho:QE X o to)(hi:QE X i d)(hs:sj X t)(ha:∀v,assign (.Subscript o i pos) X.env v=(do
      let a <- holding [v] (eval o X.env)
      let c <- holding [v,a] (eval i X.env)
      standAt pos
      holding [v,a,c] (setItem a c v)
      release [v,a,c] []):=by intro _;rfl):QG X (.Subscript o i pos) (ET to d t):=#[Fo (ho:=ho.h) (hi:=hi.h) (hs:=hs) (ha:=ha)]
theorem Qf:Su X [] B9:=#[Ei]
theorem qJ{e:Φ}{es:Ι}{t:TG}{u:bz}(h1:QG X e t)(h2:Su X es u)(hs:(assignEach (e::es) X.env).map (·.2)=assign e X.env::(assignEach es X.env).map (·.2):=by rfl):Su X (e::es) (ph t u):=#[Bi (h1:=h1.h) (h2:=h2.h) (hs:=hs)]
theorem QW.pt{e:Φ}{t:TT}(h:QW X e t):QT X e t:=#[PW.pt h.h]
theorem qv(i:Nat){x:Str}{pos:Pos}(hN:X.N[i]? =↑x:=by rfl)(hv:Fu X.env.scope x:=by first|exact Or.inl Z|exact Or.inr (Or.inl Z)|exact Or.inr (Or.inr Z))(hd:(x==("__debug__":Str))=false:=by decide)
  (a:(x==("__classdict__":Str))=false:=by decide):QE X (.Name x pos) (FJ i):=#[Fj hN hv hd a]
theorem Qy{h tg d:Φ}{a:Scope}{cl:List (Str×Δ)}{pos:Pos}{fr own:Α}{js:Μ}{l:TI}{g:TG}{te:TE}
  (hc:X.calm=true)(hi:QI X tg d l)(f:closureFor a X.env=pure cl)(i:∀y c,cl.lookup y=↑c->X.env.cells.lookup y=↑c)(j:cl.map (·.1)=fr)
  (S:NB X a fr js)
  (hg:∀C s H e,QG (Qm X (own++fr) a cl C s H e) tg g)(he:∀C s H e,QE (Qm X (own++fr) a cl C s H e) h te)
  (hs:∀x,foldedSetIterable d X.env x=pure x:=by intro _;rfl):
  QE X (.ListComp h [#[tg,d,[],0]] a pos) (kK own.length js l g te):=#[Eo hc hi.h f i j S (λC s H e=>(hg C s H e).h) (λC s H e=>(he C s H e).h) hs]
theorem tJ{h tg d:Φ}{a:Scope}{cl:List (Str×Δ)}{pos e q:Pos}{fr own:Α}{js:Μ}{p:TI}{g:TG}{te:TE}{i:Nat}{y:Str}
  (hN:X.N.Nodup)(l:X.N[i]? =↑y)(hx:kD X.env.scope y)
  (hc:X.calm=true)(hi:QI X tg d p)(j:closureFor a X.env=pure cl)(n:∀y c,cl.lookup y=↑c->X.env.cells.lookup y=↑c)(o:cl.map (·.1)=fr)
  (S:NB X a fr js)
  (hg:∀C s H f,QG (Qm X (own++fr) a cl C s H f) tg g)(he:∀C s H f,QE (Qm X (own++fr) a cl C s H f) h te)
  (hs:∀x,foldedSetIterable d X.env x=pure x:=by intro _;rfl)(m:swapsWith (.ListComp h [#[tg,d,[],0]] a pos) ↑(.Name y q) e.line X.env=pure true:=by rfl)
  (hf:X.fn y=true\/X.env.scope.names.lookup y=some .local:=by first|exact .inl Z|exact .inr Z|assumption):
  QS X (.Assign [.Name y q] (.ListComp h [#[tg,d,[],0]] a pos) e) (lZ (kK own.length js p g te) (aG i)):=#[En hN l hx hc hi.h j n o S (λC s H f=>(hg C s H f).h) (λC s H f=>(he C s H f).h) hs m hf]
section
variable{P:Ξ}{w:Ω}{K:ι}{mg:MK}{base:Ψ}
theorem At.dq{x:Str}{st:δ}{ps N:Α}{k:Nat}{sp:Sp}(a:At K mg x st ps)(S:MN N ps (ql st))
  (c:∀(f:Δ) (cdv:Γ) (A:Around) (outer:Ο) (s:Θ) (H:Hp) (vs:Β) (Q:VK) (E:XK),M9 k (A.deeper (PyProof.Rows.envOfC x (ql st) s.heap.objs.size f cdv))->sp vs H Q E->
   ∃t,Pu (Qs bI P w K mg base N x (ql st) f cdv A outer s H E).nox (zU st) t/\t {nx:=λ_ H'=>Q .non H',rt:=Q} (Q7 N vs) H)(d:∀vs H Q E,sp vs H Q E->vs.length=ps.length:=by intro vs H Q E h;first|(cases h;subst_vars;rfl)|((repeat first|obtain⟨rfl,h⟩:=h|obtain⟨_,h⟩:=h);all_goals rfl)):Df P w K mg base x ps (k+1) sp:=
 a.df S d λf cdv A outer s H vs Q E e h=>let⟨t,q1,q2⟩:=c f cdv A outer s H vs Q E e h;#[t,q1.h,q2]
theorem _root_.L2.PD.dq{x Tb:Str}{st:δ}{f:Δ}{fd:FuncData}{N ps:Α}{k:Nat}{sp:Sp}(F:PD K x Tb st f fd)(S:MN N ps (ql st))(c:∀vs H Q E,sp vs H Q E->vs.length=ps.length)
  (a:∀(cdv:Γ) (A:Around) (outer:Ο) (s:Θ) (H:Hp) (vs:Β) (Q:VK) (E:XK),M9 k (A.deeper (PyProof.Rows.envOfC Tb (ql st) s.heap.objs.size f cdv))->sp vs H Q E->
   ∃t,Pu (Qs bI P w K mg base N Tb (ql st) f cdv A outer s H E).nox (zU st) t/\t {nx:=λ_ H'=>Q .non H',rt:=Q} (Q7 N vs) H):N9 P w K mg base bI (k+1) f fd ps sp:=
 F.ok S c λcdv A outer s H vs Q E d h=>let⟨t,q1,q2⟩:=a cdv A outer s H vs Q E d h;#[t,q1.h,q2]
theorem Gr{x:Str}{st:δ}{ps:Α}{f:Δ}{fd:FuncData}(F:PD K x x st f fd)(m:mg x=↑(.ref f))(b:NF K fd ps []):At K mg x st ps:=#[f,fd,F,m,F.kp,b]
end
end L3
namespace L3
open PySem PySem.Spec PyProof.Rows L2
def Nt:Ε:=(List.range 16).map λi=>((i:Nat):Int)
theorem BK:Nt.length=16:=by decide
theorem Dj{α:Type}{xs:List α}{z:Int}{j:Nat}{v:α}(e:z=(j:Int))(h:xs[j]? =↑v):Q2 xs z=↑v:=by rw[e];exact zV h
theorem lI{n j:Nat}{z:Int}(e:z=(j:Int))(h:j<n):bA n z=↑j:=by rw[e];exact uy h
theorem pT{z:Int}(h:z∈Nt):0<=z/\z<16:=by
 obtain⟨i,hi,e⟩:=Jy.mp h
 have:=IL.mp hi
 lia
end L3
namespace L3
open PySem PySem.Spec PyProof.Rows L2
open Sem (wp)
section
variable{prog:Ξ}{w:Ω}{A:Around}{E:MJ}{s:Θ}
theorem vX{it t:Δ}{i:Nat}{its:Array Γ}{x:Γ}{Q:MJ}(hit:s.heap.IsTupleIter it t i)(g:s.heap.IsTuple t its)(hx:its[i]? =↑x)
  (h:∀h',h'.IsTupleIter it t (i+1)->Ψ.SameBut it s.heap h'->Q x {s with heap:=h'}):ε (model prog w) A (γ.SmallTypes.nextOf (.ref it)) Q E s:=by
 obtain⟨o,c,f,a⟩:=id hit;obtain⟨ol,e,_,j,d⟩:=g;unfold γ.SmallTypes.nextOf;refine Ja (wpAny_callSpecial?_slot (name:=Str.ofString "__next__") hit.typeIs Mh
  (J8 Mh hit.typeIs F.entry_tuple_iterator_next ?_ (F.args_tuple_iterator_next_1 _)))
 show ε _ _ (field (.ref it) 0 >>= _) _ _ s
 refine Ja (JI c a (x:= .ref t) Z ?_)
 show ε _ _ (if(Γ.ref t==Γ.none)=true then _ else _) _ _ s
 rw[Jc (show¬((Γ.ref t==Γ.none)=true)from JG)]
 show ε _ _ (field (.ref it) 1 >>= _) _ _ s
 refine Ja (JI c a (x:= .int i 0) Z ?_)
 show ε _ _ (seqItems? (.ref t) >>= _) _ _ s
 refine Ja (IV e d ?_)
 simp only[LH,hx];refine Ja (IH c a (by simp) (Jh #[x,Z,Jh (h _ ?_ (LI ..))]))
 exact#[_,ID _ c (Ln (IA a _)),(Obj.cls_mapFields ..).trans f,by
  rw[IA a];simp [rawInt]]
theorem nX{it t:Δ}{i:Nat}{its:Array Γ}{Q:MJ}(h:A.handled=none)(hit:s.heap.IsTupleIter it t i)(j:s.heap.IsTuple t its)(hx:its[i]? =none)
  (l:∀h' e,Ψ.ExtBut it s.heap h'->(∃o,h'.get? e=↑o/\o.cls= .type "StopIteration")->E (.ref e) {s with heap:=h'}):
  ε (model prog w) A (γ.SmallTypes.nextOf (.ref it)) Q E s:=by
 obtain⟨o,d,n,c⟩:=id hit;obtain⟨ol,g,_,p,f⟩:=j;unfold γ.SmallTypes.nextOf;refine Ja (wpAny_callSpecial?_slot (name:=Str.ofString "__next__") hit.typeIs Mh
  (J8 Mh hit.typeIs F.entry_tuple_iterator_next ?_ (F.args_tuple_iterator_next_1 _)))
 show ε _ _ (field (.ref it) 0 >>= _) _ _ s
 refine Ja (JI d c (x:= .ref t) Z ?_)
 show ε _ _ (if(Γ.ref t==Γ.none)=true then _ else _) _ _ s
 rw[Jc (show¬((Γ.ref t==Γ.none)=true)from JG)]
 show ε _ _ (field (.ref it) 1 >>= _) _ _ s
 refine Ja (JI d c (x:= .int i 0) Z ?_)
 show ε _ _ (seqItems? (.ref t) >>= _) _ _ s
 refine Ja (IV g f ?_)
 simp only[LH,hx];refine Ja (IM (Ja (IH d c (by simp) ?_)))
 show ε _ _ (newExc (.type "StopIteration") [] >>= _) _ _ _
 refine Ja ?_
 simp only[newExc,newTuple];refine Ja (J6 ?_ (by size_fits))
 refine Ja (m:=firstArgMember _ _) (Io (a:=Γ.none) (by first|rfl|(simp only[firstArgMember];rfl)) ?_)
 refine J6 ?_ (by size_fits)
 simp only[raiseNew];refine Ja (wpAny_handled ?_)
 first|rw[show A.in1.handled=none from h]|rw[h]
 refine Ja (Jh (wpAny_throw ?_))
 exact l _ _ (((LI ..).extBut.push _).push _) #[_,Jw _ Z,Z]
end
theorem ym{prog:Ξ}{w:Ω}{A:Around}(f:A.handled=none)(it t:Δ)(d:t≠it)(its:Array Γ):
  Draws prog w A it [it,t] its.size (λi v=>its[i]? =↑v) (λi h=>h.IsTupleIter it t i/\h.IsTuple t its) where
 live:=λ_ _ st=>let⟨o,ho,_⟩:=st.1;#[o,ho]
 frame:=λ_ _ _ st hk=>#[st.1.at λo e=>hk it (by simp) o e,let⟨o,e,r⟩:=st.2;#[o,hk t (by simp) o e,r]]
 item:=λi s Q E hi st g=>by
  refine vX st.1 st.2 (x:=its[i]) (by simp [hi]) λh' c a=>?_
  exact g _ h' s.toks (by simp [hi]) #[c,let⟨o,e,r⟩:=st.2;#[o,a.extBut _ _ d e,r]] a
 done:=λs Q E st j=>nX f st.1 st.2 (by simp) j
open AutoSeq1 (wpAny_loadPart')in
theorem sX(l:Δ)(items:Array Γ)(n:Nat)(f:Λ)(j:Array Ν):
  Meets (γ.«enumerate.__new__» #[[.type "enumerate",.ref l],[]]) (λ_ R s=>s.heap.get? l=some {cls:= .type "tuple",dict:=f,data:= .seq items n,slots:=j}/\
   R (.ok (.ret (.ref (s.heap.push {cls:= .type "tuple_iterator",data:= .fields (List.toArray [.ref l,.int 0 0])}).objs.size)))
    {s with heap:=(s.heap.push {cls:= .type "tuple_iterator",data:= .fields (List.toArray [.ref l,.int 0 0])}).push {cls:= .type "enumerate",data:= .fields (List.toArray [.none,.bool false,.ref s.heap.objs.size,rawInt 0,.none,.none])}}):=
 .of_wp λprog w A R s h=>by
  obtain⟨m,g,d,tk,os⟩:=s;obtain⟨a,h⟩:=h
  have i:=sub_enumerate;have e:Ψ.IsTuple (Θ.heap #[m,g,d,tk,os]) l items:=#[_,a,Z,n,Z]
  wp_walk using Lo a
  refine wpAny_stack_any λst=>Jh ?_
  split
  ·rename_i c _ _ _ _ _
   cases(c==Γ.type "enumerate")
   ·wp_walk using Lo a,IC e
    exact#[_,Z,h]
   ·wp_walk using Lo a,IC e
    exact#[_,Z,h]
  ·wp_walk using Lo a,IC e
   exact#[_,Z,h]
section
variable{prog:Ξ}{w:Ω}{A:Around}{E:MJ}{s:Θ}
theorem vI{l:Δ}{items:Array Γ}{Q:MJ}(p:s.heap.IsTuple l items)
  (h:∀h',IsEnum h' (s.heap.objs.size+1) s.heap.objs.size 0 .none->h'.IsTupleIter s.heap.objs.size l 0->(∀b o,s.heap.get? b=↑o->h'.get? b=↑o)->Q (.ref (s.heap.objs.size+1)) {s with heap:=h'}):
  ε (model prog w) A (call (.type "enumerate") [.ref l]) Q E s:=by
 obtain⟨⟨c,f,j,q⟩,m,a,n,e⟩:=p
 replace a:c= .type "tuple":=a
 replace e:j= .seq items n:=e
 subst a e;refine callType_new F.called_enumerate ⋯ (F.typeCall_enumerate_1 _) (F.newCall_enumerate_1 _) (λd=>F.args_object_init_2 d _) F.entry_enumerate_new
  (sX l items n f q) #[m,?_]
 have i:(s.heap.push {cls:= .type "tuple_iterator",data:= .fields (List.toArray [.ref l,.int 0 0])}).objs.size=s.heap.objs.size+1:=J5 ..
 show _/\_
 rw[i];have g:IsEnum ((s.heap.push {cls:= .type "tuple_iterator",data:= .fields (List.toArray [.ref l,.int 0 0])}).push
   {cls:= .type "enumerate",data:= .fields (List.toArray [.none,.bool false,.ref s.heap.objs.size,rawInt 0,.none,.none])}) (s.heap.objs.size+1) s.heap.objs.size 0 .none:=by
  have:=Jw (s.heap.push {cls:= .type "tuple_iterator",data:= .fields (List.toArray [.ref l,.int 0 0])})
   (o:={cls:= .type "enumerate",data:= .fields (List.toArray [.none,.bool false,.ref s.heap.objs.size,rawInt 0,.none,.none])}) Z
  rw[i]at this;exact this
 exact#[#[_,g,Z],h _ g #[_,Jj _ (Jw _ Z),Z,Z] λb o x=>Jj _ (Jj _ x)]
end
def pP(K:ι)(a:Δ):It:=
 #[λi H=>∃xs x,MW K H a xs/\xs[i]? =↑x,λi H x H'=>∃p v,H p=none/\x= .ref p/\(∀xs,MW K H a xs->xs[i]? =↑v)/\H'=MO H p (.tup [.int i,v]),λi H=>∃xs,MW K H a xs/\xs.length<=i]
theorem va{P:Ξ}{w:Ω}{K:ι}{G:Ι}{x1}{pos:Pos}(a e it:Δ)(r:e≠it):
  Oz P w K (.Tuple G x1 pos) (pP K a) [e,it] e (λi h=>(∃c,IsEnum h e it i c)/\h.IsTupleIter it a i) where
 mem:=by simp
 obj:=λi h st b l=>by
  obtain⟨⟨c,j⟩,⟨o,g,Q,hd⟩⟩:=st;rcases Ji.mp l with z|z
  ·subst z
   refine#[_,j,λv z=>?_]
   have z':Data.fields _=Data.cell v:=z
   cases z'
  ·rw[Jg.mp z]
   exact#[o,g,λv z=>by rw[hd]at z;cases z]
 keep:=λi h h' st k=>#[let⟨c,j⟩:=st.1;#[c,k e (by simp) _ j],st.2.at λo q=>k it (by simp) o q]
 item:=by
  intro X hP hw W Q i tx s σ H E I O st R;subst hP hw W;obtain⟨xs,x,N,hx⟩:=R;obtain⟨its,rv,p,hz⟩:=I.tuple N;obtain⟨u,hu,ru⟩:=rv.get hx;obtain⟨⟨c,j⟩,hit⟩:=st;have U:a≠e:=λz=>by
   subst z;obtain⟨o,g,d,_⟩:=p;rw[j]at g;cases g;exact absurd (show Γ.type "enumerate"=Γ.type "tuple" from d) ⋯
  have L:a≠it:=λz=>by
   subst z;obtain⟨o,g,d,_⟩:=p;obtain⟨o',m,n,_⟩:=hit;rw[g]at m;cases m;rw[d]at n;exact absurd n ⋯
  have Y:i<its.toArray.size:=by
   have:=(Jt.mp hu).1
   simpa using this
  refine wpAny_pyNext_enum_itemD (ym (A:=X.A.in1) (I.ok.hd Q) it a L its.toArray) j #[hit,p] Y r (by simp [r,Ne.symm U]) λv h' tk hv g ⟨C,_⟩ ht a2 hk=>#[_,Z,?_]
  have ev:v=u:=by
   have M:its[i]? =↑v:=by simpa using hv
   rw[hu]at M;exact(JE M).symm
  subst ev;refine wpAny_letOwnedTupleGo_enum g λS t f=>?_
  have B:e<s.heap.objs.size:=Jl j
  have J:it<s.heap.objs.size:=by obtain⟨_,y,_⟩:=hit;exact Jl y
  refine#[.ref s.heap.objs.size,MO H s.heap.objs.size (.tup [.int i,x]),?_,Z,#[_,x,I.hok.fresh (Je _),Z,λys hy=>by rw[I.tuple_inj hy N];exact hx,Z],#[#[_,by simpa using t],?_],?_]
  ·show L2.MQ X tx σ _ {s with heap:=S,toks:=tk+1}
   refine iI (s:=s) (its:=[.int i tk,v]) I (ch:=[e,it]) (λb o l q=>?_) O (λb l=>?_) (Je _) (by show 2<=ζ;decide) (.cons #[_,Z] (.cons ru .nil)) ?_
   ·have D:b≠e:=λz=>l (by simp [z])
    have a1:b≠it:=λz=>l (by simp [z])
    exact(f.2 b D).trans (hk b o D a1 q)
   ·rcases Ji.mp l with z|z
    ·subst z;exact#[_,t]
    ·rw[Jg.mp z]
     obtain⟨o,y,_⟩:=C
     exact#[o,(f.2 it (Ne.symm r)).trans y]
   ·exact#[_,(f.2 _ (J0 B)).trans ht,Z,_,Z]
  ·exact C.extBut f.extBut (Ne.symm r)
  ·intro b l
   rw[qk]
   ·exact(O b l).1
   ·rcases Ji.mp l with z|z
    ·subst z;exact Ju B
    ·rw[Jg.mp z];exact Ju J
 done:=by
  intro X hP hw W Q i tx s σ H E I O st R;subst hP hw W;obtain⟨xs,N,hx⟩:=R;obtain⟨its,rv,p,hz⟩:=I.tuple N;obtain⟨⟨c,j⟩,hit⟩:=st;obtain⟨f0,f1,f2,f3,f4,f5⟩:=O it (by simp)
  have hl:=rv.length;have L:a≠it:=λz=>by
   subst z;obtain⟨o,g,d,_⟩:=p;obtain⟨o',m,n,_⟩:=hit;rw[g]at m;cases m;rw[d]at n;exact absurd n ⋯
  unfold pyNext;have hT:s.TypeIs (.ref e) "enumerate":=#[_,j,Z]
  refine Ja (Lq (wpAny_callSpecial?_slot (name:=Str.ofString "__next__") hT F.slot_enumerate_next
   (J8 F.slot_enumerate_next hT F.entry_enumerate_next ?_ (F.args_enumerate_next_1 _))))
  show ε _ _ (field (.ref e) 2 >>= _) _ _ _
  refine Ja (JI j Z (x:= .ref it) Z ?_)
  refine Ja (nX (I.ok.hd Q) hit p (by simp;lia) λh' ex eb a0=>?_)
  obtain⟨o,g,d⟩:=a0;refine Ja (wpAny_isInstance (T:="StopIteration") (b:=true) #[o,g,d] isSubtype_stop ?_)
  exact Jh #[Z,I.turned (t':=s.toks) (λb o l e=>eb b o l e) f0 f1 f3 f4 f5]
 self:=λ_ _ _ _ _ st h=>by
  obtain⟨⟨c,j⟩,_⟩:=st;exact LG j h
section
variable{X:Cx}
def wJ(K:ι)(ta:TA):TI:=λσ H R=>ta σ H λc H1=>∃a,c=[.ref a]/\((∃xs,MV K H1 a xs)/\R (uK K a) H1\/(∃xs,MW K H1 a xs)/\R (pP K a) H1)
theorem AS{a:Φ}{ta:TA}{p pos:Pos}{i:Ι}{x1}{tpos:Pos}(hg:Gl X "enumerate")(hm:X.mg "enumerate"=none)(ha:PA X [a] ta)(hs:θ [a] X.env=[(false,eval a X.env)]:=by rfl):
  PI X (.Tuple i x1 tpos) (.Call (.Name "enumerate" p) [a] [] pos) (wJ X.K ta):=by
 intro tx s σ H R I h;refine Call_ (bu I hg hm boot_enumerate (Lg (qF (ha pos tx s σ H _ I h) λC c x=>?_) hs Z))
 obtain⟨D,H1,d,A,r⟩:=x;obtain⟨l,e,r⟩:=r;subst e;obtain⟨u,rfl,w⟩:=A.one;cases w;have f:∀b∈[c.heap.objs.size+1,c.heap.objs.size],ZZ X tx H1 b:=λb y=>by
  have g:c.heap.objs.size<=b:=by
   rcases Ji.mp y with z|z
   ·rw[z];exact JW _
   ·rw[Jg.mp z];exact Je _
  exact d.fpOk g (d.hok.fresh g)
 rcases r with⟨⟨xs,o⟩,q⟩|⟨⟨xs,o⟩,q⟩
 ·obtain⟨m,B,n,v⟩:=d.list o
  refine call_enumerate_list n.isList λh' j hit t hk=>LG j ?_
  exact#[c.heap.objs.size+1,[c.heap.objs.size+1,c.heap.objs.size],_,_,H1,Z,d.kept (t':=c.toks) hk,mZ l _ _ (J0 (Iv _)),#[#[_,j],hit],f,q]
 ·obtain⟨m,B,n,v⟩:=d.tuple o
  refine vI (show c.heap.IsTuple l m.toArray from n) λh' j hit hk=>LG j ?_
  exact#[c.heap.objs.size+1,[c.heap.objs.size+1,c.heap.objs.size],_,_,H1,Z,d.kept (t':=c.toks) hk,va l _ _ (J0 (Iv _)),#[#[_,j],hit],f,q]
theorem ye{K:ι}{a:Δ}{xs:Β}{g:TG}{tb:TS}{D:Nq}{σ:L2.St}{H:Hp}(Pv:Nat->L2.St->Hp->Prop)(r:Pv 0 σ H)(hl:∀i σ H,i<=xs.length->Pv i σ H->MW K H a xs)
  (hs:∀i x σ H p,xs[i]? =↑x->Pv i σ H->H p=none->g (.ref p) σ (MO H p (.tup [.int i,x])) λd h=>tb {D with nx:=Pv (i+1),ct:=Pv (i+1),bk:=D.nx} d h)(hd:∀σ H,Pv xs.length σ H->D.nx σ H):
  ∃W:Nat->Nat->L2.St->Hp->Prop,(∃m,W 0 m σ H)/\∀i m σ H,W i m σ H->
   ((pP K a).stop i H/\D.nx σ H)\/((pP K a).go i H/\∃N:L2.St->Hp->Prop,(∀c H',N c H'->∃m',m'<m/\W (i+1) m' c H')/\∀x H',(pP K a).yld i H x H'->g x σ H' λd h=>tb {D with nx:=N,ct:=N,bk:=D.nx} d h):=by
 refine#[λi m σ H=>m=xs.length-i/\i<=xs.length/\Pv i σ H,#[xs.length,by simp,JM _,r],?_]
 rintro i m σ H ⟨rfl,hi,p⟩
 have q:=hl i σ H hi p
 by_cases f:i<xs.length
 ·refine .inr #[#[xs,xs[i],q,by simp [f]],Pv (i+1),λc H' l=>#[xs.length-(i+1),by lia,Z,f,l],λx H' y=>?_]
  obtain⟨j,v,o,rfl,n,rfl⟩:=y;exact hs i v σ H j (n xs q) p o
 ·have e:i=xs.length:=by lia
  subst e;exact .inl #[#[xs,q,Je _],hd σ H p]
end
structure OS(z TI TO i1 i2:Δ)(f1 f2:Η):Prop where
 TIz:TI≠z
 TOz:TO≠z
 i1z:i1≠z
 i2z:i2≠z
 TITO:TI≠TO
 TIi1:TI≠i1
 TIi2:TI≠i2
 TOi1:TO≠i1
 TOi2:TO≠i2
 i12:i1≠i2
 z1:z∉f1
 z2:z∉f2
 t1:TO∉f1
 t2:TO∉f2
 x1:i2∉f1
 x2:i1∉f2
section
variable{prog:Ξ}{w:Ω}{A:Around}{E:MJ}{s:Θ}{z TI TO i1 i2:Δ}{f1 f2:Η}{n1 n2 k:Nat}{P1 P2:Nat->Γ->Prop}{S1 S2:Nat->Ψ->Prop}{a b:Γ}
theorem yk{Q:MJ}(D1:Draws prog w A i1 f1 n1 P1 S1)(Y:Draws prog w A i2 f2 n2 P2 S2)(Z:OS z TI TO i1 i2 f1 f2)
  (X:IsZip s.heap z TI TO .none)(a4:IsPair s.heap TI (.ref i1) (.ref i2))(a5:IsPair s.heap TO a b)(q1:S1 k s.heap)(q2:S2 k s.heap)(k1:k<n1)(k2:k<n2)
  (hQ:∀x y h' tk,P1 k x->P2 k y->IsZip h' z TI TO (rawInt s.heap.objs.size)->IsPair h' TO x y->S1 (k+1) h'->S2 (k+1) h'->IsPair h' s.heap.objs.size x y->
   (∀c o,c≠z->c≠TO->c≠i1->c≠i2->s.heap.get? c=↑o->h'.get? c=↑o)->Q (.ref s.heap.objs.size) {s with heap:=h',toks:=tk}):
  ε (model prog w) A (γ.«zip.__next__» #[[.ref z],[]]) (λa1 s'=>∃v,a1= .done (.ret v)/\Q v s') E s:=by
 obtain⟨hp,g,d,t0,os⟩:=s
 show ε _ _ (field (.ref z) 2 >>= _) _ _ _
 refine Ja (JI X rfl (x:= .bool false) rfl ?_)
 show ε _ _ (field (.ref z) 3 >>= _) _ _ _
 refine Ja (JI X rfl (x:= .ref TI) rfl ?_)
 refine Ja (IV a4 rfl ?_)
 show ε _ _ (γ.SmallTypes.ownedTupleIsFree (.ref z) >>= _) _ _ _
 refine Ja ?_
 unfold γ.SmallTypes.ownedTupleIsFree;refine Ja (JI X rfl (x:= .none) rfl (Jh ?_))
 simp only[Il];refine Ja (IM ?_)
 refine Ja (JI X rfl (x:= .ref TO) rfl ?_)
 refine Ja (LJ X (by simp) λt C m=>?_)
 replace C:IsZip t z TI TO .ellipsis:=C
 replace m:Ψ.SameBut z hp t:=m
 refine Ja ?_
 simp only[List.zipIdx_cons,List.zipIdx_nil,List.forIn_cons,List.forIn_nil];refine Ja (Ja (wpAny_onRaise ?_))
 show ε _ _ (γ.SmallTypes.nextOf (.ref i1) >>= _) _ _ _
 have a2:S1 k t:=D1.frame _ _ _ q1 λc u o e=>m.extBut c o (λy=>Z.z1 (y▸u)) e
 refine Ja (D1.item k #[t,g,d,t0,os] _ _ k1 a2 λx J S p1 a0 l=>Jh ?_)
 replace l:Ψ.SameBut i1 t J:=l
 have F:IsPair J TO a b:=l.extBut _ _ Z.TOi1 (m.extBut _ _ Z.TOz a5)
 refine Ja (IV F rfl ?_)
 refine Ja (wpAny_updateSeq_pair F λr p h=>?_)
 replace p:IsPair r TO x b:=p
 replace h:Ψ.SameBut TO J r:=h
 refine Ja (wpAny_letGo (Jh ?_))
 refine Ja (Ja (wpAny_onRaise ?_))
 show ε _ _ (γ.SmallTypes.nextOf (.ref i2) >>= _) _ _ _
 have b0:S2 k r:=Y.frame _ _ _ q2 λc u o e=>h.extBut c o (λy=>Z.t2 (y▸u)) (l.extBut c o (λy=>Z.x2 (y▸u)) (m.extBut c o (λy=>Z.z2 (y▸u)) e))
 refine Ja (Y.item k #[r,g,d,S,os] _ _ k2 b0 λy L O p2 b2 i=>Jh ?_)
 replace i:Ψ.SameBut i2 r L:=i
 have D:IsPair L TO x b:=i.extBut _ _ Z.TOi2 p
 refine Ja (IV D rfl ?_)
 refine Ja (wpAny_updateSeq_pair D λf n j=>?_)
 replace n:IsPair f TO x y:=n
 replace j:Ψ.SameBut TO L f:=j
 refine Ja (wpAny_letGo (Jh (Jh ?_)))
 refine Ja (IV n rfl ?_)
 refine Ja (wpAny_newTuple ?_)
 have W:f.objs.size=hp.objs.size:=by rw[j.1,i.1,h.1,l.1,m.1]
 have H:IsZip f z TI TO .ellipsis:=j.extBut _ _ Z.TOz.symm (i.extBut _ _ Z.i2z.symm (h.extBut _ _ Z.TOz.symm (l.extBut _ _ Z.i1z.symm C)))
 have R:∀c o,c≠z->c≠TO->c≠i1->c≠i2->hp.get? c=↑o->f.get? c=↑o:=λc o P c2 c3 c4 e=>
  j.extBut _ _ c2 (i.extBut _ _ c4 (h.extBut _ _ c2 (l.extBut _ _ c3 (m.extBut _ _ P e))))
 have a3:S1 (k+1) f:=D1.frame _ _ _ a0 λc u o e=>j.extBut c o (λy=>Z.t1 (y▸u)) (i.extBut c o (λy=>Z.x1 (y▸u)) (h.extBut c o (λy=>Z.t1 (y▸u)) e))
 have b1:S2 (k+1) f:=Y.frame _ _ _ b2 λc u o e=>j.extBut c o (λy=>Z.t2 (y▸u)) e
 have N:z<f.objs.size:=Jl H
 show ε _ _ (γ.SmallTypes.ownedTupleHandOut (.ref z) (.ref f.objs.size) >>= _) _ _ _
 refine Ja ?_
 unfold γ.SmallTypes.ownedTupleHandOut;have T:IsZip (f.push {cls:= .type "tuple",data:= .seq (List.toArray [x,y])}) z TI TO .ellipsis:=Jj _ H
 refine Ja (LJ T (by simp) λU B K=>?_)
 replace B:IsZip U z TI TO (rawInt f.objs.size):=B
 refine LJ B (by simp) λG q M=>?_
 replace q:IsZip G z TI TO (rawInt f.objs.size):=q
 have up:∀c o,c≠z->f.get? c=↑o->G.get? c=↑o:=λc o P e=>M.extBut _ _ P (K.extBut _ _ P (Jj _ e))
 have I:IsPair G f.objs.size x y:=M.extBut _ _ (J0 N) (K.extBut _ _ (J0 N) (Jw _ rfl))
 rw[W]at q I;refine Jh #[_,rfl,?_]
 show Q (.ref f.objs.size) _
 rw[W];exact hQ x y G O p1 p2 q (up _ _ Z.TOz n) (D1.frame _ _ _ a3 λc u o e=>up c o (λy=>Z.z1 (y▸u)) e) (Y.frame _ _ _ b1 λc u o e=>up c o (λy=>Z.z2 (y▸u)) e) I λc o P c2 c3 c4 e=>up c o P (R c o P c2 c3 c4 e)
theorem BT{Q:Fin->Θ->Prop}(C:Draws prog w A i1 f1 n1 P1 S1)(Z:OS z TI TO i1 i2 f1 f2)
  (q:IsZip s.heap z TI TO .none)(u:IsPair s.heap TI (.ref i1) (.ref i2))(K:S1 n1 s.heap)
  (G:∀h' e,(∀c o,c≠z->c≠i1->s.heap.get? c=↑o->h'.get? c=↑o)->(∃o,h'.get? e=↑o/\o.cls= .type "StopIteration")->E (.ref e) {s with heap:=h'}):
  ε (model prog w) A (γ.«zip.__next__» #[[.ref z],[]]) Q E s:=by
 obtain⟨H,g,d,F,os⟩:=s
 show ε _ _ (field (.ref z) 2 >>= _) _ _ _
 refine Ja (JI q rfl (x:= .bool false) rfl ?_)
 show ε _ _ (field (.ref z) 3 >>= _) _ _ _
 refine Ja (JI q rfl (x:= .ref TI) rfl ?_)
 refine Ja (IV u rfl ?_)
 show ε _ _ (γ.SmallTypes.ownedTupleIsFree (.ref z) >>= _) _ _ _
 refine Ja ?_
 unfold γ.SmallTypes.ownedTupleIsFree;refine Ja (JI q rfl (x:= .none) rfl (Jh ?_))
 simp only[Il];refine Ja (IM ?_)
 refine Ja (JI q rfl (x:= .ref TO) rfl ?_)
 refine Ja (LJ q (by simp) λh i f=>?_)
 replace i:IsZip h z TI TO .ellipsis:=i
 replace f:Ψ.SameBut z H h:=f
 refine Ja ?_
 simp only[List.zipIdx_cons,List.zipIdx_nil,List.forIn_cons,List.forIn_nil];refine Ja (Ja (wpAny_onRaise ?_))
 show ε _ _ (γ.SmallTypes.nextOf (.ref i1) >>= _) _ _ _
 have t:S1 n1 h:=C.frame _ _ _ K λc D o e=>f.extBut c o (λy=>Z.z1 (y▸D)) e
 refine Ja (C.done #[h,g,d,F,os] _ _ t λm e a I=>?_)
 obtain⟨J,n,r⟩:=I
 replace a:Ψ.ExtBut i1 h m:=a
 have l:IsZip m z TI TO .ellipsis:=a _ _ Z.i1z.symm i
 have v:e≠z:=λx=>by subst x;rw[l]at n;cases n;simp at r
 refine LJ l (by simp) λp _ j=>G p e (λc o B L x=>j.extBut _ _ B (a _ _ L (f.extBut _ _ B x))) #[J,j.extBut _ _ v n,r]
end
abbrev Cq(h:Ψ)(l1:Δ):Ψ:=h.push {cls:= .type "tuple_iterator",data:= .fields (List.toArray [.ref l1,.int 0 0])}
abbrev Cr(h:Ψ)(l1 l2:Δ):Ψ:=(Cq h l1).push {cls:= .type "tuple_iterator",data:= .fields (List.toArray [.ref l2,.int 0 0])}
abbrev CY(h:Ψ)(l1 l2:Δ):Ψ:=(Cr h l1 l2).push {cls:= .type "tuple",data:= .seq (List.toArray [.ref h.objs.size,.ref (Cq h l1).objs.size])}
abbrev Cy(h:Ψ)(l1 l2:Δ):Ψ:=(CY h l1 l2).push {cls:= .type "tuple",data:= .seq (List.toArray [.none,.none])}
abbrev ur(h:Ψ)(l1 l2:Δ):Ψ:=(Cy h l1 l2).push {cls:= .type "zip",data:= .fields (List.toArray [.none,.bool false,.bool false,.ref (Cr h l1 l2).objs.size,.ref (CY h l1 l2).objs.size])}
theorem vp(a c:Δ)(xs ys:Array Γ):
  Meets (γ.«zip.__new__» #[[.type "zip",.ref a,.ref c],[]]) (λ_ R s=>s.heap.IsTuple a xs/\s.heap.IsTuple c ys/\
   R (.ok (.ret (.ref (Cy s.heap a c).objs.size))) {s with heap:=ur s.heap a c}):=
 .of_wp λprog w A R s h=>by
  obtain⟨n,g,d,tk,os⟩:=s;obtain⟨i,f,h⟩:=h
  have m:=sub_zip;have j:Ψ.IsTuple (Θ.heap #[n,g,d,tk,os]) a xs:=i
  have l:Ψ.IsTuple (Θ.heap #[n.push {cls:= .type "tuple_iterator",data:= .fields (List.toArray [.ref a,.int 0 0])},g,d,tk,os]) c ys:=let⟨o,e,r⟩:=f;#[o,Jj _ e,r]
  wp_walk using IC j,IC l
  exact#[_,Z,h]
section
variable{prog:Ξ}{w:Ω}{A:Around}{E:MJ}{s:Θ}
theorem yi{a d:Δ}{xs ys:Array Γ}{Q:MJ}(i:s.heap.IsTuple a xs)(f:s.heap.IsTuple d ys)
  (h:∀h',IsZip h' (s.heap.objs.size+4) (s.heap.objs.size+2) (s.heap.objs.size+3) .none->IsPair h' (s.heap.objs.size+2) (.ref s.heap.objs.size) (.ref (s.heap.objs.size+1))->
   IsPair h' (s.heap.objs.size+3) .none .none->h'.IsTupleIter s.heap.objs.size a 0->h'.IsTupleIter (s.heap.objs.size+1) d 0->
   (∀c o,s.heap.get? c=↑o->h'.get? c=↑o)->Q (.ref (s.heap.objs.size+4)) {s with heap:=h'}):
  ε (model prog w) A (call (.type "zip") [.ref a,.ref d]) Q E s:=by
 refine callType_new F.called_zip ⋯ (F.typeCall_zip_2 _ _) (F.newCall_zip_2 _ _) (λe=>F.args_object_init_3 e _ _) F.entry_zip_new
  (vp a d xs ys) #[i,f,?_]
 have l:(Cq s.heap a).objs.size=s.heap.objs.size+1:=J5 ..
 have j:(Cr s.heap a d).objs.size=s.heap.objs.size+2:=by rw[J5,l]
 have g:(CY s.heap a d).objs.size=s.heap.objs.size+3:=by rw[J5,j]
 have p:(Cy s.heap a d).objs.size=s.heap.objs.size+4:=by rw[J5,g]
 have m:(ur s.heap a d).get? (Cy s.heap a d).objs.size=↑_:=Jw _ Z
 have r:(ur s.heap a d).get? (CY s.heap a d).objs.size=↑_:=Jj _ (Jw _ Z)
 have n:(ur s.heap a d).get? (Cr s.heap a d).objs.size=↑_:=Jj _ (Jj _ (Jw _ Z))
 have q:(ur s.heap a d).get? (Cq s.heap a).objs.size=↑_:=Jj _ (Jj _ (Jj _ (Jw _ Z)))
 have t:(ur s.heap a d).get? s.heap.objs.size=↑_:=Jj _ (Jj _ (Jj _ (Jj _ (Jw _ Z))))
 show _/\_
 rw[j,g,p]at m;rw[l,j]at n;rw[g]at r;rw[l]at q;rw[p]
 exact#[#[_,m,Z],h _ m n r #[_,t,Z,Z] #[_,q,Z,Z] λc o x=>
  Jj _ (Jj _ (Jj _ (Jj _ (Jj _ x))))]
end
section
variable{X:Cx}{tx:ML}{σ:L2.St}{H:Hp}{s:Θ}
theorem DT{h':Ψ}{t':Nat}{ch:Η}(I:L2.MQ X tx σ H s)(k:∀b o,b∉ch->s.heap.get? b=↑o->h'.get? b=↑o)(a:∀b∈ch,ZZ X tx H b):L2.MQ X tx σ H {s with heap:=h',toks:=t'}:=by
 have f:∀b u,H b=↑u->b∉ch:=λb u e z=>by rw[(a b z).1]at e;cases e
 refine I.step (g':=s.gens) (d':=s.drawn) (ch:=ch) (λb g=>#[(a b g).2.2.2.1,(a b g).2.1,(a b g).2.2.2.2.1,(a b g).2.2.2.2.2]) (λb o _ _ d e _=>k b o d e) (λb o _ _ d e _=>#[o.slots,k b o d e])
  (λ_ _ _ _ n=>n) (λb o d e=>#[o,k b o d e]) (λ_ _ e=>e) (λ_ _ _ e=>e) (λb ps e=>#[(List.toArray []),by rw[e];simp]) (λm i=>?_) (λb u e=>?_) I.bare
 ·obtain⟨o,es,h,j,r⟩:=i
  exact#[o,es,h,k _ o (λz=>(a _ z).2.1 Z) j,r]
 ·refine(I.hok b u e).stay (λc v d q=>k c v ?_ q) (λ_ q=>q) λ_ _ q=>q
  rcases d with z|z
  ·rw[z];exact f b u e
  ·exact f c _ z
theorem vU{H:Hp}{a b:Δ}{u:HO}(h:Rd H a u)(h':H b=none):a≠b:=by
 rcases h with h|⟨o,h⟩
 ·exact qr h h'
 ·exact qr h h'
end
end L3
namespace L3
open PySem PySem.Spec PyProof.Rows L2 PySem.SeqAt
open Sem (wp)
open AutoSeq1 (wpAny_loadPart')
section
variable{X:Cx}
theorem Rd.same{H H':Hp}{a:Δ}{u:HO}(s:MM H H')(h:Rd H a u):Rd H' a u:=by
 rcases h with h|⟨o,h⟩
 ·exact .inl (s _ _ h)
 ·exact .inr #[o,s _ _ h]
inductive RT (H:Hp):V->String->Prop where
 |int (i:Int):RT H (.int i) "int"
 |bl (b:Bool):RT H (.bl b) "bool"
 |tup {a:Δ} {xs:Β} (h:Rd H a (.tup xs)):RT H (.ref a) "tuple"
 |str (x:Str):RT H (.str x) "str"
 |non:RT H .non "NoneType"
 |lst {a:Δ} {xs:Β} (h:H a=↑(.lst xs)):RT H (.ref a) "list"
theorem ue{H:Hp}{x:V}{t:String}(h:RT H x t):t∈me:=by cases h<;>simp
theorem tM(K:ι){t:String}(f:t∈me):∀a:List String,(∀c∈a,c∈lR)->W.kitAny K (.type t) (a.map Γ.type)=↑(a.any (zY t))
 | [],_=>rfl
 |c::r,h=>by
  have e:=lX K t f c (h c JB);have i:=tM K f r λd g=>h d (JC _ g)
  simp only[JR,W.kitAny,e,Ll];cases zY t c with
  |true=>rfl
  |false=>simpa using i
theorem za:zx X (.builtin "isinstance") (λxs H Q=>∃x c t,xs=[x,.ty c]/\RT H x t/\c∈lR/\Q (.bl (zY t c)) H):=by
 intro tx s σ H xs p Q I r h;obtain⟨x,c,t,rfl,ty,g,q⟩:=h;obtain⟨u,v,rfl,f,m⟩:=cE r
 cases(show v=Γ.type c from m)
 have e:=lX X.K t (ue ty) c g;have d:∀tk,EP X tx σ Q (.bool (zY t c)) {s with toks:=tk}:=λtk=>#[.bl _,H,I.tok tk,Z,q]
 cases ty with
 |int i=>obtain⟨t,q⟩:=(show∃t,u=Γ.int i t from f);cases q;exact JS W.kitx_int I.kIn True.intro e (λz=>nomatch z) d
 |bl b=>cases(show u=Γ.bool b from f);exact JS W.kitx_bool I.kIn True.intro e (λz=>nomatch z) d
 | @tup a ys hr=>
  cases(show u=Γ.ref a from f)
  obtain⟨l,_,⟨o,h1,j,_⟩,_⟩:=I.tuple (.inl hr)
  exact JS W.kitx_tuple I.kIn #[o,h1,j] e (λz=>nomatch z) d
 |str x=>obtain⟨t,q⟩:=(show∃t,u=Γ.str x t from f);cases q;exact JS W.kitx_str I.kIn True.intro e (λz=>nomatch z) d
 |non=>cases(show u=Γ.none from f);exact JS W.kitx_none I.kIn True.intro e (λz=>nomatch z) d
 | @lst a ys ea=>
  cases(show u=Γ.ref a from f)
  obtain⟨_,_,n,_,h1⟩:=(show M3 X.prog X.w H s.heap a (.lst ys)from I.hok a _ ea)
  exact JS W.kitx_list I.kIn #[_,h1,Z] e (λz=>nomatch z) d
theorem sK:∀{a:List String} {us:Ζ},MU (a.map V.ty) us->us=a.map Γ.type
 | [],_,.nil=>rfl
 |c::a,_,.cons r t=>by
  cases(show _=Γ.type c from r)
  rw[sK t];rfl
theorem gN:zx X (.builtin "isinstance") (λxs H Q=>∃(x:V) (p:Δ) (j:List String) (t:String),xs=[x,.ref p]/\H p=↑(.tup (j.map V.ty))/\RT H x t/\(∀c∈j,c∈lR)/\Q (.bl (j.any (zY t))) H):=by
 intro tx s σ H xs G Q I r h;obtain⟨x,p,j,t,rfl,F,ty,B,q⟩:=h;obtain⟨u,v,rfl,m,E⟩:=cE r
 cases(show v=Γ.ref p from E)
 obtain⟨y,w,⟨⟨cl,dd,C,J⟩,l,f,n,g⟩,_⟩:=I.tuple (MW.of F)
 replace f:cl= .type "tuple":=f
 replace g:C= .seq y.toArray n:=g
 subst f g;have e:=tM X.K (ue ty) j B;rw[<- sK w]at e;have d:∀tk,EP X tx σ Q (.bool (j.any (zY t))) {s with toks:=tk}:=λtk=>#[.bl _,H,I.tok tk,Z,q]
 cases ty with
 |int i=>obtain⟨t,q⟩:=(show∃t,u=Γ.int i t from m);cases q;exact IW W.kitx_int I.kIn True.intro l e (λz=>nomatch z) d
 |bl b=>cases(show u=Γ.bool b from m);exact IW W.kitx_bool I.kIn True.intro l e (λz=>nomatch z) d
 | @tup a ys hr=>
  cases(show u=Γ.ref a from m)
  obtain⟨A,_,⟨o,h1,D,_⟩,_⟩:=I.tuple (.inl hr)
  exact IW W.kitx_tuple I.kIn #[o,h1,D] l e (λz=>nomatch z) d
 |str x=>obtain⟨t,q⟩:=(show∃t,u=Γ.str x t from m);cases q;exact IW W.kitx_str I.kIn True.intro l e (λz=>nomatch z) d
 |non=>cases(show u=Γ.none from m);exact IW W.kitx_none I.kIn True.intro l e (λz=>nomatch z) d
 | @lst a ys ea=>
  cases(show u=Γ.ref a from m)
  obtain⟨_,_,n,_,h1⟩:=(show M3 X.prog X.w H s.heap a (.lst ys)from I.hok a _ ea)
  exact IW W.kitx_list I.kIn #[_,h1,Z] l e (λz=>nomatch z) d
end
def Qe(t:Ε):Ε:=(List.range 16).map λd=>((t.idxOf ((d:Nat):Int):Nat):Int)
theorem cB(t:Ε):(Qe t).length=16:=by simp [Qe]
section
variable{t:Ε}(p:t.Perm Nt)
include p
theorem Ad:t.Nodup:=p.nodup_iff.mpr ⋯
theorem uE:t.length=16:=by rw[p.length_eq,BK]
theorem DO{d:Nat}(h:d<16):((d:Nat):Int)∈t:=p.mem_iff.mpr (Jy.mpr #[d,IL.mpr h,Z])
theorem sr{i:Nat}(h:i<t.length):0<=t[i]/\t[i]<16:=pT (p.mem_iff.mp (IG h))
theorem xo{i:Nat}(h:i<t.length):t.idxOf t[i]=i:=(Ad p).idxOf_getElem i h
theorem C5{d:Nat}(h:d<16):(Qe t)[d]'(by rw[cB];exact h)=((t.idxOf ((d:Nat):Int):Nat):Int):=by simp [Qe]
end
end L3
namespace L3
open PySem PySem.Spec L2
variable{X:Cx}
theorem zS{a:List δ}:Pu X a Ap:=#[wZ]
theorem AO{a:Φ}{ta:TA}{p pos:Pos}{c:Ι}{x1}{tpos:Pos}(hg:Gl X "enumerate")(hm:X.mg "enumerate"=none)(ha:QA X [a] ta)(hs:θ [a] X.env=[(false,eval a X.env)]:=by rfl):QI X (.Tuple c x1 tpos) (.Call (.Name "enumerate" p) [a] [] pos) (wJ X.K ta):=#[AS (hg:=hg) (hm:=hm) (ha:=ha.h) (hs:=hs)]
def NQ(H:Hp)(b:Δ)(c:Nat):Prop:=∃n m k:Int,H b=↑(BX n m k)/\0<=m/\m<4611686018427387904/\0<=k/\k<=c
structure Oj(b:Δ)(c:Nat)(H H':Hp):Prop where
 kp:∀a o,a≠b->H a=↑o->H' a=↑o
 bx:NQ H' b c
theorem NQ.mono{H:Hp}{b:Δ}{c d:Nat}(h:NQ H b c)(l:c<=d):NQ H b d:=by
 obtain⟨n,m,k,e,g,a,f,i⟩:=h
 exact#[n,m,k,e,g,a,f,by lia]
theorem Oj.mono{b:Δ}{c d:Nat}{H H':Hp}(h:Oj b c H H')(l:c<=d):Oj b d H H':=#[h.kp,h.bx.mono l]
theorem Oj.trans{b:Δ}{c d:Nat}{H H1 a:Hp}(x:Oj b c H H1)(y:Oj b d H1 a):Oj b d H a:=#[λc o n e=>y.kp c o n (x.kp c o n e),y.bx]
theorem _root_.L2.MM.grc{b:Δ}{c:Nat}{H H':Hp}(x:MM H H')(h:NQ H b c):Oj b c H H':=#[λc o _ e=>x c o e,let⟨n,m,k,e,r⟩:=h;#[n,m,k,x _ _ e,r]]
theorem Oj.same{b:Δ}{c:Nat}{H H1 a:Hp}(x:Oj b c H H1)(y:MM H1 a):Oj b c H a:=x.trans (y.grc x.bx)
theorem ze{H:Hp}{b l:Δ}{c:Nat}(hb:NQ H b c)(h:H l=none):l≠b:=λz=>by
 obtain⟨_,_,_,e,_⟩:=hb;subst z;rw[e]at h;cases h
inductive Rh (vs:Β) (H:Hp) (Q:VK):Prop
 |mk (b:Δ) (many:Int) (c:Nat) (h1:vs=[.ref b,.int many]) (h2:NQ H b c) (h3:c<1000000000) (h4:0<many) (h5:many<1073741824) (h6:∀r H',0<=r->r<many->Oj b (c+1) H H'->Q (.int r) H')
def Z6:Sp:=λa H Q _=>Rh a H Q
theorem QK{H H':Hp}{p:Δ}(h:H' p=none)(s:MM H H'):H p=none:=by
 cases e:H p with
 |none=>rfl
 |some o=>rw[s _ _ e]at h;cases h
def jP:V->Bool
 | .int _=>true
 |_=>false
theorem Dt{H:Hp}{x:V}{t:String}(h:kd H x=↑t):jP x=(zY t "int"&& ! zY t "bool"):=by
 cases x with
 |non=>cases h;decide
 |bl b=>cases h;show false=_;decide
 |int i=>cases h;show true=_;decide
 |str x=>cases h;show false=_;decide
 |byt b=>cases h
 |flt b=>cases h
 |ty b=>cases h
 |ref a=>
  rcases jY h with⟨xs,e,rfl⟩|⟨xs,e,rfl⟩
  ·show false=_;decide
  ·show false=_;decide
theorem Bs{x:V}(h:jP x=true):∃i,x= .int i:=by
 cases x<;>first|exact#[_,Z]|cases h
theorem xz{x:V}(h:jP x=false):fm x=false:=by
 cases x<;>first|rfl|cases h
inductive PH (vs:Β) (H:Hp) (Q:VK):Prop
 |mk (x:_) (t:_) (h1:vs=[x]) (h2:kd H x=↑t) (h3:Q (.bl (jP x)) H)
def jh:Sp:=λa H Q _=>PH a H Q
inductive OA (H:Hp):Nat->V->V->Prop where
 |int (n:Nat) (i:Int):OA H n (.int i) (.int i)
 |str (n:Nat) (x:Str):OA H n (.str x) (.str x)
 |non (n:Nat):OA H n .non .non
 | tup {n:Nat} {a b:Δ} {xs ys:Β} (h1:Rd H a (.tup xs)) (h2:Rd H b (.tup ys)) (hl:xs.length=ys.length) (hz:xs.length<=ζ)
   (hi:∀(i:Nat) (x y:V),xs[i]? =↑x->ys[i]? =↑y->OA H n x y):OA H (n+1) (.ref a) (.ref b)
theorem OA.same{H H':Hp}(s:MM H H'):∀{n:Nat} {x y:V},OA H n x y->OA H' n x y:=λh=>by
 induction h with
 |int n i=>exact .int n i
 |str n x=>exact .str n x
 |non n=>exact .non n
 |tup h1 h2 hl hz _ ih=>exact .tup (Rd.same s h1) (Rd.same s h2) hl hz ih
theorem OA.ints{H:Hp}{n:Nat}{a b:Δ}{ns:Ε}(h1:Rd H a (.tup (ns.map V.int)))(h2:Rd H b (.tup (ns.map V.int)))(e:ns.length<=ζ):OA H (n+1) (.ref a) (.ref b):=
 .tup h1 h2 Z (by rw[Jb];exact e) λi x y c d=>by
  rw[c]at d;cases d;obtain⟨z,rfl,_⟩:=Zf c;exact .int _ _
inductive SH (n:Nat) (vs:Β) (H:Hp) (Q:VK):Prop
 |mk (x:_) (y:_) (h1:vs=[x,y]) (h2:OA H n x y) (h3:∀H',MM H H'->Q (.bl true) H')
def vR(n:Nat):Sp:=λa H Q _=>SH n a H Q
theorem MM.sqt{K:ι}{H H':Hp}{a:Δ}{xs:Β}(e:MM H H')(h:MW K H a xs):MW K H' a xs:=by
 rcases h with h|h
 ·exact .inl (Rd.same e h)
 ·exact .inr h
def Zu(t:Ε)(i:Nat):Ε:=(List.range 16).map λd=>if((d:Nat):Int)∈t.take i then((t.idxOf ((d:Nat):Int):Nat):Int)else 0
theorem em(t:Ε)(i:Nat):(Zu t i).length=16:=by simp [Zu]
theorem AH(t:Ε):Zu t 0=List.replicate 16 0:=by simp only[Zu,List.take_zero,Jr,Lk];rfl
theorem Ae{t:Ε}{i d:Nat}(h:d<16):(Zu t i)[d]'(by rw[em];exact h)=if((d:Nat):Int)∈t.take i then((t.idxOf ((d:Nat):Int):Nat):Int)else 0:=by simp [Zu]
theorem Ef{t:Ε}(p:t.Perm Nt):Zu t t.length=Qe t:=by
 unfold Zu Qe;refine LK λd a=>?_
 rw[II,Jd (DO p (IL.mp a))]
theorem Be{t:Ε}(p:t.Perm Nt){i:Nat}(hi:i<t.length):(Zu t i).set t[i].toNat (i:Int)=Zu t (i+1):=by
 have b:=sr p hi;refine List.ext_getElem (by rw[IE,em,em]) λd h1 c=>?_
 have f:d<16:=by rw[em]at c;exact c
 rw[List.getElem_set,Ae f,Ae f,Ig,Jk hi,Option.toList_some]
 by_cases e:t[i].toNat=d
 ·have a:((d:Nat):Int)=t[i]:=by lia
  rw[Jd e,Jd (by rw[a];exact J3 _ (Jg.mpr Z)),a,xo p hi]
 ·have a:((d:Nat):Int)≠t[i]:=by lia
  rw[Jc e];simp only[Jv,Jg,a,Js]
inductive RW (K:ι) (vs:Β) (H:Hp) (Q:VK):Prop
 |mk (a:Δ) (t:Ε) (h1:vs=[.ref a]) (h2:(MV K H a (t.map V.int)\/MW K H a (t.map V.int))) (h3:t.Perm Nt) (h4:∀p H',MM H H'->H' p=↑(.tup ((Qe t).map V.int))->Q (.ref p) H')
def An(K:ι):Sp:=λa H Q _=>RW K a H Q
theorem tZ{X:Cx}{K:ι}(a:X.K=K){pos:Pos}{es:Ι}{k:Nat}{t:bz}(n:Nat)(hc:X.calm=true)(h:Su X es t)(hn:(assignEach es X.env).length=n:=by rfl)(hst:(assignEach es X.env).findIdx? (·.1)=none:=by rfl):QG X (.Tuple es k pos) (uV K n t):=by
 subst a
 exact#[rP (hc:=hc) (h:=h.h) (hn:=hn) (hst:=hst)]
end L3
namespace L3
open PySem PySem.Spec PyProof.Rows L2
open Sem (wp)
namespace RV
theorem wA:Slot "reversed" "__init__" "object.__init__":=
  .of (owner := "object") (n := "__init__") (by rw[Mj,Ml];kernel_rfl) nofun nofun nofun
    (by first | exact .inl nofun | exact .inr nofun) (by rw[LL];kernel_rfl)
theorem called:TypeCalled "reversed" "reversed.__new__" "object.__init__":=
 #[nofun,nofun,#[_,_,F.mro_reversed],F.made_reversed,nofun,F.sub_reversed_self,wA]
theorem slot_next:Slot "reversed" "__next__" "reversed.__next__":=
  .of (owner := "reversed") (n := "__next__") (by rw[Mj,Ml];kernel_rfl) nofun nofun nofun
    (by first | exact .inl nofun | exact .inr nofun) (by rw[LL];kernel_rfl)
theorem entry_next:entryFor table "reversed.__next__"=some γ.«reversed.__next__»:=entryFor_of_tree (by kernel_rfl)
theorem ot:Manifest.owners.lookup (String.ofList ['d', 'e', 's', 'r', 'e', 'v', 'e', 'r'].reverse)=↑Manifest.sig_reversed:=by kernel_rfl
theorem args_next(a:Γ):argsOk "reversed.__next__" #[[a],[]]:=by
 unfold argsOk;rw[signature?_of (id:="reversed.__next__") (n:=['_', '_', 't', 'x', 'e', 'n', '_', '_']) (o:=['d', 'e', 's', 'r', 'e', 'v', 'e', 'r']) (by kernel_rfl) ot]
 kernel_rfl
theorem slot_iter:Slot "reversed" "__iter__" "reversed.__iter__":=
  .of (owner := "reversed") (n := "__iter__") (by rw[Mj,Ml];kernel_rfl) nofun nofun nofun
    (by first | exact .inl nofun | exact .inr nofun) (by rw[LL];kernel_rfl)
theorem args_iter(a:Γ):argsOk "reversed.__iter__" #[[a],[]]:=by
 unfold argsOk;rw[signature?_of (id:="reversed.__iter__") (n:=['_', '_', 'r', 'e', 't', 'i', '_', '_']) (o:=['d', 'e', 's', 'r', 'e', 'v', 'e', 'r']) (by kernel_rfl) ot]
 kernel_rfl
theorem entry_iter:entryFor table "reversed.__iter__"=some γ.«dict_keyiterator.__iter__»:=
  entryFor_alias (id':="dict_keyiterator.__iter__") (by kernel_rfl)
    (by first | rfl | decide +kernel | (unfold String.splitOn
                                        simp +decide [String.splitOnAux])) nofun (by kernel_rfl)
theorem no_tuple:typeLookup (.type "tuple") "__reversed__"=pure none:=by
 rw[Mj,Ml]
 kernel_rfl
theorem tup_dict:isSubtype (.type "tuple") (.type "dict")=pure false:=by
 rw[LL]
 kernel_rfl
theorem ri_rev:isSubtype (.type "range_iterator") (.type "reversed")=pure false:=by
 rw[LL]
 kernel_rfl
theorem tc1(a:Γ):checkTypeCall "reversed" #[[a],[]]=pure ():=by kernel_rfl
end RV
def Ol(h:Ψ)(it t:Δ)(i:Int):Prop:=∃o,h.get? it=↑o/\o.cls= .type "reversed"/\o.data= .fields (List.toArray [.ref t,rawInt i])
theorem vG(l:Δ)(items:Array Γ)(r:items.size<=ζ):
  Meets (γ.«reversed.__new__» #[[.type "reversed",.ref l],[]]) (λA R s=>s.heap.IsTuple l items/\
   R (.ok (.ret (.ref s.heap.objs.size))) {s with heap:=s.heap.push {cls:= .type "reversed",data:= .fields (List.toArray [.ref l,rawInt ((items.size:Int)-1)])},toks:=s.toks+2}):=
 .of_wp λprog w A R s h=>by
  obtain⟨f,g,d,tk,os⟩:=s;obtain⟨a,h⟩:=h
  have i:=F.sub_reversed_self;have j:Θ.TypeIs #[f,g,d,tk,os] (.ref l) "tuple":=let⟨o,e,c,_⟩:=a;#[o,e,c]
  have p:Ψ.IsTuple (Θ.heap #[f,g,d,tk,os]) l items:=a
  have m:=RV.tup_dict;have n:IsTup (Θ.heap #[f,g,d,tk,os]) l items:=a
  have q:=bo
  wp_walk using Lr j RV.no_tuple,Io m,Lr j F.slot_tuple_getitem.lookup,len_tuple n (by omega)
  exact#[_,Z,h]
end L3
namespace L3
open PySem PySem.Spec PyProof.Rows L2
open Sem (wp)
abbrev CJ(a b c:Int):Bool:=γ.Range.rangeFitsLong a&&γ.Range.rangeFitsLong b&&γ.Range.rangeFitsLong c&&γ.Range.rangeFitsLong (-c)&&γ.Range.rangeFitsLong (a-c)&&γ.Range.rangeFitsLong (γ.Range.rangeSize a b c)
theorem tD(r:Δ)(a b c:Int)(t u v:Tok)(e:¬(! CJ a b c)=true):
  Meets (γ.«range.__reversed__» #[[.ref r],[]]) (λ_ R s=>s.heap.get? r=some {cls:= .type "range",dict:=none,data:= .fields (List.toArray [.int a t,.int b u,.int c v]),slots:= (List.toArray [])}/\
   R (.ok (.ret (.ref s.heap.objs.size))) {s with heap:=s.heap.push {cls:= .type (if CJ a b c then "range_iterator" else "longrange_iterator"),data:= .fields (List.toArray [rawInt (a+(γ.Range.rangeSize a b c-1)*c),rawInt (γ.Range.rangeSize a b c),rawInt (-c)])}}):=
 .of_wp λprog w A R s h=>by obtain⟨f,g,d,tk,os⟩:=s;obtain⟨i,h⟩:=h;wp_walk;exact#[_,Z,h]
theorem wX(n:Nat):γ.Range.rangeSize 0 n 1=n:=by
 unfold γ.Range.rangeSize;rw[Jd ⋯]
 split<;>lia
theorem wD{n:Nat}(hn:(n:Int)<2 ^ 62):CJ 0 n 1=true:=by
 unfold CJ;rw[wX];simp only[γ.Range.rangeFitsLong,JU,decide_eq_true_eq];lia
theorem vz(r:Δ)(n:Nat)(t u v:Tok)(hn:(n:Int)<2 ^ 62):
  Meets (γ.«range.__reversed__» #[[.ref r],[]]) (λ_ R s=>s.heap.get? r=some {cls:= .type "range",data:= .fields (List.toArray [.int 0 t,.int n u,.int 1 v])}/\
   R (.ok (.ret (.ref s.heap.objs.size))) {s with heap:=s.heap.push {cls:= .type "range_iterator",data:= .fields (List.toArray [rawInt ((n:Int)-1),rawInt n,rawInt (-1)])}}):=by
 have g:=tD r 0 n 1 t u v (by rw[wD hn];decide)
 rw[wD hn,wX,Jd Z,Int.mul_one,Int.zero_add]at g;exact g
section
variable{prog:Ξ}{w:Ω}{A:Around}{E:MJ}{s:Θ}
theorem Ol.typeIs{it t:Δ}{i:Int}(x:Ol s.heap it t i):s.TypeIs (.ref it) "reversed":=by
 obtain⟨o,c,a,_⟩:=x
 exact#[o,c,a]
theorem sW{it t:Δ}{i:Nat}{items:Array Γ}{x:Γ}{Q:Ν->Θ->Prop}(hit:Ol s.heap it t (i:Int))(hl:IsTup s.heap t items)(hx:items[i]? =↑x)(p:items.size<=ζ)
  (j:∀h' tk,Ol h' it t ((i:Int)-1)->Ψ.SameBut it s.heap h'->Q ↑x {s with heap:=h',toks:=tk}):ε (model prog w) A (pyNext (.ref it)) Q E s:=by
 obtain⟨o,f,h,d⟩:=id hit;have l:s.TypeIs (.ref t) "tuple":=let⟨o,e,c,_⟩:=hl;#[o,e,c]
 have n:=bo;have g:i<items.size:=(LM.mp hx).1
 unfold pyNext;refine Ja (Lq (wpAny_callSpecial?_slot (name:=Str.ofString "__next__") (Ol.typeIs hit) RV.slot_next
  (J8 RV.slot_next (Ol.typeIs hit) RV.entry_next ?_ (RV.args_next _))))
 unfold γ.«reversed.__next__»
 refine Ja (Io (a:=(Γ.ref it,[])) Z ?_)
 try dsimp only
 refine Ja (JI f d (x:= .ref t) Z ?_)
 refine Ja (JI f d (x:=rawInt (i:Int)) Z ?_)
 show ε _ _ (if(i:Int)<0 then _ else _) _ _ s
 rw[Jc (by lia)]
 try dsimp only
 refine Ja (Lr l F.slot_tuple_getitem.lookup ?_)
 rw[Jc (show¬((↑(Γ.builtin "tuple.__getitem__")).isNone=true)from JG)]
 refine Ja (wpAny_mkInt ?_)
 have m:IsTup (Θ.heap {s with toks:=s.toks+1}) t items:=hl
 refine Ja (Lq (getItem_tuple m (by lia) (by lia) (by unfold seqIndex?;rw[Jc (show¬((i:Int)<0) by lia)];simp [g]) hx ?_))
 try dsimp only
 refine Ja (JI (s:={s with toks:=s.toks+1}) f d (x:=rawInt (i:Int)) Z ?_)
 show ε _ _ (setField (.ref it) 1 (rawInt ((i:Int)-1)) >>= _) _ _ _
 refine Ja (IH (s:={s with toks:=s.toks+1}) f d (by simp) ?_)
 refine Jh #[x,Z,Jh (j _ _ ?_ (LI ..))]
 exact#[_,ID _ f (Ln (IA d _)),(Obj.cls_mapFields ..).trans h,by
  rw[IA d];simp]
theorem vD{it t:Δ}{Q:Ν->Θ->Prop}(f:A.handled=none)(hit:Ol s.heap it t (-1))
  (g:∀h',Ψ.ExtBut it s.heap h'->Q none {s with heap:=h'}):ε (model prog w) A (pyNext (.ref it)) Q E s:=by
 obtain⟨o,d,h,c⟩:=id hit;unfold pyNext;refine Ja (Lq (wpAny_callSpecial?_slot (name:=Str.ofString "__next__") (Ol.typeIs hit) RV.slot_next
  (J8 RV.slot_next (Ol.typeIs hit) RV.entry_next ?_ (RV.args_next _))))
 unfold γ.«reversed.__next__»
 refine Ja (Io (a:=(Γ.ref it,[])) Z ?_)
 try dsimp only
 refine Ja (JI d c (x:= .ref t) Z ?_)
 refine Ja (JI d c (x:=rawInt (-1)) Z ?_)
 show ε _ _ (if(-1:Int)<0 then _ else _) _ _ s
 rw[Jd ⋯]
 refine Ja (IM ?_)
 refine Ja ?_
 show ε _ _ (setField (.ref it) 1 (rawInt (-1)) >>= _) _ _ _
 refine Ja (IH d c (by simp) ?_)
 have e:=ID (Obj.mapFields (·.setIfInBounds 1 (rawInt (-1)))) d (Ln (IA c _))
 refine IH e (IA c _) (by simp) ?_
 refine Ja ?_
 show ε _ _ (newExc (.type "StopIteration") [] >>= _) _ _ _
 refine Ja ?_
 simp only[newExc,newTuple];refine Ja (J6 ?_ (by size_fits))
 refine Ja (m:=firstArgMember _ _) (Io (a:=Γ.none) (by first|rfl|(simp only[firstArgMember];rfl)) ?_)
 refine J6 ?_ (by size_fits)
 simp only[raiseNew];refine Ja (wpAny_handled ?_)
 first|rw[show A.in1.handled=none from f]|rw[f]
 refine Ja (Jh (wpAny_throw ?_))
 refine Ja (wpAny_isInstance (T:="StopIteration") (b:=true) #[_,Jw _ Z,Z] isSubtype_stop ?_)
 exact Jh (g _ (((((LI ..).trans (LI ..)).extBut).push _).push _))
theorem Aj{it t:Δ}{i:Int}{Q:MJ}(hit:Ol s.heap it t i)(h:Q (.ref it) s):ε (model prog w) A (pyIter (.ref it)) Q E s:=by
 refine wpAny_pyIter_slot (Ol.typeIs hit) RV.slot_iter (J8 RV.slot_iter (Ol.typeIs hit) RV.entry_iter ?_ (RV.args_iter _))
 show ε _ _ (ret (.ref it)) _ _ s
 exact Jh #[_,Z,"reversed",_,Ol.typeIs hit,RV.slot_next.lookup,h]
theorem FR{l:Δ}{items:Array Γ}{Q:MJ}(hl:s.heap.IsTuple l items)(c:items.size<=ζ)
  (h:∀h' tk,Ol h' s.heap.objs.size l ((items.size:Int)-1)->(∀b o,s.heap.get? b=↑o->h'.get? b=↑o)->Q (.ref s.heap.objs.size) {s with heap:=h',toks:=tk}):
  ε (model prog w) A (call (.type "reversed") [.ref l]) Q E s:=by
 refine callType_new RV.called ⋯ (RV.tc1 _) (F.newCall_reversed_1 _) (λa=>F.args_object_init_2 a _) F.entry_reversed_new (vG l items c) #[hl,?_]
 exact#[#[_,Jw _ Z,Z],h _ _ #[_,Jw _ Z,Z,Z] λb o e=>Jj _ e]
theorem Fe{r:Δ}{n:Nat}{t u v:Tok}{Q:MJ}(hr:s.heap.get? r=some {cls:= .type "range",data:= .fields (List.toArray [.int 0 t,.int n u,.int 1 v])})(hn:(n:Int)<2 ^ 62)
    (h:∀h',IsRangeIter h' s.heap.objs.size ((n:Int)-1) n (-1)->(∀b o,s.heap.get? b=↑o->h'.get? b=↑o)->Q (.ref s.heap.objs.size) {s with heap:=h'}):
    ε (model prog w) A (call (.type "reversed") [.ref r]) Q E s:=by
  have f:s.TypeIs (.ref r) "range":=#[_,hr,Z]
  refine callType_other (U:="range_iterator") (Q₁:=λd c=>d= .ref s.heap.objs.size/\∃h',c={s with heap:=h'}/\IsRangeIter h' s.heap.objs.size ((n:Int)-1) n (-1)/\∀b o,s.heap.get? b=↑o->h'.get? b=↑o) nofun F.create_reversed #[_,_,F.mro_reversed] F.made_reversed RV.ri_rev (RV.tc1 _) ?_ ?_
  · refine codeAny_of_tree ?_
    show ε _ A.in1.in1 (do checkBuiltinCall "reversed.__new__" #[[.type "reversed",.ref r],[]];again (.builtin "reversed.__new__" #[[.type "reversed",.ref r],[]])) _ _ s
    refine Ja (Io (F.newCall_reversed_1 _) (Jh #[plainId_quiet F.plain_reversed_new _,Mm F.entry_reversed_new ?_]))
    rw[Around.under_plainId F.plain_reversed_new _];unfold γ.«reversed.__new__»
    refine Ja (Io (newClass_reversed _) ?_)
    try dsimp only
    refine Ja (Io (a:=()) (by first|rfl|kernel_rfl) ?_)
    refine Ja (Io (a:=()) (by first|rfl|kernel_rfl) ?_)
    try dsimp only
    refine Ja (Lr f F.slot_range_reversed.lookup ?_)
    try dsimp only
    refine Ja (Io (F.slot_range_reversed.bind _) ?_)
    try dsimp only
    first
    |rw[Jc (show¬((Γ.builtin "range.__reversed__"==Γ.none)=true)from JG)]
    | (show ε _ _ (if(Γ.builtin "range.__reversed__"==Γ.none)=true then _ else _) _ _ _
       rw[Jc (show¬((Γ.builtin "range.__reversed__"==Γ.none)=true)from JG)])
    refine Ja (IM ?_)
    refine Ja (m:=runValue (.call (.builtin "range.__reversed__") ⟨[.ref r],[]⟩)) (show ε _ _ (call (.builtin "range.__reversed__") [.ref r]) _ _ _ from
      IF F.slot_range_reversed f F.entry_range_reversed (F.args_range_reversed_1 _) (vz r n t u v hn) ⟨hr,?_⟩)
    first
    |exact Jh ⟨rfl,_,rfl,Jw _ rfl,λb o e=>Jj _ e⟩
    |exact Ja (Jh (Jh ⟨rfl,_,rfl,Jw _ rfl,λb o e=>Jj _ e⟩))
  · rintro d c ⟨rfl,h',rfl,hi,hk⟩
    exact⟨⟨_,hi,rfl⟩,h h' hi hk⟩
end
def vZ(K:ι)(a:Δ)(n:Nat):It:=
 ⟨λi H=>i<n/\∃xs,MV K H a xs/\xs.length=n,λi H x H'=>H'=H/\∀xs,MV K H a xs->xs[n-1-i]? =↑x,λi _=>n<=i⟩
def vA(K:ι)(a:Δ)(n:Nat):It:=
 ⟨λi H=>i<n/\∃xs,MW K H a xs/\xs.length=n,λi H x H'=>H'=H/\∀xs,MW K H a xs->xs[n-1-i]? =↑x,λi _=>n<=i⟩
def vw(n:Nat):It:=⟨λi _=>i<n,λi H x H'=>H'=H/\x= .int ((n:Int)-1-i),λi _=>n<=i⟩
theorem vN{P:Ξ}{w:Ω}{K:ι}{tg:Φ}(a it:Δ)(n:Nat):Oz P w K tg (vZ K a n) [it] it (λi h=>i<=n/\h.IsRevIter it a ((n:Int)-1-i)) where
 mem:=by simp
 obj:=λi h st b g=>by
  have e:b=it:=by simpa using g
  subst e;obtain⟨_,o,e,c,d⟩:=st
  exact#[o,e,λv z=>by rw[d]at z;cases z]
 keep:=λi h h' st k=>#[st.1,st.2.at λo e=>k it (by simp) o e]
 item:=by
  intro X C A r G i tx s σ H E I m st q;subst C A r;obtain⟨hi,xs,F,Y⟩:=q;obtain⟨S,T,p,W⟩:=I.list F;have j:n-1-i<xs.length:=by lia
  obtain⟨u,L,O⟩:=T.get (Jk j)
  obtain⟨D,f1,f2,t,y,B⟩:=m it (by simp)
  have J:(n:Int)-1-i=((n-1-i:Nat):Int):=by lia
  have f:=st.2;rw[J]at f;refine wpAny_pyNext_rev_item f p.isList (x:=u) (by simpa using L) λh' l Q=>?_
  have R:L2.MQ X tx σ H {s with heap:=h'}:=I.turned (t':=s.toks) (λb o g e=>(Q.2 b g).trans e) D f1 t y B
  obtain⟨o,e,c,d⟩:=id l;refine#[u,Z,eV (s:={s with heap:=h'}) e c d ⋯ #[_,H,R,O,#[Z,λys N=>by rw[I.list_inj N F];exact Jk j],#[by lia,?_],λb g=>(m b g).1]]
  have U:((n-1-i:Nat):Int)-1=(n:Int)-1-((i+1:Nat):Int):=by lia
  rw[<- U];exact l
 done:=by
  intro X C A r G i tx s σ H E I m st q;subst C A r;obtain⟨D,f1,f2,t,y,B⟩:=m it (by simp)
  have hi:i=n:=Nat.le_antisymm st.1 q
  have f:=st.2;rw[show(n:Int)-1-i= -1 by lia]at f
  exact wpAny_pyNext_rev_end (I.ok.hd G) f λh' M=>#[Z,I.turned (t':=s.toks) (λb o g e=>M b o g e) D f1 t y B]
 self:=λ_ _ _ _ _ st h=>wpAny_pyIter_revIter st.2 h
theorem wn{P:Ξ}{w:Ω}{K:ι}{tg:Φ}(a it:Δ)(n:Nat):Oz P w K tg (vA K a n) [it] it (λi h=>i<=n/\Ol h it a ((n:Int)-1-i)) where
 mem:=by simp
 obj:=λi h st b g=>by
  have e:b=it:=by simpa using g
  subst e;obtain⟨_,o,e,c,d⟩:=st
  exact#[o,e,λv z=>by rw[d]at z;cases z]
 keep:=λi h h' st k=>#[st.1,let⟨o,e,r⟩:=st.2;#[o,k it (by simp) o e,r]]
 item:=by
  intro X D B t L i tx s σ H E I m st q;subst D B t;obtain⟨hi,xs,J,hn⟩:=q;obtain⟨W,M,p,hz⟩:=I.tuple J;have G:=M.length;have j:n-1-i<xs.length:=by lia
  obtain⟨u,O,S⟩:=M.get (Jk j)
  obtain⟨F,f1,f2,y,A,C⟩:=m it (by simp)
  have N:(n:Int)-1-i=((n-1-i:Nat):Int):=by lia
  have f:=st.2;rw[N]at f;refine sW f p (x:=u) (by simpa using O) (by simp;lia) λh' tk l T=>?_
  have U:L2.MQ X tx σ H {s with heap:=h',toks:=tk}:=I.turned (t':=tk) (λb o g e=>(T.2 b g).trans e) F f1 y A C
  obtain⟨o,e,c,d⟩:=id l;refine#[u,Z,eV (s:={s with heap:=h',toks:=tk}) e c d ⋯ #[_,H,U,S,#[Z,λys R=>by rw[I.tuple_inj R J];exact Jk j],#[by lia,?_],λb g=>(m b g).1]]
  have Y:((n-1-i:Nat):Int)-1=(n:Int)-1-((i+1:Nat):Int):=by lia
  rw[<- Y];exact l
 done:=by
  intro X D B t L i tx s σ H E I m st q;subst D B t;obtain⟨F,f1,f2,y,A,C⟩:=m it (by simp)
  have hi:i=n:=Nat.le_antisymm st.1 q
  have f:=st.2;rw[show(n:Int)-1-i= -1 by lia]at f
  exact vD (I.ok.hd L) f λh' Q=>#[Z,I.turned (t':=s.toks) (λb o g e=>Q b o g e) F f1 y A C]
 self:=λ_ _ _ _ _ st h=>Aj st.2 h
theorem wK{P:Ξ}{w:Ω}{K:ι}{tg:Φ}(it:Δ)(n:Nat):Oz P w K tg (vw n) [it] it (λi h=>IsRangeIter h it ((n:Int)-1+(i:Nat)*(-1)) ((n:Int)-(i:Nat)) (-1)) where
 mem:=by simp
 obj:=λi h st b a=>by
  have e:b=it:=by simpa using a
  subst e
  exact#[_,st,λv z=>by
   have B:Data.fields _=Data.cell v:=z
   cases B]
 keep:=λi h h' st k=>k it (by simp) _ st
 item:=by
  intro X q g l f i tx s σ H E I d st j;subst q g l;obtain⟨r,f1,f2,p,u,m⟩:=d it (by simp)
  have W:=Walks.range (prog:=X.prog) (w:=X.w) (I.ok.hd f) it ((n:Int)-1) (-1) n
  refine W.item i s _ _ j st λv h' tk y c kk=>?_
  obtain⟨t,rfl⟩:=y;have x:L2.MQ X tx σ H {s with heap:=h',toks:=tk}:=I.turned (λb o a e=>kk b o (by simpa using a) e) r f1 p u m
  refine#[_,Z,eV (s:={s with heap:=h',toks:=tk}) (n:="range_iterator") c Z Z ⋯ #[.int ((n:Int)-1-i),H,x,#[t,?_],#[Z,Z],c,λb a=>(d b a).1]]
  rw[show(n:Int)-1+(i:Nat)*(-1)=(n:Int)-1-i by lia]
 done:=by
  intro X q g l f i tx s σ H E I d st j;subst q g l;obtain⟨r,f1,f2,p,u,m⟩:=d it (by simp)
  exact wpAny_pyNext_range_end (I.ok.hd f) st (by have:n<=i:=j;lia) λh' A=>#[Z,I.turned (t':=s.toks) (λb o a e=>A b o a e) r f1 p u m]
 self:=λ_ _ _ _ _ st h=>Mt st h
section
variable{X:Cx}{tg:Φ}
theorem Ce:bootBuiltins "reversed"=↑(.type "reversed"):=by kernel_rfl
def F2(K:ι)(ta:TA):TI:=λσ H R=>ta σ H λc H1=>∃a,c=[.ref a]/\((∃xs,MV K H1 a xs/\R (vZ K a xs.length) H1)\/(∃xs,MW K H1 a xs/\R (vA K a xs.length) H1)\/∃n:Nat,H1 a=↑(.rng 0 n)/\(n:Int)<2 ^ 62/\R (vw n) H1)
theorem Fl{a:Φ}{ta:TA}{p pos:Pos}(hg:Gl X "reversed")(hm:X.mg "reversed"=none)(ha:PA X [a] ta)(hn:Zs a=true:=by rfl):
  PI X tg (.Call (.Name "reversed" p) [a] [] pos) (F2 X.K ta):=by
 intro tx s σ H R I h;refine Call_ (bu I hg hm Ce (Lg (qF (ha pos tx s σ H _ I h) λE d A=>?_) (cH hn) Z))
 obtain⟨F,H1,g,D,w⟩:=A;obtain⟨l,e,w⟩:=w;subst e;obtain⟨u,rfl,z⟩:=D.one;cases z;have i:∀b∈[d.heap.objs.size],ZZ X tx H1 b:=λb C=>by
  rw[Jg.mp C];exact g.fpOk (Je _) (g.hok.fresh (Je _))
 rcases w with⟨xs,j,q⟩|⟨xs,j,q⟩|⟨n,j,m,q⟩
 ·obtain⟨c,x,r,y⟩:=g.list j
  have f:=x.length;refine call_reversed_list r.isList ?_
  have hi:(d.heap.push (revObj l ((c.toArray.size:Int)-1))).IsRevIter d.heap.objs.size l ((c.toArray.size:Int)-1):=#[_,Jw _ Z,Z,Z]
  refine wpAny_pyIter_revIter hi ?_
  refine#[d.heap.objs.size,[d.heap.objs.size],_,_,H1,Z,g.kept (t':=d.toks) λb o e=>Jj _ e,vN l _ xs.length,#[JM _,?_],i,q]
  rw[show(xs.length:Int)-1-((0:Nat):Int)=(c.toArray.size:Int)-1 by simp [f]]
  exact hi
 ·obtain⟨c,x,r,y⟩:=g.tuple j
  have f:=x.length;refine FR (show d.heap.IsTuple l c.toArray from r) (by simp;lia) λh' tk hi hk=>Aj hi ?_
  refine#[d.heap.objs.size,[d.heap.objs.size],_,_,H1,Z,g.kept (t':=tk) hk,wn l _ xs.length,#[JM _,?_],i,q]
  rw[show(xs.length:Int)-1-((0:Nat):Int)=(c.toArray.size:Int)-1 by simp [f]]
  exact hi
 ·obtain⟨t,u,v,B⟩:=g.hok l _ j
  refine Fe B m λh' hi hk=>Mt hi ?_
  refine#[d.heap.objs.size,[d.heap.objs.size],_,_,H1,Z,g.kept (t':=d.toks) hk,wK _ n,?_,i,q]
  show IsRangeIter _ _ _ _ _
  rw[show(n:Int)-1+((0:Nat):Int)*(-1)=(n:Int)-1 by lia,show(n:Int)-((0:Nat):Int)=n by lia]
  exact hi
def AT(K:ι)(tl:TE):TI:=λσ H R=>tl σ H λx H1=>∃a,x= .ref a/\((∃xs,MV K H1 a xs)/\R (iu K a) H1\/(∃xs,MW K H1 a xs)/\R (ib K a) H1)
theorem Fa{l:Φ}{tl:TE}(hl:PE X l tl):PI X tg l (AT X.K tl):=by
 intro tx s σ H R I h;refine qF (hl tx s σ H _ I h) λv c m=>?_
 obtain⟨x,H1,d,u,i⟩:=m;obtain⟨a,e,i⟩:=i;subst e;cases u;have g:∀b∈[c.heap.objs.size],ZZ X tx H1 b:=λb n=>by
  rw[Jg.mp n];exact d.fpOk (Je _) (d.hok.fresh (Je _))
 rcases i with⟨⟨xs,j⟩,q⟩|⟨⟨xs,j⟩,q⟩
 ·obtain⟨f,t,p,r⟩:=d.list j
  refine Lz p.isList ?_
  exact#[c.heap.objs.size,[c.heap.objs.size],_,_,H1,Z,d.kept (t':=c.toks) λb o e=>Jj _ e,nS a _,#[_,Jw _ Z,Z,Z],g,q]
 ·obtain⟨f,t,p,r⟩:=d.tuple j
  refine IC (show c.heap.IsTuple a f.toArray from p) ?_
  exact#[c.heap.objs.size,[c.heap.objs.size],_,_,H1,Z,d.kept (t':=c.toks) λb o e=>Jj _ e,kZ a _,#[_,Jw _ Z,Z,Z],g,q]
end
section
variable{K:ι}{a:Δ}{xs:Β}{g:TG}{tb:TS}{D:Nq}{σ:L2.St}{H:Hp}
abbrev a9(J:It)(g:TG)(tb:TS)(D:Nq)(σ:L2.St)(H:Hp):Prop:=∃W:Nat->Nat->L2.St->Hp->Prop,(∃m,W 0 m σ H)/\∀i m σ H,W i m σ H->
      (J.stop i H/\D.nx σ H)\/(J.go i H/\∃N:L2.St->Hp->Prop,(∀σ' H',N σ' H'->∃m',m'<m/\W (i+1) m' σ' H')/\∀x H',J.yld i H x H'->g x σ H' λσ2 H2=>tb {D with nx:=N,ct:=N,bk:=D.nx} σ2 H2)
theorem iA{J:It}{n:Nat}(Pv:Nat->L2.St->Hp->Prop)(l:Pv 0 σ H)(c:∀i σ H,i<n->Pv i σ H->J.go i H)(hst:∀H,J.stop n H)
  (hs:∀i x σ H H',i<n->Pv i σ H->J.yld i H x H'->g x σ H' λd j=>tb {D with nx:=Pv (i+1),ct:=Pv (i+1),bk:=D.nx} d j)(hd:∀σ H,Pv n σ H->D.nx σ H):a9 J g tb D σ H:=by
 refine#[λi m σ H=>m=n-i/\i<=n/\Pv i σ H,#[n,by simp,JM _,l],?_]
 rintro i m σ H ⟨rfl,hi,p⟩
 by_cases a:i<n
 ·exact .inr #[c i σ H a p,Pv (i+1),λf H' h=>#[n-(i+1),by lia,Z,a,h],λx H' y=>hs i x σ H H' a p y]
 ·have e:i=n:=by lia
  subst e;exact .inl #[hst H,hd σ H p]
theorem AB(Pv:Nat->L2.St->Hp->Prop)(e:Pv 0 σ H)(hl:∀i σ H,Pv i σ H->MV K H a xs)
  (hs:∀i x σ H,i<xs.length->xs[xs.length-1-i]? =↑x->Pv i σ H->g x σ H λc d=>tb {D with nx:=Pv (i+1),ct:=Pv (i+1),bk:=D.nx} c d)(hd:∀σ H,Pv xs.length σ H->D.nx σ H):a9 (vZ K a xs.length) g tb D σ H:=
 iA Pv e (λi σ H hi p=>#[hi,xs,hl i σ H p,Z]) (λ_=>Je _) (λi x σ H H' hi p y=>by
  obtain⟨rfl,y⟩:=y;exact hs i x σ H' hi (y xs (hl i σ H' p)) p) hd
theorem BF(Pv:Nat->L2.St->Hp->Prop)(e:Pv 0 σ H)(hl:∀i σ H,Pv i σ H->MW K H a xs)
  (hs:∀i x σ H,i<xs.length->xs[xs.length-1-i]? =↑x->Pv i σ H->g x σ H λc d=>tb {D with nx:=Pv (i+1),ct:=Pv (i+1),bk:=D.nx} c d)(hd:∀σ H,Pv xs.length σ H->D.nx σ H):a9 (vA K a xs.length) g tb D σ H:=
 iA Pv e (λi σ H hi p=>#[hi,xs,hl i σ H p,Z]) (λ_=>Je _) (λi x σ H H' hi p y=>by
  obtain⟨rfl,y⟩:=y;exact hs i x σ H' hi (y xs (hl i σ H' p)) p) hd
theorem Av{n:Nat}(Pv:Nat->L2.St->Hp->Prop)(d:Pv 0 σ H)
  (hs:∀i σ H,i<n->Pv i σ H->g (.int ((n:Int)-1-i)) σ H λa c=>tb {D with nx:=Pv (i+1),ct:=Pv (i+1),bk:=D.nx} a c)(hd:∀σ H,Pv n σ H->D.nx σ H):a9 (vw n) g tb D σ H:=
 iA Pv d (λi σ H hi p=>hi) (λ_=>Je _) (λi x σ H H' hi p y=>by
  obtain⟨rfl,rfl⟩:=y;exact hs i σ H' hi p) hd
end
end L3
namespace L3
open PySem PySem.Spec L2
variable{X:Cx}
theorem xq{tg:Φ}{a:Φ}{ta:TA}{p pos:Pos}(hg:Gl X "reversed")(hm:X.mg "reversed"=none)(ha:QA X [a] ta)(hn:Zs a=true:=by rfl):QI X tg (.Call (.Name "reversed" p) [a] [] pos) (F2 X.K ta):=#[Fl (hg:=hg) (hm:=hm) (ha:=ha.h) (hn:=hn)]
theorem dc{tg:Φ}{l:Φ}{tl:TE}(hl:QE X l tl):QI X tg l (AT X.K tl):=#[Fa (hl:=hl.h)]
def Zv(x:Int):Prop:=0<=x/\x<16
def zZ(r:Ε):Prop:=∀x∈r,Zv x
def Cv(n i:Nat):Nat:=if i=0 then n-1 else i-1
def ah(r:Ε)(i:Nat):Int:=r.getD (Cv r.length i) 0
def mJ(t:Ε)(s:Int)(r:Ε)(i:Nat):Ε:=r.set i (t.getD ((r.getD i 0+s+i+ah r i)%16).toNat 0)
def jJ(b:Ε)(s:Int)(r:Ε)(i:Nat):Ε:=r.set i ((b.getD (r.getD i 0).toNat 0-s-i-ah r i)%16)
def bE(t:Ε)(s:Int)(r:Ε):Nat->Ε
 |0=>r
 |n+1=>mJ t s (bE t s r n) n
def ci(b:Ε)(s:Int)(r:Ε):Nat->Ε
 |0=>r
 |n+1=>ci b s (jJ b s r n) n
def Zp(t:Ε):Ε->Ε->Ε
 | [],r=>r
 |s::ks,r=>Zp t ks (bE t s r r.length)
def Z3(b:Ε):Ε->Ε->Ε
 | [],r=>r
 |s::ks,r=>ci b s (Z3 b ks r) r.length
theorem AY{t:Ε}{s:Int}{r:Ε}{i:Nat}:(mJ t s r i).length=r.length:=IE ..
theorem pK{b:Ε}{s:Int}{r:Ε}{i:Nat}:(jJ b s r i).length=r.length:=IE ..
theorem Zb{t:Ε}{s:Int}{r:Ε}:∀{n:Nat},(bE t s r n).length=r.length
 |0=>rfl
 |n+1=>by rw[bE,AY,Zb]
theorem pq{b:Ε}{s:Int}:∀{n:Nat} {r:Ε},(ci b s r n).length=r.length
 |0,_=>rfl
 |n+1,r=>by rw[ci,pq,pK]
theorem fu{t:Ε}:∀{ks r:Ε},(Zp t ks r).length=r.length
 | [],_=>rfl
 |s::ks,r=>by rw[Zp,fu,Zb]
theorem jC{b:Ε}:∀{ks r:Ε},(Z3 b ks r).length=r.length
 | [],_=>rfl
 |s::ks,r=>by rw[Z3,pq,jC]
theorem rA{r:Ε}{i:Nat}{x:Int}(h:zZ r)(hx:Zv x):zZ (r.set i x):=λy a=>by
 rcases List.mem_or_eq_of_mem_set a with z|z
 ·exact h y z
 ·rw[z];exact hx
theorem bX(x:Int):Zv (x%16):=#[IX _ ⋯,IZ _ ⋯]
theorem mP{r:Ε}(h:zZ r)(i:Nat):Zv (r.getD i 0):=by
 rw[JO]
 by_cases hi:i<r.length
 ·rw[Jk hi];exact h _ (IG hi)
 ·rw[LN (by lia)];exact#[⋯,⋯]
theorem Cg{t:Ε}(p:t.Perm Nt):zZ t:=λx a=>pT (p.mem_iff.mp a)
theorem Bo{t:Ε}(p:t.Perm Nt){s:Int}{r:Ε}{i:Nat}(h:zZ r):zZ (mJ t s r i):=rA h (mP (Cg p) _)
theorem pE{b:Ε}{s:Int}{r:Ε}{i:Nat}(h:zZ r):zZ (jJ b s r i):=rA h (bX _)
theorem eQ{t:Ε}(p:t.Perm Nt){s:Int}{r:Ε}(h:zZ r):∀{n:Nat},zZ (bE t s r n)
 |0=>h
 |n+1=>Bo p (eQ p h)
theorem p6{b:Ε}{s:Int}:∀{n:Nat} {r:Ε},zZ r->zZ (ci b s r n)
 |0,_,h=>h
 |n+1,_,h=>p6 (n:=n) (pE h)
theorem rl{t:Ε}(p:t.Perm Nt):∀{ks r:Ε},zZ r->zZ (Zp t ks r)
 | [],_,h=>h
 |s::ks,_,h=>rl (ks:=ks) p (eQ p h)
theorem pC{b:Ε}:∀{ks r:Ε},zZ r->zZ (Z3 b ks r)
 | [],_,h=>h
 |s::ks,_,h=>p6 (pC (ks:=ks) h)
theorem oC{r:Ε}{i:Nat}{x:Int}(h:i<r.length):(r.set i x).getD i 0=x:=by
 rw[JO,LY h];rfl
theorem tj{r:Ε}{i j:Nat}{x:Int}(h:i≠j):(r.set i x).getD j 0=r.getD j 0:=by
 rw[JO,LZ h,<- JO]
theorem Ga{n i:Nat}(h2:2<=n)(hi:i<n):i≠Cv n i:=by unfold Cv;split<;>lia
theorem EY{r:Ε}{i:Nat}{x:Int}(h2:2<=r.length)(hi:i<r.length):ah (r.set i x) i=ah r i:=by
 unfold ah;rw[IE,tj (Ga h2 hi)]
theorem Bd{r:Ε}{i:Nat}(hi:i<r.length):r.set i (r.getD i 0)=r:=by
 rw[JO,Jk hi];exact List.set_getElem_self hi
theorem AF{t:Ε}(p:t.Perm Nt){z:Int}(h:Zv z):(Qe t).getD (t.getD z.toNat 0).toNat 0=z:=by
 have c:z.toNat<t.length:=by rw[uE p];have:=h.1;have:=h.2;lia
 have e:t.getD z.toNat 0=t[z.toNat]:=by rw[JO,Jk c];rfl
 have bd:=sr p c;have a:t[z.toNat].toNat<(Qe t).length:=by rw[cB];lia
 rw[e,JO,Jk a,Lm,C5 p (by rw[cB]at a;exact a)]
 have d:((t[z.toNat].toNat:Nat):Int)=t[z.toNat]:=by lia
 rw[d,xo p c]
 have:=h.1
 lia
theorem Bh{t:Ε}(p:t.Perm Nt){s:Int}{r:Ε}{i:Nat}(hr:zZ r)(h2:2<=r.length)(hi:i<r.length):jJ (Qe t) s (mJ t s r i) i=r:=by
 unfold jJ mJ;rw[oC hi,EY h2 hi,List.set_set,AF p (bX _)];have a:=mP hr i;have e:((r.getD i 0+s+i+ah r i)%16-s-i-ah r i)%16=r.getD i 0:=by
  have:=a.1
  have:=a.2
  lia
 rw[e,Bd hi]
theorem pR{t:Ε}(p:t.Perm Nt){s:Int}{r:Ε}(hr:zZ r)(h2:2<=r.length):∀{n:Nat},n<=r.length->ci (Qe t) s (bE t s r n) n=r
 |0,_=>rfl
 |n+1,hn=>by
  rw[bE,ci,Bh p (eQ p hr) (by rw[Zb];exact h2) (by rw[Zb];lia)]
  exact pR p hr h2 (by lia)
theorem rF{t:Ε}(p:t.Perm Nt):∀{ks r:Ε},zZ r->2<=r.length->Z3 (Qe t) ks (Zp t ks r)=r
 | [],_,_,_=>rfl
 |s::ks,r,hr,h2=>by
  rw[Z3,Zp,rF p (eQ p hr) (by rw[Zb];exact h2),fu,Zb,pR p hr h2 (Je _)]
theorem rN(t:Ε):∀(ks:Ε) (s:Int) (r:Ε),Zp t (ks++[s]) r=bE t s (Zp t ks r) r.length
 | [],_,_=>rfl
 |a::ks,s,r=>by rw[List.cons_append,Zp,rN t ks s,Zp,Zb]
def Sq(K:ι)(H:Hp)(a:Δ)(xs:Β):Prop:=MV K H a xs\/MW K H a xs
theorem Sq.same{K:ι}{H H':Hp}{a:Δ}{xs:Β}(e:MM H H')(h:Sq K H a xs):Sq K H' a xs:=h.elim (λh=> .inl (e.seq h)) λh=> .inr (MM.sqt e h)
theorem Sq.lst{K:ι}{H:Hp}{a:Δ}{xs:Β}(h:H a=↑(.lst xs)):Sq K H a xs:= .inl (MV.of h)
theorem Sq.tup{K:ι}{H:Hp}{a:Δ}{xs:Β}(h:H a=↑(.tup xs)):Sq K H a xs:= .inr (MW.of h)
inductive Ri (K:ι) (vs:Β) (H:Hp) (Q:VK):Prop
 |mk (a b c:Δ) (t ks ds:Ε) (h1:vs=[.ref a,.ref b,.ref c]) (h2:Sq K H a (t.map V.int)) (h3:Sq K H b (ks.map V.int)) (h4:Sq K H c (ds.map V.int)) (h5:t.length=16) (h6:1<=ds.length) (h7:ds.length<64) (h8:∀p H',MM H H'->H p=none->H' p=↑(.tup ((Zp t ks ds).map V.int))->Q (.ref p) H')
def ly(K:ι):Sp:=λa H Q _=>Ri K a H Q
inductive O8 (K:ι) (vs:Β) (H:Hp) (Q:VK):Prop
 |mk (a b c:Δ) (t ks ds:Ε) (h1:vs=[.ref a,.ref b,.ref c]) (h2:Sq K H a (t.map V.int)) (h3:Sq K H b (ks.map V.int)) (h4:Sq K H c (ds.map V.int)) (h5:t.Perm Nt) (h6:zZ ds) (h7:1<=ds.length) (h8:ds.length<64) (h9:∀p H',MM H H'->H p=none->H' p=↑(.tup ((Z3 (Qe t) ks ds).map V.int))->Q (.ref p) H')
def nV(K:ι):Sp:=λa H Q _=>O8 K a H Q
theorem cx{r:Ε}{i:Nat}{z:Int}(e:z=(i:Int))(h:i<r.length):Q2 (r.map V.int) z=↑(.int (r.getD i 0)):=by
 rw[Dj e (lY h),JO,Jk h];rfl
theorem wb{r:Ε}{i:Nat}{z:Int}(e:z=(i:Int)-1)(h:i<r.length):Q2 (r.map V.int) z=↑(.int (ah r i)):=by
 subst e;unfold ah Cv
 by_cases a:i=0
 ·subst a
  rw[Jd Z];have c:r.length-1<r.length:=by lia
  unfold Q2 bA;rw[Jb,Jc (by lia),Jd (by lia)]
  have d:((((0:Nat):Int)-1)+(r.length:Int)).toNat=r.length-1:=by lia
  show(r.map V.int)[((((0:Nat):Int)-1)+(r.length:Int)).toNat]? =_
  rw[d,lY c,JO,Jk c];rfl
 ·rw[Jc a]
  exact cx (by lia) (by lia)
theorem Sq.ix{K:ι}{H:Hp}{a:Δ}{xs:Β}{i:Int}{v:V}{Q:VK}(h:Sq K H a xs)(e:Q2 xs i=↑v)(q:Q v H):F6 K (.ref a) (.int i) H Q\/BO K (.ref a) (.int i) H Q:=
 h.elim (λh=> .inl #[a,xs,i,v,Z,Z,h,e,q]) λh=> .inr #[a,xs,i,v,Z,Z,h,e,q]
section
variable{K:ι}{a:Δ}{xs:Β}{g:TG}{tb:TS}{D:Nq}{σ:L2.St}{H H0:Hp}
theorem DR(c:Sq K H0 a xs)(Pv:Nat->L2.St->Hp->Prop)(d:Pv 0 σ H)(hk:∀i e H',Pv i e H'->MM H0 H')
  (hs:∀i x σ H,xs[i]? =↑x->Pv i σ H->g x σ H λf h=>tb {D with nx:=Pv (i+1),ct:=Pv (i+1),bk:=D.nx} f h)(hd:∀σ H,Pv xs.length σ H->D.nx σ H):
  ((∃xs,MV K H a xs)/\a9 (iu K a) g tb D σ H)\/((∃xs,MW K H a xs)/\a9 (ib K a) g tb D σ H):=by
 rcases c with c|c
 ·exact .inl #[#[xs,(hk _ _ _ d).seq c],jH Pv d (λi σ H _ p=>(hk i σ H p).seq c) hs hd]
 ·exact .inr #[#[xs,MM.sqt (hk _ _ _ d) c],iG Pv d (λi σ H _ p=>MM.sqt (hk i σ H p) c) hs hd]
theorem Bm(c:Sq K H0 a xs)(Pv:Nat->L2.St->Hp->Prop)(d:Pv 0 σ H)(hk:∀i e H',Pv i e H'->MM H0 H')
  (hs:∀i x σ H,i<xs.length->xs[xs.length-1-i]? =↑x->Pv i σ H->g x σ H λf h=>tb {D with nx:=Pv (i+1),ct:=Pv (i+1),bk:=D.nx} f h)(hd:∀σ H,Pv xs.length σ H->D.nx σ H):
  (∃xs,MV K H a xs/\a9 (vZ K a xs.length) g tb D σ H)\/(∃xs,MW K H a xs/\a9 (vA K a xs.length) g tb D σ H)\/(∃n:Nat,H a=↑(.rng 0 n)/\(n:Int)<2 ^ 62/\a9 (vw n) g tb D σ H):=by
 rcases c with c|c
 ·exact .inl #[xs,(hk _ _ _ d).seq c,AB Pv d (λi σ H p=>(hk i σ H p).seq c) hs hd]
 ·exact .inr (.inl #[xs,MM.sqt (hk _ _ _ d) c,BF Pv d (λi σ H p=>MM.sqt (hk i σ H p) c) hs hd])
end
theorem aC{H a:Hp}{l:Δ}{o:HO}(s:MM H a)(h:H l=none):MM H (MO a l o):=λd u e=>by
 rw[qk (qr e h)];exact s _ _ e
theorem lN{ks:Ε}{j:Nat}{s:Int}(h:ks[j]? =↑s):ks.take (j+1)=ks.take j++[s]:=by rw[Ig,h];rfl
theorem Af{ks:Ε}{j:Nat}{s:Int}(h:ks[j]? =↑s):ks.drop j=s::ks.drop (j+1):=by
 obtain⟨a,e⟩:=Jt.mp h;rw[List.drop_eq_getElem_cons a,e]
inductive Px (H:Hp):Nat->V->V->Prop where
 |int (n:Nat) (i:Int):Px H n (.int i) (.int i)
 |str (n:Nat) (x:Str):Px H n (.str x) (.str x)
 |non (n:Nat):Px H n .non .non
 |bl (n:Nat) (b:Bool):Px H n (.bl b) (.bl b)
 | tup {n:Nat} {a b:Δ} {xs ys:Β} (h1:Rd H a (.tup xs)) (h2:Rd H b (.tup ys)) (hl:xs.length=ys.length)
   (hi:∀(i:Nat) (x y:V),xs[i]? =↑x->ys[i]? =↑y->Px H n x y):Px H (n+1) (.ref a) (.ref b)
 | lst {n:Nat} {a b:Δ} {xs ys:Β} (h1:H a=↑(.lst xs)) (h2:H b=↑(.lst ys)) (hl:xs.length=ys.length)
   (hi:∀(i:Nat) (x y:V),xs[i]? =↑x->ys[i]? =↑y->Px H n x y):Px H (n+1) (.ref a) (.ref b)
theorem dh(n:Nat):((List.range n).all λ_=>true)=true:=by simp
section
open SeqAt
variable{tx:ML}{σ:L2.St}{H:Hp}{s:Θ}
theorem Qt{xs:Β}{us:Ζ}(r:MU xs us){j:Nat}(h:j<us.length):∃x,xs[j]? =↑x/\MT x us[j]:=by
 have e:=r.length;have a:j<xs.length:=by lia
 obtain⟨u,c,d⟩:=r.get (Jk a)
 rw[Jk h]at c;cases c
 exact⟨_,Jk a,d⟩
theorem wB(I:L2.MQ X tx σ H s){n:Nat}{x y:V}(h:Px H n x y):∀{v u:Γ} {A:Around},MT x v->MT y u->A.units+n<cLine->EqAt A s v u true:=by
 induction h with
 |int n i=>rintro v u A ⟨t,rfl⟩ ⟨B,rfl⟩ _;have:=EqAt.int_int (A:=A) (s:=s) i t i B;rwa [Ih]at this
 |str n z=>rintro v u A ⟨t,rfl⟩ ⟨B,rfl⟩ _;have:=EqAt.str_str (A:=A) (s:=s) z t z B;rwa [Ih]at this
 |non n=>
  intro v u A l g _
  cases(show v=Γ.none from l)
  cases(show u=Γ.none from g)
  exact EqAt.same _
 |bl n b=>
  intro v u A l g _
  cases(show v=Γ.bool b from l)
  cases(show u=Γ.bool b from g)
  exact EqAt.same _
 | @tup n a b xs ys h1 h2 hl _ ih=>
  intro v u A l g F
  cases(show v=Γ.ref a from l)
  cases(show u=Γ.ref b from g)
  by_cases c:a=b
  ·rw[c];exact EqAt.same _
  ·obtain⟨f,m,p,_⟩:=I.tuple (.inl h1)
   obtain⟨d,o,p2,_⟩:=I.tuple (.inl h2)
   have E:=m.length;have G:=o.length;have e:=RcAt.tuples (A:=A) (e:=λ_=>true) (show s.heap.IsTuple a f.toArray from p) (show s.heap.IsTuple b d.toArray from p2) (by lia) (λj D C=>by
    obtain⟨x,ex,r⟩:=Qt m (j:=j) (by simpa using D)
    obtain⟨y,q,w⟩:=Qt o (j:=j) (by simpa using C)
    exact ih j x y ex q r w (by rw[Ls];lia))
   rw[dh,show(f.toArray.size==d.toArray.size)=true by simp;lia]at e
   exact EqAt.of_refs c e
 | @lst n a b xs ys h1 h2 hl _ ih=>
  intro v u A l g F
  cases(show v=Γ.ref a from l)
  cases(show u=Γ.ref b from g)
  by_cases c:a=b
  ·rw[c];exact EqAt.same _
  ·obtain⟨f,m,p,_⟩:=I.list (MV.of h1)
   obtain⟨d,o,p2,_⟩:=I.list (MV.of h2)
   have E:=m.length;have G:=o.length;have e:=RcAt.lists (A:=A) (e:=λ_=>true) p.isList p2.isList (by simp;lia) (by lia) (λj D C=>by
    obtain⟨x,ex,r⟩:=Qt m (j:=j) (by simpa using D)
    obtain⟨y,q,w⟩:=Qt o (j:=j) (by simpa using C)
    exact ih j x y ex q r w (by rw[Ls];lia))
   rw[dh]at e;exact EqAt.of_refs c e
theorem Ez(I:L2.MQ X tx σ H s){n:Nat}{x y:V}{v u:Γ}{A:Around}(h:Px H n x y)(m:MT x v)(l:MT y u)(hu:A.units+n<cLine):RcAt A s v u true/\RcNeAt A s v u false:=by
 cases h with
 |int n i=>
  obtain⟨t,rfl⟩:=m;obtain⟨p,rfl⟩:=l;have f:=RcAt.int_int (A:=A) (s:=s) i t i p
  have g:=RcNeAt.int_int (A:=A) (s:=s) i t i p
  rw[Ih]at f g
  exact#[f,g]
 |str n z=>
  obtain⟨t,rfl⟩:=m;obtain⟨p,rfl⟩:=l;have f:=RcAt.str_str (A:=A) (s:=s) z t z p
  have g:=RcNeAt.str_str (A:=A) (s:=s) z t z p
  rw[Ih]at f g
  exact#[f,g]
 |non n=>
  cases(show v=Γ.none from m)
  cases(show u=Γ.none from l)
  exact#[RcAt.none_none,RcNeAt.none_none]
 |bl n b=>
  cases(show v=Γ.bool b from m)
  cases(show u=Γ.bool b from l)
  have f:=RcAt.bool_bool (A:=A) (s:=s) b b
  have g:=RcNeAt.bool_bool (A:=A) (s:=s) b b
  rw[Ih]at f g
  exact#[f,g]
 | @tup n a b xs ys h1 h2 hl ih=>
  cases(show v=Γ.ref a from m)
  cases(show u=Γ.ref b from l)
  obtain⟨d,C,w,_⟩:=I.tuple (.inl h1)
  obtain⟨c,r,p2,_⟩:=I.tuple (.inl h2)
  have G:=C.length;have J:=r.length;have B:∀j (q:j<d.toArray.size) (o:j<c.toArray.size),EqAt A.in1 s d.toArray[j] c.toArray[j] ((λ_=>true) j):=λj q o=>by
   obtain⟨x,ex,D⟩:=Qt C (j:=j) (by simpa using q)
   obtain⟨y,E,F⟩:=Qt r (j:=j) (by simpa using o)
   exact wB I (ih j x y ex E) D F (by rw[Ls];lia)
  have f:=RcAt.tuples (A:=A) (e:=λ_=>true) (show s.heap.IsTuple a d.toArray from w) (show s.heap.IsTuple b c.toArray from p2) (by lia) B
  have g:=RcNeAt.tuples (A:=A) (e:=λ_=>true) (show s.heap.IsTuple a d.toArray from w) (show s.heap.IsTuple b c.toArray from p2) (by lia) B
  rw[dh,show(d.toArray.size==c.toArray.size)=true by simp;lia]at f g
  exact#[f,g]
 | @lst n a b xs ys h1 h2 hl ih=>
  cases(show v=Γ.ref a from m)
  cases(show u=Γ.ref b from l)
  obtain⟨d,C,w,_⟩:=I.list (MV.of h1)
  obtain⟨c,r,p2,_⟩:=I.list (MV.of h2)
  have G:=C.length;have J:=r.length;have B:∀j (q:j<d.toArray.size) (o:j<c.toArray.size),EqAt A.in1 s d.toArray[j] c.toArray[j] ((λ_=>true) j):=λj q o=>by
   obtain⟨x,ex,D⟩:=Qt C (j:=j) (by simpa using q)
   obtain⟨y,E,F⟩:=Qt r (j:=j) (by simpa using o)
   exact wB I (ih j x y ex E) D F (by rw[Ls];lia)
  have f:=RcAt.lists (A:=A) (e:=λ_=>true) w.isList p2.isList (by simp;lia) (by lia) B
  have g:=RcNeAt.lists (A:=A) (e:=λ_=>true) w.isList p2.isList (by simp;lia) (by lia) B
  rw[dh]at f g
  exact#[f,g]
inductive SI (b:Bool) (x:V) (y:V) (H:Hp) (Q:VK):Prop
 |mk (n:_) (h1:n<=32) (h2:Px H n x y) (h3:Q (.bl b) H)
def HC(b:Bool):R2:=λx y H Q=>SI b x y H Q
theorem FH{k:Nat}(hr:M9 k X.A):zT X (compareOp .NotEq) (HC false):=by
 intro tx s σ H x y v u Q I a c h;obtain⟨n,d,e,q⟩:=h
 exact(Ez I e a c (by have:=hr.un;lia)).2 _ _ _ _ #[.bl _,H,I,Z,q]
end
end L3
namespace L3
open PySem PySem.Spec PyProof.Rows L2
open Sem (wp)
def Ci(x:Str):It:=#[λi _=>i<x.cps.size,λi H v H'=>H'=H/\∃c,x.cps[i]? =↑c/\v= .str #[(List.toArray [c])],λi _=>x.cps.size<=i]
theorem AZ{P:Ξ}{w:Ω}{K:ι}{tg:Φ}(it:Δ)(x:Str)(t:Tok):Oz P w K tg (Ci x) [it] it (λi h=>h.IsStrIter it "str_ascii_iterator" x t i) where
 mem:=by simp
 obj:=λi h st b a=>by
  have e:b=it:=by simpa using a
  subst e;obtain⟨o,e,c,d⟩:=st
  exact#[o,e,λv z=>by rw[d]at z;cases z]
 keep:=λi h h' st k=>let⟨o,e,r⟩:=st;#[o,k it (by simp) o e,r]
 item:=by
  intro X B y l p i tx s σ H E I g st j;subst B y l;obtain⟨C,f1,f2,m,q,A⟩:=g it (by simp)
  have W:=Walks.strAscii (prog:=X.prog) (w:=X.w) (I.ok.hd p) it x t
  refine W.item i s _ _ j st λv h' tk J f kk=>?_
  obtain⟨c,u,D,rfl⟩:=J;have L:L2.MQ X tx σ H {s with heap:=h',toks:=tk}:=I.turned (λb o a e=>kk b o (by simpa using a) e) C f1 m q A
  obtain⟨o,e,G,d⟩:=id f
  exact#[_,Z,eV (s:={s with heap:=h',toks:=tk}) e G d ⋯ #[.str #[(List.toArray [c])],H,L,#[u,Z],#[Z,c,D,Z],f,λb a=>(g b a).1]]
 done:=by
  intro X B y l p i tx s σ H E I g st j;subst B y l;obtain⟨C,f1,f2,m,q,A⟩:=g it (by simp)
  have n:x.cps.size<=i:=j
  exact wpAny_pyNext_ascii_end (I.ok.hd p) st (by simp [n]) λh' F=>#[Z,I.turned (t':=s.toks) (λb o a e=>F b o a e) C f1 m q A]
 self:=λ_ _ _ _ _ st h=>wpAny_pyIter_striter_ascii st h
section
variable{X:Cx}{tg:Φ}
def EF(tl:TE):TI:=λσ H R=>tl σ H λv H1=>∃x,v= .str x/\x.cps.all (· <128)=true/\R (Ci x) H1
theorem EO{l:Φ}{tl:TE}(hl:PE X l tl):PI X tg l (EF tl):=by
 intro tx s σ H R I h;refine qF (hl tx s σ H _ I h) λv a d=>?_
 obtain⟨x,H1,c,j,i⟩:=d;obtain⟨z,rfl,f,q⟩:=i;obtain⟨t,rfl⟩:=j;refine wpAny_pyIter_ascii f ?_
 refine#[a.heap.objs.size,[a.heap.objs.size],_,_,H1,Z,c.kept (t':=a.toks) λb o e=>Jj _ e,AZ _ z t,#[_,Jw _ Z,Z,Z],λb g=>?_,q]
 rw[Jg.mp g];exact c.fpOk (Je _) (c.hok.fresh (Je _))
theorem yc{l:Φ}{tl:TE}(hl:QE X l tl):QI X tg l (EF tl):=#[EO hl.h]
end
theorem Dn{x:Str}{g:TG}{tb:TS}{D:Nq}{σ:L2.St}{H:Hp}(Pv:Nat->L2.St->Hp->Prop)(f:Pv 0 σ H)
  (hs:∀i c σ H,x.cps[i]? =↑c->Pv i σ H->g (.str #[(List.toArray [c])]) σ H λa e=>tb {D with nx:=Pv (i+1),ct:=Pv (i+1),bk:=D.nx} a e)(hd:∀σ H,Pv x.cps.size σ H->D.nx σ H):a9 (Ci x) g tb D σ H:=
 iA Pv f (λi σ H hi p=>hi) (λ_=>Je _) (λi v σ H H' hi p y=>by
  obtain⟨rfl,c,d,rfl⟩:=y;exact hs i c σ H' d p) hd
section
variable{X:Cx}{o e:Φ}{es:Ι}{to:TE}{t:TA}{name:Str}{apos cpos:Pos}{T id:String}{r:V->Β->Hp->VK->Prop}
theorem QU(i:PlainAttrs T)(f:Slot T name id)(h:typeOf (.builtin id)=pure (.type "method_descriptor"))(hm:je X id r)(ho:QE X o to)(ha:QA X (e::es) t)
  (d:attributeBase o name X.env (eval o X.env)=eval o X.env:=by rfl)
  (g:((backTo cpos (θ (e::es) X.env)).all (λx=> ! x.1)&&(backToKw cpos (keywordEach [] X.env)).all (λx=>x.1.isSome)
   &&decide ((e::es).length+([]:Χ).length+(if([]:Χ).isEmpty then 0 else 1)<30))=true:=by rfl)
  (c:(apos.endLine==cpos.line)=true:=by rfl)(hs:θ (e::es) X.env=(false,eval e X.env)::θ es X.env:=by rfl)(a:(backTo cpos (θ es X.env)).any (·.1)=false:=by rfl):
  QE X (.Call (.Attribute o name apos) (e::es) [] cpos) (GM X.K T r to t):=#[Ge i f h hm ho.h ha.h d g c hs a]
theorem Qi:je X "list.append" uI:=w9
end
theorem cO(ns:Ε):∀n,n<=ns.length->preSum (λi=>ns.getD i 0) n=(ns.take n).sum
 |0,_=>by simp [preSum]
 |n+1,h=>by
  have a:n<ns.length:=by lia
  rw[preSum,cO ns n (by lia),Ig,Jk a,Option.toList_some,List.sum_append,JO,Jk a]
  simp
theorem wE{B:Int}:∀{ns:Ε},(∀z∈ns,0<=z/\z<=B)->0<=ns.sum/\ns.sum<=ns.length*B
 | [],_=>#[by simp,by simp]
 |n::r,h=>by
  have h1:=h n JB;have c:=wE (ns:=r) λz a=>h z (JC _ a)
  rw[List.sum_cons,J7];refine#[by lia,?_]
  have:(((r.length+1:Nat):Int))*B=r.length*B+B:=by rw[Int.natCast_add,Int.add_mul];simp
  lia
section
variable{X:Cx}
theorem xn(hc:X.calm=true):zx X (.builtin "sum") (λxs H Q=>∃(p:Δ) (ns:Ε),xs=[.ref p]/\Sq X.K H p (ns.map V.int)/\ns.length<=1000/\(∀z∈ns,0<=z/\z<=1000000)/\Q (.int ns.sum) H):=by
 intro tx s σ H xs R Q I r h;obtain⟨p,ns,rfl,y,T,K,q⟩:=h;obtain⟨u,rfl,N⟩:=Qz r;cases N;have bd:∀n,n<=ns.length->0<=preSum (λi=>ns.getD i 0) n/\preSum (λi=>ns.getD i 0) n<=1000000000:=λn P=>by
  rw[cO ns n P];have h1:=wE (B:=1000000) (ns:=ns.take n) λz C=>K z (List.mem_of_mem_take C)
  have S:(ns.take n).length<=1000:=by rw[Ie];lia
  lia
 have m:∀j,j<ns.length->InLong ((λi=>ns.getD i 0) j)/\InLong (preSum (λi=>ns.getD i 0) (j+1)):=λj l=>by
  have U:=bd (j+1) (by lia)
  have W:0<=ns.getD j 0/\ns.getD j 0<=1000000:=by
   rw[JO,Jk l];exact K _ (IG l)
  unfold InLong;simp only
  lia
 have L:preSum (λi=>ns.getD i 0) ns.length=ns.sum:=by rw[cO ns _ (Je _),II]
 have val:∀{a:Ζ},MU (ns.map V.int) a->∀(i:Nat) (v:Γ),a.toArray[i]? =↑v->∃t,v= .int ((λi=>ns.getD i 0) i) t:=λ{a} g i v O=>by
  have D:a[i]? =↑v:=by simpa using O
  have hi:i<a.length:=(Jt.mp D).1
  obtain⟨x,ex,M⟩:=Qt g hi;obtain⟨z,rfl,C⟩:=Zf ex;obtain⟨t,J⟩:=M;refine#[t,?_]
  rw[(Jt.mp D).2]at J;rw[J]
  show Γ.int z t=Γ.int (ns.getD i 0) t
  rw[JO,C];rfl
 rcases y with y|y
 ·obtain⟨a,g,w,C⟩:=I.list y
  have c:ns.length=a.length:=by have:=g.length;rwa [Jb]at this
  have f:p<s.heap.objs.size:=by obtain⟨_,e,_⟩:=w.isList;exact Jl e
  refine call_sum_walk (Lz w.isList ?_)
  refine#[s.heap.objs.size,[s.heap.objs.size,p],[s.heap.objs.size],a.toArray.size,_,_,λi=>ns.getD i 0,Z,Walks.list (A:=X.A.in1) (I.ok.hd hc) _ p (Ju f) a.toArray,
   #[#[_,Jw _ Z,Z,Z],w.isList.push _],λb d=>?_,val g,λj l=>m j (by simp at l;lia),λh' tk t' hk=>?_]
  ·have sz:(s.heap.push {cls:= .type "list_iterator",data:= .fields (List.toArray [.ref p,.int 0 0])}).objs.size=s.heap.objs.size+1:=J5 ..
   simp only[Ji,Jr,Js]at d
   show b<(Ψ.push s.heap _).objs.size
   rw[J5];rcases d with rfl|rfl
   ·exact Iv _
   ·exact IR f
  ·have G:preSum (λi=>ns.getD i 0) a.toArray.size=ns.sum:=by rw[JA,<- c];exact L
   rw[G];refine#[.int _,H,I.kept (h':=h') (t':=tk) λb o q=>hk b o (λE=>?_) (Jj _ q),#[_,Z],q]
   rw[Jg.mp E]at q;exact J1 _ (Jl q)
 ·obtain⟨a,g,w,C⟩:=I.tuple y
  have c:ns.length=a.length:=by have:=g.length;rwa [Jb]at this
  have F:s.heap.IsTuple p a.toArray:=w
  have f:p<s.heap.objs.size:=by obtain⟨_,e,_⟩:=F;exact Jl e
  refine call_sum_walk (IC F ?_)
  refine#[s.heap.objs.size,[s.heap.objs.size,p],[s.heap.objs.size],a.toArray.size,_,_,λi=>ns.getD i 0,Z,Walks.tuple (A:=X.A.in1) (I.ok.hd hc) _ p (Ju f) a.toArray,
   #[#[_,Jw _ Z,Z,Z],let⟨o,e,r⟩:=F;#[o,Jj _ e,r]],λb d=>?_,val g,λj l=>m j (by simp at l;lia),λh' tk t' hk=>?_]
  ·simp only[Ji,Jr,Js]at d
   show b<(Ψ.push s.heap _).objs.size
   rw[J5];rcases d with rfl|rfl
   ·exact Iv _
   ·exact IR f
  ·have G:preSum (λi=>ns.getD i 0) a.toArray.size=ns.sum:=by rw[JA,<- c];exact L
   rw[G];refine#[.int _,H,I.kept (h':=h') (t':=tk) λb o q=>hk b o (λE=>?_) (Jj _ q),#[_,Z],q]
   rw[Jg.mp E]at q;exact J1 _ (Jl q)
end
end L3
namespace L3
open PySem PySem.Spec PyProof.Rows L2
section
variable{X:Cx}
theorem Cc:BB X (λx y H Q=>∃(p:Δ) (xs:Β) (i:Nat) (v:V),x= .ref p/\y= .int (i:Int)/\H p=↑(.lst xs)/\xs[i]? =↑v/\Q v H):=by
 intro tx s σ H o i A z Q I m l h;obtain⟨p,xs,j,v,rfl,rfl,c,a,q⟩:=h;cases m;obtain⟨t,rfl⟩:=l;obtain⟨f,r,d,B⟩:=I.list (MV.of c)
 obtain⟨u,e,g⟩:=r.get a;have w:=r.length;have C:=bo;have n:j<xs.length:=(Jt.mp a).1
 exact wpAny_getItem_list d.isList (by lia) (by lia) (by simpa using e) #[v,H,I,g,q]
end
def Zq(z:Str):Prop:=(∀c∈z.cps.toList,97<=c/\c<=122)/\1<=z.cps.toList.length/\z.cps.toList.length<=8
theorem pL{z:Str}(h:Zq z):z.cps.all (· <128)=true:=by
 rw[Array.all_eq_true'];intro c a
 have:=h.1 c (by simpa using a)
 simp;lia
def BI(c:Nat):Ε:=[((c:Int)-97)%16,((c:Int)-97)/16]
def ZN(a:Μ):Ε:=a.flatMap BI
theorem Ak(a:Μ)(c:Nat):ZN (a++[c])=ZN a++BI c:=by simp [ZN]
theorem nW(a:Μ):(ZN a).length=2*a.length:=by
 induction a with
 |nil=>rfl
 |cons c r ih=>simp only[ZN,List.flatMap_cons,Jo,J7]at ih⊢;rw[ih];simp [BI];lia
def mj(ds:Ε)(j:Nat):Nat->Int
 |0=>0
 |n+1=>mj ds j n+if n%4=j then ds.getD n 0 else 0
def a7(ds:Ε)(n:Nat):Ε:=[mj ds 0 n,mj ds 1 n,mj ds 2 n,mj ds 3 n]
theorem xg(ds:Ε)(n:Nat):(a7 ds n).set (n%4) ((a7 ds n).getD (n%4) 0+ds.getD n 0)=a7 ds (n+1):=by
 have h:n%4=0\/n%4=1\/n%4=2\/n%4=3:=by lia
 rcases h with h|h|h|h<;>simp [a7,mj,h]
def cX(ds:Ε):Ε:=(a7 ds ds.length).map (· %16)
theorem rc(ds:Ε):(cX ds).length=4:=Z
inductive O9 (vs:Β) (H:Hp) (Q:VK):Prop
 |mk (z:_) (h1:vs=[.str z]) (h2:Zq z) (h3:∀l H',MM H H'->H l=none->H' l=↑(.lst ((ZN z.cps.toList).map V.int))->Q (.ref l) H')
def oa:Sp:=λa H Q _=>O9 a H Q
inductive Rj (K:ι) (vs:Β) (H:Hp) (Q:VK):Prop
 |mk (a b:Δ) (z:Str) (t ks:Ε) (h1:vs=[.ref a,.ref b,.str z]) (h2:Sq K H a (t.map V.int)) (h3:Sq K H b (ks.map V.int)) (h4:Zq z) (h5:t.length=16) (h6:∀p H',MM H H'->H p=none->H' p=↑(.tup ((Zp t ks (cX (ZN z.cps.toList))).map V.int))->Q (.ref p) H')
def mF(K:ι):Sp:=λa H Q _=>Rj K a H Q
theorem Dq{a:Μ}{i c:Nat}(h:a[i]? =↑c):a.take (i+1)=a.take i++[c]:=by rw[Ig,h];rfl
theorem tP{z:Str}{i c:Nat}(h:z.cps[i]? =↑c):z.cps.toList[i]? =↑c:=by simpa using h
theorem vt{X:Cx}{a:Scope}{y z:Str}{j k:Nat}(e:a.kind= .function)(d:∀x∈a.names,x.2= .local->a.names.lookup x.1=some .local)(c:∀x∈a.names,x.2≠ .cell)
  (free:∀x∈a.names,x.2= .free->x.1∈([y,z]:Α))(h1:X.N[j]? =↑y)(h2:X.env.kindOf y=some .cell)(l:(relabel a X.env).names.lookup y=some .cell)
  (m:X.N[k]? =↑z)(n:X.env.kindOf z=some .cell)(h:(relabel a X.env).names.lookup z=some .cell):NB X a [y,z] [j,k]:=
 #[e,d,c,free,Z,λi o y' f g=>by
  match i with
  |0=>cases f;cases g;exact#[h1,h2,l]
  |1=>cases f;cases g;exact#[m,n,h]
  |i+2=>simp at f]
theorem uY{X:Cx}{y z:Str}{c d:Δ}(h:X.env.cells.lookup y=↑c)(g:X.env.cells.lookup z=↑d):∀u e,([(y,c),(z,d)]:List (Str×Δ)).lookup u=↑e->X.env.cells.lookup u=↑e:=λu e a=>by
 by_cases f:u=y
 ·subst f
  simp at a
  rw[<- a];exact h
 ·by_cases i:u=z
  ·subst i
   simp [J9,show(u==y)=false from by simpa using f]at a
   rw[<- a];exact g
  ·simp [J9,show(u==y)=false from by simpa using f,show(u==z)=false from by simpa using i]at a
end L3
namespace L3
open PySem PySem.Spec PyProof.Rows L2
open Sem (wp)
section
variable{prog:Ξ}{w:Ω}{A:Around}{E:MJ}{s:Θ}
theorem kJ{it t:Δ}{items:Array Γ}(l:t≠it):∀(n i:Nat) (s:Θ) (Q:Ζ->Θ->Prop),s.heap.IsListIter it t i->s.heap.IsList t items->i+n<=items.size->
  (∀h',h'.IsListIter it t (i+n)->Ψ.SameBut it s.heap h'->Q ((items.toList.drop i).take n) {s with heap:=h'})->ε (model prog w) A (draw (.ref it) n) Q E s
 |0,i,s,Q,hit,_,_,hQ=>by
  show ε _ _ (pure []) Q E s
  refine Jh ?_
  have:=hQ s.heap hit (Ψ.SameBut.refl ..)
  simpa using this
 |n+1,i,s,Q,hit,ht,hle,hQ=>by
  have j:i<items.size:=by lia
  show ε _ _ (pyNext (.ref it) >>= _) Q E s
  refine Ja (wpAny_pyNext_list_item hit ht (x:=items[i]) (by simp [j]) λg d a=>?_)
  have m:(Θ.heap {s with heap:=g}).IsList t items:=let⟨o,e,r⟩:=ht;#[o,a.extBut _ _ l e,r]
  refine Ja (J2 (kJ l n (i+1) _ _ d m (by lia) λh c f=>Jh ?_))
  have p:items.toList.drop i=items[i]::items.toList.drop (i+1):=by simp [List.drop_eq_getElem_cons,j]
  have z:=hQ h (by rw[show i+(n+1)=i+1+n by lia];exact c) (a.trans f)
  rw[p,List.take_succ_cons]at z;exact z
theorem pY{t:Δ}{items:Array Γ}{a:List (Bool×(Γ->Sem Unit))}{Q:Unit->Θ->Prop}(u:A.handled=none)(j:s.heap.IsList t items)
  (hn:a.length=items.size)(i:a.findIdx? (·.1)=none)
  (h:∀h',Ψ.ExtBut s.heap.objs.size s.heap h'->ε (model prog w) A (assignInOrder (a.map (·.2)) items.toList) Q E {s with heap:=h'}):
  ε (model prog w) A (unpack (.ref t) a) Q E s:=by
 have n:t≠s.heap.objs.size:=by obtain⟨o,v,_⟩:=j;exact Ju (Jl v)
 unfold unpack;rw[hn,i];refine Ja (J2 ?_)
 unfold unpackItems;refine Ja ?_
 unfold notIterableAtAll;refine Ja (Lr j.typeIs F.slot_list_iter.lookup ?_)
 refine Jh ?_
 simp only[Bool.false_eq_true,Lk];refine Ja (J2 (Lz j ?_))
 refine Ja (J2 (kJ n items.size 0 _ _ #[_,Jw _ Z,Z,Z] (j.push _) (by lia) λl d c=>?_))
 have p:List.take items.size (List.drop 0 items.toList)=items.toList:=by
  rw[List.drop_zero];exact MA (by simp)
 rw[p];rw[Jc (by simp)]
 have g:l.IsList t items:=let⟨o,e,r⟩:=j.push _;#[o,c.extBut _ _ n e,r]
 refine Ja (J2 (wpAny_pyNext_list_end u d g (by simp) λm f=>?_))
 simp only[Option.isSome_none,Bool.false_eq_true,Lk];exact Jh (h m λb o q e=>f b o q (c.extBut b o q (Jj _ e)))
end
section
variable{X:Cx}{pos:Pos}
inductive SJ (K:ι) (n:Nat) (t:bz) (v:V) (σ:L2.St) (H:Hp) (Q:L2.St->Hp->Prop):Prop
 |mk (a:_) (xs:_) (h1:v= .ref a) (h2:Sq K H a xs) (h3:xs.length=n) (h4:t xs σ H Q)
def Fy(K:ι)(n:Nat)(t:bz):TG:=λv σ H Q=>SJ K n t v σ H Q
theorem Fq{es:Ι}{k:Nat}{t:bz}{n:Nat}(hc:X.calm=true)(h:ug X es t)
  (hn:(assignEach es X.env).length=n:=by rfl)(hst:(assignEach es X.env).findIdx? (·.1)=none:=by rfl):PG X (.Tuple es k pos) (Fy X.K n t):=by
 intro tx s σ H v u Q I r d;obtain⟨a,xs,g,c,f,d⟩:=d;rcases c with c|c
 ·subst g
  cases r;obtain⟨m,i,j,q⟩:=I.list c;rw[assign_Tuple];refine Ja (Iu (pY (I.ok.hd hc) j.isList (by simp [hn,<- f,i.length]) hst λh' p=>?_))
  have l:L2.MQ X tx σ H {s with heap:=h'}:=I.kept (t':=s.toks) λb o e=>p b o (Ju (Jl e)) e
  exact h tx _ σ H xs _ Q l (by simpa using i) d
 ·exact rP hc h hn hst tx s σ H v u Q I r #[a,xs,g,c,f,d]
theorem cq{es:Ι}{k:Nat}{t:bz}{n:Nat}(hc:X.calm=true)(h:Su X es t)
  (hn:(assignEach es X.env).length=n:=by rfl)(hst:(assignEach es X.env).findIdx? (·.1)=none:=by rfl):QG X (.Tuple es k pos) (Fy X.K n t):=#[Fq hc h.h hn hst]
end
end L3
namespace L3
open PySem PySem.Spec PyProof.Rows L2
def bO(c d:Int):Ε:=[c%16,c/16%16,c/256,d]
def bP(c d:Int):Ε:=bO c d++[(bO c d).sum%16]
def lD(t ks:Ε)(z:Str):Ε:=Zp t ks (cX (ZN z.cps.toList))
def bL(t ks:Ε)(z:Str)(c d:Int):Ε:=Zp t (lD t ks z) (bP c d)
def pe(r:Ε):Option (Int×Int):=if r.getD 4 0=(r.getD 0 0+r.getD 1 0+r.getD 2 0+r.getD 3 0)%16 then ↑(r.getD 0 0+r.getD 1 0*16+r.getD 2 0*256,r.getD 3 0)else none
def aF(t ks:Ε)(z:Str)(ds:Ε):Option (Int×Int):=pe (Z3 (Qe t) (lD t ks z) ds)
theorem eK(c d:Int):(bP c d).length=5:=Z
theorem AE(c d:Int):(bO c d).sum=c%16+c/16%16+c/256+d:=by simp [bO];lia
theorem jK{c d:Int}(e:0<=c)(h1:c<4096)(hd:Zv d):zZ (bP c d):=λx a=>by
 simp only[bP,bO,List.cons_append,Mg,Ji,Jr,Js]at a;rcases a with rfl|rfl|rfl|rfl|rfl
 ·exact bX _
 ·exact bX _
 ·exact#[by lia,by lia]
 ·exact hd
 ·exact bX _
theorem yo{c d:Int}(a:0<=c)(h1:c<4096):pe (bP c d)=↑(c,d):=by
 have e:(bP c d)=[c%16,c/16%16,c/256,d,(c%16+c/16%16+c/256+d)%16]:=by unfold bP;rw[AE];rfl
 unfold pe;rw[e]
 show(if(c%16+c/16%16+c/256+d)%16=(c%16+c/16%16+c/256+d)%16 then ↑(c%16+c/16%16*16+c/256*256,d)else none)=_
 rw[Jd Z,show c%16+c/16%16*16+c/256*256=c by lia]
theorem Di{r:Ε}(hl:r.length=5):∃a b c d e:Int,r=[a,b,c,d,e]:=by
 match r,hl with
 | [a,b,c,d,e],_=>exact#[a,b,c,d,e,Z]
theorem yb(t ks:Ε)(z:Str)(c d:Int):(bL t ks z c d).length=5:=by unfold bL;rw[fu,eK]
theorem Az{t ks:Ε}(p:t.Perm Nt){z:Str}{c d:Int}(a:0<=c)(h1:c<4096)(hd:Zv d):zZ (bL t ks z c d):=rl p (jK a h1 hd)
theorem wN{t ks:Ε}(p:t.Perm Nt){z:Str}{c d:Int}(a:0<=c)(h1:c<4096)(hd:Zv d):aF t ks z (bL t ks z c d)=↑(c,d):=by
 unfold aF bL;rw[rF p (jK a h1 hd) (by rw[eK];decide),yo a h1]
def gU(H:Hp)(x:V):Option (Int×Int)->Prop
 |none=>x= .non
 |some (c,d)=>∃p,x= .ref p/\H p=↑(.tup [.int c,.int d])
inductive SK (vs:Β) (H:Hp) (Q:VK):Prop
 |mk (c:Int) (h1:vs=[.int c]) (h2:∀p H',MM H H'->H' p=↑(.tup [.int (c%16),.int (c/16%16),.int (c/256)])->Q (.ref p) H')
def Fg:Sp:=λa H Q _=>SK a H Q
inductive Rk (K:ι) (vs:Β) (H:Hp) (Q:VK):Prop
 |mk (a b:Δ) (z:Str) (age c d:Int) (t ks:Ε) (h1:vs=[.ref a,.ref b,.str z,.int age,.int c,.int d]) (h2:Sq K H a (t.map V.int)) (h3:Sq K H b (ks.map V.int)) (h4:Zq z) (h5:t.length=16) (h6:0<=c) (h7:c<4096) (h8:Zv d) (h9:∀p pc H',MM H H'->H' p=↑(.tup [.str z,.int age,.ref pc])->H' pc=↑(.tup ((bL t ks z c d).map V.int))->Q (.ref p) H')
def tV(K:ι):Sp:=λa H Q _=>Rk K a H Q
inductive RX (K:ι) (vs:Β) (H:Hp) (Q:VK):Prop
 |mk (a b pr pc:Δ) (z:Str) (age:Int) (t ks ds:Ε) (h1:vs=[.ref a,.ref b,.ref pr]) (h2:Sq K H a (t.map V.int)) (h3:Sq K H b (ks.map V.int)) (h4:Sq K H pr [.str z,.int age,.ref pc]) (h5:Sq K H pc (ds.map V.int)) (h6:Zq z) (h7:t.Perm Nt) (h8:ds.length=5) (h9:zZ ds) (h10:∀x H',MM H H'->gU H' x (aF t ks z ds)->Q x H')
def rh(K:ι):Sp:=λa H Q _=>RX K a H Q
theorem Ar{X:Cx}{pos:Pos}{i j:Nat}{x y:Str}{a b:Φ}{ta:TA}{d e pt:Pos}{kt k2 pt2}(hc:X.calm=true)(hN:X.N.Nodup)(hi:X.N[i]? =↑x)(f:X.N[j]? =↑y)(c:i≠j)
  (hx:X.env.scope.names.lookup x=some .local)(g:X.env.scope.names.lookup y=some .local)(ha:QA X [a,b] ta)
  (hw:swappedStores [.Tuple [.Name x d,.Name y e] kt pt] (.Tuple [a,b] k2 pt2) X.env=pure (some [x,y]):=by rfl)
  (hs:swapsWithSole [.Tuple [.Name x d,.Name y e] kt pt] (.Tuple [a,b] k2 pt2) pos.line X.env=pure false:=by rfl):
  QS X (.Assign [.Tuple [.Name x d,.Name y e] kt pt] (.Tuple [a,b] k2 pt2) pos) (FN i j ta):=#[EG hc hN hi f c hx g ha.h hw hs]
def zX(K:ι)(H:Hp)(a:Δ)(f:Str)(v:V):Prop:=∃C dx fs,H a=↑(.ins C dx fs)/\OW K C/\MY K C f/\fs.lookup f=↑v
def cn(K:ι)(H:Hp)(a:Δ)(f:Str)(v:V)(H':Hp):Prop:=∃C dx fs,H a=↑(.ins C dx fs)/\OW K C/\MY K C f/\fs.length<1000/\H'=MO H a (.ins C dx (QJ f v fs))
def wg(C:Δ)(H:Hp)(a:Δ)(m:Str):Prop:=∃dx fs,H a=↑(.ins C dx fs)/\fs.lookup m=none
def CG(K:ι)(ta:TE)(f:Str):TE:=λσ H Q=>ta σ H λx H1=>∃a v,x= .ref a/\zX K H1 a f v/\Q v H1
def Gk(K:ι)(ta tv:TE)(f:Str):TS:=λD σ H=>tv σ H λy H1=>ta σ H1 λx c=>∃a H3,x= .ref a/\cn K c a f y H3/\D.nx σ H3
def Ax(K:ι)(ta tv:TE)(rd:V->V->Hp->VK->Prop)(f:Str):TS:=λD σ H=>ta σ H λx H1=>∃a v,x= .ref a/\zX K H1 a f v/\
 tv σ H1 λy d=>rd v y d λz H3=>(∀o,H1 a=↑o->H3 a=↑o)/\∃c,cn K H3 a f z c/\D.nx σ c
def xy(C:Δ)(m:Str)(sp:Sp)(ta:TE)(t:TA):TE:=λσ H Q=>ta σ H λx H1=>∃a,x= .ref a/\wg C H1 a m/\t σ H1 λc d=>sp (x::(c++[])) d Q E0
section
variable{X:Cx}{o e value:Φ}{f:Str}{pos pos' tpos:Pos}{ta tv:TE}
theorem qz(he:QE X e ta)(hb:attributeBase e f X.env (eval e X.env)=eval e X.env:=by rfl):QE X (.Attribute e f pos) (CG X.K ta f):=#[by
 intro tx s σ H Q I h;refine tR hb (qF (he.h tx s σ H _ I h) λu p g=>?_)
 obtain⟨x,H1,i,o,a,v,ex,⟨C,dx,fs,j,c,n,l⟩,q⟩:=g;subst ex
 obtain rfl:u=Γ.ref a:=o
 exact lb i j c n l λr t d m=>#[v,H1,d,m,q]]
theorem zp(ha:QE X o ta)(hv:QE X value tv)(hs:swapsWith value ↑(.Attribute o f pos') pos.line X.env=pure false:=by rfl):QS X (.Assign [.Attribute o f pos'] value pos) (Gk X.K ta tv f):=#[by
 intro tx s σ H D I h;refine plainObj_wpAny_Assign_Attribute (qF (hv.h tx s σ H _ I h) λu e ⟨y,H1,j,r,q⟩=>qF (ha.h tx e σ H1 _ j q) λt A g=>?_) hs
 obtain⟨x,B,d,w,a,H3,ex,⟨C,dx,fs,p,c,n,l,i⟩,v⟩:=g;subst ex i
 obtain rfl:t=Γ.ref a:=w
 exact k7 d p c n l r λz m=>#[σ,_,m,v]]
theorem wu{i:Operator}{rd:V->V->Hp->VK->Prop}(g:EQ X i rd)(ha:QE X o ta)(hv:QE X value tv):QS X (.AugAssign (.Attribute o f tpos) i value pos) (Ax X.K ta tv rd f):=#[by
 intro tx s σ H D I h;refine wpAny_AugAssign_AttributeAny (qF (ha.h tx s σ H _ I h) λG Y e=>?_)
 obtain⟨x,H1,M,t,a,v,ex,⟨C,dx,fs,w,c,n,l⟩,q⟩:=e;subst ex
 obtain rfl:G=Γ.ref a:=t
 refine lb M w c n l λu Q K B=>qF (hv.h tx Q σ H1 _ K q) λE P ⟨y,S,L,O,A⟩=>qF (g tx P σ S v y u E _ L B O A) λU s4 e=>?_
 obtain⟨z,H3,m,p,_,H4,⟨W,j,R,d,c',N,r,J⟩,T⟩:=e;subst J;exact k7 m d c' N r p λs5 F=>#[σ,_,F,T]]
end
structure Mf(P:Ξ)(w:Ω)(K:ι)(mg:MK)(base:Ψ)(C:Δ)(m:Str)(ps:Α)(k:Nat)(sp:Sp):Prop where
 ex:∃(f:Δ) (fd:FuncData),N9 P w K mg base bI k f fd ps sp/\Rc K C m f/\NF K fd ps []
structure Nz(K:ι)(C:Δ)(m Tb:Str)(st:δ)(ps:Α):Prop where
 ex:∃(f:Δ) (fd:FuncData),PD K m Tb st f fd/\Rc K C m f/\NF K fd ps []
structure Mi(P:Ξ)(w:Ω)(K:ι)(mg:MK)(base:Ψ)(C:Δ)(x:Str)(ps:Α)(k:Nat)(sp:Sp):Prop where
 ex:∃(f:Δ) (fd:FuncData),N9 P w K mg base bI k f fd ps sp/\Mk K C f/\mg x=↑(.ref C)/\NF K fd ps []
section
variable{P:Ξ}{w:Ω}{K:ι}{mg:MK}{base:Ψ}{C:Δ}
theorem Nz.mq{m Tb:Str}{st:δ}{ps N:Α}{k:Nat}{sp:Sp}(a:Nz K C m Tb st ps)(S:MN N ps (ql st))
  (c:∀(f:Δ) (cdv:Γ) (A:Around) (outer:Ο) (s:Θ) (H:Hp) (vs:Β) (Q:VK) (E:XK),M9 k (A.deeper (envOfC Tb (ql st) s.heap.objs.size f cdv))->sp vs H Q E->
   ∃t,Pu (Qs bI P w K mg base N Tb (ql st) f cdv A outer s H E).nox (zU st) t/\t {nx:=λ_ H'=>Q .non H',rt:=Q} (Q7 N vs) H)(d:∀vs H Q E,sp vs H Q E->vs.length=ps.length:=by intro vs H Q E h;first|(cases h;subst_vars;rfl)|((repeat first|obtain⟨rfl,h⟩:=h|obtain⟨_,h⟩:=h);all_goals rfl)):Mf P w K mg base C m ps (k+1) sp:=by
 obtain⟨f,fd,F,m,bd⟩:=a.ex
 exact#[f,fd,F.ok S d (λcdv A outer s H vs Q E e h=>let⟨t,q1,q2⟩:=c f cdv A outer s H vs Q E e h;#[t,q1.h,q2]),m,bd]
theorem Mf.mi{x:Str}{ps:Α}{k:Nat}{sp:Sp}(a:Mf P w K mg base C "__init__" ps k sp)(mk:W.makesIn K C=true)(c:W.keepIn K (.ref C)=true)(hx:mg x=↑(.ref C)):Mi P w K mg base C x ps k sp:=
 let⟨f,fd,F,m,bd⟩:=a.ex;#[f,fd,F,#[mk,m.at_,m.fn,c],hx,bd]
end
section
variable{X:Cx}{C:Δ}{x m:Str}{ps:Α}{k:Nat}{sp:Sp}{o e:Φ}{es:Ι}{p pos apos:Pos}{ta:TE}{t:TA}
theorem zh{pl:Sem Bool}(M:Mf X.prog X.w X.K X.mg X.base C m ps k sp)(c:OW X.K C)(hr:M9 k X.A)(he:QE X o ta)(ha:QA X (e::es) t)
  (hst:θ (e::es) X.env=(false,eval e X.env)::θ es X.env:=by rfl)(hpl:(backTo pos (θ es X.env)).any (·.1)=false:=by rfl)
  (p:eval (.Call (.Attribute o m apos) (e::es) [] pos) X.env=(do
   let j <- eval o X.env
   standAt apos.atName
   let(f,first) <- holding [j] (getMethod j m pl)
   callWith pos f first (backTo pos (θ (e::es) X.env)) (backToKw pos (keywordEach [] X.env))):=by rfl):
  QE X (.Call (.Attribute o m apos) (e::es) [] pos) (xy C m sp ta t):=#[by
 obtain⟨f,fd,F,i,y⟩:=M.ex;intro tx s σ H Q I h;refine Mn (pl:=pl) (qF (he.h tx s σ H _ I h) λu n v=>?_) p
 obtain⟨x,H1,g,A,a,ex,⟨dx,fs,w,l⟩,q⟩:=v;subst ex
 obtain rfl:u=Γ.ref a:=A
 refine fD g w c i l ?_
 refine LD (first:=[.ref a]) (h₀:=X.base) I.ok.mod.kin i.kp (qF (ha.h pos tx n σ H1 _ g q) λus B ⟨vs,D,d,r,z⟩=>#[d.kIn,?_]) hst hpl
 exact kE (us:= .ref a::us) (vs:= .ref a::vs) F hr y .nil ki d (.cons Z r) z]
theorem qM{pl:Sem Bool}(M:Mf X.prog X.w X.K X.mg X.base C m ps k sp)(c:OW X.K C)(hr:M9 k X.A)(he:QE X o ta)
  (i:eval (.Call (.Attribute o m apos) [] [] pos) X.env=(do
   let g <- eval o X.env
   standAt apos.atName
   let(f,first) <- holding [g] (getMethod g m pl)
   callWith pos f first (backTo pos (θ [] X.env)) (backToKw pos (keywordEach [] X.env))):=by rfl):
  QE X (.Call (.Attribute o m apos) [] [] pos) (xy C m sp ta Bj):=#[by
 obtain⟨f,fd,F,e,p⟩:=M.ex;intro tx s σ H Q I h;refine Mn (pl:=pl) (qF (he.h tx s σ H _ I h) λu t j=>?_) i
 obtain⟨x,H1,d,r,a,ex,⟨dx,fs,n,l⟩,q⟩:=j;subst ex
 obtain rfl:u=Γ.ref a:=r
 refine fD d n c e l ?_
 exact W.callWith_K0 (first:=[.ref a]) d.kIn e.kp (kE (us:=[.ref a]) (vs:=[.ref a]) F hr p .nil ki d (.cons Z .nil) q)]
theorem aQ(M:Mi X.prog X.w X.K X.mg X.base C x ps k sp)(hr:M9 (k+1) X.A)(ha:QA X (e::es) t)(hg:Gl X x:=by rfl)(hdb:(x==("__debug__":Str))=false:=by decide)
  (he:θ (e::es) X.env=(false,eval e X.env)::θ es X.env:=by rfl)(hpl:(backTo pos (θ es X.env)).any (·.1)=false:=by rfl):
  QE X (.Call (.Name x p) (e::es) [] pos) (Cz C sp [] E0 t):=#[by
 obtain⟨f,fd,F,mk,c,a⟩:=M.ex;exact Dl mk F hr hg c a .nil ki ha.h hdb he hpl]
end
section
variable{X:Cx}{o:Φ}{to:TE}{name:Str}{apos cpos:Pos}{T id:String}{r:V->Β->Hp->VK->Prop}{K:ι}
theorem Fb(f:PlainAttrs T)(d:Slot T name id)(e:typeOf (.builtin id)=pure (.type "method_descriptor"))(hm:je X id r)(ho:QE X o to)
  (c:attributeBase o name X.env (eval o X.env)=eval o X.env:=by rfl)(a:(apos.endLine==cpos.line)=true:=by rfl):QE X (.Call (.Attribute o name apos) [] [] cpos) (Ev X.K T r to):=#[E9 f d e hm ho.h c a]
theorem uZ:je X "list.reverse" rn:=vJ
end
theorem bq{f:Str}{v:V}:∀{fs:List (Str×V)} (i:Nat),fs[i]? =↑(f,v)->(fs.map (·.1)).Nodup->fs.lookup f=↑v
 | [],i,h,_=>by cases h
 |(g,x)::r,0,h,_=>by
  cases JE h
  exact MB
 |(g,x)::r,i+1,h,nd=>by
  have h':r[i]? =↑(f,v):=h
  have a:g∉r.map (·.1)/\(r.map (·.1)).Nodup:=J4.mp nd
  have c:f∈r.map (·.1):=Jy.mpr #[(f,v),Jp h',Z]
  have ne:f≠g:=λz=>a.1 (z▸c)
  rw[J9,La ne];exact bq i h' a.2
theorem cA{f:Str}:∀{fs:List (Str×V)},f∉fs.map (·.1)->fs.lookup f=none
 | [],_=>rfl
 |(g,x)::r,h=>by
  have ne:f≠g:=λz=>h (z▸JB ..)
  rw[J9,La ne];exact cA λz=>h (JC _ z)
theorem lL{f:Str}{v u:V}:∀{fs:List (Str×V)} (i:Nat),fs[i]? =↑(f,u)->(fs.map (·.1)).Nodup->QJ f v fs=fs.set i (f,v)
 | [],i,h,_=>by cases h
 |(g,x)::r,0,h,_=>by
  cases JE h
  show(if f=f then _ else _)=_
  rw[Jd Z];rfl
 |(g,x)::r,i+1,h,nd=>by
  have h':r[i]? =↑(f,u):=h
  have a:g∉r.map (·.1)/\(r.map (·.1)).Nodup:=J4.mp nd
  have c:f∈r.map (·.1):=Jy.mpr #[(f,u),Jp h',Z]
  have ne:¬g=f:=λz=>a.1 (z▸c)
  show(if g=f then _ else(g,x)::QJ f v r)=_
  rw[Jc ne,lL i h' a.2];rfl
theorem fj{f:Str}{v:V}:∀{fs:List (Str×V)},f∉fs.map (·.1)->QJ f v fs=fs++[(f,v)]
 | [],_=>rfl
 |(g,x)::r,h=>by
  have ne:¬g=f:=λz=>h (z▸JB ..)
  show(if g=f then _ else(g,x)::QJ f v r)=_
  rw[Jc ne,fj λz=>h (JC _ z)];rfl
def Mv(S:Η)(H H':Hp):Prop:=∀c o,c∉S->H c=↑o->H' c=↑o
theorem Mv.refl{S:Η}{H:Hp}:Mv S H H:=λ_ _ _ e=>e
theorem Mv.trans{S:Η}{H H1 d:Hp}(a:Mv S H H1)(b:Mv S H1 d):Mv S H d:=λc o n e=>b c o n (a c o n e)
theorem Mv.mono{S S':Η}{H H':Hp}(a:Mv S H H')(h:∀c,c∉S'->c∉S):Mv S' H H':=λc o n e=>a c o (h c n) e
theorem _root_.L2.MM.mv{S:Η}{H H':Hp}(a:MM H H'):Mv S H H':=λc o _ e=>a c o e
theorem Mv.upd1{a:Δ}{H:Hp}{o:HO}:Mv [a] H (MO H a o):=λc u n e=>by
 rw[qk (λz=>n (Jg.mpr z))];exact e
theorem Oj.mv{b:Δ}{n:Nat}{H H':Hp}(g:Oj b n H H'):Mv [b] H H':=λc o h e=>g.kp c o (λz=>h (Jg.mpr z)) e
def kH:HO->Prop
 | .tup _=>False
 | .frz _ (.dK _)=>True
 | .frz _ _=>False
 |_=>True
def NT(S:Η)(H:Hp):Prop:=∀c,c∈S->∃o,H c=↑o/\kH o
theorem Mv.rd{S:Η}{H H':Hp}{a:Δ}{xs:Β}(m:Mv S H H')(n:NT S H)(h:Rd H a (.tup xs)):Rd H' a (.tup xs):=by
 have c:a∉S:=λz=>by
  obtain⟨o,e,no⟩:=n a z;rcases h with h|⟨o',h⟩
  ·rw[e]at h;cases h;exact no
  ·rw[e]at h;cases h;exact no
 rcases h with h|⟨o',h⟩
 ·exact .inl (m _ _ c h)
 ·exact .inr #[o',m _ _ c h]
theorem Mv.sqt{K:ι}{S:Η}{H H':Hp}{a:Δ}{xs:Β}(m:Mv S H H')(n:NT S H)(h:MW K H a xs):MW K H' a xs:=by
 rcases h with h|h
 ·exact .inl (m.rd n h)
 ·exact .inr h
structure Bt where
 nm:Str
 t:Ε
 ks:Ε
 age:Int
 step:Int
 cnt:Int
 bnd:Int
 x:Κ
 y:Κ
def oV:Κ->V
 |none=> .non
 |some i=> .int i
theorem EU{a b:Κ}(h:oV a=oV b):a=b:=by
 cases a<;>cases b<;>simp [oV]at h⊢ <;>exact h
theorem DJ(a:Κ)(i:Int):AJ (oV a) (.int i)=true:=by cases a<;>rfl
theorem EW(a:Κ)(i:Int):decide (oV a= .int i)=decide (a=↑i):=by
 rw[IP,IU,IU];constructor
 ·intro h;exact EU (b:=↑i) h
 ·intro h;rw[h];rfl
def bF(B:Bt)(ta ka ce:Δ):List (Str×V):=
 [("name",.str B.nm),("table",.ref ta),("key",.ref ka),("age",.int B.age),("step",.int B.step),("next_count",.int B.cnt),("bound",.int B.bnd),("cells",.ref ce)]
def bN:Α:=["name","table","key","age","step","next_count","bound","cells"]
theorem Gb:bN.Nodup:=by decide +kernel
theorem Cn(B:Bt)(ta ka ce:Δ):((bF B ta ka ce).map (·.1)).Nodup:=Gb
structure Of(K:ι)(C:Δ):Prop where
 cl:OW K C
 n_name:MY K C "name"
 n_table:MY K C "table"
 n_key:MY K C "key"
 n_age:MY K C "age"
 n_step:MY K C "step"
 n_next_count:MY K C "next_count"
 n_bound:MY K C "bound"
 n_cells:MY K C "cells"
structure MS(K:ι)(C:Δ)(H:Hp)(p ta ka ce:Δ)(B:Bt):Prop where
 ob:∃dx,H p=↑(.ins C dx (bF B ta ka ce))
 tb:MW K H ta (B.t.map V.int)
 ky:MW K H ka (B.ks.map V.int)
 cs:H ce=↑(.lst [oV B.x,oV B.y])
section
variable{K:ι}{C:Δ}{H H':Hp}{p ta ka ce dx:Δ}{B:Bt}
theorem MS.has(b:MS K C H p ta ka ce B)(U:Of K C)(i:Nat){f:Str}{v:V}(h:(bF B ta ka ce)[i]? =↑(f,v))(n:MY K C f):zX K H p f v:=by
 obtain⟨dx,e⟩:=b.ob
 exact#[C,dx,_,e,U.cl,n,bq i h (Cn ..)]
theorem MS.h_name(b:MS K C H p ta ka ce B)(U:Of K C):zX K H p "name" (.str B.nm):=b.has U 0 Z U.n_name
theorem MS.h_table(b:MS K C H p ta ka ce B)(U:Of K C):zX K H p "table" (.ref ta):=b.has U 1 Z U.n_table
theorem MS.h_key(b:MS K C H p ta ka ce B)(U:Of K C):zX K H p "key" (.ref ka):=b.has U 2 Z U.n_key
theorem MS.h_age(b:MS K C H p ta ka ce B)(U:Of K C):zX K H p "age" (.int B.age):=b.has U 3 Z U.n_age
theorem MS.h_step(b:MS K C H p ta ka ce B)(U:Of K C):zX K H p "step" (.int B.step):=b.has U 4 Z U.n_step
theorem MS.h_next_count(b:MS K C H p ta ka ce B)(U:Of K C):zX K H p "next_count" (.int B.cnt):=b.has U 5 Z U.n_next_count
theorem MS.h_bound(b:MS K C H p ta ka ce B)(U:Of K C):zX K H p "bound" (.int B.bnd):=b.has U 6 Z U.n_bound
theorem MS.h_cells(b:MS K C H p ta ka ce B)(U:Of K C):zX K H p "cells" (.ref ce):=b.has U 7 Z U.n_cells
theorem MS.no(b:MS K C H p ta ka ce B){m:Str}(h:m∉bN:=by decide +kernel):wg C H p m:=by
 obtain⟨dx,e⟩:=b.ob
 exact#[dx,_,e,cA h]
theorem MS.ne(b:MS K C H p ta ka ce B):p≠ce:=by
 obtain⟨dx,e⟩:=b.ob;exact zr e b.cs (by intro z;cases z)
theorem MS.nt(b:MS K C H p ta ka ce B):NT [p,ce] H:=λc a=>by
 obtain⟨dx,e⟩:=b.ob;simp only[Ji,Jr,Js]at a;rcases a with rfl|rfl
 ·exact#[_,e,trivial]
 ·exact#[_,b.cs,trivial]
theorem MS.put(U:Of K C)(e:H p=↑(.ins C dx (bF B ta ka ce)))(i:Nat){f:Str}{u:V}(v:V)(h:(bF B ta ka ce)[i]? =↑(f,u))(n:MY K C f):
  cn K H p f v (MO H p (.ins C dx ((bF B ta ka ce).set i (f,v)))):=#[C,dx,_,e,U.cl,n,by show 8<1000;decide,by rw[lL i h (Cn ..)]]
theorem MS.to(b:MS K C H p ta ka ce B)(m:Mv [p,ce] H H'){B':Bt}(c:B'.t=B.t)(hk:B'.ks=B.ks)(e:H' p=↑(.ins C dx (bF B' ta ka ce)))(a:H' ce=↑(.lst [oV B'.x,oV B'.y])):MS K C H' p ta ka ce B':=
 #[#[dx,e],by rw[c];exact m.sqt b.nt b.tb,by rw[hk];exact m.sqt b.nt b.ky,a]
theorem MS.mv{S:Η}(b:MS K C H p ta ka ce B)(m:Mv S H H')(n:NT S H)(hp:p∉S)(hc:ce∉S):MS K C H' p ta ka ce B:=by
 obtain⟨dx,e⟩:=b.ob
 exact#[#[dx,m _ _ hp e],m.sqt n b.tb,m.sqt n b.ky,m _ _ hc b.cs]
theorem MS.same(b:MS K C H p ta ka ce B)(s:MM H H'):MS K C H' p ta ka ce B:=b.mv (S:=[]) s.mv (λc h=>nomatch h) (λh=>nomatch h) (λh=>nomatch h)
end
def Bt.sp(B:Bt):Int:=if B.x=↑B.bnd then 1 else 0
def Bt.nb(B:Bt):Int:=if 4096<B.bnd+B.step then 4096 else B.bnd+B.step
def Bt.wr(B:Bt):Bt:=if B.x=↑B.bnd then{B with bnd:=B.nb,y:=↑B.nb}else{B with bnd:=B.nb,x:=↑B.nb}
def Bt.mw(B:Bt):Bool:=decide (B.cnt=B.bnd)&& ! decide (4096<=B.cnt)
def Bt.pr(B:Bt):Bt:=if B.mw then{B.wr with cnt:=B.cnt+1}else{B with cnt:=B.cnt+1}
theorem C3(B:Bt):B.wr.nm=B.nm:=by unfold Bt.wr;split<;>rfl
theorem EB(B:Bt):B.wr.t=B.t:=by unfold Bt.wr;split<;>rfl
theorem Cw(B:Bt):B.wr.ks=B.ks:=by unfold Bt.wr;split<;>rfl
theorem wS(B:Bt):B.wr.age=B.age:=by unfold Bt.wr;split<;>rfl
theorem Ab(B:Bt):B.wr.cnt=B.cnt:=by unfold Bt.wr;split<;>rfl
theorem ZO(B:Bt):B.pr.nm=B.nm:=by unfold Bt.pr;split<;>first|exact C3 B|rfl
theorem GW(B:Bt):B.pr.t=B.t:=by unfold Bt.pr;split<;>first|exact EB B|rfl
theorem Gv(B:Bt):B.pr.ks=B.ks:=by unfold Bt.pr;split<;>first|exact Cw B|rfl
theorem ae(B:Bt):B.pr.age=B.age:=by unfold Bt.pr;split<;>first|exact wS B|rfl
theorem au(B:Bt):B.pr.cnt=B.cnt+1:=by unfold Bt.pr;split<;>rfl
section
variable(K:ι)(C:Δ)
inductive Rl (vs:Β) (H:Hp) (Q:VK):Prop
 |mk (p a b dx:Δ) (nm:Str) (age step:Int) (t ks:Ε) (h1:vs=[.ref p,.str nm,.ref a,.ref b,.int age,.int step]) (h2:H p=↑(.ins C dx [])) (h3:Sq K H a (t.map V.int)) (h4:Sq K H b (ks.map V.int)) (h5:∀ta ka ce H',H ce=none->Mv [p] H H'->MS K C H' p ta ka ce ⟨nm,t,ks,age,step,0,0,↑0,none⟩->Q .non H')
def mt:Sp:=λa H Q _=>Rl K C a H Q
inductive Rm (vs:Β) (H:Hp) (Q:VK):Prop
 |mk (p ta ka ce:Δ) (B:Bt) (h1:vs=[.ref p]) (h2:MS K C H p ta ka ce B) (h3:Q (.bl (decide (4096<=B.cnt))) H)
def mC:Sp:=λa H Q _=>Rm K C a H Q
inductive Rn (vs:Β) (H:Hp) (Q:VK):Prop
 |mk (p ta ka ce:Δ) (B:Bt) (h1:vs=[.ref p]) (h2:MS K C H p ta ka ce B) (h3:Q (.bl B.mw) H)
def lF:Sp:=λa H Q _=>Rn K C a H Q
inductive PJ (vs:Β) (H:Hp) (Q:VK):Prop
 |mk (p ta ka ce:Δ) (B:Bt) (h1:vs=[.ref p]) (h2:MS K C H p ta ka ce B) (h3:Q (.int B.sp) H)
def jk:Sp:=λa H Q _=>PJ K C a H Q
inductive PL (vs:Β) (H:Hp) (Q:VK):Prop
 |mk (p ta ka ce:Δ) (B:Bt) (h1:vs=[.ref p]) (h2:MS K C H p ta ka ce B) (h3:∀H',Mv [p,ce] H H'->MS K C H' p ta ka ce B.wr->Q .non H')
def rb:Sp:=λa H Q _=>PL K C a H Q
inductive PM (vs:Β) (H:Hp) (Q:VK):Prop
 |mk (p ta ka ce:Δ) (B:Bt) (d:Int) (h1:vs=[.ref p,.int d]) (h2:MS K C H p ta ka ce B) (h3:Zq B.nm) (h4:B.t.length=16) (h5:0<=B.cnt) (h6:B.cnt<4096) (h7:Zv d) (h8:∀q pc H',Mv [p,ce] H H'->MS K C H' p ta ka ce B.pr->H' q=↑(.tup [.str B.nm,.int B.age,.ref pc])->H' pc=↑(.tup ((bL B.t B.ks B.nm B.cnt d).map V.int))->Q (.ref q) H')
def jz:Sp:=λa H Q _=>PM K C a H Q
inductive Ro (vs:Β) (H:Hp) (Q:VK):Prop
 |mk (p ta ka ce:Δ) (B:Bt) (h1:vs=[.ref p]) (h2:MS K C H p ta ka ce B) (h3:Q (.str B.nm) H)
def uo:Sp:=λa H Q _=>Ro K C a H Q
inductive RY (vs:Β) (H:Hp) (Q:VK):Prop
 |mk (p ta ka ce:Δ) (B:Bt) (h1:vs=[.ref p]) (h2:MS K C H p ta ka ce B) (h3:Q (.int B.age) H)
def g9:Sp:=λa H Q _=>RY K C a H Q
inductive PN (vs:Β) (H:Hp) (Q:VK):Prop
 |mk (p ta ka ce:Δ) (B:Bt) (h1:vs=[.ref p]) (h2:MS K C H p ta ka ce B) (h3:Q (.int B.cnt) H)
def aY:Sp:=λa H Q _=>PN K C a H Q
inductive PQ (vs:Β) (H:Hp) (Q:VK):Prop
 |mk (p ta ka ce:Δ) (B:Bt) (h1:vs=[.ref p]) (h2:MS K C H p ta ka ce B) (h3:∀q H',MM H H'->H' q=↑(.tup [oV B.x,oV B.y])->Q (.ref q) H')
def jG:Sp:=λa H Q _=>PQ K C a H Q
end
inductive PR (vs:Β) (H:Hp) (Q:VK):Prop
 |mk (b:Δ) (c:Nat) (h1:vs=[.ref b]) (h2:NQ H b c) (h3:c<100000000) (h4:∀p (t:Ε) H',Oj b (c+16) H H'->H p=none->H' p=↑(.tup (t.map V.int))->t.Perm Nt->Q (.ref p) H')
def sF:Sp:=λa H Q _=>PR a H Q
theorem Oj.fresh{b c:Δ}{n:Nat}{H H':Hp}(g:Oj b n H H')(hb:NQ H b n)(h:H' c=Option.none):H c=Option.none:=by
 cases e:H c with
 |none=>rfl
 |some o=>
  by_cases z:c=b
  ·subst z
   obtain⟨_,_,_,a,_⟩:=g.bx;rw[a]at h;cases h
  ·rw[g.kp c o z e]at h;cases h
theorem Z7{K:ι}{C p dx:Δ}{H:Hp}{fs:List (Str×V)}{f:Str}{v:V}(c:OW K C)(e:H p=↑(.ins C dx fs))(n:MY K C f)(i:Nat)(a:fs.map (·.1)=bN.take i:=by rfl)(hn:f∉bN.take i:=by decide +kernel):
  cn K H p f v (MO H p (.ins C dx (fs++[(f,v)]))):=#[C,dx,fs,e,c,n,by
  have h1:fs.length=(bN.take i).length:=by rw[<- a,Jb]
  have d:(bN.take i).length<=8:=by rw[Ie];exact L6 _ _
  omega,by rw[fj (by rw[a];exact hn)]]
theorem AM{K:ι}{H:Hp}{a:Δ}{xs:Β}{Q:VK}(h:Sq K H a xs)(q:∀l H',MM H H'->MW K H' l xs->Q (.ref l) H'):(MV K H a xs/\∀l,H l=none->Q (.ref l) (MO H l (.tup xs)))\/(MW K H a xs/\Q (.ref a) H):=
 h.elim (λh=> .inl #[h,λl c=>q l _ (MM.upd c) (MW.of qa)]) λh=> .inr #[h,q a H (MM.refl _) h]
theorem ra{K:ι}{C p dx a:Δ}{H:Hp}{fs:List (Str×V)}{xs:Β}{o:HO}(e:H p=↑(.ins C dx fs))(h:Sq K H a xs):Sq K (MO H p o) a xs:=by
 rcases h with(h|h)|(h|h)
 ·refine .inl (.inl ?_)
  rcases h with h|⟨u,h⟩
  ·exact .inl (by rw[qk (zr h e (by intro z;cases z))];exact h)
  ·exact .inr #[u,by rw[qk (zr h e (by intro z;cases z))];exact h]
 ·exact .inl (.inr h)
 ·refine .inr (.inl ?_)
  rcases h with h|⟨u,h⟩
  ·exact .inl (by rw[qk (zr h e (by intro z;cases z))];exact h)
  ·exact .inr #[u,by rw[qk (zr h e (by intro z;cases z))];exact h]
 ·exact .inr (.inr h)
theorem zy{K:ι}{C p dx a:Δ}{H:Hp}{fs:List (Str×V)}{xs:Β}{o:HO}(e:H p=↑(.ins C dx fs))(h:MW K H a xs):MW K (MO H p o) a xs:=by
 rcases h with(h|⟨u,h⟩)|h
 ·exact .inl (.inl (by rw[qk (zr h e (by intro z;cases z))];exact h))
 ·exact .inl (.inr #[u,by rw[qk (zr h e (by intro z;cases z))];exact h])
 ·exact .inr h
theorem ZL{X:Cx}:zx X (.type "tuple") (λxs H Q=>∃p ys,xs=[.ref p]/\Sq X.K H p ys/\∀l H',MM H H'->MW X.K H' l ys->Q (.ref l) H'):=by
 intro tx s σ H xs a Q I r h;obtain⟨p,ys,e,c,q⟩:=h;exact qZ tx s σ H xs a Q I r #[p,ys,e,AM c q]
section
variable{H:Hp}{b:Δ}{n:Nat}
theorem zu{a x:Δ}(h:a≠x):a∉[x]:=λz=>h (Jg.mp z)
theorem aT(hb:NQ H b n):NT [b] H:=λc a=>by
 obtain⟨_,_,_,e,_⟩:=hb;rw[Jg.mp a]
 exact#[_,e,trivial]
end
theorem MM.mv_of{H H1 a:Hp}{S:Η}(s:MM H H1)(m:Mv S H1 a)(h:∀c∈S,H c=none):MM H a:=λc o e=>m c o (λz=>qr e (h c z) Z) (s c o e)
theorem oY(n:Nat)(h:n<=100:=by omega):n<ζ:=Nat.lt_of_le_of_lt h ⋯
theorem NT.one{H:Hp}{a:Δ}{o:HO}(e:H a=↑o)(n:kH o):NT [a] H:=λc d=>#[o,by rw[Jg.mp d];exact e,n]
end L3
namespace L2
open PySem PySem.Spec PyProof.Rows
section
variable{κ:Type} [DecidableEq κ]
def QN(kvs:List (κ×V))(k:κ):Ρ:=(kvs.find? λa=>decide (a.1=k)).map (·.2)
def NM(kvs:List (κ×V))(k:κ)(v:V):List (κ×V):=
 if(kvs.any λa=>decide (a.1=k))=true then kvs.map (λa=>if a.1=k then(a.1,v)else a)else kvs++[(k,v)]
theorem b8{p:κ×V}{r:List (κ×V)}{k:κ}(e:p.1=k):QN (p::r) k=↑p.2:=by simp [QN,Lu,e]
theorem cg{p:κ×V}{r:List (κ×V)}{k:κ}(e:¬p.1=k):QN (p::r) k=QN r k:=by simp [QN,Lu,e]
theorem rM(k:κ):∀kvs:List (κ×V),(kvs.any λa=>decide (a.1=k))=(QN kvs k).isSome
 | []=>rfl
 |p::r=>by
  rw[Ll]
  by_cases e:p.1=k
  ·simp only[b8 e,Jf e,Bool.true_or,Option.isSome_some]
  ·rw[cg e,Jq e,Bool.false_or];exact rM k r
theorem cQ(kvs:List (κ×V))(k:κ)(v:V):(NM kvs k v).length<=kvs.length+1:=by
 unfold NM;split
 ·rw[Jb];lia
 ·rw[Jo,J7,List.length_nil];lia
theorem NU.isSome_eq{o:Ρ}{u:Ν}(r:NU o u):o.isSome=u.isSome:=by
 cases o with
 |none=>cases u with
  |none=>rfl
  |some _=>exact(show False from r).elim
 |some _=>cases u with
  |none=>exact(show False from r).elim
  |some _=>rfl
theorem NU.getD{o:Ρ}{u:Ν}{d:V}{d':Γ}(r:NU o u)(rd:MT d d'):MT (o.getD d) (u.getD d'):=by
 cases o with
 |none=>cases u with
  |none=>exact rd
  |some _=>exact(show False from r).elim
 |some _=>cases u with
  |none=>exact(show False from r).elim
  |some _=>exact r
theorem KV.val{kvs:List (κ×V)}{vs:List (κ×Γ)}(r:KV kvs vs)(k:κ):NU (QN kvs k) (valueAt vs k):=by
 unfold KV at r
 induction r with
 |nil=>exact True.intro
 | @cons p q ps qs h t ih=>
  obtain⟨h1,c⟩:=h
  by_cases e:p.1=k
  ·have a:q.1=k:=h1.symm.trans e
   have b:valueAt (q::qs) k=↑q.2:=by simp [valueAt,Lu,a]
   rw[b8 e,b];exact c
  ·have a:¬q.1=k:=λz=>e (h1.trans z)
   have b:valueAt (q::qs) k=valueAt qs k:=by simp [valueAt,Lu,a]
   rw[cg e,b];exact ih
theorem KV.any{kvs:List (κ×V)}{vs:List (κ×Γ)}(r:KV kvs vs)(k:κ):(kvs.any λa=>decide (a.1=k))=vs.any λa=>decide (a.1=k):=by
 unfold KV at r
 induction r with
 |nil=>rfl
 |cons h t ih=>rw[Ll,Ll,ih,h.1]
theorem KV.repl{kvs:List (κ×V)}{vs:List (κ×Γ)}(r:KV kvs vs)(k:κ){y:V}{u:Γ}(d:MT y u):
  KV (kvs.map λa=>if a.1=k then(a.1,y)else a) (vs.map λa=>if a.1=k then(a.1,u)else a):=by
 unfold KV at r⊢
 induction r with
 |nil=>exact .nil
 | @cons p q ps qs h t ih=>
  rw[JR,JR];refine .cons ?_ ih
  obtain⟨h1,c⟩:=h
  by_cases e:p.1=k
  ·rw[Jd e,Jd (h1.symm.trans e)];exact#[h1,d]
  ·rw[Jc e,Jc (λz=>e (h1.trans z))];exact#[h1,c]
theorem KV.put{kvs:List (κ×V)}{vs:List (κ×Γ)}(r:KV kvs vs)(k:κ){y:V}{u:Γ}(a:MT y u):KV (NM kvs k y) (stored vs k u):=by
 unfold NM stored;rw[r.any k]
 by_cases e:(vs.any λc=>decide (c.1=k))=true
 ·rw[Jd e,Jd e];exact r.repl k a
 ·rw[Jc e,Jc e];exact Paired.snoc r #[Z,a]
theorem KV.keys{kvs:List (κ×V)}{vs:List (κ×Γ)}(r:KV kvs vs):kvs.map (·.1)=vs.map (·.1):=by
 unfold KV at r
 induction r with
 |nil=>rfl
 |cons h t ih=>rw[JR,JR,ih,h.1]
theorem KV.length{kvs:List (κ×V)}{vs:List (κ×Γ)}(r:KV kvs vs):kvs.length=vs.length:=Paired.length r
end
theorem fC{P:Ξ}{w:Ω}{k:qN}{u:Γ}(r:MT (kV k) u):(zi P w).is k u=true:=by
 cases k with
 |inl i=>obtain⟨t,e⟩:=(show∃t,u=Γ.int i t from r);subst e;exact sU P w i t
 |inr x=>obtain⟨t,e⟩:=(show∃t,u=Γ.str x t from r);subst e;exact tu P w x t
theorem nY{P:Ξ}{w:Ω}:∀{ks:List qN} {us:Ζ},MU (ks.map kV) us->ItemsAre (zi P w) ks us
 | [],_,r=>by rw[L9]at r;cases r;exact .nil
 |k::ks,_,r=>by
  rw[JR]at r;cases r with
  |cons h t=>exact .cons (fC h) (nY t)
abbrev KT(H:Hp):List (List qN×V)->List (List qN×Δ×Γ)->Prop:=Paired λp q=>p.1=q.1/\H q.2.1=↑(.tup (p.1.map kV))/\MT p.2 q.2.2
theorem KT.val{H:Hp}{kvs:List (List qN×V)}{xs:List (List qN×Δ×Γ)}(r:KT H kvs xs)(k:List qN):NU (QN kvs k) ((atKey xs k).map (·.2)):=by
 induction r with
 |nil=>exact True.intro
 | @cons p q ps qs h t ih=>
  obtain⟨h1,_,c⟩:=h
  by_cases e:p.1=k
  ·have a:q.1=k:=h1.symm.trans e
   have b:atKey (q::qs) k=↑q.2:=by simp [atKey,Lu,a]
   rw[b8 e,b];exact c
  ·have a:¬q.1=k:=λz=>e (h1.trans z)
   have b:atKey (q::qs) k=atKey qs k:=by simp [atKey,Lu,a]
   rw[cg e,b];exact ih
theorem KT.repl{H:Hp}{kvs:List (List qN×V)}{xs:List (List qN×Δ×Γ)}(r:KT H kvs xs)(k:List qN){y:V}{u:Γ}(f:MT y u):
  KT H (kvs.map λa=>if a.1=k then(a.1,y)else a) (xs.map (putAt k u)):=by
 induction r with
 |nil=>exact .nil
 | @cons p q ps qs h t ih=>
  rw[JR,JR];refine .cons ?_ ih
  obtain⟨h1,c,d⟩:=h;unfold putAt
  by_cases e:p.1=k
  ·rw[Jd e,Jd (h1.symm.trans e)];exact#[h1,c,f]
  ·rw[Jc e,Jc (λz=>e (h1.trans z))];exact#[h1,c,d]
theorem KT.put{H:Hp}{kvs:List (List qN×V)}{xs:List (List qN×Δ×Γ)}(r:KT H kvs xs)(k:List qN){b:Δ}{y:V}{u:Γ}(hb:H b=↑(.tup (k.map kV)))(a:MT y u):
  KT H (NM kvs k y) (storedH xs k b u):=by
 have e:(kvs.any λc=>decide (c.1=k))=(atKey xs k).isSome:=by
  rw[rM,(r.val k).isSome_eq,MC]
 unfold NM storedH;rw[e]
 by_cases q:(atKey xs k).isSome=true
 ·rw[Jd q,Jd q];exact r.repl k a
 ·rw[Jc q,Jc q];exact Paired.snoc r #[Z,hb,a]
theorem KT.keeps{H H':Hp}{kvs:List (List qN×V)}{xs:List (List qN×Δ×Γ)}(r:KT H kvs xs)(a:∀b ys,H b=↑(.tup ys)->H' b=↑(.tup ys)):KT H' kvs xs:=
 Paired.mapP r λ_ _ z=>#[z.1,a _ _ z.2.1,z.2.2]
section
variable{P:Ξ}{w:Ω}{H:Hp}{h:Ψ}{a:Δ}
theorem Cl{u:HO}(ok:NS P w H h)(e:Rd H a u):M3 P w H h a u:=e.ok ok
theorem bQ{kvs:List (qN×V)}(ok:NS P w H h)(e:Rd H a (.dK kvs)):kvs.length<=ζ/\(a==sysModules)=false/\∃c,KV kvs c/\h.DictOf (zi P w) a c:=
 show M3 P w H h a (.dK kvs)from Cl ok e
theorem iC{kvs:List (qN×V)}(ok:NS P w H h)(e:H a=↑(.dK kvs)):kvs.length<=ζ/\(a==sysModules)=false/\∃c,KV kvs c/\h.DictOf (zi P w) a c:=bQ ok (.inl e)
theorem c9{ks:List qN}(ok:NS P w H h)(e:H a=↑(.tup (ks.map kV))):(tupleKind (zi P w)).is h ks a:=by
 obtain⟨_,c,r,o,h1,f,n,d⟩:=(show M3 P w H h a (.tup (ks.map kV))from ok a _ e)
 exact#[o,c.toArray,n,h1,f,d,by simpa using nY r]
theorem fw{kvs:List (List qN×V)}(ok:NS P w H h)(e:Rd H a (.dT kvs)):kvs.length<=ζ/\(a==sysModules)=false/\
  ∃xs,KT H kvs xs/\h.DictOfH (tupleKind (zi P w)) a xs:=by
 obtain⟨z,y,xs,r,o,es,d,h1,f,i,g,j⟩:=(show M3 P w H h a (.dT kvs)from Cl ok e)
 refine#[z,y,xs,r,o,es,d,h1,f,i,g,λx c=>?_,j]
 have all:∀{l:List (List qN×V)} {m:List (List qN×Δ×Γ)},KT H l m->∀x∈m,(tupleKind (zi P w)).is h x.1 x.2.1:=by
  intro l m q
  induction q with
  |nil=>intro x c;exact nomatch c
  | @cons p q ps qs hq t ih=>
   intro x c;rcases Ji.mp c with e|c
   ·subst e
    exact c9 ok (by rw[<- hq.1];exact hq.2.1)
   ·exact ih x c
 exact all r x c
theorem GB{kvs:List (List qN×V)}(ok:NS P w H h)(e:H a=↑(.dT kvs)):kvs.length<=ζ/\(a==sysModules)=false/\
  ∃xs,KT H kvs xs/\h.DictOfH (tupleKind (zi P w)) a xs:=fw ok (.inl e)
end
def Nd(H:Hp)(a:Δ)(y:V)(r:Ρ):Prop:=
 (∃kvs k,Rd H a (.dK kvs)/\y=kV k/\r=QN kvs k)\/∃kvs k b,Rd H a (.dT kvs)/\y= .ref b/\H b=↑(.tup (k.map kV))/\r=QN kvs k
def OC(H:Hp)(a:Δ)(y v:V)(H':Hp):Prop:=
 (∃kvs k,H a=↑(.dK kvs)/\y=kV k/\kvs.length<ζ/\H'=MO H a (.dK (NM kvs k v)))\/
 ∃kvs k b,H a=↑(.dT kvs)/\y= .ref b/\H b=↑(.tup (k.map kV))/\kvs.length<ζ/\H'=MO H a (.dT (NM kvs k v))
theorem Nd.k{H:Hp}{a:Δ}{kvs:List (qN×V)}{k:qN}(e:H a=↑(.dK kvs)):Nd H a (kV k) (QN kvs k):= .inl #[kvs,k,.inl e,Z,Z]
theorem OC.k{H:Hp}{a:Δ}{kvs:List (qN×V)}{k:qN}{v:V}(e:H a=↑(.dK kvs))(hl:kvs.length<ζ):OC H a (kV k) v (MO H a (.dK (NM kvs k v))):= .inl #[kvs,k,e,Z,hl,Z]
section
variable{X:Cx}{tx:ML}{σ:St}{H:Hp}{s:Θ}{a:Δ}{y v:V}{u r:Γ}{o:Ρ}{A:Around}{E:MJ}
theorem MQ.big(I:MQ X tx σ H s):sysModules<s.heap.objs.size:=by
 have h:η<s.heap.objs.size:=(I.mod.glob.keeps I.bk).lt
 exact Nat.lt_trans ⋯ h
theorem xi{Q:MJ}(hu:A.units+1<cLine)(I:MQ X tx σ H s)(g:Nd H a y ↑v)(n:MT y u)(h:∀f s',MQ X tx σ H s'->MT v f->Q f s'):
  ε (model X.prog X.w) A (getItem (.ref a) u) Q E s:=by
 rcases g with⟨kvs,k,e,j,l⟩|⟨kvs,k,b,e,j,w,l⟩
 ·subst j
  obtain⟨z,r,q,c,dd⟩:=bQ I.hok e;obtain⟨f,i,d⟩:=NU.some_of (v:=v) (o:=valueAt q k) (by rw[l];exact c.val k)
  exact wpAny_getItem_of (fC n) dd.mapOf i (h f _ (I.tok _) d)
 ·subst j
  cases(show u=Γ.ref b from n)
  obtain⟨z,r,xs,c,dd⟩:=fw I.hok e;obtain⟨f,i,d⟩:=NU.some_of (v:=v) (o:=(atKey xs k).map (·.2)) (by rw[l];exact c.val k)
  obtain⟨p,t,m⟩:=JV.mp i;refine wpAny_getItem_heap (LO hu) (c9 I.hok w) dd t ?_
  rw[m];exact h f _ (I.tok _) d
theorem GZ{Q:MJ}(hu:A.units+1<cLine)(I:MQ X tx σ H s)(g:Nd H a y o)(i:MT y u)(h:∀s',MQ X tx σ H s'->Q (.bool o.isSome) s'):
  ε (model X.prog X.w) A (compareOp .In u (.ref a)) Q E s:=by
 rcases g with⟨kvs,k,e,d,l⟩|⟨kvs,k,b,e,d,j,l⟩
 ·subst d
  obtain⟨z,f,m,c,dd⟩:=bQ I.hok e;refine wpAny_in_of (fC i) f dd.mapOf ?_
  rw[<- (c.val k).isSome_eq,<- l];exact h _ (I.tok _)
 ·subst d
  cases(show u=Γ.ref b from i)
  obtain⟨z,f,xs,c,dd⟩:=fw I.hok e;refine wpAny_in_heap (LO hu) (c9 I.hok j) f dd ?_
  have q:=(c.val k).isSome_eq;rw[MC]at q;rw[<- q,<- l];exact h _ (I.tok _)
theorem DL{Q:MJ}(hu:A.units+1<cLine)(I:MQ X tx σ H s)(g:Nd H a y o)(i:MT y u)(h:∀s',MQ X tx σ H s'->Q (.bool (! o.isSome)) s'):
  ε (model X.prog X.w) A (compareOp .NotIn u (.ref a)) Q E s:=by
 rcases g with⟨kvs,k,e,d,l⟩|⟨kvs,k,b,e,d,j,l⟩
 ·subst d
  obtain⟨z,f,m,c,dd⟩:=bQ I.hok e;refine wpAny_notIn_of (fC i) f dd.mapOf ?_
  rw[<- (c.val k).isSome_eq,<- l];exact h _ (I.tok _)
 ·subst d
  cases(show u=Γ.ref b from i)
  obtain⟨z,f,xs,c,dd⟩:=fw I.hok e;refine wpAny_notIn_heap (LO hu) (c9 I.hok j) f dd ?_
  have q:=(c.val k).isSome_eq;rw[MC]at q;rw[<- q,<- l];exact h _ (I.tok _)
theorem l7{h':Ψ}{t':Nat}{ob:HO}(I:MQ X tx σ H s)(d:yw (H a))(hs:Ψ.SameBut a s.heap h')(he:∃q,h'.get? a=↑q)(new:M3 X.prog X.w (MO H a ob) h' a ob):
  MQ X tx σ (MO H a ob) {s with heap:=h',toks:=t'}:=
 I.write (x:=a) (e:=a) d (.inl Z) (λb q c z=>(hs.2 b c).trans z) he new
theorem sI{P:Ξ}{w:Ω}{H':Hp}{h':Ψ}{kvs:List (qN×V)}{vs:List (qN×Γ)}(z:kvs.length<=ζ)(hd:(a==sysModules)=false)(c:KV kvs vs)(dd:h'.DictOf (zi P w) a vs):
  M3 P w H' h' a (.dK kvs):=#[z,hd,vs,c,dd]
theorem wv{H':Hp}{Q:Unit->Θ->Prop}(hu:A.units+1<cLine)(I:MQ X tx σ H s)(g:OC H a y v H')(B:MT y u)(C:MT v r)(h:∀s',MQ X tx σ H' s'->Q () s'):
  ε (model X.prog X.w) A (setItem (.ref a) u r) Q E s:=by
 rcases g with⟨kvs,k,e,m,l,t⟩|⟨kvs,k,b,e,m,x,l,t⟩
 ·subst m t
  obtain⟨z,o,J,d,dd⟩:=iC I.hok e;have j:J.length<=ζ:=by rw[<- d.length];exact z
  have n:(NM kvs k v).length<=ζ:=by have:=cQ kvs k v;lia
  refine wpAny_setItem_pairs (hsz:=j) (fC B) dd λh' f p=>h _ ?_
  have L:∃q,h'.get? a=↑q:=let⟨q,_,_,i,_⟩:=f;#[q,i]
  exact l7 I (by rw[e];exact True.intro) p L (sI n o (d.put k C) f)
 ·subst m t
  cases(show u=Γ.ref b from B)
  obtain⟨z,o,xs,d,dd⟩:=GB I.hok e;have j:xs.length<=ζ:=by rw[<- Paired.length d];exact z
  have n:(NM kvs k v).length<=ζ:=by have:=cQ kvs k v;lia
  refine wpAny_setItem_heap (hsz:=j) (LO hu) (c9 I.hok x) dd λh' f p=>h _ ?_
  obtain⟨q,es,F,i,K,M,G,_,D⟩:=f;refine l7 I (by rw[e];exact True.intro) p #[q,i] #[n,o,_,(d.put k x C).keeps λc ys w=>?_,q,es,F,i,K,M,G,D]
  rw[qk (zr w e (λz=>nomatch z))]
  exact w
end
section
variable{X:Cx}{tx:ML}{σ:St}{H:Hp}{s:Θ}{a:Δ}{kvs:List (qN×V)}{A:Around}{E:MJ}
theorem Gn{Q:MJ}(I:MQ X tx σ H s)(e:Rd H a (.dK kvs))(h:∀t s',MQ X tx σ H s'->Q (.int kvs.length t) s'):ε (model X.prog X.w) A (call (.builtin "len") [.ref a]) Q E s:=by
 obtain⟨z,d,f,c,dd⟩:=bQ I.hok e;refine call_len_dict d dd (by rw[<- c.length];rw[Jn]at z;lia) ?_
 rw[<- c.length];exact h _ _ (I.tok _)
end
def BQ(i:Φ):Prop:=∀a c,subscripted i false a c=operate [a,c] (getItem a c)
theorem Ec{prog:Ξ}{w:Ω}{A:Around}{E:MJ}{s:Θ}{env:Env}{value a:Φ}{pos:Pos}{T id:String}{Q:MJ}
  (hl:typeLookup (.type T) "__getitem__"=pure ↑(.builtin id))(hs:BQ a)
  (h:ε (model prog w) A (eval value env) (λo e=>ε (model prog w) A (eval a env) (λi c=>c.TypeIs o T/\ε (model prog w) A (getItem o i) Q E c) E e) E s):
  ε (model prog w) A (eval (.Subscript value a pos) env) Q E s:=by
 refine Subscript_ (JJ h (λo e j=>JJ j (λi c d=>?_) λ_ _ x=>x) λ_ _ x=>x)
 obtain⟨m,d⟩:=d;unfold subscriptTail;refine Ja ?_
 rw[getitemInPython_of_ne m.not_modules];refine Ja (Lr m hl ?_)
 have g:ε (model prog w) A (subscripted a false o i) (λr f=>ε (model prog w) A (letTemporaryGo value o r >>= λ_=>pure r) Q E f) E c:=by
  rw[hs o i];exact wpAny_operating (JJ d (λr f l=>Ja (wpAny_letTemporaryGo (Jh l))) λ_ _ x=>x)
 first
  |exact Jh (Ja g)
  |exact Ja (Jh (Ja g))
  |exact Ja g
theorem tG{X:Cx}{tx:ML}{σ:St}{H:Hp}{s:Θ}{a:Δ}{y:V}{o:Ρ}(I:MQ X tx σ H s)(g:Nd H a y o):s.TypeIs (.ref a) "dict":=by
 rcases g with⟨kvs,k,e,_,_⟩|⟨kvs,k,b,e,_,_,_⟩
 ·obtain⟨_,_,c,_,dd⟩:=bQ I.hok e
  exact dd.typeIs
 ·obtain⟨_,_,xs,_,dd⟩:=fw I.hok e
  exact dd.typeIs
def CV(td ty:TE):TE:=λσ H Q=>td σ H λx H1=>ty σ H1 λy c=>∃a v,x= .ref a/\Nd c a y ↑v/\Q v c
def Bc(ty td:TE):TE:=λσ H Q=>ty σ H λy H1=>td σ H1 λx c=>∃a o,x= .ref a/\Nd c a y o/\Q (.bl o.isSome) c
def uc(ty td:TE):TE:=λσ H Q=>ty σ H λy H1=>td σ H1 λx c=>∃a o,x= .ref a/\Nd c a y o/\Q (.bl (! o.isSome)) c
def Cp(td ty tv:TE):TS:=λD σ H=>tv σ H λv H1=>td σ H1 λx d=>ty σ d λy H3=>∃a c,x= .ref a/\OC H3 a y v c/\D.nx σ c
section
variable{X:Cx}{o i value:Φ}{pos pos':Pos}{td ty tv:TE}
theorem Do(hu:X.A.units+1<cLine)(ho:PE X o td)(hi:PE X i ty)(hs:BQ i):PE X (.Subscript o i pos) (CV td ty):=by
 intro tx s σ H Q I h;refine Ec PySem.F.slot_dict_getitem.lookup hs (qF (ho tx s σ H _ I h) λu e ⟨x,H1,j,m,p⟩=>qF (hi tx e σ H1 _ j p) λw A f=>?_)
 obtain⟨y,q,d,n,a,v,ex,g,r⟩:=f;subst ex
 obtain rfl:u=Γ.ref a:=m
 exact#[tG d g,xi hu d g n λt z l c=>#[v,q,l,c,r]]
theorem yn(hu:X.A.units+1<cLine)(hi:PE X i ty)(ho:PE X o td):PC X .In i o (Bc ty td):=by
 intro tx s σ H Q I h;refine qF (hi tx s σ H _ I h) λt d ⟨y,H1,f,m,p⟩=>qF (ho tx d σ H1 _ f p) λu w e=>?_
 obtain⟨x,q,c,l,a,n,ex,g,r⟩:=e;subst ex
 obtain rfl:u=Γ.ref a:=l
 exact GZ hu c g m λv j=>#[.bl n.isSome,q,j,Z,r]
theorem xh(hu:X.A.units+1<cLine)(hi:PE X i ty)(ho:PE X o td):PC X .NotIn i o (uc ty td):=by
 intro tx s σ H Q I h;refine qF (hi tx s σ H _ I h) λt d ⟨y,H1,f,m,p⟩=>qF (ho tx d σ H1 _ f p) λu w e=>?_
 obtain⟨x,q,c,l,a,n,ex,g,r⟩:=e;subst ex
 obtain rfl:u=Γ.ref a:=l
 exact DL hu c g m λv j=>#[.bl (! n.isSome),q,j,Z,r]
theorem D0(hu:X.A.units+1<cLine)(ho:PE X o td)(hi:PE X i ty)(hv:PE X value tv)(hs:swapsWith value ↑(.Subscript o i pos') pos.line X.env=pure false):
  PS X (.Assign [.Subscript o i pos'] value pos) (Cp td ty tv):=by
 intro tx s σ H D I h;refine wpAny_Assign_Subscript (qF (hv tx s σ H _ I h) λr f ⟨v,H1,n,w,t⟩=>qF (ho tx f σ H1 _ n t) λu z ⟨x,A,m,d,l⟩=>qF (hi tx z σ A _ m l) λC F j=>?_) hs
 obtain⟨y,H3,p,q,a,B,ex,g,e⟩:=j;subst ex
 obtain rfl:u=Γ.ref a:=d
 exact wv hu p g q w λE c=>#[σ,B,c,e]
end
theorem rR{P:Ξ}{w:Ω}{H:Hp}(h:Ψ)(hb:sysModules<h.objs.size):M3 P w H (h.push {cls:= .type "dict",data:= .dict (List.toArray [])}) h.objs.size (.dK []):=
 #[JM _,Lf.mpr (Ne.symm (Ju hb)),[],.nil,Ψ.DictOf.new h]
def wV:TE:=λ_ H Q=>∀p,H p=none->Q (.ref p) (MO H p (.dK []))
section
variable{X:Cx}{pos:Pos}
theorem BD:PE X (.Dict [] [] pos) wV:=λtx s σ H Q I h=>
 wpAny_Dict_empty #[.ref s.heap.objs.size,_,I.laid (a:=s.heap.objs.size) (o:= .dK []) (t':=s.toks) (λ_ _ q=>Jj _ q) (Je _) (rR s.heap I.big),Z,h _ (I.hok.fresh (Je _))]
end
def re:List (TE×TE)->St->Hp->(List (V×V)->Hp->Prop)->Prop
 | [],_,H,Q=>Q [] H
 |(tk,tv)::r,σ,H,Q=>tk σ H λx H1=>tv σ H1 λy a=>re r σ a λps H3=>Q ((x,y)::ps) H3
abbrev VV:List (V×V)->List (Γ×Γ)->Prop:=Paired λp q=>MT p.1 q.1/\MT p.2 q.2
def wc(X:Cx)(pos:Pos)(keys:List Υ)(a:Ι)(c:List (TE×TE)):Prop:=
 ∀(tx:ML) (s:Θ) (σ:St) (H:Hp) (Q:List (V×V)->Hp->Prop),MQ X tx σ H s->re c σ H Q->
  ε (model X.prog X.w) X.A (evalPairs (pairTrees keys a X.env pos)) (λd s'=>∃ps H',MQ X tx σ H' s'/\VV ps d/\Q ps H') X.xe s
theorem Ej{X:Cx}{pos:Pos}:wc X pos [] [] []:=λtx s σ H Q I h=>pairTrees_nil_walk #[[],H,I,.nil,h]
theorem Ba{X:Cx}{pos:Pos}{k v:Φ}{ks:List Υ}{vs:Ι}{tk tv:TE}{a:List (TE×TE)}(hk:PE X k tk)(hv:PE X v tv)(hr:wc X pos ks vs a):
  wc X pos (↑k::ks) (v::vs) ((tk,tv)::a):=λtx s σ H Q I h=>
 pairTrees_cons_walk (qF (hk tx s σ H _ I h) λu e ⟨x,H1,f,p,l⟩=>qF (hv tx e σ H1 _ f l) λq m ⟨y,n,d,j,o⟩=>
  qF (hr tx m σ n _ d o) λws r ⟨ps,H3,g,c,i⟩=>#[(x,y)::ps,H3,g,.cons #[p,j] c,i])
def av(kvs a:List (qN×V)):List (qN×V):=a.foldl (λc d=>NM c d.1 d.2) kvs
theorem KV.merge:∀{a:List (qN×V)} {rs:List (qN×Γ)} {kvs:List (qN×V)} {vs:List (qN×Γ)},KV a rs->KV kvs vs->KV (av kvs a) (merged vs rs):=by
 intro a rs kvs vs r;unfold KV at r
 induction r generalizing kvs vs with
 |nil=>intro q;exact q
 | @cons p q ps qs h t ih=>
  intro c;have e:KV (NM kvs p.1 p.2) (stored vs q.1 q.2):=by
   have:=c.put p.1 h.2
   rw[<- h.1];exact this
  exact ih e
theorem fN:∀(a kvs:List (qN×V)),(av kvs a).length<=kvs.length+a.length
 | [],kvs=>by show kvs.length<=kvs.length+0;lia
 |p::r,kvs=>by
  have h1:=fN r (NM kvs p.1 p.2);have c:=cQ kvs p.1 p.2
  show(av (NM kvs p.1 p.2) r).length<=_
  rw[J7];lia
theorem kY{P:Ξ}{w:Ω}:∀{kvs:List (qN×V)} {ws:List (Γ×Γ)},VV (kvs.map λd=>(kV d.1,d.2)) ws->∃rs,Carries (zi P w) ws rs/\KV kvs rs
 | [],_,r=>by rw[L9]at r;cases r;exact#[[],True.intro,.nil]
 |p::kvs,_,r=>by
  rw[JR]at r;cases r with
  | @cons a b as bs h t=>
   obtain⟨rs,c,q⟩:=kY (P:=P) (w:=w) t
   obtain⟨f,e⟩:=b
   exact#[(p.1,e)::rs,#[fC h.1,Z,c],.cons #[Z,h.2] q]
def CQ(a:List (TE×TE)):TE:=λσ H Q=>∀p,H p=none->re a σ (MO H p (.dK [])) λps c=>c p=↑(.dK [])/\∃kvs:List (qN×V),ps=kvs.map (λd=>(kV d.1,d.2))/\kvs.length<=15/\Q (.ref p) (MO c p (.dK (av [] kvs)))
theorem DU{X:Cx}{pos:Pos}{keys:List Υ}{d:Ι}{g:List (TE×TE)}(h:wc X pos keys d g)(f:keys.all (·.isSome)=true)(hl:keys.length=d.length)(r:keys≠[])
  (l:keys.length<=15):PE X (.Dict keys d pos) (CQ g):=by
 intro tx s σ H Q I q;have y:=I.hok.fresh (Je s.heap.objs.size);have B:=I.laid (a:=s.heap.objs.size) (o:= .dK []) (h':=s.heap.push {cls:= .type "dict",data:= .dict (List.toArray [])}) (t':=s.toks) (λ_ _ q=>Jj _ q) (Je _) (rR s.heap I.big)
 refine wpAny_Dict_walk (knd:=zi X.prog X.w) f hl r l (qF (h tx _ σ _ _ B (q _ y)) λws G v=>?_)
 obtain⟨ps,J,m,j,e,kvs,t,F,A⟩:=v;subst t;obtain⟨rs,c,u⟩:=kY (P:=X.prog) (w:=X.w) j
 obtain⟨z,D,x,n,dd⟩:=iC m.hok e;cases n;refine#[rs,c,dd,λh' i E=>#[.ref s.heap.objs.size,_,?_,Z,A]]
 have p:(av [] kvs).length<=ζ:=by
  have h1:=fN kvs [];rw[List.length_nil]at h1;rw[Jn];lia
 have C:∃q,h'.get? s.heap.objs.size=↑q:=let⟨q,_,_,hq,_⟩:=i;#[q,hq]
 exact l7 m (by rw[e];exact True.intro) E C (sI p D (u.merge .nil) i)
structure M1(X:Cx)(o:Φ)(m:Str)(apos:Pos)(e:Φ)(cpos:Pos):Prop where
 base:attributeBase o m X.env (eval o X.env)=eval o X.env
 few:((backTo cpos (θ [e] X.env)).all (λx=> ! x.1)&&(backToKw cpos (keywordEach [] X.env)).all (λx=>x.1.isSome)
  &&decide (([e]:Ι).length+([]:Χ).length+(if([]:Χ).isEmpty then 0 else 1)<30))=true
 line:(apos.endLine==cpos.line)=true
 trees:backTo cpos (θ [e] X.env)=[(false,eval e X.env)]
def GJ(H:Hp)(a:Δ):Prop:=(∃kvs,Rd H a (.dK kvs))\/∃kvs,Rd H a (.dT kvs)
theorem wQ{X:Cx}{tx:ML}{σ:St}{H:Hp}{s:Θ}{a:Δ}(I:MQ X tx σ H s)(d:GJ H a):
  s.TypeIs (.ref a) "dict"/\(∀b,Γ.ref a= .ref b->∃c,s.heap.get? b=↑c/\c.dict=none)/\(a==sysModules)=false:=by
 rcases d with⟨kvs,e⟩|⟨kvs,e⟩
 ·obtain⟨_,g,h,_,dd⟩:=bQ I.hok e
  refine#[dd.typeIs,λb q=>?_,g]
  cases q;obtain⟨c,_,_,h1,f,_⟩:=dd
  exact#[c,h1,f.2.1]
 ·obtain⟨_,g,xs,_,dd⟩:=fw I.hok e
  refine#[dd.typeIs,λb q=>?_,g]
  cases q;obtain⟨c,_,_,h1,f,_⟩:=dd
  exact#[c,h1,f.2.1]
section
variable{X:Cx}{tx:ML}{σ:St}{H:Hp}{s:Θ}{a:Δ}{y:V}{u:Γ}{o:Ρ}{A:Around}{E:MJ}
theorem EE{Q:MJ}(hu:A.units+1<cLine)(I:MQ X tx σ H s)(g:Nd H a y o)(j:MT y u)(h:∀i s',MQ X tx σ H s'->MT (o.getD .non) i->Q i s'):
  ε (model X.prog X.w) A (call (.builtin "dict.get") [.ref a,u]) Q E s:=by
 rcases g with⟨kvs,k,e,d,l⟩|⟨kvs,k,b,e,d,m,l⟩
 ·subst d
  obtain⟨z,f,n,c,dd⟩:=bQ I.hok e;refine call_meetsIn MD dd.typeIs PySem.F.entry_dict_get (PySem.F.args_dict_get_2 _ _) (meets_dict_get (zi X.prog X.w) a (fC j) f) #[_,dd.mapOf,h _ _ (I.tok _) ?_]
  rw[l]
  exact(c.val k).getD Z
 ·subst d
  cases(show u=Γ.ref b from j)
  obtain⟨z,f,xs,c,dd⟩:=fw I.hok e;refine call_meetsIn MD dd.typeIs PySem.F.entry_dict_get (PySem.F.args_dict_get_2 _ _) (meetsH_dict_get (tupleKind (zi X.prog X.w)) a b f) #[LO hu,k,xs,c9 I.hok m,dd,h _ _ (I.tok _) ?_]
  rw[l]
  exact(c.val k).getD Z
end
def wT(td ty:TE):TE:=λσ H Q=>td σ H λx H1=>∃a,x= .ref a/\GJ H1 a/\ty σ H1 λy c=>∃o,Nd c a y o/\Q (o.getD .non) c
section
variable{X:Cx}{o e:Φ}{apos cpos:Pos}{td ty:TE}
theorem Ca(hu:X.A.units+1<cLine)(ho:PE X o td)(he:PE X e ty)(m:M1 X o "get" apos e cpos):PE X (.Call (.Attribute o "get" apos) [e] [] cpos) (wT td ty):=by
 intro tx s σ H Q I h;refine wpAny_Call_method m.base m.few m.line PySem.F.plainAttrs_dict MD PySem.F.type_dict_get (qF (ho tx s σ H _ I h) λu j l=>?_)
 obtain⟨x,H1,f,i,a,ex,d,v⟩:=l;subst ex
 obtain rfl:u=Γ.ref a:=i
 obtain⟨z,t,_⟩:=wQ f d;refine#[z,t,?_]
 rw[m.trees];refine Ma Z (Mb (Calls.spliced_cons (qF (he tx j σ H1 _ f v) λC E ⟨y,w,p,r,B,g,n⟩=>Calls.spliced_nil ?_)))
 exact EE hu p g r λA D q c=>#[_,w,q,c,n]
end
section
variable{X:Cx}
theorem nQ:zx X (.builtin "len") (λxs H Q=>∃a kvs,xs=[V.ref a]/\H a=↑(.dK kvs)/\Q (.int kvs.length) H):=by
 intro tx s σ H xs f Q I r h;obtain⟨a,kvs,rfl,c,q⟩:=h;obtain⟨u,rfl,d⟩:=Qz r;cases d;exact Gn I (.inl c) λt s' e=>#[.int kvs.length,H,e,#[t,Z],q]
end
end L2
namespace L3
open PySem PySem.Spec PyProof.Rows L2
open PySem.W (kdl_dict kdl_extend)
section
variable{prog:Ξ}{w:Ω}{A:Around}{E:MJ}{s:Θ}
theorem rJ{d:Δ}{kvs:List (qN×Γ)}{ep:Nat}{Q:Ζ->Θ->Prop}(l:A.handled=none)(hm:s.heap.DictAt (zi prog w) d kvs ep)(lo:(d==sysModules)=false)(hn:kvs.length<=ζ)
  (h:∀(vs:Ζ) (h':Ψ) (tk:Nat),s.heap.objs.size<h'.objs.size->(∀b o,s.heap.get? b=↑o->h'.get? b=↑o)->vs.length=kvs.length->(∀(j:Nat) (v:Γ),vs[j]? =↑v->∃k x,kvs[j]? =↑(k,x)/\(zi prog w).is k v=true)->Q vs {s with heap:=h',toks:=tk}):
  ε (model prog w) A (collect (.ref d)) Q E s:=by
 unfold collect;refine Ja (wpAny_runValue (Mm entry_proto_collect' ?_))
 show ε _ _ (do again (.builtin "list.__iadd__" #[[<- newList [],.ref d],[]])) _ _ s
 refine Ja (wpAny_newList (Jh #[Mo _ nofun,Mm entry_list_iadd' ?_]))
 rw[Around.under_plainId PySem.F.plain_list_iadd _];have f:d<s.heap.objs.size:=hm.lt_size
 refine kdl_extend (s:={s with heap:=s.heap.push (seqObj "list" (List.toArray []) 0)}) (R:=λr s'=>match r with
   | .ok (.ret v)=>ε (model prog w) A (match v with
    | .ref a=>(do
     let o <- load a
     match o.data with
     | .seq xs _=>pure xs.toList
     |_=>unsupported "internal:collect")
    |_=>unsupported "internal:collect") Q E s'
   | .ok _=>False
   | .error e=>E e s') (kdl_dict (knd:=zi prog w) (ep:=ep) (kvs:=kvs) lo) l (hm.push _) s.heap.objs.size (J0 f) (J0 f) _ 0 (Jw _ Z) (λh' tk c c' hk g i=>?_) hn
 show ε (model prog w) A (do
   let o <- load s.heap.objs.size
   match o.data with
   | .seq xs _=>pure xs.toList
   |_=>unsupported "internal:collect") Q E {s with heap:=h',toks:=tk}
 refine Ja (wpAny_load g ?_)
 refine Jh (h c.toList h' tk (Jl g) (λb o e=>hk b o (Ju (Jl e)) (Jj _ e)) (by rw[IB];exact i.1) λj v e=>i.2 j v (by rw[<- Array.getElem?_toList];exact e))
theorem mM:∀{us:Ζ} {a:Α},us.length=a.length->(∀(j:Nat) (v:Γ),us[j]? =↑v->∃x t,a[j]? =↑x/\v= .str x t)->StrsAre us a
 | [],[],_,_=> .nil
 |u::us,x::a,hl,h=>by
  obtain⟨y,t,c,d⟩:=h 0 u Z;cases c;subst d;exact .cons _ _ (mM (Nat.succ.inj hl) λj v e=>h (j+1) v e)
 | [],_::_,hl,_=>by cases hl
 |_::_,[],hl,_=>by cases hl
theorem tz{d:Δ}{kvs:List (qN×Γ)}{ep:Nat}{i:Α}{Q:MJ}(P:A.handled=none)(hm:s.heap.DictAt (zi prog w) d kvs ep)(lo:(d==sysModules)=false)(q:kvs.map (·.1)=i.map Sum.inr)(C:i.length<64)
  (h:∀(h':Ψ) (tk:Nat) (l:Δ) (its:Ζ) (n:Nat) (a:Α),s.heap.objs.size<=l->(∀b o,s.heap.get? b=↑o->h'.get? b=↑o)->h'.get? l=↑(seqObj "list" its.toArray n)->StrsAre its a->a.Perm i->sortedS a=true->Q (.ref l) {s with heap:=h',toks:=tk}):
  ε (model prog w) A (call (.builtin "sorted") [.ref d]) Q E s:=by
 have c:kvs.length=i.length:=by have:=JL List.length q;rwa [Jb,Jb]at this
 refine Calls.call_function_entry kind_sorted plain_sorted entry_sorted (args_sorted1 _) ?_
 unfold γ.«sorted»
 refine Ja (m:=checkCount "sorted" 1 1 _) (Jh ?_)
 refine Ja (rJ (ep:=ep) (kvs:=kvs) P hm lo (by rw[Jn];lia) λp h' tk z hk G N=>?_)
 have u:StrsAre p i:=mM (G.trans c) λj v e=>by
  obtain⟨k,x,K,U⟩:=N j v e;have r:(kvs.map (·.1))[j]? =↑k:=by rw[Jm,K];rfl
  rw[q,Jm]at r;cases e4:i[j]? with
  |none=>rw[e4]at r;cases r
  |some y=>
   rw[e4]at r;have M:Sum.inr y=k:=JE r
   subst M;have I:Γ.isStrOf y v=true:=U
   cases v<;>simp [Γ.isStrOf]at I
   subst I
   exact#[_,_,Z,Z]
 refine Ja (wpAny_newList ?_)
 have g:(h'.push (seqObj "list" p.toArray 0)).get? h'.objs.size=↑(seqObj "list" p.toArray 0):=Jw _ Z
 show ε _ _ _ _ _ {s with heap:=h'.push (seqObj "list" p.toArray 0),toks:=tk}
 refine Ja (J2 (J8 slot_list_sort #[_,g,Z] entry_list_sort (list_sort_treeK (κ:=PyProof.Rows.strKind) strKind_oneLt g u.keysOf (λF D rest e=>keyKind_strs (by rw[<- e];exact u)) (by rw[G,c];exact C) λf R T=>#[_,Z,?_]) (args_list_sort _)))
 obtain⟨a,O,S,L⟩:=sorted_out_str u R T;obtain⟨B,t⟩:∃B,(sortedHeap (h'.push (seqObj "list" p.toArray 0)) h'.objs.size p ((arrOf f).map (·.2))).get? h'.objs.size=↑(seqObj "list" ((arrOf f).map (·.2)) B):=sortedHeap_at g
 refine Jh #[_,Z,h _ tk h'.objs.size ((arrOf f).map (·.2)).toList B a (LW z) (λb o e=>?_) (by rw[t]) O S L]
 have J:=hk b o e;have H:b<h'.objs.size:=Jl J
 rw[sortedHeap_old (Ju H) (by rw[J5];exact IR H)]
 exact Jj _ J
end
theorem cD:∀{us:Ζ} {a:Α},StrsAre us a->MU (a.map V.str) us
 | [],[],.nil=> .nil
 |_,_::_,.cons _ _ t=> .cons #[_,Z] (cD t)
theorem gZ{X:Cx}(hc:X.calm=true):zx X (.builtin "sorted") (λxs H Q=>∃(d:Δ) (kvs:List (qN×V)) (e:Α),xs=[.ref d]/\H d=↑(.dK kvs)/\kvs.map (·.1)=e.map Sum.inr/\e.length<64/\
  ∀l c,H l=none->c.Perm e->sortedS c=true->Q (.ref l) (MO H l (.lst (c.map V.str)))):=by
 intro tx s σ H xs M Q I r h;obtain⟨d,kvs,e,rfl,C,i,m,q⟩:=h;obtain⟨u,rfl,A⟩:=Qz r;cases A;obtain⟨z,lo,p,g,o,es,x,B,K,F,D,J,E⟩:=iC I.hok C;have f:p.map (·.1)=e.map Sum.inr:=by rw[<- i,g.keys]
 refine tz (I.ok.hd hc) (#[o,es,B,K,F,D,J,E]:s.heap.DictAt (zi X.prog X.w) d p x) lo f m λh' tk l j n c t hk L G v w=>?_
 refine#[.ref l,_,I.laid (a:=l) (o:= .lst (c.map V.str)) (t':=tk) hk t ?_,Z,q l c (I.hok.fresh t) v w]
 have y:=cD G;refine#[?_,j,n,y,L]
 have:=v.length_eq
 rw[Jb,Jn];lia
end L3
namespace L3
open PySem PySem.Spec PyProof.Rows L2
open Sem (wp)
def Aq(k:Nat)(js:Μ)(g:TG)(tc:TT)(te:TE)(σ:L2.St)(Q:VK)(J:It)(H1:Hp):Prop:=∃W:Nat->Nat->Β->L2.St->Hp->Prop,(∃m,W 0 m [] (σ0 k js σ) H1)/\∀i m ys e H,W i m ys e H->
 (J.stop i H/\∀p,H p=none->Q (.ref p) (MO H p (.lst ys)))\/(J.go i H/\ys.length<ζ/\∀x H',J.yld i H x H'->g x e H' λa f=>∃(N:V->Hp->Prop) (d:Hp->Prop),(∀v H3,N v H3->∃m',m'<m/\W (i+1) m' (ys++[v]) a H3)/\
  (∀H3,d H3->∃m',m'<m/\W (i+1) m' ys a H3)/\tc a f λc H3=>if c=true then te a H3 N else d H3)
def pW(k:Nat)(js:Μ)(a:TI)(g:TG)(tc:TT)(te:TE):TE:=λσ H Q=>a σ H (Aq k js g tc te σ Q)
section
variable{prog:Ξ}{w:Ω}{A:Around}{R:Result->Θ->Prop}{s:Θ}
theorem tF{u a j i:Φ}{f:Scope}{pos:Pos}{it y:Γ}{env:Env}(I:Nat->Θ->Prop)
  (turn:∀n s,I n s->ε (model prog w) A (pyNext it) (λr e=>match r with
   |none=>R (.ok .next) e
   | some v=>ε (model prog w) A (letOwnedTupleGo a it v) (λ_ d=>ε (model prog w) A (assign a env v) (λ_ l=>ε (model prog w) A (isTrue i env (eval i env)) (λok c=>
     if ok=true then ε (model prog w) A (eval u env) (λx p=>
      ε (model prog w) A (call (.builtin "list.append") [y,x]) (λ_ o=>∃m,m<n/\I m o) (λ_ _=>False) p) (λ_ _=>False) c else∃m,m<n/\I m c)
     (λ_ _=>False) l) (λ_ _=>False) d) (λ_ _=>False) e) (λ_ _=>False) s)
  (n:Nat)(h:I n s):
  codeAny (model prog w) A (.compLoop (.ListComp u [#[a,j,[i],0]] f pos) 0 it y env) R s:=by
 refine codeAny_loop Z I (λn s D=>?_) n h
 show ε _ _ ((compTurn (.ListComp u [#[a,j,[i],0]] f pos) 0 it y env).onRaise (λx=>do noteFrame x env;theTreesLotGoes x)) _ _ s
 refine wpAny_noted ?_
 rw[compTurn_list];refine Ja (Iu (Ja (JJ (turn n s D) (λr e q=>?_) λ_ _ h'=>h'.elim)))
 cases r with
 |none=>exact Jh q
 |some v=>
  refine Ja (JJ q (λ_ d t=>?_) λ_ _ h'=>h'.elim)
  refine Ja (JJ t (λ_ l z=>Ja (wpAny_tests_one (JJ z (λok c g=>?_) λ_ _ h'=>h'.elim))) λ_ _ h'=>h'.elim)
  cases ok with
  |false=>exact Jh #[Z,g]
  |true=>
   exact Ja (Ja (JJ g (λx p B=>Ja (JJ B (λ_ o C=>Jh (Jh #[Z,C])) λ_ _ h'=>h'.elim)) λ_ _ h'=>h'.elim))
end
variable{X:Cx}
theorem wx{b2 tg D b1:Φ}{a:Scope}{cl:List (Str×Δ)}{pos d1:Pos}{fr own:Α}{js:Μ}{wi:TI}{g:TG}{tc:TT}{te:TE}{use:Option (Γ->Sem Unit)}{Post:MJ}
  {tx:ML}{s:Θ}{σ:L2.St}{H:Hp}{Q:VK}
  (hc:X.calm=true)(hi:PI X tg D wi)(b4:closureFor a X.env=pure cl)(d8:∀y c,cl.lookup y=↑c->X.env.cells.lookup y=↑c)(d7:cl.map (·.1)=fr)
  (S:NB X a fr js)
  (hg:∀C s H R,PG (Qm X (own++fr) a cl C s H R) tg g)(ht:∀C s H R,PT (Qm X (own++fr) a cl C s H R) b1 tc)(he:∀C s H R,PE (Qm X (own++fr) a cl C s H R) b2 te)
  (hs:∀x,foldedSetIterable D X.env x=pure x)
  (I:L2.MQ X tx σ H s)(h:pW own.length js wi g tc te σ H Q)
  (c2:∀(d3 C:Δ) (s5:Θ) (H':Hp) (m:MK),L2.MQ X tx σ H' s5->s5.heap.Ns C m->Sk X tx H' C->Q (.ref d3) H'->compPost (model X.prog X.w) X.A X.xe use Post (.ref d3) C (.ok .next) s5):
  ε (model X.prog X.w) X.A (comprehension (.ListComp b2 [#[tg,D,[b1],0]] a pos) a X.env d1 (newList []) false (eval D X.env) use) Post X.xe s:=by
 refine wpAny_comprehension_free (use:=use) Z hs b4 S.kind S.names (qF (hi tx s σ H _ I h) λv s1 h1=>qF h1 λe3 q h2=>?_)
 obtain⟨it,R,tn,J,H2,e,I2,T,c5,f2,W,⟨m0,w0⟩,turn⟩:=h2;subst e;refine J6 (wpAny_newFunctionEnv S.nocell (by intro y hy;simp at hy) (λP t f=>?_) S.kind)
 dsimp only at t f⊢
 generalize hH2:q.heap.push {cls:= .type "list",dict:=none,data:= .seq ([]:Ζ).toArray}=G at t f⊢
 have hC:G.objs.size=q.heap.objs.size+1:=by rw[<- hH2,J5]
 have U:q.heap.objs.size≠G.objs.size:=by rw[hC];exact Ju (Iv _)
 have L:∀b,b<q.heap.objs.size->b≠G.objs.size/\b≠q.heap.objs.size:=λb l=>#[by rw[hC];exact Ju (IR l),Ju l]
 have c0:∀b o,q.heap.get? b=↑o->P.get? b=↑o:=λb o e=>f.extBut b o (L b (Jl e)).1 (Jj _ (hH2▸Jj _ e))
 have a4:P.get? q.heap.objs.size=some {cls:= .type "list",data:= .seq ([]:Ζ).toArray 0}:=f.extBut _ _ U (Jj _ (hH2▸Jw _ Z))
 let Y:Cx:=Qm X (own++fr) a cl G.objs.size q H2 R
 obtain⟨b7,IY,F,E,b6⟩:=rK (own:=own) (js:=js) d8 d7 S I2 T c5 f2 hC c0 t
 have a5:∀w:Θ,MQ Y [] (σ0 own.length js σ) H2 w->tn 0 w.heap->w.heap.get? q.heap.objs.size=some {cls:= .type "list",data:= .seq ([]:Ζ).toArray 0}->
   codeAny (model X.prog X.w) X.A (.compLoop (.ListComp b2 [#[tg,D,[b1],0]] a pos) 0 (.ref it) (.ref q.heap.objs.size) (compEnvC a cl G.objs.size X.env))
    (compPost (model X.prog X.w) X.A X.xe use Post (.ref q.heap.objs.size) G.objs.size) w:=by
  intro w I3 d9 d5;refine tF (λn s'=>∃i ys τ H' d k,MQ Y [(q.heap.objs.size,{cls:= .type "list",data:= .seq d.toArray k})] τ H' s'/\tn i s'.heap/\(∀b∈R,H' b=none)/\MU ys d/\ys.length<=ζ/\W i n ys τ H') ?_ m0 ?_
  ·rintro n s4 ⟨i,ys,τ,H4,d,k,I4,c1,c4,vl,hz,w4⟩
   have e2:=I4.pin (q.heap.objs.size,{cls:= .type "list",data:= .seq d.toArray k}) (by simp [Y,Qm])
   rcases turn i n ys τ H4 w4 with⟨c3,qn⟩|⟨go,e4,step⟩
   ·refine qF (T.done Y Z Z Z hc i _ s4 τ H4 _ I4 (b6 c4 (by simp)) c1 c3) λr s5 K=>?_
    obtain⟨hr,I5⟩:=K;subst hr
    show compPost _ _ _ _ _ _ _ _ _
    obtain⟨m5,d6,_⟩:=I5.loc;have a3:=I5.pin (q.heap.objs.size,{cls:= .type "list",data:= .seq d.toArray k}) (by simp [Y,Qm])
    have a2:H4 q.heap.objs.size=none:=a3.2.1
    have B:=I5.base;have nC:H4 G.objs.size=none:=I5.free
    obtain⟨z1,z2⟩:=rG (ob:= .lst ys) I2 f2 hC I5 a2 #[hz,d,k,vl,a3.1]
    exact c2 q.heap.objs.size G.objs.size s5 (MO H4 q.heap.objs.size (.lst ys)) m5 z1 d6 z2 (qn _ a2)
   ·refine qF (T.item Y Z Z Z hc i _ s4 τ H4 _ I4 (b6 c4 (by simp)) c1 go) λr s5 K=>?_
    obtain⟨u,hr,h5⟩:=K;subst hr;refine qF h5 λ_ s6 K=>?_
    obtain⟨x,H6,I6,r6,y6,M,e0⟩:=K;have d4:=I6.pinned (b6 e0 (by simp)) (T.obj _ _ M)
    refine qF (hg _ _ _ _ _ s6 τ H6 x u _ d4 r6 (step x H6 y6)) λ_ s7 K=>?_
    obtain⟨O,H7,I7,N,N0,hN,e1,q7⟩:=K;refine qF (ht _ _ _ _ _ s7 O H7 _ I7 q7) λok d2 K=>?_
    obtain⟨b0,a1,d0⟩:=K;cases ok with
    |false=>
     obtain⟨m',b3,w8⟩:=e1 _ d0;have A:=a1.pin (q.heap.objs.size,{cls:= .type "list",data:= .seq d.toArray k}) (by simp [Qm])
     have j:∀b∈R,∀o,s6.heap.get? b=↑o->d2.heap.get? b=↑o/\b0 b=none:=λb l o e=>by
      have:=a1.pin (b,o) (J3 _ (J3 _ (az l e)))
      exact#[this.1,this.2.1]
     refine#[m',b3,i+1,ys,O,b0,d,k,a1.pins_of ?_,T.keep _ _ _ M λb l o e=>(j b l o e).1,λb l=>?_,vl,by lia,w8]
     ·intro p hp
      rw[Jg.mp hp];exact A
     ·obtain⟨o,e,_⟩:=T.obj _ _ M b l
      exact(j b l o e).2
    |true=>
    refine qF (he _ _ _ _ _ d2 O b0 _ a1 d0) λv' s8 K=>?_
    obtain⟨y,H8,I8,r8,n8⟩:=K;obtain⟨m',b3,w8⟩:=hN _ _ n8;have A:=I8.pin (q.heap.objs.size,{cls:= .type "list",data:= .seq d.toArray k}) (by simp [Qm])
    have j:∀b∈R,∀o,s6.heap.get? b=↑o->s8.heap.get? b=↑o/\H8 b=none:=λb l o e=>by
     have:=I8.pin (b,o) (J3 _ (J3 _ (az l e)))
     exact#[this.1,this.2.1]
    refine wpAny_list_append_plain (items:=d.toArray) #[k,A.1] (λh' a0 c6=>?_) (by have:=vl.length;simp;lia)
    obtain⟨k',a0⟩:=a0;have I9:MQ Y [] O H8 {s8 with heap:=h'}:=by
     refine(I8.pins_of (pins':=[]) (by simp)).turned (t':=s8.toks) (it:=q.heap.objs.size) (λb o l e=>(c6.2 b l).trans e) A.2.1 ?_ (.inr (Je _)) (λx c e=>E x c e) (λp hp=>absurd (show p∈([]:ML)from by simpa [Y,Qm]using hp) (by simp))
     exact U
    have ea:(d.toArray.push v')=(d++[v']).toArray:=by simp
    rw[ea]at a0;refine#[m',b3,i+1,ys++[y],O,H8,d++[v'],k',I9.pins_of ?_,T.keep _ _ _ M λb l o e=>(c6.2 b (L b (b7 b l)).2).trans (j b l o e).1,λb l=>?_,vl.append (.cons r8 .nil),?_,w8]
    ·intro p hp
     rw[Jg.mp hp]
     exact#[a0,A.2.1,U,F,λv z=>by cases z]
    ·obtain⟨o,e,_⟩:=T.obj _ _ M b l
     exact(j b l o e).2
    ·rw[Jo,Me];lia
  ·refine#[0,[],σ0 own.length js σ,H2,[],0,I3.pins_of ?_,d9,λb l=>(f2 b l).1,.nil,JM _,w0]
   intro p hp;rw[Jg.mp hp]
   exact#[d5,I2.hok.fresh (Je _),U,F,λv z=>by cases z]
 have b5:tn 0 P:=T.keep _ _ _ c5 λb _ o e=>c0 b o e
 exact codeAny_compStart_list (a5 _ IY b5 a4) (T.self _ 0 _ _ _ b5 (a5 _ IY b5 a4))
theorem AR{n tg d j:Φ}{a:Scope}{cl:List (Str×Δ)}{pos:Pos}{fr own:Α}{js:Μ}{v:TI}{g:TG}{tc:TT}{te:TE}
  (hc:X.calm=true)(hi:PI X tg d v)(f:closureFor a X.env=pure cl)(p:∀y c,cl.lookup y=↑c->X.env.cells.lookup y=↑c)(u:cl.map (·.1)=fr)
  (S:NB X a fr js)
  (hg:∀C s H i,PG (Qm X (own++fr) a cl C s H i) tg g)(w:∀C s H i,PT (Qm X (own++fr) a cl C s H i) j tc)(he:∀C s H i,PE (Qm X (own++fr) a cl C s H i) n te)
  (hs:∀x,foldedSetIterable d X.env x=pure x:=by intro _;rfl):
  PE X (.ListComp n [#[tg,d,[j],0]] a pos) (pW own.length js v g tc te):=by
 intro tx s σ H Q I h;rw[eval_ListComp];refine wx (use:=none) hc hi f p u S hg w he hs I h λt C D H' m z B l q=>?_
 exact#[m,B,λh' r=>#[.ref t,H',z.turned (t':=D.toks) (λb o A e=>(r.2 b A).trans e) l.free l.loc (.inr l.new) l.cell l.pin,Z,q]]
theorem BM{i tg d h:Φ}{a:Scope}{cl:List (Str×Δ)}{pos:Pos}{fr own:Α}{js:Μ}{m:TI}{g:TG}{tc:TT}{te:TE}
  (hc:X.calm=true)(hi:QI X tg d m)(f:closureFor a X.env=pure cl)(j:∀y c,cl.lookup y=↑c->X.env.cells.lookup y=↑c)(l:cl.map (·.1)=fr)
  (S:NB X a fr js)
  (hg:∀C s H e,QG (Qm X (own++fr) a cl C s H e) tg g)(n:∀C s H e,QT (Qm X (own++fr) a cl C s H e) h tc)(he:∀C s H e,QE (Qm X (own++fr) a cl C s H e) i te)
  (hs:∀x,foldedSetIterable d X.env x=pure x:=by intro _;rfl):
  QE X (.ListComp i [#[tg,d,[h],0]] a pos) (pW own.length js m g tc te):=#[AR hc hi.h f j l S (λC s H e=>(hg C s H e).h) (λC s H e=>(n C s H e).h) (λC s H e=>(he C s H e).h) hs]
section
variable{js:Μ}{tc:TT}{te:TE}{σ:L2.St}{H:Hp}{Q:VK}{K:ι}
abbrev ya(J:It)(js:Μ)(tc:TT)(te:TE)(σ:L2.St)(H1:Hp)(Q:VK):Prop:=Aq 1 js (aG 0) tc te σ Q J H1
theorem Aa{J:It}{n:Nat}(hn:n<=ζ)(d:Nat->V->Prop)(Pv:Nat->Β->Hp->Prop)(l:Pv 0 [] H)(f:∀i ys H,i<n->Pv i ys H->J.go i H)(hst:∀ys H,Pv n ys H->J.stop n H)
  (r:∀i ys H x H',i<n->Pv i ys H->J.yld i H x H'->H'=H/\d i x)
  (hs:∀i ys H x,i<n->Pv i ys H->d i x->tc (↑x::QD js σ) H λc H3=>if c=true then te (↑x::QD js σ) H3 (λv q=>Pv (i+1) (ys++[v]) q)else Pv (i+1) ys H3)
  (hd:∀ys H,Pv n ys H->∀p,H p=none->Q (.ref p) (MO H p (.lst ys))):ya J js tc te σ H Q:=by
 refine#[λi m ys h H=>m=n-i/\i<=n/\ys.length<=i/\Pv i ys H/\∃o,h=o::QD js σ,#[n,by simp,JM _,Je _,l,none,Z],?_]
 rintro i m ys h H ⟨rfl,hi,s,p,o,rfl⟩
 by_cases a:i<n
 ·refine .inr #[f i ys H a p,by lia,λx H' y=>?_]
  obtain⟨e,j⟩:=r i ys H x H' a p y;subst e
  exact#[λv H3=>Pv (i+1) (ys++[v]) H3,λH3=>Pv (i+1) ys H3,λv H3 g=>#[n-(i+1),by lia,Z,a,by simp;lia,g,_,Z],λH3 g=>#[n-(i+1),by lia,Z,a,by lia,g,_,Z],hs i ys _ x a p j]
 ·have e:i=n:=by lia
  subst e;exact .inl #[hst ys H p,hd ys H p]
theorem vW{a:Δ}{xs:Β}(hn:xs.length<=ζ)(Pv:Nat->Β->Hp->Prop)(e:Pv 0 [] H)(hl:∀i ys H,Pv i ys H->MV K H a xs)
  (hs:∀i ys H x,xs[i]? =↑x->Pv i ys H->tc (↑x::QD js σ) H λc H3=>if c=true then te (↑x::QD js σ) H3 (λv f=>Pv (i+1) (ys++[v]) f)else Pv (i+1) ys H3)
  (hd:∀ys H,Pv xs.length ys H->∀p,H p=none->Q (.ref p) (MO H p (.lst ys))):ya (iu K a) js tc te σ H Q:=
 Aa hn (λi x=>xs[i]? =↑x) Pv e (λi ys H hi p=>#[xs,xs[i],hl _ _ _ p,by simp [hi]]) (λys H p=>#[xs,hl _ _ _ p,Je _]) (λi ys H x H' _ p y=>#[y.1,y.2 xs (hl _ _ _ p)]) (λi ys H x _ p d=>hs i ys H x d p) hd
end
def nr(x y:Κ):Ε:=(match x with|some i=>[i]|none=>[])++(match y with|some i=>[i]|none=>[])
theorem yl(hc:X.calm=true):zx X (.builtin "max") (λxs H Q=>∃(p:Δ) (ns:Ε),xs=[.ref p]/\H p=↑(.lst (ns.map V.int))/\0<ns.length/\∀M,M∈ns->(∀a∈ns,a<=M)->Q (.int M) H):=by
 intro tx s σ H xs E Q I r h;obtain⟨p,ns,rfl,y,f,q⟩:=h;obtain⟨u,rfl,C⟩:=Qz r;cases C;obtain⟨z,d,n,D,F,e⟩:=I.lstM y;have hi:IntsAre d ns:=uR D
 obtain⟨ys,m⟩:=hi.allInts.items;have c:ns=ys.toList.map (·.1):=by rw[<- hi.numsOf,<- nums_intItems,<- m]
 have g:0<ys.size:=by
  have o:=f;rw[c,Jb,IB]at o;exact o
 have A:s.heap.IsList p (intItems ys):=by
  rw[<- m]
  exact#[_,e,Z,#[n,Z]]
 refine max_intList (I.ok.hd hc) A g λv h' tk B hk=>?_
 obtain⟨t,rfl⟩:=intItems_at B;obtain⟨h1,w⟩:=argBest_gt (numAt ys) (ys.size-1)
 refine#[.int (numAt ys (argBest (λi j=>decide (numAt ys i>numAt ys j)) (ys.size-1))),H,I.kept (t':=tk) hk,#[_,Z],q _ ?_ λa l=>?_]
 ·rw[c,numAt_eq];exact PySem.getD_mem (by rw[Jb,IB];lia)
 ·rw[c]at l
  obtain⟨j,x,rfl⟩:=mem_getD l;rw[Jb,IB]at x;rw[<- numAt_eq];exact w j (by lia)
section
variable{o i value:Φ}{pos pos':Pos}{td ty tv:TE}
theorem qH{k:Nat}(hr:M9 k X.A)(ho:QE X o td)(hi:QE X i ty)(hs:BQ i:=by exactλ_ _=>rfl):QE X (.Subscript o i pos) (CV td ty):=#[Do (by have:=hr.un;lia) ho.h hi.h hs]
theorem Zj{k:Nat}(hr:M9 k X.A)(ho:QE X o td)(hi:QE X i ty)(hv:QE X value tv)(hs:swapsWith value ↑(.Subscript o i pos') pos.line X.env=pure false:=by rfl):
  QS X (.Assign [.Subscript o i pos'] value pos) (Cp td ty tv):=#[D0 (by have:=hr.un;lia) ho.h hi.h hv.h hs]
structure SV(X:Cx)(pos:Pos)(keys:List Υ)(values:Ι)(trs:List (TE×TE)):Prop where
 h:wc X pos keys values trs
theorem Ed:SV X pos [] [] []:=#[Ej]
theorem Z2{k v:Φ}{ks:List Υ}{vs:Ι}{tk tv:TE}{a:List (TE×TE)}(hk:QE X k tk)(hv:QE X v tv)(hr:SV X pos ks vs a):SV X pos (↑k::ks) (v::vs) ((tk,tv)::a):=#[Ba hk.h hv.h hr.h]
theorem DZ{keys:List Υ}{a:Ι}{d:List (TE×TE)}(h:SV X pos keys a d)(c:keys.all (·.isSome)=true:=by rfl)(hl:keys.length=a.length:=by rfl)(f:keys≠[]:=by(intro z;cases z))
  (e:keys.length<=15:=by decide):QE X (.Dict keys a pos) (CQ d):=#[DU h.h c hl f e]
end
theorem mI{k:qN}{v:V}:∀{kvs:List (qN×V)} (i:Nat),kvs[i]? =↑(k,v)->(kvs.map (·.1)).Nodup->QN kvs k=↑v
 | [],i,h,_=>by cases h
 |p::r,0,h,_=>by
  cases JE h
  exact b8 Z
 |p::r,i+1,h,nd=>by
  have h':r[i]? =↑(k,v):=h
  have a:p.1∉r.map (·.1)/\(r.map (·.1)).Nodup:=J4.mp nd
  have c:k∈r.map (·.1):=Jy.mpr #[(k,v),Jp h',Z]
  have ne:p.1≠k:=λz=>a.1 (z▸c)
  rw[cg ne];exact mI i h' a.2
theorem uz{k:qN}{v:V}{kvs:List (qN×V)}(h:k∉kvs.map (·.1)):NM kvs k v=kvs++[(k,v)]:=by
 unfold NM;rw[Jc];intro z;obtain⟨p,a,e⟩:=List.any_eq_true.mp z;exact h (Jy.mpr #[p,a,Jz e])
end L3
namespace L3
open PySem PySem.Spec PyProof.Rows L2
section
variable{X:Cx}{o e:Φ}{apos cpos pos:Pos}{td ty:TE}
theorem rB{k:Nat}(hr:M9 k X.A)(ho:QE X o td)(ha:QE X e ty)(m:M1 X o "get" apos e cpos:=by exact#[Z,Z,Z,Z]):QE X (.Call (.Attribute o "get" apos) [e] [] cpos) (wT td ty):=#[Ca (by have:=hr.un;lia) ho.h ha.h m]
theorem ZQ:QE X (.Dict [] [] pos) wV:=#[BD]
theorem kF{k:Nat}(hr:M9 k X.A)(hi:QE X e ty)(ho:QE X o td)(h1:behindInMarks CmpOp.In o=false:=by rfl):QT X (.Compare e [.In] [o] pos) (iz (Bc ty td)):=#[yt (yn (by have:=hr.un;lia) hi.h ho.h) (h1:=h1)]
theorem cI{k:Nat}(hr:M9 k X.A)(hi:QE X e ty)(ho:QE X o td)(h1:behindInMarks CmpOp.NotIn o=false:=by rfl):QT X (.Compare e [.NotIn] [o] pos) (iz (uc ty td)):=#[yt (xh (by have:=hr.un;lia) hi.h ho.h) (h1:=h1)]
end
structure Kb where
 age:Int
 last:Int
 wt:Option (Int×Int)
abbrev Kw:=List (Str×Kb)
def Wt(H:Hp)(v:V):Option (Int×Int)->Prop
 |none=>v= .non
 |some (x,c)=>∃w,v= .ref w/\H w=↑(.tup [.int x,.int c])
def NV(H:Hp)(a:Δ)(e:Kb):Prop:=∃v,H a=↑(.tup [.int e.age,.int e.last,v])/\Wt H v e.wt
def db(a:Kw)(f:Str->Δ):List (qN×V):=a.map λe=>(Sum.inr e.1,V.ref (f e.1))
def OL(H:Hp)(d:Δ)(a:Kw):Prop:=∃f:Kw×(Str->Δ),H d=↑(.dK (db f.1 f.2))/\(∀e∈a,NV H (f.2 e.1) e.2)/\f.1.Perm a/\(a.map (·.1)).Nodup
def Qw(a:Kw)(nm:Str)(e:Kb):Kw:=if nm∈a.map (·.1)then a.map (λp=>if p.1=nm then(nm,e)else p)else a++[(nm,e)]
theorem Mv.tup{S:Η}{H H':Hp}{a:Δ}{xs:Β}(m:Mv S H H')(n:NT S H)(h:H a=↑(.tup xs)):H' a=↑(.tup xs):=m _ _ (λz=>by
 obtain⟨o,e,no⟩:=n a z;rw[e]at h;cases h;exact no) h
theorem Wt.mv{S:Η}{H H':Hp}{v:V}{o:Option (Int×Int)}(m:Mv S H H')(n:NT S H)(h:Wt H v o):Wt H' v o:=by
 cases o with
 |none=>exact h
 |some p=>obtain⟨w,e,r⟩:=h;exact#[w,e,m.tup n r]
theorem NV.mv{S:Η}{H H':Hp}{a:Δ}{e:Kb}(m:Mv S H H')(n:NT S H)(h:NV H a e):NV H' a e:=by
 obtain⟨v,r,w⟩:=h
 exact#[v,m.tup n r,w.mv m n]
theorem NV.same{H H':Hp}{a:Δ}{e:Kb}(s:MM H H')(h:NV H a e):NV H' a e:=h.mv (S:=[]) s.mv (λc h=>nomatch h)
theorem OL.mv{S:Η}{H H':Hp}{d:Δ}{a:Kw}(m:Mv S H H')(n:NT S H)(hd:d∉S)(h:OL H d a):OL H' d a:=by
 obtain⟨f,r,w,p⟩:=h
 exact#[f,m _ _ hd r,λe c=>(w e c).mv m n,p]
theorem ux(f:Str->Δ)(nm:Str):∀a:Kw,QN (db a f) (Sum.inr nm:qN)=(a.lookup nm).map λ_=>V.ref (f nm)
 | []=>rfl
 |(m,e)::r=>by
  show QN ((Sum.inr m,V.ref (f m))::db r f) (Sum.inr nm)=_
  by_cases q:m=nm
  ·subst q
   rw[b8 Z,MB];rfl
  ·rw[cg (by intro z;injection z with z;exact q z),J9,La (λz=>q z.symm)]
   exact ux f nm r
theorem ac{nm:Str}{e:Kb}:∀{a:Kw},a.lookup nm=↑e->(nm,e)∈a
 |(m,x)::r,h=>by
  rw[J9]at h
  by_cases q:nm=m
  ·subst q
   rw[Ih]at h;cases h;exact JB ..
  ·rw[La q]at h
   exact JC _ (ac h)
theorem Nc{nm:Str}:∀{a:Kw},(a.lookup nm).isSome=true↔nm∈a.map (·.1)
 | []=>by simp
 |(m,x)::r=>by
  rw[J9,JR,Ji]
  by_cases q:nm=m
  ·subst q;simp
  ·rw[La q]
   simp only[q,false_or];exact Nc
theorem ig(a:Kw)(nm:Str)(e:Kb):(Qw a nm e).map (·.1)=if nm∈a.map (·.1)then a.map (·.1)else a.map (·.1)++[nm]:=by
 unfold Qw;split
 ·rw[Ip]
  refine LK λp c=>?_
  simp only[Function.comp]
  by_cases y:p.1=nm
  ·rw[Jd y,y]
  ·rw[Jc y]
 ·rw[JF];rfl
theorem Bk(a:Kw)(nm:Str)(e:Kb):(Qw a nm e).length<=a.length+1:=by
 have:=JL List.length (ig a nm e)
 rw[Jb]at this;rw[this];split
 ·rw[Jb];lia
 ·rw[Jo,Jb];exact Je _
theorem uB{d:Kw}(c:(d.map (·.1)).Nodup)(nm:Str)(e:Kb):((Qw d nm e).map (·.1)).Nodup:=by
 rw[ig];split
 ·exact c
 ·rename_i z
  exact ME.mpr #[c,by simp,λa g b f=>by rw[Jg.mp f];exactλw=>z (w▸g)]
theorem ja{nm:Str}{e:Kb}:∀{d:Kw},(d.map (·.1)).Nodup->d.lookup nm=↑e->∀p∈d,p.1=nm->p=(nm,e)
 | [],_,h,_,a,_=>by cases a
 |(m,x)::r,nd,h,p,a,hn=>by
  have c:m∉r.map (·.1)/\(r.map (·.1)).Nodup:=J4.mp nd
  rw[J9]at h
  by_cases q:nm=m
  ·subst q
   rw[Ih]at h;cases h;rcases Ji.mp a with rfl|a
   ·rfl
   ·exact absurd (Jy.mpr #[p,a,hn]) c.1
  ·rw[La q]at h
   rcases Ji.mp a with rfl|a
   ·exact absurd hn.symm q
   ·exact ja c.2 h p a hn
theorem tf{k0 a:Kw}(pm:k0.Perm a)(d:(a.map (·.1)).Nodup)(nm:Str):k0.lookup nm=a.lookup nm:=by
 cases e:k0.lookup nm with
 |none=>
  cases e':a.lookup nm with
  |none=>rfl
  |some x=>
   have:(k0.lookup nm).isSome=true:=Nc.mpr ((pm.map (·.1)).mem_iff.mpr (Nc.mp (by rw[e'];rfl)))
   rw[e]at this;cases this
 |some x=>
  obtain⟨y,c⟩:∃y,a.lookup nm=↑y:=Li.mp (Nc.mpr (Jy.mpr #[_,pm.mem_iff.mp (ac e),Z]))
  rw[c]
  have:=ja d c _ (pm.mem_iff.mp (ac e)) Z
  cases this;rfl
theorem OL.get{H:Hp}{d:Δ}{c:Kw}(h:OL H d c)(nm:Str):(c.lookup nm=none/\Nd H d (.str nm) none)\/∃e a,c.lookup nm=↑e/\Nd H d (.str nm) ↑(.ref a)/\NV H a e:=by
 obtain⟨⟨k0,f⟩,j,i,pm,l⟩:=h;have g:=Nd.k (k:=Sum.inr nm) j
 rw[ux,tf pm l]at g;cases q:c.lookup nm with
 |none=>rw[q]at g;exact .inl #[Z,g]
 |some e=>rw[q]at g;exact .inr #[e,f nm,Z,g,i _ (ac q)]
theorem oj{k0 a:Kw}(pm:k0.Perm a)(nm:Str)(e:Kb):(Qw k0 nm e).Perm (Qw a nm e):=by
 unfold Qw
 by_cases z:nm∈a.map (·.1)
 ·rw[Jd ((pm.map (·.1)).mem_iff.mpr z),Jd z];exact pm.map _
 ·rw[Jc (λw=>z ((pm.map (·.1)).mem_iff.mp w)),Jc z];exact pm.append_right _
theorem OL.put{H:Hp}{d a:Δ}{l:Kw}{e:Kb}(h:OL H d l)(nm:Str)(hl:l.length<=100)(hb:NV H a e):∃H',OC H d (.str nm) (.ref a) H'/\Mv [d] H H'/\OL H' d (Qw l nm e):=by
 obtain⟨⟨k0,f⟩,t,m,pm,v⟩:=h;have j:(db k0 f).length=l.length:=(Jb _).trans pm.length_eq
 have hk:∀e∈k0,NV H (f e.1) e.2:=λe u=>m e (pm.mem_iff.mp u)
 refine#[_,OC.k (k:=Sum.inr nm) t (by rw[j];exact oY _),Mv.upd1,(Qw k0 nm e,λn=>if n=nm then a else f n),?_,?_,oj pm nm e,uB v nm e]
 ·rw[qa]
  congr 2
  unfold NM Qw db;have s:((k0.map λe=>((Sum.inr e.1:qN),V.ref (f e.1))).any λx=>decide (x.1=(Sum.inr nm:qN)))=true↔nm∈k0.map (·.1):=by
   rw[List.any_eq_true];constructor
   ·rintro⟨p,c,z⟩
    obtain⟨q,g,rfl⟩:=Jy.mp c;have r:(Sum.inr q.1:qN)=Sum.inr nm:=Jz z
    injection r with r
    exact Jy.mpr #[q,g,r]
   ·intro z
    obtain⟨q,g,e⟩:=Jy.mp z
    exact#[_,Jy.mpr #[q,g,Z],Jf (by rw[e])]
  by_cases z:nm∈k0.map (·.1)
  ·rw[Jd (s.mpr z),Jd z,Ip,Ip]
   refine LK λp c=>?_
   simp only[Function.comp]
   by_cases y:p.1=nm
   ·rw[Jd (by rw[y]),Jd y]
    simp [y]
   ·rw[Jc (by intro w;injection w with w;exact y w),Jc y]
    simp [y]
  ·rw[Jc (λw=>z (s.mp w)),Jc z,JF]
   congr 1
   ·refine LK λp c=>?_
    have y:¬p.1=nm:=λw=>z (Jy.mpr #[p,c,w])
    simp [y]
   ·simp
 ·have nt:NT [d] H:=NT.one t trivial
  intro p c;have c:=(oj pm nm e).mem_iff.mpr c;have i:=hb.mv (Mv.upd1 (o:= .dK (NM (db k0 f) (Sum.inr nm) (.ref a)))) nt
  unfold Qw at c;split at c
  ·obtain⟨q,g,rfl⟩:=Jy.mp c
   by_cases y:q.1=nm
   ·rw[Jd y];simp only[Il];exact i
   ·rw[Jc y]
    show NV _ (if q.1=nm then a else f q.1) q.2
    rw[Jc y]
    exact(hk q g).mv Mv.upd1 nt
  ·rename_i z
   rcases Jv.mp c with g|g
   ·have y:¬p.1=nm:=λw=>z (Jy.mpr #[p,g,w])
    show NV _ (if p.1=nm then a else f p.1) p.2
    rw[Jc y]
    exact(hk p g).mv Mv.upd1 nt
   ·rw[Jg.mp g];simp only[Il];exact i
def Ng(K:ι)(H:Hp)(hk:Δ)(c:List Ε):Prop:=∃d:Η,H hk=↑(.lst (d.map V.ref))/\d.length=c.length/\∀(i:Nat) (a:Δ) (ks:Ε),d[i]? =↑a->c[i]? =↑ks->MW K H a (ks.map V.int)
theorem Ng.mv{K:ι}{S:Η}{H H':Hp}{hk:Δ}{c:List Ε}(m:Mv S H H')(n:NT S H)(hd:hk∉S)(h:Ng K H hk c):Ng K H' hk c:=by
 obtain⟨d,e,l,r⟩:=h
 exact#[d,m _ _ hd e,l,λi a ks f g=>m.sqt n (r i a ks f g)]
structure Dr where
 t:Ε
 kss:List Ε
 near:Int
 far:Int
 most:Int
 least:Int
 kn:Kw
def dF(D:Dr)(ta hk bd lg:Δ):List (Str×V):=
 [("table",.ref ta),("house_keys",.ref hk),("near",.int D.near),("far",.int D.far),("most",.int D.most),("least_age",.int D.least),("buttons",.ref bd),("log",.ref lg)]
def dN:Α:=["table","house_keys","near","far","most","least_age","buttons","log"]
theorem Gp:dN.Nodup:=by decide +kernel
theorem oS(D:Dr)(ta hk bd lg:Δ):((dF D ta hk bd lg).map (·.1)).Nodup:=Gp
structure NW(K:ι)(C:Δ):Prop where
 cl:OW K C
 n_table:MY K C "table"
 n_house_keys:MY K C "house_keys"
 n_near:MY K C "near"
 n_far:MY K C "far"
 n_most:MY K C "most"
 n_least_age:MY K C "least_age"
 n_buttons:MY K C "buttons"
 n_log:MY K C "log"
structure MR(K:ι)(C:Δ)(H:Hp)(p ta hk bd lg:Δ)(n:Nat)(D:Dr):Prop where
 ob:∃dx,H p=↑(.ins C dx (dF D ta hk bd lg))
 tb:MW K H ta (D.t.map V.int)
 ks:Ng K H hk D.kss
 kb:OL H bd D.kn
 lo:∃rs:Η,H lg=↑(.lst (rs.map V.ref))/\rs.length<=n
 ne:lg≠hk
section
variable{K:ι}{C:Δ}{H H':Hp}{p ta hk bd lg dx:Δ}{n:Nat}{D:Dr}
theorem MR.has(b:MR K C H p ta hk bd lg n D)(U:NW K C)(i:Nat){f:Str}{v:V}(h:(dF D ta hk bd lg)[i]? =↑(f,v))(a:MY K C f):zX K H p f v:=by
 obtain⟨dx,e⟩:=b.ob
 exact#[C,dx,_,e,U.cl,a,bq i h (oS ..)]
theorem MR.h_table(b:MR K C H p ta hk bd lg n D)(U:NW K C):zX K H p "table" (.ref ta):=b.has U 0 Z U.n_table
theorem MR.h_house_keys(b:MR K C H p ta hk bd lg n D)(U:NW K C):zX K H p "house_keys" (.ref hk):=b.has U 1 Z U.n_house_keys
theorem MR.h_near(b:MR K C H p ta hk bd lg n D)(U:NW K C):zX K H p "near" (.int D.near):=b.has U 2 Z U.n_near
theorem MR.h_far(b:MR K C H p ta hk bd lg n D)(U:NW K C):zX K H p "far" (.int D.far):=b.has U 3 Z U.n_far
theorem MR.h_most(b:MR K C H p ta hk bd lg n D)(U:NW K C):zX K H p "most" (.int D.most):=b.has U 4 Z U.n_most
theorem MR.h_least_age(b:MR K C H p ta hk bd lg n D)(U:NW K C):zX K H p "least_age" (.int D.least):=b.has U 5 Z U.n_least_age
theorem MR.h_buttons(b:MR K C H p ta hk bd lg n D)(U:NW K C):zX K H p "buttons" (.ref bd):=b.has U 6 Z U.n_buttons
theorem MR.h_log(b:MR K C H p ta hk bd lg n D)(U:NW K C):zX K H p "log" (.ref lg):=b.has U 7 Z U.n_log
theorem MR.no(b:MR K C H p ta hk bd lg n D){m:Str}(h:m∉dN:=by decide +kernel):wg C H p m:=by
 obtain⟨dx,e⟩:=b.ob
 exact#[dx,_,e,cA h]
theorem MR.mv{S:Η}(b:MR K C H p ta hk bd lg n D)(m:Mv S H H')(nt:NT S H)(hp:p∉S)(c:hk∉S)(hb:bd∉S)(hl:lg∉S):MR K C H' p ta hk bd lg n D:=by
 obtain⟨dx,e⟩:=b.ob;obtain⟨rs,a,l⟩:=b.lo
 exact#[#[dx,m _ _ hp e],m.sqt nt b.tb,b.ks.mv m nt c,b.kb.mv m nt hb,#[rs,m _ _ hl a,l],b.ne]
theorem MR.same(b:MR K C H p ta hk bd lg n D)(s:MM H H'):MR K C H' p ta hk bd lg n D:=b.mv (S:=[]) s.mv (λc h=>nomatch h) (λh=>nomatch h) (λh=>nomatch h) (λh=>nomatch h) (λh=>nomatch h)
end
inductive SL (x:V) (y:V) (H:Hp) (Q:VK):Prop
 |mk (o:Option (Int×Int)) (b:Δ) (a c:Int) (h1:Wt H x o) (h2:y= .ref b) (h3:Rd H b (.tup [.int a,.int c])) (h4:Q (.bl (decide (o=↑(a,c)))) H)
def Hq:R2:=λx y H Q=>SL x y H Q
theorem ER{X:Cx}{k:Nat}(hr:M9 k X.A):zT X (compareOp .Eq) Hq:=by
 intro tx s σ H x y v u Q I C P h;obtain⟨o,b,a,c,D,rfl,L,q⟩:=h;cases P;obtain⟨g,E,p2,_⟩:=I.tuple (.inl L)
 have B:X.A.units<cLine:=by have:=hr.un;lia
 cases o with
 |none=>
  have i:x= .non:=D
  subst i;cases C;rw[Jq (by intro z;cases z)]at q
  exact SeqAt.RcAt.none_tuple p2 B _ _ _ _ #[.bl false,H,I,Z,q]
 |some pr=>
  obtain⟨m,n⟩:=pr;obtain⟨w,rfl,i⟩:=D;cases C;obtain⟨l,F,N,_⟩:=I.tuple (.inl (.inl i))
  have p:=F.length;have r:=E.length;have G:=SeqAt.RcAt.tuples (A:=X.A) (e:=λj=>[m,n].getD j 0==[a,c].getD j 0) (show s.heap.IsTuple w l.toArray from N) (show s.heap.IsTuple b g.toArray from p2) B (λj h1 K=>by
   have f:j<l.length:=by simpa using h1
   have d:j<g.length:=by simpa using K
   obtain⟨t,e⟩:=uG (ns:=[m,n]) F j f (by rw[<- p]at f;exact f)
   obtain⟨R,O⟩:=uG (ns:=[a,c]) E j d (by rw[<- r]at d;exact d)
   simp only[List.getElem_toArray,e,O,JO,Jk (show j<[m,n].length by rw[<- p]at f;exact f),Jk (show j<[a,c].length by rw[<- r]at d;exact d),Lm]
   exact SeqAt.EqAt.int_int _ _ _ _)
  have M:l.toArray.size=2:=by rw[JA,<- p];rfl
  have J:g.toArray.size=2:=by rw[JA,<- r];rfl
  refine G _ _ _ _ #[.bl _,H,I,?_,q]
  show Γ.bool _=Γ.bool _
  congr 1
  rw[M,J,show min 2 2=([m,n]:Ε).length from Z,BL [m,n] [a,c] Z]
  simp
def vS(c l n f:Int):Str:=if c<=l then "old" else if c<=l+n then "near" else if c<=l+f then "far" else "beyond"
inductive Rp (vs:Β) (H:Hp) (Q:VK):Prop
 |mk (c l n f:Int) (h1:vs=[.int c,.int l,.int n,.int f]) (h2:Q (.str (vS c l n f)) H)
def uD:Sp:=λa H Q _=>Rp a H Q
def Zt(a d:Int)(e:Kb)(age c:Int):Str×Kb:=
 if c<=e.last then("old",e)else if c<=e.last+a then("near",#[age,c,none])
 else if c<=e.last+d then(if e.wt=↑(age,c-1)then("near",#[age,c,none])else("far",#[e.age,e.last,↑(age,c)]))else("beyond",e)
inductive Rq (vs:Β) (H:Hp) (Q:VK):Prop
 |mk (a:Δ) (e:Kb) (age c near far:Int) (h1:vs=[.ref a,.int age,.int c,.int near,.int far]) (h2:NV H a e) (h3:∀q a' H',MM H H'->H' q=↑(.tup [.str (Zt near far e age c).1,.ref a'])->NV H' a' (Zt near far e age c).2->Q (.ref q) H')
def tK:Sp:=λa H Q _=>Rq a H Q
def ZK(D:Dr)(age:Int):Bool:=decide (D.least<=age)&&decide (age<D.kss.length)
def af(D:Dr)(e:Kb)(age:Int):Bool:=ZK D age&&decide (e.age<=age)
def Qr(D:Dr)(nm:Str)(age:Int)(r:Option (Int×Int)):Β×Kw:=
 match D.kn.lookup nm with
 |none=>([.str "held",.str "unknown"],D.kn)
 |some e=>if af D e age=true then(match r with
   |none=>([.str "held",.str "false"],D.kn)
   |some (c,d)=>if(Zt D.near D.far e age c).1="near" then([.str "open",.str nm,.int d],Qw D.kn nm (Zt D.near D.far e age c).2)else([.str "held",.str (Zt D.near D.far e age c).1],Qw D.kn nm (Zt D.near D.far e age c).2))
  else([.str "held",.str "age"],D.kn)
structure OX(D:Dr):Prop where
 tp:D.t.Perm Nt
 l0:0<=D.least
 kl:D.kss.length<=8
 nl:D.kn.length<=60
 nd:(D.kn.map (·.1)).Nodup
section
variable(K:ι)(C:Δ)
inductive Rr (vs:Β) (H:Hp) (Q:VK):Prop
 |mk (p ta hk bd lg:Δ) (n:Nat) (D:Dr) (h1:vs=[.ref p]) (h2:MR K C H p ta hk bd lg n D) (h3:Q (.bl (decide (D.most<=(D.kn.length:Int)))) H)
def mh:Sp:=λa H Q _=>Rr K C a H Q
inductive PU (vs:Β) (H:Hp) (Q:VK):Prop
 |mk (p ta hk bd lg:Δ) (n:Nat) (D:Dr) (age:Int) (h1:vs=[.ref p,.int age]) (h2:MR K C H p ta hk bd lg n D) (h3:Q (.bl (ZK D age)) H)
def fH:Sp:=λa H Q _=>PU K C a H Q
inductive Rt (vs:Β) (H:Hp) (Q:VK):Prop
 |mk (p ta hk bd lg a:Δ) (n:Nat) (D:Dr) (e:Kb) (age:Int) (h1:vs=[.ref p,.ref a,.int age]) (h2:MR K C H p ta hk bd lg n D) (h3:NV H a e) (h4:Q (.bl (af D e age)) H)
def mD:Sp:=λa H Q _=>Rt K C a H Q
inductive So (vs:Β) (H:Hp) (Q:VK):Prop
 |mk (p ta hk bd lg:Δ) (n:Nat) (D:Dr) (nm:Str) (h1:vs=[.ref p,.str nm]) (h2:MR K C H p ta hk bd lg n D) (h3:(D.kn.lookup nm=none->Q .non H)) (h4:(∀e a,D.kn.lookup nm=↑e->NV H a e->Q (.ref a) H))
def vY:Sp:=λa H Q _=>So K C a H Q
inductive Ru (vs:Β) (H:Hp) (Q:VK):Prop
 |mk (p ta hk bd lg a:Δ) (n:Nat) (D:Dr) (e:Kb) (age c:Int) (h1:vs=[.ref p,.ref a,.int age,.int c]) (h2:MR K C H p ta hk bd lg n D) (h3:NV H a e) (h4:af D e age=true) (h5:∀q a' H',MM H H'->H' q=↑(.tup [.str (Zt D.near D.far e age c).1,.ref a'])->NV H' a' (Zt D.near D.far e age c).2->Q (.ref q) H')
def uj:Sp:=λa H Q _=>Ru K C a H Q
def Nj(H:Hp)(pr:Δ)(nm:Str)(age:Int)(ds:Ε):Prop:=∃a,H pr=↑(.tup [.str nm,.int age,.ref a])/\H a=↑(.tup (ds.map V.int))
def aq(D:Dr)(age:Int):Ε:=D.kss.getD age.toNat []
inductive Pa (vs:Β) (H:Hp) (Q:VK):Prop
 |mk (p ta hk bd lg pr:Δ) (n:Nat) (D:Dr) (nm:Str) (age:Int) (ds:Ε) (h1:vs=[.ref p,.ref pr]) (h2:MR K C H p ta hk bd lg n D) (h3:OX D) (h4:Nj H pr nm age ds) (h5:Zq nm) (h6:ds.length=5) (h7:zZ ds) (h8:∀q H',Mv [bd] H H'->H' q=↑(.tup (Qr D nm age (aF D.t (aq D age) nm ds)).1)->MR K C H' p ta hk bd lg n {D with kn:=(Qr D nm age (aF D.t (aq D age) nm ds)).2}->Q (.ref q) H')
def nM:Sp:=λa H Q _=>Pa K C a H Q
end
theorem Nj.mv{S:Η}{H H':Hp}{pr:Δ}{nm:Str}{age:Int}{ds:Ε}(m:Mv S H H')(n:NT S H)(h:Nj H pr nm age ds):Nj H' pr nm age ds:=by
 obtain⟨c,a,d⟩:=h
 exact#[c,m.tup n a,m.tup n d]
theorem Nj.same{H H':Hp}{pr:Δ}{nm:Str}{age:Int}{ds:Ε}(s:MM H H')(h:Nj H pr nm age ds):Nj H' pr nm age ds:=by
 obtain⟨c,a,d⟩:=h
 exact#[c,s _ _ a,s _ _ d]
theorem nR{X:Cx}:zT X (compareOp .LtE) (λx y H Q=>∃i j,x= .str i/\y= .str j/\Q (.bl (! decide (j.cps.toList<i.cps.toList))) H):=by
 intro tx s σ H x y v u Q I a c h;obtain⟨i,j,rfl,rfl,q⟩:=h;obtain⟨t,rfl⟩:=a;obtain⟨d,rfl⟩:=c;exact PySem.P.le_str (zf I q Z)
theorem AA{js:Μ}{te:TE}{σ:L2.St}{H:Hp}{Q:VK}{x:Str}(hn:x.cps.size<=ζ)(Pv:Nat->Β->Hp->Prop)(e:Pv 0 [] H)
  (hs:∀i ys H c,x.cps[i]? =↑c->ys.length=i->Pv i ys H->te (↑(.str #[(List.toArray [c])])::QD js σ) H λv H3=>Pv (i+1) (ys++[v]) H3)
  (hd:∀ys H,ys.length=x.cps.size->Pv x.cps.size ys H->∀p,H p=none->Q (.ref p) (MO H p (.lst ys))):a6 (Ci x) js te σ H Q:=
 eZ hn (λi v=>∃c,x.cps[i]? =↑c/\v= .str #[(List.toArray [c])]) Pv e (λi ys H hi p=>hi) (λys H p=>Je _) (λi ys H v H' _ p y=>y) (λi ys H v hi f p d=>by
  obtain⟨c,a,rfl⟩:=d;exact hs i ys H c a f p) hd
theorem AI{ds:Ε}(h:zZ ds):(ds.map V.int).all fm=true:=by
 rw[Iz];intro x a;obtain⟨i,hi,rfl⟩:=Jy.mp a
 have:=h i hi
 show(decide (0<=i)&&decide (i<16))=true
 rw[Jf this.1,Jf this.2];rfl
theorem Ql{c:Bool}{a b:Prop}(h:c=true)(x:a):if c=true then a else b:=by rw[Jd h];exact x
theorem Qd{c:Bool}{a b:Prop}(h:c=false)(x:b):if c=true then a else b:=by rw[Jc (by rw[h];intro z;cases z)];exact x
theorem Zm{K:ι}{C p dx:Δ}{H:Hp}{fs:List (Str×V)}{f:Str}{v:V}(c:OW K C)(e:H p=↑(.ins C dx fs))(n:MY K C f)(i:Nat)(a:fs.map (·.1)=dN.take i:=by rfl)(hn:f∉dN.take i:=by decide +kernel):
  cn K H p f v (MO H p (.ins C dx (fs++[(f,v)]))):=#[C,dx,fs,e,c,n,by
  have h1:fs.length=(dN.take i).length:=by rw[<- a,Jb]
  have d:(dN.take i).length<=8:=by rw[Ie];exact L6 _ _
  lia,by rw[fj (by rw[a];exact hn)]]
theorem Ng.same{K:ι}{H H':Hp}{b:Δ}{a:List Ε}(s:MM H H')(h:Ng K H b a):Ng K H' b a:=h.mv (S:=[]) s.mv (λc h=>nomatch h) (λh=>nomatch h)
theorem Mv.nfree{S:Η}{H H':Hp}{x:Δ}(m:Mv S H H')(hn:x∉S)(h:H' x=none):H x=none:=by
 cases e:H x with
 |none=>rfl
 |some o=>rw[m x o hn e]at h;cases h
theorem Ng.at{K:ι}{H:Hp}{hk:Δ}{D:Dr}{age:Int}(h:Ng K H hk D.kss)(f:0<=age)(h1:age<D.kss.length):∃(xs:Β) (d:Δ),H hk=↑(.lst xs)/\Q2 xs age=↑(.ref d)/\MW K H d ((aq D age).map V.int):=by
 obtain⟨c,e,l,r⟩:=h;obtain⟨i,rfl⟩:∃i:Nat,age=(i:Int):=#[age.toNat,by lia]
 have hi:i<D.kss.length:=by lia
 have a:i<c.length:=by lia
 refine#[_,c[i],e,zV (by rw[Jm,Jk a];rfl),?_]
 have:=r i c[i] D.kss[i] (Jk a) (Jk hi)
 unfold aq;rw[LH,JO,Jk hi];exact this
theorem mU{D:Dr}{e:Kb}{age:Int}(h:af D e age=true)(c:0<=D.least):0<=age/\age<D.kss.length:=by
 unfold af ZK at h;rw[JU,JU]at h;have h1:=Jz h.1.1;have a:=Jz h.1.2;lia
theorem MR.putK{K:ι}{C:Δ}{H H':Hp}{p ta hk bd lg:Δ}{n:Nat}{D:Dr}{a:Kw}(b:MR K C H p ta hk bd lg n D)(m:Mv [bd] H H')(g:OL H' bd a):MR K C H' p ta hk bd lg n {D with kn:=a}:=by
 obtain⟨dx,e⟩:=b.ob;obtain⟨f,c,_⟩:=b.kb;obtain⟨rs,d,l⟩:=b.lo;obtain⟨i,h,_⟩:=id b.ks;have nt:NT [bd] H:=NT.one c trivial
 exact#[#[dx,m _ _ (zu (zr e c (by intro z;cases z))) e],m.sqt nt b.tb,b.ks.mv m nt (zu (zr h c (by intro z;cases z))),g,#[rs,m _ _ (zu (zr d c (by intro z;cases z))) d,l],b.ne]
theorem MR.putL{K:ι}{C:Δ}{H:Hp}{p ta hk bd lg r:Δ}{n:Nat}{D:Dr}{rs:Η}(b:MR K C H p ta hk bd lg n D)(a:H lg=↑(.lst (rs.map V.ref)))(hl:rs.length<=n):MR K C (MO H lg (.lst (rs.map V.ref++[.ref r]))) p ta hk bd lg (n+1) D:=by
 obtain⟨dx,e⟩:=b.ob;obtain⟨f,c,_⟩:=id b.kb;have nt:NT [lg] H:=NT.one a trivial
 have m:Mv [lg] H (MO H lg (.lst (rs.map V.ref++[.ref r]))):=Mv.upd1
 exact#[#[dx,m _ _ (zu (zr e a (by intro z;cases z))) e],m.sqt nt b.tb,b.ks.mv m nt (zu b.ne.symm),b.kb.mv m nt (zu (zr c a (by intro z;cases z))),#[rs++[r],by rw[qa,JF];rfl,by rw[Jo];exact F0 hl],b.ne]
theorem Px.pair{H:Hp}{a b:Δ}{z:Str}{i:Int}(h1:H a=↑(.tup [.str z,.int i]))(h2:H b=↑(.tup [.str z,.int i])):Px H 1 (.ref a) (.ref b):=
 .tup (n:=0) (.inl h1) (.inl h2) Z λj x y ex c=>by
  match j,ex,c with
  |0,ex,c=>cases ex;cases c;exact .str _ _
  |1,ex,c=>cases ex;cases c;exact .int _ _
  |j+2,ex,c=>cases ex
abbrev Cm(a b:Str):Prop:=a.cps.toList<=b.cps.toList
theorem Fz{a b:Str}(h:ltCps b.cps.toList a.cps.toList=false):Cm a b:=by
 rw[ltCps_eq]at h;exact List.not_lt.mp (of_decide_eq_false h)
theorem nh:∀{l:Α} {p:Str},risingS p l=true->(p::l).Pairwise Cm
 | [],p,_=>by simp
 |x::r,p,h=>by
  have h':(! ltCps x.cps.toList p.cps.toList&&risingS x r)=true:=h
  rw[JU,MF]at h';have d:=nh h'.2;have a:=Fz h'.1;refine List.pairwise_cons.mpr #[λy c=>?_,d]
  rcases Ji.mp c with rfl|c
  ·exact a
  ·exact List.le_trans a ((List.pairwise_cons.mp d).1 y c)
theorem lm{l:Α}(h:sortedS l=true):l.Pairwise Cm:=by
 cases l with
 |nil=>exact .nil
 |cons x r=>exact nh h
theorem sT{l a b:Α}(h:a.Perm l)(f:sortedS a=true)(d:b.Perm l)(g:sortedS b=true):a=b:=by
 refine List.Perm.eq_of_pairwise (le:=Cm) (λx y _ _ h1 c=>?_) (lm f) (lm g) (h.trans d.symm)
 have e:x.cps.toList=y.cps.toList:=List.le_antisymm h1 c
 cases x with
 |mk u=>cases y with
  |mk v=>
   have:u=v:=Array.toList_inj.mp e
   rw[this]
def Pb(H:Hp)(q:Δ)(d:Α)(f:Kw):Prop:=∃c:Η,H q=↑(.tup (c.map V.ref))/\c.length=d.length/\∀(i:Nat) (a:Δ) (nm:Str) (e:Kb),c[i]? =↑a->d[i]? =↑nm->f.lookup nm=↑e->∃v,H a=↑(.tup [.str nm,.int e.age,.int e.last,v])/\Wt H v e.wt
inductive PV (K:ι) (C:Δ) (vs:Β) (H:Hp) (Q:VK):Prop
 |mk (p ta hk bd lg:Δ) (n:Nat) (D:Dr) (h1:vs=[.ref p]) (h2:MR K C H p ta hk bd lg n D) (h3:OX D) (h4:∀q ss H',MM H H'->ss.Perm (D.kn.map (·.1))->sortedS ss=true->Pb H' q ss D.kn->Q (.ref q) H')
def jr(K:ι)(C:Δ):Sp:=λa H Q _=>PV K C a H Q
theorem Dc{X:Cx}{K:ι}{e:Φ}{f:Str}{pos:Pos}{ta:TE}(a:X.K=K)(he:QE X e ta)(hb:attributeBase e f X.env (eval e X.env)=eval e X.env:=by rfl):QE X (.Attribute e f pos) (CG K ta f):=by
 subst a;exact qz he hb
theorem Dm(a:Kw)(f:Str->Δ):(db a f).map (·.1)=(a.map (·.1)).map Sum.inr:=by
 unfold db;rw[Ip,Ip];rfl
theorem ZM{a:Kw}{nm:Str}(h:nm∈a.map (·.1)):∃e,a.lookup nm=↑e:=Li.mp (Nc.mpr h)
theorem rp:∀(a kvs:List (qN×V)),((kvs++a).map (·.1)).Nodup->av kvs a=kvs++a
 | [],kvs,_=>by simp [av]
 |p::r,kvs,nd=>by
  have c:p.1∉kvs.map (·.1):=λz=>by
   rw[JF,JR]at nd
   exact(ME.mp nd).2.2 _ z _ (JB ..) Z
  show av (NM kvs p.1 p.2) r=_
  rw[uz c,rp r (kvs++[(p.1,p.2)]) (by rw[Md];exact nd),Md]
  rfl
theorem ko{a:Kw}{nm:Str}{e x:Kb}(h:a.lookup nm=↑e):(Qw a nm x).map (·.1)=a.map (·.1):=by
 rw[ig,Jd (Nc.mp (by rw[h];rfl))]
end L3
namespace L2
open PySem PySem.Spec PyProof.Rows
section
variable{X:Cx}{tx:ML}{σ:St}{H:Hp}{s:Θ}{a:Δ}{kvs:List (qN×V)}{A:Around}{E:MJ}
theorem Bf{Q:MJ}(I:MQ X tx σ H s)(e:Rd H a (.dK kvs))(h:∀p s',H p=none->MQ X tx σ (MO H p (.dK kvs)) s'->Q (.ref p) s'):ε (model X.prog X.w) A (call (.type "dict") [.ref a]) Q E s:=by
 obtain⟨z,g,j,c,dd⟩:=bQ I.hok e;refine kt_call_dict g dd (by rw[<- c.length];exact z) λh' d i=>?_
 refine h _ _ (I.hok.fresh (Je _)) (I.laid (a:=s.heap.objs.size) (o:= .dK kvs) (t':=s.toks) (λb q f=>?_) (Je _) (sI z (Lf.mpr (Ne.symm (Ju I.big))) c d))
 exact(i.2 b (Ju (Jl f))).trans (Jj _ f)
end
end L2
namespace L3
open PySem PySem.Spec PyProof.Rows L2
theorem vQ{X:Cx}:zx X (.type "dict") (λxs H Q=>∃(d:Δ) (kvs:List (qN×V)),xs=[.ref d]/\H d=↑(.dK kvs)/\∀p,H p=none->Q (.ref p) (MO H p (.dK kvs))):=by
 intro tx s σ H xs g Q I r h;obtain⟨d,kvs,rfl,a,q⟩:=h;obtain⟨u,rfl,c⟩:=Qz r;cases c;exact Bf I (.inl a) λp s' f e=>#[.ref p,_,e,Z,q p f]
theorem MR.setF{K:ι}{C:Δ}{H:Hp}{p dx:Δ}{fs:List (Str×V)}{f:Str}{u v:V}(i:Nat)(c:OW K C)(a:MY K C f)(e:H p=↑(.ins C dx fs))(hf:fs[i]? =↑(f,u))(d:(fs.map (·.1)).Nodup)(hl:fs.length<1000):
  cn K H p f v (MO H p (.ins C dx (fs.set i (f,v)))):=#[C,dx,fs,e,c,a,hl,by rw[lL i hf d]]
theorem _root_.L2.MM.put{H H1:Hp}{x:Δ}{o:HO}(s:MM H H1)(h:H x=none):MM H (MO H1 x o):=λc u e=>by
 rw[qk (qr e h)];exact s c u e
section
variable{K:ι}{C:Δ}{H:Hp}{p ta hk bd lg dx:Δ}{D:Dr}
theorem nP(U:NW K C)(e:H p=↑(.ins C dx (dF D ta hk bd lg)))(z:Int):cn K H p "least_age" (.int z) (MO H p (.ins C dx (dF {D with least:=z} ta hk bd lg))):=MR.setF 5 U.cl U.n_least_age e Z (oS ..) (by show 8<1000;decide)
theorem tH(U:NW K C)(e:H p=↑(.ins C dx (dF D ta hk bd lg)))(x:Δ):cn K H p "buttons" (.ref x) (MO H p (.ins C dx (dF D ta hk x lg))):=MR.setF 6 U.cl U.n_buttons e Z (oS ..) (by show 8<1000;decide)
theorem Du(U:NW K C)(e:H p=↑(.ins C dx (dF D ta hk bd lg)))(x:Δ):cn K H p "log" (.ref x) (MO H p (.ins C dx (dF D ta hk bd x))):=MR.setF 7 U.cl U.n_log e Z (oS ..) (by show 8<1000;decide)
end
theorem p9{x:V}{r:Β}:Q2 (x::r) 0=↑x:=zV (j:=0) Z
theorem v7{σ:L2.St}{H:Hp}{f b c:L2.St->Hp->Prop}{r:VK}(h:f σ H):(Nq.mk f r b c).nx σ H:=h
theorem sk(z:Str):∀a:Α,CO (.str z) (a.map V.str)=decide (z∈a)
 | []=>rfl
 |x::r=>by
  show(di (.str x) (.str z)||CO (.str z) (r.map V.str))=_
  rw[sk z r]
  by_cases h:z=x
  ·subst h
   rw[Jf (JB ..),show di (V.str z) (V.str z)=true from by simp [di]];rfl
  ·have c:di (V.str x) (V.str z)=false:=by simp [di,Ne.symm h]
   rw[c,Bool.false_or];exact decide_eq_decide.mpr #[λw=>JC _ w,λw=>(Ji.mp w).resolve_left h]
theorem wo(a:Α):(a.map V.str).all bJ=true:=by
 rw[Iz];intro v c;obtain⟨z,_,rfl⟩:=Jy.mp c;rfl
theorem Pb.same{H H':Hp}{q:Δ}{d:Α}{f:Kw}(h:Pb H q d f)(s:MM H H'):Pb H' q d f:=by
 obtain⟨g,e,l,r⟩:=h
 exact#[g,s _ _ e,l,λi a nm x m n j=>let⟨v,a1,a2⟩:=r i a nm x m n j;#[v,s _ _ a1,a2.mv (S:=[]) s.mv (λc h=>nomatch h)]]
theorem MR.putLeast{K:ι}{C:Δ}{H:Hp}{p ta hk bd lg:Δ}{n:Nat}{D:Dr}(b:MR K C H p ta hk bd lg n D)(U:NW K C)(z:Int):∃dx,cn K H p "least_age" (.int z) (MO H p (.ins C dx (dF {D with least:=z} ta hk bd lg)))/\Mv [p] H (MO H p (.ins C dx (dF {D with least:=z} ta hk bd lg)))/\MR K C (MO H p (.ins C dx (dF {D with least:=z} ta hk bd lg))) p ta hk bd lg n {D with least:=z}:=by
 obtain⟨dx,e⟩:=b.ob;obtain⟨f,c,_⟩:=id b.kb;obtain⟨rs,a,l⟩:=b.lo;obtain⟨g,d,_⟩:=id b.ks;have nt:NT [p] H:=NT.one e trivial
 have m:Mv [p] H (MO H p (.ins C dx (dF {D with least:=z} ta hk bd lg))):=Mv.upd1
 exact#[dx,nP U e z,m,#[dx,qa],m.sqt nt b.tb,b.ks.mv m nt (zu (zr d e (by intro z;cases z))),b.kb.mv m nt (zu (zr c e (by intro z;cases z))),#[rs,m _ _ (zu (zr a e (by intro z;cases z))) a,l],b.ne]
def li(o:Obj):Obj:={o with data:= .freed}
def am(h:Ψ):Η->Ψ
 | []=>h
 |a::S=>(am h S).update a li
theorem BR(h:Ψ)(a:Δ):(h.update a li).get? a=none:=by
 obtain⟨c,l⟩:=h
 show(match(c.modify a li)[a]? with|some ⟨_,_,.freed,_⟩=>none|o=>o)=none
 rw[Array.getElem?_modify];simp only[Il];cases c[a]? with
 |none=>rfl
 |some o=>rfl
theorem QB{h:Ψ}{b:Δ}:∀{S:Η},b∈S->(am h S).get? b=none
 |a::S,m=>by
  show((am h S).update a li).get? b=none
  by_cases e:a=b
  ·subst e;exact BR _ _
  ·rw[Iy _ _ e]
   rcases Ji.mp m with z|z
   ·exact absurd z.symm e
   ·exact QB z
theorem Z9{h:Ψ}{b:Δ}:∀{S:Η},b∉S->(am h S).get? b=h.get? b
 | [],_=>rfl
 |a::S,m=>by
  show((am h S).update a li).get? b=h.get? b
  rw[Iy _ _ (λe=>m (by rw[e];exact JB ..))]
  exact Z9 λz=>m (JC _ z)
theorem eL{h:Ψ}{b:Δ}{o:Obj}{S:Η}(e:(am h S).get? b=↑o):b∉S/\h.get? b=↑o:=by
 by_cases z:b∈S
 ·rw[QB z]at e;cases e
 ·rw[Z9 z]at e;exact#[z,e]
theorem aD{h B B':Ψ}:∀{l:Ο},h.FunFrames B l->(∀b∈Qp l,B'.get? b=none)->h.FunFrames B' l
 | [],_,_=>trivial
 |env::r,⟨k,⟨L,o,hf,a,ho,hn⟩,t⟩,q=>by
  have e:Qp (env::r)=L::Qp r:=by unfold Qp;rw[List.filterMap_cons_some hf]
  rw[e]at q
  exact#[k,#[L,o,hf,q L (JB ..),ho,hn],aD t λb a=>q b (JC _ a)]
theorem M3.got{P:Ξ}{w:Ω}{H:Hp}{h:Ψ}{a:Δ}{o:HO}(x:M3 P w H h a o):∃u,h.get? a=↑u:=by
 cases o with
 |lst xs=>obtain⟨_,_,_,_,e⟩:=x;exact#[_,e]
 |tup xs=>obtain⟨_,_,_,c,e,_⟩:=x;exact#[_,e]
 |dK kvs=>obtain⟨_,_,_,_,o,_,_,e,_⟩:=x;exact#[_,e]
 |dT kvs=>obtain⟨_,_,_,_,o,_,_,e,_⟩:=x;exact#[_,e]
 |set S n=>obtain⟨o,_,_,_,e,_⟩:=x;exact#[_,e]
 |ins C dx fs=>obtain⟨_,_,_,e,_⟩:=x;exact#[_,e]
 |own y=>exact x
 |xd fs=>obtain⟨_,⟨_,_,_,e,_⟩,_⟩:=x;exact#[_,e]
 |rng lo hi=>obtain⟨_,_,_,e⟩:=x;exact#[_,e]
 |frz c u=>obtain⟨e,_⟩:=x;exact#[_,e]
 |tbl ps=>exact#[_,x]
 |met f y=>exact#[_,x]
 |ext φ=>obtain⟨_,e,_⟩:=x;exact e
theorem NS.none{P:Ξ}{w:Ω}{H:Hp}{h:Ψ}{a:Δ}(x:NS P w H h)(e:h.get? a=none):H a=none:=by
 cases q:H a with
 |none=>rfl
 |some u=>
  obtain⟨v,c⟩:=M3.got (x a u q)
  rw[e]at c;cases c
def aL(K:ι)(C:Δ)(bm bmB:Ζ)(newId:String):Bool:=match K.lookup C with
 |some ⟨.type "type",_,.cls cd,sl⟩=>(match sl.toList with
  | [_,_,_,_,↑(.builtin n),_]=>cd.mro== .ref C::bm&&n==newId&& ! cd.hasDel&&PySem.W.tailIn K bmB bm&&PySem.W.nsOkIn K cd.ns&&PySem.W.nsIn K cd.ns "__init__"==↑none
  |_=>false)
 |_=>false
theorem sG{K:ι}{h:Ψ}{C:Δ}{bm bmB:Ζ}{newId:String}(X:K.In h)(q:aL K C bm bmB newId=true):
  ∃N nm e bs hdct sn sub ab col dd k0 k1 k2 k3 k5 i,h.get? C=↑(excClassObj nm e C N bs bm hdct sn sub ab col dd k0 k1 k2 k3 k5 newId)/\h.Ns N i/\i "__init__"=none/\OwnTail h bmB bm:=by
 unfold aL at q;split at q
 ·rename_i dd t o r
  split at q
  ·rename_i k0 k1 k2 k3 n k5 g
   simp only[JU,Ic,MF]at q;obtain⟨⟨⟨⟨⟨f,rfl⟩,a⟩,j⟩,c⟩,d⟩:=q;obtain⟨nm,bs,p,s,e,m,sn,sub,ab,col,u⟩:=t
   dsimp only at f a c d
   subst f a;obtain⟨l⟩:=o;simp only at g
   subst g
   exact#[s,nm,e,bs,m,sn,sub,ab,col,dd,k0,k1,k2,k3,k5,_,X _ _ r,.of_isNs (W.isNs_of_in X c),W.nsMap_none_of_in X c d,W.tail_of_in X j]
  ·cases q
 ·cases q
abbrev TX:=Nq->(L2.St->Δ->Hp->Prop)->L2.St->Hp->Prop
theorem eE{X:Cx}{tx:ML}{σ:L2.St}{H:Hp}{s:Θ}{M:Model}{A:Around}{E:MJ}{i:Nat}{x:Str}{pos:Pos}{Q:Unit->Θ->Prop}(I:L2.MQ X tx σ H s)(hN:X.N.Nodup)(hi:X.N[i]? =↑x)(hk:X.env.kindOf x=some .local)
  (h:∀s',L2.MQ X tx (σ.set i none) H s'->Q () s'):ε M A (do bindName X.env x .none;unbindBehindTheSuite X.env x pos) Q E s:=by
 obtain⟨m,T,R⟩:=id I.loc;have r:(X.env.scope.kind== .class||(X.env.scope.kind== .module&&X.env.locals != X.env.globals))=false:=by rw[I.ok.kind];rfl
 have u:i<σ.length:=by rw[I.len];exact(Jt.mp hi).1
 have cne:=I.cne;have d:∀{a:Δ} {h':Ψ},H a=none->Ψ.SameBut a s.heap h'->NS X.prog X.w H h':=λ{a h'} f g b N e=>by
  refine(I.hok b N e).stay (λc w' w q=>(g.2 c ?_).trans q) (λ_ q=>q) λ_ _ q=>q
  rintro rfl
  rcases w with rfl|w
  ·rw[f]at e;cases e
  ·rw[f]at w;cases w
 refine wpAny_nameGoes_keeps hk T r λh' v C g=>?_
 have lo:∀b o,X.s₀.heap.get? b=↑o->b≠X.env.locals:=λb o e=>Ju (JN (Jl e) I.ok.above)
 refine h _ #[I.ok,I.os,I.bare,#[λb o e n F t=>(g.2 b (lo b o e)).trans (I.base.keep b o e n F t),λb o e n F t=>?_,I.base.free,λb o e t=>?_,I.base.tups,I.base.frzs,I.base.tbls],#[_,C,λj y D l B O=>?_],λy c e=>?_,I.free,I.freeC,λp S=>?_,d I.free g,by simpa using I.len]
 ·obtain⟨W,l⟩:=I.base.slot b o e n F t
  exact#[W,(g.2 b (lo b o e)).trans l]
 ·obtain⟨o',l⟩:=I.base.there b o e t
  exact#[o',(g.2 b (lo b o e)).trans l]
 ·by_cases G:j=i
  ·subst G
   rw[LY u]at B;cases B
  ·rw[LZ (Ne.symm G)]at B
   obtain⟨P,Y,q⟩:=R j y D l B O;refine#[P,Y,?_]
   rcases q with⟨k,e⟩|⟨k,c,e,z⟩
   ·refine .inl #[k,?_]
    have:y≠x:=λe=>G (jo hN l (e▸hi))
    simp [this,e]
   ·exact .inr #[k,c,e,z.sameBut g (cne y c e)]
 ·obtain⟨D,z⟩:=I.cell y c e
  exact#[D,z.sameBut g (cne y c e)]
 ·obtain⟨U,p2,J,L,K⟩:=I.pin p S
  exact#[(g.2 _ J).trans U,p2,J,L,K]
theorem lG{M:Model}{A:Around}{E:MJ}{nm q s O:Str}{C N j D:Δ}{bs bm w c:Ζ}{hdct i:Bool}{sn u:Α}{sub n:Ζ}{ab x:Bool}{col l:Option Bool}{dd r:Λ}{k0 k1 k2 k3 k5 J K I F L:Ν}{newId a:String}
  {h:Ψ}{g:Array GenState}{d:Drawn}{t:Nat}{os:OsState}{e:Δ}{B:Obj}{Q:Bool->Θ->Prop}
  (H:h.get? C=↑(excClassObj nm q C N bs bm hdct sn sub ab col dd k0 k1 k2 k3 k5 newId))(z:h.get? j=↑(excClassObj s O j D w c i u n x l r J K I F L a))(he:h.get? e=↑B)(m:B.cls= .ref C)(v:c.contains (.type "BaseException")=true)(p:bm.contains (.ref j)=true)
  (G:Q true #[h,g,d,t,os]):ε M A (excMatches (.ref e) (.ref j)) Q E #[h,g,d,t,os]:=by
 have y:(Γ.ref j::c).contains (.type "BaseException")=true:=by rw[LP,v,Bool.or_true]
 have o:(Γ.ref C::bm).contains (.ref j)=true:=by rw[LP,p,Bool.or_true]
 have f:=tc_notTuple;unfold excMatches
 repeat (first|(with_reducible refine JT he ?_;rw[m])|with_reducible refine JT z ?_|(with_reducible refine LQ z ?_;rw[y])|(with_reducible refine LQ H ?_;rw[o])|wp_step)
 exact G
abbrev BH(X:Cx)(a:Δ):Cx:={X with A:=X.A.mark ↑(.ref a),calm:=false,xe:=λ_ _=>False}
theorem sP{X:Cx}{tx:ML}{σ:L2.St}{H:Hp}{s:Θ}{a:Δ}(I:L2.MQ X tx σ H s):L2.MQ (BH X a) tx σ H s:=by
 have ok:=I.ok
 exact#[#[ok.mod,ok.kind,ok.glob,ok.blt,ok.above,ok.inj,ok.has,ok.cab,λz=>(by cases z),ok.frames,ok.stk,ok.exf,ok.bs,ok.bsz,ok.noex,ok.exfs,ok.funs,ok.frf],I.os,I.bare,I.base,I.loc,I.cell,I.free,I.freeC,I.pin,I.hok,I.len]
theorem iK{X:Cx}{tx:ML}{σ:L2.St}{H:Hp}{s:Θ}{a:Δ}(ok:X.Ok)(I:L2.MQ (BH X a) tx σ H s):L2.MQ X tx σ H s:=
 #[ok,I.os,I.bare,I.base,I.loc,I.cell,I.free,I.freeC,I.pin,I.hok,I.len]
def CA(D:Nq)(i:Nat):Nq:={nx:=λσ H=>D.nx (σ.set i none) H,rt:=D.rt,bk:=λσ H=>D.bk (σ.set i none) H,ct:=λσ H=>D.ct (σ.set i none) H}
end L3
namespace L3
open PySem PySem.Spec PySem.Calls PySem.W PyProof.Rows Builtin Builtin.ObjectAttr Builtin.Getset_descriptor
section
variable{prog:Ξ}{w:Ω}{A:Around}{E:MJ}{K:ι}{h:Ψ}{g:Array GenState}{d:Drawn}{t:Nat}{os:OsState}{a C:Δ}{o:Obj}
theorem oE{R:Result->Θ->Prop}{e:Γ}(X:K.In h)(hx:h.get? a=↑o)(hc:o.cls= .ref C)(hm:mroIn K C (.type "object")=↑true)(c:R (.ok (.ret (.ref C))) #[h,g,d,t,os]):
  codeAny (model prog w) A (.call (.builtin "getset_descriptor.__get__") #[[.builtin "object.__class__",.ref a,e],[]]) R #[h,g,d,t,os]:=by
 have i:Looks (model prog w) h (typeOf (.ref a)) (.ref C):=hc▸(Looks.ld hx).andThen .now
 have f:=looks_mroIn (M:=model prog w) X hm
 refine LR KF.slot_gs.plain KF.entry_gs (KF.slot_gs.check _ _ _ _ _ _ _ _ KF.type_class (KF.args_gs _ _ _) ?_)
 unfold γ.«getset_descriptor.__get__» descrGet
 rw[dga_obj];refine Ja (Jh ?_)
 unfold descrGetter descrCheckInstance descrNameAndClass isInstance;simp only[KF.owner_class]
 repeat lk
 refine#[Mo _ nofun,Mm KF.entry_class ?_]
 unfold γ.«object.__class__» shownTypeOf
 repeat lk
 exact c
theorem kL{tk:Tok}{Q:Fin->Θ->Prop}(X:K.In h)(hx:h.get? a=↑o)(hc:o.cls= .ref C)(hm:mroIn K C (.type "object")=↑true)(c:findIn K (.ref C) "__class__"=↑(↑(.builtin "object.__class__")))(m:Q (.done (.ret (.ref C))) #[h,g,d,t,os]):
  ε (model prog w) A (γ.«object.__getattribute__» #[[.ref a,.str "__class__" tk],[]]) Q E #[h,g,d,t,os]:=by
 have f:(#[h,g,d,t,os]:Θ).TypeIs (.builtin "object.__class__") "getset_descriptor":=F.typeOf_object_class
 have j:=F.typeOf_object_class;have i:=F.slot_gs_get.lookup;have l:=F.slot_gs_set.lookup;have e:=IJ (M:=model prog w) X c
 repeat (any_goals (first|assumption|(with_reducible refine JT hx ?_;rw[hc])|with_reducible refine e.at ?_|wp_step))
 refine oE X hx hc hm ?_
 repeat (any_goals (first|assumption|wp_step))
theorem gB{M:Model}{c:Γ}{Q:Unit->Θ->Prop}(X:K.In h)(hx:h.get? a=↑o)(hc:o.cls= .ref C)(f:mroIn K C (.type "BaseException")=↑true)(j:Q () #[h,g,d,t,os]):ε M A (checkBuiltinCall "BaseException.__getattribute__" #[[.ref a,c],[]]) Q E #[h,g,d,t,os]:=by
 have hk:builtinKind "BaseException.__getattribute__"=some .slot:=by decide +kernel
 have e:splitId "BaseException.__getattribute__"=↑("BaseException","__getattribute__"):=by decide +kernel
 have i:=looks_mroIn (M:=M) X f
 have l:=F.args_bexc_ga (.ref a) c;simp only[checkBuiltinCall,hk,e];refine Ja ?_
 ·unfold isInstance
  repeat (first|(with_reducible refine JT hx ?_;rw[hc])|with_reducible refine i.at ?_|wp_step)
  exact j
theorem lM{tk:Tok}{R:Result->Θ->Prop}(X:K.In h)(hx:h.get? a=↑o)(hc:o.cls= .ref C)(hm:mroIn K C (.type "object")=↑true)(c:mroIn K C (.type "BaseException")=↑true)(e:findIn K (.ref C) "__class__"=↑(↑(.builtin "object.__class__")))(f:R (.ok (.ret (.ref C))) #[h,g,d,t,os]):
  codeAny (model prog w) A (.call (.builtin "BaseException.__getattribute__") #[[.ref a,.str "__class__" tk],[]]) R #[h,g,d,t,os]:=
 LR PySem.F.attr_ValueError.ga.plain F.entry_bexc_ga (gB X hx hc c (kL X hx hc hm e f))
theorem sM{tk:Tok}{Q:MJ}(X:K.In h)(hx:h.get? a=↑o)(hc:o.cls= .ref C)(hm:mroIn K C (.type "object")=↑true)(i:mroIn K C (.type "BaseException")=↑true)(e:findIn K (.ref C) "__class__"=↑(↑(.builtin "object.__class__")))
  (c:findIn K (.ref C) "__getattribute__"=↑(↑(.builtin "BaseException.__getattribute__")))(j:findIn K (.ref C) "__getattr__"=↑none)(q:Q (.ref C) #[h,g,d,t,os]):
  ε (model prog w) A (getAttrBy (.ref a) (.str "__class__" tk) false) Q E #[h,g,d,t,os]:=by
 have p:=PySem.F.attr_ValueError.ga.bind (.ref a);have f:(Γ.builtin "BaseException.__getattribute__"==Γ.builtin "object.__getattribute__")=false:=by decide +kernel
 have n:(onTheHeap (Γ.ref C)&&Γ.builtin "BaseException.__getattribute__"==Γ.builtin "object.__getattribute__")=false:=by rw[f];rfl
 have l:=IJ (M:=model prog w) X c
 have m:=IJ (M:=model prog w) X j
 repeat (any_goals (first|assumption|(with_reducible refine JT hx ?_;rw[hc])|with_reducible refine l.at ?_|with_reducible refine m.at ?_|wp_step))
 refine lM X hx hc hm i e ?_
 repeat (any_goals (first|assumption|wp_step))
theorem mG{Q:Ν->Θ->Prop}(X:K.In h)(hx:h.get? a=↑o)(hc:o.cls= .ref C)(hm:mroIn K C (.type "object")=↑true)(f:mroIn K C (.type "BaseException")=↑true)(e:findIn K (.ref C) "__class__"=↑(↑(.builtin "object.__class__")))
  (c:findIn K (.ref C) "__getattribute__"=↑(↑(.builtin "BaseException.__getattribute__")))(i:findIn K (.ref C) "__getattr__"=↑none)(j:Q ↑(.ref C) #[h,g,d,t+1,os]):
  ε (model prog w) A (getAttr? (.ref a) "__class__") Q E #[h,g,d,t,os]:=by
 unfold getAttr? getAttrBy?
 repeat (any_goals (first|assumption|with_reducible apply sM X hx hc hm f e c i|wp_step))
end
end L3
namespace L3
open PySem PySem.Spec PyProof.Rows L2
structure OR(K:ι)(C:Δ):Prop where
 m:PySem.W.mroIn K C (.type "object")=↑true
 b:PySem.W.mroIn K C (.type "BaseException")=↑true
 cl:PySem.W.findIn K (.ref C) "__class__"=↑(↑(.builtin "object.__class__"))
 ga:PySem.W.findIn K (.ref C) "__getattribute__"=↑(↑(.builtin "BaseException.__getattribute__"))
 gt:PySem.W.findIn K (.ref C) "__getattr__"=↑none
 cd:(PySem.W.clsIn K C).isSome=true
theorem pZ{K:ι}{a C:Δ}(c:OR K C):W.KitX K (.ref a) (.ref C) (λh=>∃o,h.get? a=↑o/\o.cls= .ref C) where
 ty:=λM h _ ⟨o,e,i⟩=>i▸(W.Looks.ld e).andThen .now
 it:=λ_ _ X _=>by
  obtain⟨p,f⟩:=Li.mp c.cd;unfold W.clsIn at f;split at f
  ·rename_i c' u m l j
   intro D B y s' k q;unfold isType loadHead;exact Ja (wpAny_loadPart (k _ _ (X _ _ j)) (Jh q))
  ·cases f
 ne:=λh x dd v n F X r=>by
  obtain⟨p,f⟩:=Li.mp c.cd;refine LS.mpr λq=>?_
  have e:C=x:=Γ.ref.inj (Ic.mp q)
  subst e;unfold W.clsIn at f;split at f
  ·rename_i c' u m l j
   have z:=(X _ _ j).symm.trans r;cases z
  ·cases f
 ca:=λ{prog w A E Q s} X ⟨o,e,i⟩ k=>by
  obtain⟨h,g,d,t,os⟩:=s;exact mG X e i c.m c.b c.cl c.ga c.gt k
end L3
namespace L3
open PySem PySem.Spec PyProof.Rows L2 SeqAt
def iB:Γ->Bool
 | .bool b=>b
 |_=>false
theorem jT:∀bs:List Bool,(bs.map Γ.bool).countP iB=bs.count true
 | []=>rfl
 |b::r=>by
  rw[JR,List.countP_cons,List.count_cons,jT r];cases b<;>rfl
theorem yf{X:Cx}:je X "list.count" (λx c H Q=>∃(l:Δ) (bs:List Bool),x= .ref l/\c=[.bl true]/\H l=↑(.lst (bs.map V.bl))/\Q (.int (bs.count true:Nat)) H):=by
 intro tx s σ H x xs v p Q I m i h;obtain⟨l,bs,rfl,rfl,d,q⟩:=h;cases m;obtain⟨u,rfl,j⟩:=i.one
 cases(show u=Γ.bool true from j)
 obtain⟨z,g,n,f,a⟩:=I.hok l _ d;have e:=fA f;subst e;refine IF F.slot_list_count #[_,a,Z] F.entry_list_count (F.args_list_count_2 _ _) (list_countAt l _ n none _ (.bool true) iB) #[a,λy o=>?_,?_]
 ·obtain⟨b,_,rfl⟩:=Jy.mp (show y∈bs.map Γ.bool by simpa using o)
  have:=EqAt.bool_bool (A:=X.A.in1) (s:=s) b true
  cases b<;>exact this
 ·refine#[.int _,H,I.tok _,#[_,Z],?_]
  show Q (.int (((bs.map Γ.bool).toArray.toList.countP iB:Nat):Int)) H
  rw[List.toList_toArray,jT];exact q
theorem we{X:Cx}:je X "list.index" (λx i H Q=>∃(l:Δ) (bs:List Bool) (j:Nat),x= .ref l/\i=[.bl true]/\H l=↑(.lst (bs.map V.bl))/\bs[j]? =↑true/\(∀m,m<j->bs[m]? =↑false)/\j<1000/\Q (.int j) H):=by
 intro tx s σ H x xs v D Q I B w h;obtain⟨l,bs,j,rfl,rfl,o,f,a,G,q⟩:=h;cases B;obtain⟨u,rfl,t⟩:=w.one
 cases(show u=Γ.bool true from t)
 obtain⟨z,r,n,p,g⟩:=I.hok l _ o;have e:=fA p;subst e;have c:j<bs.length:=(Jt.mp f).1
 refine IF F.slot_list_index #[_,g,Z] F.entry_list_index (F.args_list_index_2 _ _) (list_indexAt l _ n none _ (.bool true) iB j (by simpa using c) (by omega) ?_ ?_) #[g,λy C=>?_,?_]
 ·simp only[List.getElem_toArray,List.getElem_map]
  rw[(Jt.mp f).2];rfl
 ·intro m E d
  simp only[List.getElem_toArray,List.getElem_map];rw[(Jt.mp (a m d)).2];rfl
 ·obtain⟨b,_,rfl⟩:=Jy.mp (show y∈bs.map Γ.bool by simpa using C)
  have:=EqAt.bool_bool (A:=X.A.in1) (s:=s) b true
  cases b<;>exact this
 ·exact#[.int _,H,I.tok _,#[_,Z],q]
end L3
namespace L3
open PySem PySem.Spec PyProof.Rows L2
theorem Ay{P:Ξ}{w:Ω}{k:qN}{u:Γ}(h:(zi P w).is k u=true):MT (kV k) u:=by
 rcases Qb (show fJ k u=true from h)with⟨i,t,rfl,rfl⟩|⟨x,t,rfl,rfl⟩
 ·exact#[t,Z]
 ·exact#[t,Z]
theorem xx:∀{kvs:List (qN×V)} {vs:List (qN×Γ)},KV kvs vs->∀(i:Nat) a b,kvs[i]? =↑a->vs[i]? =↑b->a.1=b.1
 |_,_,.nil,i,a,b,h,_=>by cases h
 |_,_,.cons r t,0,a,b,h1,h2=>by cases h1;cases h2;exact r.1
 |_,_,.cons r t,i+1,a,b,h1,h2=>xx t i a b h1 h2
theorem MQ.thaw{X:Cx}{tx:ML}{σ:L2.St}{H:Hp}{s:Θ}{d:Δ}{o:Obj}{kvs:List (qN×V)}(I:L2.MQ X tx σ H s)(hd:H d=↑(.frz o (.dK kvs)))(r:∀o u,X.H₀ d≠↑(.frz o u)):L2.MQ X tx σ (MO H d (.dK kvs)) s:=by
 have ne:∀b,H b=none->b≠d:=λb e z=>by subst z;rw[hd]at e;cases e
 have a:∀b,H b=none->MO H d (.dK kvs) b=none:=λb e=>by rw[qk (ne b e)];exact e
 refine#[I.ok,I.os,I.bare,#[I.base.keep,I.base.slot,λb g q n j=>a b (I.base.free b g q n j),I.base.there,λb xs q=>?_,λb g u q=>?_,λb ps q=>?_],I.loc,I.cell,a _ I.free,λx c e=>a _ (I.freeC x c e),λp m=>?_,λb u q=>?_,I.len]
 ·have:=I.base.tups b xs q
  rw[qk (λz=>by subst z;rw[hd]at this;cases this)];exact this
 ·rw[qk (λz=>by subst z;exact r _ _ q)];exact I.base.frzs b g u q
 ·obtain⟨f,e⟩:=I.base.tbls b ps q
  exact#[f,by rw[qk (λz=>by subst z;rw[hd]at e;cases e)];exact e]
 ·obtain⟨i,p2,l⟩:=I.pin p m
  exact#[i,a _ p2,l]
 ·have st:∀{b:Δ} {u:HO},M3 X.prog X.w H s.heap b u->M3 X.prog X.w (MO H d (.dK kvs)) s.heap b u:=λ{b u} x=>x.stay (λ_ _ _ e=>e) (λc e=>by rw[qk (λz=>by subst z;rw[hd]at e;cases e)];exact e) (λc xs e=>by rw[qk (λz=>by subst z;rw[hd]at e;cases e)];exact e)
  by_cases h:b=d
  ·subst h
   rw[qa]at q;cases q;exact st (I.hok b _ hd).2
  ·rw[qk h]at q
   exact st (I.hok b u q)
abbrev Qj:Ζ:=[.type "ValueError",.type "Exception",.type "BaseException",.type "object"]
structure Xa where
 e:Δ
 k:Δ
 f:Δ
 u:Δ
 t:Δ
 b:Δ
 w:Δ
 l:Δ
 r:Δ
def Xa.all(x:Xa):Η:=[x.b,x.k,x.f,x.u,x.t,x.w,x.l,x.r]
theorem Gw{l:Η}(c:l.Nodup){j:Nat}{C:Δ}(h:l[j]? =↑C)(m:Nat):(l.map λD=>decide (C=D))[m]? =if m<l.length then ↑(decide (m=j))else none:=by
 rw[Jm]
 by_cases a:m<l.length
 ·rw[Jd a,Jk a]
  show ↑(decide (C=l[m]))=_
  congr 1
  rw[decide_eq_decide];obtain⟨d,e⟩:=Jt.mp h;constructor
  ·intro z
   exact(List.getElem?_inj a c).mp (by rw[h,Jk a,z])
  ·intro z;subst z;exact e.symm
 ·rw[Jc a,LN (by omega)];rfl
theorem rD{K:ι}{x:Xa}{C:Δ}(h1:W.kitOne K (.ref C) (.ref x.b)=↑(decide (C=x.b)))(h2:W.kitOne K (.ref C) (.ref x.k)=↑(decide (C=x.k)))(e:W.kitOne K (.ref C) (.ref x.f)=↑(decide (C=x.f)))(c:W.kitOne K (.ref C) (.ref x.u)=↑(decide (C=x.u)))
  (g:W.kitOne K (.ref C) (.ref x.t)=↑(decide (C=x.t)))(f:W.kitOne K (.ref C) (.ref x.w)=↑(decide (C=x.w)))(d:W.kitOne K (.ref C) (.ref x.l)=↑(decide (C=x.l)))(h:W.kitOne K (.ref C) (.ref x.r)=↑(decide (C=x.r))):∀D∈x.all,W.kitOne K (.ref C) (.ref D)=↑(decide (C=D)):=by
 intro D a;simp only[Xa.all,Ji,Jr,Js]at a;rcases a with rfl|rfl|rfl|rfl|rfl|rfl|rfl|rfl
 ·exact h1
 ·exact h2
 ·exact e
 ·exact c
 ·exact g
 ·exact f
 ·exact d
 ·exact h
inductive RU (K:ι) (H:Hp):Nat->V->V->Prop where
 |int (n:Nat) (i:Int):RU K H n (.int i) (.int i)
 |str (n:Nat) (x:Str):RU K H n (.str x) (.str x)
 |non (n:Nat):RU K H n .non .non
 | tup {n:Nat} {a b:Δ} {xs ys:Β} (h1:MW K H a xs) (h2:MW K H b ys) (hl:xs.length=ys.length)
   (hi:∀(i:Nat) (x y:V),xs[i]? =↑x->ys[i]? =↑y->RU K H n x y):RU K H (n+1) (.ref a) (.ref b)
section
open SeqAt
variable{X:Cx}{tx:ML}{σ:L2.St}{H:Hp}{s:Θ}
theorem F1(I:L2.MQ X tx σ H s){n:Nat}{x y:V}(h:RU X.K H n x y):∀{v u:Γ} {A:Around},MT x v->MT y u->A.units+n<cLine->EqAt A s v u true:=by
 induction h with
 |int n i=>rintro v u A ⟨t,rfl⟩ ⟨g,rfl⟩ _;have:=EqAt.int_int (A:=A) (s:=s) i t i g;rwa [Ih]at this
 |str n z=>rintro v u A ⟨t,rfl⟩ ⟨g,rfl⟩ _;have:=EqAt.str_str (A:=A) (s:=s) z t z g;rwa [Ih]at this
 |non n=>
  intro v u A m l _
  cases(show v=Γ.none from m)
  cases(show u=Γ.none from l)
  exact EqAt.same _
 | @tup n a b xs ys h1 h2 hl _ ih=>
  intro v u A m l F
  cases(show v=Γ.ref a from m)
  cases(show u=Γ.ref b from l)
  by_cases d:a=b
  ·rw[d];exact EqAt.same _
  ·obtain⟨f,o,q,_⟩:=I.tuple h1
   obtain⟨c,p,p2,_⟩:=I.tuple h2;have E:=o.length;have G:=p.length;have e:=RcAt.tuples (A:=A) (e:=λ_=>true) (show s.heap.IsTuple a f.toArray from q) (show s.heap.IsTuple b c.toArray from p2) (by lia) (λj D C=>by
    obtain⟨x,ex,w⟩:=Qt o (j:=j) (by simpa using D)
    obtain⟨y,r,B⟩:=Qt p (j:=j) (by simpa using C)
    exact ih j x y ex r w B (by rw[Ls];lia))
   rw[dh,show(f.toArray.size==c.toArray.size)=true by simp;lia]at e
   exact EqAt.of_refs d e
theorem Ey(I:L2.MQ X tx σ H s){n:Nat}{x y:V}{v u:Γ}{A:Around}(h:RU X.K H n x y)(o:MT x v)(m:MT y u)(hu:A.units+n<cLine):RcAt A s v u true/\RcNeAt A s v u false:=by
 cases h with
 |int n i=>
  obtain⟨t,rfl⟩:=o;obtain⟨l,rfl⟩:=m;have f:=RcAt.int_int (A:=A) (s:=s) i t i l
  have g:=RcNeAt.int_int (A:=A) (s:=s) i t i l
  rw[Ih]at f g
  exact#[f,g]
 |str n z=>
  obtain⟨t,rfl⟩:=o;obtain⟨l,rfl⟩:=m;have f:=RcAt.str_str (A:=A) (s:=s) z t z l
  have g:=RcNeAt.str_str (A:=A) (s:=s) z t z l
  rw[Ih]at f g
  exact#[f,g]
 |non n=>
  cases(show v=Γ.none from o)
  cases(show u=Γ.none from m)
  exact#[RcAt.none_none,RcNeAt.none_none]
 | @tup n a b xs ys h1 h2 hl ih=>
  cases(show v=Γ.ref a from o)
  cases(show u=Γ.ref b from m)
  obtain⟨d,C,w,_⟩:=I.tuple h1;obtain⟨c,r,p2,_⟩:=I.tuple h2;have G:=C.length;have J:=r.length;have B:∀j (q:j<d.toArray.size) (p:j<c.toArray.size),EqAt A.in1 s d.toArray[j] c.toArray[j] ((λ_=>true) j):=λj q p=>by
   obtain⟨x,ex,D⟩:=Qt C (j:=j) (by simpa using q)
   obtain⟨y,E,F⟩:=Qt r (j:=j) (by simpa using p)
   exact F1 I (ih j x y ex E) D F (by rw[Ls];lia)
  have f:=RcAt.tuples (A:=A) (e:=λ_=>true) (show s.heap.IsTuple a d.toArray from w) (show s.heap.IsTuple b c.toArray from p2) (by lia) B
  have g:=RcNeAt.tuples (A:=A) (e:=λ_=>true) (show s.heap.IsTuple a d.toArray from w) (show s.heap.IsTuple b c.toArray from p2) (by lia) B
  rw[dh,show(d.toArray.size==c.toArray.size)=true by simp;lia]at f g
  exact#[f,g]
inductive SM (K:ι) (b:Bool) (x:V) (y:V) (H:Hp) (Q:VK):Prop
 |mk (n:_) (h1:n<=32) (h2:RU K H n x y) (h3:Q (.bl b) H)
def Ho(K:ι)(b:Bool):R2:=λx y H Q=>SM K b x y H Q
theorem FM{k:Nat}(hr:M9 k X.A):zT X (compareOp .NotEq) (Ho X.K false):=by
 intro tx s σ H x y v u Q I a c h;obtain⟨n,d,e,q⟩:=h
 exact(Ey I e a c (by have:=hr.un;lia)).2 _ _ _ _ #[.bl _,H,I,Z,q]
end
structure XGx(K:ι)(mg:MK)(x:Xa):Prop where
 g_CodeError:mg "CodeError"=↑(.ref x.e)
 g_Known:mg "Known"=↑(.ref x.k)
 g_Full:mg "Full"=↑(.ref x.f)
 g_Unknown:mg "Unknown"=↑(.ref x.u)
 g_TooMany:mg "TooMany"=↑(.ref x.t)
 g_BadPress:mg "BadPress"=↑(.ref x.b)
 g_Worn:mg "Worn"=↑(.ref x.w)
 g_BadLog:mg "BadLog"=↑(.ref x.l)
 g_BadRow:mg "BadRow"=↑(.ref x.r)
 e_CodeError:aL K x.e Qj Qj "ValueError.__new__"=true
 nd:x.all.Nodup
 b_ValueError:mg "ValueError"=none
structure OG(K:ι)(x:Xa)(C:Δ):Prop where
 e:aL K C (.ref x.e::Qj) Qj "ValueError.__new__"=true
 c:OR K C
 i:∀D∈x.all,PySem.W.kitOne K (.ref C) (.ref D)=↑(decide (C=D))
 v:PySem.W.kitOne K (.ref C) (.type "ValueError")=↑true
section
variable(K:ι)(C:Δ)
inductive Rv (vs:Β) (H:Hp) (Q:VK):Prop
 |mk (p ta hk bd lg:Δ) (n:Nat) (D:Dr) (h1:vs=[.ref p]) (h2:MR K C H p ta hk bd lg n D) (h3:∀t (as:Η) H',MM H H'->MW K H' t (as.map V.ref)->as.length=D.kss.length->(∀(i:Nat) (a:Δ) (ks:Ε),as[i]? =↑a->D.kss[i]? =↑ks->MW K H' a (ks.map V.int))->Q (.ref t) H')
def tY:Sp:=λa H Q _=>Rv K C a H Q
inductive Pc (vs:Β) (H:Hp) (Q:VK):Prop
 |mk (p ta hk bd lg:Δ) (n:Nat) (D:Dr) (h1:vs=[.ref p]) (h2:MR K C H p ta hk bd lg n D) (h3:Q (.int D.least) H)
def ny:Sp:=λa H Q _=>Pc K C a H Q
inductive Pd (vs:Β) (H:Hp) (Q:VK):Prop
 |mk (p ta hk bd lg:Δ) (n:Nat) (D:Dr) (h1:vs=[.ref p]) (h2:MR K C H p ta hk bd lg n D) (h3:∀t H',MM H H'->H' t=↑(.tup [.int D.near,.int D.far,.int D.most])->Q (.ref t) H')
def om:Sp:=λa H Q _=>Pd K C a H Q
end
structure Sf(h base:Ψ)(e:Δ)(cls:Γ)(dd:Λ)(fl:Γ):Prop where
 ex:∃oe vs T oT ts a0,h.get? e=↑oe/\oe.cls=cls/\oe.dict=dd/\oe.data= .fields vs/\vs[0]? =↑a0/\vs[1]? =↑(.ref T)/\base.get? T=none/\T≠e/\h.get? T=↑oT/\oT.data= .fields ts/\ts[3]? =↑fl
theorem BN(o:Obj)(f:Array Γ->Array Γ):(o.mapFields f).dict=o.dict:=by obtain⟨c,d,a,e⟩:=o;cases a<;>rfl
section
variable{M:Model}{A:Around}{E:MJ}{s:Θ}{base:Ψ}{env:Env}{outer:Ο}{L e:Δ}{cls fl:Γ}{dd:Λ}
theorem wL{r:Obj}{vs:Array Γ}{c G:Γ}{a:Bool}{Q:Unit->Θ->Prop}(y:A.frames=↑(env::outer))(hl:s.heap.FunFrames base (env::outer))(hf:env.frame=↑L)(he:s.heap.get? e=↑r)(x:base.StaysIn s.heap)(B:base.get? e=none)(hd:r.data= .fields vs)(hsz:1<vs.size)(N:vs[0]? =↑G)
  (k:∀h',base.StaysIn h'->h'.FunFrames base (env::outer)->Sf h' base e r.cls r.dict (rawInt L)->s.heap.UpToSlots h'->Q () {s with heap:=h'}):
  ε M A (frameOf env >>= λR=>entryPlaceOf L a >>= λg=>EntryCells.newEntry c R .none (rawInt L) .none g >>= λb=>setField (.ref e) 1 b) Q E s:=by
 have C:e∉(env::outer).filterMap (·.frame):=λm=>by
  obtain⟨_,o,q,f⟩:=hl.mem m;rw[he]at q;cases q
  exact f vs hd
 refine Ja (wpAny_frameOf_fun y hl hf λh1 v=>Ja (wpAny_entryPlaceOf λg l=>?_))
 unfold EntryCells.newEntry newFields;refine Ja (J6 ?_ (l.sizeOk5 _ _ _ _ _))
 obtain⟨nO,d⟩:∃nO:Obj,nO=#[.type "traceback",none,.fields ([c,.ref L,.none,rawInt L,.none]++(if g.isEmpty then List.replicate 6 Γ.none else g)).toArray,(List.toArray [])]:=#[_,Z]
 show ε M A (setField (.ref e) 1 (.ref h1.objs.size)) Q E {s with heap:=h1.push #[.type "traceback",none,.fields ([c,.ref L,.none,rawInt L,.none]++(if g.isEmpty then List.replicate 6 Γ.none else g)).toArray,(List.toArray [])]}
 rw[<- d];obtain⟨w,j,P⟩:∃w,nO.data= .fields w/\w[3]? =↑(rawInt L):=#[_,by rw[d],by first|(simp;done)|(rcases l with rfl|⟨_,_,_,_,_,_,_,rfl⟩<;>simp)]
 have i:nO.isFreed=false:=Ln j
 clear d;have F:h1.get? e=↑r:=(v.2.1 e C).trans he
 have J:=Jj (h:=h1) nO F
 have u:h1.objs.size≠e:=J0 (Jl F)
 have H:=IA hd (·.setIfInBounds 1 (Γ.ref h1.objs.size))
 have O:=ID (Obj.mapFields (·.setIfInBounds 1 (Γ.ref h1.objs.size))) J (Ln H)
 have keep:∀b o,b≠e->h1.get? b=↑o->((h1.push nO).update e (Obj.mapFields (·.setIfInBounds 1 (Γ.ref h1.objs.size)))).get? b=↑o:=λb o n q=>by
  rw[Iy _ _ n.symm];exact Jj _ q
 have K:((h1.push nO).update e (Obj.mapFields (·.setIfInBounds 1 (Γ.ref h1.objs.size)))).get? h1.objs.size=↑nO:=by
  rw[Iy _ _ u.symm];exact Jw h1 i
 have p:base.StaysIn h1:=λb o q=>(v.2.1 b λm=>by rw[(hl.mem m).1]at q;cases q).trans (x b o q)
 have t:∀b o,s.heap.get? b=↑o->(∀vs,o.data≠ .fields vs)->b≠e:=λb o q f z=>by
  rw[z,he]at q;cases q;exact f vs hd
 refine IH J hd hsz (k _ (λb o q=>keep b o (λz=>by rw[z,B]at q;cases q) (p b o q)) (hl.of_keeps λb o q f=>?_) #[_,_,h1.objs.size,nO,w,G,O,Obj.cls_mapFields _ _,BN _ _,H,by rw[Array.getElem?_setIfInBounds_ne ⋯];exact N,by simp [hsz],p.fresh,u,K,j,P] λb o q f=>?_)
 ·obtain⟨I,D⟩:=v.2.2 b o q
  exact#[_,keep b _ (t b o q f) D,Z]
 ·obtain⟨I,D⟩:=v.2.2 b o q
  exact#[I,keep b _ (t b o q f) D]
theorem iH{l:Ο}{Q:Unit->Θ->Prop}(j:base.StaysIn s.heap)(hl:s.heap.FunFrames base l)(t:Sf s.heap base e cls dd fl)
  (k:∀h',base.StaysIn h'->h'.FunFrames base l->Sf h' base e cls dd .none->s.heap.UpToSlots h'->Q () {s with heap:=h'}):ε M A (setFlight (.ref e) none) Q E s:=by
 obtain⟨C,m,T,D,y,x,r,w,i,u,v,h1,p,f,h,g,B⟩:=t.ex;have sz:=(LM.mp B).1;have a:∀b,b≠T->(s.heap.update T (Obj.mapFields (·.setIfInBounds 3 Γ.none))).get? b=s.heap.get? b:=λb n=>Iy _ _ n.symm
 have c:∀b o,s.heap.get? b=↑o->(∀m,o.data≠ .fields m)->b≠T:=λb o q d z=>by
  rw[z,h]at q;cases q;exact d y g
 unfold setFlight;refine Ja (JI r u h1 ?_)
 rw[Jd (show(Γ.ref T != Γ.none)=true from by simp)]
 refine IH h g sz (k _ (λb o q=>(a b λz=>by rw[z,p]at q;cases q).trans (j b o q)) (hl.of_keeps λb o q d=>#[o,(a b (c b o q d)).trans q,Z]) #[C,m,T,_,_,x,(a e f.symm).trans r,w,i,u,v,h1,p,f,ID _ h (Ln (IA g _)),IA g _,by simp [sz]] λb o q d=>#[o.slots,(a b (c b o q d)).trans q])
theorem DS{a:Obj}{vs:Array Γ}{j:Γ}{Q:Unit->Θ->Prop}(g:A.frames=↑(env::outer))(hl:s.heap.FunFrames base (env::outer))(hf:env.frame=↑L)(he:s.heap.get? e=↑a)(f:base.StaysIn s.heap)(d:base.get? e=none)(hd:a.data= .fields vs)(h1:vs[1]? =some .none)(o:vs[0]? =↑j)
  (k:∀h',base.StaysIn h'->h'.FunFrames base (env::outer)->Sf h' base e a.cls a.dict .none->s.heap.UpToSlots h'->Q () {s with heap:=h'}):ε M A (leaving env (.ref e)) Q E s:=by
 unfold leaving noteFrame;simp only[hf];refine Ja (Ja (JI he hd h1 ?_))
 rw[Jc ⋯]
 exact wL g hl hf he f d hd (LM.mp h1).1 o λh' k1 k2 k3 i=>iH k1 k2 k3 λc h n m l=>k c h n m (i.trans l)
theorem wz{Q:Unit->Θ->Prop}(j:A.frames=↑(env::outer))(hl:s.heap.FunFrames base (env::outer))(hf:env.frame=↑L)(t:Sf s.heap base e cls dd .none)(i:base.StaysIn s.heap)(l:base.get? e=none)
  (k:∀h',base.StaysIn h'->h'.FunFrames base (env::outer)->Sf h' base e cls dd (rawInt L)->s.heap.UpToSlots h'->Q () {s with heap:=h'}):ε M A (noteFrame (.ref e) env) Q E s:=by
 obtain⟨J,p,T,I,F,H,r,y,h,u,x,h1,B,m,g,f,v⟩:=t.ex;subst y h;have a:∀b,b≠T->(s.heap.update T (Obj.mapFields (·.setIfInBounds 3 Γ.none))).get? b=s.heap.get? b:=λb n=>Iy _ _ n.symm
 have d:∀b o,s.heap.get? b=↑o->(∀p,o.data≠ .fields p)->b≠T:=λb o q c z=>by
  rw[z,g]at q;cases q;exact c F f
 unfold noteFrame;simp only[hf];refine Ja (JI r u h1 ?_)
 rw[Jd (show(Γ.ref T != Γ.none)=true from by simp)]
 refine Ja (JI g f v ?_)
 rw[Jc (show¬((Γ.none==rawInt L)=true)from by simp [rawInt])]
 refine Ja (IH g f (LM.mp v).1 ?_)
 exact wL j (hl.of_keeps λb o q c=>#[o,(a b (d b o q c)).trans q,Z]) hf ((a e m.symm).trans r) (λb o q=>(a b λz=>by rw[z,B]at q;cases q).trans (i b o q)) l u (LM.mp h1).1 x
  λh' D C w G=>k h' D C w λb o q c=>G b o ((a b (d b o q c)).trans q) c
end
end L3
namespace L3
open PySem PySem.Spec PySem.Calls PySem.W PyProof.Rows Builtin Builtin.ObjectAttr
abbrev jI(t:Δ):Array Γ:= (List.toArray [.ref t,.none,.none,.none,.bool false,.none])
section
variable{prog:Ξ}{w:Ω}{A:Around}{E:MJ}{K:ι}{h:Ψ}{g:Array GenState}{d:Drawn}{t:Nat}{os:OsState}
variable{nm q:Str}{C N:Δ}{bs bm bmB:Ζ}{hdct:Bool}{sn:Α}{sub:Ζ}{ab:Bool}{col:Option Bool}{dd:Λ}{k0 k1 k2 k3 k5:Ν}{B newId initId:String}{e:Δ}
theorem oH(F:ExcBaseFacts B newId initId bmB)(T:OwnTail h bmB bm)(l:h.get? C=↑(excClassObj nm q C N bs bm hdct sn sub ab col dd k0 k1 k2 k3 k5 newId)){c:Λ}{i:Array Ν}{j:Δ}{f:Γ}{Q:MJ}(he:h.get? e=some #[.ref C,c,.fields (jI j),i])
  (k:∀h',h'.get? e=some #[.ref C,c,.fields (jI h.objs.size),i]->(∀b o,b≠e->h.get? b=↑o->h'.get? b=↑o)->Q .none #[h',g,d,t,os]):
  ε (model prog w) A (call (.builtin initId) [.ref e,f]) Q E #[h,g,d,t,os]:=by
 refine Lh (LR F.init.plain F.initEntry (wpAny_check_init_subT F T l he Z ?_))
 unfold γ.«BaseException.__init__» γ.BaseException.bexcPut
 have a:=Jj (h:=h) {cls:= .type "tuple",data:= .seq [f].toArray} he
 repeat (first|with_reducible refine JI a Z Z ?_|wp_step)
 exact k _ (ID _ a Z) λb o n z=>by rw[Iy _ _ n.symm];exact Jj _ z
theorem Ao{CE:Δ}{name:Str}{v:Γ}{vs:Array Γ}{x:Array Ν}{Q:Unit->Θ->Prop}(X:K.In h)(D:h.get? C=↑(excClassObj nm q C N bs [.ref CE,.type "ValueError",.type "Exception",.type "BaseException",.type "object"] true sn sub ab col dd k0 k1 k2 k3 k5 newId))
  (l:findIn K (.ref C) name=↑none)(j:findIn K (.ref C) "__setattr__"=↑(↑(.builtin "object.__setattr__")))(he:h.get? e=some #[.ref C,none,.fields vs,x])
  (k:∀h' i,h'.get? e=some #[.ref C,↑h.objs.size,.fields vs,x]->h'.Ns1 h.objs.size (λy=>if y=name then ↑v else none)->(∀b o,b≠e->h.get? b=↑o->h'.get? b=↑o)->Q () #[h',g,d,i,os]):
  ε (model prog w) A (setAttr (.ref e) name v) Q E #[h,g,d,t,os]:=by
 have c:=PySem.F.store_ValueError;have Y:=c.slot.bind (.ref e);have P:=IJ (M:=model prog w) X l
 have L:=IJ (M:=model prog w) X j
 unfold setAttr callSpecial? specialOf
 repeat (any_goals (first|assumption|with_reducible refine JT he ?_|with_reducible refine L.at ?_|wp_step))
 have B:(Γ.ref C::[Γ.ref CE,.type "ValueError",.type "Exception",.type "BaseException",.type "object"]).contains (.type "object")=true:=by simp
 have W:=c.args (.ref e) (.str name t) v;refine LR c.slot.plain c.entry ?_
 simp only[checkBuiltinCall,c.kind,c.split];refine Ja ?_
 unfold isInstance
 repeat (first|with_reducible refine JT he ?_|(with_reducible refine LQ D ?_;rw[B])|wp_step)
 refine P.at ?_
 unfold storeInOwnDict
 repeat (first|with_reducible refine JT he ?_|with_reducible refine JT D ?_|with_reducible refine wpAny_nsSet1 (m:=λ_=>none) ?hns ?hk|wp_step)
 case hns=>
  have a:h.objs.size≠e:=J0 (Jl he)
  exact Ψ.Ns1.of_empty #[_,(List.toArray []),_,(Ψ.get?_update_ne _ _ _ _ a).trans (Ψ.get?_push_at Z Z),Z,(λz H=>absurd H (by simp)),λ_=>rfl]
 case hk=>
  intro h' f F;have a:e≠h.objs.size:=Ju (Jl he)
  have s:(h.push {cls:= .type "dict",data:= .dict (List.toArray [])}).get? e=some #[.ref C,none,.fields vs,x]:=Jj _ he
  obtain⟨oD,S,U,u,p,r⟩:=f.count (Within.cons name v Within.nil)
  refine Ja (wpAny_lookBehind u (by rw[p];exact pastItsLine_dict (JH r (by rw[J7,List.length_nil,Jn];omega))) ?_)
  wp_walk
  refine k h' _ ((F.2 e a).trans (ID _ s Z)) ?_ λb o n z=>?_
  ·obtain⟨o',es,I,G,J,O,T,R⟩:=f
   exact#[o',es,I,G,J,O,T,R]
  ·exact(F.2 b (Ju (Jl z))).trans ((Ψ.get?_update_ne _ _ _ _ n).trans (Jj _ z))
end
section
variable{prog:Ξ}{w:Ω}{A:Around}{E:MJ}{K:ι}{h:Ψ}{g:Array GenState}{d:Drawn}{t:Nat}{os:OsState}
variable{nm q:Str}{C N:Δ}{bs bm:Ζ}{sn:Α}{sub:Ζ}{ab:Bool}{col:Option Bool}{dd:Λ}{k0 k1 k2 k3 k5:Ν}{newId:String}{e:Δ}
theorem Bn{name:Str}{v:Γ}{o:Obj}{dx:Δ}{mA:MK}{a:Bool}{Q:MJ}(X:K.In h)(z:h.get? C=↑(excClassObj nm q C N bs bm true sn sub ab col dd k0 k1 k2 k3 k5 newId))(hx:h.get? e=↑o)(hc:o.cls= .ref C)(j:∀c,o.data≠ .cls c)(r:o.dict=↑dx)(f:h.Ns1 dx mA)(hv:mA name=↑v)(G:handedOut v=pure v)
  (n:mroIn K C (.type "BaseException")=↑true)(l:findIn K (.ref C) name=↑none)(i:findIn K (.ref C) "__getattribute__"=↑(↑(.builtin "BaseException.__getattribute__")))(s:findIn K (.ref C) "__getattr__"=↑none)(k:Q v #[h,g,d,t+1,os]):
  ε (model prog w) A (getAttr (.ref e) name a) Q E #[h,g,d,t,os]:=by
 have H:=PySem.F.attr_ValueError.ga.bind (.ref e);have B:(a&&onTheHeap (Γ.builtin "BaseException.__getattribute__"))=false:=by cases a<;>rfl
 have m:(Γ.builtin "BaseException.__getattribute__"==Γ.builtin "object.__getattribute__")=false:=by decide +kernel
 have D:(onTheHeap (Γ.ref C)&&Γ.builtin "BaseException.__getattribute__"==Γ.builtin "object.__getattribute__")=false:=by rw[m];rfl
 have u:=IJ (M:=model prog w) X i
 have y:=IJ (M:=model prog w) X s
 have x:=IJ (M:=model prog w) X l
 unfold getAttr getAttrBy
 repeat (any_goals (first|assumption|(with_reducible refine JT hx ?_;rw[hc])|with_reducible refine u.at ?_|with_reducible refine y.at ?_|wp_step))
 refine LR PySem.F.attr_ValueError.ga.plain F.entry_bexc_ga (gB X hx hc n ?_)
 repeat (any_goals (first|assumption|(with_reducible refine JT hx ?_;rw[hc])|with_reducible refine x.at ?_|(with_reducible refine wpAny_nsGet f.ns ?_;rw[hv])|wp_step))
 split
 ·rename_i c p
  exact absurd p (j c)
 unfold instanceDict
 repeat (first|(with_reducible refine JT hx ?_;rw[hc])|with_reducible refine JT z ?_|wp_step)
 rw[r]
 repeat (first|(with_reducible refine wpAny_nsGet f.ns ?_;rw[hv])|wp_step)
 exact k
end
section
variable{prog:Ξ}{w:Ω}{A:Around}{E:MJ}{h:Ψ}{g:Array GenState}{d:Drawn}{t:Nat}{os:OsState}
variable{nm q:Str}{C N:Δ}{bs bm bmB:Ζ}{hdct:Bool}{sn:Α}{sub:Ζ}{ab:Bool}{col:Option Bool}{dd:Λ}{k0 k1 k2 k3 k5:Ν}{B newId initId:String}{e:Δ}
theorem wM(F:ExcBaseFacts B newId initId bmB)(T:OwnTail h bmB bm){I:MK}{rest:Ζ}{fI:Δ}{H:Obj}{Q:Fin->Θ->Prop}(p:h.get? C=↑(excClassObj nm q C N bs bm hdct sn sub ab col dd k0 k1 k2 k3 k5 newId))(hn:h.Ns N I)(hi:I "__init__"=↑(.ref fI))(D:h.get? fI=↑H)(y:H.cls= .type "function")(l:rest.length<=ζ)
  (k:∀h' e,h.objs.size<=e->Ψ.MadeExcOf h h' e (.ref C) rest->ε (model prog w) A (call (.ref fI) (.ref e::rest)) (λr s'=>r= .none/\Q (.done (.ret (.ref e))) s') E #[h',g,d,t,os]):
  ε (model prog w) A (γ.«type.__call__» #[.ref C::rest,[]]) Q E #[h,g,d,t,os]:=by
 repeat (first|with_reducible refine JT p ?_|with_reducible refine wpAny_madeBy_exc p ?_|wp_step)
 refine codeAny_call_builtin_code (Mo _ F.quiet) (wpAny_check_new_subT F T p (codeAny_exc_new_subT F T p ?_ l))
 show ε _ _ _ _ _ _
 obtain⟨i,c⟩:∃i:Obj,i=#[.type "tuple",none,.seq rest.toArray 0,(List.toArray [])]:=#[_,Z]
 obtain⟨f,a⟩:∃f:Obj,f=#[.ref C,none,.fields (jI h.objs.size),(List.toArray [])]:=#[_,Z]
 have up:∀b o,h.get? b=↑o->((h.push i).push f).get? b=↑o:=λb o z=>Jj _ (Jj _ z)
 have s:((h.push i).push f).get? (h.objs.size+1)=↑f:=by rw[c,a];heap_get
 have x:((h.push i).push f).get? h.objs.size=↑i:=by rw[c,a];exact Jj _ (Ψ.get?_push_at Z Z)
 have u:(Γ.ref C::bm).contains (.ref C)=true:=by simp
 have n:=up _ _ p;have J:=T.keeps up;have G:=hn.keeps up;have v:f.cls= .ref C:=by rw[a]
 have j:Ψ.MadeExcOf h ((h.push i).push f) (h.objs.size+1) (.ref C) rest:=#[up,Lx (JW _),h.objs.size,by rw[s,a],Lx (Je _),by rw[x,c]]
 have m:(h.push {cls:= .type "tuple",data:= .seq rest.toArray}).push {cls:= .ref C,data:= .fields (List.toArray [.ref h.objs.size,.none,.none,.none,.bool false,.none])}=(h.push i).push f:=by rw[c,a]
 rw[m];clear m c a;unfold isInstance
 repeat (first|(with_reducible refine JT s ?_;rw[v])|(with_reducible refine LQ n ?_;rw[u])|wp_step)
 show ε _ _ (typeLookup (.ref C) _) _ _ _
 refine wpAny_typeLookup_tail n G J F.mroIs F.init.lookup ?_
 rw[hi];refine J2 (Ja ?_)
 unfold bindSpecial;refine Ja (wpAny_typeOf (T:="function") #[_,up _ _ D,y] ?_)
 rw[Jd ⋯]
 refine Jh (Ja (JJ (k _ _ (JW _) j) (λr s' z=>?_) λ_ _ z=>z))
 obtain⟨rfl,z⟩:=z
 wp_walk
 exact z
theorem yq(F:ExcBaseFacts B newId initId bmB)(T:OwnTail h bmB bm){j:MK}{rest:Ζ}{fI:Δ}{l:Obj}{Q:MJ}(c:h.get? C=↑(excClassObj nm q C N bs bm hdct sn sub ab col dd k0 k1 k2 k3 k5 newId))(hn:h.Ns N j)(hi:j "__init__"=↑(.ref fI))(f:h.get? fI=↑l)(i:l.cls= .type "function")(a:rest.length<=ζ)
  (k:∀h' e,h.objs.size<=e->Ψ.MadeExcOf h h' e (.ref C) rest->ε (model prog w) (A.under (.builtin "type.__call__" #[.ref C::rest,[]])) (call (.ref fI) (.ref e::rest)) (λr s'=>r= .none/\Q (.ref e) s') E #[h',g,d,t,os]):
  ε (model prog w) A (call (.ref C) rest) Q E #[h,g,d,t,os]:=by
 have f1:=tc_lookup;have f2:=tc_bind (.ref C);have m:(#[h,g,d,t,os]:Θ).TypeIs (.ref C) "type":=#[_,c,Z]
 refine Lh (codeAny_of_tree ?_)
 show ε _ _ (callAny (.ref C) _) _ _ _
 repeat (any_goals (first|assumption|with_reducible refine JT c ?_|wp_step))
 exact#[Z,codeAny_call_builtin_at (Mo _ nofun) entry_typeCall (wpAny_check_type_call_sub c (wM F T c hn hi f i a k))]
theorem vV{env:Env}{s:Θ}{x:Sem Γ}{Q:Flow->Θ->Prop}(a:bm.contains (.type "BaseException")=true)(l:A.handled=none)
  (k:ε (model prog w) A x (λv c=>∃e t h i,v= .ref e/\c.heap.get? C=↑(excClassObj nm q C N bs bm hdct sn sub ab col dd k0 k1 k2 k3 k5 newId)/\c.heap.get? e=some #[.ref C,h,.fields (jI t),i]/\E (.ref e) c) E s):ε (model prog w) A (raiseStmt env ↑x none) Q E s:=by
 have f:(Γ.ref C::bm).contains (.type "BaseException")=true:=by rw[LP,a,Bool.or_true]
 unfold raiseStmt;refine Ja (JJ k (λv c z=>?_) λ_ _ z=>z)
 obtain⟨e,t,h,i,rfl,j,m,n⟩:=z;obtain⟨o,g,d,tk,os⟩:=c
 repeat (first|with_reducible refine JT m ?_|with_reducible refine JT j ?_|(with_reducible refine LQ j ?_;rw[f])|wp_step)
 exact wpAny_raiseNew_none l n
end
end L3
namespace L3
open PySem PySem.Spec PyProof.Rows L2
def OH(a:Δ)(cls:Γ)(dd:Λ):HO:= .ext λh=>∃t c,h.get? a=some #[cls,dd,.fields (jI t),c]
def Oo(a:Δ)(cls:Γ)(dd:Λ):HO:= .ext λh=>∃o c,h.get? a=↑o/\o.cls=cls/\o.data= .fields c/\o.dict=dd
theorem OH.ok{P:Ξ}{w:Ω}{H:Hp}{h:Ψ}{a t:Δ}{cls:Γ}{dd:Λ}{c:Array Ν}(e:h.get? a=some #[cls,dd,.fields (jI t),c]):M3 P w H h a (OH a cls dd):=
 #[#[t,c,e],#[_,e],λh1 d ⟨t,c,e⟩ k=>#[t,c,k _ e]]
theorem Oo.ok{P:Ξ}{w:Ω}{H:Hp}{h:Ψ}{a:Δ}{cls:Γ}{dd:Λ}{o:Obj}{vs:Array Γ}(e:h.get? a=↑o)(c:o.cls=cls)(d:o.data= .fields vs)(x:o.dict=dd):M3 P w H h a (Oo a cls dd):=
 #[#[o,vs,e,c,d,x],#[o,e],λh1 f ⟨o,vs,e,c,d,x⟩ k=>#[o,vs,k o e,c,d,x]]
def aE(P:Ξ)(w:Ω):gn:=λouter H s E e s'=>∃a cls dd T H',e= .ref a/\s'.os=s.os/\AllBare s'.gens/\Un (Qp outer) [] H H' s.heap s'.heap/\NS P w H' s'.heap/\
 H' a=↑(Oo a cls dd)/\s.heap.get? a=none/\s.heap.get? T=none/\H' T=none/\(∃c d g f h,s'.heap.get? a=↑c/\c.cls=cls/\c.dict=dd/\c.data= .fields d/\d[0]? =↑h/\d[1]? =↑(.ref T)/\T≠a/\s'.heap.get? T=↑g/\g.data= .fields f/\f[3]? =some .none)/\E (.ref a) none H'
theorem vj{P:Ξ}{w:Ω}{K:ι}{mg:MK}{base:Ψ}{N:Α}{Tb:Str}{h:Scope}{f:Δ}{Q:Γ}{A:Around}{outer:Ο}{i:Θ}{H0:Hp}{E:XK}
  {tx:ML}{σ:L2.St}{H:Hp}{s:Θ}{e:Δ}{cls:Γ}{dd:Λ}(I:L2.MQ (Qs (aE P w) P w K mg base N Tb h f Q A outer i H0 E) tx σ H s)(he:H e=↑(OH e cls dd))(hn:i.heap.get? e=none)
  (q:E (.ref e) none (MO H e (Oo e cls dd))):(Qs (aE P w) P w K mg base N Tb h f Q A outer i H0 E).xe (.ref e) s:=by
 obtain⟨⟨t,a1,ee⟩,_,_⟩:=I.hok e _ he;obtain⟨fl,l⟩:∃fl,fl=i.heap.objs.size::Qp outer:=#[_,Z]
 have J:Qp ((Qs (aE P w) P w K mg base N Tb h f Q A outer i H0 E).stack)=fl:=l.symm
 have tk:∀c u,H c=↑u->c∉fl:=λc u g hm=>by
  have:=I.stkFree c (by rw[J];exact hm)
  rw[g]at this;cases this
 have j:Un (Qp outer) [] H0 H i.heap s.heap:=I.base
 have ab:∀b o,i.heap.get? b=↑o->b≠i.heap.objs.size:=λb o e z=>absurd (Jl e) (by rw[z];exact J1 _)
 refine DS (base:=am s.heap (e::fl)) (L:=i.heap.objs.size) (e:=e) I.ok.frames (aD I.stack λb a=>QB (JC _ (by rw[l];exact a))) Z ee (λb o z=>(eL z).2) (QB (JB ..)) Z Z Z λh' k1 k2 k3 k4=>?_
 obtain⟨oe,vs,T,oT,ts,a0,W,g,y,hd,h0,h1,hT,x,Y,X,h3⟩:=k3.ex;have F:∀b o,b≠e->b∉fl->s.heap.get? b=↑o->h'.get? b=↑o:=λb o n1 n2 z=>k1 b o (by rw[Z9 (λm=>(Ji.mp m).elim n1 n2)];exact z)
 have D:∀b o,s.heap.get? b=↑o->b∈fl->∃D,h'.get? b=some {o with slots:=D}:=λb o z m=>by
  obtain⟨_,o',B,U⟩:=I.stack.mem (show b∈Qp _ by rw[J];exact m)
  rw[z]at B;cases B
  exact k4 b o z U
 have p:s.heap.get? T=none:=by
  cases z:s.heap.get? T with
  |none=>rfl
  |some o=>
   by_cases m:T∈fl
   ·obtain⟨_,o',B,U⟩:=I.stack.mem (show T∈Qp _ by rw[J];exact m)
    obtain⟨s1,G⟩:=D T o z m;rw[z]at B;cases B
    rw[Y]at G;cases G
    exact absurd X (U ts)
   ·rw[Z9 (λm'=>(Ji.mp m').elim x m),z]at hT
    cases hT
 have R:H T=none:=NS.none I.hok p
 have r:∀b o,i.heap.get? b=↑o->b≠e/\b≠T:=λb o a=>by
  obtain⟨o',d⟩:=j.there b o a (by simp)
  exact#[λz=>by(rw[z,hn]at a;cases a),λz=>by(rw[z,p]at d;cases d)]
 have M:i.heap.get? T=none:=by
  cases z:i.heap.get? T with
  |none=>rfl
  |some o=>
   obtain⟨o',d⟩:=j.there T o z (by simp)
   rw[p]at d;cases d
 have O:∀b o,i.heap.get? b=↑o->b∉Qp outer->b∉fl:=λb o a n m=>by
  rw[l]at m;rcases Ji.mp m with z|z
  ·exact ab b o a z
  ·exact n z
 refine#[e,cls,dd,T,MO H e (Oo e cls dd),Z,I.os,I.bare,#[λb o a hn n _=>?_,λb o a hn n _=>?_,λb o a hn _=>?_,λb o a _=>?_,λb xs a=>?_,λb o u a=>?_,λb ps a=>?_],λb u a=>?_,qa,hn,M,by rw[qk x];exact R,#[oe,vs,oT,ts,a0,W,g,y,hd,h0,h1,x,Y,X,h3],q]
 ·exact F b o (r b o a).1 (O b o a n) (j.keep b o a hn n (by simp))
 ·obtain⟨s1,G⟩:=j.slot b o a hn n (by simp)
  obtain⟨s2,S⟩:=D b _ G (by rw[l];exact JC _ n)
  exact#[s2,S]
 ·rw[qk (r b o a).1]
  exact j.free b o a hn (by simp)
 ·obtain⟨o',d⟩:=j.there b o a (by simp)
  by_cases z:b∈fl
  ·obtain⟨s2,S⟩:=D b _ d z
   exact#[_,S]
  ·exact#[_,F b _ (r b o a).1 z d]
 ·have z:=j.tups b xs a
  rw[qk (zr z he (by intro z;cases z))];exact z
 ·have z:=j.frzs b o u a
  rw[qk (zr z he (by intro z;cases z))];exact z
 ·obtain⟨C,z⟩:=j.tbls b ps a
  exact#[C,by rw[qk (zr z he (by intro z;cases z))];exact z]
 ·by_cases z:b=e
  ·subst z
   rw[qa]at a;cases a
   exact Oo.ok W g hd y
  ·rw[qk z]at a
   refine(I.hok b u a).stay (λc v g hv=>?_) (λc g=>by rw[qk (zr g he (by intro z;cases z))];exact g) (λc xs g=>by rw[qk (zr g he (by intro z;cases z))];exact g)
   rcases g with rfl|g
   ·exact F _ _ z (tk _ _ a) hv
   ·exact F _ _ (zr g he (by intro z;cases z)) (tk _ _ g) hv
def lB(X:Cx)(a:XK):Prop:=∀(tx:ML) (σ:L2.St) (H:Hp) (s:Θ) (e:Δ) (cls:Γ) (dd:Λ),L2.MQ X tx σ H s->H e=↑(OH e cls dd)->X.s₀.heap.get? e=none->a (.ref e) none (MO H e (Oo e cls dd))->X.xe (.ref e) s
theorem Qn{P:Ξ}{w:Ω}{K:ι}{mg:MK}{base:Ψ}{N:Α}{Tb:Str}{a:Scope}{f:Δ}{d:Γ}{A:Around}{outer:Ο}{g:Θ}{H0:Hp}{E:XK}:
  lB (Qs (aE P w) P w K mg base N Tb a f d A outer g H0 E) E:=λ_ _ _ _ _ _ _ I c e q=>vj I c e q
end L3
namespace L3
open PySem PySem.Spec PySem.Calls PyProof.Rows L2
theorem nF{X:Cx}{tx:ML}{σ:L2.St}{H:Hp}{s:Θ}{h':Ψ}{a:Δ}{o:HO}{t':Nat}(I:L2.MQ X tx σ H s)(k:∀b u,s.heap.get? b=↑u->h'.get? b=↑u)(hn:s.heap.get? a=none)(new:M3 X.prog X.w (MO H a o) h' a o):L2.MQ X tx σ (MO H a o) {s with heap:=h',toks:=t'}:=by
 have d:H a=none:=NS.none I.hok hn
 have e:∀b u,s.heap.get? b=↑u->b≠a:=λb u q z=>by rw[z,hn]at q;cases q
 refine I.un #[λb u q _ _ _=>k b u q,λb u q _ _ _=>#[u.slots,k b u q],λb u q n _=>by rw[qk (e b u q)];exact n,λb u q _=>#[u,k b u q],λb xs q=>by rw[qk (qr q d)];exact q,λb u xs q=>by rw[qk (qr q d)];exact q,λb ps q=>#[(List.toArray []),by rw[qk (qr q d),q];simp]] λb u q=>?_
 by_cases z:b=a
 ·subst z;rw[qa]at q;cases q;exact new
 ·rw[qk z]at q
  exact(I.hok b u q).stay (λc v _ r=>k c v r) (λc r=>by rw[qk (qr r d)];exact r) λc xs r=>by rw[qk (qr r d)];exact r
theorem uv{X:Cx}{tx:ML}{σ:L2.St}{H:Hp}{s:Θ}{a:Δ}(I:L2.MQ X tx σ H s)(hx:X.ex=[])(hn:s.heap.get? a=none):X.s₀.heap.get? a=none:=by
 cases z:X.s₀.heap.get? a with
 |none=>rfl
 |some o=>
  obtain⟨o',c⟩:=I.base.there a o z (by rw[hx];simp)
  rw[hn]at c;cases c
def C8(d:XK)(C:Δ)(ta:TA):TS:=λ_ σ H=>ta σ H λc H1=>c.length<=ζ/\∀a,H1 a=none->d (.ref a) none (MO (MO H1 a (OH a (.ref C) none)) a (Oo a (.ref C) none))
theorem QP{X:Cx}{p:XK}{x:Str}{C:Δ}{bm bmB:Ζ}{B newId initId:String}{J cpos pos:Pos}{a:Φ}{es:Ι}{ta:TA}(y:lB X p)(d:X.calm=true)(n:X.ex=[])(F:ExcBaseFacts B newId initId bmB)(hg:Gl X x)(hm:X.mg x=↑(.ref C))(v:aL X.K C bm bmB newId=true)(ha:QA X (a::es) ta)
  (f:bm.contains (.type "BaseException")=true)(hs:θ (a::es) X.env=(false,eval a X.env)::θ es X.env:=by rfl)(c:(backTo cpos (θ es X.env)).any (·.1)=false:=by rfl)(hd:(x==("__debug__":Str))=false:=by decide):QS X (.Raise ↑(.Call (.Name x J) (a::es) [] cpos) none pos) (C8 p C ta):=#[by
 intro tx s σ H D I h;obtain⟨N,nm,M,bs,hdct,sn,sub,ab,col,dd,k0,k1,k2,k3,k5,P,A,z,l,T⟩:=sG I.ok.mod.kin v;have u:=ha.h cpos tx s σ H _ I h;rw[hs]at u;refine wpAny_Raise_call_subT F (nm:=nm) (q:=M) (C:=C) (N:=N) (bs:=bs) (bm:=bm) (hdct:=hdct) (sn:=sn) (sub:=sub) (ab:=ab) (col:=col) (dd:=dd) (k0:=k0) (k1:=k1) (k2:=k2) (k3:=k3) (k5:=k5) f (I.ok.hd d) (by rw[hs];show(false||(backTo cpos (θ es X.env)).any (·.1))=false;rw[c];rfl) l (Z8 I hg hm #[Z,?_] hd)
 rw[hs];refine Mb (qF u λw j E=>?_)
 obtain⟨O,H1,i,r,G,q⟩:=E;have m:∀b o,X.base.get? b=↑o->j.heap.get? b=↑o:=λb o e=>(i.bs b o e).1
 refine#[Z,by show w.length<=ζ;rw[<- r.length];exact G,m _ _ A,z.keeps m,T.keeps m,λh' e g=>?_]
 obtain⟨t,L,_,_⟩:=g.there;have K:L2.MQ X tx σ (MO H1 e (OH e (.ref C) none)) {j with heap:=h'}:=nF (t':=j.toks) i g.keeps g.new (OH.ok L)
 exact y tx σ _ _ e _ none K qa (uv i n g.new) (q e (NS.none i.hok g.new))]
def cG(K:ι)(C:Δ)(bm bmB:Ζ)(newId:String)(fI:Δ):Bool:=match K.lookup C with
 |some ⟨.type "type",_,.cls cd,sl⟩=>(match sl.toList with
  | [_,_,_,_,↑(.builtin n),_]=>cd.mro== .ref C::bm&&n==newId&& ! cd.hasDel&&cd.hasDict&&PySem.W.tailIn K bmB bm&&PySem.W.nsOkIn K cd.ns&&PySem.W.nsIn K cd.ns "__init__"==↑(↑(.ref fI))
  |_=>false)
 |_=>false
theorem Gj{K:ι}{h:Ψ}{N:Δ}{m:MK}{n:Str}{v:Γ}(X:K.In h)(G:h.Ns N m)(e:W.nsIn K N n=↑(↑v)):m n=↑v:=by
 obtain⟨p,es,j,a,da,_,i⟩:=G;unfold W.nsIn at e;split at e
 ·rename_i l q d n1 f z
  have c:=X _ _ z;rw[a]at c;cases c;cases da
  split at e
  ·rename_i o g
   cases e;rw[<- i n];unfold nsFind findBy;rw[<- Array.find?_toList,g];rfl
  ·split at e<;>cases e
 ·cases e
theorem cZ{K:ι}{h:Ψ}{C fI:Δ}{bm bmB:Ζ}{newId:String}(X:K.In h)(q:cG K C bm bmB newId fI=true):
  ∃N nm f bs sn sub ab col dd k0 k1 k2 k3 k5 j,h.get? C=↑(excClassObj nm f C N bs bm true sn sub ab col dd k0 k1 k2 k3 k5 newId)/\h.Ns N j/\j "__init__"=↑(.ref fI)/\OwnTail h bmB bm:=by
 unfold cG at q;split at q
 ·rename_i dd t o r
  split at q
  ·rename_i k0 k1 k2 k3 n k5 i
   simp only[JU,Ic,MF]at q;obtain⟨⟨⟨⟨⟨⟨g,rfl⟩,a⟩,e⟩,m⟩,c⟩,d⟩:=q;obtain⟨nm,bs,p,s,f,v,sn,sub,ab,col,u⟩:=t
   dsimp only at g a e c d
   subst g a e;obtain⟨l⟩:=o;simp only at i
   subst i
   exact#[s,nm,f,bs,sn,sub,ab,col,dd,k0,k1,k2,k3,k5,_,X _ _ r,.of_isNs (W.isNs_of_in X c),Gj X (.of_isNs (W.isNs_of_in X c)) d,W.tail_of_in X m]
  ·cases q
 ·cases q
structure Xi(P:Ξ)(w:Ω)(K:ι)(mg:MK)(base:Ψ)(C:Δ)(x:Str)(bm bmB:Ζ)(newId:String)(ps:Α)(k:Nat)(sp:Sp):Prop where
 ex:∃(f:Δ) (fd:FuncData),N9 P w K mg base bI k f fd ps sp/\cG K C bm bmB newId f=true/\PySem.W.isFn K (.ref f)=true/\mg x=↑(.ref C)/\NF K fd ps []
def El(d:XK)(C:Δ)(sp:Sp)(ta:TA):TS:=λ_ σ H=>ta σ H λa H1=>a.length<=ζ/\∀e,H1 e=none->sp (.ref e::(a++[])) (MO H1 e (OH e (.ref C) none)) (λv c=>v= .non/\∃dd,c e=↑(OH e (.ref C) dd)/\d (.ref e) none (MO c e (Oo e (.ref C) dd))) E0
theorem EH{K:ι}{h:Ψ}{f:Δ}(X:K.In h)(q:W.isFn K (.ref f)=true):∃o,h.get? f=↑o/\o.cls= .type "function":=by
 have z:W.typeIn K (.ref f)=↑(.type "function"):=Ic.mp q
 have a:(K.lookup f).map (·.cls)=↑(.type "function"):=z
 cases e:K.lookup f with
 |none=>rw[e]at a;cases a
 |some o=>
  rw[e]at a
  exact#[o,X _ _ e,JE a]
theorem nA{X:Cx}{Y:XK}{x:Str}{C:Δ}{bm bmB:Ζ}{B newId initId:String}{ps:Α}{k:Nat}{sp:Sp}{np cpos pos:Pos}{a:Φ}{es:Ι}{ta:TA}(hT:lB X Y)(j:X.calm=true)(W:X.ex=[])(F:ExcBaseFacts B newId initId bmB)(hg:Gl X x)(M:Xi X.prog X.w X.K X.mg X.base C x bm bmB newId ps k sp)(hr:M9 (k+1) X.A)(ha:QA X (a::es) ta)
  (l:bm.contains (.type "BaseException")=true)(hs:θ (a::es) X.env=(false,eval a X.env)::θ es X.env:=by rfl)(i:(backTo cpos (θ es X.env)).any (·.1)=false:=by rfl)(hd:(x==("__debug__":Str))=false:=by decide):QS X (.Raise ↑(.Call (.Name x np) (a::es) [] cpos) none pos) (El Y C sp ta):=#[by
 intro tx s σ H D I h;obtain⟨f,fd,FI,hK,O,hm,hb⟩:=M.ex;obtain⟨N,nm,qn,bs,sn,sub,ab,col,dd,k0,k1,k2,k3,k5,mN,hC,hN,P,T⟩:=cZ I.ok.mod.kin hK;have hA:=ha.h cpos tx s σ H _ I h;rw[hs]at hA;have n:(backTo cpos (θ (a::es) X.env)).any (·.1)=false:=by rw[hs];show(false||(backTo cpos (θ es X.env)).any (·.1))=false;rw[i];rfl
 rw[arm_exec_Raise];refine Ja (Iu (vV (C:=C) (nm:=nm) (q:=qn) (N:=N) (bs:=bs) (bm:=bm) (hdct:=true) (sn:=sn) (sub:=sub) (ab:=ab) (col:=col) (dd:=dd) (k0:=k0) (k1:=k1) (k2:=k2) (k3:=k3) (k5:=k5) (newId:=newId) l (I.ok.hd j) ?_))
 refine Ja (JJ (wpAny_Call_ofName (Z8 I hg hm ?_ hd)) (λv s3 z=>Ja (Iu (Jh z))) λ_ _ z=>z)
 unfold callWith;refine Ja (J2 ?_)
 rw[hs];refine Mb (qF hA λc s1 ⟨vs,H1,A,r,hl,q⟩=>Ja (Iu ?_))
 have S:∀b o,X.base.get? b=↑o->s1.heap.get? b=↑o:=λb o e=>(A.bs b o e).1
 have p:=S _ _ hC;obtain⟨hp,g,d,tk,os⟩:=s1;rw[hs]at n;simp only[n];refine Ja (wpAny_keeperOf_exc p ?_)
 have K1:X.K.In hp:=A.kIn
 obtain⟨oI,Q,K⟩:=EH K1 O;refine Ja (yq F (T.keeps S) p (hN.keeps S) P Q K (by show c.length<=ζ;rw[<- r.length];exact hl) λh' e a0 y=>?_)
 obtain⟨t,he,_,_⟩:=y.there;have G:L2.MQ X tx σ (MO H1 e (OH e (.ref C) none)) #[h',g,d,tk,os]:=nF (t':=tk) A y.keeps y.new (OH.ok he)
 have qe:=q e (NS.none A.hok y.new);have r2:MU (.ref e::(vs++[])) (Γ.ref e::(c++[])):=by rw[LB,LB];exact .cons Z r
 have R:((Γ.ref e::c)++[]).length=ps.length:=by
  have z:=r2.length;rw[FI.len _ _ _ _ qe]at z;exact z.symm
 have L:BindsTo #[h',g,d,tk,os] fd #[Γ.ref e::c,[]] (ps.zip (Γ.ref e::(c++[]))):=by
  have z:=hb #[h',g,d,tk,os] (Γ.ref e::c) G.kIn R
  rw[List.cons_append]at z;exact z
 refine Lh (IQ (FI.run _ X.stack _ _ #[Γ.ref e::c,[]] (Γ.ref e::(c++[])) _ _ E0 (hr.make C c []) (G.env0.make C c []) L r2 qe) λrr s' m=>?_)
 cases rr with
 |error e=>exact(ki tx σ _ _ e s' G m)
 |ok fl=>
  cases fl with
  |ret u=>
   obtain⟨v,H',U,rv,ev,w,E,q3⟩:=G.after m;subst ev;refine#[rv,Ja (J2 (wpAny_point (Jh ?_)))]
   obtain⟨⟨t3,J,e3⟩,_,_⟩:=U.hok e _ E
   exact#[e,t3,w,J,Z,(U.bs _ _ hC).1,e3,hT tx σ _ _ e _ w U E (uv A W y.new) q3]
  |next=>exact False.elim m
  |brk=>exact False.elim m
  |cont=>exact False.elim m]
theorem EN{H:Hp}{a:Δ}{o:HO}(h:H a=↑o):MO H a o=H:=by
 funext b
 by_cases z:b=a
 ·subst z;rw[qa,h]
 ·rw[qk z]
theorem uU{M:Model}{A:Around}{E:MJ}{s:Θ}{K:ι}{env:Env}{pos:Pos}{b:String}{first:Ζ}{Q:MJ}{e:Φ}{rest:Ι}(h:ε M A (spliced (backTo pos (θ (e::rest) env))) (λd c=>K.In c.heap/\ε M A (call (.builtin b) (first++d)) Q E c) E s)
  (he:θ (e::rest) env=(false,eval e env)::θ rest env:=by rfl)(a:(backTo pos (θ rest env)).any (·.1)=false:=by rfl):ε M A (callWith pos (.builtin b) first (backTo pos (θ (e::rest) env)) []) Q E s:=by
 rw[he]at h⊢;exact W.callWith_of (P:=λh=>K.In h) (by show((false||(backTo pos (θ rest env)).any (·.1))||false)=false;rw[a];rfl) (λh _=>#[.machine,.inr (.inl Z),.now]) (PySem.Calls.evalArgs_plain h)
structure Sr(K:ι)(CE:Δ)(initId:String):Prop where
 sp:PySem.W.specialIn K (.ref CE) "__getattribute__"=↑(↑(.builtin "type.__getattribute__"))
 rd:PySem.W.readsIn K CE (.type "type")=true
 fc:PySem.W.findCls K (.ref CE) (.type "type") "__init__"=↑(.val (.builtin initId))
 hi:PySem.W.handedIn (.builtin initId)=true
def yh(C:Δ)(t:TA):TE:=λσ H Q=>t σ H λa H1=>∃(e:Δ) (v:V),a=[.ref e,v]/\H1 e=↑(OH e (.ref C) none)/\Q .non H1
theorem tE{X:Cx}{x:Str}{CE C fI:Δ}{bm bmB:Ζ}{B newId initId:String}{c a:Φ}{j apos pos:Pos}{t:TA}{pl:Sem Bool}(F:ExcBaseFacts B newId initId bmB)(hg:Gl X x)(hm:X.mg x=↑(.ref CE))(B:Sr X.K CE initId)(G:cG X.K C bm bmB newId fI=true)(ha:QA X [c,a] t)
  (hst:θ [c,a] X.env=(false,eval c X.env)::θ [a] X.env:=by rfl)(hpl:(backTo pos (θ [a] X.env)).any (·.1)=false:=by rfl)(hd:(x==("__debug__":Str))=false:=by decide)
  (E:eval (.Call (.Attribute (.Name x j) "__init__" apos) [c,a] [] pos) X.env=(do
   let m <- eval (.Name x j) X.env
   standAt apos.atName
   let(f,first) <- holding [m] (getMethod m "__init__" pl)
   callWith pos f first (backTo pos (θ [c,a] X.env)) (backToKw pos (keywordEach [] X.env))):=by rfl):
  QE X (.Call (.Attribute (.Name x j) "__init__" apos) [c,a] [] pos) (yh C t):=#[by
 intro tx s σ H Q I h;obtain⟨N,nm,qn,bs,sn,sub,ab,col,dd,k0,k1,k2,k3,k5,mN,L,Y,O,T⟩:=cZ I.ok.mod.kin G;refine Mn (pl:=pl) (Z8 I hg hm ?_ hd) E
 refine W.method_cls I.kIn B.sp (W.cls_value I.kIn B.rd B.fc B.hi ?_)
 have P:L2.MQ X tx σ H {s with toks:=s.toks+1}:=I.tok _
 refine uU (first:=[]) (K:=X.K) (qF (ha.h pos tx _ σ H _ P h) λS A ⟨vs,D,i,r,e,v,M,l,q⟩=>#[i.kIn,?_]) hst hpl
 subst M;obtain⟨u1,u2,rfl,R,r2⟩:=cE r;cases R;obtain⟨⟨U,sl,J⟩,_,_⟩:=i.hok e _ l;have p:∀b o,X.base.get? b=↑o->A.heap.get? b=↑o:=λb o z=>(i.bs b o z).1
 obtain⟨hp,g,d,tk,os⟩:=A;refine oH F (T.keeps p) (p _ _ L) J λh' y k'=>?_
 have w:L2.MQ X tx σ (MO D e (OH e (.ref C) none)) #[h',g,d,tk,os]:=i.write (x:=e) (e:=e) (t':=tk) (by rw[l];exact trivial) (.inl Z) (λb u n z=>k' b u n z) #[_,y] (OH.ok y)
 rw[EN l]at w
 exact#[.non,D,w,Z,q]]
abbrev CU:Ζ:=[.type "ValueError",.type "Exception",.type "BaseException",.type "object"]
theorem BV{X:Cx}{tx:ML}{σ:L2.St}{H:Hp}{s:Θ}{h':Ψ}{e d t:Δ}{cls u:Γ}{f:Str}{y:V}{C:Array Ν}{t':Nat}(I:L2.MQ X tx σ H s)(he:H e=↑(OH e cls none))(hd:d=s.heap.objs.size)(w:h'.get? e=some #[cls,↑d,.fields (jI t),C])(m:h'.Ns1 d (λz=>if z=f then ↑u else none))(D:MT y u)(k:∀b o,b≠e->s.heap.get? b=↑o->h'.get? b=↑o):
  L2.MQ X tx σ (MO (MO H d (.xd [(f,y)])) e (OH e cls ↑d)) {s with heap:=h',toks:=t'}:=by
 have h:s.heap.get? d=none:=by rw[hd];exact Lx (Je _)
 have p:H d=none:=NS.none I.hok h
 have A:d≠e:=(qr he p).symm
 have B:∀b u,s.heap.get? b=↑u->b≠d:=λb u q z=>by rw[z,h]at q;cases q
 have ne:∀b,H b=none->b≠e:=λb n z=>by rw[z,he]at n;cases n
 have i:∀b,b≠d->b≠e->MO (MO H d (.xd [(f,y)])) e (OH e cls ↑d) b=H b:=λb n1 n2=>by rw[qk n2,qk n1]
 have tup:∀b o,H b=↑o->(∀a,o≠ .ext a)->MO (MO H d (.xd [(f,y)])) e (OH e cls ↑d) b=↑o:=λb o q n=>by
  rw[i b (qr q p) (zr q he (n _))];exact q
 refine I.un #[λb o q n _ _=>k b o (ne b n) q,λb o q n _ _=>#[o.slots,k b o (ne b n) q],λb o q n _=>by rw[i b (B b o q) (ne b n)];exact n,λb o q _=>?_,λb xs q=>tup b _ q (by intro a z;cases z),λb o xs q=>tup b _ q (by intro a z;cases z),λb ps q=>#[(List.toArray []),by rw[tup b _ q (by intro a z;cases z)];simp]] λb o q=>?_
 ·by_cases z:b=e
  ·rw[z];exact#[_,w]
  ·exact#[o,k b o z q]
 ·by_cases z:b=e
  ·subst z;rw[qa]at q;cases q;exact OH.ok w
  ·rw[qk z]at q
   by_cases x:b=d
   ·subst x;rw[qa]at q;cases q
    refine#[_,m,λg=>?_]
    by_cases l:g=f
    ·subst l
     rw[Jd Z,MB];exact D
    ·rw[Jc l,J9,La l];exact trivial
   ·rw[qk x]at q
    refine(I.hok b o q).stay (λc v j r=>k c v ?_ r) (λc r=>tup c _ r (by intro a z;cases z)) λc xs r=>tup c _ r (by intro a z;cases z)
    rcases j with rfl|j
    ·exact z
    ·exact zr j he (by intro z;cases z)
structure RZ(K:ι)(CE C fI:Δ)(f:Str):Prop where
 bi:cG K C (.ref CE::CU) CU "ValueError.__new__" fI=true
 na:PySem.W.findIn K (.ref C) f=↑none
 sa:PySem.W.findIn K (.ref C) "__setattr__"=↑(↑(.builtin "object.__setattr__"))
 cl:OR K C
def F9(C:Δ)(f:Str)(ta tv:TE):TS:=λD σ H=>tv σ H λy H1=>ta σ H1 λx a=>∃e,x= .ref e/\a e=↑(OH e (.ref C) none)/\∀d,a d=none->D.nx σ (MO (MO a d (.xd [(f,y)])) e (OH e (.ref C) ↑d))
theorem C6{X:Cx}{CE C fI:Δ}{f:Str}{o value:Φ}{pos pos':Pos}{ta tv:TE}(B:RZ X.K CE C fI f)(ha:QE X o ta)(hv:QE X value tv)(hs:swapsWith value ↑(.Attribute o f pos') pos.line X.env=pure false:=by rfl):QS X (.Assign [.Attribute o f pos'] value pos) (F9 C f ta tv):=#[by
 intro tx s σ H D I h;obtain⟨N,nm,Q,bs,sn,sub,ab,col,dd,k0,k1,k2,k3,k5,O,p,M,w,T⟩:=cZ I.ok.mod.kin B.bi;refine plainObj_wpAny_Assign_Attribute (qF (hv.h tx s σ H _ I h) λu r ⟨y,H1,E,J,q⟩=>qF (ha.h tx r σ H1 _ E q) λv K t=>?_) hs
 obtain⟨x,R,a,n,e,ex,l,A⟩:=t;subst ex
 obtain rfl:v=Γ.ref e:=n
 obtain⟨⟨L,P,m⟩,_,_⟩:=a.hok e _ l;have i:=(a.bs _ _ p).1;have hk:=a.kIn;obtain⟨z,g,d,tk,os⟩:=K;refine Ao hk i B.na B.sa m λh' c G j k'=>?_
 have F:=BV (t':=c) (s:=#[z,g,d,tk,os]) a l Z G j J k'
 exact#[σ,_,F,A _ (NS.none a.hok (Lx (Je _)))]]
def Gt(C:Δ)(f:Str)(ta:TE):TE:=λσ H Q=>ta σ H λx H1=>∃(e d:Δ) (fs:List (Str×V)) (v:V),x= .ref e/\H1 e=↑(Oo e (.ref C) ↑d)/\H1 d=↑(.xd fs)/\fs.lookup f=↑v/\Q v H1
theorem DA{X:Cx}{CE C fI:Δ}{f:Str}{e:Φ}{pos:Pos}{ta:TE}(B:RZ X.K CE C fI f)(he:QE X e ta)(hb:attributeBase e f X.env (eval e X.env)=eval e X.env:=by rfl):QE X (.Attribute e f pos) (Gt C f ta):=#[by
 intro tx s σ H Q I h;obtain⟨N,nm,Y,bs,sn,sub,ab,col,dd,k0,k1,k2,k3,k5,U,F,M,K,T⟩:=cZ I.ok.mod.kin B.bi;refine tR hb (qF (he.h tx s σ H _ I h) λu t J=>?_)
 obtain⟨x,H1,i,A,a,d,fs,v,ex,E,L,l,q⟩:=J;subst ex
 obtain rfl:u=Γ.ref a:=A
 obtain⟨⟨o,O,G,D,p,m⟩,_,_⟩:=i.hok a _ E;obtain⟨mA,n,r⟩:=(show∃mA,t.heap.Ns1 d mA/\∀f,NU (fs.lookup f) (mA f)from i.hok d _ L)
 obtain⟨R,y,w⟩:=NU.some_of (v:=v) (o:=mA f) (by rw[<- l];exact r f)
 have j:=(i.bs _ _ F).1;have hk:=i.kIn;have It:=i.tok (t.toks+1);obtain⟨S,g,P,tk,os⟩:=t;exact Bn hk j G D (by intro c z;rw[p]at z;cases z) m n y (W.handedOut_of (nZ w)) B.cl.b B.na B.cl.ga B.cl.gt #[v,H1,It,w,q]]
theorem Zg{X:Cx}:zx X (.builtin "isinstance") (λxs H Q=>∃(a C:Δ) (dd:Λ) (c:V) (d:Γ) (b:Bool),xs=[.ref a,c]/\H a=↑(Oo a (.ref C) dd)/\OR X.K C/\((∃D,c= .ref D/\d= .ref D)\/∃T,c= .ty T/\d= .type T)/\W.kitOne X.K (.ref C) d=↑b/\Q (.bl b) H):=by
 intro tx s σ H xs p Q I r h;obtain⟨a,C,dd,c,d,b,rfl,j,l,i,hk,q⟩:=h;obtain⟨u,v,rfl,m,g⟩:=cE r;cases m
 obtain rfl:v=d:=by
  rcases i with⟨D,rfl,rfl⟩|⟨T,rfl,rfl⟩
  ·exact g
  ·exact g
 obtain⟨⟨o,n,e,f,_⟩,_⟩:=I.hok a _ j;exact JS (pZ l) I.kIn #[o,e,f] hk (λz=>nomatch z) λtk=>#[.bl _,H,I.tok tk,Z,q]
end L3
namespace L3
open PySem PySem.Spec PyProof.Rows L2
structure My(P:Ξ)(w:Ω)(K:ι)(mg:MK)(base:Ψ)(C:Δ)(m:Str)(ps:Α)(k:Nat)(sp:Sp):Prop where
 ex:∃(f:Δ) (fd:FuncData),N9 P w K mg base (aE P w) k f fd ps sp/\Rc K C m f/\NF K fd ps []
theorem Nz.my{P:Ξ}{w:Ω}{K:ι}{mg:MK}{base:Ψ}{C:Δ}{m Tb:Str}{st:δ}{ps N:Α}{k:Nat}{sp:Sp}(a:Nz K C m Tb st ps)(S:MN N ps (ql st))
  (c:∀(f:Δ) (cdv:Γ) (A:Around) (outer:Ο) (s:Θ) (H:Hp) (vs:Β) (Q:VK) (E:XK),M9 k (A.deeper (envOfC Tb (ql st) s.heap.objs.size f cdv))->sp vs H Q E->
   ∃t,Pu (Qs (aE P w) P w K mg base N Tb (ql st) f cdv A outer s H E) (zU st) t/\t {nx:=λ_ H'=>Q .non H',rt:=Q} (Q7 N vs) H)(e:∀vs H Q E,sp vs H Q E->vs.length=ps.length:=by intro vs H Q E h;first|(cases h;subst_vars;rfl)|((repeat first|obtain⟨rfl,h⟩:=h|obtain⟨_,h⟩:=h);all_goals rfl)):My P w K mg base C m ps (k+1) sp:=by
 obtain⟨f,fd,F,m,bd⟩:=a.ex;refine#[f,fd,?_,m,bd]
 obtain⟨oc,od,kV,doc,pm,an,cdv,ct,osl,rfl,j,g⟩:=F.ex;refine uT j g S e λA outer s H vs Q E i d=>?_
 obtain⟨t,h,q⟩:=c f cdv A outer s H vs Q E i d
 exact#[t,h.h,q]
def G0(X:Cx)(tx:ML)(σ:L2.St)(d:L2.St->Δ->Hp->Prop)(e:Γ)(s':Θ):Prop:=
 ∃H c,L2.MQ X tx σ H c/\aE X.prog X.w X.stack H c (λv _ H'=>∃a,v= .ref a/\d σ a H') e s'
structure QY(X:Cx)(st:List δ)(t:TX):Prop where
 h:∀(tx:ML) (s:Θ) (σ:L2.St) (H:Hp) (D:Nq) (EX:L2.St->Δ->Hp->Prop) (R:MJ),L2.MQ X tx σ H s->t D EX σ H->(∀σ' e s',G0 X tx σ' EX e s'->R e s')->ε (model X.prog X.w) X.A (execs st X.env) (SP X tx D) R s
theorem My.mf{P:Ξ}{w:Ω}{K:ι}{mg:MK}{base:Ψ}{C:Δ}{m:Str}{ps:Α}{k:Nat}{sp d:Sp}(M:My P w K mg base C m ps k sp)(h:∀a H Q E,d a H Q E->sp a H Q E0):Mf P w K mg base C m ps k d:=by
 obtain⟨f,fd,F,j,g⟩:=M.ex;refine#[f,fd,#[λa H Q E q=>F.len a H Q E0 (h a H Q E q),λA outer s H c i a Q E l o g p n=>?_],j,g]
 refine IQ (F.run A outer s H c i a Q E0 l o g p (h _ _ _ _ n)) λr s' q=>?_
 cases r with
 |ok fl=>cases fl<;>exact q
 |error e=>obtain⟨_,_,_,_,_,_,_,_,_,_,_,_,_,_,_,z⟩:=q;exact z.elim
theorem jq{X:Cx}{tx:ML}{σ:L2.St}{H H':Hp}{j s':Θ}{a T:Δ}{cls:Γ}{dd:Λ}{i:Ψ}{L:Nat}(I:L2.MQ X tx σ H j)(os:s'.os=j.os)(m:AllBare s'.gens)(un:Un (Qp X.stack) [] H H' j.heap s'.heap)(C:NS X.prog X.w H' s'.heap)(ha:H' a=↑(Oo a cls dd))(A:j.heap.get? a=none)(F:j.heap.get? T=none)(E:H' T=none)
  (st:(am s'.heap (a::T::Qp X.stack)).StaysIn i)(up:s'.heap.UpToSlots i){x:Obj}{vs:Array Γ}(he:i.get? a=↑x)(hc:x.cls=cls)(hd:x.data= .fields vs)(y:x.dict=dd):L2.MQ X tx σ H' {s' with heap:=i,toks:=L}:=by
 have g:∀b o,j.heap.get? b=↑o->b≠a/\b≠T:=λb o d=>#[λz=>by(rw[z,A]at d;cases d),λz=>by(rw[z,F]at d;cases d)]
 have t:∀b o,b≠a->b≠T->b∉Qp X.stack->s'.heap.get? b=↑o->i.get? b=↑o:=λb o h1 O Q d=>st b o (by
  rw[Z9]
  ·exact d
  ·intro z
   rcases Ji.mp z with z|z
   ·exact h1 z
   ·rcases Ji.mp z with z|z
    ·exact O z
    ·exact Q z)
 have w:∀b o,b∈Qp X.stack->j.heap.get? b=↑o->∀o',s'.heap.get? b=↑o'->∃w,i.get? b=some {o' with slots:=w}:=λb o d s o' r=>by
  obtain⟨_,u,K,B⟩:=I.stack.mem d;rw[s]at K;cases K
  obtain⟨P,h⟩:=un.slot b o s (I.stkFree b d) d (by simp)
  rw[r]at h;cases h
  exact up b _ r B
 refine I.call' (s':={s' with heap:=i,toks:=L}) os #[λb o d p n _=>?_,λb o d p n _=>?_,λb o d p D=>un.free b o d p D,λb o d D=>?_,un.tups,un.frzs,un.tbls] (λb u d=>?_) m (λb z=>absurd z (by simp))
 ·exact t b o (g b o d).1 (g b o d).2 n (un.keep b o d p n (by simp))
 ·obtain⟨P,h⟩:=un.slot b o d p n (by simp)
  obtain⟨N,G⟩:=w b o n d _ h
  exact#[N,G]
 ·obtain⟨o',h⟩:=un.there b o d D
  by_cases z:b∈Qp X.stack
  ·obtain⟨N,G⟩:=w b o z d _ h
   exact#[_,G]
  ·exact#[_,t b _ (g b o d).1 (g b o d).2 z h]
 ·by_cases z:b=a
  ·subst z
   rw[ha]at d;cases d
   exact Oo.ok he hc hd y
  ·have tk:∀c u,H' c=↑u->c∉Qp X.stack/\c≠T:=λc u l=>by
    refine#[λJ=>?_,λz=>by(rw[z,E]at l;cases l)]
    obtain⟨_,o,s,_⟩:=I.stack.mem J
    have:=un.free c o s (I.stkFree c J) (by simp)
    rw[l]at this;cases this
   refine(C b u d).stay (λc v f M=>?_) (λ_ q=>q) (λ_ _ q=>q)
   rcases f with rfl|f
   ·exact t c v z (tk _ _ d).2 (tk _ _ d).1 M
   ·exact t c v (λe=>by(rw[e,ha]at f;cases f)) (tk _ _ f).2 (tk _ _ f).1 M
def vF(K:ι)(CE:Δ)(cls:Γ):Prop:=∃C bm bmB newId,cls= .ref C/\(aL K C bm bmB newId=true\/∃fI,cG K C bm bmB newId fI=true)/\bm.contains (.ref CE)=true
theorem DQ{K:ι}{h:Ψ}{C:Δ}{bm bmB:Ζ}{newId:String}(X:K.In h)(q:aL K C bm bmB newId=true\/∃fI,cG K C bm bmB newId fI=true):∃N nm a bs hdct sn sub ab col dd k0 k1 k2 k3 k5,h.get? C=↑(excClassObj nm a C N bs bm hdct sn sub ab col dd k0 k1 k2 k3 k5 newId):=by
 rcases q with q|⟨fI,q⟩
 ·obtain⟨N,nm,a,bs,hdct,sn,sub,ab,col,dd,k0,k1,k2,k3,k5,d,c,_⟩:=sG X q
  exact#[N,nm,a,bs,hdct,sn,sub,ab,col,dd,k0,k1,k2,k3,k5,c]
 ·obtain⟨N,nm,a,bs,sn,sub,ab,col,dd,k0,k1,k2,k3,k5,d,c,_⟩:=cZ X q
  exact#[N,nm,a,bs,true,sn,sub,ab,col,dd,k0,k1,k2,k3,k5,c]
def vk(K:ι)(CE:Δ)(i:Nat)(tb:TX)(d:TS):TS:=λD σ H=>tb D (λc a H'=>(∀cls dd,H' a=↑(Oo a cls dd)->vF K CE cls)/\d (CA D i) (c.set i ↑(.ref a)) H') σ H
theorem DX{X:Cx}{j g:List δ}{l:δ}{x n:Str}{CE:Δ}{J bmB:Ζ}{L:String}{i:Nat}{np G pos:Pos}{tb:TX}{O:TS}(hb:QY X j tb)(hs:∀a,Pu (BH X a) (l::g) O)(m:X.stack=X.env::X.outer)(a5:X.env.frame=↑X.env.locals)(hg:Gl X x)(hm:X.mg x=↑(.ref CE))(hE:aL X.K CE J bmB L=true)(p:J.contains (.type "BaseException")=true)
  (hN:X.N.Nodup)(hi:X.N[i]? =↑n)(hk:X.env.kindOf n=some .local)(hd:(x==("__debug__":Str))=false:=by decide):
  QS X (.Try j [.ExceptHandler ↑(.Name x np) ↑n (l::g) G] [] [] pos) (vk X.K CE i tb O):=#[by
 intro tx s σ H D I h;refine wpAny_Try_except (JJ (hb.h tx s σ H D _ _ I h ?_) (λf s1 q=>?_) λ_ _ z=>z)
 ·rintro w e s' ⟨H1,s0,U,a,cls,dd,T,Q,rfl,os,d,un,A,R,E,N,M,⟨oe,vs,oT,O,a0,he,hc,a3,K,h0,h1,b5,b1,W,h3⟩,a',ea,sub,b2⟩
  obtain rfl:a=a':=by injection ea
  have I2:L2.MQ X tx w Q s':=U.call' os un A d (λb z=>absurd z (by simp))
  obtain⟨F,c⟩:∃F,F=am s'.heap (a::T::Qp X.stack):=#[_,Z]
  have kb:F.StaysIn s'.heap:=λb o q=>by rw[c]at q;exact(eL q).2
  have ff:s'.heap.FunFrames F X.stack:=aD I2.stack (λb hb=>by rw[c];exact QB (JC _ (JC _ hb)))
  have td:Sf s'.heap F a cls dd .none:=#[oe,vs,T,oT,O,a0,he,hc,a3,K,h0,h1,by rw[c];exact QB (JC _ (JB ..)),b5,b1,W,h3]
  have fr:X.A.frames=↑(X.env::X.outer):=by rw[<- m];exact I.ok.frames
  rw[m]at ff;refine wz fr ff a5 td kb (by rw[c];exact QB (JB ..)) λh4 k1 k2 k3 a2=>?_
  refine iH k1 k2 k3 λh5 j1 j2 j3 b6=>?_
  have up:=a2.trans b6;obtain⟨C,bm,c2,newId,rfl,c0,b4⟩:=sub cls dd R;obtain⟨o5,d8,T5,e8,d2,c4,e5,c5,a1,d5,_⟩:=id j3.ex;have b0:(am s'.heap (a::T::Qp X.stack)).StaysIn h5:=by rw[<- c];exact j1
  have Y:L2.MQ X tx w Q {s' with heap:=h5,toks:=s'.toks}:=jq U os d un A R E N M b0 up e5 c5 d5 a1
  obtain⟨N1,nm,qn,bs,hdct,sn,sb,ab,col,d1,k0,e2,d3,d7,k5,hC⟩:=DQ Y.kIn c0;obtain⟨N2,d9,f2,e1,b7,f0,e9,f1,c1,d0,q0,q1,q2,q3,q5,c3,b3,_,_,_⟩:=sG Y.kIn hE;refine wpAny_handleBy_cons (codeAny_handlers_test (Z8 (sP (a:=a) Y) hg hm ?_ hd)) (by intro z;cases z)
  refine lG hC b3 e5 c5 p b4 ?_
  refine codeAny_handlers_suite_as ?_
  refine iH j1 j2 j3 λh6 l1 l2 l3 S=>?_
  obtain⟨o6,e0,T6,e4,d4,e3,e6,c6,a4,d6,_⟩:=id l3.ex;have I6:L2.MQ X tx w Q {s' with heap:=h6,toks:=s'.toks}:=jq U os d un A R E N M (by rw[<- c];exact l1) (up.trans S) e6 c6 d6 a4
  refine aM (v:= .ref a) I6 hN hi (.inl hk) Z (λs7 I7=>?_) (.inr hk)
  refine JJ ((hs a).h tx s7 _ Q (CA D i) (sP I7) b2) (λf s8 P=>?_) λ_ _ z=>z.elim
  cases f with
  |next=>obtain⟨r,H9,t,B⟩:=P;exact eE (iK I.ok t) hN hi hk λs' y=>#[_,_,y,B]
  |brk=>obtain⟨r,H9,t,B⟩:=P;exact eE (iK I.ok t) hN hi hk λs' y=>#[_,_,y,B]
  |cont=>obtain⟨r,H9,t,B⟩:=P;exact eE (iK I.ok t) hN hi hk λs' y=>#[_,_,y,B]
  |ret u=>obtain⟨v,r,H9,t,r9,B⟩:=P;exact eE (iK I.ok t) hN hi hk λs' y=>#[_,_,_,y,r9,B]
 ·cases f with
  |next=>exact Ly q
  |ret v=>exact q
  |brk=>exact q
  |cont=>exact q]
structure Ac(K:ι)(mg:MK)(x:Str)(st:δ):Prop where
 ex:∃(f:Δ) (fd:FuncData),PD K x x st f fd/\mg x=↑(.ref f)
structure NI(K:ι)(C:Δ)(m Tb:Str)(st:δ):Prop where
 ex:∃(f:Δ) (fd:FuncData),PD K m Tb st f fd/\Rc K C m f
section
variable{K:ι}{mg:MK}{h:Ψ}{x m Tb:Str}{st:δ}{C f:Δ}{oc:Γ}{od an:Λ}{osl:Array Ν}{kV doc pm cdv ct:Γ}{ps:Α}
theorem GA(X:K.In h)(G:h.Ns η mg)(a:W.nsIn K η x=↑(↑(.ref f)))(l:K.lookup f=some #[oc,od,.func (W.fnOf x x (Q3 st) (zU st) (ql st) .none kV doc pm an cdv ct),osl])(c:W.codeIn K cdv x=true)(k:W.keepIn K (.ref f)=true):Ac K mg x st:=#[f,_,pN l c k,JP X G a]
theorem Fd(a:W.findIn K (.ref C) m=↑(↑(.ref f)))(i:W.isFn K (.ref f)=true)(l:K.lookup f=some #[oc,od,.func (W.fnOf m Tb (Q3 st) (zU st) (ql st) .none kV doc pm an cdv ct),osl])(c:W.codeIn K cdv Tb=true)(k:W.keepIn K (.ref f)=true):NI K C m Tb st:=#[f,_,pN l c k,a,i,k]
theorem HH{p:Ζ->Prop}(h:p []):∀a:Ζ,a.length=0->p a:=by
 intro a c;rw[List.eq_nil_of_length_eq_zero c];exact h
theorem uC{n:Nat}{p:Ζ->Prop}(h:∀a c,c.length=n->p (a::c)):∀c:Ζ,c.length=n+1->p c:=by
 intro c d;cases c with
 |nil=>cases d
 |cons a r=>exact h a r (Nat.succ.inj d)
theorem Qu{p:Ζ->Prop}(h:∀d,p [d]):∀c:Ζ,c.length=1->p c:=uC λa=>HH (p:=λr=>p (a::r)) (h a)
theorem QL{p:Ζ->Prop}(h:∀d e,p [d,e]):∀c:Ζ,c.length=2->p c:=uC λa=>Qu (p:=λr=>p (a::r)) (h a)
theorem aJ{p:Ζ->Prop}(h:∀f e d,p [f,e,d]):∀c:Ζ,c.length=3->p c:=uC λa=>QL (p:=λr=>p (a::r)) (h a)
theorem pD{p:Ζ->Prop}(h:∀e d f g,p [e,d,f,g]):∀c:Ζ,c.length=4->p c:=uC λa=>aJ (p:=λr=>p (a::r)) (h a)
theorem EK{p:Ζ->Prop}(h:∀e d f i g,p [e,d,f,i,g]):∀c:Ζ,c.length=5->p c:=uC λa=>pD (p:=λr=>p (a::r)) (h a)
theorem Et{p:Ζ->Prop}(h:∀e d f i g j,p [e,d,f,i,g,j]):∀c:Ζ,c.length=6->p c:=uC λa=>EK (p:=λr=>p (a::r)) (h a)
theorem Ac.at(a:Ac K mg x st)(b:∀(kV doc pm:Γ) (an:Λ) (cdv ct:Γ) (us:Ζ),us.length=ps.length->bindArgs (W.fnOf x x (Q3 st) (zU st) (ql st) .none kV doc pm an cdv ct) #[us,[]]=pure (ps.zip us):=by intro _ _ _ _ _ _;first|exact Qu λ_=>rfl|exact QL λ_ _=>rfl|exact aJ λ_ _ _=>rfl|exact pD λ_ _ _ _=>rfl|exact EK λ_ _ _ _ _=>rfl|exact Et λ_ _ _ _ _ _=>rfl):At K mg x st ps:=by
 obtain⟨_,_,F,m⟩:=a.ex;exact Gr F m (F.binds b)
theorem NI.at(a:NI K C m Tb st)(b:∀(kV doc pm:Γ) (an:Λ) (cdv ct:Γ) (us:Ζ),us.length=ps.length->bindArgs (W.fnOf m Tb (Q3 st) (zU st) (ql st) .none kV doc pm an cdv ct) #[us,[]]=pure (ps.zip us):=by intro _ _ _ _ _ _;first|exact Qu λ_=>rfl|exact QL λ_ _=>rfl|exact aJ λ_ _ _=>rfl|exact pD λ_ _ _ _=>rfl|exact EK λ_ _ _ _ _=>rfl|exact Et λ_ _ _ _ _ _=>rfl):Nz K C m Tb st ps:=by
 obtain⟨_,_,F,m⟩:=a.ex
 exact#[_,_,F,m,F.binds b]
end
theorem Bg{K:ι}{CE:Δ}{i:Nat}{tb:TX}{c u:TS}{D:Nq}{σ:L2.St}{H:Hp}(G:L2.St->Hp->Prop)(h:∀D':Nq,(∀a H',G a H'->D'.nx a H')->vk K CE i tb c D' σ H)(d:∀a H',G a H'->u D a H'):gm (vk K CE i tb c) u D σ H:=h {D with nx:=u D} d
theorem Oo.inj{a:Δ}{c i:Γ}{d m:Λ}(h:Oo a c d=Oo a i m):c=i:=by
 unfold Oo at h;injection h with h
 obtain⟨f,n⟩:∃f:Ψ,f.objs.size=a:=#[{objs:=Array.replicate a default},Array.size_replicate]
 have e:(f.push #[c,d,.fields (List.toArray []),(List.toArray [])]).get? a=some #[c,d,.fields (List.toArray []),(List.toArray [])]:=by rw[<- n];exact Jw _ Z
 have z:(λh:Ψ=>∃o g,h.get? a=↑o/\o.cls=c/\o.data= .fields g/\o.dict=d) (f.push #[c,d,.fields (List.toArray []),(List.toArray [])]):=#[_,_,e,Z,Z,Z]
 rw[h]at z;obtain⟨o,g,j,l,_⟩:=z;rw[e]at j;cases j
 exact l
theorem FF{H:Hp}{a C:Δ}{cls:Γ}{d c:Λ}(h1:H a=↑(Oo a (.ref C) d))(h:H a=↑(Oo a cls c)):cls= .ref C:=by
 rw[h1]at h
 exact(Oo.inj (JE h)).symm
structure Ps where
 nm:Str
 age:Int
 ds:Ε
def N3(H:Hp)(p:Δ)(P:Ps):Prop:=Nj H p P.nm P.age P.ds
structure OM(P:Ps):Prop where
 nm:Zq P.nm
 l:P.ds.length=5
 dg:zZ P.ds
def ir(D:Dr)(P:Ps):Option (Int×Int):=if ZK D P.age=true then aF D.t (aq D P.age) P.nm P.ds else none
def Ai(D:Dr)(P R:Ps):Str×Int×Kw:=match ir D P with
 |none=>("press",0,D.kn)
 |some (c,_)=>match ir D R with
  |none=>("press",1,D.kn)
  |some (c',_)=>if R.nm=P.nm/\R.age=P.age/\c'=c+1 then(match D.kn.lookup P.nm with
    |some _=>("known",0,D.kn)
    |none=>if(D.kn.length:Int)<D.most then("",0,Qw D.kn P.nm #[P.age,c',none])else("full",0,D.kn))
   else("press",1,D.kn)
def M8(E:XK)(H:Hp)(C:Δ):Prop:=∀H' e,MM H H'->H' e=↑(Oo e (.ref C) none)->E (.ref e) none H'
def N4(E:XK)(H:Hp)(C:Δ)(f:Str)(n:Int):Prop:=∀H' e d,MM H H'->H' e=↑(Oo e (.ref C) ↑d)->H' d=↑(.xd [(f,.int n)])->E (.ref e) none H'
theorem N4.mk{E:XK}{H H1:Hp}{C e d:Δ}{f:Str}{n:Int}{o i:HO}(j:N4 E H C f n)(s:MM H H1)(he:H1 e=none)(hd:MO H1 e o d=none):E (.ref e) none (MO (MO (MO (MO H1 e o) d (.xd [(f,.int n)])) e i) e (Oo e (.ref C) ↑d)):=by
 have a:d≠e:=λz=>by rw[z,qa]at hd;cases hd
 have h:H1 d=none:=by rw[qk a]at hd;exact hd
 refine j _ e d (λc u z=>?_) qa ?_
 ·have g:=s _ _ z
  rw[qk (qr g he),qk (qr g he),qk (qr g h),qk (qr g he)];exact g
 ·rw[qk a,qk a,qa]
theorem M8.mk{E:XK}{H H1:Hp}{C e:Δ}{o:HO}(d:M8 E H C)(s:MM H H1)(he:H1 e=none):E (.ref e) none (MO (MO H1 e o) e (Oo e (.ref C) none)):=by
 refine d _ e (λc u z=>?_) qa
 have a:=s _ _ z;rw[qk (qr a he),qk (qr a he)];exact a
structure SY(K:ι)(x:Xa)(fI:Δ):Prop where
 f:RZ K x.e x.b fI "place"
 i:∀D∈x.all,PySem.W.kitOne K (.ref x.b) (.ref D)=↑(decide (x.b=D))
 v:PySem.W.kitOne K (.ref x.b) (.type "ValueError")=↑true
structure X16(K:ι)(mg:MK)(x:Xa)(fI:Δ):Prop extends XGx K mg x where
 o_Known:OG K x x.k
 o_Full:OG K x x.f
 bp:SY K x fI
 bi:Sr K x.e "ValueError.__init__"
def rj(c:Nat):Bool:=decide (97<=c)&&decide (c<=122)
def Fc(z:Str):Bool:=z.cps.toList.all rj
def C0(z:Str):Bool:=decide (1<=z.length)&&decide (z.length<=8)&&Fc z
theorem R0{z:Str}:C0 z=true↔Zq z:=by
 unfold C0 Fc Zq;rw[JU,JU,IU,IU,Iz];have f:z.length=z.cps.toList.length:=Z
 rw[f];constructor
 ·rintro⟨⟨h1,e⟩,d⟩
  refine#[λc a=>?_,h1,e]
  have:=d c a
  unfold rj at this;rw[JU,IU,IU]at this;exact this
 ·rintro⟨d,h1,e⟩
  refine#[#[h1,e],λc a=>?_]
  unfold rj;rw[Jf (d c a).1,Jf (d c a).2];rfl
theorem kQ{a b:Nat}:([a]:Μ)<[b]↔a<b:=by
 rw[List.cons_lt_cons_iff];constructor
 ·rintro(h|⟨_,h⟩)
  ·exact h
  ·exact absurd h (List.not_lt_nil _)
 ·exact .inl
theorem vq(c:Nat):(! decide ((#[(List.toArray [c])]:Str).cps.toList<("a":Str).cps.toList))=decide (97<=c)/\(! decide (("z":Str).cps.toList<(#[(List.toArray [c])]:Str).cps.toList))=decide (c<=122):=by
 have a:("a":Str).cps.toList=[97]:=by decide +kernel
 have d:("z":Str).cps.toList=[122]:=by decide +kernel
 rw[a,d]
 show(! decide ([c]<[97]))=_/\(! decide ([122]<[c]))=_
 constructor
 ·by_cases h:97<=c
  ·rw[Jf h,Jq (by rw[kQ];lia)];rfl
  ·rw[Jq h,Jf (by rw[kQ];lia)];rfl
 ·by_cases h:c<=122
  ·rw[Jf h,Jq (by rw[kQ];lia)];rfl
  ·rw[Jq h,Jf (by rw[kQ];lia)];rfl
theorem sQ{H:Hp}{x:V}{t:String}(h:kd H x=↑t):RT H x t:=by
 cases x with
 |non=>cases h;exact .non
 |bl b=>cases h;exact .bl b
 |int i=>cases h;exact .int i
 |str x=>cases h;exact .str x
 |byt b=>cases h
 |flt b=>cases h
 |ty b=>cases h
 |ref a=>
  rcases jY h with⟨xs,e,rfl⟩|⟨xs,e,rfl⟩
  ·exact .lst e
  ·exact .tup (.inl e)
def GL(H:Hp)(x:V)(b:Bool):Prop:=(∃z,x= .str z/\z.cps.all (· <128)=true/\z.length<=100/\b=C0 z)\/(∃t,kd H x=↑t/\zY t "str"=false/\b=false)
def SN(H:Hp)(x:V)(b:Bool):Prop:=(∃(p:Δ) (ds:Β),x= .ref p/\H p=↑(.tup ds)/\ds.length<=100/\(∀v∈ds,∃t,kd H v=↑t)/\b=(decide (ds.length=5)&&ds.all fm))\/(∃t,kd H x=↑t/\zY t "tuple"=false/\b=false)
inductive Ss (H:Hp) (x:V):Bool->Prop where
 |kd {t:String} (h:kd H x=↑t) (n:zY t "tuple"=false):Ss H x false
 |len {a:Δ} {xs:Β} (e:x= .ref a) (h:H a=↑(.tup xs)) (l:xs.length<=100) (n:xs.length≠3):Ss H x false
 |tup {a:Δ} {n y c:V} {bn bc:Bool} {ty:String} (e:x= .ref a) (h:H a=↑(.tup [n,y,c])) (hn:GL H n bn) (hy:L3.kd H y=↑ty) (hc:SN H c bc):Ss H x (bn&&jP y&&bc)
theorem SN.same{H H':Hp}{x:V}{b:Bool}(s:MM H H')(h:SN H x b):SN H' x b:=h.elim (λ⟨p,ds,e,h1,a,c,f⟩=> .inl ⟨p,ds,e,s _ _ h1,a,(λv d=>let⟨t,ht⟩:=c v d;⟨t,iy s ht⟩),f⟩) (λ⟨t,h1,a⟩=> .inr ⟨t,iy s h1,a⟩)
def Tg(H:Hp)(x:V)(o:Option Ps):Prop:=match o with
 |none=>Ss H x false
 |some P=>∃pr,x= .ref pr/\N3 H pr P/\OM P
theorem Tg.b{H:Hp}{x:V}{o:Option Ps}(h:Tg H x o):Ss H x o.isSome:=by
 cases o with
 |none=>exact h
 |some P=>
  obtain⟨pr,e,⟨a,h1,c⟩,ok⟩:=h;have t:=Ss.tup (bn:=true) (bc:=true) e h1 (.inl #[P.nm,Z,pL ok.nm,by have:=ok.nm.2.2;show P.nm.cps.toList.length<=100;lia,(R0.mpr ok.nm).symm]) (ty:="int") Z (.inl #[a,_,Z,c,by rw[Jb,ok.l];decide,(λv d=>by obtain⟨i,_,rfl⟩:=Jy.mp d;exact#[_,Z]),by rw[Jb,ok.l,AI ok.dg];rfl])
  exact t
inductive Pe (vs:Β) (H:Hp) (Q:VK):Prop
 |mk (x:_) (b:_) (h1:vs=[x]) (h2:GL H x b) (h3:∀H',MM H H'->Q (.bl b) H')
def oi:Sp:=λa H Q _=>Pe a H Q
inductive Pf (vs:Β) (H:Hp) (Q:VK):Prop
 |mk (x:_) (b:_) (h1:vs=[x]) (h2:SN H x b) (h3:∀H',MM H H'->Q (.bl b) H')
def mT:Sp:=λa H Q _=>Pf a H Q
inductive OY (vs:Β) (H:Hp) (Q:VK):Prop
 |mk (x:_) (b:_) (h1:vs=[x]) (h2:Ss H x b) (h3:∀H',MM H H'->Q (.bl b) H')
def fF:Sp:=λa H Q _=>OY a H Q
section
variable(K:ι)(C:Δ)
inductive Pg (vs:Β) (H:Hp) (Q:VK):Prop
 |mk (p ta hk bd lg:Δ) (n:Nat) (D:Dr) (x:V) (o:Option Ps) (h1:vs=[.ref p,x]) (h2:MR K C H p ta hk bd lg n D) (h3:OX D) (h4:Tg H x o) (h5:∀y H',MM H H'->gU H' y (o.bind (ir D))->Q y H')
def nv:Sp:=λa H Q _=>Pg K C a H Q
end
theorem Mf.weak{P:Ξ}{w:Ω}{K:ι}{mg:MK}{base:Ψ}{C:Δ}{m:Str}{ps:Α}{k:Nat}{sp d:Sp}(M:Mf P w K mg base C m ps k sp)(h:∀a H Q E,d a H Q E->sp a H Q E):Mf P w K mg base C m ps k d:=by
 obtain⟨f,fd,F,i,e⟩:=M.ex
 exact#[f,fd,#[λa H Q E q=>F.len a H Q E (h a H Q E q),λA outer s H c g a Q E j n e o l=>F.run A outer s H c g a Q E j n e o (h _ _ _ _ l)],i,e]
structure N5(B:Bt):Prop where
 c0:0<=B.cnt
 cb:B.cnt<=B.bnd
 bm:B.bnd<=4096
 s1:1<=B.step
 eq:B.x=↑B.bnd\/B.y=↑B.bnd
 hx:∀v,B.x=↑v->0<=v/\v<=B.bnd
 hy:∀v,B.y=↑v->0<=v/\v<=B.bnd
theorem N5.new{nm:Str}{t ks:Ε}{age step:Int}(h:1<=step):N5 #[nm,t,ks,age,step,0,0,↑0,none]:=
 #[Lb _,Lb _,by show(0:Int)<=4096;decide,h,.inl Z,λv e=>by cases e;exact#[Lb _,Lb _],λv e=>by cases e]
theorem N5.pr{B:Bt}(h:N5 B)(hc:B.cnt<4096):N5 B.pr:=by
 obtain⟨l,j,bm,a,i,d,f⟩:=h;unfold Bt.pr
 by_cases m:B.mw=true
 ·rw[Jd m]
  have g:B.cnt=B.bnd:=by
   unfold Bt.mw at m;rw[JU]at m;exact Jz m.1
  have n1:B.bnd+1<=B.nb:=by unfold Bt.nb;split<;>lia
  have n2:B.nb<=4096:=by unfold Bt.nb;split<;>lia
  unfold Bt.wr
  by_cases e:B.x=↑B.bnd
  ·rw[Jd e]
   refine#[by show 0<=B.cnt+1;lia,by show B.cnt+1<=B.nb;lia,n2,a,.inr Z,λv q=>?_,λv q=>?_]
   ·have:=d v q;show 0<=v/\v<=B.nb;lia
   ·have c:↑B.nb=↑v:=q
    cases c;show 0<=B.nb/\B.nb<=B.nb;lia
  ·rw[Jc e]
   refine#[by show 0<=B.cnt+1;lia,by show B.cnt+1<=B.nb;lia,n2,a,.inl Z,λv q=>?_,λv q=>?_]
   ·have c:↑B.nb=↑v:=q
    cases c;show 0<=B.nb/\B.nb<=B.nb;lia
   ·have:=f v q;show 0<=v/\v<=B.nb;lia
 ·rw[Jc m]
  have g:B.cnt≠B.bnd:=λz=>m (by unfold Bt.mw;rw[Jf z,Jq (by lia:¬4096<=B.cnt)];rfl)
  exact#[by show 0<=B.cnt+1;lia,by show B.cnt+1<=B.bnd;lia,bm,a,i,d,f]
theorem N5.ok{B:Bt}(h:N5 B):B.bnd∈nr B.x B.y/\0<(nr B.x B.y).length/\∀a∈nr B.x B.y,a<=B.bnd:=by
 obtain⟨m,l,bm,j,f,g,i⟩:=h;have d:B.bnd∈nr B.x B.y:=by
  unfold nr;rcases f with e|e
  ·rw[e];exact LX _ (Jg.mpr Z)
  ·rw[e];exact J3 _ (Jg.mpr Z)
 refine#[d,List.length_pos_of_mem d,λa c=>?_]
 unfold nr at c;rcases Jv.mp c with z|z
 ·cases e:B.x with
  |none=>rw[e]at z;cases z
  |some v=>rw[e]at z;rw[Jg.mp z];exact(g v e).2
 ·cases e:B.y with
  |none=>rw[e]at z;cases z
  |some v=>rw[e]at z;rw[Jg.mp z];exact(i v e).2
def cK(v:V):Bool:= ! decide (v= .non)
theorem vL(x y:Κ):[oV x,oV y].filter cK=(nr x y).map V.int:=by
 cases x<;>cases y<;>rfl
theorem wW{xs:Β}{i:Nat}{x:V}(h:xs[i]? =↑x):(xs.take (i+1)).filter cK=if cK x=true then(xs.take i).filter cK++[x]else(xs.take i).filter cK:=by
 rw[Ig,h,Option.toList_some,List.filter_append]
 by_cases e:cK x=true
 ·rw[Jd e,List.filter_cons_of_pos e];rfl
 ·rw[Jc e,List.filter_cons_of_neg e];simp
end L3
namespace L3
open PySem PySem.Spec PyProof.Rows L2
open Sem (wp)
def Bt.ou(B:Bt):Bt:={B with cnt:=B.bnd}
theorem N5.ou{B:Bt}(h:N5 B):N5 B.ou:=#[by show 0<=B.bnd;have:=h.c0;have:=h.cb;lia,Lb _,h.bm,h.s1,h.eq,h.hx,h.hy]
inductive R1 (K:ι) (C:Δ) (vs:Β) (H:Hp) (Q:VK):Prop
 |mk (p ta ka ce:Δ) (B:Bt) (h1:vs=[.ref p]) (h2:MS K C H p ta ka ce B) (h3:N5 B) (h4:∀H',Mv [p,ce] H H'->MS K C H' p ta ka ce B.ou->Q .non H')
def jR(K:ι)(C:Δ):Sp:=λa H Q _=>R1 K C a H Q
end L3
namespace L3
open PySem PySem.Spec PyProof.Rows L2
theorem xa{a:Η}:∀{its:Ζ},MU (a.map V.ref) its->its=a.map Γ.ref:=by
 induction a with
 |nil=>intro its h;cases h;rfl
 |cons D r ih=>
  intro its h;cases h with
  |cons p q=>cases(show _=Γ.ref D from p);rw[ih q];rfl
theorem sE{K:ι}{C:Δ}:∀{a:Η},(∀D∈a,W.kitOne K (.ref C) (.ref D)=↑(decide (C=D)))->C∉a->W.kitAny K (.ref C) (a.map Γ.ref)=↑false
 | [],_,_=>rfl
 |D::r,h,hn=>by
  have e:=h D (JB ..);rw[Jq (λz:C=D=>hn (by rw[z];exact JB ..))]at e
  simp only[JR,W.kitAny,e];exact sE (λD c=>h D (JC _ c)) (λz=>hn (JC _ z))
def Bt.tn(B:Bt):Bt:=if B.mw then(if B.x=↑B.bnd then{B with y:=none}else{B with x:=none}).ou else B.ou
theorem N5.tn{B:Bt}(h:N5 B):N5 B.tn:=by
 unfold Bt.tn
 by_cases m:B.mw=true
 ·rw[Jd m]
  by_cases e:B.x=↑B.bnd
  ·rw[Jd e]
   exact N5.ou #[h.c0,h.cb,h.bm,h.s1,.inl e,h.hx,λv q=>by cases q]
  ·rw[Jc e]
   exact N5.ou #[h.c0,h.cb,h.bm,h.s1,.inr (h.eq.resolve_left e),(λv q=>by cases q),h.hy]
 ·rw[Jc m];exact h.ou
theorem oZ(B:Bt):B.tn.nm=B.nm:=by unfold Bt.tn;split<;>(try split)<;>rfl
theorem GS(B:Bt):B.tn.t=B.t:=by unfold Bt.tn;split<;>(try split)<;>rfl
theorem Gh(B:Bt):B.tn.ks=B.ks:=by unfold Bt.tn;split<;>(try split)<;>rfl
theorem pM(B:Bt):B.tn.age=B.age:=by unfold Bt.tn;split<;>(try split)<;>rfl
section
variable(K:ι)(C:Δ)
inductive Rx (vs:Β) (H:Hp) (Q:VK):Prop
 |mk (p ta ka ce:Δ) (B:Bt) (h1:vs=[.ref p]) (h2:MS K C H p ta ka ce B) (h3:N5 B) (h4:∀H',Mv [p,ce] H H'->MS K C H' p ta ka ce B.tn->Q .non H')
def mB:Sp:=λa H Q _=>Rx K C a H Q
end
def HM(K:ι)(H:Hp)(b:Δ)(c:List Ε):Prop:=∃d:Η,MW K H b (d.map V.ref)/\d.length=c.length/\∀(i:Nat) (a:Δ) (ks:Ε),d[i]? =↑a->c[i]? =↑ks->MW K H a (ks.map V.int)
inductive Rw where
 |learn (P R:Ps)
 |forget (nm:Str)
 |turn (ks:Ε)
 |close (age:Int)
 |hear (P:Ps) (ans:Β)
abbrev _root_.Τ:=List Rw
def jc:V->Prop
 | .int _=>True
 | .str _=>True
 |_=>False
def ON(H:Hp)(a:Δ):Rw->Prop
 | .learn P R=>∃c p2,Rd H a (.tup [.str "learn",.ref c,.ref p2])/\N3 H c P/\N3 H p2 R/\OM P/\OM R
 | .forget nm=>Rd H a (.tup [.str "forget",.str nm])
 | .turn ks=>∃k,Rd H a (.tup [.str "turn",.ref k])/\Rd H k (.tup (ks.map V.int))/\ks.length<=8
 | .close age=>Rd H a (.tup [.str "close",.int age])
 | .hear P ans=>∃p q,Rd H a (.tup [.str "hear",.ref p,.ref q])/\N3 H p P/\OM P/\H q=↑(.tup ans)/\ans.length<=3/\∀v∈ans,jc v
def NC(H:Hp)(rs:Η)(L:Τ):Prop:=rs.length=L.length/\∀(i:Nat) (a:Δ) (r:Rw),rs[i]? =↑a->L[i]? =↑r->ON H a r
def OI(H:Hp)(lg:Δ)(L:Τ):Prop:=∃rs:Η,H lg=↑(.lst (rs.map V.ref))/\NC H rs L
def OO(H:Hp)(t:Δ)(L:Τ):Prop:=∃rs:Η,Rd H t (.tup (rs.map V.ref))/\NC H rs L
section
variable{S:Η}{H H':Hp}{a lg t:Δ}{r:Rw}{rs:Η}{L:Τ}
theorem ON.mv(m:Mv S H H')(n:NT S H)(h:ON H a r):ON H' a r:=by
 cases r with
 |learn P R=>obtain⟨f,p2,h1,c,d,e⟩:=h;exact#[f,p2,m.rd n h1,Nj.mv m n c,Nj.mv m n d,e]
 |forget nm=>exact m.rd n h
 |turn ks=>obtain⟨k,h1,c,d⟩:=h;exact#[k,m.rd n h1,m.rd n c,d]
 |close age=>exact m.rd n h
 |hear P ans=>obtain⟨p,q,h1,c,d,e,g⟩:=h;exact#[p,q,m.rd n h1,Nj.mv m n c,d,m.tup n e,g]
theorem NC.mv(m:Mv S H H')(n:NT S H)(h:NC H rs L):NC H' rs L:=#[h.1,λi a r c d=>(h.2 i a r c d).mv m n]
theorem OI.mv(m:Mv S H H')(n:NT S H)(hl:lg∉S)(h:OI H lg L):OI H' lg L:=by
 obtain⟨rs,e,r⟩:=h
 exact#[rs,m _ _ hl e,r.mv m n]
theorem OO.mv(m:Mv S H H')(n:NT S H)(h:OO H t L):OO H' t L:=by
 obtain⟨rs,e,r⟩:=h
 exact#[rs,m.rd n e,r.mv m n]
theorem i9:NT [] H:=λc h=>nomatch h
theorem NC.same(s:MM H H')(h:NC H rs L):NC H' rs L:=h.mv (S:=[]) s.mv i9
theorem OI.same(s:MM H H')(h:OI H lg L):OI H' lg L:=h.mv (S:=[]) s.mv i9 (λz=>nomatch z)
theorem OO.same(s:MM H H')(h:OO H t L):OO H' t L:=h.mv (S:=[]) s.mv i9
theorem NC.add(h:NC H rs L)(hr:ON H a r):NC H (rs++[a]) (L++[r]):=by
 refine#[by simp [h.1],λi b q c d=>?_]
 by_cases hi:i<rs.length
 ·rw[Iw hi]at c
  rw[Iw (by rw[<- h.1];exact hi)]at d
  exact h.2 i b q c d
 ·rw[Ik (by lia)]at c
  rw[Ik (by rw[<- h.1];lia),<- h.1]at d
  cases e:i-rs.length with
  |zero=>rw[e]at c d;cases c;cases d;exact hr
  |succ k=>rw[e]at c;cases c
theorem pI{n:Nat}{v:V}(h:jc v):OA H n v v:=by
 cases v with
 |int i=>exact .int _ _
 |str i=>exact .str _ _
 |_=>exact h.elim
theorem N3.eqv{p q:Δ}{P:Ps}(h1:N3 H p P)(h2:N3 H q P)(o:OM P):OA H 2 (.ref p) (.ref q):=by
 obtain⟨g,c,f⟩:=h1;obtain⟨h,e,d⟩:=h2;refine .tup (.inl c) (.inl e) Z (by show 3<=ζ;decide) λi x y ex a=>?_
 match i,ex,a with
 |0,ex,a=>cases ex;cases a;exact .str _ _
 |1,ex,a=>cases ex;cases a;exact .int _ _
 |2,ex,a=>cases ex;cases a;exact .ints (.inl f) (.inl d) (by rw[o.l];decide)
 |i+3,ex,a=>cases ex
theorem ON.eqv{b:Δ}(h1:ON H a r)(h2:ON H b r):OA H 3 (.ref a) (.ref b):=by
 cases r with
 |learn P R=>
  obtain⟨j,p2,d,e,f,h,l⟩:=h1;obtain⟨m,p,f1,f2,g,_⟩:=h2;refine .tup d f1 Z (by show 3<=ζ;decide) λi x y ex c=>?_
  match i,ex,c with
  |0,ex,c=>cases ex;cases c;exact .str _ _
  |1,ex,c=>cases ex;cases c;exact N3.eqv e f2 h
  |2,ex,c=>cases ex;cases c;exact N3.eqv f g l
  |i+3,ex,c=>cases ex
 |forget nm=>
  refine .tup (n:=2) h1 h2 Z (by show 2<=ζ;decide) λi x y ex c=>?_
  match i,ex,c with
  |0,ex,c=>cases ex;cases c;exact .str _ _
  |1,ex,c=>cases ex;cases c;exact .str _ _
  |i+2,ex,c=>cases ex
 |turn ks=>
  obtain⟨k1,d,e,f⟩:=h1;obtain⟨k2,f1,f2,_⟩:=h2;refine .tup (n:=2) d f1 Z (by show 2<=ζ;decide) λi x y ex c=>?_
  match i,ex,c with
  |0,ex,c=>cases ex;cases c;exact .str _ _
  |1,ex,c=>cases ex;cases c;exact .ints e f2 (by rw[Jn];lia)
  |i+2,ex,c=>cases ex
 |close age=>
  refine .tup (n:=2) h1 h2 Z (by show 2<=ζ;decide) λi x y ex c=>?_
  match i,ex,c with
  |0,ex,c=>cases ex;cases c;exact .str _ _
  |1,ex,c=>cases ex;cases c;exact .int _ _
  |i+2,ex,c=>cases ex
 |hear P ans=>
  obtain⟨j,p2,d,e,h,f,q,o⟩:=h1;obtain⟨m,p,f1,f2,_,g,_⟩:=h2;refine .tup d f1 Z (by show 3<=ζ;decide) λi x y ex c=>?_
  match i,ex,c with
  |0,ex,c=>cases ex;cases c;exact .str _ _
  |1,ex,c=>cases ex;cases c;exact N3.eqv e f2 h
  |2,ex,c=>
   cases ex;cases c
   refine .tup (n:=1) (.inl f) (.inl g) Z (by rw[Jn];lia) λi x y ex c=>?_
   rw[ex]at c;cases c
   exact pI (o _ (Jp ex))
  |i+3,ex,c=>cases ex
theorem OO.eqv{t':Δ}(h1:OO H t L)(h2:OO H t' L)(hl:L.length<=2000000):OA H 4 (.ref t) (.ref t'):=by
 obtain⟨rs,e,d,j⟩:=h1;obtain⟨f,l,g,h⟩:=h2;refine .tup e l (by simp [d,g]) (by rw[Jb,d,Jn];lia) λi x y ex c=>?_
 rw[Jm]at ex c;cases q1:rs[i]? with
 |none=>rw[q1]at ex;cases ex
 |some a=>
  cases q2:f[i]? with
  |none=>rw[q2]at c;cases c
  |some b=>
   rw[q1]at ex;rw[q2]at c;cases ex;cases c
   have hi:i<L.length:=by rw[<- d];exact(Jt.mp q1).1
   exact(j i a _ q1 (Jk hi)).eqv (h i b _ q2 (Jk hi))
end
theorem _root_.L2.MW.up{K:ι}{H:Hp}{a:Δ}{xs:Β}(h:MW [] H a xs):MW K H a xs:=h.elim .inl λ⟨_,_,_,z,_⟩=>nomatch z
theorem _root_.L2.MW.rd{H:Hp}{a:Δ}{xs:Β}(h:MW [] H a xs):Rd H a (.tup xs):=h.elim id λ⟨_,_,_,z,_⟩=>nomatch z
theorem Ng.up{K:ι}{H:Hp}{a:Δ}{c:List Ε}(h:Ng [] H a c):Ng K H a c:=by
 obtain⟨d,e,l,r⟩:=h
 exact#[d,e,l,λi a ks f g=>(r i a ks f g).up]
inductive Ry (K:ι) (C:Δ) (vs:Β) (H:Hp) (Q:VK):Prop
 |mk (p a b dx:Δ) (near far most:Int) (t:Ε) (kss:List Ε) (h1:vs=[.ref p,.ref a,.ref b,.int near,.int far,.int most]) (h2:H p=↑(.ins C dx [])) (h3:Sq K H a (t.map V.int)) (h4:Ng [] H b kss) (h5:kss.length<=8) (h6:∀ta hk bd lg H',H hk=none->H bd=none->H lg=none->Mv [p] H H'->MR K C H' p ta hk bd lg 0 ⟨t,kss,near,far,most,0,[]⟩->Ng [] H' hk kss->Q .non H')
def lE(K:ι)(C:Δ):Sp:=λa H Q _=>Ry K C a H Q
inductive PX (K:ι) (C:Δ) (vs:Β) (H:Hp) (Q:VK):Prop
 |mk (p a b dx:Δ) (near far most:Int) (t:Ε) (kss:List Ε) (h1:vs=[.ref p,.ref a,.ref b,.int near,.int far,.int most]) (h2:H p=↑(.ins C dx [])) (h3:Sq K H a (t.map V.int)) (h4:HM [] H b kss) (h5:kss.length<=8) (h6:∀ta hk bd lg H',H hk=none->H bd=none->H lg=none->Mv [p] H H'->MR K C H' p ta hk bd lg 0 ⟨t,kss,near,far,most,0,[]⟩->Ng [] H' hk kss->Q .non H')
def rE(K:ι)(C:Δ):Sp:=λa H Q _=>PX K C a H Q
structure Da where
 p:Δ
 ta:Δ
 hk:Δ
 bd:Δ
 lg:Δ
structure Nk(K:ι)(C:Δ)(H:Hp)(a:Da)(D:Dr)(L:Τ):Prop where
 dr:MR K C H a.p a.ta a.hk a.bd a.lg L.length D
 lo:OI H a.lg L
 kr:Ng [] H a.hk D.kss
section
variable{K:ι}{C:Δ}{S:Η}{H H':Hp}{a:Da}{D:Dr}{L:Τ}{r:Δ}{rw:Rw}{rs:Η}
theorem Nk.mv(b:Nk K C H a D L)(m:Mv S H H')(nt:NT S H)(hp:a.p∉S)(c:a.hk∉S)(hb:a.bd∉S)(hl:a.lg∉S):Nk K C H' a D L:=#[b.dr.mv m nt hp c hb hl,b.lo.mv m nt hl,Ng.mv m nt c b.kr]
theorem Nk.same(b:Nk K C H a D L)(s:MM H H'):Nk K C H' a D L:=#[b.dr.same s,b.lo.same s,Ng.same s b.kr]
theorem Nk.push(b:MR K C H a.p a.ta a.hk a.bd a.lg L.length D)(c:H a.lg=↑(.lst (rs.map V.ref)))(d:NC H rs L)(f:Ng [] H a.hk D.kss)(hr:ON H r rw):Nk K C (MO H a.lg (.lst (rs.map V.ref++[.ref r]))) a D (L++[rw]):=by
 have nt:NT [a.lg] H:=NT.one c trivial
 have e:=b.putL (r:=r) c (L4 d.1)
 rw[show L.length+1=(L++[rw]).length by simp]at e
 exact#[e,#[rs++[r],by rw[qa,JF];rfl,(d.add hr).mv Mv.upd1 nt],Ng.mv Mv.upd1 nt (zu b.ne.symm) f]
theorem CZ{p ta hk bd lg:Δ}{n:Nat}{c:List (qN×V)}(e:H bd=↑(.dK c))(b:MR K C H p ta hk bd lg n D):hk≠bd:=by
 obtain⟨d,a,_⟩:=b.ks;exact zr a e (by intro z;cases z)
theorem EI{p ta hk bd lg dx:Δ}{n:Nat}{c:List (Str×V)}(e:H p=↑(.ins C dx c))(b:MR K C H p ta hk bd lg n D):hk≠p:=by
 obtain⟨d,a,_⟩:=b.ks;exact zr a e (by intro z;cases z)
theorem MR.dl{p ta hk bd lg:Δ}(b:MR K C H p ta hk bd lg 0 D)(c:Ng [] H hk D.kss):Nk K C H #[p,ta,hk,bd,lg] D []:=by
 obtain⟨rs,e,l⟩:=id b.lo
 obtain rfl:rs=[]:=List.length_eq_zero_iff.mp (Nat.le_zero.mp l)
 exact#[b,#[[],e,Z,λi a r h=>by cases h],c]
end
inductive Dd where
 |learn (o1 o2:Option Ps)
 |forget (nm:Str)
 |turn (ks:Ε)
 |close (age:Int)
 |hear (o:Option Ps)
def qX(D:Dr)(P:Ps):Β×Kw:=Qr D P.nm P.age (aF D.t (aq D P.age) P.nm P.ds)
def HN(D:Dr):Dd->Option (Dr×Rw)
 | .learn ↑P ↑R=>if(Ai D P R).1="" then ↑({D with kn:=(Ai D P R).2.2},.learn P R)else none
 | .learn _ _=>none
 | .forget nm=>if D.kn.lookup nm=none then none else ↑({D with kn:=D.kn.filter λp=>decide (p.1≠nm)},.forget nm)
 | .turn ks=>if D.kss.length<8 then ↑({D with kss:=D.kss++[ks]},.turn ks)else none
 | .close age=>↑({D with least:=if age>D.least then age else D.least},.close age)
 | .hear ↑P=>↑({D with kn:=(qX D P).2},.hear P (qX D P).1)
 | .hear none=>none
section
variable(K:ι)(C:Δ)(x:Xa)
inductive Rz (vs:Β) (H:Hp) (Q:VK):Prop
 |mk (a:Da) (D:Dr) (L:Τ) (x:V) (o:Option Ps) (h1:vs=[.ref a.p,x]) (h2:Nk K C H a D L) (h3:L.length<=1000000) (h4:OX D) (h5:Tg H x o) (h6:(o=none->∀q H',MM H H'->H' q=↑(.tup [.str "held",.str "bad"])->Q (.ref q) H')) (h7:∀P,o=↑P->∀pr q H',x= .ref pr->Mv [a.bd,a.lg] H H'->N3 H' pr P->H' q=↑(.tup (qX D P).1)->Nk K C H' a {D with kn:=(qX D P).2} (L++[.hear P (qX D P).1])->Q (.ref q) H')
def mK:Sp:=λa H Q _=>Rz K C a H Q
def PY(H:Hp)(k:Δ)(ks:Ε):Prop:=H k=↑(.lst (ks.map V.int))\/Rd H k (.tup (ks.map V.int))
inductive PZ (vs:Β) (H:Hp) (Q:VK):Prop
 |mk (a:Da) (D:Dr) (L:Τ) (age:Int) (h1:vs=[.ref a.p,.int age]) (h2:Nk K C H a D L) (h3:L.length<=1000000) (h4:∀D' r,HN D (.close age)=↑(D',r)->∀H',Mv [a.p,a.lg] H H'->Nk K C H' a D' (L++[r])->Q .non H')
def jx:Sp:=λa H Q _=>PZ K C a H Q
inductive R3 (vs:Β) (H:Hp) (Q:VK):Prop
 |mk (a:Da) (D:Dr) (L:Τ) (h1:vs=[.ref a.p]) (h2:Nk K C H a D L) (h3:∀t H',MM H H'->OO H' t L->Q (.ref t) H')
def Ag:Sp:=λa H Q _=>R3 K C a H Q
inductive RA (vs:Β) (H:Hp) (Q:VK):Prop
 |mk (a:Da) (D:Dr) (L:Τ) (h1:vs=[.ref a.p]) (h2:Nk K C H a D L) (h3:D.kss.length<=8) (h4:∀a' H',MM H H'->H a'.p=none->H a'.hk=none->H a'.bd=none->H a'.lg=none->Nk K C H' a' D L->Q (.ref a'.p) H')
def tQ:Sp:=λa H Q _=>RA K C a H Q
end
theorem i7{X:Cx}:zx X (.type "tuple") (λxs H Q=>∃a ks,xs=[.ref a]/\PY H a ks/\∀t c,MM H c->Rd c t (.tup (ks.map V.int))->Q (.ref t) c):=by
 intro tx s σ H xs d Q I r h;obtain⟨a,ks,e,h,q⟩:=h;refine qZ tx s σ H xs d Q I r #[a,ks.map V.int,e,?_]
 rcases h with h|h
 ·exact .inl #[MV.of h,λt f=>q t _ (MM.upd f) (.inl qa)]
 ·exact .inr #[.inl h,q a _ (MM.refl _) h]
section
variable{D:Dr}{P:Ps}
theorem cC(D:Dr)(nm:Str)(age:Int)(r:Option (Int×Int)):(Qr D nm age r).1.length<=3/\∀v∈(Qr D nm age r).1,jc v:=by
 have two:∀a b:Str,([V.str a,.str b]:Β).length<=3/\∀v∈([V.str a,.str b]:Β),jc v:=λa b=>#[by show 2<=3;decide,λv d=>by simp at d;rcases d with rfl|rfl<;>trivial]
 have c:∀(a b:Str) (i:Int),([V.str a,.str b,.int i]:Β).length<=3/\∀v∈([V.str a,.str b,.int i]:Β),jc v:=λa b i=>#[by show 3<=3;decide,λv d=>by simp at d;rcases d with rfl|rfl|rfl<;>trivial]
 unfold Qr;split
 ·exact two _ _
 ·split
  ·split
   ·exact two _ _
   ·split
    ·exact c _ _ _
    ·exact two _ _
  ·exact two _ _
theorem wF(D:Dr)(P:Ps):(qX D P).1.length<=3:=(cC ..).1
theorem AD(D:Dr)(P:Ps):∀v∈(qX D P).1,jc v:=(cC ..).2
end
theorem iJ{t u:TS}{D:Nq}{σ:L2.St}{H:Hp}(G:L2.St->Hp->Prop)(h:∀D':Nq,D'.rt=D.rt->(∀a H',G a H'->D'.nx a H')->t D' σ H)(c:∀a H',G a H'->u D a H'):gm t u D σ H:=h {D with nx:=u D} rfl c
section
variable{K:ι}{C:Δ}{H:Hp}{a:Da}{D:Dr}{L:Τ}
def dS(a:Da):Η:=[a.p,a.hk,a.bd,a.lg]
theorem Nk.nt(d:Nk K C H a D L):NT (dS a) H:=λc e=>by
 obtain⟨dx,f⟩:=id d.dr.ob;obtain⟨l,h,_⟩:=id d.dr.kb;obtain⟨j,i,_⟩:=id d.dr.ks;obtain⟨rs,g,_⟩:=id d.lo;simp only[dS,Ji,Jr,Js]at e;rcases e with rfl|rfl|rfl|rfl
 ·exact#[_,f,trivial]
 ·exact#[_,i,trivial]
 ·exact#[_,h,trivial]
 ·exact#[_,g,trivial]
end
theorem BZ{i:Nat}{v:V}{σ:L2.St}{H:Hp}{t u:TS}{D:Nq}{rt:VK}{bk ct:L2.St->Hp->Prop}(G:L2.St->Hp->Prop)(h:∀D':Nq,D'.rt=D.rt->(∀a H',G a H'->D'.nx a H')->t D' (σ.set i ↑v) H)(c:∀a H',G a H'->u D a H'):aG i v σ H (Nq.nx {nx:=gm t u D,rt:=rt,bk:=bk,ct:=ct}):=h {D with nx:=u D} rfl c
theorem fO{a:Da}{H H':Hp}(m:Mv [a.bd,a.lg] H H'):Mv (dS a) H H':=m.mono λc h z=>h (by simp only[dS,Ji,Jr,Js]at z⊢;rcases z with z|z<;>simp [z])
theorem HE{a:Da}{H H':Hp}(m:Mv [a.p,a.lg] H H'):Mv (dS a) H H':=m.mono λc h z=>h (by simp only[dS,Ji,Jr,Js]at z⊢;rcases z with z|z<;>simp [z])
theorem zm{P:Ξ}{w:Ω}{K:ι}{mg:MK}{base:Ψ}{N:Α}{Tb:Str}{c:Scope}{f:Δ}{F:Γ}{A:Around}{outer:Ο}{d:Θ}{H0:Hp}{E:XK}:
  b9 (aE P w) (Qs (aE P w) P w K mg base N Tb c f F A outer d H0 E) E:=by
 intro tx σ H s e s' I h;obtain⟨a,cls,dd,T,H',rfl,os,j,un,n,ha,x,O,G,⟨oe,vs,oT,ts,a0,he,hc,a1,t,h0,h1,a2,b3,a4,h3⟩,q⟩:=h;obtain⟨X,hX⟩:∃X,X=Qs (aE P w) P w K mg base N Tb c f F A outer d H0 E:=#[_,Z]
 have I2:L2.MQ (Qs (aE P w) P w K mg base N Tb c f F A outer d H0 E) tx σ H' s':=I.call' os un n j (λb z=>absurd z (by simp))
 obtain⟨fl,b1⟩:∃fl,fl=d.heap.objs.size::Qp outer:=#[_,Z]
 have fe:Qp ((Qs (aE P w) P w K mg base N Tb c f F A outer d H0 E).stack)=fl:=b1.symm
 obtain⟨B,g⟩:∃B,B=am s'.heap (a::T::fl):=#[_,Z]
 have kb:B.StaysIn s'.heap:=λb o q=>by rw[g]at q;exact(eL q).2
 have ff:=aD (B':=B) I2.stack (λb hb=>by rw[g];exact QB (JC _ (JC _ (by rw[<- fe];exact hb))))
 have td:Sf s'.heap B a cls dd .none:=#[oe,vs,T,oT,ts,a0,he,hc,a1,t,h0,h1,by rw[g];exact QB (JC _ (JB ..)),a2,b3,a4,h3]
 show ε _ _ (leaving _ (.ref a)) _ _ s'
 unfold leaving;refine Ja (wz (L:=d.heap.objs.size) I.ok.frames ff Z td kb (by rw[g];exact QB (JB ..)) λh4 k1 k2 k3 Y=>?_)
 refine iH k1 k2 k3 λh5 j1 j2 j3 a3=>?_
 have up:=Y.trans a3;obtain⟨o5,b2,i,U,v,W,e5,c5,J,d5,x0,x1,D,Q,M,r,x3⟩:=id j3.ex;have S:L2.MQ (Qs (aE P w) P w K mg base N Tb c f F A outer d H0 E) tx σ H' {s' with heap:=h5,toks:=s'.toks}:=jq I os j un n ha x O G (by rw[fe,<- g];exact j1) up e5 c5 d5 J
 have R:∀b o,d.heap.get? b=↑o->∃o',s.heap.get? b=↑o':=λb o hb=>I.base.there b o hb (λz=>nomatch z)
 have a5:d.heap.get? a=none:=by
  cases z:d.heap.get? a with
  |none=>rfl
  |some o=>obtain⟨o',l⟩:=R a o z;rw[x]at l;cases l
 have b0:d.heap.get? T=none:=by
  cases z:d.heap.get? T with
  |none=>rfl
  |some o=>obtain⟨o',l⟩:=R T o z;rw[O]at l;cases l
 have C:i=T\/s'.heap.get? i=none:=by
  by_cases z:i=T
  ·exact .inl z
  ·refine .inr ?_
   cases y:s'.heap.get? i with
   |none=>rfl
   |some o=>
    by_cases m:i∈fl
    ·obtain⟨_,o',z',nf⟩:=I2.stack.mem (show i∈Qp _ by rw[fe];exact m)
     rw[y]at z';cases z'
     obtain⟨sl,q1⟩:=up i o y nf;rw[M]at q1;cases q1
     exact absurd r (nf v)
    ·rw[g,Z9 (λm'=>by
      rcases Ji.mp m' with m'|m'
      ·exact Q m'
      ·rcases Ji.mp m' with m'|m'
       ·exact z m'
       ·exact m m'),y]at D
     cases D
 have u:d.heap.get? i=none:=by
  rcases C with rfl|z
  ·exact b0
  ·cases y:d.heap.get? i with
   |none=>rfl
   |some o=>obtain⟨o',l⟩:=I2.base.there i o y (λz=>nomatch z);rw[z]at l;cases l
 have p:H' i=none:=by
  rcases C with rfl|z
  ·exact G
  ·exact NS.none n z
 exact#[a,cls,dd,i,H',Z,S.os,S.bare,S.base,S.hok,ha,a5,u,p,#[o5,b2,U,v,W,e5,c5,J,d5,x0,x1,Q,M,r,x3],q]
def FA(C:Δ)(m:Str)(sp:Sp)(E:XK)(ta:TE)(t:TA):TE:=λσ H Q=>ta σ H λx H1=>∃a,x= .ref a/\wg C H1 a m/\t σ H1 λc d=>sp (x::(c++[])) d Q E
section
variable{X:Cx}{E:XK}{C:Δ}{x m:Str}{ps:Α}{k:Nat}{sp:Sp}{o e:Φ}{es:Ι}{pos apos:Pos}{ta:TE}{t:TA}
theorem zv{pl:Sem Bool}(M:My X.prog X.w X.K X.mg X.base C m ps k sp)(hx:b9 (aE X.prog X.w) X E)(c:OW X.K C)(hr:M9 k X.A)(he:QE X o ta)(ha:QA X (e::es) t)
  (hst:θ (e::es) X.env=(false,eval e X.env)::θ es X.env:=by rfl)(hpl:(backTo pos (θ es X.env)).any (·.1)=false:=by rfl)
  (p:eval (.Call (.Attribute o m apos) (e::es) [] pos) X.env=(do
   let j <- eval o X.env
   standAt apos.atName
   let(f,first) <- holding [j] (getMethod j m pl)
   callWith pos f first (backTo pos (θ (e::es) X.env)) (backToKw pos (keywordEach [] X.env))):=by rfl):
  QE X (.Call (.Attribute o m apos) (e::es) [] pos) (FA C m sp E ta t):=#[by
 obtain⟨f,fd,F,i,y⟩:=M.ex;intro tx s σ H Q I h;refine Mn (pl:=pl) (qF (he.h tx s σ H _ I h) λu n v=>?_) p
 obtain⟨x,H1,g,A,a,ex,⟨dx,fs,w,l⟩,q⟩:=v;subst ex
 obtain rfl:u=Γ.ref a:=A
 refine fD g w c i l ?_
 refine LD (first:=[.ref a]) (h₀:=X.base) I.ok.mod.kin i.kp (qF (ha.h pos tx n σ H1 _ g q) λus B ⟨vs,D,d,r,z⟩=>#[d.kIn,?_]) hst hpl
 exact kE (us:= .ref a::us) (vs:= .ref a::vs) F hr y .nil hx d (.cons Z r) z]
end
structure Dy(P:Ξ)(w:Ω)(K:ι)(mg:MK)(base:Ψ)(x:Str)(ps:Α)(k:Nat)(sp:Sp):Prop where
 ex:∃(f:Δ) (fd:FuncData),N9 P w K mg base (aE P w) k f fd ps sp/\mg x=↑(.ref f)/\PySem.W.keepIn K (.ref f)=true/\NF K fd ps []
theorem At.dy{P:Ξ}{w:Ω}{K:ι}{mg:MK}{base:Ψ}{x:Str}{st:δ}{ps N:Α}{k:Nat}{sp:Sp}(a:At K mg x st ps)(S:MN N ps (ql st))
  (c:∀(f:Δ) (cdv:Γ) (A:Around) (outer:Ο) (s:Θ) (H:Hp) (vs:Β) (Q:VK) (E:XK),M9 k (A.deeper (envOfC x (ql st) s.heap.objs.size f cdv))->sp vs H Q E->
   ∃t,Pu (Qs (aE P w) P w K mg base N x (ql st) f cdv A outer s H E) (zU st) t/\t {nx:=λ_ H'=>Q .non H',rt:=Q} (Q7 N vs) H)(e:∀vs H Q E,sp vs H Q E->vs.length=ps.length:=by intro vs H Q E h;first|(cases h;subst_vars;rfl)|((repeat first|obtain⟨rfl,h⟩:=h|obtain⟨_,h⟩:=h);all_goals rfl)):Dy P w K mg base x ps (k+1) sp:=by
 obtain⟨f,fd,F,m,i,bd⟩:=a.ex;refine#[f,fd,?_,m,i,bd]
 obtain⟨oc,od,kV,doc,pm,an,cdv,ct,osl,rfl,l,g⟩:=F.ex;refine uT l g S e λA outer s H vs Q E j d=>?_
 obtain⟨t,h,q⟩:=c f cdv A outer s H vs Q E j d
 exact#[t,h.h,q]
def GY(i:Nat)(sp:Sp)(t:TA):TX:=λD d σ H=>t σ H λa c=>sp (a++[]) c (λv H3=>D.nx (σ.set i ↑v) H3) (λv _ H'=>∃b,v= .ref b/\d σ b H')
theorem E7{X:Cx}{y x:Str}{ps:Α}{k i:Nat}{sp:Sp}{e:Φ}{es:Ι}{p pos pos' a:Pos}{t:TA}(M:Dy X.prog X.w X.K X.mg X.base y ps k sp)(hr:M9 k X.A)(hN:X.N.Nodup)(hi:X.N[i]? =↑x)(hx:kD X.env.scope x)(ha:QA X.nox (e::es) t)(hg:Gl X y:=by rfl)(hdb:(y==("__debug__":Str))=false:=by decide)
  (hst:θ (e::es) X.env=(false,eval e X.env)::θ es X.env:=by rfl)(hpl:(backTo pos (θ es X.env)).any (·.1)=false:=by rfl)
  (hs:swapsWith (.Call (.Name y p) (e::es) [] pos) ↑(.Name x pos') a.line X.env=pure false:=by rfl)(hf:X.fn x=true\/X.env.scope.names.lookup x=some .local:=by first|exact .inl Z|exact .inr Z|assumption):
  QY X [.Assign [.Name x pos'] (.Call (.Name y p) (e::es) [] pos) a] (GY i sp t):=#[by
 obtain⟨f,fd,F,A,K,E⟩:=M.ex;intro tx s σ H D O R I h G;refine wpAny_execs_cons (qF (Q:=SP X tx D) (wpAny_Assign_Name (Q:=SP X tx D) (qF (Q:=EP X tx σ λv H3=>D.nx (σ.set i ↑v) H3) ?_ λv B ⟨y,H1,L,J,N⟩=>aM L hN hi hx J (λl c=>#[_,H1,c,N]) hf) hs) λf B q=>?_)
 ·refine LC (Z8 I hg A ?_ hdb)
  refine LD (h₀:=X.base) I.ok.mod.kin K (JJ (ha.h pos tx s σ H _ (I.wish _) h) (λj l ⟨m,w,d,r,o⟩=>#[d.unwish.kIn,?_]) λ_ _ z=>z.elim) hst hpl
  have c:=d.unwish;have n:MU (m++[]) (j++[]):=by rw[LB,LB];exact r
  have C:(j++[]).length=ps.length:=by rw[<- n.length];exact F.len _ _ _ _ o
  refine Lh (IQ (F.run X.A X.stack l w #[j,[]] (j++[]) (m++[]) _ _ hr c.env0 (E l _ c.kIn C) n o) λr s' g=>?_)
  cases r with
  |error e=>exact G σ e s' #[w,l,c,g]
  |ok fl=>
   cases fl with
   |ret u=>exact c.after g
   |next=>exact False.elim g
   |brk=>exact False.elim g
   |cont=>exact False.elim g
 ·cases f with
  |next=>exact Ly q
  |ret v=>exact q
  |brk=>exact q
  |cont=>exact q]
theorem sV{P:Ξ}{w:Ω}{K:ι}{mg:MK}{base:Ψ}{N:Α}{Tb:Str}{a:Scope}{f:Δ}{c:Γ}{A:Around}{outer:Ο}{d:Θ}{H0:Hp}{E:XK}:
  PassesOwn (model P w) (Qs (aE P w) P w K mg base N Tb a f c A outer d H0 E).A (Qs (aE P w) P w K mg base N Tb a f c A outer d H0 E).env (Qs (aE P w) P w K mg base N Tb a f c A outer d H0 E).xe:=PassesOwn.leaving
theorem wq:∀{kvs:List (qN×V)} {vs:List (qN×Γ)},KV kvs vs->∀(i:Nat) a b,kvs[i]? =↑a->vs[i]? =↑b->MT a.2 b.2
 |_,_,.nil,i,a,b,h,_=>by cases h
 |_,_,.cons r t,0,a,b,h1,h2=>by cases h1;cases h2;exact r.2
 |_,_,.cons r t,i+1,a,b,h1,h2=>wq t i a b h1 h2
def GD(a:Hp)(t:TS):TS:=λD σ H=>t {nx:=λc H'=>∃d o kvs,H' d=↑(.frz o (.dK kvs))/\(∀o u,a d≠↑(.frz o u))/\D.nx c (MO H' d (.dK kvs)),rt:=D.rt,bk:=D.bk,ct:=D.ct} σ H
theorem ua{X:Cx}{st:δ}{t:TS}(h:QS X st t):QS X st (GD X.H₀ t):=#[by
 intro tx s σ H D I w;refine qF (h.h tx s σ H _ I w) λf i q=>?_
 cases f with
 |next=>obtain⟨a,H',e,d,o,kvs,c,g,q⟩:=q;exact#[a,_,MQ.thaw e c g,q]
 |ret v=>exact q
 |brk=>exact q
 |cont=>exact q]
section
variable{K:ι}{H:Hp}
theorem BJ{a b:Δ}{ns:Ε}{n:Nat}(h1:MW K H a (ns.map V.int))(h2:MW K H b (ns.map V.int)):RU K H (n+1) (.ref a) (.ref b):=by
 refine .tup h1 h2 Z λi x y c d=>?_
 rw[c]at d;cases d
 rw[Jm]at c;cases h:ns[i]? with
 |none=>rw[h]at c;cases c
 |some v=>rw[h]at c;cases c;exact .int _ _
theorem BY{a b:Δ}{f bs:Η}{c:List Ε}(h1:MW K H a (f.map V.ref))(g:f.length=c.length)(k1:∀(i:Nat) (a:Δ) (ks:Ε),f[i]? =↑a->c[i]? =↑ks->MW K H a (ks.map V.int))(h2:MW K H b (bs.map V.ref))(h:bs.length=c.length)(k2:∀(i:Nat) (a:Δ) (ks:Ε),bs[i]? =↑a->c[i]? =↑ks->MW K H a (ks.map V.int)):RU K H 2 (.ref a) (.ref b):=by
 refine .tup h1 h2 (by simp [g,h]) λi x y d e=>?_
 rw[Jm]at d e;cases q1:f[i]? with
 |none=>rw[q1]at d;cases d
 |some a=>
  cases q2:bs[i]? with
  |none=>rw[q2]at e;cases e
  |some b=>
   rw[q1]at d;rw[q2]at e;cases d;cases e
   have hi:i<c.length:=by rw[<- g];exact(Jt.mp q1).1
   exact BJ (k1 i a _ q1 (Jk hi)) (k2 i b _ q2 (Jk hi))
end
theorem jm(a:Da):a.p∈dS a:=by simp [dS]
theorem kX(a:Da):a.hk∈dS a:=by simp [dS]
theorem j7(a:Da):a.bd∈dS a:=by simp [dS]
theorem ft(a:Da):a.lg∈dS a:=by simp [dS]
theorem PY.same{H H':Hp}{a:Δ}{ks:Ε}(s:MM H H')(h:PY H a ks):PY H' a ks:=h.elim (λz=> .inl (s _ _ z)) λz=> .inr (Rd.same s z)
theorem ui{H:Hp}{q y:Δ}{a:Β}{n:Nat}(d:H q=↑(.tup a))(e:H y=↑(.tup a))(hl:a.length<=3)(h:∀v∈a,jc v):OA H (n+1) (.ref q) (.ref y):=by
 refine .tup (.inl d) (.inl e) Z (by rw[Jn];omega) λi x z h1 c=>?_
 rw[h1]at c;cases c
 exact pI (h _ (Jp h1))
section
variable(K:ι)(C:Δ)
inductive Ph (vs:Β) (H:Hp) (Q:VK):Prop
 |mk (a:Da) (D:Dr) (L:Τ) (p1 p2:Δ) (P R:Ps) (c d d':Int) (h1:vs=[.ref a.p,.ref p1,.ref p2]) (h2:Nk K C H a D L) (h3:L.length<=1000000) (h4:OX D) (h5:N3 H p1 P) (h6:N3 H p2 R) (h7:OM P) (h8:OM R) (h9:ir D P=↑(c,d)) (h10:ir D R=↑(c+1,d')) (h11:R.nm=P.nm) (h12:R.age=P.age) (h13:D.kn.lookup R.nm=none) (h14:(D.kn.length:Int)<D.most) (h15:∀H',Mv [a.bd,a.lg] H H'->Nk K C H' a {D with kn:=Qw D.kn R.nm ⟨R.age,c+1,none⟩} (L++[.learn P R])->Q .non H')
def ie:Sp:=λa H Q _=>Ph K C a H Q
end
theorem Ee{xs:Β}{x:V}:Q2 (xs++[x]) (-1)=↑x/\bA (xs++[x]).length (-1)=↑xs.length:=by
 have e:bA (xs++[x]).length (-1)=↑xs.length:=by
  unfold bA;rw[Jc ⋯,Jd (by rw[Jo];simp;omega),Jo]
  congr 1
  simp
  omega
 refine#[?_,e]
 unfold Q2;rw[e];simp
theorem uf{H:Hp}{a:Da}(f1:H a.p=none)(f2:H a.hk=none)(d:H a.bd=none)(e:H a.lg=none):∀z∈dS a,H z=none:=λz c=>by
 simp only[dS,Ji,Jr,Js]at c;rcases c with rfl|rfl|rfl|rfl<;>assumption
section
variable{X:Cx}
inductive RB (x:V) (vs:Β) (H:Hp) (Q:VK):Prop
 |mk (l:Δ) (xs:Β) (i:Int) (y:V) (h1:x= .ref l) (h2:vs=[.int i,y]) (h3:H l=↑(.lst xs)) (h4:0<=i) (h5:i<=xs.length) (h6:xs.length<ζ) (h7:Q .non (MO H l (.lst (xs.take i.toNat++y::xs.drop i.toNat))))
def Dz:V->Β->Hp->VK->Prop:=λx a H Q=>RB x a H Q
theorem xv:je X "list.insert" Dz:=by
 intro tx s σ H x B v A Q I w o h;obtain⟨l,xs,i,y,rfl,rfl,f,G,hk,E,q⟩:=h;cases w;obtain⟨D,u,rfl,c,m⟩:=o.two;obtain⟨t,rfl⟩:=c;obtain⟨z,a,n,r,C,e⟩:=I.lstM f;have d:a.length<ζ:=by lia
 have j:i<2 ^ 63:=by have:a.length<ζ:=d;rw[Jn]at this;lia
 have p:¬(!γ.List.listFitsIndex i)=true:=by rw[fitsIndex_both (by lia) j];decide
 refine IF F.slot_list_insert #[_,e,Z] F.entry_list_insert (F.args_list_insert_3 _ _ _) (PySem.AutoSeq1.list_insert_list_int_val_1 l a.toArray n i t u p (by rw[JA];lia)) #[e,?_]
 refine#[.non,_,I.lset (its':=a.take i.toNat++u::a.drop i.toNat) f e ?_ ((r.take i.toNat).append (.cons m (r.drop i.toNat))) ?_,Z,q]
 ·simp only[JA]
  have g:min i.toNat a.length=i.toNat:=by lia
  rw[Jc (by lia),g]
  apply Array.ext'
  simp [MA]
 ·rw[Jo,J7,Ie,L7]
  lia
end
theorem DH{K:ι}{js:Μ}{te:TE}{σ:L2.St}{H:Hp}{Q:VK}{H0:Hp}{a:Δ}{xs:Β}(c:Sq K H0 a xs)(hn:xs.length<=ζ)(Pv:Nat->Β->Hp->Prop)(d:Pv 0 [] H)(ps:∀i ys H',Pv i ys H'->MM H0 H')
  (hs:∀i ys H' x,xs[i]? =↑x->ys.length=i->Pv i ys H'->te (↑x::QD js σ) H' λv H3=>Pv (i+1) (ys++[v]) H3)
  (hd:∀ys H',ys.length=xs.length->Pv xs.length ys H'->∀p,H' p=none->Q (.ref p) (MO H' p (.lst ys))):((∃xs,MV K H a xs)/\a6 (iu K a) js te σ H Q)\/((∃xs,MW K H a xs)/\a6 (ib K a) js te σ H Q):=by
 rcases c with c|c
 ·exact .inl #[#[_,(ps _ _ _ d).seq c],bj hn Pv d (λi ys H' p=>(ps i ys H' p).seq c) hs hd]
 ·exact .inr #[#[_,MM.sqt (ps _ _ _ d) c],eI hn Pv d (λi ys H' p=>MM.sqt (ps i ys H' p) c) hs hd]
theorem gT(D:Dr)(nm:Str)(age:Int)(r:Option (Int×Int)):(Qr D nm age r).2.map (·.1)=D.kn.map (·.1):=by
 unfold Qr;cases e:D.kn.lookup nm with
 |none=>rfl
 |some x=>
  simp only
  split
  ·split
   ·rfl
   ·split
    ·exact ko e
    ·exact ko e
  ·rfl
theorem ve{D:Dr}(ok:OX D)(P:Ps):OX {D with kn:=(qX D P).2}:=by
 have h:(qX D P).2.map (·.1)=D.kn.map (·.1):=gT ..
 have a:=JL List.length h;rw[Jb,Jb]at a
 exact#[ok.tp,ok.l0,ok.kl,by show(qX D P).2.length<=60;rw[a];exact ok.nl,by show((qX D P).2.map (·.1)).Nodup;rw[h];exact ok.nd]
def R4(H:Hp)(pl:Δ)(ps:List Ps):Prop:=∃c:Η,H pl=↑(.lst (c.map V.ref))/\c.length=ps.length/\∀(i:Nat) (a:Δ) (P:Ps),c[i]? =↑a->ps[i]? =↑P->N3 H a P
section
variable{S:Η}{H H':Hp}
theorem Am{p q:Δ}{g:Α}{m:Kw}(h1:Pb H p g m)(h2:Pb H q g m)(hs:∀nm∈g,nm∈m.map (·.1))(hl:g.length<=60):OA H 3 (.ref p) (.ref q):=by
 obtain⟨s,r,l,w⟩:=h1;obtain⟨bs,D,A,v⟩:=h2;refine .tup (.inl r) (.inl D) (by simp [l,A]) (by rw[Jb,l,Jn];lia) λi x y ex c=>?_
 rw[Jm]at ex c;cases q1:s[i]? with
 |none=>rw[q1]at ex;cases ex
 |some a=>
  cases q2:bs[i]? with
  |none=>rw[q2]at c;cases c
  |some b=>
   rw[q1]at ex;rw[q2]at c;cases ex;cases c
   have hi:i<g.length:=by rw[<- l];exact(Jt.mp q1).1
   have n:=Jk hi;obtain⟨e,h⟩:=ZM (hs _ (IG hi))
   obtain⟨o,C,f⟩:=w i a _ e q1 n h;obtain⟨u,B,d⟩:=v i b _ e q2 n h;refine .tup (.inl C) (.inl B) Z (by show 4<=ζ;decide) λj x y ex c=>?_
   match j,ex,c with
   |0,ex,c=>cases ex;cases c;exact .str _ _
   |1,ex,c=>cases ex;cases c;exact .int _ _
   |2,ex,c=>cases ex;cases c;exact .int _ _
   |3,ex,c=>
    cases ex;cases c
    cases hw:e.wt with
    |none=>
     rw[hw]at f d;have f:o= .non:=f
     have d:u= .non:=d
     rw[f,d];exact .non _
    |some xc=>
     rw[hw]at f d;obtain⟨F,rfl,z⟩:=f;obtain⟨E,rfl,t⟩:=d;exact OA.ints (ns:=[xc.1,xc.2]) (.inl z) (.inl t) (by show 2<=ζ;decide)
   |j+4,ex,c=>cases ex
theorem R4.mv{pl:Δ}{ps:List Ps}(h:R4 H pl ps)(m:Mv S H H')(nt:NT S H)(hr:pl∉S):R4 H' pl ps:=by
 obtain⟨c,e,l,r⟩:=h
 exact#[c,m _ _ hr e,l,λi a P h1 d=>Nj.mv m nt (r i a P h1 d)]
end
def qP:Α->Str->Option Nat
 | [],_=>none
 |n::r,m=>if n=m then ↑0 else(qP r m).map (· +1)
theorem cm:∀{l:Α} {m:Str} {i:Nat},qP l m=↑i->l[i]? =↑m
 | [],m,i,h=>by cases h
 |n::r,m,i,h=>by
  unfold qP at h;split at h
  ·rename_i e;cases h;rw[e];rfl
  ·cases q:qP r m with
   |none=>rw[q]at h;cases h
   |some j=>rw[q]at h;cases h;have:=cm q;simpa using this
theorem Zl:∀{l:Α} {m:Str},qP l m=none->m∉l
 | [],m,h=>λz=>by cases z
 |n::r,m,h=>by
  unfold qP at h;split at h
  ·cases h
  ·rename_i e
   cases q:qP r m with
   |none=>intro z;rcases Ji.mp z with z|z;exact e z.symm;exact Zl q z
   |some j=>rw[q]at h;cases h
theorem wR{l:Α}{m:Str}{i:Nat}(h:qP l m=↑i):i<l.length:=(Jt.mp (cm h)).1
section
variable{α:Type}{f:α->Str}{g:α->V}
def zw(f:α->Str)(g:α->V)(l:List α):List (qN×V):=l.map λx=>(Sum.inr (f x),g x)
theorem tN:∀(l:List α) (m:Str),QN (zw f g l) (Sum.inr m:qN)=(qP (l.map f) m).bind λi=>(l[i]?).map g
 | [],m=>rfl
 |x::r,m=>by
  show QN ((Sum.inr (f x),g x)::zw f g r) (Sum.inr m:qN)=(qP (f x::r.map f) m).bind λi=>((x::r)[i]?).map g
  unfold qP
  by_cases e:f x=m
  ·rw[Jd e]
   unfold QN;rw[List.find?_cons_of_pos (by simp [e])];rfl
  ·rw[Jc e]
   have h1:QN ((Sum.inr (f x),g x)::zw f g r) (Sum.inr m:qN)=QN (zw f g r) (Sum.inr m:qN):=by
    unfold QN;rw[List.find?_cons_of_neg (by simp [e])]
   rw[h1,tN r m];cases qP (r.map f) m with
   |none=>rfl
   |some i=>rfl
theorem cu(l:List α):(zw f g l).map (·.1)=(l.map f).map Sum.inr:=by
 unfold zw;rw[Ip,Ip];rfl
theorem lP(l:List α){m:Str}{v:V}(h:m∉l.map f):NM (zw f g l) (Sum.inr m:qN) v=zw f g l++[(Sum.inr m,v)]:=by
 refine uz λz=>h ?_
 rw[cu]at z;obtain⟨y,a,e⟩:=Jy.mp z;injection e with e
 exact e▸a
theorem iD{H:Hp}{d:Δ}{l:List α}(e:H d=↑(.dK (zw f g l)))(m:Str):(qP (l.map f) m=none/\Nd H d (.str m) none)\/∃i x,qP (l.map f) m=↑i/\l[i]? =↑x/\f x=m/\Nd H d (.str m) ↑(g x):=by
 have k:=Nd.k (k:=(Sum.inr m:qN)) e
 rw[tN]at k;cases q:qP (l.map f) m with
 |none=>rw[q]at k;exact .inl #[Z,k]
 |some i=>
  have hi:i<l.length:=by have:=wR q;rwa [Jb]at this
  have a:=Jk hi;have c:=cm q;rw[Jm,a]at c;rw[q]at k;simp only[Option.bind_some,a,Option.map_some]at k;exact .inr #[i,_,Z,a,JE c,k]
end
structure Dh where
 nm:Str
 D:Dr
 L:Τ
 op:Μ
structure Hs where
 t:Ε
 kss:List Ε
 least:Int
 ds:List Dh
 bs:List Bt
 kp:List Ps
def Hs.dn(S:Hs):Α:=S.ds.map (·.nm)
def Hs.bn(S:Hs):Α:=S.bs.map (·.nm)
structure NX where
 nm:Str
 a:Da
 ol:Δ
structure Og where
 nm:Str
 p:Δ
 ce:Δ
structure Ha where
 ma:Δ
 ta:Δ
 hk:Δ
 dd:Δ
 bd:Δ
 od:Δ
 kl:Δ
 ds:List NX
 bs:List Og
inductive SZ where
 |ma|hk|dd|bd|od|kl
 |dr (i:Nat)|ol (i:Nat)|bt (i:Nat)
 |no
def hF(a:Ha):Η:=[a.ma,a.hk,a.dd,a.bd,a.od,a.kl]++(a.ds.flatMap (λx=>x.ol::dS x.a)++a.bs.flatMap λx=>[x.p,x.ce])
theorem Nb{a:Ha}{z:Δ}:z∈hF a↔(z=a.ma\/z=a.hk\/z=a.dd\/z=a.bd\/z=a.od\/z=a.kl)\/(∃x∈a.ds,z=x.ol\/z∈dS x.a)\/∃x∈a.bs,z=x.p\/z=x.ce:=by
 unfold hF;simp only[Jv,Ji,Jr,Js,List.mem_flatMap]
structure Ow(w:Δ->SZ)(a:Ha):Prop where
 ma:w a.ma= .ma
 hk:w a.hk= .hk
 dd:w a.dd= .dd
 bd:w a.bd= .bd
 od:w a.od= .od
 kl:w a.kl= .kl
 dr:∀(i:Nat) (x:NX),a.ds[i]? =↑x->∀z∈dS x.a,w z= .dr i
 ol:∀(i:Nat) (x:NX),a.ds[i]? =↑x->w x.ol= .ol i
 bp:∀(i:Nat) (x:Og),a.bs[i]? =↑x->w x.p= .bt i
 bc:∀(i:Nat) (x:Og),a.bs[i]? =↑x->w x.ce= .bt i
def OD(K:ι)(CB:Δ)(H:Hp)(x:Og)(B:Bt):Prop:=∃ta ka,MS K CB H x.p ta ka x.ce B
def mL(H:Hp)(l:Δ)(a:Μ):Prop:=H l=↑(.lst (a.map λn:Nat=>V.int (n:Int)))
structure NL(K:ι)(CB CD:Δ)(H:Hp)(a:Ha)(S:Hs):Prop where
 tb:MW K H a.ta (S.t.map V.int)
 ks:Ng [] H a.hk S.kss
 dd:H a.dd=↑(.dK (zw NX.nm (λx=> .ref x.a.p) a.ds))
 bd:H a.bd=↑(.dK (zw Og.nm (λx=> .ref x.p) a.bs))
 od:H a.od=↑(.dK (zw NX.nm (λx=> .ref x.ol) a.ds))
 kl:R4 H a.kl S.kp
 dn:a.ds.map (·.nm)=S.dn
 bn:a.bs.map (·.nm)=S.bn
 de:∀(i:Nat) (x:NX) (y:Dh),a.ds[i]? =↑x->S.ds[i]? =↑y->Nk K CD H x.a y.D y.L/\mL H x.ol y.op
 be:∀(i:Nat) (x:Og) (y:Bt),a.bs[i]? =↑x->S.bs[i]? =↑y->OD K CB H x y
 ma:∃o,H a.ma=↑o/\kH o
 ow:∃w,Ow w a
section
variable{K:ι}{CB CD:Δ}{Z:Η}{H H':Hp}{a:Ha}{S S':Hs}
theorem OD.mv{x:Og}{B:Bt}(b:OD K CB H x B)(m:Mv Z H H')(n:NT Z H)(h1:x.p∉Z)(h2:x.ce∉Z):OD K CB H' x B:=by
 obtain⟨ta,ka,b⟩:=b
 exact⟨ta,ka,b.mv m n h1 h2⟩
theorem NL.dS_at(h:NL K CB CD H a S){x:NX}(hx:x∈a.ds):∃(i:Nat) (y:Dh),a.ds[i]? =↑x/\S.ds[i]? =↑y:=by
 obtain⟨i,hi⟩:=List.getElem?_of_mem hx
 have c:i<S.ds.length:=by
  have:=JL List.length h.dn
  unfold Hs.dn at this;rw[Jb,Jb]at this;rw[<- this];exact(Jt.mp hi).1
 exact⟨i,_,hi,Jk c⟩
theorem NL.bS_at(h:NL K CB CD H a S){x:Og}(hx:x∈a.bs):∃(i:Nat) (y:Bt),a.bs[i]? =↑x/\S.bs[i]? =↑y:=by
 obtain⟨i,hi⟩:=List.getElem?_of_mem hx
 have c:i<S.bs.length:=by
  have:=JL List.length h.bn
  unfold Hs.bn at this;rw[Jb,Jb]at this;rw[<- this];exact(Jt.mp hi).1
 exact⟨i,_,hi,Jk c⟩
theorem NL.nt(h:NL K CB CD H a S):NT (hF a) H:=λz c=>by
 rcases Nb.mp c with(rfl|rfl|rfl|rfl|rfl|rfl)|⟨x,g,c⟩|⟨x,g,c⟩
 ·exact h.ma
 ·obtain⟨j,e,_⟩:=h.ks;exact#[_,e,trivial]
 ·exact#[_,h.dd,trivial]
 ·exact#[_,h.bd,trivial]
 ·exact#[_,h.od,trivial]
 ·obtain⟨j,e,_⟩:=h.kl;exact#[_,e,trivial]
 ·obtain⟨i,y,h1,f⟩:=h.dS_at g
  obtain⟨d,o⟩:=h.de i x y h1 f;rcases c with rfl|c
  ·exact#[_,o,trivial]
  ·exact d.nt z c
 ·obtain⟨i,y,h1,f⟩:=h.bS_at g
  obtain⟨ta,ka,b⟩:=h.be i x y h1 f;exact b.nt z (by rcases c with rfl|rfl<;>simp)
theorem NL.live(h:NL K CB CD H a S){z:Δ}(d:z∈hF a):H z≠none:=λe=>by
 obtain⟨o,c,_⟩:=h.nt z d;rw[e]at c;cases c
theorem oU:a.ma∈hF a:=Nb.mpr (.inl (.inl rfl))
theorem vn:a.hk∈hF a:=Nb.mpr (.inl (.inr (.inl rfl)))
theorem kN:a.dd∈hF a:=Nb.mpr (.inl (.inr (.inr (.inl rfl))))
theorem kg:a.bd∈hF a:=Nb.mpr (.inl (.inr (.inr (.inr (.inl rfl)))))
theorem oQ:a.od∈hF a:=Nb.mpr (.inl (.inr (.inr (.inr (.inr (.inl rfl))))))
theorem kW:a.kl∈hF a:=Nb.mpr (.inl (.inr (.inr (.inr (.inr (.inr rfl))))))
theorem lf{i:Nat}{x:NX}(h:a.ds[i]? =↑x):x.ol∈hF a:=Nb.mpr (.inr (.inl #[x,Jp h,.inl rfl]))
theorem oR{i:Nat}{x:NX}{z:Δ}(h:a.ds[i]? =↑x)(c:z∈dS x.a):z∈hF a:=Nb.mpr (.inr (.inl #[x,Jp h,.inr c]))
theorem oW{i:Nat}{x:Og}(h:a.bs[i]? =↑x):x.p∈hF a:=Nb.mpr (.inr (.inr #[x,Jp h,.inl rfl]))
theorem oN{i:Nat}{x:Og}(h:a.bs[i]? =↑x):x.ce∈hF a:=Nb.mpr (.inr (.inr #[x,Jp h,.inr rfl]))
theorem NL.gen(h:NL K CB CD H a S)(m:Mv Z H H')(nt:NT Z H)(E:S'.t=S.t)
  (hk:(a.hk∉Z/\S'.kss=S.kss)\/Ng [] H' a.hk S'.kss)(r:a.dd∉Z)(p:a.bd∉Z)(t:a.od∉Z)(v:(a.kl∉Z/\S'.kp=S.kp)\/R4 H' a.kl S'.kp)(g:S'.dn=S.dn)(f:S'.bn=S.bn)
  (B:∀(i:Nat) (x:NX) (y y':Dh),a.ds[i]? =↑x->S.ds[i]? =↑y->S'.ds[i]? =↑y'->(((∀z∈dS x.a,z∉Z)/\y'.D=y.D/\y'.L=y.L)\/Nk K CD H' x.a y'.D y'.L)/\((x.ol∉Z/\y'.op=y.op)\/mL H' x.ol y'.op))
  (s:∀(i:Nat) (x:Og) (y y':Bt),a.bs[i]? =↑x->S.bs[i]? =↑y->S'.bs[i]? =↑y'->(x.p∉Z/\x.ce∉Z/\y'=y)\/OD K CB H' x y')
  (A:a.ma∉Z\/∃o,H' a.ma=↑o/\kH o):NL K CB CD H' a S':=by
 refine#[by rw[E];exact m.sqt nt h.tb,?_,m _ _ r h.dd,m _ _ p h.bd,m _ _ t h.od,?_,h.dn.trans g.symm,h.bn.trans f.symm,λi x y' h1 c=>?_,λi x y' h1 c=>?_,?_,h.ow]
 ·rcases hk with⟨h1,c⟩|h1
  ·rw[c];exact Ng.mv m nt h1 h.ks
  ·exact h1
 ·rcases v with⟨h1,c⟩|h1
  ·rw[c];exact h.kl.mv m nt h1
  ·exact h1
 ·obtain⟨j,y,G,I⟩:=h.dS_at (Jp h1)
  have w:i<S.ds.length:=by
   have:=JL List.length g
   unfold Hs.dn at this;rw[Jb,Jb]at this;rw[<- this];exact(Jt.mp c).1
  have l:=Jk w;obtain⟨d,o⟩:=h.de i x _ h1 l;obtain⟨D,C⟩:=B i x _ y' h1 l c;refine#[?_,?_]
  ·rcases D with⟨n,u,F⟩|D
   ·rw[u,F];exact d.mv m nt (n _ (jm _)) (n _ (kX _)) (n _ (j7 _)) (n _ (ft _))
   ·exact D
  ·rcases C with⟨n,u⟩|C
   ·rw[u];exact m _ _ n o
   ·exact C
 ·have w:i<S.bs.length:=by
   have:=JL List.length f
   unfold Hs.bn at this;rw[Jb,Jb]at this;rw[<- this];exact(Jt.mp c).1
  have l:=Jk w;rcases s i x _ y' h1 l c with⟨n1,n2,e⟩|q
  ·rw[e];exact(h.be i x _ h1 l).mv m nt n1 n2
  ·exact q
 ·rcases A with n|q
  ·obtain⟨o,e,no⟩:=h.ma;exact#[o,m _ _ n e,no]
  ·exact q
theorem NL.mv(h:NL K CB CD H a S)(m:Mv Z H H')(nt:NT Z H)(c:∀z∈hF a,z∉Z):NL K CB CD H' a S:=
 h.gen m nt rfl (.inl #[c _ vn,rfl]) (c _ kN) (c _ kg) (c _ oQ) (.inl #[c _ kW,rfl]) rfl rfl (λi x y y' h1 e d=>by
  rw[e]at d;cases d
  exact#[.inl #[λz q=>c z (oR h1 q),rfl,rfl],.inl #[c _ (lf h1),rfl]]) (λi x y y' h1 e d=>by
  rw[e]at d;cases d
  exact .inl #[c _ (oW h1),c _ (oN h1),rfl]) (.inl (c _ oU))
theorem NL.same(h:NL K CB CD H a S)(s:MM H H'):NL K CB CD H' a S:=h.mv (Z:=[]) s.mv i9 (λz _ q=>nomatch q)
def Hs.setD(S:Hs)(i:Nat)(y:Dh):Hs:={S with ds:=S.ds.set i y}
def Hs.setB(S:Hs)(i:Nat)(y:Bt):Hs:={S with bs:=S.bs.set i y}
theorem Qg{α a:Type}{f:α->a}:∀{l:List α} {i:Nat} {x y:α},l[i]? =Option.some x->f y=f x->(l.set i y).map f=l.map f
 | [],i,x,y,h,_=>by cases h
 |z::r,0,x,y,h,e=>by
  have h:z=x:=JE h
  show f y::r.map f=f z::r.map f;rw[e,h]
 |z::r,i+1,x,y,h,e=>by show f z::(r.set i y).map f=f z::r.map f;rw[Qg (l:=r) h e]
theorem bT{α:Type}{l:List α}{i j:Nat}{x y z w:α}(h:l[i]? =Option.some x)(a:l[j]? =Option.some y)(hs:(l.set i z)[j]? =Option.some w):(j=i/\w=z)\/(j≠i/\w=y):=by
 rw[List.getElem?_set]at hs;split at hs
 ·rename_i e
  subst e;split at hs
  ·injection hs with hs;exact .inl #[rfl,hs.symm]
  ·cases hs
 ·rename_i e
  rw[a]at hs;injection hs with hs
  exact .inr #[λq=>e q.symm,hs.symm]
end
section
variable{K:ι}{CB CD:Δ}{Z:Η}{H H':Hp}{a:Ha}{S:Hs}{i:Nat}{x:NX}{y:Dh}{xb:Og}{B B':Bt}{D':Dr}{L':Τ}
theorem NL.door(h:NL K CB CD H a S)(hi:a.ds[i]? =↑x)(g:S.ds[i]? =↑y)(m:Mv (dS x.a) H H')(d:Nk K CD H' x.a D' L'):NL K CB CD H' a (S.setD i {y with D:=D',L:=L'}):=by
 obtain⟨w,c⟩:=h.ow;have no:∀{z:Δ},w z≠ .dr i->z∉dS x.a:=λn q=>n (c.dr i x hi _ q)
 refine h.gen m (h.de i x y hi g).1.nt rfl (.inl #[no (by rw[c.hk];intro q;cases q),rfl]) (no (by rw[c.dd];intro q;cases q)) (no (by rw[c.bd];intro q;cases q)) (no (by rw[c.od];intro q;cases q)) (.inl #[no (by rw[c.kl];intro q;cases q),rfl]) (Qg g rfl) rfl (λj u v l h1 f e=>?_) (λj u v l h1 f e=>?_) (.inl (no (by rw[c.ma];intro q;cases q)))
 ·refine#[?_,.inl #[no (by rw[c.ol j u h1];intro q;cases q),?_]]
  ·rcases bT g f e with⟨rfl,rfl⟩|⟨n,rfl⟩
   ·rw[hi]at h1;cases h1;exact .inr d
   ·exact .inl #[λz o=>no (by rw[c.dr j u h1 z o];intro q;injection q with q;exact n q),rfl,rfl]
  ·rcases bT g f e with⟨rfl,rfl⟩|⟨n,rfl⟩
   ·rw[g]at f;cases f;rfl
   ·rfl
 ·have e:S.bs[j]? =↑l:=e
  rw[f]at e;cases e
  exact .inl #[no (by rw[c.bp j u h1];intro q;cases q),no (by rw[c.bc j u h1];intro q;cases q),rfl]
theorem NL.opd{op':Μ}(h:NL K CB CD H a S)(hi:a.ds[i]? =↑x)(f:S.ds[i]? =↑y):NL K CB CD (MO H x.ol (.lst (op'.map λn:Nat=>V.int (n:Int)))) a (S.setD i {y with op:=op'}):=by
 obtain⟨w,c⟩:=h.ow;have no:∀{z:Δ},w z≠ .ol i->z∉[x.ol]:=λn q=>n (by rw[Jg.mp q];exact c.ol i x hi)
 refine h.gen (Z:=[x.ol]) Mv.upd1 (NT.one (h.de i x y hi f).2 trivial) rfl (.inl #[no (by rw[c.hk];intro q;cases q),rfl]) (no (by rw[c.dd];intro q;cases q)) (no (by rw[c.bd];intro q;cases q)) (no (by rw[c.od];intro q;cases q)) (.inl #[no (by rw[c.kl];intro q;cases q),rfl]) (Qg f rfl) rfl (λj u v g h1 d e=>?_) (λj u v g h1 d e=>?_) (.inl (no (by rw[c.ma];intro q;cases q)))
 ·refine#[.inl #[λz l=>no (by rw[c.dr j u h1 z l];intro q;cases q),?_,?_],?_]
  ·rcases bT f d e with⟨rfl,rfl⟩|⟨n,rfl⟩
   ·rw[f]at d;cases d;rfl
   ·rfl
  ·rcases bT f d e with⟨rfl,rfl⟩|⟨n,rfl⟩
   ·rw[f]at d;cases d;rfl
   ·rfl
  ·rcases bT f d e with⟨rfl,rfl⟩|⟨n,rfl⟩
   ·rw[hi]at h1;cases h1;exact .inr qa
   ·exact .inl #[no (by rw[c.ol j u h1];intro q;injection q with q;exact n q),rfl]
 ·have e:S.bs[j]? =↑g:=e
  rw[d]at e;cases e
  exact .inl #[no (by rw[c.bp j u h1];intro q;cases q),no (by rw[c.bc j u h1];intro q;cases q),rfl]
theorem NL.btn(h:NL K CB CD H a S)(hi:a.bs[i]? =↑xb)(f:S.bs[i]? =↑B)(m:Mv [xb.p,xb.ce] H H')(b:OD K CB H' xb B')(hn:B'.nm=B.nm):NL K CB CD H' a (S.setB i B'):=by
 obtain⟨w,c⟩:=h.ow;have no:∀{z:Δ},w z≠ .bt i->z∉[xb.p,xb.ce]:=λn q=>n (by
  simp only[Ji,Jr,Js]at q;rcases q with rfl|rfl
  ·exact c.bp i xb hi
  ·exact c.bc i xb hi)
 obtain⟨ta,ka,l⟩:=h.be i xb B hi f;refine h.gen m l.nt rfl (.inl #[no (by rw[c.hk];intro q;cases q),rfl]) (no (by rw[c.dd];intro q;cases q)) (no (by rw[c.bd];intro q;cases q)) (no (by rw[c.od];intro q;cases q)) (.inl #[no (by rw[c.kl];intro q;cases q),rfl]) rfl (Qg f hn) (λj u v g h1 e d=>?_) (λj u v g h1 e d=>?_) (.inl (no (by rw[c.ma];intro q;cases q)))
 ·have d:S.ds[j]? =↑g:=d
  rw[e]at d;cases d
  exact#[.inl #[λz o=>no (by rw[c.dr j u h1 z o];intro q;cases q),rfl,rfl],.inl #[no (by rw[c.ol j u h1];intro q;cases q),rfl]]
 ·rcases bT f e d with⟨rfl,rfl⟩|⟨n,rfl⟩
  ·rw[hi]at h1;cases h1;exact .inr b
  ·exact .inl #[no (by rw[c.bp j u h1];intro q;injection q with q;exact n q),no (by rw[c.bc j u h1];intro q;injection q with q;exact n q),rfl]
theorem NL.kpt{f:List Ps}{o:HO}(h:NL K CB CD H a S)(p:R4 (MO H a.kl o) a.kl f):NL K CB CD (MO H a.kl o) a {S with kp:=f}:=by
 obtain⟨w,c⟩:=h.ow;have no:∀{z:Δ},w z≠ .kl->z∉[a.kl]:=λn q=>n (by rw[Jg.mp q];exact c.kl)
 obtain⟨m,e,_⟩:=id h.kl;refine h.gen (Z:=[a.kl]) Mv.upd1 (NT.one e trivial) rfl (.inl #[no (by rw[c.hk];intro q;cases q),rfl]) (no (by rw[c.dd];intro q;cases q)) (no (by rw[c.bd];intro q;cases q)) (no (by rw[c.od];intro q;cases q)) (.inr p) rfl rfl (λj u v i h1 g d=>?_) (λj u v i h1 g d=>?_) (.inl (no (by rw[c.ma];intro q;cases q)))
 ·have d:S.ds[j]? =↑i:=d
  rw[g]at d;cases d
  exact#[.inl #[λz l=>no (by rw[c.dr j u h1 z l];intro q;cases q),rfl,rfl],.inl #[no (by rw[c.ol j u h1];intro q;cases q),rfl]]
 ·have d:S.bs[j]? =↑i:=d
  rw[g]at d;cases d
  exact .inl #[no (by rw[c.bp j u h1];intro q;cases q),no (by rw[c.bc j u h1];intro q;cases q),rfl]
theorem lK{α:Type}{f:α->Str}{g:α->V}(l:List α)(x:α):zw f g (l++[x])=zw f g l++[(Sum.inr (f x),g x)]:=by unfold zw;rw[JF];rfl
theorem aW{α:Type}{l:List α}{x u:α}{j:Nat}(h:(l++[x])[j]? =↑u):l[j]? =↑u\/(j=l.length/\u=x):=by
 by_cases a:j<l.length
 ·rw[Iw a]at h;exact .inl h
 ·rw[Ik (by lia)]at h
  cases q:j-l.length with
  |zero=>rw[q]at h;cases h;exact .inr #[by lia,rfl]
  |succ k=>rw[q]at h;cases h
theorem aU{α d:Type}{l:List α}{k:List d}{x u:α}{y v:d}{j:Nat}(hl:l.length=k.length)(h1:(l++[x])[j]? =↑u)(h2:(k++[y])[j]? =↑v):(l[j]? =↑u/\k[j]? =↑v)\/(u=x/\v=y):=by
 rcases aW h1 with a|⟨e,rfl⟩
 ·have f:=(Jt.mp a).1
  rw[Iw (by lia)]at h2
  exact .inl #[a,h2]
 ·rcases aW h2 with c|⟨_,rfl⟩
  ·have f:=(Jt.mp c).1
   lia
  ·exact .inr #[rfl,rfl]
theorem NL.addD(h:NL K CB CD H a S)(m:Mv [a.dd,a.od] H H')(p:H' a.dd=↑(.dK (zw NX.nm (λx=> .ref x.a.p) (a.ds++[x]))))(B:H' a.od=↑(.dK (zw NX.nm (λx=> .ref x.ol) (a.ds++[x]))))(d:Nk K CD H' x.a y.D y.L)(o:mL H' x.ol y.op)(fd:∀z∈dS x.a,H z=none)(r:H x.ol=none)(ne:x.ol∉dS x.a)(hn:x.nm=y.nm):
  NL K CB CD H' {a with ds:=a.ds++[x]} {S with ds:=S.ds++[y]}:=by
 obtain⟨w,c⟩:=h.ow;have nt:NT [a.dd,a.od] H:=λz f=>by
  simp only[Ji,Jr,Js]at f;rcases f with rfl|rfl
  ·exact#[_,h.dd,trivial]
  ·exact#[_,h.od,trivial]
 have no:∀{z:Δ},w z≠ .dd->w z≠ .od->z∉[a.dd,a.od]:=λn1 n2 q=>by
  simp only[Ji,Jr,Js]at q;rcases q with rfl|rfl
  ·exact n1 c.dd
  ·exact n2 c.od
 have t:a.ds.length=S.ds.length:=by
  have:=JL List.length h.dn
  unfold Hs.dn at this
  rwa [Jb,Jb]at this
 have n:∀{z:Δ},z∈hF a->z∉dS x.a/\z≠x.ol:=λf=>#[λq=>h.live f (fd _ q),λq=>h.live f (q▸r)]
 have g:∀{z:Δ},z∈hF a->(if z∈dS x.a then SZ.dr a.ds.length else if z=x.ol then .ol a.ds.length else w z)=w z:=λf=>by rw[Jc (n f).1,Jc (n f).2]
 refine#[m.sqt nt h.tb,Ng.mv m nt (no (by rw[c.hk];intro q;cases q) (by rw[c.hk];intro q;cases q)) h.ks,p,m _ _ (no (by rw[c.bd];intro q;cases q) (by rw[c.bd];intro q;cases q)) h.bd,B,h.kl.mv m nt (no (by rw[c.kl];intro q;cases q) (by rw[c.kl];intro q;cases q)),?_,h.bn,λj u v h1 i=>?_,λj u v h1 i=>(h.be j u v h1 i).mv m nt (no (by rw[c.bp j u h1];intro q;cases q) (by rw[c.bp j u h1];intro q;cases q)) (no (by rw[c.bc j u h1];intro q;cases q) (by rw[c.bc j u h1];intro q;cases q)),?_,λz=>if z∈dS x.a then .dr a.ds.length else if z=x.ol then .ol a.ds.length else w z,?_]
 ·show(a.ds++[x]).map (·.nm)=(S.ds++[y]).map (·.nm)
  rw[JF,JF,h.dn]
  show _++[x.nm]=_++[y.nm]
  rw[hn];rfl
 ·rcases aU t h1 i with⟨h1,i⟩|⟨rfl,rfl⟩
  ·obtain⟨s,A⟩:=h.de j u v h1 i
   have l:∀z∈dS u.a,z∉[a.dd,a.od]:=λz f=>no (by rw[c.dr j u h1 z f];intro q;cases q) (by rw[c.dr j u h1 z f];intro q;cases q)
   exact#[s.mv m nt (l _ (jm _)) (l _ (kX _)) (l _ (j7 _)) (l _ (ft _)),m _ _ (no (by rw[c.ol j u h1];intro q;cases q) (by rw[c.ol j u h1];intro q;cases q)) A]
  ·exact#[d,o]
 ·obtain⟨o,e,q⟩:=h.ma
  exact#[o,m _ _ (no (by rw[c.ma];intro q;cases q) (by rw[c.ma];intro q;cases q)) e,q]
 ·refine#[(g oU).trans c.ma,(g vn).trans c.hk,(g kN).trans c.dd,(g kg).trans c.bd,(g oQ).trans c.od,(g kW).trans c.kl,λj u h1 z f=>?_,λj u h1=>?_,λj u h1=>(g (oW h1)).trans (c.bp j u h1),λj u h1=>(g (oN h1)).trans (c.bc j u h1)]
  ·rcases aW h1 with h1|⟨rfl,rfl⟩
   ·exact(g (oR h1 f)).trans (c.dr j u h1 z f)
   ·show(if z∈dS _ then _ else _)=_
    rw[Jd f]
  ·rcases aW h1 with h1|⟨rfl,rfl⟩
   ·exact(g (lf h1)).trans (c.ol j u h1)
   ·show(if _∈dS _ then _ else _)=_
    rw[Jc ne,Jd rfl]
theorem NL.addB(h:NL K CB CD H a S)(m:Mv [a.bd] H H')(l:H' a.bd=↑(.dK (zw Og.nm (λx=> .ref x.p) (a.bs++[xb]))))(b:OD K CB H' xb B)(f1:H xb.p=none)(f2:H xb.ce=none)(hn:xb.nm=B.nm):
  NL K CB CD H' {a with bs:=a.bs++[xb]} {S with bs:=S.bs++[B]}:=by
 obtain⟨w,c⟩:=h.ow;have nt:NT [a.bd] H:=NT.one h.bd trivial
 have no:∀{z:Δ},w z≠ .bd->z∉[a.bd]:=λn1 q=>n1 (by rw[Jg.mp q];exact c.bd)
 have r:a.bs.length=S.bs.length:=by
  have:=JL List.length h.bn
  unfold Hs.bn at this
  rwa [Jb,Jb]at this
 have n:∀{z:Δ},z∈hF a->¬(z=xb.p\/z=xb.ce):=λf q=>h.live f (by rcases q with rfl|rfl;exact f1;exact f2)
 have d:∀{z:Δ},z∈hF a->(if z=xb.p\/z=xb.ce then SZ.bt a.bs.length else w z)=w z:=λf=>by rw[Jc (n f)]
 refine#[m.sqt nt h.tb,Ng.mv m nt (no (by rw[c.hk];intro q;cases q)) h.ks,m _ _ (no (by rw[c.dd];intro q;cases q)) h.dd,l,m _ _ (no (by rw[c.od];intro q;cases q)) h.od,h.kl.mv m nt (no (by rw[c.kl];intro q;cases q)),h.dn,?_,λj u v h1 g=>?_,λj u v h1 g=>?_,?_,λz=>if z=xb.p\/z=xb.ce then .bt a.bs.length else w z,?_]
 ·show(a.bs++[xb]).map (·.nm)=(S.bs++[B]).map (·.nm)
  rw[JF,JF,h.bn]
  show _++[xb.nm]=_++[B.nm]
  rw[hn];rfl
 ·obtain⟨p,s⟩:=h.de j u v h1 g
  have i:∀z∈dS u.a,z∉[a.bd]:=λz f=>no (by rw[c.dr j u h1 z f];intro q;cases q)
  exact#[p.mv m nt (i _ (jm _)) (i _ (kX _)) (i _ (j7 _)) (i _ (ft _)),m _ _ (no (by rw[c.ol j u h1];intro q;cases q)) s]
 ·rcases aU r h1 g with⟨h1,g⟩|⟨rfl,rfl⟩
  ·exact(h.be j u v h1 g).mv m nt (no (by rw[c.bp j u h1];intro q;cases q)) (no (by rw[c.bc j u h1];intro q;cases q))
  ·exact b
 ·obtain⟨o,e,q⟩:=h.ma
  exact#[o,m _ _ (no (by rw[c.ma];intro q;cases q)) e,q]
 ·refine#[(d oU).trans c.ma,(d vn).trans c.hk,(d kN).trans c.dd,(d kg).trans c.bd,(d oQ).trans c.od,(d kW).trans c.kl,λj u h1 z f=>(d (oR h1 f)).trans (c.dr j u h1 z f),λj u h1=>(d (lf h1)).trans (c.ol j u h1),λj u h1=>?_,λj u h1=>?_]
  ·rcases aW h1 with h1|⟨rfl,rfl⟩
   ·exact(d (oW h1)).trans (c.bp j u h1)
   ·show(if _ then _ else _)=_
    rw[Jd (.inl rfl)]
  ·rcases aW h1 with h1|⟨rfl,rfl⟩
   ·exact(d (oN h1)).trans (c.bc j u h1)
   ·show(if _ then _ else _)=_
    rw[Jd (.inr rfl)]
end
structure N6(S:Hs)(n:Nat)(y:Dh):Prop where
 t:y.D.t=S.t
 k:y.D.kss=S.kss
 l:y.D.least=S.least
 ok:OX y.D
 m:(y.D.kn.length:Int)<=y.D.most
 m1:y.D.most<=12
 ll:y.L.length<=n
 lo:y.op.length<=n
 kb:∀e∈y.D.kn,e.1∈S.bn
structure NY(S:Hs)(B:Bt):Prop where
 ok:N5 B
 t:B.t=S.t
 a0:0<=B.age
 a1:B.age<S.kss.length
 k:B.ks=S.kss.getD B.age.toNat []
 nm:Zq B.nm
structure M4(n:Nat)(S:Hs):Prop where
 tp:S.t.Perm Nt
 k1:1<=S.kss.length
 k8:S.kss.length<=8
 kk:∀ks∈S.kss,ks.length<=8
 l0:0<=S.least
 l1:S.least<S.kss.length
 dr:∀y∈S.ds,N6 S n y
 bt:∀B∈S.bs,NY S B
 kp:∀P∈S.kp,OM P
 nk:S.kp.length<=n
 nd:S.ds.length<=n
 nb:S.bs.length<=n
 un:S.dn.Nodup
 ub:S.bn.Nodup
section
variable{n m:Nat}{S:Hs}{i j:Nat}{y y':Dh}{B B':Bt}{P:Ps}
theorem N6.mono(h:N6 S n y)(l:n<=m):N6 S m y:=#[h.t,h.k,h.l,h.ok,h.m,h.m1,JH h.ll l,JH h.lo l,h.kb]
theorem N6.to{S':Hs}(h:N6 S n y)(a:S'.t=S.t:=by rfl)(hk:S'.kss=S.kss:=by rfl)(hl:S'.least=S.least:=by rfl)(hb:∀z∈S.bn,z∈S'.bn:=by exactλ_ h=>h):N6 S' n y:=#[h.t.trans a.symm,h.k.trans hk.symm,h.l.trans hl.symm,h.ok,h.m,h.m1,h.ll,h.lo,λe c=>hb _ (h.kb e c)]
theorem NY.to{S':Hs}(h:NY S B)(a:S'.t=S.t:=by rfl)(hk:S'.kss=S.kss:=by rfl):NY S' B:=#[h.ok,h.t.trans a.symm,h.a0,by rw[hk];exact h.a1,by rw[hk];exact h.k,h.nm]
theorem M4.mono(h:M4 n S)(l:n<=m):M4 m S:=#[h.tp,h.k1,h.k8,h.kk,h.l0,h.l1,λy a=>(h.dr y a).mono l,h.bt,h.kp,JH h.nk l,JH h.nd l,JH h.nb l,h.un,h.ub]
theorem lC{α:Type}:∀{l:List α} {i:Nat} {x z:α},z∈l.set i x->z=x\/z∈l
 | [],i,x,z,h=>by cases h
 |y::r,0,x,z,h=>by
  rcases Ji.mp h with h|h
  ·exact .inl h
  ·exact .inr (JC _ h)
 |y::r,i+1,x,z,h=>by
  rcases Ji.mp h with h|h
  ·exact .inr (h▸JB ..)
  ·rcases lC h with h|h
   ·exact .inl h
   ·exact .inr (JC _ h)
theorem M4.setD(h:M4 n S)(l:n<=m)(hi:S.ds[i]? =↑y')(hn:y.nm=y'.nm)(d:N6 S m y):M4 m (S.setD i y):=
 #[h.tp,h.k1,h.k8,h.kk,h.l0,h.l1,λz a=>by
  have e:N6 S m z:=by
   rcases lC a with rfl|a
   ·exact d
   ·exact(h.dr z a).mono l
  exact e.to,λB c=>(h.bt B c).to,h.kp,JH h.nk l,by show(S.ds.set i y).length<=m;rw[IE];exact JH h.nd l,JH h.nb l,by rw[show(S.setD i y).dn=S.dn from Qg hi hn];exact h.un,h.ub]
theorem M4.setB(h:M4 n S)(d:NY S B)(hi:S.bs[i]? =↑B')(hn:B.nm=B'.nm):M4 n (S.setB i B):=
 #[h.tp,h.k1,h.k8,h.kk,h.l0,h.l1,λz a=>(h.dr z a).to (hb:=λw c=>by rw[show(S.setB i B).bn=S.bn from Qg hi hn];exact c),λz a=>by
  have e:NY S z:=by
   rcases lC a with rfl|a
   ·exact d
   ·exact h.bt z a
  exact e.to,h.kp,h.nk,h.nd,by show(S.bs.set i B).length<=n;rw[IE];exact h.nb,h.un,by rw[show(S.setB i B).bn=S.bn from Qg hi hn];exact h.ub]
def qV(B:Bt)(d:Int):Ps:=#[B.nm,B.age,bL B.t B.ks B.nm B.cnt d]
def qY(S:Hs)(j:Nat)(B:Bt)(d:Int):Hs:={S.setB j B.pr with kp:=S.kp++[qV B d]}
def im(a:Β):Bool:=match a with
 | .str z::_=>decide (z="open")
 |_=>false
def QX(y:Dh)(P:Ps)(k:Nat):Dh:={y with D:={y.D with kn:=(qX y.D P).2},L:=y.L++[.hear P (qX y.D P).1],op:=if im (qX y.D P).1=true then y.op++[k]else y.op}
theorem NY.pr(h:NY S B)(hc:B.cnt<4096):NY S B.pr:=#[h.ok.pr hc,(GW B).trans h.t,by rw[ae];exact h.a0,by rw[ae];exact h.a1,by rw[ae,Gv];exact h.k,by rw[ZO];exact h.nm]
theorem br(hs:M4 n S)(h:NY S B)(hc:B.cnt<4096){d:Int}(hd:Zv d):OM (qV B d):=#[h.nm,yb ..,Az (by rw[h.t];exact hs.tp) h.ok.c0 hc hd]
theorem M4.keep(h:M4 n S)(f:S.bs[j]? =↑B)(hc:B.cnt<4096){d:Int}(hd:Zv d):M4 (n+1) (qY S j B d):=by
 have e:=h.bt B (Jp f);have h1:=(h.setB (i:=j) (e.pr hc) f (ZO B)).mono (JW n)
 refine#[h1.tp,h1.k1,h1.k8,h1.kk,h1.l0,h1.l1,λz c=>?_,λz c=>?_,λP a=>?_,?_,h1.nd,h1.nb,h1.un,h1.ub]
 ·exact(h1.dr z c).to
 ·exact(h1.bt z c).to
 ·rcases Jv.mp a with a|a
  ·exact h.kp P a
  ·rw[Jg.mp a];exact br h e hc hd
 ·show(S.kp++[qV B d]).length<=n+1
  rw[Jo];exact F0 h.nk
theorem Bp(D:Dr)(P:Ps):(qX D P).2.length=D.kn.length:=by
 have h:(qX D P).2.map (·.1)=D.kn.map (·.1):=gT ..
 have:=JL List.length h
 rwa [Jb,Jb]at this
theorem N6.hear(h:N6 S n y)(k:Nat):N6 S (n+1) (QX y P k):=by
 refine#[h.t,h.k,h.l,ve h.ok P,?_,h.m1,?_,?_,λe f=>?_]
 ·show((qX y.D P).2.length:Int)<=_
  rw[Bp];exact h.m
 ·show(y.L++[_]).length<=n+1
  rw[Jo];exact F0 h.ll
 ·show(if _ then y.op++[k]else y.op).length<=n+1
  split
  ·rw[Jo];exact F0 h.lo
  ·exact Lc h.lo
 ·have c:e.1∈(qX y.D P).2.map (·.1):=Jy.mpr #[e,f,Z]
  rw[show(qX y.D P).2.map (·.1)=y.D.kn.map (·.1)from gT ..]at c
  obtain⟨d,a,q⟩:=Jy.mp c;rw[<- q];exact h.kb d a
theorem M4.hear(h:M4 n S)(hi:S.ds[i]? =↑y)(k:Nat):M4 (n+1) (S.setD i (QX y P k)):=h.setD (JW n) hi Z ((h.dr y (Jp hi)).hear k)
end
def Sv:Α:=["table","house_keys","least_age","doors","buttons","kept","opened"]
theorem yx:Sv.Nodup:=by decide +kernel
def Ck(a:Ha)(l:Int):List (Str×V):=[("table",.ref a.ta),("house_keys",.ref a.hk),("least_age",.int l),("doors",.ref a.dd),("buttons",.ref a.bd),("kept",.ref a.kl),("opened",.ref a.od)]
def Ta:List qN:=[.inr "table",.inr "keys",.inr "shut",.inr "doors",.inr "buttons",.inr "kept",.inr "opened"]
theorem rX:Ta.Nodup:=by decide +kernel
def bB(a:Ha)(l:Int):List (qN×V):=[(.inr "table",.ref a.ta),(.inr "keys",.ref a.hk),(.inr "shut",.int l),(.inr "doors",.ref a.dd),(.inr "buttons",.ref a.bd),(.inr "kept",.ref a.kl),(.inr "opened",.ref a.od)]
def OT(k:Λ)(H:Hp)(a:Ha)(l:Int):Prop:=match k with
 |some C=>∃dx,H a.ma=↑(.ins C dx (Ck a l))
 |none=>H a.ma=↑(.dK (bB a l))
structure OB(K:ι)(C:Δ):Prop where
 cl:OW K C
 n_table:MY K C "table"
 n_house_keys:MY K C "house_keys"
 n_least_age:MY K C "least_age"
 n_doors:MY K C "doors"
 n_buttons:MY K C "buttons"
 n_kept:MY K C "kept"
 n_opened:MY K C "opened"
structure MP(K:ι)(CB CD:Δ)(k:Λ)(H:Hp)(a:Ha)(S:Hs):Prop where
 mn:OT k H a S.least
 at_:NL K CB CD H a S
section
variable{K:ι}{CB CD C:Δ}{k:Λ}{Z:Η}{H H':Hp}{a:Ha}{S:Hs}{i:Nat}{x:NX}{y:Dh}{xb:Og}{B B':Bt}{D':Dr}{L':Τ}
theorem OT.to{l:Int}(h:OT k H a l)(e:∀o,H a.ma=↑o->H' a.ma=↑o):OT k H' a l:=by
 cases k with
 |none=>exact e _ h
 |some C=>obtain⟨dx,q⟩:=h;exact#[dx,e _ q]
theorem MP.mv(h:MP K CB CD k H a S)(m:Mv Z H H')(nt:NT Z H)(c:∀z∈hF a,z∉Z):MP K CB CD k H' a S:=#[h.mn.to λo e=>m _ _ (c _ oU) e,h.at_.mv m nt c]
theorem MP.same(h:MP K CB CD k H a S)(s:MM H H'):MP K CB CD k H' a S:=#[h.mn.to λo e=>s _ _ e,h.at_.same s]
theorem MP.door(h:MP K CB CD k H a S)(hi:a.ds[i]? =↑x)(f:S.ds[i]? =↑y)(m:Mv (dS x.a) H H')(d:Nk K CD H' x.a D' L'):MP K CB CD k H' a (S.setD i {y with D:=D',L:=L'}):=by
 obtain⟨w,c⟩:=h.at_.ow
 exact#[h.mn.to λo e=>m _ _ (λq=>by have:=c.dr i x hi _ q;rw[c.ma]at this;cases this) e,h.at_.door hi f m d]
theorem MP.opd{op':Μ}(h:MP K CB CD k H a S)(hi:a.ds[i]? =↑x)(d:S.ds[i]? =↑y):MP K CB CD k (MO H x.ol (.lst (op'.map λn:Nat=>V.int (n:Int)))) a (S.setD i {y with op:=op'}):=by
 obtain⟨w,c⟩:=h.at_.ow
 exact#[h.mn.to λo e=>by rw[qk (λq=>by have:=c.ol i x hi;rw[<- q,c.ma]at this;cases this)];exact e,h.at_.opd hi d]
theorem MP.btn(h:MP K CB CD k H a S)(hi:a.bs[i]? =↑xb)(d:S.bs[i]? =↑B)(m:Mv [xb.p,xb.ce] H H')(b:OD K CB H' xb B')(hn:B'.nm=B.nm):MP K CB CD k H' a (S.setB i B'):=by
 obtain⟨w,c⟩:=h.at_.ow;refine#[h.mn.to λo e=>m _ _ (λq=>?_) e,h.at_.btn hi d m b hn]
 simp only[Ji,Jr,Js]at q;rcases q with q|q
 ·have:=c.bp i xb hi;rw[<- q,c.ma]at this;cases this
 ·have:=c.bc i xb hi;rw[<- q,c.ma]at this;cases this
theorem MP.kpt{c:List Ps}{o:HO}(h:MP K CB CD k H a S)(p:R4 (MO H a.kl o) a.kl c):MP K CB CD k (MO H a.kl o) a {S with kp:=c}:=by
 obtain⟨w,d⟩:=h.at_.ow
 exact#[h.mn.to λo e=>by rw[qk (λq=>by have:=d.kl;rw[<- q,d.ma]at this;cases this)];exact e,h.at_.kpt p]
theorem MP.addD(h:MP K CB CD k H a S)(m:Mv [a.dd,a.od] H H')(f:H' a.dd=↑(.dK (zw NX.nm (λx=> .ref x.a.p) (a.ds++[x]))))(i:H' a.od=↑(.dK (zw NX.nm (λx=> .ref x.ol) (a.ds++[x]))))(d:Nk K CD H' x.a y.D y.L)(o:mL H' x.ol y.op)(fd:∀z∈dS x.a,H z=none)(g:H x.ol=none)(ne:x.ol∉dS x.a)(hn:x.nm=y.nm):
  MP K CB CD k H' {a with ds:=a.ds++[x]} {S with ds:=S.ds++[y]}:=by
 obtain⟨w,c⟩:=h.at_.ow;refine#[(show OT k H' {a with ds:=a.ds++[x]} S.least↔OT k H' a S.least by cases k<;>exact Iff.rfl).mpr (h.mn.to λo e=>m _ _ (λq=>?_) e),h.at_.addD m f i d o fd g ne hn]
 simp only[Ji,Jr,Js]at q;rcases q with q|q
 ·have:=c.dd;rw[<- q,c.ma]at this;cases this
 ·have:=c.od;rw[<- q,c.ma]at this;cases this
theorem MP.addB(h:MP K CB CD k H a S)(m:Mv [a.bd] H H')(d:H' a.bd=↑(.dK (zw Og.nm (λx=> .ref x.p) (a.bs++[xb]))))(b:OD K CB H' xb B)(f1:H xb.p=none)(f2:H xb.ce=none)(hn:xb.nm=B.nm):
  MP K CB CD k H' {a with bs:=a.bs++[xb]} {S with bs:=S.bs++[B]}:=by
 obtain⟨w,c⟩:=h.at_.ow;refine#[(show OT k H' {a with bs:=a.bs++[xb]} S.least↔OT k H' a S.least by cases k<;>exact Iff.rfl).mpr (h.mn.to λo e=>m _ _ (λq=>?_) e),h.at_.addB m d b f1 f2 hn]
 have q:=Jg.mp q
 have:=c.bd;rw[<- q,c.ma]at this;cases this
theorem MP.has(h:MP K CB CD ↑C H a S)(U:OB K C)(i:Nat){f:Str}{v:V}(e:(Ck a S.least)[i]? =↑(f,v))(n:MY K C f):zX K H a.ma f v:=by
 obtain⟨dx,q⟩:=h.mn
 exact#[C,dx,_,q,U.cl,n,bq i e (show((Ck a S.least).map (·.1)).Nodup from yx)]
theorem MP.h_table(h:MP K CB CD ↑C H a S)(U:OB K C):zX K H a.ma "table" (.ref a.ta):=h.has U 0 rfl U.n_table
theorem MP.h_keys(h:MP K CB CD ↑C H a S)(U:OB K C):zX K H a.ma "house_keys" (.ref a.hk):=h.has U 1 rfl U.n_house_keys
theorem MP.h_least(h:MP K CB CD ↑C H a S)(U:OB K C):zX K H a.ma "least_age" (.int S.least):=h.has U 2 rfl U.n_least_age
theorem MP.h_doors(h:MP K CB CD ↑C H a S)(U:OB K C):zX K H a.ma "doors" (.ref a.dd):=h.has U 3 rfl U.n_doors
theorem MP.h_buttons(h:MP K CB CD ↑C H a S)(U:OB K C):zX K H a.ma "buttons" (.ref a.bd):=h.has U 4 rfl U.n_buttons
theorem MP.h_kept(h:MP K CB CD ↑C H a S)(U:OB K C):zX K H a.ma "kept" (.ref a.kl):=h.has U 5 rfl U.n_kept
theorem MP.h_opened(h:MP K CB CD ↑C H a S)(U:OB K C):zX K H a.ma "opened" (.ref a.od):=h.has U 6 rfl U.n_opened
theorem MP.no(h:MP K CB CD ↑C H a S){m:Str}(hm:m∉Sv:=by decide +kernel):wg C H a.ma m:=by
 obtain⟨dx,e⟩:=h.mn
 exact#[dx,_,e,cA hm]
theorem MP.get(h:MP K CB CD none H a S)(i:Nat){q:qN}{v:V}(e:(bB a S.least)[i]? =↑(q,v)):Nd H a.ma (kV q) ↑v:=by
 have:=Nd.k (k:=q) (show H a.ma=↑(.dK (bB a S.least))from h.mn)
 rw[mI i e (show((bB a S.least).map (·.1)).Nodup from rX)]at this
 exact this
theorem MP.g_table(h:MP K CB CD none H a S):Nd H a.ma (.str "table") ↑(.ref a.ta):=h.get (q:= .inr "table") 0 rfl
theorem MP.g_keys(h:MP K CB CD none H a S):Nd H a.ma (.str "keys") ↑(.ref a.hk):=h.get (q:= .inr "keys") 1 rfl
theorem MP.g_shut(h:MP K CB CD none H a S):Nd H a.ma (.str "shut") ↑(.int S.least):=h.get (q:= .inr "shut") 2 rfl
theorem MP.g_doors(h:MP K CB CD none H a S):Nd H a.ma (.str "doors") ↑(.ref a.dd):=h.get (q:= .inr "doors") 3 rfl
theorem MP.g_buttons(h:MP K CB CD none H a S):Nd H a.ma (.str "buttons") ↑(.ref a.bd):=h.get (q:= .inr "buttons") 4 rfl
theorem MP.g_kept(h:MP K CB CD none H a S):Nd H a.ma (.str "kept") ↑(.ref a.kl):=h.get (q:= .inr "kept") 5 rfl
theorem MP.g_opened(h:MP K CB CD none H a S):Nd H a.ma (.str "opened") ↑(.ref a.od):=h.get (q:= .inr "opened") 6 rfl
theorem pj{z:Δ}(h:z∈hF a)(m:Mv [z] H H'):Mv (hF a) H H':=m.mono λc n q=>n (Jg.mp q▸h)
theorem iF(hi:a.ds[i]? =↑x)(m:Mv (dS x.a) H H'):Mv (hF a) H H':=m.mono λc n q=>n (oR hi q)
theorem kG(hi:a.bs[i]? =↑xb)(m:Mv [xb.p,xb.ce] H H'):Mv (hF a) H H':=m.mono λc n q=>n (by
 simp only[Ji,Jr,Js]at q;rcases q with rfl|rfl
 ·exact oW hi
 ·exact oN hi)
theorem NL.dix(h:NL K CB CD H a S){nm:Str}(e:qP S.dn nm=↑i):∃x y,a.ds[i]? =↑x/\S.ds[i]? =↑y/\x.nm=nm/\y.nm=nm:=by
 have h1:=cm e;have c:=h1;rw[<- h.dn,Jm]at h1;unfold Hs.dn at c;rw[Jm]at c;obtain⟨x,d,ex⟩:=JV.mp h1;obtain⟨y,g,f⟩:=JV.mp c
 exact#[x,y,d,g,ex,f]
theorem NL.bix(h:NL K CB CD H a S){nm:Str}(e:qP S.bn nm=↑i):∃x y,a.bs[i]? =↑x/\S.bs[i]? =↑y/\x.nm=nm/\y.nm=nm:=by
 have h1:=cm e;have c:=h1;rw[<- h.bn,Jm]at h1;unfold Hs.bn at c;rw[Jm]at c;obtain⟨x,d,ex⟩:=JV.mp h1;obtain⟨y,g,f⟩:=JV.mp c
 exact#[x,y,d,g,ex,f]
theorem NL.gdd(h:NL K CB CD H a S)(nm:Str):(qP S.dn nm=none/\Nd H a.dd (.str nm) none)\/∃i x y,qP S.dn nm=↑i/\a.ds[i]? =↑x/\S.ds[i]? =↑y/\x.nm=nm/\y.nm=nm/\Nd H a.dd (.str nm) ↑(.ref x.a.p):=by
 rcases iD h.dd nm with⟨e,g⟩|⟨i,x,e,f,ex,g⟩
 ·exact .inl #[by rw[<- h.dn];exact e,g]
 ·have d:qP S.dn nm=↑i:=by rw[<- h.dn];exact e
  obtain⟨m,y,c,l,_,j⟩:=h.dix d;rw[f]at c;cases c
  exact .inr #[i,x,y,d,f,l,ex,j,g]
theorem NL.god(h:NL K CB CD H a S)(nm:Str):(qP S.dn nm=none/\Nd H a.od (.str nm) none)\/∃i x y,qP S.dn nm=↑i/\a.ds[i]? =↑x/\S.ds[i]? =↑y/\x.nm=nm/\y.nm=nm/\Nd H a.od (.str nm) ↑(.ref x.ol):=by
 rcases iD h.od nm with⟨e,g⟩|⟨i,x,e,f,ex,g⟩
 ·exact .inl #[by rw[<- h.dn];exact e,g]
 ·have d:qP S.dn nm=↑i:=by rw[<- h.dn];exact e
  obtain⟨m,y,c,l,_,j⟩:=h.dix d;rw[f]at c;cases c
  exact .inr #[i,x,y,d,f,l,ex,j,g]
theorem NL.gbd(h:NL K CB CD H a S)(nm:Str):(qP S.bn nm=none/\Nd H a.bd (.str nm) none)\/∃i x y,qP S.bn nm=↑i/\a.bs[i]? =↑x/\S.bs[i]? =↑y/\x.nm=nm/\y.nm=nm/\Nd H a.bd (.str nm) ↑(.ref x.p):=by
 rcases iD h.bd nm with⟨e,g⟩|⟨i,x,e,f,ex,g⟩
 ·exact .inl #[by rw[<- h.bn];exact e,g]
 ·have d:qP S.bn nm=↑i:=by rw[<- h.bn];exact e
  obtain⟨m,y,c,l,_,j⟩:=h.bix d;rw[f]at c;cases c
  exact .inr #[i,x,y,d,f,l,ex,j,g]
end
inductive Hd where
 |addD (nm:Str) (near far most:Int)
 |addB (nm:Str) (step:Int)
 |teach (d b:Str)
 |press (b:Str) (deed:Int) (ds:Α)
 |play (k:Int) (d:Str)
 |lose (b:Str)
 |tear (b:Str)
 |turnH (ks:Ε)
 |turnB (b:Str)
 |close (age:Int)
 |forget (d b:Str)
inductive Rf where
 |known|full|worn|unknown|toomany
 |badp (n:Int)
inductive OU where
 |non
 |num (k:Nat) (as:List Β)
 |ans (as:Β)
inductive Nr where
 |ref (r:Rf)
 |ok (S:Hs) (o:OU)
def Zz(S:Hs)(nm:Str)(c d a:Int):Dh:=⟨nm,⟨S.t,S.kss,c,d,a,S.least,[]⟩,if 0<S.least then [.close S.least]else [],[]⟩
def gP(S:Hs)(nm:Str)(step:Int):Bt:=⟨nm,S.t,S.kss.getD (S.kss.length-1) [],(S.kss.length:Int)-1,step,0,0,↑0,none⟩
def kO(y:Dh)(P R:Ps)(nm:Str)(age c:Int):Dh:={y with D:={y.D with kn:=Qw y.D.kn nm ⟨age,c,none⟩},L:=y.L++[.learn P R]}
def ku(ks:Ε)(y:Dh):Dh:={y with D:={y.D with kss:=y.D.kss++[ks]},L:=y.L++[.turn ks]}
def gM(age:Int)(y:Dh):Dh:={y with D:={y.D with least:=if age>y.D.least then age else y.D.least},L:=y.L++[.close age]}
def lS(nm:Str)(y:Dh):Dh:={y with D:={y.D with kn:=y.D.kn.filter λp=>decide (p.1≠nm)},L:=y.L++[.forget nm]}
def Bt.turn(B:Bt)(ks:Ε):Bt:={B with ks:=ks,age:=B.age+1}
def MZ(S:Hs)(k:Nat)(is:Μ):Nat->Hs×List Β
 |0=>(S,[])
 |m+1=>match is[m]? with
  |none=>MZ S k is m
  |some i=>match(MZ S k is m).1.ds[i]?,(MZ S k is m).1.kp[k]? with
   |some y,↑P=>((MZ S k is m).1.setD i (QX y P k),(MZ S k is m).2++[(qX y.D P).1])
   |_,_=>MZ S k is m
def Qq(l:Α):Α->Option Μ
 | []=>some []
 |m::r=>match qP l m,Qq l r with
  |some i,↑q=>↑(i::q)
  |_,_=>none
def iw(S:Hs)(i j:Nat):Nr:=match S.ds[i]?,S.bs[j]? with
 |some y,↑B=>
  if y.D.kn.lookup B.nm≠none then .ref .known
  else if y.D.most<=(y.D.kn.length:Int)then .ref .full
  else if 4094<B.cnt then .ref .worn
  else if B.age<S.least then .ref (.badp 0)
  else .ok ((qY (qY S j B 0) j B.pr 0).setD i (kO y (qV B 0) (qV B.pr 0) B.nm B.age (B.cnt+1))) .non
 |_,_=> .ref .unknown
def bb(S:Hs)(b:Str)(f:Nat->Bt->Nr):Nr:=match qP S.bn b with
 |none=> .ref .unknown
 |some j=>match S.bs[j]? with
  |none=> .ref .unknown
  |some B=>f j B
def du(S:Hs)(d:Str)(f:Nat->Dh->Nr):Nr:=match qP S.dn d with
 |none=> .ref .unknown
 |some i=>match S.ds[i]? with
  |none=> .ref .unknown
  |some y=>f i y
def Qa(S:Hs):Hd->Nr
 | .addD nm near far most=>if(qP S.dn nm).isSome=true then .ref .known else .ok {S with ds:=S.ds++[Zz S nm near far most]} .non
 | .addB nm step=>if(qP S.bn nm).isSome=true then .ref .known else .ok {S with bs:=S.bs++[gP S nm step]} .non
 | .teach d b=>du S d λi _=>bb S b λj _=>iw S i j
 | .press b deed ds=>match Qq S.dn ds with
  |none=> .ref .unknown
  |some is=>bb S b λj B=>if 4096<=B.cnt then .ref .worn else .ok (MZ (qY S j B deed) S.kp.length is is.length).1 (.num S.kp.length (MZ (qY S j B deed) S.kp.length is is.length).2)
 | .play k d=>du S d λi y=>match S.kp[k.toNat]? with
  |none=> .ref (.badp k)
  |some P=>if k<0 then .ref (.badp k)else .ok (S.setD i (QX y P k.toNat)) (.ans (qX y.D P).1)
 | .lose b=>bb S b λj B=> .ok (S.setB j B.ou) .non
 | .tear b=>bb S b λj B=> .ok (S.setB j B.tn) .non
 | .turnH ks=>if 8<=S.kss.length then .ref .toomany else .ok {S with kss:=S.kss++[ks],ds:=S.ds.map (ku ks)} .non
 | .turnB b=>bb S b λj B=>if(S.kss.length:Int)<=B.age+1 then .ref .worn else .ok (S.setB j (B.turn (S.kss.getD (B.age+1).toNat []))) .non
 | .close age=>if 0<=age/\age<S.kss.length then .ok {S with least:=if age>S.least then age else S.least,ds:=S.ds.map (gM age)} .non else .ref .unknown
 | .forget d b=>du S d λi y=>if y.D.kn.lookup b=none then .ref .unknown else .ok (S.setD i (lS b y)) .non
def OF(x:Xa)(E:XK)(H:Hp):Rf->Prop
 | .known=>M8 E H x.k
 | .full=>M8 E H x.f
 | .worn=>M8 E H x.w
 | .unknown=>M8 E H x.u
 | .toomany=>M8 E H x.t
 | .badp n=>N4 E H x.b "place" n
def Os(H:Hp)(v:V):OU->Prop
 | .non=>v= .non
 | .num k as=>∃q t,∃xs:Η,v= .ref q/\H q=↑(.tup [.int (k:Int),.ref t])/\H t=↑(.tup (xs.map V.ref))/\xs.length=as.length/\∀(i:Nat) (x:Δ) (l:Β),xs[i]? =↑x->as[i]? =↑l->H x=↑(.tup l)
 | .ans as=>∃q,v= .ref q/\H q=↑(.tup as)
def Om(H:Hp)(a a':Ha):Prop:=∀z∈hF a',z∈hF a\/H z=none
theorem Om.refl{H:Hp}{a:Ha}:Om H a a:=λz h=> .inl h
structure OP(d:Hd):Prop where
 ok:match d with
  | .addD nm near far most=>0<=most/\most<=12
  | .addB nm step=>1<=step/\Zq nm
  | .press b deed ds=>Zv deed/\ds.length<=5
  | .turnH ks=>ks.length<=8
  |_=>True
section
variable{n:Nat}{S S':Hs}{d:Hd}{o:OU}{y:Dh}{i j:Nat}{B:Bt}{P:Ps}{ks:Ε}{nm:Str}{age:Int}
theorem nT{l:Α}{z:Str}(h:l.Nodup)(hn:z∉l):(l++[z]).Nodup:=ME.mpr #[h,(by simp),λx a y c e=>hn (by rw[Jg.mp c]at e;rw[<- e];exact a)]
theorem M4.addD(h:M4 n S){c d a:Int}(hn:qP S.dn nm=none)(j:0<=a)(l:a<=12):M4 (n+1) {S with ds:=S.ds++[Zz S nm c d a]}:=by
 have h1:=h.mono (JW n);refine#[h.tp,h.k1,h.k8,h.kk,h.l0,h.l1,λz f=>?_,λB i=>(h.bt B i).to,h.kp,h1.nk,?_,h1.nb,by show((S.ds++[Zz S nm c d a]).map (·.nm)).Nodup;rw[JF];exact nT h.un (Zl hn),h.ub]
 ·rcases Jv.mp f with f|f
  ·exact(h1.dr z f).to
  ·rw[Jg.mp f]
   refine#[Z,Z,Z,#[h.tp,h.l0,h.k8,JM _,Ld],j,l,?_,JM _,λe g=>nomatch g]
   show(if 0<S.least then [Rw.close S.least]else []).length<=n+1
   split
   ·exact F0 (JM _)
   ·exact JM _
 ·show(S.ds++[_]).length<=n+1
  rw[Jo];exact F0 h.nd
theorem M4.addB(h:M4 n S){step:Int}(hx:qP S.bn nm=none)(d:1<=step)(hn:Zq nm):M4 (n+1) {S with bs:=S.bs++[gP S nm step]}:=by
 have h1:=h.mono (JW n);have k1:=h.k1;refine#[h.tp,h.k1,h.k8,h.kk,h.l0,h.l1,λz e=>(h1.dr z e).to (hb:=λw c=>?_),λB a=>?_,h.kp,h1.nk,h1.nd,?_,h.un,by show((S.bs++[gP S nm step]).map (·.nm)).Nodup;rw[JF];exact nT h.ub (Zl hx)]
 ·show w∈(S.bs++[gP S nm step]).map (·.nm)
  rw[JF];exact Jv.mpr (.inl c)
 ·rcases Jv.mp a with a|a
  ·exact(h.bt B a).to
  ·rw[Jg.mp a]
   refine#[N5.new d,Z,?_,?_,?_,hn]
   ·show 0<=(S.kss.length:Int)-1;lia
   ·show(S.kss.length:Int)-1<S.kss.length;lia
   ·show S.kss.getD (S.kss.length-1) []=S.kss.getD ((S.kss.length:Int)-1).toNat []
    congr 1;lia
 ·show(S.bs++[_]).length<=n+1
  rw[Jo];exact F0 h.nb
theorem N6.learn(h:N6 S n y){P R:Ps}{c:Int}(hm:(y.D.kn.length:Int)<y.D.most)(hb:nm∈S.bn):N6 S (n+1) (kO y P R nm age c):=by
 have g:=Bk y.D.kn nm #[age,c,none];have i:=h.m1;refine#[h.t,h.k,h.l,#[h.ok.tp,h.ok.l0,h.ok.kl,?_,uB h.ok.nd nm _],?_,h.m1,?_,Lc h.lo,λe a=>?_]
 ·show(Qw y.D.kn nm _).length<=60;lia
 ·show((Qw y.D.kn nm _).length:Int)<=y.D.most;lia
 ·show(y.L++[_]).length<=n+1
  rw[Jo];exact F0 h.ll
 ·have a:e∈Qw y.D.kn nm #[age,c,none]:=a
  unfold Qw at a;split at a
  ·obtain⟨f,h1,d⟩:=Jy.mp a
   split at d
   ·rw[<- d];exact hb
   ·rw[<- d];exact h.kb f h1
  ·rcases Jv.mp a with a|a
   ·exact h.kb e a
   ·rw[Jg.mp a];exact hb
theorem N6.forget(h:N6 S n y):N6 S (n+1) (lS nm y):=by
 have a:(y.D.kn.filter λp=>decide (p.1≠nm)).length<=y.D.kn.length:=List.length_filter_le ..
 refine#[h.t,h.k,h.l,#[h.ok.tp,h.ok.l0,h.ok.kl,JH a h.ok.nl,?_],?_,h.m1,?_,Lc h.lo,λe c=>h.kb e (List.mem_filter.mp c).1]
 ·exact List.Nodup.sublist (List.Sublist.map _ List.filter_sublist) h.ok.nd
 ·show((y.D.kn.filter λp=>decide (p.1≠nm)).length:Int)<=y.D.most
  have:=h.m;lia
 ·show(y.L++[_]).length<=n+1
  rw[Jo];exact F0 h.ll
theorem wG(f:Dh->Dh)(hf:∀y,(f y).nm=y.nm):(S.ds.map f).map (·.nm)=S.ds.map (·.nm):=by
 rw[Ip];exact LK λy _=>hf y
theorem M4.turnH(h:M4 n S)(l:S.kss.length<8)(hk:ks.length<=8):M4 (n+1) {S with kss:=S.kss++[ks],ds:=S.ds.map (ku ks)}:=by
 have h1:=h.mono (JW n);have i:(S.kss++[ks]).length=S.kss.length+1:=by simp
 refine#[h.tp,?_,?_,λk a=>?_,h.l0,?_,λz d=>?_,λB c=>?_,h.kp,h1.nk,?_,h1.nb,by show((S.ds.map (ku ks)).map (·.nm)).Nodup;rw[wG (ku ks) (λy=>rfl)];exact h.un,h.ub]
 ·show 1<=(S.kss++[ks]).length;lia
 ·show(S.kss++[ks]).length<=8;lia
 ·rcases Jv.mp a with q|q
  ·exact h.kk k q
  ·rw[Jg.mp q];exact hk
 ·show S.least<((S.kss++[ks]).length:Int);have:=h.l1;lia
 ·obtain⟨y,f,rfl⟩:=Jy.mp d
  have e:=h.dr y f;refine#[e.t,?_,e.l,#[e.ok.tp,e.ok.l0,?_,e.ok.nl,e.ok.nd],e.m,e.m1,?_,Lc e.lo,e.kb]
  ·show y.D.kss++[ks]=S.kss++[ks];rw[e.k]
  ·show(y.D.kss++[ks]).length<=8;rw[e.k];lia
  ·show(y.L++[_]).length<=n+1
   rw[Jo];exact F0 e.ll
 ·have e:=h.bt B c
  have g:=e.a1;have j:=e.a0;refine#[e.ok,e.t,e.a0,?_,?_,e.nm]
  ·show B.age<((S.kss++[ks]).length:Int);lia
  ·show B.ks=(S.kss++[ks]).getD B.age.toNat []
   rw[JO,Iw (by lia),<- JO];exact e.k
 ·show(S.ds.map _).length<=n+1
  rw[Jb];exact h1.nd
theorem M4.close(h:M4 n S)(j:0<=age)(g:age<S.kss.length):M4 (n+1) {S with least:=if age>S.least then age else S.least,ds:=S.ds.map (gM age)}:=by
 have h1:=h.mono (JW n);have i:=h.l0;have f:=h.l1;refine#[h.tp,h.k1,h.k8,h.kk,?_,?_,λz c=>?_,λB a=>(h.bt B a).to,h.kp,h1.nk,?_,h1.nb,by show((S.ds.map (gM age)).map (·.nm)).Nodup;rw[wG (gM age) (λy=>rfl)];exact h.un,h.ub]
 ·show 0<=if age>S.least then age else S.least;split<;>lia
 ·show(if age>S.least then age else S.least)<S.kss.length;split<;>lia
 ·obtain⟨y,d,rfl⟩:=Jy.mp c
  have e:=h.dr y d;refine#[e.t,e.k,?_,#[e.ok.tp,?_,e.ok.kl,e.ok.nl,e.ok.nd],e.m,e.m1,?_,Lc e.lo,e.kb]
  ·show(if age>y.D.least then age else y.D.least)=_;rw[e.l]
  ·show 0<=if age>y.D.least then age else y.D.least;rw[e.l];split<;>lia
  ·show(y.L++[_]).length<=n+1
   rw[Jo];exact F0 e.ll
 ·show(S.ds.map _).length<=n+1
  rw[Jb];exact h1.nd
theorem NY.turn(h:NY S B)(ha:B.age+1<S.kss.length):NY S (B.turn (S.kss.getD (B.age+1).toNat [])):=#[#[h.ok.c0,h.ok.cb,h.ok.bm,h.ok.s1,h.ok.eq,h.ok.hx,h.ok.hy],h.t,by show 0<=B.age+1;have:=h.a0;lia,ha,Z,h.nm]
theorem NY.ou(h:NY S B):NY S B.ou:=#[h.ok.ou,h.t,h.a0,h.a1,h.k,h.nm]
theorem NY.tn(h:NY S B):NY S B.tn:=#[h.ok.tn,(GS B).trans h.t,by rw[pM];exact h.a0,by rw[pM];exact h.a1,by rw[pM,Gh];exact h.k,by rw[oZ];exact h.nm]
theorem M4.hearN(h:M4 n S)(k:Nat)(is:Μ):∀m,M4 (n+m) (MZ S k is m).1
 |0=>h
 |m+1=>by
  have a:=M4.hearN h k is m;unfold L3.MZ;split
  ·exact a.mono (by lia)
  ·split
   ·rename_i y P c d
    exact a.hear c k
   ·exact a.mono (by lia)
theorem cj(a:S.bs[j]? =↑B){B':Bt}:(S.setB j B').bs[j]? =↑B':=by
 show(S.bs.set j B')[j]? =↑B'
 rw[List.getElem?_set];rw[Jd Z,Jd (Jt.mp a).1]
theorem ZI{b:Str}{f:Nat->Bt->Nr}{S':Hs}{o:OU}(h:bb S b f= .ok S' o):∃j B,qP S.bn b=↑j/\S.bs[j]? =↑B/\f j B= .ok S' o:=by
 unfold bb at h;split at h
 ·cases h
 ·rename_i j c
  split at h
  ·cases h
  ·rename_i B a
   exact#[j,B,c,a,h]
theorem ei{d:Str}{f:Nat->Dh->Nr}{S':Hs}{o:OU}(h:du S d f= .ok S' o):∃i y,qP S.dn d=↑i/\S.ds[i]? =↑y/\f i y= .ok S' o:=by
 unfold du at h;split at h
 ·cases h
 ·rename_i j c
  split at h
  ·cases h
  ·rename_i B a
   exact#[j,B,c,a,h]
theorem bv{l:Α}:∀{ds:Α} {is:Μ},Qq l ds=↑is->is.length=ds.length
 | [],is,h=>by cases h;rfl
 |m::r,is,h=>by
  unfold Qq at h;split at h
  ·rename_i i q h1 a
   cases h
   show q.length+1=r.length+1
   rw[bv a]
  ·cases h
theorem FU(h:M4 n S)(hd:OP d)(e:Qa S d= .ok S' o):M4 (n+6) S':=by
 cases d with
 |addD nm near far most=>
  have e:(if(qP S.dn nm).isSome=true then Nr.ref .known else .ok {S with ds:=S.ds++[Zz S nm near far most]} .non)= .ok S' o:=e
  split at e
  ·cases e
  ·rename_i q;cases e;exact(h.addD (by cases z:qP S.dn nm with|none=>rfl|some i=>rw[z]at q;exact absurd Z q) hd.ok.1 hd.ok.2).mono (by lia)
 |addB nm step=>
  have e:(if(qP S.bn nm).isSome=true then Nr.ref .known else .ok {S with bs:=S.bs++[gP S nm step]} .non)= .ok S' o:=e
  split at e
  ·cases e
  ·rename_i q;cases e;exact(h.addB (by cases z:qP S.bn nm with|none=>rfl|some i=>rw[z]at q;exact absurd Z q) hd.ok.1 hd.ok.2).mono (by lia)
 |teach dn bn=>
  obtain⟨i,y,hi,c,e⟩:=ei (show du S dn _=_ from e)
  obtain⟨j,B,f,a,e⟩:=ZI e;unfold iw at e;rw[c,a]at e;simp only at e
  split at e
  ·cases e
  split at e
  ·cases e
  split at e
  ·cases e
  split at e
  ·cases e
  cases e;rename_i n1 n2 v t
  have x:=h.bt B (Jp a);have h1:=h.keep a (by lia) (d:=0) #[⋯,⋯]
  have l:=h1.keep (j:=j) (B:=B.pr) (cj a) (by rw[au];lia) (d:=0) #[⋯,⋯]
  have g:N6 (qY (qY S j B 0) j B.pr 0) (n+2) y:=(l.dr y (Jp c)).mono (by lia)
  refine(l.setD (m:=n+3) (i:=i) (y:=kO y (qV B 0) (qV B.pr 0) B.nm B.age (B.cnt+1)) (by lia) (y':=y) c Z (g.learn (by lia) ?_)).mono (by lia)
  have r:B.nm∈S.bn:=Jy.mpr #[B,Jp a,Z]
  have p:(qY S j B 0).bn=S.bn:=Qg a (ZO B)
  have s:(qY (qY S j B 0) j B.pr 0).bn=(qY S j B 0).bn:=Qg (cj a) (ZO B.pr)
  rw[s,p];exact r
 |press b deed ds=>
  have e:(match Qq S.dn ds with
   |none=>Nr.ref .unknown
   |some is=>bb S b λj B=>if 4096<=B.cnt then .ref .worn else .ok (L3.MZ (qY S j B deed) S.kp.length is is.length).1 (.num S.kp.length (L3.MZ (qY S j B deed) S.kp.length is is.length).2))= .ok S' o:=e
  cases hx:Qq S.dn ds with
  |none=>rw[hx]at e;cases e
  |some is=>
   rw[hx]at e;obtain⟨j,B,f,a,e⟩:=ZI e;split at e
   ·cases e
   cases e;have u:=bv hx;have w:=hd.ok.2
   exact((h.keep a (by lia) hd.ok.1).hearN S.kp.length is is.length).mono (by lia)
 |play k dn=>
  obtain⟨i,y,hi,c,e⟩:=ei (show du S dn _=_ from e)
  split at e
  ·cases e
  ·split at e
   ·cases e
   ·cases e;exact(h.hear c _).mono (by lia)
 |lose b=>
  obtain⟨j,B,f,a,e⟩:=ZI (show bb S b _=_ from e)
  cases e
  exact(h.setB (h.bt B (Jp a)).ou a Z).mono (by lia)
 |tear b=>
  obtain⟨j,B,f,a,e⟩:=ZI (show bb S b _=_ from e)
  cases e
  exact(h.setB (h.bt B (Jp a)).tn a (oZ B)).mono (by lia)
 |turnH ks=>
  have e:(if 8<=S.kss.length then Nr.ref .toomany else .ok {S with kss:=S.kss++[ks],ds:=S.ds.map (ku ks)} .non)= .ok S' o:=e
  split at e
  ·cases e
  ·cases e;exact(h.turnH (by lia) hd.ok).mono (by lia)
 |turnB b=>
  obtain⟨j,B,f,a,e⟩:=ZI (show bb S b _=_ from e)
  split at e
  ·cases e
  ·cases e;exact(h.setB ((h.bt B (Jp a)).turn (by lia)) a Z).mono (by lia)
 |close age=>
  have e:(if 0<=age/\age<S.kss.length then Nr.ok {S with least:=if age>S.least then age else S.least,ds:=S.ds.map (gM age)} .non else .ref .unknown)= .ok S' o:=e
  split at e
  ·rename_i q;cases e;exact(h.close q.1 q.2).mono (by lia)
  ·cases e
 |forget dn bn=>
  obtain⟨i,y,hi,c,e⟩:=ei (show du S dn _=_ from e)
  split at e
  ·cases e
  ·cases e;exact(h.setD (y:=lS bn y) (JW n) c Z (h.dr y (Jp c)).forget).mono (by lia)
end
def RC(H:Hp)(q:Δ)(ps:List Ps):Prop:=∃c:Η,H q=↑(.tup (c.map V.ref))/\c.length=ps.length/\∀(i:Nat) (a:Δ) (P:Ps),c[i]? =↑a->ps[i]? =↑P->N3 H a P
def Ra(K:ι)(CB CD:Δ)(k:Λ)(x:Xa)(H:Hp)(a:Ha)(S:Hs)(d:Hd)(Q:VK)(E:XK):Prop:=
 (∀r,Qa S d= .ref r->OF x E H r)/\∀S' o,Qa S d= .ok S' o->∀v a' H',Mv (hF a) H H'->Om H a a'->a'.ma=a.ma->MP K CB CD k H' a' S'->Os H' v o->Q v H'
structure OE(K:ι)(mg:MK)(x:Xa)(fI:Δ):Prop extends X16 K mg x fI where
 o_Unknown:OG K x x.u
 o_TooMany:OG K x x.t
 o_Worn:OG K x x.w
section
variable{K:ι}{mg:MK}{x:Xa}{fI:Δ}
theorem OE.e_Known(X:OE K mg x fI):aL K x.k (.ref x.e::Qj) Qj "ValueError.__new__"=true:=X.o_Known.e
theorem OE.e_Full(X:OE K mg x fI):aL K x.f (.ref x.e::Qj) Qj "ValueError.__new__"=true:=X.o_Full.e
theorem OE.e_Unknown(X:OE K mg x fI):aL K x.u (.ref x.e::Qj) Qj "ValueError.__new__"=true:=X.o_Unknown.e
theorem OE.e_Worn(X:OE K mg x fI):aL K x.w (.ref x.e::Qj) Qj "ValueError.__new__"=true:=X.o_Worn.e
end
inductive Pj (K:ι) (C:Δ) (x:Xa) (vs:Β) (H:Hp) (Q:VK) (E:XK):Prop
 |mk (p ta ka ce:Δ) (B:Bt) (d:Int) (h1:vs=[.ref p,.int d]) (h2:MS K C H p ta ka ce B) (h3:Zq B.nm) (h4:B.t.length=16) (h5:0<=B.cnt) (h6:Zv d) (h7:(4096<=B.cnt->M8 E H x.w)) (h8:(B.cnt<4096->∀q pc H',Mv [p,ce] H H'->MS K C H' p ta ka ce B.pr->H' q=↑(.tup [.str B.nm,.int B.age,.ref pc])->H' pc=↑(.tup ((bL B.t B.ks B.nm B.cnt d).map V.int))->Q (.ref q) H'))
def gp(K:ι)(C:Δ)(x:Xa):Sp:=λa H Q E=>Pj K C x a H Q E
section
variable(K:ι)(CB CD CH:Δ)(x:Xa)
inductive P0 (vs:Β) (H:Hp) (Q:VK):Prop
 |mk (a:Ha) (S:Hs) (nm:Str) (i:Nat) (y:NX) (h1:vs=[.ref a.ma,.str nm]) (h2:MP K CB CD ↑CH H a S) (h3:qP S.dn nm=↑i) (h4:a.ds[i]? =↑y) (h5:Q (.ref y.a.p) H)
def jf:Sp:=λa H Q _=>P0 K CB CD CH a H Q
inductive RD (vs:Β) (H:Hp) (Q:VK):Prop
 |mk (a:Ha) (S:Hs) (nm:Str) (i:Nat) (y:Og) (h1:vs=[.ref a.ma,.str nm]) (h2:MP K CB CD ↑CH H a S) (h3:qP S.bn nm=↑i) (h4:a.bs[i]? =↑y) (h5:Q (.ref y.p) H)
def tO:Sp:=λa H Q _=>RD K CB CD CH a H Q
def kP(t ks:Ε):Hs:=#[t,[ks],0,[],[],[]]
inductive RE (vs:Β) (H:Hp) (Q:VK):Prop
 |mk (p t k dx:Δ) (tt ks:Ε) (h1:vs=[.ref p,.ref t,.ref k]) (h2:H p=↑(.ins CH dx [])) (h3:Sq K H t (tt.map V.int)) (h4:PY H k ks) (h5:∀a H',a.ma=p->Mv [p] H H'->(∀z∈hF a,z=p\/H z=none)->MP K CB CD ↑CH H' a (kP tt ks)->Q .non H')
def lJ:Sp:=λa H Q _=>RE K CB CD CH a H Q
inductive RF (vs:Β) (H:Hp) (Q:VK) (E:XK):Prop
 |mk (a:Ha) (S:Hs) (nm:Str) (h1:vs=[.ref a.ma,.str nm]) (h2:MP K CB CD ↑CH H a S) (h3:(qP S.dn nm=none->M8 E H x.u)) (h4:∀i y,qP S.dn nm=↑i->a.ds[i]? =↑y->Q (.ref y.a.p) H)
def c8:Sp:=λa H Q E=>RF K CB CD CH x a H Q E
inductive R5 (vs:Β) (H:Hp) (Q:VK) (E:XK):Prop
 |mk (a:Ha) (S:Hs) (nm:Str) (h1:vs=[.ref a.ma,.str nm]) (h2:MP K CB CD ↑CH H a S) (h3:(qP S.bn nm=none->M8 E H x.u)) (h4:∀i y,qP S.bn nm=↑i->a.bs[i]? =↑y->Q (.ref y.p) H)
def dw:Sp:=λa H Q E=>R5 K CB CD CH x a H Q E
inductive RG (vs:Β) (H:Hp) (Q:VK) (E:XK):Prop
 |mk (a:Ha) (S:Hs) (n j:Nat) (y:Og) (B:Bt) (d:Int) (h1:vs=[.ref a.ma,.ref y.p,.int d]) (h2:MP K CB CD ↑CH H a S) (h3:M4 n S) (h4:n<=990000) (h5:a.bs[j]? =↑y) (h6:S.bs[j]? =↑B) (h7:Zv d) (h8:(4096<=B.cnt->M8 E H x.w)) (h9:∀H',B.cnt<4096->Mv (hF a) H H'->MP K CB CD ↑CH H' a (qY S j B d)->Q (.int (S.kp.length:Int)) H')
def mz:Sp:=λa H Q E=>RG K CB CD CH x a H Q E
inductive RH (vs:Β) (H:Hp) (Q:VK) (E:XK):Prop
 |mk (a:Ha) (S:Hs) (n:Nat) (nm:Str) (near far most:Int) (h1:vs=[.ref a.ma,.str nm,.int near,.int far,.int most]) (h2:MP K CB CD ↑CH H a S) (h3:M4 n S) (h4:n<=900000) (h5:Ra K CB CD ↑CH x H a S (.addD nm near far most) Q E)
def uq:Sp:=λa H Q E=>RH K CB CD CH x a H Q E
inductive RI (vs:Β) (H:Hp) (Q:VK) (E:XK):Prop
 |mk (a:Ha) (S:Hs) (n:Nat) (nm:Str) (step:Int) (h1:vs=[.ref a.ma,.str nm,.int step]) (h2:MP K CB CD ↑CH H a S) (h3:M4 n S) (h4:n<=900000) (h5:Ra K CB CD ↑CH x H a S (.addB nm step) Q E)
def tS:Sp:=λa H Q E=>RI K CB CD CH x a H Q E
inductive P3 (vs:Β) (H:Hp) (Q:VK) (E:XK):Prop
 |mk (a:Ha) (S:Hs) (n:Nat) (d b:Str) (h1:vs=[.ref a.ma,.str d,.str b]) (h2:MP K CB CD ↑CH H a S) (h3:M4 n S) (h4:n<=900000) (h5:Ra K CB CD ↑CH x H a S (.teach d b) Q E)
def sB:Sp:=λa H Q E=>P3 K CB CD CH x a H Q E
inductive OZ (vs:Β) (H:Hp) (Q:VK):Prop
 |mk (a:Ha) (S:Hs) (n:Nat) (nm:Str) (i:Nat) (y:Dh) (h1:vs=[.ref a.ma,.str nm]) (h2:MP K CB CD ↑CH H a S) (h3:M4 n S) (h4:qP S.dn nm=↑i) (h5:S.ds[i]? =↑y) (h6:∀da H',MM H H'->Nk K CD H' da y.D y.L->Q (.ref da.p) H')
def kC:Sp:=λa H Q _=>OZ K CB CD CH a H Q
inductive Pk (vs:Β) (H:Hp) (Q:VK):Prop
 |mk (a:Ha) (S:Hs) (nm:Str) (j:Nat) (B:Bt) (h1:vs=[.ref a.ma,.str nm]) (h2:MP K CB CD ↑CH H a S) (h3:qP S.bn nm=↑j) (h4:S.bs[j]? =↑B) (h5:∀q c H',MM H H'->H' q=↑(.tup [.int B.age,.int B.cnt,.ref c])->H' c=↑(.tup [oV B.x,oV B.y])->Q (.ref q) H')
def nE:Sp:=λa H Q _=>Pk K CB CD CH a H Q
inductive RJ (vs:Β) (H:Hp) (Q:VK):Prop
 |mk (a:Ha) (S:Hs) (h1:vs=[.ref a.ma]) (h2:MP K CB CD ↑CH H a S) (h3:∀q H',MM H H'->RC H' q S.kp->Q (.ref q) H')
def uM:Sp:=λa H Q _=>RJ K CB CD CH a H Q
inductive Pm (vs:Β) (H:Hp) (Q:VK):Prop
 |mk (a:Ha) (S:Hs) (nm:Str) (i:Nat) (y:Dh) (h1:vs=[.ref a.ma,.str nm]) (h2:MP K CB CD ↑CH H a S) (h3:qP S.dn nm=↑i) (h4:S.ds[i]? =↑y) (h5:∀q H',MM H H'->H' q=↑(.tup (y.op.map λn:Nat=>V.int (n:Int)))->Q (.ref q) H')
def oh:Sp:=λa H Q _=>Pm K CB CD CH a H Q
end
theorem un{H:Hp}{a z:Δ}{o:HO}(h:MO H a o z=none):H z=none/\z≠a:=by
 have n:z≠a:=λe=>by rw[e,qa]at h;cases h
 exact#[by rwa [qk n]at h,n]
section
variable{K:ι}{CB CD:Δ}{k:Λ}{H H3:Hp}{a:Ha}{S:Hs}{nm:Str}{da:Da}{ol:Δ}{y:Dh}
theorem MP.dne(h:MP K CB CD k H a S):a.dd≠a.od:=λe=>by
 obtain⟨w,c⟩:=h.at_.ow
 have:=c.dd;rw[e,c.od]at this;cases this
theorem MP.dlen(h:MP K CB CD k H a S):a.ds.length=S.ds.length:=by
 have:=JL List.length h.at_.dn
 unfold Hs.dn at this
 rwa [Jb,Jb]at this
theorem MP.blen(h:MP K CB CD k H a S):a.bs.length=S.bs.length:=by
 have:=JL List.length h.at_.bn
 unfold Hs.bn at this
 rwa [Jb,Jb]at this
theorem MP.putD(h:MP K CB CD k H a S)(l:MM H H3)(d:Nk K CD H3 da y.D y.L)(fd:∀z∈dS da,H z=none)(hn:qP S.dn y.nm=none)(ho:y.op=[])(hl:S.ds.length<=900000):
  ∃kvs,OC H3 a.dd (.str y.nm) (.ref da.p) (MO H3 a.dd (.dK kvs))/\∀ol,MO H3 a.dd (.dK kvs) ol=none->∃f,OC (MO (MO H3 a.dd (.dK kvs)) ol (.lst [])) a.od (.str y.nm) (.ref ol) (MO (MO (MO H3 a.dd (.dK kvs)) ol (.lst [])) a.od (.dK f))/\
   Mv (hF a) H (MO (MO (MO H3 a.dd (.dK kvs)) ol (.lst [])) a.od (.dK f))/\Om H a {a with ds:=a.ds++[#[y.nm,da,ol]]}/\MP K CB CD k (MO (MO (MO H3 a.dd (.dK kvs)) ol (.lst [])) a.od (.dK f)) {a with ds:=a.ds++[#[y.nm,da,ol]]} {S with ds:=S.ds++[y]}:=by
 have D:=h.dlen;have i:y.nm∉a.ds.map NX.nm:=by rw[h.at_.dn];exact Zl hn
 have w:=l _ _ h.at_.dd;have A:=l _ _ h.at_.od;have ne:=h.dne;refine#[_,OC.k (k:=(Sum.inr y.nm:qN)) w (by unfold zw;rw[Jb,Jn];omega),λol s=>?_]
 obtain⟨f1,n1⟩:=un s;have v:H ol=none:=QK f1 l
 have no:a.od≠ol:=λe=>by have:=h.at_.od;rw[e,v]at this;cases this
 have B:MO (MO H3 a.dd (.dK (NM (zw NX.nm (λx=> .ref x.a.p) a.ds) (Sum.inr y.nm) (.ref da.p)))) ol (.lst []) a.od=↑(.dK (zw NX.nm (λx=> .ref x.ol) a.ds)):=by rw[qk no,qk ne.symm];exact A
 refine#[_,OC.k (k:=(Sum.inr y.nm:qN)) B (by unfold zw;rw[Jb,Jn];omega),?_]
 rw[lP a.ds i,lP a.ds i];have m:Mv [a.dd,a.od] H3 (MO (MO (MO H3 a.dd (.dK (zw NX.nm (λx=>V.ref x.a.p) a.ds++[(Sum.inr y.nm,.ref da.p)]))) ol (.lst [])) a.od (.dK (zw NX.nm (λx=>V.ref x.ol) a.ds++[(Sum.inr y.nm,.ref ol)]))):=λc o r e=>by
  simp only[Ji,Jr,Js,not_or]at r;rw[qk r.2,qk (qr e f1),qk r.1];exact e
 have nt:NT [a.dd,a.od] H3:=λz g=>by
  simp only[Ji,Jr,Js]at g;rcases g with rfl|rfl
  ·exact#[_,w,trivial]
  ·exact#[_,A,trivial]
 have p:∀z∈dS da,z∉[a.dd,a.od]:=λz g q=>by
  simp only[Ji,Jr,Js]at q
  have:=fd z g
  rcases q with rfl|rfl
  ·rw[h.at_.dd]at this;cases this
  ·rw[h.at_.od]at this;cases this
 have C:=d.mv m nt (p _ (jm _)) (p _ (kX _)) (p _ (j7 _)) (p _ (ft _));have t:ol∉dS da:=λq=>by
  obtain⟨o,e,_⟩:=d.nt ol q;rw[f1]at e;cases e
 refine#[(l.mv.trans m).mono λc n q=>?_,λz g=>?_,?_]
 ·simp only[Ji,Jr,Js]at q
  rcases q with rfl|rfl
  ·exact n kN
  ·exact n oQ
 ·rcases Nb.mp g with q|⟨u,j,q⟩|q
  ·exact .inl (Nb.mpr (.inl q))
  ·rcases Jv.mp j with j|j
   ·exact .inl (Nb.mpr (.inr (.inl #[u,j,q])))
   ·rw[Jg.mp j]at q
    rcases q with rfl|q
    ·exact .inr v
    ·exact .inr (fd z q)
  ·exact .inl (Nb.mpr (.inr (.inr q)))
 ·refine h.addD (x:=#[y.nm,da,ol]) (l.mv.trans m) ?_ ?_ C ?_ fd v t Z
  ·rw[qk ne,qk n1.symm,qa,lK]
  ·rw[qa,lK]
  ·show _=↑(HO.lst (y.op.map λn:Nat=>V.int (n:Int)))
   rw[ho,qk no.symm,qa];rfl
theorem MP.putB{p ce:Δ}{B:Bt}(h:MP K CB CD k H a S)(f:MM H H3)(b:OD K CB H3 #[B.nm,p,ce] B)(f1:H p=none)(f2:H ce=none)(hn:qP S.bn B.nm=none)(hl:S.bs.length<=900000):
  ∃kvs,OC H3 a.bd (.str B.nm) (.ref p) (MO H3 a.bd (.dK kvs))/\Mv (hF a) H (MO H3 a.bd (.dK kvs))/\Om H a {a with bs:=a.bs++[#[B.nm,p,ce]]}/\MP K CB CD k (MO H3 a.bd (.dK kvs)) {a with bs:=a.bs++[#[B.nm,p,ce]]} {S with bs:=S.bs++[B]}:=by
 have j:=h.blen;have e:B.nm∉a.bs.map Og.nm:=by rw[h.at_.bn];exact Zl hn
 have g:=f _ _ h.at_.bd;refine#[_,OC.k (k:=(Sum.inr B.nm:qN)) g (by unfold zw;rw[Jb,Jn];omega),?_]
 rw[lP a.bs e];have m:Mv [a.bd] H3 (MO H3 a.bd (.dK (zw Og.nm (λx=>V.ref x.p) a.bs++[(Sum.inr B.nm,.ref p)]))):=Mv.upd1
 have nt:NT [a.bd] H3:=NT.one g trivial
 have i:p∉[a.bd]:=λq=>by rw[Jg.mp q,h.at_.bd]at f1;cases f1
 have o:ce∉[a.bd]:=λq=>by rw[Jg.mp q,h.at_.bd]at f2;cases f2
 refine#[(f.mv.trans m).mono λc n q=>n (Jg.mp q▸kg),λz l=>?_,?_]
 ·rcases Nb.mp l with q|q|⟨u,d,q⟩
  ·exact .inl (Nb.mpr (.inl q))
  ·exact .inl (Nb.mpr (.inr (.inl q)))
  ·rcases Jv.mp d with d|d
   ·exact .inl (Nb.mpr (.inr (.inr #[u,d,q])))
   ·rw[Jg.mp d]at q
    rcases q with rfl|rfl
    ·exact .inr f1
    ·exact .inr f2
 ·refine h.addB (xb:=#[B.nm,p,ce]) (f.mv.trans m) ?_ (b.mv m nt i o) f1 f2 Z
  rw[qa,lK]
end
section
variable{S:Hs}{d b:Str}{i j:Nat}{y:Dh}{B:Bt}{n:Nat}
theorem jX{f:Nat->Dh->Nr}(h:qP S.dn d=none):du S d f= .ref .unknown:=by unfold du;rw[h]
theorem bh{f:Nat->Bt->Nr}(h:qP S.bn b=none):bb S b f= .ref .unknown:=by unfold bb;rw[h]
theorem ln{f:Nat->Dh->Nr}(h:qP S.dn d=↑i)(a:S.ds[i]? =↑y):du S d f=f i y:=by unfold du;rw[h];simp only[a]
theorem cw{f:Nat->Bt->Nr}(h:qP S.bn b=↑j)(a:S.bs[j]? =↑B):bb S b f=f j B:=by unfold bb;rw[h];simp only[a]
def dv(S:Hs)(i j:Nat)(y:Dh)(B:Bt):Nr:=if y.D.kn.lookup B.nm≠none then .ref .known
  else if y.D.most<=(y.D.kn.length:Int)then .ref .full
  else if 4094<B.cnt then .ref .worn
  else if B.age<S.least then .ref (.badp 0)
  else .ok ((qY (qY S j B 0) j B.pr 0).setD i (kO y (qV B 0) (qV B.pr 0) B.nm B.age (B.cnt+1))) .non
theorem nL(hi:qP S.dn d=↑i)(c:S.ds[i]? =↑y)(e:qP S.bn b=↑j)(a:S.bs[j]? =↑B):Qa S (.teach d b)=dv S i j y B:=by
 show du S d _=_
 rw[ln hi c,cw e a]
 show iw S i j=_
 unfold iw dv;rw[c,a]
theorem bM(ok:M4 n S)(d:y∈S.ds)(a:NY S B)(hl:S.least<=B.age)(hc:B.cnt<4096){dd:Int}(hd:Zv dd):ir y.D (qV B dd)=↑(B.cnt,dd):=by
 have e:=ok.dr y d;unfold ir qV;simp only
 have c:ZK y.D B.age=true:=by
  unfold ZK;rw[JU]
  exact#[Jf (by rw[e.l];exact hl),Jf (by rw[e.k];exact a.a1)]
 rw[Jd c];have hk:aq y.D B.age=B.ks:=by unfold aq;rw[e.k];exact a.k.symm
 rw[hk,e.t,<- a.t];exact wN (by rw[a.t];exact ok.tp) a.ok.c0 hc hd
end
section
variable{K:ι}{CB CD C:Δ}{k:Λ}{H H':Hp}{a:Ha}{i:Nat}{x:NX}{y:Dh}{o:Obj}
theorem Gq{i:Nat}{a:qN×V}{f:NX->V}{l:List NX}(h:(zw NX.nm f l)[i]? =↑a):∃x,l[i]? =↑x/\a=(Sum.inr x.nm,f x):=by
 unfold zw at h;rw[Jm]at h;obtain⟨x,c,e⟩:=JV.mp h
 exact#[x,c,e.symm]
theorem PY.mv{Z:Η}{z:Δ}{ks:Ε}(h:PY H z ks)(m:Mv Z H H')(nt:NT Z H)(n:z∉Z):PY H' z ks:=h.elim (λe=> .inl (m _ _ n e)) λe=> .inr (m.rd nt e)
theorem ZW{K:ι}{C p dx:Δ}{H:Hp}{fs:List (Str×V)}{f:Str}{v:V}(d:List (Str×V))(c:OW K C)(e:H p=↑(.ins C dx fs))(n:MY K C f)(i:Nat)(a:fs.map (·.1)=Sv.take i:=by rfl)(hn:f∉Sv.take i:=by decide +kernel)(he:fs++[(f,v)]=d:=by rfl):
  cn K H p f v (MO H p (.ins C dx d)):=#[C,dx,fs,e,c,n,by
  have h1:fs.length=(Sv.take i).length:=by rw[<- a,Jb]
  have g:(Sv.take i).length<=7:=by rw[Ie];exact L6 _ _
  omega,by rw[fj (by rw[a];exact hn),he]]
theorem GK{p z:Δ}(m:Mv [p] H H')(h:H' z=none)(n:z≠p):H z=none:=by
 cases e:H z with
 |none=>rfl
 |some o=>rw[m z o (zu n) e]at h;cases h
theorem MP.new{p ta hk kt dd bd c od:Δ}{t ks:Ε}(G:OT k H #[p,ta,hk,dd,bd,od,c,[],[]] 0)(tb:MW K H ta (t.map V.int))(A:H hk=↑(.lst [.ref kt]))(s:Rd H kt (.tup (ks.map V.int)))(g:H dd=↑(.dK []))(L:H bd=↑(.dK []))(r:H c=↑(.lst []))(v:H od=↑(.dK []))(f:∃o,H p=↑o/\kH o)(e:[p,hk,dd,bd,c,od].Nodup):MP K CB CD k H #[p,ta,hk,dd,bd,od,c,[],[]] (kP t ks):=by
 refine#[G,tb,#[[kt],A,Z,λi a k h1 d=>?_],g,L,v,#[[],r,Z,λi a P h=>by cases h],Z,Z,λi x y h=>by(cases h),λi x y h=>by(cases h),f,λz=>if z=p then .ma else if z=hk then .hk else if z=dd then .dd else if z=bd then .bd else if z=c then .kl else .od,?_]
 ·match i,h1,d with
  |0,h1,d=>cases h1;cases d;exact .inl s
  |i+1,h1,d=>cases h1
 ·simp only[J4,Ji,Jr,Js,not_or,LU,and_true]at e
  obtain⟨⟨D,F,w,q,l⟩,⟨B,E,j,u⟩,⟨m,I,J⟩,⟨n,C⟩,f1,_⟩:=e;refine#[Jd Z,?_,?_,?_,?_,?_,λi x h=>by(cases h),λi x h=>by(cases h),λi x h=>by(cases h),λi x h=>by(cases h)]<;>simp only
  ·rw[Jc (Ne.symm D),Jd trivial]
  ·rw[Jc (Ne.symm F),Jc (Ne.symm B),Jd trivial]
  ·rw[Jc (Ne.symm w),Jc (Ne.symm E),Jc (Ne.symm m),Jd trivial]
  ·rw[Jc (Ne.symm l),Jc (Ne.symm u),Jc (Ne.symm J),Jc (Ne.symm C),Jc (Ne.symm f1)]
  ·rw[Jc (Ne.symm q),Jc (Ne.symm j),Jc (Ne.symm I),Jc (Ne.symm n),Jd trivial]
end
def uJ:Rf->Str
 | .known=>"Known"
 | .full=>"Full"
 | .worn=>"Worn"
 | .unknown=>"Unknown"
 | .toomany=>"TooMany"
 | .badp _=>"BadPress"
def CP:Rf->V
 | .badp n=> .int n
 |_=> .non
def R6(H:Hp)(q:Δ):Nr->Prop
 | .ref r=>H q=↑(.tup [.str "refused",.str (uJ r),CP r])
 | .ok _ o=>∃v,H q=↑(.tup [.str "told",v])/\Os H v o
def fq(S:Hs):Nr->Hs
 | .ref _=>S
 | .ok S' _=>S'
def GQ(H:Hp)(l:Δ):Hd->Prop
 | .addD nm near far most=>H l=↑(.tup [.str "add_door",.str nm,.int near,.int far,.int most])
 | .addB nm step=>H l=↑(.tup [.str "add_button",.str nm,.int step])
 | .teach d b=>H l=↑(.tup [.str "teach",.str d,.str b])
 | .press b deed ds=>∃p,H l=↑(.tup [.str "press_button",.str b,.int deed,.ref p])/\Sq [] H p (ds.map V.str)
 | .play k d=>H l=↑(.tup [.str "play_kept",.int k,.str d])
 | .lose b=>H l=↑(.tup [.str "lose_cell",.str b])
 | .tear b=>H l=↑(.tup [.str "tear_cell",.str b])
 | .turnH ks=>∃p,H l=↑(.tup [.str "turn_house",.ref p])/\H p=↑(.tup (ks.map V.int))
 | .turnB b=>H l=↑(.tup [.str "turn_button",.str b])
 | .close age=>H l=↑(.tup [.str "close_ages",.int age])
 | .forget d b=>H l=↑(.tup [.str "forget_at",.str d,.str b])
section
variable(K:ι)(CB CD:Δ)
def Ot(H:Hp)(a:Ha)(S:Hs)(r:Nr)(Q:VK):Prop:=∀q a' H',Mv (hF a) H H'->Om H a a'->a'.ma=a.ma->MP K CB CD none H' a' (fq S r)->R6 H' q r->Q (.ref q) H'
inductive RK (vs:Β) (H:Hp) (Q:VK):Prop
 |mk (t k:Δ) (tt ks:Ε) (h1:vs=[.ref t,.ref k]) (h2:MW K H t (tt.map V.int)) (h3:Rd H k (.tup (ks.map V.int))) (h4:∀a H',MM H H'->(∀z∈hF a,H z=none)->MP K CB CD none H' a (kP tt ks)->Q (.ref a.ma) H')
def tW:Sp:=λa H Q _=>RK K CB CD a H Q
inductive OV (vs:Β) (H:Hp) (Q:VK):Prop
 |mk (w:Str) (v:V) (h1:vs=[.str w,v]) (h2:∀q,H q=none->Q (.ref q) (MO H q (.tup [.str "refused",.str w,v])))
def ZJ:Sp:=λa H Q _=>OV a H Q
inductive Pn (vs:Β) (H:Hp) (Q:VK):Prop
 |mk (a:Ha) (S:Hs) (n:Nat) (word nm:Str) (p:Δ) (d:Hd) (h1:vs=[.ref a.ma,.str word,.str nm,.ref p]) (h2:MP K CB CD none H a S) (h3:M4 n S) (h4:n<=900000) (h5:((word="add_door"/\∃near far most,d= .addD nm near far most/\H p=↑(.tup [.int near,.int far,.int most]))\/(word="add_button"/\∃step,d= .addB nm step/\H p=↑(.tup [.int step])))) (h6:Ot K CB CD H a S (Qa S d) Q)
def ng:Sp:=λa H Q _=>Pn K CB CD a H Q
inductive O0 (vs:Β) (H:Hp) (Q:VK):Prop
 |mk (a:Ha) (S:Hs) (n i j:Nat) (z:NX) (y:Dh) (u:Og) (B:Bt) (h1:vs=[.ref a.ma,.ref z.a.p,.ref u.p]) (h2:MP K CB CD none H a S) (h3:M4 n S) (h4:n<=900000) (h5:a.ds[i]? =↑z) (h6:S.ds[i]? =↑y) (h7:a.bs[j]? =↑u) (h8:S.bs[j]? =↑B) (h9:Ot K CB CD H a S (dv S i j y B) Q)
def kT:Sp:=λa H Q _=>O0 K CB CD a H Q
end
section
variable{K:ι}{CB CD:Δ}{k:Λ}{H:Hp}{a:Ha}{S:Hs}{l:Int}
theorem vP{q:qN}{v:V}(e:H a.ma=↑(.dK (bB a l)))(i:Nat)(h:(bB a l)[i]? =↑(q,v)):Nd H a.ma (kV q) ↑v:=by
 have:=Nd.k (k:=q) e
 rw[mI i h (show((bB a l).map (·.1)).Nodup from rX)]at this
 exact this
theorem wC{xs:Β}{x:V}(h:xs[xs.length-1]? =↑x):Q2 xs (-1)=↑x:=by
 rcases List.eq_nil_or_concat xs with rfl|⟨ys,y,rfl⟩
 ·cases h
 ·rw[List.concat_eq_append]at h⊢
  have:y=x:=by simpa using h
  rw[<- this];exact Ee.1
theorem DE{α:Type}(l:List α)(x y:α):(l++[x]).set l.length y=l++[y]:=by simp
theorem MP.mne(h:MP K CB CD k H a S):a.ma≠a.dd:=λe=>by
 obtain⟨w,c⟩:=h.at_.ow
 have:=c.ma;rw[e,c.dd]at this;cases this
theorem MP.lastD{nm:Str}{da:Da}{ol:Δ}{y:Dh}(h:MP K CB CD k H {a with ds:=a.ds++[#[nm,da,ol]]} {S with ds:=S.ds++[y]})(hn:qP S.dn nm=none)(hl:a.ds.length=S.ds.length)(c:a.ds.map (·.nm)=S.dn):Nd H a.dd (.str nm) ↑(.ref da.p)/\(a.ds++[#[nm,da,ol]])[S.ds.length]? =↑(#[nm,da,ol]:NX)/\(S.ds++[y])[S.ds.length]? =↑y:=by
 have j:(a.ds++[(#[nm,da,ol]:NX)])[S.ds.length]? =some #[nm,da,ol]:=by rw[<- hl];simp
 refine#[?_,j,by simp]
 rcases h.at_.gdd nm with⟨e,g⟩|⟨i,x,y',e,d,_,ex,_,g⟩
 ·have e:qP ((S.ds++[y]).map (·.nm)) nm=none:=e
  have f:y.nm=nm:=by
   have:=h.at_.dn
   have this:(a.ds++[(#[nm,da,ol]:NX)]).map (·.nm)=(S.ds++[y]).map (·.nm):=this
   rw[JF,JF]at this
   have:=List.append_inj_right this (by rw[Jb,Jb,hl])
   injection this with this
   exact this.symm
  exact absurd (Jy.mpr #[y,Jv.mpr (.inr (Jg.mpr Z)),f]) (Zl e)
 ·rcases aW d with d|⟨_,rfl⟩
  ·have:nm∈S.dn:=by rw[<- c];exact Jy.mpr #[x,Jp d,ex]
   exact absurd this (Zl hn)
  ·exact g
end
theorem C7{xs:Β}{x:V}(hl:2<=xs.length)(h:xs[xs.length-2]? =↑x):Q2 xs (-2)=↑x:=by
 have e:bA xs.length (-2)=↑(xs.length-2):=by
  unfold bA;rw[Jc ⋯,Jd (by lia)]
  congr 1
  lia
 unfold Q2;rw[e];exact h
section
variable{K:ι}{CB CD:Δ}{k:Λ}{H H1:Hp}{a:Ha}{S:Hs}{j:Nat}{u:Og}{B:Bt}{pr:Δ}{d:Int}
theorem MP.keepL(h:MP K CB CD k H a S)(hu:a.bs[j]? =↑u)(s:S.bs[j]? =↑B)(p:Mv [u.p,u.ce] H H1)(t:OD K CB H1 u B.pr)(q:N3 H1 pr (qV B d)):
  ∃c:Η,H1 a.kl=↑(.lst (c.map V.ref))/\c.length=S.kp.length/\MP K CB CD k (MO H1 a.kl (.lst (c.map V.ref++[.ref pr]))) a (qY S j B d)/\Mv (hF a) H (MO H1 a.kl (.lst (c.map V.ref++[.ref pr]))):=by
 have h1:=h.btn hu s p t (ZO B);obtain⟨c,g,e,l⟩:=id h1.at_.kl;have e:c.length=S.kp.length:=e
 have m:Mv [a.kl] H1 (MO H1 a.kl (.lst (c.map V.ref++[.ref pr]))):=Mv.upd1
 have f:NT [a.kl] H1:=NT.one g trivial
 have r:R4 (MO H1 a.kl (.lst (c.map V.ref++[.ref pr]))) a.kl (S.kp++[qV B d]):=by
  refine#[c++[pr],by rw[qa,JF];rfl,by rw[Jo,Jo,e];rfl,λi u P n o=>?_]
  rcases aU e n o with⟨n,o⟩|⟨rfl,rfl⟩
  ·exact Nj.mv m f (l i u P n o)
  ·exact Nj.mv m f q
 exact#[c,g,e,h1.kpt r,(kG hu p).trans (pj kW m)]
end
theorem v6{K:ι}{js:Μ}{te:TE}{σ:L2.St}{H:Hp}{Q:VK}{q:Δ}{c:Α}{h:Kw}(z:Pb H q c h)(hs:∀nm∈c,nm∈h.map (·.1))(hl:c.length<=60)
  (d:∀(Hx:Hp) (a:Δ) (nm:Str) (xs:Β) (g:VK),Hx a=↑(.tup (.str nm::xs))->g (.str nm) Hx->te (↑(.ref a)::QD js σ) Hx g)
  (y:∀l H',MM H H'->H' l=↑(.lst (c.map V.str))->Q (.ref l) H'):(∃xs,MW K H q xs)/\a6 (ib K q) js te σ H Q:=by
 obtain⟨o,e,l,r⟩:=z;refine#[#[_,MW.of e],eI (K:=K) (xs:=o.map V.ref) (by rw[Jb,l,Jn];lia) (λi ys Hx=>Hx=H/\ys=(c.take i).map V.str) #[Z,Z] (λi ys Hx w=>by rw[w.1];exact MW.of e) ?_ ?_]
 ·rintro i ys Hx v j f ⟨rfl,rfl⟩
  rw[Jm]at j;obtain⟨b,m,rfl⟩:=JV.mp j;have hi:i<c.length:=by rw[<- l];exact(Jt.mp m).1
  have n:=Jk hi;obtain⟨u,s⟩:=ZM (hs _ (IG hi))
  obtain⟨A,t,_⟩:=r i b _ u m n s;refine d _ _ _ _ _ t #[Z,?_]
  rw[Ig,n,JF];rfl
 ·rintro ys Hx f ⟨rfl,rfl⟩ p x
  refine y p _ (MM.upd x) ?_
  rw[qa,Jb,l,MA (Je _)]
section
variable{K:ι}{CB CD:Δ}{k:Λ}{x:Xa}{H H1:Hp}{a:Ha}{S:Hs}{r:Nr}{d:Hd}{Q:VK}{E:XK}
theorem Om.same{a':Ha}(g:Om H1 a a')(s:MM H H1):Om H a a':=λz c=>(g z c).elim .inl λq=> .inr (QK q s)
theorem Ot.same(h:Ot K CB CD H a S r Q)(s:MM H H1):Ot K CB CD H1 a S r Q:=λq a' H' m g e d c=>h q a' H' (s.mv.trans m) (g.same s) e d c
theorem M8.same{C:Δ}(h:M8 E H C)(s:MM H H1):M8 E H1 C:=λH' e s' a=>h H' e (s.trans s') a
theorem OF.same{r:Rf}(h:OF x E H r)(s:MM H H1):OF x E H1 r:=by
 cases r with
 |badp n=>exactλH' e d s' c a=>h H' e d (s.trans s') c a
 |_=>exact M8.same h s
theorem Ra.same(h:Ra K CB CD k x H a S d Q E)(s:MM H H1):Ra K CB CD k x H1 a S d Q E:=#[λr e=>(h.1 r e).same s,λS' o e v a' H' m g c i f=>h.2 S' o e v a' H' (s.mv.trans m) (g.same s) c i f]
theorem Os.same{v:V}{o:OU}(h:Os H v o)(s:MM H H1):Os H1 v o:=by
 cases o with
 |non=>exact h
 |num k as=>obtain⟨q,t,xs,e,a,d,l,r⟩:=h;exact#[q,t,xs,e,s _ _ a,s _ _ d,l,λi x l h1 c=>s _ _ (r i x l h1 c)]
 |ans as=>obtain⟨q,e,a⟩:=h;exact#[q,e,s _ _ a]
end
theorem vT{X:Cx}:zx X (.builtin "isinstance") (λxs H Q=>∃(a C f:Δ) (dd:Λ) (i:Η) (b:Bool),xs=[.ref a,.ref f]/\H a=↑(Oo a (.ref C) dd)/\OR X.K C/\H f=↑(.tup (i.map V.ref))/\W.kitAny X.K (.ref C) (i.map Γ.ref)=↑b/\Q (.bl b) H):=by
 intro tx s σ H xs B Q I r h;obtain⟨a,C,f,dd,i,b,rfl,p,t,A,hk,q⟩:=h;obtain⟨u,v,rfl,x,y⟩:=cE r;cases x
 cases(show v=Γ.ref f from y)
 obtain⟨⟨o,D,e,j,_⟩,_⟩:=I.hok a _ p;obtain⟨l,g,⟨⟨cl,dd,m,E⟩,w,c,n,d⟩,_⟩:=I.tuple (MW.of A)
 replace c:cl= .type "tuple":=c
 replace d:m= .seq l.toArray n:=d
 subst c d;rw[<- xa g]at hk;exact IW (pZ t) I.kIn #[o,e,j] w hk (λz=>nomatch z) λtk=>#[.bl _,H,I.tok tk,Z,q]
def Xa.six(x:Xa):Η:=[x.k,x.f,x.w,x.u,x.t,x.b]
def OJ:Α:=["Known","Full","Worn","Unknown","TooMany","BadPress"]
structure Ou(x:Xa)(C:Δ)(wd:Str)(j:Nat):Prop where
 l:x.six.map (λD=>decide (C=D))=(List.range 6).map λm=>decide (m=j)
 j6:j<6
 w:OJ[j]? =↑wd
 n:C∉[x.l,x.r]
theorem yu{x:Xa}(c:x.all.Nodup):x.six.Nodup/\∀C∈x.six,C∉[x.l,x.r]:=by
 simp only[Xa.all,J4,Ji,Jr,Js,not_or,LU,and_true]at c;obtain⟨⟨v,y,f,u,j,d,n⟩,⟨k1,k2,k3,s,k5,i⟩,⟨f1,f2,e,o,r⟩,⟨w,p,g,A⟩,⟨B,z,l⟩,⟨t,m⟩,D,_⟩:=c;constructor
 ·simp only[Xa.six,J4,Ji,Jr,Js,not_or,LU,and_true]
  exact#[#[k1,s,k2,k3,Ne.symm v],#[e,f1,f2,Ne.symm y],#[Ne.symm p,Ne.symm B,Ne.symm j],#[w,Ne.symm f],Ne.symm u,trivial,Ld]
 ·intro C a q
  simp only[Xa.six,Ji,Jr,Js]at a q;rcases q with rfl|rfl
  ·rcases a with h|h|h|h|h|h
   ·exact k5 h.symm
   ·exact o h.symm
   ·exact t h.symm
   ·exact g h.symm
   ·exact z h.symm
   ·exact d h.symm
  ·rcases a with h|h|h|h|h|h
   ·exact i h.symm
   ·exact r h.symm
   ·exact m h.symm
   ·exact A h.symm
   ·exact l h.symm
   ·exact n h.symm
theorem Ou.of{x:Xa}{C:Δ}{a:Str}{j:Nat}(c:x.all.Nodup)(h:x.six[j]? =↑C)(d:j<6)(w:OJ[j]? =↑a):Ou x C a j:=by
 have e:∀m:Nat,((List.range 6).map λi=>decide (i=j))[m]? =if m<6 then ↑(decide (m=j))else none:=λm=>by
  rw[Jm]
  by_cases z:m<6
  ·rw[Jd z,MG z];rfl
  ·rw[Jc z,LN (by rw[List.length_range];lia)];rfl
 exact#[List.ext_getElem? λm=>by rw[Gw (yu c).1 h m,e m];rfl,d,w,(yu c).2 C (Jp h)]
theorem Ou.count{x:Xa}{C:Δ}{a:Str}{j:Nat}(m:Ou x C a j):(x.six.map λD=>decide (C=D)).count true=1:=by
 rw[m.l]
 have:∀j<6,((List.range 6).map λm=>decide (m=j)).count true=1:=by decide
 exact this j m.j6
theorem Ou.hit{x:Xa}{C:Δ}{a:Str}{j:Nat}(m:Ou x C a j):(x.six.map λD=>decide (C=D))[j]? =↑true/\∀i,i<j->(x.six.map λD=>decide (C=D))[i]? =↑false:=by
 rw[m.l];have c:=m.j6;refine#[?_,λi hi=>?_]
 ·rw[Jm,MG c];simp
 ·rw[Jm,MG (by lia)]
  show ↑(decide (i=j))=↑false
  rw[Jq (by lia)]
structure R7(K:ι)(x:Xa)(C:Δ)(wd:Str)(j:Nat):Prop where
 c:OR K C
 i:∀D∈x.all,PySem.W.kitOne K (.ref C) (.ref D)=↑(decide (C=D))
 v:PySem.W.kitOne K (.ref C) (.type "ValueError")=↑true
 m:Ou x C wd j
 s:vF K x.e (.ref C)
theorem R7.one{K:ι}{x:Xa}{C:Δ}{a:Str}{j:Nat}(o:OG K x C)(m:Ou x C a j):R7 K x C a j:=#[o.c,o.i,o.v,m,_,_,_,_,Z,.inl o.e,by rw[LP];simp]
def E5(x:Xa):Rf->Δ
 | .known=>x.k
 | .full=>x.f
 | .worn=>x.w
 | .unknown=>x.u
 | .toomany=>x.t
 | .badp _=>x.b
theorem OE.cl{K:ι}{mg:MK}{x:Xa}{fI:Δ}(X:OE K mg x fI)(r:Rf):∃j,R7 K x (E5 x r) (uJ r) j:=by
 cases r with
 |known=>exact#[0,R7.one X.o_Known (Ou.of X.nd Z ⋯ Z)]
 |full=>exact#[1,R7.one X.o_Full (Ou.of X.nd Z ⋯ Z)]
 |worn=>exact#[2,R7.one X.o_Worn (Ou.of X.nd Z ⋯ Z)]
 |unknown=>exact#[3,R7.one X.o_Unknown (Ou.of X.nd Z ⋯ Z)]
 |toomany=>exact#[4,R7.one X.o_TooMany (Ou.of X.nd Z ⋯ Z)]
 |badp n=>exact#[5,X.bp.f.cl,X.bp.i,X.bp.v,Ou.of X.nd Z ⋯ Z,_,_,_,_,Z,.inr #[_,X.bp.f.bi],by rw[LP];simp]
inductive Po (K:ι) (x:Xa) (vs:Β) (H:Hp) (Q:VK):Prop
 |mk (e C:Δ) (dd:Λ) (wd:Str) (j:Nat) (h1:vs=[.ref e]) (h2:H e=↑(Oo e (.ref C) dd)) (h3:R7 K x C wd j) (h4:∀H',MM H H'->Q (.str wd) H')
def oz(K:ι)(x:Xa):Sp:=λa H Q _=>Po K x a H Q
def pB(p d:Δ):HO:= .ext λh=>h.IsItemsView p d
inductive R8 (x:V) (vs:Β) (H:Hp) (Q:VK):Prop
 |mk (d:_) (kvs:_) (h1:x= .ref d) (h2:vs=[]) (h3:H d=↑(.dK kvs)) (h4:∀p,H p=none->Q (.ref p) (MO H p (pB p d)))
def wO:V->Β->Hp->VK->Prop:=λx a H Q=>R8 x a H Q
theorem AV{X:Cx}:je X "dict.items" wO:=by
 intro tx s σ H x g v t Q I p n h;obtain⟨d,kvs,rfl,rfl,j,q⟩:=h;cases p;cases n;obtain⟨z,lo,g,l,i⟩:=iC I.hok j;refine PySem.call_meetsIn PySem.F.slot_dict_items i.typeIs PySem.F.entry_dict_items (PySem.F.args_dict_items_1 _) (meets_dict_items (zi X.prog X.w) d lo) #[#[g,i],?_]
 have e:(s.heap.push {cls:= .type "dict_items",data:= .fields (List.toArray [.ref d])}).get? s.heap.objs.size=some {cls:= .type "dict_items",data:= .fields (List.toArray [.ref d])}:=Jw _ Z
 have m:=I.laid (a:=s.heap.objs.size) (o:=pB s.heap.objs.size d) (t':=s.toks) (h':=s.heap.push {cls:= .type "dict_items",data:= .fields (List.toArray [.ref d])}) (λb u e=>Jj _ e) (Je _) #[#[_,e,Z,Z],#[_,e],λh1 r ⟨o,e,c,f⟩ k=>#[o,k o e,c,f]]
 exact#[.ref _,_,m,Z,q _ (I.hok.fresh (Je _))]
def xj(d:Δ)(o:Obj)(kvs:List (qN×V)):It:=
 #[λi H=>H d=↑(.frz o (.dK kvs))/\i<kvs.length,λi H x H'=>∃p a,H p=none/\x= .ref p/\kvs[i]? =↑a/\H'=MO H p (.tup [kV a.1,a.2]),λi H=>H d=↑(.frz o (.dK kvs))/\kvs.length<=i]
theorem fV:entryFor table "dict_itemiterator.__iter__"=some γ.«dict_keyiterator.__iter__»:=entryFor_alias (id':="dict_keyiterator.__iter__") (by kernel_rfl) Z nofun (by kernel_rfl)
theorem kR{prog:Ξ}{w:Ω}{A:Around}{E:MJ}{s:Θ}{it d:Δ}{i n ep:Nat}{ok c:Γ}{Q:MJ}(hit:IsItemIter s.heap it d i n ep ok c)(h:Q (.ref it) s):ε (model prog w) A (pyIter (.ref it)) Q E s:=by
 have a:s.TypeIs (.ref it) "dict_itemiterator":=#[_,hit,Z]
 refine wpAny_pyIter_slot a PySem.F.slot_dict_itemiterator_iter (J8 PySem.F.slot_dict_itemiterator_iter a fV ?_ (PySem.F.args_dict_itemiterator_iter_1 _))
 show ε _ _ (ret (.ref it)) _ _ s
 exact Jh #[_,Z,"dict_itemiterator",_,a,PySem.F.slot_dict_itemiterator_next.lookup,h]
theorem vm{P:Ξ}{w:Ω}{K:ι}{p:Ι}{x1}{pos:Pos}(d it:Δ){o:Obj}{kvs:List (qN×V)}{vs:List (qN×Γ)}{ep:Nat}(O:∀h:Ψ,h.get? d=↑o->h.DictAt (zi P w) d vs ep)(a:KV kvs vs):
  Oz P w K (.Tuple p x1 pos) (xj d o kvs) [it] it (λi h=>∃ok l,IsItemIter h it d i vs.length ep ok l) where
 mem:=by simp
 obj:=λi h st b c=>by
  have e:b=it:=by simpa using c
  subst e;obtain⟨ok,l,st⟩:=st;refine#[_,st,λv z=>?_]
  have Y:Data.fields _=Data.cell v:=z
  cases Y
 keep:=λi h h' st k=>let⟨ok,l,e⟩:=st;#[ok,l,k it (by simp) _ e]
 item:=by
  intro X F D y N i tx s σ H E I t st u;subst F D y;obtain⟨M,hi⟩:=u;obtain⟨ok,l,st⟩:=st;have j:=(I.hok d _ M).1;have L:i<vs.length:=by rw[<- a.length];exact hi
  have J:vs[i]? =↑(vs[i].1,vs[i].2):=Jk L
  have hk:kvs[i]? =some kvs[i]:=Jk hi
  have A:kvs[i].1=vs[i].1:=xx a i _ _ hk J
  have B:MT kvs[i].2 vs[i].2:=wq a i _ _ hk J
  refine wpAny_pyNext_items_item st (O _ j) J λG h' r S Q U C=>#[_,Z,?_]
  refine wpAny_letOwnedTupleGo_items S λx g f=>?_
  have n:it<s.heap.objs.size:=Jl st
  refine#[.ref s.heap.objs.size,MO H s.heap.objs.size (.tup [kV kvs[i].1,kvs[i].2]),?_,Z,#[_,_,I.hok.fresh (Je _),Z,hk,Z],#[_,_,g],?_]
  ·show L2.MQ X tx σ _ {s with heap:=x,toks:=s.toks}
   refine iI (s:=s) (its:=[G,vs[i].2]) I (ch:=[it]) (λb o c q=>?_) t (λb c=>?_) (Je _) (by show 2<=ζ;decide) (.cons (by rw[A];exact Ay r) (.cons B .nil)) ?_
   ·have m:b≠it:=λz=>c (by simp [z])
    exact(f.2 b m).trans (C b o m q)
   ·rw[Jg.mp c];exact#[_,g]
   ·exact#[_,(f.2 _ (J0 n)).trans Q,Z,_,Z]
  ·intro b c
   rw[Jg.mp c,qk (Ju n)]
   exact(t it (by simp)).1
 done:=by
  intro X F D y N i tx s σ H E I t st u;subst F D y;obtain⟨M,hi⟩:=u;obtain⟨ok,l,st⟩:=st;have j:=(I.hok d _ M).1;obtain⟨f0,f1,f2,R,W,f5⟩:=t it (by simp)
  have hl:=a.length;exact wpAny_pyNext_items_end (I.ok.hd N) st (O _ j) (LN (by lia)) λh' T=>#[Z,I.turned (t':=s.toks) (λb o c e=>T b o c e) f0 f1 R W f5]
 self:=λ_ _ _ _ _ st h=>by
  obtain⟨ok,l,st⟩:=st;exact kR st h
def Fh(tl:TE):TI:=λσ H R=>tl σ H λx H1=>∃p d kvs,x= .ref p/\H1 p=↑(pB p d)/\H1 d=↑(.dK kvs)/\∀o,R (xj d o kvs) (MO H1 d (.frz o (.dK kvs)))
theorem rq{X:Cx}{g:Ι}{x1}{tpos:Pos}{l:Φ}{tl:TE}(hl:QE X l tl):QI X (.Tuple g x1 tpos) l (Fh tl):=#[by
 intro tx s σ H R I h;refine qF (hl.h tx s σ H _ I h) λv a E=>?_
 obtain⟨x,H1,n,J,K⟩:=E;obtain⟨p,d,kvs,e,G,D,q⟩:=K;subst e;cases J;have j:a.heap.IsItemsView p d:=(n.hok p _ G).1
 obtain⟨z,lo,t,c,o,es,r,i,C,A,w,B,y⟩:=iC n.hok D;have f:∀h:Ψ,h.get? d=↑o->h.DictAt (zi X.prog X.w) d t r:=λh e=>#[o,es,e,C,A,w,B,y]
 refine wpAny_pyIter_items j (f _ i) ?_
 have m:=n.write (x:=d) (e:=d) (o:= .frz o (.dK kvs)) (h':=a.heap) (t':=a.toks) (by rw[D];exact True.intro) (.inl Z) (λb u _ e=>e) #[o,i] #[i,z,lo,t,c,o,es,r,i,C,A,w,B,y]
 refine#[a.heap.objs.size,[a.heap.objs.size],_,_,_,Z,m.kept (t':=a.toks) λb o e=>Jj _ e,vm d _ f c,#[_,_,Jw _ Z],λb F=>?_,q o]
 have e:b=a.heap.objs.size:=by simpa using F
 subst e;exact m.fpOk (Je _) (m.hok.fresh (Je _))]
def De(td:TE):TE:=λσ H Q=>td σ H λx H1=>wO x [] H1 Q
theorem nj{X:Cx}{o:Φ}{td:TE}{apos cpos:Pos}(ho:QE X o td)(c:attributeBase o "items" X.env (eval o X.env)=eval o X.env:=by rfl)(a:(apos.endLine==cpos.line)=true:=by rfl):QE X (.Call (.Attribute o "items" apos) [] [] cpos) (De td):=#[by
 intro tx s σ H Q I h;refine wpAny_Call_method0_late c a (qF (ho.h tx s σ H _ I h) λv g i=>?_)
 obtain⟨x,H1,e,n,f⟩:=i;obtain⟨d,kvs,ex,p,j,q⟩:=id f;subst ex
 obtain rfl:v=Γ.ref d:=n
 obtain⟨m,l,_⟩:=wQ e (.inl #[kvs,.inl j])
 exact#["dict","dict.items",PySem.F.plainAttrs_dict,PySem.F.slot_dict_items,PySem.F.type_dict_items,m,l,Ma Z (PySem.evalArgs_none (AV tx g σ H1 (.ref d) [] (.ref d) [] Q e Z .nil f))]]
theorem nU{d:Δ}{o:Obj}{kvs:List (qN×V)}{g:TG}{tb:TS}{D:Nq}{σ:L2.St}{H:Hp}(Pv:Nat->L2.St->Hp->Prop)(r:Pv 0 σ H)(hl:∀i σ H,Pv i σ H->H d=↑(.frz o (.dK kvs)))
  (hs:∀i f p σ H,kvs[i]? =↑f->Pv i σ H->H p=none->g (.ref p) σ (MO H p (.tup [kV f.1,f.2])) λc j=>tb {D with nx:=Pv (i+1),ct:=Pv (i+1),bk:=D.nx} c j)(hd:∀σ H,Pv kvs.length σ H->D.nx σ H):
  ∃W:Nat->Nat->L2.St->Hp->Prop,(∃m,W 0 m σ H)/\∀i m σ H,W i m σ H->
   ((xj d o kvs).stop i H/\D.nx σ H)\/((xj d o kvs).go i H/\∃N:L2.St->Hp->Prop,(∀a H',N a H'->∃m',m'<m/\W (i+1) m' a H')/\∀x H',(xj d o kvs).yld i H x H'->g x σ H' λc j=>tb {D with nx:=N,ct:=N,bk:=D.nx} c j):=by
 refine#[λi m σ H=>m=kvs.length-i/\i<=kvs.length/\Pv i σ H,#[kvs.length,by simp,JM _,r],?_]
 rintro i m σ H ⟨rfl,hi,p⟩
 by_cases h:i<kvs.length
 ·refine .inr #[#[hl i σ H p,h],Pv (i+1),λa H' n=>#[kvs.length-(i+1),by lia,Z,h,n],?_]
  rintro x H' ⟨l,f,q,rfl,e,rfl⟩
  exact hs i f l σ H e p q
 ·have:i=kvs.length:=by lia
  subst this;exact .inl #[#[hl _ σ H p,Je _],hd σ H p]
inductive RL (n:Nat) (vs:Β) (H:Hp) (Q:VK):Prop
 |mk (c d:Δ) (xs ys:Β) (h1:vs=[.ref c,.ref d]) (h2:H c=↑(.lst xs)) (h3:H d=↑(.lst ys)) (h4:xs.length=ys.length) (h5:xs.length<=ζ) (h6:(∀(i:Nat) (x y:V),xs[i]? =↑x->ys[i]? =↑y->OA H n x y)) (h7:∀H',MM H H'->Q (.bl true) H')
def ud(n:Nat):Sp:=λa H Q _=>RL n a H Q
theorem rO:∀{l:Α} {i:Nat} {z:Str},l.Nodup->l[i]? =↑z->qP l z=↑i
 | [],i,z,_,h=>by cases h
 |y::r,0,z,_,h=>by
  have h:y=z:=JE h
  unfold qP;rw[Jd h]
 |y::r,i+1,z,nd,h=>by
  have h:r[i]? =↑z:=h
  have a:=J4.mp nd;unfold qP;rw[Jc (λe:y=z=>a.1 (by rw[e];exact Jp h)),rO a.2 h];rfl
theorem OA.up{H:Hp}:∀{n:Nat} {x y:V},OA H n x y->OA H (n+1) x y:=λh=>by
 induction h with
 |int n i=>exact .int _ i
 |str n x=>exact .str _ x
 |non n=>exact .non _
 |tup h1 h2 hl hz _ ih=>exact .tup h1 h2 hl hz ih
theorem RC.eqv{H:Hp}{q g:Δ}{ps:List Ps}(h1:RC H q ps)(h2:RC H g ps)(ok:∀P∈ps,OM P)(hl:ps.length<=2000000):OA H 3 (.ref q) (.ref g):=by
 obtain⟨r,h,c,o⟩:=h1;obtain⟨bs,p,l,m⟩:=h2;refine .tup (n:=2) (.inl h) (.inl p) (by simp [c,l]) (by rw[Jb,c,Jn];lia) λi x y ex e=>?_
 rw[Jm]at ex e;obtain⟨a,d,rfl⟩:=JV.mp ex;obtain⟨b,j,rfl⟩:=JV.mp e;have hi:i<ps.length:=by rw[<- c];exact(Jt.mp d).1
 have f:=Jk hi;exact N3.eqv (o i a _ d f) (m i b _ j f) (ok _ (IG hi))
theorem Ch{H:Hp}{n:Nat}{q d:Δ}{a:Μ}(h1:H q=↑(.tup (a.map λn:Nat=>V.int (n:Int))))(h2:H d=↑(.tup (a.map λn:Nat=>V.int (n:Int))))(hl:a.length<=2000000):OA H (n+1) (.ref q) (.ref d):=by
 refine .tup (.inl h1) (.inl h2) Z (by rw[Jb,Jn];lia) λi x y ex c=>?_
 rw[ex]at c;cases c
 rw[Jm]at ex;obtain⟨z,e,rfl⟩:=JV.mp ex;exact .int _ _
theorem Dv{H:Hp}{q d c c':Δ}{B:Bt}(h1:H q=↑(.tup [.int B.age,.int B.cnt,.ref c]))(f:H c=↑(.tup [oV B.x,oV B.y]))(h2:H d=↑(.tup [.int B.age,.int B.cnt,.ref c']))(g:H c'=↑(.tup [oV B.x,oV B.y])):OA H 3 (.ref q) (.ref d):=by
 have e:∀(o:Κ),OA H 1 (oV o) (oV o):=λo=>by cases o<;>constructor
 refine .tup (n:=2) (.inl h1) (.inl h2) Z (by show 3<=ζ;decide) λi x y ex a=>?_
 match i,ex,a with
 |0,ex,a=>cases ex;cases a;exact .int _ _
 |1,ex,a=>cases ex;cases a;exact .int _ _
 |2,ex,a=>
  cases ex;cases a
  refine .tup (n:=1) (.inl f) (.inl g) Z (by show 2<=ζ;decide) λi x y ex a=>?_
  match i,ex,a with
  |0,ex,a=>cases ex;cases a;exact e _
  |1,ex,a=>cases ex;cases a;exact e _
  |i+2,ex,a=>cases ex
 |i+3,ex,a=>cases ex
theorem Gf{i:Nat}{a:qN×V}{f:Og->V}{l:List Og}(h:(zw Og.nm f l)[i]? =↑a):∃x,l[i]? =↑x/\a=(Sum.inr x.nm,f x):=by
 unfold zw at h;rw[Jm]at h;obtain⟨x,c,e⟩:=JV.mp h
 exact#[x,c,e.symm]
theorem nD{H H1 Hx:Hp}{d:Δ}{o:Obj}{kvs:List (qN×V)}(e:H d=↑(.dK kvs))(f:MM H H1)(g:MM (MO H1 d (.frz o (.dK kvs))) Hx):MM H (MO Hx d (.dK kvs)):=λc u a=>by
 by_cases z:c=d
 ·rw[z,qa];rw[z,e]at a;exact a
 ·rw[qk z];exact g c u (by rw[qk z];exact f c u a)
structure W2(K:ι)(CB CD C:Δ)(H:Hp)(aH aO:Ha)(S:Hs):Prop where
 hh:MP K CB CD ↑C H aH S
 oo:MP K CB CD none H aO S
 dj:∀z∈hF aH,z∉hF aO
theorem W2.same{K:ι}{CB CD C:Δ}{H H':Hp}{aH aO:Ha}{S:Hs}(w:W2 K CB CD C H aH aO S)(s:MM H H'):W2 K CB CD C H' aH aO S:=#[w.hh.same s,w.oo.same s,w.dj]
inductive Pq (K:ι) (CB CD C:Δ) (vs:Β) (H:Hp) (Q:VK):Prop
 |mk (aH aO:Ha) (S:Hs) (n:Nat) (h1:vs=[.ref aH.ma,.ref aO.ma]) (h2:W2 K CB CD C H aH aO S) (h3:M4 n S) (h4:n<=900000) (h5:∀H',MM H H'->Q (.bl true) H')
def nG(K:ι)(CB CD C:Δ):Sp:=λa H Q _=>Pq K CB CD C a H Q
end L3
namespace L3
open PySem PySem.Spec PyProof.Rows L2
open PySem.W (kdl_dict kdl_call)
section
variable{X:Cx}
theorem fK(hc:X.calm=true):zx X (.type "list") (λxs H Q=>∃(d:Δ) (kvs:List (qN×V)) (a:Α),xs=[.ref d]/\H d=↑(.dK kvs)/\kvs.map (·.1)=a.map Sum.inr/\a.length<=2000/\∀l,H l=none->Q (.ref l) (MO H l (.lst (a.map V.str)))):=by
 intro tx s σ H xs P Q I r h;obtain⟨d,kvs,a,rfl,E,p,R,q⟩:=h;obtain⟨u,rfl,C⟩:=Qz r;cases C;obtain⟨z,lo,g,n,o,es,ep,D,N,L,F,M,K⟩:=iC I.hok E;have c:g.map (·.1)=a.map Sum.inr:=by rw[<- p,n.keys]
 have f:g.length=a.length:=by have:=JL List.length c;rwa [Jb,Jb]at this
 refine kdl_call (kdl_dict (knd:=zi X.prog X.w) (ep:=ep) (kvs:=g) lo) (I.ok.hd hc) (#[o,es,D,N,L,F,M,K]:s.heap.DictAt (zi X.prog X.w) d g ep) (by rw[Jn];lia) λh' tk m c' hk G t=>?_
 have J:StrsAre m.toList a:=mM (by rw[IB];exact t.1.trans f) λj v e=>by
  obtain⟨k,x,A,O⟩:=t.2 j v (by rw[<- Array.getElem?_toList];exact e)
  have i:(g.map (·.1))[j]? =↑k:=by rw[Jm,A];rfl
  rw[c,Jm]at i;cases e4:a[j]? with
  |none=>rw[e4]at i;cases i
  |some y=>
   rw[e4]at i;have B:Sum.inr y=k:=JE i
   subst B;have w:Γ.isStrOf y v=true:=O
   cases v<;>simp [Γ.isStrOf]at w
   subst w
   exact#[_,_,Z,Z]
 refine#[.ref s.heap.objs.size,_,I.laid (h':=h') (t':=tk) (o:= .lst (a.map V.str)) hk (Je _) ?_,Z,q _ (I.hok.fresh (Je _))]
 exact#[by rw[Jb,Jn];lia,m.toList,c',cD J,G]
theorem mY:∀{us:Ζ} {a:Α},MU (a.map V.str) us->StrsAre us a
 | [],[],_=> .nil
 | [],_::_,h=>by cases h
 |_::_,[],h=>by cases h
 |u::us,x::a,h=>by
  cases h with
  |cons r t=>obtain⟨c,rfl⟩:=r;exact .cons _ _ (mY t)
theorem sv:zx X (.builtin "sorted") (λxs H Q=>∃(p:Δ) (c:Α),xs=[.ref p]/\H p=↑(.lst (c.map V.str))/\c.length<64/\
  ∀l a,H l=none->a.Perm c->sortedS a=true->Q (.ref l) (MO H l (.lst (a.map V.str)))):=by
 intro tx s σ H xs z Q I r h;obtain⟨p,c,rfl,w,x,q⟩:=h;obtain⟨u,rfl,v⟩:=Qz r;cases v;obtain⟨f,i,j,_⟩:=I.list (MV.of w)
 have m:=i.length;rw[Jb]at m;refine sorted_strs j.isList (mY i) (by lia) λd a n g y=>?_
 obtain⟨e,t⟩:=sortedAll_at s.heap f d;refine#[.ref (s.heap.objs.size+1),_,I.laid (t':=s.toks) (o:= .lst (a.map V.str)) (λb o q=>sortedAll_old q) (JW _) ?_,Z,q _ a (I.hok.fresh (JW _)) g y]
 have A:a.length=c.length:=g.length_eq
 exact#[by rw[Jb,Jn];lia,d.toList,e,cD n,t]
inductive SO (K:ι) (x:V) (y:V) (H:Hp) (Q:VK):Prop
 |mk (a b:Δ) (xs:Β) (h1:x= .ref a) (h2:y= .ref b) (h3:MV K H a xs) (h4:MV K H b []) (h5:Q (.bl xs.isEmpty) H)
def GV(K:ι):R2:=λx y H Q=>SO K x y H Q
theorem Ew{k:Nat}(hr:M9 k X.A):zT X (compareOp .Eq) (GV X.K):=by
 intro tx s σ H x y v u Q I B p h;obtain⟨a,b,xs,rfl,rfl,n,t,q⟩:=h;cases B;cases p;have i:X.A.units+1<cLine:=by have:=hr.un;lia
 obtain⟨d,A,f,_⟩:=I.list n;obtain⟨c,o,p2,_⟩:=I.list t;have g:=A.length;have l:=o.length;cases xs with
 |nil=>
  refine SeqAt.eq_listAt (e:=λ_=>true) f.isList p2.isList (by simp;lia) (Nat.lt_of_succ_lt i) (λj h1 m=>?_) #[.bl _,H,I,?_,q]
  ·have w:j<c.length:=by simpa using m
   have:c.length=0:=by rw[<- l];rfl
   lia
  ·show Γ.bool _=Γ.bool _
   congr 1
   have z:d.toArray.size=0:=by rw[JA,<- g];rfl
   rw[z];rfl
 |cons x r=>
  refine SeqAt.eq_list_lengthsAt f.isList p2.isList (by
   have D:d.length=r.length+1:=by rw[<- g];rfl
   have C:c.length=0:=by rw[<- l];rfl
   simp;lia) (Nat.lt_of_succ_lt i) #[.bl _,H,I,Z,q]
end
structure Hm(m:Nat)(S:Hs):Prop where
 ok:M4 (6*m) S
 dl:S.ds.length<=m
 bl:S.bs.length<=m
theorem Hm.mono{m k:Nat}{S:Hs}(h:Hm m S)(l:m<=k):Hm k S:=#[h.ok.mono (by lia),JH h.dl l,JH h.bl l]
section
variable{K:ι}{CB CD C:Δ}{k k':Λ}{H H':Hp}{a a' b:Ha}{S S' T:Hs}
theorem MP.beside(f:MP K CB CD k H a S)(d:MP K CB CD k' H b T)(e:∀z∈hF a,z∉hF b)(m:Mv (hF a) H H')(g:Om H a a'):MP K CB CD k' H' b T/\∀z∈hF a',z∉hF b:=
 #[d.mv m f.at_.nt λz c q=>e z q c,λz c q=>by
  rcases g z c with g|g
  ·exact e z g q
  ·exact d.at_.live q g]
structure Rb(H:Hp)(aH aO:Ha)(H':Hp)(aH' aO':Ha):Prop where
 m:Mv (hF aH++hF aO) H H'
 gH:∀z∈hF aH',z∈hF aH++hF aO\/H z=none
 gO:∀z∈hF aO',z∈hF aH++hF aO\/H z=none
 mH:aH'.ma=aH.ma
 mO:aO'.ma=aO.ma
theorem W2.nt{aH aO:Ha}(w:W2 K CB CD C H aH aO S):NT (hF aH++hF aO) H:=λz a=>by
 rcases Jv.mp a with h|h
 ·exact w.hh.at_.nt z h
 ·exact w.oo.at_.nt z h
theorem Rb.free{aH aO aH' aO':Ha}(s:Rb H aH aO H' aH' aO'){p:Δ}{o:HO}(e:H p=↑o)(n:p∉hF aH++hF aO):p∉hF aH'++hF aO':=λq=>by
 rcases Jv.mp q with h|h
 ·rcases s.gH p h with g|g
  ·exact n g
  ·rw[e]at g;cases g
 ·rcases s.gO p h with g|g
  ·exact n g
  ·rw[e]at g;cases g
theorem Rb.mk'{aH aO aH' aO':Ha}{H1:Hp}(w:W2 K CB CD C H aH aO S)(m:Mv (hF aH) H H1)(g:Om H aH aH')(j:MP K CB CD ↑C H1 aH' S')(m':Mv (hF aO) H1 H')(g':Om H1 aO aO')(f:MP K CB CD none H' aO' S')(e:aH'.ma=aH.ma)(l:aO'.ma=aO.ma):
  Rb H aH aO H' aH' aO'/\W2 K CB CD C H' aH' aO' S':=by
 obtain⟨p,r⟩:=w.hh.beside w.oo w.dj m g;obtain⟨d,i⟩:=p.beside j (λz a q=>r z q a) m' g'
 refine#[#[λc o n q=>?_,λz a=>?_,λz a=>?_,e,l],d,f,λz a q=>i z q a]
 ·exact m' c o (λz=>n (Jv.mpr (.inr z))) (m c o (λz=>n (Jv.mpr (.inl z))) q)
 ·rcases g z a with q|q
  ·exact .inl (Jv.mpr (.inl q))
  ·exact .inr q
 ·rcases g' z a with q|q
  ·exact .inl (Jv.mpr (.inr q))
  ·by_cases h:z∈hF aH
   ·exact .inl (Jv.mpr (.inl h))
   ·exact .inr (m.nfree h q)
end
end L3
namespace L3
open PySem PySem.Spec PyProof.Rows L2
def EM(z:Str):Bool:=(z.cps.toList.all λc=>decide (97<=c)&&decide (c<=122))&&(decide (1<=z.cps.toList.length)&&decide (z.cps.toList.length<=8))
theorem rT{l:Α}(h:l.all EM=true):∀z∈l,Zq z:=λz d=>by
 have h:=Iz.mp h z d;unfold EM at h;simp only[JU,Iz,decide_eq_true_eq]at h
 exact#[λc a=>h.1 c a,h.2.1,h.2.2]
inductive P4 (vs:Β) (H:Hp) (Q:VK):Prop
 |mk (b l:Δ) (ss:Α) (o:Str) (c:Nat) (h1:vs=[.ref b,.ref l,.str o]) (h2:NQ H b c) (h3:c<100000000) (h4:H l=↑(.lst (ss.map V.str))) (h5:l≠b) (h6:ss.length<64) (h7:∀nm H',Oj b (c+2) H H'->Q (.str nm) H')
def rf:Sp:=λa H Q _=>P4 a H Q
inductive RM (vs:Β) (H:Hp) (Q:VK):Prop
 |mk (b:Δ) (word:Str) (c:Nat) (h1:vs=[.ref b,.str word]) (h2:NQ H b c) (h3:c<100000000) (h4:∀nm H',Oj b (c+1) H H'->Zq nm->Q (.str nm) H')
def uN:Sp:=λa H Q _=>RM a H Q
section
variable{K:ι}{CB CD:Δ}{k:Λ}{H H':Hp}{a:Ha}{S:Hs}{b:Δ}{n c:Nat}
theorem MP.grc(h:MP K CB CD k H a S)(hb:NQ H b n)(nb:b∉hF a)(g:Oj b c H H'):MP K CB CD k H' a S:=h.mv g.mv (aT hb) λz d q=>nb (by rw[Jg.mp q]at d;exact d)
theorem Hm.dn{m:Nat}(h:Hm m S):S.dn.length<=m:=by unfold Hs.dn;rw[Jb];exact h.dl
end
section
variable{K:ι}{CB CD C:Δ}{H H' H'':Hp}{aH aO aH' aO':Ha}{S:Hs}{b:Δ}{c c' m:Nat}
theorem Rb.same(s:Rb H aH aO H' aH' aO')(e:MM H' H''):Rb H aH aO H'' aH' aO':=#[s.m.trans e.mv,s.gH,s.gO,s.mH,s.mO]
theorem W2.grc(w:W2 K CB CD C H aH aO S)(hb:NQ H b c)(nb:b∉hF aH++hF aO)(g:Oj b c' H H'):W2 K CB CD C H' aH aO S:=
 #[w.hh.grc hb (λq=>nb (Jv.mpr (.inl q))) g,w.oo.grc hb (λq=>nb (Jv.mpr (.inr q))) g,w.dj]
end
structure Hb(K:ι)(CB CD C:Δ)(H Hx:Hp)(b:Δ)(c:Nat)(aH aO:Ha)(S:Hs)(m:Nat):Prop where
 s:MM H Hx
 bx:NQ Hx b c
 w:W2 K CB CD C Hx aH aO S
 hm:Hm m S
 nb:b∉hF aH++hF aO
 fb:H b=none
 fr:∀z∈hF aH++hF aO,H z=none
section
variable{K:ι}{CB CD C:Δ}{H Hx Hy:Hp}{aH aO:Ha}{S:Hs}{b b':Δ}{c c' m m':Nat}
theorem Hb.mono(h:Hb K CB CD C H Hx b c aH aO S m)(l:c<=c')(a:m<=m'):Hb K CB CD C H Hx b c' aH aO S m':=#[h.s,h.bx.mono l,h.w,h.hm.mono a,h.nb,h.fb,h.fr]
theorem Hb.grc(h:Hb K CB CD C H Hx b c aH aO S m)(g:Oj b c' Hx Hy):Hb K CB CD C H Hy b c' aH aO S m:=
 #[λp o e=>g.kp _ _ (qr e h.fb) (h.s _ _ e),g.bx,h.w.grc h.bx h.nb g,h.hm,h.nb,h.fb,h.fr]
theorem Hb.same(h:Hb K CB CD C H Hx b c aH aO S m)(s:MM Hx Hy):Hb K CB CD C H Hy b c aH aO S m:=#[h.s.trans s,(s.grc h.bx).bx,h.w.same s,h.hm,h.nb,h.fb,h.fr]
theorem Hb.live(h:Hb K CB CD C H Hx b c aH aO S m){z:Δ}(a:z∈hF aH++hF aO):Hx z≠none:=by
 rcases Jv.mp a with q|q
 ·exact h.w.hh.at_.live q
 ·exact h.w.oo.at_.live q
theorem Hb.rebox(h:Hb K CB CD C H Hx b c aH aO S m)(s:MM Hx Hy)(f:Hx b'=none)(a:NQ Hy b' c'):Hb K CB CD C H Hy b' c' aH aO S m:=
 #[h.s.trans s,a,h.w.same s,h.hm,λq=>h.live q f,QK f h.s,h.fr]
theorem Hb.nO(h:Hb K CB CD C H Hx b c aH aO S m):b∉hF aO:=λq=>h.nb (Jv.mpr (.inr q))
end
theorem FW{t ks:Ε}(pt:t.Perm Nt)(c:ks.length<=8):Hm 0 (kP t ks):=
 #[#[pt,Je _,(by decide:(1:Nat)<=8),λk hk=>by rw[Jg.mp hk];exact c,Lb _,(by decide:(0:Int)<1),(λy a=>nomatch a),(λy a=>nomatch a),(λy a=>nomatch a),Je _,Je _,Je _,Ld,Ld],Je _,Je _]
section
variable{K:ι}{CB CD C:Δ}{x:Xa}
theorem Gy:∀d H Q E,jf K CB CD C d H Q E->c8 K CB CD C x d H Q E0:=by
 rintro d H Q E ⟨a,S,nm,i,y,e,h,ix,f,q⟩
 exact#[a,S,nm,e,h,λz=>by(rw[ix]at z;cases z),λg y' z c=>by
  rw[ix]at z;cases z
  rw[f]at c;cases c
  exact q]
theorem GR:∀d H Q E,tO K CB CD C d H Q E->dw K CB CD C x d H Q E0:=by
 rintro d H Q E ⟨a,S,nm,i,y,e,h,ix,f,q⟩
 exact#[a,S,nm,e,h,λz=>by(rw[ix]at z;cases z),λg y' z c=>by
  rw[ix]at z;cases z
  rw[f]at c;cases c
  exact q]
theorem FT:∀a H Q E,jz K CB a H Q E->gp K CB x a H Q E0:=by
 rintro a H Q E ⟨p,ta,ka,ce,B,d,e,g,h,c,i,j,f,q⟩
 exact#[p,ta,ka,ce,B,d,e,g,h,c,i,f,λz=>absurd z (by omega),λ_=>q]
end
section
variable{S:Hs}{k:Nat}{is:Μ}
theorem kB{m i:Nat}{y:Dh}{P:Ps}(h1:is[m]? =↑i)(h2:(MZ S k is m).1.ds[i]? =↑y)(a:(MZ S k is m).1.kp[k]? =↑P):
  MZ S k is (m+1)=((MZ S k is m).1.setD i (QX y P k),(MZ S k is m).2++[(qX y.D P).1]):=by
 conv=>lhs;unfold MZ
 simp only[h1,h2,a]
theorem a8(S:Hs)(k:Nat)(is:Μ):∀m,(MZ S k is m).1.ds.length=S.ds.length/\(MZ S k is m).1.bs=S.bs/\(MZ S k is m).1.kp=S.kp/\(MZ S k is m).1.dn=S.dn
 |0=>#[Z,Z,Z,Z]
 |m+1=>by
  obtain⟨i1,i2,c,a⟩:=a8 S k is m;unfold MZ;split
  ·exact#[i1,i2,c,a]
  ·split
   ·rename_i y P d e
    exact#[by show(List.set _ _ _).length=_;rw[IE];exact i1,i2,c,(show((MZ S k is m).1.setD _ (QX y P k)).dn=(MZ S k is m).1.dn from Qg d Z).trans a]
   ·exact#[i1,i2,c,a]
theorem n0(S:Hs)(k:Nat)(is:Μ):∀m,∀a∈(MZ S k is m).2,a.length<=3/\∀v∈a,jc v
 |0=>λa h=>nomatch h
 |m+1=>by
  have c:=n0 S k is m;unfold MZ;split
  ·exact c
  ·split
   ·intro a h
    rcases Jv.mp h with h|h
    ·exact c a h
    ·rw[Jg.mp h];exact cC ..
   ·exact c
theorem mS(S:Hs)(k:Nat)(is:Μ):∀m,(MZ S k is m).2.length<=m
 |0=>Je _
 |m+1=>by
  have a:=mS S k is m;unfold MZ;split
  ·exact Lc a
  ·split
   ·show((MZ S k is m).2++[_]).length<=m+1
    rw[Jo];exact F0 a
   ·exact Lc a
end
section
variable{l:Α}{nm:Str}
theorem jB:∀{ms:Α},nm∈ms->qP l nm=none->Qq l ms=none
 | [],h,_=>nomatch h
 |m::r,h,hn=>by
  unfold Qq;rcases Ji.mp h with rfl|h
  ·rw[hn]
  ·rw[jB h hn]
   cases qP l m<;>rfl
theorem ij:∀{ms:Α},(∀z∈ms,qP l z≠none)->∃is,Qq l ms=↑is
 | [],_=>#[[],Z]
 |m::r,h=>by
  obtain⟨q,a⟩:=ij (ms:=r) λz c=>h z (JC _ c)
  cases e:qP l m with
  |none=>exact absurd e (h m JB)
  |some i=>exact#[i::q,by unfold Qq;rw[e,a]]
theorem jA:∀{ms:Α} {is:Μ} {j:Nat},Qq l ms=↑is->ms[j]? =↑nm->∃i,is[j]? =↑i/\qP l nm=↑i
 | [],_,j,_,h=>by cases h
 |m::r,is,j,h,hj=>by
  unfold Qq at h;cases e:qP l m with
  |none=>rw[e]at h;cases h
  |some i=>
   cases e2:Qq l r with
   |none=>rw[e,e2]at h;cases h
   |some q=>
    rw[e,e2]at h;cases h;cases j with
    |zero=>cases hj;exact#[i,Z,e]
    |succ j=>exact jA (ms:=r) (j:=j) e2 hj
end
def ai(S:Hs)(j:Nat)(B:Bt)(deed:Int)(ds:Α):Nr:=match Qq S.dn ds with
 |none=> .ref .unknown
 |some is=>if 4096<=B.cnt then .ref .worn else .ok (MZ (qY S j B deed) S.kp.length is is.length).1 (.num S.kp.length (MZ (qY S j B deed) S.kp.length is is.length).2)
section
variable{S S':Hs}{b dn:Str}{j i:Nat}{B:Bt}{y:Dh}{deed k:Int}{ds:Α}{d:Hd}{o:OU}
theorem mV(c:qP S.bn b=↑j)(a:S.bs[j]? =↑B):Qa S (.press b deed ds)=ai S j B deed ds:=by
 show(match Qq S.dn ds with
  |none=>Nr.ref .unknown
  |some is=>bb S b λj B=>if 4096<=B.cnt then .ref .worn else .ok (MZ (qY S j B deed) S.kp.length is is.length).1 (.num S.kp.length (MZ (qY S j B deed) S.kp.length is is.length).2))=_
 unfold ai;cases Qq S.dn ds with
 |none=>rfl
 |some is=>exact cw c a
theorem jV(h:qP S.bn b=none):Qa S (.press b deed ds)= .ref .unknown:=by
 show(match Qq S.dn ds with
  |none=>Nr.ref .unknown
  |some is=>bb S b λj B=>if 4096<=B.cnt then .ref .worn else .ok (MZ (qY S j B deed) S.kp.length is is.length).1 (.num S.kp.length (MZ (qY S j B deed) S.kp.length is is.length).2))=_
 cases Qq S.dn ds with
 |none=>rfl
 |some is=>exact bh h
def kM(S:Hs)(i:Nat)(y:Dh)(k:Int):Nr:=match S.kp[k.toNat]? with
 |none=> .ref (.badp k)
 |some P=>if k<0 then .ref (.badp k)else .ok (S.setD i (QX y P k.toNat)) (.ans (qX y.D P).1)
theorem sC(h:¬(0<=k/\k<S.kp.length)):kM S i y k= .ref (.badp k):=by
 unfold kM
 by_cases a:k<0
 ·cases S.kp[k.toNat]? with
  |none=>rfl
  |some P=>exact Jd a
 ·rw[LN (by lia)]
theorem p8{P:Ps}(c:0<=k)(a:S.kp[k.toNat]? =↑P):kM S i y k= .ok (S.setD i (QX y P k.toNat)) (.ans (qX y.D P).1):=by
 unfold kM;rw[a];exact Jc (by lia)
theorem sN(hi:qP S.dn dn=↑i)(a:S.ds[i]? =↑y):Qa S (.play k dn)=kM S i y k:=ln hi a
def Gg(d:Hd):OU->Prop
 | .non=>True
 | .num _ as=>(∀l∈as,l.length<=3/\∀v∈l,jc v)/\(OP d->as.length<=1000)
 | .ans as=>as.length<=3/\∀v∈as,jc v
theorem gQ(e:Qa S d= .ok S' o):S.ds.length<=S'.ds.length/\S'.ds.length<=S.ds.length+1/\S'.bs.length<=S.bs.length+1/\Gg d o:=by
 cases d with
 |addD nm near far most=>
  simp only[Qa]at e;split at e<;>cases e
  exact#[by simp,by simp,by simp,trivial]
 |addB nm step=>
  simp only[Qa]at e;split at e<;>cases e
  exact#[by simp,by simp,by simp,trivial]
 |teach dn bn=>
  obtain⟨i,y,_,_,e⟩:=ei e;obtain⟨j,B,_,_,e⟩:=ZI e;unfold iw at e;split at e
  ·repeat (split at e;cases e)
   cases e
   exact#[by simp [Hs.setD,qY,Hs.setB],by simp [Hs.setD,qY,Hs.setB],by simp [Hs.setD,qY,Hs.setB],trivial]
  ·cases e
 |turnH ks=>
  simp only[Qa]at e;split at e<;>cases e
  exact#[by simp,by simp,by simp,trivial]
 |close age=>
  simp only[Qa]at e;split at e<;>cases e
  exact#[by simp,by simp,by simp,trivial]
 |press b deed ds=>
  simp only[Qa]at e;split at e
  ·cases e
  ·rename_i is g
   obtain⟨j,B,_,_,e⟩:=ZI e;split at e<;>cases e
   obtain⟨h1,a,_,_⟩:=a8 (qY S j B deed) S.kp.length is is.length
   refine#[by rw[h1];exact Je _,by rw[h1];exact JW _,by rw[a];simp [qY,Hs.setB],λl c=>n0 _ _ _ _ l c,λf=>?_]
   have m:=mS (qY S j B deed) S.kp.length is is.length;have h:=bv g;have n:=f.ok.2;lia
 |play k dn=>
  obtain⟨i,y,_,_,e⟩:=ei e;split at e
  ·cases e
  ·split at e<;>cases e
   exact#[by simp [Hs.setD],by simp [Hs.setD],by simp [Hs.setD],cC ..]
 |lose b=>obtain⟨j,B,_,_,e⟩:=ZI e;cases e;exact#[by simp [Hs.setB],by simp [Hs.setB],by simp [Hs.setB],trivial]
 |tear b=>obtain⟨j,B,_,_,e⟩:=ZI e;cases e;exact#[by simp [Hs.setB],by simp [Hs.setB],by simp [Hs.setB],trivial]
 |turnB b=>
  obtain⟨j,B,_,_,e⟩:=ZI e;split at e<;>cases e
  exact#[by simp [Hs.setB],by simp [Hs.setB],by simp [Hs.setB],trivial]
 |forget dn bn=>
  obtain⟨i,y,_,_,e⟩:=ei e;split at e<;>cases e
  exact#[by simp [Hs.setD],by simp [Hs.setD],by simp [Hs.setD],trivial]
end
theorem Hm.nxtH{m:Nat}{S:Hs}{d:Hd}(h:Hm m S)(hd:OP d):Hm (m+1) (fq S (Qa S d)):=by
 cases e:Qa S d with
 |ref r=>exact h.mono (JW m)
 |ok S' o=>
  obtain⟨_,c,a,_⟩:=gQ e
  have:=h.dl
  have:=h.bl
  exact#[(FU h.ok hd e).mono (by lia),by show S'.ds.length<=m+1;lia,by show S'.bs.length<=m+1;lia]
theorem Os.mv{Z:Η}{H H':Hp}{v:V}{o:OU}(h:Os H v o)(m:Mv Z H H')(nt:NT Z H):Os H' v o:=by
 cases o with
 |non=>exact h
 |num k as=>
  obtain⟨q,t,xs,e,h1,a,c,d⟩:=h
  exact#[q,t,xs,e,m.tup nt h1,m.tup nt a,c,λi x l f g=>m.tup nt (d i x l f g)]
 |ans as=>
  obtain⟨q,e,h1⟩:=h
  exact#[q,e,m.tup nt h1]
theorem R6.mvH{Z:Η}{H H':Hp}{l:Δ}{r:Nr}(h:R6 H l r)(m:Mv Z H H')(nt:NT Z H):R6 H' l r:=by
 cases r with
 |ref r=>exact m.tup nt h
 |ok S' o=>
  obtain⟨v,h1,a⟩:=h
  exact#[v,m.tup nt h1,a.mv m nt]
theorem R6.eqvH{H:Hp}{q B:Δ}{S:Hs}{d:Hd}(h1:R6 H q (Qa S d))(h2:R6 H B (Qa S d))(hd:OP d):OA H 4 (.ref q) (.ref B):=by
 cases e:Qa S d with
 |ref r=>
  rw[e]at h1 h2;refine .tup (.inl h1) (.inl h2) Z (by show 3<=ζ;decide) λi x y ex c=>?_
  match i,ex,c with
  |0,ex,c=>cases ex;cases c;exact .str _ _
  |1,ex,c=>cases ex;cases c;exact .str _ _
  |2,ex,c=>
   cases ex;cases c
   cases r<;>constructor
  |i+3,ex,c=>cases ex
 |ok S' o=>
  rw[e]at h1 h2;have g:=(gQ e).2.2.2;obtain⟨v,C,h⟩:=h1;obtain⟨u,K,l⟩:=h2;refine .tup (.inl C) (.inl K) Z (by show 2<=ζ;decide) λi x y ex c=>?_
  match i,ex,c with
  |0,ex,c=>cases ex;cases c;exact .str _ _
  |i+2,ex,c=>cases ex
  |1,ex,c=>
   cases ex;cases c
   cases o with
   |non=>
    have h:v= .non:=h
    have l:u= .non:=l
    subst h l;exact .non _
   |ans as=>
    obtain⟨a,rfl,w⟩:=h;obtain⟨b,rfl,p⟩:=l;exact ui w p g.1 g.2
   |num k as=>
    have L:=g.2 hd;have g:=g.1;obtain⟨a,t,xs,rfl,w,I,m,D⟩:=h;obtain⟨b,s,ys,rfl,p,G,E,J⟩:=l;refine .tup (n:=2) (.inl w) (.inl p) Z (by show 2<=ζ;decide) λi x y ex c=>?_
    match i,ex,c with
    |0,ex,c=>cases ex;cases c;exact .int _ _
    |i+2,ex,c=>cases ex
    |1,ex,c=>
     cases ex;cases c
     refine .tup (n:=1) (.inl I) (.inl G) (by rw[Jb,Jb,m,E]) (by rw[Jb,m,Jn];lia) λi x y ex c=>?_
     rw[Jm]at ex c;obtain⟨F,j,rfl⟩:=JV.mp ex;obtain⟨y',z,rfl⟩:=JV.mp c;have hi:i<as.length:=by rw[<- m];exact(Jt.mp j).1
     have f:=Jk hi;have A:=g _ (Jp f);exact ui (D i F _ j f) (J i y' _ z f) A.1 A.2
def OQ(Z:Η)(H:Hp)(l:Δ):Hd->Prop
 | .press b deed ds=>∃p,H l=↑(.tup [.str "press_button",.str b,.int deed,.ref p])/\Sq [] H p (ds.map V.str)/\p∉Z
 |d=>GQ H l d
theorem OQ.sub{Z Z':Η}{H:Hp}{l:Δ}{d:Hd}(h:OQ Z H l d)(s:∀z∈Z',z∈Z):OQ Z' H l d:=by
 cases d with
 |press b deed ds=>obtain⟨p,h1,c,a⟩:=h;exact#[p,h1,c,λq=>a (s p q)]
 |_=>exact h
theorem eG{Z:Η}{H H':Hp}{p:Δ}{xs:Β}(h:Sq [] H p xs)(m:Mv Z H H')(nt:NT Z H)(hp:p∉Z):Sq [] H' p xs:=by
 rcases h with h|h
 ·rcases h with h|h
  ·rcases h with h|⟨o,h⟩
   ·exact .inl (.inl (.inl (m _ _ hp h)))
   ·exact .inl (.inl (.inr #[o,m _ _ hp h]))
  ·exact .inl (.inr h)
 ·exact .inr (m.sqt nt h)
theorem OQ.mv{Z Z':Η}{H H':Hp}{l:Δ}{d:Hd}(h:OQ Z H l d)(m:Mv Z' H H')(nt:NT Z' H)(s:∀z∈Z',z∈Z):OQ Z H' l d:=by
 cases d with
 |press b deed ds=>obtain⟨p,h1,a,c⟩:=h;exact#[p,m.tup nt h1,eG a m nt (λq=>c (s p q)),c]
 |turnH ks=>obtain⟨p,h1,a⟩:=h;exact#[p,m.tup nt h1,m.tup nt a]
 |addD=>exact m.tup nt h
 |addB=>exact m.tup nt h
 |teach=>exact m.tup nt h
 |close=>exact m.tup nt h
 |play=>exact m.tup nt h
 |lose=>exact m.tup nt h
 |tear=>exact m.tup nt h
 |turnB=>exact m.tup nt h
 |forget=>exact m.tup nt h
theorem OQ.same{Z:Η}{H H':Hp}{l:Δ}{d:Hd}(h:OQ Z H l d)(s:MM H H'):OQ Z H' l d:=h.mv (Z':=[]) s.mv i9 (λ_ h=>nomatch h)
theorem kS(D:Dr)(P:Ps):∃(w:Str) (r:Β),(qX D P).1= .str w::r:=by
 unfold qX Qr;split
 ·exact#[_,_,Z]
 ·split
  ·split
   ·exact#[_,_,Z]
   ·split<;>exact#[_,_,Z]
  ·exact#[_,_,Z]
section
variable{K:ι}{CB CD:Δ}{kk:Λ}{H H1:Hp}{a:Ha}{S:Hs}{i k:Nat}{z:NX}{y:Dh}{P:Ps}
theorem wU{c a:Dh}:(S.setD i c).setD i a=S.setD i a:=by
 show({S with ds:=(S.ds.set i c).set i a}:Hs)={S with ds:=S.ds.set i a}
 rw[List.set_set]
theorem MP.heard(h:MP K CB CD kk H a S)(hi:a.ds[i]? =↑z)(f:S.ds[i]? =↑y)(m:Mv [z.a.bd,z.a.lg] H H1)(d:Nk K CD H1 z.a {y.D with kn:=(qX y.D P).2} (y.L++[.hear P (qX y.D P).1])):
  (im (qX y.D P).1=false->MP K CB CD kk H1 a (S.setD i (QX y P k)))/\
  (im (qX y.D P).1=true->Nd H1 a.od (.str y.nm) ↑(.ref z.ol)->mL H1 z.ol y.op/\MP K CB CD kk (MO H1 z.ol (.lst ((y.op++[k]).map λn:Nat=>V.int (n:Int)))) a (S.setD i (QX y P k))):=by
 have h1:=h.door hi f (fO m) d;have j:i<S.ds.length:=(Jt.mp f).1
 have c:(S.setD i {y with D:={y.D with kn:=(qX y.D P).2},L:=y.L++[.hear P (qX y.D P).1]}).ds[i]? =some {y with D:={y.D with kn:=(qX y.D P).2},L:=y.L++[.hear P (qX y.D P).1]}:=by
  show(S.ds.set i _)[i]? =_
  rw[List.getElem?_set,Jd Z,Jd j]
 refine#[λe=>?_,λe _=>?_]
 ·have:QX y P k={y with D:={y.D with kn:=(qX y.D P).2},L:=y.L++[.hear P (qX y.D P).1]}:=by
   unfold QX;rw[e];rfl
  rw[this];exact h1
 ·have:QX y P k={y with D:={y.D with kn:=(qX y.D P).2},L:=y.L++[.hear P (qX y.D P).1],op:=y.op++[k]}:=by
   unfold QX;rw[e];rfl
  rw[this];have g:=h1.opd (op':=y.op++[k]) hi c
  rw[wU]at g
  exact#[(h1.at_.de i z _ hi c).2,g]
end
section
variable(K:ι)(CB CD CH:Δ)(x:Xa)
inductive RN (kk:Λ) (vs:Β) (H:Hp) (Q:VK):Prop
 |mk (a:Ha) (S:Hs) (n:Nat) (nm:Str) (k i:Nat) (y:Dh) (P:Ps) (h1:vs=[.ref a.ma,.str nm,.int (k:Int)]) (h2:MP K CB CD kk H a S) (h3:M4 n S) (h4:n<=990000) (h5:qP S.dn nm=↑i) (h6:S.ds[i]? =↑y) (h7:S.kp[k]? =↑P) (h8:∀q H',Mv (hF a) H H'->MP K CB CD kk H' a (S.setD i (QX y P k))->H' q=↑(.tup (qX y.D P).1)->Q (.ref q) H')
def bV(kk:Λ):Sp:=λa H Q _=>RN K CB CD kk a H Q
inductive P5 (vs:Β) (H:Hp) (Q:VK) (E:XK):Prop
 |mk (a:Ha) (S:Hs) (n:Nat) (b:Str) (deed:Int) (p:Δ) (ds:Α) (h1:vs=[.ref a.ma,.str b,.int deed,.ref p]) (h2:MP K CB CD ↑CH H a S) (h3:M4 n S) (h4:n<=900000) (h5:Sq [] H p (ds.map V.str)) (h6:p∉hF a) (h7:Zv deed) (h8:ds.length<=5) (h9:Ra K CB CD ↑CH x H a S (.press b deed ds) Q E)
def pH:Sp:=λa H Q E=>P5 K CB CD CH x a H Q E
inductive RO (vs:Β) (H:Hp) (Q:VK) (E:XK):Prop
 |mk (a:Ha) (S:Hs) (n:Nat) (k:Int) (d:Str) (h1:vs=[.ref a.ma,.int k,.str d]) (h2:MP K CB CD ↑CH H a S) (h3:M4 n S) (h4:n<=900000) (h5: -10000000<k) (h6:k<10000000) (h7:Ra K CB CD ↑CH x H a S (.play k d) Q E)
def uF:Sp:=λa H Q E=>RO K CB CD CH x a H Q E
inductive RP (vs:Β) (H:Hp) (Q:VK) (E:XK):Prop
 |mk (a:Ha) (S:Hs) (n:Nat) (b:Str) (h1:vs=[.ref a.ma,.str b]) (h2:MP K CB CD ↑CH H a S) (h3:M4 n S) (h4:n<=900000) (h5:Ra K CB CD ↑CH x H a S (.lose b) Q E)
def tU:Sp:=λa H Q E=>RP K CB CD CH x a H Q E
inductive RQ (vs:Β) (H:Hp) (Q:VK) (E:XK):Prop
 |mk (a:Ha) (S:Hs) (n:Nat) (b:Str) (h1:vs=[.ref a.ma,.str b]) (h2:MP K CB CD ↑CH H a S) (h3:M4 n S) (h4:n<=900000) (h5:Ra K CB CD ↑CH x H a S (.tear b) Q E)
def tI:Sp:=λa H Q E=>RQ K CB CD CH x a H Q E
inductive O1 (vs:Β) (H:Hp) (Q:VK):Prop
 |mk (a:Ha) (S:Hs) (n j:Nat) (u:Og) (B:Bt) (deed:Int) (p:Δ) (ds:Α) (h1:vs=[.ref a.ma,.ref u.p,.int deed,.ref p]) (h2:MP K CB CD none H a S) (h3:M4 n S) (h4:n<=900000) (h5:a.bs[j]? =↑u) (h6:S.bs[j]? =↑B) (h7:Sq [] H p (ds.map V.str)) (h8:p∉hF a) (h9:Zv deed) (h10:ds.length<=5) (h11:Ot K CB CD H a S (ai S j B deed ds) Q)
def kh:Sp:=λa H Q _=>O1 K CB CD a H Q
end
end L3
namespace L3
open PySem PySem.Spec PySem.Calls PyProof.Rows L2
def Fi(te:TE):TE:=λσ H Q=>te σ H λv H1=>∃n:Int,n.natAbs<4611686018427387904/\v= .int n/\∀z,Q (.str z) H1
theorem AG{X:Cx}{z:Str}{e:Φ}{te:TE}{j:Nat}{d p2 pos:Pos}(w:z.length<=100)(he:QE X e te):QE X (.JoinedStr [.Constant (.str z) j d,.FormattedValue e (-1) none p2] pos) (Fi te):=#[by
 intro tx s σ H Q I h;refine wpAny_JoinedStr ?_
 show ε _ _ (eval (.Constant (.str z) j d) X.env) _ _ _
 refine qF ((qj (X:=X) (x:=z) (j:=j) (pos:=d)).h tx s σ H (λv H'=>v= .str z/\H'=H) I #[Z,Z]) λv m c=>?_
 obtain⟨x,H1,o,f,ex,r⟩:=c;subst ex r;obtain⟨t,rfl⟩:=f;refine#[z,t,Z,?_,?_]
 ·rw[LV]
  show 0+z.length<=ζ
  rw[Jn];lia
 show ε _ _ (eval (.FormattedValue e (-1) none p2) X.env) _ _ _
 refine wpAny_FormattedValue_plain (qF (he.h tx m σ H1 _ o h) λv A c=>?_)
 obtain⟨x,u,l,f,n,p,ex,q⟩:=c;subst ex;obtain⟨y,rfl⟩:=f;have a:n.natAbs.log2<1920:=by
  by_cases i:n.natAbs=0
  ·rw[i];decide
  ·exact Nat.lt_trans ((Nat.log2_lt i).mpr (show n.natAbs<2 ^ 62 from p)) ⋯
 have g:=PyProof.Rows.int_text_len_1921 a;refine wpAny_formatField_int a #[_,_,Z,?_,?_]
 ·rw[LV,LV]
  show 0+z.length+(Str.ofString (toString n)).length<=ζ
  rw[Jn];lia
 ·refine#[?_,#[.str _,u,l.tok _,#[_,Z],q _]]
  rw[LV,LV]
  show 0+z.length+(Str.ofString (toString n)).length<=ζ
  rw[Jn];lia]
inductive P6 (C:Δ) (f:Str) (vs:Β) (H:Hp) (Q:VK):Prop
 |mk (e:Δ) (n:Int) (h1:vs=[.ref e,.int n]) (h2:n.natAbs<4611686018427387904) (h3:H e=↑(OH e (.ref C) none)) (h4:∀d,H d=none->Q .non (MO (MO H d (.xd [(f,.int n)])) e (OH e (.ref C) ↑d)))
def eN(C:Δ)(f:Str):Sp:=λa H Q _=>P6 C f a H Q
def zc:Hd->Str
 | .addD .. =>"add_door"
 | .addB .. =>"add_button"
 | .teach .. =>"teach"
 | .press .. =>"press_button"
 | .play .. =>"play_kept"
 | .lose .. =>"lose_cell"
 | .tear .. =>"tear_cell"
 | .turnH .. =>"turn_house"
 | .turnB .. =>"turn_button"
 | .close .. =>"close_ages"
 | .forget .. =>"forget_at"
theorem Hm.lt{m:Nat}{S:Hs}(h:Hm m S)(l:m<64):S.ds.length<64/\S.bs.length<64/\m<=9000:=#[Nat.lt_of_le_of_lt h.dl l,Nat.lt_of_le_of_lt h.bl l,by lia]
def sO:Hd->Prop
 | .play k _=> -10000000<k/\k<10000000
 |_=>True
section
variable(K:ι)(CB CD CH:Δ)(x:Xa)(ws:Α)
inductive R9 (vs:Β) (H:Hp) (Q:VK):Prop
 |mk (a:Ha) (S:Hs) (n:Nat) (l:Δ) (d:Hd) (h1:vs=[.ref a.ma,.ref l]) (h2:MP K CB CD none H a S) (h3:M4 n S) (h4:n<=900000) (h5:OQ (hF a) H l d) (h6:OP d) (h7:sO d) (h8:zc d∈ws) (h9:Ot K CB CD H a S (Qa S d) Q)
def pU:Sp:=λa H Q _=>R9 K CB CD ws a H Q
inductive Pt (vs:Β) (H:Hp) (Q:VK) (E:XK):Prop
 |mk (a:Ha) (S:Hs) (n:Nat) (l:Δ) (d:Hd) (h1:vs=[.ref a.ma,.ref l]) (h2:MP K CB CD ↑CH H a S) (h3:M4 n S) (h4:n<=900000) (h5:OQ (hF a) H l d) (h6:OP d) (h7:sO d) (h8:zc d∈ws) (h9:Ra K CB CD ↑CH x H a S d Q E)
def nJ:Sp:=λa H Q E=>Pt K CB CD CH x ws a H Q E
inductive Sa (vs:Β) (H:Hp) (Q:VK):Prop
 |mk (a:Ha) (S:Hs) (n:Nat) (l:Δ) (d:Hd) (h1:vs=[.ref a.ma,.ref l]) (h2:MP K CB CD ↑CH H a S) (h3:M4 n S) (h4:n<=900000) (h5:OQ (hF a) H l d) (h6:OP d) (h7:sO d) (h8:zc d∈ws) (h9:∀q a' H',Mv (hF a) H H'->Om H a a'->a'.ma=a.ma->MP K CB CD ↑CH H' a' (fq S (Qa S d))->R6 H' q (Qa S d)->Q (.ref q) H')
def rY:Sp:=λa H Q _=>Sa K CB CD CH ws a H Q
inductive RR (vs:Β) (H:Hp) (Q:VK):Prop
 |mk (b wl:Δ) (a:Ha) (S:Hs) (m c:Nat) (us:Α) (h1:vs=[.ref b,.ref a.ma,.ref wl]) (h2:NQ H b c) (h3:c<90000000) (h4:b∉hF a) (h5:MP K CB CD none H a S) (h6:Hm m S) (h7:S.ds.length<64/\S.bs.length<64/\m<=9000) (h8:H wl=↑(.lst (us.map V.str))) (h9:wl≠b) (h10:1<=us.length) (h11:us.length<=20) (h12:(∀z∈us,z∈ws)) (h13:∀l d H',Oj b (c+20) H H'->(∀Z,(∀z∈Z,H z≠none)->OQ Z H' l d)->OP d->sO d->zc d∈us->Q (.ref l) H')
def lA:Sp:=λa H Q _=>RR K CB CD ws a H Q
inductive P7 (vs:Β) (H:Hp) (Q:VK):Prop
 |mk (aH aO:Ha) (S:Hs) (m:Nat) (l:Δ) (d:Hd) (h1:vs=[.ref aH.ma,.ref aO.ma,.ref l]) (h2:W2 K CB CD CH H aH aO S) (h3:Hm m S) (h4:m<=9000) (h5:OQ (hF aH++hF aO) H l d) (h6:OP d) (h7:sO d) (h8:zc d∈ws) (h9:∀aH' aO' H',Rb H aH aO H' aH' aO'->W2 K CB CD CH H' aH' aO' (fq S (Qa S d))->Q (.bl true) H')
def rC:Sp:=λa H Q _=>P7 K CB CD CH ws a H Q
end
section
variable{K:ι}{CB CD C:Δ}{H Hx Hy:Hp}{aH aO aH' aO':Ha}{S:Hs}{b:Δ}{c m:Nat}{d:Hd}
theorem Hb.stepH(h:Hb K CB CD C H Hx b c aH aO S m)(hd:OP d)(st:Rb Hx aH aO Hy aH' aO')(w:W2 K CB CD C Hy aH' aO' (fq S (Qa S d))):Hb K CB CD C H Hy b c aH' aO' (fq S (Qa S d)) (m+1):=by
 obtain⟨n,k,j,e,r⟩:=h.bx;refine#[λp o e=>st.m _ _ (λq=>by rw[h.fr p q]at e;cases e) (h.s _ _ e),#[n,k,j,st.m _ _ h.nb e,r],w,h.hm.nxtH hd,st.free e h.nb,h.fb,λz a=>?_]
 have g:z∈hF aH++hF aO\/Hx z=none:=by
  rcases Jv.mp a with q|q
  ·exact st.gH z q
  ·exact st.gO z q
 rcases g with g|g
 ·exact h.fr z g
 ·exact QK g h.s
theorem Hb.dez(h:Hb K CB CD C H Hx b c aH aO S m){l:Δ}(a:∀Z,(∀z∈Z,Hx z≠none)->OQ Z Hy l d):OQ (hF aH++hF aO) Hy l d:=a _ λz a=>h.live a
end
end L3
namespace L3
open PySem PySem.Spec PyProof.Rows L2
section
variable{K:ι}{H H':Hp}{a:Δ}{xs:Β}
def Py(H:Hp)(a:Δ)(H':Hp):Prop:=∃Z,Mv Z H H'/\NT Z H/\a∉Z
theorem Py.refl:Py H a H:=#[[],λ_ _ _ e=>e,i9,λh=>nomatch h]
theorem Py.sql(s:Py H a H')(h:MV [] H a xs):MV K H' a xs:=by
 obtain⟨Z,m,nt,c⟩:=s;rcases h with(h|⟨o,h⟩)|⟨o,d,n,h,_⟩
 ·exact .inl (.inl (m _ _ c h))
 ·exact .inl (.inr #[o,m _ _ c h])
 ·cases h
theorem Py.sqt(s:Py H a H')(h:MW [] H a xs):MW K H' a xs:=by
 obtain⟨Z,m,nt,d⟩:=s;rcases h with h|⟨o,c,n,h,_⟩
 ·exact .inl (m.rd nt h)
 ·cases h
theorem jj{js:Μ}{te:TE}{σ:L2.St}{Q:VK}(c:Sq [] H a xs)(hn:xs.length<=ζ)(Pv:Nat->Β->Hp->Prop)(d:Pv 0 [] H)(ps:∀i ys H',Pv i ys H'->Py H a H')
  (hs:∀i ys H' x,xs[i]? =↑x->ys.length=i->Pv i ys H'->te (↑x::QD js σ) H' λv H3=>Pv (i+1) (ys++[v]) H3)
  (hd:∀ys H',ys.length=xs.length->Pv xs.length ys H'->∀p,H' p=none->Q (.ref p) (MO H' p (.lst ys))):((∃xs,MV K H a xs)/\a6 (iu K a) js te σ H Q)\/((∃xs,MW K H a xs)/\a6 (ib K a) js te σ H Q):=by
 rcases c with c|c
 ·exact .inl #[#[_,Py.refl.sql c],bj hn Pv d (λi ys H' p=>(ps i ys H' p).sql c) hs hd]
 ·exact .inr #[#[_,Py.refl.sqt c],eI hn Pv d (λi ys H' p=>(ps i ys H' p).sqt c) hs hd]
theorem Ek{g:TG}{tb:TS}{D:Nq}{σ:L2.St}(c:Sq [] H a xs)(Pv:Nat->L2.St->Hp->Prop)(e:Pv 0 σ H)(ps:∀i σ H',Pv i σ H'->Py H a H')
  (hs:∀i x σ H,xs[i]? =↑x->Pv i σ H->g x σ H λd h=>tb {D with nx:=Pv (i+1),ct:=Pv (i+1),bk:=D.nx} d h)(hd:∀σ H,Pv xs.length σ H->D.nx σ H){f:TI}(hw:f=AT K (λ_ H Q=>Q (.ref a) H)):BW f g tb D σ H:=by
 subst hw;refine#[a,Z,?_]
 rcases c with c|c
 ·exact .inl #[#[_,Py.refl.sql c],jH Pv e (λi σ H' _ p=>(ps i σ H' p).sql c) hs hd]
 ·exact .inr #[#[_,Py.refl.sqt c],iG Pv e (λi σ H' _ p=>(ps i σ H' p).sqt c) hs hd]
end
theorem FL{X:Cx}{o e:Φ}{pos:Pos}{td ty:TE}{k:Nat}(hr:M9 k X.A)(hi:QE X e ty)(ho:QE X o td)(h1:behindInMarks CmpOp.In o=false:=by rfl):QE X (.Compare e [.In] [o] pos) (Bc ty td):=#[ES (yn (by have:=hr.un;lia) hi.h ho.h) (h1:=h1)]
end L3
namespace Lw
open PySem L2 L3
theorem HR:0<=ζ:=by decide
theorem HS:1<=ζ:=by decide
theorem HU:2<=ζ:=by decide
theorem HV:3<=ζ:=by decide
theorem HW:4<=ζ:=by decide
theorem HX:5<=ζ:=by decide
theorem HY:6<=ζ:=by decide
theorem HZ:9<=ζ:=by decide
theorem MH:12<=ζ:=by decide
theorem MI:16<=ζ:=by decide
def qU(i:Nat):δ:=PySem.Challenge.pw_rollcode_k46_pressed_and_played.main.body.getD i (.Pass #[0,0,0,0])
abbrev cV:δ:=qU 13
abbrev eW:δ:=qU 14
abbrev cf:δ:=qU 15
abbrev bZ:δ:=qU 16
abbrev lW:δ:=qU 17
abbrev ii:δ:=qU 18
abbrev hV:δ:=qU 25
abbrev gL:δ:=qU 26
abbrev eM:δ:=qU 27
abbrev ar:δ:=qU 28
abbrev jM:δ:=qU 29
abbrev aX:δ:=qU 30
abbrev fB:δ:=qU 31
abbrev cp:δ:=qU 32
abbrev gR:δ:=qU 36
abbrev hW:δ:=qU 37
abbrev ZF:δ:=qL (qU 8) 0
abbrev ag:δ:=qL (qU 34) 0
abbrev ZX:δ:=qL (qU 34) 2
abbrev Q4:δ:=qL (qU 34) 3
abbrev Q6:δ:=qL (qU 34) 4
abbrev QR:δ:=qL (qU 34) 5
abbrev Q5:δ:=qL (qU 34) 1
abbrev Zx:δ:=qL (qU 34) 6
abbrev Q8:δ:=qL (qU 34) 7
abbrev Zi:δ:=qL (qU 34) 9
abbrev ZT:δ:=qL (qU 34) 10
abbrev Zc:δ:=qL (qU 34) 11
abbrev Zk:δ:=qL (qU 34) 12
abbrev Q1:δ:=qL (qU 39) 0
abbrev aS:δ:=qL (qU 39) 2
abbrev ZS:δ:=qL (qU 39) 8
abbrev ZR:δ:=qL (qU 39) 11
abbrev ZE:δ:=qL (qU 39) 10
abbrev ZB:δ:=qL (qU 39) 9
abbrev Z1:δ:=qL (qU 39) 7
abbrev cL:δ:=qL (qU 39) 6
abbrev Zw:δ:=qL (qU 39) 12
abbrev cy:δ:=qL (qU 39) 1
abbrev Zh:δ:=qL (qU 39) 5
abbrev ZU:δ:=qL (qU 39) 13
abbrev ao:δ:=qL (qU 39) 14
abbrev ZD:δ:=qL (qU 39) 15
abbrev Zo:δ:=qL (qU 39) 16
abbrev aP:δ:=qL (qU 39) 18
abbrev Z4:δ:=qL (qU 39) 19
abbrev aK:δ:=qL (qU 41) 0
abbrev Zd:δ:=qL (qU 41) 3
abbrev QZ:δ:=qL (qU 41) 4
abbrev ZY:δ:=qL (qU 41) 1
abbrev Zn:δ:=qL (qU 41) 2
abbrev Za:δ:=qL (qU 41) 7
abbrev bD:δ:=qL (qU 41) 5
abbrev ay:δ:=qL (qU 41) 8
abbrev QQ:δ:=qL (qU 41) 6
abbrev ZG:δ:=qL (qU 41) 9
abbrev ZC:δ:=qL (qU 41) 10
abbrev ZA:δ:=qL (qU 41) 11
abbrev ZP:δ:=qL (qU 41) 16
abbrev Ze:δ:=qL (qU 41) 17
abbrev ZV:δ:=qL (qU 41) 18
abbrev Zy:δ:=qL (qU 41) 19
abbrev hJ:δ:=qU 43
abbrev eD:δ:=qU 44
abbrev cT:δ:=qU 45
abbrev gK:δ:=qU 46
abbrev gW:δ:=qU 47
abbrev bC:δ:=qU 48
abbrev cJ:δ:=qU 49
abbrev cz:δ:=qU 50
abbrev aV:δ:=qU 51
abbrev bG:δ:=qU 52
abbrev aa:δ:=qU 54
abbrev gI:δ:=qU 55
abbrev cr:δ:=qU 56
abbrev cM:δ:=qU 57
abbrev gE:δ:=qU 58
abbrev bK:δ:=qU 60
abbrev cS:δ:=qU 59
abbrev aA:δ:=qU 61
abbrev aR:δ:=qU 62
abbrev e7:δ:=qU 63
abbrev cU:δ:=qU 64
abbrev cP:δ:=qU 65
abbrev bS:δ:=qU 66
theorem qT{N P:Α}{c:Scope}(h1:c.kind= .function:=by rfl)(h2:c.isCoroutine=false:=by rfl)(e:c.isGenerator=false:=by rfl)(a:N.Nodup:=by decide +kernel)(g:N.take P.length=P:=by rfl)(f:∀x∈P,c.names.lookup x=some .local\/c.names.lookup x=some .cell:=by decide +kernel)(d:∀y∈c.names,y.2≠ .free:=by decide +kernel):MN N P c:=#[h1,h2,e,a,g,f,d]
theorem pF:MN (["thing"]:Α) (["thing"]:Α) (ql cV):=qT
theorem sS:MN (["thing"]:Α) (["thing"]:Α) (ql eW):=qT
theorem oJ:MN (["things"]:Α) (["things"]:Α) (ql cf):=qT
theorem Ny:MN (["table","back","place","digit"]:Α) (["table"]:Α) (ql bZ):=qT
theorem Oa:MN (["table","key","digits","row","shift","place","ahead"]:Α) (["table","key","digits"]:Α) (ql lW):=qT
theorem Nv:MN (["table","key","digits","back","row","shift","place","ahead"]:Α) (["table","key","digits"]:Α) (ql ii):=qT
theorem uS:MN (["thing"]:Α) (["thing"]:Α) (ql hV):=qT
theorem vK:MN (["thing"]:Α) (["thing"]:Α) (ql gL):=qT
theorem NN:MN (["thing","name","age","code"]:Α) (["thing"]:Α) (ql eM):=qT
theorem Nl:MN (["name","digits","letter","place"]:Α) (["name"]:Α) (ql ar):=qT
theorem Oe:MN (["table","key","name","sums","place","digit"]:Α) (["table","key","name"]:Α) (ql jM):=qT
theorem kx:MN (["count"]:Α) (["count"]:Α) (ql aX):=qT
theorem Ob:MN (["table","key","name","age","count","deed","four","five"]:Α) (["table","key","name","age","count","deed"]:Α) (ql fB):=qT
theorem M5:MN (["table","key","press","name","age","code","low","middle","high","deed","check"]:Α) (["table","key","press"]:Α) (ql cp):=qT
theorem vC:MN (["count","last","near","far"]:Α) (["count","last","near","far"]:Α) (ql gR):=qT
theorem Nw:MN (["button","age","count","near","far","own_age","last","waiting","word"]:Α) (["button","age","count","near","far"]:Α) (ql hW):=qT
theorem gV:MN (["self","place"]:Α) (["self","place"]:Α) (ql ZF):=qT
theorem jy:MN (["self","name","table","key","age","step"]:Α) (["self","name","table","key","age","step"]:Α) (ql ag):=qT
theorem iS:MN (["self"]:Α) (["self"]:Α) (ql ZX):=qT
theorem fG:MN (["self"]:Α) (["self"]:Α) (ql Q4):=qT
theorem eU:MN (["self"]:Α) (["self"]:Α) (ql Q6):=qT
theorem Nu:MN (["self","spare"]:Α) (["self"]:Α) (ql QR):=qT
theorem NA:MN (["self","deed","press"]:Α) (["self","deed"]:Α) (ql Q5):=qT
theorem NK:MN (["self","greatest"]:Α) (["self"]:Α) (ql Zx):=qT
theorem gi:MN (["self"]:Α) (["self"]:Α) (ql Q8):=qT
theorem gc:MN (["self"]:Α) (["self"]:Α) (ql Zi):=qT
theorem iQ:MN (["self"]:Α) (["self"]:Α) (ql ZT):=qT
theorem ge:MN (["self"]:Α) (["self"]:Α) (ql Zc):=qT
theorem fX:MN (["self"]:Α) (["self"]:Α) (ql Zk):=qT
theorem lV:MN (["self","table","keys","near","far","most"]:Α) (["self","table","keys","near","far","most"]:Α) (ql Q1):=qT
theorem ke:MN (["self"]:Α) (["self"]:Α) (ql aS):=qT
theorem iX:MN (["self","name"]:Α) (["self","name"]:Α) (ql ZS):=qT
theorem iZ:MN (["self","age"]:Α) (["self","age"]:Α) (ql ZR):=qT
theorem gF:MN (["self","button","age"]:Α) (["self","button","age"]:Α) (ql ZE):=qT
theorem il:MN (["self","button","age","count"]:Α) (["self","button","age","count"]:Α) (ql ZB):=qT
theorem MX:MN (["self","press","name","age","code","button","pair","count","deed","word","behind"]:Α) (["self","press"]:Α) (ql Z1):=qT
theorem Ov:MN (["self","thing","answer"]:Α) (["self","thing"]:Α) (ql cL):=qT
theorem gw:MN (["self","thing"]:Α) (["self","thing"]:Α) (ql Zw):=qT
theorem Nf:MN (["self","one","other","first","second","name","age","code"]:Α) (["self","one","other"]:Α) (ql cy):=qT
theorem fY:MN (["self","age"]:Α) (["self","age"]:Α) (ql Zh):=qT
theorem iL:MN (["self"]:Α) (["self"]:Α) (ql ZU):=qT
theorem jn:MN (["self"]:Α) (["self"]:Α) (ql ao):=qT
theorem gs:MN (["self"]:Α) (["self"]:Α) (ql ZD):=qT
theorem fQ:MN (["self"]:Α) (["self"]:Α) (ql Zo):=qT
theorem jZ:MN (["self"]:Α) (["self"]:Α) (ql aP):=qT
theorem NO:MN (["self","twin"]:Α) (["self"]:Α) (ql Z4):=qT
theorem lh:MN (["self","table","key"]:Α) (["self","table","key"]:Α) (ql aK):=qT
theorem fR:MN (["self","name"]:Α) (["self","name"]:Α) (ql Zd):=qT
theorem cY:MN (["self","name"]:Α) (["self","name"]:Α) (ql QZ):=qT
theorem NP:MN (["self","name","near","far","most","door"]:Α) (["self","name","near","far","most"]:Α) (ql ZY):=qT
theorem NG:MN (["self","name","step","age"]:Α) (["self","name","step"]:Α) (ql Zn):=qT
theorem f9:MN (["self","pressed","deed"]:Α) (["self","pressed","deed"]:Α) (ql Za):=qT
theorem Ni:MN (["self","door","button","taught","pressed","one","other"]:Α) (["self","door","button"]:Α) (ql bD):=qT
theorem NZ:MN (["self","door","number","answer"]:Α) (["self","door","number"]:Α) (ql ay):=qT
theorem Nh:MN (["self","button","deed","doors","name","number"]:Α) (["self","button","deed","doors"]:Α) (ql QQ):=qT
theorem gG:MN (["self","number","door"]:Α) (["self","number","door"]:Α) (ql ZG):=qT
theorem gJ:MN (["self","button"]:Α) (["self","button"]:Α) (ql ZC):=qT
theorem gu:MN (["self","button"]:Α) (["self","button"]:Α) (ql ZA):=qT
theorem i5:MN (["self","door"]:Α) (["self","door"]:Α) (ql ZP):=qT
theorem NH:MN (["self","button","asked"]:Α) (["self","button"]:Α) (ql Ze):=qT
theorem iR:MN (["self"]:Α) (["self"]:Α) (ql ZV):=qT
theorem gq:MN (["self","door"]:Α) (["self","door"]:Α) (ql Zy):=qT
theorem Nx:MN (["_law_script","_law_k","_law_cells","_law_cell","_law_fold","_law_one"]:Α) (["_law_script","_law_k"]:Α) (ql hJ):=qT
theorem Oc:MN (["_law_box_here","_law_many","_law_digit","_law_mix"]:Α) (["_law_box_here","_law_many"]:Α) (ql eD):=qT
theorem N7:MN (["_law_box_here","_law_table_here","_law_digit"]:Α) (["_law_box_here"]:Α) (ql cT):=qT
theorem OK:MN (["_law_box_here","_law_long"]:Α) (["_law_box_here"]:Α) (ql gK):=qT
theorem vo:MN (["_law_table_here","_law_key_here"]:Α) (["_law_table_here","_law_key_here"]:Α) (ql gW):=qT
theorem mR:MN (["_law_word","_law_place"]:Α) (["_law_word","_law_place"]:Α) (ql bC):=qT
theorem Ox:MN (["_law_own_here","_law_word","_law_name","_law_parts","_law_some"]:Α) (["_law_own_here","_law_word","_law_name","_law_parts"]:Α) (ql cJ):=qT
theorem Oh:MN (["_law_own_here","_law_gate","_law_button","_law_known"]:Α) (["_law_own_here","_law_gate","_law_button"]:Α) (ql cz):=qT
theorem N8:MN (["_law_own_here","_law_name","_law_number","_law_answer"]:Α) (["_law_own_here","_law_name","_law_number"]:Α) (ql aV):=qT
theorem Od:MN (["_law_own_here","_law_button","_law_deed_here","_law_doors","_law_number"]:Α) (["_law_own_here","_law_button","_law_deed_here","_law_doors"]:Α) (ql bG):=qT
theorem jO:MN (["_law_own_here","_law_word","_law_button","_law_parts"]:Α) (["_law_own_here","_law_word","_law_button","_law_parts"]:Α) (ql aa):=qT
theorem On:MN (["_law_own_here","_law_deed_here","_law_word","_law_gate"]:Α) (["_law_own_here","_law_deed_here"]:Α) (ql gI):=qT
theorem Oi:MN (["_law_house","_law_deed_here","_law_word","_law_parts","_law_handed","_law_told"]:Α) (["_law_house","_law_deed_here"]:Α) (ql cr):=qT
theorem NJ:MN (["_law_caught","_law_fits","_law_names"]:Α) (["_law_caught"]:Α) (ql cM):=qT
theorem Nn:MN (["_law_house","_law_deed_here","_law_told","_law_caught","error","_law_word"]:Α) (["_law_house","_law_deed_here"]:Α) (ql gE):=qT
theorem cW:MN (["_law_found","_law_due_here"]:Α) (["_law_found","_law_due_here"]:Α) (ql bK):=qT
theorem Nm:MN (["_law_house","_law_own_here","_law_name","_law_button","_law_gate","_law_told"]:Α) (["_law_house","_law_own_here"]:Α) (ql cS):=qT
theorem jF:MN (["_law_box_here","_law_some","_law_other"]:Α) (["_law_box_here","_law_some","_law_other"]:Α) (ql aA):=qT
theorem ND:MN (["_law_box_here","_law_word","_law_pool"]:Α) (["_law_box_here","_law_word"]:Α) (ql aR):=qT
theorem Np:MN (["_law_box_here","_law_own_here","_law_words","_law_word","_law_door","_law_button","_law_near","_law_doors","_law_ages"]:Α) (["_law_box_here","_law_own_here","_law_words"]:Α) (ql e7):=qT
theorem M0:MN (["_law_script","_law_great","_law_box_here","_law_table_here","_law_key_here","_law_lists","_law_house","_law_own_here","_law_many","_law_k","_law_word","_law_deed_here","_law_turn"]:Α) (["_law_script","_law_great"]:Α) (ql cU):=qT
theorem Oy:MN (["_law_house","_law_own_here","_law_deed_here","_law_found"]:Α) (["_law_house","_law_own_here","_law_deed_here"]:Α) (ql cP):=qT
theorem NR:MN (["_law_script","_law_box_here","_law_house","_law_own_here","_law_words","_law_k","_law_name","_law_number","_law_more"]:Α) (["_law_script"]:Α) (ql bS):=qT
structure Na(K:ι)(mg:MK)(tk:Nat->Tok):Prop where
 g_DIGITS:mg "DIGITS"=↑(.int 16 (tk 0))
 g_KEY_PLACES:mg "KEY_PLACES"=↑(.int 4 (tk 1))
 g_LONGEST_NAME:mg "LONGEST_NAME"=↑(.int 8 (tk 2))
 g_CODE_DIGITS:mg "CODE_DIGITS"=↑(.int 5 (tk 3))
 g_AGES:mg "AGES"=↑(.int 8 (tk 4))
 g_COUNTS:mg "COUNTS"=↑(.int 4096 (tk 5))
 b_isinstance:mg "isinstance"=none
 b_bool:mg "bool"=none
 b_int:mg "int"=none
 b_tuple:mg "tuple"=none
 b_all:mg "all"=none
 b_len:mg "len"=none
 b_abs:mg "abs"=none
 b_list:mg "list"=none
 b_enumerate:mg "enumerate"=none
 b_range:mg "range"=none
 b_max:mg "max"=none
 b_min:mg "min"=none
 b_str:mg "str"=none
 b_zip:mg "zip"=none
 b_ord:mg "ord"=none
 b_sum:mg "sum"=none
 b_reversed:mg "reversed"=none
 b_sorted:mg "sorted"=none
 b_dict:mg "dict"=none
section
variable{P:Ξ}{w:Ω}{K:ι}{mg:MK}{base:Ψ}{tk:Nat->Tok}
theorem rZ(a:At K mg "is_number" cV ["thing"])(T:Na K mg tk):Df P w K mg base "is_number" W5 1 jh:=by
 refine a.dq pF λf _ A _ s H d Q E e h=>?_
 ·obtain⟨x,t,rfl,hk,q⟩:=h
  obtain⟨ty,c⟩:=Gi (K:=K) hk
  refine#[_,(qh (qm (Qc (qp sA T.b_isinstance Jx (qc (qv 0) (qc (qW (v:= .ty "int") Z T.b_int Le Z) qb))) (Qx (gA (qp sA T.b_isinstance Jx (qc (qv 0) (qc (qW (v:= .ty "bool") Z T.b_bool Mp Z) qb)))))))),?_]
  rw[Dt hk]at q;refine#[_,Z,x,"int",t,Z,ty,c,by simp,_,Z,?_]
  cases hi:zY t "int" with
  |false=>
   refine zt ?_
   rw[hi,Ij]at q;exact q
  |true=>
   refine zR ?_
   rw[hi,IK]at q
   exact#[_,Z,x,"bool",t,Z,ty,c,by simp,_,Z,q]
theorem sY(a:At K mg "is_digit" eW ["thing"])(T:Na K mg tk)(g:Df P w K mg base "is_number" W5 1 jh):Df P w K mg base "is_digit" W5 2 tX:=by
 refine a.dq sS λf _ A _ s H j Q E e h=>?_
 ·obtain⟨x,t,rfl,hk,q⟩:=h
  refine#[_,(qh (qm (Qc (qu g e.mo (qc (qv 0) qb)) (Qx (jL bR jU qi (qv 0) (zj (v:= .int 16) Z T.g_DIGITS #[_,Z])))))),?_]
  refine#[_,Z,x,t,Z,hk,_,Z,?_]
  cases hn:jP x with
  |false=>
   refine zt ?_
   rw[xz hn]at q;exact q
  |true=>
   refine zR ?_
   obtain⟨i,rfl⟩:=Bs hn;refine#[_,Z,_,_,Z,Z,_,Z,?_]
   have c:Q (.bl (decide (0<=i)&&decide (i<16))) H:=q
   refine qK (λd=>?_) (λd=>?_)
   ·refine#[_,_,Z,Z,?_]
    rw[d,IK]at c;exact c
   ·rw[LS.mpr d,Ij]at c
    exact c
theorem oB(a:At K mg "are_digits" cf ["things"])(T:Na K mg tk)(j:Df P w K mg base "is_digit" W5 2 tX):Df P w K mg base "are_digits" ["things"] 3 rW:=by
 refine a.dq oJ λf _ A _ s H u Q E o h=>?_
 ·obtain⟨p,xs,rfl,g,r,hk,q⟩:=h
  refine#[_,(qh (qm (qp (Z5 Z) T.b_all Lv (qc (Qy (own:=["thing"]) (fr:=[]) (js:=[]) Z (jS (qv 0)) Z (λ_ _ h=>nomatch h) Z (gY Z nofun nofun nofun) (λ_ _ _ _=>qB (i:=0) (show List.Nodup (["thing"]:Α)from by decide +kernel) Z (Or.inl Z) (.inr Z)) (λ_ _ _ _=>(qu j o.mo (qc (qv 0) qb)))) qb)))),?_]
  refine#[_,Z,p,Z,#[xs,MW.of g],eI (xs:=xs) r (λi ys d=>ys=(xs.take i).map (λx=>V.bl (fm x))/\MM H d) #[by simp,MM.refl H] (λi ys d ⟨_,c⟩=>MW.of (c _ _ g)) ?_ ?_]
  ·rintro i ys d x e _ ⟨rfl,c⟩
   obtain⟨t,m⟩:=hk x (Jp e)
   refine#[_,Z,x,t,Z,iy c m,?_,c]
   rw[Ig,e];simp
  ·rintro ys d _ ⟨rfl,c⟩ l n
   rw[II];refine#[l,xs.map fm,Z,MV.of (by rw[Ip];exact qa),?_]
   rw[List.all_map];exact q _ (c.trans (MM.upd n))
theorem vH(a:At K mg "is_name" hV ["thing"])(T:Na K mg tk):Df P w K mg base "is_name" W5 1 oi:=by
 refine a.dq uS λf _ A _ s H C Q E D h=>?_
 ·obtain⟨x,b,rfl,y,q⟩:=h
  refine#[_,(qg (qA (QW.pt (Q0 (zW (zn (qp za T.b_isinstance Jx (qc (qv 0) (qc (qW (v:= .ty "str") Z T.b_str Iq Z) qb))))) (QH (zW (jE bR bR qi (qp pV T.b_len JK (qc (qv 0) qb)) (zj (v:= .int 8) Z T.g_LONGEST_NAME #[_,Z])))))) (qh (qm QC)) qq)
   (qh (qm (qp (Z5 Z) T.b_all Lv (qc (Qy (own:=["letter"]) (fr:=[]) (js:=[]) Z (yc (qv 0)) Z (λ_ _ h=>nomatch h) Z (gY Z nofun nofun nofun) (λ_ _ _ _=>qB (i:=0) (show List.Nodup (["letter"]:Α)from by decide +kernel) Z (Or.inl Z) (.inr Z)) (λ_ _ _ _=>(jL nR nR qj (qv 0) qj))) qb))))),?_]
  rcases y with⟨z,rfl,B,p,rfl⟩|⟨t,hk,r,rfl⟩
  case inr=>
   refine#[_,Z,x,"str",t,Z,sQ hk,by simp,_,Z,?_]
   rw[r];exact zR (q _ (MM.refl _))
  have F:z.length=z.cps.toList.length:=Z
  refine#[_,Z,_,"str","str",Z,.str z,by simp,_,Z,?_]
  refine zt ?_
  refine#[_,Z,z,Z,by rw[Jn];lia,_,_,Z,Z,_,Z,?_]
  unfold C0 at q
  by_cases h1:1<=z.length
  case neg=>
   refine Qd (Jq (by lia)) #[_,Z,zR ?_]
   rw[Jq h1,Ij,Ij]at q;exact q _ (MM.refl _)
  refine Ql (Jf (by lia)) ?_
  refine#[_,_,Z,Z,_,Z,?_]
  rw[Jf h1,IK]at q
  by_cases n:z.length<=8
  case neg=>
   refine Ql (by rw[Jq (by lia:¬((z.length:Nat):Int)<=8)];rfl) ?_
   rw[Jq n,Ij]at q;exact q _ (MM.refl _)
  refine Qd (by rw[Jf (by lia:((z.length:Nat):Int)<=8)];rfl) ?_
  rw[Jf n,IK]at q;refine#[_,Z,z,Z,B,AA (by show z.cps.toList.length<=_;rw[Jn];lia) (λi ys e=>e=H/\ys=((z.cps.toList.take i).map rj).map V.bl) #[Z,Z] ?_ ?_]
  ·rintro i ys e c o _ ⟨rfl,rfl⟩
   have g:=tP o;obtain⟨m,u⟩:=vq c;refine#[_,Z,_,_,Z,Z,_,Z,?_]
   rw[Ig,g,JF,JF]
   by_cases d:97<=c
   ·refine Ql (by rw[m,Jf d]) #[_,_,Z,Z,Z,?_]
    rw[u]
    show _=_++[V.bl (decide (97<=c)&&decide (c<=122))]
    rw[Jf d,IK]
   ·refine Qd (by rw[m,Jq d]) #[Z,?_]
    show _=_++[V.bl (decide (97<=c)&&decide (c<=122))]
    rw[Jq d,Ij]
  ·rintro ys e p ⟨rfl,rfl⟩ l j
   refine#[l,z.cps.toList.map rj,Z,MV.of (by rw[show z.cps.size=z.cps.toList.length from Z,II];exact qa),?_]
   rw[List.all_map];exact q _ (MM.upd j)
theorem vM(a:At K mg "is_code" gL ["thing"])(T:Na K mg tk)(g:Df P w K mg base "are_digits" ["things"] 3 rW):Df P w K mg base "is_code" W5 4 mT:=by
 refine a.dq vK λf _ A _ s H m Q E i h=>?_
 ·obtain⟨x,b,rfl,l,q⟩:=h
  refine#[_,(qg (qA (zW (zn (qp za T.b_isinstance Jx (qc (qv 0) (qc (qW (v:= .ty "tuple") Z T.b_tuple JD Z) qb))))) (qh (qm QC)) qq)
   (qh (qm (Qc (zz qR (qp qS T.b_len JK (qc (qv 0) qb)) (zj (v:= .int 5) Z T.g_CODE_DIGITS #[_,Z]) (qw _)) (Qx (qu g i.mo (qc (qv 0) qb))))))),?_]
  rcases l with⟨e,ds,rfl,d,n,hk,rfl⟩|⟨t,hk,j,rfl⟩
  case inr=>
   refine#[_,Z,x,"tuple",t,Z,sQ hk,by simp,_,Z,?_]
   rw[j];exact zR (q _ (MM.refl _))
  refine#[_,Z,_,"tuple","tuple",Z,.tup (.inl d),by simp,_,Z,?_]
  refine zt ?_
  refine#[_,Z,e,_,Z,.inr (MW.of d),Z,_,Z,?_]
  by_cases c:ds.length=5
  ·refine Ql (Jf (by rw[c];rfl)) ?_
   refine#[_,Z,e,_,Z,d,by rw[Jn];lia,hk,λH' s'=>?_]
   rw[Jf c,IK]at q;exact q _ s'
  ·rw[Jq c,Ij]at q
   refine Qd (Jq (by intro z;injection z with z;lia)) ?_
   exact q _ (MM.refl _)
theorem tm(a:At K mg "is_press" eM ["thing"])(T:Na K mg tk)(r:Df P w K mg base "is_name" W5 1 oi)(o:Df P w K mg base "is_number" W5 1 jh)(j:Df P w K mg base "is_code" W5 4 mT):Df P w K mg base "is_press" W5 5 fF:=by
 refine a.dq NN λf _ A _ s H u Q E g h=>?_
 ·obtain⟨x,b,rfl,m,q⟩:=h
  refine#[_,(qg (qA (QW.pt (Q0 (zW (zn (qp za T.b_isinstance Jx (qc (qv 0) (qc (qW (v:= .ty "tuple") Z T.b_tuple JD Z) qb))))) (QH (qy aZ (qp qS T.b_len JK (qc (qv 0) qb)) qi (qw _))))) (qh (qm QC)) qq)
   (qg (Qk (qv 0) (cq Z (qJ (qB (i:=1) NN.nd Z (Or.inl Z)) (qJ (qB (i:=2) NN.nd Z (Or.inl Z)) (qJ (qB (i:=3) NN.nd Z (Or.inl Z)) Qf)))))
   (qh (qm (Qc (qu r g.mo (qc (qv 1) qb)) (Qc (qu o g.mo (qc (qv 2) qb)) (Qx (qu j g.mo (qc (qv 3) qb))))))))),?_]
  cases m with
  | @kd t hk hs=>
   refine#[_,Z,x,"tuple",t,Z,sQ hk,by simp,_,Z,?_]
   rw[hs];exact zR (q _ (MM.refl _))
  | @len a xs e h l n=>
   subst e;refine#[_,Z,_,"tuple","tuple",Z,.tup (.inl h),by simp,_,Z,?_]
   refine zt ?_
   refine#[_,Z,a,_,Z,.inr (MW.of h),Z,_,Z,?_]
   refine Ql (by rw[Jq (by intro z;injection z with z;lia)];rfl) ?_
   exact q _ (MM.refl _)
  | @tup a n y c bn bc ty e h hn hy hc=>
   subst e;refine#[_,Z,_,"tuple","tuple",Z,.tup (.inl h),by simp,_,Z,?_]
   refine zt ?_
   refine#[_,Z,a,_,Z,.inr (MW.of h),Z,_,Z,?_]
   refine fM Z ?_
   refine#[_,Z,a,_,Z,.tup h,Z,_,_,Z,_,_,Z,_,_,Z,Z,?_]
   refine#[_,Z,n,bn,Z,hn,λH1 d=>#[_,Z,?_]]
   cases bn with
   |false=>exact zt (q _ d)
   |true=>
    refine zR ?_
    refine#[_,Z,y,ty,Z,iy d hy,_,Z,?_]
    cases hnum:jP y with
    |false=>
     rw[hnum]at q;exact zt (q _ d)
    |true=>
     rw[hnum]at q;refine zR ?_
     exact#[_,Z,c,bc,Z,hc.same d,λB p=>q _ (d.trans p)]
end
section
variable{P:Ξ}{w:Ω}{K:ι}{mg:MK}{base:Ψ}{tk:Nat->Tok}{C:Δ}
def AN(K:ι)(C:Δ):Sp:=λh H Q _=>∃(p a b dx:Δ) (e f d:Int) (t:Ε) (c:List Ε),h=[.ref p,.ref a,.ref b,.int e,.int f,.int d]/\H p=↑(.ins C dx [])/\Sq K H a (t.map V.int)/\(∃g:Η,Sq K H b (g.map V.ref)/\g.length=c.length/\∀(i:Nat) (a:Δ) (ks:Ε),g[i]? =↑a->c[i]? =↑ks->MW [] H a (ks.map V.int))/\c.length<=8/\
 ∀ta hk bd lg H',H hk=none->H bd=none->H lg=none->Mv [p] H H'->MR K C H' p ta hk bd lg 0 #[t,c,e,f,d,0,[]]->Ng [] H' hk c->Q .non H'
theorem C4{K:ι}{C p dx a:Δ}{H:Hp}{fs:List (Str×V)}{xs:Β}{o:HO}(e:H p=↑(.ins C dx fs))(h:Sq K H a xs):Sq K (MO H p o) a xs:=by
 rcases h with((h|⟨u,h⟩)|h)|h
 ·exact .inl (.inl (.inl (by rw[qk (zr h e (by intro z;cases z))];exact h)))
 ·exact .inl (.inl (.inr #[u,by rw[qk (zr h e (by intro z;cases z))];exact h]))
 ·exact .inl (.inr h)
 ·exact .inr (zy e h)
theorem cF(a:Nz K C "__init__" "Door.__init__" Q1 ["self","table","keys","near","far","most"])(T:Na K mg tk)(U:NW K C):Mf P w K mg base C "__init__" y9 1 (AN K C):=by
 refine a.mq lV λf _ A _ s H vs Q E hr h=>?_
 ·obtain⟨p,a,b,dx,I,X,L,t,r,rfl,hp,ha,hb,hl,q⟩:=h
  refine#[_,(qg (zp (qv 0) (qI ZL T.b_tuple JD (qc (qv 1) qb)))
   (qg (zp (qv 0) (Qy (own:=["key"]) (fr:=[]) (js:=[]) Z (dc (qv 2)) Z (λ_ _ h=>nomatch h) Z (gY Z nofun nofun nofun) (λ_ _ _ _=>qB (i:=0) (show List.Nodup (["key"]:Α)from by decide +kernel) Z (Or.inl Z) (.inr Z)) (λ_ _ _ _=>(qI i7 T.b_tuple JD (qc (qv 0) qb)))))
   (qg (zp (qv 0) (qv 3))
   (qg (zp (qv 0) (qv 4))
   (qg (zp (qv 0) (qv 5))
   (qg (zp (qv 0) qi)
   (qg (zp (qv 0) ZQ)
   (qh (zp (qv 0) (zd qb)))))))))),?_]
  refine#[_,Z,a,_,Z,ha,λta H2 O ht=>#[_,Z,p,_,Z,Zm U.cl (O _ _ hp) U.n_table 0,?_]]
  have e2:=O _ _ hp;obtain⟨as,Y,la,D⟩:=hb;have Y:=C4 (o:= .ins C dx [("table",.ref ta)]) e2 (Y.same O)
  have D:=λi a ks n d=>zy (o:= .ins C dx [("table",.ref ta)]) e2 (MM.sqt O (D i a ks n d))
  have a1:=zy (o:= .ins C dx [("table",.ref ta)]) e2 ht
  refine#[_,Z,b,Z,DH (K:=K) Y (by rw[Jb,la,Jn];lia) (λi ys H3=>MM (MO H2 p (.ins C dx [("table",.ref ta)])) H3/\∃bs:Η,ys=bs.map V.ref/\bs.length=i/\∀(j:Nat) (x:Δ) (ks:Ε),bs[j]? =↑x->r[j]? =↑ks->MW [] H3 x (ks.map V.int)) #[MM.refl _,[],Z,Z,λj x ks e=>by(cases e)] (λi ys H3 h=>h.1) ?_ ?_]
  ·rintro i ys H3 x N W ⟨G,bs,rfl,B,z⟩
   rw[Jm]at N;cases ea:as[i]? with
   |none=>rw[ea]at N;cases N
   |some x0=>
    rw[ea]at N
    obtain rfl:V.ref x0=x:=JE N
    have hi:i<r.length:=by rw[<- la];exact(Jt.mp ea).1
    have a2:=D i x0 r[i] ea (Jk hi);refine#[_,Z,x0,_,Z,.inr (MM.sqt G a2).rd,λl H4 s4 a0=>#[G.trans s4,bs++[l],by simp,by simp [B],λj y ks n d=>?_]]
    rw[List.getElem?_append]at n;split at n
    ·exact MM.sqt s4 (z j y ks n d)
    ·have hj:j-bs.length=0:=by
      cases hj:j-bs.length with
      |zero=>rfl
      |succ k=>rw[hj]at n;cases n
     rw[hj]at n;cases n
     have:j=i:=by lia
     subst this;rw[Jk hi]at d;cases d;exact .inl a0
  ·rintro ys H3 W ⟨G,bs,rfl,B,z⟩ hk v
   have R:=MM.upd (o:= .lst (bs.map V.ref)) v
   have e3:=R _ _ (G _ _ qa);refine#[_,Z,p,_,Z,Zm U.cl e3 U.n_house_keys 1,?_]
   refine#[_,Z,_,Z,p,_,Z,Zm U.cl qa U.n_near 2,?_]
   refine#[_,Z,_,Z,p,_,Z,Zm U.cl qa U.n_far 3,?_]
   refine#[_,Z,_,Z,p,_,Z,Zm U.cl qa U.n_most 4,?_]
   refine#[_,Z,p,_,Z,Zm U.cl qa U.n_least_age 5,?_]
   refineλbd g=>#[_,Z,p,_,Z,Zm U.cl (by rw[qk (qr qa g)];exact qa) U.n_buttons 6,?_]
   have u:=qr qa g;refine#[HR,λlg m=>#[_,Z,p,_,Z,Zm U.cl (by rw[qk (qr qa m)];exact qa) U.n_log 7,?_]]
   have J:=qr qa m;have m3:Mv [p] H H3:=((O.mv (S:=[p])).trans Mv.upd1).trans G.mv
   have c:hk≠p:=(qr (G _ _ qa) v).symm
   have m4:Mv [p] H (MO H3 hk (.lst (bs.map V.ref))):=m3.trans R.mv
   have M:∀o1 o2 o3 o4 o5,Mv [p] (MO H3 hk (.lst (bs.map V.ref))) (MO (MO (MO (MO (MO (MO H3 hk (.lst (bs.map V.ref))) p o1) p o2) p o3) p o4) p o5):=λo1 o2 o3 o4 o5=>(((Mv.upd1.trans Mv.upd1).trans Mv.upd1).trans Mv.upd1).trans Mv.upd1
   have M6:Mv [p] (MO H3 hk (.lst (bs.map V.ref))) _:=(((M _ _ _ _ _).trans (MM.upd g).mv).trans Mv.upd1).trans (MM.upd (o:= .lst []) m).mv
   have M7:=M6.trans (Mv.upd1 (o:= .ins C dx (dF #[t,r,I,X,L,0,[]] ta hk bd lg)))
   have nt:NT [p] (MO H3 hk (.lst (bs.map V.ref))):=NT.one e3 trivial
   have F:bd≠lg:=qr (by rw[qk u.symm];exact qa) m
   have KR:=Ng.mv M7 nt (zu c) (show Ng [] _ hk r from#[bs,qa,by rw[B,Jb,la],λj x ks n d=>MM.sqt R (z j x ks n d)])
   refine q ta hk bd lg _ (m3.nfree (zu c) v) ((m4.trans (M _ _ _ _ _)).nfree (zu u.symm) g) ((m4.trans ((((M _ _ _ _ _).trans (MM.upd g).mv).trans Mv.upd1))).nfree (zu J.symm) m) (m4.trans M7) #[#[dx,qa],?_,Ng.up KR,?_,?_,?_] KR
   ·exact M7.sqt nt (MM.sqt R (MM.sqt G a1))
   ·exact#[([],λ_=>0),by rw[qk u.symm,qk F,qk u.symm];exact qa,λe he=>by(cases he),.refl _,Ld]
   ·exact#[[],by rw[qk J.symm];exact qa,Je _]
   ·refine(qr (o:= .lst (bs.map V.ref)) ?_ m).symm
    rw[qk c];rw[qk (qr (o:= .lst (bs.map V.ref)) (by rw[qk c,qk c,qk c,qk c,qk c];exact qa) g)]
    rw[qk c,qk c,qk c,qk c,qk c];exact qa
theorem lU(a:Nz K C "__init__" "Door.__init__" Q1 ["self","table","keys","near","far","most"])(T:Na K mg tk)(U:NW K C):Mf P w K mg base C "__init__" y9 1 (lE K C):=(cF a T U).weak (by
 rintro j H Q E ⟨p,a,b,dx,n,f,m,t,c,e,h1,g,⟨d,h,l,r⟩,i,q⟩
 exact#[p,a,b,dx,n,f,m,t,c,e,h1,g,#[d,.inl (MV.of h),l,r],i,q])
theorem kA(a:Nz K C "is_full" "Door.is_full" aS ["self"])(T:Na K mg tk)(U:NW K C):Mf P w K mg base C "is_full" y8 1 (mh K C):=by
 refine a.mq ke λf _ A _ s H g Q E i h=>?_
 ·obtain⟨p,ta,hk,bd,lg,n,D,rfl,b,q⟩:=h
  obtain⟨d,e,_,c,_⟩:=b.kb;refine#[_,(qh (qm (zz oP (qp nQ T.b_len JK (qc (qz (qv 0)) qb)) (qz (qv 0)) (qw _)))),?_]
  refine#[_,Z,p,_,Z,b.h_buttons U,bd,_,Z,e,_,Z,p,_,Z,b.h_most U,_,_,Z,Z,?_]
  rw[show(db d.1 d.2).length=D.kn.length from(Jb _).trans c.length_eq]
  exact q
theorem iY(a:Nz K C "button_of" "Door.button_of" ZS ["self","name"])(T:Na K mg tk)(U:NW K C):Mf P w K mg base C "button_of" X1 1 (vY K C):=by
 refine a.mq iX λf _ A _ s H o Q E i h=>?_
 ·obtain⟨p,ta,hk,bd,lg,n,D,nm,rfl,b,l,m⟩:=h
  refine#[_,(qh (qm (rB i (qz (qv 0)) (qv 1)))),?_]
  obtain⟨q,d,_⟩:=id b.kb;refine#[_,Z,p,_,Z,b.h_buttons U,bd,Z,.inl #[_,.inl d],_,Z,?_]
  rcases b.kb.get nm with⟨c,g⟩|⟨e,x,c,g,j⟩
  ·exact#[_,g,l c]
  ·exact#[_,g,m e x c j]
theorem iT(a:Nz K C "takes_age" "Door.takes_age" ZR ["self","age"])(T:Na K mg tk)(U:NW K C):Mf P w K mg base C "takes_age" W6 1 (fH K C):=by
 refine a.mq iZ λf _ A _ s H g Q E i h=>?_
 ·obtain⟨p,ta,hk,bd,lg,n,D,age,rfl,b,q⟩:=h
  obtain⟨e,c,d,_⟩:=b.ks;refine#[_,(qh (qm (jL bR jU (qz (qv 0)) (qv 1) (qp qS T.b_len JK (qc (qz (qv 0)) qb))))),?_]
  unfold ZK at q;refine#[_,Z,p,_,Z,b.h_least_age U,_,Z,_,_,Z,Z,_,Z,?_]
  refine qK (λz=>?_) (λz=>?_)
  ·rw[z,IK]at q
   refine#[_,Z,p,_,Z,b.h_house_keys U,hk,_,Z,.inl (MV.of c),_,_,Z,Z,?_]
   rw[Jb,d];exact q
  ·rw[LS.mpr z,Ij]at q
   exact q
theorem ia(a:Nz K C "read_right" "Door.read_right" Zw ["self","thing"])(T:Na K mg tk)(U:NW K C)(I:Df P w K mg base "is_press" W5 5 fF)(J:Mf P w K mg base C "takes_age" W6 1 (fH K C))(G:Df P w K mg base "read_press" Y3 3 (rh K)):Mf P w K mg base C "read_right" V1 6 (nv K C):=by
 refine a.mq gw λf _ A _ s H W Q E l h=>?_
 ·obtain⟨p,ta,hk,bd,lg,n,D,x,o,rfl,b,ok,tg,q⟩:=h
  refine#[_,(qg (qA (QW.pt (Q0 (zW (zn (qu I l.mo (qc (qv 1) qb)))) (QH (zW (zn (zh J U.cl l.mo (qv 0) (qc (qD qQ (qv 1) qi) qb))))))) (qh (qm zk)) qq)
   (qh (qm (qu G l.mo (qc (qz (qv 0)) (qc (qD qO (qz (qv 0)) (qD qQ (qv 1) qi)) (qc (qv 1) qb))))))),?_]
  refine#[_,Z,x,_,Z,tg.b,λH1 i=>#[_,Z,?_]]
  cases o with
  |none=>exact zR (zR (q .non _ i Z))
  |some PP=>
  obtain⟨pr,rfl,M,v,u,g⟩:=tg;have q:∀y H',MM H H'->gU H' y (ir D PP)->Q y H':=q
  obtain⟨nm,age,ds⟩:=PP;simp only at v u g
  refine zt ?_
  have d:=b.same i;obtain⟨B,c,j⟩:=Nj.same i M;refine#[_,Z,p,Z,d.no,_,Z,pr,_,_,_,Z,Z,MW.of c,Z,p,ta,hk,bd,lg,n,D,age,Z,d,_,Z,?_]
  unfold ir at q;cases ht:ZK D age with
  |false=>
   rw[Jc (by rw[ht];intro z;cases z)]at q
   exact zR (q _ _ i Z)
  |true=>
  rw[Jd ht]at q;refine zt ?_
  have r:af D #[age,0,none] age=true:=by unfold af;rw[ht,Jf (Lb _)];rfl
  obtain⟨L,O⟩:=mU r ok.l0;obtain⟨xs,F,N,t,m⟩:=d.ks.at L O
  exact#[_,Z,p,_,Z,d.h_table U,_,Z,p,_,Z,d.h_house_keys U,_,Z,pr,_,_,_,Z,Z,MW.of c,Z,hk,_,_,_,Z,Z,MV.of N,t,_,Z,ta,F,pr,B,nm,age,D.t,aq D age,ds,Z,.inr d.tb,.inr m,.tup c,.tup j,v,ok.tp,u,g,λy S R e=>q y S (i.trans R) e]
theorem iW(a:Nz K C "known_now" "Door.known_now" ZU ["self"])(T:Na K mg tk)(U:NW K C):Mf P w K mg base C "known_now" y8 1 (jr K C):=by
 refine a.mq iL λf _ A _ s H vs Q E hr h=>?_
 ·obtain⟨p,ta,hk,bd,lg,n,D,rfl,b,ok,q⟩:=h
  obtain⟨fn,hd,a4,I,_⟩:=id b.kb;refine#[_,(qh (qm (qI qZ T.b_tuple JD (qc (Qy (own:=["name"]) (fr:=["self"]) (js:=[0]) Z (c7 (qp (gZ Z) T.b_sorted PyProof.Rows.boot_sorted (qc (qz (qv 0)) qb))) Z (Cf Z) Z (Cd Z nofun nofun nofun Z Z Z) (λ_ _ _ _=>qB (i:=0) (show List.Nodup (["name","self"]:Α)from by decide +kernel) Z (Or.inl Z) (.inr Z)) (λ_ _ _ _=>(qC lQ (qG (qc (qv 0) qb)) (qH hr (Dc (K:=K) Z (qv 1)) (qv 0))))) qb)))),?_]
  refine#[_,Z,p,_,Z,b.h_buttons U,bd,_,fn.1.map (·.1),Z,hd,Dm _ _,by rw[Jb,I.length_eq];have:=ok.nl;lia,λl r hl a0 so=>#[l,Z,#[_,MV.of qa],?_]]
  have pm:=a0.trans (I.map (·.1))
  have u1:=MM.upd (o:= .lst (r.map V.str)) hl
  have ls:r.length<=60:=by rw[pm.length_eq,Jb];exact ok.nl
  refine bj (K:=K) (xs:=r.map V.str) (by rw[Jb,Jn];lia) (λi ys H3=>MM (MO H l (.lst (r.map V.str))) H3/\∃m:Η,ys=m.map V.ref/\m.length=i/\∀(j:Nat) (x:Δ) (nm:Str) (e:Kb),m[j]? =↑x->r[j]? =↑nm->D.kn.lookup nm=↑e->∃v,H3 x=↑(.tup [.str nm,.int e.age,.int e.last,v])/\Wt H3 v e.wt) #[MM.refl _,[],Z,Z,λj x nm e h=>by(cases h)] (λi ys H3 ⟨F,_⟩=>F.seq (MV.of qa)) ?_ ?_
  ·rintro i ys H3 x M Y ⟨F,m,rfl,B,has⟩
   rw[Jm]at M;cases es:r[i]? with
   |none=>rw[es]at M;cases M
   |some nm=>
    rw[es]at M
    obtain rfl:V.str nm=x:=JE M
    have L:nm∈D.kn.map (·.1):=pm.mem_iff.mp (Jp es)
    obtain⟨e,O⟩:=ZM L;have b3:=b.same (u1.trans F);obtain⟨e',x0,d,g,v0,N,W⟩:=(b3.kb.get nm).resolve_left (λz=>by rw[O]at z;cases z.1)
    rw[O]at d;cases d;refine#[_,Z,HS,λt ht=>?_]
    have G:=MM.upd (o:= .tup [.str nm]) ht
    have b4:=b3.same G;obtain⟨e',x0,d,g,v0,N,W⟩:=(b4.kb.get nm).resolve_left (λz=>by rw[O]at z;cases z.1)
    rw[O]at d;cases d;refine#[_,Z,p,_,Z,b4.h_buttons U,_,Z,bd,_,Z,g,t,x0,_,_,Z,Z,qa,N,HW,λq1 H5 X u=>?_]
    refine#[(F.trans G).trans X,m++[q1],by simp,by simp [B],λj y m2 e2 h1 J R=>?_]
    rw[List.getElem?_append]at h1;split at h1
    ·obtain⟨v,a1,a2⟩:=has j y m2 e2 h1 J R
     exact#[v,X _ _ (G _ _ a1),a2.mv (S:=[]) (G.trans X).mv (λc h=>nomatch h)]
    ·have hj:j-m.length=0:=by
      cases hj:j-m.length with
      |zero=>rfl
      |succ k=>rw[hj]at h1;cases h1
     rw[hj]at h1;cases h1
     obtain rfl:j=i:=by lia
     rw[es]at J;cases J;rw[O]at R;cases R
     exact#[v0,u,W.mv (S:=[]) X.mv (λc h=>nomatch h)]
  ·rintro ys H3 Y ⟨F,m,rfl,B,has⟩ l2 a3
   have G:=MM.upd (o:= .lst (m.map V.ref)) a3
   refine#[l2,_,Z,.inl #[MV.of qa,λq1 u=>?_]]
   have u5:=MM.upd (o:= .tup (m.map V.ref)) u
   have S:=G.trans u5;refine q q1 r _ ((u1.trans F).trans S) pm so #[m,qa,by rw[B,Jb],λj x nm e h1 J R=>?_]
   obtain⟨v,a1,a2⟩:=has j x nm e h1 J R
   exact#[v,S _ _ a1,a2.mv (S:=[]) S.mv (λc h=>nomatch h)]
end
section
variable{P:Ξ}{w:Ω}{K:ι}{mg:MK}{base:Ψ}{tk:Nat->Tok}
theorem uQ(a:At K mg "word_of" gR ["count","last","near","far"])(T:Na K mg tk):Df P w K mg base "word_of" ["count","last","near","far"] 1 uD:=by
 refine a.dq vC λf _ A _ s H d Q E e h=>?_
 ·obtain⟨c,l,n,f,rfl,q⟩:=h
  unfold vS at q;refine#[_,(qg (qA (qy bR (qv 0) (qv 1) (qw _)) (qh (qm qj)) qq)
   (qg (qA (qy bR (qv 0) (qC zo (qv 1) (qv 2)) (qw _)) (qh (qm qj)) qq)
   (qg (qA (qy bR (qv 0) (qC zo (qv 1) (qv 3)) (qw _)) (qh (qm qj)) qq)
   (qh (qm qj))))),?_]
  refine#[_,Z,_,Z,_,_,Z,Z,_,Z,?_]
  refine qK (λz=>?_) (λz=>?_)
  ·rw[Jd (Jz z)]at q;exact q
  ·rw[Jc (λy=>z (Jf y))]at q
   refine#[_,Z,_,Z,_,Z,_,_,Z,Z,_,_,Z,Z,_,Z,?_]
   refine qK (λz=>?_) (λz=>?_)
   ·rw[Jd (Jz z)]at q;exact q
   ·rw[Jc (λy=>z (Jf y))]at q
    refine#[_,Z,_,Z,_,Z,_,_,Z,Z,_,_,Z,Z,_,Z,?_]
    refine qK (λz=>?_) (λz=>?_)
    ·rw[Jd (Jz z)]at q;exact q
    ·rw[Jc (λy=>z (Jf y))]at q;exact q
theorem v5(a:At K mg "step_by" hW ["button","age","count","near","far"])(T:Na K mg tk)(M:Df P w K mg base "word_of" ["count","last","near","far"] 1 uD):Df P w K mg base "step_by" V3 2 tK:=by
 refine a.dq Nw λf _ A _ s H O Q E L h=>?_
 ·obtain⟨a,e,age,c,j,n,rfl,⟨v,G,F⟩,q⟩:=h
  refine#[_,(qg (Qk (qv 0) (cq Z (qJ (qB (i:=5) Nw.nd Z (Or.inl Z)) (qJ (qB (i:=6) Nw.nd Z (Or.inl Z)) (qJ (qB (i:=7) Nw.nd Z (Or.inl Z)) Qf)))))
   (qg (qE (i:=8) Nw.nd Z (Or.inl Z) (qu M L.mo (qc (qv 2) (qc (qv 6) (qc (qv 3) (qc (qv 4) qb))))))
   (qg (qA (QW.pt (rV (qy qR (qv 8) qj (qw _)) (mE (qy (ER L) (qv 7) (qG (qc (qv 1) (qc (qC QM (qv 2) qi) qb))) (qw _))))) (qh (qE (i:=8) Nw.nd Z (Or.inl Z) qj)) qq)
   (qg (qA (qy qR (qv 8) qj (qw _)) (qh (qm (qG (qc (qv 8) (qc (qG (qc (qv 1) (qc (qv 2) (qc zk qb)))) qb))))) qq)
   (qg (qA (qy qR (qv 8) qj (qw _)) (qh (qm (qG (qc (qv 8) (qc (qG (qc (qv 5) (qc (qv 6) (qc (qG (qc (qv 1) (qc (qv 2) qb))) qb)))) qb))))) qq)
   (qh (qm (qG (qc (qv 8) (qc (qv 0) qb)))))))))),?_]
  refine#[_,Z,a,_,Z,.tup G,Z,_,_,Z,_,_,Z,_,_,Z,Z,?_]
  refine#[_,Z,_,Z,_,Z,_,Z,c,e.last,j,n,Z,?_]
  unfold Zt at q;unfold vS
  by_cases h1:c<=e.last
  ·rw[Jd h1]
   rw[Jd h1]at q;refine#[_,Z,Z,_,Z,?_]
   refine qK (λy=>absurd (Jz y) nofun) (λ_=>?_)
   refine#[_,Z,Z,_,Z,?_]
   refine qK (λy=>absurd (Jz y) nofun) (λ_=>?_)
   refine#[_,Z,Z,_,Z,?_]
   refine qK (λy=>absurd (Jz y) nofun) (λ_=>?_)
   refine#[_,Z,_,Z,HU,λg d=>?_]
   exact q g a _ (MM.upd d) qa (NV.same (MM.upd d) #[v,G,F])
  ·rw[Jc h1]
   rw[Jc h1]at q
   by_cases u:c<=e.last+j
   ·rw[Jd u]
    rw[Jd u]at q;refine#[_,Z,Z,_,Z,?_]
    refine qK (λy=>absurd (Jz y) nofun) (λ_=>?_)
    refine#[_,Z,Z,_,Z,?_]
    refine qK (λ_=>?_) (λy=>absurd (Jf Z) y)
    refine#[_,Z,_,Z,_,Z,HV,λt m=>#[HU,λg d=>?_]]
    have p:=MM.upd (o:= .tup [.int age,.int c,.non]) m
    have l:=MM.upd (o:= .tup [.str "near",.ref t]) d
    exact q g t _ (p.trans l) qa #[.non,l _ _ qa,Z]
   ·rw[Jc u]
    rw[Jc u]at q
    by_cases x:c<=e.last+n
    ·rw[Jd x]
     rw[Jd x]at q;refine#[_,Z,Z,_,Z,?_]
     refine qK (λ_=>?_) (λy=>absurd (Jf Z) y)
     refine#[_,Z,_,Z,_,Z,_,_,Z,Z,HU,λN D=>?_]
     have B:=MM.upd (o:= .tup [.int age,.int (c-1)]) D
     have I:=F.mv (S:=[]) B.mv (λc h=>nomatch h)
     refine#[e.wt,N,age,c-1,I,Z,.inl qa,_,Z,?_]
     by_cases r:e.wt=↑(age,c-1)
     ·rw[Jd r]at q
      refine Ql (Jf r) ?_
      refine#[_,Z,Z,_,Z,?_]
      refine qK (λ_=>?_) (λy=>absurd (Jf Z) y)
      refine#[_,Z,_,Z,_,Z,HV,λt m=>#[HU,λg d=>?_]]
      have p:=MM.upd (o:= .tup [.int age,.int c,.non]) m
      have l:=MM.upd (o:= .tup [.str "near",.ref t]) d
      exact q g t _ ((B.trans p).trans l) qa #[.non,l _ _ qa,Z]
     ·rw[Jc r]at q
      refine Qd (Jq r) ?_
      refine#[_,Z,Z,_,Z,?_]
      refine qK (λy=>absurd (Jz y) nofun) (λ_=>?_)
      refine#[_,Z,Z,_,Z,?_]
      refine qK (λ_=>?_) (λy=>absurd (Jf Z) y)
      refine#[_,Z,_,Z,_,Z,_,Z,_,Z,HU,λJ z=>#[HV,λt m=>#[HU,λg d=>?_]]]
      have p:=MM.upd (o:= .tup [.int age,.int c]) z
      have l:=MM.upd (o:= .tup [.int e.age,.int e.last,.ref J]) m
      have C:=MM.upd (o:= .tup [.str "far",.ref t]) d
      exact q g t _ (((B.trans p).trans l).trans C) qa #[.ref J,C _ _ qa,J,Z,C _ _ (l _ _ qa)]
    ·rw[Jc x]
     rw[Jc x]at q;refine#[_,Z,Z,_,Z,?_]
     refine qK (λy=>absurd (Jz y) nofun) (λ_=>?_)
     refine#[_,Z,Z,_,Z,?_]
     refine qK (λy=>absurd (Jz y) nofun) (λ_=>?_)
     refine#[_,Z,Z,_,Z,?_]
     refine qK (λy=>absurd (Jz y) nofun) (λ_=>?_)
     refine#[_,Z,_,Z,HU,λg d=>?_]
     exact q g a _ (MM.upd d) qa (NV.same (MM.upd d) #[v,G,F])
end
section
variable{P:Ξ}{w:Ω}{K:ι}{mg:MK}{base:Ψ}{tk:Nat->Tok}{C:Δ}
theorem gC(a:Nz K C "takes_from" "Door.takes_from" ZE ["self","button","age"])(T:Na K mg tk)(U:NW K C)(c:Mf P w K mg base C "takes_age" W6 1 (fH K C)):Mf P w K mg base C "takes_from" Y4 2 (mD K C):=by
 refine a.mq gF λf _ A _ s H j Q E d h=>?_
 ·obtain⟨p,ta,hk,bd,lg,x,n,D,e,age,rfl,b,⟨v,g,i⟩,q⟩:=h
  refine#[_,(qh (qm (Qc (zh c U.cl d.mo (qv 0) (qc (qv 2) qb)) (Qx (zz oP (qv 2) (qD qQ (qv 1) qi) (qw _)))))),?_]
  unfold af at q;refine#[_,Z,p,Z,b.no,_,Z,p,ta,hk,bd,lg,n,D,age,Z,b,_,Z,?_]
  refine qK (λz=>?_) (λz=>?_)
  ·rw[z,IK]at q
   exact#[_,Z,_,Z,x,_,_,_,Z,Z,MW.of g,Z,_,_,Z,Z,q]
  ·rw[LS.mpr z,Ij]at q
   exact q
theorem gX(a:Nz K C "plain_step" "Door.plain_step" ZB ["self","button","age","count"])(T:Na K mg tk)(U:NW K C)(l:Mf P w K mg base C "takes_from" Y4 2 (mD K C))(j:Df P w K mg base "step_by" V3 2 tK):Mf P w K mg base C "plain_step" Y8 3 (uj K C):=by
 refine a.mq il λf _ A _ s H m Q E d h=>?_
 ·obtain⟨p,ta,hk,bd,lg,x,n,D,e,age,c,rfl,b,g,i,q⟩:=h
  refine#[_,(qg (qA (zW (zn (zh l U.cl d.mo (qv 0) (qc (qv 1) (qc (qv 2) qb))))) (qh (qm (qG (qc qj (qc (qv 1) qb))))) qq)
   (qh (qm (qu j d.mo (qc (qv 1) (qc (qv 2) (qc (qv 3) (qc (qz (qv 0)) (qc (qz (qv 0)) qb))))))))),?_]
  refine#[_,Z,p,Z,b.no,_,Z,_,Z,p,ta,hk,bd,lg,x,n,D,e,age,Z,b,g,_,Z,?_]
  rw[i];refine zt ?_
  exact#[_,Z,_,Z,_,Z,_,Z,p,_,Z,b.h_near U,_,Z,p,_,Z,b.h_far U,x,e,age,c,D.near,D.far,Z,g,q]
theorem iU(a:Nz K C "answer_to" "Door.answer_to" Z1 ["self","press"])(T:Na K mg tk)(U:NW K C)(xA:Mf P w K mg base C "button_of" X1 1 (vY K C))(dY:Mf P w K mg base C "takes_from" Y4 2 (mD K C))(yA:Mf P w K mg base C "plain_step" Y8 3 (uj K C))
  (xI:Df P w K mg base "read_press" Y3 3 (rh K)):Mf P w K mg base C "answer_to" ["self","press"] 4 (nM K C):=by
 refine a.mq MX λf _ A _ s H vs Q E u h=>?_
 ·obtain⟨p,ta,hk,bd,lg,pr,n,D,nm,age,ds,rfl,b,ok,⟨pc,hp,W⟩,hn,l5,I,q⟩:=h
  refine#[_,(qg (Qk (qv 1) (cq Z (qJ (qB (i:=2) MX.nd Z (Or.inl Z)) (qJ (qB (i:=3) MX.nd Z (Or.inl Z)) (qJ (qB (i:=4) MX.nd Z (Or.inl Z)) Qf)))))
   (qg (qE (i:=5) MX.nd Z (Or.inl Z) (zh xA U.cl u.mo (qv 0) (qc (qv 2) qb)))
   (qg (qA (qy aB (qv 5) zk (qw _)) (qh (qm (qG (qc qj (qc qj qb))))) qq)
   (qg (qA (zW (zn (zh dY U.cl u.mo (qv 0) (qc (qv 5) (qc (qv 3) qb))))) (qh (qm (qG (qc qj (qc qj qb))))) qq)
   (qg (qE (i:=6) MX.nd Z (Or.inl Z) (qu xI u.mo (qc (qz (qv 0)) (qc (qD qO (qz (qv 0)) (qv 3)) (qc (qv 1) qb)))))
   (qg (qA (qy aB (qv 6) zk (qw _)) (qh (qm (qG (qc qj (qc qj qb))))) qq)
   (qg (Qk (qv 6) (cq Z (qJ (qB (i:=7) MX.nd Z (Or.inl Z)) (qJ (qB (i:=8) MX.nd Z (Or.inl Z)) Qf))))
   (qg (Qk (zh yA U.cl u.mo (qv 0) (qc (qv 5) (qc (qv 3) (qc (qv 7) qb)))) (cq Z (qJ (qB (i:=9) MX.nd Z (Or.inl Z)) (qJ (qB (i:=10) MX.nd Z (Or.inl Z)) Qf))))
   (qg (Zj u (qz (qv 0)) (qv 2) (qv 10))
   (qg (qA (qy qR (qv 9) qj (qw _)) (qh (qm (qG (qc qj (qc (qv 2) (qc (qv 8) qb)))))) qq)
   (qh (qm (qG (qc qj (qc (qv 9) qb))))))))))))))),?_]
  refine#[_,Z,pr,_,Z,.tup hp,Z,_,_,Z,_,_,Z,_,_,Z,Z,?_]
  refine#[_,Z,p,Z,b.no,_,Z,p,ta,hk,bd,lg,n,D,nm,Z,b,λr=>?_,λe x r hx=>?_]
  ·have m:Qr D nm age (aF D.t (aq D age) nm ds)=([.str "held",.str "unknown"],D.kn):=by unfold Qr;rw[r]
   rw[m]at q;refine#[_,Z,Z,_,Z,?_]
   refine qK (λ_=>?_) (λy=>absurd (Jf Z) y)
   refine#[HU,λo g=>?_]
   exact q o _ (MM.upd g).mv qa (b.same (MM.upd g))
  ·refine#[_,Z,Z,_,Z,?_]
   refine qK (λy=>nomatch (Jz y)) (λ_=>?_)
   refine#[_,Z,p,Z,b.no,_,Z,_,Z,p,ta,hk,bd,lg,x,n,D,e,age,Z,b,hx,_,Z,?_]
   cases ht:af D e age with
   |false=>
    have m:Qr D nm age (aF D.t (aq D age) nm ds)=([.str "held",.str "age"],D.kn):=by unfold Qr;rw[r];simp only;rw[ht];rfl
    rw[m]at q;refine zR ?_
    refine#[HU,λo g=>?_]
    exact q o _ (MM.upd g).mv qa (b.same (MM.upd g))
   |true=>
    refine zt ?_
    obtain⟨a0,a1⟩:=mU ht ok.l0;obtain⟨xs,ak,eh,X,M⟩:=b.ks.at a0 a1;refine#[_,Z,p,_,Z,b.h_table U,_,Z,p,_,Z,b.h_house_keys U,_,Z,hk,_,_,_,Z,Z,MV.of eh,X,_,Z,ta,ak,pr,pc,nm,age,D.t,aq D age,ds,Z,.inr b.tb,.inr M,.tup hp,.tup W,hn,ok.tp,l5,I,λy H1 B t=>?_]
    have F:=b.same B;have J:=hx.same B;have j:gU H1 y (aF D.t (aq D age) nm ds):=t
    cases er:aF D.t (aq D age) nm ds with
    |none=>
     rw[er]at j q;have G:y= .non:=j
     subst G;have m:Qr D nm age none=([.str "held",.str "false"],D.kn):=by unfold Qr;rw[r];simp only;rw[ht];rfl
     rw[m]at q;refine#[_,Z,Z,_,Z,?_]
     refine qK (λ_=>?_) (λy=>absurd (Jf Z) y)
     refine#[HU,λo g=>?_]
     exact q o _ (B.trans (MM.upd g)).mv qa (F.same (MM.upd g))
    |some cd=>
     obtain⟨c,d⟩:=cd;rw[er]at j q;obtain⟨pp,G,O⟩:=j;subst G;refine#[_,Z,Z,_,Z,?_]
     refine qK (λy=>nomatch (Jz y)) (λ_=>?_)
     refine#[_,Z,pp,_,Z,.tup O,Z,_,_,Z,_,_,Z,Z,?_]
     refine#[_,Z,p,Z,F.no,_,Z,_,Z,_,Z,p,ta,hk,bd,lg,x,n,D,e,age,c,Z,F,J,ht,λo a' H2 s2 g L=>#[o,_,Z,.tup g,Z,_,_,Z,_,_,Z,Z,?_]]
     have S:=F.same s2;obtain⟨H3,dp,m3,N⟩:=S.kb.put nm (by have:=ok.nl;lia) L
     refine#[_,Z,_,Z,p,_,Z,S.h_buttons U,_,Z,bd,H3,Z,dp,?_]
     have Y:=S.putK m3 N;have mm:Mv [bd] H H3:=(B.trans s2).mv.trans m3
     refine#[_,Z,Z,_,Z,?_]
     by_cases v:(Zt D.near D.far e age c).1="near"
     ·have m:Qr D nm age ↑(c,d)=([.str "open",.str nm,.int d],Qw D.kn nm (Zt D.near D.far e age c).2):=by unfold Qr;rw[r];simp only;rw[Jd ht,Jd v]
      rw[m]at q;refine qK (λ_=>?_) (λy=>absurd (Jf (by rw[v])) y)
      refine#[_,Z,_,Z,HV,λR l=>?_]
      exact q R _ (mm.trans (MM.upd l).mv) qa (Y.same (MM.upd l))
     ·have m:Qr D nm age ↑(c,d)=([.str "held",.str (Zt D.near D.far e age c).1],Qw D.kn nm (Zt D.near D.far e age c).2):=by unfold Qr;rw[r];simp only;rw[Jd ht,Jc v]
      rw[m]at q;refine qK (λy=>absurd (Jz y) (by intro z;injection z with z;exact v z)) (λ_=>?_)
      refine#[_,Z,HU,λR l=>?_]
      exact q R _ (mm.trans (MM.upd l).mv) qa (Y.same (MM.upd l))
theorem rL(a:Nz K C "hear" "Door.hear" cL ["self","thing"])(T:Na K mg tk)(U:NW K C)(Y:Df P w K mg base "is_press" W5 5 fF)(yH:Mf P w K mg base C "answer_to" ["self","press"] 4 (nM K C)):Mf P w K mg base C "hear" V1 6 (mK K C):=by
 refine a.mq Ov λf _ A _ s H vs Q E N h=>?_
 ·obtain⟨⟨p,ta,hk,bd,lg⟩,D,L,x,o,rfl,⟨b,⟨rs,B,M⟩,J⟩,n1,ok,tg,qn,S⟩:=h
  simp only at b B J S
  refine#[_,(qg (qA (zW (zn (qu Y N.mo (qc (qv 1) qb)))) (qh (qm (qG (qc qj (qc qj qb))))) qq)
   (qg (qE (i:=2) Ov.nd Z (Or.inl Z) (zh yH U.cl N.mo (qv 0) (qc (qv 1) qb)))
   (qg (zb (QU JX Ia Ib Qi (qz (qv 0)) (qc (qG (qc qj (qc (qv 1) (qc (qv 2) qb)))) qb)))
   (qh (qm (qv 2)))))),?_]
  refine#[_,Z,x,_,Z,tg.b,λH1 g=>#[_,Z,?_]]
  cases o with
  |none=>exact zR #[HU,λq X=>qn Z q _ (g.trans (MM.upd X)) qa]
  |some PP=>
  obtain⟨pr,rfl,O,j⟩:=tg;have q:=S PP Z;refine zt ?_
  have v:=b.same g;obtain⟨f0,F,_⟩:=id v.kb;have l:NT [bd] H1:=NT.one F trivial
  refine#[_,Z,p,Z,v.no,_,Z,p,ta,hk,bd,lg,pr,L.length,D,PP.nm,PP.age,PP.ds,Z,v,ok,Nj.same g O,j.nm,j.l,j.dg,λG H2 n m R=>?_]
  have e:=n _ _ (zu (zr (g _ _ B) F (by intro z;cases z))) (g _ _ B)
  have y:=(M.same g).mv n l;refine#[_,Z,p,_,Z,R.h_log U,.inl #[Z,_,MV.of e],_,Z,_,Z,HV,λr I=>?_]
  have d:=MM.upd (o:= .tup [.str "hear",.ref pr,.ref G]) I
  have W:=R.same d;have t:=Nj.same d (Nj.mv n l (Nj.same g O));have u:NT [lg] _:=NT.one (d _ _ e) trivial
  refine#[lg,_,_,Z,Z,d _ _ e,by rw[Jb,M.1,Jn];lia,#[_,Z,?_]]
  exact q pr G _ Z (((g.mv.trans (n.mono (λc h z=>h (by rw[Jg.mp z];exact JB ..)))).trans d.mv).trans (Mv.upd1.mono (λc h z=>h (by rw[Jg.mp z];exact JC _ (JB ..))))) (Nj.mv Mv.upd1 u t) (Mv.upd1.tup u (d _ _ m)) (Nk.push (a:=#[p,ta,hk,bd,lg]) W (d _ _ e) (y.same d) ((Ng.mv n l (zu (CZ F v)) (Ng.same g J)).same d) #[pr,G,.inl qa,t,j,d _ _ m,wF D PP,AD D PP])
end
section
variable{P:Ξ}{w:Ω}{K:ι}{mg:MK}{base:Ψ}{tk:Nat->Tok}{C:Δ}
theorem gf(a:Nz K C "close_below" "Door.close_below" Zh ["self","age"])(T:Na K mg tk)(U:NW K C):Mf P w K mg base C "close_below" W6 1 (jx K C):=by
 refine a.mq fY λf _ A _ s H F Q E G h=>?_
 ·obtain⟨⟨p,ta,hk,bd,lg⟩,D,L,age,rfl,⟨b,⟨rs,j,t⟩,n⟩,n1,q⟩:=h
  simp only at b j n q
  refine#[_,(qg (zp (qv 0) (qp (yv Z) T.b_max PyProof.Rows.boot_max (qc (qz (qv 0)) (qc (qv 1) qb))))
   (qh (zb (QU JX Ia Ib Qi (qz (qv 0)) (qc (qG (qc qj (qc (qv 1) qb))) qb))))),?_]
  have q:=q _ _ Z;obtain⟨z,v⟩:∃z:Int,z=if age>D.least then age else D.least:=#[_,Z]
  rw[<- v]at q;obtain⟨x,g⟩:=id b.ob;obtain⟨dx,B,m,u⟩:=b.putLeast U z;have d:=m _ _ (zu (zr j g (by intro z;cases z))) j
  have i:=t.mv m (NT.one g trivial);refine#[_,Z,p,_,Z,b.h_least_age U,_,Z,_,_,Z,_,Z,p,_,Z,by rw[<- v];exact B,?_]
  refine#[_,Z,p,_,Z,u.h_log U,.inl #[Z,_,MV.of d],_,Z,HU,λr l=>?_]
  have e:=MM.upd (o:= .tup [.str "close",.int age]) l
  have y:=u.same e;refine#[lg,_,_,Z,Z,e _ _ d,by rw[Jb,t.1,Jn];lia,?_]
  exact q _ (((m.mono (λc h z=>h (by rw[Jg.mp z];exact JB ..))).trans e.mv).trans (Mv.upd1.mono (λc h z=>h (by rw[Jg.mp z];exact JC _ (JB ..))))) (Nk.push (a:=#[p,ta,hk,bd,lg]) y (e _ _ d) (i.same e) ((Ng.mv m (NT.one g trivial) (zu (EI g b)) n).same e) (show ON _ r (.close age)from .inl qa))
theorem j9(a:Nz K C "log_now" "Door.log_now" aP ["self"])(T:Na K mg tk)(U:NW K C):Mf P w K mg base C "log_now" y8 1 (Ag K C):=by
 refine a.mq jZ λf _ A _ s H i Q E j h=>?_
 ·obtain⟨⟨p,ta,hk,bd,lg⟩,D,L,rfl,⟨b,⟨rs,d,e⟩,g⟩,q⟩:=h
  simp only at b d g
  refine#[_,(qh (qm (qI qZ T.b_tuple JD (qc (qz (qv 0)) qb)))),?_]
  exact#[_,Z,p,_,Z,b.h_log U,lg,_,Z,.inl #[MV.of d,λt c=>q t _ (MM.upd c) #[rs,.inl qa,e.same (MM.upd c)]]]
theorem oK(a:Nz K C "learn" "Door.learn" cy ["self","one","other"])(T:Na K mg tk)(U:NW K C)(xH:Mf P w K mg base C "read_right" V1 6 (nv K C))(xD:Mf P w K mg base C "is_full" y8 1 (mh K C)):Mf P w K mg base C "learn" Y5 7 (ie K C):=by
 refine a.mq Nf λf _ A _ s H vs Q E F h=>?_
 ·obtain⟨⟨p,ta,hk,bd,lg⟩,D,L,I,p2,⟨nm,age,b3⟩,⟨j,d,fO⟩,c,d1,d2,rfl,⟨b,⟨rs,el,ro⟩,kr⟩,n1,ok,v,n,J,R,r1,r2,en,ea,N,c0,q⟩:=h
  simp only at b el kr q en ea N
  subst en;subst ea
  refine#[_,(qg (qE (i:=3) Nf.nd Z (Or.inl Z) (zh xH U.cl F.mo (qv 0) (qc (qv 1) qb)))
   (qg (qA (qy aB (qv 3) zk (qw _)) zS qq)
   (qg (qE (i:=4) Nf.nd Z (Or.inl Z) (zh xH U.cl F.mo (qv 0) (qc (qv 2) qb)))
   (qg (qA (QW.pt (Q0 (qy aB (qv 4) zk (qw _)) (Q0 (qy (FH F) (aN dz (qv 2) bW (bU qi)) (aN dz (qv 1) bW (bU qi)) (qw _)) (QH (qy aZ (qD qQ (qv 4) qi) (qC zo (qD qQ (qv 3) qi) qi) (qw _)))))) zS qq)
   (qg (Qk (qv 1) (cq Z (qJ (qB (i:=5) Nf.nd Z (Or.inl Z)) (qJ (qB (i:=6) Nf.nd Z (Or.inl Z)) (qJ (qB (i:=7) Nf.nd Z (Or.inl Z)) Qf)))))
   (qg (qA (kF F (qv 5) (qz (qv 0))) zS qq)
   (qg (qA (zn (qM xD U.cl F.mo (qv 0))) zS qq)
   (qg (Zj F (qz (qv 0)) (qv 5) (qG (qc (qv 6) (qc (qD qQ (qv 4) qi) (qc zk qb)))))
   (qh (zb (QU JX Ia Ib Qi (qz (qv 0)) (qc (qG (qc qj (qc (qv 1) (qc (qv 2) qb)))) qb)))))))))))),?_]
  refine#[_,Z,p,Z,b.no,_,Z,p,ta,hk,bd,lg,L.length,D,.ref I,↑_,Z,b,ok,#[I,Z,v,J],λy1 H1 O t1=>?_]
  have t1:gU H1 y1 (ir D _):=t1
  rw[r1]at t1;obtain⟨f1,rfl,a2⟩:=t1;refine#[_,Z,Z,_,Z,qK (λy=>nomatch (Jz y)) (λ_=>?_)]
  have b1:=b.same O;refine#[_,Z,p,Z,b1.no,_,Z,p,ta,hk,bd,lg,L.length,D,.ref p2,↑_,Z,b1,ok,#[p2,Z,Nj.same O n,R],λy2 H2 s2 t2=>?_]
  have t2:gU H2 y2 (ir D _):=t2
  rw[r2]at t2;obtain⟨f2,rfl,W⟩:=t2;have b2:=b1.same s2;have Y:=Nj.same (O.trans s2) v;have X:=Nj.same (O.trans s2) n;obtain⟨c1,e1,_⟩:=id Y;obtain⟨c2,e2,_⟩:=id X;simp only at e1 e2
  refine#[_,Z,Z,_,Z,?_]
  refine qK (λy=>nomatch (Jz y)) (λ_=>?_)
  refine#[_,Z,_,Z,p2,_,Z,e2,λt3 H3 s3 h3 _=>#[_,Z,_,Z,I,_,Z,s3 _ _ e1,λt4 H4 s4 h4 _=>?_]]
  have a0:H4 t3=↑(.tup [.str j,.int d]):=s4 _ _ h3
  have a3:H4 t4=↑(.tup [.str j,.int d]):=h4
  have G:=(s3.trans s4);have SS:=(O.trans s2).trans G;refine#[1,⋯,Px.pair a0 a3,_,Z,zt ?_]
  refine#[_,Z,f2,_,_,_,Z,Z,MW.of (G _ _ W),Z,_,Z,f1,_,_,_,Z,Z,MW.of (G _ _ (s2 _ _ a2)),Z,_,_,Z,Z,Z,_,Z,?_]
  refine fM Z ?_
  have S:=b2.same G;refine#[_,Z,I,_,Z,.tup (G _ _ e1),Z,_,_,Z,_,_,Z,_,_,Z,Z,?_]
  have g4:Nd H4 bd (.str j) none:=by
   rcases S.kb.get j with⟨_,g⟩|⟨e,x,e5,_⟩
   ·exact g
   ·rw[N]at e5;cases e5
  refine#[_,Z,_,Z,p,_,Z,S.h_buttons U,bd,_,Z,g4,_,Z,?_]
  refine zt ?_
  refine#[_,Z,p,Z,S.no,p,ta,hk,bd,lg,L.length,D,Z,S,_,Z,?_]
  refine qK (λy=>absurd (Jz y) (by lia)) (λ_=>?_)
  refine#[_,Z,_,Z,f2,_,_,_,Z,Z,MW.of (G _ _ W),Z,HV,λt5 a1=>?_]
  have u5:=MM.upd (o:= .tup [.int d,.int (c+1),.non]) a1
  have M:=S.same u5;obtain⟨f0,hd,_⟩:=id M.kb;have B:=SS.trans u5;obtain⟨H6,dp,t,a4⟩:=M.kb.put j (a:=t5) (e:=#[d,c+1,none]) (by have:=ok.nl;lia) #[.non,qa,Z]
  refine#[_,Z,p,_,Z,M.h_buttons U,_,Z,bd,H6,Z,dp,?_]
  have b6:=M.putK t a4;have u:=t _ _ (zu (zr (B _ _ el) hd (by intro z;cases z))) (B _ _ el)
  have l:NT [bd] _:=NT.one hd trivial
  have b0:=(ro.same B).mv t l;refine#[_,Z,p,_,Z,b6.h_log U,.inl #[Z,_,MV.of u],_,Z,_,Z,HV,λr a5=>?_]
  have m:=MM.upd (o:= .tup [.str "learn",.ref I,.ref p2]) a5
  have b7:=b6.same m;refine#[lg,_,_,Z,Z,m _ _ u,by rw[Jb,ro.1,Jn];lia,?_]
  exact q _ (((B.mv.trans (t.mono (λc h z=>h (by rw[Jg.mp z];exact JB ..)))).trans m.mv).trans (Mv.upd1.mono (λc h z=>h (by rw[Jg.mp z];exact JC _ (JB ..))))) (Nk.push (a:=#[p,ta,hk,bd,lg]) b7 (m _ _ u) (b0.same m) ((Ng.mv t l (zu (CZ hd M)) (Ng.same B kr)).same m) #[I,p2,.inl qa,Nj.same m (Nj.mv t l (Nj.same B v)),Nj.same m (Nj.mv t l (Nj.same B n)),J,R])
theorem iP(a:Nz K C "twin_door" "Door.twin_door" Z4 ["self"])(T:Na K mg tk)(U:NW K C)(yE:Mi P w K mg base C "Door" y9 1 (lE K C)):Mf P w K mg base C "twin_door" y8 3 (tQ K C):=by
 refine a.mq NO λf _ A _ s H vs Q E hr h=>?_
 ·obtain⟨⟨p,ta,hk,bd,lg⟩,D,L,rfl,⟨b,⟨rs,el,ro⟩,kr⟩,k8,q⟩:=h
  simp only at b el kr q
  refine#[_,(qg (qE (i:=1) NO.nd Z (Or.inl Z) (aQ yE hr.mo (qc (qz (qv 0)) (qc (qz (qv 0)) (qc (qz (qv 0)) (qc (qz (qv 0)) (qc (qz (qv 0)) qb)))))))
   (qg (zp (qv 1) (qz (qv 0)))
   (qg (zp (qv 1) (qI vQ T.b_dict PyProof.Rows.boot_dict (qc (qz (qv 0)) qb)))
   (qg (zp (qv 1) (qI QF T.b_list JY (qc (qz (qv 0)) qb)))
   (qh (qm (qv 1))))))),?_]
  refine#[_,Z,p,_,Z,b.h_table U,_,Z,p,_,Z,b.h_house_keys U,_,Z,p,_,Z,b.h_near U,_,Z,p,_,Z,b.h_far U,_,Z,p,_,Z,b.h_most U,λx dx I a3 a0=>?_]
  have X:MM H (MO (MO H dx (.own x)) x (.ins C dx [])):=(MM.upd a3).trans (MM.upd (by rw[qk a0.symm];exact I))
  refine#[x,ta,hk,dx,D.near,D.far,D.most,D.t,D.kss,Z,qa,.inr (MM.sqt X b.tb),Ng.same X kr,k8,λm d B t H1 h1 h2 h3 mv W a1=>#[Z,?_]]
  have S1:MM H H1:=λc o e=>mv c o (zu (qr e I)) (X c o e)
  obtain⟨l,e1⟩:=id W.ob;obtain⟨as,y,_⟩:=id W.ks;have u:d≠x:=zr y e1 (by intro z;cases z)
  obtain⟨v,hd,b0,a2,nd⟩:=id b.kb;have b1:=b.same S1;refine#[_,Z,p,_,Z,b1.h_least_age U,_,Z,x,_,Z,nP U e1 D.least,?_]
  have S2:=S1.put (o:= .ins C l (dF #[D.t,D.kss,D.near,D.far,D.most,D.least,[]] m d B t)) I
  have b2:=b.same S2;refine#[_,Z,p,_,Z,b2.h_buttons U,bd,_,Z,S2 _ _ hd,λg r=>?_]
  have F:g≠x:=(qr qa r).symm
  have O:H g=none:=QK r S2
  have S3:=S2.put (o:= .dK (db v.1 v.2)) O
  refine#[_,Z,x,_,Z,tH U (by rw[qk F.symm];exact qa) g,?_]
  have Y:=S3.put (o:= .ins C l (dF #[D.t,D.kss,D.near,D.far,D.most,D.least,[]] m d g t)) I
  have b4:=b.same Y;refine#[_,Z,p,_,Z,b4.h_log U,lg,_,Z,.inl (MV.of (Y _ _ el)),λj n=>?_]
  have R:j≠x:=(qr qa n).symm
  have N:H j=none:=QK n Y
  have S5:=Y.put (o:= .lst (rs.map V.ref)) N
  refine#[_,Z,x,_,Z,Du U (by rw[qk R.symm];exact qa) j,?_]
  have S6:=S5.put (o:= .ins C l (dF #[D.t,D.kss,D.near,D.far,D.most,D.least,[]] m d g j)) I
  have S:_=↑(HO.dK (db v.1 v.2)):=(qk (o:= .ins C l (dF #[D.t,D.kss,D.near,D.far,D.most,D.least,[]] m d g t)) F).trans (qa (H:=MO H1 x (.ins C l (dF #[D.t,D.kss,D.near,D.far,D.most,D.least,[]] m d B t))) (a:=g) (o:= .dK (db v.1 v.2)))
  have a4:j≠g:=(qr S n).symm
  have a5:d≠g:=qr (by rw[qk u];exact y) r
  have b3:d≠j:=qr (by rw[qk u,qk a5,qk u];exact y) n
  have M:Mv [x] H1 _:=(((Mv.upd1 (a:=x) (H:=H1) (o:= .ins C l (dF #[D.t,D.kss,D.near,D.far,D.most,D.least,[]] m d B t))).trans (MM.upd (o:= .dK (db v.1 v.2)) r).mv).trans (Mv.upd1 (o:= .ins C l (dF #[D.t,D.kss,D.near,D.far,D.most,D.least,[]] m d g t)))).trans (MM.upd (o:= .lst (rs.map V.ref)) n).mv
  have M6:=M.trans (Mv.upd1 (o:= .ins C l (dF #[D.t,D.kss,D.near,D.far,D.most,D.least,[]] m d g j)))
  have nt:NT [x] H1:=NT.one e1 trivial
  have J:∀(G:Hp) (o:HO),MO (MO G j (.lst (rs.map V.ref))) x o j=↑(HO.lst (rs.map V.ref)):=λG o=>by rw[qk R];exact qa
  refine#[_,Z,q #[x,m,d,g,j] _ S6 I (QK h1 X) O N #[#[#[l,qa],M6.sqt nt W.tb,W.ks.mv M6 nt (zu u),#[v,?_,λe he=>(b0 e he).same S6,a2,nd],#[rs,J _ _,L4 ro.1],b3.symm],#[rs,J _ _,ro.same S6],Ng.mv M6 nt (zu u) a1]]
  rw[qk F,qk a4.symm];exact S
theorem lv(a:Nz K C "__init__" "Door.__init__" Q1 ["self","table","keys","near","far","most"])(T:Na K mg tk)(U:NW K C):Mf P w K mg base C "__init__" y9 1 (rE K C):=(cF a T U).weak (by
 rintro j H Q E ⟨p,a,b,dx,n,f,m,t,c,e,h1,g,⟨d,h,l,r⟩,i,q⟩
 exact#[p,a,b,dx,n,f,m,t,c,e,h1,g,#[d,.inr h.up,l,r],i,q])
theorem jl(a:Nz K C "keys_now" "Door.keys_now" ao ["self"])(T:Na K mg tk)(U:NW K C):Mf P w K mg base C "keys_now" y8 1 (tY K C):=by
 refine a.mq jn λf _ A _ s H u Q E v h=>?_
 ·obtain⟨p,ta,hk,bd,lg,n,D,rfl,b,q⟩:=h
  refine#[_,(qh (qm (qI ZL T.b_tuple JD (qc (qz (qv 0)) qb)))),?_]
  obtain⟨e,o,r,c⟩:=id b.ks;refine#[_,Z,p,_,Z,b.h_house_keys U,hk,_,Z,.inl (MV.of o),λt m d g=>?_]
  exact q t e m d g r λi a ks j l=>MM.sqt d (c i a ks j l)
end
section
variable{P:Ξ}{w:Ω}{K:ι}{mg:MK}{base:Ψ}{tk:Nat->Tok}{C:Δ}
theorem gl(a:Nz K C "closed_now" "Door.closed_now" ZD ["self"])(T:Na K mg tk)(U:NW K C):Mf P w K mg base C "closed_now" y8 1 (ny K C):=by
 refine a.mq gs λf _ A _ s H c Q E d h=>?_
 ·obtain⟨p,ta,hk,bd,lg,n,D,rfl,b,q⟩:=h
  refine#[_,(qh (qm (qz (qv 0)))),?_]
  exact#[_,Z,p,_,Z,b.h_least_age U,q]
end
section
variable{P:Ξ}{w:Ω}{K:ι}{mg:MK}{base:Ψ}{tk:Nat->Tok}{C:Δ}
theorem gb(a:Nz K C "bounds_told" "Door.bounds_told" Zo ["self"])(T:Na K mg tk)(U:NW K C):Mf P w K mg base C "bounds_told" y8 1 (om K C):=by
 refine a.mq fQ λf _ A _ s H d Q E e h=>?_
 ·obtain⟨p,ta,hk,bd,lg,n,D,rfl,b,q⟩:=h
  refine#[_,(qh (qm (qG (qc (qz (qv 0)) (qc (qz (qv 0)) (qc (qz (qv 0)) qb)))))),?_]
  exact#[_,Z,p,_,Z,b.h_near U,_,Z,p,_,Z,b.h_far U,_,Z,p,_,Z,b.h_most U,HV,λt c=>q t _ (MM.upd c) qa]
end
section
variable{P:Ξ}{w:Ω}{K:ι}{mg:MK}{base:Ψ}{tk:Nat->Tok}{C fI:Δ}{x:Xa}
theorem ju(a:Nz K C "__init__" "Button.__init__" ag ["self","name","table","key","age","step"])(T:Na K mg tk)(U:Of K C):Mf P w K mg base C "__init__" X5 1 (mt K C):=by
 refine a.mq jy λf _ A _ s H O Q E R h=>?_
 ·obtain⟨p,a,b,dx,nm,age,step,t,ks,rfl,n,I,M,q⟩:=h
  refine#[_,(qg (zp (qv 0) (qv 1))
   (qg (zp (qv 0) (qI ZL T.b_tuple JD (qc (qv 2) qb)))
   (qg (zp (qv 0) (qI ZL T.b_tuple JD (qc (qv 3) qb)))
   (qg (zp (qv 0) (qv 4))
   (qg (zp (qv 0) (qv 5))
   (qg (zp (qv 0) qi)
   (qg (zp (qv 0) qi)
   (qh (zp (qv 0) (zd (qc qi (qc zk qb)))))))))))),?_]
  refine#[_,Z,_,Z,p,_,Z,Z7 U.cl n U.n_name 0,?_]
  refine#[_,Z,a,_,Z,ra n I,λta N i G=>#[_,Z,p,_,Z,Z7 U.cl (i _ _ qa) U.n_table 1,?_]]
  have F:=i _ _ qa;refine#[_,Z,b,_,Z,ra F ((ra n M).same i),λka H3 g hk=>#[_,Z,p,_,Z,Z7 U.cl (g _ _ qa) U.n_key 2,?_]]
  have v:=g _ _ qa;have m:=zy (o:= .ins C dx [("name",.str nm),("table",.ref ta),("key",.ref ka)]) v (MM.sqt g (zy F G))
  have j:=zy (o:= .ins C dx [("name",.str nm),("table",.ref ta),("key",.ref ka)]) v hk
  refine#[_,Z,_,Z,p,_,Z,Z7 U.cl qa U.n_age 3,?_]
  refine#[_,Z,_,Z,p,_,Z,Z7 U.cl qa U.n_step 4,?_]
  refine#[_,Z,p,_,Z,Z7 U.cl qa U.n_next_count 5,?_]
  refine#[_,Z,p,_,Z,Z7 U.cl qa U.n_bound 6,?_]
  refine#[HU,λce c=>#[_,Z,p,_,Z,Z7 U.cl (by rw[qk (qr qa c)];exact qa) U.n_cells 7,?_]]
  have d:=qr qa c;have J:Mv [p] H N:=Mv.upd1.trans i.mv
  have L:Mv [p] H H3:=(J.trans Mv.upd1).trans g.mv
  have r:∀D y u B x,Mv [p] H (MO (MO (MO (MO (MO H3 p D) p y) p u) p B) p x):=λD y u B x=>((((L.trans Mv.upd1).trans Mv.upd1).trans Mv.upd1).trans Mv.upd1).trans Mv.upd1
  have l:H ce=none:=by
   cases e:H ce with
   |none=>rfl
   |some o=>exact absurd (c.symm.trans (r _ _ _ _ _ ce o (λz=>d (Jg.mp z).symm) e)) (by intro h;cases h)
  refine q ta ka ce _ l (((r _ _ _ _ _).trans (MM.upd c).mv).trans Mv.upd1) #[#[dx,qa],?_,?_,?_]
  ·exact zy (by rw[qk d];exact qa) (MM.sqt (MM.upd c) (zy qa (zy qa (zy qa (zy qa m)))))
  ·exact zy (by rw[qk d];exact qa) (MM.sqt (MM.upd c) (zy qa (zy qa (zy qa (zy qa j)))))
  ·rw[qk d.symm];exact qa
theorem iO(a:Nz K C "is_worn" "Button.is_worn" ZX ["self"])(T:Na K mg tk)(U:Of K C):Mf P w K mg base C "is_worn" y8 1 (mC K C):=by
 refine a.mq iS λf _ A _ s H c Q E d h=>?_
 ·obtain⟨p,ta,ka,ce,B,rfl,b,q⟩:=h
  refine#[_,(qh (qm (zz oP (qz (qv 0)) (zj (v:= .int 4096) Z T.g_COUNTS #[_,Z]) (qw _)))),?_]
  exact#[_,Z,p,_,Z,b.h_next_count U,_,_,Z,Z,q]
theorem eR(a:Nz K C "must_write" "Button.must_write" Q4 ["self"])(T:Na K mg tk)(U:Of K C)(d:Mf P w K mg base C "is_worn" y8 1 (mC K C)):Mf P w K mg base C "must_write" y8 2 (lF K C):=by
 refine a.mq fG λf _ A _ s H i Q E g h=>?_
 ·obtain⟨p,ta,ka,ce,B,rfl,b,q⟩:=h
  refine#[_,(qh (qm (Qc (zz qR (qz (qv 0)) (qz (qv 0)) (qw _)) (Qx (gA (qM d U.cl g.mo (qv 0))))))),?_]
  refine#[_,Z,p,_,Z,b.h_next_count U,_,Z,p,_,Z,b.h_bound U,Z,_,Z,?_]
  unfold Bt.mw at q;refine qK (λz=>?_) (λz=>?_)
  ·refine#[_,Z,p,Z,b.no,p,ta,ka,ce,B,Z,b,_,Z,?_]
   have c:B.cnt=B.bnd:=by have:=Jz z;injection this
   rw[Jf c]at q;exact q
  ·have c:¬B.cnt=B.bnd:=λe=>z (Jf (by rw[e]))
   rw[Jq c]at q;exact q
theorem fg(a:Nz K C "spare_cell" "Button.spare_cell" Q6 ["self"])(T:Na K mg tk)(U:Of K C):Mf P w K mg base C "spare_cell" y8 1 (jk K C):=by
 refine a.mq eU λf _ A _ s H c Q E d h=>?_
 ·obtain⟨p,ta,ka,ce,B,rfl,b,q⟩:=h
  refine#[_,(qg (qA (qy qR (qD qO (qz (qv 0)) qi) (qz (qv 0)) (qw _)) (qh (qm qi)) qq)
   (qh (qm qi))),?_]
  refine#[_,Z,p,_,Z,b.h_cells U,ce,_,_,_,Z,Z,MV.of b.cs,Z,_,Z,p,_,Z,b.h_bound U,DJ _ _,_,Z,?_]
  rw[EW];unfold Bt.sp at q;refine qK (λz=>?_) (λz=>?_)
  ·rw[Jd (Jz z)]at q;exact q
  ·rw[Jc (λe=>z (Jf e))]at q;exact q
theorem eA(a:Nz K C "write_bound" "Button.write_bound" QR ["self"])(T:Na K mg tk)(U:Of K C)(n:Mf P w K mg base C "spare_cell" y8 1 (jk K C)):Mf P w K mg base C "write_bound" y8 2 (rb K C):=by
 refine a.mq Nu λf _ A _ s H r Q E m h=>?_
 ·obtain⟨p,ta,ka,ce,B,rfl,b,q⟩:=h
  obtain⟨dx,l⟩:=b.ob;refine#[_,(qg (qE (i:=1) Nu.nd Z (Or.inl Z) (qM n U.cl m.mo (qv 0)))
   (qg (zp (qv 0) (qp (mW Z) T.b_min PyProof.Rows.boot_min (qc (qC zo (qz (qv 0)) (qz (qv 0))) (qc (zj (v:= .int 4096) Z T.g_COUNTS #[_,Z]) qb))))
   (qh (Qk (qz (qv 0)) (bw (qz (qv 0)) (qv 1) QV))))),?_]
  refine#[_,Z,p,Z,b.no,p,ta,ka,ce,B,Z,b,?_]
  refine#[_,Z,p,_,Z,b.h_bound U,_,Z,p,_,Z,b.h_step U,_,_,Z,Z,_,_,Z,_,Z,p,_,Z,MS.put U l 6 _ Z U.n_bound,?_]
  have g:MS K C (MO H p (.ins C dx (bF {B with bnd:=B.nb} ta ka ce))) p ta ka ce {B with bnd:=B.nb}:=b.to (B':={B with bnd:=B.nb}) (Mv.upd1.mono (λc h z=>h (by rw[Jg.mp z];exact JB ..))) Z Z qa (by rw[qk b.ne.symm];exact b.cs)
  refine#[_,Z,p,_,Z,g.h_bound U,_,Z,p,_,Z,g.h_cells U,_,Z,?_]
  unfold Bt.sp Bt.wr at *
  have mv:∀o o',Mv [p,ce] H (MO (MO H p o) ce o'):=λo o' c u j e=>by
   rw[qk (λz=>j (by rw[z];exact JC _ (JB ..))),qk (λz=>j (by rw[z];exact JB ..))];exact e
  by_cases d:B.x=↑B.bnd
  ·rw[Jd d]
   rw[Jd d]at q;refine#[ce,_,_,1,Z,Z,g.cs,Z,?_]
   exact q _ (mv _ _) (b.to (B':={B with bnd:=B.nb,y:=↑B.nb}) (mv _ _) Z Z (by rw[qk b.ne];exact qa) qa)
  ·rw[Jc d]
   rw[Jc d]at q;refine#[ce,_,_,0,Z,Z,g.cs,Z,?_]
   exact q _ (mv _ _) (b.to (B':={B with bnd:=B.nb,x:=↑B.nb}) (mv _ _) Z Z (by rw[qk b.ne];exact qa) qa)
theorem ef(a:Nz K C "press_once" "Button.press_once" Q5 ["self","deed"])(T:Na K mg tk)(U:Of K C)(X:OE K mg x fI)(dZ:Mf P w K mg base C "is_worn" y8 1 (mC K C))(dO:Mf P w K mg base C "must_write" y8 2 (lF K C))
  (xN:Mf P w K mg base C "write_bound" y8 2 (rb K C))(zC:Df P w K mg base "press_of" W7 3 (tV K)):My P w K mg base C "press_once" Y9 4 (gp K C x):=by
 refine a.my NA λf _ A _ s H vs Q E N h=>?_
 ·obtain⟨p,ta,ka,ce,B,d,rfl,b,hn,hl,Y,hd,tw,q⟩:=h
  refine#[_,(qg (qA (zn (qM dZ U.cl N.mo (qv 0))) (qh (QP Qn Z Z Ii Z X.g_Worn X.e_Worn (qc qj qb) Z)) qq)
   (qg (qA (zn (qM dO U.cl N.mo (qv 0))) (qh (zb (qM xN U.cl N.mo (qv 0)))) qq)
   (qg (qE (i:=2) NA.nd Z (Or.inl Z) (qu zC N.mo (qc (qz (qv 0)) (qc (qz (qv 0)) (qc (qz (qv 0)) (qc (qz (qv 0)) (qc (qz (qv 0)) (qc (qv 1) qb))))))))
   (qg (wu Ff (qv 0) qi)
   (qh (qm (qv 2))))))),?_]
  refine#[_,Z,p,Z,b.no,p,ta,ka,ce,B,Z,b,_,Z,?_]
  refine qK (λz=>#[HS,λa ha=>(tw (Jz z)).mk (MM.refl _) ha]) (λz=>?_)
  have S:B.cnt<4096:=by have:¬4096<=B.cnt:=λy=>z (Jf y);lia
  have q:=q S;clear z;refine#[_,Z,p,Z,b.no,p,ta,ka,ce,B,Z,b,_,Z,?_]
  refine qK (λz=>?_) (λz=>?_)
  ·refine#[_,Z,p,Z,b.no,p,ta,ka,ce,B,Z,b,λH1 W j=>?_]
   have v:({B.wr with cnt:=B.wr.cnt+1}:Bt)=B.pr:=by unfold Bt.pr;rw[Jd z,Ab]
   have n:=C3 B;have D:=EB B;have M:=Cw B;have O:=wS B;have o:=Ab B;generalize B.wr=g at j v n D M O o
   refine#[_,Z,p,_,Z,j.h_table U,_,Z,p,_,Z,j.h_key U,_,Z,p,_,Z,j.h_name U,_,Z,p,_,Z,j.h_age U,_,Z,p,_,Z,j.h_next_count U,_,Z,ta,ka,g.nm,g.age,g.cnt,d,g.t,g.ks,Z,.inr j.tb,.inr j.ky,by rw[n];exact hn,by rw[D];exact hl,by rw[o];exact Y,by rw[o];exact S,hd,λJ F u L h1 I=>?_]
   have l:=j.same L;obtain⟨dx,r⟩:=l.ob;refine#[_,Z,p,_,Z,l.h_next_count U,_,_,Z,Z,(λ_ e=>e),_,MS.put U r 5 _ Z U.n_next_count,?_]
   have n1:J≠p:=zr h1 r (by intro z;cases z)
   have n2:F≠p:=zr I r (by intro z;cases z)
   have G:Mv [p,ce] u (MO u p (.ins C dx (bF {g with cnt:=g.cnt+1} ta ka ce))):=Mv.upd1.mono (λc h z=>h (by rw[Jg.mp z];exact JB ..))
   have R:MS K C (MO u p (.ins C dx (bF {g with cnt:=g.cnt+1} ta ka ce))) p ta ka ce B.pr:=by
    have m:=l.to (B':={g with cnt:=g.cnt+1}) G Z Z qa (by rw[qk l.ne.symm];exact l.cs)
    rw[v]at m⊢;exact m
   refine#[_,Z,q J F _ ((W.trans L.mv).trans G) R ?_ ?_]
   ·rw[qk n1,h1,n,O]
   ·rw[qk n2,I,n,D,M,o]
  ·have j:=b
   have W:Mv [p,ce] H H:=Mv.refl
   have v:({B with cnt:=B.cnt+1}:Bt)=B.pr:=by unfold Bt.pr;rw[Jc z]
   obtain⟨g,t⟩:∃g,g=B:=#[B,Z]
   have n:g.nm=B.nm:=by rw[t]
   have D:g.t=B.t:=by rw[t]
   have M:g.ks=B.ks:=by rw[t]
   have O:g.age=B.age:=by rw[t]
   have o:g.cnt=B.cnt:=by rw[t]
   have v:({g with cnt:=g.cnt+1}:Bt)=B.pr:=by rw[t];exact v
   have j:MS K C H p ta ka ce g:=by rw[t];exact b
   refine#[_,Z,p,_,Z,j.h_table U,_,Z,p,_,Z,j.h_key U,_,Z,p,_,Z,j.h_name U,_,Z,p,_,Z,j.h_age U,_,Z,p,_,Z,j.h_next_count U,_,Z,ta,ka,g.nm,g.age,g.cnt,d,g.t,g.ks,Z,.inr j.tb,.inr j.ky,by rw[n];exact hn,by rw[D];exact hl,by rw[o];exact Y,by rw[o];exact S,hd,λJ F u L h1 I=>?_]
   have l:=j.same L;obtain⟨dx,r⟩:=l.ob;refine#[_,Z,p,_,Z,l.h_next_count U,_,_,Z,Z,(λ_ e=>e),_,MS.put U r 5 _ Z U.n_next_count,?_]
   have n1:J≠p:=zr h1 r (by intro z;cases z)
   have n2:F≠p:=zr I r (by intro z;cases z)
   have G:Mv [p,ce] u (MO u p (.ins C dx (bF {g with cnt:=g.cnt+1} ta ka ce))):=Mv.upd1.mono (λc h z=>h (by rw[Jg.mp z];exact JB ..))
   have R:MS K C (MO u p (.ins C dx (bF {g with cnt:=g.cnt+1} ta ka ce))) p ta ka ce B.pr:=by
    have m:=l.to (B':={g with cnt:=g.cnt+1}) G Z Z qa (by rw[qk l.ne.symm];exact l.cs)
    rw[v]at m⊢;exact m
   refine#[_,Z,q J F _ ((W.trans L.mv).trans G) R ?_ ?_]
   ·rw[qk n1,h1,n,O]
   ·rw[qk n2,I,n,D,M,o]
end
section
variable{P:Ξ}{w:Ω}{K:ι}{mg:MK}{base:Ψ}{tk:Nat->Tok}{C:Δ}
theorem gh(a:Nz K C "count_now" "Button.count_now" Zc ["self"])(T:Na K mg tk)(U:Of K C):Mf P w K mg base C "count_now" y8 1 (aY K C):=by
 refine a.mq ge λf _ A _ s H c Q E d h=>?_
 ·obtain⟨p,ta,ka,ce,B,rfl,b,q⟩:=h
  refine#[_,(qh (qm (qz (qv 0)))),?_]
  exact#[_,Z,p,_,Z,b.h_next_count U,q]
theorem fZ(a:Nz K C "cells_now" "Button.cells_now" Zk ["self"])(T:Na K mg tk)(U:Of K C):Mf P w K mg base C "cells_now" y8 1 (jG K C):=by
 refine a.mq fX λf _ A _ s H d Q E e h=>?_
 ·obtain⟨p,ta,ka,ce,B,rfl,b,q⟩:=h
  refine#[_,(qh (qm (qI qZ T.b_tuple JD (qc (qz (qv 0)) qb)))),?_]
  exact#[_,Z,p,_,Z,b.h_cells U,ce,_,Z,.inl #[MV.of b.cs,λl c=>q l _ (MM.upd c) qa]]
theorem fU(a:Nz K C "name_told" "Button.name_told" Zi ["self"])(T:Na K mg tk)(U:Of K C):Mf P w K mg base C "name_told" y8 1 (uo K C):=by
 refine a.mq gc λf _ A _ s H c Q E d h=>?_
 ·obtain⟨p,ta,ka,ce,B,rfl,b,q⟩:=h
  refine#[_,(qh (qm (qz (qv 0)))),?_]
  exact#[_,Z,p,_,Z,b.h_name U,q]
theorem iV(a:Nz K C "age_now" "Button.age_now" ZT ["self"])(T:Na K mg tk)(U:Of K C):Mf P w K mg base C "age_now" y8 1 (g9 K C):=by
 refine a.mq iQ λf _ A _ s H c Q E d h=>?_
 ·obtain⟨p,ta,ka,ce,B,rfl,b,q⟩:=h
  refine#[_,(qh (qm (qz (qv 0)))),?_]
  exact#[_,Z,p,_,Z,b.h_age U,q]
theorem io(a:Nz K C "cell_out" "Button.cell_out" Zx ["self"])(T:Na K mg tk)(U:Of K C):Mf P w K mg base C "cell_out" y8 1 (jR K C):=by
 refine a.mq NK λf _ A _ s H F Q E I h=>?_
 ·obtain⟨p,ta,ka,ce,B,rfl,b,ok,q⟩:=h
  refine#[_,(qg (qE (i:=1) NK.nd Z (Or.inl Z) (qp (yl Z) T.b_max PyProof.Rows.boot_max (qc (BM (own:=["cell"]) (fr:=[]) (js:=[]) Z (c7 (qz (qv 0))) Z (λ_ _ h=>nomatch h) Z (gY Z nofun nofun nofun) (λ_ _ _ _=>qB (i:=0) (show List.Nodup (["cell"]:Α)from by decide +kernel) Z (Or.inl Z) (.inr Z)) (λ_ _ _ _=>(qy uL (qv 0) zk (qw _))) (λ_ _ _ _=>(qv 0))) qb)))
   (qg (zp (qv 0) (qv 1))
   (qh (zp (qv 0) (qv 1))))),?_]
  refine#[_,Z,p,_,Z,b.h_cells U,ce,Z,#[_,MV.of b.cs],vW (K:=K) (xs:=[oV B.x,oV B.y]) (HU) (λi ys d=>d=H/\ys=([oV B.x,oV B.y].take i).filter cK) #[Z,Z] (λi ys d ⟨e,_⟩=>by subst e;exact MV.of b.cs) ?_ ?_]
  ·rintro i ys d v D ⟨rfl,rfl⟩
   refine#[_,Z,Z,_,Z,?_]
   rw[wW D]
   by_cases e:cK v=true
   ·exact Ql e #[_,Z,Z,by rw[Jd e]]
   ·exact Qd (LS.mpr e) #[Z,by rw[Jc e]]
  ·rintro ys d ⟨rfl,rfl⟩ pm n
   obtain⟨k1,k2,k3⟩:=ok.ok;refine#[pm,nr B.x B.y,Z,?_,k2,λM l m=>?_]
   ·show MO d pm (.lst ([oV B.x,oV B.y].filter cK)) pm=_
    rw[qa,vL]
   ·have x:M=B.bnd:=by have h1:=m _ k1;have G:=k3 _ l;lia
    subst x;have r:MM d _:=MM.upd (o:= .lst ([oV B.x,oV B.y].filter cK)) n
    have g:=b.same r;obtain⟨dx,u⟩:=g.ob;refine#[_,Z,_,Z,p,_,Z,MS.put U u 5 _ Z U.n_next_count,?_]
    have j:∀(H:Hp) (o:HO),Mv [p,ce] H (MO H p o):=λH o=>Mv.upd1.mono (λc h z=>h (by rw[Jg.mp z];exact JB ..))
    have t:=g.to (B':={B with cnt:=B.bnd}) (j _ (.ins C dx (bF {B with cnt:=B.bnd} ta ka ce))) Z Z qa (by rw[qk g.ne.symm];exact g.cs)
    refine#[_,Z,_,Z,p,_,Z,MS.put (B:={B with cnt:=B.bnd}) (ta:=ta) (ka:=ka) (ce:=ce) (dx:=dx) U qa 6 (.int B.bnd) Z U.n_bound,?_]
    have y:=t.to (B':={B with cnt:=B.bnd}) (j _ (.ins C dx (bF {B with cnt:=B.bnd} ta ka ce))) Z Z qa (by rw[qk g.ne.symm];exact t.cs)
    exact q _ ((r.mv.trans (j _ _)).trans (j _ _)) y
theorem fP(a:Nz K C "cell_torn" "Button.cell_torn" Q8 ["self"])(T:Na K mg tk)(U:Of K C)(u:Mf P w K mg base C "must_write" y8 2 (lF K C))(t:Mf P w K mg base C "spare_cell" y8 1 (jk K C))(D:Mf P w K mg base C "cell_out" y8 1 (jR K C)):Mf P w K mg base C "cell_torn" y8 3 (mB K C):=by
 refine a.mq gi λf _ A _ s H F Q E j h=>?_
 ·obtain⟨p,ta,ka,ce,B,rfl,b,ok,q⟩:=h
  refine#[_,(qg (qA (zn (qM u U.cl j.mo (qv 0))) (qh (Qk zk (bw (qz (qv 0)) (qM t U.cl j.mo (qv 0)) QV))) qq)
   (qh (zb (qM D U.cl j.mo (qv 0))))),?_]
  refine#[_,Z,p,Z,b.no,p,ta,ka,ce,B,Z,b,_,Z,?_]
  unfold Bt.tn at q;refine qK (λz=>?_) (λz=>?_)
  ·rw[Jd z]at q
   obtain⟨dx,r⟩:=b.ob;have i:∀o,Mv [p,ce] H (MO H ce o):=λo=>Mv.upd1.mono (λc h z=>h (by rw[Jg.mp z];exact JC _ (JB ..)))
   by_cases e:B.x=↑B.bnd
   ·rw[Jd e]at q
    have d:B.sp=1:=by unfold Bt.sp;rw[Jd e]
    refine#[_,Z,p,_,Z,b.h_cells U,_,Z,p,Z,b.no,p,ta,ka,ce,B,Z,b,ce,_,_,1,Z,Z,b.cs,by rw[d];rfl,?_]
    have g:MS K C (MO H ce (.lst [oV B.x,.non])) p ta ka ce {B with y:=none}:=b.to (dx:=dx) (i _) Z Z (by rw[qk b.ne];exact r) qa
    refine#[_,Z,p,Z,g.no,p,ta,ka,ce,_,Z,g,#[ok.c0,ok.cb,ok.bm,ok.s1,.inl e,ok.hx,λv q=>by cases q],λn m l=>q n ((i _).trans m) l]
   ·rw[Jc e]at q
    have d:B.sp=0:=by unfold Bt.sp;rw[Jc e]
    refine#[_,Z,p,_,Z,b.h_cells U,_,Z,p,Z,b.no,p,ta,ka,ce,B,Z,b,ce,_,_,0,Z,Z,b.cs,by rw[d];rfl,?_]
    have g:MS K C (MO H ce (.lst [.non,oV B.y])) p ta ka ce {B with x:=none}:=b.to (dx:=dx) (i _) Z Z (by rw[qk b.ne];exact r) qa
    refine#[_,Z,p,Z,g.no,p,ta,ka,ce,_,Z,g,#[ok.c0,ok.cb,ok.bm,ok.s1,.inr (ok.eq.resolve_left e),(λv q=>by cases q),ok.hy],λn m l=>q n ((i _).trans m) l]
  ·rw[Jc z]at q
   exact#[_,Z,p,Z,b.no,p,ta,ka,ce,_,Z,b,ok,q]
end
def pz(K:ι):Sp:=λc H Q _=>∃(a:Δ) (d:Ε) (k:Nat),c=[.ref a,.int k]/\MV K H a (d.map V.int)/\k<=1000/\∀b H',H b=none->MM H H'->NQ H' b 0->Q (.ref b) H'
def sf:Sp:=λa H Q _=>∃(b:Δ) (c:Nat),a=[.ref b]/\NQ H b c/\c<100000000/\∀p (ks:Ε) H',Oj b (c+10) H H'->H p=none->H' p=↑(.tup (ks.map V.int))->zZ ks->1<=ks.length->ks.length<=8->Q (.ref p) H'
section
variable{P:Ξ}{w:Ω}{K:ι}{mg:MK}{base:Ψ}{tk:Nat->Tok}
theorem sR(a:At K mg "_law_take" eD ["_law_box_here","_law_many"])(T:Na K mg tk):Df P w K mg base "_law_take" u0 1 Z6:=by
 refine a.dq Oc λf _ A _ s H v Q E x h=>?_
 ·obtain⟨b,p,c,rfl,⟨n,m,k,g,r,u,k0,k1⟩,j,l,h1,q⟩:=h
  refine#[_,(qg (qA (qy lu (qD qO (qv 0) qi) qi (qw _)) (qg (qE (i:=2) Oc.nd Z (Or.inl Z) (qC Qv (qD qO (qv 0) qi) (qv 1)))
   (qg (Qk (qC eC (qD qO (qv 0) qi) (qv 1)) (bw (qv 0) qi QV))
   (qh (qm (qv 2))))) qq)
   (qg (Qk (qC zo (qD qO (qv 0) qi) qi) (bw (qv 0) qi QV))
   (qg (qE (i:=3) Oc.nd Z (Or.inl Z) (qC Qv (qC zo (qC zo (qC ap (qD qO (qv 0) qi) qi) (qC ap (qD qO (qv 0) qi) qi)) qi) qi))
   (qg (Qk (qC zo (qC Qv (qC ap (qv 3) (qv 3)) qi) (qD qO (qv 0) qi)) (bw (qv 0) qi QV))
   (qh (qm (qC Qv (qC eC (qD qO (qv 0) qi) qi) (qv 1)))))))),?_]
  refine#[_,Z,b,_,_,_,Z,Z,MV.of g,Z,_,_,Z,Z,_,Z,?_]
  refine qK (λ_=>?_) (λ_=>?_)
  ·refine#[_,Z,b,_,_,_,Z,Z,MV.of g,Z,_,Z,_,_,Z,Z,l,?_]
   refine#[_,Z,b,_,_,_,Z,Z,MV.of g,Z,_,Z,_,_,Z,Z,#[l,h1],_,Z,b,_,_,0,Z,Z,g,Z,?_]
   refine#[_,Z,?_]
   refine q _ _ (IX _ (by lia)) (IZ _ l) #[λc o j e=>?_,_,_,_,qa,r,u,k0,by lia]
   rw[qk j];exact e
  ·refine#[_,Z,b,_,_,_,Z,Z,MV.of g,Z,_,_,Z,Z,_,Z,b,_,_,2,Z,Z,g,Z,?_]
   have d:(MO H b (BX n m (k+1))) b=↑(BX n m (k+1)):=qa
   refine#[_,Z,b,_,_,_,Z,Z,MV.of d,Z,_,_,Z,Z,.inr #[⋯,⋯],_,Z,b,_,_,_,Z,Z,MV.of d,Z,_,_,Z,Z,.inr #[⋯,⋯],_,_,Z,Z,_,_,Z,Z,_,_,Z,Z,(by decide:(0:Int)<2305843009213693921),?_]
   have y:=IX (m*48271+(k+1)*39373+11) (by decide:(2305843009213693921:Int)≠0)
   have z:=IZ (m*48271+(k+1)*39373+11) (by decide:(0:Int)<2305843009213693921)
   refine#[_,Z,_,Z,_,_,Z,Z,.inl #[by lia,by lia],_,_,Z,Z,(by decide:(0:Int)<2305843009213693907),_,Z,b,_,_,_,Z,Z,MV.of d,Z,_,_,Z,Z,_,Z,b,_,_,1,Z,Z,d,Z,?_]
   have t:=IX ((m*48271+(k+1)*39373+11)%2305843009213693921*((m*48271+(k+1)*39373+11)%2305843009213693921)) (by decide:(2305843009213693907:Int)≠0)
   have i1:=IZ ((m*48271+(k+1)*39373+11)%2305843009213693921*((m*48271+(k+1)*39373+11)%2305843009213693921)) (by decide:(0:Int)<2305843009213693907)
   refine#[_,Z,b,_,_,_,Z,Z,MV.of qa,Z,_,_,Z,Z,#[⋯,⋯],_,Z,_,_,Z,Z,l,?_]
   refine q _ _ (IX _ (by lia)) (IZ _ l) #[λc o j e=>?_,_,_,_,qa,Int.add_nonneg t (by lia),Int.lt_of_lt_of_le (Int.add_lt_add_right i1 _) (by lia),by lia,by lia]
   rw[qk j,qk j];exact e
theorem vd(a:At K mg "_law_box" hJ ["_law_script","_law_k"])(T:Na K mg tk):Df P w K mg base "_law_box" V9 1 (pz K):=by
 refine a.dq Nx λf _ A _ s H vs Q E hr h=>?_
 ·obtain⟨b,j,k,rfl,X,O,q⟩:=h
  refine#[_,(qg (qE (i:=2) Nx.nd Z (Or.inl Z) (qI QF T.b_list JY (qc (aN DK (qv 0) bW (bU qi)) qb)))
   (qg (qE (i:=3) Nx.nd Z (Or.inl Z) (qD qO (qC lr (qv 2) (qC iq (zd (qc qi qb)) (qC zo (qv 1) qi))) (qv 1)))
   (qg (qE (i:=4) Nx.nd Z (Or.inl Z) qi)
   (qg (Qo JZ Z (c7 (qv 2)) (qB (i:=5) Nx.nd Z (Or.inl Z))
   (qh (qE (i:=4) Nx.nd Z (Or.inl Z) (qC Qv (qC zo (qC ap (qv 4) qi) (qv 5)) qi))))
   (qh (qm (zd (qc (qC ap (qp pO T.b_abs PyProof.Rows.boot_abs (qc (qv 3) qb)) (qI gD T.b_int Le (qc (zz oP (qp pO T.b_abs PyProof.Rows.boot_abs (qc (qv 3) qb)) (qC Ah qi qi) (qw _)) qb))) (qc (qC Qv (qC zo (qC zo (qv 3) (qC ap qi (qv 4))) (qC ap qi (qv 1))) qi) (qc qi qb)))))))))),?_]
  refine#[_,Z,_,Z,b,_,Z,X,λl W=>?_]
  rw[AL];have lc:(lT j none ↑63).length<=63:=by
   rw[Bl]
   have:HT.sIx j.length j.length ↑63<=63:=by unfold HT.sIx;simp only;split<;>lia
   lia
  generalize lT j none ↑63=c at lc⊢
  have u1:=MM.upd (o:= .lst (c.map V.int)) W
  refine#[l,_,Z,.inl (MV.of qa),λg B=>?_]
  have I:=u1.trans (MM.upd (o:= .lst (c.map V.int)) B)
  have D:(MO (MO H l (.lst (c.map V.int))) g (.lst (c.map V.int))) g=↑(.lst (c.map V.int)):=qa
  generalize MO (MO H l (.lst (c.map V.int))) g (.lst (c.map V.int))=U at I D⊢
  refine#[_,Z,HS,λG u=>?_]
  have m:=MM.upd (o:= .lst [.int 0]) u
  refine#[_,Z,_,_,Z,Z,G,_,_,Z,Z,qa,by lia,by lia,by show 1*_<=_;rw[Jn];lia,λL t=>?_]
  have e4:(List.replicate ((k:Int)+1).toNat [V.int 0]).flatten=(List.replicate (k+1) (0:Int)).map V.int:=by
   rw[show((k:Int)+1).toNat=k+1 by lia]
   simp [List.flatten_replicate_singleton]
  rw[e4];have C:=MM.upd (o:= .lst ((List.replicate (k+1) (0:Int)).map V.int)) t
  refine#[g,L,_,_,Z,Z,C _ _ (m _ _ D),qa,by rw[Jb,Jb,L5,Jn];lia,λF n=>?_]
  rw[<- JF];have v:k<(c++List.replicate (k+1) (0:Int)).length:=by rw[Jo,L5];lia
  refine#[_,Z,F,_,_,.int (c++List.replicate (k+1) (0:Int))[k],Z,Z,MV.of qa,zV (by rw[Jm,Jk v];rfl),?_]
  have M:=MM.upd (o:= .lst ((c++List.replicate (k+1) (0:Int)).map V.int)) n
  generalize (c++List.replicate (k+1) (0:Int))[k]=d
  have S:=I.trans (m.trans (C.trans M));have r:=M _ _ (C _ _ (m _ _ D));generalize MO (MO (MO U G (.lst [.int 0])) L (.lst ((List.replicate (k+1) (0:Int)).map V.int))) F (.lst ((c++List.replicate (k+1) (0:Int)).map V.int))=H5 at S r⊢
  refine#[_,Z,g,Z,#[_,MV.of r],?_]
  refine jH (K:=K) (a:=g) (xs:=c.map V.int) (λi σ Hx=>Hx=H5/\∃(z:Int) (o:Ρ),σ=[↑(.ref b),↑(.int (k:Int)),↑(.ref g),↑(.int d),↑(.int z),o]/\0<=z/\z<2305843009213693951) #[Z,_,_,Z,⋯,⋯] (λi σ Hx _ ⟨e,_⟩=>by subst e;exact MV.of r) ?_ ?_
  ·rintro i x σ Hx Y ⟨rfl,z,o,rfl,R,z1⟩
   obtain⟨y,rfl,hy⟩:=Zf Y;refine#[_,Z,_,_,Z,Z,.inl #[by lia,by lia],_,Z,_,_,Z,Z,_,_,Z,Z,(by decide:(0:Int)<2305843009213693951),Z,_,_,Z,IX _ ⋯,IZ _ ⋯]
  ·rintro σ Hx ⟨rfl,z,o,rfl,R,z1⟩
   refine#[_,Z,_,Z,_,Z,_,Z,_,_,Z,Z,#[⋯,⋯,⋯],_,_,Z,Z,.inr #[_,Z,?_]]
   refine#[_,_,Z,Z,.inr #[FS _,E3 _],_,Z,_,Z,_,_,Z,Z,.inl #[⋯,⋯],_,_,Z,Z,_,Z,_,_,Z,Z,.inl #[⋯,⋯],_,_,Z,Z,_,_,Z,Z,(by decide:(0:Int)<2305843009213693951),?_]
   have N:=IX (d+39373*z+7919*(k:Int)) (by decide:(2305843009213693951:Int)≠0)
   have g1:=IZ (d+39373*z+7919*(k:Int)) (by decide:(0:Int)<2305843009213693951)
   exact#[HV,λp J=>q _ _ (QK J S) (S.trans (MM.upd J)) #[_,_,_,qa,N,by lia,⋯,⋯]]
theorem pX(a:At K mg "_law_table" cT ["_law_box_here"])(T:Na K mg tk)(J:Df P w K mg base "_law_take" u0 1 Z6):Df P w K mg base "_law_table" V0 2 sF:=by
 refine a.dq N7 λf _ A _ s H O Q E L h=>?_
 ·obtain⟨b,c,rfl,F,N,q⟩:=h
  refine#[_,(qg (qE (i:=1) N7.nd Z (Or.inl Z) (zd qb))
   (qg (Qo JZ Z (Q9 Z T.b_range (qc qi qb)) (qB (i:=2) N7.nd Z (Or.inl Z))
   (qh (zb (QU JX PySem.F.slot_list_insert PySem.F.type_list_insert xv (qv 1) (qc (qu J L.mo (qc (qv 0) (qc (qC zo (qv 2) qi) qb))) (qc (qv 2) qb))))))
   (qh (qm (qI qZ T.b_tuple JD (qc (qv 1) qb)))))),?_]
  refine#[HR,λl y=>?_]
  have u:l≠b:=ze F y
  refine#[16,Z,⋯,⋯,ba (n:=16) (Pv:=λi σ C=>Oj b (c+i) H C/\∃(d:Ε) (o:Ρ),C l=↑(.lst (d.map V.int))/\d.Perm (Nt.take i)/\σ=[↑(.ref b),↑(.ref l),o]) #[(MM.upd y).grc F,[],_,qa,.refl _,Z] ?_ ?_]
  ·rintro i σ C hi ⟨g,d,o,B,pm,rfl⟩
   have I:d.length=i:=by rw[pm.length_eq,Ie,show Nt.length=16 from Z];lia
   refine#[_,Z,.inl #[Z,_,MV.of B],_,Z,_,Z,_,_,Z,Z,b,_,_,Z,g.bx,by lia,by lia,by lia,λx H3 M R D=>?_]
   have G:=D.kp _ _ u B;refine#[_,Z,l,_,_,_,Z,Z,G,M,by rw[Jb,I];lia,by rw[Jb,I,Jn];lia,?_]
   refine#[#[λc o p e=>?_,?_],d.take x.toNat++(i:Int)::d.drop x.toNat,_,?_,?_,Z]
   ·by_cases z:c=l
    ·subst z
     rw[e]at y;cases y
    ·rw[qk z];exact D.kp _ _ p (g.kp _ _ p e)
   ·obtain⟨n,m,k',e,r⟩:=D.bx
    exact#[n,m,k',by rw[qk u.symm];exact e,r]
   ·rw[qa,JF,JR,List.map_take,List.map_drop]
    simp
   ·refine(List.perm_middle.trans (List.Perm.cons _ (by rw[List.take_append_drop]))).trans ?_
    have v:Nt.take (i+1)=Nt.take i++[(i:Int)]:=(by decide:∀j:Nat,j<16->Nt.take (j+1)=Nt.take j++[(j:Int)]) i hi
    rw[v]
    exact(List.Perm.cons _ pm).trans (List.perm_append_comm (l₁:=[(i:Int)]))
  ·rintro σ C ⟨g,d,o,B,pm,rfl⟩
   refine#[_,Z,l,_,Z,.inl #[MV.of B,λt v=>?_]]
   exact q t d _ (g.same (MM.upd v)) (g.fresh (F.mono (by lia)) v) qa pm
theorem uX(a:At K mg "_law_key" gK ["_law_box_here"])(T:Na K mg tk)(m:Df P w K mg base "_law_take" u0 1 Z6):Df P w K mg base "_law_key" V0 2 sf:=by
 refine a.dq OK λf _ A _ s H vs Q E C h=>?_
 ·obtain⟨b,c,rfl,L,hc,q⟩:=h
  refine#[_,(qg (qE (i:=1) OK.nd Z (Or.inl Z) (qD qO (zd (qc qi (qc qi (qc qi (qc qi (qc (qC zo qi (qu m C.mo (qc (qv 0) (qc qi qb)))) qb)))))) (qu m C.mo (qc (qv 0) (qc qi qb)))))
   (qh (qm (qI qZ T.b_tuple JD (qc (Qy (own:=["_law_k"]) (fr:=["_law_box_here"]) (js:=[0]) Z (Q9 Z T.b_range (qc (qv 1) qb)) Z (Cf Z) Z (Cd Z nofun nofun nofun Z Z Z) (λ_ _ _ _=>qB (i:=0) (show List.Nodup (["_law_k","_law_box_here"]:Α)from by decide +kernel) Z (Or.inl Z) (.inr Z)) (λ_ _ _ _=>(qu m C.mo (qc (qv 1) (qc qi qb))))) qb))))),?_]
  refine#[_,Z,b,_,_,Z,L,by lia,⋯,⋯,λr H1 Y r1 B=>#[_,_,Z,Z,HX,λl J=>?_]]
  have I:=MM.upd (o:= .lst [.int 1,.int 2,.int 4,.int 8,.int (1+r)]) J
  refine#[_,Z,b,_,_,Z,(I.grc B.bx).bx,by lia,⋯,⋯,λr2 g u D M=>?_]
  obtain⟨v,U,e⟩:=Zr (xs:=[V.int 1,.int 2,.int 4,.int 8,.int (1+r)]) u D
  obtain⟨n,rfl,n1,n8⟩:∃z:Nat,v= .int (z:Int)/\1<=z/\z<=8:=by
   simp only[Ji,Jr,Js]at e;rcases e with rfl|rfl|rfl|rfl|rfl
   ·exact#[1,Z,⋯,⋯]
   ·exact#[2,Z,⋯,⋯]
   ·exact#[4,Z,⋯,⋯]
   ·exact#[8,Z,⋯,⋯]
   ·exact#[(1+r).toNat,by congr 1;lia,by lia,by lia]
  have d:Oj b (c+2) H g:=((B.same I).trans M).mono (by lia)
  refine#[l,_,_,_,Z,Z,MV.of (M.kp _ _ (ze B.bx J) qa),U,_,Z,_,Z,by lia,by lia,?_]
  rw[LH];refine lq (n:=n) (JH (by lia:n<=8) ⋯) (λi ys g=>Oj b (c+2+i) H g/\∃ks:Ε,ys=ks.map V.int/\zZ ks) #[d,[],Z,λ_ h=>nomatch h] ?_ ?_
  ·rintro i ys g hi X ⟨d,ks,rfl,hk⟩
   refine#[_,Z,b,_,_,Z,d.bx,by lia,⋯,⋯,λx H3 S R N=>#[d.trans N,ks++[x],by simp,λz O=>?_]]
   rcases Jv.mp O with y|y
   ·exact hk z y
   ·rw[Jg.mp y];exact#[S,R]
  ·rintro ys g j ⟨d,ks,rfl,hk⟩ p W
   rw[Jb]at j;refine#[p,_,Z,.inl #[MV.of qa,λt F=>?_]]
   have G:=d.same (MM.upd (o:= .lst (ks.map V.int)) W)
   exact q t ks _ ((G.same (MM.upd F)).mono (by lia)) (G.fresh (L.mono (by lia)) F) qa hk (by lia) (by lia)
end
section
variable{P:Ξ}{w:Ω}{K:ι}{mg:MK}{base:Ψ}{tk:Nat->Tok}
theorem oG(a:At K mg "back_table" bZ ["table"])(T:Na K mg tk):Df P w K mg base "back_table" ["table"] 1 (An K):=by
 refine a.dq Ny λf _ A _ s H vs Q E hr h=>?_
 ·obtain⟨c,t,rfl,D,pm,q⟩:=h
  refine#[_,(qg (qE (i:=1) Ny.nd Z (Or.inl Z) (qC iq (zd (qc qi qb)) (zj (v:= .int 16) Z T.g_DIGITS #[_,Z])))
   (qg (Qo JZ Z (AO Z T.b_enumerate (qc (qv 0) qb)) (bY Z (qJ (qB (i:=2) Ny.nd Z (Or.inl Z)) (qJ (qB (i:=3) Ny.nd Z (Or.inl Z)) Qf)))
   (qh (Qk (qv 2) (bw (qv 1) (qv 3) QV))))
   (qh (qm (qI qZ T.b_tuple JD (qc (qv 1) qb)))))),?_]
  refine#[HS,λp hp=>#[p,16,_,Z,Z,qa,⋯,⋯,MI,λl M=>?_]]
  have Y:(List.replicate (16:Int).toNat [V.int 0]).flatten=(Zu t 0).map V.int:=by rw[AH];rfl
  rw[Y];have X:=(MM.upd (o:= .lst [V.int 0]) hp)
  have J:=X.trans (MM.upd (o:= .lst ((Zu t 0).map V.int)) M)
  have step:∀(i:Nat) (x:V) (g:Hp) (r:Δ),(t.map V.int)[i]? =↑x->g l=↑(.lst ((Zu t i).map V.int))->MM H g->g r=none->
    ∃j:Nat,∃z:Int,x= .int z/\bA ((Zu t i).map V.int).length z=↑j/\(MO g r (.tup [.int i,x])) l=↑(.lst ((Zu t i).map V.int))/\
     (MO (MO g r (.tup [.int i,x])) l (.lst (((Zu t i).map V.int).set j (.int i)))) l=↑(.lst ((Zu t (i+1)).map V.int))/\MM H (MO (MO g r (.tup [.int i,x])) l (.lst (((Zu t i).map V.int).set j (.int i)))):=by
   intro i x g r G n m u;obtain⟨z,rfl,W⟩:=Zf G;have hi:i<t.length:=(Jt.mp W).1
   have ez:t[i]=z:=(Jt.mp W).2
   have bd:=sr pm hi;have sp:=MM.upd (o:= .tup [.int i,.int z]) u
   refine#[z.toNat,z,Z,lI (by lia) (by rw[Jb,em];lia),sp _ _ n,?_,λd o e=>?_]
   ·rw[qa,fE,<- ez,Be pm hi]
   ·have N:d≠l:=λy=>by
     rw[y]at e;rw[X _ _ e]at M;cases M
    rw[qk N];exact sp _ _ (m _ _ e)
  have F:∀(o:Ρ) (o':Ρ) (g:Hp),g l=↑(.lst ((Zu t t.length).map V.int))->MM H g->∀I,g I=none->Q (.ref I) (MO g I (.tup ((Zu t t.length).map V.int))):=λ_ _ g n m I R=>
   q _ _ (m.trans (MM.upd R)) (by rw[qa,Ef pm])
  rcases D with D|D
  ·refine#[_,Z,c,Z,.inl #[#[_,J.seq D],?_]]
   refine rm (K:=K) (a:=c) (xs:=t.map V.int) (λi σ g=>∃(B C:Ρ),σ=[↑(.ref c),↑(.ref l),B,C]/\g l=↑(.lst ((Zu t i).map V.int))/\MM H g) #[none,none,Z,qa,J] (λi σ g _ ⟨_,_,_,_,m⟩=>m.seq D) ?_ ?_
   ·rintro i x σ g r G ⟨B,C,rfl,n,m⟩ u
    obtain⟨j,z,rfl,O,L,U,S⟩:=step i x g r G n m u;refine#[r,_,Z,MW.of qa,Z,_,_,Z,_,_,Z,Z,?_]
    exact#[_,Z,_,Z,_,Z,l,_,_,j,Z,Z,L,O,_,_,Z,U,S]
   ·rintro σ g ⟨B,C,rfl,n,m⟩
    rw[Jb]at n
    exact#[_,Z,l,_,Z,.inl #[MV.of n,F B C g n m]]
  ·refine#[_,Z,c,Z,.inr #[#[_,MM.sqt J D],?_]]
   refine ye (K:=K) (a:=c) (xs:=t.map V.int) (λi σ g=>∃(B C:Ρ),σ=[↑(.ref c),↑(.ref l),B,C]/\g l=↑(.lst ((Zu t i).map V.int))/\MM H g) #[none,none,Z,qa,J] (λi σ g _ ⟨_,_,_,_,m⟩=>MM.sqt m D) ?_ ?_
   ·rintro i x σ g r G ⟨B,C,rfl,n,m⟩ u
    obtain⟨j,z,rfl,O,L,U,S⟩:=step i x g r G n m u;refine#[r,_,Z,MW.of qa,Z,_,_,Z,_,_,Z,Z,?_]
    exact#[_,Z,_,Z,_,Z,l,_,_,j,Z,Z,L,O,_,_,Z,U,S]
   ·rintro σ g ⟨B,C,rfl,n,m⟩
    rw[Jb]at n
    exact#[_,Z,l,_,Z,.inl #[MV.of n,F B C g n m]]
theorem AU(a:At K mg "coded" lW ["table","key","digits"])(T:Na K mg tk):Df P w K mg base "coded" X8 1 (ly K):=by
 refine a.dq Oa λf _ A _ s H vs Q E hr h=>?_
 ·obtain⟨a,b,c,t,ks,ds,rfl,R,X,M,lt,l1,W,q⟩:=h
  refine#[_,(qg (qE (i:=3) Oa.nd Z (Or.inl Z) (qI QF T.b_list JY (qc (qv 2) qb)))
   (qg (Qo JZ Z (dc (qv 1)) (qB (i:=4) Oa.nd Z (Or.inl Z))
   (qh (Qo JZ Z (Q9 Z T.b_range (qc (qp qS T.b_len JK (qc (qv 2) qb)) qb)) (qB (i:=5) Oa.nd Z (Or.inl Z))
   (qg (qE (i:=6) Oa.nd Z (Or.inl Z) (qD qO (qv 3) (qC QM (qv 5) qi)))
   (qh (Qk (qD (RS.or qO qQ) (qv 0) (qC Qv (qC zo (qC zo (qC zo (qD qO (qv 3) (qv 5)) (qv 4)) (qv 5)) (qv 6)) (zj (v:= .int 16) Z T.g_DIGITS #[_,Z]))) (bw (qv 3) (qv 5) QV)))))))
   (qh (qm (qI qZ T.b_tuple JD (qc (qv 3) qb)))))),?_]
  refine#[_,Z,c,_,Z,M,λl N=>?_]
  have U:MM H _:=MM.upd (o:= .lst (ds.map V.int)) N
  refine#[_,Z,b,Z,DR (K:=K) (H0:=H) X (λj σ G=>MM H G/\∃J m g,σ=[↑(.ref a),↑(.ref b),↑(.ref c),↑(.ref l),J,m,g]/\G l=↑(.lst ((Zp t (ks.take j) ds).map V.int))) #[U,_,_,_,Z,qa] (λj S H' h=>h.1) ?_ ?_]
  ·rintro j x σ G Y ⟨C,J,m,g,rfl,y⟩
   obtain⟨d,rfl,I⟩:=Zf Y;rw[lN I,rN];have z:(Zp t (ks.take j) ds).length=ds.length:=fu
   generalize Zp t (ks.take j) ds=r at y z
   refine#[_,Z,c,_,Z,M.same C,_,Z,?_,?_,?_]
   ·lia
   ·rw[Jb];lia
   rw[show((((ds.map V.int).length:Nat):Int)).toNat=ds.length by rw[Jb];rfl]
   refine ba (n:=ds.length) (Pv:=λi σ H3=>MM H H3/\∃m g,σ=[↑(.ref a),↑(.ref b),↑(.ref c),↑(.ref l),↑(.int d),m,g]/\H3 l=↑(.lst ((bE t d r i).map V.int))) #[C,_,_,Z,y] ?_ ?_
   ·rintro i σ H3 hi ⟨F,m,g,rfl,e⟩
    have B:(bE t d r i).length=ds.length:=by rw[Zb,z]
    generalize hr':bE t d r i=D at e B
    have u:i<D.length:=by lia
    refine#[_,Z,_,Z,_,_,Z,Z,l,_,_,_,Z,Z,MV.of e,wb (i:=i) (by lia) u,?_]
    refine#[_,Z,_,Z,_,Z,l,_,_,_,Z,Z,MV.of e,cx (i:=i) (by lia) u,_,Z,_,_,Z,Z,_,Z,_,_,Z,Z,_,Z,_,_,Z,Z,_,_,Z,Z,(by decide:(0:Int)<16),?_]
    have L:=bX (D.getD i 0+d+(0+(i:Int))+ah D i)
    refine(R.same F).ix (cx (i:=((D.getD i 0+d+(0+(i:Int))+ah D i)%16).toNat) (by have:=L.1;lia) (by rw[lt];have:=L.1;have:=L.2;lia)) ?_
    refine#[_,Z,_,Z,l,_,_,i,Z,Z,e,lI (by lia) (by rw[Jb];exact u),aC F N,_,_,Z,?_]
    rw[qa,fE,bE,hr',mJ,Int.zero_add]
   ·rintro σ H3 ⟨F,m,g,rfl,e⟩
    exact#[F,_,_,_,Z,e]
  ·rintro σ G ⟨C,J,m,g,rfl,y⟩
   rw[Jb,II]at y
   exact#[_,Z,l,_,Z,.inl #[MV.of y,λp O=>q p _ (C.trans (MM.upd O)) (QK O C) qa]]
theorem vf(a:At K mg "decoded" ii ["table","key","digits"])(T:Na K mg tk)(yW:Df P w K mg base "back_table" ["table"] 1 (An K)):Df P w K mg base "decoded" X8 2 (nV K):=by
 refine a.dq Nv λf _ A _ s H vs Q E hr h=>?_
 ·obtain⟨a,b,c,t,ks,ds,rfl,ha,hb,hc,pm,W,l1,a1,q⟩:=h
  refine#[_,(qg (qE (i:=3) Nv.nd Z (Or.inl Z) (qu yW hr.mo (qc (qv 0) qb)))
   (qg (qE (i:=4) Nv.nd Z (Or.inl Z) (qI QF T.b_list JY (qc (qv 2) qb)))
   (qg (Qo JZ Z (xq Z T.b_reversed (qc (qv 1) qb)) (qB (i:=5) Nv.nd Z (Or.inl Z))
   (qh (Qo JZ Z (xq Z T.b_reversed (qc (qI ww T.b_range PyProof.Rows.boot_range (qc (qp qS T.b_len JK (qc (qv 2) qb)) qb)) qb)) (qB (i:=6) Nv.nd Z (Or.inl Z))
   (qg (qE (i:=7) Nv.nd Z (Or.inl Z) (qD qO (qv 4) (qC QM (qv 6) qi)))
   (qh (Qk (qC Qv (qC QM (qC QM (qC QM (qD qQ (qv 3) (qD qO (qv 4) (qv 6))) (qv 5)) (qv 6)) (qv 7)) (zj (v:= .int 16) Z T.g_DIGITS #[_,Z])) (bw (qv 4) (qv 6) QV)))))))
   (qh (qm (qI qZ T.b_tuple JD (qc (qv 4) qb))))))),?_]
  refine#[_,Z,a,t,Z,ha,pm,λpb H1 N U=>?_]
  refine#[_,Z,c,_,Z,hc.same N,λl hl=>?_]
  have D:MM H1 _:=MM.upd (o:= .lst (ds.map V.int)) hl
  refine#[_,Z,b,Z,Bm (K:=K) (H0:=H1) (hb.same N) (λj σ R=>MM H1 R/\∃o4 C B,σ=[↑(.ref a),↑(.ref b),↑(.ref c),↑(.ref pb),↑(.ref l),o4,C,B]/\R l=↑(.lst ((Z3 (Qe t) (ks.drop (ks.length-j)) ds).map V.int))) #[D,_,_,_,Z,by rw[Nat.sub_zero,List.drop_length];exact qa] (λj a0 H' h=>h.1) ?_ ?_]
  ·rintro j x σ R hj hx ⟨D,o4,C,B,rfl,F⟩
   obtain⟨d,rfl,L⟩:=Zf hx;rw[Jb]at hj L;have ed:ks.drop (ks.length-(j+1))=d::ks.drop (ks.length-j):=by
    have:=Af L
    rw[show ks.length-1-j+1=ks.length-j by lia]at this
    rw[show ks.length-(j+1)=ks.length-1-j by lia]
    exact this
   rw[ed,Z3];have G:(Z3 (Qe t) (ks.drop (ks.length-j)) ds).length=ds.length:=jC
   have I:zZ (Z3 (Qe t) (ks.drop (ks.length-j)) ds):=pC W
   generalize Z3 (Qe t) (ks.drop (ks.length-j)) ds=r at F G I
   refine#[_,Z,c,_,Z,(hc.same N).same D,_,Z,λpr M=>#[pr,Z,.inr (.inr #[ds.length,?_,by lia,?_])]]
   ·rw[qa,Jb]
   have S:=D.trans (MM.upd (o:= .rng 0 ((ds.map V.int).length:Nat)) M)
   have X:=MM.upd (o:= .rng 0 ((ds.map V.int).length:Nat)) M _ _ F
   refine Av (n:=ds.length) (Pv:=λi σ H3=>MM H1 H3/\∃C B u,σ=[↑(.ref a),↑(.ref b),↑(.ref c),↑(.ref pb),↑(.ref l),↑(.int d),C,B]/\H3 l=↑(.lst (u.map V.int))/\u.length=ds.length/\zZ u/\ci (Qe t) d u (ds.length-i)=ci (Qe t) d r ds.length) #[S,_,_,r,Z,X,G,I,Z] ?_ ?_
   ·rintro i σ H3 hi ⟨O,C,B,u,rfl,e,z,g,J⟩
    have m:ds.length-1-i<u.length:=by lia
    have ep:(ds.length:Int)-1-i=((ds.length-1-i:Nat):Int):=by lia
    rw[ep];generalize hpl:ds.length-1-i=y at m
    rw[show ds.length-i=y+1 by lia,ci]at J
    refine#[_,Z,_,Z,_,_,Z,Z,l,_,_,_,Z,Z,MV.of e,wb (i:=y) Z m,?_]
    have Y:=mP g y;refine#[_,Z,_,Z,_,Z,l,_,_,_,Z,Z,MV.of e,cx (i:=y) Z m,pb,_,_,_,Z,Z,MW.of (O _ _ U),cx (i:=(u.getD y 0).toNat) (by have:=Y.1;lia) (by rw[cB];have:=Y.1;have:=Y.2;lia),?_]
    refine#[_,Z,_,_,Z,Z,_,Z,_,_,Z,Z,_,Z,_,_,Z,Z,_,_,Z,Z,(by decide:(0:Int)<16),?_]
    refine#[_,Z,_,Z,l,_,_,y,Z,Z,e,uy (by rw[Jb];exact m),aC O hl,_,_,jJ (Qe t) d u y,Z,?_,by rw[pK];exact z,pE g,?_]
    ·rw[qa,fE,jJ]
    ·rw[show ds.length-(i+1)=y by lia];exact J
   ·rintro σ H3 ⟨O,C,B,u,rfl,e,z,g,J⟩
    rw[Nat.sub_self,ci]at J;rw[J]at e
    exact#[O,_,_,_,Z,e]
  ·rintro σ R ⟨D,o4,C,B,rfl,F⟩
   rw[Jb,Nat.sub_self,List.drop_zero]at F
   exact#[_,Z,l,_,Z,.inl #[MV.of F,λp hp=>q p _ ((N.trans D).trans (MM.upd hp)) (QK hp (N.trans D)) qa]]
theorem jg(a:At K mg "letter_digits" ar ["name"])(T:Na K mg tk):Df P w K mg base "letter_digits" ["name"] 1 oa:=by
 refine a.dq Nl λf _ A _ s H x Q E y h=>?_
 ·obtain⟨z,rfl,r,q⟩:=h
  refine#[_,(qg (qE (i:=1) Nl.nd Z (Or.inl Z) (zd qb))
   (qg (Qo JZ Z (yc (qv 0)) (qB (i:=2) Nl.nd Z (Or.inl Z))
   (qg (qE (i:=3) Nl.nd Z (Or.inl Z) (qC QM (qp rQ T.b_ord PyProof.Rows.boot_ord (qc (qv 2) qb)) (qp rQ T.b_ord PyProof.Rows.boot_ord (qc qj qb))))
   (qg (zb (QU JX Ia Ib Qi (qv 1) (qc (qC Qv (qv 3) (zj (v:= .int 16) Z T.g_DIGITS #[_,Z])) qb)))
   (qh (zb (QU JX Ia Ib Qi (qv 1) (qc (qC eC (qv 3) (zj (v:= .int 16) Z T.g_DIGITS #[_,Z])) qb)))))))
   (qh (qm (qv 1))))),?_]
  refine#[HR,λl g=>?_]
  refine#[_,Z,z,Z,pL r,Dn (λi σ d=>MM H d/\∃j n,σ=[↑(.str z),↑(.ref l),j,n]/\d l=↑(.lst ((ZN (z.cps.toList.take i)).map V.int))) #[MM.upd g,_,_,Z,qa] ?_ ?_]
  ·rintro i c σ d t ⟨o,j,n,rfl,e⟩
   have p:=tP t;rw[Dq p,Ak];have m:(ZN (z.cps.toList.take i)).length<=16:=by rw[nW,Ie];have:=r.2.2;lia
   generalize ZN (z.cps.toList.take i)=ds at e m
   have B:((((#[(List.toArray [c])]:Str).cps.getD 0 0:Nat):Int)-((("a":Str).cps.getD 0 0:Nat):Int))=(c:Int)-97:=Z
   have big:(100:Nat)<ζ:=by decide
   refine#[_,Z,_,Z,Z,_,Z,Z,_,_,Z,Z,?_]
   show gm _ _ _ [↑(V.str z),↑(V.ref l),↑(V.str #[(List.toArray [c])]),↑(V.int ((c:Int)-97))] d
   refine#[_,Z,.inl #[Z,_,MV.of e],_,Z,_,_,Z,Z,(by decide:(0:Int)<16),l,_,_,Z,Z,e,by rw[Jb];lia,?_]
   have u:MM H (MO d l (.lst (ds.map V.int++[V.int (((c:Int)-97)%16)]))):=aC o g
   refine#[_,Z,.inl #[Z,_,MV.of qa],_,Z,_,_,Z,Z,#[⋯,⋯],l,_,_,Z,Z,qa,by rw[Jo,Jb,Me];lia,aC u g,_,_,Z,?_]
   rw[qa,JF,Md];rfl
  ·rintro σ d ⟨o,j,n,rfl,e⟩
   rw[show z.cps.size=z.cps.toList.length from Z,II]at e
   exact#[_,Z,q l d o g e]
theorem wf(a:At K mg "key_of" jM ["table","key","name"])(T:Na K mg tk)(yM:Df P w K mg base "letter_digits" ["name"] 1 oa)(yT:Df P w K mg base "coded" X8 1 (ly K)):Df P w K mg base "key_of" Y6 2 (mF K):=by
 refine a.dq Oe λf _ A _ s H vs Q E hr h=>?_
 ·obtain⟨a,b,z,t,ks,rfl,ha,hb,X,lt,q⟩:=h
  refine#[_,(qg (qE (i:=3) Oe.nd Z (Or.inl Z) (qC iq (zd (qc qi qb)) (zj (v:= .int 4) Z T.g_KEY_PLACES #[_,Z])))
   (qg (Qo JZ Z (Db Z T.b_enumerate (qc (qu yM hr.mo (qc (qv 2) qb)) qb)) (bY Z (qJ (qB (i:=4) Oe.nd Z (Or.inl Z)) (qJ (qB (i:=5) Oe.nd Z (Or.inl Z)) Qf)))
   (qh (Em (qv 3) (qC Qv (qv 4) (zj (v:= .int 4) Z T.g_KEY_PLACES #[_,Z])) Cc (qv 5) FY QV)))
   (qh (qm (qu yT hr.mo (qc (qv 0) (qc (qv 1) (qc (Qy (own:=["total"]) (fr:=[]) (js:=[]) Z (c7 (qv 3)) Z (λ_ _ h=>nomatch h) Z (gY Z nofun nofun nofun) (λ_ _ _ _=>qB (i:=0) (show List.Nodup (["total"]:Α)from by decide +kernel) Z (Or.inl Z) (.inr Z)) (λ_ _ _ _=>(qC Qv (qv 0) (zj (v:= .int 16) Z T.g_DIGITS #[_,Z])))) qb)))))))),?_]
  refine#[HS,λW U=>#[W,4,_,Z,Z,qa,⋯,⋯,HW,λl hl=>?_]]
  have s1:=(MM.upd (o:= .lst [V.int 0]) U)
  have s2:=s1.trans (MM.upd (o:= .lst (List.replicate (4:Int).toNat [V.int 0]).flatten) hl)
  have J:H l=none:=QK hl s1
  refine#[_,Z,z,Z,X,λD H1 s3 c d=>?_]
  have F:=s3 _ _ (qa (H:=MO H W (.lst [V.int 0])) (a:=l) (o:= .lst (List.replicate (4:Int).toNat [V.int 0]).flatten))
  have O:D≠l:=λy=>by rw[y,qa]at c;cases c
  generalize hds:ZN z.cps.toList=ds at d q
  have a1:ds.length<=16:=by rw[<- hds,nW];have:=X.2.2;lia
  refine#[D,Z,#[_,MV.of d],rm (K:=K) (a:=D) (xs:=ds.map V.int) (λi σ g=>∃(S L:Ρ),σ=[↑(.ref a),↑(.ref b),↑(.str z),↑(.ref l),S,L]/\g l=↑(.lst ((a7 ds i).map V.int))/\g D=↑(.lst (ds.map V.int))/\MM H g)
   #[none,none,Z,F,d,s2.trans s3] (λi σ g _ ⟨_,_,_,_,hd,_⟩=>MV.of hd) ?_ ?_]
  ·rintro i x σ g pp M ⟨S,L,rfl,n,B,m⟩ N
   obtain⟨Y,rfl,u⟩:=Zf M;have hi:i<ds.length:=(Jt.mp u).1
   have eg:ds.getD i 0=Y:=by rw[JO,u];rfl
   have j:=MM.upd (o:= .tup [.int i,.int Y]) N
   have r:=j _ _ n;have G:i%4<(a7 ds i).length:=Nat.mod_lt i ⋯
   have e4:(i:Int)%4=((i%4:Nat):Int):=by lia
   refine#[pp,_,Z,MW.of qa,Z,_,_,Z,_,_,Z,Z,?_]
   refine#[_,Z,_,Z,_,_,Z,Z,(by decide:(0:Int)<4),l,_,i%4,.int ((a7 ds i).getD (i%4) 0),Z,(by show V.int ((i:Int)%4)=_;rw[e4]),r,?_,_,Z,_,_,Z,Z,l,_,_,i%4,Z,Z,r,lI e4 (by rw[Jb];exact G),_,_,Z,?_,?_,?_]
   ·rw[lY G,JO,Jk G];rfl
   ·rw[qa,fE,<- eg,xg]
   ·rw[qk O];exact j _ _ B
   ·exact aC (m.trans j) J
  ·rintro σ g ⟨S,L,rfl,n,B,m⟩
   rw[Jb]at n;refine#[_,Z,_,Z,_,Z,l,Z,#[_,MV.of n],bj (xs:=(a7 ds ds.length).map V.int) (HW) (λi ys H3=>ys=((cX ds).take i).map V.int/\H3=g) #[by simp,Z] (λi ys H3 ⟨_,e⟩=>by rw[e];exact MV.of n) ?_ ?_]
   ·rintro i ys H3 x M _ ⟨rfl,rfl⟩
    obtain⟨y,rfl,hy⟩:=Zf M;refine#[_,Z,_,_,Z,Z,(by decide:(0:Int)<16),?_,Z]
    have:(cX ds)[i]? =↑(y%16):=by unfold cX;rw[Jm,hy];rfl
    rw[Ig,this];simp
   ·rintro ys H3 a0 ⟨rfl,rfl⟩ p hp
    rw[show(cX ds).take ((a7 ds ds.length).map V.int).length=cX ds from Z]
    have C:=MM.upd (o:= .lst ((cX ds).map V.int)) hp
    exact#[a,b,p,t,ks,cX ds,Z,(ha.same m).same C,(hb.same m).same C,.lst qa,lt,by rw[rc];decide,by rw[rc];decide,λp' H' s' I R=>q p' H' ((m.trans C).trans s') (QK I (m.trans C)) R]
theorem jW(a:At K mg "count_digits" aX ["count"])(T:Na K mg tk):Df P w K mg base "count_digits" ["count"] 1 Fg:=by
 refine a.dq kx λf _ A _ s H e Q E g h=>?_
 ·obtain⟨c,rfl,q⟩:=h
  refine#[_,(qh (qm (qG (qc (qC Qv (qv 0) (zj (v:= .int 16) Z T.g_DIGITS #[_,Z])) (qc (qC Qv (qC eC (qv 0) (zj (v:= .int 16) Z T.g_DIGITS #[_,Z])) (zj (v:= .int 16) Z T.g_DIGITS #[_,Z])) (qc (qC eC (qv 0) qi) qb)))))),?_]
  exact#[_,Z,_,_,Z,Z,(by decide:(0:Int)<16),_,Z,_,_,Z,Z,#[⋯,⋯],_,_,Z,Z,(by decide:(0:Int)<16),_,Z,_,_,Z,Z,#[⋯,⋯],HV,λp d=>q p _ (MM.upd d) qa]
theorem DM{c d:Int}(a:0<=c)(h1:c<4096)(hd:Zv d):∀z∈bO c d,0<=z/\z<=1000000:=λz e=>by
 have:=jK a h1 hd z (LX _ e)
 exact#[this.1,Int.le_trans (Int.le_of_lt this.2) ⋯]
theorem tq(a:At K mg "press_of" fB ["table","key","name","age","count","deed"])(T:Na K mg tk)(N:Df P w K mg base "count_digits" ["count"] 1 Fg)(W:Df P w K mg base "key_of" Y6 2 (mF K))(yT:Df P w K mg base "coded" X8 1 (ly K)):Df P w K mg base "press_of" W7 3 (tV K):=by
 refine a.dq Ob λf _ A _ s H vs Q E u h=>?_
 ·obtain⟨a,b,z,age,c,d,t,ks,rfl,G,hb,O,lt,Y,R,hd,q⟩:=h
  refine#[_,(qg (qE (i:=6) Ob.nd Z (Or.inl Z) (qC lQ (qu N u.mo (qc (qv 4) qb)) (qG (qc (qv 5) qb))))
   (qg (qE (i:=7) Ob.nd Z (Or.inl Z) (qC lQ (qv 6) (qG (qc (qC Qv (qp (xn Z) T.b_sum PyProof.Rows.boot_sum (qc (qv 6) qb)) (zj (v:= .int 16) Z T.g_DIGITS #[_,Z])) qb))))
   (qh (qm (qG (qc (qv 2) (qc (qv 3) (qc (qu yT u.mo (qc (qv 0) (qc (qu W u.mo (qc (qv 0) (qc (qv 1) (qc (qv 2) qb)))) (qc (qv 7) qb)))) qb)))))))),?_]
  refine#[_,Z,c,Z,λp1 H1 s1 x=>?_]
  refine#[_,Z,HS,λp2 m=>?_]
  have J:=MM.upd (o:= .tup [V.int d]) m
  refine#[p1,p2,_,_,Z,Z,J _ _ x,qa,HW,λD H3 s3 n=>?_]
  have e:H3 D=↑(.tup ((bO c d).map V.int)):=n
  have U:=(s1.trans J).trans s3;refine#[_,Z,_,Z,D,bO c d,Z,.tup e,by show 4<=1000;decide,DM Y R hd,_,_,Z,Z,(by decide:(0:Int)<16),HS,λS l=>?_]
  have M:=MM.upd (o:= .tup [V.int ((bO c d).sum%16)]) l
  refine#[D,S,_,_,Z,Z,M _ _ e,qa,HX,λF H5 s5 r=>?_]
  have g:H5 F=↑(.tup ((bP c d).map V.int)):=r
  have j:=(U.trans M).trans s5;refine#[_,Z,_,Z,_,Z,_,Z,_,Z,_,Z,a,b,z,t,ks,Z,G.same j,hb.same j,O,lt,λX H6 y _ B=>?_]
  refine#[_,Z,a,X,F,t,lD t ks z,bP c d,Z,(G.same j).same y,.tup B,.tup (y _ _ g),lt,by rw[eK];decide,by rw[eK];decide,λI H7 s7 _ C=>?_]
  refine#[HV,λp hp=>?_]
  have L:=MM.upd (o:= .tup [V.str z,.int age,.ref I]) hp
  exact q p I _ (((j.trans y).trans s7).trans L) qa (L _ _ C)
theorem oA(a:At K mg "read_press" cp ["table","key","press"])(T:Na K mg tk)(N:Df P w K mg base "key_of" Y6 2 (mF K))(X:Df P w K mg base "decoded" X8 2 (nV K)):Df P w K mg base "read_press" Y3 3 (rh K):=by
 refine a.dq M5 λf _ A _ s H vs Q E C h=>?_
 ·obtain⟨a,b,pr,J,z,age,t,ks,ds,rfl,B,U,n,u,L,pm,G,m,q⟩:=h
  refine#[_,(qg (Qk (qv 2) (cq Z (qJ (qB (i:=3) M5.nd Z (Or.inl Z)) (qJ (qB (i:=4) M5.nd Z (Or.inl Z)) (qJ (qB (i:=5) M5.nd Z (Or.inl Z)) Qf)))))
   (qg (Qk (qu X C.mo (qc (qv 0) (qc (qu N C.mo (qc (qv 0) (qc (qv 1) (qc (qv 3) qb)))) (qc (qv 5) qb)))) (bY Z (qJ (qB (i:=6) M5.nd Z (Or.inl Z)) (qJ (qB (i:=7) M5.nd Z (Or.inl Z)) (qJ (qB (i:=8) M5.nd Z (Or.inl Z)) (qJ (qB (i:=9) M5.nd Z (Or.inl Z)) (qJ (qB (i:=10) M5.nd Z (Or.inl Z)) Qf)))))))
   (qg (qA (qy aZ (qv 10) (qC Qv (qC zo (qC zo (qC zo (qv 6) (qv 7)) (qv 8)) (qv 9)) (zj (v:= .int 16) Z T.g_DIGITS #[_,Z])) (qw _)) (qh (qm zk)) qq)
   (qh (qm (qG (qc (qC zo (qC zo (qv 6) (qC ap (qv 7) (zj (v:= .int 16) Z T.g_DIGITS #[_,Z]))) (qC ap (qv 8) qi)) (qc (qv 9) qb)))))))),?_]
  refine#[_,Z,pr,_,Z,n,Z,_,_,Z,_,_,Z,_,_,Z,Z,?_]
  refine#[_,Z,_,Z,_,Z,_,Z,a,b,z,t,ks,Z,B,U,L,uE pm,λO H1 o _ r=>?_]
  refine#[_,Z,a,O,J,t,lD t ks z,ds,Z,B.same o,.tup r,u.same o,pm,m,by lia,by lia,λY F s2 _ g=>?_]
  have D:∀x H',MM F H'->gU H' x (pe (Z3 (Qe t) (lD t ks z) ds))->Q x H':=λx H' s' I=>q x H' ((o.trans s2).trans s') I
  have S:(Z3 (Qe t) (lD t ks z) ds).length=5:=by rw[jC,G]
  obtain⟨lo,mi,hi,d,j,M⟩:=Di S;rw[M]at g D;refine#[Y,_,Z,MW.of g,Z,_,_,Z,_,_,Z,_,_,Z,_,_,Z,_,_,Z,Z,?_]
  refine#[_,Z,_,Z,_,Z,_,_,Z,Z,_,Z,_,_,Z,Z,_,Z,_,_,Z,Z,_,_,Z,Z,(by decide:(0:Int)<16),Z,_,Z,?_]
  have l:∀x H',MM F H'->gU H' x (if j=(lo+mi+hi+d)%16 then ↑(lo+mi*16+hi*256,d)else none)->Q x H':=D
  by_cases e:j=(lo+mi+hi+d)%16
  ·rw[Jd e]at l
   refine fM (c:=V.int j=V.int ((lo+mi+hi+d)%16)) (by rw[e]) ?_
   refine#[_,Z,_,Z,_,_,Z,Z,.inr #[⋯,⋯],_,_,Z,Z,_,Z,_,_,Z,Z,.inr #[⋯,⋯],_,_,Z,Z,_,Z,HU,λp W=>?_]
   exact l _ _ (MM.upd W) #[p,Z,qa]
  ·rw[Jc e]at l
   refine qK (λ_=>l _ _ (MM.refl _) Z) (λy=>absurd ?_ y)
   have:¬V.int j=V.int ((lo+mi+hi+d)%16):=λR=>e (by injection R)
   show(! decide (V.int j=V.int ((lo+mi+hi+d)%16)))=true
   rw[Jq this];rfl
end
section
variable{P:Ξ}{w:Ω}{K:ι}{mg:MK}{base:Ψ}{tk:Nat->Tok}{C CB CD fI:Δ}{x:Xa}
theorem eY(a:Nz K C "door_named" "House.door_named" Zd ["self","name"])(T:Na K mg tk)(U:OB K C)(l:OE K mg x fI):My P w K mg base C "door_named" X1 1 (c8 K CB CD C x):=by
 refine a.my fR λf _ A _ s H q Q E m h=>?_
 ·obtain⟨c,S,nm,rfl,d,o,n⟩:=h
  refine#[_,(qg (qA (cI m (qv 1) (qz (qv 0))) (qh (QP Qn Z Z Ii Z l.g_Unknown l.e_Unknown (qc qj qb) Z)) qq)
   (qh (qm (qH m (qz (qv 0)) (qv 1))))),?_]
  rcases d.at_.gdd nm with⟨e,g⟩|⟨i,y,z,e,p,_,_,_,g⟩
  ·refine#[_,Z,_,Z,c.ma,_,Z,d.h_doors U,c.dd,_,Z,g,_,Z,zR ?_]
   exact#[HS,λa j=>(o e).mk (MM.refl _) j]
  ·refine#[_,Z,_,Z,c.ma,_,Z,d.h_doors U,c.dd,_,Z,g,_,Z,zt ?_]
   exact#[_,Z,c.ma,_,Z,d.h_doors U,_,Z,c.dd,_,Z,g,n i y e p]
theorem cR(a:Nz K C "button_named" "House.button_named" QZ ["self","name"])(T:Na K mg tk)(U:OB K C)(l:OE K mg x fI):My P w K mg base C "button_named" X1 1 (dw K CB CD C x):=by
 refine a.my cY λf _ A _ s H q Q E m h=>?_
 ·obtain⟨c,S,nm,rfl,d,o,n⟩:=h
  refine#[_,(qg (qA (cI m (qv 1) (qz (qv 0))) (qh (QP Qn Z Z Ii Z l.g_Unknown l.e_Unknown (qc qj qb) Z)) qq)
   (qh (qm (qH m (qz (qv 0)) (qv 1))))),?_]
  rcases d.at_.gbd nm with⟨e,g⟩|⟨i,y,z,e,p,_,_,_,g⟩
  ·refine#[_,Z,_,Z,c.ma,_,Z,d.h_buttons U,c.bd,_,Z,g,_,Z,zR ?_]
   exact#[HS,λa j=>(o e).mk (MM.refl _) j]
  ·refine#[_,Z,_,Z,c.ma,_,Z,d.h_buttons U,c.bd,_,Z,g,_,Z,zt ?_]
   exact#[_,Z,c.ma,_,Z,d.h_buttons U,_,Z,c.bd,_,Z,g,n i y e p]
theorem iM(a:Nz K C "kept_now" "House.kept_now" ZV ["self"])(T:Na K mg tk)(U:OB K C):Mf P w K mg base C "kept_now" y8 1 (uM K CB CD C):=by
 refine a.mq iR λf _ A _ s H n Q E o h=>?_
 ·obtain⟨d,S,rfl,g,q⟩:=h
  refine#[_,(qh (qm (qI qZ T.b_tuple JD (qc (qz (qv 0)) qb)))),?_]
  obtain⟨j,e,l,r⟩:=id g.at_.kl
  exact#[_,Z,d.ma,_,Z,g.h_kept U,d.kl,_,Z,.inl #[MV.of e,λt c=>q t _ (MM.upd c) #[j,qa,l,λi a P h1 m=>Nj.same (MM.upd c) (r i a P h1 m)]]]
theorem ip(a:Nz K C "opened_by" "House.opened_by" Zy ["self","door"])(T:Na K mg tk)(U:OB K C)(r:Mf P w K mg base C "door_named" X1 1 (jf K CB CD C)):Mf P w K mg base C "opened_by" U0 2 (oh K CB CD C):=by
 refine a.mq gq λf _ A _ s H u Q E l h=>?_
 ·obtain⟨j,S,nm,i,y,rfl,d,hi,n,q⟩:=h
  refine#[_,(qg (zb (zh r U.cl l.mo (qv 0) (qc (qv 1) qb)))
   (qh (qm (qI qZ T.b_tuple JD (qc (qH l (qz (qv 0)) (qv 1)) qb))))),?_]
  rcases d.at_.god nm with⟨e,g⟩|⟨v,z,y',e,m,c,_,_,g⟩
  ·rw[hi]at e;cases e
  ·rw[hi]at e;cases e
   rw[n]at c;cases c
   have o:=(d.at_.de i z y m n).2;refine#[_,Z,j.ma,Z,d.no,_,Z,j,S,nm,i,z,Z,d,hi,m,?_]
   exact#[_,Z,j.ma,_,Z,d.h_opened U,_,Z,j.od,_,Z,g,z.ol,_,Z,.inl #[MV.of o,λt p=>q t _ (MM.upd p) qa]]
theorem iN(a:Nz K C "door_now" "House.door_now" ZP ["self","door"])(T:Na K mg tk)(U:OB K C)(p:NW K CD)(r:Mf P w K mg base C "door_named" X1 1 (jf K CB CD C))(m:Mf P w K mg base CD "twin_door" y8 3 (tQ K CD)):Mf P w K mg base C "door_now" U0 4 (kC K CB CD C):=by
 refine a.mq i5 λf _ A _ s H t Q E j h=>?_
 ·obtain⟨g,S,n,nm,i,y,rfl,d,ok,hi,e,q⟩:=h
  refine#[_,(qh (qm (qM m p.cl j.mo (zh r U.cl j.mo (qv 0) (qc (qv 1) qb))))),?_]
  obtain⟨z,y',l,c,_,_⟩:=d.at_.dix hi;rw[e]at c;cases c
  have dl:=(d.at_.de i z y l e).1
  exact#[_,Z,g.ma,Z,d.no,_,Z,g,S,nm,i,z,Z,d,hi,l,z.a.p,Z,dl.dr.no,z.a,y.D,y.L,Z,dl,(ok.dr y (Jp e)).ok.kl,λda H' s' _ _ _ _ o=>q da H' s' o]
theorem gk(a:Nz K C "button_now" "House.button_now" Ze ["self","button"])(T:Na K mg tk)(U:OB K C)(l:Of K CB)(D:Mf P w K mg base C "button_named" X1 1 (tO K CB CD C))(v:Mf P w K mg base CB "age_now" y8 1 (g9 K CB))(G:Mf P w K mg base CB "count_now" y8 1 (aY K CB))(F:Mf P w K mg base CB "cells_now" y8 1 (jG K CB)):Mf P w K mg base C "button_now" W3 2 (nE K CB CD C):=by
 refine a.mq NH λf _ A _ s H I Q E e h=>?_
 ·obtain⟨m,S,nm,j,B,rfl,g,hi,n,q⟩:=h
  refine#[_,(qg (qE (i:=2) NH.nd Z (Or.inl Z) (zh D U.cl e.mo (qv 0) (qc (qv 1) qb)))
   (qh (qm (qG (qc (qM v l.cl e.mo (qv 2)) (qc (qM G l.cl e.mo (qv 2)) (qc (qM F l.cl e.mo (qv 2)) qb))))))),?_]
  obtain⟨z,B',p,d,_,_⟩:=g.at_.bix hi;rw[n]at d;cases d
  obtain⟨ta,ka,b⟩:=g.at_.be j z B p n;refine#[_,Z,m.ma,Z,g.no,_,Z,m,S,nm,j,z,Z,g,hi,p,?_]
  refine#[_,Z,z.p,Z,b.no,z.p,ta,ka,z.ce,B,Z,b,_,Z,z.p,Z,b.no,z.p,ta,ka,z.ce,B,Z,b,_,Z,z.p,Z,b.no,z.p,ta,ka,z.ce,B,Z,b,λc H1 y r=>#[HV,λt x=>?_]]
  have u:=MM.upd (o:= .tup [.int B.age,.int B.cnt,.ref c]) x
  exact q t c _ (y.trans u) qa (u _ _ r)
theorem fL(a:Nz K C "keep_press" "House.keep_press" Za ["self","pressed","deed"])(T:Na K mg tk)(U:OB K C)(XC:OE K mg x fI)(UB:Of K CB)(R:My P w K mg base CB "press_once" Y9 4 (gp K CB x)):My P w K mg base C "keep_press" V8 5 (mz K CB CD C x):=by
 refine a.my f9 λf _ A _ s H vs Q E X h=>?_
 ·obtain⟨g,S,n,j,z,B,d,rfl,o,ok,n9,r,v,hd,tw,q⟩:=h
  refine#[_,(qg (zb (QU JX Ia Ib Qi (qz (qv 0)) (qc (zv R zm UB.cl X.mo (qv 1) (qc (qv 2) qb)) qb)))
   (qh (qm (qC QM (qp qS T.b_len JK (qc (qz (qv 0)) qb)) qi)))),?_]
  obtain⟨ta,ka,b⟩:=o.at_.be j z B r v;have y:=ok.bt B (Jp v);obtain⟨as,W,lk,rk⟩:=id o.at_.kl;have nk:=ok.nk;refine#[_,Z,g.ma,_,Z,o.h_kept U,.inl #[Z,_,MV.of W],_,Z,z.p,Z,b.no,_,Z,z.p,ta,ka,z.ce,B,d,Z,b,y.nm,by rw[y.t,ok.tp.length_eq];rfl,y.ok.c0,hd,tw,λN pr M H1 I Y J e2=>?_]
  have h1:=o.btn r v I #[ta,ka,Y] (ZO B);obtain⟨e,l,c,D⟩:=id h1.at_.kl;have c:e.length=S.kp.length:=c
  refine#[g.kl,_,_,Z,Z,l,by rw[Jb,c,Jn];lia,?_]
  have p:Mv [g.kl] H1 (MO H1 g.kl (.lst (e.map V.ref++[.ref pr]))):=Mv.upd1
  have m:NT [g.kl] H1:=NT.one l trivial
  have L:R4 (MO H1 g.kl (.lst (e.map V.ref++[.ref pr]))) g.kl (S.kp++[qV B d]):=by
   refine#[e++[pr],by rw[qa,JF];rfl,by rw[Jo,Jo,c];rfl,λi u P t F=>?_]
   rcases aU c t F with⟨t,F⟩|⟨rfl,rfl⟩
   ·exact Nj.mv p m (D i u P t F)
   ·exact Nj.mv p m #[M,J,e2]
  have G:=h1.kpt L;refine#[_,Z,g.ma,_,Z,G.h_kept U,g.kl,_,Z,.inl (MV.of qa),_,_,Z,Z,?_]
  have O:((e.map V.ref++[V.ref pr]).length:Int)-1=(S.kp.length:Int):=by rw[Jo,Jb,c];simp
  show Q (.int (((e.map V.ref++[V.ref pr]).length:Int)-1)) _
  rw[O];exact q _ N ((kG r I).trans (pj kW p)) G
end
section
variable{P:Ξ}{w:Ω}{K:ι}{mg:MK}{base:Ψ}{tk:Nat->Tok}{C CB CD fI:Δ}{x:Xa}
theorem hU(a:Nz K C "add_door" "House.add_door" ZY ["self","name","near","far","most"])(T:Na K mg tk)(U:OB K C)(Y:OE K mg x fI)(UD:NW K CD)(yE:Mi P w K mg base CD "Door" y9 1 (lE K CD))(dX:Mf P w K mg base CD "close_below" W6 1 (jx K CD)):My P w K mg base C "add_door" Y0 3 (uq K CB CD C x):=by
 refine a.my NP λf _ A _ s H vs Q E B h=>?_
 ·obtain⟨d,S,n,nm,j,m,l,rfl,o,ok,n9,dr,dq⟩:=h
  refine#[_,(qg (qA (kF B (qv 1) (qz (qv 0))) (qh (QP Qn Z Z Ii Z Y.g_Known Y.e_Known (qc qj qb) Z)) qq)
   (qg (qE (i:=5) NP.nd Z (Or.inl Z) (aQ yE B.mo (qc (qz (qv 0)) (qc (qz (qv 0)) (qc (qv 2) (qc (qv 3) (qc (qv 4) qb)))))))
   (qg (qA (qy lu (qz (qv 0)) qi (qw _)) (qh (zb (zh dX UD.cl B.mo (qv 5) (qc (qz (qv 0)) qb)))) qq)
   (qg (Zj B (qz (qv 0)) (qv 1) (qv 5))
   (qh (Zj B (qz (qv 0)) (qv 1) (zd qb))))))),?_]
  rcases o.at_.gdd nm with⟨e,g⟩|⟨i,y,z,e,hy,_,_,_,g⟩
  case inr=>
   refine#[_,Z,_,Z,d.ma,_,Z,o.h_doors U,d.dd,_,Z,g,_,Z,zR ?_]
   exact#[HS,λa J=>M8.mk (dr .known (Jd (by rw[e];rfl))) (MM.refl _) J]
  have dq:=dq _ _ (Jc (by rw[e];intro z;cases z))
  refine#[_,Z,_,Z,d.ma,_,Z,o.h_doors U,d.dd,_,Z,g,_,Z,zt ?_]
  refine#[_,Z,d.ma,_,Z,o.h_table U,_,Z,d.ma,_,Z,o.h_keys U,_,Z,_,Z,_,Z,λp dx N O M=>?_]
  have G:MM H (MO (MO H dx (.own p)) p (.ins CD dx [])):=(MM.upd O).trans (MM.upd (by rw[qk M.symm];exact N))
  have o1:=o.same G;refine#[p,d.ta,d.hk,dx,j,m,l,S.t,S.kss,Z,qa,.inr o1.at_.tb,o1.at_.ks,ok.k8,λta hk bd lg H2 fh fb fl m2 d2 k2=>#[Z,?_]]
  have u:=MR.dl d2 k2;have R:MM H H2:=MM.mv_of G m2 (λc I=>by rw[Jg.mp I];exact N)
  have W:=o.same R;have fd:∀z∈dS #[p,ta,hk,bd,lg],H z=none:=uf N (QK fh G) (QK fb G) (QK fl G)
  have l0:=ok.l0;refine BZ (λL H3=>L=[↑(.ref d.ma),↑(.str nm),↑(.int j),↑(.int m),↑(.int l),↑(.ref p)]/\MM H H3/\Nk K CD H3 #[p,ta,hk,bd,lg] (Zz S nm j m l).D (Zz S nm j m l).L) (λD' a1 v=>?_) ?_
  ·refine#[_,Z,d.ma,_,Z,W.h_least U,_,_,Z,Z,_,Z,qK (λz=>?_) (λz=>?_)]
   ·have z:0<S.least:=Jz z
    refine#[_,Z,p,Z,u.dr.no,_,Z,d.ma,_,Z,W.h_least U,#[p,ta,hk,bd,lg],_,[],S.least,Z,u,JM _,λD2 r h2 H3 m3 D=>v _ _ #[Z,?_,?_]]
    ·exact MM.mv_of R m3 (λc I=>fd c (by simp only[Ji,Jr,Js]at I;rcases I with rfl|rfl;exact jm _;exact ft _))
    ·cases h2
     unfold Zz;simp only
     rw[Jd z];have e2:(if S.least>0 then S.least else 0)=S.least:=Jd z
     simp only at D
     rw[e2]at D;exact D
   ·have z:¬0<S.least:=λy=>z (Jf y)
    refine v _ _ #[Z,R,?_]
    unfold Zz;simp only
    rw[Jc z,show S.least=0 by lia]
    exact u
  rintro _ H3 ⟨rfl,s3,D⟩
  have nd:=ok.nd;have X:=o.same s3;obtain⟨kvs,p1,r1⟩:=o.putD (y:=Zz S nm j m l) s3 D fd e Z (by lia)
  refine#[_,Z,_,Z,d.ma,_,Z,X.h_doors U,_,Z,d.dd,_,Z,p1,?_]
  have o4:zX K (MO H3 d.dd (.dK kvs)) d.ma "opened" (.ref d.od):=by
   obtain⟨t,q⟩:=X.mn;obtain⟨w,ow⟩:=o.at_.ow
   exact#[C,t,_,by rw[qk (λz=>by have:=ow.dd;rw[<- z,ow.ma]at this;cases this)];exact q,U.cl,U.n_opened,bq 6 Z (show((Ck d S.least).map (·.1)).Nodup from yx)]
  refine#[HR,λol F=>?_]
  obtain⟨a0,p2,m6,gr,h6⟩:=r1 ol F;have o5:zX K (MO (MO H3 d.dd (.dK kvs)) ol (.lst [])) d.ma "opened" (.ref d.od):=by
   obtain⟨C',t,fs,q,r⟩:=o4
   exact#[C',t,fs,by rw[qk (qr q F)];exact q,r]
  refine#[_,Z,d.ma,_,Z,o5,_,Z,d.od,_,Z,p2,?_]
  exact dq .non _ _ m6 gr Z h6 Z
theorem eF(a:Nz K C "add_button" "House.add_button" Zn ["self","name","step"])(T:Na K mg tk)(U:OB K C)(F:OE K mg x fI)(UB:Of K CB)(Y:Mi P w K mg base CB "Button" X5 1 (mt K CB)):My P w K mg base C "add_button" ["self","name","step"] 3 (tS K CB CD C x):=by
 refine a.my NG λf _ A _ s H vs Q E t h=>?_
 ·obtain⟨d,S,n,nm,step,rfl,j,ok,n9,dr,dq⟩:=h
  refine#[_,(qg (qA (kF t (qv 1) (qz (qv 0))) (qh (QP Qn Z Z Ii Z F.g_Known F.e_Known (qc qj qb) Z)) qq)
   (qg (qE (i:=3) NG.nd Z (Or.inl Z) (qC QM (qp qS T.b_len JK (qc (qz (qv 0)) qb)) qi))
   (qh (Zj t (qz (qv 0)) (qv 1) (aQ Y t.mo (qc (qv 1) (qc (qz (qv 0)) (qc (qD qO (qz (qv 0)) (qv 3)) (qc (qv 3) (qc (qv 2) qb)))))))))),?_]
  rcases j.at_.gbd nm with⟨e,g⟩|⟨i,y,z,e,hy,_,_,_,g⟩
  case inr=>
   refine#[_,Z,_,Z,d.ma,_,Z,j.h_buttons U,d.bd,_,Z,g,_,Z,zR ?_]
   exact#[HS,λa q=>M8.mk (dr .known (Jd (by rw[e];rfl))) (MM.refl _) q]
  have dq:=dq _ _ (Jc (by rw[e];intro z;cases z))
  refine#[_,Z,_,Z,d.ma,_,Z,j.h_buttons U,d.bd,_,Z,g,_,Z,zt ?_]
  obtain⟨l,I,W,r⟩:=id j.at_.ks;refine#[_,Z,d.ma,_,Z,j.h_keys U,d.hk,_,Z,.inl (MV.of I),_,_,Z,Z,?_]
  rw[Jb,W];have k1:=ok.k1;have hk:S.kss.length-1<l.length:=by lia
  have G:=Jk hk;have o:S.kss[S.kss.length-1]? =↑(S.kss.getD (S.kss.length-1) []):=by
   rw[JO,Jk (by lia)];rfl
  have sq:=r _ _ _ G o;refine#[_,Z,_,Z,d.ma,_,Z,j.h_table U,_,Z,d.ma,_,Z,j.h_keys U,_,Z,d.hk,_,_,.ref l[S.kss.length-1],Z,Z,MV.of I,?_,_,Z,_,Z,λp dx v D u=>?_]
  ·have L:((S.kss.length:Int)-1)=((S.kss.length-1:Nat):Int):=by lia
   show Q2 (l.map V.ref) ((S.kss.length:Int)-1)=_
   rw[L];exact zV (by rw[Jm,G];rfl)
  have m:MM H (MO (MO H dx (.own p)) p (.ins CB dx [])):=(MM.upd D).trans (MM.upd (by rw[qk u.symm];exact v))
  have o1:=j.same m;refine#[p,d.ta,l[S.kss.length-1],dx,nm,(S.kss.length:Int)-1,step,S.t,S.kss.getD (S.kss.length-1) [],Z,qa,.inr o1.at_.tb,.inr (MM.sqt m sq.up),λta ka ce H2 fc N b2=>#[Z,?_]]
  have J:MM H H2:=MM.mv_of m N (λc X=>by rw[Jg.mp X];exact v)
  have M:=j.same J;have nb:=ok.nb;obtain⟨kvs,p1,R,O,h3⟩:=j.putB (B:=gP S nm step) (p:=p) (ce:=ce) J #[ta,ka,b2] v (QK fc m) e (by lia)
  refine#[_,Z,d.ma,_,Z,M.h_buttons U,_,Z,d.bd,_,Z,p1,?_]
  exact dq .non _ _ R O Z h3 Z
end
section
variable{P:Ξ}{w:Ω}{K:ι}{mg:MK}{base:Ψ}{tk:Nat->Tok}{C CB CD fI:Δ}{x:Xa}
theorem km(a:Nz K C "teach" "House.teach" bD ["self","door","button"])(T:Na K mg tk)(U:OB K C)(J:OE K mg x fI)(UB:Of K CB)(UD:NW K CD)(XI:Xi P w K mg base x.b "BadPress" (.ref x.e::Qj) Qj "ValueError.__new__" V7 2 (eN x.b "place"))(dG:My P w K mg base C "door_named" X1 1 (c8 K CB CD C x))(dC:My P w K mg base C "button_named" X1 1 (dw K CB CD C x))(dM:My P w K mg base C "keep_press" V8 5 (mz K CB CD C x))(xA:Mf P w K mg base CD "button_of" X1 1 (vY K CD))(xD:Mf P w K mg base CD "is_full" y8 1 (mh K CD))(dJ:Mf P w K mg base CD "takes_age" W6 1 (fH K CD))(xJ:Mf P w K mg base CD "learn" Y5 7 (ie K CD))(dB:Mf P w K mg base CB "count_now" y8 1 (aY K CB))(dE:Mf P w K mg base CB "age_now" y8 1 (g9 K CB)):My P w K mg base C "teach" ["self","door","button"] 8 (sB K CB CD C x):=by
 refine a.my Ni λf _ A _ s H vs Q E m h=>?_
 ·obtain⟨g,S,n,dn,bn,rfl,p,ok,n9,r,dq⟩:=h
  refine#[_,(qg (qE (i:=3) Ni.nd Z (Or.inl Z) (zv dG zm U.cl m.mo (qv 0) (qc (qv 1) qb)))
   (qg (qE (i:=4) Ni.nd Z (Or.inl Z) (zv dC zm U.cl m.mo (qv 0) (qc (qv 2) qb)))
   (qg (qA (qy uL (zh xA UD.cl m.mo (qv 3) (qc (qv 2) qb)) zk (qw _)) (qh (QP Qn Z Z Ii Z J.g_Known J.e_Known (qc qj qb) Z)) qq)
   (qg (qA (zn (qM xD UD.cl m.mo (qv 3))) (qh (QP Qn Z Z Ii Z J.g_Full J.e_Full (qc qj qb) Z)) qq)
   (qg (qA (qy lu (qM dB UB.cl m.mo (qv 4)) (qC QM (zj (v:= .int 4096) Z T.g_COUNTS #[_,Z]) qi) (qw _)) (qh (QP Qn Z Z Ii Z J.g_Worn J.e_Worn (qc qj qb) Z)) qq)
   (qg (qA (zW (zn (zh dJ UD.cl m.mo (qv 3) (qc (qM dE UB.cl m.mo (qv 4)) qb)))) (qh (nA Qn Z Z Ii Z XI m.mo (qc qi qb) Z)) qq)
   (qg (qE (i:=5) Ni.nd Z (Or.inl Z) (zv dM zm U.cl m.mo (qv 0) (qc (qv 4) (qc qi qb))))
   (qg (qE (i:=6) Ni.nd Z (Or.inl Z) (zv dM zm U.cl m.mo (qv 0) (qc (qv 4) (qc qi qb))))
   (qh (zb (zh xJ UD.cl m.mo (qv 3) (qc (qD qO (qz (qv 0)) (qv 5)) (qc (qD qO (qz (qv 0)) (qv 6)) qb))))))))))))),?_]
  refine#[_,Z,g.ma,Z,p.no,_,Z,g,S,dn,Z,p,λe=>r .unknown (jX e),λi z hi M=>?_]
  obtain⟨z',y,O,D,_,_⟩:=p.at_.dix hi;rw[M]at O;cases O
  refine#[_,Z,g.ma,Z,p.no,_,Z,g,S,bn,Z,p,λe=>r .unknown ((ln hi D).trans (bh e)),λj u hj hu=>?_]
  obtain⟨u',B,X,L,_,eB⟩:=p.at_.bix hj;rw[hu]at X;cases X
  rw[nL hi D hj L]at r dq;have dl:=(p.at_.de i z y M D).1;obtain⟨ta,ka,b⟩:=p.at_.be j u B hu L;have G:=ok.bt B (Jp L);have I:=ok.dr y (Jp D);subst eB;refine#[_,Z,z.a.p,Z,dl.dr.no,_,Z,z.a.p,z.a.ta,z.a.hk,z.a.bd,z.a.lg,y.L.length,y.D,B.nm,Z,dl.dr,λN=>?_,λe a he a2=>?_]
  case refine_2=>
   refine#[Z,_,Z,Ql (by rw[Jq (by intro z;cases z)];rfl) ?_]
   exact#[HS,λa l=>M8.mk (r .known (Jd (by rw[he];intro z;cases z))) (MM.refl _) l]
  have r1:dv S i j y B=_:=Jc (λq=>q N)
  rw[r1]at r dq;refine#[Z,_,Z,Qd (by rw[Jf Z];rfl) ?_]
  refine#[_,Z,z.a.p,Z,dl.dr.no,z.a.p,z.a.ta,z.a.hk,z.a.bd,z.a.lg,y.L.length,y.D,Z,dl.dr,_,Z,qK (λq=>?_) (λq=>?_)]
  ·exact#[HS,λa l=>M8.mk (r .full (Jd (Jz q))) (MM.refl _) l]
  have hm:¬y.D.most<=(y.D.kn.length:Int):=λz=>q (Jf z)
  rw[Jc hm]at r dq;refine#[_,Z,u.p,Z,b.no,u.p,ta,ka,u.ce,B,Z,b,_,_,Z,Z,_,_,Z,Z,_,Z,qK (λq=>?_) (λq=>?_)]
  ·have q:B.cnt>4096-2:=Jz q
   exact#[HS,λa l=>M8.mk (r .worn (Jd (by lia))) (MM.refl _) l]
  have hc:¬4094<B.cnt:=λz=>q (Jf (show B.cnt>4096-2 by lia))
  rw[Jc hc]at r dq;refine#[_,Z,z.a.p,Z,dl.dr.no,_,Z,u.p,Z,b.no,u.p,ta,ka,u.ce,B,Z,b,z.a.p,z.a.ta,z.a.hk,z.a.bd,z.a.lg,y.L.length,y.D,B.age,Z,dl.dr,_,Z,?_]
  by_cases hl:B.age<S.least
  ·refine Ql (by unfold ZK;rw[Jq (by rw[I.l];lia)];rfl) ?_
   exact#[HS,λe he=>#[e,0,Z,⋯,qa,λd I=>#[Z,↑d,qa,N4.mk (r (.badp 0) (Jd hl)) (MM.refl _) he I]]]
  rw[Jc hl]at dq;have a1:=G.a1;refine Qd (by unfold ZK;rw[Jf (by rw[I.l];lia),Jf (by rw[I.k];exact G.a1)];rfl) ?_
  have F:Zv 0:=#[⋯,⋯]
  refine#[_,Z,g.ma,Z,p.no,_,Z,g,S,n,j,u,B,0,Z,p,ok,by lia,hu,L,F,(λq=>by lia),λH1 c1 m1 h1=>?_]
  have a0:=ok.keep L c1 F;refine#[_,Z,g.ma,Z,h1.no,_,Z,g,qY S j B 0,n+1,j,u,B.pr,0,Z,h1,a0,by lia,hu,cj L,F,(λq=>by rw[au]at q;lia),λH2 c2 m2 W=>?_]
  obtain⟨c,Y,o,t⟩:=id W.at_.kl;have o:c.length=((S.kp++[qV B 0])++[qV B.pr 0]).length:=o
  have t:∀(i:Nat) (a:Δ) (P:Ps),c[i]? =↑a->((S.kp++[qV B 0])++[qV B.pr 0])[i]? =↑P->N3 H2 a P:=t
  rw[Jo,Jo]at o;have o:c.length=S.kp.length+1+1:=o
  have g1:=Jk (show S.kp.length<c.length by lia)
  have g2:=Jk (show S.kp.length+1<c.length by lia)
  have q1:=t _ _ (qV B 0) g1 (by rw[Iw (by rw[Jo];simp),Ik (Je _)];simp)
  have q2:=t _ _ (qV B.pr 0) g2 (by rw[Ik (by rw[Jo];exact Je _),Jo];simp)
  have R:=(W.at_.de i z y M D).1;have y1:=Jp D;have a3:(0:Int)<=B.cnt:=G.ok.c0
  have ll:=I.ll;refine#[_,Z,z.a.p,Z,R.dr.no,_,Z,g.ma,_,Z,W.h_kept U,_,Z,g.kl,_,_,.ref c[S.kp.length],Z,Z,MV.of Y,zV (by rw[Jm,g1];rfl),_,Z,g.ma,_,Z,W.h_kept U,_,Z,g.kl,_,_,.ref c[S.kp.length+1],Z,Z,MV.of Y,?_,z.a,y.D,y.L,_,_,qV B 0,qV B.pr 0,B.cnt,0,0,Z,R,by lia,I.ok,q1,q2,br ok G (by lia) F,?_,bM ok y1 G (by lia) (by lia) F,?_,ZO B,ae B,?_,by lia,λH3 m3 d3=>?_]
  ·have e1:(((qY S j B 0).kp.length:Nat):Int)=((S.kp.length+1:Nat):Int):=by
    show((S.kp++[qV B 0]).length:Int)=_
    rw[Jo];rfl
   rw[e1];exact zV (by rw[Jm,g2];rfl)
  ·exact br ok (G.pr (by lia)) (by rw[au];lia) F
  ·have:=bM ok y1 (G.pr (by lia)) (by rw[ae];lia) (by rw[au];lia) F
   rw[this,au]
  ·show y.D.kn.lookup B.pr.nm=none
   rw[ZO];exact N
  ·have h3:=W.door M D (fO m3) d3
   have en:(qV B.pr 0).nm=B.nm:=ZO B
   have ea:(qV B.pr 0).age=B.age:=ae B
   rw[en,ea]at h3;exact dq _ _ Z .non g H3 ((m1.trans m2).trans (iF M (fO m3))) Om.refl Z h3 Z
end
end Lw
namespace L3
open PySem PySem.Spec PyProof.Rows L2
def Bv(S:Hs)(j:Nat)(B:Bt):Hd->Nr
 | .press _ deed ds=>ai S j B deed ds
 | .lose _=> .ok (S.setB j B.ou) .non
 | .tear _=> .ok (S.setB j B.tn) .non
 | .turnB _=>if(S.kss.length:Int)<=B.age+1 then .ref .worn else .ok (S.setB j (B.turn (S.kss.getD (B.age+1).toNat []))) .non
 |_=> .ref .unknown
def oO:Hd->Option Str
 | .press b _ _=>↑b
 | .lose b=>↑b
 | .tear b=>↑b
 | .turnB b=>↑b
 |_=>none
theorem DV{S:Hs}{d:Hd}{b:Str}{j:Nat}{B:Bt}(hb:oO d=↑b)(c:qP S.bn b=↑j)(a:S.bs[j]? =↑B):Qa S d=Bv S j B d:=by
 cases d with
 |press b' deed ds=>cases hb;exact mV c a
 |lose b'=>cases hb;exact cw c a
 |tear b'=>cases hb;exact cw c a
 |turnB b'=>cases hb;exact cw c a
 |_=>cases hb
theorem BU{S:Hs}{d:Hd}{b:Str}(hb:oO d=↑b)(a:qP S.bn b=none):Qa S d= .ref .unknown:=by
 cases d with
 |press b' deed ds=>cases hb;exact jV a
 |lose b'=>cases hb;exact bh a
 |tear b'=>cases hb;exact bh a
 |turnB b'=>cases hb;exact bh a
 |_=>cases hb
def E8(H:Hp)(p:Δ)(a:Ha):Hd->Prop
 | .press _ deed ds=>∃q,H p=↑(.tup [.int deed,.ref q])/\Sq [] H q (ds.map V.str)/\q∉hF a/\Zv deed/\ds.length<=5
 |_=>True
inductive P8 (K:ι) (CB CD:Δ) (ws:Α) (vs:Β) (H:Hp) (Q:VK):Prop
 |mk (a:Ha) (S:Hs) (n j:Nat) (u:Og) (B:Bt) (p:Δ) (d:Hd) (h1:vs=[.ref a.ma,.str (zc d),.ref u.p,.ref p]) (h2:MP K CB CD none H a S) (h3:M4 n S) (h4:n<=900000) (h5:a.bs[j]? =↑u) (h6:S.bs[j]? =↑B) (h7:oO d≠none) (h8:zc d∈ws) (h9:E8 H p a d) (h10:Ot K CB CD H a S (Bv S j B d) Q)
def rS(K:ι)(CB CD:Δ)(ws:Α):Sp:=λa H Q _=>P8 K CB CD ws a H Q
theorem ji{S:Hs}{d:Hd}{n:Nat}(h:n<=S.ds.length):n<=(fq S (Qa S d)).ds.length:=by
 cases e:Qa S d with
 |ref r=>exact h
 |ok S' o=>exact JH h (gQ e).1
theorem BG{S:Hs}{d:Hd}(hw:zc d="add_door"):1<=(fq S (Qa S d)).ds.length:=by
 cases d with
 |addD nm near far most=>
  have e:Qa S (.addD nm near far most)=if(qP S.dn nm).isSome=true then Nr.ref .known else .ok {S with ds:=S.ds++[Zz S nm near far most]} .non:=Z
  rw[e];split
  ·rename_i h
   obtain⟨i,hi⟩:=Li.mp h
   have:=wR hi
   unfold Hs.dn at this;rw[Jb]at this
   show 1<=S.ds.length
   omega
  ·show 1<=(S.ds++[_]).length
   rw[Jo];exact Nat.le_add_left _ _
 |_=>exact absurd (show(_:Str)=_ from hw) (by show¬((_:Str)=_);first|exact(show¬(("add_button":Str)="add_door") by decide +kernel)|exact(show¬(("teach":Str)="add_door") by decide +kernel)|exact(show¬(("press_button":Str)="add_door") by decide +kernel)|exact(show¬(("play_kept":Str)="add_door") by decide +kernel)|exact(show¬(("lose_cell":Str)="add_door") by decide +kernel)|exact(show¬(("tear_cell":Str)="add_door") by decide +kernel)|exact(show¬(("turn_house":Str)="add_door") by decide +kernel)|exact(show¬(("turn_button":Str)="add_door") by decide +kernel)|exact(show¬(("close_ages":Str)="add_door") by decide +kernel)|exact(show¬(("forget_at":Str)="add_door") by decide +kernel))
inductive P9 (K:ι) (CB CD C:Δ) (vs:Β) (H:Hp) (Q:VK):Prop
 |mk (sc:Δ) (ns:Ε) (g:Bool) (h1:vs=[.ref sc,.bl g]) (h2:MV K H sc (ns.map V.int)) (h3:∀q b aH aO S H',H' q=↑(.tup [.ref b,.ref aH.ma,.ref aO.ma])->Hb K CB CD C H H' b 1000 aH aO S 30->1<=S.ds.length->Q (.ref q) H')
def pS(K:ι)(CB CD C:Δ):Sp:=λa H Q _=>P9 K CB CD C a H Q
end L3
namespace Lw
open PySem L2 L3
section
variable{P:Ξ}{w:Ω}{K:ι}{mg:MK}{base:Ψ}{tk:Nat->Tok}{C CB CD:Δ}
theorem j8(a:Nz K C "__init__" "House.__init__" aK ["self","table","key"])(T:Na K mg tk)(U:OB K C):Mf P w K mg base C "__init__" ["self","table","key"] 1 (lJ K CB CD C):=by
 refine a.mq lh λf _ A _ s H vs Q E hr h=>?_
 ·obtain⟨p,t,k,dx,tt,ks,rfl,hp,hT,hk,q⟩:=h
  refine#[_,(qg (zp (qv 0) (qI ZL T.b_tuple JD (qc (qv 1) qb)))
   (qg (zp (qv 0) (zd (qc (qI i7 T.b_tuple JD (qc (qv 2) qb)) qb)))
   (qg (zp (qv 0) qi)
   (qg (zp (qv 0) ZQ)
   (qg (zp (qv 0) ZQ)
   (qg (zp (qv 0) (zd qb))
   (qh (zp (qv 0) ZQ)))))))),?_]
  refine#[_,Z,t,_,Z,hT,λta H1 s1 ht=>#[_,Z,p,_,Z,ZW [("table",V.ref ta)] U.cl (s1 _ _ hp) U.n_table 0,?_]]
  have e1:=s1 _ _ hp;have m1:Mv [p] H (MO H1 p (.ins C dx [("table",V.ref ta)])):=s1.mv.trans Mv.upd1
  have b2:PY (MO H1 p (.ins C dx [("table",V.ref ta)])) k ks:=(PY.same s1 hk).mv Mv.upd1 (NT.one e1 trivial) (zu (λz=>by
   rcases PY.same s1 hk with q|q|⟨o,q⟩<;>(rw[z,e1]at q;cases q)))
  have b4:=zy (o:= .ins C dx [("table",V.ref ta)]) e1 ht
  have L:(MO H1 p (.ins C dx [("table",V.ref ta)])) p=↑(.ins C dx [("table",V.ref ta)]):=qa
  generalize MO H1 p (.ins C dx [("table",V.ref ta)])=G1 at m1 b2 b4 L⊢
  refine#[_,Z,k,ks,Z,b2,λkt H2 s2 c2=>#[HS,λc D=>#[_,Z,p,_,Z,ZW [("table",V.ref ta),("house_keys",V.ref c)] U.cl (MM.upd D _ _ (s2 _ _ L)) U.n_house_keys 1,?_]]]
  have u2:=MM.upd (o:= .lst [.ref kt]) D
  have Y:=s2.trans u2;have O:=Y _ _ L;have m2:Mv [p] G1 (MO (MO H2 c (.lst [.ref kt])) p (.ins C dx [("table",V.ref ta),("house_keys",V.ref c)])):=Y.mv.trans Mv.upd1
  have B:c≠p:=λz=>by rw[z,s2 _ _ L]at D;cases D
  have f1:H c=none:=GK (m1.trans s2.mv) D B
  have b3:(MO (MO H2 c (.lst [.ref kt])) p (.ins C dx [("table",V.ref ta),("house_keys",V.ref c)])) c=↑(.lst [.ref kt]):=by rw[qk B];exact qa
  have N:=(Mv.upd1 (a:=p) (o:= .ins C dx [("table",V.ref ta),("house_keys",V.ref c)])).rd (NT.one O trivial) (Rd.same u2 c2)
  have b7:=zy (o:= .ins C dx [("table",V.ref ta),("house_keys",V.ref c)]) O (MM.sqt Y b4)
  have I:(MO (MO H2 c (.lst [.ref kt])) p (.ins C dx [("table",V.ref ta),("house_keys",V.ref c)])) p=↑(.ins C dx [("table",V.ref ta),("house_keys",V.ref c)]):=qa
  have c1:=m1.trans m2;generalize MO (MO H2 c (.lst [.ref kt])) p (.ins C dx [("table",V.ref ta),("house_keys",V.ref c)])=G2 at c1 b3 N b7 I⊢
  refine#[_,Z,p,_,Z,ZW [("table",V.ref ta),("house_keys",V.ref c),("least_age",V.int 0)] U.cl I U.n_least_age 2,?_]
  have i:∀{G:Hp} {fs:List (Str×V)} {z:Δ} (o:HO) (n:List (Str×V)),G p=↑(.ins C dx fs)->Mv [p] H G->MW K G ta (tt.map V.int)->G c=↑(.lst [.ref kt])->Rd G kt (.tup (ks.map V.int))->G z=none->z≠p/\z≠c/\H z=none/\Mv [p] G (MO (MO G z o) p (.ins C dx n))/\Mv [p] H (MO (MO G z o) p (.ins C dx n))/\MW K (MO (MO G z o) p (.ins C dx n)) ta (tt.map V.int)/\(MO (MO G z o) p (.ins C dx n)) c=↑(.lst [.ref kt])/\Rd (MO (MO G z o) p (.ins C dx n)) kt (.tup (ks.map V.int))/\(MO (MO G z o) p (.ins C dx n)) z=↑o:=λ{G fs z} o n e m t h r M=>by
   have nz:z≠p:=λq=>by rw[q,e]at M;cases M
   have u:=MM.upd (o:=o) M
   have eu:=u _ _ e;refine#[nz,λq=>(by rw[q,h]at M;cases M),GK m M nz,u.mv.trans Mv.upd1,m.trans (u.mv.trans Mv.upd1),zy eu (MM.sqt u t),by rw[qk B];exact u _ _ h,Mv.upd1.rd (NT.one eu trivial) (Rd.same u r),by rw[qk nz];exact qa]
  have t3:=zy (o:= .ins C dx [("table",V.ref ta),("house_keys",V.ref c),("least_age",V.int 0)]) I b7
  have m3:Mv [p] H (MO G2 p (.ins C dx [("table",V.ref ta),("house_keys",V.ref c),("least_age",V.int 0)])):=c1.trans Mv.upd1
  have h3:(MO G2 p (.ins C dx [("table",V.ref ta),("house_keys",V.ref c),("least_age",V.int 0)])) c=↑(.lst [.ref kt]):=by rw[qk B];exact b3
  have r3:=(Mv.upd1 (a:=p) (o:= .ins C dx [("table",V.ref ta),("house_keys",V.ref c),("least_age",V.int 0)])).rd (NT.one I trivial) N
  have W:(MO G2 p (.ins C dx [("table",V.ref ta),("house_keys",V.ref c),("least_age",V.int 0)])) p=↑(.ins C dx [("table",V.ref ta),("house_keys",V.ref c),("least_age",V.int 0)]):=qa
  generalize MO G2 p (.ins C dx [("table",V.ref ta),("house_keys",V.ref c),("least_age",V.int 0)])=G3 at m3 t3 h3 r3 W⊢
  refineλdd b6=>#[_,Z,p,_,Z,ZW [("table",V.ref ta),("house_keys",V.ref c),("least_age",V.int 0),("doors",V.ref dd)] U.cl (MM.upd b6 _ _ W) U.n_doors 3,?_]
  obtain⟨F,d4,d3,g4,m4,t4,h4,r4,d⟩:=i (.dK []) [("table",V.ref ta),("house_keys",V.ref c),("least_age",V.int 0),("doors",V.ref dd)] W m3 t3 h3 r3 b6
  have a1:(MO (MO G3 dd (.dK [])) p (.ins C dx [("table",V.ref ta),("house_keys",V.ref c),("least_age",V.int 0),("doors",V.ref dd)])) p=↑(.ins C dx [("table",V.ref ta),("house_keys",V.ref c),("least_age",V.int 0),("doors",V.ref dd)]):=qa
  generalize MO (MO G3 dd (.dK [])) p (.ins C dx [("table",V.ref ta),("house_keys",V.ref c),("least_age",V.int 0),("doors",V.ref dd)])=G4 at g4 m4 t4 h4 r4 d a1⊢
  refineλbd J=>#[_,Z,p,_,Z,ZW [("table",V.ref ta),("house_keys",V.ref c),("least_age",V.int 0),("doors",V.ref dd),("buttons",V.ref bd)] U.cl (MM.upd J _ _ a1) U.n_buttons 4,?_]
  obtain⟨a2,c5,c3,g5,m5,t5,h5,r5,g⟩:=i (.dK []) [("table",V.ref ta),("house_keys",V.ref c),("least_age",V.int 0),("doors",V.ref dd),("buttons",V.ref bd)] a1 m4 t4 h4 r4 J
  have X:dd≠bd:=λz=>by rw[<- z,d]at J;cases J
  have d:=g5 _ _ (zu F) d;have S:(MO (MO G4 bd (.dK [])) p (.ins C dx [("table",V.ref ta),("house_keys",V.ref c),("least_age",V.int 0),("doors",V.ref dd),("buttons",V.ref bd)])) p=↑(.ins C dx [("table",V.ref ta),("house_keys",V.ref c),("least_age",V.int 0),("doors",V.ref dd),("buttons",V.ref bd)]):=qa
  generalize MO (MO G4 bd (.dK [])) p (.ins C dx [("table",V.ref ta),("house_keys",V.ref c),("least_age",V.int 0),("doors",V.ref dd),("buttons",V.ref bd)])=G5 at g5 m5 t5 h5 r5 g S d⊢
  refine#[HR,λl x=>#[_,Z,p,_,Z,ZW [("table",V.ref ta),("house_keys",V.ref c),("least_age",V.int 0),("doors",V.ref dd),("buttons",V.ref bd),("kept",V.ref l)] U.cl (MM.upd x _ _ S) U.n_kept 5,?_]]
  obtain⟨b5,c6,c4,g6,m6,t6,h6,r6,v⟩:=i (.lst []) [("table",V.ref ta),("house_keys",V.ref c),("least_age",V.int 0),("doors",V.ref dd),("buttons",V.ref bd),("kept",V.ref l)] S m5 t5 h5 r5 x
  have R:dd≠l:=λz=>by rw[<- z,d]at x;cases x
  have a4:bd≠l:=λz=>by rw[<- z,g]at x;cases x
  have d:=g6 _ _ (zu F) d;have g:=g6 _ _ (zu a2) g;have b1:(MO (MO G5 l (.lst [])) p (.ins C dx [("table",V.ref ta),("house_keys",V.ref c),("least_age",V.int 0),("doors",V.ref dd),("buttons",V.ref bd),("kept",V.ref l)])) p=↑(.ins C dx [("table",V.ref ta),("house_keys",V.ref c),("least_age",V.int 0),("doors",V.ref dd),("buttons",V.ref bd),("kept",V.ref l)]):=qa
  generalize MO (MO G5 l (.lst [])) p (.ins C dx [("table",V.ref ta),("house_keys",V.ref c),("least_age",V.int 0),("doors",V.ref dd),("buttons",V.ref bd),("kept",V.ref l)])=G6 at g6 m6 t6 h6 r6 v b1 d g⊢
  refineλod j=>#[_,Z,p,_,Z,ZW [("table",V.ref ta),("house_keys",V.ref c),("least_age",V.int 0),("doors",V.ref dd),("buttons",V.ref bd),("kept",V.ref l),("opened",V.ref od)] U.cl (MM.upd j _ _ b1) U.n_opened 6,?_]
  obtain⟨d1,d2,d0,g7,m7,t7,h7,r7,c0⟩:=i (.dK []) [("table",V.ref ta),("house_keys",V.ref c),("least_age",V.int 0),("doors",V.ref dd),("buttons",V.ref bd),("kept",V.ref l),("opened",V.ref od)] b1 m6 t6 h6 r6 j
  have a3:dd≠od:=λz=>by rw[<- z,d]at j;cases j
  have b0:bd≠od:=λz=>by rw[<- z,g]at j;cases j
  have a0:l≠od:=λz=>by rw[<- z,v]at j;cases j
  have d:=g7 _ _ (zu F) d;have g:=g7 _ _ (zu a2) g;have v:=g7 _ _ (zu b5) v;have a5:(MO (MO G6 od (.dK [])) p (.ins C dx [("table",V.ref ta),("house_keys",V.ref c),("least_age",V.int 0),("doors",V.ref dd),("buttons",V.ref bd),("kept",V.ref l),("opened",V.ref od)])) p=↑(.ins C dx [("table",V.ref ta),("house_keys",V.ref c),("least_age",V.int 0),("doors",V.ref dd),("buttons",V.ref bd),("kept",V.ref l),("opened",V.ref od)]):=qa
  generalize MO (MO G6 od (.dK [])) p (.ins C dx [("table",V.ref ta),("house_keys",V.ref c),("least_age",V.int 0),("doors",V.ref dd),("buttons",V.ref bd),("kept",V.ref l),("opened",V.ref od)])=G7 at g7 m7 t7 h7 r7 c0 a5 d g v⊢
  refine q #[p,ta,c,dd,bd,od,l,[],[]] G7 Z m7 (λz M=>?_) (MP.new (kt:=kt) #[dx,a5] t7 h7 r7 d g v c0 #[_,a5,trivial] ?_)
  ·rcases Nb.mp M with(z|z|z|z|z|z)|⟨y,hy,_⟩|⟨y,hy,_⟩
   ·exact .inl z
   ·exact .inr (by rw[z];exact f1)
   ·exact .inr (by rw[z];exact d3)
   ·exact .inr (by rw[z];exact c3)
   ·exact .inr (by rw[z];exact d0)
   ·exact .inr (by rw[z];exact c4)
   ·cases hy
   ·cases hy
  ·simp only[J4,Ji,Jr,Js,not_or,LU,and_true]
   exact#[#[B.symm,F.symm,a2.symm,b5.symm,d1.symm],#[d4.symm,c5.symm,c6.symm,d2.symm],#[X,R,a3],#[a4,b0],a0,trivial,Ld]
end
end Lw
namespace L3
open PySem PySem.Spec PyProof.Rows L2
theorem aj{a b:Str}{i:Decidable (V.str a=V.str b)}(h:@decide _ i=true):a=b:=by injection Jz h
def GN(q:Δ):Hd->Β
 | .addD nm near far most=>[.str nm,.int near,.int far,.int most]
 | .addB nm step=>[.str nm,.int step]
 | .teach d b=>[.str d,.str b]
 | .press b deed ds=>[.str b,.int deed,.ref q]
 | .play k d=>[.int k,.str d]
 | .lose b=>[.str b]
 | .tear b=>[.str b]
 | .turnH ks=>[.ref q]
 | .turnB b=>[.str b]
 | .close age=>[.int age]
 | .forget d b=>[.str d,.str b]
def HI(Z:Η)(H:Hp)(q:Δ):Hd->Prop
 | .press b deed ds=>Sq [] H q (ds.map V.str)/\q∉Z
 | .turnH ks=>H q=↑(.tup (ks.map V.int))
 |_=>True
theorem OQ.cells{Z:Η}{H:Hp}{l:Δ}{d:Hd}(h:OQ Z H l d):∃q,H l=↑(.tup (.str (zc d)::GN q d))/\HI Z H q d:=by
 cases d with
 |press b deed ds=>obtain⟨p,h1,a⟩:=h;exact#[p,h1,a]
 |turnH ks=>obtain⟨p,h1,a⟩:=h;exact#[p,h1,a]
 |_=>exact#[0,h,trivial]
end L3
namespace Lw
open PySem L2 L3
section
variable{P:Ξ}{w:Ω}{K:ι}{mg:MK}{base:Ψ}{tk:Nat->Tok}{C CB CD fI:Δ}{x:Xa}
theorem jD(a:Nz K C "hear_at" "House.hear_at" ay ["self","door","number"])(T:Na K mg tk)(U:OB K C)(UD:NW K CD)(xO:Mf P w K mg base CD "hear" V1 6 (mK K CD)):Mf P w K mg base C "hear_at" Y1 7 (bV K CB CD ↑C):=by
 refine a.mq NZ λf _ A _ s H vs Q E J h=>?_
 ·obtain⟨o,S,n,nm,k,i,y,c,rfl,j,ok,n9,hi,m,M,q⟩:=h
  refine#[_,(qg (qE (i:=3) NZ.nd Z (Or.inl Z) (zh xO UD.cl J.mo (qH J (qz (qv 0)) (qv 1)) (qc (qD qO (qz (qv 0)) (qv 2)) qb)))
   (qg (qA (qy qR (qD qQ (qv 3) qi) qj (qw _)) (qh (zb (QU JX Ia Ib Qi (qH J (qz (qv 0)) (qv 1)) (qc (qv 2) qb)))) qq)
   (qh (qm (qv 3))))),?_]
  rcases j.at_.gdd nm with⟨e,g⟩|⟨i',z,y',e,l,v,_,ey,g⟩
  ·rw[hi]at e;cases e
  rw[hi]at e;cases e
  rw[m]at v;cases v
  have dl:=(j.at_.de i z y l m).1;obtain⟨I,ek,lk,rk⟩:=id j.at_.kl;have hk:k<I.length:=by rw[lk];exact(Jt.mp M).1
  have Y:=Jk hk;have pa:=rk k _ c Y M;have O:=ok.dr y (Jp m);have ll:=O.ll;refine#[_,Z,o.ma,_,Z,j.h_doors U,_,Z,o.dd,_,Z,g,z.a.p,Z,dl.dr.no,_,Z,o.ma,_,Z,j.h_kept U,_,Z,o.kl,_,_,.ref I[k],Z,Z,MV.of ek,zV (by rw[Jm,Y];rfl),z.a,y.D,y.L,.ref I[k],↑c,Z,dl,by lia,O.ok,#[_,Z,pa,ok.kp c (Jp M)],(λh=>nomatch h),λP' eP pr R H1 _ F _ d X=>?_]
  cases eP;obtain⟨G,N⟩:=j.heard (k:=k) l m F X
  obtain⟨x,r,ew⟩:=kS y.D c;have t:=d;rw[ew]at t;have eo:im (qX y.D c).1=decide (x="open"):=by rw[ew];rfl
  refine#[_,Z,R,_,_,.str x,Z,Z,MW.of t,(show Q2 (V.str x::r) ((0:Nat):Int)=↑(.str x)from zV Z),Z,_,Z,?_]
  by_cases B:x="open"
  ·have h1:=j.door l m (fO F) X
   rcases h1.at_.god nm with⟨e,_⟩|⟨i',z',y',e,u,_,_,_,W⟩
   ·rw[show(S.setD i {y with D:={y.D with kn:=(qX y.D c).2},L:=y.L++[.hear c (qX y.D c).1]}).dn=S.dn from Qg m Z,hi]at e;cases e
   rw[show(S.setD i {y with D:={y.D with kn:=(qX y.D c).2},L:=y.L++[.hear c (qX y.D c).1]}).dn=S.dn from Qg m Z,hi]at e;cases e
   rw[l]at u;cases u
   obtain⟨p,h2⟩:=N (by rw[eo,Jf B]) (by rw[ey];exact W)
   refine Ql (Jf (by rw[B])) ?_
   have p:H1 z.ol=↑(.lst (y.op.map λn:Nat=>V.int (n:Int))):=p
   have lo:=O.lo;refine#[_,Z,o.ma,_,Z,h1.h_opened U,_,Z,o.od,_,Z,W,.inl #[Z,_,MV.of p],_,Z,z.ol,_,_,Z,Z,p,by rw[Jb,Jn];lia,?_]
   rw[show(y.op.map (λn:Nat=>V.int (n:Int))++[V.int (k:Int)])=(y.op++[k]).map λn:Nat=>V.int (n:Int) by rw[JF];rfl]
   refine#[_,Z,q R _ ((iF l (fO F)).trans (pj (lf l) Mv.upd1)) h2 ?_]
   rw[qk (λz=>by rw[z,p]at d;cases d)];exact d
  ·refine Qd (Jq (by intro z;injection z with z;exact B z)) ?_
   exact#[_,Z,q R _ (iF l (fO F)) (G (by rw[eo,Jq B])) d]
theorem fT(a:Nz K C "play_kept" "House.play_kept" ZG ["self","number","door"])(T:Na K mg tk)(U:OB K C)(R:OE K mg x fI)(L:Xi P w K mg base x.b "BadPress" (.ref x.e::Qj) Qj "ValueError.__new__" V7 2 (eN x.b "place"))(O:My P w K mg base C "door_named" X1 1 (c8 K CB CD C x))(J:Mf P w K mg base C "hear_at" Y1 7 (bV K CB CD ↑C)):My P w K mg base C "play_kept" ["self","number","door"] 8 (uF K CB CD C x):=by
 refine a.my gG λf _ A _ s H vs Q E p h=>?_
 ·obtain⟨g,S,n,k,dn,rfl,j,ok,X,k0,k1,o,dq⟩:=h
  refine#[_,(qg (zb (zv O zm U.cl p.mo (qv 0) (qc (qv 2) qb)))
   (qg (qA (zW (jE bR jU qi (qv 1) (qp qS T.b_len JK (qc (qz (qv 0)) qb)))) (qh (nA Qn Z Z Ii Z L p.mo (qc (qv 1) qb) Z)) qq)
   (qh (qm (zh J U.cl p.mo (qv 0) (qc (qv 2) (qc (qv 1) qb))))))),?_]
  refine#[_,Z,g.ma,Z,j.no,_,Z,g,S,dn,Z,j,λe=>o .unknown (jX e),λi z hi I=>?_]
  obtain⟨Y,y,m,v,_,_⟩:=j.at_.dix hi;rw[I]at m;cases m
  rw[sN hi v]at o dq;obtain⟨as,M,G,W⟩:=id j.at_.kl;have l:¬(0<=k/\k<S.kp.length)->N4 E H x.b "place" k:=λq=>o (.badp k) (sC q)
  refine#[_,Z,_,_,Z,Z,_,Z,qK (λc=>?_) (λc=>?_)]
  case refine_2=>
   have c:¬(0<=k):=λq=>c (Jf q)
   refine#[_,Z,zR ?_]
   exact#[_,Z,HS,λe t=>#[e,k,Z,by lia,qa,λd u=>#[Z,↑d,qa,N4.mk (l λq=>c q.1) (MM.refl _) t u]]]
  have c:0<=k:=Jz c
  refine#[_,Z,g.ma,_,Z,j.h_kept U,g.kl,_,Z,.inl (MV.of M),_,_,Z,Z,_,Z,?_]
  rw[Jb,G]
  by_cases r:k<(S.kp.length:Int)
  case neg=>
   refine Ql (by rw[Jq r];rfl) ?_
   exact#[_,Z,HS,λe t=>#[e,k,Z,by lia,qa,λd u=>#[Z,↑d,qa,N4.mk (l λq=>r q.2) (MM.refl _) t u]]]
  refine Qd (by rw[Jf r];rfl) ?_
  have B:=Jk (show k.toNat<S.kp.length by lia)
  refine#[_,Z,g.ma,Z,j.no,_,Z,_,Z,g,S,n,dn,k.toNat,i,y,_,(by rw[Int.toNat_of_nonneg c];rfl),j,ok,by lia,hi,v,B,λD H1 N h1 F=>?_]
  exact dq _ _ (p8 c B) (.ref D) g H1 N Om.refl Z h1 #[D,Z,F]
theorem fS(a:Nz K C "lose_cell" "House.lose_cell" ZC ["self","button"])(T:Na K mg tk)(U:OB K C)(z:OE K mg x fI)(r:Of K CB)(t:My P w K mg base C "button_named" X1 1 (dw K CB CD C x))(v:Mf P w K mg base CB "cell_out" y8 1 (jR K CB)):My P w K mg base C "lose_cell" W3 2 (tU K CB CD C x):=by
 refine a.my gJ λf _ A _ s H D Q E o h=>?_
 ·obtain⟨l,S,n,bn,rfl,d,ok,G,q,dq⟩:=h
  refine#[_,(qh (zb (qM v r.cl o.mo (zv t zm U.cl o.mo (qv 0) (qc (qv 1) qb))))),?_]
  refine#[_,Z,l.ma,Z,d.no,_,Z,l,S,bn,Z,d,λe=>q .unknown (bh e),λj u m i=>?_]
  obtain⟨F,B,c,g,_,_⟩:=d.at_.bix m;rw[i]at c;cases c
  obtain⟨ta,ka,b⟩:=d.at_.be j u B i g
  exact#[u.p,Z,b.no,u.p,ta,ka,u.ce,B,Z,b,(ok.bt B (Jp g)).ok,λH1 p y=>dq _ _ (cw m g) .non l H1 (kG i p) Om.refl Z (d.btn i g p #[ta,ka,y] Z) Z]
theorem fW(a:Nz K C "tear_cell" "House.tear_cell" ZA ["self","button"])(T:Na K mg tk)(U:OB K C)(z:OE K mg x fI)(t:Of K CB)(v:My P w K mg base C "button_named" X1 1 (dw K CB CD C x))(r:Mf P w K mg base CB "cell_torn" y8 3 (mB K CB)):My P w K mg base C "tear_cell" W3 4 (tI K CB CD C x):=by
 refine a.my gu λf _ A _ s H D Q E o h=>?_
 ·obtain⟨l,S,n,bn,rfl,d,ok,G,q,dq⟩:=h
  refine#[_,(qh (zb (qM r t.cl o.mo (zv v zm U.cl o.mo (qv 0) (qc (qv 1) qb))))),?_]
  refine#[_,Z,l.ma,Z,d.no,_,Z,l,S,bn,Z,d,λe=>q .unknown (bh e),λj u m i=>?_]
  obtain⟨F,B,c,g,_,_⟩:=d.at_.bix m;rw[i]at c;cases c
  obtain⟨ta,ka,b⟩:=d.at_.be j u B i g
  exact#[u.p,Z,b.no,u.p,ta,ka,u.ce,B,Z,b,(ok.bt B (Jp g)).ok,λH1 p y=>dq _ _ (cw m g) .non l H1 (kG i p) Om.refl Z (d.btn i g p #[ta,ka,y] (oZ B)) Z]
theorem cN(a:Nz K C "press_button" "House.press_button" QQ ["self","button","deed","doors"])(T:Na K mg tk)(U:OB K C)(XC:OE K mg x fI)(dG:My P w K mg base C "door_named" X1 1 (c8 K CB CD C x))(dC:My P w K mg base C "button_named" X1 1 (dw K CB CD C x))(dM:My P w K mg base C "keep_press" V8 5 (mz K CB CD C x))(xB:Mf P w K mg base C "hear_at" Y1 7 (bV K CB CD ↑C)):My P w K mg base C "press_button" Y7 8 (pH K CB CD C x):=by
 refine a.my Nh λf _ A _ s H vs Q E hr h=>?_
 ·obtain⟨c,S,n,bn,deed,p,ds,rfl,F,ok,n9,sq,np,a1,d5,M,dq⟩:=h
  refine#[_,(qg (Qo sV Z (dc (qv 3)) (qB (i:=4) Nh.nd Z (Or.inl Z))
   (qh (zb (zv dG zm U.cl hr.mo (qv 0) (qc (qv 4) qb)))))
   (qg (qE (i:=5) Nh.nd Z (Or.inr Z) (zv dM zm U.cl hr.mo (qv 0) (qc (zv dC zm U.cl hr.mo (qv 0) (qc (qv 1) qb)) (qc (qv 2) qb))))
   (qh (qm (qG (qc (qv 5) (qc (qI qZ T.b_tuple JD (qc (Qy (own:=["name"]) (fr:=["self","number"]) (js:=[0,5]) Z (dc (qv 3)) Z (uY Z Z) Z (vt Z nofun nofun nofun Z Z Z Z Z Z) (λ_ _ _ _=>qB (i:=0) (show List.Nodup (["name","self","number"]:Α)from by decide +kernel) Z (Or.inl Z) (.inr Z)) (λ_ _ _ _=>(zh xB U.cl hr.mo (qv 1) (qc (qv 0) (qc (qv 2) qb))))) qb)) qb))))))),?_]
  refine iJ (λR H'=>H'=H/\(∀nm∈ds,qP S.dn nm≠none)/\∃o,R=[↑(.ref c.ma),↑(.str bn),↑(.int deed),↑(.ref p),o,none]) (λD' b7 b3=>?_) ?_
  ·refine#[_,Z,?_]
   refine Ek (K:=K) sq (λi σ Hx=>Hx=H/\(∀nm∈ds.take i,qP S.dn nm≠none)/\∃o,σ=[↑(.ref c.ma),↑(.str bn),↑(.int deed),↑(.ref p),o,none]) #[Z,(λnm h=>by simp at h),_,Z] (λi σ H' h=>h.1▸Py.refl) ?_ ?_ Z
   ·rintro i v σ Hx W ⟨rfl,d,o,rfl⟩
    rw[Jm]at W;obtain⟨nm,g,rfl⟩:=JV.mp W;refine#[_,Z,c.ma,Z,F.no,_,Z,c,S,nm,Z,F,λe=>M .unknown ?_,λj z hj hz=>#[Z,λm J=>?_,_,Z]]
    ·show(match Qq S.dn ds with
      |none=>Nr.ref .unknown
      |some is=>_)=_
     rw[jB (Jp g) e]
    ·rw[Ig,g]at J
     rcases Jv.mp J with J|J
     ·exact d m J
     ·rw[Jg.mp J,hj];intro z;cases z
   ·rintro σ Hx ⟨rfl,d,o,rfl⟩
    rw[Jb,II]at d;exact b3 _ _ #[Z,d,o,Z]
  rintro R Hx ⟨rfl,d,o,rfl⟩
  obtain⟨is,I⟩:=ij d;have D:=bv I;refine#[_,Z,c.ma,Z,F.no,_,Z,c.ma,Z,F.no,_,Z,c,S,bn,Z,F,λe=>M .unknown (jV e),λj u hj hu=>?_]
  obtain⟨u',B,a2,hB,_,_⟩:=F.at_.bix hj;rw[hu]at a2;cases a2
  rw[mV hj hB]at M dq;unfold ai at M dq;rw[I]at M dq;refine#[_,Z,c,S,n,j,u,B,deed,Z,F,ok,by lia,hu,hB,a1,λq=>M .worn (Jd q),λH1 hc m1 h1=>?_]
  have dq:=dq _ _ (Jc (by lia))
  have a4:=ok.keep hB hc a1;have b5:Sq [] H1 p (ds.map V.str):=eG sq m1 F.at_.nt np
  have hk:(qY S j B deed).kp[S.kp.length]? =↑(qV B deed):=by show(S.kp++[_])[S.kp.length]? =_;simp
  refine#[_,Z,_,Z,p,Z,?_]
  refine jj (K:=K) b5 (by rw[Jb,Jn];lia) (λi ys Hx=>Mv (hF c) H1 Hx/\MP K CB CD ↑C Hx c (MZ (qY S j B deed) S.kp.length is i).1/\∃xs:Η,ys=xs.map V.ref/\xs.length=i/\(MZ (qY S j B deed) S.kp.length is i).2.length=i/\∀(k:Nat) (x:Δ) (l:Β),xs[k]? =↑x->(MZ (qY S j B deed) S.kp.length is i).2[k]? =↑l->Hx x=↑(.tup l)) #[λ_ _ _ e=>e,h1,[],Z,Z,Z,λk x l h=>by cases h] (λi ys H' h=>#[hF c,h.1,h1.at_.nt,np]) ?_ ?_
  ·rintro i ys Hx v W a3 ⟨mx,G,xs,rfl,N,L,r⟩
   rw[Jm]at W;obtain⟨nm,g,rfl⟩:=JV.mp W;obtain⟨i',b2,a5⟩:=jA I g;have c0:i<ds.length:=(Jt.mp g).1
   obtain⟨kd,kb,kp,kn⟩:=a8 (qY S j B deed) S.kp.length is i
   have b0:(qY S j B deed).dn=S.dn:=Z
   have X:qP (MZ (qY S j B deed) S.kp.length is i).1.dn nm=↑i':=by rw[kn,b0];exact a5
   obtain⟨z,y,hz,hy,_,_⟩:=G.at_.dix X;have a0:(MZ (qY S j B deed) S.kp.length is i).1.kp[S.kp.length]? =↑(qV B deed):=by rw[kp];exact hk
   have b6:=a4.hearN S.kp.length is i;have st:=kB b2 hy a0;refine#[_,Z,c.ma,Z,G.no,_,Z,_,Z,c,_,_,nm,S.kp.length,i',y,_,Z,G,b6,by lia,X,hy,a0,λq1 H2 m2 h2 e2=>?_]
   rw[st];refine#[mx.trans m2,h2,xs++[q1],by simp,by simp [N],by rw[Jo,L];rfl,λk x l O Y=>?_]
   rcases aU (N.trans L.symm) O Y with⟨O,Y⟩|⟨rfl,rfl⟩
   ·exact m2.tup G.at_.nt (r k x l O Y)
   ·exact e2
  ·rintro ys Hx a3 ⟨mx,G,xs,rfl,N,L,r⟩ lp b4
   rw[Jb]at N L G r;have u1:=MM.upd (o:= .lst (xs.map V.ref)) b4
   refine#[lp,_,Z,.inl #[MV.of qa,λt ht=>#[HU,λqt b1=>?_]]]
   have u2:=MM.upd (o:= .tup (xs.map V.ref)) ht
   have u3:=MM.upd (o:= .tup [.int (S.kp.length:Int),.ref t]) b1
   have U3:=(u1.trans u2).trans u3;rw[<- D]at G L r;refine dq (.ref qt) c _ ((m1.trans mx).trans U3.mv) Om.refl Z (G.same U3) #[qt,t,xs,Z,qa,u3 _ _ qa,by rw[N,L,D],λk x l O Y=>U3 _ _ (r k x l O Y)]
end
section
variable{P:Ξ}{w:Ω}{K:ι}{mg:MK}{base:Ψ}{tk:Nat->Tok}{CB CD:Δ}
theorem mQ(a:At K mg "_law_refused" bC ["_law_word","_law_place"])(T:Na K mg tk):Df P w K mg base "_law_refused" X6 1 ZJ:=by
 refine a.dq mR λf _ A _ s H e Q E g h=>?_
 ·obtain⟨d,v,rfl,q⟩:=h
  refine#[_,(qh (qm (qG (qc qj (qc (qv 0) (qc (qv 1) qb)))))),?_]
  exact#[_,Z,_,Z,HV,λt c=>q t c]
theorem vi(a:At K mg "_law_own" gW ["_law_table_here","_law_key_here"])(T:Na K mg tk):Df P w K mg base "_law_own" Y2 1 (tW K CB CD):=by
 refine a.dq vo λf _ A _ s H vs Q E hr h=>?_
 ·obtain⟨t,k,tt,ks,rfl,Y,hk,q⟩:=h
  refine#[_,(qh (qm (DZ (Z2 qj (qv 0) (Z2 qj (zd (qc (qv 1) qb)) (Z2 qj qi (Z2 qj ZQ (Z2 qj ZQ (Z2 qj (zd qb) (Z2 qj ZQ Ed)))))))))),?_]
  refineλp F=>?_
  have u1:=MM.upd (o:= .dK []) F
  refine#[_,Z,_,Z,HS,λd l=>?_]
  have O:=MM.upd (o:= .lst [.ref k]) l
  refineλdd n=>?_
  have B:=MM.upd (o:= .dK []) n
  refineλbd m=>?_
  have x:=MM.upd (o:= .dK []) m
  refine#[HR,λi u=>?_]
  have v:=MM.upd (o:= .lst []) u
  refineλod r=>?_
  have j:=MM.upd (o:= .dK []) r
  obtain⟨fh,n1⟩:=un l;obtain⟨g,n2⟩:=un n;obtain⟨fd,S⟩:=un g;obtain⟨g,n4⟩:=un m;obtain⟨g,n5⟩:=un g;obtain⟨fb,N⟩:=un g;obtain⟨g,n7⟩:=un u;obtain⟨g,n8⟩:=un g;obtain⟨g,n9⟩:=un g;obtain⟨fk,G⟩:=un g;obtain⟨g,nb⟩:=un r;obtain⟨g,nc⟩:=un g;obtain⟨g,nd⟩:=un g;obtain⟨g,ne⟩:=un g;obtain⟨fo,W⟩:=un g;have I:=u1.trans (O.trans (B.trans (x.trans (v.trans j))));have L:=(O.trans (B.trans (x.trans (v.trans j)))) p _ qa;have U:=(B.trans (x.trans (v.trans j))) d _ qa;have X:=(x.trans (v.trans j)) dd _ qa;have J:=(v.trans j) bd _ qa;have R:=j i _ qa;have M:(MO (MO (MO (MO (MO (MO H p (.dK [])) d (.lst [.ref k])) dd (.dK [])) bd (.dK [])) i (.lst [])) od (.dK [])) od=↑(.dK []):=qa
  generalize MO (MO (MO (MO (MO (MO H p (.dK [])) d (.lst [.ref k])) dd (.dK [])) bd (.dK [])) i (.lst [])) od (.dK [])=H7 at I L U X J R M⊢
  refine#[L,bB #[p,t,d,dd,bd,od,i,[],[]] 0,Z,by show 7<=15;decide,?_]
  rw[show av [] (bB #[p,t,d,dd,bd,od,i,[],[]] 0)=bB #[p,t,d,dd,bd,od,i,[],[]] 0 from(rp (bB #[p,t,d,dd,bd,od,i,[],[]] 0) [] (by rw[Mg];exact rX)).trans (Mg _)]
  have D:MM H (MO H7 p (.dK (bB #[p,t,d,dd,bd,od,i,[],[]] 0))):=λc o e=>by rw[qk (qr e F)];exact I _ _ e
  refine q #[p,t,d,dd,bd,od,i,[],[]] _ D (λz hz=>?_) (MP.new (kt:=k) qa (MM.sqt D Y) (by rw[qk n1];exact U) (Rd.same D hk) (by rw[qk S];exact X) (by rw[qk N];exact J) (by rw[qk G];exact R) (by rw[qk W];exact M) #[_,qa,trivial] ?_)
  ·rcases Nb.mp hz with(z|z|z|z|z|z)|⟨y,C,_⟩|⟨y,C,_⟩
   ·rw[z];exact F
   ·rw[z];exact fh
   ·rw[z];exact fd
   ·rw[z];exact fb
   ·rw[z];exact fo
   ·rw[z];exact fk
   ·cases C
   ·cases C
  ·simp only[J4,Ji,Jr,Js,not_or,LU,and_true]
   exact#[#[n1.symm,S.symm,N.symm,G.symm,W.symm],#[n2.symm,n5.symm,n9.symm,ne.symm],#[n4.symm,n8.symm,nd.symm],#[n7.symm,nc.symm],nb.symm,trivial,Ld]
theorem sH(a:At K mg "_law_added" cJ ["_law_own_here","_law_word","_law_name","_law_parts"])(T:Na K mg tk)(UD:NW K CD)(yP:Mi P w K mg base CB "Button" X5 1 (mt K CB))(yE:Mi P w K mg base CD "Door" y9 1 (rE K CD))(dX:Mf P w K mg base CD "close_below" W6 1 (jx K CD))(dD:Df P w K mg base "_law_refused" X6 1 ZJ):Df P w K mg base "_law_added" W0 3 (ng K CB CD):=by
 refine a.dq Ox λf _ A _ s H vs Q E v h=>?_
 ·obtain⟨j,S,n,b5,nm,pp,d,rfl,G,ok,n9,hd,dq⟩:=h
  refine#[_,(qg (qE (i:=4) Ox.nd Z (Or.inl Z) (qH v (qv 0) (qD qO (zd (qc qj (qc qj qb))) (qI gD T.b_int Le (qc (zz qR (qv 1) qj (qw _)) qb)))))
   (qg (qA (kF v (qv 2) (qv 4)) (qh (qm (qu dD v.mo (qc qj (qc zk qb))))) qq)
   (qg (qA (qy qR (qv 1) qj (qw _)) (qh (Zj v (qv 4) (qv 2) (aQ yP v.mo (qc (qv 2) (qc (qH v (qv 0) qj) (qc (qD qO (qH v (qv 0) qj) (kf gS qi)) (qc (qC QM (qp qS T.b_len JK (qc (qH v (qv 0) qj) qb)) qi) (qc (qD qQ (qv 3) qi) qb)))))))) (qg (Zj v (qv 4) (qv 2) (aQ yE v.mo (qc (qH v (qv 0) qj) (qc (qI qZ T.b_tuple JD (qc (qH v (qv 0) qj) qb)) (qc (qD qQ (qv 3) qi) (qc (qD qQ (qv 3) qi) (qc (qD qQ (qv 3) qi) qb)))))))
   (qg (Zj v (qH v (qv 0) qj) (qv 2) (zd qb))
   (qh (qA (qy lu (qH v (qv 0) qj) qi (qw _)) (qh (zb (zh dX UD.cl v.mo (qH v (qv 4) (qv 2)) (qc (qH v (qv 0) qj) qb)))) qq)))))
   (qh (qm (qG (qc qj (qc zk qb)))))))),?_]
  rcases hd with⟨rfl,l,t,m,rfl,W⟩|⟨rfl,step,rfl,W⟩
  ·refine#[_,Z,HU,λl1 R=>?_]
   have C:=MM.upd (o:= .lst [.str "buttons",.str "doors"]) R
   have u:=G.same C;refine#[_,Z,Z,.inr #[_,Z,l1,_,_,.str "doors",Z,Z,MV.of qa,by rw[Jf Z];rfl,j.ma,_,Z,u.g_doors,?_]]
   have D:=C _ _ W;generalize MO H l1 (.lst [.str "buttons",.str "doors"])=H1 at C u D⊢
   rcases u.at_.gdd nm with⟨e,g⟩|⟨i,y,z,e,hy,_,_,_,g⟩
   case inr=>
    have U:Qa S (.addD nm l t m)= .ref .known:=Jd (by rw[e];rfl)
    rw[U]at dq;refine#[_,Z,_,Z,j.dd,_,Z,g,_,Z,zR #[_,_,Z,λq x=>?_]]
    exact dq q j _ (C.trans (MM.upd x)).mv Om.refl Z (u.same (MM.upd x)) qa
   have U:Qa S (.addD nm l t m)= .ok {S with ds:=S.ds++[Zz S nm l t m]} .non:=Jc (by rw[e];intro z;cases z)
   rw[U]at dq;refine#[_,Z,_,Z,j.dd,_,Z,g,_,Z,zt ?_]
   refine#[_,Z,Z,_,Z,Qd (Jq (by intro z;injection z with z;revert z;decide +kernel)) ?_]
   obtain⟨F,eh,la,X⟩:=id u.at_.ks;refine#[_,Z,j.ma,_,Z,u.g_table,_,Z,j.ma,_,Z,u.g_keys,j.hk,_,Z,.inl #[MV.of eh,λkt b0=>?_]]
   have u2:=MM.upd (o:= .tup (F.map V.ref)) b0
   have J:=u2 _ _ D;have o2:=u.same u2;refine#[_,Z,pp,_,_,_,Z,Z,MW.of J,Z,_,Z,pp,_,_,_,Z,Z,MW.of J,Z,_,Z,pp,_,_,_,Z,Z,MW.of J,Z,λp dx hp O N=>?_]
   have a4:p≠dx:=N.symm
   have I:MM _ (MO (MO (MO H1 kt (.tup (F.map V.ref))) dx (.own p)) p (.ins CD dx [])):=(MM.upd O).trans (MM.upd (by rw[qk a4];exact hp))
   have o3:=o2.same I;have L:=C.trans (u2.trans I);have fp:H p=none:=QK hp (C.trans u2)
   refine#[p,j.ta,kt,dx,l,t,m,S.t,S.kss,Z,qa,.inr o3.at_.tb,#[F,MW.of (I _ _ qa),la,λi a ks h1 h2=>MM.sqt (u2.trans I) (X i a ks h1 h2)],ok.k8,λta hk bd lg H4 fh fb fl m4 d4 k4=>#[Z,?_]]
   have b1:=MR.dl d4 k4;have s4:MM H H4:=MM.mv_of L m4 (λc hc=>by rw[Jg.mp hc];exact fp)
   have fd:∀z∈dS #[p,ta,hk,bd,lg],H z=none:=uf fp (QK fh L) (QK fb L) (QK fl L)
   have nd:=ok.nd;have l0:=ok.l0;obtain⟨kvs,p1,r1⟩:=G.putD (y:=#[nm,#[S.t,S.kss,l,t,m,0,[]],[],[]]) s4 b1 fd e Z (by lia)
   refine#[_,Z,_,Z,j.dd,_,Z,p1,?_]
   refine#[HR,λol a1=>?_]
   obtain⟨a0,p2,m6,gr,Y⟩:=r1 ol a1;have q4:H4 j.ma=↑(.dK (bB j S.least)):=s4 _ _ G.mn
   have q5:(MO (MO H4 j.dd (.dK kvs)) ol (.lst [])) j.ma=↑(.dK (bB j S.least)):=by
    have q:(MO H4 j.dd (.dK kvs)) j.ma=↑(.dK (bB j S.least)):=by rw[qk G.mne];exact q4
    rw[qk (qr q a1)];exact q
   refine#[_,Z,j.ma,_,Z,vP (q:= .inr "opened") q5 6 Z,_,Z,j.od,_,Z,p2,?_]
   generalize MO (MO (MO H4 j.dd (.dK kvs)) ol (.lst [])) j.od (.dK a0)=H6 at m6 Y⊢
   have a3:∀M:Hp,Mv (hF j) H M->MP K CB CD none M {j with ds:=j.ds++[#[nm,#[p,ta,hk,bd,lg],ol]]} {S with ds:=S.ds++[Zz S nm l t m]}->∀q,M q=none->Q (.ref q) (MO M q (.tup [.str "told",.non])):=λM m7 h7 q x=>dq q _ _ (m7.trans (MM.upd x).mv) gr Z (h7.same (MM.upd x)) #[.non,qa,Z]
   obtain⟨gd,gx,gy⟩:=Y.lastD e G.dlen G.at_.dn;have q6:H6 j.ma=↑(.dK (bB j S.least)):=Y.mn
   refine#[_,Z,j.ma,_,Z,vP (q:= .inr "shut") q6 2 Z,_,_,Z,Z,_,Z,qK (λz=>?_) (λz=>?_)]
   ·have z:0<S.least:=Jz z
    have a2:=(Y.at_.de _ _ _ gx gy).1;refine#[_,Z,_,Z,j.dd,_,Z,gd,p,Z,a2.dr.no,_,Z,j.ma,_,Z,vP (q:= .inr "shut") q6 2 Z,#[p,ta,hk,bd,lg],_,[],S.least,Z,a2,JM _,λD2 r h2 M m7 d7=>?_]
    have h7:=Y.door gx gy (HE m7) d7;refine#[HU,λq x=>a3 M (λc o hc ec=>m7 c o (λq=>?_) (m6 c o hc ec)) ?_ q x]
    ·simp only[Ji,Jr,Js]at q
     rcases q with rfl|rfl
     ·have:=fd _ (jm _);rw[ec]at this;cases this
     ·have:=fd _ (ft _);rw[ec]at this;cases this
    ·cases h2
     have e2:({S with ds:=S.ds++[Zz S nm l t m]}:Hs)=({S with ds:=S.ds++[#[nm,#[S.t,S.kss,l,t,m,0,[]],[],[]]]}:Hs).setD S.ds.length #[nm,#[S.t,S.kss,l,t,m,if S.least>0 then S.least else 0,[]],[]++[.close S.least],[]]:=by
      show _=({S with ds:=(S.ds++[_]).set S.ds.length _}:Hs)
      rw[DE,Jd z];unfold Zz;rw[Jd z];rfl
     rw[e2];exact h7
   ·have z:¬0<S.least:=λy=>z (Jf y)
    refine#[HU,λq x=>a3 H6 m6 ?_ q x]
    have e2:Zz S nm l t m=#[nm,#[S.t,S.kss,l,t,m,0,[]],[],[]]:=by unfold Zz;rw[Jc z,show S.least=0 by lia]
    rw[e2];exact Y
  ·refine#[_,Z,HU,λl1 R=>?_]
   have C:=MM.upd (o:= .lst [.str "buttons",.str "doors"]) R
   have u:=G.same C;refine#[_,Z,Z,.inr #[_,Z,l1,_,_,.str "buttons",Z,Z,MV.of qa,by rw[Jq (by intro z;injection z with z;revert z;decide +kernel)];rfl,j.ma,_,Z,u.g_buttons,?_]]
   have D:=C _ _ W;generalize MO H l1 (.lst [.str "buttons",.str "doors"])=H1 at C u D⊢
   rcases u.at_.gbd nm with⟨e,g⟩|⟨i,y,z,e,hy,_,_,_,g⟩
   case inr=>
    have U:Qa S (.addB nm step)= .ref .known:=Jd (by rw[e];rfl)
    rw[U]at dq;refine#[_,Z,_,Z,j.bd,_,Z,g,_,Z,zR #[_,_,Z,λq x=>?_]]
    exact dq q j _ (C.trans (MM.upd x)).mv Om.refl Z (u.same (MM.upd x)) qa
   have U:Qa S (.addB nm step)= .ok {S with bs:=S.bs++[gP S nm step]} .non:=Jc (by rw[e];intro z;cases z)
   rw[U]at dq;refine#[_,Z,_,Z,j.bd,_,Z,g,_,Z,zt ?_]
   refine#[_,Z,Z,_,Z,Ql (Jf Z) ?_]
   obtain⟨F,eh,la,X⟩:=id u.at_.ks;have k1:=ok.k1;have b3:S.kss.length-1<F.length:=by lia
   have ek:=Jk b3;have a5:S.kss[S.kss.length-1]? =↑(S.kss.getD (S.kss.length-1) []):=by
    rw[JO,Jk (by lia)];rfl
   have sq:=X _ _ _ ek a5;have b4:Q2 (F.map V.ref) (-1)=↑(.ref F[S.kss.length-1]):=wC (by rw[Jb,Jm,la,ek];rfl)
   refine#[_,Z,_,Z,j.ma,_,Z,u.g_table,_,Z,j.ma,_,Z,u.g_keys,_,Z,j.hk,_,_,.ref F[S.kss.length-1],Z,Z,MV.of eh,b4,?_]
   refine#[_,Z,j.ma,_,Z,u.g_keys,j.hk,_,Z,.inl (MV.of eh),_,_,Z,Z,_,Z,pp,_,_,_,Z,Z,MW.of D,Z,?_]
   rw[Jb,la];intro p dx hp O N;have I:MM H1 (MO (MO H1 dx (.own p)) p (.ins CB dx [])):=(MM.upd O).trans (MM.upd (by rw[qk N.symm];exact hp))
   have o3:=u.same I;have L:=C.trans I;have fp:H p=none:=QK hp C
   refine#[p,j.ta,F[S.kss.length-1],dx,nm,(S.kss.length:Int)-1,step,S.t,S.kss.getD (S.kss.length-1) [],Z,qa,.inr o3.at_.tb,.inr (MM.sqt I sq.up),λta ka ce H2 fc m2 b2=>#[Z,?_]]
   have s2:MM H H2:=MM.mv_of L m2 (λc hc=>by rw[Jg.mp hc];exact fp)
   have nb:=ok.nb;obtain⟨kvs,p1,m3,gr,h3⟩:=G.putB (B:=gP S nm step) (p:=p) (ce:=ce) s2 #[ta,ka,b2] fp (QK fc L) e (by lia)
   refine#[_,Z,_,Z,j.bd,_,Z,p1,?_]
   exact#[HU,λq x=>dq q _ _ (m3.trans (MM.upd x).mv) gr Z (h3.same (MM.upd x)) #[.non,qa,Z]]
end
section
variable{P:Ξ}{w:Ω}{K:ι}{mg:MK}{base:Ψ}{tk:Nat->Tok}{CB CD:Δ}
theorem oM(a:At K mg "_law_taught" cz ["_law_own_here","_law_gate","_law_button"])(T:Na K mg tk)(UB:Of K CB)(UD:NW K CD)(dQ:Mf P w K mg base CD "known_now" y8 1 (jr K CD))(xV:Mf P w K mg base CD "bounds_told" y8 1 (om K CD))(xJ:Mf P w K mg base CD "learn" Y5 7 (ie K CD))(xS:Mf P w K mg base CB "name_told" y8 1 (uo K CB))(dB:Mf P w K mg base CB "count_now" y8 1 (aY K CB))(dE:Mf P w K mg base CB "age_now" y8 1 (g9 K CB))(dL:Mf P w K mg base CB "press_once" Y9 4 (jz K CB))(dD:Df P w K mg base "_law_refused" X6 1 ZJ):Df P w K mg base "_law_taught" W8 8 (kT K CB CD):=by
 refine a.dq Oh λf _ A _ s H vs Q E g h=>?_
 ·obtain⟨m,S,n,i,j,z,y,u,B,rfl,ho,ok,n9,hz,hy,hu,L,dq⟩:=h
  refine#[_,(qg (tJ (i:=3) Oh.nd Z (Or.inl Z) (own:=["_law_row"]) (fr:=[]) (js:=[]) Z (jS (qM dQ UD.cl g.mo (qv 1))) Z (λ_ _ h=>nomatch h) Z (gY Z nofun nofun nofun) (λ_ _ _ _=>qB (i:=0) (show List.Nodup (["_law_row"]:Α)from by decide +kernel) Z (Or.inl Z) (.inr Z)) (λ_ _ _ _=>(qD (DI (K:=K) Z) (qv 0) qi)))
   (qg (qA (qy bg (qM xS UB.cl g.mo (qv 2)) (qv 3) (by rfl)) (qh (qm (qu dD g.mo (qc qj (qc zk qb))))) qq)
   (qg (qA (qy qR (qp qS T.b_len JK (qc (qv 3) qb)) (qD qQ (qM xV UD.cl g.mo (qv 1)) qi) (qw _)) (qh (qm (qu dD g.mo (qc qj (qc zk qb))))) qq)
   (qg (qA (qy lu (qM dB UB.cl g.mo (qv 2)) qi (qw _)) (qh (qm (qu dD g.mo (qc qj (qc zk qb))))) qq)
   (qg (qA (qy jU (qM dE UB.cl g.mo (qv 2)) (qH g (qv 0) qj) (qw _)) (qh (qm (qu dD g.mo (qc qj (qc qi qb))))) qq)
   (qg (zb (QU JX Ia Ib Qi (qH g (qv 0) qj) (qc (zh dL UB.cl g.mo (qv 2) (qc qi qb)) qb)))
   (qg (zb (QU JX Ia Ib Qi (qH g (qv 0) qj) (qc (zh dL UB.cl g.mo (qv 2) (qc qi qb)) qb)))
   (qg (zb (zh xJ UD.cl g.mo (qv 1) (qc (qD qO (qH g (qv 0) qj) (kf gS qi)) (qc (qD qO (qH g (qv 0) qj) (kf gS qi)) qb))))
   (qh (qm (qG (qc qj (qc zk qb))))))))))))),?_]
  have dl:=(ho.at_.de i z y hz hy).1;obtain⟨ta,ka,b⟩:=ho.at_.be j u B hu L;have C:=ok.bt B (Jp L);have Y:=ok.dr y (Jp hy);have l:∀(Hx:Hp) (r:Rf),MM H Hx->dv S i j y B= .ref r->∀q,Hx q=none->Q (.ref q) (MO Hx q (.tup [.str "refused",.str (uJ r),CP r])):=λHx r sx er q p=>by
   rw[er]at dq;exact dq q m _ (sx.trans (MM.upd p)).mv Om.refl Z (ho.same (sx.trans (MM.upd p))) qa
  refine#[_,Z,z.a.p,Z,dl.dr.no,z.a.p,z.a.ta,z.a.hk,z.a.bd,z.a.lg,y.L.length,y.D,Z,dl.dr,Y.ok,λkq ss H1 s1 pm so sh=>#[kq,Z,?_]]
  refine v6 (K:=K) sh (λnm h=>pm.mem_iff.mp h) (by rw[pm.length_eq,Jb];exact Y.ok.nl) (λHx a nm xs Q' e q'=>#[_,Z,a,_,_,_,Z,Z,MW.of e,(show Q2 (V.str nm::xs) ((0:Nat):Int)=↑(.str nm)from zV Z),q']) λkl H2 s2 a1=>?_
  have S2:=s1.trans s2;have b2:=b.same S2;have W:=dl.same S2;refine#[_,Z,u.p,Z,b2.no,u.p,ta,ka,u.ce,B,Z,b2,_,Z,kl,_,Z,.inl (MV.of a1),Z,wo ss,_,Z,?_]
  rw[Jc ⋯,sk]
  have D:B.nm∈ss↔y.D.kn.lookup B.nm≠none:=by
   rw[pm.mem_iff];constructor
   ·intro h q;obtain⟨e,he⟩:=ZM h;rw[q]at he;cases he
   ·intro h
    cases q:y.D.kn.lookup B.nm with
    |none=>exact absurd q h
    |some e=>exact Jy.mpr #[_,ac q,Z]
  by_cases hk:y.D.kn.lookup B.nm≠none
  ·exact Ql (Jf (D.mpr hk)) #[_,_,Z,λq p=>l H2 .known S2 (Jd hk) q p]
  refine Qd (Jq (λq=>hk (D.mp q))) ?_
  have I:dv S i j y B=_:=Jc hk
  have d2:y.D.kn.lookup B.nm=none:=Classical.not_not.mp hk
  have a4:ss.length=y.D.kn.length:=by rw[pm.length_eq,Jb]
  refine#[_,Z,kl,_,Z,.inl (MV.of a1),_,Z,z.a.p,Z,W.dr.no,z.a.p,z.a.ta,z.a.hk,z.a.bd,z.a.lg,y.L.length,y.D,Z,W.dr,λbt H3 s3 b7=>?_]
  refine#[bt,_,_,_,Z,Z,MW.of b7,Z,Z,_,Z,?_]
  have F:=S2.trans s3;rw[Jb,a4];have d6:=Y.m
  by_cases hf:y.D.most<=(y.D.kn.length:Int)
  ·refine Ql (Jf (by congr 1;lia)) #[_,_,Z,λq p=>l H3 .full F (by rw[I];exact Jd hf) q p]
  refine Qd (Jq (by intro q;injection q with q;lia)) ?_
  rw[Jc hf]at I;have N:=b.same F;have d9:=dl.same F;have o3:=ho.same F;refine#[_,Z,u.p,Z,N.no,u.p,ta,ka,u.ce,B,Z,N,_,_,Z,Z,_,Z,qK (λq=>?_) (λq=>?_)]
  ·have q:B.cnt>4094:=Jz q
   exact#[_,_,Z,λt ht=>l H3 .worn F (by rw[I];exact Jd q) t ht]
  have hc:¬4094<B.cnt:=λz=>q (Jf z)
  rw[Jc hc]at I;refine#[_,Z,u.p,Z,N.no,u.p,ta,ka,u.ce,B,Z,N,_,Z,m.ma,_,Z,o3.g_shut,_,_,Z,Z,_,Z,qK (λq=>?_) (λq=>?_)]
  ·have q:B.age<S.least:=Jz q
   exact#[_,_,Z,λt ht=>l H3 (.badp 0) F (by rw[I];exact Jd q) t ht]
  have hl:¬B.age<S.least:=λz=>q (Jf z)
  rw[Jc hl]at I;rw[I]at dq;have J:Zv 0:=#[⋯,⋯]
  have c0:=C.ok.c0;obtain⟨e0,c2,_,_⟩:=id o3.at_.kl;refine#[_,Z,m.ma,_,Z,o3.g_kept,.inl #[Z,_,MV.of c2],_,Z,u.p,Z,N.no,u.p,ta,ka,u.ce,B,0,Z,N,C.nm,by rw[C.t,ok.tp.length_eq];rfl,c0,by lia,J,λd4 c1 H4 m4 b4 c3 b1=>?_]
  obtain⟨c5,a3,c4,O,m5⟩:=o3.keepL (d:=0) hu L m4 #[ta,ka,b4] #[c1,c3,b1]
  have nk:=ok.nk;refine#[m.kl,_,_,Z,Z,a3,by rw[Jb,c4,Jn];lia,?_]
  generalize MO H4 m.kl (.lst (c5.map V.ref++[.ref d4]))=H5 at O m5⊢
  have d7:=ok.keep L (by lia) J
  obtain⟨a2,X,b5⟩:=O.at_.be j u B.pr hu (cj L)
  have G:=C.pr (by lia)
  obtain⟨e1,b0,_,_⟩:=id O.at_.kl;refine#[_,Z,m.ma,_,Z,O.g_kept,.inl #[Z,_,MV.of b0],_,Z,u.p,Z,b5.no,u.p,a2,X,u.ce,B.pr,0,Z,b5,G.nm,by rw[G.t,ok.tp.length_eq];rfl,G.ok.c0,by rw[au];lia,J,λc6 d3 H6 m6 b6 a5 d1=>?_]
  obtain⟨R,d5,v,M,m7⟩:=O.keepL (d:=0) hu (cj L) m6 #[a2,X,b6] #[d3,a5,d1]
  have v:R.length=(S.kp++[qV B 0]).length:=v
  rw[Jo]at v;refine#[m.kl,_,_,Z,Z,d5,by rw[Jb,v,Jn];show S.kp.length+1<_;lia,?_]
  generalize MO H6 m.kl (.lst (R.map V.ref++[.ref c6]))=H7 at M m7⊢
  obtain⟨c,a0,o,x⟩:=id M.at_.kl;have o:c.length=((S.kp++[qV B 0])++[qV B.pr 0]).length:=o
  have x:∀(i:Nat) (a:Δ) (P:Ps),c[i]? =↑a->((S.kp++[qV B 0])++[qV B.pr 0])[i]? =↑P->N3 H7 a P:=x
  rw[Jo,Jo]at o;have o:c.length=S.kp.length+1+1:=o
  have g1:=Jk (show S.kp.length<c.length by lia)
  have g2:=Jk (show S.kp.length+1<c.length by lia)
  have q1:=x _ _ (qV B 0) g1 (by rw[Iw (by rw[Jo];simp),Ik (Je _)];simp)
  have q2:=x _ _ (qV B.pr 0) g2 (by rw[Ik (by rw[Jo];exact Je _),Jo];simp)
  have U:=(M.at_.de i z y hz hy).1;have y1:=Jp hy;have ll:=Y.ll;refine#[_,Z,z.a.p,Z,U.dr.no,_,Z,m.ma,_,Z,M.g_kept,_,Z,m.kl,_,_,.ref c[S.kp.length],Z,Z,MV.of a0,?_,_,Z,m.ma,_,Z,M.g_kept,_,Z,m.kl,_,_,.ref c[S.kp.length+1],Z,Z,MV.of a0,?_,z.a,y.D,y.L,_,_,qV B 0,qV B.pr 0,B.cnt,0,0,Z,U,by lia,Y.ok,q1,q2,br ok C (by lia) J,?_,bM ok y1 C (by lia) (by lia) J,?_,ZO B,ae B,?_,by lia,λH8 m8 d8=>?_]
  ·exact C7 (by rw[Jb];lia) (by rw[Jb,Jm,show c.length-2=S.kp.length by lia,g1];rfl)
  ·exact wC (by rw[Jb,Jm,show c.length-1=S.kp.length+1 by lia,g2];rfl)
  ·exact br ok (C.pr (by lia)) (by rw[au];lia) J
  ·have:=bM ok y1 (C.pr (by lia)) (by rw[ae];lia) (by rw[au];lia) J
   rw[this,au]
  ·show y.D.kn.lookup B.pr.nm=none
   rw[ZO];exact d2
  ·have h8:=M.door hz hy (fO m8) d8
   have en:(qV B.pr 0).nm=B.nm:=ZO B
   have ea:(qV B.pr 0).age=B.age:=ae B
   rw[en,ea]at h8
   exact#[HU,λq p=>dq q m _ ((((F.mv.trans m5).trans m7).trans (iF hz (fO m8))).trans (MM.upd p).mv) Om.refl Z (h8.same (MM.upd p)) #[.non,qa,Z]]
end
section
variable{P:Ξ}{w:Ω}{K:ι}{mg:MK}{base:Ψ}{tk:Nat->Tok}{CB CD:Δ}
theorem kU(a:At K mg "_law_listened" aV ["_law_own_here","_law_name","_law_number"])(T:Na K mg tk)(UD:NW K CD)(xO:Mf P w K mg base CD "hear" V1 6 (mK K CD)):Df P w K mg base "_law_listened" X4 7 (bV K CB CD none):=by
 refine a.dq N8 λf _ A _ s H vs Q E p h=>?_
 ·obtain⟨o,S,n,nm,k,i,y,c,rfl,j,ok,n9,hi,m,J,q⟩:=h
  refine#[_,(qg (qE (i:=3) N8.nd Z (Or.inl Z) (zh xO UD.cl p.mo (qH p (qH p (qv 0) qj) (qv 1)) (qc (qD qO (qH p (qv 0) qj) (qv 2)) qb)))
   (qg (qA (qy qR (qD qQ (qv 3) qi) qj (qw _)) (qh (zb (QU JX Ia Ib Qi (qH p (qH p (qv 0) qj) (qv 1)) (qc (qv 2) qb)))) qq)
   (qh (qm (qv 3))))),?_]
  rcases j.at_.gdd nm with⟨e,g⟩|⟨i',z,y',e,l,x,_,ey,g⟩
  ·rw[hi]at e;cases e
  rw[hi]at e;cases e
  rw[m]at x;cases x
  have dl:=(j.at_.de i z y l m).1;obtain⟨I,ek,lk,rk⟩:=id j.at_.kl;have hk:k<I.length:=by rw[lk];exact(Jt.mp J).1
  have W:=Jk hk;have pa:=rk k _ c W J;have N:=ok.dr y (Jp m);have ll:=N.ll;refine#[_,Z,o.ma,_,Z,j.g_doors,_,Z,o.dd,_,Z,g,z.a.p,Z,dl.dr.no,_,Z,o.ma,_,Z,j.g_kept,_,Z,o.kl,_,_,.ref I[k],Z,Z,MV.of ek,zV (by rw[Jm,W];rfl),z.a,y.D,y.L,.ref I[k],↑c,Z,dl,by lia,N.ok,#[_,Z,pa,ok.kp c (Jp J)],(λh=>nomatch h),λP' eP pr O H1 _ F _ d U=>?_]
  cases eP;obtain⟨G,M⟩:=j.heard (k:=k) l m F U
  obtain⟨B,r,Y⟩:=kS y.D c;have u:=d;rw[Y]at u;have X:im (qX y.D c).1=decide (B="open"):=by rw[Y];rfl
  refine#[_,Z,O,_,_,.str B,Z,Z,MW.of u,(show Q2 (V.str B::r) ((0:Nat):Int)=↑(.str B)from zV Z),Z,_,Z,?_]
  by_cases C:B="open"
  ·have h1:=j.door l m (fO F) U
   rcases h1.at_.god nm with⟨e,_⟩|⟨i',z',y',e,v,_,_,_,R⟩
   ·rw[show(S.setD i {y with D:={y.D with kn:=(qX y.D c).2},L:=y.L++[.hear c (qX y.D c).1]}).dn=S.dn from Qg m Z,hi]at e;cases e
   rw[show(S.setD i {y with D:={y.D with kn:=(qX y.D c).2},L:=y.L++[.hear c (qX y.D c).1]}).dn=S.dn from Qg m Z,hi]at e;cases e
   rw[l]at v;cases v
   obtain⟨t,h2⟩:=M (by rw[X,Jf C]) (by rw[ey];exact R)
   refine Ql (Jf (by rw[C])) ?_
   have t:H1 z.ol=↑(.lst (y.op.map λn:Nat=>V.int (n:Int))):=t
   have lo:=N.lo;refine#[_,Z,o.ma,_,Z,h1.g_opened,_,Z,o.od,_,Z,R,.inl #[Z,_,MV.of t],_,Z,z.ol,_,_,Z,Z,t,by rw[Jb,Jn];lia,?_]
   rw[show(y.op.map (λn:Nat=>V.int (n:Int))++[V.int (k:Int)])=(y.op++[k]).map λn:Nat=>V.int (n:Int) by rw[JF];rfl]
   refine#[_,Z,q O _ ((iF l (fO F)).trans (pj (lf l) Mv.upd1)) h2 ?_]
   rw[qk (λz=>by rw[z,t]at d;cases d)];exact d
  ·refine Qd (Jq (by intro z;injection z with z;exact C z)) ?_
   exact#[_,Z,q O _ (iF l (fO F)) (G (by rw[X,Jq C])) d]
theorem lH(a:At K mg "_law_pressed" bG ["_law_own_here","_law_button","_law_deed_here","_law_doors"])(T:Na K mg tk)(UB:Of K CB)(dB:Mf P w K mg base CB "count_now" y8 1 (aY K CB))(dL:Mf P w K mg base CB "press_once" Y9 4 (jz K CB))(dD:Df P w K mg base "_law_refused" X6 1 ZJ)(xC:Df P w K mg base "_law_listened" X4 7 (bV K CB CD none)):Df P w K mg base "_law_pressed" X7 8 (kh K CB CD):=by
 refine a.dq Od λf _ A _ s H vs Q E F h=>?_
 ·obtain⟨c,S,n,j,u,B,deed,p,ds,rfl,ho,ok,n9,hu,hB,sq,np,a4,d5,dq⟩:=h
  refine#[_,(qg (qA (zW (zn (qp (Z5 Z) T.b_all Lv (qc (Qy (own:=["_law_name"]) (fr:=["_law_own_here"]) (js:=[0]) Z (dc (qv 3)) Z (Cf Z) Z (Cd Z nofun nofun nofun Z Z Z) (λ_ _ _ _=>qB (i:=0) (show List.Nodup (["_law_name","_law_own_here"]:Α)from by decide +kernel) Z (Or.inl Z) (.inr Z)) (λ_ _ _ _=>(FL F (qv 0) (qH F (qv 1) qj)))) qb)))) (qh (qm (qu dD F.mo (qc qj (qc zk qb))))) qq)
   (qg (qA (qy qR (qM dB UB.cl F.mo (qv 1)) qi (qw _)) (qh (qm (qu dD F.mo (qc qj (qc zk qb))))) qq)
   (qg (zb (QU JX Ia Ib Qi (qH F (qv 0) qj) (qc (zh dL UB.cl F.mo (qv 1) (qc (qv 2) qb)) qb)))
   (qg (qE (i:=4) Od.nd Z (Or.inr Z) (qC QM (qp qS T.b_len JK (qc (qH F (qv 0) qj) qb)) qi))
   (qh (qm (qG (qc qj (qc (qG (qc (qv 4) (qc (qI qZ T.b_tuple JD (qc (Qy (own:=["_law_name"]) (fr:=["_law_own_here","_law_number"]) (js:=[0,4]) Z (dc (qv 3)) Z (uY Z Z) Z (vt Z nofun nofun nofun Z Z Z Z Z Z) (λ_ _ _ _=>qB (i:=0) (show List.Nodup (["_law_name","_law_own_here","_law_number"]:Α)from by decide +kernel) Z (Or.inl Z) (.inr Z)) (λ_ _ _ _=>(qu xC F.mo (qc (qv 1) (qc (qv 0) (qc (qv 2) qb)))))) qb)) qb))) qb))))))))),?_]
  obtain⟨ta,ka,b⟩:=ho.at_.be j u B hu hB;have hb:=ok.bt B (Jp hB);have I:∀(Hx:Hp) (r:Rf),MM H Hx->ai S j B deed ds= .ref r->∀q,Hx q=none->Q (.ref q) (MO Hx q (.tup [.str "refused",.str (uJ r),CP r])):=λHx r sx er q W=>by
   rw[er]at dq;exact dq q c _ (sx.trans (MM.upd W)).mv Om.refl Z (ho.same (sx.trans (MM.upd W))) qa
  refine#[_,Z,p,Z,?_]
  refine jj (K:=K) sq (by rw[Jb,Jn];lia) (λi ys Hx=>Hx=H/\ys=(ds.take i).map λnm=>V.bl (qP S.dn nm).isSome) #[Z,Z] (λi ys H' h=>h.1▸Py.refl) ?_ ?_
  ·rintro i ys Hx v hv N ⟨rfl,rfl⟩
   rw[Jm]at hv;obtain⟨nm,D,rfl⟩:=JV.mp hv;have a3:ds.take (i+1)=ds.take i++[nm]:=by rw[Ig,D];rfl
   rcases ho.at_.gdd nm with⟨e,g⟩|⟨i',z,y',e,hz,e0,_,ey,g⟩
   ·exact#[_,Z,_,Z,c.ma,_,Z,ho.g_doors,c.dd,_,Z,g,Z,by rw[a3,JF];show _++[V.bl false]=_++[V.bl (qP S.dn nm).isSome];rw[e];rfl]
   ·exact#[_,Z,_,Z,c.ma,_,Z,ho.g_doors,c.dd,_,Z,g,Z,by rw[a3,JF];show _++[V.bl true]=_++[V.bl (qP S.dn nm).isSome];rw[e];rfl]
  rintro ys Hx N ⟨rfl,rfl⟩ l1 c0
  have c6:(ds.take (ds.map V.str).length).map (λnm=>V.bl (qP S.dn nm).isSome)=(ds.map λnm=>(qP S.dn nm).isSome).map V.bl:=by rw[Jb,II,Ip];rfl
  rw[c6];have U:=MM.upd (o:= .lst ((ds.map λnm=>(qP S.dn nm).isSome).map V.bl)) c0
  have b1:=b.same U;have o1:=ho.same U;have M:=Ot.same dq U;refine#[l1,_,Z,MV.of qa,_,Z,?_]
  by_cases O:∀nm∈ds,qP S.dn nm≠none
  case neg=>
   have hn:∃nm∈ds,qP S.dn nm=none:=Classical.byContradiction λz=>O λnm Y e=>z #[nm,Y,e]
   obtain⟨nm,Y,e⟩:=hn
   have:((ds.map λnm=>(qP S.dn nm).isSome).all id)=false:=by
    rw[List.all_eq_false]
    exact#[false,Jy.mpr #[nm,Y,by rw[e];rfl],⋯]
   rw[this];refine zR #[_,_,Z,λq W=>I _ .unknown U ?_ q W]
   unfold ai;rw[jB Y e]
  have:((ds.map λnm=>(qP S.dn nm).isSome).all id)=true:=by
   rw[Iz];intro x G;obtain⟨nm,Y,rfl⟩:=Jy.mp G;exact Option.isSome_iff_ne_none.mpr (O nm Y)
  rw[this];refine zt ?_
  obtain⟨is,L⟩:=ij O;have J:=bv L;have a0:ai S j B deed ds=if 4096<=B.cnt then .ref .worn else .ok (MZ (qY S j B deed) S.kp.length is is.length).1 (.num S.kp.length (MZ (qY S j B deed) S.kp.length is is.length).2):=by unfold ai;rw[L]
  have cb:=hb.ok.c0;have a2:Sq [] _ p (ds.map V.str):=eG sq U.mv (i9) (λh=>nomatch h)
  generalize MO Hx l1 (.lst ((ds.map λnm=>(qP S.dn nm).isSome).map V.bl))=H1 at U b1 o1 M a2⊢
  have c4:=Int.le_trans hb.ok.cb hb.ok.bm;refine#[_,Z,u.p,Z,b1.no,u.p,ta,ka,u.ce,B,Z,b1,Z,_,Z,?_]
  by_cases hc:4096<=B.cnt
  ·refine Ql (Jf (by congr 1;lia)) #[_,_,Z,λq W=>I _ .worn U (by rw[a0];exact Jd hc) q W]
  refine Qd (Jq (by intro z;injection z with z;lia)) ?_
  rw[a0,Jc hc]at M;obtain⟨e4,c1,_,_⟩:=id o1.at_.kl;refine#[_,Z,c.ma,_,Z,o1.g_kept,.inl #[Z,_,MV.of c1],_,Z,u.p,Z,b1.no,_,Z,u.p,ta,ka,u.ce,B,deed,Z,b1,hb.nm,by rw[hb.t,ok.tp.length_eq];rfl,cb,by lia,a4,λd8 b7 H4 m4 b4 c2 b6=>?_]
  obtain⟨d0,b2,c3,h5,m5⟩:=o1.keepL (d:=deed) hu hB m4 #[ta,ka,b4] #[b7,c2,b6]
  have nk:=ok.nk;refine#[c.kl,_,_,Z,Z,b2,by rw[Jb,c3,Jn];lia,?_]
  have a1:Sq [] _ p (ds.map V.str):=eG a2 m5 o1.at_.nt np
  generalize MO H4 c.kl (.lst (d0.map V.ref++[.ref d8]))=H5 at h5 m5 a1⊢
  have b3:=ok.keep hB (by lia) a4
  obtain⟨R,b5,m,_⟩:=id h5.at_.kl;have m:R.length=(S.kp++[qV B deed]).length:=m
  rw[Jo]at m;have m:R.length=S.kp.length+1:=m
  refine#[_,Z,c.ma,_,Z,h5.g_kept,c.kl,_,Z,.inl (MV.of b5),_,_,Z,Z,?_]
  have e3:((R.map V.ref).length:Int)-1=(S.kp.length:Int):=by rw[Jb,m];lia
  rw[e3];have hk:(qY S j B deed).kp[S.kp.length]? =↑(qV B deed):=by show(S.kp++[_])[S.kp.length]? =_;simp
  refine#[_,Z,_,Z,p,Z,?_]
  refine jj (K:=K) a1 (by rw[Jb,Jn];lia) (λi ys Hx=>Mv (hF c) H5 Hx/\MP K CB CD none Hx c (MZ (qY S j B deed) S.kp.length is i).1/\∃xs:Η,ys=xs.map V.ref/\xs.length=i/\(MZ (qY S j B deed) S.kp.length is i).2.length=i/\∀(k:Nat) (x:Δ) (l:Β),xs[k]? =↑x->(MZ (qY S j B deed) S.kp.length is i).2[k]? =↑l->Hx x=↑(.tup l)) #[λ_ _ _ e=>e,h5,[],Z,Z,Z,λk x l h=>by cases h] (λi ys H' h=>#[hF c,h.1,h5.at_.nt,np]) ?_ ?_
  ·rintro i ys Hx v hv N ⟨mx,G,xs,rfl,lx,X,C⟩
   rw[Jm]at hv;obtain⟨nm,D,rfl⟩:=JV.mp hv;obtain⟨i',c5,d2⟩:=jA L D;have e1:i<ds.length:=(Jt.mp D).1
   obtain⟨kd,kb,kp,kn⟩:=a8 (qY S j B deed) S.kp.length is i
   have d7:(qY S j B deed).dn=S.dn:=Z
   have a5:qP (MZ (qY S j B deed) S.kp.length is i).1.dn nm=↑i':=by rw[kn,d7];exact d2
   obtain⟨z,y,hz,hy,_,_⟩:=G.at_.dix a5;have b0:(MZ (qY S j B deed) S.kp.length is i).1.kp[S.kp.length]? =↑(qV B deed):=by rw[kp];exact hk
   have d1:=b3.hearN S.kp.length is i;have st:=kB c5 hy b0;refine#[_,Z,_,Z,_,Z,c,_,_,nm,S.kp.length,i',y,_,Z,G,d1,by lia,a5,hy,b0,λq1 H2 m2 h2 e2=>?_]
   rw[st];refine#[mx.trans m2,h2,xs++[q1],by simp,by simp [lx],by rw[Jo,X];rfl,λk x l g1 g2=>?_]
   rcases aU (lx.trans X.symm) g1 g2 with⟨g1,g2⟩|⟨rfl,rfl⟩
   ·exact m2.tup G.at_.nt (C k x l g1 g2)
   ·exact e2
  ·rintro ys Hx N ⟨mx,G,xs,rfl,lx,X,C⟩ lp d4
   rw[Jb]at lx X G C;have d6:=MM.upd (o:= .lst (xs.map V.ref)) d4
   refine#[lp,_,Z,.inl #[MV.of qa,λt ht=>#[HU,λqt d3=>#[HU,λqo d9=>?_]]]]
   have u2:=MM.upd (o:= .tup (xs.map V.ref)) ht
   have u3:=MM.upd (o:= .tup [.int (S.kp.length:Int),.ref t]) d3
   have u4:=MM.upd (o:= .tup [.str "told",.ref qt]) d9
   have U4:=((d6.trans u2).trans u3).trans u4;rw[<- J]at G X C;refine M qo c _ ((m5.trans mx).trans U4.mv) Om.refl Z (G.same U4) #[.ref qt,qa,qt,t,xs,Z,u4 _ _ qa,u4 _ _ (u3 _ _ qa),by rw[lx,X,J],λk x l g1 g2=>U4 _ _ (C k x l g1 g2)]
end
abbrev Qh:Α:=["add_door","add_button","teach","press_button","play_kept","lose_cell","tear_cell"]
section
variable{P:Ξ}{w:Ω}{K:ι}{mg:MK}{base:Ψ}{tk:Nat->Tok}{CB CD:Δ}
theorem jv(a:At K mg "_law_of_button" aa ["_law_own_here","_law_word","_law_button","_law_parts"])(T:Na K mg tk)(G:Of K CB)
 (dI:Mf P w K mg base CB "cell_out" y8 1 (jR K CB))
 (dW:Mf P w K mg base CB "cell_torn" y8 3 (mB K CB))
 (L:Df P w K mg base "_law_pressed" X7 8 (kh K CB CD)):Df P w K mg base "_law_of_button" X9 9 (rS K CB CD Qh):=by
 refine a.dq jO λf _ A _ s H vs Q E v h=>?_
 ·obtain⟨C,S,n,j,u,B,p,d,rfl,t,ok,N,o,r,x,U,X,dq⟩:=h
  refine#[_,(qg (qA (qy qR (qv 1) qj (qw _)) (qh (qm (qu L v.mo (qc (qv 0) (qc (qv 2) (qc (qD qQ (qv 3) qi) (qc (qD qQ (qv 3) qi) qb))))))) qq)
   (qg (qA (qy qR (qv 1) qj (qw _)) (qh (zb (qM dI G.cl v.mo (qv 2)))) (qh (qA (qy qR (qv 1) qj (qw _)) (qh (zb (qM dW G.cl v.mo (qv 2)))) zS)))
   (qh (qm (qG (qc qj (qc zk qb))))))),?_]
  obtain⟨ta,ka,b⟩:=t.at_.be j u B o r;have F:=ok.bt B (Jp r);have c:∀(B':Bt) (H1:Hp) (e g:Δ),Bv S j B d= .ok (S.setB j B') .non->Mv [u.p,u.ce] H H1->MS K CB H1 u.p e g u.ce B'->B'.nm=B.nm->2<=ζ/\∀q,H1 q=none->Q (.ref q) (MO H1 q (.tup [.str "told",.non])):=λB' H1 e g M i m W=>#[⋯,λq D=>by
   rw[M]at dq;exact dq q C _ ((kG o i).trans (MM.upd D).mv) Om.refl Z ((t.btn o r i #[e,g,m] W).same (MM.upd D)) #[.non,qa,Z]]
  refine#[_,Z,Z,_,Z,qK (λy=>?_) (λI=>?_)]
  ·cases d with
   |press bn deed ds=>
    obtain⟨O,l,R,nq,z,Y⟩:=X
    exact#[_,Z,_,Z,_,Z,p,_,_,_,Z,Z,MW.of l,Z,_,Z,p,_,_,_,Z,Z,MW.of l,Z,C,S,n,j,u,B,deed,O,ds,Z,t,ok,N,o,r,R,nq,z,Y,dq]
   |_=>exact absurd (aj y) (by dsimp only[zc];decide +kernel)
  refine#[_,Z,Z,_,Z,qK (λy=>?_) (λJ=>?_)]
  ·cases d with
   |lose bn=>exact#[_,Z,u.p,Z,b.no,u.p,ta,ka,u.ce,B,Z,b,F.ok,λH1 i m=>c _ H1 ta ka Z i m Z]
   |_=>exact absurd (aj y) (by dsimp only[zc];decide +kernel)
  refine#[_,Z,Z,_,Z,qK (λy=>?_) (λy3=>?_)]
  ·cases d with
   |tear bn=>exact#[_,Z,u.p,Z,b.no,u.p,ta,ka,u.ce,B,Z,b,F.ok,λH1 i m=>c _ H1 ta ka Z i m (oZ B)]
   |_=>exact absurd (aj y) (by dsimp only[zc];decide +kernel)
  cases d with
  |press bn deed ds=>exact(I (Jf Z)).elim
  |lose bn=>exact(J (Jf Z)).elim
  |tear bn=>exact(y3 (Jf Z)).elim
  |turnB bn=>exact absurd U (show¬("turn_button":Str)∈Qh by decide +kernel)
  |_=>exact absurd Z x
theorem v8(a:At K mg "_law_due" gI ["_law_own_here","_law_deed_here"])(T:Na K mg tk)(y0:Df P w K mg base "_law_added" W0 3 (ng K CB CD))(yU:Df P w K mg base "_law_taught" W8 8 (kT K CB CD))
 (yL:Df P w K mg base "_law_of_button" X9 9 (rS K CB CD Qh))
 (xC:Df P w K mg base "_law_listened" X4 7 (bV K CB CD none))
 (dD:Df P w K mg base "_law_refused" X6 1 ZJ):Df P w K mg base "_law_due" W1 10 (pU K CB CD Qh):=by
 refine a.dq On λf _ A _ s H vs Q E x h=>?_
 ·obtain⟨r,S,n,l,d,rfl,ho,ok,n9,L,hd,a3,X,dq⟩:=h
  refine#[_,(qg (qE (i:=2) On.nd Z (Or.inl Z) (qD qQ (qv 1) qi))
   (qg (qA (qy bg (qv 2) (qG (qc qj (qc qj qb))) (by rfl)) (qh (qm (qu y0 x.mo (qc (qv 0) (qc (qv 2) (qc (qD qQ (qv 1) qi) (qc (aN dz (qv 1) (bU qi) bW) qb))))))) qq)
   (qg (qA (qy bg (qv 2) (qG (qc qj (qc qj qb))) (by rfl)) zS qq)
   (qg (qA (qy bg (qv 2) (qG (qc qj (qc qj (qc qj (qc qj qb))))) (by rfl)) (qg (qA (cI x (qD qQ (qv 1) qi) (qH x (qv 0) qj)) (qh (qm (qu dD x.mo (qc qj (qc zk qb))))) qq)
   (qh (qm (qu yL x.mo (qc (qv 0) (qc (qv 2) (qc (qH x (qH x (qv 0) qj) (qD qQ (qv 1) qi)) (qc (aN dz (qv 1) (bU qi) bW) qb)))))))) qq)
   (qg (qE (i:=3) On.nd Z (Or.inl Z) (rB x (qH x (qv 0) qj) (qD qQ (qv 1) (jt (qy qR (qv 2) qj (qw _)) qi qi))))
   (qg (qA (QW.pt (Q0 (qy aB (qv 3) zk (qw _)) (QH (QW.pt (rV (qy aZ (qv 2) qj (qw _)) (mE (cI x (qD qQ (qv 1) qi) (qH x (qv 0) qj)))))))) (qh (qm (qu dD x.mo (qc qj (qc zk qb))))) qq)
   (qg (qA (qy qR (qv 2) qj (qw _)) (qh (qm (qu yU x.mo (qc (qv 0) (qc (qv 3) (qc (qH x (qH x (qv 0) qj) (qD qQ (qv 1) qi)) qb)))))) qq)
   (qg (qA (qy qR (qv 2) qj (qw _)) (qg (qA (zW (jE bR jU qi (qD qQ (qv 1) qi) (qp qS T.b_len JK (qc (qH x (qv 0) qj) qb)))) (qh (qm (qu dD x.mo (qc qj (qc (qD qQ (qv 1) qi) qb))))) qq)
   (qh (qm (qG (qc qj (qc (qu xC x.mo (qc (qv 0) (qc (qD qQ (qv 1) qi) (qc (qD qQ (qv 1) qi) qb)))) qb)))))) qq)
   zS)))))))),?_]
  have L:OQ (hF r) H l d:=L
  obtain⟨qx,G,hx⟩:=OQ.cells L;refine#[_,Z,l,_,_,_,Z,Z,MW.of G,p9,?_]
  refine#[_,Z,HU,λt1 U=>#[t1,_,Z,.inr (MW.of qa),Z,Z,_,Z,qK (λI=>?_) (λI=>?_)]]
  ·have R:=MM.upd (o:= .tup [.str "add_door",.str "add_button"]) U
   have o1:=ho.same R;have M:=Ot.same dq R;have e1:=R _ _ G;have C:=L.same R;generalize MO H t1 (.tup [.str "add_door",.str "add_button"])=H1 at o1 M e1 C⊢
   cases d with
   |addD nm near far most=>
    refine#[_,Z,_,Z,_,Z,l,_,_,_,Z,Z,MW.of C,Z,_,Z,_,Z,l,_,Z,C,λp H2 s2 hp _=>?_]
    exact#[r,S,n,"add_door",nm,p,.addD nm near far most,Z,o1.same s2,ok,n9,.inl #[Z,near,far,most,Z,hp],Ot.same M s2]
   |addB nm step=>
    refine#[_,Z,_,Z,_,Z,l,_,_,_,Z,Z,MW.of C,Z,_,Z,_,Z,l,_,Z,C,λp H2 s2 hp _=>?_]
    exact#[r,S,n,"add_button",nm,p,.addB nm step,Z,o1.same s2,ok,n9,.inr #[Z,step,Z,hp],Ot.same M s2]
   |_=>exact absurd I (by dsimp only[zc];decide +kernel)
  have R:=MM.upd (o:= .tup [.str "add_door",.str "add_button"]) U
  refine#[_,Z,HU,λt2 a1=>#[t2,_,Z,.inr (MW.of qa),Z,Z,_,Z,qK (λz2=>?_) (λz2=>?_)]]
  ·cases d with
   |turnH ks=>exact absurd X (show¬("turn_house":Str)∈Qh by decide +kernel)
   |close age=>exact absurd X (show¬("close_ages":Str)∈Qh by decide +kernel)
   |_=>exact absurd z2 (by dsimp only[zc];decide +kernel)
  have S2:=R.trans (MM.upd (o:= .tup [.str "turn_house",.str "close_ages"]) a1)
  refine#[_,Z,HW,λt3 a2=>?_]
  have S3:=S2.trans (MM.upd (o:= .tup [.str "press_button",.str "lose_cell",.str "tear_cell",.str "turn_button"]) a2)
  have v:=ho.same S3;have e3:=S3 _ _ G;have c:=L.same S3;have m:=Ot.same dq S3;refine#[t3,_,Z,.inr (MW.of qa),Z,Z,_,Z,qK (λz3=>?_) (λz3=>?_)]
  all_goals generalize MO (MO (MO H t1 (.tup [.str "add_door",.str "add_button"])) t2 (.tup [.str "turn_house",.str "close_ages"])) t3 (.tup [.str "press_button",.str "lose_cell",.str "tear_cell",.str "turn_button"])=H3 at v e3 c m⊢
  ·obtain⟨bn,eb,vs,G,pt⟩:∃bn,oO d=↑bn/\∃vs,H3 l=↑(.tup (.str (zc d):: .str bn::vs))/\∀N p,MM H3 N->N p=↑(.tup (bH (.str (zc d):: .str bn::vs) ↑2 none))->E8 N p r d:=by
    cases d with
    |press bn deed ds=>
     obtain⟨qd,L,sq,nq⟩:=c
     exact#[_,Z,_,L,λN p s4 hp=>#[qd,hp,eG sq s4.mv i9 (λh=>nomatch h),nq,hd.ok.1,hd.ok.2]]
    |lose bn=>exact#[_,Z,_,c,λ_ _ _ _=>trivial]
    |tear bn=>exact#[_,Z,_,c,λ_ _ _ _=>trivial]
    |turnB bn=>exact#[_,Z,_,c,λ_ _ _ _=>trivial]
    |_=>exact absurd z3 (by dsimp only[zc];decide +kernel)
   rcases v.at_.gbd bn with⟨e,D⟩|⟨j,u,B,hj,hu,Y,_,_,D⟩
   ·refine#[_,Z,l,_,_,_,Z,Z,MW.of G,zV (j:=1) Z,_,Z,r.ma,_,Z,v.g_buttons,r.bd,_,Z,D,_,Z,zR ?_]
    rw[BU eb e]at m
    exact#[_,_,Z,λq t=>m q r _ (MM.upd t).mv Om.refl Z (v.same (MM.upd t)) qa]
   refine#[_,Z,l,_,_,_,Z,Z,MW.of G,zV (j:=1) Z,_,Z,r.ma,_,Z,v.g_buttons,r.bd,_,Z,D,_,Z,zt ?_]
   rw[DV eb hj Y]at m;refine#[_,Z,_,Z,_,Z,r.ma,_,Z,v.g_buttons,_,Z,l,_,_,_,Z,Z,MW.of G,zV (j:=1) Z,r.bd,_,Z,D,_,Z,_,Z,l,_,Z,G,λp N s4 a0 _=>?_]
   exact#[r,S,n,j,u,B,p,d,Z,v.same s4,ok,n9,hu,Y,(by rw[eb];intro z;cases z),X,pt N p s4 a0,Ot.same m s4]
  have J:Qa S d= .ref .unknown->∀q,H3 q=none->Q (.ref q) (MO H3 q (.tup [.str "refused",.str "Unknown",.non])):=λer q t=>by
   rw[er]at m;exact m q r _ (MM.upd t).mv Om.refl Z (v.same (MM.upd t)) qa
  refine#[_,Z,r.ma,_,Z,v.g_doors,r.dd,Z,.inl #[_,.inl v.at_.dd],?_]
  refine#[_,Z,_,Z,Z,_,Z,?_]
  cases d with
  |teach dn bn=>
   dsimp only[zc]
   refine Qd (Jq (by intro z;injection z with z;revert z;decide +kernel)) ?_
   refine#[l,_,_,_,Z,Z,MW.of c,Z,?_]
   rcases v.at_.gdd dn with⟨e,g⟩|⟨i,z,y,hi,hz,O,_,_,g⟩
   ·refine#[_,g,?_]
    refine#[_,Z,Z,_,Z,Ql (Jf Z) ?_]
    exact#[_,_,Z,λq t=>J (jX e) q t]
   refine#[_,g,?_]
   refine#[_,Z,Z,_,Z,Qd (Jq (by intro z;cases z)) ?_]
   refine#[_,Z,Z,_,Z,Ql (by rw[Jq (by intro z;injection z with z;revert z;decide +kernel)];rfl) ?_]
   rcases v.at_.gbd bn with⟨e,D⟩|⟨j,u,B,hj,hu,Y,_,eB,D⟩
   ·refine#[_,Z,l,_,_,_,Z,Z,MW.of c,Z,_,Z,r.ma,_,Z,v.g_buttons,r.bd,_,Z,D,_,Z,zR ?_]
    exact#[_,_,Z,λq t=>J ((ln hi O).trans (bh e)) q t]
   refine#[_,Z,l,_,_,_,Z,Z,MW.of c,Z,_,Z,r.ma,_,Z,v.g_buttons,r.bd,_,Z,D,_,Z,zt ?_]
   refine#[_,Z,Z,_,Z,Ql (Jf Z) ?_]
   refine#[_,Z,_,Z,_,Z,r.ma,_,Z,v.g_buttons,_,Z,l,_,_,_,Z,Z,MW.of c,Z,r.bd,_,Z,D,?_]
   rw[nL hi O hj Y]at m
   exact#[r,S,n,i,j,z,y,u,B,Z,v,ok,n9,hz,O,hu,Y,m]
  |play k dn=>
   dsimp only[zc]
   refine Ql (Jf Z) ?_
   refine#[l,_,_,_,Z,Z,MW.of c,Z,?_]
   rcases v.at_.gdd dn with⟨e,g⟩|⟨i,z,y,hi,hz,O,_,_,g⟩
   ·refine#[_,g,?_]
    refine#[_,Z,Z,_,Z,Ql (Jf Z) ?_]
    exact#[_,_,Z,λq t=>J (jX e) q t]
   refine#[_,g,?_]
   rw[sN hi O]at m;refine#[_,Z,Z,_,Z,Qd (Jq (by intro z;cases z)) ?_]
   refine#[_,Z,Z,_,Z,Qd (by rw[Jf Z];rfl) (zt ?_)]
   refine#[_,Z,Z,_,Z,Qd nofun ?_]
   refine#[_,Z,Z,_,Z,Ql (Jf Z) ?_]
   have W:¬(0<=k/\k<S.kp.length)->∀q,H3 q=none->Q (.ref q) (MO H3 q (.tup [.str "refused",.str "BadPress",.int k])):=λz q t=>by
    rw[sC z]at m;exact m q r _ (MM.upd t).mv Om.refl Z (v.same (MM.upd t)) qa
   obtain⟨as,ek,lk,rk⟩:=id v.at_.kl;refine#[_,Z,l,_,_,_,Z,Z,MW.of c,Z,_,_,Z,Z,_,Z,qK (λF=>?_) (λF=>?_)]
   case refine_2=>
    have F:¬(0<=k):=λq=>F (Jf q)
    refine#[_,Z,zR ?_]
    exact#[_,Z,l,_,_,_,Z,Z,MW.of c,Z,_,_,Z,λq t=>W (λz=>F z.1) q t]
   have F:0<=k:=Jz F
   refine#[_,Z,r.ma,_,Z,v.g_kept,r.kl,_,Z,.inl (MV.of ek),_,_,Z,Z,_,Z,?_]
   rw[Jb,lk]
   by_cases I:k<(S.kp.length:Int)
   case neg=>
    refine Ql (by rw[Jq I];rfl) ?_
    exact#[_,Z,l,_,_,_,Z,Z,MW.of c,Z,_,_,Z,λq t=>W (λz=>I z.2) q t]
   refine Qd (by rw[Jf I];rfl) ?_
   have hP:=Jk (show k.toNat<S.kp.length by lia)
   rw[p8 F hP]at m;refine#[_,Z,_,Z,l,_,_,_,Z,Z,MW.of c,Z,_,Z,l,_,_,_,Z,Z,MW.of c,Z,r,S,n,dn,k.toNat,i,y,_,(by rw[Int.toNat_of_nonneg F];rfl),v,ok,by lia,hi,O,hP,λq1 N m4 h4 e4=>#[HU,λq t=>?_]]
   exact m q r _ (m4.trans (MM.upd t).mv) Om.refl Z (h4.same (MM.upd t)) #[.ref q1,qa,q1,Z,(MM.upd t) _ _ e4]
  |forget d b=>exact absurd X (show¬("forget_at":Str)∈Qh by decide +kernel)
  |_=>first|exact(z2 (by dsimp only[zc];decide +kernel)).elim|exact absurd I (by dsimp only[zc];decide +kernel)|exact absurd X (by dsimp only[zc];decide +kernel)|exact(z3 (by dsimp only[zc];decide +kernel)).elim|exact(I (by dsimp only[zc];decide +kernel)).elim
end
section
variable{P:Ξ}{w:Ω}{K:ι}{mg:MK}{base:Ψ}{tk:Nat->Tok}{fI:Δ}{x:Xa}
theorem p7(a:At K mg "_law_class" cM ["_law_caught"])(T:Na K mg tk)(d:OE K mg x fI):Df P w K mg base "_law_class" ["_law_caught"] 1 (oz K x):=by
 refine a.dq NJ λf _ A _ s H vs Q E hr h=>?_
 ·obtain⟨e,c,dd,wd,j,rfl,m,cl,q⟩:=h
  refine#[_,(qg (qE (i:=1) NJ.nd Z (Or.inl Z) (zd (qc (qp Zg T.b_isinstance Jx (qc (qv 0) (qc (zj (v:= .ref x.k) Z d.g_Known Z) qb))) (qc (qp Zg T.b_isinstance Jx (qc (qv 0) (qc (zj (v:= .ref x.f) Z d.g_Full Z) qb))) (qc (qp Zg T.b_isinstance Jx (qc (qv 0) (qc (zj (v:= .ref x.w) Z d.g_Worn Z) qb))) (qc (qp Zg T.b_isinstance Jx (qc (qv 0) (qc (zj (v:= .ref x.u) Z d.g_Unknown Z) qb))) qb))))))
   (qg (qE (i:=1) NJ.nd Z (Or.inl Z) (qC lr (qv 1) (zd (qc (qp Zg T.b_isinstance Jx (qc (qv 0) (qc (zj (v:= .ref x.t) Z d.g_TooMany Z) qb))) (qc (qp Zg T.b_isinstance Jx (qc (qv 0) (qc (zj (v:= .ref x.b) Z d.g_BadPress Z) qb))) qb)))))
   (qg (qE (i:=2) NJ.nd Z (Or.inl Z) (zd (qc qj (qc qj (qc qj (qc qj (qc qj (qc qj qb))))))))
   (qg (qA (QW.pt (Q0 (qy aZ (QU JX PySem.F.slot_list_count PySem.F.type_list_count yf (qv 1) (qc QC qb)) qi (qw _)) (Q0 (zW (zn (qp Zg T.b_isinstance Jx (qc (qv 0) (qc (qW (v:= .ty "ValueError") Z d.b_ValueError nofun Z) qb))))) (QH (zn (qp vT T.b_isinstance Jx (qc (qv 0) (qc (qG (qc (zj (v:= .ref x.l) Z d.g_BadLog Z) (qc (zj (v:= .ref x.r) Z d.g_BadRow Z) qb))) qb)))))))) (qh (qm qj)) qq)
   (qh (qm (qD qO (qv 2) (QU JX PySem.F.slot_list_index PySem.F.type_list_index we (qv 1) (qc QC qb))))))))),?_]
  have mw:=cl.m;refine#[_,Z,e,c,dd,_,_,_,Z,m,cl.c,.inl #[_,Z,Z],cl.i x.k (by simp [Xa.all]),_,Z,e,c,dd,_,_,_,Z,m,cl.c,.inl #[_,Z,Z],cl.i x.f (by simp [Xa.all]),_,Z,e,c,dd,_,_,_,Z,m,cl.c,.inl #[_,Z,Z],cl.i x.w (by simp [Xa.all]),_,Z,e,c,dd,_,_,_,Z,m,cl.c,.inl #[_,Z,Z],cl.i x.u (by simp [Xa.all]),HW,λu I=>?_]
  have W:=MM.upd (o:= .lst [.bl (decide (c=x.k)),.bl (decide (c=x.f)),.bl (decide (c=x.w)),.bl (decide (c=x.u))]) I
  have p:=W _ _ m;refine#[_,Z,_,Z,e,c,dd,_,_,_,Z,p,cl.c,.inl #[_,Z,Z],cl.i x.t (by simp [Xa.all]),_,Z,e,c,dd,_,_,_,Z,p,cl.c,.inl #[_,Z,Z],cl.i x.b (by simp [Xa.all]),HU,λz F=>?_]
  have R:=MM.upd (o:= .lst [.bl (decide (c=x.t)),.bl (decide (c=x.b))]) F
  refine#[u,z,_,_,Z,Z,R _ _ qa,qa,HY,λl B=>?_]
  have X:=MM.upd (o:= .lst ((x.six.map λD=>decide (c=D)).map V.bl)) B
  have M:=W.trans (R.trans X);have O:(MO (MO (MO H u (.lst [.bl (decide (c=x.k)),.bl (decide (c=x.f)),.bl (decide (c=x.w)),.bl (decide (c=x.u))])) z (.lst [.bl (decide (c=x.t)),.bl (decide (c=x.b))])) l (.lst ((x.six.map λD=>decide (c=D)).map V.bl))) l=↑(.lst ((x.six.map λD=>decide (c=D)).map V.bl)):=qa
  refine v7 ?_
  show gm _ _ _ _ (MO (MO (MO H u (.lst [.bl (decide (c=x.k)),.bl (decide (c=x.f)),.bl (decide (c=x.w)),.bl (decide (c=x.u))])) z (.lst [.bl (decide (c=x.t)),.bl (decide (c=x.b))])) l (.lst ((x.six.map λD=>decide (c=D)).map V.bl)))
  generalize MO (MO (MO H u (.lst [.bl (decide (c=x.k)),.bl (decide (c=x.f)),.bl (decide (c=x.w)),.bl (decide (c=x.u))])) z (.lst [.bl (decide (c=x.t)),.bl (decide (c=x.b))])) l (.lst ((x.six.map λD=>decide (c=D)).map V.bl))=H3 at M O⊢
  refine#[HY,λC L=>?_]
  have S:=MM.upd (o:= .lst (OJ.map V.str)) L
  have ew:(MO H3 C (.lst (OJ.map V.str))) C=↑(.lst (OJ.map V.str)):=qa
  have U:=M.trans S;have t:=S _ _ O;have n:=U _ _ m;have G:=mw.count;obtain⟨hit,g⟩:=mw.hit;refine#[_,Z,.inl #[Z,_,MV.of t],l,_,Z,Z,t,?_]
  rw[G];refine#[Z,_,Z,?_]
  refine qK (λy=>absurd y (by rw[Jf (show V.int ((1:Nat):Int)=V.int 1 from Z)];decide)) (λ_=>?_)
  refine#[_,Z,e,c,dd,_,_,true,Z,n,cl.c,.inr #[_,Z,Z],cl.v,_,Z,zt ?_]
  refine#[_,Z,HU,λY J=>?_]
  have r:=MM.upd (o:= .tup [.ref x.l,.ref x.r]) J
  refine#[e,c,Y,dd,[x.l,x.r],false,Z,r _ _ n,cl.c,qa,sE (λD N=>cl.i D (by simp only[Ji,Jr,Js]at N;rcases N with rfl|rfl<;>simp [Xa.all])) mw.n,_,Z,zt ?_]
  refine#[_,Z,_,Z,.inl #[Z,_,MV.of (r _ _ t)],l,_,j,Z,Z,r _ _ t,hit,g,by have:=mw.j6;omega,C,_,_,.str wd,Z,Z,MV.of (r _ _ ew),zV (by rw[Jm,mw.w];rfl),?_]
  exact q _ (U.trans r)
end
section
variable{P:Ξ}{w:Ω}{K:ι}{mg:MK}{base:Ψ}{tk:Nat->Tok}{C CB CD fI:Δ}{x:Xa}
theorem mr(a:At K mg "_law_called" cr ["_law_house","_law_deed_here"])(T:Na K mg tk)(U:OB K C)
 (yF:My P w K mg base C "add_door" Y0 3 (uq K CB CD C x))
 (xW:My P w K mg base C "add_button" ["self","name","step"] 3 (tS K CB CD C x))
 (W:My P w K mg base C "teach" ["self","door","button"] 8 (sB K CB CD C x))
 (X:My P w K mg base C "press_button" Y7 8 (pH K CB CD C x))
 (x9:My P w K mg base C "play_kept" ["self","number","door"] 8 (uF K CB CD C x))
 (yC:My P w K mg base C "lose_cell" W3 2 (tU K CB CD C x))
 (Y:My P w K mg base C "tear_cell" W3 4 (tI K CB CD C x))
 :Dy P w K mg base "_law_called" X2 9 (nJ K CB CD C x Qh):=by
 refine a.dy Oi λf _ A _ s H vs Q E q h=>?_
 ·obtain⟨g,S,n,l,d,rfl,I,ok,o,R,F,r,t,dd⟩:=h
  refine#[_,(qg (Ar (i:=2) (j:=3) Z Oi.nd Z Z ⋯ Z Z (qc (qD qQ (qv 1) qi) (qc (aN dz (qv 1) (bU qi) bW) qb)))
   (qg (qA (qy qR (qv 2) qj (qw _)) (qh (qm (zv yF zm U.cl q.mo (qv 0) (qc (qD qQ (qv 3) qi) (qc (qD qQ (qv 3) qi) (qc (qD qQ (qv 3) qi) (qc (qD qQ (qv 3) qi) qb))))))) qq)
   (qg (qA (qy qR (qv 2) qj (qw _)) (qh (qm (zv xW zm U.cl q.mo (qv 0) (qc (qD qQ (qv 3) qi) (qc (qD qQ (qv 3) qi) qb))))) qq)
   (qg (qA (qy qR (qv 2) qj (qw _)) (qh (qm (zv W zm U.cl q.mo (qv 0) (qc (qD qQ (qv 3) qi) (qc (qD qQ (qv 3) qi) qb))))) qq)
   (qg (qA (qy qR (qv 2) qj (qw _)) (qh (qm (zv X zm U.cl q.mo (qv 0) (qc (qD qQ (qv 3) qi) (qc (qD qQ (qv 3) qi) (qc (qD qQ (qv 3) qi) qb)))))) qq)
   (qg (qA (qy qR (qv 2) qj (qw _)) (qh (qm (zv x9 zm U.cl q.mo (qv 0) (qc (qD qQ (qv 3) qi) (qc (qD qQ (qv 3) qi) qb))))) qq)
   (qg (qA (qy qR (qv 2) qj (qw _)) (qh (qm (zv yC zm U.cl q.mo (qv 0) (qc (qD qQ (qv 3) qi) qb)))) qq)
   (qg (qA (qy qR (qv 2) qj (qw _)) (qh (qm (zv Y zm U.cl q.mo (qv 0) (qc (qD qQ (qv 3) qi) qb)))) qq)
   (qg (qA (qy qR (qv 2) qj (qw _)) zS qq)
   (qg (qA (qy qR (qv 2) qj (qw _)) zS qq)
   (qg (qA (qy qR (qv 2) qj (qw _)) zS qq)
   zS))))))))))),?_]
  obtain⟨z,B,D⟩:=OQ.cells R;refine#[_,Z,l,_,_,_,Z,Z,MW.of B,p9,_,Z,_,Z,l,_,Z,B,λp H1 v c _=>#[_,_,Z,?_]]
  have m:=I.same v;have c:H1 p=↑(.tup (GN z d)):=by cases d<;>exact c
  have e:=Ra.same dd v;refine#[_,Z,Z,_,Z,qK (λy=>?_) (λG=>?_)]
  ·cases d with
   |addD nm near far most=>exact#[_,Z,g.ma,Z,m.no,_,Z,p,_,_,_,Z,Z,MW.of c,Z,_,Z,p,_,_,_,Z,Z,MW.of c,Z,_,Z,p,_,_,_,Z,Z,MW.of c,Z,_,Z,p,_,_,_,Z,Z,MW.of c,Z,g,S,n,nm,near,far,most,Z,m,ok,o,e]
   |_=>exact absurd (aj y) (by dsimp only[zc];decide +kernel)
  refine#[_,Z,Z,_,Z,qK (λy=>?_) (λM=>?_)]
  ·cases d with
   |addB nm step=>exact#[_,Z,g.ma,Z,m.no,_,Z,p,_,_,_,Z,Z,MW.of c,Z,_,Z,p,_,_,_,Z,Z,MW.of c,Z,g,S,n,nm,step,Z,m,ok,o,e]
   |_=>exact absurd (aj y) (by dsimp only[zc];decide +kernel)
  refine#[_,Z,Z,_,Z,qK (λy=>?_) (λy3=>?_)]
  ·cases d with
   |teach dn bn=>exact#[_,Z,g.ma,Z,m.no,_,Z,p,_,_,_,Z,Z,MW.of c,Z,_,Z,p,_,_,_,Z,Z,MW.of c,Z,g,S,n,dn,bn,Z,m,ok,o,e]
   |_=>exact absurd (aj y) (by dsimp only[zc];decide +kernel)
  refine#[_,Z,Z,_,Z,qK (λy=>?_) (λy4=>?_)]
  ·cases d with
   |press bn deed ds=>exact#[_,Z,g.ma,Z,m.no,_,Z,p,_,_,_,Z,Z,MW.of c,Z,_,Z,p,_,_,_,Z,Z,MW.of c,Z,_,Z,p,_,_,_,Z,Z,MW.of c,Z,g,S,n,bn,deed,z,ds,Z,m,ok,o,eG D.1 v.mv i9 (λh=>nomatch h),D.2,F.ok.1,F.ok.2,e]
   |_=>exact absurd (aj y) (by dsimp only[zc];decide +kernel)
  refine#[_,Z,Z,_,Z,qK (λy=>?_) (λy5=>?_)]
  ·cases d with
   |play k dn=>exact#[_,Z,g.ma,Z,m.no,_,Z,p,_,_,_,Z,Z,MW.of c,Z,_,Z,p,_,_,_,Z,Z,MW.of c,Z,g,S,n,k,dn,Z,m,ok,o,r.1,r.2,e]
   |_=>exact absurd (aj y) (by dsimp only[zc];decide +kernel)
  refine#[_,Z,Z,_,Z,qK (λy=>?_) (λJ=>?_)]
  ·cases d with
   |lose bn=>exact#[_,Z,g.ma,Z,m.no,_,Z,p,_,_,_,Z,Z,MW.of c,Z,g,S,n,bn,Z,m,ok,o,e]
   |_=>exact absurd (aj y) (by dsimp only[zc];decide +kernel)
  refine#[_,Z,Z,_,Z,qK (λy=>?_) (λL=>?_)]
  ·cases d with
   |tear bn=>exact#[_,Z,g.ma,Z,m.no,_,Z,p,_,_,_,Z,Z,MW.of c,Z,g,S,n,bn,Z,m,ok,o,e]
   |_=>exact absurd (aj y) (by dsimp only[zc];decide +kernel)
  refine#[_,Z,Z,_,Z,qK (λy=>?_) (λO=>?_)]
  ·cases d with
   |turnH ks=>exact absurd t (show¬("turn_house":Str)∈Qh by decide +kernel)
   |_=>exact absurd (aj y) (by dsimp only[zc];decide +kernel)
  refine#[_,Z,Z,_,Z,qK (λy=>?_) (λN=>?_)]
  ·cases d with
   |turnB bn=>exact absurd t (show¬("turn_button":Str)∈Qh by decide +kernel)
   |_=>exact absurd (aj y) (by dsimp only[zc];decide +kernel)
  refine#[_,Z,Z,_,Z,qK (λy=>?_) (λu=>?_)]
  ·cases d with
   |close age=>exact absurd t (show¬("close_ages":Str)∈Qh by decide +kernel)
   |_=>exact absurd (aj y) (by dsimp only[zc];decide +kernel)
  cases d with
  |addD nm near far most=>exact(G (Jf Z)).elim
  |addB nm step=>exact(M (Jf Z)).elim
  |teach dn bn=>exact(y3 (Jf Z)).elim
  |press bn deed ds=>exact(y4 (Jf Z)).elim
  |play k dn=>exact(y5 (Jf Z)).elim
  |lose bn=>exact(J (Jf Z)).elim
  |tear bn=>exact(L (Jf Z)).elim
  |turnH ks=>exact(O (Jf Z)).elim
  |turnB bn=>exact(N (Jf Z)).elim
  |close age=>exact(u (Jf Z)).elim
  |forget dn bn=>exact absurd t (show¬("forget_at":Str)∈Qh by decide +kernel)
theorem vv(a:At K mg "_law_did" gE ["_law_house","_law_deed_here"])(T:Na K mg tk)(O:OE K mg x fI)(y:Dy P w K mg base "_law_called" X2 9 (nJ K CB CD C x Qh))(yZ:Df P w K mg base "_law_class" ["_law_caught"] 1 (oz K x)):Df P w K mg base "_law_did" X2 10 (rY K CB CD C Qh):=by
 refine a.dq Nn λf _ A _ s H vs Q E hr h=>?_
 ·obtain⟨J,S,n,l,d,rfl,ho,ok,n9,hl,hd,X,hw,q⟩:=h
  refine#[_,(qg (Qk (qG (qc zk (qc zk qb))) (bY Z (qJ (qB (i:=2) Nn.nd Z (Or.inl Z)) (qJ (qB (i:=3) Nn.nd Z (Or.inl Z)) Qf))))
   (qg (DX (E7 y hr.mo Nn.nd Z (Or.inl Z) (qc (qv 0) (qc (qv 1) qb)) (i:=2)) (λ_=>(qh (qE (i:=3) Nn.nd Z (Or.inl Z) (qv 4)))) Z Z Z O.g_CodeError O.e_CodeError Z Nn.nd (i:=4) Z Z)
   (qg (qA (qy aB (qv 3) zk (qw _)) (qh (qm (qG (qc qj (qc (qv 2) qb))))) qq)
   (qg (qE (i:=5) Nn.nd Z (Or.inl Z) (qu yZ hr.mo (qc (qv 3) qb)))
   (qh (qm (qG (qc qj (qc (qv 5) (qc (jt (qy qR (qv 5) qj (qw _)) (DA O.bp.f (qv 3)) zk) qb)))))))))),?_]
  refine#[HU,λt0 a0=>#[t0,_,Z,MW.of qa,Z,_,_,Z,_,_,Z,Z,?_]]
  have M:=MM.upd (o:= .tup [.non,.non]) a0
  generalize MO H t0 (.tup [.non,.non])=H0 at M⊢
  refine v7 ?_
  refine Bg (λL H'=>(∃(v:V) (a':Ha),L=[↑(.ref J.ma),↑(.ref l),↑v,some .non,none,none]/\Mv (hF J) H H'/\Om H J a'/\a'.ma=J.ma/\MP K CB CD ↑C H' a' (fq S (Qa S d))/\∃S' o,Qa S d= .ok S' o/\Os H' v o)\/
   ∃(e:Δ) (r:Rf) (dd:Λ),L=[↑(.ref J.ma),↑(.ref l),some .non,↑(.ref e),none,none]/\Qa S d= .ref r/\MM H H'/\H' e=↑(Oo e (.ref (E5 x r)) dd)/\∀n,r= .badp n->∃dx,dd=↑dx/\H' dx=↑(.xd [("place",.int n)])) (λD' hD=>?_) ?_
  ·have base:∀(r:Rf),Qa S d= .ref r->∀(H':Hp) (e:Δ) (dd:Λ),MM H0 H'->H' e=↑(Oo e (.ref (E5 x r)) dd)->(∀n,r= .badp n->∃dx,dd=↑dx/\H' dx=↑(.xd [("place",.int n)]))->(∀cls R,H' e=↑(Oo e cls R)->vF K x.e cls)/\D'.nx [↑(.ref J.ma),↑(.ref l),some .non,↑(.ref e),none,none] H':=λr N H' e dd s' p hp=>by
    obtain⟨j,cl⟩:=O.cl r
    exact#[λcls R hc=>by rw[FF p hc];exact cl.s,hD _ _ (.inr #[e,r,dd,Z,N,M.trans s',p,hp])]
   refine#[_,Z,_,Z,J,S,n,l,d,Z,ho.same M,ok,n9,hl.same M,hd,X,hw,λr N=>?_,λS' o U v a' H' m g Y h' hv=>?_]
   ·have F:=base r N
    cases r with
    |badp n=>exactλH' e dx s' p I=>#[e,Z,(F H' e ↑dx s' p (λG c=>by cases c;exact#[dx,Z,I])).1,_,Z,(F H' e ↑dx s' p (λG c=>by cases c;exact#[dx,Z,I])).2]
    |known=>exactλH' e s' p=>#[e,Z,(F H' e none s' p (λG c=>by cases c)).1,_,Z,(F H' e none s' p (λG c=>by cases c)).2]
    |full=>exactλH' e s' p=>#[e,Z,(F H' e none s' p (λG c=>by cases c)).1,_,Z,(F H' e none s' p (λG c=>by cases c)).2]
    |worn=>exactλH' e s' p=>#[e,Z,(F H' e none s' p (λG c=>by cases c)).1,_,Z,(F H' e none s' p (λG c=>by cases c)).2]
    |unknown=>exactλH' e s' p=>#[e,Z,(F H' e none s' p (λG c=>by cases c)).1,_,Z,(F H' e none s' p (λG c=>by cases c)).2]
    |toomany=>exactλH' e s' p=>#[e,Z,(F H' e none s' p (λG c=>by cases c)).1,_,Z,(F H' e none s' p (λG c=>by cases c)).2]
   ·refine hD _ _ (.inl #[v,a',Z,M.mv.trans m,g.same M,Y,?_,S',o,U,hv])
    rw[U];exact h'
  ·rintro L H' (⟨v,a',rfl,m,g,Y,h',S',o,U,hv⟩|⟨e,r,dd,rfl,N,s',p,hp⟩)
   ·refine#[_,Z,Z,_,Z,Ql (Jf Z) ?_]
    refine#[_,Z,HU,λt B=>?_]
    have u:=MM.upd (o:= .tup [.str "told",v]) B
    refine q t a' _ (m.trans u.mv) g Y (h'.same u) ?_
    rw[U]
    exact#[v,qa,hv.same u]
   ·obtain⟨j,cl⟩:=O.cl r
    refine#[_,Z,Z,_,Z,Qd (Jq (by intro z;cases z)) ?_]
    refine#[_,Z,e,_,dd,uJ r,j,Z,p,cl,λH3 W=>?_]
    have a1:=W _ _ p;rw[N]at q;have D:∀t,H3 t=none->Q (.ref t) (MO H3 t (.tup [.str "refused",.str (uJ r),CP r])):=λt B=>q t J _ ((s'.trans W).trans (MM.upd B)).mv Om.refl Z (ho.same ((s'.trans W).trans (MM.upd B))) qa
    refine#[_,Z,_,Z,Z,_,Z,?_]
    cases r with
    |badp n=>
     obtain⟨dx,rfl,I⟩:=hp n Z;refine Ql (Jf Z) ?_
     exact#[_,Z,e,dx,[("place",.int n)],.int n,Z,a1,W _ _ I,Z,HV,λt B=>D t B]
    |known=>exact Qd nofun #[HV,λt B=>D t B]
    |full=>exact Qd nofun #[HV,λt B=>D t B]
    |worn=>exact Qd nofun #[HV,λt B=>D t B]
    |unknown=>exact Qd nofun #[HV,λt B=>D t B]
    |toomany=>exact Qd nofun #[HV,λt B=>D t B]
end
end Lw
namespace L3
open PySem PySem.Spec PyProof.Rows L2
structure SR(O:Β->HO)(IT:Ψ->Δ->Δ->Nat->Prop)(IS:Ψ->Δ->Array Γ->Prop):Prop where
 seq:∀{X:Cx} {tx:ML} {σ:L2.St} {H:Hp} {s:Θ} {a:Δ} {xs:Β},L2.MQ X tx σ H s->Rd H a (O xs)->∃its:Ζ,MU xs its/\IS s.heap a its.toArray
 inj:∀{X:Cx} {tx:ML} {σ:L2.St} {H:Hp} {s:Θ} {a:Δ} {xs ys:Β},L2.MQ X tx σ H s->Rd H a (O xs)->Rd H a (O ys)->xs=ys
 obj:∀{h:Ψ} {i a:Δ} {n:Nat},IT h i a n->∃o,h.get? i=↑o/\∀v,o.data≠ .cell v
 at_:∀{h h':Ψ} {i a:Δ} {n:Nat},IT h i a n->(∀o,h.get? i=↑o->h'.get? i=↑o)->IT h' i a n
 dr:∀{prog:Ξ} {w:Ω} {A:Around},A.handled=none->∀(it t:Δ),t≠it->∀its:Array Γ,Draws prog w A it [it,t] its.size (λi v=>its[i]? =↑v) (λi h=>IT h it t i/\IS h t its)
 call:∀{prog:Ξ} {w:Ω} {A:Around} {E:MJ} {s:Θ} {l1 l2:Δ} {xs ys:Array Γ} {Q:MJ},IS s.heap l1 xs->IS s.heap l2 ys->
  (∀h',IsZip h' (s.heap.objs.size+4) (s.heap.objs.size+2) (s.heap.objs.size+3) .none->IsPair h' (s.heap.objs.size+2) (.ref s.heap.objs.size) (.ref (s.heap.objs.size+1))->
   IsPair h' (s.heap.objs.size+3) .none .none->IT h' s.heap.objs.size l1 0->IT h' (s.heap.objs.size+1) l2 0->
   (∀c o,s.heap.get? c=↑o->h'.get? c=↑o)->Q (.ref (s.heap.objs.size+4)) {s with heap:=h'})->ε (model prog w) A (call (.type "zip") [.ref l1,.ref l2]) Q E s
theorem HD:SR .tup Ψ.IsTupleIter Ψ.IsTuple:=#[λI h=>by obtain⟨a,r,p,_⟩:=I.tuple (.inl h);exact#[a,r,p],λI h h'=>I.tuple_inj (.inl h) (.inl h'),λh=>by obtain⟨o,e,_,d⟩:=h;exact#[o,e,λv y=>by rw[d]at y;cases y],λh k=>h.at k,ym,yi]
theorem HQ:SR .lst Ψ.IsListIter Ψ.IsList:=#[λI h=>by obtain⟨c,r,p,_⟩:=I.list (.inl h);exact#[c,r,p.isList],λI h h'=>I.list_inj (.inl h) (.inl h'),λh=>by obtain⟨o,e,_,d⟩:=h;exact#[o,e,λv y=>by rw[d]at y;cases y],λh k=>h.at k,Draws.list,λh1 g q=>call_zip_2 h1 g λh' i f a i1 i2 _ hk=>q h' i f a i1 i2 hk]
section
variable{X:Cx}{O:Β->HO}{IT:Ψ->Δ->Δ->Nat->Prop}{IS:Ψ->Δ->Array Γ->Prop}
def AW(O:Β->HO)(a c:Δ):It:=
  #[λi H=>∃xs ys x y,Rd H a (O xs)/\Rd H c (O ys)/\xs[i]? =↑x/\ys[i]? =↑y,
   λi H v H'=>∃p x y,H p=none/\v= .ref p/\(∀xs,Rd H a (O xs)->xs[i]? =↑x)/\(∀ys,Rd H c (O ys)->ys[i]? =↑y)/\H'=MO H p (.tup [x,y]),
   λi H=>∃xs,Rd H a (O xs)/\xs.length=i]
theorem yd(j:SR O IT IS){P:Ξ}{w:Ω}{K:ι}{a3:Ι}{x1}{pos:Pos}(J S z TI TO i1 i2:Δ)(d1:TI≠z)(d2:TO≠z)(d3:i1≠z)(d4:i2≠z)(d5:TI≠TO)(d6:TI≠i1)(d7:TI≠i2)(d8:TO≠i1)(d9:TO≠i2)(n:i1≠i2):
  Oz P w K (.Tuple a3 x1 pos) (AW O J S) [z,TI,TO,i1,i2] z (λi h=>IsZip h z TI TO .none/\IsPair h TI (.ref i1) (.ref i2)/\(∃a b,IsPair h TO a b)/\IT h i1 J i/\IT h i2 S i) where
 mem:=by simp
 obj:=λi h st b d=>by
  obtain⟨G,g,⟨a,b',l⟩,c0,b4⟩:=st;obtain⟨o1,b1,b2⟩:=j.obj c0;obtain⟨o2,c1,c2⟩:=j.obj b4;simp only[Ji,Jr,Js]at d;rcases d with rfl|rfl|rfl|rfl|rfl
  ·exact#[_,G,λv y=>by have y':Data.fields _=Data.cell v:=y;cases y']
  ·exact#[_,g,λv y=>by have y':Data.seq _ _=Data.cell v:=y;cases y']
  ·exact#[_,l,λv y=>by have y':Data.seq _ _=Data.cell v:=y;cases y']
  ·exact#[_,b1,b2]
  ·exact#[_,c1,c2]
 keep:=λi h h' st k=>by
  obtain⟨G,g,⟨a,b',l⟩,h1,h2⟩:=st
  exact#[k z (by simp) _ G,k TI (by simp) _ g,#[a,b',k TO (by simp) _ l],j.at_ h1 λo e=>k i1 (by simp) o e,j.at_ h2 λo e=>k i2 (by simp) o e]
 item:=by
  intro X hP hw hK m i tx s σ H E I N st hg;subst hP hw hK;obtain⟨xs,ys,x,y,r,Q,hx,hy⟩:=hg;obtain⟨its,rv,p⟩:=j.seq I r;obtain⟨C,b3,p2⟩:=j.seq I Q;obtain⟨u,hu,ru⟩:=rv.get hx;obtain⟨u2,a4,a5⟩:=b3.get hy;obtain⟨G,g,⟨a,b',l⟩,h1,h2⟩:=st;have n1:∀c∈[z,TI,TO,i1,i2],J≠c:=λc m=>vU r (N c m).1
  have n2:∀c∈[z,TI,TO,i1,i2],S≠c:=λc m=>vU Q (N c m).1
  have Z:OS z TI TO i1 i2 [i1,J] [i2,S]:=#[d1,d2,d3,d4,d5,d6,d7,d8,d9,n,by simp [Ne.symm d3,Ne.symm (n1 z (by simp))],by simp [Ne.symm d4,Ne.symm (n2 z (by simp))],by simp [d8,Ne.symm (n1 TO (by simp))],by simp [d9,Ne.symm (n2 TO (by simp))],by simp [Ne.symm n,Ne.symm (n1 i2 (by simp))],by simp [n,Ne.symm (n2 i1 (by simp))]]
  have b5:i<its.toArray.size:=by have:=(Jt.mp hu).1;simpa using this
  have U:i<C.toArray.size:=by have:=(Jt.mp a4).1;simpa using this
  have hT:s.TypeIs (.ref z) "zip":=#[_,G,rfl]
  unfold pyNext;refine Ja (Lq (wpAny_callSpecial?_slot (name:=Str.ofString "__next__") hT Mq
   (J8 Mq hT F.entry_zip_next
    (yk (j.dr (A:=X.A.in1) (I.ok.hd m) i1 J (n1 i1 (by simp)) its.toArray) (j.dr (A:=X.A.in1) (I.ok.hd m) i2 S (n2 i2 (by simp)) C.toArray) Z G g l #[h1,p] #[h2,p2] b5 U
     λv v2 h' tk hv b0 ho a0 q1 q2 ht hk=>Jh #[_,rfl,?_]) (F.args_zip_next_1 _))))
  have ev:v=u:=by
   have D:its[i]? =↑v:=by simpa using hv
   rw[hu]at D;exact(JE D).symm
  have b6:v2=u2:=by
   have D:C[i]? =↑v2:=by simpa using b0
   rw[a4]at D;exact(JE D).symm
  subst ev b6;refine wpAny_letOwnedTupleGo_zip ho λt M f=>?_
  have lt:∀c∈[z,TI,TO,i1,i2],c<s.heap.objs.size:=λc m=>by
   simp only[Ji,Jr,Js]at m;rcases m with rfl|rfl|rfl|rfl|rfl
   ·exact Jl G
   ·exact Jl g
   ·exact Jl l
   ·obtain⟨_,e,_⟩:=j.obj h1;exact Jl e
   ·obtain⟨_,e,_⟩:=j.obj h2;exact Jl e
  have L:IsPair t TI (.ref i1) (.ref i2):=f.extBut _ _ d1 (hk _ _ d1 d5 d6 d7 g)
  have B:IsPair t TO v v2:=f.extBut _ _ d2 a0
  have Y:IT t i1 J (i+1):=j.at_ q1.1 λo e=>f.extBut _ _ d3 e
  have W:IT t i2 S (i+1):=j.at_ q2.1 λo e=>f.extBut _ _ d4 e
  refine#[.ref s.heap.objs.size,MO H s.heap.objs.size (.tup [x,y]),?_,rfl,#[_,x,y,I.hok.fresh (Je _),rfl,λzs R=>by rw[j.inj I R r];exact hx,λzs R=>by rw[j.inj I R Q];exact hy,rfl],#[M,L,#[_,_,B],Y,W],?_]
  ·show L2.MQ X tx σ _ {s with heap:=t,toks:=tk}
   refine iI (s:=s) (its:=[v,v2]) I (ch:=[z,TI,TO,i1,i2]) (λb o d q=>?_) N (λb d=>?_) (Je _) (by show 2<=ζ;decide) (.cons ru (.cons a5 .nil)) ?_
   ·simp only[Ji,Jr,Js,not_or]at d
    exact f.extBut b o d.1 (hk b o d.1 d.2.2.1 d.2.2.2.1 d.2.2.2.2 q)
   ·simp only[Ji,Jr,Js]at d
    rcases d with rfl|rfl|rfl|rfl|rfl
    ·exact#[_,M]
    ·exact#[_,L]
    ·exact#[_,B]
    ·obtain⟨o,e,_⟩:=j.obj Y;exact#[o,e]
    ·obtain⟨o,e,_⟩:=j.obj W;exact#[o,e]
   ·exact#[_,f.extBut _ _ (J0 (lt z (by simp))) ht,rfl,_,rfl]
  ·intro b d
   rw[qk (Ju (lt b d))]
   exact(N b d).1
 done:=by
  intro X hP hw hK m i tx s σ H E I N st hg;subst hP hw hK;obtain⟨xs,r,hx⟩:=hg;obtain⟨its,rv,p⟩:=j.seq I r;obtain⟨G,g,⟨a,b',l⟩,h1,h2⟩:=st;have n1:∀c∈[z,TI,TO,i1,i2],J≠c:=λc m=>vU r (N c m).1
  have Z:OS z TI TO i1 i2 [i1,J] [i2]:=#[d1,d2,d3,d4,d5,d6,d7,d8,d9,n,by simp [Ne.symm d3,Ne.symm (n1 z (by simp))],by simp [Ne.symm d4],by simp [d8,Ne.symm (n1 TO (by simp))],by simp [d9],by simp [Ne.symm n,Ne.symm (n1 i2 (by simp))],by simp [n]]
  have hl:its.toArray.size=i:=by rw[JA,<- rv.length];exact hx
  have hT:s.TypeIs (.ref z) "zip":=#[_,G,rfl]
  unfold pyNext;refine Ja (Lq (wpAny_callSpecial?_slot (name:=Str.ofString "__next__") hT Mq
   (J8 Mq hT F.entry_zip_next
    (BT (j.dr (A:=X.A.in1) (I.ok.hd m) i1 J (n1 i1 (by simp)) its.toArray) Z G g #[by rw[hl];exact h1,p] λh' e hk he=>?_) (F.args_zip_next_1 _))))
  obtain⟨o,ho,b7⟩:=he;refine Ja (wpAny_isInstance (T:="StopIteration") (b:=true) #[o,ho,b7] isSubtype_stop ?_)
  refine Jh #[rfl,DT (t':=s.toks) I (ch:=[z,i1]) (λb o d e=>?_) (λb d=>N b ?_)]
  ·simp only[Ji,Jr,Js,not_or]at d
   exact hk b o d.1 d.2 e
  ·simp only[Ji,Jr,Js]at d
   rcases d with rfl|rfl<;>simp
 self:=λ_ _ _ _ _ st h=>wpAny_pyIter_zip st.1 h
def CI(O:Β->HO)(ta:TA):TI:=λσ H R=>ta σ H λd H1=>∃c a xs ys,d=[.ref c,.ref a]/\Rd H1 c (O xs)/\Rd H1 a (O ys)/\R (AW O c a) H1
theorem DD(o:SR O IT IS){a b:Φ}{ta:TA}{p pos:Pos}{l:Ι}{x1}{tpos:Pos}(hg:Gl X "zip")(hm:X.mg "zip"=none)(ha:PA X [a,b] ta)(h1:Zs a=true:=by rfl)(h2:Zs b=true:=by rfl):
  PI X (.Tuple l x1 tpos) (.Call (.Name "zip" p) [a,b] [] pos) (CI O ta):=by
 intro tx s σ H R I h;have g:θ [b] X.env=[(false,eval b X.env)]:=cH h2
 refine Call_ (bu I hg hm PyProof.Rows.boot_zip (Lg (qF (ha pos tx s σ H _ I h) λP c D=>?_) (by rw[cH h1,g]) (by rw[g];rfl)))
 obtain⟨Q,H1,m,E,L⟩:=D;obtain⟨G,K,xs,ys,e,A,N,q⟩:=L;subst e;obtain⟨u,v,rfl,C,M⟩:=E.two;cases C;cases M;obtain⟨J,B,F⟩:=o.seq m A;obtain⟨y,z,p2⟩:=o.seq m N;have d:∀(n i j:Nat),i≠j->n+i≠n+j:=λn i j h=>by lia
 refine o.call F p2 λh' w r t h1 h2 hk=>wpAny_pyIter_zip w ?_
 refine#[c.heap.objs.size+4,[c.heap.objs.size+4,c.heap.objs.size+2,c.heap.objs.size+3,c.heap.objs.size,c.heap.objs.size+1],_,_,H1,Z,m.kept (t':=c.toks) hk,
  yd o G K (c.heap.objs.size+4) (c.heap.objs.size+2) (c.heap.objs.size+3) c.heap.objs.size (c.heap.objs.size+1) (d _ 2 4 ⋯) (d _ 3 4 ⋯) (d _ 0 4 ⋯) (d _ 1 4 ⋯) (d _ 2 3 ⋯) (d _ 2 0 ⋯) (d _ 2 1 ⋯) (d _ 3 0 ⋯) (d _ 3 1 ⋯) (d _ 0 1 ⋯),#[w,r,#[_,_,t],h1,h2],λb x=>?_,q]
 have f:c.heap.objs.size<=b:=by
  simp only[Ji,Jr,Js]at x;rcases x with rfl|rfl|rfl|rfl|rfl
  ·exact Mr _ 4
  ·exact Mr _ 2
  ·exact Mr _ 3
  ·exact Je _
  ·exact Mr _ 1
 exact m.fpOk f (m.hok.fresh f)
theorem uu(d:SR O IT IS){a b:Φ}{ta:TA}{p pos:Pos}{c:Ι}{x1}{tpos:Pos}(hg:Gl X "zip")(hm:X.mg "zip"=none)(ha:QA X [a,b] ta)(h1:Zs a=true:=by rfl)(h2:Zs b=true:=by rfl):
  QI X (.Tuple c x1 tpos) (.Call (.Name "zip" p) [a,b] [] pos) (CI O ta):=#[DD d hg hm ha.h h1 h2]
end
theorem nB{O:Β->HO}{K:ι}{js:Μ}{te:TE}{σ:L2.St}{H:Hp}{Q:VK}{l n:Δ}{xs ys:Β}(hl:xs.length=ys.length)(hn:xs.length<=ζ)(Pv:Nat->Β->Hp->Prop)(w:Pv 0 [] H)
  (hk:∀i a H,Pv i a H->Rd H l (O xs)/\Rd H n (O ys))
  (hs:∀i a H p x y,xs[i]? =↑x->ys[i]? =↑y->a.length=i->Pv i a H->H p=none->te (↑x::↑y::QD js σ) (MO H p (.tup [x,y])) λv H3=>Pv (i+1) (a++[v]) H3)
  (hd:∀a H,a.length=xs.length->Pv xs.length a H->∀p,H p=none->Q (.ref p) (MO H p (.lst a))):
  vx 2 js (uV K 2 (ph (aG 0) (ph (aG 1) B9))) te σ Q (AW O l n) H:=by
 refine#[λi m a j H=>m=xs.length-i/\i<=xs.length/\a.length=i/\Pv i a H/\∃o o',j=o::o'::QD js σ,#[xs.length,by simp,JM _,Z,w,none,none,Z],?_]
 rintro i m a j H ⟨rfl,hi,c,p,o,o',rfl⟩
 obtain⟨g,q⟩:=hk i a H p
 by_cases d:i<xs.length
 ·have f:i<ys.length:=by lia
  refine .inr #[#[xs,ys,xs[i],ys[i],g,q,by simp [d],by simp [f]],by lia,λv H' y=>?_]
  obtain⟨h,x,y,t,rfl,r,u,rfl⟩:=y;refine#[h,_,Z,MW.of qa,Z,_,_,Z,_,_,Z,Z,?_]
  exact#[λv H3=>Pv (i+1) (a++[v]) H3,λv H3 s=>#[xs.length-(i+1),by lia,Z,d,by simp [c],s,_,_,Z],hs i a _ h x y (r xs g) (u ys q) c p t]
 ·have e:i=xs.length:=by lia
  subst e;exact .inl #[#[xs,g,Z],hd a H c p]
end L3
namespace Lw
open PySem L2 L3
section
variable{P:Ξ}{w:Ω}{K:ι}{mg:MK}{base:Ψ}{tk:Nat->Tok}
theorem jb(a:At K mg "_law_same" bK ["_law_found","_law_due_here"])(T:Na K mg tk):∀n:Nat,n<=8->Df P w K mg base "_law_same" X0 (n+1) (vR n)
 |0,_=>by
  refine a.dq cW λf _ A _ s H F Q E C h=>?_
  ·obtain⟨x,y,rfl,e,q⟩:=h
   refine#[_,(qg (qA (zn (qp gN T.b_isinstance Jx (qc (qv 1) (qc (qG (qc (qW (v:= .ty "list") Z T.b_list JY Z) (qc (qW (v:= .ty "tuple") Z T.b_tuple JD Z) qb))) qb)))) zS qq)
   (qg (qA (QW.pt (Q0 (qy aB (qv 1) zk (qw _)) (QH (zn (qp za T.b_isinstance Jx (qc (qv 1) (qc (qW (v:= .ty "str") Z T.b_str Iq Z) qb))))))) (qh (qm (Qc (zz qR (qv 0) (qv 1) (qw _)) (Qx (zz qR (qp za T.b_isinstance Jx (qc (qv 0) (qc (qW (v:= .ty "str") Z T.b_str Iq Z) qb))) (qp za T.b_isinstance Jx (qc (qv 1) (qc (qW (v:= .ty "str") Z T.b_str Iq Z) qb))) (qw _)))))) qq)
   (qh (qm (Qc (qp za T.b_isinstance Jx (qc (qv 0) (qc (qW (v:= .ty "int") Z T.b_int Le Z) qb))) (Qc (gA (qp za T.b_isinstance Jx (qc (qv 0) (qc (qW (v:= .ty "bool") Z T.b_bool Mp Z) qb)))) (Qx (zz qR (qv 0) (qv 1) (qw _))))))))),?_]
   cases e with
   |int _ i=>
    refine#[_,Z,HU,λp g=>#[_,p,["list","tuple"],"int",Z,qa,.int i,by simp,_,Z,?_]]
    rw[show(["list","tuple"].any (zY "int"))=false from by decide]
    refine zt #[_,Z,Z,_,Z,?_]
    refine qK (λz=>nomatch (Jz z)) (λ_=>#[_,Z,_,"str","int",Z,.int i,by simp,_,Z,?_])
    rw[show zY "int" "str"=false from by decide]
    refine zt #[_,Z,_,"int","int",Z,.int i,by simp,_,Z,?_]
    rw[show zY "int" "int"=true from by decide]
    refine zR #[_,Z,_,"bool","int",Z,.int i,by simp,_,Z,?_]
    rw[show zY "int" "bool"=false from by decide]
    refine#[_,Z,zR #[_,Z,_,Z,Z,?_]]
    rw[Jf Z];exact q _ (MM.upd g)
   |str _ z=>
    refine#[_,Z,HU,λp g=>#[_,p,["list","tuple"],"str",Z,qa,.str z,by simp,_,Z,?_]]
    rw[show(["list","tuple"].any (zY "str"))=false from by decide]
    refine zt #[_,Z,Z,_,Z,?_]
    refine qK (λz=>nomatch (Jz z)) (λ_=>#[_,Z,_,"str","str",Z,.str z,by simp,_,Z,?_])
    rw[show zY "str" "str"=true from by decide]
    refine zR #[_,Z,_,Z,Z,_,Z,?_]
    refine qK (λ_=>?_) (λy=>absurd (Jf Z) y)
    refine#[_,Z,_,"str","str",Z,.str z,by simp,_,Z,_,"str","str",Z,.str z,by simp,Z,?_]
    rw[Jf Z];exact q _ (MM.upd g)
   |non _=>
    refine#[_,Z,HU,λp g=>#[_,p,["list","tuple"],"NoneType",Z,qa,.non,by simp,_,Z,?_]]
    rw[show(["list","tuple"].any (zY "NoneType"))=false from by decide]
    refine zt #[_,Z,Z,_,Z,?_]
    refine qK (λ_=>#[_,Z,_,Z,Z,_,Z,?_]) (λz=>absurd (Jf Z) z)
    refine qK (λ_=>?_) (λy=>absurd (Jf Z) y)
    refine#[_,Z,_,"str","NoneType",Z,.non,by simp,_,Z,_,"str","NoneType",Z,.non,by simp,Z,?_]
    rw[Jf Z];exact q _ (MM.upd g)
 |n+1,hn=>by
  have G:=jb a T n (by lia)
  refine a.dq cW λf _ A _ s H F Q E C h=>?_
  ·obtain⟨x,y,rfl,e,q⟩:=h
   refine#[_,(qg (qA (zn (qp gN T.b_isinstance Jx (qc (qv 1) (qc (qG (qc (qW (v:= .ty "list") Z T.b_list JY Z) (qc (qW (v:= .ty "tuple") Z T.b_tuple JD Z) qb))) qb)))) (qg (qA (QW.pt (Q0 (qy aZ (qp za T.b_isinstance Jx (qc (qv 0) (qc (qW (v:= .ty "list") Z T.b_list JY Z) qb))) (qp za T.b_isinstance Jx (qc (qv 1) (qc (qW (v:= .ty "list") Z T.b_list JY Z) qb))) (qw _)) (QH (qy aZ (qp za T.b_isinstance Jx (qc (qv 0) (qc (qW (v:= .ty "tuple") Z T.b_tuple JD Z) qb))) (qp za T.b_isinstance Jx (qc (qv 1) (qc (qW (v:= .ty "tuple") Z T.b_tuple JD Z) qb))) (qw _))))) (qh (qm QC)) qq)
   (qh (qm (Qc (zz qR (qp qS T.b_len JK (qc (qv 0) qb)) (qp qS T.b_len JK (qc (qv 1) qb)) (qw _)) (Qx (qp (Z5 Z) T.b_all Lv (qc (Qy (own:=["_law_one","_law_other"]) (fr:=[]) (js:=[]) Z (uu HD Z T.b_zip (qc (qv 0) (qc (qv 1) qb))) Z (λ_ _ h=>nomatch h) Z (gY Z nofun nofun nofun) (λ_ _ _ _=>tZ (K:=K) Z 2 Z (qJ (qB (i:=0) (show List.Nodup (["_law_one","_law_other"]:Α)from by decide +kernel) Z (Or.inl Z) (.inr Z)) (qJ (qB (i:=1) (show List.Nodup (["_law_one","_law_other"]:Α)from by decide +kernel) Z (Or.inl Z) (.inr Z)) Qf))) (λ_ _ _ _=>(qu G C.mo (qc (qv 0) (qc (qv 1) qb))))) qb))))))) qq)
   (qg (qA (QW.pt (Q0 (qy aB (qv 1) zk (qw _)) (QH (zn (qp za T.b_isinstance Jx (qc (qv 1) (qc (qW (v:= .ty "str") Z T.b_str Iq Z) qb))))))) (qh (qm (Qc (zz qR (qv 0) (qv 1) (qw _)) (Qx (zz qR (qp za T.b_isinstance Jx (qc (qv 0) (qc (qW (v:= .ty "str") Z T.b_str Iq Z) qb))) (qp za T.b_isinstance Jx (qc (qv 1) (qc (qW (v:= .ty "str") Z T.b_str Iq Z) qb))) (qw _)))))) qq)
   (qh (qm (Qc (qp za T.b_isinstance Jx (qc (qv 0) (qc (qW (v:= .ty "int") Z T.b_int Le Z) qb))) (Qc (gA (qp za T.b_isinstance Jx (qc (qv 0) (qc (qW (v:= .ty "bool") Z T.b_bool Mp Z) qb)))) (Qx (zz qR (qv 0) (qv 1) (qw _))))))))),?_]
   cases e with
   |int _ i=>
    refine#[_,Z,HU,λp g=>#[_,p,["list","tuple"],"int",Z,qa,.int i,by simp,_,Z,?_]]
    rw[show(["list","tuple"].any (zY "int"))=false from by decide]
    refine zt #[_,Z,Z,_,Z,?_]
    refine qK (λz=>nomatch (Jz z)) (λ_=>#[_,Z,_,"str","int",Z,.int i,by simp,_,Z,?_])
    rw[show zY "int" "str"=false from by decide]
    refine zt #[_,Z,_,"int","int",Z,.int i,by simp,_,Z,?_]
    rw[show zY "int" "int"=true from by decide]
    refine zR #[_,Z,_,"bool","int",Z,.int i,by simp,_,Z,?_]
    rw[show zY "int" "bool"=false from by decide]
    refine#[_,Z,zR #[_,Z,_,Z,Z,?_]]
    rw[Jf Z];exact q _ (MM.upd g)
   |str _ z=>
    refine#[_,Z,HU,λp g=>#[_,p,["list","tuple"],"str",Z,qa,.str z,by simp,_,Z,?_]]
    rw[show(["list","tuple"].any (zY "str"))=false from by decide]
    refine zt #[_,Z,Z,_,Z,?_]
    refine qK (λz=>nomatch (Jz z)) (λ_=>#[_,Z,_,"str","str",Z,.str z,by simp,_,Z,?_])
    rw[show zY "str" "str"=true from by decide]
    refine zR #[_,Z,_,Z,Z,_,Z,?_]
    refine qK (λ_=>?_) (λy=>absurd (Jf Z) y)
    refine#[_,Z,_,"str","str",Z,.str z,by simp,_,Z,_,"str","str",Z,.str z,by simp,Z,?_]
    rw[Jf Z];exact q _ (MM.upd g)
   |non _=>
    refine#[_,Z,HU,λp g=>#[_,p,["list","tuple"],"NoneType",Z,qa,.non,by simp,_,Z,?_]]
    rw[show(["list","tuple"].any (zY "NoneType"))=false from by decide]
    refine zt #[_,Z,Z,_,Z,?_]
    refine qK (λ_=>#[_,Z,_,Z,Z,_,Z,?_]) (λz=>absurd (Jf Z) z)
    refine qK (λ_=>?_) (λy=>absurd (Jf Z) y)
    refine#[_,Z,_,"str","NoneType",Z,.non,by simp,_,Z,_,"str","NoneType",Z,.non,by simp,Z,?_]
    rw[Jf Z];exact q _ (MM.upd g)
   | @tup _ c d xs ys h1 h2 hl hz hi=>
    refine#[_,Z,HU,λp g=>#[_,p,["list","tuple"],"tuple",Z,qa,.tup (Rd.same (MM.upd g) h2),by simp,_,Z,?_]]
    rw[show(["list","tuple"].any (zY "tuple"))=true from by decide]
    have r:MM H _:=MM.upd (o:= .tup (["list","tuple"].map V.ty)) g
    have k1:=Rd.same r h1;have k2:=Rd.same r h2;refine zR #[_,Z,_,"list","tuple",Z,.tup k1,by simp,_,Z,_,"list","tuple",Z,.tup k2,by simp,Z,_,Z,?_]
    refine fM Z #[_,Z,_,"tuple","tuple",Z,.tup k1,by simp,_,Z,_,"tuple","tuple",Z,.tup k2,by simp,Z,_,Z,?_]
    refine fM Z ?_
    refine#[_,Z,c,_,Z,.inr (.inl k1),_,Z,d,_,Z,.inr (.inl k2),Z,_,Z,?_]
    refine qK (λ_=>?_) (λz=>absurd (Jf (by rw[hl])) z)
    refine#[_,Z,_,Z,c,d,xs,ys,Z,k1,k2,nB (O:= .tup) hl hz (λi l m=>l=(List.replicate i true).map V.bl/\MM H m) #[Z,r] (λi l m ⟨_,j⟩=>#[Rd.same j h1,Rd.same j h2]) ?_ ?_]
    ·rintro i l m M x y J L B ⟨rfl,j⟩ u
     have D:=j.trans (MM.upd (o:= .tup [x,y]) u)
     refine#[_,Z,_,Z,x,y,Z,(hi i x y J L).same D,λN I=>#[?_,D.trans I]]
     rw[List.replicate_succ',JF];rfl
    ·rintro l m B ⟨rfl,j⟩ p2 t
     refine#[p2,_,Z,MV.of qa,?_]
     rw[show(List.replicate xs.length true).all id=true from by simp]
     exact q _ (j.trans (MM.upd t))
theorem sD(a:At K mg "_law_same" bK ["_law_found","_law_due_here"])(T:Na K mg tk)(n:Nat)(I:Df P w K mg base "_law_same" X0 (n+1) (vR n)):Df P w K mg base "_law_same" X0 (n+2) (ud n):=by
 refine a.dq cW λf _ A _ s H R Q E J h=>?_
 ·obtain⟨c,d,xs,ys,rfl,h1,r,B,F,hi,q⟩:=h
  refine#[_,(qg (qA (zn (qp gN T.b_isinstance Jx (qc (qv 1) (qc (qG (qc (qW (v:= .ty "list") Z T.b_list JY Z) (qc (qW (v:= .ty "tuple") Z T.b_tuple JD Z) qb))) qb)))) (qg (qA (QW.pt (Q0 (qy aZ (qp za T.b_isinstance Jx (qc (qv 0) (qc (qW (v:= .ty "list") Z T.b_list JY Z) qb))) (qp za T.b_isinstance Jx (qc (qv 1) (qc (qW (v:= .ty "list") Z T.b_list JY Z) qb))) (qw _)) (QH (qy aZ (qp za T.b_isinstance Jx (qc (qv 0) (qc (qW (v:= .ty "tuple") Z T.b_tuple JD Z) qb))) (qp za T.b_isinstance Jx (qc (qv 1) (qc (qW (v:= .ty "tuple") Z T.b_tuple JD Z) qb))) (qw _))))) (qh (qm QC)) qq)
   (qh (qm (Qc (zz qR (qp qS T.b_len JK (qc (qv 0) qb)) (qp qS T.b_len JK (qc (qv 1) qb)) (qw _)) (Qx (qp (Z5 Z) T.b_all Lv (qc (Qy (own:=["_law_one","_law_other"]) (fr:=[]) (js:=[]) Z (uu HQ Z T.b_zip (qc (qv 0) (qc (qv 1) qb))) Z (λ_ _ h=>nomatch h) Z (gY Z nofun nofun nofun) (λ_ _ _ _=>tZ (K:=K) Z 2 Z (qJ (qB (i:=0) (show List.Nodup (["_law_one","_law_other"]:Α)from by decide +kernel) Z (Or.inl Z) (.inr Z)) (qJ (qB (i:=1) (show List.Nodup (["_law_one","_law_other"]:Α)from by decide +kernel) Z (Or.inl Z) (.inr Z)) Qf))) (λ_ _ _ _=>(qu I J.mo (qc (qv 0) (qc (qv 1) qb))))) qb))))))) qq)
   (qg (qA (QW.pt (Q0 (qy aB (qv 1) zk (qw _)) (QH (zn (qp za T.b_isinstance Jx (qc (qv 1) (qc (qW (v:= .ty "str") Z T.b_str Iq Z) qb))))))) (qh (qm (Qc (zz qR (qv 0) (qv 1) (qw _)) (Qx (zz qR (qp za T.b_isinstance Jx (qc (qv 0) (qc (qW (v:= .ty "str") Z T.b_str Iq Z) qb))) (qp za T.b_isinstance Jx (qc (qv 1) (qc (qW (v:= .ty "str") Z T.b_str Iq Z) qb))) (qw _)))))) qq)
   (qh (qm (Qc (qp za T.b_isinstance Jx (qc (qv 0) (qc (qW (v:= .ty "int") Z T.b_int Le Z) qb))) (Qc (gA (qp za T.b_isinstance Jx (qc (qv 0) (qc (qW (v:= .ty "bool") Z T.b_bool Mp Z) qb)))) (Qx (zz qR (qv 0) (qv 1) (qw _))))))))),?_]
  refine#[_,Z,HU,λp C=>#[_,p,["list","tuple"],"list",Z,qa,.lst (MM.upd C _ _ r),by simp,_,Z,?_]]
  rw[show(["list","tuple"].any (zY "list"))=true from by decide]
  have t:MM H _:=MM.upd (o:= .tup (["list","tuple"].map V.ty)) C
  have k1:=t _ _ h1;have k2:=t _ _ r;refine zR #[_,Z,_,"list","list",Z,.lst k1,by simp,_,Z,_,"list","list",Z,.lst k2,by simp,Z,_,Z,?_]
  refine fM Z #[_,Z,_,"tuple","list",Z,.lst k1,by simp,_,Z,_,"tuple","list",Z,.lst k2,by simp,Z,_,Z,?_]
  refine fM Z ?_
  refine#[_,Z,c,_,Z,.inl (MV.of k1),_,Z,d,_,Z,.inl (MV.of k2),Z,_,Z,?_]
  refine qK (λ_=>?_) (λz=>absurd (Jf (by rw[B])) z)
  refine#[_,Z,_,Z,c,d,xs,ys,Z,.inl k1,.inl k2,nB (O:= .lst) B F (λi g j=>g=(List.replicate i true).map V.bl/\MM H j) #[Z,t] (λi g j ⟨_,e⟩=>#[.inl (e _ _ h1),.inl (e _ _ r)]) ?_ ?_]
  ·rintro i g j N x y L G m ⟨rfl,e⟩ u
   have D:=e.trans (MM.upd (o:= .tup [x,y]) u)
   refine#[_,Z,_,Z,x,y,Z,(hi i x y L G).same D,λS M=>#[?_,D.trans M]]
   rw[List.replicate_succ',JF];rfl
  ·rintro g j m ⟨rfl,e⟩ p2 l
   refine#[p2,_,Z,MV.of qa,?_]
   rw[show(List.replicate xs.length true).all id=true from by simp]
   exact q _ (e.trans (MM.upd l))
end
end Lw
namespace L3
open PySem PySem.Spec PyProof.Rows L2
theorem aI{t u:TS}{D:Nq}{σ:L2.St}{H:Hp}(h:∀D':Nq,(∀a H',u D a H'->D'.nx a H')->t D' σ H):gm t u D σ H:=h {D with nx:=u D} λ_ _ h=>h
end L3
namespace Lw
open PySem L2 L3
section
variable{P:Ξ}{w:Ω}{K:ι}{mg:MK}{base:Ψ}{tk:Nat->Tok}{C CB CD:Δ}
theorem pQ(a:At K mg "_law_shown" cS ["_law_house","_law_own_here"])(T:Na K mg tk)(U:OB K C)(UB:Of K CB)(L:NW K CD)(yI:Mf P w K mg base C "kept_now" y8 1 (uM K CB CD C))(xR:Mf P w K mg base C "button_now" W3 2 (nE K CB CD C))(yJ:Mf P w K mg base C "door_now" U0 4 (kC K CB CD C))(x8:Mf P w K mg base C "opened_by" U0 2 (oh K CB CD C))(dE:Mf P w K mg base CB "age_now" y8 1 (g9 K CB))(dB:Mf P w K mg base CB "count_now" y8 1 (aY K CB))(dU:Mf P w K mg base CB "cells_now" y8 1 (jG K CB))(dQ:Mf P w K mg base CD "known_now" y8 1 (jr K CD))(xZ:Mf P w K mg base CD "log_now" y8 1 (Ag K CD))(xG:Mf P w K mg base CD "closed_now" y8 1 (ny K CD))(xQ:Mf P w K mg base CD "keys_now" y8 1 (tY K CD))(zQ:∀n:Nat,n<=8->Df P w K mg base "_law_same" X0 (n+1) (vR n))(zB:Df P w K mg base "_law_same" X0 6 (ud 4)):Df P w K mg base "_law_shown" ["_law_house","_law_own_here"] 7 (nG K CB CD C):=by
 have dH:=zQ 3 ⋯
 refine a.dq Nm λf _ A _ s H vs Q E c h=>?_
 ·obtain⟨aH,aO,S,n,rfl,D,ok,n9,q⟩:=h
  refine#[_,(qg (qA (zW (zn (qu dH c.mo (qc (qM yI U.cl c.mo (qv 0)) (qc (qI qZ T.b_tuple JD (qc (qH c (qv 1) qj) qb)) qb))))) (qh (qm QC)) qq)
   (qg (ua (Qo JZ Z (rq (nj (qH c (qv 1) qj))) (bY Z (qJ (qB (i:=2) Nm.nd Z (Or.inl Z)) (qJ (qB (i:=3) Nm.nd Z (Or.inl Z)) Qf)))
   (qh (qA (zW (zn (qu dH c.mo (qc (zh xR U.cl c.mo (qv 0) (qc (qv 2) qb)) (qc (qG (qc (qM dE UB.cl c.mo (qv 3)) (qc (qM dB UB.cl c.mo (qv 3)) (qc (qM dU UB.cl c.mo (qv 3)) qb)))) qb))))) (qh (qm QC)) qq))))
   (qg (ua (Qo JZ Z (rq (nj (qH c (qv 1) qj))) (bY Z (qJ (qB (i:=2) Nm.nd Z (Or.inl Z)) (qJ (qB (i:=4) Nm.nd Z (Or.inl Z)) Qf)))
   (qg (qE (i:=5) Nm.nd Z (Or.inl Z) (zh yJ U.cl c.mo (qv 0) (qc (qv 2) qb)))
   (qg (qA (zW (zn (qu dH c.mo (qc (zh x8 U.cl c.mo (qv 0) (qc (qv 2) qb)) (qc (qI qZ T.b_tuple JD (qc (qH c (qH c (qv 1) qj) (qv 2)) qb)) qb))))) (qh (qm QC)) qq)
   (qg (qA (zW (zn (qu zB c.mo (qc (zd (qc (qM dQ L.cl c.mo (qv 5)) (qc (qM xZ L.cl c.mo (qv 5)) qb))) (qc (zd (qc (qM dQ L.cl c.mo (qv 4)) (qc (qM xZ L.cl c.mo (qv 4)) qb))) qb))))) (qh (qm QC)) qq)
   (qh (qA (QW.pt (Q0 (qy aZ (qM xG L.cl c.mo (qv 5)) (qM xG L.cl c.mo (qv 4)) (qw _)) (QH (qy (FM c) (qM xQ L.cl c.mo (qv 5)) (qM xQ L.cl c.mo (qv 4)) (qw _))))) (qh (qm QC)) qq)))))))
   (qh (qm QC))))),?_]
  have nk:=ok.nk;refine aI λD1 y1=>?_
  refine#[_,Z,aH.ma,Z,D.hh.no,aH,S,Z,D.hh,λq1 H1 s1 k1=>?_]
  have w1:=D.same s1;obtain⟨as,ek,lk,rk⟩:=id w1.oo.at_.kl;refine#[_,Z,aO.ma,_,Z,w1.oo.g_kept,aO.kl,_,Z,.inl #[MV.of ek,λq2 d0=>?_]]
  have u2:=MM.upd (o:= .tup (as.map V.ref)) d0
  have e3:RC (MO H1 q2 (.tup (as.map V.ref))) q1 S.kp:=by
   obtain⟨bs,e,l,r⟩:=k1
   exact#[bs,u2 _ _ e,l,λi a P h1 h2=>Nj.same u2 (r i a P h1 h2)]
  refine#[_,_,Z,e3.eqv #[as,qa,lk,λi a P h1 h2=>Nj.same u2 (rk i a P h1 h2)] ok.kp (by lia),λH3 s3=>#[_,Z,zt (y1 _ _ (aI λD2 y2=>?_))]]
  have S3:=(s1.trans u2).trans s3;have w3:=D.same S3;refine#[_,Z,aO.ma,_,Z,w3.oo.g_buttons,aO.bd,_,Z,Z,w3.oo.at_.bd,λpv a4=>#[pv,aO.bd,_,Z,qa,MM.upd a4 _ _ w3.oo.at_.bd,λo=>?_]]
  have M:=MM.upd (o:=pB pv aO.bd) a4
  have m:=w3.same M;generalize MO H3 pv (pB pv aO.bd)=v at M m⊢
  obtain⟨ow,N⟩:=m.oo.at_.ow;have mf:Mv [aO.bd] v (MO v aO.bd (.frz o (.dK (zw Og.nm (λx=> .ref x.p) aO.bs)))):=Mv.upd1
  have nf:NT [aO.bd] v:=NT.one m.oo.at_.bd trivial
  have hf:=m.hh.mv mf nf (λz F q=>m.dj z F (Jg.mp q▸kg))
  have bf:∀(i:Nat) (u:Og) (B:Bt),aO.bs[i]? =↑u->S.bs[i]? =↑B->OD K CB (MO v aO.bd (.frz o (.dK (zw Og.nm (λx=> .ref x.p) aO.bs)))) u B:=λi u B O hB=>(m.oo.at_.be i u B O hB).mv mf nf (zu (λz=>by have:=N.bp i u O;rw[z,N.bd]at this;cases this)) (zu (λz=>by have:=N.bc i u O;rw[z,N.bd]at this;cases this))
  refine nU (Pv:=λi σ Hx=>MM (MO v aO.bd (.frz o (.dK (zw Og.nm (λx=> .ref x.p) aO.bs)))) Hx/\∃o2 o3 o4 o5,σ=[↑(.ref aH.ma),↑(.ref aO.ma),o2,o3,o4,o5]) #[MM.refl _,_,_,_,_,Z] (λi σ Hx h=>h.1 _ _ qa) ?_ ?_
  ·rintro i kv pp σ Hx R ⟨J,o2,o3,o4,o5,rfl⟩ a2
   obtain⟨u,O,rfl⟩:=Gf R;have d5:i<S.bs.length:=by rw[<- D.oo.blen];exact(Jt.mp O).1
   have hB:=Jk d5;obtain⟨ta,ka,b⟩:=bf i u _ O hB;have G:qP S.bn u.nm=↑i:=rO ok.ub (by rw[<- D.oo.at_.bn,Jm,O];rfl)
   have up:=MM.upd (o:= .tup [V.str u.nm,.ref u.p]) a2
   have sp:=J.trans up;have I:=hf.same sp;have bx:=b.same sp;refine#[pp,_,Z,MW.of qa,Z,_,_,Z,_,_,Z,Z,?_]
   refine#[_,Z,aH.ma,Z,I.no,_,Z,aH,S,u.nm,i,_,Z,I,G,hB,λq5 c5 H5 s5 c0 e5=>?_]
   have b5:=bx.same s5;refine#[_,Z,u.p,Z,b5.no,u.p,ta,ka,u.ce,_,Z,b5,_,Z,u.p,Z,b5.no,u.p,ta,ka,u.ce,_,Z,b5,_,Z,u.p,Z,b5.no,u.p,ta,ka,u.ce,_,Z,b5,λc6 H6 s6 c2=>#[HV,λq6 f0=>?_]]
   have u6:=MM.upd (o:= .tup [.int S.bs[i].age,.int S.bs[i].cnt,.ref c6]) f0
   have S6:=s6.trans u6
   exact#[_,_,Z,Dv (S6 _ _ c0) (S6 _ _ e5) qa (u6 _ _ c2),λH7 s7=>#[_,Z,zt #[sp.trans (s5.trans (S6.trans s7)),_,_,_,_,Z]]]
  rintro σ Hx ⟨J,o2,o3,o4,o5,rfl⟩
  have ex:=J _ _ (qa (H:=v) (a:=aO.bd) (o:= .frz o (.dK (zw Og.nm (λx=> .ref x.p) aO.bs))))
  refine#[aO.bd,o,_,ex,λo' u' q=>by(have q:H aO.bd=↑(.frz o' u'):=q;rw[D.oo.at_.bd]at q;cases q),?_]
  have S5:MM H (MO Hx aO.bd (.dK (zw Og.nm (λx=> .ref x.p) aO.bs))):=nD D.oo.at_.bd (S3.trans M) J
  have w5:=D.same S5;generalize MO Hx aO.bd (.dK (zw Og.nm (λx=> .ref x.p) aO.bs))=H5 at S5 w5⊢
  clear hf bf mf nf J ex m M;refine y2 _ _ (aI λD3 y3=>?_)
  refine#[_,Z,aO.ma,_,Z,w5.oo.g_doors,aO.dd,_,Z,Z,w5.oo.at_.dd,λpw a5=>#[pw,aO.dd,_,Z,qa,MM.upd a5 _ _ w5.oo.at_.dd,λo'=>?_]]
  have M:=MM.upd (o:=pB pw aO.dd) a5
  have m:=w5.same M;generalize MO H5 pw (pB pw aO.dd)=v at M m⊢
  have mf:Mv [aO.dd] v (MO v aO.dd (.frz o' (.dK (zw NX.nm (λx=> .ref x.a.p) aO.ds)))):=Mv.upd1
  have nf:NT [aO.dd] v:=NT.one m.oo.at_.dd trivial
  have hf:=m.hh.mv mf nf (λz F q=>m.dj z F (Jg.mp q▸kN))
  have df:∀(i:Nat) (z:NX) (y:Dh),aO.ds[i]? =↑z->S.ds[i]? =↑y->Nk K CD (MO v aO.dd (.frz o' (.dK (zw NX.nm (λx=> .ref x.a.p) aO.ds)))) z.a y.D y.L/\mL (MO v aO.dd (.frz o' (.dK (zw NX.nm (λx=> .ref x.a.p) aO.ds)))) z.ol y.op:=λi z y F hy=>by
   obtain⟨d,p⟩:=m.oo.at_.de i z y F hy;have nd:∀t∈dS z.a,t∉[aO.dd]:=λt ht q=>by have:=N.dr i z F t ht;rw[Jg.mp q,N.dd]at this;cases this
   exact#[d.mv mf nf (nd _ (jm _)) (nd _ (kX _)) (nd _ (j7 _)) (nd _ (ft _)),mf _ _ (zu (λt=>by have:=N.ol i z F;rw[t,N.dd]at this;cases this)) p]
  have qf:(MO v aO.dd (.frz o' (.dK (zw NX.nm (λx=> .ref x.a.p) aO.ds)))) aO.ma=↑(.dK (bB aO S.least)):=by rw[qk m.oo.mne];exact m.oo.mn
  have of:(MO v aO.dd (.frz o' (.dK (zw NX.nm (λx=> .ref x.a.p) aO.ds)))) aO.od=↑(.dK (zw NX.nm (λx=> .ref x.ol) aO.ds)):=by rw[qk m.oo.dne.symm];exact m.oo.at_.od
  refine nU (Pv:=λi σ Hx=>MM (MO v aO.dd (.frz o' (.dK (zw NX.nm (λx=> .ref x.a.p) aO.ds)))) Hx/\∃o2 o3 o4 o5,σ=[↑(.ref aH.ma),↑(.ref aO.ma),o2,o3,o4,o5]) #[MM.refl _,_,_,_,_,Z] (λi σ Hx h=>h.1 _ _ qa) ?_ ?_
  ·rintro i kv pp σ Hx R ⟨J,o2,o3,o4,o5,rfl⟩ a2
   obtain⟨z,F,rfl⟩:=Gq R;have d2:i<S.ds.length:=by rw[<- D.oo.dlen];exact(Jt.mp F).1
   have hy:=Jk d2;obtain⟨dl,op⟩:=df i z _ F hy;have hd:=ok.dr _ (Jp hy);have G:qP S.dn z.nm=↑i:=rO ok.un (by rw[<- D.oo.at_.dn,Jm,F];rfl)
   have up:=MM.upd (o:= .tup [V.str z.nm,.ref z.a.p]) a2
   have sp:=J.trans up;refine#[pp,_,Z,MW.of qa,Z,_,_,Z,_,_,Z,Z,aI λD4 y4=>?_]
   have I:=hf.same sp;refine#[_,Z,aH.ma,Z,I.no,_,Z,aH,S,n,z.nm,i,_,Z,I,ok,G,hy,λda H6 s6 d6=>y4 _ _ (aI λD5 y5=>?_)]
   have a1:=sp.trans s6;have b0:=hf.same a1;refine#[_,Z,aH.ma,Z,b0.no,_,Z,aH,S,z.nm,i,_,Z,b0,G,hy,λq7 H7 s7 e6=>?_]
   have W:=a1.trans s7;have g7:Nd H7 aO.od (.str z.nm) ↑(.ref z.ol):=by
    rcases iD (W _ _ of) z.nm with⟨e,_⟩|⟨i',x',e,a3,_,g⟩
    ·exact absurd (Jy.mpr #[z,Jp F,Z]) (Zl e)
    ·have e':qP S.dn z.nm=↑i':=by rw[<- D.oo.at_.dn];exact e
     rw[G]at e';cases e'
     rw[F]at a3;cases a3
     exact g
   refine#[_,Z,aO.ma,_,Z,vP (q:= .inr "opened") (W _ _ qf) 6 Z,_,Z,aO.od,_,Z,g7,z.ol,_,Z,.inl #[MV.of (W _ _ op),λq8 c1=>?_]]
   have u8:=MM.upd (o:= .tup (S.ds[i].op.map λn:Nat=>V.int (n:Int))) c1
   have lo:=hd.lo;have ll:=hd.ll;refine#[_,_,Z,(Ch (n:=2) (u8 _ _ e6) qa (by lia)),λH9 s9=>#[_,Z,zt (y5 _ _ (aI λD6 y6=>?_))]]
   have S9:=s7.trans (u8.trans s9);have b1:=a1.trans S9;have d9:=d6.same S9;have e9:=dl.same b1;have kl:=hd.ok.nl;refine#[_,Z,da.p,Z,d9.dr.no,da.p,da.ta,da.hk,da.bd,da.lg,_,_,Z,d9.dr,hd.ok,λk1 e0 Ha sa X c3 d3=>?_]
   have b2:=d9.same sa;refine#[_,Z,da.p,Z,b2.dr.no,da,_,_,Z,b2,λl1 Hb sb d7=>#[HU,λx1 e8=>?_]]
   have Y:=MM.upd (o:= .lst [.ref k1,.ref l1]) e8
   have Sb:=sa.trans (sb.trans Y);have eb:=e9.same Sb;refine#[_,Z,z.a.p,Z,eb.dr.no,z.a.p,z.a.ta,z.a.hk,z.a.bd,z.a.lg,_,_,Z,eb.dr,hd.ok,λk2 e2 Hc sc b7 d8 f1=>?_]
   have ec:=eb.same sc;refine#[_,Z,z.a.p,Z,ec.dr.no,z.a,_,_,Z,ec,λl2 Hd sd d1=>#[HU,λx2 d4=>?_]]
   have a0:=MM.upd (o:= .lst [.ref k2,.ref l2]) d4
   obtain rfl:e0=e2:=sT X c3 b7 d8
   have Sd:=sc.trans (sd.trans a0);refine#[x1,x2,_,_,Z,Sd _ _ qa,qa,Z,HU,λj x y ex ey=>?_,λHe se=>#[_,Z,zt (y6 _ _ ?_)]]
   ·match j,ex,ey with
    |0,ex,ey=>cases ex;cases ey;exact(Am ((d3.same (sb.trans Y)).same Sd) (f1.same (sd.trans a0)) (λnm h=>X.mem_iff.mp h) (by rw[X.length_eq,Jb];exact kl)).up
    |1,ex,ey=>cases ex;cases ey;exact(d7.same (Y.trans Sd)).eqv (d1.same a0) (by lia)
    |j+2,ex,ey=>cases ex
   have Se:=Sb.trans (Sd.trans se);have de:=d9.same Se;have ee:=e9.same Se;refine#[_,Z,da.p,Z,de.dr.no,da.p,da.ta,da.hk,da.bd,da.lg,_,_,Z,de.dr,_,Z,z.a.p,Z,ee.dr.no,z.a.p,z.a.ta,z.a.hk,z.a.bd,z.a.lg,_,_,Z,ee.dr,Z,_,Z,Qd (by rw[Jf Z];rfl) ?_]
   refine#[_,Z,da.p,Z,de.dr.no,da.p,da.ta,da.hk,da.bd,da.lg,_,_,Z,de.dr,λt1 f2 Hg sg c4 b4 b3=>?_]
   have eg:=ee.same sg;refine#[_,Z,z.a.p,Z,eg.dr.no,z.a.p,z.a.ta,z.a.hk,z.a.bd,z.a.lg,_,_,Z,eg.dr,λt2 f3 Hi si e1 e4 b6=>?_]
   refine#[2,⋯,BY (MM.sqt si c4) b4 (λi a ks h1 h2=>MM.sqt si (b3 i a ks h1 h2)) e1 e4 b6,_,Z,zt #[b1.trans (Se.trans (sg.trans si)),_,_,_,_,Z]]
  rintro σ Hx ⟨J,o2,o3,o4,o5,rfl⟩
  have ex:=J _ _ (qa (H:=v) (a:=aO.dd) (o:= .frz o' (.dK (zw NX.nm (λx=> .ref x.a.p) aO.ds))))
  refine#[aO.dd,o',_,ex,λo' u' q=>by(have q:H aO.dd=↑(.frz o' u'):=q;rw[D.oo.at_.dd]at q;cases q),?_]
  exact y3 _ _ (q _ (nD D.oo.at_.dd (S5.trans M) J))
end
section
variable{P:Ξ}{w:Ω}{K:ι}{mg:MK}{base:Ψ}{tk:Nat->Tok}{CB CD:Δ}
theorem jw(a:At K mg "_law_some_name" aA ["_law_box_here","_law_some","_law_other"])(T:Na K mg tk)(J:Df P w K mg base "_law_take" u0 1 Z6):Df P w K mg base "_law_some_name" W9 2 rf:=by
 refine a.dq jF λf _ A _ s H vs Q E C h=>?_
 ·obtain⟨b,l,u,o,c,rfl,R,Y,O,U,G,q⟩:=h
  refine#[_,(qg (qA (QW.pt (Q0 (qy (Ew C) (qv 1) (zd qb) (qw _)) (QH (qy qR (qu J C.mo (qc (qv 0) (qc qi qb))) qi (qw _))))) (qh (qm (qv 2))) qq)
   (qh (qm (qD qO (qp sv T.b_sorted PyProof.Rows.boot_sorted (qc (qv 1) qb)) (qu J C.mo (qc (qv 0) (qc (qp qS T.b_len JK (qc (qv 1) qb)) qb))))))),?_]
  refine#[_,Z,HR,λp z=>?_]
  have y:=MM.upd (o:= .lst []) z
  have g:=y.grc R;have L:(MO H p (.lst [])) p=↑(.lst []):=qa
  have e:=y _ _ O;generalize MO H p (.lst [])=H0 at y g L e⊢
  refine#[l,p,_,Z,Z,MV.of e,MV.of L,?_]
  cases u with
  |nil=>exact#[_,Z,Ql Z (Ql Z #[_,Z,q o H0 (g.mono (by lia))])]
  |cons s1 u=>
   refine#[_,Z,Qd Z ?_]
   refine#[_,Z,b,14,c,Z,g.bx,by lia,⋯,⋯,λr H1 X r1 t=>#[Z,_,Z,qK (λ_=>?_) (λ_=>?_)]]
   ·exact#[_,Z,q o H1 ((g.trans t).mono (by lia))]
   have j:=t.kp _ _ U e;refine#[_,Z,l,s1::u,Z,j,G,λn d m pm _=>?_]
   have B:=MM.upd (o:= .lst (d.map V.str)) m
   have F:=(g.trans t).same B;have n2:n≠b:=ze t.bx m
   have M:(MO H1 n (.lst (d.map V.str))) n=↑(.lst (d.map V.str)):=qa
   have i:=B _ _ j;generalize MO H1 n (.lst (d.map V.str))=H2 at B F M i⊢
   have W:=pm.length_eq;refine#[_,Z,_,Z,l,_,Z,.inl (MV.of i),b,_,c+1,Z,F.bx,by lia,by rw[Jb,J7];lia,by rw[Jb];lia,λr3 H3 D v I=>?_]
   obtain⟨x,S,N⟩:=Zr (xs:=d.map V.str) D (by rw[Jb]at v⊢;lia)
   obtain⟨nm,_,rfl⟩:=Jy.mp N
   exact#[n,_,_,_,Z,Z,MV.of (I.kp _ _ n2 M),S,q nm H3 (F.trans I)]
theorem jQ(a:At K mg "_law_new_name" aR ["_law_box_here","_law_word"])(T:Na K mg tk)(J:Df P w K mg base "_law_take" u0 1 Z6):Df P w K mg base "_law_new_name" ["_law_box_here","_law_word"] 2 uN:=by
 refine a.dq ND λf _ A _ s H W Q E L h=>?_
 ·obtain⟨b,j,c,rfl,n,U,q⟩:=h
  refine#[_,(qg (qE (i:=2) ND.nd Z (Or.inl Z) (zd (qc qj (qc qj (qc qj (qc qj (qc qj (qc qj (qc qj (qc qj (qc qj (qc qj (qc qj (qc qj qb))))))))))))))
   (qg (qA (qy qR (qv 1) qj (qw _)) (qh (qE (i:=2) ND.nd Z (Or.inl Z) (zd (qc qj (qc qj (qc qj (qc qj (qc qj (qc qj (qc qj (qc qj (qc qj (qc qj (qc qj (qc qj qb))))))))))))))) qq)
   (qh (qm (qD qO (qv 2) (qu J L.mo (qc (qv 0) (qc qi qb)))))))),?_]
  refine#[MH,λp y=>?_]
  refine v7 ?_
  refine iJ (λm H'=>∃(l:Δ) (d:Α),Oj b c H H'/\d.length=12/\(∀z∈d,Zq z)/\H' l=↑(.lst (d.map V.str))/\l≠b/\m=[↑(.ref b),↑(.str j),↑(.ref l)]) (λD' C g=>?_) ?_
  ·have u:=MM.upd (o:= .lst ((["a","b","ab","ba","button","buttona","zzzzzzzz","key","c","d","e","f"]:Α).map V.str)) y
   refine#[_,Z,Z,_,Z,qK (λ_=>?_) (λ_=>?_)]
   ·refine#[MH,λp2 e=>g _ _ ?_]
    exact#[p2,["a","gate","gates","back","barn","buttonaa","dd","d","shed","attic","cellar","garage"],(u.grc n).same (MM.upd e),Z,rT nofun,qa,ze (u.grc n).bx e,Z]
   ·exact g _ _ #[p,["a","b","ab","ba","button","buttona","zzzzzzzz","key","c","d","e","f"],u.grc n,Z,rT nofun,qa,ze n y,Z]
  rintro m H1 ⟨l,d,v,D,N,I,R,rfl⟩
  refine#[_,Z,_,Z,b,12,c,Z,v.bx,by lia,⋯,⋯,λr S G O B=>?_]
  obtain⟨x,M,F⟩:=Zr (xs:=d.map V.str) G (by rw[Jb,D];exact O)
  obtain⟨nm,t,rfl⟩:=Jy.mp F
  exact#[l,_,_,_,Z,Z,MV.of (B.kp _ _ R I),M,q nm S (v.trans B) (N nm t)]
theorem sZ(a:At K mg "_law_deed" e7 ["_law_box_here","_law_own_here","_law_words"])(T:Na K mg tk)(C:Df P w K mg base "_law_take" u0 1 Z6)(xF:Df P w K mg base "_law_some_name" W9 2 rf)(xX:Df P w K mg base "_law_new_name" ["_law_box_here","_law_word"] 2 uN)(yQ:Df P w K mg base "_law_key" V0 2 sf):Df P w K mg base "_law_deed" X3 3 (lA K CB CD Qh):=by
 refine a.dq Np λf _ A _ s H vs Q E g h=>?_
 ·obtain⟨b,wl,L,S,m,c,us,rfl,N,hc,nb,ho,hm,m6,hw,nw,w1,f5,e0,q⟩:=h
  refine#[_,(qg (qE (i:=3) Np.nd rfl (Or.inl rfl) (qD qO (qv 2) (qu C g.mo (qc (qv 0) (qc (qp qS T.b_len JK (qc (qv 2) qb)) qb)))))
   (qg (qE (i:=4) Np.nd rfl (Or.inl rfl) (qu xF g.mo (qc (qv 0) (qc (qI (fK rfl) T.b_list JY (qc (qH g (qv 1) qj) qb)) (qc qj qb)))))
   (qg (qE (i:=5) Np.nd rfl (Or.inl rfl) (qu xF g.mo (qc (qv 0) (qc (qI (fK rfl) T.b_list JY (qc (qH g (qv 1) qj) qb)) (qc qj qb)))))
   (qg (qA (qy qR (qv 3) qj (qw _)) (qg (qE (i:=6) Np.nd rfl (Or.inl rfl) (qD qO (zd (qc qi (qc qi (qc qi (qc qi qb))))) (qu C g.mo (qc (qv 0) (qc qi qb)))))
   (qh (qm (qG (qc (qv 3) (qc (qu xX g.mo (qc (qv 0) (qc (qv 3) qb))) (qc (qv 6) (qc (qC zo (qv 6) (qD qO (zd (qc qi (qc qi (qc qi (qc qi qb))))) (qu C g.mo (qc (qv 0) (qc qi qb))))) (qc (qC zo qi (qu C g.mo (qc (qv 0) (qc qi qb)))) qb))))))))) qq)
   (qg (qA (qy qR (qv 3) qj (qw _)) (qh (qm (qG (qc (qv 3) (qc (qu xX g.mo (qc (qv 0) (qc (qv 3) qb))) (qc (qD qO (zd (qc qi (qc qi (qc qi (qc qi (qc qi qb)))))) (qu C g.mo (qc (qv 0) (qc qi qb)))) qb)))))) qq)
   (qg (qA (qy bg (qv 3) (qG (qc qj (qc qj qb))) (by rfl)) (qh (qm (qG (qc (qv 3) (qc (qv 4) (qc (qv 5) qb)))))) qq)
   (qg (qA (qy qR (qv 3) qj (qw _)) (qg (tJ (i:=7) Np.nd rfl (Or.inl rfl) (own:=["_law_k"]) (fr:=["_law_own_here","_law_box_here"]) (js:=[1,0]) rfl (Q9 rfl T.b_range (qc (qu C g.mo (qc (qv 0) (qc qi qb))) qb)) rfl (uY rfl rfl) rfl (vt rfl nofun nofun nofun rfl rfl rfl rfl rfl rfl) (λ_ _ _ _=>qB (i:=0) (show List.Nodup (["_law_k","_law_own_here","_law_box_here"]:Α)from by decide +kernel) rfl (Or.inl rfl) (.inr rfl)) (λ_ _ _ _=>(qu xF g.mo (qc (qv 2) (qc (qI (fK rfl) T.b_list JY (qc (qH g (qv 1) qj) qb)) (qc qj qb))))))
   (qh (qm (qG (qc (qv 3) (qc (qv 5) (qc (qu C g.mo (qc (qv 0) (qc qi qb))) (qc (qD qO (zd (qc (qv 7) (qc (qI qZ T.b_tuple JD (qc (qv 7) qb)) qb))) (qu C g.mo (qc (qv 0) (qc qi qb)))) qb)))))))) qq)
   (qg (qA (qy qR (qv 3) qj (qw _)) (qh (qm (qG (qc (qv 3) (qc (qC QM (qu C g.mo (qc (qv 0) (qc (qC zo (qp qS T.b_len JK (qc (qH g (qv 1) qj) qb)) qi) qb))) (qI gD T.b_int Le (qc (zz qR (qu C g.mo (qc (qv 0) (qc qi qb))) qi (qw _)) qb))) (qc (qv 4) qb)))))) qq)
   (qg (qA (qy qR (qv 3) qj (qw _)) zS qq)
   (qg (qA (qy qR (qv 3) qj (qw _)) zS qq)
   (qh (qm (qG (qc (qv 3) (qc (qv 5) qb))))))))))))))),?_]
  refine aI λD1 z1=>?_
  refine#[_,rfl,_,rfl,_,rfl,wl,_,rfl,.inl (MV.of hw),b,_,c,rfl,N,by lia,by rw[Jb];lia,by rw[Jb];lia,λr H1 r0 r1 g1=>?_]
  obtain⟨x,hx,d1⟩:=Zr (xs:=us.map V.str) r0 r1
  obtain⟨u,d,rfl⟩:=Jy.mp d1;refine#[wl,_,_,_,rfl,rfl,MV.of (g1.kp _ _ nw hw),hx,z1 _ _ (aI λD2 z2=>?_)]
  have o1:=ho.grc N nb g1;obtain⟨md,mb,m6⟩:=m6;have f2:S.dn.length<64:=by unfold Hs.dn;rw[Jb];exact md
  have f4:S.bn.length<64:=by unfold Hs.bn;rw[Jb];exact mb
  refine#[_,rfl,_,rfl,L.ma,_,rfl,o1.g_doors,L.dd,_,S.dn,rfl,o1.at_.dd,by rw[cu,o1.at_.dn],by lia,λl1 b2=>?_]
  have u1:=MM.upd (o:= .lst (S.dn.map V.str)) b2
  have a5:=g1.same u1;refine#[b,l1,S.dn,_,c+1,rfl,a5.bx,by lia,qa,ze g1.bx b2,by lia,λdn H2 g2=>z2 _ _ (aI λD3 z3=>?_)]
  have G2:=a5.trans g2;have o2:=ho.grc N nb G2;refine#[_,rfl,_,rfl,L.ma,_,rfl,o2.g_buttons,L.bd,_,S.bn,rfl,o2.at_.bd,by rw[cu,o2.at_.bn],by lia,λl2 b1=>?_]
  have u2:=MM.upd (o:= .lst (S.bn.map V.str)) b1
  have a2:=G2.same u2;refine#[b,l2,S.bn,_,c+1+2,rfl,a2.bx,by lia,qa,ze G2.bx b1,by lia,λbn H3 g3=>z3 _ _ ?_]
  have G3:=a2.trans g3;have o3:=ho.grc N nb G3;have Y:=e0 u d;refine#[_,rfl,rfl,_,rfl,qK (λy=>?_) (λy1=>?_)]
  ·obtain rfl:=aj y
   refine#[HW,λl4 c0=>?_]
   have u4:=MM.upd (o:= .lst [.int 1,.int 2,.int 3,.int 64]) c0
   have b5:=G3.same u4;refine#[_,rfl,b,4,c+1+2+2,rfl,b5.bx,by lia,⋯,⋯,λr4 H4 e6 e4 g4=>?_]
   have p:=b5.trans g4;obtain⟨x4,d3,a4⟩:=Zr (xs:=[V.int 1,.int 2,.int 3,.int 64]) e6 e4
   obtain⟨M,rfl⟩:∃z:Int,x4= .int z:=by
    simp only[Ji,Jr,Js]at a4;rcases a4 with rfl|rfl|rfl|rfl<;>exact#[_,rfl]
   refine#[l4,_,_,_,rfl,rfl,MV.of (g4.kp _ _ (ze G3.bx c0) qa),d3,?_]
   refine#[_,rfl,_,rfl,_,rfl,b,"add_door",_,rfl,p.bx,by lia,λnm H5 g5 hn=>?_]
   have t:=p.trans g5;refine#[_,rfl,_,rfl,HW,λl6 j=>?_]
   have u6:=MM.upd (o:= .lst [.int 0,.int 1,.int 2,.int 20]) j
   have a1:=t.same u6;refine#[_,rfl,b,4,_,rfl,a1.bx,by lia,⋯,⋯,λr6 H6 J I g6=>?_]
   have G6:=a1.trans g6;obtain⟨x6,W,B⟩:=Zr (xs:=[V.int 0,.int 1,.int 2,.int 20]) J I
   obtain⟨c1,rfl⟩:∃z:Int,x6= .int z:=by
    simp only[Ji,Jr,Js]at B;rcases B with rfl|rfl|rfl|rfl<;>exact#[_,rfl]
   refine#[l6,_,_,_,rfl,rfl,MV.of (g6.kp _ _ (ze t.bx j) qa),W,_,_,rfl,rfl,?_]
   refine#[_,rfl,b,4,_,rfl,G6.bx,by lia,⋯,⋯,λr7 H7 f0 f1 g7=>#[_,_,rfl,rfl,HX,λlt e=>?_]]
   exact q lt (.addD nm M (M+c1) (1+r7)) _ (((G6.trans g7).same (MM.upd e)).mono (by lia)) (λ_ _=>qa) #[by show 0<=1+r7/\1+r7<=12;lia] trivial d
  refine#[_,rfl,rfl,_,rfl,qK (λy=>?_) (λy2=>?_)]
  ·obtain rfl:=aj y
   refine#[_,rfl,_,rfl,_,rfl,b,"add_button",_,rfl,G3.bx,by lia,λnm H4 g4 hn=>?_]
   have p:=G3.trans g4;refine#[HX,λl6 j=>?_]
   have u6:=MM.upd (o:= .lst [.int 1,.int 2,.int 3,.int 4,.int 64]) j
   have c3:=p.same u6;refine#[_,rfl,b,5,_,rfl,c3.bx,by lia,⋯,⋯,λr6 H6 J I g6=>?_]
   have G6:=c3.trans g6;obtain⟨x6,W,B⟩:=Zr (xs:=[V.int 1,.int 2,.int 3,.int 4,.int 64]) J I
   obtain⟨step,rfl,s1⟩:∃z:Int,x6= .int z/\1<=z:=by
    simp only[Ji,Jr,Js]at B;rcases B with rfl|rfl|rfl|rfl|rfl<;>exact#[_,rfl,⋯]
   refine#[l6,_,_,_,rfl,rfl,MV.of (g6.kp _ _ (ze p.bx j) qa),W,HV,λlt e=>?_]
   exact q lt (.addB nm step) _ ((G6.same (MM.upd e)).mono (by lia)) (λ_ _=>qa) #[#[s1,hn]] trivial d
  refine#[_,rfl,HU,λt1 d6=>#[t1,_,rfl,.inr (MW.of qa),rfl,rfl,_,rfl,?_]]
  have p:=G3.same (MM.upd (o:= .tup [.str "teach",.str "forget_at"]) d6)
  have o4:=ho.grc N nb p;generalize MO H3 t1 (.tup [.str "teach",.str "forget_at"])=H4 at p o4⊢
  have U:=Y;simp only[Qh,Ji,Jr,Js]at U;refine qK (λy=>?_) (λy3=>?_)
  ·refine#[_,rfl,_,rfl,_,rfl,HV,λlt e=>?_]
   have t:=(p.same (MM.upd (o:= .tup [.str u,.str dn,.str bn]) e)).mono (show _<=c+20 by lia)
   rcases U with rfl|rfl|rfl|rfl|rfl|rfl|rfl
   all_goals first
    |exact absurd y nofun
    |exact q lt (.teach dn bn) _ t (λ_ _=>qa) ⟨trivial⟩ trivial d
    |exact q lt (.forget dn bn) _ t (λ_ _=>qa) ⟨trivial⟩ trivial d
  refine⟨_,rfl,rfl,_,rfl,qK (λy=>?_) (λy4=>?_)⟩
  ·obtain rfl:=aj y
   refine⟨_,rfl,b,4,_,rfl,p.bx,by lia,⋯,⋯,λF H5 e5 a3 g5=>⟨_,rfl,by lia,by lia,?_⟩⟩
   have t:=p.trans g5;obtain⟨nn,en,n4⟩:∃nn:Nat,F.toNat=nn/\nn<4:=⟨_,rfl,by lia⟩
   rw[en];refine lq (n:=nn) (by rw[Jn];lia) (λi ys Hx=>Oj b (c+6+2*i) H Hx/\∃l:Α,ys=l.map V.str/\l.length=i) ⟨t.mono (by lia),[],rfl,rfl⟩ ?_ ?_
   ·rintro i ys Hx hi d7 ⟨Gx,l,rfl,lz⟩
    have ox:=ho.grc N nb Gx;refine⟨_,rfl,_,rfl,L.ma,_,rfl,ox.g_doors,L.dd,_,S.dn,rfl,ox.at_.dd,by rw[cu,ox.at_.dn],by lia,λl6 j=>?_⟩
    have u6:=MM.upd (o:= .lst (S.dn.map V.str)) j
    have b7:=Gx.same u6;refine⟨b,l6,S.dn,_,c+6+2*i,rfl,b7.bx,by lia,qa,ze Gx.bx j,by lia,λnm H7 g7=>?_⟩
    exact⟨(b7.trans g7).mono (by lia),l++[nm],by simp,by simp [lz]⟩
   rintro ys Hx d7 ⟨Gx,l,rfl,lz⟩ v R
   have ul:=MM.upd (o:= .lst (l.map V.str)) R
   have Gl:=Gx.same ul;have b4:v≠b:=ze Gx.bx R
   have e3:H v=none:=Gx.fresh (N.mono (by lia)) R
   have c2:(MO Hx v (.lst (l.map V.str))) v=↑(.lst (l.map V.str)):=qa
   generalize MO Hx v (.lst (l.map V.str))=Hl at ul Gl c2⊢
   refine⟨_,rfl,_,rfl,_,rfl,b,16,_,rfl,Gl.bx,by lia,⋯,⋯,λr8 H8 d9 f3 g8=>?_⟩
   have G8:=Gl.trans g8;have d0:=g8.kp _ _ b4 c2;refine⟨_,rfl,_,rfl,v,_,rfl,.inl ⟨MV.of d0,λD X=>⟨HU,λl9 c5=>?_⟩⟩⟩
   have u9:=MM.upd (o:= .tup (l.map V.str)) X
   have a0:=MM.upd (o:= .lst [.ref v,.ref D]) c5
   have G9:=(G8.same u9).same a0;have d2:H D=none:=G8.fresh (N.mono (by lia)) X
   have e2:D≠b:=ze G8.bx X
   have e8:l9≠b:=ze (G8.same u9).bx c5
   have c6:=a0 _ _ (qa (H:=H8) (a:=D) (o:= .tup (l.map V.str)))
   have b0:=a0 _ _ (u9 _ _ d0);have e9:(MO (MO H8 D (.tup (l.map V.str))) l9 (.lst [.ref v,.ref D])) l9=↑(.lst [.ref v,.ref D]):=qa
   generalize MO (MO H8 D (.tup (l.map V.str))) l9 (.lst [.ref v,.ref D])=H9 at G9 c6 b0 e9⊢
   refine⟨_,rfl,b,2,_,rfl,G9.bx,by lia,⋯,⋯,λf6 d8 c4 b6 G=>?_⟩
   obtain⟨d4,b3,O⟩:=Zr (xs:=[V.ref v,.ref D]) c4 b6
   obtain⟨pd,rfl,e1,d5⟩:∃pd,d4= .ref pd/\H pd=none/\Sq [] d8 pd (l.map V.str):=by
    simp only[Ji,Jr,Js]at O;rcases O with rfl|rfl
    ·exact⟨_,rfl,e3,.inl (MV.of (G.kp _ _ b4 b0))⟩
    ·exact⟨_,rfl,d2,.inr (MW.of (G.kp _ _ e2 c6))⟩
   refine⟨l9,_,_,_,rfl,rfl,MV.of (G.kp _ _ e8 e9),b3,HW,λlt e=>?_⟩
   have ut:=MM.upd (o:= .tup [.str "press_button",.str bn,.int r8,.ref pd]) e
   exact q lt (.press bn r8 l) _ (((G9.trans G).same ut).mono (by lia)) (λZ hZ=>⟨pd,qa,eG d5 ut.mv i9 (λh=>nomatch h),λz=>hZ pd z e1⟩) ⟨⟨d9,by lia⟩,by show l.length<=5;lia⟩ trivial d
  refine⟨_,rfl,rfl,_,rfl,qK (λy=>?_) (λy5=>?_)⟩
  ·obtain rfl:=aj y
   obtain⟨as,ek,lk,_⟩:=id o4.at_.kl;have nk:=hm.ok.nk;refine⟨_,rfl,_,rfl,_,rfl,L.ma,_,rfl,o4.g_kept,L.kl,_,rfl,.inl (MV.of ek),_,_,rfl,rfl,b,_,_,rfl,p.bx,by lia,by lia,by rw[Jb,lk];lia,λF H5 e5 a3 g5=>?_⟩
   have t:=p.trans g5;rw[Jb,lk]at a3;refine⟨_,rfl,b,20,_,rfl,t.bx,by lia,⋯,⋯,λr6 H6 J I g6=>⟨rfl,.inr ⟨_,rfl,?_⟩⟩⟩
   have G6:=t.trans g6;generalize decide (V.int r6=V.int 0)=gg
   refine⟨_,_,rfl,rfl,_,rfl,HV,λlt e=>?_⟩
   refine q lt (.play (F-if gg=true then 1 else 0) dn) _ ((G6.same (MM.upd e)).mono (by lia)) (λ_ _=>qa) ⟨trivial⟩ ?_ d
   show -10000000<(F-if gg=true then 1 else 0)/\(F-if gg=true then 1 else 0)<10000000
   cases gg
   ·show -10000000<F-0/\F-0<10000000;lia
   ·show -10000000<F-1/\F-1<10000000;lia
  refine⟨_,rfl,rfl,_,rfl,qK (λy=>?_) (λy6=>?_)⟩
  ·obtain rfl:=aj y
   exact absurd Y (show¬("turn_house":Str)∈Qh by decide +kernel)
  refine⟨_,rfl,rfl,_,rfl,qK (λy=>?_) (λy7=>?_)⟩
  ·obtain rfl:=aj y
   exact absurd Y (show¬("close_ages":Str)∈Qh by decide +kernel)
  refine⟨_,rfl,_,rfl,HU,λlt e=>?_⟩
  have t:=(p.same (MM.upd (o:= .tup [.str u,.str bn]) e)).mono (show _<=c+20 by lia)
  rcases U with rfl|rfl|rfl|rfl|rfl|rfl|rfl
  all_goals first
   |exact q lt (.lose bn) _ t (λ_ _=>qa) ⟨trivial⟩ trivial d
   |exact q lt (.tear bn) _ t (λ_ _=>qa) ⟨trivial⟩ trivial d
   |exact q lt (.turnB bn) _ t (λ_ _=>qa) ⟨trivial⟩ trivial d
   |exact(y1 (Jf rfl)).elim
   |exact(y2 (Jf rfl)).elim
   |exact(y3 nofun).elim
   |exact(y4 (Jf rfl)).elim
   |exact(y5 (Jf rfl)).elim
   |exact(y6 (Jf rfl)).elim
   |exact(y7 (Jf rfl)).elim
end
section
variable{P:Ξ}{w:Ω}{K:ι}{mg:MK}{base:Ψ}{tk:Nat->Tok}{fI:Δ}{x:Xa}
theorem gv(a:Nz K x.b "__init__" "BadPress.__init__" ZF ["self","place"])(T:Na K mg tk)(c:OE K mg x fI)(hi:W.findIn K (.ref x.b) "__init__"=↑(↑(.ref fI))):Xi P w K mg base x.b "BadPress" (.ref x.e::Qj) Qj "ValueError.__new__" V7 2 (eN x.b "place"):=by
 have M:Mf P w K mg base x.b "__init__" V7 2 (eN x.b "place"):=by
  refine a.mq gV λf _ A _ s H l Q E o h=>?_
  ·obtain⟨e,n,rfl,j,g,q⟩:=h
   refine#[_,(qg (zb (tE Ii Z c.g_CodeError c.bi c.bp.f.bi (qc (qv 0) (qc (AG ⋯ (qv 1)) qb))))
   (qh (C6 c.bp.f (qv 0) (qv 1)))),?_]
   refine#[_,Z,_,Z,n,j,Z,λz=>#[e,.str z,Z,g,?_]]
   exact#[_,Z,_,Z,e,Z,g,λd i=>q d i]
 obtain⟨f,fd,F,m,bd⟩:=M.ex;have e:f=fI:=by
  have z:=m.at_;rw[hi]at z;injection z with z
  injection z with z
  injection z with z
  exact z.symm
 subst e
 exact#[f,fd,F,c.bp.f.bi,m.fn,c.g_BadPress,bd]
end
section
variable{P:Ξ}{w:Ω}{K:ι}{mg:MK}{base:Ψ}{tk:Nat->Tok}{C CB CD:Δ}
theorem rH(a:At K mg "_law_right" cP ["_law_house","_law_own_here","_law_deed_here"])(T:Na K mg tk)(J:Df P w K mg base "_law_did" X2 10 (rY K CB CD C Qh))(I:Df P w K mg base "_law_due" W1 10 (pU K CB CD Qh))(M:Df P w K mg base "_law_same" X0 5 (vR 4))(N:Df P w K mg base "_law_shown" ["_law_house","_law_own_here"] 7 (nG K CB CD C)):Df P w K mg base "_law_right" W4 11 (rC K CB CD C Qh):=by
 refine a.dq Oy λf _ A _ s H Y Q E n h=>?_
 ·obtain⟨aH,aO,S,m,l,d,rfl,e,p,m1,D,o,g,y,q⟩:=h
  refine#[_,(qg (qE (i:=3) Oy.nd Z (Or.inl Z) (qu J n.mo (qc (qv 0) (qc (qv 2) qb))))
   (qh (qm (Qc (qu M n.mo (qc (qv 3) (qc (qu I n.mo (qc (qv 1) (qc (qv 2) qb))) qb))) (Qx (qu N n.mo (qc (qv 0) (qc (qv 1) qb)))))))),?_]
  refine#[_,Z,_,Z,aH,S,6*m,l,d,Z,e.hh,p.ok,by lia,D.sub (λz h=>Jv.mpr (.inl h)),o,g,y,λf1 aH' H1 c x u h1 U=>?_]
  obtain⟨v,X⟩:=e.hh.beside e.oo e.dj c x;refine#[_,Z,_,Z,_,Z,aO,S,6*m,l,d,Z,v,p.ok,by lia,(D.mv c e.hh.at_.nt (λz h=>Jv.mpr (.inl h))).sub (λz h=>Jv.mpr (.inr h)),o,g,y,λf2 aO' H2 j R G L O=>?_]
  obtain⟨st,B⟩:=Rb.mk' e c x h1 j R L u G;have r:=(p.nxtH o).ok;refine#[_,_,Z,R6.eqvH (U.mvH j v.at_.nt) O o,λH3 t=>#[_,Z,zR ?_]]
  refine#[_,Z,_,Z,aH',aO',_,6*(m+1),by rw[u,G];rfl,B.same t,r,by lia,λW F=>?_]
  exact q aH' aO' W ((st.same t).same F) ((B.same t).same F)
end
section
variable{P:Ξ}{w:Ω}{K:ι}{mg:MK}{base:Ψ}{tk:Nat->Tok}{C CB CD:Δ}
theorem rg(a:At K mg "_law_begun" cU ["_law_script","_law_great"])(T:Na K mg tk)(zK:Mi P w K mg base C "House" ["self","table","key"] 1 (lJ K CB CD C))(yK:Df P w K mg base "_law_box" V9 1 (pz K))(dA:Df P w K mg base "_law_take" u0 1 Z6)(zA:Df P w K mg base "_law_table" V0 2 sF)(yQ:Df P w K mg base "_law_key" V0 2 sf)(zH:Df P w K mg base "_law_own" Y2 1 (tW K CB CD))(xL:Df P w K mg base "_law_deed" X3 3 (lA K CB CD Qh))(xU:Df P w K mg base "_law_did" X2 10 (rY K CB CD C Qh))(xT:Df P w K mg base "_law_due" W1 10 (pU K CB CD Qh)):Df P w K mg base "_law_begun" ["_law_script","_law_great"] 11 (pS K CB CD C):=by
 refine a.dq M0 λf _ A _ s H vs Q E Y h=>?_
 ·obtain⟨sc,ns,g,rfl,hS,q⟩:=h
  refine#[_,(qg (qE (i:=2) M0.nd Z (Or.inl Z) (qu yK Y.mo (qc (qv 0) (qc qi qb))))
   (qg (Ar (i:=3) (j:=4) Z M0.nd Z Z ⋯ Z Z (qc (qu zA Y.mo (qc (qv 2) qb)) (qc (qu yQ Y.mo (qc (qv 2) qb)) qb)))
   (qg (qE (i:=5) M0.nd Z (Or.inl Z) (zd (qc (qI QF T.b_list JY (qc (qv 3) qb)) (qc (qI QF T.b_list JY (qc (qv 4) qb)) qb))))
   (qg (qE (i:=6) M0.nd Z (Or.inl Z) (jt (qy qR (qu dA Y.mo (qc (qv 2) (qc qi qb))) qi (qw _)) (aQ zK Y.mo (qc (qv 3) (qc (qv 4) qb))) (aQ zK Y.mo (qc (qD qO (qv 5) qi) (qc (qD qO (qv 5) qi) qb)))))
   (qg (zb (Fb JX PySem.F.slot_list_reverse PySem.F.type_list_reverse uZ (qD qO (qv 5) qi)))
   (qg (zb (QU JX Ia Ib Qi (qD qO (qv 5) qi) (qc qi qb)))
   (qg (qE (i:=7) M0.nd Z (Or.inl Z) (qu zH Y.mo (qc (qv 3) (qc (qv 4) qb))))
   (qg (qE (i:=8) M0.nd Z (Or.inl Z) (qC zo qi (qu dA Y.mo (qc (qv 2) (qc qi qb)))))
   (qg (qA (QW.pt (rV (zn (qv 1)) (mE (qy qR (qu dA Y.mo (qc (qv 2) (qc qi qb))) qi (qw _))))) (qh (qE (i:=8) M0.nd Z (Or.inl Z) (qC zo qi (qu dA Y.mo (qc (qv 2) (qc qi qb)))))) qq)
   (qg (Qo JZ Z (Q9 Z T.b_range (qc (qv 8) qb)) (qB (i:=9) M0.nd Z (Or.inl Z))
   (qh (Qo JZ Z (jS (qG (qc qj (qc qj qb)))) (qB (i:=10) M0.nd Z (Or.inl Z))
   (qg (qE (i:=11) M0.nd Z (Or.inl Z) (qu xL Y.mo (qc (qv 2) (qc (qv 7) (qc (zd (qc (qv 10) qb)) qb)))))
   (qg (zb (qu xU Y.mo (qc (qv 6) (qc (qv 11) qb))))
   (qh (zb (qu xT Y.mo (qc (qv 7) (qc (qv 11) qb))))))))))
   (qg (Qo JZ Z (Q9 Z T.b_range (qc (qC zo (qv 8) qi) qb)) (qB (i:=12) M0.nd Z (Or.inl Z))
   (qg (qE (i:=11) M0.nd Z (Or.inl Z) (qu xL Y.mo (qc (qv 2) (qc (qv 7) (qc (zd (qc qj qb)) qb)))))
   (qg (zb (qu xU Y.mo (qc (qv 6) (qc (qv 11) qb))))
   (qh (zb (qu xT Y.mo (qc (qv 7) (qc (qv 11) qb))))))))
   (qh (qm (qG (qc (qv 2) (qc (qv 6) (qc (qv 7) qb))))))))))))))))),?_]
  refine aI λD1 z1=>?_
  refine#[_,Z,sc,ns,0,Z,hS,by lia,λb H1 fb s1 j3=>z1 _ _ (aI λD2 z2=>?_)]
  refine#[_,Z,b,0,Z,j3,by lia,λtb U H2 g2 o8 l8 pt=>?_]
  refine#[_,Z,b,_,Z,g2.bx,by lia,λky ks H3 g3 p0 i3 dk k1 k8=>#[_,_,Z,z2 _ _ (aI λD3 z3=>?_)]]
  have f0:MM H H3:=λp o e=>g3.kp _ _ (qr e fb) (g2.kp _ _ (qr e fb) (s1 _ _ e))
  have d4:H3 tb=↑(.tup (U.map V.int)):=g3.mv.tup (aT g2.bx) l8
  refine#[_,Z,tb,_,Z,.inr (MW.of d4),λO d9=>?_]
  have u1:=MM.upd (o:= .lst (U.map V.int)) d9
  have e5:(MO H3 O (.lst (U.map V.int))) O=↑(.lst (U.map V.int)):=qa
  have n1:O≠b:=ze g3.bx d9
  have f1:H O=none:=QK d9 f0
  have g0:=(u1.grc g3.bx).bx;generalize MO H3 O (.lst (U.map V.int))=H4 at u1 e5 g0⊢
  refine#[_,Z,ky,_,Z,.inr (MW.of (u1 _ _ i3)),λX b0=>#[HU,λR a4=>?_]]
  have u2:=MM.upd (o:= .lst (ks.map V.int)) b0
  have h3:(MO H4 X (.lst (ks.map V.int))) X=↑(.lst (ks.map V.int)):=qa
  have n2:X≠b:=ze g0 b0
  have j6:X≠O:=λz=>by rw[z,e5]at b0;cases b0
  have f2:H X=none:=QK b0 (f0.trans u1)
  have d7:=(u2.grc g0).bx;have c0:=u2 _ _ e5;generalize MO H4 X (.lst (ks.map V.int))=H5 at u2 h3 d7 c0 a4⊢
  have u3:=MM.upd (o:= .lst [.ref O,.ref X]) a4
  have f5:(MO H5 R (.lst [.ref O,.ref X])) R=↑(.lst [.ref O,.ref X]):=qa
  have n3:R≠b:=ze d7 a4
  have n4:R≠O:=λz=>by rw[z,c0]at a4;cases a4
  have N:=(u3.grc d7).bx;have c3:=(u1.trans u2).trans u3;have f6:=f0.trans c3;have b1:=c3 _ _ d4;have c1:=c3 _ _ i3;have c5:=u3 _ _ c0;have c6:=u3 _ _ h3;generalize MO H5 R (.lst [.ref O,.ref X])=H6 at u3 f5 N c3 f6 b1 c1 c5 c6⊢
  refine z3 _ _ (iJ (λb4 H'=>∃aH:Ha,b4=[↑(.ref sc),↑(.bl g),↑(.ref b),↑(.ref tb),↑(.ref ky),↑(.ref R),↑(.ref aH.ma),none,none,none,none,none,none]/\Oj b 27 H6 H'/\MP K CB CD ↑C H' aH (kP U ks)/\∀z∈hF aH,H6 z=none) (λD' m5 b3=>?_) ?_)
  ·refine#[_,Z,b,2,_,Z,N,by lia,⋯,⋯,λr H7 r0 r1 W=>?_]
   have mk:∀(Q':VK),(∀(aH:Ha) (H':Hp),Oj b 27 H6 H'->MP K CB CD ↑C H' aH (kP U ks)->(∀z∈hF aH,H6 z=none)->Q' (.ref aH.ma) H')->∀(t k:Δ),Sq K H7 t (U.map V.int)->PY H7 k ks->∀p dx,H7 p=none->H7 dx=none->dx≠p->lJ K CB CD C [.ref p,.ref t,.ref k] (MO (MO H7 dx (.own p)) p (.ins C dx [])) (λv H2=>v= .non/\Q' (.ref p) H2) E0:=λQ' hQ t k ht hk p dx hp a5 ne=>by
    have u:=MM.upd (o:= .own p) a5
    have u':=MM.upd (o:= .ins C dx []) (show(MO H7 dx (.own p)) p=none by rw[qk ne.symm];exact hp)
    have UU:=u.trans u';refine#[p,t,k,dx,U,ks,Z,qa,ht.same UU,PY.same UU hk,λaH H8 ea m8 f8 h8=>#[Z,?_]]
    rw[<- ea];refine hQ aH H8 ?_ h8 λz m=>?_
    ·have kp:∀{x:Δ} {o:HO},H7 x=↑o->H8 x=↑o:=λ{x o} e=>m8 _ _ (zu (qr e hp)) (UU _ _ e)
     obtain⟨y1,y2,y3,eb,n5,k2,j5,p2⟩:=W.bx
     exact#[λx o n e=>kp (W.kp _ _ n e),y1,y2,y3,kp eb,n5,k2,j5,by lia]
    ·have z7:H7 z=none:=by
      rcases f8 z m with rfl|q
      ·exact hp
      ·exact QK q UU
     exact W.fresh (N.mono (by lia)) z7
   have b5:=W.kp _ _ n1 c5;have g8:=W.kp _ _ n2 c6;have a3:=W.kp _ _ n3 f5;refine#[Z,_,Z,qK (λ_=>?_) (λ_=>?_)]
   ·exact#[_,Z,_,Z,λp dx hp a5 ne=>mk (λv H'=>D'.nx [↑(.ref sc),↑(.bl g),↑(.ref b),↑(.ref tb),↑(.ref ky),↑(.ref R),↑v,none,none,none,none,none,none] H') (λaH' H' q1 q2 q3=>b3 _ _ #[aH',Z,q1,q2,q3]) tb ky (Sq.tup (W.mv.tup (aT N) b1)) (.inr (.inl (W.mv.tup (aT N) c1))) p dx hp a5 ne]
   ·exact#[_,Z,R,_,_,_,Z,Z,MV.of a3,Z,_,Z,R,_,_,_,Z,Z,MV.of a3,Z,λp dx hp a5 ne=>mk (λv H'=>D'.nx [↑(.ref sc),↑(.bl g),↑(.ref b),↑(.ref tb),↑(.ref ky),↑(.ref R),↑v,none,none,none,none,none,none] H') (λaH' H' q1 q2 q3=>b3 _ _ #[aH',Z,q1,q2,q3]) O X (Sq.lst b5) (.inl g8) p dx hp a5 ne]
  rintro b4 H7 ⟨aH,rfl,W,h7,f7⟩
  have nH:∀{x:Δ} {o:HO},H6 x=↑o->x∉hF aH:=λ{x o} e q=>by rw[f7 x q]at e;cases e
  have b5:=W.kp _ _ n1 c5;have g8:=W.kp _ _ n2 c6;have a3:=W.kp _ _ n3 f5;have i4:=W.mv.tup (aT N) b1;have i1:=W.mv.tup (aT N) c1;have l0:MM H H7:=λp o e=>W.kp _ _ (qr e fb) (f6 _ _ e)
  refine aI λD4 z4=>?_
  refine#[_,Z,R,_,_,_,Z,Z,MV.of a3,Z,.inl #[Z,_,MV.of b5],O,_,Z,Z,b5,?_]
  have m8:Mv [O] H7 (MO H7 O (.lst (U.map V.int).reverse)):=Mv.upd1
  have d8:=NT.one b5 trivial;have h8:=h7.mv m8 d8 (λz m q=>nH c5 (by rw[Jg.mp q]at m;exact m))
  have j1:NQ (MO H7 O (.lst (U.map V.int).reverse)) b 27:=by
   obtain⟨y1,y2,y3,eb,yr⟩:=W.bx
   exact#[y1,y2,y3,m8 _ _ (zu n1.symm) eb,yr]
  have c2:=m8 _ _ (zu j6) g8;have j2:=m8 _ _ (zu n4) a3;have d5:=m8.tup d8 i4;have d0:=m8.tup d8 i1;have h6:MM H _:=λp o e=>m8 _ _ (zu (qr e f1)) (l0 _ _ e)
  generalize MO H7 O (.lst (U.map V.int).reverse)=H8 at m8 h8 j1 c2 j2 d5 d0 h6⊢
  refine z4 _ _ (aI λD5 z5=>?_)
  refine#[_,Z,R,_,_,_,Z,Z,MV.of j2,Z,.inl #[Z,_,MV.of c2],X,_,_,Z,Z,c2,by rw[Jb,Jn];lia,?_]
  have m9:Mv [X] H8 (MO H8 X (.lst (ks.map V.int++[.int 1]))):=Mv.upd1
  have g5:=NT.one c2 trivial;have h9:=h8.mv m9 g5 (λz m q=>nH c6 (by rw[Jg.mp q]at m;exact m))
  have h0:NQ (MO H8 X (.lst (ks.map V.int++[.int 1]))) b 27:=by
   obtain⟨y1,y2,y3,eb,yr⟩:=j1
   exact#[y1,y2,y3,m9 _ _ (zu n2.symm) eb,yr]
  have d3:=m9.tup g5 d5;have d2:=m9.tup g5 d0;have e0:MM H _:=λp o e=>m9 _ _ (zu (qr e f2)) (h6 _ _ e)
  generalize MO H8 X (.lst (ks.map V.int++[.int 1]))=H9 at m9 h9 h0 d3 d2 e0⊢
  refine z5 _ _ (aI λD6 z6=>?_)
  refine#[_,Z,_,Z,tb,ky,U,ks,Z,MW.of d3,.inl d2,λaO k6 g4 e9 J=>z6 _ _ (aI λD7 z7=>?_)]
  have i0:Hb K CB CD C H k6 b 27 aH aO (kP U ks) 0:=by
   refine#[e0.trans g4,(g4.grc h0).bx,#[h9.same g4,J,λz m q=>h9.at_.live m (e9 z q)],FW pt k8,λq=>?_,fb,λz m=>?_]
   ·obtain⟨y1,y2,y3,eb,yr⟩:=h0
    obtain⟨x1,x2,x3,k0,xr⟩:=N;rcases Jv.mp q with q|q
    ·exact nH k0 q
    ·rw[e9 b q]at eb;cases eb
   ·rcases Jv.mp m with q|q
    ·exact QK (f7 z q) f6
    ·exact QK (e9 z q) e0
  refine#[_,Z,b,3,_,Z,i0.bx,by lia,⋯,⋯,λh5 p1 n9 o2 m7=>#[_,_,Z,Z,?_]]
  have c4:=i0.grc m7;refine z7 _ _ ?_
  refine iJ (λb4 H'=>∃c:Nat,1<=c/\c<=9/\Hb K CB CD C H H' b 30 aH aO (kP U ks) 0/\b4=[↑(.ref sc),↑(.bl g),↑(.ref b),↑(.ref tb),↑(.ref ky),↑(.ref R),↑(.ref aH.ma),↑(.ref aO.ma),↑(.int (c:Int)),none,none,none,none]) (λD' m5 b3=>?_) ?_
  ·have oY:∀Hx,Hb K CB CD C H Hx b 30 aH aO (kP U ks) 0->D'.nx [↑(.ref sc),↑(.bl g),↑(.ref b),↑(.ref tb),↑(.ref ky),↑(.ref R),↑(.ref aH.ma),↑(.ref aO.ma),↑(.int (1+h5)),none,none,none,none] Hx:=λHx B=>b3 _ _ #[(1+h5).toNat,by lia,by lia,B,by rw[Int.toNat_of_nonneg (by lia)]]
   refine#[_,Z,_,Z,?_]
   cases g with
   |false=>exact zt (zt (oY _ (c4.mono (by lia) (Je _))))
   |true=>
    refine zR #[_,Z,b,8,_,Z,c4.bx,by lia,⋯,⋯,λo6 m6 o0 o3 e6=>#[Z,_,Z,qK (λ_=>?_) (λ_=>oY _ ((c4.grc e6).mono (by lia) (Je _)))]]
    refine#[_,Z,b,3,_,Z,e6.bx,by lia,⋯,⋯,λk3 l5 o4 n8 k5=>#[_,_,Z,Z,b3 _ _ #[(7+k3).toNat,by lia,by lia,((c4.grc e6).grc k5).mono (by lia) (Je _),?_]]]
    rw[Int.toNat_of_nonneg (by lia)];rfl
  rintro b4 m6 ⟨c,o7,o5,n6,rfl⟩
  refine aI λD8 z8=>?_
  refine#[_,Z,_,Z,by lia,by lia,?_]
  rw[LH];refine ba (Pv:=λk σ Hx=>∃(aH' aO':Ha) (S':Hs) (o9 J I:Ρ),Hb K CB CD C H Hx b (30+40*k) aH' aO' S' (2*k)/\(0<k->1<=S'.ds.length)/\aH'.ma=aH.ma/\aO'.ma=aO.ma/\σ=[↑(.ref sc),↑(.bl g),↑(.ref b),↑(.ref tb),↑(.ref ky),↑(.ref R),↑(.ref aH.ma),↑(.ref aO.ma),↑(.int (c:Int)),o9,J,I,none]) #[aH,aO,_,none,none,none,n6,(λh=>absurd h (J1 0)),Z,Z,Z] ?_ ?_
  ·rintro k σ Hx hk ⟨e4,d6,S1,o9,J,I,B,k4,eH,eO,rfl⟩
   refine#[HU,λt ht=>#[t,Z,#[_,MW.of qa],?_]]
   have ut:=MM.upd (o:= .tup [.str "add_door",.str "add_button"]) ht
   have j0:=B.same ut;have et:(MO Hx t (.tup [.str "add_door",.str "add_button"])) t=↑(.tup [.str "add_door",.str "add_button"]):=qa
   generalize MO Hx t (.tup [.str "add_door",.str "add_button"])=Ht at j0 et⊢
   refine iG (K:=K) (a:=t) (xs:=[.str "add_door",.str "add_button"]) (λi σ Hx=>Hx t=↑(.tup [.str "add_door",.str "add_button"])/\∃(aH' aO':Ha) (S':Hs) (J I:Ρ),Hb K CB CD C H Hx b (30+40*k+20*i) aH' aO' S' (2*k+i)/\(0<k+i->1<=S'.ds.length)/\aH'.ma=aH.ma/\aO'.ma=aO.ma/\σ=[↑(.ref sc),↑(.bl g),↑(.ref b),↑(.ref tb),↑(.ref ky),↑(.ref R),↑(.ref aH.ma),↑(.ref aO.ma),↑(.int (c:Int)),↑(.int (0+(k:Int))),J,I,none]) #[et,e4,d6,S1,J,I,j0,k4,eH,eO,Z] (λi σ Hx _ h=>MW.of h.1) ?_ ?_
   ·rintro i z σ Hy m ⟨h4,a0,L,S2,m4,g6,By,D,M,y,rfl⟩
    obtain⟨F,rfl,hw,l4⟩:∃F:Str,z= .str F/\F∈Qh/\(i=0->F="add_door"):=by
     match i,m with
     |0,m=>cases m;exact#[_,Z,by simp [Qh],λ_=>rfl]
     |1,m=>cases m;exact#[_,Z,by simp [Qh],λh=>absurd h ⋯]
     |i+2,m=>cases m
    have i2:i<2:=(Jt.mp m).1
    refine#[_,Z,_,Z,_,Z,HS,λwl b6=>?_]
    have uw:=MM.upd (o:= .lst [.str F]) b6
    have S:=By.same uw;refine#[b,wl,L,S2,_,_,[F],by rw[y];rfl,S.bx,by lia,S.nO,S.w.oo,S.hm,S.hm.lt (by lia),qa,ze By.bx b6,Je 1,by show 1<=20;decide,λz m=>by rw[Jg.mp m];exact hw,λl d Hz gz e3 hd b2 a2=>?_]
    have hl:=S.dez e3;have a2:=Jg.mp a2;have b7:zc d∈Qh:=by rw[a2];exact hw
    have G:=S.grc gz;have n7:=gz.mv.tup (aT S.bx) (uw _ _ h4);refine#[_,Z,_,Z,a0,S2,_,l,d,by rw[M];rfl,G.w.hh,G.hm.ok,by lia,hl.sub (λz h=>Jv.mpr (.inl h)),hd,b2,b7,λq1 e8 Hu m1 g1 e1 h1 r1=>?_]
    obtain⟨o1,d1⟩:=G.w.hh.beside G.w.oo G.w.dj m1 g1;refine#[_,Z,_,Z,L,S2,_,l,d,by rw[y];rfl,o1,G.hm.ok,by lia,(hl.mv m1 G.w.hh.at_.nt (λz h=>Jv.mpr (.inl h))).sub (λz h=>Jv.mpr (.inr h)),hd,b2,b7,λq2 f4 Hv m2 f3 e2 h2 r2=>?_]
    obtain⟨st,w'⟩:=Rb.mk' G.w m1 g1 h1 m2 f3 h2 e1 e2;refine#[st.m.tup G.w.nt n7,e8,f4,_,_,_,(G.stepH hd st w').mono (by lia) (by lia),λ_=>?_,e1.trans M,e2.trans y,Z]
    by_cases m3:i=0
    ·exact BG (a2.trans (l4 m3))
    ·exact ji (D (by lia))
   ·rintro σ Hy ⟨h4,a0,L,S2,m4,g6,By,D,M,y,rfl⟩
    exact#[a0,L,S2,_,_,_,By.mono (by show _+20*2<=_;lia) (by show _+2<=_;lia),(λ_=>D (by show 0<k+2;lia)),M,y,Z]
  rintro σ l5 ⟨e4,d6,S1,o9,J,I,l6,a1,eH,eO,rfl⟩
  have a1:=a1 (by lia)
  refine z8 _ _ (aI λD9 z9=>?_)
  refine#[_,Z,_,_,Z,Z,_,Z,by lia,by lia,?_]
  refine ba (Pv:=λk σ Hx=>∃(aH' aO':Ha) (S':Hs) (I l9:Ρ),Hb K CB CD C H Hx b (30+40*c+20*k) aH' aO' S' (2*c+k)/\1<=S'.ds.length/\aH'.ma=aH.ma/\aO'.ma=aO.ma/\σ=[↑(.ref sc),↑(.bl g),↑(.ref b),↑(.ref tb),↑(.ref ky),↑(.ref R),↑(.ref aH.ma),↑(.ref aO.ma),↑(.int (c:Int)),o9,J,I,l9]) #[e4,d6,S1,I,none,l6,a1,eH,eO,Z] ?_ ?_
  ·rintro k σ Hy hk ⟨a0,L,S2,g6,j4,By,D,M,y,rfl⟩
   have hk:k<c+1:=by lia
   refine#[_,Z,_,Z,HS,λwl b6=>?_]
   have uw:=MM.upd (o:= .lst [.str "teach"]) b6
   have S:=By.same uw;refine#[b,wl,L,S2,_,_,["teach"],by rw[y];rfl,S.bx,by lia,S.nO,S.w.oo,S.hm,S.hm.lt (by lia),qa,ze By.bx b6,⋯,⋯,λz m=>by rw[Jg.mp m];simp [Qh],λl d Hz gz e3 hd b2 a2=>?_]
   have hl:=S.dez e3;have b7:zc d∈Qh:=by rw[Jg.mp a2];simp [Qh]
   have G:=S.grc gz;refine#[_,Z,_,Z,a0,S2,_,l,d,by rw[M];rfl,G.w.hh,G.hm.ok,by lia,hl.sub (λz h=>Jv.mpr (.inl h)),hd,b2,b7,λq1 e8 Hu m1 g1 e1 h1 r1=>?_]
   obtain⟨o1,d1⟩:=G.w.hh.beside G.w.oo G.w.dj m1 g1;refine#[_,Z,_,Z,L,S2,_,l,d,by rw[y];rfl,o1,G.hm.ok,by lia,(hl.mv m1 G.w.hh.at_.nt (λz h=>Jv.mpr (.inl h))).sub (λz h=>Jv.mpr (.inr h)),hd,b2,b7,λq2 f4 Hv m2 f3 e2 h2 r2=>?_]
   obtain⟨st,w'⟩:=Rb.mk' G.w m1 g1 h1 m2 f3 h2 e1 e2
   exact#[e8,f4,_,_,_,(G.stepH hd st w').mono (by lia) (by lia),ji D,e1.trans M,e2.trans y,Z]
  rintro σ Hy ⟨a0,L,S2,g6,j4,By,D,M,y,rfl⟩
  refine z9 _ _ ?_
  refine#[_,Z,_,Z,_,Z,HV,λqt m0=>?_]
  exact q qt b a0 L S2 _ (by rw[qa,M,y]) ((By.same (MM.upd m0)).mono (by lia) (by lia)) D
end
section
variable{P:Ξ}{w:Ω}{K:ι}{mg:MK}{base:Ψ}{tk:Nat->Tok}{C CB CD:Δ}
abbrev O4:Α:=["press_button","press_button","press_button","press_button","press_button","play_kept","play_kept","play_kept","play_kept","teach","lose_cell","tear_cell"]
theorem FX{f:Δ}{fd:FuncData}(F:PD K "law" "law" bS f fd)(T:Na K mg tk)(yK:Df P w K mg base "_law_box" V9 1 (pz K))(dA:Df P w K mg base "_law_take" u0 1 Z6)(xL:Df P w K mg base "_law_deed" X3 3 (lA K CB CD Qh))(yX:Df P w K mg base "_law_begun" ["_law_script","_law_great"] 11 (pS K CB CD C))(yD:Df P w K mg base "_law_right" W4 11 (rC K CB CD C Qh)):N9 P w K mg base bI 12 f fd ["_law_script"] (oX K):=by
 refine F.dq NR (λvs H Q E h=>?_) (λcdv A outer s H vs Q E I h=>?_)
 ·obtain⟨x,ns,rfl,_⟩:=h
  rfl
 ·obtain⟨sc,ns,rfl,hS,g7,q⟩:=h
  refine#[_,(qg (Qk (qu yX I.mo (qc (qv 0) (qc QC qb))) (bY Z (qJ (qB (i:=1) NR.nd Z (Or.inl Z)) (qJ (qB (i:=2) NR.nd Z (Or.inr Z)) (qJ (qB (i:=3) NR.nd Z (Or.inr Z)) Qf)))))
   (qg (qE (i:=4) NR.nd Z (Or.inl Z) (qC lr (qC lr (qC iq (zd (qc qj qb)) qi) (qC iq (zd (qc qj qb)) qi)) (zd (qc qj (qc qj (qc qj qb))))))
   (qg (Qo JZ Z (Q9 Z T.b_range (qc (qC zo qi (qp (mW Z) T.b_min PyProof.Rows.boot_min (qc qi (qc (qp qS T.b_len JK (qc (qv 0) qb)) qb)))) qb)) (qB (i:=5) NR.nd Z (Or.inl Z))
   (qg (qE (i:=1) NR.nd Z (Or.inl Z) (qu yK I.mo (qc (qv 0) (qc (qC zo qi (qv 5)) qb))))
   (qh (qA (zW (zn (qu yD I.mo (qc (qv 2) (qc (qv 3) (qc (qu xL I.mo (qc (qv 1) (qc (qv 3) (qc (qv 4) qb)))) qb)))))) (qh (qm QC)) qq))))
   (qg (qE (i:=6) NR.nd Z (Or.inl Z) (qD qO (qp (gZ Z) T.b_sorted PyProof.Rows.boot_sorted (qc (qH I (qv 3) qj) qb)) (qu dA I.mo (qc (qv 1) (qc (qp nQ T.b_len JK (qc (qH I (qv 3) qj) qb)) qb)))))
   (qg (Qo JZ Z (jS (qG (qc (qp qS T.b_len JK (qc (qH I (qv 3) qj) qb)) (qc (kf gS qi) (qc (qC Ah qi qi) (qc qi qb)))))) (qB (i:=7) NR.nd Z (Or.inl Z))
   (qh (qA (zW (zn (qu yD I.mo (qc (qv 2) (qc (qv 3) (qc (qG (qc qj (qc (qv 7) (qc (qv 6) qb)))) qb)))))) (qh (qm QC)) qq)))
   (qg (qE (i:=8) NR.nd Z (Or.inl Z) (zd (qc (qG (qc qj (qc (kf gS qi) (qc qj qb)))) (qc (qG (qc qj (qc qj (qc qi (qc (zd qb) qb))))) qb))))
   (qh (qm (qp (Z5 Z) T.b_all Lv (qc (Qy (own:=["_law_deed_here"]) (fr:=["_law_own_here","_law_house"]) (js:=[3,2]) Z (c7 (qv 8)) Z (uY Z Z) Z (vt Z nofun nofun nofun Z Z Z Z Z Z) (λ_ _ _ _=>qB (i:=0) (show List.Nodup (["_law_deed_here","_law_own_here","_law_house"]:Α)from by decide +kernel) Z (Or.inl Z) (.inr Z)) (λ_ _ _ _=>(qu yD I.mo (qc (qv 2) (qc (qv 1) (qc (qv 0) qb)))))) qb)))))))))),?_]
  refine#[_,Z,sc,ns,true,Z,hS,λqt b aH aO S H1 d9 B f1=>#[qt,_,Z,MW.of d9,Z,_,_,Z,_,_,Z,_,_,Z,Z,?_]]
  refine#[HS,λw1 g1=>#[w1,_,_,Z,Z,qa,⋯,⋯,⋯,λw2 e1=>?_]]
  have v1:=MM.upd (o:= .lst [V.str "press_button"]) g1
  have v2:=MM.upd (o:= .lst ((List.replicate (5:Int).toNat [V.str "press_button"]).flatten)) e1
  have e2:(MO (MO H1 w1 (.lst [V.str "press_button"])) w2 (.lst ((List.replicate (5:Int).toNat [V.str "press_button"]).flatten))) w2=↑(.lst ((List.replicate (5:Int).toNat [V.str "press_button"]).flatten)):=qa
  have V2:=v1.trans v2;generalize MO (MO H1 w1 (.lst [V.str "press_button"])) w2 (.lst ((List.replicate (5:Int).toNat [V.str "press_button"]).flatten))=G2 at e2 V2⊢
  refine#[HS,λw3 g0=>#[w3,_,_,Z,Z,qa,⋯,⋯,⋯,λw4 f7=>?_]]
  have v3:=MM.upd (o:= .lst [V.str "play_kept"]) g0
  have v4:=MM.upd (o:= .lst ((List.replicate (4:Int).toNat [V.str "play_kept"]).flatten)) f7
  have e4:(MO (MO G2 w3 (.lst [V.str "play_kept"])) w4 (.lst ((List.replicate (4:Int).toNat [V.str "play_kept"]).flatten))) w4=↑(.lst ((List.replicate (4:Int).toNat [V.str "play_kept"]).flatten)):=qa
  have c2:=v4 _ _ (v3 _ _ e2);have V4:=(V2.trans v3).trans v4;generalize MO (MO G2 w3 (.lst [V.str "play_kept"])) w4 (.lst ((List.replicate (4:Int).toNat [V.str "play_kept"]).flatten))=G4 at e4 c2 V4⊢
  refine#[w2,w4,_,_,Z,Z,c2,e4,HZ,λw5 d7=>?_]
  have u5:=MM.upd (o:= .lst ((List.replicate (5:Int).toNat [V.str "press_button"]).flatten++(List.replicate (4:Int).toNat [V.str "play_kept"]).flatten)) d7
  have V5:=V4.trans u5;have e5:(MO G4 w5 (.lst ((List.replicate (5:Int).toNat [V.str "press_button"]).flatten++(List.replicate (4:Int).toNat [V.str "play_kept"]).flatten))) w5=↑(.lst ((List.replicate (5:Int).toNat [V.str "press_button"]).flatten++(List.replicate (4:Int).toNat [V.str "play_kept"]).flatten)):=qa
  generalize MO G4 w5 (.lst ((List.replicate (5:Int).toNat [V.str "press_button"]).flatten++(List.replicate (4:Int).toNat [V.str "play_kept"]).flatten))=G5 at V5 e5 u5⊢
  refine#[HV,λw6 a2=>#[w5,w6,_,_,Z,Z,(MM.upd a2) _ _ e5,qa,MH,λG c0=>?_]]
  have V6:=(V5.trans (MM.upd (o:= .lst [.str "teach",.str "lose_cell",.str "tear_cell"]) a2)).trans (MM.upd (o:= .lst (O4.map V.str)) c0)
  have f8:G∉hF aH++hF aO:=λq=>(B.same (V5.trans (MM.upd a2))).live q c0
  rw[show((List.replicate (5:Int).toNat [V.str "press_button"]).flatten++(List.replicate (4:Int).toNat [V.str "play_kept"]).flatten)++[V.str "teach",V.str "lose_cell",V.str "tear_cell"]=O4.map V.str from Z]
  have c4:(MO (MO G5 w6 (.lst [.str "teach",.str "lose_cell",.str "tear_cell"])) G (.lst (O4.map V.str))) G=↑(.lst (O4.map V.str)):=qa
  generalize MO (MO G5 w6 (.lst [.str "teach",.str "lose_cell",.str "tear_cell"])) G (.lst (O4.map V.str))=H2 at V6 c4⊢
  have B2:=B.same V6;have d4:=B2.s.seq hS;refine#[_,Z,sc,_,Z,.inl d4,_,_,Z,_,_,Z,Z,_,Z,?_,?_,?_]
  ·split<;>omega
  ·split<;>omega
  refine ba (Pv:=λk σ Hx=>Hx G=↑(.lst (O4.map V.str))/\∃(b':Δ) (aH' aO':Ha) (S':Hs) (o5:Ρ),Hb K CB CD C H Hx b' 1000 aH' aO' S' (30+k)/\1<=S'.ds.length/\aH'.ma=aH.ma/\aO'.ma=aO.ma/\G∉hF aH'++hF aO'/\σ=[↑(.ref sc),↑(.ref b'),↑(.ref aH.ma),↑(.ref aO.ma),↑(.ref G),o5,none,none,none]) #[c4,b,aH,aO,S,none,B2,f1,Z,Z,f8,Z] ?_ ?_
  ·rintro k σ Hx hk ⟨ew,b1,a3,g,S1,o5,j,U,eH,X,nw,rfl⟩
   have g8:k<22:=by
    refine JN hk ?_
    split<;>omega
   refine#[_,Z,_,Z,_,_,Z,Z,sc,ns,1+k,JL (λz=>[V.ref sc,V.int z]) (show(1+(0+(k:Int)))=((1+k:Nat):Int) by omega),j.s.seq hS,by omega,λb2 Hy fb sy g2=>?_]
   have p:=j.rebox sy fb g2;have c5:=sy _ _ ew;have c6:G≠b2:=λz=>by rw[z,fb]at ew;cases ew
   refine#[_,Z,_,Z,_,Z,_,Z,_,Z,b2,G,g,S1,_,_,O4,by rw[X];rfl,p.bx,by omega,p.nO,p.w.oo,p.hm,p.hm.lt (by omega),c5,c6,⋯,⋯,λz hz=>?_,λl d Hz gz hl hd e3 f5=>?_]
   ·revert z;decide +kernel
   have Bz:=p.grc gz;have c3:=gz.kp _ _ c6 c5;have f6:zc d∈Qh:=(show∀z∈O4,z∈Qh by decide +kernel) _ f5
   refine#[a3,g,S1,_,l,d,by rw[eH,X];rfl,Bz.w,Bz.hm,by omega,p.dez hl,hd,e3,f6,λm n Hw st w'=>#[_,Z,zt ?_]]
   exact#[st.m _ _ nw c3,b2,m,n,_,_,(Bz.stepH hd st w').mono (by omega) (by omega),ji U,st.mH.trans eH,st.mO.trans X,st.free c3 nw,Z]
  rintro σ H3 ⟨ew,b1,a3,g,S1,o5,L,U,eH,X,nw,rfl⟩
  have L:=L.mono (c':=1000) (m':=52) (Je _) (by split<;>omega)
  have h0:=L.hm.dn;refine#[_,Z,aO.ma,_,Z,X▸L.w.oo.g_doors,g.dd,_,S1.dn,Z,L.w.oo.at_.dd,by rw[cu,L.w.oo.at_.dn],by omega,λl4 ss c1 pm _=>?_]
  have u4:=MM.upd (o:= .lst (ss.map V.str)) c1
  have B4:=L.same u4;have n4:l4≠b1:=ze L.bx c1
  have b7:(MO H3 l4 (.lst (ss.map V.str))) l4=↑(.lst (ss.map V.str)):=qa
  generalize MO H3 l4 (.lst (ss.map V.str))=H4 at u4 B4 b7⊢
  have sl:ss.length=S1.ds.length:=by rw[pm.length_eq];unfold Hs.dn;rw[Jb]
  have a4:(zw NX.nm (λx=>V.ref x.a.p) g.ds).length=S1.ds.length:=by unfold zw;rw[Jb];exact B4.w.oo.dlen
  have h1:=L.hm.dl;refine#[_,Z,_,Z,aO.ma,_,Z,X▸B4.w.oo.g_doors,g.dd,_,Z,B4.w.oo.at_.dd,b1,_,_,Z,B4.bx,by omega,by rw[a4];omega,by rw[a4];omega,λr5 H5 g4 b0 g5=>?_]
  rw[a4]at b0;obtain⟨x5,d6,g3⟩:=Zr (xs:=ss.map V.str) g4 (by rw[Jb,sl];exact b0)
  obtain⟨nm,_,rfl⟩:=Jy.mp g3;refine#[l4,_,_,_,Z,Z,MV.of (g5.kp _ _ n4 b7),d6,?_]
  have B5:=B4.grc g5;obtain⟨as,ek,lk,_⟩:=id B5.w.oo.at_.kl;have nk:=B5.hm.ok.nk;refine#[_,Z,aO.ma,_,Z,X▸B5.w.oo.g_kept,g.kl,_,Z,.inl (MV.of ek),_,Z,_,_,Z,Z,#[⋯,⋯,⋯],HW,λt6 d3=>#[t6,Z,#[_,MW.of qa],?_]]
  obtain⟨e,d2,b4,d5⟩:∃e:Β,[V.int ((as.map V.ref).length:Int),V.int (-1),V.int (10 ^ (6:Int).toNat),V.int 0]=e/\e.length=4/\∀(i:Nat) (v:V),e[i]? =↑v->∃z:Int,v= .int z/\ -10000000<z/\z<10000000:=by
   refine#[_,Z,Z,λi v c=>?_]
   match i,c with
   |0,c=>cases c;exact#[_,Z,by rw[Jb,lk];omega,by rw[Jb,lk];omega]
   |1,c=>cases c;exact#[_,Z,⋯,⋯]
   |2,c=>cases c;exact#[_,Z,⋯,⋯]
   |3,c=>cases c;exact#[_,Z,⋯,⋯]
   |i+4,c=>cases c
  rw[d2];have u6:=MM.upd (o:= .tup e) d3
  have B6:=B5.same u6;have e6:(MO H5 t6 (.tup e)) t6=↑(.tup e):=qa
  generalize MO H5 t6 (.tup e)=H6 at u6 B6 e6⊢
  refine iG (K:=K) (a:=t6) (xs:=e) (λi σ Hx=>Hx t6=↑(.tup e)/\∃(aH' aO':Ha) (S':Hs) (o7:Ρ),Hb K CB CD C H Hx b1 1001 aH' aO' S' (52+i)/\aH'.ma=aH.ma/\aO'.ma=aO.ma/\σ=[↑(.ref sc),↑(.ref b1),↑(.ref aH.ma),↑(.ref aO.ma),↑(.ref G),o5,↑(.str nm),o7,none]) #[e6,a3,g,S1,none,B6.mono (by omega) (Je _),eH,X,Z] (λi σ Hx _ h=>MW.of h.1) ?_ ?_
  ·rintro i v σ Hx c ⟨ex,D,y,S2,o7,j,R,J,rfl⟩
   obtain⟨z,rfl,z0,z1⟩:=d5 i v c;have i4:i<4:=by rw[<- b4];exact(Jt.mp c).1
   refine#[_,Z,_,Z,_,Z,_,Z,HV,λlt g6=>?_]
   have u7:=MM.upd (o:= .tup [.str "play_kept",.int z,.str nm]) g6
   have p:=j.same u7;refine#[D,y,S2,_,lt,.play z nm,by rw[R,J];rfl,p.w,p.hm,by omega,qa,#[trivial],#[z0,z1],(by decide +kernel:("play_kept":Str)∈Qh),λm n Hw st w'=>#[_,Z,zt ?_]]
   exact#[st.m.tup p.w.nt (u7 _ _ ex),m,n,_,_,(p.stepH (d:= .play z nm) #[trivial] st w').mono (Je _) (by omega),st.mH.trans R,st.mO.trans J,Z]
  rintro σ H7 ⟨_,D,y,S2,o7,B7,R,J,rfl⟩
  rw[b4]at B7;refine#[_,Z,HV,λu f0=>#[HR,λr b3=>#[HW,λt f4=>#[HU,λW b5=>?_]]]]
  have u8:=MM.upd (o:= .tup [.str "play_kept",.int (-1),.str "nodoor"]) f0
  have a1:=MM.upd (o:= .lst []) b3
  have u9:=MM.upd (o:= .tup [.str "press_button",.str "nobutton",.int 0,.ref r]) f4
  have um:=MM.upd (o:= .lst [.ref u,.ref t]) b5
  have f3:r∉hF D++hF y:=λz=>(B7.same u8).live z b3
  have f2:W∉hF D++hF y:=λz=>((((B7.same u8).same a1).same u9)).live z b5
  have B8:=(((B7.same u8).same a1).same u9).same um;have b6:=um _ _ (u9 _ _ (a1 _ _ (qa (H:=H7) (a:=u) (o:= .tup [.str "play_kept",.int (-1),.str "nodoor"]))))
  have d1:=um _ _ (u9 _ _ (qa (H:=_) (a:=r) (o:= .lst [])))
  have d0:=um _ _ (qa (H:=_) (a:=t) (o:= .tup [.str "press_button",.str "nobutton",.int 0,.ref r]))
  have a0:(MO (MO (MO (MO H7 u (.tup [.str "play_kept",.int (-1),.str "nodoor"])) r (.lst [])) t (.tup [.str "press_button",.str "nobutton",.int 0,.ref r])) W (.lst [.ref u,.ref t])) W=↑(.lst [.ref u,.ref t]):=qa
  generalize MO (MO (MO (MO H7 u (.tup [.str "play_kept",.int (-1),.str "nodoor"])) r (.lst [])) t (.tup [.str "press_button",.str "nobutton",.int 0,.ref r])) W (.lst [.ref u,.ref t])=H8 at B8 b6 d1 d0 a0⊢
  refine#[_,Z,W,Z,#[_,MV.of a0],?_]
  refine bj (K:=K) (a:=W) (xs:=[.ref u,.ref t]) (HU) (λi ys Hx=>Hx W=↑(.lst [.ref u,.ref t])/\Hx u=↑(.tup [.str "play_kept",.int (-1),.str "nodoor"])/\Hx t=↑(.tup [.str "press_button",.str "nobutton",.int 0,.ref r])/\Hx r=↑(.lst [])/\ys=(List.replicate i true).map V.bl/\∃(aH' aO':Ha) (S':Hs),Hb K CB CD C H Hx b1 1001 aH' aO' S' (56+i)/\aH'.ma=aH.ma/\aO'.ma=aO.ma/\r∉hF aH'++hF aO'/\W∉hF aH'++hF aO') #[a0,b6,d0,d1,Z,D,y,S2,B8,R,J,f3,f2] (λi ys Hx h=>MV.of h.1) ?_ ?_
  ·rintro i ys Hx v c d8 ⟨ex,e8,e9,e0,rfl,m,n,S3,j,N,O,n8,M⟩
   match i,c with
   |0,c=>
    cases c;refine#[_,Z,_,Z,_,Z,m,n,S3,_,u,.play (-1) "nodoor",by rw[N,O];rfl,j.w,j.hm,by omega,e8,#[trivial],#[⋯,⋯],(by decide +kernel:("play_kept":Str)∈Qh),λa5 Y Hw st w'=>?_]
    exact#[st.m _ _ M ex,st.m.tup j.w.nt e8,st.m.tup j.w.nt e9,st.m _ _ n8 e0,Z,a5,Y,_,j.stepH (d:= .play (-1) "nodoor") #[trivial] st w',st.mH.trans N,st.mO.trans O,st.free e0 n8,st.free ex M]
   |1,c=>
    cases c;refine#[_,Z,_,Z,_,Z,m,n,S3,_,t,.press "nobutton" 0 [],by rw[N,O];rfl,j.w,j.hm,by omega,#[r,e9,.inl (MV.of e0),n8],#[#[#[⋯,⋯],⋯]],trivial,(by decide +kernel:("press_button":Str)∈Qh),λa5 Y Hw st w'=>?_]
    exact#[st.m _ _ M ex,st.m.tup j.w.nt e8,st.m.tup j.w.nt e9,st.m _ _ n8 e0,Z,a5,Y,_,j.stepH (d:= .press "nobutton" 0 []) #[#[#[⋯,⋯],⋯]] st w',st.mH.trans N,st.mO.trans O,st.free e0 n8,st.free ex M]
   |i+2,c=>cases c
  ·rintro ys Hx d8 ⟨_,_,_,_,rfl,_⟩ lp h2
   exact#[lp,[true,true],Z,MV.of qa,q _]
end
theorem F7{l:W.OpenLaw}{w:Ω}{K:ι}{h:Ψ}{mg:MK}{fa:Δ}(X:K.In h)(G:h.Ns η mg)(j0:mg "law"=↑(.ref fa))
  {f m o p n xb j q r:Δ}
  {CB:Δ}
  (r5:W.nsIn K η "Button"=↑(↑(.ref CB)))
  (e5:W.plainGet K CB Str.empty=true)
  (o9:W.hasDictIn K CB=true)
  (n8:W.plainOver K CB=true)
  (l5:W.findIn K (.ref CB) "__setattr__"=↑(↑(.builtin "object.__setattr__")))
  (j2:W.makesIn K CB=true)
  (c1:W.keepIn K (.ref CB)=true)
  (O2:W.findIn K (.ref CB) "name"=↑none)
  (Mx:W.findIn K (.ref CB) "table"=↑none)
  (Rs:W.findIn K (.ref CB) "key"=↑none)
  (Pw:W.findIn K (.ref CB) "age"=↑none)
  (Pl:W.findIn K (.ref CB) "step"=↑none)
  (Im:W.findIn K (.ref CB) "next_count"=↑none)
  (Op:W.findIn K (.ref CB) "bound"=↑none)
  (NE:W.findIn K (.ref CB) "cells"=↑none)
  {CD:Δ}
  (a4:W.nsIn K η "Door"=↑(↑(.ref CD)))
  (l1:W.plainGet K CD Str.empty=true)
  (l6:W.hasDictIn K CD=true)
  (m9:W.plainOver K CD=true)
  (m7:W.findIn K (.ref CD) "__setattr__"=↑(↑(.builtin "object.__setattr__")))
  (b5:W.makesIn K CD=true)
  (a0:W.keepIn K (.ref CD)=true)
  (M2:W.findIn K (.ref CD) "table"=↑none)
  (pi:W.findIn K (.ref CD) "house_keys"=↑none)
  (Pp:W.findIn K (.ref CD) "near"=↑none)
  (Pz:W.findIn K (.ref CD) "far"=↑none)
  (Pi:W.findIn K (.ref CD) "most"=↑none)
  (Ix:W.findIn K (.ref CD) "least_age"=↑none)
  (IO:W.findIn K (.ref CD) "buttons"=↑none)
  (PK:W.findIn K (.ref CD) "log"=↑none)
  {C:Δ}
  (p3:W.nsIn K η "House"=↑(↑(.ref C)))
  (r4:W.plainGet K C Str.empty=true)
  (q9:W.hasDictIn K C=true)
  (d9:W.plainOver K C=true)
  (o6:W.findIn K (.ref C) "__setattr__"=↑(↑(.builtin "object.__setattr__")))
  (h3:W.makesIn K C=true)
  (q8:W.keepIn K (.ref C)=true)
  (No:W.findIn K (.ref C) "table"=↑none)
  (Id:W.findIn K (.ref C) "house_keys"=↑none)
  (IN:W.findIn K (.ref C) "least_age"=↑none)
  (LT:W.findIn K (.ref C) "doors"=↑none)
  (Lp:W.findIn K (.ref C) "buttons"=↑none)
  (O3:W.findIn K (.ref C) "kept"=↑none)
  (LE:W.findIn K (.ref C) "opened"=↑none)
  (A0:Ac K mg "is_number" cV)
  (A1:Ac K mg "is_digit" eW)
  (A2:Ac K mg "are_digits" cf)
  (A3:Ac K mg "back_table" bZ)
  (A4:Ac K mg "coded" lW)
  (A5:Ac K mg "decoded" ii)
  (A6:Ac K mg "is_name" hV)
  (A7:Ac K mg "is_code" gL)
  (A8:Ac K mg "is_press" eM)
  (A9:Ac K mg "letter_digits" ar)
  (l8:Ac K mg "key_of" jM)
  (f0:Ac K mg "count_digits" aX)
  (h6:Ac K mg "press_of" fB)
  (d5:Ac K mg "read_press" cp)
  (c2:Ac K mg "word_of" gR)
  (l0:Ac K mg "step_by" hW)
  (o0:NI K CB "__init__" "Button.__init__" ag)
  (p0:NI K CB "is_worn" "Button.is_worn" ZX)
  (i3:NI K CB "must_write" "Button.must_write" Q4)
  (i1:NI K CB "spare_cell" "Button.spare_cell" Q6)
  (c4:NI K CB "write_bound" "Button.write_bound" QR)
  (n4:NI K CB "press_once" "Button.press_once" Q5)
  (h9:NI K CB "cell_out" "Button.cell_out" Zx)
  (n1:NI K CB "cell_torn" "Button.cell_torn" Q8)
  (j4:NI K CB "name_told" "Button.name_told" Zi)
  (n3:NI K CB "age_now" "Button.age_now" ZT)
  (e6:NI K CB "count_now" "Button.count_now" Zc)
  (d7:NI K CB "cells_now" "Button.cells_now" Zk)
  (y:NI K CD "__init__" "Door.__init__" Q1)
  (j3:NI K CD "is_full" "Door.is_full" aS)
  (f1:NI K CD "button_of" "Door.button_of" ZS)
  (c0:NI K CD "takes_age" "Door.takes_age" ZR)
  (g3:NI K CD "takes_from" "Door.takes_from" ZE)
  (h1:NI K CD "plain_step" "Door.plain_step" ZB)
  (p2:NI K CD "answer_to" "Door.answer_to" Z1)
  (o2:NI K CD "hear" "Door.hear" cL)
  (e3:NI K CD "read_right" "Door.read_right" Zw)
  (d4:NI K CD "learn" "Door.learn" cy)
  (r0:NI K CD "close_below" "Door.close_below" Zh)
  (l9:NI K CD "known_now" "Door.known_now" ZU)
  (l4:NI K CD "keys_now" "Door.keys_now" ao)
  (k8:NI K CD "closed_now" "Door.closed_now" ZD)
  (h0:NI K CD "bounds_told" "Door.bounds_told" Zo)
  (j6:NI K CD "log_now" "Door.log_now" aP)
  (k0:NI K CD "twin_door" "Door.twin_door" Z4)
  (f7:NI K C "__init__" "House.__init__" aK)
  (n7:NI K C "door_named" "House.door_named" Zd)
  (k5:NI K C "button_named" "House.button_named" QZ)
  (q5:NI K C "add_door" "House.add_door" ZY)
  (l3:NI K C "add_button" "House.add_button" Zn)
  (g5:NI K C "keep_press" "House.keep_press" Za)
  (p5:NI K C "teach" "House.teach" bD)
  (g6:NI K C "hear_at" "House.hear_at" ay)
  (m6:NI K C "press_button" "House.press_button" QQ)
  (o3:NI K C "play_kept" "House.play_kept" ZG)
  (j1:NI K C "lose_cell" "House.lose_cell" ZC)
  (f8:NI K C "tear_cell" "House.tear_cell" ZA)
  (r3:NI K C "door_now" "House.door_now" ZP)
  (h7:NI K C "button_now" "House.button_now" Ze)
  (g0:NI K C "kept_now" "House.kept_now" ZV)
  (n5:NI K C "opened_by" "House.opened_by" Zy)
  (f2:Ac K mg "_law_box" hJ)
  (o7:Ac K mg "_law_take" eD)
  (k6:Ac K mg "_law_table" cT)
  (k2:Ac K mg "_law_key" gK)
  (e8:Ac K mg "_law_own" gW)
  (d0:Ac K mg "_law_refused" bC)
  (g1:Ac K mg "_law_added" cJ)
  (q2:Ac K mg "_law_taught" cz)
  (r2:Ac K mg "_law_listened" aV)
  (g7:Ac K mg "_law_pressed" bG)
  (j5:Ac K mg "_law_of_button" aa)
  (d2:Ac K mg "_law_due" gI)
  (f5:Ac K mg "_law_called" cr)
  (e2:Ac K mg "_law_class" cM)
  (r1:Ac K mg "_law_did" gE)
  (u:Ac K mg "_law_same" bK)
  (p1:Ac K mg "_law_shown" cS)
  (e9:Ac K mg "_law_some_name" aA)
  (m5:Ac K mg "_law_new_name" aR)
  (q3:Ac K mg "_law_deed" e7)
  (q4:Ac K mg "_law_begun" cU)
  (i2:Ac K mg "_law_right" cP)
  {L:Δ}{b6 D:Λ}{a2:Array Ν}{b4 A B F t E:Γ}
  (i4:W.nsIn K η "law"=↑(↑(.ref L)))
  (o8:K.lookup L=some #[b4,b6,.func (W.fnOf "law" "law" (Q3 bS) (zU bS) (ql bS) .none A B F D t E),a2])
  (m2:W.codeIn K t "law"=true)
  (o5:W.keepIn K (.ref L)=true)
  {t0:Tok}
  (k4:W.nsIn K η "DIGITS"=↑(↑(.int 16 t0)))
  {t1:Tok}
  (e1:W.nsIn K η "KEY_PLACES"=↑(↑(.int 4 t1)))
  {t2:Tok}
  (q6:W.nsIn K η "LONGEST_NAME"=↑(↑(.int 8 t2)))
  {t3:Tok}
  (n6:W.nsIn K η "CODE_DIGITS"=↑(↑(.int 5 t3)))
  {t4:Tok}
  (m0:W.nsIn K η "AGES"=↑(↑(.int 8 t4)))
  {t5:Tok}
  (m8:W.nsIn K η "COUNTS"=↑(↑(.int 4096 t5)))
  (z0:W.nsIn K η "isinstance"=↑none)
  (z1:W.nsIn K η "bool"=↑none)
  (z2:W.nsIn K η "int"=↑none)
  (z3:W.nsIn K η "tuple"=↑none)
  (z4:W.nsIn K η "all"=↑none)
  (z5:W.nsIn K η "len"=↑none)
  (z6:W.nsIn K η "abs"=↑none)
  (z7:W.nsIn K η "list"=↑none)
  (z8:W.nsIn K η "enumerate"=↑none)
  (z9:W.nsIn K η "range"=↑none)
  (m1:W.nsIn K η "max"=↑none)
  (g8:W.nsIn K η "min"=↑none)
  (o4:W.nsIn K η "str"=↑none)
  (c3:W.nsIn K η "zip"=↑none)
  (g4:W.nsIn K η "ord"=↑none)
  (c6:W.nsIn K η "sum"=↑none)
  (k3:W.nsIn K η "reversed"=↑none)
  (i0:W.nsIn K η "sorted"=↑none)
  (r6:W.nsIn K η "dict"=↑none)
  (f6:W.nsIn K η "CodeError"=↑(↑(.ref f)))
  (f3:W.nsIn K η "Known"=↑(↑(.ref m)))
  (h8:W.nsIn K η "Full"=↑(↑(.ref o)))
  (o1:W.nsIn K η "Unknown"=↑(↑(.ref p)))
  (k1:W.nsIn K η "TooMany"=↑(↑(.ref n)))
  (q0:W.nsIn K η "BadPress"=↑(↑(.ref xb)))
  (r7:W.nsIn K η "Worn"=↑(↑(.ref j)))
  (d8:W.nsIn K η "BadLog"=↑(↑(.ref q)))
  (d3:W.nsIn K η "BadRow"=↑(↑(.ref r)))
  (b7:aL K f Qj Qj "ValueError.__new__"=true)
  {z:Δ}
  (p4:W.findIn K (.ref xb) "__init__"=↑(↑(.ref z)))
  (H:NI K xb "__init__" "BadPress.__init__" ZF)
  (n9:W.findIn K (.ref xb) "place"=↑none)
  (c5:W.findIn K (.ref xb) "__setattr__"=↑(↑(.builtin "object.__setattr__")))
  (e4:W.specialIn K (.ref f) "__getattribute__"=↑(↑(.builtin "type.__getattribute__")))
  (h4:W.readsIn K f (.type "type")=true)
  (q1:W.findCls K (.ref f) (.type "type") "__init__"=↑(.val (.builtin "ValueError.__init__")))
  (e0:W.handedIn (.builtin "ValueError.__init__")=true)
  (b1:OG K (#[f,m,o,p,n,xb,j,q,r]:Xa) m)
  (a1:OG K (#[f,m,o,p,n,xb,j,q,r]:Xa) o)
  (a5:OG K (#[f,m,o,p,n,xb,j,q,r]:Xa) p)
  (b0:OG K (#[f,m,o,p,n,xb,j,q,r]:Xa) n)
  (a3:OG K (#[f,m,o,p,n,xb,j,q,r]:Xa) j)
  (f4:cG K xb (.ref f::Qj) Qj "ValueError.__new__" z=true)
  (l2:W.mroIn K xb (.type "object")=↑true)
  (g2:W.mroIn K xb (.type "BaseException")=↑true)
  (h5:W.findIn K (.ref xb) "__class__"=↑(↑(.builtin "object.__class__")))
  (m4:W.findIn K (.ref xb) "__getattribute__"=↑(↑(.builtin "BaseException.__getattribute__")))
  (q7:W.findIn K (.ref xb) "__getattr__"=↑none)
  (m3:(W.clsIn K xb).isSome=true)
  (S:W.kitOne K (.ref xb) (.ref xb)=↑(decide (xb=xb)))
  (N:W.kitOne K (.ref xb) (.ref m)=↑(decide (xb=m)))
  (O:W.kitOne K (.ref xb) (.ref o)=↑(decide (xb=o)))
  (Y:W.kitOne K (.ref xb) (.ref p)=↑(decide (xb=p)))
  (M:W.kitOne K (.ref xb) (.ref n)=↑(decide (xb=n)))
  (Q:W.kitOne K (.ref xb) (.ref j)=↑(decide (xb=j)))
  (I:W.kitOne K (.ref xb) (.ref q)=↑(decide (xb=q)))
  (R:W.kitOne K (.ref xb) (.ref r)=↑(decide (xb=r)))
  (d1:W.kitOne K (.ref xb) (.type "ValueError")=↑true)
  (n2:([xb,m,o,p,n,j,q,r]:Η).Nodup)
  (d6:W.nsIn K η "ValueError"=↑none):
  ∃fd:FuncData,(∀(s:Θ) (v:Γ),BindsTo s fd #[[v],[]] [("_law_script",v)])/\∀base:Ψ,K.In base->base.Ns η mg->N9 l.prog w K mg base bI 12 fa fd ["_law_script"] (oX K):=by
 have e:=j0.symm.trans (JP X G i4);cases e;have T:Na K mg (λi=>if i=0 then t0 else if i=1 then t1 else if i=2 then t2 else if i=3 then t3 else if i=4 then t4 else if i=5 then t5 else 0):=#[JP X G k4,JP X G e1,JP X G q6,JP X G n6,JP X G m0,JP X G m8,JQ X G z0,JQ X G z1,JQ X G z2,JQ X G z3,JQ X G z4,JQ X G z5,JQ X G z6,JQ X G z7,JQ X G z8,JQ X G z9,JQ X G m1,JQ X G g8,JQ X G o4,JQ X G c3,JQ X G g4,JQ X G c6,JQ X G k3,JQ X G i0,JQ X G r6]
 refine#[W.fnOf "law" "law" (Q3 bS) (zU bS) (ql bS) .none A B F D t E,λs v=> .of_eq Z,λbase _ _=>?_]
 have c:Of K CB:=#[#[e5,o9,n8,l5],O2,Mx,Rs,Pw,Pl,Im,Op,NE]
 have a:NW K CD:=#[#[l1,l6,m9,m7],M2,pi,Pp,Pz,Pi,Ix,IO,PK]
 have U:OB K C:=#[#[r4,q9,d9,o6],No,Id,IN,LT,Lp,O3,LE]
 have XG:XGx K mg (#[f,m,o,p,n,xb,j,q,r]:Xa):=#[JP X G f6,JP X G f3,JP X G h8,JP X G o1,JP X G k1,JP X G q0,JP X G r7,JP X G d8,JP X G d3,b7,n2,JQ X G d6]
 have b3:RZ K f xb z "place":=#[f4,n9,c5,#[l2,g2,h5,m4,q7,m3]]
 have b2:=rD (x:=(#[f,m,o,p,n,xb,j,q,r]:Xa)) S N O Y M Q I R
 have h2:Sr K f "ValueError.__init__":=#[e4,h4,q1,e0]
 have g:OE K mg (#[f,m,o,p,n,xb,j,q,r]:Xa) z:=#[#[XG,b1,a1,#[b3,b2,d1],h2],a5,b0,a3]
 have xP:=rZ (P:=l.prog) (w:=w) (base:=base) A0.at T
 have zD:=sY A1.at T xP
 have yV:=oB A2.at T zD
 have yW:=oG (P:=l.prog) (w:=w) (base:=base) A3.at T
 have yT:=AU (P:=l.prog) (w:=w) (base:=base) A4.at T
 have zE:=vf A5.at T yW
 have zI:=vH (P:=l.prog) (w:=w) (base:=base) A6.at T
 have zJ:=vM A7.at T yV
 have xY:=tm A8.at T zI xP zJ
 have yM:=jg (P:=l.prog) (w:=w) (base:=base) A9.at T
 have yN:=wf l8.at T yM yT
 have yO:=jW (P:=l.prog) (w:=w) (base:=base) f0.at T
 have zC:=tq h6.at T yO yN yT
 have xI:=oA d5.at T yN zE
 have zG:=uQ (P:=l.prog) (w:=w) (base:=base) c2.at T
 have zF:=v5 l0.at T zG
 have H:=H.at (ps:=V7)
 have zO:=gv (P:=l.prog) (w:=w) (base:=base) H T g p4
 have zL:=ju (P:=l.prog) (w:=w) (base:=base) o0.at T c
 have yP:=zL.mi j2 c1 (JP X G r5);have dZ:=iO (P:=l.prog) (w:=w) (base:=base) p0.at T c
 have dO:=eR i3.at T c dZ
 have dP:=fg (P:=l.prog) (w:=w) (base:=base) i1.at T c
 have xN:=eA c4.at T c dP
 have xE:=ef n4.at T c g dZ dO xN zC
 have dL:=xE.mf FT;have dI:=io (P:=l.prog) (w:=w) (base:=base) h9.at T c
 have dW:=fP n1.at T c dO dP dI
 have xS:=fU (P:=l.prog) (w:=w) (base:=base) j4.at T c
 have dE:=iV (P:=l.prog) (w:=w) (base:=base) n3.at T c
 have dB:=gh (P:=l.prog) (w:=w) (base:=base) e6.at T c
 have dU:=fZ (P:=l.prog) (w:=w) (base:=base) d7.at T c
 have y:=y.at (ps:=y9)
 have zN:=lU (P:=l.prog) (w:=w) (base:=base) y T a
 have yE:=zN.mi b5 a0 (JP X G a4);have zP:=(lv (P:=l.prog) (w:=w) (base:=base) y T a).mi b5 a0 (JP X G a4)
 have xD:=kA (P:=l.prog) (w:=w) (base:=base) j3.at T a
 have xA:=iY (P:=l.prog) (w:=w) (base:=base) f1.at T a
 have dJ:=iT (P:=l.prog) (w:=w) (base:=base) c0.at T a
 have dY:=gC g3.at T a dJ
 have yA:=gX h1.at T a dY zF
 have yH:=iU p2.at T a xA dY yA xI
 have xO:=rL o2.at T a xY yH
 have xH:=ia e3.at T a xY dJ xI
 have xJ:=oK d4.at T a xH xD
 have dX:=gf (P:=l.prog) (w:=w) (base:=base) r0.at T a
 have dQ:=iW (P:=l.prog) (w:=w) (base:=base) l9.at T a
 have xQ:=jl (P:=l.prog) (w:=w) (base:=base) l4.at T a
 have xG:=gl (P:=l.prog) (w:=w) (base:=base) k8.at T a
 have xV:=gb (P:=l.prog) (w:=w) (base:=base) h0.at T a
 have xZ:=j9 (P:=l.prog) (w:=w) (base:=base) j6.at T a
 have yG:=iP k0.at T a yE
 have zM:=j8 (P:=l.prog) (w:=w) (base:=base) f7.at T U (CB:=CB) (CD:=CD)
 have zK:=zM.mi h3 q8 (JP X G p3);have dG:=eY (P:=l.prog) (w:=w) (base:=base) n7.at T U g (CB:=CB) (CD:=CD)
 have dR:=dG.mf Gy;have dC:=cR (P:=l.prog) (w:=w) (base:=base) k5.at T U g (CB:=CB) (CD:=CD)
 have xM:=dC.mf GR;have yF:=hU q5.at T U g a yE dX (CB:=CB)
 have xW:=eF l3.at T U g c yP (CD:=CD)
 have dM:=fL g5.at T U g c xE (CD:=CD)
 have yS:=km p5.at T U g c a zO dG dC dM xA xD dJ xJ dB dE
 have xB:=jD g6.at T U a xO (CB:=CB)
 have xK:=cN m6.at T U g dG dC dM xB
 have x9:=fT o3.at T U g zO dG xB
 have yC:=fS j1.at T U g c dC dI
 have yB:=fW f8.at T U g c dC dW
 have yJ:=iN r3.at T U a dR yG
 have xR:=gk h7.at T U c xM dE dB dU
 have yI:=iM (P:=l.prog) (w:=w) (base:=base) g0.at T U (CB:=CB) (CD:=CD)
 have x8:=ip n5.at T U dR
 have yK:=vd (P:=l.prog) (w:=w) (base:=base) f2.at T
 have J:=sR (P:=l.prog) (w:=w) (base:=base) o7.at T
 have zA:=pX k6.at T J
 have yQ:=uX k2.at T J
 have zH:=vi (P:=l.prog) (w:=w) (base:=base) e8.at T (CB:=CB) (CD:=CD)
 have dD:=mQ (P:=l.prog) (w:=w) (base:=base) d0.at T
 have y0:=sH g1.at T a yP zP dX dD
 have yU:=oM q2.at T c a dQ xV xJ xS dB dE dL dD
 have xC:=kU r2.at T a xO (CB:=CB)
 have yR:=lH g7.at T c dB dL dD xC
 have yL:=jv j5.at T c dI dW yR
 have xT:=v8 d2.at T y0 yU yL xC dD
 have d:=mr f5.at T U yF xW yS xK x9 yC yB
 have yZ:=p7 (P:=l.prog) (w:=w) (base:=base) e2.at T g
 have xU:=vv r1.at T g d yZ
 have u:=u.at (ps:=X0)
 have dH:=jb (P:=l.prog) (w:=w) (base:=base) u T
 have zB:=sD (P:=l.prog) (w:=w) (base:=base) u T 4 (dH 4 ⋯)
 have yY:=pQ p1.at T U c a yI xR yJ x8 dE dB dU dQ xZ xG xQ dH zB
 have xF:=jw e9.at T J
 have xX:=jQ m5.at T J
 have xL:=sZ q3.at T J xF xX yQ (CB:=CB) (CD:=CD)
 have yX:=rg q4.at T zK yK J zA yQ zH xL xU xT
 have yD:=rH i2.at T xU xT (dH 4 ⋯) yY
 exact FX (pN (st:=bS) o8 m2 o5) T yK J xL yX yD
theorem Hr{l:W.OpenLaw}{q:Ξ}{c:Α}{t:(Str->Ν)->Ψ->Prop}{i:Ω->Ψ->Prop}{d:DefRec}{K:Params->ι}(hn:l.most=↑63)(e:d.params.defaults=[])
  (p:∀(w:Ω) (h:Ψ),i w h->(K w.params).In h)
  (F:∀(w:Ω) (mg:MK) (g:Δ) (h:Ψ),(K w.params).In h->h.Ns η mg->mg d.name=↑(.ref g)->
   ∃fd:FuncData,(∀(s:Θ) (u:Γ),BindsTo s fd #[[u],[]] [("_law_script",u)])/\∀base:Ψ,(K w.params).In base->base.Ns η mg->N9 l.prog w (K w.params) mg base bI 12 g fd ["_law_script"] (oX (K w.params))):
  W.WalkO q c t i l.row.toRowW d [] (λf j=>PySem.call f j):=
 L2.C9 (n:=63) (k:=12) (x:="_law_script") (CX:=λ_=>bI) (sp:=λw=>oX (K w.params)) hn ⋯ e #[Z,⋯,⋯] p F (λ_ _ a r m _ o=>#[a,r,Z,o,m,λ_=>rfl]) λ_ _ _ _ _ z=>z
end Lw
structure PySem.W.Fast:Prop where(tw15525759757792101826 tw2294832851067712282 tw15490053149882367492 tw8013230031639665896 tw17815639231598967342 tw6689758376834252800 tw10233038870011468735 tw12658603685926486698 tw1696002861041990816 tw2086806175381703257 tw15402895405691249386 tw8890103855073665026 tw14878808556159410639 tw11412404799817176818 tw10109876535593177766 tw11015466823273364070 tw3234284621508835627 tw6152705102274762193 tw10917907727573517593 tw8306360669940166473 tw14559030898429368322 tw1968062865582906753 tw11549631260429505094 tw15064846365342482680 tw11785066921712319441 tw4647123125339221689 tw8024374520153135432 tw11140970477060345218 tw15804485936509551599 tw16394316941933748072 tw17437816798759825017 tw7496235153454423532 tw9893577800163788280 tw11506237708418076639 tw10284116830029562672 tw12866122168981983355 tw7426835577428112794 tw5975942429162353312 tw1342170639664866134 tw8493934805070142986 tw5666476125809369330 tw1272489646614817583 tw11201603720420878553 tw14347092643006104732 tw3114401275848577788 tw5445324203129245527 tw4420013601530411736 tw7257468193817031529 tw16037858433452132623 tw8113217193099886268 tw7135789805351264283 tw10817860117480807392 tw3318391650524795297 tw8893650263938095323 tw1514428888737925677 tw17372601056464889559 tw17840944872409169268 tw7233918580995147681 tw2069567621235855261 tw358363482755305816 tw4698036474402073933 tw17378327362133272278 tw13617781853449100131 tw1796850851412337939 tw996454460189706132 tw17578876750768202601 tw11845679915503853815 tw10744999401542204343 tw17279785737139109386 tw12919519258480871781 tw4651629127330009515 tw2371547494506816664 tw827337944010476900 tw4209399648817733396 tw3464623926758695117 tw15698442243541112684 tw10964449497944290264 tw5904684898695647304 tw5384527699112583648 tw5881362689357029319 tw8236938273575061740 tw7463666337119288324 tw3476722175732539781 tw9630990474741324212 tw4071490621833145251 tw5178544366387710118 tw8269936595552295440 tw9612263156083274046 tw15082780472437060827 tw14965297452290164803 tw10670632362830798304 tw14915991374827732019 tw1471710166958677598 tw13554393723945879857 tw1062586541278546990 tw2259608151770615232 tw9433551412543454569 tw984797756104077766 tw1021789847776654128 tw7058649316413589468 tw11368668461287955510 tw1635945290922313155 tw453835186882228603 tw4588778316120202833 tw16442353833272391392 tw13049079972791881361 tw8518009238987440999 tw14708021129757839032 tw15939290202727273748 tw4679363787930988561 tw2373948024137933815 tw17330920589905323456 tw17728194667267242318 tw15963233993361364414 tw3874628140265680026 tw3673977585339047175 tw1628732365860967850 tw15413340004136727196 tw4738400832327897882 tw7667461225492583054 tw14173001795920813619 tw9463597330852441625 tw13335352017616861787 tw15733178866249063764 tw10922104505886626856 tw1936687023811091438 tw3251194163849064051 tw13643159615235279683 tw2374278804553709656 tw11894288880705252993 tw16282831126224079490 tw14612021889062902595 tw13365717568074864382 tw3575506882116662114 tw3096864428382531247 tw3688894141575774498 tw1888045704387129904 tw15143594399945069226 tw15105707267931683503 tw4808310885705451212 tw2900812517813959432 tw229872420328004279 tw885159329594888998 tw10442993186246784569 tw1084509630012925320 tw6321204889812324966 tw5338093393717534669 tw7555072060574669271 tw5920425647558231102 tw11381351230443245993 tw9622303785105974094 tw9410212111141699355 tw2652665357189337479 tw4306078055040436359 tw631100118011587837 tw13883418048513949243 tw1373652133231148052 tw3092426713590325756 tw12892109707333320512 tw2688722543538738052 tw9173684056324376852 tw15756806199055437989 tw8164668620573342789 tw7140230546996315318 tw15532300894080845041 tw1238315025439122606 tw2359873340713338105 tw7542301506560489523 tw7812958786556599337 tw3522576759352393139 tw14070901747175316699 tw3811528948175991340 tw14879937737389583111 tw12145004789835529422 tw17036260779313639819 tw10032719562875629482 tw11563411652052674965 tw478217100996582617 tw14982807900917635935 tw6899013361821691815 tw4724602640741234571 tw16667824684030282175 tw15731005090100209937 tw1195581994452423365 tw3244403864147609370 tw1168350342740592430 tw10904442955247060246 tw8217219246337750484 tw12972298542374808224 tw11354034544541101532 tw3513949659913035551 tw5034411267694184990 tw393765151386799333 tw14164985041837893083 tw8997946528068928224 tw6796781428327431152 tw8295889724674423791 tw7365701453159944463 tw12882081143239816982 tw7002151690810221434 tw15915128459386482611 tw10270185054858943919 tw12239418145857573675 tw3542542971996065315 tw5831313878444179391 tw11920130429526204205 tw12754135078475690015 tw2319209711025533624 tw3806058406592082570 tw14899404164330763808 tw17337292464736677193 tw10761945854994454353 tw16743929552232431407 tw14621491759026275575 tw17030178001190415919 tw8134783701999049630 tw5526533908177882497 tw18442192943780840605 tw3695848739485405383 tw5628923118168462307 tw11678519989623248474 tw221339691131972645 tw2362966897341189205 tw16135556957252312656 tw6887397069163459131 tw13414218811460539884 tw17533328612688584654 tw10026619115881349491 tw13183836630682924456 tw14625110845514189226 tw11990988768042793647 tw527293799310603472 tw4006964228768665004 tw3918880112365004850 tw8903677536538091620 tw12681246432417948847 tw328671163819192195 tw9622343876724576313 tw5005205682745386256 tw5096866672779802091 tw7154824913312610369 tw2763015117679976434 tw11845091268642728690 tw4684269782091861054 tw17896062694324438103 tw6729274103958721702 tw2189963544533932154 tw18245466169670701853 tw2991911909518137727 tw8321767282073470782 tw11901176950584834813 tw11666679195141762009 tw6717227355832661962 tw16068745085082955309 tw15341749697327529378 tw12690041302001847944 tw14522764157616071730 tw16552774049498959471 tw9029597404069223492 tw8947554299236941962 tw10746282059930049743 tw12201873537986226097 tw16746126886369773816 tw5834742795685012527 tw5743958560564160632 tw7254842410354201704 tw1818106715447450776 tw18171509566105707306 tw2695123077433005898 tw10335631166660819258 tw764854646005809280 tw3400101613014583262 tw1785174991283599718 tw4404120745351266466 tw6516064543021405909 tw5647197784852253648 tw1076678511676358239 tw733345909806547580 tw17643475020861644447 tw15236864626529496387 tw13086741086056824623 tw2608235957469058657 tw11739469500668720981 tw10227512394604922245 tw10937396349182649288 tw6741778925691030960 tw18337368781118105962 tw2806410067348229693 tw1510846035740533275 tw1473372737766082996 tw1736146696487935105 tw13950218107286119662 tw4809940558351816177 tw16199010188517878335 tw5276976342375741849 tw1186785586349185208 tw4277193272541009559 tw17760973407893316035 tw7756390736525230904 tw7038816624802069781 tw10139339610890925873 tw2612486868655407039 tw3917408704434506430 tw7555783982577224073 tw12514019514161319072 tw6069028153058178377 tw17291951077444649825 tw11943248595716078003 tw9021219826417058190 tw5301790613064408993 tw18056907738044773489 tw17525887097975192506 tw1994438285541546436 tw5971502363767729155 tw14816896049891294439 tw1196366050254116250 tw17246899631223314304 tw8130635823599899487 tw1120766110886922887 tw1185316005949552648 tw9107738375361221568 tw10567455499570823193 tw12352536639625922127 tw3208761297899869199 tw12590377344819572668 tw347071389763317311 tw12872396269252130977 tw2422903330007106736 tw8247650748531449466 tw14308280131147717995 tw12498056265683569999 tw13119452717384869846 tw333080828649243827 tw6284926460919432522 tw12043085644710018585 tw15231141043716774312 tw4012847055649428538 tw13077442933376844753 tw17697766436355516573 tw16643802397069501053 tw4585799720518571100 tw12829393093110977593 tw1400682563798332225 tw5331112855091920578 tw11176700559794081607 tw13206955406755932055 tw7707882254099923972 tw16371851416319178790 tw7971130964450650846 tw12112503084173164200 tw1711831656447176537 tw8024925684005638694 tw12035483320351528646 tw15265284853864396268 tw5584944227696514050 tw1435698345389874481 tw3728644680834642682 tw12518346129087665806 tw11314151972972646639 tw8407944696749985536 tw7802063890756313600 tw13830931499199485090 tw182441494620599637 tw3036440215308329787 tw6286282788426624728 tw6883225165809168448 tw5198418978607006878 tw16027360252908556099 tw2569143394641084472 tw10760369016317787451 tw17099697011062001978 tw9131854365674019726 tw12931734595112109838 tw3846609891551820052 tw12746063576715089774 tw17597829358929086767 tw12443259034515694298 tw2454619956807978361 tw10173159024123911876 tw15293272052443262601 tw13385360409364379591 tw16507612346948224599 tw16042615075698599542 tw12057664782084240031 tw2447007934675506277 tw18098846833423522802 tw5878317068755070344 tw1154597802590546745 tw42765901285885222 tw4142688832385556182 tw4846157506456895948 tw14549668789931224435 tw3727533918808506313 tw10447955012824471182 tw12285901571143744030 tw384569206268019688 tw14942705542047090897 tw12742699560845086553 tw17221467738320174356 tw16044142732278985693:True)
open PySem PySem.W PyProof.Rows
set_option maxRecDepth 100000 in
set_option maxHeartbeats 0 in
theorem PySem.Challenge.cw_rollcode_k46_pressed_and_played_holds : PySem.Challenge.rw_rollcode_k46_pressed_and_played.Holds := by
 w_on;o_law;k_head;(case hw=>w_witness2)
 k_fill
 refine Lw.Hr (l:=PySem.Challenge.rw_rollcode_k46_pressed_and_played) rfl rfl (fun w h Y=>PySem.W.kIn_of Y) ?F
 case F=>
  intro w mg fa h KX G hmg;refine' Lw.F7 KX G hmg ..
  all_goals first|k_is|(refine' L3.GA KX G ..<;>first|k_is|skip)|(refine' L3.Fd ..<;>first|k_is|skip)|kernel_rfl|(refine' #[?_,#[?_,?_,?_,?_,?_,?_],L3.rD ?_ ?_ ?_ ?_ ?_ ?_ ?_ ?_,?_]<;>kernel_rfl)|decide|skip