import PyProof.Rows.All
import Wide.All
import OpenK.AllK
import Wide.FinOn
import Lean
import PyProof.EqAt
import PyProof.EqKinds
import PyProof.TupleCall
import PySem.Challenge.RW_rollcode_k35_rows_that_tell
import PyProof.StationsW
import PyProof.ExcClass2
import OpenK.KOwn
import PyProof.ExcBaseAll.ValueError
import PyProof.RulesAs
import PyProof.NsDelKeeps
import PyProof.Rows.Catch
import KE.KIsAll
import PyProof.ExcArgsOwn
import PyProof.Rows.CatchOwn
import PyProof.ExcAttrAll.ValueError
import PyProof.AttrMissHeap
import PyProof.Rows.SetFrom
import KE.KDictOf
import PyProof.DictWalks
import PyProof.Rows.DictUnroll
import PyProof.ExcInit
import PyProof.InstStoreFacts
import PyProof.FString
import OpenK.KCls
import PyProof.ListMulRoad
import PyProof.FactsAll.tuple_2
import PyProof.FactsAll.set
import PyProof.CollectWalk
import KE.KDictList
import PyProof.FactsAll.set_1
import PyProof.FactsAll.set_2
import PyProof.SetNew
import PyProof.MeetsSeq2
import PyProof.DictCompW
import PyProof.DictValues
import PyProof.AutoSeq1
import PyProof.FactsAll.list_3
import PyProof.DictItems
import PyProof.Rows.RegStrFacts
set_option Elab.async false
set_option maxRecDepth 100000
set_option maxHeartbeats 4000000
set_option linter.unusedVariables false
set_option linter.all false
local macro_rules|`(#[$xs,*])=>`(⟨$xs,*⟩)
local macro_rules|`(↑$x)=>`(some $x)
theorem Z.{u}{α:Sort u}{a:α}:a=a:=rfl
local macro_rules|`(nofun)=>`(by decide +kernel)
local macro_rules|`(⋯)=>`(by decide)
abbrev X0:List PySem.Str:=["_law_box_here","_law_many"]
abbrev X1:List PySem.Str:=["one","first","other","second"]
abbrev X2:List PySem.Str:=["_law_own","_law_plain_here"]
abbrev X3:List PySem.Str:=["self","button","age","count"]
abbrev X4:List PySem.Str:=["self","table","keys","near","far","most"]
abbrev X5:List PySem.Str:=["_law_box_here","_law_drawn_here"]
abbrev X6:List PySem.Str:=["_law_code","_law_plain_here","_law_deed"]
abbrev X7:List PySem.Str:=["_law_box_here"]
abbrev X8:List PySem.Str:=["_law_code","_law_pair_here","_law_plain_here","_law_places"]
abbrev X9:List PySem.Str:=["table","key","digits"]
abbrev W0:List PySem.Str:=["button","age","count","near","far"]
abbrev W1:List PySem.Str:=["self","button","age"]
abbrev W3:List PySem.Str:=["_law_code","_law_pair_here","_law_name","_law_told"]
abbrev W4:List PySem.Str:=["_law_box_here","_law_drawn_here","_law_told"]
abbrev W5:List PySem.Str:=["thing"]
abbrev W6:List PySem.Str:=["self"]
abbrev W7:List PySem.Str:=["table","key","name","age","count","deed"]
abbrev W8:List PySem.Str:=["self","name"]
abbrev W9:List PySem.Str:=["_law_near","_law_far","_law_keys"]
abbrev V0:List PySem.Str:=["table","key","press"]
abbrev V1:List PySem.Str:=["self","age"]
abbrev V2:List PySem.Str:=["table","key","name"]
abbrev V3:List PySem.Str:=["self","thing"]
open PySem.W (Frag)
set_option compiler.extract_closed false
open PySem renaming wpAny_bind->Ja,wpAny_pure->Jd,sizeLine_eq->Ju,wpAny_mono->Jw,wpAny_holding->JI,wpAny_newObj_type->J3,wpAny_call_entry->J5,boot_len->J6,wpAny_standAt->E1,wpAny_field->E4,wpAny_rule->E7,wpAny_of_eq->E8,wpAny_setField->Ff,wpAny_truthy_bool->Fj,codeAny_builtin->Fo,mem_of_lookup->FA,isSubtype_type->FD,codeAny_mono->FE,call_meets->FG,wpAny_isInstance->FI,wpAny_specialOf->FK,wpAny_pyIter_list->FO,wpAny_pyIter_tuple->FP,wpAny_typeOf->FR,wpAny_loadPart'->FV,wpAny_attempt->FW,typeLookup_type->FX,builtinLookup_eq_fast->FY,wpAny_passesOwn->F6,wpAny_pyIter_enum->F8,wpAny_Call_Name_kw->Gf,wpAny_seqItems->Gk,tupleKind_room_in1->Gp,wpAny_pyIter_rangeiter->Gv,Value->Γ,Addr->Δ,Shared->Θ,Program->Ξ,Expr->Φ,Heap->Ψ,World->Ω,Builtin->γ,Stmt->δ,wpAny->ε,sizeLine->ζ,mainGlobals->η,starEach->θ
open List renaming length_map->Je,getElem?_eq_getElem->Jg,mem_singleton->Jh,mem_cons->Jm,getElem?_map->Jn,size_toArray->Jr,getElem?_eq_some_iff->Js,mem_map->Jt,length_append->Jv,getD_eq_getElem?_getD->Jz,mem_cons_self->JB,not_mem_nil->JE,map_append->JK,mem_append->JL,mem_cons_of_mem->JM,length_cons->JN,mem_of_getElem?->JP,filterMap_cons->JR,map_cons->JS,getElem?_append_left->JT,mem_append_right->JV,getElem?_append_right->JY,mem_range->J1,lookup_cons->J7,take_add_one->J9,any_cons->ES,map_map->ET,length_take->EX,append_nil->E3,take_length->E5,length_singleton->Fd,nodup_cons->Fg,append_assoc->Fh,getElem_mem->Fi,length_set->Fl,nodup_append->Fv,all_eq_true->FC,length_drop->FF,map_congr_left->FJ,mem_append_left->FN,map_nil->FS,replicate_succ->FU,find?_cons->FZ,nodup_nil->Gb,getElem?_set_self->Gd,getElem?_set_ne->Ge,flatten_cons->Gi,take_of_length_le->Gn,any_eq_true->Gq,getElem?_range->Gu,length_replicate->Gw,getElem?_eq_none->GB,getElem?_append->GG
open Nat renaming le_refl->Jf,ne_of_lt->Jk,zero_le->Jy,le_trans->JG,lt_of_lt_of_le->JO,lt_irrefl->EU,ne_of_gt->EV,lt_succ_of_lt->EY,lt_succ_self->E2,le_succ->Fk,le_of_lt->F5,le_of_not_lt->F7
open PySem.Heap renaming lt_size->Jj,get?_push_of_some->Jl,get?_push_size->Jq,size_push->JX,get?_update_self->FB,get?_update_other->FT
open Bool renaming and_eq_true->JC,false_ne_true->JJ,false_and->EW,true_and->E6,eq_iff_iff->Fb,eq_false_iff->Gc
open PySem.W renaming mg_none_of->JU,kia_one->J4,mg_of->Fw,Frag->ι
open Option renaming map_eq_some_iff->JZ,getD_some->Fn,isSome_iff_exists->Gg
open PyProof.Rows renaming boot_tuple->J0,boot_list->FM,callWith_type1->FQ,boot_isinstance->F0,boot_max->F4,slot_tuple_getitem->Gh,boot_int->GD,boot_all->GF
open PySem.F renaming plainAttrs_list->EZ,slot_list_append->Fx,type_list_append->Fy,slot_tuple_iterator_next->Gj,slot_tuple_add->Gx,entry_tuple_add->Gy,args_tuple_add_2->Gz,slot_dict_get->GC
open Int renaming toNat_natCast->Fe,emod_nonneg->Fp,emod_lt_of_pos->Ft,le_refl->F3
open PySem.Obj renaming data_mapFields->FH,isFreed_of_fields->Gm
namespace L0
abbrev _root_.Α:=List PySem.Str
abbrev _root_.Β:=List Int
abbrev _root_.Ζ:=List Γ
abbrev _root_.Η:=List Δ
abbrev _root_.Ι:=List Φ
abbrev _root_.Κ:=List Nat
abbrev _root_.Λ:=Option Int
abbrev _root_.Μ:=List K
abbrev _root_.Ο:=Option Γ
abbrev _root_.Υ:=List PySem.Env
abbrev _root_.Χ:=List Bool
abbrev _root_.β:=Option Nat
abbrev _root_.ν:=Option Δ
abbrev _root_.ξ:=Option Φ
abbrev _root_.ο:=List PySem.Keyword
abbrev Jb:=@if_neg
abbrev Jc:=@if_pos
abbrev Ji:=@decide_eq_true
abbrev Jo:=@decide_eq_false
abbrev Jx:=@of_decide_eq_true
abbrev JD:=@if_false
abbrev JF:=@or_false
abbrev JH:=@congrArg
abbrev JW:=@beq_iff_eq
abbrev E9:=@beq_eq_false_iff_ne
abbrev Fc:=@if_true
abbrev Fu:=@beq_self_eq_true
abbrev FL:=@beq_false_of_ne
abbrev F9:=@decide_eq_true_iff
abbrev Jp:=@Array.length_toList
abbrev JA:=@Option.some.inj
abbrev JQ:=@PySem.PassesOwn.never
abbrev J8:=@PySem.Heap.SameBut.update
abbrev Ga:=@PySem.Around.in1_units
abbrev GA:=@PySem.Calls.callWith_builtin
end L0
open L0
namespace L0
open PySem
abbrev GP:=Γ->Θ->Prop
abbrev GQ:=Str->Ο
abbrev GR:=List (Δ×Obj)
end L0
open L0
namespace L2
open PySem PySem.Spec PyProof.Rows
abbrev qJ:=Sum Int Str
def fi:qJ->Γ->Bool
 | .inl k,v=>Γ.isInt k v
 | .inr x,v=>Γ.isStrOf x v
def Ep(w:Ω):qJ->Int
 | .inl k=>hashInt k
 | .inr x=>hashStr w x
theorem zG:∀{k:qJ} {v:Γ},fi k v=true->(∃i t,k=Sum.inl i/\v=Γ.int i t)\/(∃x t,k=Sum.inr x/\v=Γ.str x t)
 | .inl i,v,h=>by
  obtain⟨t,e⟩:=Γ.isInt_shape (k:=i) (v:=v) h
  exact .inl #[i,t,Z,e]
 | .inr x,v,h=>by
  obtain⟨t,e⟩:=Γ.isStrOf_shape (x:=x) (v:=v) h
  exact .inr #[x,t,Z,e]
theorem vH(i:Int)(t:Tok):fi (.inl i) (.int i t)=true:=by simp [fi,Γ.isInt]
theorem uK(x:Str)(t:Tok):fi (.inr x) (.str x t)=true:=by simp [fi,Γ.isStrOf]
theorem BJ(a b:Int):decide ((Sum.inl a:qJ)=Sum.inl b)=(a==b):=by
 by_cases e:a=b
 ·subst e;simp
 ·have h:¬(Sum.inl a:qJ)=Sum.inl b:=λq=>e (Sum.inl.inj q)
  rw[Jo h]
  exact(E9.mpr e).symm
theorem CO(a b:Str):decide ((Sum.inr a:qJ)=Sum.inr b)=decide (a=b):=by
 by_cases e:a=b
 ·subst e;simp
 ·have h:¬(Sum.inr a:qJ)=Sum.inr b:=λq=>e (Sum.inr.inj q)
  rw[Jo h,Jo e]
theorem CH(a:Int)(b:Str):decide ((Sum.inl a:qJ)=Sum.inr b)=false:=Jo (λq=>nomatch q)
theorem B7(a:Str)(b:Int):decide ((Sum.inr a:qJ)=Sum.inl b)=false:=Jo (λq=>nomatch q)
def qN(prog:Ξ)(w:Ω):PySem.KeyKind prog w qJ where
 is:=fi
 hash:=Ep w
 inj:=λv a b g d=>by
  rcases zG g with⟨i,t,rfl,rfl⟩|⟨x,t,rfl,rfl⟩
  ·rcases zG d with⟨j,u,rfl,e⟩|⟨y,u,rfl,e⟩
   ·injection e with e1 _;rw[e1]
   ·exact nomatch e
  ·rcases zG d with⟨j,u,rfl,e⟩|⟨y,u,rfl,e⟩
   ·exact nomatch e
   ·injection e with e1 _;rw[e1]
 byValue:=λk v h=>by
  rcases zG h with⟨i,t,rfl,rfl⟩|⟨x,t,rfl,rfl⟩<;>rfl
 pyHash:=λc h=>by
  rcases zG c with⟨i,t,rfl,rfl⟩|⟨x,t,rfl,rfl⟩
  ·exact wpAny_pyHash_int h
  ·exact wpAny_pyHash_str h
 eqBool:=λf c h=>by
  rcases zG f with⟨i,t,rfl,rfl⟩|⟨x,t,rfl,rfl⟩
  ·rcases zG c with⟨j,u,rfl,rfl⟩|⟨y,u,rfl,rfl⟩
   ·rw[BJ]at h;exact wpAny_eqBool_int h
   ·rw[CH]at h;exact SeqAt.EqAt.int_str i t y u _ _ _ _ h
  ·rcases zG c with⟨j,u,rfl,rfl⟩|⟨y,u,rfl,rfl⟩
   ·rw[B7]at h;exact SeqAt.EqAt.str_int x t j u _ _ _ _ h
   ·rw[CO]at h;exact wpAny_eqBool_str h
 «strs»:=λk x t v h=>by
  rcases zG h with⟨i,u,rfl,e⟩|⟨y,u,rfl,e⟩
  ·exact nomatch e
  ·injection e with e1 _
   subst e1;cases v<;>rfl
theorem nJ(prog:Ξ)(w:Ω)(i:Int)(t:Tok):(qN prog w).is (.inl i) (.int i t)=true:=vH i t
theorem ny(prog:Ξ)(w:Ω)(x:Str)(t:Tok):(qN prog w).is (.inr x) (.str x t)=true:=uK x t
inductive V where
 |non|bl (b:Bool)|int (i:Int)|str (x:Str)|byt (b:Array UInt8)|flt (b:UInt64)|ref (a:Δ)|ty (n:String)
 deriving DecidableEq
abbrev _root_.Ν:=Option V
abbrev _root_.Ε:=List V
def G8:V->Γ->Prop
 | .non,u=>u=Γ.none
 | .bl b,u=>u=Γ.bool b
 | .int i,u=>∃t,u=Γ.int i t
 | .str x,u=>∃t,u=Γ.str x t
 | .byt b,u=>∃t,u=Γ.bytes b t
 | .flt b,u=>∃t,u=Γ.float b t
 | .ref a,u=>u=Γ.ref a
 | .ty n,u=>u=Γ.type n
abbrev GZ:Ε->Ζ->Prop:=Paired G8
theorem GZ.length{xs:Ε}{us:Ζ}(r:GZ xs us):xs.length=us.length:=Paired.length r
theorem GZ.get:∀{xs:Ε} {us:Ζ} {i:Nat} {x:V},GZ xs us->xs[i]? =↑x->∃u,us[i]? =↑u/\G8 x u
 |_,_,_,_,.nil,e=>by simp at e
 |_,_,0,_,.cons r _,e=>by simp at e;subst e;exact#[_,Z,r]
 |_,_,i+1,x,.cons _ t,e=>by
  obtain⟨u,h1,a⟩:=GZ.get (i:=i) (x:=x) t (by simpa using e)
  exact#[u,by simpa using h1,a]
theorem GZ.set{x:V}{u:Γ}(r:G8 x u):∀{xs:Ε} {us:Ζ} (i:Nat),GZ xs us->GZ (xs.set i x) (us.set i u)
 |_,_,_,.nil=> .nil
 |_,_,0,.cons _ t=> .cons r t
 |_,_,i+1,.cons q t=> .cons q (GZ.set r i t)
theorem GZ.append:∀{xs ys:Ε} {us a:Ζ},GZ xs us->GZ ys a->GZ (xs++ys) (us++a)
 |_,_,_,_,.nil,s=>s
 |_,_,_,_,.cons r t,s=> .cons r (GZ.append t s)
theorem GZ.take:∀{xs:Ε} {us:Ζ} (n:Nat),GZ xs us->GZ (xs.take n) (us.take n)
 |_,_,0,_=> .nil
 |_,_,_+1,.nil=> .nil
 |_,_,n+1,.cons r t=> .cons r (GZ.take n t)
theorem GZ.drop:∀{xs:Ε} {us:Ζ} (n:Nat),GZ xs us->GZ (xs.drop n) (us.drop n)
 |_,_,0,r=>r
 |_,_,_+1,.nil=> .nil
 |_,_,n+1,.cons _ t=>GZ.drop n t
def IM:Ν->Ο->Prop
 |some v,↑u=>G8 v u
 |none,none=>True
 |_,_=>False
def KV{κ:Type}:List (κ×V)->List (κ×Γ)->Prop:=Paired λ(p:κ×V) (q:κ×Γ)=>p.1=q.1/\G8 p.2 q.2
def kV:qJ->V
 | .inl i=> .int i
 | .inr x=> .str x
inductive HO where
 |lst (xs:Ε)
 |tup (xs:Ε)
 |dK (kvs:List (qJ×V))|dT (kvs:List (List qJ×V))
 |set (S:Int->Bool) (n:Nat)
 |ins (C dx:Δ) (fs:List (Str×V))
 |own (x:Δ)
 |xd (fs:List (Str×V))
 |met (f x:Δ)
 |rng (lo hi:Int)
 |frz (o:Obj) (u:HO)
 |tbl (ps:Array Γ)
 |ext (φ:Ψ->Prop)
abbrev Hp:=Δ->Option HO
def GW(H:Hp)(a:Δ)(o:HO):Hp:=λb=>if b=a then ↑o else H b
theorem qc{H:Hp}{a:Δ}{o:HO}:GW H a o a=↑o:=by unfold GW;rw[Jc Z]
theorem qm{H:Hp}{a b:Δ}{o:HO}(h:b≠a):GW H a o b=H b:=by unfold GW;rw[Jb h]
theorem zH{H:Hp}{a b:Δ}{o u:HO}(h:H a=↑o)(h':H b=↑u)(d:o≠u):a≠b:=by
 intro e;subst e;rw[h]at h';exact d (JA h')
theorem qo{H:Hp}{a b:Δ}{o:HO}(h:H a=↑o)(h':H b=none):a≠b:=by
 intro e;subst e;rw[h]at h';cases h'
section
variable(P:Ξ)(w:Ω)
def Hv(H:Hp)(h:Ψ)(a:Δ):HO->Prop
 | .lst xs=>xs.length<=ζ/\∃(its:Ζ) (n:Nat),GZ xs its/\h.get? a=some {cls:= .type "list",data:= .seq its.toArray n}
 | .tup xs=>xs.length<=ζ/\∃its:Ζ,GZ xs its/\IsTup h a its.toArray
 | .dK kvs=>kvs.length<=ζ/\(a==sysModules)=false/\∃vs,KV kvs vs/\h.DictOf (qN P w) a vs
 | .dT kvs=>kvs.length<=ζ/\(a==sysModules)=false/\∃xs:List (List qJ×Δ×Γ),
   Paired (λ(p:List qJ×V) (q:List qJ×Δ×Γ)=>p.1=q.1/\H q.2.1=↑(.tup (p.1.map kV))/\G8 p.2 q.2.2) kvs xs/\
   ∃o es ep,h.get? a=↑o/\o.ExactDict/\o.data= .dict es ep/\es.toList=xs.map (entryOfKey (tupleKind (qN P w)))/\(xs.map (·.1)).Nodup
 | .set S n=>h.SetOf (intKind P w) a S n
 | .ins C dx fs=>H dx=↑(.own a)/\fs.length<=1000/\dx≠a/\h.get? a=↑(PySem.W.instObj C dx)/\
   ∃mA,h.Ns1 dx mA/\(∀f,IM (fs.lookup f) (mA f))/\PySem.Within mA (fs.map (·.1))
 | .own _=>∃o,h.get? a=↑o
 | .xd fs=>∃mA,h.Ns1 a mA/\∀f,IM (fs.lookup f) (mA f)
 | .rng lo hi=>∃t u v,h.get? a=some {cls:= .type "range",data:= .fields (List.toArray [.int lo t,.int hi u,.int 1 v])}
 | .frz o u=>h.get? a=↑o/\Hv H h a u
 | .tbl ps=>h.get? a=some {cls:= .none,data:= .fields ps}
 | .met f x=>h.get? a=↑(PySem.W.methodObj (.ref f) (.ref x))
 | .ext φ=>φ h/\(∃o,h.get? a=↑o)/\∀h1 c:Ψ,φ h1->(∀o,h1.get? a=↑o->c.get? a=↑o)->φ c
def IZ(H:Hp)(h:Ψ):Prop:=∀a o,H a=↑o->Hv P w H h a o
end
section
variable{P:Ξ}{w:Ω}{H H':Hp}{h h':Ψ}{a:Δ}{o:HO}
theorem Hv.lt(x:Hv P w H h a o):a<h.objs.size:=by
 cases o with
 |lst xs=>obtain⟨_,_,_,_,e⟩:=x;exact Jj e
 |tup xs=>obtain⟨_,_,_,p⟩:=x;exact p.lt
 |dK kvs=>obtain⟨_,_,_,_,o,_,_,e,_⟩:=x;exact Jj e
 |dT kvs=>obtain⟨_,_,_,_,o,_,_,e,_⟩:=x;exact Jj e
 |set S n=>obtain⟨o,_,_,_,e,_⟩:=x;exact Jj e
 |ins C dx fs=>obtain⟨_,_,_,e,_⟩:=x;exact Jj e
 |own y=>obtain⟨_,e⟩:=x;exact Jj e
 |xd fs=>obtain⟨_,⟨_,_,_,e,_⟩,_⟩:=x;exact Jj e
 |rng lo hi=>obtain⟨_,_,_,e⟩:=x;exact Jj e
 |frz ob u=>obtain⟨e,_⟩:=x;exact Jj e
 |tbl ps=>exact Jj (show h.get? a=↑_ from x)
 |met f y=>exact Jj (show h.get? a=↑_ from x)
 |ext φ=>obtain⟨_,⟨_,e⟩,_⟩:=x;exact Jj e
theorem Paired.mapP{c d:Type}{F G:c->d->Prop}:∀{l₁:List c} {l₂:List d},Paired F l₁ l₂->(∀a b,F a b->G a b)->Paired G l₁ l₂
 |_,_,.nil,_=> .nil
 |_,_,.cons r t,f=> .cons (f _ _ r) (Paired.mapP t f)
theorem Hv.stay(x:Hv P w H h a o)(k:∀b u,(b=a\/H b=↑(.own a))->h.get? b=↑u->h'.get? b=↑u)
  (ho:∀b,H b=↑(.own a)->H' b=↑(.own a))(m:∀b xs,H b=↑(.tup xs)->H' b=↑(.tup xs)):Hv P w H' h' a o:=by
 induction o with
 |lst xs=>obtain⟨z,i,n,r,e⟩:=x;exact#[z,i,n,r,k _ _ (.inl Z) e]
 |tup xs=>obtain⟨z,i,r,g,e,c⟩:=x;exact#[z,i,r,g,k _ _ (.inl Z) e,c]
 |dK kvs=>obtain⟨z,y,vs,r,g,es,ep,e,c⟩:=x;exact#[z,y,vs,r,g,es,ep,k _ _ (.inl Z) e,c]
 |dT kvs=>
  obtain⟨z,y,xs,r,g,es,ep,e,c⟩:=x
  exact#[z,y,xs,Paired.mapP r λp q z=>#[z.1,m _ _ z.2.1,z.2.2],g,es,ep,k _ _ (.inl Z) e,c]
 |set S n=>obtain⟨g,es,ep,t,e,c⟩:=x;exact#[g,es,ep,t,k _ _ (.inl Z) e,c]
 |ins C dx fs=>
  obtain⟨d,z,j,e,mA,⟨od,es,ep,l,c⟩,r⟩:=x
  exact#[ho _ d,z,j,k _ _ (.inl Z) e,mA,#[od,es,ep,k _ _ (.inr d) l,c],r]
 |own y=>obtain⟨g,e⟩:=x;exact#[g,k _ _ (.inl Z) e]
 |xd fs=>obtain⟨mA,⟨od,es,ep,e,c⟩,r⟩:=x;exact#[mA,#[od,es,ep,k _ _ (.inl Z) e,c],r]
 |rng lo hi=>obtain⟨t,u,v,e⟩:=x;exact#[t,u,v,k _ _ (.inl Z) e]
 |frz g u ih=>obtain⟨e,q⟩:=x;exact#[k _ _ (.inl Z) e,ih q]
 |tbl ps=>
  have e:h.get? a=some {cls:= .none,data:= .fields ps}:=x
  show h'.get? a=some {cls:= .none,data:= .fields ps}
  exact k a _ (.inl Z) e
 |met f y=>
  have e:h.get? a=↑(W.methodObj (.ref f) (.ref y)):=x
  show h'.get? a=↑(W.methodObj (.ref f) (.ref y))
  exact k a _ (.inl Z) e
 |ext φ=>obtain⟨p,⟨o,e⟩,st⟩:=x;exact#[st _ _ p λo q=>k _ _ (.inl Z) q,#[o,k _ _ (.inl Z) e],st]
theorem IZ.lt(x:IZ P w H h)(e:H a=↑o):a<h.objs.size:=(x a o e).lt
theorem IZ.fresh(x:IZ P w H h)(e:h.objs.size<=a):H a=none:=by
 cases q:H a with
 |none=>rfl
 |some u=>exact absurd (JO (x.lt q) e) (EU _)
theorem IZ.kept(x:IZ P w H h)(k:∀b u,h.get? b=↑u->h'.get? b=↑u):IZ P w H h':=λa o e=>
 (x a o e).stay (λb u _ q=>k b u q) (λ_ q=>q) λ_ _ q=>q
theorem IZ.laid(x:IZ P w H h)(k:∀b u,h.get? b=↑u->h'.get? b=↑u)(hp:h.objs.size<=a)(d:Hv P w (GW H a o) h' a o):IZ P w (GW H a o) h':=λb u e=>by
 have g:=x.fresh hp
 by_cases f:b=a
 ·subst f;rw[qc]at e;cases e;exact d
 ·rw[qm f]at e
  exact(x b u e).stay (λc v _ q=>k c v q) (λc q=>by rw[qm (qo q g)];exact q) λc xs q=>by rw[qm (qo q g)];exact q
end
def Rd(H:Hp)(a:Δ)(u:HO):Prop:=H a=↑u\/∃o,H a=↑(.frz o u)
theorem Rd.ok{P:Ξ}{w:Ω}{H:Hp}{h:Ψ}{a:Δ}{u:HO}(r:Rd H a u)(x:IZ P w H h):Hv P w H h a u:=by
 rcases r with r|⟨o,r⟩
 ·exact x a u r
 ·obtain⟨_,q⟩:=x a _ r
  exact q
def uf:Option HO->Prop
 |some (.lst _)=>True
 |some (.dK _)=>True
 |some (.dT _)=>True
 |some (.set _ _)=>True
 |some (.ins _ _ _)=>True
 |some (.ext _)=>True
 |_=>False
section
variable{P:Ξ}{w:Ω}{H:Hp}{h h':Ψ}{x e:Δ}{o':HO}
theorem IZ.write(ok:IZ P w H h)(g:uf (H x))(he:e=x\/H e=↑(.own x))(k:∀b u,b≠e->h.get? b=↑u->h'.get? b=↑u)(m:∃u,h'.get? e=↑u)
  (l:Hv P w (GW H x o') h' x o'):IZ P w (GW H x o') h':=λb u q=>by
 have d:∀c y,H c=↑(.own y)->c≠x:=λc y r z=>by subst z;rw[r]at g;exact g
 have f:∀c xs,H c=↑(.tup xs)->c≠x:=λc xs r z=>by subst z;rw[r]at g;exact g
 by_cases i:b=x
 ·subst i;rw[qc]at q;cases q;exact l
 ·rw[qm i]at q
  by_cases a:b=e
  ·have n:H b=↑(.own x):=by
    rcases he with z|z
    ·exact absurd (a.trans z) i
    ·rw[a];exact z
   rw[q]at n;cases n
   obtain⟨v,o⟩:=m
   exact#[v,by rw[a];exact o]
  ·refine(ok b u q).stay (λc v j r=>k c v ?_ r) (λc r=>by rw[qm (d c b r)];exact r) λc xs r=>by rw[qm (f c xs r)];exact r
   rcases j with rfl|j
   ·exact a
   ·rintro rfl
    rcases he with z|z
    ·exact d c b j z
    ·rw[j]at z;cases z;exact i Z
end
structure Un(fs ex:Η)(H H':Hp)(h h':Ψ):Prop where
 keep:∀b o,h.get? b=↑o->H b=none->b∉fs->b∉ex->h'.get? b=↑o
 slot:∀b o,h.get? b=↑o->H b=none->b∈fs->b∉ex->∃sl,h'.get? b=some {o with slots:=sl}
 free:∀b o,h.get? b=↑o->H b=none->b∉ex->H' b=none
 there:∀b o,h.get? b=↑o->b∉ex->∃o',h'.get? b=↑o'
 tups:∀b xs,H b=↑(.tup xs)->H' b=↑(.tup xs)
 frzs:∀b o u,H b=↑(.frz o u)->H' b=↑(.frz o u)
 tbls:∀b ps,H b=↑(.tbl ps)->∃more,H' b=↑(.tbl (ps++more))
section
variable{fs ex:Η}{H H1:Hp}{h h1 h':Ψ}{a x e:Δ}{o:HO}
theorem Un.any(u:Un fs ex H H1 h h1){b:Δ}{ob:Obj}(q:h.get? b=↑ob)(n:H b=none)(hx:b∉ex):∃c,h1.get? b=some {ob with slots:=c}:=by
 by_cases a:b∈fs
 ·exact u.slot b ob q n a hx
 ·exact#[ob.slots,u.keep b ob q n a hx]
theorem Un.kept(k:∀b u,h.get? b=↑u->h'.get? b=↑u):Un fs ex H H h h':=
 #[λb a q _ _ _=>k b a q,λb a q _ _ _=>#[a.slots,k b a q],λ_ _ _ n _=>n,λb a q _=>#[a,k b a q],λ_ _ q=>q,λ_ _ _ q=>q,λ_ ps q=>#[(List.toArray []),by rw[q];simp]]
theorem Un.refl:Un fs ex H H h h:=Un.kept λ_ _ q=>q
theorem Un.laid(k:∀b u,h.get? b=↑u->h'.get? b=↑u)(hp:h.objs.size<=a)(hn:H a=none):Un fs ex H (GW H a o) h h' where
 keep:=λb u q _ _ _=>k b u q
 slot:=λb u q _ _ _=>#[u.slots,k b u q]
 free:=λb u q n _=>by rw[qm (Jk (JO (Jj q) hp))];exact n
 there:=λb u q _=>#[u,k b u q]
 tups:=λb xs q=>by rw[qm (qo q hn)];exact q
 frzs:=λb u xs q=>by rw[qm (qo q hn)];exact q
 tbls:=λb ps q=>#[(List.toArray []),by rw[qm (qo q hn),q];simp]
theorem Un.write(c:uf (H x))(he:e=x\/H e=↑(.own x))(k:∀b u,b≠e->h.get? b=↑u->h'.get? b=↑u)(f:∃u,h'.get? e=↑u):Un fs ex H (GW H x o) h h':=by
 have g:∀b,H b=none->b≠x:=λb n z=>by subst z;rw[n]at c;exact c
 have i:∀b,H b=none->b≠e:=λb n z=>by
  subst z;rcases he with r|r
  ·exact g b n r
  ·rw[n]at r;cases r
 have d:∀b u,H b=↑u->¬uf ↑u->b≠x:=λb u q nm z=>by subst z;rw[q]at c;exact nm c
 refine#[λb u q n _ _=>k b u (i b n) q,λb u q n _ _=>#[u.slots,k b u (i b n) q],λb u q n _=>by rw[qm (g b n)];exact n,λb u q _=>?_,
  λb xs q=>by rw[qm (d b _ q λz=>z)];exact q,λb u xs q=>by rw[qm (d b _ q λz=>z)];exact q,λb ps q=>#[(List.toArray []),by rw[qm (d b _ q λz=>z),q];simp]]
 by_cases a:b=e
 ·subst a;exact f
 ·exact#[u,k b u a q]
end
def yT(h:Ψ)(H:Hp):Η:=(List.range h.objs.size).filter λa=>(H a).isSome
def bU(h:Ψ)(H:Hp):Ψ:=PySem.W.hideAll h (yT h H)
theorem vh(h:Ψ)(H:Hp):(bU h H).objs.size=h.objs.size:=W.hideAll_size _ _
theorem xv{h:Ψ}{H:Hp}{b:Δ}{o:Obj}(e:h.get? b=↑o)(n:H b=none):(bU h H).get? b=↑o:=
 W.hideAll_get _ e λa=>by
  have q:(H b).isSome=true:=(List.mem_filter.mp a).2
  rw[n]at q;simp at q
theorem AW{h:Ψ}{H:Hp}{b:Δ}{o:Obj}(e:(bU h H).get? b=↑o):h.get? b=↑o/\H b=none:=by
 have a:h.get? b=↑o:=W.of_hideAll (yT h H) e
 refine#[a,?_]
 cases q:H b with
 |none=>rfl
 |some x=>
  have c:b∈yT h H:=List.mem_filter.mpr #[J1.mpr (Jj a),by simp [q]]
  have z:(bU h H).get? b=none:=W.hideAll_none (yT h H) c
  rw[z]at e;cases e
structure N0(K:ι)(mg:GQ)(base:Ψ):Prop where
 kin:K.In base
 glob:base.Ns η mg
 blt:∃mb,base.Ns builtinsNs mb/\∀x:Str,x≠"__name__"->mb x=bootBuiltins x
 nolimit:base.NoLimit
structure Cx where
 prog:Ξ
 w:Ω
 K:ι
 mg:Str->Ο
 base:Ψ
 A:Around
 N:Α
 s₀:Θ
 H₀:Hp
 env:Env
 outer:Υ
 stack:Υ
 ex:Η
 fn:Str->Bool
 calm:Bool
 pn:List (Δ×Obj)
 xe:Γ->Θ->Prop
def ad(l:Υ):Η:=l.filterMap (·.frame)
abbrev Cx.fs(X:Cx):Η:=ad X.outer
def Dl(a:Scope)(x:Str):Prop:=a.names.lookup x=some .local\/a.names.lookup x=some .cell\/a.names.lookup x=some .free
def cH(a:Scope)(x:Str):Prop:=a.names.lookup x=some .local\/a.names.lookup x=some .cell
def Er(a:Env)(h:Ψ)(m:GQ)(x:Str)(u:Γ):Prop:=
 (a.kindOf x=some .local/\m x=↑u)\/((a.kindOf x=some .cell\/a.kindOf x=some .free)/\∃c,a.cells.lookup x=↑c/\h.IsCell c ↑u)
structure Cx.Ok(X:Cx):Prop where
 mod:N0 X.K X.mg X.base
 kind:X.env.scope.kind= .function
 glob:X.env.globals=η
 blt:X.env.builtins=builtinsNs
 above:X.s₀.heap.objs.size<=X.env.locals
 inj:∀x y c,X.env.cells.lookup x=↑c->X.env.cells.lookup y=↑c->x=y
 has:∀x,(X.env.kindOf x=some .cell\/X.env.kindOf x=some .free)->∃c,X.env.cells.lookup x=↑c
 cab:∀x c,X.fn x=true->X.env.cells.lookup x=↑c->X.s₀.heap.objs.size<=c
 hd:X.calm=true->X.A.handled=none
 frames:X.A.frames=↑X.stack
 stk:X.stack=X.outer\/(X.stack=X.env::X.outer/\X.env.frame=↑X.env.locals)
 exf:∀b∈X.ex,b≠X.env.locals/\∀x c,X.env.cells.lookup x=↑c->c≠b
 bs:∀b o,X.base.get? b=↑o->X.s₀.heap.get? b=↑o/\X.H₀ b=none
 bsz:X.base.objs.size<=X.s₀.heap.objs.size
 noex:∀b o,X.base.get? b=↑o->b∉X.ex
 exfs:∀b∈X.ex,b∉X.fs
 funs:X.s₀.heap.FunFrames X.base X.outer
 frf:∀b∈X.fs,X.H₀ b=none
structure GX(X:Cx)(Oa:GR)(σ:List Ν)(H:Hp)(s:Θ):Prop where
 ok:X.Ok
 os:s.os=X.s₀.os
 bare:AllBare s.gens
 base:Un X.fs X.ex X.H₀ H X.s₀.heap s.heap
 loc:∃m,s.heap.Ns X.env.locals m/\∀(i:Nat) (x:Str) (v:V),X.N[i]? =↑x->σ[i]? =↑(↑v)->Dl X.env.scope x->∃u,G8 v u/\Er X.env s.heap m x u
 cell:∀x c,X.env.cells.lookup x=↑c->∃v,s.heap.IsCell c v
 free:H X.env.locals=none
 freeC:∀x c,X.env.cells.lookup x=↑c->H c=none
 pin:∀p∈X.pn++Oa,s.heap.get? p.1=↑p.2/\H p.1=none/\p.1≠X.env.locals/\p.1∉X.fs/\∀v,p.2.data≠ .cell v
 hok:IZ X.prog X.w H s.heap
 len:σ.length=X.N.length
section
variable{X:Cx}{Oa:GR}{σ:List Ν}{H H':Hp}{s:Θ}{h':Ψ}
theorem Cx.Ok.nofr(ok:X.Ok){b:Δ}{o:Obj}(e:X.base.get? b=↑o):b∉X.fs:=λa=>by
 have:=(ok.funs.mem a).1
 rw[e]at this;cases this
theorem GX.bs(I:GX X Oa σ H s):∀b o,X.base.get? b=↑o->s.heap.get? b=↑o/\H b=none:=λb o e=>
 #[I.base.keep b o (I.ok.bs b o e).1 (I.ok.bs b o e).2 (I.ok.nofr e) (I.ok.noex b o e),I.base.free b o (I.ok.bs b o e).1 (I.ok.bs b o e).2 (I.ok.noex b o e)]
theorem GX.bk(I:GX X Oa σ H s):∀b o,X.base.get? b=↑o->s.heap.get? b=↑o:=λb o e=>(I.bs b o e).1
theorem GX.mod(I:GX X Oa σ H s):N0 X.K X.mg X.base:=I.ok.mod
theorem GX.kIn(I:GX X Oa σ H s):X.K.In s.heap:=I.ok.mod.kin.keeps I.bk
theorem GX.lt(I:GX X Oa σ H s):X.env.locals<s.heap.objs.size:=let⟨_,hn,_⟩:=I.loc;hn.lt
theorem GX.sz(I:GX X Oa σ H s):X.s₀.heap.objs.size<=s.heap.objs.size:=JG I.ok.above (F5 I.lt)
theorem GX.nofs(I:GX X Oa σ H s){a:Δ}(h:s.heap.objs.size<=a):a∉X.fs:=λd=>by
 obtain⟨_,o,c,_⟩:=I.ok.funs.mem d;exact absurd (JO (Jj c) (JG I.sz h)) (EU _)
theorem GX.cne(I:GX X Oa σ H s):∀x c,X.env.cells.lookup x=↑c->c≠X.env.locals:=λx c e z=>by
 obtain⟨v,o,f,g⟩:=I.cell x c e;obtain⟨m,⟨o',es,ep,a,d,_⟩,_⟩:=I.loc;rw[z,a]at f;cases f;rw[d]at g;cases g
theorem GX.funs(I:GX X Oa σ H s):s.heap.FunFrames X.base X.outer:=by
 have all:∀(l:Υ),(∀b∈ad l,b∈X.fs)->X.s₀.heap.FunFrames X.base l->s.heap.FunFrames X.base l:=by
  intro l
  induction l with
  |nil=>intro _ _;trivial
  |cons env r ih=>
   intro f g;obtain⟨hk,⟨L,o,d,h,i,j⟩,m⟩:=g;have a:L∈X.fs:=f L (by unfold ad;rw[JR,d];exact JB)
   obtain⟨n,e⟩:=I.base.slot L o i (I.ok.frf L a) a λz=>I.ok.exfs L z a
   exact#[hk,#[L,_,d,h,e,j],ih (λb c=>f b (by unfold ad;rw[JR,d];exact JM _ c)) m]
 exact all X.outer (λ_ c=>c) I.ok.funs
theorem GX.stack(I:GX X Oa σ H s):s.heap.FunFrames X.base X.stack:=by
 rcases I.ok.stk with e|⟨e,a⟩
 ·rw[e];exact I.funs
 ·rw[e]
  obtain⟨m,c,_⟩:=I.loc;refine .cons (by rw[I.ok.kind];decide) a c ?_ I.funs
  exact Ψ.get?_none_of_le (JG I.ok.bsz I.ok.above)
theorem GX.stkSub(I:GX X Oa σ H s):∀b∈ad X.stack,b∈X.env.locals::X.fs:=λb a=>by
 rcases I.ok.stk with e|⟨e,c⟩
 ·rw[e]at a;exact JM _ a
 ·rw[e]at a
  unfold ad at a;rw[JR,c]at a;exact a
theorem GX.stkFree(I:GX X Oa σ H s):∀b∈ad X.stack,H b=none:=λb a=>by
 rcases Jm.mp (I.stkSub b a)with e|a
 ·rw[e];exact I.free
 ·obtain⟨_,o,c,_⟩:=I.ok.funs.mem a
  exact I.base.free b o c (I.ok.frf b a) λz=>I.ok.exfs b z a
theorem GX.step{g':Array GenState}{t':Nat}{d':Drawn}{ch:Η}(I:GX X Oa σ H s)
  (j:∀b∈ch,(b∈X.ex\/X.s₀.heap.objs.size<=b)/\b≠X.env.locals/\(∀x c,X.env.cells.lookup x=↑c->c≠b)/\∀p∈X.pn++Oa,p.1≠b)
  (keep:∀b o,b≠X.env.locals->b∉X.fs->b∉ch->s.heap.get? b=↑o->H b=none->h'.get? b=↑o)
  (y:∀b o,b≠X.env.locals->b∈X.fs->b∉ch->s.heap.get? b=↑o->H b=none->∃N,h'.get? b=some {o with slots:=N})(f:∀b o,b∉ch->s.heap.get? b=↑o->H b=none->H' b=none)
  (A:∀b o,b∉ch->s.heap.get? b=↑o->∃o',h'.get? b=↑o')
  (K:∀b xs,H b=↑(.tup xs)->H' b=↑(.tup xs))(G:∀b o u,H b=↑(.frz o u)->H' b=↑(.frz o u))(E:∀b ps,H b=↑(.tbl ps)->∃J,H' b=↑(.tbl (ps++J)))
  (ns:∀m,s.heap.Ns X.env.locals m->h'.Ns X.env.locals m)(M:IZ X.prog X.w H' h')(hg:AllBare g'):
  GX X Oa σ H' {s with heap:=h',gens:=g',drawn:=d',toks:=t'}:=by
 have D:∀b o,X.s₀.heap.get? b=↑o->b≠X.env.locals:=λb o e=>Jk (JO (Jj e) I.ok.above)
 have t:∀b o,X.s₀.heap.get? b=↑o->b∉X.ex->b∉ch:=λb o e a B=>by
  rcases(j b B).1 with z|z
  ·exact a z
  ·exact absurd (JO (Jj e) z) (EU _)
 have h:∀x c,X.env.cells.lookup x=↑c->∀v,s.heap.IsCell c v->h'.IsCell c v:=λx c e v ⟨o,C,L⟩=>by
  have g:c∉ch:=λz=>(j c z).2.2.1 x c e Z
  by_cases R:c∈X.fs
  ·obtain⟨N,q⟩:=y c o (I.cne x c e) R g C (I.freeC x c e)
   exact#[_,q,L]
  ·exact#[o,keep c o (I.cne x c e) R g C (I.freeC x c e),L]
 refine#[I.ok,I.os,hg,#[λb o e n B a=>?_,λb o e n B a=>?_,λb o e n a=>?_,λb o e a=>?_,λb xs e=>K b xs (I.base.tups b xs e),λb o xs e=>G b o xs (I.base.frzs b o xs e),λb ps e=>?_],?_,λx c e=>?_,?_,λx c e=>?_,λp P=>?_,M,I.len]
 ·exact keep b o (D b o e) B (t b o e a) (I.base.keep b o e n B a) (I.base.free b o e n a)
 ·obtain⟨N,w⟩:=I.base.slot b o e n B a
  obtain⟨O,F⟩:=y b _ (D b o e) B (t b o e a) w (I.base.free b o e n a)
  exact#[O,F]
 ·obtain⟨o',w⟩:=I.base.there b o e a
  exact f b o' (t b o e a) w (I.base.free b o e n a)
 ·obtain⟨o',w⟩:=I.base.there b o e a
  exact A b o' (t b o e a) w
 ·obtain⟨Y,w⟩:=I.base.tbls b ps e
  obtain⟨U,F⟩:=E b _ w
  exact#[Y++U,by rw[F,Array.append_assoc]]
 ·obtain⟨m,T,hl⟩:=I.loc
  refine#[m,ns m T,λi x v w F W=>?_]
  obtain⟨u,r,l⟩:=hl i x v w F W;refine#[u,r,?_]
  rcases l with l|⟨k,c,e,z⟩
  ·exact .inl l
  ·exact .inr #[k,c,e,h x c e _ z]
 ·obtain⟨v,z⟩:=I.cell x c e
  exact#[v,h x c e v z]
 ·obtain⟨m,⟨o,_,_,C,_⟩,_⟩:=I.loc
  exact f _ o (λz=>(j _ z).2.1 Z) C I.free
 ·obtain⟨v,o,C,L⟩:=I.cell x c e
  exact f c o (λz=>(j c z).2.2.1 x c e Z) C (I.freeC x c e)
 ·obtain⟨e,n,S,Q,d⟩:=I.pin p P
  have g:p.1∉ch:=λz=>(j p.1 z).2.2.2 p P Z
  exact#[keep p.1 p.2 S Q g e n,f p.1 p.2 g e n,S,Q,d]
theorem GX.un{t':Nat}(I:GX X Oa σ H s)(u:Un X.fs [] H H' s.heap h')(c:IZ X.prog X.w H' h'):GX X Oa σ H' {s with heap:=h',toks:=t'}:=by
 obtain⟨m,⟨o,es,ep,h,r⟩,_⟩:=id I.loc;obtain⟨p,i⟩:=u.any h I.free (by simp)
 exact I.step (g':=s.gens) (d':=s.drawn) (ch:=[]) (λ_ z=>nomatch z) (λb o _ g _ e n=>u.keep b o e n g (by simp)) (λb o _ g _ e n=>u.slot b o e n g (by simp)) (λb o _ e n=>u.free b o e n (by simp)) (λb o _ e=>u.there b o e (by simp)) u.tups u.frzs u.tbls (λq j=>by
  obtain⟨o',d,f,a,l⟩:=j;rw[h]at a;cases a
  exact#[_,d,f,i,l]) c I.bare
theorem GX.call{g':Array GenState}{t':Nat}{d':Drawn}{ch:Η}(I:GX X Oa σ H s)(u:Un (ad X.stack) ch H H' s.heap h')(g:IZ X.prog X.w H' h')(hg:AllBare g')
  (f:∀b∈ch,(b∈X.ex\/X.s₀.heap.objs.size<=b)/\b≠X.env.locals/\(∀x c,X.env.cells.lookup x=↑c->c≠b)/\∀p∈X.pn++Oa,p.1≠b):
  GX X Oa σ H' {s with heap:=h',gens:=g',drawn:=d',toks:=t'}:=by
 obtain⟨m,⟨o,es,ep,l,r⟩,_⟩:=id I.loc;obtain⟨w,j⟩:=u.any l I.free λz=>(f _ z).2.1 Z
 exact I.step (ch:=ch) f (λb o j t a e n=>u.keep b o e n (λz=>(Jm.mp (I.stkSub b z)).elim j t) a) (λb o _ _ a e n=>u.any e n a) (λb o a e n=>u.free b o e n a) (λb o a e=>u.there b o e a) u.tups u.frzs u.tbls (λy q=>by
  obtain⟨o',h,i,d,v⟩:=q;rw[l]at d;cases d
  exact#[_,h,i,j,v]) g hg
theorem GX.turned{t':Nat}{it:Δ}(I:GX X Oa σ H s)(k:∀b o,b≠it->s.heap.get? b=↑o->h'.get? b=↑o)(hn:H it=none)(f:it≠X.env.locals)
  (h1:it∈X.ex\/X.s₀.heap.objs.size<=it)(h2:∀x c,X.env.cells.lookup x=↑c->c≠it)(i:∀p∈X.pn++Oa,p.1≠it):GX X Oa σ H {s with heap:=h',toks:=t'}:=by
 have d:∀b u,H b=↑u->b≠it:=λb u e z=>by rw[z,hn]at e;cases e
 refine I.step (g':=s.gens) (d':=s.drawn) (ch:=[it]) (λb h=>?_) (λb o _ _ a e _=>k b o (λz=>a (by simp [z])) e) (λb o _ _ a e _=>#[o.slots,k b o (λz=>a (by simp [z])) e]) (λ_ _ _ _ n=>n)
  (λb o a e=>#[o,k b o (λz=>a (by simp [z])) e]) (λ_ _ e=>e) (λ_ _ _ e=>e) (λb ps e=>#[(List.toArray []),by rw[e];simp]) (λm g=>?_) (λb u e=>?_) I.bare
 ·have e:b=it:=by simpa using h
  subst e
  exact#[h1,f,h2,i]
 ·obtain⟨o,es,ep,j,r⟩:=g
  exact#[o,es,ep,k _ o (Ne.symm f) j,r]
 ·refine(I.hok b u e).stay (λc v a q=>k c v ?_ q) (λ_ q=>q) λ_ _ q=>q
  rcases a with z|z
  ·rw[z];exact d b u e
  ·exact d c _ z
theorem GX.tok(I:GX X Oa σ H s)(t:Nat):GX X Oa σ H {s with toks:=t}:=I.un (h':=s.heap) (t':=t) Un.refl I.hok
theorem GX.kept{t':Nat}(I:GX X Oa σ H s)(k:∀b u,s.heap.get? b=↑u->h'.get? b=↑u):GX X Oa σ H {s with heap:=h',toks:=t'}:=I.un (Un.kept k) (I.hok.kept k)
theorem GX.laid{a:Δ}{o:HO}{t':Nat}(I:GX X Oa σ H s)(k:∀b u,s.heap.get? b=↑u->h'.get? b=↑u)(hp:s.heap.objs.size<=a)(c:Hv X.prog X.w (GW H a o) h' a o):
  GX X Oa σ (GW H a o) {s with heap:=h',toks:=t'}:=I.un (Un.laid k hp (I.hok.fresh hp)) (I.hok.laid k hp c)
theorem GX.write{x e:Δ}{o:HO}{t':Nat}(I:GX X Oa σ H s)(d:uf (H x))(he:e=x\/H e=↑(.own x))(k:∀b u,b≠e->s.heap.get? b=↑u->h'.get? b=↑u)(a:∃u,h'.get? e=↑u)
  (c:Hv X.prog X.w (GW H x o) h' x o):GX X Oa σ (GW H x o) {s with heap:=h',toks:=t'}:=I.un (Un.write d he k a) (I.hok.write d he k a c)
theorem GX.pins_of{pins':GR}(I:GX X Oa σ H s)(h:∀p∈pins',s.heap.get? p.1=↑p.2/\H p.1=none/\p.1≠X.env.locals/\p.1∉X.fs/\∀v,p.2.data≠ .cell v):GX X pins' σ H s:=
 #[I.ok,I.os,I.bare,I.base,I.loc,I.cell,I.free,I.freeC,λp a=>(JL.mp a).elim (λz=>I.pin p (FN _ z)) (h p),I.hok,I.len]
theorem kM{N:Α}(hN:N.Nodup){i j:Nat}{x:Str}(a:N[i]? =↑x)(b:N[j]? =↑x):i=j:=by
 obtain⟨h1,c⟩:=Js.mp a;obtain⟨e,d⟩:=Js.mp b
 exact(List.getElem_inj hN).mp (c.trans d.symm)
theorem aM{M:Model}{A:Around}{E:GP}{i:Nat}{x:Str}{v:V}{u:Γ}{Q:Unit->Θ->Prop}(I:GX X Oa σ H s)(hN:X.N.Nodup)(hi:X.N[i]? =↑x)(hx:cH X.env.scope x)(r:G8 v u)
  (h:∀s',GX X Oa (σ.set i ↑v) H s'->(∃a,Ψ.SameBut a s.heap s'.heap/\(a=X.env.locals\/X.env.cells.lookup x=↑a))->Q () s')(hf:X.fn x=true\/X.env.scope.names.lookup x=some .local:=by first|exact .inl Z|exact .inr Z|assumption):ε M A (storeName X.env x u) Q E s:=by
 obtain⟨m,W,hl⟩:=id I.loc;have J:(X.env.scope.kind== .class||(X.env.scope.kind== .module&&X.env.locals != X.env.globals))=false:=by rw[I.ok.kind];rfl
 have C:i<σ.length:=by rw[I.len];exact(Js.mp hi).1
 have cne:=I.cne;have g:∀{a:Δ} {h':Ψ},(∃o,s.heap.get? a=↑o/\H a=none)->Ψ.SameBut a s.heap h'->IZ X.prog X.w H h':=λ{a h'} ha f b ob e=>by
  obtain⟨_,_,w⟩:=ha;refine(I.hok b ob e).stay (λc P t q=>(f.2 c ?_).trans q) (λ_ q=>q) λ_ _ q=>q
  rintro rfl
  rcases t with rfl|t
  ·rw[w]at e;cases e
  ·rw[w]at t;cases t
 rcases hx with hk|hk
 ·refine wpAny_storeName_local hk W (λh' U f=>?_) J
  obtain⟨oL,_,_,S,_⟩:=id W;refine h _ #[I.ok,I.os,I.bare,#[λb o e n G hx=>?_,λb o e n G hx=>?_,I.base.free,λb o e hx=>?_,I.base.tups,I.base.frzs,I.base.tbls],#[_,U,λj y v' l B e3=>?_],λy c e=>?_,I.free,I.freeC,λp Y=>?_,g #[oL,S,I.free] f,by simpa using I.len] #[_,f,.inl Z]
  ·exact(f.2 b (Jk (JO (Jj e) I.ok.above))).trans (I.base.keep b o e n G hx)
  ·obtain⟨sl,l⟩:=I.base.slot b o e n G hx
   exact#[sl,(f.2 b (Jk (JO (Jj e) I.ok.above))).trans l]
  ·obtain⟨o',l⟩:=I.base.there b o e hx
   exact#[o',(f.2 b (Jk (JO (Jj e) I.ok.above))).trans l]
  ·by_cases F:j=i
   ·subst F
    rw[hi]at l;cases l
    rw[Gd C]at B;cases B
    exact#[u,r,.inl #[hk,by simp]]
   ·rw[Ge (Ne.symm F)]at B
    obtain⟨T,r',q⟩:=hl j y v' l B e3;refine#[T,r',?_]
    rcases q with⟨k,e⟩|⟨k,c,e,z⟩
    ·refine .inl #[k,?_]
     have:y≠x:=λe=>F (kM hN l (e▸hi))
     simp [this,e]
    ·exact .inr #[k,c,e,z.sameBut f (cne y c e)]
  ·obtain⟨P,z⟩:=I.cell y c e
   exact#[P,z.sameBut f (cne y c e)]
  ·obtain⟨e,n,R,nf,d⟩:=I.pin p Y
   exact#[(f.2 p.1 R).trans e,n,R,nf,d]
 ·have D:X.fn x=true:=by
   rcases hf with z|z
   ·exact z
   ·rw[z]at hk;cases hk
  obtain⟨c,t⟩:=I.ok.has x (.inl hk)
  obtain⟨P,z⟩:=I.cell x c t;refine wpAny_storeName_cell I.ok.kind hk t z (λh' N f=>?_)
  obtain⟨oc,K,O⟩:=id z;refine h {s with heap:=h'} #[I.ok,I.os,I.bare,#[λb o e n G hx=>?_,λb o e n G hx=>?_,I.base.free,λb o e hx=>?_,I.base.tups,I.base.frzs,I.base.tbls],#[m,W.sameBut f (Ne.symm (cne x c t)),λj y v' l B e3=>?_],λy c' e=>?_,I.free,I.freeC,λp Y=>?_,g #[oc,K,I.freeC x c t] f,by simpa using I.len] #[c,f,.inr t]
  ·exact(f.2 b (Jk (JO (Jj e) (I.ok.cab x c D t)))).trans (I.base.keep b o e n G hx)
  ·obtain⟨sl,l⟩:=I.base.slot b o e n G hx
   exact#[sl,(f.2 b (Jk (JO (Jj e) (I.ok.cab x c D t)))).trans l]
  ·obtain⟨o',l⟩:=I.base.there b o e hx
   exact#[o',(f.2 b (Jk (JO (Jj e) (I.ok.cab x c D t)))).trans l]
  ·by_cases F:j=i
   ·subst F
    rw[hi]at l;cases l
    rw[Gd C]at B;cases B
    exact#[u,r,.inr #[.inl hk,c,t,N]]
   ·rw[Ge (Ne.symm F)]at B
    obtain⟨T,r',q⟩:=hl j y v' l B e3;refine#[T,r',?_]
    rcases q with q|⟨k,c',e,z'⟩
    ·exact .inl q
    ·refine .inr #[k,c',e,z'.sameBut f ?_]
     rintro rfl
     exact F (kM hN l (I.ok.inj _ _ _ e t▸hi))
  ·by_cases L:c'=c
   ·subst L;exact#[_,N]
   ·obtain⟨w2,z2⟩:=I.cell y c' e
    exact#[w2,z2.sameBut f L]
  ·obtain⟨e,n,R,nf,d⟩:=I.pin p Y
   refine#[(f.2 p.1 ?_).trans e,n,R,nf,d]
   intro q;rw[q,K]at e;have q':oc=p.2:=JA e
   exact d P (by rw[<- q'];exact O)
theorem bY{M:Model}{A:Around}{E:GP}{i:Nat}{x:Str}{v:V}{u:Γ}{Q:Unit->Θ->Prop}(I:GX X Oa σ H s)(hN:X.N.Nodup)(hi:X.N[i]? =↑x)(hx:cH X.env.scope x)(r:G8 v u)
  (h:∀s',GX X Oa (σ.set i ↑v) H s'->Q () s')(hf:X.fn x=true\/X.env.scope.names.lookup x=some .local:=by first|exact .inl Z|exact .inr Z|assumption):ε M A (storeName X.env x u) Q E s:=
 aM I hN hi hx r (λs' a _=>h s' a) hf
theorem GX.call'{s':Θ}{ch:Η}(I:GX X Oa σ H s)(ho:s'.os=s.os)(u:Un (ad X.stack) ch H H' s.heap s'.heap)(a:IZ X.prog X.w H' s'.heap)(hg:AllBare s'.gens)
  (d:∀b∈ch,(b∈X.ex\/X.s₀.heap.objs.size<=b)/\b≠X.env.locals/\(∀x c,X.env.cells.lookup x=↑c->c≠b)/\∀p∈X.pn++Oa,p.1≠b):GX X Oa σ H' s':=by
 obtain⟨h',g',d',t',o'⟩:=s';have e:o'=s.os:=ho
 subst e;exact I.call (g':=g') (t':=t') (d':=d') u a hg d
end
abbrev XK:=Γ->ν->Hp->Prop
abbrev St:=List Ν
abbrev VK:=V->Hp->Prop
abbrev TE:=St->Hp->VK->Prop
abbrev TT:=St->Hp->(Bool->Hp->Prop)->Prop
abbrev TA:=St->Hp->(Ε->Hp->Prop)->Prop
structure HY where
 nx:St->Hp->Prop
 rt:VK
 bk:St->Hp->Prop:=λ_ _=>False
 ct:St->Hp->Prop:=λ_ _=>False
abbrev TS:=HY->St->Hp->Prop
def EP(X:Cx)(Oa:GR)(σ:St)(Q:VK)(u:Γ)(s':Θ):Prop:=∃v H',GX X Oa σ H' s'/\G8 v u/\Q v H'
def TP(X:Cx)(Oa:GR)(σ:St)(Q:Bool->Hp->Prop)(b:Bool)(s':Θ):Prop:=∃H',GX X Oa σ H' s'/\Q b H'
def AP(X:Cx)(Oa:GR)(σ:St)(Q:Ε->Hp->Prop)(us:Ζ)(s':Θ):Prop:=∃vs H',GX X Oa σ H' s'/\GZ vs us/\Q vs H'
def SP(X:Cx)(Oa:GR)(D:HY)(f:Flow)(s':Θ):Prop:=
 match f with
 | .next=>∃a H',GX X Oa a H' s'/\D.nx a H'
 | .brk=>∃a H',GX X Oa a H' s'/\D.bk a H'
 | .cont=>∃a H',GX X Oa a H' s'/\D.ct a H'
 | .ret u=>∃v a H',GX X Oa a H' s'/\G8 v u/\D.rt v H'
def PE(X:Cx)(e:Φ)(t:TE):Prop:=
 ∀(Oa:GR) (s:Θ) (σ:St) (H:Hp) (Q:VK),GX X Oa σ H s->t σ H Q->ε (model X.prog X.w) X.A (eval e X.env) (EP X Oa σ Q) X.xe s
def PT(X:Cx)(e:Φ)(t:TT):Prop:=
 ∀(Oa:GR) (s:Θ) (σ:St) (H:Hp) (Q:Bool->Hp->Prop),GX X Oa σ H s->t σ H Q->ε (model X.prog X.w) X.A (isTrue e X.env (eval e X.env)) (TP X Oa σ Q) X.xe s
def PW(X:Cx)(e:Φ)(t:TT):Prop:=
 ∀(a:Sem Γ) (Oa:GR) (s:Θ) (σ:St) (H:Hp) (Q:Bool->Hp->Prop),GX X Oa σ H s->t σ H Q->ε (model X.prog X.w) X.A (isTrue e X.env a) (TP X Oa σ Q) X.xe s
theorem PW.pt{X:Cx}{e:Φ}{t:TT}(h:PW X e t):PT X e t:=h _
def PA(X:Cx)(es:Ι)(t:TA):Prop:=
 ∀(pos:Pos) (Oa:GR) (s:Θ) (σ:St) (H:Hp) (Q:Ε->Hp->Prop),GX X Oa σ H s->t σ H Q->ε (model X.prog X.w) X.A (spliced (backTo pos (θ es X.env))) (AP X Oa σ Q) X.xe s
def PS(X:Cx)(st:δ)(t:TS):Prop:=
 ∀(Oa:GR) (s:Θ) (σ:St) (H:Hp) (D:HY),GX X Oa σ H s->t D σ H->ε (model X.prog X.w) X.A (exec st X.env) (SP X Oa D) X.xe s
def LB(X:Cx)(st:List δ)(t:TS):Prop:=
 ∀(Oa:GR) (s:Θ) (σ:St) (H:Hp) (D:HY),GX X Oa σ H s->t D σ H->ε (model X.prog X.w) X.A (execs st X.env) (SP X Oa D) X.xe s
theorem qz{c:Type}{t:Sem c}{Q d:c->Θ->Prop}{M:Model}{A:Around}{E:GP}{s:Θ}(h:ε M A t Q E s)(e:∀a s,Q a s->d a s):ε M A t d E s:=Jw h e λ_ _ x=>x
section
variable{X:Cx}
inductive NF (i:Nat) (σ:L2.St) (H:Hp) (Q:VK):Prop
 |mk (v:_) (h1:σ[i]? =↑(↑v)) (h2:Q v H)
def Cp(i:Nat):TE:=λσ H Q=>NF i σ H Q
def tC(v:V):TE:=λ_ H Q=>Q v H
theorem CB{i:Nat}{x:Str}{pos:Pos}(hN:X.N[i]? =↑x)(hv:Dl X.env.scope x)(hd:(x==("__debug__":Str))=false:=by decide)(f:(x==("__classdict__":Str))=false:=by decide):PE X (.Name x pos) (Cp i):=by
 intro Oa s σ H Q I h;obtain⟨v,e,h⟩:=h;obtain⟨m,o,n⟩:=I.loc;obtain⟨u,r,l⟩:=n i x v hN e hv;have d:EP X Oa σ Q u s:=#[v,H,I,r,h]
 rcases l with⟨hk,j⟩|⟨hk,c,g,a⟩
 ·exact wpAny_Name (wpAny_loadName_local I.ok.kind hk o j d) hd
 ·rcases hk with hk|hk
  ·exact wpAny_Name (wpAny_loadName_cell I.ok.kind hk g a d) hd
  ·exact wpAny_Name (wpAny_loadName_free I.ok.kind hk g a d f) hd
theorem Dy{i j pos}:PE X (.Constant (.int i) j pos) (tC (.int i)):=λ_ _ _ H _ I h=>wpAny_Constant_int #[.int i,H,I.tok _,#[_,Z],h]
theorem DU{b j pos}:PE X (.Constant (.bool b) j pos) (tC (.bl b)):=λ_ _ _ H _ I h=>Constant_bool #[.bl b,H,I,Z,h]
theorem BZ{j pos}:PE X (.Constant .none j pos) (tC .non):=λ_ _ _ H _ I h=>Constant_none #[.non,H,I,Z,h]
theorem CF{x j pos}:PE X (.Constant (.str x) j pos) (tC (.str x)):=λ_ _ _ H _ I h=>Calls.Constant_str #[.str x,H,I.tok _,#[_,Z],h]
def Gl(X:Cx)(x:Str):Prop:=X.env.kindOf x=some .globalImplicit
theorem ir{E:GP}{Oa:GR}{s:Θ}{σ:St}{H:Hp}{x:Str}{u:Γ}{pos:Pos}{Q:GP}(I:GX X Oa σ H s)(hg:Gl X x)(hm:X.mg x=↑u)(h:Q u s)
  (hd:(x==("__debug__":Str))=false:=by decide):ε (model X.prog X.w) X.A (eval (.Name x pos) X.env) Q E s:=
 Calls.Name_function_global I.ok.kind hg (Calls.loadGlobal_global (by rw[I.ok.glob];exact I.mod.glob.keeps I.bk) hm h) hd
theorem ZT{E:GP}{Oa:GR}{s:Θ}{σ:St}{H:Hp}{x:Str}{u:Γ}{pos:Pos}{Q:GP}(I:GX X Oa σ H s)(hg:Gl X x)(hm:X.mg x=none)(hv:bootBuiltins x=↑u)(h:Q u s)
  (hn:x≠"__name__":=by decide)(hd:(x==("__debug__":Str))=false:=by decide):ε (model X.prog X.w) X.A (eval (.Name x pos) X.env) Q E s:=by
 obtain⟨c,h1,a⟩:=I.mod.blt;exact Calls.Name_function_global I.ok.kind hg (Calls.loadGlobal_builtin (by rw[I.ok.glob];exact I.mod.glob.keeps I.bk) hm (by rw[I.ok.blt];exact h1.keeps I.bk) ((a x hn).trans hv) h) hd
theorem Bl{x:Str}{v:V}{u:Γ}{pos:Pos}(hg:Gl X x)(hm:X.mg x=↑u)(r:G8 v u)(hd:(x==("__debug__":Str))=false:=by decide):PE X (.Name x pos) (tC v):=
 λ_ _ _ H _ I h=>ir I hg hm #[v,H,I,r,h] hd
theorem Be{x:Str}{v:V}{u:Γ}{pos:Pos}(hg:Gl X x)(hm:X.mg x=none)(hv:bootBuiltins x=↑u)(r:G8 v u)(hn:x≠"__name__":=by decide)(hd:(x==("__debug__":Str))=false:=by decide):PE X (.Name x pos) (tC v):=
 λ_ _ _ H _ I h=>ZT I hg hm hv #[v,H,I,r,h] hn hd
variable{a b:Φ}{ta tb:TE}{pos:Pos}
def PC(X:Cx)(op:CmpOp)(a b:Φ)(t:TE):Prop:=
 ∀(Oa:GR) (s:Θ) (σ:St) (H:Hp) (Q:VK),GX X Oa σ H s->t σ H Q->
  ε (model X.prog X.w) X.A (eval a X.env) (λv c=>ε (model X.prog X.w) X.A (eval b X.env) (λu d=>ε (model X.prog X.w) X.A (compareOp op v u) (EP X Oa σ Q) X.xe d) X.xe c) X.xe s
def tB(t:TE):TT:=λσ H Q=>t σ H λx H1=>∃c,x= .bl c/\Q c H1
theorem Dk{op:CmpOp}{t:TE}(h:PC X op a b t)(h1:behindInMarks op b=false:=by first|exact nobehind _ ⋯ ⋯|rfl):PT X (.Compare a [op] [b] pos) (tB t):=by
 intro Oa s σ H Q I f;refine wpAny_isTrue_Compare1 (qz (h Oa s σ H _ I f) λv o h1=>qz h1 λu m j=>qz j λc n e=>?_) h1
 obtain⟨x,H1,i,l,g⟩:=e;obtain⟨d,rfl,q⟩:=g;cases l;exact Fj #[H1,i,q]
theorem Cw{e:Φ}{t:TE}(h:PE X e t)(he:∀a,isTrue e X.env a=(do let v <- a;standAt e.pos;holding [v] (truthy v)):=by intro _;rfl):PT X e (tB t):=by
 intro Oa s σ H Q I c;refine isTrue_plain (qz (h Oa s σ H _ I c) λv l i=>?_) (he _)
 obtain⟨x,H1,g,j,f⟩:=i;obtain⟨d,rfl,q⟩:=f;cases j;exact Fj #[H1,g,q]
variable{tA tB':TT}{rest:Ι}
def BU(t u:TT):TT:=λσ H Q=>t σ H λc H1=>if c=true then u σ H1 Q else Q false H1
def Ed(t u:TT):TT:=λσ H Q=>t σ H λc H1=>if c=true then Q true H1 else u σ H1 Q
def Ct(t:TT):TT:=λσ H Q=>t σ H λc H1=>Q (! c) H1
theorem AD(ha:PT X a tA):PW X (.BoolOp .And [a] pos) tA:=by
 intro f Oa s σ H Q I h;refine isTrue_and (qz (ha Oa s σ H Q I h) λc d e=>?_)
 cases c with
 |true=>exact isTrue_and_nil e
 |false=>exact e
theorem CK(ha:PT X a tA):PW X (.BoolOp .Or [a] pos) tA:=by
 intro f Oa s σ H Q I h;refine isTrue_or (qz (ha Oa s σ H Q I h) λc d e=>?_)
 cases c with
 |false=>exact isTrue_or_nil e
 |true=>exact e
theorem Ch(ha:PT X a tA)(hb:PW X (.BoolOp .And (b::rest) pos) tB'):PW X (.BoolOp .And (a::b::rest) pos) (BU tA tB'):=by
 intro f Oa s σ H Q I h;refine isTrue_and (qz (ha Oa s σ H _ I h) λc g i=>?_)
 obtain⟨H1,e,d⟩:=i;cases c with
 |true=>exact hb f Oa g σ H1 Q e d
 |false=>exact#[H1,e,d]
theorem DK(ha:PT X a tA)(hb:PW X (.BoolOp .Or (b::rest) pos) tB'):PW X (.BoolOp .Or (a::b::rest) pos) (Ed tA tB'):=by
 intro f Oa s σ H Q I h;refine isTrue_or (qz (ha Oa s σ H _ I h) λc g i=>?_)
 obtain⟨H1,e,d⟩:=i;cases c with
 |true=>exact#[H1,e,d]
 |false=>exact hb f Oa g σ H1 Q e d
theorem CU(ha:PT X a tA):PT X (.UnaryOp .Not a pos) (Ct tA):=by
 intro Oa s σ H Q I h;exact isTrue_not (ha Oa s σ H (λc H1=>Q (! c) H1) I h)
def ym(ta tb:TE):TE:=λσ H Q=>ta σ H λx H1=>∃c,x= .bl c/\if c=true then tb σ H1 Q else Q (.bl false) H1
def yS(ta:TE):TE:=λσ H Q=>ta σ H λx H1=>∃c,x= .bl c/\Q (.bl (! c)) H1
theorem BY{op}{t:TE}(h:PE X a t):PE X (.BoolOp op [a] pos) t:=λOa s σ H Q I c=>BoolOp_one (h Oa s σ H Q I c)
theorem Cg(ha:PE X a ta)(hb:PE X (.BoolOp .And (b::rest) pos) tb):PE X (.BoolOp .And (a::b::rest) pos) (ym ta tb):=by
 intro Oa s σ H Q I h;refine BoolOp_and (qz (ha Oa s σ H _ I h) λv f g=>?_)
 obtain⟨x,H1,e,i,d⟩:=g;obtain⟨c,rfl,d⟩:=d;cases i;refine Fj ?_
 cases c with
 |true=>exact hb Oa f σ H1 Q e d
 |false=>exact#[.bl false,H1,e,Z,d]
theorem Du(ha:PE X a ta):PE X (.UnaryOp .Not a pos) (yS ta):=by
 intro Oa s σ H Q I h;refine UnaryOp_ (qz (ha Oa s σ H _ I h) λv i f=>?_)
 obtain⟨x,H1,e,g,d⟩:=f;obtain⟨c,rfl,d⟩:=d;cases g;exact not_of (Fj #[.bl (! c),H1,e,Z,d])
def Ei(t:TT)(ta tb:TE):TE:=λσ H Q=>t σ H λc H1=>if c=true then ta σ H1 Q else tb σ H1 Q
theorem vU{c:Φ}(hc:PT X c tA)(ha:PE X a ta)(hb:PE X b tb):PE X (.IfExp c a b pos) (Ei tA ta tb):=by
 intro Oa s σ H Q I h;refine wpAny_IfExp (qz (hc Oa s σ H _ I h) λd g i=>?_)
 obtain⟨H1,f,e⟩:=i;cases d with
 |true=>exact ha Oa g σ H1 Q f e
 |false=>exact hb Oa g σ H1 Q f e
end
def G0(K:ι)(H:Hp)(a:Δ)(xs:Ε):Prop:=
 Rd H a (.lst xs)\/
  ∃(o:Obj) (c:Array Γ) (n:Nat),K.lookup a=↑o/\o.cls= .type "list"/\o.dict=none/\o.data= .seq c n/\c.size<=ζ/\GZ xs c.toList
def G9(K:ι)(H:Hp)(a:Δ)(xs:Ε):Prop:=
 Rd H a (.tup xs)\/
  ∃(o:Obj) (c:Array Γ) (n:Nat),K.lookup a=↑o/\o.cls= .type "tuple"/\o.data= .seq c n/\c.size<=ζ/\GZ xs c.toList
def Eu:Γ->Ν
 | .none=>some .non
 | .bool b=>↑(.bl b)
 | .int i _=>↑(.int i)
 | .str x _=>↑(.str x)
 | .bytes b _=>↑(.byt b)
 | .float b _=>↑(.flt b)
 | .ref a=>↑(.ref a)
 | .type n=>↑(.ty n)
 |_=>none
theorem G8.abs{x:V}{u:Γ}(r:G8 x u):Eu u=↑x:=by
 cases x with
 |non=>cases r;rfl
 |bl _=>cases r;rfl
 |int _=>obtain⟨t,rfl⟩:=r;rfl
 |str _=>obtain⟨t,rfl⟩:=r;rfl
 |byt _=>obtain⟨t,rfl⟩:=r;rfl
 |flt _=>obtain⟨t,rfl⟩:=r;rfl
 |ref _=>cases r;rfl
 |ty _=>cases r;rfl
theorem G8.inj{x y:V}{u:Γ}(r:G8 x u)(q:G8 y u):x=y:=JA (r.abs.symm.trans q.abs)
theorem GZ.inj:∀{xs ys:Ε} {us:Ζ},GZ xs us->GZ ys us->xs=ys
 :=by
 intro xs ys us h
 induction h generalizing ys with
 |nil=>intro g;cases g;rfl
 |cons r t ih=>intro g;cases g with
  |cons r' t'=>rw[r.inj r',ih t']
section
variable{X:Cx}{Oa:GR}{σ:St}{H:Hp}{s:Θ}{a:Δ}{xs ys:Ε}
theorem G0.of{K:ι}(h:H a=↑(.lst xs)):G0 K H a xs:= .inl (.inl h)
theorem G9.of{K:ι}(h:H a=↑(.tup xs)):G9 K H a xs:= .inl (.inl h)
theorem GX.list(I:GX X Oa σ H s)(h:G0 X.K H a xs):∃c:Ζ,GZ xs c/\PlainL s.heap a c.toArray/\xs.length<=ζ:=by
 rcases h with h|⟨o,c,n,hk,g,f,d,i,r⟩
 ·obtain⟨z,c,n,r,e⟩:=h.ok I.hok
  exact#[c,r,#[_,n,e,Z,Z,Z],z]
 ·refine#[c.toList,r,#[o,n,I.kIn a o hk,g,f,by simpa using d],?_]
  have e:=r.length;simp only[Jp]at e;lia
theorem GX.tuple(I:GX X Oa σ H s)(h:G9 X.K H a xs):∃c:Ζ,GZ xs c/\IsTup s.heap a c.toArray/\xs.length<=ζ:=by
 rcases h with h|⟨o,c,n,hk,d,f,g,r⟩
 ·obtain⟨z,c,r,p⟩:=h.ok I.hok
  exact#[c,r,p,z]
 ·refine#[c.toList,r,#[o,I.kIn a o hk,d,n,by simpa using f],?_]
  have e:=r.length;simp only[Jp]at e;lia
theorem GX.list_inj(I:GX X Oa σ H s)(h:G0 X.K H a xs)(h':G0 X.K H a ys):xs=ys:=by
 obtain⟨f,r,⟨o,n,e,_,_,d⟩,_⟩:=I.list h;obtain⟨c,j,⟨o',l,i,_,_,g⟩,_⟩:=I.list h';rw[e]at i;cases i
 rw[d]at g;injection g with d1 _
 have:f=c:=by simpa using JH Array.toList d1
 subst this;exact r.inj j
theorem GX.tuple_inj(I:GX X Oa σ H s)(h:G9 X.K H a xs)(h':G9 X.K H a ys):xs=ys:=by
 obtain⟨f,r,⟨o,e,_,n,d⟩,_⟩:=I.tuple h;obtain⟨c,j,⟨o',i,_,l,g⟩,_⟩:=I.tuple h';rw[e]at i;cases i
 rw[d]at g;injection g with d1 _
 have:f=c:=by simpa using JH Array.toList d1
 subst this;exact r.inj j
end
abbrev Cx.wish(X:Cx)(E:GP):Cx:={X with xe:=E}
abbrev Cx.nox(X:Cx):Cx:=X.wish λ_ _=>False
theorem Cx.Ok.wish{X:Cx}(ok:X.Ok)(E:GP):(X.wish E).Ok:=
 #[ok.mod,ok.kind,ok.glob,ok.blt,ok.above,ok.inj,ok.has,ok.cab,ok.hd,ok.frames,ok.stk,ok.exf,ok.bs,ok.bsz,ok.noex,ok.exfs,ok.funs,ok.frf]
theorem Cx.Ok.unwish{X:Cx}{E:GP}(ok:(X.wish E).Ok):X.Ok:=
 #[ok.mod,ok.kind,ok.glob,ok.blt,ok.above,ok.inj,ok.has,ok.cab,ok.hd,ok.frames,ok.stk,ok.exf,ok.bs,ok.bsz,ok.noex,ok.exfs,ok.funs,ok.frf]
section
variable{X:Cx}{Oa:GR}{σ:St}{H:Hp}{s:Θ}{E:GP}
theorem GX.wish(I:GX X Oa σ H s)(E:GP):GX (X.wish E) Oa σ H s:=#[I.ok.wish E,I.os,I.bare,I.base,I.loc,I.cell,I.free,I.freeC,I.pin,I.hok,I.len]
theorem GX.unwish(I:GX (X.wish E) Oa σ H s):GX X Oa σ H s:=#[I.ok.unwish,I.os,I.bare,I.base,I.loc,I.cell,I.free,I.freeC,I.pin,I.hok,I.len]
theorem SP.unwish{D:HY}{f:Flow}{s':Θ}(h:SP (X.wish E) Oa D f s'):SP X Oa D f s':=by
 cases f with
 |next=>obtain⟨a,H',I,q⟩:=h;exact#[a,H',I.unwish,q]
 |brk=>obtain⟨a,H',I,q⟩:=h;exact#[a,H',I.unwish,q]
 |cont=>obtain⟨a,H',I,q⟩:=h;exact#[a,H',I.unwish,q]
 |ret u=>obtain⟨v,a,H',I,r,q⟩:=h;exact#[v,a,H',I.unwish,r,q]
theorem LB.nox{st:List δ}{t:TS}(h:LB X.nox st t):LB X st t:=λOa s σ H D I a=>
 Jw (h Oa s σ H D (I.wish _) a) (λ_ _ q=>q.unwish) λ_ _ z=>False.elim z
end
section
variable{X:Cx}{st:δ}{rest:List δ}{t u:TS}{e:Φ}{te:TE}{pos:Pos}
def Aa:TS:=λD σ H=>D.nx σ H
def cT(t u:TS):TS:=λD σ H=>t {D with nx:=u D} σ H
theorem Bp:LB X [] Aa:=λ_ _ σ H _ I h=>wpAny_execs_nil #[σ,H,I,h]
theorem yg(h1:PS X st t)(h2:LB X rest u):LB X (st::rest) (cT t u):=by
 intro Oa s σ H D I h;refine wpAny_execs_cons (qz (h1 Oa s σ H {D with nx:=u D} I h) λf d q=>?_)
 cases f with
 |next=>
  obtain⟨a,H',c,q⟩:=q;exact h2 Oa d a H' D c q
 |ret v=>exact q
 |brk=>exact q
 |cont=>exact q
theorem Ah(h1:PS X st t):LB X [st] t:=by
 intro Oa s σ H D I h;refine wpAny_execs_cons (qz (h1 Oa s σ H D I h) λf a q=>?_)
 cases f with
 |next=>exact wpAny_execs_nil q
 |ret v=>exact q
 |brk=>exact q
 |cont=>exact q
theorem GX.quiet{Oa:GR}{σ:St}{H:Hp}{s:Θ}(I:GX X Oa σ H s):interactive X.env=false:=by simp [interactive,I.ok.kind]
def yV(te:TE):TS:=λD σ H=>te σ H λ_ H1=>D.nx σ H1
theorem AK(he:PE X e te)(hs:swapsWith e none pos.line X.env=pure false:=by rfl):PS X (.Expr e pos) (yV te):=by
 intro Oa s σ H D I h;exact wpAny_Expr_any (qz (he Oa s σ H _ I h) λv d ⟨x,H1,c,f,a⟩=>#[σ,H1,c,a]) I.quiet hs
def Cu(te:TE):TS:=λD σ H=>te σ H D.rt
theorem Cd(he:PE X e te):PS X (.Return ↑e pos) (Cu te):=by
 intro Oa s σ H D I h;exact wpAny_Return_some (qz (he Oa s σ H _ I h) λv f ⟨x,H1,c,d,a⟩=>#[x,σ,H1,c,d,a])
def B1(c:TT)(t u:TS):TS:=λD σ H=>c σ H λb H1=>if b=true then t D σ H1 else u D σ H1
theorem DI{c:Φ}{a b:List δ}{tc:TT}(hc:PT X c tc)(ha:LB X a t)(hb:LB X b u):PS X (.If c a b pos) (B1 tc t u):=by
 intro Oa s σ H D I h;refine wpAny_If (qz (hc Oa s σ H _ I h) λd g i=>?_)
 obtain⟨H1,f,e⟩:=i;cases d with
 |true=>exact ha Oa g σ H1 D f e
 |false=>exact hb Oa g σ H1 D f e
def uT:TS:=λ_ _ _=>False
theorem uR{a:List δ}:LB X a uT:=λ_ _ _ _ _ _ h=>h.elim
end
abbrev TG:=V->St->Hp->(St->Hp->Prop)->Prop
abbrev Zx:=Ε->St->Hp->(St->Hp->Prop)->Prop
def PG(X:Cx)(a:Φ)(t:TG):Prop:=
 ∀(Oa:GR) (s:Θ) (σ:St) (H:Hp) (v:V) (u:Γ) (Q:St->Hp->Prop),GX X Oa σ H s->G8 v u->t v σ H Q->
  ε (model X.prog X.w) X.A (assign a X.env u) (λ_ s'=>∃c H',GX X Oa c H' s'/\Q c H') X.xe s
def nX(X:Cx)(d:Ι)(t:Zx):Prop:=
 ∀(Oa:GR) (s:Θ) (σ:St) (H:Hp) (vs:Ε) (c:Ζ) (Q:St->Hp->Prop),GX X Oa σ H s->GZ vs c->t vs σ H Q->
  ε (model X.prog X.w) X.A (assignInOrder ((assignEach d X.env).map (·.2)) c) (λ_ s'=>∃a H',GX X Oa a H' s'/\Q a H') X.xe s
abbrev fV:=V->V->V->Hp->(Hp->Prop)->Prop
def me(X:Cx)(t:fV):Prop:=
 ∀(Oa:GR) (s:Θ) (σ:St) (H:Hp) (o i v:V) (a c u:Γ) (Q:Hp->Prop),GX X Oa σ H s->G8 o a->G8 i c->G8 v u->t o i v H Q->
  ε (model X.prog X.w) X.A (setItem a c u) (λ_ s'=>∃H',GX X Oa σ H' s'/\Q H') X.xe s
abbrev vp:=V->V->Hp->VK->Prop
def CL(X:Cx)(op:Operator)(t:vp):Prop:=
 ∀(Oa:GR) (s:Θ) (σ:St) (H:Hp) (x y:V) (v u:Γ) (Q:VK),GX X Oa σ H s->G8 x v->G8 y u->t x y H Q->
  ε (model X.prog X.w) X.A (inplaceOp op v u) (EP X Oa σ Q) X.xe s
section
variable{X:Cx}{pos:Pos}
def Qa(i:Nat):TG:=λv σ H Q=>Q (σ.set i ↑v) H
theorem AF{i:Nat}{x:Str}(hN:X.N.Nodup)(hi:X.N[i]? =↑x)(hx:cH X.env.scope x)(hf:X.fn x=true\/X.env.scope.names.lookup x=some .local:=by first|exact .inl Z|exact .inr Z|assumption):PG X (.Name x pos) (Qa i):=by
 intro Oa s σ H v u Q I r h;exact wpAny_assign_Name (bY I hN hi hx r (λs' a=>#[_,H,a,h]) hf)
def xz:Zx:=λvs σ H Q=>vs=[]/\Q σ H
inductive Nm (t:TG) (u:Zx) (vs:Ε) (σ:L2.St) (H:Hp) (Q:L2.St->Hp->Prop):Prop
 |mk (v:_) (r:_) (h1:vs=v::r) (h2:t v σ H λσ' H'=>u r σ' H' Q)
def j4(t:TG)(u:Zx):Zx:=λvs σ H Q=>Nm t u vs σ H Q
theorem BA:nX X [] xz:=by
 intro Oa s σ H vs a Q I r h;obtain⟨e,h⟩:=h;subst e;cases r;exact assignInOrder_nil #[σ,H,I,h]
theorem vX{e:Φ}{es:Ι}{t:TG}{u:Zx}(h1:PG X e t)(h2:nX X es u)
  (hs:(assignEach (e::es) X.env).map (·.2)=assign e X.env::(assignEach es X.env).map (·.2):=by rfl):nX X (e::es) (j4 t u):=by
 intro Oa s σ H vs l Q I r h;obtain⟨v,j,c,h⟩:=h;subst c;cases r with
 |cons r rr=>
  rw[hs];refine assignInOrder_cons (qz (h1 Oa s σ H _ _ _ I r h) λ_ g i=>?_)
  obtain⟨a,H1,f,d⟩:=i;exact h2 Oa g a H1 _ _ Q f rr d
inductive NG (K:ι) (n:Nat) (t:Zx) (v:V) (σ:L2.St) (H:Hp) (Q:L2.St->Hp->Prop):Prop
 |mk (a:_) (xs:_) (h1:v= .ref a) (h2:G9 K H a xs) (h3:xs.length=n) (h4:t xs σ H Q)
def yj(K:ι)(n:Nat)(t:Zx):TG:=λv σ H Q=>NG K n t v σ H Q
theorem kQ{es:Ι}{k:Nat}{t:Zx}{n:Nat}(hc:X.calm=true)(h:nX X es t)
  (hn:(assignEach es X.env).length=n:=by rfl)(hst:(assignEach es X.env).findIdx? (·.1)=none:=by rfl):PG X (.Tuple es k pos) (yj X.K n t):=by
 intro Oa s σ H v u Q I r c;obtain⟨a,xs,m,f,l,c⟩:=c;subst m;cases r;obtain⟨g,d,j,q⟩:=I.tuple f;refine assign_Tuple_tuple (I.ok.hd hc) j (by simp [hn,<- l,d.length]) hst λh' i=>?_
 have p:GX X Oa σ H {s with heap:=h'}:=I.kept (t':=s.toks) λb o e=>i b o (Jk (Jj e)) e
 exact h Oa _ σ H xs _ Q p (by simpa using d) c
def B6(to d:TE)(t:fV):TG:=λv σ H Q=>to σ H λo H1=>d σ H1 λi a=>t o i v a λc=>Q σ c
theorem Dv{o i:Φ}{to e:TE}{t:fV}(ho:PE X o to)(hi:PE X i e)(hs:me X t)
  (ha:∀v,assign (.Subscript o i pos) X.env v=(do
   let a <- holding [v] (eval o X.env)
   let c <- holding [v,a] (eval i X.env)
   standAt pos
   holding [v,a,c] (setItem a c v)
   release [v,a,c] []):=by intro _;rfl):PG X (.Subscript o i pos) (B6 to e t):=by
 intro Oa s σ H v u Q I r h;rw[ha];refine Ja (JI (qz (ho Oa s σ H _ I h) λa A d=>?_))
 obtain⟨x,H1,q,B,p⟩:=d;refine Ja (JI (qz (hi Oa A σ H1 _ q p) λc w d=>?_))
 obtain⟨y,l,z,m,f⟩:=d;refine Ja (E1 (Ja (JI (qz (hs Oa w σ l x y v a c u _ z B m r f) λ_ C d=>?_))))
 obtain⟨j,g,n⟩:=d;exact wpAny_release #[σ,j,g,n]
def aY(te:TE)(g:TG):TS:=λD σ H=>te σ H λx H1=>g x σ H1 D.nx
theorem BM{tg e:Φ}{te:TE}{g:TG}(he:PE X e te)(hg:PG X tg g)(hs:swapsWithSole [tg] e pos.line X.env=pure false:=by rfl)(hw:swappedStores [tg] e X.env=pure none:=by rfl)
  (h1:(assignEach [tg] X.env).map (·.2)=[assign tg X.env]:=by rfl):PS X (.Assign [tg] e pos) (aY te g):=by
 intro Oa s σ H D I h;refine wpAny_Assign_stores (qz (he Oa s σ H _ I h) λv d f=>?_) hs hw
 obtain⟨x,H1,c,i,a⟩:=f;rw[h1];exact qz (hg Oa d σ H1 x v _ c i a) λ_ j q=>q
theorem Cr{i:Nat}{x:Str}{e:Φ}{te:TE}{pos':Pos}(hN:X.N.Nodup)(hi:X.N[i]? =↑x)(hx:cH X.env.scope x)(he:PE X e te)(hs:swapsWith e ↑(.Name x pos') pos.line X.env=pure false:=by rfl)(hf:X.fn x=true\/X.env.scope.names.lookup x=some .local:=by first|exact .inl Z|exact .inr Z|assumption):
  PS X (.Assign [.Name x pos'] e pos) (aY te (Qa i)):=by
 intro Oa s σ H D I h;refine wpAny_Assign_Name (qz (he Oa s σ H _ I h) λv l f=>?_) hs
 obtain⟨y,H1,c,g,a⟩:=f;exact bY c hN hi hx g (λj d=>#[_,H1,d,a]) hf
def B0(i j:Nat)(ta:TA):TS:=λD σ H=>ta σ H λvs H1=>∃v w,vs=[v,w]/\D.nx ((σ.set i ↑v).set j ↑w) H1
theorem B2{i j:Nat}{x y:Str}{a b:Φ}{ta:TA}{l m pt:Pos}{kt k2 pt2}(hc:X.calm=true)(hN:X.N.Nodup)(hi:X.N[i]? =↑x)(F:X.N[j]? =↑y)(r:i≠j)
  (hx:X.env.scope.names.lookup x=some .local)(u:X.env.scope.names.lookup y=some .local)(ha:PA X [a,b] ta)
  (hw:swappedStores [.Tuple [.Name x l,.Name y m] kt pt] (.Tuple [a,b] k2 pt2) X.env=pure (some [x,y]))
  (hs:swapsWithSole [.Tuple [.Name x l,.Name y m] kt pt] (.Tuple [a,b] k2 pt2) pos.line X.env=pure false:=by rfl):
  PS X (.Assign [.Tuple [.Name x l,.Name y m] kt pt] (.Tuple [a,b] k2 pt2) pos) (B0 i j ta):=by
 intro Oa s σ H D I h;rw[exec_Assign_arm];refine Ja (E1 ?_)
 rw[hs];refine Ja (Jd ?_)
 rw[Jb ⋯]
 refine Ja (Tuple_ (qz (ha _ Oa s σ H _ I h) λC f A=>?_))
 obtain⟨vs,H1,M,G,t⟩:=A;obtain⟨v,w,L,t⟩:=t;subst L;obtain⟨d,c,rfl,B,g⟩:∃d c,C=[d,c]/\G8 v d/\G8 w c:=by
  cases G with
  |cons p q=>
   cases q with
   |cons p' q'=>
    cases q'
    exact#[_,_,Z,p,p']
 refine J3 ?_ (by show 2<=ζ;decide)
 have E:GX X Oa σ H1 {f with heap:=f.heap.push {cls:= .type "tuple",data:= .seq [d,c].toArray}}:=M.kept (t':=f.toks) λb o e=>Jl _ e
 rw[hw];refine Ja (Jd ?_)
 show ε (model X.prog X.w) X.A (do rule "assign.swapped-stores";let items <- unpackItems (.ref f.heap.objs.size) 2 none;assignInOrder [λv=>bindName X.env y v,λv=>bindName X.env x v] items.reverse;pure Flow.next) _ _ _
 refine Ja (E7 (Ja (unpackItems_tuple (items:= (List.toArray [d,c])) (I.ok.hd hc) (IsTup.new f.heap _) λh' n=>?_)))
 have J:=E.kept (h':=h') (t':=f.toks) λb o e=>n b o (Jk (Jj e)) e
 show ε _ _ (assignInOrder [λv=>bindName X.env y v,λv=>bindName X.env x v] [c,d] >>= λ_=>pure Flow.next) _ _ _
 refine Ja (assignInOrder_cons (wpAny_bindName (bY J hN F (.inl u) g (λN K=>?_) (.inr u))))
 refine assignInOrder_cons (wpAny_bindName (bY K hN hi (.inl hx) B (λO z=>assignInOrder_nil (Jd ?_)) (.inr hx)))
 rw[List.set_comm _ _ (Ne.symm r)]at z
 exact#[_,H1,z,t]
def Ag(to l te:TE)(c:V->V->Hp->VK->Prop)(d:vp)(a:fV):TS:=λD σ H=>to σ H λo H1=>l σ H1 λi j=>c o i j λx e=>te σ e λy h=>d x y h λz g=>a o i z g λf=>D.nx σ f
def xf(X:Cx)(t:V->V->Hp->VK->Prop):Prop:=
 ∀(Oa:GR) (s:Θ) (σ:St) (H:Hp) (o i:V) (a c:Γ) (Q:VK),GX X Oa σ H s->G8 o a->G8 i c->t o i H Q->
  ε (model X.prog X.w) X.A (getItem a c) (EP X Oa σ Q) X.xe s
theorem Bn{o i e:Φ}{to t te:TE}{f:V->V->Hp->VK->Prop}{m:vp}{d:fV}{op:Operator}{l:Pos}(ho:PE X o to)(hi:PE X i t)(hg:xf X f)(he:PE X e te)(hp:CL X op m)(hs:me X d)
  (ha:∀g j a,augStore i g j a=(do holding [a,g,j] (setItem g j a);release [a,g,j] [];pure .next):=by intros;rfl):PS X (.AugAssign (.Subscript o i l) op e pos) (Ag to t te f m d):=by
 intro Oa s σ H D I h;refine wpAny_AugAssign_SubscriptAny (qz (ho Oa s σ H _ I h) λg J c=>?_) ha
 obtain⟨q,H1,I1,r,q1⟩:=c;refine qz (hi Oa J σ H1 _ I1 q1) λj A c=>?_
 obtain⟨u,U,M,p,Q⟩:=c;refine qz (hg Oa A σ U q u g j _ M r p Q) λn F c=>?_
 obtain⟨w,K,W,r3,L⟩:=c;refine qz (he Oa F σ K _ W L) λv O c=>?_
 obtain⟨B,N,Y,S,E⟩:=c;refine qz (hp Oa O σ N w B n v _ Y r3 S E) λa G c=>?_
 obtain⟨R,T,I5,C,P⟩:=c;exact qz (hs Oa G σ T q u R g j a _ I5 r p C P) λ_ s6 ⟨z,y,x⟩=>#[σ,z,y,x]
def EK(f:Int->Int->Int):vp:=λx y H Q=>∃i j,x= .int i/\y= .int j/\Q (.int (f i j)) H
theorem Cc:CL X .Add (EK λi j=>i+j):=by
 intro Oa s σ H x y v u Q I e c h;obtain⟨i,j,d,a,q⟩:=h;subst d;subst a
 obtain⟨t,rfl⟩:=e;obtain⟨f,rfl⟩:=c;exact iadd_int #[.int _,H,I.tok _,#[_,Z],q]
end
structure It where
 go:Nat->Hp->Prop
 yld:Nat->Hp->V->Hp->Prop
 stop:Nat->Hp->Prop
def Qs(X:Cx)(Oa:GR)(H:Hp)(b:Δ):Prop:=
 H b=none/\b≠X.env.locals/\b∉X.fs/\(b∈X.ex\/X.s₀.heap.objs.size<=b)/\(∀x c,X.env.cells.lookup x=↑c->c≠b)/\∀p∈X.pn++Oa,p.1≠b
theorem GX.fpOk{X:Cx}{Oa:GR}{σ:St}{H H':Hp}{s:Θ}{b:Δ}(I:GX X Oa σ H s)(hb:s.heap.objs.size<=b)(hn:H' b=none):Qs X Oa H' b:=by
 refine#[hn,EV (JO I.lt hb),I.nofs hb,.inr (JG I.sz hb),λx c e z=>?_,λp a z=>?_]
 ·obtain⟨v,q⟩:=I.cell x c e
  exact absurd (JO q.lt (by rw[z];exact hb)) (EU _)
 ·exact absurd (JO (Jj (I.pin p a).1) (by rw[z];exact hb)) (EU _)
structure Lh(P:Ξ)(w:Ω)(K:ι)(tg:Φ)(J:It)(fp:Η)(it:Δ)(tn:Nat->Ψ->Prop):Prop where
 mem:it∈fp
 obj:∀i h,tn i h->∀b∈fp,∃o,h.get? b=↑o/\∀v,o.data≠ .cell v
 keep:∀i h h',tn i h->(∀b∈fp,∀o,h.get? b=↑o->h'.get? b=↑o)->tn i h'
 item:∀(X:Cx),X.prog=P->X.w=w->X.K=K->X.calm=true->∀(i:Nat) (Oa:GR) (s:Θ) (σ:St) (H:Hp) (E:GP),GX X Oa σ H s->(∀b∈fp,Qs X Oa H b)->tn i s.heap->J.go i H->
  ε (model P w) X.A (pyNext (.ref it)) (λr s1=>∃u,r=↑u/\
   ε (model P w) X.A (letOwnedTupleGo tg (.ref it) u) (λ_ s2=>∃x H',GX X Oa σ H' s2/\G8 x u/\J.yld i H x H'/\tn (i+1) s2.heap/\∀b∈fp,H' b=none) E s1) E s
 done:∀(X:Cx),X.prog=P->X.w=w->X.K=K->X.calm=true->∀(i:Nat) (Oa:GR) (s:Θ) (σ:St) (H:Hp) (E:GP),GX X Oa σ H s->(∀b∈fp,Qs X Oa H b)->tn i s.heap->J.stop i H->
  ε (model P w) X.A (pyNext (.ref it)) (λr s1=>r=none/\GX X Oa σ H s1) E s
 self:∀(A:Around) (i:Nat) (s:Θ) (Q:GP) (E:GP),tn i s.heap->Q (.ref it) s->ε (model P w) A (pyIter (.ref it)) Q E s
abbrev TI:=St->Hp->(It->Hp->Prop)->Prop
def Ee(X:Cx)(Oa:GR)(σ:St)(tg:Φ)(R:It->Hp->Prop)(a:Γ)(e:Θ):Prop:=
 ∃(d:Δ) (fp:Η) (c:Nat->Ψ->Prop) (J:It) (H':Hp),a= .ref d/\GX X Oa σ H' e/\Lh X.prog X.w X.K tg J fp d c/\c 0 e.heap/\(∀b∈fp,Qs X Oa H' b)/\R J H'
def PI(X:Cx)(tg a:Φ)(c:TI):Prop:=
 ∀(Oa:GR) (s:Θ) (σ:St) (H:Hp) (R:It->Hp->Prop),GX X Oa σ H s->c σ H R->
  ε (model X.prog X.w) X.A (eval a X.env) (λv d=>ε (model X.prog X.w) X.A (pyIter v) (Ee X Oa σ tg R) X.xe d) X.xe s
theorem bS{M:Model}{A:Around}{E:GP}{s:Θ}{tg:Φ}{it:Δ}{u:Γ}{o:Obj}{n:String}{vs:Array Γ}{Q:Unit->Θ->Prop}(ho:s.heap.get? it=↑o)(hc:o.cls= .type n)(hd:o.data= .fields vs)
    (hn:["enumerate","zip","dict_itemiterator","dict_reverseitemiterator","odict_iterator","itertools.zip_longest","itertools.pairwise"].contains n=false)(a:Q () s):ε M A (letOwnedTupleGo tg (.ref it) u) Q E s:=by
  unfold letOwnedTupleGo;cases tg<;>first
    |exact Jd a
    |(cases u<;>first
        |exact Jd a
        | (refine Ja (wpAny_load ho ?_)
           rw[hc,hd]
           show ε M A (if(["enumerate","zip","dict_itemiterator","dict_reverseitemiterator","odict_iterator","itertools.zip_longest","itertools.pairwise"].contains n&&vs[0]? ==↑(rawInt _))=true then _ else _) Q E s
           rw[Jb (by intro h;rw[hn,EW]at h;cases h)]
           exact Jd a))
def cE(K:ι)(a:Δ):It:=
 ⟨λi H=>∃xs x,G0 K H a xs/\xs[i]? =↑x,λi H x H'=>H'=H/\∀xs,G0 K H a xs->xs[i]? =↑x,λi H=>∃xs,G0 K H a xs/\xs.length<=i⟩
def cV(K:ι)(a:Δ):It:=
 ⟨λi H=>∃xs x,G9 K H a xs/\xs[i]? =↑x,λi H x H'=>H'=H/\∀xs,G9 K H a xs->xs[i]? =↑x,λi H=>∃xs,G9 K H a xs/\xs.length<=i⟩
def i5(lo:Int)(n:Nat):It:=⟨λi _=>i<n,λi H x H'=>H'=H/\x= .int (lo+i),λi _=>n<=i⟩
theorem iS{P:Ξ}{w:Ω}{K:ι}{tg:Φ}(a it:Δ):Lh P w K tg (cE K a) [it] it (λi h=>h.IsListIter it a i) where
 mem:=by simp
 obj:=λi h st b f=>by
  have e:b=it:=by simpa using f
  subst e;obtain⟨o,e,c,d⟩:=st
  exact#[o,e,λv z=>by rw[d]at z;cases z]
 keep:=λi h h' st k=>st.at λo e=>k it (by simp) o e
 item:=by
  intro X q r D J i Oa s σ H E I l st G;subst q r D;obtain⟨xs,x,j,C⟩:=G;obtain⟨t,y,p,O⟩:=I.list j;obtain⟨u,N,T⟩:=y.get C;obtain⟨F,A,L,m,n,B⟩:=l it (by simp)
  refine wpAny_pyNext_list_item st p.isList (x:=u) (by simpa using N) λh' g R=>?_
  have S:GX X Oa σ H {s with heap:=h'}:=I.turned (t':=s.toks) (λb o f e=>(R.2 b f).trans e) F A m n B
  obtain⟨o,e,c,d⟩:=id g
  exact#[u,Z,bS (s:={s with heap:=h'}) e c d ⋯ #[x,H,S,T,#[Z,λys Q=>by rw[I.list_inj Q j];exact C],g,λb f=>(l b f).1]]
 done:=by
  intro X q r D J i Oa s σ H E I l st G;subst q r D;obtain⟨xs,j,C⟩:=G;obtain⟨t,y,p,O⟩:=I.list j;obtain⟨F,A,L,m,n,B⟩:=l it (by simp)
  have U:=y.length;exact wpAny_pyNext_list_end (I.ok.hd J) st p.isList (by simp;lia) λh' M=>#[Z,I.turned (t':=s.toks) (λb o f e=>M b o f e) F A m n B]
 self:=λ_ _ _ _ _ st h=>wpAny_pyIter_listiter st h
theorem gt{P:Ξ}{w:Ω}{K:ι}{tg:Φ}(a it:Δ):Lh P w K tg (cV K a) [it] it (λi h=>h.IsTupleIter it a i) where
 mem:=by simp
 obj:=λi h st b g=>by
  have e:b=it:=by simpa using g
  subst e;obtain⟨o,e,c,d⟩:=st
  exact#[o,e,λv z=>by rw[d]at z;cases z]
 keep:=λi h h' st k=>st.at λo e=>k it (by simp) o e
 item:=by
  intro X r t D J i Oa s σ H E I m st G;subst r t D;obtain⟨xs,x,l,C⟩:=G;obtain⟨f,y,p,O⟩:=I.tuple l;obtain⟨u,N,T⟩:=y.get C;obtain⟨F,A,L,n,q,B⟩:=m it (by simp)
  refine wpAny_pyNext_tuple_item st (show s.heap.IsTuple a f.toArray from p) (x:=u) (by simpa using N) λh' j R=>?_
  have S:GX X Oa σ H {s with heap:=h'}:=I.turned (t':=s.toks) (λb o g e=>(R.2 b g).trans e) F A n q B
  obtain⟨o,e,c,d⟩:=id j
  exact#[u,Z,bS (s:={s with heap:=h'}) e c d ⋯ #[x,H,S,T,#[Z,λys Q=>by rw[I.tuple_inj Q l];exact C],j,λb g=>(m b g).1]]
 done:=by
  intro X r t D J i Oa s σ H E I m st G;subst r t D;obtain⟨xs,l,C⟩:=G;obtain⟨f,y,p,O⟩:=I.tuple l;obtain⟨F,A,L,n,q,B⟩:=m it (by simp)
  have U:=y.length;exact wpAny_pyNext_tuple_end (I.ok.hd J) st (show s.heap.IsTuple a f.toArray from p) (by simp;lia) λh' M=>#[Z,I.turned (t':=s.toks) (λb o g e=>M b o g e) F A n q B]
 self:=λ_ _ _ _ _ st h=>wpAny_pyIter_tupleiter st h
theorem rV{P:Ξ}{w:Ω}{K:ι}{tg:Φ}(it:Δ)(lo:Int)(n:Nat):Lh P w K tg (i5 lo n) [it] it (λi h=>IsRangeIter h it (lo+(i:Nat)*1) ((n:Int)-(i:Nat)) 1) where
 mem:=by simp
 obj:=λi h st b a=>by
  have e:b=it:=by simpa using a
  subst e
  exact#[_,st,λv z=>by
   have C:Data.fields _=Data.cell v:=z
   cases C]
 keep:=λi h h' st k=>k it (by simp) _ st
 item:=by
  intro X j l r q i Oa s σ H E I d st x;subst j l r;obtain⟨u,m,y,f,g,p⟩:=d it (by simp)
  have W:=Walks.range (prog:=X.prog) (w:=X.w) (I.ok.hd q) it lo 1 n
  refine W.item i s _ _ x st λv h' tk B c D=>?_
  obtain⟨t,rfl⟩:=B;have F:GX X Oa σ H {s with heap:=h',toks:=tk}:=I.turned (λb o a e=>D b o (by simpa using a) e) u m f g p
  refine#[_,Z,bS (s:={s with heap:=h',toks:=tk}) (n:="range_iterator") c Z Z ⋯ #[.int (lo+i),H,F,#[t,?_],#[Z,Z],c,λb a=>(d b a).1]]
  rw[Int.mul_one]
 done:=by
  intro X j l r q i Oa s σ H E I d st x;subst j l r;obtain⟨u,m,y,f,g,p⟩:=d it (by simp)
  exact wpAny_pyNext_range_end (I.ok.hd q) st (by have:n<=i:=x;lia) λh' A=>#[Z,I.turned (t':=s.toks) (λb o a e=>A b o a e) u m f g p]
 self:=λ_ _ _ _ _ st h=>Gv st h
section
variable{X:Cx}{tg:Φ}
def rH(K:ι)(tl:TE):TI:=λσ H R=>tl σ H λx H1=>∃a,x= .ref a/\(∃xs,G0 K H1 a xs)/\R (cE K a) H1
def Cz(K:ι)(tl:TE):TI:=λσ H R=>tl σ H λx H1=>∃a,x= .ref a/\(∃xs,G9 K H1 a xs)/\R (cV K a) H1
theorem Bo{l:Φ}{tl:TE}(hl:PE X l tl):PI X tg l (rH X.K tl):=by
 intro Oa s σ H R I h;refine qz (hl Oa s σ H _ I h) λv d m=>?_
 obtain⟨x,H1,c,n,j⟩:=m;obtain⟨a,e,⟨xs,f⟩,q⟩:=j;subst e;cases n;obtain⟨g,t,p,r⟩:=c.list f;refine FO p.isList ?_
 refine#[d.heap.objs.size,[d.heap.objs.size],_,_,H1,Z,c.kept (t':=d.toks) λb o e=>Jl _ e,iS a _,#[_,Jq _ Z,Z,Z],λb i=>?_,q]
 have e:b=d.heap.objs.size:=by simpa using i
 subst e;exact c.fpOk (Jf _) (c.hok.fresh (Jf _))
theorem C4{l:Φ}{tl:TE}(hl:PE X l tl):PI X tg l (Cz X.K tl):=by
 intro Oa s σ H R I h;refine qz (hl Oa s σ H _ I h) λv c m=>?_
 obtain⟨x,H1,d,n,j⟩:=m;obtain⟨a,e,⟨xs,g⟩,q⟩:=j;subst e;cases n;obtain⟨f,t,p,r⟩:=d.tuple g;refine FP (show c.heap.IsTuple a f.toArray from p) ?_
 refine#[c.heap.objs.size,[c.heap.objs.size],_,_,H1,Z,d.kept (t':=c.toks) λb o e=>Jl _ e,gt a _,#[_,Jq _ Z,Z,Z],λb i=>?_,q]
 have e:b=c.heap.objs.size:=by simpa using i
 subst e;exact d.fpOk (Jf _) (d.hok.fresh (Jf _))
theorem mY{Oa:GR}{σ:St}{H:Hp}{s:Θ}{R:It->Hp->Prop}{E:GP}{lo hi:Int}{t u v:Tok}{tk:Nat}(I:GX X Oa σ H s)(h1: -(2 ^ 62)<=lo)(h2:lo<2 ^ 62)(f: -(2 ^ 62)<=hi)(h:hi<2 ^ 62)
  (q:R (i5 lo (hi-lo).toNat) H):ε (model X.prog X.w) X.A (pyIter (.ref s.heap.objs.size)) (Ee X Oa σ tg R) E {s with heap:=s.heap.push {cls:= .type "range",data:= .fields (List.toArray [.int lo t,.int hi u,.int 1 v])},toks:=tk}:=by
 refine wpAny_pyIter_range (IsRange.new ..) (small_one h1 h2 f h) ?_
 have a:GX X Oa σ H {s with heap:=s.heap.push {cls:= .type "range",data:= .fields (List.toArray [.int lo t,.int hi u,.int 1 v])},toks:=tk}:=I.kept λb o e=>Jl _ e
 refine#[(s.heap.push {cls:= .type "range",data:= .fields (List.toArray [.int lo t,.int hi u,.int 1 v])}).objs.size,[(s.heap.push {cls:= .type "range",data:= .fields (List.toArray [.int lo t,.int hi u,.int 1 v])}).objs.size],_,_,H,Z,
  a.kept (t':=tk) λb o e=>Jl _ e,rV _ lo (hi-lo).toNat,?_,λb d=>?_,q]
 ·have g:lo+((0:Nat):Int)*1=lo:=by simp
  have c:(((hi-lo).toNat:Nat):Int)-((0:Nat):Int)=γ.Range.rangeSize lo hi 1:=by rw[rangeSize_one];split<;>lia
  show IsRangeIter _ _ (lo+((0:Nat):Int)*1) ((((hi-lo).toNat:Nat):Int)-((0:Nat):Int)) 1
  rw[g,c];exact Jq _ Z
 ·have e:b=(s.heap.push {cls:= .type "range",data:= .fields (List.toArray [.int lo t,.int hi u,.int 1 v])}).objs.size:=by simpa using d
  subst e;exact a.fpOk (Jf _) (a.hok.fresh (Jf _))
def y9(ta:TA):TI:=λσ H R=>ta σ H λvs H1=>∃j:Int,vs=[.int j]/\ -(2 ^ 62)<=j/\j<2 ^ 62/\R (i5 0 j.toNat) H1
def yl(ta:TA):TI:=λσ H R=>ta σ H λvs H1=>∃i j:Int,vs=[.int i,.int j]/\(-(2 ^ 62)<=i/\i<2 ^ 62/\ -(2 ^ 62)<=j/\j<2 ^ 62)/\R (i5 i (j-i).toNat) H1
theorem uU{a:Φ}{ta:TA}{p pos:Pos}(hg:Gl X "range")(hm:X.mg "range"=none)(ha:PA X [a] ta)(hs:θ [a] X.env=[(false,eval a X.env)]:=by rfl):PI X tg (.Call (.Name "range" p) [a] [] pos) (y9 ta):=by
 intro Oa s σ H R I h;refine Call_ (ZT I hg hm boot_range (FQ (qz (ha pos Oa s σ H _ I h) λl m g=>?_) hs Z))
 obtain⟨vs,H1,f,i,c⟩:=g;obtain⟨j,e,c,d,q⟩:=c;subst e;cases i with
 |cons r rr=>
  cases rr;obtain⟨t,rfl⟩:=r;exact call_range_1 (mY f (by lia) (by lia) c d (by simpa using q))
theorem tI{a b:Φ}{ta:TA}{p pos:Pos}(hg:Gl X "range")(hm:X.mg "range"=none)(ha:PA X [a,b] ta)(hs:θ [a,b] X.env=[(false,eval a X.env),(false,eval b X.env)]:=by rfl)(hs2:θ [b] X.env=[(false,eval b X.env)]:=by rfl):
  PI X tg (.Call (.Name "range" p) [a,b] [] pos) (yl ta):=by
 intro Oa s σ H R I h;refine Call_ (ZT I hg hm boot_range (FQ (qz (ha pos Oa s σ H _ I h) λo v m=>?_) (by rw[hs,hs2]) (by rw[hs2];rfl)))
 obtain⟨vs,H1,g,n,c⟩:=m;obtain⟨i,j,e,⟨c,d,f,l⟩,q⟩:=c;subst e;cases n with
 |cons r rr=>
  cases rr with
  |cons r' rr=>
   cases rr;obtain⟨t,rfl⟩:=r;obtain⟨u,rfl⟩:=r';exact call_range_2 (mY g c d f l q)
def xg(e:TI)(g:TG)(tb:TS):TS:=λD σ H=>e σ H λJ H1=>∃W:Nat->Nat->St->Hp->Prop,(∃m,W 0 m σ H1)/\∀i m σ H,W i m σ H->
 (J.stop i H/\D.nx σ H)\/(J.go i H/\∃N:St->Hp->Prop,(∀a H',N a H'->∃d,d<m/\W (i+1) d a H')/\∀x H',J.yld i H x H'->g x σ H' λc f=>tb {D with nx:=N,ct:=N,bk:=D.nx} c f)
def ZO(fp:Η)(h:Ψ):List (Δ×Obj):=fp.filterMap λb=>(h.get? b).map λo=>(b,o)
theorem Qk{fp:Η}{h:Ψ}{b:Δ}{o:Obj}(hb:b∈fp)(e:h.get? b=↑o):(b,o)∈ZO fp h:=List.mem_filterMap.mpr #[b,hb,by rw[e];rfl]
theorem iX{fp:Η}{h:Ψ}{p:Δ×Obj}(hp:p∈ZO fp h):p.1∈fp/\h.get? p.1=↑p.2:=by
 obtain⟨b,a,e⟩:=List.mem_filterMap.mp hp;cases q:h.get? b with
 |none=>rw[q]at e;cases e
 |some o=>
  rw[q]at e;have c:(b,o)=p:=JA e
  subst c
  exact#[a,q]
theorem GX.pinned{Oa:GR}{σ:St}{H:Hp}{s:Θ}{fp:Η}(I:GX X Oa σ H s)(hf:∀b∈fp,Qs X Oa H b)(ho:∀b∈fp,∃o,s.heap.get? b=↑o/\∀v,o.data≠ .cell v):GX X (Oa++ZO fp s.heap) σ H s:=
 I.pins_of λp i=>(JL.mp i).elim (λz=>I.pin p (JV _ z)) λz=>by
  obtain⟨a,e⟩:=iX z;obtain⟨g,h,f,_⟩:=hf p.1 a;obtain⟨o,c,d⟩:=ho p.1 a;rw[e]at c;cases c
  exact#[e,g,h,f,d]
theorem GX.unpinned{Oa pl:GR}{σ:St}{H:Hp}{s:Θ}(I:GX X (Oa++pl) σ H s):GX X Oa σ H s:=I.pins_of λp a=>I.pin p (JV _ (FN _ a))
theorem B9{t:Φ}{z:List δ}{wi:TI}{g:TG}{tb:TS}{pos:Pos}(hp:PassesOwn (model X.prog X.w) X.A X.env X.xe)(hc:X.calm=true)(hi:PI X tg t wi)(hg:PG X tg g)(hb:LB X z tb)
  (hs:∀x,foldedSetIterable t X.env x=pure x:=by intro _;rfl):PS X (.For tg t z [] pos) (xg wi g tb):=by
 intro Oa s σ H D I h;refine wpAny_For (qz (hi Oa s σ H _ I h) λv s1 h1=>qz h1 λa0 s2 h2=>?_) hs
 obtain⟨it,fp,tn,J,H2,e,I2,T,Q,U,W,⟨m0,w0⟩,G⟩:=h2;subst e;have j:∀{H':Hp},(∀b∈fp,H' b=none)->∀b∈fp,Qs X Oa H' b:=λhn b hb=>#[hn b hb,(U b hb).2]
 refine codeAny_forLoop_any (λn s'=>∃i p H',GX X Oa p H' s'/\tn i s'.heap/\(∀b∈fp,H' b=none)/\W i n p H') ?_ m0 #[0,σ,H2,I2,Q,λb hb=>(U b hb).1,w0]
 rintro n s3 ⟨i,c,L,I3,F,E,w3⟩
 rcases G i n c L w3 with⟨K,qn⟩|⟨go,N,hN,step⟩
 ·refine F6 hp (qz (T.done X Z Z Z hc i Oa s3 c L X.xe I3 (j E) F K) λr s4 B=>?_)
  obtain⟨S,I4⟩:=B;subst S;exact wpAny_execs_nil #[c,L,I4,qn]
 ·refine F6 hp (qz (T.item X Z Z Z hc i Oa s3 c L X.xe I3 (j E) F go) λr s4 B=>?_)
  obtain⟨u,S,h4⟩:=B;subst S;refine F6 hp (qz h4 λ_ Y B=>?_)
  obtain⟨x,H5,I5,r5,y5,A,O⟩:=B;have M:=I5.pinned (j O) (T.obj _ _ A);refine F6 hp (qz (hg _ Y c H5 x u _ M r5 (step x H5 y5)) λ_ s6 B=>?_)
  obtain⟨R,H6,I6,q6⟩:=B;refine F6 hp (qz (hb _ s6 R H6 _ I6 q6) λf P y=>?_)
  have l:∀{a:St} {q:Hp},GX X (Oa++ZO fp Y.heap) a q P->N a q->∃m,m<n/\∃i p H',GX X Oa p H' P/\tn i P.heap/\(∀b∈fp,H' b=none)/\W i m p H':=λ{a q} w C=>by
   obtain⟨m',hm,w7⟩:=hN a q C;refine#[m',hm,i+1,a,q,w.unpinned,T.keep _ _ _ A λb hb o e=>(w.pin (b,o) (JV _ (JV _ (Qk hb e)))).1,λb hb=>?_,w7]
   obtain⟨o,e,d⟩:=T.obj _ _ A b hb
   exact(w.pin (b,o) (JV _ (JV _ (Qk hb e)))).2.1
  cases f with
  |next=>obtain⟨a,q,w,C⟩:=y;exact l w C
  |cont=>obtain⟨a,q,w,C⟩:=y;exact l w C
  |brk=>obtain⟨a,q,w,y⟩:=y;exact#[a,q,w.unpinned,y]
  |ret v=>obtain⟨x7,a,q,w,r7,y⟩:=y;exact#[x7,a,q,w.unpinned,r7,y]
end
theorem Qj{K:ι}{a:Δ}{xs:Ε}{g:TG}{tb:TS}{D:HY}{σ:St}{H:Hp}(Pv:Nat->St->Hp->Prop)(l:Pv 0 σ H)(hl:∀i σ H,i<=xs.length->Pv i σ H->G0 K H a xs)
  (hs:∀i x σ H,xs[i]? =↑x->Pv i σ H->g x σ H λd h=>tb {D with nx:=Pv (i+1),ct:=Pv (i+1),bk:=D.nx} d h)(hd:∀σ H,Pv xs.length σ H->D.nx σ H):
  ∃W:Nat->Nat->St->Hp->Prop,(∃m,W 0 m σ H)/\∀i m σ H,W i m σ H->
   ((cE K a).stop i H/\D.nx σ H)\/((cE K a).go i H/\∃N:St->Hp->Prop,(∀c H',N c H'->∃j,j<m/\W (i+1) j c H')/\∀x H',(cE K a).yld i H x H'->g x σ H' λd h=>tb {D with nx:=N,ct:=N,bk:=D.nx} d h):=by
 refine#[λi m σ H=>m=xs.length-i/\i<=xs.length/\Pv i σ H,#[xs.length,by simp,Jy _,l],?_]
 rintro i m σ H ⟨rfl,hi,p⟩
 have q:=hl i σ H hi p
 by_cases f:i<xs.length
 ·refine .inr #[#[xs,xs[i],q,by simp [f]],Pv (i+1),λc H' n=>#[xs.length-(i+1),by lia,Z,f,n],λx H' y=>?_]
  obtain⟨e,y⟩:=y;subst e;exact hs i x σ _ (y xs q) p
 ·have e:i=xs.length:=by lia
  subst e;exact .inl #[#[xs,q,Jf _],hd σ H p]
theorem hW{K:ι}{a:Δ}{xs:Ε}{g:TG}{tb:TS}{D:HY}{σ:St}{H:Hp}(Pv:Nat->St->Hp->Prop)(l:Pv 0 σ H)(hl:∀i σ H,i<=xs.length->Pv i σ H->G9 K H a xs)
  (hs:∀i x σ H,xs[i]? =↑x->Pv i σ H->g x σ H λd h=>tb {D with nx:=Pv (i+1),ct:=Pv (i+1),bk:=D.nx} d h)(hd:∀σ H,Pv xs.length σ H->D.nx σ H):
  ∃W:Nat->Nat->St->Hp->Prop,(∃m,W 0 m σ H)/\∀i m σ H,W i m σ H->
   ((cV K a).stop i H/\D.nx σ H)\/((cV K a).go i H/\∃N:St->Hp->Prop,(∀c H',N c H'->∃j,j<m/\W (i+1) j c H')/\∀x H',(cV K a).yld i H x H'->g x σ H' λd h=>tb {D with nx:=N,ct:=N,bk:=D.nx} d h):=by
 refine#[λi m σ H=>m=xs.length-i/\i<=xs.length/\Pv i σ H,#[xs.length,by simp,Jy _,l],?_]
 rintro i m σ H ⟨rfl,hi,p⟩
 have q:=hl i σ H hi p
 by_cases f:i<xs.length
 ·refine .inr #[#[xs,xs[i],q,by simp [f]],Pv (i+1),λc H' n=>#[xs.length-(i+1),by lia,Z,f,n],λx H' y=>?_]
  obtain⟨e,y⟩:=y;subst e;exact hs i x σ _ (y xs q) p
 ·have e:i=xs.length:=by lia
  subst e;exact .inl #[#[xs,q,Jf _],hd σ H p]
theorem Qf{lo:Int}{n:Nat}{g:TG}{tb:TS}{D:HY}{σ:St}{H:Hp}(Pv:Nat->St->Hp->Prop)(j:Pv 0 σ H)
  (hs:∀i σ H,i<n->Pv i σ H->g (.int (lo+i)) σ H λd f=>tb {D with nx:=Pv (i+1),ct:=Pv (i+1),bk:=D.nx} d f)(hd:∀σ H,Pv n σ H->D.nx σ H):
  ∃W:Nat->Nat->St->Hp->Prop,(∃m,W 0 m σ H)/\∀i m σ H,W i m σ H->
   ((i5 lo n).stop i H/\D.nx σ H)\/((i5 lo n).go i H/\∃N:St->Hp->Prop,(∀c H',N c H'->∃h,h<m/\W (i+1) h c H')/\∀x H',(i5 lo n).yld i H x H'->g x σ H' λd f=>tb {D with nx:=N,ct:=N,bk:=D.nx} d f):=by
 refine#[λi m σ H=>m=n-i/\i<=n/\Pv i σ H,#[n,by simp,Jy _,j],?_]
 rintro i m σ H ⟨rfl,hi,p⟩
 by_cases a:i<n
 ·refine .inr #[a,Pv (i+1),λc H' l=>#[n-(i+1),by lia,Z,a,l],λx H' y=>?_]
  obtain⟨e,y⟩:=y;subst e y;exact hs i σ _ a p
 ·have e:i=n:=by lia
  subst e;exact .inl #[Jf _,hd σ H p]
abbrev R2:=V->V->Hp->VK->Prop
def zt(X:Cx)(f:Γ->Γ->Sem Γ)(r:R2):Prop:=
 ∀(Oa:GR) (s:Θ) (σ:St) (H:Hp) (x y:V) (v u:Γ) (Q:VK),GX X Oa σ H s->G8 x v->G8 y u->r x y H Q->
  ε (model X.prog X.w) X.A (f v u) (EP X Oa σ Q) X.xe s
def yz(X:Cx)(f:Γ->Sem Γ)(r:V->Hp->VK->Prop):Prop:=
 ∀(Oa:GR) (s:Θ) (σ:St) (H:Hp) (x:V) (v:Γ) (Q:VK),GX X Oa σ H s->G8 x v->r x H Q->
  ε (model X.prog X.w) X.A (f v) (EP X Oa σ Q) X.xe s
def zi(X:Cx)(f:Γ)(r:Ε->Hp->VK->Prop):Prop:=
 ∀(Oa:GR) (s:Θ) (σ:St) (H:Hp) (xs:Ε) (a:Ζ) (Q:VK),GX X Oa σ H s->GZ xs a->r xs H Q->
  ε (model X.prog X.w) X.A (call f a) (EP X Oa σ Q) X.xe s
def jf(r:R2)(ta tb:TE):TE:=λσ H Q=>ta σ H λx H1=>tb σ H1 λy a=>r x y a Q
def D8(r:V->Hp->VK->Prop)(ta:TE):TE:=λσ H Q=>ta σ H λx H1=>r x H1 Q
inductive N8 (C:Int->Int->Prop) (g:Int->Int->V) (x:V) (y:V) (H:Hp) (Q:VK):Prop
 |mk (i:_) (j:_) (h1:x= .int i) (h2:y= .int j) (h3:C i j) (h4:Q (g i j) H)
def rI(C:Int->Int->Prop)(g:Int->Int->V):R2:=λx y H Q=>N8 C g x y H Q
inductive N5 (g:Int->Int->V) (x:V) (y:V) (H:Hp) (Q:VK):Prop
 |mk (i:_) (j:_) (h1:x= .int i) (h2:y= .int j) (h3:Q (g i j) H)
def jz(g:Int->Int->V):R2:=λx y H Q=>N5 g x y H Q
inductive N9 (g:Int->V) (x:V) (H:Hp) (Q:VK):Prop
 |mk (i:_) (h1:x= .int i) (h2:Q (g i) H)
def rU(g:Int->V):V->Hp->VK->Prop:=λx H Q=>N9 g x H Q
section
variable{X:Cx}{a b:Φ}{ta tb:TE}{pos:Pos}
theorem vO(ha:PE X a ta)(hb:PE X b tb){Oa:GR}{s:Θ}{σ:St}{H:Hp}{R:V->V->Hp->Prop}(I:GX X Oa σ H s)
  (h:ta σ H λx H1=>tb σ H1 λy c=>R x y c){Q:GP}{f:Γ->Γ->Sem Γ}
  (hf:∀v u g x y c,GX X Oa σ c g->G8 x v->G8 y u->R x y c->ε (model X.prog X.w) X.A (f v u) Q X.xe g):
  ε (model X.prog X.w) X.A (eval a X.env) (λv e=>ε (model X.prog X.w) X.A (eval b X.env) (λu d=>ε (model X.prog X.w) X.A (f v u) Q X.xe d) X.xe e) X.xe s:=by
 refine qz (ha Oa s σ H _ I h) λv q i=>?_
 obtain⟨x,H1,o,l,n⟩:=i;refine qz (hb Oa q σ H1 _ o n) λu g i=>?_
 obtain⟨y,c,p,m,j⟩:=i;exact hf v u g x y c p l m j
theorem DN{op:Operator}{r:R2}(ho:zt X (binaryOp op) r)(ha:PE X a ta)(hb:PE X b tb):PE X (.BinOp a op b pos) (jf r ta tb):=by
 intro Oa s σ H Q I h;exact wpAny_BinOp (vO ha hb I h λv u e x y g f d c q=>ho Oa e σ g x y v u Q f d c q)
theorem DG{op:UnaryOp}{r:V->Hp->VK->Prop}(ho:yz X (unaryOp op) r)(ha:PE X a ta):PE X (.UnaryOp op a pos) (D8 r ta):=by
 intro Oa s σ H Q I h;exact UnaryOp_ (qz (ha Oa s σ H _ I h) λv e ⟨x,H1,d,f,c⟩=>ho Oa e σ H1 x v Q d f c)
theorem yp{f:Γ->Γ->Sem Γ}{C:Int->Int->Prop}{g:Int->Int->Int}
  (a:∀(i j:Int) (t u:Tok) (s:Θ) (Q:GP) (E:GP),C i j->Q (.int (g i j) s.toks) {s with toks:=s.toks+1}->ε (model X.prog X.w) X.A (f (.int i t) (.int j u)) Q E s):
  zt X f (rI C λi j=> .int (g i j)):=by
 intro Oa s σ H x y v u Q I d c h;obtain⟨i,j,rfl,rfl,l,q⟩:=h;obtain⟨t,rfl⟩:=d;obtain⟨e,rfl⟩:=c;exact a i j t e s _ _ l #[.int (g i j),H,I.tok _,#[_,Z],q]
theorem CJ{f:Γ->Γ->Sem Γ}{g:Int->Int->Int}
  (a:∀(i j:Int) (t u:Tok) (s:Θ) (Q:GP) (E:GP),Q (.int (g i j) s.toks) {s with toks:=s.toks+1}->ε (model X.prog X.w) X.A (f (.int i t) (.int j u)) Q E s):
  zt X f (jz λi j=> .int (g i j)):=by
 intro Oa s σ H x y v u Q I d c h;obtain⟨i,j,rfl,rfl,q⟩:=h;obtain⟨t,rfl⟩:=d;obtain⟨e,rfl⟩:=c;exact a i j t e s _ _ #[.int (g i j),H,I.tok _,#[_,Z],q]
theorem sH{f:Γ->Γ->Sem Γ}{g:Int->Int->Bool}
  (a:∀(i j:Int) (t u:Tok) (s:Θ) (Q:GP) (E:GP),Q (.bool (g i j)) s->ε (model X.prog X.w) X.A (f (.int i t) (.int j u)) Q E s):
  zt X f (jz λi j=> .bl (g i j)):=by
 intro Oa s σ H x y v u Q I d c h;obtain⟨i,j,rfl,rfl,q⟩:=h;obtain⟨t,rfl⟩:=d;obtain⟨e,rfl⟩:=c;exact a i j t e s _ _ #[.bl (g i j),H,I,Z,q]
def Ek(i j:Int):Prop:=0<j/\j<1073741824
def Ey(i j:Int):Prop:=0<=j/\j<=1000000/\i.natAbs<2 ^ 64
def Nn(i j:Int):Prop:=(-(2 ^ 64)<i/\i<2 ^ 64)\/(-(2 ^ 64)<j/\j<2 ^ 64)
theorem Nn.ok{i j:Int}(h:Nn i j):IntMulOk i j:=by
 rcases h with⟨h1,a⟩|⟨h1,a⟩
 ·exact .of_left (intBits_le_64 h1 a)
 ·exact .of_right (intBits_le_64 h1 a)
theorem qI:zt X (binaryOp .Add) (jz λi j=> .int (i+j)):=CJ λ_ _ _ _ _ _ _ q=>add_int q
theorem zO:zt X (binaryOp .Sub) (jz λi j=> .int (i-j)):=CJ λ_ _ _ _ _ _ _ q=>sub_int q
theorem QU:zt X (binaryOp .Mult) (rI Nn λi j=> .int (i*j)):=yp λ_ _ _ _ _ _ _ a q=>mul_int q a.ok
theorem bF:zt X (binaryOp .FloorDiv) (rI Ek λi j=> .int (i/j)):=yp λi j _ _ _ _ _ a q=>by
 have h1:(0:Int)<j:=a.1
 have c:j<1073741824:=a.2
 exact floordiv_int (by lia) (by rw[Int.fdiv_eq_ediv_of_nonneg i (by lia)];exact q) (.inl (PyProof.noPylong_small (by lia)))
theorem zU:zt X (binaryOp .Mod) (rI (λ_ j=>0<j) λi j=> .int (i%j)):=yp λi j _ _ _ _ _ a q=>by
 have h1:(0:Int)<j:=a
 exact mod_int' (by lia) (by rw[Int.fmod_eq_emod_of_nonneg i (by lia)];exact q)
theorem CN:zt X (binaryOp .Pow) (rI Ey λi j=> .int (i ^ j.toNat)):=yp λ_ _ _ _ _ _ _ a q=>pow_int_small a.1 a.2.1 a.2.2 q
theorem EL{f:Γ->Sem Γ}{g:Int->Int}
  (a:∀(i:Int) (t:Tok) (s:Θ) (Q:GP) (E:GP),Q (.int (g i) s.toks) {s with toks:=s.toks+1}->ε (model X.prog X.w) X.A (f (.int i t)) Q E s):
  yz X f (rU λi=> .int (g i)):=by
 intro Oa s σ H x v Q I c h;obtain⟨i,rfl,q⟩:=h;obtain⟨t,rfl⟩:=c;exact a i t s _ _ #[.int (g i),H,I.tok _,#[_,Z],q]
theorem aE:yz X (unaryOp .USub) (rU λi=> .int (-i)):=EL λ_ _ _ _ _ q=>neg_int q
end
def C8:V->V->Bool
 | .non,.non=>true| .non,.int _=>true| .int _,.non=>true| .non,.bl _=>true| .bl _,.non=>true| .non,.str _=>true| .str _,.non=>true
 | .int _,.int _=>true| .bl _,.bl _=>true| .str _,.str _=>true| .byt _,.byt _=>true
 | .int _,.str _=>true| .str _,.int _=>true| .bl _,.str _=>true| .str _,.bl _=>true
 |_,_=>false
def EJ:R2:=λx y H Q=>C8 x y=true/\Q (.bl (decide (x=y))) H
def EI:R2:=λx y H Q=>C8 x y=true/\Q (.bl (! decide (x=y))) H
theorem oH{i j:Int}:decide (V.int i=V.int j)=(i==j):=by
 rw[Fb];simp
theorem tz{i j:Bool}:decide (V.bl i=V.bl j)=(i==j):=by
 rw[Fb];simp
theorem oJ{i j:Str}:decide (V.str i=V.str j)=(i==j):=by
 rw[Fb];simp
theorem oW{i j:Array UInt8}:decide (V.byt i=V.byt j)=(i.toList==j.toList):=by
 rw[Fb];cases i;cases j;simp
section
variable{X:Cx}{a b c:Φ}{ta tb tc:TE}{pos:Pos}
theorem qP{Oa:GR}{σ:St}{H:Hp}{s:Θ}{Q:VK}{k a:Bool}(I:GX X Oa σ H s)(q:Q (.bl k) H)(e:k=a):EP X Oa σ Q (.bool a) s:=by
 subst e
 exact#[.bl k,H,I,Z,q]
theorem zE:zt X (compareOp .Eq) EJ:=by
 intro Oa s σ H x y v u Q I e a h;obtain⟨d,q⟩:=h;cases x with
 |non=>
  cases e;cases y with
  |non=>cases a;exact PySem.EqNone.eq_none_none (qP I q (by simp))
  |bl j=>cases a;exact PySem.EqNone.eq_none_bool (qP I q (by simp))
  |int j=>obtain⟨c,rfl⟩:=a;exact PySem.EqNone.eq_none_int (qP I q (by simp))
  |str j=>obtain⟨c,rfl⟩:=a;exact PySem.EqNone.eq_none_str (qP I q (by simp))
  |_=>exact absurd (show false=true from d) JJ
 |bl i=>
  cases e;cases y with
  |non=>cases a;exact PySem.EqNone.eq_bool_none (qP I q (by simp))
  |bl j=>cases a;exact eq_bool (qP I q tz)
  |str j=>obtain⟨c,rfl⟩:=a;exact PySem.EqMixed.eq_bool_str (qP I q (by simp))
  |_=>exact absurd (show false=true from d) JJ
 |int i=>
  obtain⟨t,rfl⟩:=e;cases y with
  |non=>cases a;exact PySem.EqNone.eq_int_none (qP I q (by simp))
  |int j=>obtain⟨c,rfl⟩:=a;exact eq_int (qP I q oH)
  |str j=>obtain⟨c,rfl⟩:=a;exact PySem.EqMixed.eq_int_str (qP I q (by simp))
  |_=>exact absurd (show false=true from d) JJ
 |str i=>
  obtain⟨t,rfl⟩:=e;cases y with
  |non=>cases a;exact PySem.EqNone.eq_str_none (qP I q (by simp))
  |bl j=>cases a;exact PySem.EqMixed.eq_str_bool (qP I q (by simp))
  |int j=>obtain⟨c,rfl⟩:=a;exact PySem.EqMixed.eq_str_int (qP I q (by simp))
  |str j=>obtain⟨c,rfl⟩:=a;exact eq_str (qP I q oJ)
  |_=>exact absurd (show false=true from d) JJ
 |byt i=>
  obtain⟨t,rfl⟩:=e;cases y with
  |byt j=>obtain⟨c,rfl⟩:=a;exact W.eq_bytes (qP I q oW)
  |_=>exact absurd (show false=true from d) JJ
 |_=>cases y<;>exact absurd (show false=true from d) JJ
theorem gF:zt X (compareOp .NotEq) EI:=by
 intro Oa s σ H x y v u Q I e a h;obtain⟨d,q⟩:=h;cases x with
 |non=>
  cases e;cases y with
  |non=>cases a;exact PySem.EqNone.ne_none_none (qP I q (by simp))
  |bl j=>cases a;exact PySem.EqNone.ne_none_bool (qP I q (by simp))
  |int j=>obtain⟨c,rfl⟩:=a;exact PySem.EqNone.ne_none_int (qP I q (by simp))
  |str j=>obtain⟨c,rfl⟩:=a;exact PySem.EqNone.ne_none_str (qP I q (by simp))
  |_=>exact absurd (show false=true from d) JJ
 |bl i=>
  cases e;cases y with
  |non=>cases a;exact PySem.EqNone.ne_bool_none (qP I q (by simp))
  |bl j=>cases a;exact ne_bool (qP I q (JH not tz))
  |str j=>obtain⟨c,rfl⟩:=a;exact PySem.EqMixed.ne_bool_str (qP I q (by simp))
  |_=>exact absurd (show false=true from d) JJ
 |int i=>
  obtain⟨t,rfl⟩:=e;cases y with
  |non=>cases a;exact PySem.EqNone.ne_int_none (qP I q (by simp))
  |int j=>obtain⟨c,rfl⟩:=a;exact ne_int (qP I q (JH not oH))
  |str j=>obtain⟨c,rfl⟩:=a;exact PySem.EqMixed.ne_int_str (qP I q (by simp))
  |_=>exact absurd (show false=true from d) JJ
 |str i=>
  obtain⟨t,rfl⟩:=e;cases y with
  |non=>cases a;exact PySem.EqNone.ne_str_none (qP I q (by simp))
  |bl j=>cases a;exact PySem.EqMixed.ne_str_bool (qP I q (by simp))
  |int j=>obtain⟨c,rfl⟩:=a;exact PySem.EqMixed.ne_str_int (qP I q (by simp))
  |str j=>obtain⟨c,rfl⟩:=a;exact ne_str (qP I q (JH not oJ))
  |_=>exact absurd (show false=true from d) JJ
 |byt i=>
  obtain⟨t,rfl⟩:=e;cases y with
  |byt j=>obtain⟨c,rfl⟩:=a;exact W.ne_bytes (qP I q (JH not oW))
  |_=>exact absurd (show false=true from d) JJ
 |_=>cases y<;>exact absurd (show false=true from d) JJ
theorem fh:zt X (compareOp .Lt) (jz λi j=> .bl (decide (i<j))):=sH λ_ _ _ _ _ _ _ q=>lt_int q
theorem ZM:zt X (compareOp .LtE) (jz λi j=> .bl (decide (i<=j))):=sH λ_ _ _ _ _ _ _ q=>le_int q
theorem sj:zt X (compareOp .Gt) (jz λi j=> .bl (decide (j<i))):=sH λ_ _ _ _ _ _ _ q=>gt_int q
theorem rK:zt X (compareOp .GtE) (jz λi j=> .bl (decide (j<=i))):=sH λ_ _ _ _ _ _ _ q=>ge_int q
theorem Zi:zt X (compareOp .Is) (λx y H Q=>y= .non/\Q (.bl (decide (x= .non))) H):=by
 intro Oa s σ H x y v u Q I a c h;obtain⟨rfl,q⟩:=h;cases c;refine is_none_gen (qP I q ?_)
 cases x<;>first
  |(cases a;rfl)
  |(obtain⟨t,rfl⟩:=a;rfl)
theorem Z7:zt X (compareOp .IsNot) (λx y H Q=>y= .non/\Q (.bl (! decide (x= .non))) H):=by
 intro Oa s σ H x y v u Q I a c h;obtain⟨rfl,q⟩:=h;cases c;refine isnot_none_gen (qP I q ?_)
 cases x<;>first
  |(cases a;rfl)
  |(obtain⟨t,rfl⟩:=a;rfl)
theorem qA(b:Φ){op:CmpOp}(h:op≠ .In:=by decide)(h2:op≠ .NotIn:=by decide):behindInMarks op b=false:=by
 have a:(op==CmpOp.In)=false:=by cases op<;>first|rfl|exact absurd Z h
 have c:(op==CmpOp.NotIn)=false:=by cases op<;>first|rfl|exact absurd Z h2
 cases b<;>simp [behindInMarks,a,c]
theorem AV{op:CmpOp}{r:R2}(ho:zt X (compareOp op) r)(ha:PE X a ta)(hb:PE X b tb)(hm:behindInMarks op b=false):PE X (.Compare a [op] [b] pos) (jf r ta tb):=by
 intro Oa s σ H Q I h;exact wpAny_Compare1 (vO ha hb I h λv u e x y g f d c q=>ho Oa e σ g x y v u Q f d c q) hm
def gy(t:TE):TT:=λσ H Q=>t σ H λx H'=>∃k,x= .bl k/\Q k H'
theorem Br{op:CmpOp}{r:R2}(ho:zt X (compareOp op) r)(ha:PE X a ta)(hb:PE X b tb)(hm:behindInMarks op b=false):PT X (.Compare a [op] [b] pos) (gy (jf r ta tb)):=by
 intro Oa s σ H Q I h;refine wpAny_isTrue_Compare1 (qz (ha Oa s σ H _ I h) λv t ⟨x,H1,n,i,m⟩=>qz (hb Oa t σ H1 _ n m) λu o ⟨y,w,p,j,d⟩=>
  qz (ho Oa o σ w x y v u _ p i j d) λc A ⟨z,g,f,q,k,e,l⟩=>?_) hm
 subst e;cases q;exact Fj #[g,f,l]
def hU(r d:R2)(ta tb tc:TE):TE:=λσ H Q=>ta σ H λx H1=>tb σ H1 λy f=>r x y f λz a=>∃k,z= .bl k/\
 (if k=true then tc σ a λc e=>d y c e Q else Q (.bl false) a)
theorem wL{op f:CmpOp}{r l:R2}(ho:zt X (compareOp op) r)(ho':zt X (compareOp f) l)(ha:PE X a ta)(hb:PE X b tb)(hc:PE X c tc)
  (hm:lastMarks [op,f] [b,c]=false:=by with_unfolding_all rfl):PE X (.Compare a [op,f] [b,c] pos) (hU r l ta tb tc):=by
 intro Oa s σ H Q I h;refine Compare_chain (qz (ha Oa s σ H _ I h) λv t ⟨x,H1,L,C,K⟩=>chain_link (qz (hb Oa t σ H1 _ L K) λu o ⟨y,F,w,g,D⟩=>
  qz (ho Oa o σ F x y v u _ w C g D) λd q ⟨z,i,m,M,k,e,j⟩=>?_)) hm
 subst e;cases M;refine Fj ?_
 cases k with
 |false=>exact ite_ff #[.bl false,i,m,Z,j]
 |true=>exact ite_tt (chain_last (qz (hc Oa q σ i _ m j) λn B ⟨G,A,J,E,p⟩=>ho' Oa B σ A y G u n Q J g E p))
theorem v8{op f:CmpOp}{r l:R2}(ho:zt X (compareOp op) r)(ho':zt X (compareOp f) l)(ha:PE X a ta)(hb:PE X b tb)(hc:PE X c tc)
  (hm:lastMarks [op,f] [b,c]=false:=by with_unfolding_all rfl):PT X (.Compare a [op,f] [b,c] pos) (gy (hU r l ta tb tc)):=by
 intro Oa s σ H Q I h;refine isTrue_chain (qz (ha Oa s σ H _ I h) λv w ⟨x,H1,T,G,S⟩=>test_link (qz (hb Oa w σ H1 _ T S) λu o ⟨y,O,C,g,K⟩=>
  qz (ho Oa o σ O x y v u _ C G g K) λd q ⟨z,i,m,U,k,e,j⟩=>?_)) hm
 subst e;cases U;refine Fj ?_
 cases k with
 |false=>
  obtain⟨k',N,F⟩:=j;cases N;exact ite_ff #[i,m,F]
 |true=>
  refine ite_tt (test_last (qz (hc Oa q σ i _ m j) λn E ⟨P,D,R,L,t⟩=>qz (ho' Oa E σ D y P u n _ R g L t) λd' Y A=>?_))
  obtain⟨z2,M,W,p,k2,B,J⟩:=A;subst B;cases p;exact Fj #[M,W,J]
theorem ZS:(ζ:Nat)<2 ^ 63:=by rw[Ju];decide
theorem zM{x:V}{us:Ζ}(r:GZ [x] us):∃u,us=[u]/\G8 x u:=by
 cases r with
 |cons r1 r2=>cases r2;exact#[_,Z,r1]
theorem j6{x y:V}{us:Ζ}(r:GZ [x,y] us):∃u a,us=[u,a]/\G8 x u/\G8 y a:=by
 cases r with
 |cons r1 r2=>
  cases r2 with
  |cons r3 r4=>cases r4;exact#[_,_,Z,r1,r3]
theorem lS:zi X (.builtin "abs") (λxs H Q=>∃i,xs=[.int i]/\Q (.int (if i<0 then -i else i)) H):=by
 intro Oa s σ H xs a Q I r h;obtain⟨i,rfl,q⟩:=h;obtain⟨u,rfl,t,rfl⟩:=zM r;exact call_abs_int λu tk=>#[.int (if i<0 then -i else i),H,I.tok _,#[_,Z],q]
theorem Ze(hc:X.calm=true):zi X (.builtin "max") (λxs H Q=>∃i j,xs=[.int i,.int j]/\Q (.int (if j>i then j else i)) H):=by
 intro Oa s σ H xs d Q I r h;obtain⟨i,j,rfl,q⟩:=h;obtain⟨u,c,rfl,⟨t,rfl⟩,⟨e,rfl⟩⟩:=j6 r;refine max_two_ints (I.ok.hd hc) λh' tk k=>#[_,H,I.kept k,?_,q]
 by_cases a:j>i
 ·rw[Jc a,Jc a];exact#[_,Z]
 ·rw[Jb a,Jb a];exact#[_,Z]
theorem zT(hc:X.calm=true):zi X (.builtin "min") (λxs H Q=>∃i j,xs=[.int i,.int j]/\Q (.int (if j<i then j else i)) H):=by
 intro Oa s σ H xs d Q I r h;obtain⟨i,j,rfl,q⟩:=h;obtain⟨u,c,rfl,⟨t,rfl⟩,⟨e,rfl⟩⟩:=j6 r;refine min_two_ints (I.ok.hd hc) λh' tk k=>#[_,H,I.kept k,?_,q]
 by_cases a:j<i
 ·rw[Jc a,Jc a];exact#[_,Z]
 ·rw[Jb a,Jb a];exact#[_,Z]
theorem iU:zi X (.type "int") (λxs H Q=>(∃i,xs=[.int i]/\Q (.int i) H)\/∃k,xs=[.bl k]/\Q (.int (if k then 1 else 0)) H):=by
 intro Oa s σ H xs c Q I r h;rcases h with⟨i,rfl,q⟩|⟨k,rfl,q⟩
 ·obtain⟨u,rfl,t,rfl⟩:=zM r
  exact call_int_int #[.int i,H,I,#[_,Z],q]
 ·obtain⟨u,rfl,a⟩:=zM r
  cases a;exact call_int_bool #[.int (if k then 1 else 0),H,I.tok _,#[_,Z],q]
theorem lH:zi X (.builtin "ord") (λxs H Q=>∃x,xs=[.str x]/\x.length=1/\Q (.int (x.cps.getD 0 0:Nat)) H):=by
 intro Oa s σ H xs c Q I r h;obtain⟨x,rfl,a,q⟩:=h;obtain⟨u,rfl,t,rfl⟩:=zM r;exact ord_of_one a #[.int _,H,I.tok _,#[_,Z],q]
end
structure LC(h:Ψ)(x dx C:Δ)(mA:GQ):Prop where
 obj:h.get? x=↑(PySem.W.instObj C dx)
 ns:h.Ns1 dx mA
 ne:dx≠x
theorem vD{h:Ψ}{dx:Δ}{mA:GQ}(n:h.Ns1 dx mA):∃od,h.get? dx=↑od/\∀name,W.lookIn name od=↑(mA name):=by
 obtain⟨o,es,ep,i,j,hk,_,f⟩:=n;refine#[o,i,λname=>?_]
 have e:=f name;unfold nsFind findBy at e;rw[<- Array.find?_toList]at e;unfold W.lookIn;rw[j]
 dsimp only
 split
 ·rename_i y q
  rw[q]at e;exact JH some e
 ·rename_i q
  rw[q]at e;have a:es.toList.any (·.refKey)=false:=by
   rw[List.any_eq_false];intro y d;obtain⟨z,t,c⟩:=hk y (Array.mem_toList_iff.mp d)
   simp [DictEntry.refKey,c]
  have g:¬es.toList.any (·.refKey)=true:=by rw[a];exact JJ
  rw[Jb g];exact JH some e
theorem LC.look{h:Ψ}{x dx C:Δ}{mA:GQ}(I:LC h x dx C mA):∃od,W.InstAt h x (W.instObj C dx) C ↑od/\∀name,W.lookIn name od=↑(mA name):=
 let⟨od,ho,hl⟩:=vD I.ns
 #[od,#[I.obj,Z,Z,ho],hl]
section
variable{prog:Ξ}{w:Ω}{A:Around}{E:GP}{s:Θ}{K:ι}{x dx C f:Δ}{mA:GQ}{name:Str}{v:Γ}
theorem BB{a:Bool}{Q:GP}(X:K.In s.heap)(I:LC s.heap x dx C mA)(hg:W.plainGet K C name=true)(d:W.hasDictIn K C=true)
  (ha:W.findIn K (.ref C) name=↑none)(hv:mA name=↑v)(c:W.handedIn v=true)(h:Q v {s with toks:=s.toks+1}):
  ε (model prog w) A (getAttr (.ref x) name a) Q E s:=by
 obtain⟨od,J,e⟩:=I.look;exact W.get_value X J (W.plainGet_of hg).1 (W.findObj_own d ha Z (by rw[e,hv])) c h
theorem vL{pl:Sem Bool}{Q:Γ×Ζ->Θ->Prop}(X:K.In s.heap)(I:LC s.heap x dx C mA)(hg:W.plainGet K C name=true)
  (hf:W.findIn K (.ref C) name=↑(↑(.ref f)))(a:W.isFn K (.ref f)=true)(hv:mA name=none)(h:Q (.ref f,[.ref x]) s):
  ε (model prog w) A (getMethod (.ref x) name pl) Q E s:=by
 obtain⟨od,J,c⟩:=I.look;exact W.method_fn X J (W.plainGet_of hg).1 (W.plainGet_of hg).2 hf (JW.mp a) (by show(W.lookIn name od).map (·.isSome)=↑false;rw[c,hv];rfl) h
theorem Az{ns:Α}{Q:Unit->Θ->Prop}(X:K.In s.heap)(I:LC s.heap x dx C mA)
  (hs:W.findIn K (.ref C) "__setattr__"=↑(↑(.builtin "object.__setattr__")))(hp:W.plainOver K C=true)(o:W.takerIn K C name=↑none)(j:W.hasDictIn K C=true)
  (hw:PySem.Within mA ns)(hsz:ns.length<=ζ)
  (h:∀h',LC h' x dx C (λy=>if y=name then ↑v else mA y)->Ψ.SameBut dx s.heap h'->Q () {s with heap:=h',toks:=s.toks+2}):
  ε (model prog w) A (setAttr (.ref x) name v) Q E s:=by
 obtain⟨od,J,q⟩:=I.look;refine W.set_plain X J hs (W.osa_open (s:={s with toks:=s.toks+1}) (r:=none) X J hp o λb=>?_)
 obtain⟨cd,p,g⟩:=W.any_some j;have l:s.heap.get? x=some #[.ref C,↑dx,.plain,(List.toArray [])]:=I.obj
 refine Ja (Jd (Ja (Ja (wpAny_loadPart l (Ja (W.Looks.here (s:={s with toks:=s.toks+1}) (W.looks_clsIn X p) ?_))))))
 rw[g];refine Jd (a:=↑dx) (Ja (Jd (Ja ?_)))
 refine wpAny_nsSet1 (s:={s with toks:=s.toks+1}) I.ns λh' c d=>?_
 obtain⟨t,n,m,f,i,e⟩:=c.count (PySem.Within.cons name v hw)
 refine Ja (wpAny_lookBehind f (by rw[i];exact pastItsLine_dict (JG e (by rw[JN];lia))) ?_)
 exact Jd (h _ #[(d.2 _ (Ne.symm I.ne)).trans I.obj,c,I.ne] d)
theorem xh{R:Result->Θ->Prop}{vs:Ζ}{c:List (Str×Γ)}(X:K.In s.heap)(hm:W.makesIn K C=true)
  (hi:W.findIn K (.ref C) "__init__"=↑(↑(.ref f)))(hf:W.typeIn K (.ref f)=↑(.type "function"))
  (h:codeAny (model prog w) (A.under (.builtin "type.__call__" #[.ref C::vs,c])) (.call (.ref f) #[.ref (s.heap.objs.size+1)::vs,c]) (W.InitBack (s.heap.objs.size+1) R)
   {s with heap:=(s.heap.push W.emptyDict).push (W.instObj C s.heap.objs.size)}):
  codeAny (model prog w) A (.call (.ref C) #[vs,c]) R s:=by
 obtain⟨e,g,d,t,i⟩:=s;exact W.make_core (W.makes_of X hm) (W.looks_findIn X hi) (λa=>W.bind_fn X a hf) (.inl Z) h
end
def Qd(f:Str)(v:V):List (Str×V)->List (Str×V)
 | []=>[(f,v)]
 |(g,x)::r=>if g=f then(g,v)::r else(g,x)::Qd f v r
theorem fG(f g:Str)(v:V):∀fs:List (Str×V),(Qd f v fs).lookup g=if g=f then ↑v else fs.lookup g
 | []=>by
  show List.lookup g [(f,v)]=_
  by_cases h:g=f
  ·have a:(g==f)=true:=JW.mpr h
   simp only[List.lookup,a,Jc h]
  ·have a:(g==f)=false:=E9.mpr h
   simp only[List.lookup,a,Jb h]
 |(k,x)::r=>by
  have c:=fG f g v r;rw[show Qd f v ((k,x)::r)=(if k=f then(k,v)::r else(k,x)::Qd f v r)from Z]
  by_cases hk:k=f
  ·rw[Jc hk]
   by_cases h:g=k
   ·have a:(g==k)=true:=JW.mpr h
    simp only[List.lookup,a,Jc (h.trans hk)]
   ·have a:(g==k)=false:=E9.mpr h
    simp only[List.lookup,a,Jb (λe:g=f=>h (e.trans hk.symm))]
  ·rw[Jb hk]
   by_cases h:g=k
   ·have a:(g==k)=true:=JW.mpr h
    simp only[List.lookup,a,Jb (λe:g=f=>hk (h.symm.trans e))]
   ·have a:(g==k)=false:=E9.mpr h
    simp only[List.lookup,a];exact c
theorem db(f:Str)(v:V):∀fs:List (Str×V),f∈(Qd f v fs).map (·.1)/\∀g,g∈fs.map (·.1)->g∈(Qd f v fs).map (·.1)
 | []=>#[by simp [Qd],λg h=>by simp at h]
 |(k,x)::r=>by
  obtain⟨c,a⟩:=db f v r;rw[show Qd f v ((k,x)::r)=(if k=f then(k,v)::r else(k,x)::Qd f v r)from Z]
  by_cases hk:k=f
  ·rw[Jc hk]
   subst hk
   exact#[by simp,λg h=>by simpa using h]
  ·rw[Jb hk]
   refine#[?_,λg h=>?_]
   ·rw[JS]
    exact JM _ c
   ·rw[JS]at h⊢
    rcases Jm.mp h with e|e
    ·exact Jm.mpr (.inl e)
    ·exact JM _ (a g e)
theorem fK(f:Str)(v:V):∀fs:List (Str×V),(Qd f v fs).length<=fs.length+1
 | []=>by simp [Qd]
 |(k,x)::r=>by
  have a:=fK f v r;rw[show Qd f v ((k,x)::r)=(if k=f then(k,v)::r else(k,x)::Qd f v r)from Z]
  by_cases hk:k=f
  ·rw[Jc hk,JN,JN];lia
  ·rw[Jb hk,JN,JN];lia
theorem IM.some_of{v:V}{o:Ο}(r:IM ↑v o):∃u,o=↑u/\G8 v u:=by
 cases o with
 |none=>exact(show False from r).elim
 |some u=>exact#[u,Z,r]
theorem IM.none_of{o:Ο}(r:IM none o):o=none:=by
 cases o with
 |none=>rfl
 |some u=>exact(show False from r).elim
theorem vc{v:V}{u:Γ}(r:G8 v u):W.handedIn u=true:=by
 cases v with
 |non=>cases(show u=Γ.none from r);rfl
 |bl b=>cases(show u=Γ.bool b from r);rfl
 |int i=>obtain⟨t,e⟩:=(show∃t,u=Γ.int i t from r);cases e;rfl
 |str x=>obtain⟨t,e⟩:=(show∃t,u=Γ.str x t from r);cases e;rfl
 |byt b=>obtain⟨t,e⟩:=(show∃t,u=Γ.bytes b t from r);cases e;rfl
 |flt b=>obtain⟨t,e⟩:=(show∃t,u=Γ.float b t from r);cases e;rfl
 |ref a=>cases(show u=Γ.ref a from r);rfl
 |ty n=>cases(show u=Γ.type n from r);rfl
section
variable{P:Ξ}{w:Ω}{H:Hp}{h:Ψ}{a C dx:Δ}{fs:List (Str×V)}
theorem eV(c:IZ P w H h)(e:H a=↑(.ins C dx fs)):∃mA,LC h a dx C mA/\(∀f,IM (fs.lookup f) (mA f))/\PySem.Within mA (fs.map (·.1))/\fs.length<=1000/\H dx=↑(.own a):=by
 obtain⟨d,z,g,i,mA,n,r,q⟩:=(show Hv P w H h a (.ins C dx fs)from c a _ e)
 exact#[mA,#[i,n,g],r,q,z,d]
end
structure LV(K:ι)(C:Δ):Prop where
 pg:PySem.W.plainGet K C Str.empty=true
 hd:PySem.W.hasDictIn K C=true
 po:PySem.W.plainOver K C=true
 sa:PySem.W.findIn K (.ref C) "__setattr__"=↑(↑(.builtin "object.__setattr__"))
theorem LV.get{K:ι}{C:Δ}(c:LV K C)(f:Str):W.plainGet K C f=true:=c.pg
def HH(K:ι)(C:Δ)(f:Str):Prop:=PySem.W.findIn K (.ref C) f=↑none
theorem HH.taker{K:ι}{C:Δ}{f:Str}(n:HH K C f):W.takerIn K C f=↑none:=by
 unfold W.takerIn;rw[show W.findIn K (.ref C) f=↑none from n]
 rfl
structure M5(K:ι)(C:Δ)(m:Str)(f:Δ):Prop where
 at_:PySem.W.findIn K (.ref C) m=↑(↑(.ref f))
 fn:PySem.W.isFn K (.ref f)=true
 kp:PySem.W.keepIn K (.ref f)=true
section
variable{X:Cx}{Oa:GR}{σ:St}{H:Hp}{s:Θ}{a C dx:Δ}{fs:List (Str×V)}{f:Str}{v:V}{A:Around}{E:GP}
theorem sS{b:Bool}{Q:GP}(I:GX X Oa σ H s)(e:H a=↑(.ins C dx fs))(c:LV X.K C)(n:HH X.K C f)(l:fs.lookup f=↑v)
  (h:∀u s',GX X Oa σ H s'->G8 v u->Q u s'):ε (model X.prog X.w) A (getAttr (.ref a) f b) Q E s:=by
 obtain⟨mA,O,r,_,_,_⟩:=eV I.hok e;obtain⟨u,g,d⟩:=IM.some_of (v:=v) (o:=mA f) (by rw[<- l];exact r f)
 exact BB I.kIn O (c.get f) c.hd n g (vc d) (h u _ (I.tok _) d)
theorem gz{m:Str}{g:Δ}{pl:Sem Bool}{Q:Γ×Ζ->Θ->Prop}(I:GX X Oa σ H s)(e:H a=↑(.ins C dx fs))(c:LV X.K C)(k:M5 X.K C m g)(l:fs.lookup m=none)
  (h:Q (.ref g,[.ref a]) s):ε (model X.prog X.w) A (getMethod (.ref a) m pl) Q E s:=by
 obtain⟨mA,O,r,_,_,_⟩:=eV I.hok e;have d:mA m=none:=IM.none_of (by rw[<- l];exact r m)
 exact vL I.kIn O (c.get m) k.at_ k.fn d h
theorem rM{y:V}{u:Γ}{Q:Unit->Θ->Prop}(I:GX X Oa σ H s)(e:H a=↑(.ins C dx fs))(c:LV X.K C)(n:HH X.K C f)(hl:fs.length<1000)(l:G8 y u)
  (h:∀s',GX X Oa σ (GW H a (.ins C dx (Qd f y fs))) s'->Q () s'):ε (model X.prog X.w) A (setAttr (.ref a) f u) Q E s:=by
 obtain⟨mA,O,r,i,_,j⟩:=eV I.hok e;have m:(fs.map (·.1)).length<=ζ:=by rw[Je,Ju];lia
 refine Az I.kIn O c.sa c.po n.taker c.hd i m λh' d p=>h _ ?_
 have w:∃o,h'.get? dx=↑o:=let⟨o,_,_,e',_⟩:=d.ns;#[o,e']
 refine I.write (x:=a) (e:=dx) (by rw[e];exact True.intro) (.inr j) (λb q t z=>(p.2 b t).trans z) w ?_
 refine#[by rw[qm O.ne];exact j,?_,O.ne,d.obj,_,d.ns,λg=>?_,λg v=>?_]
 ·have:=fK f y fs;lia
 ·show IM ((Qd f y fs).lookup g) (if g=f then ↑u else mA g)
  rw[fG]
  by_cases q:g=f
  ·rw[Jc q,Jc q];exact l
  ·rw[Jb q,Jb q];exact r g
 ·by_cases q:g=f
  ·rw[q];exact(db f y fs).1
  ·refine(db f y fs).2 g (i g λz=>v ?_)
   show(if g=f then ↑u else mA g)=none
   rw[Jb q];exact z
theorem GX.made(I:GX X Oa σ H s):GX X Oa σ (GW (GW H s.heap.objs.size (.own (s.heap.objs.size+1))) (s.heap.objs.size+1) (.ins C s.heap.objs.size []))
  {s with heap:=(s.heap.push W.emptyDict).push (W.instObj C s.heap.objs.size)}:=by
 have d:(s.heap.push W.emptyDict).get? s.heap.objs.size=↑W.emptyDict:=Jq s.heap Z
 have g:((s.heap.push W.emptyDict).push (W.instObj C s.heap.objs.size)).get? (s.heap.objs.size+1)=↑(W.instObj C s.heap.objs.size):=by
  have:=Jq (s.heap.push W.emptyDict) (o:=W.instObj C s.heap.objs.size) Z
  rwa [JX]at this
 have j:(s.heap.push W.emptyDict).Ns s.heap.objs.size (λ_=>none):=#[W.emptyDict,(List.toArray []),_,d,Z,(λe h=>absurd h (by simp)),λ_=>rfl]
 have i:=I.laid (a:=s.heap.objs.size) (o:= .own (s.heap.objs.size+1)) (h':=s.heap.push W.emptyDict) (t':=s.toks) (λb u q=>Jl _ q) (Jf _) #[_,d]
 refine i.laid (a:=s.heap.objs.size+1) (o:= .ins C s.heap.objs.size []) (t':=s.toks) (λb u q=>Jl _ q) (Nat.le_of_eq (JX _ _)) ?_
 have c:s.heap.objs.size≠s.heap.objs.size+1:=Jk (E2 _)
 refine#[by rw[qm c,qc],Jy _,c,g,λ_=>none,(Ψ.Ns1.of_empty j).at λo q=>Jl _ q,λ_=>True.intro,λy f=>absurd Z f]
theorem AI{prog:Ξ}{w:Ω}{a:Env}{e:Φ}{f:Str}{pos:Pos}{s:Θ}{Q:GP}(hb:attributeBase e f a (eval e a)=eval e a)
  (h:ε (model prog w) A (eval e a) (λo c=>ε (model prog w) A (getAttr o f true) Q E c) E s):ε (model prog w) A (eval (.Attribute e f pos) a) Q E s:=
 Attribute_any_ h (by rw[arm_eval_Attribute,hb])
end
section
variable{X:Cx}{Oa:GR}{σ:St}{H:Hp}{s:Θ}{A:Around}{E:GP}{Q:GP}{c:Γ}{b:Bool}
inductive I0 (K:ι) (H:Hp):V->Γ->Prop where
 |non:I0 K H .non (.type "NoneType")
 |bl (x:Bool):I0 K H (.bl x) (.type "bool")
 |int (i:Int):I0 K H (.int i) (.type "int")
 |str (x:Str):I0 K H (.str x) (.type "str")
 |flt (x:UInt64):I0 K H (.flt x) (.type "float")
 |lst {a:Δ} {xs:Ε} (e:H a=↑(.lst xs)):I0 K H (.ref a) (.type "list")
 |frz {a:Δ} {o:Obj} {xs:Ε} (e:H a=↑(.frz o (.lst xs))):I0 K H (.ref a) (.type "list")
 |tup {a:Δ} {xs:Ε} (e:H a=↑(.tup xs)):I0 K H (.ref a) (.type "tuple")
 |dK {a:Δ} {kvs:List (qJ×V)} (e:H a=↑(.dK kvs)):I0 K H (.ref a) (.type "dict")
 |dT {a:Δ} {kvs:List (List qJ×V)} (e:H a=↑(.dT kvs)):I0 K H (.ref a) (.type "dict")
 | ins {a C dx:Δ} {fs:List (Str×V)} (e:H a=↑(.ins C dx fs)) (cl:LV K C) (ha:PySem.W.findIn K (.ref C) "__class__"=↑(↑(.builtin "object.__class__")))
   (hn:PySem.W.specialIn K (.builtin "object.__class__") "__get__"=↑(↑(.builtin "getset_descriptor.__get__"))) (htk:PySem.W.takesIn K (.builtin "object.__class__")=↑true)
   (hm:PySem.W.mroIn K C (.type "object")=↑true):I0 K H (.ref a) (.ref C)
theorem vC{x:V}{u t:Γ}(I:GX X Oa σ H s)(d:G8 x u)(ty:I0 X.K H x t)(e:W.kitOne X.K t c=↑b)(h:∀tk,Q (.bool b) {s with toks:=tk}):
  ε (model X.prog X.w) A (call (.builtin "isinstance") [u,c]) Q E s:=by
 cases ty with
 |non=>cases(show u=Γ.none from d);exact J4 W.kitx_none I.kIn True.intro e (λz=>nomatch z) h
 |bl y=>cases(show u=Γ.bool y from d);exact J4 W.kitx_bool I.kIn True.intro e (λz=>nomatch z) h
 |int i=>obtain⟨t,q⟩:=(show∃t,u=Γ.int i t from d);cases q;exact J4 W.kitx_int I.kIn True.intro e (λz=>nomatch z) h
 |str y=>obtain⟨t,q⟩:=(show∃t,u=Γ.str y t from d);cases q;exact J4 W.kitx_str I.kIn True.intro e (λz=>nomatch z) h
 |flt y=>obtain⟨t,q⟩:=(show∃t,u=Γ.float y t from d);cases q;exact J4 W.kitx_float I.kIn True.intro e (λz=>nomatch z) h
 | @lst a xs ea=>
  cases(show u=Γ.ref a from d)
  obtain⟨_,_,n,_,h1⟩:=(show Hv X.prog X.w H s.heap a (.lst xs)from I.hok a _ ea)
  exact J4 W.kitx_list I.kIn #[_,h1,Z] e (λz=>nomatch z) h
 | @frz a ob xs ea=>
  cases(show u=Γ.ref a from d)
  obtain⟨_,_,_,n,_,h1⟩:=(show Hv X.prog X.w H s.heap a (.frz ob (.lst xs))from I.hok a _ ea)
  exact J4 W.kitx_list I.kIn #[_,h1,Z] e (λz=>nomatch z) h
 | @tup a xs ea=>
  cases(show u=Γ.ref a from d)
  obtain⟨_,_,_,p⟩:=(show Hv X.prog X.w H s.heap a (.tup xs)from I.hok a _ ea)
  obtain⟨o,h1,f,_⟩:=p;exact J4 W.kitx_tuple I.kIn #[o,h1,f] e (λz=>nomatch z) h
 | @dK a kvs ea=>
  cases(show u=Γ.ref a from d)
  obtain⟨_,_,vs,_,p⟩:=(show Hv X.prog X.w H s.heap a (.dK kvs)from I.hok a _ ea)
  obtain⟨o,es,ep,h1,f,_⟩:=p;exact J4 W.kitx_dict I.kIn #[o,h1,f.1] e (λz=>nomatch z) h
 | @dT a kvs ea=>
  cases(show u=Γ.ref a from d)
  obtain⟨_,_,xs,_,o,es,ep,h1,f,_⟩:=(show Hv X.prog X.w H s.heap a (.dT kvs)from I.hok a _ ea)
  exact J4 W.kitx_dict I.kIn #[o,h1,f.1] e (λz=>nomatch z) h
 | @ins a C dx fs ea cl ha hn htk hm=>
  cases(show u=Γ.ref a from d)
  obtain⟨mA,O,_⟩:=eV I.hok ea;obtain⟨od,J,_⟩:=O.look;exact J4 (W.kitx_own (cl.get _) cl.hd ha hn htk hm) I.kIn J e (λz=>nomatch z) h
end
structure HB(k:Nat)(A:Around):Prop where
 hd:A.handled=none
 dp:A.depth+3*k+5<recursionLimit
 un:A.units+16*k+200<cLine
theorem HB.mono{j k:Nat}{A:Around}(r:HB k A)(h:j<=k):HB j A:=#[r.hd,by have:=r.dp;lia,by have:=r.un;lia]
theorem HB.mo{j k:Nat}{A:Around}(r:HB k A)(h:j<=k:=by first|decide|omega):HB j A:=r.mono h
theorem HB.deeper{k:Nat}{A:Around}(r:HB (k+1) A)(a:Env):HB k (A.deeper a):=
 #[r.hd,by have:=r.dp;show A.depth+1+3*k+5<_;lia,by have:=r.un;show A.units+3+16*k+200<_;lia]
theorem p7{A:Around}{C:Δ}{us:Ζ}{a:List (Str×Γ)}:(A.under (.builtin "type.__call__" #[.ref C::us,a])).depth=A.depth+1:=by
 first|rfl|simp [Around.under,Code.weight,Code.isCreation,Code.isGuard,Code.isCaller,Code.frames,Code.isFrame,guardIds]
theorem p8{A:Around}{C:Δ}{us:Ζ}{a:List (Str×Γ)}:(A.under (.builtin "type.__call__" #[.ref C::us,a])).units=A.units+1:=by
 first|rfl|simp [Around.under,Code.cUnits,Code.frames,Code.isFrame]
theorem HB.make{k:Nat}{A:Around}(r:HB (k+1) A)(C:Δ)(us:Ζ)(a:List (Str×Γ)):HB k (A.under (.builtin "type.__call__" #[.ref C::us,a])):=
 #[r.hd,by have:=r.dp;rw[p7];lia,by have:=r.un;rw[p8];lia]
theorem HB.depth{k:Nat}{A:Around}(r:HB k A):A.depth<recursionLimit:=by have:=r.dp;lia
def w9:TA:=λ_ H Q=>Q [] H
def pY(ta:TE)(a:TA):TA:=λσ H Q=>ta σ H λx H1=>a σ H1 λxs c=>Q (x::xs) c
section
variable{X:Cx}{e:Φ}{es:Ι}{te:TE}{t:TA}{pos:Pos}
theorem BL:PA X [] w9:=λ_ _ _ _ H Q I h=>Calls.spliced_nil #[[],H,I,.nil,h]
theorem By(ha:PE X e te)(hr:PA X es t)(hs:θ (e::es) X.env=(false,eval e X.env)::θ es X.env:=by rfl):PA X (e::es) (pY te t):=by
 intro pos Oa s σ H Q I h;rw[hs]
 show ε _ _ (spliced ((false,eval e X.env)::backTo pos (θ es X.env))) _ _ s
 refine Calls.spliced_cons (qz (ha Oa s σ H _ I h) λu j l=>?_)
 obtain⟨x,H1,g,c,f⟩:=l;exact qz (hr pos Oa j σ H1 _ g f) λn o ⟨xs,m,i,d,a⟩=>#[x::xs,m,i,.cons c d,a]
def Dt(t:TA):TE:=λσ H Q=>t σ H λxs H1=>xs.length<=ζ/\∀p,H1 p=none->Q (.ref p) (GW H1 p (.tup xs))
def B5(t:TA):TE:=λσ H Q=>t σ H λxs H1=>xs.length<=ζ/\∀p,H1 p=none->Q (.ref p) (GW H1 p (.lst xs))
theorem CV{x1}(h:PA X es t):PE X (.Tuple es x1 pos) (Dt t):=by
 intro Oa s σ H Q I d;refine wpAny_Tuple_spliced (qz (h pos Oa s σ H _ I d) λg a ⟨xs,H1,c,r,z,q⟩=>#[by rw[<- r.length];exact z,?_])
 have f:H1 a.heap.objs.size=none:=c.hok.fresh (Jf _)
 refine#[.ref a.heap.objs.size,GW H1 a.heap.objs.size (.tup xs),c.laid (t':=a.toks) (λb u e=>Jl _ e) (Jf _) ?_,Z,q _ f]
 exact#[z,g,r,#[_,Jq _ Z,Z,_,Z]]
theorem Dh(h:PA X es t):PE X (.List es pos) (B5 t):=by
 intro Oa s σ H Q I d;refine wpAny_List_spliced (qz (h pos Oa s σ H _ I d) λg a ⟨xs,H1,c,r,z,q⟩=>#[by rw[<- r.length];exact z,?_])
 have f:H1 a.heap.objs.size=none:=c.hok.fresh (Jf _)
 refine#[.ref a.heap.objs.size,GW H1 a.heap.objs.size (.lst xs),c.laid (t':=a.toks) (λb u e=>Jl _ e) (Jf _) ?_,Z,q _ f]
 exact#[z,g,0,r,Jq _ Z]
end
abbrev Sp:=Ε->Hp->VK->XK->Prop
abbrev c5:=Υ->Hp->Θ->XK->Γ->Θ->Prop
structure LD(P:Ξ)(w:Ω)(K:ι)(mg:GQ)(base:Ψ)(A:Around)(outer:Υ)(s:Θ)(H:Hp):Prop where
 frames:A.frames=↑outer
 mod:N0 K mg base
 bs:∀b o,base.get? b=↑o->s.heap.get? b=↑o/\H b=none
 bsz:base.objs.size<=s.heap.objs.size
 funs:s.heap.FunFrames base outer
 frf:∀b∈ad outer,H b=none
 hok:IZ P w H s.heap
 bare:AllBare s.gens
def CE(a:Υ)(P:Ξ)(w:Ω)(H:Hp)(s:Θ)(Q:VK)(u:Γ)(s':Θ):Prop:=
 ∃v H',s'.os=s.os/\AllBare s'.gens/\Un (ad a) [] H H' s.heap s'.heap/\IZ P w H' s'.heap/\G8 v u/\Q v H'
def CR(CX:c5)(a:Υ)(P:Ξ)(w:Ω)(H:Hp)(s:Θ)(Q:VK)(E:XK)(r:Result)(s':Θ):Prop:=
 match r with
 | .ok (.ret u)=>CE a P w H s Q u s'
 | .ok _=>False
 | .error e=>CX a H s E e s'
structure IP(P:Ξ)(w:Ω)(K:ι)(mg:GQ)(base:Ψ)(CX:c5)(k:Nat)(f:Δ)(fd:FuncData)(ps:Α)(sp:Sp):Prop where
 len:∀vs H Q E,sp vs H Q E->vs.length=ps.length
 run:∀(A:Around) (outer:Υ) (s:Θ) (H:Hp) (args:Args) (us:Ζ) (vs:Ε) (Q:VK) (E:XK),HB k A->LD P w K mg base A outer s H->BindsTo s fd args (ps.zip us)->GZ vs us->sp vs H Q E->
  codeAny (model P w) A (.call (.ref f) args) (CR CX outer P w H s Q E) s
theorem IP.imp{P:Ξ}{w:Ω}{K:ι}{mg:GQ}{base:Ψ}{CX:c5}{k:Nat}{f:Δ}{fd:FuncData}{ps:Α}{sp c:Sp}(F:IP P w K mg base CX k f fd ps sp)
  (h:∀vs H Q E,c vs H Q E->sp vs H Q E):IP P w K mg base CX k f fd ps c:=
 #[λvs H Q E q=>F.len vs H Q E (h _ _ _ _ q),λA a s H d e vs Q E m i g l j=>F.run A a s H d e vs Q E m i g l (h _ _ _ _ j)]
theorem LD.make{P:Ξ}{w:Ω}{K:ι}{mg:GQ}{base:Ψ}{A:Around}{a:Υ}{s:Θ}{H:Hp}(e:LD P w K mg base A a s H)(C:Δ)(us:Ζ)(c:List (Str×Γ)):
  LD P w K mg base (A.under (.builtin "type.__call__" #[.ref C::us,c])) a s H:=#[by first|exact e.frames|(simpa [Around.under,Code.envs,Code.isFrame,pushEnvs]using e.frames),e.mod,e.bs,e.bsz,e.funs,e.frf,e.hok,e.bare]
section
variable{X:Cx}{Oa:GR}{σ:St}{H:Hp}{s s':Θ}
theorem GX.env0(I:GX X Oa σ H s):LD X.prog X.w X.K X.mg X.base X.A X.stack s H:=
 #[I.ok.frames,I.ok.mod,I.bs,JG I.ok.bsz I.sz,I.stack,I.stkFree,I.hok,I.bare]
theorem GX.after{Q:VK}{u:Γ}(I:GX X Oa σ H s)(h:CE X.stack X.prog X.w H s Q u s'):EP X Oa σ Q u s':=by
 obtain⟨v,H',f,a,un,c,r,q⟩:=h;obtain⟨i,g,d,t,e⟩:=s'
 obtain rfl:e=s.os:=f
 exact#[v,H',I.call (h':=i) (g':=g) (d':=d) (t':=t) (ch:=[]) un c a (λb z=>absurd z (by simp)),r,q]
end
def sU(sp:Sp)(dvs:Ε)(E:XK)(t:TA):TE:=λσ H Q=>t σ H λvs H1=>sp (vs++dvs) H1 Q E
def Ab(C:Δ)(sp:Sp)(dvs:Ε)(E:XK)(t:TA):TE:=λσ H Q=>t σ H λvs H1=>∀x dx,H1 x=none->H1 dx=none->dx≠x->
 sp (.ref x::(vs++dvs)) (GW (GW H1 dx (.own x)) x (.ins C dx [])) (λv a=>v= .non/\Q (.ref x) a) E
def Iw(K:ι)(fd:FuncData)(ps:Α)(ds:Ζ):Prop:=
 ∀(s:Θ) (a:Ζ),K.In s.heap->(a++ds).length=ps.length->BindsTo s fd #[a,[]] (ps.zip (a++ds))
theorem Iw.all{K:ι}{fd:FuncData}{ps:Α}(h:∀a:Ζ,a.length=ps.length->bindArgs fd #[a,[]]=pure (ps.zip a)):Iw K fd ps []:=λs a _ c=>by
 rw[E3]at c⊢;exact .of_eq (h a c)
def eF(CX:c5)(X:Cx)(E:XK):Prop:=∀(Oa:GR) (σ:St) (H:Hp) (s:Θ) (e:Γ) (s':Θ),GX X Oa σ H s->CX X.stack H s E e s'->X.xe e s'
section
variable{X:Cx}{CX:c5}{k:Nat}{f C:Δ}{fd:FuncData}{ps:Α}{sp:Sp}{dvs:Ε}{ds:Ζ}{E:XK}{x:Str}{p pos:Pos}{e:Φ}{es:Ι}{t:TA}
theorem mB{Oa:GR}{σ:St}{H:Hp}{s:Θ}{Q:VK}{us:Ζ}{vs:Ε}(F:IP X.prog X.w X.K X.mg X.base CX k f fd ps sp)(hr:HB k X.A)(hb:Iw X.K fd ps ds)(hd:GZ dvs ds)(hx:eF CX X E)
  (I:GX X Oa σ H s)(r:GZ vs us)(h:sp (vs++dvs) H Q E):ε (model X.prog X.w) X.A (call (.ref f) us) (EP X Oa σ Q) X.xe s:=by
 have c:GZ (vs++dvs) (us++ds):=r.append hd
 have d:(us++ds).length=ps.length:=by rw[<- c.length];exact F.len _ _ _ _ h
 refine wpAny_call (FE (F.run X.A X.stack s H #[us,[]] (us++ds) (vs++dvs) Q E hr I.env0 (hb s us I.kIn d) c h) λr s' a=>?_)
 cases r with
 |error e=>exact hx Oa σ H s e s' I a
 |ok fl=>
  cases fl with
  |ret u=>exact I.after a
  |next=>exact False.elim a
  |brk=>exact False.elim a
  |cont=>exact False.elim a
theorem Bt(F:IP X.prog X.w X.K X.mg X.base CX k f fd ps sp)(hr:HB k X.A)(hg:Gl X x)(hm:X.mg x=↑(.ref f))(hk:W.keepIn X.K (.ref f)=true)(hb:Iw X.K fd ps ds)(hd:GZ dvs ds)(hx:eF CX X E)
  (ha:PA X (e::es) t)(hdb:(x==("__debug__":Str))=false:=by decide)(he:θ (e::es) X.env=(false,eval e X.env)::θ es X.env:=by rfl)(hpl:(backTo pos (θ es X.env)).any (·.1)=false:=by rfl):
  PE X (.Call (.Name x p) (e::es) [] pos) (sU sp dvs E t):=by
 intro Oa s σ H Q I h;refine Gf (ir I hg hm ?_ hdb)
 refine W.callWith_K (h₀:=X.base) I.ok.mod.kin hk (qz (ha pos Oa s σ H _ I h) λc d ⟨vs,H1,a,r,q⟩=>#[a.kIn,?_]) he hpl
 exact mB F hr hb hd hx a r q
structure Mk(K:ι)(C f:Δ):Prop where
 makes:PySem.W.makesIn K C=true
 init:PySem.W.findIn K (.ref C) "__init__"=↑(↑(.ref f))
 fn:PySem.W.isFn K (.ref f)=true
 kp:PySem.W.keepIn K (.ref C)=true
theorem wY{Oa:GR}{σ:St}{H:Hp}{s:Θ}{Q:VK}{us:Ζ}{vs:Ε}(M:Mk X.K C f)(F:IP X.prog X.w X.K X.mg X.base CX k f fd ps sp)(hr:HB (k+1) X.A)(hb:Iw X.K fd ps ds)(hd:GZ dvs ds)
  (hx:eF CX X E)(I:GX X Oa σ H s)(r:GZ vs us)
  (h:∀x dx,H x=none->H dx=none->dx≠x->sp (.ref x::(vs++dvs)) (GW (GW H dx (.own x)) x (.ins C dx [])) (λv o=>v= .non/\Q (.ref x) o) E):
  ε (model X.prog X.w) X.A (call (.ref C) us) (EP X Oa σ Q) X.xe s:=by
 have d:=h (s.heap.objs.size+1) s.heap.objs.size (I.hok.fresh (Fk _)) (I.hok.fresh (Jf _)) (Jk (E2 _));have c:=GX.made (C:=C) I
 have g:GZ (V.ref (s.heap.objs.size+1)::(vs++dvs)) (Γ.ref (s.heap.objs.size+1)::(us++ds)):= .cons Z (r.append hd)
 have l:(Γ.ref (s.heap.objs.size+1)::us++ds).length=ps.length:=by
  have e:=g.length;rw[F.len _ _ _ _ d]at e;exact e.symm
 refine wpAny_call (xh (f:=f) I.kIn M.makes M.init (JW.mp M.fn) (FE (F.run _ X.stack _ _ #[Γ.ref (s.heap.objs.size+1)::us,[]] (Γ.ref (s.heap.objs.size+1)::(us++ds)) _ _ E (hr.make C us [])
  (c.env0.make C us []) (hb _ (Γ.ref (s.heap.objs.size+1)::us) c.kIn l) g d) λr s' a=>?_))
 cases r with
 |error e=>exact hx Oa σ _ _ e s' c a
 |ok fl=>
  cases fl with
  |ret u=>
   obtain⟨v,H',i,j,n,m⟩:=c.after a;subst n
   exact#[j,#[V.ref (s.heap.objs.size+1),H',i,Z,m]]
  |next=>exact False.elim a
  |brk=>exact False.elim a
  |cont=>exact False.elim a
theorem Au(M:Mk X.K C f)(F:IP X.prog X.w X.K X.mg X.base CX k f fd ps sp)(hr:HB (k+1) X.A)(hg:Gl X x)(hm:X.mg x=↑(.ref C))(hb:Iw X.K fd ps ds)(hd:GZ dvs ds)(hx:eF CX X E)
  (ha:PA X (e::es) t)(hdb:(x==("__debug__":Str))=false:=by decide)(he:θ (e::es) X.env=(false,eval e X.env)::θ es X.env:=by rfl)(hpl:(backTo pos (θ es X.env)).any (·.1)=false:=by rfl):
  PE X (.Call (.Name x p) (e::es) [] pos) (Ab C sp dvs E t):=by
 intro Oa s σ H Q I h;refine Gf (ir I hg hm ?_ hdb)
 refine W.callWith_K (h₀:=X.base) I.ok.mod.kin M.kp (qz (ha pos Oa s σ H _ I h) λc d ⟨vs,H1,a,r,q⟩=>#[a.kIn,?_]) he hpl
 exact wY M F hr hb hd hx a r q
end
structure GU(N P:Α)(sc:Scope):Prop where
 kind:sc.kind= .function
 co:sc.isCoroutine=false
 gen:sc.isGenerator=false
 nd:N.Nodup
 pre:N.take P.length=P
 par:∀x∈P,sc.names.lookup x=some .local\/sc.names.lookup x=some .cell
 nofree:∀y∈sc.names,y.2≠ .free
theorem iV{a:Str->Option NameKind}{x:Str}:∀{binds:List (Str×Γ)} {m:GQ},(∀v,(x,v)∉binds)->bindL a binds m x=m x
 | [],_,_=>rfl
 |(n,v)::r,m,h=>by
  unfold bindL;rw[iV λw c=>h w (JM _ c)]
  split
  ·have:x≠n:=by rintro rfl;exact h v JB
   simp [this]
  ·rfl
theorem jB{a:Str->Option NameKind}{x:Str}:∀{binds:List (Str×Γ)} {m:GQ},(∀v,(x,v)∉binds)->bindC a binds m x=m x
 | [],_,_=>rfl
 |(n,v)::r,m,h=>by
  unfold bindC;rw[jB λw c=>h w (JM _ c)]
  split
  ·rfl
  ·have:x≠n:=by rintro rfl;exact h v JB
   simp [this]
theorem iZ{a:Str->Option NameKind}{x:Str}{v:Γ}:∀{P:Α} {vs:Ζ} {i:Nat} {m:GQ},P.Nodup->P[i]? =↑x->vs[i]? =↑v->a x=some .local->
  bindL a (P.zip vs) m x=↑v
 | [],_,_,_,_,h,_,_=>by simp at h
 |_::_,[],_,_,_,_,h,_=>by simp at h
 |p::P,w::vs,0,m,nd,h1,h2,hk=>by
  simp at h1 h2;subst h1;subst h2
  show bindL a ((p,w)::P.zip vs) m p=_
  unfold bindL;rw[iV λv c=>(Fg.mp nd).1 (List.of_mem_zip c).1,Jc hk]
  simp
 |p::P,w::vs,i+1,m,nd,h1,h2,hk=>by
  show bindL a ((p,w)::P.zip vs) m x=_
  unfold bindL;exact iZ (i:=i) (Fg.mp nd).2 (by simpa using h1) (by simpa using h2) hk
theorem jo{a:Str->Option NameKind}{x:Str}{v:Γ}:∀{P:Α} {vs:Ζ} {i:Nat} {m:GQ},P.Nodup->P[i]? =↑x->vs[i]? =↑v->a x≠some .local->
  bindC a (P.zip vs) m x=↑v
 | [],_,_,_,_,h,_,_=>by simp at h
 |_::_,[],_,_,_,_,h,_=>by simp at h
 |p::P,w::vs,0,m,nd,h1,h2,hk=>by
  simp at h1 h2;subst h1;subst h2
  show bindC a ((p,w)::P.zip vs) m p=_
  unfold bindC;rw[jB λv c=>(Fg.mp nd).1 (List.of_mem_zip c).1,Jb hk]
  simp
 |p::P,w::vs,i+1,m,nd,h1,h2,hk=>by
  show bindC a ((p,w)::P.zip vs) m x=_
  unfold bindC;exact jo (i:=i) (Fg.mp nd).2 (by simpa using h1) (by simpa using h2) hk
def Q0(N:Α)(vs:Ε):St:=vs.map some++List.replicate (N.length-vs.length) none
def a9(CX:c5)(P:Ξ)(w:Ω)(K:ι)(mg:GQ)(base:Ψ)(N:Α)(Ob:Str)(c:Scope)(f:Δ)(cd:Γ)(A:Around)(a:Υ)(s:Θ)(H:Hp)(E:XK):Cx where
 prog:=P
 w:=w
 K:=K
 mg:=mg
 base:=base
 A:=A.deeper (envOfC Ob c s.heap.objs.size f cd)
 N:=N
 s₀:=s
 H₀:=H
 env:=envOfC Ob c s.heap.objs.size f cd
 a:=a
 stack:=envOfC Ob c s.heap.objs.size f cd::a
 ex:=[]
 calm:=true
 fn:=λ_=>true
 pn:=[]
 xe:=λe s'=>ε (model P w) (A.deeper (envOfC Ob c s.heap.objs.size f cd)) (leaving (envOfC Ob c s.heap.objs.size f cd) e) (λ_ d=>CX a H s E e d) (λg d=>CX a H s E g d) s'
theorem lj{a:Scope}{n:Nat}{x:Str}(h:a.names.lookup x=some .cell):∃c,(cellsFrom n a.names []).lookup x=↑c:=by
 have q:=W.cellsFrom_some a.names n [] (.inl h);exact Gg.mp q
theorem tM{CX:c5}{P:Ξ}{w:Ω}{K:ι}{mg:GQ}{base:Ψ}{N ps:Α}{Ob:Str}{d:Scope}{f:Δ}{cd:Γ}{A:Around}{g:Υ}{s D:Θ}{H:Hp}{E:XK}{us:Ζ}{vs:Ε}
  (S:GU N ps d)(hd:A.handled=none)(l:LD P w K mg base A g s H)(hl:vs.length=ps.length)(r:GZ vs us)
  (x:InCallC s s.heap.objs.size (bindL (envOfC Ob d s.heap.objs.size f cd).kindOf (ps.zip us) λ_=>none) (cellsFrom (s.heap.objs.size+1) d.names []) (bindC (envOfC Ob d s.heap.objs.size f cd).kindOf (ps.zip us) λ_=>none) D):
  GX (a9 CX P w K mg base N Ob d f cd A g s H E) [] (Q0 N vs) H D:=by
 have I:ps.length<=N.length:=by have:=JH List.length S.pre;rw[EX]at this;lia
 obtain⟨h1,tk,rfl,hk⟩:=x.done;have o:∀b:Δ,b∉(a9 CX P w K mg base N Ob d f cd A g s H E).ex:=λb z=>absurd (show b∈([]:Η)from z) (by simp)
 refine#[#[l.mod,S.kind,Z,Z,Jf _,λy z c h1 j=>?_,λy m=>?_,λy c _ h=>?_,λ_=>hd,Around.frames_deeper l.frames,.inr #[Z,Z],λb z=>absurd z (o b),l.bs,l.bsz,λb _ _=>o b,λb z=>absurd z (o b),l.funs,l.frf],
  rfl,l.bare,Un.kept hk,#[_,x.toInCall.ns,λi y v h1 j J=>?_],λy c h=>#[_,x.cell y c h],l.hok.fresh (Jf _),λy c h=>?_,λp B=>absurd (show p∈([]:GR)from B) (by simp),l.hok.kept hk,?_]
 ·exact name_of_addr x.apart (FA h1) (FA j)
 ·have m:d.names.lookup y=some .cell\/d.names.lookup y=some .free:=m
  rcases m with m|m
  ·exact lj m
  ·exact absurd Z (S.nofree _ (FA m))
 ·exact F5 (x.above y c (FA h))
 ·have hi:i<vs.length:=by
   unfold Q0 at j
   by_cases hi:i<vs.length
   ·exact hi
   ·rw[JY (by simpa using hi)]at j
    rw[List.getElem?_replicate]at j;split at j<;>cases j
  have G:vs[i]? =↑v:=by
   unfold Q0 at j;rw[JT (by simpa using hi),Jn]at j
   cases e:vs[i]? with
   |none=>rw[e]at j;cases j
   |some a=>rw[e]at j;cases j;rfl
  obtain⟨u,C,F⟩:=r.get G;have B:ps[i]? =↑y:=by
   rw[<- S.pre,List.getElem?_take_of_lt (by lia)];exact h1
  have t:ps.Nodup:=by rw[<- S.pre];exact S.nd.sublist (List.take_sublist _ _)
  refine#[u,F,?_]
  rcases S.par y (JP B)with k|k
  ·exact .inl #[k,iZ t B C k]
  ·obtain⟨c,e⟩:=lj (n:=s.heap.objs.size+1) k
   refine .inr #[.inl k,c,e,?_]
   have q:=x.cell y c e;rw[jo t B C (by show d.names.lookup y≠_;rw[k];decide)]at q
   exact q
 ·exact l.hok.fresh (F5 (x.above y c (FA h)))
 ·unfold Q0
  show _=N.length
  rw[Jv,Je,Gw];lia
theorem DY{CX:c5}{P:Ξ}{w:Ω}{K:ι}{mg:GQ}{base:Ψ}{k:Nat}{f:Δ}{name Ob:Str}{d:Arguments}{g:List δ}{a:Scope}{O kV doc pm cdv ct oc:Γ}{an od:ν}
  {osl:Array Ο}{N ps:Α}{sp:Sp}(lk:K.lookup f=some #[oc,od,.func (W.fnOf name Ob d g a O kV doc pm an cdv ct),osl])(C:W.codeIn K cdv Ob=true)(S:GU N ps a)
  (len:∀vs H Q E,sp vs H Q E->vs.length=ps.length)
  (j:∀(A:Around) (c:Υ) (s:Θ) (H:Hp) (vs:Ε) (Q:VK) (E:XK),HB k (A.deeper (envOfC Ob a s.heap.objs.size f cdv))->sp vs H Q E->
   ∃t,LB (a9 CX P w K mg base N Ob a f cdv A c s H E) g t/\t {nx:=λ_ H'=>Q .non H',rt:=Q} (Q0 N vs) H):
  IP P w K mg base CX (k+1) f (W.fnOf name Ob d g a O kV doc pm an cdv ct) ps sp:=by
 refine#[len,λA c s H M X vs Q E F p hb r m=>?_]
 have hl:=len _ _ _ _ m;have G:K.In s.heap:=p.mod.kin.keeps λb o e=>(p.bs b o e).1
 have D:s.heap.NoLimit:=p.mod.nolimit.keeps λb o e=>(p.bs b o e).1
 have i:∀y∈ps.zip X,a.names.lookup y.1=some .local\/(a.names.lookup y.1=some .cell/\((cellsFrom (s.heap.objs.size+1) a.names []).lookup y.1).isSome=true):=λ⟨n,v⟩ hy=>by
  rcases S.par n (List.of_mem_zip hy).1 with q|q
  ·exact .inl q
  ·exact .inr #[q,W.cellsFrom_some _ _ _ (.inl q)]
 refine codeAny_call_function F.depth (G _ _ lk) Z S.co S.gen Z (W.codeRec_of G C) (hb _ _ _ _ ?_)
 refine wpAny_newFunctionEnv_cells S.kind i λY U L x=>?_
 subst U;refine#[D.keeps x.toInCall.keep,codeAny_func ?_]
 obtain⟨t,T,R⟩:=j A c s H vs Q E (F.deeper _) m
 have I:GX (a9 CX P w K mg base N Ob a f cdv A c s H E) [] (Q0 N vs) H L:=tM S F.hd p hl r x
 refine Jw (T [] L (Q0 N vs) H _ I R) (λfl s' l=>?_) λe s' l=>l
 have z:∀{h:St} {H':Hp} {v:V} {u:Γ},GX (a9 CX P w K mg base N Ob a f cdv A c s H E) [] h H' s'->G8 v u->Q v H'->CE c P w H s Q u s':=
  λ{h H' v u} J B q=>#[v,H',J.os,J.bare,J.base,J.hok,B,q]
 cases fl with
 |ret u=>
  obtain⟨v,h,H',J,B,q⟩:=l;exact z J B q
 |next=>
  obtain⟨h,H',J,q⟩:=l;exact z (v:=V.non) (u:=Γ.none) J Z q
 |brk=>
  obtain⟨_,_,_,q⟩:=l;exact False.elim q
 |cont=>
  obtain⟨_,_,_,q⟩:=l;exact False.elim q
section
variable{X:Cx}{x:Str}{p pos:Pos}{e:Φ}{es:Ι}{t:TA}{id T:String}{r:Ε->Hp->VK->Prop}
def yW(r:Ε->Hp->VK->Prop)(t:TA):TE:=λσ H Q=>t σ H λvs H1=>r vs H1 Q
theorem wS(hc:zi X (.builtin id) r)(hg:Gl X x)(hm:X.mg x=none)(hv:bootBuiltins x=↑(.builtin id))(ha:PA X (e::es) t)(hn:x≠"__name__":=by decide)(hdb:(x==("__debug__":Str))=false:=by decide)
  (he:θ (e::es) X.env=(false,eval e X.env)::θ es X.env:=by rfl)(hpl:(backTo pos (θ es X.env)).any (·.1)=false:=by rfl):PE X (.Call (.Name x p) (e::es) [] pos) (yW r t):=by
 intro Oa s σ H Q I h;refine Gf (ZT I hg hm hv ?_ hn hdb)
 exact PyProof.Rows.callWith_builtin1 (qz (ha pos Oa s σ H _ I h) λa f ⟨vs,H1,d,g,c⟩=>hc Oa f σ H1 vs a Q d g c) he hpl
theorem vy(hc:zi X (.type T) r)(hg:Gl X x)(hm:X.mg x=none)(hv:bootBuiltins x=↑(.type T))(ha:PA X (e::es) t)(hn:x≠"__name__":=by decide)(hdb:(x==("__debug__":Str))=false:=by decide)
  (he:θ (e::es) X.env=(false,eval e X.env)::θ es X.env:=by rfl)(hpl:(backTo pos (θ es X.env)).any (·.1)=false:=by rfl):PE X (.Call (.Name x p) (e::es) [] pos) (yW r t):=by
 intro Oa s σ H Q I h;refine Gf (ZT I hg hm hv ?_ hn hdb)
 exact FQ (qz (ha pos Oa s σ H _ I h) λa f ⟨vs,H1,d,g,c⟩=>hc Oa f σ H1 vs a Q d g c) he hpl
end
end L2
namespace HT
open PySem PyProof.Rows
section
variable{prog:Ξ}{w:Ω}{A:Around}{E:GP}{s:Θ}
theorem cat_tup{t b:Δ}{vs a:Ζ}{Q:GP}(v:IsTup s.heap t vs.toArray)(hb:IsTup s.heap b a.toArray)(hv:vs≠[])
  (h1:a=[]->Q (.ref t) s)(h2:a≠[]->Q (.ref s.heap.objs.size) {s with heap:=s.heap.push {cls:= .type "tuple",data:= .seq (vs++a).toArray}})
  (hsz:vs.length+a.length<=ζ):ε (model prog w) A (binaryOp .Add (.ref t) (.ref b)) Q E s:=by
 obtain⟨⟨cls,q,data,o⟩,j,u,n,m⟩:=id v;obtain⟨⟨p,d,l,h⟩,c,g,r,f⟩:=id hb;simp only at u m g f
 subst u m g f;have e:vs.toArray++a.toArray=(vs++a).toArray:=by simp
 by_cases i:a=[]
 ·exact concat_meets #[_,j,Z] #[_,c,Z] noFill_tuple_add seq_tuple_add Gx Gy (Gz _ _)
   (tuple_addW1 t b vs.toArray a.toArray n r q d o h (by simpa using hv) (by simp [i])) #[j,c,h1 i]
 ·refine concat_meets #[_,j,Z] #[_,c,Z] noFill_tuple_add seq_tuple_add Gx Gy (Gz _ _)
   (tuple_addW2 t b vs.toArray a.toArray n r q d o h (by simpa using hv) (by simpa using i) (by rw[Jr,Jr];exact hsz)) #[j,c,?_]
  rw[e];exact h2 i
def sIx(n d:Nat):Λ->Nat
 |none=>d
 |some v=>if v<0 then(v+(n:Int)).toNat else min v.toNat n
theorem CM(n d:Nat)(hd:d<=n)(o:Λ):sIx n d o<=n:=by
 cases o with
 |none=>exact hd
 |some v=>
  show(if v<0 then(v+(n:Int)).toNat else min v.toNat n)<=n
  by_cases a:v<0
  ·rw[Jc a];lia
  ·rw[Jb a];exact Nat.min_le_right _ _
theorem oq(v:Int)(n d:Nat):(if v<0 then max (v+(n:Int)) 0 else min v (n:Int))=((sIx n d ↑v:Nat):Int):=by
 show(if v<0 then max (v+(n:Int)) 0 else min v (n:Int))=(((if v<0 then(v+(n:Int)).toNat else min v.toNat n):Nat):Int)
 by_cases a:v<0
 ·simp only[Jc a];lia
 ·simp only[Jb a];lia
theorem sv(lo hi:Λ)(n:Nat):γ.Slice.sliceAdjust lo hi 1 (n:Int)=(((sIx n 0 lo:Nat):Int),((sIx n n hi:Nat):Int)):=by
 have h1:¬((1:Int)<0):=by lia
 unfold γ.Slice.sliceAdjust;simp only[h1,JD];refine Prod.ext ?_ ?_
 ·cases lo with
  |none=>rfl
  |some v=>exact oq v n 0
 ·cases hi with
  |none=>rfl
  |some v=>exact oq v n n
theorem sM(i j:Nat):γ.Slice.slicePlaces (i:Int) (j:Int) 1=j-i:=by
 unfold γ.Slice.slicePlaces;have h1:(1:Int)>0:=by lia
 simp only[h1,Fc,Int.ediv_one];split<;>lia
theorem gE{v:Γ}{o:Λ}{Q:Λ->Θ->Prop}(p:IsPart v o)(h:Q o s):ε (model prog w) A (γ.Slice.slicePartIndex v) Q E s:=by
 cases p with
 |none=>exact slicePart_none h
 |int i t=>exact slicePart_int h
theorem sliceApplied_gen{f:Δ}{d e:Γ}{lo hi:Λ}{n:Nat}{Q:Int×Int×Nat->Θ->Prop}(hs:s.heap.IsSliceOf f d e .none)(pl:IsPart d lo)(g:IsPart e hi)
  (h:Q (((sIx n 0 lo:Nat):Int),1,sIx n n hi-sIx n 0 lo) s):ε (model prog w) A (γ.Slice.sliceApplied (.ref f) (pure (n:Int))) Q E s:=by
 obtain⟨j,a,i,c⟩:=id hs;unfold γ.Slice.sliceApplied γ.Slice.sliceFields;refine Ja (Ja (E4 a c (x:=d) Z (Ja (E4 a c (x:=e) Z (Ja (E4 a c (x:= .none) Z (Jd ?_)))))))
 refine Ja (slicePart_none ?_)
 show ε _ _ (if((1:Int)==0)=true then _ else _) _ _ s
 rw[Jb ⋯]
 refine Ja (gE pl (Ja (gE g (Ja (Jd ?_)))))
 show ε _ _ (match γ.Slice.sliceAdjust lo hi 1 (n:Int)with|(lo,hi)=>pure (lo,(1:Int),γ.Slice.slicePlaces lo hi 1)) _ _ s
 rw[sv lo hi n]
 show ε _ _ (pure (((sIx n 0 lo:Nat):Int),(1:Int),γ.Slice.slicePlaces ((sIx n 0 lo:Nat):Int) ((sIx n n hi:Nat):Int) 1)) _ _ s
 rw[sM];exact Jd h
theorem yh(xs:Array Γ)(i k:Nat):((List.range k).filterMap λ(m:Nat)=>xs[((i:Int)+(m:Int)*1).toNat]?).toArray=((xs.toList.drop i).take k).toArray:=by
 have e:(λ(m:Nat)=>xs[((i:Int)+(m:Int)*1).toNat]?)=λm=>xs[i+m]? :=by
  funext m
  have:((i:Int)+(m:Int)*1).toNat=i+m:=by lia
  rw[this]
 rw[e]
 have:=pick_run xs i k
 rw[List.filterMap_map]at this;have a:((λx=>xs[x]?)∘λx=>i+x)=λm=>xs[i+m]? :=Z
 rw[a]at this;rw[this]
theorem getItem_tuple_cut{t g:Δ}{items:Array Γ}{j l:Γ}{lo hi:Λ}{Q:GP}(c:IsTup s.heap t items)(hs:s.heap.IsSliceOf g j l .none)(pl:IsPart j lo)(o:IsPart l hi)
  (hw:¬(sIx items.size 0 lo=0/\sIx items.size items.size hi=items.size))
  (h:Q (.ref s.heap.objs.size) {s with heap:=s.heap.push {cls:= .type "tuple",data:= .seq ((items.toList.drop (sIx items.size 0 lo)).take (sIx items.size items.size hi-sIx items.size 0 lo)).toArray}})
  (hsz:items.size<=ζ):ε (model prog w) A (getItem (.ref t) (.ref g)) Q E s:=by
 have a:sizeOk (.seq ((items.toList.drop (sIx items.size 0 lo)).take (sIx items.size items.size hi-sIx items.size 0 lo)).toArray):=by
  show((items.toList.drop (sIx items.size 0 lo)).take (sIx items.size items.size hi-sIx items.size 0 lo)).toArray.size<=ζ
  rw[Jr,EX,FF,Jp];lia
 have v:sIx items.size items.size hi<=items.size:=CM _ _ (Jf _) hi
 obtain⟨n,e,i,p⟩:=id hs;have d:s.TypeIs (.ref g) "slice":=#[n,e,i]
 unfold getItem
 try with_reducible refine JI ?_
 first|refine Ja (Jd ?_)|skip
 refine Ja (wpAny_sequenceKey c.typeIs ⋯ ?_)
 refine Ja (wpAny_callSpecial?_slot (name:=Str.ofString "__getitem__") c.typeIs Gh
  (J5 Gh c.typeIs entry_tuple_getitem ?_ (args_tuple_getitem _ _)))
 show ε _ _ (γ.Tuple.tupleItemsOf (.ref t) >>= _) _ _ s
 refine Ja (tupleItemsOf_ c ?_)
 refine Ja (FR d ?_)
 rw[Jc ⋯]
 refine Ja (sliceApplied_gen hs pl o ?_)
 have f:¬((((sIx items.size 0 lo:Nat):Int)==0&&(1:Int)==1&&(sIx items.size items.size hi-sIx items.size 0 lo)==items.size)=true):=by
  intro q;rw[JC,JC]at q;have u:((sIx items.size 0 lo:Nat):Int)=0:=eq_of_beq q.1.1
  have r:sIx items.size items.size hi-sIx items.size 0 lo=items.size:=eq_of_beq q.2
  exact hw #[by lia,by lia]
 show ε _ _ (if(((sIx items.size 0 lo:Nat):Int)==0&&(1:Int)==1&&(sIx items.size items.size hi-sIx items.size 0 lo)==items.size)=true then _ else _) _ _ s
 rw[Jb f,yh]
 first
  |exact Ja (m:=γ.Tuple.tupleExact _) (J3 (Jd ⟨_,rfl,Jd h⟩) a)
  |exact Ja (m:=γ.Tuple.tupleExact _) (J3 (Ja (Jd (Jd ⟨_,rfl,Jd h⟩))) a)
  |exact Ja (Ja (m:=γ.Tuple.tupleExact _) (J3 (Jd (Jd ⟨_,rfl,Jd h⟩)) a))
  |exact Ja (Ja (m:=γ.Tuple.tupleExact _) (J3 (Jd ⟨_,rfl,Jd h⟩) a))
end
end HT
namespace L2
open PySem PySem.Spec PyProof.Rows
abbrev TO:=St->Hp->(Λ->Hp->Prop)->Prop
def PO(X:Cx)(e:ξ)(t:TO):Prop:=
 ∀(Oa:GR) (s:Θ) (σ:St) (H:Hp) (Q:Λ->Hp->Prop),GX X Oa σ H s->t σ H Q->
  ε (model X.prog X.w) X.A (evalPart e X.env) (λu s'=>∃o H',GX X Oa σ H' s'/\IsPart u o/\Q o H') X.xe s
def pL:TO:=λ_ H Q=>Q none H
def y7(t:TE):TO:=λσ H Q=>t σ H λx H1=>∃i,x= .int i/\Q ↑i H1
theorem pZ{ns:Β}:∀{us:Ζ},GZ (ns.map V.int) us->IntsAre us ns:=by
 induction ns with
 |nil=>intro us r;rw[FS]at r;cases r;exact .nil
 |cons n ns ih=>
  intro us r;rw[JS]at r;cases r with
  |cons r1 r2=>
   obtain⟨t,e⟩:=r1;subst e;exact .cons n t (ih r2)
section
variable{X:Cx}{e:Φ}{te:TE}{lo hi:ξ}{tl th:TO}{pos p2:Pos}
theorem Aw:PO X none pL:=by
 intro Oa s σ H Q I h;rw[evalPart_none];exact Jd #[none,H,I,.none,h]
theorem Bx(h:PE X e te):PO X ↑e (y7 te):=by
 intro Oa s σ H Q I a;rw[evalPart_some];refine qz (h Oa s σ H _ I a) λu j f=>?_
 obtain⟨x,H1,d,g,c⟩:=f;obtain⟨i,rfl,q⟩:=c;obtain⟨t,rfl⟩:=g
 exact#[↑i,H1,d,.int i t,q]
def vA(X:Cx)(r:V->Λ->Λ->Hp->VK->Prop):Prop:=
 ∀(Oa:GR) (s:Θ) (σ:St) (H:Hp) (x:V) (v a c:Γ) (lo hi:Λ) (d:Δ) (Q:VK),GX X Oa σ H s->G8 x v->s.heap.IsSliceOf d a c .none->IsPart a lo->IsPart c hi->r x lo hi H Q->
  ∃T id,typeLookup (.type T) "__getitem__"=pure ↑(.builtin id)/\s.TypeIs v T/\ε (model X.prog X.w) X.A (getItem v (.ref d)) (EP X Oa σ Q) X.xe s
def Ej(r:V->Λ->Λ->Hp->VK->Prop)(te:TE)(tl th:TO):TE:=λσ H Q=>te σ H λx H1=>tl σ H1 λl a=>th σ a λu c=>r x l u c Q
theorem wm{r:V->Λ->Λ->Hp->VK->Prop}(hr:vA X r)(he:PE X e te)(hl:PO X lo tl)(hu:PO X hi th):PE X (.Subscript e (.Slice lo hi none p2) pos) (Ej r te tl th):=by
 intro Oa s σ H Q I h;refine Subscript_ (qz (he Oa s σ H _ I h) λv n f=>?_)
 obtain⟨x,H1,E,t,D⟩:=f;refine wpAny_Slice (qz (hl Oa n σ H1 _ E D) λc m ⟨l,y,p,pl,w⟩=>qz (hu Oa m σ y _ p w) λd a f=>?_)
 obtain⟨u,g,z,i,o⟩:=f;rw[evalPart_none];refine Jd ?_
 have B:GX X Oa σ g {a with heap:=a.heap.push {cls:= .type "slice",data:= .fields (List.toArray [c,d,.none])}}:=z.kept (t':=a.toks) λb F q=>Jl _ q
 obtain⟨T,id,A,j,C⟩:=hr Oa {a with heap:=a.heap.push {cls:= .type "slice",data:= .fields (List.toArray [c,d,.none])}} σ g x v c d l u a.heap.objs.size Q B t (Ψ.IsSliceOf.new ..) pl i o
 show ε (model X.prog X.w) X.A (subscriptTail e (.Slice lo hi none p2) v (.ref a.heap.objs.size)) (EP X Oa σ Q) X.xe {a with heap:=a.heap.push {cls:= .type "slice",data:= .fields (List.toArray [c,d,.none])}}
 exact tail_any (ops:=[.ref a.heap.objs.size,v]) j A C (by with_unfolding_all rfl)
def Qb(xs:Ε)(lo hi:Λ):Ε:=(xs.drop (HT.sIx xs.length 0 lo)).take (HT.sIx xs.length xs.length hi-HT.sIx xs.length 0 lo)
theorem fI(xs:Ε)(lo hi:Λ):(Qb xs lo hi).length<=xs.length:=by
 unfold Qb;rw[EX,FF];lia
inductive NH (K:ι) (x:V) (lo:Λ) (hi:Λ) (H:Hp) (Q:VK):Prop
 |mk (a:_) (xs:_) (h1:x= .ref a) (h2:G9 K H a xs) (h3:¬(HT.sIx xs.length 0 lo=0/\HT.sIx xs.length xs.length hi=xs.length)) (h4:∀p,H p=none->Q (.ref p) (GW H p (.tup (Qb xs lo hi))))
def Ex(K:ι):V->Λ->Λ->Hp->VK->Prop:=λx lo hi H Q=>NH K x lo hi H Q
theorem Cj:vA X (Ex X.K):=by
 intro Oa s σ H x v t u lo hi p Q I j m pl g h;obtain⟨a,xs,rfl,i,l,q⟩:=h;cases j;obtain⟨d,r,f,e⟩:=I.tuple i;have c:d.toArray.size=xs.length:=by rw[Jr];exact r.length.symm
 refine#["tuple",_,PyProof.Rows.slot_tuple_getitem.lookup,f.typeIs,?_]
 refine HT.getItem_tuple_cut f m pl g (by rw[c];exact l) ?_ (by rw[c];exact e)
 rw[c];refine#[.ref s.heap.objs.size,_,I.laid (t':=s.toks) (o:= .tup (Qb xs lo hi)) (λb n q=>Jl _ q) (Jf _) ?_,Z,q _ (I.hok.fresh (Jf _))]
 exact#[JG (fI xs lo hi) e,_,(r.drop (HT.sIx xs.length 0 lo)).take (HT.sIx xs.length xs.length hi-HT.sIx xs.length 0 lo),IsTup.new _ _]
inductive Np (K:ι) (x:V) (y:V) (H:Hp) (Q:VK):Prop
 |mk (a:_) (b:_) (xs:_) (ys:_) (h1:x= .ref a) (h2:y= .ref b) (h3:G9 K H a xs) (h4:G9 K H b ys) (h5:xs≠[]) (h6:xs.length+ys.length<=ζ) (h7:(ys=[]->Q (.ref a) H)) (h8:(ys≠[]->∀p,H p=none->Q (.ref p) (GW H p (.tup (xs++ys)))))
def DQ(K:ι):R2:=λx y H Q=>Np K x y H Q
theorem GZ.nil_iff{xs:Ε}{us:Ζ}(r:GZ xs us):us=[]↔xs=[]:=by
 cases r with
 |nil=>simp
 |cons _ _=>simp
theorem Bu:zt X (binaryOp .Add) (DQ X.K):=by
 intro Oa s σ H x y v u Q I m j h;obtain⟨a,b,xs,ys,rfl,rfl,r,n,l,e,p,g⟩:=h;cases m;cases j;obtain⟨i,d,t,_⟩:=I.tuple r;obtain⟨f,c,p2,_⟩:=I.tuple n;refine HT.cat_tup t p2 (λz=>l (d.nil_iff.mp z)) (λz=>#[.ref a,H,I,Z,p (c.nil_iff.mp z)]) (λz=>?_) (by rw[<- d.length,<- c.length];exact e)
 refine#[.ref s.heap.objs.size,_,I.laid (t':=s.toks) (o:= .tup (xs++ys)) (λb A q=>Jl _ q) (Jf _) ?_,Z,g (λw=>z (c.nil_iff.mpr w)) _ (I.hok.fresh (Jf _))]
 exact#[by rw[Jv];exact e,_,d.append c,IsTup.new _ _]
end
def Z1(n:Nat)(i:Int):β:=if 0<=i then(if i<n then ↑i.toNat else none)else if -(n:Int)<=i then some (i+n).toNat else none
def zY{a:Type}(xs:List a)(i:Int):Option a:=(Z1 xs.length i).bind λj=>xs[j]?
theorem iJ{n:Nat}{i:Int}{j:Nat}(h:Z1 n i=↑j):seqIndex? i n=↑j/\j<n/\ -(n:Int)<=i/\i<n:=by
 unfold Z1 at h
 by_cases a:0<=i
 ·rw[Jc a]at h
  by_cases h1:i<n
  ·rw[Jc h1]at h
   have e:i.toNat=j:=JA h
   exact#[by rw[seqIndex_of a h1,e],by lia,by lia,h1]
  ·rw[Jb h1]at h;cases h
 ·rw[Jb a]at h
  by_cases h1: -(n:Int)<=i
  ·rw[Jc h1]at h
   have e:(i+n).toNat=j:=JA h
   exact#[by rw[seqIndex_neg (by lia) h1,e],by lia,h1,by lia]
  ·rw[Jb h1]at h;cases h
theorem oA{a:Type}{xs:List a}{i:Int}{v:a}(h:zY xs i=↑v):∃j,seqIndex? i xs.length=↑j/\xs[j]? =↑v/\j<xs.length/\ -(xs.length:Int)<=i/\i<xs.length:=by
 unfold zY at h;cases e:Z1 xs.length i with
 |none=>rw[e]at h;cases h
 |some j=>
  rw[e]at h;obtain⟨h1,f,c,d⟩:=iJ e
  exact#[j,h1,h,f,c,d]
theorem Qp{a:Type}{xs:List a}{j:Nat}{v:a}(h:xs[j]? =↑v):zY xs (j:Int)=↑v:=by
 have c:j<xs.length:=(Js.mp h).1
 have e:Z1 xs.length (j:Int)=↑j:=by
  unfold Z1;rw[Jc (by lia),Jc (by lia)];simp
 unfold zY;rw[e];exact h
def oE(b:Φ):Prop:=∀o i,subscripted b false o i=operate [o,i] (getItem o i)
def MZ(X:Cx)(r:R2):Prop:=
 ∀(value a:Φ) (Oa:GR) (s:Θ) (σ:St) (H:Hp) (x y:V) (v u:Γ) (Q:VK),GX X Oa σ H s->G8 x v->G8 y u->r x y H Q->
  subscripted a false v u=operate [v,u] (getItem v u)->ε (model X.prog X.w) X.A (subscriptTail value a v u) (EP X Oa σ Q) X.xe s
def gr(X:Cx)(id:String)(r:V->Ε->Hp->VK->Prop):Prop:=
 ∀(Oa:GR) (s:Θ) (σ:St) (H:Hp) (x:V) (xs:Ε) (v:Γ) (a:Ζ) (Q:VK),GX X Oa σ H s->G8 x v->GZ xs a->r x xs H Q->
  ε (model X.prog X.w) X.A (call (.builtin id) (v::a)) (EP X Oa σ Q) X.xe s
section
variable{X:Cx}{a b:Φ}{ta tb:TE}{pos:Pos}
theorem MZ.or{r e:R2}(h:MZ X r)(h':MZ X e):MZ X (λx y H Q=>r x y H Q\/e x y H Q):=by
 intro value a Oa s σ H x y v u Q I d c q f;rcases q with q|q
 ·exact h value a Oa s σ H x y v u Q I d c q f
 ·exact h' value a Oa s σ H x y v u Q I d c q f
theorem DT{r:R2}(hr:MZ X r)(ha:PE X a ta)(hb:PE X b tb)(hs:oE b):PE X (.Subscript a b pos) (jf r ta tb):=by
 intro Oa s σ H Q I h;exact Subscript_ (vO ha hb I h λv u e x y g f d c q=>hr a b Oa e σ g x y v u Q f d c q (hs _ _))
inductive NJ (K:ι) (x:V) (y:V) (H:Hp) (Q:VK):Prop
 |mk (p:_) (xs:_) (i:_) (v:_) (h1:x= .ref p) (h2:y= .int i) (h3:G0 K H p xs) (h4:zY xs i=↑v) (h5:Q v H)
def CD(K:ι):R2:=λx y H Q=>NJ K x y H Q
inductive NK (K:ι) (x:V) (y:V) (H:Hp) (Q:VK):Prop
 |mk (p:_) (xs:_) (i:_) (v:_) (h1:x= .ref p) (h2:y= .int i) (h3:G9 K H p xs) (h4:zY xs i=↑v) (h5:Q v H)
def wv(K:ι):R2:=λx y H Q=>NK K x y H Q
theorem qG:MZ X (CD X.K):=by
 intro value f Oa s σ H x y v u Q I B o h l;obtain⟨p,xs,i,z,rfl,rfl,n,A,q⟩:=h;cases B;obtain⟨t,rfl⟩:=o;obtain⟨d,r,pl,J⟩:=I.list n;obtain⟨j,h1,D,K,C,E⟩:=oA A;obtain⟨w,m,c⟩:=r.get D;have F:=r.length;have G:=ZS;have a:EP X Oa σ Q w s:=#[z,H,I,c,q]
 by_cases g:0<=i
 ·have e:i.toNat=j:=by
   rw[seqIndex_of g E]at h1;exact JA h1
  exact item_listR pl.isList g (by lia) (by rw[e];simpa using m) a l
 ·have e:(i+(d.toArray.size:Int)).toNat=j:=by
   rw[seqIndex_neg (by lia) C]at h1
   rw[Jr,<- F];exact JA h1
  exact subscriptTail_builtinR (x:=w) pl.isList.typeIs slot_list_getitem.lookup
   (wpAny_getItem_list_neg (Q:=λr s'=>r=w/\EP X Oa σ Q r s') pl.isList (by lia) (by rw[Jr]<;>lia) (by lia) (by rw[e];simpa using m) #[Z,a]) l
theorem qO:MZ X (wv X.K):=by
 intro value d Oa s σ H x y v u Q I l g h A;obtain⟨p,xs,i,z,rfl,rfl,e,n,q⟩:=h;cases l;obtain⟨t,rfl⟩:=g;obtain⟨f,r,pl,D⟩:=I.tuple e;obtain⟨j,h1,B,E,G,C⟩:=oA n;obtain⟨w,m,a⟩:=r.get B;have o:=r.length;have F:=ZS;have c:EP X Oa σ Q w s:=#[z,H,I,a,q]
 exact subscriptTail_builtinR (x:=w) pl.typeIs slot_tuple_getitem.lookup
  (getItem_tuple (j:=j) (Q:=λr s'=>r=w/\EP X Oa σ Q r s') pl (by lia) (by lia) (by rw[Jr,<- o];exact h1) (by simpa using m) #[Z,c]) A
theorem sQ(its:Ζ)(n j:Nat)(u:Γ):Obj.mapSeq (·.setIfInBounds j u) {cls:= .type "list",data:= .seq its.toArray n}={cls:= .type "list",data:= .seq (its.set j u).toArray n}:=by
 simp [Obj.mapSeq]
theorem GX.lst{Oa:GR}{σ:St}{H:Hp}{s:Θ}{p:Δ}{xs:Ε}(I:GX X Oa σ H s)(h:H p=↑(.lst xs)):
  ∃(its:Ζ) (n:Nat),GZ xs its/\s.heap.get? p=some {cls:= .type "list",data:= .seq its.toArray n}/\xs.length<=ζ:=by
 obtain⟨z,its,n,r,e⟩:=I.hok p _ h
 exact#[its,n,r,e,z]
theorem GX.lstUpd{Oa:GR}{σ:St}{H:Hp}{s:Θ}{p:Δ}{xs ys:Ε}{its its':Ζ}{n a:Nat}{f:Obj->Obj}(I:GX X Oa σ H s)(h:H p=↑(.lst xs))
  (ho:s.heap.get? p=some {cls:= .type "list",data:= .seq its.toArray n})(hf:f {cls:= .type "list",data:= .seq its.toArray n}={cls:= .type "list",data:= .seq its'.toArray a})(r:GZ ys its')(hz:ys.length<=ζ)(t:Nat):
  GX X Oa σ (GW H p (.lst ys)) {s with heap:=s.heap.update p f,toks:=t}:=by
 have e:(s.heap.update p f).get? p=some {cls:= .type "list",data:= .seq its'.toArray a}:=by
  rw[FB f ho (by rw[hf]<;>rfl),hf]
 refine I.write (x:=p) (e:=p) (by rw[h];trivial) (.inl Z) (λb u c q=>(FT _ _ (Ne.symm c)).trans q) #[_,e] ?_
 exact#[hz,its',a,r,e]
inductive Nq (o:V) (i:V) (v:V) (H:Hp) (Q:Hp->Prop):Prop
 |mk (p:_) (xs:_) (k:_) (j:_) (h1:o= .ref p) (h2:i= .int k) (h3:H p=↑(.lst xs)) (h4:Z1 xs.length k=↑j) (h5:Q (GW H p (.lst (xs.set j v))))
def D7:V->V->V->Hp->(Hp->Prop)->Prop:=λo i v H Q=>Nq o i v H Q
theorem Zd:me X D7:=by
 intro Oa s σ H o i v D E u Q I A z w h;obtain⟨p,xs,k,j,rfl,rfl,e,x,q⟩:=h;cases A;obtain⟨t,rfl⟩:=z;obtain⟨a,n,r,d,y⟩:=I.lst e;obtain⟨h1,C,m,l⟩:=iJ x;have c:=r.length;have B:=ZS;have g:GX X Oa σ (GW H p (.lst (xs.set j v))) {s with heap:=s.heap.update p (Obj.mapSeq (·.setIfInBounds j u))}:=
  I.lstUpd e d (sQ a n j u) (r.set w j) (by rw[Fl];exact y) s.toks
 by_cases f:0<=k
 ·have hk:k.toNat=j:=by
   rw[seqIndex_of f l]at h1;exact JA h1
  exact W.ki_setAt d f (by lia) (by rw[Jr,<- c];exact l) (by rw[hk];exact#[_,g,q])
 ·have hk:(k+(a.toArray.size:Int)).toNat=j:=by
   rw[seqIndex_neg (by lia) m]at h1
   rw[Jr,<- c];exact JA h1
  exact W.ki_setBack d (by lia) (by rw[Jr,<- c];exact m) (by lia) (by rw[hk];exact#[_,g,q])
theorem lM(lo hi:Λ)(n:Nat):(sliceBounds lo hi none n).1=((HT.sIx n 0 lo:Nat):Int)/\(sliceBounds lo hi none n).2.1=((HT.sIx n n hi:Nat):Int)/\(sliceBounds lo hi none n).2.2=1:=by
 refine#[?_,?_,Z]
 ·cases lo with
  |none=>simp [sliceBounds,HT.sIx]
  |some i=>
   simp only[sliceBounds,HT.sIx,Option.getD_none,show(1:Int)>0 by decide,Fc]
   by_cases h:i<0
   ·simp only[h,Fc]<;>lia
   ·simp only[h,JD]<;>lia
 ·cases hi with
  |none=>simp [sliceBounds,HT.sIx]
  |some i=>
   simp only[sliceBounds,HT.sIx,Option.getD_none,show(1:Int)>0 by decide,Fc]
   by_cases h:i<0
   ·simp only[h,Fc]<;>lia
   ·simp only[h,JD]<;>lia
theorem jT(its:Ζ)(lo hi:Λ):slicePick its.toArray lo hi none=((its.drop (HT.sIx its.length 0 lo)).take (HT.sIx its.length its.length hi-HT.sIx its.length 0 lo)).toArray:=by
 obtain⟨h1,a,c⟩:=lM lo hi its.toArray.size;unfold slicePick;rw[h1,a,c];simp only[sliceRange_one,pick_run,Jr]<;>rfl
inductive NL (K:ι) (x:V) (lo:Λ) (hi:Λ) (H:Hp) (Q:VK):Prop
 |mk (a:_) (xs:_) (h1:x= .ref a) (h2:G0 K H a xs) (h3:∀p,H p=none->Q (.ref p) (GW H p (.lst (Qb xs lo hi))))
def EB(K:ι):V->Λ->Λ->Hp->VK->Prop:=λx lo hi H Q=>NL K x lo hi H Q
theorem bv:vA X (EB X.K):=by
 intro Oa s σ H x v p t lo hi n Q I j l pl f h;obtain⟨a,xs,rfl,i,q⟩:=h;cases j;obtain⟨e,r,d,g⟩:=I.list i;have c:=r.length;refine#["list",_,slot_list_getitem.lookup,d.isList.typeIs,?_]
 refine wpAny_getItem_list_slice d.isList l pl f .none (by simp) ?_ (by rw[Jr]<;>lia)
 rw[jT,<- c];refine#[.ref s.heap.objs.size,_,I.laid (t':=s.toks) (o:= .lst (Qb xs lo hi)) (λb m q=>Jl _ q) (Jf _) ?_,Z,q _ (I.hok.fresh (Jf _))]
 exact#[JG (fI xs lo hi) g,_,0,(r.drop (HT.sIx xs.length 0 lo)).take (HT.sIx xs.length xs.length hi-HT.sIx xs.length 0 lo),Jq _ Z]
def yn:V->Bool
 | .non=>true
 | .bl _=>true
 | .int _=>true
 | .str _=>true
 |_=>false
def Eb:V->V->Bool
 | .non,.non=>true
 | .bl a,.bl b=>a==b
 | .bl a,.int b=>(if a then 1 else 0)==b
 | .int a,.bl b=>a==(if b then 1 else 0)
 | .int a,.int b=>a==b
 | .str a,.str b=>a==b
 |_,_=>false
theorem Ds{A:Around}{s:Θ}{y x:V}{u v:Γ}(e:G8 y u)(c:G8 x v)(g:yn y=true)(f:yn x=true):SeqAt.EqAt A s u v (Eb y x):=by
 cases y with
 |non=>
  cases e;cases x with
  |non=>cases c;exact SeqAt.EqAt.same _
  |bl b=>cases c;exact SeqAt.EqAt.none_bool b
  |int b=>obtain⟨t,rfl⟩:=c;exact SeqAt.EqAt.none_int b t
  |str b=>obtain⟨t,rfl⟩:=c;exact SeqAt.EqAt.none_str b t
  |_=>exact absurd (show false=true from f) JJ
 |bl a=>
  cases e;cases x with
  |non=>cases c;exact SeqAt.EqAt.bool_none a
  |bl b=>cases c;exact SeqAt.EqAt.bool_bool a b
  |int b=>obtain⟨t,rfl⟩:=c;exact SeqAt.EqAt.bool_int a b t
  |str b=>obtain⟨t,rfl⟩:=c;exact SeqAt.EqAt.bool_str a b t
  |_=>exact absurd (show false=true from f) JJ
 |int a=>
  obtain⟨d,rfl⟩:=e;cases x with
  |non=>cases c;exact SeqAt.EqAt.int_none a d
  |bl b=>cases c;exact SeqAt.EqAt.int_bool a d b
  |int b=>obtain⟨t,rfl⟩:=c;exact SeqAt.EqAt.int_int a d b t
  |str b=>obtain⟨t,rfl⟩:=c;exact SeqAt.EqAt.int_str a d b t
  |_=>exact absurd (show false=true from f) JJ
 |str a=>
  obtain⟨d,rfl⟩:=e;cases x with
  |non=>cases c;exact SeqAt.EqAt.str_none a d
  |bl b=>cases c;exact SeqAt.EqAt.str_bool a d b
  |int b=>obtain⟨t,rfl⟩:=c;exact SeqAt.EqAt.str_int a d b t
  |str b=>obtain⟨t,rfl⟩:=c;exact SeqAt.EqAt.str_str a d b t
  |_=>exact absurd (show false=true from f) JJ
 |_=>exact absurd (show false=true from g) JJ
theorem qY:zi X (.builtin "len") (λxs H Q=>∃p ys,xs=[.ref p]/\(G0 X.K H p ys\/G9 X.K H p ys)/\Q (.int ys.length) H):=by
 intro Oa s σ H xs i Q I r h;obtain⟨p,ys,rfl,c,q⟩:=h;obtain⟨u,rfl,g⟩:=zM r;cases g;have j:=ZS;rcases c with c|c
 ·obtain⟨d,e,pl,f⟩:=I.list c
  have a:=e.length;exact Calls.call_len_list pl.isList (by simp only[Jr]<;>lia) #[.int ys.length,H,I.tok _,#[s.toks+1,by rw[Jr,a]],q]
 ·obtain⟨d,e,pl,f⟩:=I.tuple c
  have a:=e.length;exact len_tuple pl (by simp only[Jr]<;>lia) #[.int ys.length,H,I.tok _,#[s.toks+1,by rw[Jr,a]],q]
theorem li:zi X (.builtin "len") (λxs H Q=>∃z,xs=[.str z]/\z.length<=ζ/\Q (.int z.length) H):=by
 intro Oa s σ H xs c Q I r h;obtain⟨z,rfl,a,q⟩:=h;obtain⟨u,rfl,t,rfl⟩:=zM r;have d:=ZS;exact len_str (by lia) #[.int z.length,H,I.tok _,#[_,Z],q]
theorem Zq:zi X (.type "list") (λxs H Q=>∃p ys,xs=[.ref p]/\(G0 X.K H p ys\/G9 X.K H p ys)/\∀l,H l=none->Q (.ref l) (GW H l (.lst ys))):=by
 intro Oa s σ H xs x Q I r h;obtain⟨p,ys,rfl,d,q⟩:=h;obtain⟨u,rfl,w⟩:=zM r;cases w;have g:∀(a:Ζ),GZ ys a->ys.length<=ζ->∀(h':Ψ) (c':Nat),(∀b o',s.heap.get? b=↑o'->h'.get? b=↑o')->
   h'.get? s.heap.objs.size=some {cls:= .type "list",dict:=none,data:= .seq a.toArray c',slots:= (List.toArray [])}->EP X Oa σ Q (.ref s.heap.objs.size) {s with heap:=h'}:=λa c f h' c' i e=>
  #[.ref s.heap.objs.size,_,I.laid (t':=s.toks) i (Jf _) (show Hv X.prog X.w _ h' _ (.lst ys)from#[f,a,c',c,e]),Z,q _ (I.hok.fresh (Jf _))]
 rcases d with d|d
 ·obtain⟨a,c,pl,f⟩:=I.list d
  have j:=c.length;obtain⟨o,m,v,n,t⟩:=pl.isList;exact call_list_seq p (.inl Z) m v t (λh' c' i e=>g a c f h' c' i e) (by simp only[Jr]<;>lia)
 ·obtain⟨a,c,pl,f⟩:=I.tuple d
  have j:=c.length;obtain⟨o,m,v,n,t⟩:=pl;exact call_list_seq p (.inr Z) m v t (λh' c' i e=>g a c f h' c' i e) (by simp only[Jr]<;>lia)
theorem qX:zi X (.type "tuple") (λxs H Q=>∃p ys,xs=[.ref p]/\((G0 X.K H p ys/\∀l,H l=none->Q (.ref l) (GW H l (.tup ys)))\/(G9 X.K H p ys/\Q (.ref p) H))):=by
 intro Oa s σ H xs t Q I r h;obtain⟨p,ys,rfl,h⟩:=h;obtain⟨u,rfl,j⟩:=zM r;cases j;rcases h with⟨c,q⟩|⟨c,q⟩
 ·obtain⟨a,d,pl,f⟩:=I.list c
  have g:=d.length;refine call_tuple_list pl.isList (λh' m=>?_) (by simp only[Jr]<;>lia)
  have i:GX X Oa σ H {s with heap:=h'}:=I.kept (t':=s.toks) m
  have n:GX X Oa σ (GW H h'.objs.size (.tup ys)) {s with heap:=h'.push {cls:= .type "tuple",data:= .seq a.toArray}}:=
   i.laid (t':=s.toks) (λb o e=>Jl _ e) (Jf _) (show Hv X.prog X.w _ _ _ (.tup ys)from#[f,a,d,IsTup.new _ _])
  exact#[.ref h'.objs.size,_,n,Z,q _ (i.hok.fresh (Jf _))]
 ·obtain⟨a,d,pl,f⟩:=I.tuple c
  exact call_tuple_same pl #[.ref p,H,I,Z,q]
def Dp(K:ι)(T:String)(x:V)(H:Hp):Prop:=match x with
 | .str _=>T="str"
 | .int _=>T="int"
 | .ref p=>(T="list"/\∃xs,G0 K H p xs)\/(T="tuple"/\∃o,K.lookup p=↑o/\o.cls= .type "tuple"/\o.dict=none)\/
   (T="dict"/\((∃kvs,H p=↑(.dK kvs))\/∃kvs,H p=↑(.dT kvs)))\/(T="set"/\∃S n,H p=↑(.set S n))
 |_=>False
theorem uz{Oa:GR}{σ:St}{H:Hp}{s:Θ}{T:String}{x:V}{v:Γ}(I:GX X Oa σ H s)(r:G8 x v)(ty:Dp X.K T x H):
  s.TypeIs v T/\∀a,v= .ref a->∃g,s.heap.get? a=↑g/\g.dict=none:=by
 cases x with
 |str z=>
  obtain⟨t,rfl⟩:=r
  cases(show T="str" from ty)
  exact#[typeIs_str s z t,λ_ e=>nomatch e]
 |int i=>
  obtain⟨t,rfl⟩:=r
  cases(show T="int" from ty)
  exact#[typeIs_int s i t,λ_ e=>nomatch e]
 |ref p=>
  cases r;rcases ty with⟨rfl,xs,h⟩|⟨rfl,o,hk,l,f⟩|⟨rfl,hk⟩|⟨rfl,S,n,hk⟩
  ·obtain⟨j,_,pl,_⟩:=I.list h
   refine#[pl.isList.typeIs,λa e=>?_]
   cases e;obtain⟨o,n,e,c,f,_⟩:=pl
   exact#[o,e,f]
  ·refine#[#[o,I.kIn p o hk,l],λa e=>?_]
   cases e
   exact#[o,I.kIn _ o hk,f]
  ·have z:∃o,s.heap.get? p=↑o/\o.ExactDict:=by
    rcases hk with⟨kvs,hk⟩|⟨kvs,hk⟩
    ·obtain⟨_,_,_,_,o,_,_,e,ex,_⟩:=I.hok p _ hk
     exact#[o,e,ex]
    ·obtain⟨_,_,_,_,o,_,_,e,ex,_⟩:=I.hok p _ hk
     exact#[o,e,ex]
   obtain⟨o,e,ex⟩:=z;refine#[#[o,e,ex.1],λa d=>?_]
   cases d
   exact#[o,e,ex.2.1]
  ·obtain⟨o,_,_,_,e,ex,_⟩:=I.hok p _ hk
   refine#[#[o,e,ex.1],λa d=>?_]
   cases d
   exact#[o,e,ex.2.1]
 |_=>exact False.elim ty
def C9(K:ι)(T:String)(r:V->Ε->Hp->VK->Prop)(to:TE):TE:=λσ H Q=>to σ H λx H1=>Dp K T x H1/\r x [] H1 Q
def Dn(K:ι)(T:String)(r:V->Ε->Hp->VK->Prop)(to:TE)(t:TA):TE:=λσ H Q=>to σ H λx H1=>Dp K T x H1/\t σ H1 λxs a=>r x xs a Q
variable{o e:Φ}{es:Ι}{to:TE}{t:TA}{name:Str}{apos cpos:Pos}{T id:String}{r:V->Ε->Hp->VK->Prop}
theorem Ci(i:PlainAttrs T)(d:Slot T name id)(e:typeOf (.builtin id)=pure (.type "method_descriptor"))(hm:gr X id r)(ho:PE X o to)
  (c:attributeBase o name X.env (eval o X.env)=eval o X.env:=by rfl)(a:(apos.endLine==cpos.line)=true:=by rfl):PE X (.Call (.Attribute o name apos) [] [] cpos) (C9 X.K T r to):=by
 intro Oa s σ H Q I h;refine wpAny_Call_method0_late c a (qz (ho Oa s σ H _ I h) λv m n=>?_)
 obtain⟨x,H1,f,g,ty,j⟩:=n;obtain⟨h1,l⟩:=uz f g ty
 exact#[T,id,i,d,e,h1,l,GA Z (PySem.evalArgs_none (hm Oa m σ H1 x [] v [] Q f g .nil j))]
theorem DD(n:PlainAttrs T)(f:Slot T name id)(i:typeOf (.builtin id)=pure (.type "method_descriptor"))(hm:gr X id r)(ho:PE X o to)(ha:PA X (e::es) t)
  (d:attributeBase o name X.env (eval o X.env)=eval o X.env:=by rfl)
  (g:((backTo cpos (θ (e::es) X.env)).all (λx=> ! x.1)&&(backToKw cpos (keywordEach [] X.env)).all (λx=>x.1.isSome)
   &&decide ((e::es).length+([]:ο).length+(if([]:ο).isEmpty then 0 else 1)<30))=true:=by rfl)
  (c:(apos.endLine==cpos.line)=true:=by rfl)(hs:θ (e::es) X.env=(false,eval e X.env)::θ es X.env:=by rfl)(a:(backTo cpos (θ es X.env)).any (·.1)=false:=by rfl):
  PE X (.Call (.Attribute o name apos) (e::es) [] cpos) (Dn X.K T r to t):=by
 intro Oa s σ H Q I h;refine wpAny_Call_method_late d g c Z (qz (ho Oa s σ H _ I h) λv u w=>?_)
 obtain⟨x,H1,m,l,ty,D⟩:=w;obtain⟨h1,A⟩:=uz m l ty;refine#[T,id,n,f,i,h1,A,?_]
 have j:=ha cpos Oa u σ H1 _ m D;rw[hs]at j⊢;refine GA (by show(false||(backTo cpos (θ es X.env)).any (·.1))=false;rw[a]<;>rfl) (Calls.evalArgs_plain ?_)
 exact qz j λy q ⟨vs,C,z,p,B⟩=>hm Oa q σ C x vs v y Q z l p B
end
def Dg(X:Cx)(id:String)(r:V->Ε->Hp->VK->Prop):Prop:=
 ∀(Oa:GR) (s:Θ) (σ:St) (H:Hp) (x:V) (xs:Ε) (v:Γ) (a:Ζ) (Q:VK),GX X Oa σ H s->G8 x v->GZ xs a->r x xs H Q->
  ε (model X.prog X.w) X.A (call (.builtin id) (v::a)) (EP X Oa σ Q) X.xe s
theorem GZ.one:∀{x:V} {us:Ζ},GZ [x] us->∃u,us=[u]/\G8 x u
 :=by
 intro x us h;cases h with
 |cons r q=>cases q;exact#[_,Z,r]
theorem GZ.two:∀{x y:V} {us:Ζ},GZ [x,y] us->∃u v,us=[u,v]/\G8 x u/\G8 y v
 :=by
 intro x y us h;cases h with
 |cons r q=>cases q with
  |cons q z=>cases z;exact#[_,_,Z,r,q]
theorem GZ.zero:∀{us:Ζ},GZ [] us->us=[]
 |_,.nil=>rfl
theorem GZ.eraseIdx:∀{xs:Ε} {us:Ζ} (i:Nat),GZ xs us->GZ (xs.eraseIdx i) (us.eraseIdx i)
 |_,_,_,.nil=> .nil
 |_,_,0,.cons _ t=>t
 |_,_,i+1,.cons r t=> .cons r (GZ.eraseIdx i t)
theorem GZ.reverse{xs:Ε}{us:Ζ}(h:GZ xs us):GZ xs.reverse us.reverse:=by
 induction h with
 |nil=>exact .nil
 |cons r t ih=>rw[List.reverse_cons,List.reverse_cons];exact GZ.append ih (.cons r .nil)
theorem GZ.rep{xs:Ε}{us:Ζ}(h:GZ xs us):∀k:Nat,GZ (List.replicate k xs).flatten (List.replicate k us).flatten
 |0=> .nil
 |k+1=>by
  rw[FU,FU,Gi,Gi];exact GZ.append h (GZ.rep h k)
theorem i3{a:Type}:∀(l:List a) (i:Nat),(l.eraseIdx i).length<=l.length
 | [],_=>Jf _
 |_::_,0=>Fk _
 |_::r,i+1=>Nat.succ_le_succ (i3 r i)
theorem jq(its:Ζ):∀(k:Nat) (a:Ζ),
  List.foldl (λd c=>d++c) a.toArray (List.replicate k its.toArray)=(a++(List.replicate k its).flatten).toArray
 |0,a=>by simp
 |k+1,a=>by
  have e:a.toArray++its.toArray=(a++its).toArray:=by simp
  have f:(a++its)++(List.replicate k its).flatten=a++(List.replicate (k+1) its).flatten:=by
   rw[FU,Gi,Fh]
  rw[<- f,<- jq its k (a++its),<- e,FU,List.foldl_cons]
section
variable{X:Cx}{Oa:GR}{σ:St}{H:Hp}{s:Θ}{l:Δ}{xs ys:Ε}
theorem GX.lset{its its':Ζ}{n:Nat}{f:Array Γ->Array Γ}{t':Nat}(I:GX X Oa σ H s)(d:H l=↑(.lst xs))
  (e:s.heap.get? l=some {cls:= .type "list",data:= .seq its.toArray n})(hf:f its.toArray=its'.toArray)(hv:GZ ys its')(hz:ys.length<=ζ):
  GX X Oa σ (GW H l (.lst ys)) {s with heap:=s.heap.update l (Obj.mapSeq f),toks:=t'}:=by
 have q:=PySem.IsL.update e f;rw[hf]at q;refine I.write (x:=l) (e:=l) (by rw[d];exact trivial) (.inl Z) (λg u a c=>(FT s.heap (Obj.mapSeq f) (Ne.symm a)).trans c) #[_,q] ?_
 exact#[hz,its',_,hv,q]
theorem GX.lnew{its:Ζ}{t':Nat}(I:GX X Oa σ H s)(hv:GZ ys its)(hz:ys.length<=ζ):
  GX X Oa σ (GW H s.heap.objs.size (.lst ys)) {s with heap:=s.heap.push {cls:= .type "list",data:= .seq its.toArray},toks:=t'}:=
 I.laid (λ_ _ q=>Jl _ q) (Jf _) #[hz,its,0,hv,Jq _ Z]
theorem GX.fresh(I:GX X Oa σ H s):H s.heap.objs.size=none:=I.hok.fresh (Jf _)
theorem GX.lstM(I:GX X Oa σ H s)(a:H l=↑(.lst xs)):xs.length<=ζ/\∃(its:Ζ) (n:Nat),GZ xs its/\xs.length=its.length/\s.heap.get? l=some {cls:= .type "list",data:= .seq its.toArray n}:=by
 obtain⟨z,its,n,r,e⟩:=I.hok l _ a
 exact#[z,its,n,r,r.length,e]
theorem wT{n:Nat}(h:n<=ζ):γ.List.listTooLong n=false:=by
 unfold γ.List.listTooLong;exact Jo (by lia)
end
section
variable{X:Cx}
inductive Ml (x:V) (vs:Ε) (H:Hp) (Q:VK):Prop
 |mk (l:_) (xs:_) (y:_) (h1:x= .ref l) (h2:vs=[y]) (h3:H l=↑(.lst xs)) (h4:xs.length<ζ) (h5:Q .non (GW H l (.lst (xs++[y]))))
def pj:V->Ε->Hp->VK->Prop:=λx vs H Q=>Ml x vs H Q
theorem uI:Dg X "list.append" pj:=by
 intro Oa s σ H x vs v j Q I d f h;obtain⟨l,xs,y,rfl,rfl,c,i,q⟩:=h;cases d;obtain⟨u,rfl,g⟩:=f.one;obtain⟨z,a,n,r,m,e⟩:=I.lstM c;refine FG F.slot_list_append #[_,e,Z] F.entry_list_append (F.args_list_append_2 _ _) (PySem.list_append l a.toArray n u (by rw[Jr];lia)) #[e,?_]
 refine#[.non,_,I.lset (its':=a++[u]) c e (by simp) (r.append (.cons g .nil)) ?_,Z,q]
 rw[Jv,Fd];lia
inductive M8 (x:V) (vs:Ε) (H:Hp) (Q:VK):Prop
 |mk (l:_) (xs:_) (i:_) (k:_) (y:_) (h1:x= .ref l) (h2:vs=[.int i]) (h3:H l=↑(.lst xs)) (h4: -(2 ^ 63)<=i) (h5:i<2 ^ 63) (h6:seqIndex? i xs.length=↑k) (h7:xs[k]? =↑y) (h8:Q y (GW H l (.lst (xs.eraseIdx k))))
def tT:V->Ε->Hp->VK->Prop:=λx vs H Q=>M8 x vs H Q
theorem vV:Dg X "list.pop" tT:=by
 intro Oa s σ H x vs v B Q I g j h;obtain⟨l,xs,i,k,y,rfl,rfl,d,h1,A,hk,f,q⟩:=h;cases g;obtain⟨u,rfl,p⟩:=j.one;obtain⟨t,rfl⟩:=p;obtain⟨z,a,n,r,m,e⟩:=I.lstM d;obtain⟨w,o,c⟩:=r.get f;refine FG F.slot_list_pop #[_,e,Z] F.entry_list_pop (F.args_list_pop_2 _ _)
  (MeetsSeq.list_pop_at l a.toArray n i t k w (fitsIndex_both h1 A) (by rw[Jr,<- m];exact hk) (by rw[<- Array.getElem?_toList];exact o) (by rw[Jr];lia)) #[e,?_]
 refine#[y,_,I.lset (its':=a.eraseIdx k) d e ?_ (r.eraseIdx k) ?_,c,q]
 ·show a.toArray.eraseIdxIfInBounds k=(a.eraseIdx k).toArray
  rw[List.eraseIdxIfInBounds_toArray]
 ·have:=i3 xs k
  lia
inductive LW (x:V) (vs:Ε) (H:Hp) (Q:VK):Prop
 |mk (l:_) (xs:_) (h1:x= .ref l) (h2:vs=[]) (h3:H l=↑(.lst xs)) (h4:Q .non (GW H l (.lst xs.reverse)))
def kK:V->Ε->Hp->VK->Prop:=λx vs H Q=>LW x vs H Q
theorem sN:Dg X "list.reverse" kK:=by
 intro Oa s σ H x vs v i Q I f g h;obtain⟨l,xs,rfl,rfl,d,q⟩:=h;cases f;have c:=g.zero;subst c;obtain⟨z,a,n,r,j,e⟩:=I.lstM d;refine FG F.slot_list_reverse #[_,e,Z] F.entry_list_reverse (F.args_list_reverse_1 _) (AutoSeq1.list_reverse_list_0 l a.toArray n (by rw[Jr];lia)) #[e,?_]
 refine#[.non,_,I.lset (its':=a.reverse) d e (by simp) r.reverse ?_,Z,q]
 rw[List.length_reverse];lia
inductive NM (x:V) (y:V) (H:Hp) (Q:VK):Prop
 |mk (l:_) (b:_) (xs:_) (zs:_) (h1:x= .ref l) (h2:y= .ref b) (h3:H l=↑(.lst xs)) (h4:H b=↑(.lst zs)) (h5:xs.length+zs.length<=ζ) (h6:∀p,H p=none->Q (.ref p) (GW H p (.lst (xs++zs))))
def Eo:R2:=λx y H Q=>NM x y H Q
theorem CS:zt X (binaryOp .Add) Eo:=by
 intro Oa s σ H x y v u Q I g f h;obtain⟨l,b,xs,zs,rfl,rfl,o,p,t,q⟩:=h;cases g;cases f;obtain⟨z,c,n,r,w,e⟩:=I.lstM o;obtain⟨A,a,B,m,i,j⟩:=I.lstM p;refine PySem.P.add_list e j ?_ (by rw[Jr,Jr];lia)
 have d:c.toArray++a.toArray=(c++a).toArray:=by simp
 rw[d]
 exact#[.ref _,_,I.lnew (t':=s.toks) (r.append m) (by rw[Jv];lia),Z,q _ I.fresh]
inductive NN (x:V) (y:V) (H:Hp) (Q:VK):Prop
 |mk (l:_) (k:_) (xs:_) (h1:x= .ref l) (h2:y= .int k) (h3:H l=↑(.lst xs)) (h4: -(2 ^ 63)<=k) (h5:k<2 ^ 63) (h6:xs.length*k.toNat<=ζ) (h7:∀p,H p=none->Q (.ref p) (GW H p (.lst (List.replicate k.toNat xs).flatten)))
def EG:R2:=λx y H Q=>NN x y H Q
theorem AH{a:Type}(xs:List a)(k:Nat):(List.replicate k xs).flatten.length=k*xs.length:=by
 induction k with
 |zero=>simp
 |succ k ih=>rw[FU,Gi,Jv,ih,Nat.succ_mul,Nat.add_comm]
theorem vI:zt X (binaryOp .Mult) EG:=by
 intro Oa s σ H x y v u Q I B A h;obtain⟨l,k,xs,rfl,rfl,E,h1,G,w,q⟩:=h;cases B;obtain⟨t,rfl⟩:=A;obtain⟨z,c,n,r,D,e⟩:=I.lstM E;have j:c.toArray.size*k.toNat<=ζ:=by rw[Jr,<- D];exact w
 have f:¬c.toArray.size*k.toNat>(2 ^ 63-1)/8:=by
  have:(ζ:Nat)<=(2 ^ 63-1)/8:=by decide
  lia
 have i:¬(!γ.List.listFitsIndex k)=true:=by
  rw[fitsIndex_both h1 G];exact JJ
 have d:¬γ.List.listTooLong (c.toArray.size*k.toNat)=true:=by
  rw[wT j];exact JJ
 have g:List.foldl (λo p=>o++p) (List.toArray []) (List.replicate (if c.toArray.isEmpty=true then 0 else k.toNat) c.toArray)=(List.replicate k.toNat c).flatten.toArray:=by
  have C:∀m:Nat,List.foldl (λo p=>o++p) (List.toArray []) (List.replicate m c.toArray)=(List.replicate m c).flatten.toArray:=λm=>by
   have:=jq c m []
   rw[List.nil_append]at this;exact this
  rw[C];cases c with
  |nil=>simp
  |cons a r'=>rw[Jb (by simp)]
 refine wpAny_binaryOp_repeat_ref (T:="list") (U:="int") ⋯ #[_,e,Z] (λs'=>typeIs_int s' k t) noFill_list_mul F.fills_int_mul F.slot_int_rmul repeat_list F.slot_int_index.lookup
  (FG F.slot_int_rmul (typeIs_int s k t) F.entry_int_rmul (F.args_int_rmul_2 _ _) (int___rmul___int_list k t l c.toArray n)
   #[e,Z,#[_,e,Z],FG F.slot_list_mul #[_,e,Z] F.entry_list_mul (F.args_list_mul_2 _ _) (AutoListH.list___mul___list_int_3 l c.toArray n k t i f d) #[e,?_]])
 rw[g]
 exact#[.ref _,_,I.lnew (t':=s.toks) (r.rep k.toNat) (by rw[AH,Nat.mul_comm];exact w),Z,q _ I.fresh]
end
end L2
namespace Att
open PySem PySem.W PySem.Calls PyProof.Rows
theorem gq{P:Params}{h:Ψ}:∀(ns:Β) (vs:Ζ),WellAll P h vs (ns.map WData.int)->IntsAre vs ns:=by
 intro ns
 induction ns with
 |nil=>
  intro vs w;rw[FS]at w;cases w;exact .nil
 |cons n ns ih=>
  intro vs w;rw[JS]at w;cases w with
  |cons a b=>
   cases a;exact .cons _ _ (ih _ b)
theorem vz{l:OpenLaw}{n:Nat}(hn:l.most=↑n){P:Params}{h:Ψ}{args:List WData}{e:Ζ}
  (f:l.row.toRowW.claim.pre args=true)(o:WellAll P h e args):
  ∃a vs c,e=[Γ.ref a]/\args=[WData.list (c.map WData.int)]/\h.get? a=some {cls:= .type "list",data:= .seq vs.toArray}/\IntsAre vs c/\c.length<=n:=by
 have m:WShape.hasAll [] args [.list .int]=true:=(pre_splitW f).1
 have p:l.pre.holds [] {args:=args}=true:=(pre_splitW f).2
 obtain⟨d,r,rfl,h1,t⟩:=hasAllW_cons m
 obtain rfl:=hasAllW_nil t
 obtain⟨xs,rfl,s⟩:=hasW_list h1;obtain⟨c,rfl⟩:=items_int s;have g:c.length<=n:=by
  unfold OpenLaw.pre at p;have j:(WTm.not (.lt (.lit (.int (n:Int))) (.len (.arg 0)))).holds [] {args:=[.list (c.map .int)]}=true:=by
   have j:=(holds_andW p).1;rw[hn]at j;exact j
  have i:=condW_of j (w_not (w_lt w_lit (w_len_list (w_arg Z))));rw[Je]at i;refine F7 λq=>?_
  have u:(n:Int)<((c.length:Nat):Int):=by lia
  first
   |(rw[Ji u]at i;exact absurd i ⋯)
   |(simp at i;lia)
 cases o with
 |cons w1 w2=>
  cases w2;cases w1 with
  |list ho hall=>exact#[_,_,c,Z,Z,ho,gq c _ hall,g]
theorem vj(l:OpenLaw)(args:List WData):l.row.toRowW.claim.post args (.bool true) args=true:=
 postW_of (r:=l.row.toRowW) (X:=(true==true))
  (show WShape.has [] (.bool true) .bool=true by first|rfl|decide|simp [WShape.has,WShape.arms,WShape.armsAll])
  (show(WTm.eq .res (.lit (.bool true))).value [] {args:=args,res:=↑(.bool true),after:=args}=↑(.bool (true==true))from w_eq_bool (w_res Z) w_lit) Z
theorem attach_call{l:OpenLaw}{n:Nat}{q:Ξ}{e:Α}{D:(Str->Ο)->Ψ->Prop}{C:Ω->Ψ->Prop}{d:DefRec}
  (hn:l.most=↑n)(u:d.params.defaults=[])
  (call:∀(w:Ω) (g c:Θ) (mg v:GQ) (m:Δ) (o:Obj) (pm cd doc:Γ) (a:Δ) (vs:Ζ) (ns:Β),
   Ground q e [] D w g mg v c.heap->C w c.heap->
   c.heap.get? m=↑o->o.data= .func (docDef d.name d.params d.body d.scope pm cd doc)->c.heap.CodeRec cd d.name->mg d.name=↑(.ref m)->
   c.heap.get? a=some {cls:= .type "list",data:= .seq vs.toArray}->IntsAre vs ns->ns.length<=n->c.gens= (List.toArray [])->
   codeAny (model l.prog w) callerA (.call (.ref m) #[[.ref a],[]]) (λr s'=>r= .ok (.ret (.bool true))/\OldK c.heap s'.heap/\s'.os=c.os/\AllBare s'.gens) c):
  WalkO q e D C l.row.toRowW d [] (λf vs=>PySem.call f vs):=by
 intro w g c mg v G Y m o pm cd doc M kV L F x B s P A z Q p y K t N
 obtain rfl:M= .none:=Dflts.none B u
 obtain rfl:kV= .none:=Dflts.noKw B
 obtain⟨a,vs,ns,rfl,rfl,i,h,j⟩:=vz hn p t;refine enter_call (FE (call w g c mg v m o pm cd doc a vs ns G Y L (fd_plain F) x s i h j P) λr s' E=>?_)
 obtain⟨rfl,I,O,H⟩:=E
 exact#[.inl #[.bool true,.bool true,[],Z,λ_=>rfl,.bool true,vj l _,λ_=>#[List.Pairwise.nil,λ_ J=>(nomatch J)]],I,O,H]
end Att
namespace L2
open PySem PySem.Spec PyProof.Rows
theorem dv:∀{vs:Ζ} {ns:Β},IntsAre vs ns->GZ (ns.map V.int) vs
 |_,_,.nil=> .nil
 |_,_,.cons n t h=> .cons #[t,Z] (dv h)
def vK(H:Hp):Prop:=∀b,H b=none\/∃o xs,H b=↑(.frz o (.lst xs))
theorem wI{P:Ξ}{w:Ω}{K:ι}{mg G:GQ}{CX:c5}{k:Nat}{I a:Δ}{fd:FuncData}{x:Str}{sp:Sp}{c:Θ}{vs:Ζ}{ns:Β}
  (T:K.In c.heap)(A:c.heap.Ns η mg)(hb:c.heap.Ns builtinsNs G)(N:∀x:Str,x≠"__name__"->G x=bootBuiltins x)(B:c.heap.NoLimit)(hg:c.gens= (List.toArray []))
  (ha:c.heap.get? a=some {cls:= .type "list",data:= .seq vs.toArray})(hi:IntsAre vs ns)(hl:ns.length<=ζ)(hr:HB k callerA)
  (F:∀base:Ψ,K.In base->base.Ns η mg->IP P w K mg base CX k I fd [x] sp)(j:∀(s:Θ) (u:Γ),BindsTo s fd #[[u],[]] [(x,u)])
  (E:∀H:Hp,vK H->G0 K H a (ns.map V.int)->sp [.ref a] H (λv _=>v= .bl true) λ_ _ _=>False)
  (L:∀H e s',CX [] H c (λ_ _ _=>False) e s'->False):
  codeAny (model P w) callerA (.call (.ref I) #[[.ref a],[]]) (λr s'=>r= .ok (.ret (.bool true))/\OldK c.heap s'.heap/\s'.os=c.os/\AllBare s'.gens) c:=by
 have O:=dv hi;have t:=hi.length;have i:∀H:Hp,vK H->G0 K H a (ns.map V.int)->IZ P w H c.heap->(∀b,H b≠none->b=a)->(H a≠none->K.lookup a=none)->
   codeAny (model P w) callerA (.call (.ref I) #[[.ref a],[]]) (λr s'=>r= .ok (.ret (.bool true))/\OldK c.heap s'.heap/\s'.os=c.os/\AllBare s'.gens) c:=by
  intro H R hS y Q hK;have f:∀{b:Δ} {o:Obj},c.heap.get? b=↑o->H b=none->(bU c.heap H).get? b=↑o:=λe n=>xv e n
  have M:∀{b:Δ} {o:Obj} {es:Array DictEntry} {ep:Nat},c.heap.get? b=↑o->o.data= .dict es ep->H b=none:=λ{b o es ep} e d=>by
   cases q:H b with
   |none=>rfl
   |some u=>
    have J:b=a:=Q b (by rw[q];simp)
    subst J;rw[ha]at e;cases e
    have d':Data.seq vs.toArray _=Data.dict es ep:=d
    cases d'
  have g:∀{b:Δ} {m:GQ},c.heap.Ns b m->(bU c.heap H).Ns b m:=λ{b m} ⟨o,es,ep,e,d,r⟩=>#[o,es,ep,f e (M e d),d,r]
  have C:K.In (bU c.heap H):=λb o e=>f (T b o e) (by
   cases q:H b with
   |none=>rfl
   |some u=>
    have J:b=a:=Q b (by rw[q];simp)
    subst J;rw[hK (by rw[q];simp)]at e;cases e)
  have hM:N0 K mg (bU c.heap H):=#[C,g A,#[G,g hb,N],let⟨mc,h1,h2⟩:=B;#[mc,g h1,h2]]
  have U:LD P w K mg (bU c.heap H) callerA [] c H:=#[Z,hM,λb o e=>AW e,Nat.le_of_eq (vh _ _),trivial,λb hb=>absurd (show b∈([]:Η)from hb) (by simp),y,.of_eq hg]
  refine FE ((F _ C (g A)).run callerA [] c H #[[.ref a],[]] [.ref a] [.ref a] _ _ hr U (j c (.ref a)) (.cons Z .nil) (E H R hS)) λr s' h=>?_
  cases r with
  |error e=>exact(L H e s' h).elim
  |ok fl=>
   cases fl with
   |next=>exact False.elim h
   |brk=>exact False.elim h
   |cont=>exact False.elim h
   |ret u=>
    obtain⟨v,H',os,p,un,l,Y,q⟩:=h;have q':v= .bl true:=q
    subst q'
    obtain rfl:u=Γ.bool true:=Y
    refine#[Z,OldK.of_keep λb o e=>?_,os,p]
    cases q:H b with
    |none=>exact un.keep b o e q (by intro z;exact absurd (show b∈([]:Η)from z) (by simp)) (by simp)
    |some u=>
     rcases R b with z|⟨W,xs,z⟩
     ·rw[q]at z;cases z
     ·have z2:=un.frzs b W _ z
      obtain⟨S,_⟩:=y b _ z;obtain⟨X,_⟩:=l b _ z2;rw[e]at S;cases S
      exact X
 cases hk:K.lookup a with
 |some o=>
  have e:=T a o hk;rw[ha]at e;cases e;refine i (λ_=>none) (λ_=> .inl Z) (.inr #[_,vs.toArray,_,hk,Z,Z,Z,by rw[Jr,t];exact hl,by simpa using O]) (λb u z=>by have D:(none:Option HO)=↑u:=z;cases D) (λb z=>absurd Z z) λz=>absurd Z z
 |none=>
  refine i (λb=>if b=a then ↑(.frz {cls:= .type "list",data:= .seq vs.toArray} (.lst (ns.map V.int)))else none) (λb=>?_) (.inl (.inr #[{cls:= .type "list",data:= .seq vs.toArray},Jc Z])) (λb u z=>?_) (λb z=>?_) λ_=>hk
  ·by_cases hb:b=a
   ·exact .inr #[_,_,Jc hb]
   ·exact .inl (Jb hb)
  ·by_cases hb:b=a
   ·have D:=(Jc hb).symm.trans z
    cases D;subst hb
    exact#[ha,by rw[Je];exact hl,vs,_,O,ha]
   ·have D:=(Jb hb).symm.trans z
    cases D
  ·by_cases hb:b=a
   ·exact hb
   ·exact absurd (Jb hb) z
theorem Bm{l:W.OpenLaw}{n k:Nat}{q:Ξ}{i:Α}{N:(Str->Ο)->Ψ->Prop}{B:Ω->Ψ->Prop}{d:DefRec}{K:Params->ι}{CX:Ω->c5}{sp:Ω->Sp}{x:Str}
  (hn:l.most=↑n)(y:n<=ζ)(z:d.params.defaults=[])(hr:HB k callerA)
  (E:∀(w:Ω) (h:Ψ),B w h->(K w.params).In h)
  (F:∀(w:Ω) (mg:GQ) (p:Δ) (h:Ψ),(K w.params).In h->h.Ns η mg->mg d.name=↑(.ref p)->
   ∃fd:FuncData,(∀(s:Θ) (u:Γ),BindsTo s fd #[[u],[]] [(x,u)])/\
    ∀base:Ψ,(K w.params).In base->base.Ns η mg->IP l.prog w (K w.params) mg base (CX w) k p fd [x] (sp w))
  (r:∀(w:Ω) (H:Hp) (a:Δ) (ns:Β),ns.length<=n->vK H->G0 (K w.params) H a (ns.map V.int)->sp w [.ref a] H (λv _=>v= .bl true) λ_ _ _=>False)
  (A:∀(w:Ω) (H:Hp) (s:Θ) (e:Γ) (s':Θ),CX w [] H s (λ_ _ _=>False) e s'->False):
  W.WalkO q i N B l.row.toRowW d [] (λf vs=>PySem.call f vs):=by
 refine Att.attach_call hn z λw C m mg R p o pm cd doc a vs ns G Y S Q M t j g c P=>?_
 have D:=E w _ Y;obtain⟨fd,J,I⟩:=F w mg p _ D G.T.g t;exact wI D G.T.g G.T.b G.T.builtins G.T.nolimit P j g (JG c y) hr I J (λH L O=>r w H a ns c L O) λH e s'=>A w H m e s'
def zA(s:δ)(j:Nat):δ:=match s with
 | .ClassDef _ _ _ body _ _ _ _ _ _ _=>body.getD j (.Pass #[0,0,0,0])
 |_=> .Pass #[0,0,0,0]
def Qo(s:δ):Arguments:=match s with
 | .FunctionDef _ a _ _ _ _ _ _ _ _=>a
 |_=>{posonlyargs:=[],args:=[],vararg:=none,kwonlyargs:=[],kw_defaults:=[],kwarg:=none,defaults:=[]}
def zF(s:δ):List δ:=match s with
 | .FunctionDef _ _ b _ _ _ _ _ _ _=>b
 |_=>[]
def qi(s:δ):Scope:=match s with
 | .FunctionDef _ _ _ _ _ _ sc _ _ _=>sc
 |_=>{kind:= .function,names:=[],isGenerator:=false,isCoroutine:=false}
abbrev aB:c5:=λ_ _ _ _ _ _=>False
abbrev E0:XK:=λ_ _ _=>False
theorem j0{X:Cx}:eF aB X E0:=λ_ _ _ _ _ _ _ h=>h.elim
structure LX(K:ι)(x Ob:Str)(st:δ)(f:Δ)(fd:FuncData):Prop where
 ex:∃(oc:Γ) (od:ν) (kV doc pm:Γ) (an:ν) (cdv ct:Γ) (osl:Array Ο),
  fd=PySem.W.fnOf x Ob (Qo st) (zF st) (qi st) .none kV doc pm an cdv ct/\K.lookup f=some #[oc,od,.func fd,osl]/\PySem.W.codeIn K cdv Ob=true
 kp:PySem.W.keepIn K (.ref f)=true
section
variable{P:Ξ}{w:Ω}{K:ι}{mg:GQ}{base:Ψ}
theorem LX.ok{x Ob:Str}{st:δ}{f:Δ}{fd:FuncData}{N ps:Α}{k:Nat}{sp:Sp}(F:LX K x Ob st f fd)(S:GU N ps (qi st))(len:∀vs H Q E,sp vs H Q E->vs.length=ps.length)
  (c:∀(cdv:Γ) (A:Around) (a:Υ) (s:Θ) (H:Hp) (vs:Ε) (Q:VK) (E:XK),HB k (A.deeper (envOfC Ob (qi st) s.heap.objs.size f cdv))->sp vs H Q E->
   ∃t,LB (a9 aB P w K mg base N Ob (qi st) f cdv A a s H E).nox (zF st) t/\t {nx:=λ_ H'=>Q .non H',rt:=Q} (Q0 N vs) H):IP P w K mg base aB (k+1) f fd ps sp:=by
 obtain⟨oc,od,kV,doc,pm,an,cdv,ct,osl,rfl,g,e⟩:=F.ex;refine DY g e S len λA a s H vs Q E i d=>?_
 obtain⟨t,h,q⟩:=c cdv A a s H vs Q E i d
 exact#[t,h.nox,q]
theorem LX.binds{x Ob:Str}{st:δ}{f:Δ}{fd:FuncData}{ps:Α}(F:LX K x Ob st f fd)
  (h:∀(kV doc pm:Γ) (an:ν) (cdv ct:Γ) (us:Ζ),us.length=ps.length->bindArgs (W.fnOf x Ob (Qo st) (zF st) (qi st) .none kV doc pm an cdv ct) #[us,[]]=pure (ps.zip us)):Iw K fd ps []:=by
 obtain⟨oc,od,kV,doc,pm,an,cdv,ct,osl,rfl,c,a⟩:=F.ex;exact .all (h kV doc pm an cdv ct)
theorem kP{x Ob:Str}{st:δ}{f:Δ}{oc:Γ}{od an:ν}{osl:Array Ο}{kV doc pm cdv ct:Γ}(l:K.lookup f=some #[oc,od,.func (W.fnOf x Ob (Qo st) (zF st) (qi st) .none kV doc pm an cdv ct),osl])
  (c:W.codeIn K cdv Ob=true)(k:W.keepIn K (.ref f)=true):LX K x Ob st f (W.fnOf x Ob (Qo st) (zF st) (qi st) .none kV doc pm an cdv ct):=#[#[oc,od,kV,doc,pm,an,cdv,ct,osl,Z,l,c],k]
end
theorem zw{A B:Prop}(h:B):if false=true then A else B:=by
 rw[Jb JJ];exact h
theorem zx{A B:Prop}(h:A):if true=true then A else B:=by
 rw[Jc Z];exact h
theorem qV{c A B:Prop} [Decidable c](h1:c->A)(h2:¬c->B):if c then A else B:=by
 by_cases h:c
 ·rw[Jc h]
  exact h1 h
 ·rw[Jb h]
  exact h2 h
theorem rZ{c A B:Prop} [Decidable c](hc:c)(h:B):if(! decide c)=true then A else B:=by
 rw[Ji hc];exact zw h
def GS(H H':Hp):Prop:=∀b o,H b=↑o->H' b=↑o
theorem GS.refl(H:Hp):GS H H:=λ_ _ h=>h
theorem GS.trans{H H1 d:Hp}(a:GS H H1)(b:GS H1 d):GS H d:=λc o h=>b c o (a c o h)
theorem GS.seq{K:ι}{H H':Hp}{a:Δ}{xs:Ε}(e:GS H H')(h:G0 K H a xs):G0 K H' a xs:=by
 rcases h with(h|⟨o,h⟩)|h
 ·exact .inl (.inl (e _ _ h))
 ·exact .inl (.inr #[o,e _ _ h])
 ·exact .inr h
end L2
namespace L3
open PySem PySem.Spec PyProof.Rows L2
def zb(X:Cx)(N:Α)(a:Scope)(c:List (Str×Δ))(C:Δ)(s:Θ)(H:Hp)(fp:Η):Cx:=
 {X with N:=N,s₀:=s,H₀:=H,env:=compEnvC a c C X.env,outer:=X.stack,ex:=fp,fn:=λ_=>false,pn:=[],xe:=λ_ _=>False}
structure HP(X:Cx)(scope:Scope)(fr:Α)(js:Κ):Prop where
 kind:scope.kind= .function
 names:∀x∈scope.names,x.2= .local->scope.names.lookup x.1=some .local
 nocell:∀x∈scope.names,x.2≠ .cell
 free:∀x∈scope.names,x.2= .free->x.1∈fr
 len:js.length=fr.length
 at_:∀(i j:Nat) (y:Str),js[i]? =↑j->fr[i]? =↑y->X.N[j]? =↑y/\X.env.kindOf y=some .cell/\(relabel scope X.env).names.lookup y=some .cell
theorem zL{f:Type}{y:Str}:∀{l:List (Str×f)},y∈l.map (·.1)->∃c,l.lookup y=↑c
 | [],h=>by simp at h
 |(n,a)::r,h=>by
  cases e:y==n with
  |true=>exact#[a,by simp [J7,e]]
  |false=>
   have g:y∈r.map (·.1):=by
    rcases Jm.mp h with z|z
    ·exact absurd z (by simpa using e)
    ·exact z
   obtain⟨c,d⟩:=zL g
   exact#[c,by simp [J7,e,d]]
def σ0(k:Nat)(js:Κ)(σ:L2.St):L2.St:=List.replicate k none++js.map λj=>(σ[j]?).join
def pW(k:Nat)(js:Κ)(g:TG)(te:TE)(σ:L2.St)(Q:VK)(J:It)(H1:Hp):Prop:=∃W:Nat->Nat->Ε->L2.St->Hp->Prop,(∃m,W 0 m [] (σ0 k js σ) H1)/\∀i m ys d H,W i m ys d H->
 (J.stop i H/\∀p,H p=none->Q (.ref p) (GW H p (.lst ys)))\/(J.go i H/\ys.length<ζ/\∀x H',J.yld i H x H'->g x d H' λa f=>∃N:V->Hp->Prop,(∀v c,N v c->∃e,e<m/\W (i+1) e (ys++[v]) a c)/\te a f N)
def aQ(k:Nat)(js:Κ)(a:TI)(g:TG)(te:TE):TE:=λσ H Q=>a σ H (pW k js g te σ Q)
section
variable{prog:Ξ}{w:Ω}{A:Around}{R:Result->Θ->Prop}{s:Θ}
theorem eE{p a l:Φ}{e:Scope}{pos:Pos}{it q:Γ}{d:Env}(I:Nat->Θ->Prop)
  (u:∀n s,I n s->ε (model prog w) A (pyNext it) (λr f=>match r with
   |none=>R (.ok .next) f
   | some v=>ε (model prog w) A (letOwnedTupleGo a it v) (λ_ c=>ε (model prog w) A (assign a d v) (λ_ g=>ε (model prog w) A (eval p d) (λx i=>
     ε (model prog w) A (call (.builtin "list.append") [q,x]) (λ_ o=>∃m,m<n/\I m o) (λ_ _=>False) i)
     (λ_ _=>False) g) (λ_ _=>False) c) (λ_ _=>False) f) (λ_ _=>False) s)
  (n:Nat)(h:I n s):
  codeAny (model prog w) A (.compLoop (.ListComp p [#[a,l,[],0]] e pos) 0 it q d) R s:=by
 refine codeAny_loop Z I (λn s C=>?_) n h
 show ε _ _ ((compTurn (.ListComp p [#[a,l,[],0]] e pos) 0 it q d).onRaise (λx=>do noteFrame x d;theTreesLotGoes x)) _ _ s
 refine wpAny_noted ?_
 rw[compTurn_list1];refine Ja (E1 (Ja (Jw (u n s C) (λr f j=>?_) λ_ _ h'=>h'.elim)))
 cases r with
 |none=>exact Jd j
 |some v=>
  refine Ja (Jw j (λ_ c t=>?_) λ_ _ h'=>h'.elim)
  exact Ja (Jw t (λ_ g B=>Ja (Ja (Jw B (λx i z=>Ja (Jw z
   (λ_ o y=>Jd (Jd #[Z,y])) λ_ _ h'=>h'.elim)) λ_ _ h'=>h'.elim))) λ_ _ h'=>h'.elim)
end
variable{X:Cx}
structure Mm(X:Cx)(Oa:GR)(H:Hp)(C:Δ):Prop where
 free:H C=none
 loc:C≠X.env.locals
 new:X.s₀.heap.objs.size<=C
 cell:∀x c,X.env.cells.lookup x=↑c->c≠C
 pin:∀p∈X.pn++Oa,p.1≠C
theorem fY{a:Scope}{E:List (Str×Δ)}{fr own:Α}{js:Κ}{Oa:GR}{d:Θ}{σ:L2.St}{K:Hp}{tg:Φ}{J:It}{fp:Η}{it:Δ}{tn:Nat->Ψ->Prop}{w:Ψ}{g:Nat}{m:GQ}
  (s:∀y c,E.lookup y=↑c->X.env.cells.lookup y=↑c)(U:E.map (·.1)=fr)(S:HP X a fr js)(f:L2.GX X Oa σ K d)(T:Lh X.prog X.w X.K tg J fp it tn)(a3:tn 0 d.heap)(P:∀b∈fp,Qs X Oa K b)
  (hC:g=d.heap.objs.size+1)(G:∀b o,d.heap.get? b=↑o->w.get? b=↑o)(F:w.Ns g m):
  (∀b∈fp,b<d.heap.objs.size)/\L2.GX (zb X (own++fr) a E g d K fp) [] (σ0 own.length js σ) K {d with heap:=w,toks:=d.toks+([]:List (Str×Γ)).length}/\d.heap.objs.size∉ad X.stack/\(∀x c,E.lookup x=↑c->c≠d.heap.objs.size)/\
  ∀{H':Hp} {pl:GR},(∀b∈fp,H' b=none)->(∀p∈pl,p.1=d.heap.objs.size)->∀b∈fp,Qs (zb X (own++fr) a E g d K fp) pl H' b:=by
 have t:∀b,b<d.heap.objs.size->b≠g/\b≠d.heap.objs.size:=λb h=>#[by rw[hC];exact Jk (EY h),Jk h]
 let Y:Cx:=zb X (own++fr) a E g d K fp
 have A:∀b∈fp,b<d.heap.objs.size:=λb h=>by obtain⟨o,e,_⟩:=T.obj _ _ a3 b h;exact Jj e
 have a0:(zb X (own++fr) a E g d K fp).Ok:=by
  refine#[f.ok.mod,S.kind,f.ok.glob,f.ok.blt,by show d.heap.objs.size<=g;lia,?_,?_,?_,f.ok.hd,f.ok.frames,.inl Z,?_,f.bs,JG f.ok.bsz f.sz,?_,?_,f.stack,f.stkFree]
  ·exactλx y c e1 e2=>f.ok.inj x y c (s x c e1) (s y c e2)
  ·intro x hx
   have a6:(relabel a X.env).names.lookup x=some .cell\/(relabel a X.env).names.lookup x=some .free:=hx
   have hm:∃k,(x,k)∈a.names/\k= .free:=by
    have W:∀kk:NameKind,(kk= .cell\/kk= .free)->(relabel a X.env).names.lookup x=↑kk->∃k,(x,k)∈a.names/\k= .free:=by
     intro kk hk el;obtain⟨⟨n,k⟩,r,e⟩:=Jt.mp (FA el)
     dsimp only at e
     split at e
     ·rename_i C
      cases e;refine#[k,r,?_]
      simp only[JC,JW]at C;exact C.1.1
     ·cases e
      rcases hk with z|z
      ·subst z;exact absurd Z (S.nocell _ r)
      ·exact#[_,r,z]
    rcases a6 with z|z
    ·exact W _ (.inl Z) z
    ·exact W _ (.inr Z) z
   obtain⟨k,r,hk⟩:=hm;exact zL (l:=E) (by rw[U];exact S.free _ r hk)
  ·exactλx c e _=>nomatch e
  ·refineλb h=>#[?_,λx c e=>(P b h).2.2.2.2.1 x c (s x c e)]
   show b≠g
   exact(t b (A b h)).1
  ·intro b o e h
   rcases(P b h).2.2.2.1 with z|z
   ·exact f.ok.noex b o e z
   ·exact absurd (JO (Jj e) (JG f.ok.bsz z)) (EU _)
  ·intro b h hf
   rcases Jm.mp (f.stkSub b hf)with z|z
   ·exact(P b h).2.1 z
   ·exact(P b h).2.2.1 z
 have O:(σ0 own.length js σ).length=(own++fr).length:=by unfold σ0;simp [S.len]
 have IY:GX Y [] (σ0 own.length js σ) K {d with heap:=w,toks:=d.toks+([]:List (Str×Γ)).length}:=by
  refine#[a0,Z,f.bare,Un.kept G,#[_,F,?_],?_,?_,?_,λp hp=>absurd (show p∈([]:GR)from hp) (by simp),f.hok.kept G,O]
  ·intro i x v hN H _
   have L:(own++fr)[i]? =↑x:=hN
   unfold σ0 at H
   by_cases M:i<own.length
   ·rw[JT (by simpa using M),List.getElem?_replicate]at H
    split at H<;>cases H
   ·rw[JY (by simpa using F7 M),Gw,Jn]at H
    rw[JY (F7 M)]at L;cases ej:js[i-own.length]? with
    |none=>rw[ej]at H;cases H
    |some j=>
     rw[ej]at H;have a2:σ[j]? =↑(↑v):=by
      have I:(σ[j]?).join=↑v:=JA H
      cases q:σ[j]? with
      |none=>rw[q]at I;cases I
      |some o=>rw[q]at I;have:o=↑v:=I;rw[this]
     obtain⟨a7,hk,a4⟩:=S.at_ _ j x ej L;obtain⟨m,hn,hl⟩:=f.loc;obtain⟨u,ru,lk⟩:=hl j x v a7 a2 (.inr (.inl hk))
     refine#[u,ru,.inr ?_]
     rcases lk with⟨k1,_⟩|⟨_,c,ec,ic⟩
     ·rw[hk]at k1;cases k1
     ·obtain⟨c',R⟩:=zL (y:=x) (l:=E) (by rw[U];exact JP L)
      have:c'=c:=by have:=s x c' R;rw[ec]at this;exact(JA this).symm
      subst this;refine#[?_,c',R,?_]
      ·show(relabel a X.env).names.lookup x=some .cell\/(relabel a X.env).names.lookup x=some .free
       exact .inl a4
      ·obtain⟨oc,B,hd⟩:=ic
       exact#[oc,G _ _ B,hd]
  ·intro x c e
   obtain⟨v,oc,B,hd⟩:=f.cell x c (s x c e)
   exact#[v,oc,G _ _ B,hd]
  ·exact f.hok.fresh (by show d.heap.objs.size<=g;lia)
  ·exactλx c e=>f.freeC x c (s x c e)
 have N:d.heap.objs.size∉ad X.stack:=λhf=>by
  rcases Jm.mp (f.stkSub _ hf)with z|z
  ·exact absurd (by rw[<- z];exact Jf _:d.heap.objs.size<=X.env.locals) (Nat.not_le.mpr f.lt)
  ·exact f.nofs (Jf _) z
 have D:∀x c,E.lookup x=↑c->c≠d.heap.objs.size:=λx c e z=>by
  obtain⟨v,oc,B,_⟩:=f.cell x c (s x c e)
  exact absurd (Jj B) (by rw[z];exact EU _)
 have a1:∀{H':Hp} {pl:GR},(∀b∈fp,H' b=none)->(∀p∈pl,p.1=d.heap.objs.size)->∀b∈fp,Qs Y pl H' b:=λ{H' pl} hn hp b h=>
  #[hn b h,(t b (A b h)).1,a0.exfs b h,.inl h,λx c e=>(P b h).2.2.2.2.1 x c (s x c e),λp a5=>by
   have Q:p∈pl:=by simpa [Y,zb]using a5
   rw[hp p Q];exact Ne.symm (t b (A b h)).2]
 exact#[A,IY,N,D,a1]
theorem cf{N:Α}{l:Scope}{J:List (Str×Δ)}{Oa pl:GR}{d y:Θ}{σ G:L2.St}{E m:Hp}{fp:Η}{g:Nat}{ob:HO}(r:L2.GX X Oa σ E d)(w:∀b∈fp,Qs X Oa E b)(I:g=d.heap.objs.size+1)
  (t:L2.GX (zb X N l J g d E fp) pl G m y)(a:m d.heap.objs.size=none)(C:Hv X.prog X.w (GW m d.heap.objs.size ob) y.heap d.heap.objs.size ob):L2.GX X Oa σ (GW m d.heap.objs.size ob) y/\Mm X Oa (GW m d.heap.objs.size ob) g:=by
 have j:∀b,b<d.heap.objs.size->b≠g/\b≠d.heap.objs.size:=λb f=>#[by rw[I];exact Jk (EY f),Jk f]
 have D:d.heap.objs.size≠g:=by lia
 have B:=t.base;have F:m g=none:=t.free
 refine#[?_,?_]
 ·refine r.call' (s':=y) (ch:=fp) t.os #[B.keep,B.slot,λb o e n K=>?_,B.there,λb xs e=>?_,λb o u e=>?_,λb ps e=>?_] ?_ t.bare ?_
  ·rw[qm (j b (Jj e)).2];exact B.free b o e n K
  ·have i:=B.tups b xs e
   rw[qm (qo i a)];exact i
  ·have i:=B.frzs b o u e
   rw[qm (qo i a)];exact i
  ·obtain⟨s,i⟩:=B.tbls b ps e
   exact#[s,by rw[qm (qo i a)];exact i]
  ·intro b u e
   by_cases f:b=d.heap.objs.size
   ·subst f
    rw[qc]at e;cases e
    exact C
   ·rw[qm f]at e
    exact(t.hok b u e).stay (λc v _ q=>q) (λc q=>by rw[qm (qo q a)];exact q) λc xs q=>by rw[qm (qo q a)];exact q
  ·exactλb f=>#[(w b f).2.2.2.1,(w b f).2.1,(w b f).2.2.2.2.1,(w b f).2.2.2.2.2]
 ·have h:d.heap.objs.size<=g:=by lia
  refine#[by rw[qm (Ne.symm D)];exact F,?_,JG r.sz h,λx c e z=>?_,λp H z=>?_]
  ·exact EV (JO r.lt h)
  ·obtain⟨v,oc,A,_⟩:=r.cell x c e
   exact absurd (JO (Jj A) h) (by rw[z];exact EU _)
  ·exact absurd (JO (Jj (r.pin p H).1) h) (by rw[z];exact EU _)
theorem kS{a2 tg t:Φ}{a:Scope}{cl:List (Str×Δ)}{pos b4:Pos}{fr own:Α}{js:Κ}{wi:TI}{g:TG}{te:TE}{use:Option (Γ->Sem Unit)}{Post:GP}
  {Oa:GR}{s:Θ}{σ:L2.St}{H:Hp}{Q:VK}
  (hc:X.calm=true)(hi:PI X tg t wi)(a4:closureFor a X.env=pure cl)(c3:∀y c,cl.lookup y=↑c->X.env.cells.lookup y=↑c)(d1:cl.map (·.1)=fr)
  (S:HP X a fr js)
  (hg:∀C s H fp,PG (zb X (own++fr) a cl C s H fp) tg g)(he:∀C s H fp,PE (zb X (own++fr) a cl C s H fp) a2 te)
  (hs:∀x,foldedSetIterable t X.env x=pure x)
  (I:L2.GX X Oa σ H s)(h:aQ own.length js wi g te σ H Q)
  (b0:∀(b2 C:Δ) (s5:Θ) (H':Hp) (m:GQ),L2.GX X Oa σ H' s5->s5.heap.Ns C m->Mm X Oa H' C->Q (.ref b2) H'->compPost (model X.prog X.w) X.A X.xe use Post (.ref b2) C (.ok .next) s5):
  ε (model X.prog X.w) X.A (comprehension (.ListComp a2 [#[tg,t,[],0]] a pos) a X.env b4 (newList []) false (eval t X.env) use) Post X.xe s:=by
 refine wpAny_comprehension_free (use:=use) Z hs a4 S.kind S.names (qz (hi Oa s σ H _ I h) λv s1 h1=>qz h1 λd5 j h2=>?_)
 obtain⟨it,fp,tn,J,H2,e,I2,T,a8,f2,W,⟨m0,w0⟩,b5⟩:=h2;subst e;refine J3 (wpAny_newFunctionEnv S.nocell (by intro y hy;simp at hy) (λD l d=>?_) S.kind)
 dsimp only at l d⊢
 generalize hH2:j.heap.push {cls:= .type "list",dict:=none,data:= .seq ([]:Ζ).toArray}=G at l d⊢
 have hC:G.objs.size=j.heap.objs.size+1:=by rw[<- hH2,JX]
 have P:j.heap.objs.size≠G.objs.size:=by rw[hC];exact Jk (E2 _)
 have A:∀b,b<j.heap.objs.size->b≠G.objs.size/\b≠j.heap.objs.size:=λb w=>#[by rw[hC];exact Jk (EY w),Jk w]
 have b6:∀b o,j.heap.get? b=↑o->D.get? b=↑o:=λb o e=>d.extBut b o (A b (Jj e)).1 (Jl _ (hH2▸Jl _ e))
 have a0:D.get? j.heap.objs.size=some {cls:= .type "list",data:= .seq ([]:Ζ).toArray 0}:=d.extBut _ _ P (Jl _ (hH2▸Jq _ Z))
 let Y:Cx:=zb X (own++fr) a cl G.objs.size j H2 fp
 obtain⟨b8,IY,E,F,a5⟩:=fY (own:=own) (js:=js) c3 d1 S I2 T a8 f2 hC b6 l
 have a1:∀q:Θ,GX Y [] (σ0 own.length js σ) H2 q->tn 0 q.heap->q.heap.get? j.heap.objs.size=some {cls:= .type "list",data:= .seq ([]:Ζ).toArray 0}->
   codeAny (model X.prog X.w) X.A (.compLoop (.ListComp a2 [#[tg,t,[],0]] a pos) 0 (.ref it) (.ref j.heap.objs.size) (compEnvC a cl G.objs.size X.env))
    (compPost (model X.prog X.w) X.A X.xe use Post (.ref j.heap.objs.size) G.objs.size) q:=by
  intro q I3 c1 d2;refine eE (λn s'=>∃i ys τ H' f k,GX Y [(j.heap.objs.size,{cls:= .type "list",data:= .seq f.toArray k})] τ H' s'/\tn i s'.heap/\(∀b∈fp,H' b=none)/\GZ ys f/\ys.length<=ζ/\W i n ys τ H') ?_ m0 ?_
  ·rintro n s4 ⟨i,ys,τ,H4,f,k,I4,b3,b7,vl,hz,w4⟩
   have d4:=I4.pin (j.heap.objs.size,{cls:= .type "list",data:= .seq f.toArray k}) (by simp [Y,zb])
   rcases b5 i n ys τ H4 w4 with⟨c0,qn⟩|⟨go,d6,step⟩
   ·refine qz (T.done Y Z Z Z hc i _ s4 τ H4 _ I4 (a5 b7 (by simp)) b3 c0) λr s5 O=>?_
    obtain⟨hr,I5⟩:=O;subst hr
    show compPost _ _ _ _ _ _ _ _ _
    obtain⟨m5,d0,_⟩:=I5.loc;have U:=I5.pin (j.heap.objs.size,{cls:= .type "list",data:= .seq f.toArray k}) (by simp [Y,zb])
    have R:H4 j.heap.objs.size=none:=U.2.1
    have B:=I5.base;have nC:H4 G.objs.size=none:=I5.free
    obtain⟨z1,z2⟩:=cf (ob:= .lst ys) I2 f2 hC I5 R #[hz,f,k,vl,U.1]
    exact b0 j.heap.objs.size G.objs.size s5 (GW H4 j.heap.objs.size (.lst ys)) m5 z1 d0 z2 (qn _ R)
   ·refine qz (T.item Y Z Z Z hc i _ s4 τ H4 _ I4 (a5 b7 (by simp)) b3 go) λr s5 O=>?_
    obtain⟨u,hr,h5⟩:=O;subst hr;refine qz h5 λ_ s6 O=>?_
    obtain⟨x,H6,I6,r6,y6,a7,c4⟩:=O;have c2:=I6.pinned (a5 c4 (by simp)) (T.obj _ _ a7)
    refine qz (hg _ _ _ _ _ s6 τ H6 x u _ c2 r6 (step x H6 y6)) λ_ s7 O=>?_
    obtain⟨a6,H7,I7,N,hN,q7⟩:=O;refine qz (he _ _ _ _ _ s7 a6 H7 _ I7 q7) λv' s8 O=>?_
    obtain⟨y,H8,I8,r8,n8⟩:=O;obtain⟨m',d3,w8⟩:=hN _ _ n8;have L:=I8.pin (j.heap.objs.size,{cls:= .type "list",data:= .seq f.toArray k}) (by simp [zb])
    have K:∀b∈fp,∀o,s6.heap.get? b=↑o->s8.heap.get? b=↑o/\H8 b=none:=λb w o e=>by
     have:=I8.pin (b,o) (JV _ (JV _ (Qk w e)))
     exact#[this.1,this.2.1]
    refine wpAny_list_append_plain (items:=f.toArray) #[k,L.1] (λh' M b1=>?_) (by have:=vl.length;simp;lia)
    obtain⟨k',M⟩:=M;have I9:GX Y [] a6 H8 {s8 with heap:=h'}:=by
     refine(I8.pins_of (pins':=[]) (by simp)).turned (t':=s8.toks) (it:=j.heap.objs.size) (λb o w e=>(b1.2 b w).trans e) L.2.1 ?_ (.inr (Jf _)) (λx c e=>F x c e) (λp hp=>absurd (show p∈([]:GR)from by simpa [Y,zb]using hp) (by simp))
     exact P
    have ea:(f.toArray.push v')=(f++[v']).toArray:=by simp
    rw[ea]at M;refine#[m',d3,i+1,ys++[y],a6,H8,f++[v'],k',I9.pins_of ?_,T.keep _ _ _ a7 λb w o e=>(b1.2 b (A b (b8 b w)).2).trans (K b w o e).1,λb w=>?_,vl.append (.cons r8 .nil),?_,w8]
    ·intro p hp
     rw[Jh.mp hp]
     exact#[M,L.2.1,P,E,λv z=>by cases z]
    ·obtain⟨o,e,_⟩:=T.obj _ _ a7 b w
     exact(K b w o e).2
    ·rw[Jv,Fd];lia
  ·refine#[0,[],σ0 own.length js σ,H2,[],0,I3.pins_of ?_,c1,λb w=>(f2 b w).1,.nil,Jy _,w0]
   intro p hp;rw[Jh.mp hp]
   exact#[d2,I2.hok.fresh (Jf _),P,E,λv z=>by cases z]
 have a3:tn 0 D:=T.keep _ _ _ a8 λb _ o e=>b6 b o e
 exact codeAny_compStart_list (a1 _ IY a3 a0) (T.self _ 0 _ _ _ a3 (a1 _ IY a3 a0))
theorem Ao{j tg d:Φ}{a:Scope}{l:List (Str×Δ)}{pos:Pos}{fr own:Α}{js:Κ}{u:TI}{g:TG}{te:TE}
  (hc:X.calm=true)(hi:PI X tg d u)(f:closureFor a X.env=pure l)(p:∀y c,l.lookup y=↑c->X.env.cells.lookup y=↑c)(t:l.map (·.1)=fr)
  (S:HP X a fr js)
  (hg:∀C s H fp,PG (zb X (own++fr) a l C s H fp) tg g)(he:∀C s H fp,PE (zb X (own++fr) a l C s H fp) j te)
  (hs:∀x,foldedSetIterable d X.env x=pure x:=by intro _;rfl):
  PE X (.ListComp j [#[tg,d,[],0]] a pos) (aQ own.length js u g te):=by
 intro Oa s σ H Q I h;rw[eval_ListComp];refine kS (use:=none) hc hi f p t S hg he hs I h λr C z H' m A w i q=>?_
 exact#[m,w,λh' n=>#[.ref r,H',A.turned (t':=z.toks) (λb o v e=>(n.2 b v).trans e) i.free i.loc (.inr i.new) i.cell i.pin,Z,q]]
theorem An{j tg f:Φ}{d:Scope}{t:List (Str×Δ)}{pos l u:Pos}{fr own:Α}{js:Κ}{K:TI}{g:TG}{te:TE}{i:Nat}{y:Str}
  (hN:X.N.Nodup)(G:X.N[i]? =↑y)(hx:cH X.env.scope y)
  (hc:X.calm=true)(hi:PI X tg f K)(n:closureFor d X.env=pure t)(A:∀y c,t.lookup y=↑c->X.env.cells.lookup y=↑c)(E:t.map (·.1)=fr)
  (S:HP X d fr js)
  (hg:∀C s H fp,PG (zb X (own++fr) d t C s H fp) tg g)(he:∀C s H fp,PE (zb X (own++fr) d t C s H fp) j te)
  (hs:∀x,foldedSetIterable f X.env x=pure x:=by intro _;rfl)(F:swapsWith (.ListComp j [#[tg,f,[],0]] d pos) ↑(.Name y u) l.line X.env=pure true:=by rfl)
  (hf:X.fn y=true\/X.env.scope.names.lookup y=some .local:=by first|exact .inl Z|exact .inr Z|assumption):
  PS X (.Assign [.Name y u] (.ListComp j [#[tg,f,[],0]] d pos) l) (aY (aQ own.length js K g te) (Qa i)):=by
 intro Oa s σ H D I h;rw[exec_Assign_Name_used _ _ _ _ F];refine Ja (E1 (Ja ?_))
 show ε _ X.A (do let _ <- comprehension (.ListComp j [#[tg,f,[],0]] d pos) d X.env _ (newList []) false (eval f X.env) ↑(assign (.Name y u) X.env)) _ _ s
 refine Ja (Jw (kS (use:=↑(assign (.Name y u) X.env)) (Post:=λ_ s'=>SP X Oa D .next s') hc hi n A E S hg he hs I h ?_) (λ_ s' L=>Jd (Jd L)) λ_ _ e=>e)
 intro r C U H' m T O p q
 show ε _ X.A (assign (.Name y u) X.env (.ref r)) _ _ _
 refine wpAny_assign_Name (aM (v:= .ref r) T hN G hx Z (λN M P=>?_) hf)
 obtain⟨a,w,R⟩:=P;have B:C≠a:=by
  rcases R with z|z
  ·rw[z];exact p.loc
  ·exact Ne.symm (p.cell _ _ z)
 refine#[m,O.sameBut w B,λh' J=>?_]
 exact#[_,H',M.turned (t':=N.toks) (λb o Q e=>(J.2 b Q).trans e) p.free p.loc (.inr p.new) p.cell p.pin,q]
section
variable{js:Κ}{te:TE}{σ:L2.St}{H:Hp}{Q:VK}{K:ι}
abbrev Qu(js:Κ)(σ:L2.St):L2.St:=js.map λj=>(σ[j]?).join
abbrev ZI(J:It)(js:Κ)(te:TE)(σ:L2.St)(H1:Hp)(Q:VK):Prop:=pW 1 js (Qa 0) te σ Q J H1
theorem cw{J:It}{n:Nat}(hn:n<=ζ)(c:Nat->V->Prop)(Pv:Nat->Ε->Hp->Prop)(j:Pv 0 [] H)(g:∀i ys H,i<n->Pv i ys H->J.go i H)(hst:∀ys H,Pv n ys H->J.stop n H)
  (l:∀i ys H x H',i<n->Pv i ys H->J.yld i H x H'->H'=H/\c i x)
  (hs:∀i ys H x,i<n->ys.length=i->Pv i ys H->c i x->te (↑x::Qu js σ) H λv d=>Pv (i+1) (ys++[v]) d)
  (hd:∀ys H,ys.length=n->Pv n ys H->∀p,H p=none->Q (.ref p) (GW H p (.lst ys))):ZI J js te σ H Q:=by
 refine#[λi m ys h H=>m=n-i/\i<=n/\ys.length=i/\Pv i ys H/\∃o,h=o::Qu js σ,#[n,by simp,Jy _,Z,j,none,Z],?_]
 rintro i m ys h H ⟨rfl,hi,f,p,o,rfl⟩
 by_cases a:i<n
 ·refine .inr #[g i ys H a p,by lia,λx H' y=>?_]
  obtain⟨e,q⟩:=l i ys H x H' a p y;subst e
  exact#[λv d=>Pv (i+1) (ys++[v]) d,λv d r=>#[n-(i+1),by lia,Z,a,by simp [f],r,_,Z],hs i ys _ x a f p q]
 ·have e:i=n:=by lia
  subst e;exact .inl #[hst ys H p,hd ys H f p]
theorem Zf{a:Δ}{xs:Ε}(hn:xs.length<=ζ)(Pv:Nat->Ε->Hp->Prop)(c:Pv 0 [] H)(hl:∀i ys H,Pv i ys H->G0 K H a xs)
  (hs:∀i ys H x,xs[i]? =↑x->ys.length=i->Pv i ys H->te (↑x::Qu js σ) H λv e=>Pv (i+1) (ys++[v]) e)
  (hd:∀ys H,ys.length=xs.length->Pv xs.length ys H->∀p,H p=none->Q (.ref p) (GW H p (.lst ys))):ZI (cE K a) js te σ H Q:=
 cw hn (λi x=>xs[i]? =↑x) Pv c (λi ys H hi p=>#[xs,xs[i],hl _ _ _ p,by simp [hi]]) (λys H p=>#[xs,hl _ _ _ p,Jf _]) (λi ys H x H' _ p y=>#[y.1,y.2 xs (hl _ _ _ p)]) (λi ys H x _ hl p d=>hs i ys H x d hl p) hd
theorem Q9{a:Δ}{xs:Ε}(hn:xs.length<=ζ)(Pv:Nat->Ε->Hp->Prop)(c:Pv 0 [] H)(hl:∀i ys H,Pv i ys H->G9 K H a xs)
  (hs:∀i ys H x,xs[i]? =↑x->ys.length=i->Pv i ys H->te (↑x::Qu js σ) H λv e=>Pv (i+1) (ys++[v]) e)
  (hd:∀ys H,ys.length=xs.length->Pv xs.length ys H->∀p,H p=none->Q (.ref p) (GW H p (.lst ys))):ZI (cV K a) js te σ H Q:=
 cw hn (λi x=>xs[i]? =↑x) Pv c (λi ys H hi p=>#[xs,xs[i],hl _ _ _ p,by simp [hi]]) (λys H p=>#[xs,hl _ _ _ p,Jf _]) (λi ys H x H' _ p y=>#[y.1,y.2 xs (hl _ _ _ p)]) (λi ys H x _ hl p d=>hs i ys H x d hl p) hd
theorem Zn{lo:Int}{n:Nat}(hn:n<=ζ)(Pv:Nat->Ε->Hp->Prop)(a:Pv 0 [] H)
  (hs:∀i ys H,i<n->ys.length=i->Pv i ys H->te (↑(.int (lo+i))::Qu js σ) H λv c=>Pv (i+1) (ys++[v]) c)
  (hd:∀ys H,ys.length=n->Pv n ys H->∀p,H p=none->Q (.ref p) (GW H p (.lst ys))):ZI (i5 lo n) js te σ H Q:=
 cw hn (λi x=>x= .int (lo+i)) Pv a (λi ys H hi p=>hi) (λys H p=>Jf _) (λi ys H x H' _ p y=>y) (λi ys H x hi e p d=>by subst d;exact hs i ys H hi e p) hd
end
end L3
namespace L3
open PySem PySem.Spec PyProof.Rows L2
section
variable{X:Cx}{Oa:GR}{σ:L2.St}{H:Hp}{s:Θ}
theorem pA{h':Ψ}{t':Nat}{ch:Η}{a:Δ}{xs:Ε}{its:Ζ}(I:L2.GX X Oa σ H s)(k:∀b o,b∉ch->s.heap.get? b=↑o->h'.get? b=↑o)(d:∀b∈ch,Qs X Oa H b)
  (ho:∀b∈ch,∃o,h'.get? b=↑o)(ha:s.heap.objs.size<=a)(hz:xs.length<=ζ)(hv:GZ xs its)(l:IsTup h' a its.toArray):L2.GX X Oa σ (GW H a (.tup xs)) {s with heap:=h',toks:=t'}:=by
 have i:H a=none:=I.hok.fresh ha
 have j:∀b o,s.heap.get? b=↑o->b≠a:=λb o e=>Jk (JO (Jj e) ha)
 have h:∀b u,H b=↑u->b∉ch:=λb u e z=>by rw[(d b z).1]at e;cases e
 refine I.step (g':=s.gens) (d':=s.drawn) (ch:=ch) (λb f=>#[(d b f).2.2.2.1,(d b f).2.1,(d b f).2.2.2.2.1,(d b f).2.2.2.2.2]) (λb o _ _ g e _=>k b o g e) (λb o _ _ g e _=>#[o.slots,k b o g e])
  (λb o _ e n=>by rw[qm (j b o e)];exact n) (λb o g e=>#[o,k b o g e]) (λb ys e=>by rw[qm (qo e i)];exact e) (λb o u e=>by rw[qm (qo e i)];exact e)
  (λb ps e=>#[(List.toArray []),by rw[qm (qo e i),e];simp]) (λm p=>?_) (λb u e=>?_) I.bare
 ·obtain⟨o,es,ep,ho,r⟩:=p
  exact#[o,es,ep,k _ o (λz=>(d _ z).2.1 Z) ho,r]
 ·by_cases f:b=a
  ·subst f
   rw[qc]at e;cases e
   exact#[hz,its,hv,l]
  ·rw[qm f]at e
   refine(I.hok b u e).stay (λc v g q=>k c v ?_ q) (λc q=>by rw[qm (qo q i)];exact q) λc ys q=>by rw[qm (qo q i)];exact q
   rcases g with z|z
   ·rw[z];exact h b u e
   ·exact h c _ z
def oC(K:ι)(a:Δ):It:=
 #[λi H=>∃xs x,G0 K H a xs/\xs[i]? =↑x,λi H x H'=>∃p v,H p=none/\x= .ref p/\(∀xs,G0 K H a xs->xs[i]? =↑v)/\H'=GW H p (.tup [.int i,v]),λi H=>∃xs,G0 K H a xs/\xs.length<=i]
theorem jx{P:Ξ}{w:Ω}{K:ι}{B:Ι}{x1}{pos:Pos}(a e it:Δ)(r:e≠it):
  Lh P w K (.Tuple B x1 pos) (oC K a) [e,it] e (λi h=>(∃c,IsEnum h e it i c)/\h.IsListIter it a i) where
 mem:=by simp
 obj:=λi h st b f=>by
  obtain⟨⟨c,g⟩,⟨o,R,N,hd⟩⟩:=st;rcases Jm.mp f with z|z
  ·subst z
   refine#[_,g,λv z=>?_]
   have z':Data.fields _=Data.cell v:=z
   cases z'
  ·rw[Jh.mp z]
   exact#[o,R,λv z=>by rw[hd]at z;cases z]
 keep:=λi h h' st k=>#[let⟨c,g⟩:=st.1;#[c,k e (by simp) _ g],st.2.at λo q=>k it (by simp) o q]
 item:=by
  intro X G J Q N i Oa s σ H E I D st S;subst G J Q;obtain⟨xs,x,C,O⟩:=S;obtain⟨its,L,p,hz⟩:=I.list C;obtain⟨u,hu,ru⟩:=L.get O;obtain⟨⟨c,g⟩,j⟩:=st;refine wpAny_pyNext_enum_item g j p.isList (x:=u) (by simpa using hu) r λh' R l W a0 hk=>#[_,Z,?_]
  refine wpAny_letOwnedTupleGo_enum R λM m d=>?_
  have n:e<s.heap.objs.size:=Jj g
  have A:it<s.heap.objs.size:=by obtain⟨_,y,_⟩:=j;exact Jj y
  refine#[.ref s.heap.objs.size,GW H s.heap.objs.size (.tup [.int i,x]),?_,Z,#[_,x,I.hok.fresh (Jf _),Z,λys hy=>by rw[I.list_inj hy C];exact O,Z],#[#[_,by simpa using m],?_],?_]
  ·show L2.GX X Oa σ _ {s with heap:=M,toks:=s.toks+1}
   refine pA (s:=s) (its:=[.int i s.toks,u]) I (ch:=[e,it]) (λb o f q=>?_) D (λb f=>?_) (Jf _) (by show 2<=ζ;decide) (.cons #[_,Z] (.cons ru .nil)) ?_
   ·have t:b≠e:=λz=>f (by simp [z])
    have F:b≠it:=λz=>f (by simp [z])
    exact(d.2 b t).trans (hk b o t F q)
   ·rcases Jm.mp f with z|z
    ·subst z;exact#[_,m]
    ·rw[Jh.mp z]
     obtain⟨o,y,_⟩:=l
     exact#[o,(d.2 it (Ne.symm r)).trans y]
   ·exact#[_,(d.2 _ (EV n)).trans W,Z,_,Z]
  ·exact l.extBut d.extBut (Ne.symm r)
  ·intro b f
   rw[qm]
   ·exact(D b f).1
   ·rcases Jm.mp f with z|z
    ·subst z;exact Jk n
    ·rw[Jh.mp z];exact Jk A
 done:=by
  intro X G J Q N i Oa s σ H E I D st S;subst G J Q;obtain⟨xs,C,O⟩:=S;obtain⟨its,L,p,hz⟩:=I.list C;obtain⟨⟨c,g⟩,j⟩:=st;obtain⟨f0,f1,f2,U,Y,f5⟩:=D it (by simp)
  have hl:=L.length;exact wpAny_pyNext_enum_end (I.ok.hd N) g j p.isList (by simp;lia) λh' T=>#[Z,I.turned (t':=s.toks) (λb o f e=>T b o f e) f0 f1 U Y f5]
 self:=λ_ _ _ _ _ st h=>by
  obtain⟨⟨c,g⟩,_⟩:=st;exact F8 g h
def yP(K:ι)(ta:TA):TI:=λσ H R=>ta σ H λvs H1=>∃a,vs=[.ref a]/\(∃xs,G0 K H1 a xs)/\R (oC K a) H1
theorem Bw{a:Φ}{ta:TA}{p pos:Pos}{f:Ι}{x1}{d:Pos}(hg:Gl X "enumerate")(hm:X.mg "enumerate"=none)(ha:PA X [a] ta)(hs:θ [a] X.env=[(false,eval a X.env)]:=by rfl):
  PI X (.Tuple f x1 d) (.Call (.Name "enumerate" p) [a] [] pos) (yP X.K ta):=by
 intro Oa s σ H R I h;refine Call_ (ZT I hg hm boot_enumerate (FQ (qz (ha pos Oa s σ H _ I h) λC c o=>?_) hs Z))
 obtain⟨vs,H1,i,v,x⟩:=o;obtain⟨l,e,⟨xs,n⟩,q⟩:=x;subst e;obtain⟨u,rfl,y⟩:=v.one;cases y;obtain⟨r,B,pl,D⟩:=i.list n;refine call_enumerate_list pl.isList λh' m j A hk=>F8 m ?_
 have t:L2.GX X Oa σ H1 {c with heap:=h'}:=i.kept (t':=c.toks) hk
 refine#[c.heap.objs.size+1,[c.heap.objs.size+1,c.heap.objs.size],_,_,H1,Z,t,jx l _ _ (EV (E2 _)),#[#[_,m],j],λb w=>?_,q]
 have g:c.heap.objs.size<=b:=by
  rcases Jm.mp w with z|z
  ·rw[z];exact Fk _
  ·rw[Jh.mp z];exact Jf _
 exact i.fpOk g (i.hok.fresh g)
theorem kL{K:ι}{a:Δ}{xs:Ε}{g:TG}{tb:TS}{D:HY}{σ:L2.St}{H:Hp}(Pv:Nat->L2.St->Hp->Prop)(l:Pv 0 σ H)(hl:∀i σ H,i<=xs.length->Pv i σ H->G0 K H a xs)
  (hs:∀i x σ H p,xs[i]? =↑x->Pv i σ H->H p=none->g (.ref p) σ (GW H p (.tup [.int i,x])) λd h=>tb {D with nx:=Pv (i+1),ct:=Pv (i+1),bk:=D.nx} d h)(hd:∀σ H,Pv xs.length σ H->D.nx σ H):
  ∃W:Nat->Nat->L2.St->Hp->Prop,(∃m,W 0 m σ H)/\∀i m σ H,W i m σ H->
   ((oC K a).stop i H/\D.nx σ H)\/((oC K a).go i H/\∃N:L2.St->Hp->Prop,(∀c H',N c H'->∃j,j<m/\W (i+1) j c H')/\∀x H',(oC K a).yld i H x H'->g x σ H' λd h=>tb {D with nx:=N,ct:=N,bk:=D.nx} d h):=by
 refine#[λi m σ H=>m=xs.length-i/\i<=xs.length/\Pv i σ H,#[xs.length,by simp,Jy _,l],?_]
 rintro i m σ H ⟨rfl,hi,p⟩
 have q:=hl i σ H hi p
 by_cases f:i<xs.length
 ·refine .inr #[#[xs,xs[i],q,by simp [f]],Pv (i+1),λc H' n=>#[xs.length-(i+1),by lia,Z,f,n],λx H' y=>?_]
  obtain⟨s,v,r,rfl,o,rfl⟩:=y;exact hs i v σ H s (o xs q) p r
 ·have e:i=xs.length:=by lia
  subst e;exact .inl #[#[xs,q,Jf _],hd σ H p]
end
def aD(t c:String):Bool:=t==c||(t=="bool"&&c=="int")
abbrev ie:List String:=["NoneType","bool","int","str","list","tuple"]
abbrev kH:List String:=["bool","int","str","list","tuple"]
theorem pJ(K:ι):∀t∈ie,∀c∈kH,W.kitOne K (.type t) (.type c)=↑(aD t c):=by
 intro t d c a;simp only[ie,kH,Jm,JE,JF]at d a;rcases d with rfl|rfl|rfl|rfl|rfl|rfl<;>rcases a with rfl|rfl|rfl|rfl|rfl<;>kernel_rfl
section
variable{X:Cx}
theorem fZ:zi X (.builtin "isinstance") (λxs H Q=>∃x c t,xs=[x,.ty c]/\I0 X.K H x (.type t)/\t∈ie/\c∈kH/\Q (.bl (aD t c)) H):=by
 intro Oa s σ H xs g Q I r h;obtain⟨x,c,t,rfl,ty,d,f,q⟩:=h;obtain⟨u,v,rfl,e,a⟩:=j6 r
 cases(show v=Γ.type c from a)
 exact vC I e ty (pJ X.K t d c f) λtk=>#[.bl _,H,I.tok tk,Z,q]
theorem k9:∀{bs:Χ} {us:Ζ},GZ (bs.map V.bl) us->us=bs.map Γ.bool
 | [],_,.nil=>rfl
 |b::bs,_,.cons r t=>by
  cases(show _=Γ.bool b from r)
  rw[k9 t];rfl
theorem rp(bs:Χ):((List.range bs.length).all λi=>(bs[i]?).getD true)=bs.all id:=by
 rw[Fb,FC,FC];constructor
 ·intro h b c
  obtain⟨i,hi,e⟩:=List.mem_iff_getElem.mp c
  have:=h i (J1.mpr hi)
  rw[Jg hi,Fn,e]at this;exact this
 ·intro h i hi
  have a:=J1.mp hi;rw[Jg a,Fn];exact h _ (Fi a)
theorem eP(hc:X.calm=true):zi X (.builtin "all") (λxs H Q=>∃(p:Δ) (bs:Χ),xs=[.ref p]/\G0 X.K H p (bs.map V.bl)/\Q (.bl (bs.all id)) H):=by
 intro Oa s σ H xs y Q I r h;obtain⟨p,bs,rfl,j,q⟩:=h;obtain⟨u,rfl,w⟩:=zM r;cases w;obtain⟨c,m,pl,x⟩:=I.list j;have e:=k9 m;have f:=pl.isList;have d:p<s.heap.objs.size:=by obtain⟨_,e,_⟩:=f;exact Jj e
 refine call_all_walk (FO f ?_)
 refine#[s.heap.objs.size,[s.heap.objs.size,p],[s.heap.objs.size],c.toArray.size,_,_,λi=>(bs[i]?).getD true,Z,Walks.list (A:=X.A.in1) (I.ok.hd hc) _ p (Jk d) c.toArray,
  #[#[_,Jq _ Z,Z,Z],f.push _],λi v s' z E' t g=>?_,λh' tk hk=>?_]
 ·have a:c[i]? =↑v:=by simpa using t
  rw[e,Jn]at a;cases eb:bs[i]? with
  |none=>rw[eb]at a;cases a
  |some b=>
   rw[eb]at a
   cases(JA a:Γ.bool b=v)
   simp only[eb,Fn]at g;exact Fj g
 ·have l:((List.range c.toArray.size).all λi=>(bs[i]?).getD true)=bs.all id:=by
   rw[Jr,e,Je];exact rp bs
  rw[l];refine#[.bl _,H,I.kept (h':=h') (t':=tk) λb o q=>hk b o (λn=>?_) (Jl _ q),Z,q]
  rw[Jh.mp n]at q;exact EU _ (Jj q)
theorem nv:zt X (compareOp .IsNot) (λx y H Q=>∃a b,x= .bl a/\y= .bl b/\Q (.bl (! decide (a=b))) H):=by
 intro Oa s σ H x y v u Q I d c h;obtain⟨a,b,rfl,rfl,q⟩:=h
 cases(show v=Γ.bool a from d)
 cases(show u=Γ.bool b from c)
 refine wpAny_isNot_plain Z #[.bl _,H,I,?_,q]
 cases a<;>cases b<;>rfl
theorem i0:zi X (.type "range") (λxs H Q=>∃j:Int,xs=[.int j]/\∀p,H p=none->Q (.ref p) (GW H p (.rng 0 j))):=by
 intro Oa s σ H xs c Q I r h;obtain⟨j,rfl,q⟩:=h;obtain⟨u,rfl,a⟩:=zM r;obtain⟨t,rfl⟩:=a;refine call_range_1 #[.ref s.heap.objs.size,_,I.laid (o:= .rng 0 j) (λb o e=>Jl _ e) (Jf _) #[_,_,_,Jq _ Z],Z,q _ (I.hok.fresh (Jf _))]
theorem ra(hc:X.calm=true):zi X (.type "list") (λxs H Q=>∃(p:Δ) (j:Nat),xs=[.ref p]/\H p=↑(.rng 0 (j:Int))/\j<=2 ^ 24/\∀l,H l=none->Q (.ref l) (GW H l (.lst ((List.range j).map λi=>V.int (i:Nat))))):=by
 intro Oa s σ H xs d Q I r h;obtain⟨p,j,rfl,A,y,q⟩:=h;obtain⟨u,rfl,z⟩:=zM r;cases z;obtain⟨t,u,v,e⟩:=I.hok p _ A;refine call_list_range (n:=j) (I.ok.hd hc) (show IsRange s.heap p 0 (j:Int) 1 t u v from e) (small_one (by lia) (by lia) (by lia) (by lia)) (by rw[rangeSize_one];split<;>lia) y λh' tk a c' hk o c=>?_
 refine#[.ref s.heap.objs.size,_,I.laid (h':=h') (t':=tk) hk (Jf _) ?_,Z,q _ (I.hok.fresh (Jf _))]
 have w:∀(d:Ζ) (n k:Nat),d.length=n->(∀i v,d[i]? =↑v->∃t,v=Γ.int ((k+i:Nat):Int) t)->GZ ((List.range' k n).map λi=>V.int (i:Nat)) d:=by
  intro d
  induction d with
  |nil=>intro n k m _;cases m;exact .nil
  |cons u d ih=>
   intro n k m x;cases n with
   |zero=>cases m
   |succ n=>
    rw[List.range'_succ,JS];obtain⟨t,f⟩:=x 0 u Z;refine .cons #[t,by simpa using f] (ih n (k+1) (by simpa using m) λi v hi=>?_)
    obtain⟨t,f⟩:=x (i+1) v hi
    exact#[t,by rw[f];congr 1;lia]
 have g:GZ ((List.range j).map λi=>V.int (i:Nat)) a.toList:=by
  rw[List.range_eq_range'];refine w _ _ 0 (by rw[Jp];exact c.1) λi v hi=>?_
  obtain⟨t,f⟩:=c.2 i v (by rw[<- Array.getElem?_toList];exact hi)
  exact#[t,by rw[f];congr 1;lia]
 exact#[by simp only[Je,List.length_range];exact JG y (by rw[Ju];decide),a.toList,c',g,o]
inductive NO (x:V) (lo:Λ) (hi:Λ) (H:Hp) (Q:VK):Prop
 |mk (a:_) (xs:_) (h1:x= .ref a) (h2:H a=↑(.tup xs)) (h3:∀p H',GS H H'->H' p=↑(.tup (Qb xs lo hi))->(p=a\/H p=none)->Q (.ref p) H')
def Ez:V->Λ->Λ->Hp->VK->Prop:=λx lo hi H Q=>NO x lo hi H Q
theorem cK{prog:Ξ}{w:Ω}{A:Around}{E:GP}{s:Θ}{t e:Δ}{items:Array Γ}{g i:Γ}{lo hi:Λ}{Q:GP}(a:IsTup s.heap t items)(hs:s.heap.IsSliceOf e g i .none)(pl:IsPart g lo)(l:IsPart i hi)
  (hw:HT.sIx items.size 0 lo=0/\HT.sIx items.size items.size hi=items.size)(h:Q (.ref t) s):ε (model prog w) A (getItem (.ref t) (.ref e)) Q E s:=by
 obtain⟨j,d,f,n⟩:=id hs;have c:s.TypeIs (.ref e) "slice":=#[j,d,f]
 unfold getItem
 try with_reducible refine JI ?_
 first|refine Ja (Jd ?_)|skip
 refine Ja (wpAny_sequenceKey a.typeIs ⋯ ?_)
 refine Ja (wpAny_callSpecial?_slot (name:=Str.ofString "__getitem__") a.typeIs Gh
  (J5 Gh a.typeIs entry_tuple_getitem ?_ (args_tuple_getitem _ _)))
 show ε _ _ (γ.Tuple.tupleItemsOf (.ref t) >>= _) _ _ s
 refine Ja (tupleItemsOf_ a ?_)
 refine Ja (FR c ?_)
 rw[Jc ⋯]
 refine Ja (HT.sliceApplied_gen hs pl l ?_)
 show ε _ _ (if(((HT.sIx items.size 0 lo:Nat):Int)==0&&(1:Int)==1&&(HT.sIx items.size items.size hi-HT.sIx items.size 0 lo)==items.size)=true then _ else _) _ _ s
 rw[hw.1,hw.2,Jc (by simp)]
 refine Ja (m:=γ.Tuple.tupleIsExact _) ?_
 unfold γ.Tuple.tupleIsExact;refine Ja (FR a.typeIs (Jd ?_))
 rw[Jc (by rfl)]
 exact Ja (E7 (Jd #[_,Z,Jd h]))
theorem fk:vA X Ez:=by
 intro Oa s σ H x v u w lo hi t Q I j m pl i h;obtain⟨a,xs,rfl,g,q⟩:=h
 by_cases d:HT.sIx xs.length 0 lo=0/\HT.sIx xs.length xs.length hi=xs.length
 ·cases j
  obtain⟨f,r,l,y⟩:=I.tuple (G9.of g)
  have c:f.toArray.size=xs.length:=by rw[Jr];exact r.length.symm
  refine#["tuple",_,PyProof.Rows.slot_tuple_getitem.lookup,l.typeIs,?_]
  refine cK l m pl i (by rw[c];exact d) #[.ref a,H,I,Z,q a H (GS.refl H) ?_ (.inl Z)]
  have:Qb xs lo hi=xs:=by unfold Qb;rw[d.1,d.2];simp
  rw[this];exact g
 ·exact Cj Oa s σ H _ v u w lo hi t Q I j m pl i #[a,xs,Z,G9.of g,d,λp n=>q p _ (λb o e=>by rw[qm (qo e n)];exact e) qc (.inr n)]
inductive Nt (x:V) (y:V) (H:Hp) (Q:VK):Prop
 |mk (a:_) (b:_) (xs:_) (ys:_) (h1:x= .ref a) (h2:y= .ref b) (h3:H a=↑(.tup xs)) (h4:H b=↑(.tup ys)) (h5:xs.length+ys.length<=ζ) (h6:∀p H',GS H H'->H' p=↑(.tup (xs++ys))->Q (.ref p) H')
def DH:R2:=λx y H Q=>Nt x y H Q
theorem Z9:zt X (binaryOp .Add) DH:=by
 intro Oa s σ H x y v u Q I z t h;obtain⟨a,b,xs,ys,rfl,rfl,m,j,N,q⟩:=h
 by_cases B:xs=[]
 ·subst B
  cases z;cases t;obtain⟨G,M,L,_⟩:=I.tuple (G9.of m)
  obtain⟨d,R,p2,_⟩:=I.tuple (G9.of j)
  cases M;obtain⟨⟨J,P,D,O⟩,C,A,n,w⟩:=id L;obtain⟨⟨E,l,i,r⟩,c,g,K,f⟩:=id p2;simp only at A w g f
  subst A w g f;exact concat_meets #[_,C,Z] #[_,c,Z] noFill_tuple_add seq_tuple_add Gx Gy (Gz _ _)
   (tuple_addW0 a b _ d.toArray n K P l O r (by simp)) #[C,c,#[.ref b,H,I,Z,q b H (GS.refl H) j]]
 ·refine Bu Oa s σ H _ _ v u Q I z t #[a,b,xs,ys,Z,Z,G9.of m,G9.of j,B,N,λe=>q a H (GS.refl H) (by subst e;simpa using m),λ_ p F=>q p _ (λb o e=>by rw[qm (qo e F)];exact e) qc]
theorem fv{ns:Β}{us:Ζ}(r:GZ (ns.map V.int) us)(j:Nat)(h:j<us.length)(h':j<ns.length):∃t,us[j]=Γ.int ns[j] t:=by
 obtain⟨u,a,c⟩:=r.get (i:=j) (x:=V.int ns[j]) (by rw[Jn,Jg h'];rfl)
 rw[Jg h]at a;cases a;exact c
theorem xo(ns ms:Β)(h:ns.length=ms.length):((List.range ns.length).all λj=>(ns.getD j 0==ms.getD j 0))=decide (ns=ms):=by
 rw[Fb,FC,F9];constructor
 ·intro q
  refine List.ext_getElem h λi h1 a=>?_
  have:=q i (J1.mpr h1)
  simp only[Jz,Jg h1,Jg a,Fn,JW]at this;exact this
 ·rintro rfl i _
  simp
end
def bz:Φ->Bool
 | .Starred .. =>false
 |_=>true
theorem jh{e:Φ}{es:Ι}{a:Env}(h:bz e=true):θ (e::es) a=(false,eval e a)::θ es a:=by
 cases e<;>first|rfl|cases h
theorem EO{X:Cx}{e:Φ}{es:Ι}{te:TE}{t:TA}(ha:PE X e te)(hr:PA X es t)(h:bz e=true:=by rfl):PA X (e::es) (pY te t):=By ha hr (jh h)
structure Df(P:Ξ)(w:Ω)(K:ι)(mg:GQ)(base:Ψ)(x:Str)(ps:Α)(k:Nat)(sp:Sp):Prop where
 ex:∃(f:Δ) (fd:FuncData),IP P w K mg base aB k f fd ps sp/\mg x=↑(.ref f)/\PySem.W.keepIn K (.ref f)=true/\Iw K fd ps []
structure At(K:ι)(mg:GQ)(x:Str)(st:δ)(ps:Α):Prop where
 ex:∃(f:Δ) (fd:FuncData),LX K x x st f fd/\mg x=↑(.ref f)/\PySem.W.keepIn K (.ref f)=true/\Iw K fd ps []
section
variable{P:Ξ}{w:Ω}{K:ι}{mg:GQ}{base:Ψ}
theorem At.df{x:Str}{st:δ}{ps N:Α}{k:Nat}{sp:Sp}(a:At K mg x st ps)(S:GU N ps (qi st))(len:∀vs H Q E,sp vs H Q E->vs.length=ps.length)
  (d:∀(f:Δ) (cdv:Γ) (A:Around) (c:Υ) (s:Θ) (H:Hp) (vs:Ε) (Q:VK) (E:XK),HB k (A.deeper (envOfC x (qi st) s.heap.objs.size f cdv))->sp vs H Q E->
   ∃t,LB (a9 aB P w K mg base N x (qi st) f cdv A c s H E).nox (zF st) t/\t {nx:=λ_ H'=>Q .non H',rt:=Q} (Q0 N vs) H):Df P w K mg base x ps (k+1) sp:=by
 obtain⟨f,fd,F,m,e,bd⟩:=a.ex
 exact#[f,fd,F.ok S len (λcdv A c s H vs Q E g h=>d f cdv A c s H vs Q E g h),m,e,bd]
end
section
variable{X:Cx}{x:Str}{ps:Α}{k:Nat}{sp:Sp}{e:Φ}{es:Ι}{p pos:Pos}{t:TA}
theorem Dw(D:Df X.prog X.w X.K X.mg X.base x ps k sp)(hr:HB k X.A)(ha:PA X (e::es) t)(hg:Gl X x:=by rfl)(hdb:(x==("__debug__":Str))=false:=by decide)(he:θ (e::es) X.env=(false,eval e X.env)::θ es X.env:=by rfl)(hpl:(backTo pos (θ es X.env)).any (·.1)=false:=by rfl):
  PE X (.Call (.Name x p) (e::es) [] pos) (sU sp [] E0 t):=by
 obtain⟨f,fd,ok,m,a,bd⟩:=D.ex;exact Bt ok hr hg m a bd .nil j0 ha hdb he hpl
end
theorem Zk{X:Cx}{a:Scope}(f:a.kind= .function)(d:∀x∈a.names,x.2= .local->a.names.lookup x.1=some .local)(c:∀x∈a.names,x.2≠ .cell)
  (e:∀x∈a.names,x.2= .free->x.1∈([]:Α)):HP X a [] []:=#[f,d,c,e,Z,λi j y h=>by simp at h]
theorem iu{X:Cx}{a:Scope}{y:Str}{j:Nat}(f:a.kind= .function)(d:∀x∈a.names,x.2= .local->a.names.lookup x.1=some .local)(c:∀x∈a.names,x.2≠ .cell)
  (e:∀x∈a.names,x.2= .free->x.1∈([y]:Α))(h1:X.N[j]? =↑y)(h2:X.env.kindOf y=some .cell)(l:(relabel a X.env).names.lookup y=some .cell):HP X a [y] [j]:=
 #[f,d,c,e,Z,λi m n g h=>by
  cases i with
  |zero=>cases g;cases h;exact#[h1,h2,l]
  |succ i=>simp at g]
theorem gd{X:Cx}{y:Str}{c:Δ}(h:X.env.cells.lookup y=↑c):∀z d,([(y,c)]:List (Str×Δ)).lookup z=↑d->X.env.cells.lookup z=↑d:=λz d e=>by
 by_cases a:z=y
 ·subst a
  simp at e
  rw[<- e];exact h
 ·simp [J7,show(z==y)=false from by simpa using a]at e
theorem Am{X:Cx}{K:ι}(h:X.K=K):MZ X (wv K):=by subst h;exact qO
abbrev rO(n m k:Int):HO:= .lst [.int n,.int m,.int k]
theorem _root_.L2.GS.upd{H:Hp}{p:Δ}{o:HO}(h:H p=none):GS H (GW H p o):=λb u e=>by rw[qm (qo e h)];exact e
theorem vd(c:Bool): -(2 ^ 64:Int)<(if c=true then(1:Int)else 0):=by cases c<;>decide
theorem vq(c:Bool):(if c=true then(1:Int)else 0)<(2 ^ 64:Int):=by cases c<;>decide
theorem pH{n j:Nat}(h:j<n):Z1 n (j:Int)=↑j:=by unfold Z1;rw[Jc (by lia),Jc (by lia)];simp
def aG(ns:Β)(lo hi:Λ):Β:=(ns.drop (HT.sIx ns.length 0 lo)).take (HT.sIx ns.length ns.length hi-HT.sIx ns.length 0 lo)
theorem cp(ns:Β)(lo hi:Λ):Qb (ns.map V.int) lo hi=(aG ns lo hi).map V.int:=by unfold Qb aG;rw[Je,List.map_take,List.map_drop]
theorem Qg{ns:Β}{i:Nat}{x:V}(h:(ns.map V.int)[i]? =↑x):∃z,x= .int z/\ns[i]? =↑z:=by
 rw[Jn]at h;cases e:ns[i]? with
 |none=>rw[e]at h;cases h
 |some z=>rw[e]at h;exact#[z,(JA h).symm,Z]
theorem iF{ns:Β}{i:Nat}(h:i<ns.length):(ns.map V.int)[i]? =↑(.int ns[i]):=by rw[Jn,Jg h];rfl
theorem ca(ns:Β)(i:Nat)(z:Int):(ns.map V.int).set i (.int z)=(ns.set i z).map V.int:=by rw[List.map_set]
def yZ:Option HO->Option String
 |some (.lst _)=>↑"list"
 |some (.tup _)=>↑"tuple"
 |_=>none
def kd(H:Hp):V->Option String
 | .non=>↑"NoneType"
 | .bl _=>↑"bool"
 | .int _=>↑"int"
 | .str _=>↑"str"
 | .ref a=>yZ (H a)
 |_=>none
theorem uy{o:Option HO}{t:String}(h:yZ o=↑t):(∃xs,o=↑(.lst xs)/\t="list")\/(∃xs,o=↑(.tup xs)/\t="tuple"):=by
 cases o with
 |none=>cases h
 |some u=>
  cases u with
  |lst xs=>cases h;exact .inl #[xs,Z,Z]
  |tup xs=>cases h;exact .inr #[xs,Z,Z]
  |_=>cases h
theorem hV{H:Hp}{a:Δ}{t:String}(h:kd H (.ref a)=↑t):(∃xs,H a=↑(.lst xs)/\t="list")\/(∃xs,H a=↑(.tup xs)/\t="tuple"):=uy h
theorem DR{K:ι}{H:Hp}{x:V}{t:String}(h:kd H x=↑t):I0 K H x (.type t)/\t∈ie:=by
 cases x with
 |non=>cases h;exact#[.non,by simp]
 |bl b=>cases h;exact#[.bl b,by simp]
 |int i=>cases h;exact#[.int i,by simp]
 |str x=>cases h;exact#[.str x,by simp]
 |byt b=>cases h
 |flt b=>cases h
 |ty b=>cases h
 |ref a=>
  rcases hV h with⟨xs,e,rfl⟩|⟨xs,e,rfl⟩
  ·exact#[.lst e,by simp]
  ·exact#[.tup e,by simp]
theorem ff{H H':Hp}{x:V}{t:String}(s:GS H H')(h:kd H x=↑t):kd H' x=↑t:=by
 cases x with
 |ref a=>
  rcases hV h with⟨xs,e,rfl⟩|⟨xs,e,rfl⟩
  ·show yZ (H' a)=_;rw[s _ _ e];rfl
  ·show yZ (H' a)=_;rw[s _ _ e];rfl
 |_=>exact h
def cq:V->Bool
 | .int i=>decide (0<=i)&&decide (i<16)
 |_=>false
theorem QK{c:Type}{xs:List c}{r:Int}(d:0<=r)(h1:r<xs.length):∃v,zY xs r=↑v/\v∈xs:=by
 have a:r.toNat<xs.length:=by lia
 refine#[xs[r.toNat],?_,Fi a]
 have e:zY xs ((r.toNat:Nat):Int)=some xs[r.toNat]:=Qp (Jg a)
 rwa [show((r.toNat:Nat):Int)=r by lia]at e
inductive Nu (K:ι) (vs:Ε) (H:Hp) (Q:VK):Prop
 |mk (a:Δ) (ns:Β) (h1:vs=[.ref a]) (h2:G0 K H a (ns.map V.int)) (h3:ns.length<=63) (h4:∀H',Q (.bl true) H')
def jZ(K:ι):Sp:=λvs H Q _=>Nu K vs H Q
inductive Mn (vs:Ε) (H:Hp) (Q:VK):Prop
 |mk (x:_) (t:_) (h1:vs=[x]) (h2:kd H x=↑t) (h3:Q (.bl (cq x)) H)
def oI:Sp:=λvs H Q _=>Mn vs H Q
inductive LY (vs:Ε) (H:Hp) (Q:VK):Prop
 |mk (p:_) (xs:_) (h1:vs=[.ref p]) (h2:H p=↑(.tup xs)) (h3:xs.length<=ζ) (h4:(∀x∈xs,∃t,kd H x=↑t)) (h5:∀H',GS H H'->Q (.bl (xs.all cq)) H')
def mG:Sp:=λvs H Q _=>LY vs H Q
end L3
namespace L3
open PySem PySem.Spec L2
structure QE(X:Cx)(e:Φ)(t:TE):Prop where
 h:PE X e t
structure QT(X:Cx)(e:Φ)(t:TT):Prop where
 h:PT X e t
structure QW(X:Cx)(e:Φ)(t:TT):Prop where
 h:PW X e t
structure QA(X:Cx)(e:Ι)(t:TA):Prop where
 h:PA X e t
structure QS(X:Cx)(e:δ)(t:TS):Prop where
 h:PS X e t
structure Mo(X:Cx)(e:List δ)(t:TS):Prop where
 h:LB X e t
structure QG(X:Cx)(e:Φ)(t:TG):Prop where
 h:PG X e t
structure Nv(X:Cx)(e:Ι)(t:Zx):Prop where
 h:nX X e t
structure QO(X:Cx)(e:ξ)(t:TO):Prop where
 h:PO X e t
structure QI(X:Cx)(tg e:Φ)(t:TI):Prop where
 h:PI X tg e t
variable{X:Cx}
theorem qf{i j pos}:QE X (.Constant (.int i) j pos) (tC (.int i)):=#[Dy]
theorem Z3{b j pos}:QE X (.Constant (.bool b) j pos) (tC (.bl b)):=#[DU]
theorem zd{j pos}:QE X (.Constant .none j pos) (tC .non):=#[BZ]
theorem qB{x j pos}:QE X (.Constant (.str x) j pos) (tC (.str x)):=#[CF]
theorem zj{x:Str}{v:V}{u:Γ}{pos:Pos}(hg:Gl X x)(hm:X.mg x=↑u)(r:G8 v u)(hd:(x==("__debug__":Str))=false:=by decide):QE X (.Name x pos) (tC v):=#[Bl (hg:=hg) (hm:=hm) (r:=r) (hd:=hd)]
theorem aa{x:Str}{v:V}{u:Γ}{pos:Pos}(hg:Gl X x)(hm:X.mg x=none)(hv:bootBuiltins x=↑u)(r:G8 v u)(hn:x≠"__name__":=by decide)(hd:(x==("__debug__":Str))=false:=by decide):QE X (.Name x pos) (tC v):=#[Be (hg:=hg) (hm:=hm) (hv:=hv) (r:=r) (hn:=hn) (hd:=hd)]
theorem qu{a b:Φ}{ta tb:TE}{pos:Pos}{op:Operator}{r:R2}(ho:zt X (binaryOp op) r)(ha:QE X a ta)(hb:QE X b tb):QE X (.BinOp a op b pos) (jf r ta tb):=#[DN (ho:=ho) (ha:=ha.h) (hb:=hb.h)]
theorem bJ{a:Φ}{ta:TE}{pos:Pos}{op:UnaryOp}{r:V->Hp->VK->Prop}(ho:yz X (unaryOp op) r)(ha:QE X a ta):QE X (.UnaryOp op a pos) (D8 r ta):=#[DG (ho:=ho) (ha:=ha.h)]
theorem zR{a b:Φ}{ta tb:TE}{pos:Pos}{op:CmpOp}{r:R2}(ho:zt X (compareOp op) r)(ha:QE X a ta)(hb:QE X b tb)(hm:behindInMarks op b=false):QE X (.Compare a [op] [b] pos) (jf r ta tb):=#[AV (ho:=ho) (ha:=ha.h) (hb:=hb.h) (hm:=hm)]
theorem qE{a b:Φ}{ta tb:TE}{pos:Pos}{op:CmpOp}{r:R2}(ho:zt X (compareOp op) r)(ha:QE X a ta)(hb:QE X b tb)(hm:behindInMarks op b=false):QT X (.Compare a [op] [b] pos) (gy (jf r ta tb)):=#[Br (ho:=ho) (ha:=ha.h) (hb:=hb.h) (hm:=hm)]
theorem fW{a b c:Φ}{ta tb tc:TE}{pos:Pos}{op d:CmpOp}{r e:R2}(ho:zt X (compareOp op) r)(ho':zt X (compareOp d) e)(ha:QE X a ta)(hb:QE X b tb)(hc:QE X c tc)(hm:lastMarks [op,d] [b,c]=false:=by with_unfolding_all rfl):QE X (.Compare a [op,d] [b,c] pos) (hU r e ta tb tc):=#[wL (ho:=ho) (ho':=ho') (ha:=ha.h) (hb:=hb.h) (hc:=hc.h) (hm:=hm)]
theorem j8{a b c:Φ}{ta tb tc:TE}{pos:Pos}{op d:CmpOp}{r e:R2}(ho:zt X (compareOp op) r)(ho':zt X (compareOp d) e)(ha:QE X a ta)(hb:QE X b tb)(hc:QE X c tc)(hm:lastMarks [op,d] [b,c]=false:=by with_unfolding_all rfl):QT X (.Compare a [op,d] [b,c] pos) (gy (hU r e ta tb tc)):=#[v8 (ho:=ho) (ho':=ho') (ha:=ha.h) (hb:=hb.h) (hc:=hc.h) (hm:=hm)]
theorem Zr{a b:Φ}{rest:Ι}{ta tb:TE}{pos:Pos}(ha:QE X a ta)(hb:QE X (.BoolOp .And (b::rest) pos) tb):QE X (.BoolOp .And (a::b::rest) pos) (ym ta tb):=#[Cg (ha:=ha.h) (hb:=hb.h)]
theorem ZR{a:Φ}{pos:Pos}{op}{t:TE}(h:QE X a t):QE X (.BoolOp op [a] pos) t:=#[BY (h:=h.h)]
theorem Cs{a:Φ}{ta:TE}{pos:Pos}(ha:QE X a ta):QE X (.UnaryOp .Not a pos) (yS ta):=#[Du (ha:=ha.h)]
theorem gN{a b:Φ}{rest:Ι}{tA tB':TT}{pos:Pos}(ha:QT X a tA)(hb:QW X (.BoolOp .And (b::rest) pos) tB'):QW X (.BoolOp .And (a::b::rest) pos) (BU tA tB'):=#[Ch (ha:=ha.h) (hb:=hb.h)]
theorem Zt{a b:Φ}{rest:Ι}{tA tB':TT}{pos:Pos}(ha:QT X a tA)(hb:QW X (.BoolOp .Or (b::rest) pos) tB'):QW X (.BoolOp .Or (a::b::rest) pos) (Ed tA tB'):=#[DK (ha:=ha.h) (hb:=hb.h)]
theorem fq{a:Φ}{tA:TT}{pos:Pos}(ha:QT X a tA):QW X (.BoolOp .And [a] pos) tA:=#[AD (ha:=ha.h)]
theorem QV{a:Φ}{tA:TT}{pos:Pos}(ha:QT X a tA):QW X (.BoolOp .Or [a] pos) tA:=#[CK (ha:=ha.h)]
theorem Qe{a:Φ}{tA:TT}{pos:Pos}(ha:QT X a tA):QT X (.UnaryOp .Not a pos) (Ct tA):=#[CU (ha:=ha.h)]
theorem Qn{e:Φ}{t:TE}(h:QE X e t)(he:∀a,isTrue e X.env a=(do let v <- a;standAt e.pos;holding [v] (truthy v)):=by intro _;rfl):QT X e (tB t):=#[Cw (h:=h.h) (he:=he)]
theorem ye{a b:Φ}{ta tb:TE}{tA:TT}{pos:Pos}{c:Φ}(hc:QT X c tA)(ha:QE X a ta)(hb:QE X b tb):QE X (.IfExp c a b pos) (Ei tA ta tb):=#[vU (hc:=hc.h) (ha:=ha.h) (hb:=hb.h)]
theorem qd{e:Φ}{es:Ι}{te:TE}{t:TA}(ha:QE X e te)(hr:QA X es t)(h:bz e=true:=by rfl):QA X (e::es) (pY te t):=#[EO (ha:=ha.h) (hr:=hr.h) (h:=h)]
theorem qb:QA X [] w9:=#[BL]
theorem qy{es:Ι}{t:TA}{pos:Pos}{x1}(h:QA X es t):QE X (.Tuple es x1 pos) (Dt t):=#[CV (h:=h.h)]
theorem zo{es:Ι}{t:TA}{pos:Pos}(h:QA X es t):QE X (.List es pos) (B5 t):=#[Dh (h:=h.h)]
theorem qC{a b:Φ}{ta tb:TE}{pos:Pos}{r:R2}(hr:MZ X r)(ha:QE X a ta)(hb:QE X b tb)(hs:oE b:=by exactλ_ _=>rfl):QE X (.Subscript a b pos) (jf r ta tb):=#[DT (hr:=hr) (ha:=ha.h) (hb:=hb.h) (hs:=hs)]
theorem Qh{e:Φ}{te:TE}{lo hi:ξ}{tl th:TO}{pos p2:Pos}{r:V->Λ->Λ->Hp->VK->Prop}(hr:vA X r)(he:QE X e te)(hl:QO X lo tl)(hu:QO X hi th):QE X (.Subscript e (.Slice lo hi none p2) pos) (Ej r te tl th):=#[wm (hr:=hr) (he:=he.h) (hl:=hl.h) (hu:=hu.h)]
theorem QF:QO X none pL:=#[Aw]
theorem QJ{e:Φ}{te:TE}(h:QE X e te):QO X ↑e (y7 te):=#[Bx (h:=h.h)]
theorem qx{x:Str}{p pos:Pos}{e:Φ}{es:Ι}{t:TA}{id:String}{r:Ε->Hp->VK->Prop}(hc:zi X (.builtin id) r)(hm:X.mg x=none)(hv:bootBuiltins x=↑(.builtin id))(ha:QA X (e::es) t)(hg:Gl X x:=by rfl)(hn:x≠"__name__":=by decide)(hdb:(x==("__debug__":Str))=false:=by decide)(he:θ (e::es) X.env=(false,eval e X.env)::θ es X.env:=by rfl)(hpl:(backTo pos (θ es X.env)).any (·.1)=false:=by rfl):QE X (.Call (.Name x p) (e::es) [] pos) (yW r t):=#[wS (hc:=hc) (hg:=hg) (hm:=hm) (hv:=hv) (ha:=ha.h) (hn:=hn) (hdb:=hdb) (he:=he) (hpl:=hpl)]
theorem qH{x:Str}{p pos:Pos}{e:Φ}{es:Ι}{t:TA}{T:String}{r:Ε->Hp->VK->Prop}(hc:zi X (.type T) r)(hm:X.mg x=none)(hv:bootBuiltins x=↑(.type T))(ha:QA X (e::es) t)(hg:Gl X x:=by rfl)(hn:x≠"__name__":=by decide)(hdb:(x==("__debug__":Str))=false:=by decide)(he:θ (e::es) X.env=(false,eval e X.env)::θ es X.env:=by rfl)(hpl:(backTo pos (θ es X.env)).any (·.1)=false:=by rfl):QE X (.Call (.Name x p) (e::es) [] pos) (yW r t):=#[vy (hc:=hc) (hg:=hg) (hm:=hm) (hv:=hv) (ha:=ha.h) (hn:=hn) (hdb:=hdb) (he:=he) (hpl:=hpl)]
theorem qp{x:Str}{ps:Α}{k:Nat}{sp:Sp}{e:Φ}{es:Ι}{p pos:Pos}{t:TA}(D:Df X.prog X.w X.K X.mg X.base x ps k sp)(hr:HB k X.A)(ha:QA X (e::es) t)(hg:Gl X x:=by rfl)(hdb:(x==("__debug__":Str))=false:=by decide)(he:θ (e::es) X.env=(false,eval e X.env)::θ es X.env:=by rfl)(hpl:(backTo pos (θ es X.env)).any (·.1)=false:=by rfl):QE X (.Call (.Name x p) (e::es) [] pos) (sU sp [] E0 t):=#[Dw (D:=D) (hr:=hr) (ha:=ha.h) (hg:=hg) (hdb:=hdb) (he:=he) (hpl:=hpl)]
theorem qF:Mo X [] Aa:=#[Bp]
theorem qe{st:δ}{rest:List δ}{t u:TS}(h1:QS X st t)(h2:Mo X rest u):Mo X (st::rest) (cT t u):=#[yg (h1:=h1.h) (h2:=h2.h)]
theorem qg{st:δ}{t:TS}(h1:QS X st t):Mo X [st] t:=#[Ah (h1:=h1.h)]
theorem qw{pos:Pos}{i:Nat}{x:Str}{e:Φ}{te:TE}{pos':Pos}(hN:X.N.Nodup)(hi:X.N[i]? =↑x)(hx:cH X.env.scope x)(he:QE X e te)(hs:swapsWith e ↑(.Name x pos') pos.line X.env=pure false:=by rfl)(hf:X.fn x=true\/X.env.scope.names.lookup x=some .local:=by first|exact .inl Z|exact .inr Z|assumption):QS X (.Assign [.Name x pos'] e pos) (aY te (Qa i)):=#[Cr (hN:=hN) (hi:=hi) (hx:=hx) (he:=he.h) (hs:=hs) (hf:=hf)]
theorem q9{pos:Pos}{tg e:Φ}{te:TE}{g:TG}(he:QE X e te)(hg:QG X tg g)(hs:swapsWithSole [tg] e pos.line X.env=pure false:=by rfl)(hw:swappedStores [tg] e X.env=pure none:=by rfl)(h1:(assignEach [tg] X.env).map (·.2)=[assign tg X.env]:=by rfl):QS X (.Assign [tg] e pos) (aY te g):=#[BM (he:=he.h) (hg:=hg.h) (hs:=hs) (hw:=hw) (h1:=h1)]
theorem qr{e:Φ}{te:TE}{pos:Pos}(he:QE X e te):QS X (.Return ↑e pos) (Cu te):=#[Cd (he:=he.h)]
theorem qK{t u:TS}{pos:Pos}{c:Φ}{a b:List δ}{tc:TT}(hc:QT X c tc)(ha:Mo X a t)(hb:Mo X b u):QS X (.If c a b pos) (B1 tc t u):=#[DI (hc:=hc.h) (ha:=ha.h) (hb:=hb.h)]
theorem zn{tg:Φ}{a:Φ}{c:List δ}{d:TI}{g:TG}{tb:TS}{pos:Pos}(hp:PassesOwn (model X.prog X.w) X.A X.env X.xe)(hc:X.calm=true)(hi:QI X tg a d)(hg:QG X tg g)(hb:Mo X c tb)(hs:∀x,foldedSetIterable a X.env x=pure x:=by intro _;rfl):QS X (.For tg a c [] pos) (xg d g tb):=#[B9 (hp:=hp) (hc:=hc) (hi:=hi.h) (hg:=hg.h) (hb:=hb.h) (hs:=hs)]
theorem zm{e:Φ}{te:TE}{pos:Pos}(he:QE X e te)(hs:swapsWith e none pos.line X.env=pure false:=by rfl):QS X (.Expr e pos) (yV te):=#[AK (he:=he.h) (hs:=hs)]
theorem Bv{pos:Pos}{o i e:Φ}{to l te:TE}{d:V->V->Hp->VK->Prop}{f:vp}{c:fV}{op:Operator}{g:Pos}(ho:QE X o to)(hi:QE X i l)(hg:xf X d)(he:QE X e te)(hp:CL X op f)(hs:me X c)(ha:∀h j a,augStore i h j a=(do holding [a,h,j] (setItem h j a);release [a,h,j] [];pure .next):=by intros;rfl):QS X (.AugAssign (.Subscript o i g) op e pos) (Ag to l te d f c):=#[Bn (ho:=ho.h) (hi:=hi.h) (hg:=hg) (he:=he.h) (hp:=hp) (hs:=hs) (ha:=ha)]
theorem zN{tg:Φ}{l:Φ}{tl:TE}(hl:QE X l tl):QI X tg l (rH X.K tl):=#[Bo (hl:=hl.h)]
theorem Zv{tg:Φ}{l:Φ}{tl:TE}(hl:QE X l tl):QI X tg l (Cz X.K tl):=#[C4 (hl:=hl.h)]
theorem zC{tg:Φ}{a:Φ}{ta:TA}{p pos:Pos}(hg:Gl X "range")(hm:X.mg "range"=none)(ha:QA X [a] ta)(hs:θ [a] X.env=[(false,eval a X.env)]:=by rfl):QI X tg (.Call (.Name "range" p) [a] [] pos) (y9 ta):=#[uU (hg:=hg) (hm:=hm) (ha:=ha.h) (hs:=hs)]
theorem jv{tg:Φ}{a b:Φ}{ta:TA}{p pos:Pos}(hg:Gl X "range")(hm:X.mg "range"=none)(ha:QA X [a,b] ta)(hs:θ [a,b] X.env=[(false,eval a X.env),(false,eval b X.env)]:=by rfl)(hs2:θ [b] X.env=[(false,eval b X.env)]:=by rfl):QI X tg (.Call (.Name "range" p) [a,b] [] pos) (yl ta):=#[tI (hg:=hg) (hm:=hm) (ha:=ha.h) (hs:=hs) (hs2:=hs2)]
theorem Bi{a:Φ}{ta:TA}{p pos:Pos}{c:Ι}{x1}{d:Pos}(hg:Gl X "enumerate")(hm:X.mg "enumerate"=none)(ha:QA X [a] ta)(hs:θ [a] X.env=[(false,eval a X.env)]:=by rfl):QI X (.Tuple c x1 d) (.Call (.Name "enumerate" p) [a] [] pos) (yP X.K ta):=#[Bw (hg:=hg) (hm:=hm) (ha:=ha.h) (hs:=hs)]
theorem qh{pos:Pos}{i:Nat}{x:Str}(hN:X.N.Nodup)(hi:X.N[i]? =↑x)(hx:cH X.env.scope x)(hf:X.fn x=true\/X.env.scope.names.lookup x=some .local:=by first|exact .inl Z|exact .inr Z|assumption):QG X (.Name x pos) (Qa i):=#[AF (hN:=hN) (hi:=hi) (hx:=hx) (hf:=hf)]
theorem gT{pos:Pos}{es:Ι}{k:Nat}{t:Zx}{n:Nat}(hc:X.calm=true)(h:Nv X es t)(hn:(assignEach es X.env).length=n:=by rfl)(hst:(assignEach es X.env).findIdx? (·.1)=none:=by rfl):QG X (.Tuple es k pos) (yj X.K n t):=#[kQ (hc:=hc) (h:=h.h) (hn:=hn) (hst:=hst)]
theorem bD{pos:Pos}{o i:Φ}{to d:TE}{t:fV}(ho:QE X o to)(hi:QE X i d)(hs:me X t)(ha:∀v,assign (.Subscript o i pos) X.env v=(do
      let a <- holding [v] (eval o X.env)
      let c <- holding [v,a] (eval i X.env)
      standAt pos
      holding [v,a,c] (setItem a c v)
      release [v,a,c] []):=by intro _;rfl):QG X (.Subscript o i pos) (B6 to d t):=#[Dv (ho:=ho.h) (hi:=hi.h) (hs:=hs) (ha:=ha)]
theorem qM:Nv X [] xz:=#[BA]
theorem ql{e:Φ}{es:Ι}{t:TG}{u:Zx}(h1:QG X e t)(h2:Nv X es u)(hs:(assignEach (e::es) X.env).map (·.2)=assign e X.env::(assignEach es X.env).map (·.2):=by rfl):Nv X (e::es) (j4 t u):=#[vX (h1:=h1.h) (h2:=h2.h) (hs:=hs)]
theorem QW.pt{e:Φ}{t:TT}(h:QW X e t):QT X e t:=#[PW.pt h.h]
theorem qv(i:Nat){x:Str}{pos:Pos}(hN:X.N[i]? =↑x:=by rfl)(hv:Dl X.env.scope x:=by first|exact Or.inl Z|exact Or.inr (Or.inl Z)|exact Or.inr (Or.inr Z))(hd:(x==("__debug__":Str))=false:=by decide)
  (a:(x==("__classdict__":Str))=false:=by decide):QE X (.Name x pos) (Cp i):=#[CB hN hv hd a]
theorem zB{f tg d:Φ}{a:Scope}{h:List (Str×Δ)}{pos:Pos}{fr own:Α}{js:Κ}{l:TI}{g:TG}{te:TE}
  (hc:X.calm=true)(hi:QI X tg d l)(e:closureFor a X.env=pure h)(i:∀y c,h.lookup y=↑c->X.env.cells.lookup y=↑c)(j:h.map (·.1)=fr)
  (S:HP X a fr js)
  (hg:∀C s H fp,QG (zb X (own++fr) a h C s H fp) tg g)(he:∀C s H fp,QE (zb X (own++fr) a h C s H fp) f te)
  (hs:∀x,foldedSetIterable d X.env x=pure x:=by intro _;rfl):
  QE X (.ListComp f [#[tg,d,[],0]] a pos) (aQ own.length js l g te):=#[Ao hc hi.h e i j S (λC s H fp=>(hg C s H fp).h) (λC s H fp=>(he C s H fp).h) hs]
theorem Z8{h tg d:Φ}{a:Scope}{j:List (Str×Δ)}{pos e p:Pos}{fr own:Α}{js:Κ}{q:TI}{g:TG}{te:TE}{i:Nat}{y:Str}
  (hN:X.N.Nodup)(l:X.N[i]? =↑y)(hx:cH X.env.scope y)
  (hc:X.calm=true)(hi:QI X tg d q)(f:closureFor a X.env=pure j)(m:∀y c,j.lookup y=↑c->X.env.cells.lookup y=↑c)(n:j.map (·.1)=fr)
  (S:HP X a fr js)
  (hg:∀C s H fp,QG (zb X (own++fr) a j C s H fp) tg g)(he:∀C s H fp,QE (zb X (own++fr) a j C s H fp) h te)
  (hs:∀x,foldedSetIterable d X.env x=pure x:=by intro _;rfl)(o:swapsWith (.ListComp h [#[tg,d,[],0]] a pos) ↑(.Name y p) e.line X.env=pure true:=by rfl)
  (hf:X.fn y=true\/X.env.scope.names.lookup y=some .local:=by first|exact .inl Z|exact .inr Z|assumption):
  QS X (.Assign [.Name y p] (.ListComp h [#[tg,d,[],0]] a pos) e) (aY (aQ own.length js q g te) (Qa i)):=#[An hN l hx hc hi.h f m n S (λC s H fp=>(hg C s H fp).h) (λC s H fp=>(he C s H fp).h) hs o hf]
section
variable{P:Ξ}{w:Ω}{K:ι}{mg:GQ}{base:Ψ}
theorem At.dq{x:Str}{st:δ}{ps N:Α}{k:Nat}{sp:Sp}(a:At K mg x st ps)(S:GU N ps (qi st))
  (d:∀(f:Δ) (cdv:Γ) (A:Around) (c:Υ) (s:Θ) (H:Hp) (vs:Ε) (Q:VK) (E:XK),HB k (A.deeper (PyProof.Rows.envOfC x (qi st) s.heap.objs.size f cdv))->sp vs H Q E->
   ∃t,Mo (a9 aB P w K mg base N x (qi st) f cdv A c s H E).nox (zF st) t/\t {nx:=λ_ H'=>Q .non H',rt:=Q} (Q0 N vs) H)(len:∀vs H Q E,sp vs H Q E->vs.length=ps.length:=by intro vs H Q E h;first|(cases h;subst_vars;rfl)|((repeat first|obtain⟨rfl,h⟩:=h|obtain⟨_,h⟩:=h);all_goals rfl)):Df P w K mg base x ps (k+1) sp:=
 a.df S len λf cdv A c s H vs Q E e h=>let⟨t,q1,q2⟩:=d f cdv A c s H vs Q E e h;#[t,q1.h,q2]
theorem _root_.L2.LX.dq{x Ob:Str}{st:δ}{f:Δ}{fd:FuncData}{N ps:Α}{k:Nat}{sp:Sp}(F:LX K x Ob st f fd)(S:GU N ps (qi st))(len:∀vs H Q E,sp vs H Q E->vs.length=ps.length)
  (c:∀(cdv:Γ) (A:Around) (a:Υ) (s:Θ) (H:Hp) (vs:Ε) (Q:VK) (E:XK),HB k (A.deeper (PyProof.Rows.envOfC Ob (qi st) s.heap.objs.size f cdv))->sp vs H Q E->
   ∃t,Mo (a9 aB P w K mg base N Ob (qi st) f cdv A a s H E).nox (zF st) t/\t {nx:=λ_ H'=>Q .non H',rt:=Q} (Q0 N vs) H):IP P w K mg base aB (k+1) f fd ps sp:=
 F.ok S len λcdv A a s H vs Q E d h=>let⟨t,q1,q2⟩:=c cdv A a s H vs Q E d h;#[t,q1.h,q2]
theorem DE{x:Str}{st:δ}{ps:Α}{f:Δ}{fd:FuncData}(F:LX K x x st f fd)(m:mg x=↑(.ref f))(b:Iw K fd ps []):At K mg x st ps:=#[f,fd,F,m,F.kp,b]
end
end L3
namespace L3
open PySem PySem.Spec PyProof.Rows L2
def HW:Β:=(List.range 16).map λi=>((i:Nat):Int)
theorem lU:HW.length=16:=by decide
theorem C5:((List.range 16).map λi=>V.int ((i:Nat):Int))=HW.map V.int:=by decide +kernel
theorem Bs{a:Type}{xs:List a}{z:Int}{j:Nat}{v:a}(e:z=(j:Int))(h:xs[j]? =↑v):zY xs z=↑v:=by rw[e];exact Qp h
theorem iD{n j:Nat}{z:Int}(e:z=(j:Int))(h:j<n):Z1 n z=↑j:=by rw[e];exact pH h
theorem kC{z:Int}(h:z∈HW):0<=z/\z<16:=by
 obtain⟨i,hi,e⟩:=Jt.mp h
 have:=J1.mp hi
 lia
end L3
namespace L3
open PySem PySem.Spec PyProof.Rows L2
open Sem (wp)
section
variable{prog:Ξ}{w:Ω}{A:Around}{E:GP}{s:Θ}
theorem sI{it t:Δ}{i:Nat}{its:Array Γ}{x:Γ}{Q:GP}(a:s.heap.IsTupleIter it t i)(g:s.heap.IsTuple t its)(hx:its[i]? =↑x)
  (h:∀h',h'.IsTupleIter it t (i+1)->Ψ.SameBut it s.heap h'->Q x {s with heap:=h'}):ε (model prog w) A (γ.SmallTypes.nextOf (.ref it)) Q E s:=by
 obtain⟨o,d,j,c⟩:=id a;obtain⟨l,f,_,m,e⟩:=g;unfold γ.SmallTypes.nextOf;refine Ja (wpAny_callSpecial?_slot (name:=Str.ofString "__next__") a.typeIs Gj
  (J5 Gj a.typeIs F.entry_tuple_iterator_next ?_ (F.args_tuple_iterator_next_1 _)))
 show ε _ _ (field (.ref it) 0 >>= _) _ _ s
 refine Ja (E4 d c (x:= .ref t) Z ?_)
 show ε _ _ (if(Γ.ref t==Γ.none)=true then _ else _) _ _ s
 rw[Jb (show¬((Γ.ref t==Γ.none)=true)from JJ)]
 show ε _ _ (field (.ref it) 1 >>= _) _ _ s
 refine Ja (E4 d c (x:= .int i 0) Z ?_)
 show ε _ _ (seqItems? (.ref t) >>= _) _ _ s
 refine Ja (Gk f e ?_)
 simp only[Fe,hx];refine Ja (Ff d c (by simp) (Jd #[x,Z,Jd (h _ ?_ (J8 ..))]))
 exact#[_,FB _ d (Gm (FH c _)),(Obj.cls_mapFields ..).trans j,by
  rw[FH c];simp [rawInt]]
theorem jr{it t:Δ}{i:Nat}{its:Array Γ}{Q:GP}(j:A.handled=none)(c:s.heap.IsTupleIter it t i)(n:s.heap.IsTuple t its)(hx:its[i]? =none)
  (l:∀h' e,Ψ.ExtBut it s.heap h'->(∃o,h'.get? e=↑o/\o.cls= .type "StopIteration")->E (.ref e) {s with heap:=h'}):
  ε (model prog w) A (γ.SmallTypes.nextOf (.ref it)) Q E s:=by
 obtain⟨o,g,r,h⟩:=id c;obtain⟨p,f,_,q,d⟩:=n;unfold γ.SmallTypes.nextOf;refine Ja (wpAny_callSpecial?_slot (name:=Str.ofString "__next__") c.typeIs Gj
  (J5 Gj c.typeIs F.entry_tuple_iterator_next ?_ (F.args_tuple_iterator_next_1 _)))
 show ε _ _ (field (.ref it) 0 >>= _) _ _ s
 refine Ja (E4 g h (x:= .ref t) Z ?_)
 show ε _ _ (if(Γ.ref t==Γ.none)=true then _ else _) _ _ s
 rw[Jb (show¬((Γ.ref t==Γ.none)=true)from JJ)]
 show ε _ _ (field (.ref it) 1 >>= _) _ _ s
 refine Ja (E4 g h (x:= .int i 0) Z ?_)
 show ε _ _ (seqItems? (.ref t) >>= _) _ _ s
 refine Ja (Gk f d ?_)
 simp only[Fe,hx];refine Ja (E7 (Ja (Ff g h (by simp) ?_)))
 show ε _ _ (newExc (.type "StopIteration") [] >>= _) _ _ _
 refine Ja ?_
 simp only[newExc,newTuple];refine Ja (J3 ?_ (by size_fits))
 refine Ja (m:=firstArgMember _ _) (E8 (a:=Γ.none) (by first|rfl|(simp only[firstArgMember];rfl)) ?_)
 refine J3 ?_ (by size_fits)
 simp only[raiseNew];refine Ja (wpAny_handled ?_)
 first|rw[show A.in1.handled=none from j]|rw[j]
 refine Ja (Jd (wpAny_throw ?_))
 exact l _ _ (((J8 ..).extBut.push _).push _) #[_,Jq _ Z,Z]
end
theorem C6{prog:Ξ}{w:Ω}{A:Around}(f:A.handled=none)(it t:Δ)(d:t≠it)(its:Array Γ):
  Draws prog w A it [it,t] its.size (λi v=>its[i]? =↑v) (λi h=>h.IsTupleIter it t i/\h.IsTuple t its) where
 live:=λ_ _ st=>let⟨o,ho,_⟩:=st.1;#[o,ho]
 frame:=λ_ _ _ st hk=>#[st.1.at λo e=>hk it (by simp) o e,let⟨o,e,r⟩:=st.2;#[o,hk t (by simp) o e,r]]
 item:=λi s Q E hi st g=>by
  refine sI st.1 st.2 (x:=its[i]) (by simp [hi]) λh' c a=>?_
  exact g _ h' s.toks (by simp [hi]) #[c,let⟨o,e,r⟩:=st.2;#[o,a.extBut _ _ d e,r]] a
 done:=λs Q E st j=>jr f st.1 st.2 (by simp) j
open AutoSeq1 (wpAny_loadPart')in
theorem nK(l:Δ)(items:Array Γ)(n:Nat)(f:ν)(m:Array Ο):
  Meets (γ.«enumerate.__new__» #[[.type "enumerate",.ref l],[]]) (λ_ R s=>s.heap.get? l=some {cls:= .type "tuple",dict:=f,data:= .seq items n,slots:=m}/\
   R (.ok (.ret (.ref (s.heap.push {cls:= .type "tuple_iterator",data:= .fields (List.toArray [.ref l,.int 0 0])}).objs.size)))
    {s with heap:=(s.heap.push {cls:= .type "tuple_iterator",data:= .fields (List.toArray [.ref l,.int 0 0])}).push {cls:= .type "enumerate",data:= .fields (List.toArray [.none,.bool false,.ref s.heap.objs.size,rawInt 0,.none,.none])}}):=
 .of_wp λprog w A R s h=>by
  obtain⟨o,g,d,tk,j⟩:=s;obtain⟨a,h⟩:=h
  have i:=sub_enumerate;have e:Ψ.IsTuple (Θ.heap #[o,g,d,tk,j]) l items:=#[_,a,Z,n,Z]
  wp_walk using FV a
  refine wpAny_stack_any λst=>Jd ?_
  split
  ·rename_i c _ _ _ _ _
   cases(c==Γ.type "enumerate")
   ·wp_walk using FV a,FP e
    exact#[_,Z,h]
   ·wp_walk using FV a,FP e
    exact#[_,Z,h]
  ·wp_walk using FV a,FP e
   exact#[_,Z,h]
section
variable{prog:Ξ}{w:Ω}{A:Around}{E:GP}{s:Θ}
theorem rB{l:Δ}{items:Array Γ}{Q:GP}(j:s.heap.IsTuple l items)
  (h:∀h',IsEnum h' (s.heap.objs.size+1) s.heap.objs.size 0 .none->h'.IsTupleIter s.heap.objs.size l 0->(∀b o,s.heap.get? b=↑o->h'.get? b=↑o)->Q (.ref (s.heap.objs.size+1)) {s with heap:=h'}):
  ε (model prog w) A (call (.type "enumerate") [.ref l]) Q E s:=by
 obtain⟨⟨c,d,p,q⟩,m,e,n,a⟩:=j
 replace e:c= .type "tuple":=e
 replace a:p= .seq items n:=a
 subst e a;refine callType_new F.called_enumerate ⋯ (F.typeCall_enumerate_1 _) (F.newCall_enumerate_1 _) (λf=>F.args_object_init_2 f _) F.entry_enumerate_new
  (nK l items n d q) #[m,?_]
 have g:(s.heap.push {cls:= .type "tuple_iterator",data:= .fields (List.toArray [.ref l,.int 0 0])}).objs.size=s.heap.objs.size+1:=JX ..
 show _/\_
 rw[g];have i:IsEnum ((s.heap.push {cls:= .type "tuple_iterator",data:= .fields (List.toArray [.ref l,.int 0 0])}).push
   {cls:= .type "enumerate",data:= .fields (List.toArray [.none,.bool false,.ref s.heap.objs.size,rawInt 0,.none,.none])}) (s.heap.objs.size+1) s.heap.objs.size 0 .none:=by
  have:=Jq (s.heap.push {cls:= .type "tuple_iterator",data:= .fields (List.toArray [.ref l,.int 0 0])})
   (o:={cls:= .type "enumerate",data:= .fields (List.toArray [.none,.bool false,.ref s.heap.objs.size,rawInt 0,.none,.none])}) Z
  rw[g]at this;exact this
 exact#[#[_,i,Z],h _ i #[_,Jl _ (Jq _ Z),Z,Z] λb o x=>Jl _ (Jl _ x)]
end
def kq(K:ι)(a:Δ):It:=
 #[λi H=>∃xs x,G9 K H a xs/\xs[i]? =↑x,λi H x H'=>∃p v,H p=none/\x= .ref p/\(∀xs,G9 K H a xs->xs[i]? =↑v)/\H'=GW H p (.tup [.int i,v]),λi H=>∃xs,G9 K H a xs/\xs.length<=i]
theorem rW{P:Ξ}{w:Ω}{K:ι}{M:Ι}{x1}{pos:Pos}(a e it:Δ)(t:e≠it):
  Lh P w K (.Tuple M x1 pos) (kq K a) [e,it] e (λi h=>(∃c,IsEnum h e it i c)/\h.IsTupleIter it a i) where
 mem:=by simp
 obj:=λi h st b r=>by
  obtain⟨⟨c,j⟩,⟨o,l,Q,hd⟩⟩:=st;rcases Jm.mp r with z|z
  ·subst z
   refine#[_,j,λv z=>?_]
   have z':Data.fields _=Data.cell v:=z
   cases z'
  ·rw[Jh.mp z]
   exact#[o,l,λv z=>by rw[hd]at z;cases z]
 keep:=λi h h' st k=>#[let⟨c,j⟩:=st.1;#[c,k e (by simp) _ j],st.2.at λo q=>k it (by simp) o q]
 item:=by
  intro X W U hK Q i Oa s σ H E I R st hg;subst W U hK;obtain⟨xs,x,O,hx⟩:=hg;obtain⟨its,rv,p,hz⟩:=I.tuple O;obtain⟨u,hu,ru⟩:=rv.get hx;obtain⟨⟨c,j⟩,g⟩:=st;have Y:a≠e:=λz=>by
   subst z;obtain⟨o,l,d,_⟩:=p;rw[j]at l;cases l;exact absurd (show Γ.type "enumerate"=Γ.type "tuple" from d) ⋯
  have J:a≠it:=λz=>by
   subst z;obtain⟨o,l,d,_⟩:=p;obtain⟨o',m,n,_⟩:=g;rw[l]at m;cases m;rw[d]at n;exact absurd n ⋯
  have a0:i<its.toArray.size:=by
   have:=(Js.mp hu).1
   simpa using this
  refine wpAny_pyNext_enum_itemD (C6 (A:=X.A.in1) (I.ok.hd Q) it a J its.toArray) j #[g,p] a0 t (by simp [t,Ne.symm Y]) λv h' tk hv l ⟨B,_⟩ ht a3 hk=>#[_,Z,?_]
  have ev:v=u:=by
   have N:its[i]? =↑v:=by simpa using hv
   rw[hu]at N;exact(JA N).symm
  subst ev;refine wpAny_letOwnedTupleGo_enum l λa1 C f=>?_
  have D:e<s.heap.objs.size:=Jj j
  have L:it<s.heap.objs.size:=by obtain⟨_,y,_⟩:=g;exact Jj y
  refine#[.ref s.heap.objs.size,GW H s.heap.objs.size (.tup [.int i,x]),?_,Z,#[_,x,I.hok.fresh (Jf _),Z,λys hy=>by rw[I.tuple_inj hy O];exact hx,Z],#[#[_,by simpa using C],?_],?_]
  ·show L2.GX X Oa σ _ {s with heap:=a1,toks:=tk+1}
   refine pA (s:=s) (its:=[.int i tk,v]) I (ch:=[e,it]) (λb o r q=>?_) R (λb r=>?_) (Jf _) (by show 2<=ζ;decide) (.cons #[_,Z] (.cons ru .nil)) ?_
   ·have G:b≠e:=λz=>r (by simp [z])
    have S:b≠it:=λz=>r (by simp [z])
    exact(f.2 b G).trans (hk b o G S q)
   ·rcases Jm.mp r with z|z
    ·subst z;exact#[_,C]
    ·rw[Jh.mp z]
     obtain⟨o,y,_⟩:=B
     exact#[o,(f.2 it (Ne.symm t)).trans y]
   ·exact#[_,(f.2 _ (EV D)).trans ht,Z,_,Z]
  ·exact B.extBut f.extBut (Ne.symm t)
  ·intro b r
   rw[qm]
   ·exact(R b r).1
   ·rcases Jm.mp r with z|z
    ·subst z;exact Jk D
    ·rw[Jh.mp z];exact Jk L
 done:=by
  intro X W U hK Q i Oa s σ H E I R st hg;subst W U hK;obtain⟨xs,O,hx⟩:=hg;obtain⟨its,rv,p,hz⟩:=I.tuple O;obtain⟨⟨c,j⟩,g⟩:=st;obtain⟨f0,f1,f2,f3,f4,f5⟩:=R it (by simp)
  have hl:=rv.length;have J:a≠it:=λz=>by
   subst z;obtain⟨o,l,d,_⟩:=p;obtain⟨o',m,n,_⟩:=g;rw[l]at m;cases m;rw[d]at n;exact absurd n ⋯
  unfold pyNext;have hT:s.TypeIs (.ref e) "enumerate":=#[_,j,Z]
  refine Ja (FW (wpAny_callSpecial?_slot (name:=Str.ofString "__next__") hT F.slot_enumerate_next
   (J5 F.slot_enumerate_next hT F.entry_enumerate_next ?_ (F.args_enumerate_next_1 _))))
  show ε _ _ (field (.ref e) 2 >>= _) _ _ _
  refine Ja (E4 j Z (x:= .ref it) Z ?_)
  refine Ja (jr (I.ok.hd Q) g p (by simp;lia) λh' ex eb a2=>?_)
  obtain⟨o,l,d⟩:=a2;refine Ja (FI (T:="StopIteration") (b:=true) #[o,l,d] isSubtype_stop ?_)
  exact Jd #[Z,I.turned (t':=s.toks) (λb o r e=>eb b o r e) f0 f1 f3 f4 f5]
 self:=λ_ _ _ _ _ st h=>by
  obtain⟨⟨c,j⟩,_⟩:=st;exact F8 j h
section
variable{X:Cx}
def tO(K:ι)(ta:TA):TI:=λσ H R=>ta σ H λvs H1=>∃a,vs=[.ref a]/\((∃xs,G0 K H1 a xs)/\R (oC K a) H1\/(∃xs,G9 K H1 a xs)/\R (kq K a) H1)
theorem xk{a:Φ}{ta:TA}{p pos:Pos}{n:Ι}{x1}{j:Pos}(hg:Gl X "enumerate")(hm:X.mg "enumerate"=none)(ha:PA X [a] ta)(hs:θ [a] X.env=[(false,eval a X.env)]:=by rfl):
  PI X (.Tuple n x1 j) (.Call (.Name "enumerate" p) [a] [] pos) (tO X.K ta):=by
 intro Oa s σ H R I h;refine Call_ (ZT I hg hm boot_enumerate (FQ (qz (ha pos Oa s σ H _ I h) λD c v=>?_) hs Z))
 obtain⟨vs,H1,f,x,t⟩:=v;obtain⟨l,e,t⟩:=t;subst e;obtain⟨u,rfl,B⟩:=x.one;cases B;have m:∀b∈[c.heap.objs.size+1,c.heap.objs.size],Qs X Oa H1 b:=λb A=>by
  have o:c.heap.objs.size<=b:=by
   rcases Jm.mp A with z|z
   ·rw[z];exact Fk _
   ·rw[Jh.mp z];exact Jf _
  exact f.fpOk o (f.hok.fresh o)
 rcases t with⟨⟨xs,r⟩,q⟩|⟨⟨xs,r⟩,q⟩
 ·obtain⟨i,w,pl,y⟩:=f.list r
  refine call_enumerate_list pl.isList λh' g d C hk=>F8 g ?_
  exact#[c.heap.objs.size+1,[c.heap.objs.size+1,c.heap.objs.size],_,_,H1,Z,f.kept (t':=c.toks) hk,jx l _ _ (EV (E2 _)),#[#[_,g],d],m,q]
 ·obtain⟨i,w,pl,y⟩:=f.tuple r
  refine rB (show c.heap.IsTuple l i.toArray from pl) λh' g d hk=>F8 g ?_
  exact#[c.heap.objs.size+1,[c.heap.objs.size+1,c.heap.objs.size],_,_,H1,Z,f.kept (t':=c.toks) hk,rW l _ _ (EV (E2 _)),#[#[_,g],d],m,q]
theorem vg{K:ι}{a:Δ}{xs:Ε}{g:TG}{tb:TS}{D:HY}{σ:L2.St}{H:Hp}(Pv:Nat->L2.St->Hp->Prop)(l:Pv 0 σ H)(hl:∀i σ H,i<=xs.length->Pv i σ H->G9 K H a xs)
  (hs:∀i x σ H p,xs[i]? =↑x->Pv i σ H->H p=none->g (.ref p) σ (GW H p (.tup [.int i,x])) λd h=>tb {D with nx:=Pv (i+1),ct:=Pv (i+1),bk:=D.nx} d h)(hd:∀σ H,Pv xs.length σ H->D.nx σ H):
  ∃W:Nat->Nat->L2.St->Hp->Prop,(∃m,W 0 m σ H)/\∀i m σ H,W i m σ H->
   ((kq K a).stop i H/\D.nx σ H)\/((kq K a).go i H/\∃N:L2.St->Hp->Prop,(∀c H',N c H'->∃j,j<m/\W (i+1) j c H')/\∀x H',(kq K a).yld i H x H'->g x σ H' λd h=>tb {D with nx:=N,ct:=N,bk:=D.nx} d h):=by
 refine#[λi m σ H=>m=xs.length-i/\i<=xs.length/\Pv i σ H,#[xs.length,by simp,Jy _,l],?_]
 rintro i m σ H ⟨rfl,hi,p⟩
 have q:=hl i σ H hi p
 by_cases f:i<xs.length
 ·refine .inr #[#[xs,xs[i],q,by simp [f]],Pv (i+1),λc H' n=>#[xs.length-(i+1),by lia,Z,f,n],λx H' y=>?_]
  obtain⟨s,v,r,rfl,o,rfl⟩:=y;exact hs i v σ H s (o xs q) p r
 ·have e:i=xs.length:=by lia
  subst e;exact .inl #[#[xs,q,Jf _],hd σ H p]
end
end L3
namespace L3
open PySem PySem.Spec PyProof.Rows L2 PySem.SeqAt
open Sem (wp)
open AutoSeq1 (wpAny_loadPart')
section
variable{X:Cx}
theorem Rd.same{H H':Hp}{a:Δ}{u:HO}(s:GS H H')(h:Rd H a u):Rd H' a u:=by
 rcases h with h|⟨o,h⟩
 ·exact .inl (s _ _ h)
 ·exact .inr #[o,s _ _ h]
inductive M9 (H:Hp):V->String->Prop where
 |int (i:Int):M9 H (.int i) "int"
 |bl (b:Bool):M9 H (.bl b) "bool"
 |tup {a:Δ} {xs:Ε} (h:Rd H a (.tup xs)):M9 H (.ref a) "tuple"
 |str (x:Str):M9 H (.str x) "str"
 |non:M9 H .non "NoneType"
 |lst {a:Δ} {xs:Ε} (h:H a=↑(.lst xs)):M9 H (.ref a) "list"
theorem Ay{H:Hp}{x:V}{t:String}(h:M9 H x t):t∈ie:=by cases h<;>simp
theorem eT:zi X (.builtin "isinstance") (λxs H Q=>∃x c t,xs=[x,.ty c]/\M9 H x t/\c∈kH/\Q (.bl (aD t c)) H):=by
 intro Oa s σ H xs p Q I r h;obtain⟨x,c,t,rfl,ty,l,q⟩:=h;obtain⟨u,v,rfl,f,j⟩:=j6 r
 cases(show v=Γ.type c from j)
 have e:=pJ X.K t (Ay ty) c l;have d:∀tk,EP X Oa σ Q (.bool (aD t c)) {s with toks:=tk}:=λtk=>#[.bl _,H,I.tok tk,Z,q]
 cases ty with
 |int i=>obtain⟨t,q⟩:=(show∃t,u=Γ.int i t from f);cases q;exact J4 W.kitx_int I.kIn True.intro e (λz=>nomatch z) d
 |bl b=>cases(show u=Γ.bool b from f);exact J4 W.kitx_bool I.kIn True.intro e (λz=>nomatch z) d
 | @tup a ys hr=>
  cases(show u=Γ.ref a from f)
  obtain⟨g,_,⟨o,h1,m,_⟩,_⟩:=I.tuple (.inl hr)
  exact J4 W.kitx_tuple I.kIn #[o,h1,m] e (λz=>nomatch z) d
 |str x=>obtain⟨t,q⟩:=(show∃t,u=Γ.str x t from f);cases q;exact J4 W.kitx_str I.kIn True.intro e (λz=>nomatch z) d
 |non=>cases(show u=Γ.none from f);exact J4 W.kitx_none I.kIn True.intro e (λz=>nomatch z) d
 | @lst a ys ea=>
  cases(show u=Γ.ref a from f)
  obtain⟨_,_,n,_,h1⟩:=(show Hv X.prog X.w H s.heap a (.lst ys)from I.hok a _ ea)
  exact J4 W.kitx_list I.kIn #[_,h1,Z] e (λz=>nomatch z) d
end
def zz(t:Β):Β:=(List.range 16).map λd=>((t.idxOf ((d:Nat):Int):Nat):Int)
theorem aL(t:Β):(zz t).length=16:=by simp [zz]
section
variable{t:Β}(p:t.Perm HW)
include p
theorem uZ:t.Nodup:=p.nodup_iff.mpr ⋯
theorem om:t.length=16:=by rw[p.length_eq,lU]
theorem Bq{d:Nat}(h:d<16):((d:Nat):Int)∈t:=p.mem_iff.mpr (Jt.mpr #[d,J1.mpr h,Z])
theorem ku{i:Nat}(h:i<t.length):0<=t[i]/\t[i]<16:=kC (p.mem_iff.mp (Fi h))
theorem sZ{i:Nat}(h:i<t.length):t.idxOf t[i]=i:=(uZ p).idxOf_getElem i h
theorem Ai{d:Nat}(h:d<16):(zz t)[d]'(by rw[aL];exact h)=((t.idxOf ((d:Nat):Int):Nat):Int):=by simp [zz]
end
end L3
namespace L3
open PySem PySem.Spec L2
variable{X:Cx}
theorem aS{a:List δ}:Mo X a uT:=#[uR]
theorem xi{a:Φ}{ta:TA}{p pos:Pos}{c:Ι}{x1}{d:Pos}(hg:Gl X "enumerate")(hm:X.mg "enumerate"=none)(ha:QA X [a] ta)(hs:θ [a] X.env=[(false,eval a X.env)]:=by rfl):QI X (.Tuple c x1 d) (.Call (.Name "enumerate" p) [a] [] pos) (tO X.K ta):=#[xk (hg:=hg) (hm:=hm) (ha:=ha.h) (hs:=hs)]
def Ip(H:Hp)(b:Δ)(c:Nat):Prop:=∃n m k:Int,H b=↑(rO n m k)/\0<=m/\m<4611686018427387904/\0<=k/\k<=c
structure IQ(b:Δ)(c:Nat)(H H':Hp):Prop where
 kp:∀a o,a≠b->H a=↑o->H' a=↑o
 bx:Ip H' b c
theorem Ip.mono{H:Hp}{b:Δ}{c d:Nat}(h:Ip H b c)(l:c<=d):Ip H b d:=by
 obtain⟨n,m,k,e,f,a,g,i⟩:=h
 exact#[n,m,k,e,f,a,g,by lia]
theorem IQ.mono{b:Δ}{c d:Nat}{H H':Hp}(h:IQ b c H H')(l:c<=d):IQ b d H H':=#[h.kp,h.bx.mono l]
theorem IQ.trans{b:Δ}{c d:Nat}{H H1 a:Hp}(x:IQ b c H H1)(y:IQ b d H1 a):IQ b d H a:=#[λc o n e=>y.kp c o n (x.kp c o n e),y.bx]
theorem _root_.L2.GS.grc{b:Δ}{c:Nat}{H H':Hp}(x:GS H H')(h:Ip H b c):IQ b c H H':=#[λc o _ e=>x c o e,let⟨n,m,k,e,r⟩:=h;#[n,m,k,x _ _ e,r]]
theorem IQ.same{b:Δ}{c:Nat}{H H1 a:Hp}(x:IQ b c H H1)(y:GS H1 a):IQ b c H a:=x.trans (y.grc x.bx)
theorem qS{H:Hp}{b l:Δ}{c:Nat}(hb:Ip H b c)(h:H l=none):l≠b:=λz=>by
 obtain⟨_,_,_,e,_⟩:=hb;subst z;rw[e]at h;cases h
inductive Na (K:ι) (vs:Ε) (H:Hp) (Q:VK):Prop
 |mk (a:Δ) (ns:Β) (k:Nat) (h1:vs=[.ref a,.int k]) (h2:G0 K H a (ns.map V.int)) (h3:∀b H',H b=none->GS H H'->Ip H' b 0->Q (.ref b) H')
def ul(K:ι):Sp:=λvs H Q _=>Na K vs H Q
inductive Mp (vs:Ε) (H:Hp) (Q:VK):Prop
 |mk (b:Δ) (many:Int) (c:Nat) (h1:vs=[.ref b,.int many]) (h2:Ip H b c) (h3:c<1000000000) (h4:0<many) (h5:many<1073741824) (h6:∀r H',0<=r->r<many->IQ b (c+1) H H'->Q (.int r) H')
def QL:Sp:=λvs H Q _=>Mp vs H Q
theorem QR{H H':Hp}{p:Δ}(h:H' p=none)(s:GS H H'):H p=none:=by
 cases e:H p with
 |none=>rfl
 |some o=>rw[s _ _ e]at h;cases h
def fX:V->Bool
 | .int _=>true
 |_=>false
theorem Ax{H:Hp}{x:V}{t:String}(h:kd H x=↑t):fX x=(aD t "int"&& ! aD t "bool"):=by
 cases x with
 |non=>cases h;decide
 |bl b=>cases h;show false=_;decide
 |int i=>cases h;show true=_;decide
 |str x=>cases h;show false=_;decide
 |byt b=>cases h
 |flt b=>cases h
 |ty b=>cases h
 |ref a=>
  rcases hV h with⟨xs,e,rfl⟩|⟨xs,e,rfl⟩
  ·show false=_;decide
  ·show false=_;decide
theorem wB{x:V}(h:fX x=true):∃i,x= .int i:=by
 cases x<;>first|exact#[_,Z]|cases h
theorem uN{x:V}(h:fX x=false):cq x=false:=by
 cases x<;>first|rfl|cases h
inductive LZ (vs:Ε) (H:Hp) (Q:VK):Prop
 |mk (x:_) (t:_) (h1:vs=[x]) (h2:kd H x=↑t) (h3:Q (.bl (fX x)) H)
def gp:Sp:=λvs H Q _=>LZ vs H Q
inductive LF (H:Hp):Nat->V->V->Prop where
 |int (n:Nat) (i:Int):LF H n (.int i) (.int i)
 |str (n:Nat) (x:Str):LF H n (.str x) (.str x)
 |non (n:Nat):LF H n .non .non
 | tup {n:Nat} {a b:Δ} {xs ys:Ε} (h1:Rd H a (.tup xs)) (h2:Rd H b (.tup ys)) (hl:xs.length=ys.length) (hz:xs.length<=ζ)
   (hi:∀(i:Nat) (x y:V),xs[i]? =↑x->ys[i]? =↑y->LF H n x y):LF H (n+1) (.ref a) (.ref b)
theorem LF.ints{H:Hp}{n:Nat}{a b:Δ}{ns:Β}(h1:Rd H a (.tup (ns.map V.int)))(h2:Rd H b (.tup (ns.map V.int)))(hz:ns.length<=ζ):LF H (n+1) (.ref a) (.ref b):=
 .tup h1 h2 Z (by rw[Je];exact hz) λi x y c d=>by
  rw[c]at d;cases d;obtain⟨z,rfl,_⟩:=Qg c;exact .int _ _
theorem GS.sqt{K:ι}{H H':Hp}{a:Δ}{xs:Ε}(e:GS H H')(h:G9 K H a xs):G9 K H' a xs:=by
 rcases h with h|h
 ·exact .inl (Rd.same e h)
 ·exact .inr h
def QM(t:Β)(i:Nat):Β:=(List.range 16).map λd=>if((d:Nat):Int)∈t.take i then((t.idxOf ((d:Nat):Int):Nat):Int)else 0
theorem bE(t:Β)(i:Nat):(QM t i).length=16:=by simp [QM]
theorem vY(t:Β):QM t 0=List.replicate 16 0:=by simp only[QM,List.take_zero,JE,JD];rfl
theorem tJ{t:Β}{i d:Nat}(h:d<16):(QM t i)[d]'(by rw[bE];exact h)=if((d:Nat):Int)∈t.take i then((t.idxOf ((d:Nat):Int):Nat):Int)else 0:=by simp [QM]
theorem Bh{t:Β}(p:t.Perm HW):QM t t.length=zz t:=by
 unfold QM zz;refine FJ λd a=>?_
 rw[E5,Jc (Bq p (J1.mp a))]
theorem yi{t:Β}(p:t.Perm HW){i:Nat}(hi:i<t.length):(QM t i).set t[i].toNat (i:Int)=QM t (i+1):=by
 have b:=ku p hi;refine List.ext_getElem (by rw[Fl,bE,bE]) λd h1 f=>?_
 have c:d<16:=by rw[bE]at f;exact f
 rw[List.getElem_set,tJ c,tJ c,J9,Jg hi,Option.toList_some]
 by_cases e:t[i].toNat=d
 ·have a:((d:Nat):Int)=t[i]:=by lia
  rw[Jc e,Jc (by rw[a];exact JV _ (Jh.mpr Z)),a,sZ p hi]
 ·have a:((d:Nat):Int)≠t[i]:=by lia
  rw[Jb e];simp only[JL,Jh,a,JF]
inductive Nb (K:ι) (vs:Ε) (H:Hp) (Q:VK):Prop
 |mk (a:Δ) (t:Β) (h1:vs=[.ref a]) (h2:(G0 K H a (t.map V.int)\/G9 K H a (t.map V.int))) (h3:t.Perm HW) (h4:∀p H',GS H H'->H' p=↑(.tup ((zz t).map V.int))->Q (.ref p) H')
def uj(K:ι):Sp:=λvs H Q _=>Nb K vs H Q
theorem Aj{X:Cx}{K:ι}(a:X.K=K){pos:Pos}{es:Ι}{k:Nat}{t:Zx}(n:Nat)(hc:X.calm=true)(h:Nv X es t)(hn:(assignEach es X.env).length=n:=by rfl)(hst:(assignEach es X.env).findIdx? (·.1)=none:=by rfl):QG X (.Tuple es k pos) (yj K n t):=by
 subst a
 exact#[kQ (hc:=hc) (h:=h.h) (hn:=hn) (hst:=hst)]
end L3
namespace L3
open PySem PySem.Spec PyProof.Rows L2
open Sem (wp)
namespace RV
theorem uO:Slot "reversed" "__init__" "object.__init__":=
  .of (owner := "object") (n := "__init__") (by rw[FX,FY];kernel_rfl) nofun nofun nofun
    (by first | exact .inl nofun | exact .inr nofun) (by rw[FD];kernel_rfl)
theorem called:TypeCalled "reversed" "reversed.__new__" "object.__init__":=
 #[nofun,nofun,#[_,_,F.mro_reversed],F.made_reversed,nofun,F.sub_reversed_self,uO]
theorem slot_next:Slot "reversed" "__next__" "reversed.__next__":=
  .of (owner := "reversed") (n := "__next__") (by rw[FX,FY];kernel_rfl) nofun nofun nofun
    (by first | exact .inl nofun | exact .inr nofun) (by rw[FD];kernel_rfl)
theorem entry_next:entryFor table "reversed.__next__"=some γ.«reversed.__next__»:=entryFor_of_tree (by kernel_rfl)
theorem jH:Manifest.owners.lookup (String.ofList ['d', 'e', 's', 'r', 'e', 'v', 'e', 'r'].reverse)=↑Manifest.sig_reversed:=by kernel_rfl
theorem args_next(a:Γ):argsOk "reversed.__next__" #[[a],[]]:=by
 unfold argsOk;rw[signature?_of (id:="reversed.__next__") (n:=['_', '_', 't', 'x', 'e', 'n', '_', '_']) (o:=['d', 'e', 's', 'r', 'e', 'v', 'e', 'r']) (by kernel_rfl) jH]
 kernel_rfl
theorem slot_iter:Slot "reversed" "__iter__" "reversed.__iter__":=
  .of (owner := "reversed") (n := "__iter__") (by rw[FX,FY];kernel_rfl) nofun nofun nofun
    (by first | exact .inl nofun | exact .inr nofun) (by rw[FD];kernel_rfl)
theorem args_iter(a:Γ):argsOk "reversed.__iter__" #[[a],[]]:=by
 unfold argsOk;rw[signature?_of (id:="reversed.__iter__") (n:=['_', '_', 'r', 'e', 't', 'i', '_', '_']) (o:=['d', 'e', 's', 'r', 'e', 'v', 'e', 'r']) (by kernel_rfl) jH]
 kernel_rfl
theorem entry_iter:entryFor table "reversed.__iter__"=some γ.«dict_keyiterator.__iter__»:=
  entryFor_alias (id':="dict_keyiterator.__iter__") (by kernel_rfl)
    (by first | rfl | decide +kernel | (unfold String.splitOn
                                        simp +decide [String.splitOnAux])) nofun (by kernel_rfl)
theorem no_tuple:typeLookup (.type "tuple") "__reversed__"=pure none:=by
 rw[FX,FY]
 kernel_rfl
theorem tup_dict:isSubtype (.type "tuple") (.type "dict")=pure false:=by
 rw[FD]
 kernel_rfl
theorem ri_rev:isSubtype (.type "range_iterator") (.type "reversed")=pure false:=by
 rw[FD]
 kernel_rfl
theorem tc1(a:Γ):checkTypeCall "reversed" #[[a],[]]=pure ():=by kernel_rfl
end RV
def IV(h:Ψ)(it t:Δ)(i:Int):Prop:=∃o,h.get? it=↑o/\o.cls= .type "reversed"/\o.data= .fields (List.toArray [.ref t,rawInt i])
theorem rP(l:Δ)(items:Array Γ)(hz:items.size<=ζ):
  Meets (γ.«reversed.__new__» #[[.type "reversed",.ref l],[]]) (λA R s=>s.heap.IsTuple l items/\
   R (.ok (.ret (.ref s.heap.objs.size))) {s with heap:=s.heap.push {cls:= .type "reversed",data:= .fields (List.toArray [.ref l,rawInt ((items.size:Int)-1)])},toks:=s.toks+2}):=
 .of_wp λprog w A R s h=>by
  obtain⟨i,g,d,tk,a⟩:=s;obtain⟨f,h⟩:=h
  have m:=F.sub_reversed_self;have j:Θ.TypeIs #[i,g,d,tk,a] (.ref l) "tuple":=let⟨o,e,c,_⟩:=f;#[o,e,c]
  have q:Ψ.IsTuple (Θ.heap #[i,g,d,tk,a]) l items:=f
  have p:=RV.tup_dict;have n:IsTup (Θ.heap #[i,g,d,tk,a]) l items:=f
  have r:=ZS
  wp_walk using FK j RV.no_tuple,E8 p,FK j F.slot_tuple_getitem.lookup,len_tuple n (by omega)
  exact#[_,Z,h]
end L3
namespace L3
open PySem PySem.Spec PyProof.Rows L2
open Sem (wp)
abbrev Ae(a b c:Int):Bool:=γ.Range.rangeFitsLong a&&γ.Range.rangeFitsLong b&&γ.Range.rangeFitsLong c&&γ.Range.rangeFitsLong (-c)&&γ.Range.rangeFitsLong (a-c)&&γ.Range.rangeFitsLong (γ.Range.rangeSize a b c)
theorem nq(r:Δ)(a b c:Int)(t u v:Tok)(e:¬(! Ae a b c)=true):
  Meets (γ.«range.__reversed__» #[[.ref r],[]]) (λ_ R s=>s.heap.get? r=some {cls:= .type "range",dict:=none,data:= .fields (List.toArray [.int a t,.int b u,.int c v]),slots:= (List.toArray [])}/\
   R (.ok (.ret (.ref s.heap.objs.size))) {s with heap:=s.heap.push {cls:= .type (if Ae a b c then "range_iterator" else "longrange_iterator"),data:= .fields (List.toArray [rawInt (a+(γ.Range.rangeSize a b c-1)*c),rawInt (γ.Range.rangeSize a b c),rawInt (-c)])}}):=
 .of_wp λprog w A R s h=>by obtain⟨j,g,d,tk,f⟩:=s;obtain⟨i,h⟩:=h;wp_walk;exact#[_,Z,h]
theorem tY(n:Nat):γ.Range.rangeSize 0 n 1=n:=by
 unfold γ.Range.rangeSize;rw[Jc ⋯]
 split<;>lia
theorem vF{n:Nat}(hn:(n:Int)<2 ^ 62):Ae 0 n 1=true:=by
 unfold Ae;rw[tY];simp only[γ.Range.rangeFitsLong,JC,decide_eq_true_eq];lia
theorem sk(r:Δ)(n:Nat)(t u v:Tok)(hn:(n:Int)<2 ^ 62):
  Meets (γ.«range.__reversed__» #[[.ref r],[]]) (λ_ R s=>s.heap.get? r=some {cls:= .type "range",data:= .fields (List.toArray [.int 0 t,.int n u,.int 1 v])}/\
   R (.ok (.ret (.ref s.heap.objs.size))) {s with heap:=s.heap.push {cls:= .type "range_iterator",data:= .fields (List.toArray [rawInt ((n:Int)-1),rawInt n,rawInt (-1)])}}):=by
 have g:=nq r 0 n 1 t u v (by rw[vF hn];decide)
 rw[vF hn,tY,Jc Z,Int.mul_one,Int.zero_add]at g;exact g
section
variable{prog:Ξ}{w:Ω}{A:Around}{E:GP}{s:Θ}
theorem IV.typeIs{it t:Δ}{i:Int}(x:IV s.heap it t i):s.TypeIs (.ref it) "reversed":=by
 obtain⟨o,a,c,_⟩:=x
 exact#[o,a,c]
theorem nP{it t:Δ}{i:Nat}{items:Array Γ}{x:Γ}{Q:Ο->Θ->Prop}(d:IV s.heap it t (i:Int))(hl:IsTup s.heap t items)(hx:items[i]? =↑x)(hz:items.size<=ζ)
  (l:∀h' tk,IV h' it t ((i:Int)-1)->Ψ.SameBut it s.heap h'->Q ↑x {s with heap:=h',toks:=tk}):ε (model prog w) A (pyNext (.ref it)) Q E s:=by
 obtain⟨o,g,n,f⟩:=id d;have j:s.TypeIs (.ref t) "tuple":=let⟨o,e,c,_⟩:=hl;#[o,e,c]
 have p:=ZS;have h:i<items.size:=(Array.getElem?_eq_some_iff.mp hx).1
 unfold pyNext;refine Ja (FW (wpAny_callSpecial?_slot (name:=Str.ofString "__next__") (IV.typeIs d) RV.slot_next
  (J5 RV.slot_next (IV.typeIs d) RV.entry_next ?_ (RV.args_next _))))
 unfold γ.«reversed.__next__»
 refine Ja (E8 (a:=(Γ.ref it,[])) Z ?_)
 try dsimp only
 refine Ja (E4 g f (x:= .ref t) Z ?_)
 refine Ja (E4 g f (x:=rawInt (i:Int)) Z ?_)
 show ε _ _ (if(i:Int)<0 then _ else _) _ _ s
 rw[Jb (by lia)]
 try dsimp only
 refine Ja (FK j F.slot_tuple_getitem.lookup ?_)
 rw[Jb (show¬((↑(Γ.builtin "tuple.__getitem__")).isNone=true)from JJ)]
 refine Ja (wpAny_mkInt ?_)
 have m:IsTup (Θ.heap {s with toks:=s.toks+1}) t items:=hl
 refine Ja (FW (getItem_tuple m (by lia) (by lia) (by unfold seqIndex?;rw[Jb (show¬((i:Int)<0) by lia)];simp [h]) hx ?_))
 try dsimp only
 refine Ja (E4 (s:={s with toks:=s.toks+1}) g f (x:=rawInt (i:Int)) Z ?_)
 show ε _ _ (setField (.ref it) 1 (rawInt ((i:Int)-1)) >>= _) _ _ _
 refine Ja (Ff (s:={s with toks:=s.toks+1}) g f (by simp) ?_)
 refine Jd #[x,Z,Jd (l _ _ ?_ (J8 ..))]
 exact#[_,FB _ g (Gm (FH f _)),(Obj.cls_mapFields ..).trans n,by
  rw[FH f];simp]
theorem rf{it t:Δ}{Q:Ο->Θ->Prop}(g:A.handled=none)(c:IV s.heap it t (-1))
  (h:∀h',Ψ.ExtBut it s.heap h'->Q none {s with heap:=h'}):ε (model prog w) A (pyNext (.ref it)) Q E s:=by
 obtain⟨o,e,i,d⟩:=id c;unfold pyNext;refine Ja (FW (wpAny_callSpecial?_slot (name:=Str.ofString "__next__") (IV.typeIs c) RV.slot_next
  (J5 RV.slot_next (IV.typeIs c) RV.entry_next ?_ (RV.args_next _))))
 unfold γ.«reversed.__next__»
 refine Ja (E8 (a:=(Γ.ref it,[])) Z ?_)
 try dsimp only
 refine Ja (E4 e d (x:= .ref t) Z ?_)
 refine Ja (E4 e d (x:=rawInt (-1)) Z ?_)
 show ε _ _ (if(-1:Int)<0 then _ else _) _ _ s
 rw[Jc ⋯]
 refine Ja (E7 ?_)
 refine Ja ?_
 show ε _ _ (setField (.ref it) 1 (rawInt (-1)) >>= _) _ _ _
 refine Ja (Ff e d (by simp) ?_)
 have f:=FB (Obj.mapFields (·.setIfInBounds 1 (rawInt (-1)))) e (Gm (FH d _))
 refine Ff f (FH d _) (by simp) ?_
 refine Ja ?_
 show ε _ _ (newExc (.type "StopIteration") [] >>= _) _ _ _
 refine Ja ?_
 simp only[newExc,newTuple];refine Ja (J3 ?_ (by size_fits))
 refine Ja (m:=firstArgMember _ _) (E8 (a:=Γ.none) (by first|rfl|(simp only[firstArgMember];rfl)) ?_)
 refine J3 ?_ (by size_fits)
 simp only[raiseNew];refine Ja (wpAny_handled ?_)
 first|rw[show A.in1.handled=none from g]|rw[g]
 refine Ja (Jd (wpAny_throw ?_))
 refine Ja (FI (T:="StopIteration") (b:=true) #[_,Jq _ Z,Z] isSubtype_stop ?_)
 exact Jd (h _ (((((J8 ..).trans (J8 ..)).extBut).push _).push _))
theorem uL{it t:Δ}{i:Int}{Q:GP}(a:IV s.heap it t i)(h:Q (.ref it) s):ε (model prog w) A (pyIter (.ref it)) Q E s:=by
 refine wpAny_pyIter_slot (IV.typeIs a) RV.slot_iter (J5 RV.slot_iter (IV.typeIs a) RV.entry_iter ?_ (RV.args_iter _))
 show ε _ _ (ret (.ref it)) _ _ s
 exact Jd #[_,Z,"reversed",_,IV.typeIs a,RV.slot_next.lookup,h]
theorem Ca{l:Δ}{items:Array Γ}{Q:GP}(hl:s.heap.IsTuple l items)(hz:items.size<=ζ)
  (h:∀h' tk,IV h' s.heap.objs.size l ((items.size:Int)-1)->(∀b o,s.heap.get? b=↑o->h'.get? b=↑o)->Q (.ref s.heap.objs.size) {s with heap:=h',toks:=tk}):
  ε (model prog w) A (call (.type "reversed") [.ref l]) Q E s:=by
 refine callType_new RV.called ⋯ (RV.tc1 _) (F.newCall_reversed_1 _) (λa=>F.args_object_init_2 a _) F.entry_reversed_new (rP l items hz) #[hl,?_]
 exact#[#[_,Jq _ Z,Z],h _ _ #[_,Jq _ Z,Z,Z] λb o e=>Jl _ e]
theorem BW{r:Δ}{n:Nat}{t u v:Tok}{Q:GP}(hr:s.heap.get? r=some {cls:= .type "range",data:= .fields (List.toArray [.int 0 t,.int n u,.int 1 v])})(hn:(n:Int)<2 ^ 62)
    (h:∀h',IsRangeIter h' s.heap.objs.size ((n:Int)-1) n (-1)->(∀b o,s.heap.get? b=↑o->h'.get? b=↑o)->Q (.ref s.heap.objs.size) {s with heap:=h'}):
    ε (model prog w) A (call (.type "reversed") [.ref r]) Q E s:=by
  have f:s.TypeIs (.ref r) "range":=#[_,hr,Z]
  refine callType_other (U:="range_iterator") (Q₁:=λd c=>d= .ref s.heap.objs.size/\∃h',c={s with heap:=h'}/\IsRangeIter h' s.heap.objs.size ((n:Int)-1) n (-1)/\∀b o,s.heap.get? b=↑o->h'.get? b=↑o) nofun F.create_reversed #[_,_,F.mro_reversed] F.made_reversed RV.ri_rev (RV.tc1 _) ?_ ?_
  · refine codeAny_of_tree ?_
    show ε _ A.in1.in1 (do checkBuiltinCall "reversed.__new__" #[[.type "reversed",.ref r],[]];again (.builtin "reversed.__new__" #[[.type "reversed",.ref r],[]])) _ _ s
    refine Ja (E8 (F.newCall_reversed_1 _) (Jd #[plainId_quiet F.plain_reversed_new _,Fo F.entry_reversed_new ?_]))
    rw[Around.under_plainId F.plain_reversed_new _];unfold γ.«reversed.__new__»
    refine Ja (E8 (newClass_reversed _) ?_)
    try dsimp only
    refine Ja (E8 (a:=()) (by first|rfl|kernel_rfl) ?_)
    refine Ja (E8 (a:=()) (by first|rfl|kernel_rfl) ?_)
    try dsimp only
    refine Ja (FK f F.slot_range_reversed.lookup ?_)
    try dsimp only
    refine Ja (E8 (F.slot_range_reversed.bind _) ?_)
    try dsimp only
    first
    |rw[Jb (show¬((Γ.builtin "range.__reversed__"==Γ.none)=true)from JJ)]
    | (show ε _ _ (if(Γ.builtin "range.__reversed__"==Γ.none)=true then _ else _) _ _ _
       rw[Jb (show¬((Γ.builtin "range.__reversed__"==Γ.none)=true)from JJ)])
    refine Ja (E7 ?_)
    refine Ja (m:=runValue (.call (.builtin "range.__reversed__") ⟨[.ref r],[]⟩)) (show ε _ _ (call (.builtin "range.__reversed__") [.ref r]) _ _ _ from
      FG F.slot_range_reversed f F.entry_range_reversed (F.args_range_reversed_1 _) (sk r n t u v hn) ⟨hr,?_⟩)
    first
    |exact Jd ⟨rfl,_,rfl,Jq _ rfl,λb o e=>Jl _ e⟩
    |exact Ja (Jd (Jd ⟨rfl,_,rfl,Jq _ rfl,λb o e=>Jl _ e⟩))
  · rintro d c ⟨rfl,h',rfl,hi,hk⟩
    exact⟨⟨_,hi,rfl⟩,h h' hi hk⟩
end
def sX(K:ι)(a:Δ)(n:Nat):It:=
 ⟨λi H=>i<n/\∃xs,G0 K H a xs/\xs.length=n,λi H x H'=>H'=H/\∀xs,G0 K H a xs->xs[n-1-i]? =↑x,λi _=>n<=i⟩
def sF(K:ι)(a:Δ)(n:Nat):It:=
 ⟨λi H=>i<n/\∃xs,G9 K H a xs/\xs.length=n,λi H x H'=>H'=H/\∀xs,G9 K H a xs->xs[n-1-i]? =↑x,λi _=>n<=i⟩
def sW(n:Nat):It:=⟨λi _=>i<n,λi H x H'=>H'=H/\x= .int ((n:Int)-1-i),λi _=>n<=i⟩
theorem rq{P:Ξ}{w:Ω}{K:ι}{tg:Φ}(a it:Δ)(n:Nat):Lh P w K tg (sX K a n) [it] it (λi h=>i<=n/\h.IsRevIter it a ((n:Int)-1-i)) where
 mem:=by simp
 obj:=λi h st b g=>by
  have e:b=it:=by simpa using g
  subst e;obtain⟨_,o,e,c,d⟩:=st
  exact#[o,e,λv z=>by rw[d]at z;cases z]
 keep:=λi h h' st k=>#[st.1,st.2.at λo e=>k it (by simp) o e]
 item:=by
  intro X t y C J i Oa s σ H E I m st F;subst t y C;obtain⟨hi,xs,G,hn⟩:=F;obtain⟨O,R,p,hz⟩:=I.list G;have l:n-1-i<xs.length:=by lia
  obtain⟨u,N,Y⟩:=R.get (Jg l)
  obtain⟨D,A,L,q,r,B⟩:=m it (by simp)
  have U:(n:Int)-1-i=((n-1-i:Nat):Int):=by lia
  have f:=st.2;rw[U]at f;refine wpAny_pyNext_rev_item f p.isList (x:=u) (by simpa using N) λh' j T=>?_
  have W:L2.GX X Oa σ H {s with heap:=h'}:=I.turned (t':=s.toks) (λb o g e=>(T.2 b g).trans e) D A q r B
  obtain⟨o,e,c,d⟩:=id j;refine#[u,Z,bS (s:={s with heap:=h'}) e c d ⋯ #[_,H,W,Y,#[Z,λys S=>by rw[I.list_inj S G];exact Jg l],#[by lia,?_],λb g=>(m b g).1]]
  have Q:((n-1-i:Nat):Int)-1=(n:Int)-1-((i+1:Nat):Int):=by lia
  rw[<- Q];exact j
 done:=by
  intro X t y C J i Oa s σ H E I m st F;subst t y C;obtain⟨D,A,L,q,r,B⟩:=m it (by simp)
  have hi:i=n:=Nat.le_antisymm st.1 F
  have f:=st.2;rw[show(n:Int)-1-i= -1 by lia]at f
  exact wpAny_pyNext_rev_end (I.ok.hd J) f λh' M=>#[Z,I.turned (t':=s.toks) (λb o g e=>M b o g e) D A q r B]
 self:=λ_ _ _ _ _ st h=>wpAny_pyIter_revIter st.2 h
theorem ua{P:Ξ}{w:Ω}{K:ι}{tg:Φ}(a it:Δ)(n:Nat):Lh P w K tg (sF K a n) [it] it (λi h=>i<=n/\IV h it a ((n:Int)-1-i)) where
 mem:=by simp
 obj:=λi h st b g=>by
  have e:b=it:=by simpa using g
  subst e;obtain⟨_,o,e,c,d⟩:=st
  exact#[o,e,λv z=>by rw[d]at z;cases z]
 keep:=λi h h' st k=>#[st.1,let⟨o,e,r⟩:=st.2;#[o,k it (by simp) o e,r]]
 item:=by
  intro X y A D M i Oa s σ H E I m st G;subst y A D;obtain⟨hi,xs,J,hn⟩:=G;obtain⟨S,L,p,hz⟩:=I.tuple J;have N:=L.length;have l:n-1-i<xs.length:=by lia
  obtain⟨u,R,ru⟩:=L.get (Jg l)
  obtain⟨F,B,O,q,t,C⟩:=m it (by simp)
  have Y:(n:Int)-1-i=((n-1-i:Nat):Int):=by lia
  have f:=st.2;rw[Y]at f;refine nP f p (x:=u) (by simpa using R) (by simp;lia) λh' tk j W=>?_
  have I1:L2.GX X Oa σ H {s with heap:=h',toks:=tk}:=I.turned (t':=tk) (λb o g e=>(W.2 b g).trans e) F B q t C
  obtain⟨o,e,c,d⟩:=id j;refine#[u,Z,bS (s:={s with heap:=h',toks:=tk}) e c d ⋯ #[_,H,I1,ru,#[Z,λys U=>by rw[I.tuple_inj U J];exact Jg l],#[by lia,?_],λb g=>(m b g).1]]
  have T:((n-1-i:Nat):Int)-1=(n:Int)-1-((i+1:Nat):Int):=by lia
  rw[<- T];exact j
 done:=by
  intro X y A D M i Oa s σ H E I m st G;subst y A D;obtain⟨F,B,O,q,t,C⟩:=m it (by simp)
  have hi:i=n:=Nat.le_antisymm st.1 G
  have f:=st.2;rw[show(n:Int)-1-i= -1 by lia]at f
  exact rf (I.ok.hd M) f λh' Q=>#[Z,I.turned (t':=s.toks) (λb o g e=>Q b o g e) F B q t C]
 self:=λ_ _ _ _ _ st h=>uL st.2 h
theorem uk{P:Ξ}{w:Ω}{K:ι}{tg:Φ}(it:Δ)(n:Nat):Lh P w K tg (sW n) [it] it (λi h=>IsRangeIter h it ((n:Int)-1+(i:Nat)*(-1)) ((n:Int)-(i:Nat)) (-1)) where
 mem:=by simp
 obj:=λi h st b a=>by
  have e:b=it:=by simpa using a
  subst e
  exact#[_,st,λv z=>by
   have C:Data.fields _=Data.cell v:=z
   cases C]
 keep:=λi h h' st k=>k it (by simp) _ st
 item:=by
  intro X j l r q i Oa s σ H E I d st x;subst j l r;obtain⟨u,m,y,f,g,p⟩:=d it (by simp)
  have W:=Walks.range (prog:=X.prog) (w:=X.w) (I.ok.hd q) it ((n:Int)-1) (-1) n
  refine W.item i s _ _ x st λv h' tk B c D=>?_
  obtain⟨t,rfl⟩:=B;have F:L2.GX X Oa σ H {s with heap:=h',toks:=tk}:=I.turned (λb o a e=>D b o (by simpa using a) e) u m f g p
  refine#[_,Z,bS (s:={s with heap:=h',toks:=tk}) (n:="range_iterator") c Z Z ⋯ #[.int ((n:Int)-1-i),H,F,#[t,?_],#[Z,Z],c,λb a=>(d b a).1]]
  rw[show(n:Int)-1+(i:Nat)*(-1)=(n:Int)-1-i by lia]
 done:=by
  intro X j l r q i Oa s σ H E I d st x;subst j l r;obtain⟨u,m,y,f,g,p⟩:=d it (by simp)
  exact wpAny_pyNext_range_end (I.ok.hd q) st (by have:n<=i:=x;lia) λh' A=>#[Z,I.turned (t':=s.toks) (λb o a e=>A b o a e) u m f g p]
 self:=λ_ _ _ _ _ st h=>Gv st h
section
variable{X:Cx}{tg:Φ}
theorem wP:bootBuiltins "reversed"=↑(.type "reversed"):=by kernel_rfl
def Dm(K:ι)(ta:TA):TI:=λσ H R=>ta σ H λvs H1=>∃a,vs=[.ref a]/\((∃xs,G0 K H1 a xs/\R (sX K a xs.length) H1)\/(∃xs,G9 K H1 a xs/\R (sF K a xs.length) H1)\/∃n:Nat,H1 a=↑(.rng 0 n)/\(n:Int)<2 ^ 62/\R (sW n) H1)
theorem BI{a:Φ}{ta:TA}{p pos:Pos}(hg:Gl X "reversed")(hm:X.mg "reversed"=none)(ha:PA X [a] ta)(hn:bz a=true:=by rfl):
  PI X tg (.Call (.Name "reversed" p) [a] [] pos) (Dm X.K ta):=by
 intro Oa s σ H R I h;refine Call_ (ZT I hg hm wP (FQ (qz (ha pos Oa s σ H _ I h) λD d B=>?_) (jh hn) Z))
 obtain⟨vs,H1,g,C,w⟩:=B;obtain⟨l,e,w⟩:=w;subst e;obtain⟨u,rfl,z⟩:=C.one;cases z;have i:∀b∈[d.heap.objs.size],Qs X Oa H1 b:=λb y=>by
  rw[Jh.mp y];exact g.fpOk (Jf _) (g.hok.fresh (Jf _))
 rcases w with⟨xs,j,q⟩|⟨xs,j,q⟩|⟨n,j,m,q⟩
 ·obtain⟨c,r,pl,x⟩:=g.list j
  have f:=r.length;refine call_reversed_list pl.isList ?_
  have hi:(d.heap.push (revObj l ((c.toArray.size:Int)-1))).IsRevIter d.heap.objs.size l ((c.toArray.size:Int)-1):=#[_,Jq _ Z,Z,Z]
  refine wpAny_pyIter_revIter hi ?_
  refine#[d.heap.objs.size,[d.heap.objs.size],_,_,H1,Z,g.kept (t':=d.toks) λb o e=>Jl _ e,rq l _ xs.length,#[Jy _,?_],i,q]
  rw[show(xs.length:Int)-1-((0:Nat):Int)=(c.toArray.size:Int)-1 by simp [f]]
  exact hi
 ·obtain⟨c,r,pl,x⟩:=g.tuple j
  have f:=r.length;refine Ca (show d.heap.IsTuple l c.toArray from pl) (by simp;lia) λh' tk hi hk=>uL hi ?_
  refine#[d.heap.objs.size,[d.heap.objs.size],_,_,H1,Z,g.kept (t':=tk) hk,ua l _ xs.length,#[Jy _,?_],i,q]
  rw[show(xs.length:Int)-1-((0:Nat):Int)=(c.toArray.size:Int)-1 by simp [f]]
  exact hi
 ·obtain⟨t,u,v,A⟩:=g.hok l _ j
  refine BW A m λh' hi hk=>Gv hi ?_
  refine#[d.heap.objs.size,[d.heap.objs.size],_,_,H1,Z,g.kept (t':=d.toks) hk,uk _ n,?_,i,q]
  show IsRangeIter _ _ _ _ _
  rw[show(n:Int)-1+((0:Nat):Int)*(-1)=(n:Int)-1 by lia,show(n:Int)-((0:Nat):Int)=n by lia]
  exact hi
def wX(K:ι)(tl:TE):TI:=λσ H R=>tl σ H λx H1=>∃a,x= .ref a/\((∃xs,G0 K H1 a xs)/\R (cE K a) H1\/(∃xs,G9 K H1 a xs)/\R (cV K a) H1)
theorem CY{l:Φ}{tl:TE}(hl:PE X l tl):PI X tg l (wX X.K tl):=by
 intro Oa s σ H R I h;refine qz (hl Oa s σ H _ I h) λv c t=>?_
 obtain⟨x,H1,d,u,j⟩:=t;obtain⟨a,e,j⟩:=j;subst e;cases u;have g:∀b∈[c.heap.objs.size],Qs X Oa H1 b:=λb r=>by
  rw[Jh.mp r];exact d.fpOk (Jf _) (d.hok.fresh (Jf _))
 rcases j with⟨⟨xs,i⟩,q⟩|⟨⟨xs,i⟩,q⟩
 ·obtain⟨f,n,p,m⟩:=d.list i
  refine FO p.isList ?_
  exact#[c.heap.objs.size,[c.heap.objs.size],_,_,H1,Z,d.kept (t':=c.toks) λb o e=>Jl _ e,iS a _,#[_,Jq _ Z,Z,Z],g,q]
 ·obtain⟨f,n,p,m⟩:=d.tuple i
  refine FP (show c.heap.IsTuple a f.toArray from p) ?_
  exact#[c.heap.objs.size,[c.heap.objs.size],_,_,H1,Z,d.kept (t':=c.toks) λb o e=>Jl _ e,gt a _,#[_,Jq _ Z,Z,Z],g,q]
end
section
variable{K:ι}{a:Δ}{xs:Ε}{g:TG}{tb:TS}{D:HY}{σ:L2.St}{H:Hp}
abbrev ZN(J:It)(g:TG)(tb:TS)(D:HY)(σ:L2.St)(H:Hp):Prop:=∃W:Nat->Nat->L2.St->Hp->Prop,(∃m,W 0 m σ H)/\∀i m σ H,W i m σ H->
      (J.stop i H/\D.nx σ H)\/(J.go i H/\∃N:L2.St->Hp->Prop,(∀σ' H',N σ' H'->∃m',m'<m/\W (i+1) m' σ' H')/\∀x H',J.yld i H x H'->g x σ H' λσ2 H2=>tb {D with nx:=N,ct:=N,bk:=D.nx} σ2 H2)
theorem eZ{J:It}{n:Nat}(Pv:Nat->L2.St->Hp->Prop)(f:Pv 0 σ H)(d:∀i σ H,i<n->Pv i σ H->J.go i H)(hst:∀H,J.stop n H)
  (hs:∀i x σ H H',i<n->Pv i σ H->J.yld i H x H'->g x σ H' λc l=>tb {D with nx:=Pv (i+1),ct:=Pv (i+1),bk:=D.nx} c l)(hd:∀σ H,Pv n σ H->D.nx σ H):ZN J g tb D σ H:=by
 refine#[λi m σ H=>m=n-i/\i<=n/\Pv i σ H,#[n,by simp,Jy _,f],?_]
 rintro i m σ H ⟨rfl,hi,p⟩
 by_cases a:i<n
 ·exact .inr #[d i σ H a p,Pv (i+1),λh H' j=>#[n-(i+1),by lia,Z,a,j],λx H' y=>hs i x σ H H' a p y]
 ·have e:i=n:=by lia
  subst e;exact .inl #[hst H,hd σ H p]
theorem wq(Pv:Nat->L2.St->Hp->Prop)(d:Pv 0 σ H)(hl:∀i σ H,Pv i σ H->G0 K H a xs)
  (hs:∀i x σ H,i<xs.length->xs[xs.length-1-i]? =↑x->Pv i σ H->g x σ H λc e=>tb {D with nx:=Pv (i+1),ct:=Pv (i+1),bk:=D.nx} c e)(hd:∀σ H,Pv xs.length σ H->D.nx σ H):ZN (sX K a xs.length) g tb D σ H:=
 eZ Pv d (λi σ H hi p=>#[hi,xs,hl i σ H p,Z]) (λ_=>Jf _) (λi x σ H H' hi p y=>by
  obtain⟨rfl,y⟩:=y;exact hs i x σ H' hi (y xs (hl i σ H' p)) p) hd
theorem wG(Pv:Nat->L2.St->Hp->Prop)(d:Pv 0 σ H)(hl:∀i σ H,Pv i σ H->G9 K H a xs)
  (hs:∀i x σ H,i<xs.length->xs[xs.length-1-i]? =↑x->Pv i σ H->g x σ H λc e=>tb {D with nx:=Pv (i+1),ct:=Pv (i+1),bk:=D.nx} c e)(hd:∀σ H,Pv xs.length σ H->D.nx σ H):ZN (sF K a xs.length) g tb D σ H:=
 eZ Pv d (λi σ H hi p=>#[hi,xs,hl i σ H p,Z]) (λ_=>Jf _) (λi x σ H H' hi p y=>by
  obtain⟨rfl,y⟩:=y;exact hs i x σ H' hi (y xs (hl i σ H' p)) p) hd
theorem vW{n:Nat}(Pv:Nat->L2.St->Hp->Prop)(c:Pv 0 σ H)
  (hs:∀i σ H,i<n->Pv i σ H->g (.int ((n:Int)-1-i)) σ H λa d=>tb {D with nx:=Pv (i+1),ct:=Pv (i+1),bk:=D.nx} a d)(hd:∀σ H,Pv n σ H->D.nx σ H):ZN (sW n) g tb D σ H:=
 eZ Pv c (λi σ H hi p=>hi) (λ_=>Jf _) (λi x σ H H' hi p y=>by
  obtain⟨rfl,rfl⟩:=y;exact hs i σ H' hi p) hd
end
end L3
namespace L3
open PySem PySem.Spec L2
variable{X:Cx}
theorem uH{tg:Φ}{a:Φ}{ta:TA}{p pos:Pos}(hg:Gl X "reversed")(hm:X.mg "reversed"=none)(ha:QA X [a] ta)(hn:bz a=true:=by rfl):QI X tg (.Call (.Name "reversed" p) [a] [] pos) (Dm X.K ta):=#[BI (hg:=hg) (hm:=hm) (ha:=ha.h) (hn:=hn)]
theorem bw{tg:Φ}{l:Φ}{tl:TE}(hl:QE X l tl):QI X tg l (wX X.K tl):=#[CY (hl:=hl.h)]
def aR(x:Int):Prop:=0<=x/\x<16
def zy(r:Β):Prop:=∀x∈r,aR x
def yt(n i:Nat):Nat:=if i=0 then n-1 else i-1
def ah(r:Β)(i:Nat):Int:=r.getD (yt r.length i) 0
def iB(t:Β)(s:Int)(r:Β)(i:Nat):Β:=r.set i (t.getD ((r.getD i 0+s+i+ah r i)%16).toNat 0)
def gf(b:Β)(s:Int)(r:Β)(i:Nat):Β:=r.set i ((b.getD (r.getD i 0).toNat 0-s-i-ah r i)%16)
def ZW(t:Β)(s:Int)(r:Β):Nat->Β
 |0=>r
 |n+1=>iB t s (ZW t s r n) n
def aA(b:Β)(s:Int)(r:Β):Nat->Β
 |0=>r
 |n+1=>aA b s (gf b s r n) n
def QC(t:Β):Β->Β->Β
 | [],r=>r
 |s::ks,r=>QC t ks (ZW t s r r.length)
def Zb(b:Β):Β->Β->Β
 | [],r=>r
 |s::ks,r=>aA b s (Zb b ks r) r.length
theorem xn{t:Β}{s:Int}{r:Β}{i:Nat}:(iB t s r i).length=r.length:=Fl ..
theorem lJ{b:Β}{s:Int}{r:Β}{i:Nat}:(gf b s r i).length=r.length:=Fl ..
theorem Qy{t:Β}{s:Int}{r:Β}:∀{n:Nat},(ZW t s r n).length=r.length
 |0=>rfl
 |n+1=>by rw[ZW,xn,Qy]
theorem lG{b:Β}{s:Int}:∀{n:Nat} {r:Β},(aA b s r n).length=r.length
 |0,_=>rfl
 |n+1,r=>by rw[aA,lG,lJ]
theorem bM{t:Β}:∀{ks r:Β},(QC t ks r).length=r.length
 | [],_=>rfl
 |s::ks,r=>by rw[QC,bM,Qy]
theorem f7{b:Β}:∀{ks r:Β},(Zb b ks r).length=r.length
 | [],_=>rfl
 |s::ks,r=>by rw[Zb,lG,f7]
theorem ko{r:Β}{i:Nat}{x:Int}(h:zy r)(hx:aR x):zy (r.set i x):=λy a=>by
 rcases List.mem_or_eq_of_mem_set a with z|z
 ·exact h y z
 ·rw[z];exact hx
theorem ac(x:Int):aR (x%16):=#[Fp _ ⋯,Ft _ ⋯]
theorem hX{r:Β}(h:zy r)(i:Nat):aR (r.getD i 0):=by
 rw[Jz]
 by_cases hi:i<r.length
 ·rw[Jg hi];exact h _ (Fi hi)
 ·rw[GB (by lia)];exact#[⋯,⋯]
theorem wO{t:Β}(p:t.Perm HW):zy t:=λx a=>kC (p.mem_iff.mp a)
theorem wg{t:Β}(p:t.Perm HW){s:Int}{r:Β}{i:Nat}(h:zy r):zy (iB t s r i):=ko h (hX (wO p) _)
theorem mH{b:Β}{s:Int}{r:Β}{i:Nat}(h:zy r):zy (gf b s r i):=ko h (ac _)
theorem bW{t:Β}(p:t.Perm HW){s:Int}{r:Β}(h:zy r):∀{n:Nat},zy (ZW t s r n)
 |0=>h
 |n+1=>wg p (bW p h)
theorem kB{b:Β}{s:Int}:∀{n:Nat} {r:Β},zy r->zy (aA b s r n)
 |0,_,h=>h
 |n+1,_,h=>kB (n:=n) (mH h)
theorem kR{t:Β}(p:t.Perm HW):∀{ks r:Β},zy r->zy (QC t ks r)
 | [],_,h=>h
 |s::ks,_,h=>kR (ks:=ks) p (bW p h)
theorem kX{b:Β}:∀{ks r:Β},zy r->zy (Zb b ks r)
 | [],_,h=>h
 |s::ks,_,h=>kB (kX (ks:=ks) h)
theorem jV{r:Β}{i:Nat}{x:Int}(h:i<r.length):(r.set i x).getD i 0=x:=by
 rw[Jz,Gd h];rfl
theorem nj{r:Β}{i j:Nat}{x:Int}(h:i≠j):(r.set i x).getD j 0=r.getD j 0:=by
 rw[Jz,Ge h,<- Jz]
theorem DV{n i:Nat}(h2:2<=n)(hi:i<n):i≠yt n i:=by unfold yt;split<;>lia
theorem Cq{r:Β}{i:Nat}{x:Int}(h2:2<=r.length)(hi:i<r.length):ah (r.set i x) i=ah r i:=by
 unfold ah;rw[Fl,nj (DV h2 hi)]
theorem vT{r:Β}{i:Nat}(hi:i<r.length):r.set i (r.getD i 0)=r:=by
 rw[Jz,Jg hi];exact List.set_getElem_self hi
theorem yf{t:Β}(p:t.Perm HW){z:Int}(h:aR z):(zz t).getD (t.getD z.toNat 0).toNat 0=z:=by
 have a:z.toNat<t.length:=by rw[om p];have:=h.1;have:=h.2;lia
 have e:t.getD z.toNat 0=t[z.toNat]:=by rw[Jz,Jg a];rfl
 have bd:=ku p a;have c:t[z.toNat].toNat<(zz t).length:=by rw[aL];lia
 rw[e,Jz,Jg c,Fn,Ai p (by rw[aL]at c;exact c)]
 have d:((t[z.toNat].toNat:Nat):Int)=t[z.toNat]:=by lia
 rw[d,sZ p a]
 have:=h.1
 lia
theorem vM{t:Β}(p:t.Perm HW){s:Int}{r:Β}{i:Nat}(hr:zy r)(h2:2<=r.length)(hi:i<r.length):gf (zz t) s (iB t s r i) i=r:=by
 unfold gf iB;rw[jV hi,Cq h2 hi,List.set_set,yf p (ac _)];have a:=hX hr i;have e:((r.getD i 0+s+i+ah r i)%16-s-i-ah r i)%16=r.getD i 0:=by
  have:=a.1
  have:=a.2
  lia
 rw[e,vT hi]
theorem kT{t:Β}(p:t.Perm HW){s:Int}{r:Β}(hr:zy r)(h2:2<=r.length):∀{n:Nat},n<=r.length->aA (zz t) s (ZW t s r n) n=r
 |0,_=>rfl
 |n+1,hn=>by
  rw[ZW,aA,vM p (bW p hr) (by rw[Qy];exact h2) (by rw[Qy];lia)]
  exact kT p hr h2 (by lia)
theorem mE{t:Β}(p:t.Perm HW):∀{ks r:Β},zy r->2<=r.length->Zb (zz t) ks (QC t ks r)=r
 | [],_,_,_=>rfl
 |s::ks,r,hr,h2=>by
  rw[Zb,QC,mE p (bW p hr) (by rw[Qy];exact h2),bM,Qy,kT p hr h2 (Jf _)]
theorem lV(t:Β):∀(ks:Β) (s:Int) (r:Β),QC t (ks++[s]) r=ZW t s (QC t ks r) r.length
 | [],_,_=>rfl
 |a::ks,s,r=>by rw[List.cons_append,QC,lV t ks s,QC,Qy]
def Sq(K:ι)(H:Hp)(a:Δ)(xs:Ε):Prop:=G0 K H a xs\/G9 K H a xs
theorem Sq.same{K:ι}{H H':Hp}{a:Δ}{xs:Ε}(e:GS H H')(h:Sq K H a xs):Sq K H' a xs:=h.elim (λh=> .inl (e.seq h)) λh=> .inr (GS.sqt e h)
theorem Sq.lst{K:ι}{H:Hp}{a:Δ}{xs:Ε}(h:H a=↑(.lst xs)):Sq K H a xs:= .inl (G0.of h)
theorem Sq.tup{K:ι}{H:Hp}{a:Δ}{xs:Ε}(h:H a=↑(.tup xs)):Sq K H a xs:= .inr (G9.of h)
inductive Mq (K:ι) (vs:Ε) (H:Hp) (Q:VK):Prop
 |mk (a b c:Δ) (t ks ds:Β) (h1:vs=[.ref a,.ref b,.ref c]) (h2:Sq K H a (t.map V.int)) (h3:Sq K H b (ks.map V.int)) (h4:Sq K H c (ds.map V.int)) (h5:t.length=16) (h6:1<=ds.length) (h7:ds.length<64) (h8:∀p H',GS H H'->H p=none->H' p=↑(.tup ((QC t ks ds).map V.int))->Q (.ref p) H')
def il(K:ι):Sp:=λvs H Q _=>Mq K vs H Q
inductive LG (K:ι) (vs:Ε) (H:Hp) (Q:VK):Prop
 |mk (a b c:Δ) (t ks ds:Β) (h1:vs=[.ref a,.ref b,.ref c]) (h2:Sq K H a (t.map V.int)) (h3:Sq K H b (ks.map V.int)) (h4:Sq K H c (ds.map V.int)) (h5:t.Perm HW) (h6:zy ds) (h7:1<=ds.length) (h8:ds.length<64) (h9:∀p H',GS H H'->H p=none->H' p=↑(.tup ((Zb (zz t) ks ds).map V.int))->Q (.ref p) H')
def jd(K:ι):Sp:=λvs H Q _=>LG K vs H Q
theorem aI{r:Β}{i:Nat}{z:Int}(e:z=(i:Int))(h:i<r.length):zY (r.map V.int) z=↑(.int (r.getD i 0)):=by
 rw[Bs e (iF h),Jz,Jg h];rfl
theorem tR{r:Β}{i:Nat}{z:Int}(e:z=(i:Int)-1)(h:i<r.length):zY (r.map V.int) z=↑(.int (ah r i)):=by
 subst e;unfold ah yt
 by_cases a:i=0
 ·subst a
  rw[Jc Z];have c:r.length-1<r.length:=by lia
  unfold zY Z1;rw[Je,Jb (by lia),Jc (by lia)]
  have d:((((0:Nat):Int)-1)+(r.length:Int)).toNat=r.length-1:=by lia
  show(r.map V.int)[((((0:Nat):Int)-1)+(r.length:Int)).toNat]? =_
  rw[d,iF c,Jz,Jg c];rfl
 ·rw[Jb a]
  exact aI (by lia) (by lia)
theorem Sq.ix{K:ι}{H:Hp}{a:Δ}{xs:Ε}{i:Int}{v:V}{Q:VK}(h:Sq K H a xs)(e:zY xs i=↑v)(q:Q v H):CD K (.ref a) (.int i) H Q\/wv K (.ref a) (.int i) H Q:=
 h.elim (λh=> .inl #[a,xs,i,v,Z,Z,h,e,q]) λh=> .inr #[a,xs,i,v,Z,Z,h,e,q]
section
variable{K:ι}{a:Δ}{xs:Ε}{g:TG}{tb:TS}{D:HY}{σ:L2.St}{H H0:Hp}
theorem BC(c:Sq K H0 a xs)(Pv:Nat->L2.St->Hp->Prop)(d:Pv 0 σ H)(hk:∀i e H',Pv i e H'->GS H0 H')
  (hs:∀i x σ H,xs[i]? =↑x->Pv i σ H->g x σ H λf h=>tb {D with nx:=Pv (i+1),ct:=Pv (i+1),bk:=D.nx} f h)(hd:∀σ H,Pv xs.length σ H->D.nx σ H):
  ((∃xs,G0 K H a xs)/\ZN (cE K a) g tb D σ H)\/((∃xs,G9 K H a xs)/\ZN (cV K a) g tb D σ H):=by
 rcases c with c|c
 ·exact .inl #[#[xs,(hk _ _ _ d).seq c],Qj Pv d (λi σ H _ p=>(hk i σ H p).seq c) hs hd]
 ·exact .inr #[#[xs,GS.sqt (hk _ _ _ d) c],hW Pv d (λi σ H _ p=>GS.sqt (hk i σ H p) c) hs hd]
theorem vZ(c:Sq K H0 a xs)(Pv:Nat->L2.St->Hp->Prop)(d:Pv 0 σ H)(hk:∀i e H',Pv i e H'->GS H0 H')
  (hs:∀i x σ H,i<xs.length->xs[xs.length-1-i]? =↑x->Pv i σ H->g x σ H λf h=>tb {D with nx:=Pv (i+1),ct:=Pv (i+1),bk:=D.nx} f h)(hd:∀σ H,Pv xs.length σ H->D.nx σ H):
  (∃xs,G0 K H a xs/\ZN (sX K a xs.length) g tb D σ H)\/(∃xs,G9 K H a xs/\ZN (sF K a xs.length) g tb D σ H)\/(∃n:Nat,H a=↑(.rng 0 n)/\(n:Int)<2 ^ 62/\ZN (sW n) g tb D σ H):=by
 rcases c with c|c
 ·exact .inl #[xs,(hk _ _ _ d).seq c,wq Pv d (λi σ H p=>(hk i σ H p).seq c) hs hd]
 ·exact .inr (.inl #[xs,GS.sqt (hk _ _ _ d) c,wG Pv d (λi σ H p=>GS.sqt (hk i σ H p) c) hs hd])
end
theorem Zp{H a:Hp}{l:Δ}{o:HO}(s:GS H a)(h:H l=none):GS H (GW a l o):=λd u e=>by
 rw[qm (qo e h)];exact s _ _ e
theorem im{ks:Β}{j:Nat}{s:Int}(h:ks[j]? =↑s):ks.take (j+1)=ks.take j++[s]:=by rw[J9,h];rfl
theorem uG{ks:Β}{j:Nat}{s:Int}(h:ks[j]? =↑s):ks.drop j=s::ks.drop (j+1):=by
 obtain⟨a,e⟩:=Js.mp h;rw[List.drop_eq_getElem_cons a,e]
inductive Lo (H:Hp):Nat->V->V->Prop where
 |int (n:Nat) (i:Int):Lo H n (.int i) (.int i)
 |str (n:Nat) (x:Str):Lo H n (.str x) (.str x)
 |non (n:Nat):Lo H n .non .non
 |bl (n:Nat) (b:Bool):Lo H n (.bl b) (.bl b)
 | tup {n:Nat} {a b:Δ} {xs ys:Ε} (h1:Rd H a (.tup xs)) (h2:Rd H b (.tup ys)) (hl:xs.length=ys.length)
   (hi:∀(i:Nat) (x y:V),xs[i]? =↑x->ys[i]? =↑y->Lo H n x y):Lo H (n+1) (.ref a) (.ref b)
 | lst {n:Nat} {a b:Δ} {xs ys:Ε} (h1:H a=↑(.lst xs)) (h2:H b=↑(.lst ys)) (hl:xs.length=ys.length)
   (hi:∀(i:Nat) (x y:V),xs[i]? =↑x->ys[i]? =↑y->Lo H n x y):Lo H (n+1) (.ref a) (.ref b)
theorem gM(n:Nat):((List.range n).all λ_=>true)=true:=by simp
section
open SeqAt
variable{Oa:GR}{σ:L2.St}{H:Hp}{s:Θ}
theorem zS{xs:Ε}{us:Ζ}(r:GZ xs us){j:Nat}(h:j<us.length):∃x,xs[j]? =↑x/\G8 x us[j]:=by
 have e:=r.length;have a:j<xs.length:=by lia
 obtain⟨u,c,d⟩:=r.get (Jg a)
 rw[Jg h]at c;cases c
 exact⟨_,Jg a,d⟩
theorem vE(I:L2.GX X Oa σ H s){n:Nat}{x y:V}(h:Lo H n x y):∀{v u:Γ} {A:Around},G8 x v->G8 y u->A.units+n<cLine->EqAt A s v u true:=by
 induction h with
 |int n i=>rintro v u A ⟨t,rfl⟩ ⟨C,rfl⟩ _;have:=EqAt.int_int (A:=A) (s:=s) i t i C;rwa [Fu]at this
 |str n z=>rintro v u A ⟨t,rfl⟩ ⟨C,rfl⟩ _;have:=EqAt.str_str (A:=A) (s:=s) z t z C;rwa [Fu]at this
 |non n=>
  intro v u A l g _
  cases(show v=Γ.none from l)
  cases(show u=Γ.none from g)
  exact EqAt.same _
 |bl n b=>
  intro v u A l g _
  cases(show v=Γ.bool b from l)
  cases(show u=Γ.bool b from g)
  exact EqAt.same _
 | @tup n a b xs ys h1 h2 hl _ ih=>
  intro v u A l g G
  cases(show v=Γ.ref a from l)
  cases(show u=Γ.ref b from g)
  by_cases c:a=b
  ·rw[c];exact EqAt.same _
  ·obtain⟨f,o,D,_⟩:=I.tuple (.inl h1)
   obtain⟨d,m,p2,_⟩:=I.tuple (.inl h2)
   have F:=o.length;have E:=m.length;have e:=RcAt.tuples (A:=A) (e:=λ_=>true) (show s.heap.IsTuple a f.toArray from D) (show s.heap.IsTuple b d.toArray from p2) (by lia) (λj r B=>by
    obtain⟨x,ex,q⟩:=zS o (j:=j) (by simpa using r)
    obtain⟨y,w,p⟩:=zS m (j:=j) (by simpa using B)
    exact ih j x y ex w q p (by rw[Ga];lia))
   rw[gM,show(f.toArray.size==d.toArray.size)=true by simp;lia]at e
   exact EqAt.of_refs c e
 | @lst n a b xs ys h1 h2 hl _ ih=>
  intro v u A l g G
  cases(show v=Γ.ref a from l)
  cases(show u=Γ.ref b from g)
  by_cases c:a=b
  ·rw[c];exact EqAt.same _
  ·obtain⟨f,o,D,_⟩:=I.list (G0.of h1)
   obtain⟨d,m,p2,_⟩:=I.list (G0.of h2)
   have F:=o.length;have E:=m.length;have e:=RcAt.lists (A:=A) (e:=λ_=>true) D.isList p2.isList (by simp;lia) (by lia) (λj r B=>by
    obtain⟨x,ex,q⟩:=zS o (j:=j) (by simpa using r)
    obtain⟨y,w,p⟩:=zS m (j:=j) (by simpa using B)
    exact ih j x y ex w q p (by rw[Ga];lia))
   rw[gM]at e;exact EqAt.of_refs c e
theorem CI(I:L2.GX X Oa σ H s){n:Nat}{x y:V}{v u:Γ}{A:Around}(h:Lo H n x y)(m:G8 x v)(l:G8 y u)(hu:A.units+n<cLine):RcAt A s v u true/\RcNeAt A s v u false:=by
 cases h with
 |int n i=>
  obtain⟨t,rfl⟩:=m;obtain⟨B,rfl⟩:=l;have g:=RcAt.int_int (A:=A) (s:=s) i t i B
  have f:=RcNeAt.int_int (A:=A) (s:=s) i t i B
  rw[Fu]at g f
  exact#[g,f]
 |str n z=>
  obtain⟨t,rfl⟩:=m;obtain⟨B,rfl⟩:=l;have g:=RcAt.str_str (A:=A) (s:=s) z t z B
  have f:=RcNeAt.str_str (A:=A) (s:=s) z t z B
  rw[Fu]at g f
  exact#[g,f]
 |non n=>
  cases(show v=Γ.none from m)
  cases(show u=Γ.none from l)
  exact#[RcAt.none_none,RcNeAt.none_none]
 |bl n b=>
  cases(show v=Γ.bool b from m)
  cases(show u=Γ.bool b from l)
  have g:=RcAt.bool_bool (A:=A) (s:=s) b b
  have f:=RcNeAt.bool_bool (A:=A) (s:=s) b b
  rw[Fu]at g f
  exact#[g,f]
 | @tup n a b xs ys h1 h2 hl ih=>
  cases(show v=Γ.ref a from m)
  cases(show u=Γ.ref b from l)
  obtain⟨d,r,C,_⟩:=I.tuple (.inl h1)
  obtain⟨c,o,p2,_⟩:=I.tuple (.inl h2)
  have J:=r.length;have G:=o.length;have q:∀j (p:j<d.toArray.size) (w:j<c.toArray.size),EqAt A.in1 s d.toArray[j] c.toArray[j] ((λ_=>true) j):=λj p w=>by
   obtain⟨x,ex,E⟩:=zS r (j:=j) (by simpa using p)
   obtain⟨y,F,D⟩:=zS o (j:=j) (by simpa using w)
   exact vE I (ih j x y ex F) E D (by rw[Ga];lia)
  have g:=RcAt.tuples (A:=A) (e:=λ_=>true) (show s.heap.IsTuple a d.toArray from C) (show s.heap.IsTuple b c.toArray from p2) (by lia) q
  have f:=RcNeAt.tuples (A:=A) (e:=λ_=>true) (show s.heap.IsTuple a d.toArray from C) (show s.heap.IsTuple b c.toArray from p2) (by lia) q
  rw[gM,show(d.toArray.size==c.toArray.size)=true by simp;lia]at g f
  exact#[g,f]
 | @lst n a b xs ys h1 h2 hl ih=>
  cases(show v=Γ.ref a from m)
  cases(show u=Γ.ref b from l)
  obtain⟨d,r,C,_⟩:=I.list (G0.of h1)
  obtain⟨c,o,p2,_⟩:=I.list (G0.of h2)
  have J:=r.length;have G:=o.length;have q:∀j (p:j<d.toArray.size) (w:j<c.toArray.size),EqAt A.in1 s d.toArray[j] c.toArray[j] ((λ_=>true) j):=λj p w=>by
   obtain⟨x,ex,E⟩:=zS r (j:=j) (by simpa using p)
   obtain⟨y,F,D⟩:=zS o (j:=j) (by simpa using w)
   exact vE I (ih j x y ex F) E D (by rw[Ga];lia)
  have g:=RcAt.lists (A:=A) (e:=λ_=>true) C.isList p2.isList (by simp;lia) (by lia) q
  have f:=RcNeAt.lists (A:=A) (e:=λ_=>true) C.isList p2.isList (by simp;lia) (by lia) q
  rw[gM]at g f
  exact#[g,f]
inductive NP (b:Bool) (x:V) (y:V) (H:Hp) (Q:VK):Prop
 |mk (n:_) (h1:n<=32) (h2:Lo H n x y) (h3:Q (.bl b) H)
def EF(b:Bool):R2:=λx y H Q=>NP b x y H Q
theorem mK{k:Nat}(hr:HB k X.A):zt X (compareOp .NotEq) (EF false):=by
 intro Oa s σ H x y v u Q I c a h;obtain⟨n,d,e,q⟩:=h
 exact(CI I e c a (by have:=hr.un;lia)).2 _ _ _ _ #[.bl _,H,I,Z,q]
end
end L3
namespace L3
open PySem PySem.Spec PyProof.Rows L2
open Sem (wp)
def yq(x:Str):It:=#[λi _=>i<x.cps.size,λi H v H'=>H'=H/\∃c,x.cps[i]? =↑c/\v= .str #[(List.toArray [c])],λi _=>x.cps.size<=i]
theorem v9{P:Ξ}{w:Ω}{K:ι}{tg:Φ}(it:Δ)(x:Str)(t:Tok):Lh P w K tg (yq x) [it] it (λi h=>h.IsStrIter it "str_ascii_iterator" x t i) where
 mem:=by simp
 obj:=λi h st b a=>by
  have e:b=it:=by simpa using a
  subst e;obtain⟨o,e,c,d⟩:=st
  exact#[o,e,λv z=>by rw[d]at z;cases z]
 keep:=λi h h' st k=>let⟨o,e,r⟩:=st;#[o,k it (by simp) o e,r]
 item:=by
  intro X m n B A i Oa s σ H E I g st F;subst m n B;obtain⟨D,p,G,j,l,y⟩:=g it (by simp)
  have W:=Walks.strAscii (prog:=X.prog) (w:=X.w) (I.ok.hd A) it x t
  refine W.item i s _ _ F st λv h' tk M f N=>?_
  obtain⟨c,u,q,rfl⟩:=M;have O:L2.GX X Oa σ H {s with heap:=h',toks:=tk}:=I.turned (λb o a e=>N b o (by simpa using a) e) D p j l y
  obtain⟨o,e,L,d⟩:=id f
  exact#[_,Z,bS (s:={s with heap:=h',toks:=tk}) e L d ⋯ #[.str #[(List.toArray [c])],H,O,#[u,Z],#[Z,c,q,Z],f,λb a=>(g b a).1]]
 done:=by
  intro X m n B A i Oa s σ H E I g st F;subst m n B;obtain⟨D,p,G,j,l,y⟩:=g it (by simp)
  have C:x.cps.size<=i:=F
  exact wpAny_pyNext_ascii_end (I.ok.hd A) st (by simp [C]) λh' J=>#[Z,I.turned (t':=s.toks) (λb o a e=>J b o a e) D p j l y]
 self:=λ_ _ _ _ _ st h=>wpAny_pyIter_striter_ascii st h
section
variable{X:Cx}{tg:Φ}
def BO(tl:TE):TI:=λσ H R=>tl σ H λv H1=>∃x,v= .str x/\x.cps.all (· <128)=true/\R (yq x) H1
theorem BK{l:Φ}{tl:TE}(hl:PE X l tl):PI X tg l (BO tl):=by
 intro Oa s σ H R I h;refine qz (hl Oa s σ H _ I h) λv c i=>?_
 obtain⟨x,H1,a,j,f⟩:=i;obtain⟨z,rfl,g,q⟩:=f;obtain⟨t,rfl⟩:=j;refine wpAny_pyIter_ascii g ?_
 refine#[c.heap.objs.size,[c.heap.objs.size],_,_,H1,Z,a.kept (t':=c.toks) λb o e=>Jl _ e,v9 _ z t,#[_,Jq _ Z,Z,Z],λb d=>?_,q]
 rw[Jh.mp d];exact a.fpOk (Jf _) (a.hok.fresh (Jf _))
theorem vJ{l:Φ}{tl:TE}(hl:QE X l tl):QI X tg l (BO tl):=#[BK hl.h]
end
theorem AQ{x:Str}{g:TG}{tb:TS}{D:HY}{σ:L2.St}{H:Hp}(Pv:Nat->L2.St->Hp->Prop)(d:Pv 0 σ H)
  (hs:∀i c σ H,x.cps[i]? =↑c->Pv i σ H->g (.str #[(List.toArray [c])]) σ H λa f=>tb {D with nx:=Pv (i+1),ct:=Pv (i+1),bk:=D.nx} a f)(hd:∀σ H,Pv x.cps.size σ H->D.nx σ H):ZN (yq x) g tb D σ H:=
 eZ Pv d (λi σ H hi p=>hi) (λ_=>Jf _) (λi v σ H H' hi p y=>by
  obtain⟨rfl,c,e,rfl⟩:=y;exact hs i c σ H' e p) hd
section
variable{X:Cx}{o e:Φ}{es:Ι}{to:TE}{t:TA}{name:Str}{apos cpos:Pos}{T id:String}{r:V->Ε->Hp->VK->Prop}
theorem QZ(i:PlainAttrs T)(g:Slot T name id)(h:typeOf (.builtin id)=pure (.type "method_descriptor"))(hm:gr X id r)(ho:QE X o to)(ha:QA X (e::es) t)
  (d:attributeBase o name X.env (eval o X.env)=eval o X.env:=by rfl)
  (f:((backTo cpos (θ (e::es) X.env)).all (λx=> ! x.1)&&(backToKw cpos (keywordEach [] X.env)).all (λx=>x.1.isSome)
   &&decide ((e::es).length+([]:ο).length+(if([]:ο).isEmpty then 0 else 1)<30))=true:=by rfl)
  (c:(apos.endLine==cpos.line)=true:=by rfl)(hs:θ (e::es) X.env=(false,eval e X.env)::θ es X.env:=by rfl)(a:(backTo cpos (θ es X.env)).any (·.1)=false:=by rfl):
  QE X (.Call (.Attribute o name apos) (e::es) [] cpos) (Dn X.K T r to t):=#[DD i g h hm ho.h ha.h d f c hs a]
theorem zW:gr X "list.append" pj:=uI
theorem oQ:∀{ys:Α} {us:Ζ},GZ (ys.map V.str) us->StrsAre us ys
 | [],_,.nil=> .nil
 |y::ys,_,.cons r t=>by
  obtain⟨u,rfl⟩:=(show∃u,_=Γ.str y u from r)
  exact .cons _ _ (oQ t)
end
theorem bg(ns:Β):∀n,n<=ns.length->preSum (λi=>ns.getD i 0) n=(ns.take n).sum
 |0,_=>by simp [preSum]
 |n+1,h=>by
  have a:n<ns.length:=by lia
  rw[preSum,bg ns n (by lia),J9,Jg a,Option.toList_some,List.sum_append,Jz,Jg a]
  simp
theorem uB{B:Int}:∀{ns:Β},(∀z∈ns,0<=z/\z<=B)->0<=ns.sum/\ns.sum<=ns.length*B
 | [],_=>#[by simp,by simp]
 |n::r,h=>by
  have h1:=h n JB;have c:=uB (ns:=r) λz a=>h z (JM _ a)
  rw[List.sum_cons,JN];refine#[by lia,?_]
  have:(((r.length+1:Nat):Int))*B=r.length*B+B:=by rw[Int.natCast_add,Int.add_mul];simp
  lia
section
variable{X:Cx}
theorem uM(hc:X.calm=true):zi X (.builtin "sum") (λxs H Q=>∃(p:Δ) (ns:Β),xs=[.ref p]/\Sq X.K H p (ns.map V.int)/\ns.length<=1000/\(∀z∈ns,0<=z/\z<=1000000)/\Q (.int ns.sum) H):=by
 intro Oa s σ H xs O Q I r h;obtain⟨p,ns,rfl,m,T,J,q⟩:=h;obtain⟨u,rfl,N⟩:=zM r;cases N;have bd:∀n,n<=ns.length->0<=preSum (λi=>ns.getD i 0) n/\preSum (λi=>ns.getD i 0) n<=1000000000:=λn K=>by
  rw[bg ns n K];have h1:=uB (B:=1000000) (ns:=ns.take n) λz y=>J z (List.mem_of_mem_take y)
  have S:(ns.take n).length<=1000:=by rw[EX];lia
  lia
 have w:∀j,j<ns.length->InLong ((λi=>ns.getD i 0) j)/\InLong (preSum (λi=>ns.getD i 0) (j+1)):=λj l=>by
  have R:=bd (j+1) (by lia)
  have P:0<=ns.getD j 0/\ns.getD j 0<=1000000:=by
   rw[Jz,Jg l];exact J _ (Fi l)
  unfold InLong;simp only
  lia
 have eS:preSum (λi=>ns.getD i 0) ns.length=ns.sum:=by rw[bg ns _ (Jf _),E5]
 have val:∀{a:Ζ},GZ (ns.map V.int) a->∀(i:Nat) (v:Γ),a.toArray[i]? =↑v->∃t,v= .int ((λi=>ns.getD i 0) i) t:=λ{a} g i v M=>by
  have C:a[i]? =↑v:=by simpa using M
  have hi:i<a.length:=(Js.mp C).1
  obtain⟨x,ex,L⟩:=zS g hi;obtain⟨z,rfl,y⟩:=Qg ex;obtain⟨t,G⟩:=L;refine#[t,?_]
  rw[(Js.mp C).2]at G;rw[G]
  show Γ.int z t=Γ.int (ns.getD i 0) t
  rw[Jz,y];rfl
 rcases m with m|m
 ·obtain⟨a,g,pl,y⟩:=I.list m
  have d:ns.length=a.length:=by have:=g.length;rwa [Je]at this
  have c:p<s.heap.objs.size:=by obtain⟨_,e,_⟩:=pl.isList;exact Jj e
  refine call_sum_walk (FO pl.isList ?_)
  refine#[s.heap.objs.size,[s.heap.objs.size,p],[s.heap.objs.size],a.toArray.size,_,_,λi=>ns.getD i 0,Z,Walks.list (A:=X.A.in1) (I.ok.hd hc) _ p (Jk c) a.toArray,
   #[#[_,Jq _ Z,Z,Z],pl.isList.push _],λb f=>?_,val g,λj l=>w j (by simp at l;lia),λh' tk t' hk=>?_]
  ·have sz:(s.heap.push {cls:= .type "list_iterator",data:= .fields (List.toArray [.ref p,.int 0 0])}).objs.size=s.heap.objs.size+1:=JX ..
   simp only[Jm,JE,JF]at f
   show b<(Ψ.push s.heap _).objs.size
   rw[JX];rcases f with rfl|rfl
   ·exact E2 _
   ·exact EY c
  ·have D:preSum (λi=>ns.getD i 0) a.toArray.size=ns.sum:=by rw[Jr,<- d];exact eS
   rw[D];refine#[.int _,H,I.kept (h':=h') (t':=tk) λb o q=>hk b o (λE=>?_) (Jl _ q),#[_,Z],q]
   rw[Jh.mp E]at q;exact EU _ (Jj q)
 ·obtain⟨a,g,pl,y⟩:=I.tuple m
  have d:ns.length=a.length:=by have:=g.length;rwa [Je]at this
  have F:s.heap.IsTuple p a.toArray:=pl
  have c:p<s.heap.objs.size:=by obtain⟨_,e,_⟩:=F;exact Jj e
  refine call_sum_walk (FP F ?_)
  refine#[s.heap.objs.size,[s.heap.objs.size,p],[s.heap.objs.size],a.toArray.size,_,_,λi=>ns.getD i 0,Z,Walks.tuple (A:=X.A.in1) (I.ok.hd hc) _ p (Jk c) a.toArray,
   #[#[_,Jq _ Z,Z,Z],let⟨o,e,r⟩:=F;#[o,Jl _ e,r]],λb f=>?_,val g,λj l=>w j (by simp at l;lia),λh' tk t' hk=>?_]
  ·simp only[Jm,JE,JF]at f
   show b<(Ψ.push s.heap _).objs.size
   rw[JX];rcases f with rfl|rfl
   ·exact E2 _
   ·exact EY c
  ·have D:preSum (λi=>ns.getD i 0) a.toArray.size=ns.sum:=by rw[Jr,<- d];exact eS
   rw[D];refine#[.int _,H,I.kept (h':=h') (t':=tk) λb o q=>hk b o (λE=>?_) (Jl _ q),#[_,Z],q]
   rw[Jh.mp E]at q;exact EU _ (Jj q)
end
end L3
namespace L3
open PySem PySem.Spec PyProof.Rows L2
section
variable{X:Cx}
theorem wb:xf X (λx y H Q=>∃(p:Δ) (xs:Ε) (i:Nat) (v:V),x= .ref p/\y= .int (i:Int)/\H p=↑(.lst xs)/\xs[i]? =↑v/\Q v H):=by
 intro Oa s σ H o i w A Q I l d h;obtain⟨p,xs,j,v,rfl,rfl,f,a,q⟩:=h;cases l;obtain⟨t,rfl⟩:=d;obtain⟨c,r,pl,m⟩:=I.list (G0.of f)
 obtain⟨u,e,g⟩:=r.get a;have n:=r.length;have z:=ZS;have B:j<xs.length:=(Js.mp a).1
 exact wpAny_getItem_list pl.isList (by lia) (by lia) (by simpa using e) #[v,H,I,g,q]
end
def Qq(z:Str):Prop:=(∀c∈z.cps.toList,97<=c/\c<=122)/\1<=z.cps.toList.length/\z.cps.toList.length<=8
theorem lF{z:Str}(h:Qq z):z.cps.all (· <128)=true:=by
 rw[Array.all_eq_true'];intro c a
 have:=h.1 c (by simpa using a)
 simp;lia
def wN(c:Nat):Β:=[((c:Int)-97)%16,((c:Int)-97)/16]
def Q1(a:Κ):Β:=a.flatMap wN
theorem vi(a:Κ)(c:Nat):Q1 (a++[c])=Q1 a++wN c:=by simp [Q1]
theorem jF(a:Κ):(Q1 a).length=2*a.length:=by
 induction a with
 |nil=>rfl
 |cons c r ih=>simp only[Q1,List.flatMap_cons,Jv,JN]at ih⊢;rw[ih];simp [wN];lia
def iK(ds:Β)(j:Nat):Nat->Int
 |0=>0
 |n+1=>iK ds j n+if n%4=j then ds.getD n 0 else 0
def ZK(ds:Β)(n:Nat):Β:=[iK ds 0 n,iK ds 1 n,iK ds 2 n,iK ds 3 n]
theorem uv(ds:Β)(n:Nat):(ZK ds n).set (n%4) ((ZK ds n).getD (n%4) 0+ds.getD n 0)=ZK ds (n+1):=by
 have h:n%4=0\/n%4=1\/n%4=2\/n%4=3:=by lia
 rcases h with h|h|h|h<;>simp [ZK,iK,h]
def aZ(ds:Β):Β:=(ZK ds ds.length).map (· %16)
theorem lX(ds:Β):(aZ ds).length=4:=Z
inductive LH (vs:Ε) (H:Hp) (Q:VK):Prop
 |mk (z:_) (h1:vs=[.str z]) (h2:Qq z) (h3:∀l H',GS H H'->H l=none->H' l=↑(.lst ((Q1 z.cps.toList).map V.int))->Q (.ref l) H')
def jA:Sp:=λvs H Q _=>LH vs H Q
inductive Mr (K:ι) (vs:Ε) (H:Hp) (Q:VK):Prop
 |mk (a b:Δ) (z:Str) (t ks:Β) (h1:vs=[.ref a,.ref b,.str z]) (h2:Sq K H a (t.map V.int)) (h3:Sq K H b (ks.map V.int)) (h4:Qq z) (h5:t.length=16) (h6:∀p H',GS H H'->H p=none->H' p=↑(.tup ((QC t ks (aZ (Q1 z.cps.toList))).map V.int))->Q (.ref p) H')
def iE(K:ι):Sp:=λvs H Q _=>Mr K vs H Q
theorem AS{a:Κ}{i c:Nat}(h:a[i]? =↑c):a.take (i+1)=a.take i++[c]:=by rw[J9,h];rfl
theorem oO{z:Str}{i c:Nat}(h:z.cps[i]? =↑c):z.cps.toList[i]? =↑c:=by simpa using h
theorem wf{X:Cx}{a:Scope}{y z:Str}{j k:Nat}(f:a.kind= .function)(d:∀x∈a.names,x.2= .local->a.names.lookup x.1=some .local)(c:∀x∈a.names,x.2≠ .cell)
  (e:∀x∈a.names,x.2= .free->x.1∈([y,z]:Α))(h1:X.N[j]? =↑y)(h2:X.env.kindOf y=some .cell)(n:(relabel a X.env).names.lookup y=some .cell)
  (l:X.N[k]? =↑z)(o:X.env.kindOf z=some .cell)(m:(relabel a X.env).names.lookup z=some .cell):HP X a [y,z] [j,k]:=
 #[f,d,c,e,Z,λi p q g h=>by
  match i with
  |0=>cases g;cases h;exact#[h1,h2,n]
  |1=>cases g;cases h;exact#[l,o,m]
  |i+2=>simp at g]
theorem wk{X:Cx}{y z:Str}{c d:Δ}(h:X.env.cells.lookup y=↑c)(g:X.env.cells.lookup z=↑d):∀u e,([(y,c),(z,d)]:List (Str×Δ)).lookup u=↑e->X.env.cells.lookup u=↑e:=λu e a=>by
 by_cases f:u=y
 ·subst f
  simp at a
  rw[<- a];exact h
 ·by_cases i:u=z
  ·subst i
   simp [J7,show(u==y)=false from by simpa using f]at a
   rw[<- a];exact g
  ·simp [J7,show(u==y)=false from by simpa using f,show(u==z)=false from by simpa using i]at a
end L3
namespace L3
open PySem PySem.Spec PyProof.Rows L2
open Sem (wp)
section
variable{prog:Ξ}{w:Ω}{A:Around}{E:GP}{s:Θ}
theorem gP{it t:Δ}{items:Array Γ}(g:t≠it):∀(n i:Nat) (s:Θ) (Q:Ζ->Θ->Prop),s.heap.IsListIter it t i->s.heap.IsList t items->i+n<=items.size->
  (∀h',h'.IsListIter it t (i+n)->Ψ.SameBut it s.heap h'->Q ((items.toList.drop i).take n) {s with heap:=h'})->ε (model prog w) A (draw (.ref it) n) Q E s
 |0,i,s,Q,hit,_,_,hQ=>by
  show ε _ _ (pure []) Q E s
  refine Jd ?_
  have:=hQ s.heap hit (Ψ.SameBut.refl ..)
  simpa using this
 |n+1,i,s,Q,hit,ht,hle,hQ=>by
  have h:i<items.size:=by lia
  show ε _ _ (pyNext (.ref it) >>= _) Q E s
  refine Ja (wpAny_pyNext_list_item hit ht (x:=items[i]) (by simp [h]) λj c a=>?_)
  have m:(Θ.heap {s with heap:=j}).IsList t items:=let⟨o,e,r⟩:=ht;#[o,a.extBut _ _ g e,r]
  refine Ja (JI (gP g n (i+1) _ _ c m (by lia) λl d f=>Jd ?_))
  have p:items.toList.drop i=items[i]::items.toList.drop (i+1):=by simp [List.drop_eq_getElem_cons,h]
  have z:=hQ l (by rw[show i+(n+1)=i+1+n by lia];exact d) (a.trans f)
  rw[p,List.take_succ_cons]at z;exact z
theorem lR{t:Δ}{items:Array Γ}{a:List (Bool×(Γ->Sem Unit))}{Q:Unit->Θ->Prop}(u:A.handled=none)(m:s.heap.IsList t items)
  (hn:a.length=items.size)(g:a.findIdx? (·.1)=none)
  (h:∀h',Ψ.ExtBut s.heap.objs.size s.heap h'->ε (model prog w) A (assignInOrder (a.map (·.2)) items.toList) Q E {s with heap:=h'}):
  ε (model prog w) A (unpack (.ref t) a) Q E s:=by
 have l:t≠s.heap.objs.size:=by obtain⟨o,v,_⟩:=m;exact Jk (Jj v)
 unfold unpack;rw[hn,g];refine Ja (JI ?_)
 unfold unpackItems;refine Ja ?_
 unfold notIterableAtAll;refine Ja (FK m.typeIs F.slot_list_iter.lookup ?_)
 refine Jd ?_
 simp only[Bool.false_eq_true,JD];refine Ja (JI (FO m ?_))
 refine Ja (JI (gP l items.size 0 _ _ #[_,Jq _ Z,Z,Z] (m.push _) (by lia) λn d c=>?_))
 have j:List.take items.size (List.drop 0 items.toList)=items.toList:=by
  rw[List.drop_zero];exact Gn (by simp)
 rw[j];rw[Jb (by simp)]
 have f:n.IsList t items:=let⟨o,e,r⟩:=m.push _;#[o,c.extBut _ _ l e,r]
 refine Ja (JI (wpAny_pyNext_list_end u d f (by simp) λp i=>?_))
 simp only[Option.isSome_none,Bool.false_eq_true,JD];exact Jd (h p λb o q e=>i b o q (c.extBut b o q (Jl _ e)))
end
section
variable{X:Cx}{pos:Pos}
inductive NQ (K:ι) (n:Nat) (t:Zx) (v:V) (σ:L2.St) (H:Hp) (Q:L2.St->Hp->Prop):Prop
 |mk (a:_) (xs:_) (h1:v= .ref a) (h2:Sq K H a xs) (h3:xs.length=n) (h4:t xs σ H Q)
def rD(K:ι)(n:Nat)(t:Zx):TG:=λv σ H Q=>NQ K n t v σ H Q
theorem vG{es:Ι}{k:Nat}{t:Zx}{n:Nat}(hc:X.calm=true)(h:nX X es t)
  (hn:(assignEach es X.env).length=n:=by rfl)(hst:(assignEach es X.env).findIdx? (·.1)=none:=by rfl):PG X (.Tuple es k pos) (rD X.K n t):=by
 intro Oa s σ H v u Q I r d;obtain⟨a,xs,i,c,g,d⟩:=d;rcases c with c|c
 ·subst i
  cases r;obtain⟨j,f,m,q⟩:=I.list c;rw[assign_Tuple];refine Ja (E1 (lR (I.ok.hd hc) m.isList (by simp [hn,<- g,f.length]) hst λh' l=>?_))
  have p:L2.GX X Oa σ H {s with heap:=h'}:=I.kept (t':=s.toks) λb o e=>l b o (Jk (Jj e)) e
  exact h Oa _ σ H xs _ Q p (by simpa using f) d
 ·exact kQ hc h hn hst Oa s σ H v u Q I r #[a,xs,i,c,g,d]
theorem ze{es:Ι}{k:Nat}{t:Zx}{n:Nat}(hc:X.calm=true)(h:Nv X es t)
  (hn:(assignEach es X.env).length=n:=by rfl)(hst:(assignEach es X.env).findIdx? (·.1)=none:=by rfl):QG X (.Tuple es k pos) (rD X.K n t):=#[vG hc h.h hn hst]
end
end L3
namespace L3
open PySem PySem.Spec PyProof.Rows L2
def Z6(c d:Int):Β:=[c%16,c/16%16,c/256,d]
def Z5(c d:Int):Β:=Z6 c d++[(Z6 c d).sum%16]
def iL(t ks:Β)(z:Str):Β:=QC t ks (aZ (Q1 z.cps.toList))
def cj(t ks:Β)(z:Str)(c d:Int):Β:=QC t (iL t ks z) (Z5 c d)
def j5(r:Β):Option (Int×Int):=if r.getD 4 0=(r.getD 0 0+r.getD 1 0+r.getD 2 0+r.getD 3 0)%16 then ↑(r.getD 0 0+r.getD 1 0*16+r.getD 2 0*256,r.getD 3 0)else none
def Zu(t ks:Β)(z:Str)(ds:Β):Option (Int×Int):=j5 (Zb (zz t) (iL t ks z) ds)
theorem bQ(c d:Int):(Z5 c d).length=5:=Z
theorem vN(c d:Int):(Z6 c d).sum=c%16+c/16%16+c/256+d:=by simp [Z6];lia
theorem fN{c d:Int}(e:0<=c)(h1:c<4096)(hd:aR d):zy (Z5 c d):=λx a=>by
 simp only[Z5,Z6,List.cons_append,List.nil_append,Jm,JE,JF]at a;rcases a with rfl|rfl|rfl|rfl|rfl
 ·exact ac _
 ·exact ac _
 ·exact#[by lia,by lia]
 ·exact hd
 ·exact ac _
theorem tN{c d:Int}(a:0<=c)(h1:c<4096):j5 (Z5 c d)=↑(c,d):=by
 have e:(Z5 c d)=[c%16,c/16%16,c/256,d,(c%16+c/16%16+c/256+d)%16]:=by unfold Z5;rw[vN];rfl
 unfold j5;rw[e]
 show(if(c%16+c/16%16+c/256+d)%16=(c%16+c/16%16+c/256+d)%16 then ↑(c%16+c/16%16*16+c/256*256,d)else none)=_
 rw[Jc Z,show c%16+c/16%16*16+c/256*256=c by lia]
theorem AR{r:Β}(hl:r.length=5):∃a b c d e:Int,r=[a,b,c,d,e]:=by
 match r,hl with
 | [a,b,c,d,e],_=>exact#[a,b,c,d,e,Z]
theorem tV(t ks:Β)(z:Str)(c d:Int):(cj t ks z c d).length=5:=by unfold cj;rw[bM,bQ]
theorem wD{t ks:Β}(p:t.Perm HW){z:Str}{c d:Int}(a:0<=c)(h1:c<4096)(hd:aR d):zy (cj t ks z c d):=kR p (fN a h1 hd)
theorem jk{t ks:Β}(p:t.Perm HW){z:Str}{c d:Int}(a:0<=c)(h1:c<4096)(hd:aR d):Zu t ks z (cj t ks z c d)=↑(c,d):=by
 unfold Zu cj;rw[mE p (fN a h1 hd) (by rw[bQ];decide),tN a h1]
def cW(H:Hp)(x:V):Option (Int×Int)->Prop
 |none=>x= .non
 |some (c,d)=>∃p,x= .ref p/\H p=↑(.tup [.int c,.int d])
inductive NR (vs:Ε) (H:Hp) (Q:VK):Prop
 |mk (c:Int) (h1:vs=[.int c]) (h2:∀p H',GS H H'->H' p=↑(.tup [.int (c%16),.int (c/16%16),.int (c/256)])->Q (.ref p) H')
def BQ:Sp:=λvs H Q _=>NR vs H Q
inductive Ms (K:ι) (vs:Ε) (H:Hp) (Q:VK):Prop
 |mk (a b:Δ) (z:Str) (age c d:Int) (t ks:Β) (h1:vs=[.ref a,.ref b,.str z,.int age,.int c,.int d]) (h2:Sq K H a (t.map V.int)) (h3:Sq K H b (ks.map V.int)) (h4:Qq z) (h5:t.length=16) (h6:0<=c) (h7:c<4096) (h8:aR d) (h9:∀p pc H',GS H H'->H' p=↑(.tup [.str z,.int age,.ref pc])->H' pc=↑(.tup ((cj t ks z c d).map V.int))->Q (.ref p) H')
def oB(K:ι):Sp:=λvs H Q _=>Ms K vs H Q
inductive Nc (K:ι) (vs:Ε) (H:Hp) (Q:VK):Prop
 |mk (a b pr pc:Δ) (z:Str) (age:Int) (t ks ds:Β) (h1:vs=[.ref a,.ref b,.ref pr]) (h2:Sq K H a (t.map V.int)) (h3:Sq K H b (ks.map V.int)) (h4:Sq K H pr [.str z,.int age,.ref pc]) (h5:Sq K H pc (ds.map V.int)) (h6:Qq z) (h7:t.Perm HW) (h8:ds.length=5) (h9:zy ds) (h10:∀x H',GS H H'->cW H' x (Zu t ks z ds)->Q x H')
def l6(K:ι):Sp:=λvs H Q _=>Nc K vs H Q
theorem BT{X:Cx}{pos:Pos}{i j:Nat}{x y:Str}{a b:Φ}{ta:TA}{e d pt:Pos}{kt k2 pt2}(hc:X.calm=true)(hN:X.N.Nodup)(hi:X.N[i]? =↑x)(g:X.N[j]? =↑y)(c:i≠j)
  (hx:X.env.scope.names.lookup x=some .local)(f:X.env.scope.names.lookup y=some .local)(ha:QA X [a,b] ta)
  (hw:swappedStores [.Tuple [.Name x e,.Name y d] kt pt] (.Tuple [a,b] k2 pt2) X.env=pure (some [x,y]):=by rfl)
  (hs:swapsWithSole [.Tuple [.Name x e,.Name y d] kt pt] (.Tuple [a,b] k2 pt2) pos.line X.env=pure false:=by rfl):
  QS X (.Assign [.Tuple [.Name x e,.Name y d] kt pt] (.Tuple [a,b] k2 pt2) pos) (B0 i j ta):=#[B2 hc hN hi g c hx f ha.h hw hs]
def bi(K:ι)(H:Hp)(a:Δ)(f:Str)(v:V):Prop:=∃C dx fs,H a=↑(.ins C dx fs)/\LV K C/\HH K C f/\fs.lookup f=↑v
def kY(K:ι)(H:Hp)(a:Δ)(f:Str)(v:V)(H':Hp):Prop:=∃C dx fs,H a=↑(.ins C dx fs)/\LV K C/\HH K C f/\fs.length<1000/\H'=GW H a (.ins C dx (Qd f v fs))
def Ef(C:Δ)(H:Hp)(a:Δ)(m:Str):Prop:=∃dx fs,H a=↑(.ins C dx fs)/\fs.lookup m=none
def yo(K:ι)(ta:TE)(f:Str):TE:=λσ H Q=>ta σ H λx H1=>∃a v,x= .ref a/\bi K H1 a f v/\Q v H1
def DX(K:ι)(ta tv:TE)(f:Str):TS:=λD σ H=>tv σ H λy H1=>ta σ H1 λx d=>∃a c,x= .ref a/\kY K d a f y c/\D.nx σ c
def tE(C:Δ)(m:Str)(sp:Sp)(ta:TE)(t:TA):TE:=λσ H Q=>ta σ H λx H1=>∃a,x= .ref a/\Ef C H1 a m/\t σ H1 λvs c=>sp (x::(vs++[])) c Q E0
section
variable{X:Cx}{o e value:Φ}{f:Str}{pos pos':Pos}{ta tv:TE}
theorem za(he:QE X e ta)(hb:attributeBase e f X.env (eval e X.env)=eval e X.env:=by rfl):QE X (.Attribute e f pos) (yo X.K ta f):=#[by
 intro Oa s σ H Q I h;refine AI hb (qz (he.h Oa s σ H _ I h) λu t o=>?_)
 obtain⟨x,H1,i,g,a,v,ex,⟨C,dx,fs,d,c,n,l⟩,q⟩:=o;subst ex
 obtain rfl:u=Γ.ref a:=g
 exact sS i d c n l λp r j m=>#[v,H1,j,m,q]]
theorem zI(ha:QE X o ta)(hv:QE X value tv)(hs:swapsWith value ↑(.Attribute o f pos') pos.line X.env=pure false:=by rfl):QS X (.Assign [.Attribute o f pos'] value pos) (DX X.K ta tv f):=#[by
 intro Oa s σ H D I h;refine plainObj_wpAny_Assign_Attribute (qz (hv.h Oa s σ H _ I h) λu v ⟨y,H1,p,g,q⟩=>qz (ha.h Oa v σ H1 _ p q) λm B w=>?_) hs
 obtain⟨x,E,r,j,a,A,ex,⟨C,dx,fs,e,c,n,l,t⟩,d⟩:=w;subst ex t
 obtain rfl:m=Γ.ref a:=j
 exact rM r e c n l g λz i=>#[σ,_,i,d]]
end
structure Mf(P:Ξ)(w:Ω)(K:ι)(mg:GQ)(base:Ψ)(C:Δ)(m:Str)(ps:Α)(k:Nat)(sp:Sp):Prop where
 ex:∃(f:Δ) (fd:FuncData),IP P w K mg base aB k f fd ps sp/\M5 K C m f/\Iw K fd ps []
structure Lm(K:ι)(C:Δ)(m Ob:Str)(st:δ)(ps:Α):Prop where
 ex:∃(f:Δ) (fd:FuncData),LX K m Ob st f fd/\M5 K C m f/\Iw K fd ps []
structure Mi(P:Ξ)(w:Ω)(K:ι)(mg:GQ)(base:Ψ)(C:Δ)(x:Str)(ps:Α)(k:Nat)(sp:Sp):Prop where
 ex:∃(f:Δ) (fd:FuncData),IP P w K mg base aB k f fd ps sp/\Mk K C f/\mg x=↑(.ref C)/\Iw K fd ps []
section
variable{P:Ξ}{w:Ω}{K:ι}{mg:GQ}{base:Ψ}{C:Δ}
theorem Lm.mq{m Ob:Str}{st:δ}{ps N:Α}{k:Nat}{sp:Sp}(a:Lm K C m Ob st ps)(S:GU N ps (qi st))
  (d:∀(f:Δ) (cdv:Γ) (A:Around) (c:Υ) (s:Θ) (H:Hp) (vs:Ε) (Q:VK) (E:XK),HB k (A.deeper (envOfC Ob (qi st) s.heap.objs.size f cdv))->sp vs H Q E->
   ∃t,Mo (a9 aB P w K mg base N Ob (qi st) f cdv A c s H E).nox (zF st) t/\t {nx:=λ_ H'=>Q .non H',rt:=Q} (Q0 N vs) H)(len:∀vs H Q E,sp vs H Q E->vs.length=ps.length:=by intro vs H Q E h;first|(cases h;subst_vars;rfl)|((repeat first|obtain⟨rfl,h⟩:=h|obtain⟨_,h⟩:=h);all_goals rfl)):Mf P w K mg base C m ps (k+1) sp:=by
 obtain⟨f,fd,F,m,bd⟩:=a.ex
 exact#[f,fd,F.ok S len (λcdv A c s H vs Q E e h=>let⟨t,q1,q2⟩:=d f cdv A c s H vs Q E e h;#[t,q1.h,q2]),m,bd]
theorem Mf.mi{x:Str}{ps:Α}{k:Nat}{sp:Sp}(a:Mf P w K mg base C "__init__" ps k sp)(d:W.makesIn K C=true)(c:W.keepIn K (.ref C)=true)(hx:mg x=↑(.ref C)):Mi P w K mg base C x ps k sp:=
 let⟨f,fd,F,m,bd⟩:=a.ex;#[f,fd,F,#[d,m.at_,m.fn,c],hx,bd]
end
section
variable{X:Cx}{C:Δ}{x m:Str}{ps:Α}{k:Nat}{sp:Sp}{o e:Φ}{es:Ι}{p pos apos:Pos}{ta:TE}{t:TA}
theorem zg{pl:Sem Bool}(M:Mf X.prog X.w X.K X.mg X.base C m ps k sp)(c:LV X.K C)(hr:HB k X.A)(he:QE X o ta)(ha:QA X (e::es) t)
  (hst:θ (e::es) X.env=(false,eval e X.env)::θ es X.env:=by rfl)(hpl:(backTo pos (θ es X.env)).any (·.1)=false:=by rfl)
  (w:eval (.Call (.Attribute o m apos) (e::es) [] pos) X.env=(do
   let g <- eval o X.env
   standAt apos.atName
   let(f,first) <- holding [g] (getMethod g m pl)
   callWith pos f first (backTo pos (θ (e::es) X.env)) (backToKw pos (keywordEach [] X.env))):=by rfl):
  QE X (.Call (.Attribute o m apos) (e::es) [] pos) (tE C m sp ta t):=#[by
 obtain⟨f,fd,F,d,y⟩:=M.ex;intro Oa s σ H Q I h;refine W.methodCall_KW (pl:=pl) (qz (he.h Oa s σ H _ I h) λu z A=>?_) w
 obtain⟨x,H1,i,v,a,ex,⟨dx,fs,p,l⟩,q⟩:=A;subst ex
 obtain rfl:u=Γ.ref a:=v
 refine gz i p c d l ?_
 refine W.callWith_K (first:=[.ref a]) (h₀:=X.base) I.ok.mod.kin d.kp (qz (ha.h pos Oa z σ H1 _ i q) λus B ⟨vs,D,j,r,n⟩=>#[j.kIn,?_]) hst hpl
 exact mB (us:= .ref a::us) (vs:= .ref a::vs) F hr y .nil j0 j (.cons Z r) n]
theorem Qi{pl:Sem Bool}(M:Mf X.prog X.w X.K X.mg X.base C m ps k sp)(c:LV X.K C)(hr:HB k X.A)(he:QE X o ta)
  (n:eval (.Call (.Attribute o m apos) [] [] pos) X.env=(do
   let g <- eval o X.env
   standAt apos.atName
   let(f,first) <- holding [g] (getMethod g m pl)
   callWith pos f first (backTo pos (θ [] X.env)) (backToKw pos (keywordEach [] X.env))):=by rfl):
  QE X (.Call (.Attribute o m apos) [] [] pos) (tE C m sp ta w9):=#[by
 obtain⟨f,fd,F,e,p⟩:=M.ex;intro Oa s σ H Q I h;refine W.methodCall_KW (pl:=pl) (qz (he.h Oa s σ H _ I h) λu t r=>?_) n
 obtain⟨x,H1,d,j,a,ex,⟨dx,fs,i,l⟩,q⟩:=r;subst ex
 obtain rfl:u=Γ.ref a:=j
 refine gz d i c e l ?_
 exact W.callWith_K0 (first:=[.ref a]) d.kIn e.kp (mB (us:=[.ref a]) (vs:=[.ref a]) F hr p .nil j0 d (.cons Z .nil) q)]
theorem Bc(M:Mi X.prog X.w X.K X.mg X.base C x ps k sp)(hr:HB (k+1) X.A)(ha:QA X (e::es) t)(hg:Gl X x:=by rfl)(hdb:(x==("__debug__":Str))=false:=by decide)
  (he:θ (e::es) X.env=(false,eval e X.env)::θ es X.env:=by rfl)(hpl:(backTo pos (θ es X.env)).any (·.1)=false:=by rfl):
  QE X (.Call (.Name x p) (e::es) [] pos) (Ab C sp [] E0 t):=#[by
 obtain⟨f,fd,F,a,d,c⟩:=M.ex;exact Au a F hr hg d c .nil j0 ha.h hdb he hpl]
end
section
variable{X:Cx}{o e:Φ}{es:Ι}{to:TE}{t:TA}{name:Str}{apos cpos:Pos}{T id:String}{r:V->Ε->Hp->VK->Prop}{K:ι}
theorem mW(i:X.K=K)(j:PlainAttrs T)(g:Slot T name id)(h:typeOf (.builtin id)=pure (.type "method_descriptor"))(hm:gr X id r)(ho:QE X o to)(ha:QA X (e::es) t)
  (d:attributeBase o name X.env (eval o X.env)=eval o X.env:=by rfl)
  (f:((backTo cpos (θ (e::es) X.env)).all (λx=> ! x.1)&&(backToKw cpos (keywordEach [] X.env)).all (λx=>x.1.isSome)
   &&decide ((e::es).length+([]:ο).length+(if([]:ο).isEmpty then 0 else 1)<30))=true:=by rfl)
  (c:(apos.endLine==cpos.line)=true:=by rfl)(hs:θ (e::es) X.env=(false,eval e X.env)::θ es X.env:=by rfl)(a:(backTo cpos (θ es X.env)).any (·.1)=false:=by rfl):
  QE X (.Call (.Attribute o name apos) (e::es) [] cpos) (Dn K T r to t):=by
 subst i;exact QZ j g h hm ho ha d f c hs a
theorem Do(f:PlainAttrs T)(d:Slot T name id)(e:typeOf (.builtin id)=pure (.type "method_descriptor"))(hm:gr X id r)(ho:QE X o to)
  (c:attributeBase o name X.env (eval o X.env)=eval o X.env:=by rfl)(a:(apos.endLine==cpos.line)=true:=by rfl):QE X (.Call (.Attribute o name apos) [] [] cpos) (C9 X.K T r to):=#[Ci f d e hm ho.h c a]
theorem fT:gr X "list.pop" tT:=vV
theorem pU:gr X "list.reverse" kK:=sN
end
theorem iP{f:Str}{v:V}:∀{fs:List (Str×V)} (i:Nat),fs[i]? =↑(f,v)->(fs.map (·.1)).Nodup->fs.lookup f=↑v
 | [],i,h,_=>by cases h
 |(g,x)::r,0,h,_=>by
  cases JA h
  exact List.lookup_cons_self
 |(g,x)::r,i+1,h,nd=>by
  have h':r[i]? =↑(f,v):=h
  have a:g∉r.map (·.1)/\(r.map (·.1)).Nodup:=Fg.mp nd
  have d:f∈r.map (·.1):=Jt.mpr #[(f,v),JP h',Z]
  have c:f≠g:=λz=>a.1 (z▸d)
  rw[J7,FL c];exact iP i h' a.2
theorem i7{f:Str}:∀{fs:List (Str×V)},f∉fs.map (·.1)->fs.lookup f=none
 | [],_=>rfl
 |(g,x)::r,h=>by
  have a:f≠g:=λz=>h (z▸JB ..)
  rw[J7,FL a];exact i7 λz=>h (JM _ z)
theorem pG{f:Str}{v u:V}:∀{fs:List (Str×V)} (i:Nat),fs[i]? =↑(f,u)->(fs.map (·.1)).Nodup->Qd f v fs=fs.set i (f,v)
 | [],i,h,_=>by cases h
 |(g,x)::r,0,h,_=>by
  cases JA h
  show(if f=f then _ else _)=_
  rw[Jc Z];rfl
 |(g,x)::r,i+1,h,nd=>by
  have h':r[i]? =↑(f,u):=h
  have a:g∉r.map (·.1)/\(r.map (·.1)).Nodup:=Fg.mp nd
  have d:f∈r.map (·.1):=Jt.mpr #[(f,u),JP h',Z]
  have c:¬g=f:=λz=>a.1 (z▸d)
  show(if g=f then _ else(g,x)::Qd f v r)=_
  rw[Jb c,pG i h' a.2];rfl
theorem mZ{f:Str}{v:V}:∀{fs:List (Str×V)},f∉fs.map (·.1)->Qd f v fs=fs++[(f,v)]
 | [],_=>rfl
 |(g,x)::r,h=>by
  have a:¬g=f:=λz=>h (z▸JB ..)
  show(if g=f then _ else(g,x)::Qd f v r)=_
  rw[Jb a,mZ λz=>h (JM _ z)];rfl
def Mv(S:Η)(H H':Hp):Prop:=∀c o,c∉S->H c=↑o->H' c=↑o
theorem Mv.trans{S:Η}{H H1 d:Hp}(a:Mv S H H1)(b:Mv S H1 d):Mv S H d:=λc o n e=>b c o n (a c o n e)
theorem Mv.mono{S d:Η}{H H':Hp}(a:Mv S H H')(h:∀c,c∉d->c∉S):Mv d H H':=λc o n e=>a c o (h c n) e
theorem _root_.L2.GS.mv{S:Η}{H H':Hp}(a:GS H H'):Mv S H H':=λc o _ e=>a c o e
theorem Mv.upd1{a:Δ}{H:Hp}{o:HO}:Mv [a] H (GW H a o):=λc u n e=>by
 rw[qm (λz=>n (Jh.mpr z))];exact e
theorem IQ.mv{b:Δ}{n:Nat}{H H':Hp}(g:IQ b n H H'):Mv [b] H H':=λc o h e=>g.kp c o (λz=>h (Jh.mpr z)) e
def yN:HO->Prop
 | .tup _=>False
 | .frz _ (.dK _)=>True
 | .frz _ _=>False
 |_=>True
def NT(S:Η)(H:Hp):Prop:=∀c,c∈S->∃o,H c=↑o/\yN o
theorem Mv.rd{S:Η}{H H':Hp}{a:Δ}{xs:Ε}(m:Mv S H H')(n:NT S H)(h:Rd H a (.tup xs)):Rd H' a (.tup xs):=by
 have c:a∉S:=λz=>by
  obtain⟨o,e,no⟩:=n a z;rcases h with h|⟨o',h⟩
  ·rw[e]at h;cases h;exact no
  ·rw[e]at h;cases h;exact no
 rcases h with h|⟨o',h⟩
 ·exact .inl (m _ _ c h)
 ·exact .inr #[o',m _ _ c h]
theorem Mv.sqt{K:ι}{S:Η}{H H':Hp}{a:Δ}{xs:Ε}(m:Mv S H H')(n:NT S H)(h:G9 K H a xs):G9 K H' a xs:=by
 rcases h with h|h
 ·exact .inl (m.rd n h)
 ·exact .inr h
inductive L4 (vs:Ε) (H:Hp) (Q:VK):Prop
 |mk (b:Δ) (c:Nat) (h1:vs=[.ref b]) (h2:Ip H b c) (h3:c<100000000) (h4:∀p (t:Β) H',IQ b (c+16) H H'->H p=none->H' p=↑(.tup (t.map V.int))->t.Perm HW->Q (.ref p) H')
def lD:Sp:=λvs H Q _=>L4 vs H Q
inductive Mt (vs:Ε) (H:Hp) (Q:VK):Prop
 |mk (b:Δ) (c:Nat) (h1:vs=[.ref b]) (h2:Ip H b c) (h3:c<100000000) (h4:∀p (ks:Β) H',IQ b (c+9) H H'->H p=none->H' p=↑(.tup (ks.map V.int))->zy ks->1<=ks.length->ks.length<=8->Q (.ref p) H')
def oG:Sp:=λvs H Q _=>Mt vs H Q
theorem IQ.fresh{b c:Δ}{n:Nat}{H H':Hp}(g:IQ b n H H')(hb:Ip H b n)(h:H' c=Option.none):H c=Option.none:=by
 cases e:H c with
 |none=>rfl
 |some o=>
  by_cases z:c=b
  ·subst z
   obtain⟨_,_,_,a,_⟩:=g.bx;rw[a]at h;cases h
  ·rw[g.kp c o z e]at h;cases h
theorem xr{K:ι}{H:Hp}{a:Δ}{xs:Ε}{Q:VK}(h:Sq K H a xs)(q:∀l H',GS H H'->G9 K H' l xs->Q (.ref l) H'):(G0 K H a xs/\∀l,H l=none->Q (.ref l) (GW H l (.tup xs)))\/(G9 K H a xs/\Q (.ref a) H):=
 h.elim (λh=> .inl #[h,λl c=>q l _ (GS.upd c) (G9.of qc)]) λh=> .inr #[h,q a H (GS.refl _) h]
theorem fj{K:ι}{C p dx a:Δ}{H:Hp}{fs:List (Str×V)}{xs:Ε}{o:HO}(e:H p=↑(.ins C dx fs))(h:G9 K H a xs):G9 K (GW H p o) a xs:=by
 rcases h with(h|⟨u,h⟩)|h
 ·exact .inl (.inl (by rw[qm (zH h e (by intro z;cases z))];exact h))
 ·exact .inl (.inr #[u,by rw[qm (zH h e (by intro z;cases z))];exact h])
 ·exact .inr h
theorem cI{X:Cx}{K:ι}(a:X.K=K):zi X (.builtin "len") (λxs H Q=>∃p ys,xs=[.ref p]/\(G0 K H p ys\/G9 K H p ys)/\Q (.int (ys.length:Nat)) H):=by
 subst a;exact qY
theorem cS{k n:Nat}(h:k<n):seqIndex? (k:Int) n=↑k:=by
 unfold seqIndex?
 simp
 omega
theorem vQ{ms zs:Β}{k:Nat}(h:k<ms.length):(zs++[ms[k]]++ms.eraseIdx k).Perm (zs++ms):=by
 rw[Fh];refine List.Perm.append_left zs ?_
 rw[List.eraseIdx_eq_take_drop_succ];have e:ms=ms.take k++ms[k]::ms.drop (k+1):=by rw[<- List.drop_eq_getElem_cons h,List.take_append_drop]
 refine List.Perm.trans (List.perm_middle (a:=ms[k]) (l₁:=ms.take k) (l₂:=ms.drop (k+1))).symm ?_
 rw[<- e]
theorem rg(ms:Β)(k:Nat):(ms.map V.int).eraseIdx k=(ms.eraseIdx k).map V.int:=by
 rw[List.eraseIdx_eq_take_drop_succ,List.eraseIdx_eq_take_drop_succ,JK,List.map_take,List.map_drop]
theorem bf{X:Cx}:zi X (.type "tuple") (λxs H Q=>∃p ys,xs=[.ref p]/\Sq X.K H p ys/\∀l H',GS H H'->G9 X.K H' l ys->Q (.ref l) H'):=by
 intro Oa s σ H xs a Q I r h;obtain⟨p,ys,e,c,q⟩:=h;exact qX Oa s σ H xs a Q I r #[p,ys,e,xr c q]
section
variable{H:Hp}{b:Δ}{n:Nat}
theorem qW{a x:Δ}(h:a≠x):a∉[x]:=λz=>h (Jh.mp z)
theorem zf(hb:Ip H b n):NT [b] H:=λc a=>by
 obtain⟨_,_,_,e,_⟩:=hb;rw[Jh.mp a]
 exact#[_,e,trivial]
end
theorem Ip.mv{H H':Hp}{S:Η}{b:Δ}{n:Nat}(h:Ip H b n)(m:Mv S H H')(a:b∉S):Ip H' b n:=by
 obtain⟨d,c,f,e,r⟩:=h
 exact#[d,c,f,m _ _ a e,r]
theorem sL(n:Nat)(h:n<=100:=by omega):n<ζ:=Nat.lt_of_le_of_lt h ⋯
theorem rc{a x y:Δ}(h:a≠x)(g:a≠y):a∉[x,y]:=λz=>by
 simp only[Jm,JE,JF]at z;exact z.elim h g
theorem NT.one{H:Hp}{a:Δ}{o:HO}(e:H a=↑o)(n:yN o):NT [a] H:=λc d=>#[o,by rw[Jh.mp d];exact e,n]
end L3
namespace L2
open PySem PySem.Spec PyProof.Rows
section
variable{κ:Type} [DecidableEq κ]
def Zo(kvs:List (κ×V))(k:κ):Ν:=(kvs.find? λa=>decide (a.1=k)).map (·.2)
def HL(kvs:List (κ×V))(k:κ)(v:V):List (κ×V):=
 if(kvs.any λa=>decide (a.1=k))=true then kvs.map (λa=>if a.1=k then(a.1,v)else a)else kvs++[(k,v)]
theorem am{p:κ×V}{r:List (κ×V)}{k:κ}(e:p.1=k):Zo (p::r) k=↑p.2:=by simp [Zo,FZ,e]
theorem ax{p:κ×V}{r:List (κ×V)}{k:κ}(e:¬p.1=k):Zo (p::r) k=Zo r k:=by simp [Zo,FZ,e]
theorem ml(k:κ):∀kvs:List (κ×V),(kvs.any λa=>decide (a.1=k))=(Zo kvs k).isSome
 | []=>rfl
 |p::r=>by
  rw[ES]
  by_cases e:p.1=k
  ·simp only[am e,Ji e,Bool.true_or,Option.isSome_some]
  ·rw[ax e,Jo e,Bool.false_or];exact ml k r
theorem ZL(kvs:List (κ×V))(k:κ)(v:V):(HL kvs k v).length<=kvs.length+1:=by
 unfold HL;split
 ·rw[Je];lia
 ·rw[Jv,JN,List.length_nil];lia
theorem IM.isSome_eq{o:Ν}{u:Ο}(r:IM o u):o.isSome=u.isSome:=by
 cases o with
 |none=>cases u with
  |none=>rfl
  |some _=>exact(show False from r).elim
 |some _=>cases u with
  |none=>exact(show False from r).elim
  |some _=>rfl
theorem IM.getD{o:Ν}{u:Ο}{d:V}{d':Γ}(r:IM o u)(rd:G8 d d'):G8 (o.getD d) (u.getD d'):=by
 cases o with
 |none=>cases u with
  |none=>exact rd
  |some _=>exact(show False from r).elim
 |some _=>cases u with
  |none=>exact(show False from r).elim
  |some _=>exact r
theorem KV.val{kvs:List (κ×V)}{vs:List (κ×Γ)}(r:KV kvs vs)(k:κ):IM (Zo kvs k) (valueAt vs k):=by
 unfold KV at r
 induction r with
 |nil=>exact True.intro
 | @cons p q ps qs h t ih=>
  obtain⟨h1,c⟩:=h
  by_cases e:p.1=k
  ·have a:q.1=k:=h1.symm.trans e
   have b:valueAt (q::qs) k=↑q.2:=by simp [valueAt,FZ,a]
   rw[am e,b];exact c
  ·have a:¬q.1=k:=λz=>e (h1.trans z)
   have b:valueAt (q::qs) k=valueAt qs k:=by simp [valueAt,FZ,a]
   rw[ax e,b];exact ih
theorem KV.any{kvs:List (κ×V)}{vs:List (κ×Γ)}(r:KV kvs vs)(k:κ):(kvs.any λa=>decide (a.1=k))=vs.any λa=>decide (a.1=k):=by
 unfold KV at r
 induction r with
 |nil=>rfl
 |cons h t ih=>rw[ES,ES,ih,h.1]
theorem KV.repl{kvs:List (κ×V)}{vs:List (κ×Γ)}(r:KV kvs vs)(k:κ){y:V}{u:Γ}(d:G8 y u):
  KV (kvs.map λa=>if a.1=k then(a.1,y)else a) (vs.map λa=>if a.1=k then(a.1,u)else a):=by
 unfold KV at r⊢
 induction r with
 |nil=>exact .nil
 | @cons p q ps qs h t ih=>
  rw[JS,JS];refine .cons ?_ ih
  obtain⟨h1,c⟩:=h
  by_cases e:p.1=k
  ·rw[Jc e,Jc (h1.symm.trans e)];exact#[h1,d]
  ·rw[Jb e,Jb (λz=>e (h1.trans z))];exact#[h1,c]
theorem KV.put{kvs:List (κ×V)}{vs:List (κ×Γ)}(r:KV kvs vs)(k:κ){y:V}{u:Γ}(a:G8 y u):KV (HL kvs k y) (stored vs k u):=by
 unfold HL stored;rw[r.any k]
 by_cases e:(vs.any λc=>decide (c.1=k))=true
 ·rw[Jc e,Jc e];exact r.repl k a
 ·rw[Jb e,Jb e];exact Paired.snoc r #[Z,a]
theorem KV.keys{kvs:List (κ×V)}{vs:List (κ×Γ)}(r:KV kvs vs):kvs.map (·.1)=vs.map (·.1):=by
 unfold KV at r
 induction r with
 |nil=>rfl
 |cons h t ih=>rw[JS,JS,ih,h.1]
theorem KV.length{kvs:List (κ×V)}{vs:List (κ×Γ)}(r:KV kvs vs):kvs.length=vs.length:=Paired.length r
end
theorem cz{P:Ξ}{w:Ω}{k:qJ}{u:Γ}(r:G8 (kV k) u):(qN P w).is k u=true:=by
 cases k with
 |inl i=>obtain⟨t,e⟩:=(show∃t,u=Γ.int i t from r);subst e;exact nJ P w i t
 |inr x=>obtain⟨t,e⟩:=(show∃t,u=Γ.str x t from r);subst e;exact ny P w x t
theorem jt{P:Ξ}{w:Ω}:∀{ks:List qJ} {us:Ζ},GZ (ks.map kV) us->ItemsAre (qN P w) ks us
 | [],_,r=>by rw[FS]at r;cases r;exact .nil
 |k::ks,_,r=>by
  rw[JS]at r;cases r with
  |cons h t=>exact .cons (cz h) (jt t)
abbrev KT(H:Hp):List (List qJ×V)->List (List qJ×Δ×Γ)->Prop:=Paired λp q=>p.1=q.1/\H q.2.1=↑(.tup (p.1.map kV))/\G8 p.2 q.2.2
theorem KT.val{H:Hp}{kvs:List (List qJ×V)}{xs:List (List qJ×Δ×Γ)}(r:KT H kvs xs)(k:List qJ):IM (Zo kvs k) ((atKey xs k).map (·.2)):=by
 induction r with
 |nil=>exact True.intro
 | @cons p q ps qs h t ih=>
  obtain⟨h1,_,c⟩:=h
  by_cases e:p.1=k
  ·have a:q.1=k:=h1.symm.trans e
   have b:atKey (q::qs) k=↑q.2:=by simp [atKey,FZ,a]
   rw[am e,b];exact c
  ·have a:¬q.1=k:=λz=>e (h1.trans z)
   have b:atKey (q::qs) k=atKey qs k:=by simp [atKey,FZ,a]
   rw[ax e,b];exact ih
theorem KT.repl{H:Hp}{kvs:List (List qJ×V)}{xs:List (List qJ×Δ×Γ)}(r:KT H kvs xs)(k:List qJ){y:V}{u:Γ}(d:G8 y u):
  KT H (kvs.map λa=>if a.1=k then(a.1,y)else a) (xs.map (putAt k u)):=by
 induction r with
 |nil=>exact .nil
 | @cons p q ps qs h t ih=>
  rw[JS,JS];refine .cons ?_ ih
  obtain⟨h1,c,f⟩:=h;unfold putAt
  by_cases e:p.1=k
  ·rw[Jc e,Jc (h1.symm.trans e)];exact#[h1,c,d]
  ·rw[Jb e,Jb (λz=>e (h1.trans z))];exact#[h1,c,f]
theorem KT.put{H:Hp}{kvs:List (List qJ×V)}{xs:List (List qJ×Δ×Γ)}(r:KT H kvs xs)(k:List qJ){b:Δ}{y:V}{u:Γ}(hb:H b=↑(.tup (k.map kV)))(a:G8 y u):
  KT H (HL kvs k y) (storedH xs k b u):=by
 have e:(kvs.any λc=>decide (c.1=k))=(atKey xs k).isSome:=by
  rw[ml,(r.val k).isSome_eq,Option.isSome_map]
 unfold HL storedH;rw[e]
 by_cases q:(atKey xs k).isSome=true
 ·rw[Jc q,Jc q];exact r.repl k a
 ·rw[Jb q,Jb q];exact Paired.snoc r #[Z,hb,a]
theorem KT.keeps{H H':Hp}{kvs:List (List qJ×V)}{xs:List (List qJ×Δ×Γ)}(r:KT H kvs xs)(a:∀b ys,H b=↑(.tup ys)->H' b=↑(.tup ys)):KT H' kvs xs:=
 Paired.mapP r λ_ _ z=>#[z.1,a _ _ z.2.1,z.2.2]
section
variable{P:Ξ}{w:Ω}{H:Hp}{h:Ψ}{a:Δ}
theorem yX{u:HO}(ok:IZ P w H h)(e:Rd H a u):Hv P w H h a u:=e.ok ok
theorem aP{kvs:List (qJ×V)}(ok:IZ P w H h)(e:Rd H a (.dK kvs)):kvs.length<=ζ/\(a==sysModules)=false/\∃vs,KV kvs vs/\h.DictOf (qN P w) a vs:=
 show Hv P w H h a (.dK kvs)from yX ok e
theorem pS{kvs:List (qJ×V)}(ok:IZ P w H h)(e:H a=↑(.dK kvs)):kvs.length<=ζ/\(a==sysModules)=false/\∃vs,KV kvs vs/\h.DictOf (qN P w) a vs:=aP ok (.inl e)
theorem cZ{ks:List qJ}(ok:IZ P w H h)(e:H a=↑(.tup (ks.map kV))):(tupleKind (qN P w)).is h ks a:=by
 obtain⟨_,c,r,o,h1,d,n,f⟩:=(show Hv P w H h a (.tup (ks.map kV))from ok a _ e)
 exact#[o,c.toArray,n,h1,d,f,by simpa using jt r]
theorem eY{kvs:List (List qJ×V)}(ok:IZ P w H h)(e:Rd H a (.dT kvs)):kvs.length<=ζ/\(a==sysModules)=false/\
  ∃xs,KT H kvs xs/\h.DictOfH (tupleKind (qN P w)) a xs:=by
 obtain⟨z,y,xs,r,o,es,ep,h1,i,f,g,d⟩:=(show Hv P w H h a (.dT kvs)from yX ok e)
 refine#[z,y,xs,r,o,es,ep,h1,i,f,g,λx c=>?_,d]
 have all:∀{l:List (List qJ×V)} {m:List (List qJ×Δ×Γ)},KT H l m->∀x∈m,(tupleKind (qN P w)).is h x.1 x.2.1:=by
  intro l m q
  induction q with
  |nil=>intro x c;exact nomatch c
  | @cons p q ps qs hq t ih=>
   intro x c;rcases Jm.mp c with e|c
   ·subst e
    exact cZ ok (by rw[<- hq.1];exact hq.2.1)
   ·exact ih x c
 exact all r x c
theorem DW{kvs:List (List qJ×V)}(ok:IZ P w H h)(e:H a=↑(.dT kvs)):kvs.length<=ζ/\(a==sysModules)=false/\
  ∃xs,KT H kvs xs/\h.DictOfH (tupleKind (qN P w)) a xs:=eY ok (.inl e)
end
def Iy(H:Hp)(a:Δ)(y:V)(r:Ν):Prop:=
 (∃kvs k,Rd H a (.dK kvs)/\y=kV k/\r=Zo kvs k)\/∃kvs k b,Rd H a (.dT kvs)/\y= .ref b/\H b=↑(.tup (k.map kV))/\r=Zo kvs k
def Lq(H:Hp)(a:Δ)(y v:V)(H':Hp):Prop:=
 (∃kvs k,H a=↑(.dK kvs)/\y=kV k/\kvs.length<ζ/\H'=GW H a (.dK (HL kvs k v)))\/
 ∃kvs k b,H a=↑(.dT kvs)/\y= .ref b/\H b=↑(.tup (k.map kV))/\kvs.length<ζ/\H'=GW H a (.dT (HL kvs k v))
theorem Iy.k{H:Hp}{a:Δ}{kvs:List (qJ×V)}{k:qJ}(e:H a=↑(.dK kvs)):Iy H a (kV k) (Zo kvs k):= .inl #[kvs,k,.inl e,Z,Z]
theorem Lq.k{H:Hp}{a:Δ}{kvs:List (qJ×V)}{k:qJ}{v:V}(e:H a=↑(.dK kvs))(hl:kvs.length<ζ):Lq H a (kV k) v (GW H a (.dK (HL kvs k v))):= .inl #[kvs,k,e,Z,hl,Z]
section
variable{X:Cx}{Oa:GR}{σ:St}{H:Hp}{s:Θ}{a:Δ}{y v:V}{u r:Γ}{o:Ν}{A:Around}{E:GP}
theorem GX.big(I:GX X Oa σ H s):sysModules<s.heap.objs.size:=by
 have h:η<s.heap.objs.size:=(I.mod.glob.keeps I.bk).lt
 exact Nat.lt_trans ⋯ h
theorem tm{Q:GP}(hu:A.units+1<cLine)(I:GX X Oa σ H s)(g:Iy H a y ↑v)(q:G8 y u)(h:∀f s',GX X Oa σ H s'->G8 v f->Q f s'):
  ε (model X.prog X.w) A (getItem (.ref a) u) Q E s:=by
 rcases g with⟨kvs,k,e,j,l⟩|⟨kvs,k,b,e,j,r,l⟩
 ·subst j
  obtain⟨z,w,vs,d,n⟩:=aP I.hok e;obtain⟨f,m,c⟩:=IM.some_of (v:=v) (o:=valueAt vs k) (by rw[l];exact d.val k)
  exact wpAny_getItem_of (cz q) n.mapOf m (h f _ (I.tok _) c)
 ·subst j
  cases(show u=Γ.ref b from q)
  obtain⟨z,w,xs,d,n⟩:=eY I.hok e;obtain⟨f,m,c⟩:=IM.some_of (v:=v) (o:=(atKey xs k).map (·.2)) (by rw[l];exact d.val k)
  obtain⟨p,t,i⟩:=JZ.mp m;refine wpAny_getItem_heap (Gp hu) (cZ I.hok r) n t ?_
  rw[i];exact h f _ (I.tok _) c
theorem EA{Q:GP}(hu:A.units+1<cLine)(I:GX X Oa σ H s)(g:Iy H a y o)(j:G8 y u)(h:∀s',GX X Oa σ H s'->Q (.bool o.isSome) s'):
  ε (model X.prog X.w) A (compareOp .In u (.ref a)) Q E s:=by
 rcases g with⟨kvs,k,e,d,l⟩|⟨kvs,k,b,e,d,m,l⟩
 ·subst d
  obtain⟨z,i,vs,c,f⟩:=aP I.hok e;refine wpAny_in_of (cz j) i f.mapOf ?_
  rw[<- (c.val k).isSome_eq,<- l];exact h _ (I.tok _)
 ·subst d
  cases(show u=Γ.ref b from j)
  obtain⟨z,i,xs,c,f⟩:=eY I.hok e;refine wpAny_in_heap (Gp hu) (cZ I.hok m) i f ?_
  have q:=(c.val k).isSome_eq;rw[Option.isSome_map]at q;rw[<- q,<- l];exact h _ (I.tok _)
theorem ij{h':Ψ}{t':Nat}{ob:HO}(I:GX X Oa σ H s)(f:uf (H a))(hs:Ψ.SameBut a s.heap h')(he:∃q,h'.get? a=↑q)(c:Hv X.prog X.w (GW H a ob) h' a ob):
  GX X Oa σ (GW H a ob) {s with heap:=h',toks:=t'}:=
 I.write (x:=a) (e:=a) f (.inl Z) (λb q d z=>(hs.2 b d).trans z) he c
theorem mO{P:Ξ}{w:Ω}{H':Hp}{h':Ψ}{kvs:List (qJ×V)}{vs:List (qJ×Γ)}(z:kvs.length<=ζ)(hd:(a==sysModules)=false)(c:KV kvs vs)(d:h'.DictOf (qN P w) a vs):
  Hv P w H' h' a (.dK kvs):=#[z,hd,vs,c,d]
theorem uP{H':Hp}{Q:Unit->Θ->Prop}(hu:A.units+1<cLine)(I:GX X Oa σ H s)(g:Lq H a y v H')(x:G8 y u)(C:G8 v r)(h:∀s',GX X Oa σ H' s'->Q () s'):
  ε (model X.prog X.w) A (setItem (.ref a) u r) Q E s:=by
 rcases g with⟨kvs,k,e,o,l,w⟩|⟨kvs,k,b,e,o,B,l,w⟩
 ·subst o w
  obtain⟨z,j,vs,d,t⟩:=pS I.hok e;have n:vs.length<=ζ:=by rw[<- d.length];exact z
  have p:(HL kvs k v).length<=ζ:=by have:=ZL kvs k v;lia
  refine wpAny_setItem_pairs (hsz:=n) (cz x) t λh' f m=>h _ ?_
  have F:∃q,h'.get? a=↑q:=let⟨q,_,_,i,_⟩:=f;#[q,i]
  exact ij I (by rw[e];exact True.intro) m F (mO p j (d.put k C) f)
 ·subst o w
  cases(show u=Γ.ref b from x)
  obtain⟨z,j,xs,d,t⟩:=DW I.hok e;have n:xs.length<=ζ:=by rw[<- Paired.length d];exact z
  have p:(HL kvs k v).length<=ζ:=by have:=ZL kvs k v;lia
  refine wpAny_setItem_heap (hsz:=n) (Gp hu) (cZ I.hok B) t λh' f m=>h _ ?_
  obtain⟨q,es,ep,i,J,L,G,_,K⟩:=f;refine ij I (by rw[e];exact True.intro) m #[q,i] #[p,j,_,(d.put k B C).keeps λc ys D=>?_,q,es,ep,i,J,L,G,K]
  rw[qm (zH D e (λz=>nomatch z))]
  exact D
end
section
variable{X:Cx}{Oa:GR}{σ:St}{H:Hp}{s:Θ}{a:Δ}{kvs:List (qJ×V)}{A:Around}{E:GP}
theorem DA{Q:GP}(I:GX X Oa σ H s)(e:Rd H a (.dK kvs))(h:∀t s',GX X Oa σ H s'->Q (.int kvs.length t) s'):ε (model X.prog X.w) A (call (.builtin "len") [.ref a]) Q E s:=by
 obtain⟨z,d,vs,c,f⟩:=aP I.hok e;refine call_len_dict d f (by rw[<- c.length];rw[Ju]at z;lia) ?_
 rw[<- c.length];exact h _ _ (I.tok _)
end
def xu(i:Φ):Prop:=∀a c,subscripted i false a c=operate [a,c] (getItem a c)
theorem Av{prog:Ξ}{w:Ω}{A:Around}{E:GP}{s:Θ}{j:Env}{value a:Φ}{pos:Pos}{T id:String}{Q:GP}
  (hl:typeLookup (.type T) "__getitem__"=pure ↑(.builtin id))(hs:xu a)
  (h:ε (model prog w) A (eval value j) (λo f=>ε (model prog w) A (eval a j) (λi c=>c.TypeIs o T/\ε (model prog w) A (getItem o i) Q E c) E f) E s):
  ε (model prog w) A (eval (.Subscript value a pos) j) Q E s:=by
 refine Subscript_ (Jw h (λo f m=>Jw m (λi c d=>?_) λ_ _ x=>x) λ_ _ x=>x)
 obtain⟨n,d⟩:=d;unfold subscriptTail;refine Ja ?_
 rw[getitemInPython_of_ne n.not_modules];refine Ja (FK n hl ?_)
 have g:ε (model prog w) A (subscripted a false o i) (λr e=>ε (model prog w) A (letTemporaryGo value o r >>= λ_=>pure r) Q E e) E c:=by
  rw[hs o i];exact wpAny_operating (Jw d (λr e l=>Ja (wpAny_letTemporaryGo (Jd l))) λ_ _ x=>x)
 first
  |exact Jd (Ja g)
  |exact Ja (Jd (Ja g))
  |exact Ja g
theorem nO{X:Cx}{Oa:GR}{σ:St}{H:Hp}{s:Θ}{a:Δ}{y:V}{o:Ν}(I:GX X Oa σ H s)(g:Iy H a y o):s.TypeIs (.ref a) "dict":=by
 rcases g with⟨kvs,k,e,_,_⟩|⟨kvs,k,b,e,_,_,_⟩
 ·obtain⟨_,_,vs,_,c⟩:=aP I.hok e
  exact c.typeIs
 ·obtain⟨_,_,xs,_,c⟩:=eY I.hok e
  exact c.typeIs
def yY(td ty:TE):TE:=λσ H Q=>td σ H λx H1=>ty σ H1 λy c=>∃a v,x= .ref a/\Iy c a y ↑v/\Q v c
def CC(ty td:TE):TE:=λσ H Q=>ty σ H λy H1=>td σ H1 λx c=>∃a o,x= .ref a/\Iy c a y o/\Q (.bl o.isSome) c
def yx(td ty tv:TE):TS:=λD σ H=>tv σ H λv H1=>td σ H1 λx d=>ty σ d λy e=>∃a c,x= .ref a/\Lq e a y v c/\D.nx σ c
section
variable{X:Cx}{o i value:Φ}{pos pos':Pos}{td ty tv:TE}
theorem AO(hu:X.A.units+1<cLine)(ho:PE X o td)(hi:PE X i ty)(hs:xu i):PE X (.Subscript o i pos) (yY td ty):=by
 intro Oa s σ H Q I h;refine Av PySem.F.slot_dict_getitem.lookup hs (qz (ho Oa s σ H _ I h) λu q ⟨x,H1,p,m,n⟩=>qz (hi Oa q σ H1 _ p n) λz w l=>?_)
 obtain⟨y,r,d,j,a,v,ex,g,e⟩:=l;subst ex
 obtain rfl:u=Γ.ref a:=m
 exact#[nO d g,tm hu d g j λt A f c=>#[v,r,f,c,e]]
theorem Dq(hu:X.A.units+1<cLine)(hi:PE X i ty)(ho:PE X o td):PC X .In i o (CC ty td):=by
 intro Oa s σ H Q I h;refine qz (hi Oa s σ H _ I h) λv q ⟨y,H1,n,e,m⟩=>qz (ho Oa q σ H1 _ n m) λu t j=>?_
 obtain⟨x,r,p,f,a,l,ex,g,c⟩:=j;subst ex
 obtain rfl:u=Γ.ref a:=f
 exact EA hu p g e λw d=>#[.bl l.isSome,r,d,Z,c]
theorem As(hu:X.A.units+1<cLine)(ho:PE X o td)(hi:PE X i ty)(hv:PE X value tv)(hs:swapsWith value ↑(.Subscript o i pos') pos.line X.env=pure false):
  PS X (.Assign [.Subscript o i pos'] value pos) (yx td ty tv):=by
 intro Oa s σ H D I h;refine wpAny_Assign_Subscript (qz (hv Oa s σ H _ I h) λr f ⟨v,H1,B,l,A⟩=>qz (ho Oa f σ H1 _ B A) λu d ⟨x,t,n,j,q⟩=>qz (hi Oa d σ t _ n q) λG C e=>?_) hs
 obtain⟨y,E,w,c,a,p,ex,g,m⟩:=e;subst ex
 obtain rfl:u=Γ.ref a:=j
 exact uP hu w g c l λF z=>#[σ,p,z,m]
end
theorem ma{P:Ξ}{w:Ω}{H:Hp}(h:Ψ)(hb:sysModules<h.objs.size):Hv P w H (h.push {cls:= .type "dict",data:= .dict (List.toArray [])}) h.objs.size (.dK []):=
 #[Jy _,E9.mpr (Ne.symm (Jk hb)),[],.nil,Ψ.DictOf.new h]
def tD:TE:=λ_ H Q=>∀p,H p=none->Q (.ref p) (GW H p (.dK []))
section
variable{X:Cx}{pos:Pos}
theorem wu:PE X (.Dict [] [] pos) tD:=λOa s σ H Q I h=>
 wpAny_Dict_empty #[.ref s.heap.objs.size,_,I.laid (a:=s.heap.objs.size) (o:= .dK []) (t':=s.toks) (λ_ _ q=>Jl _ q) (Jf _) (ma s.heap I.big),Z,h _ (I.hok.fresh (Jf _))]
end
def mS:List (TE×TE)->St->Hp->(List (V×V)->Hp->Prop)->Prop
 | [],_,H,Q=>Q [] H
 |(tk,tv)::r,σ,H,Q=>tk σ H λx H1=>tv σ H1 λy a=>mS r σ a λps c=>Q ((x,y)::ps) c
abbrev VV:List (V×V)->List (Γ×Γ)->Prop:=Paired λp q=>G8 p.1 q.1/\G8 p.2 q.2
def uF(X:Cx)(pos:Pos)(keys:List ξ)(a:Ι)(c:List (TE×TE)):Prop:=
 ∀(Oa:GR) (s:Θ) (σ:St) (H:Hp) (Q:List (V×V)->Hp->Prop),GX X Oa σ H s->mS c σ H Q->
  ε (model X.prog X.w) X.A (evalPairs (pairTrees keys a X.env pos)) (λvs s'=>∃ps H',GX X Oa σ H' s'/\VV ps vs/\Q ps H') X.xe s
theorem AZ{X:Cx}{pos:Pos}:uF X pos [] [] []:=λOa s σ H Q I h=>pairTrees_nil_walk #[[],H,I,.nil,h]
theorem wJ{X:Cx}{pos:Pos}{k v:Φ}{ks:List ξ}{vs:Ι}{tk tv:TE}{a:List (TE×TE)}(hk:PE X k tk)(hv:PE X v tv)(hr:uF X pos ks vs a):
  uF X pos (↑k::ks) (v::vs) ((tk,tv)::a):=λOa s σ H Q I h=>
 pairTrees_cons_walk (qz (hk Oa s σ H _ I h) λu q ⟨x,H1,n,f,m⟩=>qz (hv Oa q σ H1 _ n m) λr o ⟨y,j,p,e,d⟩=>
  qz (hr Oa o σ j _ p d) λw t ⟨ps,g,i,c,l⟩=>#[(x,y)::ps,g,i,.cons #[f,e] c,l])
def Zs(kvs a:List (qJ×V)):List (qJ×V):=a.foldl (λc d=>HL c d.1 d.2) kvs
theorem KV.merge:∀{a:List (qJ×V)} {rs:List (qJ×Γ)} {kvs:List (qJ×V)} {vs:List (qJ×Γ)},KV a rs->KV kvs vs->KV (Zs kvs a) (merged vs rs):=by
 intro a rs kvs vs r;unfold KV at r
 induction r generalizing kvs vs with
 |nil=>intro q;exact q
 | @cons p q ps qs h t ih=>
  intro c;have e:KV (HL kvs p.1 p.2) (stored vs q.1 q.2):=by
   have:=c.put p.1 h.2
   rw[<- h.1];exact this
  exact ih e
theorem cC:∀(a kvs:List (qJ×V)),(Zs kvs a).length<=kvs.length+a.length
 | [],kvs=>by show kvs.length<=kvs.length+0;lia
 |p::r,kvs=>by
  have h1:=cC r (HL kvs p.1 p.2);have c:=ZL kvs p.1 p.2
  show(Zs (HL kvs p.1 p.2) r).length<=_
  rw[JN];lia
theorem gs{P:Ξ}{w:Ω}:∀{kvs:List (qJ×V)} {d:List (Γ×Γ)},VV (kvs.map λe=>(kV e.1,e.2)) d->∃rs,Carries (qN P w) d rs/\KV kvs rs
 | [],_,r=>by rw[FS]at r;cases r;exact#[[],True.intro,.nil]
 |p::kvs,_,r=>by
  rw[JS]at r;cases r with
  | @cons a b as bs h t=>
   obtain⟨rs,c,q⟩:=gs (P:=P) (w:=w) t
   obtain⟨g,f⟩:=b
   exact#[(p.1,f)::rs,#[cz h.1,Z,c],.cons #[Z,h.2] q]
def Ad(a:List (TE×TE)):TE:=λσ H Q=>∀p,H p=none->mS a σ (GW H p (.dK [])) λps d=>d p=↑(.dK [])/\∃kvs:List (qJ×V),ps=kvs.map (λc=>(kV c.1,c.2))/\kvs.length<=15/\Q (.ref p) (GW d p (.dK (Zs [] kvs)))
theorem AG{X:Cx}{pos:Pos}{keys:List ξ}{d:Ι}{i:List (TE×TE)}(h:uF X pos keys d i)(g:keys.all (·.isSome)=true)(hl:keys.length=d.length)(v:keys≠[])
  (j:keys.length<=15):PE X (.Dict keys d pos) (Ad i):=by
 intro Oa s σ H Q I q;have p:=I.hok.fresh (Jf s.heap.objs.size);have C:=I.laid (a:=s.heap.objs.size) (o:= .dK []) (h':=s.heap.push {cls:= .type "dict",data:= .dict (List.toArray [])}) (t':=s.toks) (λ_ _ q=>Jl _ q) (Jf _) (ma s.heap I.big)
 refine wpAny_Dict_walk (knd:=qN X.prog X.w) g hl v j (qz (h Oa _ σ _ _ C (q _ p)) λG F t=>?_)
 obtain⟨ps,J,m,l,e,kvs,ep,K,y⟩:=t;subst ep;obtain⟨rs,c,E⟩:=gs (P:=X.prog) (w:=X.w) l
 obtain⟨z,r,u,B,D⟩:=pS m.hok e;cases B;refine#[rs,c,D,λh' f x=>#[.ref s.heap.objs.size,_,?_,Z,y]]
 have A:(Zs [] kvs).length<=ζ:=by
  have h1:=cC kvs [];rw[List.length_nil]at h1;rw[Ju];lia
 have n:∃q,h'.get? s.heap.objs.size=↑q:=let⟨q,_,_,hq,_⟩:=f;#[q,hq]
 exact ij m (by rw[e];exact True.intro) x n (mO A r (E.merge .nil) f)
structure M1(X:Cx)(o:Φ)(m:Str)(apos:Pos)(e:Φ)(cpos:Pos):Prop where
 base:attributeBase o m X.env (eval o X.env)=eval o X.env
 few:((backTo cpos (θ [e] X.env)).all (λx=> ! x.1)&&(backToKw cpos (keywordEach [] X.env)).all (λx=>x.1.isSome)
  &&decide (([e]:Ι).length+([]:ο).length+(if([]:ο).isEmpty then 0 else 1)<30))=true
 line:(apos.endLine==cpos.line)=true
 trees:backTo cpos (θ [e] X.env)=[(false,eval e X.env)]
def Eh(H:Hp)(a:Δ):Prop:=(∃kvs,Rd H a (.dK kvs))\/∃kvs,Rd H a (.dT kvs)
theorem CT{X:Cx}{Oa:GR}{σ:St}{H:Hp}{s:Θ}{a:Δ}(I:GX X Oa σ H s)(d:Eh H a):
  s.TypeIs (.ref a) "dict"/\(∀b,Γ.ref a= .ref b->∃c,s.heap.get? b=↑c/\c.dict=none)/\(a==sysModules)=false:=by
 rcases d with⟨kvs,e⟩|⟨kvs,e⟩
 ·obtain⟨_,g,vs,_,f⟩:=aP I.hok e
  refine#[f.typeIs,λb q=>?_,g]
  cases q;obtain⟨c,_,_,h1,h,_⟩:=f
  exact#[c,h1,h.2.1]
 ·obtain⟨_,g,xs,_,f⟩:=eY I.hok e
  refine#[f.typeIs,λb q=>?_,g]
  cases q;obtain⟨c,_,_,h1,h,_⟩:=f
  exact#[c,h1,h.2.1]
section
variable{X:Cx}{Oa:GR}{σ:St}{H:Hp}{s:Θ}{a:Δ}{y:V}{u:Γ}{o:Ν}{A:Around}{E:GP}
theorem Dx{Q:GP}(hu:A.units+1<cLine)(I:GX X Oa σ H s)(g:Iy H a y o)(j:G8 y u)(h:∀m s',GX X Oa σ H s'->G8 (o.getD .non) m->Q m s'):
  ε (model X.prog X.w) A (call (.builtin "dict.get") [.ref a,u]) Q E s:=by
 rcases g with⟨kvs,k,e,f,l⟩|⟨kvs,k,b,e,f,n,l⟩
 ·subst f
  obtain⟨z,i,vs,c,d⟩:=aP I.hok e;refine call_meetsIn GC d.typeIs PySem.F.entry_dict_get (PySem.F.args_dict_get_2 _ _) (meets_dict_get (qN X.prog X.w) a (cz j) i) #[_,d.mapOf,h _ _ (I.tok _) ?_]
  rw[l]
  exact(c.val k).getD Z
 ·subst f
  cases(show u=Γ.ref b from j)
  obtain⟨z,i,xs,c,d⟩:=eY I.hok e;refine call_meetsIn GC d.typeIs PySem.F.entry_dict_get (PySem.F.args_dict_get_2 _ _) (meetsH_dict_get (tupleKind (qN X.prog X.w)) a b i) #[Gp hu,k,xs,cZ I.hok n,d,h _ _ (I.tok _) ?_]
  rw[l]
  exact(c.val k).getD Z
end
def uV(td ty:TE):TE:=λσ H Q=>td σ H λx H1=>∃a,x= .ref a/\Eh H1 a/\ty σ H1 λy c=>∃o,Iy c a y o/\Q (o.getD .non) c
section
variable{X:Cx}{o e:Φ}{apos cpos:Pos}{td ty:TE}
theorem wK(hu:X.A.units+1<cLine)(ho:PE X o td)(he:PE X e ty)(m:M1 X o "get" apos e cpos):PE X (.Call (.Attribute o "get" apos) [e] [] cpos) (uV td ty):=by
 intro Oa s σ H Q I h;refine wpAny_Call_method m.base m.few m.line PySem.F.plainAttrs_dict GC PySem.F.type_dict_get (qz (ho Oa s σ H _ I h) λu l n=>?_)
 obtain⟨x,H1,f,p,a,ex,d,z⟩:=n;subst ex
 obtain rfl:u=Γ.ref a:=p
 obtain⟨w,j,_⟩:=CT f d;refine#[w,j,?_]
 rw[m.trees];refine GA Z (Calls.evalArgs_plain (Calls.spliced_cons (qz (he Oa l σ H1 _ f z) λE B ⟨y,t,q,i,D,g,r⟩=>Calls.spliced_nil ?_)))
 exact Dx hu q g i λA C v c=>#[_,t,v,c,r]
end
section
variable{X:Cx}
theorem tX:zi X (.builtin "len") (λxs H Q=>∃a kvs,xs=[V.ref a]/\H a=↑(.dK kvs)/\Q (.int kvs.length) H):=by
 intro Oa s σ H xs f Q I r h;obtain⟨a,kvs,rfl,e,q⟩:=h;obtain⟨u,rfl,c⟩:=zM r;cases c;exact DA I (.inl e) λt s' d=>#[.int kvs.length,H,d,#[t,Z],q]
end
end L2
namespace L3
open PySem PySem.Spec PyProof.Rows L2
open PySem.W (kdl_dict kdl_extend)
section
variable{prog:Ξ}{w:Ω}{A:Around}{E:GP}{s:Θ}
theorem mw{d:Δ}{kvs:List (qJ×Γ)}{ep:Nat}{Q:Ζ->Θ->Prop}(l:A.handled=none)(hm:s.heap.DictAt (qN prog w) d kvs ep)(lo:(d==sysModules)=false)(hn:kvs.length<=ζ)
  (h:∀(vs:Ζ) (h':Ψ) (tk:Nat),s.heap.objs.size<h'.objs.size->(∀b o,s.heap.get? b=↑o->h'.get? b=↑o)->vs.length=kvs.length->(∀(j:Nat) (v:Γ),vs[j]? =↑v->∃k x,kvs[j]? =↑(k,x)/\(qN prog w).is k v=true)->Q vs {s with heap:=h',toks:=tk}):
  ε (model prog w) A (collect (.ref d)) Q E s:=by
 unfold collect;refine Ja (wpAny_runValue (Fo entry_proto_collect' ?_))
 show ε _ _ (do again (.builtin "list.__iadd__" #[[<- newList [],.ref d],[]])) _ _ s
 refine Ja (wpAny_newList (Jd #[Code.quiet_builtin _ nofun,Fo entry_list_iadd' ?_]))
 rw[Around.under_plainId PySem.F.plain_list_iadd _];have c:d<s.heap.objs.size:=hm.lt_size
 refine kdl_extend (s:={s with heap:=s.heap.push (seqObj "list" (List.toArray []) 0)}) (R:=λr s'=>match r with
   | .ok (.ret v)=>ε (model prog w) A (match v with
    | .ref a=>(do
     let o <- load a
     match o.data with
     | .seq xs _=>pure xs.toList
     |_=>unsupported "internal:collect")
    |_=>unsupported "internal:collect") Q E s'
   | .ok _=>False
   | .error e=>E e s') (kdl_dict (knd:=qN prog w) (ep:=ep) (kvs:=kvs) lo) l (hm.push _) s.heap.objs.size (EV c) (EV c) _ 0 (Jq _ Z) (λh' tk f c' hk g i=>?_) hn
 show ε (model prog w) A (do
   let o <- load s.heap.objs.size
   match o.data with
   | .seq xs _=>pure xs.toList
   |_=>unsupported "internal:collect") Q E {s with heap:=h',toks:=tk}
 refine Ja (wpAny_load g ?_)
 refine Jd (h f.toList h' tk (Jj g) (λb o e=>hk b o (Jk (Jj e)) (Jl _ e)) (by rw[Jp];exact i.1) λj v e=>i.2 j v (by rw[<- Array.getElem?_toList];exact e))
theorem iN:∀{us:Ζ} {a:Α},us.length=a.length->(∀(j:Nat) (v:Γ),us[j]? =↑v->∃x t,a[j]? =↑x/\v= .str x t)->StrsAre us a
 | [],[],_,_=> .nil
 |u::us,x::a,hl,h=>by
  obtain⟨y,t,c,d⟩:=h 0 u Z;cases c;subst d;exact .cons _ _ (iN (Nat.succ.inj hl) λj v e=>h (j+1) v e)
 | [],_::_,hl,_=>by cases hl
 |_::_,[],hl,_=>by cases hl
theorem nV{d:Δ}{kvs:List (qJ×Γ)}{ep:Nat}{i:Α}{Q:GP}(R:A.handled=none)(hm:s.heap.DictAt (qN prog w) d kvs ep)(lo:(d==sysModules)=false)(r:kvs.map (·.1)=i.map Sum.inr)(B:i.length<64)
  (h:∀(h':Ψ) (tk:Nat) (l:Δ) (its:Ζ) (n:Nat) (a:Α),s.heap.objs.size<=l->(∀b o,s.heap.get? b=↑o->h'.get? b=↑o)->h'.get? l=↑(seqObj "list" its.toArray n)->StrsAre its a->a.Perm i->sortedS a=true->Q (.ref l) {s with heap:=h',toks:=tk}):
  ε (model prog w) A (call (.builtin "sorted") [.ref d]) Q E s:=by
 have c:kvs.length=i.length:=by have:=JH List.length r;rwa [Je,Je]at this
 refine Calls.call_function_entry kind_sorted plain_sorted entry_sorted (args_sorted1 _) ?_
 unfold γ.«sorted»
 refine Ja (m:=checkCount "sorted" 1 1 _) (Jd ?_)
 refine Ja (mw (ep:=ep) (kvs:=kvs) R hm lo (by rw[Ju];lia) λp h' tk z hk H P=>?_)
 have C:StrsAre p i:=iN (H.trans c) λj v e=>by
  obtain⟨k,x,U,L⟩:=P j v e;have q:(kvs.map (·.1))[j]? =↑k:=by rw[Jn,U];rfl
  rw[r,Jn]at q;cases e4:i[j]? with
  |none=>rw[e4]at q;cases q
  |some y=>
   rw[e4]at q;have T:Sum.inr y=k:=JA q
   subst T;have F:Γ.isStrOf y v=true:=L
   cases v<;>simp [Γ.isStrOf]at F
   subst F
   exact#[_,_,Z,Z]
 refine Ja (wpAny_newList ?_)
 have f:(h'.push (seqObj "list" p.toArray 0)).get? h'.objs.size=↑(seqObj "list" p.toArray 0):=Jq _ Z
 show ε _ _ _ _ _ {s with heap:=h'.push (seqObj "list" p.toArray 0),toks:=tk}
 refine Ja (JI (J5 slot_list_sort #[_,f,Z] entry_list_sort (list_sort_treeK (κ:=PyProof.Rows.strKind) strKind_oneLt f C.keysOf (λJ D rest e=>keyKind_strs (by rw[<- e];exact C)) (by rw[H,c];exact B) λg S M=>#[_,Z,?_]) (args_list_sort _)))
 obtain⟨a,O,N,K⟩:=sorted_out_str C S M;obtain⟨t,u⟩:∃t,(sortedHeap (h'.push (seqObj "list" p.toArray 0)) h'.objs.size p ((arrOf g).map (·.2))).get? h'.objs.size=↑(seqObj "list" ((arrOf g).map (·.2)) t):=sortedHeap_at f
 refine Jd #[_,Z,h _ tk h'.objs.size ((arrOf g).map (·.2)).toList t a (F5 z) (λb o e=>?_) (by rw[u]) O N K]
 have I:=hk b o e;have G:b<h'.objs.size:=Jj I
 rw[sortedHeap_old (Jk G) (by rw[JX];exact EY G)]
 exact Jl _ I
end
theorem eG:∀{us:Ζ} {a:Α},StrsAre us a->GZ (a.map V.str) us
 | [],[],.nil=> .nil
 |_,_::_,.cons _ _ t=> .cons #[_,Z] (eG t)
theorem kj{X:Cx}(hc:X.calm=true):zi X (.builtin "sorted") (λxs H Q=>∃(d:Δ) (kvs:List (qJ×V)) (e:Α),xs=[.ref d]/\H d=↑(.dK kvs)/\kvs.map (·.1)=e.map Sum.inr/\e.length<64/\
  ∀l c,H l=none->c.Perm e->sortedS c=true->Q (.ref l) (GW H l (.lst (c.map V.str)))):=by
 intro Oa s σ H xs K Q I r h;obtain⟨d,kvs,e,rfl,F,m,i,q⟩:=h;obtain⟨u,rfl,G⟩:=zM r;cases G;obtain⟨z,lo,vs,j,o,es,ep,J,B,E,x,D,C⟩:=pS I.hok F;have f:vs.map (·.1)=e.map Sum.inr:=by rw[<- m,j.keys]
 refine nV (I.ok.hd hc) (#[o,es,J,B,E,x,D,C]:s.heap.DictAt (qN X.prog X.w) d vs ep) lo f i λh' tk l g n c t hk v A p y=>?_
 refine#[.ref l,_,I.laid (a:=l) (o:= .lst (c.map V.str)) (t':=tk) hk t ?_,Z,q l c (I.hok.fresh t) p y]
 have w:=eG A;refine#[?_,g,n,w,v]
 have:=p.length_eq
 rw[Je,Ju];lia
end L3
namespace L3
open PySem PySem.Spec PyProof.Rows L2
open Sem (wp)
variable{X:Cx}
section
variable{o i value:Φ}{pos pos':Pos}{td ty tv:TE}
theorem zJ{k:Nat}(hr:HB k X.A)(ho:QE X o td)(hi:QE X i ty)(hs:xu i:=by exactλ_ _=>rfl):QE X (.Subscript o i pos) (yY td ty):=#[AO (by have:=hr.un;lia) ho.h hi.h hs]
theorem Qw{k:Nat}(hr:HB k X.A)(ho:QE X o td)(hi:QE X i ty)(hv:QE X value tv)(hs:swapsWith value ↑(.Subscript o i pos') pos.line X.env=pure false:=by rfl):
  QS X (.Assign [.Subscript o i pos'] value pos) (yx td ty tv):=#[As (by have:=hr.un;lia) ho.h hi.h hv.h hs]
structure N1(X:Cx)(pos:Pos)(keys:List ξ)(values:Ι)(trs:List (TE×TE)):Prop where
 h:uF X pos keys values trs
theorem Ar:N1 X pos [] [] []:=#[AZ]
theorem au{k v:Φ}{ks:List ξ}{vs:Ι}{tk tv:TE}{a:List (TE×TE)}(hk:QE X k tk)(hv:QE X v tv)(hr:N1 X pos ks vs a):N1 X pos (↑k::ks) (v::vs) ((tk,tv)::a):=#[wJ hk.h hv.h hr.h]
theorem Bz{keys:List ξ}{a:Ι}{d:List (TE×TE)}(h:N1 X pos keys a d)(c:keys.all (·.isSome)=true:=by rfl)(hl:keys.length=a.length:=by rfl)(f:keys≠[]:=by(intro z;cases z))
  (e:keys.length<=15:=by decide):QE X (.Dict keys a pos) (Ad d):=#[AG h.h c hl f e]
end
theorem oZ{k:qJ}{v:V}:∀{kvs:List (qJ×V)} (i:Nat),kvs[i]? =↑(k,v)->(kvs.map (·.1)).Nodup->Zo kvs k=↑v
 | [],i,h,_=>by cases h
 |p::r,0,h,_=>by
  cases JA h
  exact am Z
 |p::r,i+1,h,nd=>by
  have h':r[i]? =↑(k,v):=h
  have a:p.1∉r.map (·.1)/\(r.map (·.1)).Nodup:=Fg.mp nd
  have d:k∈r.map (·.1):=Jt.mpr #[(k,v),JP h',Z]
  have c:p.1≠k:=λz=>a.1 (z▸d)
  rw[ax c];exact oZ i h' a.2
theorem Al{k:qJ}{v:V}{kvs:List (qJ×V)}(h:k∉kvs.map (·.1)):HL kvs k v=kvs++[(k,v)]:=by
 unfold HL;rw[Jb];intro z;obtain⟨p,a,e⟩:=Gq.mp z;exact h (Jt.mpr #[p,a,Jx e])
end L3
namespace L3
open PySem PySem.Spec PyProof.Rows L2
section
variable{X:Cx}{o e:Φ}{apos cpos pos:Pos}{td ty:TE}
theorem lC{k:Nat}(hr:HB k X.A)(ho:QE X o td)(ha:QE X e ty)(m:M1 X o "get" apos e cpos:=by exact#[Z,Z,Z,Z]):QE X (.Call (.Attribute o "get" apos) [e] [] cpos) (uV td ty):=#[wK (by have:=hr.un;lia) ho.h ha.h m]
theorem gl:QE X (.Dict [] [] pos) tD:=#[wu]
theorem tL{k:Nat}(hr:HB k X.A)(hi:QE X e ty)(ho:QE X o td)(h1:behindInMarks CmpOp.In o=false:=by rfl):QT X (.Compare e [.In] [o] pos) (gy (CC ty td)):=#[Dk (Dq (by have:=hr.un;lia) hi.h ho.h) (h1:=h1)]
end
structure Kb where
 age:Int
 last:Int
 wt:Option (Int×Int)
abbrev _root_.Τ:=Option Kb
abbrev Kw:=List (Str×Kb)
def Wt(H:Hp)(v:V):Option (Int×Int)->Prop
 |none=>v= .non
 |some (x,c)=>∃w,v= .ref w/\H w=↑(.tup [.int x,.int c])
def HS(H:Hp)(a:Δ)(e:Kb):Prop:=∃v,H a=↑(.tup [.int e.age,.int e.last,v])/\Wt H v e.wt
def eB(kn:Kw)(f:Str->Δ):List (qJ×V):=kn.map λe=>(Sum.inr e.1,V.ref (f e.1))
def II(H:Hp)(d:Δ)(kn:Kw):Prop:=∃f:Kw×(Str->Δ),H d=↑(.dK (eB f.1 f.2))/\(∀e∈kn,HS H (f.2 e.1) e.2)/\f.1.Perm kn/\(kn.map (·.1)).Nodup
def zc(kn:Kw)(nm:Str)(e:Kb):Kw:=if nm∈kn.map (·.1)then kn.map (λp=>if p.1=nm then(nm,e)else p)else kn++[(nm,e)]
theorem Mv.tup{S:Η}{H H':Hp}{a:Δ}{xs:Ε}(m:Mv S H H')(n:NT S H)(h:H a=↑(.tup xs)):H' a=↑(.tup xs):=m _ _ (λz=>by
 obtain⟨o,e,no⟩:=n a z;rw[e]at h;cases h;exact no) h
theorem Wt.mv{S:Η}{H H':Hp}{v:V}{o:Option (Int×Int)}(m:Mv S H H')(n:NT S H)(h:Wt H v o):Wt H' v o:=by
 cases o with
 |none=>exact h
 |some p=>obtain⟨w,e,r⟩:=h;exact#[w,e,m.tup n r]
theorem HS.mv{S:Η}{H H':Hp}{a:Δ}{e:Kb}(m:Mv S H H')(n:NT S H)(h:HS H a e):HS H' a e:=by
 obtain⟨v,r,w⟩:=h
 exact#[v,m.tup n r,w.mv m n]
theorem HS.same{H H':Hp}{a:Δ}{e:Kb}(s:GS H H')(h:HS H a e):HS H' a e:=h.mv (S:=[]) s.mv (λc h=>nomatch h)
theorem II.mv{S:Η}{H H':Hp}{d:Δ}{kn:Kw}(m:Mv S H H')(n:NT S H)(hd:d∉S)(h:II H d kn):II H' d kn:=by
 obtain⟨f,r,w,p⟩:=h
 exact#[f,m _ _ hd r,λe a=>(w e a).mv m n,p]
theorem II.same{H H':Hp}{d:Δ}{kn:Kw}(s:GS H H')(h:II H d kn):II H' d kn:=h.mv (S:=[]) s.mv (λc h=>nomatch h) (λh=>nomatch h)
theorem oU(f:Str->Δ)(nm:Str):∀a:Kw,Zo (eB a f) (Sum.inr nm:qJ)=(a.lookup nm).map λ_=>V.ref (f nm)
 | []=>rfl
 |(m,e)::r=>by
  show Zo ((Sum.inr m,V.ref (f m))::eB r f) (Sum.inr nm)=_
  by_cases q:m=nm
  ·subst q
   rw[am Z,List.lookup_cons_self];rfl
  ·rw[ax (by intro z;injection z with z;exact q z),J7,FL (λz=>q z.symm)]
   exact oU f nm r
theorem QH{nm:Str}{e:Kb}:∀{kn:Kw},kn.lookup nm=↑e->(nm,e)∈kn
 |(m,x)::r,h=>by
  rw[J7]at h
  by_cases q:nm=m
  ·subst q
   rw[Fu]at h;cases h;exact JB ..
  ·rw[FL q]at h
   exact JM _ (QH h)
theorem Hg{nm:Str}:∀{kn:Kw},(kn.lookup nm).isSome=true↔nm∈kn.map (·.1)
 | []=>by simp
 |(m,x)::r=>by
  rw[J7,JS,Jm]
  by_cases q:nm=m
  ·subst q;simp
  ·rw[FL q]
   simp only[q,false_or];exact Hg
theorem aO(kn:Kw)(nm:Str)(e:Kb):(zc kn nm e).map (·.1)=if nm∈kn.map (·.1)then kn.map (·.1)else kn.map (·.1)++[nm]:=by
 unfold zc;split
 ·rw[ET]
  refine FJ λp a=>?_
  simp only[Function.comp]
  by_cases y:p.1=nm
  ·rw[Jc y,y]
  ·rw[Jb y]
 ·rw[JK];rfl
theorem kG(kn:Kw)(nm:Str)(e:Kb):(zc kn nm e).length<=kn.length+1:=by
 have:=JH List.length (aO kn nm e)
 rw[Je]at this;rw[this];split
 ·rw[Je];lia
 ·rw[Jv,Je];exact Jf _
theorem fo{kn:Kw}(c:(kn.map (·.1)).Nodup)(nm:Str)(e:Kb):((zc kn nm e).map (·.1)).Nodup:=by
 rw[aO];split
 ·exact c
 ·rename_i z
  exact Fv.mpr #[c,by simp,λa d b f=>by rw[Jh.mp f];exactλw=>z (w▸d)]
theorem QY{nm:Str}{e:Kb}:∀{kn:Kw},(kn.map (·.1)).Nodup->kn.lookup nm=↑e->∀p∈kn,p.1=nm->p=(nm,e)
 | [],_,h,_,a,_=>by cases a
 |(m,x)::r,nd,h,p,a,hn=>by
  have c:m∉r.map (·.1)/\(r.map (·.1)).Nodup:=Fg.mp nd
  rw[J7]at h
  by_cases q:nm=m
  ·subst q
   rw[Fu]at h;cases h;rcases Jm.mp a with rfl|a
   ·rfl
   ·exact absurd (Jt.mpr #[p,a,hn]) c.1
  ·rw[FL q]at h
   rcases Jm.mp a with rfl|a
   ·exact absurd hn.symm q
   ·exact QY c.2 h p a hn
theorem nQ{a kn:Kw}(pm:a.Perm kn)(d:(kn.map (·.1)).Nodup)(nm:Str):a.lookup nm=kn.lookup nm:=by
 cases e:a.lookup nm with
 |none=>
  cases e':kn.lookup nm with
  |none=>rfl
  |some x=>
   have:(a.lookup nm).isSome=true:=Hg.mpr ((pm.map (·.1)).mem_iff.mpr (Hg.mp (by rw[e'];rfl)))
   rw[e]at this;cases this
 |some x=>
  obtain⟨y,c⟩:∃y,kn.lookup nm=↑y:=Gg.mp (Hg.mpr (Jt.mpr #[_,pm.mem_iff.mp (QH e),Z]))
  rw[c]
  have:=QY d c _ (pm.mem_iff.mp (QH e)) Z
  cases this;rfl
theorem II.get{H:Hp}{d:Δ}{kn:Kw}(h:II H d kn)(nm:Str):(kn.lookup nm=none/\Iy H d (.str nm) none)\/∃e a,kn.lookup nm=↑e/\Iy H d (.str nm) ↑(.ref a)/\HS H a e:=by
 obtain⟨⟨l,f⟩,c,i,pm,j⟩:=h;have g:=Iy.k (k:=Sum.inr nm) c
 rw[oU,nQ pm j]at g;cases q:kn.lookup nm with
 |none=>rw[q]at g;exact .inl #[Z,g]
 |some e=>rw[q]at g;exact .inr #[e,f nm,Z,g,i _ (QH q)]
theorem jl{a kn:Kw}(pm:a.Perm kn)(nm:Str)(e:Kb):(zc a nm e).Perm (zc kn nm e):=by
 unfold zc
 by_cases z:nm∈kn.map (·.1)
 ·rw[Jc ((pm.map (·.1)).mem_iff.mpr z),Jc z];exact pm.map _
 ·rw[Jb (λw=>z ((pm.map (·.1)).mem_iff.mp w)),Jb z];exact pm.append_right _
theorem II.put{H:Hp}{d a:Δ}{kn:Kw}{e:Kb}(h:II H d kn)(nm:Str)(hl:kn.length<=100)(hb:HS H a e):∃H',Lq H d (.str nm) (.ref a) H'/\Mv [d] H H'/\II H' d (zc kn nm e):=by
 obtain⟨⟨i,f⟩,t,m,pm,x⟩:=h;have j:(eB i f).length=kn.length:=(Je _).trans pm.length_eq
 have hk:∀e∈i,HS H (f e.1) e.2:=λe u=>m e (pm.mem_iff.mp u)
 refine#[_,Lq.k (k:=Sum.inr nm) t (by rw[j];exact sL _),Mv.upd1,(zc i nm e,λn=>if n=nm then a else f n),?_,?_,jl pm nm e,fo x nm e]
 ·rw[qc]
  congr 2
  unfold HL zc eB;have s:((i.map λe=>((Sum.inr e.1:qJ),V.ref (f e.1))).any λv=>decide (v.1=(Sum.inr nm:qJ)))=true↔nm∈i.map (·.1):=by
   rw[Gq];constructor
   ·rintro⟨p,c,z⟩
    obtain⟨q,g,rfl⟩:=Jt.mp c;have r:(Sum.inr q.1:qJ)=Sum.inr nm:=Jx z
    injection r with r
    exact Jt.mpr #[q,g,r]
   ·intro z
    obtain⟨q,g,e⟩:=Jt.mp z
    exact#[_,Jt.mpr #[q,g,Z],Ji (by rw[e])]
  by_cases z:nm∈i.map (·.1)
  ·rw[Jc (s.mpr z),Jc z,ET,ET]
   refine FJ λp c=>?_
   simp only[Function.comp]
   by_cases y:p.1=nm
   ·rw[Jc (by rw[y]),Jc y]
    simp [y]
   ·rw[Jb (by intro w;injection w with w;exact y w),Jb y]
    simp [y]
  ·rw[Jb (λw=>z (s.mp w)),Jb z,JK]
   congr 1
   ·refine FJ λp c=>?_
    have y:¬p.1=nm:=λw=>z (Jt.mpr #[p,c,w])
    simp [y]
   ·simp
 ·have nt:NT [d] H:=NT.one t trivial
  intro p c;have c:=(jl pm nm e).mem_iff.mpr c;have l:=hb.mv (Mv.upd1 (o:= .dK (HL (eB i f) (Sum.inr nm) (.ref a)))) nt
  unfold zc at c;split at c
  ·obtain⟨q,g,rfl⟩:=Jt.mp c
   by_cases y:q.1=nm
   ·rw[Jc y];simp only[Fc];exact l
   ·rw[Jb y]
    show HS _ (if q.1=nm then a else f q.1) q.2
    rw[Jb y]
    exact(hk q g).mv Mv.upd1 nt
  ·rename_i z
   rcases JL.mp c with g|g
   ·have y:¬p.1=nm:=λw=>z (Jt.mpr #[p,g,w])
    show HS _ (if p.1=nm then a else f p.1) p.2
    rw[Jb y]
    exact(hk p g).mv Mv.upd1 nt
   ·rw[Jh.mp g];simp only[Fc];exact l
def HI(K:ι)(H:Hp)(hk:Δ)(kss:List Β):Prop:=∃c:Η,H hk=↑(.lst (c.map V.ref))/\c.length=kss.length/\∀(i:Nat) (a:Δ) (d:Β),c[i]? =↑a->kss[i]? =↑d->G9 K H a (d.map V.int)
theorem HI.mv{K:ι}{S:Η}{H H':Hp}{hk:Δ}{kss:List Β}(m:Mv S H H')(n:NT S H)(hd:hk∉S)(h:HI K H hk kss):HI K H' hk kss:=by
 obtain⟨g,e,l,r⟩:=h
 exact#[g,m _ _ hd e,l,λi a f d c=>m.sqt n (r i a f d c)]
structure Dr where
 t:Β
 kss:List Β
 near:Int
 far:Int
 most:Int
 least:Int
 kn:Kw
def dF(D:Dr)(ta hk bd lg:Δ):List (Str×V):=
 [("table",.ref ta),("house_keys",.ref hk),("near",.int D.near),("far",.int D.far),("most",.int D.most),("least_age",.int D.least),("buttons",.ref bd),("log",.ref lg)]
def dN:Α:=["table","house_keys","near","far","most","least_age","buttons","log"]
theorem DS:dN.Nodup:=by decide +kernel
theorem yv(D:Dr)(ta hk bd lg:Δ):((dF D ta hk bd lg).map (·.1)).Nodup:=DS
structure Iz(K:ι)(C:Δ):Prop where
 cl:LV K C
 n_table:HH K C "table"
 n_house_keys:HH K C "house_keys"
 n_near:HH K C "near"
 n_far:HH K C "far"
 n_most:HH K C "most"
 n_least_age:HH K C "least_age"
 n_buttons:HH K C "buttons"
 n_log:HH K C "log"
structure GV(K:ι)(C:Δ)(H:Hp)(p ta hk bd lg:Δ)(n:Nat)(D:Dr):Prop where
 ob:∃dx,H p=↑(.ins C dx (dF D ta hk bd lg))
 tb:G9 K H ta (D.t.map V.int)
 ks:HI K H hk D.kss
 kb:II H bd D.kn
 lo:∃rs:Η,H lg=↑(.lst (rs.map V.ref))/\rs.length<=n
 ne:lg≠hk
section
variable{K:ι}{C:Δ}{H H':Hp}{p ta hk bd lg dx:Δ}{n:Nat}{D:Dr}
theorem GV.has(b:GV K C H p ta hk bd lg n D)(U:Iz K C)(i:Nat){f:Str}{v:V}(h:(dF D ta hk bd lg)[i]? =↑(f,v))(a:HH K C f):bi K H p f v:=by
 obtain⟨dx,e⟩:=b.ob
 exact#[C,dx,_,e,U.cl,a,iP i h (yv ..)]
theorem GV.h_table(b:GV K C H p ta hk bd lg n D)(U:Iz K C):bi K H p "table" (.ref ta):=b.has U 0 Z U.n_table
theorem GV.h_house_keys(b:GV K C H p ta hk bd lg n D)(U:Iz K C):bi K H p "house_keys" (.ref hk):=b.has U 1 Z U.n_house_keys
theorem GV.h_near(b:GV K C H p ta hk bd lg n D)(U:Iz K C):bi K H p "near" (.int D.near):=b.has U 2 Z U.n_near
theorem GV.h_far(b:GV K C H p ta hk bd lg n D)(U:Iz K C):bi K H p "far" (.int D.far):=b.has U 3 Z U.n_far
theorem GV.h_most(b:GV K C H p ta hk bd lg n D)(U:Iz K C):bi K H p "most" (.int D.most):=b.has U 4 Z U.n_most
theorem GV.h_least_age(b:GV K C H p ta hk bd lg n D)(U:Iz K C):bi K H p "least_age" (.int D.least):=b.has U 5 Z U.n_least_age
theorem GV.h_buttons(b:GV K C H p ta hk bd lg n D)(U:Iz K C):bi K H p "buttons" (.ref bd):=b.has U 6 Z U.n_buttons
theorem GV.h_log(b:GV K C H p ta hk bd lg n D)(U:Iz K C):bi K H p "log" (.ref lg):=b.has U 7 Z U.n_log
theorem GV.no(b:GV K C H p ta hk bd lg n D){m:Str}(h:m∉dN:=by decide +kernel):Ef C H p m:=by
 obtain⟨dx,e⟩:=b.ob
 exact#[dx,_,e,i7 h]
theorem GV.mv{S:Η}(b:GV K C H p ta hk bd lg n D)(m:Mv S H H')(nt:NT S H)(hp:p∉S)(c:hk∉S)(hb:bd∉S)(hl:lg∉S):GV K C H' p ta hk bd lg n D:=by
 obtain⟨dx,e⟩:=b.ob;obtain⟨rs,a,l⟩:=b.lo
 exact#[#[dx,m _ _ hp e],m.sqt nt b.tb,b.ks.mv m nt c,b.kb.mv m nt hb,#[rs,m _ _ hl a,l],b.ne]
theorem GV.same(b:GV K C H p ta hk bd lg n D)(s:GS H H'):GV K C H' p ta hk bd lg n D:=b.mv (S:=[]) s.mv (λc h=>nomatch h) (λh=>nomatch h) (λh=>nomatch h) (λh=>nomatch h) (λh=>nomatch h)
end
inductive NS (x:V) (y:V) (H:Hp) (Q:VK):Prop
 |mk (o:Option (Int×Int)) (b:Δ) (a c:Int) (h1:Wt H x o) (h2:y= .ref b) (h3:Rd H b (.tup [.int a,.int c])) (h4:Q (.bl (decide (o=↑(a,c)))) H)
def Ev:R2:=λx y H Q=>NS x y H Q
theorem vw{X:Cx}{k:Nat}(hr:HB k X.A):zt X (compareOp .Eq) Ev:=by
 intro Oa s σ H x y v u Q I E G h;obtain⟨o,b,a,c,D,rfl,M,q⟩:=h;cases G;obtain⟨g,B,p2,_⟩:=I.tuple (.inl M)
 have C:X.A.units<cLine:=by have:=hr.un;lia
 cases o with
 |none=>
  have l:x= .non:=D
  subst l;cases E;rw[Jo (by intro z;cases z)]at q
  exact SeqAt.RcAt.none_tuple p2 C _ _ _ _ #[.bl false,H,I,Z,q]
 |some pr=>
  obtain⟨m,n⟩:=pr;obtain⟨w,rfl,l⟩:=D;cases E;obtain⟨i,F,J,_⟩:=I.tuple (.inl (.inl l))
  have r:=F.length;have p:=B.length;have O:=SeqAt.RcAt.tuples (A:=X.A) (e:=λj=>[m,n].getD j 0==[a,c].getD j 0) (show s.heap.IsTuple w i.toArray from J) (show s.heap.IsTuple b g.toArray from p2) C (λj h1 K=>by
   have f:j<i.length:=by simpa using h1
   have d:j<g.length:=by simpa using K
   obtain⟨t,e⟩:=fv (ns:=[m,n]) F j f (by rw[<- r]at f;exact f)
   obtain⟨R,N⟩:=fv (ns:=[a,c]) B j d (by rw[<- p]at d;exact d)
   simp only[List.getElem_toArray,e,N,Jz,Jg (show j<[m,n].length by rw[<- r]at f;exact f),Jg (show j<[a,c].length by rw[<- p]at d;exact d),Fn]
   exact SeqAt.EqAt.int_int _ _ _ _)
  have L:i.toArray.size=2:=by rw[Jr,<- r];rfl
  have P:g.toArray.size=2:=by rw[Jr,<- p];rfl
  refine O _ _ _ _ #[.bl _,H,I,?_,q]
  show Γ.bool _=Γ.bool _
  congr 1
  rw[L,P,show min 2 2=([m,n]:Β).length from Z,xo [m,n] [a,c] Z]
  simp
def rh(c l n f:Int):Str:=if c<=l then "old" else if c<=l+n then "near" else if c<=l+f then "far" else "beyond"
inductive Mu (vs:Ε) (H:Hp) (Q:VK):Prop
 |mk (c l n f:Int) (h1:vs=[.int c,.int l,.int n,.int f]) (h2:Q (.str (rh c l n f)) H)
def oR:Sp:=λvs H Q _=>Mu vs H Q
def zr(a d:Int)(e:Kb)(age c:Int):Str×Kb:=
 if c<=e.last then("old",e)else if c<=e.last+a then("near",#[age,c,none])
 else if c<=e.last+d then(if e.wt=↑(age,c-1)then("near",#[age,c,none])else("far",#[e.age,e.last,↑(age,c)]))else("beyond",e)
inductive Mw (vs:Ε) (H:Hp) (Q:VK):Prop
 |mk (a:Δ) (e:Kb) (age c near far:Int) (h1:vs=[.ref a,.int age,.int c,.int near,.int far]) (h2:HS H a e) (h3:∀q a' H',GS H H'->H' q=↑(.tup [.str (zr near far e age c).1,.ref a'])->HS H' a' (zr near far e age c).2->Q (.ref q) H')
def ip:Sp:=λvs H Q _=>Mw vs H Q
def ZU(D:Dr)(age:Int):Bool:=decide (D.least<=age)&&decide (age<D.kss.length)
def qR(D:Dr)(e:Kb)(age:Int):Bool:=ZU D age&&decide (e.age<=age)
def zk(D:Dr)(nm:Str)(age:Int)(r:Option (Int×Int)):Ε×Kw:=
 match D.kn.lookup nm with
 |none=>([.str "held",.str "unknown"],D.kn)
 |some e=>if qR D e age=true then(match r with
   |none=>([.str "held",.str "false"],D.kn)
   |some (c,d)=>if(zr D.near D.far e age c).1="near" then([.str "open",.str nm,.int d],zc D.kn nm (zr D.near D.far e age c).2)else([.str "held",.str (zr D.near D.far e age c).1],zc D.kn nm (zr D.near D.far e age c).2))
  else([.str "held",.str "age"],D.kn)
structure Ik(D:Dr):Prop where
 tp:D.t.Perm HW
 l0:0<=D.least
 kl:D.kss.length<=8
 nl:D.kn.length<=60
 nd:(D.kn.map (·.1)).Nodup
section
variable(K:ι)(C:Δ)
inductive Mz (vs:Ε) (H:Hp) (Q:VK):Prop
 |mk (p ta hk bd lg:Δ) (n:Nat) (D:Dr) (h1:vs=[.ref p]) (h2:GV K C H p ta hk bd lg n D) (h3:Q (.bl (decide (D.most<=(D.kn.length:Int)))) H)
def pC:Sp:=λvs H Q _=>Mz K C vs H Q
inductive L5 (vs:Ε) (H:Hp) (Q:VK):Prop
 |mk (p ta hk bd lg:Δ) (n:Nat) (D:Dr) (age:Int) (h1:vs=[.ref p,.int age]) (h2:GV K C H p ta hk bd lg n D) (h3:Q (.bl (ZU D age)) H)
def fU:Sp:=λvs H Q _=>L5 K C vs H Q
inductive MA (vs:Ε) (H:Hp) (Q:VK):Prop
 |mk (p ta hk bd lg a:Δ) (n:Nat) (D:Dr) (e:Kb) (age:Int) (h1:vs=[.ref p,.ref a,.int age]) (h2:GV K C H p ta hk bd lg n D) (h3:HS H a e) (h4:Q (.bl (qR D e age)) H)
def bA:Sp:=λvs H Q _=>MA K C vs H Q
inductive Nw (vs:Ε) (H:Hp) (Q:VK):Prop
 |mk (p ta hk bd lg:Δ) (n:Nat) (D:Dr) (nm:Str) (h1:vs=[.ref p,.str nm]) (h2:GV K C H p ta hk bd lg n D) (h3:(D.kn.lookup nm=none->Q .non H)) (h4:(∀e a,D.kn.lookup nm=↑e->HS H a e->Q (.ref a) H))
def hJ:Sp:=λvs H Q _=>Nw K C vs H Q
inductive MB (vs:Ε) (H:Hp) (Q:VK):Prop
 |mk (p ta hk bd lg a:Δ) (n:Nat) (D:Dr) (e:Kb) (age c:Int) (h1:vs=[.ref p,.ref a,.int age,.int c]) (h2:GV K C H p ta hk bd lg n D) (h3:HS H a e) (h4:qR D e age=true) (h5:∀q a' H',GS H H'->H' q=↑(.tup [.str (zr D.near D.far e age c).1,.ref a'])->HS H' a' (zr D.near D.far e age c).2->Q (.ref q) H')
def pB:Sp:=λvs H Q _=>MB K C vs H Q
def HU(H:Hp)(c:Δ)(nm:Str)(age:Int)(ds:Β):Prop:=∃a,H c=↑(.tup [.str nm,.int age,.ref a])/\H a=↑(.tup (ds.map V.int))
def Qr(D:Dr)(age:Int):Β:=D.kss.getD age.toNat []
inductive LI (vs:Ε) (H:Hp) (Q:VK):Prop
 |mk (p ta hk bd lg pr:Δ) (n:Nat) (D:Dr) (nm:Str) (age:Int) (ds:Β) (h1:vs=[.ref p,.ref pr]) (h2:GV K C H p ta hk bd lg n D) (h3:Ik D) (h4:HU H pr nm age ds) (h5:Qq nm) (h6:ds.length=5) (h7:zy ds) (h8:∀q H',Mv [bd] H H'->H' q=↑(.tup (zk D nm age (Zu D.t (Qr D age) nm ds)).1)->GV K C H' p ta hk bd lg n {D with kn:=(zk D nm age (Zu D.t (Qr D age) nm ds)).2}->Q (.ref q) H')
def ju:Sp:=λvs H Q _=>LI K C vs H Q
end
theorem HU.mv{S:Η}{H H':Hp}{a:Δ}{nm:Str}{age:Int}{ds:Β}(m:Mv S H H')(n:NT S H)(h:HU H a nm age ds):HU H' a nm age ds:=by
 obtain⟨c,d,e⟩:=h
 exact#[c,m.tup n d,m.tup n e]
theorem HU.same{H H':Hp}{a:Δ}{nm:Str}{age:Int}{ds:Β}(s:GS H H')(h:HU H a nm age ds):HU H' a nm age ds:=by
 obtain⟨c,d,e⟩:=h
 exact#[c,s _ _ d,s _ _ e]
theorem iQ{X:Cx}:zt X (compareOp .LtE) (λx y H Q=>∃i j,x= .str i/\y= .str j/\Q (.bl (! decide (j.cps.toList<i.cps.toList))) H):=by
 intro Oa s σ H x y v u Q I c a h;obtain⟨i,j,rfl,rfl,q⟩:=h;obtain⟨t,rfl⟩:=c;obtain⟨d,rfl⟩:=a;exact PySem.P.le_str (qP I q Z)
theorem wx{js:Κ}{te:TE}{σ:L2.St}{H:Hp}{Q:VK}{x:Str}(hn:x.cps.size<=ζ)(Pv:Nat->Ε->Hp->Prop)(a:Pv 0 [] H)
  (hs:∀i ys H c,x.cps[i]? =↑c->ys.length=i->Pv i ys H->te (↑(.str #[(List.toArray [c])])::Qu js σ) H λv e=>Pv (i+1) (ys++[v]) e)
  (hd:∀ys H,ys.length=x.cps.size->Pv x.cps.size ys H->∀p,H p=none->Q (.ref p) (GW H p (.lst ys))):ZI (yq x) js te σ H Q:=
 cw hn (λi v=>∃c,x.cps[i]? =↑c/\v= .str #[(List.toArray [c])]) Pv a (λi ys H hi p=>hi) (λys H p=>Jf _) (λi ys H v H' _ p y=>y) (λi ys H v hi f p d=>by
  obtain⟨c,g,rfl⟩:=d;exact hs i ys H c g f p) hd
theorem xb{ds:Β}(h:zy ds):(ds.map V.int).all cq=true:=by
 rw[FC];intro x a;obtain⟨i,hi,rfl⟩:=Jt.mp a
 have:=h i hi
 show(decide (0<=i)&&decide (i<16))=true
 rw[Ji this.1,Ji this.2];rfl
theorem zQ{c:Bool}{a b:Prop}(h:c=true)(x:a):if c=true then a else b:=by rw[Jc h];exact x
theorem Qc{c:Bool}{a b:Prop}(h:c=false)(x:b):if c=true then a else b:=by rw[Jb (by rw[h];intro z;cases z)];exact x
theorem zp{K:ι}{C p dx:Δ}{H:Hp}{fs:List (Str×V)}{f:Str}{v:V}(c:LV K C)(e:H p=↑(.ins C dx fs))(n:HH K C f)(i:Nat)(a:fs.map (·.1)=dN.take i:=by rfl)(hn:f∉dN.take i:=by decide +kernel):
  kY K H p f v (GW H p (.ins C dx (fs++[(f,v)]))):=#[C,dx,fs,e,c,n,by
  have h1:fs.length=(dN.take i).length:=by rw[<- a,Je]
  have d:(dN.take i).length<=8:=by rw[EX];exact Nat.min_le_right _ _
  lia,by rw[mZ (by rw[a];exact hn)]]
theorem HI.upd{K:ι}{C p dx b:Δ}{H:Hp}{fs:List (Str×V)}{kss:List Β}{o:HO}(e:H p=↑(.ins C dx fs))(h:HI K H b kss):HI K (GW H p o) b kss:=by
 obtain⟨c,a,l,r⟩:=id h;exact h.mv Mv.upd1 (NT.one e trivial) (qW (zH a e (by intro z;cases z)))
theorem HI.same{K:ι}{H H':Hp}{b:Δ}{kss:List Β}(s:GS H H')(h:HI K H b kss):HI K H' b kss:=h.mv (S:=[]) s.mv (λc h=>nomatch h) (λh=>nomatch h)
theorem Mv.nfree{S:Η}{H H':Hp}{x:Δ}(m:Mv S H H')(hn:x∉S)(h:H' x=none):H x=none:=by
 cases e:H x with
 |none=>rfl
 |some o=>rw[m x o hn e]at h;cases h
theorem HI.at{K:ι}{H:Hp}{hk:Δ}{D:Dr}{age:Int}(h:HI K H hk D.kss)(f:0<=age)(h1:age<D.kss.length):∃(xs:Ε) (d:Δ),H hk=↑(.lst xs)/\zY xs age=↑(.ref d)/\G9 K H d ((Qr D age).map V.int):=by
 obtain⟨c,e,l,r⟩:=h;obtain⟨i,rfl⟩:∃i:Nat,age=(i:Int):=#[age.toNat,by lia]
 have hi:i<D.kss.length:=by lia
 have a:i<c.length:=by lia
 refine#[_,c[i],e,Qp (by rw[Jn,Jg a];rfl),?_]
 have:=r i c[i] D.kss[i] (Jg a) (Jg hi)
 unfold Qr;rw[Fe,Jz,Jg hi];exact this
theorem aK{D:Dr}{e:Kb}{age:Int}(h:qR D e age=true)(a:0<=D.least):0<=age/\age<D.kss.length:=by
 unfold qR ZU at h;rw[JC,JC]at h;have h1:=Jx h.1.1;have c:=Jx h.1.2;lia
theorem GV.putK{K:ι}{C:Δ}{H H':Hp}{p ta hk bd lg:Δ}{n:Nat}{D:Dr}{a:Kw}(b:GV K C H p ta hk bd lg n D)(m:Mv [bd] H H')(h:II H' bd a):GV K C H' p ta hk bd lg n {D with kn:=a}:=by
 obtain⟨dx,e⟩:=b.ob;obtain⟨f,c,_⟩:=b.kb;obtain⟨rs,d,l⟩:=b.lo;obtain⟨i,g,_⟩:=id b.ks;have nt:NT [bd] H:=NT.one c trivial
 exact#[#[dx,m _ _ (qW (zH e c (by intro z;cases z))) e],m.sqt nt b.tb,b.ks.mv m nt (qW (zH g c (by intro z;cases z))),h,#[rs,m _ _ (qW (zH d c (by intro z;cases z))) d,l],b.ne]
theorem GV.putL{K:ι}{C:Δ}{H:Hp}{p ta hk bd lg r:Δ}{n:Nat}{D:Dr}{rs:Η}(b:GV K C H p ta hk bd lg n D)(a:H lg=↑(.lst (rs.map V.ref)))(hl:rs.length<=n):GV K C (GW H lg (.lst (rs.map V.ref++[.ref r]))) p ta hk bd lg (n+1) D:=by
 obtain⟨dx,e⟩:=b.ob;obtain⟨f,c,_⟩:=id b.kb;have nt:NT [lg] H:=NT.one a trivial
 have m:Mv [lg] H (GW H lg (.lst (rs.map V.ref++[.ref r]))):=Mv.upd1
 exact#[#[dx,m _ _ (qW (zH e a (by intro z;cases z))) e],m.sqt nt b.tb,b.ks.mv m nt (qW b.ne.symm),b.kb.mv m nt (qW (zH c a (by intro z;cases z))),#[rs++[r],by rw[qc,JK];rfl,by rw[Jv];exact Nat.succ_le_succ hl],b.ne]
theorem Lo.pair{H:Hp}{a b:Δ}{z:Str}{i:Int}(h1:H a=↑(.tup [.str z,.int i]))(h2:H b=↑(.tup [.str z,.int i])):Lo H 1 (.ref a) (.ref b):=
 .tup (n:=0) (.inl h1) (.inl h2) Z λj x y ex c=>by
  match j,ex,c with
  |0,ex,c=>cases ex;cases c;exact .str _ _
  |1,ex,c=>cases ex;cases c;exact .int _ _
  |j+2,ex,c=>cases ex
abbrev yQ(a b:Str):Prop:=a.cps.toList<=b.cps.toList
theorem Cl{a b:Str}(h:ltCps b.cps.toList a.cps.toList=false):yQ a b:=by
 rw[ltCps_eq]at h;exact List.not_lt.mp (of_decide_eq_false h)
theorem jj:∀{l:Α} {p:Str},risingS p l=true->(p::l).Pairwise yQ
 | [],p,_=>by simp
 |x::r,p,h=>by
  have h':(! ltCps x.cps.toList p.cps.toList&&risingS x r)=true:=h
  rw[JC,Bool.not_eq_true']at h';have d:=jj h'.2;have a:=Cl h'.1;refine List.pairwise_cons.mpr #[λy c=>?_,d]
  rcases Jm.mp c with rfl|c
  ·exact a
  ·exact List.le_trans a ((List.pairwise_cons.mp d).1 y c)
theorem gS{l:Α}(h:sortedS l=true):l.Pairwise yQ:=by
 cases l with
 |nil=>exact .nil
 |cons x r=>exact jj h
theorem fJ{l a b:Α}(f:a.Perm l)(d:sortedS a=true)(c:b.Perm l)(g:sortedS b=true):a=b:=by
 refine List.Perm.eq_of_pairwise (le:=yQ) (λx y _ _ h1 h=>?_) (gS d) (gS g) (f.trans c.symm)
 have e:x.cps.toList=y.cps.toList:=List.le_antisymm h1 h
 cases x with
 |mk u=>cases y with
  |mk v=>
   have:u=v:=Array.toList_inj.mp e
   rw[this]
def Lv(H:Hp)(q:Δ)(d:Α)(kn:Kw):Prop:=∃c:Η,H q=↑(.tup (c.map V.ref))/\c.length=d.length/\∀(i:Nat) (a:Δ) (nm:Str) (e:Kb),c[i]? =↑a->d[i]? =↑nm->kn.lookup nm=↑e->∃v,H a=↑(.tup [.str nm,.int e.age,.int e.last,v])/\Wt H v e.wt
inductive L6 (K:ι) (C:Δ) (vs:Ε) (H:Hp) (Q:VK):Prop
 |mk (p ta hk bd lg:Δ) (n:Nat) (D:Dr) (h1:vs=[.ref p]) (h2:GV K C H p ta hk bd lg n D) (h3:Ik D) (h4:∀q ss H',GS H H'->ss.Perm (D.kn.map (·.1))->sortedS ss=true->Lv H' q ss D.kn->Q (.ref q) H')
def gn(K:ι)(C:Δ):Sp:=λvs H Q _=>L6 K C vs H Q
theorem AN{X:Cx}{K:ι}{e:Φ}{f:Str}{pos:Pos}{ta:TE}(a:X.K=K)(he:QE X e ta)(hb:attributeBase e f X.env (eval e X.env)=eval e X.env:=by rfl):QE X (.Attribute e f pos) (yo K ta f):=by
 subst a;exact za he hb
theorem AY(kn:Kw)(f:Str->Δ):(eB kn f).map (·.1)=(kn.map (·.1)).map Sum.inr:=by
 unfold eB;rw[ET,ET];rfl
theorem Q4{kn:Kw}{nm:Str}(h:nm∈kn.map (·.1)):∃e,kn.lookup nm=↑e:=Gg.mp (Hg.mpr h)
theorem lI:∀(a kvs:List (qJ×V)),((kvs++a).map (·.1)).Nodup->Zs kvs a=kvs++a
 | [],kvs,_=>by simp [Zs]
 |p::r,kvs,nd=>by
  have c:p.1∉kvs.map (·.1):=λz=>by
   rw[JK,JS]at nd
   exact(Fv.mp nd).2.2 _ z _ (JB ..) Z
  show Zs (HL kvs p.1 p.2) r=_
  rw[Al c,lI r (kvs++[(p.1,p.2)]) (by rw[Fh];exact nd),Fh]
  rfl
theorem rX(ms:Α)(k:Nat):(ms.map V.str).eraseIdx k=(ms.eraseIdx k).map V.str:=by
 rw[List.eraseIdx_eq_take_drop_succ,List.eraseIdx_eq_take_drop_succ,JK,List.map_take,List.map_drop]
theorem ve{ms zs:Α}{k:Nat}(h:k<ms.length):(zs++[ms[k]]++ms.eraseIdx k).Perm (zs++ms):=by
 rw[Fh];refine List.Perm.append_left zs ?_
 rw[List.eraseIdx_eq_take_drop_succ];have e:ms=ms.take k++ms[k]::ms.drop (k+1):=by rw[<- List.drop_eq_getElem_cons h,List.take_append_drop]
 refine List.Perm.trans (List.perm_middle (a:=ms[k]) (l₁:=ms.take k) (l₂:=ms.drop (k+1))).symm ?_
 rw[<- e]
theorem bR{kn:Kw}{nm:Str}{x:Kb}{e:Str×Kb}(h:e∈zc kn nm x):e∈kn\/e=(nm,x):=by
 unfold zc at h;split at h
 ·obtain⟨p,a,rfl⟩:=Jt.mp h
  by_cases y:p.1=nm
  ·rw[Jc y];exact .inr Z
  ·rw[Jb y];exact .inl a
 ·rcases JL.mp h with h|h
  ·exact .inl h
  ·exact .inr (Jh.mp h)
theorem mF{kn:Kw}{nm:Str}{e:Kb}:∀{l:Kw},(∀p∈l,p.1=nm->p=(nm,e))->l.map (λp=>if p.1=nm then(nm,e)else p)=l
 | [],_=>rfl
 |p::r,h=>by
  rw[JS,mF (kn:=kn) λq a=>h q (JM _ a)]
  by_cases y:p.1=nm
  ·rw[Jc y,h p (JB ..) y]
  ·rw[Jb y]
theorem jm{kn:Kw}{nm:Str}{e:Kb}(a:(kn.map (·.1)).Nodup)(h:kn.lookup nm=↑e):zc kn nm e=kn:=by
 unfold zc;rw[Jc (Hg.mp (by rw[h];rfl))]
 exact mF (kn:=kn) (QY a h)
theorem gA{kn:Kw}{nm:Str}{e x:Kb}(h:kn.lookup nm=↑e):(zc kn nm x).map (·.1)=kn.map (·.1):=by
 rw[aO,Jc (Hg.mp (by rw[h];rfl))]
theorem BD{X:Cx}:∀u e,([]:List (Str×Δ)).lookup u=↑e->X.env.cells.lookup u=↑e:=λu e h=>by cases h
theorem f6{X:Cx}{y:Str}{c:Δ}{l:List (Str×Δ)}(h:X.env.cells.lookup y=↑c)(r:∀u e,l.lookup u=↑e->X.env.cells.lookup u=↑e):∀u e,((y,c)::l).lookup u=↑e->X.env.cells.lookup u=↑e:=λu e a=>by
 by_cases d:u=y
 ·subst d
  simp at a
  rw[<- a];exact h
 ·rw[J7,show(u==y)=false from by simpa using d]at a
  exact r u e a
end L3
namespace L2
open PySem PySem.Spec PyProof.Rows
section
variable{X:Cx}{Oa:GR}{σ:St}{H:Hp}{s:Θ}{a:Δ}{kvs:List (qJ×V)}{A:Around}{E:GP}
theorem xt{Q:GP}(I:GX X Oa σ H s)(e:Rd H a (.dK kvs))(h:∀p s',H p=none->GX X Oa σ (GW H p (.dK kvs)) s'->Q (.ref p) s'):ε (model X.prog X.w) A (call (.type "dict") [.ref a]) Q E s:=by
 obtain⟨z,j,vs,c,g⟩:=aP I.hok e;refine kt_call_dict j g (by rw[<- c.length];exact z) λh' d i=>?_
 refine h _ _ (I.hok.fresh (Jf _)) (I.laid (a:=s.heap.objs.size) (o:= .dK kvs) (t':=s.toks) (λb q f=>?_) (Jf _) (mO z (E9.mpr (Ne.symm (Jk I.big))) c d))
 exact(i.2 b (Jk (Jj f))).trans (Jl _ f)
end
end L2
namespace L3
open PySem PySem.Spec PyProof.Rows L2
theorem gV{X:Cx}:zi X (.type "dict") (λxs H Q=>∃(d:Δ) (kvs:List (qJ×V)),xs=[.ref d]/\H d=↑(.dK kvs)/\∀p,H p=none->Q (.ref p) (GW H p (.dK kvs))):=by
 intro Oa s σ H xs g Q I r h;obtain⟨d,kvs,rfl,f,q⟩:=h;obtain⟨u,rfl,a⟩:=zM r;cases a;exact xt I (.inl f) λp s' e c=>#[.ref p,_,c,Z,q p e]
theorem GV.setF{K:ι}{C:Δ}{H:Hp}{p dx:Δ}{fs:List (Str×V)}{f:Str}{u v:V}(i:Nat)(c:LV K C)(a:HH K C f)(e:H p=↑(.ins C dx fs))(hf:fs[i]? =↑(f,u))(d:(fs.map (·.1)).Nodup)(hl:fs.length<1000):
  kY K H p f v (GW H p (.ins C dx (fs.set i (f,v)))):=#[C,dx,fs,e,c,a,hl,by rw[pG i hf d]]
section
variable{K:ι}{C:Δ}{H:Hp}{p ta hk bd lg dx:Δ}{D:Dr}
theorem uA(U:Iz K C)(e:H p=↑(.ins C dx (dF D ta hk bd lg)))(z:Int):kY K H p "least_age" (.int z) (GW H p (.ins C dx (dF {D with least:=z} ta hk bd lg))):=GV.setF 5 U.cl U.n_least_age e Z (yv ..) (by show 8<1000;decide)
end
theorem lv{kn:Kw}{nm:Str}{x:Kb}(f:(kn.map (·.1)).Nodup):(zc kn nm x).lookup nm=↑x:=by
 have c:(nm,x)∈zc kn nm x:=by
  unfold zc;split
  ·rename_i h
   obtain⟨p,d,e⟩:=Jt.mp h;exact Jt.mpr #[p,d,Jc e]
  ·exact JV _ (Jh.mpr Z)
 obtain⟨y,a⟩:=Q4 (Jt.mpr #[_,c,Z])
 have:=QY (fo f nm x) a _ c Z
 cases this;exact a
theorem Lv.same{H H':Hp}{q:Δ}{d:Α}{kn:Kw}(h:Lv H q d kn)(s:GS H H'):Lv H' q d kn:=by
 obtain⟨j,e,l,r⟩:=h
 exact#[j,s _ _ e,l,λi a nm x g f m=>let⟨v,a1,a2⟩:=r i a nm x g f m;#[v,s _ _ a1,a2.mv (S:=[]) s.mv (λc h=>nomatch h)]]
theorem GV.putLeast{K:ι}{C:Δ}{H:Hp}{p ta hk bd lg:Δ}{n:Nat}{D:Dr}(b:GV K C H p ta hk bd lg n D)(U:Iz K C)(z:Int):∃dx,kY K H p "least_age" (.int z) (GW H p (.ins C dx (dF {D with least:=z} ta hk bd lg)))/\Mv [p] H (GW H p (.ins C dx (dF {D with least:=z} ta hk bd lg)))/\GV K C (GW H p (.ins C dx (dF {D with least:=z} ta hk bd lg))) p ta hk bd lg n {D with least:=z}:=by
 obtain⟨dx,e⟩:=b.ob;obtain⟨f,c,_⟩:=id b.kb;obtain⟨rs,a,l⟩:=b.lo;obtain⟨g,d,_⟩:=id b.ks;have nt:NT [p] H:=NT.one e trivial
 have m:Mv [p] H (GW H p (.ins C dx (dF {D with least:=z} ta hk bd lg))):=Mv.upd1
 exact#[dx,uA U e z,m,#[dx,qc],m.sqt nt b.tb,b.ks.mv m nt (qW (zH d e (by intro z;cases z))),b.kb.mv m nt (qW (zH c e (by intro z;cases z))),#[rs,m _ _ (qW (zH a e (by intro z;cases z))) a,l],b.ne]
def zh(D:Dr)(e:Kb)(age c:Int):Str×Kb:=if qR D e age=true then zr D.near D.far e age c else("age",e)
inductive L7 (K:ι) (C:Δ) (vs:Ε) (H:Hp) (Q:VK):Prop
 |mk (p ta hk bd lg a:Δ) (n:Nat) (D:Dr) (e:Kb) (age c:Int) (h1:vs=[.ref p,.ref a,.int age,.int c]) (h2:GV K C H p ta hk bd lg n D) (h3:HS H a e) (h4:∀q a' H',GS H H'->H' q=↑(.tup [.str (zh D e age c).1,.ref a'])->HS H' a' (zh D e age c).2->Q (.ref q) H')
def fO(K:ι)(C:Δ):Sp:=λvs H Q _=>L7 K C vs H Q
section
variable(K:ι)(C:Δ)
inductive MC (vs:Ε) (H:Hp) (Q:VK):Prop
 |mk (p ta hk bd lg:Δ) (n:Nat) (D:Dr) (h1:vs=[.ref p]) (h2:GV K C H p ta hk bd lg n D) (h3:∀t (as:Η) H',GS H H'->G9 K H' t (as.map V.ref)->as.length=D.kss.length->(∀(i:Nat) (a:Δ) (ks:Β),as[i]? =↑a->D.kss[i]? =↑ks->G9 K H' a (ks.map V.int))->Q (.ref t) H')
def ox:Sp:=λvs H Q _=>MC K C vs H Q
inductive LJ (vs:Ε) (H:Hp) (Q:VK):Prop
 |mk (p ta hk bd lg:Δ) (n:Nat) (D:Dr) (h1:vs=[.ref p]) (h2:GV K C H p ta hk bd lg n D) (h3:Q (.int D.least) H)
def i9:Sp:=λvs H Q _=>LJ K C vs H Q
inductive LK (vs:Ε) (H:Hp) (Q:VK):Prop
 |mk (p ta hk bd lg:Δ) (n:Nat) (D:Dr) (h1:vs=[.ref p]) (h2:GV K C H p ta hk bd lg n D) (h3:∀t H',GS H H'->H' t=↑(.tup [.int D.near,.int D.far,.int D.most])->Q (.ref t) H')
def c7:Sp:=λvs H Q _=>LK K C vs H Q
end
structure Ac(K:ι)(mg:GQ)(x:Str)(st:δ):Prop where
 ex:∃(f:Δ) (fd:FuncData),LX K x x st f fd/\mg x=↑(.ref f)
structure Lr(K:ι)(C:Δ)(m Ob:Str)(st:δ):Prop where
 ex:∃(f:Δ) (fd:FuncData),LX K m Ob st f fd/\M5 K C m f
section
variable{K:ι}{mg:GQ}{h:Ψ}{x m Ob:Str}{st:δ}{C f:Δ}{oc:Γ}{od an:ν}{osl:Array Ο}{kV doc pm cdv ct:Γ}{ps:Α}
theorem DB(X:K.In h)(G:h.Ns η mg)(a:W.nsIn K η x=↑(↑(.ref f)))(l:K.lookup f=some #[oc,od,.func (W.fnOf x x (Qo st) (zF st) (qi st) .none kV doc pm an cdv ct),osl])(c:W.codeIn K cdv x=true)(k:W.keepIn K (.ref f)=true):Ac K mg x st:=#[f,_,kP l c k,Fw X G a]
theorem CA(a:W.findIn K (.ref C) m=↑(↑(.ref f)))(i:W.isFn K (.ref f)=true)(l:K.lookup f=some #[oc,od,.func (W.fnOf m Ob (Qo st) (zF st) (qi st) .none kV doc pm an cdv ct),osl])(c:W.codeIn K cdv Ob=true)(k:W.keepIn K (.ref f)=true):Lr K C m Ob st:=#[f,_,kP l c k,a,i,k]
theorem EQ{p:Ζ->Prop}(h:p []):∀a:Ζ,a.length=0->p a:=by
 intro a c;rw[List.eq_nil_of_length_eq_zero c];exact h
theorem pI{n:Nat}{p:Ζ->Prop}(h:∀a c,c.length=n->p (a::c)):∀c:Ζ,c.length=n+1->p c:=by
 intro c d;cases c with
 |nil=>cases d
 |cons a r=>exact h a r (Nat.succ.inj d)
theorem Qt{p:Ζ->Prop}(h:∀d,p [d]):∀c:Ζ,c.length=1->p c:=pI λa=>EQ (p:=λr=>p (a::r)) (h a)
theorem Zw{p:Ζ->Prop}(h:∀d e,p [d,e]):∀c:Ζ,c.length=2->p c:=pI λa=>Qt (p:=λr=>p (a::r)) (h a)
theorem cB{p:Ζ->Prop}(h:∀e f d,p [e,f,d]):∀c:Ζ,c.length=3->p c:=pI λa=>Zw (p:=λr=>p (a::r)) (h a)
theorem iT{p:Ζ->Prop}(h:∀g d e f,p [g,d,e,f]):∀c:Ζ,c.length=4->p c:=pI λa=>cB (p:=λr=>p (a::r)) (h a)
theorem Ea{p:Ζ->Prop}(h:∀g d e f i,p [g,d,e,f,i]):∀c:Ζ,c.length=5->p c:=pI λa=>iT (p:=λr=>p (a::r)) (h a)
theorem Ec{p:Ζ->Prop}(h:∀i d f g j e,p [i,d,f,g,j,e]):∀c:Ζ,c.length=6->p c:=pI λa=>Ea (p:=λr=>p (a::r)) (h a)
theorem Ac.at(a:Ac K mg x st)(b:∀(kV doc pm:Γ) (an:ν) (cdv ct:Γ) (us:Ζ),us.length=ps.length->bindArgs (W.fnOf x x (Qo st) (zF st) (qi st) .none kV doc pm an cdv ct) #[us,[]]=pure (ps.zip us):=by intro _ _ _ _ _ _;first|exact Qt λ_=>rfl|exact Zw λ_ _=>rfl|exact cB λ_ _ _=>rfl|exact iT λ_ _ _ _=>rfl|exact Ea λ_ _ _ _ _=>rfl|exact Ec λ_ _ _ _ _ _=>rfl):At K mg x st ps:=by
 obtain⟨_,_,F,m⟩:=a.ex;exact DE F m (F.binds b)
theorem Lr.at(a:Lr K C m Ob st)(b:∀(kV doc pm:Γ) (an:ν) (cdv ct:Γ) (us:Ζ),us.length=ps.length->bindArgs (W.fnOf m Ob (Qo st) (zF st) (qi st) .none kV doc pm an cdv ct) #[us,[]]=pure (ps.zip us):=by intro _ _ _ _ _ _;first|exact Qt λ_=>rfl|exact Zw λ_ _=>rfl|exact cB λ_ _ _=>rfl|exact iT λ_ _ _ _=>rfl|exact Ea λ_ _ _ _ _=>rfl|exact Ec λ_ _ _ _ _ _=>rfl):Lm K C m Ob st ps:=by
 obtain⟨_,_,F,m⟩:=a.ex
 exact#[_,_,F,m,F.binds b]
end
structure Ps where
 nm:Str
 age:Int
 ds:Β
def IW(H:Hp)(p:Δ)(P:Ps):Prop:=HU H p P.nm P.age P.ds
structure Lx(P:Ps):Prop where
 nm:Qq P.nm
 l:P.ds.length=5
 dg:zy P.ds
def eU(D:Dr)(P:Ps):Option (Int×Int):=if ZU D P.age=true then Zu D.t (Qr D P.age) P.nm P.ds else none
def vB(D:Dr)(P R:Ps):Str×Int×Kw:=match eU D P with
 |none=>("press",0,D.kn)
 |some (c,_)=>match eU D R with
  |none=>("press",1,D.kn)
  |some (c',_)=>if R.nm=P.nm/\R.age=P.age/\c'=c+1 then(match D.kn.lookup P.nm with
    |some _=>("known",0,D.kn)
    |none=>if(D.kn.length:Int)<D.most then("",0,zc D.kn P.nm #[P.age,c',none])else("full",0,D.kn))
   else("press",1,D.kn)
def mI(c:Nat):Bool:=decide (97<=c)&&decide (c<=122)
def CZ(z:Str):Bool:=z.cps.toList.all mI
def yy(z:Str):Bool:=decide (1<=z.length)&&decide (z.length<=8)&&CZ z
theorem Nd{z:Str}:yy z=true↔Qq z:=by
 unfold yy CZ Qq;rw[JC,JC,F9,F9,FC];have f:z.length=z.cps.toList.length:=Z
 rw[f];constructor
 ·rintro⟨⟨h1,e⟩,d⟩
  refine#[λc a=>?_,h1,e]
  have:=d c a
  unfold mI at this;rw[JC,F9,F9]at this;exact this
 ·rintro⟨d,h1,e⟩
  refine#[#[h1,e],λc a=>?_]
  unfold mI;rw[Ji (d c a).1,Ji (d c a).2];rfl
theorem gY{a b:Nat}:([a]:Κ)<[b]↔a<b:=by
 rw[List.cons_lt_cons_iff];constructor
 ·rintro(h|⟨_,h⟩)
  ·exact h
  ·exact absurd h (List.not_lt_nil _)
 ·exact .inl
theorem rb(c:Nat):(! decide ((#[(List.toArray [c])]:Str).cps.toList<("a":Str).cps.toList))=decide (97<=c)/\(! decide (("z":Str).cps.toList<(#[(List.toArray [c])]:Str).cps.toList))=decide (c<=122):=by
 have a:("a":Str).cps.toList=[97]:=by decide +kernel
 have d:("z":Str).cps.toList=[122]:=by decide +kernel
 rw[a,d]
 show(! decide ([c]<[97]))=_/\(! decide ([122]<[c]))=_
 constructor
 ·by_cases h:97<=c
  ·rw[Ji h,Jo (by rw[gY];lia)];rfl
  ·rw[Jo h,Ji (by rw[gY];lia)];rfl
 ·by_cases h:c<=122
  ·rw[Ji h,Jo (by rw[gY];lia)];rfl
  ·rw[Jo h,Ji (by rw[gY];lia)];rfl
theorem kJ{H:Hp}{x:V}{t:String}(h:kd H x=↑t):M9 H x t:=by
 cases x with
 |non=>cases h;exact .non
 |bl b=>cases h;exact .bl b
 |int i=>cases h;exact .int i
 |str x=>cases h;exact .str x
 |byt b=>cases h
 |flt b=>cases h
 |ty b=>cases h
 |ref a=>
  rcases hV h with⟨xs,e,rfl⟩|⟨xs,e,rfl⟩
  ·exact .lst e
  ·exact .tup (.inl e)
def D9(H:Hp)(x:V)(b:Bool):Prop:=(∃z,x= .str z/\z.cps.all (· <128)=true/\z.length<=100/\b=yy z)\/(∃t,kd H x=↑t/\aD t "str"=false/\b=false)
def NU(H:Hp)(x:V)(b:Bool):Prop:=(∃(p:Δ) (ds:Ε),x= .ref p/\H p=↑(.tup ds)/\ds.length<=100/\(∀v∈ds,∃t,kd H v=↑t)/\b=(decide (ds.length=5)&&ds.all cq))\/(∃t,kd H x=↑t/\aD t "tuple"=false/\b=false)
inductive Nx (H:Hp) (x:V):Bool->Prop where
 |kd {t:String} (h:kd H x=↑t) (n:aD t "tuple"=false):Nx H x false
 |len {a:Δ} {xs:Ε} (e:x= .ref a) (h:H a=↑(.tup xs)) (l:xs.length<=100) (n:xs.length≠3):Nx H x false
 |tup {a:Δ} {n y c:V} {bn bc:Bool} {ty:String} (e:x= .ref a) (h:H a=↑(.tup [n,y,c])) (hn:D9 H n bn) (hy:L3.kd H y=↑ty) (hc:NU H c bc):Nx H x (bn&&fX y&&bc)
theorem NU.same{H H':Hp}{x:V}{b:Bool}(s:GS H H')(h:NU H x b):NU H' x b:=h.elim (λ⟨p,ds,e,h1,a,f,c⟩=> .inl ⟨p,ds,e,s _ _ h1,a,(λv d=>let⟨t,ht⟩:=f v d;⟨t,ff s ht⟩),c⟩) (λ⟨t,h1,a⟩=> .inr ⟨t,ff s h1,a⟩)
def Tg(H:Hp)(x:V)(o:Option Ps):Prop:=match o with
 |none=>Nx H x false
 |some P=>∃a,x= .ref a/\IW H a P/\Lx P
theorem Tg.b{H:Hp}{x:V}{o:Option Ps}(h:Tg H x o):Nx H x o.isSome:=by
 cases o with
 |none=>exact h
 |some P=>
  obtain⟨f,e,⟨a,h1,c⟩,ok⟩:=h;have t:=Nx.tup (bn:=true) (bc:=true) e h1 (.inl #[P.nm,Z,lF ok.nm,by have:=ok.nm.2.2;show P.nm.cps.toList.length<=100;lia,(Nd.mpr ok.nm).symm]) (ty:="int") Z (.inl #[a,_,Z,c,by rw[Je,ok.l];decide,(λv d=>by obtain⟨i,_,rfl⟩:=Jt.mp d;exact#[_,Z]),by rw[Je,ok.l,xb ok.dg];rfl])
  exact t
inductive LL (vs:Ε) (H:Hp) (Q:VK):Prop
 |mk (x:_) (b:_) (h1:vs=[x]) (h2:D9 H x b) (h3:∀H',GS H H'->Q (.bl b) H')
def i6:Sp:=λvs H Q _=>LL vs H Q
inductive LM (vs:Ε) (H:Hp) (Q:VK):Prop
 |mk (x:_) (b:_) (h1:vs=[x]) (h2:NU H x b) (h3:∀H',GS H H'->Q (.bl b) H')
def jn:Sp:=λvs H Q _=>LM vs H Q
inductive Ly (vs:Ε) (H:Hp) (Q:VK):Prop
 |mk (x:_) (b:_) (h1:vs=[x]) (h2:Nx H x b) (h3:∀H',GS H H'->Q (.bl b) H')
def cg:Sp:=λvs H Q _=>Ly vs H Q
section
variable(K:ι)(C:Δ)
inductive LN (vs:Ε) (H:Hp) (Q:VK):Prop
 |mk (p ta hk bd lg:Δ) (n:Nat) (D:Dr) (x:V) (o:Option Ps) (h1:vs=[.ref p,x]) (h2:GV K C H p ta hk bd lg n D) (h3:Ik D) (h4:Tg H x o) (h5:∀y H',GS H H'->cW H' y (o.bind (eU D))->Q y H')
def jD:Sp:=λvs H Q _=>LN K C vs H Q
end
theorem Mf.weak{P:Ξ}{w:Ω}{K:ι}{mg:GQ}{base:Ψ}{C:Δ}{m:Str}{ps:Α}{k:Nat}{sp c:Sp}(M:Mf P w K mg base C m ps k sp)(h:∀vs H Q E,c vs H Q E->sp vs H Q E):Mf P w K mg base C m ps k c:=by
 obtain⟨f,fd,F,j,e⟩:=M.ex
 exact#[f,fd,#[λvs H Q E q=>F.len vs H Q E (h vs H Q E q),λA a s H d i vs Q E o g e n l=>F.run A a s H d i vs Q E o g e n (h _ _ _ _ l)],j,e]
def MD(K:ι)(H:Hp)(b:Δ)(kss:List Β):Prop:=∃c:Η,G9 K H b (c.map V.ref)/\c.length=kss.length/\∀(i:Nat) (a:Δ) (d:Β),c[i]? =↑a->kss[i]? =↑d->G9 K H a (d.map V.int)
theorem MD.same{K:ι}{H H':Hp}{b:Δ}{kss:List Β}(h:MD K H b kss)(s:GS H H'):MD K H' b kss:=by
 obtain⟨d,e,l,r⟩:=h
 exact#[d,GS.sqt s e,l,λi a f c g=>GS.sqt s (r i a f c g)]
theorem MD.upd{K:ι}{C p dx:Δ}{H:Hp}{b:Δ}{kss:List Β}{fs:List (Str×V)}{o:HO}(h:MD K H b kss)(e:H p=↑(.ins C dx fs)):MD K (GW H p o) b kss:=by
 obtain⟨g,c,l,r⟩:=h
 exact#[g,fj e c,l,λi a j f d=>fj e (r i a j f d)]
theorem Et{X:Cx}{d h c:Str}{f a g:Δ}(h1:X.env.cells.lookup d=↑f)(h2:X.env.cells.lookup h=↑a)(i:X.env.cells.lookup c=↑g):
  ∀u e,([(d,f),(h,a),(c,g)]:List (Str×Δ)).lookup u=↑e->X.env.cells.lookup u=↑e:=f6 h1 (f6 h2 (f6 i BD))
theorem EE{X:Cx}{a:Scope}{h j g:Str}{o p n:Nat}(f:a.kind= .function)(d:∀x∈a.names,x.2= .local->a.names.lookup x.1=some .local)(c:∀x∈a.names,x.2≠ .cell)
  (e:∀x∈a.names,x.2= .free->x.1∈([h,j,g]:Α))(y:X.N[o]? =↑h)(s:X.env.kindOf h=some .cell)(t:(relabel a X.env).names.lookup h=some .cell)
  (v:X.N[p]? =↑j)(u:X.env.kindOf j=some .cell)(r:(relabel a X.env).names.lookup j=some .cell)(z:X.N[n]? =↑g)(q:X.env.kindOf g=some .cell)(w:(relabel a X.env).names.lookup g=some .cell):HP X a [h,j,g] [o,p,n]:=
 #[f,d,c,e,Z,λi A B l m=>by
  match i with
  |0=>cases l;cases m;exact#[y,s,t]
  |1=>cases l;cases m;exact#[v,u,r]
  |2=>cases l;cases m;exact#[z,q,w]
  |i+3=>simp at l]
inductive Rw where
 |learn (P R:Ps)
 |forget (nm:Str)
 |turn (ks:Β)
 |close (age:Int)
 |hear (P:Ps) (ans:Ε)
abbrev _root_.Ρ:=List Rw
def n9:V->Prop
 | .int _=>True
 | .str _=>True
 |_=>False
def Ln(H:Hp)(a:Δ):Rw->Prop
 | .learn P R=>∃c p2,Rd H a (.tup [.str "learn",.ref c,.ref p2])/\IW H c P/\IW H p2 R/\Lx P/\Lx R
 | .forget nm=>Rd H a (.tup [.str "forget",.str nm])
 | .turn ks=>∃k,Rd H a (.tup [.str "turn",.ref k])/\Rd H k (.tup (ks.map V.int))/\ks.length<=8
 | .close age=>Rd H a (.tup [.str "close",.int age])
 | .hear P ans=>∃p q,Rd H a (.tup [.str "hear",.ref p,.ref q])/\IW H p P/\Lx P/\H q=↑(.tup ans)/\ans.length<=3/\∀v∈ans,n9 v
def Il(H:Hp)(rs:Η)(L:Ρ):Prop:=rs.length=L.length/\∀(i:Nat) (a:Δ) (r:Rw),rs[i]? =↑a->L[i]? =↑r->Ln H a r
def Lk(H:Hp)(lg:Δ)(L:Ρ):Prop:=∃rs:Η,H lg=↑(.lst (rs.map V.ref))/\Il H rs L
def Li(H:Hp)(t:Δ)(L:Ρ):Prop:=∃rs:Η,Rd H t (.tup (rs.map V.ref))/\Il H rs L
section
variable{S:Η}{H H':Hp}{a lg t:Δ}{r:Rw}{rs:Η}{L:Ρ}
theorem Ln.mv(m:Mv S H H')(n:NT S H)(h:Ln H a r):Ln H' a r:=by
 cases r with
 |learn P R=>obtain⟨g,p2,h1,d,c,e⟩:=h;exact#[g,p2,m.rd n h1,HU.mv m n d,HU.mv m n c,e]
 |forget nm=>exact m.rd n h
 |turn ks=>obtain⟨k,h1,d,c⟩:=h;exact#[k,m.rd n h1,m.rd n d,c]
 |close age=>exact m.rd n h
 |hear P ans=>obtain⟨p,q,h1,d,c,e,f⟩:=h;exact#[p,q,m.rd n h1,HU.mv m n d,c,m.tup n e,f]
theorem Il.mv(m:Mv S H H')(n:NT S H)(h:Il H rs L):Il H' rs L:=#[h.1,λi a r c d=>(h.2 i a r c d).mv m n]
theorem Lk.mv(m:Mv S H H')(n:NT S H)(hl:lg∉S)(h:Lk H lg L):Lk H' lg L:=by
 obtain⟨rs,e,r⟩:=h
 exact#[rs,m _ _ hl e,r.mv m n]
theorem Li.mv(m:Mv S H H')(n:NT S H)(h:Li H t L):Li H' t L:=by
 obtain⟨rs,e,r⟩:=h
 exact#[rs,m.rd n e,r.mv m n]
theorem cF:NT [] H:=λc h=>nomatch h
theorem Il.same(s:GS H H')(h:Il H rs L):Il H' rs L:=h.mv (S:=[]) s.mv cF
theorem Lk.same(s:GS H H')(h:Lk H lg L):Lk H' lg L:=h.mv (S:=[]) s.mv cF (λz=>nomatch z)
theorem Li.same(s:GS H H')(h:Li H t L):Li H' t L:=h.mv (S:=[]) s.mv cF
theorem Il.add(h:Il H rs L)(hr:Ln H a r):Il H (rs++[a]) (L++[r]):=by
 refine#[by simp [h.1],λi b q c d=>?_]
 by_cases hi:i<rs.length
 ·rw[JT hi]at c
  rw[JT (by rw[<- h.1];exact hi)]at d
  exact h.2 i b q c d
 ·rw[JY (by lia)]at c
  rw[JY (by rw[<- h.1];lia),<- h.1]at d
  cases e:i-rs.length with
  |zero=>rw[e]at c d;cases c;cases d;exact hr
  |succ k=>rw[e]at c;cases c
theorem wF{n:Nat}{v:V}(h:n9 v):LF H n v v:=by
 cases v with
 |int i=>exact .int _ _
 |str i=>exact .str _ _
 |_=>exact h.elim
theorem IW.eqv{p q:Δ}{P:Ps}(h1:IW H p P)(h2:IW H q P)(o:Lx P):LF H 2 (.ref p) (.ref q):=by
 obtain⟨h,c,f⟩:=h1;obtain⟨g,d,e⟩:=h2;refine .tup (.inl c) (.inl d) Z (by show 3<=ζ;decide) λi x y ex a=>?_
 match i,ex,a with
 |0,ex,a=>cases ex;cases a;exact .str _ _
 |1,ex,a=>cases ex;cases a;exact .int _ _
 |2,ex,a=>cases ex;cases a;exact .ints (.inl f) (.inl e) (by rw[o.l];decide)
 |i+3,ex,a=>cases ex
theorem Ln.eqv{b:Δ}(h1:Ln H a r)(h2:Ln H b r):LF H 3 (.ref a) (.ref b):=by
 cases r with
 |learn P R=>
  obtain⟨s,p2,g,e,h,l,q⟩:=h1;obtain⟨p,m,f,d,j,_⟩:=h2;refine .tup g f Z (by show 3<=ζ;decide) λi x y ex c=>?_
  match i,ex,c with
  |0,ex,c=>cases ex;cases c;exact .str _ _
  |1,ex,c=>cases ex;cases c;exact IW.eqv e d l
  |2,ex,c=>cases ex;cases c;exact IW.eqv h j q
  |i+3,ex,c=>cases ex
 |forget nm=>
  refine .tup (n:=2) h1 h2 Z (by show 2<=ζ;decide) λi x y ex c=>?_
  match i,ex,c with
  |0,ex,c=>cases ex;cases c;exact .str _ _
  |1,ex,c=>cases ex;cases c;exact .str _ _
  |i+2,ex,c=>cases ex
 |turn ks=>
  obtain⟨t,g,e,h⟩:=h1;obtain⟨u,f,d,_⟩:=h2;refine .tup (n:=2) g f Z (by show 2<=ζ;decide) λi x y ex c=>?_
  match i,ex,c with
  |0,ex,c=>cases ex;cases c;exact .str _ _
  |1,ex,c=>cases ex;cases c;exact .ints e d (by rw[Ju];lia)
  |i+2,ex,c=>cases ex
 |close age=>
  refine .tup (n:=2) h1 h2 Z (by show 2<=ζ;decide) λi x y ex c=>?_
  match i,ex,c with
  |0,ex,c=>cases ex;cases c;exact .str _ _
  |1,ex,c=>cases ex;cases c;exact .int _ _
  |i+2,ex,c=>cases ex
 |hear P ans=>
  obtain⟨s,p2,g,e,l,h,v,o⟩:=h1;obtain⟨p,m,f,d,_,j,_⟩:=h2;refine .tup g f Z (by show 3<=ζ;decide) λi x y ex c=>?_
  match i,ex,c with
  |0,ex,c=>cases ex;cases c;exact .str _ _
  |1,ex,c=>cases ex;cases c;exact IW.eqv e d l
  |2,ex,c=>
   cases ex;cases c
   refine .tup (n:=1) (.inl h) (.inl j) Z (by rw[Ju];lia) λi x y ex c=>?_
   rw[ex]at c;cases c
   exact wF (o _ (JP ex))
  |i+3,ex,c=>cases ex
theorem Li.eqv{t':Δ}(h1:Li H t L)(h2:Li H t' L)(hl:L.length<=2000000):LF H 4 (.ref t) (.ref t'):=by
 obtain⟨rs,h,d,j⟩:=h1;obtain⟨l,f,e,g⟩:=h2;refine .tup h f (by simp [d,e]) (by rw[Je,d,Ju];lia) λi x y ex c=>?_
 rw[Jn]at ex c;cases q1:rs[i]? with
 |none=>rw[q1]at ex;cases ex
 |some a=>
  cases q2:l[i]? with
  |none=>rw[q2]at c;cases c
  |some b=>
   rw[q1]at ex;rw[q2]at c;cases ex;cases c
   have hi:i<L.length:=by rw[<- d];exact(Js.mp q1).1
   exact(j i a _ q1 (Jg hi)).eqv (g i b _ q2 (Jg hi))
end
theorem _root_.L2.G9.up{K:ι}{H:Hp}{a:Δ}{xs:Ε}(h:G9 [] H a xs):G9 K H a xs:=h.elim .inl λ⟨_,_,_,z,_⟩=>nomatch z
theorem _root_.L2.G9.rd{H:Hp}{a:Δ}{xs:Ε}(h:G9 [] H a xs):Rd H a (.tup xs):=h.elim id λ⟨_,_,_,z,_⟩=>nomatch z
theorem HI.up{K:ι}{H:Hp}{a:Δ}{kss:List Β}(h:HI [] H a kss):HI K H a kss:=by
 obtain⟨d,e,l,r⟩:=h
 exact#[d,e,l,λi a f c g=>(r i a f c g).up]
inductive ME (K:ι) (C:Δ) (vs:Ε) (H:Hp) (Q:VK):Prop
 |mk (p a b dx:Δ) (near far most:Int) (t:Β) (kss:List Β) (h1:vs=[.ref p,.ref a,.ref b,.int near,.int far,.int most]) (h2:H p=↑(.ins C dx [])) (h3:Sq K H a (t.map V.int)) (h4:HI [] H b kss) (h5:kss.length<=8) (h6:∀ta hk bd lg H',H hk=none->H bd=none->H lg=none->Mv [p] H H'->GV K C H' p ta hk bd lg 0 ⟨t,kss,near,far,most,0,[]⟩->HI [] H' hk kss->Q .non H')
def Aq(K:ι)(C:Δ):Sp:=λvs H Q _=>ME K C vs H Q
inductive L8 (K:ι) (C:Δ) (vs:Ε) (H:Hp) (Q:VK):Prop
 |mk (p a b dx:Δ) (near far most:Int) (t:Β) (kss:List Β) (h1:vs=[.ref p,.ref a,.ref b,.int near,.int far,.int most]) (h2:H p=↑(.ins C dx [])) (h3:Sq K H a (t.map V.int)) (h4:MD [] H b kss) (h5:kss.length<=8) (h6:∀ta hk bd lg H',H hk=none->H bd=none->H lg=none->Mv [p] H H'->GV K C H' p ta hk bd lg 0 ⟨t,kss,near,far,most,0,[]⟩->HI [] H' hk kss->Q .non H')
def mT(K:ι)(C:Δ):Sp:=λvs H Q _=>L8 K C vs H Q
structure Da where
 p:Δ
 ta:Δ
 hk:Δ
 bd:Δ
 lg:Δ
structure HX(K:ι)(C:Δ)(H:Hp)(a:Da)(D:Dr)(L:Ρ):Prop where
 dr:GV K C H a.p a.ta a.hk a.bd a.lg L.length D
 lo:Lk H a.lg L
 kr:HI [] H a.hk D.kss
section
variable{K:ι}{C:Δ}{S:Η}{H H':Hp}{a:Da}{D:Dr}{L:Ρ}{r:Δ}{rw:Rw}{rs:Η}
theorem HX.mv(b:HX K C H a D L)(m:Mv S H H')(nt:NT S H)(hp:a.p∉S)(c:a.hk∉S)(hb:a.bd∉S)(hl:a.lg∉S):HX K C H' a D L:=#[b.dr.mv m nt hp c hb hl,b.lo.mv m nt hl,HI.mv m nt c b.kr]
theorem HX.same(b:HX K C H a D L)(s:GS H H'):HX K C H' a D L:=#[b.dr.same s,b.lo.same s,HI.same s b.kr]
theorem HX.push(b:GV K C H a.p a.ta a.hk a.bd a.lg L.length D)(c:H a.lg=↑(.lst (rs.map V.ref)))(d:Il H rs L)(f:HI [] H a.hk D.kss)(hr:Ln H r rw):HX K C (GW H a.lg (.lst (rs.map V.ref++[.ref r]))) a D (L++[rw]):=by
 have nt:NT [a.lg] H:=NT.one c trivial
 have e:=b.putL (r:=r) c (Nat.le_of_eq d.1)
 rw[show L.length+1=(L++[rw]).length by simp]at e
 exact#[e,#[rs++[r],by rw[qc,JK];rfl,(d.add hr).mv Mv.upd1 nt],HI.mv Mv.upd1 nt (qW b.ne.symm) f]
theorem yr{p ta hk bd lg:Δ}{n:Nat}{a:List (qJ×V)}(e:H bd=↑(.dK a))(b:GV K C H p ta hk bd lg n D):hk≠bd:=by
 obtain⟨d,c,_⟩:=b.ks;exact zH c e (by intro z;cases z)
theorem B8{p ta hk bd lg dx:Δ}{n:Nat}{a:List (Str×V)}(e:H p=↑(.ins C dx a))(b:GV K C H p ta hk bd lg n D):hk≠p:=by
 obtain⟨d,c,_⟩:=b.ks;exact zH c e (by intro z;cases z)
theorem GV.dl{p ta hk bd lg:Δ}(b:GV K C H p ta hk bd lg 0 D)(c:HI [] H hk D.kss):HX K C H #[p,ta,hk,bd,lg] D []:=by
 obtain⟨rs,e,l⟩:=id b.lo
 obtain rfl:rs=[]:=List.length_eq_zero_iff.mp (Nat.le_zero.mp l)
 exact#[b,#[[],e,Z,λi a r h=>by cases h],c]
end
inductive Dd where
 |learn (o1 o2:Option Ps)
 |forget (nm:Str)
 |turn (ks:Β)
 |close (age:Int)
 |hear (o:Option Ps)
def Z2(D:Dr)(P:Ps):Ε×Kw:=zk D P.nm P.age (Zu D.t (Qr D P.age) P.nm P.ds)
def EN(D:Dr):Dd->Option (Dr×Rw)
 | .learn ↑P ↑R=>if(vB D P R).1="" then ↑({D with kn:=(vB D P R).2.2},.learn P R)else none
 | .learn _ _=>none
 | .forget nm=>if D.kn.lookup nm=none then none else ↑({D with kn:=D.kn.filter λp=>decide (p.1≠nm)},.forget nm)
 | .turn ks=>if D.kss.length<8 then ↑({D with kss:=D.kss++[ks]},.turn ks)else none
 | .close age=>↑({D with least:=if age>D.least then age else D.least},.close age)
 | .hear ↑P=>↑({D with kn:=(Z2 D P).2},.hear P (Z2 D P).1)
 | .hear none=>none
section
variable(K:ι)(C:Δ)(x:Xa)
inductive MF (vs:Ε) (H:Hp) (Q:VK):Prop
 |mk (a:Da) (D:Dr) (L:Ρ) (x:V) (o:Option Ps) (h1:vs=[.ref a.p,x]) (h2:HX K C H a D L) (h3:L.length<=1000000) (h4:Ik D) (h5:Tg H x o) (h6:(o=none->∀q H',GS H H'->H' q=↑(.tup [.str "held",.str "bad"])->Q (.ref q) H')) (h7:∀P,o=↑P->∀pr q H',x= .ref pr->Mv [a.bd,a.lg] H H'->IW H' pr P->H' q=↑(.tup (Z2 D P).1)->HX K C H' a {D with kn:=(Z2 D P).2} (L++[.hear P (Z2 D P).1])->Q (.ref q) H')
def oz:Sp:=λvs H Q _=>MF K C vs H Q
def ER(H:Hp)(k:Δ)(ks:Β):Prop:=H k=↑(.lst (ks.map V.int))\/Rd H k (.tup (ks.map V.int))
inductive L9 (vs:Ε) (H:Hp) (Q:VK):Prop
 |mk (a:Da) (D:Dr) (L:Ρ) (age:Int) (h1:vs=[.ref a.p,.int age]) (h2:HX K C H a D L) (h3:L.length<=1000000) (h4:∀D' r,EN D (.close age)=↑(D',r)->∀H',Mv [a.p,a.lg] H H'->HX K C H' a D' (L++[r])->Q .non H')
def mV:Sp:=λvs H Q _=>L9 K C vs H Q
inductive Nf (vs:Ε) (H:Hp) (Q:VK):Prop
 |mk (a:Da) (D:Dr) (L:Ρ) (h1:vs=[.ref a.p]) (h2:HX K C H a D L) (h3:∀t H',GS H H'->Li H' t L->Q (.ref t) H')
def uQ:Sp:=λvs H Q _=>Nf K C vs H Q
end
theorem fH{X:Cx}:zi X (.type "tuple") (λxs H Q=>∃kt a,xs=[.ref kt]/\ER H kt a/\∀t c,GS H c->Rd c t (.tup (a.map V.int))->Q (.ref t) c):=by
 intro Oa s σ H xs f Q I r h;obtain⟨kt,a,e,h,q⟩:=h;refine qX Oa s σ H xs f Q I r #[kt,a.map V.int,e,?_]
 rcases h with h|h
 ·exact .inl #[G0.of h,λt d=>q t _ (GS.upd d) (.inl qc)]
 ·exact .inr #[.inl h,q kt _ (GS.refl _) h]
section
variable{D:Dr}{P:Ps}
theorem iY(D:Dr)(nm:Str)(age:Int)(r:Option (Int×Int)):(zk D nm age r).1.length<=3/\∀v∈(zk D nm age r).1,n9 v:=by
 have two:∀a b:Str,([V.str a,.str b]:Ε).length<=3/\∀v∈([V.str a,.str b]:Ε),n9 v:=λa b=>#[by show 2<=3;decide,λv d=>by simp at d;rcases d with rfl|rfl<;>trivial]
 have c:∀(a b:Str) (i:Int),([V.str a,.str b,.int i]:Ε).length<=3/\∀v∈([V.str a,.str b,.int i]:Ε),n9 v:=λa b i=>#[by show 3<=3;decide,λv d=>by simp at d;rcases d with rfl|rfl|rfl<;>trivial]
 unfold zk;split
 ·exact two _ _
 ·split
  ·split
   ·exact two _ _
   ·split
    ·exact c _ _ _
    ·exact two _ _
  ·exact two _ _
theorem t8(D:Dr)(P:Ps):(Z2 D P).1.length<=3:=(iY ..).1
theorem ww(D:Dr)(P:Ps):∀v∈(Z2 D P).1,n9 v:=(iY ..).2
end
theorem ab{t u:TS}{D:HY}{σ:L2.St}{H:Hp}(G:L2.St->Hp->Prop)(h:∀D':HY,D'.rt=D.rt->(∀a H',G a H'->D'.nx a H')->t D' σ H)(c:∀a H',G a H'->u D a H'):cT t u D σ H:=h {D with nx:=u D} rfl c
section
variable{K:ι}{S:Η}{H H':Hp}
theorem MD.mv{b:Δ}{kss:List Β}(h:MD K H b kss)(m:Mv S H H')(n:NT S H):MD K H' b kss:=by
 obtain⟨d,e,l,r⟩:=h
 exact#[d,m.sqt n e,l,λi a f c g=>m.sqt n (r i a f c g)]
end
structure Iq(D:Dr)(e:Kb):Prop where
 a0:0<=e.age
 a1:e.age<D.kss.length
 l0:1<=e.last
 l1:e.last<4096
 w:∀x c,e.wt=↑(x,c)->e.age<=x/\x<D.kss.length/\e.last+D.near<c/\c<=e.last+D.far/\0<=c/\c<4096
section
variable{K:ι}{C:Δ}{H:Hp}{a:Da}{D:Dr}{L:Ρ}
def dS(a:Da):Η:=[a.p,a.hk,a.bd,a.lg]
theorem HX.nt(d:HX K C H a D L):NT (dS a) H:=λc e=>by
 obtain⟨dx,ep⟩:=id d.dr.ob;obtain⟨i,h,_⟩:=id d.dr.kb;obtain⟨j,f,_⟩:=id d.dr.ks;obtain⟨rs,g,_⟩:=id d.lo;simp only[dS,Jm,JE,JF]at e;rcases e with rfl|rfl|rfl|rfl
 ·exact#[_,ep,trivial]
 ·exact#[_,f,trivial]
 ·exact#[_,h,trivial]
 ·exact#[_,g,trivial]
theorem HX.outD{x:Δ}{xs:List (qJ×V)}(d:HX K C H a D L)(hx:H x=↑(.dK xs))(f:x≠a.bd):x∉dS a:=λc=>by
 obtain⟨dx,ep⟩:=id d.dr.ob;obtain⟨h,e,_⟩:=id d.dr.ks;obtain⟨rs,g,_⟩:=id d.lo;simp only[dS,Jm,JE,JF]at c;rcases c with z|z|z|z
 ·rw[z,ep]at hx;cases hx
 ·rw[z,e]at hx;cases hx
 ·exact f z
 ·rw[z,g]at hx;cases hx
end
theorem Iq.mono{D D':Dr}{e:Kb}(k:Iq D e)(h:D.kss.length<=D'.kss.length)(hn:D'.near=D.near:=by rfl)(hf:D'.far=D.far:=by rfl):Iq D' e:=#[k.a0,by have:=k.a1;lia,k.l0,k.l1,λx c z=>by have:=k.w x c z;rw[hn,hf];lia]
theorem mN{D:Dr}{e:Kb}{age c:Int}(k:Iq D e)(i:e.age<=age)(d:age<D.kss.length)(g:0<=c)(f:c<4096):Iq D (zr D.near D.far e age c).2:=by
 have j:=k.a0;have l:=k.l0;have a:e.last<c->Iq D #[age,c,none]:=λh=>#[by show 0<=age;lia,d,by show 1<=c;lia,f,λx y z=>by cases z]
 unfold zr;split
 ·exact k
 ·split
  ·exact a (by lia)
  ·split
   ·split
    ·exact a (by lia)
    ·exact#[k.a0,k.a1,k.l0,k.l1,λx y z=>by cases z;exact#[i,d,by show e.last+D.near<c;lia,by show c<=e.last+D.far;lia,g,f]]
   ·exact k
theorem nG{kn:Kw}{nm:Str}{e:Kb}(h:nm∈kn.map (·.1)):(zc kn nm e).length=kn.length:=by
 unfold zc;rw[Jc h,Je]
theorem gC{D:Dr}{e:Kb}{age:Int}(h:qR D e age=true):e.age<=age:=by
 unfold qR at h;rw[JC]at h;exact Jx h.2
theorem ZG{i:Nat}{v:V}{σ:L2.St}{H:Hp}{t u:TS}{D:HY}{rt:VK}{bk ct:L2.St->Hp->Prop}(G:L2.St->Hp->Prop)(h:∀D':HY,D'.rt=D.rt->(∀a H',G a H'->D'.nx a H')->t D' (σ.set i ↑v) H)(c:∀a H',G a H'->u D a H'):Qa i v σ H (HY.nx {nx:=cT t u D,rt:=rt,bk:=bk,ct:=ct}):=h {D with nx:=u D} rfl c
theorem Cy{σ:L2.St}{H:Hp}{t u:TS}{D:HY}{rt:VK}{bk ct:L2.St->Hp->Prop}(G:L2.St->Hp->Prop)(h:∀D':HY,D'.rt=D.rt->(∀a H',G a H'->D'.nx a H')->t D' σ H)(c:∀a H',G a H'->u D a H'):HY.nx {nx:=cT t u D,rt:=rt,bk:=bk,ct:=ct} σ H:=h {D with nx:=u D} rfl c
theorem C2{K:ι}{H:Hp}{D:Dr}{age:Int}{as:Η}(g:as.length=D.kss.length)(d:∀(i:Nat) (a:Δ) (ks:Β),as[i]? =↑a->D.kss[i]? =↑ks->G9 K H a (ks.map V.int))(f:0<=age)(h1:age<D.kss.length):∃e,zY (as.map V.ref) age=↑(.ref e)/\G9 K H e ((Qr D age).map V.int):=by
 obtain⟨i,rfl⟩:∃i:Nat,age=(i:Int):=#[age.toNat,by lia]
 have hi:i<D.kss.length:=by lia
 have c:i<as.length:=by lia
 refine#[as[i],Qp (by rw[Jn,Jg c];rfl),?_]
 have:=d i as[i] D.kss[i] (Jg c) (Jg hi)
 unfold Qr;rw[Fe,Jz,Jg hi];exact this
theorem AB{a:Α}{r:Int}(c:0<=r)(h1:r<((a.map V.str).length:Int))(ok:∀z∈a,Qq z):∃z:Str,zY (a.map V.str) r=↑(.str z)/\Qq z:=by
 obtain⟨x,e,f⟩:=QK (xs:=a.map V.str) c h1
 obtain⟨z,d,rfl⟩:=Jt.mp f
 exact#[z,e,ok z d]
theorem EM{a:Da}{H H':Hp}(m:Mv [a.p,a.lg] H H'):Mv (dS a) H H':=m.mono λc h z=>h (by simp only[dS,Jm,JE,JF]at z⊢;rcases z with z|z<;>simp [z])
theorem Wt.same{H H':Hp}{v:V}{o:Option (Int×Int)}(s:GS H H')(h:Wt H v o):Wt H' v o:=h.mv (S:=[]) s.mv cF
theorem ZY{X:Cx}{K:ι}(h:X.K=K):zi X (.type "list") (λxs H Q=>∃p ys,xs=[.ref p]/\(G0 K H p ys\/G9 K H p ys)/\∀l,H l=none->Q (.ref l) (GW H l (.lst ys))):=by subst h;exact Zq
theorem pT{kn:Kw}{nm:Str}(h:nm∉kn.map (·.1)):kn.lookup nm=none:=by
 cases e:kn.lookup nm with
 |none=>rfl
 |some x=>exact absurd (Hg.mp (by rw[e];rfl)) h
theorem BV{a:Da}{x:Δ}(h:x∈dS a):x=a.p\/x=a.hk\/x=a.bd\/x=a.lg:=by
 simpa only[dS,Jm,JE,JF]using h
theorem Cf(a:Da):a.p∈dS a:=by simp [dS]
theorem y8(a:Da):a.hk∈dS a:=by simp [dS]
theorem yw(a:Da):a.bd∈dS a:=by simp [dS]
theorem Af(a:Da):a.lg∈dS a:=by simp [dS]
section
variable{H:Hp}{n:Δ}
theorem LF.eqd{n:Nat}{x y:V}(h:LF H n x y):Lo H n x y:=by
 induction h with
 |int n i=>exact .int n i
 |str n z=>exact .str n z
 |non n=>exact .non n
 |tup h1 h2 hl _ _ ih=>exact .tup h1 h2 hl ih
end
theorem uo{a:Da}{H H':Hp}(m:Mv [a.bd,a.lg] H H'):Mv (dS a) H H':=m.mono (λc h z=>h (by simp [dS]at z⊢;rcases z with z|z<;>simp [z]))
def ZP(D:Dr)(kd:Δ):List (qJ×V):=[(.inr "near",.int D.near),(.inr "far",.int D.far),(.inr "keys",.int (D.kss.length:Int)),(.inr "closed",.int D.least),(.inr "known",.ref kd)]
theorem vk(D:Dr)(kd:Δ):((ZP D kd).map (·.1)).Nodup:=by
 have:([.inr "near",.inr "far",.inr "keys",.inr "closed",.inr "known"]:List qJ).Nodup:=by decide +kernel
 exact this
theorem wU(D:Dr)(kd:Δ):Zs [] (ZP D kd)=ZP D kd:=by
 have:=lI (ZP D kd) [] (vk D kd)
 rwa [List.nil_append]at this
structure Ht(H:Hp)(m kd:Δ)(D:Dr):Prop where
 di:H m=↑(.dK (ZP D kd))
 kn:II H kd D.kn
 ne:m≠kd
section
variable{S:Η}{H H':Hp}{m kd:Δ}{D:Dr}
theorem Ht.get(a:Ht H m kd D)(i:Nat){k:qJ}{x:V}(h:(ZP D kd)[i]? =↑(k,x)):Iy H m (kV k) ↑x:=by
 have:=Iy.k (k:=k) a.di
 rw[oZ i h (vk ..)]at this;exact this
theorem Ht.g_near(a:Ht H m kd D):Iy H m (.str "near") ↑(.int D.near):=a.get (k:= .inr "near") 0 Z
theorem Ht.g_far(a:Ht H m kd D):Iy H m (.str "far") ↑(.int D.far):=a.get (k:= .inr "far") 1 Z
theorem Ht.g_keys(a:Ht H m kd D):Iy H m (.str "keys") ↑(.int (D.kss.length:Int)):=a.get (k:= .inr "keys") 2 Z
theorem Ht.g_closed(a:Ht H m kd D):Iy H m (.str "closed") ↑(.int D.least):=a.get (k:= .inr "closed") 3 Z
theorem Ht.g_known(a:Ht H m kd D):Iy H m (.str "known") ↑(.ref kd):=a.get (k:= .inr "known") 4 Z
theorem Ht.mv(a:Ht H m kd D)(v:Mv S H H')(n:NT S H)(h1:m∉S)(h2:kd∉S):Ht H' m kd D:=#[v _ _ h1 a.di,a.kn.mv v n h2,a.ne]
theorem Ht.same(a:Ht H m kd D)(s:GS H H'):Ht H' m kd D:=a.mv (S:=[]) s.mv cF (λh=>nomatch h) (λh=>nomatch h)
theorem Ht.putK{c:Kw}(a:Ht H m kd D)(v:Mv [kd] H H')(d:II H' kd c):Ht H' m kd {D with kn:=c}:=#[v _ _ (qW a.ne) a.di,d,a.ne]
theorem rF(D:Dr)(kd:Δ)(z:Int):L2.HL (ZP D kd) (Sum.inr "closed":qJ) (.int z)=ZP {D with least:=z} kd:=by
 unfold L2.HL ZP;rw[Jc (by simp [ES])]
 have h1:¬((Sum.inr ("near":Str):Sum Int Str)=Sum.inr ("closed":Str)):=by decide +kernel
 have c:¬((Sum.inr ("far":Str):Sum Int Str)=Sum.inr ("closed":Str)):=by decide +kernel
 have d:¬((Sum.inr ("keys":Str):Sum Int Str)=Sum.inr ("closed":Str)):=by decide +kernel
 have a:¬((Sum.inr ("known":Str):Sum Int Str)=Sum.inr ("closed":Str)):=by decide +kernel
 simp only[JS,FS,Jb h1,Jb c,Jb d,Jb a,Fc]
theorem Ht.close(a:Ht H m kd D)(z:Int):∃H',Lq H m (.str "closed") (.int z) H'/\Mv [m] H H'/\Ht H' m kd {D with least:=z}:=by
 refine#[_,Lq.k (k:=Sum.inr "closed") a.di (sL _ (by show 5<=100;decide)),Mv.upd1,by rw[qc,rF],a.kn.mv Mv.upd1 (NT.one a.di trivial) (qW a.ne.symm),a.ne]
end
structure Em where
 e:Δ
 a:Da
 m:Δ
 kd:Δ
def eS(x:Em):Η:=dS x.a++[x.m,x.kd]
structure Lj(K:ι)(C:Δ)(H:Hp)(x:Em)(D:Dr)(L:Ρ)(E:Dr):Prop where
 tu:H x.e=↑(.tup [.ref x.a.p,.ref x.m])
 dl:HX K C H x.a D L
 md:Ht H x.m x.kd E
 n1:x.m≠x.a.bd
 n2:x.kd≠x.a.bd
section
variable{K:ι}{C:Δ}{S:Η}{H H':Hp}{x:Em}{D D' E E':Dr}{L L':Ρ}{z:Δ}
theorem tZ(h:z∈eS x):z∈dS x.a\/z=x.m\/z=x.kd:=by
 rcases JL.mp h with h|h
 ·exact .inl h
 ·simp only[Jm,JE,JF]at h;exact .inr h
theorem k7(h:z∈dS x.a):z∈eS x:=JL.mpr (.inl h)
theorem El:x.m∈eS x:=JL.mpr (.inr (by simp))
theorem Ew:x.kd∈eS x:=JL.mpr (.inr (by simp))
theorem Lj.nt(b:Lj K C H x D L E):NT (eS x) H:=λz a=>by
 rcases tZ a with h|rfl|rfl
 ·exact b.dl.nt z h
 ·exact#[_,b.md.di,trivial]
 ·obtain⟨f,e,_⟩:=b.md.kn;exact#[_,e,trivial]
theorem Lj.some(b:Lj K C H x D L E)(h:z∈eS x):H z≠none:=λw=>by
 obtain⟨o,e,_⟩:=b.nt z h;rw[w]at e;cases e
theorem Lj.mv(b:Lj K C H x D L E)(m:Mv S H H')(nt:NT S H)(h:∀z∈eS x,z∉S):Lj K C H' x D L E:=#[m.tup nt b.tu,b.dl.mv m nt (h _ (k7 (Cf _))) (h _ (k7 (y8 _))) (h _ (k7 (yw _))) (h _ (k7 (Af _))),b.md.mv m nt (h _ El) (h _ Ew),b.n1,b.n2]
theorem Lj.same(b:Lj K C H x D L E)(s:GS H H'):Lj K C H' x D L E:=b.mv (S:=[]) s.mv cF (λz _ h=>nomatch h)
theorem Lj.m_out(b:Lj K C H x D L E):x.m∉dS x.a:=b.dl.outD b.md.di b.n1
theorem Lj.k_out(b:Lj K C H x D L E):x.kd∉dS x.a:=by
 obtain⟨f,e,_⟩:=b.md.kn;exact b.dl.outD e b.n2
theorem Lj.door(b:Lj K C H x D L E)(m:Mv (dS x.a) H H')(d:HX K C H' x.a D' L'):Lj K C H' x D' L' E:=#[m.tup b.dl.nt b.tu,d,b.md.mv m b.dl.nt b.m_out b.k_out,b.n1,b.n2]
theorem Lj.model(b:Lj K C H x D L E)(m:Mv [x.m,x.kd] H H')(c:Ht H' x.m x.kd E'):Lj K C H' x D L E':=by
 have nt:NT [x.m,x.kd] H:=λz a=>b.nt z (JL.mpr (.inr a))
 have o:∀z∈dS x.a,z∉[x.m,x.kd]:=λz a w=>by
  simp only[Jm,JE,JF]at w;rcases w with rfl|rfl
  ·exact b.m_out a
  ·exact b.k_out a
 exact#[m.tup nt b.tu,b.dl.mv m nt (o _ (Cf _)) (o _ (y8 _)) (o _ (yw _)) (o _ (Af _)),c,b.n1,b.n2]
theorem ig(m:Mv (dS x.a) H H'):Mv (eS x) H H':=m.mono λc h z=>h (k7 z)
theorem iO(m:Mv [x.m,x.kd] H H'):Mv (eS x) H H':=m.mono λc h z=>h (JL.mpr (.inr z))
end
abbrev En:=Em×Dr×Ρ
abbrev _root_.μ:=List En
structure Pw(K:ι)(C:Δ)(H0 H:Hp)(b:Δ)(c:Nat)(pl:Δ)(xs:μ):Prop where
 s:Mv [b] H0 H
 bx:Ip H b c
 b0:H0 b≠none
 en:∀(i:Nat) (x:En),xs[i]? =↑x->Lj K C H x.1 x.2.1 x.2.2 x.2.1
 dj:∀(i j:Nat) (x y:En),i≠j->xs[i]? =↑x->xs[j]? =↑y->∀z∈eS x.1,z∉eS y.1
 fr:∀(i:Nat) (x:En),xs[i]? =↑x->∀z∈eS x.1,H0 z=none
 pe:H pl=↑(.lst (xs.map λx=> .ref x.1.e))
 np:∀(i:Nat) (x:En),xs[i]? =↑x->pl∉eS x.1
 fp:H0 pl=none
section
variable{K:ι}{C:Δ}{H0 H H':Hp}{b:Δ}{c c':Nat}{pl:Δ}{xs:μ}{i:Nat}{x:En}{D':Dr}{L':Ρ}
theorem Pw.nb(p:Pw K C H0 H b c pl xs)(hi:xs[i]? =↑x):b∉eS x.1:=λz=>p.b0 (p.fr i x hi b z)
theorem Pw.npb(p:Pw K C H0 H b c pl xs):pl≠b:=λz=>p.b0 (z▸p.fp)
theorem Pw.grc(p:Pw K C H0 H b c pl xs)(g:IQ b c' H H'):Pw K C H0 H' b c' pl xs:=by
 have m:Mv [b] H H':=λc o h e=>g.kp c o (λz=>h (Jh.mpr z)) e
 exact#[p.s.trans m,g.bx,p.b0,λi x hi=>(p.en i x hi).mv m (zf p.bx) (λz a w=>p.nb hi (Jh.mp w▸a)),p.dj,p.fr,g.kp _ _ p.npb p.pe,p.np,p.fp]
theorem Pw.same(p:Pw K C H0 H b c pl xs)(s:GS H H'):Pw K C H0 H' b c pl xs:=p.grc (s.grc p.bx)
theorem Pw.mono(p:Pw K C H0 H b c pl xs)(h:c<=c'):Pw K C H0 H b c' pl xs:=#[p.s,p.bx.mono h,p.b0,p.en,p.dj,p.fr,p.pe,p.np,p.fp]
theorem Pw.step(p:Pw K C H0 H b c pl xs)(hi:xs[i]? =↑x)(m:Mv (eS x.1) H H')(e:Lj K C H' x.1 D' L' D'):Pw K C H0 H' b c pl (xs.set i (x.1,D',L')):=by
 have v:i<xs.length:=(Js.mp hi).1
 have nt:=(p.en i x hi).nt;have g:∀{j:Nat} {y:En},(xs.set i (x.1,D',L'))[j]? =↑y->(j=i/\y=(x.1,D',L'))\/(j≠i/\xs[j]? =↑y):=λ{j y} h=>by
  rw[List.getElem?_set]at h;split at h
  ·rename_i z
   subst z;injection h with h
   exact .inl #[Z,h.symm]
  ·rename_i z
   exact .inr #[λw=>z w.symm,h]
 have same:∀{j:Nat} {y:En},(xs.set i (x.1,D',L'))[j]? =↑y->∃d,xs[j]? =↑d/\d.1=y.1:=λh=>by
  rcases g h with⟨rfl,rfl⟩|⟨_,h⟩
  ·exact#[x,hi,Z]
  ·exact#[_,h,Z]
 refine#[λc o u e=>m c o (λz=>?_) (p.s c o u e),p.bx.mv m (p.nb hi),p.b0,λj y a=>?_,λj k y z r a hk=>?_,λj y a=>?_,?_,λj y a=>?_,p.fp]
 ·rw[p.fr i x hi c z]at e;cases e
 ·rcases g a with⟨rfl,rfl⟩|⟨n,a⟩
  ·exact e
  ·exact(p.en j y a).mv m nt (λz q w=>p.dj j i y x n a hi z q w)
 ·obtain⟨d,f,l⟩:=same a
  obtain⟨t,q,s⟩:=same hk;rw[<- l,<- s];exact p.dj j k d t r f q
 ·obtain⟨d,f,l⟩:=same a
  rw[<- l];exact p.fr j d f
 ·have:(xs.set i (x.1,D',L')).map (λx=>V.ref x.1.e)=xs.map λx=>V.ref x.1.e:=by
   refine List.ext_getElem? λj=>?_
   rw[Jn,Jn,List.getElem?_set];split
   ·rename_i z
    subst z;rw[hi];rfl
   ·rfl
  rw[this];exact m _ _ (p.np i x hi) p.pe
 ·obtain⟨d,f,l⟩:=same a
  rw[<- l];exact p.np j d f
theorem Pw.at(p:Pw K C H0 H b c pl xs)(hi:xs[i]? =↑x):zY (xs.map λx=>V.ref x.1.e) (i:Int)=↑(.ref x.1.e):=Qp (by rw[Jn,hi];rfl)
theorem Pw.add{n:Hp}{y:Em}{D:Dr}(p:Pw K C H0 H b c pl xs)(s:GS H n)(e:Lj K C n y D [] D)(f:∀z∈eS y,H z=none):Pw K C H0 (GW n pl (.lst ((xs.map λx=>V.ref x.1.e)++[.ref y.e]))) b c pl (xs++[(y,D,[])]):=by
 have A:=p.same s;have m:Mv [pl] n (GW n pl (.lst ((xs.map λx=>V.ref x.1.e)++[.ref y.e]))):=Mv.upd1
 have nt:NT [pl] n:=NT.one A.pe trivial
 have t:pl∉eS y:=λz=>by have:=p.pe;rw[f pl z]at this;cases this
 have a:∀{j:Nat} {w:En},(xs++[(y,D,[])])[j]? =↑w->xs[j]? =↑w\/(j=xs.length/\w=(y,D,[])):=λ{j w} h=>by
  by_cases g:j<xs.length
  ·rw[JT g]at h;exact .inl h
  ·rw[JY (by lia)]at h
   cases q:j-xs.length with
   |zero=>rw[q]at h;cases h;exact .inr #[by lia,Z]
   |succ k=>rw[q]at h;cases h
 have E:∀z∈eS y,H0 z=none:=λz i=>by
  cases q:H0 z with
  |none=>rfl
  |some o=>
   by_cases w:z=b
   ·subst w;obtain⟨_,_,_,r,_⟩:=p.bx;rw[f z i]at r;cases r
   ·have:=p.s z o (qW w) q;rw[f z i]at this;cases this
 refine#[λc o F r=>?_,A.bx.mv m (qW p.npb.symm),p.b0,λj w g=>?_,λj k w u B g hk=>?_,λj w g=>?_,?_,λj w g=>?_,p.fp]
 ·rw[qm (λz=>by rw[z,p.fp]at r;cases r)]
  exact s _ _ (p.s c o F r)
 ·rcases a g with g|⟨_,rfl⟩
  ·exact(A.en j w g).mv m nt (λz i u=>p.np j w g (Jh.mp u▸i))
  ·exact e.mv m nt (λz i u=>t (Jh.mp u▸i))
 ·rcases a g with d|⟨I,rfl⟩
  ·rcases a hk with l|⟨_,rfl⟩
   ·exact p.dj j k w u B d l
   ·exactλz i v=>(p.en j w d).some i (f z v)
  ·rcases a hk with l|⟨G,rfl⟩
   ·exactλz i v=>(p.en k u l).some v (f z i)
   ·lia
 ·rcases a g with d|⟨_,rfl⟩
  ·exact p.fr j w d
  ·exact E
 ·rw[qc,JK];rfl
 ·rcases a g with d|⟨_,rfl⟩
  ·exact p.np j w d
  ·exact t
end
def zv(D:Dr)(nm:Str)(age c:Int):Str:=match D.kn.lookup nm with
 |none=>""
 |some e=>if qR D e age=true then(if c-e.last<1\/c-e.last>D.far then "" else if c-e.last<=D.near\/e.wt=↑(age,c-1)then "open" else "wait")else ""
def Hj(D:Dr)(nm:Str)(age c:Int):Kw:=(zk D nm age ↑(c,0)).2
theorem vm(D:Dr)(nm:Str)(age c d:Int):(zk D nm age ↑(c,d)).2=Hj D nm age c:=by
 unfold Hj zk;split
 ·rfl
 ·split
  ·simp only
   split
   ·rfl
   ·rfl
  ·rfl
theorem si{D:Dr}{nm:Str}{age c:Int}(o:(D.kn.map (·.1)).Nodup)(p:D.near<=D.far):Hj D nm age c=match D.kn.lookup nm with
  |none=>D.kn
  |some e=>if zv D nm age c="open" then zc D.kn nm #[age,c,none]else if zv D nm age c="wait" then zc D.kn nm #[e.age,e.last,↑(age,c)]else D.kn:=by
 unfold Hj;cases e1:D.kn.lookup nm with
 |none=>unfold zk;rw[e1]
 |some e=>
  simp only
  have f:¬(("":Str)="open"):=by decide
  have g:¬(("":Str)="wait"):=by decide
  have l:¬(("wait":Str)="open"):=by decide
  have d:=jm o e1
  by_cases h:qR D e age=true
  ·have j:(zk D nm age ↑(c,0)).2=zc D.kn nm (zr D.near D.far e age c).2:=by
    unfold zk;rw[e1];simp only
    rw[Jc h];split<;>rfl
   have a:zv D nm age c=(if c-e.last<1\/c-e.last>D.far then("":Str)else if c-e.last<=D.near\/e.wt=↑(age,c-1)then("open":Str)else("wait":Str)):=by
    unfold zv;rw[e1];simp only
    rw[Jc h]
   rw[j];unfold zr
   by_cases h1:c<=e.last
   ·rw[Jc (show c-e.last<1\/c-e.last>D.far from .inl (by lia))]at a
    rw[Jc h1,a,Jb f,Jb g];exact d
   ·rw[Jb h1]
    by_cases n:c<=e.last+D.near
    ·rw[Jb (show¬(c-e.last<1\/c-e.last>D.far) by lia),Jc (show c-e.last<=D.near\/_ from .inl (by lia))]at a
     rw[Jc n,a,Jc Z]
    ·rw[Jb n]
     by_cases m:c<=e.last+D.far
     ·rw[Jb (show¬(c-e.last<1\/c-e.last>D.far) by lia)]at a
      rw[Jc m]
      by_cases i:e.wt=↑(age,c-1)
      ·rw[Jc (show c-e.last<=D.near\/_ from .inr i)]at a
       rw[Jc i,a,Jc Z]
      ·rw[Jb (show¬(c-e.last<=D.near\/e.wt=↑(age,c-1))fromλz=>z.elim (λz=>by lia) i)]at a
       rw[Jb i,a,Jb l,Jc Z]
     ·rw[Jc (show c-e.last<1\/c-e.last>D.far from .inr (by lia))]at a
      rw[Jb m,a,Jb f,Jb g];exact d
  ·have j:(zk D nm age ↑(c,0)).2=D.kn:=by
    unfold zk;rw[e1];simp only
    rw[Jb h]
   have a:zv D nm age c="":=by
    unfold zv;rw[e1];simp only
    rw[Jb h]
   rw[j,a,Jb f,Jb g]
section
variable(K:ι)(C:Δ)
inductive LO (vs:Ε) (H:Hp) (Q:VK):Prop
 |mk (a:Da) (D:Dr) (L:Ρ) (p1 p2:Δ) (P R:Ps) (c d d':Int) (h1:vs=[.ref a.p,.ref p1,.ref p2]) (h2:HX K C H a D L) (h3:L.length<=1000000) (h4:Ik D) (h5:IW H p1 P) (h6:IW H p2 R) (h7:Lx P) (h8:Lx R) (h9:eU D P=↑(c,d)) (h10:eU D R=↑(c+1,d')) (h11:R.nm=P.nm) (h12:R.age=P.age) (h13:D.kn.lookup R.nm=none) (h14:(D.kn.length:Int)<D.most) (h15:∀H',Mv [a.bd,a.lg] H H'->HX K C H' a {D with kn:=zc D.kn R.nm ⟨R.age,c+1,none⟩} (L++[.learn P R])->Q .non H')
def jb:Sp:=λvs H Q _=>LO K C vs H Q
end
def Za(D:Dr)(e:Kb)(age:Int):List (Int×Int):=if qR D e age=true then
  (if e.last+1<4096 then [(e.last+1,if 4095<e.last+D.near then 4095 else e.last+D.near)]else [])++
  (match e.wt with
   |none=>[]
   |some (x,w)=>if x=age/\w+1<=(if 4095<e.last+D.far then 4095 else e.last+D.far)then [(w+1,w+1)]else [])
 else []
def Lz(H:Hp)(t:Δ)(zs:List (Int×Int)):Prop:=∃c:Η,H t=↑(.tup (c.map V.ref))/\c.length=zs.length/\∀(i:Nat) (a:Δ) (z:Int×Int),c[i]? =↑a->zs[i]? =↑z->H a=↑(.tup [.int z.1,.int z.2])
def ND(H:Hp)(t:Δ)(zs:List (Int×Int)):Prop:=∃c:Η,H t=↑(.lst (c.map V.ref))/\c.length=zs.length/\∀(i:Nat) (a:Δ) (z:Int×Int),c[i]? =↑a->zs[i]? =↑z->H a=↑(.tup [.int z.1,.int z.2])
section
variable{S:Η}{H H':Hp}{t x:Δ}{zs:List (Int×Int)}{z:Int×Int}
theorem Lz.mv(m:Mv S H H')(n:NT S H)(h:Lz H t zs):Lz H' t zs:=by
 obtain⟨d,e,l,r⟩:=h
 exact#[d,m.tup n e,l,λi a z c f=>m.tup n (r i a z c f)]
theorem Lz.same(s:GS H H')(h:Lz H t zs):Lz H' t zs:=h.mv (S:=[]) s.mv cF
theorem ND.add{as:Η}(e:H t=↑(.lst (as.map V.ref)))(l:as.length=zs.length)(r:∀(i:Nat) (a:Δ) (z:Int×Int),as[i]? =↑a->zs[i]? =↑z->H a=↑(.tup [.int z.1,.int z.2]))(hx:H x=↑(.tup [.int z.1,.int z.2])):ND (GW H t (.lst (as.map V.ref++[.ref x]))) t (zs++[z]):=by
 have nt:NT [t] H:=NT.one e trivial
 refine#[as++[x],by rw[qc,JK];rfl,by simp [l],λi a y c d=>(Mv.upd1 (a:=t)).tup nt ?_]
 by_cases hi:i<as.length
 ·rw[JT hi]at c
  rw[JT (by rw[<- l];exact hi)]at d
  exact r i a y c d
 ·rw[JY (by lia)]at c
  rw[JY (by rw[<- l];lia),<- l]at d
  cases q:i-as.length with
  |zero=>rw[q]at c d;cases c;cases d;exact hx
  |succ k=>rw[q]at c;cases c
end
section
variable(K:ι)(C:Δ)
def M0(H:Hp)(v:V):Τ->Prop
 |none=>v= .non
 |some e=>∃a,v= .ref a/\HS H a e
inductive Ny (vs:Ε) (H:Hp) (Q:VK):Prop
 |mk (p ta hk bd lg:Δ) (n:Nat) (D:Dr) (v:V) (o:Τ) (age:Int) (h1:vs=[.ref p,v,.int age]) (h2:GV K C H p ta hk bd lg n D) (h3:M0 H v o) (h4:∀t H',GS H H'->Lz H' t (match(generalizing:=false) o with|none=>[]|some e=>Za D e age)->Q (.ref t) H')
def yU:Sp:=λvs H Q _=>Ny K C vs H Q
inductive MG (vs:Ε) (H:Hp) (Q:VK):Prop
 |mk (D:Dr) (h1:vs=[.int D.near,.int D.far,.int (D.kss.length:Int)]) (h2:D.least=0) (h3:D.kn=[]) (h4:∀m kd H',GS H H'->H m=none->H kd=none->Ht H' m kd D->Q (.ref m) H')
def oN:Sp:=λvs H Q _=>MG vs H Q
inductive MJ (vs:Ε) (H:Hp) (Q:VK):Prop
 |mk (m kd p:Δ) (D:Dr) (nm:Str) (age c:Int) (h1:vs=[.ref m,.ref p]) (h2:Ht H m kd D) (h3:H p=↑(.tup [.str nm,.int age,.int c])) (h4:Ik D) (h5:D.near<=D.far) (h6:∀H',Mv [m,kd] H H'->Ht H' m kd {D with kn:=Hj D nm age c}->Q (.bl (decide (zv D nm age c="open"))) H')
def iw:Sp:=λvs H Q _=>MJ vs H Q
structure Io(H:Hp)(cd tb kt:Δ)(t:Β)(kss:List Β):Prop where
 e:H cd=↑(.tup [.ref tb,.ref kt])
 tb:Rd H tb (.tup (t.map V.int))
 ks:MD [] H kt kss
def Qm(t:Β)(kss:List Β)(nm:Str)(age c d:Int):Ps:=#[nm,age,cj t (kss.getD age.toNat []) nm c d]
inductive Ma (vs:Ε) (H:Hp) (Q:VK):Prop
 |mk (cd tb kt p:Δ) (t:Β) (kss:List Β) (nm:Str) (age c d:Int) (h1:vs=[.ref cd,.ref p,.int d]) (h2:Io H cd tb kt t kss) (h3:H p=↑(.tup [.str nm,.int age,.int c])) (h4:t.Perm HW) (h5:Qq nm) (h6:0<=age) (h7:age<kss.length) (h8:0<=c) (h9:c<4096) (h10:aR d) (h11:∀pr H',GS H H'->IW H' pr (Qm t kss nm age c d)->Q (.ref pr) H')
def gm:Sp:=λvs H Q _=>Ma vs H Q
end
section
variable{S:Η}{H H':Hp}{cd tb kt:Δ}{t:Β}{kss:List Β}
theorem Io.mv(h:Io H cd tb kt t kss)(m:Mv S H H')(n:NT S H):Io H' cd tb kt t kss:=#[m.tup n h.e,m.rd n h.tb,h.ks.mv m n]
theorem Io.same(h:Io H cd tb kt t kss)(s:GS H H'):Io H' cd tb kt t kss:=h.mv (S:=[]) s.mv cF
end
end L3
namespace S0
open PySem PyProof.Rows
def Rs(xs:Array Nat):Prop:=xs.toList.Pairwise (· < ·)
theorem Rs.at{xs:Array Nat}(h:Rs xs){i j:Nat}(hi:i<xs.size)(c:j<xs.size)(a:i<j):xs[i]<xs[j]:=by
 have:=List.pairwise_iff_getElem.mp h i j (by simpa using hi) (by simpa using c) a
 simpa using this
theorem iA{xs:Array Nat}(h:Rs xs)(j:Nat):∀(f lo hi:Nat),lo<=hi->hi<=xs.size->hi-lo<=f->(∀i (hx:i<xs.size),i<lo->xs[i]<j)->(∀i (hx:i<xs.size),hi<=i->j<=xs[i])->
  SetTable.below.go xs j f lo hi<=xs.size/\(∀i (hx:i<xs.size),i<SetTable.below.go xs j f lo hi->xs[i]<j)/\(∀i (hx:i<xs.size),SetTable.below.go xs j f lo hi<=i->j<=xs[i])
 |0,lo,hi,h1,h2,h3,h4,h5=>by
  have e:lo=hi:=by lia
  subst e
  exact#[h2,h4,h5]
 |f+1,lo,hi,h1,h2,h3,h4,h5=>by
  unfold SetTable.below.go
  by_cases c:lo<hi
  ·rw[Jc c]
   have l:(lo+hi)/2<xs.size:=by lia
   dsimp only
   have m:xs.getD ((lo+hi)/2) j=xs[(lo+hi)/2]:=by simp [Array.getD,l]
   rw[m]
   by_cases g:xs[(lo+hi)/2]<j
   ·rw[Jc g]
    refine iA h j f _ _ (by lia) h2 (by lia) (λi a d=>?_) h5
    by_cases e:i=(lo+hi)/2
    ·subst e;exact g
    ·exact Nat.lt_trans (h.at a l (by lia)) g
   ·rw[Jb g]
    refine iA h j f _ _ (by lia) (by lia) (by lia) h4 λi a d=>?_
    by_cases e:i=(lo+hi)/2
    ·subst e;lia
    ·have:=h.at l a (by lia)
     lia
  ·rw[Jb c]
   exact#[by lia,h4,λi hx d=>h5 i hx (by lia)]
theorem bP{xs:Array Nat}(h:Rs xs)(j:Nat):SetTable.below xs j<=xs.size/\(∀i (hi:i<xs.size),i<SetTable.below xs j->xs[i]<j)/\(∀i (hx:i<xs.size),SetTable.below xs j<=i->j<=xs[i]):=
 iA h j xs.size 0 xs.size (Jy _) (Jf _) (by lia) (λi _ h=>absurd h (Nat.not_lt_zero _)) λi hx hi=>absurd hx (by lia)
theorem Rs.put{xs:Array Nat}(h:Rs xs){j:Nat}(i:(xs[SetTable.below xs j]? ==↑j)=false):Rs (SetTable.insertAt xs (SetTable.below xs j) j):=by
 obtain⟨h1,t,q⟩:=bP h j;generalize SetTable.below xs j=p at *
 unfold Rs;rw[SetTable.toList_insertAt,List.pairwise_append];have s:(xs.toList.take p++xs.toList.drop p).Pairwise (· < ·):=by rw[List.take_append_drop];exact h
 obtain⟨l,n,o⟩:=List.pairwise_append.mp s;have lo:∀x∈xs.toList.take p,x<j:=by
  intro x a;obtain⟨m,f,rfl⟩:=List.mem_iff_getElem.mp a;simp at f
  simpa using t m (by lia) (by lia)
 have hi:∀x∈xs.toList.drop p,j<x:=by
  intro x a;obtain⟨m,f,rfl⟩:=List.mem_iff_getElem.mp a;simp at f
  have c:p+m<xs.size:=by lia
  have g:p<xs.size:=by lia
  have u:j<=xs[p]:=q p g (Jf _)
  have v:xs[p]≠j:=by
   intro e;rw[getElem?_pos xs p g,e]at i;simp at i
  simp only[List.getElem_drop,Array.getElem_toList]
  by_cases r:m=0
  ·subst r;simp only[Nat.add_zero];lia
  ·have:=h.at g c (by lia)
   lia
 refine#[l,List.pairwise_cons.mpr #[hi,n],λx a y d=>?_]
 rcases Jm.mp d with rfl|d
 ·exact lo x a
 ·exact o x a y d
theorem bN{t:SetTable}{h:Int}:∀(f:Nat) (p:SetTable.Probe) {j:Nat} {d:β},(∀a,p.dummy=↑a->t.slot a= .dummy)->
  SetTable.probe.go t (λ_=>h+1) h f p=↑(.empty j d)->t.slot j= .empty/\∀a,d=↑a->t.slot a= .dummy
 |0,p,j,d,hp,e=>nomatch e
 |f+1,p,j,d,hp,e=>by
  unfold SetTable.probe.go at e;have g:∀q:SetTable.Probe,(t.advance q).dummy=q.dummy:=λq=>by
   unfold SetTable.advance;split
   ·rfl
   ·rfl
  cases hs:t.slot p.j with
  |empty=>
   rw[hs]at e;simp only[Option.some.injEq,SetTable.Met.empty.injEq]at e;obtain⟨rfl,rfl⟩:=e
   exact#[hs,hp]
  |dummy=>
   rw[hs]at e;refine bN f _ (λa h'=>?_) e
   rw[g]at h';have h':↑p.j=↑a:=h'
   injection h' with h'
   rw[<- h'];exact hs
  |live i=>
   rw[hs]at e;have c:((h+1:Int)==h)=false:=by simp;lia
   simp only[c,Bool.false_eq_true,JD]at e;exact bN f _ (λa h'=>hp a (by rw[<- g p];exact h')) e
theorem vn{t:SetTable}{h:Int}{j:Nat}{b:Bool}(e:t.freeSlot h=↑(j,b)):∀i,t.slot j≠ .live i:=by
 unfold SetTable.freeSlot at e;split at e
 ·rename_i c d l
  obtain⟨f,g⟩:=bN _ _ (λc h'=>by cases h') l
  simp only[Option.some.injEq,Prod.mk.injEq]at e;obtain⟨a,_⟩:=e;intro i z;cases d with
  |none=>
   have a:c=j:=a
   rw[<- a,f]at z;cases z
  |some k=>
   have a:k=j:=a
   rw[<- a,g k Z]at z;cases z
 ·cases e
def TOk(t:SetTable):Prop:=t.plain=true->Rs t.place
theorem TOk.standIn(t:SetTable)(n:Nat):TOk (t.standIn n):=λh=>nomatch h
theorem BN{t:SetTable}{j:Nat}(h:TOk t)(c:∀i,t.slot j≠ .live i):TOk (t.put j).1:=by
 intro a;have h1:=h a;unfold SetTable.put
 dsimp only
 refine h1.put ?_
 cases e:(t.place[SetTable.below t.place j]? ==↑j)with
 |false=>rfl
 |true=>
  refine absurd ?_ (c (SetTable.below t.place j))
  unfold SetTable.slot
  dsimp only
  rw[e];rfl
theorem tW{t:SetTable}(h:TOk t)(es:Array (Int×Γ))(c:Int)(x:Γ):TOk (layNew t es c x).2.1/\(layNew t es c x).2.1.led=t.led:=by
 unfold layNew;split
 ·rename_i a e d
  dsimp only
  have hk:=BN (j:=a) h (vn d)
  unfold SetTable.orStandIn;split
  ·exact#[hk,Z]
  ·exact#[TOk.standIn _ _,Z]
 ·exact#[TOk.standIn _ _,Z]
theorem gj(f:Nat->β):∀l:Κ,(l.filterMap λj=>(f j).map (j,·)).map (·.1)=l.filter λj=>(f j).isSome
 | []=>rfl
 |j::l=>by
  rw[JR,List.filter_cons];cases e:f j with
  |none=>simpa using gj f l
  |some k=>simpa using gj f l
theorem oP{mask fg mv:Nat}{led plain:Bool}{hs:Array Int}{t:SetTable}{o:Array Nat}(e:SetTable.laid mask fg mv led plain hs=↑(t,o)):Rs t.place/\t.dummies= (List.toArray [])/\t.led=led:=by
 unfold SetTable.laid at e;cases hl:SetTable.layClean mask hs with
 |none=>rw[hl]at e;exact nomatch e
 |some ow=>
  rw[hl]at e;have a:↑(({mask,place:=(((List.range (mask+1)).filterMap λj=>(ow.getD j none).map (j,·)).map (·.1)).toArray,dummies:= (List.toArray []),finger:=fg,led,moves:=mv,plain}:SetTable),(((List.range (mask+1)).filterMap λj=>(ow.getD j none).map (j,·)).map (·.2)).toArray)=↑(t,o):=e
  injection a with a
  injection a with e1 e2
  subst e1;refine#[?_,Z,Z]
  unfold Rs
  dsimp only
  rw[gj];exact List.Pairwise.filter _ List.pairwise_lt_range
theorem wQ(t:SetTable)(es:Array (Int×Γ))(c:Nat):TOk (relayAll t es c).2.1/\(relayAll t es c).2.1.led=t.led:=by
 unfold relayAll;split
 ·rename_i h a f
  dsimp only
  obtain⟨d,g,e⟩:=oP f;split
  ·exact#[λ_=>d,e]
  ·exact#[TOk.standIn _ _,Z]
 ·exact#[TOk.standIn _ _,Z]
end S0
namespace S0
open PySem PySem.Spec PyProof.Rows
def zu(w:Ω):Bool:=w.params.followText "set-order"
def TW(w:Ω)(t:SetTable):Prop:=zu w=true\/(t.led=true/\TOk t)
section
variable{prog:Ξ}{w:Ω}{K:Type} [DecidableEq K](knd:PySem.KeyKind prog w K)(kf:Γ->K)
def SetK(h:Ψ)(a:Δ)(ks:Μ):Prop:=∃o es ep t,h.get? a=↑o/\o.ExactSet/\o.data= .set es ep t/\t.fits es.size=true/\es.size<scanBound/\
 ElemsOf knd es.toList/\(es.toList.map λe=>kf e.2).Perm ks/\TW w t
variable{knd kf}
theorem SetK.at{h h':Ψ}{a:Δ}{ks:Μ}(x:SetK knd kf h a ks)(e:∀o,h.get? a=↑o->h'.get? a=↑o):SetK knd kf h' a ks:=by
 obtain⟨o,es,ep,t,h1,r⟩:=x
 exact#[o,es,ep,t,e _ h1,r]
theorem SetK.lt{h:Ψ}{a:Δ}{ks:Μ}(x:SetK knd kf h a ks):a<h.objs.size:=by
 obtain⟨o,es,ep,t,h1,r⟩:=x;exact Jj h1
theorem SetK.len{h:Ψ}{a:Δ}{ks:Μ}(x:SetK knd kf h a ks):ks.length<scanBound:=by
 obtain⟨o,es,ep,t,h1,j,f,i,c,g,d,e⟩:=x;rw[<- d.length_eq,Je,Jp];exact c
theorem mf(c:∀k v,knd.is k v=true->kf v=k){es:Array (Int×Γ)}(f:ElemsOf knd es.toList)(k:K):
  k∈(es.toList.map λe=>kf e.2)↔∃e∈es.toList,knd.is k e.2=true:=by
 rw[Jt];constructor
 ·rintro⟨e,d,rfl⟩
  obtain⟨⟨g,a,_⟩,_⟩:=f e d
  exact#[e,d,by rw[c g _ a];exact a]
 ·rintro⟨e,d,hk⟩
  exact#[e,d,c k _ hk]
theorem Zh{h:Ψ}{a:Δ}{o:Obj}{es:Array (Int×Γ)}{ep:Nat}{t:SetTable}(ho:h.get? a=↑o)(hd:o.data= .set es ep t)(c:Array (Int×Γ))(t':SetTable):
  (h.update a (Obj.putSet c t')).get? a=some {o with data:= .set c (ep+1) t'}:=by
 have:=FB (Obj.putSet c t') ho (by rw[putSet_of c t' hd];rfl)
 rw[putSet_of c t' hd]at this;exact this
variable{A:Around}{E:GP}{s:Θ}
theorem rJ(X:∀k v,knd.is k v=true->kf v=k){a:Δ}{ks:Μ}{k:K}{x:Γ}{Q:Bool->Θ->Prop}(l:knd.is k x=true)(N:x.scannable=true)
  (hS:SetK knd kf s.heap a ks)(I:ks.length+1<scanBound)
  (h:∀h',Ψ.SameBut a s.heap h'->SetK knd kf h' a (if k∈ks then ks else ks++[k])->Q (decide (k∉ks)) {s with heap:=h'}):
  ε (model prog w) A (setAddHashed a x (knd.hash k)) Q E s:=by
 obtain⟨o,es,ep,t,ho,M,R,hf,hb,n,q,S⟩:=hS;have r:k∈ks↔∃e∈es.toList,knd.is k e.2=true:=by rw[<- q.mem_iff];exact mf X n k
 have a1:es.size=ks.length:=by rw[<- q.length_eq,Je,Jp]
 unfold setAddHashed setAddHashedIn;refine JI (Ja (wpAny_setState_of ho R hf ?_))
 dsimp only
 rw[byScan_of N hb n];simp only[↓reduceIte];unfold setAddByScan;refine Ja (Ja (E7 (Ja (wpAny_setScan_of l ho R hf n ?_))))
 cases hr:List.findIdx? (λe=>knd.is k e.2) es.toList with
 |some j=>
  obtain⟨hj,a2,_⟩:=List.findIdx?_eq_some_iff_getElem.mp hr
  have hk:k∈ks:=r.mpr #[es.toList[j],Fi hj,a2]
  refine Jd (Jd ?_)
  have:=h s.heap (Ψ.SameBut.refl a s.heap) (by rw[Jc hk];exact#[o,es,ep,t,ho,M,R,hf,hb,n,q,S])
  rw[Jo (by simpa using hk)]at this
  exact this
 |none=>
  have hk:k∉ks:=λz=>by
   obtain⟨e,he,C⟩:=r.mp z
   have:=List.findIdx?_eq_none_iff.mp hr e he
   rw[C]at this;cases this
  have O:∀(b:Bool) {p:Θ} {Q':Unit->Θ->Prop},Q' () p->ε (model prog w) A (match b with|true=>rule "set.scan.the-table-gave-way"|false=>pure ()) Q' E p:=
   λb p Q' hq=>by cases b<;>first|exact Jd hq|exact E7 hq
  have f:=layNew_perm t es (knd.hash k) x;have g:=layNew_fits t es (knd.hash k) x;have m:TW w (layNew t es (knd.hash k) x).2.1:=by
   rcases S with z|⟨U,z2⟩
   ·exact .inl z
   ·obtain⟨F,D⟩:=tW z2 es (knd.hash k) x
    exact .inr #[D.trans U,F]
  dsimp only
  generalize hL:layNew t es (knd.hash k) x=L at f g m⊢
  obtain⟨d,t1,wd,a3⟩:=L
  dsimp only at f g m⊢
  rw[Array.toList_push]at f;have u:ElemsOf knd d.toList:=(n.push l N).perm f
  have y:(d.toList.map λe=>kf e.2).Perm (ks++[k]):=by
   refine(f.map _).trans ?_
   rw[JK];refine q.append ?_
   show [kf x].Perm [k]
   rw[X k x l]
  have T:d.size=ks.length+1:=by rw[<- Jp,f.length_eq,Jv,Jp,a1];rfl
  have B:d.size<scanBound:=by rw[T];exact I
  have a0:∀i:SetTable,i.fits d.size=true->TW w i->∀(c:Option Bool->Θ->Prop),(∀h',Ψ.SameBut a s.heap h'->SetK knd kf h' a (ks++[k])->c ↑true {s with heap:=h'})->
    ε (model prog w) A (do
     storeSet a d i
     if(! wd&&i.tooFull)=true then do
       (match(relayAll i d (SetTable.grown d.size)).2.2 with|true=>rule "set.scan.the-table-gave-way"|false=>pure ())
       storeSet a (relayAll i d (SetTable.grown d.size)).1 (relayAll i d (SetTable.grown d.size)).2.1
       pure ↑true
      else pure ↑true) c E s:=by
   intro i f2 w2 c hZ;refine Ja (wpAny_storeSet_of ho R ?_ (fits_of_scanBound B))
   have H:=Zh ho R d i;have Y:=J8 s.heap a (Obj.putSet d i);split
   ·have C:=relayAll_perm i d (SetTable.grown d.size)
    have G:=relayAll_fits i d (SetTable.grown d.size);obtain⟨k1,k2⟩:=wQ i d (SetTable.grown d.size)
    have wr:TW w (relayAll i d (SetTable.grown d.size)).2.1:=by
     rcases w2 with z|⟨U,z2⟩
     ·exact .inl z
     ·exact .inr #[k2.trans U,k1]
    generalize relayAll i d (SetTable.grown d.size)=Rl at C G wr⊢
    obtain⟨J,t3,g2⟩:=Rl
    dsimp only at C G wr⊢
    have P:J.size<scanBound:=by rw[<- Jp,C.length_eq,Jp];exact B
    refine Ja (O _ (Ja (wpAny_storeSet_of H Z ?_ (fits_of_scanBound P))))
    exact Jd (hZ _ (Y.trans (J8 _ a _)) #[_,J,_,t3,Zh H Z J t3,M,Z,G,P,u.perm C,(C.map _).trans y,wr])
   ·exact Jd (hZ _ Y #[_,d,_,i,H,M,Z,f2,B,u,y,w2])
  have W:∀h',Ψ.SameBut a s.heap h'->SetK knd kf h' a (ks++[k])->Q true {s with heap:=h'}:=λh' F D=>by
   have:=h h' F (by rw[Jb hk];exact D)
   rw[Ji (by simpa using hk)]at this
   exact this
  refine Ja (O _ ?_)
  split
  ·refine Ja ?_
   rw[hashByValue_scannable 8 N];refine Jd ?_
   refine a0 _ ?_ ?_ _ λh' F D=>Jd (W h' F D)
   ·split
    ·exact g
    ·exact SetTable.fits_plain_off g
   ·split
    ·exact m
    ·rcases m with z|⟨U,z2⟩
     ·exact .inl z
     ·exact .inr #[U,λz=>nomatch z]
  ·refine Ja (Jd ?_)
   simp only[↓reduceIte];exact a0 _ g m _ λh' F D=>Jd (W h' F D)
end
def Q3{K:Type} [DecidableEq K](a:Μ)(k:K):Μ:=if k∈a then a else a++[k]
def bG{K:Type} [DecidableEq K](val:Nat->K)(i:Nat):Μ:=((List.range i).map val).foldl Q3 []
theorem lZ{K:Type} [DecidableEq K](val:Nat->K)(i:Nat):bG val (i+1)=Q3 (bG val i) (val i):=by
 unfold bG;rw[List.range_succ,JK,List.foldl_append];rfl
theorem pD{K:Type} [DecidableEq K](val:Nat->K):∀i,(bG val i).length<=i
 |0=>Jf _
 |i+1=>by
  rw[lZ];unfold Q3
  have:=pD val i
  split
  ·lia
  ·rw[Jv,Fd];lia
def ddL{K:Type} [DecidableEq K](l:Μ):Μ:=l.foldl Q3 []
theorem ux{K:Type} [DecidableEq K] [Inhabited K](l:Μ):bG (λi=>l.getD i default) l.length=ddL l:=by
 unfold bG ddL;congr 1
 apply List.ext_getElem
 ·simp
 ·intro i h1 a
  simp [Jz,a]
abbrev zV(led:Bool):Obj:={cls:= .type "set",dict:=none,data:= .set (List.toArray []) 0 (.fresh 0 0 led)}
section
variable{prog:Ξ}{w:Ω}{K:Type} [DecidableEq K]{knd:PySem.KeyKind prog w K}{kf:Γ->K}
theorem AL{h:Ψ}{a:Δ}(hg:h.get? a=↑(zV (! zu w))):SetK knd kf h a []:=by
 refine#[_,(List.toArray []),0,_,hg,#[Z,Z,Z],Z,Z,by unfold scanBound;simp,(λe c=>nomatch c),List.Perm.nil,?_]
 cases e:zu w with
 |true=>exact .inl e
 |false=>exact .inr #[Z,λ_=>List.Pairwise.nil]
section
variable{A:Around}{R:Result->Θ->Prop}{I:Δ}{fp wr:Η}{G:Array GenState->Array GenState->Prop}{n:Nat}{P:Nat->Γ->Prop}{St:Nat->Θ->Prop}
theorem BS(B:∀k v,knd.is k v=true->kf v=k)(W:WalksS prog w A.in1 I fp wr G n P St)(S:Δ)(r:S∉fp)
  (val:Nat->K)(p:∀i v,P i v->knd.is (val i) v=true/\v.scannable=true)(hb:n+1<scanBound):
  ∀(k i:Nat) (s:Θ),n-i=k->i<=n->St i s->SetK knd kf s.heap S (bG val i)->
   (∀s',Moved (S::wr) G s s'->SetK knd kf s'.heap S (bG val n)->R (.ok (.ret .none)) s')->
   codeAny (model prog w) A (.builtin "set.update.loop" #[[.ref S,.ref I],[]]) R s:=by
 have q:S∉wr:=λh=>r (W.sub _ h)
 have a:∀b∈wr,b∈S::wr:=λb hb=>JM _ hb
 intro k
 induction k with
 |zero=>
  intro i s hk hi c E u;have y:i=n:=by lia
  subst y;refine Fo PyProof.Rows.F.entry_set_update_loop ?_
  rw[Around.under_plainId PyProof.Rows.F.plain_set_update_loop _]
  show ε _ A.in1 (pyNext (.ref I) >>= _) _ _ s
  refine Ja (W.done s _ _ c λs' m=>?_)
  show ε _ A.in1 (ret Γ.none) _ _ s'
  exact Jd (u s' (m.mono a) (E.at λo e=>m.heap S _ q e))
 |succ k ih=>
  intro i s hk hi c E u;have l:i<n:=by lia
  refine Fo PyProof.Rows.F.entry_set_update_loop ?_
  rw[Around.under_plainId PyProof.Rows.F.plain_set_update_loop _]
  show ε _ A.in1 (pyNext (.ref I) >>= _) _ _ s
  refine Ja (W.item i s _ _ l c λv s' H f m=>?_)
  obtain⟨g,x⟩:=p i v H;have F:SetK knd kf s'.heap S (bG val i):=E.at λo e=>m.heap S _ q e
  show ε _ A.in1 (holding [v] (setAdd S v) >>= _) _ _ s'
  refine Ja (JI ?_)
  unfold setAdd;refine JI (Ja (knd.pyHash (k:=val i) g ?_))
  have:=pD val i
  refine rJ (s:={s' with toks:=s'.toks+1}) B g x F (by lia) λh' t D=>?_
  have C:SetK knd kf h' S (bG val (i+1)):=by rw[lZ];exact D
  refine Jd #[plainId_quiet PyProof.Rows.F.plain_set_update_loop _,ih (i+1) _ (by lia) l (W.frame _ s' _ _ f (Fk _) λb hb o e=>?_) C λz d j=>?_]
  ·rw[t.2 b (λh:b=S=>r (by rw[<- h];exact hb))];exact e
  ·refine u z (Moved.trans W.gtrans ((m.mono a).then_heap (Fk _) λb o hb e=>?_) d) j
   rw[t.2 b (λh:b=S=>hb (by rw[h];exact JB))];exact e
end
variable{A:Around}{E:GP}{s:Θ}
theorem DF(a:Γ){Q₁:GP}(h:Q₁ (.ref s.heap.objs.size) {s with heap:=s.heap.push (zV (! zu w))}):
  codeAny (model prog w) A (.call (.builtin "set.__new__") #[[.type "set",a],[]]) (wants Q₁ E) s:=by
 refine codeAny_of_tree ?_
 show ε _ A.in1 (do checkBuiltinCall "set.__new__" #[[.type "set",a],[]];again (.builtin "set.__new__" #[[.type "set",a],[]])) _ _ s
 refine Ja (E8 (PySem.F.newCall_set_1 a) (Jd #[plainId_quiet PySem.F.plain_set_new _,Fo PySem.F.entry_set_new ?_]))
 rw[Around.under_plainId PySem.F.plain_set_new _];unfold γ.«set.__new__» γ.Frozenset.newClass
 have c:=sub_set_self;obtain⟨f,g,d,tk,e⟩:=s
 dsimp only
 wp_walk
 refine wpAny_askSetting (Jd ?_)
 dsimp only
 simp only[newObj];refine Ja (wpAny_alloc (Jd ?_))
 exact Jd h
def yO(knd:PySem.KeyKind prog w K)(kf:Γ->K)(s:Θ)(ks:Μ)(r:Γ)(a:Θ):Prop:=
 r= .none/\∃h' tk,a={s with heap:=h',toks:=tk}/\SetK knd kf h' s.heap.objs.size ks/\∀b o,b<s.heap.objs.size->s.heap.get? b=↑o->h'.get? b=↑o
theorem CG(g:∀k v,knd.is k v=true->kf v=k){t:Δ}{items:Array Γ}{val:Nat->K}(B:A.handled=none)(r:s.heap.IsList t items)
  (hv:∀i v,items[i]? =↑v->knd.is (val i) v=true/\v.scannable=true)(hb:items.size+1<scanBound):
  ε (model prog w) A.in1.in1 (γ.«set.__init__» #[[.ref s.heap.objs.size,.ref t],[]]) (λf s'=>∃v,f= .done (.ret v)/\yO knd kf s (bG val items.size) v s') E {s with heap:=s.heap.push (zV (! zu w))}:=by
 obtain⟨⟨oc,od,J,C⟩,q,l,n,m⟩:=r;simp only at l m
 subst l m;have j:(s.heap.push (zV (! zu w))).get? t=some #[.type "list",od,.seq items n,C]:=Jl _ q
 have I:=PySem.F.sub_list_set;have G:=PySem.F.sub_list_frozenset;have H:(Γ.type "list"==Γ.type "dict")=false:=by decide
 have p:(s.heap.push (zV (! zu w))).IsList t items:=#[_,j,Z,n,Z]
 have D:(s.heap.push (zV (! zu w))).get? s.heap.objs.size=↑(zV (! zu w)):=Jq _ Z
 unfold γ.«set.__init__» noKeywords γ.Frozenset.updateFrom
 generalize hPI:pyIter=PI
 wp_walk
 subst hPI;refine FO p (Ja (wpAny_runValue ?_))
 have lt:t<s.heap.objs.size:=Jj q
 have sz:(s.heap.push (zV (! zu w))).objs.size=s.heap.objs.size+1:=JX ..
 have F:A.in1.in1.in1.handled=none:=by simp [B]
 have y:t≠(s.heap.push (zV (! zu w))).objs.size:=by rw[sz];exact Jk (EY lt)
 have u:s.heap.objs.size∉[(s.heap.push (zV (! zu w))).objs.size,t]:=by
  rw[sz];simp only[Jm,JE,JF,not_or]
  exact#[Jk (E2 _),EV lt]
 refine BS g ((Walks.list F _ t y items).toS) s.heap.objs.size u val hv hb items.size 0 _ (by lia) (Jy _) #[#[_,Jq _ Z,Z,Z],p.push _] (AL (Jl _ D)) λs' mv c=>?_
 obtain⟨h',x,z,d,h⟩:=s'
 obtain rfl:x=s.gens:=mv.gens
 obtain rfl:z=s.drawn:=mv.drawn
 obtain rfl:h=s.os:=mv.os
 show ε _ _ _ _ _ _
 refine Jd ?_
 show ε _ _ (ret Γ.none) _ _ _
 refine Jd #[_,Z,Z,h',d,Z,c,λb o a e=>mv.heap b o ?_ (Jl _ (Jl _ e))]
 rw[sz];simp only[Jm,JE,JF,not_or]
 exact#[Jk a,Jk (EY a)]
theorem ug(l:∀k v,knd.is k v=true->kf v=k){t:Δ}{items:Array Γ}{val:Nat->K}{Q:GP}(B:A.handled=none)(x:s.heap.IsList t items)
  (hv:∀i v,items[i]? =↑v->knd.is (val i) v=true/\v.scannable=true)(hb:items.size+1<scanBound)
  (h:∀(h':Ψ) (tk:Nat),SetK knd kf h' s.heap.objs.size (bG val items.size)->(∀b o,s.heap.get? b=↑o->h'.get? b=↑o)->Q (.ref s.heap.objs.size) {s with heap:=h',toks:=tk}):
  ε (model prog w) A (call (.type "set") [.ref t]) Q E s:=by
 obtain⟨c,tl,q⟩:=PySem.F.called_set.mro;have L:=PySem.F.called_set.made;have F:=PySem.F.called_set.sub;have H:=PySem.F.called_set.notType;have G:=PySem.F.called_set.canCreate;have D:=PySem.F.typeCall_set_1 (.ref t);refine wpAny_call (codeAny_of_tree ?_)
 show ε _ _ (callAny (.type "set") _) _ _ _
 refine Jd #[Code.quiet_builtin _ nofun,Fo PySem.F.entry_type_call ?_]
 rw[Around.under_plain (weight_type_call_type "set" [.ref t] []) Z]
 repeat (any_goals (first|assumption|wp_step))
 refine FE (DF (.ref t) (E:=E) (Q₁:=λg f=>g= .ref s.heap.objs.size/\f={s with heap:=s.heap.push (zV (! zu w))}) #[Z,Z]) λr f p=>?_
 cases r with
 |error e=>exact p
 |ok fl=>
  cases fl with
  |ret g=>
   obtain⟨rfl,rfl⟩:=p;have C:Θ.TypeIs {s with heap:=s.heap.push (zV (! zu w))} (.ref s.heap.objs.size) "set":=#[_,Jq _ Z,Z]
   have I:=PySem.F.called_set.init.lookup;have J:=PySem.F.called_set.init.bind (.ref s.heap.objs.size)
   repeat (any_goals (first|assumption|wp_step))
   refine FE (codeAny_call_builtin (R:=wants (yO knd kf s (bG val items.size)) E) PySem.F.called_set.init.plain PySem.F.entry_set_init (check_set_init_1 C (Jw (CG l B x hv hb) (λy s' ⟨v,e,d⟩=>by subst e;exact d) λ_ _ z=>z))) λj u a=>?_
   cases j with
   |error e=>exact a
   |ok fl₂=>
    cases fl₂ with
    |ret r=>
     obtain⟨rfl,h',tk,rfl,n,m⟩:=a
     repeat (any_goals (first|assumption|wp_step))
     exact h _ _ n λb o e=>m b o (Jj e) e
    |_=>exact a.elim
  |_=>exact p.elim
end
theorem bK{a:Type}:∀(l:List a) (i:Nat) (x:a),l[i]? =↑x->(x::l.eraseIdx i).Perm l
 | [],i,x,h=>by simp at h
 |y::l,0,x,h=>by simp at h;subst h;exact List.Perm.refl _
 |y::l,i+1,x,h=>by
  have c:=bK l i x (by simpa using h)
  rw[List.eraseIdx_cons_succ]
  exact(List.Perm.swap y x _).trans (c.cons y)
theorem pM{c:Type}(next:Nat->Nat):∀(f k:Nat) (l:List c) (out:Array c),l.length=f->(pickOrder.go next f k l out).toList.Perm (out.toList++l)
 |0,k,l,out,h=>by
  have e:l=[]:=List.length_eq_zero_iff.mp h
  subst e;unfold pickOrder.go;simp
 |f+1,k,l,out,h=>by
  unfold pickOrder.go;have a:next k%l.length<l.length:=Nat.mod_lt _ (by lia)
  have d:=Jg a;rw[d]
  dsimp only
  have g:=bK l _ _ d;refine(pM next f (k+1) _ _ (by rw[List.length_eraseIdx,Jc a];lia)).trans ?_
  rw[Array.toList_push,Fh];exact List.Perm.append_left _ g
theorem jw{a:Type}(next:Nat->Nat)(xs:Array a):(pickOrder next xs).toList.Perm xs.toList:=by
 have:=pM next xs.size 0 xs.toList (List.toArray []) (by simp)
 simpa [pickOrder]using this
section
variable{M:Model}{A:Around}{E:GP}
theorem mP{s:Θ}{a:Source}{n:Nat}{Q:Nat->Θ->Prop}(hn:n≠0)(h:∀i,i<n->Q i {s with drawn:=s.drawn.bump a}):ε M A (choose a n) Q E s:=
 λ_ _ _=>#[hn,h _ (Nat.mod_lt _ (Nat.pos_of_ne_zero hn))]
theorem gO{a:Type}:∀(n:Nat) (xs:List a) {s:Θ} {Q:List a->Θ->Prop},xs.length<=n->(∀ys d,ys.Perm xs->Q ys {s with drawn:=d})->ε M A (drawOrder n xs) Q E s
 |0,xs,s,Q,hl,h=>by
  have e:xs=[]:=List.length_eq_zero_iff.mp (by lia)
  subst e;exact Jd (h [] s.drawn (List.Perm.refl _))
 |n+1,[],s,Q,hl,h=>Jd (h [] s.drawn (List.Perm.refl _))
 |n+1,x::xs,s,Q,hl,h=>by
  show ε M A (do
   let i <- choose .order (x::xs).length
   match(x::xs)[i]? with
   |some y=>return y::(<- drawOrder n ((x::xs).eraseIdx i))
   |none=>unsupported "internal:drawOrder") Q E s
  refine Ja (mP (by simp) λi hi=>?_)
  have c:=Jg hi;rw[c]
  dsimp only
  refine Ja (gO n _ (by rw[List.length_eraseIdx,Jc hi];simp at hl⊢;lia) λys d f=>Jd (h _ d ?_))
  exact(f.cons _).trans (bK _ _ _ c)
end
abbrev lu(f:Γ)(i:Nat)(a:Δ)(n ep:Nat):Obj:={cls:= .type "set_iterator",data:= .fields (List.toArray [f,.int i 0,.ref a,.int n 0,.int ep 0])}
def Way(w:Ω)(a T:Δ)(es:Array (Int×Γ))(ep:Nat)(t:SetTable)(vs:Ζ)(i:Nat)(f:Γ)(h:Ψ):Prop:=
 (zu w=true/\(∃z:Nat,f= .int z 0)/\vs=(pickOrder (w.params.setOrder a ep) es).toList.map (·.2))\/
 (zu w=false/\(! t.plain&&decide (es.size>1))=false/\t.led=true/\Rs t.place/\(∃z:Nat,f= .int z 0/\SetTable.below t.place z=i)/\vs=es.toList.map (·.2))\/
 (∃ps:Κ,f= .ref T/\h.IsTuple T (ps.map λp:Nat=>Γ.int (p:Int) 0).toArray/\vs.map some=ps.map λp=>es[p]?.map (·.2))
theorem Way.keep{w:Ω}{a T:Δ}{es:Array (Int×Γ)}{ep:Nat}{t:SetTable}{vs:Ζ}{i:Nat}{f:Γ}{h h':Ψ}(x:Way w a T es ep t vs i f h)
  (e:∀o,h.get? T=↑o->h'.get? T=↑o):Way w a T es ep t vs i f h':=by
 rcases x with x|x|⟨ps,g,⟨o,c,d⟩,j⟩
 ·exact .inl x
 ·exact .inr (.inl x)
 ·exact .inr (.inr #[ps,g,#[o,e _ c,d],j])
theorem rA(a:Δ)(c d ep:Nat):setNext a c d ep=(do
 let(es,ec,t) <- setState a
 if <- setsByText then
  if ec != ep then unsupported "set_iterator.__next__:elements-changed"
  return ((<- setWalk a)[d]?).map λe=>(e.2,c)
 if ! t.plain&&es.size>1 then unsupported "set_iterator.__next__:the-table-is-plain-no-more"
 (do if ! t.led&& ! es.isEmpty then unsupported "set:maker-not-led":Sem Unit)
 let i:=SetTable.below t.place c
 return match es[i]?,t.place[i]? with
  |some (_,x),↑j=>↑(x,j+1)
  |_,_=>none):=Z
section
variable{prog:Ξ}{w:Ω}{A:Around}{E:GP}{s:Θ}
theorem Qz{Q:Bool->Θ->Prop}(h:Q (zu w) s):ε (model prog w) A setsByText Q E s:=
 Ja (wpAny_askSetting (Jd h))
variable{a T:Δ}{o:Obj}{es:Array (Int×Γ)}{ep:Nat}{t:SetTable}{vs:Ζ}{i:Nat}
theorem pN{Q:Option (Γ×Nat)->Θ->Prop}(ho:s.heap.get? a=↑o)(hd:o.data= .set es ep t)(hf:t.fits es.size=true){z:Nat}(W:Way w a T es ep t vs i (.int z 0) s.heap)
  (h:∀r,r.map (·.1)=vs[i]? ->(∀f:Nat,r.map (·.2)=↑f->Way w a T es ep t vs (i+1) (.int f 0) s.heap)->Q r s):ε (model prog w) A (setNext a z i ep) Q E s:=by
 rw[rA];refine Ja (wpAny_setState_of ho hd hf ?_)
 dsimp only
 refine Ja (Qz ?_)
 rcases W with⟨d,⟨q,l⟩,j⟩|⟨d,l,j,m,⟨q,u,C⟩,v⟩|⟨ps,d,_⟩
 ·rw[d,Jc Z]
  simp only[bne_self_eq_false,Bool.false_eq_true,JD];refine Ja ?_
  unfold setWalk;refine Ja (wpAny_setState_of ho hd hf ?_)
  dsimp only
  refine Ja (Qz ?_)
  rw[d,Jc Z];refine Ja (wpAny_askSetting (Jd (Jd (h _ ?_ λf _=> .inl #[d,#[f,Z],j]))))
  rw[j,Jn,Option.map_map,Array.getElem?_toList];rfl
 ·rw[d,Jb ⋯,l]
  simp only[Bool.false_eq_true,JD,j,Bool.not_true,EW];refine Ja (Jd ?_)
  have B:z=q:=by injection u with u;lia
  subst B;rw[C];have D:t.place.size=es.size:=by
   simp only[SetTable.fits,JC,JW]at hf;exact hf.1
  refine Jd (h _ ?_ λf g=> .inr (.inl #[d,l,j,m,#[f,Z,?_],v]))
  ·rw[v,Jn,Array.getElem?_toList]
   by_cases hi:i<es.size
   ·rw[getElem?_pos es i hi,getElem?_pos t.place i (by lia)];rfl
   ·rw[Array.getElem?_eq_none (by lia)];rfl
  ·by_cases hi:i<es.size
   ·have e:i<t.place.size:=by lia
    rw[getElem?_pos es i hi,getElem?_pos t.place i e]at g;simp only[Option.map_some,Option.some.injEq]at g;subst g;obtain⟨G,y,x⟩:=bP m (t.place[i]+1)
    generalize SetTable.below t.place (t.place[i]+1)=p at *
    have I:¬p<=i:=λc=>by have:=x i e c;lia
    have F:¬i+2<=p:=λc=>by
     have n:i+1<t.place.size:=by lia
     have J:=y (i+1) n (by lia)
     have H:=m.at e n (by lia)
     lia
    lia
   ·rw[Array.getElem?_eq_none (by lia)]at g;simp at g
 ·cases d
end
theorem slot_si_next:Slot "set_iterator" "__next__" "set_iterator.__next__":=
 .of (owner:="set_iterator") (n:="__next__") (by rw[FX,FY];kernel_rfl) nofun nofun nofun
  (by first|exact .inl nofun|exact .inr nofun) (by rw[FD];kernel_rfl)
theorem cD:entryFor table "set_iterator.__next__"=some γ.«set_iterator.__next__»:=entryFor_of_tree (by kernel_rfl)
theorem da(a:Γ):argsOk "set_iterator.__next__" #[[a],[]]:=by unfold argsOk;kernel_rfl
theorem c9:Slot "set_iterator" "__iter__" "set_iterator.__iter__":=
 .of (owner:="set_iterator") (n:="__iter__") (by rw[FX,FY];kernel_rfl) nofun nofun nofun
  (by first|exact .inl nofun|exact .inr nofun) (by rw[FD];kernel_rfl)
theorem jI:entryFor table "set_iterator.__iter__"=some γ.«dict_keyiterator.__iter__»:=
 entryFor_alias (id':="dict_keyiterator.__iter__") (by kernel_rfl) Z nofun (by kernel_rfl)
theorem j7(a:Γ):argsOk "set_iterator.__iter__" #[[a],[]]:=by unfold argsOk;kernel_rfl
theorem iC:entryFor table "set.__iter__"=some γ.«frozenset.__iter__»:=
 entryFor_alias (id':="frozenset.__iter__") (by kernel_rfl) Z nofun (by kernel_rfl)
section
variable{prog:Ξ}{w:Ω}{A:Around}{E:GP}{s:Θ}
variable{a T:Δ}{o:Obj}{es:Array (Int×Γ)}{ep:Nat}{t:SetTable}{vs:Ζ}{i:Nat}{f:Γ}
theorem eW{h:Ψ}{I:Δ}{o:Obj}{xs:Array Γ}(ho:h.get? I=↑o)(hd:o.data= .fields xs)(k:Nat)(x:Γ):
  (h.update I (Obj.mapFields (·.setIfInBounds k x))).get? I=some {o with data:= .fields (xs.setIfInBounds k x)}:=by
 rw[FB _ ho (Gm (FH hd _))];obtain⟨c,d,a,e⟩:=o
 dsimp only at hd
 subst hd;rfl
theorem AJ{I:Δ}{v:Γ}{Q:Ο->Θ->Prop}(d:s.heap.get? I=↑(lu f i a es.size ep))(ho:s.heap.get? a=↑o)(hd:o.data= .set es ep t)(hf:t.fits es.size=true)
  (W:Way w a T es ep t vs i f s.heap)(G:T≠I)(hv:vs[i]? =↑v)
  (u:∀B h',Ψ.SameBut I s.heap h'->h'.get? I=↑(lu B (i+1) a es.size ep)->Way w a T es ep t vs (i+1) B h'->Q ↑v {s with heap:=h'}):
  ε (model prog w) A (pyNext (.ref I)) Q E s:=by
 have C:s.TypeIs (.ref I) "set_iterator":=#[_,d,Z]
 unfold pyNext;refine Ja (FW (wpAny_callSpecial?_slot (name:=Str.ofString "__next__") C slot_si_next (J5 slot_si_next C cD ?_ (da _))))
 unfold γ.«set_iterator.__next__»
 refine Ja (Jd (Ja (wpAny_fieldsOf d Z ?_)))
 dsimp only
 refine Ja ?_
 unfold setEntries;refine Ja (wpAny_setState_of ho hd hf (Jd ?_))
 dsimp only
 simp only[bne_self_eq_false,Bool.false_eq_true,JD];have keep:∀(k:Nat) (x:Γ),∀(h:Ψ),∀o,h.get? T=↑o->(h.update I (Obj.mapFields (·.setIfInBounds k x))).get? T=↑o:=λk x h o e=>by
  rw[FT _ _ (Ne.symm G)];exact e
 have c:∀(E':GP) (z:Nat),f= .int z 0->ε (model prog w) A.in1 (do
   match <- setNext a z i ep with
   |some (x,next)=>
    setField (.ref I) 0 (rawInt next)
    setField (.ref I) 1 (rawInt ((i:Int)+1))
    ret x
   |none=>setField (.ref I) 2 .none;raiseNew (<- newExc (.type "StopIteration") [])) (λc s'=>∃v,c= .done (.ret v)/\(ε (model prog w) A (pure ↑v) Q E s')) E' s:=by
  intro E' z L;subst L;refine Ja (pN ho hd hf W λr h1 l=>?_)
  rw[hv]at h1;cases r with
  |none=>cases h1
  |some p=>
   obtain⟨x,j⟩:=p;simp only[Option.map_some,Option.some.injEq]at h1;subst h1
   dsimp only
   refine Ja (Ff d Z (by simp) ?_)
   have g:=eW d Z 0 (rawInt (j:Int))
   refine Ja (Ff g Z (by simp) ?_)
   have K:=eW g Z 1 (rawInt ((i:Int)+1))
   refine Jd #[_,Z,Jd (u (.int j 0) _ ((J8 ..).trans (J8 ..)) ?_ ((l j Z).keep λo e=>keep _ _ _ _ (keep _ _ _ _ e)))]
   rw[K];simp [rawInt]
 rcases id W with⟨_,⟨z,rfl⟩,_⟩|⟨_,_,_,_,⟨z,rfl,_⟩,_⟩|⟨ps,rfl,⟨M,y,H,n,q⟩,m⟩
 ·exact c _ z Z
 ·exact c _ z Z
 ·dsimp only
  refine Ja (Gk y q ?_)
  dsimp only
  have h1:(vs.map some)[i]? =↑(↑v):=by rw[Jn,hv];rfl
  rw[m,Jn]at h1;obtain⟨p,F,l⟩:=JZ.mp h1;obtain⟨e,D,N⟩:=JZ.mp l;have J:((ps.map λp:Nat=>Γ.int (p:Int) 0).toArray)[((i:Nat):Int).toNat]? =↑(.int (p:Int) 0):=by
   rw[Fe,List.getElem?_toArray,Jn,F];rfl
  rw[J]
  dsimp only
  refine Ja ?_
  unfold setNextDrawn;refine Ja (wpAny_setState_of ho hd hf ?_)
  dsimp only
  rw[Fe,Fe,D];simp only[bne_self_eq_false,Bool.false_eq_true,JD];refine Jd (Ja (Ff d Z (by simp) ?_))
  have g:=eW d Z 1 (rawInt ((i:Int)+1))
  refine Jd #[_,Z,Jd ?_]
  rw[N];refine u (.ref T) _ (J8 ..) ?_ (.inr (.inr #[ps,Z,#[M,keep _ _ _ _ y,H,n,q],m]))
  rw[g];simp [rawInt]
theorem ue{B:Around}{s:Θ}{Q:Ο->Θ->Prop}(f:B.handled=none)(h:∀h',(∀b o,s.heap.get? b=↑o->h'.get? b=↑o)->Q none {s with heap:=h'}):
  ε (model prog w) B.in1 (newExc (.type "StopIteration") [] >>= raiseNew) (λ(d:Fin) s'=>∃v,d= .done (.ret v)/\ε (model prog w) B (pure ↑v) Q E s')
   (λe s'=>ε (model prog w) B (do
     let c <- isInstance e (Γ.type "StopIteration")
     if c=true then pure none else throw e) Q E s') s:=by
 refine Ja ?_
 simp only[newExc,newTuple];refine Ja (J3 ?_ (by size_fits))
 refine Ja (m:=firstArgMember _ _) (E8 (a:=Γ.none) (by first|rfl|(simp only[firstArgMember];rfl)) ?_)
 refine J3 ?_ (by size_fits)
 simp only[raiseNew];refine Ja (wpAny_handled ?_)
 rw[show B.in1.handled=none from f]
 refine Ja (Jd (wpAny_throw ?_))
 refine Ja (FI (T:="StopIteration") (b:=true) #[_,Jq _ Z,Z] isSubtype_stop ?_)
 exact Jd (h _ λb o e=>Jl _ (Jl _ e))
theorem CP{I:Δ}{Q:Ο->Θ->Prop}(l:A.handled=none)(j:s.heap.get? I=↑(lu f i a es.size ep))(ho:s.heap.get? a=↑o)(hd:o.data= .set es ep t)(hf:t.fits es.size=true)
  (W:Way w a T es ep t vs i f s.heap)(hv:vs[i]? =none)
  (q:∀h',(∀b o,b≠I->s.heap.get? b=↑o->h'.get? b=↑o)->Q none {s with heap:=h'}):
  ε (model prog w) A (pyNext (.ref I)) Q E s:=by
 have m:s.TypeIs (.ref I) "set_iterator":=#[_,j,Z]
 unfold pyNext;refine Ja (FW (wpAny_callSpecial?_slot (name:=Str.ofString "__next__") m slot_si_next (J5 slot_si_next m cD ?_ (da _))))
 unfold γ.«set_iterator.__next__»
 refine Ja (Jd (Ja (wpAny_fieldsOf j Z ?_)))
 dsimp only
 refine Ja ?_
 unfold setEntries;refine Ja (wpAny_setState_of ho hd hf (Jd ?_))
 dsimp only
 simp only[bne_self_eq_false,Bool.false_eq_true,JD];have g:∀(k:Nat) (x:Γ) (h:Ψ) (b:Δ) (o:Obj),b≠I->h.get? b=↑o->(h.update I (Obj.mapFields (·.setIfInBounds k x))).get? b=↑o:=λk x h b o n e=>by
  rw[FT _ _ (Ne.symm n)];exact e
 have d:∀(z:Nat),f= .int z 0->ε (model prog w) A.in1 (do
   match <- setNext a z i ep with
   |some (x,next)=>
    setField (.ref I) 0 (rawInt next)
    setField (.ref I) 1 (rawInt ((i:Int)+1))
    ret x
   | none=>setField (.ref I) 2 .none;raiseNew (<- newExc (.type "StopIteration") [])) (λd s'=>∃v,d= .done (.ret v)/\(ε (model prog w) A (pure ↑v) Q E s')) (λe s'=>ε (model prog w) A (do
     let c <- isInstance e (Γ.type "StopIteration")
     if c=true then pure none else throw e) Q E s') s:=by
  intro z u;subst u;refine Ja (pN ho hd hf W λr h1 J=>?_)
  rw[hv]at h1;cases r with
  |some p=>cases h1
  |none=>
   dsimp only
   refine Ja (Ff j Z (by simp) ?_)
   exact ue l λh' hk=>q h' λb o n e=>hk b o (g _ _ _ _ _ n e)
 rcases id W with⟨_,⟨z,rfl⟩,_⟩|⟨_,_,_,_,⟨z,rfl,_⟩,_⟩|⟨ps,rfl,⟨G,D,H,n,B⟩,C⟩
 ·exact d z Z
 ·exact d z Z
 ·dsimp only
  refine Ja (Gk D B ?_)
  dsimp only
  have h1:(vs.map some)[i]? =none:=by rw[Jn,hv];rfl
  rw[C,Jn]at h1;have F:((ps.map λp:Nat=>Γ.int (p:Int) 0).toArray)[((i:Nat):Int).toNat]? =none:=by
   rw[Fe,List.getElem?_toArray,Jn];cases hp:ps[i]? with
   |none=>rfl
   |some p=>rw[hp]at h1;cases h1
  rw[F]
  dsimp only
  refine Ja (Ff j Z (by simp) ?_)
  have y:=eW j Z 0 (rawInt 0);refine Ja (Ff y Z (by simp) ?_)
  exact ue l λh' hk=>q h' λb o n e=>hk b o (g _ _ _ _ _ n (g _ _ _ _ _ n e))
theorem xx{I:Δ}(u:A.handled=none)(x:T≠I)(B:a≠I)(hl:vs.length=es.size):Walks prog w A I [I,a,T] [I] es.size (λi v=>vs[i]? =↑v)
  (λi h=>(∃o,h.get? a=↑o/\o.data= .set es ep t/\t.fits es.size=true)/\∃f,h.get? I=↑(lu f i a es.size ep)/\Way w a T es ep t vs i f h) where
 sub:=λb j=>by simp at j;simp [j]
 frame:=λi h h' ⟨⟨o,g,l⟩,f,d,n⟩ hk=>#[#[o,hk a (by simp) o g,l],f,hk I (by simp) _ d,n.keep λo e=>hk T (by simp) o e]
 item:=λi s Q E hi ⟨⟨o,g,l,c⟩,f,d,n⟩ m=>by
  have r:vs[i]? =some vs[i]:=Jg (by omega)
  refine AJ d g l c n x r λy h' q h1 z=>m _ h' s.toks r #[#[o,by rw[q.2 a B];exact g,l,c],y,h1,z] λb o j e=>?_
  rw[q.2 b (λh=>j (by simp [h]))];exact e
 done:=λs Q E ⟨⟨o,g,l,c⟩,f,d,n⟩ m=>CP u d g l c n (GB (by omega)) λh' hk=>m h' s.toks λb o j e=>hk b o (λh=>j (by simp [h])) e
 self:=λi s Q E ⟨_,f,d,_⟩ m=>by
  have p:s.TypeIs (.ref I) "set_iterator":=#[_,d,Z]
  refine wpAny_pyIter_slot p c9 (J5 c9 p jI ?_ (j7 _))
  show ε _ _ (ret (.ref I)) _ _ s
  exact Jd #[_,Z,"set_iterator",_,p,slot_si_next.lookup,m]
end
section
variable{prog:Ξ}{w:Ω}{A:Around}{E:GP}{s:Θ}
variable{a:Δ}{o:Obj}{es:Array (Int×Γ)}{ep:Nat}{t:SetTable}
theorem sR{xs:Array Nat}(h:Rs xs):SetTable.below xs 0=0:=by
 obtain⟨h1,a,c⟩:=bP h 0;generalize SetTable.below xs 0=p at *
 cases p with
 |zero=>rfl
 |succ p=>exact absurd (a 0 (by lia) (by lia)) (Nat.not_lt_zero _)
theorem Rs.few{xs:Array Nat}(h:xs.size<=1):Rs xs:=by
 unfold Rs;rw[List.pairwise_iff_getElem];intro i j hi a c;simp at hi a
 lia
theorem pQ{ps:Κ}(hp:ps.Perm (List.range es.size)):∃vs:Ζ,vs.map some=(ps.map λp=>es[p]?.map (·.2))/\vs.Perm (es.toList.map (·.2)):=by
 refine#[ps.map λp=>(es[p]?.map (·.2)).getD .none,?_,?_]
 ·rw[ET]
  refine FJ λp h=>?_
  have a:p<es.size:=J1.mp (hp.mem_iff.mp h)
  show ↑((es[p]?.map (·.2)).getD .none)=_
  rw[getElem?_pos es p a];rfl
 ·refine(hp.map _).trans (List.Perm.of_eq ?_)
  apply List.ext_getElem
  ·simp
  ·intro i h1 c
   simp at h1
   simp [h1]
theorem C7{Q:GP}(ho:s.heap.get? a=↑o)(n:o.ExactSet)(hd:o.data= .set es ep t)(hf:t.fits es.size=true)(hb:es.size<scanBound)(y:TW w t)
  (r:∀(h':Ψ) (d:Drawn) (I T:Δ) (vs:Ζ) (f:Γ),s.heap.objs.size<=I->T≠I->a≠I->(T=a\/s.heap.objs.size<=T)->(∀b o,s.heap.get? b=↑o->h'.get? b=↑o)->vs.Perm (es.toList.map (·.2))->
   h'.get? I=↑(lu f 0 a es.size ep)->Way w a T es ep t vs 0 f h'->Q (.ref I) {s with heap:=h',drawn:=d}):
  ε (model prog w) A (pyIter (.ref a)) Q E s:=by
 have q:s.TypeIs (.ref a) "set":=#[o,ho,n.1]
 have h:a<s.heap.objs.size:=Jj ho
 refine wpAny_pyIter_slot q PySem.F.slot_set_iter (J5 PySem.F.slot_set_iter q iC ?_ (PySem.F.args_set_iter_1 _))
 unfold γ.«frozenset.__iter__»
 refine Ja ?_
 show ε _ _ (pure a) _ _ _
 refine Jd (Ja ?_)
 unfold γ.Frozenset.sizeOf setEntries;refine Ja (Ja (wpAny_setState_of ho hd hf (Jd (Jd ?_))))
 refine Ja ?_
 unfold setDrawn;refine Ja (wpAny_setState_of ho hd hf ?_)
 dsimp only
 refine Ja (Qz (Jd ?_))
 show ε _ _ (if(! zu w&&(! t.plain&&decide (es.size>1)))=true then _ else _) _ _ _
 by_cases g:(! zu w&&(! t.plain&&decide (es.size>1)))=true
 ·rw[Jc g]
  refine Ja (gO _ _ (by simp) λps d l=>?_)
  obtain⟨vs,C,F⟩:=pQ l;refine Ja (wpAny_newTuple (items:=ps.map λi:Nat=>rawInt (i:Int)) ?_ (by rw[Je,l.length_eq,List.length_range];exact fits_of_scanBound hb))
  have p:(s.heap.push {cls:= .type "tuple",data:= .seq (ps.map λi:Nat=>rawInt (i:Int)).toArray}).get? s.heap.objs.size=some {cls:= .type "tuple",data:= .seq (ps.map λi:Nat=>rawInt (i:Int)).toArray}:=Jq _ Z
  have m:=Jl {cls:= .type "tuple",data:= .seq (ps.map λi:Nat=>rawInt (i:Int)).toArray} ho
  unfold setEpoch;refine Ja (Ja (wpAny_setState_of (s:={s with heap:=s.heap.push {cls:= .type "tuple",data:= .seq (ps.map λi:Nat=>rawInt (i:Int)).toArray},drawn:=d}) m hd hf (Jd ?_)))
  unfold newFields;refine Ja (J3 (Jd #[_,Z,"set_iterator",_,#[_,Jq _ Z,Z],slot_si_next.lookup,?_]))
  refine r _ d _ s.heap.objs.size vs (.ref s.heap.objs.size) (by rw[JX];exact Fk _) (by rw[JX];exact Jk (E2 _)) (by rw[JX];exact Jk (EY h)) (.inr (Jf _))
   (λb o e=>Jl _ (Jl _ e)) F (Jq _ Z) (.inr (.inr #[ps,Z,?_,C]))
  exact#[_,Jl _ p,Z,0,Z]
 ·rw[Jb g]
  refine Ja (Jd ?_)
  unfold setEpoch;refine Ja (Ja (wpAny_setState_of ho hd hf (Jd ?_)))
  unfold newFields;refine Ja (J3 (Jd #[_,Z,"set_iterator",_,#[_,Jq _ Z,Z],slot_si_next.lookup,?_]))
  have u:∀vs:Ζ,vs.Perm (es.toList.map (·.2))->Way w a a es ep t vs 0 (.int (0:Nat) 0) (s.heap.push (lu (.int (0:Nat) 0) 0 a es.size ep))->Q (.ref s.heap.objs.size) {s with heap:=s.heap.push (lu (.int (0:Nat) 0) 0 a es.size ep)}:=λvs B x=>
   r _ s.drawn _ a vs (.int (0:Nat) 0) (Jf _) (Jk h) (Jk h) (.inl Z) (λb o e=>Jl _ e) B (Jq _ Z) x
  cases hbt:zu w with
  |true=>exact u _ ((jw _ es).map _) (.inl #[hbt,#[0,Z],Z])
  |false=>
   rw[hbt]at g;have c:(! t.plain&&decide (es.size>1))=false:=by simpa using g
   rcases y with z|⟨v,D⟩
   ·rw[hbt]at z;cases z
   ·have j:Rs t.place:=by
     cases l:t.plain with
     |true=>exact D l
     |false=>
      rw[l]at c;refine Rs.few ?_
      simp only[SetTable.fits,JC,JW]at hf;simp at c
      lia
    exact u _ (List.Perm.refl _) (.inr (.inl #[hbt,c,v,j,#[0,Z,sR j],Z]))
theorem wH{Q:Bool->Θ->Prop}(e:s.TypeIs (.ref a) "set")(h:Q false s):ε (model prog w) A (γ.List.listLengthHint (.ref a)) Q E s:=by
 unfold γ.List.listLengthHint;refine Ja (FK e PySem.F.slot_set_len.lookup ?_)
 generalize hid:("set.__len__":String)=d
 wp_delta
 rw[show splitId d=↑("set","__len__")from by subst hid;decide +kernel]
 subst hid;refine Ja (FI (T:="set") (b:=true) e (by rw[FD];kernel_rfl) ?_)
 refine wpAny_ite_split (λc=>absurd c ⋯) (λ_=>?_)
 refine wpAny_ite_split (λ_=>?_) (λc=>absurd nofun c)
 exact Ja (FR e (Jd h))
theorem ja{Q:Ζ->Θ->Prop}(hh:A.handled=none)(ho:s.heap.get? a=↑o)(r:o.ExactSet)(hd:o.data= .set es ep t)(hf:t.fits es.size=true)(hb:es.size<scanBound)(tw:TW w t)
  (h:∀(vs:Ζ) (h':Ψ) (tk:Nat) (d:Drawn),(∀b o,s.heap.get? b=↑o->h'.get? b=↑o)->s.heap.objs.size<=h'.objs.size->vs.Perm (es.toList.map (·.2))->Q vs {s with heap:=h',toks:=tk,drawn:=d}):
  ε (model prog w) A (collect (.ref a)) Q E s:=by
 unfold collect;refine Ja (wpAny_runValue (Fo entry_proto_collect' ?_))
 show ε _ _ (do again (.builtin "list.__iadd__" #[[<- newList [],.ref a],[]])) _ _ s
 refine Ja (wpAny_newList (Jd #[Code.quiet_builtin _ nofun,Fo entry_list_iadd' ?_]))
 rw[Around.under_plainId PySem.F.plain_list_iadd _];have m:a<s.heap.objs.size:=Jj ho
 have L:(s.heap.push (seqObj "list" (List.toArray []) 0)).get? s.heap.objs.size=↑(seqObj "list" (List.toArray []) 0):=Jq _ Z
 have n:=Jl (seqObj "list" (List.toArray []) 0) ho
 show ε _ _ (γ.List.listExtendWith (.ref s.heap.objs.size) (.ref a) (.ref s.heap.objs.size)) _ _ {s with heap:=s.heap.push (seqObj "list" (List.toArray []) 0)}
 unfold γ.List.listExtendWith;have H:Θ.TypeIs {s with heap:=s.heap.push (seqObj "list" (List.toArray []) 0)} (.ref a) "set":=#[o,n,r.1]
 refine Ja (FR H ?_)
 have e1:γ.List.listSameRef (.ref s.heap.objs.size) (.ref a)=false:=by
  simp [γ.List.listSameRef,EV m]
 have e2:(Γ.type "set"==Γ.type "list")=false:=by decide
 have e3:(Γ.type "set"==Γ.type "tuple")=false:=by decide
 simp only[e1,e2,e3,Bool.or_false,Bool.false_eq_true,JD];refine Ja (C7 n r hd hf hb tw λh1 d I T vs f F b2 Y G D S b7 b8=>?_)
 have sz:(s.heap.push (seqObj "list" (List.toArray []) 0)).objs.size=s.heap.objs.size+1:=JX ..
 dsimp only at F G
 rw[sz]at F G;have N:Θ.TypeIs {s with heap:=h1,drawn:=d} (.ref a) "set":=#[o,D _ _ n,r.1]
 refine Ja (JI (wH N ?_))
 have p:=D _ _ L;have M:vs.length=es.size:=by rw[S.length_eq,Je,Jp]
 have W:=xx (prog:=prog) (w:=w) (A:=A.in1) (ep:=ep) (t:=t) (by simp [hh]) b2 Y M
 have nL:s.heap.objs.size∉[I,a,T]:=by
  simp only[Jm,JE,JF,not_or];refine#[by lia,EV m,?_]
  rcases G with z|z
  ·rw[z];exact EV m
  ·lia
 have y:∀(h:Ψ) (i:Nat),(∀b o,b≠s.heap.objs.size->h1.get? b=↑o->h.get? b=↑o)->h.get? s.heap.objs.size=some {cls:= .type "list",data:= .seq (List.toArray []) i}->
   ∀R:Result->Θ->Prop,(∀(g:Array Γ) (h':Ψ) (tk c':Nat),g.toList=vs->(∀b o,s.heap.get? b=↑o->h'.get? b=↑o)->h'.get? s.heap.objs.size=some {cls:= .type "list",dict:=none,data:= .seq g c',slots:= (List.toArray [])}->
    R (.ok (.ret (.ref s.heap.objs.size))) {s with heap:=h',toks:=tk,drawn:=d})->
   codeAny (model prog w) A (.builtin "list.extend.loop" #[[.ref s.heap.objs.size,.ref I,.ref s.heap.objs.size],[]]) R {s with heap:=h,drawn:=d}:=by
  intro h i hk q R U;have nI:I≠s.heap.objs.size:=EV F
  refine codeAny_extend_loopS W.toS (fits_of_scanBound hb) s.heap.objs.size nL _ es.size 0 _ (List.toArray []) i (by lia) (Jy _) #[#[o,hk _ _ (Jk m) (D _ _ n),hd,hf],f,hk _ _ nI b7,b8.keep λo e=>hk _ _ ?_ e] q (ItemsOf.nil _) λs' c c' P J l=>?_
  ·rcases G with z|z
   ·rw[z];exact Jk m
   ·lia
  ·rw[Moved.eq_with P]
   refine U c s'.heap s'.toks c' ?_ (λb o e=>P.heap b o (λu=>?_) (hk b o (Jk (Jj e)) (D _ _ (Jl _ e)))) J
   ·apply List.ext_getElem?
    intro j;rw[Array.getElem?_toList]
    by_cases hj:j<es.size
    ·have B:j<c.size:=by rw[l.1];exact hj
     have:=l.2 j c[j] (getElem?_pos c j B)
     rw[getElem?_pos c j B,this]
    ·rw[Array.getElem?_eq_none (by rw[l.1];lia),GB (by lia)]
   ·have C:=Jj e
    rcases Jm.mp u with z|z
    ·exact absurd z (Jk C)
    ·exact absurd (Jh.mp z) (Jk (Nat.lt_trans C F))
 have v:∀(g:Array Γ) (h':Ψ) (tk c':Nat),g.toList=vs->(∀b o,s.heap.get? b=↑o->h'.get? b=↑o)->h'.get? s.heap.objs.size=some {cls:= .type "list",dict:=none,data:= .seq g c',slots:= (List.toArray [])}->
   ε (model prog w) A (do
    let o <- load s.heap.objs.size
    match o.data with
    | .seq xs _=>pure xs.toList
    |_=>unsupported "internal:collect") Q E {s with heap:=h',toks:=tk,drawn:=d}:=by
  intro g h' tk c' c1 X O;refine Ja (wpAny_load O (Jd (h _ h' tk d X (F5 (Jj O)) ?_)))
  rw[c1];exact S
 refine wpAny_ite_split (λ_=>?_) (λ_=>Jd #[plainId_quiet PySem.F.plain_extend_loop _,y h1 0 (λ_ _ _ e=>e) p _ v])
 refine Ja (E7 (Ja ?_))
 show ε _ _ (updateSeq s.heap.objs.size (·.push .none) >>= λ_=>updateSeq s.heap.objs.size (·.pop)) _ _ _
 refine Ja (wpAny_updateSeq p Z ?_)
 have x:=FB (Obj.mapSeq (·.push Γ.none)) p Z
 refine wpAny_updateSeq (hz:=by seq_fits) x Z ?_
 have K:=FB (Obj.mapSeq (·.pop)) x Z
 refine Jd #[plainId_quiet PySem.F.plain_extend_loop _,y _ _ (λb o hb e=>?_) K _ v]
 exact(FT _ _ (Ne.symm hb)).trans ((FT _ _ (Ne.symm hb)).trans e)
end
end S0
namespace L3
open PySem PySem.Spec PyProof.Rows L2 S0
def av(prog:Ξ)(w:Ω)(a:Δ)(ks:Β):HO:= .ext λh=>SetK (PySem.intKind prog w) numOf h a ks
theorem uw(prog:Ξ)(w:Ω):∀k v,(PySem.intKind prog w).is k v=true->numOf v=k:=λk v h=>by
 obtain⟨t,rfl⟩:=Γ.isInt_shape h;rfl
theorem _root_.L2.GX.drw{X:Cx}{Oa:GR}{σ:List Ν}{H:Hp}{s:Θ}(I:GX X Oa σ H s)(d:Drawn):GX X Oa σ H {s with drawn:=d}:=
 #[I.ok,I.os,I.bare,I.base,I.loc,I.cell,I.free,I.freeC,I.pin,I.hok,I.len]
section
variable{X:Cx}
theorem gZ(hc:X.calm=true):zi X (.type "set") (λxs H Q=>∃(p:Δ) (ns:Β),xs=[.ref p]/\G0 X.K H p (ns.map V.int)/\ns.length+1<scanBound/\∀l,H l=none->Q (.ref l) (GW H l (av X.prog X.w l (ddL ns)))):=by
 intro Oa s σ H xs A Q I r h;obtain⟨p,ns,rfl,y,B,q⟩:=h;obtain⟨u,rfl,x⟩:=zM r;cases x;obtain⟨a,d,pt,_⟩:=I.list y;have f:=d.length;rw[Je]at f;have n:IntsAre a ns:=pZ d
 refine ug (knd:=PySem.intKind X.prog X.w) (kf:=numOf) (val:=λi=>ns.getD i default) (uw _ _) (I.ok.hd hc) pt.isList (λi v g=>?_) (by rw[Jr];omega) λh' tk c j=>?_
 ·obtain⟨t,rfl⟩:=IntsAre.int_at n i v (by rw[List.getElem?_toArray]at g;exact g)
  exact#[intKind_is _ _ _ _,Z]
 ·have e:a.toArray.size=ns.length:=by rw[Jr];exact f.symm
  rw[e,ux]at c;refine#[.ref s.heap.objs.size,_,I.laid (t':=tk) (o:=av X.prog X.w s.heap.objs.size (ddL ns)) j (Jf _) #[c,?_,λh1 z m w=>m.at w],Z,q _ (I.hok.fresh (Jf _))]
  obtain⟨o,_,_,_,e,_⟩:=c
  exact#[o,e]
end
end L3
namespace S0
open PySem PySem.Spec PyProof.Rows
theorem sV(a:Δ):setWalk a=(do
 let(es,epoch,t) <- setState a
 if <- setsByText then return pickOrder ((<- ask).params.setOrder a epoch) es
 if ! t.plain&&es.size>1 then return (<- drawOrder es.size es.toList).toArray
 (do if ! t.led&&es.size>1 then unsupported "set:maker-not-led":Sem Unit)
 return es):=Z
section
variable{prog:Ξ}{w:Ω}{K:Type} [DecidableEq K]{knd:PySem.KeyKind prog w K}{kf:Γ->K}
variable{A:Around}{E:GP}{s:Θ}
theorem AT{Q:Bool->Θ->Prop}{bs:Η}(F:∀b∈bs,∃g,SetK knd kf s.heap b g)(h:Q true s):ε (model prog w) A (setsQuiet bs) Q E s:=by
 unfold setsQuiet;refine Ja (wpAny_forIn_list _ (λrest b s'=>b.1=none/\s'=s/\∀x∈rest,∃g,SetK knd kf s.heap x g) _ ?_ ?_ bs _ #[Z,Z,F])
 ·rintro x rest b s' ⟨n,rfl,q⟩
  obtain⟨g,o,es,ep,t,C,D,z,B,_,m,_,_⟩:=q x JB;unfold setEntries;refine Ja (Ja (wpAny_setState_of C z B (Jd ?_)))
  refine Ja (PySem.MeetsSeq2.wpAny_forIn_array _ (λc l j=>l.1=none/\j=s'/\∀e∈c,e.2.scannable=true) _ ?_ ?_ es _ #[Z,Z,λe i=>(m e i).2])
  ·rintro⟨h1,y⟩ u l j ⟨a,rfl,f⟩
   have p:=f _ JB;have d:∀e∈u,e.2.scannable=true:=λe i=>f e (JM _ i)
   cases y<;>first|(cases p;done)|exact Jd #[Z,Z,d]
  ·rintro⟨v,r⟩ j ⟨a,rfl,_⟩
   simp only at a
   subst a;exact Jd #[Z,Z,λy p=>q y (JM _ p)]
 ·rintro⟨G,l⟩ s' ⟨n,rfl,_⟩
  simp only at n
  subst n;exact Jd h
theorem Zy{a:Δ}{Q:Bool->Θ->Prop}(c:s.TypeIs (.ref a) "set")(h:Q true s):ε (model prog w) A (γ.Frozenset.isAnySet (.ref a)) Q E s:=by
 unfold γ.Frozenset.isAnySet;refine Ja (FI c sub_set_self ?_)
 exact Jd h
theorem SetK.type{h:Ψ}{a:Δ}{ks:Μ}{s:Θ}(x:SetK knd kf s.heap a ks):s.TypeIs (.ref a) "set":=by
 obtain⟨o,es,ep,t,h1,c,_⟩:=x
 exact#[o,h1,c.1]
theorem kD{K:Type} [DecidableEq K]:∀(l a:Μ),a.Nodup->(l.foldl Q3 a).Nodup
 | [],a,h=>h
 |k::l,a,h=>by
  refine kD l _ ?_
  unfold Q3;split
  ·exact h
  ·rw[Fv]
   exact#[h,by simp,λx d y c=>by rw[Jh.mp c];rintro rfl;contradiction]
theorem tF{K:Type} [DecidableEq K]:∀(l a:Μ) (k:K),k∈l.foldl Q3 a↔k∈a\/k∈l
 | [],a,k=>by simp
 |x::l,a,k=>by
  rw[List.foldl_cons,tF l _ k];unfold Q3;split
  ·rename_i c
   constructor
   ·rintro(h|h)
    ·exact .inl h
    ·exact .inr (JM _ h)
   ·rintro(h|h)
    ·exact .inl h
    ·rcases Jm.mp h with rfl|h
     ·exact .inl c
     ·exact .inr h
  ·rw[JL,Jh,Jm]
   constructor
   ·rintro((h|h)|h)
    ·exact .inl h
    ·exact .inr (.inl h)
    ·exact .inr (.inr h)
   ·rintro(h|h|h)
    ·exact .inl (.inl h)
    ·exact .inl (.inr h)
    ·exact .inr h
theorem t7{K:Type} [DecidableEq K]:∀(l a:Μ),(l.foldl Q3 a).length<=a.length+l.length
 | [],a=>by simp
 |x::l,a=>by
  have:=t7 l (Q3 a x)
  rw[List.foldl_cons,JN];have c:(Q3 a x).length<=a.length+1:=by
   unfold Q3;split
   ·lia
   ·rw[Jv,Fd];lia
  lia
theorem k6{Q:GP}(h:Q (.ref s.heap.objs.size) {s with heap:=s.heap.push (zV (! zu w))}):ε (model prog w) A (newSet (.type "set")) Q E s:=by
 unfold newSet;obtain⟨c,g,d,tk,a⟩:=s
 wp_walk
 refine wpAny_askSetting (Jd ?_)
 dsimp only
 simp only[newObj];exact Ja (wpAny_alloc (Jd h))
end
end S0
namespace L3
open PySem PySem.Spec PyProof.Rows L2 S0
def bV:Γ->Str
 | .str x _=>x
 |_=>Str.empty
def ao(prog:Ξ)(w:Ω)(a:Δ)(ks:Α):HO:= .ext λh=>SetK (PySem.strKind prog w) bV h a ks
theorem tj(prog:Ξ)(w:Ω):∀k v,(PySem.strKind prog w).is k v=true->bV v=k:=λk v h=>by
 obtain⟨t,rfl⟩:=Γ.isStrOf_shape h;rfl
section
variable{prog:Ξ}{w:Ω}{A:Around}{E:GP}{s:Θ}
theorem tf{a:Δ}{ks:Α}{Q:GP}(X:A.handled=none)(hS:SetK (PySem.strKind prog w) bV s.heap a ks)(a0:ks.length<64)
  (h:∀(h':Ψ) (tk:Nat) (d:Drawn) (l:Δ) (its:Ζ) (n:Nat) (r:Α),s.heap.objs.size<=l->(∀b o,s.heap.get? b=↑o->h'.get? b=↑o)->h'.get? l=↑(seqObj "list" its.toArray n)->
   StrsAre its r->r.Perm ks->sortedS r=true->Q (.ref l) {s with heap:=h',toks:=tk,drawn:=d}):
  ε (model prog w) A (call (.builtin "sorted") [.ref a]) Q E s:=by
 obtain⟨o,es,ep,t,W,G,N,T,J,C,y,B⟩:=hS;refine Calls.call_function_entry kind_sorted plain_sorted entry_sorted (args_sorted1 _) ?_
 unfold γ.«sorted»
 refine Ja (m:=checkCount "sorted" 1 1 _) (Jd ?_)
 refine Ja (ja X W G N T J B λvs h' tk d hk U x=>?_)
 have D:StrsAre vs (vs.map bV):=by
  refine iN (by rw[Je]) λj v e=>?_
  obtain⟨e1,M,rfl⟩:=Jt.mp (x.mem_iff.mp (JP e))
  obtain⟨⟨k,h1,_⟩,_⟩:=C e1 M;obtain⟨tt,I⟩:=Γ.isStrOf_shape h1;refine#[k,tt,by rw[Jn,e,I];rfl,I]
 have i:(vs.map bV).Perm ks:=by
  refine(x.map bV).trans ?_
  rw[ET];exact y
 have F:vs.length<=ζ:=by
  rw[x.length_eq,Je,Jp];exact fits_of_scanBound J
 have g:vs.length<64:=by
  have:=i.length_eq
  rw[Je]at this;lia
 refine Ja (wpAny_newList ?_ F)
 have c:(h'.push (seqObj "list" vs.toArray 0)).get? h'.objs.size=↑(seqObj "list" vs.toArray 0):=Jq _ Z
 show ε _ _ _ _ _ {s with heap:=h'.push (seqObj "list" vs.toArray 0),toks:=tk,drawn:=d}
 refine Ja (JI (J5 slot_list_sort #[_,c,Z] entry_list_sort (list_sort_treeK (κ:=PyProof.Rows.strKind) strKind_oneLt c D.keysOf (λL H rest e=>keyKind_strs (by rw[<- e];exact D)) g λf Y P=>#[_,Z,?_]) (args_list_sort _)))
 obtain⟨z,S,R,O⟩:=sorted_out_str D Y P;obtain⟨q,u⟩:∃q,(sortedHeap (h'.push (seqObj "list" vs.toArray 0)) h'.objs.size vs ((arrOf f).map (·.2))).get? h'.objs.size=↑(seqObj "list" ((arrOf f).map (·.2)) q):=sortedHeap_at c
 refine Jd #[_,Z,h _ tk d h'.objs.size ((arrOf f).map (·.2)).toList q z U (λb o e=>?_) (by rw[u]) S (R.trans i) O]
 have K:=hk b o e;have p:b<h'.objs.size:=Jj K
 rw[sortedHeap_old (Jk p) (by rw[JX];exact EY p)]
 exact Jl _ K
end
theorem l7:∀{us:Ζ} {a:Α},StrsAre us a->∀(i:Nat) (v:Γ),us[i]? =↑v->∃t,v= .str (a.getD i default) t
 |_,_,.nil,i,v,e=>by simp at e
 |_,_,.cons x t r,0,v,e=>by
  simp at e;subst e;exact#[t,Z]
 |_,_,.cons x t r,i+1,v,e=>by
  have c:=l7 r i v (by simpa using e)
  simpa [Jz]using c
section
variable{X:Cx}
theorem gw(hc:X.calm=true):zi X (.type "set") (λxs H Q=>∃(p:Δ) (a:Α),xs=[.ref p]/\G0 X.K H p (a.map V.str)/\a.length+1<scanBound/\∀l,H l=none->Q (.ref l) (GW H l (ao X.prog X.w l (ddL a)))):=by
 intro Oa s σ H xs B Q I r h;obtain⟨p,a,rfl,z,C,q⟩:=h;obtain⟨u,rfl,y⟩:=zM r;cases y;obtain⟨c,j,pt,_⟩:=I.list z;have f:=j.length;rw[Je]at f;refine ug (knd:=PySem.strKind X.prog X.w) (kf:=bV) (val:=λi=>a.getD i default) (tj _ _) (I.ok.hd hc) pt.isList (λi v m=>?_) (by rw[Jr];lia) λh' tk g n=>?_
 ·have d:c[i]? =↑v:=by rw[List.getElem?_toArray]at m;exact m
  have hi:i<a.length:=by rw[f];exact(Js.mp d).1
  obtain⟨t,rfl⟩:=l7 (oQ j) i v d
  exact#[strKind_is _ _ _ _,Z]
 ·have e:c.toArray.size=a.length:=by rw[Jr];exact f.symm
  rw[e,ux]at g;refine#[.ref s.heap.objs.size,_,I.laid (t':=tk) (o:=ao X.prog X.w s.heap.objs.size (ddL a)) n (Jf _) #[g,?_,λh1 A w x=>w.at x],Z,q _ (I.hok.fresh (Jf _))]
  obtain⟨o,_,_,_,e,_⟩:=g
  exact#[o,e]
theorem jK(hc:X.calm=true):zi X (.builtin "sorted") (λxs H Q=>∃(p:Δ) (ks:Α),xs=[.ref p]/\H p=↑(ao X.prog X.w p ks)/\ks.length<64/\
  ∀l (c:Α),H l=none->c.Perm ks->sortedS c=true->Q (.ref l) (GW H l (.lst (c.map V.str)))):=by
 intro Oa s σ H xs y Q I r h;obtain⟨p,ks,rfl,x,f,q⟩:=h;obtain⟨u,rfl,w⟩:=zM r;cases w;obtain⟨t,_⟩:=I.hok p _ x;refine tf (I.ok.hd hc) t f λh' tk d l e n c g hk m v i j=>?_
 refine#[.ref l,_,(I.laid (a:=l) (o:= .lst (c.map V.str)) (t':=tk) hk g ?_).drw d,Z,q l c (I.hok.fresh g) i j]
 refine#[?_,e,n,eG v,m]
 have:=i.length_eq
 rw[Je,Ju];lia
end
theorem aN{K:Type} [DecidableEq K](l:Μ):(ddL l).Nodup:=kD l [] Gb
theorem Zg{K:Type} [DecidableEq K](l:Μ)(k:K):k∈ddL l↔k∈l:=by unfold ddL;rw[tF];simp
theorem fc{K:Type} [DecidableEq K](l:Μ):(ddL l).length<=l.length:=by have:=t7 l ([]:Μ);simpa [ddL]using this
end L3
namespace L3
open PySem PySem.Spec PyProof.Rows L2
def Di(k:Nat)(js:Κ)(g:TG)(n:TI)(z:TG)(te:TE)(σ:L2.St)(Q:VK)(J:It)(H1:Hp):Prop:=∃W:Nat->Nat->Ε->L2.St->Hp->Prop,(∃m,W 0 m [] (σ0 k js σ) H1)/\∀i m ys q H,W i m ys q H->
 (J.stop i H/\∀p,H p=none->Q (.ref p) (GW H p (.lst ys)))\/(J.go i H/\∀x H',J.yld i H x H'->g x q H' λe A=>n e A λl y=>∃o:Nat->Nat->Ε->L2.St->Hp->Prop,(∃j,o 0 j ys e y)/\∀c j zs a d,o c j zs a d->
  (l.stop c d/\∃t,t<m/\W (i+1) t zs a d)\/(l.go c d/\zs.length<ζ/\∀s r,l.yld c d s r->z s a r λh w=>∃N:V->Hp->Prop,(∀v u,N v u->∃f,f<j/\o (c+1) f (zs++[v]) h u)/\te h w N))
def tG(k:Nat)(js:Κ)(c:TI)(g:TG)(a:TI)(d:TG)(te:TE):TE:=λσ H Q=>c σ H (Di k js g a d te σ Q)
section
variable{prog:Ξ}{w:Ω}{A:Around}{R:Result->Θ->Prop}{s:Θ}
theorem lQ(g tg e f a:Φ)(d:Scope)(pos:Pos)(it h:Γ)(c:Env):
  compTurn (.ListComp g [#[tg,e,[],0],#[f,a,[],0]] d pos) 0 it h c=(standAt e.pos >>= λ_=>pyNext it >>= λr=>match r with
   |none=>pure (.done .next)
   |some v=>letOwnedTupleGo tg it v >>= λ_=>assign tg c v >>= λ_=>
    eval a c >>= λx=>standAt a.pos >>= λ_=>foldedSetIterable a c x >>= λx=>holding [x] (pyIter x) >>= λi=>runOwn (.compStart (.ListComp g [#[tg,e,[],0],#[f,a,[],0]] d pos) 1 i h c) c >>= λ_=>
     again (.compLoop (.ListComp g [#[tg,e,[],0],#[f,a,[],0]] d pos) 0 it h c)):=by rfl
theorem nz(g tg f d a:Φ)(c:Scope)(pos:Pos)(it h:Γ)(e:Env):
  compTurn (.ListComp g [#[tg,f,[],0],#[d,a,[],0]] c pos) 1 it h e=(standAt a.pos >>= λ_=>pyNext it >>= λr=>match r with
   |none=>pure (.done .next)
   |some v=>letOwnedTupleGo d it v >>= λ_=>assign d e v >>= λ_=>
    (eval g e >>= λx=>call (.builtin "list.append") [h,x] >>= λ_=>pure ()) >>= λ_=>
     again (.compLoop (.ListComp g [#[tg,f,[],0],#[d,a,[],0]] c pos) 1 it h e)):=by rfl
theorem nA{q tg p g f:Φ}{a:Scope}{pos:Pos}{it t:Γ}{d:Env}(I:Nat->Θ->Prop)
  (B:∀n s,I n s->ε (model prog w) A (pyNext it) (λr e=>match r with
   |none=>R (.ok .next) e
   | some v=>ε (model prog w) A (letOwnedTupleGo g it v) (λ_ c=>ε (model prog w) A (assign g d v) (λ_ o=>ε (model prog w) A (eval q d) (λx j=>
     ε (model prog w) A (call (.builtin "list.append") [t,x]) (λ_ l=>∃m,m<n/\I m l) (λ_ _=>False) j)
     (λ_ _=>False) o) (λ_ _=>False) c) (λ_ _=>False) e) (λ_ _=>False) s)
  (n:Nat)(h:I n s):
  codeAny (model prog w) A (.compLoop (.ListComp q [#[tg,p,[],0],#[g,f,[],0]] a pos) 1 it t d) R s:=by
 refine codeAny_loop Z I (λn s D=>?_) n h
 show ε _ _ ((compTurn (.ListComp q [#[tg,p,[],0],#[g,f,[],0]] a pos) 1 it t d).onRaise (λx=>do noteFrame x d;theTreesLotGoes x)) _ _ s
 refine wpAny_noted ?_
 rw[nz];refine Ja (E1 (Ja (Jw (B n s D) (λr e i=>?_) λ_ _ h'=>h'.elim)))
 cases r with
 |none=>exact Jd i
 |some v=>
  refine Ja (Jw i (λ_ c u=>?_) λ_ _ h'=>h'.elim)
  exact Ja (Jw u (λ_ o y=>Ja (Ja (Jw y (λx j z=>Ja (Jw z
   (λ_ l C=>Jd (Jd #[Z,C])) λ_ _ h'=>h'.elim)) λ_ _ h'=>h'.elim))) λ_ _ h'=>h'.elim)
theorem mz{u tg i z a:Φ}{c:Scope}{pos:Pos}{it y:Γ}{d:Env}(hs2:∀x,foldedSetIterable a d x=pure x)(I:Nat->Θ->Prop)
  (E:∀n s,I n s->ε (model prog w) A (pyNext it) (λr g=>match r with
   |none=>R (.ok .next) g
   | some v=>ε (model prog w) A (letOwnedTupleGo tg it v) (λ_ e=>ε (model prog w) A (assign tg d v) (λ_ q=>ε (model prog w) A (eval a d) (λx o=>
     ε (model prog w) A (pyIter x) (λG p=>codeAny (model prog w) A (.compStart (.ListComp u [#[tg,i,[],0],#[z,a,[],0]] c pos) 1 G y d) (λr t=>match r with| .ok _=>∃m,m<n/\I m t| .error _=>False) p) (λ_ _=>False) o)
     (λ_ _=>False) q) (λ_ _=>False) e) (λ_ _=>False) g) (λ_ _=>False) s)
  (n:Nat)(h:I n s):
  codeAny (model prog w) A (.compLoop (.ListComp u [#[tg,i,[],0],#[z,a,[],0]] c pos) 0 it y d) R s:=by
 refine codeAny_loop Z I (λn s H=>?_) n h
 show ε _ _ ((compTurn (.ListComp u [#[tg,i,[],0],#[z,a,[],0]] c pos) 0 it y d).onRaise (λx=>do noteFrame x d;theTreesLotGoes x)) _ _ s
 refine wpAny_noted ?_
 rw[lQ];refine Ja (E1 (Ja (Jw (E n s H) (λr g j=>?_) λ_ _ h'=>h'.elim)))
 cases r with
 |none=>exact Jd j
 |some v=>
  refine Ja (Jw j (λ_ e B=>?_) λ_ _ h'=>h'.elim)
  refine Ja (Jw B (λ_ q C=>Ja (Jw C (λx o D=>?_) λ_ _ h'=>h'.elim)) λ_ _ h'=>h'.elim)
  refine Ja (E1 (Ja ?_))
  rw[hs2];refine Jd (Ja (JI (Jw D (λG p F=>?_) λ_ _ h'=>h'.elim)))
  refine Ja (wpAny_runOwn (FE F λr t l=>?_))
  cases r with
  |ok f=>exact Jd #[Z,l]
  |error x=>exact l.elim
theorem lT{elt tg iter tg2 iter2 scope pos it acc env}
  (c:codeAny (model prog w) A (.compLoop (.ListComp elt [#[tg,iter,[],0],#[tg2,iter2,[],0]] scope pos) 1 it acc env) R s)
  (h:ε (model prog w) A (pyIter it) (λa s'=>codeAny (model prog w) A (.compLoop (.ListComp elt [#[tg,iter,[],0],#[tg2,iter2,[],0]] scope pos) 1 a acc env) R s')
   (notedBy (model prog w) A env λx s'=>R (.error x) s') s):
  codeAny (model prog w) A (.compStart (.ListComp elt [#[tg,iter,[],0],#[tg2,iter2,[],0]] scope pos) 1 it acc env) R s:=by
 refine codeAny_of_tree ?_
 show ε _ _ ((compStart (.ListComp elt [#[tg,iter,[],0],#[tg2,iter2,[],0]] scope pos) 1 it acc env).onRaise (λx=>do noteFrame x env;standAt theWindowsPlace)) _ _ s
 refine wpAny_notedAt ?_
 unfold compStart
 show ε _ _ (ask >>= _) _ _ s
 refine Ja (wpAny_askSetting (wpAny_ite ?_))
 split
 ·first
   |exact Ja (Jd (Jd (And.intro rfl c)))
   |exact Jd (And.intro rfl c)
 ·first
   |exact Ja (E7 (Ja (E1 (Ja (Jw h (λa s' h'=>Jd (And.intro rfl h')) λ_ _ x=>x)))))
   |(refine Ja (E7 ?_);show ε _ _ (standAt iter2.pos >>= _) _ _ s;exact Ja (E1 (Ja (Jw h (λa s' h'=>Jd (And.intro rfl h')) λ_ _ x=>x))))
end
variable{X:Cx}
theorem uc{a2 tg w R t:Φ}{a:Scope}{cl:List (Str×Δ)}{pos d7:Pos}{fr own:Α}{js:Κ}{wi d8:TI}{g g2:TG}{te:TE}{use:Option (Γ->Sem Unit)}{Post:GP}
  {Oa:GR}{s:Θ}{σ:L2.St}{H:Hp}{Q:VK}
  (hc:X.calm=true)(hi:PI X tg w wi)(b8:closureFor a X.env=pure cl)(g4:∀y c,cl.lookup y=↑c->X.env.cells.lookup y=↑c)(g7:cl.map (·.1)=fr)
  (S:HP X a fr js)
  (hg:∀C s H fp,PG (zb X (own++fr) a cl C s H fp) tg g)(f0:∀C s H fp,PI (zb X (own++fr) a cl C s H fp) R t d8)(h4:∀C s H fp,PG (zb X (own++fr) a cl C s H fp) R g2)(he:∀C s H fp,PE (zb X (own++fr) a cl C s H fp) a2 te)
  (hs:∀x,foldedSetIterable w X.env x=pure x)(hs2:∀C x,foldedSetIterable t (compEnvC a cl C X.env) x=pure x)
  (I:L2.GX X Oa σ H s)(h:tG own.length js wi g d8 g2 te σ H Q)
  (d4:∀(d5 C:Δ) (s5:Θ) (H':Hp) (m:GQ),L2.GX X Oa σ H' s5->s5.heap.Ns C m->Mm X Oa H' C->Q (.ref d5) H'->compPost (model X.prog X.w) X.A X.xe use Post (.ref d5) C (.ok .next) s5):
  ε (model X.prog X.w) X.A (comprehension (.ListComp a2 [⟨tg,w,[],0⟩,⟨R,t,[],0⟩] a pos) a X.env d7 (newList []) false (eval w X.env) use) Post X.xe s:=by
 refine wpAny_comprehension_free (use:=use) Z hs b8 S.kind S.names (qz (hi Oa s σ H _ I h) λv s1 h1=>qz h1 λj3 f h2=>?_)
 obtain⟨it,fp,tn,J,H2,e,I2,T,d3,f2,W,⟨m0,w0⟩,d9⟩:=h2;subst e;refine J3 (wpAny_newFunctionEnv S.nocell (by intro y hy;simp at hy) (λP D q=>?_) S.kind)
 dsimp only at D q⊢
 generalize hH2:f.heap.push {cls:= .type "list",dict:=none,data:= .seq ([]:Ζ).toArray}=G at D q⊢
 have hC:G.objs.size=f.heap.objs.size+1:=by rw[<- hH2,JX]
 have U:f.heap.objs.size≠G.objs.size:=by rw[hC];exact Jk (E2 _)
 have O:∀b,b<f.heap.objs.size->b≠G.objs.size/\b≠f.heap.objs.size:=λb d=>#[by rw[hC];exact Jk (EY d),Jk d]
 have e1:∀b o,f.heap.get? b=↑o->P.get? b=↑o:=λb o e=>q.extBut b o (O b (Jj e)).1 (Jl _ (hH2▸Jl _ e))
 have b0:P.get? f.heap.objs.size=some {cls:= .type "list",data:= .seq ([]:Ζ).toArray 0}:=q.extBut _ _ U (Jl _ (hH2▸Jq _ Z))
 let Y:Cx:=zb X (own++fr) a cl G.objs.size f H2 fp
 obtain⟨e7,IY,K,a0,c0⟩:=fY (own:=own) (js:=js) g4 g7 S I2 T d3 f2 hC e1 D
 have b1:∀F:Θ,GX Y [] (σ0 own.length js σ) H2 F->tn 0 F.heap->F.heap.get? f.heap.objs.size=some {cls:= .type "list",data:= .seq ([]:Ζ).toArray 0}->
   codeAny (model X.prog X.w) X.A (.compLoop (.ListComp a2 [#[tg,w,[],0],#[R,t,[],0]] a pos) 0 (.ref it) (.ref f.heap.objs.size) (compEnvC a cl G.objs.size X.env))
    (compPost (model X.prog X.w) X.A X.xe use Post (.ref f.heap.objs.size) G.objs.size) F:=by
  intro F I3 f4 g8;refine mz (hs2 _) (λn s'=>∃i ys τ H' l k,GX Y [(f.heap.objs.size,{cls:= .type "list",data:= .seq l.toArray k})] τ H' s'/\tn i s'.heap/\(∀b∈fp,H' b=none)/\GZ ys l/\ys.length<=ζ/\W i n ys τ H') ?_ m0 ?_
  ·rintro n s4 ⟨i,ys,τ,H4,l,k,I4,d6,e2,vl,hz,w4⟩
   have h7:=I4.pin (f.heap.objs.size,{cls:= .type "list",data:= .seq l.toArray k}) (by simp [Y,zb])
   rcases d9 i n ys τ H4 w4 with⟨e0,qn⟩|⟨go,step⟩
   ·refine qz (T.done Y Z Z Z hc i _ s4 τ H4 _ I4 (c0 e2 (by simp)) d6 e0) λr s5 E=>?_
    obtain⟨hr,I5⟩:=E;subst hr
    show compPost _ _ _ _ _ _ _ _ _
    obtain⟨m5,g6,_⟩:=I5.loc;have a8:=I5.pin (f.heap.objs.size,{cls:= .type "list",data:= .seq l.toArray k}) (by simp [Y,zb])
    have a5:H4 f.heap.objs.size=none:=a8.2.1
    have B:=I5.base;have nC:H4 G.objs.size=none:=I5.free
    obtain⟨z1,z2⟩:=cf (ob:= .lst ys) I2 f2 hC I5 a5 #[hz,l,k,vl,a8.1]
    exact d4 f.heap.objs.size G.objs.size s5 (GW H4 f.heap.objs.size (.lst ys)) m5 z1 g6 z2 (qn _ a5)
   ·refine qz (T.item Y Z Z Z hc i _ s4 τ H4 _ I4 (c0 e2 (by simp)) d6 go) λr s5 E=>?_
    obtain⟨u,hr,h5⟩:=E;subst hr;refine qz h5 λ_ s6 E=>?_
    obtain⟨x,H6,I6,r6,y6,d1,g5⟩:=E;have f5:=I6.pinned (c0 g5 (by simp)) (T.obj _ _ d1)
    refine qz (hg _ _ _ _ _ s6 τ H6 x u _ f5 r6 (step x H6 y6)) λ_ s7 E=>?_
    obtain⟨e3,H7,I7,q7⟩:=E;refine qz (f0 _ _ _ _ _ s7 e3 H7 _ I7 q7) λv7 s8 h8=>qz h8 λj1 s9 h9=>?_
    obtain⟨h0,a3,g3,J2,H9,e9,I9,T2,e6,f9,W2,⟨m2,w2⟩,b7⟩:=h9;subst e9;have c4:∀{H':Hp} {A:Ζ} {k':Nat},(∀b∈a3,H' b=none)->∀b∈a3,Qs Y ((f.heap.objs.size,{cls:= .type "list",data:= .seq A.toArray k'})::ZO fp s6.heap) H' b:=λ{H' A k'} hn b d=>
     #[hn b d,(f9 b d).2.1,(f9 b d).2.2.1,(f9 b d).2.2.2.1,(f9 b d).2.2.2.2.1,λp hp=>by
      have g1:p∈(f.heap.objs.size,{cls:= .type "list",data:= .seq A.toArray k'})::ZO fp s6.heap:=by simpa [Y,zb]using hp
      rcases Jm.mp g1 with z|z
      ·rw[z]
       exact(f9 b d).2.2.2.2.2 (f.heap.objs.size,{cls:= .type "list",data:= .seq l.toArray k}) (by simp [zb])
      ·exact(f9 b d).2.2.2.2.2 p (by simp [zb,z])]
    have L2:codeAny (model X.prog X.w) X.A (.compLoop (.ListComp a2 [#[tg,w,[],0],#[R,t,[],0]] a pos) 1 (.ref h0) (.ref f.heap.objs.size) (compEnvC a cl G.objs.size X.env)) (λr b2=>match r with
      | .ok _=>∃m,m<n/\∃i ys τ H' l k,GX Y [(f.heap.objs.size,{cls:= .type "list",data:= .seq l.toArray k})] τ H' b2/\tn i b2.heap/\(∀b∈fp,H' b=none)/\GZ ys l/\ys.length<=ζ/\W i m ys τ H'
      | .error _=>False) s9:=by
     refine nA (λn2 s'=>∃(i2:Nat) (zs:Ε) (e5:L2.St) (H':Hp) (A:Ζ) (k':Nat),GX Y ((f.heap.objs.size,{cls:= .type "list",data:= .seq A.toArray k'})::ZO fp s6.heap) e5 H' s'/\g3 i2 s'.heap/\(∀b∈a3,H' b=none)/\GZ zs A/\zs.length<=ζ/\W2 i2 n2 zs e5 H') ?_ m2 #[0,ys,e3,H9,l,k,I9,e6,λb d=>(f9 b d).1,vl,hz,w2]
     rintro n2 sA ⟨i2,zs,a1,HA,j,kA,IA,d2,e8,b4,g9,wA⟩
     have j2:=IA.pin (f.heap.objs.size,{cls:= .type "list",data:= .seq j.toArray kA}) (by simp [Y,zb])
     rcases b7 i2 n2 zs a1 HA wA with⟨d0,m',h3,w'⟩|⟨f1,i1,c1⟩
     ·refine qz (T2.done Y Z Z Z hc i2 _ sA a1 HA _ IA (c4 e8) d2 d0) λr sB E=>?_
      obtain⟨c2,IB⟩:=E;subst c2;have a7:=IB.pin (f.heap.objs.size,{cls:= .type "list",data:= .seq j.toArray kA}) (by simp [Y,zb])
      have L:∀b∈fp,∀o,s6.heap.get? b=↑o->sB.heap.get? b=↑o/\HA b=none:=λb d o e=>by
       have:=IB.pin (b,o) (JV _ (JM _ (Qk d e)))
       exact#[this.1,this.2.1]
      refine#[m',h3,i+1,zs,a1,HA,j,kA,IB.pins_of ?_,T.keep _ _ _ d1 λb d o e=>(L b d o e).1,λb d=>?_,b4,g9,w']
      ·intro p hp
       rw[Jh.mp hp]
       exact#[a7.1,a7.2.1,U,K,λv z=>by cases z]
      ·obtain⟨o,e,_⟩:=T.obj _ _ d1 b d
       exact(L b d o e).2
     ·refine qz (T2.item Y Z Z Z hc i2 _ sA a1 HA _ IA (c4 e8) d2 f1) λr sB E=>?_
      obtain⟨u2,c2,hB⟩:=E;subst c2;refine qz hB λ_ sC E=>?_
      obtain⟨x2,HC,IC,rC,yC,c3,f3⟩:=E;have g0:=IC.pinned (c4 f3) (T2.obj _ _ c3);refine qz (h4 _ _ _ _ _ sC a1 HC x2 u2 _ g0 rC (c1 x2 HC yC)) λ_ sD E=>?_
      obtain⟨b5,HD,ID,N,hN,qD⟩:=E;refine qz (he _ _ _ _ _ sD b5 HD _ ID qD) λv' sE E=>?_
      obtain⟨y,HE,IE,rE,nE⟩:=E;obtain⟨h6,e4,wE⟩:=hN _ _ nE;have M:=IE.pin (f.heap.objs.size,{cls:= .type "list",data:= .seq j.toArray kA}) (by simp [zb])
      have L:∀p∈ZO fp s6.heap,sE.heap.get? p.1=↑p.2/\HE p.1=none/\p.1≠Y.env.locals/\p.1∉Y.fs/\∀v,p.2.data≠ .cell v:=λp hp=>
       IE.pin p (JV _ (FN _ (JM _ hp)))
      have a6:∀b∈a3,∀o,sC.heap.get? b=↑o->sE.heap.get? b=↑o/\HE b=none:=λb d o e=>by
       have:=IE.pin (b,o) (JV _ (JV _ (Qk d e)))
       exact#[this.1,this.2.1]
      refine wpAny_list_append_plain (items:=j.toArray) #[kA,M.1] (λh' a4 b3=>?_) (by have:=b4.length;simp;lia)
      obtain⟨k',a4⟩:=a4;have IF:GX Y [] b5 HE {sE with heap:=h'}:=by
       refine(IE.pins_of (pins':=[]) (by simp)).turned (t':=sE.toks) (it:=f.heap.objs.size) (λb o d e=>(b3.2 b d).trans e) M.2.1 ?_ (.inr (Jf _)) (λx c e=>a0 x c e) (λp hp=>absurd (show p∈([]:GR)from by simpa [Y,zb]using hp) (by simp))
       exact U
      have ea:(j.toArray.push v')=(j++[v']).toArray:=by simp
      rw[ea]at a4;refine#[h6,e4,i2+1,zs++[y],b5,HE,j++[v'],k',IF.pins_of ?_,T2.keep _ _ _ c3 λb d o e=>?_,λb d=>?_,b4.append (.cons rE .nil),?_,wE]
      ·intro p hp
       rcases Jm.mp hp with z|z
       ·rw[z]
        exact#[a4,M.2.1,U,K,λv z=>by cases z]
       ·obtain⟨p1,p2⟩:=L p z
        exact#[(b3.2 p.1 (O p.1 (e7 p.1 (iX z).1)).2).trans p1,p2]
      ·refine(b3.2 b λz=>?_).trans (a6 b d o e).1
       exact(f9 b d).2.2.2.2.2 (f.heap.objs.size,{cls:= .type "list",data:= .seq l.toArray k}) (by simp [zb]) z.symm
      ·obtain⟨o,e,_⟩:=T2.obj _ _ c3 b d
       exact(a6 b d o e).2
      ·rw[Jv,Fd];lia
    exact lT L2 (T2.self _ 0 _ _ _ e6 L2)
  ·refine#[0,[],σ0 own.length js σ,H2,[],0,I3.pins_of ?_,f4,λb d=>(f2 b d).1,.nil,Jy _,w0]
   intro p hp;rw[Jh.mp hp]
   exact#[g8,I2.hok.fresh (Jf _),U,K,λv z=>by cases z]
 have b6:tn 0 P:=T.keep _ _ _ d3 λb _ o e=>e1 b o e
 exact codeAny_compStart_list (b1 _ IY b6 b0) (T.self _ 0 _ _ _ b6 (b1 _ IY b6 b0))
theorem vR{n tg f l d:Φ}{a:Scope}{i:List (Str×Δ)}{pos:Pos}{fr own:Α}{js:Κ}{D r:TI}{g B:TG}{te:TE}
  (hc:X.calm=true)(hi:QI X tg f D)(j:closureFor a X.env=pure i)(v:∀y c,i.lookup y=↑c->X.env.cells.lookup y=↑c)(w:i.map (·.1)=fr)
  (S:HP X a fr js)
  (hg:∀C s H fp,QG (zb X (own++fr) a i C s H fp) tg g)(u:∀C s H fp,QI (zb X (own++fr) a i C s H fp) l d r)(z:∀C s H fp,QG (zb X (own++fr) a i C s H fp) l B)(he:∀C s H fp,QE (zb X (own++fr) a i C s H fp) n te)
  (hs:∀x,foldedSetIterable f X.env x=pure x:=by intro _;rfl)(hs2:∀C x,foldedSetIterable d (compEnvC a i C X.env) x=pure x:=by intro _ _;rfl):
  QE X (.ListComp n [#[tg,f,[],0],#[l,d,[],0]] a pos) (tG own.length js D g r B te):=by
 refine#[λOa s σ H Q I h=>?_]
 rw[eval_ListComp];refine uc (use:=none) hc hi.h j v w S (λC s H fp=>(hg C s H fp).h) (λC s H fp=>(u C s H fp).h) (λC s H fp=>(z C s H fp).h) (λC s H fp=>(he C s H fp).h) hs hs2 I h λt C F H' m J E p q=>?_
 exact#[m,E,λh' A=>#[.ref t,H',J.turned (t':=F.toks) (λb o G e=>(A.2 b G).trans e) p.free p.loc (.inr p.new) p.cell p.pin,Z,q]]
end L3
namespace S0
open PySem PySem.Spec PyProof.Rows
def oK(M x:Nat):Nat:=(x*5+1)%M
def bt(M:Nat):Nat->Nat->Nat
 |0,x=>x
 |n+1,x=>bt M n (oK M x)
theorem cm(M:Nat):∀(a b x:Nat),bt M (a+b) x=bt M b (bt M a x)
 |0,b,x=>by rw[Nat.zero_add];rfl
 |a+1,b,x=>by rw[Nat.add_right_comm];exact cm M a b (oK M x)
def BP(M:Nat):Nat->Nat->Κ
 |0,_=>[]
 |n+1,x=>x::BP M n (oK M x)
theorem vf(M:Nat):∀(n x j:Nat),j∈BP M n x->∃m,m<n/\bt M m x=j
 |0,x,j,h=>nomatch h
 |n+1,x,j,h=>by
  rcases Jm.mp h with rfl|h
  ·exact#[0,Nat.succ_pos _,Z]
  ·obtain⟨m,a,e⟩:=vf M n _ j h
   exact#[m+1,by lia,e]
def yR(M:Nat):Bool:=(bt M M 0==0)&&(List.range M).all λj=>(BP M M 0).contains j
def zP(M:Nat):Prop:=yR M=true
theorem va:zP 8:=by unfold zP;decide +kernel
theorem AC:zP 16:=by unfold zP;decide +kernel
theorem Bk:zP 32:=by unfold zP;decide +kernel
theorem BH:zP 64:=by unfold zP;decide +kernel
theorem xl:zP 128:=by unfold zP;decide +kernel
theorem yd:zP 256:=by unfold zP;decide +kernel
theorem wM{n:Nat}(h:n<256):zP (SetTable.sizeAbove n)/\n<SetTable.sizeAbove n/\SetTable.sizeAbove n<=256:=by
 have a:∀n<256,(SetTable.sizeAbove n=8\/SetTable.sizeAbove n=16\/SetTable.sizeAbove n=32\/SetTable.sizeAbove n=64\/SetTable.sizeAbove n=128\/SetTable.sizeAbove n=256)/\n<SetTable.sizeAbove n:=by decide +kernel
 obtain⟨h1,c⟩:=a n h;rcases h1 with e|e|e|e|e|e<;>(rw[e]at c⊢;refine#[?_,c,⋯])
 ·exact va
 ·exact AC
 ·exact Bk
 ·exact BH
 ·exact xl
 ·exact yd
theorem DL{M i j:Nat}(h:zP M)(hi:i<M)(l:j<M):∃m,m<M/\bt M m i=j:=by
 unfold zP yR at h;rw[JC,JW,FC]at h;obtain⟨e,h1⟩:=h;have get:∀x,x<M->∃m,m<M/\bt M m 0=x:=λx f=>vf M M 0 x (by have:=h1 x (J1.mpr f);simpa using this)
 obtain⟨a,o,c⟩:=get i hi;obtain⟨b,n,d⟩:=get j l
 by_cases g:a<=b
 ·refine#[b-a,by lia,?_]
  rw[<- c,<- cm,show a+(b-a)=b by lia,d]
 ·refine#[M-a+b,by lia,?_]
  rw[<- c,<- cm,show a+(M-a+b)=M+b by lia,cm,e,d]
def Zz(mask:Nat):Nat->Nat×Nat->Nat×Nat
 |0,p=>p
 |n+1,p=>Zz mask n (SetTable.leap mask p.1 p.2)
theorem ge(mask:Nat):∀(a b:Nat) (p:Nat×Nat),Zz mask (a+b) p=Zz mask b (Zz mask a p)
 |0,b,p=>by rw[Nat.zero_add];rfl
 |a+1,b,p=>by rw[Nat.add_right_comm];exact ge mask a b _
theorem lE(mask:Nat):∀(n:Nat) (p:Nat×Nat),(Zz mask n p).2=p.2/32 ^ n
 |0,p=>by show p.2=_;rw[Nat.pow_zero,Nat.div_one]
 |n+1,p=>by
  show(Zz mask n (SetTable.leap mask p.1 p.2)).2=_
  rw[lE mask n]
  show p.2/32/32 ^ n=_
  rw[Nat.div_div_eq_div_mul,Nat.pow_succ,Nat.mul_comm]
theorem i4(mask:Nat):∀(n i p:Nat),p/32=0->(Zz mask n (i,p)).1=bt (mask+1) n i
 |0,i,p,h=>rfl
 |n+1,i,p,h=>by
  have e:SetTable.leap mask i p=(oK (mask+1) i,0):=by
   unfold SetTable.leap oK;rw[h,Nat.add_zero]
  show(Zz mask n (SetTable.leap mask i p)).1=bt (mask+1) n (oK (mask+1) i)
  rw[e];exact i4 mask n _ 0 Z
theorem AM(h:Int):SetTable.bits h<2 ^ 64:=by
 unfold SetTable.bits;have h1:=Ft h (show(0:Int)<2 ^ 64 by decide)
 have a:=Fp h (show(2 ^ 64:Int)≠0 by decide)
 lia
theorem C1{mask j:Nat}(hm:zP (mask+1))(l:j<=mask)(h:Int)(i:Nat):∃n,n<SetTable.turns mask/\(Zz mask n (i,SetTable.bits h)).1=j:=by
 have f:=AM h;have e:(Zz mask 12 (i,SetTable.bits h)).2/32=0:=by
  rw[lE]
  show SetTable.bits h/32 ^ 12/32=0
  rw[Nat.div_div_eq_div_mul];exact Nat.div_eq_of_lt (JO f ⋯)
 have c:(Zz mask 12 (i,SetTable.bits h)).1<mask+1:=by
  rw[show(12:Nat)=11+1 from Z,ge mask 11 1]
  exact Nat.mod_lt _ (Nat.succ_pos _)
 obtain⟨m,g,d⟩:=DL hm c (Nat.lt_succ_of_le l)
 refine#[12+m,by unfold SetTable.turns;lia,?_]
 rw[ge];generalize Zz mask 12 (i,SetTable.bits h)=p at *
 obtain⟨a,b⟩:=p;rw[i4 mask m a b e];exact d
theorem jG{mask:Nat}{c:Array β}:∀(a i p:Nat),SetTable.layClean.free mask c a i p=none->∀n,n<a->(c.getD (Zz mask n (i,p)).1 ↑0).isNone=false
 |0,i,p,h,n,hn=>absurd hn (Nat.not_lt_zero _)
 |a+1,i,p,h,n,hn=>by
  unfold SetTable.layClean.free at h;split at h
  ·cases h
  ·rename_i d
   cases n with
   |zero=>
    have:=List.find?_eq_none.mp d 0 (J1.mpr (by unfold SetTable.runEnd;split<;>lia))
    exact Gc.mpr this
   |succ n=>exact jG a _ _ h n (by lia)
theorem iW{mask:Nat}{c:Array β}{j:Nat}:∀(a i p:Nat),SetTable.layClean.free mask c a i p=↑j->(c.getD j ↑0).isNone=true
 |0,i,p,h=>nomatch h
 |a+1,i,p,h=>by
  unfold SetTable.layClean.free at h;split at h
  ·rename_i k d
   cases h
   have:=List.find?_some d
   exact this
  ·exact iW a _ _ h
def OwOk(mask:Nat)(a:Array β)(k:Nat):Prop:=a.size=mask+1/\(a.toList.filterMap id).Perm (List.range k)
theorem ki:∀l:List β,(∀x∈l,x.isNone=false)->(l.filterMap id).length=l.length
 | [],_=>rfl
 |x::l,h=>by
  have c:=h x JB;cases x with
  |none=>cases c
  |some y=>
   rw[JR]
   show(y::l.filterMap id).length=_
   rw[JN,JN,ki l λz a=>h z (JM _ a)]
theorem OwOk.step{mask k:Nat}{a:Array β}(hm:zP (mask+1))(o:OwOk mask a k)(hk:k<=mask)(h:Int):
  ∃j,SetTable.layClean.free mask a (SetTable.turns mask) (SetTable.bits h%(mask+1)) (SetTable.bits h)=↑j/\OwOk mask (a.setIfInBounds j ↑k) (k+1):=by
 obtain⟨u,c⟩:=o;cases e:SetTable.layClean.free mask a (SetTable.turns mask) (SetTable.bits h%(mask+1)) (SetTable.bits h)with
 |none=>
  exfalso
  have all:∀x∈a.toList,x.isNone=false:=λx p=>by
   obtain⟨j,d,rfl⟩:=List.mem_iff_getElem.mp p;have i:j<a.size:=by rw[<- Jp];exact d
   obtain⟨n,l,t⟩:=C1 hm (show j<=mask by lia) h (SetTable.bits h%(mask+1))
   have:=jG _ _ _ e n l
   rw[t]at this
   simpa [Array.getD,i]using this
  have h1:(a.toList.filterMap id).length=a.toList.length:=ki _ all
  have m:(a.toList.filterMap id).length=(List.range k).length:=c.length_eq
  rw[List.length_range]at m;rw[m,Jp]at h1;lia
 |some j=>
  refine#[j,Z,by rw[Array.size_setIfInBounds];exact u,?_]
  have f:=iW _ _ _ e;have d:j<a.size:=by
   refine Nat.lt_of_not_le λz=>?_
   rw[Array.getD,dif_neg (by lia)]at f
   cases f
  have l:a[j]=none:=by
   rw[Array.getD,dif_pos d]at f;exact Option.isNone_iff_eq_none.mp f
  have r:j<a.toList.length:=by rw[Jp];exact d
  have g:a.toList[j]=none:=by rw[Array.getElem_toList];exact l
  rw[Array.toList_setIfInBounds];have s:a.toList=a.toList.take j++none::a.toList.drop (j+1):=by
   rw[<- g,List.getElem_cons_drop,List.take_append_drop]
  have q:a.toList.set j ↑k=a.toList.take j++↑k::a.toList.drop (j+1):=by rw[List.set_eq_take_append_cons_drop,Jc r]
  rw[q,List.filterMap_append,JR]
  show((a.toList.take j).filterMap id++k::(a.toList.drop (j+1)).filterMap id).Perm _
  rw[s,List.filterMap_append,JR]at c;have c:((a.toList.take j).filterMap id++(a.toList.drop (j+1)).filterMap id).Perm (List.range k):=c
  rw[List.range_succ];refine List.perm_middle.trans ?_
  exact(List.Perm.cons k c).trans (List.perm_append_singleton k _).symm
theorem pE{mask:Nat}(hm:zP (mask+1)):∀(hs:Β) (c:Array β) (k:Nat),OwOk mask c k->k+hs.length<=mask+1->
  ∃a,hs.foldl (λ(d:Option (Array β×Nat)) (h:Int)=>do
   let(owner,k) <- d
   let j <- SetTable.layClean.free mask owner (SetTable.turns mask) (SetTable.bits h%(mask+1)) (SetTable.bits h)
   pure (owner.setIfInBounds j ↑k,k+1)) ↑(c,k)=↑(a,k+hs.length)/\OwOk mask a (k+hs.length)
 | [],c,k,o,_=>#[c,Z,o]
 |h::hs,c,k,o,hl=>by
  rw[JN]at hl;obtain⟨j,f,e⟩:=o.step hm (by lia) h
  obtain⟨a,g,o'⟩:=pE hm hs _ _ e (by lia)
  refine#[a,?_,by rw[JN,show k+(hs.length+1)=k+1+hs.length by lia];exact o']
  rw[List.foldl_cons,JN,show k+(hs.length+1)=k+1+hs.length by lia,<- g]
  congr 1
  show(do
   let j <- SetTable.layClean.free mask c (SetTable.turns mask) (SetTable.bits h%(mask+1)) (SetTable.bits h)
   pure (c.setIfInBounds j ↑k,k+1))=↑(c.setIfInBounds j ↑k,k+1)
  rw[f];rfl
theorem nR(n:Nat):((List.replicate n (none:β)).filterMap id)=[]:=by
 induction n with
 |zero=>rfl
 |succ n ih=>rw[FU,JR];exact ih
theorem nh{mask:Nat}(hm:zP (mask+1)){hs:Array Int}(hn:hs.size<=mask+1):∃a,SetTable.layClean mask hs=↑a/\OwOk mask a hs.size:=by
 have c:OwOk mask (Array.replicate (mask+1) none) 0:=#[Array.size_replicate,by rw[Array.toList_replicate,nR];exact List.Perm.refl _]
 obtain⟨a,e,o⟩:=pE hm hs.toList _ 0 c (by rw[Jp];lia)
 rw[Nat.zero_add,Jp]at e o;refine#[a,?_,o]
 unfold SetTable.layClean;rw[<- Array.foldl_toList];exact JH (Option.map (·.1)) e
theorem gk(f:Nat->β):∀l:Κ,(l.filterMap λj=>(f j).map (j,·)).map (·.2)=l.filterMap f
 | []=>rfl
 |j::l=>by
  rw[JR,JR];cases e:f j with
  |none=>simpa using gk f l
  |some k=>simpa using gk f l
theorem pO(a:Array β):(List.range a.size).filterMap (λj=>a.getD j none)=a.toList.filterMap id:=by
 have e:(List.range a.size).map (λj=>a.getD j none)=a.toList:=by
  refine List.ext_getElem (by rw[Je,List.length_range,Jp]) λi h1 c=>?_
  have hi:i<a.size:=by rw[Jp]at c;exact c
  simp [Array.getD,hi]
 rw[<- e,List.filterMap_map];rfl
theorem jC{mask fg mv:Nat}{led plain:Bool}{hs:Array Int}(hm:zP (mask+1))(hn:hs.size<=mask):
  ∃t o,SetTable.laid mask fg mv led plain hs=↑(t,o)/\t.fits hs.size=true/\o.toList.Perm (List.range hs.size)/\Rs t.place/\t.dummies= (List.toArray [])/\t.led=led/\t.plain=plain/\t.mask=mask:=by
 obtain⟨a,e,c,g⟩:=nh (hs:=hs) hm (by lia)
 have f:SetTable.laid mask fg mv led plain hs=↑({mask,place:=(((List.range (mask+1)).filterMap λj=>(a.getD j none).map (j,·)).map (·.1)).toArray,dummies:= (List.toArray []),finger:=fg,led,moves:=mv,plain},(((List.range (mask+1)).filterMap λj=>(a.getD j none).map (j,·)).map (·.2)).toArray):=by
  unfold SetTable.laid;rw[e];rfl
 obtain⟨h1,i,h⟩:=oP f;have d:((List.range (mask+1)).filterMap λj=>(a.getD j none).map (j,·)).map (·.2)=a.toList.filterMap id:=by
  rw[gk,<- c];exact pO a
 have len:((List.range (mask+1)).filterMap λj=>(a.getD j none).map (j,·)).length=hs.size:=by
  have:=JH List.length d
  rw[Je,g.length_eq,List.length_range]at this;exact this
 refine#[_,_,f,?_,?_,h1,i,h,Z,Z]
 ·unfold SetTable.fits SetTable.fill
  dsimp only
  rw[Jr,Je,len];simp [hn]
 ·dsimp only
  rw[d];exact g
theorem nU(a:Δ)(c:Nat):setRelay a c=(do
 let(es,_,t) <- setState a
 if SetTable.sizeAbove c>ζ then unsupported "set:memory"
 let(es,t) <- (do
  let ↑(t,order):=t.relaid (es.map (·.1)) c|unsupported "internal:set-table-without-room"
  let d:=order.filterMap (es[·]?)
  if d.size != es.size then unsupported "internal:set-table-lost-an-element"
  pure (d,t):Sem (Array (Int×Γ)×SetTable))
 storeSet a es t):=Z
theorem fM(s o:Δ)(a:Sem Unit):setMerge s o a=(do
 if s==o then return
 let(eo,epoch,to) <- setState o
 if eo.isEmpty then return
 setRoomFor s eo.size
 let(_,_,ts) <- setState s
 match ts.road to with
 | .slotForSlot=>storeSet s eo {to with finger:=ts.finger,led:=ts.led&&to.led,moves:=ts.moves,plain:=ts.plain&&to.plain}
 | .clean=>
  let(es,t) <- (do
   let ↑(t,order):=SetTable.laid ts.mask ts.finger ts.moves (led:=ts.led&&to.led) (plain:=ts.plain&&to.plain) (eo.map (·.1))|unsupported "internal:set-table-without-room"
   let c:=order.filterMap (eo[·]?)
   if c.size != eo.size then unsupported "internal:set-table-lost-an-element"
   pure (c,t):Sem (Array (Int×Γ)×SetTable))
  storeSet s es t
 | .oneByOne=>
  for (h,x)in <- setWalkUnseen o [s] ↑s do
   let _ <- holding [x] (setAddHashed s x h)
   a
   if(<- setState o).2.1 != epoch then unsupported "set.changed-during-merge"):=Z
theorem gG{c:Type}{es:Array c}{o:Array Nat}(h:o.toList.Perm (List.range es.size)):(o.filterMap (es[·]?)).toList.Perm es.toList:=by
 rw[Array.toList_filterMap];refine(h.filterMap _).trans ?_
 have e:(List.range es.size).filterMap (es[·]?)=es.toList:=by
  have d:(List.range es.size).map (es[·]?)=es.toList.map some:=by
   refine List.ext_getElem (by simp) λi h1 a=>?_
   have hi:i<es.size:=by simpa using a
   simp [hi]
  have:(List.range es.size).filterMap (es[·]?)=((List.range es.size).map (es[·]?)).filterMap id:=by rw[List.filterMap_map];rfl
  rw[this,d,List.filterMap_map];exact List.filterMap_some
 rw[e]
section
variable{prog:Ξ}{w:Ω}{K:Type} [DecidableEq K]{knd:PySem.KeyKind prog w K}{kf:Γ->K}
variable{A:Around}{E:GP}{s:Θ}
theorem ou{a:Δ}{o:Obj}{es:Array (Int×Γ)}{ep:Nat}{t:SetTable}{d:Nat}{Q:Unit->Θ->Prop}(ho:s.heap.get? a=↑o)(hd:o.data= .set es ep t)(hf:t.fits es.size=true)(hw:d<256)(hn:es.size<=d)
  (h:∀e c,e.toList.Perm es.toList->c.fits e.size=true->Rs c.place->c.dummies= (List.toArray [])->c.led=t.led->c.plain=t.plain->zP (c.mask+1)->d<=c.mask->Q () {s with heap:=s.heap.update a (Obj.putSet e c)}):
  ε (model prog w) A (setRelay a d) Q E s:=by
 obtain⟨r,p2,z⟩:=wM hw;rw[nU];refine Ja (wpAny_setState_of ho hd hf ?_)
 dsimp only
 have i:¬SetTable.sizeAbove d>ζ:=by rw[Ju];lia
 rw[Jb i];have p:SetTable.sizeAbove d-1+1=SetTable.sizeAbove d:=by lia
 obtain⟨c,or,j,q,l,v,x,y,u,m⟩:=jC (mask:=SetTable.sizeAbove d-1) (fg:=t.finger) (mv:=t.movedTo (SetTable.sizeAbove d-1)) (led:=t.led) (plain:=t.plain) (hs:=es.map (·.1)) (by rw[p];exact r) (by rw[Array.size_map];lia)
 have j:t.relaid (es.map (·.1)) d=↑(c,or):=j
 rw[Array.size_map]at q l;have n:=gG (es:=es) l
 have f:(or.filterMap (es[·]?)).size=es.size:=by rw[<- Jp,n.length_eq,Jp]
 have g:es.size<=ζ:=by rw[Ju];lia
 refine Ja ?_
 rw[j]
 dsimp only
 rw[f];simp only[bne_self_eq_false,Bool.false_eq_true,JD];exact Jd (wpAny_storeSet_of ho hd (h _ _ n (by rw[f];exact q) v x y u (by rw[m,p];exact r) (by rw[m];lia)) (by rw[f];exact g))
def FrK(w:Ω)(h:Ψ)(a:Δ)(n:Nat):Prop:=∃o ep t,h.get? a=↑o/\o.ExactSet/\o.data= .set (List.toArray []) ep t/\t.fits 0=true/\t.dummies= (List.toArray [])/\zP (t.mask+1)/\n<=t.mask/\TW w t
theorem FrK.k{h:Ψ}{a:Δ}{n:Nat}(x:FrK w h a n):SetK knd kf h a []:=by
 obtain⟨o,ep,t,h1,i,d,g,j,l,m,c⟩:=x
 exact#[o,(List.toArray []),ep,t,h1,i,d,g,⋯,(λe f=>nomatch f),List.Perm.refl _,c]
theorem Bj{a:Δ}{n:Nat}{Q:Unit->Θ->Prop}(y:FrK w s.heap a 0)(hn:n<=100)(h:∀h',Ψ.SameBut a s.heap h'->FrK w h' a n->Q () {s with heap:=h'}):ε (model prog w) A (setRoomFor a n) Q E s:=by
 obtain⟨o,ep,t,h1,l,g,e,m,r,J,j⟩:=y;unfold setRoomFor;refine Ja (wpAny_setState_of h1 g e ?_)
 dsimp only
 have f:t.place.size=0:=by
  unfold SetTable.fits at e;rw[JC,JW]at e;exact e.1
 have d:t.fill=0:=by unfold SetTable.fill;rw[f,m];rfl
 unfold SetTable.roomFor;rw[d,f]
 by_cases c:(0+n)*5 ≥ t.mask*3
 ·rw[Jc c]
  dsimp only
  refine ou h1 g e (by lia) (Jy _) λi p F v x C D H q G=>?_
  have u:i= (List.toArray []):=by
   have:=F.length_eq
   rw[Jp]at this;exact Array.eq_empty_of_size_eq_zero this
  subst u;refine h _ (J8 s.heap a _) #[_,_,p,Zh h1 g (List.toArray []) p,l,Z,v,C,q,by lia,?_]
  rcases j with z|⟨B,I⟩
  ·exact .inl z
  ·exact .inr #[D.trans B,λ_=>x]
 ·rw[Jb c]
  exact Jd (h s.heap (Ψ.SameBut.refl a s.heap) #[o,ep,t,h1,l,g,e,m,r,by lia,j])
theorem TW.both{t u:SetTable}{fg mv:Nat}(a:TW w t)(b:TW w u)(hp:u.dummies= (List.toArray [])):TW w {u with finger:=fg,led:=t.led&&u.led,moves:=mv,plain:=t.plain&&u.plain}:=by
 rcases a with z|⟨c,f⟩
 ·exact .inl z
 ·rcases b with y|⟨d,e⟩
  ·exact .inl y
  ·refine .inr #[by show(t.led&&u.led)=true;rw[c,d];rfl,λh=>?_]
   have h:(t.plain&&u.plain)=true:=h
   rw[JC]at h;exact e h.2
theorem ga{a b:Δ}{f:Μ}{m:Sem Unit}{Q:Unit->Θ->Prop}(C:a≠b)(D:FrK w s.heap a 0)(hB:SetK knd kf s.heap b f)(lb:f.length<=100)
  (h:∀h',Ψ.SameBut a s.heap h'->SetK knd kf h' a f->(f=[]->FrK w h' a 0)->Q () {s with heap:=h'}):ε (model prog w) A (setMerge a b m) Q E s:=by
 obtain⟨ob,d,U,tb,b1,b2,X,P,B,R,F,M⟩:=id hB;have n:d.size=f.length:=by rw[<- F.length_eq,Je,Jp]
 rw[fM];have v:(a==b)=false:=by rw[E9];exact C
 rw[v];simp only[Bool.false_eq_true,JD];refine Ja (wpAny_setState_of b1 X P ?_)
 dsimp only
 by_cases c:d.isEmpty=true
 ·rw[Jc c]
  have Y:f=[]:=by
   rw[Array.isEmpty_iff_size_eq_zero,n]at c;exact List.eq_nil_of_length_eq_zero c
  subst Y;exact Jd (h s.heap (Ψ.SameBut.refl a s.heap) D.k λ_=>D)
 ·rw[Jb c]
  refine Ja (Bj D (by lia) λh1 p G=>?_)
  obtain⟨o,ep,t,q,L,l,r,q5,S,W,I⟩:=id G;refine Ja (wpAny_setState_of (s:={s with heap:=h1}) q l r ?_)
  dsimp only
  have H:t.place.size=0:=by
   unfold SetTable.fits at r;rw[JC,JW]at r;exact r.1
  have g:t.fill=0:=by unfold SetTable.fill;rw[H,q5];rfl
  have j:f≠[]:=λz=>c (by rw[Array.isEmpty_iff_size_eq_zero,n,z];rfl)
  have i:d.size<=ζ:=fits_of_scanBound B
  have er:t.road tb=if t.mask==tb.mask&&tb.dummies.isEmpty then .slotForSlot else .clean:=by
   unfold SetTable.road;rw[g];rfl
  rw[er]
  by_cases u:(t.mask==tb.mask&&tb.dummies.isEmpty)=true
  ·rw[Jc u]
   rw[JC,Array.isEmpty_iff]at u;refine wpAny_storeSet_of (s:={s with heap:=h1}) q l ?_ i
   refine h _ (p.trans (J8 h1 a _)) #[_,d,_,_,Zh q l d _,L,Z,?_,B,R,F,TW.both I M u.2] λz=>absurd z j
   exact P
  ·rw[Jb u]
   obtain⟨O,or,el,N,J,r3,r4,T,r6,r7⟩:=jC (mask:=t.mask) (fg:=t.finger) (mv:=t.moves) (led:=t.led&&tb.led) (plain:=t.plain&&tb.plain) (hs:=d.map (·.1)) S (by rw[Array.size_map];exact W)
   rw[Array.size_map]at N J;have x:=gG (es:=d) J
   have e:(or.filterMap (d[·]?)).size=d.size:=by rw[<- Jp,x.length_eq,Jp]
   dsimp only
   refine Ja ?_
   rw[el]
   dsimp only
   rw[e];simp only[bne_self_eq_false,Bool.false_eq_true,JD];refine Jd (wpAny_storeSet_of (s:={s with heap:=h1}) q l ?_ (by rw[e];exact i))
   refine h _ (p.trans (J8 h1 a _)) #[_,_,_,O,Zh q l _ O,L,Z,by rw[e];exact N,by rw[e];exact B,R.perm x,(x.map _).trans F,?_] λz=>absurd z j
   rcases I with z|⟨z1,z2⟩
   ·exact .inl z
   ·rcases M with y|⟨y1,y2⟩
    ·exact .inl y
    ·exact .inr #[by rw[T,z1,y1];rfl,λ_=>r3]
end
section
variable{prog:Ξ}{w:Ω}{K:Type} [DecidableEq K]{knd:PySem.KeyKind prog w K}{kf:Γ->K}
variable{A:Around}{E:GP}{s:Θ}
theorem CW{a:Δ}{n:Nat}{ks:Μ}{Q:Unit->Θ->Prop}(l:SetK knd kf s.heap a ks)(hn:ks.length+n<=100)(h:∀h',Ψ.SameBut a s.heap h'->SetK knd kf h' a ks->Q () {s with heap:=h'}):ε (model prog w) A (setRoomFor a n) Q E s:=by
 obtain⟨o,es,ep,t,h1,v,g,e,x,q,m,p⟩:=id l;have y:es.size=ks.length:=by rw[<- m.length_eq,Je,Jp]
 unfold setRoomFor;refine Ja (wpAny_setState_of h1 g e ?_)
 dsimp only
 have i:t.place.size=es.size:=by
  unfold SetTable.fits at e;rw[JC,JW]at e;exact e.1
 unfold SetTable.roomFor;rw[i]
 by_cases c:(t.fill+n)*5 ≥ t.mask*3
 ·rw[Jc c]
  dsimp only
  refine ou h1 g e (by lia) (by lia) λd j f r u H C G D F=>?_
  have sz:d.size=es.size:=by rw[<- Jp,f.length_eq,Jp]
  refine h _ (J8 s.heap a _) #[_,d,_,j,Zh h1 g d j,v,Z,r,by rw[sz];exact x,q.perm f,(f.map _).trans m,?_]
  rcases p with z|⟨B,I⟩
  ·exact .inl z
  ·exact .inr #[C.trans B,λ_=>u]
 ·rw[Jb c]
  exact Jd (h s.heap (Ψ.SameBut.refl a s.heap) l)
theorem n6{a r:Δ}{o:Obj}{es:Array (Int×Γ)}{ep:Nat}{t:SetTable}{L:Μ}{Q:Array (Int×Γ)->Θ->Prop}(ho:s.heap.get? a=↑o)(I:o.ExactSet)(hd:o.data= .set es ep t)(hf:t.fits es.size=true)(hb:es.size<scanBound)(F:ElemsOf knd es.toList)(G:TW w t)
  (C:SetK knd kf s.heap r L)
  (h:∀d h',d.toList.Perm es.toList->Ψ.SameBut r s.heap h'->SetK knd kf h' r L->Q d {s with heap:=h'}):ε (model prog w) A (setWalkUnseen a [r] ↑r) Q E s:=by
 have same:∀d,d.toList.Perm es.toList->Q d s:=λd p=>h d s.heap p (Ψ.SameBut.refl r s.heap) C
 have wV:(zu w||(t.led&&t.plain)||decide (es.size<=1))=true->ε (model prog w) A (setWalk a) Q E s:=λc=>by
  rw[sV];refine Ja (wpAny_setState_of ho hd hf ?_)
  dsimp only
  refine Ja (Qz ?_)
  cases f:zu w with
  |true=>
   rw[Jc Z];exact Ja (wpAny_askSetting (Jd (same _ (jw _ es))))
  |false=>
   rw[Jb ⋯]
   rw[f]at c;have B:t.led=true:=by
    rcases G with z|⟨q,_⟩
    ·rw[f]at z;cases z
    ·exact q
   have D:(! t.plain&&decide (es.size>1))=false:=by
    rw[B]at c;cases hp:t.plain with
    |true=>rfl
    |false=>rw[hp]at c;simp at c;simp;lia
   rw[D];simp only[Bool.false_eq_true,JD,B,Bool.not_true,EW];exact Ja (Jd (Jd (same _ (List.Perm.refl _))))
 unfold setWalkUnseen;refine Ja (wpAny_setState_of ho hd hf ?_)
 dsimp only
 refine Ja (Qz ?_)
 by_cases c:(zu w||(t.led&&t.plain)||decide (es.size<=1))=true
 ·rw[Jc c]
  exact wV c
 ·rw[Jb c]
  have f:zu w=false:=by
   cases e:zu w with
   |true=>rw[e]at c;simp at c
   |false=>rfl
  have B:t.led=true:=by
   rcases G with z|⟨q,_⟩
   ·rw[f]at z;cases z
   ·exact q
  refine Ja (AT (knd:=knd) (kf:=kf) (λx M=>?_) ?_)
  ·simp only[Jm,JE,JF]at M
   rcases M with rfl|rfl
   ·exact#[_,o,es,ep,t,ho,I,hd,hf,hb,F,List.Perm.refl _,G]
   ·exact#[_,C]
  ·simp only[Bool.not_true,Bool.false_eq_true,JD]
   refine Ja (E7 ?_)
   obtain⟨P,u,N,y,g,m,i,v,j,n,l,H⟩:=C;refine Ja (wpAny_setState_of g i v ?_)
   dsimp only
   by_cases J:((y.led&& ! t.led)||(y.plain&& ! t.plain))=true
   ·rw[Jc J]
    refine Ja (wpAny_storeSet_of g i (Jd ?_) (fits_of_scanBound j))
    refine h _ _ (List.Perm.refl _) (J8 s.heap r _) #[_,u,_,_,Zh g i u _,m,Z,v,j,n,l,?_]
    rcases H with z|⟨q,O⟩
    ·exact .inl z
    ·refine .inr #[by show(y.led&&t.led)=true;rw[q,B];rfl,λz=>?_]
     have z:(y.plain&&t.plain)=true:=z
     rw[JC]at z;exact O z.1
   ·rw[Jb J]
    exact Jd (same _ (List.Perm.refl _))
theorem wz(z:∀k v,knd.is k v=true->kf v=k){a b:Δ}(u:b≠a){o:Obj}{es:Array (Int×Γ)}{ep:Nat}{t:SetTable}{m:Μ}{j:Sem Unit}{Q:PUnit->Θ->Prop}(hd:o.data= .set es ep t)(hf:t.fits es.size=true)(c:Array (Int×Γ))(y:ElemsOf knd c.toList)(hn:m.length+c.size+1<scanBound)
  (n:∀(s':Θ) (O:Unit->Θ->Prop),s'.heap.get? b=↑o->O () s'->ε (model prog w) A j O E s')
  (ho:s.heap.get? b=↑o)(W:SetK knd kf s.heap a m)(p:m.Nodup)
  (h:∀h' f,Ψ.SameBut a s.heap h'->SetK knd kf h' a f->f.Nodup->(∀k,k∈f↔k∈m\/k∈(c.toList.map λe=>kf e.2))->Q #[] {s with heap:=h'}):
  ε (model prog w) A (forIn c PUnit.unit λx _=>do
   let _ <- holding [x.2] (setAddHashed a x.2 x.1)
   j
   if(<- setState b).2.1 != ep then do
    unsupported "set.changed-during-merge"
    pure (ForInStep.yield PUnit.unit)
   else pure (ForInStep.yield PUnit.unit)) Q E s:=by
 obtain⟨D,g,M,tk,L⟩:=s;refine PySem.MeetsSeq2.wpAny_forIn_array _ (λrest _ s'=>∃h' done f,s'=#[h',g,M,tk,L]/\c.toList=done++rest/\Ψ.SameBut a D h'/\SetK knd kf h' a f/\f.Nodup/\(∀k,k∈f↔k∈m\/k∈(done.map λe=>kf e.2))/\f.length<=m.length+done.length) _ ?_ ?_ c _ #[D,[],m,Z,Z,Ψ.SameBut.refl a D,W,p,λk=>by simp,Jf _]
 ·rintro⟨U,x⟩ rest _ s' ⟨h',done,f,rfl,e,C,l,p,i,len⟩
  have S:(U,x)∈c.toList:=by rw[e];exact JV _ JB
  obtain⟨⟨k,hk,d⟩,B⟩:=y _ S
  dsimp only at hk d B⊢
  subst d;have T:done.length+1<=c.size:=by
   have:=JH List.length e
   rw[Jp,Jv,JN]at this;lia
  have kx:kf x=k:=z k x hk
  refine Ja (JI (rJ (s:=#[h',g,M,tk,L]) z hk B l (by lia) λG q J=>?_))
  have r:G.get? b=↑o:=by rw[q.2 b u,C.2 b u];exact ho
  refine Ja (n _ _ r (Ja (wpAny_setState_of (s:=#[G,g,M,tk,L]) r hd hf ?_)))
  simp only[bne_self_eq_false,Bool.false_eq_true,JD];refine Jd #[G,done++[(knd.hash k,x)],_,Z,by rw[e,Fh];rfl,C.trans q,J,?_,λP=>?_,?_]
  ·split
   ·exact p
   ·rename_i N
    rw[Fv]
    exact#[p,by simp,λX H Y F R=>N (by rw[Jh.mp F]at R;rw[<- R];exact H)]
  ·rw[JK,JL]
   show _↔_\/_\/P∈[kf x]
   rw[kx,Jh];split
   ·rename_i I
    rw[i];constructor
    ·rintro(h1|h1)
     ·exact .inl h1
     ·exact .inr (.inl h1)
    ·rintro(h1|h1|rfl)
     ·exact .inl h1
     ·exact .inr h1
     ·exact(i P).mp I
   ·rw[JL,i,Jh,or_assoc]
  ·rw[Jv,Fd]
   split
   ·lia
   ·rw[Jv,Fd];lia
 ·rintro _ s' ⟨h',done,f,rfl,e,C,l,p,i,len⟩
  rw[E3]at e;refine h h' f C l p (by rw[e];exact i)
theorem Ba(O:∀k v,knd.is k v=true->kf v=k){a b:Δ}{g l:Μ}{f:Sem Unit}{Q:Unit->Θ->Prop}(d:a≠b)(U:SetK knd kf s.heap a g)(hB:SetK knd kf s.heap b l)(ne:g≠[])(W:g.Nodup)(la:g.length+l.length<=100)
  (i:∀(s':Θ) (y:Unit->Θ->Prop),(∀o,s.heap.get? b=↑o->s'.heap.get? b=↑o)->y () s'->ε (model prog w) A f y E s')
  (h:∀h' n,Ψ.SameBut a s.heap h'->SetK knd kf h' a n->n.Nodup->(∀k,k∈n↔k∈g\/k∈l)->Q () {s with heap:=h'}):ε (model prog w) A (setMerge a b f) Q E s:=by
 obtain⟨T,D,a0,tb,L,b2,J,P,b5,b6,Y,b8⟩:=id hB;have N:D.size=l.length:=by rw[<- Y.length_eq,Je,Jp]
 rw[fM];have F:(a==b)=false:=by rw[E9];exact d
 rw[F];simp only[Bool.false_eq_true,JD];refine Ja (wpAny_setState_of L J P ?_)
 dsimp only
 by_cases c:D.isEmpty=true
 ·rw[Jc c]
  have e0:l=[]:=by
   rw[Array.isEmpty_iff_size_eq_zero,N]at c;exact List.eq_nil_of_length_eq_zero c
  subst e0;exact Jd (h s.heap g (Ψ.SameBut.refl a s.heap) U W λk=>by simp)
 ·rw[Jb c]
  refine Ja (CW U (by lia) λh1 u m=>?_)
  obtain⟨o,S,ep,t,q1,q2,q3,B,q5,q6,q7,q8⟩:=id m;refine Ja (wpAny_setState_of (s:={s with heap:=h1}) q1 q3 B ?_)
  dsimp only
  have a4:t.place.size=S.size:=by
   unfold SetTable.fits at B;rw[JC,JW]at B;exact B.1
  have a2:S.size=g.length:=by rw[<- q7.length_eq,Je,Jp]
  have a1:g.length≠0:=λz=>ne (List.eq_nil_of_length_eq_zero z)
  have er:t.road tb= .oneByOne:=by
   unfold SetTable.road SetTable.fill;rw[Jc];rw[bne_iff_ne];lia
  rw[er]
  dsimp only
  have p:h1.get? b=↑T:=by rw[u.2 b d.symm];exact L
  refine Ja (n6 (s:={s with heap:=h1}) (a:=b) (r:=a) p b2 J P b5 b6 b8 m λq X H j R=>?_)
  have a3:q.size=D.size:=by rw[<- Jp,H.length_eq,Jp]
  have G:X.get? b=↑T:=by rw[j.2 b d.symm];exact p
  have e4:scanBound=4096:=Z
  refine Ja (wz (s:={s with heap:=X}) O d.symm J P q (b6.perm H) (by lia) (λs' y z hq=>i s' y (λo z2=>?_) hq) G R W λh3 n M C I x=>Jd ?_)
  ·rw[L]at z2;cases z2;exact z
  ·refine h h3 n ((u.trans j).trans M) C I λk=>?_
   rw[x,(H.map λe=>kf e.2).mem_iff,Y.mem_iff]
theorem lf:entryFor table "set.__or__"=some γ.«frozenset.__or__»:=
 entryFor_alias (id':="frozenset.__or__") (by kernel_rfl) Z nofun (by kernel_rfl)
theorem DZ(x y:Γ):γ.«frozenset.__or__» #[[x,y],[]]=(do
 if !(<- γ.Frozenset.isAnySet x <&&> γ.Frozenset.isAnySet y)then
  rule s!"frozenset.{"__or__"}.declined"
  return <- ret .notImplemented
 ret (<- (λ(id:String) (l:Δ) (r:Γ)=>(do
  let a <- γ.Frozenset.copyOf l
  if r != .ref l then holding [a] (γ.Frozenset.updateFrom id (<- γ.Frozenset.addrOf a) r)
  return a:Sem Γ)) s!"frozenset.{"__or__"}" (<- γ.Frozenset.addrOf x) y)):=Z
theorem uD{h:Ψ}{a:Δ}(ha:h.get? a=↑(zV (! zu w))):FrK w h a 0:=by
 refine#[_,0,_,ha,#[Z,Z,Z],Z,Z,Z,va,Jy _,?_]
 cases hb:zu w with
 |true=>exact .inl hb
 |false=>exact .inr #[Z,λ_=>List.Pairwise.nil]
theorem EC(N:∀k v,knd.is k v=true->kf v=k){a b:Δ}{q l:Μ}{Q:GP}(F:a≠b)(H:SetK knd kf s.heap a q)(I:SetK knd kf s.heap b l)(na:q.Nodup)(nb:l.Nodup)(la:q.length+l.length<=100)
  (h:∀h' f,(∀c o,s.heap.get? c=↑o->h'.get? c=↑o)->SetK knd kf h' s.heap.objs.size f->f.Nodup->(∀k,k∈f↔k∈q\/k∈l)->Q (.ref s.heap.objs.size) {s with heap:=h'}):
  ε (model prog w) A (binaryOp .BitOr (.ref a) (.ref b)) Q E s:=by
 have j:=H.type (h:=s.heap)
 have u:=I.type (h:=s.heap)
 refine wpAny_binaryOp_same (op:= .BitOr) (T:="set") j u PySem.F.fills_set_or PySem.F.slot_set_or (J5 PySem.F.slot_set_or j lf ?_ (PySem.F.args_set_or_2 _ _))
 rw[DZ];refine Ja (Ja (Zy j ?_))
 show ε _ _ (γ.Frozenset.isAnySet (Γ.ref b)) _ _ _
 refine Zy u ?_
 simp only[Bool.not_true,Bool.false_eq_true,JD];refine Ja (Jd (Ja ?_))
 unfold γ.Frozenset.copyOf γ.Frozenset.baseOf;refine Ja (Ja (Ja (FI j sub_set_self (Jd ?_))))
 rw[Jc Z];refine Ja (k6 ?_)
 refine Ja (Jd ?_)
 have hr:(s.heap.push (zV (! zu w))).get? s.heap.objs.size=↑(zV (! zu w)):=Jq _ Z
 have m:∀c o,s.heap.get? c=↑o->(s.heap.push (zV (! zu w))).get? c=↑o:=λc o e=>Jl _ e
 have G:SetK knd kf (s.heap.push (zV (! zu w))) a q:=H.at (m a)
 have M:SetK knd kf (s.heap.push (zV (! zu w))) b l:=I.at (m b)
 have O:=H.lt;have D:=I.lt;have P:s.heap.objs.size≠a:=(Jk O).symm
 have p:s.heap.objs.size≠b:=(Jk D).symm
 refine Ja (ga (s:={s with heap:=s.heap.push (zV (! zu w))}) P (uD hr) G (by lia) λh1 y B L=>Jd ?_)
 have C:((Γ.ref b:Γ) != Γ.ref a)=true:=by
  rw[bne_iff_ne];intro e;cases e;exact F Z
 rw[Jc C];have i:SetK knd kf h1 b l:=M.at λo1 e1=>by rw[y.2 b p.symm];exact e1
 have t:Θ.TypeIs {s with heap:=h1} (.ref b) "set":=i.type (s:={s with heap:=h1}) (h:=s.heap)
 refine Ja (Jd (Ja (JI ?_)))
 unfold γ.Frozenset.updateFrom;refine Ja (Zy t ?_)
 rw[Jc Z];refine Ja (Ja (Jd (Jd ?_)))
 unfold γ.Frozenset.merge;obtain⟨ob,eb,a0,tb,U,b2,S,X,_⟩:=id i;refine Ja (wpAny_setEpoch_of (s:={s with heap:=h1}) U S X ?_)
 have x:∀g f,Ψ.SameBut s.heap.objs.size h1 g->SetK knd kf g s.heap.objs.size f->f.Nodup->(∀k,k∈f↔k∈q\/k∈l)->Q (.ref s.heap.objs.size) {s with heap:=g}:=λg f d hk J n=>by
  refine h g f (λc o e=>?_) hk J n
  have W:c≠s.heap.objs.size:=Jk (Jj e)
  rw[d.2 c W,y.2 c W];exact m c o e
 by_cases R:q=[]
 ·subst R
  refine ga (s:={s with heap:=h1}) p (L Z) i (by lia) λg d r _=>?_
  exact Jd (Jd #[_,Z,(λe=>nomatch e),x g l d r nb λk=>by simp])
 ·refine Ba (s:={s with heap:=h1}) N p B i R na la (λs' Q' z Y=>?_) λg f d r J n=>?_
  ·unfold γ.Frozenset.unchanged
   refine Ja (wpAny_setEpoch_of (s:=s') (z _ U) S X ?_)
   simp only[bne_self_eq_false,Bool.false_eq_true,JD];exact Jd Y
  ·exact Jd (Jd #[_,Z,(λe=>nomatch e),x g f d r J n])
end
theorem bT{a:Type}(xs:Array a)(i:Nat):(SetTable.eraseAt xs i).toList=xs.toList.eraseIdx i:=by
 unfold SetTable.eraseAt;rw[Array.toList_append,Array.toList_extract,Array.toList_extract,List.eraseIdx_eq_take_drop_succ];congr 1
 simp
 exact Gn (by simp)
theorem nu{a:Type}{l:List a}{j:Nat}(c:j<l.length):(l[j]::l.eraseIdx j).Perm l:=by
 rw[List.eraseIdx_eq_take_drop_succ];refine List.perm_middle.symm.trans ?_
 rw[List.getElem_cons_drop,List.take_append_drop]
theorem Rs.erase{xs:Array Nat}(h:Rs xs)(i:Nat):Rs (SetTable.eraseAt xs i):=by
 unfold Rs;rw[bT];exact List.Pairwise.sublist (List.eraseIdx_sublist _ _) h
theorem AU{t:SetTable}{n i:Nat}(hf:t.fits n=true)(hi:i<n):(t.drop i).fits (n-1)=true/\(TOk t->TOk (t.drop i))/\(t.drop i).led=t.led:=by
 unfold SetTable.fits at hf;rw[JC,JW,decide_eq_true_eq]at hf;have c:i<t.place.size:=by lia
 have e:t.place[i]? =some t.place[i]:=getElem?_pos t.place i c
 unfold SetTable.drop;rw[e]
 dsimp only
 have f:(SetTable.eraseAt t.place i).size=n-1:=by rw[<- Jp,bT,List.length_eraseIdx_of_lt (by rw[Jp];exact c),Jp];lia
 have d:(SetTable.insertAt t.dummies (SetTable.below t.dummies t.place[i]) t.place[i]).size=t.dummies.size+1:=by
  rw[<- Jp,SetTable.toList_insertAt,Jv,JN,EX,FF,Jp];lia
 refine#[?_,λh a=>(h a).erase i,Z]
 unfold SetTable.fits SetTable.fill
 dsimp only
 rw[f,d];unfold SetTable.fill at hf;rw[JC,JW,decide_eq_true_eq]
 exact#[Z,by lia]
section
variable{prog:Ξ}{w:Ω}{K:Type} [DecidableEq K]{knd:PySem.KeyKind prog w K}{kf:Γ->K}
variable{A:Around}{E:GP}{s:Θ}
theorem ud(l:∀k v,knd.is k v=true->kf v=k){a:Δ}{ks:Μ}{k:K}{x:Γ}{Q:Bool->Θ->Prop}(f:knd.is k x=true)(F:x.scannable=true)
  (J:SetK knd kf s.heap a ks)
  (h:∀h',Ψ.SameBut a s.heap h'->SetK knd kf h' a (ks.erase k)->Q (decide (k∈ks)) {s with heap:=h'}):
  ε (model prog w) A (setDiscardHashed a x (knd.hash k)) Q E s:=by
 obtain⟨o,es,ep,t,m,D,g,u,N,c,i,B⟩:=id J;have d:k∈ks↔∃e∈es.toList,knd.is k e.2=true:=by rw[<- i.mem_iff];exact mf l c k
 unfold setDiscardHashed setFind setFindIn;refine Ja (Ja (wpAny_setState_of m g u ?_))
 dsimp only
 rw[byScan_of F N c];simp only[↓reduceIte];refine Ja (E7 (Ja (wpAny_setScan_of f m g u c ?_)))
 cases hr:List.findIdx? (λe=>knd.is k e.2) es.toList with
 |none=>
  have hk:k∉ks:=λz=>by
   obtain⟨e,q,y⟩:=d.mp z
   have:=List.findIdx?_eq_none_iff.mp hr e q
   rw[y]at this;cases this
  dsimp only
  refine Jd (Jd ?_)
  have:=h s.heap (Ψ.SameBut.refl a s.heap) (by rw[List.erase_of_not_mem hk];exact J)
  rw[Jo hk]at this;exact this
 |some j=>
  obtain⟨r,p,_⟩:=List.findIdx?_eq_some_iff_getElem.mp hr
  have hk:k∈ks:=d.mpr #[es.toList[j],Fi r,p]
  have G:j<es.size:=by rw[<- Jp];exact r
  dsimp only
  refine Jd ?_
  dsimp only
  rw[Nat.zero_add];refine Ja (wpAny_setState_of m g u ?_)
  dsimp only
  obtain⟨R,L,O⟩:=AU u G;have C:=bT es j;have sz:(SetTable.eraseAt es j).size=es.size-1:=by rw[<- Jp,C,List.length_eraseIdx_of_lt r,Jp]
  have n:(SetTable.eraseAt es j).size<scanBound:=by lia
  refine Ja (wpAny_storeSet_of m g (Ja (wpAny_point (Jd ?_))) (fits_of_scanBound n))
  have y:(es.toList[j]::es.toList.eraseIdx j).Perm es.toList:=nu r
  have H:kf es.toList[j].2=k:=l k _ p
  have:=h _ (J8 s.heap a (Obj.putSet (SetTable.eraseAt es j) (t.drop j))) #[_,_,_,_,Zh m g _ _,D,Z,by rw[sz];exact R,n,?_,?_,?_]
  ·rw[Ji hk]at this;exact this
  ·intro e q
   rw[C]at q;exact c e ((List.eraseIdx_sublist _ _).subset q)
  ·rw[C]
   have I:=(y.map λe=>kf e.2).trans i
   rw[JS,H]at I
   exact(List.cons_perm_iff_perm_erase.mp I).2
  ·rcases B with z|⟨M,P⟩
   ·exact .inl z
   ·exact .inr #[O.trans M,L P]
theorem vt(H:∀k v,knd.is k v=true->kf v=k){a b:Δ}(id:String)(O:b≠a){o:Obj}{es:Array (Int×Γ)}{ep:Nat}{t:SetTable}{q:Μ}{Q:PUnit->Θ->Prop}(hd:o.data= .set es ep t)(hf:t.fits es.size=true)(i:Array (Int×Γ))(R:ElemsOf knd i.toList)(U:(i.toList.map λe=>kf e.2).Nodup)(hn:q.length+i.size+1<scanBound)
  (ho:s.heap.get? b=↑o)(hS:SetK knd kf s.heap a q)(G:q.Nodup)
  (h:∀h' j,Ψ.SameBut a s.heap h'->SetK knd kf h' a j->j.Nodup->j.length<=q.length+i.size->(∀k,k∈j↔¬(k∈q↔k∈(i.toList.map λe=>kf e.2)))->Q #[] {s with heap:=h'}):
  ε (model prog w) A (forIn i PUnit.unit λx _=>do
   holding [x.2] (do
    let d <- setDiscardHashed a x.2 x.1
    if(! d)=true then do
     let _ <- setAddHashed a x.2 x.1
     pure PUnit.unit
    else pure PUnit.unit)
   γ.Frozenset.unchanged id b ep
   pure (ForInStep.yield PUnit.unit)) Q E s:=by
 obtain⟨W,g,M,tk,L⟩:=s;refine PySem.MeetsSeq2.wpAny_forIn_array _ (λrest _ s'=>∃h' done j,s'=#[h',g,M,tk,L]/\i.toList=done++rest/\Ψ.SameBut a W h'/\SetK knd kf h' a j/\j.Nodup/\(∀k,k∈j↔¬(k∈q↔k∈(done.map λe=>kf e.2)))/\j.length<=q.length+done.length) _ ?_ ?_ i _ #[W,[],q,Z,Z,Ψ.SameBut.refl a W,hS,G,λk=>by simp,Jf _]
 ·rintro⟨hh,x⟩ rest _ s' ⟨h',done,j,rfl,e,X,F,G,C,len⟩
  have hx:(hh,x)∈i.toList:=by rw[e];exact JV _ JB
  obtain⟨⟨k,hk,n⟩,J⟩:=R _ hx
  dsimp only at hk n J⊢
  subst n;have kx:kf x=k:=H k x hk
  have a5:done.length+1<=i.size:=by
   have:=JH List.length e
   rw[Jp,Jv,JN]at this;lia
  have D:k∉(done.map λe=>kf e.2):=λz=>by
   rw[e,JK,Fv]at U;exact U.2.2 k z k (by rw[JS];show k∈kf x::_;rw[kx];exact JB) Z
  have mk:k∈j↔k∈q:=by
   rw[C k];constructor
   ·intro z
    refine Decidable.byContradiction λy=>z #[λu=>absurd u y,λu=>absurd u D]
   ·intro z y
    exact D (y.mp z)
  have P:∀B l,Ψ.SameBut a h' B->SetK knd kf B a l->l.Nodup->(∀p,p∈l↔(if p=k then k∉j else p∈j))->l.length<=j.length+1->∀(f:Θ->Prop),(∀s',(∃h' done j,s'=(#[h',g,M,tk,L]:Θ)/\i.toList=done++rest/\Ψ.SameBut a W h'/\SetK knd kf h' a j/\j.Nodup/\(∀k,k∈j↔¬(k∈q↔k∈(done.map λe=>kf e.2)))/\j.length<=q.length+done.length)->f s')->ε (model prog w) A (do
    γ.Frozenset.unchanged id b ep
    pure (ForInStep.yield PUnit.unit)) (λS s'=>match S with| .yield _=>f s'| .done b'=>Q b' s') E #[B,g,M,tk,L]:=by
   intro B l m r a3 N a4 f hZ;unfold γ.Frozenset.unchanged;have Y:B.get? b=↑o:=by rw[m.2 b O,X.2 b O];exact ho
   refine Ja (Ja (wpAny_setEpoch_of (s:=#[B,g,M,tk,L]) Y hd hf ?_))
   simp only[bne_self_eq_false,Bool.false_eq_true,JD];refine Jd (Jd (hZ _ #[B,done++[(knd.hash k,x)],l,Z,by rw[e,Fh];rfl,X.trans m,r,a3,λp=>?_,by rw[Jv,Fd];lia]))
   rw[N,JK,JL]
   show _↔¬(_↔_\/p∈[kf x])
   rw[kx,Jh]
   by_cases c:p=k
   ·subst c
    rw[Jc Z,mk];constructor
    ·intro z y;exact z (y.mpr (.inr Z))
    ·intro z y;exact z #[λ_=> .inr Z,λ_=>y]
   ·rw[Jb c,C p]
    simp only[c,JF]
  refine Ja (JI (Ja (ud (s:=#[h',g,M,tk,L]) H hk J F λB m r=>?_)))
  by_cases I:k∈j
  ·rw[Ji I,Jb ⋯]
   refine Jd ?_
   refine Jw (P B _ m r (G.erase k) (λp=>?_) (JG (List.length_erase_le ..) (Fk _)) _ λs' z=>z) (λS s' z=>by cases S<;>exact z) λ_ _ z=>z
   by_cases c:p=k
   ·subst c
    rw[Jc Z]
    exact#[λz=>absurd z (List.Nodup.not_mem_erase G),λz=>absurd I z]
   ·rw[Jb c];exact List.mem_erase_of_ne c
  ·rw[Jo I,Jc (show(! false)=true from Z)]
   rw[List.erase_of_not_mem I]at r;refine Ja (rJ (s:=#[B,g,M,tk,L]) H hk J r (by lia) λh3 a1 T=>Jd ?_)
   rw[Jb I]at T;refine Jw (P h3 _ (m.trans a1) T ?_ (λp=>?_) (by rw[Jv];exact Jf _) _ λs' z=>z) (λS s' z=>by cases S<;>exact z) λ_ _ z=>z
   ·rw[Fv]
    exact#[G,by simp,λx1 a2 y1 a0 e1=>I (by rw[Jh.mp a0]at e1;rw[<- e1];exact a2)]
   ·rw[JL,Jh]
    by_cases c:p=k
    ·rw[Jc c];exact#[λ_=>I,λ_=> .inr c]
    ·rw[Jb c];exact#[λz=>z.resolve_right c,.inl]
 ·rintro _ s' ⟨h',done,j,rfl,e,X,F,G,C,len⟩
  rw[E3]at e;refine h h' j X F G (by rw[<- Jp,e];exact len) (by rw[e];exact C)
theorem jJ:entryFor table "set.__xor__"=some γ.«frozenset.__xor__»:=
 entryFor_alias (id':="frozenset.__xor__") (by kernel_rfl) Z nofun (by kernel_rfl)
theorem Cn(x y:Γ):γ.«frozenset.__xor__» #[[x,y],[]]=(do
 if !(<- γ.Frozenset.isAnySet x <&&> γ.Frozenset.isAnySet y)then
  rule s!"frozenset.{"__xor__"}.declined"
  return <- ret .notImplemented
 ret (<- (λ(id:String) (l:Δ) (r:Γ)=>(do
  let a <- γ.Frozenset.newFrom id (<- γ.Frozenset.baseOf l) r
  holding [a] (γ.Frozenset.symmetricDifferenceUpdate id (<- γ.Frozenset.addrOf a) (.ref l))
  return a:Sem Γ)) s!"frozenset.{"__xor__"}" (<- γ.Frozenset.addrOf x) y)):=Z
theorem DJ(S:∀k v,knd.is k v=true->kf v=k){a b:Δ}{d j:Μ}{Q:GP}(b6:a≠b)(M:SetK knd kf s.heap a d)(N:SetK knd kf s.heap b j)(na:d.Nodup)(nb:j.Nodup)(la:d.length+j.length<=1000)(lb:j.length<=100)
  (h:∀h' p,(∀c o,s.heap.get? c=↑o->h'.get? c=↑o)->SetK knd kf h' s.heap.objs.size p->p.Nodup->p.length<=d.length+j.length->(∀k,k∈p↔¬(k∈d↔k∈j))->Q (.ref s.heap.objs.size) {s with heap:=h'}):
  ε (model prog w) A (binaryOp .BitXor (.ref a) (.ref b)) Q E s:=by
 have f:=M.type (h:=s.heap)
 have r:=N.type (h:=s.heap)
 refine wpAny_binaryOp_same (op:= .BitXor) (T:="set") f r PySem.F.fills_set_xor PySem.F.slot_set_xor (J5 PySem.F.slot_set_xor f jJ ?_ (PySem.F.args_set_xor_2 _ _))
 rw[Cn];refine Ja (Ja (Zy f ?_))
 show ε _ _ (γ.Frozenset.isAnySet (Γ.ref b)) _ _ _
 refine Zy r ?_
 simp only[Bool.not_true,Bool.false_eq_true,JD];refine Ja (Jd (Ja ?_))
 unfold γ.Frozenset.newFrom γ.Frozenset.baseOf;refine Ja (Ja (FI f sub_set_self (Jd ?_)))
 rw[Jc Z];refine Ja (Ja (k6 ?_))
 have hr:(s.heap.push (zV (! zu w))).get? s.heap.objs.size=↑(zV (! zu w)):=Jq _ Z
 have l:∀c o,s.heap.get? c=↑o->(s.heap.push (zV (! zu w))).get? c=↑o:=λc o e=>Jl _ e
 have J:SetK knd kf (s.heap.push (zV (! zu w))) a d:=M.at (l a)
 have m:SetK knd kf (s.heap.push (zV (! zu w))) b j:=N.at (l b)
 have Y:=M.lt;have F:=N.lt;have g:s.heap.objs.size≠a:=(Jk Y).symm
 have R:s.heap.objs.size≠b:=(Jk F).symm
 refine Ja (Jd (Ja (JI ?_)))
 unfold γ.Frozenset.updateFrom;have z:Θ.TypeIs {s with heap:=s.heap.push (zV (! zu w))} (.ref b) "set":=m.type (s:={s with heap:=s.heap.push (zV (! zu w))}) (h:=s.heap)
 refine Ja (Zy z ?_)
 rw[Jc Z];refine Ja (Ja (Jd (Jd ?_)))
 unfold γ.Frozenset.merge;obtain⟨ob,eb,b5,tb,b1,b2,b3,b4,_⟩:=id m;refine Ja (wpAny_setEpoch_of (s:={s with heap:=s.heap.push (zV (! zu w))}) b1 b3 b4 ?_)
 refine ga (s:={s with heap:=s.heap.push (zV (! zu w))}) R (uD hr) m lb λh1 t B _=>Jd ?_
 have x:SetK knd kf h1 a d:=J.at λo1 e1=>by rw[t.2 a g.symm];exact e1
 have i:Θ.TypeIs {s with heap:=h1} (.ref a) "set":=x.type (s:={s with heap:=h1}) (h:=s.heap)
 refine Ja (Jd (Ja (JI ?_)))
 unfold γ.Frozenset.symmetricDifferenceUpdate;have C:((Γ.ref a:Γ)==Γ.ref s.heap.objs.size)=false:=by
  rw[E9];intro e;cases e;exact g Z
 rw[C];simp only[Bool.false_eq_true,JD];refine Ja (FR i ?_)
 have H:((Γ.type "set":Γ)==Γ.type "dict")=false:=by decide
 rw[H];simp only[Bool.false_eq_true,JD];refine Ja (Zy i ?_)
 rw[Jc Z];refine Ja (Jd (Ja (Jd ?_)))
 obtain⟨oa,ea,b7,ta,X,a2,L,O,a5,a6,a7,a8⟩:=id x;refine Ja (wpAny_setEpoch_of (s:={s with heap:=h1}) X L O ?_)
 refine JI (Ja (n6 (s:={s with heap:=h1}) X a2 L O a5 a6 a8 B λn h2 G q W=>?_))
 have b8:n.size=d.length:=by rw[<- Jp,G.length_eq,Jp,<- a7.length_eq,Je,Jp]
 have D:h2.get? a=↑oa:=by rw[q.2 a g.symm];exact X
 have e4:scanBound=4096:=Z
 have u:(n.toList.map λe=>kf e.2).Perm d:=(G.map λe=>kf e.2).trans a7
 refine Ja (vt (s:={s with heap:=h2}) S (toString "frozenset."++toString "__xor__") g.symm L O n (a6.perm G) (u.nodup_iff.mpr na) (by lia) D W nb λh3 p P a0 I b0 y=>Jd (Jd (Jd #[_,Z,(λe=>nomatch e),?_])))
 refine h h3 p (λc o e=>?_) a0 I (by lia) λk=>?_
 ·have U:c≠s.heap.objs.size:=Jk (Jj e)
  rw[P.2 c U,q.2 c U,t.2 c U];exact l c o e
 ·rw[y,u.mem_iff]
  exact not_congr #[Iff.symm,Iff.symm]
end
end S0
namespace L3
open PySem PySem.Spec PyProof.Rows L2 S0
section
variable{prog:Ξ}{w:Ω}{A:Around}{E:GP}{s:Θ}
theorem sG{a:Δ}{ks:Β}{Q:GP}(N:A.handled=none)(S:SetK (PySem.intKind prog w) numOf s.heap a ks)(P:ks.length<64)
  (h:∀(h':Ψ) (tk:Nat) (d:Drawn) (l:Δ) (its:Ζ) (n:Nat) (ns:Β),s.heap.objs.size<=l->(∀b o,s.heap.get? b=↑o->h'.get? b=↑o)->h'.get? l=↑(seqObj "list" its.toArray n)->
   IntsAre its ns->ns.Perm ks->ns.Pairwise (· <= ·)->Q (.ref l) {s with heap:=h',toks:=tk,drawn:=d}):
  ε (model prog w) A (call (.builtin "sorted") [.ref a]) Q E s:=by
 obtain⟨o,es,ep,t,M,z,F,J,B,x,r,u⟩:=S;refine Calls.call_function_entry kind_sorted plain_sorted entry_sorted (args_sorted1 _) ?_
 unfold γ.«sorted»
 refine Ja (m:=checkCount "sorted" 1 1 _) (Jd ?_)
 refine Ja (ja N M z F J B u λvs h' tk d hk K q=>?_)
 have G:IntsAre vs (vs.map numOf):=by
  refine intsAre_map vs λv I=>?_
  obtain⟨e,D,rfl⟩:=Jt.mp (q.mem_iff.mp I)
  obtain⟨⟨k,h1,_⟩,_⟩:=x e D;obtain⟨T,H⟩:=Γ.isInt_shape h1
  exact#[k,T,H]
 have g:(vs.map numOf).Perm ks:=by
  refine(q.map numOf).trans ?_
  rw[ET];exact r
 have y:vs.length<=ζ:=by
  rw[q.length_eq,Je,Jp];exact fits_of_scanBound B
 have f:vs.length<64:=by
  have:=g.length_eq
  rw[Je]at this;omega
 refine Ja (wpAny_newList ?_ y)
 have c:(h'.push (seqObj "list" vs.toArray 0)).get? h'.objs.size=↑(seqObj "list" vs.toArray 0):=Jq _ Z
 show ε _ _ _ _ _ {s with heap:=h'.push (seqObj "list" vs.toArray 0),toks:=tk,drawn:=d}
 refine Ja (JI (J5 slot_list_sort #[_,c,Z] entry_list_sort (list_sort_tree c G f λout ns O L R=>#[_,Z,?_]) (args_list_sort _)))
 obtain⟨j,p⟩:∃j,(sortedHeap (h'.push (seqObj "list" vs.toArray 0)) h'.objs.size vs out).get? h'.objs.size=↑(seqObj "list" out j):=sortedHeap_at c
 refine Jd #[_,Z,h _ tk d h'.objs.size out.toList j ns K (λb o e=>?_) (by rw[p]) O (L.trans g) R]
 have C:=hk b o e;have i:b<h'.objs.size:=Jj C
 rw[sortedHeap_old (Jk i) (by rw[JX];exact EY i)]
 exact Jl _ C
end
section
variable{X:Cx}
theorem jN(hc:X.calm=true):zi X (.builtin "sorted") (λxs H Q=>∃(p:Δ) (ks:Β),xs=[.ref p]/\H p=↑(av X.prog X.w p ks)/\ks.length<64/\
  ∀l (ms:Β),H l=none->ms.Perm ks->ms.Pairwise (· <= ·)->Q (.ref l) (GW H l (.lst (ms.map V.int)))):=by
 intro Oa s σ H xs z Q I r h;obtain⟨p,ks,rfl,y,e,q⟩:=h;obtain⟨u,rfl,x⟩:=zM r;cases x;obtain⟨m,_⟩:=I.hok p _ y;have f:=SetK.len m;refine sG (I.ok.hd hc) m e λh' tk d l c n g i hk v w j t=>?_
 refine#[.ref l,_,(I.laid (a:=l) (o:= .lst (g.map V.int)) (t':=tk) hk i ?_).drw d,Z,q l g (I.hok.fresh i) j t]
 refine#[?_,c,n,dv w,v]
 rw[Je,j.length_eq];exact fits_of_scanBound f
inductive NV (X:Cx) (x:V) (y:V) (H:Hp) (Q:VK):Prop
 |mk (a b:Δ) (ka kb:Α) (h1:x= .ref a) (h2:y= .ref b) (h3:a≠b) (h4:H a=↑(ao X.prog X.w a ka)) (h5:H b=↑(ao X.prog X.w b kb)) (h6:ka.Nodup) (h7:kb.Nodup) (h8:ka.length+kb.length<=100) (h9:∀l ks,H l=none->ks.Nodup->(∀k,k∈ks↔k∈ka\/k∈kb)->Q (.ref l) (GW H l (ao X.prog X.w l ks)))
def ED(X:Cx):R2:=λx y H Q=>NV X x y H Q
theorem C3:zt X (binaryOp .BitOr) (ED X):=by
 intro Oa s σ H x y v u Q I i g h;obtain⟨a,b,E,C,rfl,rfl,c,B,w,p,nb,z,q⟩:=h;cases i;cases g;obtain⟨l,_⟩:=I.hok a _ B;obtain⟨m,_⟩:=I.hok b _ w;refine EC (tj _ _) c l m p nb z λh' r j f n d=>?_
 refine#[.ref s.heap.objs.size,_,I.laid (t':=s.toks) (o:=ao X.prog X.w s.heap.objs.size r) j (Jf _) #[f,?_,λh1 D t A=>t.at A],Z,q _ _ (I.hok.fresh (Jf _)) n d]
 obtain⟨o,_,_,_,e,_⟩:=f
 exact#[o,e]
inductive Nz (X:Cx) (x:V) (y:V) (H:Hp) (Q:VK):Prop
 |mk (a b:Δ) (ka kb:Β) (h1:x= .ref a) (h2:y= .ref b) (h3:a≠b) (h4:H a=↑(av X.prog X.w a ka)) (h5:H b=↑(av X.prog X.w b kb)) (h6:ka.Nodup) (h7:kb.Nodup) (h8:ka.length+kb.length<=1000) (h9:kb.length<=100) (h10:∀l ks,H l=none->ks.Nodup->ks.length<=ka.length+kb.length->(∀k,k∈ks↔¬(k∈ka↔k∈kb))->Q (.ref l) (GW H l (av X.prog X.w l ks)))
def DC(X:Cx):R2:=λx y H Q=>Nz X x y H Q
theorem Ap:zt X (binaryOp .BitXor) (DC X):=by
 intro Oa s σ H x y v u Q I i g h;obtain⟨a,b,F,D,rfl,rfl,c,B,w,p,nb,z,C,q⟩:=h;cases i;cases g;obtain⟨l,_⟩:=I.hok a _ B;obtain⟨m,_⟩:=I.hok b _ w;refine DJ (uw _ _) c l m p nb z C λh' r j f n len d=>?_
 refine#[.ref s.heap.objs.size,_,I.laid (t':=s.toks) (o:=av X.prog X.w s.heap.objs.size r) j (Jf _) #[f,?_,λh1 E t A=>t.at A],Z,q _ _ (I.hok.fresh (Jf _)) n len d]
 obtain⟨o,_,_,_,e,_⟩:=f
 exact#[o,e]
end
end L3
namespace L3
open PySem PySem.Spec PyProof.Rows L2 SeqAt
section
variable{X:Cx}
theorem Bf{Oa:GR}{σ:L2.St}{H:Hp}{s:Θ}{A:Around}(I:L2.GX X Oa σ H s){a b:Δ}{z c:Int×Int}(h1:H a=↑(.tup [.int z.1,.int z.2]))(h2:H b=↑(.tup [.int c.1,.int c.2]))(hu:A.units<cLine):EqAt A s (.ref a) (.ref b) (decide (z=c)):=by
 by_cases i:a=b
 ·subst i
  rw[h1]at h2;injection h2 with h2
  injection h2 with h2
  have e:z=c:=by
   simp only[List.cons.injEq,V.int.injEq,and_true]at h2;exact Prod.ext h2.1 h2.2
  rw[Ji e];exact EqAt.same _
 ·obtain⟨h,p,r,_⟩:=I.tuple (G9.of (K:=X.K) h1)
  obtain⟨g,o,p2,_⟩:=I.tuple (G9.of (K:=X.K) h2)
  have l:=p.length;have m:=o.length;have e:=RcAt.tuples (A:=A) (e:=λj=>[z.1,z.2].getD j 0==[c.1,c.2].getD j 0) (show s.heap.IsTuple a h.toArray from r) (show s.heap.IsTuple b g.toArray from p2) hu (λj h1 h2=>by
   have f:j<h.length:=by simpa using h1
   have d:j<g.length:=by simpa using h2
   obtain⟨t,e⟩:=fv (ns:=[z.1,z.2]) p j f (by rw[<- l]at f;exact f)
   obtain⟨v,u⟩:=fv (ns:=[c.1,c.2]) o j d (by rw[<- m]at d;exact d)
   simp only[List.getElem_toArray,e,u,Jz,Jg (show j<[z.1,z.2].length by rw[<- l]at f;exact f),Jg (show j<[c.1,c.2].length by rw[<- m]at d;exact d),Fn]
   exact EqAt.int_int _ _ _ _)
  have es:h.toArray.size=2:=by rw[Jr];exact l.symm
  have n:g.toArray.size=2:=by rw[Jr];exact m.symm
  rw[es,n]at e;have e:RcAt A s (.ref a) (.ref b) ((z.1==c.1&&(z.2==c.2&&true))&&true):=e
  have q:((z.1==c.1&&(z.2==c.2&&true))&&true)=decide (z=c):=by
   rw[Fb];simp [Prod.ext_iff]
  rw[q]at e;exact EqAt.of_refs i e
inductive NW (x:V) (y:V) (H:Hp) (Q:VK):Prop
 |mk (a b:Δ) (zs ws:List (Int×Int)) (h1:x= .ref a) (h2:y= .ref b) (h3:Lz H a zs) (h4:Lz H b ws) (h5:Q (.bl (decide (zs≠ws))) H)
def Es:R2:=λx y H Q=>NW x y H Q
theorem Co{k:Nat}(hr:HB k X.A):zt X (compareOp .NotEq) Es:=by
 intro Oa s σ H x y v u Q I m g h;obtain⟨a,b,zs,f,rfl,rfl,⟨W,R,P,M⟩,⟨bs,J,N,G⟩,q⟩:=h;cases m;cases g;obtain⟨d,F,L,_⟩:=I.tuple (G9.of (K:=X.K) R)
 obtain⟨c,B,p2,_⟩:=I.tuple (G9.of (K:=X.K) J)
 have E:=F.length;have t:=B.length;rw[Je]at E t;have U:X.A.units+2<cLine:=by have:=hr.un;lia
 have e:=RcNeAt.tuples (A:=X.A) (e:=λj=>decide (zs.getD j (0,0)=f.getD j (0,0))) (show s.heap.IsTuple a d.toArray from L) (show s.heap.IsTuple b c.toArray from p2) (by lia) (λj h1 n=>by
  have p:j<d.length:=by simpa using h1
  have l:j<c.length:=by simpa using n
  obtain⟨x,ex,m⟩:=zS F p;obtain⟨y,D,g⟩:=zS B l;rw[Jn]at ex D;obtain⟨w,o,rfl⟩:=JZ.mp ex;obtain⟨z,i,rfl⟩:=JZ.mp D;have C:j<zs.length:=by lia
  have r:j<f.length:=by lia
  simp only[List.getElem_toArray];rw[show d[j]=Γ.ref w from m,show c[j]=Γ.ref z from g,Jz,Jz,Jg C,Jg r,Fn,Fn]
  exact Bf I (M j w _ o (Jg C)) (G j z _ i (Jg r)) (by rw[Ga];lia))
 have S:(!((List.range (min d.toArray.size c.toArray.size)).all (λj=>decide (zs.getD j (0,0)=f.getD j (0,0)))&&d.toArray.size==c.toArray.size))=decide (zs≠f):=by
  rw[Jr,Jr,<- E,<- t,P,N];rw[Fb,Bool.not_eq_true',decide_eq_true_eq,<- Bool.not_eq_true,JC,FC,JW];refine not_congr #[λ⟨h1,n⟩=>?_,λh=>?_]
  ·refine List.ext_getElem n λj O T=>?_
   have:=Jx (h1 j (J1.mpr (by lia)))
   rw[Jz,Jz,Jg O,Jg T]at this;exact this
  ·subst h
   exact#[λj _=>Ji Z,Z]
 rw[S]at e;exact e _ _ _ _ #[.bl _,H,I,Z,q]
end
end L3
namespace Lw
open PySem L2 L3
theorem GH:0<=ζ:=by decide
theorem GI:1<=ζ:=by decide
theorem GJ:2<=ζ:=by decide
theorem GK:3<=ζ:=by decide
theorem GL:4<=ζ:=by decide
theorem GM:5<=ζ:=by decide
theorem GN:9<=ζ:=by decide
theorem GO:16<=ζ:=by decide
def qT(i:Nat):δ:=PySem.Challenge.pw_rollcode_k35_rows_that_tell.main.body.getD i (.Pass #[0,0,0,0])
abbrev bo:δ:=qT 3
abbrev bI:δ:=qT 4
abbrev ar:δ:=qT 5
abbrev af:δ:=qT 6
abbrev iM:δ:=qT 7
abbrev eD:δ:=qT 8
abbrev cQ:δ:=qT 14
abbrev eN:δ:=qT 15
abbrev bX:δ:=qT 16
abbrev Zj:δ:=qT 17
abbrev fR:δ:=qT 18
abbrev ZF:δ:=qT 19
abbrev cu:δ:=qT 20
abbrev ae:δ:=qT 21
abbrev eR:δ:=qT 39
abbrev dz:δ:=qT 40
abbrev Q2:δ:=zA (qT 42) 0
abbrev ZA:δ:=zA (qT 42) 2
abbrev Q8:δ:=zA (qT 42) 8
abbrev Q5:δ:=zA (qT 42) 11
abbrev QN:δ:=zA (qT 42) 10
abbrev zZ:δ:=zA (qT 42) 9
abbrev Q7:δ:=zA (qT 42) 7
abbrev aW:δ:=zA (qT 42) 6
abbrev QP:δ:=zA (qT 42) 12
abbrev az:δ:=zA (qT 42) 1
abbrev QD:δ:=zA (qT 42) 5
abbrev Zc:δ:=zA (qT 42) 13
abbrev Zm:δ:=zA (qT 42) 14
abbrev QQ:δ:=zA (qT 42) 15
abbrev QB:δ:=zA (qT 42) 16
abbrev ZD:δ:=zA (qT 42) 18
abbrev ZC:δ:=qT 23
abbrev ZV:δ:=qT 25
abbrev ay:δ:=qT 30
abbrev bu:δ:=qT 28
abbrev ZZ:δ:=qT 27
abbrev ZX:δ:=qT 26
abbrev aC:δ:=qT 29
abbrev dw:δ:=qT 24
abbrev cx:δ:=qT 32
abbrev Zl:δ:=qT 31
abbrev eC:δ:=qT 44
abbrev bL:δ:=qT 45
abbrev bh:δ:=qT 46
abbrev cY:δ:=qT 47
abbrev bm:δ:=qT 48
abbrev cn:δ:=qT 50
abbrev bO:δ:=qT 51
abbrev aV:δ:=qT 52
abbrev aH:δ:=qT 53
abbrev bj:δ:=qT 54
abbrev aq:δ:=qT 55
abbrev cv:δ:=qT 56
abbrev bp:δ:=qT 57
abbrev aJ:δ:=qT 49
abbrev eI:δ:=qT 58
abbrev aU:δ:=qT 59
abbrev bb:δ:=qT 60
abbrev cU:δ:=qT 61
abbrev f8:δ:=qT 62
abbrev Z4:δ:=qT 63
theorem qU{N P:Α}{c:Scope}(h1:c.kind= .function:=by rfl)(h2:c.isCoroutine=false:=by rfl)(d:c.isGenerator=false:=by rfl)(f:N.Nodup:=by decide +kernel)(a:N.take P.length=P:=by rfl)(e:∀x∈P,c.names.lookup x=some .local\/c.names.lookup x=some .cell:=by decide +kernel)(g:∀y∈c.names,y.2≠ .free:=by decide +kernel):GU N P c:=#[h1,h2,d,f,a,e,g]
theorem kI:GU (["thing"]:Α) (["thing"]:Α) (qi bo):=qU
theorem nw:GU (["thing"]:Α) (["thing"]:Α) (qi bI):=qU
theorem jL:GU (["things"]:Α) (["things"]:Α) (qi ar):=qU
theorem Ig:GU (["table","back","place","digit"]:Α) (["table"]:Α) (qi af):=qU
theorem IR:GU (["table","key","digits","row","shift","place","ahead"]:Α) (["table","key","digits"]:Α) (qi iM):=qU
theorem HZ:GU (["table","key","digits","back","row","shift","place","ahead"]:Α) (["table","key","digits"]:Α) (qi eD):=qU
theorem re:GU (["thing"]:Α) (["thing"]:Α) (qi cQ):=qU
theorem rT:GU (["thing"]:Α) (["thing"]:Α) (qi eN):=qU
theorem Iv:GU (["thing","name","age","code"]:Α) (["thing"]:Α) (qi bX):=qU
theorem HK:GU (["name","digits","letter","place"]:Α) (["name"]:Α) (qi Zj):=qU
theorem IT:GU (["table","key","name","sums","place","digit"]:Α) (["table","key","name"]:Α) (qi fR):=qU
theorem gJ:GU (["count"]:Α) (["count"]:Α) (qi ZF):=qU
theorem IS:GU (["table","key","name","age","count","deed","four","five"]:Α) (["table","key","name","age","count","deed"]:Α) (qi cu):=qU
theorem Hl:GU (["table","key","press","name","age","code","low","middle","high","deed","check"]:Α) (["table","key","press"]:Α) (qi ae):=qU
theorem pR:GU (["count","last","near","far"]:Α) (["count","last","near","far"]:Α) (qi eR):=qU
theorem Ia:GU (["button","age","count","near","far","own_age","last","waiting","word"]:Α) (["button","age","count","near","far"]:Α) (qi dz):=qU
theorem bC:GU (["self","table","keys","near","far","most"]:Α) (["self","table","keys","near","far","most"]:Α) (qi Q2):=qU
theorem gK:GU (["self"]:Α) (["self"]:Α) (qi ZA):=qU
theorem fw:GU (["self","name"]:Α) (["self","name"]:Α) (qi Q8):=qU
theorem fE:GU (["self","age"]:Α) (["self","age"]:Α) (qi Q5):=qU
theorem c8:GU (["self","button","age"]:Α) (["self","button","age"]:Α) (qi QN):=qU
theorem ZQ:GU (["self","button","age","count"]:Α) (["self","button","age","count"]:Α) (qi zZ):=qU
theorem G1:GU (["self","press","name","age","code","button","pair","count","deed","word","behind"]:Α) (["self","press"]:Α) (qi Q7):=qU
theorem La:GU (["self","thing","answer"]:Α) (["self","thing"]:Α) (qi aW):=qU
theorem eM:GU (["self","thing"]:Α) (["self","thing"]:Α) (qi QP):=qU
theorem HF:GU (["self","one","other","first","second","name","age","code"]:Α) (["self","one","other"]:Α) (qi az):=qU
theorem cJ:GU (["self","age"]:Α) (["self","age"]:Α) (qi QD):=qU
theorem fF:GU (["self"]:Α) (["self"]:Α) (qi Zc):=qU
theorem fP:GU (["self"]:Α) (["self"]:Α) (qi Zm):=qU
theorem cR:GU (["self"]:Α) (["self"]:Α) (qi QQ):=qU
theorem cM:GU (["self"]:Α) (["self"]:Α) (qi QB):=qU
theorem gR:GU (["self"]:Α) (["self"]:Α) (qi ZD):=qU
theorem Hi:GU (["door","button","age","near","far","most","own_age","last","waiting","stretches","after"]:Α) (["door","button","age"]:Α) (qi ZC):=qU
theorem ia:GU (["door"]:Α) (["door"]:Α) (qi ZV):=qU
theorem jM:GU (["one","first","other","second"]:Α) (["one","first","other","second"]:Α) (qi ay):=qU
theorem mC:GU (["stretches"]:Α) (["stretches"]:Α) (qi bu):=qU
theorem iI:GU (["these","those"]:Α) (["these","those"]:Α) (qi ZZ):=qU
theorem HV:GU (["one","first","other","second","age","these","those"]:Α) (["one","first","other","second"]:Α) (qi ZX):=qU
theorem Ho:GU (["one","first","other","second","age","end","count","word","here","there","press"]:Α) (["one","first","other","second"]:Α) (qi aC):=qU
theorem Ib:GU (["one","other","names","name","press","pair"]:Α) (["one","other"]:Α) (qi dw):=qU
theorem Hw:GU (["door","row","buttons","told","name","age","count","word","behind"]:Α) (["door","row"]:Α) (qi cx):=qU
theorem Ic:GU (["one","other","row","these","those"]:Α) (["one","other","row"]:Α) (qi Zl):=qU
theorem Ie:GU (["_law_script","_law_k","_law_cell","_law_fold","_law_one"]:Α) (["_law_script","_law_k"]:Α) (qi eC):=qU
theorem Ii:GU (["_law_box_here","_law_many","_law_digit","_law_m","_law_turn"]:Α) (["_law_box_here","_law_many"]:Α) (qi bL):=qU
theorem Lc:GU (["_law_box_here","_law_rest"]:Α) (["_law_box_here"]:Α) (qi bh):=qU
theorem rQ:GU (["_law_box_here"]:Α) (["_law_box_here"]:Α) (qi cY):=qU
theorem mR:GU (["_law_near","_law_far","_law_keys"]:Α) (["_law_near","_law_far","_law_keys"]:Α) (qi bm):=qU
theorem HQ:GU (["_law_own","_law_plain_here","_law_name","_law_age","_law_count","_law_row_here","_law_gone"]:Α) (["_law_own","_law_plain_here"]:Α) (qi cn):=qU
theorem Ij:GU (["_law_own","_law_plain_here","_law_word_here","_law_name","_law_age","_law_count"]:Α) (["_law_own","_law_plain_here"]:Α) (qi bO):=qU
theorem Ir:GU (["_law_code","_law_plain_here","_law_deed","_law_name","_law_age","_law_count"]:Α) (["_law_code","_law_plain_here","_law_deed"]:Α) (qi aV):=qU
theorem HM:GU (["_law_code","_law_pair_here","_law_name","_law_told","_law_place","_law_age","_law_last","_law_presses"]:Α) (["_law_code","_law_pair_here","_law_name","_law_told"]:Α) (qi aH):=qU
theorem Ld:GU (["_law_code","_law_pair_here","_law_plain_here","_law_places","_law_place"]:Α) (["_law_code","_law_pair_here","_law_plain_here","_law_places"]:Α) (qi bj):=qU
theorem Ih:GU (["_law_box_here","_law_near","_law_far","_law_other"]:Α) (["_law_box_here"]:Α) (qi aq):=qU
theorem GY:GU (["_law_box_here","_law_drawn_here","_law_names","_law_many","_law_base","_law_code","_law_pair_here","_law_near","_law_far","_law_name","_law_age","_law_last","_law_other","_law_way","_law_some","_law_told","_law_turn","_law_plain_here","_law_door","_law_own"]:Α) (["_law_box_here","_law_drawn_here"]:Α) (qi cv):=qU
theorem Iu:GU (["_law_box_here","_law_some","_law_many","_law_names"]:Α) (["_law_box_here"]:Α) (qi bp):=qU
theorem IU:GU (["_law_own","_law_made"]:Α) (["_law_own"]:Α) (qi aJ):=qU
theorem IX:GU (["_law_owns","_law_row_here","_law_made","_law_opened"]:Α) (["_law_owns","_law_row_here"]:Α) (qi eI):=qU
theorem lO:GU (["_law_door"]:Α) (["_law_door"]:Α) (qi aU):=qU
theorem IJ:GU (["_law_box_here","_law_drawn_here","_law_names","_law_name","_law_age"]:Α) (["_law_box_here","_law_drawn_here"]:Α) (qi bb):=qU
theorem HJ:GU (["_law_box_here","_law_drawn_here","_law_told","_law_row_here","_law_way","_law_made","_law_at","_law_name","_law_age","_law_count"]:Α) (["_law_box_here","_law_drawn_here","_law_told"]:Α) (qi cU):=qU
theorem tH:GU (["_law_found","_law_due_here"]:Α) (["_law_found","_law_due_here"]:Α) (qi f8):=qU
theorem HG:GU (["_law_script","_law_k","_law_box_here","_law_drawn_here","_law_code","_law_pair_here","_law_one","_law_here","_law_other","_law_there","_law_told","_law_turn","_law_row_here","_law_kept","_law_held","_law_found"]:Α) (["_law_script"]:Α) (qi Z4):=qU
structure HN(K:ι)(mg:GQ)(tk:Nat->Tok):Prop where
 g_DIGITS:mg "DIGITS"=↑(.int 16 (tk 0))
 g_KEY_PLACES:mg "KEY_PLACES"=↑(.int 4 (tk 1))
 g_LONGEST_NAME:mg "LONGEST_NAME"=↑(.int 8 (tk 2))
 g_CODE_DIGITS:mg "CODE_DIGITS"=↑(.int 5 (tk 3))
 g_COUNTS:mg "COUNTS"=↑(.int 4096 (tk 4))
 b_isinstance:mg "isinstance"=none
 b_bool:mg "bool"=none
 b_int:mg "int"=none
 b_tuple:mg "tuple"=none
 b_all:mg "all"=none
 b_any:mg "any"=none
 b_len:mg "len"=none
 b_abs:mg "abs"=none
 b_list:mg "list"=none
 b_enumerate:mg "enumerate"=none
 b_range:mg "range"=none
 b_max:mg "max"=none
 b_min:mg "min"=none
 b_str:mg "str"=none
 b_zip:mg "zip"=none
 b_ord:mg "ord"=none
 b_sum:mg "sum"=none
 b_reversed:mg "reversed"=none
 b_sorted:mg "sorted"=none
 b_dict:mg "dict"=none
 b_set:mg "set"=none
section
variable{P:Ξ}{w:Ω}{K:ι}{mg:GQ}{base:Ψ}{tk:Nat->Tok}
theorem lN(a:At K mg "is_number" bo ["thing"])(T:HN K mg tk):Df P w K mg base "is_number" W5 1 gp:=by
 refine a.dq kI λf _ A _ s H vs Q E d h=>?_
 ·obtain⟨x,t,rfl,hk,q⟩:=h
  obtain⟨ty,c⟩:=DR (K:=K) hk
  refine#[_,(qg (qr (Zr (qx fZ T.b_isinstance F0 (qd (qv 0) (qd (aa (v:= .ty "int") Z T.b_int GD Z) qb))) (ZR (Cs (qx fZ T.b_isinstance F0 (qd (qv 0) (qd (aa (v:= .ty "bool") Z T.b_bool PyProof.Rows.boot_bool Z) qb)))))))),?_]
  rw[Ax hk]at q;refine#[_,Z,x,"int",t,Z,ty,c,by simp,_,Z,?_]
  cases hi:aD t "int" with
  |false=>
   refine zw ?_
   rw[hi,EW]at q;exact q
  |true=>
   refine zx ?_
   rw[hi,E6]at q
   exact#[_,Z,x,"bool",t,Z,ty,c,by simp,_,Z,q]
theorem nn(a:At K mg "is_digit" bI ["thing"])(T:HN K mg tk)(e:Df P w K mg base "is_number" W5 1 gp):Df P w K mg base "is_digit" W5 2 oI:=by
 refine a.dq nw λf _ A _ s H vs Q E g h=>?_
 ·obtain⟨x,t,rfl,hk,q⟩:=h
  refine#[_,(qg (qr (Zr (qp e g.mo (qd (qv 0) qb)) (ZR (fW ZM fh qf (qv 0) (zj (v:= .int 16) Z T.g_DIGITS #[_,Z])))))),?_]
  refine#[_,Z,x,t,Z,hk,_,Z,?_]
  cases hn:fX x with
  |false=>
   refine zw ?_
   rw[uN hn]at q;exact q
  |true=>
   refine zx ?_
   obtain⟨i,rfl⟩:=wB hn;refine#[_,Z,_,_,Z,Z,_,Z,?_]
   have c:Q (.bl (decide (0<=i)&&decide (i<16))) H:=q
   refine qV (λd=>?_) (λd=>?_)
   ·refine#[_,_,Z,Z,?_]
    rw[d,E6]at c;exact c
   ·rw[Gc.mpr d,EW]at c
    exact c
theorem jR(a:At K mg "are_digits" ar ["things"])(T:HN K mg tk)(r:Df P w K mg base "is_digit" W5 2 oI):Df P w K mg base "are_digits" ["things"] 3 mG:=by
 refine a.dq jL λf _ A _ s H vs Q E o h=>?_
 ·obtain⟨p,xs,rfl,g,j,hk,q⟩:=h
  refine#[_,(qg (qr (qx (eP Z) T.b_all GF (qd (zB (own:=["thing"]) (fr:=[]) (js:=[]) Z (Zv (qv 0)) Z (λ_ _ h=>nomatch h) Z (Zk Z nofun nofun nofun) (λ_ _ _ _=>qh (i:=0) (show List.Nodup (["thing"]:Α)from by decide +kernel) Z (Or.inl Z) (.inr Z)) (λ_ _ _ _=>(qp r o.mo (qd (qv 0) qb)))) qb)))),?_]
  refine#[_,Z,p,Z,#[xs,G9.of g],Q9 (xs:=xs) j (λi ys d=>ys=(xs.take i).map (λx=>V.bl (cq x))/\GS H d) #[by simp,GS.refl H] (λi ys d ⟨_,c⟩=>G9.of (c _ _ g)) ?_ ?_]
  ·rintro i ys d x e _ ⟨rfl,c⟩
   obtain⟨t,m⟩:=hk x (JP e)
   refine#[_,Z,x,t,Z,ff c m,?_,c]
   rw[J9,e];simp
  ·rintro ys d _ ⟨rfl,c⟩ l n
   rw[E5];refine#[l,xs.map cq,Z,G0.of (by rw[ET];exact qc),?_]
   rw[List.all_map];exact q _ (c.trans (GS.upd n))
theorem rN(a:At K mg "is_name" cQ ["thing"])(T:HN K mg tk):Df P w K mg base "is_name" W5 1 i6:=by
 refine a.dq re λf _ A _ s H vs Q E D h=>?_
 ·obtain⟨x,b,rfl,p,q⟩:=h
  refine#[_,(qe (qK (QW.pt (Zt (Qe (Qn (qx eT T.b_isinstance F0 (qd (qv 0) (qd (aa (v:= .ty "str") Z T.b_str PyProof.Rows.boot_str Z) qb))))) (QV (Qe (j8 ZM ZM qf (qx li T.b_len J6 (qd (qv 0) qb)) (zj (v:= .int 8) Z T.g_LONGEST_NAME #[_,Z])))))) (qg (qr Z3)) qF)
   (qg (qr (qx (eP Z) T.b_all GF (qd (zB (own:=["letter"]) (fr:=[]) (js:=[]) Z (vJ (qv 0)) Z (λ_ _ h=>nomatch h) Z (Zk Z nofun nofun nofun) (λ_ _ _ _=>qh (i:=0) (show List.Nodup (["letter"]:Α)from by decide +kernel) Z (Or.inl Z) (.inr Z)) (λ_ _ _ _=>(fW iQ iQ qB (qv 0) qB))) qb))))),?_]
  rcases p with⟨z,rfl,o,u,rfl⟩|⟨t,hk,y,rfl⟩
  case inr=>
   refine#[_,Z,x,"str",t,Z,kJ hk,by simp,_,Z,?_]
   rw[y];exact zx (q _ (GS.refl _))
  have C:z.length=z.cps.toList.length:=Z
  refine#[_,Z,_,"str","str",Z,.str z,by simp,_,Z,?_]
  refine zw ?_
  refine#[_,Z,z,Z,by rw[Ju];lia,_,_,Z,Z,_,Z,?_]
  unfold yy at q
  by_cases h1:1<=z.length
  case neg=>
   refine Qc (Jo (by lia)) #[_,Z,zx ?_]
   rw[Jo h1,EW,EW]at q;exact q _ (GS.refl _)
  refine zQ (Ji (by lia)) ?_
  refine#[_,_,Z,Z,_,Z,?_]
  rw[Ji h1,E6]at q
  by_cases n:z.length<=8
  case neg=>
   refine zQ (by rw[Jo (by lia:¬((z.length:Nat):Int)<=8)];rfl) ?_
   rw[Jo n,EW]at q;exact q _ (GS.refl _)
  refine Qc (by rw[Ji (by lia:((z.length:Nat):Int)<=8)];rfl) ?_
  rw[Ji n,E6]at q;refine#[_,Z,z,Z,o,wx (by show z.cps.toList.length<=_;rw[Ju];lia) (λi ys j=>j=H/\ys=((z.cps.toList.take i).map mI).map V.bl) #[Z,Z] ?_ ?_]
  ·rintro i ys j c B _ ⟨rfl,rfl⟩
   have g:=oO B;obtain⟨m,r⟩:=rb c;refine#[_,Z,_,_,Z,Z,_,Z,?_]
   rw[J9,g,JK,JK]
   by_cases d:97<=c
   ·refine zQ (by rw[m,Ji d]) #[_,_,Z,Z,Z,?_]
    rw[r]
    show _=_++[V.bl (decide (97<=c)&&decide (c<=122))]
    rw[Ji d,E6]
   ·refine Qc (by rw[m,Jo d]) #[Z,?_]
    show _=_++[V.bl (decide (97<=c)&&decide (c<=122))]
    rw[Jo d,EW]
  ·rintro ys j u ⟨rfl,rfl⟩ l e
   refine#[l,z.cps.toList.map mI,Z,G0.of (by rw[show z.cps.size=z.cps.toList.length from Z,E5];exact qc),?_]
   rw[List.all_map];exact q _ (GS.upd e)
theorem sY(a:At K mg "is_code" eN ["thing"])(T:HN K mg tk)(i:Df P w K mg base "are_digits" ["things"] 3 mG):Df P w K mg base "is_code" W5 4 jn:=by
 refine a.dq rT λf _ A _ s H vs Q E l h=>?_
 ·obtain⟨x,b,rfl,g,q⟩:=h
  refine#[_,(qe (qK (Qe (Qn (qx eT T.b_isinstance F0 (qd (qv 0) (qd (aa (v:= .ty "tuple") Z T.b_tuple J0 Z) qb))))) (qg (qr Z3)) qF)
   (qg (qr (Zr (zR zE (qx qY T.b_len J6 (qd (qv 0) qb)) (zj (v:= .int 5) Z T.g_CODE_DIGITS #[_,Z]) (qA _)) (ZR (qp i l.mo (qd (qv 0) qb))))))),?_]
  rcases g with⟨e,ds,rfl,d,m,hk,rfl⟩|⟨t,hk,j,rfl⟩
  case inr=>
   refine#[_,Z,x,"tuple",t,Z,kJ hk,by simp,_,Z,?_]
   rw[j];exact zx (q _ (GS.refl _))
  refine#[_,Z,_,"tuple","tuple",Z,.tup (.inl d),by simp,_,Z,?_]
  refine zw ?_
  refine#[_,Z,e,_,Z,.inr (G9.of d),Z,_,Z,?_]
  by_cases c:ds.length=5
  ·refine zQ (Ji (by rw[c];rfl)) ?_
   refine#[_,Z,e,_,Z,d,by rw[Ju];lia,hk,λH' s'=>?_]
   rw[Ji c,E6]at q;exact q _ s'
  ·rw[Jo c,EW]at q
   refine Qc (Jo (by intro z;injection z with z;lia)) ?_
   exact q _ (GS.refl _)
theorem nH(a:At K mg "is_press" bX ["thing"])(T:HN K mg tk)(j:Df P w K mg base "is_name" W5 1 i6)(o:Df P w K mg base "is_number" W5 1 gp)(p:Df P w K mg base "is_code" W5 4 jn):Df P w K mg base "is_press" W5 5 cg:=by
 refine a.dq Iv λf _ A _ s H vs Q E g h=>?_
 ·obtain⟨x,b,rfl,m,q⟩:=h
  refine#[_,(qe (qK (QW.pt (Zt (Qe (Qn (qx eT T.b_isinstance F0 (qd (qv 0) (qd (aa (v:= .ty "tuple") Z T.b_tuple J0 Z) qb))))) (QV (qE gF (qx qY T.b_len J6 (qd (qv 0) qb)) qf (qA _))))) (qg (qr Z3)) qF)
   (qe (q9 (qv 0) (ze Z (ql (qh (i:=1) Iv.nd Z (Or.inl Z)) (ql (qh (i:=2) Iv.nd Z (Or.inl Z)) (ql (qh (i:=3) Iv.nd Z (Or.inl Z)) qM)))))
   (qg (qr (Zr (qp j g.mo (qd (qv 1) qb)) (Zr (qp o g.mo (qd (qv 2) qb)) (ZR (qp p g.mo (qd (qv 3) qb))))))))),?_]
  cases m with
  | @kd t hk hs=>
   refine#[_,Z,x,"tuple",t,Z,kJ hk,by simp,_,Z,?_]
   rw[hs];exact zx (q _ (GS.refl _))
  | @len a xs e h l n=>
   subst e;refine#[_,Z,_,"tuple","tuple",Z,.tup (.inl h),by simp,_,Z,?_]
   refine zw ?_
   refine#[_,Z,a,_,Z,.inr (G9.of h),Z,_,Z,?_]
   refine zQ (by rw[Jo (by intro z;injection z with z;lia)];rfl) ?_
   exact q _ (GS.refl _)
  | @tup a n y c bn bc ty e h hn hy hc=>
   subst e;refine#[_,Z,_,"tuple","tuple",Z,.tup (.inl h),by simp,_,Z,?_]
   refine zw ?_
   refine#[_,Z,a,_,Z,.inr (G9.of h),Z,_,Z,?_]
   refine rZ Z ?_
   refine#[_,Z,a,_,Z,.tup h,Z,_,_,Z,_,_,Z,_,_,Z,Z,?_]
   refine#[_,Z,n,bn,Z,hn,λH1 d=>#[_,Z,?_]]
   cases bn with
   |false=>exact zw (q _ d)
   |true=>
    refine zx ?_
    refine#[_,Z,y,ty,Z,ff d hy,_,Z,?_]
    cases hnum:fX y with
    |false=>
     rw[hnum]at q;exact zw (q _ d)
    |true=>
     rw[hnum]at q;refine zx ?_
     exact#[_,Z,c,bc,Z,hc.same d,λu r=>q _ (d.trans r)]
theorem rl(a:At K mg "word_of" eR ["count","last","near","far"])(T:HN K mg tk):Df P w K mg base "word_of" ["count","last","near","far"] 1 oR:=by
 refine a.dq pR λf _ A _ s H vs Q E d h=>?_
 ·obtain⟨c,l,n,f,rfl,q⟩:=h
  unfold rh at q;refine#[_,(qe (qK (qE ZM (qv 0) (qv 1) (qA _)) (qg (qr qB)) qF)
   (qe (qK (qE ZM (qv 0) (qu qI (qv 1) (qv 2)) (qA _)) (qg (qr qB)) qF)
   (qe (qK (qE ZM (qv 0) (qu qI (qv 1) (qv 3)) (qA _)) (qg (qr qB)) qF)
   (qg (qr qB))))),?_]
  refine#[_,Z,_,Z,_,_,Z,Z,_,Z,?_]
  refine qV (λz=>?_) (λz=>?_)
  ·rw[Jc (Jx z)]at q;exact q
  ·rw[Jb (λy=>z (Ji y))]at q
   refine#[_,Z,_,Z,_,Z,_,_,Z,Z,_,_,Z,Z,_,Z,?_]
   refine qV (λz=>?_) (λz=>?_)
   ·rw[Jc (Jx z)]at q;exact q
   ·rw[Jb (λy=>z (Ji y))]at q
    refine#[_,Z,_,Z,_,Z,_,_,Z,Z,_,_,Z,Z,_,Z,?_]
    refine qV (λz=>?_) (λz=>?_)
    ·rw[Jc (Jx z)]at q;exact q
    ·rw[Jb (λy=>z (Ji y))]at q;exact q
theorem p6(a:At K mg "step_by" dz ["button","age","count","near","far"])(T:HN K mg tk)(N:Df P w K mg base "word_of" ["count","last","near","far"] 1 oR):Df P w K mg base "step_by" W0 2 ip:=by
 refine a.dq Ia λf _ A _ s H vs Q E L h=>?_
 ·obtain⟨a,e,age,c,l,p,rfl,⟨v,D,B⟩,q⟩:=h
  refine#[_,(qe (q9 (qv 0) (ze Z (ql (qh (i:=5) Ia.nd Z (Or.inl Z)) (ql (qh (i:=6) Ia.nd Z (Or.inl Z)) (ql (qh (i:=7) Ia.nd Z (Or.inl Z)) qM)))))
   (qe (qw (i:=8) Ia.nd Z (Or.inl Z) (qp N L.mo (qd (qv 2) (qd (qv 6) (qd (qv 3) (qd (qv 4) qb))))))
   (qe (qK (QW.pt (gN (qE zE (qv 8) qB (qA _)) (fq (qE (vw L) (qv 7) (qy (qd (qv 1) (qd (qu zO (qv 2) qf) qb))) (qA _))))) (qg (qw (i:=8) Ia.nd Z (Or.inl Z) qB)) qF)
   (qe (qK (qE zE (qv 8) qB (qA _)) (qg (qr (qy (qd (qv 8) (qd (qy (qd (qv 1) (qd (qv 2) (qd zd qb)))) qb))))) qF)
   (qe (qK (qE zE (qv 8) qB (qA _)) (qg (qr (qy (qd (qv 8) (qd (qy (qd (qv 5) (qd (qv 6) (qd (qy (qd (qv 1) (qd (qv 2) qb))) qb)))) qb))))) qF)
   (qg (qr (qy (qd (qv 8) (qd (qv 0) qb)))))))))),?_]
  refine#[_,Z,a,_,Z,.tup D,Z,_,_,Z,_,_,Z,_,_,Z,Z,?_]
  refine#[_,Z,_,Z,_,Z,_,Z,c,e.last,l,p,Z,?_]
  unfold zr at q;unfold rh
  by_cases h1:c<=e.last
  ·rw[Jc h1]
   rw[Jc h1]at q;refine#[_,Z,Z,_,Z,?_]
   refine qV (λy=>absurd (Jx y) nofun) (λ_=>?_)
   refine#[_,Z,Z,_,Z,?_]
   refine qV (λy=>absurd (Jx y) nofun) (λ_=>?_)
   refine#[_,Z,Z,_,Z,?_]
   refine qV (λy=>absurd (Jx y) nofun) (λ_=>?_)
   refine#[_,Z,_,Z,GJ,λg d=>?_]
   exact q g a _ (GS.upd d) qc (HS.same (GS.upd d) #[v,D,B])
  ·rw[Jb h1]
   rw[Jb h1]at q
   by_cases u:c<=e.last+l
   ·rw[Jc u]
    rw[Jc u]at q;refine#[_,Z,Z,_,Z,?_]
    refine qV (λy=>absurd (Jx y) nofun) (λ_=>?_)
    refine#[_,Z,Z,_,Z,?_]
    refine qV (λ_=>?_) (λy=>absurd (Ji Z) y)
    refine#[_,Z,_,Z,_,Z,GK,λt n=>#[GJ,λg d=>?_]]
    have m:=GS.upd (o:= .tup [.int age,.int c,.non]) n
    have j:=GS.upd (o:= .tup [.str "near",.ref t]) d
    exact q g t _ (m.trans j) qc #[.non,j _ _ qc,Z]
   ·rw[Jb u]
    rw[Jb u]at q
    by_cases x:c<=e.last+p
    ·rw[Jc x]
     rw[Jc x]at q;refine#[_,Z,Z,_,Z,?_]
     refine qV (λ_=>?_) (λy=>absurd (Ji Z) y)
     refine#[_,Z,_,Z,_,Z,_,_,Z,Z,GJ,λM z=>?_]
     have C:=GS.upd (o:= .tup [.int age,.int (c-1)]) z
     have J:=B.mv (S:=[]) C.mv (λc h=>nomatch h)
     refine#[e.wt,M,age,c-1,J,Z,.inl qc,_,Z,?_]
     by_cases r:e.wt=↑(age,c-1)
     ·rw[Jc r]at q
      refine zQ (Ji r) ?_
      refine#[_,Z,Z,_,Z,?_]
      refine qV (λ_=>?_) (λy=>absurd (Ji Z) y)
      refine#[_,Z,_,Z,_,Z,GK,λt n=>#[GJ,λg d=>?_]]
      have m:=GS.upd (o:= .tup [.int age,.int c,.non]) n
      have j:=GS.upd (o:= .tup [.str "near",.ref t]) d
      exact q g t _ ((C.trans m).trans j) qc #[.non,j _ _ qc,Z]
     ·rw[Jb r]at q
      refine Qc (Jo r) ?_
      refine#[_,Z,Z,_,Z,?_]
      refine qV (λy=>absurd (Jx y) nofun) (λ_=>?_)
      refine#[_,Z,Z,_,Z,?_]
      refine qV (λ_=>?_) (λy=>absurd (Ji Z) y)
      refine#[_,Z,_,Z,_,Z,_,Z,_,Z,GJ,λI F=>#[GK,λt n=>#[GJ,λg d=>?_]]]
      have m:=GS.upd (o:= .tup [.int age,.int c]) F
      have j:=GS.upd (o:= .tup [.int e.age,.int e.last,.ref I]) n
      have G:=GS.upd (o:= .tup [.str "far",.ref t]) d
      exact q g t _ (((C.trans m).trans j).trans G) qc #[.ref I,G _ _ qc,I,Z,G _ _ (j _ _ qc)]
    ·rw[Jb x]
     rw[Jb x]at q;refine#[_,Z,Z,_,Z,?_]
     refine qV (λy=>absurd (Jx y) nofun) (λ_=>?_)
     refine#[_,Z,Z,_,Z,?_]
     refine qV (λy=>absurd (Jx y) nofun) (λ_=>?_)
     refine#[_,Z,Z,_,Z,?_]
     refine qV (λy=>absurd (Jx y) nofun) (λ_=>?_)
     refine#[_,Z,_,Z,GJ,λg d=>?_]
     exact q g a _ (GS.upd d) qc (HS.same (GS.upd d) #[v,D,B])
end
section
variable{P:Ξ}{w:Ω}{K:ι}{mg:GQ}{base:Ψ}{tk:Nat->Tok}{C:Δ}
theorem ib(a:Lm K C "__init__" "Door.__init__" Q2 ["self","table","keys","near","far","most"])(T:HN K mg tk)(U:Iz K C):Mf P w K mg base C "__init__" X4 1 (Aq K C):=by
 refine a.mq bC λf _ A _ s H vs Q E hr h=>?_
 ·obtain⟨p,a,b,dx,N,a1,I,t,kss,rfl,hp,ha,hb,hl,q⟩:=h
  refine#[_,(qe (zI (qv 0) (qH bf T.b_tuple J0 (qd (qv 1) qb)))
   (qe (zI (qv 0) (zB (own:=["key"]) (fr:=[]) (js:=[]) Z (zN (qv 2)) Z (λ_ _ h=>nomatch h) Z (Zk Z nofun nofun nofun) (λ_ _ _ _=>qh (i:=0) (show List.Nodup (["key"]:Α)from by decide +kernel) Z (Or.inl Z) (.inr Z)) (λ_ _ _ _=>(qH fH T.b_tuple J0 (qd (qv 0) qb)))))
   (qe (zI (qv 0) (qv 3))
   (qe (zI (qv 0) (qv 4))
   (qe (zI (qv 0) (qv 5))
   (qe (zI (qv 0) qf)
   (qe (zI (qv 0) gl)
   (qg (zI (qv 0) (zo qb)))))))))),?_]
  refine#[_,Z,a,_,Z,ha,λta H2 O ht=>#[_,Z,p,_,Z,zp U.cl (O _ _ hp) U.n_table 0,?_]]
  have e2:=O _ _ hp;have W:=(hb.same O).upd (o:= .ins C dx [("table",.ref ta)]) e2
  obtain⟨as,eb,la,a3⟩:=W;have Y:=fj (o:= .ins C dx [("table",.ref ta)]) e2 ht
  refine#[_,Z,b,Z,#[_,G0.of eb],Zf (K:=K) (xs:=as.map V.ref) (by rw[Je,la,Ju];lia) (λi ys m=>GS (GW H2 p (.ins C dx [("table",.ref ta)])) m/\∃bs:Η,ys=bs.map V.ref/\bs.length=i/\∀(j:Nat) (x:Δ) (D:Β),bs[j]? =↑x->kss[j]? =↑D->G9 [] m x (D.map V.int)) #[GS.refl _,[],Z,Z,λj x D e=>by(cases e)] (λi ys m ⟨r,_⟩=>r.seq (G0.of eb)) ?_ ?_]
  ·rintro i ys m x L X ⟨r,bs,rfl,G,z⟩
   rw[Jn]at L;cases ea:as[i]? with
   |none=>rw[ea]at L;cases L
   |some x0=>
    rw[ea]at L
    obtain rfl:V.ref x0=x:=JA L
    have hi:i<kss.length:=by rw[<- la];exact(Js.mp ea).1
    have a0:=a3 i x0 kss[i] ea (Jg hi);refine#[_,Z,x0,_,Z,.inr (GS.sqt r a0).rd,λl H4 s4 a2=>#[r.trans s4,bs++[l],by simp,by simp [G],λj y D v n=>?_]]
    rw[GG]at v;split at v
    ·exact GS.sqt s4 (z j y D v n)
    ·have hj:j-bs.length=0:=by
      cases hj:j-bs.length with
      |zero=>rfl
      |succ k=>rw[hj]at v;cases v
     rw[hj]at v;cases v
     have:j=i:=by lia
     subst this;rw[Jg hi]at n;cases n;exact .inl a2
  ·rintro ys m X ⟨r,bs,rfl,G,z⟩ hk B
   have R:=GS.upd (o:= .lst (bs.map V.ref)) B
   have e3:=R _ _ (r _ _ qc);refine#[_,Z,p,_,Z,zp U.cl e3 U.n_house_keys 1,?_]
   refine#[_,Z,_,Z,p,_,Z,zp U.cl qc U.n_near 2,?_]
   refine#[_,Z,_,Z,p,_,Z,zp U.cl qc U.n_far 3,?_]
   refine#[_,Z,_,Z,p,_,Z,zp U.cl qc U.n_most 4,?_]
   refine#[_,Z,p,_,Z,zp U.cl qc U.n_least_age 5,?_]
   refineλbd g=>#[_,Z,p,_,Z,zp U.cl (by rw[qm (qo qc g)];exact qc) U.n_buttons 6,?_]
   have u:=qo qc g;refine#[GH,λlg d=>#[_,Z,p,_,Z,zp U.cl (by rw[qm (qo qc d)];exact qc) U.n_log 7,?_]]
   have J:=qo qc d;have m3:Mv [p] H m:=((O.mv (S:=[p])).trans Mv.upd1).trans r.mv
   have c:hk≠p:=(qo (r _ _ qc) B).symm
   have m4:Mv [p] H (GW m hk (.lst (bs.map V.ref))):=m3.trans R.mv
   have M:∀o1 o2 o3 o4 o5,Mv [p] (GW m hk (.lst (bs.map V.ref))) (GW (GW (GW (GW (GW (GW m hk (.lst (bs.map V.ref))) p o1) p o2) p o3) p o4) p o5):=λo1 o2 o3 o4 o5=>(((Mv.upd1.trans Mv.upd1).trans Mv.upd1).trans Mv.upd1).trans Mv.upd1
   have M6:Mv [p] (GW m hk (.lst (bs.map V.ref))) _:=(((M _ _ _ _ _).trans (GS.upd g).mv).trans Mv.upd1).trans (GS.upd (o:= .lst []) d).mv
   have M7:=M6.trans (Mv.upd1 (o:= .ins C dx (dF #[t,kss,N,a1,I,0,[]] ta hk bd lg)))
   have nt:NT [p] (GW m hk (.lst (bs.map V.ref))):=NT.one e3 trivial
   have F:bd≠lg:=qo (by rw[qm u.symm];exact qc) d
   have KR:=HI.mv M7 nt (qW c) (show HI [] _ hk kss from#[bs,qc,by rw[G,Je,la],λj x D v n=>GS.sqt R (z j x D v n)])
   refine q ta hk bd lg _ (m3.nfree (qW c) B) ((m4.trans (M _ _ _ _ _)).nfree (qW u.symm) g) ((m4.trans ((((M _ _ _ _ _).trans (GS.upd g).mv).trans Mv.upd1))).nfree (qW J.symm) d) (m4.trans M7) #[#[dx,qc],?_,HI.up KR,?_,?_,?_] KR
   ·exact M7.sqt nt (GS.sqt R (GS.sqt r Y))
   ·exact#[([],λ_=>0),by rw[qm u.symm,qm F,qm u.symm];exact qc,λe he=>by(cases he),.refl _,Gb]
   ·exact#[[],by rw[qm J.symm];exact qc,Jf _]
   ·refine(qo (o:= .lst (bs.map V.ref)) ?_ d).symm
    rw[qm c];rw[qm (qo (o:= .lst (bs.map V.ref)) (by rw[qm c,qm c,qm c,qm c,qm c];exact qc) g)]
    rw[qm c,qm c,qm c,qm c,qm c];exact qc
theorem gD(a:Lm K C "is_full" "Door.is_full" ZA ["self"])(T:HN K mg tk)(U:Iz K C):Mf P w K mg base C "is_full" W6 1 (pC K C):=by
 refine a.mq gK λf _ A _ s H vs Q E g h=>?_
 ·obtain⟨p,ta,hk,bd,lg,n,D,rfl,b,q⟩:=h
  obtain⟨d,e,_,c,_⟩:=b.kb;refine#[_,(qg (qr (zR rK (qx tX T.b_len J6 (qd (za (qv 0)) qb)) (za (qv 0)) (qA _)))),?_]
  refine#[_,Z,p,_,Z,b.h_buttons U,bd,_,Z,e,_,Z,p,_,Z,b.h_most U,_,_,Z,Z,?_]
  rw[show(eB d.1 d.2).length=D.kn.length from(Je _).trans c.length_eq]
  exact q
theorem fA(a:Lm K C "button_of" "Door.button_of" Q8 ["self","name"])(T:HN K mg tk)(U:Iz K C):Mf P w K mg base C "button_of" W8 1 (hJ K C):=by
 refine a.mq fw λf _ A _ s H vs Q E m h=>?_
 ·obtain⟨p,ta,hk,bd,lg,n,D,nm,rfl,b,j,d⟩:=h
  refine#[_,(qg (qr (lC m (za (qv 0)) (qv 1)))),?_]
  obtain⟨o,l,_⟩:=id b.kb;refine#[_,Z,p,_,Z,b.h_buttons U,bd,Z,.inl #[_,.inl l],_,Z,?_]
  rcases b.kb.get nm with⟨c,g⟩|⟨e,x,c,g,i⟩
  ·exact#[_,g,j c]
  ·exact#[_,g,d e x c i]
theorem fD(a:Lm K C "takes_age" "Door.takes_age" Q5 ["self","age"])(T:HN K mg tk)(U:Iz K C):Mf P w K mg base C "takes_age" V1 1 (fU K C):=by
 refine a.mq fE λf _ A _ s H vs Q E g h=>?_
 ·obtain⟨p,ta,hk,bd,lg,n,D,age,rfl,b,q⟩:=h
  obtain⟨e,c,d,_⟩:=b.ks;refine#[_,(qg (qr (fW ZM fh (za (qv 0)) (qv 1) (qx qY T.b_len J6 (qd (za (qv 0)) qb))))),?_]
  unfold ZU at q;refine#[_,Z,p,_,Z,b.h_least_age U,_,Z,_,_,Z,Z,_,Z,?_]
  refine qV (λz=>?_) (λz=>?_)
  ·rw[z,E6]at q
   refine#[_,Z,p,_,Z,b.h_house_keys U,hk,_,Z,.inl (G0.of c),_,_,Z,Z,?_]
   rw[Je,d];exact q
  ·rw[Gc.mpr z,EW]at q
   exact q
theorem du(a:Lm K C "takes_from" "Door.takes_from" QN ["self","button","age"])(T:HN K mg tk)(U:Iz K C)(d:Mf P w K mg base C "takes_age" V1 1 (fU K C)):Mf P w K mg base C "takes_from" W1 2 (bA K C):=by
 refine a.mq c8 λf _ A _ s H vs Q E g h=>?_
 ·obtain⟨p,ta,hk,bd,lg,x,n,D,e,age,rfl,b,⟨v,c,i⟩,q⟩:=h
  refine#[_,(qg (qr (Zr (zg d U.cl g.mo (qv 0) (qd (qv 2) qb)) (ZR (zR rK (qv 2) (qC qO (qv 1) qf) (qA _)))))),?_]
  unfold qR at q;refine#[_,Z,p,Z,b.no,_,Z,p,ta,hk,bd,lg,n,D,age,Z,b,_,Z,?_]
  refine qV (λz=>?_) (λz=>?_)
  ·rw[z,E6]at q
   exact#[_,Z,_,Z,x,_,_,_,Z,Z,G9.of c,Z,_,_,Z,Z,q]
  ·rw[Gc.mpr z,EW]at q
   exact q
theorem c6(a:Lm K C "plain_step" "Door.plain_step" zZ ["self","button","age","count"])(T:HN K mg tk)(U:Iz K C)(i:Mf P w K mg base C "takes_from" W1 2 (bA K C))(l:Df P w K mg base "step_by" W0 2 ip):Mf P w K mg base C "plain_step" X3 3 (pB K C):=by
 refine a.mq ZQ λf _ A _ s H vs Q E g h=>?_
 ·obtain⟨p,ta,hk,bd,lg,x,n,D,e,age,c,rfl,b,d,j,q⟩:=h
  refine#[_,(qe (qK (Qe (Qn (zg i U.cl g.mo (qv 0) (qd (qv 1) (qd (qv 2) qb))))) (qg (qr (qy (qd qB (qd (qv 1) qb))))) qF)
   (qg (qr (qp l g.mo (qd (qv 1) (qd (qv 2) (qd (qv 3) (qd (za (qv 0)) (qd (za (qv 0)) qb))))))))),?_]
  refine#[_,Z,p,Z,b.no,_,Z,_,Z,p,ta,hk,bd,lg,x,n,D,e,age,Z,b,d,_,Z,?_]
  rw[j];refine zw ?_
  exact#[_,Z,_,Z,_,Z,_,Z,p,_,Z,b.h_near U,_,Z,p,_,Z,b.h_far U,x,e,age,c,D.near,D.far,Z,d,q]
theorem fC(a:Lm K C "answer_to" "Door.answer_to" Q7 ["self","press"])(T:HN K mg tk)(U:Iz K C)(dC:Mf P w K mg base C "button_of" W8 1 (hJ K C))(dB:Mf P w K mg base C "takes_from" W1 2 (bA K C))(dD:Mf P w K mg base C "plain_step" X3 3 (pB K C))
  (dO:Df P w K mg base "read_press" V0 3 (l6 K)):Mf P w K mg base C "answer_to" ["self","press"] 4 (ju K C):=by
 refine a.mq G1 λf _ A _ s H vs Q E u h=>?_
 ·obtain⟨p,ta,hk,bd,lg,pr,n,D,nm,age,ds,rfl,b,ok,⟨pc,hp,J⟩,hn,l5,O,q⟩:=h
  refine#[_,(qe (q9 (qv 1) (ze Z (ql (qh (i:=2) G1.nd Z (Or.inl Z)) (ql (qh (i:=3) G1.nd Z (Or.inl Z)) (ql (qh (i:=4) G1.nd Z (Or.inl Z)) qM)))))
   (qe (qw (i:=5) G1.nd Z (Or.inl Z) (zg dC U.cl u.mo (qv 0) (qd (qv 2) qb)))
   (qe (qK (qE Zi (qv 5) zd (qA _)) (qg (qr (qy (qd qB (qd qB qb))))) qF)
   (qe (qK (Qe (Qn (zg dB U.cl u.mo (qv 0) (qd (qv 5) (qd (qv 3) qb))))) (qg (qr (qy (qd qB (qd qB qb))))) qF)
   (qe (qw (i:=6) G1.nd Z (Or.inl Z) (qp dO u.mo (qd (za (qv 0)) (qd (qC qG (za (qv 0)) (qv 3)) (qd (qv 1) qb)))))
   (qe (qK (qE Zi (qv 6) zd (qA _)) (qg (qr (qy (qd qB (qd qB qb))))) qF)
   (qe (q9 (qv 6) (ze Z (ql (qh (i:=7) G1.nd Z (Or.inl Z)) (ql (qh (i:=8) G1.nd Z (Or.inl Z)) qM))))
   (qe (q9 (zg dD U.cl u.mo (qv 0) (qd (qv 5) (qd (qv 3) (qd (qv 7) qb)))) (ze Z (ql (qh (i:=9) G1.nd Z (Or.inl Z)) (ql (qh (i:=10) G1.nd Z (Or.inl Z)) qM))))
   (qe (Qw u (za (qv 0)) (qv 2) (qv 10))
   (qe (qK (qE zE (qv 9) qB (qA _)) (qg (qr (qy (qd qB (qd (qv 2) (qd (qv 8) qb)))))) qF)
   (qg (qr (qy (qd qB (qd (qv 9) qb))))))))))))))),?_]
  refine#[_,Z,pr,_,Z,.tup hp,Z,_,_,Z,_,_,Z,_,_,Z,Z,?_]
  refine#[_,Z,p,Z,b.no,_,Z,p,ta,hk,bd,lg,n,D,nm,Z,b,λr=>?_,λe x r hx=>?_]
  ·have m:zk D nm age (Zu D.t (Qr D age) nm ds)=([.str "held",.str "unknown"],D.kn):=by unfold zk;rw[r]
   rw[m]at q;refine#[_,Z,Z,_,Z,?_]
   refine qV (λ_=>?_) (λy=>absurd (Ji Z) y)
   refine#[GJ,λo g=>?_]
   exact q o _ (GS.upd g).mv qc (b.same (GS.upd g))
  ·refine#[_,Z,Z,_,Z,?_]
   refine qV (λy=>nomatch (Jx y)) (λ_=>?_)
   refine#[_,Z,p,Z,b.no,_,Z,_,Z,p,ta,hk,bd,lg,x,n,D,e,age,Z,b,hx,_,Z,?_]
   cases ht:qR D e age with
   |false=>
    have m:zk D nm age (Zu D.t (Qr D age) nm ds)=([.str "held",.str "age"],D.kn):=by unfold zk;rw[r];simp only;rw[ht];rfl
    rw[m]at q;refine zx ?_
    refine#[GJ,λo g=>?_]
    exact q o _ (GS.upd g).mv qc (b.same (GS.upd g))
   |true=>
    refine zw ?_
    obtain⟨a0,a1⟩:=aK ht ok.l0;obtain⟨xs,ak,eh,W,M⟩:=b.ks.at a0 a1;refine#[_,Z,p,_,Z,b.h_table U,_,Z,p,_,Z,b.h_house_keys U,_,Z,hk,_,_,_,Z,Z,G0.of eh,W,_,Z,ta,ak,pr,pc,nm,age,D.t,Qr D age,ds,Z,.inr b.tb,.inr M,.tup hp,.tup J,hn,ok.tp,l5,O,λy H1 B t=>?_]
    have F:=b.same B;have R:=hx.same B;have j:cW H1 y (Zu D.t (Qr D age) nm ds):=t
    cases er:Zu D.t (Qr D age) nm ds with
    |none=>
     rw[er]at j q;have S:y= .non:=j
     subst S;have m:zk D nm age none=([.str "held",.str "false"],D.kn):=by unfold zk;rw[r];simp only;rw[ht];rfl
     rw[m]at q;refine#[_,Z,Z,_,Z,?_]
     refine qV (λ_=>?_) (λy=>absurd (Ji Z) y)
     refine#[GJ,λo g=>?_]
     exact q o _ (B.trans (GS.upd g)).mv qc (F.same (GS.upd g))
    |some cd=>
     obtain⟨c,d⟩:=cd;rw[er]at j q;obtain⟨pp,S,N⟩:=j;subst S;refine#[_,Z,Z,_,Z,?_]
     refine qV (λy=>nomatch (Jx y)) (λ_=>?_)
     refine#[_,Z,pp,_,Z,.tup N,Z,_,_,Z,_,_,Z,Z,?_]
     refine#[_,Z,p,Z,F.no,_,Z,_,Z,_,Z,p,ta,hk,bd,lg,x,n,D,e,age,c,Z,F,R,ht,λo a' H2 Y g G=>#[o,_,Z,.tup g,Z,_,_,Z,_,_,Z,Z,?_]]
     have I:=F.same Y;obtain⟨H3,dp,m3,X⟩:=I.kb.put nm (by have:=ok.nl;lia) G
     refine#[_,Z,_,Z,p,_,Z,I.h_buttons U,_,Z,bd,H3,Z,dp,?_]
     have b3:=I.putK m3 X;have mm:Mv [bd] H H3:=(B.trans Y).mv.trans m3
     refine#[_,Z,Z,_,Z,?_]
     by_cases v:(zr D.near D.far e age c).1="near"
     ·have m:zk D nm age ↑(c,d)=([.str "open",.str nm,.int d],zc D.kn nm (zr D.near D.far e age c).2):=by unfold zk;rw[r];simp only;rw[Jc ht,Jc v]
      rw[m]at q;refine qV (λ_=>?_) (λy=>absurd (Ji (by rw[v])) y)
      refine#[_,Z,_,Z,GK,λL l=>?_]
      exact q L _ (mm.trans (GS.upd l).mv) qc (b3.same (GS.upd l))
     ·have m:zk D nm age ↑(c,d)=([.str "held",.str (zr D.near D.far e age c).1],zc D.kn nm (zr D.near D.far e age c).2):=by unfold zk;rw[r];simp only;rw[Jc ht,Jb v]
      rw[m]at q;refine qV (λy=>absurd (Jx y) (by intro z;injection z with z;exact v z)) (λ_=>?_)
      refine#[_,Z,GJ,λL l=>?_]
      exact q L _ (mm.trans (GS.upd l).mv) qc (b3.same (GS.upd l))
theorem eO(a:Lm K C "read_right" "Door.read_right" QP ["self","thing"])(T:HN K mg tk)(U:Iz K C)(G:Df P w K mg base "is_press" W5 5 cg)(N:Mf P w K mg base C "takes_age" V1 1 (fU K C))(L:Df P w K mg base "read_press" V0 3 (l6 K)):Mf P w K mg base C "read_right" V3 6 (jD K C):=by
 refine a.mq eM λf _ A _ s H vs Q E u h=>?_
 ·obtain⟨p,ta,hk,bd,lg,n,D,x,o,rfl,b,ok,tg,q⟩:=h
  refine#[_,(qe (qK (QW.pt (Zt (Qe (Qn (qp G u.mo (qd (qv 1) qb)))) (QV (Qe (Qn (zg N U.cl u.mo (qv 0) (qd (qC qO (qv 1) qf) qb))))))) (qg (qr zd)) qF)
   (qg (qr (qp L u.mo (qd (za (qv 0)) (qd (qC qG (za (qv 0)) (qC qO (qv 1) qf)) (qd (qv 1) qb))))))),?_]
  refine#[_,Z,x,_,Z,tg.b,λH1 g=>#[_,Z,?_]]
  cases o with
  |none=>exact zx (zx (q .non _ g Z))
  |some PP=>
  obtain⟨l,rfl,J,v,B,j⟩:=tg;have q:∀y H',GS H H'->cW H' y (eU D PP)->Q y H':=q
  obtain⟨nm,age,ds⟩:=PP;simp only at v B j
  refine zw ?_
  have d:=b.same g;obtain⟨W,c,e⟩:=HU.same g J;refine#[_,Z,p,Z,d.no,_,Z,l,_,_,_,Z,Z,G9.of c,Z,p,ta,hk,bd,lg,n,D,age,Z,d,_,Z,?_]
  unfold eU at q;cases ht:ZU D age with
  |false=>
   rw[Jb (by rw[ht];intro z;cases z)]at q
   exact zx (q _ _ g Z)
  |true=>
  rw[Jc ht]at q;refine zw ?_
  have t:qR D #[age,0,none] age=true:=by unfold qR;rw[ht,Ji (F3 _)];rfl
  obtain⟨O,S⟩:=aK t ok.l0;obtain⟨xs,M,F,r,m⟩:=d.ks.at O S
  exact#[_,Z,p,_,Z,d.h_table U,_,Z,p,_,Z,d.h_house_keys U,_,Z,l,_,_,_,Z,Z,G9.of c,Z,hk,_,_,_,Z,Z,G0.of F,r,_,Z,ta,M,l,W,nm,age,D.t,Qr D age,ds,Z,.inr d.tb,.inr m,.tup c,.tup e,v,ok.tp,B,j,λy R I i=>q y R (g.trans I) i]
theorem fB(a:Lm K C "known_now" "Door.known_now" Zc ["self"])(T:HN K mg tk)(U:Iz K C):Mf P w K mg base C "known_now" W6 1 (gn K C):=by
 refine a.mq fF λf _ A _ s H vs Q E hr h=>?_
 ·obtain⟨p,ta,hk,bd,lg,n,D,rfl,b,ok,q⟩:=h
  obtain⟨fn,hd,a5,M,_⟩:=id b.kb;refine#[_,(qg (qr (qH qX T.b_tuple J0 (qd (zB (own:=["name"]) (fr:=["self"]) (js:=[0]) Z (zN (qx (kj Z) T.b_sorted PyProof.Rows.boot_sorted (qd (za (qv 0)) qb))) Z (gd Z) Z (iu Z nofun nofun nofun Z Z Z) (λ_ _ _ _=>qh (i:=0) (show List.Nodup (["name","self"]:Α)from by decide +kernel) Z (Or.inl Z) (.inr Z)) (λ_ _ _ _=>(qu Z9 (qy (qd (qv 0) qb)) (zJ hr (AN (K:=K) Z (qv 1)) (qv 0))))) qb)))),?_]
  refine#[_,Z,p,_,Z,b.h_buttons U,bd,_,fn.1.map (·.1),Z,hd,AY _ _,by rw[Je,M.length_eq];have:=ok.nl;lia,λl r hl a4 so=>#[l,Z,#[_,G0.of qc],?_]]
  have pm:=a4.trans (M.map (·.1))
  have u1:=GS.upd (o:= .lst (r.map V.str)) hl
  have ls:r.length<=60:=by rw[pm.length_eq,Je];exact ok.nl
  refine Zf (K:=K) (xs:=r.map V.str) (by rw[Je,Ju];lia) (λi ys G=>GS (GW H l (.lst (r.map V.str))) G/\∃d:Η,ys=d.map V.ref/\d.length=i/\∀(j:Nat) (x:Δ) (nm:Str) (e:Kb),d[j]? =↑x->r[j]? =↑nm->D.kn.lookup nm=↑e->∃v,G x=↑(.tup [.str nm,.int e.age,.int e.last,v])/\Wt G v e.wt) #[GS.refl _,[],Z,Z,λj x nm e h=>by(cases h)] (λi ys G ⟨F,_⟩=>F.seq (G0.of qc)) ?_ ?_
  ·rintro i ys G x O a0 ⟨F,d,rfl,B,has⟩
   rw[Jn]at O;cases es:r[i]? with
   |none=>rw[es]at O;cases O
   |some nm=>
    rw[es]at O
    obtain rfl:V.str nm=x:=JA O
    have L:nm∈D.kn.map (·.1):=pm.mem_iff.mp (JP es)
    obtain⟨e,J⟩:=Q4 L;have b3:=b.same (u1.trans F);obtain⟨e',x0,m,g,v0,X,W⟩:=(b3.kb.get nm).resolve_left (λz=>by rw[J]at z;cases z.1)
    rw[J]at m;cases m;refine#[_,Z,GI,λt ht=>?_]
    have I:=GS.upd (o:= .tup [.str nm]) ht
    have b4:=b3.same I;obtain⟨e',x0,m,g,v0,X,W⟩:=(b4.kb.get nm).resolve_left (λz=>by rw[J]at z;cases z.1)
    rw[J]at m;cases m;refine#[_,Z,p,_,Z,b4.h_buttons U,_,Z,bd,_,Z,g,t,x0,_,_,Z,Z,qc,X,GL,λq1 H5 Y u=>?_]
    refine#[(F.trans I).trans Y,d++[q1],by simp,by simp [B],λj y m2 e2 h1 N R=>?_]
    rw[GG]at h1;split at h1
    ·obtain⟨v,a1,a2⟩:=has j y m2 e2 h1 N R
     exact#[v,Y _ _ (I _ _ a1),a2.mv (S:=[]) (I.trans Y).mv (λc h=>nomatch h)]
    ·have hj:j-d.length=0:=by
      cases hj:j-d.length with
      |zero=>rfl
      |succ k=>rw[hj]at h1;cases h1
     rw[hj]at h1;cases h1
     obtain rfl:j=i:=by lia
     rw[es]at N;cases N;rw[J]at R;cases R
     exact#[v0,u,W.mv (S:=[]) Y.mv (λc h=>nomatch h)]
  ·rintro ys G a0 ⟨F,d,rfl,B,has⟩ l2 a3
   have I:=GS.upd (o:= .lst (d.map V.ref)) a3
   refine#[l2,_,Z,.inl #[G0.of qc,λq1 u=>?_]]
   have u5:=GS.upd (o:= .tup (d.map V.ref)) u
   have S:=I.trans u5;refine q q1 r _ ((u1.trans F).trans S) pm so #[d,qc,by rw[B,Je],λj x nm e h1 N R=>?_]
   obtain⟨v,a1,a2⟩:=has j x nm e h1 N R
   exact#[v,S _ _ a1,a2.mv (S:=[]) S.mv (λc h=>nomatch h)]
end
section
variable{P:Ξ}{w:Ω}{K:ι}{mg:GQ}{base:Ψ}{tk:Nat->Tok}{C:Δ}
theorem ke(a:Lm K C "hear" "Door.hear" aW ["self","thing"])(T:HN K mg tk)(U:Iz K C)(dW:Df P w K mg base "is_press" W5 5 cg)(Y:Mf P w K mg base C "answer_to" ["self","press"] 4 (ju K C)):Mf P w K mg base C "hear" V3 6 (oz K C):=by
 refine a.mq La λf _ A _ s H vs Q E W h=>?_
 ·obtain⟨⟨p,ta,hk,bd,lg⟩,D,L,x,o,rfl,⟨b,⟨rs,I,S⟩,N⟩,n1,ok,tg,qn,R⟩:=h
  simp only at b I N R
  refine#[_,(qe (qK (Qe (Qn (qp dW W.mo (qd (qv 1) qb)))) (qg (qr (qy (qd qB (qd qB qb))))) qF)
   (qe (qw (i:=2) La.nd Z (Or.inl Z) (zg Y U.cl W.mo (qv 0) (qd (qv 1) qb)))
   (qe (zm (QZ EZ Fx Fy zW (za (qv 0)) (qd (qy (qd qB (qd (qv 1) (qd (qv 2) qb)))) qb)))
   (qg (qr (qv 2)))))),?_]
  refine#[_,Z,x,_,Z,tg.b,λH1 g=>#[_,Z,?_]]
  cases o with
  |none=>exact zx #[GJ,λq X=>qn Z q _ (g.trans (GS.upd X)) qc]
  |some PP=>
  obtain⟨v,rfl,M,e⟩:=tg;have q:=R PP Z;refine zw ?_
  have y:=b.same g;obtain⟨f0,B,_⟩:=id y.kb;have l:NT [bd] H1:=NT.one B trivial
  refine#[_,Z,p,Z,y.no,_,Z,p,ta,hk,bd,lg,v,L.length,D,PP.nm,PP.age,PP.ds,Z,y,ok,HU.same g M,e.nm,e.l,e.dg,λJ H2 n t O=>?_]
  have j:=n _ _ (qW (zH (g _ _ I) B (by intro z;cases z))) (g _ _ I)
  have G:=(S.same g).mv n l;refine#[_,Z,p,_,Z,O.h_log U,.inl #[Z,_,G0.of j],_,Z,_,Z,GK,λr F=>?_]
  have d:=GS.upd (o:= .tup [.str "hear",.ref v,.ref J]) F
  have b3:=O.same d;have m:=HU.same d (HU.mv n l (HU.same g M));have u:NT [lg] _:=NT.one (d _ _ j) trivial
  refine#[lg,_,_,Z,Z,d _ _ j,by rw[Je,S.1,Ju];lia,#[_,Z,?_]]
  exact q v J _ Z (((g.mv.trans (n.mono (λc h z=>h (by rw[Jh.mp z];exact JB ..)))).trans d.mv).trans (Mv.upd1.mono (λc h z=>h (by rw[Jh.mp z];exact JM _ (JB ..))))) (HU.mv Mv.upd1 u m) (Mv.upd1.tup u (d _ _ t)) (HX.push (a:=#[p,ta,hk,bd,lg]) b3 (d _ _ j) (G.same d) ((HI.mv n l (qW (yr B y)) (HI.same g N)).same d) #[v,J,.inl qc,m,e,d _ _ t,t8 D PP,ww D PP])
theorem cN(a:Lm K C "close_below" "Door.close_below" QD ["self","age"])(T:HN K mg tk)(U:Iz K C):Mf P w K mg base C "close_below" V1 1 (mV K C):=by
 refine a.mq cJ λf _ A _ s H vs Q E F h=>?_
 ·obtain⟨⟨p,ta,hk,bd,lg⟩,D,L,age,rfl,⟨b,⟨rs,j,u⟩,l⟩,B,q⟩:=h
  simp only at b j l q
  refine#[_,(qe (zI (qv 0) (qx (Ze Z) T.b_max F4 (qd (za (qv 0)) (qd (qv 1) qb))))
   (qg (zm (QZ EZ Fx Fy zW (za (qv 0)) (qd (qy (qd qB (qd (qv 1) qb))) qb))))),?_]
  have q:=q _ _ Z;obtain⟨z,t⟩:∃z:Int,z=if age>D.least then age else D.least:=#[_,Z]
  rw[<- t]at q;obtain⟨v,ep⟩:=id b.ob;obtain⟨dx,y,m,n⟩:=b.putLeast U z;have d:=m _ _ (qW (zH j ep (by intro z;cases z))) j
  have i:=u.mv m (NT.one ep trivial);refine#[_,Z,p,_,Z,b.h_least_age U,_,Z,_,_,Z,_,Z,p,_,Z,by rw[<- t];exact y,?_]
  refine#[_,Z,p,_,Z,n.h_log U,.inl #[Z,_,G0.of d],_,Z,GJ,λr g=>?_]
  have e:=GS.upd (o:= .tup [.str "close",.int age]) g
  have x:=n.same e;refine#[lg,_,_,Z,Z,e _ _ d,by rw[Je,u.1,Ju];lia,?_]
  exact q _ (((m.mono (λc h z=>h (by rw[Jh.mp z];exact JB ..))).trans e.mv).trans (Mv.upd1.mono (λc h z=>h (by rw[Jh.mp z];exact JM _ (JB ..))))) (HX.push (a:=#[p,ta,hk,bd,lg]) x (e _ _ d) (i.same e) ((HI.mv m (NT.one ep trivial) (qW (B8 ep b)) l).same e) (show Ln _ r (.close age)from .inl qc))
theorem gU(a:Lm K C "log_now" "Door.log_now" ZD ["self"])(T:HN K mg tk)(U:Iz K C):Mf P w K mg base C "log_now" W6 1 (uQ K C):=by
 refine a.mq gR λf _ A _ s H vs Q E i h=>?_
 ·obtain⟨⟨p,ta,hk,bd,lg⟩,D,L,rfl,⟨b,⟨rs,d,g⟩,e⟩,q⟩:=h
  simp only at b d e
  refine#[_,(qg (qr (qH qX T.b_tuple J0 (qd (za (qv 0)) qb)))),?_]
  exact#[_,Z,p,_,Z,b.h_log U,lg,_,Z,.inl #[G0.of d,λt c=>q t _ (GS.upd c) #[rs,.inl qc,g.same (GS.upd c)]]]
theorem jS(a:Lm K C "learn" "Door.learn" az ["self","one","other"])(T:HN K mg tk)(U:Iz K C)(dM:Mf P w K mg base C "read_right" V3 6 (jD K C))(xD:Mf P w K mg base C "is_full" W6 1 (pC K C)):Mf P w K mg base C "learn" ["self","one","other"] 7 (jb K C):=by
 refine a.mq HF λf _ A _ s H vs Q E F h=>?_
 ·obtain⟨⟨p,ta,hk,bd,lg⟩,D,L,I,p2,⟨nm,age,b0⟩,⟨j,d,a8⟩,c,d1,d2,rfl,⟨b,⟨rs,el,ro⟩,kr⟩,n1,ok,t,B,N,W,r1,r2,en,ea,O,b3,q⟩:=h
  simp only at b el kr q en ea O
  subst en;subst ea
  refine#[_,(qe (qw (i:=3) HF.nd Z (Or.inl Z) (zg dM U.cl F.mo (qv 0) (qd (qv 1) qb)))
   (qe (qK (qE Zi (qv 3) zd (qA _)) aS qF)
   (qe (qw (i:=4) HF.nd Z (Or.inl Z) (zg dM U.cl F.mo (qv 0) (qd (qv 2) qb)))
   (qe (qK (QW.pt (Zt (qE Zi (qv 4) zd (qA _)) (Zt (qE (mK F) (Qh fk (qv 2) QF (QJ qf)) (Qh fk (qv 1) QF (QJ qf)) (qA _)) (QV (qE gF (qC qO (qv 4) qf) (qu qI (qC qO (qv 3) qf) qf) (qA _)))))) aS qF)
   (qe (q9 (qv 1) (ze Z (ql (qh (i:=5) HF.nd Z (Or.inl Z)) (ql (qh (i:=6) HF.nd Z (Or.inl Z)) (ql (qh (i:=7) HF.nd Z (Or.inl Z)) qM)))))
   (qe (qK (tL F (qv 5) (za (qv 0))) aS qF)
   (qe (qK (Qn (Qi xD U.cl F.mo (qv 0))) aS qF)
   (qe (Qw F (za (qv 0)) (qv 5) (qy (qd (qv 6) (qd (qC qO (qv 4) qf) (qd zd qb)))))
   (qg (zm (QZ EZ Fx Fy zW (za (qv 0)) (qd (qy (qd qB (qd (qv 1) (qd (qv 2) qb)))) qb)))))))))))),?_]
  refine#[_,Z,p,Z,b.no,_,Z,p,ta,hk,bd,lg,L.length,D,.ref I,↑_,Z,b,ok,#[I,Z,t,N],λy1 H1 J t1=>?_]
  have t1:cW H1 y1 (eU D _):=t1
  rw[r1]at t1;obtain⟨f1,rfl,a2⟩:=t1;refine#[_,Z,Z,_,Z,qV (λy=>nomatch (Jx y)) (λ_=>?_)]
  have b1:=b.same J;refine#[_,Z,p,Z,b1.no,_,Z,p,ta,hk,bd,lg,L.length,D,.ref p2,↑_,Z,b1,ok,#[p2,Z,HU.same J B,W],λy2 H2 R t2=>?_]
  have t2:cW H2 y2 (eU D _):=t2
  rw[r2]at t2;obtain⟨f2,rfl,X⟩:=t2;have b2:=b1.same R;have S:=HU.same (J.trans R) t;have a0:=HU.same (J.trans R) B;obtain⟨c1,e1,_⟩:=id S;obtain⟨c2,e2,_⟩:=id a0;simp only at e1 e2
  refine#[_,Z,Z,_,Z,?_]
  refine qV (λy=>nomatch (Jx y)) (λ_=>?_)
  refine#[_,Z,_,Z,p2,_,Z,e2,λt3 H3 s3 h3 _=>#[_,Z,_,Z,I,_,Z,s3 _ _ e1,λt4 H4 s4 h4 _=>?_]]
  have a1:H4 t3=↑(.tup [.str j,.int d]):=s4 _ _ h3
  have a3:H4 t4=↑(.tup [.str j,.int d]):=h4
  have G:=(s3.trans s4);have SS:=(J.trans R).trans G;refine#[1,⋯,Lo.pair a1 a3,_,Z,zw ?_]
  refine#[_,Z,f2,_,_,_,Z,Z,G9.of (G _ _ X),Z,_,Z,f1,_,_,_,Z,Z,G9.of (G _ _ (R _ _ a2)),Z,_,_,Z,Z,Z,_,Z,?_]
  refine rZ Z ?_
  have Y:=b2.same G;refine#[_,Z,I,_,Z,.tup (G _ _ e1),Z,_,_,Z,_,_,Z,_,_,Z,Z,?_]
  have g4:Iy H4 bd (.str j) none:=by
   rcases Y.kb.get j with⟨_,g⟩|⟨e,x,e5,_⟩
   ·exact g
   ·rw[O]at e5;cases e5
  refine#[_,Z,_,Z,p,_,Z,Y.h_buttons U,bd,_,Z,g4,_,Z,?_]
  refine zw ?_
  refine#[_,Z,p,Z,Y.no,p,ta,hk,bd,lg,L.length,D,Z,Y,_,Z,?_]
  refine qV (λy=>absurd (Jx y) (by lia)) (λ_=>?_)
  refine#[_,Z,_,Z,f2,_,_,_,Z,Z,G9.of (G _ _ X),Z,GK,λt5 a7=>?_]
  have u5:=GS.upd (o:= .tup [.int d,.int (c+1),.non]) a7
  have M:=Y.same u5;obtain⟨f0,hd,_⟩:=id M.kb;have n:=SS.trans u5;obtain⟨H6,dp,u,a4⟩:=M.kb.put j (a:=t5) (e:=#[d,c+1,none]) (by have:=ok.nl;lia) #[.non,qc,Z]
  refine#[_,Z,p,_,Z,M.h_buttons U,_,Z,bd,H6,Z,dp,?_]
  have b6:=M.putK u a4;have v:=u _ _ (qW (zH (n _ _ el) hd (by intro z;cases z))) (n _ _ el)
  have l:NT [bd] _:=NT.one hd trivial
  have a5:=(ro.same n).mv u l;refine#[_,Z,p,_,Z,b6.h_log U,.inl #[Z,_,G0.of v],_,Z,_,Z,GK,λr a6=>?_]
  have m:=GS.upd (o:= .tup [.str "learn",.ref I,.ref p2]) a6
  have b7:=b6.same m;refine#[lg,_,_,Z,Z,m _ _ v,by rw[Je,ro.1,Ju];lia,?_]
  exact q _ (((n.mv.trans (u.mono (λc h z=>h (by rw[Jh.mp z];exact JB ..)))).trans m.mv).trans (Mv.upd1.mono (λc h z=>h (by rw[Jh.mp z];exact JM _ (JB ..))))) (HX.push (a:=#[p,ta,hk,bd,lg]) b7 (m _ _ v) (a5.same m) ((HI.mv u l (qW (yr hd M)) (HI.same n kr)).same m) #[I,p2,.inl qc,HU.same m (HU.mv u l (HU.same n t)),HU.same m (HU.mv u l (HU.same n B)),N,W])
theorem gH(a:Lm K C "__init__" "Door.__init__" Q2 ["self","table","keys","near","far","most"])(T:HN K mg tk)(U:Iz K C):Mf P w K mg base C "__init__" X4 1 (mT K C):=by
 refine a.mq bC λf _ A _ s H vs Q E hr h=>?_
 ·obtain⟨p,a,b,dx,N,a1,I,t,kss,rfl,hp,ha,hb,hl,q⟩:=h
  refine#[_,(qe (zI (qv 0) (qH bf T.b_tuple J0 (qd (qv 1) qb)))
   (qe (zI (qv 0) (zB (own:=["key"]) (fr:=[]) (js:=[]) Z (Zv (qv 2)) Z (λ_ _ h=>nomatch h) Z (Zk Z nofun nofun nofun) (λ_ _ _ _=>qh (i:=0) (show List.Nodup (["key"]:Α)from by decide +kernel) Z (Or.inl Z) (.inr Z)) (λ_ _ _ _=>(qH fH T.b_tuple J0 (qd (qv 0) qb)))))
   (qe (zI (qv 0) (qv 3))
   (qe (zI (qv 0) (qv 4))
   (qe (zI (qv 0) (qv 5))
   (qe (zI (qv 0) qf)
   (qe (zI (qv 0) gl)
   (qg (zI (qv 0) (zo qb)))))))))),?_]
  refine#[_,Z,a,_,Z,ha,λta H2 O ht=>#[_,Z,p,_,Z,zp U.cl (O _ _ hp) U.n_table 0,?_]]
  have e2:=O _ _ hp;have W:=(hb.same O).upd (o:= .ins C dx [("table",.ref ta)]) e2
  obtain⟨as,eb,la,a3⟩:=W;have Y:=fj (o:= .ins C dx [("table",.ref ta)]) e2 ht
  refine#[_,Z,b,Z,#[_,eb.up],Q9 (K:=K) (xs:=as.map V.ref) (by rw[Je,la,Ju];lia) (λi ys m=>GS (GW H2 p (.ins C dx [("table",.ref ta)])) m/\∃bs:Η,ys=bs.map V.ref/\bs.length=i/\∀(j:Nat) (x:Δ) (D:Β),bs[j]? =↑x->kss[j]? =↑D->G9 [] m x (D.map V.int)) #[GS.refl _,[],Z,Z,λj x D e=>by(cases e)] (λi ys m ⟨r,_⟩=>(GS.sqt r eb).up) ?_ ?_]
  ·rintro i ys m x L X ⟨r,bs,rfl,G,z⟩
   rw[Jn]at L;cases ea:as[i]? with
   |none=>rw[ea]at L;cases L
   |some x0=>
    rw[ea]at L
    obtain rfl:V.ref x0=x:=JA L
    have hi:i<kss.length:=by rw[<- la];exact(Js.mp ea).1
    have a0:=a3 i x0 kss[i] ea (Jg hi);refine#[_,Z,x0,_,Z,.inr (GS.sqt r a0).rd,λl H4 s4 a2=>#[r.trans s4,bs++[l],by simp,by simp [G],λj y D v n=>?_]]
    rw[GG]at v;split at v
    ·exact GS.sqt s4 (z j y D v n)
    ·have hj:j-bs.length=0:=by
      cases hj:j-bs.length with
      |zero=>rfl
      |succ k=>rw[hj]at v;cases v
     rw[hj]at v;cases v
     have:j=i:=by lia
     subst this;rw[Jg hi]at n;cases n;exact .inl a2
  ·rintro ys m X ⟨r,bs,rfl,G,z⟩ hk B
   have R:=GS.upd (o:= .lst (bs.map V.ref)) B
   have e3:=R _ _ (r _ _ qc);refine#[_,Z,p,_,Z,zp U.cl e3 U.n_house_keys 1,?_]
   refine#[_,Z,_,Z,p,_,Z,zp U.cl qc U.n_near 2,?_]
   refine#[_,Z,_,Z,p,_,Z,zp U.cl qc U.n_far 3,?_]
   refine#[_,Z,_,Z,p,_,Z,zp U.cl qc U.n_most 4,?_]
   refine#[_,Z,p,_,Z,zp U.cl qc U.n_least_age 5,?_]
   refineλbd g=>#[_,Z,p,_,Z,zp U.cl (by rw[qm (qo qc g)];exact qc) U.n_buttons 6,?_]
   have u:=qo qc g;refine#[GH,λlg d=>#[_,Z,p,_,Z,zp U.cl (by rw[qm (qo qc d)];exact qc) U.n_log 7,?_]]
   have J:=qo qc d;have m3:Mv [p] H m:=((O.mv (S:=[p])).trans Mv.upd1).trans r.mv
   have c:hk≠p:=(qo (r _ _ qc) B).symm
   have m4:Mv [p] H (GW m hk (.lst (bs.map V.ref))):=m3.trans R.mv
   have M:∀o1 o2 o3 o4 o5,Mv [p] (GW m hk (.lst (bs.map V.ref))) (GW (GW (GW (GW (GW (GW m hk (.lst (bs.map V.ref))) p o1) p o2) p o3) p o4) p o5):=λo1 o2 o3 o4 o5=>(((Mv.upd1.trans Mv.upd1).trans Mv.upd1).trans Mv.upd1).trans Mv.upd1
   have M6:Mv [p] (GW m hk (.lst (bs.map V.ref))) _:=(((M _ _ _ _ _).trans (GS.upd g).mv).trans Mv.upd1).trans (GS.upd (o:= .lst []) d).mv
   have M7:=M6.trans (Mv.upd1 (o:= .ins C dx (dF #[t,kss,N,a1,I,0,[]] ta hk bd lg)))
   have nt:NT [p] (GW m hk (.lst (bs.map V.ref))):=NT.one e3 trivial
   have F:bd≠lg:=qo (by rw[qm u.symm];exact qc) d
   have KR:=HI.mv M7 nt (qW c) (show HI [] _ hk kss from#[bs,qc,by rw[G,Je,la],λj x D v n=>GS.sqt R (z j x D v n)])
   refine q ta hk bd lg _ (m3.nfree (qW c) B) ((m4.trans (M _ _ _ _ _)).nfree (qW u.symm) g) ((m4.trans ((((M _ _ _ _ _).trans (GS.upd g).mv).trans Mv.upd1))).nfree (qW J.symm) d) (m4.trans M7) #[#[dx,qc],?_,HI.up KR,?_,?_,?_] KR
   ·exact M7.sqt nt (GS.sqt R (GS.sqt r Y))
   ·exact#[([],λ_=>0),by rw[qm u.symm,qm F,qm u.symm];exact qc,λe he=>by(cases he),.refl _,Gb]
   ·exact#[[],by rw[qm J.symm];exact qc,Jf _]
   ·refine(qo (o:= .lst (bs.map V.ref)) ?_ d).symm
    rw[qm c];rw[qm (qo (o:= .lst (bs.map V.ref)) (by rw[qm c,qm c,qm c,qm c,qm c];exact qc) g)]
    rw[qm c,qm c,qm c,qm c,qm c];exact qc
theorem cL(a:Lm K C "bounds_told" "Door.bounds_told" QB ["self"])(T:HN K mg tk)(U:Iz K C):Mf P w K mg base C "bounds_told" W6 1 (c7 K C):=by
 refine a.mq cM λf _ A _ s H vs Q E d h=>?_
 ·obtain⟨p,ta,hk,bd,lg,n,D,rfl,b,q⟩:=h
  refine#[_,(qg (qr (qy (qd (za (qv 0)) (qd (za (qv 0)) (qd (za (qv 0)) qb)))))),?_]
  exact#[_,Z,p,_,Z,b.h_near U,_,Z,p,_,Z,b.h_far U,_,Z,p,_,Z,b.h_most U,GK,λt c=>q t _ (GS.upd c) qc]
theorem fQ(a:Lm K C "keys_now" "Door.keys_now" Zm ["self"])(T:HN K mg tk)(U:Iz K C):Mf P w K mg base C "keys_now" W6 1 (ox K C):=by
 refine a.mq fP λf _ A _ s H vs Q E v h=>?_
 ·obtain⟨p,ta,hk,bd,lg,n,D,rfl,b,q⟩:=h
  refine#[_,(qg (qr (qH bf T.b_tuple J0 (qd (za (qv 0)) qb)))),?_]
  obtain⟨l,e,o,c⟩:=id b.ks;refine#[_,Z,p,_,Z,b.h_house_keys U,hk,_,Z,.inl (G0.of e),λt u d j=>?_]
  exact q t l u d j o λi a r m g=>GS.sqt d (c i a r m g)
end
section
variable{P:Ξ}{w:Ω}{K:ι}{mg:GQ}{base:Ψ}{tk:Nat->Tok}{C:Δ}
theorem eQ(a:Lm K C "closed_now" "Door.closed_now" QQ ["self"])(T:HN K mg tk)(U:Iz K C):Mf P w K mg base C "closed_now" W6 1 (i9 K C):=by
 refine a.mq cR λf _ A _ s H vs Q E c h=>?_
 ·obtain⟨p,ta,hk,bd,lg,n,D,rfl,b,q⟩:=h
  refine#[_,(qg (qr (za (qv 0)))),?_]
  exact#[_,Z,p,_,Z,b.h_least_age U,q]
end
section
variable{P:Ξ}{w:Ω}{K:ι}{mg:GQ}{base:Ψ}{tk:Nat->Tok}
theorem nM(a:At K mg "_law_take" bL ["_law_box_here","_law_many"])(T:HN K mg tk):Df P w K mg base "_law_take" X0 1 QL:=by
 refine a.dq Ii λf _ A _ s H vs Q E C h=>?_
 ·obtain⟨b,l,c,rfl,⟨n,m,k,g,u,t,y,B⟩,p,j,h1,q⟩:=h
  refine#[_,(qe (qK (qE sj (qC qG (qv 0) qf) qf (qA _)) (qe (qw (i:=2) Ii.nd Z (Or.inl Z) (qu zU (qC qG (qv 0) qf) (qv 1)))
   (qe (q9 (qu bF (qC qG (qv 0) qf) (qv 1)) (bD (qv 0) qf Zd))
   (qg (qr (qv 2))))) qF)
   (qe (q9 (qu qI (qC qG (qv 0) qf) qf) (bD (qv 0) qf Zd))
   (qe (qw (i:=3) Ii.nd Z (Or.inl Z) (qu qI (qC qG (qv 0) qf) (qu QU qf (qC qG (qv 0) qf))))
   (qe (zn JQ Z (zC Z T.b_range (qd qf qb)) (qh (i:=4) Ii.nd Z (Or.inl Z))
   (qg (qw (i:=3) Ii.nd Z (Or.inl Z) (qu zU (qu qI (qu qI (qu QU (qv 3) (qv 3)) (qu QU qf (qC qG (qv 0) qf))) qf) qf))))
   (qg (qr (qu zU (qu bF (qv 3) qf) (qv 1)))))))),?_]
  refine#[_,Z,b,_,_,_,Z,Z,G0.of g,Z,_,_,Z,Z,_,Z,?_]
  refine qV (λ_=>?_) (λ_=>?_)
  ·refine#[_,Z,b,_,_,_,Z,Z,G0.of g,Z,_,Z,_,_,Z,Z,j,?_]
   refine#[_,Z,b,_,_,_,Z,Z,G0.of g,Z,_,Z,_,_,Z,Z,#[j,h1],_,Z,b,_,_,0,Z,Z,g,Z,?_]
   refine#[_,Z,?_]
   refine q _ _ (Fp _ (by lia)) (Ft _ j) #[λc o p e=>?_,_,_,_,qc,u,t,y,by lia]
   rw[qm p];exact e
  ·refine#[_,Z,b,_,_,_,Z,Z,G0.of g,Z,_,_,Z,Z,_,Z,b,_,_,2,Z,Z,g,Z,?_]
   have d:(GW H b (rO n m (k+1))) b=↑(rO n m (k+1)):=qc
   refine#[_,Z,b,_,_,_,Z,Z,G0.of d,Z,_,Z,b,_,_,_,Z,Z,G0.of d,Z,_,_,Z,Z,.inl #[⋯,⋯],_,_,Z,Z,?_]
   refine#[3,Z,⋯,⋯,Qf (n:=3) (Pv:=λi σ r=>r=GW H b (rO n m (k+1))/\∃(z:Int) (o:Ν),σ=[↑(.ref b),↑(.int l),none,↑(.int z),o]/\0<=z/\z<2 ^ 64) #[Z,_,_,Z,by lia,by lia] ?_ ?_]
   ·rintro i σ r hi ⟨rfl,z,o,rfl,x,v⟩
    refine#[_,Z,_,Z,_,_,Z,Z,.inl #[by lia,by lia],_,Z,b,_,_,_,Z,Z,G0.of d,Z,_,_,Z,Z,.inl #[⋯,⋯],_,_,Z,Z,_,_,Z,Z,_,_,Z,Z,(by decide:(0:Int)<2305843009213693951),Z,_,_,Z,?_,?_]
    ·exact Fp _ ⋯
    ·exact Int.lt_trans (Ft _ ⋯) ⋯
   ·rintro σ r ⟨rfl,z,o,rfl,x,v⟩
    refine#[_,Z,_,_,Z,Z,#[⋯,⋯],_,Z,_,_,Z,Z,j,?_]
    refine q _ _ (Fp _ (by lia)) (Ft _ j) #[λc o p e=>?_,_,_,_,qc,u,t,by lia,by lia]
    rw[qm p];exact e
theorem rY(a:At K mg "_law_box" eC ["_law_script","_law_k"])(T:HN K mg tk):Df P w K mg base "_law_box" ["_law_script","_law_k"] 1 (ul K):=by
 refine a.dq Ie λf _ A _ s H vs Q E G h=>?_
 ·obtain⟨b,c,k,rfl,n,q⟩:=h
  refine#[_,(qe (q9 (qy (qd qf (qd qf qb))) (gT Z (ql (qh (i:=2) Ie.nd Z (Or.inl Z)) (ql (qh (i:=3) Ie.nd Z (Or.inl Z)) qM))))
   (qe (qK (qE fh (qv 1) (qx qY T.b_len J6 (qd (qv 0) qb)) (qA _)) (qg (qw (i:=2) Ie.nd Z (Or.inl Z) (qC qG (qv 0) (qv 1)))) qF)
   (qe (zn JQ Z (zN (Qh bv (qv 0) QF (QJ qf))) (qh (i:=4) Ie.nd Z (Or.inl Z))
   (qg (qw (i:=3) Ie.nd Z (Or.inl Z) (qu zU (qu qI (qu QU (qv 3) qf) (qv 4)) qf))))
   (qg (qr (zo (qd (qu QU (qx lS T.b_abs PyProof.Rows.boot_abs (qd (qv 2) qb)) (qH iU T.b_int GD (qd (zR rK (qx lS T.b_abs PyProof.Rows.boot_abs (qd (qv 2) qb)) (qu CN qf qf) (qA _)) qb))) (qd (qu zU (qu qI (qu qI (qu QU (qv 3) qf) (qv 2)) (qu QU qf (qv 1))) qf) (qd qf qb))))))))),?_]
  refine#[GJ,λC v=>#[C,_,Z,G9.of qc,Z,_,_,Z,_,_,Z,Z,?_]]
  have g:=GS.upd (o:= .tup [.int 0,.int 7]) v
  refine#[_,Z,_,Z,b,_,Z,.inl (g.seq n),_,_,Z,Z,_,Z,?_]
  refine qV (λhk=>?_) (λ_=>?_)
  ·have u:k<c.length:=by have:=Jx hk;rw[Je]at this;lia
   refine#[_,Z,_,Z,b,_,_,.int c[k],Z,Z,g.seq n,Qp (by rw[Jn,Jg u];rfl),?_]
   refine#[_,Z,_,Z,b,_,Z,g.seq n,λl B=>#[l,Z,#[_,G0.of qc],?_]]
   rw[cp];have j:=g.trans (GS.upd (o:= .lst ((aG c none ↑63).map V.int)) B)
   refine Qj (K:=K) (a:=l) (xs:=(aG c none ↑63).map V.int) (λi σ d=>d=GW (GW H C (.tup [.int 0,.int 7])) l (.lst ((aG c none ↑63).map V.int))/\∃(z:Int) (o:Ν),σ=[↑(.ref b),↑(.int (k:Int)),↑(.int c[k]),↑(.int z),o]/\0<=z/\z<2147483647) #[Z,_,_,Z,⋯,⋯] (λi σ d _ ⟨e,_⟩=>by subst e;exact G0.of qc) ?_ ?_
   ·rintro i x σ d r ⟨rfl,z,o,rfl,D,t⟩
    obtain⟨y,rfl,F⟩:=Qg r;refine#[_,Z,_,_,Z,Z,.inr #[⋯,⋯],_,Z,_,_,Z,Z,_,_,Z,Z,(by decide:(0:Int)<2147483647),Z,_,_,Z,Fp _ ⋯,Ft _ ⋯]
   ·rintro σ d ⟨rfl,z,o,rfl,D,t⟩
    refine#[_,Z,_,Z,_,Z,_,Z,_,_,Z,Z,#[⋯,⋯,⋯],_,_,Z,Z,.inr #[_,Z,?_]]
    refine#[_,_,Z,Z,.inr #[vd _,vq _],_,Z,_,_,Z,Z,.inr #[⋯,⋯],_,Z,_,_,Z,Z,_,Z,_,_,Z,Z,.inl #[⋯,⋯],_,_,Z,Z,_,_,Z,Z,(by decide:(0:Int)<2305843009213693951),?_]
    exact#[GK,λp m=>q _ _ (QR m j) (j.trans (GS.upd m)) #[_,_,_,qc,Fp _ ⋯,Int.lt_trans (Ft _ ⋯) ⋯,⋯,⋯]]
  ·refine#[_,Z,_,Z,b,_,Z,g.seq n,λl B=>#[l,Z,#[_,G0.of qc],?_]]
   rw[cp];have j:=g.trans (GS.upd (o:= .lst ((aG c none ↑63).map V.int)) B)
   refine Qj (K:=K) (a:=l) (xs:=(aG c none ↑63).map V.int) (λi σ d=>d=GW (GW H C (.tup [.int 0,.int 7])) l (.lst ((aG c none ↑63).map V.int))/\∃(z:Int) (o:Ν),σ=[↑(.ref b),↑(.int (k:Int)),↑(.int 0),↑(.int z),o]/\0<=z/\z<2147483647) #[Z,_,_,Z,⋯,⋯] (λi σ d _ ⟨e,_⟩=>by subst e;exact G0.of qc) ?_ ?_
   ·rintro i x σ d r ⟨rfl,z,o,rfl,D,t⟩
    obtain⟨y,rfl,F⟩:=Qg r;refine#[_,Z,_,_,Z,Z,.inr #[⋯,⋯],_,Z,_,_,Z,Z,_,_,Z,Z,(by decide:(0:Int)<2147483647),Z,_,_,Z,Fp _ ⋯,Ft _ ⋯]
   ·rintro σ d ⟨rfl,z,o,rfl,D,t⟩
    refine#[_,Z,_,Z,_,Z,_,Z,_,_,Z,Z,#[⋯,⋯,⋯],_,_,Z,Z,.inr #[_,Z,?_]]
    refine#[_,_,Z,Z,.inr #[vd _,vq _],_,Z,_,_,Z,Z,.inr #[⋯,⋯],_,Z,_,_,Z,Z,_,Z,_,_,Z,Z,.inl #[⋯,⋯],_,_,Z,Z,_,_,Z,Z,(by decide:(0:Int)<2305843009213693951),?_]
    exact#[GK,λp m=>q _ _ (QR m j) (j.trans (GS.upd m)) #[_,_,_,qc,Fp _ ⋯,Int.lt_trans (Ft _ ⋯) ⋯,⋯,⋯]]
theorem mJ(a:At K mg "_law_table" bh ["_law_box_here"])(T:HN K mg tk)(X:Df P w K mg base "_law_take" X0 1 QL):Df P w K mg base "_law_table" X7 2 lD:=by
 refine a.dq Lc λf _ A _ s H vs Q E Y h=>?_
 ·obtain⟨b,c,rfl,F,hc,q⟩:=h
  refine#[_,(qe (qw (i:=1) Lc.nd Z (Or.inr Z) (qH (ra Z) T.b_list FM (qd (qH i0 T.b_range PyProof.Rows.boot_range (qd qf qb)) qb)))
   (qg (qr (qH qX T.b_tuple J0 (qd (zB (own:=["_law_k"]) (fr:=["_law_rest","_law_box_here"]) (js:=[1,0]) Z (zC Z T.b_range (qd qf qb)) Z (wk Z Z) Z (wf Z nofun nofun nofun Z Z Z Z Z Z) (λ_ _ _ _=>qh (i:=0) (show List.Nodup (["_law_k","_law_rest","_law_box_here"]:Α)from by decide +kernel) Z (Or.inl Z) (.inr Z)) (λ_ _ _ _=>(mW (K:=K) Z EZ PySem.F.slot_list_pop PySem.F.type_list_pop fT (qv 1) (qd (qp X Y.mo (qd (qv 2) (qd (qx (cI (K:=K) Z) T.b_len J6 (qd (qv 1) qb)) qb))) qb)))) qb))))),?_]
  refine#[_,Z,λr g=>#[r,16,Z,qc,⋯,λl B=>?_]]
  rw[C5];have O:=(GS.upd (o:= .rng 0 16) g).trans (GS.upd (o:= .lst (HW.map V.int)) B)
  have u:l≠b:=qS ((GS.upd g).grc F).bx B
  refine#[_,Z,⋯,⋯,Zn (n:=16) ⋯ (λi ys C=>IQ b (c+i) H C/\∃d zs:Β,C l=↑(.lst (d.map V.int))/\ys=zs.map V.int/\d.length+i=16/\(zs++d).Perm HW) #[O.grc F,HW,[],qc,Z,by rw[lU],.refl _] ?_ ?_]
  ·rintro i ys C hi U ⟨v,d,zs,y,rfl,I,pm⟩
   refine#[_,Z,.inl #[Z,_,G0.of y],?_]
   refine#[_,Z,_,Z,l,_,Z,.inl (G0.of y),b,_,_,Z,v.bx,by lia,by rw[Je];lia,by rw[Je];lia,λx H3 x0 S G=>?_]
   rw[Je]at S;obtain⟨k,rfl⟩:∃k:Nat,x=(k:Int):=#[x.toNat,by lia]
   have hk:k<d.length:=by lia
   have D:=G.kp _ _ u y;refine#[l,_,_,k,.int d[k],Z,Z,D,by lia,by lia,?_,?_,?_]
   ·rw[Je];exact cS hk
   ·rw[Jn,Jg hk];rfl
   ·refine#[#[λc o j e=>?_,?_],d.eraseIdx k,zs++[d[k]],?_,by simp,?_,?_]
    ·by_cases z:c=l
     ·subst z
      rw[GS.upd g _ _ e]at B;cases B
     ·rw[qm z];exact G.kp _ _ j (v.kp _ _ j e)
    ·obtain⟨n,m,W,e,r⟩:=G.bx
     exact#[n,m,W,by rw[qm u.symm];exact e,r]
    ·rw[qc,rg]
    ·rw[List.length_eraseIdx_of_lt hk];lia
    ·exact(vQ hk).trans pm
  ·rintro ys C M ⟨v,d,zs,y,rfl,I,pm⟩ p N
   have R:d=[]:=List.eq_nil_of_length_eq_zero (by lia)
   subst R;rw[E3]at pm;refine#[p,_,Z,.inl #[G0.of qc,λt J=>?_]]
   have L:=v.same (GS.upd (o:= .lst (zs.map V.int)) N)
   exact q t zs _ (L.same (GS.upd J)) (L.fresh (F.mono (by lia)) J) qc pm
theorem rS(a:At K mg "_law_key" cY ["_law_box_here"])(T:HN K mg tk)(v:Df P w K mg base "_law_take" X0 1 QL):Df P w K mg base "_law_key" X7 2 oG:=by
 refine a.dq rQ λf _ A _ s H vs Q E B h=>?_
 ·obtain⟨b,c,rfl,u,O,q⟩:=h
  refine#[_,(qg (qr (qH qX T.b_tuple J0 (qd (zB (own:=["_law_k"]) (fr:=["_law_box_here"]) (js:=[0]) Z (zC Z T.b_range (qd (qu qI qf (qp v B.mo (qd (qv 0) (qd qf qb)))) qb)) Z (gd Z) Z (iu Z nofun nofun nofun Z Z Z) (λ_ _ _ _=>qh (i:=0) (show List.Nodup (["_law_k","_law_box_here"]:Α)from by decide +kernel) Z (Or.inl Z) (.inr Z)) (λ_ _ _ _=>(qp v B.mo (qd (qv 1) (qd qf qb))))) qb)))),?_]
  refine#[_,Z,b,_,_,Z,u,by lia,⋯,⋯,λr H1 S R M=>#[_,_,Z,Z,_,Z,by lia,by lia,?_]]
  obtain⟨n,rfl,U⟩:∃n:Nat,r=(n:Int)/\n<8:=#[r.toNat,by lia,by lia]
  have C:(1+(n:Int)).toNat=n+1:=by lia
  rw[C];refine Zn (n:=n+1) (JG (by lia:n+1<=8) ⋯) (λi ys j=>IQ b (c+1+i) H j/\∃d:Β,ys=d.map V.int/\zy d) #[M,[],Z,λ_ h=>nomatch h] ?_ ?_
  ·rintro i ys j hi G ⟨e,d,rfl,hk⟩
   refine#[_,Z,b,_,_,Z,e.bx,by lia,⋯,⋯,λx N I F L=>#[e.trans L,d++[x],by simp,λz J=>?_]]
   rcases JL.mp J with y|y
   ·exact hk z y
   ·rw[Jh.mp y];exact#[I,F]
  ·rintro ys j g ⟨e,d,rfl,hk⟩ p D
   rw[Je]at g;refine#[p,_,Z,.inl #[G0.of qc,λt l=>?_]]
   have m:=e.same (GS.upd (o:= .lst (d.map V.int)) D)
   exact q t d _ ((m.same (GS.upd l)).mono (by lia)) (m.fresh (u.mono (by lia)) l) qc hk (by lia) (by lia)
end
section
variable{P:Ξ}{w:Ω}{K:ι}{mg:GQ}{base:Ψ}{tk:Nat->Tok}
theorem jU(a:At K mg "back_table" af ["table"])(T:HN K mg tk):Df P w K mg base "back_table" ["table"] 1 (uj K):=by
 refine a.dq Ig λf _ A _ s H vs Q E hr h=>?_
 ·obtain⟨c,t,rfl,D,pm,q⟩:=h
  refine#[_,(qe (qw (i:=1) Ig.nd Z (Or.inl Z) (qu vI (zo (qd qf qb)) (zj (v:= .int 16) Z T.g_DIGITS #[_,Z])))
   (qe (zn JQ Z (xi Z T.b_enumerate (qd (qv 0) qb)) (gT Z (ql (qh (i:=2) Ig.nd Z (Or.inl Z)) (ql (qh (i:=3) Ig.nd Z (Or.inl Z)) qM)))
   (qg (q9 (qv 2) (bD (qv 1) (qv 3) Zd))))
   (qg (qr (qH qX T.b_tuple J0 (qd (qv 1) qb)))))),?_]
  refine#[GI,λp Y=>#[p,16,_,Z,Z,qc,⋯,⋯,GO,λl S=>?_]]
  have e0:(List.replicate (16:Int).toNat [V.int 0]).flatten=(QM t 0).map V.int:=by rw[vY];rfl
  rw[e0];have W:=(GS.upd (o:= .lst [V.int 0]) Y)
  have I:=W.trans (GS.upd (o:= .lst ((QM t 0).map V.int)) S)
  have step:∀(i:Nat) (x:V) (g:Hp) (r:Δ),(t.map V.int)[i]? =↑x->g l=↑(.lst ((QM t i).map V.int))->GS H g->g r=none->
    ∃j:Nat,∃z:Int,x= .int z/\Z1 ((QM t i).map V.int).length z=↑j/\(GW g r (.tup [.int i,x])) l=↑(.lst ((QM t i).map V.int))/\
     (GW (GW g r (.tup [.int i,x])) l (.lst (((QM t i).map V.int).set j (.int i)))) l=↑(.lst ((QM t (i+1)).map V.int))/\GS H (GW (GW g r (.tup [.int i,x])) l (.lst (((QM t i).map V.int).set j (.int i)))):=by
   intro i x g r F n m u;obtain⟨z,rfl,X⟩:=Qg F;have hi:i<t.length:=(Js.mp X).1
   have ez:t[i]=z:=(Js.mp X).2
   have bd:=ku pm hi;have sp:=GS.upd (o:= .tup [.int i,.int z]) u
   refine#[z.toNat,z,Z,iD (by lia) (by rw[Je,bE];lia),sp _ _ n,?_,λd o e=>?_]
   ·rw[qc,ca,<- ez,yi pm hi]
   ·have L:d≠l:=λy=>by
     rw[y]at e;rw[W _ _ e]at S;cases S
    rw[qm L];exact sp _ _ (m _ _ e)
  have G:∀(o:Ν) (o':Ν) (g:Hp),g l=↑(.lst ((QM t t.length).map V.int))->GS H g->∀J,g J=none->Q (.ref J) (GW g J (.tup ((QM t t.length).map V.int))):=λ_ _ g n m J M=>
   q _ _ (m.trans (GS.upd M)) (by rw[qc,Bh pm])
  rcases D with D|D
  ·refine#[_,Z,c,Z,.inl #[#[_,I.seq D],?_]]
   refine kL (K:=K) (a:=c) (xs:=t.map V.int) (λi σ g=>∃(C B:Ν),σ=[↑(.ref c),↑(.ref l),C,B]/\g l=↑(.lst ((QM t i).map V.int))/\GS H g) #[none,none,Z,qc,I] (λi σ g _ ⟨_,_,_,_,m⟩=>m.seq D) ?_ ?_
   ·rintro i x σ g r F ⟨C,B,rfl,n,m⟩ u
    obtain⟨j,z,rfl,R,U,O,N⟩:=step i x g r F n m u;refine#[r,_,Z,G9.of qc,Z,_,_,Z,_,_,Z,Z,?_]
    exact#[_,Z,_,Z,_,Z,l,_,_,j,Z,Z,U,R,_,_,Z,O,N]
   ·rintro σ g ⟨C,B,rfl,n,m⟩
    rw[Je]at n
    exact#[_,Z,l,_,Z,.inl #[G0.of n,G C B g n m]]
  ·refine#[_,Z,c,Z,.inr #[#[_,GS.sqt I D],?_]]
   refine vg (K:=K) (a:=c) (xs:=t.map V.int) (λi σ g=>∃(C B:Ν),σ=[↑(.ref c),↑(.ref l),C,B]/\g l=↑(.lst ((QM t i).map V.int))/\GS H g) #[none,none,Z,qc,I] (λi σ g _ ⟨_,_,_,_,m⟩=>GS.sqt m D) ?_ ?_
   ·rintro i x σ g r F ⟨C,B,rfl,n,m⟩ u
    obtain⟨j,z,rfl,R,U,O,N⟩:=step i x g r F n m u;refine#[r,_,Z,G9.of qc,Z,_,_,Z,_,_,Z,Z,?_]
    exact#[_,Z,_,Z,_,Z,l,_,_,j,Z,Z,U,R,_,_,Z,O,N]
   ·rintro σ g ⟨C,B,rfl,n,m⟩
    rw[Je]at n
    exact#[_,Z,l,_,Z,.inl #[G0.of n,G C B g n m]]
theorem xp(a:At K mg "coded" iM ["table","key","digits"])(T:HN K mg tk):Df P w K mg base "coded" X9 1 (il K):=by
 refine a.dq IR λf _ A _ s H vs Q E hr h=>?_
 ·obtain⟨a,b,c,t,J,ds,rfl,ha,Y,R,lt,l1,U,q⟩:=h
  refine#[_,(qe (qw (i:=3) IR.nd Z (Or.inl Z) (qH Zq T.b_list FM (qd (qv 2) qb)))
   (qe (zn JQ Z (bw (qv 1)) (qh (i:=4) IR.nd Z (Or.inl Z))
   (qg (zn JQ Z (zC Z T.b_range (qd (qx qY T.b_len J6 (qd (qv 2) qb)) qb)) (qh (i:=5) IR.nd Z (Or.inl Z))
   (qe (qw (i:=6) IR.nd Z (Or.inl Z) (qC qG (qv 3) (qu zO (qv 5) qf)))
   (qg (q9 (qC (MZ.or qG qO) (qv 0) (qu zU (qu qI (qu qI (qu qI (qC qG (qv 3) (qv 5)) (qv 4)) (qv 5)) (qv 6)) (zj (v:= .int 16) Z T.g_DIGITS #[_,Z]))) (bD (qv 3) (qv 5) Zd)))))))
   (qg (qr (qH qX T.b_tuple J0 (qd (qv 3) qb)))))),?_]
  refine#[_,Z,c,_,Z,R,λl S=>?_]
  have W:GS H _:=GS.upd (o:= .lst (ds.map V.int)) S
  refine#[_,Z,b,Z,BC (K:=K) (H0:=H) Y (λj σ I=>GS H I/\∃M m g,σ=[↑(.ref a),↑(.ref b),↑(.ref c),↑(.ref l),M,m,g]/\I l=↑(.lst ((QC t (J.take j) ds).map V.int))) #[W,_,_,_,Z,qc] (λj a0 H' h=>h.1) ?_ ?_]
  ·rintro j x σ I X ⟨y,M,m,g,rfl,D⟩
   obtain⟨d,rfl,N⟩:=Qg X;rw[im N,lV];have C:(QC t (J.take j) ds).length=ds.length:=bM
   generalize QC t (J.take j) ds=r at D C
   refine#[_,Z,c,_,Z,R.same y,_,Z,?_,?_,?_]
   ·lia
   ·rw[Je];lia
   rw[show((((ds.map V.int).length:Nat):Int)).toNat=ds.length by rw[Je];rfl]
   refine Qf (n:=ds.length) (Pv:=λi σ G=>GS H G/\∃m g,σ=[↑(.ref a),↑(.ref b),↑(.ref c),↑(.ref l),↑(.int d),m,g]/\G l=↑(.lst ((ZW t d r i).map V.int))) #[y,_,_,Z,D] ?_ ?_
   ·rintro i σ G hi ⟨F,m,g,rfl,e⟩
    have z:(ZW t d r i).length=ds.length:=by rw[Qy,C]
    generalize hr':ZW t d r i=B at e z
    have u:i<B.length:=by lia
    refine#[_,Z,_,Z,_,_,Z,Z,l,_,_,_,Z,Z,G0.of e,tR (i:=i) (by lia) u,?_]
    refine#[_,Z,_,Z,_,Z,l,_,_,_,Z,Z,G0.of e,aI (i:=i) (by lia) u,_,Z,_,_,Z,Z,_,Z,_,_,Z,Z,_,Z,_,_,Z,Z,_,_,Z,Z,(by decide:(0:Int)<16),?_]
    have L:=ac (B.getD i 0+d+(0+(i:Int))+ah B i)
    refine(ha.same F).ix (aI (i:=((B.getD i 0+d+(0+(i:Int))+ah B i)%16).toNat) (by have:=L.1;lia) (by rw[lt];have:=L.1;have:=L.2;lia)) ?_
    refine#[_,Z,_,Z,l,_,_,i,Z,Z,e,iD (by lia) (by rw[Je];exact u),Zp F S,_,_,Z,?_]
    rw[qc,ca,ZW,hr',iB,Int.zero_add]
   ·rintro σ G ⟨F,m,g,rfl,e⟩
    exact#[F,_,_,_,Z,e]
  ·rintro σ I ⟨y,M,m,g,rfl,D⟩
   rw[Je,E5]at D
   exact#[_,Z,l,_,Z,.inl #[G0.of D,λp O=>q p _ (y.trans (GS.upd O)) (QR O y) qc]]
theorem rj(a:At K mg "decoded" eD ["table","key","digits"])(T:HN K mg tk)(xP:Df P w K mg base "back_table" ["table"] 1 (uj K)):Df P w K mg base "decoded" X9 2 (jd K):=by
 refine a.dq HZ λf _ A _ s H vs Q E hr h=>?_
 ·obtain⟨a,b,c,t,e,ds,rfl,ha,hb,hc,pm,a0,l1,a1,q⟩:=h
  refine#[_,(qe (qw (i:=3) HZ.nd Z (Or.inl Z) (qp xP hr.mo (qd (qv 0) qb)))
   (qe (qw (i:=4) HZ.nd Z (Or.inl Z) (qH Zq T.b_list FM (qd (qv 2) qb)))
   (qe (zn JQ Z (uH Z T.b_reversed (qd (qv 1) qb)) (qh (i:=5) HZ.nd Z (Or.inl Z))
   (qg (zn JQ Z (uH Z T.b_reversed (qd (qH i0 T.b_range PyProof.Rows.boot_range (qd (qx qY T.b_len J6 (qd (qv 2) qb)) qb)) qb)) (qh (i:=6) HZ.nd Z (Or.inl Z))
   (qe (qw (i:=7) HZ.nd Z (Or.inl Z) (qC qG (qv 4) (qu zO (qv 6) qf)))
   (qg (q9 (qu zU (qu zO (qu zO (qu zO (qC qO (qv 3) (qC qG (qv 4) (qv 6))) (qv 5)) (qv 6)) (qv 7)) (zj (v:= .int 16) Z T.g_DIGITS #[_,Z])) (bD (qv 4) (qv 6) Zd)))))))
   (qg (qr (qH qX T.b_tuple J0 (qd (qv 4) qb))))))),?_]
  refine#[_,Z,a,t,Z,ha,pm,λW H1 G U=>?_]
  refine#[_,Z,c,_,Z,hc.same G,λl hl=>?_]
  have C:GS H1 _:=GS.upd (o:= .lst (ds.map V.int)) hl
  refine#[_,Z,b,Z,vZ (K:=K) (H0:=H1) (hb.same G) (λj σ S=>GS H1 S/\∃o4 D B,σ=[↑(.ref a),↑(.ref b),↑(.ref c),↑(.ref W),↑(.ref l),o4,D,B]/\S l=↑(.lst ((Zb (zz t) (e.drop (e.length-j)) ds).map V.int))) #[C,_,_,_,Z,by rw[Nat.sub_zero,List.drop_length];exact qc] (λj a2 H' h=>h.1) ?_ ?_]
  ·rintro j x σ S hj hx ⟨C,o4,D,B,rfl,J⟩
   obtain⟨d,rfl,N⟩:=Qg hx;rw[Je]at hj N;have ed:e.drop (e.length-(j+1))=d::e.drop (e.length-j):=by
    have:=uG N
    rw[show e.length-1-j+1=e.length-j by lia]at this
    rw[show e.length-(j+1)=e.length-1-j by lia]
    exact this
   rw[ed,Zb];have I:(Zb (zz t) (e.drop (e.length-j)) ds).length=ds.length:=f7
   have L:zy (Zb (zz t) (e.drop (e.length-j)) ds):=kX a0
   generalize Zb (zz t) (e.drop (e.length-j)) ds=r at J I L
   refine#[_,Z,c,_,Z,(hc.same G).same C,_,Z,λpr F=>#[pr,Z,.inr (.inr #[ds.length,?_,by lia,?_])]]
   ·rw[qc,Je]
   have Y:=C.trans (GS.upd (o:= .rng 0 ((ds.map V.int).length:Nat)) F)
   have X:=GS.upd (o:= .rng 0 ((ds.map V.int).length:Nat)) F _ _ J
   refine vW (n:=ds.length) (Pv:=λi σ R=>GS H1 R/\∃D B u,σ=[↑(.ref a),↑(.ref b),↑(.ref c),↑(.ref W),↑(.ref l),↑(.int d),D,B]/\R l=↑(.lst (u.map V.int))/\u.length=ds.length/\zy u/\aA (zz t) d u (ds.length-i)=aA (zz t) d r ds.length) #[Y,_,_,r,Z,X,I,L,Z] ?_ ?_
   ·rintro i σ R hi ⟨O,D,B,u,rfl,g,z,m,M⟩
    have y:ds.length-1-i<u.length:=by lia
    have ep:(ds.length:Int)-1-i=((ds.length-1-i:Nat):Int):=by lia
    rw[ep];generalize hpl:ds.length-1-i=pl at y
    rw[show ds.length-i=pl+1 by lia,aA]at M
    refine#[_,Z,_,Z,_,_,Z,Z,l,_,_,_,Z,Z,G0.of g,tR (i:=pl) Z y,?_]
    have dr:=hX m pl;refine#[_,Z,_,Z,_,Z,l,_,_,_,Z,Z,G0.of g,aI (i:=pl) Z y,W,_,_,_,Z,Z,G9.of (O _ _ U),aI (i:=(u.getD pl 0).toNat) (by have:=dr.1;lia) (by rw[aL];have:=dr.1;have:=dr.2;lia),?_]
    refine#[_,Z,_,_,Z,Z,_,Z,_,_,Z,Z,_,Z,_,_,Z,Z,_,_,Z,Z,(by decide:(0:Int)<16),?_]
    refine#[_,Z,_,Z,l,_,_,pl,Z,Z,g,pH (by rw[Je];exact y),Zp O hl,_,_,gf (zz t) d u pl,Z,?_,by rw[lJ];exact z,mH m,?_]
    ·rw[qc,ca,gf]
    ·rw[show ds.length-(i+1)=pl by lia];exact M
   ·rintro σ R ⟨O,D,B,u,rfl,g,z,m,M⟩
    rw[Nat.sub_self,aA]at M;rw[M]at g
    exact#[O,_,_,_,Z,g]
  ·rintro σ S ⟨C,o4,D,B,rfl,J⟩
   rw[Je,Nat.sub_self,List.drop_zero]at J
   exact#[_,Z,l,_,Z,.inl #[G0.of J,λp hp=>q p _ ((G.trans C).trans (GS.upd hp)) (QR hp (G.trans C)) qc]]
theorem gb(a:At K mg "letter_digits" Zj ["name"])(T:HN K mg tk):Df P w K mg base "letter_digits" ["name"] 1 jA:=by
 refine a.dq HK λf _ A _ s H vs Q E y h=>?_
 ·obtain⟨z,rfl,r,q⟩:=h
  refine#[_,(qe (qw (i:=1) HK.nd Z (Or.inl Z) (zo qb))
   (qe (zn JQ Z (vJ (qv 0)) (qh (i:=2) HK.nd Z (Or.inl Z))
   (qe (qw (i:=3) HK.nd Z (Or.inl Z) (qu zO (qx lH T.b_ord PyProof.Rows.boot_ord (qd (qv 2) qb)) (qx lH T.b_ord PyProof.Rows.boot_ord (qd qB qb))))
   (qe (zm (QZ EZ Fx Fy zW (qv 1) (qd (qu zU (qv 3) (zj (v:= .int 16) Z T.g_DIGITS #[_,Z])) qb)))
   (qg (zm (QZ EZ Fx Fy zW (qv 1) (qd (qu bF (qv 3) (zj (v:= .int 16) Z T.g_DIGITS #[_,Z])) qb)))))))
   (qg (qr (qv 1))))),?_]
  refine#[GH,λl g=>?_]
  refine#[_,Z,z,Z,lF r,AQ (λi σ d=>GS H d/\∃p o,σ=[↑(.str z),↑(.ref l),p,o]/\d l=↑(.lst ((Q1 (z.cps.toList.take i)).map V.int))) #[GS.upd g,_,_,Z,qc] ?_ ?_]
  ·rintro i c σ d u ⟨n,p,o,rfl,e⟩
   have j:=oO u;rw[AS j,vi];have m:(Q1 (z.cps.toList.take i)).length<=16:=by rw[jF,EX];have:=r.2.2;lia
   generalize Q1 (z.cps.toList.take i)=ds at e m
   have x:((((#[(List.toArray [c])]:Str).cps.getD 0 0:Nat):Int)-((("a":Str).cps.getD 0 0:Nat):Int))=(c:Int)-97:=Z
   have big:(100:Nat)<ζ:=by decide
   refine#[_,Z,_,Z,Z,_,Z,Z,_,_,Z,Z,?_]
   show cT _ _ _ [↑(V.str z),↑(V.ref l),↑(V.str #[(List.toArray [c])]),↑(V.int ((c:Int)-97))] d
   refine#[_,Z,.inl #[Z,_,G0.of e],_,Z,_,_,Z,Z,(by decide:(0:Int)<16),l,_,_,Z,Z,e,by rw[Je];lia,?_]
   have t:GS H (GW d l (.lst (ds.map V.int++[V.int (((c:Int)-97)%16)]))):=Zp n g
   refine#[_,Z,.inl #[Z,_,G0.of qc],_,Z,_,_,Z,Z,#[⋯,⋯],l,_,_,Z,Z,qc,by rw[Jv,Je,Fd];lia,Zp t g,_,_,Z,?_]
   rw[qc,JK,Fh];rfl
  ·rintro σ d ⟨n,p,o,rfl,e⟩
   rw[show z.cps.size=z.cps.toList.length from Z,E5]at e
   exact#[_,Z,q l d n g e]
theorem uS(a:At K mg "key_of" fR ["table","key","name"])(T:HN K mg tk)(d8:Df P w K mg base "letter_digits" ["name"] 1 jA)(xI:Df P w K mg base "coded" X9 1 (il K)):Df P w K mg base "key_of" V2 2 (iE K):=by
 refine a.dq IT λf _ A _ s H vs Q E hr h=>?_
 ·obtain⟨a,b,z,t,ks,rfl,ha,hb,hz,lt,q⟩:=h
  refine#[_,(qe (qw (i:=3) IT.nd Z (Or.inl Z) (qu vI (zo (qd qf qb)) (zj (v:= .int 4) Z T.g_KEY_PLACES #[_,Z])))
   (qe (zn JQ Z (Bi Z T.b_enumerate (qd (qp d8 hr.mo (qd (qv 2) qb)) qb)) (gT Z (ql (qh (i:=4) IT.nd Z (Or.inl Z)) (ql (qh (i:=5) IT.nd Z (Or.inl Z)) qM)))
   (qg (Bv (qv 3) (qu zU (qv 4) (zj (v:= .int 4) Z T.g_KEY_PLACES #[_,Z])) wb (qv 5) Cc Zd)))
   (qg (qr (qp xI hr.mo (qd (qv 0) (qd (qv 1) (qd (zB (own:=["total"]) (fr:=[]) (js:=[]) Z (zN (qv 3)) Z (λ_ _ h=>nomatch h) Z (Zk Z nofun nofun nofun) (λ_ _ _ _=>qh (i:=0) (show List.Nodup (["total"]:Α)from by decide +kernel) Z (Or.inl Z) (.inr Z)) (λ_ _ _ _=>(qu zU (qv 0) (zj (v:= .int 16) Z T.g_DIGITS #[_,Z])))) qb)))))))),?_]
  refine#[GI,λX U=>#[X,4,_,Z,Z,qc,⋯,⋯,GL,λl hl=>?_]]
  have Y:=(GS.upd (o:= .lst [V.int 0]) U)
  have s2:=Y.trans (GS.upd (o:= .lst (List.replicate (4:Int).toNat [V.int 0]).flatten) hl)
  have L:H l=none:=QR hl Y
  refine#[_,Z,z,Z,hz,λD H1 s3 c d=>?_]
  have W:=s3 _ _ (qc (H:=GW H X (.lst [V.int 0])) (a:=l) (o:= .lst (List.replicate (4:Int).toNat [V.int 0]).flatten))
  have G:D≠l:=λy=>by rw[y,qc]at c;cases c
  generalize hds:Q1 z.cps.toList=ds at d q
  have a1:ds.length<=16:=by rw[<- hds,jF];have:=hz.2.2;lia
  refine#[D,Z,#[_,G0.of d],kL (K:=K) (a:=D) (xs:=ds.map V.int) (λi σ j=>∃(S M:Ν),σ=[↑(.ref a),↑(.ref b),↑(.str z),↑(.ref l),S,M]/\j l=↑(.lst ((ZK ds i).map V.int))/\j D=↑(.lst (ds.map V.int))/\GS H j)
   #[none,none,Z,W,d,s2.trans s3] (λi σ j _ ⟨_,_,_,_,hd,_⟩=>G0.of hd) ?_ ?_]
  ·rintro i x σ j pp O ⟨S,M,rfl,u,B,m⟩ R
   obtain⟨dg,rfl,n⟩:=Qg O;have hi:i<ds.length:=(Js.mp n).1
   have eg:ds.getD i 0=dg:=by rw[Jz,n];rfl
   have g:=GS.upd (o:= .tup [.int i,.int dg]) R
   have r:=g _ _ u;have N:i%4<(ZK ds i).length:=Nat.mod_lt i ⋯
   have e4:(i:Int)%4=((i%4:Nat):Int):=by lia
   refine#[pp,_,Z,G9.of qc,Z,_,_,Z,_,_,Z,Z,?_]
   refine#[_,Z,_,Z,_,_,Z,Z,(by decide:(0:Int)<4),l,_,i%4,.int ((ZK ds i).getD (i%4) 0),Z,(by show V.int ((i:Int)%4)=_;rw[e4]),r,?_,_,Z,_,_,Z,Z,l,_,_,i%4,Z,Z,r,iD e4 (by rw[Je];exact N),_,_,Z,?_,?_,?_]
   ·rw[iF N,Jz,Jg N];rfl
   ·rw[qc,ca,<- eg,uv]
   ·rw[qm G];exact g _ _ B
   ·exact Zp (m.trans g) L
  ·rintro σ j ⟨S,M,rfl,u,B,m⟩
   rw[Je]at u;refine#[_,Z,_,Z,_,Z,l,Z,#[_,G0.of u],Zf (xs:=(ZK ds ds.length).map V.int) (GL) (λi ys C=>ys=((aZ ds).take i).map V.int/\C=j) #[by simp,Z] (λi ys C ⟨_,e⟩=>by rw[e];exact G0.of u) ?_ ?_]
   ·rintro i ys C x O _ ⟨rfl,rfl⟩
    obtain⟨y,rfl,hy⟩:=Qg O;refine#[_,Z,_,_,Z,Z,(by decide:(0:Int)<16),?_,Z]
    have:(aZ ds)[i]? =↑(y%16):=by unfold aZ;rw[Jn,hy];rfl
    rw[J9,this];simp
   ·rintro ys C a0 ⟨rfl,rfl⟩ p hp
    rw[show(aZ ds).take ((ZK ds ds.length).map V.int).length=aZ ds from Z]
    have F:=GS.upd (o:= .lst ((aZ ds).map V.int)) hp
    exact#[a,b,p,t,ks,aZ ds,Z,(ha.same m).same F,(hb.same m).same F,.lst qc,lt,by rw[lX];decide,by rw[lX];decide,λp' H' s' J I=>q p' H' ((m.trans F).trans s') (QR J (m.trans F)) I]
theorem gW(a:At K mg "count_digits" ZF ["count"])(T:HN K mg tk):Df P w K mg base "count_digits" ["count"] 1 BQ:=by
 refine a.dq gJ λf _ A _ s H vs Q E e h=>?_
 ·obtain⟨c,rfl,q⟩:=h
  refine#[_,(qg (qr (qy (qd (qu zU (qv 0) (zj (v:= .int 16) Z T.g_DIGITS #[_,Z])) (qd (qu zU (qu bF (qv 0) (zj (v:= .int 16) Z T.g_DIGITS #[_,Z])) (zj (v:= .int 16) Z T.g_DIGITS #[_,Z])) (qd (qu bF (qv 0) qf) qb)))))),?_]
  exact#[_,Z,_,_,Z,Z,(by decide:(0:Int)<16),_,Z,_,_,Z,Z,#[⋯,⋯],_,_,Z,Z,(by decide:(0:Int)<16),_,Z,_,_,Z,Z,#[⋯,⋯],GK,λp d=>q p _ (GS.upd d) qc]
theorem BG{c d:Int}(a:0<=c)(h1:c<4096)(hd:aR d):∀z∈Z6 c d,0<=z/\z<=1000000:=λz e=>by
 have:=fN a h1 hd z (FN _ e)
 exact#[this.1,Int.le_trans (Int.le_of_lt this.2) ⋯]
theorem nF(a:At K mg "press_of" cu ["table","key","name","age","count","deed"])(T:HN K mg tk)(xA:Df P w K mg base "count_digits" ["count"] 1 BQ)(xB:Df P w K mg base "key_of" V2 2 (iE K))(Y:Df P w K mg base "coded" X9 1 (il K)):Df P w K mg base "press_of" W7 3 (oB K):=by
 refine a.dq IS λf _ A _ s H vs Q E D h=>?_
 ·obtain⟨a,b,z,age,c,d,t,J,rfl,M,hb,hz,lt,O,c1,S,q⟩:=h
  refine#[_,(qe (qw (i:=6) IS.nd Z (Or.inl Z) (qu Z9 (qp xA D.mo (qd (qv 4) qb)) (qy (qd (qv 5) qb))))
   (qe (qw (i:=7) IS.nd Z (Or.inl Z) (qu Z9 (qv 6) (qy (qd (qu zU (qx (uM Z) T.b_sum PyProof.Rows.boot_sum (qd (qv 6) qb)) (zj (v:= .int 16) Z T.g_DIGITS #[_,Z])) qb))))
   (qg (qr (qy (qd (qv 2) (qd (qv 3) (qd (qp Y D.mo (qd (qv 0) (qd (qp xB D.mo (qd (qv 0) (qd (qv 1) (qd (qv 2) qb)))) (qd (qv 7) qb)))) qb)))))))),?_]
  refine#[_,Z,c,Z,λp1 H1 X C=>?_]
  refine#[_,Z,GI,λp2 m=>?_]
  have F:=GS.upd (o:= .tup [V.int d]) m
  refine#[p1,p2,_,_,Z,Z,F _ _ C,qc,GL,λB H3 W x=>?_]
  have e:H3 B=↑(.tup ((Z6 c d).map V.int)):=x
  have S3:=(X.trans F).trans W;refine#[_,Z,_,Z,B,Z6 c d,Z,.tup e,by show 4<=1000;decide,BG O c1 S,_,_,Z,Z,(by decide:(0:Int)<16),GI,λp4 y=>?_]
  have L:=GS.upd (o:= .tup [V.int ((Z6 c d).sum%16)]) y
  refine#[B,p4,_,_,Z,Z,L _ _ e,qc,GM,λI H5 U r=>?_]
  have g:H5 I=↑(.tup ((Z5 c d).map V.int)):=r
  have j:=(S3.trans L).trans U;refine#[_,Z,_,Z,_,Z,_,Z,_,Z,_,Z,a,b,z,t,J,Z,M.same j,hb.same j,hz,lt,λpk H6 l _ u=>?_]
  refine#[_,Z,a,pk,I,t,iL t J z,Z5 c d,Z,(M.same j).same l,.tup u,.tup (l _ _ g),lt,by rw[bQ];decide,by rw[bQ];decide,λN H7 s7 _ n=>?_]
  refine#[GK,λp R=>?_]
  have G:=GS.upd (o:= .tup [V.str z,.int age,.ref N]) R
  exact q p N _ (((j.trans l).trans s7).trans G) qc (G _ _ n)
theorem jY(a:At K mg "read_press" ae ["table","key","press"])(T:HN K mg tk)(S:Df P w K mg base "key_of" V2 2 (iE K))(yF:Df P w K mg base "decoded" X9 2 (jd K)):Df P w K mg base "read_press" V0 3 (l6 K):=by
 refine a.dq Hl λf _ A _ s H vs Q E G h=>?_
 ·obtain⟨a,b,O,pc,z,age,t,l,ds,rfl,F,U,n,r,R,pm,X,B,q⟩:=h
  refine#[_,(qe (q9 (qv 2) (ze Z (ql (qh (i:=3) Hl.nd Z (Or.inl Z)) (ql (qh (i:=4) Hl.nd Z (Or.inl Z)) (ql (qh (i:=5) Hl.nd Z (Or.inl Z)) qM)))))
   (qe (q9 (qp yF G.mo (qd (qv 0) (qd (qp S G.mo (qd (qv 0) (qd (qv 1) (qd (qv 3) qb)))) (qd (qv 5) qb)))) (gT Z (ql (qh (i:=6) Hl.nd Z (Or.inl Z)) (ql (qh (i:=7) Hl.nd Z (Or.inl Z)) (ql (qh (i:=8) Hl.nd Z (Or.inl Z)) (ql (qh (i:=9) Hl.nd Z (Or.inl Z)) (ql (qh (i:=10) Hl.nd Z (Or.inl Z)) qM)))))))
   (qe (qK (qE gF (qv 10) (qu zU (qu qI (qu qI (qu qI (qv 6) (qv 7)) (qv 8)) (qv 9)) (zj (v:= .int 16) Z T.g_DIGITS #[_,Z])) (qA _)) (qg (qr zd)) qF)
   (qg (qr (qy (qd (qu qI (qu qI (qv 6) (qu QU (qv 7) (zj (v:= .int 16) Z T.g_DIGITS #[_,Z]))) (qu QU (qv 8) qf)) (qd (qv 9) qb)))))))),?_]
  refine#[_,Z,O,_,Z,n,Z,_,_,Z,_,_,Z,_,_,Z,Z,?_]
  refine#[_,Z,_,Z,_,Z,_,Z,a,b,z,t,l,Z,F,U,R,om pm,λY H1 o _ u=>?_]
  refine#[_,Z,a,Y,pc,t,iL t l z,ds,Z,F.same o,.tup u,r.same o,pm,B,by lia,by lia,λI D M _ g=>?_]
  have C:∀x H',GS D H'->cW H' x (j5 (Zb (zz t) (iL t l z) ds))->Q x H':=λx H' s' L=>q x H' ((o.trans M).trans s') L
  have W:(Zb (zz t) (iL t l z) ds).length=5:=by rw[f7,X]
  obtain⟨lo,mi,hi,d,j,er⟩:=AR W;rw[er]at g C;refine#[I,_,Z,G9.of g,Z,_,_,Z,_,_,Z,_,_,Z,_,_,Z,_,_,Z,Z,?_]
  refine#[_,Z,_,Z,_,Z,_,_,Z,Z,_,Z,_,_,Z,Z,_,Z,_,_,Z,Z,_,_,Z,Z,(by decide:(0:Int)<16),Z,_,Z,?_]
  have m:∀x H',GS D H'->cW H' x (if j=(lo+mi+hi+d)%16 then ↑(lo+mi*16+hi*256,d)else none)->Q x H':=C
  by_cases e:j=(lo+mi+hi+d)%16
  ·rw[Jc e]at m
   refine rZ (c:=V.int j=V.int ((lo+mi+hi+d)%16)) (by rw[e]) ?_
   refine#[_,Z,_,Z,_,_,Z,Z,.inr #[⋯,⋯],_,_,Z,Z,_,Z,_,_,Z,Z,.inr #[⋯,⋯],_,_,Z,Z,_,Z,GJ,λp N=>?_]
   exact m _ _ (GS.upd N) #[p,Z,qc]
  ·rw[Jb e]at m
   refine qV (λ_=>m _ _ (GS.refl _) Z) (λy=>absurd ?_ y)
   have:¬V.int j=V.int ((lo+mi+hi+d)%16):=λJ=>e (by injection J)
   show(! decide (V.int j=V.int ((lo+mi+hi+d)%16)))=true
   rw[Jo this];rfl
end
end Lw
namespace L3
open PySem PySem.Spec PyProof.Rows L2
structure IG(t:Β)(kss:List Β)(base:Int)(D:Dr):Prop where
 ok:Ik D
 t:D.t=t
 ks:D.kss=kss
 k1:1<=kss.length
 n0:1<=D.near
 n1:D.near<=4
 f0:D.near<=D.far
 f1:D.far<=12
 ms:D.most=12
 lk:D.least<kss.length
 nm:∀e∈D.kn,Qq e.1
 kb:∀e∈D.kn,Iq D e.2/\base<e.2.last/\e.2.last<=base+23
section
variable{t:Β}{kss:List Β}{base:Int}{D:Dr}{nm:Str}{age c:Int}
theorem IG.learn(h:IG t kss base D)(hn:Qq nm)(hl:D.kn.length<=11)(m:0<=age)(f:age<kss.length)(g:1<=c)(j:c<4096)(i:base<c)(l:c<=base+23):IG t kss base {D with kn:=zc D.kn nm #[age,c,none]}:=by
 have d:=kG D.kn nm #[age,c,none];have k:Iq {D with kn:=zc D.kn nm #[age,c,none]} #[age,c,none]:=#[m,by show age<(D.kss.length:Int);rw[h.ks];exact f,g,j,λx y z=>by cases z]
 refine#[#[h.ok.tp,h.ok.l0,h.ok.kl,by show(zc _ _ _).length<=60;lia,fo h.ok.nd _ _],h.t,h.ks,h.k1,h.n0,h.n1,h.f0,h.f1,h.ms,h.lk,λe a=>?_,λe a=>?_]
 ·rcases bR a with a|rfl
  ·exact h.nm e a
  ·exact hn
 ·rcases bR a with a|rfl
  ·exact#[(h.kb e a).1.mono (Jf _),(h.kb e a).2]
  ·exact#[k,i,l]
theorem bH{D:Dr}{nm:Str}{age c:Int}:Hj D nm age c=D.kn\/∃e,D.kn.lookup nm=↑e/\qR D e age=true/\Hj D nm age c=zc D.kn nm (zr D.near D.far e age c).2:=by
 unfold Hj zk;cases e1:D.kn.lookup nm with
 |none=>exact .inl Z
 |some e=>
  simp only
  by_cases a:qR D e age=true
  ·rw[Jc a]
   exact .inr #[e,Z,a,by split<;>rfl]
  ·rw[Jb a];exact .inl Z
theorem IG.hear(h:IG t kss base D)(n:0<=c)(r:c<4096)(u:c<=base+23):IG t kss base {D with kn:=Hj D nm age c}/\(Hj D nm age c).map (·.1)=D.kn.map (·.1):=by
 rcases bH (D:=D) (nm:=nm) (age:=age) (c:=c)with e|⟨e,i,f,j⟩
 ·rw[e];exact#[h,Z]
 ·rw[j]
  have a:=QH i;have hk:=(h.kb _ a).1;have g:=(h.kb _ a).2;simp only at g
  obtain⟨v,m⟩:=aK f h.ok.l0;have o:nm∈D.kn.map (·.1):=Jt.mpr #[_,a,Z]
  have p:=nG (e:=(zr D.near D.far e age c).2) o
  have s:=mN hk (gC f) m n r;have lst:(zr D.near D.far e age c).2.last=e.last\/((zr D.near D.far e age c).2.last=c/\e.last<c):=by
   unfold zr;split
   ·exact .inl Z
   ·split
    ·exact .inr #[Z,by lia]
    ·split
     ·split
      ·exact .inr #[Z,by lia]
      ·exact .inl Z
     ·exact .inl Z
  refine#[#[#[h.ok.tp,h.ok.l0,h.ok.kl,by show(zc _ _ _).length<=60;rw[p];exact h.ok.nl,fo h.ok.nd _ _],h.t,h.ks,h.k1,h.n0,h.n1,h.f0,h.f1,h.ms,h.lk,λx d=>?_,λx d=>?_],gA i]
  ·rcases bR d with d|rfl
   ·exact h.nm x d
   ·exact h.nm (nm,e) a
  ·rcases bR d with d|rfl
   ·exact#[(h.kb x d).1.mono (Jf _),(h.kb x d).2]
   ·refine#[s.mono (Jf _),?_]
    show base<(zr D.near D.far e age c).2.last/\(zr D.near D.far e age c).2.last<=base+23
    rcases lst with l|⟨l,q⟩
    ·rw[l];exact g
    ·rw[l];lia
theorem IG.close{a:Int}(h:IG t kss base D)(f:a<kss.length):IG t kss base {D with least:=if a>D.least then a else D.least}:=by
 have d:=h.lk;have g:=h.ok.l0
 exact#[#[h.ok.tp,(by show 0<=if a>D.least then a else D.least;split<;>lia),h.ok.kl,h.ok.nl,h.ok.nd],h.t,h.ks,h.k1,h.n0,h.n1,h.f0,h.f1,h.ms,(by show(if a>D.least then a else D.least)<(kss.length:Int);split<;>lia),h.nm,λe c=>#[(h.kb e c).1.mono (Jf _),(h.kb e c).2]]
theorem ef{d:Int}(a:t.Perm HW)(hn:Qq nm)(e:0<=c)(f:c<4096)(hd:aR d):Lx (Qm t kss nm age c d):=#[hn,tV ..,wD a e f hd]
theorem km{d:Int}(h:IG t kss base D)(e:0<=c)(a:c<4096)(hd:aR d):Z2 D (Qm t kss nm age c d)=zk D nm age ↑(c,d):=by
 unfold Z2 Qm;simp only
 rw[h.t,show Qr D age=kss.getD age.toNat [] by unfold Qr;rw[h.ks],jk (h.t▸h.ok.tp) e a hd]
end
def Ll(f:Nat->Dr->Dr)(k:Nat)(xs a:μ):Prop:=a.length=xs.length/\∀(i:Nat) (x:En),xs[i]? =↑x->∃L',a[i]? =↑(x.1,f i x.2.1,L')/\L'.length<=x.2.2.length+k
theorem Ll.refl(xs:μ):Ll (λ_ D=>D) 0 xs xs:=#[Z,λi x a=>#[x.2.2,a,Jf _]]
theorem Ll.set{f g:Nat->Dr->Dr}{k i:Nat}{xs c:μ}{x:En}{L' a:Ρ}(h:Ll f k xs c)(hx:xs[i]? =↑x)(l:c[i]? =↑(x.1,f i x.2.1,L'))(hl:a.length<=L'.length+1)(hg:g i x.2.1=D')(ho:∀j,j≠i->g j=f j):Ll g (k+1) xs (c.set i (x.1,D',a)):=by
 refine#[by rw[Fl];exact h.1,λj y e=>?_]
 obtain⟨M,d,m⟩:=h.2 j y e
 by_cases z:j=i
 ·subst z
  rw[hx]at e;cases e
  rw[l]at d
  have:L'=M:=by injection d with d;injection d with _ d;injection d
  subst this
  exact#[a,by rw[Gd (by rw[h.1];exact(Js.mp hx).1),hg],by lia]
 ·exact#[M,by rw[Ge (λw=>z w.symm),ho j z];exact d,by lia]
theorem Ll.mono{f:Nat->Dr->Dr}{k c:Nat}{xs a:μ}(h:Ll f k xs a)(l:k<=c):Ll f c xs a:=#[h.1,λi x d=>let⟨L',e,q⟩:=h.2 i x d;#[L',e,by lia]]
theorem Ll.ext{f g:Nat->Dr->Dr}{k:Nat}{xs a:μ}(h:Ll f k xs a)(e:∀i x,xs[i]? =↑x->f i x.2.1=g i x.2.1):Ll g k xs a:=#[h.1,λi x c=>let⟨L',q,r⟩:=h.2 i x c;#[L',by rw[q,e i x c],r]]
theorem Ll.all{p q:Dr->Prop}{f:Nat->Dr->Dr}{k n:Nat}{xs a:μ}(h:Ll f k xs a)(hp:∀(i:Nat) (x:En),xs[i]? =↑x->p x.2.1/\x.2.2.length<=n)(hf:∀i D,p D->q (f i D)):∀(i:Nat) (x:En),a[i]? =↑x->q x.2.1/\x.2.2.length<=n+k:=by
 intro i x c;have hi:i<xs.length:=by rw[<- h.1];exact(Js.mp c).1
 obtain⟨L',e,l⟩:=h.2 i xs[i] (Jg hi)
 rw[e]at c;cases c
 obtain⟨h1,d⟩:=hp i xs[i] (Jg hi)
 exact#[hf i _ h1,by show L'.length<=n+k;lia]
def Nl(H:Hp)(v:V):Option (Int×Int)->Prop
 |none=>v= .non
 |some (a,l)=>∃t,v= .ref t/\H t=↑(.tup [.int a,.int l])
def Lg(H:Hp)(tl:Δ)(a:List (Option (Int×Int))):Prop:=∃vs:Ε,H tl=↑(.lst vs)/\vs.length=a.length/\∀(i:Nat) (v:V) (o:Option (Int×Int)),vs[i]? =↑v->a[i]? =↑o->Nl H v o
theorem Nl.mv{S:Η}{H H':Hp}{v:V}{o:Option (Int×Int)}(m:Mv S H H')(n:NT S H)(h:Nl H v o):Nl H' v o:=by
 cases o with
 |none=>exact h
 |some p=>obtain⟨t,e,r⟩:=h;exact#[t,e,m.tup n r]
theorem Lg.mv{S:Η}{H H':Hp}{tl:Δ}{a:List (Option (Int×Int))}(h:Lg H tl a)(m:Mv S H H')(n:NT S H)(hs:tl∉S):Lg H' tl a:=by
 obtain⟨vs,e,l,r⟩:=h
 exact#[vs,m _ _ hs e,l,λi v o c d=>(r i v o c d).mv m n]
theorem Lg.same{H H':Hp}{tl:Δ}{a:List (Option (Int×Int))}(h:Lg H tl a)(s:GS H H'):Lg H' tl a:=h.mv (S:=[]) s.mv cF (λh=>nomatch h)
def cX(nm:Str)(D:Dr):Option (Int×Int)->Dr
 |none=>D
 |some (a,l)=>{D with kn:=zc D.kn nm #[a,l,none]}
section
variable(K:ι)(C:Δ)
inductive Mb (vs:Ε) (H:Hp) (Q:VK):Prop
 |mk (cd tb kt pl p ps b:Δ) (c:Nat) (H0:Hp) (t:Β) (kss:List Β) (xs:μ) (nm:Str) (age n:Int) (is:Κ) (base:Int) (h1:vs=[.ref cd,.ref pl,.ref p,.ref ps]) (h2:Pw K C H0 H b c pl xs) (h3:xs.length=2) (h4:Io H cd tb kt t kss) (h5:Qq nm) (h6:0<=age) (h7:age<kss.length) (h8:0<=n) (h9:n<4096) (h10:H p=↑(.tup [.str nm,.int age,.int n])) (h11:Rd H ps (.tup (is.map λi:Nat=>V.int (i:Int)))) (h12:is.Nodup) (h13:(∀i∈is,i<2)) (h14:(∀(i:Nat) (x:En),xs[i]? =↑x->IG t kss base x.2.1/\x.2.2.length<=900)) (h15:∀H' xs',Pw K C H0 H' b c pl xs'->Io H' cd tb kt t kss->Ll (λi D=>if i∈is then{D with kn:=Hj D nm age n}else D) 2 xs xs'->Q .non H')
def kh:Sp:=λvs H Q _=>Mb K C vs H Q
end
def zD(a b:Int):Int:=if a<b then b else a
def ZE(a b:Int):Int:=if b<a then b else a
def b9(D:Dr)(e:Kb)(D':Dr)(a:Kb):Int:=ZE (e.last+D.far) (a.last+D'.far)
def bB(lo hi:Int)(p:Int->Bool):Λ:=((List.range (hi-lo).toNat).map λi:Nat=>lo+(i:Int)).find? p
theorem gQ{lo hi:Int}{p:Int->Bool}{c:Int}(h:bB lo hi p=↑c):lo<=c/\c<hi/\p c=true/\∀x,lo<=x->x<c->p x=false:=by
 unfold bB at h;obtain⟨h1,a,bs,e,l⟩:=List.find?_eq_some_iff_append.mp h
 have len:=JH List.length e;rw[Je,List.length_range,Jv,JN]at len;have m:c=lo+(a.length:Int):=by
  have z:((List.range (hi-lo).toNat).map λi:Nat=>lo+(i:Int))[a.length]? =↑c:=by rw[e];simp
  rw[Jn,Gu (by lia)]at z
  exact(JA z).symm
 refine#[by lia,by lia,h1,λx f d=>?_]
 have g:x∈a:=by
  have j:(x-lo).toNat<a.length:=by lia
  have z:((List.range (hi-lo).toNat).map λi:Nat=>lo+(i:Int))[(x-lo).toNat]? =↑x:=by
   rw[Jn,Gu (by lia)]
   show ↑(lo+((x-lo).toNat:Int))=↑x
   congr 1;lia
  rw[e,JT j]at z;exact JP z
 have:=l x g
 simpa using this
theorem pX{lo hi:Int}{p:Int->Bool}(h:bB lo hi p=none):∀x,lo<=x->x<hi->p x=false:=by
 intro x h1 a
 have:=List.find?_eq_none.mp h x (Jt.mpr #[(x-lo).toNat,J1.mpr (by lia),by lia])
 simpa using this
section
variable(K:ι)(C:Δ)
inductive Mc (vs:Ε) (H:Hp) (Q:VK):Prop
 |mk (p ta hk bd lg:Δ) (n:Nat) (D:Dr) (h1:vs=[.ref p]) (h2:GV K C H p ta hk bd lg n D) (h3:Ik D) (h4:∀l (ss:Α) H',GS H H'->ss.Perm (D.kn.map (·.1))->H' l=↑(.lst (ss.map V.str))->Q (.ref l) H')
def gc:Sp:=λvs H Q _=>Mc K C vs H Q
inductive MK (vs:Ε) (H:Hp) (Q:VK):Prop
 |mk (p ta hk bd lg a:Δ) (n:Nat) (D:Dr) (e:Kb) (p' ta' hk' bd' lg' a':Δ) (n':Nat) (D':Dr) (e':Kb) (h1:vs=[.ref p,.ref a,.ref p',.ref a']) (h2:GV K C H p ta hk bd lg n D) (h3:HS H a e) (h4:GV K C H p' ta' hk' bd' lg' n' D') (h5:HS H a' e') (h6:∀H',GS H H'->Q (.int (b9 D e D' e')) H')
def oo:Sp:=λvs H Q _=>MK K C vs H Q
end
theorem lL{d:Type} [DecidableEq d]:∀{l m:List d},l.Nodup->(∀x∈l,x∈m)->l.length<=m.length
 | [],m,_,_=>Jy _
 |x::l,m,hn,hs=>by
  obtain⟨f,g⟩:=Fg.mp hn;have c:=hs x (JB ..);have h:=lL (l:=l) (m:=m.erase x) g (λy a=>(List.mem_erase_of_ne (λe:y=x=>f (by rw[<- e];exact a))).mpr (hs y (JM _ a)))
  have h1:=List.length_erase_of_mem c;have i:=List.length_pos_of_mem c;rw[JN];omega
structure NX(t:Β)(kss:List Β)(D:Dr):Prop where
 ok:Ik D
 t:D.t=t
 ks:D.kss=kss
 rm:(D.kn.length:Int)<D.most
theorem gI{t:Β}{kss:List Β}{D:Dr}{nm:Str}{age c d:Int}(h:NX t kss D)(g:D.least<=age)(e:age<kss.length)(f:0<=c)(a:c<4096)(hd:aR d):eU D (Qm t kss nm age c d)=↑(c,d):=by
 unfold eU ZU Qm;simp only
 rw[Ji g,h.ks,Ji e,Jc (show(true&&true)=true from Z),h.t,show Qr D age=kss.getD age.toNat [] by unfold Qr;rw[h.ks]]
 exact jk (h.t▸h.ok.tp) f a hd
inductive LP (K:ι) (C:Δ) (vs:Ε) (H:Hp) (Q:VK):Prop
 |mk (cd tb kt pl tl b:Δ) (c:Nat) (H0:Hp) (t:Β) (kss:List Β) (xs:μ) (nm:Str) (os:List (Option (Int×Int))) (h1:vs=[.ref cd,.ref pl,.str nm,.ref tl]) (h2:Pw K C H0 H b c pl xs) (h3:xs.length=2) (h4:Io H cd tb kt t kss) (h5:Qq nm) (h6:Lg H tl os) (h7:os.length=2) (h8:(∀(i:Nat) (x:En),xs[i]? =↑x->tl∉eS x.1)) (h9:(∀(i:Nat) (x:En),xs[i]? =↑x->NX t kss x.2.1/\(∀a l,os.getD i none=↑(a,l)->x.2.1.least<=a)/\x.2.1.kn.lookup nm=none/\x.2.1.kn.length<=11/\x.2.2.length<=900)) (h10:(∀a l,↑(a,l)∈os->0<=a/\a<kss.length/\1<=l/\l<4096)) (h11:∀H' xs',Pw K C H0 H' b c pl xs'->Io H' cd tb kt t kss->Ll (λi D=>cX nm D (os.getD i none)) 2 xs xs'->(∀c ys,H c=↑(.tup ys)->H' c=↑(.tup ys))->Q .non H')
def jp(K:ι)(C:Δ):Sp:=λvs H Q _=>LP K C vs H Q
def ZH(n:Int)(S:List (Int×Int)):List (Int×Int):=S.filterMap λp=>if p.1<n then ↑(p.1,if p.2<n-1 then p.2 else n-1)else none
def aT(n:Int)(S:List (Int×Int)):Bool:=S.any λp=>decide (p.1<=n)&&decide (n<=p.2)
inductive NY:List (Int×Int)->Prop where
 |nil:NY []
 |one (f l:Int) (h:f<=l):NY [(f,l)]
 |two (f l g:Int) (h:f<=l) (h2:l+1<g):NY [(f,l),(g,g)]
def vP(F:List (Int×Int))(n:Int):List (Int×Int):=match F.getLast? with
 |some (f,l)=>if l=n-1 then F.dropLast++[(f,n)]else F++[(n,n)]
 |none=>[(n,n)]
theorem ji{S:List (Int×Int)}(h:NY S)(n:Int):ZH (n+1) S=if aT n S=true then vP (ZH n S) n else ZH n S:=by
 cases h with
 |nil=>rfl
 |one f l h=>
  unfold ZH aT vP
  by_cases h1:f<n
  ·by_cases e:n<=l
   ·have c:(if f<n+1 then ↑(f,if l<n+1-1 then l else n+1-1)else none)=↑(f,n):=by rw[Jc (by lia),Jb (by lia)];congr 2;lia
    have a:(if f<n then ↑(f,if l<n-1 then l else n-1)else none)=↑(f,n-1):=by rw[Jc h1,Jb (by lia)]
    simp only[JR,List.filterMap_nil,c,a,ES,List.any_nil];rw[Ji (by lia:f<=n),Ji e]
    simp
   ·have c:(if f<n+1 then ↑(f,if l<n+1-1 then l else n+1-1)else none)=↑(f,l):=by rw[Jc (by lia),Jc (by lia)]
    have a:(if f<n then ↑(f,if l<n-1 then l else n-1)else none)=↑(f,l):=by rw[Jc h1];congr 2;split<;>lia
    simp only[JR,List.filterMap_nil,c,a,ES,List.any_nil];rw[Jo e];simp
  ·by_cases e:f=n
   ·subst e
    have c:(if f<f+1 then ↑(f,if l<f+1-1 then l else f+1-1)else none)=↑(f,f):=by rw[Jc (by lia),Jb (by lia)];congr 2;lia
    have a:(if f<f then ↑(f,if l<f-1 then l else f-1)else none)=none:=by rw[Jb (by lia)]
    simp only[JR,List.filterMap_nil,c,a,ES,List.any_nil];rw[Ji (F3 f),Ji h];simp
   ·have c:(if f<n+1 then ↑(f,if l<n+1-1 then l else n+1-1)else none)=none:=by rw[Jb (by lia)]
    have a:(if f<n then ↑(f,if l<n-1 then l else n-1)else none)=none:=by rw[Jb h1]
    simp only[JR,List.filterMap_nil,c,a,ES,List.any_nil];rw[Jo (by lia:¬f<=n)]
    simp
 |two f l g h hg=>
  unfold ZH aT vP
  by_cases h1:f<n
  ·by_cases e:n<=l
   ·have c:(if f<n+1 then ↑(f,if l<n+1-1 then l else n+1-1)else none)=↑(f,n):=by rw[Jc (by lia),Jb (by lia)];congr 2;lia
    have a:(if f<n then ↑(f,if l<n-1 then l else n-1)else none)=↑(f,n-1):=by rw[Jc h1,Jb (by lia)]
    have d:(if g<n+1 then ↑(g,if g<n+1-1 then g else n+1-1)else none)=none:=by rw[Jb (by lia)]
    have i:(if g<n then ↑(g,if g<n-1 then g else n-1)else none)=none:=by rw[Jb (by lia)]
    simp only[JR,List.filterMap_nil,c,a,d,i,ES,List.any_nil];rw[Ji (by lia:f<=n),Ji e]
    simp
   ·have c:(if f<n+1 then ↑(f,if l<n+1-1 then l else n+1-1)else none)=↑(f,l):=by rw[Jc (by lia),Jc (by lia)]
    have a:(if f<n then ↑(f,if l<n-1 then l else n-1)else none)=↑(f,l):=by rw[Jc h1];congr 2;split<;>lia
    by_cases j:g<n
    ·have d:(if g<n+1 then ↑(g,if g<n+1-1 then g else n+1-1)else none)=↑(g,g):=by rw[Jc (by lia),Jc (by lia)]
     have i:(if g<n then ↑(g,if g<n-1 then g else n-1)else none)=↑(g,g):=by rw[Jc j];congr 2;split<;>lia
     simp only[JR,List.filterMap_nil,c,a,d,i,ES,List.any_nil];rw[Jo e,Jo (by lia:¬n<=g)]
     simp
    ·by_cases m:g=n
     ·subst m
      have d:(if g<g+1 then ↑(g,if g<g+1-1 then g else g+1-1)else none)=↑(g,g):=by rw[Jc (by lia),Jb (by lia)];congr 2;lia
      have i:(if g<g then ↑(g,if g<g-1 then g else g-1)else none)=none:=by rw[Jb (by lia)]
      simp only[JR,List.filterMap_nil,c,a,d,i,ES,List.any_nil];rw[Ji (F3 g)];simp
      lia
     ·have d:(if g<n+1 then ↑(g,if g<n+1-1 then g else n+1-1)else none)=none:=by rw[Jb (by lia)]
      have i:(if g<n then ↑(g,if g<n-1 then g else n-1)else none)=none:=by rw[Jb j]
      simp only[JR,List.filterMap_nil,c,a,d,i,ES,List.any_nil];rw[Jo e,Jo (by lia:¬g<=n)]
      simp
  ·have d:(if g<n+1 then ↑(g,if g<n+1-1 then g else n+1-1)else none)=none:=by rw[Jb (by lia)]
   have i:(if g<n then ↑(g,if g<n-1 then g else n-1)else none)=none:=by rw[Jb (by lia)]
   by_cases e:f=n
   ·subst e
    have c:(if f<f+1 then ↑(f,if l<f+1-1 then l else f+1-1)else none)=↑(f,f):=by rw[Jc (by lia),Jb (by lia)];congr 2;lia
    have a:(if f<f then ↑(f,if l<f-1 then l else f-1)else none)=none:=by rw[Jb (by lia)]
    simp only[JR,List.filterMap_nil,c,a,d,i,ES,List.any_nil];rw[Ji (F3 f),Ji h];simp
   ·have c:(if f<n+1 then ↑(f,if l<n+1-1 then l else n+1-1)else none)=none:=by rw[Jb (by lia)]
    have a:(if f<n then ↑(f,if l<n-1 then l else n-1)else none)=none:=by rw[Jb h1]
    simp only[JR,List.filterMap_nil,c,a,d,i,ES,List.any_nil];rw[Jo (by lia:¬f<=n),Jo (by lia:¬g<=n)]
    simp
theorem jE{S:List (Int×Int)}{n:Int}(h:∀p∈S,n<=p.1):ZH n S=[]:=by
 unfold ZH;rw[List.filterMap_eq_nil_iff];intro p a;rw[Jb (by have:=h p a;lia)]
theorem ng{S:List (Int×Int)}{n:Int}(h:∀p∈S,p.1<=p.2/\p.2<n):ZH n S=S:=by
 unfold ZH
 induction S with
 |nil=>rfl
 |cons p r ih=>
  have:=h p (JB ..)
  rw[JR,Jc (by lia)]
  simp only
  rw[ih (λq c=>h q (JM _ c))]
  congr 1
  obtain⟨a,b⟩:=p;simp only at this⊢
  congr 1
  split<;>lia
def Hu:Α:=["a","b","ab","ba","aaaaaaaa","aaaaaaab","door","gate","x"]
structure Ng(nms:Α)(many:Nat)(base:Int):Prop where
 nd:nms.Nodup
 nm:∀z∈nms,Qq z
 l1:1<=nms.length
 l9:nms.length<=9
 m1:1<=many
 m8:many<=8
 b0:0<=base
 b1:base<=4076
section
def vS(n f:Int):Prop:=1<=n/\n<=4/\n<=f/\f<=12
inductive LQ (vs:Ε) (H:Hp) (Q:VK):Prop
 |mk (b:Δ) (c:Nat) (h1:vs=[.ref b]) (h2:Ip H b c) (h3:c<100000000) (h4:∀l x y (n f n' f':Int) H',IQ b (c+7) H H'->H' l=↑(.lst [.ref x,.ref y])->H' x=↑(.tup [.int n,.int f])->H' y=↑(.tup [.int n',.int f'])->vS n f->vS n' f'->H l=none->Q (.ref l) H')
def iR:Sp:=λvs H Q _=>LQ vs H Q
end
section
variable{K:ι}{C:Δ}{H0 H H':Hp}{b:Δ}{c:Nat}{pl:Δ}{xs:μ}{S:Η}{z:Δ}
theorem Pw.fresh(p:Pw K C H0 H b c pl xs)(h:H z=none):H0 z=none:=by
 cases q:H0 z with
 |none=>rfl
 |some o=>
  by_cases w:z=b
  ·subst w;obtain⟨_,_,_,a,_⟩:=p.bx;rw[h]at a;cases a
  ·have:=p.s z o (qW w) q;rw[h]at this;cases this
theorem Pw.out(p:Pw K C H0 H b c pl xs)(m:Mv S H H')(nt:NT S H)(hb:b∉S)(hp:pl∉S)(he:∀(i:Nat) (x:En),xs[i]? =↑x->∀z∈eS x.1,z∉S)(a:∀z∈S,H0 z=none):Pw K C H0 H' b c pl xs:=
 #[λc o d e=>m c o (λz=>by rw[a c z]at e;cases e) (p.s c o d e),p.bx.mv m hb,p.b0,λi x hi=>(p.en i x hi).mv m nt (he i x hi),p.dj,p.fr,m _ _ hp p.pe,p.np,p.fp]
end
theorem Lg.two{H:Hp}{tl:Δ}{v d:V}{o o':Option (Int×Int)}(e:H tl=↑(.lst [v,d]))(h:Nl H v o)(h':Nl H d o'):Lg H tl [o,o']:=#[[v,d],e,Z,λi u w a c=>by
 match i,a,c with
 |0,a,c=>cases a;cases c;exact h
 |1,a,c=>cases a;cases c;exact h'
 |i+2,a,c=>cases a]
theorem tS{a:Α}{nm:Str}{j:Nat}(d:a.Nodup)(e:a[j]? =↑nm):nm∉a.take j:=λz=>by
 obtain⟨k,hk,c⟩:=List.mem_iff_getElem.mp z;rw[List.getElem_take]at c;rw[EX]at hk
 exact(List.pairwise_iff_getElem.mp d) k j (by lia) (Js.mp e).1 (by lia) (c.trans (Js.mp e).2.symm)
structure Le(t:Β)(kss:List Β)(base:Int)(nms:Α)(D:Dr):Prop where
 dp:IG t kss base D
 sub:∀z∈D.kn.map (·.1),z∈nms
 few:D.kn.length<=nms.length
theorem Le.hear{t:Β}{kss:List Β}{base:Int}{d:Α}{D:Dr}{nm:Str}{age c:Int}(h:Le t kss base d D)(f:0<=c)(g:c<4096)(i:c<=base+23):Le t kss base d {D with kn:=Hj D nm age c}:=by
 obtain⟨a,b⟩:=h.dp.hear (nm:=nm) (age:=age) f g i
 have l:(Hj D nm age c).length=D.kn.length:=by have:=JH List.length b;simpa using this
 exact#[a,λz e=>h.sub z (by have e:z∈(Hj D nm age c).map (·.1):=e;rw[b]at e;exact e),by show(Hj D nm age c).length<=_;rw[l];exact h.few]
theorem Le.close{t:Β}{kss:List Β}{base:Int}{c:Α}{D:Dr}{a:Int}(h:Le t kss base c D)(d:a<kss.length):Le t kss base c {D with least:=if a>D.least then a else D.least}:=#[h.dp.close d,h.sub,h.few]
inductive Md (vs:Ε) (H:Hp) (Q:VK):Prop
 |mk (b:Δ) (c:Nat) (h1:vs=[.ref b]) (h2:Ip H b c) (h3:c<100000000) (h4:∀q nl nms many base H',IQ b (c+20) H H'->H' q=↑(.tup [.ref nl,.int ((many:Nat):Int),.int base])->H' nl=↑(.lst (nms.map V.str))->H nl=none->Ng nms many base->(∀z∈nms,z∈Hu)->Q (.ref q) H')
def mU:Sp:=λvs H Q _=>Md vs H Q
inductive ML (K:ι) (C:Δ) (vs:Ε) (H:Hp) (Q:VK):Prop
 |mk (b dr nl:Δ) (c:Nat) (nms:Α) (many:Nat) (base:Int) (h1:vs=[.ref b,.ref dr]) (h2:Ip H b c) (h3:c<1000000) (h4:H dr=↑(.tup [.ref nl,.int (many:Int),.int base])) (h5:H nl=↑(.lst (nms.map V.str))) (h6:nl≠b) (h7:Ng nms many base) (h8:∀q cd tb kt pl t kss xs H',Pw K C H H' b (c+300) pl xs->xs.length=2->H' q=↑(.tup [.ref cd,.ref pl])->Io H' cd tb kt t kss->kss.length=many->(∀(i:Nat) (x:En),xs[i]? =↑x->Le t kss base nms x.2.1/\x.2.2.length<=100)->Q (.ref q) H')
def n5(K:ι)(C:Δ):Sp:=λvs H Q _=>ML K C vs H Q
theorem sO(D:Dr)(nm:Str)(age c:Int):(Hj D nm age c).map (·.1)=D.kn.map (·.1):=by
 rcases bH (D:=D) (nm:=nm) (age:=age) (c:=c)with e|⟨e,d,f,a⟩
 ·rw[e]
 ·rw[a];exact gA d
theorem gu{D:Dr}{nm:Str}{age c:Int}{e:Kb}(d:(D.kn.map (·.1)).Nodup)(he:D.kn.lookup nm=↑e):(Hj D nm age c).lookup nm=some (zh D e age c).2:=by
 unfold Hj zk zh;rw[he];simp only
 by_cases a:qR D e age=true
 ·rw[Jc a,Jc a]
  split
  ·exact lv d
  ·exact lv d
 ·rw[Jb a,Jb a];exact he
theorem Ik.hearK{D:Dr}(h:Ik D)(nm:Str)(age c:Int):Ik {D with kn:=L3.Hj D nm age c}:=by
 have k:=sO D nm age c;have l:(L3.Hj D nm age c).length=D.kn.length:=by have:=JH List.length k;simpa using this
 exact#[h.tp,h.l0,h.kl,by show(L3.Hj D nm age c).length<=60;rw[l];exact h.nl,by show((L3.Hj D nm age c).map (·.1)).Nodup;rw[k];exact h.nd]
theorem uE(D:Dr)(kd a:Δ):L2.HL (ZP D kd) (Sum.inr "known":qJ) (.ref a)=ZP D a:=by
 unfold L2.HL ZP;rw[Jc (by simp [ES])]
 have h1:¬((Sum.inr ("near":Str):Sum Int Str)=Sum.inr ("known":Str)):=by decide +kernel
 have d:¬((Sum.inr ("far":Str):Sum Int Str)=Sum.inr ("known":Str)):=by decide +kernel
 have e:¬((Sum.inr ("keys":Str):Sum Int Str)=Sum.inr ("known":Str)):=by decide +kernel
 have c:¬((Sum.inr ("closed":Str):Sum Int Str)=Sum.inr ("known":Str)):=by decide +kernel
 simp only[JS,FS,Jb h1,Jb d,Jb e,Jb c,Fc]
inductive Me (vs:Ε) (H:Hp) (Q:VK):Prop
 |mk (m kd:Δ) (D:Dr) (h1:vs=[.ref m]) (h2:Ht H m kd D) (h3:∀m' kd' H',GS H H'->H m'=none->H kd'=none->Ht H' m' kd' D->Q (.ref m') H')
def mM:Sp:=λvs H Q _=>Me vs H Q
def je{a:Type}(lo:Int)(n:Nat)(f:Int->Option a):Option a:=((List.range n).map λi:Nat=>lo+(i:Int)).findSome? f
theorem iG{a d:Type}{l:List a}{f:a->Option d}(h:∀x∈l,f x=none):l.findSome? f=none:=by
 induction l with
 |nil=>rfl
 |cons x r ih=>rw[List.findSome?_cons,h x JB];exact ih λy c=>h y (JM _ c)
theorem io{c d:Type}{l:List c}{f:c->Option d}{i:Nat}{x:c}{y:d}(hx:l[i]? =↑x)(e:f x=↑y)(h:∀j z,j<i->l[j]? =↑z->f z=none):l.findSome? f=↑y:=by
 induction l generalizing i with
 |nil=>cases hx
 |cons a r ih=>
  rw[List.findSome?_cons];cases i with
  |zero=>cases hx;rw[e]
  |succ i=>
   rw[h 0 a (Nat.succ_pos _) Z];exact ih hx λj z m g=>h (j+1) z (by lia) g
theorem iy{lo x:Int}{n:Nat}(h:x∈(List.range n).map λi:Nat=>lo+(i:Int)):lo<=x/\x<lo+n:=by
 obtain⟨i,hi,rfl⟩:=Jt.mp h
 have:=J1.mp hi
 lia
theorem lB{c:Type}{lo:Int}{n:Nat}{f:Int->Option c}(h:∀x,lo<=x->x<lo+n->f x=none):je lo n f=none:=iG λx a=>h x (iy a).1 (iy a).2
theorem kg{c:Type}{lo:Int}{n i:Nat}{f:Int->Option c}{y:c}(hi:i<n)(d:f (lo+(i:Int))=↑y)(h:∀x,lo<=x->x<lo+i->f x=none):je lo n f=↑y:=by
 refine io (i:=i) (x:=lo+(i:Int)) (by rw[Jn,Gu hi];rfl) d λj z e a=>?_
 rw[Jn,Gu (by lia)]at a
 cases a;exact h _ (show lo<=lo+(j:Int) by lia) (show lo+(j:Int)<lo+(i:Int) by lia)
def qL(S:List (Int×Int)):Β:=S.flatMap λp=>(List.range (p.2+1-p.1).toNat).map λi:Nat=>p.1+(i:Int)
theorem mX(S:List (Int×Int))(n:Int):n∈qL S↔aT n S=true:=by
 unfold qL aT;rw[List.mem_flatMap,Gq];refine exists_congr λp=>and_congr_right λ_=>?_
 rw[JC,decide_eq_true_eq,decide_eq_true_eq,Jt];constructor
 ·rintro⟨i,hi,rfl⟩
  have:=J1.mp hi
  lia
 ·rintro⟨h1,a⟩
  exact#[(n-p.1).toNat,J1.mpr (by lia),by lia]
structure IH(S:List (Int×Int)):Prop where
 two:NY S
 bd:∀p∈S,0<=p.1/\p.1<=p.2/\p.2<=4095/\p.2-p.1<=63
 cnt:(qL S).length<=66
theorem IH.nil:IH []:=#[.nil,(λp h=>nomatch h),Jy _]
theorem lP{x y:Int}(h:y-x<=63):(qL [(x,y)]).length<=64:=by
 unfold qL;rw[List.flatMap_cons,List.flatMap_nil,E3,Je,List.length_range]
 show(y+1-x).toNat<=64
 lia
theorem wj{x y z:Int}(h:y-x<=63):(qL [(x,y),(z,z)]).length<=66:=by
 have e:qL [(x,y),(z,z)]=qL [(x,y)]++qL [(z,z)]:=by unfold qL;rw[<- List.flatMap_append];rfl
 have h1:=lP h;have a:(qL [(z,z)]).length<=1:=by
  unfold qL;rw[List.flatMap_cons,List.flatMap_nil,E3,Je,List.length_range]
  show(z+1-z).toNat<=1
  lia
 rw[e,Jv];lia
theorem IH.out{S:List (Int×Int)}(h:IH S){n:Int}(hn:n<0\/4096<=n):aT n S=false:=by
 unfold aT;rw[List.any_eq_false];intro p a z;rw[JC,decide_eq_true_eq,decide_eq_true_eq]at z
 have:=h.bd p a
 lia
def MM(S c:List (Int×Int)):Prop:=∀a:Β,a.Nodup->(∀k,k∈a↔¬(k∈qL S↔k∈qL c))->a.length<64
theorem MM.few{S c:List (Int×Int)}(h:(qL S).length+(qL c).length<64):MM S c:=λe d a=>by
 have:e.length<=(qL S++qL c).length:=lL d λk hk=>by
  have hk:=(a k).mp hk;rw[JL]
  by_cases z:k∈qL S
  ·exact .inl z
  ·exact .inr (Decidable.byContradiction λy=>hk #[λq=>absurd q z,λq=>absurd q y])
 rw[Jv]at this;lia
theorem DP{S c:List (Int×Int)}(h:IH S)(h':IH c)(he:∀n,aT n S=aT n c):S=c:=by
 have d:∀k:Nat,ZH (k:Int) S=ZH (k:Int) c:=λk=>by
  induction k with
  |zero=>
   show ZH 0 S=ZH 0 c
   rw[jE λp a=>(h.bd p a).1,jE λp a=>(h'.bd p a).1]
  |succ k ih=>
   have e:((k+1:Nat):Int)=(k:Int)+1:=by lia
   rw[e,ji h.two,ji h'.two,he,ih]
 have:=d 4096
 rw[ng λp a=>#[(h.bd p a).2.1,by have:=(h.bd p a).2.2.1;lia],ng λp a=>#[(h'.bd p a).2.1,by have:=(h'.bd p a).2.2.1;lia]]at this
 exact this
def dc(S a:List (Int×Int))(n:Int):Bool:=decide (aT n S≠aT n a)
def QX(S a:List (Int×Int)):Int:=(bB 0 4096 (dc S a)).getD 0
theorem gx{S a:List (Int×Int)}(h:IH S)(h':IH a)(f:S≠a):bB 0 4096 (dc S a)=↑(QX S a):=by
 cases e:bB 0 4096 (dc S a)with
 |some c=>unfold QX;rw[e];rfl
 |none=>
  refine absurd (DP h h' λn=>?_) f
  by_cases d:n<0\/4096<=n
  ·rw[h.out d,h'.out d]
  ·have:=of_decide_eq_false (pX e n (by lia) (by lia))
   exact Decidable.not_not.mp this
theorem sP{S a:List (Int×Int)}{ms:Β}(h:IH S)(h':IH a)(hm:∀k,k∈ms↔¬(k∈qL S↔k∈qL a))(hp:ms.Pairwise (· <= ·))(g:S≠a):ms[0]? =↑(QX S a):=by
 obtain⟨p,o,f,m⟩:=gQ (gx h h' g)
 have c:∀k,k∈ms↔dc S a k=true:=λk=>by
  rw[hm,mX,mX];unfold dc;rw[decide_eq_true_eq];exact not_congr Fb.symm
 cases ms with
 |nil=>exact absurd ((c _).mpr f) JE
 |cons x r=>
  have d:=(c x).mp JB;have j:QX S a∈x::r:=(c _).mpr f
  have i:x<=QX S a:=by
   rcases Jm.mp j with e|e
   ·rw[e];exact F3 _
   ·exact(List.pairwise_cons.mp hp).1 _ e
  have n:¬x<QX S a:=λz=>by
   have l:0<=x:=by
    refine Int.not_lt.mp λy=>?_
    have:=Jx d
    rw[h.out (.inl y),h'.out (.inl y)]at this;exact this Z
   rw[m x l z]at d;cases d
  show ↑x=_
  congr 1
  lia
def zX(D:Dr)(age:Int)(o:Τ):List (Int×Int):=match o with
 |none=>[]
 |some e=>Za D e age
def aF(D:Dr)(o:Τ)(D':Dr)(o':Τ):Option (Int×Int):=je 0 D.kss.length λa=>if zX D a o=zX D' a o' then none else ↑(a,QX (zX D a o) (zX D' a o'))
theorem BR{D D':Dr}{o o':Τ}(h:aF D o D' o'=none){a:Int}(c:0<=a)(d:a<D.kss.length):zX D a o=zX D' a o':=by
 unfold aF je at h
 have:=List.findSome?_eq_none_iff.mp h a (Jt.mpr #[a.toNat,J1.mpr (by lia),by lia])
 by_cases z:zX D a o=zX D' a o'
 ·exact z
 ·rw[Jb z]at this;cases this
structure IK(D:Dr):Prop where
 n0:1<=D.near
 n1:D.near<=64
 nf:D.near<=D.far
 f1:D.far<=1024
 l0:0<=D.least
 lk:D.least<D.kss.length
def dy(D:Dr):Τ->Prop
 |none=>True
 |some e=>Iq D e
theorem Bd{D:Dr}{e:Kb}(d:IK D)(k:Iq D e)(age:Int):IH (Za D e age):=by
 have m:=d.n0;have n:=d.n1;have l:=k.l0;have j:=k.l1;unfold Za
 by_cases g:qR D e age=true
 case neg=>rw[Jb g];exact IH.nil
 rw[Jc g]
 by_cases h1:e.last+1<4096
 ·rw[Jc h1]
  have f:(if 4095<e.last+D.near then 4095 else e.last+D.near)-(e.last+1)<=63:=by split<;>lia
  have one:IH [(e.last+1,if 4095<e.last+D.near then 4095 else e.last+D.near)]:=#[.one _ _ (by split<;>lia),λp a=>by rw[Jh.mp a];simp only;split<;>lia,JG (lP f) ⋯]
  cases ew:e.wt with
  |none=>exact one
  |some xw=>
   obtain⟨x,w⟩:=xw;have i:=k.w x w ew;simp only
   by_cases c:x=age/\w+1<=(if 4095<e.last+D.far then 4095 else e.last+D.far)
   ·rw[Jc c]
    have h:=c.2;refine#[.two _ _ _ (by split<;>lia) (by split<;>lia),λp a=>?_,wj f]
    rcases Jm.mp a with rfl|a
    ·exact one.bd _ JB
    ·rw[Jh.mp a];simp only;split at h<;>lia
   ·rw[Jb c,E3];exact one
 ·rw[Jb h1]
  cases ew:e.wt with
  |none=>exact IH.nil
  |some xw=>
   obtain⟨x,w⟩:=xw;have i:=k.w x w ew;simp only
   rw[Jb (λz=>by have:=z.2;split at this<;>lia)]
   exact IH.nil
theorem fu{D:Dr}{o:Τ}(d:IK D)(k:dy D o)(age:Int):IH (zX D age o):=by
 cases o with
 |none=>exact IH.nil
 |some e=>exact Bd d k age
theorem ci{D:Dr}{e:Kb}{age c:Int}(d:IK D)(k:Iq D e)(g:0<=c)(f:c<4096):Iq D (zh D e age c).2:=by
 unfold zh
 by_cases a:qR D e age=true
 ·rw[Jc a];exact mN k (gC a) (aK a d.l0).2 g f
 ·rw[Jb a];exact k
theorem we{D:Dr}{e:Kb}(d:D.near<=13)(age:Int):(qL (Za D e age)).length<=28:=by
 have one:∀{x y:Int},y-x<=13->((List.range (y+1-x).toNat).map λi:Nat=>x+(i:Int)).length<=14:=λ{x y} h=>by
  rw[Je,List.length_range];lia
 have a:∀A B:List (Int×Int),qL (A++B)=qL A++qL B:=λA B=>by unfold qL;rw[List.flatMap_append]
 unfold Za;split
 ·rw[a,Jv]
  have h1:(qL (if e.last+1<4096 then [(e.last+1,if 4095<e.last+D.near then 4095 else e.last+D.near)]else [])).length<=14:=by
   split
   ·unfold qL
    rw[List.flatMap_cons,List.flatMap_nil,E3];exact one (by split<;>lia)
   ·exact Jy _
  have c:∀(p:Prop) [Decidable p] (z:Int),(qL (if p then [(z,z)]else [])).length<=14:=λp _ z=>by
   split
   ·unfold qL
    rw[List.flatMap_cons,List.flatMap_nil,E3];exact one (by lia)
   ·exact Jy _
  cases e.wt with
  |none=>exact JG h1 ⋯
  |some xw=>exact JG (Nat.add_le_add h1 (c _ _)) (by decide:14+14<=28)
 ·exact Jy _
def NA(D:Dr)(o:Τ)(D':Dr)(o':Τ):Prop:=∀a,MM (zX D a o) (zX D' a o')
theorem NA.narrow{D D':Dr}{o o':Τ}(h:D.near<=13)(h':D'.near<=13):NA D o D' o':=λa=>MM.few (by
 have c:∀{D:Dr} {o:Τ},D.near<=13->(qL (zX D a o)).length<=28:=λ{D o} h=>by
  cases o with
  |none=>exact Jy _
  |some e=>exact we h a
 have:=c (o:=o) h
 have:=c (o:=o') h'
 lia)
def bZ(D:Dr)(o:Τ)(D':Dr)(o':Τ):Option ((Int×Int)×Int×Int):=match o,o' with
 |some e,↑e'=>je (b9 D e D' e') (ZE (b9 D e D' e'+2) 4096-b9 D e D' e').toNat λc=>(aF D (some (zh D e (zD e.age D.least) c).2) D' (some (zh D' e' (zD e.age D.least) c).2)).map λp=>((zD e.age D.least,c),p)
 |_,_=>none
theorem xj{D:Dr}{e:Kb}(d:IK D)(k:Iq D e)(h1:¬e.last+1<4096)(a:Int):Za D e a=[]:=by
 have g:=d.n0;unfold Za
 by_cases c:qR D e a=true
 ·rw[Jc c,Jb h1]
  cases ew:e.wt with
  |none=>rfl
  |some xw=>
   obtain⟨x,w⟩:=xw;have f:=k.w x w ew;simp only
   rw[Jb (λz=>by have:=z.2;split at this<;>lia)];rfl
 ·rw[Jb c]
def Eg(D:Dr)(o:Τ)(D':Dr)(o':Τ):Prop:=NA D o D' o'/\∀e a,o=↑e->o'=↑a->∀c,b9 D e D' a<=c->c<4096->NA D (some (zh D e (zD e.age D.least) c).2) D' (some (zh D' a (zD e.age D.least) c).2)
def N4(D D':Dr):Prop:=∀nm,Eg D (D.kn.lookup nm) D' (D'.kn.lookup nm)
theorem N4.narrow{D D':Dr}(h:D.near<=13)(h':D'.near<=13):N4 D D':=λnm=>#[NA.narrow h h',λ_ _ _ _ _ _ _=>NA.narrow h h']
abbrev qZ:=List (Str×Int×Int)
def br(D D':Dr)(nm:Str):Option qZ:=(aF D (D.kn.lookup nm) D' (D'.kn.lookup nm)).map λp=>[(nm,p.1,p.2)]
def aX(D D':Dr)(nm:Str):Option qZ:=(bZ D (D.kn.lookup nm) D' (D'.kn.lookup nm)).map λp=>[(nm,p.1.1,p.1.2),(nm,p.2.1,p.2.2)]
def ZJ(D D':Dr)(ns:Α):Option qZ:=match ns.findSome? (br D D')with
 |some r=>↑r
 |none=>ns.findSome? (aX D D')
def xq(D:Dr):Prop:=∀nm,dy D (D.kn.lookup nm)
def zK(D:Dr)(nm:Str)(a c:Int):Bool:=decide (zv D nm a c="open")
theorem M0.same{H H':Hp}{v:V}{o:Τ}(h:M0 H v o)(s:GS H H'):M0 H' v o:=by
 cases o with
 |none=>exact h
 |some e=>obtain⟨a,c,h1⟩:=h;exact#[a,c,h1.same s]
theorem N7{D:Dr}{nm:Str}{H:Hp}{Q:VK}(h:∀v,M0 H v (D.kn.lookup nm)->Q v H):(D.kn.lookup nm=none->Q .non H)/\(∀e a,D.kn.lookup nm=↑e->HS H a e->Q (.ref a) H):=
 #[λe=>h _ (by rw[e];rfl),λe a c h1=>h _ (by rw[c];exact#[a,Z,h1])]
theorem jy{S:List (Int×Int)}{i:Nat}{z:Int×Int}(h:S[i]? =↑z):qL (S.take (i+1))=qL (S.take i)++(List.range (z.2+1-z.1).toNat).map λk:Nat=>z.1+(k:Int):=by
 unfold qL;rw[J9,h,List.flatMap_append]
 show _++List.flatMap _ [z]=_
 rw[List.flatMap_cons,List.flatMap_nil,E3]
def Ls(H:Hp)(v:V):Option qZ->Prop
 |none=>v= .non
 |some r=>∃(t:Δ) (as:Η),v= .ref t/\H t=↑(.tup (as.map V.ref))/\as.length=r.length/\∀(i:Nat) (a:Δ) (z:Str×Int×Int),as[i]? =↑a->r[i]? =↑z->H a=↑(.tup [.str z.1,.int z.2.1,.int z.2.2])
theorem Ls.same{H H':Hp}{v:V}{o:Option qZ}(h:Ls H v o)(s:GS H H'):Ls H' v o:=by
 cases o with
 |none=>exact h
 |some r=>
  obtain⟨t,g,e,h1,j,d⟩:=h
  exact#[t,g,e,s _ _ h1,j,λi a z f c=>s _ _ (d i a z f c)]
theorem Ls.one{H:Hp}{t a:Δ}{z:Str×Int×Int}(h:H t=↑(.tup [.ref a]))(h1:H a=↑(.tup [.str z.1,.int z.2.1,.int z.2.2])):Ls H (.ref t) (some [z]):=by
 refine#[t,[a],Z,h,Z,λi b y c d=>?_]
 cases i with
 |zero=>cases c;cases d;exact h1
 |succ i=>cases c
def EH(H:Hp)(v:V):Option ((Int×Int)×Int×Int)->Prop
 |none=>v= .non
 |some p=>∃(t x y:Δ),v= .ref t/\H t=↑(.tup [.ref x,.ref y])/\H x=↑(.tup [.int p.1.1,.int p.1.2])/\H y=↑(.tup [.int p.2.1,.int p.2.2])
section
variable(K:ι)(C:Δ)
inductive Mj (vs:Ε) (H:Hp) (Q:VK):Prop
 |mk (t:Δ) (S:List (Int×Int)) (h1:vs=[.ref t]) (h2:Lz H t S) (h3:IH S) (h4:∀l H',GS H H'->H' l=↑(.lst ((qL S).map V.int))->Q (.ref l) H')
def mL:Sp:=λvs H Q _=>Mj vs H Q
inductive MN (vs:Ε) (H:Hp) (Q:VK):Prop
 |mk (t t':Δ) (S S':List (Int×Int)) (h1:vs=[.ref t,.ref t']) (h2:Lz H t S) (h3:Lz H t' S') (h4:IH S) (h5:IH S') (h6:S≠S') (h7:MM S S') (h8:∀H',GS H H'->Q (.int (QX S S')) H')
def oF:Sp:=λvs H Q _=>MN vs H Q
inductive NZ (vs:Ε) (H:Hp) (Q:VK):Prop
 |mk (p ta hk bd lg:Δ) (n:Nat) (D:Dr) (v:V) (o:Τ) (p' ta' hk' bd' lg':Δ) (n':Nat) (D':Dr) (v':V) (o':Τ) (h1:vs=[.ref p,v,.ref p',v']) (h2:GV K C H p ta hk bd lg n D) (h3:M0 H v o) (h4:GV K C H p' ta' hk' bd' lg' n' D') (h5:M0 H v' o') (h6:IK D) (h7:IK D') (h8:dy D o) (h9:dy D' o') (h10:D.kss.length<=8) (h11:NA D o D' o') (h12:∀u H',GS H H'->Nl H' u (aF D o D' o')->Q u H')
def wC:Sp:=λvs H Q _=>NZ K C vs H Q
inductive Nh (vs:Ε) (H:Hp) (Q:VK):Prop
 |mk (p ta hk bd lg:Δ) (n:Nat) (D:Dr) (v:V) (o:Τ) (p' ta' hk' bd' lg':Δ) (n':Nat) (D':Dr) (v':V) (o':Τ) (h1:vs=[.ref p,v,.ref p',v']) (h2:GV K C H p ta hk bd lg n D) (h3:M0 H v o) (h4:GV K C H p' ta' hk' bd' lg' n' D') (h5:M0 H v' o') (h6:IK D) (h7:IK D') (h8:dy D o) (h9:dy D' o') (h10:D.kss.length<=8) (h11:Eg D o D' o') (h12:∀u H',GS H H'->EH H' u (bZ D o D' o')->Q u H')
def tU:Sp:=λvs H Q _=>Nh K C vs H Q
structure Ni(D:Dr):Prop where
 ok:Ik D
 dn:IK D
 kn:xq D
 few:D.kn.length<=30
inductive Nj (vs:Ε) (H:Hp) (Q:VK):Prop
 |mk (p ta hk bd lg:Δ) (n:Nat) (D:Dr) (p' ta' hk' bd' lg':Δ) (n':Nat) (D':Dr) (h1:vs=[.ref p,.ref p']) (h2:GV K C H p ta hk bd lg n D) (h3:GV K C H p' ta' hk' bd' lg' n' D') (h4:Ni D) (h5:Ni D') (h6:N4 D D') (h7:∀u ns H',GS H H'->ns.Nodup->(∀k,k∈ns↔k∈D.kn.map (·.1)\/k∈D'.kn.map (·.1))->sortedS ns=true->Ls H' u (ZJ D D' ns)->Q u H')
def tK:Sp:=λvs H Q _=>Nj K C vs H Q
end
inductive Nk (K:ι) (C:Δ) (vs:Ε) (H:Hp) (Q:VK):Prop
 |mk (p ta hk bd lg:Δ) (n:Nat) (D:Dr) (nm:Str) (h1:vs=[.ref p,.str nm]) (h2:GV K C H p ta hk bd lg n D) (h3:∀v,M0 H v (D.kn.lookup nm)->Q v H)
def Cm(K:ι)(C:Δ):Sp:=λvs H Q _=>Nk K C vs H Q
theorem Mf.ofO{P:Ξ}{w:Ω}{K:ι}{mg:GQ}{base:Ψ}{C:Δ}(a:Mf P w K mg base C "button_of" W8 1 (hJ K C)):Mf P w K mg base C "button_of" W8 1 (Cm K C):=
 a.weak λvs H Q E ⟨p,ta,hk,bd,lg,n,D,nm,e,b,q⟩=>#[p,ta,hk,bd,lg,n,D,nm,e,b,(L3.N7 q).1,(L3.N7 q).2]
theorem IG.td{t:Β}{kss:List Β}{base:Int}{D:Dr}(h:IG t kss base D)(hl:D.kn.length<=30):Ni D:=by
 refine#[h.ok,#[h.n0,by have:=h.n1;lia,h.f0,by have:=h.f1;lia,h.ok.l0,by rw[h.ks];exact h.lk],λnm=>?_,hl]
 cases e:D.kn.lookup nm with
 |none=>exact trivial
 |some b=>exact(h.kb _ (QH e)).1
end L3
namespace Lw
open PySem L2 L3
section
variable{P:Ξ}{w:Ω}{K:ι}{mg:GQ}{base:Ψ}{tk:Nat->Tok}{C:Δ}
theorem gL(a:At K mg "stretches_of" ZC ["door","button","age"])(T:HN K mg tk)(U:Iz K C)(dB:Mf P w K mg base C "takes_from" W1 2 (bA K C))(dE:Mf P w K mg base C "bounds_told" W6 1 (c7 K C)):Df P w K mg base "stretches_of" ["door","button","age"] 3 (yU K C):=by
 refine a.dq Hi λf _ A _ s H vs Q E hr h=>?_
 ·obtain⟨p,ta,hk,bd,lg,n,D,v,o,age,rfl,b,S,q⟩:=h
  refine#[_,(qe (qK (QW.pt (Zt (qE Zi (qv 1) zd (qA _)) (QV (Qe (Qn (zg dB U.cl hr.mo (qv 0) (qd (qv 1) (qd (qv 2) qb)))))))) (qg (qr (qy qb))) qF)
   (qe (q9 (Qi dE U.cl hr.mo (qv 0)) (ze Z (ql (qh (i:=3) Hi.nd Z (Or.inl Z)) (ql (qh (i:=4) Hi.nd Z (Or.inl Z)) (ql (qh (i:=5) Hi.nd Z (Or.inl Z)) qM)))))
   (qe (q9 (qv 1) (ze Z (ql (qh (i:=6) Hi.nd Z (Or.inl Z)) (ql (qh (i:=7) Hi.nd Z (Or.inl Z)) (ql (qh (i:=8) Hi.nd Z (Or.inl Z)) qM)))))
   (qe (qw (i:=9) Hi.nd Z (Or.inl Z) (zo qb))
   (qe (qK (qE fh (qu qI (qv 7) qf) (zj (v:= .int 4096) Z T.g_COUNTS #[_,Z]) (qA _)) (qg (zm (QZ EZ Fx Fy zW (qv 9) (qd (qy (qd (qu qI (qv 7) qf) (qd (qx (zT Z) T.b_min PyProof.Rows.boot_min (qd (qu qI (qv 7) (qv 3)) (qd (qu zO (zj (v:= .int 4096) Z T.g_COUNTS #[_,Z]) qf) qb))) qb))) qb)))) qF)
   (qe (qK (QW.pt (gN (qE Z7 (qv 8) zd (qA _)) (fq (qE zE (qC qO (qv 8) qf) (qv 2) (qA _))))) (qe (qw (i:=10) Hi.nd Z (Or.inl Z) (qu qI (qC qO (qv 8) qf) qf))
   (qg (qK (qE ZM (qv 10) (qx (zT Z) T.b_min PyProof.Rows.boot_min (qd (qu qI (qv 7) (qv 4)) (qd (qu zO (zj (v:= .int 4096) Z T.g_COUNTS #[_,Z]) qf) qb))) (qA _)) (qg (zm (QZ EZ Fx Fy zW (qv 9) (qd (qy (qd (qv 10) (qd (qv 10) qb))) qb)))) qF))) qF)
   (qg (qr (qH qX T.b_tuple J0 (qd (qv 9) qb)))))))))),?_]
  have j:(∀t H',GS H H'->Lz H' t []->Q (.ref t) H')->∀t,H t=none->Q (.ref t) (GW H t (.tup [])):=λq t F=>q t _ (GS.upd F) #[[],qc,Z,λi a z h=>by cases h]
  cases o with
  |none=>
   have S:v= .non:=S
   subst S
   exact#[_,Z,Z,_,Z,zQ (Ji Z) (zx #[GH,j q])]
  |some e=>
  obtain⟨x,rfl,X,hx,hw⟩:=S;refine#[_,Z,Z,_,Z,qV (λy=>nomatch (Jx y)) (λ_=>?_)]
  refine#[_,Z,p,Z,b.no,_,Z,_,Z,p,ta,hk,bd,lg,x,n,D,e,age,Z,b,#[X,hx,hw],_,Z,?_]
  have q:∀t H',GS H H'->Lz H' t (Za D e age)->Q (.ref t) H':=q
  unfold Za at q;cases F:qR D e age with
  |false=>
   rw[Jb (by rw[F];intro z;cases z)]at q
   exact zx #[GH,j q]
  |true=>
  rw[Jc F]at q;obtain⟨M,W⟩:∃M:List (Int×Int),(if e.last+1<4096 then [(e.last+1,if 4095<e.last+D.near then 4095 else e.last+D.near)]else [])=M:=#[_,Z]
  rw[W]at q;have hA:M.length<=1:=by rw[<- W];split<;>simp
  refine zw ?_
  refine#[_,Z,p,Z,b.no,p,ta,hk,bd,lg,n,D,Z,b,λt1 H1 O a1=>#[t1,_,Z,.tup a1,Z,_,_,Z,_,_,Z,_,_,Z,Z,?_]]
  refine#[_,Z,x,_,Z,.tup (O _ _ hx),Z,_,_,Z,_,_,Z,_,_,Z,Z,?_]
  refine#[GH,λI L=>?_]
  have u2:=GS.upd (o:= .lst []) L
  have B:=QR L O;refine ZG (λG H'=>GS H H'/\ND H' I M/\G=[↑(.ref p),↑(.ref x),↑(.int age),↑(.int D.near),↑(.int D.far),↑(.int D.most),↑(.int e.age),↑(.int e.last),↑X,↑(.ref I),none]) (λD' a0 d=>?_) ?_
  ·refine#[_,Z,_,_,Z,Z,_,_,Z,Z,_,Z,?_]
   by_cases h1:e.last+1<4096
   ·refine zQ (Ji h1) ?_
    refine#[_,Z,.inl #[Z,_,G0.of qc],_,Z,_,_,Z,Z,_,Z,_,Z,_,_,Z,Z,_,_,Z,Z,_,_,Z,GJ,λy u=>#[I,_,_,Z,Z,(GS.upd u) _ _ qc,by show 0<ζ;decide,d _ _ #[?_,?_,Z]]]
    ·exactλc o e=>by rw[qm (qo e B)];exact GS.upd u _ _ (u2 _ _ (O _ _ e))
    ·rw[<- W,Jc h1]
     exact ND.add (as:=[]) (zs:=[]) ((GS.upd u) _ _ qc) Z (λi a z h=>by cases h) qc
   ·refine Qc (Jo h1) (d _ _ #[O.trans u2,?_,Z])
    rw[<- W,Jb h1]
    exact#[[],qc,Z,λi a z h=>by cases h]
  rintro _ H3 ⟨J,l,rfl⟩
  refine ab (λG H'=>GS H H'/\ND H' I (M++(match e.wt with
   |none=>[]
   |some (x,w)=>if x=age/\w+1<=(if 4095<e.last+D.far then 4095 else e.last+D.far)then [(w+1,w+1)]else []))/\∃o,G=[↑(.ref p),↑(.ref x),↑(.int age),↑(.int D.near),↑(.int D.far),↑(.int D.most),↑(.int e.age),↑(.int e.last),↑X,↑(.ref I),o]) (λD' a0 d=>?_) ?_
  ·have m:=hw.same J
   cases ew:e.wt with
   |none=>
    rw[ew]at m;have a2:X= .non:=m
    subst a2;simp only
    exact#[_,Z,Z,_,Z,Qc Z (zw (d _ _ #[J,by rw[ew];simp only;rw[E3];exact l,_,Z]))]
   |some xw=>
   obtain⟨x',w'⟩:=xw;rw[ew]at m;obtain⟨wa,rfl,N⟩:=m;simp only
   refine#[_,Z,Z,_,Z,zQ Z ?_]
   refine#[_,Z,wa,_,_,_,Z,Z,G9.of N,Z,_,Z,Z,_,Z,?_]
   by_cases R:x'=age
   case neg=>
    refine Qc (Jo (by intro z;injection z with z;exact R z)) (d _ _ #[J,?_,_,Z])
    rw[ew];simp only
    rw[Jb (λz=>R z.1),E3];exact l
   refine zQ (Ji (by rw[R])) ?_
   refine#[_,Z,wa,_,_,_,Z,Z,G9.of N,Z,_,_,Z,Z,?_]
   refine#[_,Z,_,Z,_,Z,_,_,Z,Z,_,_,Z,Z,_,_,Z,_,_,Z,Z,_,Z,?_]
   by_cases Y:w'+1<=(if 4095<e.last+D.far then 4095 else e.last+D.far)
   ·refine zQ (Ji Y) ?_
    obtain⟨as,g,r,has⟩:=l;refine#[_,Z,.inl #[Z,_,G0.of g],_,Z,_,Z,GJ,λy u=>#[I,_,_,Z,Z,(GS.upd u) _ _ g,by rw[Je,r,Ju];omega,d _ _ #[?_,?_,_,Z]]]
    ·exactλc o e=>by rw[qm (qo e B)];exact GS.upd u _ _ (J _ _ e)
    ·rw[ew];simp only
     rw[Jc #[R,Y]];exact ND.add ((GS.upd u) _ _ g) r (λi a z e1 e2=>GS.upd u _ _ (has i a z e1 e2)) qc
   ·refine Qc (Jo Y) (d _ _ #[J,?_,_,Z])
    rw[ew];simp only
    rw[Jb (λz=>Y z.2),E3];exact l
  rintro _ H4 ⟨s4,⟨as,g,r,has⟩,o,rfl⟩
  exact#[_,Z,I,_,Z,.inl #[G0.of g,λt F=>q t _ (s4.trans (GS.upd F)) #[as,qc,r,λi a z e1 e2=>GS.upd F _ _ (has i a z e1 e2)]]]
theorem cO(a:Lm K C "plain_step" "Door.plain_step" zZ ["self","button","age","count"])(T:HN K mg tk)(U:Iz K C)(j:Mf P w K mg base C "takes_from" W1 2 (bA K C))(l:Df P w K mg base "step_by" W0 2 ip):Mf P w K mg base C "plain_step" X3 3 (fO K C):=by
 refine a.mq ZQ λf _ A _ s H vs Q E i h=>?_
 ·obtain⟨p,ta,hk,bd,lg,x,n,D,e,age,c,rfl,b,g,q⟩:=h
  refine#[_,(qe (qK (Qe (Qn (zg j U.cl i.mo (qv 0) (qd (qv 1) (qd (qv 2) qb))))) (qg (qr (qy (qd qB (qd (qv 1) qb))))) qF)
   (qg (qr (qp l i.mo (qd (qv 1) (qd (qv 2) (qd (qv 3) (qd (za (qv 0)) (qd (za (qv 0)) qb))))))))),?_]
  refine#[_,Z,p,Z,b.no,_,Z,_,Z,p,ta,hk,bd,lg,x,n,D,e,age,Z,b,g,_,Z,?_]
  unfold zh at q;cases ht:qR D e age with
  |false=>
   rw[ht,Jb (by intro z;cases z)]at q
   refine zx #[_,Z,GJ,λm d=>?_]
   exact q m x _ (GS.upd d) qc (g.same (GS.upd d))
  |true=>
  rw[ht,Jc Z]at q;refine zw ?_
  exact#[_,Z,_,Z,_,Z,_,Z,p,_,Z,b.h_near U,_,Z,p,_,Z,b.h_far U,x,e,age,c,D.near,D.far,Z,g,q]
theorem iq(a:At K mg "names_known" ZV ["door"])(T:HN K mg tk)(U:Iz K C)(J:Mf P w K mg base C "known_now" W6 1 (gn K C)):Df P w K mg base "names_known" ["door"] 2 (gc K C):=by
 refine a.dq ia λf _ A _ s H vs Q E L h=>?_
 ·obtain⟨p,ta,hk,bd,lg,n,D,rfl,b,ok,q⟩:=h
  refine#[_,(qg (qr (zB (own:=["row"]) (fr:=[]) (js:=[]) Z (Zv (Qi J U.cl L.mo (qv 0))) Z (λ_ _ h=>nomatch h) Z (Zk Z nofun nofun nofun) (λ_ _ _ _=>qh (i:=0) (show List.Nodup (["row"]:Α)from by decide +kernel) Z (Or.inl Z) (.inr Z)) (λ_ _ _ _=>(qC (Am (K:=K) Z) (qv 0) qf))))),?_]
  refine#[_,Z,p,Z,b.no,p,ta,hk,bd,lg,n,D,Z,b,ok,λI c H1 B pm N F=>?_]
  obtain⟨z,u,o,has⟩:=F;have M:c.length<=60:=by rw[pm.length_eq,Je];exact ok.nl
  refine#[I,Z,#[_,G9.of u],Q9 (K:=K) (xs:=z.map V.ref) (by rw[Je,o,Ju];omega) (λi ys j=>ys=(c.take i).map V.str/\GS H1 j) #[by simp,GS.refl _] (λi ys j ⟨_,d⟩=>G9.of (d _ _ u)) ?_ ?_]
  ·rintro i ys j x r m ⟨rfl,d⟩
   rw[Jn]at r;obtain⟨t,g,rfl⟩:=JZ.mp r;have hi:i<c.length:=by rw[<- o];exact(Js.mp g).1
   have es:c[i]? =some c[i]:=Jg hi
   obtain⟨e,y⟩:=Q4 (pm.mem_iff.mp (Fi hi))
   obtain⟨v,h1,_⟩:=has i t c[i] e g es y
   refine#[_,Z,t,_,_,_,Z,Z,G9.of (d _ _ h1),Z,?_,d]
   rw[J9,es,JK];rfl
  ·rintro ys j m ⟨rfl,d⟩ l G
   refine q l c _ ((B.trans d).trans (GS.upd G)) pm ?_
   rw[qc,Je,o,E5]
theorem jP(a:At K mg "lesser_end" ay ["one","first","other","second"])(T:HN K mg tk)(U:Iz K C)(t:Mf P w K mg base C "bounds_told" W6 1 (c7 K C)):Df P w K mg base "lesser_end" X1 2 (oo K C):=by
 refine a.dq jM λf _ A _ s H vs Q E y h=>?_
 ·obtain⟨p,ta,hk,bd,lg,x,n,D,e,r,c,o,j,m,G,z,D',M,rfl,b,⟨v,I,_⟩,L,⟨O,i,_⟩,q⟩:=h
  refine#[_,(qg (qr (qx (zT Z) T.b_min PyProof.Rows.boot_min (qd (qu qI (qC qO (qv 1) qf) (qC qO (Qi t U.cl y.mo (qv 0)) qf)) (qd (qu qI (qC qO (qv 3) qf) (qC qO (Qi t U.cl y.mo (qv 2)) qf)) qb))))),?_]
  refine#[_,Z,x,_,_,_,Z,Z,G9.of I,Z,_,Z,p,Z,b.no,p,ta,hk,bd,lg,n,D,Z,b,λJ H1 g l=>#[J,_,_,_,Z,Z,G9.of l,Z,_,_,Z,Z,?_]]
  have u:=L.same g
  exact#[_,Z,G,_,_,_,Z,Z,G9.of (g _ _ i),Z,_,Z,r,Z,u.no,r,c,o,j,m,z,D',Z,u,λF N B d=>#[F,_,_,_,Z,Z,G9.of d,Z,_,_,Z,Z,_,_,Z,q _ (g.trans B)]]
end
section
variable{P:Ξ}{w:Ω}{K:ι}{mg:GQ}{base:Ψ}{tk:Nat->Tok}{C:Δ}
theorem mj(a:At K mg "counts_in" bu ["stretches"])(T:HN K mg tk):Df P w K mg base "counts_in" ["stretches"] 1 mL:=by
 refine a.dq mC λf _ A _ s H vs Q E hr h=>?_
 ·obtain⟨t,S,rfl,X,ok,q⟩:=h
  refine#[_,(qg (qr (vR (own:=["first","last","count"]) (fr:=[]) (js:=[]) Z (Zv (qv 0)) Z (λ_ _ h=>nomatch h) Z (Zk Z nofun nofun nofun) (λ_ _ _ _=>Aj (K:=K) Z 2 Z (ql (qh (i:=0) (show List.Nodup (["first","last","count"]:Α)from by decide +kernel) Z (Or.inl Z) (.inr Z)) (ql (qh (i:=1) (show List.Nodup (["first","last","count"]:Α)from by decide +kernel) Z (Or.inl Z) (.inr Z)) qM))) (λ_ _ _ _=>(jv Z T.b_range (qd (qv 0) (qd (qu qI (qv 1) qf) qb)))) (λ_ _ _ _=>qh (i:=2) (show List.Nodup (["first","last","count"]:Α)from by decide +kernel) Z (Or.inl Z) (.inr Z)) (λ_ _ _ _=>(qv 2))))),?_]
  obtain⟨r,B,N,has⟩:=id X;have Y:∀i,(qL (S.take i)).length<=66:=λi=>by
   refine JG ?_ ok.cnt
   have e:qL S=qL (S.take i)++qL (S.drop i):=by unfold qL;rw[<- List.flatMap_append,List.take_append_drop]
   rw[e,Jv];exact Nat.le_add_right _ _
  refine#[_,Z,t,Z,#[_,G9.of B],?_]
  refine#[λi m ys g Hx=>m=S.length-i/\i<=S.length/\Hx=H/\ys=(qL (S.take i)).map V.int/\∃G L C,g=[G,L,C],#[S.length,by simp,Jy _,Z,Z,_,_,_,Z],?_]
  rintro i m ys g Hx ⟨rfl,hi,rfl,rfl,G,L,C,rfl⟩
  by_cases d:i<S.length
  ·have o:S[i]? =some S[i]:=Jg d
   obtain⟨z,ez⟩:∃z,z=S[i]:=#[_,Z]
   rw[<- ez]at o;have l:i<r.length:=by rw[N];exact d
   have I:(r.map V.ref)[i]? =↑(.ref r[i]):=by rw[Jn,Jg l];rfl
   refine .inr #[#[_,_,G9.of B,I],λx H' y=>?_]
   obtain⟨eH,M⟩:H'=Hx/\(r.map V.ref)[i]? =↑x:=#[y.1,y.2 _ (G9.of B)]
   subst eH;rw[I]at M;cases M;have hb:=ok.bd z (JP o);refine#[_,_,Z,G9.of (has i _ z (Jg l) o),Z,_,_,Z,_,_,Z,Z,?_]
   refine#[_,Z,_,Z,_,_,Z,Z,_,_,Z,#[by lia,by lia,by lia,by lia],?_]
   obtain⟨n,u⟩:∃n,n=(z.2+1-z.1).toNat:=#[_,Z]
   have ln:=Y (i+1);rw[jy o,<- u,Jv,Je,List.length_range]at ln;refine#[λc F zs g Hx=>F=n-c/\c<=n/\Hx=H'/\zs=(qL (S.take i)).map V.int++(List.range c).map (λk:Nat=>V.int (z.1+(k:Int)))/\∃C,g=[↑(.int z.1),↑(.int z.2),C],#[n,by simp,Jy _,Z,by simp,_,Z],?_]
   rintro c F zs g Hy ⟨rfl,a0,rfl,rfl,U,rfl⟩
   by_cases j:c<n
   ·refine .inr #[by rw[<- u];exact j,by rw[Jv,Je,Je,List.length_range,Ju];lia,λx2 O y2=>?_]
    obtain⟨D,rfl⟩:O=Hy/\x2= .int (z.1+(c:Int)):=y2
    subst D;refine#[λv R=>v= .int (z.1+(c:Int))/\R=O,λv R J=>#[n-(c+1),by lia,Z,j,J.2,?_,_,Z],#[_,Z,Z,Z]]
    rw[J.1,List.range_succ,JK,Fh];rfl
   ·obtain rfl:c=n:=by lia
    refine .inl #[by rw[<- u];exact Jf _,S.length-(i+1),by lia,Z,d,Z,?_,_,_,_,Z]
    rw[jy o,<- u,JK,ET];rfl
  ·obtain rfl:i=S.length:=by lia
   refine .inl #[#[_,G9.of B,by rw[Je,N];exact Jf _],λp W=>q p _ (GS.upd W) ?_]
   rw[qc,E5]
theorem ik(a:At K mg "least_apart" ZZ ["these","those"])(T:HN K mg tk)(C:Df P w K mg base "counts_in" ["stretches"] 1 mL):Df P w K mg base "least_apart" ["these","those"] 2 oF:=by
 refine a.dq iI λf _ A _ s H vs Q E D h=>?_
 ·obtain⟨t,R,S,m,rfl,I,n,ok,c,L,xs,q⟩:=h
  refine#[_,(qg (qr (qC qG (qx (jN Z) T.b_sorted PyProof.Rows.boot_sorted (qd (qu Ap (qH (gZ Z) T.b_set PyProof.Rows.boot_set (qd (qp C D.mo (qd (qv 0) qb)) qb)) (qH (gZ Z) T.b_set PyProof.Rows.boot_set (qd (qp C D.mo (qd (qv 1) qb)) qb))) qb)) qf))),?_]
  have c1:=ok.cnt;have c2:=c.cnt;have sb:PySem.scanBound=4096:=Z
  refine#[_,Z,t,S,Z,I,ok,λW H1 z Y=>#[W,qL S,Z,G0.of Y,by lia,λi r=>?_]]
  have x:=GS.upd (o:=av P w i (S0.ddL (qL S))) r
  refine#[_,Z,R,m,Z,(n.same z).same x,c,λM H2 y G=>#[M,qL m,Z,G0.of G,by lia,λB g=>?_]]
  have v:=GS.upd (o:=av P w B (S0.ddL (qL m))) g
  have e:=y _ _ (qc (H:=H1) (a:=i) (o:=av P w i (S0.ddL (qL S))))
  have d1:=fc (qL S);have d2:=fc (qL m);refine#[i,B,_,_,Z,Z,qo e g,v _ _ e,qc,aN _,aN _,by lia,by lia,λz3 p u J len d=>?_]
  have U:=GS.upd (o:=av P w z3 p) u
  refine#[z3,p,Z,qc,xs p J (λk=>by rw[d,Zg,Zg]),λl ms N pm O=>?_]
  have X:=GS.upd (o:= .lst (ms.map V.int)) N
  have F:=sP (ms:=ms) ok c (λk=>by rw[pm.mem_iff,d,Zg,Zg]) O L
  exact#[l,_,_,_,Z,Z,G0.of qc,Qp (j:=0) (by rw[Jn,F];rfl),q _ (((((z.trans x).trans y).trans v).trans U).trans X)]
theorem iz(a:At K mg "press_apart" ZX ["one","first","other","second"])(T:HN K mg tk)(U:Iz K C)(d7:Mf P w K mg base C "keys_now" W6 1 (ox K C))(dX:Df P w K mg base "stretches_of" ["door","button","age"] 3 (yU K C))(xG:Df P w K mg base "least_apart" ["these","those"] 2 oF):Df P w K mg base "press_apart" X1 4 (wC K C):=by
 refine a.dq HV λf _ A _ s H vs Q E e h=>?_
 ·obtain⟨p,ta,hk,bd,lg,n,D,v,o,S,m,M,I,J,n',D',v',o',rfl,b,hv,b',O,dn,B,k,k',k8,xs,q⟩:=h
  refine#[_,(qe (zn JQ Z (zC Z T.b_range (qd (qx qY T.b_len J6 (qd (Qi d7 U.cl e.mo (qv 0)) qb)) qb)) (qh (i:=4) HV.nd Z (Or.inl Z))
   (qe (qw (i:=5) HV.nd Z (Or.inl Z) (qp dX e.mo (qd (qv 0) (qd (qv 1) (qd (qv 4) qb)))))
   (qe (qw (i:=6) HV.nd Z (Or.inl Z) (qp dX e.mo (qd (qv 2) (qd (qv 3) (qd (qv 4) qb)))))
   (qg (qK (qE (Co e) (qv 5) (qv 6) (qA _)) (qg (qr (qy (qd (qv 4) (qd (qp xG e.mo (qd (qv 5) (qd (qv 6) qb))) qb))))) qF)))))
   (qg (qr zd))),?_]
  refine#[_,Z,p,Z,b.no,p,ta,hk,bd,lg,n,D,Z,b,λt0 as H0 s0 sq la _=>#[t0,_,Z,.inr sq,_,Z,by lia,by rw[Je,la];lia,?_]]
  rw[Je,la,Fe];refine Qf (n:=D.kss.length) (Pv:=λi σ Hx=>GS H Hx/\(∀x:Int,0<=x->x<0+(i:Int)->zX D x o=zX D' x o')/\∃F u l,σ=[↑(.ref p),↑v,↑(.ref S),↑v',F,u,l]) #[s0,λx h1 h2=>by lia,_,_,_,Z] ?_ ?_
  ·rintro i σ H1 hi ⟨g,no,F,u,l,rfl⟩
   obtain⟨A,eA⟩:∃A:Int,A=0+(i:Int):=#[_,Z]
   rw[<- eA]at no⊢;refine#[_,Z,_,Z,_,Z,p,ta,hk,bd,lg,n,D,v,o,A,Z,b.same g,hv.same g,λL H2 s2 d=>?_]
   have G:=g.trans s2;refine#[_,Z,_,Z,_,Z,S,m,M,I,J,n',D',v',o',A,Z,b'.same G,O.same G,λr X W c=>?_]
   have d:Lz X L (zX D A o):=Lz.same W d
   have c:Lz X r (zX D' A o'):=c
   have S3:=G.trans W;refine#[_,Z,_,Z,L,r,_,_,Z,Z,d,c,_,Z,qV (λy=>?_) (λy=>?_)]
   ·have Y:=Jx y
    refine#[_,Z,_,Z,_,Z,L,r,_,_,Z,d,c,fu dn k A,fu B k' A,Y,xs A,λH4 s4=>#[GJ,λtt R=>?_]]
    have N:aF D o D' o'=↑(A,QX (zX D A o) (zX D' A o')):=by
     unfold aF;refine kg hi (by rw[<- eA];exact Jb Y) λx j t=>Jc (no x j (by lia))
    have:=q (.ref tt) _ ((S3.trans s4).trans (GS.upd (o:= .tup [.int A,.int (QX (zX D A o) (zX D' A o'))]) R))
    rw[N]at this;exact this #[tt,Z,qc]
   ·have eq:=Decidable.not_not.mp (λz=>y (Ji z))
    refine#[S3,λx j t=>?_,_,_,_,Z]
    by_cases hx:x<A
    ·exact no x j hx
    ·obtain rfl:x=A:=by lia
     exact eq
  ·rintro σ H1 ⟨g,no,F,u,l,rfl⟩
   have N:aF D o D' o'=none:=lB λx j t=>Jc (no x j t)
   have:=q .non _ g
   rw[N]at this;exact this Z
theorem jX(a:At K mg "pair_apart" aC ["one","first","other","second"])(T:HN K mg tk)(U:Iz K C)(dY:Mf P w K mg base C "closed_now" W6 1 (i9 K C))(dD:Mf P w K mg base C "plain_step" X3 3 (fO K C))(xJ:Df P w K mg base "lesser_end" X1 2 (oo K C))(dL:Df P w K mg base "press_apart" X1 4 (wC K C)):Df P w K mg base "pair_apart" X1 5 (tU K C):=by
 refine a.dq Ho λf _ A _ s H vs Q E J h=>?_
 ·obtain⟨p,ta,hk,bd,lg,n,D,v,o,I,l,t,m,r,n',D',v',o',rfl,b,X,b',j,G,d,k,M,k8,xs,q⟩:=h
  refine#[_,(qe (qK (QW.pt (Zt (qE Zi (qv 1) zd (qA _)) (QV (qE Zi (qv 3) zd (qA _))))) (qg (qr zd)) qF)
   (qe (qw (i:=4) Ho.nd Z (Or.inl Z) (qx (Ze Z) T.b_max F4 (qd (qC qO (qv 1) qf) (qd (Qi dY U.cl J.mo (qv 0)) qb))))
   (qe (qw (i:=5) Ho.nd Z (Or.inl Z) (qp xJ J.mo (qd (qv 0) (qd (qv 1) (qd (qv 2) (qd (qv 3) qb))))))
   (qe (zn JQ Z (jv Z T.b_range (qd (qv 5) (qd (qx (zT Z) T.b_min PyProof.Rows.boot_min (qd (qu qI (qv 5) qf) (qd (zj (v:= .int 4096) Z T.g_COUNTS #[_,Z]) qb))) qb))) (qh (i:=6) Ho.nd Z (Or.inl Z))
   (qe (q9 (zg dD U.cl J.mo (qv 0) (qd (qv 1) (qd (qv 4) (qd (qv 6) qb)))) (ze Z (ql (qh (i:=7) Ho.nd Z (Or.inl Z)) (ql (qh (i:=8) Ho.nd Z (Or.inl Z)) qM))))
   (qe (q9 (zg dD U.cl J.mo (qv 2) (qd (qv 3) (qd (qv 4) (qd (qv 6) qb)))) (ze Z (ql (qh (i:=7) Ho.nd Z (Or.inl Z)) (ql (qh (i:=9) Ho.nd Z (Or.inl Z)) qM))))
   (qe (qw (i:=10) Ho.nd Z (Or.inl Z) (qp dL J.mo (qd (qv 0) (qd (qv 8) (qd (qv 2) (qd (qv 9) qb))))))
   (qg (qK (qE Z7 (qv 10) zd (qA _)) (qg (qr (qy (qd (qy (qd (qv 4) (qd (qv 6) qb))) (qd (qv 10) qb))))) qF))))))
   (qg (qr zd)))))),?_]
  cases o with
  |none=>
   have X:v= .non:=X
   subst X
   exact#[_,Z,Z,_,Z,zQ (Ji Z) (zx (q .non H (GS.refl _) Z))]
  |some e=>
  obtain⟨x,rfl,hx⟩:=X;refine#[_,Z,Z,_,Z,qV (λy=>nomatch (Jx y)) (λ_=>?_)]
  cases o' with
  |none=>
   have j:v'= .non:=j
   subst j
   exact#[_,Z,Z,_,Z,zx (q .non H (GS.refl _) Z)]
  |some e'=>
  obtain⟨x',rfl,O⟩:=j;refine#[_,Z,Z,_,Z,zw ?_]
  have k:Iq D e:=k
  have M:Iq D' e':=M
  obtain⟨w1,h1,b0⟩:=id hx;refine#[_,Z,x,_,_,_,Z,Z,G9.of h1,Z,_,Z,p,Z,b.no,p,ta,hk,bd,lg,n,D,Z,b,_,_,Z,?_]
  refine#[_,Z,_,Z,_,Z,_,Z,p,ta,hk,bd,lg,x,n,D,e,I,l,t,m,r,x',n',D',e',Z,b,hx,b',O,λH1 s1=>?_]
  obtain⟨A,eA⟩:∃A,A=zD e.age D.least:=#[_,Z]
  obtain⟨L,g⟩:∃L,L=b9 D e D' e':=#[_,Z]
  have Lb:0<=L/\L<=6000:=by
   have:=k.l0
   have:=k.l1
   have:=M.l0
   have:=M.l1
   have:=G.n0
   have:=G.nf
   have:=G.f1
   have:=d.n0
   have:=d.nf
   have:=d.f1
   rw[g];unfold b9 ZE;split<;>lia
  refine#[_,Z,_,Z,_,_,Z,Z,_,_,Z,_,_,Z,#[by rw[<- g];lia,by rw[<- g];lia,by rw[<- g];split<;>lia,by rw[<- g];split<;>lia],?_]
  have F:bZ D ↑e D' ↑e'=je L (ZE (L+2) 4096-L).toNat λc=>(aF D (some (zh D e A c).2) D' (some (zh D' e' A c).2)).map λp=>((A,c),p):=by rw[g,eA];rfl
  refine Qf (lo:=b9 D e D' e') (Pv:=λi σ Hx=>GS H Hx/\(∀y:Int,L<=y->y<L+(i:Int)->aF D (some (zh D e A y).2) D' (some (zh D' e' A y).2)=none)/\∃o6 o7 o8 o9 oa,σ=[↑(.ref p),↑(.ref x),↑(.ref I),↑(.ref x'),↑(.int A),↑(.int L),o6,o7,o8,o9,oa]) #[s1,λy h1 h2=>by lia,_,_,_,_,_,by rw[g,eA];rfl] ?_ ?_
  ·rintro i σ H2 hi ⟨B,no,o6,o7,o8,o9,oa,rfl⟩
   rw[<- g]at hi⊢;have hi:i<(ZE (L+2) 4096-L).toNat:=hi
   have S:(i:Int)<ZE (L+2) 4096-L:=by lia
   have W:0<=L+(i:Int)/\L+(i:Int)<4096:=by unfold ZE at S;split at S<;>lia
   refine#[_,Z,p,Z,(b.same B).no,_,Z,_,Z,_,Z,p,ta,hk,bd,lg,x,n,D,e,A,_,Z,b.same B,hx.same B,λq1 a1 H3 s3 a0 a6=>#[q1,_,Z,.tup a0,Z,_,_,Z,_,_,Z,Z,?_]]
   have Y:=B.trans s3;refine#[_,Z,I,Z,(b'.same Y).no,_,Z,_,Z,_,Z,I,l,t,m,r,x',n',D',e',A,_,Z,b'.same Y,O.same Y,λq2 a2 H4 s4 a4 a8=>#[q2,_,Z,.tup a4,Z,_,_,Z,_,_,Z,Z,?_]]
   have S4:=Y.trans s4;refine#[_,Z,_,Z,_,Z,_,Z,p,ta,hk,bd,lg,n,D,.ref a1,some (zh D e A (L+(i:Int))).2,I,l,t,m,r,n',D',.ref a2,some (zh D' e' A (L+(i:Int))).2,Z,b.same S4,#[a1,Z,a6.same s4],b'.same S4,#[a2,Z,a8],G,d,ci G k W.1 W.2,ci d M W.1 W.2,k8,(by rw[eA];exact xs.2 e e' Z Z _ (by lia) W.2),λu H5 s5 z=>?_]
   have S5:=S4.trans s5;cases ep:aF D (some (zh D e A (L+(i:Int))).2) D' (some (zh D' e' A (L+(i:Int))).2)with
   |none=>
    rw[ep]at z;have z:u= .non:=z
    subst z;refine#[_,Z,Z,_,Z,zw #[S5,λy N R=>?_,_,_,_,_,_,Z]]
    by_cases hy:y<L+(i:Int)
    ·exact no y N hy
    ·obtain rfl:y=L+(i:Int):=by lia
     exact ep
   |some pr=>
    rw[ep]at z;obtain⟨tt,rfl,a7⟩:=z;refine#[_,Z,Z,_,Z,zx ?_]
    refine#[_,Z,_,Z,GJ,λr1 a5=>#[_,Z,GJ,λr2 a3=>?_]]
    have u1:=GS.upd (o:= .tup [.int A,.int (L+(i:Int))]) a5
    have u2:=GS.upd (o:= .tup [.ref r1,.ref tt]) a3
    have e1:bZ D ↑e D' ↑e'=↑((A,L+(i:Int)),pr):=by
     rw[F];exact kg hi (by rw[ep];rfl) λy N R=>by rw[no y N R];rfl
    have:=q (.ref r2) _ ((S5.trans u1).trans u2)
    rw[e1]at this;exact this #[r2,r1,tt,Z,qc,u2 _ _ qc,u2 _ _ (u1 _ _ a7)]
  ·rintro σ H2 ⟨B,no,o6,o7,o8,o9,oa,rfl⟩
   have e1:bZ D ↑e D' ↑e'=none:=by
    rw[F];refine lB λy N R=>?_
    rw[no y N (by rw[g]at R⊢;exact R)];rfl
   have:=q .non _ B
   rw[e1]at this;exact this Z
end
section
variable{P:Ξ}{w:Ω}{K:ι}{mg:GQ}{base:Ψ}{tk:Nat->Tok}{C:Δ}
theorem pV(a:At K mg "telling" dw ["one","other"])(T:HN K mg tk)(U:Iz K C)(yK:Mf P w K mg base C "button_of" W8 1 (hJ K C))(dJ:Df P w K mg base "names_known" ["door"] 2 (gc K C))(dL:Df P w K mg base "press_apart" X1 4 (wC K C))(xL:Df P w K mg base "pair_apart" X1 5 (tU K C)):Df P w K mg base "telling" ["one","other"] 6 (tK K C):=by
 have dC:=yK.ofO;refine a.dq Ib λf _ A _ s H vs Q E hr h=>?_
 ·obtain⟨p,ta,hk,bd,lg,n,D,W,G,L,O,J,n',D',rfl,b,b',td,B,xs,q⟩:=h
  refine#[_,(qe (qw (i:=2) Ib.nd Z (Or.inl Z) (qx (jK Z) T.b_sorted PyProof.Rows.boot_sorted (qd (qu C3 (qH (gw Z) T.b_set PyProof.Rows.boot_set (qd (qp dJ hr.mo (qd (qv 0) qb)) qb)) (qH (gw Z) T.b_set PyProof.Rows.boot_set (qd (qp dJ hr.mo (qd (qv 1) qb)) qb))) qb)))
   (qe (zn JQ Z (zN (qv 2)) (qh (i:=3) Ib.nd Z (Or.inr Z))
   (qe (qw (i:=4) Ib.nd Z (Or.inl Z) (qp dL hr.mo (qd (qv 0) (qd (zg dC U.cl hr.mo (qv 0) (qd (qv 3) qb)) (qd (qv 1) (qd (zg dC U.cl hr.mo (qv 1) (qd (qv 3) qb)) qb))))))
   (qg (qK (qE Z7 (qv 4) zd (qA _)) (qg (qr (qy (qd (qu Z9 (qy (qd (qv 3) qb)) (qv 4)) qb)))) qF))))
   (qe (zn JQ Z (zN (qv 2)) (qh (i:=3) Ib.nd Z (Or.inr Z))
   (qe (qw (i:=5) Ib.nd Z (Or.inl Z) (qp xL hr.mo (qd (qv 0) (qd (zg dC U.cl hr.mo (qv 0) (qd (qv 3) qb)) (qd (qv 1) (qd (zg dC U.cl hr.mo (qv 1) (qd (qv 3) qb)) qb))))))
   (qg (qK (qE Z7 (qv 5) zd (qA _)) (qg (qr (qH qX T.b_tuple J0 (qd (zB (own:=["press"]) (fr:=["name"]) (js:=[3]) Z (Zv (qv 5)) Z (gd Z) Z (iu Z nofun nofun nofun Z Z Z) (λ_ _ _ _=>qh (i:=0) (show List.Nodup (["press","name"]:Α)from by decide +kernel) Z (Or.inl Z) (.inr Z)) (λ_ _ _ _=>(qu Z9 (qy (qd (qv 1) qb)) (qv 0)))) qb)))) qF))))
   (qg (qr zd))))),?_]
  have b5:∀{D:Dr} {ss:Α},Ni D->ss.Perm (D.kn.map (·.1))->ss.length<=30:=λtd pm=>by rw[pm.length_eq,Je];exact td.few
  refine#[_,Z,p,ta,hk,bd,lg,n,D,Z,b,td.ok,λn1 g H1 s1 a5 e1=>?_]
  have c0:=b5 td a5;have sb:PySem.scanBound=4096:=Z
  refine#[n1,g,Z,G0.of e1,by lia,λz1 b7=>?_]
  have u1:=GS.upd (o:=ao P w z1 (S0.ddL g)) b7
  refine#[_,Z,W,G,L,O,J,n',D',Z,(b'.same s1).same u1,B.ok,λn2 M H2 s2 b2 e2=>?_]
  have c3:=b5 B b2;have d1:=fc g;have d2:=fc M;refine#[n2,M,Z,G0.of e2,by lia,λz2 e=>?_]
  have u2:=GS.upd (o:=ao P w z2 (S0.ddL M)) e
  have a8:=s2 _ _ (qc (H:=H1) (a:=z1) (o:=ao P w z1 (S0.ddL g)))
  refine#[z1,z2,_,_,Z,Z,qo a8 e,u2 _ _ a8,qc,aN _,aN _,by lia,λz3 ks b8 nd a2=>?_]
  have u3:=GS.upd (o:=ao P w z3 ks) b8
  have kl:ks.length<=60:=by
   have:=lL (m:=g++M) nd λk hk=>JL.mpr (((a2 k).mp hk).imp (Zg g k).mp (Zg M k).mp)
   rw[Jv]at this;lia
  refine#[z3,ks,Z,qc,by lia,λR c b4 a1 d4=>?_]
  have u5:=GS.upd (o:= .lst (c.map V.str)) b4
  have S5:=((((s1.trans u1).trans s2).trans u2).trans u3).trans u5;have b6:∀k,k∈c↔k∈D.kn.map (·.1)\/k∈D'.kn.map (·.1):=λk=>by
   rw[a1.mem_iff,a2,Zg,Zg,a5.mem_iff,b2.mem_iff]
  have d9:c.Nodup:=a1.nodup_iff.mpr nd
  have nl:c.length<=60:=by rw[a1.length_eq];exact kl
  have q:∀u H',GS H H'->Ls H' u (ZJ D D' c)->Q u H':=λu H' s t=>q u c H' s d9 b6 d4 t
  have k8:=td.ok.kl;clear u1 u2 u3 u5 a8 a2 a1 a5 b2 d1 d2 c0 c3 kl nd b7 e b8 b4 e1 e2 s1 s2;refine ZG (λc1 H'=>GS H H'/\H' R=↑(.lst (c.map V.str))/\c.findSome? (br D D')=none/\∃X S Y,c1=[↑(.ref p),↑(.ref W),↑(.ref R),X,S,Y]) (λD0 d0 c2=>?_) ?_
  ·refine#[_,Z,R,Z,#[_,G0.of qc],?_]
   refine Qj (K:=K) (a:=R) (xs:=c.map V.str) (λi σ Hx=>GS H Hx/\Hx R=↑(.lst (c.map V.str))/\(∀j z,j<i->c[j]? =↑z->br D D' z=none)/\∃X S Y,σ=[↑(.ref p),↑(.ref W),↑(.ref R),X,S,Y]) #[S5,qc,λj z v _=>absurd v (Nat.not_lt_zero _),_,_,_,Z] (λi σ Hx _ h=>G0.of h.2.1) ?_ ?_
   ·rintro i z σ H6 hz ⟨d,e6,no,X,S,Y,rfl⟩
    rw[Jn]at hz;obtain⟨nm,I,rfl⟩:=JZ.mp hz;refine#[_,Z,_,Z,p,Z,(b.same d).no,_,Z,p,ta,hk,bd,lg,n,D,nm,Z,b.same d,λv1 a4=>?_]
    refine#[_,Z,_,Z,W,Z,(b'.same d).no,_,Z,W,G,L,O,J,n',D',nm,Z,b'.same d,λv2 b1=>?_]
    refine#[p,ta,hk,bd,lg,n,D,v1,_,W,G,L,O,J,n',D',v2,_,Z,b.same d,a4,b'.same d,b1,td.dn,B.dn,td.kn nm,B.kn nm,k8,(xs nm).1,λu H7 s7 l=>?_]
    have S7:=d.trans s7;cases ep:aF D (D.kn.lookup nm) D' (D'.kn.lookup nm)with
    |none=>
     rw[ep]at l;have l:u= .non:=l
     subst l;refine#[_,Z,Z,_,Z,zw #[S7,s7 _ _ e6,λj z v e=>?_,_,_,_,Z]]
     by_cases b0:j<i
     ·exact no j z b0 e
     ·obtain rfl:j=i:=by lia
      have ez:z=nm:=JA (e.symm.trans I)
      rw[ez];unfold br;rw[ep];rfl
    |some pr=>
     rw[ep]at l;obtain⟨tt,rfl,a0⟩:=l;refine#[_,Z,Z,_,Z,zx ?_]
     refine#[_,Z,GI,λt0 N=>#[_,Z,t0,tt,_,_,Z,Z,qc,(GS.upd N) _ _ a0,GK,λpp H9 s9 a7=>#[GI,λr b3=>?_]]]
     have u9:=GS.upd (o:= .tup [.ref pp]) b3
     have e1:ZJ D D' c=some [(nm,pr.1,pr.2)]:=by
      unfold ZJ;rw[io (f:=br D D') I (show br D D' nm=some [(nm,pr.1,pr.2)] by unfold br;rw[ep];rfl) no]
     have:=q (.ref r) _ (((S7.trans (GS.upd N)).trans s9).trans u9)
     rw[e1]at this;rw[d0];exact this (Ls.one qc (u9 _ _ a7))
   ·rintro σ H6 ⟨d,e6,no,X,S,Y,rfl⟩
    refine c2 _ _ #[d,e6,iG λx hx=>?_,_,_,_,Z]
    obtain⟨j,v,rfl⟩:=List.mem_iff_getElem.mp hx;exact no j _ (by rw[Je];exact v) (Jg v)
  clear S5
  rintro σ H5 ⟨s5,e5,a3,X,S,Y,rfl⟩
  have et:ZJ D D' c=c.findSome? (aX D D'):=by unfold ZJ;rw[a3]
  rw[et]at q;refine#[_,Z,R,Z,#[_,G0.of e5],?_]
  refine Qj (K:=K) (a:=R) (xs:=c.map V.str) (λi σ Hx=>GS H Hx/\Hx R=↑(.lst (c.map V.str))/\(∀j z,j<i->c[j]? =↑z->aX D D' z=none)/\∃X S Y,σ=[↑(.ref p),↑(.ref W),↑(.ref R),X,S,Y]) #[s5,e5,λj z v _=>absurd v (Nat.not_lt_zero _),_,_,_,Z] (λi σ Hx _ h=>G0.of h.2.1) ?_ ?_
  ·rintro i z σ H6 hz ⟨d,e6,no,X,S,Y,rfl⟩
   rw[Jn]at hz;obtain⟨nm,I,rfl⟩:=JZ.mp hz;refine#[_,Z,_,Z,p,Z,(b.same d).no,_,Z,p,ta,hk,bd,lg,n,D,nm,Z,b.same d,λv1 a4=>?_]
   refine#[_,Z,_,Z,W,Z,(b'.same d).no,_,Z,W,G,L,O,J,n',D',nm,Z,b'.same d,λv2 b1=>?_]
   refine#[p,ta,hk,bd,lg,n,D,v1,_,W,G,L,O,J,n',D',v2,_,Z,b.same d,a4,b'.same d,b1,td.dn,B.dn,td.kn nm,B.kn nm,k8,xs nm,λu H7 s7 l=>?_]
   have S7:=d.trans s7;cases ep:bZ D (D.kn.lookup nm) D' (D'.kn.lookup nm)with
   |none=>
    rw[ep]at l;have l:u= .non:=l
    subst l;refine#[_,Z,Z,_,Z,zw #[S7,s7 _ _ e6,λj z v e=>?_,_,_,_,Z]]
    by_cases b0:j<i
    ·exact no j z b0 e
    ·obtain rfl:j=i:=by lia
     have ez:z=nm:=JA (e.symm.trans I)
     rw[ez];unfold aX;rw[ep];rfl
   |some pr=>
    rw[ep]at l;obtain⟨tt,x1,x2,rfl,a0,d5,d8⟩:=l;refine#[_,Z,Z,_,Z,zx ?_]
    refine#[_,Z,tt,Z,#[_,G9.of a0],?_]
    obtain⟨zs,a6⟩:∃zs:qZ,zs=[(nm,pr.1.1,pr.1.2),(nm,pr.2.1,pr.2.2)]:=#[_,Z]
    refine Q9 (K:=K) (a:=tt) (xs:=[.ref x1,.ref x2]) (GJ) (λi ys Hx=>GS H7 Hx/\∃F:Η,ys=F.map V.ref/\F.length=i/\∀(j:Nat) (a:Δ) (z:Str×Int×Int),F[j]? =↑a->zs[j]? =↑z->Hx a=↑(.tup [.str z.1,.int z.2.1,.int z.2.2])) #[GS.refl _,[],Z,Z,λj a z h=>by cases h] (λi ys Hx h=>G9.of (h.1 _ _ a0)) ?_ ?_
    ·rintro i2 ys H8 x hx d3 ⟨s8,F,rfl,la,has⟩
     obtain⟨xa,y,rfl,d7,d6⟩:∃(xa:Δ) (y:Int×Int),x= .ref xa/\H7 xa=↑(.tup [.int y.1,.int y.2])/\∀z,zs[i2]? =↑z->z=(nm,y.1,y.2):=by
      rw[a6]
      match i2,hx with
      |0,hx=>cases hx;exact#[x1,pr.1,Z,d5,λz h=>by cases h;rfl]
      |1,hx=>cases hx;exact#[x2,pr.2,Z,d8,λz h=>by cases h;rfl]
     refine#[_,Z,GI,λt0 N=>#[_,Z,t0,xa,_,_,Z,Z,qc,(GS.upd N) _ _ (s8 _ _ d7),GK,λpp H9 s9 a7=>?_]]
     have S9:=(GS.upd (o:= .tup [.str nm]) N).trans s9
     refine#[s8.trans S9,F++[pp],by simp,by simp [la],λj a z h1 h2=>?_]
     by_cases v:j<F.length
     ·rw[JT v]at h1
      exact S9 _ _ (has j a z h1 h2)
     ·rw[JY (by lia)]at h1
      cases ej:j-F.length with
      |succ k=>rw[ej]at h1;cases h1
      |zero=>
       rw[ej]at h1;cases h1
       obtain rfl:j=i2:=by lia
       rw[d6 z h2];exact a7
    ·rintro ys H8 d3 ⟨s8,F,rfl,la,has⟩ l8 c4
     have u8:=GS.upd (o:= .lst (F.map V.ref)) c4
     refine#[l8,_,Z,.inl #[G0.of qc,λr b3=>?_]]
     have u9:=GS.upd (o:= .tup (F.map V.ref)) b3
     have e1:c.findSome? (aX D D')=↑zs:=io (f:=aX D D') I (show aX D D' nm=↑zs by rw[a6];unfold aX;rw[ep];rfl) no
     have:=q (.ref r) _ (((S7.trans s8).trans u8).trans u9)
     rw[e1]at this;exact this #[r,F,Z,qc,by rw[a6];exact la,λj a z h1 h2=>u9 _ _ (u8 _ _ (has j a z h1 h2))]
  ·rintro σ H6 ⟨d,e6,no,X,S,Y,rfl⟩
   have e1:c.findSome? (aX D D')=none:=iG λx hx=>by
    obtain⟨j,v,rfl⟩:=List.mem_iff_getElem.mp hx;exact no j _ (by rw[Je];exact v) (Jg v)
   have:=q .non _ d
   rw[e1]at this;exact this Z
end
end Lw
namespace L3
open PySem PySem.Spec PyProof.Rows L2
def tQ(k:Nat)(js:Κ)(g:TG)(tk tv:TE)(σ:L2.St)(Q:VK)(J:It)(H1:Hp):Prop:=∃W:Nat->Nat->List (qJ×V)->L2.St->Hp->Prop,(∃m,W 0 m [] (σ0 k js σ) H1)/\∀i m ys d H,W i m ys d H->
 (J.stop i H/\∀p,H p=none->Q (.ref p) (GW H p (.dK ys)))\/(J.go i H/\ys.length<ζ/\∀x H',J.yld i H x H'->g x d H' λa h=>∃N:qJ->V->Hp->Prop,(∀k v c,N k v c->∃e,e<m/\W (i+1) e (HL ys k v) a c)/\tk a h λx c=>∃k,x=kV k/\tv a c λv f=>N k v f)
def lW(k:Nat)(js:Κ)(a:TI)(g:TG)(tk tv:TE):TE:=λσ H Q=>a σ H (tQ k js g tk tv σ Q)
section
variable{prog:Ξ}{w:Ω}{A:Around}{R:Result->Θ->Prop}{s:Θ}
theorem jW{kx C a l:Φ}{d:Scope}{pos:Pos}{it:Γ}{D:Δ}{c:Env}(I:Nat->Θ->Prop)
  (z:∀n s,I n s->ε (model prog w) A (pyNext it) (λr f=>match r with
   |none=>R (.ok .next) f
   | some v=>ε (model prog w) A (letOwnedTupleGo a it v) (λ_ e=>ε (model prog w) A (assign a c v) (λ_ j=>ε (model prog w) A (eval kx c) (λE u=>ε (model prog w) A (eval C c) (λF i=>
     ε (model prog w) A (dictSet D E F) (λ_ o=>∃m,m<n/\I m o) (λ_ _=>False) i) (λ_ _=>False) u)
     (λ_ _=>False) j) (λ_ _=>False) e) (λ_ _=>False) f) (λ_ _=>False) s)
  (n:Nat)(h:I n s):
  codeAny (model prog w) A (.compLoop (.DictComp kx C [#[a,l,[],0]] d pos) 0 it (.ref D) c) R s:=by
 refine codeAny_loop Z I (λn s H=>?_) n h
 show ε _ _ ((compTurn (.DictComp kx C [#[a,l,[],0]] d pos) 0 it (.ref D) c).onRaise (λx=>do noteFrame x c;theTreesLotGoes x)) _ _ s
 refine wpAny_noted ?_
 rw[compTurn_dict];refine Ja (E1 (Ja (Jw (z n s H) (λr f g=>?_) λ_ _ h'=>h'.elim)))
 cases r with
 |none=>exact Jd g
 |some v=>
  refine Ja (Jw g (λ_ e p=>?_) λ_ _ h'=>h'.elim)
  refine Ja (Jw p (λ_ j q=>?_) λ_ _ h'=>h'.elim)
  exact Ja (Jd (Ja (Ja (Jw q (λE i B=>Ja (JI (Jw B (λF o t=>Ja (E1 (JI (Jw t (λ_ G y=>Jd #[Z,y]) λ_ _ h'=>h'.elim)))) λ_ _ h'=>h'.elim))) λ_ _ h'=>h'.elim))))
end
variable{X:Cx}
theorem fL{P:Ξ}{w:Ω}{h:Ψ}{a:Δ}{vs:List (qJ×Γ)}{o:Obj}(d:h.DictOf (qN P w) a vs)(e:h.get? a=↑o)(v:Ο):o.data≠ .cell v:=by
 obtain⟨o',es,ep,h1,f,c,_⟩:=d;rw[h1]at e;cases e
 rw[c];intro z;cases z
theorem uJ{kx vx tg q:Φ}{a:Scope}{cl:List (Str×Δ)}{pos b6:Pos}{fr own:Α}{js:Κ}{wi:TI}{g:TG}{tk tv:TE}{use:Option (Γ->Sem Unit)}{Post:GP}
  {Oa:GR}{s:Θ}{σ:L2.St}{H:Hp}{Q:VK}
  (hc:X.calm=true)(hi:PI X tg q wi)(a6:closureFor a X.env=pure cl)(d6:∀y c,cl.lookup y=↑c->X.env.cells.lookup y=↑c)(d9:cl.map (·.1)=fr)
  (S:HP X a fr js)
  (hg:∀C s H fp,PG (zb X (own++fr) a cl C s H fp) tg g)(hk:∀C s H fp,PE (zb X (own++fr) a cl C s H fp) kx tk)(hv:∀C s H fp,PE (zb X (own++fr) a cl C s H fp) vx tv)
  (hs:∀x,foldedSetIterable q X.env x=pure x)
  (I:L2.GX X Oa σ H s)(h:lW own.length js wi g tk tv σ H Q)
  (b2:∀(b4 C:Δ) (s5:Θ) (H':Hp) (m:GQ),L2.GX X Oa σ H' s5->s5.heap.Ns C m->Mm X Oa H' C->Q (.ref b4) H'->compPost (model X.prog X.w) X.A X.xe use Post (.ref b4) C (.ok .next) s5):
  ε (model X.prog X.w) X.A (comprehension (.DictComp kx vx [#[tg,q,[],0]] a pos) a X.env b6 newDict false (eval q X.env) use) Post X.xe s:=by
 refine wpAny_comprehension_free (use:=use) Z hs a6 S.kind S.names (qz (hi Oa s σ H _ I h) λv s1 h1=>qz h1 λe3 d h2=>?_)
 obtain⟨it,fp,tn,J,H2,e,I2,T,b1,f2,W,⟨m0,w0⟩,b7⟩:=h2;subst e;refine J3 (wpAny_newFunctionEnv S.nocell (by intro y hy;simp at hy) (λD j f=>?_) S.kind)
 dsimp only at j f⊢
 have R:(d.heap.push {cls:= .type "dict",dict:=none,data:= .dict (List.toArray [])}).DictOf (qN X.prog X.w) d.heap.objs.size []:=Ψ.DictOf.new d.heap
 generalize hH2:d.heap.push {cls:= .type "dict",dict:=none,data:= .dict (List.toArray [])}=G at j f R⊢
 have hC:G.objs.size=d.heap.objs.size+1:=by rw[<- hH2,JX]
 have O:d.heap.objs.size≠G.objs.size:=by rw[hC];exact Jk (E2 _)
 have A:∀b,b<d.heap.objs.size->b≠G.objs.size/\b≠d.heap.objs.size:=λb t=>#[by rw[hC];exact Jk (EY t),Jk t]
 have c1:∀b o,d.heap.get? b=↑o->D.get? b=↑o:=λb o e=>f.extBut b o (A b (Jj e)).1 (Jl _ (hH2▸Jl _ e))
 have a2:D.DictOf (qN X.prog X.w) d.heap.objs.size []:=R.at λo e=>f.extBut _ _ O (Jl _ e)
 let Y:Cx:=zb X (own++fr) a cl G.objs.size d H2 fp
 obtain⟨c4,IY,F,K,a7⟩:=fY (own:=own) (js:=js) d6 d9 S I2 T b1 f2 hC c1 j
 have a3:∀l:Θ,GX Y [] (σ0 own.length js σ) H2 l->tn 0 l.heap->l.heap.DictOf (qN X.prog X.w) d.heap.objs.size []->
   codeAny (model X.prog X.w) X.A (.compLoop (.DictComp kx vx [#[tg,q,[],0]] a pos) 0 (.ref it) (.ref d.heap.objs.size) (compEnvC a cl G.objs.size X.env))
    (compPost (model X.prog X.w) X.A X.xe use Post (.ref d.heap.objs.size) G.objs.size) l:=by
  intro l I3 d1 a8;refine jW (λn s'=>∃i ys τ H' w ob,GX Y [(d.heap.objs.size,ob)] τ H' s'/\tn i s'.heap/\(∀b∈fp,H' b=none)/\KV ys w/\s'.heap.DictOf (qN X.prog X.w) d.heap.objs.size w/\ys.length<=ζ/\W i n ys τ H') ?_ m0 ?_
  ·rintro n s4 ⟨i,ys,τ,H4,w,ob,I4,b5,c2,vl,dd,hz,w4⟩
   have a0:=I4.pin (d.heap.objs.size,ob) (by simp [Y,zb])
   rcases b7 i n ys τ H4 w4 with⟨c0,qn⟩|⟨go,e4,step⟩
   ·refine qz (T.done Y Z Z Z hc i _ s4 τ H4 _ I4 (a7 c2 (by simp)) b5 c0) λr s5 E=>?_
    obtain⟨hr,I5⟩:=E;subst hr
    show compPost _ _ _ _ _ _ _ _ _
    obtain⟨m5,d8,_⟩:=I5.loc;have a1:=I5.pin (d.heap.objs.size,ob) (by simp [Y,zb])
    have U:H4 d.heap.objs.size=none:=a1.2.1
    have B:=I5.base;have nC:H4 G.objs.size=none:=I5.free
    have d0:s5.heap.DictOf (qN X.prog X.w) d.heap.objs.size w:=dd.at λo e=>by rw[a0.1]at e;cases e;exact a1.1
    obtain⟨z1,z2⟩:=cf (ob:= .dK ys) I2 f2 hC I5 U #[hz,FL (EV (JO (Nat.lt_trans ⋯ ((I2.mod.glob.keeps I2.bk).lt)) (Jf _))),w,vl,d0]
    exact b2 d.heap.objs.size G.objs.size s5 (GW H4 d.heap.objs.size (.dK ys)) m5 z1 d8 z2 (qn _ U)
   ·refine qz (T.item Y Z Z Z hc i _ s4 τ H4 _ I4 (a7 c2 (by simp)) b5 go) λr s5 E=>?_
    obtain⟨u,hr,h5⟩:=E;subst hr;refine qz h5 λ_ s6 E=>?_
    obtain⟨x,H6,I6,r6,y6,b0,d7⟩:=E;have d2:=I6.pinned (a7 d7 (by simp)) (T.obj _ _ b0)
    refine qz (hg _ _ _ _ _ s6 τ H6 x u _ d2 r6 (step x H6 y6)) λ_ s7 E=>?_
    obtain⟨P,H7,I7,N,hN,q7⟩:=E;refine qz (hk _ _ _ _ _ s7 P H7 _ I7 q7) λk' d4 E=>?_
    obtain⟨yk,d5,e2,rk,kk,ek,e0⟩:=E;subst ek;refine qz (hv _ _ _ _ _ d4 P d5 _ e2 e0) λv' s8 E=>?_
    obtain⟨y,H8,I8,r8,n8⟩:=E;obtain⟨m',e1,w8⟩:=hN _ _ _ n8;have M:=I8.pin (d.heap.objs.size,ob) (by simp [zb])
    have d3:s8.heap.DictOf (qN X.prog X.w) d.heap.objs.size w:=dd.at λo e=>by rw[a0.1]at e;cases e;exact M.1
    have L:∀b∈fp,∀o,s6.heap.get? b=↑o->s8.heap.get? b=↑o/\H8 b=none:=λb t o e=>by
     have:=I8.pin (b,o) (JV _ (JV _ (Qk t e)))
     exact#[this.1,this.2.1]
    refine wpAny_dictSet_pairs (cz rk) d3 (λh' a4 b3=>?_) (by have:=vl.length;omega)
    have I9:GX Y [] P H8 {s8 with heap:=h',toks:=s8.toks+1}:=by
     refine(I8.pins_of (pins':=[]) (by simp)).turned (t':=s8.toks+1) (it:=d.heap.objs.size) (λb o t e=>(b3.2 b t).trans e) M.2.1 ?_ (.inr (Jf _)) (λx c e=>K x c e) (λp hp=>absurd (show p∈([]:GR)from by simpa [Y,zb]using hp) (by simp))
     exact O
    obtain⟨o9,c3,_⟩:=Ψ.dictOf_iff.mp a4;refine#[m',e1,i+1,HL ys kk y,P,H8,_,o9,I9.pins_of ?_,T.keep _ _ _ b0 λb t o e=>(b3.2 b (A b (c4 b t)).2).trans (L b t o e).1,λb t=>?_,vl.put kk r8,a4,?_,w8]
    ·intro p hp
     rw[Jh.mp hp]
     exact#[c3,M.2.1,O,F,λv z=>fL a4 c3 v z]
    ·obtain⟨o,e,_⟩:=T.obj _ _ b0 b t
     exact(L b t o e).2
    ·have:=ZL ys kk y;omega
  ·obtain⟨o3,b8,_⟩:=Ψ.dictOf_iff.mp a8
   refine#[0,[],σ0 own.length js σ,H2,[],o3,I3.pins_of ?_,d1,λb t=>(f2 b t).1,.nil,a8,Jy _,w0]
   intro p hp;rw[Jh.mp hp]
   exact#[b8,I2.hok.fresh (Jf _),O,F,λv z=>fL a8 b8 v z]
 have a5:tn 0 D:=T.keep _ _ _ b1 λb _ o e=>c1 b o e
 exact codeAny_compStart_dict (a3 _ IY a5 a2) (T.self _ 0 _ _ _ a5 (a3 _ IY a5 a2))
theorem xm{kx u tg f:Φ}{d:Scope}{p:List (Str×Δ)}{pos j t:Pos}{fr own:Α}{js:Κ}{K:TI}{g:TG}{tk tv:TE}{i:Nat}{y:Str}
  (hN:X.N.Nodup)(G:X.N[i]? =↑y)(hx:cH X.env.scope y)
  (hc:X.calm=true)(hi:PI X tg f K)(l:closureFor d X.env=pure p)(A:∀y c,p.lookup y=↑c->X.env.cells.lookup y=↑c)(E:p.map (·.1)=fr)
  (S:HP X d fr js)
  (hg:∀C s H fp,PG (zb X (own++fr) d p C s H fp) tg g)(hk:∀C s H fp,PE (zb X (own++fr) d p C s H fp) kx tk)(hv:∀C s H fp,PE (zb X (own++fr) d p C s H fp) u tv)
  (hs:∀x,foldedSetIterable f X.env x=pure x:=by intro _;rfl)(F:swapsWith (.DictComp kx u [#[tg,f,[],0]] d pos) ↑(.Name y t) j.line X.env=pure true:=by rfl)
  (hf:X.fn y=true\/X.env.scope.names.lookup y=some .local:=by first|exact .inl Z|exact .inr Z|assumption):
  PS X (.Assign [.Name y t] (.DictComp kx u [#[tg,f,[],0]] d pos) j) (aY (lW own.length js K g tk tv) (Qa i)):=by
 intro Oa s σ H D I h;rw[exec_Assign_Name_used _ _ _ _ F];refine Ja (E1 (Ja ?_))
 show ε _ X.A (do let _ <- comprehension (.DictComp kx u [#[tg,f,[],0]] d pos) d X.env _ newDict false (eval f X.env) ↑(assign (.Name y t) X.env)) _ _ s
 refine Ja (Jw (uJ (use:=↑(assign (.Name y t) X.env)) (Post:=λ_ s'=>SP X Oa D .next s') hc hi l A E S hg hk hv hs I h ?_) (λ_ s' L=>Jd (Jd L)) λ_ _ e=>e)
 intro r C U H' m T O n q
 show ε _ X.A (assign (.Name y t) X.env (.ref r)) _ _ _
 refine wpAny_assign_Name (aM (v:= .ref r) T hN G hx Z (λN M P=>?_) hf)
 obtain⟨a,w,R⟩:=P;have B:C≠a:=by
  rcases R with z|z
  ·rw[z];exact n.loc
  ·exact Ne.symm (n.cell _ _ z)
 refine#[m,O.sameBut w B,λh' J=>?_]
 exact#[_,H',M.turned (t':=N.toks) (λb o Q e=>(J.2 b Q).trans e) n.free n.loc (.inr n.new) n.cell n.pin,q]
end L3
namespace L3
open PySem PySem.Spec PyProof.Rows L2
def cP(x:Int):Int:=if 4095<x then 4095 else x
def gX(D:Dr)(e:Kb)(a:Int):Λ:=match e.wt with
 |none=>none
 |some (x,w)=>if x=a/\w+1<=cP (e.last+D.far)then ↑(w+1)else none
theorem Bb{D:Dr}{e:Kb}{a:Int}(h1:e.last+1<4096)(c:qR D e a=true):Za D e a=(e.last+1,cP (e.last+D.near))::(gX D e a).toList.map λx=>(x,x):=by
 unfold Za gX cP;rw[Jc c,Jc h1];cases e.wt with
 |none=>rfl
 |some p=>
  obtain⟨x,w⟩:=p;simp only
  by_cases h:x=a/\w+1<=(if 4095<e.last+D.far then 4095 else e.last+D.far)
  ·rw[Jc h,Jc h];rfl
  ·rw[Jb h,Jb h];rfl
def pq(D:Dr)(e:Kb)(a c:Int):Prop:=e.last<c/\(c<=e.last+D.near\/(c<=e.last+D.far/\e.wt=↑(a,c-1)))
theorem oX{D:Dr}{e:Kb}(d:IK D)(k:Iq D e){a c:Int}(j:c<=4095)(hn:¬c<=e.last+D.near)(h:e.last<c):pq D e a c↔gX D e a=↑c:=by
 unfold pq gX;cases ew:e.wt with
 |none=>exact#[λz=>absurd z.2 (λy=>y.elim hn λy=>by cases y.2),λz=>by cases z]
 |some p=>
  obtain⟨x,w⟩:=p;simp only
  constructor
  ·rintro⟨_,z|⟨i,f⟩⟩
   ·exact absurd z hn
   ·injection f with f
    injection f with f z3
    subst f;rw[Jc #[Z,by unfold cP;split<;>lia]]
    congr 1;lia
  ·intro z
   split at z
   ·rename_i y
    injection z with z
    obtain⟨rfl,g⟩:=y;refine#[h,.inr #[by unfold cP at g;split at g<;>lia,by congr 2;lia]]
   ·cases z
section
theorem Ck(x:Int):cP x<=x/\cP x<=4095:=by unfold cP;split<;>lia
theorem Dz{x y:Int}(h:y<=x)(h2:y<=4095):y<=cP x:=by unfold cP;split<;>lia
end
section
variable{D:Dr}{e:Kb}{nm:Str}{a c:Int}
theorem oY(i:D.near<=D.far)(he:D.kn.lookup nm=↑e):zv D nm a c="open"↔qR D e a=true/\pq D e a c:=by
 have d:¬(("":Str)="open"):=by decide
 have h:¬(("wait":Str)="open"):=by decide
 unfold zv pq;rw[he];simp only
 by_cases f:qR D e a=true
 ·rw[Jc f]
  by_cases h1:c-e.last<1\/c-e.last>D.far
  ·rw[Jc h1]
   exact#[λz=>absurd z d,λz=>absurd z.2 λy=>by rcases y.2 with q|q<;>lia]
  ·rw[Jb h1]
   by_cases g:c-e.last<=D.near\/e.wt=↑(a,c-1)
   ·rw[Jc g]
    exact#[λ_=>#[f,by lia,g.imp (λ_=>by lia) λq=>#[by lia,q]],λ_=>rfl]
   ·rw[Jb g]
    exact#[λz=>absurd z h,λz=>absurd (z.2.2.imp (λq=>by lia) λq=>q.2) g]
 ·rw[Jb f]
  exact#[λz=>absurd z d,λz=>absurd z.1 f]
theorem B4(d:IK D)(k:Iq D e)(i:c<=4095):aT c (Za D e a)=true↔qR D e a=true/\pq D e a c:=by
 have q:=d.n0;have o:=d.nf;have n:=k.l1
 by_cases f:qR D e a=true
 ·by_cases h1:e.last+1<4096
  ·rw[Bb h1 f]
   unfold aT;rw[ES,Bool.or_eq_true,JC,decide_eq_true_eq,decide_eq_true_eq];have l:(((gX D e a).toList.map λx=>(x,x)).any λp=>decide (p.1<=c)&&decide (c<=p.2))=true↔gX D e a=↑c:=by
    cases gX D e a with
    |none=>exact#[(λz=>by cases z),λz=>by cases z]
    |some x=>
     show((decide (x<=c)&&decide (c<=x))||false)=true↔_
     rw[Bool.or_false,JC,decide_eq_true_eq,decide_eq_true_eq,Option.some.injEq];lia
   rw[l];simp only
   by_cases g:c<=e.last+D.near
   ·constructor
    ·rintro(z|z)
     ·exact#[f,by lia,.inl g]
     ·have:=ow_gt d k z
      lia
    ·rintro⟨_,z,_⟩
     exact .inl #[by lia,Dz g i]
   ·have m:¬(e.last+1<=c/\c<=cP (e.last+D.near)):=λz=>by
     have:=Ck (e.last+D.near)
     lia
    constructor
    ·rintro(z|z)
     ·exact absurd z m
     ·have j:e.last<c:=by lia
      exact#[f,(oX d k i g j).mpr z]
    ·rintro⟨_,z⟩
     exact .inr ((oX d k i g z.1).mp z)
  ·rw[xj d k h1]
   exact#[(λz=>by cases z),λz=>by have:=z.2.1;lia]
 ·have:Za D e a=[]:=by unfold Za;rw[Jb f]
  rw[this]
  exact#[(λz=>by cases z),λz=>absurd z.1 f]
where
 ow_gt {D:Dr} {e:Kb} {a x:Int} (d:IK D) (k:Iq D e) (h:gX D e a=↑x):e.last+D.near<x:=by
  unfold gX at h;cases ew:e.wt with
  |none=>rw[ew]at h;cases h
  |some p=>
   obtain⟨y,w⟩:=p;rw[ew]at h
   have:=k.w y w ew
   simp only at h
   split at h
   ·injection h with h;lia
   ·cases h
theorem gB(d:IK D)(k:dy D (D.kn.lookup nm))(f:c<=4095):zK D nm a c=aT c (zX D a (D.kn.lookup nm)):=by
 unfold zK;rw[Fb,decide_eq_true_eq];cases he:D.kn.lookup nm with
 |none=>
  have:zv D nm a c="":=by unfold zv;rw[he]
  rw[this]
  exact#[λz=>absurd z ⋯,λz=>by cases z]
 |some e=>
  rw[he]at k;rw[oY d.nf he]
  exact(B4 d k f).symm
end
end L3
namespace L3
open PySem PySem.Spec PyProof.Rows L2 SeqAt
section
variable{X:Cx}
theorem wc{kx l tg d:Φ}{a:Scope}{h:List (Str×Δ)}{pos e p:Pos}{fr own:Α}{js:Κ}{q:TI}{g:TG}{tk tv:TE}{i:Nat}{y:Str}
  (hN:X.N.Nodup)(j:X.N[i]? =↑y)(hx:cH X.env.scope y)
  (hc:X.calm=true)(hi:QI X tg d q)(f:closureFor a X.env=pure h)(m:∀y c,h.lookup y=↑c->X.env.cells.lookup y=↑c)(n:h.map (·.1)=fr)
  (S:HP X a fr js)
  (hg:∀C s H fp,QG (zb X (own++fr) a h C s H fp) tg g)(hk:∀C s H fp,QE (zb X (own++fr) a h C s H fp) kx tk)(hv:∀C s H fp,QE (zb X (own++fr) a h C s H fp) l tv)
  (hs:∀x,foldedSetIterable d X.env x=pure x:=by intro _;rfl)(o:swapsWith (.DictComp kx l [#[tg,d,[],0]] a pos) ↑(.Name y p) e.line X.env=pure true:=by rfl)
  (hf:X.fn y=true\/X.env.scope.names.lookup y=some .local:=by first|exact .inl Z|exact .inr Z|assumption):
  QS X (.Assign [.Name y p] (.DictComp kx l [#[tg,d,[],0]] a pos) e) (aY (lW own.length js q g tk tv) (Qa i)):=
 #[xm hN j hx hc hi.h f m n S (λC s H fp=>(hg C s H fp).h) (λC s H fp=>(hk C s H fp).h) (λC s H fp=>(hv C s H fp).h) hs o hf]
theorem rR{K:ι}{js:Κ}{tk tv:TE}{σ:L2.St}{H:Hp}{Q:VK}{a:Δ}{xs:Ε}(hn:xs.length<=ζ)(Pv:Nat->List (qJ×V)->Hp->Prop)(j:Pv 0 [] H)(hl:∀i ys H,Pv i ys H->G0 K H a xs)
  (hs:∀i ys H x,xs[i]? =↑x->ys.length=i->Pv i ys H->tk (↑x::Qu js σ) H λu d=>∃k,u=kV k/\tv (↑x::Qu js σ) d λv n=>Pv (i+1) (HL ys k v) n/\(HL ys k v).length=i+1)
  (hd:∀ys H,Pv xs.length ys H->∀p,H p=none->Q (.ref p) (GW H p (.dK ys))):tQ 1 js (Qa 0) tk tv σ Q (cE K a) H:=by
 refine#[λi m ys g H=>m=xs.length-i/\i<=xs.length/\ys.length=i/\Pv i ys H/\∃o,g=o::Qu js σ,#[xs.length,by simp,Jy _,Z,j,none,Z],?_]
 rintro i m ys g H ⟨rfl,hi,f,p,o,rfl⟩
 by_cases c:i<xs.length
 ·refine .inr #[#[xs,xs[i],hl _ _ _ p,by simp [c]],by lia,λx H' y=>?_]
  obtain⟨e,l⟩:H'=H/\xs[i]? =↑x:=#[y.1,y.2 xs (hl _ _ _ p)]
  subst e
  exact#[λk v d=>Pv (i+1) (HL ys k v) d/\(HL ys k v).length=i+1,λk v d h=>#[xs.length-(i+1),by lia,Z,c,h.2,h.1,_,Z],hs i ys _ x l f p]
 ·obtain rfl:i=xs.length:=by lia
  exact .inl #[#[xs,hl _ _ _ p,Jf _],hd ys H p]
inductive NB (x:V) (y:V) (H:Hp) (Q:VK):Prop
 |mk (a b:Δ) (bs cs:Χ) (h1:x= .ref a) (h2:y= .ref b) (h3:H a=↑(.lst (bs.map V.bl))) (h4:H b=↑(.lst (cs.map V.bl))) (h5:bs.length=cs.length) (h6:Q (.bl (decide (bs=cs))) H)
def DM:R2:=λx y H Q=>NB x y H Q
theorem BE{k:Nat}(hr:HB k X.A):zt X (compareOp .Eq) DM:=by
 intro Oa s σ H x y v u Q I E B h;obtain⟨a,b,bs,c,rfl,rfl,P,F,N,q⟩:=h;cases E;cases B;obtain⟨d,p,J,_⟩:=I.list (G0.of (K:=X.K) P)
 obtain⟨g,n,p2,_⟩:=I.list (G0.of (K:=X.K) F)
 have o:=p.length;have G:=n.length;rw[Je]at o G;have T:X.A.units+2<cLine:=by have:=hr.un;lia
 have f:∀{zs:Χ} {i:Ζ},GZ (zs.map V.bl) i->∀j (h:j<i.length),i[j]= .bool (zs.getD j false):=λ{zs i} r j h=>by
  obtain⟨z,t,L⟩:=zS r (j:=j) h
  rw[Jn]at t;obtain⟨w,C,rfl⟩:=JZ.mp t;rw[Jz,C];exact L
 have e:=RcAt.lists (A:=X.A) (e:=λj=>bs.getD j false==c.getD j false) J.isList p2.isList (by simp;lia) (by lia) (λj h1 M=>by
  have m:j<d.length:=by simpa using h1
  have l:j<g.length:=by simpa using M
  simp only[List.getElem_toArray];rw[f p j m,f n j l]
  have:=Ds (A:=X.A.in1) (s:=s) (y:= .bl (bs.getD j false)) (x:= .bl (c.getD j false)) Z Z Z Z
  have D:Eb (.bl (bs.getD j false)) (.bl (c.getD j false))=(bs.getD j false==c.getD j false):=by
   cases bs.getD j false<;>cases c.getD j false<;>rfl
  rw[D]at this;exact this)
 have R:((List.range d.toArray.size).all λj=>bs.getD j false==c.getD j false)=decide (bs=c):=by
  rw[Jr,<- o];rw[Fb,decide_eq_true_eq,FC];refine#[λh1=>?_,λh=>?_]
  ·refine List.ext_getElem N λj O S=>?_
   have:=eq_of_beq (h1 j (J1.mpr (by lia)))
   rw[Jz,Jz,Jg O,Jg S]at this;exact this
  ·subst h
   exactλj _=>Fu _
 rw[R]at e;exact e _ _ _ _ #[.bl _,H,I,Z,q]
end
def Qv:Dr->qZ->Dr
 |D,[]=>D
 |D,z::r=>Qv {D with kn:=Hj D z.1 z.2.1 z.2.2} r
def qQ:Dr->qZ->Χ
 |_,[]=>[]
 |D,z::r=>zK D z.1 z.2.1 z.2.2::qQ {D with kn:=Hj D z.1 z.2.1 z.2.2} r
section
variable{D:Dr}
theorem iH(zs:qZ)(z:Str×Int×Int):Qv D (zs++[z])={Qv D zs with kn:=Hj (Qv D zs) z.1 z.2.1 z.2.2}:=by
 induction zs generalizing D with
 |nil=>rfl
 |cons y r ih=>exact ih
theorem Q6(zs:qZ)(z:Str×Int×Int):qQ D (zs++[z])=qQ D zs++[zK (Qv D zs) z.1 z.2.1 z.2.2]:=by
 induction zs generalizing D with
 |nil=>rfl
 |cons y r ih=>show _::qQ _ (r++[z])=_;rw[ih];rfl
theorem lY(zs:qZ):Qv D zs={D with kn:=(Qv D zs).kn}:=by
 induction zs generalizing D with
 |nil=>rfl
 |cons y r ih=>show Qv _ r=_;rw[ih];rfl
theorem ZB(zs:qZ):(qQ D zs).length=zs.length:=by
 induction zs generalizing D with
 |nil=>rfl
 |cons y r ih=>show(_::qQ _ r).length=_;rw[JN,ih];rfl
theorem mD(ok:Ik D)(zs:qZ):Ik (Qv D zs):=by
 induction zs generalizing D with
 |nil=>exact ok
 |cons y r ih=>exact ih (ok.hearK y.1 y.2.1 y.2.2)
theorem wW{e:Kb}{nm:Str}{a c:Int}(i:D.near<=D.far)(he:D.kn.lookup nm=↑e):decide ((zh D e a c).1="near")=zK D nm a c:=by
 unfold zK;have w:=oY (a:=a) (c:=c) i he
 refine decide_eq_decide.mpr ?_
 rw[w];unfold zh zr pq
 by_cases d:qR D e a=true
 ·rw[Jc d]
  by_cases h1:c<=e.last
  ·rw[Jc h1]
   exact#[λz=>absurd z (show¬(("old":Str)="near") by decide),λz=>absurd z.2.1 (by lia)]
  ·rw[Jb h1]
   by_cases f:c<=e.last+D.near
   ·rw[Jc f]
    exact#[λ_=>#[d,by lia,.inl f],λ_=>rfl]
   ·rw[Jb f]
    by_cases g:c<=e.last+D.far
    ·rw[Jc g]
     by_cases h:e.wt=↑(a,c-1)
     ·rw[Jc h]
      exact#[λ_=>#[d,by lia,.inr #[g,h]],λ_=>rfl]
     ·rw[Jb h]
      exact#[λz=>absurd z (show¬(("far":Str)="near") by decide),λz=>by rcases z.2.2 with y|y;exact absurd y f;exact absurd y.2 h]
    ·rw[Jb g]
     exact#[λz=>absurd z (show¬(("beyond":Str)="near") by decide),λz=>by rcases z.2.2 with y|y;exact absurd y f;exact absurd y.1 g]
 ·rw[Jb d]
  exact#[λz=>absurd z (show¬(("age":Str)="near") by decide),λz=>absurd z.1 d]
theorem BX{nm:Str}{a c:Int}(he:D.kn.lookup nm=none):zK D nm a c=false:=by
 unfold zK zv;rw[he];exact Jo (show¬(("":Str)="open") by decide)
theorem tP{e:Kb}{nm:Str}{a c:Int}(f:(D.kn.map (·.1)).Nodup)(he:D.kn.lookup nm=↑e):Hj D nm a c=zc D.kn nm (zh D e a c).2:=by
 unfold Hj zk zh;rw[he];simp only
 by_cases d:qR D e a=true
 ·rw[Jc d,Jc d]
  split<;>rfl
 ·rw[Jb d,Jb d]
  exact(jm f he).symm
theorem kU(bs:Χ):Qb (bs.map V.bl) none ↑(-1)=bs.dropLast.map V.bl:=by
 unfold Qb;have e:HT.sIx (bs.map V.bl).length (bs.map V.bl).length ↑(-1)=bs.length-1:=by
  rw[Je]
  show(if(-1:Int)<0 then(-1+(bs.length:Int)).toNat else min (-1:Int).toNat bs.length)=_
  rw[Jc ⋯]
  lia
 rw[e]
 show((bs.map V.bl).drop 0).take (bs.length-1-0)=_
 rw[List.drop_zero,Nat.sub_zero,List.dropLast_eq_take,List.map_take]
theorem oS{bs:Χ}(h:0<bs.length):∃x:Bool,bs.getLast? =↑x/\zY (bs.map V.bl) (-1)=↑(.bl x):=by
 have a:bs[bs.length-1]? =some bs[bs.length-1]:=Jg (by lia)
 refine#[bs[bs.length-1],by rw[List.getLast?_eq_getElem?,a],?_]
 unfold zY Z1;rw[Je,Jb ⋯,Jc (by lia)]
 show(bs.map V.bl)[(-1+(bs.length:Int)).toNat]? =_
 rw[show(-1+(bs.length:Int)).toNat=bs.length-1 by lia,Jn,a];rfl
theorem BF{H:Hp}{d:Δ}{c:Α}{g:Str->Δ}(h:(D.kn.map (·.1)).Nodup)(pm:c.Perm (D.kn.map (·.1)))(hd:H d=↑(.dK (c.map λnm=>(Sum.inr nm,V.ref (g nm)))))(hg:∀nm∈c,∀e,D.kn.lookup nm=↑e->HS H (g nm) e):II H d D.kn:=by
 have look:∀e∈D.kn,D.kn.lookup e.1=↑e.2:=λe a=>by
  obtain⟨b,f⟩:=Gg.mp (Hg.mpr (Jt.mpr #[e,a,Z]))
  rw[f,QY h f e a Z]
 refine#[(c.map λnm=>(nm,(D.kn.lookup nm).getD #[0,0,none]),g),?_,λe a=>hg e.1 (pm.mem_iff.mpr (Jt.mpr #[e,a,Z])) e.2 (look e a),?_,h]
 ·rw[hd]
  unfold eB;rw[ET];rfl
 ·refine(pm.map _).trans ?_
  rw[ET]
  have:D.kn.map ((λnm=>(nm,(D.kn.lookup nm).getD #[0,0,none]))∘λx=>x.1)=D.kn:=by
   conv=>rhs;rw[<- List.map_id D.kn]
   refine FJ λe a=>?_
   show(e.1,(D.kn.lookup e.1).getD #[0,0,none])=e
   rw[look e a];rfl
  rw[this]
end
def Ql(D D':Dr)(zs:qZ):Bool:=decide ((qQ D zs).dropLast=(qQ D' zs).dropLast)&& ! decide ((qQ D zs).getLast? =(qQ D' zs).getLast?)
end L3
namespace L3
open PySem PySem.Spec PyProof.Rows L2
theorem Bg{X:Cx}{K:ι}(a:X.K=K){pos:Pos}{es:Ι}{k:Nat}{t:Zx}(n:Nat)(hc:X.calm=true)(h:Nv X es t)(hn:(assignEach es X.env).length=n:=by rfl)(hst:(assignEach es X.env).findIdx? (·.1)=none:=by rfl):QG X (.Tuple es k pos) (rD K n t):=by
 subst a
 exact#[vG (hc:=hc) (h:=h.h) (hn:=hn) (hst:=hst)]
theorem rL{K:ι}{js:Κ}{te:TE}{σ:L2.St}{H:Hp}{Q:VK}{a:Δ}{xs:Ε}(hn:xs.length<=ζ)(Pv:Nat->Ε->Hp->Prop)(l:Pv 0 [] H)(hl:∀i ys H,Pv i ys H->G0 K H a xs)
  (hs:∀i ys H x,xs[i]? =↑x->ys.length=i->Pv i ys H->∃p g h,x= .ref p/\Sq K H p [g,h]/\te (↑g::↑h::Qu js σ) H λv f=>Pv (i+1) (ys++[v]) f)
  (hd:∀ys H,ys.length=xs.length->Pv xs.length ys H->∀p,H p=none->Q (.ref p) (GW H p (.lst ys))):
  pW 2 js (rD K 2 (j4 (Qa 0) (j4 (Qa 1) xz))) te σ Q (cE K a) H:=by
 refine#[λi m zs j H=>m=xs.length-i/\i<=xs.length/\zs.length=i/\Pv i zs H/\∃o o',j=o::o'::Qu js σ,#[xs.length,by simp,Jy _,Z,l,none,none,Z],?_]
 rintro i m zs j H ⟨rfl,hi,c,p,o,o',rfl⟩
 by_cases d:i<xs.length
 ·refine .inr #[#[xs,xs[i],hl _ _ _ p,by simp [d]],by lia,λx H' y=>?_]
  obtain⟨e,n⟩:H'=H/\xs[i]? =↑x:=#[y.1,y.2 xs (hl _ _ _ p)]
  subst e;obtain⟨t,g,h,rfl,s,q⟩:=hs i zs _ x n c p;refine#[t,_,Z,s,Z,_,_,Z,_,_,Z,Z,?_]
  exact#[λv f=>Pv (i+1) (zs++[v]) f,λv f r=>#[xs.length-(i+1),by lia,Z,d,by simp [c],r,_,_,Z],q]
 ·have e:i=xs.length:=by lia
  subst e;exact .inl #[#[xs,hl _ _ _ p,Jf _],hd zs H c p]
section
variable{X:Cx}
inductive MO (x:V) (vs:Ε) (H:Hp) (Q:VK):Prop
 |mk (l:Δ) (xs:Ε) (i:Int) (y:V) (h1:x= .ref l) (h2:vs=[.int i,y]) (h3:H l=↑(.lst xs)) (h4:0<=i) (h5:i<=xs.length) (h6:xs.length<ζ) (h7:Q .non (GW H l (.lst (xs.take i.toNat++y::xs.drop i.toNat))))
def AE:V->Ε->Hp->VK->Prop:=λx vs H Q=>MO x vs H Q
theorem i8:gr X "list.insert" AE:=by
 intro Oa s σ H x vs v D Q I g j h;obtain⟨l,xs,i,y,rfl,rfl,f,A,hk,B,q⟩:=h;cases g;obtain⟨C,u,rfl,d,p⟩:=j.two;obtain⟨t,rfl⟩:=d;obtain⟨z,a,n,r,E,e⟩:=I.lstM f;have c:a.length<ζ:=by lia
 have m:i<2 ^ 63:=by have:a.length<ζ:=c;rw[Ju]at this;lia
 have w:¬(!γ.List.listFitsIndex i)=true:=by rw[fitsIndex_both (by lia) m];decide
 refine FG F.slot_list_insert #[_,e,Z] F.entry_list_insert (F.args_list_insert_3 _ _ _) (PySem.AutoSeq1.list_insert_list_int_val_1 l a.toArray n i t u w (by rw[Jr];lia)) #[e,?_]
 refine#[.non,_,I.lset (its':=a.take i.toNat++u::a.drop i.toNat) f e ?_ ((r.take i.toNat).append (.cons p (r.drop i.toNat))) ?_,Z,q]
 ·simp only[Jr]
  have o:min i.toNat a.length=i.toNat:=by lia
  rw[Jb (by lia),o]
  apply Array.ext'
  simp [Gn]
 ·rw[Jv,JN,EX,FF]
  lia
end
section
variable{H:Hp}
theorem vo{p q:Δ}{g:Α}{kn:Kw}(h1:Lv H p g kn)(h2:Lv H q g kn)(hs:∀nm∈g,nm∈kn.map (·.1))(hl:g.length<=60):LF H 3 (.ref p) (.ref q):=by
 obtain⟨s,C,l,z⟩:=h1;obtain⟨bs,v,A,r⟩:=h2;refine .tup (.inl C) (.inl v) (by simp [l,A]) (by rw[Je,l,Ju];lia) λi x y ex c=>?_
 rw[Jn]at ex c;cases q1:s[i]? with
 |none=>rw[q1]at ex;cases ex
 |some a=>
  cases q2:bs[i]? with
  |none=>rw[q2]at c;cases c
  |some b=>
   rw[q1]at ex;rw[q2]at c;cases ex;cases c
   have hi:i<g.length:=by rw[<- l];exact(Js.mp q1).1
   have m:=Jg hi;obtain⟨e,h⟩:=Q4 (hs _ (Fi hi))
   obtain⟨t,B,f⟩:=z i a _ e q1 m h;obtain⟨w,u,d⟩:=r i b _ e q2 m h;refine .tup (.inl B) (.inl u) Z (by show 4<=ζ;decide) λj x y ex c=>?_
   match j,ex,c with
   |0,ex,c=>cases ex;cases c;exact .str _ _
   |1,ex,c=>cases ex;cases c;exact .int _ _
   |2,ex,c=>cases ex;cases c;exact .int _ _
   |3,ex,c=>
    cases ex;cases c
    cases hw:e.wt with
    |none=>
     rw[hw]at f d;have f:t= .non:=f
     have d:w= .non:=d
     rw[f,d];exact .non _
    |some xc=>
     rw[hw]at f d;obtain⟨D,rfl,o⟩:=f;obtain⟨E,rfl,n⟩:=d;exact LF.ints (ns:=[xc.1,xc.2]) (.inl o) (.inl n) (by show 2<=ζ;decide)
   |j+4,ex,c=>cases ex
end
theorem yu{a:Η}{H H':Hp}{p:Δ}{xs:Ε}(h:Sq [] H p xs)(m:Mv a H H')(nt:NT a H)(hp:p∉a):Sq [] H' p xs:=by
 rcases h with h|h
 ·rcases h with h|h
  ·rcases h with h|⟨o,h⟩
   ·exact .inl (.inl (.inl (m _ _ hp h)))
   ·exact .inl (.inl (.inr #[o,m _ _ hp h]))
  ·exact .inl (.inr h)
 ·exact .inr (m.sqt nt h)
section
variable{K:ι}{H H':Hp}{a:Δ}{xs:Ε}
def LA(H:Hp)(a:Δ)(H':Hp):Prop:=∃c,Mv c H H'/\NT c H/\a∉c
theorem LA.refl:LA H a H:=#[[],λ_ _ _ e=>e,cF,λh=>nomatch h]
theorem LA.sql(s:LA H a H')(h:G0 [] H a xs):G0 K H' a xs:=by
 obtain⟨c,m,nt,d⟩:=s;rcases h with(h|⟨o,h⟩)|⟨o,e,n,h,_⟩
 ·exact .inl (.inl (m _ _ d h))
 ·exact .inl (.inr #[o,m _ _ d h])
 ·cases h
theorem LA.sqt(s:LA H a H')(h:G9 [] H a xs):G9 K H' a xs:=by
 obtain⟨c,m,nt,e⟩:=s;rcases h with h|⟨o,d,n,h,_⟩
 ·exact .inl (m.rd nt h)
 ·cases h
end
def Qx(X:Cx)(N:Α)(a:Scope)(x0:Str)(c:List (Str×Δ))(C:Δ)(s:Θ)(H:Hp)(fp:Η):Cx:=
 {X with N:=N,s₀:=s,H₀:=H,env:=compEnvC a c C X.env,outer:=X.stack,ex:=fp,fn:=λy=>y==x0,pn:=[],xe:=λ_ _=>False}
structure Lf(X:Cx)(scope:Scope)(x0:Str)(fr:Α)(js:Κ):Prop where
 kind:scope.kind= .function
 names:∀x∈scope.names,x.2= .local->scope.names.lookup x.1=some .local
 cells:∀n acc,cellsFrom n scope.names acc=(x0,n)::acc
 push:∀h,pushCells h scope.names=h.push {cls:= .type "cell",data:= .cell none}
 cell1:∀x∈scope.names,x.2= .cell->x.1=x0
 free:∀x∈scope.names,x.2= .free->x.1∈fr
 nx:x0∉fr
 len:js.length=fr.length
 at_:∀(i j:Nat) (y:Str),js[i]? =↑j->fr[i]? =↑y->X.N[j]? =↑y/\X.env.kindOf y=some .cell/\(relabel scope X.env).names.lookup y=some .cell
theorem De{X:Cx}{N:Α}{a:Scope}{x0:Str}{f:List (Str×Δ)}{C:Δ}{s s':Θ}{H H':Hp}{fp:Η}{pl:GR}{d:L2.St}(I:L2.GX (Qx X N a x0 f C s H fp) pl d H' s'):L2.GX (zb X N a f C s H fp) pl d H' s':=
 #[#[I.ok.mod,I.ok.kind,I.ok.glob,I.ok.blt,I.ok.above,I.ok.inj,I.ok.has,λx c e=>(nomatch e),I.ok.hd,I.ok.frames,I.ok.stk,I.ok.exf,I.ok.bs,I.ok.bsz,I.ok.noex,I.ok.exfs,I.ok.funs,I.ok.frf],I.os,I.bare,I.base,I.loc,I.cell,I.free,I.freeC,I.pin,I.hok,I.len]
theorem B3{M:Model}{A:Around}{E:GP}{s:Θ}{a:Scope}{m:List (Str×Δ)}{Ob:Str}{c:Δ}{d:Env}{x0:Str}{Q:Env->Θ->Prop}
  (e:∀n g,cellsFrom n a.names g=(x0,n)::g)(f:∀h,pushCells h a.names=h.push {cls:= .type "cell",data:= .cell none})
  (l:Q (newEnv a s.heap.objs.size c ((x0,s.heap.objs.size+1)::m) Ob none .none ↑d builtinsNs) {s with heap:=(s.heap.push {cls:= .type "dict",data:= .dict (List.toArray [])}).push {cls:= .type "cell",data:= .cell none}}):
  ε M A (newFunctionEnv a c m [] Ob none .none ↑d) Q E s:=by
 simp only[newFunctionEnv,Option.isSome_some,Fc];simp only[newEnv]at l;refine Ja (wpAny_alloc ?_)
 refine Ja (wpAny_layCells _ (λname i j=>by cases hkc:i==NameKind.cell<;>simp [hkc]) _ _ _ _ ?_)
 rw[e,f];rw[show({s with heap:=s.heap.push {cls:= .type "dict",data:= .dict (List.toArray [])}}:Θ).heap.objs.size=s.heap.objs.size+1 from JX ..]
 refine Ja ?_
 rw[List.forIn_nil];exact Jd (Jd l)
section
variable{X:Cx}
theorem vb{a:Scope}{B:List (Str×Δ)}{x0:Str}{C:Δ}{fr own:Α}{js:Κ}{Oa:GR}{d:Θ}{σ:L2.St}{M:Hp}{tg:Φ}{J:It}{fp:Η}{it:Δ}{tn:Nat->Ψ->Prop}{t:Ψ}{g:Nat}{m:GQ}
  (w:∀y c,B.lookup y=↑c->X.env.cells.lookup y=↑c)(N:B.map (·.1)=fr)(S:Lf X a x0 fr js)(b2:@Eq Nat C (d.heap.objs.size+2))(a2:t.IsCell C none)(b3:own.length=1)(b4:own[0]? =↑x0)(f:L2.GX X Oa σ M d)(T:Lh X.prog X.w X.K tg J fp it tn)(a5:tn 0 d.heap)(R:∀b∈fp,Qs X Oa M b)
  (hC:g=d.heap.objs.size+1)(I:∀b o,d.heap.get? b=↑o->t.get? b=↑o)(G:t.Ns g m):
  (∀b∈fp,b<d.heap.objs.size)/\L2.GX (Qx X (own++fr) a x0 ((x0,C)::B) g d M fp) [] (σ0 own.length js σ) M {d with heap:=t,toks:=d.toks+([]:List (Str×Γ)).length}/\d.heap.objs.size∉ad X.stack/\(∀x c,((x0,C)::B).lookup x=↑c->c≠d.heap.objs.size)/\
  ∀{H':Hp} {pl:GR},(∀b∈fp,H' b=none)->(∀p∈pl,p.1=d.heap.objs.size)->∀b∈fp,Qs (Qx X (own++fr) a x0 ((x0,C)::B) g d M fp) pl H' b:=by
 have A:∀b,b<d.heap.objs.size->b≠g/\b≠d.heap.objs.size:=λb h=>#[by rw[hC];exact Jk (EY h),Jk h]
 let Y:Cx:=Qx X (own++fr) a x0 ((x0,C)::B) g d M fp
 have s:∀b∈fp,b<d.heap.objs.size:=λb h=>by obtain⟨o,e,_⟩:=T.obj _ _ a5 b h;exact Jj e
 have look:∀x c,((x0,C)::B).lookup x=↑c->(x=x0/\c=C)\/(B.lookup x=↑c/\c<d.heap.objs.size):=λx c e=>by
  rw[J7]at e;cases h:x==x0 with
  |true=>rw[h]at e;cases e;exact .inl #[JW.mp h,Z]
  |false=>
   rw[h]at e;obtain⟨v,oc,D,_⟩:=f.cell x c (w x c e)
   exact .inr #[e,Jj D]
 have a0:(Qx X (own++fr) a x0 ((x0,C)::B) g d M fp).Ok:=by
  refine#[f.ok.mod,S.kind,f.ok.glob,f.ok.blt,by show d.heap.objs.size<=g;lia,?_,?_,?_,f.ok.hd,f.ok.frames,.inl Z,?_,f.bs,JG f.ok.bsz f.sz,?_,?_,f.stack,f.stkFree]
  ·intro x y c e1 e2
   rcases look x c e1 with⟨rfl,rfl⟩|⟨q1,g1⟩<;>rcases look y _ e2 with⟨rfl,h2⟩|⟨q2,g2⟩
   ·rfl
   ·exact absurd g2 (Nat.not_lt.mpr (by lia))
   ·subst h2;exact absurd g1 (Nat.not_lt.mpr (by lia))
   ·exact f.ok.inj x y c (w x c q1) (w y c q2)
  ·intro x hx
   have b0:(relabel a X.env).names.lookup x=some .cell\/(relabel a X.env).names.lookup x=some .free:=hx
   have a1:∀kk:NameKind,(kk= .cell\/kk= .free)->(relabel a X.env).names.lookup x=↑kk->x=x0\/∃k,(x,k)∈a.names/\k= .free:=by
    intro kk hk el;obtain⟨⟨n,k⟩,r,e⟩:=Jt.mp (FA el)
    dsimp only at e
    split at e
    ·rename_i E
     cases e;refine .inr #[k,r,?_]
     simp only[JC,JW]at E;exact E.1.1
    ·cases e
     rcases hk with z|z
     ·subst z;exact .inl (S.cell1 _ r Z)
     ·exact .inr #[_,r,z]
   have hm:x=x0\/∃k,(x,k)∈a.names/\k= .free:=by
    rcases b0 with z|z
    ·exact a1 _ (.inl Z) z
    ·exact a1 _ (.inr Z) z
   show∃c,((x0,C)::B).lookup x=↑c
   rcases hm with rfl|⟨k,r,hk⟩
   ·exact#[C,by rw[J7,Fu]]
   ·obtain⟨c,hc⟩:=zL (l:=B) (by rw[N];exact S.free _ r hk)
    refine#[c,?_]
    rw[J7]
    have:(x==x0)=false:=E9.mpr λz=>S.nx (z▸S.free _ r hk)
    rw[this];exact hc
  ·intro x c e1 e2
   show d.heap.objs.size<=c
   rcases look x c e2 with⟨_,rfl⟩|⟨q,_⟩
   ·lia
   ·exact absurd (Jt.mpr #[_,FA q,JW.mp e1]) (by rw[N];exact S.nx)
  ·refineλb h=>#[?_,λx c e=>by
    rcases look x c e with⟨_,rfl⟩|⟨q,_⟩
    ·exactλz=>absurd (s b h) (Nat.not_lt.mpr (by have z:@Eq Nat c b:=z;lia))
    ·exact(R b h).2.2.2.2.1 x c (w x c q)]
   show b≠g
   exact(A b (s b h)).1
  ·intro b o e h
   rcases(R b h).2.2.2.1 with z|z
   ·exact f.ok.noex b o e z
   ·exact absurd (JO (Jj e) (JG f.ok.bsz z)) (EU _)
  ·intro b h hf
   rcases Jm.mp (f.stkSub b hf)with z|z
   ·exact(R b h).2.1 z
   ·exact(R b h).2.2.1 z
 have Q:(σ0 own.length js σ).length=(own++fr).length:=by unfold σ0;simp [S.len]
 have IY:GX Y [] (σ0 own.length js σ) M {d with heap:=t,toks:=d.toks+([]:List (Str×Γ)).length}:=by
  refine#[a0,Z,f.bare,Un.kept I,#[_,G,?_],?_,?_,?_,λp hp=>absurd (show p∈([]:GR)from hp) (by simp),f.hok.kept I,Q]
  ·intro i x v hN K _
   have H:(own++fr)[i]? =↑x:=hN
   unfold σ0 at K
   by_cases O:i<own.length
   ·rw[JT (by simpa using O),List.getElem?_replicate]at K
    split at K<;>cases K
   ·rw[JY (by simpa using F7 O),Gw,Jn]at K
    rw[JY (F7 O)]at H;cases ej:js[i-own.length]? with
    |none=>rw[ej]at K;cases K
    |some j=>
     rw[ej]at K;have a4:σ[j]? =↑(↑v):=by
      have L:(σ[j]?).join=↑v:=JA K
      cases q:σ[j]? with
      |none=>rw[q]at L;cases L
      |some o=>rw[q]at L;have:o=↑v:=L;rw[this]
     obtain⟨b1,hk,a6⟩:=S.at_ _ j x ej H;obtain⟨m,hn,hl⟩:=f.loc;obtain⟨u,ru,lk⟩:=hl j x v b1 a4 (.inr (.inl hk))
     refine#[u,ru,.inr ?_]
     rcases lk with⟨k1,_⟩|⟨_,c,ec,ic⟩
     ·rw[hk]at k1;cases k1
     ·obtain⟨c',W⟩:=zL (y:=x) (l:=B) (by rw[N];exact JP H)
      have:c'=c:=by have:=w x c' W;rw[ec]at this;exact(JA this).symm
      subst this;have a8:(x==x0)=false:=E9.mpr λz=>S.nx (z▸JP H)
      refine#[?_,c',(by show((x0,C)::B).lookup x=↑c';rw[J7,a8];exact W),?_]
      ·show(relabel a X.env).names.lookup x=some .cell\/(relabel a X.env).names.lookup x=some .free
       exact .inl a6
      ·obtain⟨oc,D,hd⟩:=ic
       exact#[oc,I _ _ D,hd]
  ·intro x c e
   rcases look x c e with⟨_,rfl⟩|⟨q,_⟩
   ·exact#[none,a2]
   ·obtain⟨v,oc,D,hd⟩:=f.cell x c (w x c q)
    exact#[v,oc,I _ _ D,hd]
  ·exact f.hok.fresh (by show d.heap.objs.size<=g;lia)
  ·intro x c e
   rcases look x c e with⟨_,rfl⟩|⟨q,_⟩
   ·exact f.hok.fresh (by lia)
   ·exact f.freeC x c (w x c q)
 have P:d.heap.objs.size∉ad X.stack:=λhf=>by
  rcases Jm.mp (f.stkSub _ hf)with z|z
  ·exact absurd (by rw[<- z];exact Jf _:d.heap.objs.size<=X.env.locals) (Nat.not_le.mpr f.lt)
  ·exact f.nofs (Jf _) z
 have F:∀x c,((x0,C)::B).lookup x=↑c->c≠d.heap.objs.size:=λx c e=>by
  rcases look x c e with⟨_,rfl⟩|⟨q,l⟩
  ·exactλz=>absurd (show @Eq Nat c d.heap.objs.size from z) (by lia)
  ·exact Jk l
 have a3:∀{H':Hp} {pl:GR},(∀b∈fp,H' b=none)->(∀p∈pl,p.1=d.heap.objs.size)->∀b∈fp,Qs Y pl H' b:=λ{H' pl} hn hp b h=>
  #[hn b h,(A b (s b h)).1,a0.exfs b h,.inl h,λx c e=>by
   rcases look x c e with⟨_,rfl⟩|⟨q,_⟩
   ·exactλz=>absurd (s b h) (Nat.not_lt.mpr (by have z:@Eq Nat c b:=z;lia))
   ·exact(R b h).2.2.2.2.1 x c (w x c q),λp a7=>by
   have U:p∈pl:=by simpa [Y,Qx]using a7
   rw[hp p U];exact Ne.symm (A b (s b h)).2]
 exact#[s,IY,P,F,a3]
theorem uC{a0 tg l:Φ}{a:Scope}{cl:List (Str×Δ)}{x0:Str}{pos b4:Pos}{fr own:Α}{js:Κ}{wi:TI}{g:TG}{te:TE}{use:Option (Γ->Sem Unit)}{Post:GP}
  {Oa:GR}{s:Θ}{σ:L2.St}{H:Hp}{Q:VK}
  (hc:X.calm=true)(hi:PI X tg l wi)(a3:closureFor a X.env=pure cl)(d0:∀y c,cl.lookup y=↑c->X.env.cells.lookup y=↑c)(d3:cl.map (·.1)=fr)
  (S:Lf X a x0 fr js)(d6:own.length=1)(d7:own[0]? =↑x0)
  (hg:∀C c0 s H fp,PG (Qx X (own++fr) a x0 ((x0,c0)::cl) C s H fp) tg g)(he:∀C c0 s H fp,PE (Qx X (own++fr) a x0 ((x0,c0)::cl) C s H fp) a0 te)
  (hs:∀x,foldedSetIterable l X.env x=pure x)
  (I:L2.GX X Oa σ H s)(h:aQ own.length js wi g te σ H Q)
  (b0:∀(b2 C:Δ) (s5:Θ) (H':Hp) (m:GQ),L2.GX X Oa σ H' s5->s5.heap.Ns C m->Mm X Oa H' C->Q (.ref b2) H'->compPost (model X.prog X.w) X.A X.xe use Post (.ref b2) C (.ok .next) s5):
  ε (model X.prog X.w) X.A (comprehension (.ListComp a0 [#[tg,l,[],0]] a pos) a X.env b4 (newList []) false (eval l X.env) use) Post X.xe s:=by
 refine wpAny_comprehension_free (use:=use) Z hs a3 S.kind S.names (qz (hi Oa s σ H _ I h) λv s1 h1=>qz h1 λd9 f h2=>?_)
 obtain⟨it,fp,tn,J,H2,e,I2,T,a8,f2,W,⟨m0,w0⟩,b5⟩:=h2;subst e;refine J3 (B3 S.cells S.push ?_)
 dsimp only
 generalize hH2:f.heap.push {cls:= .type "list",dict:=none,data:= .seq ([]:Ζ).toArray}=G
 have t:((G.push {cls:= .type "dict",data:= .dict (List.toArray [])}).push {cls:= .type "cell",data:= .cell none}).Ns G.objs.size (λ_=>none):=(Ψ.Ns.new G (.type "dict")).keeps λb o e=>Jl _ e
 have w:∀b o,G.get? b=↑o->((G.push {cls:= .type "dict",data:= .dict (List.toArray [])}).push {cls:= .type "cell",data:= .cell none}).get? b=↑o:=λb o e=>Jl _ (Jl _ e)
 have b8:((G.push {cls:= .type "dict",data:= .dict (List.toArray [])}).push {cls:= .type "cell",data:= .cell none}).IsCell (G.objs.size+1) none:=#[_,by
  have:((G.push {cls:= .type "dict",data:= .dict (List.toArray [])}).push {cls:= .type "cell",data:= .cell none}).get? (G.push {cls:= .type "dict",data:= .dict (List.toArray [])}).objs.size=some {cls:= .type "cell",data:= .cell none}:=Jq _ Z
  rwa [JX]at this,Z]
 generalize ((G.push {cls:= .type "dict",data:= .dict (List.toArray [])}).push {cls:= .type "cell",data:= .cell none})=A at t w b8⊢
 have hC:G.objs.size=f.heap.objs.size+1:=by rw[<- hH2,JX]
 have a5:f.heap.objs.size≠G.objs.size:=by rw[hC];exact Jk (E2 _)
 have a2:∀b,b<f.heap.objs.size->b≠G.objs.size/\b≠f.heap.objs.size:=λb q=>#[by rw[hC];exact Jk (EY q),Jk q]
 have b6:∀b o,f.heap.get? b=↑o->A.get? b=↑o:=λb o e=>w b o (hH2▸Jl _ e)
 have R:A.get? f.heap.objs.size=some {cls:= .type "list",data:= .seq ([]:Ζ).toArray 0}:=w _ _ (hH2▸Jq _ Z)
 let Y:Cx:=Qx X (own++fr) a x0 ((x0,G.objs.size+1)::cl) G.objs.size f H2 fp
 obtain⟨c1,IY,D,E,a4⟩:=vb (own:=own) (js:=js) d0 d3 S (by rw[hC]) b8 d6 d7 I2 T a8 f2 hC b6 t
 have U:∀j:Θ,GX Y [] (σ0 own.length js σ) H2 j->tn 0 j.heap->j.heap.get? f.heap.objs.size=some {cls:= .type "list",data:= .seq ([]:Ζ).toArray 0}->
   codeAny (model X.prog X.w) X.A (.compLoop (.ListComp a0 [#[tg,l,[],0]] a pos) 0 (.ref it) (.ref f.heap.objs.size) (compEnvC a ((x0,G.objs.size+1)::cl) G.objs.size X.env))
    (compPost (model X.prog X.w) X.A X.xe use Post (.ref f.heap.objs.size) G.objs.size) j:=by
  intro j I3 c3 d4;refine eE (λn s'=>∃i ys τ H' d k,GX Y [(f.heap.objs.size,{cls:= .type "list",data:= .seq d.toArray k})] τ H' s'/\tn i s'.heap/\(∀b∈fp,H' b=none)/\GZ ys d/\ys.length<=ζ/\W i n ys τ H') ?_ m0 ?_
  ·rintro n s4 ⟨i,ys,τ,H4,d,k,I4,b3,b7,vl,hz,w4⟩
   have d8:=I4.pin (f.heap.objs.size,{cls:= .type "list",data:= .seq d.toArray k}) (by simp [Y,Qx])
   rcases b5 i n ys τ H4 w4 with⟨c2,qn⟩|⟨go,e0,step⟩
   ·refine qz (T.done Y Z Z Z hc i _ s4 τ H4 _ I4 (a4 b7 (by simp)) b3 c2) λr s5 M=>?_
    obtain⟨hr,I5⟩:=M;subst hr
    show compPost _ _ _ _ _ _ _ _ _
    obtain⟨m5,d2,_⟩:=I5.loc;have P:=I5.pin (f.heap.objs.size,{cls:= .type "list",data:= .seq d.toArray k}) (by simp [Y,Qx])
    have O:H4 f.heap.objs.size=none:=P.2.1
    have B:=I5.base;have nC:H4 G.objs.size=none:=I5.free
    obtain⟨z1,z2⟩:=cf (ob:= .lst ys) I2 f2 hC (De I5) O #[hz,d,k,vl,P.1]
    exact b0 f.heap.objs.size G.objs.size s5 (GW H4 f.heap.objs.size (.lst ys)) m5 z1 d2 z2 (qn _ O)
   ·refine qz (T.item Y Z Z Z hc i _ s4 τ H4 _ I4 (a4 b7 (by simp)) b3 go) λr s5 M=>?_
    obtain⟨u,hr,h5⟩:=M;subst hr;refine qz h5 λ_ s6 M=>?_
    obtain⟨x,H6,I6,r6,y6,a7,d1⟩:=M;have c4:=I6.pinned (a4 d1 (by simp)) (T.obj _ _ a7)
    refine qz (hg _ _ _ _ _ _ s6 τ H6 x u _ c4 r6 (step x H6 y6)) λ_ s7 M=>?_
    obtain⟨a6,H7,I7,N,hN,q7⟩:=M;refine qz (he _ _ _ _ _ _ s7 a6 H7 _ I7 q7) λv' s8 M=>?_
    obtain⟨y,H8,I8,r8,n8⟩:=M;obtain⟨m',d5,w8⟩:=hN _ _ n8;have K:=I8.pin (f.heap.objs.size,{cls:= .type "list",data:= .seq d.toArray k}) (by simp [Qx])
    have F:∀b∈fp,∀o,s6.heap.get? b=↑o->s8.heap.get? b=↑o/\H8 b=none:=λb q o e=>by
     have:=I8.pin (b,o) (JV _ (JV _ (Qk q e)))
     exact#[this.1,this.2.1]
    refine wpAny_list_append_plain (items:=d.toArray) #[k,K.1] (λh' L b1=>?_) (by have:=vl.length;simp;lia)
    obtain⟨k',L⟩:=L;have I9:GX Y [] a6 H8 {s8 with heap:=h'}:=by
     refine(I8.pins_of (pins':=[]) (by simp)).turned (t':=s8.toks) (it:=f.heap.objs.size) (λb o q e=>(b1.2 b q).trans e) K.2.1 ?_ (.inr (Jf _)) (λx c e=>E x c e) (λp hp=>absurd (show p∈([]:GR)from by simpa [Y,Qx]using hp) (by simp))
     exact a5
    have ea:(d.toArray.push v')=(d++[v']).toArray:=by simp
    rw[ea]at L;refine#[m',d5,i+1,ys++[y],a6,H8,d++[v'],k',I9.pins_of ?_,T.keep _ _ _ a7 λb q o e=>(b1.2 b (a2 b (c1 b q)).2).trans (F b q o e).1,λb q=>?_,vl.append (.cons r8 .nil),?_,w8]
    ·intro p hp
     rw[Jh.mp hp]
     exact#[L,K.2.1,a5,D,λv z=>by cases z]
    ·obtain⟨o,e,_⟩:=T.obj _ _ a7 b q
     exact(F b q o e).2
    ·rw[Jv,Fd];lia
  ·refine#[0,[],σ0 own.length js σ,H2,[],0,I3.pins_of ?_,c3,λb q=>(f2 b q).1,.nil,Jy _,w0]
   intro p hp;rw[Jh.mp hp]
   exact#[d4,I2.hok.fresh (Jf _),a5,D,λv z=>by cases z]
 have a1:tn 0 A:=T.keep _ _ _ a8 λb _ o e=>b6 b o e
 exact codeAny_compStart_list (U _ IY a1 R) (T.self _ 0 _ _ _ a1 (U _ IY a1 R))
theorem wR{j tg f:Φ}{d:Scope}{t:List (Str×Δ)}{x0:Str}{pos l u:Pos}{fr own:Α}{js:Κ}{N:TI}{g:TG}{te:TE}{i:Nat}{y:Str}
  (hN:X.N.Nodup)(L:X.N[i]? =↑y)(hx:cH X.env.scope y)
  (hc:X.calm=true)(hi:PI X tg f N)(n:closureFor d X.env=pure t)(B:∀y c,t.lookup y=↑c->X.env.cells.lookup y=↑c)(F:t.map (·.1)=fr)
  (S:Lf X d x0 fr js)(J:own.length=1)(K:own[0]? =↑x0)
  (hg:∀C w s H fp,PG (Qx X (own++fr) d x0 ((x0,w)::t) C s H fp) tg g)(he:∀C w s H fp,PE (Qx X (own++fr) d x0 ((x0,w)::t) C s H fp) j te)
  (hs:∀x,foldedSetIterable f X.env x=pure x:=by intro _;rfl)(G:swapsWith (.ListComp j [#[tg,f,[],0]] d pos) ↑(.Name y u) l.line X.env=pure true:=by rfl)
  (hf:X.fn y=true\/X.env.scope.names.lookup y=some .local:=by first|exact .inl Z|exact .inr Z|assumption):
  PS X (.Assign [.Name y u] (.ListComp j [#[tg,f,[],0]] d pos) l) (aY (aQ own.length js N g te) (Qa i)):=by
 intro Oa s σ H D I h;rw[exec_Assign_Name_used _ _ _ _ G];refine Ja (E1 (Ja ?_))
 show ε _ X.A (do let _ <- comprehension (.ListComp j [#[tg,f,[],0]] d pos) d X.env _ (newList []) false (eval f X.env) ↑(assign (.Name y u) X.env)) _ _ s
 refine Ja (Jw (uC (use:=↑(assign (.Name y u) X.env)) (Post:=λ_ s'=>SP X Oa D .next s') hc hi n B F S J K hg he hs I h ?_) (λ_ s' O=>Jd (Jd O)) λ_ _ e=>e)
 intro r C s5 H' m Y R p q
 show ε _ X.A (assign (.Name y u) X.env (.ref r)) _ _ _
 refine wpAny_assign_Name (aM (v:= .ref r) Y hN L hx Z (λQ P T=>?_) hf)
 obtain⟨a,A,W⟩:=T;have E:C≠a:=by
  rcases W with z|z
  ·rw[z];exact p.loc
  ·exact Ne.symm (p.cell _ _ z)
 refine#[m,R.sameBut A E,λh' M=>?_]
 exact#[_,H',P.turned (t':=Q.toks) (λb o U e=>(M.2 b U).trans e) p.free p.loc (.inr p.new) p.cell p.pin,q]
theorem xy{j tg d:Φ}{a:Scope}{l:List (Str×Δ)}{x0:Str}{pos e q:Pos}{fr:Α}{js:Κ}{r:TI}{g:TG}{te:TE}{i:Nat}{y:Str}
  (hN:X.N.Nodup)(m:X.N[i]? =↑y)(hx:cH X.env.scope y)
  (hc:X.calm=true)(hi:QI X tg d r)(h:closureFor a X.env=pure l)(n:∀y c,l.lookup y=↑c->X.env.cells.lookup y=↑c)(o:l.map (·.1)=fr)
  (S:Lf X a x0 fr js)
  (hg:∀C f s H fp,QG (Qx X ([x0]++fr) a x0 ((x0,f)::l) C s H fp) tg g)(he:∀C f s H fp,QE (Qx X ([x0]++fr) a x0 ((x0,f)::l) C s H fp) j te)
  (hs:∀x,foldedSetIterable d X.env x=pure x:=by intro _;rfl)(p:swapsWith (.ListComp j [#[tg,d,[],0]] a pos) ↑(.Name y q) e.line X.env=pure true:=by rfl)
  (hf:X.fn y=true\/X.env.scope.names.lookup y=some .local:=by first|exact .inl Z|exact .inr Z|assumption):
  QS X (.Assign [.Name y q] (.ListComp j [#[tg,d,[],0]] a pos) e) (aY (aQ 1 js r g te) (Qa i)):=#[wR (own:=[x0]) hN m hx hc hi.h h n o S Z Z (λC f s H fp=>(hg C f s H fp).h) (λC f s H fp=>(he C f s H fp).h) hs p hf]
end
theorem Cb{a:Type}{xs:List a}(h:xs.length=2):∃x y,xs=[x,y]:=by
 cases xs with
 |nil=>cases h
 |cons x r=>cases r with
  |nil=>cases h
  |cons y r=>cases r with
   |nil=>exact#[x,y,Z]
   |cons z r=>cases h
def cG(D:Dr)(z:Str×Int×Int):Dr:={D with kn:=Hj D z.1 z.2.1 z.2.2}
def cA(D:Dr)(z:Str×Int×Int):Bool:=zK D z.1 z.2.1 z.2.2
theorem Z0{t u:TS}{D:HY}{σ:L2.St}{H:Hp}(h:∀D':HY,(∀a H',u D a H'->D'.nx a H')->t D' σ H):cT t u D σ H:=h {D with nx:=u D} λ_ _ h=>h
theorem Cv{i:Nat}{v:V}{σ:L2.St}{H:Hp}{t u:TS}{D:HY}(h:∀D':HY,(∀a H',u D a H'->D'.nx a H')->t D' (σ.set i ↑v) H):Qa i v σ H (λc d=>cT t u D c d):=h {D with nx:=u D} λ_ _ h=>h
theorem bq{c:Nat}(k:Nat)(h:c<100000000)(hk:k<900000000:=by decide):c+k<1000000000:=Nat.add_lt_add h hk
section
variable{D D':Dr}
theorem uW(z:Str×Int×Int):Ql D D' [z]= ! decide (cA D z=cA D' z):=by
 unfold Ql
 show(decide (([]:Χ)=[])&& ! decide (↑(cA D z)=↑(cA D' z)))=_
 rw[Ji Z,E6];congr 1
 exact decide_eq_decide.mpr #[λh=>JA h,λh=>JH some h]
theorem ub(z y:Str×Int×Int):Ql D D' [z,y]=(decide (cA D z=cA D' z)&& ! decide (cA (cG D z) y=cA (cG D' z) y)):=by
 unfold Ql
 show(decide ([cA D z]=[cA D' z])&& ! decide (↑(cA (cG D z) y)=↑(cA (cG D' z) y)))=_
 congr 1
 ·exact decide_eq_decide.mpr #[λh=>(List.cons.inj h).1,λh=>by rw[h]]
 ·congr 1
  exact decide_eq_decide.mpr #[λh=>JA h,λh=>JH some h]
end
theorem Df.weak{P:Ξ}{w:Ω}{K:ι}{mg:GQ}{base:Ψ}{m:Str}{ps:Α}{k:Nat}{sp a:Sp}(M:Df P w K mg base m ps k sp)(h:∀vs H Q E,a vs H Q E->sp vs H Q E):Df P w K mg base m ps k a:=by
 obtain⟨f,fd,F,r⟩:=M.ex
 exact#[f,fd,F.imp h,r]
theorem Sq.k{K:ι}{H:Hp}{a:Δ}{xs:Ε}(h:Sq [] H a xs):Sq K H a xs:=h.elim (λh=> .inl (LA.refl.sql h)) λh=> .inr (LA.refl.sqt h)
def z3(z:Str×Int×Int):Ε:=[.str z.1,.int z.2.1,.int z.2.2]
def MP(H:Hp)(v:V)(zs:qZ):Prop:=∃(t:Δ) (c:Η),v= .ref t/\Sq [] H t (c.map V.ref)/\c.length=zs.length/\∀(i:Nat) (a:Δ) (z:Str×Int×Int),c[i]? =↑a->zs[i]? =↑z->Sq [] H a (z3 z)
theorem MP.same{H H':Hp}{v:V}{zs:qZ}(h:MP H v zs)(s:GS H H'):MP H' v zs:=by
 obtain⟨t,g,e,h1,l,d⟩:=h
 exact#[t,g,e,h1.same s,l,λi a z c f=>(d i a z c f).same s]
theorem MP.of{H:Hp}{v:V}{zs:qZ}(h:Ls H v ↑zs):MP H v zs:=by
 obtain⟨t,g,e,h1,l,d⟩:=h
 exact#[t,g,e,.tup h1,l,λi a z c f=> .tup (d i a z c f)]
theorem AX{K:ι}{H0 H:Hp}{a:Δ}{xs:Ε}{g:TG}{tb:TS}{D:HY}{σ:L2.St}(c:Sq [] H0 a xs)(Pv:Nat->L2.St->Hp->Prop)(d:Pv 0 σ H)(ps:∀i σ H',Pv i σ H'->GS H0 H')
  (hs:∀i x σ H,xs[i]? =↑x->Pv i σ H->g x σ H λe h=>tb {D with nx:=Pv (i+1),ct:=Pv (i+1),bk:=D.nx} e h)(hd:∀σ H,Pv xs.length σ H->D.nx σ H){f:TI}(hw:f=wX K (λ_ H Q=>Q (.ref a) H)):xg f g tb D σ H:=by
 subst hw;refine#[a,Z,?_]
 rcases c with c|c
 ·exact .inl #[#[_,LA.refl.sql (GS.seq (ps 0 σ H d) c)],Qj Pv d (λi σ H' _ p=>LA.refl.sql (GS.seq (ps i σ H' p) c)) hs hd]
 ·exact .inr #[#[_,LA.refl.sqt (GS.sqt (ps 0 σ H d) c)],hW Pv d (λi σ H' _ p=>LA.refl.sqt (GS.sqt (ps i σ H' p) c)) hs hd]
theorem kO{K:ι}{H0 H:Hp}{a:Δ}{xs:Ε}{js:Κ}{te:TE}{σ:L2.St}{Q:VK}(c:Sq [] H0 a xs)(hn:xs.length<=ζ)(Pv:Nat->Ε->Hp->Prop)(d:Pv 0 [] H)(ps:∀i ys H',Pv i ys H'->GS H0 H')
  (hs:∀i ys H' x,xs[i]? =↑x->ys.length=i->Pv i ys H'->te (↑x::Qu js σ) H' λv e=>Pv (i+1) (ys++[v]) e)
  (hd:∀ys H',ys.length=xs.length->Pv xs.length ys H'->∀p,H' p=none->Q (.ref p) (GW H' p (.lst ys))):((∃xs,G0 K H a xs)/\ZI (cE K a) js te σ H Q)\/((∃xs,G9 K H a xs)/\ZI (cV K a) js te σ H Q):=by
 rcases c with c|c
 ·exact .inl #[#[_,LA.refl.sql (GS.seq (ps 0 [] H d) c)],Zf hn Pv d (λi ys H' p=>LA.refl.sql (GS.seq (ps i ys H' p) c)) hs hd]
 ·exact .inr #[#[_,LA.refl.sqt (GS.sqt (ps 0 [] H d) c)],Q9 hn Pv d (λi ys H' p=>LA.refl.sqt (GS.sqt (ps i ys H' p) c)) hs hd]
section
variable(K:ι)(C:Δ)
inductive MQ (vs:Ε) (H:Hp) (Q:VK):Prop
 |mk (p ta hk bd lg:Δ) (n:Nat) (D:Dr) (v:V) (zs:qZ) (h1:vs=[.ref p,v]) (h2:GV K C H p ta hk bd lg n D) (h3:Ik D) (h4:D.near<=D.far) (h5:MP H v zs) (h6:zs.length<=100) (h7:∀l H',GS H H'->H' l=↑(.lst ((qQ D zs).map V.bl))->Q (.ref l) H')
def oV:Sp:=λvs H Q _=>MQ K C vs H Q
inductive MR (vs:Ε) (H:Hp) (Q:VK):Prop
 |mk (p ta hk bd lg:Δ) (n:Nat) (D:Dr) (p' ta' hk' bd' lg':Δ) (n':Nat) (D':Dr) (v:V) (zs:qZ) (h1:vs=[.ref p,.ref p',v]) (h2:GV K C H p ta hk bd lg n D) (h3:GV K C H p' ta' hk' bd' lg' n' D') (h4:Ik D) (h5:Ik D') (h6:D.near<=D.far) (h7:D'.near<=D'.far) (h8:MP H v zs) (h9:zs.length<=100) (h10:zs≠[]) (h11:∀H',GS H H'->Q (.bl (Ql D D' zs)) H')
def nZ:Sp:=λvs H Q _=>MR K C vs H Q
end
inductive MS (vs:Ε) (H:Hp) (Q:VK):Prop
 |mk (m kd p:Δ) (D:Dr) (nm:Str) (age c:Int) (h1:vs=[.ref m,.ref p]) (h2:Ht H m kd D) (h3:Sq [] H p [.str nm,.int age,.int c]) (h4:∀H',GS H H'->Q (.str (zv D nm age c)) H')
def pF:Sp:=λvs H Q _=>MS vs H Q
inductive MT (vs:Ε) (H:Hp) (Q:VK):Prop
 |mk (m kd p:Δ) (D:Dr) (nm:Str) (age c:Int) (h1:vs=[.ref m,.ref p]) (h2:Ht H m kd D) (h3:Sq [] H p [.str nm,.int age,.int c]) (h4:Ik D) (h5:D.near<=D.far) (h6:∀H',Mv [m,kd] H H'->Ht H' m kd {D with kn:=Hj D nm age c}->Q (.bl (decide (zv D nm age c="open"))) H')
def ft:Sp:=λvs H Q _=>MT vs H Q
theorem Ak{vs:Ε}{H:Hp}{Q:VK}{E:XK}(h:iw vs H Q E):ft vs H Q E:=by
 obtain⟨m,kd,p,D,nm,age,c,e,i,d,g,a,f⟩:=h
 exact#[m,kd,p,D,nm,age,c,e,i,.tup d,g,a,f]
theorem wZ{X:Cx}{K:ι}(a:X.K=K){tg e:Φ}{te:TE}(he:QE X e te):QI X tg e (rH K te):=by
 subst a;exact zN he
theorem DO{X:Cx}{a:Scope}{x0 y:Str}{j:Nat}(l:a.kind= .function)(e:∀x∈a.names,x.2= .local->a.names.lookup x.1=some .local)(d:∀n g,cellsFrom n a.names g=(x0,n)::g)(push:∀h,pushCells h a.names=h.push {cls:= .type "cell",data:= .cell none})
  (c:∀x∈a.names,x.2= .cell->x.1=x0)(f:∀x∈a.names,x.2= .free->x.1∈([y]:Α))(o:x0∉([y]:Α))(h1:X.N[j]? =↑y)(h2:X.env.kindOf y=some .cell)(q:(relabel a X.env).names.lookup y=some .cell):Lf X a x0 [y] [j]:=
 #[l,e,d,push,c,f,o,Z,λi r s m p=>by
  cases i with
  |zero=>cases m;cases p;exact#[h1,h2,q]
  |succ i=>cases m]
theorem jg{a c:Type}(f:a->c):∀(l:List a) (i:Nat),(l.map f).eraseIdx i=(l.eraseIdx i).map f
 | [],_=>rfl
 |x::r,0=>rfl
 |x::r,i+1=>JH (f x:: ·) (jg f r i)
def Lu(H:Hp)(a:List (Δ×Str×Int×Int)):Prop:=∀w∈a,H w.1=↑(.tup (z3 w.2))
theorem Lu.same{H H':Hp}{a:List (Δ×Str×Int×Int)}(h:Lu H a)(s:GS H H'):Lu H' a:=λw c=>s _ _ (h w c)
theorem Lu.grc{H H':Hp}{a:List (Δ×Str×Int×Int)}{b:Δ}{c c':Nat}(h:Lu H a)(hb:Ip H b c)(g:IQ b c' H H'):Lu H' a:=λw d=>g.mv.tup (zf hb) (h w d)
theorem Lu.mv{H H':Hp}{a:List (Δ×Str×Int×Int)}{l:Δ}{xs:Ε}(h:Lu H a)(e:H l=↑(.lst xs))(m:Mv [l] H H'):Lu H' a:=λw c=>m.tup (NT.one e trivial) (h w c)
theorem Lu.of{H:Hp}{v:V}{r:qZ}(h:Ls H v ↑r):∃(t:Δ) (c:List (Δ×Str×Int×Int)),v= .ref t/\H t=↑(.tup (c.map λw=>V.ref w.1))/\c.length=r.length/\Lu H c:=by
 obtain⟨t,a,e,h1,l,g⟩:=h;refine#[t,a.zip r,e,?_,by rw[List.length_zip];lia,λw f=>?_]
 ·rw[h1]
  have:(a.zip r).map (λw=>V.ref w.1)=a.map V.ref:=by
   conv=>rhs;rw[<- List.map_fst_zip (l₁:=a) (l₂:=r) (by lia)]
   rw[ET];rfl
  rw[this]
 ·obtain⟨i,hi,rfl⟩:=List.getElem_of_mem f
  have:=Jg hi
  obtain⟨d,j⟩:=List.getElem?_zip_eq_some.mp this
  exact g i _ _ d j
section
variable(K:ι)(C:Δ)
inductive MU (vs:Ε) (H:Hp) (Q:VK):Prop
 |mk (a:Da) (D:Dr) (L:Ρ) (h1:vs=[.ref a.p]) (h2:HX K C H a D L) (h3:Ik D) (h4:∀q k t ss H',GS H H'->H' q=↑(.tup [.ref k,.ref t])->ss.Perm (D.kn.map (·.1))->sortedS ss=true->Lv H' k ss D.kn->Li H' t L->Q (.ref q) H')
def pK:Sp:=λvs H Q _=>MU K C vs H Q
end
inductive LS (vs:Ε) (H:Hp) (Q:VK):Prop
 |mk (b dr nl:Δ) (c:Nat) (nms:Α) (many:Nat) (base:Int) (h1:vs=[.ref b,.ref dr]) (h2:Ip H b c) (h3:c<2000000) (h4:H dr=↑(.tup [.ref nl,.int (many:Int),.int base])) (h5:H nl=↑(.lst (nms.map V.str))) (h6:nl≠b) (h7:Ng nms many base) (h8:∀p z H',IQ b (c+3) H H'->H' p=↑(.tup (z3 z))->Q (.ref p) H')
def jc:Sp:=λvs H Q _=>LS vs H Q
inductive MV (vs:Ε) (H:Hp) (Q:VK):Prop
 |mk (b dr nl:Δ) (c:Nat) (nms:Α) (many:Nat) (base:Int) (v:V) (o:Option qZ) (h1:vs=[.ref b,.ref dr,v]) (h2:Ip H b c) (h3:c<1000000) (h4:H dr=↑(.tup [.ref nl,.int (many:Int),.int base])) (h5:H nl=↑(.lst (nms.map V.str))) (h6:nl≠b) (h7:Ng nms many base) (h8:Ls H v o) (h9:∀r,o=↑r->r≠[]/\r.length<=2) (h10:∀lr ws H',IQ b (c+40) H H'->lr≠b->H' lr=↑(.lst (ws.map λw:Δ×Str×Int×Int=>V.ref w.1))->ws≠[]->ws.length<=10->Lu H' ws->Q (.ref lr) H')
def oM:Sp:=λvs H Q _=>MV vs H Q
inductive MW (vs:Ε) (H:Hp) (Q:VK):Prop
 |mk (ol m kd m' kd':Δ) (D D':Dr) (v:V) (zs:qZ) (h1:vs=[.ref ol,v]) (h2:H ol=↑(.lst [.ref m,.ref m'])) (h3:Ht H m kd D) (h4:Ht H m' kd' D') (h5:Ik D) (h6:Ik D') (h7:D.near<=D.far) (h8:D'.near<=D'.far) (h9:MP H v zs) (h10:zs.length<=100) (h11:zs≠[]) (h12:∀H',GS H H'->Q (.bl (Ql D D' zs)) H')
def pv:Sp:=λvs H Q _=>MW vs H Q
theorem oy{a:Type}{l:List a}(h:l≠[]):∃xs x,l=xs++[x]:=#[l.dropLast,l.getLast h,(List.dropLast_concat_getLast h).symm]
theorem pP(D D':Dr)(zs:qZ)(z:Str×Int×Int):Ql D D' (zs++[z])=(decide (qQ D zs=qQ D' zs)&& ! decide (zK (Qv D zs) z.1 z.2.1 z.2.2=zK (Qv D' zs) z.1 z.2.1 z.2.2)):=by
 unfold Ql;rw[Q6,Q6,List.dropLast_concat,List.dropLast_concat,List.getLast?_concat,List.getLast?_concat];congr 2
 exact decide_eq_decide.mpr #[λh=>by injection h,λh=>by rw[h]]
theorem nY:∀{a b:Χ},a.length=b.length->((a.zip b).map λp=>decide (p.1=p.2)).all id=decide (a=b)
 | [],[],_=>rfl
 |x::a,y::b,h=>by
  rw[List.zip_cons_cons,JS,List.all_cons,nY (Nat.succ.inj h)]
  by_cases e:x=y
  ·by_cases c:a=b
   ·simp [e,c]
   ·simp [e,c]
  ·simp [e]
theorem ui(xs:Ε):Qb xs none ↑(-1)=xs.dropLast:=by
 unfold Qb;have e:HT.sIx xs.length xs.length ↑(-1)=xs.length-1:=by
  show(if(-1:Int)<0 then(-1+(xs.length:Int)).toNat else min (-1:Int).toNat xs.length)=_
  rw[Jc ⋯]
  lia
 rw[e]
 show(xs.drop 0).take (xs.length-1-0)=_
 rw[List.drop_zero,Nat.sub_zero,List.dropLast_eq_take]
theorem wo(xs:Ε)(x:V):zY (xs++[x]) (-1)=↑x:=by
 unfold zY Z1;rw[Jv,Jb ⋯,Jc (by simp;lia)]
 show(xs++[x])[(-1+((xs.length+1:Nat):Int)).toNat]? =_
 rw[show(-1+((xs.length+1:Nat):Int)).toNat=xs.length by lia,JY (Jf _),Nat.sub_self];rfl
structure LU(H Hx:Hp)(l x kx y ky:Δ)(D D':Dr):Prop where
 s:GS H Hx
 el:Hx l=↑(.lst [.ref x,.ref y])
 mx:Ht Hx x kx D
 my:Ht Hx y ky D'
 fx:H x=none
 fkx:H kx=none
 fy:H y=none
 fky:H ky=none
 n1:x≠y
 n2:x≠ky
 n3:kx≠y
 n4:kx≠ky
theorem sg{z a w:Δ}(h1:w≠z)(h2:w≠a):w∉[z,a]:=λh=>by
 rcases Jm.mp h with h|h
 ·exact h1 h
 ·exact h2 (Jh.mp h)
theorem Ht.nt2{z a:Δ}{D:Dr}{H:Hp}(c:Ht H z a D):NT [z,a] H:=λw d=>by
 rcases Jm.mp d with h|h
 ·rw[h];exact#[_,c.di,trivial]
 ·rw[Jh.mp h];obtain⟨_,e,_⟩:=c.kn;exact#[_,e,trivial]
theorem Ht.nin{z a p:Δ}{D:Dr}{H:Hp}{xs:Ε}(c:Ht H z a D)(hp:H p=↑(.lst xs)):p∉[z,a]:=by
 obtain⟨_,d,_⟩:=id c.kn;exact sg (zH hp c.di (by intro q;cases q)) (zH hp d (by intro q;cases q))
section
variable{H Hx Hy:Hp}{l x kx y ky:Δ}{D D' D2:Dr}
theorem LU.same(c:LU H Hx l x kx y ky D D')(s:GS Hx Hy):LU H Hy l x kx y ky D D':=#[c.s.trans s,s _ _ c.el,c.mx.same s,c.my.same s,c.fx,c.fkx,c.fy,c.fky,c.n1,c.n2,c.n3,c.n4]
theorem LU.left(c:LU H Hx l x kx y ky D D')(mv:Mv [x,kx] Hx Hy)(d:Ht Hy x kx D2):LU H Hy l x kx y ky D2 D':=
 #[λw o a=>mv _ _ (sg (qo a c.fx) (qo a c.fkx)) (c.s _ _ a),mv _ _ (c.mx.nin c.el) c.el,d,c.my.mv mv c.mx.nt2 (rc c.n1.symm c.n3.symm) (rc c.n2.symm c.n4.symm),c.fx,c.fkx,c.fy,c.fky,c.n1,c.n2,c.n3,c.n4]
theorem LU.right(c:LU H Hx l x kx y ky D D')(mv:Mv [y,ky] Hx Hy)(d:Ht Hy y ky D2):LU H Hy l x kx y ky D D2:=
 #[λw o a=>mv _ _ (sg (qo a c.fy) (qo a c.fky)) (c.s _ _ a),mv _ _ (c.my.nin c.el) c.el,c.mx.mv mv c.my.nt2 (rc c.n1 c.n2) (rc c.n3 c.n4),d,c.fx,c.fkx,c.fy,c.fky,c.n1,c.n2,c.n3,c.n4]
end
def MX(H:Hp)(ps:Η)(bs a:Χ):Prop:=ps.length=bs.length/\ps.length=a.length/\∀(j:Nat) (p:Δ) (b c:Bool),ps[j]? =↑p->bs[j]? =↑b->a[j]? =↑c->H p=↑(.lst [.bl b,.bl c])
theorem MX.same{H H':Hp}{ps:Η}{bs a:Χ}(h:MX H ps bs a)(s:GS H H'):MX H' ps bs a:=#[h.1,h.2.1,λj p b e d c f=>s _ _ (h.2.2 j p b e d c f)]
theorem MX.keep{H H':Hp}{a:Η}{ps:Η}{bs c:Χ}(h:MX H ps bs c)(mv:Mv a H H')(hz:∀p xs,H p=↑(.lst xs)->p∉a):MX H' ps bs c:=#[h.1,h.2.1,λj p b f e d g=>mv _ _ (hz _ _ (h.2.2 j p b f e d g)) (h.2.2 j p b f e d g)]
theorem MX.snoc{H:Hp}{ps:Η}{bs a:Χ}{p:Δ}{b g:Bool}(h:MX H ps bs a)(hp:H p=↑(.lst [.bl b,.bl g])):MX H (ps++[p]) (bs++[b]) (a++[g]):=by
 obtain⟨i,l,h⟩:=h;refine#[by simp [i],by simp [<- l],λj q c c' d e f=>?_]
 by_cases m:j<ps.length
 ·rw[JT m]at d
  rw[JT (by lia)]at e
  rw[JT (by lia)]at f
  exact h j q c c' d e f
 ·rw[JY (by lia)]at d
  rw[JY (by lia)]at e
  rw[JY (by lia)]at f
  cases ej:j-ps.length with
  |zero=>rw[ej]at d;rw[show j-bs.length=0 by lia]at e;rw[show j-a.length=0 by lia]at f;cases d;cases e;cases f;exact hp
  |succ k=>rw[ej]at d;cases d
theorem uX{D D':Dr}{nm:Str}{p:Int×Int}(d:IK D)(d':IK D')(k:dy D (D.kn.lookup nm))(c:dy D' (D'.kn.lookup nm))(h:aF D (D.kn.lookup nm) D' (D'.kn.lookup nm)=↑p):zK D nm p.1 p.2≠zK D' nm p.1 p.2:=by
 unfold aF je at h;obtain⟨a,l,e⟩:=List.exists_of_findSome?_eq_some h
 split at e
 ·cases e
 ·rename_i f
  cases e;have g:=gx (fu d k a) (fu d' c a) f;obtain⟨j,h1,i,_⟩:=gQ g;rw[gB d k (by lia),gB d' c (by lia)]
  exact Jx i
theorem sT{D D':Dr}{ns:Α}{r:qZ}(ok:Ik D)(n:Ik D')(d:IK D)(d':IK D')(k:xq D)(m:xq D')(h:ZJ D D' ns=↑r):Ql D D' r=true/\r≠[]/\r.length<=2:=by
 unfold ZJ at h;cases e:ns.findSome? (br D D')with
 |some q=>
  rw[e]at h;cases h;obtain⟨nm,_,e⟩:=List.exists_of_findSome?_eq_some e
  unfold br at e;obtain⟨p,i,rfl⟩:=JZ.mp e;refine#[?_,by simp,by simp]
  rw[uW]
  have:=uX d d' (k nm) (m nm) i
  show(! decide (zK D nm p.1 p.2=zK D' nm p.1 p.2))=true
  rw[Jo this];rfl
 |none=>
  rw[e]at h;obtain⟨nm,z,t⟩:=List.exists_of_findSome?_eq_some h
  have no:aF D (D.kn.lookup nm) D' (D'.kn.lookup nm)=none:=by
   have:=List.findSome?_eq_none_iff.mp e nm z
   unfold br at this;exact Option.map_eq_none_iff.mp this
  unfold aX at t;obtain⟨p,i,rfl⟩:=JZ.mp t;refine#[?_,by simp,by simp]
  rw[ub];cases e1:D.kn.lookup nm with
  |none=>rw[e1]at i;cases i
  |some x=>
  cases e3:D'.kn.lookup nm with
  |none=>rw[e1,e3]at i;cases i
  |some x'=>
  rw[e1,e3]at i no;unfold bZ je at i;obtain⟨c,A,E⟩:=List.exists_of_findSome?_eq_some i
  obtain⟨q,y,rfl⟩:=JZ.mp E;have kx:=k nm;have g:=m nm;rw[e1]at kx;rw[e3]at g;have kx:Iq D x:=kx
  have g:Iq D' x':=g
  obtain⟨s,v⟩:=iy A;have L:=d.n0;have G:=d'.n0;have H:=d.nf;have K:=d'.nf;have J:=kx.l0;have I:=g.l0;have j:0<=c:=by
   unfold b9 ZE at s;split at s<;>lia
  have u:c<4096:=by
   unfold ZE at v;split at v<;>lia
  have F:0<=zD x.age D.least:=by unfold zD;have:=kx.a0;have:=d.l0;split<;>lia
  have C:zD x.age D.least<D.kss.length:=by unfold zD;have:=kx.a1;have:=d.lk;split<;>lia
  have same:zK D nm (zD x.age D.least) c=zK D' nm (zD x.age D.least) c:=by
   rw[gB d (k nm) (by lia),gB d' (m nm) (by lia),e1,e3,BR no F C]
  show(decide (zK D nm _ c=zK D' nm _ c)&& ! decide (zK (cG D (nm,_,c)) nm q.1 q.2=zK (cG D' (nm,_,c)) nm q.1 q.2))=true
  rw[Ji same,E6];have w:(cG D (nm,zD x.age D.least,c)).kn.lookup nm=some (zh D x (zD x.age D.least) c).2:=gu ok.nd e1
  have l:(cG D' (nm,zD x.age D.least,c)).kn.lookup nm=some (zh D' x' (zD x.age D.least) c).2:=gu n.nd e3
  have a:Iq D (zh D x (zD x.age D.least) c).2:=ci d kx j u
  have f:Iq D' (zh D' x' (zD x.age D.least) c).2:=ci d' g j u
  have a:dy (cG D (nm,zD x.age D.least,c)) (some (zh D x (zD x.age D.least) c).2):=(show Iq _ _ from#[a.a0,a.a1,a.l0,a.l1,a.w])
  have f:dy (cG D' (nm,zD x.age D.least,c)) (some (zh D' x' (zD x.age D.least) c).2):=(show Iq _ _ from#[f.a0,f.a1,f.l0,f.l1,f.w])
  have B:IK (cG D (nm,zD x.age D.least,c)):=#[d.n0,d.n1,d.nf,d.f1,d.l0,d.lk]
  have o:IK (cG D' (nm,zD x.age D.least,c)):=#[d'.n0,d'.n1,d'.nf,d'.f1,d'.l0,d'.lk]
  have:=uX (nm:=nm) (p:=q) B o (by rw[w];exact a) (by rw[l];exact f) (by rw[w,l];exact y)
  rw[Jo this];rfl
def MY(H:Hp)(b:Δ)(v:V)(zs:qZ):Prop:=∃(t:Δ) (c:Η),v= .ref t/\Sq [] H t (c.map V.ref)/\c.length=zs.length/\t≠b/\(∀a∈c,a≠b)/\∀(i:Nat) (a:Δ) (z:Str×Int×Int),c[i]? =↑a->zs[i]? =↑z->Sq [] H a (z3 z)
theorem MY.rw{H:Hp}{b:Δ}{v:V}{zs:qZ}(h:MY H b v zs):MP H v zs:=by
 obtain⟨t,c,e,h1,l,_,_,a⟩:=h
 exact#[t,c,e,h1,l,a]
theorem MY.same{H H':Hp}{b:Δ}{v:V}{zs:qZ}(h:MY H b v zs)(s:GS H H'):MY H' b v zs:=by
 obtain⟨t,d,e,h1,l,f,g,j⟩:=h
 exact#[t,d,e,h1.same s,l,f,g,λi a z c m=>(j i a z c m).same s]
theorem MY.grc{H H':Hp}{b:Δ}{c c':Nat}{v:V}{zs:qZ}(h:MY H b v zs)(hb:Ip H b c)(g:IQ b c' H H'):MY H' b v zs:=by
 obtain⟨t,m,e,h1,l,f,j,n⟩:=h
 exact#[t,m,e,yu h1 g.mv (zf hb) (qW f),l,f,j,λi a z d o=>yu (n i a z d o) g.mv (zf hb) (qW (j a (JP d)))]
theorem Ls.grc{H H':Hp}{b:Δ}{c c':Nat}{v:V}{o:Option qZ}(h:Ls H v o)(hb:Ip H b c)(g:IQ b c' H H'):Ls H' v o:=by
 cases o with
 |none=>exact h
 |some r=>
  obtain⟨t,m,e,h1,l,f⟩:=h
  exact#[t,m,e,g.mv.tup (zf hb) h1,l,λi a z j d=>g.mv.tup (zf hb) (f i a z j d)]
def NC(H:Hp)(l:Δ)(zs:qZ):Prop:=∃c:Η,H l=↑(.lst (c.map V.ref))/\c.length=zs.length/\∀(i:Nat) (a:Δ) (z:Str×Int×Int),c[i]? =↑a->zs[i]? =↑z->H a=↑(.lst (z3 z))
theorem NC.same{H H':Hp}{l:Δ}{zs:qZ}(h:NC H l zs)(s:GS H H'):NC H' l zs:=by
 obtain⟨e,h1,c,f⟩:=h
 exact#[e,s _ _ h1,c,λi a z d g=>s _ _ (f i a z d g)]
theorem NC.eqd{H:Hp}{l g:Δ}{zs:qZ}(h:NC H l zs)(h':NC H g zs):Lo H 2 (.ref l) (.ref g):=by
 obtain⟨t,h1,e,r⟩:=h;obtain⟨bs,p,o,s⟩:=h';refine .lst h1 p (by rw[Je,Je,e,o]) λi x y ex f=>?_
 rw[Jn]at ex f;obtain⟨a,m,rfl⟩:=JZ.mp ex;obtain⟨b,q,rfl⟩:=JZ.mp f;have d:=Jg (show i<zs.length by rw[<- e];exact(Js.mp m).1)
 refine .lst (r i a _ m d) (s i b _ q d) Z λj u w c n=>?_
 rw[c]at n;cases n
 match j,c with
 |0,c=>cases c;exact .str _ _
 |1,c=>cases c;exact .int _ _
 |2,c=>cases c;exact .int _ _
 |j+3,c=>cases c
theorem cr{K:ι}{H:Hp}{v:V}{zs:qZ}{js:Κ}{te:TE}{σ:L2.St}{Q:VK}(h:MP H v zs)(hz:zs.length<=100)(q:∀(a:Δ) (z:Str×Int×Int) (Hx:Hp) (G:VK),Sq K Hx a (z3 z)->(∀l,Hx l=none->G (.ref l) (GW Hx l (.lst (z3 z))))->te (↑(.ref a)::Qu js σ) Hx G)
  (L:∀l Hx,GS H Hx->H l=none->NC Hx l zs->(∀n:Η,Hx l=↑(.lst (n.map V.ref))->∀a∈n,H a=none)->Q (.ref l) Hx):∃a,v= .ref a/\(((∃xs,G0 K H a xs)/\ZI (cE K a) js te σ H Q)\/((∃xs,G9 K H a xs)/\ZI (cV K a) js te σ H Q)):=by
 obtain⟨t,n,rfl,F,y,has⟩:=h;refine#[t,Z,kO (K:=K) F (by rw[Je,y,Ju];lia) (λi ys Hx=>GS H Hx/\∃bs:Η,ys=bs.map V.ref/\bs.length=i/\(∀a∈bs,H a=none)/\∀(j:Nat) (a:Δ) (z:Str×Int×Int),bs[j]? =↑a->zs[j]? =↑z->Hx a=↑(.lst (z3 z))) #[GS.refl _,[],Z,Z,(λa h=>nomatch h),λj a z h=>by cases h] (λi ys Hx h=>h.1) ?_ ?_]
 ·rintro i ys Hx x C p ⟨s,bs,rfl,B,r,w⟩
  rw[Jn]at C;obtain⟨D,g,rfl⟩:=JZ.mp C;have hi:i<zs.length:=by rw[<- y];exact(Js.mp g).1
  have E:=Jg hi;refine q D zs[i] Hx _ ((has i D _ g E).same s).k λl m=>?_
  have u:=GS.upd (o:= .lst (z3 zs[i])) m
  refine#[s.trans u,bs++[l],by simp,by simp [B],λa d=>?_,λj a z c f=>?_]
  ·rcases JL.mp d with d|d
   ·exact r a d
   ·rw[Jh.mp d];exact QR m s
  ·by_cases J:j<bs.length
   ·rw[JT J]at c
    exact u _ _ (w j a z c f)
   ·rw[JY (by lia)]at c
    cases ej:j-bs.length with
    |zero=>
     rw[ej]at c;cases c;rw[show j=i by lia,E]at f
     cases f;exact qc
    |succ k=>rw[ej]at c;cases c
 ·rintro ys Hx p ⟨s,bs,rfl,B,r,w⟩ l m
  have u:=GS.upd (o:= .lst (bs.map V.ref)) m
  refine L l _ (s.trans u) (QR m s) #[bs,qc,by rw[B,Je,y],λj a z c f=>u _ _ (w j a z c f)] λA h a d=>?_
  rw[qc]at h;injection h with h
  injection h with h
  have:A=bs:=by
   have e:=JH (List.map λv:V=>match v with| .ref a=>a|_=>0) h
   rw[ET,ET]at e;have I:(λv:V=>match v with| .ref a=>a|_=>0)∘V.ref=(id:Δ->Δ):=Z
   rw[I,List.map_id,List.map_id]at e;exact e.symm
  exact r a (this▸d)
theorem Lo.up{H:Hp}{n:Nat}{x y:V}(h:Lo H n x y):Lo H (n+1) x y:=by
 induction h with
 |int n i=>exact .int _ i
 |str n x=>exact .str _ x
 |non n=>exact .non _
 |bl n b=>exact .bl _ b
 |tup h1 h2 hl _ ih=>exact .tup h1 h2 hl ih
 |lst h1 h2 hl _ ih=>exact .lst h1 h2 hl ih
def IL(H:Hp)(q:Δ)(a:Α)(D:Dr)(L:Ρ):Prop:=∃k t,H q=↑(.tup [.ref k,.ref t])/\Lv H k a D.kn/\Li H t L
theorem IL.same{H H':Hp}{q:Δ}{a:Α}{D:Dr}{L:Ρ}(h:IL H q a D L)(s:GS H H'):IL H' q a D L:=by
 obtain⟨k,t,e,h1,c⟩:=h
 exact#[k,t,s _ _ e,h1.same s,c.same s]
theorem IL.eqd{H:Hp}{q d:Δ}{c:Α}{D:Dr}{L:Ρ}(h:IL H q c D L)(h':IL H d c D L)(hs:∀nm∈c,nm∈D.kn.map (·.1))(hl:c.length<=60)(m:L.length<=100):Lo H 5 (.ref q) (.ref d):=by
 obtain⟨k,t,e,h1,g⟩:=h;obtain⟨n,o,j,f,l⟩:=h';refine .tup (.inl e) (.inl j) Z λi x y ex a=>?_
 match i,ex,a with
 |0,ex,a=>cases ex;cases a;exact(vo h1 f hs hl).eqd.up
 |1,ex,a=>cases ex;cases a;exact(g.eqv l (by lia)).eqd
 |i+2,ex,a=>cases ex
end L3
namespace Lw
open PySem L2 L3
section
variable{P:Ξ}{w:Ω}{K:ι}{mg:GQ}{base:Ψ}{tk:Nat->Tok}
theorem kW(a:At K mg "_law_model" bm ["_law_near","_law_far","_law_keys"])(T:HN K mg tk):Df P w K mg base "_law_model" W9 1 oN:=by
 refine a.dq mR λf _ A _ s H vs Q E n h=>?_
 ·obtain⟨D,rfl,l,hk,q⟩:=h
  refine#[_,(qg (qr (Bz (au qB (qv 0) (au qB (qv 1) (au qB (qv 2) (au qB qf (au qB gl Ar)))))))),?_]
  refineλm j=>#[_,Z,_,Z,_,Z,λkd d=>#[?_,?_]]
  ·rw[qm (qo qc d)];exact qc
  refine#[ZP D kd,by unfold ZP;rw[l];rfl,by show 5<=15;decide,?_]
  rw[wU];have g:kd≠m:=(qo qc d).symm
  refine q m kd _ (λc o e=>?_) j ?_ #[qc,#[([],λ_=>0),?_,?_,?_,?_],g.symm]
  ·have nm:c≠m:=qo e j
   have i:c≠kd:=qo (by rw[qm nm];exact e) d
   rw[qm nm,qm i,qm nm];exact e
  ·rw[qm g]at d;exact d
  ·rw[qm g];exact qc
  ·rw[hk];exactλe h=>nomatch h
  ·rw[hk]
  ·rw[hk];exact Gb
theorem nD(a:At K mg "_law_word" cn ["_law_own","_law_plain_here"])(T:HN K mg tk):Df P w K mg base "_law_word" X2 1 pF:=by
 refine a.dq HQ λf _ A _ s H vs Q E j h=>?_
 ·obtain⟨m,kd,p,D,nm,age,c,rfl,d,O,q⟩:=h
  refine#[_,(qe (q9 (qv 1) (ze Z (ql (qh (i:=2) HQ.nd Z (Or.inl Z)) (ql (qh (i:=3) HQ.nd Z (Or.inl Z)) (ql (qh (i:=4) HQ.nd Z (Or.inl Z)) qM)))))
   (qe (qw (i:=5) HQ.nd Z (Or.inl Z) (lC j (zJ j (qv 0) qB) (qv 2)))
   (qe (qK (QW.pt (Zt (qE Zi (qv 5) zd (qA _)) (QV (Qe (j8 ZM fh (qx (Ze Z) T.b_max F4 (qd (zJ j (qv 0) qB) (qd (qC qO (qv 5) qf) qb))) (qv 3) (zJ j (qv 0) qB)))))) (qg (qr qB)) qF)
   (qe (qw (i:=6) HQ.nd Z (Or.inl Z) (qu zO (qv 4) (qC qO (qv 5) qf)))
   (qe (qK (QW.pt (Zt (qE fh (qv 6) qf (qA _)) (QV (qE sj (qv 6) (zJ j (qv 0) qB) (qA _))))) (qg (qr qB)) qF)
   (qg (qr (ye (QW.pt (Zt (qE ZM (qv 6) (zJ j (qv 0) qB) (qA _)) (QV (qE (vw j) (qC qO (qv 5) qf) (qy (qd (qv 3) (qd (qu zO (qv 4) qf) qb))) (qA _))))) qB qB)))))))),?_]
  refine#[_,Z,p,_,Z,O.k,Z,_,_,Z,_,_,Z,_,_,Z,Z,?_]
  obtain⟨R,I,_⟩:=id d.kn;unfold zv at q;rcases d.kn.get nm with⟨G,g⟩|⟨e,x,G,g,v,F,N⟩
  ·rw[G]at q
   refine#[_,Z,m,_,Z,d.g_known,kd,Z,.inl #[_,.inl I],_,Z,_,g,?_]
   exact#[_,Z,Z,_,Z,zQ (Ji Z) (zx (q _ (GS.refl H)))]
  ·rw[G]at q
   simp only at q
   refine#[_,Z,m,_,Z,d.g_known,kd,Z,.inl #[_,.inl I],_,Z,_,g,?_]
   refine#[_,Z,Z,_,Z,qV (λy=>nomatch (Jx y)) (λ_=>?_)]
   refine#[_,Z,m,_,Z,d.g_closed,_,Z,x,_,_,_,Z,Z,G9.of F,Z,_,_,Z,_,Z,_,_,Z,Z,_,Z,?_]
   have J:qR D e age=(decide ((if D.least<e.age then e.age else D.least)<=age)&&decide (age<(D.kss.length:Int))):=by
    have M:((if D.least<e.age then e.age else D.least)<=age)↔(D.least<=age/\e.age<=age):=by split<;>omega
    unfold qR ZU;rw[show decide ((if D.least<e.age then e.age else D.least)<=age)=(decide (D.least<=age)&&decide (e.age<=age))from by rw[<- Bool.decide_and];exact decide_eq_decide.mpr M]
    cases decide (D.least<=age)<;>cases decide (e.age<=age)<;>cases decide (age<(D.kss.length:Int))<;>rfl
   rw[J]at q
   by_cases h1:(if D.least<e.age then e.age else D.least)<=age
   case neg=>
    rw[Jo h1,EW,Jb (by intro z;cases z)]at q
    exact Qc (Jo h1) #[_,Z,zx (q _ (GS.refl H))]
   rw[Ji h1,E6]at q;refine zQ (Ji h1) ?_
   refine#[_,Z,m,_,Z,d.g_keys,_,_,Z,Z,_,Z,?_]
   by_cases C:age<(D.kss.length:Int)
   case neg=>
    rw[Jo C,Jb (by intro z;cases z)]at q
    rw[Jo C];exact zx (q _ (GS.refl H))
   rw[Ji C,Jc Z]at q;rw[Ji C];refine zw ?_
   refine#[_,Z,_,Z,x,_,_,_,Z,Z,G9.of F,Z,_,_,Z,Z,?_]
   refine#[_,Z,_,_,Z,Z,_,Z,?_]
   by_cases n:c-e.last<1
   ·rw[Jc (.inl n)]at q
    exact zQ (Ji n) (zx (q _ (GS.refl H)))
   refine Qc (Jo n) ?_
   refine#[_,Z,_,Z,m,_,Z,d.g_far,_,_,Z,Z,_,Z,?_]
   by_cases B:c-e.last>D.far
   ·rw[Jc (.inr B)]at q
    exact zQ (Ji B) (q _ (GS.refl H))
   refine Qc (Jo B) ?_
   rw[Jb (show¬(c-e.last<1\/c-e.last>D.far)fromλz=>z.elim n B)]at q
   refine#[_,Z,_,Z,m,_,Z,d.g_near,_,_,Z,Z,_,Z,?_]
   by_cases l:c-e.last<=D.near
   ·rw[Jc (.inl l)]at q
    exact zQ (Ji l) (zx (q _ (GS.refl H)))
   refine Qc (Jo l) ?_
   refine#[_,Z,x,_,_,_,Z,Z,G9.of F,Z,_,Z,_,Z,_,_,Z,Z,GJ,λt L=>?_]
   have u:=GS.upd (o:= .tup [.int age,.int (c-1)]) L
   refine#[e.wt,t,age,c-1,N.same u,Z,.inl qc,_,Z,?_]
   by_cases r:e.wt=↑(age,c-1)
   ·rw[Jc (.inr r)]at q
    exact zQ (Ji r) (q _ u)
   ·rw[Jb (λz=>z.elim l r)]at q
    exact Qc (Jo r) (q _ u)
theorem nW(a:At K mg "_law_hear" bO ["_law_own","_law_plain_here"])(T:HN K mg tk)(xW:Df P w K mg base "_law_word" X2 1 pF):Df P w K mg base "_law_hear" X2 2 ft:=by
 refine a.dq Ij λf _ A _ s H vs Q E F h=>?_
 ·obtain⟨m,kd,p,D,nm,age,c,rfl,md,hp,ok,nf,q⟩:=h
  refine#[_,(qe (q9 (qy (qd (qp xW F.mo (qd (qv 0) (qd (qv 1) qb))) (qd (qv 1) qb))) (ze Z (ql (qh (i:=2) Ij.nd Z (Or.inl Z)) (ql (ze Z (ql (qh (i:=3) Ij.nd Z (Or.inl Z)) (ql (qh (i:=4) Ij.nd Z (Or.inl Z)) (ql (qh (i:=5) Ij.nd Z (Or.inl Z)) qM)))) qM))))
   (qe (qK (qE zE (qv 2) qB (qA _)) (qg (Qw F (zJ F (qv 0) qB) (qv 3) (qy (qd (qv 4) (qd (qv 5) (qd zd qb)))))) qF)
   (qe (qK (qE zE (qv 2) qB (qA _)) (qg (Qw F (zJ F (qv 0) qB) (qv 3) (qu Z9 (Qh fk (zJ F (zJ F (qv 0) qB) (qv 3)) QF (QJ qf)) (qy (qd (qy (qd (qv 4) (qd (qv 5) qb))) qb))))) qF)
   (qg (qr (zR zE (qv 2) qB (qA _))))))),?_]
  refine#[_,Z,_,Z,m,kd,p,D,nm,age,c,Z,md,hp,λH1 s1=>#[_,Z,GJ,λt ht=>?_]]
  have u:=GS.upd (o:= .tup [.str (zv D nm age c),.ref p]) ht
  have L:=s1.trans u;have d:=md.same L;have O:=hp.same L;refine#[t,_,Z,.tup qc,Z,_,_,Z,_,_,Z,p,_,Z,O.k,Z,_,_,Z,_,_,Z,_,_,Z,Z,Z,?_]
  have j:=si (age:=age) (c:=c) (nm:=nm) ok.nd nf
  generalize GW H1 t (.tup [.str (zv D nm age c),.ref p])=H2 at *
  refine#[_,Z,Z,_,Z,?_]
  obtain⟨f0,hd,_⟩:=id d.kn
  by_cases h1:zv D nm age c="open"
  ·refine zQ (Ji (by rw[h1])) ?_
   cases G:D.kn.lookup nm with
   |none=>unfold zv at h1;rw[G]at h1;exact absurd h1 (show¬(("":Str)="open") by decide)
   |some e=>
   rw[G]at j;simp only at j
   rw[Jc h1]at j;refine#[_,Z,_,Z,GK,λt3 U=>?_]
   have u3:=GS.upd (o:= .tup [.int age,.int c,.non]) U
   have C:=d.same u3;obtain⟨H4,R,m4,N⟩:=C.kn.put nm (a:=t3) (e:=#[age,c,none]) (by have:=ok.nl;omega) #[.non,qc,Z]
   refine#[_,Z,m,_,Z,C.g_known,_,Z,kd,H4,Z,R,?_]
   have M:=C.putK m4 N;refine#[_,Z,Z,_,Z,Qc (Jo (by rw[h1];intro z;injection z with z;exact absurd z ⋯)) ?_]
   refine#[_,Z,Z,?_]
   rw[<- j]at M
   have:=q H4 ((L.trans u3).mv.trans (m4.mono λc h z=>h (by rw[Jh.mp z];simp))) M
   rw[Ji (show V.str (zv D nm age c)=V.str "open" by rw[h1])]
   rw[Ji h1]at this;exact this
  ·refine Qc (Jo (by intro z;injection z with z;exact h1 z)) ?_
   refine#[_,Z,Z,_,Z,?_]
   have J:∀H',Mv [m,kd] H H'->Ht H' m kd {D with kn:=Hj D nm age c}->Q (.bl (decide (V.str (zv D nm age c)=V.str "open"))) H':=λH' m' d'=>by
    have:=q H' m' d'
    rw[Jo h1]at this;rw[Jo (show¬V.str (zv D nm age c)=V.str "open" by intro z;injection z with z;exact h1 z)]
    exact this
   by_cases l:zv D nm age c="wait"
   ·refine zQ (Ji (by rw[l])) ?_
    rcases d.kn.get nm with⟨G,g⟩|⟨e,x,G,g,v,hx,hw⟩
    ·unfold zv at l;rw[G]at l;exact absurd l (show¬(("":Str)="wait") by decide)
    rw[G]at j;simp only at j
    rw[Jb h1,Jc l]at j;refine#[_,Z,m,_,Z,d.g_known,_,Z,kd,_,Z,g,_,Z,x,_,Z,hx,λy H3 s3 W _=>?_]
    have W:H3 y=↑(.tup [.int e.age,.int e.last]):=W
    refine#[_,Z,_,Z,GJ,λn S=>#[GI,λt5 X=>?_]]
    have u4:=GS.upd (o:= .tup [.int age,.int c]) S
    have Y:=GS.upd (o:= .tup [.ref n]) X
    have e4:(GW (GW H3 n (.tup [.int age,.int c])) t5 (.tup [.ref n])) n=↑(.tup [.int age,.int c]):=Y _ _ qc
    refine#[y,t5,_,_,Z,Z,Y _ _ (u4 _ _ W),qc,GK,λt6 H6 s6 B=>?_]
    have B:H6 t6=↑(.tup [.int e.age,.int e.last,.ref n]):=B
    have S6:=((s3.trans u4).trans Y).trans s6;have r:=d.same S6;obtain⟨H7,R,m7,a0⟩:=r.kn.put nm (a:=t6) (e:=#[e.age,e.last,↑(age,c)]) (by have:=ok.nl;omega) #[.ref n,B,n,Z,s6 _ _ e4]
    refine#[_,Z,m,_,Z,r.g_known,_,Z,kd,H7,Z,R,?_]
    have I:=r.putK m7 a0;rw[<- j]at I
    exact#[_,Z,Z,J H7 ((L.trans S6).mv.trans (m7.mono λc h z=>h (by rw[Jh.mp z];simp))) I]
   ·refine Qc (Jo (by intro z;injection z with z;exact l z)) ?_
    refine#[_,Z,Z,J H2 L.mv ?_]
    have:Hj D nm age c=D.kn:=by
     rw[j];cases D.kn.lookup nm with
     |none=>rfl
     |some e=>simp only;rw[Jb h1,Jb l]
    rw[this];exact d
theorem kF(h:Df P w K mg base "_law_hear" X2 2 ft):Df P w K mg base "_law_hear" X2 2 iw:=h.weak λvs H Q E h=>Ak h
theorem mQ(a:At K mg "_law_press" aV ["_law_code","_law_plain_here","_law_deed"])(T:HN K mg tk)(v:Df P w K mg base "press_of" W7 3 (oB K)):Df P w K mg base "_law_press" X6 4 gm:=by
 refine a.dq Ir λf _ A _ s H vs Q E M h=>?_
 ·obtain⟨cd,tb,kt,p,t,kss,nm,age,c,d,rfl,e,o,G,n,B,F,m,I,r,q⟩:=h
  refine#[_,(qe (q9 (qv 1) (ze Z (ql (qh (i:=3) Ir.nd Z (Or.inl Z)) (ql (qh (i:=4) Ir.nd Z (Or.inl Z)) (ql (qh (i:=5) Ir.nd Z (Or.inl Z)) qM)))))
   (qg (qr (qp v M.mo (qd (qC qO (qv 0) qf) (qd (qC qO (qC qO (qv 0) qf) (qv 4)) (qd (qv 3) (qd (qv 4) (qd (qv 5) (qd (qv 2) qb)))))))))),?_]
  refine#[_,Z,p,_,Z,.tup o,Z,_,_,Z,_,_,Z,_,_,Z,Z,?_]
  obtain⟨N,J,C,l⟩:=id e.ks;obtain⟨y,j,g⟩:=C2 (D:=#[t,kss,0,0,0,0,[]]) C l B F
  refine#[_,Z,cd,_,_,_,Z,Z,G9.of e.e,Z,_,Z,cd,_,_,_,Z,Z,G9.of e.e,Z,_,Z,kt,_,_,_,Z,Z,J.up,j,_,Z,_,Z,_,Z,_,Z,tb,y,nm,age,c,d,t,_,Z,.inr (.inl e.tb),.inr g.up,n,by rw[G.length_eq];rfl,m,I,r,λx L H1 u h1 z=>q x H1 u #[L,h1,z]]
theorem jO(a:At K mg "_law_copied" aJ ["_law_own"])(T:HN K mg tk):Df P w K mg base "_law_copied" ["_law_own"] 1 mM:=by
 refine a.dq IU λf _ A _ s H vs Q E G h=>?_
 ·obtain⟨m,kd,D,rfl,B,q⟩:=h
  refine#[_,(qe (qw (i:=1) IU.nd Z (Or.inl Z) (qH gV T.b_dict PyProof.Rows.boot_dict (qd (qv 0) qb)))
   (qe (Qw G (qv 1) qB (qH gV T.b_dict PyProof.Rows.boot_dict (qd (zJ G (qv 0) qB) qb)))
   (qg (qr (qv 1))))),?_]
  refine#[_,Z,m,_,Z,B.di,λj g=>?_]
  have t:=GS.upd (o:= .dK (ZP D kd)) g
  have l:=B.same t;obtain⟨x,J,y,v,u⟩:=id l.kn;refine#[_,Z,m,_,Z,l.g_known,kd,_,Z,J,λp d=>?_]
  have r:=GS.upd (o:= .dK (eB x.1 x.2)) d
  have C:=r _ _ (qc (H:=H) (a:=j) (o:= .dK (ZP D kd)))
  have n:p≠j:=(qo (qc (H:=H) (a:=j) (o:= .dK (ZP D kd))) d).symm
  refine#[_,Z,j,_,Z,Lq.k (k:=Sum.inr "known") C (sL _ (by show 5<=100;decide)),#[_,Z,?_]]
  refine q j p _ (λc o F=>?_) g (QR d t) #[by rw[qc,uE],#[x,?_,λe I=>?_,v,u],n.symm]
  ·rw[qm (qo F g)];exact r _ _ (t _ _ F)
  ·rw[qm n];exact qc
  ·have z:=y e I
   exact(z.same r).mv (S:=[j]) Mv.upd1 (NT.one C trivial)
end
section
variable{P:Ξ}{w:Ω}{K:ι}{mg:GQ}{base:Ψ}{tk:Nat->Tok}{C:Δ}
theorem kN(a:At K mg "_law_heard" bj ["_law_code","_law_pair_here","_law_plain_here","_law_places"])(T:HN K mg tk)(U:Iz K C)(xS:Mf P w K mg base C "hear" V3 6 (oz K C))(dP:Df P w K mg base "_law_press" X6 4 gm)(dI:Df P w K mg base "_law_hear" X2 2 iw):Df P w K mg base "_law_heard" X8 7 (kh K C):=by
 refine a.dq Ld λf _ A _ s H vs Q E hr h=>?_
 ·obtain⟨cd,tb,kt,pl,p,ps,b,c,H0,t,kss,xs,nm,age,n,l,ba,rfl,pw,lx,hc,hn,a0,a1,n0,n1,hp,a2,X,a3,hx,q⟩:=h
  refine#[_,(qg (zn JQ Z (Zv (qv 3)) (qh (i:=4) Ld.nd Z (Or.inl Z))
   (qe (zm (zg xS U.cl hr.mo (qC qO (qC qG (qv 1) (qv 4)) qf) (qd (qp dP hr.mo (qd (qv 0) (qd (qv 2) (qd qf qb)))) qb)))
   (qg (zm (qp dI hr.mo (qd (qC qO (qC qG (qv 1) (qv 4)) qf) (qd (qv 2) qb)))))))),?_]
  refine#[_,Z,ps,Z,#[_,.inl a2],?_]
  have S:l.length<=2:=by
   match l,X,a3 with
   | [],_,_=>exact Jy _
   | [_],_,_=>exact(by decide:1<=2)
   | [_,_],_,_=>exact Jf 2
   |x::y::z::r,nd,h=>
    have h1:=h x (by simp)
    have h2:=h y (by simp)
    have h3:=h z (by simp)
    simp only[Fg,Jm,not_or]at nd;lia
  refine hW (K:=K) (a:=ps) (xs:=l.map λi:Nat=>V.int (i:Int)) (λj σ Hx=>∃e,Pw K C H0 Hx b c pl e/\Io Hx cd tb kt t kss/\Hx p=↑(.tup [.str nm,.int age,.int n])/\Rd Hx ps (.tup (l.map λi:Nat=>V.int (i:Int)))/\Ll (λi D=>if i∈l.take j then{D with kn:=Hj D nm age n}else D) j xs e/\∃o4,σ=[↑(.ref cd),↑(.ref pl),↑(.ref p),↑(.ref ps),o4]) #[xs,pw,hc,hp,a2,(Ll.refl xs).ext (λi x hi=>by simp),_,Z] (λj σ Hx _ h=>let⟨_,_,_,_,r,_⟩:=h;.inl r) ?_ ?_
  ·rintro j z σ Hx R ⟨e,o,u,v,B,st,o4,rfl⟩
   rw[Jn]at R;cases ei:l[j]? with
   |none=>rw[ei]at R;cases R
   |some i=>
   rw[ei]at R;cases R;have N:=JP ei;have hi:=a3 i N;have hj:j<l.length:=(Js.mp ei).1
   have b0:i<xs.length:=by rw[lx];exact hi
   have ex:=Jg b0;obtain⟨x,rx⟩:∃x,x=xs[i]:=#[_,Z]
   rw[<- rx]at ex;have nin:i∉l.take j:=λz=>by
    obtain⟨k,hk,ek⟩:=List.mem_iff_getElem.mp z;rw[List.getElem_take]at ek;rw[EX]at hk
    exact(List.pairwise_iff_getElem.mp X) k j (by lia) hj (by lia) (ek.trans (Js.mp ei).2.symm)
   obtain⟨W,g,ll⟩:=st.2 i x ex;have g:e[i]? =↑(x.1,x.2.1,W):=by rw[g];show ↑(x.1,(if i∈l.take j then _ else x.2.1),W)=_;rw[Jb nin]
   obtain⟨M,b5⟩:=hx i x ex;have tp:t.Perm HW:=M.t▸M.ok.tp
   have en:=o.en i _ g;simp only at en
   have Y:zY (e.map λx=>V.ref x.1.e) (i:Int)=↑(.ref x.1.e):=o.at (x:=(x.1,x.2.1,W)) g
   refine#[_,Z,_,Z,pl,_,_,_,Z,Z,G0.of o.pe,Y,x.1.e,_,_,_,Z,Z,G9.of en.tu,Z,x.1.a.p,Z,en.dl.dr.no,_,Z,_,Z,cd,tb,kt,p,t,kss,nm,age,n,3,Z,u,v,tp,hn,a0,a1,n0,n1,#[⋯,⋯],λpr H2 L a5=>?_]
   have F:=o.same L;have G:=en.same L;have a6:=ef (kss:=kss) (age:=age) tp hn n0 n1 (d:=3) #[⋯,⋯]
   refine#[x.1.a,x.2.1,W,.ref pr,↑(Qm t kss nm age n 3),Z,G.dl,by lia,M.ok,#[pr,Z,a5,a6],(λz=>by cases z),λPP hP b4 q' H3 b3 m3 _ _ d3=>?_]
   cases hP;rw[km M n0 n1 #[⋯,⋯],vm]at d3
   have O:=uo m3;have J:=G.door O d3;have I:Mv (eS x.1) H2 H3:=ig O
   have a4:=F.np i _ g;have b1:H3 pl=↑(.lst (e.map λx=> .ref x.1.e)):=I _ _ a4 F.pe
   have N2:NT (eS x.1) H2:=G.nt
   have a8:=I.tup N2 (L _ _ v);refine#[_,Z,_,Z,pl,_,_,_,Z,Z,G0.of b1,Y,x.1.e,_,_,_,Z,Z,G9.of J.tu,Z,_,Z,x.1.m,x.1.kd,p,x.2.1,nm,age,n,Z,J.md,a8,M.ok,M.f0,λH4 m4 b2=>?_]
   have a7:=J.model m4 b2;have m:Mv (eS x.1) H2 H4:=I.trans (iO m4)
   refine#[_,F.step g m a7,(u.same L).mv m N2,m.tup N2 (L _ _ v),m.rd N2 (Rd.same L B),?_,_,Z]
   refine Ll.set (x:=x) st ex (by show _=↑(x.1,(if i∈l.take j then _ else x.2.1),W);rw[Jb nin];exact g) (by simp) ?_ (λk hk=>?_)
   ·show(if i∈l.take (j+1)then _ else _)=_
    rw[Jc (by rw[J9,ei];simp)]
   ·funext D
    have:k∈l.take (j+1)↔k∈l.take j:=by rw[J9,ei];simp;exactλz=>absurd z hk
    by_cases z:k∈l.take j
    ·rw[Jc z,Jc (this.mpr z)]
    ·rw[Jb z,Jb (λw=>z (this.mp w))]
  ·rintro σ Hx ⟨e,o,u,v,B,st,o4,rfl⟩
   refine q Hx e o u ?_
   rw[Je,E5]at st;exact st.mono S
theorem ii(a:At K mg "_law_learnt" aH ["_law_code","_law_pair_here","_law_name","_law_told"])(T:HN K mg tk)(U:Iz K C)(xM:Mf P w K mg base C "learn" ["self","one","other"] 7 (jb K C))(dP:Df P w K mg base "_law_press" X6 4 gm):Df P w K mg base "_law_learnt" W3 8 (jp K C):=by
  refine a.dq HM λf _ A _ s H vs Q E hr h=>?_
  · obtain⟨cd,tb,kt,pl,tl,b,c,H0,t,kss,xs,nm,I,rfl,pw,lx,hc,hn,ho,lo,f4,hx,d5,q⟩:=h
    refine#[_,(qg (zn JQ Z (zC Z T.b_range (qd qf qb)) (qh (i:=4) HM.nd Z (Or.inl Z))
      (qg (qK (qE Z7 (qC qG (qv 3) (qv 4)) zd (qA _)) (qe (q9 (qC qG (qv 3) (qv 4)) (ze Z (ql (qh (i:=5) HM.nd Z (Or.inr Z)) (ql (qh (i:=6) HM.nd Z (Or.inl Z)) qM))))
      (qe (Z8 (i:=7) HM.nd Z (Or.inl Z) (own:=["_law_count"]) (fr:=["_law_name","_law_code","_law_age"]) (js:=[2,0,5]) Z (Zv (qy (qd (qu zO (qv 6) qf) (qd (qv 6) qb)))) Z (Et Z Z Z) Z (EE Z nofun nofun nofun Z Z Z Z Z Z Z Z Z) (λ_ _ _ _=>qh (i:=0) (show List.Nodup (["_law_count","_law_name","_law_code","_law_age"]:Α)from by decide +kernel) Z (Or.inl Z) (.inr Z)) (λ_ _ _ _=>(qp dP hr.mo (qd (qv 2) (qd (qy (qd (qv 1) (qd (qv 3) (qd (qv 0) qb)))) (qd qf qb))))))
      (qe (zm (zg xM U.cl hr.mo (qC qO (qC qG (qv 1) (qv 4)) qf) (qd (qC qG (qv 7) qf) (qd (qC qG (qv 7) qf) qb))))
      (qg (Qw hr (zJ hr (qC qO (qC qG (qv 1) (qv 4)) qf) qB) (qv 2) (qy (qd (qv 5) (qd (qv 6) (qd zd qb))))))))) qF)))),?_]
    refine#[_,Z,⋯,⋯,?_]
    refine Qf (n:=2) (Pv:=λj σ Hx=>∃r,Pw K C H0 Hx b c pl r/\Io Hx cd tb kt t kss/\Lg Hx tl I/\(∀c ys,H c=↑(.tup ys)->Hx c=↑(.tup ys))/\Ll (λi D=>if i<j then cX nm D (I.getD i none)else D) j xs r/\∃o4 o5 o6 o7,σ=[↑(.ref cd),↑(.ref pl),↑(.str nm),↑(.ref tl),o4,o5,o6,o7]) #[xs,pw,hc,ho,(λ_ _ h=>h),(Ll.refl xs).ext (λi x hi=>by simp),_,_,_,_,Z] ?_ ?_
    · rintro j σ Hx hj ⟨r,L,S,X,W,st,o4,o5,o6,o7,rfl⟩
      have e8:j<xs.length:=by rw[lx];exact hj
      have ex:=Jg e8;obtain⟨x,rx⟩:∃x,x=xs[j]:=#[_,Z]
      rw[<- rx]at ex;obtain⟨L1,u,ll⟩:=st.2 j x ex;simp only[EU,JD]at u;obtain⟨dp,l0,d4,g1,g3⟩:=hx j x ex;have en:=L.en j _ u;simp only at en
      obtain⟨vs,b5,f0,d0⟩:=id X;have hv:j<vs.length:=by rw[f0,lo];exact hj
      have a5:j<I.length:=by rw[lo];exact hj
      have b2:zY vs (0+(j:Int))=some vs[j]:=by rw[Int.zero_add];exact Qp (Jg hv)
      have F:=d0 j vs[j] I[j] (Jg hv) (Jg a5);have a6:I.getD j none=I[j]:=by rw[Jz,Jg a5];rfl
      have a7:∀{f:Nat->Dr->Dr} {Y:μ},Ll f (j+1) xs Y->f j x.2.1=cX nm x.2.1 I[j]->(∀i,i≠j->f i=λD=>if i<j then cX nm D (I.getD i none)else D)->Ll (λi D=>if i<j+1 then cX nm D (I.getD i none)else D) (j+1) xs Y:=λh e1 e2=>h.ext λi y hi=>by
        by_cases z:i=j
        · subst z
          rw[ex]at hi;cases hi
          rw[e1,Jc (by lia),a6]
        · rw[e2 i z]
          simp only
          by_cases w:i<j
          · rw[Jc w,Jc (by lia)]
          · rw[Jb w,Jb (by lia)]
      refine#[_,Z,_,Z,tl,vs,_,_,Z,Z,G0.of b5,b2,Z,_,Z,?_]
      cases eo:I[j]with
      | none=>
        rw[eo]at F;have F:vs[j]= .non:=F
        refine Qc (by rw[F];rfl) #[r,L,S,X,W,?_,_,_,_,_,Z]
        exact a7 (st.mono (by lia)) (by rw[eo];simp [cX]) (λi hi=>rfl)
      |some al=>
      obtain⟨B,l⟩:=al;rw[eo]at F;obtain⟨tt,a8,d8⟩:=F;obtain⟨a0,a1,g2,g4⟩:=d5 B l (eo▸Fi a5)
      refine zQ (by rw[a8];rfl) ?_
      refine#[_,Z,_,Z,tl,vs,_,_,Z,Z,G0.of b5,b2,tt,_,a8,.tup d8,Z,_,_,Z,_,_,Z,Z,?_]
      refine#[_,Z,_,_,Z,Z,_,Z,GJ,λtq d6=>#[tq,Z,#[_,G9.of qc],?_]]
      have uq:=GS.upd (o:= .tup [.int (l-1),.int l]) d6
      have b6:=S.same uq;have e6:(GW Hx tq (.tup [.int (l-1),.int l])) tq=↑(.tup [.int (l-1),.int l]):=qc
      have c4:=L.same uq;have c2:=X.same uq;generalize GW Hx tq (.tup [.int (l-1),.int l])=Hq at *
      refine Q9 (K:=K) (a:=tq) (xs:=[.int (l-1),.int l]) (GJ) (λi ys Hy=>GS Hq Hy/\∃M:Η,ys=M.map V.ref/\M.length=i/\∀(k:Nat) (p:Δ),M[k]? =↑p->IW Hy p (Qm t kss nm B (l-1+(k:Int)) 0)) #[GS.refl _,[],Z,Z,λk p h=>by cases h] (λi ys Hy h=>G9.of (h.1 _ _ e6)) ?_ ?_
      · rintro i ys Hy z hz e7 ⟨sy,M,rfl,a3,R⟩
        have f9:i<2:=(Js.mp hz).1
        have ez:z= .int (l-1+(i:Int)):=by
          match i,f9,hz with
          |0,_,hz=>cases hz;show V.int (l-1)=V.int (l-1+0);rw[Int.add_zero]
          |1,_,hz=>cases hz;show V.int l=V.int (l-1+1);rw[Int.sub_add_cancel]
        subst ez;refine#[_,Z,_,Z,_,Z,_,Z,GK,λp hp=>?_]
        have up:=GS.upd (o:= .tup [.str nm,.int B,.int (l-1+(i:Int))]) hp
        refine#[cd,tb,kt,p,t,kss,nm,B,l-1+(i:Int),0,Z,(b6.same sy).same up,qc,(dp.t▸dp.ok.tp),hn,a0,a1,by lia,by lia,#[⋯,⋯],λpr Hz sz d9=>#[(sy.trans up).trans sz,M++[pr],by simp,by simp [a3],λk p' hk=>?_]]
        by_cases b7:k<M.length
        · rw[JT b7]at hk
          exact HU.same (up.trans sz) (R k p' hk)
        · rw[JY (by lia)]at hk
          cases ek:k-M.length with
          | zero => rw[ek]at hk;cases hk;obtain rfl:k=i:=by lia
                    exact d9
          |succ m=>rw[ek]at hk;cases hk
      rintro ys Hy e7 ⟨sy,M,rfl,a3,R⟩ J b8
      obtain⟨O,N,rfl⟩:∃O N,M=[O,N]:=by
        match M,a3 with
        | [O,N],_=>exact#[O,N,Z]
      have ur:=GS.upd (o:= .lst (([O,N]:Η).map V.ref)) b8
      have Sr:=sy.trans ur;have a2:(GW Hy J (.lst (([O,N]:Η).map V.ref))) J=↑(.lst [.ref O,.ref N]):=qc
      have b4:=HU.same ur (R 0 O Z);have d2:=HU.same ur (R 1 N Z);have G:=c4.same Sr;have c3:=c2.same Sr;have f1:=b6.same Sr;generalize GW Hy J (.lst (([O,N]:Η).map V.ref))=Hr at *
      have er:=G.en j _ u;simp only at er
      have b1:zY (r.map λx=>V.ref x.1.e) (0+(j:Int))=↑(.ref x.1.e):=by rw[Int.zero_add];exact G.at (x:=(x.1,x.2.1,L1)) u
      refine#[_,Z,_,Z,pl,_,_,_,Z,Z,G0.of G.pe,b1,x.1.e,_,_,_,Z,Z,G9.of er.tu,Z,x.1.a.p,Z,er.dl.dr.no,_,Z,J,_,_,_,Z,Z,G0.of a2,Z,_,Z,J,_,_,_,Z,Z,G0.of a2,Z,?_]
      have g5:l-1+((1:Nat):Int)=l-1+1:=Z
      have e9:l-1+((0:Nat):Int)=l-1:=Int.add_zero _
      rw[e9]at b4;have f3:=gI (nm:=nm) (d:=0) dp (l0 B l (a6.trans eo)) a1 (show 0<=l-1 by lia) (by lia) #[⋯,⋯]
      have e5:=gI (nm:=nm) (c:=l-1+1) (d:=0) dp (l0 B l (a6.trans eo)) a1 (by lia) (by lia) #[⋯,⋯]
      have tp:t.Perm HW:=dp.t▸dp.ok.tp
      refine#[x.1.a,x.2.1,L1,O,N,Qm t kss nm B (l-1) 0,Qm t kss nm B (l-1+1) 0,l-1,0,0,Z,er.dl,by lia,dp.ok,b4,d2,ef tp hn (by lia) (by lia) #[⋯,⋯],ef tp hn (by lia) (by lia) #[⋯,⋯],f3,e5,Z,Z,d4,dp.rm,λHs ms ds=>?_]
      have b3:=uo ms;have es:=er.door b3 ds;have c0:Mv (eS x.1) Hr Hs:=ig b3
      have d3:=G.np j _ u;have g0:Hs pl=↑(.lst (r.map λx=> .ref x.1.e)):=c0 _ _ d3 G.pe
      have Nr:NT (eS x.1) Hr:=er.nt
      refine#[_,Z,_,Z,GK,λt3 d7=>?_]
      have u3:=GS.upd (o:= .tup [.int B,.int l,.non]) d7
      have e3:=es.same u3;have a4:=e3.md;obtain⟨H4,d1,m4,e0⟩:=a4.kn.put nm (a:=t3) (e:=#[B,l,none]) (by lia) #[.non,qc,Z]
      refine#[_,Z,_,Z,pl,_,_,_,Z,Z,G0.of (u3 _ _ g0),b1,x.1.e,_,_,_,Z,Z,G9.of e3.tu,Z,x.1.m,_,Z,a4.g_known,_,Z,x.1.kd,H4,Z,d1,?_]
      have f2:=a4.putK m4 e0;have b0:Mv [x.1.m,x.1.kd] _ H4:=m4.mono (λc h z=>h (by rw[Jh.mp z];simp))
      have e4:=e3.model b0 f2;have v:Mv (eS x.1) Hr H4:=(c0.trans u3.mv).trans (iO b0)
      have c1:l-1+1=l:=by lia
      rw[c1]at e4;have f5:Lj K C H4 x.1 {x.2.1 with kn:=zc x.2.1.kn nm #[B,l,none]} (L1++[.learn (Qm t kss nm B (l-1) 0) (Qm t kss nm B l 0)]) {x.2.1 with kn:=zc x.2.1.kn nm #[B,l,none]}:=e4
      refine#[_,G.step u v f5,f1.mv v Nr,c3.mv v Nr (f4 j x ex),(λc ys h=>v.tup Nr (Sr _ _ (uq _ _ (W c ys h)))),?_,_,_,_,_,Z]
      exact a7 (Ll.set (x:=x) (g:=λi D=>if i=j then cX nm D I[j]else if i<j then cX nm D (I.getD i none)else D) st ex (by simp only[EU,JD];exact u) (by simp) (by simp only[Fc];rw[eo];rfl) (λi hi=>by funext D;rw[Jb hi])) (by simp) (λi hi=>by funext D;rw[Jb hi])
    · rintro σ Hx ⟨r,L,S,X,W,st,o4,o5,o6,o7,rfl⟩
      exact q Hx r L S (st.ext λi x hi=>by
        have:i<2:=by rw[<- lx];exact(Js.mp hi).1
        rw[Jc this]) W
end
section
variable{P:Ξ}{w:Ω}{K:ι}{mg:GQ}{base:Ψ}{tk:Nat->Tok}
theorem jQ(a:At K mg "_law_bounds" aq ["_law_box_here"])(T:HN K mg tk)(j:Df P w K mg base "_law_take" X0 1 QL):Df P w K mg base "_law_bounds" X7 2 iR:=by
 refine a.dq Ih λf _ A _ s H vs Q E e h=>?_
 ·obtain⟨b,c,rfl,hb,g,q⟩:=h
  refine#[_,(qe (qw (i:=1) Ih.nd Z (Or.inl Z) (qu qI qf (qp j e.mo (qd (qv 0) (qd qf qb)))))
   (qe (qw (i:=2) Ih.nd Z (Or.inl Z) (qu qI (qv 1) (qC qG (zo (qd qf (qd qf (qd qf (qd (qp j e.mo (qd (qv 0) (qd qf qb))) qb))))) (qp j e.mo (qd (qv 0) (qd qf qb))))))
   (qe (qw (i:=3) Ih.nd Z (Or.inl Z) (qC qG (zo (qd (qv 1) (qd (qv 1) (qd (qu qI qf (qp j e.mo (qd (qv 0) (qd qf qb)))) qb)))) (qp j e.mo (qd (qv 0) (qd qf qb)))))
   (qg (qr (zo (qd (qy (qd (qv 1) (qd (qv 2) qb))) (qd (qy (qd (qv 3) (qd (qu qI (qv 3) (qC qG (zo (qd (qu zO (qv 2) (qv 1)) (qd qf (qd qf (qd (qp j e.mo (qd (qv 0) (qd qf qb))) qb))))) (qp j e.mo (qd (qv 0) (qd qf qb))))) qb))) qb)))))))),?_]
  refine Z0 λD1 y1=>?_
  refine#[_,Z,b,4,c,Z,hb,bq 0 g,⋯,⋯,λd H1 b0 a7 g1=>#[_,_,Z,Z,y1 _ _ (Z0 λD2 y2=>?_)]]
  refine#[_,Z,_,Z,b,9,c+1,Z,g1.bx,bq 1 g,⋯,⋯,λr2 H2 a2 R g2=>#[GL,λl1 u=>?_]]
  have u2:=GS.upd (o:= .lst [.int 0,.int 1,.int 2,.int r2]) u
  have B:=(g1.trans g2).same u2;have n1:=qS g2.bx u;refine#[_,Z,b,4,c+1+1,Z,B.bx,bq 2 g,⋯,⋯,λr3 H3 a6 a5 g3=>?_]
  obtain⟨x,hx,hm⟩:=QK (xs:=[V.int 0,.int 1,.int 2,.int r2]) a6 a5
  obtain⟨z,rfl,z0,z1⟩:∃z:Int,x= .int z/\0<=z/\z<=8:=by
   simp only[Jm,JE,JF]at hm;rcases hm with rfl|rfl|rfl|rfl
   ·exact#[_,Z,⋯,⋯]
   ·exact#[_,Z,⋯,⋯]
   ·exact#[_,Z,⋯,⋯]
   ·exact#[_,Z,a2,Int.le_of_lt_add_one R]
  have v:=B.trans g3;refine#[l1,_,_,_,Z,Z,G0.of (g3.kp _ _ n1 qc),hx,_,_,Z,Z,?_]
  refine y2 _ _ (Z0 λD3 y3=>?_)
  refine#[_,Z,_,Z,_,Z,b,4,c+1+1+1,Z,v.bx,bq 3 g,⋯,⋯,λr4 H4 b1 a8 g4=>#[_,_,Z,Z,GK,λl2 I=>?_]]
  have u4:=GS.upd (o:= .lst [.int (1+d),.int (1+d),.int (1+r4)]) I
  have J:=(v.trans g4).same u4;have n2:=qS g4.bx I;refine#[_,Z,b,3,c+1+1+1+1,Z,J.bx,bq 4 g,⋯,⋯,λr5 H5 a4 a0 g5=>?_]
  obtain⟨x2,a3,M⟩:=QK (xs:=[V.int (1+d),.int (1+d),.int (1+r4)]) a4 a0
  obtain⟨o,rfl,o0,o1⟩:∃o:Int,x2= .int o/\1<=o/\o<=4:=by
   simp only[Jm,JE,JF]at M;rcases M with rfl|rfl|rfl
   ·exact#[_,Z,by lia,by lia]
   ·exact#[_,Z,by lia,by lia]
   ·exact#[_,Z,by lia,by lia]
  have n:=J.trans g5;refine#[l2,_,_,_,Z,Z,G0.of (g5.kp _ _ n2 qc),a3,?_]
  refine y3 _ _ ?_
  refine#[_,Z,_,Z,GJ,λL r=>?_]
  have u6:=GS.upd (o:= .tup [.int (1+d),.int (1+d+z)]) r
  have t:=n.same u6;have C:=qS n.bx r;have N:(GW H5 L (.tup [.int (1+d),.int (1+d+z)])) L=↑(.tup [.int (1+d),.int (1+d+z)]):=qc
  generalize GW H5 L (.tup [.int (1+d),.int (1+d+z)])=H6 at *
  refine#[_,Z,_,Z,_,Z,_,Z,_,_,Z,Z,_,Z,b,9,c+1+1+1+1+1,Z,t.bx,bq 5 g,⋯,⋯,λr6 H7 Y U O=>#[GL,λl3 p=>?_]]
  have u7:=GS.upd (o:= .lst [.int (1+d+z-(1+d)),.int 0,.int 1,.int r6]) p
  have F:=(t.trans O).same u7;have n3:=qS O.bx p;refine#[_,Z,b,4,c+1+1+1+1+1+1,Z,F.bx,bq 6 g,⋯,⋯,λr7 H8 S a1 g8=>?_]
  obtain⟨x3,W,m⟩:=QK (xs:=[V.int (1+d+z-(1+d)),.int 0,.int 1,.int r6]) S a1
  obtain⟨y,rfl,y0,y1⟩:∃y:Int,x3= .int y/\0<=y/\y<=8:=by
   simp only[Jm,JE,JF]at m;rcases m with rfl|rfl|rfl|rfl
   ·exact#[_,Z,by lia,by lia]
   ·exact#[_,Z,⋯,⋯]
   ·exact#[_,Z,⋯,⋯]
   ·exact#[_,Z,Y,Int.le_of_lt_add_one U]
  have D:=F.trans g8;refine#[l3,_,_,_,Z,Z,G0.of (g8.kp _ _ n3 qc),W,_,_,Z,Z,GJ,λt2 X=>#[GJ,λl hl=>?_]]
  have v1:=GS.upd (o:= .tup [.int o,.int (o+y)]) X
  have v2:=GS.upd (o:= .lst [.ref L,.ref t2]) hl
  have G:=(D.same v1).same v2;have e1:=v2 _ _ (v1 _ _ (g8.kp _ _ C (u7 _ _ (O.kp _ _ C N))));exact q l L t2 (1+d) (1+d+z) o (o+y) _ G qc e1 (v2 _ _ qc) #[by lia,by lia,by lia,by lia] #[by lia,by lia,by lia,by lia] ((D.same v1).fresh (hb.mono (by lia)) hl)
theorem ly(a:At K mg "_law_drawn" bp ["_law_box_here"])(T:HN K mg tk)(D:Df P w K mg base "_law_take" X0 1 QL):Df P w K mg base "_law_drawn" X7 2 mU:=by
 refine a.dq Iu λf _ A _ s H vs Q E B h=>?_
 ·obtain⟨b,c,rfl,X,hc,q⟩:=h
  refine#[_,(qe (qw (i:=1) Iu.nd Z (Or.inr Z) (zo (qd qB (qd qB (qd qB (qd qB (qd qB (qd qB (qd qB (qd qB (qd qB qb)))))))))))
   (qe (qw (i:=2) Iu.nd Z (Or.inl Z) (qC qG (zo (qd (qu qI qf (qp D B.mo (qd (qv 0) (qd qf qb)))) (qd (qu qI qf (qp D B.mo (qd (qv 0) (qd qf qb)))) qb))) (qH iU T.b_int GD (qd (zR zE (qp D B.mo (qd (qv 0) (qd qf qb))) qf (qA _)) qb))))
   (qe (Z8 (i:=3) Iu.nd Z (Or.inl Z) (own:=["_law_k"]) (fr:=["_law_some","_law_box_here"]) (js:=[1,0]) Z (zC Z T.b_range (qd (qv 2) qb)) Z (wk Z Z) Z (wf Z nofun nofun nofun Z Z Z Z Z Z) (λ_ _ _ _=>qh (i:=0) (show List.Nodup (["_law_k","_law_some","_law_box_here"]:Α)from by decide +kernel) Z (Or.inl Z) (.inr Z)) (λ_ _ _ _=>(mW (K:=K) Z EZ PySem.F.slot_list_pop PySem.F.type_list_pop fT (qv 1) (qd (qp D B.mo (qd (qv 2) (qd (qx (cI (K:=K) Z) T.b_len J6 (qd (qv 1) qb)) qb))) qb))))
   (qg (qr (qy (qd (qv 3) (qd (qC qG (zo (qd qf (qd qf (qd qf (qd qf (qd qf qb)))))) (qp D B.mo (qd (qv 0) (qd qf qb)))) (qd (qC qG (zo (qd qf (qd qf (qd qf (qd qf qb))))) (qp D B.mo (qd (qv 0) (qd qf qb)))) qb))))))))),?_]
  refine Z0 λD1 y1=>?_
  refine#[GN,λl hl=>?_]
  have u1:=GS.upd (o:= .lst (Hu.map V.str)) hl
  have d:l≠b:=qS X hl
  have g1:=u1.grc X;have el:(GW H l (.lst (Hu.map V.str))) l=↑(.lst (Hu.map V.str)):=qc
  have c0:∀x,H x=none->x≠l->(GW H l (.lst (Hu.map V.str))) x=none:=λx hx n=>by rw[qm n];exact hx
  have fr:H l=none:=hl
  have sm:GS H (GW H l (.lst (Hu.map V.str))):=u1
  have a5:(GW H l (HO.lst [.str "a",.str "b",.str "ab",.str "ba",.str "aaaaaaaa",.str "aaaaaaab",.str "door",.str "gate",.str "x"]))=GW H l (.lst (Hu.map V.str)):=Z
  rw[a5];generalize GW H l (.lst (Hu.map V.str))=Ha at *
  refine y1 _ _ (Z0 λD2 y2=>?_)
  refine#[_,Z,b,3,c,Z,g1.bx,bq 0 hc,⋯,⋯,λR H1 c1 b6 g2=>#[_,_,Z,Z,?_]]
  refine#[_,Z,b,3,c+1,Z,g2.bx,bq 1 hc,⋯,⋯,λO H2 c2 b7 g3=>#[_,_,Z,Z,GJ,λl2 M=>?_]]
  have u3:=GS.upd (o:= .lst [.int (1+R),.int (7+O)]) M
  have n2:=qS g3.bx M;have L:=(((g1.trans g2).trans g3).same u3);refine#[_,Z,b,8,c+1+1,Z,L.bx,bq 2 hc,⋯,⋯,λr3 H3 c4 c3 g4=>#[Z,.inr #[_,Z,?_]]]
  have a0:H3 l=↑(.lst (Hu.map V.str)):=g4.kp _ _ d (u3 _ _ (g3.kp _ _ d (g2.kp _ _ d el)))
  have a1:H3 l2=↑(.lst [.int (1+R),.int (7+O)]):=g4.kp _ _ n2 qc
  have b2:=L.trans g4;generalize decide (V.int r3=V.int 5)=gg
  obtain⟨u,a7,m1,m9⟩:∃u:Nat,zY [V.int (1+R),.int (7+O)] (if gg=true then 1 else 0)=↑(.int (u:Int))/\1<=u/\u<=9:=by
   cases gg with
   |true=>exact#[(7+O).toNat,by rw[Int.toNat_of_nonneg (by lia)];rfl,by lia,by lia]
   |false=>exact#[(1+R).toNat,by rw[Int.toNat_of_nonneg (by lia)];rfl,by lia,by lia]
  refine#[l2,_,_,_,Z,Z,G0.of a1,a7,y2 _ _ (Z0 λD3 y3=>?_)]
  refine#[_,Z,_,Z,by lia,by lia,?_]
  rw[Fe];refine Zn (n:=u) (JG m9 ⋯) (λi ys Hx=>IQ b (c+3+i) H Hx/\∃g zs:Α,Hx l=↑(.lst (g.map V.str))/\ys=zs.map V.str/\g.length+i=9/\(zs++g).Perm Hu) #[b2,Hu,[],a0,Z,Z,.refl _] ?_ ?_
  ·rintro i ys Hx hi b5 ⟨C,g,zs,j,rfl,a8,pm⟩
   refine#[_,Z,.inl #[Z,_,G0.of j],?_]
   refine#[_,Z,_,Z,l,_,Z,.inl (G0.of j),b,_,_,Z,C.bx,by lia,by rw[Je];lia,by rw[Je];lia,λx Hy x0 x1 g5=>?_]
   rw[Je]at x1;obtain⟨k,rfl⟩:∃k:Nat,x=(k:Int):=#[x.toNat,by lia]
   have hk:k<g.length:=by lia
   have U:=g5.kp _ _ d j;refine#[l,_,_,k,.str g[k],Z,Z,U,by lia,by lia,?_,?_,?_]
   ·rw[Je];exact cS hk
   ·rw[Jn,Jg hk];rfl
   ·refine#[#[λc o F e=>?_,?_],g.eraseIdx k,zs++[g[k]],?_,by simp,?_,?_]
    ·have z:c≠l:=λz=>by rw[z,fr]at e;cases e
     rw[qm z];exact g5.kp _ _ F (C.kp _ _ F e)
    ·obtain⟨n,m,k',e,r⟩:=g5.bx
     exact#[n,m,k',by rw[qm d.symm];exact e,r]
    ·rw[qc,rX]
    ·rw[List.length_eraseIdx_of_lt hk];lia
    ·exact(ve hk).trans pm
  rintro ys Hx a4 ⟨C,g,zs,j,rfl,a8,pm⟩ p hp
  rw[Je]at a4;have nd:(zs++g).Nodup:=pm.nodup_iff.mpr nofun
  have up:=GS.upd (o:= .lst (zs.map V.str)) hp
  have G3:=C.same up;have np:=qS C.bx hp;have ep:(GW Hx p (.lst (zs.map V.str))) p=↑(.lst (zs.map V.str)):=qc
  have fp:=C.fresh (X.mono (by lia)) hp
  generalize GW Hx p (.lst (zs.map V.str))=b8 at *
  refine y3 _ _ ?_
  refine#[_,Z,GM,λl3 J=>?_]
  have u5:=GS.upd (o:= .lst [.int 1,.int 2,.int 2,.int 3,.int 8]) J
  have n3:=qS G3.bx J;have G4:=G3.same u5;refine#[_,Z,b,5,c+3+u,Z,G4.bx,by lia,⋯,⋯,λr5 H5 b4 a6 g6=>?_]
  obtain⟨x,hx,hm⟩:=QK (xs:=[V.int 1,.int 2,.int 2,.int 3,.int 8]) b4 a6
  obtain⟨v,rfl,k1,k8⟩:∃v:Nat,x= .int (v:Int)/\1<=v/\v<=8:=by
   simp only[Jm,JE,JF]at hm;rcases hm with rfl|rfl|rfl|rfl|rfl
   ·exact#[1,Z,⋯,⋯]
   ·exact#[2,Z,⋯,⋯]
   ·exact#[2,Z,⋯,⋯]
   ·exact#[3,Z,⋯,⋯]
   ·exact#[8,Z,⋯,⋯]
  have G5:=G4.trans g6;have a3:=g6.kp _ _ np (u5 _ _ ep);refine#[l3,_,_,_,Z,Z,G0.of (g6.kp _ _ n3 qc),hx,GL,λl4 I=>?_]
  have u6:=GS.upd (o:= .lst [.int 0,.int 0,.int 4076,.int 100]) I
  have n4:=qS G5.bx I;have G6:=G5.same u6;refine#[_,Z,b,4,c+3+u+1,Z,G6.bx,by lia,⋯,⋯,λr6 H6 a2 Y S=>?_]
  obtain⟨x2,b3,N⟩:=QK (xs:=[V.int 0,.int 0,.int 4076,.int 100]) a2 Y
  obtain⟨y,rfl,b0,b1⟩:∃y:Int,x2= .int y/\0<=y/\y<=4076:=by
   simp only[Jm,JE,JF]at N;rcases N with rfl|rfl|rfl|rfl
   ·exact#[_,Z,⋯,⋯]
   ·exact#[_,Z,⋯,⋯]
   ·exact#[_,Z,⋯,⋯]
   ·exact#[_,Z,⋯,⋯]
  have G7:=G6.trans S;refine#[l4,_,_,_,Z,Z,G0.of (S.kp _ _ n4 qc),b3,GK,λt ht=>?_]
  have ut:=GS.upd (o:= .tup [.ref p,.int (v:Int),.int y]) ht
  refine q t p zs v y _ ((G7.same ut).mono (by lia)) qc (ut _ _ (S.kp _ _ np (u6 _ _ a3))) fp #[(Fv.mp nd).1,λz W=>?_,by lia,by lia,k1,k8,b0,b1] (λz W=>pm.mem_iff.mp (FN _ W))
  have G:=pm.mem_iff.mp (FN _ W);simp only[Hu,Jm,JE,JF]at G;rcases G with rfl|rfl|rfl|rfl|rfl|rfl|rfl|rfl|rfl
  all_goals exact#[nofun,nofun,nofun]
end
section
variable{P:Ξ}{w:Ω}{K:ι}{mg:GQ}{base:Ψ}{tk:Nat->Tok}{C:Δ}
theorem nB(a:At K mg "_law_pair" cv ["_law_box_here","_law_drawn_here"])(T:HN K mg tk)(U:Iz K C)(yI:Mi P w K mg base C "Door" X4 1 (mT K C))(dU:Mf P w K mg base C "close_below" V1 1 (mV K C))(dA:Df P w K mg base "_law_take" X0 1 QL)(xT:Df P w K mg base "_law_table" X7 2 lD)(yG:Df P w K mg base "_law_key" X7 2 oG)(xN:Df P w K mg base "_law_bounds" X7 2 iR)(xQ:Df P w K mg base "_law_model" W9 1 oN)(yL:Df P w K mg base "_law_learnt" W3 8 (jp K C))(xU:Df P w K mg base "_law_heard" X8 7 (kh K C)):Df P w K mg base "_law_pair" X5 9 (n5 K C):=by
 refine a.dq GY λf _ A _ s H vs Q E Y h=>?_
 ·obtain⟨b,dr,nl,c,g,a8,F,rfl,hb,hc,hdr,g6,e5,ok,q⟩:=h
  have m1:=ok.m1;have m8:=ok.m8;have b0:=ok.b0;have b1:=ok.b1;refine#[_,(qe (q9 (qv 1) (ze Z (ql (qh (i:=2) GY.nd Z (Or.inl Z)) (ql (qh (i:=3) GY.nd Z (Or.inl Z)) (ql (qh (i:=4) GY.nd Z (Or.inl Z)) qM)))))
   (qe (qw (i:=5) GY.nd Z (Or.inl Z) (qy (qd (qp xT Y.mo (qd (qv 0) qb)) (qd (qH qX T.b_tuple J0 (qd (zB (own:=["_law_k"]) (fr:=["_law_box_here"]) (js:=[0]) Z (zC Z T.b_range (qd (qv 3) qb)) Z (gd Z) Z (iu Z nofun nofun nofun Z Z Z) (λ_ _ _ _=>qh (i:=0) (show List.Nodup (["_law_k","_law_box_here"]:Α)from by decide +kernel) Z (Or.inl Z) (.inr Z)) (λ_ _ _ _=>(Qh fk (qp yG Y.mo (qd (qv 1) qb)) QF (QJ qf)))) qb)) qb))))
   (qe (qw (i:=6) GY.nd Z (Or.inl Z) (zo qb))
   (qe (zn JQ Z (zN (qp xN Y.mo (qd (qv 0) qb))) (ze Z (ql (qh (i:=7) GY.nd Z (Or.inl Z)) (ql (qh (i:=8) GY.nd Z (Or.inl Z)) qM)))
   (qg (zm (QZ EZ Fx Fy zW (qv 6) (qd (qy (qd (Bc yI Y.mo (qd (qC qO (qv 5) qf) (qd (qC qO (qv 5) qf) (qd (qv 7) (qd (qv 8) (qd qf qb)))))) (qd (qp xQ Y.mo (qd (qv 7) (qd (qv 8) (qd (qv 3) qb)))) qb))) qb)))))
   (qe (zn JQ Z (zN (qv 2)) (qh (i:=9) GY.nd Z (Or.inl Z))
   (qe (qw (i:=10) GY.nd Z (Or.inl Z) (qp dA Y.mo (qd (qv 0) (qd (qv 3) qb))))
   (qe (qw (i:=11) GY.nd Z (Or.inl Z) (qx (zT Z) T.b_min PyProof.Rows.boot_min (qd qf (qd (qu qI (qu qI (qv 4) qf) (qp dA Y.mo (qd (qv 0) (qd qf qb)))) qb))))
   (qe (qw (i:=12) GY.nd Z (Or.inl Z) (qy (qd (qp dA Y.mo (qd (qv 0) (qd (qv 3) qb))) (qd (qx (zT Z) T.b_min PyProof.Rows.boot_min (qd qf (qd (qu qI (qu qI (qv 4) qf) (qp dA Y.mo (qd (qv 0) (qd qf qb)))) qb))) qb))))
   (qe (qw (i:=13) GY.nd Z (Or.inl Z) (qp dA Y.mo (qd (qv 0) (qd qf qb))))
   (qe (qw (i:=14) GY.nd Z (Or.inl Z) (zo (qd (qy (qd (qv 10) (qd (qv 11) qb))) (qd (qy (qd (qv 10) (qd (qC qO (qv 12) qf) qb))) (qd (qy (qd (qC qO (qv 12) qf) (qd (qv 11) qb))) (qd zd qb))))))
   (qe (qw (i:=15) GY.nd Z (Or.inl Z) (zo (qd (qy (qd (qv 10) (qd (qv 11) qb))) (qd (qC qG (qv 14) (qx (Ze Z) T.b_max F4 (qd qf (qd (qu zO (qv 13) qf) qb)))) qb))))
   (qe (qK (qE zE (qp dA Y.mo (qd (qv 0) (qd qf qb))) qf (qA _)) (qg (zm (Do EZ PySem.F.slot_list_reverse PySem.F.type_list_reverse pU (qv 15)))) qF)
   (qg (zm (qp yL Y.mo (qd (qv 5) (qd (qv 6) (qd (qv 9) (qd (qv 15) qb)))))))))))))))
   (qe (zn JQ Z (zC Z T.b_range (qd (qp dA Y.mo (qd (qv 0) (qd qf qb))) qb)) (qh (i:=16) GY.nd Z (Or.inl Z))
   (qe (qw (i:=9) GY.nd Z (Or.inl Z) (qC qG (qv 2) (qp dA Y.mo (qd (qv 0) (qd (qx qY T.b_len J6 (qd (qv 2) qb)) qb)))))
   (qe (qw (i:=10) GY.nd Z (Or.inl Z) (qp dA Y.mo (qd (qv 0) (qd (qv 3) qb))))
   (qe (qw (i:=17) GY.nd Z (Or.inl Z) (qy (qd (qv 9) (qd (qv 10) (qd (qx (zT Z) T.b_min PyProof.Rows.boot_min (qd qf (qd (qu qI (qv 4) (qp dA Y.mo (qd (qv 0) (qd qf qb)))) qb))) qb)))))
   (qg (zm (qp xU Y.mo (qd (qv 5) (qd (qv 6) (qd (qv 17) (qd (qC qG (zo (qd (qy (qd qf (qd qf qb))) (qd (qy (qd qf (qd qf qb))) (qd (qy (qd qf qb)) (qd (qy (qd qf qb)) qb))))) (qp dA Y.mo (qd (qv 0) (qd qf qb)))) qb)))))))))))
   (qe (zn JQ Z (zN (qv 6)) (ze Z (ql (qh (i:=18) GY.nd Z (Or.inl Z)) (ql (qh (i:=19) GY.nd Z (Or.inl Z)) qM)))
   (qg (qK (qE zE (qp dA Y.mo (qd (qv 0) (qd qf qb))) qf (qA _)) (qe (qw (i:=10) GY.nd Z (Or.inl Z) (qp dA Y.mo (qd (qv 0) (qd (qv 3) qb))))
   (qe (zm (zg dU U.cl Y.mo (qv 18) (qd (qv 10) qb)))
   (qg (Qw Y (qv 19) qB (qx (Ze Z) T.b_max F4 (qd (zJ Y (qv 19) qB) (qd (qv 10) qb))))))) qF)))
   (qg (qr (qy (qd (qv 5) (qd (qv 6) qb)))))))))))),?_]
  have g8:(0:Int)<(a8:Int):=by lia
  have h0:(a8:Int)<1073741824:=by lia
  refine Z0 λDa ya=>?_
  refine#[_,Z,dr,_,Z,.tup hdr,Z,_,_,Z,_,_,Z,_,_,Z,Z,ya _ _ (Z0 λDb yb=>?_)]
  refine#[_,Z,b,c,Z,hb,by lia,λtb t H1 g1 o1 u9 tp=>?_]
  refine#[_,Z,_,Z,by lia,by lia,?_]
  rw[Fe];have ntb:tb≠b:=λz=>by obtain⟨_,_,_,e,_⟩:=hb;rw[z,e]at o1;cases o1
  refine Zn (n:=a8) (JG m8 ⋯) (λi ys Hx=>IQ b (c+16+9*i) H Hx/\Hx tb=↑(.tup (t.map V.int))/\∃(as:Η) (kss:List Β),ys=as.map V.ref/\as.length=i/\kss.length=i/\∀(j:Nat) (x:Δ) (z:Β),as[j]? =↑x->kss[j]? =↑z->Hx x=↑(.tup (z.map V.int))) #[g1,u9,[],[],Z,Z,Z,λj x z e=>by cases e] ?_ ?_
  ·rintro i ys Hx hi u0 ⟨G,et,as,kss,rfl,lA,lK,e6⟩
   refine#[_,Z,b,c+16+9*i,Z,G.bx,by lia,λp ks H2 g2 fp ep dk l1 l8=>#[_,Z,p,_,Z,ep,λy H3 s3 hy _=>?_]]
   rw[cp]at hy;have kp:∀{x:Δ} {xs:Ε},Hx x=↑(.tup xs)->H3 x=↑(.tup xs):=λ{x xs} e=>s3 _ _ (g2.kp _ _ (λz=>by obtain⟨_,_,_,eb,_⟩:=G.bx;rw[z,eb]at e;cases e) e)
   refine#[((G.trans g2).same s3).mono (by lia),kp et,as++[y],kss++[aG ks none ↑3],by simp,by simp [lA],by simp [lK],λj x z e1 e2=>?_]
   by_cases hj:j<as.length
   ·rw[JT hj]at e1
    rw[JT (by lia)]at e2
    exact kp (e6 j x z e1 e2)
   ·rw[JY (by lia)]at e1
    rw[JY (by lia)]at e2
    cases ej:j-as.length with
    |zero=>rw[ej]at e1;rw[show j-kss.length=0 by lia]at e2;cases e1;cases e2;exact hy
    |succ k=>rw[ej]at e1;cases e1
  rintro ys Hx u0 ⟨G,et,as,kss,rfl,lA,lK,e6⟩ l0 q7
  obtain rfl:kss.length=a8:=lK
  refine#[l0,_,Z,.inl #[G0.of qc,λkt r8=>#[GJ,λcd m6=>?_]]]
  have u1:=GS.upd (o:= .lst (as.map V.ref)) q7
  have u2:=GS.upd (o:= .tup (as.map V.ref)) r8
  have u3:=GS.upd (o:= .tup [.ref tb,.ref kt]) m6
  have S3:=(u1.trans u2).trans u3;have hC:Io (GW (GW (GW Hx l0 (.lst (as.map V.ref))) kt (.tup (as.map V.ref))) cd (.tup [.ref tb,.ref kt])) cd tb kt t kss:=#[qc,.inl (S3 _ _ et),as,.inl (.inl (u3 _ _ qc)),lA,λj x z e1 e2=> .inl (.inl (S3 _ _ (e6 j x z e1 e2)))]
  have G3:=G.same S3;generalize GW (GW (GW Hx l0 (.lst (as.map V.ref))) kt (.tup (as.map V.ref))) cd (.tup [.ref tb,.ref kt])=H3 at *
  clear e6 et u1 u2 u3 q7 r8 m6;refine yb _ _ (Z0 λDc yc=>?_)
  refine#[GH,λpl m5=>?_]
  have u4:=GS.upd (o:= .lst []) m5
  have G4:=G3.same u4;have f3:=hC.same u4;have x0:H b≠none:=λz=>by obtain⟨_,_,_,e,_⟩:=hb;rw[z]at e;cases e
  have b6:Pw K C H (GW H3 pl (.lst [])) b (c+16+9*kss.length) pl []:=#[λc o h e=>G4.kp c o (λz=>h (Jh.mpr z)) e,G4.bx,x0,(λi x h=>by cases h),(λi j x y _ h=>by cases h),(λi x h=>by cases h),qc,(λi x h=>by cases h),G3.fresh (hb.mono (by lia)) m5]
  generalize GW H3 pl (.lst [])=H4 at *
  have hk8:kss.length<=8:=m8
  refine yc _ _ (ab (λa5 H'=>∃xs o7 o8,Pw K C H H' b (c+95) pl xs/\xs.length=2/\(∀(i:Nat) (x:En),xs[i]? =↑x->IG t kss F x.2.1/\x.2.1.least=0/\x.2.1.kn=[]/\x.2.2=[])/\Io H' cd tb kt t kss/\a5=[↑(.ref b),↑(.ref dr),↑(.ref nl),↑(.int (kss.length:Int)),↑(.int F),↑(.ref cd),↑(.ref pl),o7,o8,none,none,none,none,none,none,none,none,none,none,none]) (λD' k1 a3=>?_) ?_)
  refine#[_,Z,b,c+16+9*kss.length,Z,b6.bx,by lia,λbl bx g0 n1 f1 n2 f2 H5 g5 p3 ebx s9 x3 z7 z8=>#[bl,Z,#[_,G0.of p3],?_]]
  have d8:=(b6.grc g5);have u8:=f3.mv (S:=[b]) (λc o h e=>g5.kp c o (λz=>h (Jh.mpr z)) e) (zf b6.bx)
  have x7:bl≠pl:=qo b6.pe z8 |>.symm
  refine Qj (K:=K) (a:=bl) (xs:=[.ref bx,.ref g0]) (λj σ Hy=>∃xs,Pw K C H Hy b (c+16+9*kss.length+7) pl xs/\xs.length=j/\(∀(i:Nat) (x:En),xs[i]? =↑x->IG t kss F x.2.1/\x.2.1.least=0/\x.2.1.kn=[]/\x.2.2=[])/\Io Hy cd tb kt t kss/\Hy bl=↑(.lst [.ref bx,.ref g0])/\Hy bx=↑(.tup [.int n1,.int f1])/\Hy g0=↑(.tup [.int n2,.int f2])/\∃o7 o8,σ=[↑(.ref b),↑(.ref dr),↑(.ref nl),↑(.int (kss.length:Int)),↑(.int F),↑(.ref cd),↑(.ref pl),o7,o8,none,none,none,none,none,none,none,none,none,none,none]) #[[],d8,Z,(λi x h=>by cases h),u8,p3,ebx,s9,_,_,Z] (λj σ Hy _ h=>let⟨_,_,_,_,_,e,_⟩:=h;G0.of e) ?_ ?_
  ·rintro j z σ Hy B ⟨xs,I,O,d,J,el,ex,ey,o7,o8,rfl⟩
   obtain⟨be,n,f,rfl,z9,bd⟩:∃be n f,z= .ref be/\Hy be=↑(.tup [.int n,.int f])/\vS n f:=by
    match j,B with
    |0,B=>cases B;exact#[bx,n1,f1,Z,ex,x3]
    |1,B=>cases B;exact#[g0,n2,f2,Z,ey,z7]
   obtain⟨s7,x4,u5,s5⟩:=bd;refine#[be,_,Z,.tup z9,Z,_,_,Z,_,_,Z,Z,?_]
   refine#[_,Z,.inl #[Z,_,G0.of I.pe],?_]
   refine#[_,Z,cd,_,_,_,Z,Z,G9.of J.e,Z,_,Z,cd,_,_,_,Z,Z,G9.of J.e,Z,_,Z,_,Z,λx dx nx ndx nex=>?_]
   have sJ:GS Hy (GW (GW Hy dx (.own x)) x (.ins C dx [])):=(GS.upd ndx).trans (GS.upd (by rw[qm nex.symm];exact nx))
   refine#[x,tb,kt,dx,n,f,12,t,kss,Z,qc,.inr (.inl (Rd.same sJ J.tb)),J.ks.same sJ,m8,λta hk b8 lg H2 h1 W h3 mv dr' kr=>#[Z,?_]]
   have sK:GS Hy H2:=λc o e=>mv c o (qW (qo e nx)) (sJ c o e)
   have dl:HX K C H2 #[x,ta,hk,b8,lg] #[t,kss,n,f,12,0,[]] []:=GV.dl dr' kr
   have fz:∀z∈dS #[x,ta,hk,b8,lg],Hy z=none:=λz B=>by
    rcases BV B with rfl|rfl|rfl|rfl
    ·exact nx
    ·exact QR h1 sJ
    ·exact QR W sJ
    ·exact QR h3 sJ
   refine#[_,Z,_,Z,_,Z,#[t,kss,n,f,12,0,[]],Z,Z,Z,λm kd H6 s6 fm n7 md=>#[GJ,λe he=>?_]]
   have u7:=GS.upd (o:= .tup [.ref x,.ref m]) he
   have S7:=(sK.trans s6).trans u7;obtain⟨f0,s0,_⟩:=id dl.dr.kb;have x8:Lj K C (GW H6 e (.tup [.ref x,.ref m])) #[e,#[x,ta,hk,b8,lg],m,kd] #[t,kss,n,f,12,0,[]] [] #[t,kss,n,f,12,0,[]]:=#[qc,(dl.same s6).same u7,md.same u7,(qo s0 fm).symm,(qo s0 n7).symm]
   have fe:∀z∈eS #[e,#[x,ta,hk,b8,lg],m,kd],Hy z=none:=λz B=>by
    rcases tZ B with B|rfl|rfl
    ·exact fz z B
    ·exact QR fm sK
    ·exact QR n7 sK
   refine#[pl,_,_,Z,Z,S7 _ _ I.pe,by rw[Je,O,Ju];have:j<2:=(Js.mp B).1;lia,?_]
   have mp:Mv [pl] (GW H6 e (.tup [.ref x,.ref m])) (GW (GW H6 e (.tup [.ref x,.ref m])) pl (.lst ((xs.map λx=>V.ref x.1.e)++[.ref e]))):=Mv.upd1
   have np:NT [pl] (GW H6 e (.tup [.ref x,.ref m])):=NT.one (S7 _ _ I.pe) trivial
   refine#[xs++[(#[e,#[x,ta,hk,b8,lg],m,kd],#[t,kss,n,f,12,0,[]],[])],I.add S7 x8 fe,by simp [O],λi y hy=>?_,(J.same S7).mv mp np,by rw[qm x7];exact S7 _ _ el,mp.tup np (S7 _ _ ex),mp.tup np (S7 _ _ ey),_,_,Z]
   by_cases hi:i<xs.length
   ·rw[JT hi]at hy;exact d i y hy
   ·rw[JY (by lia)]at hy
    cases ei:i-xs.length with
    |succ k=>rw[ei]at hy;cases hy
    |zero=>
     rw[ei]at hy;cases hy
     exact#[#[#[tp,F3 _,m8,Jy _,Gb],Z,Z,m1,s7,x4,u5,s5,Z,(by show(0:Int)<(kss.length:Int);lia),(λe h=>nomatch h),(λe h=>nomatch h)],Z,Z,Z]
  ·rintro σ Hy ⟨xs,I,O,d,J,el,ex,ey,o7,o8,rfl⟩
   exact a3 _ _ #[xs,_,_,I.mono (by lia),O,d,J,Z]
  clear b6 f3 G4 G3 hC u4 m5
  rintro σ Hy ⟨xs,o7,o8,I,n3,d,J,rfl⟩
  refine ab (λa5 H'=>∃xs o9 oa ob oc od oe og,Pw K C H H' b (c+160) pl xs/\xs.length=2/\(∀(i:Nat) (x:En),xs[i]? =↑x->Le t kss F g x.2.1/\x.2.2.length<=18)/\Io H' cd tb kt t kss/\a5=[↑(.ref b),↑(.ref dr),↑(.ref nl),↑(.int (kss.length:Int)),↑(.int F),↑(.ref cd),↑(.ref pl),o7,o8,o9,oa,ob,oc,od,oe,og,none,none,none,none]) (λD' k1 a3=>?_) ?_
  refine#[_,Z,nl,Z,#[_,G0.of (I.s _ _ (qW e5) g6)],?_]
  refine Qj (K:=K) (a:=nl) (xs:=g.map V.str) (λj σ Hz=>∃xs,Pw K C H Hz b (c+95+7*j) pl xs/\xs.length=2/\(∀(i:Nat) (x:En),xs[i]? =↑x->(IG t kss F x.2.1/\x.2.1.least=0/\(∀z∈x.2.1.kn.map (·.1),z∈g.take j)/\x.2.1.kn.length<=j)/\x.2.2.length<=2*j)/\Io Hz cd tb kt t kss/\∃o9 oa ob oc od oe og,σ=[↑(.ref b),↑(.ref dr),↑(.ref nl),↑(.int (kss.length:Int)),↑(.int F),↑(.ref cd),↑(.ref pl),o7,o8,o9,oa,ob,oc,od,oe,og,none,none,none,none]) #[xs,I,n3,λi x X=>?_,J,_,_,_,_,_,_,_,Z] (λj σ Hz _ h=>let⟨_,p,_⟩:=h;G0.of (p.s _ _ (qW e5) g6)) ?_ ?_
  ·obtain⟨h1,W,h3,h4⟩:=d i x X
   rw[h3,h4]
   exact#[#[h1,W,(λz h=>nomatch h),Jf _],Jf _]
  ·rintro j z σ Hz B ⟨xs,I,O,d,a2,o9,oa,ob,oc,od,oe,og,rfl⟩
   rw[Jn]at B;cases en:g[j]? with
   |none=>rw[en]at B;cases B
   |some nm=>
   rw[en]at B;cases B;have hj:j<g.length:=(Js.mp en).1
   have j9:j<9:=JO hj ok.l9
   have d7:=ok.nm nm (JP en);have b4:c+95+7*j<100000000:=by lia
   refine Cv λD1 y1=>?_
   refine#[_,Z,_,Z,b,_,_,Z,I.bx,bq 0 b4,g8,h0,λM H1' b3 a6 f5=>y1 _ _ (Z0 λD2 y2=>?_)]
   have r3:=I.grc f5;refine#[_,Z,_,_,Z,Z,_,Z,b,9,_,Z,r3.bx,bq 1 b4,⋯,⋯,λr2 H2' r20 r21 e8=>#[_,_,Z,Z,_,_,Z,?_]]
   have o4:=r3.grc e8;obtain⟨N,q8⟩:∃N,N=(if F+1+r2<4095 then F+1+r2 else 4095):=#[_,Z]
   have k8:1<=N/\N<4096/\F<N/\N<=F+23:=by rw[q8];split<;>lia
   rw[<- q8];refine y2 _ _ (Z0 λD3 y3=>?_)
   refine#[_,Z,_,Z,b,_,_,Z,o4.bx,bq 2 b4,g8,h0,λa1 c3 o2 n4 e3=>?_]
   have r6:=o4.grc e3;refine#[_,Z,_,_,Z,Z,_,Z,b,9,_,Z,r6.bx,bq 3 b4,⋯,⋯,λr4 a0 x6 r41 f4=>#[_,_,Z,Z,_,_,Z,GJ,λt0 x2=>?_]]
   obtain⟨L,i2⟩:∃L,L=(if F+1+r4<4095 then F+1+r4 else 4095):=#[_,Z]
   have p0:1<=L/\L<4096/\F<L/\L<=F+23:=by rw[i2];split<;>lia
   rw[<- i2];have v0:=GS.upd (o:= .tup [.int a1,.int L]) x2
   have m0:=(r6.grc f4).same v0;have e0:(GW a0 t0 (.tup [.int a1,.int L])) t0=↑(.tup [.int a1,.int L]):=qc
   generalize GW a0 t0 (.tup [.int a1,.int L])=a7 at *
   refine y3 _ _ (Z0 λD4 y4=>?_)
   refine#[_,Z,b,8,_,Z,m0.bx,bq 4 b4,⋯,⋯,λwy R wy0 wy1 c2=>y4 _ _ (Z0 λD5 y5=>?_)]
   have x5:=m0.grc c2;have e0:=c2.kp _ _ (λz=>by obtain⟨_,_,_,eb,_⟩:=m0.bx;rw[z,eb]at e0;cases e0) e0
   refine#[_,Z,_,Z,GJ,λt1 k4=>?_]
   have v1:=GS.upd (o:= .tup [.int M,.int N]) k4
   refine#[_,Z,_,Z,t0,_,_,_,Z,Z,G9.of (v1 _ _ e0),Z,GJ,λt2 ht2=>?_]
   have v2:=GS.upd (o:= .tup [.int M,.int L]) ht2
   refine#[_,Z,t0,_,_,_,Z,Z,G9.of (v2 _ _ (v1 _ _ e0)),Z,_,Z,GJ,λt3 t4=>#[GL,λl4 hl4=>?_]]
   have v3:=GS.upd (o:= .tup [.int a1,.int N]) t4
   have v4:=GS.upd (o:= .lst [.ref t1,.ref t2,.ref t3,.non]) hl4
   have d1:=v4 _ _ (v3 _ _ (v2 _ _ (show(GW R t1 (.tup [.int M,.int N])) t1=↑(.tup [.int M,.int N])from qc)))
   have d2:=v4 _ _ (v3 _ _ (show(GW (GW R t1 (.tup [.int M,.int N])) t2 (.tup [.int M,.int L])) t2=↑(.tup [.int M,.int L])from qc))
   have d3:=v4 _ _ (show(GW (GW (GW R t1 (.tup [.int M,.int N])) t2 (.tup [.int M,.int L])) t3 (.tup [.int a1,.int N])) t3=↑(.tup [.int a1,.int N])from qc)
   have d4:(GW (GW (GW (GW R t1 (.tup [.int M,.int N])) t2 (.tup [.int M,.int L])) t3 (.tup [.int a1,.int N])) l4 (.lst [.ref t1,.ref t2,.ref t3,.non])) l4=↑(.lst [.ref t1,.ref t2,.ref t3,.non]):=qc
   have S4:=((v1.trans v2).trans v3).trans v4;have c4:=x5.same S4;have z0:∀{x:Δ} {xs:Ε},Hz x=↑(.tup xs)->R x=↑(.tup xs):=λ{x xs} e=>by
    have nb:x≠b:=λz=>by obtain⟨_,_,_,eb,_⟩:=I.bx;rw[z,eb]at e;cases e
    exact c2.kp _ _ nb (v0 _ _ (f4.kp _ _ nb (e3.kp _ _ nb (e8.kp _ _ nb (f5.kp _ _ nb e)))))
   have w0:Io _ cd tb kt t kss:=Io.same (H:=R) #[z0 a2.e,?_,?_] S4
   rotate_left
   ·exact(λh=>by exact h) (by
     have:Mv [b] Hz R:=λx o h e=>by
      have nb:x≠b:=λz=>h (Jh.mpr z)
      exact c2.kp _ _ nb (v0 _ _ (f4.kp _ _ nb (e3.kp _ _ nb (e8.kp _ _ nb (f5.kp _ _ nb e)))))
     exact(a2.mv this (zf I.bx)).tb)
   ·exact(by
     have:Mv [b] Hz R:=λx o h e=>by
      have nb:x≠b:=λz=>h (Jh.mpr z)
      exact c2.kp _ _ nb (v0 _ _ (f4.kp _ _ nb (e3.kp _ _ nb (e8.kp _ _ nb (f5.kp _ _ nb e)))))
     exact(a2.mv this (zf I.bx)).ks)
   generalize GW (GW (GW (GW R t1 (.tup [.int M,.int N])) t2 (.tup [.int M,.int L])) t3 (.tup [.int a1,.int N])) l4 (.lst [.ref t1,.ref t2,.ref t3,.non])=b5 at *
   have ix0:0<=(if 0<wy-4 then wy-4 else 0):=by split<;>lia
   have ix1:(if 0<wy-4 then wy-4 else 0)<(([V.ref t1,.ref t2,.ref t3,.non]:Ε).length:Int):=by show _<(4:Int);split<;>lia
   obtain⟨v,hv,b7⟩:=QK ix0 ix1;obtain⟨o,ho,s2⟩:∃o:Option (Int×Int),Nl b5 v o/\∀a l,o=↑(a,l)->0<=a/\a<(kss.length:Int)/\1<=l/\l<4096/\F<l/\l<=F+23:=by
    simp only[Jm,JE,JF]at b7;rcases b7 with rfl|rfl|rfl|rfl
    ·exact#[↑(M,N),#[t1,Z,d1],λa l e=>by cases e;exact#[b3,a6,k8]]
    ·exact#[↑(M,L),#[t2,Z,d2],λa l e=>by cases e;exact#[b3,a6,p0]]
    ·exact#[↑(a1,N),#[t3,Z,d3],λa l e=>by cases e;exact#[o2,n4,k8]]
    ·exact#[none,Z,λa l e=>by cases e]
   refine y5 _ _ (Z0 λD6 y6=>?_)
   refine#[_,Z,_,Z,GJ,λt5 ht5=>?_]
   have v5:=GS.upd (o:= .tup [.int M,.int N]) ht5
   have d5:(GW b5 t5 (.tup [.int M,.int N])) t5=↑(.tup [.int M,.int N]):=qc
   have w7:=ho.mv (S:=[]) v5.mv cF
   refine#[_,Z,_,Z,_,_,Z,Z,_,_,Z,l4,_,_,_,Z,Z,G0.of (v5 _ _ d4),hv,GJ,λtl d0=>?_]
   have v6:=GS.upd (o:= .lst [.ref t5,v]) d0
   have c0:=(c4.same v5).same v6;have hCg:=(w0.same v5).same v6;have etl:(GW (GW b5 t5 (.tup [.int M,.int N])) tl (.lst [.ref t5,v])) tl=↑(.lst [.ref t5,v]):=qc
   have t6:=w7.mv (S:=[]) v6.mv cF
   have d6:=v6 _ _ d5;have p1:∀(i:Nat) (x:En),xs[i]? =↑x->tl∉eS x.1:=λi x X z=>((c4.same v5).en i x X).some z d0
   have h9:tl≠b:=qS (c4.same v5).bx d0
   have ntp:tl≠pl:=(qo (c4.same v5).pe d0).symm
   generalize GW (GW b5 t5 (.tup [.int M,.int N])) tl (.lst [.ref t5,v])=t9 at *
   refine y6 _ _ (ab (λa5 H'=>∃(os:List (Option (Int×Int))),Pw K C H H' b (c+95+7*j+6) pl xs/\Io H' cd tb kt t kss/\Lg H' tl os/\os.length=2/\(∀a l,↑(a,l)∈os->0<=a/\a<(kss.length:Int)/\1<=l/\l<4096/\F<l/\l<=F+23)/\∃oa ob oc od oe,a5=[↑(.ref b),↑(.ref dr),↑(.ref nl),↑(.int (kss.length:Int)),↑(.int F),↑(.ref cd),↑(.ref pl),o7,o8,↑(.str nm),oa,ob,oc,od,oe,↑(.ref tl),none,none,none,none]) (λD' k1 a3=>?_) ?_)
   ·refine#[_,Z,b,2,_,Z,c0.bx,bq 5 b4,⋯,⋯,λr9 H9 r90 r91 g9=>#[Z,_,Z,?_]]
    have e4:=(c0.grc g9).mono (c':=c+95+7*j+6) (Jf _)
    have m9:Mv [b] t9 H9:=λc o h e=>g9.kp c o (λz=>h (Jh.mpr z)) e
    have e9:=hCg.mv m9 (zf c0.bx);have b2:=g9.kp _ _ h9 etl;have d9:=m9.tup (zf c0.bx) d6;have q0:=t6.mv m9 (zf c0.bx);have s1:∀a l,↑(a,l)∈[↑(M,N),o]->0<=a/\a<(kss.length:Int)/\1<=l/\l<4096/\F<l/\l<=F+23:=λa l h=>by
     simp only[Jm,JE,JF]at h;rcases h with h|h
     ·injection h with h;injection h with h1 W;subst h1;subst W;exact#[b3,a6,k8]
     ·exact s2 a l h.symm
    refine qV (λ_=>?_) (λ_=>a3 _ _ #[[↑(M,N),o],e4,e9,Lg.two b2 #[t5,Z,d9] q0,Z,s1,_,_,_,_,_,Z])
    refine#[_,Z,.inl #[Z,_,G0.of b2],tl,_,Z,Z,b2,?_]
    have mr:Mv [tl] H9 (GW H9 tl (.lst [v,.ref t5])):=Mv.upd1
    have nr:NT [tl] H9:=NT.one b2 trivial
    have fl0:H tl=none:=(c4.same v5).fresh d0
    refine a3 _ _ #[[o,↑(M,N)],e4.out mr nr (qW h9.symm) (qW ntp.symm) (λi x X z B w=>p1 i x X (Jh.mp w▸B)) (λz B=>by rw[Jh.mp B];exact fl0),e9.mv mr nr,Lg.two qc (q0.mv mr nr) #[t5,Z,mr.tup nr d9],Z,λa l h=>s1 a l (by
     simp only[Jm,JE,JF]at h⊢;exact h.symm),_,_,_,_,_,Z]
   rintro _ H9 ⟨os,e4,e9,x1,los,l2,oa,ob,oc,od,oe,rfl⟩
   have o3:∀(i:Nat) (x:En),xs[i]? =↑x->(IG t kss F x.2.1/\x.2.1.least=0/\(∀z∈x.2.1.kn.map (·.1),z∈g.take j)/\x.2.1.kn.length<=j/\x.2.1.kn.lookup nm=none)/\x.2.2.length<=2*j:=λi x X=>by
    obtain⟨⟨h1,W,h3,h4⟩,h5⟩:=d i x X
    exact#[#[h1,W,h3,h4,pT λz=>tS ok.nd en (h3 nm z)],h5]
   refine#[_,Z,_,Z,_,Z,_,Z,cd,tb,kt,pl,tl,b,_,H,t,kss,xs,nm,os,Z,e4,O,e9,d7,x1,los,p1,λi x X=>?_,λa l h=>?_,λHn k0 j1 m3 st _=>?_]
   ·obtain⟨⟨h1,W,h3,h4,h6⟩,h5⟩:=o3 i x X
    refine#[#[h1.ok,h1.t,h1.ks,by rw[h1.ms];lia],λa l e=>?_,h6,by lia,by lia]
    rw[W];rw[Jz]at e;cases q:os[i]? with
    |none=>rw[q]at e;cases e
    |some y=>rw[q]at e;have:y=↑(a,l):=e;rw[this]at q;exact(l2 a l (JP q)).1
   ·obtain⟨h1,W,h3,h4,_⟩:=l2 a l h
    exact#[h1,W,h3,h4]
   ·refine#[k0,j1.mono (by lia),st.1.trans O,?_,m3,_,_,_,_,_,_,_,Z]
    have:=st.all (p:=λD=>IG t kss F D/\D.least=0/\(∀z∈D.kn.map (·.1),z∈g.take j)/\D.kn.length<=j/\D.kn.lookup nm=none) (q:=λD=>IG t kss F D/\D.least=0/\(∀z∈D.kn.map (·.1),z∈g.take (j+1))/\D.kn.length<=j+1) o3 (λi D hD=>?_)
    ·intro i x X
     obtain⟨h1,W⟩:=this i x X
     exact#[h1,by lia]
    ·obtain⟨h1,W,h3,h4,h6⟩:=hD
     have k2:∀z∈g.take j,z∈g.take (j+1):=λz B=>List.take_subset_take_left g (Fk j) B
     cases eo:os.getD i none with
     |none=>exact#[h1,W,λz B=>k2 z (h3 z B),by show D.kn.length<=j+1;lia]
     |some al=>
      obtain⟨a,l⟩:=al;have hm:↑(a,l)∈os:=by
       rw[Jz]at eo;cases q:os[i]? with
       |none=>rw[q]at eo;cases eo
       |some y=>rw[q]at eo;have:y=↑(a,l):=eo;rw[this]at q;exact JP q
      obtain⟨q1,q2,q3,q4,q5,q6⟩:=l2 a l hm;refine#[h1.learn d7 (by lia) q1 q2 q3 q4 q5 q6,W,λz B=>?_,JG (kG _ _ _) (by lia)]
      have B:z∈(zc D.kn nm #[a,l,none]).map (·.1):=B
      rw[aO]at B;split at B
      ·exact k2 z (h3 z B)
      ·rcases JL.mp B with B|B
       ·exact k2 z (h3 z B)
       ·rw[Jh.mp B,J9,en];simp
  ·rintro σ Hz ⟨xs,I,O,d,a2,o9,oa,ob,oc,od,oe,og,rfl⟩
   have l9:(g.map V.str).length<=9:=by rw[Je];exact ok.l9
   have k3:(g.map V.str).length=g.length:=Je _
   refine a3 _ _ #[xs,_,_,_,_,_,_,_,I.mono (by lia),O,λi x X=>?_,a2,Z]
   obtain⟨⟨h1,_,h3,h4⟩,W⟩:=d i x X;rw[k3]at h3 h4;rw[E5]at h3
   exact#[#[h1,h3,h4],by lia]
  clear I n3 d J
  rintro σ Hz ⟨xs,o9,oa,ob,oc,od,oe,og,I,O,h8,a2,rfl⟩
  obtain⟨C0,p4⟩:∃C0,C0=c+160:=#[_,Z]
  have C0b:C0<=c+170:=by lia
  rw[<- p4]at I;clear p4;have l9:(g.map V.str).length<=9:=by rw[Je];exact ok.l9
  have k3:(g.map V.str).length=g.length:=Je _
  refine ab (λa5 H'=>∃xs p9 pa pg ph pi,Pw K C H H' b (C0+13) pl xs/\xs.length=2/\(∀(i:Nat) (x:En),xs[i]? =↑x->Le t kss F g x.2.1/\x.2.2.length<=24)/\Io H' cd tb kt t kss/\a5=[↑(.ref b),↑(.ref dr),↑(.ref nl),↑(.int (kss.length:Int)),↑(.int F),↑(.ref cd),↑(.ref pl),o7,o8,p9,pa,ob,oc,od,oe,pg,ph,pi,none,none]) (λD' k1 a3=>?_) ?_
  refine#[_,Z,b,4,_,Z,I.bx,by lia,⋯,⋯,λrn Hh rn0 rn1 gh=>#[_,Z,by lia,by lia,?_]]
  have w6:=I.grc gh;have mh:Mv [b] Hz Hh:=λc o h e=>gh.kp c o (λz=>h (Jh.mpr z)) e
  have w8:=a2.mv mh (zf I.bx);refine Qf (n:=rn.toNat) (Pv:=λj σ Hx=>∃xs,Pw K C H Hx b (C0+1+4*j) pl xs/\xs.length=2/\(∀(i:Nat) (x:En),xs[i]? =↑x->Le t kss F g x.2.1/\x.2.2.length<=18+2*j)/\Io Hx cd tb kt t kss/\∃o9 oa og oh,σ=[↑(.ref b),↑(.ref dr),↑(.ref nl),↑(.int (kss.length:Int)),↑(.int F),↑(.ref cd),↑(.ref pl),o7,o8,o9,oa,ob,oc,od,oe,og,oh,none,none,none]\/∃oi,σ=[↑(.ref b),↑(.ref dr),↑(.ref nl),↑(.int (kss.length:Int)),↑(.int F),↑(.ref cd),↑(.ref pl),o7,o8,o9,oa,ob,oc,od,oe,og,oh,oi,none,none]) #[xs,w6,O,h8,w8,_,_,_,_,.inl Z] ?_ ?_
  ·rintro j σ Hx hj ⟨xs,I,O,d,J,p9,pa,pg,ph,l3⟩
   obtain⟨pi,rfl⟩:∃pi,σ=[↑(.ref b),↑(.ref dr),↑(.ref nl),↑(.int (kss.length:Int)),↑(.int F),↑(.ref cd),↑(.ref pl),o7,o8,p9,pa,ob,oc,od,oe,pg,ph,pi,none,none]:=by
    rcases l3 with rfl|⟨oi,rfl⟩
    ·exact#[none,Z]
    ·exact#[oi,Z]
   have j3:j<3:=by lia
   have enl:=I.s _ _ (qW e5) g6;have e7:C0+1+4*j<100000000:=by lia
   refine Cv λD1 y1=>?_
   refine#[_,Z,_,Z,_,Z,nl,_,Z,.inl (G0.of enl),b,_,_,Z,I.bx,bq 0 e7,by have:=ok.l1;lia,by lia,λr H2 r0 r1 g2=>?_]
   have a4:=I.grc g2;obtain⟨nm,hat,d7⟩:=AB r0 r1 ok.nm;refine#[nl,_,_,_,Z,Z,G0.of (a4.s _ _ (qW e5) g6),hat,y1 _ _ (Z0 λD2 y2=>?_)]
   refine#[_,Z,_,Z,b,_,_,Z,a4.bx,bq 1 e7,g8,h0,λM c3 b3 a6 g3=>y2 _ _ (Z0 λD3 y3=>?_)]
   have c1:=a4.grc g3;refine#[_,Z,_,Z,_,Z,_,Z,b,24,_,Z,c1.bx,bq 2 e7,⋯,⋯,λr4 a0 x6 r41 g4=>#[_,_,Z,Z,_,_,Z,GK,λp hp=>?_]]
   obtain⟨n,en⟩:∃n,n=(if F+r4<4095 then F+r4 else 4095):=#[_,Z]
   have n0:0<=n/\n<4096/\n<=F+23:=by rw[en];split<;>lia
   rw[<- en];have pw4:=c1.grc g4;have v0:=GS.upd (o:= .tup [.str nm,.int M,.int n]) hp
   have M4:Mv [b] Hx a0:=λc o h e=>by
    have nb:c≠b:=λz=>h (Jh.mpr z)
    exact g4.kp _ _ nb (g3.kp _ _ nb (g2.kp _ _ nb e))
   have f3:=(J.mv M4 (zf I.bx)).same v0;have d8:=pw4.same v0;have ep:(GW a0 p (.tup [.str nm,.int M,.int n])) p=↑(.tup [.str nm,.int M,.int n]):=qc
   generalize GW a0 p (.tup [.str nm,.int M,.int n])=a7 at *
   refine y3 _ _ ?_
   refine#[_,Z,_,Z,_,Z,GJ,λq1 z6=>#[GJ,λq2 hq2=>#[GI,λq3 hq3=>#[GI,λq4 hq4=>#[GL,λl5 p2=>?_]]]]]
   have w1:=GS.upd (o:= .tup [.int 0,.int 1]) z6
   have w2:=GS.upd (o:= .tup [.int 0,.int 1]) hq2
   have w3:=GS.upd (o:= .tup [.int 0]) hq3
   have w4:=GS.upd (o:= .tup [.int 1]) hq4
   have w5:=GS.upd (o:= .lst [.ref q1,.ref q2,.ref q3,.ref q4]) p2
   have z1:=w5 _ _ (w4 _ _ (w3 _ _ (w2 _ _ (show(GW a7 q1 (.tup [.int 0,.int 1])) q1=↑(.tup [.int 0,.int 1])from qc))))
   have z2:=w5 _ _ (w4 _ _ (w3 _ _ (show(GW (GW a7 q1 (.tup [.int 0,.int 1])) q2 (.tup [.int 0,.int 1])) q2=↑(.tup [.int 0,.int 1])from qc)))
   have z3:=w5 _ _ (w4 _ _ (show(GW (GW (GW a7 q1 (.tup [.int 0,.int 1])) q2 (.tup [.int 0,.int 1])) q3 (.tup [.int 0])) q3=↑(.tup [.int 0])from qc))
   have z4:=w5 _ _ (show(GW (GW (GW (GW a7 q1 (.tup [.int 0,.int 1])) q2 (.tup [.int 0,.int 1])) q3 (.tup [.int 0])) q4 (.tup [.int 1])) q4=↑(.tup [.int 1])from qc)
   have z5:(GW (GW (GW (GW (GW a7 q1 (.tup [.int 0,.int 1])) q2 (.tup [.int 0,.int 1])) q3 (.tup [.int 0])) q4 (.tup [.int 1])) l5 (.lst [.ref q1,.ref q2,.ref q3,.ref q4])) l5=↑(.lst [.ref q1,.ref q2,.ref q3,.ref q4]):=qc
   have SW:=(((w1.trans w2).trans w3).trans w4).trans w5;have m2:=d8.same SW;have hC6:=f3.same SW;have x9:=SW _ _ ep;have y0:=qS ((d8.same (((w1.trans w2).trans w3).trans w4)).bx) p2;generalize GW (GW (GW (GW (GW a7 q1 (.tup [.int 0,.int 1])) q2 (.tup [.int 0,.int 1])) q3 (.tup [.int 0])) q4 (.tup [.int 1])) l5 (.lst [.ref q1,.ref q2,.ref q3,.ref q4])=R at *
   refine#[_,Z,b,4,_,Z,m2.bx,bq 3 e7,⋯,⋯,λr7 b5 s4 r71 g7=>?_]
   have pw7:=m2.grc g7;have M7:Mv [b] R b5:=λc o h e=>g7.kp c o (λz=>h (Jh.mpr z)) e
   have N6:=zf m2.bx;obtain⟨v,hv,b7⟩:=QK (xs:=[V.ref q1,.ref q2,.ref q3,.ref q4]) s4 r71
   obtain⟨ps,is,rfl,eps,ndi,hi2⟩:∃(ps:Δ) (is:Κ),v= .ref ps/\R ps=↑(.tup (is.map λi:Nat=>V.int (i:Int)))/\is.Nodup/\∀i∈is,i<2:=by
    simp only[Jm,JE,JF]at b7;rcases b7 with rfl|rfl|rfl|rfl
    ·exact#[q1,[0,1],Z,z1,⋯,⋯]
    ·exact#[q2,[0,1],Z,z2,⋯,⋯]
    ·exact#[q3,[0],Z,z3,⋯,⋯]
    ·exact#[q4,[1],Z,z4,⋯,⋯]
   refine#[l5,_,_,_,Z,Z,G0.of (g7.kp _ _ y0 z5),hv,?_]
   refine#[cd,tb,kt,pl,p,ps,b,_,H,t,kss,xs,nm,M,n,is,F,Z,pw7,O,hC6.mv M7 N6,d7,b3,a6,n0.1,n0.2.1,M7.tup N6 x9,.inl (M7.tup N6 eps),ndi,hi2,λi x X=>?_,λHn k0 j1 m3 st=>?_]
   ·obtain⟨h1,W⟩:=d i x X
    exact#[h1.1,by lia]
   ·refine#[k0,j1.mono (by lia),st.1.trans O,?_,m3,_,_,_,_,.inr #[_,Z]]
    have:=st.all (p:=Le t kss F g) (q:=Le t kss F g) d (λi D hD=>?_)
    ·intro i x X
     obtain⟨h1,W⟩:=this i x X
     exact#[h1,by lia]
    ·show Le t kss F g (if i∈is then _ else _)
     split
     ·exact hD.hear n0.1 n0.2.1 n0.2.2
     ·exact hD
  ·rintro σ Hx ⟨xs,I,O,d,J,p9,pa,pg,ph,l3⟩
   obtain⟨pi,rfl⟩:∃pi,σ=[↑(.ref b),↑(.ref dr),↑(.ref nl),↑(.int (kss.length:Int)),↑(.int F),↑(.ref cd),↑(.ref pl),o7,o8,p9,pa,ob,oc,od,oe,pg,ph,pi,none,none]:=by
    rcases l3 with rfl|⟨oi,rfl⟩
    ·exact#[none,Z]
    ·exact#[oi,Z]
   have rn3:rn.toNat<=3:=by lia
   exact a3 _ _ #[xs,_,_,_,_,_,I.mono (by lia),O,λi x X=>#[(d i x X).1,by have W:=(d i x X).2;lia],J,Z]
  clear I O h8 a2 l9 k3
  rintro σ Hx ⟨xs,p9,pa,pg,ph,pi,I,O,d,J,rfl⟩
  obtain⟨es,o0⟩:∃es:Ε,es=xs.map λx=>V.ref x.1.e:=#[_,Z]
  have k5:es.length=2:=by rw[o0,Je];exact O
  refine#[_,Z,pl,Z,#[_,G0.of I.pe],?_]
  refine Qj (K:=K) (a:=pl) (xs:=es) (λj σ Hx=>∃xs,Pw K C H Hx b (C0+13+2*j) pl xs/\(xs.map λx=>V.ref x.1.e)=es/\xs.length=2/\(∀(i:Nat) (x:En),xs[i]? =↑x->Le t kss F g x.2.1/\x.2.2.length<=24+j)/\Io Hx cd tb kt t kss/\∃oa oj ok',σ=[↑(.ref b),↑(.ref dr),↑(.ref nl),↑(.int (kss.length:Int)),↑(.int F),↑(.ref cd),↑(.ref pl),o7,o8,p9,oa,ob,oc,od,oe,pg,ph,pi,oj,ok']) #[xs,I,o0.symm,O,λi x X=>?_,J,_,_,_,Z] (λj σ Hx _ h=>let⟨_,p,e,_⟩:=h;G0.of (by rw[<- e];exact p.pe)) ?_ ?_
  ·obtain⟨h1,W⟩:=d i x X
   exact#[h1,by lia]
  ·rintro j z σ r5 B ⟨xs,I,h7,O,d,J,qa,qj,qk,rfl⟩
   have j2:j<2:=by rw[<- k5];exact(Js.mp B).1
   have ex:=Jg (show j<xs.length by rw[O];exact j2)
   obtain⟨x,rx⟩:∃x,x=xs[j]:=#[_,Z]
   rw[<- rx]at ex
   obtain rfl:z= .ref x.1.e:=by
    rw[<- h7,Jn,ex]at B;injection B with B;exact B.symm
   have en:=I.en j x ex;obtain⟨dp,hl⟩:=d j x ex;refine#[x.1.e,_,Z,.tup en.tu,Z,_,_,Z,_,_,Z,Z,?_]
   refine#[_,Z,b,5,_,Z,I.bx,by lia,⋯,⋯,λr H2 r0 r1 g2=>#[Z,_,Z,?_]]
   have a4:=I.grc g2;have M2:Mv [b] r5 H2:=λc o h e=>g2.kp c o (λz=>h (Jh.mpr z)) e
   have m7:=J.mv M2 (zf I.bx);refine qV (λ_=>?_) (λ_=>#[xs,a4.mono (by lia),h7,O,λi y hy=>?_,m7,_,_,_,Z])
   case refine_2=>obtain⟨h1,W⟩:=d i y hy;exact#[h1,by lia]
   refine#[_,Z,_,Z,b,_,_,Z,a4.bx,by lia,g8,h0,λM c3 b3 a6 g3=>?_]
   have c1:=a4.grc g3;have M3:Mv [b] H2 c3:=λc o h e=>g3.kp c o (λz=>h (Jh.mpr z)) e
   have u6:=m7.mv M3 (zf a4.bx);have f9:=c1.en j x ex;refine#[_,Z,x.1.a.p,Z,f9.dl.dr.no,_,Z,x.1.a,x.2.1,x.2.2,M,Z,f9.dl,by lia,λD' rw' hd Hs ms ds=>?_]
   cases hd;have o6:=EM ms;have o5:=f9.door o6 ds;have v7:Mv (eS x.1) c3 Hs:=ig o6
   have p5:=o5.md;obtain⟨a0,s8,m4,md4⟩:=p5.close (if M>x.2.1.least then M else x.2.1.least)
   refine#[_,Z,x.1.m,_,Z,p5.g_closed,_,Z,_,_,Z,_,Z,x.1.m,a0,Z,s8,?_]
   have n8:Mv [x.1.m,x.1.kd] Hs a0:=m4.mono (λc h z=>h (by rw[Jh.mp z];simp))
   have en4:=o5.model n8 md4;have i1:Mv (eS x.1) c3 a0:=v7.trans (iO n8)
   have N3:=f9.nt;refine#[_,(c1.step ex i1 en4).mono (by lia),?_,by rw[Fl];exact O,λi y hy=>?_,u6.mv i1 N3,_,_,_,Z]
   ·rw[<- h7]
    refine List.ext_getElem? λk=>?_
    rw[Jn,Jn,List.getElem?_set];split
    ·rename_i z
     subst z;rw[Jc (by rw[O];exact j2),ex];rfl
    ·rfl
   ·rw[List.getElem?_set]at hy
    split at hy
    ·rename_i z
     subst z;rw[Jc (by rw[O];exact j2)]at hy
     cases hy;refine#[dp.close a6,?_]
     show(x.2.2++[_]).length<=24+(j+1)
     rw[Jv];simp;lia
    ·obtain⟨h1,W⟩:=d i y hy
     exact#[h1,by lia]
  rintro σ r5 ⟨xs,I,h7,O,d,J,qa,qj,qk,rfl⟩
  refine#[_,Z,_,Z,GJ,λt1 k4=>?_]
  have u:=GS.upd (o:= .tup [.ref cd,.ref pl]) k4
  refine q t1 cd tb kt pl t kss xs _ ((I.same u).mono (by rw[k5];lia)) O qc (J.same u) Z λi x X=>?_
  obtain⟨h1,W⟩:=d i x X
  exact#[h1,by rw[k5]at W;lia]
end
section
variable{P:Ξ}{w:Ω}{K:ι}{mg:GQ}{base:Ψ}{tk:Nat->Tok}{C:Δ}
theorem nN(a:At K mg "openings" cx ["door","row"])(T:HN K mg tk)(U:Iz K C)(dC:Mf P w K mg base C "button_of" W8 1 (hJ K C))(dD:Mf P w K mg base C "plain_step" X3 3 (fO K C))(dJ:Df P w K mg base "names_known" ["door"] 2 (gc K C)):Df P w K mg base "openings" ["door","row"] 4 (oV K C):=by
 refine a.dq Hw λf _ A _ s H vs Q E hr h=>?_
 ·obtain⟨p,ta,hk,bd,lg,n,D,v,zs,rfl,b,ok,nf,tl,zl,q⟩:=h
  refine#[_,(qe (wc (i:=2) Hw.nd Z (Or.inl Z) (own:=["name"]) (fr:=["door"]) (js:=[0]) Z (zN (qp dJ hr.mo (qd (qv 0) qb))) Z (gd Z) Z (iu Z nofun nofun nofun Z Z Z) (λ_ _ _ _=>qh (i:=0) (show List.Nodup (["name","door"]:Α)from by decide +kernel) Z (Or.inl Z) (.inr Z)) (λ_ _ _ _=>(qv 0)) (λ_ _ _ _=>(zg dC U.cl hr.mo (qv 1) (qd (qv 0) qb))))
   (qe (qw (i:=3) Hw.nd Z (Or.inl Z) (zo qb))
   (qe (zn JQ Z (bw (qv 1)) (ze Z (ql (qh (i:=4) Hw.nd Z (Or.inl Z)) (ql (qh (i:=5) Hw.nd Z (Or.inl Z)) (ql (qh (i:=6) Hw.nd Z (Or.inl Z)) qM))))
   (qe (qw (i:=7) Hw.nd Z (Or.inl Z) qB)
   (qe (qK (tL hr (qv 4) (qv 2)) (qe (q9 (zg dD U.cl hr.mo (qv 0) (qd (zJ hr (qv 2) (qv 4)) (qd (qv 5) (qd (qv 6) qb)))) (ze Z (ql (qh (i:=7) Hw.nd Z (Or.inl Z)) (ql (qh (i:=8) Hw.nd Z (Or.inl Z)) qM))))
   (qg (Qw hr (qv 2) (qv 4) (qv 8)))) qF)
   (qg (zm (QZ EZ Fx Fy zW (qv 3) (qd (zR zE (qv 7) qB (qA _)) qb)))))))
   (qg (qr (qv 3)))))),?_]
  obtain⟨t,as,rfl,ht,la,has⟩:=tl;refine#[_,Z,p,ta,hk,bd,lg,n,D,Z,b,ok,λl m H1 s1 pm I=>#[l,Z,#[_,G0.of I],?_]]
  have sl:m.length<=60:=by rw[pm.length_eq,Je];exact ok.nl
  have W:m.Nodup:=pm.nodup_iff.mpr ok.nd
  have b1:=b.same s1;refine rR (K:=K) (a:=l) (xs:=m.map V.str) (by rw[Je,Ju];lia) (λi ys Hx=>Hx=H1/\∃g:Str->Δ,ys=(m.take i).map (λnm=>(Sum.inr nm,V.ref (g nm)))/\∀nm∈m.take i,∀e,D.kn.lookup nm=↑e->HS H1 (g nm) e) #[Z,λ_=>0,Z,λnm h=>by simp at h] (λi ys Hx h=>by rw[h.1];exact G0.of I) ?_ ?_
  ·rintro i ys Hx x hx b8 ⟨rfl,g,rfl,hg⟩
   rw[Jn]at hx;obtain⟨nm,u,rfl⟩:=JZ.mp hx;have hi:i<m.length:=(Js.mp u).1
   have r:m.take (i+1)=m.take i++[nm]:=by rw[J9,u];rfl
   have nin:nm∉m.take i:=λz=>by
    rw[<- List.take_append_drop (i+1) m,r]at W
    exact(Fv.mp (Fv.mp W).1).2.2 nm z nm JB Z
   refine#[_,Z,.inr nm,Z,?_]
   refine#[_,Z,p,Z,b1.no,_,Z,p,ta,hk,bd,lg,n,D,nm,Z,b1,λe=>?_,λe x e2 hx=>?_]
   ·have:=Hg.mpr (pm.mem_iff.mp (JP u))
    rw[e]at this;cases this
   ·have pk:HL ((m.take i).map (λnm=>((Sum.inr nm:qJ),V.ref (g nm)))) (Sum.inr nm) (.ref x)=(m.take (i+1)).map (λz=>((Sum.inr z:qJ),V.ref (if z=nm then x else g z))):=by
     unfold HL;rw[Jb (by
      rw[Gq]
      rintro⟨kv,b2,z⟩
      obtain⟨y,hy,rfl⟩:=Jt.mp b2;have z:=Jx z;injection z with z
      exact nin (z▸hy)),r,JK]
     congr 1
     ·refine FJ λy hy=>?_
      rw[Jb (λz:y=nm=>nin (z▸hy))]
     ·show _=[((Sum.inr nm:qJ),V.ref (if nm=nm then x else g nm))];rw[Jc Z]
    refine#[#[Z,λz=>if z=nm then x else g z,pk,λz B e3 h3=>?_],?_]
    ·rw[r]at B
     by_cases J:z=nm
     ·show HS _ (if z=nm then x else g z) e3
      rw[Jc J];rw[J,e2]at h3;cases h3;exact hx
     ·show HS _ (if z=nm then x else g z) e3
      rw[Jb J];rcases JL.mp B with B|B
      ·exact hg z B e3 h3
      ·exact absurd (Jh.mp B) J
    ·rw[pk,Je,EX];lia
  rintro ys Hx ⟨rfl,g,rfl,hg⟩ d hd
  have u1:=GS.upd (o:= .dK ((m.take (m.map V.str).length).map λnm=>((Sum.inr nm:qJ),V.ref (g nm)))) hd
  have b4:II (GW Hx d (.dK ((m.take (m.map V.str).length).map λnm=>((Sum.inr nm:qJ),V.ref (g nm))))) d D.kn:=by
   have e:m.take (m.map V.str).length=m:=by rw[Je,E5]
   refine BF (g:=g) ok.nd pm (by rw[qc,e]) λnm u e2 h2=>?_
   obtain⟨v2,h3,h4⟩:=hg nm (by rw[e];exact u) e2 h2
   exact#[v2,u1 _ _ h3,h4.same u1]
  have b5:=QR hd s1;have S1:=s1.trans u1;generalize GW Hx d (.dK ((m.take (m.map V.str).length).map λnm=>((Sum.inr nm:qJ),V.ref (g nm))))=H2 at *
  clear u1 hg I b1 hd pm W sl;refine#[GH,λto a3=>?_]
  have u2:=GS.upd (o:= .lst []) a3
  have a6:=QR a3 S1;refine ZG (λG H'=>GS H H'/\H' to=↑(.lst ((qQ D zs).map V.bl))/\∃o2 o4 o5 o6 o7 R,G=[↑(.ref p),↑(.ref t),o2,↑(.ref to),o4,o5,o6,o7,R]) (λD0 b7 a5=>?_) ?_
  ·refine#[_,Z,?_]
   refine AX (K:=K) ht (λj σ Hx=>GS H Hx/\II Hx d (Qv D (zs.take j)).kn/\Hx to=↑(.lst ((qQ D (zs.take j)).map V.bl))/\∃o4 o5 o6 o7 R,σ=[↑(.ref p),↑(.ref t),↑(.ref d),↑(.ref to),o4,o5,o6,o7,R]) #[S1.trans u2,b4.same u2,qc,_,_,_,_,_,Z] (λj σ Hx h=>h.1) ?_ ?_ Z
   ·rintro j z σ Hx B ⟨O,kx,N,o4,o5,o6,o7,R,rfl⟩
    rw[Jn]at B;obtain⟨aj,a2,rfl⟩:=JZ.mp B;have hj:j<zs.length:=by rw[<- la];exact(Js.mp a2).1
    obtain⟨⟨nm,age,c⟩,ez⟩:∃z,zs[j]? =↑z:=#[_,Jg hj]
    have a0:=(has j aj _ a2 ez).same O;have r:zs.take (j+1)=zs.take j++[(nm,age,c)]:=by rw[J9,ez];rfl
    have S:=mD ok (zs.take j);have Y:=lY (D:=D) (zs.take j)
    obtain⟨M,X⟩:∃F,F=Qv D (zs.take j):=#[_,Z]
    rw[<- X]at S Y kx;have a4:(Qv D (zs.take (j+1))).kn=Hj M nm age c:=by rw[r,iH,<- X]
    have a7:qQ D (zs.take (j+1))=qQ D (zs.take j)++[zK M nm age c]:=by rw[r,Q6,<- X]
    have b0:M.near<=M.far:=by rw[Y];exact nf
    refine#[aj,_,Z,a0.k,Z,_,_,Z,_,_,Z,_,_,Z,Z,?_]
    refine ZG (λG H'=>∃(wd:Str) (R:Ν),GS H H'/\II H' d (Hj M nm age c)/\H' to=↑(.lst ((qQ D (zs.take j)).map V.bl))/\decide (V.str wd=V.str "near")=zK M nm age c/\G=[↑(.ref p),↑(.ref t),↑(.ref d),↑(.ref to),↑(.str nm),↑(.int age),↑(.int c),↑(.str wd),R]) (λD' b6 L=>?_) ?_
    ·rcases kx.get nm with⟨I,g1⟩|⟨e,x,I,g1,hx⟩
     ·refine#[_,Z,_,Z,d,_,Z,g1,_,Z,zw (L _ _ #["unknown",_,O,?_,N,?_,Z])]
      ·rcases bH (D:=M) (nm:=nm) (age:=age) (c:=c)with h|⟨e,h,_⟩
       ·rw[h];exact kx
       ·rw[I]at h;cases h
      ·rw[BX I]
       exact Jo (by intro z;injection z with z;exact absurd z ⋯)
     ·refine#[_,Z,_,Z,d,_,Z,g1,_,Z,zx ?_]
      have bx:=b.same O;refine#[_,Z,p,Z,bx.no,_,Z,_,Z,d,_,Z,g1,_,Z,_,Z,p,ta,hk,bd,lg,x,n,D,e,age,c,Z,bx,hx,λq' a' H3 s3 b3 a1=>#[q',_,Z,.tup b3,Z,_,_,Z,_,_,Z,Z,?_]]
      have st:zh D e age c=zh M e age c:=by rw[Y];rfl
      rw[st]at a1;obtain⟨H4,dp,m4,k4⟩:=(kx.same s3).put nm (by have:=S.nl;lia) a1
      refine#[_,Z,_,Z,_,Z,d,H4,Z,dp,L _ _ #[_,_,λc o e=>m4 c o (qW (qo e b5)) (s3 _ _ (O _ _ e)),?_,m4 _ _ (qW ?_) (s3 _ _ N),?_,Z]]
      ·rw[tP S.nd I];exact k4
      ·obtain⟨f0,e0,_⟩:=id kx
       exact zH N e0 (by intro z;cases z)
      ·rw[<- wW b0 I,st]
       exact decide_eq_decide.mpr #[λz=>by injection z,λz=>by rw[z]]
    rintro G H5 ⟨wd,c0,s5,k5,t5,ew,rfl⟩
    refine#[_,Z,.inl #[Z,_,G0.of t5],_,Z,Z,to,_,_,Z,Z,t5,by rw[Je,ZB,EX,Ju];lia,?_]
    have mt:Mv [to] H5 (GW H5 to (.lst ((qQ D (zs.take j)).map V.bl++[.bl (decide (V.str wd=V.str "near"))]))):=Mv.upd1
    have a8:NT [to] H5:=NT.one t5 trivial
    refine#[λc o e=>mt c o (qW (qo e a6)) (s5 _ _ e),?_,?_,_,_,_,_,_,Z]
    ·rw[a4]
     refine k5.mv mt a8 (qW ?_)
     obtain⟨f0,e0,_⟩:=id k5
     exact(zH t5 e0 (by intro z;cases z)).symm
    ·rw[a7,qc,ew,JK];rfl
   ·rintro σ Hx ⟨O,kx,N,o4,o5,o6,o7,R,rfl⟩
    refine a5 _ _ #[O,?_,_,_,_,_,_,_,Z]
    rw[Je,la,E5]at N;exact N
  rintro σ Hx ⟨O,N,o2,o4,o5,o6,o7,R,rfl⟩
  exact#[_,Z,q to Hx O N]
theorem fS(a:At K mg "shows_telling" Zl ["one","other","row"])(T:HN K mg tk)(Y:Df P w K mg base "openings" ["door","row"] 4 (oV K C)):Df P w K mg base "shows_telling" ["one","other","row"] 5 (nZ K C):=by
 refine a.dq Ic λf _ A _ s H vs Q E M h=>?_
 ·obtain⟨p,ta,hk,bd,lg,n,D,p',j,I,F,G,n',D',v,zs,rfl,b,b',ok,B,nf,u,tl,R,z0,q⟩:=h
  refine#[_,(qe (qw (i:=3) Ic.nd Z (Or.inl Z) (qp Y M.mo (qd (qv 0) (qd (qv 2) qb))))
   (qe (qw (i:=4) Ic.nd Z (Or.inl Z) (qp Y M.mo (qd (qv 1) (qd (qv 2) qb))))
   (qg (qr (Zr (zR (BE M) (Qh bv (qv 3) QF (QJ (bJ aE qf))) (Qh bv (qv 4) QF (QJ (bJ aE qf))) (qA _)) (ZR (zR gF (qC qG (qv 3) (bJ aE qf)) (qC qG (qv 4) (bJ aE qf)) (qA _)))))))),?_]
  refine#[_,Z,_,Z,p,ta,hk,bd,lg,n,D,v,zs,Z,b,ok,nf,tl,R,λW H1 l e1=>?_]
  refine#[_,Z,_,Z,p',j,I,F,G,n',D',v,zs,Z,b'.same l,B,u,tl.same l,R,λU H2 N O=>?_]
  have c:=N _ _ e1;have X:0<zs.length:=List.length_pos_iff.mpr z0
  obtain⟨x,t,r⟩:=oS (bs:=qQ D zs) (by rw[ZB];exact X)
  obtain⟨y,m,g⟩:=oS (bs:=qQ D' zs) (by rw[ZB];exact X)
  refine#[_,Z,_,Z,_,Z,W,_,Z,G0.of c,λm1 L=>?_]
  have d:=GS.upd (o:= .lst (Qb ((qQ D zs).map V.bl) none ↑(-1))) L
  refine#[_,Z,_,Z,_,Z,U,_,Z,G0.of (d _ _ O),λm2 J=>?_]
  have e:=GS.upd (o:= .lst (Qb ((qQ D' zs).map V.bl) none ↑(-1))) J
  have S:=((l.trans N).trans d).trans e;refine#[m1,m2,(qQ D zs).dropLast,(qQ D' zs).dropLast,Z,Z,by rw[<- kU];exact e _ _ qc,by rw[<- kU];exact qc,by rw[List.length_dropLast,List.length_dropLast,ZB,ZB],_,Z,qV (λh=>?_) (λh=>?_)]
  ·have h:=Jx h
   refine#[_,Z,_,Z,W,_,_,_,Z,Z,G0.of (e _ _ (d _ _ c)),r,_,Z,_,Z,U,_,_,_,Z,Z,G0.of (e _ _ (d _ _ O)),g,Z,?_]
   have:=q _ S
   unfold Ql at this;rw[Ji h,t,m,E6]at this;rw[show decide (V.bl x=V.bl y)=decide (↑x=↑y)from decide_eq_decide.mpr #[λz=>by injection z with z;rw[z],λz=>by injection z with z;rw[z]]]
   exact this
  ·have:=q _ S
   unfold Ql at this;rw[Jo (λz=>h (Ji z)),EW]at this
   exact this
end
section
variable{P:Ξ}{w:Ω}{K:ι}{mg:GQ}{base:Ψ}{tk:Nat->Tok}
theorem sw(a:At K mg "_law_due" eI ["_law_owns","_law_row_here"])(T:HN K mg tk)(dI:Df P w K mg base "_law_hear" X2 2 ft)(xO:Df P w K mg base "_law_copied" ["_law_own"] 1 mM):Df P w K mg base "_law_due" ["_law_owns","_law_row_here"] 3 pv:=by
 refine a.dq IX λf _ A _ s H vs Q E hr h=>?_
 ·obtain⟨ol,m1,d9,m2,d0,g,D2,v,zs,rfl,a7,d7,b6,b5,d6,d4,b7,d2,zl,z0,q⟩:=h
  refine#[_,(qe (qw (i:=2) IX.nd Z (Or.inr Z) (zB (own:=["_law_own"]) (fr:=[]) (js:=[]) Z (zN (qv 0)) Z (λ_ _ h=>nomatch h) Z (Zk Z nofun nofun nofun) (λ_ _ _ _=>qh (i:=0) (show List.Nodup (["_law_own"]:Α)from by decide +kernel) Z (Or.inl Z) (.inr Z)) (λ_ _ _ _=>(qp xO hr.mo (qd (qv 0) qb)))))
   (qe (xy (i:=3) (x0:="_law_plain_here") IX.nd Z (Or.inl Z) (fr:=["_law_made"]) (js:=[2]) Z (bw (qv 1)) Z (gd Z) Z (DO Z nofun (λ_ _=>rfl) (λ_=>rfl) nofun nofun nofun Z Z Z) (λ_ _ _ _ _=>qh (i:=0) (show List.Nodup (["_law_plain_here","_law_made"]:Α)from by decide +kernel) Z (Or.inr Z) (.inl Z)) (λ_ _ _ _ _=>(zB (own:=["_law_own"]) (fr:=["_law_plain_here"]) (js:=[0]) Z (wZ (K:=K) Z (qv 1)) Z (gd Z) Z (iu Z nofun nofun nofun Z Z Z) (λ_ _ _ _=>qh (i:=0) (show List.Nodup (["_law_own","_law_plain_here"]:Α)from by decide +kernel) Z (Or.inl Z) (.inr Z)) (λ_ _ _ _=>(qp dI hr.mo (qd (qv 0) (qd (qv 1) qb)))))))
   (qg (qr (Zr (qx (eP Z) T.b_all GF (qd (zB (own:=["_law_one","_law_other"]) (fr:=[]) (js:=[]) Z (zN (Qh bv (qv 3) QF (QJ (bJ aE qf)))) Z (λ_ _ h=>nomatch h) Z (Zk Z nofun nofun nofun) (λ_ _ _ _=>Bg (K:=K) Z 2 Z (ql (qh (i:=0) (show List.Nodup (["_law_one","_law_other"]:Α)from by decide +kernel) Z (Or.inl Z) (.inr Z)) (ql (qh (i:=1) (show List.Nodup (["_law_one","_law_other"]:Α)from by decide +kernel) Z (Or.inl Z) (.inr Z)) qM))) (λ_ _ _ _=>(zR zE (qv 0) (qv 1) (qA _)))) qb)) (ZR (zR gF (qC qG (qC qG (qv 3) (bJ aE qf)) qf) (qC qG (qC qG (qv 3) (bJ aE qf)) qf) (qA _)))))))),?_]
  refine#[_,Z,ol,Z,#[_,G0.of a7],Zf (K:=K) (xs:=[.ref m1,.ref m2]) (GJ) (λi ys Hx=>GS H Hx/\((i=0/\ys=[])\/(i=1/\∃x kx,ys=[.ref x]/\H x=none/\H kx=none/\Ht Hx x kx g)\/(i=2/\∃x kx y ky,ys=[.ref x,.ref y]/\H x=none/\H kx=none/\Ht Hx x kx g/\H y=none/\H ky=none/\Ht Hx y ky D2/\x≠y/\x≠ky/\kx≠y/\kx≠ky))) #[GS.refl _,.inl #[Z,Z]] (λi ys Hx h=>G0.of (h.1 _ _ a7)) ?_ ?_]
  ·rintro i ys Hx z M n ⟨J,⟨rfl,rfl⟩|⟨rfl,x,kx,rfl,fx,X,W⟩|⟨rfl,_⟩⟩
   ·cases M
    refine#[_,Z,m1,d9,g,Z,d7.same J,λm' a2 Hy sy f1 f2 a1=>#[J.trans sy,.inr (.inl #[Z,m',a2,Z,QR f1 J,QR f2 J,a1])]]
   ·cases M
    refine#[_,Z,m2,d0,D2,Z,b6.same J,λm' a2 Hy sy f1 f2 a1=>#[J.trans sy,.inr (.inr #[Z,x,kx,m',a2,Z,fx,X,W.same sy,QR f1 J,QR f2 J,a1,?_,?_,?_,?_])]]
    ·exact qo W.di f1
    ·exact qo W.di f2
    ·obtain⟨_,hd,_⟩:=W.kn;exact qo hd f1
    ·obtain⟨_,hd,_⟩:=W.kn;exact qo hd f2
   ·cases M
  rintro ys Hx n ⟨J,⟨Y,_⟩|⟨Y,_⟩|⟨_,x,kx,y,ky,rfl,fx,X,W,fy,d1,my,n1,n2,n3,n4⟩⟩ l hl
  ·cases Y
  ·cases Y
  have u:=GS.upd (o:= .lst [.ref x,.ref y]) hl
  have c1:LU H (GW Hx l (.lst [.ref x,.ref y])) l x kx y ky g D2:=#[J.trans u,qc,W.same u,my.same u,fx,X,fy,d1,n1,n2,n3,n4]
  generalize GW Hx l (.lst [.ref x,.ref y])=H1 at c1⊢
  clear u W my J hl;obtain⟨t,as,rfl,ht,la,has⟩:=id d2;refine#[_,Z,t,Z,?_]
  refine kO (K:=K) ht (by rw[Je,la,Ju];lia) (λi ys Hx=>∃ps:Η,ys=ps.map V.ref/\LU H Hx l x kx y ky (Qv g (zs.take i)) (Qv D2 (zs.take i))/\MX Hx ps (qQ g (zs.take i)) (qQ D2 (zs.take i))) #[[],Z,c1,Z,Z,λj p b N h=>by cases h] (λi ys Hx h=>by obtain⟨_,_,c,_⟩:=h;exact c.s) ?_ ?_
  ·rintro i ys Hx z M n ⟨ps,rfl,c,S⟩
   rw[Jn]at M;obtain⟨ai,O,rfl⟩:=JZ.mp M;have hi:i<zs.length:=by rw[<- la];exact(Js.mp O).1
   obtain⟨⟨nm,age,B⟩,ez⟩:∃z,zs[i]? =↑z:=#[_,Jg hi]
   have e0:=(has i ai _ O ez).same c.s;have c4:zs.take (i+1)=zs.take i++[(nm,age,B)]:=by rw[J9,ez];rfl
   have a6:=mD b5 (zs.take i);have a8:=lY (D:=g) (zs.take i)
   have a3:=mD d6 (zs.take i);have a5:=lY (D:=D2) (zs.take i)
   rw[c4,Q6,Q6,iH,iH];obtain⟨C,d8⟩:∃F,F=Qv g (zs.take i):=#[_,Z]
   obtain⟨R,b4⟩:∃F,F=Qv D2 (zs.take i):=#[_,Z]
   rw[<- d8]at a6 a8 c⊢;rw[<- b4]at a3 a5 c⊢;have g1:C.near<=C.far:=by rw[a8];exact d4
   have g2:R.near<=R.far:=by rw[a5];exact b7
   refine#[_,Z,l,Z,#[_,G0.of c.el],Zf (K:=K) (a:=l) (xs:=[.ref x,.ref y]) (GJ) (λj ys Hy=>MX Hy ps (qQ g (zs.take i)) (qQ D2 (zs.take i))/\Hy l=↑(.lst [.ref x,.ref y])/\((j=0/\ys=[]/\LU H Hy l x kx y ky C R)\/(j=1/\ys=[.bl (zK C nm age B)]/\LU H Hy l x kx y ky {C with kn:=Hj C nm age B} R)\/(j=2/\ys=[.bl (zK C nm age B),.bl (zK R nm age B)]/\LU H Hy l x kx y ky {C with kn:=Hj C nm age B} {R with kn:=Hj R nm age B}))) #[S,c.el,.inl #[Z,Z,c]] (λj ys Hy h=>G0.of h.2.1) ?_ ?_]
   ·rintro j ys Hy z M n ⟨U,G,⟨rfl,rfl,r⟩|⟨rfl,rfl,r⟩|⟨rfl,_⟩⟩
    ·cases M
     refine#[_,Z,_,Z,x,kx,ai,C,nm,age,B,Z,r.mx,(has i ai _ O ez).same r.s,a6,g1,λH4 mv md=>#[U.keep mv λp xs h=>r.mx.nin h,mv _ _ (r.mx.nin G) G,.inr (.inl #[Z,Z,r.left mv md])]]
    ·cases M
     refine#[_,Z,_,Z,y,ky,ai,R,nm,age,B,Z,r.my,(has i ai _ O ez).same r.s,a3,g2,λH4 mv md=>#[U.keep mv λp xs h=>r.my.nin h,mv _ _ (r.my.nin G) G,.inr (.inr #[Z,Z,r.right mv md])]]
    ·cases M
   ·rintro ys Hy n ⟨U,G,⟨Y,_⟩|⟨Y,_⟩|⟨_,rfl,r⟩⟩ lp d3
    ·cases Y
    ·cases Y
    have u:=GS.upd (o:= .lst [.bl (zK C nm age B),.bl (zK R nm age B)]) d3
    exact#[ps++[lp],by simp,r.same u,(U.same u).snoc qc]
  rintro ys Hy n ⟨ps,rfl,c,S⟩ lo b8
  have u:=GS.upd (o:= .lst (ps.map V.ref)) b8
  have S2:=c.s.trans u;have S:=S.same u;have eo:(GW Hy lo (.lst (ps.map V.ref))) lo=↑(.lst (ps.map V.ref)):=qc
  rw[Je,la,E5]at S;generalize GW Hy lo (.lst (ps.map V.ref))=H2 at S2 S eo⊢
  obtain⟨e,z,ew⟩:=oy z0;have q:=λHz s=>q Hz s
  rw[ew,pP]at q;rw[ew,Q6,Q6]at S;obtain⟨d,pz,rfl⟩:=oy (l:=ps) (λh=>by subst h;have:=S.1;simp at this)
  obtain⟨l1,l2,hp⟩:=S;have l1:d.length=(qQ g e).length:=by simpa using l1
  have l2:d.length=(qQ D2 e).length:=by simpa using l2
  have c0:H2 pz=↑(.lst [.bl (zK (Qv g e) z.1 z.2.1 z.2.2),.bl (zK (Qv D2 e) z.1 z.2.1 z.2.2)]):=hp d.length pz _ _ (by simp) (by rw[l1];simp) (by rw[l2];simp)
  have d5:∀(j:Nat) (p:Δ) (b N:Bool),d[j]? =↑p->(qQ g e)[j]? =↑b->(qQ D2 e)[j]? =↑N->H2 p=↑(.lst [.bl b,.bl N]):=λj p b N e1 e2 e3=>hp j p b N (by rw[JT (Js.mp e1).1];exact e1) (by rw[JT (Js.mp e2).1];exact e2) (by rw[JT (Js.mp e3).1];exact e3)
  have a4:Qb ((d++[pz]).map V.ref) none ↑(-1)=d.map V.ref:=by rw[ui,JK];exact List.dropLast_concat
  have L:zY ((d++[pz]).map V.ref) (-1)=↑(.ref pz):=by rw[JK];exact wo _ _
  have lz:d.length<=100:=by
   have:=JH List.length ew
   rw[Jv,Fd]at this;rw[l1,ZB];lia
  refine#[_,Z,_,Z,_,Z,lo,_,Z,G0.of eo,λm hm=>?_]
  rw[a4];have um:=GS.upd (o:= .lst (d.map V.ref)) hm
  refine#[m,Z,#[_,G0.of qc],?_]
  have em:(GW H2 m (.lst (d.map V.ref))) m=↑(.lst (d.map V.ref)):=qc
  have S3:=S2.trans um;have a0:=um _ _ eo;have I:=um _ _ c0;have b0:∀(j:Nat) (p:Δ) (b N:Bool),d[j]? =↑p->(qQ g e)[j]? =↑b->(qQ D2 e)[j]? =↑N->(GW H2 m (.lst (d.map V.ref))) p=↑(.lst [.bl b,.bl N]):=λj p b N e1 e2 e3=>um _ _ (d5 j p b N e1 e2 e3)
  generalize GW H2 m (.lst (d.map V.ref))=H3 at em S3 a0 I b0⊢
  refine rL (K:=K) (a:=m) (xs:=d.map V.ref) (by rw[Je,Ju];lia) (λi ys Hx=>Hx=H3/\ys=((((qQ g e).zip (qQ D2 e)).map λp=>decide (p.1=p.2)).take i).map V.bl) #[Z,Z] (λi ys Hx h=>by rw[h.1];exact G0.of em) ?_ ?_
  ·rintro i ys Hx v hv n ⟨rfl,rfl⟩
   rw[Jn]at hv;obtain⟨p,b3,rfl⟩:=JZ.mp hv;have hi:i<d.length:=(Js.mp b3).1
   have b1:=Jg (show i<(qQ g e).length by lia)
   have b2:=Jg (show i<(qQ D2 e).length by lia)
   refine#[p,_,_,Z,.inl (G0.of (b0 i p _ _ b3 b1 b2)),?_]
   refine#[_,Z,_,Z,Z,Z,?_]
   rw[J9,JK];congr 1
   rw[Jn,(List.getElem?_zip_eq_some (i:=i) (z:=((qQ g e)[i],(qQ D2 e)[i]))).mpr #[b1,b2]]
   show [V.bl _]=[V.bl _]
   congr 2
   exact decide_eq_decide.mpr #[λh=>by injection h,λh=>JH V.bl h]
  ·rintro ys Hx n ⟨rfl,rfl⟩ lq c3
   have uq:=GS.upd (o:= .lst (((((qQ g e).zip (qQ D2 e)).map λp=>decide (p.1=p.2)).take (d.map V.ref).length).map V.bl)) c3
   refine#[lq,_,Z,G0.of qc,_,Z,?_]
   have ea:(((((qQ g e).zip (qQ D2 e)).map λp=>decide (p.1=p.2)).take (d.map V.ref).length)).all id=decide (qQ g e=qQ D2 e):=by
    rw[Gn (by rw[Je,Je,List.length_zip];lia),nY (by lia)]
   rw[ea];have q:=q _ (S3.trans uq);refine qV (λy=>?_) (λy=>?_)
   ·rw[y,E6]at q
    refine#[_,Z,_,Z,lo,_,_,_,Z,Z,G0.of (uq _ _ a0),L,pz,_,_,_,Z,Z,G0.of (uq _ _ I),Z,_,Z,_,Z,lo,_,_,_,Z,Z,G0.of (uq _ _ a0),L,pz,_,_,_,Z,Z,G0.of (uq _ _ I),Z,Z,?_]
    rw[show decide (V.bl (zK (Qv g e) z.1 z.2.1 z.2.2)=V.bl (zK (Qv D2 e) z.1 z.2.1 z.2.2))=decide (zK (Qv g e) z.1 z.2.1 z.2.2=zK (Qv D2 e) z.1 z.2.1 z.2.2)from decide_eq_decide.mpr #[λh=>by injection h,λh=>by rw[h]]]
    exact q
   ·rw[show decide (qQ g e=qQ D2 e)=false from Gc.mpr y,EW]at q
    exact q
end
section
variable{P:Ξ}{w:Ω}{K:ι}{mg:GQ}{base:Ψ}{tk:Nat->Tok}{C:Δ}
theorem kE(a:At K mg "_law_state" aU ["_law_door"])(T:HN K mg tk)(U:Iz K C)(m:Mf P w K mg base C "known_now" W6 1 (gn K C))(n:Mf P w K mg base C "log_now" W6 1 (uQ K C)):Df P w K mg base "_law_state" ["_law_door"] 2 (pK K C):=by
 refine a.dq lO λf _ A _ s H vs Q E e h=>?_
 ·obtain⟨x,D,L,rfl,dl,ok,q⟩:=h
  refine#[_,(qg (qr (qy (qd (Qi m U.cl e.mo (qv 0)) (qd (Qi n U.cl e.mo (qv 0)) qb))))),?_]
  refine#[_,Z,x.p,Z,dl.dr.no,x.p,x.ta,x.hk,x.bd,x.lg,L.length,D,Z,dl.dr,ok,λk l H1 g pm r p=>?_]
  have c:=dl.same g;refine#[_,Z,x.p,Z,c.dr.no,x,D,L,Z,c,λt v d lt=>#[GJ,λj i=>?_]]
  have u:=GS.upd (o:= .tup [.ref k,.ref t]) i
  exact q j k t l _ ((g.trans d).trans u) qc pm r (p.same (d.trans u)) (lt.same u)
theorem kZ(a:At K mg "_law_plain" bb ["_law_box_here","_law_drawn_here"])(T:HN K mg tk)(G:Df P w K mg base "_law_take" X0 1 QL):Df P w K mg base "_law_plain" X5 2 jc:=by
 refine a.dq IJ λf _ A _ s H vs Q E N h=>?_
 ·obtain⟨b,M,X,c,d,S,ba,rfl,F,hc,t,I,a2,ok,q⟩:=h
  refine#[_,(qe (qw (i:=2) IJ.nd Z (Or.inl Z) (qu CS (qC qO (qv 1) qf) (zo (qd qB qb))))
   (qe (BT (i:=3) (j:=4) Z IJ.nd Z Z ⋯ Z Z (qd (qC qG (qv 2) (qp G N.mo (qd (qv 0) (qd (qx qY T.b_len J6 (qd (qv 2) qb)) qb)))) (qd (qp G N.mo (qd (qv 0) (qd (qC qO (qv 1) qf) qb))) qb)))
   (qg (qr (qy (qd (qv 3) (qd (qv 4) (qd (qx (zT Z) T.b_min PyProof.Rows.boot_min (qd qf (qd (qu qI (qC qO (qv 1) qf) (qp G N.mo (qd (qv 0) (qd qf qb)))) qb))) qb)))))))),?_]
  have l9:=ok.l9;have m1:=ok.m1;have m8:=ok.m8;refine#[_,Z,M,_,_,_,Z,Z,G9.of t,Z,GI,λL m=>#[X,L,_,_,Z,Z,(GS.upd m) _ _ I,qc,by rw[Je,Ju];show d.length+1<=_;lia,λn u=>?_]]
  have J:=(GS.upd (o:= .lst [.str "none"]) m).trans (GS.upd (o:= .lst (d.map V.str++[.str "none"])) u)
  have B:(GW (GW H L (.lst [.str "none"])) n (.lst (d.map V.str++[.str "none"]))) n=↑(.lst ((d++(["none"]:Α)).map V.str)):=by rw[qc,JK];rfl
  have l:=(J.grc F).bx;have e:=J _ _ t;have O:=J.grc F;have C:n≠b:=qS ((GS.upd (o:= .lst [.str "none"]) m).grc F).bx u
  generalize GW (GW H L (.lst [.str "none"])) n (.lst (d.map V.str++[.str "none"]))=H2 at B l e O⊢
  have R:(((d++(["none"]:Α)).map V.str).length:Int)=d.length+1:=by simp
  refine#[_,Z,_,Z,_,Z,n,_,Z,.inl (G0.of B),b,_,_,Z,l,by lia,by rw[R];lia,by rw[R];lia,λr H3 r0 r1 y=>?_]
  obtain⟨x,hx,z⟩:=QK (xs:=(d++(["none"]:Α)).map V.str) r0 r1
  obtain⟨nm,_,rfl⟩:=Jt.mp z;refine#[n,_,_,_,Z,Z,G0.of (y.kp _ _ C B),hx,?_]
  have g:=y.mv.tup (zf l) e;refine#[_,Z,_,Z,M,_,_,_,Z,Z,G9.of g,Z,b,_,_,Z,y.bx,by lia,by lia,by lia,λr4 H4 a0 a3 D=>#[_,_,Z,?_]]
  have v:=D.mv.tup (zf y.bx) g;refine#[_,Z,_,Z,_,Z,M,_,_,_,Z,Z,G9.of v,Z,_,Z,b,_,_,Z,D.bx,by lia,⋯,⋯,λr5 H5 a1 Y U=>#[_,_,Z,Z,_,_,Z,GK,λp W=>?_]]
  exact q p (nm,r4,_) _ (((((O.trans y).trans D).trans U).same (GS.upd W)).mono (by lia)) qc
theorem rG(a:At K mg "_law_row" cU ["_law_box_here","_law_drawn_here","_law_told"])(T:HN K mg tk)(dA:Df P w K mg base "_law_take" X0 1 QL)(xV:Df P w K mg base "_law_plain" X5 2 jc):Df P w K mg base "_law_row" W4 3 oM:=by
 refine a.dq HJ λf _ A _ s H vs Q E hr h=>?_
 ·obtain⟨b,dr,nl,c,d9,b1,ba,v,o,rfl,hb,hc,c3,d1,a5,ok,c1,ho,q⟩:=h
  refine#[_,(qe (Z8 (i:=3) HJ.nd Z (Or.inl Z) (own:=["_law_turn"]) (fr:=["_law_drawn_here","_law_box_here"]) (js:=[1,0]) Z (zC Z T.b_range (qd (qu qI qf (qp dA hr.mo (qd (qv 0) (qd qf qb)))) qb)) Z (wk Z Z) Z (wf Z nofun nofun nofun Z Z Z Z Z Z) (λ_ _ _ _=>qh (i:=0) (show List.Nodup (["_law_turn","_law_drawn_here","_law_box_here"]:Α)from by decide +kernel) Z (Or.inl Z) (.inr Z)) (λ_ _ _ _=>(qp xV hr.mo (qd (qv 2) (qd (qv 1) qb)))))
   (qe (qw (i:=4) HJ.nd Z (Or.inl Z) (qp dA hr.mo (qd (qv 0) (qd qf qb))))
   (qe (qK (QW.pt (Zt (qE Zi (qv 2) zd (qA _)) (QV (qE zE (qv 4) qf (qA _))))) (qg (qr (qv 3))) qF)
   (qe (qw (i:=5) HJ.nd Z (Or.inl Z) (qH Zq T.b_list FM (qd (qv 2) qb)))
   (qe (qw (i:=6) HJ.nd Z (Or.inl Z) (qp dA hr.mo (qd (qv 0) (qd (qx qY T.b_len J6 (qd (qv 5) qb)) qb))))
   (qe (q9 (qC qG (qv 5) (qv 6)) (ze Z (ql (qh (i:=7) HJ.nd Z (Or.inl Z)) (ql (qh (i:=8) HJ.nd Z (Or.inl Z)) (ql (qh (i:=9) HJ.nd Z (Or.inl Z)) qM)))))
   (qe (qK (qE zE (qv 4) qf (qA _)) (qg (zm (QZ EZ PySem.F.slot_list_insert PySem.F.type_list_insert i8 (qv 5) (qd (qp dA hr.mo (qd (qv 0) (qd (qu qI (qx qY T.b_len J6 (qd (qv 5) qb)) qf) qb))) (qd (qC qG (qv 3) qf) qb))))) (qg (qK (QW.pt (gN (qE zE (qv 4) qf (qA _)) (fq (qE sj (qx qY T.b_len J6 (qd (qv 5) qb)) qf (qA _))))) (qg (zm (mW (K:=K) Z EZ PySem.F.slot_list_pop PySem.F.type_list_pop fT (qv 5) (qd (qv 6) qb)))) (qg (qK (qE zE (qv 4) qf (qA _)) (qg (zm (QZ EZ PySem.F.slot_list_insert PySem.F.type_list_insert i8 (qv 5) (qd (qv 6) (qd (qC qG (qv 5) (qv 6)) qb))))) (qg (qK (qE zE (qv 4) qf (qA _)) (qg (q9 (qy (qd (qv 7) (qd (qv 8) (qd (qx (Ze Z) T.b_max F4 (qd qf (qd (qx (zT Z) T.b_min PyProof.Rows.boot_min (qd qf (qd (qu zO (qu qI (qv 9) (qu QU qf (qp dA hr.mo (qd (qv 0) (qd qf qb))))) qf) qb))) qb))) qb)))) (bD (qv 5) (qv 6) Zd))) qF)))))))
   (qg (qr (qv 5)))))))))),?_]
  refine#[_,Z,b,_,c,Z,hb,by lia,⋯,⋯,λr1 H1 e8 e2 g1=>#[_,_,Z,Z,_,Z,by lia,by lia,?_]]
  obtain⟨n,hn⟩:∃n:Nat,(1+r1).toNat=n:=#[_,Z]
  rw[hn];have n1:1<=n:=by lia
  have n4:n<=4:=by lia
  refine Zn (n:=n) (by rw[Ju];lia) (λi ys Hx=>IQ b (c+1+3*i) H Hx/\∃J:List (Δ×Str×Int×Int),ys=J.map (λw=>V.ref w.1)/\J.length=i/\Lu Hx J) #[g1,[],Z,Z,λw h=>nomatch h] ?_ ?_
  ·rintro i ys Hx hi d5 ⟨G,J,rfl,lw,hw⟩
   refine#[_,Z,_,Z,b,dr,nl,_,d9,b1,ba,Z,G.bx,by lia,G.mv.tup (zf hb) c3,G.kp _ _ a5 d1,a5,ok,λp z H2 g2 ep=>#[(G.trans g2).mono (by lia),J++[(p,z)],by simp,by simp [lw],λw B=>?_]]
   rcases JL.mp B with B|B
   ·exact(hw.grc G.bx g2) w B
   ·rw[Jh.mp B];exact ep
  rintro ys Hx d5 ⟨G,J,rfl,lw,hw⟩ M b0
  have u3:=GS.upd (o:= .lst (J.map λw=>V.ref w.1)) b0
  have L:M≠b:=qS G.bx b0
  have G3:=G.same u3;have b6:=hw.same u3;have e3:(GW Hx M (.lst (J.map λw=>V.ref w.1))) M=↑(.lst (J.map λw=>V.ref w.1)):=qc
  generalize GW Hx M (.lst (J.map λw=>V.ref w.1))=H3 at G3 b6 e3⊢
  have b2:J≠[]:=λh=>by rw[h]at lw;simp at lw;lia
  refine#[_,Z,b,_,_,Z,G3.bx,by lia,⋯,⋯,λa2 H4 w0 w1 g4=>?_]
  have G4:=G3.trans g4;have b7:=b6.grc G3.bx g4;have e4:=g4.kp _ _ L e3;have I:Q (.ref M) H4:=q M J H4 (G4.mono (by lia)) L e4 b2 (by lia) b7
  have U:Ls H4 v o:=by
   cases o with
   |none=>exact c1
   |some r=>
    obtain⟨t,as,e,h1,l,h2⟩:=c1
    exact#[t,as,e,G4.mv.tup (zf hb) h1,l,λi a z k1 k2=>G4.mv.tup (zf hb) (h2 i a z k1 k2)]
  cases o with
  |none=>
   have U:v= .non:=U
   subst U
   exact#[_,Z,Z,_,Z,zx (zx #[_,Z,I])]
  |some r=>
  obtain⟨d0,r2⟩:=ho r Z;obtain⟨t,j,rfl,et,l0,e0⟩:=Lu.of U;have d7:0<j.length:=by have:=List.length_pos_iff.mpr d0;lia
  refine#[_,Z,Z,_,Z,zw #[_,Z,Z,_,Z,qV (λ_=>?_) (λ_=>?_)]]
  ·exact#[_,Z,I]
  refine#[_,Z,t,_,Z,.inr (G9.of et),λu W=>?_]
  have u5:=GS.upd (o:= .lst (j.map λw=>V.ref w.1)) W
  have D:u≠b:=qS G4.bx W
  have e9:M≠u:=qo e4 W
  have G5:=G4.same u5;have a7:=b7.same u5;have b8:=e0.same u5;have e5:=u5 _ _ e4;have a4:(GW H4 u (.lst (j.map λw=>V.ref w.1))) u=↑(.lst (j.map λw=>V.ref w.1)):=qc
  generalize GW H4 u (.lst (j.map λw=>V.ref w.1))=H5 at G5 a7 b8 e5 a4⊢
  refine#[_,Z,_,Z,u,_,Z,.inl (G0.of a4),b,_,_,Z,G5.bx,by lia,by rw[Je];lia,by rw[Je];lia,λc0 H6 a0 a1 N=>?_]
  rw[Je]at a1;obtain⟨i,rfl⟩:∃i:Nat,c0=(i:Int):=#[c0.toNat,by lia]
  have hi:i<j.length:=by lia
  have G6:=G5.trans N;have d2:=a7.grc G5.bx N;have F:=b8.grc G5.bx N;have e6:=N.kp _ _ L e5;have m:=N.kp _ _ D a4;have gi:=Jg hi;obtain⟨C,d3⟩:∃x,x=j[i]:=#[_,Z]
  rw[<- d3]at gi;have d6:=F C (JP gi);have b4:zY (j.map λw=>V.ref w.1) (i:Int)=↑(.ref C.1):=Qp (by rw[Jn,gi];rfl)
  refine#[_,Z,_,Z,u,_,_,_,Z,Z,G0.of m,b4,C.1,_,Z,.tup d6,Z,_,_,Z,_,_,Z,_,_,Z,Z,?_]
  have hn:H u=none:=by
   cases e:H u with
   |none=>rfl
   |some o'=>have:=G4.kp u o' D e;rw[W]at this;cases this
  have put:∀(Hy:Hp) (d:List (Δ×Str×Int×Int)) (X:Nat),IQ b X H Hy->X<=c+40->Hy u=↑(.lst (j.map λw=>V.ref w.1))->Lu Hy d->IQ b (c+40) H (GW Hy u (.lst (d.map λw=>V.ref w.1)))/\Lu (GW Hy u (.lst (d.map λw=>V.ref w.1))) d:=λHy d X g lc e h=>by
   refine#[#[λp o hp ho=>?_,?_],h.mv e Mv.upd1]
   ·rw[qm (qo ho hn)];exact g.kp p o hp ho
   ·obtain⟨x,y,z,eb,r⟩:=(g.bx).mono lc
    exact#[x,y,z,by rw[qm D.symm];exact eb,r]
  refine Cy (λa8 H'=>∃d:List (Δ×Str×Int×Int),IQ b (c+40) H H'/\H' u=↑(.lst (d.map λw=>V.ref w.1))/\d≠[]/\d.length<=10/\Lu H' d/\a8=[↑(.ref b),↑(.ref dr),↑(.ref t),↑(.ref M),↑(.int a2),↑(.ref u),↑(.int (i:Int)),↑(.str C.2.1),↑(.int C.2.2.1),↑(.int C.2.2.2)]) (λD' e7 a3=>?_) ?_
  rotate_left
  ·rintro a8 H' ⟨d,g,e,ne,le,h,rfl⟩
   exact#[_,Z,q u d H' g D e ne le h]
  have same:D'.nx [↑(.ref b),↑(.ref dr),↑(.ref t),↑(.ref M),↑(.int a2),↑(.ref u),↑(.int (i:Int)),↑(.str C.2.1),↑(.int C.2.2.1),↑(.int C.2.2.2)] H6:=a3 _ _ #[j,G6.mono (by lia),m,List.length_pos_iff.mp d7,by lia,F,Z]
  have S:∀(Hy:Hp) (d:List (Δ×Str×Int×Int)) (X:Nat),IQ b X H Hy->X<=c+40->Hy u=↑(.lst (j.map λw=>V.ref w.1))->Lu Hy d->d≠[]->d.length<=10->∀xs,xs=(d.map λw=>V.ref w.1)->D'.nx [↑(.ref b),↑(.ref dr),↑(.ref t),↑(.ref M),↑(.int a2),↑(.ref u),↑(.int (i:Int)),↑(.str C.2.1),↑(.int C.2.2.1),↑(.int C.2.2.2)] (GW Hy u (.lst xs)):=λHy d X g lc e h ne le xs d4=>by
   subst d4;obtain⟨p1,p2⟩:=put Hy d X g lc e h;exact a3 _ _ #[d,p1,qc,ne,le,p2,Z]
  clear a3;refine#[_,Z,Z,_,Z,qV (λ_=>?_) (λ_=>?_)]
  ·obtain⟨wh,wt,rfl⟩:∃wh wt,J=wh::wt:=by
    cases J with
    |nil=>exact absurd Z b2
    |cons x r=>exact#[x,r,Z]
   refine#[_,Z,.inl #[Z,_,G0.of m],_,Z,_,Z,u,_,Z,.inl (G0.of m),_,_,Z,Z,b,_,_,Z,N.bx,by lia,by rw[Je];lia,by rw[Je];lia,λY H7 a6 b5 O=>?_]
   rw[Je]at b5;have c2:=O.kp _ _ D m;refine#[_,Z,M,_,_,_,Z,Z,G0.of (O.kp _ _ L e6),(show zY (V.ref wh.1::wt.map λw=>V.ref w.1) ((0:Nat):Int)=↑(.ref wh.1)from Qp Z),u,_,Y,_,Z,Z,c2,a6,by rw[Je];lia,by rw[Je,Ju];lia,?_]
   refine S H7 (j.take Y.toNat++wh::j.drop Y.toNat) _ (G6.trans O) (by lia) c2 ?_ (by simp) (by simp only[Jv,EX,JN,FF];lia) _ (by simp [List.map_take,List.map_drop])
   have R:=F.grc N.bx O;have e1:=d2.grc N.bx O;intro w B;rcases JL.mp B with B|B
   ·exact R w (List.mem_of_mem_take B)
   ·rcases Jm.mp B with rfl|B
    ·exact e1 _ JB
    ·exact R w (List.mem_of_mem_drop B)
  refine#[_,Z,Z,_,Z,qV (λ_=>#[_,Z,u,_,Z,.inl (G0.of m),_,_,Z,Z,_,Z,qV (λy=>?_) (λ_=>?_)]) (λ_=>?_)]
  ·rw[Je]at y
   have y:=Jx y;refine#[_,Z,.inl #[Z,_,G0.of m],_,Z,u,_,(i:Int),i,.ref C.1,Z,Z,m,Int.le_trans ⋯ (Int.natCast_nonneg i),by lia,?_,by rw[Jn,gi];rfl,?_]
   ·exact(iJ (by unfold Z1;simp [Je];lia)).1
   ·refine S H6 (j.eraseIdx i) _ G6 (by lia) m (λw B=>F w (List.mem_of_mem_eraseIdx B)) ?_ ?_ _ (jg _ _ _)
    ·intro h
     have:=JH List.length h
     rw[List.length_eraseIdx,Jc hi]at this;simp at this;lia
    ·rw[List.length_eraseIdx];split<;>lia
  all_goals
   refine#[_,Z,Z,_,Z,qV (λ_=>?_) (λ_=>?_)]
   ·refine#[_,Z,.inl #[Z,_,G0.of m],_,Z,_,Z,_,Z,u,_,_,_,Z,Z,G0.of m,b4,u,_,(i:Int),_,Z,Z,m,by lia,by rw[Je];lia,by rw[Je,Ju];lia,?_]
    refine S H6 (j.take i++C::j.drop i) _ G6 (by lia) m ?_ (by simp) (by simp only[Jv,EX,JN,FF];lia) _ (by simp [List.map_take,List.map_drop])
    intro w B;rcases JL.mp B with B|B
    ·exact F w (List.mem_of_mem_take B)
    ·rcases Jm.mp B with rfl|B
     ·exact F _ (JP gi)
     ·exact F w (List.mem_of_mem_drop B)
   refine#[_,Z,Z,_,Z,qV (λ_=>?_) (λ_=>same)]
   refine#[_,Z,_,Z,_,Z,_,Z,b,_,_,Z,N.bx,by lia,⋯,⋯,λY H7 a6 b5 O=>?_]
   refine#[_,_,Z,Z,.inl #[⋯,⋯],_,_,Z,Z,_,_,Z,Z,_,_,Z,_,_,Z,GK,λp hp=>?_]
   have R:=F.grc N.bx O;have u8:=GS.upd (o:= .tup (z3 (C.2.1,C.2.2.1,zD 0 (ZE 4095 (C.2.2.2+2*Y-1))))) hp
   have b3:=u8 _ _ (O.kp _ _ D m);have c4:=R.same u8;have d8:(GW H7 p (.tup (z3 (C.2.1,C.2.2.1,zD 0 (ZE 4095 (C.2.2.2+2*Y-1)))))) p=↑(.tup (z3 (C.2.1,C.2.2.1,zD 0 (ZE 4095 (C.2.2.2+2*Y-1))))):=qc
   refine#[_,Z,_,Z,u,_,(i:Int),i,Z,Z,b3,?_,?_]
   ·unfold Z1
    simp [Je];lia
   ·refine S _ (j.set i (p,C.2.1,C.2.2.1,zD 0 (ZE 4095 (C.2.2.2+2*Y-1)))) _ ((G6.trans O).same u8) (by lia) b3 (λw B=>?_) ?_ (by rw[Fl];lia) _ (by rw[List.map_set])
    ·rcases List.mem_or_eq_of_mem_set B with B|rfl
     ·exact c4 w B
     ·exact d8
    ·intro h
     have:=JH List.length h
     rw[Fl]at this;exact absurd this (show¬j.length=0 by lia)
end
section
variable{P:Ξ}{w:Ω}{K:ι}{mg:GQ}{base:Ψ}{tk:Nat->Tok}{C:Δ}
def uh:Sp:=λvs H Q _=>∃x:Bool,vs=[.bl x,.bl x]/\Q (.bl true) H
theorem uY(a:At K mg "_law_is" f8 ["_law_found","_law_due_here"])(T:HN K mg tk):Df P w K mg base "_law_is" ["_law_found","_law_due_here"] 1 uh:=by
 refine a.dq tH λf _ A _ s H vs Q E c h=>?_
 ·obtain⟨x,rfl,q⟩:=h
  refine#[_,(qg (qr (Zr (qx fZ T.b_isinstance F0 (qd (qv 0) (qd (aa (v:= .ty "bool") Z T.b_bool PyProof.Rows.boot_bool Z) qb))) (ZR (zR zE (qv 0) (qv 1) (qA _)))))),?_]
  refine#[_,Z,.bl x,"bool","bool",Z,.bl x,by simp [ie],by simp [kH],?_]
  rw[show aD "bool" "bool"=true from by decide]
  refine#[_,Z,zx #[_,Z,_,Z,Z,?_]]
  rw[Ji Z];exact q
theorem Ce{f:Δ}{fd:FuncData}(F:LX K "law" "law" Z4 f fd)(T:HN K mg tk)(x8:Df P w K mg base "_law_box" ["_law_script","_law_k"] 1 (ul K))(dA:Df P w K mg base "_law_take" X0 1 QL)(xR:Df P w K mg base "_law_drawn" X7 2 mU)(xX:Df P w K mg base "_law_pair" X5 9 (n5 K C))(x9:Df P w K mg base "telling" ["one","other"] 6 (tK K C))(dR:Df P w K mg base "shows_telling" ["one","other","row"] 5 (nZ K C))(yE:Df P w K mg base "_law_row" W4 3 oM)(xF:Df P w K mg base "_law_state" ["_law_door"] 2 (pK K C))(yA:Df P w K mg base "_law_due" ["_law_owns","_law_row_here"] 3 pv)(yH:Df P w K mg base "_law_is" ["_law_found","_law_due_here"] 1 uh):IP P w K mg base aB 10 f fd ["_law_script"] (jZ K):=by
 refine F.dq HG (λvs H Q E h=>?_) (λcdv A n7 s H vs Q E S h=>?_)
 ·obtain⟨x,ns,rfl,_⟩:=h
  rfl
 ·obtain⟨sc,ns,rfl,hS,o0,q⟩:=h
  refine#[_,(qe (zn JQ Z (zC Z T.b_range (qd (qu qI qf (qx qY T.b_len J6 (qd (Qh bv (qv 0) QF (QJ qf)) qb))) qb)) (qh (i:=1) HG.nd Z (Or.inl Z))
   (qe (qw (i:=2) HG.nd Z (Or.inl Z) (qp x8 S.mo (qd (qv 0) (qd (qv 1) qb))))
   (qe (qw (i:=3) HG.nd Z (Or.inl Z) (qp xR S.mo (qd (qv 2) qb)))
   (qe (q9 (qp xX S.mo (qd (qv 2) (qd (qv 3) qb))) (ze Z (ql (qh (i:=4) HG.nd Z (Or.inl Z)) (ql (qh (i:=5) HG.nd Z (Or.inl Z)) qM))))
   (qe (q9 (qv 5) (ze Z (ql (ze Z (ql (qh (i:=6) HG.nd Z (Or.inl Z)) (ql (qh (i:=7) HG.nd Z (Or.inl Z)) qM))) (ql (ze Z (ql (qh (i:=8) HG.nd Z (Or.inl Z)) (ql (qh (i:=9) HG.nd Z (Or.inl Z)) qM))) qM))))
   (qe (qw (i:=10) HG.nd Z (Or.inl Z) (qp x9 S.mo (qd (qv 6) (qd (qv 8) qb))))
   (qe (qK (QW.pt (gN (qE Z7 (qv 10) zd (qA _)) (fq (qE nv (qp dR S.mo (qd (qv 6) (qd (qv 8) (qd (qv 10) qb)))) Z3 (qA _))))) (qg (qr Z3)) qF)
   (qg (zn JQ Z (zC Z T.b_range (qd qf qb)) (qh (i:=11) HG.nd Z (Or.inl Z))
   (qe (qw (i:=12) HG.nd Z (Or.inl Z) (qp yE S.mo (qd (qv 2) (qd (qv 3) (qd (qv 10) qb)))))
   (qe (qK (qE zE (qp dA S.mo (qd (qv 2) (qd qf qb))) qf (qA _)) (qg (Z8 (i:=12) HG.nd Z (Or.inl Z) (own:=["_law_plain_here"]) (fr:=[]) (js:=[]) Z (bw (qv 12)) Z (λ_ _ h=>nomatch h) Z (Zk Z nofun nofun nofun) (λ_ _ _ _=>qh (i:=0) (show List.Nodup (["_law_plain_here"]:Α)from by decide +kernel) Z (Or.inl Z) (.inr Z)) (λ_ _ _ _=>(qH (ZY (K:=K) Z) T.b_list FM (qd (qv 0) qb))))) qF)
   (qe (qK (qE zE (qp dA S.mo (qd (qv 2) (qd qf qb))) qf (qA _)) (qg (qw (i:=12) HG.nd Z (Or.inl Z) (qH qX T.b_tuple J0 (qd (qv 12) qb)))) qF)
   (qe (Z8 (i:=13) HG.nd Z (Or.inl Z) (own:=["_law_plain_here"]) (fr:=[]) (js:=[]) Z (bw (qv 12)) Z (λ_ _ h=>nomatch h) Z (Zk Z nofun nofun nofun) (λ_ _ _ _=>qh (i:=0) (show List.Nodup (["_law_plain_here"]:Α)from by decide +kernel) Z (Or.inl Z) (.inr Z)) (λ_ _ _ _=>(qH (ZY (K:=K) Z) T.b_list FM (qd (qv 0) qb))))
   (qe (Z8 (i:=14) HG.nd Z (Or.inl Z) (own:=["_law_door"]) (fr:=[]) (js:=[]) Z (Zv (qy (qd (qv 6) (qd (qv 8) qb)))) Z (λ_ _ h=>nomatch h) Z (Zk Z nofun nofun nofun) (λ_ _ _ _=>qh (i:=0) (show List.Nodup (["_law_door"]:Α)from by decide +kernel) Z (Or.inl Z) (.inr Z)) (λ_ _ _ _=>(qp xF S.mo (qd (qv 0) qb))))
   (qe (qw (i:=15) HG.nd Z (Or.inl Z) (qp dR S.mo (qd (qv 6) (qd (qv 8) (qd (qv 12) qb)))))
   (qe (qK (Qe (Qn (qp yH S.mo (qd (qv 15) (qd (qp yA S.mo (qd (zo (qd (qv 7) (qd (qv 9) qb))) (qd (qv 12) qb))) qb))))) (qg (qr Z3)) qF)
   (qe (qK (qE (mK S) (zB (own:=["_law_plain_here"]) (fr:=[]) (js:=[]) Z (bw (qv 12)) Z (λ_ _ h=>nomatch h) Z (Zk Z nofun nofun nofun) (λ_ _ _ _=>qh (i:=0) (show List.Nodup (["_law_plain_here"]:Α)from by decide +kernel) Z (Or.inl Z) (.inr Z)) (λ_ _ _ _=>(qH (ZY (K:=K) Z) T.b_list FM (qd (qv 0) qb)))) (qv 13) (qA _)) (qg (qr Z3)) qF)
   (qg (qK (qE (mK S) (zB (own:=["_law_door"]) (fr:=[]) (js:=[]) Z (Zv (qy (qd (qv 6) (qd (qv 8) qb)))) Z (λ_ _ h=>nomatch h) Z (Zk Z nofun nofun nofun) (λ_ _ _ _=>qh (i:=0) (show List.Nodup (["_law_door"]:Α)from by decide +kernel) Z (Or.inl Z) (.inr Z)) (λ_ _ _ _=>(qp xF S.mo (qd (qv 0) qb)))) (qv 14) (qA _)) (qg (qr Z3)) qF)))))))))))))))))))
   (qg (qr Z3))),?_]
  refine#[_,Z,_,Z,sc,_,Z,hS,λl0 n3=>#[l0,_,Z,.inl (G0.of qc),_,_,Z,Z,_,Z,?_,?_,?_]]
  ·lia
  ·rw[cp,Je]
   have:(aG ns none ↑2).length<=ns.length:=by unfold aG;rw[EX,FF];lia
   lia
  have u0:=GS.upd (o:= .lst (Qb (ns.map V.int) none ↑2)) n3
  have m9:=u0.seq hS;generalize GW H l0 (.lst (Qb (ns.map V.int) none ↑2))=Ha at *
  refine Qf (Pv:=λk σ Hx=>GS Ha Hx/\∃(o1 o2 o3 o4 o5 o6 o7 o8 o9 oa ob oc od oe a7:Ν),σ=[↑(.ref sc),o1,o2,o3,o4,o5,o6,o7,o8,o9,oa,ob,oc,od,oe,a7]) #[GS.refl _,none,none,none,none,none,none,none,none,none,none,none,none,none,none,none,Z] ?_ ?_
  ·rintro k σ H1 hk ⟨s1,o1,o2,o3,o4,o5,o6,o7,o8,o9,oa,ob,oc,od,oe,a7,rfl⟩
   refine#[_,Z,_,Z,sc,ns,k,by simp,s1.seq m9,λb H2 fb s2 f4=>?_]
   refine#[_,Z,b,0,Z,f4,⋯,λdr nl h6 d1 ba H3 g3 c3 i1 f3 ok _=>?_]
   have d7:nl≠b:=λz=>by obtain⟨_,_,_,e,_⟩:=f4;rw[z,e]at f3;cases f3
   have n2:dr≠b:=λz=>by obtain⟨_,_,_,e,_⟩:=g3.bx;rw[z,e]at c3;cases c3
   refine#[_,Z,_,Z,b,dr,nl,_,h6,d1,ba,Z,g3.bx,⋯,c3,i1,d7,ok,λqt cd tb kt pl t kss xs H4 U lx g0 hC r4 b0=>#[qt,_,Z,.tup g0,Z,_,_,Z,_,_,Z,Z,?_]]
   obtain⟨d,g,rfl⟩:=Cb lx;have d3:=U.en 0 d Z;have e5:=U.en 1 g Z;have b2:=(b0 0 d Z).1;have b1:=(b0 1 g Z).1;have n4:=(b0 0 d Z).2;have m2:=(b0 1 g Z).2;have l9:=ok.l9;have J:=b2.dp.td (JG b2.few (by lia))
   have I:=b1.dp.td (JG b1.few (by lia))
   have e9:∀{Hx:Hp} {c:Nat},Pw K C H3 Hx b c pl [d,g]->GS Ha Hx:=λU c o e=>by
    have nb:c≠b:=λz=>by rw[z]at e;rw[s1 _ _ e]at fb;cases fb
    exact U.s c o (qW nb) (g3.kp c o nb (s2 _ _ (s1 _ _ e)))
   refine#[_,Z,pl,_,Z,.lst U.pe,Z,_,_,Z,?_]
   refine#[d.1.e,_,Z,.tup d3.tu,Z,_,_,Z,_,_,Z,Z,?_]
   refine#[_,_,Z,g.1.e,_,Z,.tup e5.tu,Z,_,_,Z,_,_,Z,Z,Z,?_]
   clear b0 lx hC g0;have n0:=b2.dp.n1;have n1:=b1.dp.n1;refine#[_,Z,_,Z,d.1.a.p,d.1.a.ta,d.1.a.hk,d.1.a.bd,d.1.a.lg,_,d.2.1,g.1.a.p,g.1.a.ta,g.1.a.hk,g.1.a.bd,g.1.a.lg,_,g.2.1,Z,d3.dl.dr,e5.dl.dr,J,I,N4.narrow (by lia) (by lia),λv mn H5 s5 nd p9 sn tv=>?_]
   have d8:=U.same s5;have sh:∀r,ZJ d.2.1 g.2.1 mn=↑r->Ql d.2.1 g.2.1 r=true/\r≠[]/\r.length<=2:=λr h=>sT J.ok I.ok J.dn I.dn J.kn I.kn h
   clear U d3 e5 s5;generalize ZJ d.2.1 g.2.1 mn=o at tv sh
   refine ZG (λa3 H'=>GS H5 H'/\a3=[↑(.ref sc),↑(.int (0+(k:Int))),↑(.ref b),↑(.ref dr),↑(.ref cd),↑(.ref pl),↑(.ref d.1.a.p),↑(.ref d.1.m),↑(.ref g.1.a.p),↑(.ref g.1.m),↑v,ob,oc,od,oe,a7]) (λD0 g5 M=>?_) ?_
   ·cases o with
    |none=>
     have tv:v= .non:=tv
     subst tv
     exact#[_,Z,Z,_,Z,Qc Z (zw (M _ _ #[GS.refl _,Z]))]
    |some r=>
     obtain⟨sr,j9,r2⟩:=sh r Z;have rv:=MP.of tv;obtain⟨t0,r6,rfl,_⟩:=id tv;have e0:=d8.en 0 d Z;have e1:=d8.en 1 g Z;refine#[_,Z,Z,_,Z,zQ Z ?_]
     refine#[_,Z,_,Z,_,Z,d.1.a.p,d.1.a.ta,d.1.a.hk,d.1.a.bd,d.1.a.lg,_,d.2.1,g.1.a.p,g.1.a.ta,g.1.a.hk,g.1.a.bd,g.1.a.lg,_,g.2.1,_,r,Z,e0.dl.dr,e1.dl.dr,J.ok,I.ok,J.dn.nf,I.dn.nf,rv,by lia,j9,λH6 s6=>?_]
     rw[sr]
     exact#[_,_,Z,Z,_,Z,Qc Z (M _ _ #[s6,Z])]
   rintro σ H6 ⟨s6,rfl⟩
   have m8:=d8.same s6;have j1:=tv.same s6;refine#[_,Z,⋯,⋯,?_]
   refine Qf (Pv:=λj σ Hx=>∃(c:Nat) (p1 p2 p3 p4 p5:Ν),Pw K C H3 Hx b c pl [d,g]/\c<=1000+50*j/\Ls Hx v o/\σ=[↑(.ref sc),↑(.int (0+(k:Int))),↑(.ref b),↑(.ref dr),↑(.ref cd),↑(.ref pl),↑(.ref d.1.a.p),↑(.ref d.1.m),↑(.ref g.1.a.p),↑(.ref g.1.m),↑v,p1,p2,p3,p4,p5]) #[_,ob,oc,od,oe,a7,m8,by lia,j1,Z] ?_ ?_
   ·rintro j σ Hx hj ⟨c,p1,p2,p3,p4,p5,U,hc,tl,rfl⟩
    have hj:j<8:=hj
    have f0:=U.s _ _ (qW n2) c3;have f2:=U.s _ _ (qW d7) i1;refine#[_,Z,_,Z,_,Z,b,dr,nl,c,h6,d1,ba,v,o,Z,U.bx,by lia,f0,f2,d7,ok,tl,λr h=>(sh r h).2,λlr ws H7 g7 d0 er f9 wl hw=>?_]
    have N:=U.grc g7;have d6:=tl.grc U.bx g7;obtain⟨zs,b8⟩:∃zs,zs=ws.map (·.2):=#[_,Z]
    have zl:zs.length<=10:=by rw[b8,Je];exact wl
    have g4:zs≠[]:=λh=>f9 (List.map_eq_nil_iff.mp (b8▸h))
    have d2:MY H7 b (.ref lr) zs:=by
     subst b8;refine#[lr,ws.map (·.1),Z,by rw[ET];exact .lst er,by simp,d0,λa ha e=>?_,λi a z h1 h2=>?_]
     ·obtain⟨w,b7,rfl⟩:=Jt.mp ha
      have:=hw w b7
      obtain⟨_,_,_,eb,_⟩:=N.bx;rw[e,eb]at this;cases this
     ·rw[Jn]at h1 h2
      obtain⟨w,b7,rfl⟩:=JZ.mp h1;rw[b7]at h2;cases h2;exact .tup (hw w (JP b7))
    clear er hw b8 wl f9 d0 f0 f2;refine ZG (λa3 H'=>∃(c':Nat) (u:V),Pw K C H3 H' b c' pl [d,g]/\c'<=c+41/\Ls H' v o/\MY H' b u zs/\a3=[↑(.ref sc),↑(.int (0+(k:Int))),↑(.ref b),↑(.ref dr),↑(.ref cd),↑(.ref pl),↑(.ref d.1.a.p),↑(.ref d.1.m),↑(.ref g.1.a.p),↑(.ref g.1.m),↑v,↑(.int (0+(j:Int))),↑u,p3,p4,p5]) (λD0 g5 M=>?_) ?_
    ·refine#[_,Z,b,3,_,Z,N.bx,by lia,⋯,⋯,λr8 H8 q3 r3 g8=>#[Z,_,Z,qV (λ_=>?_) (λ_=>M _ _ #[_,_,N.grc g8,by lia,d6.grc N.bx g8,d2.grc N.bx g8,Z])]]
     have n:=N.grc g8;have b3:=d6.grc N.bx g8;have a5:=d2.grc N.bx g8;refine#[_,Z,cr (K:=K) a5.rw (by lia) (λa z Hy G hs hg=>#[_,Z,a,_,Z,hs,hg]) λl Hy sy fl ls m7=>?_]
     refine M _ _ #[_,_,n.same sy,by lia,b3.same sy,?_,Z]
     obtain⟨as,e1,l1,h1⟩:=id ls
     exact#[l,as,Z,.lst e1,l1,qS n.bx fl,λa ha=>qS n.bx (m7 as e1 a ha),λi a z g1 g2=> .lst (h1 i a z g1 g2)]
    clear N d6 d2 g7
    rintro σ H8 ⟨c',u,n,q6,b3,a5,rfl⟩
    refine ab (λa3 H'=>∃(c':Nat) (u:V),Pw K C H3 H' b c' pl [d,g]/\c'<=c+42/\Ls H' v o/\MY H' b u zs/\a3=[↑(.ref sc),↑(.int (0+(k:Int))),↑(.ref b),↑(.ref dr),↑(.ref cd),↑(.ref pl),↑(.ref d.1.a.p),↑(.ref d.1.m),↑(.ref g.1.a.p),↑(.ref g.1.m),↑v,↑(.int (0+(j:Int))),↑u,p3,p4,p5]) (λD0 g5 M=>?_) ?_
    ·refine#[_,Z,b,3,_,Z,n.bx,by lia,⋯,⋯,λr9 H9 r5 p0 g9=>#[Z,_,Z,qV (λ_=>?_) (λ_=>M _ _ #[_,_,n.grc g9,by lia,b3.grc n.bx g9,a5.grc n.bx g9,Z])]]
     have a6:=n.grc g9;have b6:=b3.grc n.bx g9;have b4:=a5.grc n.bx g9;obtain⟨t9,as,rfl,ht,la,q5,k5,has⟩:=id b4;refine#[_,Z,t9,as.map V.ref,Z,?_]
     rcases ht.k (K:=K)with hs|hs
     ·refine .inl #[hs,λl hl=>?_]
      have uu:=GS.upd (o:= .tup (as.map V.ref)) hl
      exact M _ _ #[_,_,a6.same uu,by lia,b6.same uu,#[l,as,Z,.tup qc,la,qS a6.bx hl,k5,λi a z g1 g2=>(has i a z g1 g2).same uu],Z]
     ·exact .inr #[hs,M _ _ #[_,_,a6,by lia,b6,b4,Z]]
    clear n b3 a5
    rintro σ H9 ⟨r7,u,a6,q4,b6,b4,rfl⟩
    refine#[_,Z,cr (K:=K) b4.rw (by lia) (λa z Hy G hs hg=>#[_,Z,a,_,Z,hs,hg]) λlk g6 sa _ k3 _=>?_]
    have d9:=a6.same sa;have k8:=b4.same sa;have a0:=d9.en 0 d Z;have a1:=d9.en 1 g Z;refine#[_,Z,_,Z,GJ,λtp l8=>#[tp,Z,#[_,G9.of qc],?_]]
    have h7:=GS.upd (o:= .tup [.ref d.1.a.p,.ref g.1.a.p]) l8
    have m5:(GW g6 tp (.tup [.ref d.1.a.p,.ref g.1.a.p])) tp=↑(.tup [.ref d.1.a.p,.ref g.1.a.p]):=qc
    have W:∀{Hy:Hp} {tq:Δ} {js:Κ} {d4:L2.St} {G:VK} {te:TE},GS g6 Hy->Hy tq=↑(.tup [.ref d.1.a.p,.ref g.1.a.p])->(∀(a:Da) (D:Dr) (L:Ρ) (B:Hp) (G':VK),HX K C B a D L->Ik D->(∀q ss H',GS B H'->ss.Perm (D.kn.map (·.1))->PyProof.Rows.sortedS ss=true->IL H' q ss D L->G' (.ref q) H')->te (↑(.ref a.p)::Qu js d4) B G')->
      (∀l X q1 m p B,GS Hy B->B l=↑(.lst [.ref X,.ref q1])->m.Perm (d.2.1.kn.map (·.1))->PyProof.Rows.sortedS m=true->IL B X m d.2.1 d.2.2->p.Perm (g.2.1.kn.map (·.1))->PyProof.Rows.sortedS p=true->IL B q1 p g.2.1 g.2.2->G (.ref l) B)->ZI (cV K tq) js te d4 Hy G:=by
     intro Hy tq js d4 G te sy et f1 hG;refine Q9 (K:=K) (a:=tq) (xs:=[.ref d.1.a.p,.ref g.1.a.p]) (GJ) (λi ys B=>GS Hy B/\((i=0/\ys=[])\/(i=1/\∃X m,ys=[.ref X]/\m.Perm (d.2.1.kn.map (·.1))/\PyProof.Rows.sortedS m=true/\IL B X m d.2.1 d.2.2)\/(i=2/\∃X m q1 p,ys=[.ref X,.ref q1]/\m.Perm (d.2.1.kn.map (·.1))/\PyProof.Rows.sortedS m=true/\IL B X m d.2.1 d.2.2/\p.Perm (g.2.1.kn.map (·.1))/\PyProof.Rows.sortedS p=true/\IL B q1 p g.2.1 g.2.2))) #[GS.refl _,.inl #[Z,Z]] (λi ys B h=>G9.of (h.1 _ _ et)) ?_ ?_
     ·rintro i ys B z hz l4 ⟨sz,⟨rfl,rfl⟩|⟨rfl,X,m,rfl,R,a8,a2⟩|⟨rfl,_⟩⟩
      ·cases hz
       exact f1 d.1.a d.2.1 d.2.2 B _ ((a0.dl.same sy).same sz) b2.dp.ok λq ss H' s' pm so st=>#[sz.trans s',.inr (.inl #[Z,q,ss,Z,pm,so,st])]
      ·cases hz
       exact f1 g.1.a g.2.1 g.2.2 B _ ((a1.dl.same sy).same sz) b1.dp.ok λq ss H' s' pm so st=>#[sz.trans s',.inr (.inr #[Z,X,m,q,ss,Z,R,a8,a2.same s',pm,so,st])]
      ·cases hz
     ·rintro ys B l4 ⟨sz,⟨h0,_⟩|⟨h0,_⟩|⟨_,X,m,q1,p,rfl,R,a8,a2,a4,e4,e2⟩⟩ l hl
      ·cases h0
      ·cases h0
      have uu:=GS.upd (o:= .lst [.ref X,.ref q1]) hl
      exact hG l X q1 m p _ (sz.trans uu) qc R a8 (a2.same uu) a4 e4 (e2.same uu)
    refine W h7 m5 (λa D L B G' dl e7 h=>#[_,Z,a,D,L,Z,dl,e7,λq kk tt ss H' s' eq pm so e3 lg=>h q ss H' s' pm so #[kk,tt,eq,e3,lg]]) λlh X q1 m p q2 sb m4 R a8 a2 a4 e4 e2=>?_
    have O:=h7.trans sb;have h3:=k3.same O;have h5:=a0.same O;have h9:=a1.same O;have e8:=k8.same O;have k2:=d9.same O;refine#[_,Z,_,Z,_,Z,d.1.a.p,d.1.a.ta,d.1.a.hk,d.1.a.bd,d.1.a.lg,_,d.2.1,g.1.a.p,g.1.a.ta,g.1.a.hk,g.1.a.bd,g.1.a.lg,_,g.2.1,u,zs,Z,h5.dl.dr,h9.dl.dr,J.ok,I.ok,J.dn.nf,I.dn.nf,e8.rw,by lia,g4,λHc c4=>?_]
    have c0:=h5.same c4;have c1:=h9.same c4;have m0:=e8.same c4;refine#[_,Z,_,Z,_,Z,GJ,λol m3=>?_]
    have b5:=GS.upd (o:= .lst [.ref d.1.m,.ref g.1.m]) m3
    refine#[_,Z,ol,d.1.m,d.1.kd,g.1.m,g.1.kd,d.2.1,g.2.1,u,zs,Z,qc,(c0.same b5).md,(c1.same b5).md,J.ok,I.ok,J.dn.nf,I.dn.nf,(m0.same b5).rw,by lia,g4,λHd sd=>#[_,Z,_,Z,zw ?_]]
    have d5:=(c4.trans b5).trans sd;refine#[_,Z,cr (K:=K) (e8.same d5).rw (by lia) (λa z Hy G hs hg=>#[_,Z,a,_,Z,hs,hg]) λq7 He se _ f5 _=>?_]
    refine#[_,Z,2,⋯,f5.eqd ((h3.same d5).same se),_,Z,zw ?_]
    have c2:=d5.trans se;refine#[_,Z,_,Z,GJ,λl3 h8=>#[l3,Z,#[_,G9.of qc],?_]]
    have Y:=GS.upd (o:= .tup [.ref d.1.a.p,.ref g.1.a.p]) h8
    have i2:=(O.trans c2).trans Y;refine W i2 qc (λa D L B G' dl e7 h=>#[_,Z,a,D,L,Z,dl,e7,λq kk tt ss H' s' eq pm so e3 lg=>h q ss H' s' pm so #[kk,tt,eq,e3,lg]]) λq8 r0 r1 k4 m1 Hf sf h4 n8 m6 l5 j3 j2 l2=>?_
    have e6:=(c2.trans Y).trans sf
    obtain rfl:m=k4:=fJ R a8 n8 m6
    obtain rfl:p=m1:=fJ a4 e4 j3 j2
    have k0:=b2.dp.ok.nl;have k1:=b1.dp.ok.nl;refine#[_,Z,6,⋯,.lst h4 (e6 _ _ m4) Z (λi y z ey ez=>?_),_,Z,zw #[_,_,_,_,_,_,((k2.same c2).same Y).same sf,by lia,((((b6.same sa).same O).same c2).same Y).same sf,Z]]
    match i,ey,ez with
    |0,ey,ez=>cases ey;cases ez;exact l5.eqd (a2.same e6) (λnm h=>R.mem_iff.mp h) (by rw[R.length_eq,Je];exact k0) n4
    |1,ey,ez=>cases ey;cases ez;exact l2.eqd (e2.same e6) (λnm h=>a4.mem_iff.mp h) (by rw[a4.length_eq,Je];exact k1) m2
    |i+2,ey,ez=>cases ey
   rintro σ Hx ⟨c,p1,p2,p3,p4,p5,U,hc,tl,rfl⟩
   exact#[e9 U,_,_,_,_,_,_,_,_,_,_,_,_,_,_,_,Z]
  rintro σ Hx ⟨_,o1,o2,o3,o4,o5,o6,o7,o8,o9,oa,ob,oc,od,oe,a7,rfl⟩
  exact q _
end
theorem CQ{l:W.OpenLaw}{w:Ω}{K:ι}{h:Ψ}{mg:GQ}{fa:Δ}(X:K.In h)(G:h.Ns η mg)(d9:mg "law"=↑(.ref fa))
  {C:Δ}
  (x:W.nsIn K η "Door"=↑(↑(.ref C)))
  (d5:W.plainGet K C Str.empty=true)
  (b0:W.hasDictIn K C=true)
  (f1:W.plainOver K C=true)
  (b1:W.findIn K (.ref C) "__setattr__"=↑(↑(.builtin "object.__setattr__")))
  (u:W.makesIn K C=true)
  (A:W.keepIn K (.ref C)=true)
  (Fr:W.findIn K (.ref C) "table"=↑none)
  (Fa:W.findIn K (.ref C) "house_keys"=↑none)
  (Fs:W.findIn K (.ref C) "near"=↑none)
  (Gr:W.findIn K (.ref C) "far"=↑none)
  (Fz:W.findIn K (.ref C) "most"=↑none)
  (Fm:W.findIn K (.ref C) "least_age"=↑none)
  (Fq:W.findIn K (.ref C) "buttons"=↑none)
  (Go:W.findIn K (.ref C) "log"=↑none)
  (A0:Ac K mg "is_number" bo)
  (A1:Ac K mg "is_digit" bI)
  (A2:Ac K mg "are_digits" ar)
  (A3:Ac K mg "back_table" af)
  (A4:Ac K mg "coded" iM)
  (A5:Ac K mg "decoded" eD)
  (A6:Ac K mg "is_name" cQ)
  (A7:Ac K mg "is_code" eN)
  (A8:Ac K mg "is_press" bX)
  (A9:Ac K mg "letter_digits" Zj)
  (M:Ac K mg "key_of" fR)
  (f2:Ac K mg "count_digits" ZF)
  (b5:Ac K mg "press_of" cu)
  (e4:Ac K mg "read_press" ae)
  (a4:Ac K mg "word_of" eR)
  (b6:Ac K mg "step_by" dz)
  (g:Lr K C "__init__" "Door.__init__" Q2)
  (f0:Lr K C "is_full" "Door.is_full" ZA)
  (c3:Lr K C "button_of" "Door.button_of" Q8)
  (b4:Lr K C "takes_age" "Door.takes_age" Q5)
  (f4:Lr K C "takes_from" "Door.takes_from" QN)
  (j:Lr K C "plain_step" "Door.plain_step" zZ)
  (d3:Lr K C "answer_to" "Door.answer_to" Q7)
  (b3:Lr K C "hear" "Door.hear" aW)
  (h3:Lr K C "read_right" "Door.read_right" QP)
  (J:Lr K C "learn" "Door.learn" az)
  (g4:Lr K C "close_below" "Door.close_below" QD)
  (c0:Lr K C "known_now" "Door.known_now" Zc)
  (c1:Lr K C "keys_now" "Door.keys_now" Zm)
  (a1:Lr K C "closed_now" "Door.closed_now" QQ)
  (h0:Lr K C "bounds_told" "Door.bounds_told" QB)
  (Q:Lr K C "log_now" "Door.log_now" ZD)
  (g6:Ac K mg "stretches_of" ZC)
  (d4:Ac K mg "names_known" ZV)
  (d6:Ac K mg "lesser_end" ay)
  (e9:Ac K mg "counts_in" bu)
  (a6:Ac K mg "least_apart" ZZ)
  (e0:Ac K mg "press_apart" ZX)
  (g9:Ac K mg "pair_apart" aC)
  (g8:Ac K mg "telling" dw)
  (f3:Ac K mg "openings" cx)
  (f5:Ac K mg "shows_telling" Zl)
  (g1:Ac K mg "_law_box" eC)
  (g7:Ac K mg "_law_take" bL)
  (R:Ac K mg "_law_table" bh)
  (E:Ac K mg "_law_key" cY)
  (b7:Ac K mg "_law_model" bm)
  (b8:Ac K mg "_law_word" cn)
  (L:Ac K mg "_law_hear" bO)
  (g0:Ac K mg "_law_press" aV)
  (h1:Ac K mg "_law_learnt" aH)
  (f9:Ac K mg "_law_heard" bj)
  (b2:Ac K mg "_law_bounds" aq)
  (a7:Ac K mg "_law_pair" cv)
  (e3:Ac K mg "_law_drawn" bp)
  (a8:Ac K mg "_law_copied" aJ)
  (e7:Ac K mg "_law_due" eI)
  (e2:Ac K mg "_law_state" aU)
  (a3:Ac K mg "_law_plain" bb)
  (e8:Ac K mg "_law_row" cU)
  (H:Ac K mg "_law_is" f8)
  {t:Δ}{z q:ν}{B:Array Ο}{y p o n f m:Γ}
  (g5:W.nsIn K η "law"=↑(↑(.ref t)))
  (e6:K.lookup t=some #[y,z,.func (W.fnOf "law" "law" (Qo Z4) (zF Z4) (qi Z4) .none p o n q f m),B])
  (Y:W.codeIn K f "law"=true)
  (F:W.keepIn K (.ref t)=true)
  {t0:Tok}
  (I:W.nsIn K η "DIGITS"=↑(↑(.int 16 t0)))
  {t1:Tok}
  (e5:W.nsIn K η "KEY_PLACES"=↑(↑(.int 4 t1)))
  {t2:Tok}
  (S:W.nsIn K η "LONGEST_NAME"=↑(↑(.int 8 t2)))
  {t3:Tok}
  (h2:W.nsIn K η "CODE_DIGITS"=↑(↑(.int 5 t3)))
  {t4:Tok}
  (a2:W.nsIn K η "COUNTS"=↑(↑(.int 4096 t4)))
  (z0:W.nsIn K η "isinstance"=↑none)
  (z1:W.nsIn K η "bool"=↑none)
  (z2:W.nsIn K η "int"=↑none)
  (z3:W.nsIn K η "tuple"=↑none)
  (z4:W.nsIn K η "all"=↑none)
  (z5:W.nsIn K η "any"=↑none)
  (z6:W.nsIn K η "len"=↑none)
  (z7:W.nsIn K η "abs"=↑none)
  (z8:W.nsIn K η "list"=↑none)
  (z9:W.nsIn K η "enumerate"=↑none)
  (a0:W.nsIn K η "range"=↑none)
  (O:W.nsIn K η "max"=↑none)
  (c4:W.nsIn K η "min"=↑none)
  (d1:W.nsIn K η "str"=↑none)
  (a5:W.nsIn K η "zip"=↑none)
  (e1:W.nsIn K η "ord"=↑none)
  (g3:W.nsIn K η "sum"=↑none)
  (N:W.nsIn K η "reversed"=↑none)
  (c2:W.nsIn K η "sorted"=↑none)
  (d2:W.nsIn K η "dict"=↑none)
  (g2:W.nsIn K η "set"=↑none):
  ∃fd:FuncData,(∀(s:Θ) (v:Γ),BindsTo s fd #[[v],[]] [("_law_script",v)])/\∀base:Ψ,K.In base->base.Ns η mg->IP l.prog w K mg base aB 10 fa fd ["_law_script"] (jZ K):=by
 have e:=d9.symm.trans (Fw X G g5);cases e;have T:HN K mg (λi=>if i=0 then t0 else if i=1 then t1 else if i=2 then t2 else if i=3 then t3 else if i=4 then t4 else 0):=#[Fw X G I,Fw X G e5,Fw X G S,Fw X G h2,Fw X G a2,JU X G z0,JU X G z1,JU X G z2,JU X G z3,JU X G z4,JU X G z5,JU X G z6,JU X G z7,JU X G z8,JU X G z9,JU X G a0,JU X G O,JU X G c4,JU X G d1,JU X G a5,JU X G e1,JU X G g3,JU X G N,JU X G c2,JU X G d2,JU X G g2]
 refine#[W.fnOf "law" "law" (Qo Z4) (zF Z4) (qi Z4) .none p o n q f m,λs v=> .of_eq Z,λbase _ _=>?_]
 have U:Iz K C:=#[#[d5,b0,f1,b1],Fr,Fa,Fs,Gr,Fz,Fm,Fq,Go]
 have dQ:=lN (P:=l.prog) (w:=w) (base:=base) A0.at T
 have xZ:=nn A1.at T dQ
 have xK:=jR A2.at T xZ
 have xP:=jU (P:=l.prog) (w:=w) (base:=base) A3.at T
 have xI:=xp (P:=l.prog) (w:=w) (base:=base) A4.at T
 have yF:=rj A5.at T xP
 have yB:=rN (P:=l.prog) (w:=w) (base:=base) A6.at T
 have yD:=sY A7.at T xK
 have dW:=nH A8.at T yB dQ yD
 have d8:=gb (P:=l.prog) (w:=w) (base:=base) A9.at T
 have xB:=uS M.at T d8 xI
 have xA:=gW (P:=l.prog) (w:=w) (base:=base) f2.at T
 have xY:=nF b5.at T xA xB xI
 have dO:=jY e4.at T xB yF
 have x6:=rl (P:=l.prog) (w:=w) (base:=base) a4.at T
 have d0:=p6 b6.at T x6
 have g:=g.at (ps:=X4)
 have yJ:=ib (P:=l.prog) (w:=w) (base:=base) g T U
 have yI:=yJ.mi u A (Fw X G x);have yM:=(gH (P:=l.prog) (w:=w) (base:=base) g T U).mi u A (Fw X G x)
 have xD:=gD (P:=l.prog) (w:=w) (base:=base) f0.at T U
 have dC:=fA (P:=l.prog) (w:=w) (base:=base) c3.at T U
 have dG:=fD (P:=l.prog) (w:=w) (base:=base) b4.at T U
 have D:=du f4.at T U dG
 have j:=j.at (ps:=X3)
 have dD:=c6 j T U D d0;have a:=cO j T U D d0;have dZ:=fC d3.at T U dC D dD dO
 have xS:=ke b3.at T U dW dZ
 have dM:=eO h3.at T U dW dG dO
 have xM:=jS J.at T U dM xD
 have dU:=cN (P:=l.prog) (w:=w) (base:=base) g4.at T U
 have dH:=fB (P:=l.prog) (w:=w) (base:=base) c0.at T U
 have d7:=fQ (P:=l.prog) (w:=w) (base:=base) c1.at T U
 have dY:=eQ (P:=l.prog) (w:=w) (base:=base) a1.at T U
 have dE:=cL (P:=l.prog) (w:=w) (base:=base) h0.at T U
 have xC:=gU (P:=l.prog) (w:=w) (base:=base) Q.at T U
 have dX:=gL g6.at T U D dE
 have dJ:=iq d4.at T U dH
 have xJ:=jP d6.at T U dE
 have xE:=mj (P:=l.prog) (w:=w) (base:=base) e9.at T
 have xG:=ik a6.at T xE
 have dL:=iz e0.at T U d7 dX xG
 have xL:=jX g9.at T U dY a xJ dL
 have x9:=pV g8.at T U dC dJ dL xL
 have xH:=nN f3.at T U dC a dJ
 have dR:=fS f5.at T xH
 have x8:=rY (P:=l.prog) (w:=w) (base:=base) g1.at T
 have r:=nM (P:=l.prog) (w:=w) (base:=base) g7.at T
 have xT:=mJ R.at T r
 have yG:=rS E.at T r
 have xQ:=kW (P:=l.prog) (w:=w) (base:=base) b7.at T
 have xW:=nD (P:=l.prog) (w:=w) (base:=base) b8.at T
 have dI:=nW L.at T xW
 have d:=kF dI;have dP:=mQ g0.at T xY
 have c:=ii h1.at T U xM dP
 have xU:=kN f9.at T U xS dP d
 have xN:=jQ b2.at T r
 have xX:=nB a7.at T U yM dU r xT yG xN xQ c xU
 have xR:=ly e3.at T r
 have xO:=jO (P:=l.prog) (w:=w) (base:=base) a8.at T
 have yA:=sw e7.at T dI xO
 have xF:=kE e2.at T U dH xC
 have xV:=kZ a3.at T r
 have yE:=rG e8.at T r xV
 have yH:=uY (P:=l.prog) (w:=w) (base:=base) H.at T
 exact Ce (kP (st:=Z4) e6 Y F) T x8 r xR xX x9 dR yE xF yA yH
theorem wV{l:W.OpenLaw}{q:Ξ}{c:Α}{r:(Str->Ο)->Ψ->Prop}{g:Ω->Ψ->Prop}{d:DefRec}{K:Params->ι}(hn:l.most=↑63)(e:d.params.defaults=[])
  (p:∀(w:Ω) (h:Ψ),g w h->(K w.params).In h)
  (F:∀(w:Ω) (mg:GQ) (i:Δ) (h:Ψ),(K w.params).In h->h.Ns η mg->mg d.name=↑(.ref i)->
   ∃fd:FuncData,(∀(s:Θ) (u:Γ),BindsTo s fd #[[u],[]] [("_law_script",u)])/\∀base:Ψ,(K w.params).In base->base.Ns η mg->IP l.prog w (K w.params) mg base aB 10 i fd ["_law_script"] (jZ (K w.params))):
  W.WalkO q c r g l.row.toRowW d [] (λf vs=>PySem.call f vs):=
 L2.Bm (n:=63) (k:=10) (x:="_law_script") (CX:=λ_=>aB) (sp:=λw=>jZ (K w.params)) hn ⋯ e #[Z,⋯,⋯] p F (λ_ _ a j m _ o=>#[a,j,Z,o,m,λ_=>rfl]) λ_ _ _ _ _ z=>z
end Lw
structure PySem.W.Fast:Prop where(tw17384632710935508918 tw7890789023471292972 tw11898262842312480376 tw10660638444989900497 tw10751436338623814723 tw11957537566826720321 tw14546187989702659436 tw1522363897590632721 tw13770783071528052603 tw16423626756431789113 tw16400741602717165998 tw2736418310348900747 tw5667953483159746286 tw1896230674166791766 tw15775079768869649993 tw10529940437414475679 tw5689984123705572526 tw4536219103258066541 tw16664732168531042584 tw5680618698364790862 tw3449494430711375223 tw15387832800501766119 tw3134897443889026138 tw3154906420341169309 tw1731382053643216491 tw13835662414437669966 tw9634687108445686712 tw17732321931475992768 tw12470940255789555100 tw10093290405138300565 tw14183158292109777421 tw3341022053589243167 tw6898117963244389577 tw11634121929133735864 tw9193085840476118008 tw16853388223001719536 tw15983378312787571368 tw16527408417573236780 tw14482154590388800537 tw12424548297428185740 tw7171373838466424505 tw10694305041893696373 tw7029920580195593914 tw15847476489641941810 tw2568854519276011074 tw14588102302687651234 tw6739267535546411807 tw17422972584480789795 tw1148619780944390953 tw13509062143578430962 tw8177719638527112779 tw4375247718232832380 tw10987009168925642096 tw5403010162956623070 tw3303679018282566646 tw4038397335455645770 tw8412328993297825443 tw7922679851225878024 tw9533646228490005843 tw10212412662902757001 tw3108520615116794577 tw3308495964186201524 tw13654042231824359528 tw4304602699233083207 tw13668581848688788358 tw18327100118020001249 tw5977645015459491033 tw2005050199488859024 tw2821921832332875380 tw18123578864510558817 tw3017078566122831635 tw16419583525917809951 tw4809024968257610190 tw11502539093651293876 tw14417951519307935310 tw6061617880940252080 tw14449800057818146853 tw3289399982421226727 tw8225517248100823172 tw14499869955034657153 tw15005478824991192886 tw3010403525964759310 tw543750481149187743 tw1155185815938601459 tw5827372799887601316 tw6927528218817730278 tw11748149708398475024 tw11256913980431906648 tw4007237345765259923 tw2412548561796707809 tw9369929247466770461 tw17395272832221804882 tw191679416080973507 tw13827486540646960909 tw15313109195872482425 tw1081923796290435560 tw9004734776673562376 tw1380086413215820876 tw12523809957671717318 tw18245805152624335744 tw17041586613129007926 tw16444054614704046007 tw16962066480463831448 tw7697640290644017564 tw10528034909375488435 tw2775134310109465213 tw14011985922383964837 tw13300238785932588905 tw16936928086332329305 tw3417177705894488297 tw7814324869865740359 tw2998134211931755185 tw8200790319748827961 tw12025155572042014497 tw15144982438416789042 tw6985206359952851757 tw9987714112558764388 tw8964407341594178386 tw10041192163030007943 tw778929323414149577 tw13646629166341256813 tw10340327112192447580 tw10763971339806020466 tw14257572375049206410 tw4437110058577995181 tw14437241252937293811 tw4606348596768813376 tw12227487347035208079 tw17466628281298828647 tw4060640642851216414 tw2750834454377499539 tw12952440663624545589 tw2090524130622786724 tw14144499588654038312 tw5803286552057997888 tw1088272608847471389 tw2912086088827970496 tw17435877385433143312 tw13626926377551505873 tw12286853461272693478 tw4984532663336814180 tw7080552713853913313 tw10065441079972975477 tw827020437155056638 tw15023865551641336553 tw13864251245987520903 tw1544664624941904336 tw974273834889595844 tw9684102140881074183 tw3052389717857668436 tw4123727607644990639 tw10779482206034474276 tw7598704756810286997 tw16798108865111085517 tw2191939182585537100 tw12407936438730906222 tw5251440246874463378 tw3486757825666012539 tw9852678891256679697 tw987105160294808769 tw10147832796965579284 tw12637106445852264171 tw8840300074424075317 tw5816605973985858165 tw2729563610284236408 tw5142552087937482958 tw8499213541712244809 tw9312252524233571778 tw7733133928437416675 tw17876948170539653746 tw15964375424313102414 tw4909619947641012362 tw12768911350754709093 tw4556600692126694072 tw10757753227369737660 tw12494523699980235948 tw10854127555231225183 tw10657351646102021633 tw11629999804718516422 tw10177656877532175506 tw17180786506640131274 tw9023628995744726593 tw9149377426916048958 tw7520477194506599810 tw15906597657017090702 tw13565507474232006629 tw11566245358650805368 tw13054145167103316472 tw10745299463786941969 tw4291685275656068129 tw15171845918032959404 tw1521202823251697593 tw13761238270498935162 tw11866832905134827634 tw11434935205411335846 tw18182787919643330740 tw9431321998001569627 tw930571724708201505 tw7175485578026773250 tw6766934872899238893 tw14657533371841854969 tw7289492207627669438 tw9278333884449925948 tw2595625862170802968 tw7786068561015765438 tw15765624727857577761 tw10928025351878400243 tw10293085042420000346 tw13502603013286709015 tw12081278024024038305 tw16661945810371949057 tw16676415168798141136 tw18056162695331048459 tw14094794233540520989 tw1313760050354798713 tw5714318082749127714 tw17490871733288603958 tw8933486060751578560 tw17933510221669641191 tw4761570164685528941 tw9553080615759457409 tw6015536133564559533 tw7280019041240144233 tw9795093913952441097 tw9480641069348982662 tw14858099605897190707 tw14919666876331746121 tw17431224118253804691 tw6325280859987885132 tw14901836530642886932 tw12247357172667800147 tw3581054489104576585 tw16829457736348289233 tw4570806287291136084 tw7541814798450148991 tw634333616542466993 tw8147185752844338034 tw3372714054283382405 tw2363912877410612088 tw5555195259441017976 tw5608276722316023407 tw10966867190692858003 tw8477572726522953076 tw11949431940521891117 tw17904612413494952079 tw11359100226501774936 tw16105435108684746612 tw16124174413545311890 tw4541346357827736873 tw5386006600768630479 tw11770130527458602952 tw2638390735004560825 tw17613675033328141489 tw18263703985811254208 tw17709040136072700385 tw15852223284660851511 tw18231827283836178074 tw14269553572215274549 tw17748568683187266312 tw7943811639398575867 tw6366994703521841513 tw17505442673099007713 tw7810969115089282181 tw9280048387967587597 tw10503366336147230830 tw11460961566296892230 tw17815201798447494597 tw4360822118550231524 tw476938023734680747 tw4530302353815976771 tw943015296046772283 tw5882740264494424495 tw10848391731318473691 tw424051459531061786 tw10075434101733896503 tw17375954660835903054 tw8504850909332314359 tw10311520820836944289 tw15912998495849102291 tw4655610824398388207 tw4186597451451548172 tw5501653645856545980 tw2897653113050126948 tw15135450427935212896 tw1842837816759409415 tw15465091144781641185 tw15169115266156186927 tw4117018475935890940 tw5457849296698730800 tw17533722140648970415 tw5903971913808505776 tw16482086129168089783 tw10977776745385777080 tw18318870378072540537 tw11952580784476782486 tw7671349196302357004 tw1042655743985125189 tw14928142424603104026 tw11055720037883718946 tw130559886971264310 tw2701240352014923207 tw7963754005775977905 tw11515190071306844553 tw5334112227895774391 tw14455738718732909634 tw5363345444016420087 tw2873983837276036020 tw3524597611981177043 tw9441854958874901222 tw6770214615239206919 tw14212737181614158099 tw6304597981901542611 tw18075366910983795759 tw7535859321107778119 tw13935989530269629670 tw10581438152055033373 tw8160478424530295932 tw9649091871357374950 tw16340801713009676554 tw16696452326984751240:True)
open PySem PySem.W PyProof.Rows
set_option maxRecDepth 100000 in
set_option maxHeartbeats 0 in
theorem PySem.Challenge.cw_rollcode_k35_rows_that_tell_holds : PySem.Challenge.rw_rollcode_k35_rows_that_tell.Holds := by
 w_on;o_law;k_head;(case hw=>w_witness2)
 k_fill
 refine Lw.wV (l:=PySem.Challenge.rw_rollcode_k35_rows_that_tell) rfl rfl (fun w h Y=>PySem.W.kIn_of Y) ?F
 case F=>
  intro w mg fa h KX G hmg;refine' Lw.CQ KX G hmg ..
  all_goals first|k_is|(refine' L3.DB KX G ..<;>first|k_is|skip)|(refine' L3.CA ..<;>first|k_is|skip)|kernel_rfl|(refine' #[?_,#[?_,?_,?_,?_,?_,?_],L3.all_kits ?_ ?_ ?_ ?_ ?_ ?_ ?_ ?_,?_]<;>kernel_rfl)|decide|skip