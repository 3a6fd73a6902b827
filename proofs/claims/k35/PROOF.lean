import PyProof.Rows.All
import Wide.All
import OpenK.AllK
import Wide.FinOn
import Lean
import PyProof.EqAt
import PyProof.EqKinds
import PyProof.TupleCall
import PySem.Challenge.RW_rollcode_k35_rows_that_tell
import PyProof.StationsW
import PyProof.ExcClass2
import OpenK.KOwn
import PyProof.ExcBaseAll.ValueError
import PyProof.RulesAs
import PyProof.NsDelKeeps
import PyProof.Rows.Catch
import KE.KIsAll
import PyProof.ExcArgsOwn
import PyProof.Rows.CatchOwn
import PyProof.ExcAttrAll.ValueError
import PyProof.AttrMissHeap
import PyProof.Rows.SetFrom
import KE.KDictOf
import PyProof.DictWalks
import PyProof.Rows.DictUnroll
import PyProof.ExcInit
import PyProof.InstStoreFacts
import PyProof.FString
import OpenK.KCls
import PyProof.ListMulRoad
import PyProof.FactsAll.tuple_2
import PyProof.FactsAll.set
import PyProof.CollectWalk
import KE.KDictList
import PyProof.FactsAll.set_1
import PyProof.FactsAll.set_2
import PyProof.SetNew
import PyProof.MeetsSeq2
import PyProof.DictCompW
import PyProof.DictValues
import PyProof.AutoSeq1
import PyProof.FactsAll.list_3
import PyProof.DictItems
import PyProof.Rows.RegStrFacts
set_option Elab.async false
set_option maxRecDepth 100000
set_option maxHeartbeats 4000000
set_option linter.unusedVariables false
set_option linter.all false
local macro_rules|`(#[$xs,*])=>`(⟨$xs,*⟩)
local macro_rules|`(↑$x)=>`(some $x)
theorem Z.{u}{α:Sort u}{a:α}:a=a:=rfl
local macro_rules|`(nofun)=>`(by decide +kernel)
local macro_rules|`(⋯)=>`(by decide)
abbrev X0:List PySem.Str:=["_law_box_here","_law_many"]
abbrev X1:List PySem.Str:=["one","first","other","second"]
abbrev X2:List PySem.Str:=["_law_own","_law_plain_here"]
abbrev X3:List PySem.Str:=["self","button","age","count"]
abbrev X4:List PySem.Str:=["self","table","keys","near","far","most"]
abbrev X5:List PySem.Str:=["_law_box_here","_law_drawn_here"]
abbrev X6:List PySem.Str:=["_law_code","_law_plain_here","_law_deed"]
abbrev X7:List PySem.Str:=["_law_box_here"]
abbrev X8:List PySem.Str:=["_law_code","_law_pair_here","_law_plain_here","_law_places"]
abbrev X9:List PySem.Str:=["table","key","digits"]
abbrev W0:List PySem.Str:=["button","age","count","near","far"]
abbrev W1:List PySem.Str:=["self","button","age"]
abbrev W3:List PySem.Str:=["_law_code","_law_pair_here","_law_name","_law_told"]
abbrev W4:List PySem.Str:=["_law_box_here","_law_drawn_here","_law_told"]
abbrev W5:List PySem.Str:=["thing"]
abbrev W6:List PySem.Str:=["self"]
abbrev W7:List PySem.Str:=["table","key","name","age","count","deed"]
abbrev W8:List PySem.Str:=["self","name"]
abbrev W9:List PySem.Str:=["_law_near","_law_far","_law_keys"]
abbrev V0:List PySem.Str:=["table","key","press"]
abbrev V1:List PySem.Str:=["self","age"]
abbrev V2:List PySem.Str:=["table","key","name"]
abbrev V3:List PySem.Str:=["self","thing"]
open PySem.W (Frag)
set_option compiler.extract_closed false
open PySem renaming wpAny_bind->Ja,wpAny_pure->Jd,sizeLine_eq->Ju,wpAny_mono->Jw,wpAny_holding->JI,wpAny_newObj_type->J3,wpAny_call_entry->J5,boot_len->J6,wpAny_standAt->E1,wpAny_field->E4,wpAny_rule->E7,wpAny_of_eq->E8,wpAny_setField->Ff,wpAny_truthy_bool->Fj,codeAny_builtin->Fo,mem_of_lookup->FA,isSubtype_type->FD,codeAny_mono->FE,call_meets->FG,wpAny_isInstance->FI,wpAny_specialOf->FK,wpAny_pyIter_list->FO,wpAny_pyIter_tuple->FP,wpAny_typeOf->FR,wpAny_loadPart'->FV,wpAny_attempt->FW,typeLookup_type->FX,builtinLookup_eq_fast->FY,wpAny_passesOwn->F6,wpAny_pyIter_enum->F8,wpAny_Call_Name_kw->Gf,wpAny_seqItems->Gk,tupleKind_room_in1->Gp,wpAny_pyIter_rangeiter->Gv,Value->Γ,Addr->Δ,Shared->Θ,Program->Ξ,Expr->Φ,Heap->Ψ,World->Ω,Builtin->γ,Stmt->δ,wpAny->ε,sizeLine->ζ,mainGlobals->η,starEach->θ
open List renaming length_map->Je,getElem?_eq_getElem->Jg,mem_singleton->Jh,mem_cons->Jm,getElem?_map->Jn,size_toArray->Jr,getElem?_eq_some_iff->Js,mem_map->Jt,length_append->Jv,getD_eq_getElem?_getD->Jz,mem_cons_self->JB,not_mem_nil->JE,map_append->JK,mem_append->JL,mem_cons_of_mem->JM,length_cons->JN,mem_of_getElem?->JP,filterMap_cons->JR,map_cons->JS,getElem?_append_left->JT,mem_append_right->JV,getElem?_append_right->JY,mem_range->J1,lookup_cons->J7,take_add_one->J9,any_cons->ES,map_map->ET,length_take->EX,append_nil->E3,take_length->E5,length_singleton->Fd,nodup_cons->Fg,append_assoc->Fh,getElem_mem->Fi,length_set->Fl,nodup_append->Fv,all_eq_true->FC,length_drop->FF,map_congr_left->FJ,mem_append_left->FN,map_nil->FS,replicate_succ->FU,find?_cons->FZ,nodup_nil->Gb,getElem?_set_self->Gd,getElem?_set_ne->Ge,flatten_cons->Gi,take_of_length_le->Gn,any_eq_true->Gq,getElem?_range->Gu,length_replicate->Gw,getElem?_eq_none->GB,getElem?_append->GG
open Nat renaming le_refl->Jf,ne_of_lt->Jk,zero_le->Jy,le_trans->JG,lt_of_lt_of_le->JO,lt_irrefl->EU,ne_of_gt->EV,lt_succ_of_lt->EY,lt_succ_self->E2,le_succ->Fk,le_of_lt->F5,le_of_not_lt->F7
open PySem.Heap renaming lt_size->Jj,get?_push_of_some->Jl,get?_push_size->Jq,size_push->JX,get?_update_self->FB,get?_update_other->FT
open Bool renaming and_eq_true->JC,false_ne_true->JJ,false_and->EW,true_and->E6,eq_iff_iff->Fb,eq_false_iff->Gc
open PySem.W renaming mg_none_of->JU,kia_one->J4,mg_of->Fw,Frag->ι
open Option renaming map_eq_some_iff->JZ,getD_some->Fn,isSome_iff_exists->Gg
open PyProof.Rows renaming boot_tuple->J0,boot_list->FM,callWith_type1->FQ,boot_isinstance->F0,boot_max->F4,slot_tuple_getitem->Gh,boot_int->GD,boot_all->GF
open PySem.F renaming plainAttrs_list->EZ,slot_list_append->Fx,type_list_append->Fy,slot_tuple_iterator_next->Gj,slot_tuple_add->Gx,entry_tuple_add->Gy,args_tuple_add_2->Gz,slot_dict_get->GC
open Int renaming toNat_natCast->Fe,emod_nonneg->Fp,emod_lt_of_pos->Ft,le_refl->F3
open PySem.Obj renaming data_mapFields->FH,isFreed_of_fields->Gm
namespace L0
abbrev _root_.Α:=List PySem.Str
abbrev _root_.Β:=List Int
abbrev _root_.Ζ:=List Γ
abbrev _root_.Η:=List Δ
abbrev _root_.Ι:=List Φ
abbrev _root_.Κ:=List Nat
abbrev _root_.Λ:=Option Int
abbrev _root_.Ν:=Option Γ
abbrev _root_.Τ:=List PySem.Env
abbrev _root_.Υ:=List Bool
abbrev _root_.Χ:=Option Nat
abbrev _root_.μ:=Option Δ
abbrev _root_.ν:=Option Φ
abbrev _root_.ξ:=List PySem.Keyword
abbrev Jb:=@if_neg
abbrev Jc:=@if_pos
abbrev Ji:=@decide_eq_true
abbrev Jo:=@decide_eq_false
abbrev Jx:=@of_decide_eq_true
abbrev JD:=@if_false
abbrev JF:=@or_false
abbrev JH:=@congrArg
abbrev JW:=@beq_iff_eq
abbrev E9:=@beq_eq_false_iff_ne
abbrev Fc:=@if_true
abbrev Fu:=@beq_self_eq_true
abbrev FL:=@beq_false_of_ne
abbrev F9:=@decide_eq_true_iff
abbrev Jp:=@Array.length_toList
abbrev JA:=@Option.some.inj
abbrev JQ:=@PySem.PassesOwn.never
abbrev J8:=@PySem.Heap.SameBut.update
abbrev Ga:=@PySem.Around.in1_units
abbrev GA:=@PySem.Calls.callWith_builtin
end L0
open L0
namespace L0
open PySem
abbrev GP:=Γ->Θ->Prop
abbrev GQ:=Str->Ν
abbrev GR:=List (Δ×Obj)
end L0
open L0
namespace L2
open PySem PySem.Spec PyProof.Rows
abbrev qJ:=Sum Int Str
def eV:qJ->Γ->Bool
 | .inl k,v=>Γ.isInt k v
 | .inr x,v=>Γ.isStrOf x v
def Ey(w:Ω):qJ->Int
 | .inl k=>hashInt k
 | .inr x=>hashStr w x
theorem zH:∀{k:qJ} {v:Γ},eV k v=true->(∃i t,k=Sum.inl i/\v=Γ.int i t)\/(∃x t,k=Sum.inr x/\v=Γ.str x t)
 | .inl i,v,h=>by
  obtain⟨t,e⟩:=Γ.isInt_shape (k:=i) (v:=v) h
  exact .inl #[i,t,Z,e]
 | .inr x,v,h=>by
  obtain⟨t,e⟩:=Γ.isStrOf_shape (x:=x) (v:=v) h
  exact .inr #[x,t,Z,e]
theorem uy(i:Int)(t:Tok):eV (.inl i) (.int i t)=true:=by simp [eV,Γ.isInt]
theorem vi(x:Str)(t:Tok):eV (.inr x) (.str x t)=true:=by simp [eV,Γ.isStrOf]
theorem B3(a b:Int):decide ((Sum.inl a:qJ)=Sum.inl b)=(a==b):=by
 by_cases e:a=b
 ·subst e;simp
 ·have h:¬(Sum.inl a:qJ)=Sum.inl b:=λq=>e (Sum.inl.inj q)
  rw[Jo h]
  exact(E9.mpr e).symm
theorem Cl(a b:Str):decide ((Sum.inr a:qJ)=Sum.inr b)=decide (a=b):=by
 by_cases e:a=b
 ·subst e;simp
 ·have h:¬(Sum.inr a:qJ)=Sum.inr b:=λq=>e (Sum.inr.inj q)
  rw[Jo h,Jo e]
theorem B8(a:Int)(b:Str):decide ((Sum.inl a:qJ)=Sum.inr b)=false:=Jo (λq=>nomatch q)
theorem CM(a:Str)(b:Int):decide ((Sum.inr a:qJ)=Sum.inl b)=false:=Jo (λq=>nomatch q)
def qN(prog:Ξ)(w:Ω):PySem.KeyKind prog w qJ where
 is:=eV
 hash:=Ey w
 inj:=λv a b g d=>by
  rcases zH g with⟨i,t,rfl,rfl⟩|⟨x,t,rfl,rfl⟩
  ·rcases zH d with⟨j,u,rfl,e⟩|⟨y,u,rfl,e⟩
   ·injection e with e1 _;rw[e1]
   ·exact nomatch e
  ·rcases zH d with⟨j,u,rfl,e⟩|⟨y,u,rfl,e⟩
   ·exact nomatch e
   ·injection e with e1 _;rw[e1]
 byValue:=λk v h=>by
  rcases zH h with⟨i,t,rfl,rfl⟩|⟨x,t,rfl,rfl⟩<;>rfl
 pyHash:=λc h=>by
  rcases zH c with⟨i,t,rfl,rfl⟩|⟨x,t,rfl,rfl⟩
  ·exact wpAny_pyHash_int h
  ·exact wpAny_pyHash_str h
 eqBool:=λf c h=>by
  rcases zH f with⟨i,t,rfl,rfl⟩|⟨x,t,rfl,rfl⟩
  ·rcases zH c with⟨j,u,rfl,rfl⟩|⟨y,u,rfl,rfl⟩
   ·rw[B3]at h;exact wpAny_eqBool_int h
   ·rw[B8]at h;exact SeqAt.EqAt.int_str i t y u _ _ _ _ h
  ·rcases zH c with⟨j,u,rfl,rfl⟩|⟨y,u,rfl,rfl⟩
   ·rw[CM]at h;exact SeqAt.EqAt.str_int x t j u _ _ _ _ h
   ·rw[Cl]at h;exact wpAny_eqBool_str h
 «strs»:=λk x t v h=>by
  rcases zH h with⟨i,u,rfl,e⟩|⟨y,u,rfl,e⟩
  ·exact nomatch e
  ·injection e with e1 _
   subst e1;cases v<;>rfl
theorem nw(prog:Ξ)(w:Ω)(i:Int)(t:Tok):(qN prog w).is (.inl i) (.int i t)=true:=uy i t
theorem nK(prog:Ξ)(w:Ω)(x:Str)(t:Tok):(qN prog w).is (.inr x) (.str x t)=true:=vi x t
inductive V where
 |non|bl (b:Bool)|int (i:Int)|str (x:Str)|byt (b:Array UInt8)|flt (b:UInt64)|ref (a:Δ)|ty (n:String)
 deriving DecidableEq
abbrev _root_.Μ:=Option V
abbrev _root_.Ε:=List V
def G8:V->Γ->Prop
 | .non,u=>u=Γ.none
 | .bl b,u=>u=Γ.bool b
 | .int i,u=>∃t,u=Γ.int i t
 | .str x,u=>∃t,u=Γ.str x t
 | .byt b,u=>∃t,u=Γ.bytes b t
 | .flt b,u=>∃t,u=Γ.float b t
 | .ref a,u=>u=Γ.ref a
 | .ty n,u=>u=Γ.type n
abbrev GZ:Ε->Ζ->Prop:=Paired G8
theorem GZ.length{xs:Ε}{us:Ζ}(r:GZ xs us):xs.length=us.length:=Paired.length r
theorem GZ.get:∀{xs:Ε} {us:Ζ} {i:Nat} {x:V},GZ xs us->xs[i]? =↑x->∃u,us[i]? =↑u/\G8 x u
 |_,_,_,_,.nil,e=>by simp at e
 |_,_,0,_,.cons r _,e=>by simp at e;subst e;exact#[_,Z,r]
 |_,_,i+1,x,.cons _ t,e=>by
  obtain⟨u,h1,a⟩:=GZ.get (i:=i) (x:=x) t (by simpa using e)
  exact#[u,by simpa using h1,a]
theorem GZ.set{x:V}{u:Γ}(r:G8 x u):∀{xs:Ε} {us:Ζ} (i:Nat),GZ xs us->GZ (xs.set i x) (us.set i u)
 |_,_,_,.nil=> .nil
 |_,_,0,.cons _ t=> .cons r t
 |_,_,i+1,.cons q t=> .cons q (GZ.set r i t)
theorem GZ.append:∀{xs ys:Ε} {us a:Ζ},GZ xs us->GZ ys a->GZ (xs++ys) (us++a)
 |_,_,_,_,.nil,s=>s
 |_,_,_,_,.cons r t,s=> .cons r (GZ.append t s)
theorem GZ.take:∀{xs:Ε} {us:Ζ} (n:Nat),GZ xs us->GZ (xs.take n) (us.take n)
 |_,_,0,_=> .nil
 |_,_,_+1,.nil=> .nil
 |_,_,n+1,.cons r t=> .cons r (GZ.take n t)
theorem GZ.drop:∀{xs:Ε} {us:Ζ} (n:Nat),GZ xs us->GZ (xs.drop n) (us.drop n)
 |_,_,0,r=>r
 |_,_,_+1,.nil=> .nil
 |_,_,n+1,.cons _ t=>GZ.drop n t
def IM:Μ->Ν->Prop
 |some v,↑u=>G8 v u
 |none,none=>True
 |_,_=>False
def KV{κ:Type}:List (κ×V)->List (κ×Γ)->Prop:=Paired λ(p:κ×V) (q:κ×Γ)=>p.1=q.1/\G8 p.2 q.2
def kV:qJ->V
 | .inl i=> .int i
 | .inr x=> .str x
inductive HO where
 |lst (xs:Ε)
 |tup (xs:Ε)
 |dK (kvs:List (qJ×V))|dT (kvs:List (List qJ×V))
 |set (S:Int->Bool) (n:Nat)
 |ins (C dx:Δ) (fs:List (Str×V))
 |own (x:Δ)
 |xd (fs:List (Str×V))
 |met (f x:Δ)
 |rng (lo hi:Int)
 |frz (o:Obj) (u:HO)
 |tbl (ps:Array Γ)
 |ext (φ:Ψ->Prop)
abbrev Hp:=Δ->Option HO
def GW(H:Hp)(a:Δ)(o:HO):Hp:=λb=>if b=a then ↑o else H b
theorem qc{H:Hp}{a:Δ}{o:HO}:GW H a o a=↑o:=by unfold GW;rw[Jc Z]
theorem qm{H:Hp}{a b:Δ}{o:HO}(h:b≠a):GW H a o b=H b:=by unfold GW;rw[Jb h]
theorem zG{H:Hp}{a b:Δ}{o u:HO}(h:H a=↑o)(h':H b=↑u)(d:o≠u):a≠b:=by
 intro e;subst e;rw[h]at h';exact d (JA h')
theorem qo{H:Hp}{a b:Δ}{o:HO}(h:H a=↑o)(h':H b=none):a≠b:=by
 intro e;subst e;rw[h]at h';cases h'
section
variable(P:Ξ)(w:Ω)
def Hv(H:Hp)(h:Ψ)(a:Δ):HO->Prop
 | .lst xs=>xs.length<=ζ/\∃(its:Ζ) (n:Nat),GZ xs its/\h.get? a=some {cls:= .type "list",data:= .seq its.toArray n}
 | .tup xs=>xs.length<=ζ/\∃its:Ζ,GZ xs its/\IsTup h a its.toArray
 | .dK kvs=>kvs.length<=ζ/\(a==sysModules)=false/\∃vs,KV kvs vs/\h.DictOf (qN P w) a vs
 | .dT kvs=>kvs.length<=ζ/\(a==sysModules)=false/\∃xs:List (List qJ×Δ×Γ),
   Paired (λ(p:List qJ×V) (q:List qJ×Δ×Γ)=>p.1=q.1/\H q.2.1=↑(.tup (p.1.map kV))/\G8 p.2 q.2.2) kvs xs/\
   ∃o es ep,h.get? a=↑o/\o.ExactDict/\o.data= .dict es ep/\es.toList=xs.map (entryOfKey (tupleKind (qN P w)))/\(xs.map (·.1)).Nodup
 | .set S n=>h.SetOf (intKind P w) a S n
 | .ins C dx fs=>H dx=↑(.own a)/\fs.length<=1000/\dx≠a/\h.get? a=↑(PySem.W.instObj C dx)/\
   ∃mA,h.Ns1 dx mA/\(∀f,IM (fs.lookup f) (mA f))/\PySem.Within mA (fs.map (·.1))
 | .own _=>∃o,h.get? a=↑o
 | .xd fs=>∃mA,h.Ns1 a mA/\∀f,IM (fs.lookup f) (mA f)
 | .rng lo hi=>∃t u v,h.get? a=some {cls:= .type "range",data:= .fields (List.toArray [.int lo t,.int hi u,.int 1 v])}
 | .frz o u=>h.get? a=↑o/\Hv H h a u
 | .tbl ps=>h.get? a=some {cls:= .none,data:= .fields ps}
 | .met f x=>h.get? a=↑(PySem.W.methodObj (.ref f) (.ref x))
 | .ext φ=>φ h/\(∃o,h.get? a=↑o)/\∀h1 c:Ψ,φ h1->(∀o,h1.get? a=↑o->c.get? a=↑o)->φ c
def IZ(H:Hp)(h:Ψ):Prop:=∀a o,H a=↑o->Hv P w H h a o
end
section
variable{P:Ξ}{w:Ω}{H H':Hp}{h h':Ψ}{a:Δ}{o:HO}
theorem Hv.lt(x:Hv P w H h a o):a<h.objs.size:=by
 cases o with
 |lst xs=>obtain⟨_,_,_,_,e⟩:=x;exact Jj e
 |tup xs=>obtain⟨_,_,_,p⟩:=x;exact p.lt
 |dK kvs=>obtain⟨_,_,_,_,o,_,_,e,_⟩:=x;exact Jj e
 |dT kvs=>obtain⟨_,_,_,_,o,_,_,e,_⟩:=x;exact Jj e
 |set S n=>obtain⟨o,_,_,_,e,_⟩:=x;exact Jj e
 |ins C dx fs=>obtain⟨_,_,_,e,_⟩:=x;exact Jj e
 |own y=>obtain⟨_,e⟩:=x;exact Jj e
 |xd fs=>obtain⟨_,⟨_,_,_,e,_⟩,_⟩:=x;exact Jj e
 |rng lo hi=>obtain⟨_,_,_,e⟩:=x;exact Jj e
 |frz ob u=>obtain⟨e,_⟩:=x;exact Jj e
 |tbl ps=>exact Jj (show h.get? a=↑_ from x)
 |met f y=>exact Jj (show h.get? a=↑_ from x)
 |ext φ=>obtain⟨_,⟨_,e⟩,_⟩:=x;exact Jj e
theorem Paired.mapP{d c:Type}{F G:d->c->Prop}:∀{l₁:List d} {l₂:List c},Paired F l₁ l₂->(∀a b,F a b->G a b)->Paired G l₁ l₂
 |_,_,.nil,_=> .nil
 |_,_,.cons r t,f=> .cons (f _ _ r) (Paired.mapP t f)
theorem Hv.stay(x:Hv P w H h a o)(k:∀b u,(b=a\/H b=↑(.own a))->h.get? b=↑u->h'.get? b=↑u)
  (ho:∀b,H b=↑(.own a)->H' b=↑(.own a))(l:∀b xs,H b=↑(.tup xs)->H' b=↑(.tup xs)):Hv P w H' h' a o:=by
 induction o with
 |lst xs=>obtain⟨z,i,n,r,e⟩:=x;exact#[z,i,n,r,k _ _ (.inl Z) e]
 |tup xs=>obtain⟨z,i,r,g,e,c⟩:=x;exact#[z,i,r,g,k _ _ (.inl Z) e,c]
 |dK kvs=>obtain⟨z,y,vs,r,g,es,ep,e,c⟩:=x;exact#[z,y,vs,r,g,es,ep,k _ _ (.inl Z) e,c]
 |dT kvs=>
  obtain⟨z,y,xs,r,g,es,ep,e,c⟩:=x
  exact#[z,y,xs,Paired.mapP r λp q z=>#[z.1,l _ _ z.2.1,z.2.2],g,es,ep,k _ _ (.inl Z) e,c]
 |set S n=>obtain⟨g,es,ep,t,e,c⟩:=x;exact#[g,es,ep,t,k _ _ (.inl Z) e,c]
 |ins C dx fs=>
  obtain⟨d,z,m,e,mA,⟨od,es,ep,j,c⟩,r⟩:=x
  exact#[ho _ d,z,m,k _ _ (.inl Z) e,mA,#[od,es,ep,k _ _ (.inr d) j,c],r]
 |own y=>obtain⟨g,e⟩:=x;exact#[g,k _ _ (.inl Z) e]
 |xd fs=>obtain⟨mA,⟨od,es,ep,e,c⟩,r⟩:=x;exact#[mA,#[od,es,ep,k _ _ (.inl Z) e,c],r]
 |rng lo hi=>obtain⟨t,u,v,e⟩:=x;exact#[t,u,v,k _ _ (.inl Z) e]
 |frz g u ih=>obtain⟨e,q⟩:=x;exact#[k _ _ (.inl Z) e,ih q]
 |tbl ps=>
  have e:h.get? a=some {cls:= .none,data:= .fields ps}:=x
  show h'.get? a=some {cls:= .none,data:= .fields ps}
  exact k a _ (.inl Z) e
 |met f y=>
  have e:h.get? a=↑(W.methodObj (.ref f) (.ref y)):=x
  show h'.get? a=↑(W.methodObj (.ref f) (.ref y))
  exact k a _ (.inl Z) e
 |ext φ=>obtain⟨p,⟨o,e⟩,st⟩:=x;exact#[st _ _ p λo q=>k _ _ (.inl Z) q,#[o,k _ _ (.inl Z) e],st]
theorem IZ.lt(x:IZ P w H h)(e:H a=↑o):a<h.objs.size:=(x a o e).lt
theorem IZ.fresh(x:IZ P w H h)(e:h.objs.size<=a):H a=none:=by
 cases q:H a with
 |none=>rfl
 |some u=>exact absurd (JO (x.lt q) e) (EU _)
theorem IZ.kept(x:IZ P w H h)(k:∀b u,h.get? b=↑u->h'.get? b=↑u):IZ P w H h':=λa o e=>
 (x a o e).stay (λb u _ q=>k b u q) (λ_ q=>q) λ_ _ q=>q
theorem IZ.laid(x:IZ P w H h)(k:∀b u,h.get? b=↑u->h'.get? b=↑u)(hp:h.objs.size<=a)(d:Hv P w (GW H a o) h' a o):IZ P w (GW H a o) h':=λb u e=>by
 have g:=x.fresh hp
 by_cases f:b=a
 ·subst f;rw[qc]at e;cases e;exact d
 ·rw[qm f]at e
  exact(x b u e).stay (λc v _ q=>k c v q) (λc q=>by rw[qm (qo q g)];exact q) λc xs q=>by rw[qm (qo q g)];exact q
end
def Rd(H:Hp)(a:Δ)(u:HO):Prop:=H a=↑u\/∃o,H a=↑(.frz o u)
theorem Rd.ok{P:Ξ}{w:Ω}{H:Hp}{h:Ψ}{a:Δ}{u:HO}(r:Rd H a u)(x:IZ P w H h):Hv P w H h a u:=by
 rcases r with r|⟨o,r⟩
 ·exact x a u r
 ·obtain⟨_,q⟩:=x a _ r
  exact q
def vH:Option HO->Prop
 |some (.lst _)=>True
 |some (.dK _)=>True
 |some (.dT _)=>True
 |some (.set _ _)=>True
 |some (.ins _ _ _)=>True
 |some (.ext _)=>True
 |_=>False
section
variable{P:Ξ}{w:Ω}{H:Hp}{h h':Ψ}{x e:Δ}{o':HO}
theorem IZ.write(ok:IZ P w H h)(g:vH (H x))(he:e=x\/H e=↑(.own x))(k:∀b u,b≠e->h.get? b=↑u->h'.get? b=↑u)(m:∃u,h'.get? e=↑u)
  (l:Hv P w (GW H x o') h' x o'):IZ P w (GW H x o') h':=λb u q=>by
 have d:∀c y,H c=↑(.own y)->c≠x:=λc y r z=>by subst z;rw[r]at g;exact g
 have f:∀c xs,H c=↑(.tup xs)->c≠x:=λc xs r z=>by subst z;rw[r]at g;exact g
 by_cases i:b=x
 ·subst i;rw[qc]at q;cases q;exact l
 ·rw[qm i]at q
  by_cases a:b=e
  ·have n:H b=↑(.own x):=by
    rcases he with z|z
    ·exact absurd (a.trans z) i
    ·rw[a];exact z
   rw[q]at n;cases n
   obtain⟨v,o⟩:=m
   exact#[v,by rw[a];exact o]
  ·refine(ok b u q).stay (λc v j r=>k c v ?_ r) (λc r=>by rw[qm (d c b r)];exact r) λc xs r=>by rw[qm (f c xs r)];exact r
   rcases j with rfl|j
   ·exact a
   ·rintro rfl
    rcases he with z|z
    ·exact d c b j z
    ·rw[j]at z;cases z;exact i Z
end
structure Un(fs ex:Η)(H H':Hp)(h h':Ψ):Prop where
 keep:∀b o,h.get? b=↑o->H b=none->b∉fs->b∉ex->h'.get? b=↑o
 slot:∀b o,h.get? b=↑o->H b=none->b∈fs->b∉ex->∃sl,h'.get? b=some {o with slots:=sl}
 free:∀b o,h.get? b=↑o->H b=none->b∉ex->H' b=none
 there:∀b o,h.get? b=↑o->b∉ex->∃o',h'.get? b=↑o'
 tups:∀b xs,H b=↑(.tup xs)->H' b=↑(.tup xs)
 frzs:∀b o u,H b=↑(.frz o u)->H' b=↑(.frz o u)
 tbls:∀b ps,H b=↑(.tbl ps)->∃more,H' b=↑(.tbl (ps++more))
section
variable{fs ex:Η}{H H1:Hp}{h h1 h':Ψ}{a x e:Δ}{o:HO}
theorem Un.any(u:Un fs ex H H1 h h1){b:Δ}{ob:Obj}(q:h.get? b=↑ob)(n:H b=none)(hx:b∉ex):∃c,h1.get? b=some {ob with slots:=c}:=by
 by_cases a:b∈fs
 ·exact u.slot b ob q n a hx
 ·exact#[ob.slots,u.keep b ob q n a hx]
theorem Un.kept(k:∀b u,h.get? b=↑u->h'.get? b=↑u):Un fs ex H H h h':=
 #[λb a q _ _ _=>k b a q,λb a q _ _ _=>#[a.slots,k b a q],λ_ _ _ n _=>n,λb a q _=>#[a,k b a q],λ_ _ q=>q,λ_ _ _ q=>q,λ_ ps q=>#[(List.toArray []),by rw[q];simp]]
theorem Un.refl:Un fs ex H H h h:=Un.kept λ_ _ q=>q
theorem Un.laid(k:∀b u,h.get? b=↑u->h'.get? b=↑u)(hp:h.objs.size<=a)(hn:H a=none):Un fs ex H (GW H a o) h h' where
 keep:=λb u q _ _ _=>k b u q
 slot:=λb u q _ _ _=>#[u.slots,k b u q]
 free:=λb u q n _=>by rw[qm (Jk (JO (Jj q) hp))];exact n
 there:=λb u q _=>#[u,k b u q]
 tups:=λb xs q=>by rw[qm (qo q hn)];exact q
 frzs:=λb u xs q=>by rw[qm (qo q hn)];exact q
 tbls:=λb ps q=>#[(List.toArray []),by rw[qm (qo q hn),q];simp]
theorem Un.write(c:vH (H x))(he:e=x\/H e=↑(.own x))(k:∀b u,b≠e->h.get? b=↑u->h'.get? b=↑u)(d:∃u,h'.get? e=↑u):Un fs ex H (GW H x o) h h':=by
 have i:∀b,H b=none->b≠x:=λb n z=>by subst z;rw[n]at c;exact c
 have g:∀b,H b=none->b≠e:=λb n z=>by
  subst z;rcases he with r|r
  ·exact i b n r
  ·rw[n]at r;cases r
 have f:∀b u,H b=↑u->¬vH ↑u->b≠x:=λb u q nm z=>by subst z;rw[q]at c;exact nm c
 refine#[λb u q n _ _=>k b u (g b n) q,λb u q n _ _=>#[u.slots,k b u (g b n) q],λb u q n _=>by rw[qm (i b n)];exact n,λb u q _=>?_,
  λb xs q=>by rw[qm (f b _ q λz=>z)];exact q,λb u xs q=>by rw[qm (f b _ q λz=>z)];exact q,λb ps q=>#[(List.toArray []),by rw[qm (f b _ q λz=>z),q];simp]]
 by_cases a:b=e
 ·subst a;exact d
 ·exact#[u,k b u a q]
end
def yR(h:Ψ)(H:Hp):Η:=(List.range h.objs.size).filter λa=>(H a).isSome
def bW(h:Ψ)(H:Hp):Ψ:=PySem.W.hideAll h (yR h H)
theorem ua(h:Ψ)(H:Hp):(bW h H).objs.size=h.objs.size:=W.hideAll_size _ _
theorem xv{h:Ψ}{H:Hp}{b:Δ}{o:Obj}(e:h.get? b=↑o)(n:H b=none):(bW h H).get? b=↑o:=
 W.hideAll_get _ e λa=>by
  have q:(H b).isSome=true:=(List.mem_filter.mp a).2
  rw[n]at q;simp at q
theorem AS{h:Ψ}{H:Hp}{b:Δ}{o:Obj}(e:(bW h H).get? b=↑o):h.get? b=↑o/\H b=none:=by
 have a:h.get? b=↑o:=W.of_hideAll (yR h H) e
 refine#[a,?_]
 cases q:H b with
 |none=>rfl
 |some x=>
  have c:b∈yR h H:=List.mem_filter.mpr #[J1.mpr (Jj a),by simp [q]]
  have z:(bW h H).get? b=none:=W.hideAll_none (yR h H) c
  rw[z]at e;cases e
structure N0(K:ι)(mg:GQ)(base:Ψ):Prop where
 kin:K.In base
 glob:base.Ns η mg
 blt:∃mb,base.Ns builtinsNs mb/\∀x:Str,x≠"__name__"->mb x=bootBuiltins x
 nolimit:base.NoLimit
structure Cx where
 prog:Ξ
 w:Ω
 K:ι
 mg:Str->Ν
 base:Ψ
 A:Around
 N:Α
 s₀:Θ
 H₀:Hp
 env:Env
 outer:Τ
 stack:Τ
 ex:Η
 fn:Str->Bool
 calm:Bool
 pn:List (Δ×Obj)
 xe:Γ->Θ->Prop
def ar(l:Τ):Η:=l.filterMap (·.frame)
abbrev Cx.fs(X:Cx):Η:=ar X.outer
def BV(a:Scope)(x:Str):Prop:=a.names.lookup x=some .local\/a.names.lookup x=some .cell\/a.names.lookup x=some .free
def cH(a:Scope)(x:Str):Prop:=a.names.lookup x=some .local\/a.names.lookup x=some .cell
def Ex(a:Env)(h:Ψ)(m:GQ)(x:Str)(u:Γ):Prop:=
 (a.kindOf x=some .local/\m x=↑u)\/((a.kindOf x=some .cell\/a.kindOf x=some .free)/\∃c,a.cells.lookup x=↑c/\h.IsCell c ↑u)
structure Cx.Ok(X:Cx):Prop where
 mod:N0 X.K X.mg X.base
 kind:X.env.scope.kind= .function
 glob:X.env.globals=η
 blt:X.env.builtins=builtinsNs
 above:X.s₀.heap.objs.size<=X.env.locals
 inj:∀x y c,X.env.cells.lookup x=↑c->X.env.cells.lookup y=↑c->x=y
 has:∀x,(X.env.kindOf x=some .cell\/X.env.kindOf x=some .free)->∃c,X.env.cells.lookup x=↑c
 cab:∀x c,X.fn x=true->X.env.cells.lookup x=↑c->X.s₀.heap.objs.size<=c
 hd:X.calm=true->X.A.handled=none
 frames:X.A.frames=↑X.stack
 stk:X.stack=X.outer\/(X.stack=X.env::X.outer/\X.env.frame=↑X.env.locals)
 exf:∀b∈X.ex,b≠X.env.locals/\∀x c,X.env.cells.lookup x=↑c->c≠b
 bs:∀b o,X.base.get? b=↑o->X.s₀.heap.get? b=↑o/\X.H₀ b=none
 bsz:X.base.objs.size<=X.s₀.heap.objs.size
 noex:∀b o,X.base.get? b=↑o->b∉X.ex
 exfs:∀b∈X.ex,b∉X.fs
 funs:X.s₀.heap.FunFrames X.base X.outer
 frf:∀b∈X.fs,X.H₀ b=none
structure GX(X:Cx)(Oa:GR)(σ:List Μ)(H:Hp)(s:Θ):Prop where
 ok:X.Ok
 os:s.os=X.s₀.os
 bare:AllBare s.gens
 base:Un X.fs X.ex X.H₀ H X.s₀.heap s.heap
 loc:∃m,s.heap.Ns X.env.locals m/\∀(i:Nat) (x:Str) (v:V),X.N[i]? =↑x->σ[i]? =↑(↑v)->BV X.env.scope x->∃u,G8 v u/\Ex X.env s.heap m x u
 cell:∀x c,X.env.cells.lookup x=↑c->∃v,s.heap.IsCell c v
 free:H X.env.locals=none
 freeC:∀x c,X.env.cells.lookup x=↑c->H c=none
 pin:∀p∈X.pn++Oa,s.heap.get? p.1=↑p.2/\H p.1=none/\p.1≠X.env.locals/\p.1∉X.fs/\∀v,p.2.data≠ .cell v
 hok:IZ X.prog X.w H s.heap
 len:σ.length=X.N.length
section
variable{X:Cx}{Oa:GR}{σ:List Μ}{H H':Hp}{s:Θ}{h':Ψ}
theorem Cx.Ok.nofr(ok:X.Ok){b:Δ}{o:Obj}(e:X.base.get? b=↑o):b∉X.fs:=λa=>by
 have:=(ok.funs.mem a).1
 rw[e]at this;cases this
theorem GX.bs(I:GX X Oa σ H s):∀b o,X.base.get? b=↑o->s.heap.get? b=↑o/\H b=none:=λb o e=>
 #[I.base.keep b o (I.ok.bs b o e).1 (I.ok.bs b o e).2 (I.ok.nofr e) (I.ok.noex b o e),I.base.free b o (I.ok.bs b o e).1 (I.ok.bs b o e).2 (I.ok.noex b o e)]
theorem GX.bk(I:GX X Oa σ H s):∀b o,X.base.get? b=↑o->s.heap.get? b=↑o:=λb o e=>(I.bs b o e).1
theorem GX.mod(I:GX X Oa σ H s):N0 X.K X.mg X.base:=I.ok.mod
theorem GX.kIn(I:GX X Oa σ H s):X.K.In s.heap:=I.ok.mod.kin.keeps I.bk
theorem GX.lt(I:GX X Oa σ H s):X.env.locals<s.heap.objs.size:=let⟨_,hn,_⟩:=I.loc;hn.lt
theorem GX.sz(I:GX X Oa σ H s):X.s₀.heap.objs.size<=s.heap.objs.size:=JG I.ok.above (F5 I.lt)
theorem GX.nofs(I:GX X Oa σ H s){a:Δ}(h:s.heap.objs.size<=a):a∉X.fs:=λc=>by
 obtain⟨_,o,d,_⟩:=I.ok.funs.mem c;exact absurd (JO (Jj d) (JG I.sz h)) (EU _)
theorem GX.cne(I:GX X Oa σ H s):∀x c,X.env.cells.lookup x=↑c->c≠X.env.locals:=λx c e z=>by
 obtain⟨v,o,g,f⟩:=I.cell x c e;obtain⟨m,⟨o',es,ep,a,d,_⟩,_⟩:=I.loc;rw[z,a]at g;cases g;rw[d]at f;cases f
theorem GX.funs(I:GX X Oa σ H s):s.heap.FunFrames X.base X.outer:=by
 have all:∀(l:Τ),(∀b∈ar l,b∈X.fs)->X.s₀.heap.FunFrames X.base l->s.heap.FunFrames X.base l:=by
  intro l
  induction l with
  |nil=>intro _ _;trivial
  |cons env r ih=>
   intro f m;obtain⟨hk,⟨L,o,c,h,g,j⟩,i⟩:=m;have a:L∈X.fs:=f L (by unfold ar;rw[JR,c];exact JB)
   obtain⟨n,e⟩:=I.base.slot L o g (I.ok.frf L a) a λz=>I.ok.exfs L z a
   exact#[hk,#[L,_,c,h,e,j],ih (λb d=>f b (by unfold ar;rw[JR,c];exact JM _ d)) i]
 exact all X.outer (λ_ d=>d) I.ok.funs
theorem GX.stack(I:GX X Oa σ H s):s.heap.FunFrames X.base X.stack:=by
 rcases I.ok.stk with e|⟨e,c⟩
 ·rw[e];exact I.funs
 ·rw[e]
  obtain⟨m,a,_⟩:=I.loc;refine .cons (by rw[I.ok.kind];decide) c a ?_ I.funs
  exact Ψ.get?_none_of_le (JG I.ok.bsz I.ok.above)
theorem GX.stkSub(I:GX X Oa σ H s):∀b∈ar X.stack,b∈X.env.locals::X.fs:=λb a=>by
 rcases I.ok.stk with e|⟨e,c⟩
 ·rw[e]at a;exact JM _ a
 ·rw[e]at a
  unfold ar at a;rw[JR,c]at a;exact a
theorem GX.stkFree(I:GX X Oa σ H s):∀b∈ar X.stack,H b=none:=λb a=>by
 rcases Jm.mp (I.stkSub b a)with e|a
 ·rw[e];exact I.free
 ·obtain⟨_,o,c,_⟩:=I.ok.funs.mem a
  exact I.base.free b o c (I.ok.frf b a) λz=>I.ok.exfs b z a
theorem GX.step{g':Array GenState}{t':Nat}{d':Drawn}{ch:Η}(I:GX X Oa σ H s)
  (j:∀b∈ch,(b∈X.ex\/X.s₀.heap.objs.size<=b)/\b≠X.env.locals/\(∀x c,X.env.cells.lookup x=↑c->c≠b)/\∀p∈X.pn++Oa,p.1≠b)
  (keep:∀b o,b≠X.env.locals->b∉X.fs->b∉ch->s.heap.get? b=↑o->H b=none->h'.get? b=↑o)
  (y:∀b o,b≠X.env.locals->b∈X.fs->b∉ch->s.heap.get? b=↑o->H b=none->∃O,h'.get? b=some {o with slots:=O})(f:∀b o,b∉ch->s.heap.get? b=↑o->H b=none->H' b=none)
  (B:∀b o,b∉ch->s.heap.get? b=↑o->∃o',h'.get? b=↑o')
  (J:∀b xs,H b=↑(.tup xs)->H' b=↑(.tup xs))(F:∀b o u,H b=↑(.frz o u)->H' b=↑(.frz o u))(E:∀b ps,H b=↑(.tbl ps)->∃K,H' b=↑(.tbl (ps++K)))
  (ns:∀m,s.heap.Ns X.env.locals m->h'.Ns X.env.locals m)(M:IZ X.prog X.w H' h')(hg:AllBare g'):
  GX X Oa σ H' {s with heap:=h',gens:=g',drawn:=d',toks:=t'}:=by
 have D:∀b o,X.s₀.heap.get? b=↑o->b≠X.env.locals:=λb o e=>Jk (JO (Jj e) I.ok.above)
 have w:∀b o,X.s₀.heap.get? b=↑o->b∉X.ex->b∉ch:=λb o e a A=>by
  rcases(j b A).1 with z|z
  ·exact a z
  ·exact absurd (JO (Jj e) z) (EU _)
 have g:∀x c,X.env.cells.lookup x=↑c->∀v,s.heap.IsCell c v->h'.IsCell c v:=λx c e v ⟨o,C,L⟩=>by
  have h:c∉ch:=λz=>(j c z).2.2.1 x c e Z
  by_cases Q:c∈X.fs
  ·obtain⟨O,q⟩:=y c o (I.cne x c e) Q h C (I.freeC x c e)
   exact#[_,q,L]
  ·exact#[o,keep c o (I.cne x c e) Q h C (I.freeC x c e),L]
 refine#[I.ok,I.os,hg,#[λb o e n A a=>?_,λb o e n A a=>?_,λb o e n a=>?_,λb o e a=>?_,λb xs e=>J b xs (I.base.tups b xs e),λb o xs e=>F b o xs (I.base.frzs b o xs e),λb ps e=>?_],?_,λx c e=>?_,?_,λx c e=>?_,λp P=>?_,M,I.len]
 ·exact keep b o (D b o e) A (w b o e a) (I.base.keep b o e n A a) (I.base.free b o e n a)
 ·obtain⟨O,t⟩:=I.base.slot b o e n A a
  obtain⟨N,G⟩:=y b _ (D b o e) A (w b o e a) t (I.base.free b o e n a)
  exact#[N,G]
 ·obtain⟨o',t⟩:=I.base.there b o e a
  exact f b o' (w b o e a) t (I.base.free b o e n a)
 ·obtain⟨o',t⟩:=I.base.there b o e a
  exact B b o' (w b o e a) t
 ·obtain⟨Y,t⟩:=I.base.tbls b ps e
  obtain⟨W,G⟩:=E b _ t
  exact#[Y++W,by rw[G,Array.append_assoc]]
 ·obtain⟨m,U,hl⟩:=I.loc
  refine#[m,ns m U,λi x v t G T=>?_]
  obtain⟨u,r,l⟩:=hl i x v t G T;refine#[u,r,?_]
  rcases l with l|⟨k,c,e,z⟩
  ·exact .inl l
  ·exact .inr #[k,c,e,g x c e _ z]
 ·obtain⟨v,z⟩:=I.cell x c e
  exact#[v,g x c e v z]
 ·obtain⟨m,⟨o,_,_,C,_⟩,_⟩:=I.loc
  exact f _ o (λz=>(j _ z).2.1 Z) C I.free
 ·obtain⟨v,o,C,L⟩:=I.cell x c e
  exact f c o (λz=>(j c z).2.2.1 x c e Z) C (I.freeC x c e)
 ·obtain⟨e,n,S,R,d⟩:=I.pin p P
  have h:p.1∉ch:=λz=>(j p.1 z).2.2.2 p P Z
  exact#[keep p.1 p.2 S R h e n,f p.1 p.2 h e n,S,R,d]
theorem GX.un{t':Nat}(I:GX X Oa σ H s)(u:Un X.fs [] H H' s.heap h')(d:IZ X.prog X.w H' h'):GX X Oa σ H' {s with heap:=h',toks:=t'}:=by
 obtain⟨m,⟨o,es,ep,h,r⟩,_⟩:=id I.loc;obtain⟨q,j⟩:=u.any h I.free (by simp)
 exact I.step (g':=s.gens) (d':=s.drawn) (ch:=[]) (λ_ z=>nomatch z) (λb o _ f _ e n=>u.keep b o e n f (by simp)) (λb o _ f _ e n=>u.slot b o e n f (by simp)) (λb o _ e n=>u.free b o e n (by simp)) (λb o _ e=>u.there b o e (by simp)) u.tups u.frzs u.tbls (λp l=>by
  obtain⟨o',c,g,a,i⟩:=l;rw[h]at a;cases a
  exact#[_,c,g,j,i]) d I.bare
theorem GX.call{g':Array GenState}{t':Nat}{d':Drawn}{ch:Η}(I:GX X Oa σ H s)(u:Un (ar X.stack) ch H H' s.heap h')(h:IZ X.prog X.w H' h')(hg:AllBare g')
  (d:∀b∈ch,(b∈X.ex\/X.s₀.heap.objs.size<=b)/\b≠X.env.locals/\(∀x c,X.env.cells.lookup x=↑c->c≠b)/\∀p∈X.pn++Oa,p.1≠b):
  GX X Oa σ H' {s with heap:=h',gens:=g',drawn:=d',toks:=t'}:=by
 obtain⟨m,⟨o,es,ep,l,r⟩,_⟩:=id I.loc;obtain⟨y,i⟩:=u.any l I.free λz=>(d _ z).2.1 Z
 exact I.step (ch:=ch) d (λb o i t a e n=>u.keep b o e n (λz=>(Jm.mp (I.stkSub b z)).elim i t) a) (λb o _ _ a e n=>u.any e n a) (λb o a e n=>u.free b o e n a) (λb o a e=>u.there b o e a) u.tups u.frzs u.tbls (λw v=>by
  obtain⟨o',g,j,f,q⟩:=v;rw[l]at f;cases f
  exact#[_,g,j,i,q]) h hg
theorem GX.turned{t':Nat}{it:Δ}(I:GX X Oa σ H s)(k:∀b o,b≠it->s.heap.get? b=↑o->h'.get? b=↑o)(hn:H it=none)(f:it≠X.env.locals)
  (h1:it∈X.ex\/X.s₀.heap.objs.size<=it)(h2:∀x c,X.env.cells.lookup x=↑c->c≠it)(g:∀p∈X.pn++Oa,p.1≠it):GX X Oa σ H {s with heap:=h',toks:=t'}:=by
 have d:∀b u,H b=↑u->b≠it:=λb u e z=>by rw[z,hn]at e;cases e
 refine I.step (g':=s.gens) (d':=s.drawn) (ch:=[it]) (λb i=>?_) (λb o _ _ a e _=>k b o (λz=>a (by simp [z])) e) (λb o _ _ a e _=>#[o.slots,k b o (λz=>a (by simp [z])) e]) (λ_ _ _ _ n=>n)
  (λb o a e=>#[o,k b o (λz=>a (by simp [z])) e]) (λ_ _ e=>e) (λ_ _ _ e=>e) (λb ps e=>#[(List.toArray []),by rw[e];simp]) (λm j=>?_) (λb u e=>?_) I.bare
 ·have e:b=it:=by simpa using i
  subst e
  exact#[h1,f,h2,g]
 ·obtain⟨o,es,ep,h,r⟩:=j
  exact#[o,es,ep,k _ o (Ne.symm f) h,r]
 ·refine(I.hok b u e).stay (λc v a q=>k c v ?_ q) (λ_ q=>q) λ_ _ q=>q
  rcases a with z|z
  ·rw[z];exact d b u e
  ·exact d c _ z
theorem GX.tok(I:GX X Oa σ H s)(t:Nat):GX X Oa σ H {s with toks:=t}:=I.un (h':=s.heap) (t':=t) Un.refl I.hok
theorem GX.kept{t':Nat}(I:GX X Oa σ H s)(k:∀b u,s.heap.get? b=↑u->h'.get? b=↑u):GX X Oa σ H {s with heap:=h',toks:=t'}:=I.un (Un.kept k) (I.hok.kept k)
theorem GX.laid{a:Δ}{o:HO}{t':Nat}(I:GX X Oa σ H s)(k:∀b u,s.heap.get? b=↑u->h'.get? b=↑u)(hp:s.heap.objs.size<=a)(c:Hv X.prog X.w (GW H a o) h' a o):
  GX X Oa σ (GW H a o) {s with heap:=h',toks:=t'}:=I.un (Un.laid k hp (I.hok.fresh hp)) (I.hok.laid k hp c)
theorem GX.write{x e:Δ}{o:HO}{t':Nat}(I:GX X Oa σ H s)(d:vH (H x))(he:e=x\/H e=↑(.own x))(k:∀b u,b≠e->s.heap.get? b=↑u->h'.get? b=↑u)(a:∃u,h'.get? e=↑u)
  (c:Hv X.prog X.w (GW H x o) h' x o):GX X Oa σ (GW H x o) {s with heap:=h',toks:=t'}:=I.un (Un.write d he k a) (I.hok.write d he k a c)
theorem GX.pins_of{pins':GR}(I:GX X Oa σ H s)(h:∀p∈pins',s.heap.get? p.1=↑p.2/\H p.1=none/\p.1≠X.env.locals/\p.1∉X.fs/\∀v,p.2.data≠ .cell v):GX X pins' σ H s:=
 #[I.ok,I.os,I.bare,I.base,I.loc,I.cell,I.free,I.freeC,λp a=>(JL.mp a).elim (λz=>I.pin p (FN _ z)) (h p),I.hok,I.len]
theorem mO{N:Α}(hN:N.Nodup){i j:Nat}{x:Str}(a:N[i]? =↑x)(b:N[j]? =↑x):i=j:=by
 obtain⟨h1,d⟩:=Js.mp a;obtain⟨e,c⟩:=Js.mp b
 exact(List.getElem_inj hN).mp (d.trans c.symm)
theorem aT{M:Model}{A:Around}{E:GP}{i:Nat}{x:Str}{v:V}{u:Γ}{Q:Unit->Θ->Prop}(I:GX X Oa σ H s)(hN:X.N.Nodup)(hi:X.N[i]? =↑x)(hx:cH X.env.scope x)(r:G8 v u)
  (h:∀s',GX X Oa (σ.set i ↑v) H s'->(∃a,Ψ.SameBut a s.heap s'.heap/\(a=X.env.locals\/X.env.cells.lookup x=↑a))->Q () s')(hf:X.fn x=true\/X.env.scope.names.lookup x=some .local:=by first|exact .inl Z|exact .inr Z|assumption):ε M A (storeName X.env x u) Q E s:=by
 obtain⟨m,Y,hl⟩:=id I.loc;have K:(X.env.scope.kind== .class||(X.env.scope.kind== .module&&X.env.locals != X.env.globals))=false:=by rw[I.ok.kind];rfl
 have C:i<σ.length:=by rw[I.len];exact(Js.mp hi).1
 have cne:=I.cne;have l:∀{a:Δ} {h':Ψ},(∃o,s.heap.get? a=↑o/\H a=none)->Ψ.SameBut a s.heap h'->IZ X.prog X.w H h':=λ{a h'} ha f b ob e=>by
  obtain⟨_,_,w⟩:=ha;refine(I.hok b ob e).stay (λc P t q=>(f.2 c ?_).trans q) (λ_ q=>q) λ_ _ q=>q
  rintro rfl
  rcases t with rfl|t
  ·rw[w]at e;cases e
  ·rw[w]at t;cases t
 rcases hx with hk|hk
 ·refine wpAny_storeName_local hk Y (λh' S f=>?_) K
  obtain⟨oL,_,_,a0,_⟩:=id Y;refine h _ #[I.ok,I.os,I.bare,#[λb o e n F hx=>?_,λb o e n F hx=>?_,I.base.free,λb o e hx=>?_,I.base.tups,I.base.frzs,I.base.tbls],#[_,S,λj y T g B W=>?_],λy c e=>?_,I.free,I.freeC,λp hp=>?_,l #[oL,a0,I.free] f,by simpa using I.len] #[_,f,.inl Z]
  ·exact(f.2 b (Jk (JO (Jj e) I.ok.above))).trans (I.base.keep b o e n F hx)
  ·obtain⟨sl,g⟩:=I.base.slot b o e n F hx
   exact#[sl,(f.2 b (Jk (JO (Jj e) I.ok.above))).trans g]
  ·obtain⟨o',g⟩:=I.base.there b o e hx
   exact#[o',(f.2 b (Jk (JO (Jj e) I.ok.above))).trans g]
  ·by_cases G:j=i
   ·subst G
    rw[hi]at g;cases g
    rw[Gd C]at B;cases B
    exact#[u,r,.inl #[hk,by simp]]
   ·rw[Ge (Ne.symm G)]at B
    obtain⟨u',U,q⟩:=hl j y T g B W;refine#[u',U,?_]
    rcases q with⟨k,e⟩|⟨k,c,e,z⟩
    ·refine .inl #[k,?_]
     have:y≠x:=λe=>G (mO hN g (e▸hi))
     simp [this,e]
    ·exact .inr #[k,c,e,z.sameBut f (cne y c e)]
  ·obtain⟨P,z⟩:=I.cell y c e
   exact#[P,z.sameBut f (cne y c e)]
  ·obtain⟨e,n,R,nf,d⟩:=I.pin p hp
   exact#[(f.2 p.1 R).trans e,n,R,nf,d]
 ·have D:X.fn x=true:=by
   rcases hf with z|z
   ·exact z
   ·rw[z]at hk;cases hk
  obtain⟨c,t⟩:=I.ok.has x (.inl hk)
  obtain⟨P,z⟩:=I.cell x c t;refine wpAny_storeName_cell I.ok.kind hk t z (λh' O f=>?_)
  obtain⟨oc,L,N⟩:=id z;refine h {s with heap:=h'} #[I.ok,I.os,I.bare,#[λb o e n F hx=>?_,λb o e n F hx=>?_,I.base.free,λb o e hx=>?_,I.base.tups,I.base.frzs,I.base.tbls],#[m,Y.sameBut f (Ne.symm (cne x c t)),λj y T g B W=>?_],λy c' e=>?_,I.free,I.freeC,λp hp=>?_,l #[oc,L,I.freeC x c t] f,by simpa using I.len] #[c,f,.inr t]
  ·exact(f.2 b (Jk (JO (Jj e) (I.ok.cab x c D t)))).trans (I.base.keep b o e n F hx)
  ·obtain⟨sl,g⟩:=I.base.slot b o e n F hx
   exact#[sl,(f.2 b (Jk (JO (Jj e) (I.ok.cab x c D t)))).trans g]
  ·obtain⟨o',g⟩:=I.base.there b o e hx
   exact#[o',(f.2 b (Jk (JO (Jj e) (I.ok.cab x c D t)))).trans g]
  ·by_cases G:j=i
   ·subst G
    rw[hi]at g;cases g
    rw[Gd C]at B;cases B
    exact#[u,r,.inr #[.inl hk,c,t,O]]
   ·rw[Ge (Ne.symm G)]at B
    obtain⟨u',U,q⟩:=hl j y T g B W;refine#[u',U,?_]
    rcases q with q|⟨k,c',e,z'⟩
    ·exact .inl q
    ·refine .inr #[k,c',e,z'.sameBut f ?_]
     rintro rfl
     exact G (mO hN g (I.ok.inj _ _ _ e t▸hi))
  ·by_cases J:c'=c
   ·subst J;exact#[_,O]
   ·obtain⟨w2,z2⟩:=I.cell y c' e
    exact#[w2,z2.sameBut f J]
  ·obtain⟨e,n,R,nf,d⟩:=I.pin p hp
   refine#[(f.2 p.1 ?_).trans e,n,R,nf,d]
   intro q;rw[q,L]at e;have q':oc=p.2:=JA e
   exact d P (by rw[<- q'];exact N)
theorem bK{M:Model}{A:Around}{E:GP}{i:Nat}{x:Str}{v:V}{u:Γ}{Q:Unit->Θ->Prop}(I:GX X Oa σ H s)(hN:X.N.Nodup)(hi:X.N[i]? =↑x)(hx:cH X.env.scope x)(r:G8 v u)
  (h:∀s',GX X Oa (σ.set i ↑v) H s'->Q () s')(hf:X.fn x=true\/X.env.scope.names.lookup x=some .local:=by first|exact .inl Z|exact .inr Z|assumption):ε M A (storeName X.env x u) Q E s:=
 aT I hN hi hx r (λs' a _=>h s' a) hf
theorem GX.call'{s':Θ}{ch:Η}(I:GX X Oa σ H s)(ho:s'.os=s.os)(u:Un (ar X.stack) ch H H' s.heap s'.heap)(d:IZ X.prog X.w H' s'.heap)(hg:AllBare s'.gens)
  (a:∀b∈ch,(b∈X.ex\/X.s₀.heap.objs.size<=b)/\b≠X.env.locals/\(∀x c,X.env.cells.lookup x=↑c->c≠b)/\∀p∈X.pn++Oa,p.1≠b):GX X Oa σ H' s':=by
 obtain⟨h',g',d',t',o'⟩:=s';have e:o'=s.os:=ho
 subst e;exact I.call (g':=g') (t':=t') (d':=d') u d hg a
end
abbrev XK:=Γ->μ->Hp->Prop
abbrev St:=List Μ
abbrev VK:=V->Hp->Prop
abbrev TE:=St->Hp->VK->Prop
abbrev TT:=St->Hp->(Bool->Hp->Prop)->Prop
abbrev TA:=St->Hp->(Ε->Hp->Prop)->Prop
structure HY where
 nx:St->Hp->Prop
 rt:VK
 bk:St->Hp->Prop:=λ_ _=>False
 ct:St->Hp->Prop:=λ_ _=>False
abbrev TS:=HY->St->Hp->Prop
def EP(X:Cx)(Oa:GR)(σ:St)(Q:VK)(u:Γ)(s':Θ):Prop:=∃v H',GX X Oa σ H' s'/\G8 v u/\Q v H'
def TP(X:Cx)(Oa:GR)(σ:St)(Q:Bool->Hp->Prop)(b:Bool)(s':Θ):Prop:=∃H',GX X Oa σ H' s'/\Q b H'
def AP(X:Cx)(Oa:GR)(σ:St)(Q:Ε->Hp->Prop)(us:Ζ)(s':Θ):Prop:=∃vs H',GX X Oa σ H' s'/\GZ vs us/\Q vs H'
def SP(X:Cx)(Oa:GR)(D:HY)(f:Flow)(s':Θ):Prop:=
 match f with
 | .next=>∃a H',GX X Oa a H' s'/\D.nx a H'
 | .brk=>∃a H',GX X Oa a H' s'/\D.bk a H'
 | .cont=>∃a H',GX X Oa a H' s'/\D.ct a H'
 | .ret u=>∃v a H',GX X Oa a H' s'/\G8 v u/\D.rt v H'
def PE(X:Cx)(e:Φ)(t:TE):Prop:=
 ∀(Oa:GR) (s:Θ) (σ:St) (H:Hp) (Q:VK),GX X Oa σ H s->t σ H Q->ε (model X.prog X.w) X.A (eval e X.env) (EP X Oa σ Q) X.xe s
def PT(X:Cx)(e:Φ)(t:TT):Prop:=
 ∀(Oa:GR) (s:Θ) (σ:St) (H:Hp) (Q:Bool->Hp->Prop),GX X Oa σ H s->t σ H Q->ε (model X.prog X.w) X.A (isTrue e X.env (eval e X.env)) (TP X Oa σ Q) X.xe s
def PW(X:Cx)(e:Φ)(t:TT):Prop:=
 ∀(a:Sem Γ) (Oa:GR) (s:Θ) (σ:St) (H:Hp) (Q:Bool->Hp->Prop),GX X Oa σ H s->t σ H Q->ε (model X.prog X.w) X.A (isTrue e X.env a) (TP X Oa σ Q) X.xe s
theorem PW.pt{X:Cx}{e:Φ}{t:TT}(h:PW X e t):PT X e t:=h _
def PA(X:Cx)(es:Ι)(t:TA):Prop:=
 ∀(pos:Pos) (Oa:GR) (s:Θ) (σ:St) (H:Hp) (Q:Ε->Hp->Prop),GX X Oa σ H s->t σ H Q->ε (model X.prog X.w) X.A (spliced (backTo pos (θ es X.env))) (AP X Oa σ Q) X.xe s
def PS(X:Cx)(st:δ)(t:TS):Prop:=
 ∀(Oa:GR) (s:Θ) (σ:St) (H:Hp) (D:HY),GX X Oa σ H s->t D σ H->ε (model X.prog X.w) X.A (exec st X.env) (SP X Oa D) X.xe s
def LB(X:Cx)(st:List δ)(t:TS):Prop:=
 ∀(Oa:GR) (s:Θ) (σ:St) (H:Hp) (D:HY),GX X Oa σ H s->t D σ H->ε (model X.prog X.w) X.A (execs st X.env) (SP X Oa D) X.xe s
theorem qz{c:Type}{t:Sem c}{Q d:c->Θ->Prop}{M:Model}{A:Around}{E:GP}{s:Θ}(h:ε M A t Q E s)(e:∀a s,Q a s->d a s):ε M A t d E s:=Jw h e λ_ _ x=>x
section
variable{X:Cx}
inductive NF (i:Nat) (σ:L2.St) (H:Hp) (Q:VK):Prop
 |mk (v:_) (h1:σ[i]? =↑(↑v)) (h2:Q v H)
def Dg(i:Nat):TE:=λσ H Q=>NF i σ H Q
def tC(v:V):TE:=λ_ H Q=>Q v H
theorem C2{i:Nat}{x:Str}{pos:Pos}(hN:X.N[i]? =↑x)(hv:BV X.env.scope x)(hd:(x==("__debug__":Str))=false:=by decide)(f:(x==("__classdict__":Str))=false:=by decide):PE X (.Name x pos) (Dg i):=by
 intro Oa s σ H Q I h;obtain⟨v,e,h⟩:=h;obtain⟨m,j,o⟩:=I.loc;obtain⟨u,r,l⟩:=o i x v hN e hv;have d:EP X Oa σ Q u s:=#[v,H,I,r,h]
 rcases l with⟨hk,n⟩|⟨hk,c,g,a⟩
 ·exact wpAny_Name (wpAny_loadName_local I.ok.kind hk j n d) hd
 ·rcases hk with hk|hk
  ·exact wpAny_Name (wpAny_loadName_cell I.ok.kind hk g a d) hd
  ·exact wpAny_Name (wpAny_loadName_free I.ok.kind hk g a d f) hd
theorem Cm{i j pos}:PE X (.Constant (.int i) j pos) (tC (.int i)):=λ_ _ _ H _ I h=>wpAny_Constant_int #[.int i,H,I.tok _,#[_,Z],h]
theorem DI{b j pos}:PE X (.Constant (.bool b) j pos) (tC (.bl b)):=λ_ _ _ H _ I h=>Constant_bool #[.bl b,H,I,Z,h]
theorem Dh{j pos}:PE X (.Constant .none j pos) (tC .non):=λ_ _ _ H _ I h=>Constant_none #[.non,H,I,Z,h]
theorem BW{x j pos}:PE X (.Constant (.str x) j pos) (tC (.str x)):=λ_ _ _ H _ I h=>Calls.Constant_str #[.str x,H,I.tok _,#[_,Z],h]
def Gl(X:Cx)(x:Str):Prop:=X.env.kindOf x=some .globalImplicit
theorem hX{E:GP}{Oa:GR}{s:Θ}{σ:St}{H:Hp}{x:Str}{u:Γ}{pos:Pos}{Q:GP}(I:GX X Oa σ H s)(hg:Gl X x)(hm:X.mg x=↑u)(h:Q u s)
  (hd:(x==("__debug__":Str))=false:=by decide):ε (model X.prog X.w) X.A (eval (.Name x pos) X.env) Q E s:=
 Calls.Name_function_global I.ok.kind hg (Calls.loadGlobal_global (by rw[I.ok.glob];exact I.mod.glob.keeps I.bk) hm h) hd
theorem ZR{E:GP}{Oa:GR}{s:Θ}{σ:St}{H:Hp}{x:Str}{u:Γ}{pos:Pos}{Q:GP}(I:GX X Oa σ H s)(hg:Gl X x)(hm:X.mg x=none)(hv:bootBuiltins x=↑u)(h:Q u s)
  (hn:x≠"__name__":=by decide)(hd:(x==("__debug__":Str))=false:=by decide):ε (model X.prog X.w) X.A (eval (.Name x pos) X.env) Q E s:=by
 obtain⟨c,h1,a⟩:=I.mod.blt;exact Calls.Name_function_global I.ok.kind hg (Calls.loadGlobal_builtin (by rw[I.ok.glob];exact I.mod.glob.keeps I.bk) hm (by rw[I.ok.blt];exact h1.keeps I.bk) ((a x hn).trans hv) h) hd
theorem Bt{x:Str}{v:V}{u:Γ}{pos:Pos}(hg:Gl X x)(hm:X.mg x=↑u)(r:G8 v u)(hd:(x==("__debug__":Str))=false:=by decide):PE X (.Name x pos) (tC v):=
 λ_ _ _ H _ I h=>hX I hg hm #[v,H,I,r,h] hd
theorem BC{x:Str}{v:V}{u:Γ}{pos:Pos}(hg:Gl X x)(hm:X.mg x=none)(hv:bootBuiltins x=↑u)(r:G8 v u)(hn:x≠"__name__":=by decide)(hd:(x==("__debug__":Str))=false:=by decide):PE X (.Name x pos) (tC v):=
 λ_ _ _ H _ I h=>ZR I hg hm hv #[v,H,I,r,h] hn hd
variable{a b:Φ}{ta tb:TE}{pos:Pos}
def PC(X:Cx)(op:CmpOp)(a b:Φ)(t:TE):Prop:=
 ∀(Oa:GR) (s:Θ) (σ:St) (H:Hp) (Q:VK),GX X Oa σ H s->t σ H Q->
  ε (model X.prog X.w) X.A (eval a X.env) (λv c=>ε (model X.prog X.w) X.A (eval b X.env) (λu d=>ε (model X.prog X.w) X.A (compareOp op v u) (EP X Oa σ Q) X.xe d) X.xe c) X.xe s
def tB(t:TE):TT:=λσ H Q=>t σ H λx H1=>∃c,x= .bl c/\Q c H1
theorem C5{op:CmpOp}{t:TE}(h:PC X op a b t)(h1:behindInMarks op b=false:=by first|exact nobehind _ ⋯ ⋯|rfl):PT X (.Compare a [op] [b] pos) (tB t):=by
 intro Oa s σ H Q I j;refine wpAny_isTrue_Compare1 (qz (h Oa s σ H _ I j) λv n h1=>qz h1 λu m e=>qz e λc o g=>?_) h1
 obtain⟨x,H1,i,l,f⟩:=g;obtain⟨d,rfl,q⟩:=f;cases l;exact Fj #[H1,i,q]
theorem BJ{e:Φ}{t:TE}(h:PE X e t)(he:∀a,isTrue e X.env a=(do let v <- a;standAt e.pos;holding [v] (truthy v)):=by intro _;rfl):PT X e (tB t):=by
 intro Oa s σ H Q I i;refine isTrue_plain (qz (h Oa s σ H _ I i) λv l f=>?_) (he _)
 obtain⟨x,H1,g,j,c⟩:=f;obtain⟨d,rfl,q⟩:=c;cases j;exact Fj #[H1,g,q]
variable{tA tB':TT}{rest:Ι}
def BK(t u:TT):TT:=λσ H Q=>t σ H λc H1=>if c=true then u σ H1 Q else Q false H1
def Ed(t u:TT):TT:=λσ H Q=>t σ H λc H1=>if c=true then Q true H1 else u σ H1 Q
def BX(t:TT):TT:=λσ H Q=>t σ H λc H1=>Q (! c) H1
theorem Bg(ha:PT X a tA):PW X (.BoolOp .And [a] pos) tA:=by
 intro f Oa s σ H Q I h;refine isTrue_and (qz (ha Oa s σ H Q I h) λc d e=>?_)
 cases c with
 |true=>exact isTrue_and_nil e
 |false=>exact e
theorem C3(ha:PT X a tA):PW X (.BoolOp .Or [a] pos) tA:=by
 intro f Oa s σ H Q I h;refine isTrue_or (qz (ha Oa s σ H Q I h) λc d e=>?_)
 cases c with
 |false=>exact isTrue_or_nil e
 |true=>exact e
theorem Cr(ha:PT X a tA)(hb:PW X (.BoolOp .And (b::rest) pos) tB'):PW X (.BoolOp .And (a::b::rest) pos) (BK tA tB'):=by
 intro i Oa s σ H Q I h;refine isTrue_and (qz (ha Oa s σ H _ I h) λc g f=>?_)
 obtain⟨H1,e,d⟩:=f;cases c with
 |true=>exact hb i Oa g σ H1 Q e d
 |false=>exact#[H1,e,d]
theorem DD(ha:PT X a tA)(hb:PW X (.BoolOp .Or (b::rest) pos) tB'):PW X (.BoolOp .Or (a::b::rest) pos) (Ed tA tB'):=by
 intro i Oa s σ H Q I h;refine isTrue_or (qz (ha Oa s σ H _ I h) λc g f=>?_)
 obtain⟨H1,e,d⟩:=f;cases c with
 |true=>exact#[H1,e,d]
 |false=>exact hb i Oa g σ H1 Q e d
theorem B0(ha:PT X a tA):PT X (.UnaryOp .Not a pos) (BX tA):=by
 intro Oa s σ H Q I h;exact isTrue_not (ha Oa s σ H (λc H1=>Q (! c) H1) I h)
def yT(ta tb:TE):TE:=λσ H Q=>ta σ H λx H1=>∃c,x= .bl c/\if c=true then tb σ H1 Q else Q (.bl false) H1
def yw(ta:TE):TE:=λσ H Q=>ta σ H λx H1=>∃c,x= .bl c/\Q (.bl (! c)) H1
theorem Cz{op}{t:TE}(h:PE X a t):PE X (.BoolOp op [a] pos) t:=λOa s σ H Q I c=>BoolOp_one (h Oa s σ H Q I c)
theorem BL(ha:PE X a ta)(hb:PE X (.BoolOp .And (b::rest) pos) tb):PE X (.BoolOp .And (a::b::rest) pos) (yT ta tb):=by
 intro Oa s σ H Q I h;refine BoolOp_and (qz (ha Oa s σ H _ I h) λv g f=>?_)
 obtain⟨x,H1,e,i,d⟩:=f;obtain⟨c,rfl,d⟩:=d;cases i;refine Fj ?_
 cases c with
 |true=>exact hb Oa g σ H1 Q e d
 |false=>exact#[.bl false,H1,e,Z,d]
theorem Dt(ha:PE X a ta):PE X (.UnaryOp .Not a pos) (yw ta):=by
 intro Oa s σ H Q I h;refine UnaryOp_ (qz (ha Oa s σ H _ I h) λv i e=>?_)
 obtain⟨x,H1,f,g,d⟩:=e;obtain⟨c,rfl,d⟩:=d;cases g;exact not_of (Fj #[.bl (! c),H1,f,Z,d])
def Eb(t:TT)(ta tb:TE):TE:=λσ H Q=>t σ H λc H1=>if c=true then ta σ H1 Q else tb σ H1 Q
theorem wC{c:Φ}(hc:PT X c tA)(ha:PE X a ta)(hb:PE X b tb):PE X (.IfExp c a b pos) (Eb tA ta tb):=by
 intro Oa s σ H Q I h;refine wpAny_IfExp (qz (hc Oa s σ H _ I h) λd f i=>?_)
 obtain⟨H1,g,e⟩:=i;cases d with
 |true=>exact ha Oa f σ H1 Q g e
 |false=>exact hb Oa f σ H1 Q g e
end
def G0(K:ι)(H:Hp)(a:Δ)(xs:Ε):Prop:=
 Rd H a (.lst xs)\/
  ∃(o:Obj) (c:Array Γ) (n:Nat),K.lookup a=↑o/\o.cls= .type "list"/\o.dict=none/\o.data= .seq c n/\c.size<=ζ/\GZ xs c.toList
def G9(K:ι)(H:Hp)(a:Δ)(xs:Ε):Prop:=
 Rd H a (.tup xs)\/
  ∃(o:Obj) (c:Array Γ) (n:Nat),K.lookup a=↑o/\o.cls= .type "tuple"/\o.data= .seq c n/\c.size<=ζ/\GZ xs c.toList
def Et:Γ->Μ
 | .none=>some .non
 | .bool b=>↑(.bl b)
 | .int i _=>↑(.int i)
 | .str x _=>↑(.str x)
 | .bytes b _=>↑(.byt b)
 | .float b _=>↑(.flt b)
 | .ref a=>↑(.ref a)
 | .type n=>↑(.ty n)
 |_=>none
theorem G8.abs{x:V}{u:Γ}(r:G8 x u):Et u=↑x:=by
 cases x with
 |non=>cases r;rfl
 |bl _=>cases r;rfl
 |int _=>obtain⟨t,rfl⟩:=r;rfl
 |str _=>obtain⟨t,rfl⟩:=r;rfl
 |byt _=>obtain⟨t,rfl⟩:=r;rfl
 |flt _=>obtain⟨t,rfl⟩:=r;rfl
 |ref _=>cases r;rfl
 |ty _=>cases r;rfl
theorem G8.inj{x y:V}{u:Γ}(r:G8 x u)(q:G8 y u):x=y:=JA (r.abs.symm.trans q.abs)
theorem GZ.inj:∀{xs ys:Ε} {us:Ζ},GZ xs us->GZ ys us->xs=ys
 :=by
 intro xs ys us h
 induction h generalizing ys with
 |nil=>intro g;cases g;rfl
 |cons r t ih=>intro g;cases g with
  |cons r' t'=>rw[r.inj r',ih t']
section
variable{X:Cx}{Oa:GR}{σ:St}{H:Hp}{s:Θ}{a:Δ}{xs ys:Ε}
theorem G0.of{K:ι}(h:H a=↑(.lst xs)):G0 K H a xs:= .inl (.inl h)
theorem G9.of{K:ι}(h:H a=↑(.tup xs)):G9 K H a xs:= .inl (.inl h)
theorem GX.list(I:GX X Oa σ H s)(h:G0 X.K H a xs):∃c:Ζ,GZ xs c/\PlainL s.heap a c.toArray/\xs.length<=ζ:=by
 rcases h with h|⟨o,c,n,hk,f,g,d,i,r⟩
 ·obtain⟨z,c,n,r,e⟩:=h.ok I.hok
  exact#[c,r,#[_,n,e,Z,Z,Z],z]
 ·refine#[c.toList,r,#[o,n,I.kIn a o hk,f,g,by simpa using d],?_]
  have e:=r.length;simp only[Jp]at e;lia
theorem GX.tuple(I:GX X Oa σ H s)(h:G9 X.K H a xs):∃c:Ζ,GZ xs c/\IsTup s.heap a c.toArray/\xs.length<=ζ:=by
 rcases h with h|⟨o,c,n,hk,f,d,g,r⟩
 ·obtain⟨z,c,r,p⟩:=h.ok I.hok
  exact#[c,r,p,z]
 ·refine#[c.toList,r,#[o,I.kIn a o hk,f,n,by simpa using d],?_]
  have e:=r.length;simp only[Jp]at e;lia
theorem GX.list_inj(I:GX X Oa σ H s)(h:G0 X.K H a xs)(h':G0 X.K H a ys):xs=ys:=by
 obtain⟨f,r,⟨o,n,e,_,_,d⟩,_⟩:=I.list h;obtain⟨c,j,⟨o',l,i,_,_,g⟩,_⟩:=I.list h';rw[e]at i;cases i
 rw[d]at g;injection g with d1 _
 have:f=c:=by simpa using JH Array.toList d1
 subst this;exact r.inj j
theorem GX.tuple_inj(I:GX X Oa σ H s)(h:G9 X.K H a xs)(h':G9 X.K H a ys):xs=ys:=by
 obtain⟨f,r,⟨o,e,_,n,d⟩,_⟩:=I.tuple h;obtain⟨c,j,⟨o',i,_,l,g⟩,_⟩:=I.tuple h';rw[e]at i;cases i
 rw[d]at g;injection g with d1 _
 have:f=c:=by simpa using JH Array.toList d1
 subst this;exact r.inj j
end
abbrev Cx.wish(X:Cx)(E:GP):Cx:={X with xe:=E}
abbrev Cx.nox(X:Cx):Cx:=X.wish λ_ _=>False
theorem Cx.Ok.wish{X:Cx}(ok:X.Ok)(E:GP):(X.wish E).Ok:=
 #[ok.mod,ok.kind,ok.glob,ok.blt,ok.above,ok.inj,ok.has,ok.cab,ok.hd,ok.frames,ok.stk,ok.exf,ok.bs,ok.bsz,ok.noex,ok.exfs,ok.funs,ok.frf]
theorem Cx.Ok.unwish{X:Cx}{E:GP}(ok:(X.wish E).Ok):X.Ok:=
 #[ok.mod,ok.kind,ok.glob,ok.blt,ok.above,ok.inj,ok.has,ok.cab,ok.hd,ok.frames,ok.stk,ok.exf,ok.bs,ok.bsz,ok.noex,ok.exfs,ok.funs,ok.frf]
section
variable{X:Cx}{Oa:GR}{σ:St}{H:Hp}{s:Θ}{E:GP}
theorem GX.wish(I:GX X Oa σ H s)(E:GP):GX (X.wish E) Oa σ H s:=#[I.ok.wish E,I.os,I.bare,I.base,I.loc,I.cell,I.free,I.freeC,I.pin,I.hok,I.len]
theorem GX.unwish(I:GX (X.wish E) Oa σ H s):GX X Oa σ H s:=#[I.ok.unwish,I.os,I.bare,I.base,I.loc,I.cell,I.free,I.freeC,I.pin,I.hok,I.len]
theorem SP.unwish{D:HY}{f:Flow}{s':Θ}(h:SP (X.wish E) Oa D f s'):SP X Oa D f s':=by
 cases f with
 |next=>obtain⟨a,H',I,q⟩:=h;exact#[a,H',I.unwish,q]
 |brk=>obtain⟨a,H',I,q⟩:=h;exact#[a,H',I.unwish,q]
 |cont=>obtain⟨a,H',I,q⟩:=h;exact#[a,H',I.unwish,q]
 |ret u=>obtain⟨v,a,H',I,r,q⟩:=h;exact#[v,a,H',I.unwish,r,q]
theorem LB.nox{st:List δ}{t:TS}(h:LB X.nox st t):LB X st t:=λOa s σ H D I a=>
 Jw (h Oa s σ H D (I.wish _) a) (λ_ _ q=>q.unwish) λ_ _ z=>False.elim z
end
section
variable{X:Cx}{st:δ}{rest:List δ}{t u:TS}{e:Φ}{te:TE}{pos:Pos}
def yQ:TS:=λD σ H=>D.nx σ H
def dc(t u:TS):TS:=λD σ H=>t {D with nx:=u D} σ H
theorem Bh:LB X [] yQ:=λ_ _ σ H _ I h=>wpAny_execs_nil #[σ,H,I,h]
theorem wJ(h1:PS X st t)(h2:LB X rest u):LB X (st::rest) (dc t u):=by
 intro Oa s σ H D I h;refine wpAny_execs_cons (qz (h1 Oa s σ H {D with nx:=u D} I h) λf c q=>?_)
 cases f with
 |next=>
  obtain⟨a,H',d,q⟩:=q;exact h2 Oa c a H' D d q
 |ret v=>exact q
 |brk=>exact q
 |cont=>exact q
theorem AR(h1:PS X st t):LB X [st] t:=by
 intro Oa s σ H D I h;refine wpAny_execs_cons (qz (h1 Oa s σ H D I h) λf a q=>?_)
 cases f with
 |next=>exact wpAny_execs_nil q
 |ret v=>exact q
 |brk=>exact q
 |cont=>exact q
theorem GX.quiet{Oa:GR}{σ:St}{H:Hp}{s:Θ}(I:GX X Oa σ H s):interactive X.env=false:=by simp [interactive,I.ok.kind]
def yz(te:TE):TS:=λD σ H=>te σ H λ_ H1=>D.nx σ H1
theorem Au(he:PE X e te)(hs:swapsWith e none pos.line X.env=pure false:=by rfl):PS X (.Expr e pos) (yz te):=by
 intro Oa s σ H D I h;exact wpAny_Expr_any (qz (he Oa s σ H _ I h) λv f ⟨x,H1,a,d,c⟩=>#[σ,H1,a,c]) I.quiet hs
def CU(te:TE):TS:=λD σ H=>te σ H D.rt
theorem C4(he:PE X e te):PS X (.Return ↑e pos) (CU te):=by
 intro Oa s σ H D I h;exact wpAny_Return_some (qz (he Oa s σ H _ I h) λv f ⟨x,H1,c,a,d⟩=>#[x,σ,H1,c,a,d])
def C1(c:TT)(t u:TS):TS:=λD σ H=>c σ H λb H1=>if b=true then t D σ H1 else u D σ H1
theorem DV{c:Φ}{a b:List δ}{tc:TT}(hc:PT X c tc)(ha:LB X a t)(hb:LB X b u):PS X (.If c a b pos) (C1 tc t u):=by
 intro Oa s σ H D I h;refine wpAny_If (qz (hc Oa s σ H _ I h) λd f i=>?_)
 obtain⟨H1,g,e⟩:=i;cases d with
 |true=>exact ha Oa f σ H1 D g e
 |false=>exact hb Oa f σ H1 D g e
def tG:TS:=λ_ _ _=>False
theorem tM{a:List δ}:LB X a tG:=λ_ _ _ _ _ _ h=>h.elim
end
abbrev TG:=V->St->Hp->(St->Hp->Prop)->Prop
abbrev Zw:=Ε->St->Hp->(St->Hp->Prop)->Prop
def PG(X:Cx)(a:Φ)(t:TG):Prop:=
 ∀(Oa:GR) (s:Θ) (σ:St) (H:Hp) (v:V) (u:Γ) (Q:St->Hp->Prop),GX X Oa σ H s->G8 v u->t v σ H Q->
  ε (model X.prog X.w) X.A (assign a X.env u) (λ_ s'=>∃c H',GX X Oa c H' s'/\Q c H') X.xe s
def n6(X:Cx)(d:Ι)(t:Zw):Prop:=
 ∀(Oa:GR) (s:Θ) (σ:St) (H:Hp) (vs:Ε) (c:Ζ) (Q:St->Hp->Prop),GX X Oa σ H s->GZ vs c->t vs σ H Q->
  ε (model X.prog X.w) X.A (assignInOrder ((assignEach d X.env).map (·.2)) c) (λ_ s'=>∃a H',GX X Oa a H' s'/\Q a H') X.xe s
abbrev fZ:=V->V->V->Hp->(Hp->Prop)->Prop
def kJ(X:Cx)(t:fZ):Prop:=
 ∀(Oa:GR) (s:Θ) (σ:St) (H:Hp) (o i v:V) (c a u:Γ) (Q:Hp->Prop),GX X Oa σ H s->G8 o c->G8 i a->G8 v u->t o i v H Q->
  ε (model X.prog X.w) X.A (setItem c a u) (λ_ s'=>∃H',GX X Oa σ H' s'/\Q H') X.xe s
abbrev vc:=V->V->Hp->VK->Prop
def Cq(X:Cx)(op:Operator)(t:vc):Prop:=
 ∀(Oa:GR) (s:Θ) (σ:St) (H:Hp) (x y:V) (v u:Γ) (Q:VK),GX X Oa σ H s->G8 x v->G8 y u->t x y H Q->
  ε (model X.prog X.w) X.A (inplaceOp op v u) (EP X Oa σ Q) X.xe s
section
variable{X:Cx}{pos:Pos}
def Qa(i:Nat):TG:=λv σ H Q=>Q (σ.set i ↑v) H
theorem AM{i:Nat}{x:Str}(hN:X.N.Nodup)(hi:X.N[i]? =↑x)(hx:cH X.env.scope x)(hf:X.fn x=true\/X.env.scope.names.lookup x=some .local:=by first|exact .inl Z|exact .inr Z|assumption):PG X (.Name x pos) (Qa i):=by
 intro Oa s σ H v u Q I r h;exact wpAny_assign_Name (bK I hN hi hx r (λs' a=>#[_,H,a,h]) hf)
def vP:Zw:=λvs σ H Q=>vs=[]/\Q σ H
inductive Nm (t:TG) (u:Zw) (vs:Ε) (σ:L2.St) (H:Hp) (Q:L2.St->Hp->Prop):Prop
 |mk (v:_) (r:_) (h1:vs=v::r) (h2:t v σ H λσ' H'=>u r σ' H' Q)
def jZ(t:TG)(u:Zw):Zw:=λvs σ H Q=>Nm t u vs σ H Q
theorem Bf:n6 X [] vP:=by
 intro Oa s σ H vs a Q I r h;obtain⟨e,h⟩:=h;subst e;cases r;exact assignInOrder_nil #[σ,H,I,h]
theorem vQ{e:Φ}{es:Ι}{t:TG}{u:Zw}(h1:PG X e t)(h2:n6 X es u)
  (hs:(assignEach (e::es) X.env).map (·.2)=assign e X.env::(assignEach es X.env).map (·.2):=by rfl):n6 X (e::es) (jZ t u):=by
 intro Oa s σ H vs l Q I r h;obtain⟨v,j,c,h⟩:=h;subst c;cases r with
 |cons r rr=>
  rw[hs];refine assignInOrder_cons (qz (h1 Oa s σ H _ _ _ I r h) λ_ g f=>?_)
  obtain⟨a,H1,i,d⟩:=f;exact h2 Oa g a H1 _ _ Q i rr d
inductive NG (K:ι) (n:Nat) (t:Zw) (v:V) (σ:L2.St) (H:Hp) (Q:L2.St->Hp->Prop):Prop
 |mk (a:_) (xs:_) (h1:v= .ref a) (h2:G9 K H a xs) (h3:xs.length=n) (h4:t xs σ H Q)
def xb(K:ι)(n:Nat)(t:Zw):TG:=λv σ H Q=>NG K n t v σ H Q
theorem mY{es:Ι}{k:Nat}{t:Zw}{n:Nat}(hc:X.calm=true)(h:n6 X es t)
  (hn:(assignEach es X.env).length=n:=by rfl)(hst:(assignEach es X.env).findIdx? (·.1)=none:=by rfl):PG X (.Tuple es k pos) (xb X.K n t):=by
 intro Oa s σ H v u Q I r c;obtain⟨a,xs,g,p,m,c⟩:=c;subst g;cases r;obtain⟨i,d,f,q⟩:=I.tuple p;refine assign_Tuple_tuple (I.ok.hd hc) f (by simp [hn,<- m,d.length]) hst λh' l=>?_
 have j:GX X Oa σ H {s with heap:=h'}:=I.kept (t':=s.toks) λb o e=>l b o (Jk (Jj e)) e
 exact h Oa _ σ H xs _ Q j (by simpa using d) c
def C8(to a:TE)(t:fZ):TG:=λv σ H Q=>to σ H λo H1=>a σ H1 λi d=>t o i v d λc=>Q σ c
theorem CH{o i:Φ}{to e:TE}{t:fZ}(ho:PE X o to)(hi:PE X i e)(hs:kJ X t)
  (ha:∀v,assign (.Subscript o i pos) X.env v=(do
   let a <- holding [v] (eval o X.env)
   let d <- holding [v,a] (eval i X.env)
   standAt pos
   holding [v,a,d] (setItem a d v)
   release [v,a,d] []):=by intro _;rfl):PG X (.Subscript o i pos) (C8 to e t):=by
 intro Oa s σ H v u Q I r h;rw[ha];refine Ja (JI (qz (ho Oa s σ H _ I h) λa z c=>?_))
 obtain⟨x,H1,A,B,n⟩:=c;refine Ja (JI (qz (hi Oa z σ H1 _ A n) λd w c=>?_))
 obtain⟨y,p,j,g,m⟩:=c;refine Ja (E1 (Ja (JI (qz (hs Oa w σ p x y v a d u _ j B g r m) λ_ C c=>?_))))
 obtain⟨l,q,f⟩:=c;exact wpAny_release #[σ,l,q,f]
def bb(te:TE)(g:TG):TS:=λD σ H=>te σ H λx H1=>g x σ H1 D.nx
theorem CO{tg e:Φ}{te:TE}{g:TG}(he:PE X e te)(hg:PG X tg g)(hs:swapsWithSole [tg] e pos.line X.env=pure false:=by rfl)(hw:swappedStores [tg] e X.env=pure none:=by rfl)
  (h1:(assignEach [tg] X.env).map (·.2)=[assign tg X.env]:=by rfl):PS X (.Assign [tg] e pos) (bb te g):=by
 intro Oa s σ H D I h;refine wpAny_Assign_stores (qz (he Oa s σ H _ I h) λv d c=>?_) hs hw
 obtain⟨x,H1,f,i,a⟩:=c;rw[h1];exact qz (hg Oa d σ H1 x v _ f i a) λ_ j q=>q
theorem Ct{i:Nat}{x:Str}{e:Φ}{te:TE}{pos':Pos}(hN:X.N.Nodup)(hi:X.N[i]? =↑x)(hx:cH X.env.scope x)(he:PE X e te)(hs:swapsWith e ↑(.Name x pos') pos.line X.env=pure false:=by rfl)(hf:X.fn x=true\/X.env.scope.names.lookup x=some .local:=by first|exact .inl Z|exact .inr Z|assumption):
  PS X (.Assign [.Name x pos'] e pos) (bb te (Qa i)):=by
 intro Oa s σ H D I h;refine wpAny_Assign_Name (qz (he Oa s σ H _ I h) λv l d=>?_) hs
 obtain⟨y,H1,f,g,c⟩:=d;exact bK f hN hi hx g (λj a=>#[_,H1,a,c]) hf
def BQ(i j:Nat)(ta:TA):TS:=λD σ H=>ta σ H λvs H1=>∃v w,vs=[v,w]/\D.nx ((σ.set i ↑v).set j ↑w) H1
theorem Dn{i j:Nat}{x y:Str}{a b:Φ}{ta:TA}{n t pt:Pos}{kt k2 pt2}(hc:X.calm=true)(hN:X.N.Nodup)(hi:X.N[i]? =↑x)(K:X.N[j]? =↑y)(g:i≠j)
  (hx:X.env.scope.names.lookup x=some .local)(z:X.env.scope.names.lookup y=some .local)(ha:PA X [a,b] ta)
  (hw:swappedStores [.Tuple [.Name x n,.Name y t] kt pt] (.Tuple [a,b] k2 pt2) X.env=pure (some [x,y]))
  (hs:swapsWithSole [.Tuple [.Name x n,.Name y t] kt pt] (.Tuple [a,b] k2 pt2) pos.line X.env=pure false:=by rfl):
  PS X (.Assign [.Tuple [.Name x n,.Name y t] kt pt] (.Tuple [a,b] k2 pt2) pos) (BQ i j ta):=by
 intro Oa s σ H D I h;rw[exec_Assign_arm];refine Ja (E1 ?_)
 rw[hs];refine Ja (Jd ?_)
 rw[Jb ⋯]
 refine Ja (Tuple_ (qz (ha _ Oa s σ H _ I h) λE d F=>?_))
 obtain⟨vs,H1,G,C,m⟩:=F;obtain⟨v,w,A,m⟩:=m;subst A;obtain⟨f,c,rfl,J,l⟩:∃f c,E=[f,c]/\G8 v f/\G8 w c:=by
  cases C with
  |cons p q=>
   cases q with
   |cons p' q'=>
    cases q'
    exact#[_,_,Z,p,p']
 refine J3 ?_ (by show 2<=ζ;decide)
 have B:GX X Oa σ H1 {d with heap:=d.heap.push {cls:= .type "tuple",data:= .seq [f,c].toArray}}:=G.kept (t':=d.toks) λb o e=>Jl _ e
 rw[hw];refine Ja (Jd ?_)
 show ε (model X.prog X.w) X.A (do rule "assign.swapped-stores";let items <- unpackItems (.ref d.heap.objs.size) 2 none;assignInOrder [λv=>bindName X.env y v,λv=>bindName X.env x v] items.reverse;pure Flow.next) _ _ _
 refine Ja (E7 (Ja (unpackItems_tuple (items:= (List.toArray [f,c])) (I.ok.hd hc) (IsTup.new d.heap _) λh' r=>?_)))
 have L:=B.kept (h':=h') (t':=d.toks) λb o e=>r b o (Jk (Jj e)) e
 show ε _ _ (assignInOrder [λv=>bindName X.env y v,λv=>bindName X.env x v] [c,f] >>= λ_=>pure Flow.next) _ _ _
 refine Ja (assignInOrder_cons (wpAny_bindName (bK L hN K (.inl z) l (λN M=>?_) (.inr z))))
 refine assignInOrder_cons (wpAny_bindName (bK M hN hi (.inl hx) J (λO u=>assignInOrder_nil (Jd ?_)) (.inr hx)))
 rw[List.set_comm _ _ (Ne.symm g)]at u
 exact#[_,H1,u,m]
def yU(to h te:TE)(c:V->V->Hp->VK->Prop)(d:vc)(a:fZ):TS:=λD σ H=>to σ H λo H1=>h σ H1 λi g=>c o i g λx f=>te σ f λy e=>d x y e λz l=>a o i z l λj=>D.nx σ j
def xq(X:Cx)(t:V->V->Hp->VK->Prop):Prop:=
 ∀(Oa:GR) (s:Θ) (σ:St) (H:Hp) (o i:V) (c a:Γ) (Q:VK),GX X Oa σ H s->G8 o c->G8 i a->t o i H Q->
  ε (model X.prog X.w) X.A (getItem c a) (EP X Oa σ Q) X.xe s
theorem Bm{o i e:Φ}{to q te:TE}{f:V->V->Hp->VK->Prop}{m:vc}{d:fZ}{op:Operator}{l:Pos}(ho:PE X o to)(hi:PE X i q)(hg:xq X f)(he:PE X e te)(hp:Cq X op m)(hs:kJ X d)
  (ha:∀g j a,augStore i g j a=(do holding [a,g,j] (setItem g j a);release [a,g,j] [];pure .next):=by intros;rfl):PS X (.AugAssign (.Subscript o i l) op e pos) (yU to q te f m d):=by
 intro Oa s σ H D I h;refine wpAny_AugAssign_SubscriptAny (qz (ho Oa s σ H _ I h) λg A c=>?_) ha
 obtain⟨r,H1,N,p,E⟩:=c;refine qz (hi Oa A σ H1 _ N E) λj z c=>?_
 obtain⟨t,S,w,u,x⟩:=c;refine qz (hg Oa z σ S r t g j _ w p u x) λn s3 c=>?_
 obtain⟨T,F,W,y,R⟩:=c;refine qz (he Oa s3 σ F _ W R) λv M c=>?_
 obtain⟨x4,Q,U,L,q4⟩:=c;refine qz (hp Oa M σ Q T x4 n v _ U y L q4) λa C c=>?_
 obtain⟨P,H5,K,Y,J⟩:=c;exact qz (hs Oa C σ H5 r t P g j a _ K p u Y J) λ_ s6 ⟨O,B,G⟩=>#[σ,O,B,G]
def ER(f:Int->Int->Int):vc:=λx y H Q=>∃i j,x= .int i/\y= .int j/\Q (.int (f i j)) H
theorem Ce:Cq X .Add (ER λi j=>i+j):=by
 intro Oa s σ H x y v u Q I e d h;obtain⟨i,j,c,a,q⟩:=h;subst c;subst a
 obtain⟨t,rfl⟩:=e;obtain⟨f,rfl⟩:=d;exact iadd_int #[.int _,H,I.tok _,#[_,Z],q]
end
structure It where
 go:Nat->Hp->Prop
 yld:Nat->Hp->V->Hp->Prop
 stop:Nat->Hp->Prop
def Qq(X:Cx)(Oa:GR)(H:Hp)(b:Δ):Prop:=
 H b=none/\b≠X.env.locals/\b∉X.fs/\(b∈X.ex\/X.s₀.heap.objs.size<=b)/\(∀x c,X.env.cells.lookup x=↑c->c≠b)/\∀p∈X.pn++Oa,p.1≠b
theorem GX.fpOk{X:Cx}{Oa:GR}{σ:St}{H H':Hp}{s:Θ}{b:Δ}(I:GX X Oa σ H s)(hb:s.heap.objs.size<=b)(hn:H' b=none):Qq X Oa H' b:=by
 refine#[hn,EV (JO I.lt hb),I.nofs hb,.inr (JG I.sz hb),λx c e z=>?_,λp a z=>?_]
 ·obtain⟨v,q⟩:=I.cell x c e
  exact absurd (JO q.lt (by rw[z];exact hb)) (EU _)
 ·exact absurd (JO (Jj (I.pin p a).1) (by rw[z];exact hb)) (EU _)
structure Lh(P:Ξ)(w:Ω)(K:ι)(tg:Φ)(J:It)(fp:Η)(it:Δ)(tn:Nat->Ψ->Prop):Prop where
 mem:it∈fp
 obj:∀i h,tn i h->∀b∈fp,∃o,h.get? b=↑o/\∀v,o.data≠ .cell v
 keep:∀i h h',tn i h->(∀b∈fp,∀o,h.get? b=↑o->h'.get? b=↑o)->tn i h'
 item:∀(X:Cx),X.prog=P->X.w=w->X.K=K->X.calm=true->∀(i:Nat) (Oa:GR) (s:Θ) (σ:St) (H:Hp) (E:GP),GX X Oa σ H s->(∀b∈fp,Qq X Oa H b)->tn i s.heap->J.go i H->
  ε (model P w) X.A (pyNext (.ref it)) (λr s1=>∃u,r=↑u/\
   ε (model P w) X.A (letOwnedTupleGo tg (.ref it) u) (λ_ s2=>∃x H',GX X Oa σ H' s2/\G8 x u/\J.yld i H x H'/\tn (i+1) s2.heap/\∀b∈fp,H' b=none) E s1) E s
 done:∀(X:Cx),X.prog=P->X.w=w->X.K=K->X.calm=true->∀(i:Nat) (Oa:GR) (s:Θ) (σ:St) (H:Hp) (E:GP),GX X Oa σ H s->(∀b∈fp,Qq X Oa H b)->tn i s.heap->J.stop i H->
  ε (model P w) X.A (pyNext (.ref it)) (λr s1=>r=none/\GX X Oa σ H s1) E s
 self:∀(A:Around) (i:Nat) (s:Θ) (Q:GP) (E:GP),tn i s.heap->Q (.ref it) s->ε (model P w) A (pyIter (.ref it)) Q E s
abbrev TI:=St->Hp->(It->Hp->Prop)->Prop
def Ec(X:Cx)(Oa:GR)(σ:St)(tg:Φ)(R:It->Hp->Prop)(a:Γ)(c:Θ):Prop:=
 ∃(d:Δ) (fp:Η) (e:Nat->Ψ->Prop) (J:It) (H':Hp),a= .ref d/\GX X Oa σ H' c/\Lh X.prog X.w X.K tg J fp d e/\e 0 c.heap/\(∀b∈fp,Qq X Oa H' b)/\R J H'
def PI(X:Cx)(tg a:Φ)(d:TI):Prop:=
 ∀(Oa:GR) (s:Θ) (σ:St) (H:Hp) (R:It->Hp->Prop),GX X Oa σ H s->d σ H R->
  ε (model X.prog X.w) X.A (eval a X.env) (λv c=>ε (model X.prog X.w) X.A (pyIter v) (Ec X Oa σ tg R) X.xe c) X.xe s
theorem bN{M:Model}{A:Around}{E:GP}{s:Θ}{tg:Φ}{it:Δ}{u:Γ}{o:Obj}{n:String}{vs:Array Γ}{Q:Unit->Θ->Prop}(ho:s.heap.get? it=↑o)(hc:o.cls= .type n)(hd:o.data= .fields vs)
    (hn:["enumerate","zip","dict_itemiterator","dict_reverseitemiterator","odict_iterator","itertools.zip_longest","itertools.pairwise"].contains n=false)(a:Q () s):ε M A (letOwnedTupleGo tg (.ref it) u) Q E s:=by
  unfold letOwnedTupleGo;cases tg<;>first
    |exact Jd a
    |(cases u<;>first
        |exact Jd a
        | (refine Ja (wpAny_load ho ?_)
           rw[hc,hd]
           show ε M A (if(["enumerate","zip","dict_itemiterator","dict_reverseitemiterator","odict_iterator","itertools.zip_longest","itertools.pairwise"].contains n&&vs[0]? ==↑(rawInt _))=true then _ else _) Q E s
           rw[Jb (by intro h;rw[hn,EW]at h;cases h)]
           exact Jd a))
def cB(K:ι)(a:Δ):It:=
 ⟨λi H=>∃xs x,G0 K H a xs/\xs[i]? =↑x,λi H x H'=>H'=H/\∀xs,G0 K H a xs->xs[i]? =↑x,λi H=>∃xs,G0 K H a xs/\xs.length<=i⟩
def dz(K:ι)(a:Δ):It:=
 ⟨λi H=>∃xs x,G9 K H a xs/\xs[i]? =↑x,λi H x H'=>H'=H/\∀xs,G9 K H a xs->xs[i]? =↑x,λi H=>∃xs,G9 K H a xs/\xs.length<=i⟩
def jp(lo:Int)(n:Nat):It:=⟨λi _=>i<n,λi H x H'=>H'=H/\x= .int (lo+i),λi _=>n<=i⟩
theorem iV{P:Ξ}{w:Ω}{K:ι}{tg:Φ}(a it:Δ):Lh P w K tg (cB K a) [it] it (λi h=>h.IsListIter it a i) where
 mem:=by simp
 obj:=λi h st b f=>by
  have e:b=it:=by simpa using f
  subst e;obtain⟨o,e,c,d⟩:=st
  exact#[o,e,λv z=>by rw[d]at z;cases z]
 keep:=λi h h' st k=>st.at λo e=>k it (by simp) o e
 item:=by
  intro X B y q J i Oa s σ H E I j st G;subst B y q;obtain⟨xs,x,l,A⟩:=G;obtain⟨m,t,p,N⟩:=I.list l;obtain⟨u,M,Q⟩:=t.get A;obtain⟨r,C,L,n,D,F⟩:=j it (by simp)
  refine wpAny_pyNext_list_item st p.isList (x:=u) (by simpa using M) λh' g T=>?_
  have O:GX X Oa σ H {s with heap:=h'}:=I.turned (t':=s.toks) (λb o f e=>(T.2 b f).trans e) r C n D F
  obtain⟨o,e,c,d⟩:=id g
  exact#[u,Z,bN (s:={s with heap:=h'}) e c d ⋯ #[x,H,O,Q,#[Z,λys R=>by rw[I.list_inj R l];exact A],g,λb f=>(j b f).1]]
 done:=by
  intro X B y q J i Oa s σ H E I j st G;subst B y q;obtain⟨xs,l,A⟩:=G;obtain⟨m,t,p,N⟩:=I.list l;obtain⟨r,C,L,n,D,F⟩:=j it (by simp)
  have U:=t.length;exact wpAny_pyNext_list_end (I.ok.hd J) st p.isList (by simp;lia) λh' S=>#[Z,I.turned (t':=s.toks) (λb o f e=>S b o f e) r C n D F]
 self:=λ_ _ _ _ _ st h=>wpAny_pyIter_listiter st h
theorem gE{P:Ξ}{w:Ω}{K:ι}{tg:Φ}(a it:Δ):Lh P w K tg (dz K a) [it] it (λi h=>h.IsTupleIter it a i) where
 mem:=by simp
 obj:=λi h st b g=>by
  have e:b=it:=by simpa using g
  subst e;obtain⟨o,e,c,d⟩:=st
  exact#[o,e,λv z=>by rw[d]at z;cases z]
 keep:=λi h h' st k=>st.at λo e=>k it (by simp) o e
 item:=by
  intro X B y q J i Oa s σ H E I l st G;subst B y q;obtain⟨xs,x,m,A⟩:=G;obtain⟨f,t,p,N⟩:=I.tuple m;obtain⟨u,M,Q⟩:=t.get A;obtain⟨r,C,L,n,D,F⟩:=l it (by simp)
  refine wpAny_pyNext_tuple_item st (show s.heap.IsTuple a f.toArray from p) (x:=u) (by simpa using M) λh' j T=>?_
  have O:GX X Oa σ H {s with heap:=h'}:=I.turned (t':=s.toks) (λb o g e=>(T.2 b g).trans e) r C n D F
  obtain⟨o,e,c,d⟩:=id j
  exact#[u,Z,bN (s:={s with heap:=h'}) e c d ⋯ #[x,H,O,Q,#[Z,λys R=>by rw[I.tuple_inj R m];exact A],j,λb g=>(l b g).1]]
 done:=by
  intro X B y q J i Oa s σ H E I l st G;subst B y q;obtain⟨xs,m,A⟩:=G;obtain⟨f,t,p,N⟩:=I.tuple m;obtain⟨r,C,L,n,D,F⟩:=l it (by simp)
  have U:=t.length;exact wpAny_pyNext_tuple_end (I.ok.hd J) st (show s.heap.IsTuple a f.toArray from p) (by simp;lia) λh' S=>#[Z,I.turned (t':=s.toks) (λb o g e=>S b o g e) r C n D F]
 self:=λ_ _ _ _ _ st h=>wpAny_pyIter_tupleiter st h
theorem rZ{P:Ξ}{w:Ω}{K:ι}{tg:Φ}(it:Δ)(lo:Int)(n:Nat):Lh P w K tg (jp lo n) [it] it (λi h=>IsRangeIter h it (lo+(i:Nat)*1) ((n:Int)-(i:Nat)) 1) where
 mem:=by simp
 obj:=λi h st b a=>by
  have e:b=it:=by simpa using a
  subst e
  exact#[_,st,λv z=>by
   have B:Data.fields _=Data.cell v:=z
   cases B]
 keep:=λi h h' st k=>k it (by simp) _ st
 item:=by
  intro X p m g l i Oa s σ H E I d st x;subst p m g;obtain⟨j,q,y,f,r,u⟩:=d it (by simp)
  have W:=Walks.range (prog:=X.prog) (w:=X.w) (I.ok.hd l) it lo 1 n
  refine W.item i s _ _ x st λv h' tk F c D=>?_
  obtain⟨t,rfl⟩:=F;have A:GX X Oa σ H {s with heap:=h',toks:=tk}:=I.turned (λb o a e=>D b o (by simpa using a) e) j q f r u
  refine#[_,Z,bN (s:={s with heap:=h',toks:=tk}) (n:="range_iterator") c Z Z ⋯ #[.int (lo+i),H,A,#[t,?_],#[Z,Z],c,λb a=>(d b a).1]]
  rw[Int.mul_one]
 done:=by
  intro X p m g l i Oa s σ H E I d st x;subst p m g;obtain⟨j,q,y,f,r,u⟩:=d it (by simp)
  exact wpAny_pyNext_range_end (I.ok.hd l) st (by have:n<=i:=x;lia) λh' C=>#[Z,I.turned (t':=s.toks) (λb o a e=>C b o a e) j q f r u]
 self:=λ_ _ _ _ _ st h=>Gv st h
section
variable{X:Cx}{tg:Φ}
def ra(K:ι)(tl:TE):TI:=λσ H R=>tl σ H λx H1=>∃a,x= .ref a/\(∃xs,G0 K H1 a xs)/\R (cB K a) H1
def Dv(K:ι)(tl:TE):TI:=λσ H R=>tl σ H λx H1=>∃a,x= .ref a/\(∃xs,G9 K H1 a xs)/\R (dz K a) H1
theorem AQ{l:Φ}{tl:TE}(hl:PE X l tl):PI X tg l (ra X.K tl):=by
 intro Oa s σ H R I h;refine qz (hl Oa s σ H _ I h) λv c i=>?_
 obtain⟨x,H1,d,m,f⟩:=i;obtain⟨a,e,⟨xs,n⟩,q⟩:=f;subst e;cases m;obtain⟨g,t,p,r⟩:=d.list n;refine FO p.isList ?_
 refine#[c.heap.objs.size,[c.heap.objs.size],_,_,H1,Z,d.kept (t':=c.toks) λb o e=>Jl _ e,iV a _,#[_,Jq _ Z,Z,Z],λb j=>?_,q]
 have e:b=c.heap.objs.size:=by simpa using j
 subst e;exact d.fpOk (Jf _) (d.hok.fresh (Jf _))
theorem CQ{l:Φ}{tl:TE}(hl:PE X l tl):PI X tg l (Dv X.K tl):=by
 intro Oa s σ H R I h;refine qz (hl Oa s σ H _ I h) λv c i=>?_
 obtain⟨x,H1,d,m,g⟩:=i;obtain⟨a,e,⟨xs,n⟩,q⟩:=g;subst e;cases m;obtain⟨f,t,p,r⟩:=d.tuple n;refine FP (show c.heap.IsTuple a f.toArray from p) ?_
 refine#[c.heap.objs.size,[c.heap.objs.size],_,_,H1,Z,d.kept (t':=c.toks) λb o e=>Jl _ e,gE a _,#[_,Jq _ Z,Z,Z],λb j=>?_,q]
 have e:b=c.heap.objs.size:=by simpa using j
 subst e;exact d.fpOk (Jf _) (d.hok.fresh (Jf _))
theorem ng{Oa:GR}{σ:St}{H:Hp}{s:Θ}{R:It->Hp->Prop}{E:GP}{lo hi:Int}{t u v:Tok}{tk:Nat}(I:GX X Oa σ H s)(h1: -(2 ^ 62)<=lo)(h2:lo<2 ^ 62)(f: -(2 ^ 62)<=hi)(c:hi<2 ^ 62)
  (q:R (jp lo (hi-lo).toNat) H):ε (model X.prog X.w) X.A (pyIter (.ref s.heap.objs.size)) (Ec X Oa σ tg R) E {s with heap:=s.heap.push {cls:= .type "range",data:= .fields (List.toArray [.int lo t,.int hi u,.int 1 v])},toks:=tk}:=by
 refine wpAny_pyIter_range (IsRange.new ..) (small_one h1 h2 f c) ?_
 have a:GX X Oa σ H {s with heap:=s.heap.push {cls:= .type "range",data:= .fields (List.toArray [.int lo t,.int hi u,.int 1 v])},toks:=tk}:=I.kept λb o e=>Jl _ e
 refine#[(s.heap.push {cls:= .type "range",data:= .fields (List.toArray [.int lo t,.int hi u,.int 1 v])}).objs.size,[(s.heap.push {cls:= .type "range",data:= .fields (List.toArray [.int lo t,.int hi u,.int 1 v])}).objs.size],_,_,H,Z,
  a.kept (t':=tk) λb o e=>Jl _ e,rZ _ lo (hi-lo).toNat,?_,λb h=>?_,q]
 ·have d:lo+((0:Nat):Int)*1=lo:=by simp
  have g:(((hi-lo).toNat:Nat):Int)-((0:Nat):Int)=γ.Range.rangeSize lo hi 1:=by rw[rangeSize_one];split<;>lia
  show IsRangeIter _ _ (lo+((0:Nat):Int)*1) ((((hi-lo).toNat:Nat):Int)-((0:Nat):Int)) 1
  rw[d,g];exact Jq _ Z
 ·have e:b=(s.heap.push {cls:= .type "range",data:= .fields (List.toArray [.int lo t,.int hi u,.int 1 v])}).objs.size:=by simpa using h
  subst e;exact a.fpOk (Jf _) (a.hok.fresh (Jf _))
def yV(ta:TA):TI:=λσ H R=>ta σ H λvs H1=>∃j:Int,vs=[.int j]/\ -(2 ^ 62)<=j/\j<2 ^ 62/\R (jp 0 j.toNat) H1
def yq(ta:TA):TI:=λσ H R=>ta σ H λvs H1=>∃i j:Int,vs=[.int i,.int j]/\(-(2 ^ 62)<=i/\i<2 ^ 62/\ -(2 ^ 62)<=j/\j<2 ^ 62)/\R (jp i (j-i).toNat) H1
theorem uX{a:Φ}{ta:TA}{p pos:Pos}(hg:Gl X "range")(hm:X.mg "range"=none)(ha:PA X [a] ta)(hs:θ [a] X.env=[(false,eval a X.env)]:=by rfl):PI X tg (.Call (.Name "range" p) [a] [] pos) (yV ta):=by
 intro Oa s σ H R I h;refine Call_ (ZR I hg hm boot_range (FQ (qz (ha pos Oa s σ H _ I h) λm l f=>?_) hs Z))
 obtain⟨vs,H1,g,i,c⟩:=f;obtain⟨j,e,c,d,q⟩:=c;subst e;cases i with
 |cons r rr=>
  cases rr;obtain⟨t,rfl⟩:=r;exact call_range_1 (ng g (by lia) (by lia) c d (by simpa using q))
theorem uk{a b:Φ}{ta:TA}{p pos:Pos}(hg:Gl X "range")(hm:X.mg "range"=none)(ha:PA X [a,b] ta)(hs:θ [a,b] X.env=[(false,eval a X.env),(false,eval b X.env)]:=by rfl)(hs2:θ [b] X.env=[(false,eval b X.env)]:=by rfl):
  PI X tg (.Call (.Name "range" p) [a,b] [] pos) (yq ta):=by
 intro Oa s σ H R I h;refine Call_ (ZR I hg hm boot_range (FQ (qz (ha pos Oa s σ H _ I h) λv u g=>?_) (by rw[hs,hs2]) (by rw[hs2];rfl)))
 obtain⟨vs,H1,l,m,c⟩:=g;obtain⟨i,j,e,⟨c,f,d,n⟩,q⟩:=c;subst e;cases m with
 |cons r rr=>
  cases rr with
  |cons r' rr=>
   cases rr;obtain⟨t,rfl⟩:=r;obtain⟨o,rfl⟩:=r';exact call_range_2 (ng l c f d n q)
def vK(f:TI)(g:TG)(tb:TS):TS:=λD σ H=>f σ H λJ H1=>∃W:Nat->Nat->St->Hp->Prop,(∃m,W 0 m σ H1)/\∀i m σ H,W i m σ H->
 (J.stop i H/\D.nx σ H)\/(J.go i H/\∃N:St->Hp->Prop,(∀a H',N a H'->∃d,d<m/\W (i+1) d a H')/\∀x H',J.yld i H x H'->g x σ H' λc e=>tb {D with nx:=N,ct:=N,bk:=D.nx} c e)
def ZQ(fp:Η)(h:Ψ):List (Δ×Obj):=fp.filterMap λb=>(h.get? b).map λo=>(b,o)
theorem Qk{fp:Η}{h:Ψ}{b:Δ}{o:Obj}(hb:b∈fp)(e:h.get? b=↑o):(b,o)∈ZQ fp h:=List.mem_filterMap.mpr #[b,hb,by rw[e];rfl]
theorem jA{fp:Η}{h:Ψ}{p:Δ×Obj}(hp:p∈ZQ fp h):p.1∈fp/\h.get? p.1=↑p.2:=by
 obtain⟨b,a,e⟩:=List.mem_filterMap.mp hp;cases q:h.get? b with
 |none=>rw[q]at e;cases e
 |some o=>
  rw[q]at e;have c:(b,o)=p:=JA e
  subst c
  exact#[a,q]
theorem GX.pinned{Oa:GR}{σ:St}{H:Hp}{s:Θ}{fp:Η}(I:GX X Oa σ H s)(hf:∀b∈fp,Qq X Oa H b)(ho:∀b∈fp,∃o,s.heap.get? b=↑o/\∀v,o.data≠ .cell v):GX X (Oa++ZQ fp s.heap) σ H s:=
 I.pins_of λp g=>(JL.mp g).elim (λz=>I.pin p (JV _ z)) λz=>by
  obtain⟨a,e⟩:=jA z;obtain⟨f,h,i,_⟩:=hf p.1 a;obtain⟨o,c,d⟩:=ho p.1 a;rw[e]at c;cases c
  exact#[e,f,h,i,d]
theorem GX.unpinned{Oa pl:GR}{σ:St}{H:Hp}{s:Θ}(I:GX X (Oa++pl) σ H s):GX X Oa σ H s:=I.pins_of λp a=>I.pin p (JV _ (FN _ a))
theorem B1{w:Φ}{y:List δ}{wi:TI}{g:TG}{tb:TS}{pos:Pos}(hp:PassesOwn (model X.prog X.w) X.A X.env X.xe)(hc:X.calm=true)(hi:PI X tg w wi)(hg:PG X tg g)(hb:LB X y tb)
  (hs:∀x,foldedSetIterable w X.env x=pure x:=by intro _;rfl):PS X (.For tg w y [] pos) (vK wi g tb):=by
 intro Oa s σ H D I h;refine wpAny_For (qz (hi Oa s σ H _ I h) λv s1 h1=>qz h1 λa0 s2 h2=>?_) hs
 obtain⟨it,fp,tn,J,H2,e,I2,T,O,U,W,⟨m0,w0⟩,C⟩:=h2;subst e;have j:∀{H':Hp},(∀b∈fp,H' b=none)->∀b∈fp,Qq X Oa H' b:=λhn b hb=>#[hn b hb,(U b hb).2]
 refine codeAny_forLoop_any (λn s'=>∃i c H',GX X Oa c H' s'/\tn i s'.heap/\(∀b∈fp,H' b=none)/\W i n c H') ?_ m0 #[0,σ,H2,I2,O,λb hb=>(U b hb).1,w0]
 rintro n s3 ⟨i,t,L,I3,E,G,w3⟩
 rcases C i n t L w3 with⟨F,qn⟩|⟨go,N,hN,step⟩
 ·refine F6 hp (qz (T.done X Z Z Z hc i Oa s3 t L X.xe I3 (j G) E F) λr s4 B=>?_)
  obtain⟨Q,I4⟩:=B;subst Q;exact wpAny_execs_nil #[t,L,I4,qn]
 ·refine F6 hp (qz (T.item X Z Z Z hc i Oa s3 t L X.xe I3 (j G) E go) λr s4 B=>?_)
  obtain⟨u,Q,h4⟩:=B;subst Q;refine F6 hp (qz h4 λ_ Y B=>?_)
  obtain⟨x,H5,I5,r5,y5,A,S⟩:=B;have P:=I5.pinned (j S) (T.obj _ _ A);refine F6 hp (qz (hg _ Y t H5 x u _ P r5 (step x H5 y5)) λ_ s6 B=>?_)
  obtain⟨M,H6,I6,q6⟩:=B;refine F6 hp (qz (hb _ s6 M H6 _ I6 q6) λf R z=>?_)
  have l:∀{a:St} {p:Hp},GX X (Oa++ZQ fp Y.heap) a p R->N a p->∃m,m<n/\∃i c H',GX X Oa c H' R/\tn i R.heap/\(∀b∈fp,H' b=none)/\W i m c H':=λ{a p} q K=>by
   obtain⟨m',hm,w7⟩:=hN a p K;refine#[m',hm,i+1,a,p,q.unpinned,T.keep _ _ _ A λb hb o e=>(q.pin (b,o) (JV _ (JV _ (Qk hb e)))).1,λb hb=>?_,w7]
   obtain⟨o,e,d⟩:=T.obj _ _ A b hb
   exact(q.pin (b,o) (JV _ (JV _ (Qk hb e)))).2.1
  cases f with
  |next=>obtain⟨a,p,q,K⟩:=z;exact l q K
  |cont=>obtain⟨a,p,q,K⟩:=z;exact l q K
  |brk=>obtain⟨a,p,q,z⟩:=z;exact#[a,p,q.unpinned,z]
  |ret v=>obtain⟨x7,a,p,q,r7,z⟩:=z;exact#[x7,a,p,q.unpinned,r7,z]
end
theorem Qj{K:ι}{a:Δ}{xs:Ε}{g:TG}{tb:TS}{D:HY}{σ:St}{H:Hp}(Pv:Nat->St->Hp->Prop)(l:Pv 0 σ H)(hl:∀i σ H,i<=xs.length->Pv i σ H->G0 K H a xs)
  (hs:∀i x σ H,xs[i]? =↑x->Pv i σ H->g x σ H λd h=>tb {D with nx:=Pv (i+1),ct:=Pv (i+1),bk:=D.nx} d h)(hd:∀σ H,Pv xs.length σ H->D.nx σ H):
  ∃W:Nat->Nat->St->Hp->Prop,(∃m,W 0 m σ H)/\∀i m σ H,W i m σ H->
   ((cB K a).stop i H/\D.nx σ H)\/((cB K a).go i H/\∃N:St->Hp->Prop,(∀c H',N c H'->∃j,j<m/\W (i+1) j c H')/\∀x H',(cB K a).yld i H x H'->g x σ H' λd h=>tb {D with nx:=N,ct:=N,bk:=D.nx} d h):=by
 refine#[λi m σ H=>m=xs.length-i/\i<=xs.length/\Pv i σ H,#[xs.length,by simp,Jy _,l],?_]
 rintro i m σ H ⟨rfl,hi,p⟩
 have q:=hl i σ H hi p
 by_cases f:i<xs.length
 ·refine .inr #[#[xs,xs[i],q,by simp [f]],Pv (i+1),λc H' n=>#[xs.length-(i+1),by lia,Z,f,n],λx H' y=>?_]
  obtain⟨e,y⟩:=y;subst e;exact hs i x σ _ (y xs q) p
 ·have e:i=xs.length:=by lia
  subst e;exact .inl #[#[xs,q,Jf _],hd σ H p]
theorem ia{K:ι}{a:Δ}{xs:Ε}{g:TG}{tb:TS}{D:HY}{σ:St}{H:Hp}(Pv:Nat->St->Hp->Prop)(l:Pv 0 σ H)(hl:∀i σ H,i<=xs.length->Pv i σ H->G9 K H a xs)
  (hs:∀i x σ H,xs[i]? =↑x->Pv i σ H->g x σ H λd h=>tb {D with nx:=Pv (i+1),ct:=Pv (i+1),bk:=D.nx} d h)(hd:∀σ H,Pv xs.length σ H->D.nx σ H):
  ∃W:Nat->Nat->St->Hp->Prop,(∃m,W 0 m σ H)/\∀i m σ H,W i m σ H->
   ((dz K a).stop i H/\D.nx σ H)\/((dz K a).go i H/\∃N:St->Hp->Prop,(∀c H',N c H'->∃j,j<m/\W (i+1) j c H')/\∀x H',(dz K a).yld i H x H'->g x σ H' λd h=>tb {D with nx:=N,ct:=N,bk:=D.nx} d h):=by
 refine#[λi m σ H=>m=xs.length-i/\i<=xs.length/\Pv i σ H,#[xs.length,by simp,Jy _,l],?_]
 rintro i m σ H ⟨rfl,hi,p⟩
 have q:=hl i σ H hi p
 by_cases f:i<xs.length
 ·refine .inr #[#[xs,xs[i],q,by simp [f]],Pv (i+1),λc H' n=>#[xs.length-(i+1),by lia,Z,f,n],λx H' y=>?_]
  obtain⟨e,y⟩:=y;subst e;exact hs i x σ _ (y xs q) p
 ·have e:i=xs.length:=by lia
  subst e;exact .inl #[#[xs,q,Jf _],hd σ H p]
theorem Qf{lo:Int}{n:Nat}{g:TG}{tb:TS}{D:HY}{σ:St}{H:Hp}(Pv:Nat->St->Hp->Prop)(j:Pv 0 σ H)
  (hs:∀i σ H,i<n->Pv i σ H->g (.int (lo+i)) σ H λc f=>tb {D with nx:=Pv (i+1),ct:=Pv (i+1),bk:=D.nx} c f)(hd:∀σ H,Pv n σ H->D.nx σ H):
  ∃W:Nat->Nat->St->Hp->Prop,(∃m,W 0 m σ H)/\∀i m σ H,W i m σ H->
   ((jp lo n).stop i H/\D.nx σ H)\/((jp lo n).go i H/\∃N:St->Hp->Prop,(∀a H',N a H'->∃h,h<m/\W (i+1) h a H')/\∀x H',(jp lo n).yld i H x H'->g x σ H' λc f=>tb {D with nx:=N,ct:=N,bk:=D.nx} c f):=by
 refine#[λi m σ H=>m=n-i/\i<=n/\Pv i σ H,#[n,by simp,Jy _,j],?_]
 rintro i m σ H ⟨rfl,hi,p⟩
 by_cases d:i<n
 ·refine .inr #[d,Pv (i+1),λa H' l=>#[n-(i+1),by lia,Z,d,l],λx H' y=>?_]
  obtain⟨e,y⟩:=y;subst e y;exact hs i σ _ d p
 ·have e:i=n:=by lia
  subst e;exact .inl #[Jf _,hd σ H p]
abbrev R2:=V->V->Hp->VK->Prop
def zt(X:Cx)(f:Γ->Γ->Sem Γ)(r:R2):Prop:=
 ∀(Oa:GR) (s:Θ) (σ:St) (H:Hp) (x y:V) (v u:Γ) (Q:VK),GX X Oa σ H s->G8 x v->G8 y u->r x y H Q->
  ε (model X.prog X.w) X.A (f v u) (EP X Oa σ Q) X.xe s
def ym(X:Cx)(f:Γ->Sem Γ)(r:V->Hp->VK->Prop):Prop:=
 ∀(Oa:GR) (s:Θ) (σ:St) (H:Hp) (x:V) (v:Γ) (Q:VK),GX X Oa σ H s->G8 x v->r x H Q->
  ε (model X.prog X.w) X.A (f v) (EP X Oa σ Q) X.xe s
def zi(X:Cx)(f:Γ)(r:Ε->Hp->VK->Prop):Prop:=
 ∀(Oa:GR) (s:Θ) (σ:St) (H:Hp) (xs:Ε) (a:Ζ) (Q:VK),GX X Oa σ H s->GZ xs a->r xs H Q->
  ε (model X.prog X.w) X.A (call f a) (EP X Oa σ Q) X.xe s
def iT(r:R2)(ta tb:TE):TE:=λσ H Q=>ta σ H λx H1=>tb σ H1 λy a=>r x y a Q
def Eg(r:V->Hp->VK->Prop)(ta:TE):TE:=λσ H Q=>ta σ H λx H1=>r x H1 Q
inductive N8 (C:Int->Int->Prop) (g:Int->Int->V) (x:V) (y:V) (H:Hp) (Q:VK):Prop
 |mk (i:_) (j:_) (h1:x= .int i) (h2:y= .int j) (h3:C i j) (h4:Q (g i j) H)
def rI(C:Int->Int->Prop)(g:Int->Int->V):R2:=λx y H Q=>N8 C g x y H Q
inductive N5 (g:Int->Int->V) (x:V) (y:V) (H:Hp) (Q:VK):Prop
 |mk (i:_) (j:_) (h1:x= .int i) (h2:y= .int j) (h3:Q (g i j) H)
def ju(g:Int->Int->V):R2:=λx y H Q=>N5 g x y H Q
inductive N9 (g:Int->V) (x:V) (H:Hp) (Q:VK):Prop
 |mk (i:_) (h1:x= .int i) (h2:Q (g i) H)
def rU(g:Int->V):V->Hp->VK->Prop:=λx H Q=>N9 g x H Q
section
variable{X:Cx}{a b:Φ}{ta tb:TE}{pos:Pos}
theorem xp(ha:PE X a ta)(hb:PE X b tb){Oa:GR}{s:Θ}{σ:St}{H:Hp}{R:V->V->Hp->Prop}(I:GX X Oa σ H s)
  (h:ta σ H λx H1=>tb σ H1 λy c=>R x y c){Q:GP}{f:Γ->Γ->Sem Γ}
  (hf:∀v u g x y c,GX X Oa σ c g->G8 x v->G8 y u->R x y c->ε (model X.prog X.w) X.A (f v u) Q X.xe g):
  ε (model X.prog X.w) X.A (eval a X.env) (λv e=>ε (model X.prog X.w) X.A (eval b X.env) (λu d=>ε (model X.prog X.w) X.A (f v u) Q X.xe d) X.xe e) X.xe s:=by
 refine qz (ha Oa s σ H _ I h) λv n i=>?_
 obtain⟨x,H1,o,p,m⟩:=i;refine qz (hb Oa n σ H1 _ o m) λu g i=>?_
 obtain⟨y,c,j,q,l⟩:=i;exact hf v u g x y c j p q l
theorem DM{op:Operator}{r:R2}(ho:zt X (binaryOp op) r)(ha:PE X a ta)(hb:PE X b tb):PE X (.BinOp a op b pos) (iT r ta tb):=by
 intro Oa s σ H Q I h;exact wpAny_BinOp (xp ha hb I h λv u f x y e d c g q=>ho Oa f σ e x y v u Q d c g q)
theorem DP{op:UnaryOp}{r:V->Hp->VK->Prop}(ho:ym X (unaryOp op) r)(ha:PE X a ta):PE X (.UnaryOp op a pos) (Eg r ta):=by
 intro Oa s σ H Q I h;exact UnaryOp_ (qz (ha Oa s σ H _ I h) λv d ⟨x,H1,e,c,f⟩=>ho Oa d σ H1 x v Q e c f)
theorem yx{f:Γ->Γ->Sem Γ}{C:Int->Int->Prop}{g:Int->Int->Int}
  (a:∀(i j:Int) (t u:Tok) (s:Θ) (Q:GP) (E:GP),C i j->Q (.int (g i j) s.toks) {s with toks:=s.toks+1}->ε (model X.prog X.w) X.A (f (.int i t) (.int j u)) Q E s):
  zt X f (rI C λi j=> .int (g i j)):=by
 intro Oa s σ H x y v u Q I c l h;obtain⟨i,j,rfl,rfl,e,q⟩:=h;obtain⟨t,rfl⟩:=c;obtain⟨d,rfl⟩:=l;exact a i j t d s _ _ e #[.int (g i j),H,I.tok _,#[_,Z],q]
theorem Co{f:Γ->Γ->Sem Γ}{g:Int->Int->Int}
  (a:∀(i j:Int) (t u:Tok) (s:Θ) (Q:GP) (E:GP),Q (.int (g i j) s.toks) {s with toks:=s.toks+1}->ε (model X.prog X.w) X.A (f (.int i t) (.int j u)) Q E s):
  zt X f (ju λi j=> .int (g i j)):=by
 intro Oa s σ H x y v u Q I c e h;obtain⟨i,j,rfl,rfl,q⟩:=h;obtain⟨t,rfl⟩:=c;obtain⟨d,rfl⟩:=e;exact a i j t d s _ _ #[.int (g i j),H,I.tok _,#[_,Z],q]
theorem rS{f:Γ->Γ->Sem Γ}{g:Int->Int->Bool}
  (a:∀(i j:Int) (t u:Tok) (s:Θ) (Q:GP) (E:GP),Q (.bool (g i j)) s->ε (model X.prog X.w) X.A (f (.int i t) (.int j u)) Q E s):
  zt X f (ju λi j=> .bl (g i j)):=by
 intro Oa s σ H x y v u Q I c e h;obtain⟨i,j,rfl,rfl,q⟩:=h;obtain⟨t,rfl⟩:=c;obtain⟨d,rfl⟩:=e;exact a i j t d s _ _ #[.bl (g i j),H,I,Z,q]
def EA(i j:Int):Prop:=0<j/\j<1073741824
def Ew(i j:Int):Prop:=0<=j/\j<=1000000/\i.natAbs<2 ^ 64
def Nn(i j:Int):Prop:=(-(2 ^ 64)<i/\i<2 ^ 64)\/(-(2 ^ 64)<j/\j<2 ^ 64)
theorem Nn.ok{i j:Int}(h:Nn i j):IntMulOk i j:=by
 rcases h with⟨h1,a⟩|⟨h1,a⟩
 ·exact .of_left (intBits_le_64 h1 a)
 ·exact .of_right (intBits_le_64 h1 a)
theorem qI:zt X (binaryOp .Add) (ju λi j=> .int (i+j)):=Co λ_ _ _ _ _ _ _ q=>add_int q
theorem zO:zt X (binaryOp .Sub) (ju λi j=> .int (i-j)):=Co λ_ _ _ _ _ _ _ q=>sub_int q
theorem QR:zt X (binaryOp .Mult) (rI Nn λi j=> .int (i*j)):=yx λ_ _ _ _ _ _ _ a q=>mul_int q a.ok
theorem bA:zt X (binaryOp .FloorDiv) (rI EA λi j=> .int (i/j)):=yx λi j _ _ _ _ _ a q=>by
 have h1:(0:Int)<j:=a.1
 have c:j<1073741824:=a.2
 exact floordiv_int (by lia) (by rw[Int.fdiv_eq_ediv_of_nonneg i (by lia)];exact q) (.inl (PyProof.noPylong_small (by lia)))
theorem zV:zt X (binaryOp .Mod) (rI (λ_ j=>0<j) λi j=> .int (i%j)):=yx λi j _ _ _ _ _ a q=>by
 have h1:(0:Int)<j:=a
 exact mod_int' (by lia) (by rw[Int.fmod_eq_emod_of_nonneg i (by lia)];exact q)
theorem CC:zt X (binaryOp .Pow) (rI Ew λi j=> .int (i ^ j.toNat)):=yx λ_ _ _ _ _ _ _ a q=>pow_int_small a.1 a.2.1 a.2.2 q
theorem EO{f:Γ->Sem Γ}{g:Int->Int}
  (a:∀(i:Int) (t:Tok) (s:Θ) (Q:GP) (E:GP),Q (.int (g i) s.toks) {s with toks:=s.toks+1}->ε (model X.prog X.w) X.A (f (.int i t)) Q E s):
  ym X f (rU λi=> .int (g i)):=by
 intro Oa s σ H x v Q I c h;obtain⟨i,rfl,q⟩:=h;obtain⟨t,rfl⟩:=c;exact a i t s _ _ #[.int (g i),H,I.tok _,#[_,Z],q]
theorem ao:ym X (unaryOp .USub) (rU λi=> .int (-i)):=EO λ_ _ _ _ _ q=>neg_int q
end
def CW:V->V->Bool
 | .non,.non=>true| .non,.int _=>true| .int _,.non=>true| .non,.bl _=>true| .bl _,.non=>true| .non,.str _=>true| .str _,.non=>true
 | .int _,.int _=>true| .bl _,.bl _=>true| .str _,.str _=>true| .byt _,.byt _=>true
 | .int _,.str _=>true| .str _,.int _=>true| .bl _,.str _=>true| .str _,.bl _=>true
 |_,_=>false
def EH:R2:=λx y H Q=>CW x y=true/\Q (.bl (decide (x=y))) H
def EM:R2:=λx y H Q=>CW x y=true/\Q (.bl (! decide (x=y))) H
theorem oF{i j:Int}:decide (V.int i=V.int j)=(i==j):=by
 rw[Fb];simp
theorem vk{i j:Bool}:decide (V.bl i=V.bl j)=(i==j):=by
 rw[Fb];simp
theorem oE{i j:Str}:decide (V.str i=V.str j)=(i==j):=by
 rw[Fb];simp
theorem oO{i j:Array UInt8}:decide (V.byt i=V.byt j)=(i.toList==j.toList):=by
 rw[Fb];cases i;cases j;simp
section
variable{X:Cx}{a b c:Φ}{ta tb tc:TE}{pos:Pos}
theorem qP{Oa:GR}{σ:St}{H:Hp}{s:Θ}{Q:VK}{k a:Bool}(I:GX X Oa σ H s)(q:Q (.bl k) H)(e:k=a):EP X Oa σ Q (.bool a) s:=by
 subst e
 exact#[.bl k,H,I,Z,q]
theorem zE:zt X (compareOp .Eq) EH:=by
 intro Oa s σ H x y v u Q I e a h;obtain⟨d,q⟩:=h;cases x with
 |non=>
  cases e;cases y with
  |non=>cases a;exact PySem.EqNone.eq_none_none (qP I q (by simp))
  |bl j=>cases a;exact PySem.EqNone.eq_none_bool (qP I q (by simp))
  |int j=>obtain⟨c,rfl⟩:=a;exact PySem.EqNone.eq_none_int (qP I q (by simp))
  |str j=>obtain⟨c,rfl⟩:=a;exact PySem.EqNone.eq_none_str (qP I q (by simp))
  |_=>exact absurd (show false=true from d) JJ
 |bl i=>
  cases e;cases y with
  |non=>cases a;exact PySem.EqNone.eq_bool_none (qP I q (by simp))
  |bl j=>cases a;exact eq_bool (qP I q vk)
  |str j=>obtain⟨c,rfl⟩:=a;exact PySem.EqMixed.eq_bool_str (qP I q (by simp))
  |_=>exact absurd (show false=true from d) JJ
 |int i=>
  obtain⟨t,rfl⟩:=e;cases y with
  |non=>cases a;exact PySem.EqNone.eq_int_none (qP I q (by simp))
  |int j=>obtain⟨c,rfl⟩:=a;exact eq_int (qP I q oF)
  |str j=>obtain⟨c,rfl⟩:=a;exact PySem.EqMixed.eq_int_str (qP I q (by simp))
  |_=>exact absurd (show false=true from d) JJ
 |str i=>
  obtain⟨t,rfl⟩:=e;cases y with
  |non=>cases a;exact PySem.EqNone.eq_str_none (qP I q (by simp))
  |bl j=>cases a;exact PySem.EqMixed.eq_str_bool (qP I q (by simp))
  |int j=>obtain⟨c,rfl⟩:=a;exact PySem.EqMixed.eq_str_int (qP I q (by simp))
  |str j=>obtain⟨c,rfl⟩:=a;exact eq_str (qP I q oE)
  |_=>exact absurd (show false=true from d) JJ
 |byt i=>
  obtain⟨t,rfl⟩:=e;cases y with
  |byt j=>obtain⟨c,rfl⟩:=a;exact W.eq_bytes (qP I q oO)
  |_=>exact absurd (show false=true from d) JJ
 |_=>cases y<;>exact absurd (show false=true from d) JJ
theorem gx:zt X (compareOp .NotEq) EM:=by
 intro Oa s σ H x y v u Q I e a h;obtain⟨d,q⟩:=h;cases x with
 |non=>
  cases e;cases y with
  |non=>cases a;exact PySem.EqNone.ne_none_none (qP I q (by simp))
  |bl j=>cases a;exact PySem.EqNone.ne_none_bool (qP I q (by simp))
  |int j=>obtain⟨c,rfl⟩:=a;exact PySem.EqNone.ne_none_int (qP I q (by simp))
  |str j=>obtain⟨c,rfl⟩:=a;exact PySem.EqNone.ne_none_str (qP I q (by simp))
  |_=>exact absurd (show false=true from d) JJ
 |bl i=>
  cases e;cases y with
  |non=>cases a;exact PySem.EqNone.ne_bool_none (qP I q (by simp))
  |bl j=>cases a;exact ne_bool (qP I q (JH not vk))
  |str j=>obtain⟨c,rfl⟩:=a;exact PySem.EqMixed.ne_bool_str (qP I q (by simp))
  |_=>exact absurd (show false=true from d) JJ
 |int i=>
  obtain⟨t,rfl⟩:=e;cases y with
  |non=>cases a;exact PySem.EqNone.ne_int_none (qP I q (by simp))
  |int j=>obtain⟨c,rfl⟩:=a;exact ne_int (qP I q (JH not oF))
  |str j=>obtain⟨c,rfl⟩:=a;exact PySem.EqMixed.ne_int_str (qP I q (by simp))
  |_=>exact absurd (show false=true from d) JJ
 |str i=>
  obtain⟨t,rfl⟩:=e;cases y with
  |non=>cases a;exact PySem.EqNone.ne_str_none (qP I q (by simp))
  |bl j=>cases a;exact PySem.EqMixed.ne_str_bool (qP I q (by simp))
  |int j=>obtain⟨c,rfl⟩:=a;exact PySem.EqMixed.ne_str_int (qP I q (by simp))
  |str j=>obtain⟨c,rfl⟩:=a;exact ne_str (qP I q (JH not oE))
  |_=>exact absurd (show false=true from d) JJ
 |byt i=>
  obtain⟨t,rfl⟩:=e;cases y with
  |byt j=>obtain⟨c,rfl⟩:=a;exact W.ne_bytes (qP I q (JH not oO))
  |_=>exact absurd (show false=true from d) JJ
 |_=>cases y<;>exact absurd (show false=true from d) JJ
theorem ff:zt X (compareOp .Lt) (ju λi j=> .bl (decide (i<j))):=rS λ_ _ _ _ _ _ _ q=>lt_int q
theorem ZK:zt X (compareOp .LtE) (ju λi j=> .bl (decide (i<=j))):=rS λ_ _ _ _ _ _ _ q=>le_int q
theorem rY:zt X (compareOp .Gt) (ju λi j=> .bl (decide (j<i))):=rS λ_ _ _ _ _ _ _ q=>gt_int q
theorem sQ:zt X (compareOp .GtE) (ju λi j=> .bl (decide (j<=i))):=rS λ_ _ _ _ _ _ _ q=>ge_int q
theorem Zp:zt X (compareOp .Is) (λx y H Q=>y= .non/\Q (.bl (decide (x= .non))) H):=by
 intro Oa s σ H x y v u Q I a c h;obtain⟨rfl,q⟩:=h;cases c;refine is_none_gen (qP I q ?_)
 cases x<;>first
  |(cases a;rfl)
  |(obtain⟨t,rfl⟩:=a;rfl)
theorem aa:zt X (compareOp .IsNot) (λx y H Q=>y= .non/\Q (.bl (! decide (x= .non))) H):=by
 intro Oa s σ H x y v u Q I a c h;obtain⟨rfl,q⟩:=h;cases c;refine isnot_none_gen (qP I q ?_)
 cases x<;>first
  |(cases a;rfl)
  |(obtain⟨t,rfl⟩:=a;rfl)
theorem qB(b:Φ){op:CmpOp}(h:op≠ .In:=by decide)(h2:op≠ .NotIn:=by decide):behindInMarks op b=false:=by
 have c:(op==CmpOp.In)=false:=by cases op<;>first|rfl|exact absurd Z h
 have a:(op==CmpOp.NotIn)=false:=by cases op<;>first|rfl|exact absurd Z h2
 cases b<;>simp [behindInMarks,c,a]
theorem Ai{op:CmpOp}{r:R2}(ho:zt X (compareOp op) r)(ha:PE X a ta)(hb:PE X b tb)(hm:behindInMarks op b=false):PE X (.Compare a [op] [b] pos) (iT r ta tb):=by
 intro Oa s σ H Q I h;exact wpAny_Compare1 (xp ha hb I h λv u f x y e d c g q=>ho Oa f σ e x y v u Q d c g q) hm
def gJ(t:TE):TT:=λσ H Q=>t σ H λx H'=>∃k,x= .bl k/\Q k H'
theorem AC{op:CmpOp}{r:R2}(ho:zt X (compareOp op) r)(ha:PE X a ta)(hb:PE X b tb)(hm:behindInMarks op b=false):PT X (.Compare a [op] [b] pos) (gJ (iT r ta tb)):=by
 intro Oa s σ H Q I h;refine wpAny_isTrue_Compare1 (qz (ha Oa s σ H _ I h) λv p ⟨x,H1,q,t,l⟩=>qz (hb Oa p σ H1 _ q l) λu o ⟨y,j,f,w,i⟩=>
  qz (ho Oa o σ j x y v u _ f t w i) λc A ⟨z,g,m,n,k,e,d⟩=>?_) hm
 subst e;cases n;exact Fj #[g,m,d]
def gW(r d:R2)(ta tb tc:TE):TE:=λσ H Q=>ta σ H λx H1=>tb σ H1 λy e=>r x y e λz a=>∃k,z= .bl k/\
 (if k=true then tc σ a λf c=>d y f c Q else Q (.bl false) a)
theorem wI{op f:CmpOp}{r g:R2}(ho:zt X (compareOp op) r)(ho':zt X (compareOp f) g)(ha:PE X a ta)(hb:PE X b tb)(hc:PE X c tc)
  (hm:lastMarks [op,f] [b,c]=false:=by with_unfolding_all rfl):PE X (.Compare a [op,f] [b,c] pos) (gW r g ta tb tc):=by
 intro Oa s σ H Q I h;refine Compare_chain (qz (ha Oa s σ H _ I h) λv t ⟨x,H1,D,w,A⟩=>chain_link (qz (hb Oa t σ H1 _ D A) λu q ⟨y,F,n,m,o⟩=>
  qz (ho Oa q σ F x y v u _ n w m o) λd K ⟨z,i,l,p,k,e,j⟩=>?_)) hm
 subst e;cases p;refine Fj ?_
 cases k with
 |false=>exact ite_ff #[.bl false,i,l,Z,j]
 |true=>exact ite_tt (chain_last (qz (hc Oa K σ i _ l j) λJ C ⟨G,E,L,B,M⟩=>ho' Oa C σ E y G u J Q L m B M))
theorem xg{op f:CmpOp}{r g:R2}(ho:zt X (compareOp op) r)(ho':zt X (compareOp f) g)(ha:PE X a ta)(hb:PE X b tb)(hc:PE X c tc)
  (hm:lastMarks [op,f] [b,c]=false:=by with_unfolding_all rfl):PT X (.Compare a [op,f] [b,c] pos) (gJ (gW r g ta tb tc)):=by
 intro Oa s σ H Q I h;refine isTrue_chain (qz (ha Oa s σ H _ I h) λv t ⟨x,H1,J,w,B⟩=>test_link (qz (hb Oa t σ H1 _ J B) λu q ⟨y,L,n,m,o⟩=>
  qz (ho Oa q σ L x y v u _ n w m o) λd S ⟨z,i,l,p,k,e,j⟩=>?_)) hm
 subst e;cases p;refine Fj ?_
 cases k with
 |false=>
  obtain⟨k',R,A⟩:=j;cases R;exact ite_ff #[i,l,A]
 |true=>
  refine ite_tt (test_last (qz (hc Oa S σ i _ l j) λN G ⟨M,K,U,F,W⟩=>qz (ho' Oa G σ K y M u N _ U m F W) λd' Y D=>?_))
  obtain⟨z2,T,E,P,k2,O,C⟩:=D;subst O;cases P;exact Fj #[T,E,C]
theorem ZS:(ζ:Nat)<2 ^ 63:=by rw[Ju];decide
theorem zM{x:V}{us:Ζ}(r:GZ [x] us):∃u,us=[u]/\G8 x u:=by
 cases r with
 |cons r1 r2=>cases r2;exact#[_,Z,r1]
theorem j5{x y:V}{us:Ζ}(r:GZ [x,y] us):∃u a,us=[u,a]/\G8 x u/\G8 y a:=by
 cases r with
 |cons r1 r2=>
  cases r2 with
  |cons r3 r4=>cases r4;exact#[_,_,Z,r1,r3]
theorem kq:zi X (.builtin "abs") (λxs H Q=>∃i,xs=[.int i]/\Q (.int (if i<0 then -i else i)) H):=by
 intro Oa s σ H xs a Q I r h;obtain⟨i,rfl,q⟩:=h;obtain⟨u,rfl,t,rfl⟩:=zM r;exact call_abs_int λu tk=>#[.int (if i<0 then -i else i),H,I.tok _,#[_,Z],q]
theorem Zg(hc:X.calm=true):zi X (.builtin "max") (λxs H Q=>∃i j,xs=[.int i,.int j]/\Q (.int (if j>i then j else i)) H):=by
 intro Oa s σ H xs e Q I r h;obtain⟨i,j,rfl,q⟩:=h;obtain⟨u,d,rfl,⟨t,rfl⟩,⟨c,rfl⟩⟩:=j5 r;refine max_two_ints (I.ok.hd hc) λh' tk k=>#[_,H,I.kept k,?_,q]
 by_cases a:j>i
 ·rw[Jc a,Jc a];exact#[_,Z]
 ·rw[Jb a,Jb a];exact#[_,Z]
theorem zW(hc:X.calm=true):zi X (.builtin "min") (λxs H Q=>∃i j,xs=[.int i,.int j]/\Q (.int (if j<i then j else i)) H):=by
 intro Oa s σ H xs e Q I r h;obtain⟨i,j,rfl,q⟩:=h;obtain⟨u,d,rfl,⟨t,rfl⟩,⟨c,rfl⟩⟩:=j5 r;refine min_two_ints (I.ok.hd hc) λh' tk k=>#[_,H,I.kept k,?_,q]
 by_cases a:j<i
 ·rw[Jc a,Jc a];exact#[_,Z]
 ·rw[Jb a,Jb a];exact#[_,Z]
theorem jG:zi X (.type "int") (λxs H Q=>(∃i,xs=[.int i]/\Q (.int i) H)\/∃k,xs=[.bl k]/\Q (.int (if k then 1 else 0)) H):=by
 intro Oa s σ H xs c Q I r h;rcases h with⟨i,rfl,q⟩|⟨k,rfl,q⟩
 ·obtain⟨u,rfl,t,rfl⟩:=zM r
  exact call_int_int #[.int i,H,I,#[_,Z],q]
 ·obtain⟨u,rfl,a⟩:=zM r
  cases a;exact call_int_bool #[.int (if k then 1 else 0),H,I.tok _,#[_,Z],q]
theorem mf:zi X (.builtin "ord") (λxs H Q=>∃x,xs=[.str x]/\x.length=1/\Q (.int (x.cps.getD 0 0:Nat)) H):=by
 intro Oa s σ H xs c Q I r h;obtain⟨x,rfl,a,q⟩:=h;obtain⟨u,rfl,t,rfl⟩:=zM r;exact ord_of_one a #[.int _,H,I.tok _,#[_,Z],q]
end
structure LC(h:Ψ)(x dx C:Δ)(mA:GQ):Prop where
 obj:h.get? x=↑(PySem.W.instObj C dx)
 ns:h.Ns1 dx mA
 ne:dx≠x
theorem tQ{h:Ψ}{dx:Δ}{mA:GQ}(n:h.Ns1 dx mA):∃od,h.get? dx=↑od/\∀name,W.lookIn name od=↑(mA name):=by
 obtain⟨o,es,ep,d,i,hk,_,g⟩:=n;refine#[o,d,λname=>?_]
 have e:=g name;unfold nsFind findBy at e;rw[<- Array.find?_toList]at e;unfold W.lookIn;rw[i]
 dsimp only
 split
 ·rename_i y q
  rw[q]at e;exact JH some e
 ·rename_i q
  rw[q]at e;have a:es.toList.any (·.refKey)=false:=by
   rw[List.any_eq_false];intro y f;obtain⟨z,t,c⟩:=hk y (Array.mem_toList_iff.mp f)
   simp [DictEntry.refKey,c]
  have j:¬es.toList.any (·.refKey)=true:=by rw[a];exact JJ
  rw[Jb j];exact JH some e
theorem LC.look{h:Ψ}{x dx C:Δ}{mA:GQ}(I:LC h x dx C mA):∃od,W.InstAt h x (W.instObj C dx) C ↑od/\∀name,W.lookIn name od=↑(mA name):=
 let⟨od,ho,hl⟩:=tQ I.ns
 #[od,#[I.obj,Z,Z,ho],hl]
section
variable{prog:Ξ}{w:Ω}{A:Around}{E:GP}{s:Θ}{K:ι}{x dx C f:Δ}{mA:GQ}{name:Str}{v:Γ}
theorem AZ{a:Bool}{Q:GP}(X:K.In s.heap)(I:LC s.heap x dx C mA)(hg:W.plainGet K C name=true)(d:W.hasDictIn K C=true)
  (ha:W.findIn K (.ref C) name=↑none)(hv:mA name=↑v)(c:W.handedIn v=true)(h:Q v {s with toks:=s.toks+1}):
  ε (model prog w) A (getAttr (.ref x) name a) Q E s:=by
 obtain⟨od,J,e⟩:=I.look;exact W.get_value X J (W.plainGet_of hg).1 (W.findObj_own d ha Z (by rw[e,hv])) c h
theorem wb{pl:Sem Bool}{Q:Γ×Ζ->Θ->Prop}(X:K.In s.heap)(I:LC s.heap x dx C mA)(hg:W.plainGet K C name=true)
  (hf:W.findIn K (.ref C) name=↑(↑(.ref f)))(a:W.isFn K (.ref f)=true)(hv:mA name=none)(h:Q (.ref f,[.ref x]) s):
  ε (model prog w) A (getMethod (.ref x) name pl) Q E s:=by
 obtain⟨od,J,c⟩:=I.look;exact W.method_fn X J (W.plainGet_of hg).1 (W.plainGet_of hg).2 hf (JW.mp a) (by show(W.lookIn name od).map (·.isSome)=↑false;rw[c,hv];rfl) h
theorem Ak{ns:Α}{Q:Unit->Θ->Prop}(X:K.In s.heap)(I:LC s.heap x dx C mA)
  (hs:W.findIn K (.ref C) "__setattr__"=↑(↑(.builtin "object.__setattr__")))(hp:W.plainOver K C=true)(j:W.takerIn K C name=↑none)(l:W.hasDictIn K C=true)
  (hw:PySem.Within mA ns)(hsz:ns.length<=ζ)
  (h:∀h',LC h' x dx C (λy=>if y=name then ↑v else mA y)->Ψ.SameBut dx s.heap h'->Q () {s with heap:=h',toks:=s.toks+2}):
  ε (model prog w) A (setAttr (.ref x) name v) Q E s:=by
 obtain⟨od,J,q⟩:=I.look;refine W.set_plain X J hs (W.osa_open (s:={s with toks:=s.toks+1}) (r:=none) X J hp j λb=>?_)
 obtain⟨cd,n,e⟩:=W.any_some l;have p:s.heap.get? x=some #[.ref C,↑dx,.plain,(List.toArray [])]:=I.obj
 refine Ja (Jd (Ja (Ja (wpAny_loadPart p (Ja (W.Looks.here (s:={s with toks:=s.toks+1}) (W.looks_clsIn X n) ?_))))))
 rw[e];refine Jd (a:=↑dx) (Ja (Jd (Ja ?_)))
 refine wpAny_nsSet1 (s:={s with toks:=s.toks+1}) I.ns λh' d c=>?_
 obtain⟨t,o,m,f,i,g⟩:=d.count (PySem.Within.cons name v hw)
 refine Ja (wpAny_lookBehind f (by rw[i];exact pastItsLine_dict (JG g (by rw[JN];lia))) ?_)
 exact Jd (h _ #[(c.2 _ (Ne.symm I.ne)).trans I.obj,d,I.ne] c)
theorem xk{R:Result->Θ->Prop}{vs:Ζ}{c:List (Str×Γ)}(X:K.In s.heap)(hm:W.makesIn K C=true)
  (hi:W.findIn K (.ref C) "__init__"=↑(↑(.ref f)))(hf:W.typeIn K (.ref f)=↑(.type "function"))
  (h:codeAny (model prog w) (A.under (.builtin "type.__call__" #[.ref C::vs,c])) (.call (.ref f) #[.ref (s.heap.objs.size+1)::vs,c]) (W.InitBack (s.heap.objs.size+1) R)
   {s with heap:=(s.heap.push W.emptyDict).push (W.instObj C s.heap.objs.size)}):
  codeAny (model prog w) A (.call (.ref C) #[vs,c]) R s:=by
 obtain⟨e,g,d,t,i⟩:=s;exact W.make_core (W.makes_of X hm) (W.looks_findIn X hi) (λa=>W.bind_fn X a hf) (.inl Z) h
end
def Qb(f:Str)(v:V):List (Str×V)->List (Str×V)
 | []=>[(f,v)]
 |(g,x)::r=>if g=f then(g,v)::r else(g,x)::Qb f v r
theorem fJ(f g:Str)(v:V):∀fs:List (Str×V),(Qb f v fs).lookup g=if g=f then ↑v else fs.lookup g
 | []=>by
  show List.lookup g [(f,v)]=_
  by_cases h:g=f
  ·have a:(g==f)=true:=JW.mpr h
   simp only[List.lookup,a,Jc h]
  ·have a:(g==f)=false:=E9.mpr h
   simp only[List.lookup,a,Jb h]
 |(k,x)::r=>by
  have c:=fJ f g v r;rw[show Qb f v ((k,x)::r)=(if k=f then(k,v)::r else(k,x)::Qb f v r)from Z]
  by_cases hk:k=f
  ·rw[Jc hk]
   by_cases h:g=k
   ·have a:(g==k)=true:=JW.mpr h
    simp only[List.lookup,a,Jc (h.trans hk)]
   ·have a:(g==k)=false:=E9.mpr h
    simp only[List.lookup,a,Jb (λe:g=f=>h (e.trans hk.symm))]
  ·rw[Jb hk]
   by_cases h:g=k
   ·have a:(g==k)=true:=JW.mpr h
    simp only[List.lookup,a,Jb (λe:g=f=>hk (h.symm.trans e))]
   ·have a:(g==k)=false:=E9.mpr h
    simp only[List.lookup,a];exact c
theorem eO(f:Str)(v:V):∀fs:List (Str×V),f∈(Qb f v fs).map (·.1)/\∀g,g∈fs.map (·.1)->g∈(Qb f v fs).map (·.1)
 | []=>#[by simp [Qb],λg h=>by simp at h]
 |(k,x)::r=>by
  obtain⟨c,a⟩:=eO f v r;rw[show Qb f v ((k,x)::r)=(if k=f then(k,v)::r else(k,x)::Qb f v r)from Z]
  by_cases hk:k=f
  ·rw[Jc hk]
   subst hk
   exact#[by simp,λg h=>by simpa using h]
  ·rw[Jb hk]
   refine#[?_,λg h=>?_]
   ·rw[JS]
    exact JM _ c
   ·rw[JS]at h⊢
    rcases Jm.mp h with e|e
    ·exact Jm.mpr (.inl e)
    ·exact JM _ (a g e)
theorem fM(f:Str)(v:V):∀fs:List (Str×V),(Qb f v fs).length<=fs.length+1
 | []=>by simp [Qb]
 |(k,x)::r=>by
  have a:=fM f v r;rw[show Qb f v ((k,x)::r)=(if k=f then(k,v)::r else(k,x)::Qb f v r)from Z]
  by_cases hk:k=f
  ·rw[Jc hk,JN,JN];lia
  ·rw[Jb hk,JN,JN];lia
theorem IM.some_of{v:V}{o:Ν}(r:IM ↑v o):∃u,o=↑u/\G8 v u:=by
 cases o with
 |none=>exact(show False from r).elim
 |some u=>exact#[u,Z,r]
theorem IM.none_of{o:Ν}(r:IM none o):o=none:=by
 cases o with
 |none=>rfl
 |some u=>exact(show False from r).elim
theorem tT{v:V}{u:Γ}(r:G8 v u):W.handedIn u=true:=by
 cases v with
 |non=>cases(show u=Γ.none from r);rfl
 |bl b=>cases(show u=Γ.bool b from r);rfl
 |int i=>obtain⟨t,e⟩:=(show∃t,u=Γ.int i t from r);cases e;rfl
 |str x=>obtain⟨t,e⟩:=(show∃t,u=Γ.str x t from r);cases e;rfl
 |byt b=>obtain⟨t,e⟩:=(show∃t,u=Γ.bytes b t from r);cases e;rfl
 |flt b=>obtain⟨t,e⟩:=(show∃t,u=Γ.float b t from r);cases e;rfl
 |ref a=>cases(show u=Γ.ref a from r);rfl
 |ty n=>cases(show u=Γ.type n from r);rfl
section
variable{P:Ξ}{w:Ω}{H:Hp}{h:Ψ}{a C dx:Δ}{fs:List (Str×V)}
theorem fc(c:IZ P w H h)(e:H a=↑(.ins C dx fs)):∃mA,LC h a dx C mA/\(∀f,IM (fs.lookup f) (mA f))/\PySem.Within mA (fs.map (·.1))/\fs.length<=1000/\H dx=↑(.own a):=by
 obtain⟨d,z,g,i,mA,n,r,q⟩:=(show Hv P w H h a (.ins C dx fs)from c a _ e)
 exact#[mA,#[i,n,g],r,q,z,d]
end
structure LV(K:ι)(C:Δ):Prop where
 pg:PySem.W.plainGet K C Str.empty=true
 hd:PySem.W.hasDictIn K C=true
 po:PySem.W.plainOver K C=true
 sa:PySem.W.findIn K (.ref C) "__setattr__"=↑(↑(.builtin "object.__setattr__"))
theorem LV.get{K:ι}{C:Δ}(c:LV K C)(f:Str):W.plainGet K C f=true:=c.pg
def HH(K:ι)(C:Δ)(f:Str):Prop:=PySem.W.findIn K (.ref C) f=↑none
theorem HH.taker{K:ι}{C:Δ}{f:Str}(n:HH K C f):W.takerIn K C f=↑none:=by
 unfold W.takerIn;rw[show W.findIn K (.ref C) f=↑none from n]
 rfl
structure M5(K:ι)(C:Δ)(m:Str)(f:Δ):Prop where
 at_:PySem.W.findIn K (.ref C) m=↑(↑(.ref f))
 fn:PySem.W.isFn K (.ref f)=true
 kp:PySem.W.keepIn K (.ref f)=true
section
variable{X:Cx}{Oa:GR}{σ:St}{H:Hp}{s:Θ}{a C dx:Δ}{fs:List (Str×V)}{f:Str}{v:V}{A:Around}{E:GP}
theorem sk{b:Bool}{Q:GP}(I:GX X Oa σ H s)(e:H a=↑(.ins C dx fs))(c:LV X.K C)(n:HH X.K C f)(l:fs.lookup f=↑v)
  (h:∀u s',GX X Oa σ H s'->G8 v u->Q u s'):ε (model X.prog X.w) A (getAttr (.ref a) f b) Q E s:=by
 obtain⟨mA,O,r,_,_,_⟩:=fc I.hok e;obtain⟨u,g,d⟩:=IM.some_of (v:=v) (o:=mA f) (by rw[<- l];exact r f)
 exact AZ I.kIn O (c.get f) c.hd n g (tT d) (h u _ (I.tok _) d)
theorem gO{m:Str}{g:Δ}{pl:Sem Bool}{Q:Γ×Ζ->Θ->Prop}(I:GX X Oa σ H s)(e:H a=↑(.ins C dx fs))(c:LV X.K C)(k:M5 X.K C m g)(l:fs.lookup m=none)
  (h:Q (.ref g,[.ref a]) s):ε (model X.prog X.w) A (getMethod (.ref a) m pl) Q E s:=by
 obtain⟨mA,O,r,_,_,_⟩:=fc I.hok e;have d:mA m=none:=IM.none_of (by rw[<- l];exact r m)
 exact wb I.kIn O (c.get m) k.at_ k.fn d h
theorem rL{y:V}{u:Γ}{Q:Unit->Θ->Prop}(I:GX X Oa σ H s)(e:H a=↑(.ins C dx fs))(c:LV X.K C)(n:HH X.K C f)(hl:fs.length<1000)(v:G8 y u)
  (h:∀s',GX X Oa σ (GW H a (.ins C dx (Qb f y fs))) s'->Q () s'):ε (model X.prog X.w) A (setAttr (.ref a) f u) Q E s:=by
 obtain⟨mA,O,r,j,_,i⟩:=fc I.hok e;have l:(fs.map (·.1)).length<=ζ:=by rw[Je,Ju];lia
 refine Ak I.kIn O c.sa c.po n.taker c.hd j l λh' d w=>h _ ?_
 have t:∃o,h'.get? dx=↑o:=let⟨o,_,_,e',_⟩:=d.ns;#[o,e']
 refine I.write (x:=a) (e:=dx) (by rw[e];exact True.intro) (.inr i) (λb q m z=>(w.2 b m).trans z) t ?_
 refine#[by rw[qm O.ne];exact i,?_,O.ne,d.obj,_,d.ns,λg=>?_,λg p=>?_]
 ·have:=fM f y fs;lia
 ·show IM ((Qb f y fs).lookup g) (if g=f then ↑u else mA g)
  rw[fJ]
  by_cases q:g=f
  ·rw[Jc q,Jc q];exact v
  ·rw[Jb q,Jb q];exact r g
 ·by_cases q:g=f
  ·rw[q];exact(eO f y fs).1
  ·refine(eO f y fs).2 g (j g λz=>p ?_)
   show(if g=f then ↑u else mA g)=none
   rw[Jb q];exact z
theorem GX.made(I:GX X Oa σ H s):GX X Oa σ (GW (GW H s.heap.objs.size (.own (s.heap.objs.size+1))) (s.heap.objs.size+1) (.ins C s.heap.objs.size []))
  {s with heap:=(s.heap.push W.emptyDict).push (W.instObj C s.heap.objs.size)}:=by
 have c:(s.heap.push W.emptyDict).get? s.heap.objs.size=↑W.emptyDict:=Jq s.heap Z
 have f:((s.heap.push W.emptyDict).push (W.instObj C s.heap.objs.size)).get? (s.heap.objs.size+1)=↑(W.instObj C s.heap.objs.size):=by
  have:=Jq (s.heap.push W.emptyDict) (o:=W.instObj C s.heap.objs.size) Z
  rwa [JX]at this
 have h:(s.heap.push W.emptyDict).Ns s.heap.objs.size (λ_=>none):=#[W.emptyDict,(List.toArray []),_,c,Z,(λe g=>absurd g (by simp)),λ_=>rfl]
 have j:=I.laid (a:=s.heap.objs.size) (o:= .own (s.heap.objs.size+1)) (h':=s.heap.push W.emptyDict) (t':=s.toks) (λb u q=>Jl _ q) (Jf _) #[_,c]
 refine j.laid (a:=s.heap.objs.size+1) (o:= .ins C s.heap.objs.size []) (t':=s.toks) (λb u q=>Jl _ q) (Nat.le_of_eq (JX _ _)) ?_
 have d:s.heap.objs.size≠s.heap.objs.size+1:=Jk (E2 _)
 refine#[by rw[qm d,qc],Jy _,d,f,λ_=>none,(Ψ.Ns1.of_empty h).at λo q=>Jl _ q,λ_=>True.intro,λy i=>absurd Z i]
theorem Ba{prog:Ξ}{w:Ω}{a:Env}{e:Φ}{f:Str}{pos:Pos}{s:Θ}{Q:GP}(hb:attributeBase e f a (eval e a)=eval e a)
  (h:ε (model prog w) A (eval e a) (λo c=>ε (model prog w) A (getAttr o f true) Q E c) E s):ε (model prog w) A (eval (.Attribute e f pos) a) Q E s:=
 Attribute_any_ h (by rw[arm_eval_Attribute,hb])
end
section
variable{X:Cx}{Oa:GR}{σ:St}{H:Hp}{s:Θ}{A:Around}{E:GP}{Q:GP}{c:Γ}{b:Bool}
inductive I0 (K:ι) (H:Hp):V->Γ->Prop where
 |non:I0 K H .non (.type "NoneType")
 |bl (x:Bool):I0 K H (.bl x) (.type "bool")
 |int (i:Int):I0 K H (.int i) (.type "int")
 |str (x:Str):I0 K H (.str x) (.type "str")
 |flt (x:UInt64):I0 K H (.flt x) (.type "float")
 |lst {a:Δ} {xs:Ε} (e:H a=↑(.lst xs)):I0 K H (.ref a) (.type "list")
 |frz {a:Δ} {o:Obj} {xs:Ε} (e:H a=↑(.frz o (.lst xs))):I0 K H (.ref a) (.type "list")
 |tup {a:Δ} {xs:Ε} (e:H a=↑(.tup xs)):I0 K H (.ref a) (.type "tuple")
 |dK {a:Δ} {kvs:List (qJ×V)} (e:H a=↑(.dK kvs)):I0 K H (.ref a) (.type "dict")
 |dT {a:Δ} {kvs:List (List qJ×V)} (e:H a=↑(.dT kvs)):I0 K H (.ref a) (.type "dict")
 | ins {a C dx:Δ} {fs:List (Str×V)} (e:H a=↑(.ins C dx fs)) (cl:LV K C) (ha:PySem.W.findIn K (.ref C) "__class__"=↑(↑(.builtin "object.__class__")))
   (hn:PySem.W.specialIn K (.builtin "object.__class__") "__get__"=↑(↑(.builtin "getset_descriptor.__get__"))) (htk:PySem.W.takesIn K (.builtin "object.__class__")=↑true)
   (hm:PySem.W.mroIn K C (.type "object")=↑true):I0 K H (.ref a) (.ref C)
theorem uV{x:V}{u t:Γ}(I:GX X Oa σ H s)(d:G8 x u)(ty:I0 X.K H x t)(e:W.kitOne X.K t c=↑b)(h:∀tk,Q (.bool b) {s with toks:=tk}):
  ε (model X.prog X.w) A (call (.builtin "isinstance") [u,c]) Q E s:=by
 cases ty with
 |non=>cases(show u=Γ.none from d);exact J4 W.kitx_none I.kIn True.intro e (λz=>nomatch z) h
 |bl y=>cases(show u=Γ.bool y from d);exact J4 W.kitx_bool I.kIn True.intro e (λz=>nomatch z) h
 |int i=>obtain⟨t,q⟩:=(show∃t,u=Γ.int i t from d);cases q;exact J4 W.kitx_int I.kIn True.intro e (λz=>nomatch z) h
 |str y=>obtain⟨t,q⟩:=(show∃t,u=Γ.str y t from d);cases q;exact J4 W.kitx_str I.kIn True.intro e (λz=>nomatch z) h
 |flt y=>obtain⟨t,q⟩:=(show∃t,u=Γ.float y t from d);cases q;exact J4 W.kitx_float I.kIn True.intro e (λz=>nomatch z) h
 | @lst a xs ea=>
  cases(show u=Γ.ref a from d)
  obtain⟨_,_,n,_,h1⟩:=(show Hv X.prog X.w H s.heap a (.lst xs)from I.hok a _ ea)
  exact J4 W.kitx_list I.kIn #[_,h1,Z] e (λz=>nomatch z) h
 | @frz a ob xs ea=>
  cases(show u=Γ.ref a from d)
  obtain⟨_,_,_,n,_,h1⟩:=(show Hv X.prog X.w H s.heap a (.frz ob (.lst xs))from I.hok a _ ea)
  exact J4 W.kitx_list I.kIn #[_,h1,Z] e (λz=>nomatch z) h
 | @tup a xs ea=>
  cases(show u=Γ.ref a from d)
  obtain⟨_,_,_,p⟩:=(show Hv X.prog X.w H s.heap a (.tup xs)from I.hok a _ ea)
  obtain⟨o,h1,f,_⟩:=p;exact J4 W.kitx_tuple I.kIn #[o,h1,f] e (λz=>nomatch z) h
 | @dK a kvs ea=>
  cases(show u=Γ.ref a from d)
  obtain⟨_,_,vs,_,p⟩:=(show Hv X.prog X.w H s.heap a (.dK kvs)from I.hok a _ ea)
  obtain⟨o,es,ep,h1,f,_⟩:=p;exact J4 W.kitx_dict I.kIn #[o,h1,f.1] e (λz=>nomatch z) h
 | @dT a kvs ea=>
  cases(show u=Γ.ref a from d)
  obtain⟨_,_,xs,_,o,es,ep,h1,f,_⟩:=(show Hv X.prog X.w H s.heap a (.dT kvs)from I.hok a _ ea)
  exact J4 W.kitx_dict I.kIn #[o,h1,f.1] e (λz=>nomatch z) h
 | @ins a C dx fs ea cl ha hn htk hm=>
  cases(show u=Γ.ref a from d)
  obtain⟨mA,O,_⟩:=fc I.hok ea;obtain⟨od,J,_⟩:=O.look;exact J4 (W.kitx_own (cl.get _) cl.hd ha hn htk hm) I.kIn J e (λz=>nomatch z) h
end
structure HB(k:Nat)(A:Around):Prop where
 hd:A.handled=none
 dp:A.depth+3*k+5<recursionLimit
 un:A.units+16*k+200<cLine
theorem HB.mono{j k:Nat}{A:Around}(r:HB k A)(h:j<=k):HB j A:=#[r.hd,by have:=r.dp;lia,by have:=r.un;lia]
theorem HB.mo{j k:Nat}{A:Around}(r:HB k A)(h:j<=k:=by first|decide|omega):HB j A:=r.mono h
theorem HB.deeper{k:Nat}{A:Around}(r:HB (k+1) A)(a:Env):HB k (A.deeper a):=
 #[r.hd,by have:=r.dp;show A.depth+1+3*k+5<_;lia,by have:=r.un;show A.units+3+16*k+200<_;lia]
theorem rK{A:Around}{C:Δ}{us:Ζ}{a:List (Str×Γ)}:(A.under (.builtin "type.__call__" #[.ref C::us,a])).depth=A.depth+1:=by
 first|rfl|simp [Around.under,Code.weight,Code.isCreation,Code.isGuard,Code.isCaller,Code.frames,Code.isFrame,guardIds]
theorem rN{A:Around}{C:Δ}{us:Ζ}{a:List (Str×Γ)}:(A.under (.builtin "type.__call__" #[.ref C::us,a])).units=A.units+1:=by
 first|rfl|simp [Around.under,Code.cUnits,Code.frames,Code.isFrame]
theorem HB.make{k:Nat}{A:Around}(r:HB (k+1) A)(C:Δ)(us:Ζ)(a:List (Str×Γ)):HB k (A.under (.builtin "type.__call__" #[.ref C::us,a])):=
 #[r.hd,by have:=r.dp;rw[rK];lia,by have:=r.un;rw[rN];lia]
theorem HB.depth{k:Nat}{A:Around}(r:HB k A):A.depth<recursionLimit:=by have:=r.dp;lia
def xj:TA:=λ_ H Q=>Q [] H
def rl(ta:TE)(a:TA):TA:=λσ H Q=>ta σ H λx H1=>a σ H1 λxs c=>Q (x::xs) c
section
variable{X:Cx}{e:Φ}{es:Ι}{te:TE}{t:TA}{pos:Pos}
theorem Cp:PA X [] xj:=λ_ _ _ _ H Q I h=>Calls.spliced_nil #[[],H,I,.nil,h]
theorem Aw(ha:PE X e te)(hr:PA X es t)(hs:θ (e::es) X.env=(false,eval e X.env)::θ es X.env:=by rfl):PA X (e::es) (rl te t):=by
 intro pos Oa s σ H Q I h;rw[hs]
 show ε _ _ (spliced ((false,eval e X.env)::backTo pos (θ es X.env))) _ _ s
 refine Calls.spliced_cons (qz (ha Oa s σ H _ I h) λu j i=>?_)
 obtain⟨x,H1,l,m,g⟩:=i;exact qz (hr pos Oa j σ H1 _ l g) λo n ⟨xs,f,c,a,d⟩=>#[x::xs,f,c,.cons m a,d]
def C9(t:TA):TE:=λσ H Q=>t σ H λxs H1=>xs.length<=ζ/\∀p,H1 p=none->Q (.ref p) (GW H1 p (.tup xs))
def Dp(t:TA):TE:=λσ H Q=>t σ H λxs H1=>xs.length<=ζ/\∀p,H1 p=none->Q (.ref p) (GW H1 p (.lst xs))
theorem CJ{x1}(h:PA X es t):PE X (.Tuple es x1 pos) (C9 t):=by
 intro Oa s σ H Q I d;refine wpAny_Tuple_spliced (qz (h pos Oa s σ H _ I d) λg a ⟨xs,H1,c,r,z,q⟩=>#[by rw[<- r.length];exact z,?_])
 have f:H1 a.heap.objs.size=none:=c.hok.fresh (Jf _)
 refine#[.ref a.heap.objs.size,GW H1 a.heap.objs.size (.tup xs),c.laid (t':=a.toks) (λb u e=>Jl _ e) (Jf _) ?_,Z,q _ f]
 exact#[z,g,r,#[_,Jq _ Z,Z,_,Z]]
theorem CB(h:PA X es t):PE X (.List es pos) (Dp t):=by
 intro Oa s σ H Q I d;refine wpAny_List_spliced (qz (h pos Oa s σ H _ I d) λg a ⟨xs,H1,c,r,z,q⟩=>#[by rw[<- r.length];exact z,?_])
 have f:H1 a.heap.objs.size=none:=c.hok.fresh (Jf _)
 refine#[.ref a.heap.objs.size,GW H1 a.heap.objs.size (.lst xs),c.laid (t':=a.toks) (λb u e=>Jl _ e) (Jf _) ?_,Z,q _ f]
 exact#[z,g,0,r,Jq _ Z]
end
abbrev Sp:=Ε->Hp->VK->XK->Prop
abbrev cV:=Τ->Hp->Θ->XK->Γ->Θ->Prop
structure LD(P:Ξ)(w:Ω)(K:ι)(mg:GQ)(base:Ψ)(A:Around)(outer:Τ)(s:Θ)(H:Hp):Prop where
 frames:A.frames=↑outer
 mod:N0 K mg base
 bs:∀b o,base.get? b=↑o->s.heap.get? b=↑o/\H b=none
 bsz:base.objs.size<=s.heap.objs.size
 funs:s.heap.FunFrames base outer
 frf:∀b∈ar outer,H b=none
 hok:IZ P w H s.heap
 bare:AllBare s.gens
def CE(a:Τ)(P:Ξ)(w:Ω)(H:Hp)(s:Θ)(Q:VK)(u:Γ)(s':Θ):Prop:=
 ∃v H',s'.os=s.os/\AllBare s'.gens/\Un (ar a) [] H H' s.heap s'.heap/\IZ P w H' s'.heap/\G8 v u/\Q v H'
def CR(CX:cV)(a:Τ)(P:Ξ)(w:Ω)(H:Hp)(s:Θ)(Q:VK)(E:XK)(r:Result)(s':Θ):Prop:=
 match r with
 | .ok (.ret u)=>CE a P w H s Q u s'
 | .ok _=>False
 | .error e=>CX a H s E e s'
structure IP(P:Ξ)(w:Ω)(K:ι)(mg:GQ)(base:Ψ)(CX:cV)(k:Nat)(f:Δ)(fd:FuncData)(ps:Α)(sp:Sp):Prop where
 len:∀vs H Q E,sp vs H Q E->vs.length=ps.length
 run:∀(A:Around) (outer:Τ) (s:Θ) (H:Hp) (args:Args) (us:Ζ) (vs:Ε) (Q:VK) (E:XK),HB k A->LD P w K mg base A outer s H->BindsTo s fd args (ps.zip us)->GZ vs us->sp vs H Q E->
  codeAny (model P w) A (.call (.ref f) args) (CR CX outer P w H s Q E) s
theorem IP.imp{P:Ξ}{w:Ω}{K:ι}{mg:GQ}{base:Ψ}{CX:cV}{k:Nat}{f:Δ}{fd:FuncData}{ps:Α}{sp c:Sp}(F:IP P w K mg base CX k f fd ps sp)
  (h:∀vs H Q E,c vs H Q E->sp vs H Q E):IP P w K mg base CX k f fd ps c:=
 #[λvs H Q E q=>F.len vs H Q E (h _ _ _ _ q),λA a s H d m vs Q E j e g l i=>F.run A a s H d m vs Q E j e g l (h _ _ _ _ i)]
theorem LD.make{P:Ξ}{w:Ω}{K:ι}{mg:GQ}{base:Ψ}{A:Around}{a:Τ}{s:Θ}{H:Hp}(e:LD P w K mg base A a s H)(C:Δ)(us:Ζ)(c:List (Str×Γ)):
  LD P w K mg base (A.under (.builtin "type.__call__" #[.ref C::us,c])) a s H:=#[by first|exact e.frames|(simpa [Around.under,Code.envs,Code.isFrame,pushEnvs]using e.frames),e.mod,e.bs,e.bsz,e.funs,e.frf,e.hok,e.bare]
section
variable{X:Cx}{Oa:GR}{σ:St}{H:Hp}{s s':Θ}
theorem GX.env0(I:GX X Oa σ H s):LD X.prog X.w X.K X.mg X.base X.A X.stack s H:=
 #[I.ok.frames,I.ok.mod,I.bs,JG I.ok.bsz I.sz,I.stack,I.stkFree,I.hok,I.bare]
theorem GX.after{Q:VK}{u:Γ}(I:GX X Oa σ H s)(h:CE X.stack X.prog X.w H s Q u s'):EP X Oa σ Q u s':=by
 obtain⟨v,H',i,a,un,c,r,q⟩:=h;obtain⟨f,g,d,t,e⟩:=s'
 obtain rfl:e=s.os:=i
 exact#[v,H',I.call (h':=f) (g':=g) (d':=d) (t':=t) (ch:=[]) un c a (λb z=>absurd z (by simp)),r,q]
end
def sM(sp:Sp)(dvs:Ε)(E:XK)(t:TA):TE:=λσ H Q=>t σ H λvs H1=>sp (vs++dvs) H1 Q E
def yW(C:Δ)(sp:Sp)(dvs:Ε)(E:XK)(t:TA):TE:=λσ H Q=>t σ H λvs H1=>∀x dx,H1 x=none->H1 dx=none->dx≠x->
 sp (.ref x::(vs++dvs)) (GW (GW H1 dx (.own x)) x (.ins C dx [])) (λv a=>v= .non/\Q (.ref x) a) E
def Iw(K:ι)(fd:FuncData)(ps:Α)(ds:Ζ):Prop:=
 ∀(s:Θ) (a:Ζ),K.In s.heap->(a++ds).length=ps.length->BindsTo s fd #[a,[]] (ps.zip (a++ds))
theorem Iw.all{K:ι}{fd:FuncData}{ps:Α}(h:∀a:Ζ,a.length=ps.length->bindArgs fd #[a,[]]=pure (ps.zip a)):Iw K fd ps []:=λs a _ c=>by
 rw[E3]at c⊢;exact .of_eq (h a c)
def eB(CX:cV)(X:Cx)(E:XK):Prop:=∀(Oa:GR) (σ:St) (H:Hp) (s:Θ) (e:Γ) (s':Θ),GX X Oa σ H s->CX X.stack H s E e s'->X.xe e s'
section
variable{X:Cx}{CX:cV}{k:Nat}{f C:Δ}{fd:FuncData}{ps:Α}{sp:Sp}{dvs:Ε}{ds:Ζ}{E:XK}{x:Str}{p pos:Pos}{e:Φ}{es:Ι}{t:TA}
theorem mC{Oa:GR}{σ:St}{H:Hp}{s:Θ}{Q:VK}{us:Ζ}{vs:Ε}(F:IP X.prog X.w X.K X.mg X.base CX k f fd ps sp)(hr:HB k X.A)(hb:Iw X.K fd ps ds)(hd:GZ dvs ds)(hx:eB CX X E)
  (I:GX X Oa σ H s)(r:GZ vs us)(h:sp (vs++dvs) H Q E):ε (model X.prog X.w) X.A (call (.ref f) us) (EP X Oa σ Q) X.xe s:=by
 have c:GZ (vs++dvs) (us++ds):=r.append hd
 have d:(us++ds).length=ps.length:=by rw[<- c.length];exact F.len _ _ _ _ h
 refine wpAny_call (FE (F.run X.A X.stack s H #[us,[]] (us++ds) (vs++dvs) Q E hr I.env0 (hb s us I.kIn d) c h) λr s' a=>?_)
 cases r with
 |error e=>exact hx Oa σ H s e s' I a
 |ok fl=>
  cases fl with
  |ret u=>exact I.after a
  |next=>exact False.elim a
  |brk=>exact False.elim a
  |cont=>exact False.elim a
theorem BB(F:IP X.prog X.w X.K X.mg X.base CX k f fd ps sp)(hr:HB k X.A)(hg:Gl X x)(hm:X.mg x=↑(.ref f))(hk:W.keepIn X.K (.ref f)=true)(hb:Iw X.K fd ps ds)(hd:GZ dvs ds)(hx:eB CX X E)
  (ha:PA X (e::es) t)(hdb:(x==("__debug__":Str))=false:=by decide)(he:θ (e::es) X.env=(false,eval e X.env)::θ es X.env:=by rfl)(hpl:(backTo pos (θ es X.env)).any (·.1)=false:=by rfl):
  PE X (.Call (.Name x p) (e::es) [] pos) (sM sp dvs E t):=by
 intro Oa s σ H Q I h;refine Gf (hX I hg hm ?_ hdb)
 refine W.callWith_K (h₀:=X.base) I.ok.mod.kin hk (qz (ha pos Oa s σ H _ I h) λd c ⟨vs,H1,a,r,q⟩=>#[a.kIn,?_]) he hpl
 exact mC F hr hb hd hx a r q
structure Mk(K:ι)(C f:Δ):Prop where
 makes:PySem.W.makesIn K C=true
 init:PySem.W.findIn K (.ref C) "__init__"=↑(↑(.ref f))
 fn:PySem.W.isFn K (.ref f)=true
 kp:PySem.W.keepIn K (.ref C)=true
theorem wj{Oa:GR}{σ:St}{H:Hp}{s:Θ}{Q:VK}{us:Ζ}{vs:Ε}(M:Mk X.K C f)(F:IP X.prog X.w X.K X.mg X.base CX k f fd ps sp)(hr:HB (k+1) X.A)(hb:Iw X.K fd ps ds)(hd:GZ dvs ds)
  (hx:eB CX X E)(I:GX X Oa σ H s)(r:GZ vs us)
  (h:∀x dx,H x=none->H dx=none->dx≠x->sp (.ref x::(vs++dvs)) (GW (GW H dx (.own x)) x (.ins C dx [])) (λv j=>v= .non/\Q (.ref x) j) E):
  ε (model X.prog X.w) X.A (call (.ref C) us) (EP X Oa σ Q) X.xe s:=by
 have g:=h (s.heap.objs.size+1) s.heap.objs.size (I.hok.fresh (Fk _)) (I.hok.fresh (Jf _)) (Jk (E2 _));have c:=GX.made (C:=C) I
 have d:GZ (V.ref (s.heap.objs.size+1)::(vs++dvs)) (Γ.ref (s.heap.objs.size+1)::(us++ds)):= .cons Z (r.append hd)
 have o:(Γ.ref (s.heap.objs.size+1)::us++ds).length=ps.length:=by
  have e:=d.length;rw[F.len _ _ _ _ g]at e;exact e.symm
 refine wpAny_call (xk (f:=f) I.kIn M.makes M.init (JW.mp M.fn) (FE (F.run _ X.stack _ _ #[Γ.ref (s.heap.objs.size+1)::us,[]] (Γ.ref (s.heap.objs.size+1)::(us++ds)) _ _ E (hr.make C us [])
  (c.env0.make C us []) (hb _ (Γ.ref (s.heap.objs.size+1)::us) c.kIn o) d g) λr s' a=>?_))
 cases r with
 |error e=>exact hx Oa σ _ _ e s' c a
 |ok fl=>
  cases fl with
  |ret u=>
   obtain⟨v,H',l,m,n,i⟩:=c.after a;subst n
   exact#[m,#[V.ref (s.heap.objs.size+1),H',l,Z,i]]
  |next=>exact False.elim a
  |brk=>exact False.elim a
  |cont=>exact False.elim a
theorem Am(M:Mk X.K C f)(F:IP X.prog X.w X.K X.mg X.base CX k f fd ps sp)(hr:HB (k+1) X.A)(hg:Gl X x)(hm:X.mg x=↑(.ref C))(hb:Iw X.K fd ps ds)(hd:GZ dvs ds)(hx:eB CX X E)
  (ha:PA X (e::es) t)(hdb:(x==("__debug__":Str))=false:=by decide)(he:θ (e::es) X.env=(false,eval e X.env)::θ es X.env:=by rfl)(hpl:(backTo pos (θ es X.env)).any (·.1)=false:=by rfl):
  PE X (.Call (.Name x p) (e::es) [] pos) (yW C sp dvs E t):=by
 intro Oa s σ H Q I h;refine Gf (hX I hg hm ?_ hdb)
 refine W.callWith_K (h₀:=X.base) I.ok.mod.kin M.kp (qz (ha pos Oa s σ H _ I h) λd c ⟨vs,H1,a,r,q⟩=>#[a.kIn,?_]) he hpl
 exact wj M F hr hb hd hx a r q
end
structure GU(N P:Α)(sc:Scope):Prop where
 kind:sc.kind= .function
 co:sc.isCoroutine=false
 gen:sc.isGenerator=false
 nd:N.Nodup
 pre:N.take P.length=P
 par:∀x∈P,sc.names.lookup x=some .local\/sc.names.lookup x=some .cell
 nofree:∀y∈sc.names,y.2≠ .free
theorem jj{a:Str->Option NameKind}{x:Str}:∀{binds:List (Str×Γ)} {m:GQ},(∀v,(x,v)∉binds)->bindL a binds m x=m x
 | [],_,_=>rfl
 |(n,v)::r,m,h=>by
  unfold bindL;rw[jj λw c=>h w (JM _ c)]
  split
  ·have:x≠n:=by rintro rfl;exact h v JB
   simp [this]
  ·rfl
theorem iQ{a:Str->Option NameKind}{x:Str}:∀{binds:List (Str×Γ)} {m:GQ},(∀v,(x,v)∉binds)->bindC a binds m x=m x
 | [],_,_=>rfl
 |(n,v)::r,m,h=>by
  unfold bindC;rw[iQ λw c=>h w (JM _ c)]
  split
  ·rfl
  ·have:x≠n:=by rintro rfl;exact h v JB
   simp [this]
theorem iR{a:Str->Option NameKind}{x:Str}{v:Γ}:∀{P:Α} {vs:Ζ} {i:Nat} {m:GQ},P.Nodup->P[i]? =↑x->vs[i]? =↑v->a x=some .local->
  bindL a (P.zip vs) m x=↑v
 | [],_,_,_,_,h,_,_=>by simp at h
 |_::_,[],_,_,_,_,h,_=>by simp at h
 |p::P,w::vs,0,m,nd,h1,h2,hk=>by
  simp at h1 h2;subst h1;subst h2
  show bindL a ((p,w)::P.zip vs) m p=_
  unfold bindL;rw[jj λv c=>(Fg.mp nd).1 (List.of_mem_zip c).1,Jc hk]
  simp
 |p::P,w::vs,i+1,m,nd,h1,h2,hk=>by
  show bindL a ((p,w)::P.zip vs) m x=_
  unfold bindL;exact iR (i:=i) (Fg.mp nd).2 (by simpa using h1) (by simpa using h2) hk
theorem i9{a:Str->Option NameKind}{x:Str}{v:Γ}:∀{P:Α} {vs:Ζ} {i:Nat} {m:GQ},P.Nodup->P[i]? =↑x->vs[i]? =↑v->a x≠some .local->
  bindC a (P.zip vs) m x=↑v
 | [],_,_,_,_,h,_,_=>by simp at h
 |_::_,[],_,_,_,_,h,_=>by simp at h
 |p::P,w::vs,0,m,nd,h1,h2,hk=>by
  simp at h1 h2;subst h1;subst h2
  show bindC a ((p,w)::P.zip vs) m p=_
  unfold bindC;rw[iQ λv c=>(Fg.mp nd).1 (List.of_mem_zip c).1,Jb hk]
  simp
 |p::P,w::vs,i+1,m,nd,h1,h2,hk=>by
  show bindC a ((p,w)::P.zip vs) m x=_
  unfold bindC;exact i9 (i:=i) (Fg.mp nd).2 (by simpa using h1) (by simpa using h2) hk
def Q4(N:Α)(vs:Ε):St:=vs.map some++List.replicate (N.length-vs.length) none
def bt(CX:cV)(P:Ξ)(w:Ω)(K:ι)(mg:GQ)(base:Ψ)(N:Α)(Ob:Str)(a:Scope)(f:Δ)(cd:Γ)(A:Around)(outer:Τ)(s:Θ)(H:Hp)(E:XK):Cx where
 prog:=P
 w:=w
 K:=K
 mg:=mg
 base:=base
 A:=A.deeper (envOfC Ob a s.heap.objs.size f cd)
 N:=N
 s₀:=s
 H₀:=H
 env:=envOfC Ob a s.heap.objs.size f cd
 outer:=outer
 stack:=envOfC Ob a s.heap.objs.size f cd::outer
 ex:=[]
 calm:=true
 fn:=λ_=>true
 pn:=[]
 xe:=λe s'=>ε (model P w) (A.deeper (envOfC Ob a s.heap.objs.size f cd)) (leaving (envOfC Ob a s.heap.objs.size f cd) e) (λ_ c=>CX outer H s E e c) (λd c=>CX outer H s E d c) s'
theorem kO{a:Scope}{n:Nat}{x:Str}(h:a.names.lookup x=some .cell):∃c,(cellsFrom n a.names []).lookup x=↑c:=by
 have q:=W.cellsFrom_some a.names n [] (.inl h);exact Gg.mp q
theorem tX{CX:cV}{P:Ξ}{w:Ω}{K:ι}{mg:GQ}{base:Ψ}{N ps:Α}{Ob:Str}{d:Scope}{f:Δ}{cd:Γ}{A:Around}{g:Τ}{s D:Θ}{H:Hp}{E:XK}{us:Ζ}{vs:Ε}
  (S:GU N ps d)(hd:A.handled=none)(l:LD P w K mg base A g s H)(hl:vs.length=ps.length)(r:GZ vs us)
  (x:InCallC s s.heap.objs.size (bindL (envOfC Ob d s.heap.objs.size f cd).kindOf (ps.zip us) λ_=>none) (cellsFrom (s.heap.objs.size+1) d.names []) (bindC (envOfC Ob d s.heap.objs.size f cd).kindOf (ps.zip us) λ_=>none) D):
  GX (bt CX P w K mg base N Ob d f cd A g s H E) [] (Q4 N vs) H D:=by
 have F:ps.length<=N.length:=by have:=JH List.length S.pre;rw[EX]at this;lia
 obtain⟨h1,tk,rfl,hk⟩:=x.done;have o:∀b:Δ,b∉(bt CX P w K mg base N Ob d f cd A g s H E).ex:=λb z=>absurd (show b∈([]:Η)from z) (by simp)
 refine#[#[l.mod,S.kind,Z,Z,Jf _,λy z c h1 j=>?_,λy m=>?_,λy c _ h=>?_,λ_=>hd,Around.frames_deeper l.frames,.inr #[Z,Z],λb z=>absurd z (o b),l.bs,l.bsz,λb _ _=>o b,λb z=>absurd z (o b),l.funs,l.frf],
  rfl,l.bare,Un.kept hk,#[_,x.toInCall.ns,λi y v h1 j J=>?_],λy c h=>#[_,x.cell y c h],l.hok.fresh (Jf _),λy c h=>?_,λp B=>absurd (show p∈([]:GR)from B) (by simp),l.hok.kept hk,?_]
 ·exact name_of_addr x.apart (FA h1) (FA j)
 ·have m:d.names.lookup y=some .cell\/d.names.lookup y=some .free:=m
  rcases m with m|m
  ·exact kO m
  ·exact absurd Z (S.nofree _ (FA m))
 ·exact F5 (x.above y c (FA h))
 ·have hi:i<vs.length:=by
   unfold Q4 at j
   by_cases hi:i<vs.length
   ·exact hi
   ·rw[JY (by simpa using hi)]at j
    rw[List.getElem?_replicate]at j;split at j<;>cases j
  have G:vs[i]? =↑v:=by
   unfold Q4 at j;rw[JT (by simpa using hi),Jn]at j
   cases e:vs[i]? with
   |none=>rw[e]at j;cases j
   |some a=>rw[e]at j;cases j;rfl
  obtain⟨u,C,I⟩:=r.get G;have B:ps[i]? =↑y:=by
   rw[<- S.pre,List.getElem?_take_of_lt (by lia)];exact h1
  have t:ps.Nodup:=by rw[<- S.pre];exact S.nd.sublist (List.take_sublist _ _)
  refine#[u,I,?_]
  rcases S.par y (JP B)with k|k
  ·exact .inl #[k,iR t B C k]
  ·obtain⟨c,e⟩:=kO (n:=s.heap.objs.size+1) k
   refine .inr #[.inl k,c,e,?_]
   have q:=x.cell y c e;rw[i9 t B C (by show d.names.lookup y≠_;rw[k];decide)]at q
   exact q
 ·exact l.hok.fresh (F5 (x.above y c (FA h)))
 ·unfold Q4
  show _=N.length
  rw[Jv,Je,Gw];lia
theorem DR{CX:cV}{P:Ξ}{w:Ω}{K:ι}{mg:GQ}{base:Ψ}{k:Nat}{f:Δ}{name Ob:Str}{d:Arguments}{g:List δ}{a:Scope}{O kV doc pm cdv ct oc:Γ}{an od:μ}
  {osl:Array Ν}{N ps:Α}{sp:Sp}(T:K.lookup f=some #[oc,od,.func (W.fnOf name Ob d g a O kV doc pm an cdv ct),osl])(D:W.codeIn K cdv Ob=true)(S:GU N ps a)
  (len:∀vs H Q E,sp vs H Q E->vs.length=ps.length)
  (i:∀(A:Around) (c:Τ) (s:Θ) (H:Hp) (vs:Ε) (Q:VK) (E:XK),HB k (A.deeper (envOfC Ob a s.heap.objs.size f cdv))->sp vs H Q E->
   ∃t,LB (bt CX P w K mg base N Ob a f cdv A c s H E) g t/\t {nx:=λ_ H'=>Q .non H',rt:=Q} (Q4 N vs) H):
  IP P w K mg base CX (k+1) f (W.fnOf name Ob d g a O kV doc pm an cdv ct) ps sp:=by
 refine#[len,λA c s H L U vs Q E C z hb r p=>?_]
 have hl:=len _ _ _ _ p;have M:K.In s.heap:=z.mod.kin.keeps λb o e=>(z.bs b o e).1
 have B:s.heap.NoLimit:=z.mod.nolimit.keeps λb o e=>(z.bs b o e).1
 have j:∀y∈ps.zip U,a.names.lookup y.1=some .local\/(a.names.lookup y.1=some .cell/\((cellsFrom (s.heap.objs.size+1) a.names []).lookup y.1).isSome=true):=λ⟨n,v⟩ hy=>by
  rcases S.par n (List.of_mem_zip hy).1 with q|q
  ·exact .inl q
  ·exact .inr #[q,W.cellsFrom_some _ _ _ (.inl q)]
 refine codeAny_call_function C.depth (M _ _ T) Z S.co S.gen Z (W.codeRec_of M D) (hb _ _ _ _ ?_)
 refine wpAny_newFunctionEnv_cells S.kind j λX Y G x=>?_
 subst Y;refine#[B.keeps x.toInCall.keep,codeAny_func ?_]
 obtain⟨t,ht,hq⟩:=i A c s H vs Q E (C.deeper _) p
 have I:GX (bt CX P w K mg base N Ob a f cdv A c s H E) [] (Q4 N vs) H G:=tX S C.hd z hl r x
 refine Jw (ht [] G (Q4 N vs) H _ I hq) (λR s' l=>?_) λe s' l=>l
 have m:∀{h:St} {H':Hp} {v:V} {u:Γ},GX (bt CX P w K mg base N Ob a f cdv A c s H E) [] h H' s'->G8 v u->Q v H'->CE c P w H s Q u s':=
  λ{h H' v u} J F q=>#[v,H',J.os,J.bare,J.base,J.hok,F,q]
 cases R with
 |ret u=>
  obtain⟨v,h,H',J,F,q⟩:=l;exact m J F q
 |next=>
  obtain⟨h,H',J,q⟩:=l;exact m (v:=V.non) (u:=Γ.none) J Z q
 |brk=>
  obtain⟨_,_,_,q⟩:=l;exact False.elim q
 |cont=>
  obtain⟨_,_,_,q⟩:=l;exact False.elim q
section
variable{X:Cx}{x:Str}{p pos:Pos}{e:Φ}{es:Ι}{t:TA}{id T:String}{r:Ε->Hp->VK->Prop}
def yu(r:Ε->Hp->VK->Prop)(t:TA):TE:=λσ H Q=>t σ H λvs H1=>r vs H1 Q
theorem wM(hc:zi X (.builtin id) r)(hg:Gl X x)(hm:X.mg x=none)(hv:bootBuiltins x=↑(.builtin id))(ha:PA X (e::es) t)(hn:x≠"__name__":=by decide)(hdb:(x==("__debug__":Str))=false:=by decide)
  (he:θ (e::es) X.env=(false,eval e X.env)::θ es X.env:=by rfl)(hpl:(backTo pos (θ es X.env)).any (·.1)=false:=by rfl):PE X (.Call (.Name x p) (e::es) [] pos) (yu r t):=by
 intro Oa s σ H Q I h;refine Gf (ZR I hg hm hv ?_ hn hdb)
 exact PyProof.Rows.callWith_builtin1 (qz (ha pos Oa s σ H _ I h) λg c ⟨vs,H1,d,f,a⟩=>hc Oa c σ H1 vs g Q d f a) he hpl
theorem va(hc:zi X (.type T) r)(hg:Gl X x)(hm:X.mg x=none)(hv:bootBuiltins x=↑(.type T))(ha:PA X (e::es) t)(hn:x≠"__name__":=by decide)(hdb:(x==("__debug__":Str))=false:=by decide)
  (he:θ (e::es) X.env=(false,eval e X.env)::θ es X.env:=by rfl)(hpl:(backTo pos (θ es X.env)).any (·.1)=false:=by rfl):PE X (.Call (.Name x p) (e::es) [] pos) (yu r t):=by
 intro Oa s σ H Q I h;refine Gf (ZR I hg hm hv ?_ hn hdb)
 exact FQ (qz (ha pos Oa s σ H _ I h) λg c ⟨vs,H1,d,f,a⟩=>hc Oa c σ H1 vs g Q d f a) he hpl
end
end L2
namespace HT
open PySem PyProof.Rows
section
variable{prog:Ξ}{w:Ω}{A:Around}{E:GP}{s:Θ}
theorem cat_tup{t b:Δ}{vs a:Ζ}{Q:GP}(v:IsTup s.heap t vs.toArray)(hb:IsTup s.heap b a.toArray)(hv:vs≠[])
  (h1:a=[]->Q (.ref t) s)(h2:a≠[]->Q (.ref s.heap.objs.size) {s with heap:=s.heap.push {cls:= .type "tuple",data:= .seq (vs++a).toArray}})
  (hsz:vs.length+a.length<=ζ):ε (model prog w) A (binaryOp .Add (.ref t) (.ref b)) Q E s:=by
 obtain⟨⟨cls,u,data,m⟩,i,p,n,q⟩:=id v;obtain⟨⟨r,g,l,f⟩,c,d,o,h⟩:=id hb;simp only at p q d h
 subst p q d h;have e:vs.toArray++a.toArray=(vs++a).toArray:=by simp
 by_cases j:a=[]
 ·exact concat_meets #[_,i,Z] #[_,c,Z] noFill_tuple_add seq_tuple_add Gx Gy (Gz _ _)
   (tuple_addW1 t b vs.toArray a.toArray n o u g m f (by simpa using hv) (by simp [j])) #[i,c,h1 j]
 ·refine concat_meets #[_,i,Z] #[_,c,Z] noFill_tuple_add seq_tuple_add Gx Gy (Gz _ _)
   (tuple_addW2 t b vs.toArray a.toArray n o u g m f (by simpa using hv) (by simpa using j) (by rw[Jr,Jr];exact hsz)) #[i,c,?_]
  rw[e];exact h2 j
def sIx(n d:Nat):Λ->Nat
 |none=>d
 |some v=>if v<0 then(v+(n:Int)).toNat else min v.toNat n
theorem B2(n d:Nat)(hd:d<=n)(o:Λ):sIx n d o<=n:=by
 cases o with
 |none=>exact hd
 |some v=>
  show(if v<0 then(v+(n:Int)).toNat else min v.toNat n)<=n
  by_cases a:v<0
  ·rw[Jc a];lia
  ·rw[Jb a];exact Nat.min_le_right _ _
theorem nX(v:Int)(n d:Nat):(if v<0 then max (v+(n:Int)) 0 else min v (n:Int))=((sIx n d ↑v:Nat):Int):=by
 show(if v<0 then max (v+(n:Int)) 0 else min v (n:Int))=(((if v<0 then(v+(n:Int)).toNat else min v.toNat n):Nat):Int)
 by_cases a:v<0
 ·simp only[Jc a];lia
 ·simp only[Jb a];lia
theorem rD(lo hi:Λ)(n:Nat):γ.Slice.sliceAdjust lo hi 1 (n:Int)=(((sIx n 0 lo:Nat):Int),((sIx n n hi:Nat):Int)):=by
 have h1:¬((1:Int)<0):=by lia
 unfold γ.Slice.sliceAdjust;simp only[h1,JD];refine Prod.ext ?_ ?_
 ·cases lo with
  |none=>rfl
  |some v=>exact nX v n 0
 ·cases hi with
  |none=>rfl
  |some v=>exact nX v n n
theorem pS(i j:Nat):γ.Slice.slicePlaces (i:Int) (j:Int) 1=j-i:=by
 unfold γ.Slice.slicePlaces;have h1:(1:Int)>0:=by lia
 simp only[h1,Fc,Int.ediv_one];split<;>lia
theorem gF{v:Γ}{o:Λ}{Q:Λ->Θ->Prop}(p:IsPart v o)(h:Q o s):ε (model prog w) A (γ.Slice.slicePartIndex v) Q E s:=by
 cases p with
 |none=>exact slicePart_none h
 |int i t=>exact slicePart_int h
theorem sliceApplied_gen{f:Δ}{e d:Γ}{lo hi:Λ}{n:Nat}{Q:Int×Int×Nat->Θ->Prop}(hs:s.heap.IsSliceOf f e d .none)(pl:IsPart e lo)(g:IsPart d hi)
  (h:Q (((sIx n 0 lo:Nat):Int),1,sIx n n hi-sIx n 0 lo) s):ε (model prog w) A (γ.Slice.sliceApplied (.ref f) (pure (n:Int))) Q E s:=by
 obtain⟨j,a,i,c⟩:=id hs;unfold γ.Slice.sliceApplied γ.Slice.sliceFields;refine Ja (Ja (E4 a c (x:=e) Z (Ja (E4 a c (x:=d) Z (Ja (E4 a c (x:= .none) Z (Jd ?_)))))))
 refine Ja (slicePart_none ?_)
 show ε _ _ (if((1:Int)==0)=true then _ else _) _ _ s
 rw[Jb ⋯]
 refine Ja (gF pl (Ja (gF g (Ja (Jd ?_)))))
 show ε _ _ (match γ.Slice.sliceAdjust lo hi 1 (n:Int)with|(lo,hi)=>pure (lo,(1:Int),γ.Slice.slicePlaces lo hi 1)) _ _ s
 rw[rD lo hi n]
 show ε _ _ (pure (((sIx n 0 lo:Nat):Int),(1:Int),γ.Slice.slicePlaces ((sIx n 0 lo:Nat):Int) ((sIx n n hi:Nat):Int) 1)) _ _ s
 rw[pS];exact Jd h
theorem wR(xs:Array Γ)(i k:Nat):((List.range k).filterMap λ(m:Nat)=>xs[((i:Int)+(m:Int)*1).toNat]?).toArray=((xs.toList.drop i).take k).toArray:=by
 have e:(λ(m:Nat)=>xs[((i:Int)+(m:Int)*1).toNat]?)=λm=>xs[i+m]? :=by
  funext m
  have:((i:Int)+(m:Int)*1).toNat=i+m:=by lia
  rw[this]
 rw[e]
 have:=pick_run xs i k
 rw[List.filterMap_map]at this;have a:((λx=>xs[x]?)∘λx=>i+x)=λm=>xs[i+m]? :=Z
 rw[a]at this;rw[this]
theorem getItem_tuple_cut{t e:Δ}{items:Array Γ}{l j:Γ}{lo hi:Λ}{Q:GP}(c:IsTup s.heap t items)(hs:s.heap.IsSliceOf e l j .none)(pl:IsPart l lo)(o:IsPart j hi)
  (hw:¬(sIx items.size 0 lo=0/\sIx items.size items.size hi=items.size))
  (h:Q (.ref s.heap.objs.size) {s with heap:=s.heap.push {cls:= .type "tuple",data:= .seq ((items.toList.drop (sIx items.size 0 lo)).take (sIx items.size items.size hi-sIx items.size 0 lo)).toArray}})
  (hsz:items.size<=ζ):ε (model prog w) A (getItem (.ref t) (.ref e)) Q E s:=by
 have a:sizeOk (.seq ((items.toList.drop (sIx items.size 0 lo)).take (sIx items.size items.size hi-sIx items.size 0 lo)).toArray):=by
  show((items.toList.drop (sIx items.size 0 lo)).take (sIx items.size items.size hi-sIx items.size 0 lo)).toArray.size<=ζ
  rw[Jr,EX,FF,Jp];lia
 have v:sIx items.size items.size hi<=items.size:=B2 _ _ (Jf _) hi
 obtain⟨n,g,i,p⟩:=id hs;have f:s.TypeIs (.ref e) "slice":=#[n,g,i]
 unfold getItem
 try with_reducible refine JI ?_
 first|refine Ja (Jd ?_)|skip
 refine Ja (wpAny_sequenceKey c.typeIs ⋯ ?_)
 refine Ja (wpAny_callSpecial?_slot (name:=Str.ofString "__getitem__") c.typeIs Gh
  (J5 Gh c.typeIs entry_tuple_getitem ?_ (args_tuple_getitem _ _)))
 show ε _ _ (γ.Tuple.tupleItemsOf (.ref t) >>= _) _ _ s
 refine Ja (tupleItemsOf_ c ?_)
 refine Ja (FR f ?_)
 rw[Jc ⋯]
 refine Ja (sliceApplied_gen hs pl o ?_)
 have d:¬((((sIx items.size 0 lo:Nat):Int)==0&&(1:Int)==1&&(sIx items.size items.size hi-sIx items.size 0 lo)==items.size)=true):=by
  intro q;rw[JC,JC]at q;have u:((sIx items.size 0 lo:Nat):Int)=0:=eq_of_beq q.1.1
  have r:sIx items.size items.size hi-sIx items.size 0 lo=items.size:=eq_of_beq q.2
  exact hw #[by lia,by lia]
 show ε _ _ (if(((sIx items.size 0 lo:Nat):Int)==0&&(1:Int)==1&&(sIx items.size items.size hi-sIx items.size 0 lo)==items.size)=true then _ else _) _ _ s
 rw[Jb d,wR]
 first
  |exact Ja (m:=γ.Tuple.tupleExact _) (J3 (Jd ⟨_,rfl,Jd h⟩) a)
  |exact Ja (m:=γ.Tuple.tupleExact _) (J3 (Ja (Jd (Jd ⟨_,rfl,Jd h⟩))) a)
  |exact Ja (Ja (m:=γ.Tuple.tupleExact _) (J3 (Jd (Jd ⟨_,rfl,Jd h⟩)) a))
  |exact Ja (Ja (m:=γ.Tuple.tupleExact _) (J3 (Jd ⟨_,rfl,Jd h⟩) a))
end
end HT
namespace L2
open PySem PySem.Spec PyProof.Rows
abbrev TO:=St->Hp->(Λ->Hp->Prop)->Prop
def PO(X:Cx)(e:ν)(t:TO):Prop:=
 ∀(Oa:GR) (s:Θ) (σ:St) (H:Hp) (Q:Λ->Hp->Prop),GX X Oa σ H s->t σ H Q->
  ε (model X.prog X.w) X.A (evalPart e X.env) (λu s'=>∃o H',GX X Oa σ H' s'/\IsPart u o/\Q o H') X.xe s
def pB:TO:=λ_ H Q=>Q none H
def yv(t:TE):TO:=λσ H Q=>t σ H λx H1=>∃i,x= .int i/\Q ↑i H1
theorem rc{ns:Β}:∀{us:Ζ},GZ (ns.map V.int) us->IntsAre us ns:=by
 induction ns with
 |nil=>intro us r;rw[FS]at r;cases r;exact .nil
 |cons n ns ih=>
  intro us r;rw[JS]at r;cases r with
  |cons r1 r2=>
   obtain⟨t,e⟩:=r1;subst e;exact .cons n t (ih r2)
section
variable{X:Cx}{e:Φ}{te:TE}{lo hi:ν}{tl th:TO}{pos p2:Pos}
theorem Az:PO X none pB:=by
 intro Oa s σ H Q I h;rw[evalPart_none];exact Jd #[none,H,I,.none,h]
theorem Br(h:PE X e te):PO X ↑e (yv te):=by
 intro Oa s σ H Q I f;rw[evalPart_some];refine qz (h Oa s σ H _ I f) λu j c=>?_
 obtain⟨x,H1,d,g,a⟩:=c;obtain⟨i,rfl,q⟩:=a;obtain⟨t,rfl⟩:=g
 exact#[↑i,H1,d,.int i t,q]
def uF(X:Cx)(r:V->Λ->Λ->Hp->VK->Prop):Prop:=
 ∀(Oa:GR) (s:Θ) (σ:St) (H:Hp) (x:V) (v a d:Γ) (lo hi:Λ) (c:Δ) (Q:VK),GX X Oa σ H s->G8 x v->s.heap.IsSliceOf c a d .none->IsPart a lo->IsPart d hi->r x lo hi H Q->
  ∃T id,typeLookup (.type T) "__getitem__"=pure ↑(.builtin id)/\s.TypeIs v T/\ε (model X.prog X.w) X.A (getItem v (.ref c)) (EP X Oa σ Q) X.xe s
def Ej(r:V->Λ->Λ->Hp->VK->Prop)(te:TE)(tl th:TO):TE:=λσ H Q=>te σ H λx H1=>tl σ H1 λl c=>th σ c λu a=>r x l u a Q
theorem wu{r:V->Λ->Λ->Hp->VK->Prop}(hr:uF X r)(he:PE X e te)(hl:PO X lo tl)(hu:PO X hi th):PE X (.Subscript e (.Slice lo hi none p2) pos) (Ej r te tl th):=by
 intro Oa s σ H Q I h;refine Subscript_ (qz (he Oa s σ H _ I h) λv o f=>?_)
 obtain⟨x,H1,w,p,t⟩:=f;refine wpAny_Slice (qz (hl Oa o σ H1 _ w t) λd n ⟨l,A,j,pl,m⟩=>qz (hu Oa n σ A _ j m) λc a f=>?_)
 obtain⟨u,g,C,B,z⟩:=f;rw[evalPart_none];refine Jd ?_
 have E:GX X Oa σ g {a with heap:=a.heap.push {cls:= .type "slice",data:= .fields (List.toArray [d,c,.none])}}:=C.kept (t':=a.toks) λb F q=>Jl _ q
 obtain⟨T,id,i,y,D⟩:=hr Oa {a with heap:=a.heap.push {cls:= .type "slice",data:= .fields (List.toArray [d,c,.none])}} σ g x v d c l u a.heap.objs.size Q E p (Ψ.IsSliceOf.new ..) pl B z
 show ε (model X.prog X.w) X.A (subscriptTail e (.Slice lo hi none p2) v (.ref a.heap.objs.size)) (EP X Oa σ Q) X.xe {a with heap:=a.heap.push {cls:= .type "slice",data:= .fields (List.toArray [d,c,.none])}}
 exact tail_any (ops:=[.ref a.heap.objs.size,v]) y i D (by with_unfolding_all rfl)
def Qd(xs:Ε)(lo hi:Λ):Ε:=(xs.drop (HT.sIx xs.length 0 lo)).take (HT.sIx xs.length xs.length hi-HT.sIx xs.length 0 lo)
theorem fG(xs:Ε)(lo hi:Λ):(Qd xs lo hi).length<=xs.length:=by
 unfold Qd;rw[EX,FF];lia
inductive NH (K:ι) (x:V) (lo:Λ) (hi:Λ) (H:Hp) (Q:VK):Prop
 |mk (a:_) (xs:_) (h1:x= .ref a) (h2:G9 K H a xs) (h3:¬(HT.sIx xs.length 0 lo=0/\HT.sIx xs.length xs.length hi=xs.length)) (h4:∀p,H p=none->Q (.ref p) (GW H p (.tup (Qd xs lo hi))))
def Ep(K:ι):V->Λ->Λ->Hp->VK->Prop:=λx lo hi H Q=>NH K x lo hi H Q
theorem CK:uF X (Ep X.K):=by
 intro Oa s σ H x v t n lo hi p Q I g i pl j h;obtain⟨a,xs,rfl,m,l,q⟩:=h;cases g;obtain⟨d,r,e,f⟩:=I.tuple m;have c:d.toArray.size=xs.length:=by rw[Jr];exact r.length.symm
 refine#["tuple",_,PyProof.Rows.slot_tuple_getitem.lookup,e.typeIs,?_]
 refine HT.getItem_tuple_cut e i pl j (by rw[c];exact l) ?_ (by rw[c];exact f)
 rw[c];refine#[.ref s.heap.objs.size,_,I.laid (t':=s.toks) (o:= .tup (Qd xs lo hi)) (λb u q=>Jl _ q) (Jf _) ?_,Z,q _ (I.hok.fresh (Jf _))]
 exact#[JG (fG xs lo hi) f,_,(r.drop (HT.sIx xs.length 0 lo)).take (HT.sIx xs.length xs.length hi-HT.sIx xs.length 0 lo),IsTup.new _ _]
inductive Np (K:ι) (x:V) (y:V) (H:Hp) (Q:VK):Prop
 |mk (a:_) (b:_) (xs:_) (ys:_) (h1:x= .ref a) (h2:y= .ref b) (h3:G9 K H a xs) (h4:G9 K H b ys) (h5:xs≠[]) (h6:xs.length+ys.length<=ζ) (h7:(ys=[]->Q (.ref a) H)) (h8:(ys≠[]->∀p,H p=none->Q (.ref p) (GW H p (.tup (xs++ys)))))
def DJ(K:ι):R2:=λx y H Q=>Np K x y H Q
theorem GZ.nil_iff{xs:Ε}{us:Ζ}(r:GZ xs us):us=[]↔xs=[]:=by
 cases r with
 |nil=>simp
 |cons _ _=>simp
theorem Bj:zt X (binaryOp .Add) (DJ X.K):=by
 intro Oa s σ H x y v u Q I g t h;obtain⟨a,b,xs,ys,rfl,rfl,p,n,r,f,l,j⟩:=h;cases g;cases t;obtain⟨i,d,m,_⟩:=I.tuple p;obtain⟨e,c,p2,_⟩:=I.tuple n;refine HT.cat_tup m p2 (λz=>r (d.nil_iff.mp z)) (λz=>#[.ref a,H,I,Z,l (c.nil_iff.mp z)]) (λz=>?_) (by rw[<- d.length,<- c.length];exact f)
 refine#[.ref s.heap.objs.size,_,I.laid (t':=s.toks) (o:= .tup (xs++ys)) (λb A q=>Jl _ q) (Jf _) ?_,Z,j (λw=>z (c.nil_iff.mpr w)) _ (I.hok.fresh (Jf _))]
 exact#[by rw[Jv];exact f,_,d.append c,IsTup.new _ _]
end
def Z1(n:Nat)(i:Int):Χ:=if 0<=i then(if i<n then ↑i.toNat else none)else if -(n:Int)<=i then some (i+n).toNat else none
def zY{a:Type}(xs:List a)(i:Int):Option a:=(Z1 xs.length i).bind λj=>xs[j]?
theorem iw{n:Nat}{i:Int}{j:Nat}(h:Z1 n i=↑j):seqIndex? i n=↑j/\j<n/\ -(n:Int)<=i/\i<n:=by
 unfold Z1 at h
 by_cases a:0<=i
 ·rw[Jc a]at h
  by_cases h1:i<n
  ·rw[Jc h1]at h
   have e:i.toNat=j:=JA h
   exact#[by rw[seqIndex_of a h1,e],by lia,by lia,h1]
  ·rw[Jb h1]at h;cases h
 ·rw[Jb a]at h
  by_cases h1: -(n:Int)<=i
  ·rw[Jc h1]at h
   have e:(i+n).toNat=j:=JA h
   exact#[by rw[seqIndex_neg (by lia) h1,e],by lia,h1,by lia]
  ·rw[Jb h1]at h;cases h
theorem pK{a:Type}{xs:List a}{i:Int}{v:a}(h:zY xs i=↑v):∃j,seqIndex? i xs.length=↑j/\xs[j]? =↑v/\j<xs.length/\ -(xs.length:Int)<=i/\i<xs.length:=by
 unfold zY at h;cases e:Z1 xs.length i with
 |none=>rw[e]at h;cases h
 |some j=>
  rw[e]at h;obtain⟨h1,f,c,d⟩:=iw e
  exact#[j,h1,h,f,c,d]
theorem Qo{a:Type}{xs:List a}{j:Nat}{v:a}(h:xs[j]? =↑v):zY xs (j:Int)=↑v:=by
 have c:j<xs.length:=(Js.mp h).1
 have e:Z1 xs.length (j:Int)=↑j:=by
  unfold Z1;rw[Jc (by lia),Jc (by lia)];simp
 unfold zY;rw[e];exact h
def oI(b:Φ):Prop:=∀o i,subscripted b false o i=operate [o,i] (getItem o i)
def MZ(X:Cx)(r:R2):Prop:=
 ∀(value a:Φ) (Oa:GR) (s:Θ) (σ:St) (H:Hp) (x y:V) (v u:Γ) (Q:VK),GX X Oa σ H s->G8 x v->G8 y u->r x y H Q->
  subscripted a false v u=operate [v,u] (getItem v u)->ε (model X.prog X.w) X.A (subscriptTail value a v u) (EP X Oa σ Q) X.xe s
def gw(X:Cx)(id:String)(r:V->Ε->Hp->VK->Prop):Prop:=
 ∀(Oa:GR) (s:Θ) (σ:St) (H:Hp) (x:V) (xs:Ε) (v:Γ) (a:Ζ) (Q:VK),GX X Oa σ H s->G8 x v->GZ xs a->r x xs H Q->
  ε (model X.prog X.w) X.A (call (.builtin id) (v::a)) (EP X Oa σ Q) X.xe s
section
variable{X:Cx}{a b:Φ}{ta tb:TE}{pos:Pos}
theorem MZ.or{r c:R2}(h:MZ X r)(h':MZ X c):MZ X (λx y H Q=>r x y H Q\/c x y H Q):=by
 intro value a Oa s σ H x y v u Q I d f q e;rcases q with q|q
 ·exact h value a Oa s σ H x y v u Q I d f q e
 ·exact h' value a Oa s σ H x y v u Q I d f q e
theorem DL{r:R2}(hr:MZ X r)(ha:PE X a ta)(hb:PE X b tb)(hs:oI b):PE X (.Subscript a b pos) (iT r ta tb):=by
 intro Oa s σ H Q I h;exact Subscript_ (xp ha hb I h λv u f x y e d c g q=>hr a b Oa f σ e x y v u Q d c g q (hs _ _))
inductive NJ (K:ι) (x:V) (y:V) (H:Hp) (Q:VK):Prop
 |mk (p:_) (xs:_) (i:_) (v:_) (h1:x= .ref p) (h2:y= .int i) (h3:G0 K H p xs) (h4:zY xs i=↑v) (h5:Q v H)
def Di(K:ι):R2:=λx y H Q=>NJ K x y H Q
inductive NK (K:ι) (x:V) (y:V) (H:Hp) (Q:VK):Prop
 |mk (p:_) (xs:_) (i:_) (v:_) (h1:x= .ref p) (h2:y= .int i) (h3:G9 K H p xs) (h4:zY xs i=↑v) (h5:Q v H)
def vX(K:ι):R2:=λx y H Q=>NK K x y H Q
theorem qG:MZ X (Di X.K):=by
 intro value f Oa s σ H x y v u Q I E o h g;obtain⟨p,xs,i,z,rfl,rfl,D,B,q⟩:=h;cases E;obtain⟨t,rfl⟩:=o;obtain⟨c,r,pl,G⟩:=I.list D;obtain⟨j,h1,n,K,A,C⟩:=pK B;obtain⟨w,l,d⟩:=r.get n;have F:=r.length;have J:=ZS;have a:EP X Oa σ Q w s:=#[z,H,I,d,q]
 by_cases m:0<=i
 ·have e:i.toNat=j:=by
   rw[seqIndex_of m C]at h1;exact JA h1
  exact item_listR pl.isList m (by lia) (by rw[e];simpa using l) a g
 ·have e:(i+(c.toArray.size:Int)).toNat=j:=by
   rw[seqIndex_neg (by lia) A]at h1
   rw[Jr,<- F];exact JA h1
  exact subscriptTail_builtinR (x:=w) pl.isList.typeIs slot_list_getitem.lookup
   (wpAny_getItem_list_neg (Q:=λr s'=>r=w/\EP X Oa σ Q r s') pl.isList (by lia) (by rw[Jr]<;>lia) (by lia) (by rw[e];simpa using l) #[Z,a]) g
theorem qO:MZ X (vX X.K):=by
 intro value d Oa s σ H x y v u Q I g A h m;obtain⟨p,xs,i,z,rfl,rfl,B,f,q⟩:=h;cases g;obtain⟨t,rfl⟩:=A;obtain⟨l,r,pl,E⟩:=I.tuple B;obtain⟨j,h1,e,D,C,G⟩:=pK f;obtain⟨w,o,a⟩:=r.get e;have n:=r.length;have F:=ZS;have c:EP X Oa σ Q w s:=#[z,H,I,a,q]
 exact subscriptTail_builtinR (x:=w) pl.typeIs slot_tuple_getitem.lookup
  (getItem_tuple (j:=j) (Q:=λr s'=>r=w/\EP X Oa σ Q r s') pl (by lia) (by lia) (by rw[Jr,<- n];exact h1) (by simpa using o) #[Z,c]) m
theorem pW(its:Ζ)(n j:Nat)(u:Γ):Obj.mapSeq (·.setIfInBounds j u) {cls:= .type "list",data:= .seq its.toArray n}={cls:= .type "list",data:= .seq (its.set j u).toArray n}:=by
 simp [Obj.mapSeq]
theorem GX.lst{Oa:GR}{σ:St}{H:Hp}{s:Θ}{p:Δ}{xs:Ε}(I:GX X Oa σ H s)(h:H p=↑(.lst xs)):
  ∃(its:Ζ) (n:Nat),GZ xs its/\s.heap.get? p=some {cls:= .type "list",data:= .seq its.toArray n}/\xs.length<=ζ:=by
 obtain⟨z,its,n,r,e⟩:=I.hok p _ h
 exact#[its,n,r,e,z]
theorem GX.lstUpd{Oa:GR}{σ:St}{H:Hp}{s:Θ}{p:Δ}{xs ys:Ε}{its its':Ζ}{n a:Nat}{f:Obj->Obj}(I:GX X Oa σ H s)(h:H p=↑(.lst xs))
  (ho:s.heap.get? p=some {cls:= .type "list",data:= .seq its.toArray n})(hf:f {cls:= .type "list",data:= .seq its.toArray n}={cls:= .type "list",data:= .seq its'.toArray a})(r:GZ ys its')(hz:ys.length<=ζ)(t:Nat):
  GX X Oa σ (GW H p (.lst ys)) {s with heap:=s.heap.update p f,toks:=t}:=by
 have e:(s.heap.update p f).get? p=some {cls:= .type "list",data:= .seq its'.toArray a}:=by
  rw[FB f ho (by rw[hf]<;>rfl),hf]
 refine I.write (x:=p) (e:=p) (by rw[h];trivial) (.inl Z) (λb u c q=>(FT _ _ (Ne.symm c)).trans q) #[_,e] ?_
 exact#[hz,its',a,r,e]
inductive Nq (o:V) (i:V) (v:V) (H:Hp) (Q:Hp->Prop):Prop
 |mk (p:_) (xs:_) (k:_) (j:_) (h1:o= .ref p) (h2:i= .int k) (h3:H p=↑(.lst xs)) (h4:Z1 xs.length k=↑j) (h5:Q (GW H p (.lst (xs.set j v))))
def DZ:V->V->V->Hp->(Hp->Prop)->Prop:=λo i v H Q=>Nq o i v H Q
theorem Zc:kJ X DZ:=by
 intro Oa s σ H o i v D E u Q I z y x h;obtain⟨p,xs,k,j,rfl,rfl,f,A,q⟩:=h;cases z;obtain⟨t,rfl⟩:=y;obtain⟨a,n,r,c,w⟩:=I.lst f;obtain⟨h1,B,m,e⟩:=iw A;have d:=r.length;have C:=ZS;have g:GX X Oa σ (GW H p (.lst (xs.set j v))) {s with heap:=s.heap.update p (Obj.mapSeq (·.setIfInBounds j u))}:=
  I.lstUpd f c (pW a n j u) (r.set x j) (by rw[Fl];exact w) s.toks
 by_cases l:0<=k
 ·have hk:k.toNat=j:=by
   rw[seqIndex_of l e]at h1;exact JA h1
  exact W.ki_setAt c l (by lia) (by rw[Jr,<- d];exact e) (by rw[hk];exact#[_,g,q])
 ·have hk:(k+(a.toArray.size:Int)).toNat=j:=by
   rw[seqIndex_neg (by lia) m]at h1
   rw[Jr,<- d];exact JA h1
  exact W.ki_setBack c (by lia) (by rw[Jr,<- d];exact m) (by lia) (by rw[hk];exact#[_,g,q])
theorem l7(lo hi:Λ)(n:Nat):(sliceBounds lo hi none n).1=((HT.sIx n 0 lo:Nat):Int)/\(sliceBounds lo hi none n).2.1=((HT.sIx n n hi:Nat):Int)/\(sliceBounds lo hi none n).2.2=1:=by
 refine#[?_,?_,Z]
 ·cases lo with
  |none=>simp [sliceBounds,HT.sIx]
  |some i=>
   simp only[sliceBounds,HT.sIx,Option.getD_none,show(1:Int)>0 by decide,Fc]
   by_cases h:i<0
   ·simp only[h,Fc]<;>lia
   ·simp only[h,JD]<;>lia
 ·cases hi with
  |none=>simp [sliceBounds,HT.sIx]
  |some i=>
   simp only[sliceBounds,HT.sIx,Option.getD_none,show(1:Int)>0 by decide,Fc]
   by_cases h:i<0
   ·simp only[h,Fc]<;>lia
   ·simp only[h,JD]<;>lia
theorem jL(its:Ζ)(lo hi:Λ):slicePick its.toArray lo hi none=((its.drop (HT.sIx its.length 0 lo)).take (HT.sIx its.length its.length hi-HT.sIx its.length 0 lo)).toArray:=by
 obtain⟨h1,c,a⟩:=l7 lo hi its.toArray.size;unfold slicePick;rw[h1,c,a];simp only[sliceRange_one,pick_run,Jr]<;>rfl
inductive NL (K:ι) (x:V) (lo:Λ) (hi:Λ) (H:Hp) (Q:VK):Prop
 |mk (a:_) (xs:_) (h1:x= .ref a) (h2:G0 K H a xs) (h3:∀p,H p=none->Q (.ref p) (GW H p (.lst (Qd xs lo hi))))
def EE(K:ι):V->Λ->Λ->Hp->VK->Prop:=λx lo hi H Q=>NL K x lo hi H Q
theorem bD:uF X (EE X.K):=by
 intro Oa s σ H x v p m lo hi n Q I e i pl j h;obtain⟨a,xs,rfl,l,q⟩:=h;cases e;obtain⟨f,r,d,g⟩:=I.list l;have c:=r.length;refine#["list",_,slot_list_getitem.lookup,d.isList.typeIs,?_]
 refine wpAny_getItem_list_slice d.isList i pl j .none (by simp) ?_ (by rw[Jr]<;>lia)
 rw[jL,<- c];refine#[.ref s.heap.objs.size,_,I.laid (t':=s.toks) (o:= .lst (Qd xs lo hi)) (λb t q=>Jl _ q) (Jf _) ?_,Z,q _ (I.hok.fresh (Jf _))]
 exact#[JG (fG xs lo hi) g,_,0,(r.drop (HT.sIx xs.length 0 lo)).take (HT.sIx xs.length xs.length hi-HT.sIx xs.length 0 lo),Jq _ Z]
def y8:V->Bool
 | .non=>true
 | .bl _=>true
 | .int _=>true
 | .str _=>true
 |_=>false
def Ea:V->V->Bool
 | .non,.non=>true
 | .bl a,.bl b=>a==b
 | .bl a,.int b=>(if a then 1 else 0)==b
 | .int a,.bl b=>a==(if b then 1 else 0)
 | .int a,.int b=>a==b
 | .str a,.str b=>a==b
 |_,_=>false
theorem Cn{A:Around}{s:Θ}{y x:V}{u v:Γ}(f:G8 y u)(c:G8 x v)(g:y8 y=true)(e:y8 x=true):SeqAt.EqAt A s u v (Ea y x):=by
 cases y with
 |non=>
  cases f;cases x with
  |non=>cases c;exact SeqAt.EqAt.same _
  |bl b=>cases c;exact SeqAt.EqAt.none_bool b
  |int b=>obtain⟨t,rfl⟩:=c;exact SeqAt.EqAt.none_int b t
  |str b=>obtain⟨t,rfl⟩:=c;exact SeqAt.EqAt.none_str b t
  |_=>exact absurd (show false=true from e) JJ
 |bl a=>
  cases f;cases x with
  |non=>cases c;exact SeqAt.EqAt.bool_none a
  |bl b=>cases c;exact SeqAt.EqAt.bool_bool a b
  |int b=>obtain⟨t,rfl⟩:=c;exact SeqAt.EqAt.bool_int a b t
  |str b=>obtain⟨t,rfl⟩:=c;exact SeqAt.EqAt.bool_str a b t
  |_=>exact absurd (show false=true from e) JJ
 |int a=>
  obtain⟨d,rfl⟩:=f;cases x with
  |non=>cases c;exact SeqAt.EqAt.int_none a d
  |bl b=>cases c;exact SeqAt.EqAt.int_bool a d b
  |int b=>obtain⟨t,rfl⟩:=c;exact SeqAt.EqAt.int_int a d b t
  |str b=>obtain⟨t,rfl⟩:=c;exact SeqAt.EqAt.int_str a d b t
  |_=>exact absurd (show false=true from e) JJ
 |str a=>
  obtain⟨d,rfl⟩:=f;cases x with
  |non=>cases c;exact SeqAt.EqAt.str_none a d
  |bl b=>cases c;exact SeqAt.EqAt.str_bool a d b
  |int b=>obtain⟨t,rfl⟩:=c;exact SeqAt.EqAt.str_int a d b t
  |str b=>obtain⟨t,rfl⟩:=c;exact SeqAt.EqAt.str_str a d b t
  |_=>exact absurd (show false=true from e) JJ
 |_=>exact absurd (show false=true from g) JJ
theorem qY:zi X (.builtin "len") (λxs H Q=>∃p ys,xs=[.ref p]/\(G0 X.K H p ys\/G9 X.K H p ys)/\Q (.int ys.length) H):=by
 intro Oa s σ H xs j Q I r h;obtain⟨p,ys,rfl,c,q⟩:=h;obtain⟨u,rfl,f⟩:=zM r;cases f;have i:=ZS;rcases c with c|c
 ·obtain⟨e,d,pl,g⟩:=I.list c
  have a:=d.length;exact Calls.call_len_list pl.isList (by simp only[Jr]<;>lia) #[.int ys.length,H,I.tok _,#[s.toks+1,by rw[Jr,a]],q]
 ·obtain⟨e,d,pl,g⟩:=I.tuple c
  have a:=d.length;exact len_tuple pl (by simp only[Jr]<;>lia) #[.int ys.length,H,I.tok _,#[s.toks+1,by rw[Jr,a]],q]
theorem ly:zi X (.builtin "len") (λxs H Q=>∃z,xs=[.str z]/\z.length<=ζ/\Q (.int z.length) H):=by
 intro Oa s σ H xs c Q I r h;obtain⟨z,rfl,d,q⟩:=h;obtain⟨u,rfl,t,rfl⟩:=zM r;have a:=ZS;exact len_str (by lia) #[.int z.length,H,I.tok _,#[_,Z],q]
theorem Zo:zi X (.type "list") (λxs H Q=>∃p ys,xs=[.ref p]/\(G0 X.K H p ys\/G9 X.K H p ys)/\∀l,H l=none->Q (.ref l) (GW H l (.lst ys))):=by
 intro Oa s σ H xs x Q I r h;obtain⟨p,ys,rfl,d,q⟩:=h;obtain⟨u,rfl,w⟩:=zM r;cases w;have g:∀(a:Ζ),GZ ys a->ys.length<=ζ->∀(h':Ψ) (c':Nat),(∀b o',s.heap.get? b=↑o'->h'.get? b=↑o')->
   h'.get? s.heap.objs.size=some {cls:= .type "list",dict:=none,data:= .seq a.toArray c',slots:= (List.toArray [])}->EP X Oa σ Q (.ref s.heap.objs.size) {s with heap:=h'}:=λa c f h' c' j e=>
  #[.ref s.heap.objs.size,_,I.laid (t':=s.toks) j (Jf _) (show Hv X.prog X.w _ h' _ (.lst ys)from#[f,a,c',c,e]),Z,q _ (I.hok.fresh (Jf _))]
 rcases d with d|d
 ·obtain⟨a,c,pl,f⟩:=I.list d
  have i:=c.length;obtain⟨o,m,t,n,v⟩:=pl.isList;exact call_list_seq p (.inl Z) m t v (λh' c' j e=>g a c f h' c' j e) (by simp only[Jr]<;>lia)
 ·obtain⟨a,c,pl,f⟩:=I.tuple d
  have i:=c.length;obtain⟨o,m,t,n,v⟩:=pl;exact call_list_seq p (.inr Z) m t v (λh' c' j e=>g a c f h' c' j e) (by simp only[Jr]<;>lia)
theorem qX:zi X (.type "tuple") (λxs H Q=>∃p ys,xs=[.ref p]/\((G0 X.K H p ys/\∀l,H l=none->Q (.ref l) (GW H l (.tup ys)))\/(G9 X.K H p ys/\Q (.ref p) H))):=by
 intro Oa s σ H xs t Q I r h;obtain⟨p,ys,rfl,h⟩:=h;obtain⟨u,rfl,j⟩:=zM r;cases j;rcases h with⟨d,q⟩|⟨d,q⟩
 ·obtain⟨a,c,pl,f⟩:=I.list d
  have g:=c.length;refine call_tuple_list pl.isList (λh' n=>?_) (by simp only[Jr]<;>lia)
  have i:GX X Oa σ H {s with heap:=h'}:=I.kept (t':=s.toks) n
  have m:GX X Oa σ (GW H h'.objs.size (.tup ys)) {s with heap:=h'.push {cls:= .type "tuple",data:= .seq a.toArray}}:=
   i.laid (t':=s.toks) (λb o e=>Jl _ e) (Jf _) (show Hv X.prog X.w _ _ _ (.tup ys)from#[f,a,c,IsTup.new _ _])
  exact#[.ref h'.objs.size,_,m,Z,q _ (i.hok.fresh (Jf _))]
 ·obtain⟨a,c,pl,f⟩:=I.tuple d
  exact call_tuple_same pl #[.ref p,H,I,Z,q]
def CI(K:ι)(T:String)(x:V)(H:Hp):Prop:=match x with
 | .str _=>T="str"
 | .int _=>T="int"
 | .ref p=>(T="list"/\∃xs,G0 K H p xs)\/(T="tuple"/\∃o,K.lookup p=↑o/\o.cls= .type "tuple"/\o.dict=none)\/
   (T="dict"/\((∃kvs,H p=↑(.dK kvs))\/∃kvs,H p=↑(.dT kvs)))\/(T="set"/\∃S n,H p=↑(.set S n))
 |_=>False
theorem ul{Oa:GR}{σ:St}{H:Hp}{s:Θ}{T:String}{x:V}{v:Γ}(I:GX X Oa σ H s)(r:G8 x v)(ty:CI X.K T x H):
  s.TypeIs v T/\∀a,v= .ref a->∃g,s.heap.get? a=↑g/\g.dict=none:=by
 cases x with
 |str z=>
  obtain⟨t,rfl⟩:=r
  cases(show T="str" from ty)
  exact#[typeIs_str s z t,λ_ e=>nomatch e]
 |int i=>
  obtain⟨t,rfl⟩:=r
  cases(show T="int" from ty)
  exact#[typeIs_int s i t,λ_ e=>nomatch e]
 |ref p=>
  cases r;rcases ty with⟨rfl,xs,l⟩|⟨rfl,o,hk,j,f⟩|⟨rfl,hk⟩|⟨rfl,S,n,hk⟩
  ·obtain⟨h,_,pl,_⟩:=I.list l
   refine#[pl.isList.typeIs,λa e=>?_]
   cases e;obtain⟨o,n,e,c,f,_⟩:=pl
   exact#[o,e,f]
  ·refine#[#[o,I.kIn p o hk,j],λa e=>?_]
   cases e
   exact#[o,I.kIn _ o hk,f]
  ·have z:∃o,s.heap.get? p=↑o/\o.ExactDict:=by
    rcases hk with⟨kvs,hk⟩|⟨kvs,hk⟩
    ·obtain⟨_,_,_,_,o,_,_,e,ex,_⟩:=I.hok p _ hk
     exact#[o,e,ex]
    ·obtain⟨_,_,_,_,o,_,_,e,ex,_⟩:=I.hok p _ hk
     exact#[o,e,ex]
   obtain⟨o,e,ex⟩:=z;refine#[#[o,e,ex.1],λa d=>?_]
   cases d
   exact#[o,e,ex.2.1]
  ·obtain⟨o,_,_,_,e,ex,_⟩:=I.hok p _ hk
   refine#[#[o,e,ex.1],λa d=>?_]
   cases d
   exact#[o,e,ex.2.1]
 |_=>exact False.elim ty
def C7(K:ι)(T:String)(r:V->Ε->Hp->VK->Prop)(to:TE):TE:=λσ H Q=>to σ H λx H1=>CI K T x H1/\r x [] H1 Q
def C6(K:ι)(T:String)(r:V->Ε->Hp->VK->Prop)(to:TE)(t:TA):TE:=λσ H Q=>to σ H λx H1=>CI K T x H1/\t σ H1 λxs a=>r x xs a Q
variable{o e:Φ}{es:Ι}{to:TE}{t:TA}{name:Str}{apos cpos:Pos}{T id:String}{r:V->Ε->Hp->VK->Prop}
theorem Cb(n:PlainAttrs T)(d:Slot T name id)(e:typeOf (.builtin id)=pure (.type "method_descriptor"))(hm:gw X id r)(ho:PE X o to)
  (a:attributeBase o name X.env (eval o X.env)=eval o X.env:=by rfl)(c:(apos.endLine==cpos.line)=true:=by rfl):PE X (.Call (.Attribute o name apos) [] [] cpos) (C7 X.K T r to):=by
 intro Oa s σ H Q I h;refine wpAny_Call_method0_late a c (qz (ho Oa s σ H _ I h) λv m l=>?_)
 obtain⟨x,H1,f,g,ty,j⟩:=l;obtain⟨h1,i⟩:=ul f g ty
 exact#[T,id,n,d,e,h1,i,GA Z (PySem.evalArgs_none (hm Oa m σ H1 x [] v [] Q f g .nil j))]
theorem DX(D:PlainAttrs T)(f:Slot T name id)(i:typeOf (.builtin id)=pure (.type "method_descriptor"))(hm:gw X id r)(ho:PE X o to)(ha:PA X (e::es) t)
  (c:attributeBase o name X.env (eval o X.env)=eval o X.env:=by rfl)
  (g:((backTo cpos (θ (e::es) X.env)).all (λx=> ! x.1)&&(backToKw cpos (keywordEach [] X.env)).all (λx=>x.1.isSome)
   &&decide ((e::es).length+([]:ξ).length+(if([]:ξ).isEmpty then 0 else 1)<30))=true:=by rfl)
  (d:(apos.endLine==cpos.line)=true:=by rfl)(hs:θ (e::es) X.env=(false,eval e X.env)::θ es X.env:=by rfl)(a:(backTo cpos (θ es X.env)).any (·.1)=false:=by rfl):
  PE X (.Call (.Attribute o name apos) (e::es) [] cpos) (C6 X.K T r to t):=by
 intro Oa s σ H Q I h;refine wpAny_Call_method_late c g d Z (qz (ho Oa s σ H _ I h) λv w A=>?_)
 obtain⟨x,H1,l,j,ty,z⟩:=A;obtain⟨h1,n⟩:=ul l j ty;refine#[T,id,D,f,i,h1,n,?_]
 have m:=ha cpos Oa w σ H1 _ l z;rw[hs]at m⊢;refine GA (by show(false||(backTo cpos (θ es X.env)).any (·.1))=false;rw[a]<;>rfl) (Calls.evalArgs_plain ?_)
 exact qz m λy u ⟨vs,B,p,C,q⟩=>hm Oa u σ B x vs v y Q p j C q
end
def Dm(X:Cx)(id:String)(r:V->Ε->Hp->VK->Prop):Prop:=
 ∀(Oa:GR) (s:Θ) (σ:St) (H:Hp) (x:V) (xs:Ε) (v:Γ) (a:Ζ) (Q:VK),GX X Oa σ H s->G8 x v->GZ xs a->r x xs H Q->
  ε (model X.prog X.w) X.A (call (.builtin id) (v::a)) (EP X Oa σ Q) X.xe s
theorem GZ.one:∀{x:V} {us:Ζ},GZ [x] us->∃u,us=[u]/\G8 x u
 :=by
 intro x us h;cases h with
 |cons r q=>cases q;exact#[_,Z,r]
theorem GZ.two:∀{x y:V} {us:Ζ},GZ [x,y] us->∃u v,us=[u,v]/\G8 x u/\G8 y v
 :=by
 intro x y us h;cases h with
 |cons r q=>cases q with
  |cons q z=>cases z;exact#[_,_,Z,r,q]
theorem GZ.zero:∀{us:Ζ},GZ [] us->us=[]
 |_,.nil=>rfl
theorem GZ.eraseIdx:∀{xs:Ε} {us:Ζ} (i:Nat),GZ xs us->GZ (xs.eraseIdx i) (us.eraseIdx i)
 |_,_,_,.nil=> .nil
 |_,_,0,.cons _ t=>t
 |_,_,i+1,.cons r t=> .cons r (GZ.eraseIdx i t)
theorem GZ.reverse{xs:Ε}{us:Ζ}(h:GZ xs us):GZ xs.reverse us.reverse:=by
 induction h with
 |nil=>exact .nil
 |cons r t ih=>rw[List.reverse_cons,List.reverse_cons];exact GZ.append ih (.cons r .nil)
theorem GZ.rep{xs:Ε}{us:Ζ}(h:GZ xs us):∀k:Nat,GZ (List.replicate k xs).flatten (List.replicate k us).flatten
 |0=> .nil
 |k+1=>by
  rw[FU,FU,Gi,Gi];exact GZ.append h (GZ.rep h k)
theorem i3{a:Type}:∀(l:List a) (i:Nat),(l.eraseIdx i).length<=l.length
 | [],_=>Jf _
 |_::_,0=>Fk _
 |_::r,i+1=>Nat.succ_le_succ (i3 r i)
theorem iS(its:Ζ):∀(k:Nat) (a:Ζ),
  List.foldl (λd f=>d++f) a.toArray (List.replicate k its.toArray)=(a++(List.replicate k its).flatten).toArray
 |0,a=>by simp
 |k+1,a=>by
  have e:a.toArray++its.toArray=(a++its).toArray:=by simp
  have c:(a++its)++(List.replicate k its).flatten=a++(List.replicate (k+1) its).flatten:=by
   rw[FU,Gi,Fh]
  rw[<- c,<- iS its k (a++its),<- e,FU,List.foldl_cons]
section
variable{X:Cx}{Oa:GR}{σ:St}{H:Hp}{s:Θ}{l:Δ}{xs ys:Ε}
theorem GX.lset{its its':Ζ}{n:Nat}{f:Array Γ->Array Γ}{t':Nat}(I:GX X Oa σ H s)(d:H l=↑(.lst xs))
  (e:s.heap.get? l=some {cls:= .type "list",data:= .seq its.toArray n})(hf:f its.toArray=its'.toArray)(hv:GZ ys its')(hz:ys.length<=ζ):
  GX X Oa σ (GW H l (.lst ys)) {s with heap:=s.heap.update l (Obj.mapSeq f),toks:=t'}:=by
 have q:=PySem.IsL.update e f;rw[hf]at q;refine I.write (x:=l) (e:=l) (by rw[d];exact trivial) (.inl Z) (λg u c a=>(FT s.heap (Obj.mapSeq f) (Ne.symm c)).trans a) #[_,q] ?_
 exact#[hz,its',_,hv,q]
theorem GX.lnew{its:Ζ}{t':Nat}(I:GX X Oa σ H s)(hv:GZ ys its)(hz:ys.length<=ζ):
  GX X Oa σ (GW H s.heap.objs.size (.lst ys)) {s with heap:=s.heap.push {cls:= .type "list",data:= .seq its.toArray},toks:=t'}:=
 I.laid (λ_ _ q=>Jl _ q) (Jf _) #[hz,its,0,hv,Jq _ Z]
theorem GX.fresh(I:GX X Oa σ H s):H s.heap.objs.size=none:=I.hok.fresh (Jf _)
theorem GX.lstM(I:GX X Oa σ H s)(a:H l=↑(.lst xs)):xs.length<=ζ/\∃(its:Ζ) (n:Nat),GZ xs its/\xs.length=its.length/\s.heap.get? l=some {cls:= .type "list",data:= .seq its.toArray n}:=by
 obtain⟨z,its,n,r,e⟩:=I.hok l _ a
 exact#[z,its,n,r,r.length,e]
theorem vO{n:Nat}(h:n<=ζ):γ.List.listTooLong n=false:=by
 unfold γ.List.listTooLong;exact Jo (by lia)
end
section
variable{X:Cx}
inductive Ml (x:V) (vs:Ε) (H:Hp) (Q:VK):Prop
 |mk (l:_) (xs:_) (y:_) (h1:x= .ref l) (h2:vs=[y]) (h3:H l=↑(.lst xs)) (h4:xs.length<ζ) (h5:Q .non (GW H l (.lst (xs++[y]))))
def oM:V->Ε->Hp->VK->Prop:=λx vs H Q=>Ml x vs H Q
theorem vd:Dm X "list.append" oM:=by
 intro Oa s σ H x vs v m Q I d g h;obtain⟨l,xs,y,rfl,rfl,c,i,q⟩:=h;cases d;obtain⟨u,rfl,f⟩:=g.one;obtain⟨z,a,n,r,j,e⟩:=I.lstM c;refine FG F.slot_list_append #[_,e,Z] F.entry_list_append (F.args_list_append_2 _ _) (PySem.list_append l a.toArray n u (by rw[Jr];lia)) #[e,?_]
 refine#[.non,_,I.lset (its':=a++[u]) c e (by simp) (r.append (.cons f .nil)) ?_,Z,q]
 rw[Jv,Fd];lia
inductive M8 (x:V) (vs:Ε) (H:Hp) (Q:VK):Prop
 |mk (l:_) (xs:_) (i:_) (k:_) (y:_) (h1:x= .ref l) (h2:vs=[.int i]) (h3:H l=↑(.lst xs)) (h4: -(2 ^ 63)<=i) (h5:i<2 ^ 63) (h6:seqIndex? i xs.length=↑k) (h7:xs[k]? =↑y) (h8:Q y (GW H l (.lst (xs.eraseIdx k))))
def tF:V->Ε->Hp->VK->Prop:=λx vs H Q=>M8 x vs H Q
theorem wG:Dm X "list.pop" tF:=by
 intro Oa s σ H x vs v B Q I f p h;obtain⟨l,xs,i,k,y,rfl,rfl,d,h1,g,hk,j,q⟩:=h;cases f;obtain⟨u,rfl,o⟩:=p.one;obtain⟨t,rfl⟩:=o;obtain⟨z,a,n,r,A,e⟩:=I.lstM d;obtain⟨w,m,c⟩:=r.get j;refine FG F.slot_list_pop #[_,e,Z] F.entry_list_pop (F.args_list_pop_2 _ _)
  (MeetsSeq.list_pop_at l a.toArray n i t k w (fitsIndex_both h1 g) (by rw[Jr,<- A];exact hk) (by rw[<- Array.getElem?_toList];exact m) (by rw[Jr];lia)) #[e,?_]
 refine#[y,_,I.lset (its':=a.eraseIdx k) d e ?_ (r.eraseIdx k) ?_,c,q]
 ·show a.toArray.eraseIdxIfInBounds k=(a.eraseIdx k).toArray
  rw[List.eraseIdxIfInBounds_toArray]
 ·have:=i3 xs k
  lia
inductive LW (x:V) (vs:Ε) (H:Hp) (Q:VK):Prop
 |mk (l:_) (xs:_) (h1:x= .ref l) (h2:vs=[]) (h3:H l=↑(.lst xs)) (h4:Q .non (GW H l (.lst xs.reverse)))
def j8:V->Ε->Hp->VK->Prop:=λx vs H Q=>LW x vs H Q
theorem sV:Dm X "list.reverse" j8:=by
 intro Oa s σ H x vs v j Q I f g h;obtain⟨l,xs,rfl,rfl,d,q⟩:=h;cases f;have c:=g.zero;subst c;obtain⟨z,a,n,r,i,e⟩:=I.lstM d;refine FG F.slot_list_reverse #[_,e,Z] F.entry_list_reverse (F.args_list_reverse_1 _) (AutoSeq1.list_reverse_list_0 l a.toArray n (by rw[Jr];lia)) #[e,?_]
 refine#[.non,_,I.lset (its':=a.reverse) d e (by simp) r.reverse ?_,Z,q]
 rw[List.length_reverse];lia
inductive NM (x:V) (y:V) (H:Hp) (Q:VK):Prop
 |mk (l:_) (b:_) (xs:_) (zs:_) (h1:x= .ref l) (h2:y= .ref b) (h3:H l=↑(.lst xs)) (h4:H b=↑(.lst zs)) (h5:xs.length+zs.length<=ζ) (h6:∀p,H p=none->Q (.ref p) (GW H p (.lst (xs++zs))))
def Es:R2:=λx y H Q=>NM x y H Q
theorem CT:zt X (binaryOp .Add) Es:=by
 intro Oa s σ H x y v u Q I f i h;obtain⟨l,b,xs,zs,rfl,rfl,g,m,w,q⟩:=h;cases f;cases i;obtain⟨z,c,n,r,B,e⟩:=I.lstM g;obtain⟨t,a,A,j,p,d⟩:=I.lstM m;refine PySem.P.add_list e d ?_ (by rw[Jr,Jr];lia)
 have o:c.toArray++a.toArray=(c++a).toArray:=by simp
 rw[o]
 exact#[.ref _,_,I.lnew (t':=s.toks) (r.append j) (by rw[Jv];lia),Z,q _ I.fresh]
inductive NN (x:V) (y:V) (H:Hp) (Q:VK):Prop
 |mk (l:_) (k:_) (xs:_) (h1:x= .ref l) (h2:y= .int k) (h3:H l=↑(.lst xs)) (h4: -(2 ^ 63)<=k) (h5:k<2 ^ 63) (h6:xs.length*k.toNat<=ζ) (h7:∀p,H p=none->Q (.ref p) (GW H p (.lst (List.replicate k.toNat xs).flatten)))
def EB:R2:=λx y H Q=>NN x y H Q
theorem AX{a:Type}(xs:List a)(k:Nat):(List.replicate k xs).flatten.length=k*xs.length:=by
 induction k with
 |zero=>simp
 |succ k ih=>rw[FU,Gi,Jv,ih,Nat.succ_mul,Nat.add_comm]
theorem tK:zt X (binaryOp .Mult) EB:=by
 intro Oa s σ H x y v u Q I C G h;obtain⟨l,k,xs,rfl,rfl,D,h1,B,w,q⟩:=h;cases C;obtain⟨t,rfl⟩:=G;obtain⟨z,c,n,r,E,e⟩:=I.lstM D;have i:c.toArray.size*k.toNat<=ζ:=by rw[Jr,<- E];exact w
 have f:¬c.toArray.size*k.toNat>(2 ^ 63-1)/8:=by
  have:(ζ:Nat)<=(2 ^ 63-1)/8:=by decide
  lia
 have j:¬(!γ.List.listFitsIndex k)=true:=by
  rw[fitsIndex_both h1 B];exact JJ
 have d:¬γ.List.listTooLong (c.toArray.size*k.toNat)=true:=by
  rw[vO i];exact JJ
 have g:List.foldl (λp o=>p++o) (List.toArray []) (List.replicate (if c.toArray.isEmpty=true then 0 else k.toNat) c.toArray)=(List.replicate k.toNat c).flatten.toArray:=by
  have A:∀m:Nat,List.foldl (λp o=>p++o) (List.toArray []) (List.replicate m c.toArray)=(List.replicate m c).flatten.toArray:=λm=>by
   have:=iS c m []
   rw[List.nil_append]at this;exact this
  rw[A];cases c with
  |nil=>simp
  |cons a r'=>rw[Jb (by simp)]
 refine wpAny_binaryOp_repeat_ref (T:="list") (U:="int") ⋯ #[_,e,Z] (λs'=>typeIs_int s' k t) noFill_list_mul F.fills_int_mul F.slot_int_rmul repeat_list F.slot_int_index.lookup
  (FG F.slot_int_rmul (typeIs_int s k t) F.entry_int_rmul (F.args_int_rmul_2 _ _) (int___rmul___int_list k t l c.toArray n)
   #[e,Z,#[_,e,Z],FG F.slot_list_mul #[_,e,Z] F.entry_list_mul (F.args_list_mul_2 _ _) (AutoListH.list___mul___list_int_3 l c.toArray n k t j f d) #[e,?_]])
 rw[g]
 exact#[.ref _,_,I.lnew (t':=s.toks) (r.rep k.toNat) (by rw[AX,Nat.mul_comm];exact w),Z,q _ I.fresh]
end
end L2
namespace Att
open PySem PySem.W PySem.Calls PyProof.Rows
theorem gU{P:Params}{h:Ψ}:∀(ns:Β) (vs:Ζ),WellAll P h vs (ns.map WData.int)->IntsAre vs ns:=by
 intro ns
 induction ns with
 |nil=>
  intro vs w;rw[FS]at w;cases w;exact .nil
 |cons n ns ih=>
  intro vs w;rw[JS]at w;cases w with
  |cons a b=>
   cases a;exact .cons _ _ (ih _ b)
theorem vJ{l:OpenLaw}{n:Nat}(hn:l.most=↑n){P:Params}{h:Ψ}{args:List WData}{f:Ζ}
  (e:l.row.toRowW.claim.pre args=true)(m:WellAll P h f args):
  ∃a vs c,f=[Γ.ref a]/\args=[WData.list (c.map WData.int)]/\h.get? a=some {cls:= .type "list",data:= .seq vs.toArray}/\IntsAre vs c/\c.length<=n:=by
 have o:WShape.hasAll [] args [.list .int]=true:=(pre_splitW e).1
 have p:l.pre.holds [] {args:=args}=true:=(pre_splitW e).2
 obtain⟨d,r,rfl,h1,u⟩:=hasAllW_cons o
 obtain rfl:=hasAllW_nil u
 obtain⟨xs,rfl,s⟩:=hasW_list h1;obtain⟨c,rfl⟩:=items_int s;have g:c.length<=n:=by
  unfold OpenLaw.pre at p;have i:(WTm.not (.lt (.lit (.int (n:Int))) (.len (.arg 0)))).holds [] {args:=[.list (c.map .int)]}=true:=by
   have i:=(holds_andW p).1;rw[hn]at i;exact i
  have j:=condW_of i (w_not (w_lt w_lit (w_len_list (w_arg Z))));rw[Je]at j;refine F7 λq=>?_
  have t:(n:Int)<((c.length:Nat):Int):=by lia
  first
   |(rw[Ji t]at j;exact absurd j ⋯)
   |(simp at j;lia)
 cases m with
 |cons w1 w2=>
  cases w2;cases w1 with
  |list ho hall=>exact#[_,_,c,Z,Z,ho,gU c _ hall,g]
theorem vq(l:OpenLaw)(args:List WData):l.row.toRowW.claim.post args (.bool true) args=true:=
 postW_of (r:=l.row.toRowW) (X:=(true==true))
  (show WShape.has [] (.bool true) .bool=true by first|rfl|decide|simp [WShape.has,WShape.arms,WShape.armsAll])
  (show(WTm.eq .res (.lit (.bool true))).value [] {args:=args,res:=↑(.bool true),after:=args}=↑(.bool (true==true))from w_eq_bool (w_res Z) w_lit) Z
theorem attach_call{l:OpenLaw}{n:Nat}{q:Ξ}{g:Α}{C:(Str->Ν)->Ψ->Prop}{A:Ω->Ψ->Prop}{d:DefRec}
  (hn:l.most=↑n)(t:d.params.defaults=[])
  (call:∀(w:Ω) (e c:Θ) (mg v:GQ) (m:Δ) (o:Obj) (pm cd doc:Γ) (a:Δ) (vs:Ζ) (ns:Β),
   Ground q g [] C w e mg v c.heap->A w c.heap->
   c.heap.get? m=↑o->o.data= .func (docDef d.name d.params d.body d.scope pm cd doc)->c.heap.CodeRec cd d.name->mg d.name=↑(.ref m)->
   c.heap.get? a=some {cls:= .type "list",data:= .seq vs.toArray}->IntsAre vs ns->ns.length<=n->c.gens= (List.toArray [])->
   codeAny (model l.prog w) callerA (.call (.ref m) #[[.ref a],[]]) (λr s'=>r= .ok (.ret (.bool true))/\OldK c.heap s'.heap/\s'.os=c.os/\AllBare s'.gens) c):
  WalkO q g C A l.row.toRowW d [] (λf vs=>PySem.call f vs):=by
 intro w e c mg v G Y m o pm cd doc O kV H J x D u P y z Q i B M s E
 obtain rfl:O= .none:=Dflts.none D t
 obtain rfl:kV= .none:=Dflts.noKw D
 obtain⟨a,vs,ns,rfl,rfl,j,h,p⟩:=vJ hn i s;refine enter_call (FE (call w e c mg v m o pm cd doc a vs ns G Y H (fd_plain J) x u j h p P) λr s' L=>?_)
 obtain⟨rfl,F,N,K⟩:=L
 exact#[.inl #[.bool true,.bool true,[],Z,λ_=>rfl,.bool true,vq l _,λ_=>#[List.Pairwise.nil,λ_ I=>(nomatch I)]],F,N,K]
end Att
namespace L2
open PySem PySem.Spec PyProof.Rows
theorem ef:∀{vs:Ζ} {ns:Β},IntsAre vs ns->GZ (ns.map V.int) vs
 |_,_,.nil=> .nil
 |_,_,.cons n t h=> .cons #[t,Z] (ef h)
def wg(H:Hp):Prop:=∀b,H b=none\/∃o xs,H b=↑(.frz o (.lst xs))
theorem wW{P:Ξ}{w:Ω}{K:ι}{mg I:GQ}{CX:cV}{k:Nat}{L a:Δ}{fd:FuncData}{x:Str}{sp:Sp}{c:Θ}{vs:Ζ}{ns:Β}
  (T:K.In c.heap)(B:c.heap.Ns η mg)(hb:c.heap.Ns builtinsNs I)(J:∀x:Str,x≠"__name__"->I x=bootBuiltins x)(l:c.heap.NoLimit)(hg:c.gens= (List.toArray []))
  (ha:c.heap.get? a=some {cls:= .type "list",data:= .seq vs.toArray})(hi:IntsAre vs ns)(hl:ns.length<=ζ)(hr:HB k callerA)
  (F:∀base:Ψ,K.In base->base.Ns η mg->IP P w K mg base CX k L fd [x] sp)(j:∀(s:Θ) (u:Γ),BindsTo s fd #[[u],[]] [(x,u)])
  (M:∀H:Hp,wg H->G0 K H a (ns.map V.int)->sp [.ref a] H (λv _=>v= .bl true) λ_ _ _=>False)
  (E:∀H e s',CX [] H c (λ_ _ _=>False) e s'->False):
  codeAny (model P w) callerA (.call (.ref L) #[[.ref a],[]]) (λr s'=>r= .ok (.ret (.bool true))/\OldK c.heap s'.heap/\s'.os=c.os/\AllBare s'.gens) c:=by
 have R:=ef hi;have C:=hi.length;have i:∀H:Hp,wg H->G0 K H a (ns.map V.int)->IZ P w H c.heap->(∀b,H b≠none->b=a)->(H a≠none->K.lookup a=none)->
   codeAny (model P w) callerA (.call (.ref L) #[[.ref a],[]]) (λr s'=>r= .ok (.ret (.bool true))/\OldK c.heap s'.heap/\s'.os=c.os/\AllBare s'.gens) c:=by
  intro H Q U p S W;have f:∀{b:Δ} {o:Obj},c.heap.get? b=↑o->H b=none->(bW c.heap H).get? b=↑o:=λe n=>xv e n
  have G:∀{b:Δ} {o:Obj} {es:Array DictEntry} {ep:Nat},c.heap.get? b=↑o->o.data= .dict es ep->H b=none:=λ{b o es ep} e d=>by
   cases q:H b with
   |none=>rfl
   |some u=>
    have N:b=a:=S b (by rw[q];simp)
    subst N;rw[ha]at e;cases e
    have d':Data.seq vs.toArray _=Data.dict es ep:=d
    cases d'
  have g:∀{b:Δ} {m:GQ},c.heap.Ns b m->(bW c.heap H).Ns b m:=λ{b m} ⟨o,es,ep,e,d,r⟩=>#[o,es,ep,f e (G e d),d,r]
  have D:K.In (bW c.heap H):=λb o e=>f (T b o e) (by
   cases q:H b with
   |none=>rfl
   |some u=>
    have N:b=a:=S b (by rw[q];simp)
    subst N;rw[W (by rw[q];simp)]at e;cases e)
  have hM:N0 K mg (bW c.heap H):=#[D,g B,#[I,g hb,J],let⟨mc,h1,h2⟩:=l;#[mc,g h1,h2]]
  have e0:LD P w K mg (bW c.heap H) callerA [] c H:=#[Z,hM,λb o e=>AS e,Nat.le_of_eq (ua _ _),trivial,λb hb=>absurd (show b∈([]:Η)from hb) (by simp),p,.of_eq hg]
  refine FE ((F _ D (g B)).run callerA [] c H #[[.ref a],[]] [.ref a] [.ref a] _ _ hr e0 (j c (.ref a)) (.cons Z .nil) (M H Q U)) λr s' h=>?_
  cases r with
  |error e=>exact(E H e s' h).elim
  |ok fl=>
   cases fl with
   |next=>exact False.elim h
   |brk=>exact False.elim h
   |cont=>exact False.elim h
   |ret u=>
    obtain⟨v,H',os,t,un,A,X,q⟩:=h;have Y:v= .bl true:=q
    subst Y
    obtain rfl:u=Γ.bool true:=X
    refine#[Z,OldK.of_keep λb o e=>?_,os,t]
    cases q:H b with
    |none=>exact un.keep b o e q (by intro z;exact absurd (show b∈([]:Η)from z) (by simp)) (by simp)
    |some u=>
     rcases Q b with z|⟨ob,xs,z⟩
     ·rw[q]at z;cases z
     ·have z2:=un.frzs b ob _ z
      obtain⟨O,_⟩:=p b _ z;obtain⟨e2,_⟩:=A b _ z2;rw[e]at O;cases O
      exact e2
 cases hk:K.lookup a with
 |some o=>
  have e:=T a o hk;rw[ha]at e;cases e;refine i (λ_=>none) (λ_=> .inl Z) (.inr #[_,vs.toArray,_,hk,Z,Z,Z,by rw[Jr,C];exact hl,by simpa using R]) (λb u z=>by have y:(none:Option HO)=↑u:=z;cases y) (λb z=>absurd Z z) λz=>absurd Z z
 |none=>
  refine i (λb=>if b=a then ↑(.frz {cls:= .type "list",data:= .seq vs.toArray} (.lst (ns.map V.int)))else none) (λb=>?_) (.inl (.inr #[{cls:= .type "list",data:= .seq vs.toArray},Jc Z])) (λb u z=>?_) (λb z=>?_) λ_=>hk
  ·by_cases hb:b=a
   ·exact .inr #[_,_,Jc hb]
   ·exact .inl (Jb hb)
  ·by_cases hb:b=a
   ·have y:=(Jc hb).symm.trans z
    cases y;subst hb
    exact#[ha,by rw[Je];exact hl,vs,_,R,ha]
   ·have y:=(Jb hb).symm.trans z
    cases y
  ·by_cases hb:b=a
   ·exact hb
   ·exact absurd (Jb hb) z
theorem AB{l:W.OpenLaw}{n k:Nat}{q:Ξ}{i:Α}{O:(Str->Ν)->Ψ->Prop}{C:Ω->Ψ->Prop}{d:DefRec}{K:Params->ι}{CX:Ω->cV}{sp:Ω->Sp}{x:Str}
  (hn:l.most=↑n)(A:n<=ζ)(t:d.params.defaults=[])(hr:HB k callerA)
  (I:∀(w:Ω) (h:Ψ),C w h->(K w.params).In h)
  (F:∀(w:Ω) (mg:GQ) (p:Δ) (h:Ψ),(K w.params).In h->h.Ns η mg->mg d.name=↑(.ref p)->
   ∃fd:FuncData,(∀(s:Θ) (u:Γ),BindsTo s fd #[[u],[]] [(x,u)])/\
    ∀base:Ψ,(K w.params).In base->base.Ns η mg->IP l.prog w (K w.params) mg base (CX w) k p fd [x] (sp w))
  (z:∀(w:Ω) (H:Hp) (a:Δ) (ns:Β),ns.length<=n->wg H->G0 (K w.params) H a (ns.map V.int)->sp w [.ref a] H (λv _=>v= .bl true) λ_ _ _=>False)
  (r:∀(w:Ω) (H:Hp) (s:Θ) (e:Γ) (s':Θ),CX w [] H s (λ_ _ _=>False) e s'->False):
  W.WalkO q i O C l.row.toRowW d [] (λf vs=>PySem.call f vs):=by
 refine Att.attach_call hn t λw B m mg S p o pm cd doc a vs ns G Y Q R M y j g c P=>?_
 have D:=I w _ Y;obtain⟨fd,N,J⟩:=F w mg p _ D G.T.g y;exact wW D G.T.g G.T.b G.T.builtins G.T.nolimit P j g (JG c A) hr J N (λH L E=>z w H a ns c L E) λH e s'=>r w H m e s'
def zB(s:δ)(j:Nat):δ:=match s with
 | .ClassDef _ _ _ body _ _ _ _ _ _ _=>body.getD j (.Pass #[0,0,0,0])
 |_=> .Pass #[0,0,0,0]
def Qp(s:δ):Arguments:=match s with
 | .FunctionDef _ a _ _ _ _ _ _ _ _=>a
 |_=>{posonlyargs:=[],args:=[],vararg:=none,kwonlyargs:=[],kw_defaults:=[],kwarg:=none,defaults:=[]}
def zF(s:δ):List δ:=match s with
 | .FunctionDef _ _ b _ _ _ _ _ _ _=>b
 |_=>[]
def qi(s:δ):Scope:=match s with
 | .FunctionDef _ _ _ _ _ _ sc _ _ _=>sc
 |_=>{kind:= .function,names:=[],isGenerator:=false,isCoroutine:=false}
abbrev aJ:cV:=λ_ _ _ _ _ _=>False
abbrev E0:XK:=λ_ _ _=>False
theorem j4{X:Cx}:eB aJ X E0:=λ_ _ _ _ _ _ _ h=>h.elim
structure LX(K:ι)(x Ob:Str)(st:δ)(f:Δ)(fd:FuncData):Prop where
 ex:∃(oc:Γ) (od:μ) (kV doc pm:Γ) (an:μ) (cdv ct:Γ) (osl:Array Ν),
  fd=PySem.W.fnOf x Ob (Qp st) (zF st) (qi st) .none kV doc pm an cdv ct/\K.lookup f=some #[oc,od,.func fd,osl]/\PySem.W.codeIn K cdv Ob=true
 kp:PySem.W.keepIn K (.ref f)=true
section
variable{P:Ξ}{w:Ω}{K:ι}{mg:GQ}{base:Ψ}
theorem LX.ok{x Ob:Str}{st:δ}{f:Δ}{fd:FuncData}{N ps:Α}{k:Nat}{sp:Sp}(F:LX K x Ob st f fd)(S:GU N ps (qi st))(len:∀vs H Q E,sp vs H Q E->vs.length=ps.length)
  (c:∀(cdv:Γ) (A:Around) (a:Τ) (s:Θ) (H:Hp) (vs:Ε) (Q:VK) (E:XK),HB k (A.deeper (envOfC Ob (qi st) s.heap.objs.size f cdv))->sp vs H Q E->
   ∃t,LB (bt aJ P w K mg base N Ob (qi st) f cdv A a s H E).nox (zF st) t/\t {nx:=λ_ H'=>Q .non H',rt:=Q} (Q4 N vs) H):IP P w K mg base aJ (k+1) f fd ps sp:=by
 obtain⟨oc,od,kV,doc,pm,an,cdv,ct,osl,rfl,i,d⟩:=F.ex;refine DR i d S len λA a s H vs Q E g e=>?_
 obtain⟨t,h,q⟩:=c cdv A a s H vs Q E g e
 exact#[t,h.nox,q]
theorem LX.binds{x Ob:Str}{st:δ}{f:Δ}{fd:FuncData}{ps:Α}(F:LX K x Ob st f fd)
  (h:∀(kV doc pm:Γ) (an:μ) (cdv ct:Γ) (us:Ζ),us.length=ps.length->bindArgs (W.fnOf x Ob (Qp st) (zF st) (qi st) .none kV doc pm an cdv ct) #[us,[]]=pure (ps.zip us)):Iw K fd ps []:=by
 obtain⟨oc,od,kV,doc,pm,an,cdv,ct,osl,rfl,c,a⟩:=F.ex;exact .all (h kV doc pm an cdv ct)
theorem mz{x Ob:Str}{st:δ}{f:Δ}{oc:Γ}{od an:μ}{osl:Array Ν}{kV doc pm cdv ct:Γ}(l:K.lookup f=some #[oc,od,.func (W.fnOf x Ob (Qp st) (zF st) (qi st) .none kV doc pm an cdv ct),osl])
  (c:W.codeIn K cdv Ob=true)(k:W.keepIn K (.ref f)=true):LX K x Ob st f (W.fnOf x Ob (Qp st) (zF st) (qi st) .none kV doc pm an cdv ct):=#[#[oc,od,kV,doc,pm,an,cdv,ct,osl,Z,l,c],k]
end
theorem zw{A B:Prop}(h:B):if false=true then A else B:=by
 rw[Jb JJ];exact h
theorem zx{A B:Prop}(h:A):if true=true then A else B:=by
 rw[Jc Z];exact h
theorem qW{c A B:Prop} [Decidable c](h1:c->A)(h2:¬c->B):if c then A else B:=by
 by_cases h:c
 ·rw[Jc h]
  exact h1 h
 ·rw[Jb h]
  exact h2 h
theorem rB{c A B:Prop} [Decidable c](hc:c)(h:B):if(! decide c)=true then A else B:=by
 rw[Ji hc];exact zw h
def GS(H H':Hp):Prop:=∀b o,H b=↑o->H' b=↑o
theorem GS.refl(H:Hp):GS H H:=λ_ _ h=>h
theorem GS.trans{H H1 d:Hp}(a:GS H H1)(b:GS H1 d):GS H d:=λc o h=>b c o (a c o h)
theorem GS.seq{K:ι}{H H':Hp}{a:Δ}{xs:Ε}(e:GS H H')(h:G0 K H a xs):G0 K H' a xs:=by
 rcases h with(h|⟨o,h⟩)|h
 ·exact .inl (.inl (e _ _ h))
 ·exact .inl (.inr #[o,e _ _ h])
 ·exact .inr h
end L2
namespace L3
open PySem PySem.Spec PyProof.Rows L2
def zb(X:Cx)(N:Α)(a:Scope)(c:List (Str×Δ))(C:Δ)(s:Θ)(H:Hp)(fp:Η):Cx:=
 {X with N:=N,s₀:=s,H₀:=H,env:=compEnvC a c C X.env,outer:=X.stack,ex:=fp,fn:=λ_=>false,pn:=[],xe:=λ_ _=>False}
structure HP(X:Cx)(scope:Scope)(fr:Α)(js:Κ):Prop where
 kind:scope.kind= .function
 names:∀x∈scope.names,x.2= .local->scope.names.lookup x.1=some .local
 nocell:∀x∈scope.names,x.2≠ .cell
 free:∀x∈scope.names,x.2= .free->x.1∈fr
 len:js.length=fr.length
 at_:∀(i j:Nat) (y:Str),js[i]? =↑j->fr[i]? =↑y->X.N[j]? =↑y/\X.env.kindOf y=some .cell/\(relabel scope X.env).names.lookup y=some .cell
theorem zL{f:Type}{y:Str}:∀{l:List (Str×f)},y∈l.map (·.1)->∃c,l.lookup y=↑c
 | [],h=>by simp at h
 |(n,a)::r,h=>by
  cases e:y==n with
  |true=>exact#[a,by simp [J7,e]]
  |false=>
   have g:y∈r.map (·.1):=by
    rcases Jm.mp h with z|z
    ·exact absurd z (by simpa using e)
    ·exact z
   obtain⟨c,d⟩:=zL g
   exact#[c,by simp [J7,e,d]]
def σ0(k:Nat)(js:Κ)(σ:L2.St):L2.St:=List.replicate k none++js.map λj=>(σ[j]?).join
def sS(k:Nat)(js:Κ)(g:TG)(te:TE)(σ:L2.St)(Q:VK)(J:It)(H1:Hp):Prop:=∃W:Nat->Nat->Ε->L2.St->Hp->Prop,(∃m,W 0 m [] (σ0 k js σ) H1)/\∀i m ys e H,W i m ys e H->
 (J.stop i H/\∀p,H p=none->Q (.ref p) (GW H p (.lst ys)))\/(J.go i H/\ys.length<ζ/\∀x H',J.yld i H x H'->g x e H' λa f=>∃N:V->Hp->Prop,(∀v d,N v d->∃c,c<m/\W (i+1) c (ys++[v]) a d)/\te a f N)
def aR(k:Nat)(js:Κ)(a:TI)(g:TG)(te:TE):TE:=λσ H Q=>a σ H (sS k js g te σ Q)
section
variable{prog:Ξ}{w:Ω}{A:Around}{R:Result->Θ->Prop}{s:Θ}
theorem cR{p a o:Φ}{d:Scope}{pos:Pos}{it q:Γ}{c:Env}(I:Nat->Θ->Prop)
  (B:∀n s,I n s->ε (model prog w) A (pyNext it) (λr f=>match r with
   |none=>R (.ok .next) f
   | some v=>ε (model prog w) A (letOwnedTupleGo a it v) (λ_ e=>ε (model prog w) A (assign a c v) (λ_ l=>ε (model prog w) A (eval p c) (λx g=>
     ε (model prog w) A (call (.builtin "list.append") [q,x]) (λ_ i=>∃m,m<n/\I m i) (λ_ _=>False) g)
     (λ_ _=>False) l) (λ_ _=>False) e) (λ_ _=>False) f) (λ_ _=>False) s)
  (n:Nat)(h:I n s):
  codeAny (model prog w) A (.compLoop (.ListComp p [#[a,o,[],0]] d pos) 0 it q c) R s:=by
 refine codeAny_loop Z I (λn s C=>?_) n h
 show ε _ _ ((compTurn (.ListComp p [#[a,o,[],0]] d pos) 0 it q c).onRaise (λx=>do noteFrame x c;theTreesLotGoes x)) _ _ s
 refine wpAny_noted ?_
 rw[compTurn_list1];refine Ja (E1 (Ja (Jw (B n s C) (λr f j=>?_) λ_ _ h'=>h'.elim)))
 cases r with
 |none=>exact Jd j
 |some v=>
  refine Ja (Jw j (λ_ e t=>?_) λ_ _ h'=>h'.elim)
  exact Ja (Jw t (λ_ l y=>Ja (Ja (Jw y (λx g z=>Ja (Jw z
   (λ_ i u=>Jd (Jd #[Z,u])) λ_ _ h'=>h'.elim)) λ_ _ h'=>h'.elim))) λ_ _ h'=>h'.elim)
end
variable{X:Cx}
structure Mm(X:Cx)(Oa:GR)(H:Hp)(C:Δ):Prop where
 free:H C=none
 loc:C≠X.env.locals
 new:X.s₀.heap.objs.size<=C
 cell:∀x c,X.env.cells.lookup x=↑c->c≠C
 pin:∀p∈X.pn++Oa,p.1≠C
theorem ga{a:Scope}{E:List (Str×Δ)}{fr own:Α}{js:Κ}{Oa:GR}{d:Θ}{σ:L2.St}{K:Hp}{tg:Φ}{J:It}{fp:Η}{it:Δ}{tn:Nat->Ψ->Prop}{A:Ψ}{g:Nat}{m:GQ}
  (r:∀y c,E.lookup y=↑c->X.env.cells.lookup y=↑c)(U:E.map (·.1)=fr)(S:HP X a fr js)(f:L2.GX X Oa σ K d)(T:Lh X.prog X.w X.K tg J fp it tn)(a2:tn 0 d.heap)(Q:∀b∈fp,Qq X Oa K b)
  (hC:g=d.heap.objs.size+1)(H:∀b o,d.heap.get? b=↑o->A.get? b=↑o)(F:A.Ns g m):
  (∀b∈fp,b<d.heap.objs.size)/\L2.GX (zb X (own++fr) a E g d K fp) [] (σ0 own.length js σ) K {d with heap:=A,toks:=d.toks+([]:List (Str×Γ)).length}/\d.heap.objs.size∉ar X.stack/\(∀x c,E.lookup x=↑c->c≠d.heap.objs.size)/\
  ∀{H':Hp} {pl:GR},(∀b∈fp,H' b=none)->(∀p∈pl,p.1=d.heap.objs.size)->∀b∈fp,Qq (zb X (own++fr) a E g d K fp) pl H' b:=by
 have t:∀b,b<d.heap.objs.size->b≠g/\b≠d.heap.objs.size:=λb h=>#[by rw[hC];exact Jk (EY h),Jk h]
 let Y:Cx:=zb X (own++fr) a E g d K fp
 have w:∀b∈fp,b<d.heap.objs.size:=λb h=>by obtain⟨o,e,_⟩:=T.obj _ _ a2 b h;exact Jj e
 have R:(zb X (own++fr) a E g d K fp).Ok:=by
  refine#[f.ok.mod,S.kind,f.ok.glob,f.ok.blt,by show d.heap.objs.size<=g;lia,?_,?_,?_,f.ok.hd,f.ok.frames,.inl Z,?_,f.bs,JG f.ok.bsz f.sz,?_,?_,f.stack,f.stkFree]
  ·exactλx y c e1 e2=>f.ok.inj x y c (r x c e1) (r y c e2)
  ·intro x hx
   have a7:(relabel a X.env).names.lookup x=some .cell\/(relabel a X.env).names.lookup x=some .free:=hx
   have hm:∃k,(x,k)∈a.names/\k= .free:=by
    have W:∀kk:NameKind,(kk= .cell\/kk= .free)->(relabel a X.env).names.lookup x=↑kk->∃k,(x,k)∈a.names/\k= .free:=by
     intro kk hk el;obtain⟨⟨n,k⟩,s,e⟩:=Jt.mp (FA el)
     dsimp only at e
     split at e
     ·rename_i D
      cases e;refine#[k,s,?_]
      simp only[JC,JW]at D;exact D.1.1
     ·cases e
      rcases hk with z|z
      ·subst z;exact absurd Z (S.nocell _ s)
      ·exact#[_,s,z]
    rcases a7 with z|z
    ·exact W _ (.inl Z) z
    ·exact W _ (.inr Z) z
   obtain⟨k,s,hk⟩:=hm;exact zL (l:=E) (by rw[U];exact S.free _ s hk)
  ·exactλx c e _=>nomatch e
  ·refineλb h=>#[?_,λx c e=>(Q b h).2.2.2.2.1 x c (r x c e)]
   show b≠g
   exact(t b (w b h)).1
  ·intro b o e h
   rcases(Q b h).2.2.2.1 with z|z
   ·exact f.ok.noex b o e z
   ·exact absurd (JO (Jj e) (JG f.ok.bsz z)) (EU _)
  ·intro b h hf
   rcases Jm.mp (f.stkSub b hf)with z|z
   ·exact(Q b h).2.1 z
   ·exact(Q b h).2.2.1 z
 have N:(σ0 own.length js σ).length=(own++fr).length:=by unfold σ0;simp [S.len]
 have IY:GX Y [] (σ0 own.length js σ) K {d with heap:=A,toks:=d.toks+([]:List (Str×Γ)).length}:=by
  refine#[R,Z,f.bare,Un.kept H,#[_,F,?_],?_,?_,?_,λp hp=>absurd (show p∈([]:GR)from hp) (by simp),f.hok.kept H,N]
  ·intro i x v hN I _
   have O:(own++fr)[i]? =↑x:=hN
   unfold σ0 at I
   by_cases M:i<own.length
   ·rw[JT (by simpa using M),List.getElem?_replicate]at I
    split at I<;>cases I
   ·rw[JY (by simpa using F7 M),Gw,Jn]at I
    rw[JY (F7 M)]at O;cases ej:js[i-own.length]? with
    |none=>rw[ej]at I;cases I
    |some j=>
     rw[ej]at I;have a5:σ[j]? =↑(↑v):=by
      have G:(σ[j]?).join=↑v:=JA I
      cases q:σ[j]? with
      |none=>rw[q]at G;cases G
      |some o=>rw[q]at G;have:o=↑v:=G;rw[this]
     obtain⟨a4,hk,a3⟩:=S.at_ _ j x ej O;obtain⟨m,hn,hl⟩:=f.loc;obtain⟨u,ru,lk⟩:=hl j x v a4 a5 (.inr (.inl hk))
     refine#[u,ru,.inr ?_]
     rcases lk with⟨k1,_⟩|⟨_,c,ec,ic⟩
     ·rw[hk]at k1;cases k1
     ·obtain⟨c',a0⟩:=zL (y:=x) (l:=E) (by rw[U];exact JP O)
      have:c'=c:=by have:=r x c' a0;rw[ec]at this;exact(JA this).symm
      subst this;refine#[?_,c',a0,?_]
      ·show(relabel a X.env).names.lookup x=some .cell\/(relabel a X.env).names.lookup x=some .free
       exact .inl a3
      ·obtain⟨oc,B,hd⟩:=ic
       exact#[oc,H _ _ B,hd]
  ·intro x c e
   obtain⟨v,oc,B,hd⟩:=f.cell x c (r x c e)
   exact#[v,oc,H _ _ B,hd]
  ·exact f.hok.fresh (by show d.heap.objs.size<=g;lia)
  ·exactλx c e=>f.freeC x c (r x c e)
 have L:d.heap.objs.size∉ar X.stack:=λhf=>by
  rcases Jm.mp (f.stkSub _ hf)with z|z
  ·exact absurd (by rw[<- z];exact Jf _:d.heap.objs.size<=X.env.locals) (Nat.not_le.mpr f.lt)
  ·exact f.nofs (Jf _) z
 have C:∀x c,E.lookup x=↑c->c≠d.heap.objs.size:=λx c e z=>by
  obtain⟨v,oc,B,_⟩:=f.cell x c (r x c e)
  exact absurd (Jj B) (by rw[z];exact EU _)
 have a1:∀{H':Hp} {pl:GR},(∀b∈fp,H' b=none)->(∀p∈pl,p.1=d.heap.objs.size)->∀b∈fp,Qq Y pl H' b:=λ{H' pl} hn hp b h=>
  #[hn b h,(t b (w b h)).1,R.exfs b h,.inl h,λx c e=>(Q b h).2.2.2.2.1 x c (r x c e),λp a6=>by
   have P:p∈pl:=by simpa [Y,zb]using a6
   rw[hp p P];exact Ne.symm (t b (w b h)).2]
 exact#[w,IY,L,C,a1]
theorem b9{N:Α}{j:Scope}{I:List (Str×Δ)}{Oa pl:GR}{d y:Θ}{σ G:L2.St}{A m:Hp}{fp:Η}{g:Nat}{ob:HO}(r:L2.GX X Oa σ A d)(w:∀b∈fp,Qq X Oa A b)(F:g=d.heap.objs.size+1)
  (s:L2.GX (zb X N j I g d A fp) pl G m y)(a:m d.heap.objs.size=none)(E:Hv X.prog X.w (GW m d.heap.objs.size ob) y.heap d.heap.objs.size ob):L2.GX X Oa σ (GW m d.heap.objs.size ob) y/\Mm X Oa (GW m d.heap.objs.size ob) g:=by
 have l:∀b,b<d.heap.objs.size->b≠g/\b≠d.heap.objs.size:=λb f=>#[by rw[F];exact Jk (EY f),Jk f]
 have C:d.heap.objs.size≠g:=by lia
 have B:=s.base;have J:m g=none:=s.free
 refine#[?_,?_]
 ·refine r.call' (s':=y) (ch:=fp) s.os #[B.keep,B.slot,λb o e n K=>?_,B.there,λb xs e=>?_,λb o u e=>?_,λb ps e=>?_] ?_ s.bare ?_
  ·rw[qm (l b (Jj e)).2];exact B.free b o e n K
  ·have i:=B.tups b xs e
   rw[qm (qo i a)];exact i
  ·have i:=B.frzs b o u e
   rw[qm (qo i a)];exact i
  ·obtain⟨t,i⟩:=B.tbls b ps e
   exact#[t,by rw[qm (qo i a)];exact i]
  ·intro b u e
   by_cases f:b=d.heap.objs.size
   ·subst f
    rw[qc]at e;cases e
    exact E
   ·rw[qm f]at e
    exact(s.hok b u e).stay (λc v _ q=>q) (λc q=>by rw[qm (qo q a)];exact q) λc xs q=>by rw[qm (qo q a)];exact q
  ·exactλb f=>#[(w b f).2.2.2.1,(w b f).2.1,(w b f).2.2.2.2.1,(w b f).2.2.2.2.2]
 ·have h:d.heap.objs.size<=g:=by lia
  refine#[by rw[qm (Ne.symm C)];exact J,?_,JG r.sz h,λx c e z=>?_,λp H z=>?_]
  ·exact EV (JO r.lt h)
  ·obtain⟨v,oc,D,_⟩:=r.cell x c e
   exact absurd (JO (Jj D) h) (by rw[z];exact EU _)
  ·exact absurd (JO (Jj (r.pin p H).1) h) (by rw[z];exact EU _)
theorem kY{a6 tg t:Φ}{a:Scope}{cl:List (Str×Δ)}{pos b7:Pos}{fr own:Α}{js:Κ}{wi:TI}{g:TG}{te:TE}{use:Option (Γ->Sem Unit)}{Post:GP}
  {Oa:GR}{s:Θ}{σ:L2.St}{H:Hp}{Q:VK}
  (hc:X.calm=true)(hi:PI X tg t wi)(a3:closureFor a X.env=pure cl)(c3:∀y c,cl.lookup y=↑c->X.env.cells.lookup y=↑c)(d3:cl.map (·.1)=fr)
  (S:HP X a fr js)
  (hg:∀C s H fp,PG (zb X (own++fr) a cl C s H fp) tg g)(he:∀C s H fp,PE (zb X (own++fr) a cl C s H fp) a6 te)
  (hs:∀x,foldedSetIterable t X.env x=pure x)
  (I:L2.GX X Oa σ H s)(h:aR own.length js wi g te σ H Q)
  (b8:∀(b0 C:Δ) (s5:Θ) (H':Hp) (m:GQ),L2.GX X Oa σ H' s5->s5.heap.Ns C m->Mm X Oa H' C->Q (.ref b0) H'->compPost (model X.prog X.w) X.A X.xe use Post (.ref b0) C (.ok .next) s5):
  ε (model X.prog X.w) X.A (comprehension (.ListComp a6 [#[tg,t,[],0]] a pos) a X.env b7 (newList []) false (eval t X.env) use) Post X.xe s:=by
 refine wpAny_comprehension_free (use:=use) Z hs a3 S.kind S.names (qz (hi Oa s σ H _ I h) λv s1 h1=>qz h1 λd5 j h2=>?_)
 obtain⟨it,fp,tn,J,H2,e,I2,T,b5,f2,W,⟨m0,w0⟩,b6⟩:=h2;subst e;refine J3 (wpAny_newFunctionEnv S.nocell (by intro y hy;simp at hy) (λA l d=>?_) S.kind)
 dsimp only at l d⊢
 generalize hH2:j.heap.push {cls:= .type "list",dict:=none,data:= .seq ([]:Ζ).toArray}=G at l d⊢
 have hC:G.objs.size=j.heap.objs.size+1:=by rw[<- hH2,JX]
 have O:j.heap.objs.size≠G.objs.size:=by rw[hC];exact Jk (E2 _)
 have E:∀b,b<j.heap.objs.size->b≠G.objs.size/\b≠j.heap.objs.size:=λb w=>#[by rw[hC];exact Jk (EY w),Jk w]
 have c0:∀b o,j.heap.get? b=↑o->A.get? b=↑o:=λb o e=>d.extBut b o (E b (Jj e)).1 (Jl _ (hH2▸Jl _ e))
 have a0:A.get? j.heap.objs.size=some {cls:= .type "list",data:= .seq ([]:Ζ).toArray 0}:=d.extBut _ _ O (Jl _ (hH2▸Jq _ Z))
 let Y:Cx:=zb X (own++fr) a cl G.objs.size j H2 fp
 obtain⟨b1,IY,F,D,a2⟩:=ga (own:=own) (js:=js) c3 d3 S I2 T b5 f2 hC c0 l
 have R:∀q:Θ,GX Y [] (σ0 own.length js σ) H2 q->tn 0 q.heap->q.heap.get? j.heap.objs.size=some {cls:= .type "list",data:= .seq ([]:Ζ).toArray 0}->
   codeAny (model X.prog X.w) X.A (.compLoop (.ListComp a6 [#[tg,t,[],0]] a pos) 0 (.ref it) (.ref j.heap.objs.size) (compEnvC a cl G.objs.size X.env))
    (compPost (model X.prog X.w) X.A X.xe use Post (.ref j.heap.objs.size) G.objs.size) q:=by
  intro q I3 d1 c4;refine cR (λn s'=>∃i ys τ H' f k,GX Y [(j.heap.objs.size,{cls:= .type "list",data:= .seq f.toArray k})] τ H' s'/\tn i s'.heap/\(∀b∈fp,H' b=none)/\GZ ys f/\ys.length<=ζ/\W i n ys τ H') ?_ m0 ?_
  ·rintro n s4 ⟨i,ys,τ,H4,f,k,I4,a8,b4,vl,hz,w4⟩
   have d4:=I4.pin (j.heap.objs.size,{cls:= .type "list",data:= .seq f.toArray k}) (by simp [Y,zb])
   rcases b6 i n ys τ H4 w4 with⟨b3,qn⟩|⟨go,d6,step⟩
   ·refine qz (T.done Y Z Z Z hc i _ s4 τ H4 _ I4 (a2 b4 (by simp)) a8 b3) λr s5 M=>?_
    obtain⟨hr,I5⟩:=M;subst hr
    show compPost _ _ _ _ _ _ _ _ _
    obtain⟨m5,c2,_⟩:=I5.loc;have U:=I5.pin (j.heap.objs.size,{cls:= .type "list",data:= .seq f.toArray k}) (by simp [Y,zb])
    have a1:H4 j.heap.objs.size=none:=U.2.1
    have B:=I5.base;have nC:H4 G.objs.size=none:=I5.free
    obtain⟨z1,z2⟩:=b9 (ob:= .lst ys) I2 f2 hC I5 a1 #[hz,f,k,vl,U.1]
    exact b8 j.heap.objs.size G.objs.size s5 (GW H4 j.heap.objs.size (.lst ys)) m5 z1 c2 z2 (qn _ a1)
   ·refine qz (T.item Y Z Z Z hc i _ s4 τ H4 _ I4 (a2 b4 (by simp)) a8 go) λr s5 M=>?_
    obtain⟨u,hr,h5⟩:=M;subst hr;refine qz h5 λ_ s6 M=>?_
    obtain⟨x,H6,I6,r6,y6,a4,d0⟩:=M;have d2:=I6.pinned (a2 d0 (by simp)) (T.obj _ _ a4)
    refine qz (hg _ _ _ _ _ s6 τ H6 x u _ d2 r6 (step x H6 y6)) λ_ s7 M=>?_
    obtain⟨a5,H7,I7,N,hN,q7⟩:=M;refine qz (he _ _ _ _ _ s7 a5 H7 _ I7 q7) λv' s8 M=>?_
    obtain⟨y,H8,I8,r8,n8⟩:=M;obtain⟨m',c1,w8⟩:=hN _ _ n8;have K:=I8.pin (j.heap.objs.size,{cls:= .type "list",data:= .seq f.toArray k}) (by simp [zb])
    have L:∀b∈fp,∀o,s6.heap.get? b=↑o->s8.heap.get? b=↑o/\H8 b=none:=λb w o e=>by
     have:=I8.pin (b,o) (JV _ (JV _ (Qk w e)))
     exact#[this.1,this.2.1]
    refine wpAny_list_append_plain (items:=f.toArray) #[k,K.1] (λh' P b2=>?_) (by have:=vl.length;simp;lia)
    obtain⟨k',P⟩:=P;have I9:GX Y [] a5 H8 {s8 with heap:=h'}:=by
     refine(I8.pins_of (pins':=[]) (by simp)).turned (t':=s8.toks) (it:=j.heap.objs.size) (λb o w e=>(b2.2 b w).trans e) K.2.1 ?_ (.inr (Jf _)) (λx c e=>D x c e) (λp hp=>absurd (show p∈([]:GR)from by simpa [Y,zb]using hp) (by simp))
     exact O
    have ea:(f.toArray.push v')=(f++[v']).toArray:=by simp
    rw[ea]at P;refine#[m',c1,i+1,ys++[y],a5,H8,f++[v'],k',I9.pins_of ?_,T.keep _ _ _ a4 λb w o e=>(b2.2 b (E b (b1 b w)).2).trans (L b w o e).1,λb w=>?_,vl.append (.cons r8 .nil),?_,w8]
    ·intro p hp
     rw[Jh.mp hp]
     exact#[P,K.2.1,O,F,λv z=>by cases z]
    ·obtain⟨o,e,_⟩:=T.obj _ _ a4 b w
     exact(L b w o e).2
    ·rw[Jv,Fd];lia
  ·refine#[0,[],σ0 own.length js σ,H2,[],0,I3.pins_of ?_,d1,λb w=>(f2 b w).1,.nil,Jy _,w0]
   intro p hp;rw[Jh.mp hp]
   exact#[c4,I2.hok.fresh (Jf _),O,F,λv z=>by cases z]
 have a7:tn 0 A:=T.keep _ _ _ b5 λb _ o e=>c0 b o e
 exact codeAny_compStart_list (R _ IY a7 a0) (T.self _ 0 _ _ _ a7 (R _ IY a7 a0))
theorem AE{j tg d:Φ}{a:Scope}{l:List (Str×Δ)}{pos:Pos}{fr own:Α}{js:Κ}{u:TI}{g:TG}{te:TE}
  (hc:X.calm=true)(hi:PI X tg d u)(f:closureFor a X.env=pure l)(p:∀y c,l.lookup y=↑c->X.env.cells.lookup y=↑c)(r:l.map (·.1)=fr)
  (S:HP X a fr js)
  (hg:∀C s H fp,PG (zb X (own++fr) a l C s H fp) tg g)(he:∀C s H fp,PE (zb X (own++fr) a l C s H fp) j te)
  (hs:∀x,foldedSetIterable d X.env x=pure x:=by intro _;rfl):
  PE X (.ListComp j [#[tg,d,[],0]] a pos) (aR own.length js u g te):=by
 intro Oa s σ H Q I h;rw[eval_ListComp];refine kY (use:=none) hc hi f p r S hg he hs I h λn C v H' m w z i q=>?_
 exact#[m,z,λh' t=>#[.ref n,H',w.turned (t':=v.toks) (λb o A e=>(t.2 b A).trans e) i.free i.loc (.inr i.new) i.cell i.pin,Z,q]]
theorem Bn{j tg f:Φ}{d:Scope}{t:List (Str×Δ)}{pos l u:Pos}{fr own:Α}{js:Κ}{K:TI}{g:TG}{te:TE}{i:Nat}{y:Str}
  (hN:X.N.Nodup)(A:X.N[i]? =↑y)(hx:cH X.env.scope y)
  (hc:X.calm=true)(hi:PI X tg f K)(p:closureFor d X.env=pure t)(w:∀y c,t.lookup y=↑c->X.env.cells.lookup y=↑c)(B:t.map (·.1)=fr)
  (S:HP X d fr js)
  (hg:∀C s H fp,PG (zb X (own++fr) d t C s H fp) tg g)(he:∀C s H fp,PE (zb X (own++fr) d t C s H fp) j te)
  (hs:∀x,foldedSetIterable f X.env x=pure x:=by intro _;rfl)(G:swapsWith (.ListComp j [#[tg,f,[],0]] d pos) ↑(.Name y u) l.line X.env=pure true:=by rfl)
  (hf:X.fn y=true\/X.env.scope.names.lookup y=some .local:=by first|exact .inl Z|exact .inr Z|assumption):
  PS X (.Assign [.Name y u] (.ListComp j [#[tg,f,[],0]] d pos) l) (bb (aR own.length js K g te) (Qa i)):=by
 intro Oa s σ H D I h;rw[exec_Assign_Name_used _ _ _ _ G];refine Ja (E1 (Ja ?_))
 show ε _ X.A (do let _ <- comprehension (.ListComp j [#[tg,f,[],0]] d pos) d X.env _ (newList []) false (eval f X.env) ↑(assign (.Name y u) X.env)) _ _ s
 refine Ja (Jw (kY (use:=↑(assign (.Name y u) X.env)) (Post:=λ_ s'=>SP X Oa D .next s') hc hi p w B S hg he hs I h ?_) (λ_ s' R=>Jd (Jd R)) λ_ _ e=>e)
 intro r C U H' m P Q n q
 show ε _ X.A (assign (.Name y u) X.env (.ref r)) _ _ _
 refine wpAny_assign_Name (aT (v:= .ref r) P hN A hx Z (λL N O=>?_) hf)
 obtain⟨a,J,M⟩:=O;have F:C≠a:=by
  rcases M with z|z
  ·rw[z];exact n.loc
  ·exact Ne.symm (n.cell _ _ z)
 refine#[m,Q.sameBut J F,λh' E=>?_]
 exact#[_,H',N.turned (t':=L.toks) (λb o T e=>(E.2 b T).trans e) n.free n.loc (.inr n.new) n.cell n.pin,q]
section
variable{js:Κ}{te:TE}{σ:L2.St}{H:Hp}{Q:VK}{K:ι}
abbrev Qt(js:Κ)(σ:L2.St):L2.St:=js.map λj=>(σ[j]?).join
abbrev ZI(J:It)(js:Κ)(te:TE)(σ:L2.St)(H1:Hp)(Q:VK):Prop:=sS 1 js (Qa 0) te σ Q J H1
theorem bS{J:It}{n:Nat}(hn:n<=ζ)(c:Nat->V->Prop)(Pv:Nat->Ε->Hp->Prop)(l:Pv 0 [] H)(f:∀i ys H,i<n->Pv i ys H->J.go i H)(hst:∀ys H,Pv n ys H->J.stop n H)
  (q:∀i ys H x H',i<n->Pv i ys H->J.yld i H x H'->H'=H/\c i x)
  (hs:∀i ys H x,i<n->ys.length=i->Pv i ys H->c i x->te (↑x::Qt js σ) H λv d=>Pv (i+1) (ys++[v]) d)
  (hd:∀ys H,ys.length=n->Pv n ys H->∀p,H p=none->Q (.ref p) (GW H p (.lst ys))):ZI J js te σ H Q:=by
 refine#[λi m ys h H=>m=n-i/\i<=n/\ys.length=i/\Pv i ys H/\∃o,h=o::Qt js σ,#[n,by simp,Jy _,Z,l,none,Z],?_]
 rintro i m ys h H ⟨rfl,hi,g,p,o,rfl⟩
 by_cases a:i<n
 ·refine .inr #[f i ys H a p,by lia,λx H' y=>?_]
  obtain⟨e,r⟩:=q i ys H x H' a p y;subst e
  exact#[λv d=>Pv (i+1) (ys++[v]) d,λv d j=>#[n-(i+1),by lia,Z,a,by simp [g],j,_,Z],hs i ys _ x a g p r]
 ·have e:i=n:=by lia
  subst e;exact .inl #[hst ys H p,hd ys H g p]
theorem Ze{a:Δ}{xs:Ε}(hn:xs.length<=ζ)(Pv:Nat->Ε->Hp->Prop)(d:Pv 0 [] H)(hl:∀i ys H,Pv i ys H->G0 K H a xs)
  (hs:∀i ys H x,xs[i]? =↑x->ys.length=i->Pv i ys H->te (↑x::Qt js σ) H λv c=>Pv (i+1) (ys++[v]) c)
  (hd:∀ys H,ys.length=xs.length->Pv xs.length ys H->∀p,H p=none->Q (.ref p) (GW H p (.lst ys))):ZI (cB K a) js te σ H Q:=
 bS hn (λi x=>xs[i]? =↑x) Pv d (λi ys H hi p=>#[xs,xs[i],hl _ _ _ p,by simp [hi]]) (λys H p=>#[xs,hl _ _ _ p,Jf _]) (λi ys H x H' _ p y=>#[y.1,y.2 xs (hl _ _ _ p)]) (λi ys H x _ hl p e=>hs i ys H x e hl p) hd
theorem Q5{a:Δ}{xs:Ε}(hn:xs.length<=ζ)(Pv:Nat->Ε->Hp->Prop)(d:Pv 0 [] H)(hl:∀i ys H,Pv i ys H->G9 K H a xs)
  (hs:∀i ys H x,xs[i]? =↑x->ys.length=i->Pv i ys H->te (↑x::Qt js σ) H λv c=>Pv (i+1) (ys++[v]) c)
  (hd:∀ys H,ys.length=xs.length->Pv xs.length ys H->∀p,H p=none->Q (.ref p) (GW H p (.lst ys))):ZI (dz K a) js te σ H Q:=
 bS hn (λi x=>xs[i]? =↑x) Pv d (λi ys H hi p=>#[xs,xs[i],hl _ _ _ p,by simp [hi]]) (λys H p=>#[xs,hl _ _ _ p,Jf _]) (λi ys H x H' _ p y=>#[y.1,y.2 xs (hl _ _ _ p)]) (λi ys H x _ hl p e=>hs i ys H x e hl p) hd
theorem Zj{lo:Int}{n:Nat}(hn:n<=ζ)(Pv:Nat->Ε->Hp->Prop)(c:Pv 0 [] H)
  (hs:∀i ys H,i<n->ys.length=i->Pv i ys H->te (↑(.int (lo+i))::Qt js σ) H λv a=>Pv (i+1) (ys++[v]) a)
  (hd:∀ys H,ys.length=n->Pv n ys H->∀p,H p=none->Q (.ref p) (GW H p (.lst ys))):ZI (jp lo n) js te σ H Q:=
 bS hn (λi x=>x= .int (lo+i)) Pv c (λi ys H hi p=>hi) (λys H p=>Jf _) (λi ys H x H' _ p y=>y) (λi ys H x hi d p e=>by subst e;exact hs i ys H hi d p) hd
end
end L3
namespace L3
open PySem PySem.Spec PyProof.Rows L2
section
variable{X:Cx}{Oa:GR}{σ:L2.St}{H:Hp}{s:Θ}
theorem pM{h':Ψ}{t':Nat}{ch:Η}{a:Δ}{xs:Ε}{its:Ζ}(I:L2.GX X Oa σ H s)(k:∀b o,b∉ch->s.heap.get? b=↑o->h'.get? b=↑o)(d:∀b∈ch,Qq X Oa H b)
  (ho:∀b∈ch,∃o,h'.get? b=↑o)(ha:s.heap.objs.size<=a)(hz:xs.length<=ζ)(hv:GZ xs its)(l:IsTup h' a its.toArray):L2.GX X Oa σ (GW H a (.tup xs)) {s with heap:=h',toks:=t'}:=by
 have i:H a=none:=I.hok.fresh ha
 have j:∀b o,s.heap.get? b=↑o->b≠a:=λb o e=>Jk (JO (Jj e) ha)
 have h:∀b u,H b=↑u->b∉ch:=λb u e z=>by rw[(d b z).1]at e;cases e
 refine I.step (g':=s.gens) (d':=s.drawn) (ch:=ch) (λb f=>#[(d b f).2.2.2.1,(d b f).2.1,(d b f).2.2.2.2.1,(d b f).2.2.2.2.2]) (λb o _ _ g e _=>k b o g e) (λb o _ _ g e _=>#[o.slots,k b o g e])
  (λb o _ e n=>by rw[qm (j b o e)];exact n) (λb o g e=>#[o,k b o g e]) (λb ys e=>by rw[qm (qo e i)];exact e) (λb o u e=>by rw[qm (qo e i)];exact e)
  (λb ps e=>#[(List.toArray []),by rw[qm (qo e i),e];simp]) (λm p=>?_) (λb u e=>?_) I.bare
 ·obtain⟨o,es,ep,ho,r⟩:=p
  exact#[o,es,ep,k _ o (λz=>(d _ z).2.1 Z) ho,r]
 ·by_cases f:b=a
  ·subst f
   rw[qc]at e;cases e
   exact#[hz,its,hv,l]
  ·rw[qm f]at e
   refine(I.hok b u e).stay (λc v g q=>k c v ?_ q) (λc q=>by rw[qm (qo q i)];exact q) λc ys q=>by rw[qm (qo q i)];exact q
   rcases g with z|z
   ·rw[z];exact h b u e
   ·exact h c _ z
def pj(K:ι)(a:Δ):It:=
 #[λi H=>∃xs x,G0 K H a xs/\xs[i]? =↑x,λi H x H'=>∃p v,H p=none/\x= .ref p/\(∀xs,G0 K H a xs->xs[i]? =↑v)/\H'=GW H p (.tup [.int i,v]),λi H=>∃xs,G0 K H a xs/\xs.length<=i]
theorem jb{P:Ξ}{w:Ω}{K:ι}{A:Ι}{x1}{pos:Pos}(a e it:Δ)(r:e≠it):
  Lh P w K (.Tuple A x1 pos) (pj K a) [e,it] e (λi h=>(∃c,IsEnum h e it i c)/\h.IsListIter it a i) where
 mem:=by simp
 obj:=λi h st b f=>by
  obtain⟨⟨c,g⟩,⟨o,F,L,W⟩⟩:=st;rcases Jm.mp f with z|z
  ·subst z
   refine#[_,g,λv z=>?_]
   have z':Data.fields _=Data.cell v:=z
   cases z'
  ·rw[Jh.mp z]
   exact#[o,F,λv z=>by rw[W]at z;cases z]
 keep:=λi h h' st k=>#[let⟨c,g⟩:=st.1;#[c,k e (by simp) _ g],st.2.at λo q=>k it (by simp) o q]
 item:=by
  intro X Q N J L i Oa s σ H E I C st S;subst Q N J;obtain⟨xs,x,D,O⟩:=S;obtain⟨its,M,p,hz⟩:=I.list D;obtain⟨u,hu,ru⟩:=M.get O;obtain⟨⟨c,g⟩,j⟩:=st;refine wpAny_pyNext_enum_item g j p.isList (x:=u) (by simpa using hu) r λh' F l ht T hk=>#[_,Z,?_]
  refine wpAny_letOwnedTupleGo_enum F λR m d=>?_
  have n:e<s.heap.objs.size:=Jj g
  have t:it<s.heap.objs.size:=by obtain⟨_,y,_⟩:=j;exact Jj y
  refine#[.ref s.heap.objs.size,GW H s.heap.objs.size (.tup [.int i,x]),?_,Z,#[_,x,I.hok.fresh (Jf _),Z,λys hy=>by rw[I.list_inj hy D];exact O,Z],#[#[_,by simpa using m],?_],?_]
  ·show L2.GX X Oa σ _ {s with heap:=R,toks:=s.toks+1}
   refine pM (s:=s) (its:=[.int i s.toks,u]) I (ch:=[e,it]) (λb o f q=>?_) C (λb f=>?_) (Jf _) (by show 2<=ζ;decide) (.cons #[_,Z] (.cons ru .nil)) ?_
   ·have B:b≠e:=λz=>f (by simp [z])
    have G:b≠it:=λz=>f (by simp [z])
    exact(d.2 b B).trans (hk b o B G q)
   ·rcases Jm.mp f with z|z
    ·subst z;exact#[_,m]
    ·rw[Jh.mp z]
     obtain⟨o,y,_⟩:=l
     exact#[o,(d.2 it (Ne.symm r)).trans y]
   ·exact#[_,(d.2 _ (EV n)).trans ht,Z,_,Z]
  ·exact l.extBut d.extBut (Ne.symm r)
  ·intro b f
   rw[qm]
   ·exact(C b f).1
   ·rcases Jm.mp f with z|z
    ·subst z;exact Jk n
    ·rw[Jh.mp z];exact Jk t
 done:=by
  intro X Q N J L i Oa s σ H E I C st S;subst Q N J;obtain⟨xs,D,O⟩:=S;obtain⟨its,M,p,hz⟩:=I.list D;obtain⟨⟨c,g⟩,j⟩:=st;obtain⟨Y,f1,f2,U,f4,f5⟩:=C it (by simp)
  have hl:=M.length;exact wpAny_pyNext_enum_end (I.ok.hd L) g j p.isList (by simp;lia) λh' eb=>#[Z,I.turned (t':=s.toks) (λb o f e=>eb b o f e) Y f1 U f4 f5]
 self:=λ_ _ _ _ _ st h=>by
  obtain⟨⟨c,g⟩,_⟩:=st;exact F8 g h
def yr(K:ι)(ta:TA):TI:=λσ H R=>ta σ H λvs H1=>∃a,vs=[.ref a]/\(∃xs,G0 K H1 a xs)/\R (pj K a) H1
theorem Ay{a:Φ}{ta:TA}{p pos:Pos}{d:Ι}{x1}{f:Pos}(hg:Gl X "enumerate")(hm:X.mg "enumerate"=none)(ha:PA X [a] ta)(hs:θ [a] X.env=[(false,eval a X.env)]:=by rfl):
  PI X (.Tuple d x1 f) (.Call (.Name "enumerate" p) [a] [] pos) (yr X.K ta):=by
 intro Oa s σ H R I h;refine Call_ (ZR I hg hm boot_enumerate (FQ (qz (ha pos Oa s σ H _ I h) λB c w=>?_) hs Z))
 obtain⟨vs,H1,i,t,v⟩:=w;obtain⟨l,e,⟨xs,y⟩,q⟩:=v;subst e;obtain⟨u,rfl,x⟩:=t.one;cases x;obtain⟨o,D,pl,C⟩:=i.list y;refine call_enumerate_list pl.isList λh' m j r hk=>F8 m ?_
 have n:L2.GX X Oa σ H1 {c with heap:=h'}:=i.kept (t':=c.toks) hk
 refine#[c.heap.objs.size+1,[c.heap.objs.size+1,c.heap.objs.size],_,_,H1,Z,n,jb l _ _ (EV (E2 _)),#[#[_,m],j],λb A=>?_,q]
 have g:c.heap.objs.size<=b:=by
  rcases Jm.mp A with z|z
  ·rw[z];exact Fk _
  ·rw[Jh.mp z];exact Jf _
 exact i.fpOk g (i.hok.fresh g)
theorem lZ{K:ι}{a:Δ}{xs:Ε}{g:TG}{tb:TS}{D:HY}{σ:L2.St}{H:Hp}(Pv:Nat->L2.St->Hp->Prop)(l:Pv 0 σ H)(hl:∀i σ H,i<=xs.length->Pv i σ H->G0 K H a xs)
  (hs:∀i x σ H p,xs[i]? =↑x->Pv i σ H->H p=none->g (.ref p) σ (GW H p (.tup [.int i,x])) λd h=>tb {D with nx:=Pv (i+1),ct:=Pv (i+1),bk:=D.nx} d h)(hd:∀σ H,Pv xs.length σ H->D.nx σ H):
  ∃W:Nat->Nat->L2.St->Hp->Prop,(∃m,W 0 m σ H)/\∀i m σ H,W i m σ H->
   ((pj K a).stop i H/\D.nx σ H)\/((pj K a).go i H/\∃N:L2.St->Hp->Prop,(∀c H',N c H'->∃j,j<m/\W (i+1) j c H')/\∀x H',(pj K a).yld i H x H'->g x σ H' λd h=>tb {D with nx:=N,ct:=N,bk:=D.nx} d h):=by
 refine#[λi m σ H=>m=xs.length-i/\i<=xs.length/\Pv i σ H,#[xs.length,by simp,Jy _,l],?_]
 rintro i m σ H ⟨rfl,hi,p⟩
 have q:=hl i σ H hi p
 by_cases f:i<xs.length
 ·refine .inr #[#[xs,xs[i],q,by simp [f]],Pv (i+1),λc H' o=>#[xs.length-(i+1),by lia,Z,f,o],λx H' y=>?_]
  obtain⟨n,v,r,rfl,s,rfl⟩:=y;exact hs i v σ H n (s xs q) p r
 ·have e:i=xs.length:=by lia
  subst e;exact .inl #[#[xs,q,Jf _],hd σ H p]
end
def aC(t c:String):Bool:=t==c||(t=="bool"&&c=="int")
abbrev iH:List String:=["NoneType","bool","int","str","list","tuple"]
abbrev lB:List String:=["bool","int","str","list","tuple"]
theorem pN(K:ι):∀t∈iH,∀c∈lB,W.kitOne K (.type t) (.type c)=↑(aC t c):=by
 intro t a c d;simp only[iH,lB,Jm,JE,JF]at a d;rcases a with rfl|rfl|rfl|rfl|rfl|rfl<;>rcases d with rfl|rfl|rfl|rfl|rfl<;>kernel_rfl
section
variable{X:Cx}
theorem fS:zi X (.builtin "isinstance") (λxs H Q=>∃x c t,xs=[x,.ty c]/\I0 X.K H x (.type t)/\t∈iH/\c∈lB/\Q (.bl (aC t c)) H):=by
 intro Oa s σ H xs g Q I r h;obtain⟨x,c,t,rfl,ty,a,e,q⟩:=h;obtain⟨u,v,rfl,d,f⟩:=j5 r
 cases(show v=Γ.type c from f)
 exact uV I d ty (pN X.K t a c e) λtk=>#[.bl _,H,I.tok tk,Z,q]
theorem lI:∀{bs:Υ} {us:Ζ},GZ (bs.map V.bl) us->us=bs.map Γ.bool
 | [],_,.nil=>rfl
 |b::bs,_,.cons r t=>by
  cases(show _=Γ.bool b from r)
  rw[lI t];rfl
theorem pV(bs:Υ):((List.range bs.length).all λi=>(bs[i]?).getD true)=bs.all id:=by
 rw[Fb,FC,FC];constructor
 ·intro h b c
  obtain⟨i,hi,e⟩:=List.mem_iff_getElem.mp c
  have:=h i (J1.mpr hi)
  rw[Jg hi,Fn,e]at this;exact this
 ·intro h i hi
  have a:=J1.mp hi;rw[Jg a,Fn];exact h _ (Fi a)
theorem c9(hc:X.calm=true):zi X (.builtin "all") (λxs H Q=>∃(p:Δ) (bs:Υ),xs=[.ref p]/\G0 X.K H p (bs.map V.bl)/\Q (.bl (bs.all id)) H):=by
 intro Oa s σ H xs z Q I r h;obtain⟨p,bs,rfl,l,q⟩:=h;obtain⟨u,rfl,t⟩:=zM r;cases t;obtain⟨c,w,pl,x⟩:=I.list l;have e:=lI w;have f:=pl.isList;have d:p<s.heap.objs.size:=by obtain⟨_,e,_⟩:=f;exact Jj e
 refine call_all_walk (FO f ?_)
 refine#[s.heap.objs.size,[s.heap.objs.size,p],[s.heap.objs.size],c.toArray.size,_,_,λi=>(bs[i]?).getD true,Z,Walks.list (A:=X.A.in1) (I.ok.hd hc) _ p (Jk d) c.toArray,
  #[#[_,Jq _ Z,Z,Z],f.push _],λi v s' y E' m g=>?_,λh' tk hk=>?_]
 ·have a:c[i]? =↑v:=by simpa using m
  rw[e,Jn]at a;cases eb:bs[i]? with
  |none=>rw[eb]at a;cases a
  |some b=>
   rw[eb]at a
   cases(JA a:Γ.bool b=v)
   simp only[eb,Fn]at g;exact Fj g
 ·have j:((List.range c.toArray.size).all λi=>(bs[i]?).getD true)=bs.all id:=by
   rw[Jr,e,Je];exact pV bs
  rw[j];refine#[.bl _,H,I.kept (h':=h') (t':=tk) λb o q=>hk b o (λn=>?_) (Jl _ q),Z,q]
  rw[Jh.mp n]at q;exact EU _ (Jj q)
theorem nA:zt X (compareOp .IsNot) (λx y H Q=>∃a b,x= .bl a/\y= .bl b/\Q (.bl (! decide (a=b))) H):=by
 intro Oa s σ H x y v u Q I c d h;obtain⟨a,b,rfl,rfl,q⟩:=h
 cases(show v=Γ.bool a from c)
 cases(show u=Γ.bool b from d)
 refine wpAny_isNot_plain Z #[.bl _,H,I,?_,q]
 cases a<;>cases b<;>rfl
theorem i0:zi X (.type "range") (λxs H Q=>∃j:Int,xs=[.int j]/\∀p,H p=none->Q (.ref p) (GW H p (.rng 0 j))):=by
 intro Oa s σ H xs c Q I r h;obtain⟨j,rfl,q⟩:=h;obtain⟨u,rfl,a⟩:=zM r;obtain⟨t,rfl⟩:=a;refine call_range_1 #[.ref s.heap.objs.size,_,I.laid (o:= .rng 0 j) (λb o e=>Jl _ e) (Jf _) #[_,_,_,Jq _ Z],Z,q _ (I.hok.fresh (Jf _))]
theorem sG(hc:X.calm=true):zi X (.type "list") (λxs H Q=>∃(p:Δ) (j:Nat),xs=[.ref p]/\H p=↑(.rng 0 (j:Int))/\j<=2 ^ 24/\∀l,H l=none->Q (.ref l) (GW H l (.lst ((List.range j).map λi=>V.int (i:Nat))))):=by
 intro Oa s σ H xs d Q I r h;obtain⟨p,j,rfl,z,y,q⟩:=h;obtain⟨u,rfl,A⟩:=zM r;cases A;obtain⟨t,u,v,e⟩:=I.hok p _ z;refine call_list_range (n:=j) (I.ok.hd hc) (show IsRange s.heap p 0 (j:Int) 1 t u v from e) (small_one (by lia) (by lia) (by lia) (by lia)) (by rw[rangeSize_one];split<;>lia) y λh' tk c c' hk o a=>?_
 refine#[.ref s.heap.objs.size,_,I.laid (h':=h') (t':=tk) hk (Jf _) ?_,Z,q _ (I.hok.fresh (Jf _))]
 have w:∀(d:Ζ) (n k:Nat),d.length=n->(∀i v,d[i]? =↑v->∃t,v=Γ.int ((k+i:Nat):Int) t)->GZ ((List.range' k n).map λi=>V.int (i:Nat)) d:=by
  intro d
  induction d with
  |nil=>intro n k m _;cases m;exact .nil
  |cons u d ih=>
   intro n k m x;cases n with
   |zero=>cases m
   |succ n=>
    rw[List.range'_succ,JS];obtain⟨t,f⟩:=x 0 u Z;refine .cons #[t,by simpa using f] (ih n (k+1) (by simpa using m) λi v hi=>?_)
    obtain⟨t,f⟩:=x (i+1) v hi
    exact#[t,by rw[f];congr 1;lia]
 have g:GZ ((List.range j).map λi=>V.int (i:Nat)) c.toList:=by
  rw[List.range_eq_range'];refine w _ _ 0 (by rw[Jp];exact a.1) λi v hi=>?_
  obtain⟨t,f⟩:=a.2 i v (by rw[<- Array.getElem?_toList];exact hi)
  exact#[t,by rw[f];congr 1;lia]
 exact#[by simp only[Je,List.length_range];exact JG y (by rw[Ju];decide),c.toList,c',g,o]
inductive NO (x:V) (lo:Λ) (hi:Λ) (H:Hp) (Q:VK):Prop
 |mk (a:_) (xs:_) (h1:x= .ref a) (h2:H a=↑(.tup xs)) (h3:∀p H',GS H H'->H' p=↑(.tup (Qd xs lo hi))->(p=a\/H p=none)->Q (.ref p) H')
def EG:V->Λ->Λ->Hp->VK->Prop:=λx lo hi H Q=>NO x lo hi H Q
theorem cO{prog:Ξ}{w:Ω}{A:Around}{E:GP}{s:Θ}{t c:Δ}{items:Array Γ}{i g:Γ}{lo hi:Λ}{Q:GP}(a:IsTup s.heap t items)(hs:s.heap.IsSliceOf c i g .none)(pl:IsPart i lo)(l:IsPart g hi)
  (hw:HT.sIx items.size 0 lo=0/\HT.sIx items.size items.size hi=items.size)(h:Q (.ref t) s):ε (model prog w) A (getItem (.ref t) (.ref c)) Q E s:=by
 obtain⟨j,e,f,n⟩:=id hs;have d:s.TypeIs (.ref c) "slice":=#[j,e,f]
 unfold getItem
 try with_reducible refine JI ?_
 first|refine Ja (Jd ?_)|skip
 refine Ja (wpAny_sequenceKey a.typeIs ⋯ ?_)
 refine Ja (wpAny_callSpecial?_slot (name:=Str.ofString "__getitem__") a.typeIs Gh
  (J5 Gh a.typeIs entry_tuple_getitem ?_ (args_tuple_getitem _ _)))
 show ε _ _ (γ.Tuple.tupleItemsOf (.ref t) >>= _) _ _ s
 refine Ja (tupleItemsOf_ a ?_)
 refine Ja (FR d ?_)
 rw[Jc ⋯]
 refine Ja (HT.sliceApplied_gen hs pl l ?_)
 show ε _ _ (if(((HT.sIx items.size 0 lo:Nat):Int)==0&&(1:Int)==1&&(HT.sIx items.size items.size hi-HT.sIx items.size 0 lo)==items.size)=true then _ else _) _ _ s
 rw[hw.1,hw.2,Jc (by simp)]
 refine Ja (m:=γ.Tuple.tupleIsExact _) ?_
 unfold γ.Tuple.tupleIsExact;refine Ja (FR a.typeIs (Jd ?_))
 rw[Jc (by rfl)]
 exact Ja (E7 (Jd #[_,Z,Jd h]))
theorem fu:uF X EG:=by
 intro Oa s σ H x v w t lo hi u Q I j l pl m h;obtain⟨a,xs,rfl,g,q⟩:=h
 by_cases d:HT.sIx xs.length 0 lo=0/\HT.sIx xs.length xs.length hi=xs.length
 ·cases j
  obtain⟨f,r,i,y⟩:=I.tuple (G9.of g)
  have c:f.toArray.size=xs.length:=by rw[Jr];exact r.length.symm
  refine#["tuple",_,PyProof.Rows.slot_tuple_getitem.lookup,i.typeIs,?_]
  refine cO i l pl m (by rw[c];exact d) #[.ref a,H,I,Z,q a H (GS.refl H) ?_ (.inl Z)]
  have:Qd xs lo hi=xs:=by unfold Qd;rw[d.1,d.2];simp
  rw[this];exact g
 ·exact CK Oa s σ H _ v w t lo hi u Q I j l pl m #[a,xs,Z,G9.of g,d,λp n=>q p _ (λb o e=>by rw[qm (qo e n)];exact e) qc (.inr n)]
inductive Nt (x:V) (y:V) (H:Hp) (Q:VK):Prop
 |mk (a:_) (b:_) (xs:_) (ys:_) (h1:x= .ref a) (h2:y= .ref b) (h3:H a=↑(.tup xs)) (h4:H b=↑(.tup ys)) (h5:xs.length+ys.length<=ζ) (h6:∀p H',GS H H'->H' p=↑(.tup (xs++ys))->Q (.ref p) H')
def DE:R2:=λx y H Q=>Nt x y H Q
theorem Z7:zt X (binaryOp .Add) DE:=by
 intro Oa s σ H x y v u Q I C A h;obtain⟨a,b,xs,ys,rfl,rfl,j,m,L,q⟩:=h
 by_cases D:xs=[]
 ·subst D
  cases C;cases A;obtain⟨F,J,O,_⟩:=I.tuple (G9.of j)
  obtain⟨f,R,p2,_⟩:=I.tuple (G9.of m)
  cases J;obtain⟨⟨N,K,w,P⟩,t,B,n,z⟩:=id O;obtain⟨⟨E,r,l,i⟩,c,g,G,d⟩:=id p2;simp only at B z g d
  subst B z g d;exact concat_meets #[_,t,Z] #[_,c,Z] noFill_tuple_add seq_tuple_add Gx Gy (Gz _ _)
   (tuple_addW0 a b _ f.toArray n G K r P i (by simp)) #[t,c,#[.ref b,H,I,Z,q b H (GS.refl H) m]]
 ·refine Bj Oa s σ H _ _ v u Q I C A #[a,b,xs,ys,Z,Z,G9.of j,G9.of m,D,L,λe=>q a H (GS.refl H) (by subst e;simpa using j),λ_ p M=>q p _ (λb o e=>by rw[qm (qo e M)];exact e) qc]
theorem eY{ns:Β}{us:Ζ}(r:GZ (ns.map V.int) us)(j:Nat)(h:j<us.length)(h':j<ns.length):∃t,us[j]=Γ.int ns[j] t:=by
 obtain⟨u,a,c⟩:=r.get (i:=j) (x:=V.int ns[j]) (by rw[Jn,Jg h'];rfl)
 rw[Jg h]at a;cases a;exact c
theorem yi(ns ms:Β)(h:ns.length=ms.length):((List.range ns.length).all λj=>(ns.getD j 0==ms.getD j 0))=decide (ns=ms):=by
 rw[Fb,FC,F9];constructor
 ·intro q
  refine List.ext_getElem h λi h1 a=>?_
  have:=q i (J1.mpr h1)
  simp only[Jz,Jg h1,Jg a,Fn,JW]at this;exact this
 ·rintro rfl i _
  simp
end
def bw:Φ->Bool
 | .Starred .. =>false
 |_=>true
theorem i5{e:Φ}{es:Ι}{a:Env}(h:bw e=true):θ (e::es) a=(false,eval e a)::θ es a:=by
 cases e<;>first|rfl|cases h
theorem EJ{X:Cx}{e:Φ}{es:Ι}{te:TE}{t:TA}(ha:PE X e te)(hr:PA X es t)(h:bw e=true:=by rfl):PA X (e::es) (rl te t):=Aw ha hr (i5 h)
structure Df(P:Ξ)(w:Ω)(K:ι)(mg:GQ)(base:Ψ)(x:Str)(ps:Α)(k:Nat)(sp:Sp):Prop where
 ex:∃(f:Δ) (fd:FuncData),IP P w K mg base aJ k f fd ps sp/\mg x=↑(.ref f)/\PySem.W.keepIn K (.ref f)=true/\Iw K fd ps []
structure At(K:ι)(mg:GQ)(x:Str)(st:δ)(ps:Α):Prop where
 ex:∃(f:Δ) (fd:FuncData),LX K x x st f fd/\mg x=↑(.ref f)/\PySem.W.keepIn K (.ref f)=true/\Iw K fd ps []
section
variable{P:Ξ}{w:Ω}{K:ι}{mg:GQ}{base:Ψ}
theorem At.df{x:Str}{st:δ}{ps N:Α}{k:Nat}{sp:Sp}(a:At K mg x st ps)(S:GU N ps (qi st))(len:∀vs H Q E,sp vs H Q E->vs.length=ps.length)
  (d:∀(f:Δ) (cdv:Γ) (A:Around) (c:Τ) (s:Θ) (H:Hp) (vs:Ε) (Q:VK) (E:XK),HB k (A.deeper (envOfC x (qi st) s.heap.objs.size f cdv))->sp vs H Q E->
   ∃t,LB (bt aJ P w K mg base N x (qi st) f cdv A c s H E).nox (zF st) t/\t {nx:=λ_ H'=>Q .non H',rt:=Q} (Q4 N vs) H):Df P w K mg base x ps (k+1) sp:=by
 obtain⟨f,fd,F,m,g,bd⟩:=a.ex
 exact#[f,fd,F.ok S len (λcdv A c s H vs Q E e h=>d f cdv A c s H vs Q E e h),m,g,bd]
end
section
variable{X:Cx}{x:Str}{ps:Α}{k:Nat}{sp:Sp}{e:Φ}{es:Ι}{p pos:Pos}{t:TA}
theorem BS(D:Df X.prog X.w X.K X.mg X.base x ps k sp)(hr:HB k X.A)(ha:PA X (e::es) t)(hg:Gl X x:=by rfl)(hdb:(x==("__debug__":Str))=false:=by decide)(he:θ (e::es) X.env=(false,eval e X.env)::θ es X.env:=by rfl)(hpl:(backTo pos (θ es X.env)).any (·.1)=false:=by rfl):
  PE X (.Call (.Name x p) (e::es) [] pos) (sM sp [] E0 t):=by
 obtain⟨f,fd,ok,m,a,bd⟩:=D.ex;exact BB ok hr hg m a bd .nil j4 ha hdb he hpl
end
theorem Zr{X:Cx}{a:Scope}(f:a.kind= .function)(d:∀x∈a.names,x.2= .local->a.names.lookup x.1=some .local)(c:∀x∈a.names,x.2≠ .cell)
  (e:∀x∈a.names,x.2= .free->x.1∈([]:Α)):HP X a [] []:=#[f,d,c,e,Z,λi j y h=>by simp at h]
theorem iD{X:Cx}{a:Scope}{y:Str}{j:Nat}(f:a.kind= .function)(d:∀x∈a.names,x.2= .local->a.names.lookup x.1=some .local)(c:∀x∈a.names,x.2≠ .cell)
  (e:∀x∈a.names,x.2= .free->x.1∈([y]:Α))(h1:X.N[j]? =↑y)(h2:X.env.kindOf y=some .cell)(h:(relabel a X.env).names.lookup y=some .cell):HP X a [y] [j]:=
 #[f,d,c,e,Z,λi n m g l=>by
  cases i with
  |zero=>cases g;cases l;exact#[h1,h2,h]
  |succ i=>simp at g]
theorem gf{X:Cx}{y:Str}{c:Δ}(h:X.env.cells.lookup y=↑c):∀z d,([(y,c)]:List (Str×Δ)).lookup z=↑d->X.env.cells.lookup z=↑d:=λz d e=>by
 by_cases a:z=y
 ·subst a
  simp at e
  rw[<- e];exact h
 ·simp [J7,show(z==y)=false from by simpa using a]at e
theorem BD{X:Cx}{K:ι}(h:X.K=K):MZ X (vX K):=by subst h;exact qO
abbrev sw(n m k:Int):HO:= .lst [.int n,.int m,.int k]
theorem _root_.L2.GS.upd{H:Hp}{p:Δ}{o:HO}(h:H p=none):GS H (GW H p o):=λb u e=>by rw[qm (qo e h)];exact e
theorem uK(c:Bool): -(2 ^ 64:Int)<(if c=true then(1:Int)else 0):=by cases c<;>decide
theorem ud(c:Bool):(if c=true then(1:Int)else 0)<(2 ^ 64:Int):=by cases c<;>decide
theorem pq{n j:Nat}(h:j<n):Z1 n (j:Int)=↑j:=by unfold Z1;rw[Jc (by lia),Jc (by lia)];simp
def aD(ns:Β)(lo hi:Λ):Β:=(ns.drop (HT.sIx ns.length 0 lo)).take (HT.sIx ns.length ns.length hi-HT.sIx ns.length 0 lo)
theorem ci(ns:Β)(lo hi:Λ):Qd (ns.map V.int) lo hi=(aD ns lo hi).map V.int:=by unfold Qd aD;rw[Je,List.map_take,List.map_drop]
theorem Qg{ns:Β}{i:Nat}{x:V}(h:(ns.map V.int)[i]? =↑x):∃z,x= .int z/\ns[i]? =↑z:=by
 rw[Jn]at h;cases e:ns[i]? with
 |none=>rw[e]at h;cases h
 |some z=>rw[e]at h;exact#[z,(JA h).symm,Z]
theorem ik{ns:Β}{i:Nat}(h:i<ns.length):(ns.map V.int)[i]? =↑(.int ns[i]):=by rw[Jn,Jg h];rfl
theorem cw(ns:Β)(i:Nat)(z:Int):(ns.map V.int).set i (.int z)=(ns.set i z).map V.int:=by rw[List.map_set]
def yn:Option HO->Option String
 |some (.lst _)=>↑"list"
 |some (.tup _)=>↑"tuple"
 |_=>none
def kd(H:Hp):V->Option String
 | .non=>↑"NoneType"
 | .bl _=>↑"bool"
 | .int _=>↑"int"
 | .str _=>↑"str"
 | .ref a=>yn (H a)
 |_=>none
theorem vE{o:Option HO}{t:String}(h:yn o=↑t):(∃xs,o=↑(.lst xs)/\t="list")\/(∃xs,o=↑(.tup xs)/\t="tuple"):=by
 cases o with
 |none=>cases h
 |some u=>
  cases u with
  |lst xs=>cases h;exact .inl #[xs,Z,Z]
  |tup xs=>cases h;exact .inr #[xs,Z,Z]
  |_=>cases h
theorem hU{H:Hp}{a:Δ}{t:String}(h:kd H (.ref a)=↑t):(∃xs,H a=↑(.lst xs)/\t="list")\/(∃xs,H a=↑(.tup xs)/\t="tuple"):=vE h
theorem DG{K:ι}{H:Hp}{x:V}{t:String}(h:kd H x=↑t):I0 K H x (.type t)/\t∈iH:=by
 cases x with
 |non=>cases h;exact#[.non,by simp]
 |bl b=>cases h;exact#[.bl b,by simp]
 |int i=>cases h;exact#[.int i,by simp]
 |str x=>cases h;exact#[.str x,by simp]
 |byt b=>cases h
 |flt b=>cases h
 |ty b=>cases h
 |ref a=>
  rcases hU h with⟨xs,e,rfl⟩|⟨xs,e,rfl⟩
  ·exact#[.lst e,by simp]
  ·exact#[.tup e,by simp]
theorem fh{H H':Hp}{x:V}{t:String}(s:GS H H')(h:kd H x=↑t):kd H' x=↑t:=by
 cases x with
 |ref a=>
  rcases hU h with⟨xs,e,rfl⟩|⟨xs,e,rfl⟩
  ·show yn (H' a)=_;rw[s _ _ e];rfl
  ·show yn (H' a)=_;rw[s _ _ e];rfl
 |_=>exact h
def cn:V->Bool
 | .int i=>decide (0<=i)&&decide (i<16)
 |_=>false
theorem QJ{c:Type}{xs:List c}{r:Int}(d:0<=r)(h1:r<xs.length):∃v,zY xs r=↑v/\v∈xs:=by
 have a:r.toNat<xs.length:=by lia
 refine#[xs[r.toNat],?_,Fi a]
 have e:zY xs ((r.toNat:Nat):Int)=some xs[r.toNat]:=Qo (Jg a)
 rwa [show((r.toNat:Nat):Int)=r by lia]at e
inductive Nu (K:ι) (vs:Ε) (H:Hp) (Q:VK):Prop
 |mk (a:Δ) (ns:Β) (h1:vs=[.ref a]) (h2:G0 K H a (ns.map V.int)) (h3:ns.length<=63) (h4:∀H',Q (.bl true) H')
def j0(K:ι):Sp:=λvs H Q _=>Nu K vs H Q
inductive Mn (vs:Ε) (H:Hp) (Q:VK):Prop
 |mk (x:_) (t:_) (h1:vs=[x]) (h2:kd H x=↑t) (h3:Q (.bl (cn x)) H)
def oH:Sp:=λvs H Q _=>Mn vs H Q
inductive LY (vs:Ε) (H:Hp) (Q:VK):Prop
 |mk (p:_) (xs:_) (h1:vs=[.ref p]) (h2:H p=↑(.tup xs)) (h3:xs.length<=ζ) (h4:(∀x∈xs,∃t,kd H x=↑t)) (h5:∀H',GS H H'->Q (.bl (xs.all cn)) H')
def k9:Sp:=λvs H Q _=>LY vs H Q
end L3
namespace L3
open PySem PySem.Spec L2
structure QE(X:Cx)(e:Φ)(t:TE):Prop where
 h:PE X e t
structure QT(X:Cx)(e:Φ)(t:TT):Prop where
 h:PT X e t
structure QW(X:Cx)(e:Φ)(t:TT):Prop where
 h:PW X e t
structure QA(X:Cx)(e:Ι)(t:TA):Prop where
 h:PA X e t
structure QS(X:Cx)(e:δ)(t:TS):Prop where
 h:PS X e t
structure Mo(X:Cx)(e:List δ)(t:TS):Prop where
 h:LB X e t
structure QG(X:Cx)(e:Φ)(t:TG):Prop where
 h:PG X e t
structure Nv(X:Cx)(e:Ι)(t:Zw):Prop where
 h:n6 X e t
structure QO(X:Cx)(e:ν)(t:TO):Prop where
 h:PO X e t
structure QI(X:Cx)(tg e:Φ)(t:TI):Prop where
 h:PI X tg e t
variable{X:Cx}
theorem qf{i j pos}:QE X (.Constant (.int i) j pos) (tC (.int i)):=#[Cm]
theorem Z5{b j pos}:QE X (.Constant (.bool b) j pos) (tC (.bl b)):=#[DI]
theorem zd{j pos}:QE X (.Constant .none j pos) (tC .non):=#[Dh]
theorem qA{x j pos}:QE X (.Constant (.str x) j pos) (tC (.str x)):=#[BW]
theorem zj{x:Str}{v:V}{u:Γ}{pos:Pos}(hg:Gl X x)(hm:X.mg x=↑u)(r:G8 v u)(hd:(x==("__debug__":Str))=false:=by decide):QE X (.Name x pos) (tC v):=#[Bt (hg:=hg) (hm:=hm) (r:=r) (hd:=hd)]
theorem ab{x:Str}{v:V}{u:Γ}{pos:Pos}(hg:Gl X x)(hm:X.mg x=none)(hv:bootBuiltins x=↑u)(r:G8 v u)(hn:x≠"__name__":=by decide)(hd:(x==("__debug__":Str))=false:=by decide):QE X (.Name x pos) (tC v):=#[BC (hg:=hg) (hm:=hm) (hv:=hv) (r:=r) (hn:=hn) (hd:=hd)]
theorem qu{a b:Φ}{ta tb:TE}{pos:Pos}{op:Operator}{r:R2}(ho:zt X (binaryOp op) r)(ha:QE X a ta)(hb:QE X b tb):QE X (.BinOp a op b pos) (iT r ta tb):=#[DM (ho:=ho) (ha:=ha.h) (hb:=hb.h)]
theorem cz{a:Φ}{ta:TE}{pos:Pos}{op:UnaryOp}{r:V->Hp->VK->Prop}(ho:ym X (unaryOp op) r)(ha:QE X a ta):QE X (.UnaryOp op a pos) (Eg r ta):=#[DP (ho:=ho) (ha:=ha.h)]
theorem zS{a b:Φ}{ta tb:TE}{pos:Pos}{op:CmpOp}{r:R2}(ho:zt X (compareOp op) r)(ha:QE X a ta)(hb:QE X b tb)(hm:behindInMarks op b=false):QE X (.Compare a [op] [b] pos) (iT r ta tb):=#[Ai (ho:=ho) (ha:=ha.h) (hb:=hb.h) (hm:=hm)]
theorem qE{a b:Φ}{ta tb:TE}{pos:Pos}{op:CmpOp}{r:R2}(ho:zt X (compareOp op) r)(ha:QE X a ta)(hb:QE X b tb)(hm:behindInMarks op b=false):QT X (.Compare a [op] [b] pos) (gJ (iT r ta tb)):=#[AC (ho:=ho) (ha:=ha.h) (hb:=hb.h) (hm:=hm)]
theorem fR{a b c:Φ}{ta tb tc:TE}{pos:Pos}{op d:CmpOp}{r e:R2}(ho:zt X (compareOp op) r)(ho':zt X (compareOp d) e)(ha:QE X a ta)(hb:QE X b tb)(hc:QE X c tc)(hm:lastMarks [op,d] [b,c]=false:=by with_unfolding_all rfl):QE X (.Compare a [op,d] [b,c] pos) (gW r e ta tb tc):=#[wI (ho:=ho) (ho':=ho') (ha:=ha.h) (hb:=hb.h) (hc:=hc.h) (hm:=hm)]
theorem mV{a b c:Φ}{ta tb tc:TE}{pos:Pos}{op d:CmpOp}{r e:R2}(ho:zt X (compareOp op) r)(ho':zt X (compareOp d) e)(ha:QE X a ta)(hb:QE X b tb)(hc:QE X c tc)(hm:lastMarks [op,d] [b,c]=false:=by with_unfolding_all rfl):QT X (.Compare a [op,d] [b,c] pos) (gJ (gW r e ta tb tc)):=#[xg (ho:=ho) (ho':=ho') (ha:=ha.h) (hb:=hb.h) (hc:=hc.h) (hm:=hm)]
theorem Zl{a b:Φ}{rest:Ι}{ta tb:TE}{pos:Pos}(ha:QE X a ta)(hb:QE X (.BoolOp .And (b::rest) pos) tb):QE X (.BoolOp .And (a::b::rest) pos) (yT ta tb):=#[BL (ha:=ha.h) (hb:=hb.h)]
theorem ZO{a:Φ}{pos:Pos}{op}{t:TE}(h:QE X a t):QE X (.BoolOp op [a] pos) t:=#[Cz (h:=h.h)]
theorem Cj{a:Φ}{ta:TE}{pos:Pos}(ha:QE X a ta):QE X (.UnaryOp .Not a pos) (yw ta):=#[Dt (ha:=ha.h)]
theorem gz{a b:Φ}{rest:Ι}{tA tB':TT}{pos:Pos}(ha:QT X a tA)(hb:QW X (.BoolOp .And (b::rest) pos) tB'):QW X (.BoolOp .And (a::b::rest) pos) (BK tA tB'):=#[Cr (ha:=ha.h) (hb:=hb.h)]
theorem Zt{a b:Φ}{rest:Ι}{tA tB':TT}{pos:Pos}(ha:QT X a tA)(hb:QW X (.BoolOp .Or (b::rest) pos) tB'):QW X (.BoolOp .Or (a::b::rest) pos) (Ed tA tB'):=#[DD (ha:=ha.h) (hb:=hb.h)]
theorem fj{a:Φ}{tA:TT}{pos:Pos}(ha:QT X a tA):QW X (.BoolOp .And [a] pos) tA:=#[Bg (ha:=ha.h)]
theorem QX{a:Φ}{tA:TT}{pos:Pos}(ha:QT X a tA):QW X (.BoolOp .Or [a] pos) tA:=#[C3 (ha:=ha.h)]
theorem Qc{a:Φ}{tA:TT}{pos:Pos}(ha:QT X a tA):QT X (.UnaryOp .Not a pos) (BX tA):=#[B0 (ha:=ha.h)]
theorem Ql{e:Φ}{t:TE}(h:QE X e t)(he:∀a,isTrue e X.env a=(do let v <- a;standAt e.pos;holding [v] (truthy v)):=by intro _;rfl):QT X e (tB t):=#[BJ (h:=h.h) (he:=he)]
theorem wS{a b:Φ}{ta tb:TE}{tA:TT}{pos:Pos}{c:Φ}(hc:QT X c tA)(ha:QE X a ta)(hb:QE X b tb):QE X (.IfExp c a b pos) (Eb tA ta tb):=#[wC (hc:=hc.h) (ha:=ha.h) (hb:=hb.h)]
theorem qd{e:Φ}{es:Ι}{te:TE}{t:TA}(ha:QE X e te)(hr:QA X es t)(h:bw e=true:=by rfl):QA X (e::es) (rl te t):=#[EJ (ha:=ha.h) (hr:=hr.h) (h:=h)]
theorem qb:QA X [] xj:=#[Cp]
theorem qy{es:Ι}{t:TA}{pos:Pos}{x1}(h:QA X es t):QE X (.Tuple es x1 pos) (C9 t):=#[CJ (h:=h.h)]
theorem zo{es:Ι}{t:TA}{pos:Pos}(h:QA X es t):QE X (.List es pos) (Dp t):=#[CB (h:=h.h)]
theorem qC{a b:Φ}{ta tb:TE}{pos:Pos}{r:R2}(hr:MZ X r)(ha:QE X a ta)(hb:QE X b tb)(hs:oI b:=by exactλ_ _=>rfl):QE X (.Subscript a b pos) (iT r ta tb):=#[DL (hr:=hr) (ha:=ha.h) (hb:=hb.h) (hs:=hs)]
theorem Qh{e:Φ}{te:TE}{lo hi:ν}{tl th:TO}{pos p2:Pos}{r:V->Λ->Λ->Hp->VK->Prop}(hr:uF X r)(he:QE X e te)(hl:QO X lo tl)(hu:QO X hi th):QE X (.Subscript e (.Slice lo hi none p2) pos) (Ej r te tl th):=#[wu (hr:=hr) (he:=he.h) (hl:=hl.h) (hu:=hu.h)]
theorem QK:QO X none pB:=#[Az]
theorem QH{e:Φ}{te:TE}(h:QE X e te):QO X ↑e (yv te):=#[Br (h:=h.h)]
theorem qx{x:Str}{p pos:Pos}{e:Φ}{es:Ι}{t:TA}{id:String}{r:Ε->Hp->VK->Prop}(hc:zi X (.builtin id) r)(hm:X.mg x=none)(hv:bootBuiltins x=↑(.builtin id))(ha:QA X (e::es) t)(hg:Gl X x:=by rfl)(hn:x≠"__name__":=by decide)(hdb:(x==("__debug__":Str))=false:=by decide)(he:θ (e::es) X.env=(false,eval e X.env)::θ es X.env:=by rfl)(hpl:(backTo pos (θ es X.env)).any (·.1)=false:=by rfl):QE X (.Call (.Name x p) (e::es) [] pos) (yu r t):=#[wM (hc:=hc) (hg:=hg) (hm:=hm) (hv:=hv) (ha:=ha.h) (hn:=hn) (hdb:=hdb) (he:=he) (hpl:=hpl)]
theorem qH{x:Str}{p pos:Pos}{e:Φ}{es:Ι}{t:TA}{T:String}{r:Ε->Hp->VK->Prop}(hc:zi X (.type T) r)(hm:X.mg x=none)(hv:bootBuiltins x=↑(.type T))(ha:QA X (e::es) t)(hg:Gl X x:=by rfl)(hn:x≠"__name__":=by decide)(hdb:(x==("__debug__":Str))=false:=by decide)(he:θ (e::es) X.env=(false,eval e X.env)::θ es X.env:=by rfl)(hpl:(backTo pos (θ es X.env)).any (·.1)=false:=by rfl):QE X (.Call (.Name x p) (e::es) [] pos) (yu r t):=#[va (hc:=hc) (hg:=hg) (hm:=hm) (hv:=hv) (ha:=ha.h) (hn:=hn) (hdb:=hdb) (he:=he) (hpl:=hpl)]
theorem qp{x:Str}{ps:Α}{k:Nat}{sp:Sp}{e:Φ}{es:Ι}{p pos:Pos}{t:TA}(D:Df X.prog X.w X.K X.mg X.base x ps k sp)(hr:HB k X.A)(ha:QA X (e::es) t)(hg:Gl X x:=by rfl)(hdb:(x==("__debug__":Str))=false:=by decide)(he:θ (e::es) X.env=(false,eval e X.env)::θ es X.env:=by rfl)(hpl:(backTo pos (θ es X.env)).any (·.1)=false:=by rfl):QE X (.Call (.Name x p) (e::es) [] pos) (sM sp [] E0 t):=#[BS (D:=D) (hr:=hr) (ha:=ha.h) (hg:=hg) (hdb:=hdb) (he:=he) (hpl:=hpl)]
theorem qF:Mo X [] yQ:=#[Bh]
theorem qe{st:δ}{rest:List δ}{t u:TS}(h1:QS X st t)(h2:Mo X rest u):Mo X (st::rest) (dc t u):=#[wJ (h1:=h1.h) (h2:=h2.h)]
theorem qg{st:δ}{t:TS}(h1:QS X st t):Mo X [st] t:=#[AR (h1:=h1.h)]
theorem qw{pos:Pos}{i:Nat}{x:Str}{e:Φ}{te:TE}{pos':Pos}(hN:X.N.Nodup)(hi:X.N[i]? =↑x)(hx:cH X.env.scope x)(he:QE X e te)(hs:swapsWith e ↑(.Name x pos') pos.line X.env=pure false:=by rfl)(hf:X.fn x=true\/X.env.scope.names.lookup x=some .local:=by first|exact .inl Z|exact .inr Z|assumption):QS X (.Assign [.Name x pos'] e pos) (bb te (Qa i)):=#[Ct (hN:=hN) (hi:=hi) (hx:=hx) (he:=he.h) (hs:=hs) (hf:=hf)]
theorem q9{pos:Pos}{tg e:Φ}{te:TE}{g:TG}(he:QE X e te)(hg:QG X tg g)(hs:swapsWithSole [tg] e pos.line X.env=pure false:=by rfl)(hw:swappedStores [tg] e X.env=pure none:=by rfl)(h1:(assignEach [tg] X.env).map (·.2)=[assign tg X.env]:=by rfl):QS X (.Assign [tg] e pos) (bb te g):=#[CO (he:=he.h) (hg:=hg.h) (hs:=hs) (hw:=hw) (h1:=h1)]
theorem qr{e:Φ}{te:TE}{pos:Pos}(he:QE X e te):QS X (.Return ↑e pos) (CU te):=#[C4 (he:=he.h)]
theorem qK{t u:TS}{pos:Pos}{c:Φ}{a b:List δ}{tc:TT}(hc:QT X c tc)(ha:Mo X a t)(hb:Mo X b u):QS X (.If c a b pos) (C1 tc t u):=#[DV (hc:=hc.h) (ha:=ha.h) (hb:=hb.h)]
theorem zn{tg:Φ}{a:Φ}{c:List δ}{d:TI}{g:TG}{tb:TS}{pos:Pos}(hp:PassesOwn (model X.prog X.w) X.A X.env X.xe)(hc:X.calm=true)(hi:QI X tg a d)(hg:QG X tg g)(hb:Mo X c tb)(hs:∀x,foldedSetIterable a X.env x=pure x:=by intro _;rfl):QS X (.For tg a c [] pos) (vK d g tb):=#[B1 (hp:=hp) (hc:=hc) (hi:=hi.h) (hg:=hg.h) (hb:=hb.h) (hs:=hs)]
theorem zm{e:Φ}{te:TE}{pos:Pos}(he:QE X e te)(hs:swapsWith e none pos.line X.env=pure false:=by rfl):QS X (.Expr e pos) (yz te):=#[Au (he:=he.h) (hs:=hs)]
theorem BA{pos:Pos}{o i e:Φ}{to l te:TE}{d:V->V->Hp->VK->Prop}{f:vc}{c:fZ}{op:Operator}{g:Pos}(ho:QE X o to)(hi:QE X i l)(hg:xq X d)(he:QE X e te)(hp:Cq X op f)(hs:kJ X c)(ha:∀h j a,augStore i h j a=(do holding [a,h,j] (setItem h j a);release [a,h,j] [];pure .next):=by intros;rfl):QS X (.AugAssign (.Subscript o i g) op e pos) (yU to l te d f c):=#[Bm (ho:=ho.h) (hi:=hi.h) (hg:=hg) (he:=he.h) (hp:=hp) (hs:=hs) (ha:=ha)]
theorem zN{tg:Φ}{l:Φ}{tl:TE}(hl:QE X l tl):QI X tg l (ra X.K tl):=#[AQ (hl:=hl.h)]
theorem Zv{tg:Φ}{l:Φ}{tl:TE}(hl:QE X l tl):QI X tg l (Dv X.K tl):=#[CQ (hl:=hl.h)]
theorem zC{tg:Φ}{a:Φ}{ta:TA}{p pos:Pos}(hg:Gl X "range")(hm:X.mg "range"=none)(ha:QA X [a] ta)(hs:θ [a] X.env=[(false,eval a X.env)]:=by rfl):QI X tg (.Call (.Name "range" p) [a] [] pos) (yV ta):=#[uX (hg:=hg) (hm:=hm) (ha:=ha.h) (hs:=hs)]
theorem jF{tg:Φ}{a b:Φ}{ta:TA}{p pos:Pos}(hg:Gl X "range")(hm:X.mg "range"=none)(ha:QA X [a,b] ta)(hs:θ [a,b] X.env=[(false,eval a X.env),(false,eval b X.env)]:=by rfl)(hs2:θ [b] X.env=[(false,eval b X.env)]:=by rfl):QI X tg (.Call (.Name "range" p) [a,b] [] pos) (yq ta):=#[uk (hg:=hg) (hm:=hm) (ha:=ha.h) (hs:=hs) (hs2:=hs2)]
theorem BE{a:Φ}{ta:TA}{p pos:Pos}{c:Ι}{x1}{d:Pos}(hg:Gl X "enumerate")(hm:X.mg "enumerate"=none)(ha:QA X [a] ta)(hs:θ [a] X.env=[(false,eval a X.env)]:=by rfl):QI X (.Tuple c x1 d) (.Call (.Name "enumerate" p) [a] [] pos) (yr X.K ta):=#[Ay (hg:=hg) (hm:=hm) (ha:=ha.h) (hs:=hs)]
theorem qh{pos:Pos}{i:Nat}{x:Str}(hN:X.N.Nodup)(hi:X.N[i]? =↑x)(hx:cH X.env.scope x)(hf:X.fn x=true\/X.env.scope.names.lookup x=some .local:=by first|exact .inl Z|exact .inr Z|assumption):QG X (.Name x pos) (Qa i):=#[AM (hN:=hN) (hi:=hi) (hx:=hx) (hf:=hf)]
theorem gK{pos:Pos}{es:Ι}{k:Nat}{t:Zw}{n:Nat}(hc:X.calm=true)(h:Nv X es t)(hn:(assignEach es X.env).length=n:=by rfl)(hst:(assignEach es X.env).findIdx? (·.1)=none:=by rfl):QG X (.Tuple es k pos) (xb X.K n t):=#[mY (hc:=hc) (h:=h.h) (hn:=hn) (hst:=hst)]
theorem bG{pos:Pos}{o i:Φ}{to d:TE}{t:fZ}(ho:QE X o to)(hi:QE X i d)(hs:kJ X t)(ha:∀v,assign (.Subscript o i pos) X.env v=(do
      let a <- holding [v] (eval o X.env)
      let c <- holding [v,a] (eval i X.env)
      standAt pos
      holding [v,a,c] (setItem a c v)
      release [v,a,c] []):=by intro _;rfl):QG X (.Subscript o i pos) (C8 to d t):=#[CH (ho:=ho.h) (hi:=hi.h) (hs:=hs) (ha:=ha)]
theorem qM:Nv X [] vP:=#[Bf]
theorem ql{e:Φ}{es:Ι}{t:TG}{u:Zw}(h1:QG X e t)(h2:Nv X es u)(hs:(assignEach (e::es) X.env).map (·.2)=assign e X.env::(assignEach es X.env).map (·.2):=by rfl):Nv X (e::es) (jZ t u):=#[vQ (h1:=h1.h) (h2:=h2.h) (hs:=hs)]
theorem QW.pt{e:Φ}{t:TT}(h:QW X e t):QT X e t:=#[PW.pt h.h]
theorem qv(i:Nat){x:Str}{pos:Pos}(hN:X.N[i]? =↑x:=by rfl)(hv:BV X.env.scope x:=by first|exact Or.inl Z|exact Or.inr (Or.inl Z)|exact Or.inr (Or.inr Z))(hd:(x==("__debug__":Str))=false:=by decide)
  (a:(x==("__classdict__":Str))=false:=by decide):QE X (.Name x pos) (Dg i):=#[C2 hN hv hd a]
theorem zA{f tg d:Φ}{a:Scope}{h:List (Str×Δ)}{pos:Pos}{fr own:Α}{js:Κ}{l:TI}{g:TG}{te:TE}
  (hc:X.calm=true)(hi:QI X tg d l)(e:closureFor a X.env=pure h)(i:∀y c,h.lookup y=↑c->X.env.cells.lookup y=↑c)(j:h.map (·.1)=fr)
  (S:HP X a fr js)
  (hg:∀C s H fp,QG (zb X (own++fr) a h C s H fp) tg g)(he:∀C s H fp,QE (zb X (own++fr) a h C s H fp) f te)
  (hs:∀x,foldedSetIterable d X.env x=pure x:=by intro _;rfl):
  QE X (.ListComp f [#[tg,d,[],0]] a pos) (aR own.length js l g te):=#[AE hc hi.h e i j S (λC s H fp=>(hg C s H fp).h) (λC s H fp=>(he C s H fp).h) hs]
theorem Z8{f tg d:Φ}{a:Scope}{j:List (Str×Δ)}{pos e p:Pos}{fr own:Α}{js:Κ}{q:TI}{g:TG}{te:TE}{i:Nat}{y:Str}
  (hN:X.N.Nodup)(o:X.N[i]? =↑y)(hx:cH X.env.scope y)
  (hc:X.calm=true)(hi:QI X tg d q)(h:closureFor a X.env=pure j)(l:∀y c,j.lookup y=↑c->X.env.cells.lookup y=↑c)(n:j.map (·.1)=fr)
  (S:HP X a fr js)
  (hg:∀C s H fp,QG (zb X (own++fr) a j C s H fp) tg g)(he:∀C s H fp,QE (zb X (own++fr) a j C s H fp) f te)
  (hs:∀x,foldedSetIterable d X.env x=pure x:=by intro _;rfl)(m:swapsWith (.ListComp f [#[tg,d,[],0]] a pos) ↑(.Name y p) e.line X.env=pure true:=by rfl)
  (hf:X.fn y=true\/X.env.scope.names.lookup y=some .local:=by first|exact .inl Z|exact .inr Z|assumption):
  QS X (.Assign [.Name y p] (.ListComp f [#[tg,d,[],0]] a pos) e) (bb (aR own.length js q g te) (Qa i)):=#[Bn hN o hx hc hi.h h l n S (λC s H fp=>(hg C s H fp).h) (λC s H fp=>(he C s H fp).h) hs m hf]
section
variable{P:Ξ}{w:Ω}{K:ι}{mg:GQ}{base:Ψ}
theorem At.dq{x:Str}{st:δ}{ps N:Α}{k:Nat}{sp:Sp}(a:At K mg x st ps)(S:GU N ps (qi st))
  (d:∀(f:Δ) (cdv:Γ) (A:Around) (c:Τ) (s:Θ) (H:Hp) (vs:Ε) (Q:VK) (E:XK),HB k (A.deeper (PyProof.Rows.envOfC x (qi st) s.heap.objs.size f cdv))->sp vs H Q E->
   ∃t,Mo (bt aJ P w K mg base N x (qi st) f cdv A c s H E).nox (zF st) t/\t {nx:=λ_ H'=>Q .non H',rt:=Q} (Q4 N vs) H)(len:∀vs H Q E,sp vs H Q E->vs.length=ps.length:=by intro vs H Q E h;first|(cases h;subst_vars;rfl)|((repeat first|obtain⟨rfl,h⟩:=h|obtain⟨_,h⟩:=h);all_goals rfl)):Df P w K mg base x ps (k+1) sp:=
 a.df S len λf cdv A c s H vs Q E e h=>let⟨t,q1,q2⟩:=d f cdv A c s H vs Q E e h;#[t,q1.h,q2]
theorem _root_.L2.LX.dq{x Ob:Str}{st:δ}{f:Δ}{fd:FuncData}{N ps:Α}{k:Nat}{sp:Sp}(F:LX K x Ob st f fd)(S:GU N ps (qi st))(len:∀vs H Q E,sp vs H Q E->vs.length=ps.length)
  (c:∀(cdv:Γ) (A:Around) (a:Τ) (s:Θ) (H:Hp) (vs:Ε) (Q:VK) (E:XK),HB k (A.deeper (PyProof.Rows.envOfC Ob (qi st) s.heap.objs.size f cdv))->sp vs H Q E->
   ∃t,Mo (bt aJ P w K mg base N Ob (qi st) f cdv A a s H E).nox (zF st) t/\t {nx:=λ_ H'=>Q .non H',rt:=Q} (Q4 N vs) H):IP P w K mg base aJ (k+1) f fd ps sp:=
 F.ok S len λcdv A a s H vs Q E d h=>let⟨t,q1,q2⟩:=c cdv A a s H vs Q E d h;#[t,q1.h,q2]
theorem D7{x:Str}{st:δ}{ps:Α}{f:Δ}{fd:FuncData}(F:LX K x x st f fd)(m:mg x=↑(.ref f))(b:Iw K fd ps []):At K mg x st ps:=#[f,fd,F,m,F.kp,b]
end
end L3
namespace L3
open PySem PySem.Spec PyProof.Rows L2
def HW:Β:=(List.range 16).map λi=>((i:Nat):Int)
theorem kh:HW.length=16:=by decide
theorem B4:((List.range 16).map λi=>V.int ((i:Nat):Int))=HW.map V.int:=by decide +kernel
theorem AW{a:Type}{xs:List a}{z:Int}{j:Nat}{v:a}(e:z=(j:Int))(h:xs[j]? =↑v):zY xs z=↑v:=by rw[e];exact Qo h
theorem iL{n j:Nat}{z:Int}(e:z=(j:Int))(h:j<n):Z1 n z=↑j:=by rw[e];exact pq h
theorem lH{z:Int}(h:z∈HW):0<=z/\z<16:=by
 obtain⟨i,hi,e⟩:=Jt.mp h
 have:=J1.mp hi
 lia
end L3
namespace L3
open PySem PySem.Spec PyProof.Rows L2
open Sem (wp)
section
variable{prog:Ξ}{w:Ω}{A:Around}{E:GP}{s:Θ}
theorem rp{it t:Δ}{i:Nat}{its:Array Γ}{x:Γ}{Q:GP}(a:s.heap.IsTupleIter it t i)(g:s.heap.IsTuple t its)(hx:its[i]? =↑x)
  (j:∀h',h'.IsTupleIter it t (i+1)->Ψ.SameBut it s.heap h'->Q x {s with heap:=h'}):ε (model prog w) A (γ.SmallTypes.nextOf (.ref it)) Q E s:=by
 obtain⟨o,d,h,c⟩:=id a;obtain⟨l,e,_,m,f⟩:=g;unfold γ.SmallTypes.nextOf;refine Ja (wpAny_callSpecial?_slot (name:=Str.ofString "__next__") a.typeIs Gj
  (J5 Gj a.typeIs F.entry_tuple_iterator_next ?_ (F.args_tuple_iterator_next_1 _)))
 show ε _ _ (field (.ref it) 0 >>= _) _ _ s
 refine Ja (E4 d c (x:= .ref t) Z ?_)
 show ε _ _ (if(Γ.ref t==Γ.none)=true then _ else _) _ _ s
 rw[Jb (show¬((Γ.ref t==Γ.none)=true)from JJ)]
 show ε _ _ (field (.ref it) 1 >>= _) _ _ s
 refine Ja (E4 d c (x:= .int i 0) Z ?_)
 show ε _ _ (seqItems? (.ref t) >>= _) _ _ s
 refine Ja (Gk e f ?_)
 simp only[Fe,hx];refine Ja (Ff d c (by simp) (Jd #[x,Z,Jd (j _ ?_ (J8 ..))]))
 exact#[_,FB _ d (Gm (FH c _)),(Obj.cls_mapFields ..).trans h,by
  rw[FH c];simp [rawInt]]
theorem jk{it t:Δ}{i:Nat}{its:Array Γ}{Q:GP}(j:A.handled=none)(c:s.heap.IsTupleIter it t i)(l:s.heap.IsTuple t its)(hx:its[i]? =none)
  (n:∀h' e,Ψ.ExtBut it s.heap h'->(∃o,h'.get? e=↑o/\o.cls= .type "StopIteration")->E (.ref e) {s with heap:=h'}):
  ε (model prog w) A (γ.SmallTypes.nextOf (.ref it)) Q E s:=by
 obtain⟨o,f,q,h⟩:=id c;obtain⟨p,d,_,r,g⟩:=l;unfold γ.SmallTypes.nextOf;refine Ja (wpAny_callSpecial?_slot (name:=Str.ofString "__next__") c.typeIs Gj
  (J5 Gj c.typeIs F.entry_tuple_iterator_next ?_ (F.args_tuple_iterator_next_1 _)))
 show ε _ _ (field (.ref it) 0 >>= _) _ _ s
 refine Ja (E4 f h (x:= .ref t) Z ?_)
 show ε _ _ (if(Γ.ref t==Γ.none)=true then _ else _) _ _ s
 rw[Jb (show¬((Γ.ref t==Γ.none)=true)from JJ)]
 show ε _ _ (field (.ref it) 1 >>= _) _ _ s
 refine Ja (E4 f h (x:= .int i 0) Z ?_)
 show ε _ _ (seqItems? (.ref t) >>= _) _ _ s
 refine Ja (Gk d g ?_)
 simp only[Fe,hx];refine Ja (E7 (Ja (Ff f h (by simp) ?_)))
 show ε _ _ (newExc (.type "StopIteration") [] >>= _) _ _ _
 refine Ja ?_
 simp only[newExc,newTuple];refine Ja (J3 ?_ (by size_fits))
 refine Ja (m:=firstArgMember _ _) (E8 (a:=Γ.none) (by first|rfl|(simp only[firstArgMember];rfl)) ?_)
 refine J3 ?_ (by size_fits)
 simp only[raiseNew];refine Ja (wpAny_handled ?_)
 first|rw[show A.in1.handled=none from j]|rw[j]
 refine Ja (Jd (wpAny_throw ?_))
 exact n _ _ (((J8 ..).extBut.push _).push _) #[_,Jq _ Z,Z]
end
theorem B9{prog:Ξ}{w:Ω}{A:Around}(f:A.handled=none)(it t:Δ)(d:t≠it)(its:Array Γ):
  Draws prog w A it [it,t] its.size (λi v=>its[i]? =↑v) (λi h=>h.IsTupleIter it t i/\h.IsTuple t its) where
 live:=λ_ _ st=>let⟨o,ho,_⟩:=st.1;#[o,ho]
 frame:=λ_ _ _ st hk=>#[st.1.at λo e=>hk it (by simp) o e,let⟨o,e,r⟩:=st.2;#[o,hk t (by simp) o e,r]]
 item:=λi s Q E hi st j=>by
  refine rp st.1 st.2 (x:=its[i]) (by simp [hi]) λh' a c=>?_
  exact j _ h' s.toks (by simp [hi]) #[a,let⟨o,e,r⟩:=st.2;#[o,c.extBut _ _ d e,r]] c
 done:=λs Q E st g=>jk f st.1 st.2 (by simp) g
open AutoSeq1 (wpAny_loadPart')in
theorem nR(l:Δ)(items:Array Γ)(n:Nat)(f:μ)(j:Array Ν):
  Meets (γ.«enumerate.__new__» #[[.type "enumerate",.ref l],[]]) (λ_ R s=>s.heap.get? l=some {cls:= .type "tuple",dict:=f,data:= .seq items n,slots:=j}/\
   R (.ok (.ret (.ref (s.heap.push {cls:= .type "tuple_iterator",data:= .fields (List.toArray [.ref l,.int 0 0])}).objs.size)))
    {s with heap:=(s.heap.push {cls:= .type "tuple_iterator",data:= .fields (List.toArray [.ref l,.int 0 0])}).push {cls:= .type "enumerate",data:= .fields (List.toArray [.none,.bool false,.ref s.heap.objs.size,rawInt 0,.none,.none])}}):=
 .of_wp λprog w A R s h=>by
  obtain⟨o,g,d,tk,m⟩:=s;obtain⟨a,h⟩:=h
  have i:=sub_enumerate;have e:Ψ.IsTuple (Θ.heap #[o,g,d,tk,m]) l items:=#[_,a,Z,n,Z]
  wp_walk using FV a
  refine wpAny_stack_any λst=>Jd ?_
  split
  ·rename_i c _ _ _ _ _
   cases(c==Γ.type "enumerate")
   ·wp_walk using FV a,FP e
    exact#[_,Z,h]
   ·wp_walk using FV a,FP e
    exact#[_,Z,h]
  ·wp_walk using FV a,FP e
   exact#[_,Z,h]
section
variable{prog:Ξ}{w:Ω}{A:Around}{E:GP}{s:Θ}
theorem rM{l:Δ}{items:Array Γ}{Q:GP}(j:s.heap.IsTuple l items)
  (h:∀h',IsEnum h' (s.heap.objs.size+1) s.heap.objs.size 0 .none->h'.IsTupleIter s.heap.objs.size l 0->(∀b o,s.heap.get? b=↑o->h'.get? b=↑o)->Q (.ref (s.heap.objs.size+1)) {s with heap:=h'}):
  ε (model prog w) A (call (.type "enumerate") [.ref l]) Q E s:=by
 obtain⟨⟨c,d,p,m⟩,q,e,n,f⟩:=j
 replace e:c= .type "tuple":=e
 replace f:p= .seq items n:=f
 subst e f;refine callType_new F.called_enumerate ⋯ (F.typeCall_enumerate_1 _) (F.newCall_enumerate_1 _) (λa=>F.args_object_init_2 a _) F.entry_enumerate_new
  (nR l items n d m) #[q,?_]
 have i:(s.heap.push {cls:= .type "tuple_iterator",data:= .fields (List.toArray [.ref l,.int 0 0])}).objs.size=s.heap.objs.size+1:=JX ..
 show _/\_
 rw[i];have g:IsEnum ((s.heap.push {cls:= .type "tuple_iterator",data:= .fields (List.toArray [.ref l,.int 0 0])}).push
   {cls:= .type "enumerate",data:= .fields (List.toArray [.none,.bool false,.ref s.heap.objs.size,rawInt 0,.none,.none])}) (s.heap.objs.size+1) s.heap.objs.size 0 .none:=by
  have:=Jq (s.heap.push {cls:= .type "tuple_iterator",data:= .fields (List.toArray [.ref l,.int 0 0])})
   (o:={cls:= .type "enumerate",data:= .fields (List.toArray [.none,.bool false,.ref s.heap.objs.size,rawInt 0,.none,.none])}) Z
  rw[i]at this;exact this
 exact#[#[_,g,Z],h _ g #[_,Jl _ (Jq _ Z),Z,Z] λb o x=>Jl _ (Jl _ x)]
end
def kD(K:ι)(a:Δ):It:=
 #[λi H=>∃xs x,G9 K H a xs/\xs[i]? =↑x,λi H x H'=>∃p v,H p=none/\x= .ref p/\(∀xs,G9 K H a xs->xs[i]? =↑v)/\H'=GW H p (.tup [.int i,v]),λi H=>∃xs,G9 K H a xs/\xs.length<=i]
theorem rG{P:Ξ}{w:Ω}{K:ι}{L:Ι}{x1}{pos:Pos}(a e it:Δ)(t:e≠it):
  Lh P w K (.Tuple L x1 pos) (kD K a) [e,it] e (λi h=>(∃d,IsEnum h e it i d)/\h.IsTupleIter it a i) where
 mem:=by simp
 obj:=λi h st b n=>by
  obtain⟨⟨d,l⟩,⟨o,j,Q,hd⟩⟩:=st;rcases Jm.mp n with z|z
  ·subst z
   refine#[_,l,λv z=>?_]
   have z':Data.fields _=Data.cell v:=z
   cases z'
  ·rw[Jh.mp z]
   exact#[o,j,λv z=>by rw[hd]at z;cases z]
 keep:=λi h h' st k=>#[let⟨d,l⟩:=st.1;#[d,k e (by simp) _ l],st.2.at λo q=>k it (by simp) o q]
 item:=by
  intro X hP hw W Q i Oa s σ H E I O st hg;subst hP hw W;obtain⟨xs,x,R,hx⟩:=hg;obtain⟨its,rv,p,hz⟩:=I.tuple R;obtain⟨u,hu,ru⟩:=rv.get hx;obtain⟨⟨d,l⟩,g⟩:=st;have Y:a≠e:=λz=>by
   subst z;obtain⟨o,j,c,_⟩:=p;rw[l]at j;cases j;exact absurd (show Γ.type "enumerate"=Γ.type "tuple" from c) ⋯
  have G:a≠it:=λz=>by
   subst z;obtain⟨o,j,c,_⟩:=p;obtain⟨o',m,r,_⟩:=g;rw[j]at m;cases m;rw[c]at r;exact absurd r ⋯
  have S:i<its.toArray.size:=by
   have:=(Js.mp hu).1
   simpa using this
  refine wpAny_pyNext_enum_itemD (B9 (A:=X.A.in1) (I.ok.hd Q) it a G its.toArray) l #[g,p] S t (by simp [t,Ne.symm Y]) λv h' tk hv j ⟨B,_⟩ ht a2 hk=>#[_,Z,?_]
  have ev:v=u:=by
   have M:its[i]? =↑v:=by simpa using hv
   rw[hu]at M;exact(JA M).symm
  subst ev;refine wpAny_letOwnedTupleGo_enum j λa1 C f=>?_
  have D:e<s.heap.objs.size:=Jj l
  have J:it<s.heap.objs.size:=by obtain⟨_,y,_⟩:=g;exact Jj y
  refine#[.ref s.heap.objs.size,GW H s.heap.objs.size (.tup [.int i,x]),?_,Z,#[_,x,I.hok.fresh (Jf _),Z,λys hy=>by rw[I.tuple_inj hy R];exact hx,Z],#[#[_,by simpa using C],?_],?_]
  ·show L2.GX X Oa σ _ {s with heap:=a1,toks:=tk+1}
   refine pM (s:=s) (its:=[.int i tk,v]) I (ch:=[e,it]) (λb o n q=>?_) O (λb n=>?_) (Jf _) (by show 2<=ζ;decide) (.cons #[_,Z] (.cons ru .nil)) ?_
   ·have N:b≠e:=λz=>n (by simp [z])
    have U:b≠it:=λz=>n (by simp [z])
    exact(f.2 b N).trans (hk b o N U q)
   ·rcases Jm.mp n with z|z
    ·subst z;exact#[_,C]
    ·rw[Jh.mp z]
     obtain⟨o,y,_⟩:=B
     exact#[o,(f.2 it (Ne.symm t)).trans y]
   ·exact#[_,(f.2 _ (EV D)).trans ht,Z,_,Z]
  ·exact B.extBut f.extBut (Ne.symm t)
  ·intro b n
   rw[qm]
   ·exact(O b n).1
   ·rcases Jm.mp n with z|z
    ·subst z;exact Jk D
    ·rw[Jh.mp z];exact Jk J
 done:=by
  intro X hP hw W Q i Oa s σ H E I O st hg;subst hP hw W;obtain⟨xs,R,hx⟩:=hg;obtain⟨its,rv,p,hz⟩:=I.tuple R;obtain⟨⟨d,l⟩,g⟩:=st;obtain⟨f0,f1,f2,f3,f4,f5⟩:=O it (by simp)
  have hl:=rv.length;have G:a≠it:=λz=>by
   subst z;obtain⟨o,j,c,_⟩:=p;obtain⟨o',m,r,_⟩:=g;rw[j]at m;cases m;rw[c]at r;exact absurd r ⋯
  unfold pyNext;have hT:s.TypeIs (.ref e) "enumerate":=#[_,l,Z]
  refine Ja (FW (wpAny_callSpecial?_slot (name:=Str.ofString "__next__") hT F.slot_enumerate_next
   (J5 F.slot_enumerate_next hT F.entry_enumerate_next ?_ (F.args_enumerate_next_1 _))))
  show ε _ _ (field (.ref e) 2 >>= _) _ _ _
  refine Ja (E4 l Z (x:= .ref it) Z ?_)
  refine Ja (jk (I.ok.hd Q) g p (by simp;lia) λh' ex eb a0=>?_)
  obtain⟨o,j,c⟩:=a0;refine Ja (FI (T:="StopIteration") (b:=true) #[o,j,c] isSubtype_stop ?_)
  exact Jd #[Z,I.turned (t':=s.toks) (λb o n e=>eb b o n e) f0 f1 f3 f4 f5]
 self:=λ_ _ _ _ _ st h=>by
  obtain⟨⟨d,l⟩,_⟩:=st;exact F8 l h
section
variable{X:Cx}
def uf(K:ι)(ta:TA):TI:=λσ H R=>ta σ H λvs H1=>∃a,vs=[.ref a]/\((∃xs,G0 K H1 a xs)/\R (pj K a) H1\/(∃xs,G9 K H1 a xs)/\R (kD K a) H1)
theorem wP{a:Φ}{ta:TA}{p pos:Pos}{i:Ι}{x1}{j:Pos}(hg:Gl X "enumerate")(hm:X.mg "enumerate"=none)(ha:PA X [a] ta)(hs:θ [a] X.env=[(false,eval a X.env)]:=by rfl):
  PI X (.Tuple i x1 j) (.Call (.Name "enumerate" p) [a] [] pos) (uf X.K ta):=by
 intro Oa s σ H R I h;refine Call_ (ZR I hg hm boot_enumerate (FQ (qz (ha pos Oa s σ H _ I h) λD c x=>?_) hs Z))
 obtain⟨vs,H1,f,w,r⟩:=x;obtain⟨l,e,r⟩:=r;subst e;obtain⟨u,rfl,A⟩:=w.one;cases A;have o:∀b∈[c.heap.objs.size+1,c.heap.objs.size],Qq X Oa H1 b:=λb C=>by
  have m:c.heap.objs.size<=b:=by
   rcases Jm.mp C with z|z
   ·rw[z];exact Fk _
   ·rw[Jh.mp z];exact Jf _
  exact f.fpOk m (f.hok.fresh m)
 rcases r with⟨⟨xs,t⟩,q⟩|⟨⟨xs,t⟩,q⟩
 ·obtain⟨g,B,pl,y⟩:=f.list t
  refine call_enumerate_list pl.isList λh' n d v hk=>F8 n ?_
  exact#[c.heap.objs.size+1,[c.heap.objs.size+1,c.heap.objs.size],_,_,H1,Z,f.kept (t':=c.toks) hk,jb l _ _ (EV (E2 _)),#[#[_,n],d],o,q]
 ·obtain⟨g,B,pl,y⟩:=f.tuple t
  refine rM (show c.heap.IsTuple l g.toArray from pl) λh' n d hk=>F8 n ?_
  exact#[c.heap.objs.size+1,[c.heap.objs.size+1,c.heap.objs.size],_,_,H1,Z,f.kept (t':=c.toks) hk,rG l _ _ (EV (E2 _)),#[#[_,n],d],o,q]
theorem ve{K:ι}{a:Δ}{xs:Ε}{g:TG}{tb:TS}{D:HY}{σ:L2.St}{H:Hp}(Pv:Nat->L2.St->Hp->Prop)(l:Pv 0 σ H)(hl:∀i σ H,i<=xs.length->Pv i σ H->G9 K H a xs)
  (hs:∀i x σ H p,xs[i]? =↑x->Pv i σ H->H p=none->g (.ref p) σ (GW H p (.tup [.int i,x])) λd h=>tb {D with nx:=Pv (i+1),ct:=Pv (i+1),bk:=D.nx} d h)(hd:∀σ H,Pv xs.length σ H->D.nx σ H):
  ∃W:Nat->Nat->L2.St->Hp->Prop,(∃m,W 0 m σ H)/\∀i m σ H,W i m σ H->
   ((kD K a).stop i H/\D.nx σ H)\/((kD K a).go i H/\∃N:L2.St->Hp->Prop,(∀c H',N c H'->∃j,j<m/\W (i+1) j c H')/\∀x H',(kD K a).yld i H x H'->g x σ H' λd h=>tb {D with nx:=N,ct:=N,bk:=D.nx} d h):=by
 refine#[λi m σ H=>m=xs.length-i/\i<=xs.length/\Pv i σ H,#[xs.length,by simp,Jy _,l],?_]
 rintro i m σ H ⟨rfl,hi,p⟩
 have q:=hl i σ H hi p
 by_cases f:i<xs.length
 ·refine .inr #[#[xs,xs[i],q,by simp [f]],Pv (i+1),λc H' o=>#[xs.length-(i+1),by lia,Z,f,o],λx H' y=>?_]
  obtain⟨n,v,r,rfl,s,rfl⟩:=y;exact hs i v σ H n (s xs q) p r
 ·have e:i=xs.length:=by lia
  subst e;exact .inl #[#[xs,q,Jf _],hd σ H p]
end
end L3
namespace L3
open PySem PySem.Spec PyProof.Rows L2 PySem.SeqAt
open Sem (wp)
open AutoSeq1 (wpAny_loadPart')
section
variable{X:Cx}
theorem Rd.same{H H':Hp}{a:Δ}{u:HO}(s:GS H H')(h:Rd H a u):Rd H' a u:=by
 rcases h with h|⟨o,h⟩
 ·exact .inl (s _ _ h)
 ·exact .inr #[o,s _ _ h]
inductive M9 (H:Hp):V->String->Prop where
 |int (i:Int):M9 H (.int i) "int"
 |bl (b:Bool):M9 H (.bl b) "bool"
 |tup {a:Δ} {xs:Ε} (h:Rd H a (.tup xs)):M9 H (.ref a) "tuple"
 |str (x:Str):M9 H (.str x) "str"
 |non:M9 H .non "NoneType"
 |lst {a:Δ} {xs:Ε} (h:H a=↑(.lst xs)):M9 H (.ref a) "list"
theorem Ap{H:Hp}{x:V}{t:String}(h:M9 H x t):t∈iH:=by cases h<;>simp
theorem da:zi X (.builtin "isinstance") (λxs H Q=>∃x c t,xs=[x,.ty c]/\M9 H x t/\c∈lB/\Q (.bl (aC t c)) H):=by
 intro Oa s σ H xs p Q I r h;obtain⟨x,c,t,rfl,ty,l,q⟩:=h;obtain⟨u,v,rfl,f,m⟩:=j5 r
 cases(show v=Γ.type c from m)
 have e:=pN X.K t (Ap ty) c l;have d:∀tk,EP X Oa σ Q (.bool (aC t c)) {s with toks:=tk}:=λtk=>#[.bl _,H,I.tok tk,Z,q]
 cases ty with
 |int i=>obtain⟨t,q⟩:=(show∃t,u=Γ.int i t from f);cases q;exact J4 W.kitx_int I.kIn True.intro e (λz=>nomatch z) d
 |bl b=>cases(show u=Γ.bool b from f);exact J4 W.kitx_bool I.kIn True.intro e (λz=>nomatch z) d
 | @tup a ys hr=>
  cases(show u=Γ.ref a from f)
  obtain⟨j,_,⟨o,h1,g,_⟩,_⟩:=I.tuple (.inl hr)
  exact J4 W.kitx_tuple I.kIn #[o,h1,g] e (λz=>nomatch z) d
 |str x=>obtain⟨t,q⟩:=(show∃t,u=Γ.str x t from f);cases q;exact J4 W.kitx_str I.kIn True.intro e (λz=>nomatch z) d
 |non=>cases(show u=Γ.none from f);exact J4 W.kitx_none I.kIn True.intro e (λz=>nomatch z) d
 | @lst a ys ea=>
  cases(show u=Γ.ref a from f)
  obtain⟨_,_,n,_,h1⟩:=(show Hv X.prog X.w H s.heap a (.lst ys)from I.hok a _ ea)
  exact J4 W.kitx_list I.kIn #[_,h1,Z] e (λz=>nomatch z) d
end
def zz(t:Β):Β:=(List.range 16).map λd=>((t.idxOf ((d:Nat):Int):Nat):Int)
theorem aP(t:Β):(zz t).length=16:=by simp [zz]
section
variable{t:Β}(p:t.Perm HW)
include p
theorem vA:t.Nodup:=p.nodup_iff.mpr ⋯
theorem pJ:t.length=16:=by rw[p.length_eq,kh]
theorem Bp{d:Nat}(h:d<16):((d:Nat):Int)∈t:=p.mem_iff.mpr (Jt.mpr #[d,J1.mpr h,Z])
theorem kR{i:Nat}(h:i<t.length):0<=t[i]/\t[i]<16:=lH (p.mem_iff.mp (Fi h))
theorem uD{i:Nat}(h:i<t.length):t.idxOf t[i]=i:=(vA p).idxOf_getElem i h
theorem By{d:Nat}(h:d<16):(zz t)[d]'(by rw[aP];exact h)=((t.idxOf ((d:Nat):Int):Nat):Int):=by simp [zz]
end
end L3
namespace L3
open PySem PySem.Spec L2
variable{X:Cx}
theorem aM{a:List δ}:Mo X a tG:=#[tM]
theorem wH{a:Φ}{ta:TA}{p pos:Pos}{c:Ι}{x1}{d:Pos}(hg:Gl X "enumerate")(hm:X.mg "enumerate"=none)(ha:QA X [a] ta)(hs:θ [a] X.env=[(false,eval a X.env)]:=by rfl):QI X (.Tuple c x1 d) (.Call (.Name "enumerate" p) [a] [] pos) (uf X.K ta):=#[wP (hg:=hg) (hm:=hm) (ha:=ha.h) (hs:=hs)]
def Ip(H:Hp)(b:Δ)(c:Nat):Prop:=∃n m k:Int,H b=↑(sw n m k)/\0<=m/\m<4611686018427387904/\0<=k/\k<=c
structure IQ(b:Δ)(c:Nat)(H H':Hp):Prop where
 kp:∀a o,a≠b->H a=↑o->H' a=↑o
 bx:Ip H' b c
theorem Ip.mono{H:Hp}{b:Δ}{c d:Nat}(h:Ip H b c)(l:c<=d):Ip H b d:=by
 obtain⟨n,m,k,e,g,a,f,i⟩:=h
 exact#[n,m,k,e,g,a,f,by lia]
theorem IQ.mono{b:Δ}{c d:Nat}{H H':Hp}(h:IQ b c H H')(l:c<=d):IQ b d H H':=#[h.kp,h.bx.mono l]
theorem IQ.trans{b:Δ}{c d:Nat}{H H1 a:Hp}(x:IQ b c H H1)(y:IQ b d H1 a):IQ b d H a:=#[λc o n e=>y.kp c o n (x.kp c o n e),y.bx]
theorem _root_.L2.GS.grc{b:Δ}{c:Nat}{H H':Hp}(x:GS H H')(h:Ip H b c):IQ b c H H':=#[λc o _ e=>x c o e,let⟨n,m,k,e,r⟩:=h;#[n,m,k,x _ _ e,r]]
theorem IQ.same{b:Δ}{c:Nat}{H H1 a:Hp}(x:IQ b c H H1)(y:GS H1 a):IQ b c H a:=x.trans (y.grc x.bx)
theorem qS{H:Hp}{b l:Δ}{c:Nat}(hb:Ip H b c)(h:H l=none):l≠b:=λz=>by
 obtain⟨_,_,_,e,_⟩:=hb;subst z;rw[e]at h;cases h
inductive Na (K:ι) (vs:Ε) (H:Hp) (Q:VK):Prop
 |mk (a:Δ) (ns:Β) (k:Nat) (h1:vs=[.ref a,.int k]) (h2:G0 K H a (ns.map V.int)) (h3:∀b H',H b=none->GS H H'->Ip H' b 0->Q (.ref b) H')
def vB(K:ι):Sp:=λvs H Q _=>Na K vs H Q
inductive Mp (vs:Ε) (H:Hp) (Q:VK):Prop
 |mk (b:Δ) (many:Int) (c:Nat) (h1:vs=[.ref b,.int many]) (h2:Ip H b c) (h3:c<1000000000) (h4:0<many) (h5:many<1073741824) (h6:∀r H',0<=r->r<many->IQ b (c+1) H H'->Q (.int r) H')
def QL:Sp:=λvs H Q _=>Mp vs H Q
theorem QU{H H':Hp}{p:Δ}(h:H' p=none)(s:GS H H'):H p=none:=by
 cases e:H p with
 |none=>rfl
 |some o=>rw[s _ _ e]at h;cases h
def fN:V->Bool
 | .int _=>true
 |_=>false
theorem Bo{H:Hp}{x:V}{t:String}(h:kd H x=↑t):fN x=(aC t "int"&& ! aC t "bool"):=by
 cases x with
 |non=>cases h;decide
 |bl b=>cases h;show false=_;decide
 |int i=>cases h;show true=_;decide
 |str x=>cases h;show false=_;decide
 |byt b=>cases h
 |flt b=>cases h
 |ty b=>cases h
 |ref a=>
  rcases hU h with⟨xs,e,rfl⟩|⟨xs,e,rfl⟩
  ·show false=_;decide
  ·show false=_;decide
theorem v8{x:V}(h:fN x=true):∃i,x= .int i:=by
 cases x<;>first|exact#[_,Z]|cases h
theorem uY{x:V}(h:fN x=false):cn x=false:=by
 cases x<;>first|rfl|cases h
inductive LZ (vs:Ε) (H:Hp) (Q:VK):Prop
 |mk (x:_) (t:_) (h1:vs=[x]) (h2:kd H x=↑t) (h3:Q (.bl (fN x)) H)
def fV:Sp:=λvs H Q _=>LZ vs H Q
inductive LF (H:Hp):Nat->V->V->Prop where
 |int (n:Nat) (i:Int):LF H n (.int i) (.int i)
 |str (n:Nat) (x:Str):LF H n (.str x) (.str x)
 |non (n:Nat):LF H n .non .non
 | tup {n:Nat} {a b:Δ} {xs ys:Ε} (h1:Rd H a (.tup xs)) (h2:Rd H b (.tup ys)) (hl:xs.length=ys.length) (hz:xs.length<=ζ)
   (hi:∀(i:Nat) (x y:V),xs[i]? =↑x->ys[i]? =↑y->LF H n x y):LF H (n+1) (.ref a) (.ref b)
theorem LF.ints{H:Hp}{n:Nat}{a b:Δ}{ns:Β}(h1:Rd H a (.tup (ns.map V.int)))(h2:Rd H b (.tup (ns.map V.int)))(hz:ns.length<=ζ):LF H (n+1) (.ref a) (.ref b):=
 .tup h1 h2 Z (by rw[Je];exact hz) λi x y d c=>by
  rw[d]at c;cases c;obtain⟨z,rfl,_⟩:=Qg d;exact .int _ _
theorem GS.sqt{K:ι}{H H':Hp}{a:Δ}{xs:Ε}(e:GS H H')(h:G9 K H a xs):G9 K H' a xs:=by
 rcases h with h|h
 ·exact .inl (Rd.same e h)
 ·exact .inr h
def QM(t:Β)(i:Nat):Β:=(List.range 16).map λd=>if((d:Nat):Int)∈t.take i then((t.idxOf ((d:Nat):Int):Nat):Int)else 0
theorem bz(t:Β)(i:Nat):(QM t i).length=16:=by simp [QM]
theorem yh(t:Β):QM t 0=List.replicate 16 0:=by simp only[QM,List.take_zero,JE,JD];rfl
theorem vw{t:Β}{i d:Nat}(h:d<16):(QM t i)[d]'(by rw[bz];exact h)=if((d:Nat):Int)∈t.take i then((t.idxOf ((d:Nat):Int):Nat):Int)else 0:=by simp [QM]
theorem Bb{t:Β}(p:t.Perm HW):QM t t.length=zz t:=by
 unfold QM zz;refine FJ λd a=>?_
 rw[E5,Jc (Bp p (J1.mp a))]
theorem xi{t:Β}(p:t.Perm HW){i:Nat}(hi:i<t.length):(QM t i).set t[i].toNat (i:Int)=QM t (i+1):=by
 have b:=kR p hi;refine List.ext_getElem (by rw[Fl,bz,bz]) λd h1 f=>?_
 have c:d<16:=by rw[bz]at f;exact f
 rw[List.getElem_set,vw c,vw c,J9,Jg hi,Option.toList_some]
 by_cases e:t[i].toNat=d
 ·have a:((d:Nat):Int)=t[i]:=by lia
  rw[Jc e,Jc (by rw[a];exact JV _ (Jh.mpr Z)),a,uD p hi]
 ·have a:((d:Nat):Int)≠t[i]:=by lia
  rw[Jb e];simp only[JL,Jh,a,JF]
inductive Nb (K:ι) (vs:Ε) (H:Hp) (Q:VK):Prop
 |mk (a:Δ) (t:Β) (h1:vs=[.ref a]) (h2:(G0 K H a (t.map V.int)\/G9 K H a (t.map V.int))) (h3:t.Perm HW) (h4:∀p H',GS H H'->H' p=↑(.tup ((zz t).map V.int))->Q (.ref p) H')
def uS(K:ι):Sp:=λvs H Q _=>Nb K vs H Q
theorem Bi{X:Cx}{K:ι}(a:X.K=K){pos:Pos}{es:Ι}{k:Nat}{t:Zw}(n:Nat)(hc:X.calm=true)(h:Nv X es t)(hn:(assignEach es X.env).length=n:=by rfl)(hst:(assignEach es X.env).findIdx? (·.1)=none:=by rfl):QG X (.Tuple es k pos) (xb K n t):=by
 subst a
 exact#[mY (hc:=hc) (h:=h.h) (hn:=hn) (hst:=hst)]
end L3
namespace L3
open PySem PySem.Spec PyProof.Rows L2
open Sem (wp)
namespace RV
theorem tS:Slot "reversed" "__init__" "object.__init__":=
  .of (owner := "object") (n := "__init__") (by rw[FX,FY];kernel_rfl) nofun nofun nofun
    (by first | exact .inl nofun | exact .inr nofun) (by rw[FD];kernel_rfl)
theorem called:TypeCalled "reversed" "reversed.__new__" "object.__init__":=
 #[nofun,nofun,#[_,_,F.mro_reversed],F.made_reversed,nofun,F.sub_reversed_self,tS]
theorem slot_next:Slot "reversed" "__next__" "reversed.__next__":=
  .of (owner := "reversed") (n := "__next__") (by rw[FX,FY];kernel_rfl) nofun nofun nofun
    (by first | exact .inl nofun | exact .inr nofun) (by rw[FD];kernel_rfl)
theorem entry_next:entryFor table "reversed.__next__"=some γ.«reversed.__next__»:=entryFor_of_tree (by kernel_rfl)
theorem jo:Manifest.owners.lookup (String.ofList ['d', 'e', 's', 'r', 'e', 'v', 'e', 'r'].reverse)=↑Manifest.sig_reversed:=by kernel_rfl
theorem args_next(a:Γ):argsOk "reversed.__next__" #[[a],[]]:=by
 unfold argsOk;rw[signature?_of (id:="reversed.__next__") (n:=['_', '_', 't', 'x', 'e', 'n', '_', '_']) (o:=['d', 'e', 's', 'r', 'e', 'v', 'e', 'r']) (by kernel_rfl) jo]
 kernel_rfl
theorem slot_iter:Slot "reversed" "__iter__" "reversed.__iter__":=
  .of (owner := "reversed") (n := "__iter__") (by rw[FX,FY];kernel_rfl) nofun nofun nofun
    (by first | exact .inl nofun | exact .inr nofun) (by rw[FD];kernel_rfl)
theorem args_iter(a:Γ):argsOk "reversed.__iter__" #[[a],[]]:=by
 unfold argsOk;rw[signature?_of (id:="reversed.__iter__") (n:=['_', '_', 'r', 'e', 't', 'i', '_', '_']) (o:=['d', 'e', 's', 'r', 'e', 'v', 'e', 'r']) (by kernel_rfl) jo]
 kernel_rfl
theorem entry_iter:entryFor table "reversed.__iter__"=some γ.«dict_keyiterator.__iter__»:=
  entryFor_alias (id':="dict_keyiterator.__iter__") (by kernel_rfl)
    (by first | rfl | decide +kernel | (unfold String.splitOn
                                        simp +decide [String.splitOnAux])) nofun (by kernel_rfl)
theorem no_tuple:typeLookup (.type "tuple") "__reversed__"=pure none:=by
 rw[FX,FY]
 kernel_rfl
theorem tup_dict:isSubtype (.type "tuple") (.type "dict")=pure false:=by
 rw[FD]
 kernel_rfl
theorem ri_rev:isSubtype (.type "range_iterator") (.type "reversed")=pure false:=by
 rw[FD]
 kernel_rfl
theorem tc1(a:Γ):checkTypeCall "reversed" #[[a],[]]=pure ():=by kernel_rfl
end RV
def IV(h:Ψ)(it t:Δ)(i:Int):Prop:=∃o,h.get? it=↑o/\o.cls= .type "reversed"/\o.data= .fields (List.toArray [.ref t,rawInt i])
theorem pO(l:Δ)(items:Array Γ)(hz:items.size<=ζ):
  Meets (γ.«reversed.__new__» #[[.type "reversed",.ref l],[]]) (λA R s=>s.heap.IsTuple l items/\
   R (.ok (.ret (.ref s.heap.objs.size))) {s with heap:=s.heap.push {cls:= .type "reversed",data:= .fields (List.toArray [.ref l,rawInt ((items.size:Int)-1)])},toks:=s.toks+2}):=
 .of_wp λprog w A R s h=>by
  obtain⟨f,g,d,tk,a⟩:=s;obtain⟨i,h⟩:=h
  have m:=F.sub_reversed_self;have j:Θ.TypeIs #[f,g,d,tk,a] (.ref l) "tuple":=let⟨o,e,c,_⟩:=i;#[o,e,c]
  have q:Ψ.IsTuple (Θ.heap #[f,g,d,tk,a]) l items:=i
  have p:=RV.tup_dict;have n:IsTup (Θ.heap #[f,g,d,tk,a]) l items:=i
  have r:=ZS
  wp_walk using FK j RV.no_tuple,E8 p,FK j F.slot_tuple_getitem.lookup,len_tuple n (by omega)
  exact#[_,Z,h]
end L3
namespace L3
open PySem PySem.Spec PyProof.Rows L2
open Sem (wp)
abbrev Ab(a b c:Int):Bool:=γ.Range.rangeFitsLong a&&γ.Range.rangeFitsLong b&&γ.Range.rangeFitsLong c&&γ.Range.rangeFitsLong (-c)&&γ.Range.rangeFitsLong (a-c)&&γ.Range.rangeFitsLong (γ.Range.rangeSize a b c)
theorem nM(r:Δ)(a b c:Int)(t u v:Tok)(e:¬(! Ab a b c)=true):
  Meets (γ.«range.__reversed__» #[[.ref r],[]]) (λ_ R s=>s.heap.get? r=some {cls:= .type "range",dict:=none,data:= .fields (List.toArray [.int a t,.int b u,.int c v]),slots:= (List.toArray [])}/\
   R (.ok (.ret (.ref s.heap.objs.size))) {s with heap:=s.heap.push {cls:= .type (if Ab a b c then "range_iterator" else "longrange_iterator"),data:= .fields (List.toArray [rawInt (a+(γ.Range.rangeSize a b c-1)*c),rawInt (γ.Range.rangeSize a b c),rawInt (-c)])}}):=
 .of_wp λprog w A R s h=>by obtain⟨i,g,d,tk,f⟩:=s;obtain⟨j,h⟩:=h;wp_walk;exact#[_,Z,h]
theorem uG(n:Nat):γ.Range.rangeSize 0 n 1=n:=by
 unfold γ.Range.rangeSize;rw[Jc ⋯]
 split<;>lia
theorem vI{n:Nat}(hn:(n:Int)<2 ^ 62):Ab 0 n 1=true:=by
 unfold Ab;rw[uG];simp only[γ.Range.rangeFitsLong,JC,decide_eq_true_eq];lia
theorem rb(r:Δ)(n:Nat)(t u v:Tok)(hn:(n:Int)<2 ^ 62):
  Meets (γ.«range.__reversed__» #[[.ref r],[]]) (λ_ R s=>s.heap.get? r=some {cls:= .type "range",data:= .fields (List.toArray [.int 0 t,.int n u,.int 1 v])}/\
   R (.ok (.ret (.ref s.heap.objs.size))) {s with heap:=s.heap.push {cls:= .type "range_iterator",data:= .fields (List.toArray [rawInt ((n:Int)-1),rawInt n,rawInt (-1)])}}):=by
 have g:=nM r 0 n 1 t u v (by rw[vI hn];decide)
 rw[vI hn,uG,Jc Z,Int.mul_one,Int.zero_add]at g;exact g
section
variable{prog:Ξ}{w:Ω}{A:Around}{E:GP}{s:Θ}
theorem IV.typeIs{it t:Δ}{i:Int}(x:IV s.heap it t i):s.TypeIs (.ref it) "reversed":=by
 obtain⟨o,c,a,_⟩:=x
 exact#[o,c,a]
theorem nJ{it t:Δ}{i:Nat}{items:Array Γ}{x:Γ}{Q:Ν->Θ->Prop}(d:IV s.heap it t (i:Int))(hl:IsTup s.heap t items)(hx:items[i]? =↑x)(hz:items.size<=ζ)
  (n:∀h' tk,IV h' it t ((i:Int)-1)->Ψ.SameBut it s.heap h'->Q ↑x {s with heap:=h',toks:=tk}):ε (model prog w) A (pyNext (.ref it)) Q E s:=by
 obtain⟨o,g,m,f⟩:=id d;have j:s.TypeIs (.ref t) "tuple":=let⟨o,e,c,_⟩:=hl;#[o,e,c]
 have p:=ZS;have h:i<items.size:=(Array.getElem?_eq_some_iff.mp hx).1
 unfold pyNext;refine Ja (FW (wpAny_callSpecial?_slot (name:=Str.ofString "__next__") (IV.typeIs d) RV.slot_next
  (J5 RV.slot_next (IV.typeIs d) RV.entry_next ?_ (RV.args_next _))))
 unfold γ.«reversed.__next__»
 refine Ja (E8 (a:=(Γ.ref it,[])) Z ?_)
 try dsimp only
 refine Ja (E4 g f (x:= .ref t) Z ?_)
 refine Ja (E4 g f (x:=rawInt (i:Int)) Z ?_)
 show ε _ _ (if(i:Int)<0 then _ else _) _ _ s
 rw[Jb (by lia)]
 try dsimp only
 refine Ja (FK j F.slot_tuple_getitem.lookup ?_)
 rw[Jb (show¬((↑(Γ.builtin "tuple.__getitem__")).isNone=true)from JJ)]
 refine Ja (wpAny_mkInt ?_)
 have l:IsTup (Θ.heap {s with toks:=s.toks+1}) t items:=hl
 refine Ja (FW (getItem_tuple l (by lia) (by lia) (by unfold seqIndex?;rw[Jb (show¬((i:Int)<0) by lia)];simp [h]) hx ?_))
 try dsimp only
 refine Ja (E4 (s:={s with toks:=s.toks+1}) g f (x:=rawInt (i:Int)) Z ?_)
 show ε _ _ (setField (.ref it) 1 (rawInt ((i:Int)-1)) >>= _) _ _ _
 refine Ja (Ff (s:={s with toks:=s.toks+1}) g f (by simp) ?_)
 refine Jd #[x,Z,Jd (n _ _ ?_ (J8 ..))]
 exact#[_,FB _ g (Gm (FH f _)),(Obj.cls_mapFields ..).trans m,by
  rw[FH f];simp]
theorem sW{it t:Δ}{Q:Ν->Θ->Prop}(g:A.handled=none)(c:IV s.heap it t (-1))
  (h:∀h',Ψ.ExtBut it s.heap h'->Q none {s with heap:=h'}):ε (model prog w) A (pyNext (.ref it)) Q E s:=by
 obtain⟨o,e,i,d⟩:=id c;unfold pyNext;refine Ja (FW (wpAny_callSpecial?_slot (name:=Str.ofString "__next__") (IV.typeIs c) RV.slot_next
  (J5 RV.slot_next (IV.typeIs c) RV.entry_next ?_ (RV.args_next _))))
 unfold γ.«reversed.__next__»
 refine Ja (E8 (a:=(Γ.ref it,[])) Z ?_)
 try dsimp only
 refine Ja (E4 e d (x:= .ref t) Z ?_)
 refine Ja (E4 e d (x:=rawInt (-1)) Z ?_)
 show ε _ _ (if(-1:Int)<0 then _ else _) _ _ s
 rw[Jc ⋯]
 refine Ja (E7 ?_)
 refine Ja ?_
 show ε _ _ (setField (.ref it) 1 (rawInt (-1)) >>= _) _ _ _
 refine Ja (Ff e d (by simp) ?_)
 have f:=FB (Obj.mapFields (·.setIfInBounds 1 (rawInt (-1)))) e (Gm (FH d _))
 refine Ff f (FH d _) (by simp) ?_
 refine Ja ?_
 show ε _ _ (newExc (.type "StopIteration") [] >>= _) _ _ _
 refine Ja ?_
 simp only[newExc,newTuple];refine Ja (J3 ?_ (by size_fits))
 refine Ja (m:=firstArgMember _ _) (E8 (a:=Γ.none) (by first|rfl|(simp only[firstArgMember];rfl)) ?_)
 refine J3 ?_ (by size_fits)
 simp only[raiseNew];refine Ja (wpAny_handled ?_)
 first|rw[show A.in1.handled=none from g]|rw[g]
 refine Ja (Jd (wpAny_throw ?_))
 refine Ja (FI (T:="StopIteration") (b:=true) #[_,Jq _ Z,Z] isSubtype_stop ?_)
 exact Jd (h _ (((((J8 ..).trans (J8 ..)).extBut).push _).push _))
theorem uL{it t:Δ}{i:Int}{Q:GP}(a:IV s.heap it t i)(h:Q (.ref it) s):ε (model prog w) A (pyIter (.ref it)) Q E s:=by
 refine wpAny_pyIter_slot (IV.typeIs a) RV.slot_iter (J5 RV.slot_iter (IV.typeIs a) RV.entry_iter ?_ (RV.args_iter _))
 show ε _ _ (ret (.ref it)) _ _ s
 exact Jd #[_,Z,"reversed",_,IV.typeIs a,RV.slot_next.lookup,h]
theorem Dw{l:Δ}{items:Array Γ}{Q:GP}(hl:s.heap.IsTuple l items)(hz:items.size<=ζ)
  (h:∀h' tk,IV h' s.heap.objs.size l ((items.size:Int)-1)->(∀b o,s.heap.get? b=↑o->h'.get? b=↑o)->Q (.ref s.heap.objs.size) {s with heap:=h',toks:=tk}):
  ε (model prog w) A (call (.type "reversed") [.ref l]) Q E s:=by
 refine callType_new RV.called ⋯ (RV.tc1 _) (F.newCall_reversed_1 _) (λa=>F.args_object_init_2 a _) F.entry_reversed_new (pO l items hz) #[hl,?_]
 exact#[#[_,Jq _ Z,Z],h _ _ #[_,Jq _ Z,Z,Z] λb o e=>Jl _ e]
theorem CA{r:Δ}{n:Nat}{t u v:Tok}{Q:GP}(hr:s.heap.get? r=some {cls:= .type "range",data:= .fields (List.toArray [.int 0 t,.int n u,.int 1 v])})(hn:(n:Int)<2 ^ 62)
    (h:∀h',IsRangeIter h' s.heap.objs.size ((n:Int)-1) n (-1)->(∀b o,s.heap.get? b=↑o->h'.get? b=↑o)->Q (.ref s.heap.objs.size) {s with heap:=h'}):
    ε (model prog w) A (call (.type "reversed") [.ref r]) Q E s:=by
  have f:s.TypeIs (.ref r) "range":=#[_,hr,Z]
  refine callType_other (U:="range_iterator") (Q₁:=λd c=>d= .ref s.heap.objs.size/\∃h',c={s with heap:=h'}/\IsRangeIter h' s.heap.objs.size ((n:Int)-1) n (-1)/\∀b o,s.heap.get? b=↑o->h'.get? b=↑o) nofun F.create_reversed #[_,_,F.mro_reversed] F.made_reversed RV.ri_rev (RV.tc1 _) ?_ ?_
  · refine codeAny_of_tree ?_
    show ε _ A.in1.in1 (do checkBuiltinCall "reversed.__new__" #[[.type "reversed",.ref r],[]];again (.builtin "reversed.__new__" #[[.type "reversed",.ref r],[]])) _ _ s
    refine Ja (E8 (F.newCall_reversed_1 _) (Jd #[plainId_quiet F.plain_reversed_new _,Fo F.entry_reversed_new ?_]))
    rw[Around.under_plainId F.plain_reversed_new _];unfold γ.«reversed.__new__»
    refine Ja (E8 (newClass_reversed _) ?_)
    try dsimp only
    refine Ja (E8 (a:=()) (by first|rfl|kernel_rfl) ?_)
    refine Ja (E8 (a:=()) (by first|rfl|kernel_rfl) ?_)
    try dsimp only
    refine Ja (FK f F.slot_range_reversed.lookup ?_)
    try dsimp only
    refine Ja (E8 (F.slot_range_reversed.bind _) ?_)
    try dsimp only
    first
    |rw[Jb (show¬((Γ.builtin "range.__reversed__"==Γ.none)=true)from JJ)]
    | (show ε _ _ (if(Γ.builtin "range.__reversed__"==Γ.none)=true then _ else _) _ _ _
       rw[Jb (show¬((Γ.builtin "range.__reversed__"==Γ.none)=true)from JJ)])
    refine Ja (E7 ?_)
    refine Ja (m:=runValue (.call (.builtin "range.__reversed__") ⟨[.ref r],[]⟩)) (show ε _ _ (call (.builtin "range.__reversed__") [.ref r]) _ _ _ from
      FG F.slot_range_reversed f F.entry_range_reversed (F.args_range_reversed_1 _) (rb r n t u v hn) ⟨hr,?_⟩)
    first
    |exact Jd ⟨rfl,_,rfl,Jq _ rfl,λb o e=>Jl _ e⟩
    |exact Ja (Jd (Jd ⟨rfl,_,rfl,Jq _ rfl,λb o e=>Jl _ e⟩))
  · rintro d c ⟨rfl,h',rfl,hi,hk⟩
    exact⟨⟨_,hi,rfl⟩,h h' hi hk⟩
end
def sL(K:ι)(a:Δ)(n:Nat):It:=
 ⟨λi H=>i<n/\∃xs,G0 K H a xs/\xs.length=n,λi H x H'=>H'=H/\∀xs,G0 K H a xs->xs[n-1-i]? =↑x,λi _=>n<=i⟩
def si(K:ι)(a:Δ)(n:Nat):It:=
 ⟨λi H=>i<n/\∃xs,G9 K H a xs/\xs.length=n,λi H x H'=>H'=H/\∀xs,G9 K H a xs->xs[n-1-i]? =↑x,λi _=>n<=i⟩
def sP(n:Nat):It:=⟨λi _=>i<n,λi H x H'=>H'=H/\x= .int ((n:Int)-1-i),λi _=>n<=i⟩
theorem pY{P:Ξ}{w:Ω}{K:ι}{tg:Φ}(a it:Δ)(n:Nat):Lh P w K tg (sL K a n) [it] it (λi h=>i<=n/\h.IsRevIter it a ((n:Int)-1-i)) where
 mem:=by simp
 obj:=λi h st b g=>by
  have e:b=it:=by simpa using g
  subst e;obtain⟨_,o,e,c,d⟩:=st
  exact#[o,e,λv z=>by rw[d]at z;cases z]
 keep:=λi h h' st k=>#[st.1,st.2.at λo e=>k it (by simp) o e]
 item:=by
  intro X A y r G i Oa s σ H E I m st F;subst A y r;obtain⟨hi,xs,J,hn⟩:=F;obtain⟨M,S,p,hz⟩:=I.list J;have j:n-1-i<xs.length:=by lia
  obtain⟨u,O,R⟩:=S.get (Jg j)
  obtain⟨t,B,N,q,C,D⟩:=m it (by simp)
  have L:(n:Int)-1-i=((n-1-i:Nat):Int):=by lia
  have f:=st.2;rw[L]at f;refine wpAny_pyNext_rev_item f p.isList (x:=u) (by simpa using O) λh' l Y=>?_
  have Q:L2.GX X Oa σ H {s with heap:=h'}:=I.turned (t':=s.toks) (λb o g e=>(Y.2 b g).trans e) t B q C D
  obtain⟨o,e,c,d⟩:=id l;refine#[u,Z,bN (s:={s with heap:=h'}) e c d ⋯ #[_,H,Q,R,#[Z,λys T=>by rw[I.list_inj T J];exact Jg j],#[by lia,?_],λb g=>(m b g).1]]
  have U:((n-1-i:Nat):Int)-1=(n:Int)-1-((i+1:Nat):Int):=by lia
  rw[<- U];exact l
 done:=by
  intro X A y r G i Oa s σ H E I m st F;subst A y r;obtain⟨t,B,N,q,C,D⟩:=m it (by simp)
  have hi:i=n:=Nat.le_antisymm st.1 F
  have f:=st.2;rw[show(n:Int)-1-i= -1 by lia]at f
  exact wpAny_pyNext_rev_end (I.ok.hd G) f λh' W=>#[Z,I.turned (t':=s.toks) (λb o g e=>W b o g e) t B q C D]
 self:=λ_ _ _ _ _ st h=>wpAny_pyIter_revIter st.2 h
theorem tR{P:Ξ}{w:Ω}{K:ι}{tg:Φ}(a it:Δ)(n:Nat):Lh P w K tg (si K a n) [it] it (λi h=>i<=n/\IV h it a ((n:Int)-1-i)) where
 mem:=by simp
 obj:=λi h st b g=>by
  have e:b=it:=by simpa using g
  subst e;obtain⟨_,o,e,c,d⟩:=st
  exact#[o,e,λv z=>by rw[d]at z;cases z]
 keep:=λi h h' st k=>#[st.1,let⟨o,e,r⟩:=st.2;#[o,k it (by simp) o e,r]]
 item:=by
  intro X B A t J i Oa s σ H E I m st G;subst B A t;obtain⟨hi,xs,M,hn⟩:=G;obtain⟨Q,L,p,hz⟩:=I.tuple M;have N:=L.length;have j:n-1-i<xs.length:=by lia
  obtain⟨u,S,U⟩:=L.get (Jg j)
  obtain⟨y,C,R,q,D,F⟩:=m it (by simp)
  have O:(n:Int)-1-i=((n-1-i:Nat):Int):=by lia
  have f:=st.2;rw[O]at f;refine nJ f p (x:=u) (by simpa using S) (by simp;lia) λh' tk l sb=>?_
  have T:L2.GX X Oa σ H {s with heap:=h',toks:=tk}:=I.turned (t':=tk) (λb o g e=>(sb.2 b g).trans e) y C q D F
  obtain⟨o,e,c,d⟩:=id l;refine#[u,Z,bN (s:={s with heap:=h',toks:=tk}) e c d ⋯ #[_,H,T,U,#[Z,λys W=>by rw[I.tuple_inj W M];exact Jg j],#[by lia,?_],λb g=>(m b g).1]]
  have Y:((n-1-i:Nat):Int)-1=(n:Int)-1-((i+1:Nat):Int):=by lia
  rw[<- Y];exact l
 done:=by
  intro X B A t J i Oa s σ H E I m st G;subst B A t;obtain⟨y,C,R,q,D,F⟩:=m it (by simp)
  have hi:i=n:=Nat.le_antisymm st.1 G
  have f:=st.2;rw[show(n:Int)-1-i= -1 by lia]at f
  exact sW (I.ok.hd J) f λh' eb=>#[Z,I.turned (t':=s.toks) (λb o g e=>eb b o g e) y C q D F]
 self:=λ_ _ _ _ _ st h=>uL st.2 h
theorem vf{P:Ξ}{w:Ω}{K:ι}{tg:Φ}(it:Δ)(n:Nat):Lh P w K tg (sP n) [it] it (λi h=>IsRangeIter h it ((n:Int)-1+(i:Nat)*(-1)) ((n:Int)-(i:Nat)) (-1)) where
 mem:=by simp
 obj:=λi h st b a=>by
  have e:b=it:=by simpa using a
  subst e
  exact#[_,st,λv z=>by
   have B:Data.fields _=Data.cell v:=z
   cases B]
 keep:=λi h h' st k=>k it (by simp) _ st
 item:=by
  intro X p m g l i Oa s σ H E I d st x;subst p m g;obtain⟨j,q,y,f,r,u⟩:=d it (by simp)
  have W:=Walks.range (prog:=X.prog) (w:=X.w) (I.ok.hd l) it ((n:Int)-1) (-1) n
  refine W.item i s _ _ x st λv h' tk F c D=>?_
  obtain⟨t,rfl⟩:=F;have A:L2.GX X Oa σ H {s with heap:=h',toks:=tk}:=I.turned (λb o a e=>D b o (by simpa using a) e) j q f r u
  refine#[_,Z,bN (s:={s with heap:=h',toks:=tk}) (n:="range_iterator") c Z Z ⋯ #[.int ((n:Int)-1-i),H,A,#[t,?_],#[Z,Z],c,λb a=>(d b a).1]]
  rw[show(n:Int)-1+(i:Nat)*(-1)=(n:Int)-1-i by lia]
 done:=by
  intro X p m g l i Oa s σ H E I d st x;subst p m g;obtain⟨j,q,y,f,r,u⟩:=d it (by simp)
  exact wpAny_pyNext_range_end (I.ok.hd l) st (by have:n<=i:=x;lia) λh' C=>#[Z,I.turned (t':=s.toks) (λb o a e=>C b o a e) j q f r u]
 self:=λ_ _ _ _ _ st h=>Gv st h
section
variable{X:Cx}{tg:Φ}
theorem wx:bootBuiltins "reversed"=↑(.type "reversed"):=by kernel_rfl
def Ca(K:ι)(ta:TA):TI:=λσ H R=>ta σ H λvs H1=>∃a,vs=[.ref a]/\((∃xs,G0 K H1 a xs/\R (sL K a xs.length) H1)\/(∃xs,G9 K H1 a xs/\R (si K a xs.length) H1)\/∃n:Nat,H1 a=↑(.rng 0 n)/\(n:Int)<2 ^ 62/\R (sP n) H1)
theorem BZ{a:Φ}{ta:TA}{p pos:Pos}(hg:Gl X "reversed")(hm:X.mg "reversed"=none)(ha:PA X [a] ta)(hn:bw a=true:=by rfl):
  PI X tg (.Call (.Name "reversed" p) [a] [] pos) (Ca X.K ta):=by
 intro Oa s σ H R I h;refine Call_ (ZR I hg hm wx (FQ (qz (ha pos Oa s σ H _ I h) λD d x=>?_) (i5 hn) Z))
 obtain⟨vs,H1,g,B,r⟩:=x;obtain⟨l,e,r⟩:=r;subst e;obtain⟨u,rfl,C⟩:=B.one;cases C;have i:∀b∈[d.heap.objs.size],Qq X Oa H1 b:=λb z=>by
  rw[Jh.mp z];exact g.fpOk (Jf _) (g.hok.fresh (Jf _))
 rcases r with⟨xs,j,q⟩|⟨xs,j,q⟩|⟨n,j,m,q⟩
 ·obtain⟨c,w,pl,y⟩:=g.list j
  have f:=w.length;refine call_reversed_list pl.isList ?_
  have hi:(d.heap.push (revObj l ((c.toArray.size:Int)-1))).IsRevIter d.heap.objs.size l ((c.toArray.size:Int)-1):=#[_,Jq _ Z,Z,Z]
  refine wpAny_pyIter_revIter hi ?_
  refine#[d.heap.objs.size,[d.heap.objs.size],_,_,H1,Z,g.kept (t':=d.toks) λb o e=>Jl _ e,pY l _ xs.length,#[Jy _,?_],i,q]
  rw[show(xs.length:Int)-1-((0:Nat):Int)=(c.toArray.size:Int)-1 by simp [f]]
  exact hi
 ·obtain⟨c,w,pl,y⟩:=g.tuple j
  have f:=w.length;refine Dw (show d.heap.IsTuple l c.toArray from pl) (by simp;lia) λh' tk hi hk=>uL hi ?_
  refine#[d.heap.objs.size,[d.heap.objs.size],_,_,H1,Z,g.kept (t':=tk) hk,tR l _ xs.length,#[Jy _,?_],i,q]
  rw[show(xs.length:Int)-1-((0:Nat):Int)=(c.toArray.size:Int)-1 by simp [f]]
  exact hi
 ·obtain⟨t,u,v,A⟩:=g.hok l _ j
  refine CA A m λh' hi hk=>Gv hi ?_
  refine#[d.heap.objs.size,[d.heap.objs.size],_,_,H1,Z,g.kept (t':=d.toks) hk,vf _ n,?_,i,q]
  show IsRangeIter _ _ _ _ _
  rw[show(n:Int)-1+((0:Nat):Int)*(-1)=(n:Int)-1 by lia,show(n:Int)-((0:Nat):Int)=n by lia]
  exact hi
def vV(K:ι)(tl:TE):TI:=λσ H R=>tl σ H λx H1=>∃a,x= .ref a/\((∃xs,G0 K H1 a xs)/\R (cB K a) H1\/(∃xs,G9 K H1 a xs)/\R (dz K a) H1)
theorem CZ{l:Φ}{tl:TE}(hl:PE X l tl):PI X tg l (vV X.K tl):=by
 intro Oa s σ H R I h;refine qz (hl Oa s σ H _ I h) λv c m=>?_
 obtain⟨x,H1,d,t,i⟩:=m;obtain⟨a,e,i⟩:=i;subst e;cases t;have g:∀b∈[c.heap.objs.size],Qq X Oa H1 b:=λb r=>by
  rw[Jh.mp r];exact d.fpOk (Jf _) (d.hok.fresh (Jf _))
 rcases i with⟨⟨xs,j⟩,q⟩|⟨⟨xs,j⟩,q⟩
 ·obtain⟨f,u,p,n⟩:=d.list j
  refine FO p.isList ?_
  exact#[c.heap.objs.size,[c.heap.objs.size],_,_,H1,Z,d.kept (t':=c.toks) λb o e=>Jl _ e,iV a _,#[_,Jq _ Z,Z,Z],g,q]
 ·obtain⟨f,u,p,n⟩:=d.tuple j
  refine FP (show c.heap.IsTuple a f.toArray from p) ?_
  exact#[c.heap.objs.size,[c.heap.objs.size],_,_,H1,Z,d.kept (t':=c.toks) λb o e=>Jl _ e,gE a _,#[_,Jq _ Z,Z,Z],g,q]
end
section
variable{K:ι}{a:Δ}{xs:Ε}{g:TG}{tb:TS}{D:HY}{σ:L2.St}{H:Hp}
abbrev ZL(J:It)(g:TG)(tb:TS)(D:HY)(σ:L2.St)(H:Hp):Prop:=∃W:Nat->Nat->L2.St->Hp->Prop,(∃m,W 0 m σ H)/\∀i m σ H,W i m σ H->
      (J.stop i H/\D.nx σ H)\/(J.go i H/\∃N:L2.St->Hp->Prop,(∀σ' H',N σ' H'->∃m',m'<m/\W (i+1) m' σ' H')/\∀x H',J.yld i H x H'->g x σ H' λσ2 H2=>tb {D with nx:=N,ct:=N,bk:=D.nx} σ2 H2)
theorem fi{J:It}{n:Nat}(Pv:Nat->L2.St->Hp->Prop)(j:Pv 0 σ H)(c:∀i σ H,i<n->Pv i σ H->J.go i H)(hst:∀H,J.stop n H)
  (hs:∀i x σ H H',i<n->Pv i σ H->J.yld i H x H'->g x σ H' λd h=>tb {D with nx:=Pv (i+1),ct:=Pv (i+1),bk:=D.nx} d h)(hd:∀σ H,Pv n σ H->D.nx σ H):ZL J g tb D σ H:=by
 refine#[λi m σ H=>m=n-i/\i<=n/\Pv i σ H,#[n,by simp,Jy _,j],?_]
 rintro i m σ H ⟨rfl,hi,p⟩
 by_cases a:i<n
 ·exact .inr #[c i σ H a p,Pv (i+1),λf H' l=>#[n-(i+1),by lia,Z,a,l],λx H' y=>hs i x σ H H' a p y]
 ·have e:i=n:=by lia
  subst e;exact .inl #[hst H,hd σ H p]
theorem wL(Pv:Nat->L2.St->Hp->Prop)(d:Pv 0 σ H)(hl:∀i σ H,Pv i σ H->G0 K H a xs)
  (hs:∀i x σ H,i<xs.length->xs[xs.length-1-i]? =↑x->Pv i σ H->g x σ H λc e=>tb {D with nx:=Pv (i+1),ct:=Pv (i+1),bk:=D.nx} c e)(hd:∀σ H,Pv xs.length σ H->D.nx σ H):ZL (sL K a xs.length) g tb D σ H:=
 fi Pv d (λi σ H hi p=>#[hi,xs,hl i σ H p,Z]) (λ_=>Jf _) (λi x σ H H' hi p y=>by
  obtain⟨rfl,y⟩:=y;exact hs i x σ H' hi (y xs (hl i σ H' p)) p) hd
theorem vT(Pv:Nat->L2.St->Hp->Prop)(d:Pv 0 σ H)(hl:∀i σ H,Pv i σ H->G9 K H a xs)
  (hs:∀i x σ H,i<xs.length->xs[xs.length-1-i]? =↑x->Pv i σ H->g x σ H λc e=>tb {D with nx:=Pv (i+1),ct:=Pv (i+1),bk:=D.nx} c e)(hd:∀σ H,Pv xs.length σ H->D.nx σ H):ZL (si K a xs.length) g tb D σ H:=
 fi Pv d (λi σ H hi p=>#[hi,xs,hl i σ H p,Z]) (λ_=>Jf _) (λi x σ H H' hi p y=>by
  obtain⟨rfl,y⟩:=y;exact hs i x σ H' hi (y xs (hl i σ H' p)) p) hd
theorem wF{n:Nat}(Pv:Nat->L2.St->Hp->Prop)(c:Pv 0 σ H)
  (hs:∀i σ H,i<n->Pv i σ H->g (.int ((n:Int)-1-i)) σ H λa d=>tb {D with nx:=Pv (i+1),ct:=Pv (i+1),bk:=D.nx} a d)(hd:∀σ H,Pv n σ H->D.nx σ H):ZL (sP n) g tb D σ H:=
 fi Pv c (λi σ H hi p=>hi) (λ_=>Jf _) (λi x σ H H' hi p y=>by
  obtain⟨rfl,rfl⟩:=y;exact hs i σ H' hi p) hd
end
end L3
namespace L3
open PySem PySem.Spec L2
variable{X:Cx}
theorem uv{tg:Φ}{a:Φ}{ta:TA}{p pos:Pos}(hg:Gl X "reversed")(hm:X.mg "reversed"=none)(ha:QA X [a] ta)(hn:bw a=true:=by rfl):QI X tg (.Call (.Name "reversed" p) [a] [] pos) (Ca X.K ta):=#[BZ (hg:=hg) (hm:=hm) (ha:=ha.h) (hn:=hn)]
theorem bv{tg:Φ}{l:Φ}{tl:TE}(hl:QE X l tl):QI X tg l (vV X.K tl):=#[CZ (hl:=hl.h)]
def aL(x:Int):Prop:=0<=x/\x<16
def zy(r:Β):Prop:=∀x∈r,aL x
def yN(n i:Nat):Nat:=if i=0 then n-1 else i-1
def ah(r:Β)(i:Nat):Int:=r.getD (yN r.length i) 0
def iG(t:Β)(s:Int)(r:Β)(i:Nat):Β:=r.set i (t.getD ((r.getD i 0+s+i+ah r i)%16).toNat 0)
def fX(b:Β)(s:Int)(r:Β)(i:Nat):Β:=r.set i ((b.getD (r.getD i 0).toNat 0-s-i-ah r i)%16)
def ZY(t:Β)(s:Int)(r:Β):Nat->Β
 |0=>r
 |n+1=>iG t s (ZY t s r n) n
def aF(b:Β)(s:Int)(r:Β):Nat->Β
 |0=>r
 |n+1=>aF b s (fX b s r n) n
def QB(t:Β):Β->Β->Β
 | [],r=>r
 |s::ks,r=>QB t ks (ZY t s r r.length)
def Q6(b:Β):Β->Β->Β
 | [],r=>r
 |s::ks,r=>aF b s (Q6 b ks r) r.length
theorem vU{t:Β}{s:Int}{r:Β}{i:Nat}:(iG t s r i).length=r.length:=Fl ..
theorem lV{b:Β}{s:Int}{r:Β}{i:Nat}:(fX b s r i).length=r.length:=Fl ..
theorem QD{t:Β}{s:Int}{r:Β}:∀{n:Nat},(ZY t s r n).length=r.length
 |0=>rfl
 |n+1=>by rw[ZY,vU,QD]
theorem mX{b:Β}{s:Int}:∀{n:Nat} {r:Β},(aF b s r n).length=r.length
 |0,_=>rfl
 |n+1,r=>by rw[aF,mX,lV]
theorem cv{t:Β}:∀{ks r:Β},(QB t ks r).length=r.length
 | [],_=>rfl
 |s::ks,r=>by rw[QB,cv,QD]
theorem gn{b:Β}:∀{ks r:Β},(Q6 b ks r).length=r.length
 | [],_=>rfl
 |s::ks,r=>by rw[Q6,mX,gn]
theorem lX{r:Β}{i:Nat}{x:Int}(h:zy r)(hx:aL x):zy (r.set i x):=λy a=>by
 rcases List.mem_or_eq_of_mem_set a with z|z
 ·exact h y z
 ·rw[z];exact hx
theorem ac(x:Int):aL (x%16):=#[Fp _ ⋯,Ft _ ⋯]
theorem iA{r:Β}(h:zy r)(i:Nat):aL (r.getD i 0):=by
 rw[Jz]
 by_cases hi:i<r.length
 ·rw[Jg hi];exact h _ (Fi hi)
 ·rw[GB (by lia)];exact#[⋯,⋯]
theorem xn{t:Β}(p:t.Perm HW):zy t:=λx a=>lH (p.mem_iff.mp a)
theorem ye{t:Β}(p:t.Perm HW){s:Int}{r:Β}{i:Nat}(h:zy r):zy (iG t s r i):=lX h (iA (xn p) _)
theorem mT{b:Β}{s:Int}{r:Β}{i:Nat}(h:zy r):zy (fX b s r i):=lX h (ac _)
theorem bJ{t:Β}(p:t.Perm HW){s:Int}{r:Β}(h:zy r):∀{n:Nat},zy (ZY t s r n)
 |0=>h
 |n+1=>ye p (bJ p h)
theorem mD{b:Β}{s:Int}:∀{n:Nat} {r:Β},zy r->zy (aF b s r n)
 |0,_,h=>h
 |n+1,_,h=>mD (n:=n) (mT h)
theorem ke{t:Β}(p:t.Perm HW):∀{ks r:Β},zy r->zy (QB t ks r)
 | [],_,h=>h
 |s::ks,_,h=>ke (ks:=ks) p (bJ p h)
theorem mI{b:Β}:∀{ks r:Β},zy r->zy (Q6 b ks r)
 | [],_,h=>h
 |s::ks,_,h=>mD (mI (ks:=ks) h)
theorem jM{r:Β}{i:Nat}{x:Int}(h:i<r.length):(r.set i x).getD i 0=x:=by
 rw[Jz,Gd h];rfl
theorem nG{r:Β}{i j:Nat}{x:Int}(h:i≠j):(r.set i x).getD j 0=r.getD j 0:=by
 rw[Jz,Ge h,<- Jz]
theorem DH{n i:Nat}(h2:2<=n)(hi:i<n):i≠yN n i:=by unfold yN;split<;>lia
theorem De{r:Β}{i:Nat}{x:Int}(h2:2<=r.length)(hi:i<r.length):ah (r.set i x) i=ah r i:=by
 unfold ah;rw[Fl,nG (DH h2 hi)]
theorem xl{r:Β}{i:Nat}(hi:i<r.length):r.set i (r.getD i 0)=r:=by
 rw[Jz,Jg hi];exact List.set_getElem_self hi
theorem wQ{t:Β}(p:t.Perm HW){z:Int}(h:aL z):(zz t).getD (t.getD z.toNat 0).toNat 0=z:=by
 have c:z.toNat<t.length:=by rw[pJ p];have:=h.1;have:=h.2;lia
 have e:t.getD z.toNat 0=t[z.toNat]:=by rw[Jz,Jg c];rfl
 have bd:=kR p c;have a:t[z.toNat].toNat<(zz t).length:=by rw[aP];lia
 rw[e,Jz,Jg a,Fn,By p (by rw[aP]at a;exact a)]
 have d:((t[z.toNat].toNat:Nat):Int)=t[z.toNat]:=by lia
 rw[d,uD p c]
 have:=h.1
 lia
theorem w9{t:Β}(p:t.Perm HW){s:Int}{r:Β}{i:Nat}(hr:zy r)(h2:2<=r.length)(hi:i<r.length):fX (zz t) s (iG t s r i) i=r:=by
 unfold fX iG;rw[jM hi,De h2 hi,List.set_set,wQ p (ac _)];have a:=iA hr i;have e:((r.getD i 0+s+i+ah r i)%16-s-i-ah r i)%16=r.getD i 0:=by
  have:=a.1
  have:=a.2
  lia
 rw[e,xl hi]
theorem lv{t:Β}(p:t.Perm HW){s:Int}{r:Β}(hr:zy r)(h2:2<=r.length):∀{n:Nat},n<=r.length->aF (zz t) s (ZY t s r n) n=r
 |0,_=>rfl
 |n+1,hn=>by
  rw[ZY,aF,w9 p (bJ p hr) (by rw[QD];exact h2) (by rw[QD];lia)]
  exact lv p hr h2 (by lia)
theorem ki{t:Β}(p:t.Perm HW):∀{ks r:Β},zy r->2<=r.length->Q6 (zz t) ks (QB t ks r)=r
 | [],_,_,_=>rfl
 |s::ks,r,hr,h2=>by
  rw[Q6,QB,ki p (bJ p hr) (by rw[QD];exact h2),cv,QD,lv p hr h2 (Jf _)]
theorem lY(t:Β):∀(ks:Β) (s:Int) (r:Β),QB t (ks++[s]) r=ZY t s (QB t ks r) r.length
 | [],_,_=>rfl
 |a::ks,s,r=>by rw[List.cons_append,QB,lY t ks s,QB,QD]
def Sq(K:ι)(H:Hp)(a:Δ)(xs:Ε):Prop:=G0 K H a xs\/G9 K H a xs
theorem Sq.same{K:ι}{H H':Hp}{a:Δ}{xs:Ε}(e:GS H H')(h:Sq K H a xs):Sq K H' a xs:=h.elim (λh=> .inl (e.seq h)) λh=> .inr (GS.sqt e h)
theorem Sq.lst{K:ι}{H:Hp}{a:Δ}{xs:Ε}(h:H a=↑(.lst xs)):Sq K H a xs:= .inl (G0.of h)
theorem Sq.tup{K:ι}{H:Hp}{a:Δ}{xs:Ε}(h:H a=↑(.tup xs)):Sq K H a xs:= .inr (G9.of h)
inductive Mq (K:ι) (vs:Ε) (H:Hp) (Q:VK):Prop
 |mk (a b c:Δ) (t ks ds:Β) (h1:vs=[.ref a,.ref b,.ref c]) (h2:Sq K H a (t.map V.int)) (h3:Sq K H b (ks.map V.int)) (h4:Sq K H c (ds.map V.int)) (h5:t.length=16) (h6:1<=ds.length) (h7:ds.length<64) (h8:∀p H',GS H H'->H p=none->H' p=↑(.tup ((QB t ks ds).map V.int))->Q (.ref p) H')
def iC(K:ι):Sp:=λvs H Q _=>Mq K vs H Q
inductive LG (K:ι) (vs:Ε) (H:Hp) (Q:VK):Prop
 |mk (a b c:Δ) (t ks ds:Β) (h1:vs=[.ref a,.ref b,.ref c]) (h2:Sq K H a (t.map V.int)) (h3:Sq K H b (ks.map V.int)) (h4:Sq K H c (ds.map V.int)) (h5:t.Perm HW) (h6:zy ds) (h7:1<=ds.length) (h8:ds.length<64) (h9:∀p H',GS H H'->H p=none->H' p=↑(.tup ((Q6 (zz t) ks ds).map V.int))->Q (.ref p) H')
def jx(K:ι):Sp:=λvs H Q _=>LG K vs H Q
theorem aq{r:Β}{i:Nat}{z:Int}(e:z=(i:Int))(h:i<r.length):zY (r.map V.int) z=↑(.int (r.getD i 0)):=by
 rw[AW e (ik h),Jz,Jg h];rfl
theorem uo{r:Β}{i:Nat}{z:Int}(e:z=(i:Int)-1)(h:i<r.length):zY (r.map V.int) z=↑(.int (ah r i)):=by
 subst e;unfold ah yN
 by_cases a:i=0
 ·subst a
  rw[Jc Z];have c:r.length-1<r.length:=by lia
  unfold zY Z1;rw[Je,Jb (by lia),Jc (by lia)]
  have d:((((0:Nat):Int)-1)+(r.length:Int)).toNat=r.length-1:=by lia
  show(r.map V.int)[((((0:Nat):Int)-1)+(r.length:Int)).toNat]? =_
  rw[d,ik c,Jz,Jg c];rfl
 ·rw[Jb a]
  exact aq (by lia) (by lia)
theorem Sq.ix{K:ι}{H:Hp}{a:Δ}{xs:Ε}{i:Int}{v:V}{Q:VK}(h:Sq K H a xs)(e:zY xs i=↑v)(q:Q v H):Di K (.ref a) (.int i) H Q\/vX K (.ref a) (.int i) H Q:=
 h.elim (λh=> .inl #[a,xs,i,v,Z,Z,h,e,q]) λh=> .inr #[a,xs,i,v,Z,Z,h,e,q]
section
variable{K:ι}{a:Δ}{xs:Ε}{g:TG}{tb:TS}{D:HY}{σ:L2.St}{H H0:Hp}
theorem Bv(c:Sq K H0 a xs)(Pv:Nat->L2.St->Hp->Prop)(d:Pv 0 σ H)(hk:∀i e H',Pv i e H'->GS H0 H')
  (hs:∀i x σ H,xs[i]? =↑x->Pv i σ H->g x σ H λf h=>tb {D with nx:=Pv (i+1),ct:=Pv (i+1),bk:=D.nx} f h)(hd:∀σ H,Pv xs.length σ H->D.nx σ H):
  ((∃xs,G0 K H a xs)/\ZL (cB K a) g tb D σ H)\/((∃xs,G9 K H a xs)/\ZL (dz K a) g tb D σ H):=by
 rcases c with c|c
 ·exact .inl #[#[xs,(hk _ _ _ d).seq c],Qj Pv d (λi σ H _ p=>(hk i σ H p).seq c) hs hd]
 ·exact .inr #[#[xs,GS.sqt (hk _ _ _ d) c],ia Pv d (λi σ H _ p=>GS.sqt (hk i σ H p) c) hs hd]
theorem wc(c:Sq K H0 a xs)(Pv:Nat->L2.St->Hp->Prop)(d:Pv 0 σ H)(hk:∀i e H',Pv i e H'->GS H0 H')
  (hs:∀i x σ H,i<xs.length->xs[xs.length-1-i]? =↑x->Pv i σ H->g x σ H λf h=>tb {D with nx:=Pv (i+1),ct:=Pv (i+1),bk:=D.nx} f h)(hd:∀σ H,Pv xs.length σ H->D.nx σ H):
  (∃xs,G0 K H a xs/\ZL (sL K a xs.length) g tb D σ H)\/(∃xs,G9 K H a xs/\ZL (si K a xs.length) g tb D σ H)\/(∃n:Nat,H a=↑(.rng 0 n)/\(n:Int)<2 ^ 62/\ZL (sP n) g tb D σ H):=by
 rcases c with c|c
 ·exact .inl #[xs,(hk _ _ _ d).seq c,wL Pv d (λi σ H p=>(hk i σ H p).seq c) hs hd]
 ·exact .inr (.inl #[xs,GS.sqt (hk _ _ _ d) c,vT Pv d (λi σ H p=>GS.sqt (hk i σ H p) c) hs hd])
end
theorem Zs{H a:Hp}{l:Δ}{o:HO}(s:GS H a)(h:H l=none):GS H (GW a l o):=λd u e=>by
 rw[qm (qo e h)];exact s _ _ e
theorem ii{ks:Β}{j:Nat}{s:Int}(h:ks[j]? =↑s):ks.take (j+1)=ks.take j++[s]:=by rw[J9,h];rfl
theorem vD{ks:Β}{j:Nat}{s:Int}(h:ks[j]? =↑s):ks.drop j=s::ks.drop (j+1):=by
 obtain⟨a,e⟩:=Js.mp h;rw[List.drop_eq_getElem_cons a,e]
inductive Lo (H:Hp):Nat->V->V->Prop where
 |int (n:Nat) (i:Int):Lo H n (.int i) (.int i)
 |str (n:Nat) (x:Str):Lo H n (.str x) (.str x)
 |non (n:Nat):Lo H n .non .non
 |bl (n:Nat) (b:Bool):Lo H n (.bl b) (.bl b)
 | tup {n:Nat} {a b:Δ} {xs ys:Ε} (h1:Rd H a (.tup xs)) (h2:Rd H b (.tup ys)) (hl:xs.length=ys.length)
   (hi:∀(i:Nat) (x y:V),xs[i]? =↑x->ys[i]? =↑y->Lo H n x y):Lo H (n+1) (.ref a) (.ref b)
 | lst {n:Nat} {a b:Δ} {xs ys:Ε} (h1:H a=↑(.lst xs)) (h2:H b=↑(.lst ys)) (hl:xs.length=ys.length)
   (hi:∀(i:Nat) (x y:V),xs[i]? =↑x->ys[i]? =↑y->Lo H n x y):Lo H (n+1) (.ref a) (.ref b)
theorem gP(n:Nat):((List.range n).all λ_=>true)=true:=by simp
section
open SeqAt
variable{Oa:GR}{σ:L2.St}{H:Hp}{s:Θ}
theorem zR{xs:Ε}{us:Ζ}(r:GZ xs us){j:Nat}(h:j<us.length):∃x,xs[j]? =↑x/\G8 x us[j]:=by
 have e:=r.length;have a:j<xs.length:=by lia
 obtain⟨u,c,d⟩:=r.get (Jg a)
 rw[Jg h]at c;cases c
 exact⟨_,Jg a,d⟩
theorem uw(I:L2.GX X Oa σ H s){n:Nat}{x y:V}(h:Lo H n x y):∀{v u:Γ} {A:Around},G8 x v->G8 y u->A.units+n<cLine->EqAt A s v u true:=by
 induction h with
 |int n i=>rintro v u A ⟨t,rfl⟩ ⟨q,rfl⟩ _;have:=EqAt.int_int (A:=A) (s:=s) i t i q;rwa [Fu]at this
 |str n z=>rintro v u A ⟨t,rfl⟩ ⟨q,rfl⟩ _;have:=EqAt.str_str (A:=A) (s:=s) z t z q;rwa [Fu]at this
 |non n=>
  intro v u A l f _
  cases(show v=Γ.none from l)
  cases(show u=Γ.none from f)
  exact EqAt.same _
 |bl n b=>
  intro v u A l f _
  cases(show v=Γ.bool b from l)
  cases(show u=Γ.bool b from f)
  exact EqAt.same _
 | @tup n a b xs ys h1 h2 hl _ ih=>
  intro v u A l f E
  cases(show v=Γ.ref a from l)
  cases(show u=Γ.ref b from f)
  by_cases d:a=b
  ·rw[d];exact EqAt.same _
  ·obtain⟨g,o,w,_⟩:=I.tuple (.inl h1)
   obtain⟨c,m,p2,_⟩:=I.tuple (.inl h2)
   have G:=o.length;have F:=m.length;have e:=RcAt.tuples (A:=A) (e:=λ_=>true) (show s.heap.IsTuple a g.toArray from w) (show s.heap.IsTuple b c.toArray from p2) (by lia) (λj B r=>by
    obtain⟨x,ex,p⟩:=zR o (j:=j) (by simpa using B)
    obtain⟨y,C,D⟩:=zR m (j:=j) (by simpa using r)
    exact ih j x y ex C p D (by rw[Ga];lia))
   rw[gP,show(g.toArray.size==c.toArray.size)=true by simp;lia]at e
   exact EqAt.of_refs d e
 | @lst n a b xs ys h1 h2 hl _ ih=>
  intro v u A l f E
  cases(show v=Γ.ref a from l)
  cases(show u=Γ.ref b from f)
  by_cases d:a=b
  ·rw[d];exact EqAt.same _
  ·obtain⟨g,o,w,_⟩:=I.list (G0.of h1)
   obtain⟨c,m,p2,_⟩:=I.list (G0.of h2)
   have G:=o.length;have F:=m.length;have e:=RcAt.lists (A:=A) (e:=λ_=>true) w.isList p2.isList (by simp;lia) (by lia) (λj B r=>by
    obtain⟨x,ex,p⟩:=zR o (j:=j) (by simpa using B)
    obtain⟨y,C,D⟩:=zR m (j:=j) (by simpa using r)
    exact ih j x y ex C p D (by rw[Ga];lia))
   rw[gP]at e;exact EqAt.of_refs d e
theorem BM(I:L2.GX X Oa σ H s){n:Nat}{x y:V}{v u:Γ}{A:Around}(h:Lo H n x y)(m:G8 x v)(l:G8 y u)(hu:A.units+n<cLine):RcAt A s v u true/\RcNeAt A s v u false:=by
 cases h with
 |int n i=>
  obtain⟨t,rfl⟩:=m;obtain⟨o,rfl⟩:=l;have g:=RcAt.int_int (A:=A) (s:=s) i t i o
  have f:=RcNeAt.int_int (A:=A) (s:=s) i t i o
  rw[Fu]at g f
  exact#[g,f]
 |str n z=>
  obtain⟨t,rfl⟩:=m;obtain⟨o,rfl⟩:=l;have g:=RcAt.str_str (A:=A) (s:=s) z t z o
  have f:=RcNeAt.str_str (A:=A) (s:=s) z t z o
  rw[Fu]at g f
  exact#[g,f]
 |non n=>
  cases(show v=Γ.none from m)
  cases(show u=Γ.none from l)
  exact#[RcAt.none_none,RcNeAt.none_none]
 |bl n b=>
  cases(show v=Γ.bool b from m)
  cases(show u=Γ.bool b from l)
  have g:=RcAt.bool_bool (A:=A) (s:=s) b b
  have f:=RcNeAt.bool_bool (A:=A) (s:=s) b b
  rw[Fu]at g f
  exact#[g,f]
 | @tup n a b xs ys h1 h2 hl ih=>
  cases(show v=Γ.ref a from m)
  cases(show u=Γ.ref b from l)
  obtain⟨d,r,B,_⟩:=I.tuple (.inl h1)
  obtain⟨c,q,p2,_⟩:=I.tuple (.inl h2)
  have J:=r.length;have G:=q.length;have p:∀j (C:j<d.toArray.size) (w:j<c.toArray.size),EqAt A.in1 s d.toArray[j] c.toArray[j] ((λ_=>true) j):=λj C w=>by
   obtain⟨x,ex,D⟩:=zR r (j:=j) (by simpa using C)
   obtain⟨y,E,F⟩:=zR q (j:=j) (by simpa using w)
   exact uw I (ih j x y ex E) D F (by rw[Ga];lia)
  have g:=RcAt.tuples (A:=A) (e:=λ_=>true) (show s.heap.IsTuple a d.toArray from B) (show s.heap.IsTuple b c.toArray from p2) (by lia) p
  have f:=RcNeAt.tuples (A:=A) (e:=λ_=>true) (show s.heap.IsTuple a d.toArray from B) (show s.heap.IsTuple b c.toArray from p2) (by lia) p
  rw[gP,show(d.toArray.size==c.toArray.size)=true by simp;lia]at g f
  exact#[g,f]
 | @lst n a b xs ys h1 h2 hl ih=>
  cases(show v=Γ.ref a from m)
  cases(show u=Γ.ref b from l)
  obtain⟨d,r,B,_⟩:=I.list (G0.of h1)
  obtain⟨c,q,p2,_⟩:=I.list (G0.of h2)
  have J:=r.length;have G:=q.length;have p:∀j (C:j<d.toArray.size) (w:j<c.toArray.size),EqAt A.in1 s d.toArray[j] c.toArray[j] ((λ_=>true) j):=λj C w=>by
   obtain⟨x,ex,D⟩:=zR r (j:=j) (by simpa using C)
   obtain⟨y,E,F⟩:=zR q (j:=j) (by simpa using w)
   exact uw I (ih j x y ex E) D F (by rw[Ga];lia)
  have g:=RcAt.lists (A:=A) (e:=λ_=>true) B.isList p2.isList (by simp;lia) (by lia) p
  have f:=RcNeAt.lists (A:=A) (e:=λ_=>true) B.isList p2.isList (by simp;lia) (by lia) p
  rw[gP]at g f
  exact#[g,f]
inductive NP (b:Bool) (x:V) (y:V) (H:Hp) (Q:VK):Prop
 |mk (n:_) (h1:n<=32) (h2:Lo H n x y) (h3:Q (.bl b) H)
def Er(b:Bool):R2:=λx y H Q=>NP b x y H Q
theorem li{k:Nat}(hr:HB k X.A):zt X (compareOp .NotEq) (Er false):=by
 intro Oa s σ H x y v u Q I a c h;obtain⟨n,d,e,q⟩:=h
 exact(BM I e a c (by have:=hr.un;lia)).2 _ _ _ _ #[.bl _,H,I,Z,q]
end
end L3
namespace L3
open PySem PySem.Spec PyProof.Rows L2
open Sem (wp)
def Af(x:Str):It:=#[λi _=>i<x.cps.size,λi H v H'=>H'=H/\∃c,x.cps[i]? =↑c/\v= .str #[(List.toArray [c])],λi _=>x.cps.size<=i]
theorem wZ{P:Ξ}{w:Ω}{K:ι}{tg:Φ}(it:Δ)(x:Str)(t:Tok):Lh P w K tg (Af x) [it] it (λi h=>h.IsStrIter it "str_ascii_iterator" x t i) where
 mem:=by simp
 obj:=λi h st b a=>by
  have e:b=it:=by simpa using a
  subst e;obtain⟨o,e,c,d⟩:=st
  exact#[o,e,λv z=>by rw[d]at z;cases z]
 keep:=λi h h' st k=>let⟨o,e,r⟩:=st;#[o,k it (by simp) o e,r]
 item:=by
  intro X q p l n i Oa s σ H E I g st F;subst q p l;obtain⟨m,y,G,j,C,A⟩:=g it (by simp)
  have W:=Walks.strAscii (prog:=X.prog) (w:=X.w) (I.ok.hd n) it x t
  refine W.item i s _ _ F st λv h' tk O f N=>?_
  obtain⟨c,u,D,rfl⟩:=O;have L:L2.GX X Oa σ H {s with heap:=h',toks:=tk}:=I.turned (λb o a e=>N b o (by simpa using a) e) m y j C A
  obtain⟨o,e,J,d⟩:=id f
  exact#[_,Z,bN (s:={s with heap:=h',toks:=tk}) e J d ⋯ #[.str #[(List.toArray [c])],H,L,#[u,Z],#[Z,c,D,Z],f,λb a=>(g b a).1]]
 done:=by
  intro X q p l n i Oa s σ H E I g st F;subst q p l;obtain⟨m,y,G,j,C,A⟩:=g it (by simp)
  have B:x.cps.size<=i:=F
  exact wpAny_pyNext_ascii_end (I.ok.hd n) st (by simp [B]) λh' M=>#[Z,I.turned (t':=s.toks) (λb o a e=>M b o a e) m y j C A]
 self:=λ_ _ _ _ _ st h=>wpAny_pyIter_striter_ascii st h
section
variable{X:Cx}{tg:Φ}
def Cy(tl:TE):TI:=λσ H R=>tl σ H λv H1=>∃x,v= .str x/\x.cps.all (· <128)=true/\R (Af x) H1
theorem Dk{l:Φ}{tl:TE}(hl:PE X l tl):PI X tg l (Cy tl):=by
 intro Oa s σ H R I h;refine qz (hl Oa s σ H _ I h) λv a f=>?_
 obtain⟨x,H1,c,j,d⟩:=f;obtain⟨z,rfl,i,q⟩:=d;obtain⟨t,rfl⟩:=j;refine wpAny_pyIter_ascii i ?_
 refine#[a.heap.objs.size,[a.heap.objs.size],_,_,H1,Z,c.kept (t':=a.toks) λb o e=>Jl _ e,wZ _ z t,#[_,Jq _ Z,Z,Z],λb g=>?_,q]
 rw[Jh.mp g];exact c.fpOk (Jf _) (c.hok.fresh (Jf _))
theorem uB{l:Φ}{tl:TE}(hl:QE X l tl):QI X tg l (Cy tl):=#[Dk hl.h]
end
theorem AG{x:Str}{g:TG}{tb:TS}{D:HY}{σ:L2.St}{H:Hp}(Pv:Nat->L2.St->Hp->Prop)(e:Pv 0 σ H)
  (hs:∀i c σ H,x.cps[i]? =↑c->Pv i σ H->g (.str #[(List.toArray [c])]) σ H λa f=>tb {D with nx:=Pv (i+1),ct:=Pv (i+1),bk:=D.nx} a f)(hd:∀σ H,Pv x.cps.size σ H->D.nx σ H):ZL (Af x) g tb D σ H:=
 fi Pv e (λi σ H hi p=>hi) (λ_=>Jf _) (λi v σ H H' hi p y=>by
  obtain⟨rfl,c,d,rfl⟩:=y;exact hs i c σ H' d p) hd
section
variable{X:Cx}{o e:Φ}{es:Ι}{to:TE}{t:TA}{name:Str}{apos cpos:Pos}{T id:String}{r:V->Ε->Hp->VK->Prop}
theorem QZ(i:PlainAttrs T)(g:Slot T name id)(h:typeOf (.builtin id)=pure (.type "method_descriptor"))(hm:gw X id r)(ho:QE X o to)(ha:QA X (e::es) t)
  (c:attributeBase o name X.env (eval o X.env)=eval o X.env:=by rfl)
  (f:((backTo cpos (θ (e::es) X.env)).all (λx=> ! x.1)&&(backToKw cpos (keywordEach [] X.env)).all (λx=>x.1.isSome)
   &&decide ((e::es).length+([]:ξ).length+(if([]:ξ).isEmpty then 0 else 1)<30))=true:=by rfl)
  (d:(apos.endLine==cpos.line)=true:=by rfl)(hs:θ (e::es) X.env=(false,eval e X.env)::θ es X.env:=by rfl)(a:(backTo cpos (θ es X.env)).any (·.1)=false:=by rfl):
  QE X (.Call (.Attribute o name apos) (e::es) [] cpos) (C6 X.K T r to t):=#[DX i g h hm ho.h ha.h c f d hs a]
theorem zT:gw X "list.append" oM:=vd
theorem oW:∀{ys:Α} {us:Ζ},GZ (ys.map V.str) us->StrsAre us ys
 | [],_,.nil=> .nil
 |y::ys,_,.cons r t=>by
  obtain⟨u,rfl⟩:=(show∃u,_=Γ.str y u from r)
  exact .cons _ _ (oW t)
end
theorem bf(ns:Β):∀n,n<=ns.length->preSum (λi=>ns.getD i 0) n=(ns.take n).sum
 |0,_=>by simp [preSum]
 |n+1,h=>by
  have a:n<ns.length:=by lia
  rw[preSum,bf ns n (by lia),J9,Jg a,Option.toList_some,List.sum_append,Jz,Jg a]
  simp
theorem uh{B:Int}:∀{ns:Β},(∀z∈ns,0<=z/\z<=B)->0<=ns.sum/\ns.sum<=ns.length*B
 | [],_=>#[by simp,by simp]
 |n::r,h=>by
  have h1:=h n JB;have c:=uh (ns:=r) λz a=>h z (JM _ a)
  rw[List.sum_cons,JN];refine#[by lia,?_]
  have:(((r.length+1:Nat):Int))*B=r.length*B+B:=by rw[Int.natCast_add,Int.add_mul];simp
  lia
section
variable{X:Cx}
theorem uH(hc:X.calm=true):zi X (.builtin "sum") (λxs H Q=>∃(p:Δ) (ns:Β),xs=[.ref p]/\Sq X.K H p (ns.map V.int)/\ns.length<=1000/\(∀z∈ns,0<=z/\z<=1000000)/\Q (.int ns.sum) H):=by
 intro Oa s σ H xs P Q I r h;obtain⟨p,ns,rfl,y,T,J,q⟩:=h;obtain⟨u,rfl,L⟩:=zM r;cases L;have bd:∀n,n<=ns.length->0<=preSum (λi=>ns.getD i 0) n/\preSum (λi=>ns.getD i 0) n<=1000000000:=λn K=>by
  rw[bf ns n K];have h1:=uh (B:=1000000) (ns:=ns.take n) λz m=>J z (List.mem_of_mem_take m)
  have O:(ns.take n).length<=1000:=by rw[EX];lia
  lia
 have C:∀j,j<ns.length->InLong ((λi=>ns.getD i 0) j)/\InLong (preSum (λi=>ns.getD i 0) (j+1)):=λj l=>by
  have S:=bd (j+1) (by lia)
  have R:0<=ns.getD j 0/\ns.getD j 0<=1000000:=by
   rw[Jz,Jg l];exact J _ (Fi l)
  unfold InLong;simp only
  lia
 have eS:preSum (λi=>ns.getD i 0) ns.length=ns.sum:=by rw[bf ns _ (Jf _),E5]
 have val:∀{a:Ζ},GZ (ns.map V.int) a->∀(i:Nat) (v:Γ),a.toArray[i]? =↑v->∃t,v= .int ((λi=>ns.getD i 0) i) t:=λ{a} g i v N=>by
  have w:a[i]? =↑v:=by simpa using N
  have hi:i<a.length:=(Js.mp w).1
  obtain⟨x,ex,M⟩:=zR g hi;obtain⟨z,rfl,m⟩:=Qg ex;obtain⟨t,G⟩:=M;refine#[t,?_]
  rw[(Js.mp w).2]at G;rw[G]
  show Γ.int z t=Γ.int (ns.getD i 0) t
  rw[Jz,m];rfl
 rcases y with y|y
 ·obtain⟨a,g,pl,m⟩:=I.list y
  have f:ns.length=a.length:=by have:=g.length;rwa [Je]at this
  have d:p<s.heap.objs.size:=by obtain⟨_,e,_⟩:=pl.isList;exact Jj e
  refine call_sum_walk (FO pl.isList ?_)
  refine#[s.heap.objs.size,[s.heap.objs.size,p],[s.heap.objs.size],a.toArray.size,_,_,λi=>ns.getD i 0,Z,Walks.list (A:=X.A.in1) (I.ok.hd hc) _ p (Jk d) a.toArray,
   #[#[_,Jq _ Z,Z,Z],pl.isList.push _],λb c=>?_,val g,λj l=>C j (by simp at l;lia),λh' tk t' hk=>?_]
  ·have sz:(s.heap.push {cls:= .type "list_iterator",data:= .fields (List.toArray [.ref p,.int 0 0])}).objs.size=s.heap.objs.size+1:=JX ..
   simp only[Jm,JE,JF]at c
   show b<(Ψ.push s.heap _).objs.size
   rw[JX];rcases c with rfl|rfl
   ·exact E2 _
   ·exact EY d
  ·have F:preSum (λi=>ns.getD i 0) a.toArray.size=ns.sum:=by rw[Jr,<- f];exact eS
   rw[F];refine#[.int _,H,I.kept (h':=h') (t':=tk) λb o q=>hk b o (λE=>?_) (Jl _ q),#[_,Z],q]
   rw[Jh.mp E]at q;exact EU _ (Jj q)
 ·obtain⟨a,g,pl,m⟩:=I.tuple y
  have f:ns.length=a.length:=by have:=g.length;rwa [Je]at this
  have D:s.heap.IsTuple p a.toArray:=pl
  have d:p<s.heap.objs.size:=by obtain⟨_,e,_⟩:=D;exact Jj e
  refine call_sum_walk (FP D ?_)
  refine#[s.heap.objs.size,[s.heap.objs.size,p],[s.heap.objs.size],a.toArray.size,_,_,λi=>ns.getD i 0,Z,Walks.tuple (A:=X.A.in1) (I.ok.hd hc) _ p (Jk d) a.toArray,
   #[#[_,Jq _ Z,Z,Z],let⟨o,e,r⟩:=D;#[o,Jl _ e,r]],λb c=>?_,val g,λj l=>C j (by simp at l;lia),λh' tk t' hk=>?_]
  ·simp only[Jm,JE,JF]at c
   show b<(Ψ.push s.heap _).objs.size
   rw[JX];rcases c with rfl|rfl
   ·exact E2 _
   ·exact EY d
  ·have F:preSum (λi=>ns.getD i 0) a.toArray.size=ns.sum:=by rw[Jr,<- f];exact eS
   rw[F];refine#[.int _,H,I.kept (h':=h') (t':=tk) λb o q=>hk b o (λE=>?_) (Jl _ q),#[_,Z],q]
   rw[Jh.mp E]at q;exact EU _ (Jj q)
end
end L3
namespace L3
open PySem PySem.Spec PyProof.Rows L2
section
variable{X:Cx}
theorem vL:xq X (λx y H Q=>∃(p:Δ) (xs:Ε) (i:Nat) (v:V),x= .ref p/\y= .int (i:Int)/\H p=↑(.lst xs)/\xs[i]? =↑v/\Q v H):=by
 intro Oa s σ H o i n A Q I g c h;obtain⟨p,xs,j,v,rfl,rfl,f,a,q⟩:=h;cases g;obtain⟨t,rfl⟩:=c;obtain⟨d,r,pl,w⟩:=I.list (G0.of f)
 obtain⟨u,e,l⟩:=r.get a;have B:=r.length;have z:=ZS;have m:j<xs.length:=(Js.mp a).1
 exact wpAny_getItem_list pl.isList (by lia) (by lia) (by simpa using e) #[v,H,I,l,q]
end
def Qr(z:Str):Prop:=(∀c∈z.cps.toList,97<=c/\c<=122)/\1<=z.cps.toList.length/\z.cps.toList.length<=8
theorem mE{z:Str}(h:Qr z):z.cps.all (· <128)=true:=by
 rw[Array.all_eq_true'];intro c a
 have:=h.1 c (by simpa using a)
 simp;lia
def wv(c:Nat):Β:=[((c:Int)-97)%16,((c:Int)-97)/16]
def Q0(a:Κ):Β:=a.flatMap wv
theorem tj(a:Κ)(c:Nat):Q0 (a++[c])=Q0 a++wv c:=by simp [Q0]
theorem iU(a:Κ):(Q0 a).length=2*a.length:=by
 induction a with
 |nil=>rfl
 |cons c r ih=>simp only[Q0,List.flatMap_cons,Jv,JN]at ih⊢;rw[ih];simp [wv];lia
def iz(ds:Β)(j:Nat):Nat->Int
 |0=>0
 |n+1=>iz ds j n+if n%4=j then ds.getD n 0 else 0
def ZJ(ds:Β)(n:Nat):Β:=[iz ds 0 n,iz ds 1 n,iz ds 2 n,iz ds 3 n]
theorem vb(ds:Β)(n:Nat):(ZJ ds n).set (n%4) ((ZJ ds n).getD (n%4) 0+ds.getD n 0)=ZJ ds (n+1):=by
 have h:n%4=0\/n%4=1\/n%4=2\/n%4=3:=by lia
 rcases h with h|h|h|h<;>simp [ZJ,iz,h]
def bp(ds:Β):Β:=(ZJ ds ds.length).map (· %16)
theorem kN(ds:Β):(bp ds).length=4:=Z
inductive LH (vs:Ε) (H:Hp) (Q:VK):Prop
 |mk (z:_) (h1:vs=[.str z]) (h2:Qr z) (h3:∀l H',GS H H'->H l=none->H' l=↑(.lst ((Q0 z.cps.toList).map V.int))->Q (.ref l) H')
def ja:Sp:=λvs H Q _=>LH vs H Q
inductive Mr (K:ι) (vs:Ε) (H:Hp) (Q:VK):Prop
 |mk (a b:Δ) (z:Str) (t ks:Β) (h1:vs=[.ref a,.ref b,.str z]) (h2:Sq K H a (t.map V.int)) (h3:Sq K H b (ks.map V.int)) (h4:Qr z) (h5:t.length=16) (h6:∀p H',GS H H'->H p=none->H' p=↑(.tup ((QB t ks (bp (Q0 z.cps.toList))).map V.int))->Q (.ref p) H')
def ib(K:ι):Sp:=λvs H Q _=>Mr K vs H Q
theorem AF{a:Κ}{i c:Nat}(h:a[i]? =↑c):a.take (i+1)=a.take i++[c]:=by rw[J9,h];rfl
theorem oZ{z:Str}{i c:Nat}(h:z.cps[i]? =↑c):z.cps.toList[i]? =↑c:=by simpa using h
theorem vY{X:Cx}{a:Scope}{y z:Str}{j k:Nat}(f:a.kind= .function)(d:∀x∈a.names,x.2= .local->a.names.lookup x.1=some .local)(c:∀x∈a.names,x.2≠ .cell)
  (e:∀x∈a.names,x.2= .free->x.1∈([y,z]:Α))(h1:X.N[j]? =↑y)(h2:X.env.kindOf y=some .cell)(l:(relabel a X.env).names.lookup y=some .cell)
  (m:X.N[k]? =↑z)(n:X.env.kindOf z=some .cell)(o:(relabel a X.env).names.lookup z=some .cell):HP X a [y,z] [j,k]:=
 #[f,d,c,e,Z,λi q p g h=>by
  match i with
  |0=>cases g;cases h;exact#[h1,h2,l]
  |1=>cases g;cases h;exact#[m,n,o]
  |i+2=>simp at g]
theorem vM{X:Cx}{y z:Str}{c d:Δ}(h:X.env.cells.lookup y=↑c)(g:X.env.cells.lookup z=↑d):∀u e,([(y,c),(z,d)]:List (Str×Δ)).lookup u=↑e->X.env.cells.lookup u=↑e:=λu e a=>by
 by_cases f:u=y
 ·subst f
  simp at a
  rw[<- a];exact h
 ·by_cases i:u=z
  ·subst i
   simp [J7,show(u==y)=false from by simpa using f]at a
   rw[<- a];exact g
  ·simp [J7,show(u==y)=false from by simpa using f,show(u==z)=false from by simpa using i]at a
end L3
namespace L3
open PySem PySem.Spec PyProof.Rows L2
open Sem (wp)
section
variable{prog:Ξ}{w:Ω}{A:Around}{E:GP}{s:Θ}
theorem gt{it t:Δ}{items:Array Γ}(j:t≠it):∀(n i:Nat) (s:Θ) (Q:Ζ->Θ->Prop),s.heap.IsListIter it t i->s.heap.IsList t items->i+n<=items.size->
  (∀h',h'.IsListIter it t (i+n)->Ψ.SameBut it s.heap h'->Q ((items.toList.drop i).take n) {s with heap:=h'})->ε (model prog w) A (draw (.ref it) n) Q E s
 |0,i,s,Q,hit,_,_,hQ=>by
  show ε _ _ (pure []) Q E s
  refine Jd ?_
  have:=hQ s.heap hit (Ψ.SameBut.refl ..)
  simpa using this
 |n+1,i,s,Q,hit,ht,hle,hQ=>by
  have h:i<items.size:=by lia
  show ε _ _ (pyNext (.ref it) >>= _) Q E s
  refine Ja (wpAny_pyNext_list_item hit ht (x:=items[i]) (by simp [h]) λl d a=>?_)
  have m:(Θ.heap {s with heap:=l}).IsList t items:=let⟨o,e,r⟩:=ht;#[o,a.extBut _ _ j e,r]
  refine Ja (JI (gt j n (i+1) _ _ d m (by lia) λg c f=>Jd ?_))
  have p:items.toList.drop i=items[i]::items.toList.drop (i+1):=by simp [List.drop_eq_getElem_cons,h]
  have z:=hQ g (by rw[show i+(n+1)=i+1+n by lia];exact c) (a.trans f)
  rw[p,List.take_succ_cons]at z;exact z
theorem k6{t:Δ}{items:Array Γ}{a:List (Bool×(Γ->Sem Unit))}{Q:Unit->Θ->Prop}(u:A.handled=none)(j:s.heap.IsList t items)
  (hn:a.length=items.size)(i:a.findIdx? (·.1)=none)
  (h:∀h',Ψ.ExtBut s.heap.objs.size s.heap h'->ε (model prog w) A (assignInOrder (a.map (·.2)) items.toList) Q E {s with heap:=h'}):
  ε (model prog w) A (unpack (.ref t) a) Q E s:=by
 have m:t≠s.heap.objs.size:=by obtain⟨o,v,_⟩:=j;exact Jk (Jj v)
 unfold unpack;rw[hn,i];refine Ja (JI ?_)
 unfold unpackItems;refine Ja ?_
 unfold notIterableAtAll;refine Ja (FK j.typeIs F.slot_list_iter.lookup ?_)
 refine Jd ?_
 simp only[Bool.false_eq_true,JD];refine Ja (JI (FO j ?_))
 refine Ja (JI (gt m items.size 0 _ _ #[_,Jq _ Z,Z,Z] (j.push _) (by lia) λp d c=>?_))
 have n:List.take items.size (List.drop 0 items.toList)=items.toList:=by
  rw[List.drop_zero];exact Gn (by simp)
 rw[n];rw[Jb (by simp)]
 have f:p.IsList t items:=let⟨o,e,r⟩:=j.push _;#[o,c.extBut _ _ m e,r]
 refine Ja (JI (wpAny_pyNext_list_end u d f (by simp) λl g=>?_))
 simp only[Option.isSome_none,Bool.false_eq_true,JD];exact Jd (h l λb o q e=>g b o q (c.extBut b o q (Jl _ e)))
end
section
variable{X:Cx}{pos:Pos}
inductive NQ (K:ι) (n:Nat) (t:Zw) (v:V) (σ:L2.St) (H:Hp) (Q:L2.St->Hp->Prop):Prop
 |mk (a:_) (xs:_) (h1:v= .ref a) (h2:Sq K H a xs) (h3:xs.length=n) (h4:t xs σ H Q)
def sX(K:ι)(n:Nat)(t:Zw):TG:=λv σ H Q=>NQ K n t v σ H Q
theorem uM{es:Ι}{k:Nat}{t:Zw}{n:Nat}(hc:X.calm=true)(h:n6 X es t)
  (hn:(assignEach es X.env).length=n:=by rfl)(hst:(assignEach es X.env).findIdx? (·.1)=none:=by rfl):PG X (.Tuple es k pos) (sX X.K n t):=by
 intro Oa s σ H v u Q I r d;obtain⟨a,xs,f,c,i,d⟩:=d;rcases c with c|c
 ·subst f
  cases r;obtain⟨l,g,j,q⟩:=I.list c;rw[assign_Tuple];refine Ja (E1 (k6 (I.ok.hd hc) j.isList (by simp [hn,<- i,g.length]) hst λh' p=>?_))
  have m:L2.GX X Oa σ H {s with heap:=h'}:=I.kept (t':=s.toks) λb o e=>p b o (Jk (Jj e)) e
  exact h Oa _ σ H xs _ Q m (by simpa using g) d
 ·exact mY hc h hn hst Oa s σ H v u Q I r #[a,xs,f,c,i,d]
theorem ze{es:Ι}{k:Nat}{t:Zw}{n:Nat}(hc:X.calm=true)(h:Nv X es t)
  (hn:(assignEach es X.env).length=n:=by rfl)(hst:(assignEach es X.env).findIdx? (·.1)=none:=by rfl):QG X (.Tuple es k pos) (sX X.K n t):=#[uM hc h.h hn hst]
end
end L3
namespace L3
open PySem PySem.Spec PyProof.Rows L2
def Z2(c d:Int):Β:=[c%16,c/16%16,c/256,d]
def Z4(c d:Int):Β:=Z2 c d++[(Z2 c d).sum%16]
def ip(t ks:Β)(z:Str):Β:=QB t ks (bp (Q0 z.cps.toList))
def cj(t ks:Β)(z:Str)(c d:Int):Β:=QB t (ip t ks z) (Z4 c d)
def j6(r:Β):Option (Int×Int):=if r.getD 4 0=(r.getD 0 0+r.getD 1 0+r.getD 2 0+r.getD 3 0)%16 then ↑(r.getD 0 0+r.getD 1 0*16+r.getD 2 0*256,r.getD 3 0)else none
def Zn(t ks:Β)(z:Str)(ds:Β):Option (Int×Int):=j6 (Q6 (zz t) (ip t ks z) ds)
theorem bV(c d:Int):(Z4 c d).length=5:=Z
theorem vZ(c d:Int):(Z2 c d).sum=c%16+c/16%16+c/256+d:=by simp [Z2];lia
theorem fQ{c d:Int}(e:0<=c)(h1:c<4096)(hd:aL d):zy (Z4 c d):=λx a=>by
 simp only[Z4,Z2,List.cons_append,List.nil_append,Jm,JE,JF]at a;rcases a with rfl|rfl|rfl|rfl|rfl
 ·exact ac _
 ·exact ac _
 ·exact#[by lia,by lia]
 ·exact hd
 ·exact ac _
theorem tz{c d:Int}(a:0<=c)(h1:c<4096):j6 (Z4 c d)=↑(c,d):=by
 have e:(Z4 c d)=[c%16,c/16%16,c/256,d,(c%16+c/16%16+c/256+d)%16]:=by unfold Z4;rw[vZ];rfl
 unfold j6;rw[e]
 show(if(c%16+c/16%16+c/256+d)%16=(c%16+c/16%16+c/256+d)%16 then ↑(c%16+c/16%16*16+c/256*256,d)else none)=_
 rw[Jc Z,show c%16+c/16%16*16+c/256*256=c by lia]
theorem Aq{r:Β}(hl:r.length=5):∃a b c d e:Int,r=[a,b,c,d,e]:=by
 match r,hl with
 | [a,b,c,d,e],_=>exact#[a,b,c,d,e,Z]
theorem sZ(t ks:Β)(z:Str)(c d:Int):(cj t ks z c d).length=5:=by unfold cj;rw[cv,bV]
theorem wo{t ks:Β}(p:t.Perm HW){z:Str}{c d:Int}(a:0<=c)(h1:c<4096)(hd:aL d):zy (cj t ks z c d):=ke p (fQ a h1 hd)
theorem jw{t ks:Β}(p:t.Perm HW){z:Str}{c d:Int}(a:0<=c)(h1:c<4096)(hd:aL d):Zn t ks z (cj t ks z c d)=↑(c,d):=by
 unfold Zn cj;rw[ki p (fQ a h1 hd) (by rw[bV];decide),tz a h1]
def cQ(H:Hp)(x:V):Option (Int×Int)->Prop
 |none=>x= .non
 |some (c,d)=>∃p,x= .ref p/\H p=↑(.tup [.int c,.int d])
inductive NR (vs:Ε) (H:Hp) (Q:VK):Prop
 |mk (c:Int) (h1:vs=[.int c]) (h2:∀p H',GS H H'->H' p=↑(.tup [.int (c%16),.int (c/16%16),.int (c/256)])->Q (.ref p) H')
def BR:Sp:=λvs H Q _=>NR vs H Q
inductive Ms (K:ι) (vs:Ε) (H:Hp) (Q:VK):Prop
 |mk (a b:Δ) (z:Str) (age c d:Int) (t ks:Β) (h1:vs=[.ref a,.ref b,.str z,.int age,.int c,.int d]) (h2:Sq K H a (t.map V.int)) (h3:Sq K H b (ks.map V.int)) (h4:Qr z) (h5:t.length=16) (h6:0<=c) (h7:c<4096) (h8:aL d) (h9:∀p pc H',GS H H'->H' p=↑(.tup [.str z,.int age,.ref pc])->H' pc=↑(.tup ((cj t ks z c d).map V.int))->Q (.ref p) H')
def pD(K:ι):Sp:=λvs H Q _=>Ms K vs H Q
inductive Nc (K:ι) (vs:Ε) (H:Hp) (Q:VK):Prop
 |mk (a b pr pc:Δ) (z:Str) (age:Int) (t ks ds:Β) (h1:vs=[.ref a,.ref b,.ref pr]) (h2:Sq K H a (t.map V.int)) (h3:Sq K H b (ks.map V.int)) (h4:Sq K H pr [.str z,.int age,.ref pc]) (h5:Sq K H pc (ds.map V.int)) (h6:Qr z) (h7:t.Perm HW) (h8:ds.length=5) (h9:zy ds) (h10:∀x H',GS H H'->cQ H' x (Zn t ks z ds)->Q x H')
def mj(K:ι):Sp:=λvs H Q _=>Nc K vs H Q
theorem CP{X:Cx}{pos:Pos}{i j:Nat}{x y:Str}{a b:Φ}{ta:TA}{c d pt:Pos}{kt k2 pt2}(hc:X.calm=true)(hN:X.N.Nodup)(hi:X.N[i]? =↑x)(g:X.N[j]? =↑y)(e:i≠j)
  (hx:X.env.scope.names.lookup x=some .local)(f:X.env.scope.names.lookup y=some .local)(ha:QA X [a,b] ta)
  (hw:swappedStores [.Tuple [.Name x c,.Name y d] kt pt] (.Tuple [a,b] k2 pt2) X.env=pure (some [x,y]):=by rfl)
  (hs:swapsWithSole [.Tuple [.Name x c,.Name y d] kt pt] (.Tuple [a,b] k2 pt2) pos.line X.env=pure false:=by rfl):
  QS X (.Assign [.Tuple [.Name x c,.Name y d] kt pt] (.Tuple [a,b] k2 pt2) pos) (BQ i j ta):=#[Dn hc hN hi g e hx f ha.h hw hs]
def bo(K:ι)(H:Hp)(a:Δ)(f:Str)(v:V):Prop:=∃C dx fs,H a=↑(.ins C dx fs)/\LV K C/\HH K C f/\fs.lookup f=↑v
def ku(K:ι)(H:Hp)(a:Δ)(f:Str)(v:V)(H':Hp):Prop:=∃C dx fs,H a=↑(.ins C dx fs)/\LV K C/\HH K C f/\fs.length<1000/\H'=GW H a (.ins C dx (Qb f v fs))
def Ee(C:Δ)(H:Hp)(a:Δ)(m:Str):Prop:=∃dx fs,H a=↑(.ins C dx fs)/\fs.lookup m=none
def Ag(K:ι)(ta:TE)(f:Str):TE:=λσ H Q=>ta σ H λx H1=>∃a v,x= .ref a/\bo K H1 a f v/\Q v H1
def DO(K:ι)(ta tv:TE)(f:Str):TS:=λD σ H=>tv σ H λy H1=>ta σ H1 λx d=>∃a c,x= .ref a/\ku K d a f y c/\D.nx σ c
def uT(C:Δ)(m:Str)(sp:Sp)(ta:TE)(t:TA):TE:=λσ H Q=>ta σ H λx H1=>∃a,x= .ref a/\Ee C H1 a m/\t σ H1 λvs c=>sp (x::(vs++[])) c Q E0
section
variable{X:Cx}{o e value:Φ}{f:Str}{pos pos':Pos}{ta tv:TE}
theorem za(he:QE X e ta)(hb:attributeBase e f X.env (eval e X.env)=eval e X.env:=by rfl):QE X (.Attribute e f pos) (Ag X.K ta f):=#[by
 intro Oa s σ H Q I h;refine Ba hb (qz (he.h Oa s σ H _ I h) λu r i=>?_)
 obtain⟨x,H1,j,d,a,v,ex,⟨C,dx,fs,o,c,n,l⟩,q⟩:=i;subst ex
 obtain rfl:u=Γ.ref a:=d
 exact sk j o c n l λt p g m=>#[v,H1,g,m,q]]
theorem zI(ha:QE X o ta)(hv:QE X value tv)(hs:swapsWith value ↑(.Attribute o f pos') pos.line X.env=pure false:=by rfl):QS X (.Assign [.Attribute o f pos'] value pos) (DO X.K ta tv f):=#[by
 intro Oa s σ H D I h;refine plainObj_wpAny_Assign_Attribute (qz (hv.h Oa s σ H _ I h) λu r ⟨y,H1,t,v,q⟩=>qz (ha.h Oa r σ H1 _ t q) λp B j=>?_) hs
 obtain⟨x,A,e,d,a,z,ex,⟨C,dx,fs,w,c,n,l,i⟩,g⟩:=j;subst ex i
 obtain rfl:p=Γ.ref a:=d
 exact rL e w c n l v λE m=>#[σ,_,m,g]]
end
structure Mf(P:Ξ)(w:Ω)(K:ι)(mg:GQ)(base:Ψ)(C:Δ)(m:Str)(ps:Α)(k:Nat)(sp:Sp):Prop where
 ex:∃(f:Δ) (fd:FuncData),IP P w K mg base aJ k f fd ps sp/\M5 K C m f/\Iw K fd ps []
structure Lm(K:ι)(C:Δ)(m Ob:Str)(st:δ)(ps:Α):Prop where
 ex:∃(f:Δ) (fd:FuncData),LX K m Ob st f fd/\M5 K C m f/\Iw K fd ps []
structure Mi(P:Ξ)(w:Ω)(K:ι)(mg:GQ)(base:Ψ)(C:Δ)(x:Str)(ps:Α)(k:Nat)(sp:Sp):Prop where
 ex:∃(f:Δ) (fd:FuncData),IP P w K mg base aJ k f fd ps sp/\Mk K C f/\mg x=↑(.ref C)/\Iw K fd ps []
section
variable{P:Ξ}{w:Ω}{K:ι}{mg:GQ}{base:Ψ}{C:Δ}
theorem Lm.mq{m Ob:Str}{st:δ}{ps N:Α}{k:Nat}{sp:Sp}(a:Lm K C m Ob st ps)(S:GU N ps (qi st))
  (d:∀(f:Δ) (cdv:Γ) (A:Around) (c:Τ) (s:Θ) (H:Hp) (vs:Ε) (Q:VK) (E:XK),HB k (A.deeper (envOfC Ob (qi st) s.heap.objs.size f cdv))->sp vs H Q E->
   ∃t,Mo (bt aJ P w K mg base N Ob (qi st) f cdv A c s H E).nox (zF st) t/\t {nx:=λ_ H'=>Q .non H',rt:=Q} (Q4 N vs) H)(len:∀vs H Q E,sp vs H Q E->vs.length=ps.length:=by intro vs H Q E h;first|(cases h;subst_vars;rfl)|((repeat first|obtain⟨rfl,h⟩:=h|obtain⟨_,h⟩:=h);all_goals rfl)):Mf P w K mg base C m ps (k+1) sp:=by
 obtain⟨f,fd,F,m,bd⟩:=a.ex
 exact#[f,fd,F.ok S len (λcdv A c s H vs Q E e h=>let⟨t,q1,q2⟩:=d f cdv A c s H vs Q E e h;#[t,q1.h,q2]),m,bd]
theorem Mf.mi{x:Str}{ps:Α}{k:Nat}{sp:Sp}(a:Mf P w K mg base C "__init__" ps k sp)(c:W.makesIn K C=true)(d:W.keepIn K (.ref C)=true)(hx:mg x=↑(.ref C)):Mi P w K mg base C x ps k sp:=
 let⟨f,fd,F,m,bd⟩:=a.ex;#[f,fd,F,#[c,m.at_,m.fn,d],hx,bd]
end
section
variable{X:Cx}{C:Δ}{x m:Str}{ps:Α}{k:Nat}{sp:Sp}{o e:Φ}{es:Ι}{p pos apos:Pos}{ta:TE}{t:TA}
theorem zf{pl:Sem Bool}(M:Mf X.prog X.w X.K X.mg X.base C m ps k sp)(c:LV X.K C)(hr:HB k X.A)(he:QE X o ta)(ha:QA X (e::es) t)
  (hst:θ (e::es) X.env=(false,eval e X.env)::θ es X.env:=by rfl)(hpl:(backTo pos (θ es X.env)).any (·.1)=false:=by rfl)
  (n:eval (.Call (.Attribute o m apos) (e::es) [] pos) X.env=(do
   let g <- eval o X.env
   standAt apos.atName
   let(f,first) <- holding [g] (getMethod g m pl)
   callWith pos f first (backTo pos (θ (e::es) X.env)) (backToKw pos (keywordEach [] X.env))):=by rfl):
  QE X (.Call (.Attribute o m apos) (e::es) [] pos) (uT C m sp ta t):=#[by
 obtain⟨f,fd,F,j,y⟩:=M.ex;intro Oa s σ H Q I h;refine W.methodCall_KW (pl:=pl) (qz (he.h Oa s σ H _ I h) λu z w=>?_) n
 obtain⟨x,H1,i,p,a,ex,⟨dx,fs,A,l⟩,q⟩:=w;subst ex
 obtain rfl:u=Γ.ref a:=p
 refine gO i A c j l ?_
 refine W.callWith_K (first:=[.ref a]) (h₀:=X.base) I.ok.mod.kin j.kp (qz (ha.h pos Oa z σ H1 _ i q) λus D ⟨vs,B,d,r,v⟩=>#[d.kIn,?_]) hst hpl
 exact mC (us:= .ref a::us) (vs:= .ref a::vs) F hr y .nil j4 d (.cons Z r) v]
theorem Qi{pl:Sem Bool}(M:Mf X.prog X.w X.K X.mg X.base C m ps k sp)(c:LV X.K C)(hr:HB k X.A)(he:QE X o ta)
  (i:eval (.Call (.Attribute o m apos) [] [] pos) X.env=(do
   let e <- eval o X.env
   standAt apos.atName
   let(f,first) <- holding [e] (getMethod e m pl)
   callWith pos f first (backTo pos (θ [] X.env)) (backToKw pos (keywordEach [] X.env))):=by rfl):
  QE X (.Call (.Attribute o m apos) [] [] pos) (uT C m sp ta xj):=#[by
 obtain⟨f,fd,F,g,p⟩:=M.ex;intro Oa s σ H Q I h;refine W.methodCall_KW (pl:=pl) (qz (he.h Oa s σ H _ I h) λu t n=>?_) i
 obtain⟨x,H1,d,j,a,ex,⟨dx,fs,r,l⟩,q⟩:=n;subst ex
 obtain rfl:u=Γ.ref a:=j
 refine gO d r c g l ?_
 exact W.callWith_K0 (first:=[.ref a]) d.kIn g.kp (mC (us:=[.ref a]) (vs:=[.ref a]) F hr p .nil j4 d (.cons Z .nil) q)]
theorem Ao(M:Mi X.prog X.w X.K X.mg X.base C x ps k sp)(hr:HB (k+1) X.A)(ha:QA X (e::es) t)(hg:Gl X x:=by rfl)(hdb:(x==("__debug__":Str))=false:=by decide)
  (he:θ (e::es) X.env=(false,eval e X.env)::θ es X.env:=by rfl)(hpl:(backTo pos (θ es X.env)).any (·.1)=false:=by rfl):
  QE X (.Call (.Name x p) (e::es) [] pos) (yW C sp [] E0 t):=#[by
 obtain⟨f,fd,F,a,d,c⟩:=M.ex;exact Am a F hr hg d c .nil j4 ha.h hdb he hpl]
end
section
variable{X:Cx}{o e:Φ}{es:Ι}{to:TE}{t:TA}{name:Str}{apos cpos:Pos}{T id:String}{r:V->Ε->Hp->VK->Prop}{K:ι}
theorem kg(i:X.K=K)(j:PlainAttrs T)(g:Slot T name id)(h:typeOf (.builtin id)=pure (.type "method_descriptor"))(hm:gw X id r)(ho:QE X o to)(ha:QA X (e::es) t)
  (c:attributeBase o name X.env (eval o X.env)=eval o X.env:=by rfl)
  (f:((backTo cpos (θ (e::es) X.env)).all (λx=> ! x.1)&&(backToKw cpos (keywordEach [] X.env)).all (λx=>x.1.isSome)
   &&decide ((e::es).length+([]:ξ).length+(if([]:ξ).isEmpty then 0 else 1)<30))=true:=by rfl)
  (d:(apos.endLine==cpos.line)=true:=by rfl)(hs:θ (e::es) X.env=(false,eval e X.env)::θ es X.env:=by rfl)(a:(backTo cpos (θ es X.env)).any (·.1)=false:=by rfl):
  QE X (.Call (.Attribute o name apos) (e::es) [] cpos) (C6 K T r to t):=by
 subst i;exact QZ j g h hm ho ha c f d hs a
theorem BI(f:PlainAttrs T)(d:Slot T name id)(e:typeOf (.builtin id)=pure (.type "method_descriptor"))(hm:gw X id r)(ho:QE X o to)
  (a:attributeBase o name X.env (eval o X.env)=eval o X.env:=by rfl)(c:(apos.endLine==cpos.line)=true:=by rfl):QE X (.Call (.Attribute o name apos) [] [] cpos) (C7 X.K T r to):=#[Cb f d e hm ho.h a c]
theorem gc:gw X "list.pop" tF:=wG
theorem rR:gw X "list.reverse" j8:=sV
end
theorem jt{f:Str}{v:V}:∀{fs:List (Str×V)} (i:Nat),fs[i]? =↑(f,v)->(fs.map (·.1)).Nodup->fs.lookup f=↑v
 | [],i,h,_=>by cases h
 |(g,x)::r,0,h,_=>by
  cases JA h
  exact List.lookup_cons_self
 |(g,x)::r,i+1,h,nd=>by
  have h':r[i]? =↑(f,v):=h
  have a:g∉r.map (·.1)/\(r.map (·.1)).Nodup:=Fg.mp nd
  have d:f∈r.map (·.1):=Jt.mpr #[(f,v),JP h',Z]
  have c:f≠g:=λz=>a.1 (z▸d)
  rw[J7,FL c];exact jt i h' a.2
theorem jE{f:Str}:∀{fs:List (Str×V)},f∉fs.map (·.1)->fs.lookup f=none
 | [],_=>rfl
 |(g,x)::r,h=>by
  have a:f≠g:=λz=>h (z▸JB ..)
  rw[J7,FL a];exact jE λz=>h (JM _ z)
theorem n5{f:Str}{v u:V}:∀{fs:List (Str×V)} (i:Nat),fs[i]? =↑(f,u)->(fs.map (·.1)).Nodup->Qb f v fs=fs.set i (f,v)
 | [],i,h,_=>by cases h
 |(g,x)::r,0,h,_=>by
  cases JA h
  show(if f=f then _ else _)=_
  rw[Jc Z];rfl
 |(g,x)::r,i+1,h,nd=>by
  have h':r[i]? =↑(f,u):=h
  have a:g∉r.map (·.1)/\(r.map (·.1)).Nodup:=Fg.mp nd
  have d:f∈r.map (·.1):=Jt.mpr #[(f,u),JP h',Z]
  have c:¬g=f:=λz=>a.1 (z▸d)
  show(if g=f then _ else(g,x)::Qb f v r)=_
  rw[Jb c,n5 i h' a.2];rfl
theorem mw{f:Str}{v:V}:∀{fs:List (Str×V)},f∉fs.map (·.1)->Qb f v fs=fs++[(f,v)]
 | [],_=>rfl
 |(g,x)::r,h=>by
  have a:¬g=f:=λz=>h (z▸JB ..)
  show(if g=f then _ else(g,x)::Qb f v r)=_
  rw[Jb a,mw λz=>h (JM _ z)];rfl
def Mv(S:Η)(H H':Hp):Prop:=∀c o,c∉S->H c=↑o->H' c=↑o
theorem Mv.trans{S:Η}{H H1 d:Hp}(a:Mv S H H1)(b:Mv S H1 d):Mv S H d:=λc o n e=>b c o n (a c o n e)
theorem Mv.mono{S d:Η}{H H':Hp}(a:Mv S H H')(h:∀c,c∉d->c∉S):Mv d H H':=λc o n e=>a c o (h c n) e
theorem _root_.L2.GS.mv{S:Η}{H H':Hp}(a:GS H H'):Mv S H H':=λc o _ e=>a c o e
theorem Mv.upd1{a:Δ}{H:Hp}{o:HO}:Mv [a] H (GW H a o):=λc u n e=>by
 rw[qm (λz=>n (Jh.mpr z))];exact e
theorem IQ.mv{b:Δ}{n:Nat}{H H':Hp}(g:IQ b n H H'):Mv [b] H H':=λc o h e=>g.kp c o (λz=>h (Jh.mpr z)) e
def yS:HO->Prop
 | .tup _=>False
 | .frz _ (.dK _)=>True
 | .frz _ _=>False
 |_=>True
def NT(S:Η)(H:Hp):Prop:=∀c,c∈S->∃o,H c=↑o/\yS o
theorem Mv.rd{S:Η}{H H':Hp}{a:Δ}{xs:Ε}(m:Mv S H H')(n:NT S H)(h:Rd H a (.tup xs)):Rd H' a (.tup xs):=by
 have c:a∉S:=λz=>by
  obtain⟨o,e,no⟩:=n a z;rcases h with h|⟨o',h⟩
  ·rw[e]at h;cases h;exact no
  ·rw[e]at h;cases h;exact no
 rcases h with h|⟨o',h⟩
 ·exact .inl (m _ _ c h)
 ·exact .inr #[o',m _ _ c h]
theorem Mv.sqt{K:ι}{S:Η}{H H':Hp}{a:Δ}{xs:Ε}(m:Mv S H H')(n:NT S H)(h:G9 K H a xs):G9 K H' a xs:=by
 rcases h with h|h
 ·exact .inl (m.rd n h)
 ·exact .inr h
inductive L4 (vs:Ε) (H:Hp) (Q:VK):Prop
 |mk (b:Δ) (c:Nat) (h1:vs=[.ref b]) (h2:Ip H b c) (h3:c<100000000) (h4:∀p (t:Β) H',IQ b (c+16) H H'->H p=none->H' p=↑(.tup (t.map V.int))->t.Perm HW->Q (.ref p) H')
def mJ:Sp:=λvs H Q _=>L4 vs H Q
inductive Mt (vs:Ε) (H:Hp) (Q:VK):Prop
 |mk (b:Δ) (c:Nat) (h1:vs=[.ref b]) (h2:Ip H b c) (h3:c<100000000) (h4:∀p (ks:Β) H',IQ b (c+9) H H'->H p=none->H' p=↑(.tup (ks.map V.int))->zy ks->1<=ks.length->ks.length<=8->Q (.ref p) H')
def pH:Sp:=λvs H Q _=>Mt vs H Q
theorem IQ.fresh{b c:Δ}{n:Nat}{H H':Hp}(g:IQ b n H H')(hb:Ip H b n)(h:H' c=Option.none):H c=Option.none:=by
 cases e:H c with
 |none=>rfl
 |some o=>
  by_cases z:c=b
  ·subst z
   obtain⟨_,_,_,a,_⟩:=g.bx;rw[a]at h;cases h
  ·rw[g.kp c o z e]at h;cases h
theorem yd{K:ι}{H:Hp}{a:Δ}{xs:Ε}{Q:VK}(h:Sq K H a xs)(q:∀l H',GS H H'->G9 K H' l xs->Q (.ref l) H'):(G0 K H a xs/\∀l,H l=none->Q (.ref l) (GW H l (.tup xs)))\/(G9 K H a xs/\Q (.ref a) H):=
 h.elim (λh=> .inl #[h,λl c=>q l _ (GS.upd c) (G9.of qc)]) λh=> .inr #[h,q a H (GS.refl _) h]
theorem fk{K:ι}{C p dx a:Δ}{H:Hp}{fs:List (Str×V)}{xs:Ε}{o:HO}(e:H p=↑(.ins C dx fs))(h:G9 K H a xs):G9 K (GW H p o) a xs:=by
 rcases h with(h|⟨u,h⟩)|h
 ·exact .inl (.inl (by rw[qm (zG h e (by intro z;cases z))];exact h))
 ·exact .inl (.inr #[u,by rw[qm (zG h e (by intro z;cases z))];exact h])
 ·exact .inr h
theorem cF{X:Cx}{K:ι}(a:X.K=K):zi X (.builtin "len") (λxs H Q=>∃p ys,xs=[.ref p]/\(G0 K H p ys\/G9 K H p ys)/\Q (.int (ys.length:Nat)) H):=by
 subst a;exact qY
theorem cY{k n:Nat}(h:k<n):seqIndex? (k:Int) n=↑k:=by
 unfold seqIndex?
 simp
 omega
theorem xh{ms zs:Β}{k:Nat}(h:k<ms.length):(zs++[ms[k]]++ms.eraseIdx k).Perm (zs++ms):=by
 rw[Fh];refine List.Perm.append_left zs ?_
 rw[List.eraseIdx_eq_take_drop_succ];have e:ms=ms.take k++ms[k]::ms.drop (k+1):=by rw[<- List.drop_eq_getElem_cons h,List.take_append_drop]
 refine List.Perm.trans (List.perm_middle (a:=ms[k]) (l₁:=ms.take k) (l₂:=ms.drop (k+1))).symm ?_
 rw[<- e]
theorem rO(ms:Β)(k:Nat):(ms.map V.int).eraseIdx k=(ms.eraseIdx k).map V.int:=by
 rw[List.eraseIdx_eq_take_drop_succ,List.eraseIdx_eq_take_drop_succ,JK,List.map_take,List.map_drop]
theorem bh{X:Cx}:zi X (.type "tuple") (λxs H Q=>∃p ys,xs=[.ref p]/\Sq X.K H p ys/\∀l H',GS H H'->G9 X.K H' l ys->Q (.ref l) H'):=by
 intro Oa s σ H xs c Q I r h;obtain⟨p,ys,e,a,q⟩:=h;exact qX Oa s σ H xs c Q I r #[p,ys,e,yd a q]
section
variable{H:Hp}{b:Δ}{n:Nat}
theorem qV{a x:Δ}(h:a≠x):a∉[x]:=λz=>h (Jh.mp z)
theorem zg(hb:Ip H b n):NT [b] H:=λc a=>by
 obtain⟨_,_,_,e,_⟩:=hb;rw[Jh.mp a]
 exact#[_,e,trivial]
end
theorem Ip.mv{H H':Hp}{S:Η}{b:Δ}{n:Nat}(h:Ip H b n)(m:Mv S H H')(f:b∉S):Ip H' b n:=by
 obtain⟨d,a,c,e,r⟩:=h
 exact#[d,a,c,m _ _ f e,r]
theorem sN(n:Nat)(h:n<=100:=by omega):n<ζ:=Nat.lt_of_le_of_lt h ⋯
theorem rh{a x y:Δ}(h:a≠x)(g:a≠y):a∉[x,y]:=λz=>by
 simp only[Jm,JE,JF]at z;exact z.elim h g
theorem NT.one{H:Hp}{a:Δ}{o:HO}(e:H a=↑o)(n:yS o):NT [a] H:=λc d=>#[o,by rw[Jh.mp d];exact e,n]
end L3
namespace L2
open PySem PySem.Spec PyProof.Rows
section
variable{κ:Type} [DecidableEq κ]
def Zq(kvs:List (κ×V))(k:κ):Μ:=(kvs.find? λa=>decide (a.1=k)).map (·.2)
def HL(kvs:List (κ×V))(k:κ)(v:V):List (κ×V):=
 if(kvs.any λa=>decide (a.1=k))=true then kvs.map (λa=>if a.1=k then(a.1,v)else a)else kvs++[(k,v)]
theorem ad{p:κ×V}{r:List (κ×V)}{k:κ}(e:p.1=k):Zq (p::r) k=↑p.2:=by simp [Zq,FZ,e]
theorem ae{p:κ×V}{r:List (κ×V)}{k:κ}(e:¬p.1=k):Zq (p::r) k=Zq r k:=by simp [Zq,FZ,e]
theorem ml(k:κ):∀kvs:List (κ×V),(kvs.any λa=>decide (a.1=k))=(Zq kvs k).isSome
 | []=>rfl
 |p::r=>by
  rw[ES]
  by_cases e:p.1=k
  ·simp only[ad e,Ji e,Bool.true_or,Option.isSome_some]
  ·rw[ae e,Jo e,Bool.false_or];exact ml k r
theorem ZM(kvs:List (κ×V))(k:κ)(v:V):(HL kvs k v).length<=kvs.length+1:=by
 unfold HL;split
 ·rw[Je];lia
 ·rw[Jv,JN,List.length_nil];lia
theorem IM.isSome_eq{o:Μ}{u:Ν}(r:IM o u):o.isSome=u.isSome:=by
 cases o with
 |none=>cases u with
  |none=>rfl
  |some _=>exact(show False from r).elim
 |some _=>cases u with
  |none=>exact(show False from r).elim
  |some _=>rfl
theorem IM.getD{o:Μ}{u:Ν}{d:V}{d':Γ}(r:IM o u)(rd:G8 d d'):G8 (o.getD d) (u.getD d'):=by
 cases o with
 |none=>cases u with
  |none=>exact rd
  |some _=>exact(show False from r).elim
 |some _=>cases u with
  |none=>exact(show False from r).elim
  |some _=>exact r
theorem KV.val{kvs:List (κ×V)}{vs:List (κ×Γ)}(r:KV kvs vs)(k:κ):IM (Zq kvs k) (valueAt vs k):=by
 unfold KV at r
 induction r with
 |nil=>exact True.intro
 | @cons p q ps qs h t ih=>
  obtain⟨h1,c⟩:=h
  by_cases e:p.1=k
  ·have a:q.1=k:=h1.symm.trans e
   have b:valueAt (q::qs) k=↑q.2:=by simp [valueAt,FZ,a]
   rw[ad e,b];exact c
  ·have a:¬q.1=k:=λz=>e (h1.trans z)
   have b:valueAt (q::qs) k=valueAt qs k:=by simp [valueAt,FZ,a]
   rw[ae e,b];exact ih
theorem KV.any{kvs:List (κ×V)}{vs:List (κ×Γ)}(r:KV kvs vs)(k:κ):(kvs.any λa=>decide (a.1=k))=vs.any λa=>decide (a.1=k):=by
 unfold KV at r
 induction r with
 |nil=>rfl
 |cons h t ih=>rw[ES,ES,ih,h.1]
theorem KV.repl{kvs:List (κ×V)}{vs:List (κ×Γ)}(r:KV kvs vs)(k:κ){y:V}{u:Γ}(d:G8 y u):
  KV (kvs.map λa=>if a.1=k then(a.1,y)else a) (vs.map λa=>if a.1=k then(a.1,u)else a):=by
 unfold KV at r⊢
 induction r with
 |nil=>exact .nil
 | @cons p q ps qs h t ih=>
  rw[JS,JS];refine .cons ?_ ih
  obtain⟨h1,c⟩:=h
  by_cases e:p.1=k
  ·rw[Jc e,Jc (h1.symm.trans e)];exact#[h1,d]
  ·rw[Jb e,Jb (λz=>e (h1.trans z))];exact#[h1,c]
theorem KV.put{kvs:List (κ×V)}{vs:List (κ×Γ)}(r:KV kvs vs)(k:κ){y:V}{u:Γ}(a:G8 y u):KV (HL kvs k y) (stored vs k u):=by
 unfold HL stored;rw[r.any k]
 by_cases e:(vs.any λc=>decide (c.1=k))=true
 ·rw[Jc e,Jc e];exact r.repl k a
 ·rw[Jb e,Jb e];exact Paired.snoc r #[Z,a]
theorem KV.keys{kvs:List (κ×V)}{vs:List (κ×Γ)}(r:KV kvs vs):kvs.map (·.1)=vs.map (·.1):=by
 unfold KV at r
 induction r with
 |nil=>rfl
 |cons h t ih=>rw[JS,JS,ih,h.1]
theorem KV.length{kvs:List (κ×V)}{vs:List (κ×Γ)}(r:KV kvs vs):kvs.length=vs.length:=Paired.length r
end
theorem bH{P:Ξ}{w:Ω}{k:qJ}{u:Γ}(r:G8 (kV k) u):(qN P w).is k u=true:=by
 cases k with
 |inl i=>obtain⟨t,e⟩:=(show∃t,u=Γ.int i t from r);subst e;exact nw P w i t
 |inr x=>obtain⟨t,e⟩:=(show∃t,u=Γ.str x t from r);subst e;exact nK P w x t
theorem iY{P:Ξ}{w:Ω}:∀{ks:List qJ} {us:Ζ},GZ (ks.map kV) us->ItemsAre (qN P w) ks us
 | [],_,r=>by rw[FS]at r;cases r;exact .nil
 |k::ks,_,r=>by
  rw[JS]at r;cases r with
  |cons h t=>exact .cons (bH h) (iY t)
abbrev KT(H:Hp):List (List qJ×V)->List (List qJ×Δ×Γ)->Prop:=Paired λp q=>p.1=q.1/\H q.2.1=↑(.tup (p.1.map kV))/\G8 p.2 q.2.2
theorem KT.val{H:Hp}{kvs:List (List qJ×V)}{xs:List (List qJ×Δ×Γ)}(r:KT H kvs xs)(k:List qJ):IM (Zq kvs k) ((atKey xs k).map (·.2)):=by
 induction r with
 |nil=>exact True.intro
 | @cons p q ps qs h t ih=>
  obtain⟨h1,_,c⟩:=h
  by_cases e:p.1=k
  ·have a:q.1=k:=h1.symm.trans e
   have b:atKey (q::qs) k=↑q.2:=by simp [atKey,FZ,a]
   rw[ad e,b];exact c
  ·have a:¬q.1=k:=λz=>e (h1.trans z)
   have b:atKey (q::qs) k=atKey qs k:=by simp [atKey,FZ,a]
   rw[ae e,b];exact ih
theorem KT.repl{H:Hp}{kvs:List (List qJ×V)}{xs:List (List qJ×Δ×Γ)}(r:KT H kvs xs)(k:List qJ){y:V}{u:Γ}(f:G8 y u):
  KT H (kvs.map λa=>if a.1=k then(a.1,y)else a) (xs.map (putAt k u)):=by
 induction r with
 |nil=>exact .nil
 | @cons p q ps qs h t ih=>
  rw[JS,JS];refine .cons ?_ ih
  obtain⟨h1,c,d⟩:=h;unfold putAt
  by_cases e:p.1=k
  ·rw[Jc e,Jc (h1.symm.trans e)];exact#[h1,c,f]
  ·rw[Jb e,Jb (λz=>e (h1.trans z))];exact#[h1,c,d]
theorem KT.put{H:Hp}{kvs:List (List qJ×V)}{xs:List (List qJ×Δ×Γ)}(r:KT H kvs xs)(k:List qJ){b:Δ}{y:V}{u:Γ}(hb:H b=↑(.tup (k.map kV)))(a:G8 y u):
  KT H (HL kvs k y) (storedH xs k b u):=by
 have e:(kvs.any λc=>decide (c.1=k))=(atKey xs k).isSome:=by
  rw[ml,(r.val k).isSome_eq,Option.isSome_map]
 unfold HL storedH;rw[e]
 by_cases q:(atKey xs k).isSome=true
 ·rw[Jc q,Jc q];exact r.repl k a
 ·rw[Jb q,Jb q];exact Paired.snoc r #[Z,hb,a]
theorem KT.keeps{H H':Hp}{kvs:List (List qJ×V)}{xs:List (List qJ×Δ×Γ)}(r:KT H kvs xs)(a:∀b ys,H b=↑(.tup ys)->H' b=↑(.tup ys)):KT H' kvs xs:=
 Paired.mapP r λ_ _ z=>#[z.1,a _ _ z.2.1,z.2.2]
section
variable{P:Ξ}{w:Ω}{H:Hp}{h:Ψ}{a:Δ}
theorem yt{u:HO}(ok:IZ P w H h)(e:Rd H a u):Hv P w H h a u:=e.ok ok
theorem aS{kvs:List (qJ×V)}(ok:IZ P w H h)(e:Rd H a (.dK kvs)):kvs.length<=ζ/\(a==sysModules)=false/\∃vs,KV kvs vs/\h.DictOf (qN P w) a vs:=
 show Hv P w H h a (.dK kvs)from yt ok e
theorem pU{kvs:List (qJ×V)}(ok:IZ P w H h)(e:H a=↑(.dK kvs)):kvs.length<=ζ/\(a==sysModules)=false/\∃vs,KV kvs vs/\h.DictOf (qN P w) a vs:=aS ok (.inl e)
theorem c5{ks:List qJ}(ok:IZ P w H h)(e:H a=↑(.tup (ks.map kV))):(tupleKind (qN P w)).is h ks a:=by
 obtain⟨_,c,r,o,h1,f,n,d⟩:=(show Hv P w H h a (.tup (ks.map kV))from ok a _ e)
 exact#[o,c.toArray,n,h1,f,d,by simpa using iY r]
theorem fv{kvs:List (List qJ×V)}(ok:IZ P w H h)(e:Rd H a (.dT kvs)):kvs.length<=ζ/\(a==sysModules)=false/\
  ∃xs,KT H kvs xs/\h.DictOfH (tupleKind (qN P w)) a xs:=by
 obtain⟨z,y,xs,r,o,es,ep,h1,g,d,f,i⟩:=(show Hv P w H h a (.dT kvs)from yt ok e)
 refine#[z,y,xs,r,o,es,ep,h1,g,d,f,λx c=>?_,i]
 have all:∀{l:List (List qJ×V)} {m:List (List qJ×Δ×Γ)},KT H l m->∀x∈m,(tupleKind (qN P w)).is h x.1 x.2.1:=by
  intro l m q
  induction q with
  |nil=>intro x c;exact nomatch c
  | @cons p q ps qs hq t ih=>
   intro x c;rcases Jm.mp c with e|c
   ·subst e
    exact c5 ok (by rw[<- hq.1];exact hq.2.1)
   ·exact ih x c
 exact all r x c
theorem DA{kvs:List (List qJ×V)}(ok:IZ P w H h)(e:H a=↑(.dT kvs)):kvs.length<=ζ/\(a==sysModules)=false/\
  ∃xs,KT H kvs xs/\h.DictOfH (tupleKind (qN P w)) a xs:=fv ok (.inl e)
end
def Iy(H:Hp)(a:Δ)(y:V)(r:Μ):Prop:=
 (∃kvs k,Rd H a (.dK kvs)/\y=kV k/\r=Zq kvs k)\/∃kvs k b,Rd H a (.dT kvs)/\y= .ref b/\H b=↑(.tup (k.map kV))/\r=Zq kvs k
def Lq(H:Hp)(a:Δ)(y v:V)(H':Hp):Prop:=
 (∃kvs k,H a=↑(.dK kvs)/\y=kV k/\kvs.length<ζ/\H'=GW H a (.dK (HL kvs k v)))\/
 ∃kvs k b,H a=↑(.dT kvs)/\y= .ref b/\H b=↑(.tup (k.map kV))/\kvs.length<ζ/\H'=GW H a (.dT (HL kvs k v))
theorem Iy.k{H:Hp}{a:Δ}{kvs:List (qJ×V)}{k:qJ}(e:H a=↑(.dK kvs)):Iy H a (kV k) (Zq kvs k):= .inl #[kvs,k,.inl e,Z,Z]
theorem Lq.k{H:Hp}{a:Δ}{kvs:List (qJ×V)}{k:qJ}{v:V}(e:H a=↑(.dK kvs))(hl:kvs.length<ζ):Lq H a (kV k) v (GW H a (.dK (HL kvs k v))):= .inl #[kvs,k,e,Z,hl,Z]
section
variable{X:Cx}{Oa:GR}{σ:St}{H:Hp}{s:Θ}{a:Δ}{y v:V}{u r:Γ}{o:Μ}{A:Around}{E:GP}
theorem GX.big(I:GX X Oa σ H s):sysModules<s.heap.objs.size:=by
 have h:η<s.heap.objs.size:=(I.mod.glob.keeps I.bk).lt
 exact Nat.lt_trans ⋯ h
theorem tV{Q:GP}(hu:A.units+1<cLine)(I:GX X Oa σ H s)(g:Iy H a y ↑v)(q:G8 y u)(h:∀f s',GX X Oa σ H s'->G8 v f->Q f s'):
  ε (model X.prog X.w) A (getItem (.ref a) u) Q E s:=by
 rcases g with⟨kvs,k,e,i,l⟩|⟨kvs,k,b,e,i,r,l⟩
 ·subst i
  obtain⟨z,w,vs,d,n⟩:=aS I.hok e;obtain⟨f,m,c⟩:=IM.some_of (v:=v) (o:=valueAt vs k) (by rw[l];exact d.val k)
  exact wpAny_getItem_of (bH q) n.mapOf m (h f _ (I.tok _) c)
 ·subst i
  cases(show u=Γ.ref b from q)
  obtain⟨z,w,xs,d,n⟩:=fv I.hok e;obtain⟨f,m,c⟩:=IM.some_of (v:=v) (o:=(atKey xs k).map (·.2)) (by rw[l];exact d.val k)
  obtain⟨p,t,j⟩:=JZ.mp m;refine wpAny_getItem_heap (Gp hu) (c5 I.hok r) n t ?_
  rw[j];exact h f _ (I.tok _) c
theorem Ez{Q:GP}(hu:A.units+1<cLine)(I:GX X Oa σ H s)(g:Iy H a y o)(j:G8 y u)(h:∀s',GX X Oa σ H s'->Q (.bool o.isSome) s'):
  ε (model X.prog X.w) A (compareOp .In u (.ref a)) Q E s:=by
 rcases g with⟨kvs,k,e,d,l⟩|⟨kvs,k,b,e,d,m,l⟩
 ·subst d
  obtain⟨z,f,vs,c,i⟩:=aS I.hok e;refine wpAny_in_of (bH j) f i.mapOf ?_
  rw[<- (c.val k).isSome_eq,<- l];exact h _ (I.tok _)
 ·subst d
  cases(show u=Γ.ref b from j)
  obtain⟨z,f,xs,c,i⟩:=fv I.hok e;refine wpAny_in_heap (Gp hu) (c5 I.hok m) f i ?_
  have q:=(c.val k).isSome_eq;rw[Option.isSome_map]at q;rw[<- q,<- l];exact h _ (I.tok _)
theorem iO{h':Ψ}{t':Nat}{ob:HO}(I:GX X Oa σ H s)(f:vH (H a))(hs:Ψ.SameBut a s.heap h')(he:∃q,h'.get? a=↑q)(c:Hv X.prog X.w (GW H a ob) h' a ob):
  GX X Oa σ (GW H a ob) {s with heap:=h',toks:=t'}:=
 I.write (x:=a) (e:=a) f (.inl Z) (λb q d z=>(hs.2 b d).trans z) he c
theorem mH{P:Ξ}{w:Ω}{H':Hp}{h':Ψ}{kvs:List (qJ×V)}{vs:List (qJ×Γ)}(z:kvs.length<=ζ)(hd:(a==sysModules)=false)(c:KV kvs vs)(d:h'.DictOf (qN P w) a vs):
  Hv P w H' h' a (.dK kvs):=#[z,hd,vs,c,d]
theorem vn{H':Hp}{Q:Unit->Θ->Prop}(hu:A.units+1<cLine)(I:GX X Oa σ H s)(g:Lq H a y v H')(x:G8 y u)(B:G8 v r)(h:∀s',GX X Oa σ H' s'->Q () s'):
  ε (model X.prog X.w) A (setItem (.ref a) u r) Q E s:=by
 rcases g with⟨kvs,k,e,p,l,t⟩|⟨kvs,k,b,e,p,D,l,t⟩
 ·subst p t
  obtain⟨z,m,vs,d,n⟩:=pU I.hok e;have o:vs.length<=ζ:=by rw[<- d.length];exact z
  have w:(HL kvs k v).length<=ζ:=by have:=ZM kvs k v;lia
  refine wpAny_setItem_pairs (hsz:=o) (bH x) n λh' f j=>h _ ?_
  have J:∃q,h'.get? a=↑q:=let⟨q,_,_,i,_⟩:=f;#[q,i]
  exact iO I (by rw[e];exact True.intro) j J (mH w m (d.put k B) f)
 ·subst p t
  cases(show u=Γ.ref b from x)
  obtain⟨z,m,xs,d,n⟩:=DA I.hok e;have o:xs.length<=ζ:=by rw[<- Paired.length d];exact z
  have w:(HL kvs k v).length<=ζ:=by have:=ZM kvs k v;lia
  refine wpAny_setItem_heap (hsz:=o) (Gp hu) (c5 I.hok D) n λh' f j=>h _ ?_
  obtain⟨q,es,ep,i,F,L,G,_,K⟩:=f;refine iO I (by rw[e];exact True.intro) j #[q,i] #[w,m,_,(d.put k D B).keeps λc ys C=>?_,q,es,ep,i,F,L,G,K]
  rw[qm (zG C e (λz=>nomatch z))]
  exact C
end
section
variable{X:Cx}{Oa:GR}{σ:St}{H:Hp}{s:Θ}{a:Δ}{kvs:List (qJ×V)}{A:Around}{E:GP}
theorem DK{Q:GP}(I:GX X Oa σ H s)(e:Rd H a (.dK kvs))(h:∀t s',GX X Oa σ H s'->Q (.int kvs.length t) s'):ε (model X.prog X.w) A (call (.builtin "len") [.ref a]) Q E s:=by
 obtain⟨z,d,vs,c,f⟩:=aS I.hok e;refine call_len_dict d f (by rw[<- c.length];rw[Ju]at z;lia) ?_
 rw[<- c.length];exact h _ _ (I.tok _)
end
def wO(i:Φ):Prop:=∀c a,subscripted i false c a=operate [c,a] (getItem c a)
theorem AN{prog:Ξ}{w:Ω}{A:Around}{E:GP}{s:Θ}{g:Env}{value a:Φ}{pos:Pos}{T id:String}{Q:GP}
  (hl:typeLookup (.type T) "__getitem__"=pure ↑(.builtin id))(hs:wO a)
  (h:ε (model prog w) A (eval value g) (λo f=>ε (model prog w) A (eval a g) (λi c=>c.TypeIs o T/\ε (model prog w) A (getItem o i) Q E c) E f) E s):
  ε (model prog w) A (eval (.Subscript value a pos) g) Q E s:=by
 refine Subscript_ (Jw h (λo f l=>Jw l (λi c d=>?_) λ_ _ x=>x) λ_ _ x=>x)
 obtain⟨n,d⟩:=d;unfold subscriptTail;refine Ja ?_
 rw[getitemInPython_of_ne n.not_modules];refine Ja (FK n hl ?_)
 have j:ε (model prog w) A (subscripted a false o i) (λr e=>ε (model prog w) A (letTemporaryGo value o r >>= λ_=>pure r) Q E e) E c:=by
  rw[hs o i];exact wpAny_operating (Jw d (λr e m=>Ja (wpAny_letTemporaryGo (Jd m))) λ_ _ x=>x)
 first
  |exact Jd (Ja j)
  |exact Ja (Jd (Ja j))
  |exact Ja j
theorem nH{X:Cx}{Oa:GR}{σ:St}{H:Hp}{s:Θ}{a:Δ}{y:V}{o:Μ}(I:GX X Oa σ H s)(g:Iy H a y o):s.TypeIs (.ref a) "dict":=by
 rcases g with⟨kvs,k,e,_,_⟩|⟨kvs,k,b,e,_,_,_⟩
 ·obtain⟨_,_,vs,_,c⟩:=aS I.hok e
  exact c.typeIs
 ·obtain⟨_,_,xs,_,c⟩:=fv I.hok e
  exact c.typeIs
def Aa(td ty:TE):TE:=λσ H Q=>td σ H λx H1=>ty σ H1 λy c=>∃a v,x= .ref a/\Iy c a y ↑v/\Q v c
def CG(ty td:TE):TE:=λσ H Q=>ty σ H λy H1=>td σ H1 λx c=>∃a o,x= .ref a/\Iy c a y o/\Q (.bl o.isSome) c
def yl(td ty tv:TE):TS:=λD σ H=>tv σ H λv H1=>td σ H1 λx e=>ty σ e λy d=>∃a c,x= .ref a/\Lq d a y v c/\D.nx σ c
section
variable{X:Cx}{o i value:Φ}{pos pos':Pos}{td ty tv:TE}
theorem AD(hu:X.A.units+1<cLine)(ho:PE X o td)(hi:PE X i ty)(hs:wO i):PE X (.Subscript o i pos) (Aa td ty):=by
 intro Oa s σ H Q I h;refine AN PySem.F.slot_dict_getitem.lookup hs (qz (ho Oa s σ H _ I h) λu p ⟨x,H1,q,e,l⟩=>qz (hi Oa p σ H1 _ q l) λz w n=>?_)
 obtain⟨y,j,d,r,a,v,ex,g,f⟩:=n;subst ex
 obtain rfl:u=Γ.ref a:=e
 exact#[nH d g,tV hu d g r λt A m c=>#[v,j,m,c,f]]
theorem BP(hu:X.A.units+1<cLine)(hi:PE X i ty)(ho:PE X o td):PC X .In i o (CG ty td):=by
 intro Oa s σ H Q I h;refine qz (hi Oa s σ H _ I h) λv p ⟨y,H1,q,r,j⟩=>qz (ho Oa p σ H1 _ q j) λu t m=>?_
 obtain⟨x,f,d,c,a,n,ex,g,e⟩:=m;subst ex
 obtain rfl:u=Γ.ref a:=c
 exact Ez hu d g r λw l=>#[.bl n.isSome,f,l,Z,e]
theorem Bw(hu:X.A.units+1<cLine)(ho:PE X o td)(hi:PE X i ty)(hv:PE X value tv)(hs:swapsWith value ↑(.Subscript o i pos') pos.line X.env=pure false):
  PS X (.Assign [.Subscript o i pos'] value pos) (yl td ty tv):=by
 intro Oa s σ H D I h;refine wpAny_Assign_Subscript (qz (hv Oa s σ H _ I h) λr f ⟨v,H1,n,p,l⟩=>qz (ho Oa f σ H1 _ n l) λu e ⟨x,z,c,w,d⟩=>qz (hi Oa e σ z _ c d) λF G m=>?_) hs
 obtain⟨y,C,A,j,a,q,ex,g,t⟩:=m;subst ex
 obtain rfl:u=Γ.ref a:=w
 exact vn hu A g j p λE B=>#[σ,q,B,t]
end
theorem lu{P:Ξ}{w:Ω}{H:Hp}(h:Ψ)(hb:sysModules<h.objs.size):Hv P w H (h.push {cls:= .type "dict",data:= .dict (List.toArray [])}) h.objs.size (.dK []):=
 #[Jy _,E9.mpr (Ne.symm (Jk hb)),[],.nil,Ψ.DictOf.new h]
def uR:TE:=λ_ H Q=>∀p,H p=none->Q (.ref p) (GW H p (.dK []))
section
variable{X:Cx}{pos:Pos}
theorem v9:PE X (.Dict [] [] pos) uR:=λOa s σ H Q I h=>
 wpAny_Dict_empty #[.ref s.heap.objs.size,_,I.laid (a:=s.heap.objs.size) (o:= .dK []) (t':=s.toks) (λ_ _ q=>Jl _ q) (Jf _) (lu s.heap I.big),Z,h _ (I.hok.fresh (Jf _))]
end
def lP:List (TE×TE)->St->Hp->(List (V×V)->Hp->Prop)->Prop
 | [],_,H,Q=>Q [] H
 |(tk,tv)::r,σ,H,Q=>tk σ H λx H1=>tv σ H1 λy c=>lP r σ c λps a=>Q ((x,y)::ps) a
abbrev VV:List (V×V)->List (Γ×Γ)->Prop:=Paired λp q=>G8 p.1 q.1/\G8 p.2 q.2
def vm(X:Cx)(pos:Pos)(keys:List ν)(a:Ι)(c:List (TE×TE)):Prop:=
 ∀(Oa:GR) (s:Θ) (σ:St) (H:Hp) (Q:List (V×V)->Hp->Prop),GX X Oa σ H s->lP c σ H Q->
  ε (model X.prog X.w) X.A (evalPairs (pairTrees keys a X.env pos)) (λvs s'=>∃ps H',GX X Oa σ H' s'/\VV ps vs/\Q ps H') X.xe s
theorem AY{X:Cx}{pos:Pos}:vm X pos [] [] []:=λOa s σ H Q I h=>pairTrees_nil_walk #[[],H,I,.nil,h]
theorem wk{X:Cx}{pos:Pos}{k v:Φ}{ks:List ν}{vs:Ι}{tk tv:TE}{a:List (TE×TE)}(hk:PE X k tk)(hv:PE X v tv)(hr:vm X pos ks vs a):
  vm X pos (↑k::ks) (v::vs) ((tk,tv)::a):=λOa s σ H Q I h=>
 pairTrees_cons_walk (qz (hk Oa s σ H _ I h) λu o ⟨x,H1,p,e,j⟩=>qz (hv Oa o σ H1 _ p j) λt n ⟨y,l,f,q,i⟩=>
  qz (hr Oa n σ l _ f i) λr w ⟨ps,g,m,c,d⟩=>#[(x,y)::ps,g,m,.cons #[e,q] c,d])
def Zi(kvs a:List (qJ×V)):List (qJ×V):=a.foldl (λc d=>HL c d.1 d.2) kvs
theorem KV.merge:∀{a:List (qJ×V)} {rs:List (qJ×Γ)} {kvs:List (qJ×V)} {vs:List (qJ×Γ)},KV a rs->KV kvs vs->KV (Zi kvs a) (merged vs rs):=by
 intro a rs kvs vs r;unfold KV at r
 induction r generalizing kvs vs with
 |nil=>intro q;exact q
 | @cons p q ps qs h t ih=>
  intro c;have e:KV (HL kvs p.1 p.2) (stored vs q.1 q.2):=by
   have:=c.put p.1 h.2
   rw[<- h.1];exact this
  exact ih e
theorem cC:∀(a kvs:List (qJ×V)),(Zi kvs a).length<=kvs.length+a.length
 | [],kvs=>by show kvs.length<=kvs.length+0;lia
 |p::r,kvs=>by
  have h1:=cC r (HL kvs p.1 p.2);have c:=ZM kvs p.1 p.2
  show(Zi (HL kvs p.1 p.2) r).length<=_
  rw[JN];lia
theorem gY{P:Ξ}{w:Ω}:∀{kvs:List (qJ×V)} {d:List (Γ×Γ)},VV (kvs.map λe=>(kV e.1,e.2)) d->∃rs,Carries (qN P w) d rs/\KV kvs rs
 | [],_,r=>by rw[FS]at r;cases r;exact#[[],True.intro,.nil]
 |p::kvs,_,r=>by
  rw[JS]at r;cases r with
  | @cons a b as bs h t=>
   obtain⟨rs,c,q⟩:=gY (P:=P) (w:=w) t
   obtain⟨g,f⟩:=b
   exact#[(p.1,f)::rs,#[bH h.1,Z,c],.cons #[Z,h.2] q]
def yY(a:List (TE×TE)):TE:=λσ H Q=>∀p,H p=none->lP a σ (GW H p (.dK [])) λps d=>d p=↑(.dK [])/\∃kvs:List (qJ×V),ps=kvs.map (λc=>(kV c.1,c.2))/\kvs.length<=15/\Q (.ref p) (GW d p (.dK (Zi [] kvs)))
theorem Bl{X:Cx}{pos:Pos}{keys:List ν}{d:Ι}{g:List (TE×TE)}(h:vm X pos keys d g)(f:keys.all (·.isSome)=true)(hl:keys.length=d.length)(C:keys≠[])
  (j:keys.length<=15):PE X (.Dict keys d pos) (yY g):=by
 intro Oa s σ H Q I q;have x:=I.hok.fresh (Jf s.heap.objs.size);have B:=I.laid (a:=s.heap.objs.size) (o:= .dK []) (h':=s.heap.push {cls:= .type "dict",data:= .dict (List.toArray [])}) (t':=s.toks) (λ_ _ q=>Jl _ q) (Jf _) (lu s.heap I.big)
 refine wpAny_Dict_walk (knd:=qN X.prog X.w) f hl C j (qz (h Oa _ σ _ _ B (q _ x)) λJ F v=>?_)
 obtain⟨ps,K,m,l,e,kvs,ep,G,n⟩:=v;subst ep;obtain⟨rs,c,D⟩:=gY (P:=X.prog) (w:=X.w) l
 obtain⟨z,r,E,A,t⟩:=pU m.hok e;cases A;refine#[rs,c,t,λh' i p=>#[.ref s.heap.objs.size,_,?_,Z,n]]
 have y:(Zi [] kvs).length<=ζ:=by
  have h1:=cC kvs [];rw[List.length_nil]at h1;rw[Ju];lia
 have u:∃q,h'.get? s.heap.objs.size=↑q:=let⟨q,_,_,hq,_⟩:=i;#[q,hq]
 exact iO m (by rw[e];exact True.intro) p u (mH y r (D.merge .nil) i)
structure M1(X:Cx)(o:Φ)(m:Str)(apos:Pos)(e:Φ)(cpos:Pos):Prop where
 base:attributeBase o m X.env (eval o X.env)=eval o X.env
 few:((backTo cpos (θ [e] X.env)).all (λx=> ! x.1)&&(backToKw cpos (keywordEach [] X.env)).all (λx=>x.1.isSome)
  &&decide (([e]:Ι).length+([]:ξ).length+(if([]:ξ).isEmpty then 0 else 1)<30))=true
 line:(apos.endLine==cpos.line)=true
 trees:backTo cpos (θ [e] X.env)=[(false,eval e X.env)]
def Ef(H:Hp)(a:Δ):Prop:=(∃kvs,Rd H a (.dK kvs))\/∃kvs,Rd H a (.dT kvs)
theorem Du{X:Cx}{Oa:GR}{σ:St}{H:Hp}{s:Θ}{a:Δ}(I:GX X Oa σ H s)(d:Ef H a):
  s.TypeIs (.ref a) "dict"/\(∀b,Γ.ref a= .ref b->∃c,s.heap.get? b=↑c/\c.dict=none)/\(a==sysModules)=false:=by
 rcases d with⟨kvs,e⟩|⟨kvs,e⟩
 ·obtain⟨_,h,vs,_,f⟩:=aS I.hok e
  refine#[f.typeIs,λb q=>?_,h]
  cases q;obtain⟨c,_,_,h1,g,_⟩:=f
  exact#[c,h1,g.2.1]
 ·obtain⟨_,h,xs,_,f⟩:=fv I.hok e
  refine#[f.typeIs,λb q=>?_,h]
  cases q;obtain⟨c,_,_,h1,g,_⟩:=f
  exact#[c,h1,g.2.1]
section
variable{X:Cx}{Oa:GR}{σ:St}{H:Hp}{s:Θ}{a:Δ}{y:V}{u:Γ}{o:Μ}{A:Around}{E:GP}
theorem CL{Q:GP}(hu:A.units+1<cLine)(I:GX X Oa σ H s)(g:Iy H a y o)(m:G8 y u)(h:∀j s',GX X Oa σ H s'->G8 (o.getD .non) j->Q j s'):
  ε (model X.prog X.w) A (call (.builtin "dict.get") [.ref a,u]) Q E s:=by
 rcases g with⟨kvs,k,e,f,l⟩|⟨kvs,k,b,e,f,n,l⟩
 ·subst f
  obtain⟨z,i,vs,c,d⟩:=aS I.hok e;refine call_meetsIn GC d.typeIs PySem.F.entry_dict_get (PySem.F.args_dict_get_2 _ _) (meets_dict_get (qN X.prog X.w) a (bH m) i) #[_,d.mapOf,h _ _ (I.tok _) ?_]
  rw[l]
  exact(c.val k).getD Z
 ·subst f
  cases(show u=Γ.ref b from m)
  obtain⟨z,i,xs,c,d⟩:=fv I.hok e;refine call_meetsIn GC d.typeIs PySem.F.entry_dict_get (PySem.F.args_dict_get_2 _ _) (meetsH_dict_get (tupleKind (qN X.prog X.w)) a b i) #[Gp hu,k,xs,c5 I.hok n,d,h _ _ (I.tok _) ?_]
  rw[l]
  exact(c.val k).getD Z
end
def uC(td ty:TE):TE:=λσ H Q=>td σ H λx H1=>∃a,x= .ref a/\Ef H1 a/\ty σ H1 λy c=>∃o,Iy c a y o/\Q (o.getD .non) c
section
variable{X:Cx}{o e:Φ}{apos cpos:Pos}{td ty:TE}
theorem wX(hu:X.A.units+1<cLine)(ho:PE X o td)(he:PE X e ty)(m:M1 X o "get" apos e cpos):PE X (.Call (.Attribute o "get" apos) [e] [] cpos) (uC td ty):=by
 intro Oa s σ H Q I h;refine wpAny_Call_method m.base m.few m.line PySem.F.plainAttrs_dict GC PySem.F.type_dict_get (qz (ho Oa s σ H _ I h) λu l q=>?_)
 obtain⟨x,H1,f,r,a,ex,d,p⟩:=q;subst ex
 obtain rfl:u=Γ.ref a:=r
 obtain⟨v,z,_⟩:=Du f d;refine#[v,z,?_]
 rw[m.trees];refine GA Z (Calls.evalArgs_plain (Calls.spliced_cons (qz (he Oa l σ H1 _ f p) λD A ⟨y,t,i,n,B,g,j⟩=>Calls.spliced_nil ?_)))
 exact CL hu i g n λC E w c=>#[_,t,w,c,j]
end
section
variable{X:Cx}
theorem ug:zi X (.builtin "len") (λxs H Q=>∃a kvs,xs=[V.ref a]/\H a=↑(.dK kvs)/\Q (.int kvs.length) H):=by
 intro Oa s σ H xs f Q I r h;obtain⟨a,kvs,rfl,d,q⟩:=h;obtain⟨u,rfl,e⟩:=zM r;cases e;exact DK I (.inl d) λt s' c=>#[.int kvs.length,H,c,#[t,Z],q]
end
end L2
namespace L3
open PySem PySem.Spec PyProof.Rows L2
open PySem.W (kdl_dict kdl_extend)
section
variable{prog:Ξ}{w:Ω}{A:Around}{E:GP}{s:Θ}
theorem mZ{d:Δ}{kvs:List (qJ×Γ)}{ep:Nat}{Q:Ζ->Θ->Prop}(l:A.handled=none)(hm:s.heap.DictAt (qN prog w) d kvs ep)(lo:(d==sysModules)=false)(hn:kvs.length<=ζ)
  (h:∀(vs:Ζ) (h':Ψ) (tk:Nat),s.heap.objs.size<h'.objs.size->(∀b o,s.heap.get? b=↑o->h'.get? b=↑o)->vs.length=kvs.length->(∀(j:Nat) (v:Γ),vs[j]? =↑v->∃k x,kvs[j]? =↑(k,x)/\(qN prog w).is k v=true)->Q vs {s with heap:=h',toks:=tk}):
  ε (model prog w) A (collect (.ref d)) Q E s:=by
 unfold collect;refine Ja (wpAny_runValue (Fo entry_proto_collect' ?_))
 show ε _ _ (do again (.builtin "list.__iadd__" #[[<- newList [],.ref d],[]])) _ _ s
 refine Ja (wpAny_newList (Jd #[Code.quiet_builtin _ nofun,Fo entry_list_iadd' ?_]))
 rw[Around.under_plainId PySem.F.plain_list_iadd _];have f:d<s.heap.objs.size:=hm.lt_size
 refine kdl_extend (s:={s with heap:=s.heap.push (seqObj "list" (List.toArray []) 0)}) (R:=λr s'=>match r with
   | .ok (.ret v)=>ε (model prog w) A (match v with
    | .ref a=>(do
     let o <- load a
     match o.data with
     | .seq xs _=>pure xs.toList
     |_=>unsupported "internal:collect")
    |_=>unsupported "internal:collect") Q E s'
   | .ok _=>False
   | .error e=>E e s') (kdl_dict (knd:=qN prog w) (ep:=ep) (kvs:=kvs) lo) l (hm.push _) s.heap.objs.size (EV f) (EV f) _ 0 (Jq _ Z) (λh' tk c c' hk g i=>?_) hn
 show ε (model prog w) A (do
   let o <- load s.heap.objs.size
   match o.data with
   | .seq xs _=>pure xs.toList
   |_=>unsupported "internal:collect") Q E {s with heap:=h',toks:=tk}
 refine Ja (wpAny_load g ?_)
 refine Jd (h c.toList h' tk (Jj g) (λb o e=>hk b o (Jk (Jj e)) (Jl _ e)) (by rw[Jp];exact i.1) λj v e=>i.2 j v (by rw[<- Array.getElem?_toList];exact e))
theorem im:∀{us:Ζ} {a:Α},us.length=a.length->(∀(j:Nat) (v:Γ),us[j]? =↑v->∃x t,a[j]? =↑x/\v= .str x t)->StrsAre us a
 | [],[],_,_=> .nil
 |u::us,x::a,hl,h=>by
  obtain⟨y,t,d,c⟩:=h 0 u Z;cases d;subst c;exact .cons _ _ (im (Nat.succ.inj hl) λj v e=>h (j+1) v e)
 | [],_::_,hl,_=>by cases hl
 |_::_,[],hl,_=>by cases hl
theorem nU{d:Δ}{kvs:List (qJ×Γ)}{ep:Nat}{p:Α}{Q:GP}(P:A.handled=none)(hm:s.heap.DictAt (qN prog w) d kvs ep)(lo:(d==sysModules)=false)(r:kvs.map (·.1)=p.map Sum.inr)(B:p.length<64)
  (h:∀(h':Ψ) (tk:Nat) (l:Δ) (its:Ζ) (n:Nat) (a:Α),s.heap.objs.size<=l->(∀b o,s.heap.get? b=↑o->h'.get? b=↑o)->h'.get? l=↑(seqObj "list" its.toArray n)->StrsAre its a->a.Perm p->sortedS a=true->Q (.ref l) {s with heap:=h',toks:=tk}):
  ε (model prog w) A (call (.builtin "sorted") [.ref d]) Q E s:=by
 have c:kvs.length=p.length:=by have:=JH List.length r;rwa [Je,Je]at this
 refine Calls.call_function_entry kind_sorted plain_sorted entry_sorted (args_sorted1 _) ?_
 unfold γ.«sorted»
 refine Ja (m:=checkCount "sorted" 1 1 _) (Jd ?_)
 refine Ja (mZ (ep:=ep) (kvs:=kvs) P hm lo (by rw[Ju];lia) λi h' tk z hk J U=>?_)
 have t:StrsAre i p:=im (J.trans c) λj v e=>by
  obtain⟨k,x,K,T⟩:=U j v e;have q:(kvs.map (·.1))[j]? =↑k:=by rw[Jn,K];rfl
  rw[r,Jn]at q;cases e4:p[j]? with
  |none=>rw[e4]at q;cases q
  |some y=>
   rw[e4]at q;have L:Sum.inr y=k:=JA q
   subst L;have G:Γ.isStrOf y v=true:=T
   cases v<;>simp [Γ.isStrOf]at G
   subst G
   exact#[_,_,Z,Z]
 refine Ja (wpAny_newList ?_)
 have f:(h'.push (seqObj "list" i.toArray 0)).get? h'.objs.size=↑(seqObj "list" i.toArray 0):=Jq _ Z
 show ε _ _ _ _ _ {s with heap:=h'.push (seqObj "list" i.toArray 0),toks:=tk}
 refine Ja (JI (J5 slot_list_sort #[_,f,Z] entry_list_sort (list_sort_treeK (κ:=PyProof.Rows.strKind) strKind_oneLt f t.keysOf (λH D rest e=>keyKind_strs (by rw[<- e];exact t)) (by rw[J,c];exact B) λg R S=>#[_,Z,?_]) (args_list_sort _)))
 obtain⟨a,O,N,M⟩:=sorted_out_str t R S;obtain⟨C,u⟩:∃C,(sortedHeap (h'.push (seqObj "list" i.toArray 0)) h'.objs.size i ((arrOf g).map (·.2))).get? h'.objs.size=↑(seqObj "list" ((arrOf g).map (·.2)) C):=sortedHeap_at f
 refine Jd #[_,Z,h _ tk h'.objs.size ((arrOf g).map (·.2)).toList C a (F5 z) (λb o e=>?_) (by rw[u]) O N M]
 have I:=hk b o e;have F:b<h'.objs.size:=Jj I
 rw[sortedHeap_old (Jk F) (by rw[JX];exact EY F)]
 exact Jl _ I
end
theorem c8:∀{us:Ζ} {a:Α},StrsAre us a->GZ (a.map V.str) us
 | [],[],.nil=> .nil
 |_,_::_,.cons _ _ t=> .cons #[_,Z] (c8 t)
theorem j7{X:Cx}(hc:X.calm=true):zi X (.builtin "sorted") (λxs H Q=>∃(d:Δ) (kvs:List (qJ×V)) (f:Α),xs=[.ref d]/\H d=↑(.dK kvs)/\kvs.map (·.1)=f.map Sum.inr/\f.length<64/\
  ∀l c,H l=none->c.Perm f->sortedS c=true->Q (.ref l) (GW H l (.lst (c.map V.str)))):=by
 intro Oa s σ H xs K Q I r h;obtain⟨d,kvs,f,rfl,D,i,j,q⟩:=h;obtain⟨u,rfl,B⟩:=zM r;cases B;obtain⟨z,lo,vs,m,o,es,ep,A,C,x,E,F,w⟩:=pU I.hok D;have e:vs.map (·.1)=f.map Sum.inr:=by rw[<- i,m.keys]
 refine nU (I.ok.hd hc) (#[o,es,A,C,x,E,F,w]:s.heap.DictAt (qN X.prog X.w) d vs ep) lo e j λh' tk l g n c t hk G y p v=>?_
 refine#[.ref l,_,I.laid (a:=l) (o:= .lst (c.map V.str)) (t':=tk) hk t ?_,Z,q l c (I.hok.fresh t) p v]
 have J:=c8 y;refine#[?_,g,n,J,G]
 have:=p.length_eq
 rw[Je,Ju];lia
end L3
namespace L3
open PySem PySem.Spec PyProof.Rows L2
open Sem (wp)
variable{X:Cx}
section
variable{o i value:Φ}{pos pos':Pos}{td ty tv:TE}
theorem zJ{k:Nat}(hr:HB k X.A)(ho:QE X o td)(hi:QE X i ty)(hs:wO i:=by exactλ_ _=>rfl):QE X (.Subscript o i pos) (Aa td ty):=#[AD (by have:=hr.un;lia) ho.h hi.h hs]
theorem Qw{k:Nat}(hr:HB k X.A)(ho:QE X o td)(hi:QE X i ty)(hv:QE X value tv)(hs:swapsWith value ↑(.Subscript o i pos') pos.line X.env=pure false:=by rfl):
  QS X (.Assign [.Subscript o i pos'] value pos) (yl td ty tv):=#[Bw (by have:=hr.un;lia) ho.h hi.h hv.h hs]
structure N1(X:Cx)(pos:Pos)(keys:List ν)(values:Ι)(trs:List (TE×TE)):Prop where
 h:vm X pos keys values trs
theorem As:N1 X pos [] [] []:=#[AY]
theorem aA{k v:Φ}{ks:List ν}{vs:Ι}{tk tv:TE}{a:List (TE×TE)}(hk:QE X k tk)(hv:QE X v tv)(hr:N1 X pos ks vs a):N1 X pos (↑k::ks) (v::vs) ((tk,tv)::a):=#[wk hk.h hv.h hr.h]
theorem An{keys:List ν}{a:Ι}{d:List (TE×TE)}(h:N1 X pos keys a d)(c:keys.all (·.isSome)=true:=by rfl)(hl:keys.length=a.length:=by rfl)(f:keys≠[]:=by(intro z;cases z))
  (e:keys.length<=15:=by decide):QE X (.Dict keys a pos) (yY d):=#[Bl h.h c hl f e]
end
theorem oC{k:qJ}{v:V}:∀{kvs:List (qJ×V)} (i:Nat),kvs[i]? =↑(k,v)->(kvs.map (·.1)).Nodup->Zq kvs k=↑v
 | [],i,h,_=>by cases h
 |p::r,0,h,_=>by
  cases JA h
  exact ad Z
 |p::r,i+1,h,nd=>by
  have h':r[i]? =↑(k,v):=h
  have a:p.1∉r.map (·.1)/\(r.map (·.1)).Nodup:=Fg.mp nd
  have d:k∈r.map (·.1):=Jt.mpr #[(k,v),JP h',Z]
  have c:p.1≠k:=λz=>a.1 (z▸d)
  rw[ae c];exact oC i h' a.2
theorem Ah{k:qJ}{v:V}{kvs:List (qJ×V)}(h:k∉kvs.map (·.1)):HL kvs k v=kvs++[(k,v)]:=by
 unfold HL;rw[Jb];intro z;obtain⟨p,a,e⟩:=Gq.mp z;exact h (Jt.mpr #[p,a,Jx e])
end L3
namespace L3
open PySem PySem.Spec PyProof.Rows L2
section
variable{X:Cx}{o e:Φ}{apos cpos pos:Pos}{td ty:TE}
theorem lW{k:Nat}(hr:HB k X.A)(ho:QE X o td)(ha:QE X e ty)(m:M1 X o "get" apos e cpos:=by exact#[Z,Z,Z,Z]):QE X (.Call (.Attribute o "get" apos) [e] [] cpos) (uC td ty):=#[wX (by have:=hr.un;lia) ho.h ha.h m]
theorem fT:QE X (.Dict [] [] pos) uR:=#[v9]
theorem vy{k:Nat}(hr:HB k X.A)(hi:QE X e ty)(ho:QE X o td)(h1:behindInMarks CmpOp.In o=false:=by rfl):QT X (.Compare e [.In] [o] pos) (gJ (CG ty td)):=#[C5 (BP (by have:=hr.un;lia) hi.h ho.h) (h1:=h1)]
end
structure Kb where
 age:Int
 last:Int
 wt:Option (Int×Int)
abbrev _root_.Ρ:=Option Kb
abbrev Kw:=List (Str×Kb)
def Wt(H:Hp)(v:V):Option (Int×Int)->Prop
 |none=>v= .non
 |some (x,c)=>∃w,v= .ref w/\H w=↑(.tup [.int x,.int c])
def HS(H:Hp)(a:Δ)(e:Kb):Prop:=∃v,H a=↑(.tup [.int e.age,.int e.last,v])/\Wt H v e.wt
def cU(kn:Kw)(f:Str->Δ):List (qJ×V):=kn.map λe=>(Sum.inr e.1,V.ref (f e.1))
def II(H:Hp)(d:Δ)(kn:Kw):Prop:=∃f:Kw×(Str->Δ),H d=↑(.dK (cU f.1 f.2))/\(∀e∈kn,HS H (f.2 e.1) e.2)/\f.1.Perm kn/\(kn.map (·.1)).Nodup
def zc(kn:Kw)(nm:Str)(e:Kb):Kw:=if nm∈kn.map (·.1)then kn.map (λp=>if p.1=nm then(nm,e)else p)else kn++[(nm,e)]
theorem Mv.tup{S:Η}{H H':Hp}{a:Δ}{xs:Ε}(m:Mv S H H')(n:NT S H)(h:H a=↑(.tup xs)):H' a=↑(.tup xs):=m _ _ (λz=>by
 obtain⟨o,e,no⟩:=n a z;rw[e]at h;cases h;exact no) h
theorem Wt.mv{S:Η}{H H':Hp}{v:V}{o:Option (Int×Int)}(m:Mv S H H')(n:NT S H)(h:Wt H v o):Wt H' v o:=by
 cases o with
 |none=>exact h
 |some p=>obtain⟨w,e,r⟩:=h;exact#[w,e,m.tup n r]
theorem HS.mv{S:Η}{H H':Hp}{a:Δ}{e:Kb}(m:Mv S H H')(n:NT S H)(h:HS H a e):HS H' a e:=by
 obtain⟨v,r,w⟩:=h
 exact#[v,m.tup n r,w.mv m n]
theorem HS.same{H H':Hp}{a:Δ}{e:Kb}(s:GS H H')(h:HS H a e):HS H' a e:=h.mv (S:=[]) s.mv (λc h=>nomatch h)
theorem II.mv{S:Η}{H H':Hp}{d:Δ}{kn:Kw}(m:Mv S H H')(n:NT S H)(hd:d∉S)(h:II H d kn):II H' d kn:=by
 obtain⟨f,r,w,p⟩:=h
 exact#[f,m _ _ hd r,λe a=>(w e a).mv m n,p]
theorem II.same{H H':Hp}{d:Δ}{kn:Kw}(s:GS H H')(h:II H d kn):II H' d kn:=h.mv (S:=[]) s.mv (λc h=>nomatch h) (λh=>nomatch h)
theorem oB(f:Str->Δ)(nm:Str):∀a:Kw,Zq (cU a f) (Sum.inr nm:qJ)=(a.lookup nm).map λ_=>V.ref (f nm)
 | []=>rfl
 |(m,e)::r=>by
  show Zq ((Sum.inr m,V.ref (f m))::cU r f) (Sum.inr nm)=_
  by_cases q:m=nm
  ·subst q
   rw[ad Z,List.lookup_cons_self];rfl
  ·rw[ae (by intro z;injection z with z;exact q z),J7,FL (λz=>q z.symm)]
   exact oB f nm r
theorem QF{nm:Str}{e:Kb}:∀{kn:Kw},kn.lookup nm=↑e->(nm,e)∈kn
 |(m,x)::r,h=>by
  rw[J7]at h
  by_cases q:nm=m
  ·subst q
   rw[Fu]at h;cases h;exact JB ..
  ·rw[FL q]at h
   exact JM _ (QF h)
theorem Hg{nm:Str}:∀{kn:Kw},(kn.lookup nm).isSome=true↔nm∈kn.map (·.1)
 | []=>by simp
 |(m,x)::r=>by
  rw[J7,JS,Jm]
  by_cases q:nm=m
  ·subst q;simp
  ·rw[FL q]
   simp only[q,false_or];exact Hg
theorem aN(kn:Kw)(nm:Str)(e:Kb):(zc kn nm e).map (·.1)=if nm∈kn.map (·.1)then kn.map (·.1)else kn.map (·.1)++[nm]:=by
 unfold zc;split
 ·rw[ET]
  refine FJ λp a=>?_
  simp only[Function.comp]
  by_cases y:p.1=nm
  ·rw[Jc y,y]
  ·rw[Jb y]
 ·rw[JK];rfl
theorem mG(kn:Kw)(nm:Str)(e:Kb):(zc kn nm e).length<=kn.length+1:=by
 have:=JH List.length (aN kn nm e)
 rw[Je]at this;rw[this];split
 ·rw[Je];lia
 ·rw[Jv,Je];exact Jf _
theorem fo{kn:Kw}(c:(kn.map (·.1)).Nodup)(nm:Str)(e:Kb):((zc kn nm e).map (·.1)).Nodup:=by
 rw[aN];split
 ·exact c
 ·rename_i z
  exact Fv.mpr #[c,by simp,λa f b d=>by rw[Jh.mp d];exactλw=>z (w▸f)]
theorem QV{nm:Str}{e:Kb}:∀{kn:Kw},(kn.map (·.1)).Nodup->kn.lookup nm=↑e->∀p∈kn,p.1=nm->p=(nm,e)
 | [],_,h,_,a,_=>by cases a
 |(m,x)::r,nd,h,p,a,hn=>by
  have c:m∉r.map (·.1)/\(r.map (·.1)).Nodup:=Fg.mp nd
  rw[J7]at h
  by_cases q:nm=m
  ·subst q
   rw[Fu]at h;cases h;rcases Jm.mp a with rfl|a
   ·rfl
   ·exact absurd (Jt.mpr #[p,a,hn]) c.1
  ·rw[FL q]at h
   rcases Jm.mp a with rfl|a
   ·exact absurd hn.symm q
   ·exact QV c.2 h p a hn
theorem nj{a kn:Kw}(pm:a.Perm kn)(d:(kn.map (·.1)).Nodup)(nm:Str):a.lookup nm=kn.lookup nm:=by
 cases e:a.lookup nm with
 |none=>
  cases e':kn.lookup nm with
  |none=>rfl
  |some x=>
   have:(a.lookup nm).isSome=true:=Hg.mpr ((pm.map (·.1)).mem_iff.mpr (Hg.mp (by rw[e'];rfl)))
   rw[e]at this;cases this
 |some x=>
  obtain⟨y,c⟩:∃y,kn.lookup nm=↑y:=Gg.mp (Hg.mpr (Jt.mpr #[_,pm.mem_iff.mp (QF e),Z]))
  rw[c]
  have:=QV d c _ (pm.mem_iff.mp (QF e)) Z
  cases this;rfl
theorem II.get{H:Hp}{d:Δ}{kn:Kw}(h:II H d kn)(nm:Str):(kn.lookup nm=none/\Iy H d (.str nm) none)\/∃e a,kn.lookup nm=↑e/\Iy H d (.str nm) ↑(.ref a)/\HS H a e:=by
 obtain⟨⟨l,f⟩,i,c,pm,j⟩:=h;have g:=Iy.k (k:=Sum.inr nm) i
 rw[oB,nj pm j]at g;cases q:kn.lookup nm with
 |none=>rw[q]at g;exact .inl #[Z,g]
 |some e=>rw[q]at g;exact .inr #[e,f nm,Z,g,c _ (QF q)]
theorem jf{a kn:Kw}(pm:a.Perm kn)(nm:Str)(e:Kb):(zc a nm e).Perm (zc kn nm e):=by
 unfold zc
 by_cases z:nm∈kn.map (·.1)
 ·rw[Jc ((pm.map (·.1)).mem_iff.mpr z),Jc z];exact pm.map _
 ·rw[Jb (λw=>z ((pm.map (·.1)).mem_iff.mp w)),Jb z];exact pm.append_right _
theorem II.put{H:Hp}{d a:Δ}{kn:Kw}{e:Kb}(h:II H d kn)(nm:Str)(hl:kn.length<=100)(hb:HS H a e):∃H',Lq H d (.str nm) (.ref a) H'/\Mv [d] H H'/\II H' d (zc kn nm e):=by
 obtain⟨⟨i,f⟩,s,r,pm,x⟩:=h;have l:(cU i f).length=kn.length:=(Je _).trans pm.length_eq
 have hk:∀e∈i,HS H (f e.1) e.2:=λe u=>r e (pm.mem_iff.mp u)
 refine#[_,Lq.k (k:=Sum.inr nm) s (by rw[l];exact sN _),Mv.upd1,(zc i nm e,λn=>if n=nm then a else f n),?_,?_,jf pm nm e,fo x nm e]
 ·rw[qc]
  congr 2
  unfold HL zc cU;have t:((i.map λe=>((Sum.inr e.1:qJ),V.ref (f e.1))).any λv=>decide (v.1=(Sum.inr nm:qJ)))=true↔nm∈i.map (·.1):=by
   rw[Gq];constructor
   ·rintro⟨p,c,z⟩
    obtain⟨q,g,rfl⟩:=Jt.mp c;have m:(Sum.inr q.1:qJ)=Sum.inr nm:=Jx z
    injection m with m
    exact Jt.mpr #[q,g,m]
   ·intro z
    obtain⟨q,g,e⟩:=Jt.mp z
    exact#[_,Jt.mpr #[q,g,Z],Ji (by rw[e])]
  by_cases z:nm∈i.map (·.1)
  ·rw[Jc (t.mpr z),Jc z,ET,ET]
   refine FJ λp c=>?_
   simp only[Function.comp]
   by_cases y:p.1=nm
   ·rw[Jc (by rw[y]),Jc y]
    simp [y]
   ·rw[Jb (by intro w;injection w with w;exact y w),Jb y]
    simp [y]
  ·rw[Jb (λw=>z (t.mp w)),Jb z,JK]
   congr 1
   ·refine FJ λp c=>?_
    have y:¬p.1=nm:=λw=>z (Jt.mpr #[p,c,w])
    simp [y]
   ·simp
 ·have nt:NT [d] H:=NT.one s trivial
  intro p c;have c:=(jf pm nm e).mem_iff.mpr c;have j:=hb.mv (Mv.upd1 (o:= .dK (HL (cU i f) (Sum.inr nm) (.ref a)))) nt
  unfold zc at c;split at c
  ·obtain⟨q,g,rfl⟩:=Jt.mp c
   by_cases y:q.1=nm
   ·rw[Jc y];simp only[Fc];exact j
   ·rw[Jb y]
    show HS _ (if q.1=nm then a else f q.1) q.2
    rw[Jb y]
    exact(hk q g).mv Mv.upd1 nt
  ·rename_i z
   rcases JL.mp c with g|g
   ·have y:¬p.1=nm:=λw=>z (Jt.mpr #[p,g,w])
    show HS _ (if p.1=nm then a else f p.1) p.2
    rw[Jb y]
    exact(hk p g).mv Mv.upd1 nt
   ·rw[Jh.mp g];simp only[Fc];exact j
def HI(K:ι)(H:Hp)(hk:Δ)(kss:List Β):Prop:=∃c:Η,H hk=↑(.lst (c.map V.ref))/\c.length=kss.length/\∀(i:Nat) (a:Δ) (d:Β),c[i]? =↑a->kss[i]? =↑d->G9 K H a (d.map V.int)
theorem HI.mv{K:ι}{S:Η}{H H':Hp}{hk:Δ}{kss:List Β}(m:Mv S H H')(n:NT S H)(hd:hk∉S)(h:HI K H hk kss):HI K H' hk kss:=by
 obtain⟨g,e,l,r⟩:=h
 exact#[g,m _ _ hd e,l,λi a f d c=>m.sqt n (r i a f d c)]
structure Dr where
 t:Β
 kss:List Β
 near:Int
 far:Int
 most:Int
 least:Int
 kn:Kw
def dF(D:Dr)(ta hk bd lg:Δ):List (Str×V):=
 [("table",.ref ta),("house_keys",.ref hk),("near",.int D.near),("far",.int D.far),("most",.int D.most),("least_age",.int D.least),("buttons",.ref bd),("log",.ref lg)]
def dN:Α:=["table","house_keys","near","far","most","least_age","buttons","log"]
theorem DC:dN.Nodup:=by decide +kernel
theorem yp(D:Dr)(ta hk bd lg:Δ):((dF D ta hk bd lg).map (·.1)).Nodup:=DC
structure Iz(K:ι)(C:Δ):Prop where
 cl:LV K C
 n_table:HH K C "table"
 n_house_keys:HH K C "house_keys"
 n_near:HH K C "near"
 n_far:HH K C "far"
 n_most:HH K C "most"
 n_least_age:HH K C "least_age"
 n_buttons:HH K C "buttons"
 n_log:HH K C "log"
structure GV(K:ι)(C:Δ)(H:Hp)(p ta hk bd lg:Δ)(n:Nat)(D:Dr):Prop where
 ob:∃dx,H p=↑(.ins C dx (dF D ta hk bd lg))
 tb:G9 K H ta (D.t.map V.int)
 ks:HI K H hk D.kss
 kb:II H bd D.kn
 lo:∃rs:Η,H lg=↑(.lst (rs.map V.ref))/\rs.length<=n
 ne:lg≠hk
section
variable{K:ι}{C:Δ}{H H':Hp}{p ta hk bd lg dx:Δ}{n:Nat}{D:Dr}
theorem GV.has(b:GV K C H p ta hk bd lg n D)(U:Iz K C)(i:Nat){f:Str}{v:V}(h:(dF D ta hk bd lg)[i]? =↑(f,v))(a:HH K C f):bo K H p f v:=by
 obtain⟨dx,e⟩:=b.ob
 exact#[C,dx,_,e,U.cl,a,jt i h (yp ..)]
theorem GV.h_table(b:GV K C H p ta hk bd lg n D)(U:Iz K C):bo K H p "table" (.ref ta):=b.has U 0 Z U.n_table
theorem GV.h_house_keys(b:GV K C H p ta hk bd lg n D)(U:Iz K C):bo K H p "house_keys" (.ref hk):=b.has U 1 Z U.n_house_keys
theorem GV.h_near(b:GV K C H p ta hk bd lg n D)(U:Iz K C):bo K H p "near" (.int D.near):=b.has U 2 Z U.n_near
theorem GV.h_far(b:GV K C H p ta hk bd lg n D)(U:Iz K C):bo K H p "far" (.int D.far):=b.has U 3 Z U.n_far
theorem GV.h_most(b:GV K C H p ta hk bd lg n D)(U:Iz K C):bo K H p "most" (.int D.most):=b.has U 4 Z U.n_most
theorem GV.h_least_age(b:GV K C H p ta hk bd lg n D)(U:Iz K C):bo K H p "least_age" (.int D.least):=b.has U 5 Z U.n_least_age
theorem GV.h_buttons(b:GV K C H p ta hk bd lg n D)(U:Iz K C):bo K H p "buttons" (.ref bd):=b.has U 6 Z U.n_buttons
theorem GV.h_log(b:GV K C H p ta hk bd lg n D)(U:Iz K C):bo K H p "log" (.ref lg):=b.has U 7 Z U.n_log
theorem GV.no(b:GV K C H p ta hk bd lg n D){m:Str}(h:m∉dN:=by decide +kernel):Ee C H p m:=by
 obtain⟨dx,e⟩:=b.ob
 exact#[dx,_,e,jE h]
theorem GV.mv{S:Η}(b:GV K C H p ta hk bd lg n D)(m:Mv S H H')(nt:NT S H)(hp:p∉S)(a:hk∉S)(hb:bd∉S)(hl:lg∉S):GV K C H' p ta hk bd lg n D:=by
 obtain⟨dx,e⟩:=b.ob;obtain⟨rs,c,l⟩:=b.lo
 exact#[#[dx,m _ _ hp e],m.sqt nt b.tb,b.ks.mv m nt a,b.kb.mv m nt hb,#[rs,m _ _ hl c,l],b.ne]
theorem GV.same(b:GV K C H p ta hk bd lg n D)(s:GS H H'):GV K C H' p ta hk bd lg n D:=b.mv (S:=[]) s.mv (λc h=>nomatch h) (λh=>nomatch h) (λh=>nomatch h) (λh=>nomatch h) (λh=>nomatch h)
end
inductive NS (x:V) (y:V) (H:Hp) (Q:VK):Prop
 |mk (o:Option (Int×Int)) (b:Δ) (a c:Int) (h1:Wt H x o) (h2:y= .ref b) (h3:Rd H b (.tup [.int a,.int c])) (h4:Q (.bl (decide (o=↑(a,c)))) H)
def EC:R2:=λx y H Q=>NS x y H Q
theorem uj{X:Cx}{k:Nat}(hr:HB k X.A):zt X (compareOp .Eq) EC:=by
 intro Oa s σ H x y v u Q I E K h;obtain⟨o,b,a,c,F,rfl,N,q⟩:=h;cases K;obtain⟨d,B,p2,_⟩:=I.tuple (.inl N)
 have D:X.A.units<cLine:=by have:=hr.un;lia
 cases o with
 |none=>
  have l:x= .non:=F
  subst l;cases E;rw[Jo (by intro z;cases z)]at q
  exact SeqAt.RcAt.none_tuple p2 D _ _ _ _ #[.bl false,H,I,Z,q]
 |some pr=>
  obtain⟨m,n⟩:=pr;obtain⟨w,rfl,l⟩:=F;cases E;obtain⟨i,C,M,_⟩:=I.tuple (.inl (.inl l))
  have r:=C.length;have p:=B.length;have G:=SeqAt.RcAt.tuples (A:=X.A) (e:=λj=>[m,n].getD j 0==[a,c].getD j 0) (show s.heap.IsTuple w i.toArray from M) (show s.heap.IsTuple b d.toArray from p2) D (λj h1 J=>by
   have g:j<i.length:=by simpa using h1
   have f:j<d.length:=by simpa using J
   obtain⟨t,e⟩:=eY (ns:=[m,n]) C j g (by rw[<- r]at g;exact g)
   obtain⟨R,P⟩:=eY (ns:=[a,c]) B j f (by rw[<- p]at f;exact f)
   simp only[List.getElem_toArray,e,P,Jz,Jg (show j<[m,n].length by rw[<- r]at g;exact g),Jg (show j<[a,c].length by rw[<- p]at f;exact f),Fn]
   exact SeqAt.EqAt.int_int _ _ _ _)
  have L:i.toArray.size=2:=by rw[Jr,<- r];rfl
  have O:d.toArray.size=2:=by rw[Jr,<- p];rfl
  refine G _ _ _ _ #[.bl _,H,I,?_,q]
  show Γ.bool _=Γ.bool _
  congr 1
  rw[L,O,show min 2 2=([m,n]:Β).length from Z,yi [m,n] [a,c] Z]
  simp
def pP(c l n f:Int):Str:=if c<=l then "old" else if c<=l+n then "near" else if c<=l+f then "far" else "beyond"
inductive Mu (vs:Ε) (H:Hp) (Q:VK):Prop
 |mk (c l n f:Int) (h1:vs=[.int c,.int l,.int n,.int f]) (h2:Q (.str (pP c l n f)) H)
def pG:Sp:=λvs H Q _=>Mu vs H Q
def zr(a d:Int)(e:Kb)(age c:Int):Str×Kb:=
 if c<=e.last then("old",e)else if c<=e.last+a then("near",#[age,c,none])
 else if c<=e.last+d then(if e.wt=↑(age,c-1)then("near",#[age,c,none])else("far",#[e.age,e.last,↑(age,c)]))else("beyond",e)
inductive Mw (vs:Ε) (H:Hp) (Q:VK):Prop
 |mk (a:Δ) (e:Kb) (age c near far:Int) (h1:vs=[.ref a,.int age,.int c,.int near,.int far]) (h2:HS H a e) (h3:∀q a' H',GS H H'->H' q=↑(.tup [.str (zr near far e age c).1,.ref a'])->HS H' a' (zr near far e age c).2->Q (.ref q) H')
def iy:Sp:=λvs H Q _=>Mw vs H Q
def ZP(D:Dr)(age:Int):Bool:=decide (D.least<=age)&&decide (age<D.kss.length)
def qR(D:Dr)(e:Kb)(age:Int):Bool:=ZP D age&&decide (e.age<=age)
def zk(D:Dr)(nm:Str)(age:Int)(r:Option (Int×Int)):Ε×Kw:=
 match D.kn.lookup nm with
 |none=>([.str "held",.str "unknown"],D.kn)
 |some e=>if qR D e age=true then(match r with
   |none=>([.str "held",.str "false"],D.kn)
   |some (c,d)=>if(zr D.near D.far e age c).1="near" then([.str "open",.str nm,.int d],zc D.kn nm (zr D.near D.far e age c).2)else([.str "held",.str (zr D.near D.far e age c).1],zc D.kn nm (zr D.near D.far e age c).2))
  else([.str "held",.str "age"],D.kn)
structure Ik(D:Dr):Prop where
 tp:D.t.Perm HW
 l0:0<=D.least
 kl:D.kss.length<=8
 nl:D.kn.length<=60
 nd:(D.kn.map (·.1)).Nodup
section
variable(K:ι)(C:Δ)
inductive Mz (vs:Ε) (H:Hp) (Q:VK):Prop
 |mk (p ta hk bd lg:Δ) (n:Nat) (D:Dr) (h1:vs=[.ref p]) (h2:GV K C H p ta hk bd lg n D) (h3:Q (.bl (decide (D.most<=(D.kn.length:Int)))) H)
def pA:Sp:=λvs H Q _=>Mz K C vs H Q
inductive L5 (vs:Ε) (H:Hp) (Q:VK):Prop
 |mk (p ta hk bd lg:Δ) (n:Nat) (D:Dr) (age:Int) (h1:vs=[.ref p,.int age]) (h2:GV K C H p ta hk bd lg n D) (h3:Q (.bl (ZP D age)) H)
def f6:Sp:=λvs H Q _=>L5 K C vs H Q
inductive MA (vs:Ε) (H:Hp) (Q:VK):Prop
 |mk (p ta hk bd lg a:Δ) (n:Nat) (D:Dr) (e:Kb) (age:Int) (h1:vs=[.ref p,.ref a,.int age]) (h2:GV K C H p ta hk bd lg n D) (h3:HS H a e) (h4:Q (.bl (qR D e age)) H)
def bC:Sp:=λvs H Q _=>MA K C vs H Q
inductive Nw (vs:Ε) (H:Hp) (Q:VK):Prop
 |mk (p ta hk bd lg:Δ) (n:Nat) (D:Dr) (nm:Str) (h1:vs=[.ref p,.str nm]) (h2:GV K C H p ta hk bd lg n D) (h3:(D.kn.lookup nm=none->Q .non H)) (h4:(∀e a,D.kn.lookup nm=↑e->HS H a e->Q (.ref a) H))
def hV:Sp:=λvs H Q _=>Nw K C vs H Q
inductive MB (vs:Ε) (H:Hp) (Q:VK):Prop
 |mk (p ta hk bd lg a:Δ) (n:Nat) (D:Dr) (e:Kb) (age c:Int) (h1:vs=[.ref p,.ref a,.int age,.int c]) (h2:GV K C H p ta hk bd lg n D) (h3:HS H a e) (h4:qR D e age=true) (h5:∀q a' H',GS H H'->H' q=↑(.tup [.str (zr D.near D.far e age c).1,.ref a'])->HS H' a' (zr D.near D.far e age c).2->Q (.ref q) H')
def oJ:Sp:=λvs H Q _=>MB K C vs H Q
def HU(H:Hp)(c:Δ)(nm:Str)(age:Int)(ds:Β):Prop:=∃a,H c=↑(.tup [.str nm,.int age,.ref a])/\H a=↑(.tup (ds.map V.int))
def Qs(D:Dr)(age:Int):Β:=D.kss.getD age.toNat []
inductive LI (vs:Ε) (H:Hp) (Q:VK):Prop
 |mk (p ta hk bd lg pr:Δ) (n:Nat) (D:Dr) (nm:Str) (age:Int) (ds:Β) (h1:vs=[.ref p,.ref pr]) (h2:GV K C H p ta hk bd lg n D) (h3:Ik D) (h4:HU H pr nm age ds) (h5:Qr nm) (h6:ds.length=5) (h7:zy ds) (h8:∀q H',Mv [bd] H H'->H' q=↑(.tup (zk D nm age (Zn D.t (Qs D age) nm ds)).1)->GV K C H' p ta hk bd lg n {D with kn:=(zk D nm age (Zn D.t (Qs D age) nm ds)).2}->Q (.ref q) H')
def i8:Sp:=λvs H Q _=>LI K C vs H Q
end
theorem HU.mv{S:Η}{H H':Hp}{a:Δ}{nm:Str}{age:Int}{ds:Β}(m:Mv S H H')(n:NT S H)(h:HU H a nm age ds):HU H' a nm age ds:=by
 obtain⟨e,d,c⟩:=h
 exact#[e,m.tup n d,m.tup n c]
theorem HU.same{H H':Hp}{a:Δ}{nm:Str}{age:Int}{ds:Β}(s:GS H H')(h:HU H a nm age ds):HU H' a nm age ds:=by
 obtain⟨e,d,c⟩:=h
 exact#[e,s _ _ d,s _ _ c]
theorem i7{X:Cx}:zt X (compareOp .LtE) (λx y H Q=>∃i j,x= .str i/\y= .str j/\Q (.bl (! decide (j.cps.toList<i.cps.toList))) H):=by
 intro Oa s σ H x y v u Q I a c h;obtain⟨i,j,rfl,rfl,q⟩:=h;obtain⟨t,rfl⟩:=a;obtain⟨d,rfl⟩:=c;exact PySem.P.le_str (qP I q Z)
theorem xx{js:Κ}{te:TE}{σ:L2.St}{H:Hp}{Q:VK}{x:Str}(hn:x.cps.size<=ζ)(Pv:Nat->Ε->Hp->Prop)(d:Pv 0 [] H)
  (hs:∀i ys H c,x.cps[i]? =↑c->ys.length=i->Pv i ys H->te (↑(.str #[(List.toArray [c])])::Qt js σ) H λv a=>Pv (i+1) (ys++[v]) a)
  (hd:∀ys H,ys.length=x.cps.size->Pv x.cps.size ys H->∀p,H p=none->Q (.ref p) (GW H p (.lst ys))):ZI (Af x) js te σ H Q:=
 bS hn (λi v=>∃c,x.cps[i]? =↑c/\v= .str #[(List.toArray [c])]) Pv d (λi ys H hi p=>hi) (λys H p=>Jf _) (λi ys H v H' _ p y=>y) (λi ys H v hi g p e=>by
  obtain⟨c,f,rfl⟩:=e;exact hs i ys H c f g p) hd
theorem vR{ds:Β}(h:zy ds):(ds.map V.int).all cn=true:=by
 rw[FC];intro x a;obtain⟨i,hi,rfl⟩:=Jt.mp a
 have:=h i hi
 show(decide (0<=i)&&decide (i<16))=true
 rw[Ji this.1,Ji this.2];rfl
theorem zP{c:Bool}{a b:Prop}(h:c=true)(x:a):if c=true then a else b:=by rw[Jc h];exact x
theorem Qe{c:Bool}{a b:Prop}(h:c=false)(x:b):if c=true then a else b:=by rw[Jb (by rw[h];intro z;cases z)];exact x
theorem zp{K:ι}{C p dx:Δ}{H:Hp}{fs:List (Str×V)}{f:Str}{v:V}(c:LV K C)(e:H p=↑(.ins C dx fs))(n:HH K C f)(i:Nat)(a:fs.map (·.1)=dN.take i:=by rfl)(hn:f∉dN.take i:=by decide +kernel):
  ku K H p f v (GW H p (.ins C dx (fs++[(f,v)]))):=#[C,dx,fs,e,c,n,by
  have h1:fs.length=(dN.take i).length:=by rw[<- a,Je]
  have d:(dN.take i).length<=8:=by rw[EX];exact Nat.min_le_right _ _
  lia,by rw[mw (by rw[a];exact hn)]]
theorem HI.upd{K:ι}{C p dx b:Δ}{H:Hp}{fs:List (Str×V)}{kss:List Β}{o:HO}(e:H p=↑(.ins C dx fs))(h:HI K H b kss):HI K (GW H p o) b kss:=by
 obtain⟨c,a,l,r⟩:=id h;exact h.mv Mv.upd1 (NT.one e trivial) (qV (zG a e (by intro z;cases z)))
theorem HI.same{K:ι}{H H':Hp}{b:Δ}{kss:List Β}(s:GS H H')(h:HI K H b kss):HI K H' b kss:=h.mv (S:=[]) s.mv (λc h=>nomatch h) (λh=>nomatch h)
theorem Mv.nfree{S:Η}{H H':Hp}{x:Δ}(m:Mv S H H')(hn:x∉S)(h:H' x=none):H x=none:=by
 cases e:H x with
 |none=>rfl
 |some o=>rw[m x o hn e]at h;cases h
theorem HI.at{K:ι}{H:Hp}{hk:Δ}{D:Dr}{age:Int}(h:HI K H hk D.kss)(f:0<=age)(h1:age<D.kss.length):∃(xs:Ε) (d:Δ),H hk=↑(.lst xs)/\zY xs age=↑(.ref d)/\G9 K H d ((Qs D age).map V.int):=by
 obtain⟨c,e,l,r⟩:=h;obtain⟨i,rfl⟩:∃i:Nat,age=(i:Int):=#[age.toNat,by lia]
 have hi:i<D.kss.length:=by lia
 have a:i<c.length:=by lia
 refine#[_,c[i],e,Qo (by rw[Jn,Jg a];rfl),?_]
 have:=r i c[i] D.kss[i] (Jg a) (Jg hi)
 unfold Qs;rw[Fe,Jz,Jg hi];exact this
theorem aK{D:Dr}{e:Kb}{age:Int}(h:qR D e age=true)(a:0<=D.least):0<=age/\age<D.kss.length:=by
 unfold qR ZP at h;rw[JC,JC]at h;have h1:=Jx h.1.1;have c:=Jx h.1.2;lia
theorem GV.putK{K:ι}{C:Δ}{H H':Hp}{p ta hk bd lg:Δ}{n:Nat}{D:Dr}{a:Kw}(b:GV K C H p ta hk bd lg n D)(m:Mv [bd] H H')(h:II H' bd a):GV K C H' p ta hk bd lg n {D with kn:=a}:=by
 obtain⟨dx,e⟩:=b.ob;obtain⟨f,c,_⟩:=b.kb;obtain⟨rs,d,l⟩:=b.lo;obtain⟨i,g,_⟩:=id b.ks;have nt:NT [bd] H:=NT.one c trivial
 exact#[#[dx,m _ _ (qV (zG e c (by intro z;cases z))) e],m.sqt nt b.tb,b.ks.mv m nt (qV (zG g c (by intro z;cases z))),h,#[rs,m _ _ (qV (zG d c (by intro z;cases z))) d,l],b.ne]
theorem GV.putL{K:ι}{C:Δ}{H:Hp}{p ta hk bd lg r:Δ}{n:Nat}{D:Dr}{rs:Η}(b:GV K C H p ta hk bd lg n D)(a:H lg=↑(.lst (rs.map V.ref)))(hl:rs.length<=n):GV K C (GW H lg (.lst (rs.map V.ref++[.ref r]))) p ta hk bd lg (n+1) D:=by
 obtain⟨dx,e⟩:=b.ob;obtain⟨f,c,_⟩:=id b.kb;have nt:NT [lg] H:=NT.one a trivial
 have m:Mv [lg] H (GW H lg (.lst (rs.map V.ref++[.ref r]))):=Mv.upd1
 exact#[#[dx,m _ _ (qV (zG e a (by intro z;cases z))) e],m.sqt nt b.tb,b.ks.mv m nt (qV b.ne.symm),b.kb.mv m nt (qV (zG c a (by intro z;cases z))),#[rs++[r],by rw[qc,JK];rfl,by rw[Jv];exact Nat.succ_le_succ hl],b.ne]
theorem Lo.pair{H:Hp}{a b:Δ}{z:Str}{i:Int}(h1:H a=↑(.tup [.str z,.int i]))(h2:H b=↑(.tup [.str z,.int i])):Lo H 1 (.ref a) (.ref b):=
 .tup (n:=0) (.inl h1) (.inl h2) Z λj x y ex c=>by
  match j,ex,c with
  |0,ex,c=>cases ex;cases c;exact .str _ _
  |1,ex,c=>cases ex;cases c;exact .int _ _
  |j+2,ex,c=>cases ex
abbrev Ae(a b:Str):Prop:=a.cps.toList<=b.cps.toList
theorem Dl{a b:Str}(h:ltCps b.cps.toList a.cps.toList=false):Ae a b:=by
 rw[ltCps_eq]at h;exact List.not_lt.mp (of_decide_eq_false h)
theorem jc:∀{l:Α} {p:Str},risingS p l=true->(p::l).Pairwise Ae
 | [],p,_=>by simp
 |x::r,p,h=>by
  have h':(! ltCps x.cps.toList p.cps.toList&&risingS x r)=true:=h
  rw[JC,Bool.not_eq_true']at h';have d:=jc h'.2;have a:=Dl h'.1;refine List.pairwise_cons.mpr #[λy c=>?_,d]
  rcases Jm.mp c with rfl|c
  ·exact a
  ·exact List.le_trans a ((List.pairwise_cons.mp d).1 y c)
theorem gT{l:Α}(h:sortedS l=true):l.Pairwise Ae:=by
 cases l with
 |nil=>exact .nil
 |cons x r=>exact jc h
theorem fI{l a b:Α}(g:a.Perm l)(f:sortedS a=true)(d:b.Perm l)(h:sortedS b=true):a=b:=by
 refine List.Perm.eq_of_pairwise (le:=Ae) (λx y _ _ h1 c=>?_) (gT f) (gT h) (g.trans d.symm)
 have e:x.cps.toList=y.cps.toList:=List.le_antisymm h1 c
 cases x with
 |mk u=>cases y with
  |mk v=>
   have:u=v:=Array.toList_inj.mp e
   rw[this]
def Lv(H:Hp)(q:Δ)(d:Α)(kn:Kw):Prop:=∃c:Η,H q=↑(.tup (c.map V.ref))/\c.length=d.length/\∀(i:Nat) (a:Δ) (nm:Str) (e:Kb),c[i]? =↑a->d[i]? =↑nm->kn.lookup nm=↑e->∃v,H a=↑(.tup [.str nm,.int e.age,.int e.last,v])/\Wt H v e.wt
inductive L6 (K:ι) (C:Δ) (vs:Ε) (H:Hp) (Q:VK):Prop
 |mk (p ta hk bd lg:Δ) (n:Nat) (D:Dr) (h1:vs=[.ref p]) (h2:GV K C H p ta hk bd lg n D) (h3:Ik D) (h4:∀q ss H',GS H H'->ss.Perm (D.kn.map (·.1))->sortedS ss=true->Lv H' q ss D.kn->Q (.ref q) H')
def gb(K:ι)(C:Δ):Sp:=λvs H Q _=>L6 K C vs H Q
theorem Av{X:Cx}{K:ι}{e:Φ}{f:Str}{pos:Pos}{ta:TE}(a:X.K=K)(he:QE X e ta)(hb:attributeBase e f X.env (eval e X.env)=eval e X.env:=by rfl):QE X (.Attribute e f pos) (Ag K ta f):=by
 subst a;exact za he hb
theorem AL(kn:Kw)(f:Str->Δ):(cU kn f).map (·.1)=(kn.map (·.1)).map Sum.inr:=by
 unfold cU;rw[ET,ET];rfl
theorem Q3{kn:Kw}{nm:Str}(h:nm∈kn.map (·.1)):∃e,kn.lookup nm=↑e:=Gg.mp (Hg.mpr h)
theorem kF:∀(a kvs:List (qJ×V)),((kvs++a).map (·.1)).Nodup->Zi kvs a=kvs++a
 | [],kvs,_=>by simp [Zi]
 |p::r,kvs,nd=>by
  have c:p.1∉kvs.map (·.1):=λz=>by
   rw[JK,JS]at nd
   exact(Fv.mp nd).2.2 _ z _ (JB ..) Z
  show Zi (HL kvs p.1 p.2) r=_
  rw[Ah c,kF r (kvs++[(p.1,p.2)]) (by rw[Fh];exact nd),Fh]
  rfl
theorem p6(ms:Α)(k:Nat):(ms.map V.str).eraseIdx k=(ms.eraseIdx k).map V.str:=by
 rw[List.eraseIdx_eq_take_drop_succ,List.eraseIdx_eq_take_drop_succ,JK,List.map_take,List.map_drop]
theorem t8{ms zs:Α}{k:Nat}(h:k<ms.length):(zs++[ms[k]]++ms.eraseIdx k).Perm (zs++ms):=by
 rw[Fh];refine List.Perm.append_left zs ?_
 rw[List.eraseIdx_eq_take_drop_succ];have e:ms=ms.take k++ms[k]::ms.drop (k+1):=by rw[<- List.drop_eq_getElem_cons h,List.take_append_drop]
 refine List.Perm.trans (List.perm_middle (a:=ms[k]) (l₁:=ms.take k) (l₂:=ms.drop (k+1))).symm ?_
 rw[<- e]
theorem cr{kn:Kw}{nm:Str}{x:Kb}{e:Str×Kb}(h:e∈zc kn nm x):e∈kn\/e=(nm,x):=by
 unfold zc at h;split at h
 ·obtain⟨p,a,rfl⟩:=Jt.mp h
  by_cases y:p.1=nm
  ·rw[Jc y];exact .inr Z
  ·rw[Jb y];exact .inl a
 ·rcases JL.mp h with h|h
  ·exact .inl h
  ·exact .inr (Jh.mp h)
theorem lS{kn:Kw}{nm:Str}{e:Kb}:∀{l:Kw},(∀p∈l,p.1=nm->p=(nm,e))->l.map (λp=>if p.1=nm then(nm,e)else p)=l
 | [],_=>rfl
 |p::r,h=>by
  rw[JS,lS (kn:=kn) λq a=>h q (JM _ a)]
  by_cases y:p.1=nm
  ·rw[Jc y,h p (JB ..) y]
  ·rw[Jb y]
theorem ji{kn:Kw}{nm:Str}{e:Kb}(a:(kn.map (·.1)).Nodup)(h:kn.lookup nm=↑e):zc kn nm e=kn:=by
 unfold zc;rw[Jc (Hg.mp (by rw[h];rfl))]
 exact lS (kn:=kn) (QV a h)
theorem gy{kn:Kw}{nm:Str}{e x:Kb}(h:kn.lookup nm=↑e):(zc kn nm x).map (·.1)=kn.map (·.1):=by
 rw[aN,Jc (Hg.mp (by rw[h];rfl))]
theorem AV{X:Cx}:∀u e,([]:List (Str×Δ)).lookup u=↑e->X.env.cells.lookup u=↑e:=λu e h=>by cases h
theorem fW{X:Cx}{y:Str}{c:Δ}{l:List (Str×Δ)}(h:X.env.cells.lookup y=↑c)(r:∀u e,l.lookup u=↑e->X.env.cells.lookup u=↑e):∀u e,((y,c)::l).lookup u=↑e->X.env.cells.lookup u=↑e:=λu e a=>by
 by_cases d:u=y
 ·subst d
  simp at a
  rw[<- a];exact h
 ·rw[J7,show(u==y)=false from by simpa using d]at a
  exact r u e a
end L3
namespace L2
open PySem PySem.Spec PyProof.Rows
section
variable{X:Cx}{Oa:GR}{σ:St}{H:Hp}{s:Θ}{a:Δ}{kvs:List (qJ×V)}{A:Around}{E:GP}
theorem xt{Q:GP}(I:GX X Oa σ H s)(e:Rd H a (.dK kvs))(h:∀p s',H p=none->GX X Oa σ (GW H p (.dK kvs)) s'->Q (.ref p) s'):ε (model X.prog X.w) A (call (.type "dict") [.ref a]) Q E s:=by
 obtain⟨z,i,vs,c,j⟩:=aS I.hok e;refine kt_call_dict i j (by rw[<- c.length];exact z) λh' d g=>?_
 refine h _ _ (I.hok.fresh (Jf _)) (I.laid (a:=s.heap.objs.size) (o:= .dK kvs) (t':=s.toks) (λb q f=>?_) (Jf _) (mH z (E9.mpr (Ne.symm (Jk I.big))) c d))
 exact(g.2 b (Jk (Jj f))).trans (Jl _ f)
end
end L2
namespace L3
open PySem PySem.Spec PyProof.Rows L2
theorem gC{X:Cx}:zi X (.type "dict") (λxs H Q=>∃(d:Δ) (kvs:List (qJ×V)),xs=[.ref d]/\H d=↑(.dK kvs)/\∀p,H p=none->Q (.ref p) (GW H p (.dK kvs))):=by
 intro Oa s σ H xs g Q I r h;obtain⟨d,kvs,rfl,f,q⟩:=h;obtain⟨u,rfl,e⟩:=zM r;cases e;exact xt I (.inl f) λp s' c a=>#[.ref p,_,a,Z,q p c]
theorem GV.setF{K:ι}{C:Δ}{H:Hp}{p dx:Δ}{fs:List (Str×V)}{f:Str}{u v:V}(i:Nat)(c:LV K C)(a:HH K C f)(e:H p=↑(.ins C dx fs))(hf:fs[i]? =↑(f,u))(d:(fs.map (·.1)).Nodup)(hl:fs.length<1000):
  ku K H p f v (GW H p (.ins C dx (fs.set i (f,v)))):=#[C,dx,fs,e,c,a,hl,by rw[n5 i hf d]]
section
variable{K:ι}{C:Δ}{H:Hp}{p ta hk bd lg dx:Δ}{D:Dr}
theorem uz(U:Iz K C)(e:H p=↑(.ins C dx (dF D ta hk bd lg)))(z:Int):ku K H p "least_age" (.int z) (GW H p (.ins C dx (dF {D with least:=z} ta hk bd lg))):=GV.setF 5 U.cl U.n_least_age e Z (yp ..) (by show 8<1000;decide)
end
theorem mS{kn:Kw}{nm:Str}{x:Kb}(f:(kn.map (·.1)).Nodup):(zc kn nm x).lookup nm=↑x:=by
 have c:(nm,x)∈zc kn nm x:=by
  unfold zc;split
  ·rename_i h
   obtain⟨p,d,e⟩:=Jt.mp h;exact Jt.mpr #[p,d,Jc e]
  ·exact JV _ (Jh.mpr Z)
 obtain⟨y,a⟩:=Q3 (Jt.mpr #[_,c,Z])
 have:=QV (fo f nm x) a _ c Z
 cases this;exact a
theorem Lv.same{H H':Hp}{q:Δ}{d:Α}{kn:Kw}(h:Lv H q d kn)(s:GS H H'):Lv H' q d kn:=by
 obtain⟨m,e,l,r⟩:=h
 exact#[m,s _ _ e,l,λi a nm x g f j=>let⟨v,a1,a2⟩:=r i a nm x g f j;#[v,s _ _ a1,a2.mv (S:=[]) s.mv (λc h=>nomatch h)]]
theorem GV.putLeast{K:ι}{C:Δ}{H:Hp}{p ta hk bd lg:Δ}{n:Nat}{D:Dr}(b:GV K C H p ta hk bd lg n D)(U:Iz K C)(z:Int):∃dx,ku K H p "least_age" (.int z) (GW H p (.ins C dx (dF {D with least:=z} ta hk bd lg)))/\Mv [p] H (GW H p (.ins C dx (dF {D with least:=z} ta hk bd lg)))/\GV K C (GW H p (.ins C dx (dF {D with least:=z} ta hk bd lg))) p ta hk bd lg n {D with least:=z}:=by
 obtain⟨dx,e⟩:=b.ob;obtain⟨f,d,_⟩:=id b.kb;obtain⟨rs,a,l⟩:=b.lo;obtain⟨g,c,_⟩:=id b.ks;have nt:NT [p] H:=NT.one e trivial
 have m:Mv [p] H (GW H p (.ins C dx (dF {D with least:=z} ta hk bd lg))):=Mv.upd1
 exact#[dx,uz U e z,m,#[dx,qc],m.sqt nt b.tb,b.ks.mv m nt (qV (zG c e (by intro z;cases z))),b.kb.mv m nt (qV (zG d e (by intro z;cases z))),#[rs,m _ _ (qV (zG a e (by intro z;cases z))) a,l],b.ne]
def zh(D:Dr)(e:Kb)(age c:Int):Str×Kb:=if qR D e age=true then zr D.near D.far e age c else("age",e)
inductive L7 (K:ι) (C:Δ) (vs:Ε) (H:Hp) (Q:VK):Prop
 |mk (p ta hk bd lg a:Δ) (n:Nat) (D:Dr) (e:Kb) (age c:Int) (h1:vs=[.ref p,.ref a,.int age,.int c]) (h2:GV K C H p ta hk bd lg n D) (h3:HS H a e) (h4:∀q a' H',GS H H'->H' q=↑(.tup [.str (zh D e age c).1,.ref a'])->HS H' a' (zh D e age c).2->Q (.ref q) H')
def fO(K:ι)(C:Δ):Sp:=λvs H Q _=>L7 K C vs H Q
section
variable(K:ι)(C:Δ)
inductive MC (vs:Ε) (H:Hp) (Q:VK):Prop
 |mk (p ta hk bd lg:Δ) (n:Nat) (D:Dr) (h1:vs=[.ref p]) (h2:GV K C H p ta hk bd lg n D) (h3:∀t (as:Η) H',GS H H'->G9 K H' t (as.map V.ref)->as.length=D.kss.length->(∀(i:Nat) (a:Δ) (ks:Β),as[i]? =↑a->D.kss[i]? =↑ks->G9 K H' a (ks.map V.int))->Q (.ref t) H')
def ox:Sp:=λvs H Q _=>MC K C vs H Q
inductive LJ (vs:Ε) (H:Hp) (Q:VK):Prop
 |mk (p ta hk bd lg:Δ) (n:Nat) (D:Dr) (h1:vs=[.ref p]) (h2:GV K C H p ta hk bd lg n D) (h3:Q (.int D.least) H)
def jl:Sp:=λvs H Q _=>LJ K C vs H Q
inductive LK (vs:Ε) (H:Hp) (Q:VK):Prop
 |mk (p ta hk bd lg:Δ) (n:Nat) (D:Dr) (h1:vs=[.ref p]) (h2:GV K C H p ta hk bd lg n D) (h3:∀t H',GS H H'->H' t=↑(.tup [.int D.near,.int D.far,.int D.most])->Q (.ref t) H')
def dv:Sp:=λvs H Q _=>LK K C vs H Q
end
structure Ac(K:ι)(mg:GQ)(x:Str)(st:δ):Prop where
 ex:∃(f:Δ) (fd:FuncData),LX K x x st f fd/\mg x=↑(.ref f)
structure Lr(K:ι)(C:Δ)(m Ob:Str)(st:δ):Prop where
 ex:∃(f:Δ) (fd:FuncData),LX K m Ob st f fd/\M5 K C m f
section
variable{K:ι}{mg:GQ}{h:Ψ}{x m Ob:Str}{st:δ}{C f:Δ}{oc:Γ}{od an:μ}{osl:Array Ν}{kV doc pm cdv ct:Γ}{ps:Α}
theorem DT(X:K.In h)(G:h.Ns η mg)(a:W.nsIn K η x=↑(↑(.ref f)))(l:K.lookup f=some #[oc,od,.func (W.fnOf x x (Qp st) (zF st) (qi st) .none kV doc pm an cdv ct),osl])(c:W.codeIn K cdv x=true)(k:W.keepIn K (.ref f)=true):Ac K mg x st:=#[f,_,mz l c k,Fw X G a]
theorem Dx(a:W.findIn K (.ref C) m=↑(↑(.ref f)))(i:W.isFn K (.ref f)=true)(l:K.lookup f=some #[oc,od,.func (W.fnOf m Ob (Qp st) (zF st) (qi st) .none kV doc pm an cdv ct),osl])(c:W.codeIn K cdv Ob=true)(k:W.keepIn K (.ref f)=true):Lr K C m Ob st:=#[f,_,mz l c k,a,i,k]
theorem EK{p:Ζ->Prop}(h:p []):∀a:Ζ,a.length=0->p a:=by
 intro a c;rw[List.eq_nil_of_length_eq_zero c];exact h
theorem om{n:Nat}{p:Ζ->Prop}(h:∀a c,c.length=n->p (a::c)):∀c:Ζ,c.length=n+1->p c:=by
 intro c d;cases c with
 |nil=>cases d
 |cons a r=>exact h a r (Nat.succ.inj d)
theorem Qv{p:Ζ->Prop}(h:∀d,p [d]):∀c:Ζ,c.length=1->p c:=om λa=>EK (p:=λr=>p (a::r)) (h a)
theorem Zx{p:Ζ->Prop}(h:∀e d,p [e,d]):∀c:Ζ,c.length=2->p c:=om λa=>Qv (p:=λr=>p (a::r)) (h a)
theorem cE{p:Ζ->Prop}(h:∀f e d,p [f,e,d]):∀c:Ζ,c.length=3->p c:=om λa=>Zx (p:=λr=>p (a::r)) (h a)
theorem jd{p:Ζ->Prop}(h:∀g e f d,p [g,e,f,d]):∀c:Ζ,c.length=4->p c:=om λa=>cE (p:=λr=>p (a::r)) (h a)
theorem Eh{p:Ζ->Prop}(h:∀i f g e d,p [i,f,g,e,d]):∀c:Ζ,c.length=5->p c:=om λa=>jd (p:=λr=>p (a::r)) (h a)
theorem D9{p:Ζ->Prop}(h:∀j g i f d e,p [j,g,i,f,d,e]):∀c:Ζ,c.length=6->p c:=om λa=>Eh (p:=λr=>p (a::r)) (h a)
theorem Ac.at(a:Ac K mg x st)(b:∀(kV doc pm:Γ) (an:μ) (cdv ct:Γ) (us:Ζ),us.length=ps.length->bindArgs (W.fnOf x x (Qp st) (zF st) (qi st) .none kV doc pm an cdv ct) #[us,[]]=pure (ps.zip us):=by intro _ _ _ _ _ _;first|exact Qv λ_=>rfl|exact Zx λ_ _=>rfl|exact cE λ_ _ _=>rfl|exact jd λ_ _ _ _=>rfl|exact Eh λ_ _ _ _ _=>rfl|exact D9 λ_ _ _ _ _ _=>rfl):At K mg x st ps:=by
 obtain⟨_,_,F,m⟩:=a.ex;exact D7 F m (F.binds b)
theorem Lr.at(a:Lr K C m Ob st)(b:∀(kV doc pm:Γ) (an:μ) (cdv ct:Γ) (us:Ζ),us.length=ps.length->bindArgs (W.fnOf m Ob (Qp st) (zF st) (qi st) .none kV doc pm an cdv ct) #[us,[]]=pure (ps.zip us):=by intro _ _ _ _ _ _;first|exact Qv λ_=>rfl|exact Zx λ_ _=>rfl|exact cE λ_ _ _=>rfl|exact jd λ_ _ _ _=>rfl|exact Eh λ_ _ _ _ _=>rfl|exact D9 λ_ _ _ _ _ _=>rfl):Lm K C m Ob st ps:=by
 obtain⟨_,_,F,m⟩:=a.ex
 exact#[_,_,F,m,F.binds b]
end
structure Ps where
 nm:Str
 age:Int
 ds:Β
def IW(H:Hp)(p:Δ)(P:Ps):Prop:=HU H p P.nm P.age P.ds
structure Lx(P:Ps):Prop where
 nm:Qr P.nm
 l:P.ds.length=5
 dg:zy P.ds
def cZ(D:Dr)(P:Ps):Option (Int×Int):=if ZP D P.age=true then Zn D.t (Qs D P.age) P.nm P.ds else none
def uE(D:Dr)(P R:Ps):Str×Int×Kw:=match cZ D P with
 |none=>("press",0,D.kn)
 |some (c,_)=>match cZ D R with
  |none=>("press",1,D.kn)
  |some (c',_)=>if R.nm=P.nm/\R.age=P.age/\c'=c+1 then(match D.kn.lookup P.nm with
    |some _=>("known",0,D.kn)
    |none=>if(D.kn.length:Int)<D.most then("",0,zc D.kn P.nm #[P.age,c',none])else("full",0,D.kn))
   else("press",1,D.kn)
def kK(c:Nat):Bool:=decide (97<=c)&&decide (c<=122)
def Cu(z:Str):Bool:=z.cps.toList.all kK
def yo(z:Str):Bool:=decide (1<=z.length)&&decide (z.length<=8)&&Cu z
theorem Nd{z:Str}:yo z=true↔Qr z:=by
 unfold yo Cu Qr;rw[JC,JC,F9,F9,FC];have f:z.length=z.cps.toList.length:=Z
 rw[f];constructor
 ·rintro⟨⟨h1,e⟩,a⟩
  refine#[λc d=>?_,h1,e]
  have:=a c d
  unfold kK at this;rw[JC,F9,F9]at this;exact this
 ·rintro⟨a,h1,e⟩
  refine#[#[h1,e],λc d=>?_]
  unfold kK;rw[Ji (a c d).1,Ji (a c d).2];rfl
theorem gV{a b:Nat}:([a]:Κ)<[b]↔a<b:=by
 rw[List.cons_lt_cons_iff];constructor
 ·rintro(h|⟨_,h⟩)
  ·exact h
  ·exact absurd h (List.not_lt_nil _)
 ·exact .inl
theorem sT(c:Nat):(! decide ((#[(List.toArray [c])]:Str).cps.toList<("a":Str).cps.toList))=decide (97<=c)/\(! decide (("z":Str).cps.toList<(#[(List.toArray [c])]:Str).cps.toList))=decide (c<=122):=by
 have d:("a":Str).cps.toList=[97]:=by decide +kernel
 have a:("z":Str).cps.toList=[122]:=by decide +kernel
 rw[d,a]
 show(! decide ([c]<[97]))=_/\(! decide ([122]<[c]))=_
 constructor
 ·by_cases h:97<=c
  ·rw[Ji h,Jo (by rw[gV];lia)];rfl
  ·rw[Jo h,Ji (by rw[gV];lia)];rfl
 ·by_cases h:c<=122
  ·rw[Ji h,Jo (by rw[gV];lia)];rfl
  ·rw[Jo h,Ji (by rw[gV];lia)];rfl
theorem k7{H:Hp}{x:V}{t:String}(h:kd H x=↑t):M9 H x t:=by
 cases x with
 |non=>cases h;exact .non
 |bl b=>cases h;exact .bl b
 |int i=>cases h;exact .int i
 |str x=>cases h;exact .str x
 |byt b=>cases h
 |flt b=>cases h
 |ty b=>cases h
 |ref a=>
  rcases hU h with⟨xs,e,rfl⟩|⟨xs,e,rfl⟩
  ·exact .lst e
  ·exact .tup (.inl e)
def Ei(H:Hp)(x:V)(b:Bool):Prop:=(∃z,x= .str z/\z.cps.all (· <128)=true/\z.length<=100/\b=yo z)\/(∃t,kd H x=↑t/\aC t "str"=false/\b=false)
def NU(H:Hp)(x:V)(b:Bool):Prop:=(∃(p:Δ) (ds:Ε),x= .ref p/\H p=↑(.tup ds)/\ds.length<=100/\(∀v∈ds,∃t,kd H v=↑t)/\b=(decide (ds.length=5)&&ds.all cn))\/(∃t,kd H x=↑t/\aC t "tuple"=false/\b=false)
inductive Nx (H:Hp) (x:V):Bool->Prop where
 |kd {t:String} (h:kd H x=↑t) (n:aC t "tuple"=false):Nx H x false
 |len {a:Δ} {xs:Ε} (e:x= .ref a) (h:H a=↑(.tup xs)) (l:xs.length<=100) (n:xs.length≠3):Nx H x false
 |tup {a:Δ} {n y c:V} {bn bc:Bool} {ty:String} (e:x= .ref a) (h:H a=↑(.tup [n,y,c])) (hn:Ei H n bn) (hy:L3.kd H y=↑ty) (hc:NU H c bc):Nx H x (bn&&fN y&&bc)
theorem NU.same{H H':Hp}{x:V}{b:Bool}(s:GS H H')(h:NU H x b):NU H' x b:=h.elim (λ⟨p,ds,e,h1,a,c,d⟩=> .inl ⟨p,ds,e,s _ _ h1,a,(λv f=>let⟨t,ht⟩:=c v f;⟨t,fh s ht⟩),d⟩) (λ⟨t,h1,a⟩=> .inr ⟨t,fh s h1,a⟩)
def Tg(H:Hp)(x:V)(o:Option Ps):Prop:=match o with
 |none=>Nx H x false
 |some P=>∃a,x= .ref a/\IW H a P/\Lx P
theorem Tg.b{H:Hp}{x:V}{o:Option Ps}(h:Tg H x o):Nx H x o.isSome:=by
 cases o with
 |none=>exact h
 |some P=>
  obtain⟨f,e,⟨d,h1,c⟩,ok⟩:=h;have t:=Nx.tup (bn:=true) (bc:=true) e h1 (.inl #[P.nm,Z,mE ok.nm,by have:=ok.nm.2.2;show P.nm.cps.toList.length<=100;lia,(Nd.mpr ok.nm).symm]) (ty:="int") Z (.inl #[d,_,Z,c,by rw[Je,ok.l];decide,(λv a=>by obtain⟨i,_,rfl⟩:=Jt.mp a;exact#[_,Z]),by rw[Je,ok.l,vR ok.dg];rfl])
  exact t
inductive LL (vs:Ε) (H:Hp) (Q:VK):Prop
 |mk (x:_) (b:_) (h1:vs=[x]) (h2:Ei H x b) (h3:∀H',GS H H'->Q (.bl b) H')
def jy:Sp:=λvs H Q _=>LL vs H Q
inductive LM (vs:Ε) (H:Hp) (Q:VK):Prop
 |mk (x:_) (b:_) (h1:vs=[x]) (h2:NU H x b) (h3:∀H',GS H H'->Q (.bl b) H')
def jh:Sp:=λvs H Q _=>LM vs H Q
inductive Ly (vs:Ε) (H:Hp) (Q:VK):Prop
 |mk (x:_) (b:_) (h1:vs=[x]) (h2:Nx H x b) (h3:∀H',GS H H'->Q (.bl b) H')
def cq:Sp:=λvs H Q _=>Ly vs H Q
section
variable(K:ι)(C:Δ)
inductive LN (vs:Ε) (H:Hp) (Q:VK):Prop
 |mk (p ta hk bd lg:Δ) (n:Nat) (D:Dr) (x:V) (o:Option Ps) (h1:vs=[.ref p,x]) (h2:GV K C H p ta hk bd lg n D) (h3:Ik D) (h4:Tg H x o) (h5:∀y H',GS H H'->cQ H' y (o.bind (cZ D))->Q y H')
def i6:Sp:=λvs H Q _=>LN K C vs H Q
end
theorem Mf.weak{P:Ξ}{w:Ω}{K:ι}{mg:GQ}{base:Ψ}{C:Δ}{m:Str}{ps:Α}{k:Nat}{sp c:Sp}(M:Mf P w K mg base C m ps k sp)(h:∀vs H Q E,c vs H Q E->sp vs H Q E):Mf P w K mg base C m ps k c:=by
 obtain⟨f,fd,F,j,e⟩:=M.ex
 exact#[f,fd,#[λvs H Q E q=>F.len vs H Q E (h vs H Q E q),λA a s H d o vs Q E l g e n i=>F.run A a s H d o vs Q E l g e n (h _ _ _ _ i)],j,e]
def MD(K:ι)(H:Hp)(b:Δ)(kss:List Β):Prop:=∃c:Η,G9 K H b (c.map V.ref)/\c.length=kss.length/\∀(i:Nat) (a:Δ) (d:Β),c[i]? =↑a->kss[i]? =↑d->G9 K H a (d.map V.int)
theorem MD.same{K:ι}{H H':Hp}{b:Δ}{kss:List Β}(h:MD K H b kss)(s:GS H H'):MD K H' b kss:=by
 obtain⟨g,e,l,r⟩:=h
 exact#[g,GS.sqt s e,l,λi a f d c=>GS.sqt s (r i a f d c)]
theorem MD.upd{K:ι}{C p dx:Δ}{H:Hp}{b:Δ}{kss:List Β}{fs:List (Str×V)}{o:HO}(h:MD K H b kss)(e:H p=↑(.ins C dx fs)):MD K (GW H p o) b kss:=by
 obtain⟨j,f,l,r⟩:=h
 exact#[j,fk e f,l,λi a g d c=>fk e (r i a g d c)]
theorem Ev{X:Cx}{d a g:Str}{h f c:Δ}(h1:X.env.cells.lookup d=↑h)(h2:X.env.cells.lookup a=↑f)(i:X.env.cells.lookup g=↑c):
  ∀u e,([(d,h),(a,f),(g,c)]:List (Str×Δ)).lookup u=↑e->X.env.cells.lookup u=↑e:=fW h1 (fW h2 (fW i AV))
theorem ED{X:Cx}{a:Scope}{f j e:Str}{o n p:Nat}(h:a.kind= .function)(d:∀x∈a.names,x.2= .local->a.names.lookup x.1=some .local)(c:∀x∈a.names,x.2≠ .cell)
  (g:∀x∈a.names,x.2= .free->x.1∈([f,j,e]:Α))(v:X.N[o]? =↑f)(w:X.env.kindOf f=some .cell)(u:(relabel a X.env).names.lookup f=some .cell)
  (s:X.N[n]? =↑j)(r:X.env.kindOf j=some .cell)(q:(relabel a X.env).names.lookup j=some .cell)(y:X.N[p]? =↑e)(t:X.env.kindOf e=some .cell)(z:(relabel a X.env).names.lookup e=some .cell):HP X a [f,j,e] [o,n,p]:=
 #[h,d,c,g,Z,λi B A l m=>by
  match i with
  |0=>cases l;cases m;exact#[v,w,u]
  |1=>cases l;cases m;exact#[s,r,q]
  |2=>cases l;cases m;exact#[y,t,z]
  |i+3=>simp at l]
inductive Rw where
 |learn (P R:Ps)
 |forget (nm:Str)
 |turn (ks:Β)
 |close (age:Int)
 |hear (P:Ps) (ans:Ε)
abbrev _root_.Ο:=List Rw
def oV:V->Prop
 | .int _=>True
 | .str _=>True
 |_=>False
def Ln(H:Hp)(a:Δ):Rw->Prop
 | .learn P R=>∃c p2,Rd H a (.tup [.str "learn",.ref c,.ref p2])/\IW H c P/\IW H p2 R/\Lx P/\Lx R
 | .forget nm=>Rd H a (.tup [.str "forget",.str nm])
 | .turn ks=>∃k,Rd H a (.tup [.str "turn",.ref k])/\Rd H k (.tup (ks.map V.int))/\ks.length<=8
 | .close age=>Rd H a (.tup [.str "close",.int age])
 | .hear P ans=>∃p q,Rd H a (.tup [.str "hear",.ref p,.ref q])/\IW H p P/\Lx P/\H q=↑(.tup ans)/\ans.length<=3/\∀v∈ans,oV v
def Il(H:Hp)(rs:Η)(L:Ο):Prop:=rs.length=L.length/\∀(i:Nat) (a:Δ) (r:Rw),rs[i]? =↑a->L[i]? =↑r->Ln H a r
def Lk(H:Hp)(lg:Δ)(L:Ο):Prop:=∃rs:Η,H lg=↑(.lst (rs.map V.ref))/\Il H rs L
def Li(H:Hp)(t:Δ)(L:Ο):Prop:=∃rs:Η,Rd H t (.tup (rs.map V.ref))/\Il H rs L
section
variable{S:Η}{H H':Hp}{a lg t:Δ}{r:Rw}{rs:Η}{L:Ο}
theorem Ln.mv(m:Mv S H H')(n:NT S H)(h:Ln H a r):Ln H' a r:=by
 cases r with
 |learn P R=>obtain⟨f,p2,h1,d,c,e⟩:=h;exact#[f,p2,m.rd n h1,HU.mv m n d,HU.mv m n c,e]
 |forget nm=>exact m.rd n h
 |turn ks=>obtain⟨k,h1,d,c⟩:=h;exact#[k,m.rd n h1,m.rd n d,c]
 |close age=>exact m.rd n h
 |hear P ans=>obtain⟨p,q,h1,d,c,e,g⟩:=h;exact#[p,q,m.rd n h1,HU.mv m n d,c,m.tup n e,g]
theorem Il.mv(m:Mv S H H')(n:NT S H)(h:Il H rs L):Il H' rs L:=#[h.1,λi a r d c=>(h.2 i a r d c).mv m n]
theorem Lk.mv(m:Mv S H H')(n:NT S H)(hl:lg∉S)(h:Lk H lg L):Lk H' lg L:=by
 obtain⟨rs,e,r⟩:=h
 exact#[rs,m _ _ hl e,r.mv m n]
theorem Li.mv(m:Mv S H H')(n:NT S H)(h:Li H t L):Li H' t L:=by
 obtain⟨rs,e,r⟩:=h
 exact#[rs,m.rd n e,r.mv m n]
theorem cI:NT [] H:=λc h=>nomatch h
theorem Il.same(s:GS H H')(h:Il H rs L):Il H' rs L:=h.mv (S:=[]) s.mv cI
theorem Lk.same(s:GS H H')(h:Lk H lg L):Lk H' lg L:=h.mv (S:=[]) s.mv cI (λz=>nomatch z)
theorem Li.same(s:GS H H')(h:Li H t L):Li H' t L:=h.mv (S:=[]) s.mv cI
theorem Il.add(h:Il H rs L)(hr:Ln H a r):Il H (rs++[a]) (L++[r]):=by
 refine#[by simp [h.1],λi b q c d=>?_]
 by_cases hi:i<rs.length
 ·rw[JT hi]at c
  rw[JT (by rw[<- h.1];exact hi)]at d
  exact h.2 i b q c d
 ·rw[JY (by lia)]at c
  rw[JY (by rw[<- h.1];lia),<- h.1]at d
  cases e:i-rs.length with
  |zero=>rw[e]at c d;cases c;cases d;exact hr
  |succ k=>rw[e]at c;cases c
theorem wm{n:Nat}{v:V}(h:oV v):LF H n v v:=by
 cases v with
 |int i=>exact .int _ _
 |str i=>exact .str _ _
 |_=>exact h.elim
theorem IW.eqv{p q:Δ}{P:Ps}(h1:IW H p P)(h2:IW H q P)(o:Lx P):LF H 2 (.ref p) (.ref q):=by
 obtain⟨h,e,d⟩:=h1;obtain⟨g,f,c⟩:=h2;refine .tup (.inl e) (.inl f) Z (by show 3<=ζ;decide) λi x y ex a=>?_
 match i,ex,a with
 |0,ex,a=>cases ex;cases a;exact .str _ _
 |1,ex,a=>cases ex;cases a;exact .int _ _
 |2,ex,a=>cases ex;cases a;exact .ints (.inl d) (.inl c) (by rw[o.l];decide)
 |i+3,ex,a=>cases ex
theorem Ln.eqv{b:Δ}(h1:Ln H a r)(h2:Ln H b r):LF H 3 (.ref a) (.ref b):=by
 cases r with
 |learn P R=>
  obtain⟨s,p2,e,d,h,l,m⟩:=h1;obtain⟨q,p,f,g,j,_⟩:=h2;refine .tup e f Z (by show 3<=ζ;decide) λi x y ex c=>?_
  match i,ex,c with
  |0,ex,c=>cases ex;cases c;exact .str _ _
  |1,ex,c=>cases ex;cases c;exact IW.eqv d g l
  |2,ex,c=>cases ex;cases c;exact IW.eqv h j m
  |i+3,ex,c=>cases ex
 |forget nm=>
  refine .tup (n:=2) h1 h2 Z (by show 2<=ζ;decide) λi x y ex c=>?_
  match i,ex,c with
  |0,ex,c=>cases ex;cases c;exact .str _ _
  |1,ex,c=>cases ex;cases c;exact .str _ _
  |i+2,ex,c=>cases ex
 |turn ks=>
  obtain⟨t,e,d,h⟩:=h1;obtain⟨v,f,g,_⟩:=h2;refine .tup (n:=2) e f Z (by show 2<=ζ;decide) λi x y ex c=>?_
  match i,ex,c with
  |0,ex,c=>cases ex;cases c;exact .str _ _
  |1,ex,c=>cases ex;cases c;exact .ints d g (by rw[Ju];lia)
  |i+2,ex,c=>cases ex
 |close age=>
  refine .tup (n:=2) h1 h2 Z (by show 2<=ζ;decide) λi x y ex c=>?_
  match i,ex,c with
  |0,ex,c=>cases ex;cases c;exact .str _ _
  |1,ex,c=>cases ex;cases c;exact .int _ _
  |i+2,ex,c=>cases ex
 |hear P ans=>
  obtain⟨s,p2,e,d,l,h,u,o⟩:=h1;obtain⟨q,p,f,g,_,j,_⟩:=h2;refine .tup e f Z (by show 3<=ζ;decide) λi x y ex c=>?_
  match i,ex,c with
  |0,ex,c=>cases ex;cases c;exact .str _ _
  |1,ex,c=>cases ex;cases c;exact IW.eqv d g l
  |2,ex,c=>
   cases ex;cases c
   refine .tup (n:=1) (.inl h) (.inl j) Z (by rw[Ju];lia) λi x y ex c=>?_
   rw[ex]at c;cases c
   exact wm (o _ (JP ex))
  |i+3,ex,c=>cases ex
theorem Li.eqv{t':Δ}(h1:Li H t L)(h2:Li H t' L)(hl:L.length<=2000000):LF H 4 (.ref t) (.ref t'):=by
 obtain⟨rs,f,d,j⟩:=h1;obtain⟨e,g,h,l⟩:=h2;refine .tup f g (by simp [d,h]) (by rw[Je,d,Ju];lia) λi x y ex c=>?_
 rw[Jn]at ex c;cases q1:rs[i]? with
 |none=>rw[q1]at ex;cases ex
 |some a=>
  cases q2:e[i]? with
  |none=>rw[q2]at c;cases c
  |some b=>
   rw[q1]at ex;rw[q2]at c;cases ex;cases c
   have hi:i<L.length:=by rw[<- d];exact(Js.mp q1).1
   exact(j i a _ q1 (Jg hi)).eqv (l i b _ q2 (Jg hi))
end
theorem _root_.L2.G9.up{K:ι}{H:Hp}{a:Δ}{xs:Ε}(h:G9 [] H a xs):G9 K H a xs:=h.elim .inl λ⟨_,_,_,z,_⟩=>nomatch z
theorem _root_.L2.G9.rd{H:Hp}{a:Δ}{xs:Ε}(h:G9 [] H a xs):Rd H a (.tup xs):=h.elim id λ⟨_,_,_,z,_⟩=>nomatch z
theorem HI.up{K:ι}{H:Hp}{a:Δ}{kss:List Β}(h:HI [] H a kss):HI K H a kss:=by
 obtain⟨g,e,l,r⟩:=h
 exact#[g,e,l,λi a f d c=>(r i a f d c).up]
inductive ME (K:ι) (C:Δ) (vs:Ε) (H:Hp) (Q:VK):Prop
 |mk (p a b dx:Δ) (near far most:Int) (t:Β) (kss:List Β) (h1:vs=[.ref p,.ref a,.ref b,.int near,.int far,.int most]) (h2:H p=↑(.ins C dx [])) (h3:Sq K H a (t.map V.int)) (h4:HI [] H b kss) (h5:kss.length<=8) (h6:∀ta hk bd lg H',H hk=none->H bd=none->H lg=none->Mv [p] H H'->GV K C H' p ta hk bd lg 0 ⟨t,kss,near,far,most,0,[]⟩->HI [] H' hk kss->Q .non H')
def Ax(K:ι)(C:Δ):Sp:=λvs H Q _=>ME K C vs H Q
inductive L8 (K:ι) (C:Δ) (vs:Ε) (H:Hp) (Q:VK):Prop
 |mk (p a b dx:Δ) (near far most:Int) (t:Β) (kss:List Β) (h1:vs=[.ref p,.ref a,.ref b,.int near,.int far,.int most]) (h2:H p=↑(.ins C dx [])) (h3:Sq K H a (t.map V.int)) (h4:MD [] H b kss) (h5:kss.length<=8) (h6:∀ta hk bd lg H',H hk=none->H bd=none->H lg=none->Mv [p] H H'->GV K C H' p ta hk bd lg 0 ⟨t,kss,near,far,most,0,[]⟩->HI [] H' hk kss->Q .non H')
def kj(K:ι)(C:Δ):Sp:=λvs H Q _=>L8 K C vs H Q
structure Da where
 p:Δ
 ta:Δ
 hk:Δ
 bd:Δ
 lg:Δ
structure HX(K:ι)(C:Δ)(H:Hp)(a:Da)(D:Dr)(L:Ο):Prop where
 dr:GV K C H a.p a.ta a.hk a.bd a.lg L.length D
 lo:Lk H a.lg L
 kr:HI [] H a.hk D.kss
section
variable{K:ι}{C:Δ}{S:Η}{H H':Hp}{a:Da}{D:Dr}{L:Ο}{r:Δ}{rw:Rw}{rs:Η}
theorem HX.mv(b:HX K C H a D L)(m:Mv S H H')(nt:NT S H)(hp:a.p∉S)(c:a.hk∉S)(hb:a.bd∉S)(hl:a.lg∉S):HX K C H' a D L:=#[b.dr.mv m nt hp c hb hl,b.lo.mv m nt hl,HI.mv m nt c b.kr]
theorem HX.same(b:HX K C H a D L)(s:GS H H'):HX K C H' a D L:=#[b.dr.same s,b.lo.same s,HI.same s b.kr]
theorem HX.push(b:GV K C H a.p a.ta a.hk a.bd a.lg L.length D)(d:H a.lg=↑(.lst (rs.map V.ref)))(c:Il H rs L)(f:HI [] H a.hk D.kss)(hr:Ln H r rw):HX K C (GW H a.lg (.lst (rs.map V.ref++[.ref r]))) a D (L++[rw]):=by
 have nt:NT [a.lg] H:=NT.one d trivial
 have e:=b.putL (r:=r) d (Nat.le_of_eq c.1)
 rw[show L.length+1=(L++[rw]).length by simp]at e
 exact#[e,#[rs++[r],by rw[qc,JK];rfl,(c.add hr).mv Mv.upd1 nt],HI.mv Mv.upd1 nt (qV b.ne.symm) f]
theorem yP{p ta hk bd lg:Δ}{n:Nat}{c:List (qJ×V)}(e:H bd=↑(.dK c))(b:GV K C H p ta hk bd lg n D):hk≠bd:=by
 obtain⟨d,a,_⟩:=b.ks;exact zG a e (by intro z;cases z)
theorem Do{p ta hk bd lg dx:Δ}{n:Nat}{c:List (Str×V)}(e:H p=↑(.ins C dx c))(b:GV K C H p ta hk bd lg n D):hk≠p:=by
 obtain⟨d,a,_⟩:=b.ks;exact zG a e (by intro z;cases z)
theorem GV.dl{p ta hk bd lg:Δ}(b:GV K C H p ta hk bd lg 0 D)(c:HI [] H hk D.kss):HX K C H #[p,ta,hk,bd,lg] D []:=by
 obtain⟨rs,e,l⟩:=id b.lo
 obtain rfl:rs=[]:=List.length_eq_zero_iff.mp (Nat.le_zero.mp l)
 exact#[b,#[[],e,Z,λi a r h=>by cases h],c]
end
inductive Dd where
 |learn (o1 o2:Option Ps)
 |forget (nm:Str)
 |turn (ks:Β)
 |close (age:Int)
 |hear (o:Option Ps)
def Z3(D:Dr)(P:Ps):Ε×Kw:=zk D P.nm P.age (Zn D.t (Qs D P.age) P.nm P.ds)
def EN(D:Dr):Dd->Option (Dr×Rw)
 | .learn ↑P ↑R=>if(uE D P R).1="" then ↑({D with kn:=(uE D P R).2.2},.learn P R)else none
 | .learn _ _=>none
 | .forget nm=>if D.kn.lookup nm=none then none else ↑({D with kn:=D.kn.filter λp=>decide (p.1≠nm)},.forget nm)
 | .turn ks=>if D.kss.length<8 then ↑({D with kss:=D.kss++[ks]},.turn ks)else none
 | .close age=>↑({D with least:=if age>D.least then age else D.least},.close age)
 | .hear ↑P=>↑({D with kn:=(Z3 D P).2},.hear P (Z3 D P).1)
 | .hear none=>none
section
variable(K:ι)(C:Δ)(x:Xa)
inductive MF (vs:Ε) (H:Hp) (Q:VK):Prop
 |mk (a:Da) (D:Dr) (L:Ο) (x:V) (o:Option Ps) (h1:vs=[.ref a.p,x]) (h2:HX K C H a D L) (h3:L.length<=1000000) (h4:Ik D) (h5:Tg H x o) (h6:(o=none->∀q H',GS H H'->H' q=↑(.tup [.str "held",.str "bad"])->Q (.ref q) H')) (h7:∀P,o=↑P->∀pr q H',x= .ref pr->Mv [a.bd,a.lg] H H'->IW H' pr P->H' q=↑(.tup (Z3 D P).1)->HX K C H' a {D with kn:=(Z3 D P).2} (L++[.hear P (Z3 D P).1])->Q (.ref q) H')
def oX:Sp:=λvs H Q _=>MF K C vs H Q
def EL(H:Hp)(k:Δ)(ks:Β):Prop:=H k=↑(.lst (ks.map V.int))\/Rd H k (.tup (ks.map V.int))
inductive L9 (vs:Ε) (H:Hp) (Q:VK):Prop
 |mk (a:Da) (D:Dr) (L:Ο) (age:Int) (h1:vs=[.ref a.p,.int age]) (h2:HX K C H a D L) (h3:L.length<=1000000) (h4:∀D' r,EN D (.close age)=↑(D',r)->∀H',Mv [a.p,a.lg] H H'->HX K C H' a D' (L++[r])->Q .non H')
def kW:Sp:=λvs H Q _=>L9 K C vs H Q
inductive Nf (vs:Ε) (H:Hp) (Q:VK):Prop
 |mk (a:Da) (D:Dr) (L:Ο) (h1:vs=[.ref a.p]) (h2:HX K C H a D L) (h3:∀t H',GS H H'->Li H' t L->Q (.ref t) H')
def uW:Sp:=λvs H Q _=>Nf K C vs H Q
end
theorem fK{X:Cx}:zi X (.type "tuple") (λxs H Q=>∃kt a,xs=[.ref kt]/\EL H kt a/\∀t c,GS H c->Rd c t (.tup (a.map V.int))->Q (.ref t) c):=by
 intro Oa s σ H xs f Q I r h;obtain⟨kt,a,e,h,q⟩:=h;refine qX Oa s σ H xs f Q I r #[kt,a.map V.int,e,?_]
 rcases h with h|h
 ·exact .inl #[G0.of h,λt d=>q t _ (GS.upd d) (.inl qc)]
 ·exact .inr #[.inl h,q kt _ (GS.refl _) h]
section
variable{D:Dr}{P:Ps}
theorem jv(D:Dr)(nm:Str)(age:Int)(r:Option (Int×Int)):(zk D nm age r).1.length<=3/\∀v∈(zk D nm age r).1,oV v:=by
 have two:∀a b:Str,([V.str a,.str b]:Ε).length<=3/\∀v∈([V.str a,.str b]:Ε),oV v:=λa b=>#[by show 2<=3;decide,λv d=>by simp at d;rcases d with rfl|rfl<;>trivial]
 have c:∀(a b:Str) (i:Int),([V.str a,.str b,.int i]:Ε).length<=3/\∀v∈([V.str a,.str b,.int i]:Ε),oV v:=λa b i=>#[by show 3<=3;decide,λv d=>by simp at d;rcases d with rfl|rfl|rfl<;>trivial]
 unfold zk;split
 ·exact two _ _
 ·split
  ·split
   ·exact two _ _
   ·split
    ·exact c _ _ _
    ·exact two _ _
  ·exact two _ _
theorem tf(D:Dr)(P:Ps):(Z3 D P).1.length<=3:=(jv ..).1
theorem wT(D:Dr)(P:Ps):∀v∈(Z3 D P).1,oV v:=(jv ..).2
end
theorem Z9{t u:TS}{D:HY}{σ:L2.St}{H:Hp}(G:L2.St->Hp->Prop)(h:∀D':HY,D'.rt=D.rt->(∀a H',G a H'->D'.nx a H')->t D' σ H)(c:∀a H',G a H'->u D a H'):dc t u D σ H:=h {D with nx:=u D} rfl c
section
variable{K:ι}{S:Η}{H H':Hp}
theorem MD.mv{b:Δ}{kss:List Β}(h:MD K H b kss)(m:Mv S H H')(n:NT S H):MD K H' b kss:=by
 obtain⟨g,e,l,r⟩:=h
 exact#[g,m.sqt n e,l,λi a f d c=>m.sqt n (r i a f d c)]
end
structure Iq(D:Dr)(e:Kb):Prop where
 a0:0<=e.age
 a1:e.age<D.kss.length
 l0:1<=e.last
 l1:e.last<4096
 w:∀x c,e.wt=↑(x,c)->e.age<=x/\x<D.kss.length/\e.last+D.near<c/\c<=e.last+D.far/\0<=c/\c<4096
section
variable{K:ι}{C:Δ}{H:Hp}{a:Da}{D:Dr}{L:Ο}
def dS(a:Da):Η:=[a.p,a.hk,a.bd,a.lg]
theorem HX.nt(d:HX K C H a D L):NT (dS a) H:=λc e=>by
 obtain⟨dx,ep⟩:=id d.dr.ob;obtain⟨i,g,_⟩:=id d.dr.kb;obtain⟨j,f,_⟩:=id d.dr.ks;obtain⟨rs,h,_⟩:=id d.lo;simp only[dS,Jm,JE,JF]at e;rcases e with rfl|rfl|rfl|rfl
 ·exact#[_,ep,trivial]
 ·exact#[_,f,trivial]
 ·exact#[_,g,trivial]
 ·exact#[_,h,trivial]
theorem HX.outD{x:Δ}{xs:List (qJ×V)}(d:HX K C H a D L)(hx:H x=↑(.dK xs))(e:x≠a.bd):x∉dS a:=λc=>by
 obtain⟨dx,ep⟩:=id d.dr.ob;obtain⟨h,f,_⟩:=id d.dr.ks;obtain⟨rs,g,_⟩:=id d.lo;simp only[dS,Jm,JE,JF]at c;rcases c with z|z|z|z
 ·rw[z,ep]at hx;cases hx
 ·rw[z,f]at hx;cases hx
 ·exact e z
 ·rw[z,g]at hx;cases hx
end
theorem Iq.mono{D D':Dr}{e:Kb}(k:Iq D e)(h:D.kss.length<=D'.kss.length)(hn:D'.near=D.near:=by rfl)(hf:D'.far=D.far:=by rfl):Iq D' e:=#[k.a0,by have:=k.a1;lia,k.l0,k.l1,λx c z=>by have:=k.w x c z;rw[hn,hf];lia]
theorem mB{D:Dr}{e:Kb}{age c:Int}(k:Iq D e)(i:e.age<=age)(d:age<D.kss.length)(g:0<=c)(f:c<4096):Iq D (zr D.near D.far e age c).2:=by
 have j:=k.a0;have l:=k.l0;have a:e.last<c->Iq D #[age,c,none]:=λh=>#[by show 0<=age;lia,d,by show 1<=c;lia,f,λx y z=>by cases z]
 unfold zr;split
 ·exact k
 ·split
  ·exact a (by lia)
  ·split
   ·split
    ·exact a (by lia)
    ·exact#[k.a0,k.a1,k.l0,k.l1,λx y z=>by cases z;exact#[i,d,by show e.last+D.near<c;lia,by show c<=e.last+D.far;lia,g,f]]
   ·exact k
theorem ny{kn:Kw}{nm:Str}{e:Kb}(h:nm∈kn.map (·.1)):(zc kn nm e).length=kn.length:=by
 unfold zc;rw[Jc h,Je]
theorem gA{D:Dr}{e:Kb}{age:Int}(h:qR D e age=true):e.age<=age:=by
 unfold qR at h;rw[JC]at h;exact Jx h.2
theorem ZE{i:Nat}{v:V}{σ:L2.St}{H:Hp}{t u:TS}{D:HY}{rt:VK}{bk ct:L2.St->Hp->Prop}(G:L2.St->Hp->Prop)(h:∀D':HY,D'.rt=D.rt->(∀a H',G a H'->D'.nx a H')->t D' (σ.set i ↑v) H)(c:∀a H',G a H'->u D a H'):Qa i v σ H (HY.nx {nx:=dc t u D,rt:=rt,bk:=bk,ct:=ct}):=h {D with nx:=u D} rfl c
theorem BO{σ:L2.St}{H:Hp}{t u:TS}{D:HY}{rt:VK}{bk ct:L2.St->Hp->Prop}(G:L2.St->Hp->Prop)(h:∀D':HY,D'.rt=D.rt->(∀a H',G a H'->D'.nx a H')->t D' σ H)(c:∀a H',G a H'->u D a H'):HY.nx {nx:=dc t u D,rt:=rt,bk:=bk,ct:=ct} σ H:=h {D with nx:=u D} rfl c
theorem BN{K:ι}{H:Hp}{D:Dr}{age:Int}{as:Η}(f:as.length=D.kss.length)(d:∀(i:Nat) (a:Δ) (ks:Β),as[i]? =↑a->D.kss[i]? =↑ks->G9 K H a (ks.map V.int))(g:0<=age)(h1:age<D.kss.length):∃e,zY (as.map V.ref) age=↑(.ref e)/\G9 K H e ((Qs D age).map V.int):=by
 obtain⟨i,rfl⟩:∃i:Nat,age=(i:Int):=#[age.toNat,by lia]
 have hi:i<D.kss.length:=by lia
 have c:i<as.length:=by lia
 refine#[as[i],Qo (by rw[Jn,Jg c];rfl),?_]
 have:=d i as[i] D.kss[i] (Jg c) (Jg hi)
 unfold Qs;rw[Fe,Jz,Jg hi];exact this
theorem Bz{a:Α}{r:Int}(c:0<=r)(h1:r<((a.map V.str).length:Int))(ok:∀z∈a,Qr z):∃z:Str,zY (a.map V.str) r=↑(.str z)/\Qr z:=by
 obtain⟨x,f,e⟩:=QJ (xs:=a.map V.str) c h1
 obtain⟨z,d,rfl⟩:=Jt.mp e
 exact#[z,f,ok z d]
theorem EQ{a:Da}{H H':Hp}(m:Mv [a.p,a.lg] H H'):Mv (dS a) H H':=m.mono λc h z=>h (by simp only[dS,Jm,JE,JF]at z⊢;rcases z with z|z<;>simp [z])
theorem Wt.same{H H':Hp}{v:V}{o:Option (Int×Int)}(s:GS H H')(h:Wt H v o):Wt H' v o:=h.mv (S:=[]) s.mv cI
theorem ZV{X:Cx}{K:ι}(h:X.K=K):zi X (.type "list") (λxs H Q=>∃p ys,xs=[.ref p]/\(G0 K H p ys\/G9 K H p ys)/\∀l,H l=none->Q (.ref l) (GW H l (.lst ys))):=by subst h;exact Zo
theorem rH{kn:Kw}{nm:Str}(h:nm∉kn.map (·.1)):kn.lookup nm=none:=by
 cases e:kn.lookup nm with
 |none=>rfl
 |some x=>exact absurd (Hg.mp (by rw[e];rfl)) h
theorem B7{a:Da}{x:Δ}(h:x∈dS a):x=a.p\/x=a.hk\/x=a.bd\/x=a.lg:=by
 simpa only[dS,Jm,JE,JF]using h
theorem CN(a:Da):a.p∈dS a:=by simp [dS]
theorem yZ(a:Da):a.hk∈dS a:=by simp [dS]
theorem Ad(a:Da):a.bd∈dS a:=by simp [dS]
theorem yO(a:Da):a.lg∈dS a:=by simp [dS]
section
variable{H:Hp}{n:Δ}
theorem LF.eqd{n:Nat}{x y:V}(h:LF H n x y):Lo H n x y:=by
 induction h with
 |int n i=>exact .int n i
 |str n z=>exact .str n z
 |non n=>exact .non n
 |tup h1 h2 hl _ _ ih=>exact .tup h1 h2 hl ih
end
theorem tD{a:Da}{H H':Hp}(m:Mv [a.bd,a.lg] H H'):Mv (dS a) H H':=m.mono (λc h z=>h (by simp [dS]at z⊢;rcases z with z|z<;>simp [z]))
def ZT(D:Dr)(kd:Δ):List (qJ×V):=[(.inr "near",.int D.near),(.inr "far",.int D.far),(.inr "keys",.int (D.kss.length:Int)),(.inr "closed",.int D.least),(.inr "known",.ref kd)]
theorem tE(D:Dr)(kd:Δ):((ZT D kd).map (·.1)).Nodup:=by
 have:([.inr "near",.inr "far",.inr "keys",.inr "closed",.inr "known"]:List qJ).Nodup:=by decide +kernel
 exact this
theorem vN(D:Dr)(kd:Δ):Zi [] (ZT D kd)=ZT D kd:=by
 have:=kF (ZT D kd) [] (tE D kd)
 rwa [List.nil_append]at this
structure Ht(H:Hp)(m kd:Δ)(D:Dr):Prop where
 di:H m=↑(.dK (ZT D kd))
 kn:II H kd D.kn
 ne:m≠kd
section
variable{S:Η}{H H':Hp}{m kd:Δ}{D:Dr}
theorem Ht.get(a:Ht H m kd D)(i:Nat){k:qJ}{x:V}(h:(ZT D kd)[i]? =↑(k,x)):Iy H m (kV k) ↑x:=by
 have:=Iy.k (k:=k) a.di
 rw[oC i h (tE ..)]at this;exact this
theorem Ht.g_near(a:Ht H m kd D):Iy H m (.str "near") ↑(.int D.near):=a.get (k:= .inr "near") 0 Z
theorem Ht.g_far(a:Ht H m kd D):Iy H m (.str "far") ↑(.int D.far):=a.get (k:= .inr "far") 1 Z
theorem Ht.g_keys(a:Ht H m kd D):Iy H m (.str "keys") ↑(.int (D.kss.length:Int)):=a.get (k:= .inr "keys") 2 Z
theorem Ht.g_closed(a:Ht H m kd D):Iy H m (.str "closed") ↑(.int D.least):=a.get (k:= .inr "closed") 3 Z
theorem Ht.g_known(a:Ht H m kd D):Iy H m (.str "known") ↑(.ref kd):=a.get (k:= .inr "known") 4 Z
theorem Ht.mv(a:Ht H m kd D)(v:Mv S H H')(n:NT S H)(h1:m∉S)(h2:kd∉S):Ht H' m kd D:=#[v _ _ h1 a.di,a.kn.mv v n h2,a.ne]
theorem Ht.same(a:Ht H m kd D)(s:GS H H'):Ht H' m kd D:=a.mv (S:=[]) s.mv cI (λh=>nomatch h) (λh=>nomatch h)
theorem Ht.putK{c:Kw}(a:Ht H m kd D)(v:Mv [kd] H H')(d:II H' kd c):Ht H' m kd {D with kn:=c}:=#[v _ _ (qV a.ne) a.di,d,a.ne]
theorem rP(D:Dr)(kd:Δ)(z:Int):L2.HL (ZT D kd) (Sum.inr "closed":qJ) (.int z)=ZT {D with least:=z} kd:=by
 unfold L2.HL ZT;rw[Jc (by simp [ES])]
 have h1:¬((Sum.inr ("near":Str):Sum Int Str)=Sum.inr ("closed":Str)):=by decide +kernel
 have c:¬((Sum.inr ("far":Str):Sum Int Str)=Sum.inr ("closed":Str)):=by decide +kernel
 have a:¬((Sum.inr ("keys":Str):Sum Int Str)=Sum.inr ("closed":Str)):=by decide +kernel
 have d:¬((Sum.inr ("known":Str):Sum Int Str)=Sum.inr ("closed":Str)):=by decide +kernel
 simp only[JS,FS,Jb h1,Jb c,Jb a,Jb d,Fc]
theorem Ht.close(a:Ht H m kd D)(z:Int):∃H',Lq H m (.str "closed") (.int z) H'/\Mv [m] H H'/\Ht H' m kd {D with least:=z}:=by
 refine#[_,Lq.k (k:=Sum.inr "closed") a.di (sN _ (by show 5<=100;decide)),Mv.upd1,by rw[qc,rP],a.kn.mv Mv.upd1 (NT.one a.di trivial) (qV a.ne.symm),a.ne]
end
structure Em where
 e:Δ
 a:Da
 m:Δ
 kd:Δ
def eS(x:Em):Η:=dS x.a++[x.m,x.kd]
structure Lj(K:ι)(C:Δ)(H:Hp)(x:Em)(D:Dr)(L:Ο)(E:Dr):Prop where
 tu:H x.e=↑(.tup [.ref x.a.p,.ref x.m])
 dl:HX K C H x.a D L
 md:Ht H x.m x.kd E
 n1:x.m≠x.a.bd
 n2:x.kd≠x.a.bd
section
variable{K:ι}{C:Δ}{S:Η}{H H':Hp}{x:Em}{D D' E E':Dr}{L L':Ο}{z:Δ}
theorem uA(h:z∈eS x):z∈dS x.a\/z=x.m\/z=x.kd:=by
 rcases JL.mp h with h|h
 ·exact .inl h
 ·simp only[Jm,JE,JF]at h;exact .inr h
theorem lU(h:z∈dS x.a):z∈eS x:=JL.mpr (.inl h)
theorem Ek:x.m∈eS x:=JL.mpr (.inr (by simp))
theorem EF:x.kd∈eS x:=JL.mpr (.inr (by simp))
theorem Lj.nt(b:Lj K C H x D L E):NT (eS x) H:=λz a=>by
 rcases uA a with h|rfl|rfl
 ·exact b.dl.nt z h
 ·exact#[_,b.md.di,trivial]
 ·obtain⟨f,e,_⟩:=b.md.kn;exact#[_,e,trivial]
theorem Lj.some(b:Lj K C H x D L E)(h:z∈eS x):H z≠none:=λw=>by
 obtain⟨o,e,_⟩:=b.nt z h;rw[w]at e;cases e
theorem Lj.mv(b:Lj K C H x D L E)(m:Mv S H H')(nt:NT S H)(h:∀z∈eS x,z∉S):Lj K C H' x D L E:=#[m.tup nt b.tu,b.dl.mv m nt (h _ (lU (CN _))) (h _ (lU (yZ _))) (h _ (lU (Ad _))) (h _ (lU (yO _))),b.md.mv m nt (h _ Ek) (h _ EF),b.n1,b.n2]
theorem Lj.same(b:Lj K C H x D L E)(s:GS H H'):Lj K C H' x D L E:=b.mv (S:=[]) s.mv cI (λz _ h=>nomatch h)
theorem Lj.m_out(b:Lj K C H x D L E):x.m∉dS x.a:=b.dl.outD b.md.di b.n1
theorem Lj.k_out(b:Lj K C H x D L E):x.kd∉dS x.a:=by
 obtain⟨f,e,_⟩:=b.md.kn;exact b.dl.outD e b.n2
theorem Lj.door(b:Lj K C H x D L E)(m:Mv (dS x.a) H H')(d:HX K C H' x.a D' L'):Lj K C H' x D' L' E:=#[m.tup b.dl.nt b.tu,d,b.md.mv m b.dl.nt b.m_out b.k_out,b.n1,b.n2]
theorem Lj.model(b:Lj K C H x D L E)(m:Mv [x.m,x.kd] H H')(c:Ht H' x.m x.kd E'):Lj K C H' x D L E':=by
 have nt:NT [x.m,x.kd] H:=λz a=>b.nt z (JL.mpr (.inr a))
 have o:∀z∈dS x.a,z∉[x.m,x.kd]:=λz a w=>by
  simp only[Jm,JE,JF]at w;rcases w with rfl|rfl
  ·exact b.m_out a
  ·exact b.k_out a
 exact#[m.tup nt b.tu,b.dl.mv m nt (o _ (CN _)) (o _ (yZ _)) (o _ (Ad _)) (o _ (yO _)),c,b.n1,b.n2]
theorem iq(m:Mv (dS x.a) H H'):Mv (eS x) H H':=m.mono λc h z=>h (lU z)
theorem iB(m:Mv [x.m,x.kd] H H'):Mv (eS x) H H':=m.mono λc h z=>h (JL.mpr (.inr z))
end
abbrev En:=Em×Dr×Ο
abbrev _root_.β:=List En
structure Pw(K:ι)(C:Δ)(H0 H:Hp)(b:Δ)(c:Nat)(pl:Δ)(xs:β):Prop where
 s:Mv [b] H0 H
 bx:Ip H b c
 b0:H0 b≠none
 en:∀(i:Nat) (x:En),xs[i]? =↑x->Lj K C H x.1 x.2.1 x.2.2 x.2.1
 dj:∀(i j:Nat) (x y:En),i≠j->xs[i]? =↑x->xs[j]? =↑y->∀z∈eS x.1,z∉eS y.1
 fr:∀(i:Nat) (x:En),xs[i]? =↑x->∀z∈eS x.1,H0 z=none
 pe:H pl=↑(.lst (xs.map λx=> .ref x.1.e))
 np:∀(i:Nat) (x:En),xs[i]? =↑x->pl∉eS x.1
 fp:H0 pl=none
section
variable{K:ι}{C:Δ}{H0 H H':Hp}{b:Δ}{c c':Nat}{pl:Δ}{xs:β}{i:Nat}{x:En}{D':Dr}{L':Ο}
theorem Pw.nb(p:Pw K C H0 H b c pl xs)(hi:xs[i]? =↑x):b∉eS x.1:=λz=>p.b0 (p.fr i x hi b z)
theorem Pw.npb(p:Pw K C H0 H b c pl xs):pl≠b:=λz=>p.b0 (z▸p.fp)
theorem Pw.grc(p:Pw K C H0 H b c pl xs)(g:IQ b c' H H'):Pw K C H0 H' b c' pl xs:=by
 have m:Mv [b] H H':=λc o h e=>g.kp c o (λz=>h (Jh.mpr z)) e
 exact#[p.s.trans m,g.bx,p.b0,λi x hi=>(p.en i x hi).mv m (zg p.bx) (λz a w=>p.nb hi (Jh.mp w▸a)),p.dj,p.fr,g.kp _ _ p.npb p.pe,p.np,p.fp]
theorem Pw.same(p:Pw K C H0 H b c pl xs)(s:GS H H'):Pw K C H0 H' b c pl xs:=p.grc (s.grc p.bx)
theorem Pw.mono(p:Pw K C H0 H b c pl xs)(h:c<=c'):Pw K C H0 H b c' pl xs:=#[p.s,p.bx.mono h,p.b0,p.en,p.dj,p.fr,p.pe,p.np,p.fp]
theorem Pw.step(p:Pw K C H0 H b c pl xs)(hi:xs[i]? =↑x)(m:Mv (eS x.1) H H')(e:Lj K C H' x.1 D' L' D'):Pw K C H0 H' b c pl (xs.set i (x.1,D',L')):=by
 have v:i<xs.length:=(Js.mp hi).1
 have nt:=(p.en i x hi).nt;have g:∀{j:Nat} {y:En},(xs.set i (x.1,D',L'))[j]? =↑y->(j=i/\y=(x.1,D',L'))\/(j≠i/\xs[j]? =↑y):=λ{j y} h=>by
  rw[List.getElem?_set]at h;split at h
  ·rename_i z
   subst z;injection h with h
   exact .inl #[Z,h.symm]
  ·rename_i z
   exact .inr #[λw=>z w.symm,h]
 have same:∀{j:Nat} {y:En},(xs.set i (x.1,D',L'))[j]? =↑y->∃d,xs[j]? =↑d/\d.1=y.1:=λh=>by
  rcases g h with⟨rfl,rfl⟩|⟨_,h⟩
  ·exact#[x,hi,Z]
  ·exact#[_,h,Z]
 refine#[λc o t e=>m c o (λz=>?_) (p.s c o t e),p.bx.mv m (p.nb hi),p.b0,λj y a=>?_,λj k y z q a hk=>?_,λj y a=>?_,?_,λj y a=>?_,p.fp]
 ·rw[p.fr i x hi c z]at e;cases e
 ·rcases g a with⟨rfl,rfl⟩|⟨n,a⟩
  ·exact e
  ·exact(p.en j y a).mv m nt (λz r w=>p.dj j i y x n a hi z r w)
 ·obtain⟨d,l,f⟩:=same a
  obtain⟨s,r,u⟩:=same hk;rw[<- f,<- u];exact p.dj j k d s q l r
 ·obtain⟨d,l,f⟩:=same a
  rw[<- f];exact p.fr j d l
 ·have:(xs.set i (x.1,D',L')).map (λx=>V.ref x.1.e)=xs.map λx=>V.ref x.1.e:=by
   refine List.ext_getElem? λj=>?_
   rw[Jn,Jn,List.getElem?_set];split
   ·rename_i z
    subst z;rw[hi];rfl
   ·rfl
  rw[this];exact m _ _ (p.np i x hi) p.pe
 ·obtain⟨d,l,f⟩:=same a
  rw[<- f];exact p.np j d l
theorem Pw.at(p:Pw K C H0 H b c pl xs)(hi:xs[i]? =↑x):zY (xs.map λx=>V.ref x.1.e) (i:Int)=↑(.ref x.1.e):=Qo (by rw[Jn,hi];rfl)
theorem Pw.add{r:Hp}{y:Em}{D:Dr}(p:Pw K C H0 H b c pl xs)(s:GS H r)(e:Lj K C r y D [] D)(f:∀z∈eS y,H z=none):Pw K C H0 (GW r pl (.lst ((xs.map λx=>V.ref x.1.e)++[.ref y.e]))) b c pl (xs++[(y,D,[])]):=by
 have B:=p.same s;have m:Mv [pl] r (GW r pl (.lst ((xs.map λx=>V.ref x.1.e)++[.ref y.e]))):=Mv.upd1
 have nt:NT [pl] r:=NT.one B.pe trivial
 have t:pl∉eS y:=λz=>by have:=p.pe;rw[f pl z]at this;cases this
 have d:∀{j:Nat} {w:En},(xs++[(y,D,[])])[j]? =↑w->xs[j]? =↑w\/(j=xs.length/\w=(y,D,[])):=λ{j w} h=>by
  by_cases g:j<xs.length
  ·rw[JT g]at h;exact .inl h
  ·rw[JY (by lia)]at h
   cases q:j-xs.length with
   |zero=>rw[q]at h;cases h;exact .inr #[by lia,Z]
   |succ k=>rw[q]at h;cases h
 have E:∀z∈eS y,H0 z=none:=λz i=>by
  cases q:H0 z with
  |none=>rfl
  |some o=>
   by_cases w:z=b
   ·subst w;obtain⟨_,_,_,n,_⟩:=p.bx;rw[f z i]at n;cases n
   ·have:=p.s z o (qV w) q;rw[f z i]at this;cases this
 refine#[λc o F n=>?_,B.bx.mv m (qV p.npb.symm),p.b0,λj w g=>?_,λj k w u A g hk=>?_,λj w g=>?_,?_,λj w g=>?_,p.fp]
 ·rw[qm (λz=>by rw[z,p.fp]at n;cases n)]
  exact s _ _ (p.s c o F n)
 ·rcases d g with g|⟨_,rfl⟩
  ·exact(B.en j w g).mv m nt (λz i u=>p.np j w g (Jh.mp u▸i))
  ·exact e.mv m nt (λz i u=>t (Jh.mp u▸i))
 ·rcases d g with a|⟨I,rfl⟩
  ·rcases d hk with l|⟨_,rfl⟩
   ·exact p.dj j k w u A a l
   ·exactλz i v=>(p.en j w a).some i (f z v)
  ·rcases d hk with l|⟨G,rfl⟩
   ·exactλz i v=>(p.en k u l).some v (f z i)
   ·lia
 ·rcases d g with a|⟨_,rfl⟩
  ·exact p.fr j w a
  ·exact E
 ·rw[qc,JK];rfl
 ·rcases d g with a|⟨_,rfl⟩
  ·exact p.np j w a
  ·exact t
end
def zv(D:Dr)(nm:Str)(age c:Int):Str:=match D.kn.lookup nm with
 |none=>""
 |some e=>if qR D e age=true then(if c-e.last<1\/c-e.last>D.far then "" else if c-e.last<=D.near\/e.wt=↑(age,c-1)then "open" else "wait")else ""
def Hj(D:Dr)(nm:Str)(age c:Int):Kw:=(zk D nm age ↑(c,0)).2
theorem vp(D:Dr)(nm:Str)(age c d:Int):(zk D nm age ↑(c,d)).2=Hj D nm age c:=by
 unfold Hj zk;split
 ·rfl
 ·split
  ·simp only
   split
   ·rfl
   ·rfl
  ·rfl
theorem rj{D:Dr}{nm:Str}{age c:Int}(o:(D.kn.map (·.1)).Nodup)(p:D.near<=D.far):Hj D nm age c=match D.kn.lookup nm with
  |none=>D.kn
  |some e=>if zv D nm age c="open" then zc D.kn nm #[age,c,none]else if zv D nm age c="wait" then zc D.kn nm #[e.age,e.last,↑(age,c)]else D.kn:=by
 unfold Hj;cases e1:D.kn.lookup nm with
 |none=>unfold zk;rw[e1]
 |some e=>
  simp only
  have g:¬(("":Str)="open"):=by decide
  have f:¬(("":Str)="wait"):=by decide
  have j:¬(("wait":Str)="open"):=by decide
  have d:=ji o e1
  by_cases h:qR D e age=true
  ·have l:(zk D nm age ↑(c,0)).2=zc D.kn nm (zr D.near D.far e age c).2:=by
    unfold zk;rw[e1];simp only
    rw[Jc h];split<;>rfl
   have a:zv D nm age c=(if c-e.last<1\/c-e.last>D.far then("":Str)else if c-e.last<=D.near\/e.wt=↑(age,c-1)then("open":Str)else("wait":Str)):=by
    unfold zv;rw[e1];simp only
    rw[Jc h]
   rw[l];unfold zr
   by_cases h1:c<=e.last
   ·rw[Jc (show c-e.last<1\/c-e.last>D.far from .inl (by lia))]at a
    rw[Jc h1,a,Jb g,Jb f];exact d
   ·rw[Jb h1]
    by_cases n:c<=e.last+D.near
    ·rw[Jb (show¬(c-e.last<1\/c-e.last>D.far) by lia),Jc (show c-e.last<=D.near\/_ from .inl (by lia))]at a
     rw[Jc n,a,Jc Z]
    ·rw[Jb n]
     by_cases m:c<=e.last+D.far
     ·rw[Jb (show¬(c-e.last<1\/c-e.last>D.far) by lia)]at a
      rw[Jc m]
      by_cases i:e.wt=↑(age,c-1)
      ·rw[Jc (show c-e.last<=D.near\/_ from .inr i)]at a
       rw[Jc i,a,Jc Z]
      ·rw[Jb (show¬(c-e.last<=D.near\/e.wt=↑(age,c-1))fromλz=>z.elim (λz=>by lia) i)]at a
       rw[Jb i,a,Jb j,Jc Z]
     ·rw[Jc (show c-e.last<1\/c-e.last>D.far from .inr (by lia))]at a
      rw[Jb m,a,Jb g,Jb f];exact d
  ·have l:(zk D nm age ↑(c,0)).2=D.kn:=by
    unfold zk;rw[e1];simp only
    rw[Jb h]
   have a:zv D nm age c="":=by
    unfold zv;rw[e1];simp only
    rw[Jb h]
   rw[l,a,Jb g,Jb f]
section
variable(K:ι)(C:Δ)
inductive LO (vs:Ε) (H:Hp) (Q:VK):Prop
 |mk (a:Da) (D:Dr) (L:Ο) (p1 p2:Δ) (P R:Ps) (c d d':Int) (h1:vs=[.ref a.p,.ref p1,.ref p2]) (h2:HX K C H a D L) (h3:L.length<=1000000) (h4:Ik D) (h5:IW H p1 P) (h6:IW H p2 R) (h7:Lx P) (h8:Lx R) (h9:cZ D P=↑(c,d)) (h10:cZ D R=↑(c+1,d')) (h11:R.nm=P.nm) (h12:R.age=P.age) (h13:D.kn.lookup R.nm=none) (h14:(D.kn.length:Int)<D.most) (h15:∀H',Mv [a.bd,a.lg] H H'->HX K C H' a {D with kn:=zc D.kn R.nm ⟨R.age,c+1,none⟩} (L++[.learn P R])->Q .non H')
def iZ:Sp:=λvs H Q _=>LO K C vs H Q
end
def Zd(D:Dr)(e:Kb)(age:Int):List (Int×Int):=if qR D e age=true then
  (if e.last+1<4096 then [(e.last+1,if 4095<e.last+D.near then 4095 else e.last+D.near)]else [])++
  (match e.wt with
   |none=>[]
   |some (x,w)=>if x=age/\w+1<=(if 4095<e.last+D.far then 4095 else e.last+D.far)then [(w+1,w+1)]else [])
 else []
def Lz(H:Hp)(t:Δ)(zs:List (Int×Int)):Prop:=∃c:Η,H t=↑(.tup (c.map V.ref))/\c.length=zs.length/\∀(i:Nat) (a:Δ) (z:Int×Int),c[i]? =↑a->zs[i]? =↑z->H a=↑(.tup [.int z.1,.int z.2])
def ND(H:Hp)(t:Δ)(zs:List (Int×Int)):Prop:=∃c:Η,H t=↑(.lst (c.map V.ref))/\c.length=zs.length/\∀(i:Nat) (a:Δ) (z:Int×Int),c[i]? =↑a->zs[i]? =↑z->H a=↑(.tup [.int z.1,.int z.2])
section
variable{S:Η}{H H':Hp}{t x:Δ}{zs:List (Int×Int)}{z:Int×Int}
theorem Lz.mv(m:Mv S H H')(n:NT S H)(h:Lz H t zs):Lz H' t zs:=by
 obtain⟨f,e,l,r⟩:=h
 exact#[f,m.tup n e,l,λi a z d c=>m.tup n (r i a z d c)]
theorem Lz.same(s:GS H H')(h:Lz H t zs):Lz H' t zs:=h.mv (S:=[]) s.mv cI
theorem ND.add{as:Η}(e:H t=↑(.lst (as.map V.ref)))(l:as.length=zs.length)(r:∀(i:Nat) (a:Δ) (z:Int×Int),as[i]? =↑a->zs[i]? =↑z->H a=↑(.tup [.int z.1,.int z.2]))(hx:H x=↑(.tup [.int z.1,.int z.2])):ND (GW H t (.lst (as.map V.ref++[.ref x]))) t (zs++[z]):=by
 have nt:NT [t] H:=NT.one e trivial
 refine#[as++[x],by rw[qc,JK];rfl,by simp [l],λi a y c d=>(Mv.upd1 (a:=t)).tup nt ?_]
 by_cases hi:i<as.length
 ·rw[JT hi]at c
  rw[JT (by rw[<- l];exact hi)]at d
  exact r i a y c d
 ·rw[JY (by lia)]at c
  rw[JY (by rw[<- l];lia),<- l]at d
  cases q:i-as.length with
  |zero=>rw[q]at c d;cases c;cases d;exact hx
  |succ k=>rw[q]at c;cases c
end
section
variable(K:ι)(C:Δ)
def M0(H:Hp)(v:V):Ρ->Prop
 |none=>v= .non
 |some e=>∃a,v= .ref a/\HS H a e
inductive Ny (vs:Ε) (H:Hp) (Q:VK):Prop
 |mk (p ta hk bd lg:Δ) (n:Nat) (D:Dr) (v:V) (o:Ρ) (age:Int) (h1:vs=[.ref p,v,.int age]) (h2:GV K C H p ta hk bd lg n D) (h3:M0 H v o) (h4:∀t H',GS H H'->Lz H' t (match(generalizing:=false) o with|none=>[]|some e=>Zd D e age)->Q (.ref t) H')
def yy:Sp:=λvs H Q _=>Ny K C vs H Q
inductive MG (vs:Ε) (H:Hp) (Q:VK):Prop
 |mk (D:Dr) (h1:vs=[.int D.near,.int D.far,.int (D.kss.length:Int)]) (h2:D.least=0) (h3:D.kn=[]) (h4:∀m kd H',GS H H'->H m=none->H kd=none->Ht H' m kd D->Q (.ref m) H')
def oo:Sp:=λvs H Q _=>MG vs H Q
inductive MJ (vs:Ε) (H:Hp) (Q:VK):Prop
 |mk (m kd p:Δ) (D:Dr) (nm:Str) (age c:Int) (h1:vs=[.ref m,.ref p]) (h2:Ht H m kd D) (h3:H p=↑(.tup [.str nm,.int age,.int c])) (h4:Ik D) (h5:D.near<=D.far) (h6:∀H',Mv [m,kd] H H'->Ht H' m kd {D with kn:=Hj D nm age c}->Q (.bl (decide (zv D nm age c="open"))) H')
def ie:Sp:=λvs H Q _=>MJ vs H Q
structure Io(H:Hp)(cd tb kt:Δ)(t:Β)(kss:List Β):Prop where
 e:H cd=↑(.tup [.ref tb,.ref kt])
 tb:Rd H tb (.tup (t.map V.int))
 ks:MD [] H kt kss
def Qm(t:Β)(kss:List Β)(nm:Str)(age c d:Int):Ps:=#[nm,age,cj t (kss.getD age.toNat []) nm c d]
inductive Ma (vs:Ε) (H:Hp) (Q:VK):Prop
 |mk (cd tb kt p:Δ) (t:Β) (kss:List Β) (nm:Str) (age c d:Int) (h1:vs=[.ref cd,.ref p,.int d]) (h2:Io H cd tb kt t kss) (h3:H p=↑(.tup [.str nm,.int age,.int c])) (h4:t.Perm HW) (h5:Qr nm) (h6:0<=age) (h7:age<kss.length) (h8:0<=c) (h9:c<4096) (h10:aL d) (h11:∀pr H',GS H H'->IW H' pr (Qm t kss nm age c d)->Q (.ref pr) H')
def gj:Sp:=λvs H Q _=>Ma vs H Q
end
section
variable{S:Η}{H H':Hp}{cd tb kt:Δ}{t:Β}{kss:List Β}
theorem Io.mv(h:Io H cd tb kt t kss)(m:Mv S H H')(n:NT S H):Io H' cd tb kt t kss:=#[m.tup n h.e,m.rd n h.tb,h.ks.mv m n]
theorem Io.same(h:Io H cd tb kt t kss)(s:GS H H'):Io H' cd tb kt t kss:=h.mv (S:=[]) s.mv cI
end
end L3
namespace S0
open PySem PyProof.Rows
def Rs(xs:Array Nat):Prop:=xs.toList.Pairwise (· < ·)
theorem Rs.at{xs:Array Nat}(h:Rs xs){i j:Nat}(hi:i<xs.size)(c:j<xs.size)(a:i<j):xs[i]<xs[j]:=by
 have:=List.pairwise_iff_getElem.mp h i j (by simpa using hi) (by simpa using c) a
 simpa using this
theorem iF{xs:Array Nat}(h:Rs xs)(j:Nat):∀(f lo hi:Nat),lo<=hi->hi<=xs.size->hi-lo<=f->(∀i (hx:i<xs.size),i<lo->xs[i]<j)->(∀i (hx:i<xs.size),hi<=i->j<=xs[i])->
  SetTable.below.go xs j f lo hi<=xs.size/\(∀i (hx:i<xs.size),i<SetTable.below.go xs j f lo hi->xs[i]<j)/\(∀i (hx:i<xs.size),SetTable.below.go xs j f lo hi<=i->j<=xs[i])
 |0,lo,hi,h1,h2,h3,h4,h5=>by
  have e:lo=hi:=by lia
  subst e
  exact#[h2,h4,h5]
 |f+1,lo,hi,h1,h2,h3,h4,h5=>by
  unfold SetTable.below.go
  by_cases d:lo<hi
  ·rw[Jc d]
   have l:(lo+hi)/2<xs.size:=by lia
   dsimp only
   have m:xs.getD ((lo+hi)/2) j=xs[(lo+hi)/2]:=by simp [Array.getD,l]
   rw[m]
   by_cases g:xs[(lo+hi)/2]<j
   ·rw[Jc g]
    refine iF h j f _ _ (by lia) h2 (by lia) (λi a c=>?_) h5
    by_cases e:i=(lo+hi)/2
    ·subst e;exact g
    ·exact Nat.lt_trans (h.at a l (by lia)) g
   ·rw[Jb g]
    refine iF h j f _ _ (by lia) (by lia) (by lia) h4 λi a c=>?_
    by_cases e:i=(lo+hi)/2
    ·subst e;lia
    ·have:=h.at l a (by lia)
     lia
  ·rw[Jb d]
   exact#[by lia,h4,λi hx c=>h5 i hx (by lia)]
theorem bU{xs:Array Nat}(h:Rs xs)(j:Nat):SetTable.below xs j<=xs.size/\(∀i (hi:i<xs.size),i<SetTable.below xs j->xs[i]<j)/\(∀i (hx:i<xs.size),SetTable.below xs j<=i->j<=xs[i]):=
 iF h j xs.size 0 xs.size (Jy _) (Jf _) (by lia) (λi _ h=>absurd h (Nat.not_lt_zero _)) λi hx hi=>absurd hx (by lia)
theorem Rs.put{xs:Array Nat}(h:Rs xs){j:Nat}(i:(xs[SetTable.below xs j]? ==↑j)=false):Rs (SetTable.insertAt xs (SetTable.below xs j) j):=by
 obtain⟨h1,n,l⟩:=bU h j;generalize SetTable.below xs j=p at *
 unfold Rs;rw[SetTable.toList_insertAt,List.pairwise_append];have t:(xs.toList.take p++xs.toList.drop p).Pairwise (· < ·):=by rw[List.take_append_drop];exact h
 obtain⟨r,s,q⟩:=List.pairwise_append.mp t;have lo:∀x∈xs.toList.take p,x<j:=by
  intro x a;obtain⟨m,f,rfl⟩:=List.mem_iff_getElem.mp a;simp at f
  simpa using n m (by lia) (by lia)
 have hi:∀x∈xs.toList.drop p,j<x:=by
  intro x a;obtain⟨m,f,rfl⟩:=List.mem_iff_getElem.mp a;simp at f
  have c:p+m<xs.size:=by lia
  have g:p<xs.size:=by lia
  have v:j<=xs[p]:=l p g (Jf _)
  have u:xs[p]≠j:=by
   intro e;rw[getElem?_pos xs p g,e]at i;simp at i
  simp only[List.getElem_drop,Array.getElem_toList]
  by_cases o:m=0
  ·subst o;simp only[Nat.add_zero];lia
  ·have:=h.at g c (by lia)
   lia
 refine#[r,List.pairwise_cons.mpr #[hi,s],λx a y d=>?_]
 rcases Jm.mp d with rfl|d
 ·exact lo x a
 ·exact q x a y d
theorem bR{t:SetTable}{h:Int}:∀(f:Nat) (p:SetTable.Probe) {j:Nat} {d:Χ},(∀a,p.dummy=↑a->t.slot a= .dummy)->
  SetTable.probe.go t (λ_=>h+1) h f p=↑(.empty j d)->t.slot j= .empty/\∀a,d=↑a->t.slot a= .dummy
 |0,p,j,d,hp,e=>nomatch e
 |f+1,p,j,d,hp,e=>by
  unfold SetTable.probe.go at e;have g:∀q:SetTable.Probe,(t.advance q).dummy=q.dummy:=λq=>by
   unfold SetTable.advance;split
   ·rfl
   ·rfl
  cases hs:t.slot p.j with
  |empty=>
   rw[hs]at e;simp only[Option.some.injEq,SetTable.Met.empty.injEq]at e;obtain⟨rfl,rfl⟩:=e
   exact#[hs,hp]
  |dummy=>
   rw[hs]at e;refine bR f _ (λa h'=>?_) e
   rw[g]at h';have h':↑p.j=↑a:=h'
   injection h' with h'
   rw[<- h'];exact hs
  |live i=>
   rw[hs]at e;have c:((h+1:Int)==h)=false:=by simp;lia
   simp only[c,Bool.false_eq_true,JD]at e;exact bR f _ (λa h'=>hp a (by rw[<- g p];exact h')) e
theorem tL{t:SetTable}{h:Int}{j:Nat}{b:Bool}(e:t.freeSlot h=↑(j,b)):∀i,t.slot j≠ .live i:=by
 unfold SetTable.freeSlot at e;split at e
 ·rename_i c d f
  obtain⟨g,l⟩:=bR _ _ (λc h'=>by cases h') f
  simp only[Option.some.injEq,Prod.mk.injEq]at e;obtain⟨a,_⟩:=e;intro i z;cases d with
  |none=>
   have a:c=j:=a
   rw[<- a,g]at z;cases z
  |some k=>
   have a:k=j:=a
   rw[<- a,l k Z]at z;cases z
 ·cases e
def TOk(t:SetTable):Prop:=t.plain=true->Rs t.place
theorem TOk.standIn(t:SetTable)(n:Nat):TOk (t.standIn n):=λh=>nomatch h
theorem Cf{t:SetTable}{j:Nat}(h:TOk t)(a:∀i,t.slot j≠ .live i):TOk (t.put j).1:=by
 intro c;have h1:=h c;unfold SetTable.put
 dsimp only
 refine h1.put ?_
 cases e:(t.place[SetTable.below t.place j]? ==↑j)with
 |false=>rfl
 |true=>
  refine absurd ?_ (a (SetTable.below t.place j))
  unfold SetTable.slot
  dsimp only
  rw[e];rfl
theorem tZ{t:SetTable}(h:TOk t)(es:Array (Int×Γ))(c:Int)(x:Γ):TOk (layNew t es c x).2.1/\(layNew t es c x).2.1.led=t.led:=by
 unfold layNew;split
 ·rename_i a e d
  dsimp only
  have hk:=Cf (j:=a) h (tL d)
  unfold SetTable.orStandIn;split
  ·exact#[hk,Z]
  ·exact#[TOk.standIn _ _,Z]
 ·exact#[TOk.standIn _ _,Z]
theorem gd(f:Nat->Χ):∀l:Κ,(l.filterMap λj=>(f j).map (j,·)).map (·.1)=l.filter λj=>(f j).isSome
 | []=>rfl
 |j::l=>by
  rw[JR,List.filter_cons];cases e:f j with
  |none=>simpa using gd f l
  |some k=>simpa using gd f l
theorem oU{mask fg mv:Nat}{led plain:Bool}{hs:Array Int}{t:SetTable}{o:Array Nat}(e:SetTable.laid mask fg mv led plain hs=↑(t,o)):Rs t.place/\t.dummies= (List.toArray [])/\t.led=led:=by
 unfold SetTable.laid at e;cases hl:SetTable.layClean mask hs with
 |none=>rw[hl]at e;exact nomatch e
 |some ow=>
  rw[hl]at e;have a:↑(({mask,place:=(((List.range (mask+1)).filterMap λj=>(ow.getD j none).map (j,·)).map (·.1)).toArray,dummies:= (List.toArray []),finger:=fg,led,moves:=mv,plain}:SetTable),(((List.range (mask+1)).filterMap λj=>(ow.getD j none).map (j,·)).map (·.2)).toArray)=↑(t,o):=e
  injection a with a
  injection a with e1 e2
  subst e1;refine#[?_,Z,Z]
  unfold Rs
  dsimp only
  rw[gd];exact List.Pairwise.filter _ List.pairwise_lt_range
theorem xu(t:SetTable)(es:Array (Int×Γ))(c:Nat):TOk (relayAll t es c).2.1/\(relayAll t es c).2.1.led=t.led:=by
 unfold relayAll;split
 ·rename_i g a d
  dsimp only
  obtain⟨f,h,e⟩:=oU d;split
  ·exact#[λ_=>f,e]
  ·exact#[TOk.standIn _ _,Z]
 ·exact#[TOk.standIn _ _,Z]
end S0
namespace S0
open PySem PySem.Spec PyProof.Rows
def zu(w:Ω):Bool:=w.params.followText "set-order"
def TW(w:Ω)(t:SetTable):Prop:=zu w=true\/(t.led=true/\TOk t)
section
variable{prog:Ξ}{w:Ω}{K:Type} [DecidableEq K](knd:PySem.KeyKind prog w K)(kf:Γ->K)
def SetK(h:Ψ)(a:Δ)(ks:List K):Prop:=∃o es ep t,h.get? a=↑o/\o.ExactSet/\o.data= .set es ep t/\t.fits es.size=true/\es.size<scanBound/\
 ElemsOf knd es.toList/\(es.toList.map λe=>kf e.2).Perm ks/\TW w t
variable{knd kf}
theorem SetK.at{h h':Ψ}{a:Δ}{ks:List K}(x:SetK knd kf h a ks)(e:∀o,h.get? a=↑o->h'.get? a=↑o):SetK knd kf h' a ks:=by
 obtain⟨o,es,ep,t,h1,r⟩:=x
 exact#[o,es,ep,t,e _ h1,r]
theorem SetK.lt{h:Ψ}{a:Δ}{ks:List K}(x:SetK knd kf h a ks):a<h.objs.size:=by
 obtain⟨o,es,ep,t,h1,r⟩:=x;exact Jj h1
theorem SetK.len{h:Ψ}{a:Δ}{ks:List K}(x:SetK knd kf h a ks):ks.length<scanBound:=by
 obtain⟨o,es,ep,t,h1,g,e,f,d,i,c,j⟩:=x;rw[<- c.length_eq,Je,Jp];exact d
theorem mM(a:∀k v,knd.is k v=true->kf v=k){es:Array (Int×Γ)}(f:ElemsOf knd es.toList)(k:K):
  k∈(es.toList.map λe=>kf e.2)↔∃e∈es.toList,knd.is k e.2=true:=by
 rw[Jt];constructor
 ·rintro⟨e,d,rfl⟩
  obtain⟨⟨g,c,_⟩,_⟩:=f e d
  exact#[e,d,by rw[a g _ c];exact c]
 ·rintro⟨e,d,hk⟩
  exact#[e,d,a k _ hk]
theorem Zf{h:Ψ}{a:Δ}{o:Obj}{es:Array (Int×Γ)}{ep:Nat}{t:SetTable}(ho:h.get? a=↑o)(hd:o.data= .set es ep t)(c:Array (Int×Γ))(t':SetTable):
  (h.update a (Obj.putSet c t')).get? a=some {o with data:= .set c (ep+1) t'}:=by
 have:=FB (Obj.putSet c t') ho (by rw[putSet_of c t' hd];rfl)
 rw[putSet_of c t' hd]at this;exact this
variable{A:Around}{E:GP}{s:Θ}
theorem sU(Y:∀k v,knd.is k v=true->kf v=k){a:Δ}{ks:List K}{k:K}{x:Γ}{Q:Bool->Θ->Prop}(l:knd.is k x=true)(M:x.scannable=true)
  (hS:SetK knd kf s.heap a ks)(J:ks.length+1<scanBound)
  (h:∀h',Ψ.SameBut a s.heap h'->SetK knd kf h' a (if k∈ks then ks else ks++[k])->Q (decide (k∉ks)) {s with heap:=h'}):
  ε (model prog w) A (setAddHashed a x (knd.hash k)) Q E s:=by
 obtain⟨o,es,ep,t,O,C,S,hf,hb,m,q,U⟩:=hS;have u:k∈ks↔∃e∈es.toList,knd.is k e.2=true:=by rw[<- q.mem_iff];exact mM Y m k
 have a2:es.size=ks.length:=by rw[<- q.length_eq,Je,Jp]
 unfold setAddHashed setAddHashedIn;refine JI (Ja (wpAny_setState_of O S hf ?_))
 dsimp only
 rw[byScan_of M hb m];simp only[↓reduceIte];unfold setAddByScan;refine Ja (Ja (E7 (Ja (wpAny_setScan_of l O S hf m ?_))))
 cases hr:List.findIdx? (λe=>knd.is k e.2) es.toList with
 |some j=>
  obtain⟨hj,a3,_⟩:=List.findIdx?_eq_some_iff_getElem.mp hr
  have hk:k∈ks:=u.mpr #[es.toList[j],Fi hj,a3]
  refine Jd (Jd ?_)
  have:=h s.heap (Ψ.SameBut.refl a s.heap) (by rw[Jc hk];exact#[o,es,ep,t,O,C,S,hf,hb,m,q,U])
  rw[Jo (by simpa using hk)]at this
  exact this
 |none=>
  have hk:k∉ks:=λz=>by
   obtain⟨e,he,H⟩:=u.mp z
   have:=List.findIdx?_eq_none_iff.mp hr e he
   rw[H]at this;cases this
  have a0:∀(b:Bool) {p:Θ} {Q':Unit->Θ->Prop},Q' () p->ε (model prog w) A (match b with|true=>rule "set.scan.the-table-gave-way"|false=>pure ()) Q' E p:=
   λb p Q' hq=>by cases b<;>first|exact Jd hq|exact E7 hq
  have f:=layNew_perm t es (knd.hash k) x;have g:=layNew_fits t es (knd.hash k) x;have n:TW w (layNew t es (knd.hash k) x).2.1:=by
   rcases U with z|⟨W,z2⟩
   ·exact .inl z
   ·obtain⟨F,D⟩:=tZ z2 es (knd.hash k) x
    exact .inr #[D.trans W,F]
  dsimp only
  generalize hL:layNew t es (knd.hash k) x=L at f g n⊢
  obtain⟨d,t1,wd,a4⟩:=L
  dsimp only at f g n⊢
  rw[Array.toList_push]at f;have y:ElemsOf knd d.toList:=(m.push l M).perm f
  have r:(d.toList.map λe=>kf e.2).Perm (ks++[k]):=by
   refine(f.map _).trans ?_
   rw[JK];refine q.append ?_
   show [kf x].Perm [k]
   rw[Y k x l]
  have a1:d.size=ks.length+1:=by rw[<- Jp,f.length_eq,Jv,Jp,a2];rfl
  have I:d.size<scanBound:=by rw[a1];exact J
  have X:∀i:SetTable,i.fits d.size=true->TW w i->∀(c:Option Bool->Θ->Prop),(∀h',Ψ.SameBut a s.heap h'->SetK knd kf h' a (ks++[k])->c ↑true {s with heap:=h'})->
    ε (model prog w) A (do
     storeSet a d i
     if(! wd&&i.tooFull)=true then do
       (match(relayAll i d (SetTable.grown d.size)).2.2 with|true=>rule "set.scan.the-table-gave-way"|false=>pure ())
       storeSet a (relayAll i d (SetTable.grown d.size)).1 (relayAll i d (SetTable.grown d.size)).2.1
       pure ↑true
      else pure ↑true) c E s:=by
   intro i f2 w2 c hZ;refine Ja (wpAny_storeSet_of O S ?_ (fits_of_scanBound I))
   have N:=Zf O S d i;have P:=J8 s.heap a (Obj.putSet d i);split
   ·have H:=relayAll_perm i d (SetTable.grown d.size)
    have G:=relayAll_fits i d (SetTable.grown d.size);obtain⟨k1,k2⟩:=xu i d (SetTable.grown d.size)
    have wr:TW w (relayAll i d (SetTable.grown d.size)).2.1:=by
     rcases w2 with z|⟨W,z2⟩
     ·exact .inl z
     ·exact .inr #[k2.trans W,k1]
    generalize relayAll i d (SetTable.grown d.size)=Rl at H G wr⊢
    obtain⟨B,t3,g2⟩:=Rl
    dsimp only at H G wr⊢
    have T:B.size<scanBound:=by rw[<- Jp,H.length_eq,Jp];exact I
    refine Ja (a0 _ (Ja (wpAny_storeSet_of N Z ?_ (fits_of_scanBound T))))
    exact Jd (hZ _ (P.trans (J8 _ a _)) #[_,B,_,t3,Zf N Z B t3,C,Z,G,T,y.perm H,(H.map _).trans r,wr])
   ·exact Jd (hZ _ P #[_,d,_,i,N,C,Z,f2,I,y,r,w2])
  have R:∀h',Ψ.SameBut a s.heap h'->SetK knd kf h' a (ks++[k])->Q true {s with heap:=h'}:=λh' F D=>by
   have:=h h' F (by rw[Jb hk];exact D)
   rw[Ji (by simpa using hk)]at this
   exact this
  refine Ja (a0 _ ?_)
  split
  ·refine Ja ?_
   rw[hashByValue_scannable 8 M];refine Jd ?_
   refine X _ ?_ ?_ _ λh' F D=>Jd (R h' F D)
   ·split
    ·exact g
    ·exact SetTable.fits_plain_off g
   ·split
    ·exact n
    ·rcases n with z|⟨W,z2⟩
     ·exact .inl z
     ·exact .inr #[W,λz=>nomatch z]
  ·refine Ja (Jd ?_)
   simp only[↓reduceIte];exact X _ g n _ λh' F D=>Jd (R h' F D)
end
def Q2{K:Type} [DecidableEq K](a:List K)(k:K):List K:=if k∈a then a else a++[k]
def bE{K:Type} [DecidableEq K](val:Nat->K)(i:Nat):List K:=((List.range i).map val).foldl Q2 []
theorem mL{K:Type} [DecidableEq K](val:Nat->K)(i:Nat):bE val (i+1)=Q2 (bE val i) (val i):=by
 unfold bE;rw[List.range_succ,JK,List.foldl_append];rfl
theorem ou{K:Type} [DecidableEq K](val:Nat->K):∀i,(bE val i).length<=i
 |0=>Jf _
 |i+1=>by
  rw[mL];unfold Q2
  have:=ou val i
  split
  ·lia
  ·rw[Jv,Fd];lia
def ddL{K:Type} [DecidableEq K](l:List K):List K:=l.foldl Q2 []
theorem tU{K:Type} [DecidableEq K] [Inhabited K](l:List K):bE (λi=>l.getD i default) l.length=ddL l:=by
 unfold bE ddL;congr 1
 apply List.ext_getElem
 ·simp
 ·intro i h1 a
  simp [Jz,a]
abbrev zU(led:Bool):Obj:={cls:= .type "set",dict:=none,data:= .set (List.toArray []) 0 (.fresh 0 0 led)}
section
variable{prog:Ξ}{w:Ω}{K:Type} [DecidableEq K]{knd:PySem.KeyKind prog w K}{kf:Γ->K}
theorem BH{h:Ψ}{a:Δ}(hg:h.get? a=↑(zU (! zu w))):SetK knd kf h a []:=by
 refine#[_,(List.toArray []),0,_,hg,#[Z,Z,Z],Z,Z,by unfold scanBound;simp,(λe c=>nomatch c),List.Perm.nil,?_]
 cases e:zu w with
 |true=>exact .inl e
 |false=>exact .inr #[Z,λ_=>List.Pairwise.nil]
section
variable{A:Around}{R:Result->Θ->Prop}{I:Δ}{fp wr:Η}{G:Array GenState->Array GenState->Prop}{n:Nat}{P:Nat->Γ->Prop}{St:Nat->Θ->Prop}
theorem Cs(B:∀k v,knd.is k v=true->kf v=k)(W:WalksS prog w A.in1 I fp wr G n P St)(S:Δ)(l:S∉fp)
  (val:Nat->K)(r:∀i v,P i v->knd.is (val i) v=true/\v.scannable=true)(hb:n+1<scanBound):
  ∀(k i:Nat) (s:Θ),n-i=k->i<=n->St i s->SetK knd kf s.heap S (bE val i)->
   (∀s',Moved (S::wr) G s s'->SetK knd kf s'.heap S (bE val n)->R (.ok (.ret .none)) s')->
   codeAny (model prog w) A (.builtin "set.update.loop" #[[.ref S,.ref I],[]]) R s:=by
 have j:S∉wr:=λh=>l (W.sub _ h)
 have a:∀b∈wr,b∈S::wr:=λb hb=>JM _ hb
 intro k
 induction k with
 |zero=>
  intro i s hk hi c u E;have y:i=n:=by lia
  subst y;refine Fo PyProof.Rows.F.entry_set_update_loop ?_
  rw[Around.under_plainId PyProof.Rows.F.plain_set_update_loop _]
  show ε _ A.in1 (pyNext (.ref I) >>= _) _ _ s
  refine Ja (W.done s _ _ c λs' d=>?_)
  show ε _ A.in1 (ret Γ.none) _ _ s'
  exact Jd (E s' (d.mono a) (u.at λo e=>d.heap S _ j e))
 |succ k ih=>
  intro i s hk hi c u E;have q:i<n:=by lia
  refine Fo PyProof.Rows.F.entry_set_update_loop ?_
  rw[Around.under_plainId PyProof.Rows.F.plain_set_update_loop _]
  show ε _ A.in1 (pyNext (.ref I) >>= _) _ _ s
  refine Ja (W.item i s _ _ q c λv s' H m d=>?_)
  obtain⟨f,F⟩:=r i v H;have x:SetK knd kf s'.heap S (bE val i):=u.at λo e=>d.heap S _ j e
  show ε _ A.in1 (holding [v] (setAdd S v) >>= _) _ _ s'
  refine Ja (JI ?_)
  unfold setAdd;refine JI (Ja (knd.pyHash (k:=val i) f ?_))
  have:=ou val i
  refine sU (s:={s' with toks:=s'.toks+1}) B f F x (by lia) λh' g z=>?_
  have D:SetK knd kf h' S (bE val (i+1)):=by rw[mL];exact z
  refine Jd #[plainId_quiet PyProof.Rows.F.plain_set_update_loop _,ih (i+1) _ (by lia) q (W.frame _ s' _ _ m (Fk _) λb hb o e=>?_) D λC p t=>?_]
  ·rw[g.2 b (λh:b=S=>l (by rw[<- h];exact hb))];exact e
  ·refine E C (Moved.trans W.gtrans ((d.mono a).then_heap (Fk _) λb o hb e=>?_) p) t
   rw[g.2 b (λh:b=S=>hb (by rw[h];exact JB))];exact e
end
variable{A:Around}{E:GP}{s:Θ}
theorem DU(a:Γ){Q₁:GP}(h:Q₁ (.ref s.heap.objs.size) {s with heap:=s.heap.push (zU (! zu w))}):
  codeAny (model prog w) A (.call (.builtin "set.__new__") #[[.type "set",a],[]]) (wants Q₁ E) s:=by
 refine codeAny_of_tree ?_
 show ε _ A.in1 (do checkBuiltinCall "set.__new__" #[[.type "set",a],[]];again (.builtin "set.__new__" #[[.type "set",a],[]])) _ _ s
 refine Ja (E8 (PySem.F.newCall_set_1 a) (Jd #[plainId_quiet PySem.F.plain_set_new _,Fo PySem.F.entry_set_new ?_]))
 rw[Around.under_plainId PySem.F.plain_set_new _];unfold γ.«set.__new__» γ.Frozenset.newClass
 have c:=sub_set_self;obtain⟨e,g,d,tk,f⟩:=s
 dsimp only
 wp_walk
 refine wpAny_askSetting (Jd ?_)
 dsimp only
 simp only[newObj];refine Ja (wpAny_alloc (Jd ?_))
 exact Jd h
def yX(knd:PySem.KeyKind prog w K)(kf:Γ->K)(s:Θ)(ks:List K)(r:Γ)(a:Θ):Prop:=
 r= .none/\∃h' tk,a={s with heap:=h',toks:=tk}/\SetK knd kf h' s.heap.objs.size ks/\∀b o,b<s.heap.objs.size->s.heap.get? b=↑o->h'.get? b=↑o
theorem CV(h:∀k v,knd.is k v=true->kf v=k){t:Δ}{items:Array Γ}{val:Nat->K}(z:A.handled=none)(y:s.heap.IsList t items)
  (hv:∀i v,items[i]? =↑v->knd.is (val i) v=true/\v.scannable=true)(hb:items.size+1<scanBound):
  ε (model prog w) A.in1.in1 (γ.«set.__init__» #[[.ref s.heap.objs.size,.ref t],[]]) (λc s'=>∃v,c= .done (.ret v)/\yX knd kf s (bE val items.size) v s') E {s with heap:=s.heap.push (zU (! zu w))}:=by
 obtain⟨⟨oc,od,H,B⟩,l,q,n,m⟩:=y;simp only at q m
 subst q m;have f:(s.heap.push (zU (! zu w))).get? t=some #[.type "list",od,.seq items n,B]:=Jl _ l
 have J:=PySem.F.sub_list_set;have I:=PySem.F.sub_list_frozenset;have G:(Γ.type "list"==Γ.type "dict")=false:=by decide
 have p:(s.heap.push (zU (! zu w))).IsList t items:=#[_,f,Z,n,Z]
 have r:(s.heap.push (zU (! zu w))).get? s.heap.objs.size=↑(zU (! zu w)):=Jq _ Z
 unfold γ.«set.__init__» noKeywords γ.Frozenset.updateFrom
 generalize hPI:pyIter=PI
 wp_walk
 subst hPI;refine FO p (Ja (wpAny_runValue ?_))
 have lt:t<s.heap.objs.size:=Jj l
 have sz:(s.heap.push (zU (! zu w))).objs.size=s.heap.objs.size+1:=JX ..
 have C:A.in1.in1.in1.handled=none:=by simp [z]
 have u:t≠(s.heap.push (zU (! zu w))).objs.size:=by rw[sz];exact Jk (EY lt)
 have x:s.heap.objs.size∉[(s.heap.push (zU (! zu w))).objs.size,t]:=by
  rw[sz];simp only[Jm,JE,JF,not_or]
  exact#[Jk (E2 _),EV lt]
 refine Cs h ((Walks.list C _ t u items).toS) s.heap.objs.size x val hv hb items.size 0 _ (by lia) (Jy _) #[#[_,Jq _ Z,Z,Z],p.push _] (BH (Jl _ r)) λs' mv d=>?_
 obtain⟨h',F,D,j,g⟩:=s'
 obtain rfl:F=s.gens:=mv.gens
 obtain rfl:D=s.drawn:=mv.drawn
 obtain rfl:g=s.os:=mv.os
 show ε _ _ _ _ _ _
 refine Jd ?_
 show ε _ _ (ret Γ.none) _ _ _
 refine Jd #[_,Z,Z,h',j,Z,d,λb o a e=>mv.heap b o ?_ (Jl _ (Jl _ e))]
 rw[sz];simp only[Jm,JE,JF,not_or]
 exact#[Jk a,Jk (EY a)]
theorem uJ(p:∀k v,knd.is k v=true->kf v=k){t:Δ}{items:Array Γ}{val:Nat->K}{Q:GP}(C:A.handled=none)(B:s.heap.IsList t items)
  (hv:∀i v,items[i]? =↑v->knd.is (val i) v=true/\v.scannable=true)(hb:items.size+1<scanBound)
  (h:∀(h':Ψ) (tk:Nat),SetK knd kf h' s.heap.objs.size (bE val items.size)->(∀b o,s.heap.get? b=↑o->h'.get? b=↑o)->Q (.ref s.heap.objs.size) {s with heap:=h',toks:=tk}):
  ε (model prog w) A (call (.type "set") [.ref t]) Q E s:=by
 obtain⟨c,tl,u⟩:=PySem.F.called_set.mro;have L:=PySem.F.called_set.made;have I:=PySem.F.called_set.sub;have H:=PySem.F.called_set.notType;have J:=PySem.F.called_set.canCreate;have D:=PySem.F.typeCall_set_1 (.ref t);refine wpAny_call (codeAny_of_tree ?_)
 show ε _ _ (callAny (.type "set") _) _ _ _
 refine Jd #[Code.quiet_builtin _ nofun,Fo PySem.F.entry_type_call ?_]
 rw[Around.under_plain (weight_type_call_type "set" [.ref t] []) Z]
 repeat (any_goals (first|assumption|wp_step))
 refine FE (DU (.ref t) (E:=E) (Q₁:=λg f=>g= .ref s.heap.objs.size/\f={s with heap:=s.heap.push (zU (! zu w))}) #[Z,Z]) λr f m=>?_
 cases r with
 |error e=>exact m
 |ok fl=>
  cases fl with
  |ret g=>
   obtain⟨rfl,rfl⟩:=m;have x:Θ.TypeIs {s with heap:=s.heap.push (zU (! zu w))} (.ref s.heap.objs.size) "set":=#[_,Jq _ Z,Z]
   have G:=PySem.F.called_set.init.lookup;have F:=PySem.F.called_set.init.bind (.ref s.heap.objs.size)
   repeat (any_goals (first|assumption|wp_step))
   refine FE (codeAny_call_builtin (R:=wants (yX knd kf s (bE val items.size)) E) PySem.F.called_set.init.plain PySem.F.entry_set_init (check_set_init_1 x (Jw (CV p C B hv hb) (λy s' ⟨v,e,d⟩=>by subst e;exact d) λ_ _ z=>z))) λj q a=>?_
   cases j with
   |error e=>exact a
   |ok fl₂=>
    cases fl₂ with
    |ret r=>
     obtain⟨rfl,h',tk,rfl,l,n⟩:=a
     repeat (any_goals (first|assumption|wp_step))
     exact h _ _ l λb o e=>n b o (Jj e) e
    |_=>exact a.elim
  |_=>exact m.elim
end
theorem bL{a:Type}:∀(l:List a) (i:Nat) (x:a),l[i]? =↑x->(x::l.eraseIdx i).Perm l
 | [],i,x,h=>by simp at h
 |y::l,0,x,h=>by simp at h;subst h;exact List.Perm.refl _
 |y::l,i+1,x,h=>by
  have c:=bL l i x (by simpa using h)
  rw[List.eraseIdx_cons_succ]
  exact(List.Perm.swap y x _).trans (c.cons y)
theorem oR{c:Type}(next:Nat->Nat):∀(f k:Nat) (l:List c) (out:Array c),l.length=f->(pickOrder.go next f k l out).toList.Perm (out.toList++l)
 |0,k,l,out,h=>by
  have e:l=[]:=List.length_eq_zero_iff.mp h
  subst e;unfold pickOrder.go;simp
 |f+1,k,l,out,h=>by
  unfold pickOrder.go;have d:next k%l.length<l.length:=Nat.mod_lt _ (by lia)
  have a:=Jg d;rw[a]
  dsimp only
  have g:=bL l _ _ a;refine(oR next f (k+1) _ _ (by rw[List.length_eraseIdx,Jc d];lia)).trans ?_
  rw[Array.toList_push,Fh];exact List.Perm.append_left _ g
theorem jC{a:Type}(next:Nat->Nat)(xs:Array a):(pickOrder next xs).toList.Perm xs.toList:=by
 have:=oR next xs.size 0 xs.toList (List.toArray []) (by simp)
 simpa [pickOrder]using this
section
variable{M:Model}{A:Around}{E:GP}
theorem lC{s:Θ}{a:Source}{n:Nat}{Q:Nat->Θ->Prop}(hn:n≠0)(h:∀i,i<n->Q i {s with drawn:=s.drawn.bump a}):ε M A (choose a n) Q E s:=
 λ_ _ _=>#[hn,h _ (Nat.mod_lt _ (Nat.pos_of_ne_zero hn))]
theorem gQ{a:Type}:∀(n:Nat) (xs:List a) {s:Θ} {Q:List a->Θ->Prop},xs.length<=n->(∀ys d,ys.Perm xs->Q ys {s with drawn:=d})->ε M A (drawOrder n xs) Q E s
 |0,xs,s,Q,hl,h=>by
  have e:xs=[]:=List.length_eq_zero_iff.mp (by lia)
  subst e;exact Jd (h [] s.drawn (List.Perm.refl _))
 |n+1,[],s,Q,hl,h=>Jd (h [] s.drawn (List.Perm.refl _))
 |n+1,x::xs,s,Q,hl,h=>by
  show ε M A (do
   let i <- choose .order (x::xs).length
   match(x::xs)[i]? with
   |some y=>return y::(<- drawOrder n ((x::xs).eraseIdx i))
   |none=>unsupported "internal:drawOrder") Q E s
  refine Ja (lC (by simp) λi hi=>?_)
  have c:=Jg hi;rw[c]
  dsimp only
  refine Ja (gQ n _ (by rw[List.length_eraseIdx,Jc hi];simp at hl⊢;lia) λys d f=>Jd (h _ d ?_))
  exact(f.cons _).trans (bL _ _ _ c)
end
abbrev lM(f:Γ)(i:Nat)(a:Δ)(n ep:Nat):Obj:={cls:= .type "set_iterator",data:= .fields (List.toArray [f,.int i 0,.ref a,.int n 0,.int ep 0])}
def Way(w:Ω)(a T:Δ)(es:Array (Int×Γ))(ep:Nat)(t:SetTable)(vs:Ζ)(i:Nat)(f:Γ)(h:Ψ):Prop:=
 (zu w=true/\(∃z:Nat,f= .int z 0)/\vs=(pickOrder (w.params.setOrder a ep) es).toList.map (·.2))\/
 (zu w=false/\(! t.plain&&decide (es.size>1))=false/\t.led=true/\Rs t.place/\(∃z:Nat,f= .int z 0/\SetTable.below t.place z=i)/\vs=es.toList.map (·.2))\/
 (∃ps:Κ,f= .ref T/\h.IsTuple T (ps.map λp:Nat=>Γ.int (p:Int) 0).toArray/\vs.map some=ps.map λp=>es[p]?.map (·.2))
theorem Way.keep{w:Ω}{a T:Δ}{es:Array (Int×Γ)}{ep:Nat}{t:SetTable}{vs:Ζ}{i:Nat}{f:Γ}{h h':Ψ}(x:Way w a T es ep t vs i f h)
  (e:∀o,h.get? T=↑o->h'.get? T=↑o):Way w a T es ep t vs i f h':=by
 rcases x with x|x|⟨ps,g,⟨o,j,c⟩,d⟩
 ·exact .inl x
 ·exact .inr (.inl x)
 ·exact .inr (.inr #[ps,g,#[o,e _ j,c],d])
theorem rf(a:Δ)(c d ep:Nat):setNext a c d ep=(do
 let(es,ec,t) <- setState a
 if <- setsByText then
  if ec != ep then unsupported "set_iterator.__next__:elements-changed"
  return ((<- setWalk a)[d]?).map λe=>(e.2,c)
 if ! t.plain&&es.size>1 then unsupported "set_iterator.__next__:the-table-is-plain-no-more"
 (do if ! t.led&& ! es.isEmpty then unsupported "set:maker-not-led":Sem Unit)
 let i:=SetTable.below t.place c
 return match es[i]?,t.place[i]? with
  |some (_,x),↑j=>↑(x,j+1)
  |_,_=>none):=Z
section
variable{prog:Ξ}{w:Ω}{A:Around}{E:GP}{s:Θ}
theorem Qx{Q:Bool->Θ->Prop}(h:Q (zu w) s):ε (model prog w) A setsByText Q E s:=
 Ja (wpAny_askSetting (Jd h))
variable{a T:Δ}{o:Obj}{es:Array (Int×Γ)}{ep:Nat}{t:SetTable}{vs:Ζ}{i:Nat}
theorem nY{Q:Option (Γ×Nat)->Θ->Prop}(ho:s.heap.get? a=↑o)(hd:o.data= .set es ep t)(hf:t.fits es.size=true){z:Nat}(W:Way w a T es ep t vs i (.int z 0) s.heap)
  (h:∀r,r.map (·.1)=vs[i]? ->(∀f:Nat,r.map (·.2)=↑f->Way w a T es ep t vs (i+1) (.int f 0) s.heap)->Q r s):ε (model prog w) A (setNext a z i ep) Q E s:=by
 rw[rf];refine Ja (wpAny_setState_of ho hd hf ?_)
 dsimp only
 refine Ja (Qx ?_)
 rcases W with⟨d,⟨n,m⟩,j⟩|⟨d,m,j,l,⟨n,u,B⟩,q⟩|⟨ps,d,_⟩
 ·rw[d,Jc Z]
  simp only[bne_self_eq_false,Bool.false_eq_true,JD];refine Ja ?_
  unfold setWalk;refine Ja (wpAny_setState_of ho hd hf ?_)
  dsimp only
  refine Ja (Qx ?_)
  rw[d,Jc Z];refine Ja (wpAny_askSetting (Jd (Jd (h _ ?_ λf _=> .inl #[d,#[f,Z],j]))))
  rw[j,Jn,Option.map_map,Array.getElem?_toList];rfl
 ·rw[d,Jb ⋯,m]
  simp only[Bool.false_eq_true,JD,j,Bool.not_true,EW];refine Ja (Jd ?_)
  have D:z=n:=by injection u with u;lia
  subst D;rw[B];have x:t.place.size=es.size:=by
   simp only[SetTable.fits,JC,JW]at hf;exact hf.1
  refine Jd (h _ ?_ λf g=> .inr (.inl #[d,m,j,l,#[f,Z,?_],q]))
  ·rw[q,Jn,Array.getElem?_toList]
   by_cases hi:i<es.size
   ·rw[getElem?_pos es i hi,getElem?_pos t.place i (by lia)];rfl
   ·rw[Array.getElem?_eq_none (by lia)];rfl
  ·by_cases hi:i<es.size
   ·have e:i<t.place.size:=by lia
    rw[getElem?_pos es i hi,getElem?_pos t.place i e]at g;simp only[Option.map_some,Option.some.injEq]at g;subst g;obtain⟨F,C,y⟩:=bU l (t.place[i]+1)
    generalize SetTable.below t.place (t.place[i]+1)=p at *
    have J:¬p<=i:=λc=>by have:=y i e c;lia
    have H:¬i+2<=p:=λc=>by
     have v:i+1<t.place.size:=by lia
     have G:=C (i+1) v (by lia)
     have I:=l.at e v (by lia)
     lia
    lia
   ·rw[Array.getElem?_eq_none (by lia)]at g;simp at g
 ·cases d
end
theorem slot_si_next:Slot "set_iterator" "__next__" "set_iterator.__next__":=
 .of (owner:="set_iterator") (n:="__next__") (by rw[FX,FY];kernel_rfl) nofun nofun nofun
  (by first|exact .inl nofun|exact .inr nofun) (by rw[FD];kernel_rfl)
theorem cD:entryFor table "set_iterator.__next__"=some γ.«set_iterator.__next__»:=entryFor_of_tree (by kernel_rfl)
theorem c7(a:Γ):argsOk "set_iterator.__next__" #[[a],[]]:=by unfold argsOk;kernel_rfl
theorem eC:Slot "set_iterator" "__iter__" "set_iterator.__iter__":=
 .of (owner:="set_iterator") (n:="__iter__") (by rw[FX,FY];kernel_rfl) nofun nofun nofun
  (by first|exact .inl nofun|exact .inr nofun) (by rw[FD];kernel_rfl)
theorem jT:entryFor table "set_iterator.__iter__"=some γ.«dict_keyiterator.__iter__»:=
 entryFor_alias (id':="dict_keyiterator.__iter__") (by kernel_rfl) Z nofun (by kernel_rfl)
theorem kT(a:Γ):argsOk "set_iterator.__iter__" #[[a],[]]:=by unfold argsOk;kernel_rfl
theorem ig:entryFor table "set.__iter__"=some γ.«frozenset.__iter__»:=
 entryFor_alias (id':="frozenset.__iter__") (by kernel_rfl) Z nofun (by kernel_rfl)
section
variable{prog:Ξ}{w:Ω}{A:Around}{E:GP}{s:Θ}
variable{a T:Δ}{o:Obj}{es:Array (Int×Γ)}{ep:Nat}{t:SetTable}{vs:Ζ}{i:Nat}{f:Γ}
theorem eW{h:Ψ}{I:Δ}{o:Obj}{xs:Array Γ}(ho:h.get? I=↑o)(hd:o.data= .fields xs)(k:Nat)(x:Γ):
  (h.update I (Obj.mapFields (·.setIfInBounds k x))).get? I=some {o with data:= .fields (xs.setIfInBounds k x)}:=by
 rw[FB _ ho (Gm (FH hd _))];obtain⟨c,d,a,e⟩:=o
 dsimp only at hd
 subst hd;rfl
theorem Bc{I:Δ}{v:Γ}{Q:Ν->Θ->Prop}(d:s.heap.get? I=↑(lM f i a es.size ep))(ho:s.heap.get? a=↑o)(hd:o.data= .set es ep t)(hf:t.fits es.size=true)
  (W:Way w a T es ep t vs i f s.heap)(M:T≠I)(hv:vs[i]? =↑v)
  (B:∀u h',Ψ.SameBut I s.heap h'->h'.get? I=↑(lM u (i+1) a es.size ep)->Way w a T es ep t vs (i+1) u h'->Q ↑v {s with heap:=h'}):
  ε (model prog w) A (pyNext (.ref I)) Q E s:=by
 have m:s.TypeIs (.ref I) "set_iterator":=#[_,d,Z]
 unfold pyNext;refine Ja (FW (wpAny_callSpecial?_slot (name:=Str.ofString "__next__") m slot_si_next (J5 slot_si_next m cD ?_ (c7 _))))
 unfold γ.«set_iterator.__next__»
 refine Ja (Jd (Ja (wpAny_fieldsOf d Z ?_)))
 dsimp only
 refine Ja ?_
 unfold setEntries;refine Ja (wpAny_setState_of ho hd hf (Jd ?_))
 dsimp only
 simp only[bne_self_eq_false,Bool.false_eq_true,JD];have keep:∀(k:Nat) (x:Γ),∀(h:Ψ),∀o,h.get? T=↑o->(h.update I (Obj.mapFields (·.setIfInBounds k x))).get? T=↑o:=λk x h o e=>by
  rw[FT _ _ (Ne.symm M)];exact e
 have c:∀(E':GP) (z:Nat),f= .int z 0->ε (model prog w) A.in1 (do
   match <- setNext a z i ep with
   |some (x,next)=>
    setField (.ref I) 0 (rawInt next)
    setField (.ref I) 1 (rawInt ((i:Int)+1))
    ret x
   |none=>setField (.ref I) 2 .none;raiseNew (<- newExc (.type "StopIteration") [])) (λc s'=>∃v,c= .done (.ret v)/\(ε (model prog w) A (pure ↑v) Q E s')) E' s:=by
  intro E' z H;subst H;refine Ja (nY ho hd hf W λr h1 l=>?_)
  rw[hv]at h1;cases r with
  |none=>cases h1
  |some p=>
   obtain⟨x,j⟩:=p;simp only[Option.map_some,Option.some.injEq]at h1;subst h1
   dsimp only
   refine Ja (Ff d Z (by simp) ?_)
   have g:=eW d Z 0 (rawInt (j:Int))
   refine Ja (Ff g Z (by simp) ?_)
   have G:=eW g Z 1 (rawInt ((i:Int)+1))
   refine Jd #[_,Z,Jd (B (.int j 0) _ ((J8 ..).trans (J8 ..)) ?_ ((l j Z).keep λo e=>keep _ _ _ _ (keep _ _ _ _ e)))]
   rw[G];simp [rawInt]
 rcases id W with⟨_,⟨z,rfl⟩,_⟩|⟨_,_,_,_,⟨z,rfl,_⟩,_⟩|⟨ps,rfl,⟨J,C,L,n,y⟩,q⟩
 ·exact c _ z Z
 ·exact c _ z Z
 ·dsimp only
  refine Ja (Gk C y ?_)
  dsimp only
  have h1:(vs.map some)[i]? =↑(↑v):=by rw[Jn,hv];rfl
  rw[q,Jn]at h1;obtain⟨p,K,l⟩:=JZ.mp h1;obtain⟨e,F,N⟩:=JZ.mp l;have D:((ps.map λp:Nat=>Γ.int (p:Int) 0).toArray)[((i:Nat):Int).toNat]? =↑(.int (p:Int) 0):=by
   rw[Fe,List.getElem?_toArray,Jn,K];rfl
  rw[D]
  dsimp only
  refine Ja ?_
  unfold setNextDrawn;refine Ja (wpAny_setState_of ho hd hf ?_)
  dsimp only
  rw[Fe,Fe,F];simp only[bne_self_eq_false,Bool.false_eq_true,JD];refine Jd (Ja (Ff d Z (by simp) ?_))
  have g:=eW d Z 1 (rawInt ((i:Int)+1))
  refine Jd #[_,Z,Jd ?_]
  rw[N];refine B (.ref T) _ (J8 ..) ?_ (.inr (.inr #[ps,Z,#[J,keep _ _ _ _ C,L,n,y],q]))
  rw[g];simp [rawInt]
theorem uO{B:Around}{s:Θ}{Q:Ν->Θ->Prop}(f:B.handled=none)(h:∀h',(∀b o,s.heap.get? b=↑o->h'.get? b=↑o)->Q none {s with heap:=h'}):
  ε (model prog w) B.in1 (newExc (.type "StopIteration") [] >>= raiseNew) (λ(d:Fin) s'=>∃v,d= .done (.ret v)/\ε (model prog w) B (pure ↑v) Q E s')
   (λe s'=>ε (model prog w) B (do
     let c <- isInstance e (Γ.type "StopIteration")
     if c=true then pure none else throw e) Q E s') s:=by
 refine Ja ?_
 simp only[newExc,newTuple];refine Ja (J3 ?_ (by size_fits))
 refine Ja (m:=firstArgMember _ _) (E8 (a:=Γ.none) (by first|rfl|(simp only[firstArgMember];rfl)) ?_)
 refine J3 ?_ (by size_fits)
 simp only[raiseNew];refine Ja (wpAny_handled ?_)
 rw[show B.in1.handled=none from f]
 refine Ja (Jd (wpAny_throw ?_))
 refine Ja (FI (T:="StopIteration") (b:=true) #[_,Jq _ Z,Z] isSubtype_stop ?_)
 exact Jd (h _ λb o e=>Jl _ (Jl _ e))
theorem Cw{I:Δ}{Q:Ν->Θ->Prop}(m:A.handled=none)(j:s.heap.get? I=↑(lM f i a es.size ep))(ho:s.heap.get? a=↑o)(hd:o.data= .set es ep t)(hf:t.fits es.size=true)
  (W:Way w a T es ep t vs i f s.heap)(hv:vs[i]? =none)
  (q:∀h',(∀b o,b≠I->s.heap.get? b=↑o->h'.get? b=↑o)->Q none {s with heap:=h'}):
  ε (model prog w) A (pyNext (.ref I)) Q E s:=by
 have l:s.TypeIs (.ref I) "set_iterator":=#[_,j,Z]
 unfold pyNext;refine Ja (FW (wpAny_callSpecial?_slot (name:=Str.ofString "__next__") l slot_si_next (J5 slot_si_next l cD ?_ (c7 _))))
 unfold γ.«set_iterator.__next__»
 refine Ja (Jd (Ja (wpAny_fieldsOf j Z ?_)))
 dsimp only
 refine Ja ?_
 unfold setEntries;refine Ja (wpAny_setState_of ho hd hf (Jd ?_))
 dsimp only
 simp only[bne_self_eq_false,Bool.false_eq_true,JD];have g:∀(k:Nat) (x:Γ) (h:Ψ) (b:Δ) (o:Obj),b≠I->h.get? b=↑o->(h.update I (Obj.mapFields (·.setIfInBounds k x))).get? b=↑o:=λk x h b o n e=>by
  rw[FT _ _ (Ne.symm n)];exact e
 have d:∀(z:Nat),f= .int z 0->ε (model prog w) A.in1 (do
   match <- setNext a z i ep with
   |some (x,next)=>
    setField (.ref I) 0 (rawInt next)
    setField (.ref I) 1 (rawInt ((i:Int)+1))
    ret x
   | none=>setField (.ref I) 2 .none;raiseNew (<- newExc (.type "StopIteration") [])) (λd s'=>∃v,d= .done (.ret v)/\(ε (model prog w) A (pure ↑v) Q E s')) (λe s'=>ε (model prog w) A (do
     let c <- isInstance e (Γ.type "StopIteration")
     if c=true then pure none else throw e) Q E s') s:=by
  intro z D;subst D;refine Ja (nY ho hd hf W λr h1 G=>?_)
  rw[hv]at h1;cases r with
  |some p=>cases h1
  |none=>
   dsimp only
   refine Ja (Ff j Z (by simp) ?_)
   exact uO m λh' hk=>q h' λb o n e=>hk b o (g _ _ _ _ _ n e)
 rcases id W with⟨_,⟨z,rfl⟩,_⟩|⟨_,_,_,_,⟨z,rfl,_⟩,_⟩|⟨ps,rfl,⟨H,y,J,n,F⟩,C⟩
 ·exact d z Z
 ·exact d z Z
 ·dsimp only
  refine Ja (Gk y F ?_)
  dsimp only
  have h1:(vs.map some)[i]? =none:=by rw[Jn,hv];rfl
  rw[C,Jn]at h1;have u:((ps.map λp:Nat=>Γ.int (p:Int) 0).toArray)[((i:Nat):Int).toNat]? =none:=by
   rw[Fe,List.getElem?_toArray,Jn];cases hp:ps[i]? with
   |none=>rfl
   |some p=>rw[hp]at h1;cases h1
  rw[u]
  dsimp only
  refine Ja (Ff j Z (by simp) ?_)
  have B:=eW j Z 0 (rawInt 0);refine Ja (Ff B Z (by simp) ?_)
  exact uO m λh' hk=>q h' λb o n e=>hk b o (g _ _ _ _ _ n (g _ _ _ _ _ n e))
theorem xr{I:Δ}(x:A.handled=none)(y:T≠I)(B:a≠I)(hl:vs.length=es.size):Walks prog w A I [I,a,T] [I] es.size (λi v=>vs[i]? =↑v)
  (λi h=>(∃o,h.get? a=↑o/\o.data= .set es ep t/\t.fits es.size=true)/\∃f,h.get? I=↑(lM f i a es.size ep)/\Way w a T es ep t vs i f h) where
 sub:=λb g=>by simp at g;simp [g]
 frame:=λi h h' ⟨⟨o,l,j⟩,f,d,m⟩ hk=>#[#[o,hk a (by simp) o l,j],f,hk I (by simp) _ d,m.keep λo e=>hk T (by simp) o e]
 item:=λi s Q E hi ⟨⟨o,l,j,c⟩,f,d,m⟩ n=>by
  have r:vs[i]? =some vs[i]:=Jg (by omega)
  refine Bc d l j c m y r λz h' q h1 u=>n _ h' s.toks r #[#[o,by rw[q.2 a B];exact l,j,c],z,h1,u] λb o g e=>?_
  rw[q.2 b (λh=>g (by simp [h]))];exact e
 done:=λs Q E ⟨⟨o,l,j,c⟩,f,d,m⟩ n=>Cw x d l j c m (GB (by omega)) λh' hk=>n h' s.toks λb o g e=>hk b o (λh=>g (by simp [h])) e
 self:=λi s Q E ⟨_,f,d,_⟩ n=>by
  have p:s.TypeIs (.ref I) "set_iterator":=#[_,d,Z]
  refine wpAny_pyIter_slot p eC (J5 eC p jT ?_ (kT _))
  show ε _ _ (ret (.ref I)) _ _ s
  exact Jd #[_,Z,"set_iterator",_,p,slot_si_next.lookup,n]
end
section
variable{prog:Ξ}{w:Ω}{A:Around}{E:GP}{s:Θ}
variable{a:Δ}{o:Obj}{es:Array (Int×Γ)}{ep:Nat}{t:SetTable}
theorem pZ{xs:Array Nat}(h:Rs xs):SetTable.below xs 0=0:=by
 obtain⟨h1,a,c⟩:=bU h 0;generalize SetTable.below xs 0=p at *
 cases p with
 |zero=>rfl
 |succ p=>exact absurd (a 0 (by lia) (by lia)) (Nat.not_lt_zero _)
theorem Rs.few{xs:Array Nat}(h:xs.size<=1):Rs xs:=by
 unfold Rs;rw[List.pairwise_iff_getElem];intro i j hi a c;simp at hi a
 lia
theorem rF{ps:Κ}(hp:ps.Perm (List.range es.size)):∃vs:Ζ,vs.map some=(ps.map λp=>es[p]?.map (·.2))/\vs.Perm (es.toList.map (·.2)):=by
 refine#[ps.map λp=>(es[p]?.map (·.2)).getD .none,?_,?_]
 ·rw[ET]
  refine FJ λp h=>?_
  have a:p<es.size:=J1.mp (hp.mem_iff.mp h)
  show ↑((es[p]?.map (·.2)).getD .none)=_
  rw[getElem?_pos es p a];rfl
 ·refine(hp.map _).trans (List.Perm.of_eq ?_)
  apply List.ext_getElem
  ·simp
  ·intro i h1 c
   simp at h1
   simp [h1]
theorem Cv{Q:GP}(ho:s.heap.get? a=↑o)(m:o.ExactSet)(hd:o.data= .set es ep t)(hf:t.fits es.size=true)(hb:es.size<scanBound)(F:TW w t)
  (r:∀(h':Ψ) (d:Drawn) (I T:Δ) (vs:Ζ) (f:Γ),s.heap.objs.size<=I->T≠I->a≠I->(T=a\/s.heap.objs.size<=T)->(∀b o,s.heap.get? b=↑o->h'.get? b=↑o)->vs.Perm (es.toList.map (·.2))->
   h'.get? I=↑(lM f 0 a es.size ep)->Way w a T es ep t vs 0 f h'->Q (.ref I) {s with heap:=h',drawn:=d}):
  ε (model prog w) A (pyIter (.ref a)) Q E s:=by
 have q:s.TypeIs (.ref a) "set":=#[o,ho,m.1]
 have h:a<s.heap.objs.size:=Jj ho
 refine wpAny_pyIter_slot q PySem.F.slot_set_iter (J5 PySem.F.slot_set_iter q ig ?_ (PySem.F.args_set_iter_1 _))
 unfold γ.«frozenset.__iter__»
 refine Ja ?_
 show ε _ _ (pure a) _ _ _
 refine Jd (Ja ?_)
 unfold γ.Frozenset.sizeOf setEntries;refine Ja (Ja (wpAny_setState_of ho hd hf (Jd (Jd ?_))))
 refine Ja ?_
 unfold setDrawn;refine Ja (wpAny_setState_of ho hd hf ?_)
 dsimp only
 refine Ja (Qx (Jd ?_))
 show ε _ _ (if(! zu w&&(! t.plain&&decide (es.size>1)))=true then _ else _) _ _ _
 by_cases g:(! zu w&&(! t.plain&&decide (es.size>1)))=true
 ·rw[Jc g]
  refine Ja (gQ _ _ (by simp) λps d j=>?_)
  obtain⟨vs,B,D⟩:=rF j;refine Ja (wpAny_newTuple (items:=ps.map λi:Nat=>rawInt (i:Int)) ?_ (by rw[Je,j.length_eq,List.length_range];exact fits_of_scanBound hb))
  have n:(s.heap.push {cls:= .type "tuple",data:= .seq (ps.map λi:Nat=>rawInt (i:Int)).toArray}).get? s.heap.objs.size=some {cls:= .type "tuple",data:= .seq (ps.map λi:Nat=>rawInt (i:Int)).toArray}:=Jq _ Z
  have p:=Jl {cls:= .type "tuple",data:= .seq (ps.map λi:Nat=>rawInt (i:Int)).toArray} ho
  unfold setEpoch;refine Ja (Ja (wpAny_setState_of (s:={s with heap:=s.heap.push {cls:= .type "tuple",data:= .seq (ps.map λi:Nat=>rawInt (i:Int)).toArray},drawn:=d}) p hd hf (Jd ?_)))
  unfold newFields;refine Ja (J3 (Jd #[_,Z,"set_iterator",_,#[_,Jq _ Z,Z],slot_si_next.lookup,?_]))
  refine r _ d _ s.heap.objs.size vs (.ref s.heap.objs.size) (by rw[JX];exact Fk _) (by rw[JX];exact Jk (E2 _)) (by rw[JX];exact Jk (EY h)) (.inr (Jf _))
   (λb o e=>Jl _ (Jl _ e)) D (Jq _ Z) (.inr (.inr #[ps,Z,?_,B]))
  exact#[_,Jl _ n,Z,0,Z]
 ·rw[Jb g]
  refine Ja (Jd ?_)
  unfold setEpoch;refine Ja (Ja (wpAny_setState_of ho hd hf (Jd ?_)))
  unfold newFields;refine Ja (J3 (Jd #[_,Z,"set_iterator",_,#[_,Jq _ Z,Z],slot_si_next.lookup,?_]))
  have u:∀vs:Ζ,vs.Perm (es.toList.map (·.2))->Way w a a es ep t vs 0 (.int (0:Nat) 0) (s.heap.push (lM (.int (0:Nat) 0) 0 a es.size ep))->Q (.ref s.heap.objs.size) {s with heap:=s.heap.push (lM (.int (0:Nat) 0) 0 a es.size ep)}:=λvs y v=>
   r _ s.drawn _ a vs (.int (0:Nat) 0) (Jf _) (Jk h) (Jk h) (.inl Z) (λb o e=>Jl _ e) y (Jq _ Z) v
  cases hbt:zu w with
  |true=>exact u _ ((jC _ es).map _) (.inl #[hbt,#[0,Z],Z])
  |false=>
   rw[hbt]at g;have c:(! t.plain&&decide (es.size>1))=false:=by simpa using g
   rcases F with z|⟨C,x⟩
   ·rw[hbt]at z;cases z
   ·have l:Rs t.place:=by
     cases j:t.plain with
     |true=>exact x j
     |false=>
      rw[j]at c;refine Rs.few ?_
      simp only[SetTable.fits,JC,JW]at hf;simp at c
      lia
    exact u _ (List.Perm.refl _) (.inr (.inl #[hbt,c,C,l,#[0,Z,pZ l],Z]))
theorem wU{Q:Bool->Θ->Prop}(d:s.TypeIs (.ref a) "set")(h:Q false s):ε (model prog w) A (γ.List.listLengthHint (.ref a)) Q E s:=by
 unfold γ.List.listLengthHint;refine Ja (FK d PySem.F.slot_set_len.lookup ?_)
 generalize hid:("set.__len__":String)=e
 wp_delta
 rw[show splitId e=↑("set","__len__")from by subst hid;decide +kernel]
 subst hid;refine Ja (FI (T:="set") (b:=true) d (by rw[FD];kernel_rfl) ?_)
 refine wpAny_ite_split (λc=>absurd c ⋯) (λ_=>?_)
 refine wpAny_ite_split (λ_=>?_) (λc=>absurd nofun c)
 exact Ja (FR d (Jd h))
theorem iW{Q:Ζ->Θ->Prop}(hh:A.handled=none)(ho:s.heap.get? a=↑o)(q:o.ExactSet)(hd:o.data= .set es ep t)(hf:t.fits es.size=true)(hb:es.size<scanBound)(tw:TW w t)
  (h:∀(vs:Ζ) (h':Ψ) (tk:Nat) (d:Drawn),(∀b o,s.heap.get? b=↑o->h'.get? b=↑o)->s.heap.objs.size<=h'.objs.size->vs.Perm (es.toList.map (·.2))->Q vs {s with heap:=h',toks:=tk,drawn:=d}):
  ε (model prog w) A (collect (.ref a)) Q E s:=by
 unfold collect;refine Ja (wpAny_runValue (Fo entry_proto_collect' ?_))
 show ε _ _ (do again (.builtin "list.__iadd__" #[[<- newList [],.ref a],[]])) _ _ s
 refine Ja (wpAny_newList (Jd #[Code.quiet_builtin _ nofun,Fo entry_list_iadd' ?_]))
 rw[Around.under_plainId PySem.F.plain_list_iadd _];have m:a<s.heap.objs.size:=Jj ho
 have N:(s.heap.push (seqObj "list" (List.toArray []) 0)).get? s.heap.objs.size=↑(seqObj "list" (List.toArray []) 0):=Jq _ Z
 have n:=Jl (seqObj "list" (List.toArray []) 0) ho
 show ε _ _ (γ.List.listExtendWith (.ref s.heap.objs.size) (.ref a) (.ref s.heap.objs.size)) _ _ {s with heap:=s.heap.push (seqObj "list" (List.toArray []) 0)}
 unfold γ.List.listExtendWith;have H:Θ.TypeIs {s with heap:=s.heap.push (seqObj "list" (List.toArray []) 0)} (.ref a) "set":=#[o,n,q.1]
 refine Ja (FR H ?_)
 have U:γ.List.listSameRef (.ref s.heap.objs.size) (.ref a)=false:=by
  simp [γ.List.listSameRef,EV m]
 have e2:(Γ.type "set"==Γ.type "list")=false:=by decide
 have e3:(Γ.type "set"==Γ.type "tuple")=false:=by decide
 simp only[U,e2,e3,Bool.or_false,Bool.false_eq_true,JD];refine Ja (Cv n q hd hf hb tw λh1 d I T vs f F Y X D G O b7 b8=>?_)
 have sz:(s.heap.push (seqObj "list" (List.toArray []) 0)).objs.size=s.heap.objs.size+1:=JX ..
 dsimp only at F D
 rw[sz]at F D;have M:Θ.TypeIs {s with heap:=h1,drawn:=d} (.ref a) "set":=#[o,G _ _ n,q.1]
 refine Ja (JI (wU M ?_))
 have r:=G _ _ N;have L:vs.length=es.size:=by rw[O.length_eq,Je,Jp]
 have W:=xr (prog:=prog) (w:=w) (A:=A.in1) (ep:=ep) (t:=t) (by simp [hh]) Y X L
 have nL:s.heap.objs.size∉[I,a,T]:=by
  simp only[Jm,JE,JF,not_or];refine#[by lia,EV m,?_]
  rcases D with z|z
  ·rw[z];exact EV m
  ·lia
 have y:∀(h:Ψ) (i:Nat),(∀b o,b≠s.heap.objs.size->h1.get? b=↑o->h.get? b=↑o)->h.get? s.heap.objs.size=some {cls:= .type "list",data:= .seq (List.toArray []) i}->
   ∀R:Result->Θ->Prop,(∀(g:Array Γ) (h':Ψ) (tk c':Nat),g.toList=vs->(∀b o,s.heap.get? b=↑o->h'.get? b=↑o)->h'.get? s.heap.objs.size=some {cls:= .type "list",dict:=none,data:= .seq g c',slots:= (List.toArray [])}->
    R (.ok (.ret (.ref s.heap.objs.size))) {s with heap:=h',toks:=tk,drawn:=d})->
   codeAny (model prog w) A (.builtin "list.extend.loop" #[[.ref s.heap.objs.size,.ref I,.ref s.heap.objs.size],[]]) R {s with heap:=h,drawn:=d}:=by
  intro h i hk p R hR;have nI:I≠s.heap.objs.size:=EV F
  refine codeAny_extend_loopS W.toS (fits_of_scanBound hb) s.heap.objs.size nL _ es.size 0 _ (List.toArray []) i (by lia) (Jy _) #[#[o,hk _ _ (Jk m) (G _ _ n),hd,hf],f,hk _ _ nI b7,b8.keep λo e=>hk _ _ ?_ e] p (ItemsOf.nil _) λs' c c' P K l=>?_
  ·rcases D with z|z
   ·rw[z];exact Jk m
   ·lia
  ·rw[Moved.eq_with P]
   refine hR c s'.heap s'.toks c' ?_ (λb o e=>P.heap b o (λC=>?_) (hk b o (Jk (Jj e)) (G _ _ (Jl _ e)))) K
   ·apply List.ext_getElem?
    intro j;rw[Array.getElem?_toList]
    by_cases hj:j<es.size
    ·have B:j<c.size:=by rw[l.1];exact hj
     have:=l.2 j c[j] (getElem?_pos c j B)
     rw[getElem?_pos c j B,this]
    ·rw[Array.getElem?_eq_none (by rw[l.1];lia),GB (by lia)]
   ·have x:=Jj e
    rcases Jm.mp C with z|z
    ·exact absurd z (Jk x)
    ·exact absurd (Jh.mp z) (Jk (Nat.lt_trans x F))
 have u:∀(g:Array Γ) (h':Ψ) (tk c':Nat),g.toList=vs->(∀b o,s.heap.get? b=↑o->h'.get? b=↑o)->h'.get? s.heap.objs.size=some {cls:= .type "list",dict:=none,data:= .seq g c',slots:= (List.toArray [])}->
   ε (model prog w) A (do
    let o <- load s.heap.objs.size
    match o.data with
    | .seq xs _=>pure xs.toList
    |_=>unsupported "internal:collect") Q E {s with heap:=h',toks:=tk,drawn:=d}:=by
  intro g h' tk c' c1 c2 S;refine Ja (wpAny_load S (Jd (h _ h' tk d c2 (F5 (Jj S)) ?_)))
  rw[c1];exact O
 refine wpAny_ite_split (λ_=>?_) (λ_=>Jd #[plainId_quiet PySem.F.plain_extend_loop _,y h1 0 (λ_ _ _ e=>e) r _ u])
 refine Ja (E7 (Ja ?_))
 show ε _ _ (updateSeq s.heap.objs.size (·.push .none) >>= λ_=>updateSeq s.heap.objs.size (·.pop)) _ _ _
 refine Ja (wpAny_updateSeq r Z ?_)
 have v:=FB (Obj.mapSeq (·.push Γ.none)) r Z
 refine wpAny_updateSeq (hz:=by seq_fits) v Z ?_
 have J:=FB (Obj.mapSeq (·.pop)) v Z
 refine Jd #[plainId_quiet PySem.F.plain_extend_loop _,y _ _ (λb o hb e=>?_) J _ u]
 exact(FT _ _ (Ne.symm hb)).trans ((FT _ _ (Ne.symm hb)).trans e)
end
end S0
namespace L3
open PySem PySem.Spec PyProof.Rows L2 S0
def au(prog:Ξ)(w:Ω)(a:Δ)(ks:Β):HO:= .ext λh=>SetK (PySem.intKind prog w) numOf h a ks
theorem uQ(prog:Ξ)(w:Ω):∀k v,(PySem.intKind prog w).is k v=true->numOf v=k:=λk v h=>by
 obtain⟨t,rfl⟩:=Γ.isInt_shape h;rfl
theorem _root_.L2.GX.drw{X:Cx}{Oa:GR}{σ:List Μ}{H:Hp}{s:Θ}(I:GX X Oa σ H s)(d:Drawn):GX X Oa σ H {s with drawn:=d}:=
 #[I.ok,I.os,I.bare,I.base,I.loc,I.cell,I.free,I.freeC,I.pin,I.hok,I.len]
section
variable{X:Cx}
theorem gr(hc:X.calm=true):zi X (.type "set") (λxs H Q=>∃(p:Δ) (ns:Β),xs=[.ref p]/\G0 X.K H p (ns.map V.int)/\ns.length+1<scanBound/\∀l,H l=none->Q (.ref l) (GW H l (au X.prog X.w l (ddL ns)))):=by
 intro Oa s σ H xs B Q I r h;obtain⟨p,ns,rfl,w,A,q⟩:=h;obtain⟨u,rfl,x⟩:=zM r;cases x;obtain⟨a,f,pt,_⟩:=I.list w;have g:=f.length;rw[Je]at g;have m:IntsAre a ns:=rc f
 refine uJ (knd:=PySem.intKind X.prog X.w) (kf:=numOf) (val:=λi=>ns.getD i default) (uQ _ _) (I.ok.hd hc) pt.isList (λi v d=>?_) (by rw[Jr];omega) λh' tk c y=>?_
 ·obtain⟨t,rfl⟩:=IntsAre.int_at m i v (by rw[List.getElem?_toArray]at d;exact d)
  exact#[intKind_is _ _ _ _,Z]
 ·have e:a.toArray.size=ns.length:=by rw[Jr];exact g.symm
  rw[e,tU]at c;refine#[.ref s.heap.objs.size,_,I.laid (t':=tk) (o:=au X.prog X.w s.heap.objs.size (ddL ns)) y (Jf _) #[c,?_,λh1 z n j=>n.at j],Z,q _ (I.hok.fresh (Jf _))]
  obtain⟨o,_,_,_,e,_⟩:=c
  exact#[o,e]
end
end L3
namespace S0
open PySem PySem.Spec PyProof.Rows
theorem sj(a:Δ):setWalk a=(do
 let(es,epoch,t) <- setState a
 if <- setsByText then return pickOrder ((<- ask).params.setOrder a epoch) es
 if ! t.plain&&es.size>1 then return (<- drawOrder es.size es.toList).toArray
 (do if ! t.led&&es.size>1 then unsupported "set:maker-not-led":Sem Unit)
 return es):=Z
section
variable{prog:Ξ}{w:Ω}{K:Type} [DecidableEq K]{knd:PySem.KeyKind prog w K}{kf:Γ->K}
variable{A:Around}{E:GP}{s:Θ}
theorem BF{Q:Bool->Θ->Prop}{bs:Η}(r:∀b∈bs,∃g,SetK knd kf s.heap b g)(h:Q true s):ε (model prog w) A (setsQuiet bs) Q E s:=by
 unfold setsQuiet;refine Ja (wpAny_forIn_list _ (λrest b s'=>b.1=none/\s'=s/\∀x∈rest,∃g,SetK knd kf s.heap x g) _ ?_ ?_ bs _ #[Z,Z,r])
 ·rintro x rest b s' ⟨p,rfl,q⟩
  obtain⟨g,o,es,ep,t,u,B,z,C,_,j,_,_⟩:=q x JB;unfold setEntries;refine Ja (Ja (wpAny_setState_of u z C (Jd ?_)))
  refine Ja (PySem.MeetsSeq2.wpAny_forIn_array _ (λa l i=>l.1=none/\i=s'/\∀e∈a,e.2.scannable=true) _ ?_ ?_ es _ #[Z,Z,λe m=>(j e m).2])
  ·rintro⟨h1,y⟩ F l i ⟨c,rfl,f⟩
   have n:=f _ JB;have d:∀e∈F,e.2.scannable=true:=λe m=>f e (JM _ m)
   cases y<;>first|(cases n;done)|exact Jd #[Z,Z,d]
  ·rintro⟨v,D⟩ i ⟨c,rfl,_⟩
   simp only at c
   subst c;exact Jd #[Z,Z,λy n=>q y (JM _ n)]
 ·rintro⟨G,l⟩ s' ⟨p,rfl,_⟩
  simp only at p
  subst p;exact Jd h
theorem ZD{a:Δ}{Q:Bool->Θ->Prop}(c:s.TypeIs (.ref a) "set")(h:Q true s):ε (model prog w) A (γ.Frozenset.isAnySet (.ref a)) Q E s:=by
 unfold γ.Frozenset.isAnySet;refine Ja (FI c sub_set_self ?_)
 exact Jd h
theorem SetK.type{h:Ψ}{a:Δ}{ks:List K}{s:Θ}(x:SetK knd kf s.heap a ks):s.TypeIs (.ref a) "set":=by
 obtain⟨o,es,ep,t,h1,c,_⟩:=x
 exact#[o,h1,c.1]
theorem mR{K:Type} [DecidableEq K]:∀(l a:List K),a.Nodup->(l.foldl Q2 a).Nodup
 | [],a,h=>h
 |k::l,a,h=>by
  refine mR l _ ?_
  unfold Q2;split
  ·exact h
  ·rw[Fv]
   exact#[h,by simp,λx d y c=>by rw[Jh.mp c];rintro rfl;contradiction]
theorem vh{K:Type} [DecidableEq K]:∀(l a:List K) (k:K),k∈l.foldl Q2 a↔k∈a\/k∈l
 | [],a,k=>by simp
 |x::l,a,k=>by
  rw[List.foldl_cons,vh l _ k];unfold Q2;split
  ·rename_i c
   constructor
   ·rintro(h|h)
    ·exact .inl h
    ·exact .inr (JM _ h)
   ·rintro(h|h)
    ·exact .inl h
    ·rcases Jm.mp h with rfl|h
     ·exact .inl c
     ·exact .inr h
  ·rw[JL,Jh,Jm]
   constructor
   ·rintro((h|h)|h)
    ·exact .inl h
    ·exact .inr (.inl h)
    ·exact .inr (.inr h)
   ·rintro(h|h|h)
    ·exact .inl (.inl h)
    ·exact .inl (.inr h)
    ·exact .inr h
theorem vG{K:Type} [DecidableEq K]:∀(l a:List K),(l.foldl Q2 a).length<=a.length+l.length
 | [],a=>by simp
 |x::l,a=>by
  have:=vG l (Q2 a x)
  rw[List.foldl_cons,JN];have c:(Q2 a x).length<=a.length+1:=by
   unfold Q2;split
   ·lia
   ·rw[Jv,Fd];lia
  lia
theorem kZ{Q:GP}(h:Q (.ref s.heap.objs.size) {s with heap:=s.heap.push (zU (! zu w))}):ε (model prog w) A (newSet (.type "set")) Q E s:=by
 unfold newSet;obtain⟨a,g,d,tk,c⟩:=s
 wp_walk
 refine wpAny_askSetting (Jd ?_)
 dsimp only
 simp only[newObj];exact Ja (wpAny_alloc (Jd h))
end
end S0
namespace L3
open PySem PySem.Spec PyProof.Rows L2 S0
def bQ:Γ->Str
 | .str x _=>x
 |_=>Str.empty
def aE(prog:Ξ)(w:Ω)(a:Δ)(ks:Α):HO:= .ext λh=>SetK (PySem.strKind prog w) bQ h a ks
theorem vj(prog:Ξ)(w:Ω):∀k v,(PySem.strKind prog w).is k v=true->bQ v=k:=λk v h=>by
 obtain⟨t,rfl⟩:=Γ.isStrOf_shape h;rfl
section
variable{prog:Ξ}{w:Ω}{A:Around}{E:GP}{s:Θ}
theorem uI{a:Δ}{ks:Α}{Q:GP}(hh:A.handled=none)(M:SetK (PySem.strKind prog w) bQ s.heap a ks)(a0:ks.length<64)
  (h:∀(h':Ψ) (tk:Nat) (d:Drawn) (l:Δ) (its:Ζ) (n:Nat) (G:Α),s.heap.objs.size<=l->(∀b o,s.heap.get? b=↑o->h'.get? b=↑o)->h'.get? l=↑(seqObj "list" its.toArray n)->
   StrsAre its G->G.Perm ks->sortedS G=true->Q (.ref l) {s with heap:=h',toks:=tk,drawn:=d}):
  ε (model prog w) A (call (.builtin "sorted") [.ref a]) Q E s:=by
 obtain⟨o,es,ep,t,P,z,S,Y,J,u,F,y⟩:=M;refine Calls.call_function_entry kind_sorted plain_sorted entry_sorted (args_sorted1 _) ?_
 unfold γ.«sorted»
 refine Ja (m:=checkCount "sorted" 1 1 _) (Jd ?_)
 refine Ja (iW hh P z S Y J y λvs h' tk d hk X B=>?_)
 have C:StrsAre vs (vs.map bQ):=by
  refine im (by rw[Je]) λj v e=>?_
  obtain⟨N,U,rfl⟩:=Jt.mp (B.mem_iff.mp (JP e))
  obtain⟨⟨k,h1,_⟩,_⟩:=u N U;obtain⟨O,H⟩:=Γ.isStrOf_shape h1;refine#[k,O,by rw[Jn,e,H];rfl,H]
 have p:(vs.map bQ).Perm ks:=by
  refine(B.map bQ).trans ?_
  rw[ET];exact F
 have x:vs.length<=ζ:=by
  rw[B.length_eq,Je,Jp];exact fits_of_scanBound J
 have i:vs.length<64:=by
  have:=p.length_eq
  rw[Je]at this;lia
 refine Ja (wpAny_newList ?_ x)
 have c:(h'.push (seqObj "list" vs.toArray 0)).get? h'.objs.size=↑(seqObj "list" vs.toArray 0):=Jq _ Z
 show ε _ _ _ _ _ {s with heap:=h'.push (seqObj "list" vs.toArray 0),toks:=tk,drawn:=d}
 refine Ja (JI (J5 slot_list_sort #[_,c,Z] entry_list_sort (list_sort_treeK (κ:=PyProof.Rows.strKind) strKind_oneLt c C.keysOf (λK I rest e=>keyKind_strs (by rw[<- e];exact C)) i λf a1 a2=>#[_,Z,?_]) (args_list_sort _)))
 obtain⟨r,W,T,R⟩:=sorted_out_str C a1 a2;obtain⟨D,q⟩:∃D,(sortedHeap (h'.push (seqObj "list" vs.toArray 0)) h'.objs.size vs ((arrOf f).map (·.2))).get? h'.objs.size=↑(seqObj "list" ((arrOf f).map (·.2)) D):=sortedHeap_at c
 refine Jd #[_,Z,h _ tk d h'.objs.size ((arrOf f).map (·.2)).toList D r X (λb o e=>?_) (by rw[q]) W (T.trans p) R]
 have L:=hk b o e;have g:b<h'.objs.size:=Jj L
 rw[sortedHeap_old (Jk g) (by rw[JX];exact EY g)]
 exact Jl _ L
end
theorem kG:∀{us:Ζ} {a:Α},StrsAre us a->∀(i:Nat) (v:Γ),us[i]? =↑v->∃t,v= .str (a.getD i default) t
 |_,_,.nil,i,v,e=>by simp at e
 |_,_,.cons x t r,0,v,e=>by
  simp at e;subst e;exact#[t,Z]
 |_,_,.cons x t r,i+1,v,e=>by
  have c:=kG r i v (by simpa using e)
  simpa [Jz]using c
section
variable{X:Cx}
theorem gB(hc:X.calm=true):zi X (.type "set") (λxs H Q=>∃(p:Δ) (a:Α),xs=[.ref p]/\G0 X.K H p (a.map V.str)/\a.length+1<scanBound/\∀l,H l=none->Q (.ref l) (GW H l (aE X.prog X.w l (ddL a)))):=by
 intro Oa s σ H xs C Q I r h;obtain⟨p,a,rfl,x,B,q⟩:=h;obtain⟨u,rfl,y⟩:=zM r;cases y;obtain⟨c,m,pt,_⟩:=I.list x;have g:=m.length;rw[Je]at g;refine uJ (knd:=PySem.strKind X.prog X.w) (kf:=bQ) (val:=λi=>a.getD i default) (vj _ _) (I.ok.hd hc) pt.isList (λi v j=>?_) (by rw[Jr];lia) λh' tk f z=>?_
 ·have d:c[i]? =↑v:=by rw[List.getElem?_toArray]at j;exact j
  have hi:i<a.length:=by rw[g];exact(Js.mp d).1
  obtain⟨t,rfl⟩:=kG (oW m) i v d
  exact#[strKind_is _ _ _ _,Z]
 ·have e:c.toArray.size=a.length:=by rw[Jr];exact g.symm
  rw[e,tU]at f;refine#[.ref s.heap.objs.size,_,I.laid (t':=tk) (o:=aE X.prog X.w s.heap.objs.size (ddL a)) z (Jf _) #[f,?_,λh1 A w n=>w.at n],Z,q _ (I.hok.fresh (Jf _))]
  obtain⟨o,_,_,_,e,_⟩:=f
  exact#[o,e]
theorem jJ(hc:X.calm=true):zi X (.builtin "sorted") (λxs H Q=>∃(p:Δ) (ks:Α),xs=[.ref p]/\H p=↑(aE X.prog X.w p ks)/\ks.length<64/\
  ∀l (c:Α),H l=none->c.Perm ks->sortedS c=true->Q (.ref l) (GW H l (.lst (c.map V.str)))):=by
 intro Oa s σ H xs y Q I r h;obtain⟨p,ks,rfl,w,f,q⟩:=h;obtain⟨u,rfl,x⟩:=zM r;cases x;obtain⟨j,_⟩:=I.hok p _ w;refine uI (I.ok.hd hc) j f λh' tk d l e n c i hk m t g v=>?_
 refine#[.ref l,_,(I.laid (a:=l) (o:= .lst (c.map V.str)) (t':=tk) hk i ?_).drw d,Z,q l c (I.hok.fresh i) g v]
 refine#[?_,e,n,c8 t,m]
 have:=g.length_eq
 rw[Je,Ju];lia
end
theorem aQ{K:Type} [DecidableEq K](l:List K):(ddL l).Nodup:=mR l [] Gb
theorem Zh{K:Type} [DecidableEq K](l:List K)(k:K):k∈ddL l↔k∈l:=by unfold ddL;rw[vh];simp
theorem eZ{K:Type} [DecidableEq K](l:List K):(ddL l).length<=l.length:=by have:=vG l ([]:List K);simpa [ddL]using this
end L3
namespace L3
open PySem PySem.Spec PyProof.Rows L2
def CD(k:Nat)(js:Κ)(g:TG)(n:TI)(y:TG)(te:TE)(σ:L2.St)(Q:VK)(J:It)(H1:Hp):Prop:=∃W:Nat->Nat->Ε->L2.St->Hp->Prop,(∃m,W 0 m [] (σ0 k js σ) H1)/\∀i m ys q H,W i m ys q H->
 (J.stop i H/\∀p,H p=none->Q (.ref p) (GW H p (.lst ys)))\/(J.go i H/\∀x H',J.yld i H x H'->g x q H' λc A=>n c A λl w=>∃o:Nat->Nat->Ε->L2.St->Hp->Prop,(∃j,o 0 j ys c w)/\∀e j zs a d,o e j zs a d->
  (l.stop e d/\∃t,t<m/\W (i+1) t zs a d)\/(l.go e d/\zs.length<ζ/\∀s u,l.yld e d s u->y s a u λh z=>∃N:V->Hp->Prop,(∀v r,N v r->∃f,f<j/\o (e+1) f (zs++[v]) h r)/\te h z N))
def uc(k:Nat)(js:Κ)(d:TI)(g:TG)(a:TI)(c:TG)(te:TE):TE:=λσ H Q=>d σ H (CD k js g a c te σ Q)
section
variable{prog:Ξ}{w:Ω}{A:Around}{R:Result->Θ->Prop}{s:Θ}
theorem lD(f tg e h a:Φ)(d:Scope)(pos:Pos)(it g:Γ)(c:Env):
  compTurn (.ListComp f [#[tg,e,[],0],#[h,a,[],0]] d pos) 0 it g c=(standAt e.pos >>= λ_=>pyNext it >>= λr=>match r with
   |none=>pure (.done .next)
   |some v=>letOwnedTupleGo tg it v >>= λ_=>assign tg c v >>= λ_=>
    eval a c >>= λx=>standAt a.pos >>= λ_=>foldedSetIterable a c x >>= λx=>holding [x] (pyIter x) >>= λi=>runOwn (.compStart (.ListComp f [#[tg,e,[],0],#[h,a,[],0]] d pos) 1 i g c) c >>= λ_=>
     again (.compLoop (.ListComp f [#[tg,e,[],0],#[h,a,[],0]] d pos) 0 it g c)):=by rfl
theorem nq(g tg f e a:Φ)(c:Scope)(pos:Pos)(it h:Γ)(d:Env):
  compTurn (.ListComp g [#[tg,f,[],0],#[e,a,[],0]] c pos) 1 it h d=(standAt a.pos >>= λ_=>pyNext it >>= λr=>match r with
   |none=>pure (.done .next)
   |some v=>letOwnedTupleGo e it v >>= λ_=>assign e d v >>= λ_=>
    (eval g d >>= λx=>call (.builtin "list.append") [h,x] >>= λ_=>pure ()) >>= λ_=>
     again (.compLoop (.ListComp g [#[tg,f,[],0],#[e,a,[],0]] c pos) 1 it h d)):=by rfl
theorem nB{u tg p g c:Φ}{e:Scope}{pos:Pos}{it t:Γ}{d:Env}(I:Nat->Θ->Prop)
  (z:∀n s,I n s->ε (model prog w) A (pyNext it) (λr f=>match r with
   |none=>R (.ok .next) f
   | some v=>ε (model prog w) A (letOwnedTupleGo g it v) (λ_ a=>ε (model prog w) A (assign g d v) (λ_ i=>ε (model prog w) A (eval u d) (λx o=>
     ε (model prog w) A (call (.builtin "list.append") [t,x]) (λ_ j=>∃m,m<n/\I m j) (λ_ _=>False) o)
     (λ_ _=>False) i) (λ_ _=>False) a) (λ_ _=>False) f) (λ_ _=>False) s)
  (n:Nat)(h:I n s):
  codeAny (model prog w) A (.compLoop (.ListComp u [#[tg,p,[],0],#[g,c,[],0]] e pos) 1 it t d) R s:=by
 refine codeAny_loop Z I (λn s D=>?_) n h
 show ε _ _ ((compTurn (.ListComp u [#[tg,p,[],0],#[g,c,[],0]] e pos) 1 it t d).onRaise (λx=>do noteFrame x d;theTreesLotGoes x)) _ _ s
 refine wpAny_noted ?_
 rw[nq];refine Ja (E1 (Ja (Jw (z n s D) (λr f l=>?_) λ_ _ h'=>h'.elim)))
 cases r with
 |none=>exact Jd l
 |some v=>
  refine Ja (Jw l (λ_ a q=>?_) λ_ _ h'=>h'.elim)
  exact Ja (Jw q (λ_ i C=>Ja (Ja (Jw C (λx o y=>Ja (Jw y
   (λ_ j B=>Jd (Jd #[Z,B])) λ_ _ h'=>h'.elim)) λ_ _ h'=>h'.elim))) λ_ _ h'=>h'.elim)
theorem kP{B tg i z a:Φ}{d:Scope}{pos:Pos}{it y:Γ}{c:Env}(hs2:∀x,foldedSetIterable a c x=pure x)(I:Nat->Θ->Prop)
  (D:∀n s,I n s->ε (model prog w) A (pyNext it) (λr g=>match r with
   |none=>R (.ok .next) g
   | some v=>ε (model prog w) A (letOwnedTupleGo tg it v) (λ_ e=>ε (model prog w) A (assign tg c v) (λ_ j=>ε (model prog w) A (eval a c) (λx q=>
     ε (model prog w) A (pyIter x) (λG o=>codeAny (model prog w) A (.compStart (.ListComp B [#[tg,i,[],0],#[z,a,[],0]] d pos) 1 G y c) (λr t=>match r with| .ok _=>∃m,m<n/\I m t| .error _=>False) o) (λ_ _=>False) q)
     (λ_ _=>False) j) (λ_ _=>False) e) (λ_ _=>False) g) (λ_ _=>False) s)
  (n:Nat)(h:I n s):
  codeAny (model prog w) A (.compLoop (.ListComp B [#[tg,i,[],0],#[z,a,[],0]] d pos) 0 it y c) R s:=by
 refine codeAny_loop Z I (λn s H=>?_) n h
 show ε _ _ ((compTurn (.ListComp B [#[tg,i,[],0],#[z,a,[],0]] d pos) 0 it y c).onRaise (λx=>do noteFrame x c;theTreesLotGoes x)) _ _ s
 refine wpAny_noted ?_
 rw[lD];refine Ja (E1 (Ja (Jw (D n s H) (λr g p=>?_) λ_ _ h'=>h'.elim)))
 cases r with
 |none=>exact Jd p
 |some v=>
  refine Ja (Jw p (λ_ e u=>?_) λ_ _ h'=>h'.elim)
  refine Ja (Jw u (λ_ j F=>Ja (Jw F (λx q C=>?_) λ_ _ h'=>h'.elim)) λ_ _ h'=>h'.elim)
  refine Ja (E1 (Ja ?_))
  rw[hs2];refine Jd (Ja (JI (Jw C (λG o E=>?_) λ_ _ h'=>h'.elim)))
  refine Ja (wpAny_runOwn (FE E λr t l=>?_))
  cases r with
  |ok f=>exact Jd #[Z,l]
  |error x=>exact l.elim
theorem kE{elt tg iter tg2 iter2 scope pos it acc env}
  (c:codeAny (model prog w) A (.compLoop (.ListComp elt [#[tg,iter,[],0],#[tg2,iter2,[],0]] scope pos) 1 it acc env) R s)
  (h:ε (model prog w) A (pyIter it) (λa s'=>codeAny (model prog w) A (.compLoop (.ListComp elt [#[tg,iter,[],0],#[tg2,iter2,[],0]] scope pos) 1 a acc env) R s')
   (notedBy (model prog w) A env λx s'=>R (.error x) s') s):
  codeAny (model prog w) A (.compStart (.ListComp elt [#[tg,iter,[],0],#[tg2,iter2,[],0]] scope pos) 1 it acc env) R s:=by
 refine codeAny_of_tree ?_
 show ε _ _ ((compStart (.ListComp elt [#[tg,iter,[],0],#[tg2,iter2,[],0]] scope pos) 1 it acc env).onRaise (λx=>do noteFrame x env;standAt theWindowsPlace)) _ _ s
 refine wpAny_notedAt ?_
 unfold compStart
 show ε _ _ (ask >>= _) _ _ s
 refine Ja (wpAny_askSetting (wpAny_ite ?_))
 split
 ·first
   |exact Ja (Jd (Jd (And.intro rfl c)))
   |exact Jd (And.intro rfl c)
 ·first
   |exact Ja (E7 (Ja (E1 (Ja (Jw h (λa s' h'=>Jd (And.intro rfl h')) λ_ _ x=>x)))))
   |(refine Ja (E7 ?_);show ε _ _ (standAt iter2.pos >>= _) _ _ s;exact Ja (E1 (Ja (Jw h (λa s' h'=>Jd (And.intro rfl h')) λ_ _ x=>x))))
end
variable{X:Cx}
theorem tm{a3 tg A O t:Φ}{a:Scope}{cl:List (Str×Δ)}{pos e3:Pos}{fr own:Α}{js:Κ}{wi e7:TI}{g g2:TG}{te:TE}{use:Option (Γ->Sem Unit)}{Post:GP}
  {Oa:GR}{s:Θ}{σ:L2.St}{H:Hp}{Q:VK}
  (hc:X.calm=true)(hi:PI X tg A wi)(b5:closureFor a X.env=pure cl)(f5:∀y c,cl.lookup y=↑c->X.env.cells.lookup y=↑c)(h4:cl.map (·.1)=fr)
  (S:HP X a fr js)
  (hg:∀C s H fp,PG (zb X (own++fr) a cl C s H fp) tg g)(f1:∀C s H fp,PI (zb X (own++fr) a cl C s H fp) O t e7)(g5:∀C s H fp,PG (zb X (own++fr) a cl C s H fp) O g2)(he:∀C s H fp,PE (zb X (own++fr) a cl C s H fp) a3 te)
  (hs:∀x,foldedSetIterable A X.env x=pure x)(hs2:∀C x,foldedSetIterable t (compEnvC a cl C X.env) x=pure x)
  (I:L2.GX X Oa σ H s)(h:uc own.length js wi g e7 g2 te σ H Q)
  (e4:∀(d3 C:Δ) (s5:Θ) (H':Hp) (m:GQ),L2.GX X Oa σ H' s5->s5.heap.Ns C m->Mm X Oa H' C->Q (.ref d3) H'->compPost (model X.prog X.w) X.A X.xe use Post (.ref d3) C (.ok .next) s5):
  ε (model X.prog X.w) X.A (comprehension (.ListComp a3 [⟨tg,A,[],0⟩,⟨O,t,[],0⟩] a pos) a X.env e3 (newList []) false (eval A X.env) use) Post X.xe s:=by
 refine wpAny_comprehension_free (use:=use) Z hs b5 S.kind S.names (qz (hi Oa s σ H _ I h) λv s1 h1=>qz h1 λj3 f h2=>?_)
 obtain⟨it,fp,tn,J,H2,e,I2,T,d9,f2,W,⟨m0,w0⟩,e1⟩:=h2;subst e;refine J3 (wpAny_newFunctionEnv S.nocell (by intro y hy;simp at hy) (λP D q=>?_) S.kind)
 dsimp only at D q⊢
 generalize hH2:f.heap.push {cls:= .type "list",dict:=none,data:= .seq ([]:Ζ).toArray}=G at D q⊢
 have hC:G.objs.size=f.heap.objs.size+1:=by rw[<- hH2,JX]
 have a0:f.heap.objs.size≠G.objs.size:=by rw[hC];exact Jk (E2 _)
 have a1:∀b,b<f.heap.objs.size->b≠G.objs.size/\b≠f.heap.objs.size:=λb d=>#[by rw[hC];exact Jk (EY d),Jk d]
 have e5:∀b o,f.heap.get? b=↑o->P.get? b=↑o:=λb o e=>q.extBut b o (a1 b (Jj e)).1 (Jl _ (hH2▸Jl _ e))
 have a8:P.get? f.heap.objs.size=some {cls:= .type "list",data:= .seq ([]:Ζ).toArray 0}:=q.extBut _ _ a0 (Jl _ (hH2▸Jq _ Z))
 let Y:Cx:=zb X (own++fr) a cl G.objs.size f H2 fp
 obtain⟨d4,IY,K,U,b3⟩:=ga (own:=own) (js:=js) f5 h4 S I2 T d9 f2 hC e5 D
 have a5:∀F:Θ,GX Y [] (σ0 own.length js σ) H2 F->tn 0 F.heap->F.heap.get? f.heap.objs.size=some {cls:= .type "list",data:= .seq ([]:Ζ).toArray 0}->
   codeAny (model X.prog X.w) X.A (.compLoop (.ListComp a3 [#[tg,A,[],0],#[O,t,[],0]] a pos) 0 (.ref it) (.ref f.heap.objs.size) (compEnvC a cl G.objs.size X.env))
    (compPost (model X.prog X.w) X.A X.xe use Post (.ref f.heap.objs.size) G.objs.size) F:=by
  intro F I3 g6 g0;refine kP (hs2 _) (λn s'=>∃i ys τ H' l k,GX Y [(f.heap.objs.size,{cls:= .type "list",data:= .seq l.toArray k})] τ H' s'/\tn i s'.heap/\(∀b∈fp,H' b=none)/\GZ ys l/\ys.length<=ζ/\W i n ys τ H') ?_ m0 ?_
  ·rintro n s4 ⟨i,ys,τ,H4,l,k,I4,d2,d8,vl,hz,w4⟩
   have j2:=I4.pin (f.heap.objs.size,{cls:= .type "list",data:= .seq l.toArray k}) (by simp [Y,zb])
   rcases e1 i n ys τ H4 w4 with⟨d7,qn⟩|⟨go,step⟩
   ·refine qz (T.done Y Z Z Z hc i _ s4 τ H4 _ I4 (b3 d8 (by simp)) d2 d7) λr s5 E=>?_
    obtain⟨hr,I5⟩:=E;subst hr
    show compPost _ _ _ _ _ _ _ _ _
    obtain⟨m5,f3,_⟩:=I5.loc;have a7:=I5.pin (f.heap.objs.size,{cls:= .type "list",data:= .seq l.toArray k}) (by simp [Y,zb])
    have b2:H4 f.heap.objs.size=none:=a7.2.1
    have B:=I5.base;have nC:H4 G.objs.size=none:=I5.free
    obtain⟨z1,z2⟩:=b9 (ob:= .lst ys) I2 f2 hC I5 b2 #[hz,l,k,vl,a7.1]
    exact e4 f.heap.objs.size G.objs.size s5 (GW H4 f.heap.objs.size (.lst ys)) m5 z1 f3 z2 (qn _ b2)
   ·refine qz (T.item Y Z Z Z hc i _ s4 τ H4 _ I4 (b3 d8 (by simp)) d2 go) λr s5 E=>?_
    obtain⟨u,hr,h5⟩:=E;subst hr;refine qz h5 λ_ s6 E=>?_
    obtain⟨x,H6,I6,r6,y6,b8,g3⟩:=E;have g8:=I6.pinned (b3 g3 (by simp)) (T.obj _ _ b8)
    refine qz (hg _ _ _ _ _ s6 τ H6 x u _ g8 r6 (step x H6 y6)) λ_ s7 E=>?_
    obtain⟨e2,H7,I7,q7⟩:=E;refine qz (f1 _ _ _ _ _ s7 e2 H7 _ I7 q7) λv7 s8 h8=>qz h8 λj1 s9 h9=>?_
    obtain⟨g7,a2,f4,J2,H9,e9,I9,T2,e6,f9,W2,⟨m2,w2⟩,b4⟩:=h9;subst e9;have b6:∀{H':Hp} {w:Ζ} {k':Nat},(∀b∈a2,H' b=none)->∀b∈a2,Qq Y ((f.heap.objs.size,{cls:= .type "list",data:= .seq w.toArray k'})::ZQ fp s6.heap) H' b:=λ{H' w k'} hn b d=>
     #[hn b d,(f9 b d).2.1,(f9 b d).2.2.1,(f9 b d).2.2.2.1,(f9 b d).2.2.2.2.1,λp hp=>by
      have h0:p∈(f.heap.objs.size,{cls:= .type "list",data:= .seq w.toArray k'})::ZQ fp s6.heap:=by simpa [Y,zb]using hp
      rcases Jm.mp h0 with z|z
      ·rw[z]
       exact(f9 b d).2.2.2.2.2 (f.heap.objs.size,{cls:= .type "list",data:= .seq l.toArray k}) (by simp [zb])
      ·exact(f9 b d).2.2.2.2.2 p (by simp [zb,z])]
    have L2:codeAny (model X.prog X.w) X.A (.compLoop (.ListComp a3 [#[tg,A,[],0],#[O,t,[],0]] a pos) 1 (.ref g7) (.ref f.heap.objs.size) (compEnvC a cl G.objs.size X.env)) (λr a6=>match r with
      | .ok _=>∃m,m<n/\∃i ys τ H' l k,GX Y [(f.heap.objs.size,{cls:= .type "list",data:= .seq l.toArray k})] τ H' a6/\tn i a6.heap/\(∀b∈fp,H' b=none)/\GZ ys l/\ys.length<=ζ/\W i m ys τ H'
      | .error _=>False) s9:=by
     refine nB (λn2 s'=>∃(i2:Nat) (zs:Ε) (d5:L2.St) (H':Hp) (w:Ζ) (k':Nat),GX Y ((f.heap.objs.size,{cls:= .type "list",data:= .seq w.toArray k'})::ZQ fp s6.heap) d5 H' s'/\f4 i2 s'.heap/\(∀b∈a2,H' b=none)/\GZ zs w/\zs.length<=ζ/\W2 i2 n2 zs d5 H') ?_ m2 #[0,ys,e2,H9,l,k,I9,e6,λb d=>(f9 b d).1,vl,hz,w2]
     rintro n2 sA ⟨i2,zs,R,HA,j,kA,IA,d6,e8,c3,g9,wA⟩
     have h7:=IA.pin (f.heap.objs.size,{cls:= .type "list",data:= .seq j.toArray kA}) (by simp [Y,zb])
     rcases b4 i2 n2 zs R HA wA with⟨c2,m',f0,w'⟩|⟨g1,i1,d0⟩
     ·refine qz (T2.done Y Z Z Z hc i2 _ sA R HA _ IA (b6 e8) d6 c2) λr sB E=>?_
      obtain⟨c0,IB⟩:=E;subst c0;have b1:=IB.pin (f.heap.objs.size,{cls:= .type "list",data:= .seq j.toArray kA}) (by simp [Y,zb])
      have L:∀b∈fp,∀o,s6.heap.get? b=↑o->sB.heap.get? b=↑o/\HA b=none:=λb d o e=>by
       have:=IB.pin (b,o) (JV _ (JM _ (Qk d e)))
       exact#[this.1,this.2.1]
      refine#[m',f0,i+1,zs,R,HA,j,kA,IB.pins_of ?_,T.keep _ _ _ b8 λb d o e=>(L b d o e).1,λb d=>?_,c3,g9,w']
      ·intro p hp
       rw[Jh.mp hp]
       exact#[b1.1,b1.2.1,a0,K,λv z=>by cases z]
      ·obtain⟨o,e,_⟩:=T.obj _ _ b8 b d
       exact(L b d o e).2
     ·refine qz (T2.item Y Z Z Z hc i2 _ sA R HA _ IA (b6 e8) d6 g1) λr sB E=>?_
      obtain⟨u2,c0,hB⟩:=E;subst c0;refine qz hB λ_ sC E=>?_
      obtain⟨x2,HC,IC,rC,yC,d1,g4⟩:=E;have h3:=IC.pinned (b6 g4) (T2.obj _ _ d1);refine qz (g5 _ _ _ _ _ sC R HC x2 u2 _ h3 rC (d0 x2 HC yC)) λ_ sD E=>?_
      obtain⟨c1,HD,ID,N,hN,qD⟩:=E;refine qz (he _ _ _ _ _ sD c1 HD _ ID qD) λv' sE E=>?_
      obtain⟨y,HE,IE,rE,nE⟩:=E;obtain⟨h6,e0,wE⟩:=hN _ _ nE;have M:=IE.pin (f.heap.objs.size,{cls:= .type "list",data:= .seq j.toArray kA}) (by simp [zb])
      have L:∀p∈ZQ fp s6.heap,sE.heap.get? p.1=↑p.2/\HE p.1=none/\p.1≠Y.env.locals/\p.1∉Y.fs/\∀v,p.2.data≠ .cell v:=λp hp=>
       IE.pin p (JV _ (FN _ (JM _ hp)))
      have b0:∀b∈a2,∀o,sC.heap.get? b=↑o->sE.heap.get? b=↑o/\HE b=none:=λb d o e=>by
       have:=IE.pin (b,o) (JV _ (JV _ (Qk d e)))
       exact#[this.1,this.2.1]
      refine wpAny_list_append_plain (items:=j.toArray) #[kA,M.1] (λh' a4 b7=>?_) (by have:=c3.length;simp;lia)
      obtain⟨k',a4⟩:=a4;have IF:GX Y [] c1 HE {sE with heap:=h'}:=by
       refine(IE.pins_of (pins':=[]) (by simp)).turned (t':=sE.toks) (it:=f.heap.objs.size) (λb o d e=>(b7.2 b d).trans e) M.2.1 ?_ (.inr (Jf _)) (λx c e=>U x c e) (λp hp=>absurd (show p∈([]:GR)from by simpa [Y,zb]using hp) (by simp))
       exact a0
      have ea:(j.toArray.push v')=(j++[v']).toArray:=by simp
      rw[ea]at a4;refine#[h6,e0,i2+1,zs++[y],c1,HE,j++[v'],k',IF.pins_of ?_,T2.keep _ _ _ d1 λb d o e=>?_,λb d=>?_,c3.append (.cons rE .nil),?_,wE]
      ·intro p hp
       rcases Jm.mp hp with z|z
       ·rw[z]
        exact#[a4,M.2.1,a0,K,λv z=>by cases z]
       ·obtain⟨p1,p2⟩:=L p z
        exact#[(b7.2 p.1 (a1 p.1 (d4 p.1 (jA z).1)).2).trans p1,p2]
      ·refine(b7.2 b λz=>?_).trans (b0 b d o e).1
       exact(f9 b d).2.2.2.2.2 (f.heap.objs.size,{cls:= .type "list",data:= .seq l.toArray k}) (by simp [zb]) z.symm
      ·obtain⟨o,e,_⟩:=T2.obj _ _ d1 b d
       exact(b0 b d o e).2
      ·rw[Jv,Fd];lia
    exact kE L2 (T2.self _ 0 _ _ _ e6 L2)
  ·refine#[0,[],σ0 own.length js σ,H2,[],0,I3.pins_of ?_,g6,λb d=>(f2 b d).1,.nil,Jy _,w0]
   intro p hp;rw[Jh.mp hp]
   exact#[g0,I2.hok.fresh (Jf _),a0,K,λv z=>by cases z]
 have c4:tn 0 P:=T.keep _ _ _ d9 λb _ o e=>e5 b o e
 exact codeAny_compStart_list (a5 _ IY c4 a8) (T.self _ 0 _ _ _ c4 (a5 _ IY c4 a8))
theorem wq{p tg f j d:Φ}{a:Scope}{i:List (Str×Δ)}{pos:Pos}{fr own:Α}{js:Κ}{D r:TI}{g B:TG}{te:TE}
  (hc:X.calm=true)(hi:QI X tg f D)(l:closureFor a X.env=pure i)(u:∀y c,i.lookup y=↑c->X.env.cells.lookup y=↑c)(w:i.map (·.1)=fr)
  (S:HP X a fr js)
  (hg:∀C s H fp,QG (zb X (own++fr) a i C s H fp) tg g)(t:∀C s H fp,QI (zb X (own++fr) a i C s H fp) j d r)(A:∀C s H fp,QG (zb X (own++fr) a i C s H fp) j B)(he:∀C s H fp,QE (zb X (own++fr) a i C s H fp) p te)
  (hs:∀x,foldedSetIterable f X.env x=pure x:=by intro _;rfl)(hs2:∀C x,foldedSetIterable d (compEnvC a i C X.env) x=pure x:=by intro _ _;rfl):
  QE X (.ListComp p [#[tg,f,[],0],#[j,d,[],0]] a pos) (uc own.length js D g r B te):=by
 refine#[λOa s σ H Q I h=>?_]
 rw[eval_ListComp];refine tm (use:=none) hc hi.h l u w S (λC s H fp=>(hg C s H fp).h) (λC s H fp=>(t C s H fp).h) (λC s H fp=>(A C s H fp).h) (λC s H fp=>(he C s H fp).h) hs hs2 I h λv C E H' m F G n q=>?_
 exact#[m,G,λh' z=>#[.ref v,H',F.turned (t':=E.toks) (λb o J e=>(z.2 b J).trans e) n.free n.loc (.inr n.new) n.cell n.pin,Z,q]]
end L3
namespace S0
open PySem PySem.Spec PyProof.Rows
def oz(M x:Nat):Nat:=(x*5+1)%M
def bg(M:Nat):Nat->Nat->Nat
 |0,x=>x
 |n+1,x=>bg M n (oz M x)
theorem bP(M:Nat):∀(a b x:Nat),bg M (a+b) x=bg M b (bg M a x)
 |0,b,x=>by rw[Nat.zero_add];rfl
 |a+1,b,x=>by rw[Nat.add_right_comm];exact bP M a b (oz M x)
def Cc(M:Nat):Nat->Nat->Κ
 |0,_=>[]
 |n+1,x=>x::Cc M n (oz M x)
theorem vz(M:Nat):∀(n x j:Nat),j∈Cc M n x->∃m,m<n/\bg M m x=j
 |0,x,j,h=>nomatch h
 |n+1,x,j,h=>by
  rcases Jm.mp h with rfl|h
  ·exact#[0,Nat.succ_pos _,Z]
  ·obtain⟨m,a,e⟩:=vz M n _ j h
   exact#[m+1,by lia,e]
def y7(M:Nat):Bool:=(bg M M 0==0)&&(List.range M).all λj=>(Cc M M 0).contains j
def zQ(M:Nat):Prop:=y7 M=true
theorem tJ:zQ 8:=by unfold zQ;decide +kernel
theorem AH:zQ 16:=by unfold zQ;decide +kernel
theorem AO:zQ 32:=by unfold zQ;decide +kernel
theorem Ar:zQ 64:=by unfold zQ;decide +kernel
theorem xo:zQ 128:=by unfold zQ;decide +kernel
theorem xy:zQ 256:=by unfold zQ;decide +kernel
theorem vW{n:Nat}(h:n<256):zQ (SetTable.sizeAbove n)/\n<SetTable.sizeAbove n/\SetTable.sizeAbove n<=256:=by
 have a:∀n<256,(SetTable.sizeAbove n=8\/SetTable.sizeAbove n=16\/SetTable.sizeAbove n=32\/SetTable.sizeAbove n=64\/SetTable.sizeAbove n=128\/SetTable.sizeAbove n=256)/\n<SetTable.sizeAbove n:=by decide +kernel
 obtain⟨h1,c⟩:=a n h;rcases h1 with e|e|e|e|e|e<;>(rw[e]at c⊢;refine#[?_,c,⋯])
 ·exact tJ
 ·exact AH
 ·exact AO
 ·exact Ar
 ·exact xo
 ·exact xy
theorem DW{M i j:Nat}(h:zQ M)(hi:i<M)(g:j<M):∃m,m<M/\bg M m i=j:=by
 unfold zQ y7 at h;rw[JC,JW,FC]at h;obtain⟨e,h1⟩:=h;have get:∀x,x<M->∃m,m<M/\bg M m 0=x:=λx f=>vz M M 0 x (by have:=h1 x (J1.mpr f);simpa using this)
 obtain⟨a,o,d⟩:=get i hi;obtain⟨b,n,c⟩:=get j g
 by_cases l:a<=b
 ·refine#[b-a,by lia,?_]
  rw[<- d,<- bP,show a+(b-a)=b by lia,c]
 ·refine#[M-a+b,by lia,?_]
  rw[<- d,<- bP,show a+(M-a+b)=M+b by lia,bP,e,c]
def Zy(mask:Nat):Nat->Nat×Nat->Nat×Nat
 |0,p=>p
 |n+1,p=>Zy mask n (SetTable.leap mask p.1 p.2)
theorem f7(mask:Nat):∀(a b:Nat) (p:Nat×Nat),Zy mask (a+b) p=Zy mask b (Zy mask a p)
 |0,b,p=>by rw[Nat.zero_add];rfl
 |a+1,b,p=>by rw[Nat.add_right_comm];exact f7 mask a b _
theorem mQ(mask:Nat):∀(n:Nat) (p:Nat×Nat),(Zy mask n p).2=p.2/32 ^ n
 |0,p=>by show p.2=_;rw[Nat.pow_zero,Nat.div_one]
 |n+1,p=>by
  show(Zy mask n (SetTable.leap mask p.1 p.2)).2=_
  rw[mQ mask n]
  show p.2/32/32 ^ n=_
  rw[Nat.div_div_eq_div_mul,Nat.pow_succ,Nat.mul_comm]
theorem jm(mask:Nat):∀(n i p:Nat),p/32=0->(Zy mask n (i,p)).1=bg (mask+1) n i
 |0,i,p,h=>rfl
 |n+1,i,p,h=>by
  have e:SetTable.leap mask i p=(oz (mask+1) i,0):=by
   unfold SetTable.leap oz;rw[h,Nat.add_zero]
  show(Zy mask n (SetTable.leap mask i p)).1=bg (mask+1) n (oz (mask+1) i)
  rw[e];exact jm mask n _ 0 Z
theorem Bx(h:Int):SetTable.bits h<2 ^ 64:=by
 unfold SetTable.bits;have h1:=Ft h (show(0:Int)<2 ^ 64 by decide)
 have a:=Fp h (show(2 ^ 64:Int)≠0 by decide)
 lia
theorem B5{mask j:Nat}(hm:zQ (mask+1))(l:j<=mask)(h:Int)(i:Nat):∃n,n<SetTable.turns mask/\(Zy mask n (i,SetTable.bits h)).1=j:=by
 have f:=Bx h;have c:(Zy mask 12 (i,SetTable.bits h)).2/32=0:=by
  rw[mQ]
  show SetTable.bits h/32 ^ 12/32=0
  rw[Nat.div_div_eq_div_mul];exact Nat.div_eq_of_lt (JO f ⋯)
 have d:(Zy mask 12 (i,SetTable.bits h)).1<mask+1:=by
  rw[show(12:Nat)=11+1 from Z,f7 mask 11 1]
  exact Nat.mod_lt _ (Nat.succ_pos _)
 obtain⟨m,g,e⟩:=DW hm d (Nat.lt_succ_of_le l)
 refine#[12+m,by unfold SetTable.turns;lia,?_]
 rw[f7];generalize Zy mask 12 (i,SetTable.bits h)=p at *
 obtain⟨a,b⟩:=p;rw[jm mask m a b c];exact e
theorem jq{mask:Nat}{c:Array Χ}:∀(a i p:Nat),SetTable.layClean.free mask c a i p=none->∀n,n<a->(c.getD (Zy mask n (i,p)).1 ↑0).isNone=false
 |0,i,p,h,n,hn=>absurd hn (Nat.not_lt_zero _)
 |a+1,i,p,h,n,hn=>by
  unfold SetTable.layClean.free at h;split at h
  ·cases h
  ·rename_i d
   cases n with
   |zero=>
    have:=List.find?_eq_none.mp d 0 (J1.mpr (by unfold SetTable.runEnd;split<;>lia))
    exact Gc.mpr this
   |succ n=>exact jq a _ _ h n (by lia)
theorem iX{mask:Nat}{c:Array Χ}{j:Nat}:∀(a i p:Nat),SetTable.layClean.free mask c a i p=↑j->(c.getD j ↑0).isNone=true
 |0,i,p,h=>nomatch h
 |a+1,i,p,h=>by
  unfold SetTable.layClean.free at h;split at h
  ·rename_i k d
   cases h
   have:=List.find?_some d
   exact this
  ·exact iX a _ _ h
def OwOk(mask:Nat)(a:Array Χ)(k:Nat):Prop:=a.size=mask+1/\(a.toList.filterMap id).Perm (List.range k)
theorem lG:∀l:List Χ,(∀x∈l,x.isNone=false)->(l.filterMap id).length=l.length
 | [],_=>rfl
 |x::l,h=>by
  have c:=h x JB;cases x with
  |none=>cases c
  |some y=>
   rw[JR]
   show(y::l.filterMap id).length=_
   rw[JN,JN,lG l λz a=>h z (JM _ a)]
theorem OwOk.step{mask k:Nat}{a:Array Χ}(hm:zQ (mask+1))(o:OwOk mask a k)(hk:k<=mask)(h:Int):
  ∃j,SetTable.layClean.free mask a (SetTable.turns mask) (SetTable.bits h%(mask+1)) (SetTable.bits h)=↑j/\OwOk mask (a.setIfInBounds j ↑k) (k+1):=by
 obtain⟨s,c⟩:=o;cases e:SetTable.layClean.free mask a (SetTable.turns mask) (SetTable.bits h%(mask+1)) (SetTable.bits h)with
 |none=>
  exfalso
  have all:∀x∈a.toList,x.isNone=false:=λx t=>by
   obtain⟨j,f,rfl⟩:=List.mem_iff_getElem.mp t;have l:j<a.size:=by rw[<- Jp];exact f
   obtain⟨n,i,r⟩:=B5 hm (show j<=mask by lia) h (SetTable.bits h%(mask+1))
   have:=jq _ _ _ e n i
   rw[r]at this
   simpa [Array.getD,l]using this
  have h1:(a.toList.filterMap id).length=a.toList.length:=lG _ all
  have m:(a.toList.filterMap id).length=(List.range k).length:=c.length_eq
  rw[List.length_range]at m;rw[m,Jp]at h1;lia
 |some j=>
  refine#[j,Z,by rw[Array.size_setIfInBounds];exact s,?_]
  have d:=iX _ _ _ e;have f:j<a.size:=by
   refine Nat.lt_of_not_le λz=>?_
   rw[Array.getD,dif_neg (by lia)]at d
   cases d
  have i:a[j]=none:=by
   rw[Array.getD,dif_pos f]at d;exact Option.isNone_iff_eq_none.mp d
  have u:j<a.toList.length:=by rw[Jp];exact f
  have g:a.toList[j]=none:=by rw[Array.getElem_toList];exact i
  rw[Array.toList_setIfInBounds];have q:a.toList=a.toList.take j++none::a.toList.drop (j+1):=by
   rw[<- g,List.getElem_cons_drop,List.take_append_drop]
  have p:a.toList.set j ↑k=a.toList.take j++↑k::a.toList.drop (j+1):=by rw[List.set_eq_take_append_cons_drop,Jc u]
  rw[p,List.filterMap_append,JR]
  show((a.toList.take j).filterMap id++k::(a.toList.drop (j+1)).filterMap id).Perm _
  rw[q,List.filterMap_append,JR]at c;have c:((a.toList.take j).filterMap id++(a.toList.drop (j+1)).filterMap id).Perm (List.range k):=c
  rw[List.range_succ];refine List.perm_middle.trans ?_
  exact(List.Perm.cons k c).trans (List.perm_append_singleton k _).symm
theorem oG{mask:Nat}(hm:zQ (mask+1)):∀(hs:Β) (c:Array Χ) (k:Nat),OwOk mask c k->k+hs.length<=mask+1->
  ∃a,hs.foldl (λ(d:Option (Array Χ×Nat)) (h:Int)=>do
   let(owner,k) <- d
   let j <- SetTable.layClean.free mask owner (SetTable.turns mask) (SetTable.bits h%(mask+1)) (SetTable.bits h)
   pure (owner.setIfInBounds j ↑k,k+1)) ↑(c,k)=↑(a,k+hs.length)/\OwOk mask a (k+hs.length)
 | [],c,k,o,_=>#[c,Z,o]
 |h::hs,c,k,o,hl=>by
  rw[JN]at hl;obtain⟨j,f,g⟩:=o.step hm (by lia) h
  obtain⟨a,e,o'⟩:=oG hm hs _ _ g (by lia)
  refine#[a,?_,by rw[JN,show k+(hs.length+1)=k+1+hs.length by lia];exact o']
  rw[List.foldl_cons,JN,show k+(hs.length+1)=k+1+hs.length by lia,<- e]
  congr 1
  show(do
   let j <- SetTable.layClean.free mask c (SetTable.turns mask) (SetTable.bits h%(mask+1)) (SetTable.bits h)
   pure (c.setIfInBounds j ↑k,k+1))=↑(c.setIfInBounds j ↑k,k+1)
  rw[f];rfl
theorem nO(n:Nat):((List.replicate n (none:Χ)).filterMap id)=[]:=by
 induction n with
 |zero=>rfl
 |succ n ih=>rw[FU,JR];exact ih
theorem nW{mask:Nat}(hm:zQ (mask+1)){hs:Array Int}(hn:hs.size<=mask+1):∃a,SetTable.layClean mask hs=↑a/\OwOk mask a hs.size:=by
 have c:OwOk mask (Array.replicate (mask+1) none) 0:=#[Array.size_replicate,by rw[Array.toList_replicate,nO];exact List.Perm.refl _]
 obtain⟨a,e,o⟩:=oG hm hs.toList _ 0 c (by rw[Jp];lia)
 rw[Nat.zero_add,Jp]at e o;refine#[a,?_,o]
 unfold SetTable.layClean;rw[<- Array.foldl_toList];exact JH (Option.map (·.1)) e
theorem f8(f:Nat->Χ):∀l:Κ,(l.filterMap λj=>(f j).map (j,·)).map (·.2)=l.filterMap f
 | []=>rfl
 |j::l=>by
  rw[JR,JR];cases e:f j with
  |none=>simpa using f8 f l
  |some k=>simpa using f8 f l
theorem pT(a:Array Χ):(List.range a.size).filterMap (λj=>a.getD j none)=a.toList.filterMap id:=by
 have e:(List.range a.size).map (λj=>a.getD j none)=a.toList:=by
  refine List.ext_getElem (by rw[Je,List.length_range,Jp]) λi h1 c=>?_
  have hi:i<a.size:=by rw[Jp]at c;exact c
  simp [Array.getD,hi]
 rw[<- e,List.filterMap_map];rfl
theorem i4{mask fg mv:Nat}{led plain:Bool}{hs:Array Int}(hm:zQ (mask+1))(hn:hs.size<=mask):
  ∃t o,SetTable.laid mask fg mv led plain hs=↑(t,o)/\t.fits hs.size=true/\o.toList.Perm (List.range hs.size)/\Rs t.place/\t.dummies= (List.toArray [])/\t.led=led/\t.plain=plain/\t.mask=mask:=by
 obtain⟨a,e,c,f⟩:=nW (hs:=hs) hm (by lia)
 have g:SetTable.laid mask fg mv led plain hs=↑({mask,place:=(((List.range (mask+1)).filterMap λj=>(a.getD j none).map (j,·)).map (·.1)).toArray,dummies:= (List.toArray []),finger:=fg,led,moves:=mv,plain},(((List.range (mask+1)).filterMap λj=>(a.getD j none).map (j,·)).map (·.2)).toArray):=by
  unfold SetTable.laid;rw[e];rfl
 obtain⟨h1,i,h⟩:=oU g;have d:((List.range (mask+1)).filterMap λj=>(a.getD j none).map (j,·)).map (·.2)=a.toList.filterMap id:=by
  rw[f8,<- c];exact pT a
 have len:((List.range (mask+1)).filterMap λj=>(a.getD j none).map (j,·)).length=hs.size:=by
  have:=JH List.length d
  rw[Je,f.length_eq,List.length_range]at this;exact this
 refine#[_,_,g,?_,?_,h1,i,h,Z,Z]
 ·unfold SetTable.fits SetTable.fill
  dsimp only
  rw[Jr,Je,len];simp [hn]
 ·dsimp only
  rw[d];exact f
theorem nV(a:Δ)(c:Nat):setRelay a c=(do
 let(es,_,t) <- setState a
 if SetTable.sizeAbove c>ζ then unsupported "set:memory"
 let(es,t) <- (do
  let ↑(t,order):=t.relaid (es.map (·.1)) c|unsupported "internal:set-table-without-room"
  let d:=order.filterMap (es[·]?)
  if d.size != es.size then unsupported "internal:set-table-lost-an-element"
  pure (d,t):Sem (Array (Int×Γ)×SetTable))
 storeSet a es t):=Z
theorem fH(s o:Δ)(a:Sem Unit):setMerge s o a=(do
 if s==o then return
 let(eo,epoch,to) <- setState o
 if eo.isEmpty then return
 setRoomFor s eo.size
 let(_,_,ts) <- setState s
 match ts.road to with
 | .slotForSlot=>storeSet s eo {to with finger:=ts.finger,led:=ts.led&&to.led,moves:=ts.moves,plain:=ts.plain&&to.plain}
 | .clean=>
  let(es,t) <- (do
   let ↑(t,order):=SetTable.laid ts.mask ts.finger ts.moves (led:=ts.led&&to.led) (plain:=ts.plain&&to.plain) (eo.map (·.1))|unsupported "internal:set-table-without-room"
   let c:=order.filterMap (eo[·]?)
   if c.size != eo.size then unsupported "internal:set-table-lost-an-element"
   pure (c,t):Sem (Array (Int×Γ)×SetTable))
  storeSet s es t
 | .oneByOne=>
  for (h,x)in <- setWalkUnseen o [s] ↑s do
   let _ <- holding [x] (setAddHashed s x h)
   a
   if(<- setState o).2.1 != epoch then unsupported "set.changed-during-merge"):=Z
theorem gR{c:Type}{es:Array c}{o:Array Nat}(h:o.toList.Perm (List.range es.size)):(o.filterMap (es[·]?)).toList.Perm es.toList:=by
 rw[Array.toList_filterMap];refine(h.filterMap _).trans ?_
 have e:(List.range es.size).filterMap (es[·]?)=es.toList:=by
  have a:(List.range es.size).map (es[·]?)=es.toList.map some:=by
   refine List.ext_getElem (by simp) λi h1 d=>?_
   have hi:i<es.size:=by simpa using d
   simp [hi]
  have:(List.range es.size).filterMap (es[·]?)=((List.range es.size).map (es[·]?)).filterMap id:=by rw[List.filterMap_map];rfl
  rw[this,a,List.filterMap_map];exact List.filterMap_some
 rw[e]
section
variable{prog:Ξ}{w:Ω}{K:Type} [DecidableEq K]{knd:PySem.KeyKind prog w K}{kf:Γ->K}
variable{A:Around}{E:GP}{s:Θ}
theorem oK{a:Δ}{o:Obj}{es:Array (Int×Γ)}{ep:Nat}{t:SetTable}{d:Nat}{Q:Unit->Θ->Prop}(ho:s.heap.get? a=↑o)(hd:o.data= .set es ep t)(hf:t.fits es.size=true)(hw:d<256)(hn:es.size<=d)
  (h:∀e c,e.toList.Perm es.toList->c.fits e.size=true->Rs c.place->c.dummies= (List.toArray [])->c.led=t.led->c.plain=t.plain->zQ (c.mask+1)->d<=c.mask->Q () {s with heap:=s.heap.update a (Obj.putSet e c)}):
  ε (model prog w) A (setRelay a d) Q E s:=by
 obtain⟨p,p2,z⟩:=vW hw;rw[nV];refine Ja (wpAny_setState_of ho hd hf ?_)
 dsimp only
 have g:¬SetTable.sizeAbove d>ζ:=by rw[Ju];lia
 rw[Jb g];have q:SetTable.sizeAbove d-1+1=SetTable.sizeAbove d:=by lia
 obtain⟨c,or,j,n,m,u,y,v,x,l⟩:=i4 (mask:=SetTable.sizeAbove d-1) (fg:=t.finger) (mv:=t.movedTo (SetTable.sizeAbove d-1)) (led:=t.led) (plain:=t.plain) (hs:=es.map (·.1)) (by rw[q];exact p) (by rw[Array.size_map];lia)
 have j:t.relaid (es.map (·.1)) d=↑(c,or):=j
 rw[Array.size_map]at n m;have r:=gR (es:=es) m
 have f:(or.filterMap (es[·]?)).size=es.size:=by rw[<- Jp,r.length_eq,Jp]
 have i:es.size<=ζ:=by rw[Ju];lia
 refine Ja ?_
 rw[j]
 dsimp only
 rw[f];simp only[bne_self_eq_false,Bool.false_eq_true,JD];exact Jd (wpAny_storeSet_of ho hd (h _ _ r (by rw[f];exact n) u y v x (by rw[l,q];exact p) (by rw[l];lia)) (by rw[f];exact i))
def FrK(w:Ω)(h:Ψ)(a:Δ)(n:Nat):Prop:=∃o ep t,h.get? a=↑o/\o.ExactSet/\o.data= .set (List.toArray []) ep t/\t.fits 0=true/\t.dummies= (List.toArray [])/\zQ (t.mask+1)/\n<=t.mask/\TW w t
theorem FrK.k{h:Ψ}{a:Δ}{n:Nat}(x:FrK w h a n):SetK knd kf h a []:=by
 obtain⟨o,ep,t,h1,f,c,d,m,l,j,i⟩:=x
 exact#[o,(List.toArray []),ep,t,h1,f,c,d,⋯,(λe g=>nomatch g),List.Perm.refl _,i]
theorem AT{a:Δ}{n:Nat}{Q:Unit->Θ->Prop}(u:FrK w s.heap a 0)(hn:n<=100)(h:∀h',Ψ.SameBut a s.heap h'->FrK w h' a n->Q () {s with heap:=h'}):ε (model prog w) A (setRoomFor a n) Q E s:=by
 obtain⟨o,ep,t,h1,j,g,e,l,C,G,p⟩:=u;unfold setRoomFor;refine Ja (wpAny_setState_of h1 g e ?_)
 dsimp only
 have f:t.place.size=0:=by
  unfold SetTable.fits at e;rw[JC,JW]at e;exact e.1
 have d:t.fill=0:=by unfold SetTable.fill;rw[f,l];rfl
 unfold SetTable.roomFor;rw[d,f]
 by_cases c:(0+n)*5 ≥ t.mask*3
 ·rw[Jc c]
  dsimp only
  refine oK h1 g e (by lia) (Jy _) λi m q D v B r J y H=>?_
  have F:i= (List.toArray []):=by
   have:=q.length_eq
   rw[Jp]at this;exact Array.eq_empty_of_size_eq_zero this
  subst F;refine h _ (J8 s.heap a _) #[_,_,m,Zf h1 g (List.toArray []) m,j,Z,D,B,y,by lia,?_]
  rcases p with z|⟨x,I⟩
  ·exact .inl z
  ·exact .inr #[r.trans x,λ_=>v]
 ·rw[Jb c]
  exact Jd (h s.heap (Ψ.SameBut.refl a s.heap) #[o,ep,t,h1,j,g,e,l,C,by lia,p])
theorem TW.both{t u:SetTable}{fg mv:Nat}(a:TW w t)(b:TW w u)(hp:u.dummies= (List.toArray [])):TW w {u with finger:=fg,led:=t.led&&u.led,moves:=mv,plain:=t.plain&&u.plain}:=by
 rcases a with z|⟨d,f⟩
 ·exact .inl z
 ·rcases b with y|⟨e,c⟩
  ·exact .inl y
  ·refine .inr #[by show(t.led&&u.led)=true;rw[d,e];rfl,λh=>?_]
   have h:(t.plain&&u.plain)=true:=h
   rw[JC]at h;exact c h.2
theorem ge{a b:Δ}{f:List K}{j:Sem Unit}{Q:Unit->Θ->Prop}(x:a≠b)(B:FrK w s.heap a 0)(hB:SetK knd kf s.heap b f)(lb:f.length<=100)
  (h:∀h',Ψ.SameBut a s.heap h'->SetK knd kf h' a f->(f=[]->FrK w h' a 0)->Q () {s with heap:=h'}):ε (model prog w) A (setMerge a b j) Q E s:=by
 obtain⟨ob,e,U,tb,Y,b2,T,L,H,J,G,N⟩:=id hB;have n:e.size=f.length:=by rw[<- G.length_eq,Je,Jp]
 rw[fH];have v:(a==b)=false:=by rw[E9];exact x
 rw[v];simp only[Bool.false_eq_true,JD];refine Ja (wpAny_setState_of Y T L ?_)
 dsimp only
 by_cases c:e.isEmpty=true
 ·rw[Jc c]
  have e0:f=[]:=by
   rw[Array.isEmpty_iff_size_eq_zero,n]at c;exact List.eq_nil_of_length_eq_zero c
  subst e0;exact Jd (h s.heap (Ψ.SameBut.refl a s.heap) B.k λ_=>B)
 ·rw[Jb c]
  refine Ja (AT B (by lia) λh1 i F=>?_)
  obtain⟨o,ep,t,l,I,p,u,W,X,q7,P⟩:=id F;refine Ja (wpAny_setState_of (s:={s with heap:=h1}) l p u ?_)
  dsimp only
  have D:t.place.size=0:=by
   unfold SetTable.fits at u;rw[JC,JW]at u;exact u.1
  have g:t.fill=0:=by unfold SetTable.fill;rw[D,W];rfl
  have m:f≠[]:=λz=>c (by rw[Array.isEmpty_iff_size_eq_zero,n,z];rfl)
  have q:e.size<=ζ:=fits_of_scanBound H
  have er:t.road tb=if t.mask==tb.mask&&tb.dummies.isEmpty then .slotForSlot else .clean:=by
   unfold SetTable.road;rw[g];rfl
  rw[er]
  by_cases r:(t.mask==tb.mask&&tb.dummies.isEmpty)=true
  ·rw[Jc r]
   rw[JC,Array.isEmpty_iff]at r;refine wpAny_storeSet_of (s:={s with heap:=h1}) l p ?_ q
   refine h _ (i.trans (J8 h1 a _)) #[_,e,_,_,Zf l p e _,I,Z,?_,H,J,G,TW.both P N r.2] λz=>absurd z m
   exact L
  ·rw[Jb r]
   obtain⟨O,or,el,M,R,S,r4,r5,r6,r7⟩:=i4 (mask:=t.mask) (fg:=t.finger) (mv:=t.moves) (led:=t.led&&tb.led) (plain:=t.plain&&tb.plain) (hs:=e.map (·.1)) X (by rw[Array.size_map];exact q7)
   rw[Array.size_map]at M R;have C:=gR (es:=e) R
   have d:(or.filterMap (e[·]?)).size=e.size:=by rw[<- Jp,C.length_eq,Jp]
   dsimp only
   refine Ja ?_
   rw[el]
   dsimp only
   rw[d];simp only[bne_self_eq_false,Bool.false_eq_true,JD];refine Jd (wpAny_storeSet_of (s:={s with heap:=h1}) l p ?_ (by rw[d];exact q))
   refine h _ (i.trans (J8 h1 a _)) #[_,_,_,O,Zf l p _ O,I,Z,by rw[d];exact M,by rw[d];exact H,J.perm C,(C.map _).trans G,?_] λz=>absurd z m
   rcases P with z|⟨z1,z2⟩
   ·exact .inl z
   ·rcases N with y|⟨y1,y2⟩
    ·exact .inl y
    ·exact .inr #[by rw[r5,z1,y1];rfl,λ_=>S]
end
section
variable{prog:Ξ}{w:Ω}{K:Type} [DecidableEq K]{knd:PySem.KeyKind prog w K}{kf:Γ->K}
variable{A:Around}{E:GP}{s:Θ}
theorem BU{a:Δ}{n:Nat}{ks:List K}{Q:Unit->Θ->Prop}(j:SetK knd kf s.heap a ks)(hn:ks.length+n<=100)(h:∀h',Ψ.SameBut a s.heap h'->SetK knd kf h' a ks->Q () {s with heap:=h'}):ε (model prog w) A (setRoomFor a n) Q E s:=by
 obtain⟨o,es,ep,t,h1,p,i,e,v,y,l,B⟩:=id j;have x:es.size=ks.length:=by rw[<- l.length_eq,Je,Jp]
 unfold setRoomFor;refine Ja (wpAny_setState_of h1 i e ?_)
 dsimp only
 have g:t.place.size=es.size:=by
  unfold SetTable.fits at e;rw[JC,JW]at e;exact e.1
 unfold SetTable.roomFor;rw[g]
 by_cases c:(t.fill+n)*5 ≥ t.mask*3
 ·rw[Jc c]
  dsimp only
  refine oK h1 i e (by lia) (by lia) λd m f C r F q I D G=>?_
  have sz:d.size=es.size:=by rw[<- Jp,f.length_eq,Jp]
  refine h _ (J8 s.heap a _) #[_,d,_,m,Zf h1 i d m,p,Z,C,by rw[sz];exact v,y.perm f,(f.map _).trans l,?_]
  rcases B with z|⟨u,H⟩
  ·exact .inl z
  ·exact .inr #[q.trans u,λ_=>r]
 ·rw[Jb c]
  exact Jd (h s.heap (Ψ.SameBut.refl a s.heap) j)
theorem pv{a r:Δ}{o:Obj}{es:Array (Int×Γ)}{ep:Nat}{t:SetTable}{M:List K}{Q:Array (Int×Γ)->Θ->Prop}(ho:s.heap.get? a=↑o)(D:o.ExactSet)(hd:o.data= .set es ep t)(hf:t.fits es.size=true)(hb:es.size<scanBound)(C:ElemsOf knd es.toList)(I:TW w t)
  (H:SetK knd kf s.heap r M)
  (h:∀d h',d.toList.Perm es.toList->Ψ.SameBut r s.heap h'->SetK knd kf h' r M->Q d {s with heap:=h'}):ε (model prog w) A (setWalkUnseen a [r] ↑r) Q E s:=by
 have same:∀d,d.toList.Perm es.toList->Q d s:=λd p=>h d s.heap p (Ψ.SameBut.refl r s.heap) H
 have wf:(zu w||(t.led&&t.plain)||decide (es.size<=1))=true->ε (model prog w) A (setWalk a) Q E s:=λc=>by
  rw[sj];refine Ja (wpAny_setState_of ho hd hf ?_)
  dsimp only
  refine Ja (Qx ?_)
  cases f:zu w with
  |true=>
   rw[Jc Z];exact Ja (wpAny_askSetting (Jd (same _ (jC _ es))))
  |false=>
   rw[Jb ⋯]
   rw[f]at c;have B:t.led=true:=by
    rcases I with z|⟨n,_⟩
    ·rw[f]at z;cases z
    ·exact n
   have G:(! t.plain&&decide (es.size>1))=false:=by
    rw[B]at c;cases hp:t.plain with
    |true=>rfl
    |false=>rw[hp]at c;simp at c;simp;lia
   rw[G];simp only[Bool.false_eq_true,JD,B,Bool.not_true,EW];exact Ja (Jd (Jd (same _ (List.Perm.refl _))))
 unfold setWalkUnseen;refine Ja (wpAny_setState_of ho hd hf ?_)
 dsimp only
 refine Ja (Qx ?_)
 by_cases c:(zu w||(t.led&&t.plain)||decide (es.size<=1))=true
 ·rw[Jc c]
  exact wf c
 ·rw[Jb c]
  have f:zu w=false:=by
   cases e:zu w with
   |true=>rw[e]at c;simp at c
   |false=>rfl
  have B:t.led=true:=by
   rcases I with z|⟨n,_⟩
   ·rw[f]at z;cases z
   ·exact n
  refine Ja (BF (knd:=knd) (kf:=kf) (λx L=>?_) ?_)
  ·simp only[Jm,JE,JF]at L
   rcases L with rfl|rfl
   ·exact#[_,o,es,ep,t,ho,D,hd,hf,hb,C,List.Perm.refl _,I]
   ·exact#[_,H]
  ·simp only[Bool.not_true,Bool.false_eq_true,JD]
   refine Ja (E7 ?_)
   obtain⟨P,l,N,y,g,j,i,q,m,v,u,F⟩:=H;refine Ja (wpAny_setState_of g i q ?_)
   dsimp only
   by_cases J:((y.led&& ! t.led)||(y.plain&& ! t.plain))=true
   ·rw[Jc J]
    refine Ja (wpAny_storeSet_of g i (Jd ?_) (fits_of_scanBound m))
    refine h _ _ (List.Perm.refl _) (J8 s.heap r _) #[_,l,_,_,Zf g i l _,j,Z,q,m,v,u,?_]
    rcases F with z|⟨n,O⟩
    ·exact .inl z
    ·refine .inr #[by show(y.led&&t.led)=true;rw[n,B];rfl,λz=>?_]
     have z:(y.plain&&t.plain)=true:=z
     rw[JC]at z;exact O z.1
   ·rw[Jb J]
    exact Jd (same _ (List.Perm.refl _))
theorem vS(y:∀k v,knd.is k v=true->kf v=k){a b:Δ}(B:b≠a){o:Obj}{es:Array (Int×Γ)}{ep:Nat}{t:SetTable}{l:List K}{j:Sem Unit}{Q:PUnit->Θ->Prop}(hd:o.data= .set es ep t)(hf:t.fits es.size=true)(c:Array (Int×Γ))(u:ElemsOf knd c.toList)(hn:l.length+c.size+1<scanBound)
  (m:∀(s':Θ) (R:Unit->Θ->Prop),s'.heap.get? b=↑o->R () s'->ε (model prog w) A j R E s')
  (ho:s.heap.get? b=↑o)(S:SetK knd kf s.heap a l)(p:l.Nodup)
  (h:∀h' f,Ψ.SameBut a s.heap h'->SetK knd kf h' a f->f.Nodup->(∀k,k∈f↔k∈l\/k∈(c.toList.map λe=>kf e.2))->Q #[] {s with heap:=h'}):
  ε (model prog w) A (forIn c PUnit.unit λx _=>do
   let _ <- holding [x.2] (setAddHashed a x.2 x.1)
   j
   if(<- setState b).2.1 != ep then do
    unsupported "set.changed-during-merge"
    pure (ForInStep.yield PUnit.unit)
   else pure (ForInStep.yield PUnit.unit)) Q E s:=by
 obtain⟨J,g,H,tk,M⟩:=s;refine PySem.MeetsSeq2.wpAny_forIn_array _ (λrest _ s'=>∃h' done f,s'=#[h',g,H,tk,M]/\c.toList=done++rest/\Ψ.SameBut a J h'/\SetK knd kf h' a f/\f.Nodup/\(∀k,k∈f↔k∈l\/k∈(done.map λe=>kf e.2))/\f.length<=l.length+done.length) _ ?_ ?_ c _ #[J,[],l,Z,Z,Ψ.SameBut.refl a J,S,p,λk=>by simp,Jf _]
 ·rintro⟨T,x⟩ rest _ s' ⟨h',done,f,rfl,e,C,n,p,i,len⟩
  have U:(T,x)∈c.toList:=by rw[e];exact JV _ JB
  obtain⟨⟨k,hk,d⟩,z⟩:=u _ U
  dsimp only at hk d z⊢
  subst d;have W:done.length+1<=c.size:=by
   have:=JH List.length e
   rw[Jp,Jv,JN]at this;lia
  have kx:kf x=k:=y k x hk
  refine Ja (JI (sU (s:=#[h',g,H,tk,M]) y hk z n (by lia) λD r F=>?_))
  have q:D.get? b=↑o:=by rw[r.2 b B,C.2 b B];exact ho
  refine Ja (m _ _ q (Ja (wpAny_setState_of (s:=#[D,g,H,tk,M]) q hd hf ?_)))
  simp only[bne_self_eq_false,Bool.false_eq_true,JD];refine Jd #[D,done++[(knd.hash k,x)],_,Z,by rw[e,Fh];rfl,C.trans r,F,?_,λP=>?_,?_]
  ·split
   ·exact p
   ·rename_i N
    rw[Fv]
    exact#[p,by simp,λY I X L O=>N (by rw[Jh.mp L]at O;rw[<- O];exact I)]
  ·rw[JK,JL]
   show _↔_\/_\/P∈[kf x]
   rw[kx,Jh];split
   ·rename_i G
    rw[i];constructor
    ·rintro(h1|h1)
     ·exact .inl h1
     ·exact .inr (.inl h1)
    ·rintro(h1|h1|rfl)
     ·exact .inl h1
     ·exact .inr h1
     ·exact(i P).mp G
   ·rw[JL,i,Jh,or_assoc]
  ·rw[Jv,Fd]
   split
   ·lia
   ·rw[Jv,Fd];lia
 ·rintro _ s' ⟨h',done,f,rfl,e,C,n,p,i,len⟩
  rw[E3]at e;refine h h' f C n p (by rw[e];exact i)
theorem Be(O:∀k v,knd.is k v=true->kf v=k){a b:Δ}{g l:List K}{f:Sem Unit}{Q:Unit->Θ->Prop}(d:a≠b)(X:SetK knd kf s.heap a g)(hB:SetK knd kf s.heap b l)(ne:g≠[])(W:g.Nodup)(la:g.length+l.length<=100)
  (i:∀(s':Θ) (B:Unit->Θ->Prop),(∀o,s.heap.get? b=↑o->s'.heap.get? b=↑o)->B () s'->ε (model prog w) A f B E s')
  (h:∀h' p,Ψ.SameBut a s.heap h'->SetK knd kf h' a p->p.Nodup->(∀k,k∈p↔k∈g\/k∈l)->Q () {s with heap:=h'}):ε (model prog w) A (setMerge a b f) Q E s:=by
 obtain⟨ob,R,a0,tb,L,b2,G,H,b5,T,Y,b8⟩:=id hB;have N:R.size=l.length:=by rw[<- Y.length_eq,Je,Jp]
 rw[fH];have I:(a==b)=false:=by rw[E9];exact d
 rw[I];simp only[Bool.false_eq_true,JD];refine Ja (wpAny_setState_of L G H ?_)
 dsimp only
 by_cases c:R.isEmpty=true
 ·rw[Jc c]
  have e0:l=[]:=by
   rw[Array.isEmpty_iff_size_eq_zero,N]at c;exact List.eq_nil_of_length_eq_zero c
  subst e0;exact Jd (h s.heap g (Ψ.SameBut.refl a s.heap) X W λk=>by simp)
 ·rw[Jb c]
  refine Ja (BU X (by lia) λh1 j q=>?_)
  obtain⟨o,U,ep,t,q1,q2,q3,y,q5,q6,q7,q8⟩:=id q;refine Ja (wpAny_setState_of (s:={s with heap:=h1}) q1 q3 y ?_)
  dsimp only
  have a1:t.place.size=U.size:=by
   unfold SetTable.fits at y;rw[JC,JW]at y;exact y.1
  have a4:U.size=g.length:=by rw[<- q7.length_eq,Je,Jp]
  have a3:g.length≠0:=λz=>ne (List.eq_nil_of_length_eq_zero z)
  have er:t.road tb= .oneByOne:=by
   unfold SetTable.road SetTable.fill;rw[Jc];rw[bne_iff_ne];lia
  rw[er]
  dsimp only
  have x:h1.get? b=↑ob:=by rw[j.2 b d.symm];exact L
  refine Ja (pv (s:={s with heap:=h1}) (a:=b) (r:=a) x b2 G H b5 T b8 q λn S M m F=>?_)
  have a2:n.size=R.size:=by rw[<- Jp,M.length_eq,Jp]
  have D:S.get? b=↑ob:=by rw[m.2 b d.symm];exact x
  have e4:scanBound=4096:=Z
  refine Ja (vS (s:={s with heap:=S}) O d.symm G H n (T.perm M) (by lia) (λs' B z hq=>i s' B (λo z2=>?_) hq) D F W λh3 p C J P u=>Jd ?_)
  ·rw[L]at z2;cases z2;exact z
  ·refine h h3 p ((j.trans m).trans C) J P λk=>?_
   rw[u,(M.map λe=>kf e.2).mem_iff,Y.mem_iff]
theorem kS:entryFor table "set.__or__"=some γ.«frozenset.__or__»:=
 entryFor_alias (id':="frozenset.__or__") (by kernel_rfl) Z nofun (by kernel_rfl)
theorem DF(x y:Γ):γ.«frozenset.__or__» #[[x,y],[]]=(do
 if !(<- γ.Frozenset.isAnySet x <&&> γ.Frozenset.isAnySet y)then
  rule s!"frozenset.{"__or__"}.declined"
  return <- ret .notImplemented
 ret (<- (λ(id:String) (l:Δ) (r:Γ)=>(do
  let a <- γ.Frozenset.copyOf l
  if r != .ref l then holding [a] (γ.Frozenset.updateFrom id (<- γ.Frozenset.addrOf a) r)
  return a:Sem Γ)) s!"frozenset.{"__or__"}" (<- γ.Frozenset.addrOf x) y)):=Z
theorem tN{h:Ψ}{a:Δ}(ha:h.get? a=↑(zU (! zu w))):FrK w h a 0:=by
 refine#[_,0,_,ha,#[Z,Z,Z],Z,Z,Z,tJ,Jy _,?_]
 cases hb:zu w with
 |true=>exact .inl hb
 |false=>exact .inr #[Z,λ_=>List.Pairwise.nil]
theorem El(J:∀k v,knd.is k v=true->kf v=k){a b:Δ}{m l:List K}{Q:GP}(P:a≠b)(N:SetK knd kf s.heap a m)(I:SetK knd kf s.heap b l)(na:m.Nodup)(nb:l.Nodup)(Y:m.length+l.length<=100)
  (h:∀h' f,(∀c o,s.heap.get? c=↑o->h'.get? c=↑o)->SetK knd kf h' s.heap.objs.size f->f.Nodup->(∀k,k∈f↔k∈m\/k∈l)->Q (.ref s.heap.objs.size) {s with heap:=h'}):
  ε (model prog w) A (binaryOp .BitOr (.ref a) (.ref b)) Q E s:=by
 have i:=N.type (h:=s.heap)
 have t:=I.type (h:=s.heap)
 refine wpAny_binaryOp_same (op:= .BitOr) (T:="set") i t PySem.F.fills_set_or PySem.F.slot_set_or (J5 PySem.F.slot_set_or i kS ?_ (PySem.F.args_set_or_2 _ _))
 rw[DF];refine Ja (Ja (ZD i ?_))
 show ε _ _ (γ.Frozenset.isAnySet (Γ.ref b)) _ _ _
 refine ZD t ?_
 simp only[Bool.not_true,Bool.false_eq_true,JD];refine Ja (Jd (Ja ?_))
 unfold γ.Frozenset.copyOf γ.Frozenset.baseOf;refine Ja (Ja (Ja (FI i sub_set_self (Jd ?_))))
 rw[Jc Z];refine Ja (kZ ?_)
 refine Ja (Jd ?_)
 have hr:(s.heap.push (zU (! zu w))).get? s.heap.objs.size=↑(zU (! zu w)):=Jq _ Z
 have q:∀c o,s.heap.get? c=↑o->(s.heap.push (zU (! zu w))).get? c=↑o:=λc o e=>Jl _ e
 have O:SetK knd kf (s.heap.push (zU (! zu w))) a m:=N.at (q a)
 have D:SetK knd kf (s.heap.push (zU (! zu w))) b l:=I.at (q b)
 have M:=N.lt;have B:=I.lt;have L:s.heap.objs.size≠a:=(Jk M).symm
 have r:s.heap.objs.size≠b:=(Jk B).symm
 refine Ja (ge (s:={s with heap:=s.heap.push (zU (! zu w))}) L (tN hr) O (by lia) λh1 x G H=>Jd ?_)
 have C:((Γ.ref b:Γ) != Γ.ref a)=true:=by
  rw[bne_iff_ne];intro e;cases e;exact P Z
 rw[Jc C];have j:SetK knd kf h1 b l:=D.at λo1 e1=>by rw[x.2 b r.symm];exact e1
 have y:Θ.TypeIs {s with heap:=h1} (.ref b) "set":=j.type (s:={s with heap:=h1}) (h:=s.heap)
 refine Ja (Jd (Ja (JI ?_)))
 unfold γ.Frozenset.updateFrom;refine Ja (ZD y ?_)
 rw[Jc Z];refine Ja (Ja (Jd (Jd ?_)))
 unfold γ.Frozenset.merge;obtain⟨ob,eb,a0,tb,U,b2,R,S,_⟩:=id j;refine Ja (wpAny_setEpoch_of (s:={s with heap:=h1}) U R S ?_)
 have u:∀g f,Ψ.SameBut s.heap.objs.size h1 g->SetK knd kf g s.heap.objs.size f->f.Nodup->(∀k,k∈f↔k∈m\/k∈l)->Q (.ref s.heap.objs.size) {s with heap:=g}:=λg f d hk F p=>by
  refine h g f (λc o e=>?_) hk F p
  have W:c≠s.heap.objs.size:=Jk (Jj e)
  rw[d.2 c W,x.2 c W];exact q c o e
 by_cases X:m=[]
 ·subst X
  refine ge (s:={s with heap:=h1}) r (H Z) j (by lia) λg d n _=>?_
  exact Jd (Jd #[_,Z,(λe=>nomatch e),u g l d n nb λk=>by simp])
 ·refine Be (s:={s with heap:=h1}) J r G j X na Y (λs' Q' z hq=>?_) λg f d n F p=>?_
  ·unfold γ.Frozenset.unchanged
   refine Ja (wpAny_setEpoch_of (s:=s') (z _ U) R S ?_)
   simp only[bne_self_eq_false,Bool.false_eq_true,JD];exact Jd hq
  ·exact Jd (Jd #[_,Z,(λe=>nomatch e),u g f d n F p])
end
theorem cm{a:Type}(xs:Array a)(i:Nat):(SetTable.eraseAt xs i).toList=xs.toList.eraseIdx i:=by
 unfold SetTable.eraseAt;rw[Array.toList_append,Array.toList_extract,Array.toList_extract,List.eraseIdx_eq_take_drop_succ];congr 1
 simp
 exact Gn (by simp)
theorem nD{a:Type}{l:List a}{j:Nat}(c:j<l.length):(l[j]::l.eraseIdx j).Perm l:=by
 rw[List.eraseIdx_eq_take_drop_succ];refine List.perm_middle.symm.trans ?_
 rw[List.getElem_cons_drop,List.take_append_drop]
theorem Rs.erase{xs:Array Nat}(h:Rs xs)(i:Nat):Rs (SetTable.eraseAt xs i):=by
 unfold Rs;rw[cm];exact List.Pairwise.sublist (List.eraseIdx_sublist _ _) h
theorem AU{t:SetTable}{n i:Nat}(hf:t.fits n=true)(hi:i<n):(t.drop i).fits (n-1)=true/\(TOk t->TOk (t.drop i))/\(t.drop i).led=t.led:=by
 unfold SetTable.fits at hf;rw[JC,JW,decide_eq_true_eq]at hf;have c:i<t.place.size:=by lia
 have e:t.place[i]? =some t.place[i]:=getElem?_pos t.place i c
 unfold SetTable.drop;rw[e]
 dsimp only
 have d:(SetTable.eraseAt t.place i).size=n-1:=by rw[<- Jp,cm,List.length_eraseIdx_of_lt (by rw[Jp];exact c),Jp];lia
 have f:(SetTable.insertAt t.dummies (SetTable.below t.dummies t.place[i]) t.place[i]).size=t.dummies.size+1:=by
  rw[<- Jp,SetTable.toList_insertAt,Jv,JN,EX,FF,Jp];lia
 refine#[?_,λh a=>(h a).erase i,Z]
 unfold SetTable.fits SetTable.fill
 dsimp only
 rw[d,f];unfold SetTable.fill at hf;rw[JC,JW,decide_eq_true_eq]
 exact#[Z,by lia]
section
variable{prog:Ξ}{w:Ω}{K:Type} [DecidableEq K]{knd:PySem.KeyKind prog w K}{kf:Γ->K}
variable{A:Around}{E:GP}{s:Θ}
theorem vt(n:∀k v,knd.is k v=true->kf v=k){a:Δ}{ks:List K}{k:K}{x:Γ}{Q:Bool->Θ->Prop}(g:knd.is k x=true)(G:x.scannable=true)
  (I:SetK knd kf s.heap a ks)
  (h:∀h',Ψ.SameBut a s.heap h'->SetK knd kf h' a (ks.erase k)->Q (decide (k∈ks)) {s with heap:=h'}):
  ε (model prog w) A (setDiscardHashed a x (knd.hash k)) Q E s:=by
 obtain⟨o,es,ep,t,f,B,i,r,P,c,p,y⟩:=id I;have d:k∈ks↔∃e∈es.toList,knd.is k e.2=true:=by rw[<- p.mem_iff];exact mM n c k
 unfold setDiscardHashed setFind setFindIn;refine Ja (Ja (wpAny_setState_of f i r ?_))
 dsimp only
 rw[byScan_of G P c];simp only[↓reduceIte];refine Ja (E7 (Ja (wpAny_setScan_of g f i r c ?_)))
 cases hr:List.findIdx? (λe=>knd.is k e.2) es.toList with
 |none=>
  have hk:k∉ks:=λz=>by
   obtain⟨e,q,C⟩:=d.mp z
   have:=List.findIdx?_eq_none_iff.mp hr e q
   rw[C]at this;cases this
  dsimp only
  refine Jd (Jd ?_)
  have:=h s.heap (Ψ.SameBut.refl a s.heap) (by rw[List.erase_of_not_mem hk];exact I)
  rw[Jo hk]at this;exact this
 |some j=>
  obtain⟨u,m,_⟩:=List.findIdx?_eq_some_iff_getElem.mp hr
  have hk:k∈ks:=d.mpr #[es.toList[j],Fi u,m]
  have F:j<es.size:=by rw[<- Jp];exact u
  dsimp only
  refine Jd ?_
  dsimp only
  rw[Nat.zero_add];refine Ja (wpAny_setState_of f i r ?_)
  dsimp only
  obtain⟨M,O,L⟩:=AU r F;have H:=cm es j;have sz:(SetTable.eraseAt es j).size=es.size-1:=by rw[<- Jp,H,List.length_eraseIdx_of_lt u,Jp]
  have l:(SetTable.eraseAt es j).size<scanBound:=by lia
  refine Ja (wpAny_storeSet_of f i (Ja (wpAny_point (Jd ?_))) (fits_of_scanBound l))
  have C:(es.toList[j]::es.toList.eraseIdx j).Perm es.toList:=nD u
  have D:kf es.toList[j].2=k:=n k _ m
  have:=h _ (J8 s.heap a (Obj.putSet (SetTable.eraseAt es j) (t.drop j))) #[_,_,_,_,Zf f i _ _,B,Z,by rw[sz];exact M,l,?_,?_,?_]
  ·rw[Ji hk]at this;exact this
  ·intro e q
   rw[H]at q;exact c e ((List.eraseIdx_sublist _ _).subset q)
  ·rw[H]
   have J:=(C.map λe=>kf e.2).trans p
   rw[JS,D]at J
   exact(List.cons_perm_iff_perm_erase.mp J).2
  ·rcases y with z|⟨N,R⟩
   ·exact .inl z
   ·exact .inr #[L.trans N,O R]
theorem uZ(H:∀k v,knd.is k v=true->kf v=k){a b:Δ}(id:String)(U:b≠a){o:Obj}{es:Array (Int×Γ)}{ep:Nat}{t:SetTable}{m:List K}{Q:PUnit->Θ->Prop}(hd:o.data= .set es ep t)(hf:t.fits es.size=true)(i:Array (Int×Γ))(P:ElemsOf knd i.toList)(R:(i.toList.map λe=>kf e.2).Nodup)(hn:m.length+i.size+1<scanBound)
  (ho:s.heap.get? b=↑o)(hS:SetK knd kf s.heap a m)(G:m.Nodup)
  (h:∀h' j,Ψ.SameBut a s.heap h'->SetK knd kf h' a j->j.Nodup->j.length<=m.length+i.size->(∀k,k∈j↔¬(k∈m↔k∈(i.toList.map λe=>kf e.2)))->Q #[] {s with heap:=h'}):
  ε (model prog w) A (forIn i PUnit.unit λx _=>do
   holding [x.2] (do
    let d <- setDiscardHashed a x.2 x.1
    if(! d)=true then do
     let _ <- setAddHashed a x.2 x.1
     pure PUnit.unit
    else pure PUnit.unit)
   γ.Frozenset.unchanged id b ep
   pure (ForInStep.yield PUnit.unit)) Q E s:=by
 obtain⟨W,g,L,tk,M⟩:=s;refine PySem.MeetsSeq2.wpAny_forIn_array _ (λrest _ s'=>∃h' done j,s'=#[h',g,L,tk,M]/\i.toList=done++rest/\Ψ.SameBut a W h'/\SetK knd kf h' a j/\j.Nodup/\(∀k,k∈j↔¬(k∈m↔k∈(done.map λe=>kf e.2)))/\j.length<=m.length+done.length) _ ?_ ?_ i _ #[W,[],m,Z,Z,Ψ.SameBut.refl a W,hS,G,λk=>by simp,Jf _]
 ·rintro⟨hh,x⟩ rest _ s' ⟨h',done,j,rfl,e,X,I,G,C,len⟩
  have hx:(hh,x)∈i.toList:=by rw[e];exact JV _ JB
  obtain⟨⟨k,hk,p⟩,J⟩:=P _ hx
  dsimp only at hk p J⊢
  subst p;have kx:kf x=k:=H k x hk
  have a5:done.length+1<=i.size:=by
   have:=JH List.length e
   rw[Jp,Jv,JN]at this;lia
  have D:k∉(done.map λe=>kf e.2):=λz=>by
   rw[e,JK,Fv]at R;exact R.2.2 k z k (by rw[JS];show k∈kf x::_;rw[kx];exact JB) Z
  have mk:k∈j↔k∈m:=by
   rw[C k];constructor
   ·intro z
    refine Decidable.byContradiction λy=>z #[λu=>absurd u y,λu=>absurd u D]
   ·intro z y
    exact D (y.mp z)
  have N:∀B l,Ψ.SameBut a h' B->SetK knd kf B a l->l.Nodup->(∀r,r∈l↔(if r=k then k∉j else r∈j))->l.length<=j.length+1->∀(f:Θ->Prop),(∀s',(∃h' done j,s'=(#[h',g,L,tk,M]:Θ)/\i.toList=done++rest/\Ψ.SameBut a W h'/\SetK knd kf h' a j/\j.Nodup/\(∀k,k∈j↔¬(k∈m↔k∈(done.map λe=>kf e.2)))/\j.length<=m.length+done.length)->f s')->ε (model prog w) A (do
    γ.Frozenset.unchanged id b ep
    pure (ForInStep.yield PUnit.unit)) (λO s'=>match O with| .yield _=>f s'| .done b'=>Q b' s') E #[B,g,L,tk,M]:=by
   intro B l n q a0 T a4 f hZ;unfold γ.Frozenset.unchanged;have a1:B.get? b=↑o:=by rw[n.2 b U,X.2 b U];exact ho
   refine Ja (Ja (wpAny_setEpoch_of (s:=#[B,g,L,tk,M]) a1 hd hf ?_))
   simp only[bne_self_eq_false,Bool.false_eq_true,JD];refine Jd (Jd (hZ _ #[B,done++[(knd.hash k,x)],l,Z,by rw[e,Fh];rfl,X.trans n,q,a0,λr=>?_,by rw[Jv,Fd];lia]))
   rw[T,JK,JL]
   show _↔¬(_↔_\/r∈[kf x])
   rw[kx,Jh]
   by_cases c:r=k
   ·subst c
    rw[Jc Z,mk];constructor
    ·intro z y;exact z (y.mpr (.inr Z))
    ·intro z y;exact z #[λ_=> .inr Z,λ_=>y]
   ·rw[Jb c,C r]
    simp only[c,JF]
  refine Ja (JI (Ja (vt (s:=#[h',g,L,tk,M]) H hk J I λB n q=>?_)))
  by_cases F:k∈j
  ·rw[Ji F,Jb ⋯]
   refine Jd ?_
   refine Jw (N B _ n q (G.erase k) (λr=>?_) (JG (List.length_erase_le ..) (Fk _)) _ λs' z=>z) (λO s' z=>by cases O<;>exact z) λ_ _ z=>z
   by_cases c:r=k
   ·subst c
    rw[Jc Z]
    exact#[λz=>absurd z (List.Nodup.not_mem_erase G),λz=>absurd F z]
   ·rw[Jb c];exact List.mem_erase_of_ne c
  ·rw[Jo F,Jc (show(! false)=true from Z)]
   rw[List.erase_of_not_mem F]at q;refine Ja (sU (s:=#[B,g,L,tk,M]) H hk J q (by lia) λh3 Y S=>Jd ?_)
   rw[Jb F]at S;refine Jw (N h3 _ (n.trans Y) S ?_ (λr=>?_) (by rw[Jv];exact Jf _) _ λs' z=>z) (λO s' z=>by cases O<;>exact z) λ_ _ z=>z
   ·rw[Fv]
    exact#[G,by simp,λx1 a2 y1 a3 e1=>F (by rw[Jh.mp a3]at e1;rw[<- e1];exact a2)]
   ·rw[JL,Jh]
    by_cases c:r=k
    ·rw[Jc c];exact#[λ_=>F,λ_=> .inr c]
    ·rw[Jb c];exact#[λz=>z.resolve_right c,.inl]
 ·rintro _ s' ⟨h',done,j,rfl,e,X,I,G,C,len⟩
  rw[E3]at e;refine h h' j X I G (by rw[<- Jp,e];exact len) (by rw[e];exact C)
theorem jW:entryFor table "set.__xor__"=some γ.«frozenset.__xor__»:=
 entryFor_alias (id':="frozenset.__xor__") (by kernel_rfl) Z nofun (by kernel_rfl)
theorem Dz(x y:Γ):γ.«frozenset.__xor__» #[[x,y],[]]=(do
 if !(<- γ.Frozenset.isAnySet x <&&> γ.Frozenset.isAnySet y)then
  rule s!"frozenset.{"__xor__"}.declined"
  return <- ret .notImplemented
 ret (<- (λ(id:String) (l:Δ) (r:Γ)=>(do
  let a <- γ.Frozenset.newFrom id (<- γ.Frozenset.baseOf l) r
  holding [a] (γ.Frozenset.symmetricDifferenceUpdate id (<- γ.Frozenset.addrOf a) (.ref l))
  return a:Sem Γ)) s!"frozenset.{"__xor__"}" (<- γ.Frozenset.addrOf x) y)):=Z
theorem DB(O:∀k v,knd.is k v=true->kf v=k){a b:Δ}{d l:List K}{Q:GP}(b8:a≠b)(W:SetK knd kf s.heap a d)(M:SetK knd kf s.heap b l)(na:d.Nodup)(nb:l.Nodup)(la:d.length+l.length<=1000)(lb:l.length<=100)
  (h:∀h' p,(∀c o,s.heap.get? c=↑o->h'.get? c=↑o)->SetK knd kf h' s.heap.objs.size p->p.Nodup->p.length<=d.length+l.length->(∀k,k∈p↔¬(k∈d↔k∈l))->Q (.ref s.heap.objs.size) {s with heap:=h'}):
  ε (model prog w) A (binaryOp .BitXor (.ref a) (.ref b)) Q E s:=by
 have f:=W.type (h:=s.heap)
 have q:=M.type (h:=s.heap)
 refine wpAny_binaryOp_same (op:= .BitXor) (T:="set") f q PySem.F.fills_set_xor PySem.F.slot_set_xor (J5 PySem.F.slot_set_xor f jW ?_ (PySem.F.args_set_xor_2 _ _))
 rw[Dz];refine Ja (Ja (ZD f ?_))
 show ε _ _ (γ.Frozenset.isAnySet (Γ.ref b)) _ _ _
 refine ZD q ?_
 simp only[Bool.not_true,Bool.false_eq_true,JD];refine Ja (Jd (Ja ?_))
 unfold γ.Frozenset.newFrom γ.Frozenset.baseOf;refine Ja (Ja (FI f sub_set_self (Jd ?_)))
 rw[Jc Z];refine Ja (Ja (kZ ?_))
 have hr:(s.heap.push (zU (! zu w))).get? s.heap.objs.size=↑(zU (! zu w)):=Jq _ Z
 have n:∀c o,s.heap.get? c=↑o->(s.heap.push (zU (! zu w))).get? c=↑o:=λc o e=>Jl _ e
 have Y:SetK knd kf (s.heap.push (zU (! zu w))) a d:=W.at (n a)
 have j:SetK knd kf (s.heap.push (zU (! zu w))) b l:=M.at (n b)
 have U:=W.lt;have D:=M.lt;have g:s.heap.objs.size≠a:=(Jk U).symm
 have a0:s.heap.objs.size≠b:=(Jk D).symm
 refine Ja (Jd (Ja (JI ?_)))
 unfold γ.Frozenset.updateFrom;have x:Θ.TypeIs {s with heap:=s.heap.push (zU (! zu w))} (.ref b) "set":=j.type (s:={s with heap:=s.heap.push (zU (! zu w))}) (h:=s.heap)
 refine Ja (ZD x ?_)
 rw[Jc Z];refine Ja (Ja (Jd (Jd ?_)))
 unfold γ.Frozenset.merge;obtain⟨ob,eb,b5,tb,b1,b2,b3,b4,_⟩:=id j;refine Ja (wpAny_setEpoch_of (s:={s with heap:=s.heap.push (zU (! zu w))}) b1 b3 b4 ?_)
 refine ge (s:={s with heap:=s.heap.push (zU (! zu w))}) a0 (tN hr) j lb λh1 r I _=>Jd ?_
 have t:SetK knd kf h1 a d:=Y.at λo1 e1=>by rw[r.2 a g.symm];exact e1
 have i:Θ.TypeIs {s with heap:=h1} (.ref a) "set":=t.type (s:={s with heap:=h1}) (h:=s.heap)
 refine Ja (Jd (Ja (JI ?_)))
 unfold γ.Frozenset.symmetricDifferenceUpdate;have G:((Γ.ref a:Γ)==Γ.ref s.heap.objs.size)=false:=by
  rw[E9];intro e;cases e;exact g Z
 rw[G];simp only[Bool.false_eq_true,JD];refine Ja (FR i ?_)
 have H:((Γ.type "set":Γ)==Γ.type "dict")=false:=by decide
 rw[H];simp only[Bool.false_eq_true,JD];refine Ja (ZD i ?_)
 rw[Jc Z];refine Ja (Jd (Ja (Jd ?_)))
 obtain⟨oa,ea,b7,ta,R,a2,P,C,a5,a6,a7,a8⟩:=id t;refine Ja (wpAny_setEpoch_of (s:={s with heap:=h1}) R P C ?_)
 refine JI (Ja (pv (s:={s with heap:=h1}) R a2 P C a5 a6 a8 I λm h2 L u J=>?_))
 have b6:m.size=d.length:=by rw[<- Jp,L.length_eq,Jp,<- a7.length_eq,Je,Jp]
 have F:h2.get? a=↑oa:=by rw[u.2 a g.symm];exact R
 have e4:scanBound=4096:=Z
 have y:(m.toList.map λe=>kf e.2).Perm d:=(L.map λe=>kf e.2).trans a7
 refine Ja (uZ (s:={s with heap:=h2}) O (toString "frozenset."++toString "__xor__") g.symm P C m (a6.perm L) (y.nodup_iff.mpr na) (by lia) F J nb λh3 p B X S b0 z=>Jd (Jd (Jd #[_,Z,(λe=>nomatch e),?_])))
 refine h h3 p (λc o e=>?_) X S (by lia) λk=>?_
 ·have N:c≠s.heap.objs.size:=Jk (Jj e)
  rw[B.2 c N,u.2 c N,r.2 c N];exact n c o e
 ·rw[z,y.mem_iff]
  exact not_congr #[Iff.symm,Iff.symm]
end
end S0
namespace L3
open PySem PySem.Spec PyProof.Rows L2 S0
section
variable{prog:Ξ}{w:Ω}{A:Around}{E:GP}{s:Θ}
theorem sH{a:Δ}{ks:Β}{Q:GP}(P:A.handled=none)(D:SetK (PySem.intKind prog w) numOf s.heap a ks)(S:ks.length<64)
  (h:∀(h':Ψ) (tk:Nat) (d:Drawn) (l:Δ) (its:Ζ) (n:Nat) (ns:Β),s.heap.objs.size<=l->(∀b o,s.heap.get? b=↑o->h'.get? b=↑o)->h'.get? l=↑(seqObj "list" its.toArray n)->
   IntsAre its ns->ns.Perm ks->ns.Pairwise (· <= ·)->Q (.ref l) {s with heap:=h',toks:=tk,drawn:=d}):
  ε (model prog w) A (call (.builtin "sorted") [.ref a]) Q E s:=by
 obtain⟨o,es,ep,t,H,u,I,N,B,p,z,r⟩:=D;refine Calls.call_function_entry kind_sorted plain_sorted entry_sorted (args_sorted1 _) ?_
 unfold γ.«sorted»
 refine Ja (m:=checkCount "sorted" 1 1 _) (Jd ?_)
 refine Ja (iW P H u I N B r λvs h' tk d hk M x=>?_)
 have R:IntsAre vs (vs.map numOf):=by
  refine intsAre_map vs λv T=>?_
  obtain⟨e,J,rfl⟩:=Jt.mp (x.mem_iff.mp T)
  obtain⟨⟨k,h1,_⟩,_⟩:=p e J;obtain⟨G,F⟩:=Γ.isInt_shape h1
  exact#[k,G,F]
 have i:(vs.map numOf).Perm ks:=by
  refine(x.map numOf).trans ?_
  rw[ET];exact z
 have q:vs.length<=ζ:=by
  rw[x.length_eq,Je,Jp];exact fits_of_scanBound B
 have g:vs.length<64:=by
  have:=i.length_eq
  rw[Je]at this;omega
 refine Ja (wpAny_newList ?_ q)
 have c:(h'.push (seqObj "list" vs.toArray 0)).get? h'.objs.size=↑(seqObj "list" vs.toArray 0):=Jq _ Z
 show ε _ _ _ _ _ {s with heap:=h'.push (seqObj "list" vs.toArray 0),toks:=tk,drawn:=d}
 refine Ja (JI (J5 slot_list_sort #[_,c,Z] entry_list_sort (list_sort_tree c R g λout ns L O K=>#[_,Z,?_]) (args_list_sort _)))
 obtain⟨y,j⟩:∃y,(sortedHeap (h'.push (seqObj "list" vs.toArray 0)) h'.objs.size vs out).get? h'.objs.size=↑(seqObj "list" out y):=sortedHeap_at c
 refine Jd #[_,Z,h _ tk d h'.objs.size out.toList y ns M (λb o e=>?_) (by rw[j]) L (O.trans i) K]
 have C:=hk b o e;have f:b<h'.objs.size:=Jj C
 rw[sortedHeap_old (Jk f) (by rw[JX];exact EY f)]
 exact Jl _ C
end
section
variable{X:Cx}
theorem jV(hc:X.calm=true):zi X (.builtin "sorted") (λxs H Q=>∃(p:Δ) (ks:Β),xs=[.ref p]/\H p=↑(au X.prog X.w p ks)/\ks.length<64/\
  ∀l (ms:Β),H l=none->ms.Perm ks->ms.Pairwise (· <= ·)->Q (.ref l) (GW H l (.lst (ms.map V.int)))):=by
 intro Oa s σ H xs z Q I r h;obtain⟨p,ks,rfl,x,f,q⟩:=h;obtain⟨u,rfl,y⟩:=zM r;cases y;obtain⟨g,_⟩:=I.hok p _ x;have c:=SetK.len g;refine sH (I.ok.hd hc) g f λh' tk d l e n j m hk t v i w=>?_
 refine#[.ref l,_,(I.laid (a:=l) (o:= .lst (j.map V.int)) (t':=tk) hk m ?_).drw d,Z,q l j (I.hok.fresh m) i w]
 refine#[?_,e,n,ef v,t]
 rw[Je,i.length_eq];exact fits_of_scanBound c
inductive NV (X:Cx) (x:V) (y:V) (H:Hp) (Q:VK):Prop
 |mk (a b:Δ) (ka kb:Α) (h1:x= .ref a) (h2:y= .ref b) (h3:a≠b) (h4:H a=↑(aE X.prog X.w a ka)) (h5:H b=↑(aE X.prog X.w b kb)) (h6:ka.Nodup) (h7:kb.Nodup) (h8:ka.length+kb.length<=100) (h9:∀l ks,H l=none->ks.Nodup->(∀k,k∈ks↔k∈ka\/k∈kb)->Q (.ref l) (GW H l (aE X.prog X.w l ks)))
def Eo(X:Cx):R2:=λx y H Q=>NV X x y H Q
theorem Cg:zt X (binaryOp .BitOr) (Eo X):=by
 intro Oa s σ H x y v u Q I w l h;obtain⟨a,b,D,E,rfl,rfl,d,i,z,m,nb,g,q⟩:=h;cases w;cases l;obtain⟨A,_⟩:=I.hok a _ i;obtain⟨t,_⟩:=I.hok b _ z;refine El (vj _ _) d A t m nb g λh' p j f n c=>?_
 refine#[.ref s.heap.objs.size,_,I.laid (t':=s.toks) (o:=aE X.prog X.w s.heap.objs.size p) j (Jf _) #[f,?_,λh1 C r B=>r.at B],Z,q _ _ (I.hok.fresh (Jf _)) n c]
 obtain⟨o,_,_,_,e,_⟩:=f
 exact#[o,e]
inductive Nz (X:Cx) (x:V) (y:V) (H:Hp) (Q:VK):Prop
 |mk (a b:Δ) (ka kb:Β) (h1:x= .ref a) (h2:y= .ref b) (h3:a≠b) (h4:H a=↑(au X.prog X.w a ka)) (h5:H b=↑(au X.prog X.w b kb)) (h6:ka.Nodup) (h7:kb.Nodup) (h8:ka.length+kb.length<=1000) (h9:kb.length<=100) (h10:∀l ks,H l=none->ks.Nodup->ks.length<=ka.length+kb.length->(∀k,k∈ks↔¬(k∈ka↔k∈kb))->Q (.ref l) (GW H l (au X.prog X.w l ks)))
def DY(X:Cx):R2:=λx y H Q=>Nz X x y H Q
theorem AJ:zt X (binaryOp .BitXor) (DY X):=by
 intro Oa s σ H x y v u Q I z l h;obtain⟨a,b,E,F,rfl,rfl,d,i,A,m,nb,g,w,q⟩:=h;cases z;cases l;obtain⟨B,_⟩:=I.hok a _ i;obtain⟨t,_⟩:=I.hok b _ A;refine DB (uQ _ _) d B t m nb g w λh' p j f n len c=>?_
 refine#[.ref s.heap.objs.size,_,I.laid (t':=s.toks) (o:=au X.prog X.w s.heap.objs.size p) j (Jf _) #[f,?_,λh1 D r C=>r.at C],Z,q _ _ (I.hok.fresh (Jf _)) n len c]
 obtain⟨o,_,_,_,e,_⟩:=f
 exact#[o,e]
end
end L3
namespace L3
open PySem PySem.Spec PyProof.Rows L2 SeqAt
section
variable{X:Cx}
theorem Al{Oa:GR}{σ:L2.St}{H:Hp}{s:Θ}{A:Around}(I:L2.GX X Oa σ H s){a b:Δ}{z c:Int×Int}(h1:H a=↑(.tup [.int z.1,.int z.2]))(h2:H b=↑(.tup [.int c.1,.int c.2]))(hu:A.units<cLine):EqAt A s (.ref a) (.ref b) (decide (z=c)):=by
 by_cases i:a=b
 ·subst i
  rw[h1]at h2;injection h2 with h2
  injection h2 with h2
  have e:z=c:=by
   simp only[List.cons.injEq,V.int.injEq,and_true]at h2;exact Prod.ext h2.1 h2.2
  rw[Ji e];exact EqAt.same _
 ·obtain⟨h,p,q,_⟩:=I.tuple (G9.of (K:=X.K) h1)
  obtain⟨d,o,p2,_⟩:=I.tuple (G9.of (K:=X.K) h2)
  have m:=p.length;have l:=o.length;have e:=RcAt.tuples (A:=A) (e:=λj=>[z.1,z.2].getD j 0==[c.1,c.2].getD j 0) (show s.heap.IsTuple a h.toArray from q) (show s.heap.IsTuple b d.toArray from p2) hu (λj h1 h2=>by
   have g:j<h.length:=by simpa using h1
   have f:j<d.length:=by simpa using h2
   obtain⟨t,e⟩:=eY (ns:=[z.1,z.2]) p j g (by rw[<- m]at g;exact g)
   obtain⟨v,u⟩:=eY (ns:=[c.1,c.2]) o j f (by rw[<- l]at f;exact f)
   simp only[List.getElem_toArray,e,u,Jz,Jg (show j<[z.1,z.2].length by rw[<- m]at g;exact g),Jg (show j<[c.1,c.2].length by rw[<- l]at f;exact f),Fn]
   exact EqAt.int_int _ _ _ _)
  have es:h.toArray.size=2:=by rw[Jr];exact m.symm
  have n:d.toArray.size=2:=by rw[Jr];exact l.symm
  rw[es,n]at e;have e:RcAt A s (.ref a) (.ref b) ((z.1==c.1&&(z.2==c.2&&true))&&true):=e
  have r:((z.1==c.1&&(z.2==c.2&&true))&&true)=decide (z=c):=by
   rw[Fb];simp [Prod.ext_iff]
  rw[r]at e;exact EqAt.of_refs i e
inductive NW (x:V) (y:V) (H:Hp) (Q:VK):Prop
 |mk (a b:Δ) (zs ws:List (Int×Int)) (h1:x= .ref a) (h2:y= .ref b) (h3:Lz H a zs) (h4:Lz H b ws) (h5:Q (.bl (decide (zs≠ws))) H)
def Eu:R2:=λx y H Q=>NW x y H Q
theorem CS{k:Nat}(hr:HB k X.A):zt X (compareOp .NotEq) Eu:=by
 intro Oa s σ H x y v u Q I m l h;obtain⟨a,b,zs,f,rfl,rfl,⟨W,G,R,N⟩,⟨bs,S,L,T⟩,q⟩:=h;cases m;cases l;obtain⟨d,w,P,_⟩:=I.tuple (G9.of (K:=X.K) G)
 obtain⟨c,r,p2,_⟩:=I.tuple (G9.of (K:=X.K) S)
 have E:=w.length;have B:=r.length;rw[Je]at E B;have U:X.A.units+2<cLine:=by have:=hr.un;lia
 have e:=RcNeAt.tuples (A:=X.A) (e:=λj=>decide (zs.getD j (0,0)=f.getD j (0,0))) (show s.heap.IsTuple a d.toArray from P) (show s.heap.IsTuple b c.toArray from p2) (by lia) (λj h1 g=>by
  have p:j<d.length:=by simpa using h1
  have n:j<c.length:=by simpa using g
  obtain⟨x,ex,m⟩:=zR w p;obtain⟨y,C,l⟩:=zR r n;rw[Jn]at ex C;obtain⟨F,o,rfl⟩:=JZ.mp ex;obtain⟨t,i,rfl⟩:=JZ.mp C;have z:j<zs.length:=by lia
  have D:j<f.length:=by lia
  simp only[List.getElem_toArray];rw[show d[j]=Γ.ref F from m,show c[j]=Γ.ref t from l,Jz,Jz,Jg z,Jg D,Fn,Fn]
  exact Al I (N j F _ o (Jg z)) (T j t _ i (Jg D)) (by rw[Ga];lia))
 have O:(!((List.range (min d.toArray.size c.toArray.size)).all (λj=>decide (zs.getD j (0,0)=f.getD j (0,0)))&&d.toArray.size==c.toArray.size))=decide (zs≠f):=by
  rw[Jr,Jr,<- E,<- B,R,L];rw[Fb,Bool.not_eq_true',decide_eq_true_eq,<- Bool.not_eq_true,JC,FC,JW];refine not_congr #[λ⟨h1,g⟩=>?_,λh=>?_]
  ·refine List.ext_getElem g λj M J=>?_
   have:=Jx (h1 j (J1.mpr (by lia)))
   rw[Jz,Jz,Jg M,Jg J]at this;exact this
  ·subst h
   exact#[λj _=>Ji Z,Z]
 rw[O]at e;exact e _ _ _ _ #[.bl _,H,I,Z,q]
end
end L3
namespace Lw
open PySem L2 L3
theorem GH:0<=ζ:=by decide
theorem GI:1<=ζ:=by decide
theorem GJ:2<=ζ:=by decide
theorem GK:3<=ζ:=by decide
theorem GL:4<=ζ:=by decide
theorem GM:5<=ζ:=by decide
theorem GN:9<=ζ:=by decide
theorem GO:16<=ζ:=by decide
def qU(i:Nat):δ:=PySem.Challenge.pw_rollcode_k35_rows_that_tell.main.body.getD i (.Pass #[0,0,0,0])
abbrev aZ:δ:=qU 3
abbrev bM:δ:=qU 4
abbrev av:δ:=qU 5
abbrev aI:δ:=qU 6
abbrev ij:δ:=qU 7
abbrev du:δ:=qU 8
abbrev cW:δ:=qU 14
abbrev eG:δ:=qU 15
abbrev bI:δ:=qU 16
abbrev Zk:δ:=qU 17
abbrev fU:δ:=qU 18
abbrev ZA:δ:=qU 19
abbrev bY:δ:=qU 20
abbrev aB:δ:=qU 21
abbrev eU:δ:=qU 39
abbrev eD:δ:=qU 40
abbrev Q1:δ:=zB (qU 42) 0
abbrev ZC:δ:=zB (qU 42) 2
abbrev Zb:δ:=zB (qU 42) 8
abbrev Q7:δ:=zB (qU 42) 11
abbrev QN:δ:=zB (qU 42) 10
abbrev zZ:δ:=zB (qU 42) 9
abbrev Q8:δ:=zB (qU 42) 7
abbrev aX:δ:=zB (qU 42) 6
abbrev QP:δ:=zB (qU 42) 12
abbrev az:δ:=zB (qU 42) 1
abbrev QC:δ:=zB (qU 42) 5
abbrev Za:δ:=zB (qU 42) 13
abbrev Zu:δ:=zB (qU 42) 14
abbrev QQ:δ:=zB (qU 42) 15
abbrev Qz:δ:=zB (qU 42) 16
abbrev ZG:δ:=zB (qU 42) 18
abbrev ZF:δ:=qU 23
abbrev ZX:δ:=qU 25
abbrev am:δ:=qU 30
abbrev bj:δ:=qU 28
abbrev ZZ:δ:=qU 27
abbrev ZW:δ:=qU 26
abbrev ax:δ:=qU 29
abbrev dy:δ:=qU 24
abbrev cu:δ:=qU 32
abbrev Zm:δ:=qU 31
abbrev eF:δ:=qU 44
abbrev bZ:δ:=qU 45
abbrev aW:δ:=qU 46
abbrev eP:δ:=qU 47
abbrev aV:δ:=qU 48
abbrev ca:δ:=qU 50
abbrev cp:δ:=qU 51
abbrev aY:δ:=qU 52
abbrev aH:δ:=qU 53
abbrev bi:δ:=qU 54
abbrev ay:δ:=qU 55
abbrev cg:δ:=qU 56
abbrev aU:δ:=qU 57
abbrev af:δ:=qU 49
abbrev eM:δ:=qU 58
abbrev bu:δ:=qU 59
abbrev a9:δ:=qU 60
abbrev db:δ:=qU 61
abbrev fY:δ:=qU 62
abbrev Z6:δ:=qU 63
theorem qT{N P:Α}{c:Scope}(h1:c.kind= .function:=by rfl)(h2:c.isCoroutine=false:=by rfl)(a:c.isGenerator=false:=by rfl)(d:N.Nodup:=by decide +kernel)(g:N.take P.length=P:=by rfl)(f:∀x∈P,c.names.lookup x=some .local\/c.names.lookup x=some .cell:=by decide +kernel)(e:∀y∈c.names,y.2≠ .free:=by decide +kernel):GU N P c:=#[h1,h2,a,d,g,f,e]
theorem ko:GU (["thing"]:Α) (["thing"]:Α) (qi aZ):=qT
theorem nu:GU (["thing"]:Α) (["thing"]:Α) (qi bM):=qT
theorem jP:GU (["things"]:Α) (["things"]:Α) (qi av):=qT
theorem Ig:GU (["table","back","place","digit"]:Α) (["table"]:Α) (qi aI):=qT
theorem IR:GU (["table","key","digits","row","shift","place","ahead"]:Α) (["table","key","digits"]:Α) (qi ij):=qT
theorem HZ:GU (["table","key","digits","back","row","shift","place","ahead"]:Α) (["table","key","digits"]:Α) (qi du):=qT
theorem sv:GU (["thing"]:Α) (["thing"]:Α) (qi cW):=qT
theorem rg:GU (["thing"]:Α) (["thing"]:Α) (qi eG):=qT
theorem Iv:GU (["thing","name","age","code"]:Α) (["thing"]:Α) (qi bI):=qT
theorem HK:GU (["name","digits","letter","place"]:Α) (["name"]:Α) (qi Zk):=qT
theorem IT:GU (["table","key","name","sums","place","digit"]:Α) (["table","key","name"]:Α) (qi fU):=qT
theorem hJ:GU (["count"]:Α) (["count"]:Α) (qi ZA):=qT
theorem IS:GU (["table","key","name","age","count","deed","four","five"]:Α) (["table","key","name","age","count","deed"]:Α) (qi bY):=qT
theorem Hl:GU (["table","key","press","name","age","code","low","middle","high","deed","check"]:Α) (["table","key","press"]:Α) (qi aB):=qT
theorem sF:GU (["count","last","near","far"]:Α) (["count","last","near","far"]:Α) (qi eU):=qT
theorem Ia:GU (["button","age","count","near","far","own_age","last","waiting","word"]:Α) (["button","age","count","near","far"]:Α) (qi eD):=qT
theorem bF:GU (["self","table","keys","near","far","most"]:Α) (["self","table","keys","near","far","most"]:Α) (qi Q1):=qT
theorem gN:GU (["self"]:Α) (["self"]:Α) (qi ZC):=qT
theorem fF:GU (["self","name"]:Α) (["self","name"]:Α) (qi Zb):=qT
theorem fA:GU (["self","age"]:Α) (["self","age"]:Α) (qi Q7):=qT
theorem eE:GU (["self","button","age"]:Α) (["self","button","age"]:Α) (qi QN):=qT
theorem ZU:GU (["self","button","age","count"]:Α) (["self","button","age","count"]:Α) (qi zZ):=qT
theorem G1:GU (["self","press","name","age","code","button","pair","count","deed","word","behind"]:Α) (["self","press"]:Α) (qi Q8):=qT
theorem La:GU (["self","thing","answer"]:Α) (["self","thing"]:Α) (qi aX):=qT
theorem eT:GU (["self","thing"]:Α) (["self","thing"]:Α) (qi QP):=qT
theorem HF:GU (["self","one","other","first","second","name","age","code"]:Α) (["self","one","other"]:Α) (qi az):=qT
theorem cL:GU (["self","age"]:Α) (["self","age"]:Α) (qi QC):=qT
theorem fB:GU (["self"]:Α) (["self"]:Α) (qi Za):=qT
theorem gk:GU (["self"]:Α) (["self"]:Α) (qi Zu):=qT
theorem cP:GU (["self"]:Α) (["self"]:Α) (qi QQ):=qT
theorem cM:GU (["self"]:Α) (["self"]:Α) (qi Qz):=qT
theorem gu:GU (["self"]:Α) (["self"]:Α) (qi ZG):=qT
theorem Hi:GU (["door","button","age","near","far","most","own_age","last","waiting","stretches","after"]:Α) (["door","button","age"]:Α) (qi ZF):=qT
theorem io:GU (["door"]:Α) (["door"]:Α) (qi ZX):=qT
theorem jY:GU (["one","first","other","second"]:Α) (["one","first","other","second"]:Α) (qi am):=qT
theorem me:GU (["stretches"]:Α) (["stretches"]:Α) (qi bj):=qT
theorem iN:GU (["these","those"]:Α) (["these","those"]:Α) (qi ZZ):=qT
theorem HV:GU (["one","first","other","second","age","these","those"]:Α) (["one","first","other","second"]:Α) (qi ZW):=qT
theorem Ho:GU (["one","first","other","second","age","end","count","word","here","there","press"]:Α) (["one","first","other","second"]:Α) (qi ax):=qT
theorem Ib:GU (["one","other","names","name","press","pair"]:Α) (["one","other"]:Α) (qi dy):=qT
theorem Hw:GU (["door","row","buttons","told","name","age","count","word","behind"]:Α) (["door","row"]:Α) (qi cu):=qT
theorem Ic:GU (["one","other","row","these","those"]:Α) (["one","other","row"]:Α) (qi Zm):=qT
theorem Ie:GU (["_law_script","_law_k","_law_cell","_law_fold","_law_one"]:Α) (["_law_script","_law_k"]:Α) (qi eF):=qT
theorem Ii:GU (["_law_box_here","_law_many","_law_digit","_law_m","_law_turn"]:Α) (["_law_box_here","_law_many"]:Α) (qi bZ):=qT
theorem Lc:GU (["_law_box_here","_law_rest"]:Α) (["_law_box_here"]:Α) (qi aW):=qT
theorem sI:GU (["_law_box_here"]:Α) (["_law_box_here"]:Α) (qi eP):=qT
theorem km:GU (["_law_near","_law_far","_law_keys"]:Α) (["_law_near","_law_far","_law_keys"]:Α) (qi aV):=qT
theorem HQ:GU (["_law_own","_law_plain_here","_law_name","_law_age","_law_count","_law_row_here","_law_gone"]:Α) (["_law_own","_law_plain_here"]:Α) (qi ca):=qT
theorem Ij:GU (["_law_own","_law_plain_here","_law_word_here","_law_name","_law_age","_law_count"]:Α) (["_law_own","_law_plain_here"]:Α) (qi cp):=qT
theorem Ir:GU (["_law_code","_law_plain_here","_law_deed","_law_name","_law_age","_law_count"]:Α) (["_law_code","_law_plain_here","_law_deed"]:Α) (qi aY):=qT
theorem HM:GU (["_law_code","_law_pair_here","_law_name","_law_told","_law_place","_law_age","_law_last","_law_presses"]:Α) (["_law_code","_law_pair_here","_law_name","_law_told"]:Α) (qi aH):=qT
theorem Ld:GU (["_law_code","_law_pair_here","_law_plain_here","_law_places","_law_place"]:Α) (["_law_code","_law_pair_here","_law_plain_here","_law_places"]:Α) (qi bi):=qT
theorem Ih:GU (["_law_box_here","_law_near","_law_far","_law_other"]:Α) (["_law_box_here"]:Α) (qi ay):=qT
theorem GY:GU (["_law_box_here","_law_drawn_here","_law_names","_law_many","_law_base","_law_code","_law_pair_here","_law_near","_law_far","_law_name","_law_age","_law_last","_law_other","_law_way","_law_some","_law_told","_law_turn","_law_plain_here","_law_door","_law_own"]:Α) (["_law_box_here","_law_drawn_here"]:Α) (qi cg):=qT
theorem Iu:GU (["_law_box_here","_law_some","_law_many","_law_names"]:Α) (["_law_box_here"]:Α) (qi aU):=qT
theorem IU:GU (["_law_own","_law_made"]:Α) (["_law_own"]:Α) (qi af):=qT
theorem IX:GU (["_law_owns","_law_row_here","_law_made","_law_opened"]:Α) (["_law_owns","_law_row_here"]:Α) (qi eM):=qT
theorem kH:GU (["_law_door"]:Α) (["_law_door"]:Α) (qi bu):=qT
theorem IJ:GU (["_law_box_here","_law_drawn_here","_law_names","_law_name","_law_age"]:Α) (["_law_box_here","_law_drawn_here"]:Α) (qi a9):=qT
theorem HJ:GU (["_law_box_here","_law_drawn_here","_law_told","_law_row_here","_law_way","_law_made","_law_at","_law_name","_law_age","_law_count"]:Α) (["_law_box_here","_law_drawn_here","_law_told"]:Α) (qi db):=qT
theorem ue:GU (["_law_found","_law_due_here"]:Α) (["_law_found","_law_due_here"]:Α) (qi fY):=qT
theorem HG:GU (["_law_script","_law_k","_law_box_here","_law_drawn_here","_law_code","_law_pair_here","_law_one","_law_here","_law_other","_law_there","_law_told","_law_turn","_law_row_here","_law_kept","_law_held","_law_found"]:Α) (["_law_script"]:Α) (qi Z6):=qT
structure HN(K:ι)(mg:GQ)(tk:Nat->Tok):Prop where
 g_DIGITS:mg "DIGITS"=↑(.int 16 (tk 0))
 g_KEY_PLACES:mg "KEY_PLACES"=↑(.int 4 (tk 1))
 g_LONGEST_NAME:mg "LONGEST_NAME"=↑(.int 8 (tk 2))
 g_CODE_DIGITS:mg "CODE_DIGITS"=↑(.int 5 (tk 3))
 g_COUNTS:mg "COUNTS"=↑(.int 4096 (tk 4))
 b_isinstance:mg "isinstance"=none
 b_bool:mg "bool"=none
 b_int:mg "int"=none
 b_tuple:mg "tuple"=none
 b_all:mg "all"=none
 b_any:mg "any"=none
 b_len:mg "len"=none
 b_abs:mg "abs"=none
 b_list:mg "list"=none
 b_enumerate:mg "enumerate"=none
 b_range:mg "range"=none
 b_max:mg "max"=none
 b_min:mg "min"=none
 b_str:mg "str"=none
 b_zip:mg "zip"=none
 b_ord:mg "ord"=none
 b_sum:mg "sum"=none
 b_reversed:mg "reversed"=none
 b_sorted:mg "sorted"=none
 b_dict:mg "dict"=none
 b_set:mg "set"=none
section
variable{P:Ξ}{w:Ω}{K:ι}{mg:GQ}{base:Ψ}{tk:Nat->Tok}
theorem lN(a:At K mg "is_number" aZ ["thing"])(T:HN K mg tk):Df P w K mg base "is_number" W5 1 fV:=by
 refine a.dq ko λf _ A _ s H vs Q E d h=>?_
 ·obtain⟨x,t,rfl,hk,q⟩:=h
  obtain⟨ty,c⟩:=DG (K:=K) hk
  refine#[_,(qg (qr (Zl (qx fS T.b_isinstance F0 (qd (qv 0) (qd (ab (v:= .ty "int") Z T.b_int GD Z) qb))) (ZO (Cj (qx fS T.b_isinstance F0 (qd (qv 0) (qd (ab (v:= .ty "bool") Z T.b_bool PyProof.Rows.boot_bool Z) qb)))))))),?_]
  rw[Bo hk]at q;refine#[_,Z,x,"int",t,Z,ty,c,by simp,_,Z,?_]
  cases hi:aC t "int" with
  |false=>
   refine zw ?_
   rw[hi,EW]at q;exact q
  |true=>
   refine zx ?_
   rw[hi,E6]at q
   exact#[_,Z,x,"bool",t,Z,ty,c,by simp,_,Z,q]
theorem nQ(a:At K mg "is_digit" bM ["thing"])(T:HN K mg tk)(g:Df P w K mg base "is_number" W5 1 fV):Df P w K mg base "is_digit" W5 2 oH:=by
 refine a.dq nu λf _ A _ s H vs Q E e h=>?_
 ·obtain⟨x,t,rfl,hk,q⟩:=h
  refine#[_,(qg (qr (Zl (qp g e.mo (qd (qv 0) qb)) (ZO (fR ZK ff qf (qv 0) (zj (v:= .int 16) Z T.g_DIGITS #[_,Z])))))),?_]
  refine#[_,Z,x,t,Z,hk,_,Z,?_]
  cases hn:fN x with
  |false=>
   refine zw ?_
   rw[uY hn]at q;exact q
  |true=>
   refine zx ?_
   obtain⟨i,rfl⟩:=v8 hn;refine#[_,Z,_,_,Z,Z,_,Z,?_]
   have c:Q (.bl (decide (0<=i)&&decide (i<16))) H:=q
   refine qW (λd=>?_) (λd=>?_)
   ·refine#[_,_,Z,Z,?_]
    rw[d,E6]at c;exact c
   ·rw[Gc.mpr d,EW]at c
    exact c
theorem jS(a:At K mg "are_digits" av ["things"])(T:HN K mg tk)(m:Df P w K mg base "is_digit" W5 2 oH):Df P w K mg base "are_digits" ["things"] 3 k9:=by
 refine a.dq jP λf _ A _ s H vs Q E o h=>?_
 ·obtain⟨p,xs,rfl,g,n,hk,q⟩:=h
  refine#[_,(qg (qr (qx (c9 Z) T.b_all GF (qd (zA (own:=["thing"]) (fr:=[]) (js:=[]) Z (Zv (qv 0)) Z (λ_ _ h=>nomatch h) Z (Zr Z nofun nofun nofun) (λ_ _ _ _=>qh (i:=0) (show List.Nodup (["thing"]:Α)from by decide +kernel) Z (Or.inl Z) (.inr Z)) (λ_ _ _ _=>(qp m o.mo (qd (qv 0) qb)))) qb)))),?_]
  refine#[_,Z,p,Z,#[xs,G9.of g],Q5 (xs:=xs) n (λi ys d=>ys=(xs.take i).map (λx=>V.bl (cn x))/\GS H d) #[by simp,GS.refl H] (λi ys d ⟨_,c⟩=>G9.of (c _ _ g)) ?_ ?_]
  ·rintro i ys d x e _ ⟨rfl,c⟩
   obtain⟨t,j⟩:=hk x (JP e)
   refine#[_,Z,x,t,Z,fh c j,?_,c]
   rw[J9,e];simp
  ·rintro ys d _ ⟨rfl,c⟩ l r
   rw[E5];refine#[l,xs.map cn,Z,G0.of (by rw[ET];exact qc),?_]
   rw[List.all_map];exact q _ (c.trans (GS.upd r))
theorem pR(a:At K mg "is_name" cW ["thing"])(T:HN K mg tk):Df P w K mg base "is_name" W5 1 jy:=by
 refine a.dq sv λf _ A _ s H vs Q E C h=>?_
 ·obtain⟨x,b,rfl,u,q⟩:=h
  refine#[_,(qe (qK (QW.pt (Zt (Qc (Ql (qx da T.b_isinstance F0 (qd (qv 0) (qd (ab (v:= .ty "str") Z T.b_str PyProof.Rows.boot_str Z) qb))))) (QX (Qc (mV ZK ZK qf (qx ly T.b_len J6 (qd (qv 0) qb)) (zj (v:= .int 8) Z T.g_LONGEST_NAME #[_,Z])))))) (qg (qr Z5)) qF)
   (qg (qr (qx (c9 Z) T.b_all GF (qd (zA (own:=["letter"]) (fr:=[]) (js:=[]) Z (uB (qv 0)) Z (λ_ _ h=>nomatch h) Z (Zr Z nofun nofun nofun) (λ_ _ _ _=>qh (i:=0) (show List.Nodup (["letter"]:Α)from by decide +kernel) Z (Or.inl Z) (.inr Z)) (λ_ _ _ _=>(fR i7 i7 qA (qv 0) qA))) qb))))),?_]
  rcases u with⟨z,rfl,o,B,rfl⟩|⟨t,hk,p,rfl⟩
  case inr=>
   refine#[_,Z,x,"str",t,Z,k7 hk,by simp,_,Z,?_]
   rw[p];exact zx (q _ (GS.refl _))
  have D:z.length=z.cps.toList.length:=Z
  refine#[_,Z,_,"str","str",Z,.str z,by simp,_,Z,?_]
  refine zw ?_
  refine#[_,Z,z,Z,by rw[Ju];lia,_,_,Z,Z,_,Z,?_]
  unfold yo at q
  by_cases h1:1<=z.length
  case neg=>
   refine Qe (Jo (by lia)) #[_,Z,zx ?_]
   rw[Jo h1,EW,EW]at q;exact q _ (GS.refl _)
  refine zP (Ji (by lia)) ?_
  refine#[_,_,Z,Z,_,Z,?_]
  rw[Ji h1,E6]at q
  by_cases m:z.length<=8
  case neg=>
   refine zP (by rw[Jo (by lia:¬((z.length:Nat):Int)<=8)];rfl) ?_
   rw[Jo m,EW]at q;exact q _ (GS.refl _)
  refine Qe (by rw[Ji (by lia:((z.length:Nat):Int)<=8)];rfl) ?_
  rw[Ji m,E6]at q;refine#[_,Z,z,Z,o,xx (by show z.cps.toList.length<=_;rw[Ju];lia) (λi ys e=>e=H/\ys=((z.cps.toList.take i).map kK).map V.bl) #[Z,Z] ?_ ?_]
  ·rintro i ys e c y _ ⟨rfl,rfl⟩
   have j:=oZ y;obtain⟨n,r⟩:=sT c;refine#[_,Z,_,_,Z,Z,_,Z,?_]
   rw[J9,j,JK,JK]
   by_cases d:97<=c
   ·refine zP (by rw[n,Ji d]) #[_,_,Z,Z,Z,?_]
    rw[r]
    show _=_++[V.bl (decide (97<=c)&&decide (c<=122))]
    rw[Ji d,E6]
   ·refine Qe (by rw[n,Jo d]) #[Z,?_]
    show _=_++[V.bl (decide (97<=c)&&decide (c<=122))]
    rw[Jo d,EW]
  ·rintro ys e B ⟨rfl,rfl⟩ l g
   refine#[l,z.cps.toList.map kK,Z,G0.of (by rw[show z.cps.size=z.cps.toList.length from Z,E5];exact qc),?_]
   rw[List.all_map];exact q _ (GS.upd g)
theorem rQ(a:At K mg "is_code" eG ["thing"])(T:HN K mg tk)(g:Df P w K mg base "are_digits" ["things"] 3 k9):Df P w K mg base "is_code" W5 4 jh:=by
 refine a.dq rg λf _ A _ s H vs Q E j h=>?_
 ·obtain⟨x,b,rfl,l,q⟩:=h
  refine#[_,(qe (qK (Qc (Ql (qx da T.b_isinstance F0 (qd (qv 0) (qd (ab (v:= .ty "tuple") Z T.b_tuple J0 Z) qb))))) (qg (qr Z5)) qF)
   (qg (qr (Zl (zS zE (qx qY T.b_len J6 (qd (qv 0) qb)) (zj (v:= .int 5) Z T.g_CODE_DIGITS #[_,Z]) (qB _)) (ZO (qp g j.mo (qd (qv 0) qb))))))),?_]
  rcases l with⟨e,ds,rfl,d,m,hk,rfl⟩|⟨t,hk,i,rfl⟩
  case inr=>
   refine#[_,Z,x,"tuple",t,Z,k7 hk,by simp,_,Z,?_]
   rw[i];exact zx (q _ (GS.refl _))
  refine#[_,Z,_,"tuple","tuple",Z,.tup (.inl d),by simp,_,Z,?_]
  refine zw ?_
  refine#[_,Z,e,_,Z,.inr (G9.of d),Z,_,Z,?_]
  by_cases c:ds.length=5
  ·refine zP (Ji (by rw[c];rfl)) ?_
   refine#[_,Z,e,_,Z,d,by rw[Ju];lia,hk,λH' s'=>?_]
   rw[Ji c,E6]at q;exact q _ s'
  ·rw[Jo c,EW]at q
   refine Qe (Jo (by intro z;injection z with z;lia)) ?_
   exact q _ (GS.refl _)
theorem nv(a:At K mg "is_press" bI ["thing"])(T:HN K mg tk)(j:Df P w K mg base "is_name" W5 1 jy)(r:Df P w K mg base "is_number" W5 1 fV)(o:Df P w K mg base "is_code" W5 4 jh):Df P w K mg base "is_press" W5 5 cq:=by
 refine a.dq Iv λf _ A _ s H vs Q E g h=>?_
 ·obtain⟨x,b,rfl,p,q⟩:=h
  refine#[_,(qe (qK (QW.pt (Zt (Qc (Ql (qx da T.b_isinstance F0 (qd (qv 0) (qd (ab (v:= .ty "tuple") Z T.b_tuple J0 Z) qb))))) (QX (qE gx (qx qY T.b_len J6 (qd (qv 0) qb)) qf (qB _))))) (qg (qr Z5)) qF)
   (qe (q9 (qv 0) (ze Z (ql (qh (i:=1) Iv.nd Z (Or.inl Z)) (ql (qh (i:=2) Iv.nd Z (Or.inl Z)) (ql (qh (i:=3) Iv.nd Z (Or.inl Z)) qM)))))
   (qg (qr (Zl (qp j g.mo (qd (qv 1) qb)) (Zl (qp r g.mo (qd (qv 2) qb)) (ZO (qp o g.mo (qd (qv 3) qb))))))))),?_]
  cases p with
  | @kd t hk hs=>
   refine#[_,Z,x,"tuple",t,Z,k7 hk,by simp,_,Z,?_]
   rw[hs];exact zx (q _ (GS.refl _))
  | @len a xs e h l n=>
   subst e;refine#[_,Z,_,"tuple","tuple",Z,.tup (.inl h),by simp,_,Z,?_]
   refine zw ?_
   refine#[_,Z,a,_,Z,.inr (G9.of h),Z,_,Z,?_]
   refine zP (by rw[Jo (by intro z;injection z with z;lia)];rfl) ?_
   exact q _ (GS.refl _)
  | @tup a n y c bn bc ty e h hn hy hc=>
   subst e;refine#[_,Z,_,"tuple","tuple",Z,.tup (.inl h),by simp,_,Z,?_]
   refine zw ?_
   refine#[_,Z,a,_,Z,.inr (G9.of h),Z,_,Z,?_]
   refine rB Z ?_
   refine#[_,Z,a,_,Z,.tup h,Z,_,_,Z,_,_,Z,_,_,Z,Z,?_]
   refine#[_,Z,n,bn,Z,hn,λH1 d=>#[_,Z,?_]]
   cases bn with
   |false=>exact zw (q _ d)
   |true=>
    refine zx ?_
    refine#[_,Z,y,ty,Z,fh d hy,_,Z,?_]
    cases hnum:fN y with
    |false=>
     rw[hnum]at q;exact zw (q _ d)
    |true=>
     rw[hnum]at q;refine zx ?_
     exact#[_,Z,c,bc,Z,hc.same d,λu m=>q _ (d.trans m)]
theorem p7(a:At K mg "word_of" eU ["count","last","near","far"])(T:HN K mg tk):Df P w K mg base "word_of" ["count","last","near","far"] 1 pG:=by
 refine a.dq sF λf _ A _ s H vs Q E d h=>?_
 ·obtain⟨c,l,n,f,rfl,q⟩:=h
  unfold pP at q;refine#[_,(qe (qK (qE ZK (qv 0) (qv 1) (qB _)) (qg (qr qA)) qF)
   (qe (qK (qE ZK (qv 0) (qu qI (qv 1) (qv 2)) (qB _)) (qg (qr qA)) qF)
   (qe (qK (qE ZK (qv 0) (qu qI (qv 1) (qv 3)) (qB _)) (qg (qr qA)) qF)
   (qg (qr qA))))),?_]
  refine#[_,Z,_,Z,_,_,Z,Z,_,Z,?_]
  refine qW (λz=>?_) (λz=>?_)
  ·rw[Jc (Jx z)]at q;exact q
  ·rw[Jb (λy=>z (Ji y))]at q
   refine#[_,Z,_,Z,_,Z,_,_,Z,Z,_,_,Z,Z,_,Z,?_]
   refine qW (λz=>?_) (λz=>?_)
   ·rw[Jc (Jx z)]at q;exact q
   ·rw[Jb (λy=>z (Ji y))]at q
    refine#[_,Z,_,Z,_,Z,_,_,Z,Z,_,_,Z,Z,_,Z,?_]
    refine qW (λz=>?_) (λz=>?_)
    ·rw[Jc (Jx z)]at q;exact q
    ·rw[Jb (λy=>z (Ji y))]at q;exact q
theorem pX(a:At K mg "step_by" eD ["button","age","count","near","far"])(T:HN K mg tk)(N:Df P w K mg base "word_of" ["count","last","near","far"] 1 pG):Df P w K mg base "step_by" W0 2 iy:=by
 refine a.dq Ia λf _ A _ s H vs Q E L h=>?_
 ·obtain⟨a,e,age,c,l,n,rfl,⟨v,D,F⟩,q⟩:=h
  refine#[_,(qe (q9 (qv 0) (ze Z (ql (qh (i:=5) Ia.nd Z (Or.inl Z)) (ql (qh (i:=6) Ia.nd Z (Or.inl Z)) (ql (qh (i:=7) Ia.nd Z (Or.inl Z)) qM)))))
   (qe (qw (i:=8) Ia.nd Z (Or.inl Z) (qp N L.mo (qd (qv 2) (qd (qv 6) (qd (qv 3) (qd (qv 4) qb))))))
   (qe (qK (QW.pt (gz (qE zE (qv 8) qA (qB _)) (fj (qE (uj L) (qv 7) (qy (qd (qv 1) (qd (qu zO (qv 2) qf) qb))) (qB _))))) (qg (qw (i:=8) Ia.nd Z (Or.inl Z) qA)) qF)
   (qe (qK (qE zE (qv 8) qA (qB _)) (qg (qr (qy (qd (qv 8) (qd (qy (qd (qv 1) (qd (qv 2) (qd zd qb)))) qb))))) qF)
   (qe (qK (qE zE (qv 8) qA (qB _)) (qg (qr (qy (qd (qv 8) (qd (qy (qd (qv 5) (qd (qv 6) (qd (qy (qd (qv 1) (qd (qv 2) qb))) qb)))) qb))))) qF)
   (qg (qr (qy (qd (qv 8) (qd (qv 0) qb)))))))))),?_]
  refine#[_,Z,a,_,Z,.tup D,Z,_,_,Z,_,_,Z,_,_,Z,Z,?_]
  refine#[_,Z,_,Z,_,Z,_,Z,c,e.last,l,n,Z,?_]
  unfold zr at q;unfold pP
  by_cases h1:c<=e.last
  ·rw[Jc h1]
   rw[Jc h1]at q;refine#[_,Z,Z,_,Z,?_]
   refine qW (λy=>absurd (Jx y) nofun) (λ_=>?_)
   refine#[_,Z,Z,_,Z,?_]
   refine qW (λy=>absurd (Jx y) nofun) (λ_=>?_)
   refine#[_,Z,Z,_,Z,?_]
   refine qW (λy=>absurd (Jx y) nofun) (λ_=>?_)
   refine#[_,Z,_,Z,GJ,λg d=>?_]
   exact q g a _ (GS.upd d) qc (HS.same (GS.upd d) #[v,D,F])
  ·rw[Jb h1]
   rw[Jb h1]at q
   by_cases r:c<=e.last+l
   ·rw[Jc r]
    rw[Jc r]at q;refine#[_,Z,Z,_,Z,?_]
    refine qW (λy=>absurd (Jx y) nofun) (λ_=>?_)
    refine#[_,Z,Z,_,Z,?_]
    refine qW (λ_=>?_) (λy=>absurd (Ji Z) y)
    refine#[_,Z,_,Z,_,Z,GK,λt m=>#[GJ,λg d=>?_]]
    have p:=GS.upd (o:= .tup [.int age,.int c,.non]) m
    have j:=GS.upd (o:= .tup [.str "near",.ref t]) d
    exact q g t _ (p.trans j) qc #[.non,j _ _ qc,Z]
   ·rw[Jb r]
    rw[Jb r]at q
    by_cases x:c<=e.last+n
    ·rw[Jc x]
     rw[Jc x]at q;refine#[_,Z,Z,_,Z,?_]
     refine qW (λ_=>?_) (λy=>absurd (Ji Z) y)
     refine#[_,Z,_,Z,_,Z,_,_,Z,Z,GJ,λM z=>?_]
     have G:=GS.upd (o:= .tup [.int age,.int (c-1)]) z
     have I:=F.mv (S:=[]) G.mv (λc h=>nomatch h)
     refine#[e.wt,M,age,c-1,I,Z,.inl qc,_,Z,?_]
     by_cases u:e.wt=↑(age,c-1)
     ·rw[Jc u]at q
      refine zP (Ji u) ?_
      refine#[_,Z,Z,_,Z,?_]
      refine qW (λ_=>?_) (λy=>absurd (Ji Z) y)
      refine#[_,Z,_,Z,_,Z,GK,λt m=>#[GJ,λg d=>?_]]
      have p:=GS.upd (o:= .tup [.int age,.int c,.non]) m
      have j:=GS.upd (o:= .tup [.str "near",.ref t]) d
      exact q g t _ ((G.trans p).trans j) qc #[.non,j _ _ qc,Z]
     ·rw[Jb u]at q
      refine Qe (Jo u) ?_
      refine#[_,Z,Z,_,Z,?_]
      refine qW (λy=>absurd (Jx y) nofun) (λ_=>?_)
      refine#[_,Z,Z,_,Z,?_]
      refine qW (λ_=>?_) (λy=>absurd (Ji Z) y)
      refine#[_,Z,_,Z,_,Z,_,Z,_,Z,GJ,λC B=>#[GK,λt m=>#[GJ,λg d=>?_]]]
      have p:=GS.upd (o:= .tup [.int age,.int c]) B
      have j:=GS.upd (o:= .tup [.int e.age,.int e.last,.ref C]) m
      have J:=GS.upd (o:= .tup [.str "far",.ref t]) d
      exact q g t _ (((G.trans p).trans j).trans J) qc #[.ref C,J _ _ qc,C,Z,J _ _ (j _ _ qc)]
    ·rw[Jb x]
     rw[Jb x]at q;refine#[_,Z,Z,_,Z,?_]
     refine qW (λy=>absurd (Jx y) nofun) (λ_=>?_)
     refine#[_,Z,Z,_,Z,?_]
     refine qW (λy=>absurd (Jx y) nofun) (λ_=>?_)
     refine#[_,Z,Z,_,Z,?_]
     refine qW (λy=>absurd (Jx y) nofun) (λ_=>?_)
     refine#[_,Z,_,Z,GJ,λg d=>?_]
     exact q g a _ (GS.upd d) qc (HS.same (GS.upd d) #[v,D,F])
end
section
variable{P:Ξ}{w:Ω}{K:ι}{mg:GQ}{base:Ψ}{tk:Nat->Tok}{C:Δ}
theorem iK(a:Lm K C "__init__" "Door.__init__" Q1 ["self","table","keys","near","far","most"])(T:HN K mg tk)(U:Iz K C):Mf P w K mg base C "__init__" X4 1 (Ax K C):=by
 refine a.mq bF λf _ A _ s H vs Q E hr h=>?_
 ·obtain⟨p,a,b,dx,I,a1,N,t,kss,rfl,hp,ha,hb,hl,q⟩:=h
  refine#[_,(qe (zI (qv 0) (qH bh T.b_tuple J0 (qd (qv 1) qb)))
   (qe (zI (qv 0) (zA (own:=["key"]) (fr:=[]) (js:=[]) Z (zN (qv 2)) Z (λ_ _ h=>nomatch h) Z (Zr Z nofun nofun nofun) (λ_ _ _ _=>qh (i:=0) (show List.Nodup (["key"]:Α)from by decide +kernel) Z (Or.inl Z) (.inr Z)) (λ_ _ _ _=>(qH fK T.b_tuple J0 (qd (qv 0) qb)))))
   (qe (zI (qv 0) (qv 3))
   (qe (zI (qv 0) (qv 4))
   (qe (zI (qv 0) (qv 5))
   (qe (zI (qv 0) qf)
   (qe (zI (qv 0) fT)
   (qg (zI (qv 0) (zo qb)))))))))),?_]
  refine#[_,Z,a,_,Z,ha,λta H2 O ht=>#[_,Z,p,_,Z,zp U.cl (O _ _ hp) U.n_table 0,?_]]
  have e2:=O _ _ hp;have Y:=(hb.same O).upd (o:= .ins C dx [("table",.ref ta)]) e2
  obtain⟨as,eb,W,a0⟩:=Y;have X:=fk (o:= .ins C dx [("table",.ref ta)]) e2 ht
  refine#[_,Z,b,Z,#[_,G0.of eb],Ze (K:=K) (xs:=as.map V.ref) (by rw[Je,W,Ju];lia) (λi ys m=>GS (GW H2 p (.ins C dx [("table",.ref ta)])) m/\∃bs:Η,ys=bs.map V.ref/\bs.length=i/\∀(j:Nat) (x:Δ) (z:Β),bs[j]? =↑x->kss[j]? =↑z->G9 [] m x (z.map V.int)) #[GS.refl _,[],Z,Z,λj x z e=>by(cases e)] (λi ys m ⟨v,_⟩=>v.seq (G0.of eb)) ?_ ?_]
  ·rintro i ys m x L a2 ⟨v,bs,rfl,F,G⟩
   rw[Jn]at L;cases ea:as[i]? with
   |none=>rw[ea]at L;cases L
   |some x0=>
    rw[ea]at L
    obtain rfl:V.ref x0=x:=JA L
    have hi:i<kss.length:=by rw[<- W];exact(Js.mp ea).1
    have a4:=a0 i x0 kss[i] ea (Jg hi);refine#[_,Z,x0,_,Z,.inr (GS.sqt v a4).rd,λl H4 s4 a3=>#[v.trans s4,bs++[l],by simp,by simp [F],λj y z r n=>?_]]
    rw[GG]at r;split at r
    ·exact GS.sqt s4 (G j y z r n)
    ·have hj:j-bs.length=0:=by
      cases hj:j-bs.length with
      |zero=>rfl
      |succ k=>rw[hj]at r;cases r
     rw[hj]at r;cases r
     have:j=i:=by lia
     subst this;rw[Jg hi]at n;cases n;exact .inl a3
  ·rintro ys m a2 ⟨v,bs,rfl,F,G⟩ hk B
   have R:=GS.upd (o:= .lst (bs.map V.ref)) B
   have e3:=R _ _ (v _ _ qc);refine#[_,Z,p,_,Z,zp U.cl e3 U.n_house_keys 1,?_]
   refine#[_,Z,_,Z,p,_,Z,zp U.cl qc U.n_near 2,?_]
   refine#[_,Z,_,Z,p,_,Z,zp U.cl qc U.n_far 3,?_]
   refine#[_,Z,_,Z,p,_,Z,zp U.cl qc U.n_most 4,?_]
   refine#[_,Z,p,_,Z,zp U.cl qc U.n_least_age 5,?_]
   refineλbd d=>#[_,Z,p,_,Z,zp U.cl (by rw[qm (qo qc d)];exact qc) U.n_buttons 6,?_]
   have u:=qo qc d;refine#[GH,λlg g=>#[_,Z,p,_,Z,zp U.cl (by rw[qm (qo qc g)];exact qc) U.n_log 7,?_]]
   have J:=qo qc g;have m3:Mv [p] H m:=((O.mv (S:=[p])).trans Mv.upd1).trans v.mv
   have c:hk≠p:=(qo (v _ _ qc) B).symm
   have m4:Mv [p] H (GW m hk (.lst (bs.map V.ref))):=m3.trans R.mv
   have M:∀o1 o2 o3 o4 o5,Mv [p] (GW m hk (.lst (bs.map V.ref))) (GW (GW (GW (GW (GW (GW m hk (.lst (bs.map V.ref))) p o1) p o2) p o3) p o4) p o5):=λo1 o2 o3 o4 o5=>(((Mv.upd1.trans Mv.upd1).trans Mv.upd1).trans Mv.upd1).trans Mv.upd1
   have M6:Mv [p] (GW m hk (.lst (bs.map V.ref))) _:=(((M _ _ _ _ _).trans (GS.upd d).mv).trans Mv.upd1).trans (GS.upd (o:= .lst []) g).mv
   have M7:=M6.trans (Mv.upd1 (o:= .ins C dx (dF #[t,kss,I,a1,N,0,[]] ta hk bd lg)))
   have nt:NT [p] (GW m hk (.lst (bs.map V.ref))):=NT.one e3 trivial
   have D:bd≠lg:=qo (by rw[qm u.symm];exact qc) g
   have KR:=HI.mv M7 nt (qV c) (show HI [] _ hk kss from#[bs,qc,by rw[F,Je,W],λj x z r n=>GS.sqt R (G j x z r n)])
   refine q ta hk bd lg _ (m3.nfree (qV c) B) ((m4.trans (M _ _ _ _ _)).nfree (qV u.symm) d) ((m4.trans ((((M _ _ _ _ _).trans (GS.upd d).mv).trans Mv.upd1))).nfree (qV J.symm) g) (m4.trans M7) #[#[dx,qc],?_,HI.up KR,?_,?_,?_] KR
   ·exact M7.sqt nt (GS.sqt R (GS.sqt v X))
   ·exact#[([],λ_=>0),by rw[qm u.symm,qm D,qm u.symm];exact qc,λe he=>by(cases he),.refl _,Gb]
   ·exact#[[],by rw[qm J.symm];exact qc,Jf _]
   ·refine(qo (o:= .lst (bs.map V.ref)) ?_ g).symm
    rw[qm c];rw[qm (qo (o:= .lst (bs.map V.ref)) (by rw[qm c,qm c,qm c,qm c,qm c];exact qc) d)]
    rw[qm c,qm c,qm c,qm c,qm c];exact qc
theorem gM(a:Lm K C "is_full" "Door.is_full" ZC ["self"])(T:HN K mg tk)(U:Iz K C):Mf P w K mg base C "is_full" W6 1 (pA K C):=by
 refine a.mq gN λf _ A _ s H vs Q E g h=>?_
 ·obtain⟨p,ta,hk,bd,lg,n,D,rfl,b,q⟩:=h
  obtain⟨d,e,_,c,_⟩:=b.kb;refine#[_,(qg (qr (zS sQ (qx ug T.b_len J6 (qd (za (qv 0)) qb)) (za (qv 0)) (qB _)))),?_]
  refine#[_,Z,p,_,Z,b.h_buttons U,bd,_,Z,e,_,Z,p,_,Z,b.h_most U,_,_,Z,Z,?_]
  rw[show(cU d.1 d.2).length=D.kn.length from(Je _).trans c.length_eq]
  exact q
theorem fD(a:Lm K C "button_of" "Door.button_of" Zb ["self","name"])(T:HN K mg tk)(U:Iz K C):Mf P w K mg base C "button_of" W8 1 (hV K C):=by
 refine a.mq fF λf _ A _ s H vs Q E j h=>?_
 ·obtain⟨p,ta,hk,bd,lg,n,D,nm,rfl,b,d,i⟩:=h
  refine#[_,(qg (qr (lW j (za (qv 0)) (qv 1)))),?_]
  obtain⟨o,m,_⟩:=id b.kb;refine#[_,Z,p,_,Z,b.h_buttons U,bd,Z,.inl #[_,.inl m],_,Z,?_]
  rcases b.kb.get nm with⟨c,g⟩|⟨e,x,c,g,l⟩
  ·exact#[_,g,d c]
  ·exact#[_,g,i e x c l]
theorem fE(a:Lm K C "takes_age" "Door.takes_age" Q7 ["self","age"])(T:HN K mg tk)(U:Iz K C):Mf P w K mg base C "takes_age" V1 1 (f6 K C):=by
 refine a.mq fA λf _ A _ s H vs Q E e h=>?_
 ·obtain⟨p,ta,hk,bd,lg,n,D,age,rfl,b,q⟩:=h
  obtain⟨g,d,c,_⟩:=b.ks;refine#[_,(qg (qr (fR ZK ff (za (qv 0)) (qv 1) (qx qY T.b_len J6 (qd (za (qv 0)) qb))))),?_]
  unfold ZP at q;refine#[_,Z,p,_,Z,b.h_least_age U,_,Z,_,_,Z,Z,_,Z,?_]
  refine qW (λz=>?_) (λz=>?_)
  ·rw[z,E6]at q
   refine#[_,Z,p,_,Z,b.h_house_keys U,hk,_,Z,.inl (G0.of d),_,_,Z,Z,?_]
   rw[Je,c];exact q
  ·rw[Gc.mpr z,EW]at q
   exact q
theorem dw(a:Lm K C "takes_from" "Door.takes_from" QN ["self","button","age"])(T:HN K mg tk)(U:Iz K C)(c:Mf P w K mg base C "takes_age" V1 1 (f6 K C)):Mf P w K mg base C "takes_from" W1 2 (bC K C):=by
 refine a.mq eE λf _ A _ s H vs Q E d h=>?_
 ·obtain⟨p,ta,hk,bd,lg,x,n,D,e,age,rfl,b,⟨v,g,i⟩,q⟩:=h
  refine#[_,(qg (qr (Zl (zf c U.cl d.mo (qv 0) (qd (qv 2) qb)) (ZO (zS sQ (qv 2) (qC qO (qv 1) qf) (qB _)))))),?_]
  unfold qR at q;refine#[_,Z,p,Z,b.no,_,Z,p,ta,hk,bd,lg,n,D,age,Z,b,_,Z,?_]
  refine qW (λz=>?_) (λz=>?_)
  ·rw[z,E6]at q
   exact#[_,Z,_,Z,x,_,_,_,Z,Z,G9.of g,Z,_,_,Z,Z,q]
  ·rw[Gc.mpr z,EW]at q
   exact q
theorem eN(a:Lm K C "plain_step" "Door.plain_step" zZ ["self","button","age","count"])(T:HN K mg tk)(U:Iz K C)(j:Mf P w K mg base C "takes_from" W1 2 (bC K C))(l:Df P w K mg base "step_by" W0 2 iy):Mf P w K mg base C "plain_step" X3 3 (oJ K C):=by
 refine a.mq ZU λf _ A _ s H vs Q E d h=>?_
 ·obtain⟨p,ta,hk,bd,lg,x,n,D,e,age,c,rfl,b,g,i,q⟩:=h
  refine#[_,(qe (qK (Qc (Ql (zf j U.cl d.mo (qv 0) (qd (qv 1) (qd (qv 2) qb))))) (qg (qr (qy (qd qA (qd (qv 1) qb))))) qF)
   (qg (qr (qp l d.mo (qd (qv 1) (qd (qv 2) (qd (qv 3) (qd (za (qv 0)) (qd (za (qv 0)) qb))))))))),?_]
  refine#[_,Z,p,Z,b.no,_,Z,_,Z,p,ta,hk,bd,lg,x,n,D,e,age,Z,b,g,_,Z,?_]
  rw[i];refine zw ?_
  exact#[_,Z,_,Z,_,Z,_,Z,p,_,Z,b.h_near U,_,Z,p,_,Z,b.h_far U,x,e,age,c,D.near,D.far,Z,g,q]
theorem fC(a:Lm K C "answer_to" "Door.answer_to" Q8 ["self","press"])(T:HN K mg tk)(U:Iz K C)(dC:Mf P w K mg base C "button_of" W8 1 (hV K C))(dB:Mf P w K mg base C "takes_from" W1 2 (bC K C))(dD:Mf P w K mg base C "plain_step" X3 3 (oJ K C))
  (dO:Df P w K mg base "read_press" V0 3 (mj K)):Mf P w K mg base C "answer_to" ["self","press"] 4 (i8 K C):=by
 refine a.mq G1 λf _ A _ s H vs Q E t h=>?_
 ·obtain⟨p,ta,hk,bd,lg,pr,n,D,nm,age,ds,rfl,b,ok,⟨pc,hp,N⟩,hn,l5,W,q⟩:=h
  refine#[_,(qe (q9 (qv 1) (ze Z (ql (qh (i:=2) G1.nd Z (Or.inl Z)) (ql (qh (i:=3) G1.nd Z (Or.inl Z)) (ql (qh (i:=4) G1.nd Z (Or.inl Z)) qM)))))
   (qe (qw (i:=5) G1.nd Z (Or.inl Z) (zf dC U.cl t.mo (qv 0) (qd (qv 2) qb)))
   (qe (qK (qE Zp (qv 5) zd (qB _)) (qg (qr (qy (qd qA (qd qA qb))))) qF)
   (qe (qK (Qc (Ql (zf dB U.cl t.mo (qv 0) (qd (qv 5) (qd (qv 3) qb))))) (qg (qr (qy (qd qA (qd qA qb))))) qF)
   (qe (qw (i:=6) G1.nd Z (Or.inl Z) (qp dO t.mo (qd (za (qv 0)) (qd (qC qG (za (qv 0)) (qv 3)) (qd (qv 1) qb)))))
   (qe (qK (qE Zp (qv 6) zd (qB _)) (qg (qr (qy (qd qA (qd qA qb))))) qF)
   (qe (q9 (qv 6) (ze Z (ql (qh (i:=7) G1.nd Z (Or.inl Z)) (ql (qh (i:=8) G1.nd Z (Or.inl Z)) qM))))
   (qe (q9 (zf dD U.cl t.mo (qv 0) (qd (qv 5) (qd (qv 3) (qd (qv 7) qb)))) (ze Z (ql (qh (i:=9) G1.nd Z (Or.inl Z)) (ql (qh (i:=10) G1.nd Z (Or.inl Z)) qM))))
   (qe (Qw t (za (qv 0)) (qv 2) (qv 10))
   (qe (qK (qE zE (qv 9) qA (qB _)) (qg (qr (qy (qd qA (qd (qv 2) (qd (qv 8) qb)))))) qF)
   (qg (qr (qy (qd qA (qd (qv 9) qb))))))))))))))),?_]
  refine#[_,Z,pr,_,Z,.tup hp,Z,_,_,Z,_,_,Z,_,_,Z,Z,?_]
  refine#[_,Z,p,Z,b.no,_,Z,p,ta,hk,bd,lg,n,D,nm,Z,b,λr=>?_,λe x r hx=>?_]
  ·have m:zk D nm age (Zn D.t (Qs D age) nm ds)=([.str "held",.str "unknown"],D.kn):=by unfold zk;rw[r]
   rw[m]at q;refine#[_,Z,Z,_,Z,?_]
   refine qW (λ_=>?_) (λy=>absurd (Ji Z) y)
   refine#[GJ,λo g=>?_]
   exact q o _ (GS.upd g).mv qc (b.same (GS.upd g))
  ·refine#[_,Z,Z,_,Z,?_]
   refine qW (λy=>nomatch (Jx y)) (λ_=>?_)
   refine#[_,Z,p,Z,b.no,_,Z,_,Z,p,ta,hk,bd,lg,x,n,D,e,age,Z,b,hx,_,Z,?_]
   cases ht:qR D e age with
   |false=>
    have m:zk D nm age (Zn D.t (Qs D age) nm ds)=([.str "held",.str "age"],D.kn):=by unfold zk;rw[r];simp only;rw[ht];rfl
    rw[m]at q;refine zx ?_
    refine#[GJ,λo g=>?_]
    exact q o _ (GS.upd g).mv qc (b.same (GS.upd g))
   |true=>
    refine zw ?_
    obtain⟨a0,a1⟩:=aK ht ok.l0;obtain⟨xs,ak,eh,I,J⟩:=b.ks.at a0 a1;refine#[_,Z,p,_,Z,b.h_table U,_,Z,p,_,Z,b.h_house_keys U,_,Z,hk,_,_,_,Z,Z,G0.of eh,I,_,Z,ta,ak,pr,pc,nm,age,D.t,Qs D age,ds,Z,.inr b.tb,.inr J,.tup hp,.tup N,hn,ok.tp,l5,W,λy H1 v u=>?_]
    have B:=b.same v;have O:=hx.same v;have j:cQ H1 y (Zn D.t (Qs D age) nm ds):=u
    cases er:Zn D.t (Qs D age) nm ds with
    |none=>
     rw[er]at j q;have R:y= .non:=j
     subst R;have m:zk D nm age none=([.str "held",.str "false"],D.kn):=by unfold zk;rw[r];simp only;rw[ht];rfl
     rw[m]at q;refine#[_,Z,Z,_,Z,?_]
     refine qW (λ_=>?_) (λy=>absurd (Ji Z) y)
     refine#[GJ,λo g=>?_]
     exact q o _ (v.trans (GS.upd g)).mv qc (B.same (GS.upd g))
    |some cd=>
     obtain⟨c,d⟩:=cd;rw[er]at j q;obtain⟨pp,R,S⟩:=j;subst R;refine#[_,Z,Z,_,Z,?_]
     refine qW (λy=>nomatch (Jx y)) (λ_=>?_)
     refine#[_,Z,pp,_,Z,.tup S,Z,_,_,Z,_,_,Z,Z,?_]
     refine#[_,Z,p,Z,B.no,_,Z,_,Z,_,Z,p,ta,hk,bd,lg,x,n,D,e,age,c,Z,B,O,ht,λo a' H2 Y g L=>#[o,_,Z,.tup g,Z,_,_,Z,_,_,Z,Z,?_]]
     have M:=B.same Y;obtain⟨H3,dp,m3,X⟩:=M.kb.put nm (by have:=ok.nl;lia) L
     refine#[_,Z,_,Z,p,_,Z,M.h_buttons U,_,Z,bd,H3,Z,dp,?_]
     have b3:=M.putK m3 X;have mm:Mv [bd] H H3:=(v.trans Y).mv.trans m3
     refine#[_,Z,Z,_,Z,?_]
     by_cases F:(zr D.near D.far e age c).1="near"
     ·have m:zk D nm age ↑(c,d)=([.str "open",.str nm,.int d],zc D.kn nm (zr D.near D.far e age c).2):=by unfold zk;rw[r];simp only;rw[Jc ht,Jc F]
      rw[m]at q;refine qW (λ_=>?_) (λy=>absurd (Ji (by rw[F])) y)
      refine#[_,Z,_,Z,GK,λG l=>?_]
      exact q G _ (mm.trans (GS.upd l).mv) qc (b3.same (GS.upd l))
     ·have m:zk D nm age ↑(c,d)=([.str "held",.str (zr D.near D.far e age c).1],zc D.kn nm (zr D.near D.far e age c).2):=by unfold zk;rw[r];simp only;rw[Jc ht,Jb F]
      rw[m]at q;refine qW (λy=>absurd (Jx y) (by intro z;injection z with z;exact F z)) (λ_=>?_)
      refine#[_,Z,GJ,λG l=>?_]
      exact q G _ (mm.trans (GS.upd l).mv) qc (b3.same (GS.upd l))
theorem eR(a:Lm K C "read_right" "Door.read_right" QP ["self","thing"])(T:HN K mg tk)(U:Iz K C)(J:Df P w K mg base "is_press" W5 5 cq)(F:Mf P w K mg base C "takes_age" V1 1 (f6 K C))(S:Df P w K mg base "read_press" V0 3 (mj K)):Mf P w K mg base C "read_right" V3 6 (i6 K C):=by
 refine a.mq eT λf _ A _ s H vs Q E r h=>?_
 ·obtain⟨p,ta,hk,bd,lg,n,D,x,o,rfl,b,ok,tg,q⟩:=h
  refine#[_,(qe (qK (QW.pt (Zt (Qc (Ql (qp J r.mo (qd (qv 1) qb)))) (QX (Qc (Ql (zf F U.cl r.mo (qv 0) (qd (qC qO (qv 1) qf) qb))))))) (qg (qr zd)) qF)
   (qg (qr (qp S r.mo (qd (za (qv 0)) (qd (qC qG (za (qv 0)) (qC qO (qv 1) qf)) (qd (qv 1) qb))))))),?_]
  refine#[_,Z,x,_,Z,tg.b,λH1 e=>#[_,Z,?_]]
  cases o with
  |none=>exact zx (zx (q .non _ e Z))
  |some PP=>
  obtain⟨t,rfl,M,v,B,g⟩:=tg;have q:∀y H',GS H H'->cQ H' y (cZ D PP)->Q y H':=q
  obtain⟨nm,age,ds⟩:=PP;simp only at v B g
  refine zw ?_
  have d:=b.same e;obtain⟨R,c,j⟩:=HU.same e M;refine#[_,Z,p,Z,d.no,_,Z,t,_,_,_,Z,Z,G9.of c,Z,p,ta,hk,bd,lg,n,D,age,Z,d,_,Z,?_]
  unfold cZ at q;cases ht:ZP D age with
  |false=>
   rw[Jb (by rw[ht];intro z;cases z)]at q
   exact zx (q _ _ e Z)
  |true=>
  rw[Jc ht]at q;refine zw ?_
  have u:qR D #[age,0,none] age=true:=by unfold qR;rw[ht,Ji (F3 _)];rfl
  obtain⟨W,O⟩:=aK u ok.l0;obtain⟨xs,I,L,l,m⟩:=d.ks.at W O
  exact#[_,Z,p,_,Z,d.h_table U,_,Z,p,_,Z,d.h_house_keys U,_,Z,t,_,_,_,Z,Z,G9.of c,Z,hk,_,_,_,Z,Z,G0.of L,l,_,Z,ta,I,t,R,nm,age,D.t,Qs D age,ds,Z,.inr d.tb,.inr m,.tup c,.tup j,v,ok.tp,B,g,λy N G i=>q y N (e.trans G) i]
theorem fw(a:Lm K C "known_now" "Door.known_now" Za ["self"])(T:HN K mg tk)(U:Iz K C):Mf P w K mg base C "known_now" W6 1 (gb K C):=by
 refine a.mq fB λf _ A _ s H vs Q E hr h=>?_
 ·obtain⟨p,ta,hk,bd,lg,n,D,rfl,b,ok,q⟩:=h
  obtain⟨fn,hd,a5,W,_⟩:=id b.kb;refine#[_,(qg (qr (qH qX T.b_tuple J0 (qd (zA (own:=["name"]) (fr:=["self"]) (js:=[0]) Z (zN (qx (j7 Z) T.b_sorted PyProof.Rows.boot_sorted (qd (za (qv 0)) qb))) Z (gf Z) Z (iD Z nofun nofun nofun Z Z Z) (λ_ _ _ _=>qh (i:=0) (show List.Nodup (["name","self"]:Α)from by decide +kernel) Z (Or.inl Z) (.inr Z)) (λ_ _ _ _=>(qu Z7 (qy (qd (qv 0) qb)) (zJ hr (Av (K:=K) Z (qv 1)) (qv 0))))) qb)))),?_]
  refine#[_,Z,p,_,Z,b.h_buttons U,bd,_,fn.1.map (·.1),Z,hd,AL _ _,by rw[Je,W.length_eq];have:=ok.nl;lia,λl B hl a3 so=>#[l,Z,#[_,G0.of qc],?_]]
  have pm:=a3.trans (W.map (·.1))
  have u1:=GS.upd (o:= .lst (B.map V.str)) hl
  have ls:B.length<=60:=by rw[pm.length_eq,Je];exact ok.nl
  refine Ze (K:=K) (xs:=B.map V.str) (by rw[Je,Ju];lia) (λi ys G=>GS (GW H l (.lst (B.map V.str))) G/\∃m:Η,ys=m.map V.ref/\m.length=i/\∀(j:Nat) (x:Δ) (nm:Str) (e:Kb),m[j]? =↑x->B[j]? =↑nm->D.kn.lookup nm=↑e->∃v,G x=↑(.tup [.str nm,.int e.age,.int e.last,v])/\Wt G v e.wt) #[GS.refl _,[],Z,Z,λj x nm e h=>by(cases h)] (λi ys G ⟨I,_⟩=>I.seq (G0.of qc)) ?_ ?_
  ·rintro i ys G x N a4 ⟨I,m,rfl,r,has⟩
   rw[Jn]at N;cases es:B[i]? with
   |none=>rw[es]at N;cases N
   |some nm=>
    rw[es]at N
    obtain rfl:V.str nm=x:=JA N
    have M:nm∈D.kn.map (·.1):=pm.mem_iff.mp (JP es)
    obtain⟨e,L⟩:=Q3 M;have b3:=b.same (u1.trans I);obtain⟨e',x0,d,g,v0,O,X⟩:=(b3.kb.get nm).resolve_left (λz=>by rw[L]at z;cases z.1)
    rw[L]at d;cases d;refine#[_,Z,GI,λt ht=>?_]
    have F:=GS.upd (o:= .tup [.str nm]) ht
    have b4:=b3.same F;obtain⟨e',x0,d,g,v0,O,X⟩:=(b4.kb.get nm).resolve_left (λz=>by rw[L]at z;cases z.1)
    rw[L]at d;cases d;refine#[_,Z,p,_,Z,b4.h_buttons U,_,Z,bd,_,Z,g,t,x0,_,_,Z,Z,qc,O,GL,λq1 H5 Y u=>?_]
    refine#[(I.trans F).trans Y,m++[q1],by simp,by simp [r],λj y m2 e2 h1 J R=>?_]
    rw[GG]at h1;split at h1
    ·obtain⟨v,a1,a2⟩:=has j y m2 e2 h1 J R
     exact#[v,Y _ _ (F _ _ a1),a2.mv (S:=[]) (F.trans Y).mv (λc h=>nomatch h)]
    ·have hj:j-m.length=0:=by
      cases hj:j-m.length with
      |zero=>rfl
      |succ k=>rw[hj]at h1;cases h1
     rw[hj]at h1;cases h1
     obtain rfl:j=i:=by lia
     rw[es]at J;cases J;rw[L]at R;cases R
     exact#[v0,u,X.mv (S:=[]) Y.mv (λc h=>nomatch h)]
  ·rintro ys G a4 ⟨I,m,rfl,r,has⟩ l2 a0
   have F:=GS.upd (o:= .lst (m.map V.ref)) a0
   refine#[l2,_,Z,.inl #[G0.of qc,λq1 u=>?_]]
   have u5:=GS.upd (o:= .tup (m.map V.ref)) u
   have S:=F.trans u5;refine q q1 B _ ((u1.trans I).trans S) pm so #[m,qc,by rw[r,Je],λj x nm e h1 J R=>?_]
   obtain⟨v,a1,a2⟩:=has j x nm e h1 J R
   exact#[v,S _ _ a1,a2.mv (S:=[]) S.mv (λc h=>nomatch h)]
end
section
variable{P:Ξ}{w:Ω}{K:ι}{mg:GQ}{base:Ψ}{tk:Nat->Tok}{C:Δ}
theorem mN(a:Lm K C "hear" "Door.hear" aX ["self","thing"])(T:HN K mg tk)(U:Iz K C)(dX:Df P w K mg base "is_press" W5 5 cq)(Y:Mf P w K mg base C "answer_to" ["self","press"] 4 (i8 K C)):Mf P w K mg base C "hear" V3 6 (oX K C):=by
 refine a.mq La λf _ A _ s H vs Q E O h=>?_
 ·obtain⟨⟨p,ta,hk,bd,lg⟩,D,L,x,o,rfl,⟨b,⟨rs,J,S⟩,W⟩,n1,ok,tg,qn,M⟩:=h
  simp only at b J W M
  refine#[_,(qe (qK (Qc (Ql (qp dX O.mo (qd (qv 1) qb)))) (qg (qr (qy (qd qA (qd qA qb))))) qF)
   (qe (qw (i:=2) La.nd Z (Or.inl Z) (zf Y U.cl O.mo (qv 0) (qd (qv 1) qb)))
   (qe (zm (QZ EZ Fx Fy zT (za (qv 0)) (qd (qy (qd qA (qd (qv 1) (qd (qv 2) qb)))) qb)))
   (qg (qr (qv 2)))))),?_]
  refine#[_,Z,x,_,Z,tg.b,λH1 e=>#[_,Z,?_]]
  cases o with
  |none=>exact zx #[GJ,λq hq=>qn Z q _ (e.trans (GS.upd hq)) qc]
  |some PP=>
  obtain⟨y,rfl,R,j⟩:=tg;have q:=M PP Z;refine zw ?_
  have v:=b.same e;obtain⟨f0,F,_⟩:=id v.kb;have l:NT [bd] H1:=NT.one F trivial
  refine#[_,Z,p,Z,v.no,_,Z,p,ta,hk,bd,lg,y,L.length,D,PP.nm,PP.age,PP.ds,Z,v,ok,HU.same e R,j.nm,j.l,j.dg,λG H2 t u N=>?_]
  have g:=t _ _ (qV (zG (e _ _ J) F (by intro z;cases z))) (e _ _ J)
  have B:=(S.same e).mv t l;refine#[_,Z,p,_,Z,N.h_log U,.inl #[Z,_,G0.of g],_,Z,_,Z,GK,λr I=>?_]
  have d:=GS.upd (o:= .tup [.str "hear",.ref y,.ref G]) I
  have X:=N.same d;have m:=HU.same d (HU.mv t l (HU.same e R));have n:NT [lg] _:=NT.one (d _ _ g) trivial
  refine#[lg,_,_,Z,Z,d _ _ g,by rw[Je,S.1,Ju];lia,#[_,Z,?_]]
  exact q y G _ Z (((e.mv.trans (t.mono (λc h z=>h (by rw[Jh.mp z];exact JB ..)))).trans d.mv).trans (Mv.upd1.mono (λc h z=>h (by rw[Jh.mp z];exact JM _ (JB ..))))) (HU.mv Mv.upd1 n m) (Mv.upd1.tup n (d _ _ u)) (HX.push (a:=#[p,ta,hk,bd,lg]) X (d _ _ g) (B.same d) ((HI.mv t l (qV (yP F v)) (HI.same e W)).same d) #[y,G,.inl qc,m,j,d _ _ u,tf D PP,wT D PP])
theorem cN(a:Lm K C "close_below" "Door.close_below" QC ["self","age"])(T:HN K mg tk)(U:Iz K C):Mf P w K mg base C "close_below" V1 1 (kW K C):=by
 refine a.mq cL λf _ A _ s H vs Q E F h=>?_
 ·obtain⟨⟨p,ta,hk,bd,lg⟩,D,L,age,rfl,⟨b,⟨rs,j,n⟩,u⟩,B,q⟩:=h
  simp only at b j u q
  refine#[_,(qe (zI (qv 0) (qx (Zg Z) T.b_max F4 (qd (za (qv 0)) (qd (qv 1) qb))))
   (qg (zm (QZ EZ Fx Fy zT (za (qv 0)) (qd (qy (qd qA (qd (qv 1) qb))) qb))))),?_]
  have q:=q _ _ Z;obtain⟨z,l⟩:∃z:Int,z=if age>D.least then age else D.least:=#[_,Z]
  rw[<- l]at q;obtain⟨x,ep⟩:=id b.ob;obtain⟨dx,v,m,t⟩:=b.putLeast U z;have d:=m _ _ (qV (zG j ep (by intro z;cases z))) j
  have i:=n.mv m (NT.one ep trivial);refine#[_,Z,p,_,Z,b.h_least_age U,_,Z,_,_,Z,_,Z,p,_,Z,by rw[<- l];exact v,?_]
  refine#[_,Z,p,_,Z,t.h_log U,.inl #[Z,_,G0.of d],_,Z,GJ,λr g=>?_]
  have e:=GS.upd (o:= .tup [.str "close",.int age]) g
  have y:=t.same e;refine#[lg,_,_,Z,Z,e _ _ d,by rw[Je,n.1,Ju];lia,?_]
  exact q _ (((m.mono (λc h z=>h (by rw[Jh.mp z];exact JB ..))).trans e.mv).trans (Mv.upd1.mono (λc h z=>h (by rw[Jh.mp z];exact JM _ (JB ..))))) (HX.push (a:=#[p,ta,hk,bd,lg]) y (e _ _ d) (i.same e) ((HI.mv m (NT.one ep trivial) (qV (Do ep b)) u).same e) (show Ln _ r (.close age)from .inl qc))
theorem gH(a:Lm K C "log_now" "Door.log_now" ZG ["self"])(T:HN K mg tk)(U:Iz K C):Mf P w K mg base C "log_now" W6 1 (uW K C):=by
 refine a.mq gu λf _ A _ s H vs Q E i h=>?_
 ·obtain⟨⟨p,ta,hk,bd,lg⟩,D,L,rfl,⟨b,⟨rs,d,e⟩,g⟩,q⟩:=h
  simp only at b d g
  refine#[_,(qg (qr (qH qX T.b_tuple J0 (qd (za (qv 0)) qb)))),?_]
  exact#[_,Z,p,_,Z,b.h_log U,lg,_,Z,.inl #[G0.of d,λt c=>q t _ (GS.upd c) #[rs,.inl qc,e.same (GS.upd c)]]]
theorem jX(a:Lm K C "learn" "Door.learn" az ["self","one","other"])(T:HN K mg tk)(U:Iz K C)(dM:Mf P w K mg base C "read_right" V3 6 (i6 K C))(xC:Mf P w K mg base C "is_full" W6 1 (pA K C)):Mf P w K mg base C "learn" ["self","one","other"] 7 (iZ K C):=by
 refine a.mq HF λf _ A _ s H vs Q E G h=>?_
 ·obtain⟨⟨p,ta,hk,bd,lg⟩,D,L,I,p2,⟨nm,age,b0⟩,⟨j,d,b3⟩,c,d1,d2,rfl,⟨b,⟨rs,el,ro⟩,kr⟩,n1,ok,t,u,W,Y,r1,r2,en,ea,a0,a8,q⟩:=h
  simp only at b el kr q en ea a0
  subst en;subst ea
  refine#[_,(qe (qw (i:=3) HF.nd Z (Or.inl Z) (zf dM U.cl G.mo (qv 0) (qd (qv 1) qb)))
   (qe (qK (qE Zp (qv 3) zd (qB _)) aM qF)
   (qe (qw (i:=4) HF.nd Z (Or.inl Z) (zf dM U.cl G.mo (qv 0) (qd (qv 2) qb)))
   (qe (qK (QW.pt (Zt (qE Zp (qv 4) zd (qB _)) (Zt (qE (li G) (Qh fu (qv 2) QK (QH qf)) (Qh fu (qv 1) QK (QH qf)) (qB _)) (QX (qE gx (qC qO (qv 4) qf) (qu qI (qC qO (qv 3) qf) qf) (qB _)))))) aM qF)
   (qe (q9 (qv 1) (ze Z (ql (qh (i:=5) HF.nd Z (Or.inl Z)) (ql (qh (i:=6) HF.nd Z (Or.inl Z)) (ql (qh (i:=7) HF.nd Z (Or.inl Z)) qM)))))
   (qe (qK (vy G (qv 5) (za (qv 0))) aM qF)
   (qe (qK (Ql (Qi xC U.cl G.mo (qv 0))) aM qF)
   (qe (Qw G (za (qv 0)) (qv 5) (qy (qd (qv 6) (qd (qC qO (qv 4) qf) (qd zd qb)))))
   (qg (zm (QZ EZ Fx Fy zT (za (qv 0)) (qd (qy (qd qA (qd (qv 1) (qd (qv 2) qb)))) qb)))))))))))),?_]
  refine#[_,Z,p,Z,b.no,_,Z,p,ta,hk,bd,lg,L.length,D,.ref I,↑_,Z,b,ok,#[I,Z,t,W],λy1 H1 M t1=>?_]
  have t1:cQ H1 y1 (cZ D _):=t1
  rw[r1]at t1;obtain⟨f1,rfl,a3⟩:=t1;refine#[_,Z,Z,_,Z,qW (λy=>nomatch (Jx y)) (λ_=>?_)]
  have b1:=b.same M;refine#[_,Z,p,Z,b1.no,_,Z,p,ta,hk,bd,lg,L.length,D,.ref p2,↑_,Z,b1,ok,#[p2,Z,HU.same M u,Y],λy2 H2 O t2=>?_]
  have t2:cQ H2 y2 (cZ D _):=t2
  rw[r2]at t2;obtain⟨f2,rfl,N⟩:=t2;have b2:=b1.same O;have J:=HU.same (M.trans O) t;have S:=HU.same (M.trans O) u;obtain⟨c1,e1,_⟩:=id J;obtain⟨c2,e2,_⟩:=id S;simp only at e1 e2
  refine#[_,Z,Z,_,Z,?_]
  refine qW (λy=>nomatch (Jx y)) (λ_=>?_)
  refine#[_,Z,_,Z,p2,_,Z,e2,λt3 H3 s3 h3 _=>#[_,Z,_,Z,I,_,Z,s3 _ _ e1,λt4 H4 s4 h4 _=>?_]]
  have a1:H4 t3=↑(.tup [.str j,.int d]):=s4 _ _ h3
  have a7:H4 t4=↑(.tup [.str j,.int d]):=h4
  have F:=(s3.trans s4);have SS:=(M.trans O).trans F;refine#[1,⋯,Lo.pair a1 a7,_,Z,zw ?_]
  refine#[_,Z,f2,_,_,_,Z,Z,G9.of (F _ _ N),Z,_,Z,f1,_,_,_,Z,Z,G9.of (F _ _ (O _ _ a3)),Z,_,_,Z,Z,Z,_,Z,?_]
  refine rB Z ?_
  have R:=b2.same F;refine#[_,Z,I,_,Z,.tup (F _ _ e1),Z,_,_,Z,_,_,Z,_,_,Z,Z,?_]
  have g4:Iy H4 bd (.str j) none:=by
   rcases R.kb.get j with⟨_,g⟩|⟨e,x,e5,_⟩
   ·exact g
   ·rw[a0]at e5;cases e5
  refine#[_,Z,_,Z,p,_,Z,R.h_buttons U,bd,_,Z,g4,_,Z,?_]
  refine zw ?_
  refine#[_,Z,p,Z,R.no,p,ta,hk,bd,lg,L.length,D,Z,R,_,Z,?_]
  refine qW (λy=>absurd (Jx y) (by lia)) (λ_=>?_)
  refine#[_,Z,_,Z,f2,_,_,_,Z,Z,G9.of (F _ _ N),Z,GK,λt5 a2=>?_]
  have u5:=GS.upd (o:= .tup [.int d,.int (c+1),.non]) a2
  have X:=R.same u5;obtain⟨f0,hd,_⟩:=id X.kb;have n:=SS.trans u5;obtain⟨H6,dp,v,a6⟩:=X.kb.put j (a:=t5) (e:=#[d,c+1,none]) (by have:=ok.nl;lia) #[.non,qc,Z]
  refine#[_,Z,p,_,Z,X.h_buttons U,_,Z,bd,H6,Z,dp,?_]
  have b6:=X.putK v a6;have B:=v _ _ (qV (zG (n _ _ el) hd (by intro z;cases z))) (n _ _ el)
  have l:NT [bd] _:=NT.one hd trivial
  have a4:=(ro.same n).mv v l;refine#[_,Z,p,_,Z,b6.h_log U,.inl #[Z,_,G0.of B],_,Z,_,Z,GK,λr a5=>?_]
  have m:=GS.upd (o:= .tup [.str "learn",.ref I,.ref p2]) a5
  have b7:=b6.same m;refine#[lg,_,_,Z,Z,m _ _ B,by rw[Je,ro.1,Ju];lia,?_]
  exact q _ (((n.mv.trans (v.mono (λc h z=>h (by rw[Jh.mp z];exact JB ..)))).trans m.mv).trans (Mv.upd1.mono (λc h z=>h (by rw[Jh.mp z];exact JM _ (JB ..))))) (HX.push (a:=#[p,ta,hk,bd,lg]) b7 (m _ _ B) (a4.same m) ((HI.mv v l (qV (yP hd X)) (HI.same n kr)).same m) #[I,p2,.inl qc,HU.same m (HU.mv v l (HU.same n t)),HU.same m (HU.mv v l (HU.same n u)),W,Y])
theorem gq(a:Lm K C "__init__" "Door.__init__" Q1 ["self","table","keys","near","far","most"])(T:HN K mg tk)(U:Iz K C):Mf P w K mg base C "__init__" X4 1 (kj K C):=by
 refine a.mq bF λf _ A _ s H vs Q E hr h=>?_
 ·obtain⟨p,a,b,dx,I,a1,N,t,kss,rfl,hp,ha,hb,hl,q⟩:=h
  refine#[_,(qe (zI (qv 0) (qH bh T.b_tuple J0 (qd (qv 1) qb)))
   (qe (zI (qv 0) (zA (own:=["key"]) (fr:=[]) (js:=[]) Z (Zv (qv 2)) Z (λ_ _ h=>nomatch h) Z (Zr Z nofun nofun nofun) (λ_ _ _ _=>qh (i:=0) (show List.Nodup (["key"]:Α)from by decide +kernel) Z (Or.inl Z) (.inr Z)) (λ_ _ _ _=>(qH fK T.b_tuple J0 (qd (qv 0) qb)))))
   (qe (zI (qv 0) (qv 3))
   (qe (zI (qv 0) (qv 4))
   (qe (zI (qv 0) (qv 5))
   (qe (zI (qv 0) qf)
   (qe (zI (qv 0) fT)
   (qg (zI (qv 0) (zo qb)))))))))),?_]
  refine#[_,Z,a,_,Z,ha,λta H2 O ht=>#[_,Z,p,_,Z,zp U.cl (O _ _ hp) U.n_table 0,?_]]
  have e2:=O _ _ hp;have Y:=(hb.same O).upd (o:= .ins C dx [("table",.ref ta)]) e2
  obtain⟨as,eb,W,a0⟩:=Y;have X:=fk (o:= .ins C dx [("table",.ref ta)]) e2 ht
  refine#[_,Z,b,Z,#[_,eb.up],Q5 (K:=K) (xs:=as.map V.ref) (by rw[Je,W,Ju];lia) (λi ys m=>GS (GW H2 p (.ins C dx [("table",.ref ta)])) m/\∃bs:Η,ys=bs.map V.ref/\bs.length=i/\∀(j:Nat) (x:Δ) (z:Β),bs[j]? =↑x->kss[j]? =↑z->G9 [] m x (z.map V.int)) #[GS.refl _,[],Z,Z,λj x z e=>by(cases e)] (λi ys m ⟨v,_⟩=>(GS.sqt v eb).up) ?_ ?_]
  ·rintro i ys m x L a2 ⟨v,bs,rfl,F,G⟩
   rw[Jn]at L;cases ea:as[i]? with
   |none=>rw[ea]at L;cases L
   |some x0=>
    rw[ea]at L
    obtain rfl:V.ref x0=x:=JA L
    have hi:i<kss.length:=by rw[<- W];exact(Js.mp ea).1
    have a4:=a0 i x0 kss[i] ea (Jg hi);refine#[_,Z,x0,_,Z,.inr (GS.sqt v a4).rd,λl H4 s4 a3=>#[v.trans s4,bs++[l],by simp,by simp [F],λj y z r n=>?_]]
    rw[GG]at r;split at r
    ·exact GS.sqt s4 (G j y z r n)
    ·have hj:j-bs.length=0:=by
      cases hj:j-bs.length with
      |zero=>rfl
      |succ k=>rw[hj]at r;cases r
     rw[hj]at r;cases r
     have:j=i:=by lia
     subst this;rw[Jg hi]at n;cases n;exact .inl a3
  ·rintro ys m a2 ⟨v,bs,rfl,F,G⟩ hk B
   have R:=GS.upd (o:= .lst (bs.map V.ref)) B
   have e3:=R _ _ (v _ _ qc);refine#[_,Z,p,_,Z,zp U.cl e3 U.n_house_keys 1,?_]
   refine#[_,Z,_,Z,p,_,Z,zp U.cl qc U.n_near 2,?_]
   refine#[_,Z,_,Z,p,_,Z,zp U.cl qc U.n_far 3,?_]
   refine#[_,Z,_,Z,p,_,Z,zp U.cl qc U.n_most 4,?_]
   refine#[_,Z,p,_,Z,zp U.cl qc U.n_least_age 5,?_]
   refineλbd d=>#[_,Z,p,_,Z,zp U.cl (by rw[qm (qo qc d)];exact qc) U.n_buttons 6,?_]
   have u:=qo qc d;refine#[GH,λlg g=>#[_,Z,p,_,Z,zp U.cl (by rw[qm (qo qc g)];exact qc) U.n_log 7,?_]]
   have J:=qo qc g;have m3:Mv [p] H m:=((O.mv (S:=[p])).trans Mv.upd1).trans v.mv
   have c:hk≠p:=(qo (v _ _ qc) B).symm
   have m4:Mv [p] H (GW m hk (.lst (bs.map V.ref))):=m3.trans R.mv
   have M:∀o1 o2 o3 o4 o5,Mv [p] (GW m hk (.lst (bs.map V.ref))) (GW (GW (GW (GW (GW (GW m hk (.lst (bs.map V.ref))) p o1) p o2) p o3) p o4) p o5):=λo1 o2 o3 o4 o5=>(((Mv.upd1.trans Mv.upd1).trans Mv.upd1).trans Mv.upd1).trans Mv.upd1
   have M6:Mv [p] (GW m hk (.lst (bs.map V.ref))) _:=(((M _ _ _ _ _).trans (GS.upd d).mv).trans Mv.upd1).trans (GS.upd (o:= .lst []) g).mv
   have M7:=M6.trans (Mv.upd1 (o:= .ins C dx (dF #[t,kss,I,a1,N,0,[]] ta hk bd lg)))
   have nt:NT [p] (GW m hk (.lst (bs.map V.ref))):=NT.one e3 trivial
   have D:bd≠lg:=qo (by rw[qm u.symm];exact qc) g
   have KR:=HI.mv M7 nt (qV c) (show HI [] _ hk kss from#[bs,qc,by rw[F,Je,W],λj x z r n=>GS.sqt R (G j x z r n)])
   refine q ta hk bd lg _ (m3.nfree (qV c) B) ((m4.trans (M _ _ _ _ _)).nfree (qV u.symm) d) ((m4.trans ((((M _ _ _ _ _).trans (GS.upd d).mv).trans Mv.upd1))).nfree (qV J.symm) g) (m4.trans M7) #[#[dx,qc],?_,HI.up KR,?_,?_,?_] KR
   ·exact M7.sqt nt (GS.sqt R (GS.sqt v X))
   ·exact#[([],λ_=>0),by rw[qm u.symm,qm D,qm u.symm];exact qc,λe he=>by(cases he),.refl _,Gb]
   ·exact#[[],by rw[qm J.symm];exact qc,Jf _]
   ·refine(qo (o:= .lst (bs.map V.ref)) ?_ g).symm
    rw[qm c];rw[qm (qo (o:= .lst (bs.map V.ref)) (by rw[qm c,qm c,qm c,qm c,qm c];exact qc) d)]
    rw[qm c,qm c,qm c,qm c,qm c];exact qc
theorem cK(a:Lm K C "bounds_told" "Door.bounds_told" Qz ["self"])(T:HN K mg tk)(U:Iz K C):Mf P w K mg base C "bounds_told" W6 1 (dv K C):=by
 refine a.mq cM λf _ A _ s H vs Q E d h=>?_
 ·obtain⟨p,ta,hk,bd,lg,n,D,rfl,b,q⟩:=h
  refine#[_,(qg (qr (qy (qd (za (qv 0)) (qd (za (qv 0)) (qd (za (qv 0)) qb)))))),?_]
  exact#[_,Z,p,_,Z,b.h_near U,_,Z,p,_,Z,b.h_far U,_,Z,p,_,Z,b.h_most U,GK,λt c=>q t _ (GS.upd c) qc]
theorem gm(a:Lm K C "keys_now" "Door.keys_now" Zu ["self"])(T:HN K mg tk)(U:Iz K C):Mf P w K mg base C "keys_now" W6 1 (ox K C):=by
 refine a.mq gk λf _ A _ s H vs Q E v h=>?_
 ·obtain⟨p,ta,hk,bd,lg,n,D,rfl,b,q⟩:=h
  refine#[_,(qg (qr (qH bh T.b_tuple J0 (qd (za (qv 0)) qb)))),?_]
  obtain⟨u,r,e,c⟩:=id b.ks;refine#[_,Z,p,_,Z,b.h_house_keys U,hk,_,Z,.inl (G0.of r),λt m d g=>?_]
  exact q t u m d g e λi a o j l=>GS.sqt d (c i a o j l)
end
section
variable{P:Ξ}{w:Ω}{K:ι}{mg:GQ}{base:Ψ}{tk:Nat->Tok}{C:Δ}
theorem cT(a:Lm K C "closed_now" "Door.closed_now" QQ ["self"])(T:HN K mg tk)(U:Iz K C):Mf P w K mg base C "closed_now" W6 1 (jl K C):=by
 refine a.mq cP λf _ A _ s H vs Q E c h=>?_
 ·obtain⟨p,ta,hk,bd,lg,n,D,rfl,b,q⟩:=h
  refine#[_,(qg (qr (za (qv 0)))),?_]
  exact#[_,Z,p,_,Z,b.h_least_age U,q]
end
section
variable{P:Ξ}{w:Ω}{K:ι}{mg:GQ}{base:Ψ}{tk:Nat->Tok}
theorem nF(a:At K mg "_law_take" bZ ["_law_box_here","_law_many"])(T:HN K mg tk):Df P w K mg base "_law_take" X0 1 QL:=by
 refine a.dq Ii λf _ A _ s H vs Q E C h=>?_
 ·obtain⟨b,l,c,rfl,⟨n,m,k,g,t,u,v,B⟩,p,j,h1,q⟩:=h
  refine#[_,(qe (qK (qE rY (qC qG (qv 0) qf) qf (qB _)) (qe (qw (i:=2) Ii.nd Z (Or.inl Z) (qu zV (qC qG (qv 0) qf) (qv 1)))
   (qe (q9 (qu bA (qC qG (qv 0) qf) (qv 1)) (bG (qv 0) qf Zc))
   (qg (qr (qv 2))))) qF)
   (qe (q9 (qu qI (qC qG (qv 0) qf) qf) (bG (qv 0) qf Zc))
   (qe (qw (i:=3) Ii.nd Z (Or.inl Z) (qu qI (qC qG (qv 0) qf) (qu QR qf (qC qG (qv 0) qf))))
   (qe (zn JQ Z (zC Z T.b_range (qd qf qb)) (qh (i:=4) Ii.nd Z (Or.inl Z))
   (qg (qw (i:=3) Ii.nd Z (Or.inl Z) (qu zV (qu qI (qu qI (qu QR (qv 3) (qv 3)) (qu QR qf (qC qG (qv 0) qf))) qf) qf))))
   (qg (qr (qu zV (qu bA (qv 3) qf) (qv 1)))))))),?_]
  refine#[_,Z,b,_,_,_,Z,Z,G0.of g,Z,_,_,Z,Z,_,Z,?_]
  refine qW (λ_=>?_) (λ_=>?_)
  ·refine#[_,Z,b,_,_,_,Z,Z,G0.of g,Z,_,Z,_,_,Z,Z,j,?_]
   refine#[_,Z,b,_,_,_,Z,Z,G0.of g,Z,_,Z,_,_,Z,Z,#[j,h1],_,Z,b,_,_,0,Z,Z,g,Z,?_]
   refine#[_,Z,?_]
   refine q _ _ (Fp _ (by lia)) (Ft _ j) #[λc o p e=>?_,_,_,_,qc,t,u,v,by lia]
   rw[qm p];exact e
  ·refine#[_,Z,b,_,_,_,Z,Z,G0.of g,Z,_,_,Z,Z,_,Z,b,_,_,2,Z,Z,g,Z,?_]
   have d:(GW H b (sw n m (k+1))) b=↑(sw n m (k+1)):=qc
   refine#[_,Z,b,_,_,_,Z,Z,G0.of d,Z,_,Z,b,_,_,_,Z,Z,G0.of d,Z,_,_,Z,Z,.inl #[⋯,⋯],_,_,Z,Z,?_]
   refine#[3,Z,⋯,⋯,Qf (n:=3) (Pv:=λi σ r=>r=GW H b (sw n m (k+1))/\∃(z:Int) (o:Μ),σ=[↑(.ref b),↑(.int l),none,↑(.int z),o]/\0<=z/\z<2 ^ 64) #[Z,_,_,Z,by lia,by lia] ?_ ?_]
   ·rintro i σ r hi ⟨rfl,z,o,rfl,x,y⟩
    refine#[_,Z,_,Z,_,_,Z,Z,.inl #[by lia,by lia],_,Z,b,_,_,_,Z,Z,G0.of d,Z,_,_,Z,Z,.inl #[⋯,⋯],_,_,Z,Z,_,_,Z,Z,_,_,Z,Z,(by decide:(0:Int)<2305843009213693951),Z,_,_,Z,?_,?_]
    ·exact Fp _ ⋯
    ·exact Int.lt_trans (Ft _ ⋯) ⋯
   ·rintro σ r ⟨rfl,z,o,rfl,x,y⟩
    refine#[_,Z,_,_,Z,Z,#[⋯,⋯],_,Z,_,_,Z,Z,j,?_]
    refine q _ _ (Fp _ (by lia)) (Ft _ j) #[λc o p e=>?_,_,_,_,qc,t,u,by lia,by lia]
    rw[qm p];exact e
theorem p8(a:At K mg "_law_box" eF ["_law_script","_law_k"])(T:HN K mg tk):Df P w K mg base "_law_box" ["_law_script","_law_k"] 1 (vB K):=by
 refine a.dq Ie λf _ A _ s H vs Q E G h=>?_
 ·obtain⟨b,d,k,rfl,n,q⟩:=h
  refine#[_,(qe (q9 (qy (qd qf (qd qf qb))) (gK Z (ql (qh (i:=2) Ie.nd Z (Or.inl Z)) (ql (qh (i:=3) Ie.nd Z (Or.inl Z)) qM))))
   (qe (qK (qE ff (qv 1) (qx qY T.b_len J6 (qd (qv 0) qb)) (qB _)) (qg (qw (i:=2) Ie.nd Z (Or.inl Z) (qC qG (qv 0) (qv 1)))) qF)
   (qe (zn JQ Z (zN (Qh bD (qv 0) QK (QH qf))) (qh (i:=4) Ie.nd Z (Or.inl Z))
   (qg (qw (i:=3) Ie.nd Z (Or.inl Z) (qu zV (qu qI (qu QR (qv 3) qf) (qv 4)) qf))))
   (qg (qr (zo (qd (qu QR (qx kq T.b_abs PyProof.Rows.boot_abs (qd (qv 2) qb)) (qH jG T.b_int GD (qd (zS sQ (qx kq T.b_abs PyProof.Rows.boot_abs (qd (qv 2) qb)) (qu CC qf qf) (qB _)) qb))) (qd (qu zV (qu qI (qu qI (qu QR (qv 3) qf) (qv 2)) (qu QR qf (qv 1))) qf) (qd qf qb))))))))),?_]
  refine#[GJ,λD r=>#[D,_,Z,G9.of qc,Z,_,_,Z,_,_,Z,Z,?_]]
  have g:=GS.upd (o:= .tup [.int 0,.int 7]) r
  refine#[_,Z,_,Z,b,_,Z,.inl (g.seq n),_,_,Z,Z,_,Z,?_]
  refine qW (λhk=>?_) (λ_=>?_)
  ·have B:k<d.length:=by have:=Jx hk;rw[Je]at this;lia
   refine#[_,Z,_,Z,b,_,_,.int d[k],Z,Z,g.seq n,Qo (by rw[Jn,Jg B];rfl),?_]
   refine#[_,Z,_,Z,b,_,Z,g.seq n,λl C=>#[l,Z,#[_,G0.of qc],?_]]
   rw[ci];have j:=g.trans (GS.upd (o:= .lst ((aD d none ↑63).map V.int)) C)
   refine Qj (K:=K) (a:=l) (xs:=(aD d none ↑63).map V.int) (λi σ c=>c=GW (GW H D (.tup [.int 0,.int 7])) l (.lst ((aD d none ↑63).map V.int))/\∃(z:Int) (o:Μ),σ=[↑(.ref b),↑(.int (k:Int)),↑(.int d[k]),↑(.int z),o]/\0<=z/\z<2147483647) #[Z,_,_,Z,⋯,⋯] (λi σ c _ ⟨e,_⟩=>by subst e;exact G0.of qc) ?_ ?_
   ·rintro i x σ c v ⟨rfl,z,o,rfl,t,u⟩
    obtain⟨y,rfl,F⟩:=Qg v;refine#[_,Z,_,_,Z,Z,.inr #[⋯,⋯],_,Z,_,_,Z,Z,_,_,Z,Z,(by decide:(0:Int)<2147483647),Z,_,_,Z,Fp _ ⋯,Ft _ ⋯]
   ·rintro σ c ⟨rfl,z,o,rfl,t,u⟩
    refine#[_,Z,_,Z,_,Z,_,Z,_,_,Z,Z,#[⋯,⋯,⋯],_,_,Z,Z,.inr #[_,Z,?_]]
    refine#[_,_,Z,Z,.inr #[uK _,ud _],_,Z,_,_,Z,Z,.inr #[⋯,⋯],_,Z,_,_,Z,Z,_,Z,_,_,Z,Z,.inl #[⋯,⋯],_,_,Z,Z,_,_,Z,Z,(by decide:(0:Int)<2305843009213693951),?_]
    exact#[GK,λp m=>q _ _ (QU m j) (j.trans (GS.upd m)) #[_,_,_,qc,Fp _ ⋯,Int.lt_trans (Ft _ ⋯) ⋯,⋯,⋯]]
  ·refine#[_,Z,_,Z,b,_,Z,g.seq n,λl C=>#[l,Z,#[_,G0.of qc],?_]]
   rw[ci];have j:=g.trans (GS.upd (o:= .lst ((aD d none ↑63).map V.int)) C)
   refine Qj (K:=K) (a:=l) (xs:=(aD d none ↑63).map V.int) (λi σ c=>c=GW (GW H D (.tup [.int 0,.int 7])) l (.lst ((aD d none ↑63).map V.int))/\∃(z:Int) (o:Μ),σ=[↑(.ref b),↑(.int (k:Int)),↑(.int 0),↑(.int z),o]/\0<=z/\z<2147483647) #[Z,_,_,Z,⋯,⋯] (λi σ c _ ⟨e,_⟩=>by subst e;exact G0.of qc) ?_ ?_
   ·rintro i x σ c v ⟨rfl,z,o,rfl,t,u⟩
    obtain⟨y,rfl,F⟩:=Qg v;refine#[_,Z,_,_,Z,Z,.inr #[⋯,⋯],_,Z,_,_,Z,Z,_,_,Z,Z,(by decide:(0:Int)<2147483647),Z,_,_,Z,Fp _ ⋯,Ft _ ⋯]
   ·rintro σ c ⟨rfl,z,o,rfl,t,u⟩
    refine#[_,Z,_,Z,_,Z,_,Z,_,_,Z,Z,#[⋯,⋯,⋯],_,_,Z,Z,.inr #[_,Z,?_]]
    refine#[_,_,Z,Z,.inr #[uK _,ud _],_,Z,_,_,Z,Z,.inr #[⋯,⋯],_,Z,_,_,Z,Z,_,Z,_,_,Z,Z,.inl #[⋯,⋯],_,_,Z,Z,_,_,Z,Z,(by decide:(0:Int)<2305843009213693951),?_]
    exact#[GK,λp m=>q _ _ (QU m j) (j.trans (GS.upd m)) #[_,_,_,qc,Fp _ ⋯,Int.lt_trans (Ft _ ⋯) ⋯,⋯,⋯]]
theorem lT(a:At K mg "_law_table" aW ["_law_box_here"])(T:HN K mg tk)(Y:Df P w K mg base "_law_take" X0 1 QL):Df P w K mg base "_law_table" X7 2 mJ:=by
 refine a.dq Lc λf _ A _ s H vs Q E O h=>?_
 ·obtain⟨b,c,rfl,I,hc,q⟩:=h
  refine#[_,(qe (qw (i:=1) Lc.nd Z (Or.inr Z) (qH (sG Z) T.b_list FM (qd (qH i0 T.b_range PyProof.Rows.boot_range (qd qf qb)) qb)))
   (qg (qr (qH qX T.b_tuple J0 (qd (zA (own:=["_law_k"]) (fr:=["_law_rest","_law_box_here"]) (js:=[1,0]) Z (zC Z T.b_range (qd qf qb)) Z (vM Z Z) Z (vY Z nofun nofun nofun Z Z Z Z Z Z) (λ_ _ _ _=>qh (i:=0) (show List.Nodup (["_law_k","_law_rest","_law_box_here"]:Α)from by decide +kernel) Z (Or.inl Z) (.inr Z)) (λ_ _ _ _=>(kg (K:=K) Z EZ PySem.F.slot_list_pop PySem.F.type_list_pop gc (qv 1) (qd (qp Y O.mo (qd (qv 2) (qd (qx (cF (K:=K) Z) T.b_len J6 (qd (qv 1) qb)) qb))) qb)))) qb))))),?_]
  refine#[_,Z,λr g=>#[r,16,Z,qc,⋯,λl C=>?_]]
  rw[B4];have M:=(GS.upd (o:= .rng 0 16) g).trans (GS.upd (o:= .lst (HW.map V.int)) C)
  have u:l≠b:=qS ((GS.upd g).grc I).bx C
  refine#[_,Z,⋯,⋯,Zj (n:=16) ⋯ (λi ys B=>IQ b (c+i) H B/\∃d zs:Β,B l=↑(.lst (d.map V.int))/\ys=zs.map V.int/\d.length+i=16/\(zs++d).Perm HW) #[M.grc I,HW,[],qc,Z,by rw[kh],.refl _] ?_ ?_]
  ·rintro i ys B hi U ⟨v,d,zs,y,rfl,G,pm⟩
   refine#[_,Z,.inl #[Z,_,G0.of y],?_]
   refine#[_,Z,_,Z,l,_,Z,.inl (G0.of y),b,_,_,Z,v.bx,by lia,by rw[Je];lia,by rw[Je];lia,λx H3 x0 S D=>?_]
   rw[Je]at S;obtain⟨k,rfl⟩:∃k:Nat,x=(k:Int):=#[x.toNat,by lia]
   have hk:k<d.length:=by lia
   have F:=D.kp _ _ u y;refine#[l,_,_,k,.int d[k],Z,Z,F,by lia,by lia,?_,?_,?_]
   ·rw[Je];exact cY hk
   ·rw[Jn,Jg hk];rfl
   ·refine#[#[λc o j e=>?_,?_],d.eraseIdx k,zs++[d[k]],?_,by simp,?_,?_]
    ·by_cases z:c=l
     ·subst z
      rw[GS.upd g _ _ e]at C;cases C
     ·rw[qm z];exact D.kp _ _ j (v.kp _ _ j e)
    ·obtain⟨n,m,N,e,r⟩:=D.bx
     exact#[n,m,N,by rw[qm u.symm];exact e,r]
    ·rw[qc,rO]
    ·rw[List.length_eraseIdx_of_lt hk];lia
    ·exact(xh hk).trans pm
  ·rintro ys B W ⟨v,d,zs,y,rfl,G,pm⟩ p R
   have X:d=[]:=List.eq_nil_of_length_eq_zero (by lia)
   subst X;rw[E3]at pm;refine#[p,_,Z,.inl #[G0.of qc,λt L=>?_]]
   have J:=v.same (GS.upd (o:= .lst (zs.map V.int)) R)
   exact q t zs _ (J.same (GS.upd L)) (J.fresh (I.mono (by lia)) L) qc pm
theorem re(a:At K mg "_law_key" eP ["_law_box_here"])(T:HN K mg tk)(B:Df P w K mg base "_law_take" X0 1 QL):Df P w K mg base "_law_key" X7 2 pH:=by
 refine a.dq sI λf _ A _ s H vs Q E m h=>?_
 ·obtain⟨b,c,rfl,v,U,q⟩:=h
  refine#[_,(qg (qr (qH qX T.b_tuple J0 (qd (zA (own:=["_law_k"]) (fr:=["_law_box_here"]) (js:=[0]) Z (zC Z T.b_range (qd (qu qI qf (qp B m.mo (qd (qv 0) (qd qf qb)))) qb)) Z (gf Z) Z (iD Z nofun nofun nofun Z Z Z) (λ_ _ _ _=>qh (i:=0) (show List.Nodup (["_law_k","_law_box_here"]:Α)from by decide +kernel) Z (Or.inl Z) (.inr Z)) (λ_ _ _ _=>(qp B m.mo (qd (qv 1) (qd qf qb))))) qb)))),?_]
  refine#[_,Z,b,_,_,Z,v,by lia,⋯,⋯,λr H1 S N M=>#[_,_,Z,Z,_,Z,by lia,by lia,?_]]
  obtain⟨n,rfl,O⟩:∃n:Nat,r=(n:Int)/\n<8:=#[r.toNat,by lia,by lia]
  have L:(1+(n:Int)).toNat=n+1:=by lia
  rw[L];refine Zj (n:=n+1) (JG (by lia:n+1<=8) ⋯) (λi ys g=>IQ b (c+1+i) H g/\∃d:Β,ys=d.map V.int/\zy d) #[M,[],Z,λ_ h=>nomatch h] ?_ ?_
  ·rintro i ys g hi J ⟨e,d,rfl,hk⟩
   refine#[_,Z,b,_,_,Z,e.bx,by lia,⋯,⋯,λx R D I C=>#[e.trans C,d++[x],by simp,λz F=>?_]]
   rcases JL.mp F with y|y
   ·exact hk z y
   ·rw[Jh.mp y];exact#[D,I]
  ·rintro ys g j ⟨e,d,rfl,hk⟩ p G
   rw[Je]at j;refine#[p,_,Z,.inl #[G0.of qc,λt u=>?_]]
   have l:=e.same (GS.upd (o:= .lst (d.map V.int)) G)
   exact q t d _ ((l.same (GS.upd u)).mono (by lia)) (l.fresh (v.mono (by lia)) u) qc hk (by lia) (by lia)
end
section
variable{P:Ξ}{w:Ω}{K:ι}{mg:GQ}{base:Ψ}{tk:Nat->Tok}
theorem jK(a:At K mg "back_table" aI ["table"])(T:HN K mg tk):Df P w K mg base "back_table" ["table"] 1 (uS K):=by
 refine a.dq Ig λf _ A _ s H vs Q E hr h=>?_
 ·obtain⟨c,t,rfl,D,pm,q⟩:=h
  refine#[_,(qe (qw (i:=1) Ig.nd Z (Or.inl Z) (qu tK (zo (qd qf qb)) (zj (v:= .int 16) Z T.g_DIGITS #[_,Z])))
   (qe (zn JQ Z (wH Z T.b_enumerate (qd (qv 0) qb)) (gK Z (ql (qh (i:=2) Ig.nd Z (Or.inl Z)) (ql (qh (i:=3) Ig.nd Z (Or.inl Z)) qM)))
   (qg (q9 (qv 2) (bG (qv 1) (qv 3) Zc))))
   (qg (qr (qH qX T.b_tuple J0 (qd (qv 1) qb)))))),?_]
  refine#[GI,λp Y=>#[p,16,_,Z,Z,qc,⋯,⋯,GO,λl U=>?_]]
  have e0:(List.replicate (16:Int).toNat [V.int 0]).flatten=(QM t 0).map V.int:=by rw[yh];rfl
  rw[e0];have W:=(GS.upd (o:= .lst [V.int 0]) Y)
  have I:=W.trans (GS.upd (o:= .lst ((QM t 0).map V.int)) U)
  have step:∀(i:Nat) (x:V) (g:Hp) (r:Δ),(t.map V.int)[i]? =↑x->g l=↑(.lst ((QM t i).map V.int))->GS H g->g r=none->
    ∃j:Nat,∃z:Int,x= .int z/\Z1 ((QM t i).map V.int).length z=↑j/\(GW g r (.tup [.int i,x])) l=↑(.lst ((QM t i).map V.int))/\
     (GW (GW g r (.tup [.int i,x])) l (.lst (((QM t i).map V.int).set j (.int i)))) l=↑(.lst ((QM t (i+1)).map V.int))/\GS H (GW (GW g r (.tup [.int i,x])) l (.lst (((QM t i).map V.int).set j (.int i)))):=by
   intro i x g r G n m u;obtain⟨z,rfl,X⟩:=Qg G;have hi:i<t.length:=(Js.mp X).1
   have ez:t[i]=z:=(Js.mp X).2
   have bd:=kR pm hi;have sp:=GS.upd (o:= .tup [.int i,.int z]) u
   refine#[z.toNat,z,Z,iL (by lia) (by rw[Je,bz];lia),sp _ _ n,?_,λd o e=>?_]
   ·rw[qc,cw,<- ez,xi pm hi]
   ·have N:d≠l:=λy=>by
     rw[y]at e;rw[W _ _ e]at U;cases U
    rw[qm N];exact sp _ _ (m _ _ e)
  have F:∀(o:Μ) (o':Μ) (g:Hp),g l=↑(.lst ((QM t t.length).map V.int))->GS H g->∀J,g J=none->Q (.ref J) (GW g J (.tup ((QM t t.length).map V.int))):=λ_ _ g n m J R=>
   q _ _ (m.trans (GS.upd R)) (by rw[qc,Bb pm])
  rcases D with D|D
  ·refine#[_,Z,c,Z,.inl #[#[_,I.seq D],?_]]
   refine lZ (K:=K) (a:=c) (xs:=t.map V.int) (λi σ g=>∃(B C:Μ),σ=[↑(.ref c),↑(.ref l),B,C]/\g l=↑(.lst ((QM t i).map V.int))/\GS H g) #[none,none,Z,qc,I] (λi σ g _ ⟨_,_,_,_,m⟩=>m.seq D) ?_ ?_
   ·rintro i x σ g r G ⟨B,C,rfl,n,m⟩ u
    obtain⟨j,z,rfl,M,L,O,S⟩:=step i x g r G n m u;refine#[r,_,Z,G9.of qc,Z,_,_,Z,_,_,Z,Z,?_]
    exact#[_,Z,_,Z,_,Z,l,_,_,j,Z,Z,L,M,_,_,Z,O,S]
   ·rintro σ g ⟨B,C,rfl,n,m⟩
    rw[Je]at n
    exact#[_,Z,l,_,Z,.inl #[G0.of n,F B C g n m]]
  ·refine#[_,Z,c,Z,.inr #[#[_,GS.sqt I D],?_]]
   refine ve (K:=K) (a:=c) (xs:=t.map V.int) (λi σ g=>∃(B C:Μ),σ=[↑(.ref c),↑(.ref l),B,C]/\g l=↑(.lst ((QM t i).map V.int))/\GS H g) #[none,none,Z,qc,I] (λi σ g _ ⟨_,_,_,_,m⟩=>GS.sqt m D) ?_ ?_
   ·rintro i x σ g r G ⟨B,C,rfl,n,m⟩ u
    obtain⟨j,z,rfl,M,L,O,S⟩:=step i x g r G n m u;refine#[r,_,Z,G9.of qc,Z,_,_,Z,_,_,Z,Z,?_]
    exact#[_,Z,_,Z,_,Z,l,_,_,j,Z,Z,L,M,_,_,Z,O,S]
   ·rintro σ g ⟨B,C,rfl,n,m⟩
    rw[Je]at n
    exact#[_,Z,l,_,Z,.inl #[G0.of n,F B C g n m]]
theorem wD(a:At K mg "coded" ij ["table","key","digits"])(T:HN K mg tk):Df P w K mg base "coded" X9 1 (iC K):=by
 refine a.dq IR λf _ A _ s H vs Q E hr h=>?_
 ·obtain⟨a,b,c,t,L,ds,rfl,U,Y,R,lt,l1,a0,q⟩:=h
  refine#[_,(qe (qw (i:=3) IR.nd Z (Or.inl Z) (qH Zo T.b_list FM (qd (qv 2) qb)))
   (qe (zn JQ Z (bv (qv 1)) (qh (i:=4) IR.nd Z (Or.inl Z))
   (qg (zn JQ Z (zC Z T.b_range (qd (qx qY T.b_len J6 (qd (qv 2) qb)) qb)) (qh (i:=5) IR.nd Z (Or.inl Z))
   (qe (qw (i:=6) IR.nd Z (Or.inl Z) (qC qG (qv 3) (qu zO (qv 5) qf)))
   (qg (q9 (qC (MZ.or qG qO) (qv 0) (qu zV (qu qI (qu qI (qu qI (qC qG (qv 3) (qv 5)) (qv 4)) (qv 5)) (qv 6)) (zj (v:= .int 16) Z T.g_DIGITS #[_,Z]))) (bG (qv 3) (qv 5) Zc)))))))
   (qg (qr (qH qX T.b_tuple J0 (qd (qv 3) qb)))))),?_]
  refine#[_,Z,c,_,Z,R,λl S=>?_]
  have W:GS H _:=GS.upd (o:= .lst (ds.map V.int)) S
  refine#[_,Z,b,Z,Bv (K:=K) (H0:=H) Y (λj σ G=>GS H G/\∃J m g,σ=[↑(.ref a),↑(.ref b),↑(.ref c),↑(.ref l),J,m,g]/\G l=↑(.lst ((QB t (L.take j) ds).map V.int))) #[W,_,_,_,Z,qc] (λj X H' h=>h.1) ?_ ?_]
  ·rintro j x σ G hx ⟨y,J,m,g,rfl,z⟩
   obtain⟨d,rfl,N⟩:=Qg hx;rw[ii N,lY];have C:(QB t (L.take j) ds).length=ds.length:=cv
   generalize QB t (L.take j) ds=r at z C
   refine#[_,Z,c,_,Z,R.same y,_,Z,?_,?_,?_]
   ·lia
   ·rw[Je];lia
   rw[show((((ds.map V.int).length:Nat):Int)).toNat=ds.length by rw[Je];rfl]
   refine Qf (n:=ds.length) (Pv:=λi σ F=>GS H F/\∃m g,σ=[↑(.ref a),↑(.ref b),↑(.ref c),↑(.ref l),↑(.int d),m,g]/\F l=↑(.lst ((ZY t d r i).map V.int))) #[y,_,_,Z,z] ?_ ?_
   ·rintro i σ F hi ⟨I,m,g,rfl,e⟩
    have D:(ZY t d r i).length=ds.length:=by rw[QD,C]
    generalize hr':ZY t d r i=B at e D
    have u:i<B.length:=by lia
    refine#[_,Z,_,Z,_,_,Z,Z,l,_,_,_,Z,Z,G0.of e,uo (i:=i) (by lia) u,?_]
    refine#[_,Z,_,Z,_,Z,l,_,_,_,Z,Z,G0.of e,aq (i:=i) (by lia) u,_,Z,_,_,Z,Z,_,Z,_,_,Z,Z,_,Z,_,_,Z,Z,_,_,Z,Z,(by decide:(0:Int)<16),?_]
    have M:=ac (B.getD i 0+d+(0+(i:Int))+ah B i)
    refine(U.same I).ix (aq (i:=((B.getD i 0+d+(0+(i:Int))+ah B i)%16).toNat) (by have:=M.1;lia) (by rw[lt];have:=M.1;have:=M.2;lia)) ?_
    refine#[_,Z,_,Z,l,_,_,i,Z,Z,e,iL (by lia) (by rw[Je];exact u),Zs I S,_,_,Z,?_]
    rw[qc,cw,ZY,hr',iG,Int.zero_add]
   ·rintro σ F ⟨I,m,g,rfl,e⟩
    exact#[I,_,_,_,Z,e]
  ·rintro σ G ⟨y,J,m,g,rfl,z⟩
   rw[Je,E5]at z
   exact#[_,Z,l,_,Z,.inl #[G0.of z,λp O=>q p _ (y.trans (GS.upd O)) (QU O y) qc]]
theorem sg(a:At K mg "decoded" du ["table","key","digits"])(T:HN K mg tk)(xK:Df P w K mg base "back_table" ["table"] 1 (uS K)):Df P w K mg base "decoded" X9 2 (jx K):=by
 refine a.dq HZ λf _ A _ s H vs Q E hr h=>?_
 ·obtain⟨a,b,c,t,e,ds,rfl,ha,hb,hc,pm,a0,l1,a4,q⟩:=h
  refine#[_,(qe (qw (i:=3) HZ.nd Z (Or.inl Z) (qp xK hr.mo (qd (qv 0) qb)))
   (qe (qw (i:=4) HZ.nd Z (Or.inl Z) (qH Zo T.b_list FM (qd (qv 2) qb)))
   (qe (zn JQ Z (uv Z T.b_reversed (qd (qv 1) qb)) (qh (i:=5) HZ.nd Z (Or.inl Z))
   (qg (zn JQ Z (uv Z T.b_reversed (qd (qH i0 T.b_range PyProof.Rows.boot_range (qd (qx qY T.b_len J6 (qd (qv 2) qb)) qb)) qb)) (qh (i:=6) HZ.nd Z (Or.inl Z))
   (qe (qw (i:=7) HZ.nd Z (Or.inl Z) (qC qG (qv 4) (qu zO (qv 6) qf)))
   (qg (q9 (qu zV (qu zO (qu zO (qu zO (qC qO (qv 3) (qC qG (qv 4) (qv 6))) (qv 5)) (qv 6)) (qv 7)) (zj (v:= .int 16) Z T.g_DIGITS #[_,Z])) (bG (qv 4) (qv 6) Zc)))))))
   (qg (qr (qH qX T.b_tuple J0 (qd (qv 4) qb))))))),?_]
  refine#[_,Z,a,t,Z,ha,pm,λY H1 F a1=>?_]
  refine#[_,Z,c,_,Z,hc.same F,λl hl=>?_]
  have C:GS H1 _:=GS.upd (o:= .lst (ds.map V.int)) hl
  refine#[_,Z,b,Z,wc (K:=K) (H0:=H1) (hb.same F) (λj σ R=>GS H1 R/\∃W D B,σ=[↑(.ref a),↑(.ref b),↑(.ref c),↑(.ref Y),↑(.ref l),W,D,B]/\R l=↑(.lst ((Q6 (zz t) (e.drop (e.length-j)) ds).map V.int))) #[C,_,_,_,Z,by rw[Nat.sub_zero,List.drop_length];exact qc] (λj a3 H' h=>h.1) ?_ ?_]
  ·rintro j x σ R hj hx ⟨C,W,D,B,rfl,G⟩
   obtain⟨d,rfl,I⟩:=Qg hx;rw[Je]at hj I;have ed:e.drop (e.length-(j+1))=d::e.drop (e.length-j):=by
    have:=vD I
    rw[show e.length-1-j+1=e.length-j by lia]at this
    rw[show e.length-(j+1)=e.length-1-j by lia]
    exact this
   rw[ed,Q6];have M:(Q6 (zz t) (e.drop (e.length-j)) ds).length=ds.length:=gn
   have L:zy (Q6 (zz t) (e.drop (e.length-j)) ds):=mI a0
   generalize Q6 (zz t) (e.drop (e.length-j)) ds=r at G M L
   refine#[_,Z,c,_,Z,(hc.same F).same C,_,Z,λpr N=>#[pr,Z,.inr (.inr #[ds.length,?_,by lia,?_])]]
   ·rw[qc,Je]
   have a2:=C.trans (GS.upd (o:= .rng 0 ((ds.map V.int).length:Nat)) N)
   have U:=GS.upd (o:= .rng 0 ((ds.map V.int).length:Nat)) N _ _ G
   refine wF (n:=ds.length) (Pv:=λi σ O=>GS H1 O/\∃D B y,σ=[↑(.ref a),↑(.ref b),↑(.ref c),↑(.ref Y),↑(.ref l),↑(.int d),D,B]/\O l=↑(.lst (y.map V.int))/\y.length=ds.length/\zy y/\aF (zz t) d y (ds.length-i)=aF (zz t) d r ds.length) #[a2,_,_,r,Z,U,M,L,Z] ?_ ?_
   ·rintro i σ O hi ⟨S,D,B,y,rfl,g,z,m,J⟩
    have u:ds.length-1-i<y.length:=by lia
    have ep:(ds.length:Int)-1-i=((ds.length-1-i:Nat):Int):=by lia
    rw[ep];generalize hpl:ds.length-1-i=pl at u
    rw[show ds.length-i=pl+1 by lia,aF]at J
    refine#[_,Z,_,Z,_,_,Z,Z,l,_,_,_,Z,Z,G0.of g,uo (i:=pl) Z u,?_]
    have X:=iA m pl;refine#[_,Z,_,Z,_,Z,l,_,_,_,Z,Z,G0.of g,aq (i:=pl) Z u,Y,_,_,_,Z,Z,G9.of (S _ _ a1),aq (i:=(y.getD pl 0).toNat) (by have:=X.1;lia) (by rw[aP];have:=X.1;have:=X.2;lia),?_]
    refine#[_,Z,_,_,Z,Z,_,Z,_,_,Z,Z,_,Z,_,_,Z,Z,_,_,Z,Z,(by decide:(0:Int)<16),?_]
    refine#[_,Z,_,Z,l,_,_,pl,Z,Z,g,pq (by rw[Je];exact u),Zs S hl,_,_,fX (zz t) d y pl,Z,?_,by rw[lV];exact z,mT m,?_]
    ·rw[qc,cw,fX]
    ·rw[show ds.length-(i+1)=pl by lia];exact J
   ·rintro σ O ⟨S,D,B,y,rfl,g,z,m,J⟩
    rw[Nat.sub_self,aF]at J;rw[J]at g
    exact#[S,_,_,_,Z,g]
  ·rintro σ R ⟨C,W,D,B,rfl,G⟩
   rw[Je,Nat.sub_self,List.drop_zero]at G
   exact#[_,Z,l,_,Z,.inl #[G0.of G,λp hp=>q p _ ((F.trans C).trans (GS.upd hp)) (QU hp (F.trans C)) qc]]
theorem gp(a:At K mg "letter_digits" Zk ["name"])(T:HN K mg tk):Df P w K mg base "letter_digits" ["name"] 1 ja:=by
 refine a.dq HK λf _ A _ s H vs Q E x h=>?_
 ·obtain⟨z,rfl,r,q⟩:=h
  refine#[_,(qe (qw (i:=1) HK.nd Z (Or.inl Z) (zo qb))
   (qe (zn JQ Z (uB (qv 0)) (qh (i:=2) HK.nd Z (Or.inl Z))
   (qe (qw (i:=3) HK.nd Z (Or.inl Z) (qu zO (qx mf T.b_ord PyProof.Rows.boot_ord (qd (qv 2) qb)) (qx mf T.b_ord PyProof.Rows.boot_ord (qd qA qb))))
   (qe (zm (QZ EZ Fx Fy zT (qv 1) (qd (qu zV (qv 3) (zj (v:= .int 16) Z T.g_DIGITS #[_,Z])) qb)))
   (qg (zm (QZ EZ Fx Fy zT (qv 1) (qd (qu bA (qv 3) (zj (v:= .int 16) Z T.g_DIGITS #[_,Z])) qb)))))))
   (qg (qr (qv 1))))),?_]
  refine#[GH,λl g=>?_]
  refine#[_,Z,z,Z,mE r,AG (λi σ d=>GS H d/\∃j o,σ=[↑(.str z),↑(.ref l),j,o]/\d l=↑(.lst ((Q0 (z.cps.toList.take i)).map V.int))) #[GS.upd g,_,_,Z,qc] ?_ ?_]
  ·rintro i c σ d t ⟨m,j,o,rfl,e⟩
   have p:=oZ t;rw[AF p,tj];have n:(Q0 (z.cps.toList.take i)).length<=16:=by rw[iU,EX];have:=r.2.2;lia
   generalize Q0 (z.cps.toList.take i)=ds at e n
   have y:((((#[(List.toArray [c])]:Str).cps.getD 0 0:Nat):Int)-((("a":Str).cps.getD 0 0:Nat):Int))=(c:Int)-97:=Z
   have big:(100:Nat)<ζ:=by decide
   refine#[_,Z,_,Z,Z,_,Z,Z,_,_,Z,Z,?_]
   show dc _ _ _ [↑(V.str z),↑(V.ref l),↑(V.str #[(List.toArray [c])]),↑(V.int ((c:Int)-97))] d
   refine#[_,Z,.inl #[Z,_,G0.of e],_,Z,_,_,Z,Z,(by decide:(0:Int)<16),l,_,_,Z,Z,e,by rw[Je];lia,?_]
   have u:GS H (GW d l (.lst (ds.map V.int++[V.int (((c:Int)-97)%16)]))):=Zs m g
   refine#[_,Z,.inl #[Z,_,G0.of qc],_,Z,_,_,Z,Z,#[⋯,⋯],l,_,_,Z,Z,qc,by rw[Jv,Je,Fd];lia,Zs u g,_,_,Z,?_]
   rw[qc,JK,Fh];rfl
  ·rintro σ d ⟨m,j,o,rfl,e⟩
   rw[show z.cps.size=z.cps.toList.length from Z,E5]at e
   exact#[_,Z,q l d m g e]
theorem tP(a:At K mg "key_of" fU ["table","key","name"])(T:HN K mg tk)(d8:Df P w K mg base "letter_digits" ["name"] 1 ja)(xI:Df P w K mg base "coded" X9 1 (iC K)):Df P w K mg base "key_of" V2 2 (ib K):=by
 refine a.dq IT λf _ A _ s H vs Q E hr h=>?_
 ·obtain⟨a,b,z,t,ks,rfl,ha,hb,hz,lt,q⟩:=h
  refine#[_,(qe (qw (i:=3) IT.nd Z (Or.inl Z) (qu tK (zo (qd qf qb)) (zj (v:= .int 4) Z T.g_KEY_PLACES #[_,Z])))
   (qe (zn JQ Z (BE Z T.b_enumerate (qd (qp d8 hr.mo (qd (qv 2) qb)) qb)) (gK Z (ql (qh (i:=4) IT.nd Z (Or.inl Z)) (ql (qh (i:=5) IT.nd Z (Or.inl Z)) qM)))
   (qg (BA (qv 3) (qu zV (qv 4) (zj (v:= .int 4) Z T.g_KEY_PLACES #[_,Z])) vL (qv 5) Ce Zc)))
   (qg (qr (qp xI hr.mo (qd (qv 0) (qd (qv 1) (qd (zA (own:=["total"]) (fr:=[]) (js:=[]) Z (zN (qv 3)) Z (λ_ _ h=>nomatch h) Z (Zr Z nofun nofun nofun) (λ_ _ _ _=>qh (i:=0) (show List.Nodup (["total"]:Α)from by decide +kernel) Z (Or.inl Z) (.inr Z)) (λ_ _ _ _=>(qu zV (qv 0) (zj (v:= .int 16) Z T.g_DIGITS #[_,Z])))) qb)))))))),?_]
  refine#[GI,λY N=>#[Y,4,_,Z,Z,qc,⋯,⋯,GL,λl hl=>?_]]
  have X:=(GS.upd (o:= .lst [V.int 0]) N)
  have s2:=X.trans (GS.upd (o:= .lst (List.replicate (4:Int).toNat [V.int 0]).flatten) hl)
  have M:H l=none:=QU hl X
  refine#[_,Z,z,Z,hz,λF H1 s3 c d=>?_]
  have R:=s3 _ _ (qc (H:=GW H Y (.lst [V.int 0])) (a:=l) (o:= .lst (List.replicate (4:Int).toNat [V.int 0]).flatten))
  have U:F≠l:=λy=>by rw[y,qc]at c;cases c
  generalize hds:Q0 z.cps.toList=ds at d q
  have a1:ds.length<=16:=by rw[<- hds,iU];have:=hz.2.2;lia
  refine#[F,Z,#[_,G0.of d],lZ (K:=K) (a:=F) (xs:=ds.map V.int) (λi σ g=>∃(I J:Μ),σ=[↑(.ref a),↑(.ref b),↑(.str z),↑(.ref l),I,J]/\g l=↑(.lst ((ZJ ds i).map V.int))/\g F=↑(.lst (ds.map V.int))/\GS H g)
   #[none,none,Z,R,d,s2.trans s3] (λi σ g _ ⟨_,_,_,_,hd,_⟩=>G0.of hd) ?_ ?_]
  ·rintro i x σ g pp S ⟨I,J,rfl,r,u,m⟩ O
   obtain⟨dg,rfl,B⟩:=Qg S;have hi:i<ds.length:=(Js.mp B).1
   have eg:ds.getD i 0=dg:=by rw[Jz,B];rfl
   have j:=GS.upd (o:= .tup [.int i,.int dg]) O
   have n:=j _ _ r;have L:i%4<(ZJ ds i).length:=Nat.mod_lt i ⋯
   have e4:(i:Int)%4=((i%4:Nat):Int):=by lia
   refine#[pp,_,Z,G9.of qc,Z,_,_,Z,_,_,Z,Z,?_]
   refine#[_,Z,_,Z,_,_,Z,Z,(by decide:(0:Int)<4),l,_,i%4,.int ((ZJ ds i).getD (i%4) 0),Z,(by show V.int ((i:Int)%4)=_;rw[e4]),n,?_,_,Z,_,_,Z,Z,l,_,_,i%4,Z,Z,n,iL e4 (by rw[Je];exact L),_,_,Z,?_,?_,?_]
   ·rw[ik L,Jz,Jg L];rfl
   ·rw[qc,cw,<- eg,vb]
   ·rw[qm U];exact j _ _ u
   ·exact Zs (m.trans j) M
  ·rintro σ g ⟨I,J,rfl,r,u,m⟩
   rw[Je]at r;refine#[_,Z,_,Z,_,Z,l,Z,#[_,G0.of r],Ze (xs:=(ZJ ds ds.length).map V.int) (GL) (λi ys D=>ys=((bp ds).take i).map V.int/\D=g) #[by simp,Z] (λi ys D ⟨_,e⟩=>by rw[e];exact G0.of r) ?_ ?_]
   ·rintro i ys D x S _ ⟨rfl,rfl⟩
    obtain⟨y,rfl,hy⟩:=Qg S;refine#[_,Z,_,_,Z,Z,(by decide:(0:Int)<16),?_,Z]
    have:(bp ds)[i]? =↑(y%16):=by unfold bp;rw[Jn,hy];rfl
    rw[J9,this];simp
   ·rintro ys D a0 ⟨rfl,rfl⟩ p hp
    rw[show(bp ds).take ((ZJ ds ds.length).map V.int).length=bp ds from Z]
    have C:=GS.upd (o:= .lst ((bp ds).map V.int)) hp
    exact#[a,b,p,t,ks,bp ds,Z,(ha.same m).same C,(hb.same m).same C,.lst qc,lt,by rw[kN];decide,by rw[kN];decide,λp' H' s' G W=>q p' H' ((m.trans C).trans s') (QU G (m.trans C)) W]
theorem gL(a:At K mg "count_digits" ZA ["count"])(T:HN K mg tk):Df P w K mg base "count_digits" ["count"] 1 BR:=by
 refine a.dq hJ λf _ A _ s H vs Q E e h=>?_
 ·obtain⟨c,rfl,q⟩:=h
  refine#[_,(qg (qr (qy (qd (qu zV (qv 0) (zj (v:= .int 16) Z T.g_DIGITS #[_,Z])) (qd (qu zV (qu bA (qv 0) (zj (v:= .int 16) Z T.g_DIGITS #[_,Z])) (zj (v:= .int 16) Z T.g_DIGITS #[_,Z])) (qd (qu bA (qv 0) qf) qb)))))),?_]
  exact#[_,Z,_,_,Z,Z,(by decide:(0:Int)<16),_,Z,_,_,Z,Z,#[⋯,⋯],_,_,Z,Z,(by decide:(0:Int)<16),_,Z,_,_,Z,Z,#[⋯,⋯],GK,λp d=>q p _ (GS.upd d) qc]
theorem Bk{c d:Int}(a:0<=c)(h1:c<4096)(hd:aL d):∀z∈Z2 c d,0<=z/\z<=1000000:=λz e=>by
 have:=fQ a h1 hd z (FN _ e)
 exact#[this.1,Int.le_trans (Int.le_of_lt this.2) ⋯]
theorem nn(a:At K mg "press_of" bY ["table","key","name","age","count","deed"])(T:HN K mg tk)(R:Df P w K mg base "count_digits" ["count"] 1 BR)(xB:Df P w K mg base "key_of" V2 2 (ib K))(xI:Df P w K mg base "coded" X9 1 (iC K)):Df P w K mg base "press_of" W7 3 (pD K):=by
 refine a.dq IS λf _ A _ s H vs Q E D h=>?_
 ·obtain⟨a,b,z,age,c,d,t,L,rfl,G,hb,Y,lt,c0,c1,U,q⟩:=h
  refine#[_,(qe (qw (i:=6) IS.nd Z (Or.inl Z) (qu Z7 (qp R D.mo (qd (qv 4) qb)) (qy (qd (qv 5) qb))))
   (qe (qw (i:=7) IS.nd Z (Or.inl Z) (qu Z7 (qv 6) (qy (qd (qu zV (qx (uH Z) T.b_sum PyProof.Rows.boot_sum (qd (qv 6) qb)) (zj (v:= .int 16) Z T.g_DIGITS #[_,Z])) qb))))
   (qg (qr (qy (qd (qv 2) (qd (qv 3) (qd (qp xI D.mo (qd (qv 0) (qd (qp xB D.mo (qd (qv 0) (qd (qv 1) (qd (qv 2) qb)))) (qd (qv 7) qb)))) qb)))))))),?_]
  refine#[_,Z,c,Z,λp1 H1 S n=>?_]
  refine#[_,Z,GI,λp2 x=>?_]
  have F:=GS.upd (o:= .tup [V.int d]) x
  refine#[p1,p2,_,_,Z,Z,F _ _ n,qc,GL,λB W s3 m=>?_]
  have e:W B=↑(.tup ((Z2 c d).map V.int)):=m
  have S3:=(S.trans F).trans s3;refine#[_,Z,_,Z,B,Z2 c d,Z,.tup e,by show 4<=1000;decide,Bk c0 c1 U,_,_,Z,Z,(by decide:(0:Int)<16),GI,λp4 l=>?_]
  have I:=GS.upd (o:= .tup [V.int ((Z2 c d).sum%16)]) l
  refine#[B,p4,_,_,Z,Z,I _ _ e,qc,GM,λM H5 X y=>?_]
  have g:H5 M=↑(.tup ((Z4 c d).map V.int)):=y
  have j:=(S3.trans I).trans X;refine#[_,Z,_,Z,_,Z,_,Z,_,Z,_,Z,a,b,z,t,L,Z,G.same j,hb.same j,Y,lt,λO H6 u _ r=>?_]
  refine#[_,Z,a,O,M,t,ip t L z,Z4 c d,Z,(G.same j).same u,.tup r,.tup (u _ _ g),lt,by rw[bV];decide,by rw[bV];decide,λN H7 s7 _ C=>?_]
  refine#[GK,λp hp=>?_]
  have J:=GS.upd (o:= .tup [V.str z,.int age,.ref N]) hp
  exact q p N _ (((j.trans u).trans s7).trans J) qc (J _ _ C)
theorem jQ(a:At K mg "read_press" aB ["table","key","press"])(T:HN K mg tk)(X:Df P w K mg base "key_of" V2 2 (ib K))(x8:Df P w K mg base "decoded" X9 2 (jx K)):Df P w K mg base "read_press" V0 3 (mj K):=by
 refine a.dq Hl λf _ A _ s H vs Q E F h=>?_
 ·obtain⟨a,b,O,pc,z,age,t,m,ds,rfl,C,Y,B,r,M,pm,S,u,q⟩:=h
  refine#[_,(qe (q9 (qv 2) (ze Z (ql (qh (i:=3) Hl.nd Z (Or.inl Z)) (ql (qh (i:=4) Hl.nd Z (Or.inl Z)) (ql (qh (i:=5) Hl.nd Z (Or.inl Z)) qM)))))
   (qe (q9 (qp x8 F.mo (qd (qv 0) (qd (qp X F.mo (qd (qv 0) (qd (qv 1) (qd (qv 3) qb)))) (qd (qv 5) qb)))) (gK Z (ql (qh (i:=6) Hl.nd Z (Or.inl Z)) (ql (qh (i:=7) Hl.nd Z (Or.inl Z)) (ql (qh (i:=8) Hl.nd Z (Or.inl Z)) (ql (qh (i:=9) Hl.nd Z (Or.inl Z)) (ql (qh (i:=10) Hl.nd Z (Or.inl Z)) qM)))))))
   (qe (qK (qE gx (qv 10) (qu zV (qu qI (qu qI (qu qI (qv 6) (qv 7)) (qv 8)) (qv 9)) (zj (v:= .int 16) Z T.g_DIGITS #[_,Z])) (qB _)) (qg (qr zd)) qF)
   (qg (qr (qy (qd (qu qI (qu qI (qv 6) (qu QR (qv 7) (zj (v:= .int 16) Z T.g_DIGITS #[_,Z]))) (qu QR (qv 8) qf)) (qd (qv 9) qb)))))))),?_]
  refine#[_,Z,O,_,Z,B,Z,_,_,Z,_,_,Z,_,_,Z,Z,?_]
  refine#[_,Z,_,Z,_,Z,_,Z,a,b,z,t,m,Z,C,Y,M,pJ pm,λI H1 o _ n=>?_]
  refine#[_,Z,a,I,pc,t,ip t m z,ds,Z,C.same o,.tup n,r.same o,pm,u,by lia,by lia,λJ G L _ g=>?_]
  have D:∀x H',GS G H'->cQ H' x (j6 (Q6 (zz t) (ip t m z) ds))->Q x H':=λx H' s' R=>q x H' ((o.trans L).trans s') R
  have hl:(Q6 (zz t) (ip t m z) ds).length=5:=by rw[gn,S]
  obtain⟨lo,mi,hi,d,j,U⟩:=Aq hl;rw[U]at g D;refine#[J,_,Z,G9.of g,Z,_,_,Z,_,_,Z,_,_,Z,_,_,Z,_,_,Z,Z,?_]
  refine#[_,Z,_,Z,_,Z,_,_,Z,Z,_,Z,_,_,Z,Z,_,Z,_,_,Z,Z,_,_,Z,Z,(by decide:(0:Int)<16),Z,_,Z,?_]
  have l:∀x H',GS G H'->cQ H' x (if j=(lo+mi+hi+d)%16 then ↑(lo+mi*16+hi*256,d)else none)->Q x H':=D
  by_cases e:j=(lo+mi+hi+d)%16
  ·rw[Jc e]at l
   refine rB (c:=V.int j=V.int ((lo+mi+hi+d)%16)) (by rw[e]) ?_
   refine#[_,Z,_,Z,_,_,Z,Z,.inr #[⋯,⋯],_,_,Z,Z,_,Z,_,_,Z,Z,.inr #[⋯,⋯],_,_,Z,Z,_,Z,GJ,λp N=>?_]
   exact l _ _ (GS.upd N) #[p,Z,qc]
  ·rw[Jb e]at l
   refine qW (λ_=>l _ _ (GS.refl _) Z) (λy=>absurd ?_ y)
   have:¬V.int j=V.int ((lo+mi+hi+d)%16):=λW=>e (by injection W)
   show(! decide (V.int j=V.int ((lo+mi+hi+d)%16)))=true
   rw[Jo this];rfl
end
end Lw
namespace L3
open PySem PySem.Spec PyProof.Rows L2
structure IG(t:Β)(kss:List Β)(base:Int)(D:Dr):Prop where
 ok:Ik D
 t:D.t=t
 ks:D.kss=kss
 k1:1<=kss.length
 n0:1<=D.near
 n1:D.near<=4
 f0:D.near<=D.far
 f1:D.far<=12
 ms:D.most=12
 lk:D.least<kss.length
 nm:∀e∈D.kn,Qr e.1
 kb:∀e∈D.kn,Iq D e.2/\base<e.2.last/\e.2.last<=base+23
section
variable{t:Β}{kss:List Β}{base:Int}{D:Dr}{nm:Str}{age c:Int}
theorem IG.learn(h:IG t kss base D)(hn:Qr nm)(hl:D.kn.length<=11)(l:0<=age)(i:age<kss.length)(d:1<=c)(j:c<4096)(f:base<c)(g:c<=base+23):IG t kss base {D with kn:=zc D.kn nm #[age,c,none]}:=by
 have m:=mG D.kn nm #[age,c,none];have k:Iq {D with kn:=zc D.kn nm #[age,c,none]} #[age,c,none]:=#[l,by show age<(D.kss.length:Int);rw[h.ks];exact i,d,j,λx y z=>by cases z]
 refine#[#[h.ok.tp,h.ok.l0,h.ok.kl,by show(zc _ _ _).length<=60;lia,fo h.ok.nd _ _],h.t,h.ks,h.k1,h.n0,h.n1,h.f0,h.f1,h.ms,h.lk,λe a=>?_,λe a=>?_]
 ·rcases cr a with a|rfl
  ·exact h.nm e a
  ·exact hn
 ·rcases cr a with a|rfl
  ·exact#[(h.kb e a).1.mono (Jf _),(h.kb e a).2]
  ·exact#[k,f,g]
theorem bT{D:Dr}{nm:Str}{age c:Int}:Hj D nm age c=D.kn\/∃e,D.kn.lookup nm=↑e/\qR D e age=true/\Hj D nm age c=zc D.kn nm (zr D.near D.far e age c).2:=by
 unfold Hj zk;cases e1:D.kn.lookup nm with
 |none=>exact .inl Z
 |some e=>
  simp only
  by_cases a:qR D e age=true
  ·rw[Jc a]
   exact .inr #[e,Z,a,by split<;>rfl]
  ·rw[Jb a];exact .inl Z
theorem IG.hear(h:IG t kss base D)(j:0<=c)(r:c<4096)(u:c<=base+23):IG t kss base {D with kn:=Hj D nm age c}/\(Hj D nm age c).map (·.1)=D.kn.map (·.1):=by
 rcases bT (D:=D) (nm:=nm) (age:=age) (c:=c)with e|⟨e,g,f,p⟩
 ·rw[e];exact#[h,Z]
 ·rw[p]
  have a:=QF g;have hk:=(h.kb _ a).1;have i:=(h.kb _ a).2;simp only at i
  obtain⟨v,n⟩:=aK f h.ok.l0;have o:nm∈D.kn.map (·.1):=Jt.mpr #[_,a,Z]
  have s:=ny (e:=(zr D.near D.far e age c).2) o
  have m:=mB hk (gA f) n j r;have lst:(zr D.near D.far e age c).2.last=e.last\/((zr D.near D.far e age c).2.last=c/\e.last<c):=by
   unfold zr;split
   ·exact .inl Z
   ·split
    ·exact .inr #[Z,by lia]
    ·split
     ·split
      ·exact .inr #[Z,by lia]
      ·exact .inl Z
     ·exact .inl Z
  refine#[#[#[h.ok.tp,h.ok.l0,h.ok.kl,by show(zc _ _ _).length<=60;rw[s];exact h.ok.nl,fo h.ok.nd _ _],h.t,h.ks,h.k1,h.n0,h.n1,h.f0,h.f1,h.ms,h.lk,λx d=>?_,λx d=>?_],gy g]
  ·rcases cr d with d|rfl
   ·exact h.nm x d
   ·exact h.nm (nm,e) a
  ·rcases cr d with d|rfl
   ·exact#[(h.kb x d).1.mono (Jf _),(h.kb x d).2]
   ·refine#[m.mono (Jf _),?_]
    show base<(zr D.near D.far e age c).2.last/\(zr D.near D.far e age c).2.last<=base+23
    rcases lst with l|⟨l,q⟩
    ·rw[l];exact i
    ·rw[l];lia
theorem IG.close{a:Int}(h:IG t kss base D)(f:a<kss.length):IG t kss base {D with least:=if a>D.least then a else D.least}:=by
 have d:=h.lk;have g:=h.ok.l0
 exact#[#[h.ok.tp,(by show 0<=if a>D.least then a else D.least;split<;>lia),h.ok.kl,h.ok.nl,h.ok.nd],h.t,h.ks,h.k1,h.n0,h.n1,h.f0,h.f1,h.ms,(by show(if a>D.least then a else D.least)<(kss.length:Int);split<;>lia),h.nm,λe c=>#[(h.kb e c).1.mono (Jf _),(h.kb e c).2]]
theorem eI{d:Int}(f:t.Perm HW)(hn:Qr nm)(e:0<=c)(a:c<4096)(hd:aL d):Lx (Qm t kss nm age c d):=#[hn,sZ ..,wo f e a hd]
theorem mK{d:Int}(h:IG t kss base D)(e:0<=c)(a:c<4096)(hd:aL d):Z3 D (Qm t kss nm age c d)=zk D nm age ↑(c,d):=by
 unfold Z3 Qm;simp only
 rw[h.t,show Qs D age=kss.getD age.toNat [] by unfold Qs;rw[h.ks],jw (h.t▸h.ok.tp) e a hd]
end
def Ll(f:Nat->Dr->Dr)(k:Nat)(xs a:β):Prop:=a.length=xs.length/\∀(i:Nat) (x:En),xs[i]? =↑x->∃L',a[i]? =↑(x.1,f i x.2.1,L')/\L'.length<=x.2.2.length+k
theorem Ll.refl(xs:β):Ll (λ_ D=>D) 0 xs xs:=#[Z,λi x a=>#[x.2.2,a,Jf _]]
theorem Ll.set{f g:Nat->Dr->Dr}{k i:Nat}{xs a:β}{x:En}{L' c:Ο}(h:Ll f k xs a)(hx:xs[i]? =↑x)(l:a[i]? =↑(x.1,f i x.2.1,L'))(hl:c.length<=L'.length+1)(hg:g i x.2.1=D')(ho:∀j,j≠i->g j=f j):Ll g (k+1) xs (a.set i (x.1,D',c)):=by
 refine#[by rw[Fl];exact h.1,λj y e=>?_]
 obtain⟨M,d,m⟩:=h.2 j y e
 by_cases z:j=i
 ·subst z
  rw[hx]at e;cases e
  rw[l]at d
  have:L'=M:=by injection d with d;injection d with _ d;injection d
  subst this
  exact#[c,by rw[Gd (by rw[h.1];exact(Js.mp hx).1),hg],by lia]
 ·exact#[M,by rw[Ge (λw=>z w.symm),ho j z];exact d,by lia]
theorem Ll.mono{f:Nat->Dr->Dr}{k c:Nat}{xs a:β}(h:Ll f k xs a)(l:k<=c):Ll f c xs a:=#[h.1,λi x d=>let⟨L',e,q⟩:=h.2 i x d;#[L',e,by lia]]
theorem Ll.ext{f g:Nat->Dr->Dr}{k:Nat}{xs a:β}(h:Ll f k xs a)(e:∀i x,xs[i]? =↑x->f i x.2.1=g i x.2.1):Ll g k xs a:=#[h.1,λi x c=>let⟨L',q,r⟩:=h.2 i x c;#[L',by rw[q,e i x c],r]]
theorem Ll.all{p q:Dr->Prop}{f:Nat->Dr->Dr}{k n:Nat}{xs a:β}(h:Ll f k xs a)(hp:∀(i:Nat) (x:En),xs[i]? =↑x->p x.2.1/\x.2.2.length<=n)(hf:∀i D,p D->q (f i D)):∀(i:Nat) (x:En),a[i]? =↑x->q x.2.1/\x.2.2.length<=n+k:=by
 intro i x c;have hi:i<xs.length:=by rw[<- h.1];exact(Js.mp c).1
 obtain⟨L',e,l⟩:=h.2 i xs[i] (Jg hi)
 rw[e]at c;cases c
 obtain⟨h1,d⟩:=hp i xs[i] (Jg hi)
 exact#[hf i _ h1,by show L'.length<=n+k;lia]
def Nl(H:Hp)(v:V):Option (Int×Int)->Prop
 |none=>v= .non
 |some (a,l)=>∃t,v= .ref t/\H t=↑(.tup [.int a,.int l])
def Lg(H:Hp)(tl:Δ)(a:List (Option (Int×Int))):Prop:=∃vs:Ε,H tl=↑(.lst vs)/\vs.length=a.length/\∀(i:Nat) (v:V) (o:Option (Int×Int)),vs[i]? =↑v->a[i]? =↑o->Nl H v o
theorem Nl.mv{S:Η}{H H':Hp}{v:V}{o:Option (Int×Int)}(m:Mv S H H')(n:NT S H)(h:Nl H v o):Nl H' v o:=by
 cases o with
 |none=>exact h
 |some p=>obtain⟨t,e,r⟩:=h;exact#[t,e,m.tup n r]
theorem Lg.mv{S:Η}{H H':Hp}{tl:Δ}{a:List (Option (Int×Int))}(h:Lg H tl a)(m:Mv S H H')(n:NT S H)(hs:tl∉S):Lg H' tl a:=by
 obtain⟨vs,e,l,r⟩:=h
 exact#[vs,m _ _ hs e,l,λi v o d c=>(r i v o d c).mv m n]
theorem Lg.same{H H':Hp}{tl:Δ}{a:List (Option (Int×Int))}(h:Lg H tl a)(s:GS H H'):Lg H' tl a:=h.mv (S:=[]) s.mv cI (λh=>nomatch h)
def c6(nm:Str)(D:Dr):Option (Int×Int)->Dr
 |none=>D
 |some (a,l)=>{D with kn:=zc D.kn nm #[a,l,none]}
section
variable(K:ι)(C:Δ)
inductive Mb (vs:Ε) (H:Hp) (Q:VK):Prop
 |mk (cd tb kt pl p ps b:Δ) (c:Nat) (H0:Hp) (t:Β) (kss:List Β) (xs:β) (nm:Str) (age n:Int) (is:Κ) (base:Int) (h1:vs=[.ref cd,.ref pl,.ref p,.ref ps]) (h2:Pw K C H0 H b c pl xs) (h3:xs.length=2) (h4:Io H cd tb kt t kss) (h5:Qr nm) (h6:0<=age) (h7:age<kss.length) (h8:0<=n) (h9:n<4096) (h10:H p=↑(.tup [.str nm,.int age,.int n])) (h11:Rd H ps (.tup (is.map λi:Nat=>V.int (i:Int)))) (h12:is.Nodup) (h13:(∀i∈is,i<2)) (h14:(∀(i:Nat) (x:En),xs[i]? =↑x->IG t kss base x.2.1/\x.2.2.length<=900)) (h15:∀H' xs',Pw K C H0 H' b c pl xs'->Io H' cd tb kt t kss->Ll (λi D=>if i∈is then{D with kn:=Hj D nm age n}else D) 2 xs xs'->Q .non H')
def lj:Sp:=λvs H Q _=>Mb K C vs H Q
end
def zD(a b:Int):Int:=if a<b then b else a
def Zz(a b:Int):Int:=if b<a then b else a
def cx(D:Dr)(e:Kb)(D':Dr)(a:Kb):Int:=Zz (e.last+D.far) (a.last+D'.far)
def bB(lo hi:Int)(p:Int->Bool):Λ:=((List.range (hi-lo).toNat).map λi:Nat=>lo+(i:Int)).find? p
theorem gs{lo hi:Int}{p:Int->Bool}{c:Int}(h:bB lo hi p=↑c):lo<=c/\c<hi/\p c=true/\∀x,lo<=x->x<c->p x=false:=by
 unfold bB at h;obtain⟨h1,a,bs,e,d⟩:=List.find?_eq_some_iff_append.mp h
 have len:=JH List.length e;rw[Je,List.length_range,Jv,JN]at len;have m:c=lo+(a.length:Int):=by
  have z:((List.range (hi-lo).toNat).map λi:Nat=>lo+(i:Int))[a.length]? =↑c:=by rw[e];simp
  rw[Jn,Gu (by lia)]at z
  exact(JA z).symm
 refine#[by lia,by lia,h1,λx f l=>?_]
 have g:x∈a:=by
  have j:(x-lo).toNat<a.length:=by lia
  have z:((List.range (hi-lo).toNat).map λi:Nat=>lo+(i:Int))[(x-lo).toNat]? =↑x:=by
   rw[Jn,Gu (by lia)]
   show ↑(lo+((x-lo).toNat:Int))=↑x
   congr 1;lia
  rw[e,JT j]at z;exact JP z
 have:=d x g
 simpa using this
theorem rW{lo hi:Int}{p:Int->Bool}(h:bB lo hi p=none):∀x,lo<=x->x<hi->p x=false:=by
 intro x h1 a
 have:=List.find?_eq_none.mp h x (Jt.mpr #[(x-lo).toNat,J1.mpr (by lia),by lia])
 simpa using this
section
variable(K:ι)(C:Δ)
inductive Mc (vs:Ε) (H:Hp) (Q:VK):Prop
 |mk (p ta hk bd lg:Δ) (n:Nat) (D:Dr) (h1:vs=[.ref p]) (h2:GV K C H p ta hk bd lg n D) (h3:Ik D) (h4:∀l (ss:Α) H',GS H H'->ss.Perm (D.kn.map (·.1))->H' l=↑(.lst (ss.map V.str))->Q (.ref l) H')
def fP:Sp:=λvs H Q _=>Mc K C vs H Q
inductive MK (vs:Ε) (H:Hp) (Q:VK):Prop
 |mk (p ta hk bd lg a:Δ) (n:Nat) (D:Dr) (e:Kb) (p' ta' hk' bd' lg' a':Δ) (n':Nat) (D':Dr) (e':Kb) (h1:vs=[.ref p,.ref a,.ref p',.ref a']) (h2:GV K C H p ta hk bd lg n D) (h3:HS H a e) (h4:GV K C H p' ta' hk' bd' lg' n' D') (h5:HS H a' e') (h6:∀H',GS H H'->Q (.int (cx D e D' e')) H')
def oQ:Sp:=λvs H Q _=>MK K C vs H Q
end
theorem lJ{d:Type} [DecidableEq d]:∀{l m:List d},l.Nodup->(∀x∈l,x∈m)->l.length<=m.length
 | [],m,_,_=>Jy _
 |x::l,m,hn,hs=>by
  obtain⟨f,g⟩:=Fg.mp hn;have c:=hs x (JB ..);have i:=lJ (l:=l) (m:=m.erase x) g (λy a=>(List.mem_erase_of_ne (λe:y=x=>f (by rw[<- e];exact a))).mpr (hs y (JM _ a)))
  have h1:=List.length_erase_of_mem c;have h:=List.length_pos_of_mem c;rw[JN];omega
structure NX(t:Β)(kss:List Β)(D:Dr):Prop where
 ok:Ik D
 t:D.t=t
 ks:D.kss=kss
 rm:(D.kn.length:Int)<D.most
theorem gD{t:Β}{kss:List Β}{D:Dr}{nm:Str}{age c d:Int}(h:NX t kss D)(f:D.least<=age)(g:age<kss.length)(e:0<=c)(a:c<4096)(hd:aL d):cZ D (Qm t kss nm age c d)=↑(c,d):=by
 unfold cZ ZP Qm;simp only
 rw[Ji f,h.ks,Ji g,Jc (show(true&&true)=true from Z),h.t,show Qs D age=kss.getD age.toNat [] by unfold Qs;rw[h.ks]]
 exact jw (h.t▸h.ok.tp) e a hd
inductive LP (K:ι) (C:Δ) (vs:Ε) (H:Hp) (Q:VK):Prop
 |mk (cd tb kt pl tl b:Δ) (c:Nat) (H0:Hp) (t:Β) (kss:List Β) (xs:β) (nm:Str) (os:List (Option (Int×Int))) (h1:vs=[.ref cd,.ref pl,.str nm,.ref tl]) (h2:Pw K C H0 H b c pl xs) (h3:xs.length=2) (h4:Io H cd tb kt t kss) (h5:Qr nm) (h6:Lg H tl os) (h7:os.length=2) (h8:(∀(i:Nat) (x:En),xs[i]? =↑x->tl∉eS x.1)) (h9:(∀(i:Nat) (x:En),xs[i]? =↑x->NX t kss x.2.1/\(∀a l,os.getD i none=↑(a,l)->x.2.1.least<=a)/\x.2.1.kn.lookup nm=none/\x.2.1.kn.length<=11/\x.2.2.length<=900)) (h10:(∀a l,↑(a,l)∈os->0<=a/\a<kss.length/\1<=l/\l<4096)) (h11:∀H' xs',Pw K C H0 H' b c pl xs'->Io H' cd tb kt t kss->Ll (λi D=>c6 nm D (os.getD i none)) 2 xs xs'->(∀c ys,H c=↑(.tup ys)->H' c=↑(.tup ys))->Q .non H')
def jB(K:ι)(C:Δ):Sp:=λvs H Q _=>LP K C vs H Q
def ZB(n:Int)(S:List (Int×Int)):List (Int×Int):=S.filterMap λp=>if p.1<n then ↑(p.1,if p.2<n-1 then p.2 else n-1)else none
def aO(n:Int)(S:List (Int×Int)):Bool:=S.any λp=>decide (p.1<=n)&&decide (n<=p.2)
inductive NY:List (Int×Int)->Prop where
 |nil:NY []
 |one (f l:Int) (h:f<=l):NY [(f,l)]
 |two (f l g:Int) (h:f<=l) (h2:l+1<g):NY [(f,l),(g,g)]
def wz(F:List (Int×Int))(n:Int):List (Int×Int):=match F.getLast? with
 |some (f,l)=>if l=n-1 then F.dropLast++[(f,n)]else F++[(n,n)]
 |none=>[(n,n)]
theorem jr{S:List (Int×Int)}(h:NY S)(n:Int):ZB (n+1) S=if aO n S=true then wz (ZB n S) n else ZB n S:=by
 cases h with
 |nil=>rfl
 |one f l h=>
  unfold ZB aO wz
  by_cases h1:f<n
  ·by_cases d:n<=l
   ·have c:(if f<n+1 then ↑(f,if l<n+1-1 then l else n+1-1)else none)=↑(f,n):=by rw[Jc (by lia),Jb (by lia)];congr 2;lia
    have a:(if f<n then ↑(f,if l<n-1 then l else n-1)else none)=↑(f,n-1):=by rw[Jc h1,Jb (by lia)]
    simp only[JR,List.filterMap_nil,c,a,ES,List.any_nil];rw[Ji (by lia:f<=n),Ji d]
    simp
   ·have c:(if f<n+1 then ↑(f,if l<n+1-1 then l else n+1-1)else none)=↑(f,l):=by rw[Jc (by lia),Jc (by lia)]
    have a:(if f<n then ↑(f,if l<n-1 then l else n-1)else none)=↑(f,l):=by rw[Jc h1];congr 2;split<;>lia
    simp only[JR,List.filterMap_nil,c,a,ES,List.any_nil];rw[Jo d];simp
  ·by_cases d:f=n
   ·subst d
    have c:(if f<f+1 then ↑(f,if l<f+1-1 then l else f+1-1)else none)=↑(f,f):=by rw[Jc (by lia),Jb (by lia)];congr 2;lia
    have a:(if f<f then ↑(f,if l<f-1 then l else f-1)else none)=none:=by rw[Jb (by lia)]
    simp only[JR,List.filterMap_nil,c,a,ES,List.any_nil];rw[Ji (F3 f),Ji h];simp
   ·have c:(if f<n+1 then ↑(f,if l<n+1-1 then l else n+1-1)else none)=none:=by rw[Jb (by lia)]
    have a:(if f<n then ↑(f,if l<n-1 then l else n-1)else none)=none:=by rw[Jb h1]
    simp only[JR,List.filterMap_nil,c,a,ES,List.any_nil];rw[Jo (by lia:¬f<=n)]
    simp
 |two f l g h hg=>
  unfold ZB aO wz
  by_cases h1:f<n
  ·by_cases d:n<=l
   ·have c:(if f<n+1 then ↑(f,if l<n+1-1 then l else n+1-1)else none)=↑(f,n):=by rw[Jc (by lia),Jb (by lia)];congr 2;lia
    have a:(if f<n then ↑(f,if l<n-1 then l else n-1)else none)=↑(f,n-1):=by rw[Jc h1,Jb (by lia)]
    have e:(if g<n+1 then ↑(g,if g<n+1-1 then g else n+1-1)else none)=none:=by rw[Jb (by lia)]
    have i:(if g<n then ↑(g,if g<n-1 then g else n-1)else none)=none:=by rw[Jb (by lia)]
    simp only[JR,List.filterMap_nil,c,a,e,i,ES,List.any_nil];rw[Ji (by lia:f<=n),Ji d]
    simp
   ·have c:(if f<n+1 then ↑(f,if l<n+1-1 then l else n+1-1)else none)=↑(f,l):=by rw[Jc (by lia),Jc (by lia)]
    have a:(if f<n then ↑(f,if l<n-1 then l else n-1)else none)=↑(f,l):=by rw[Jc h1];congr 2;split<;>lia
    by_cases j:g<n
    ·have e:(if g<n+1 then ↑(g,if g<n+1-1 then g else n+1-1)else none)=↑(g,g):=by rw[Jc (by lia),Jc (by lia)]
     have i:(if g<n then ↑(g,if g<n-1 then g else n-1)else none)=↑(g,g):=by rw[Jc j];congr 2;split<;>lia
     simp only[JR,List.filterMap_nil,c,a,e,i,ES,List.any_nil];rw[Jo d,Jo (by lia:¬n<=g)]
     simp
    ·by_cases m:g=n
     ·subst m
      have e:(if g<g+1 then ↑(g,if g<g+1-1 then g else g+1-1)else none)=↑(g,g):=by rw[Jc (by lia),Jb (by lia)];congr 2;lia
      have i:(if g<g then ↑(g,if g<g-1 then g else g-1)else none)=none:=by rw[Jb (by lia)]
      simp only[JR,List.filterMap_nil,c,a,e,i,ES,List.any_nil];rw[Ji (F3 g)];simp
      lia
     ·have e:(if g<n+1 then ↑(g,if g<n+1-1 then g else n+1-1)else none)=none:=by rw[Jb (by lia)]
      have i:(if g<n then ↑(g,if g<n-1 then g else n-1)else none)=none:=by rw[Jb j]
      simp only[JR,List.filterMap_nil,c,a,e,i,ES,List.any_nil];rw[Jo d,Jo (by lia:¬g<=n)]
      simp
  ·have e:(if g<n+1 then ↑(g,if g<n+1-1 then g else n+1-1)else none)=none:=by rw[Jb (by lia)]
   have i:(if g<n then ↑(g,if g<n-1 then g else n-1)else none)=none:=by rw[Jb (by lia)]
   by_cases d:f=n
   ·subst d
    have c:(if f<f+1 then ↑(f,if l<f+1-1 then l else f+1-1)else none)=↑(f,f):=by rw[Jc (by lia),Jb (by lia)];congr 2;lia
    have a:(if f<f then ↑(f,if l<f-1 then l else f-1)else none)=none:=by rw[Jb (by lia)]
    simp only[JR,List.filterMap_nil,c,a,e,i,ES,List.any_nil];rw[Ji (F3 f),Ji h];simp
   ·have c:(if f<n+1 then ↑(f,if l<n+1-1 then l else n+1-1)else none)=none:=by rw[Jb (by lia)]
    have a:(if f<n then ↑(f,if l<n-1 then l else n-1)else none)=none:=by rw[Jb h1]
    simp only[JR,List.filterMap_nil,c,a,e,i,ES,List.any_nil];rw[Jo (by lia:¬f<=n),Jo (by lia:¬g<=n)]
    simp
theorem jH{S:List (Int×Int)}{n:Int}(h:∀p∈S,n<=p.1):ZB n S=[]:=by
 unfold ZB;rw[List.filterMap_eq_nil_iff];intro p a;rw[Jb (by have:=h p a;lia)]
theorem kB{S:List (Int×Int)}{n:Int}(h:∀p∈S,p.1<=p.2/\p.2<n):ZB n S=S:=by
 unfold ZB
 induction S with
 |nil=>rfl
 |cons p r ih=>
  have:=h p (JB ..)
  rw[JR,Jc (by lia)]
  simp only
  rw[ih (λq c=>h q (JM _ c))]
  congr 1
  obtain⟨a,b⟩:=p;simp only at this⊢
  congr 1
  split<;>lia
def Hu:Α:=["a","b","ab","ba","aaaaaaaa","aaaaaaab","door","gate","x"]
structure Ng(nms:Α)(many:Nat)(base:Int):Prop where
 nd:nms.Nodup
 nm:∀z∈nms,Qr z
 l1:1<=nms.length
 l9:nms.length<=9
 m1:1<=many
 m8:many<=8
 b0:0<=base
 b1:base<=4076
section
def wV(n f:Int):Prop:=1<=n/\n<=4/\n<=f/\f<=12
inductive LQ (vs:Ε) (H:Hp) (Q:VK):Prop
 |mk (b:Δ) (c:Nat) (h1:vs=[.ref b]) (h2:Ip H b c) (h3:c<100000000) (h4:∀l x y (n f n' f':Int) H',IQ b (c+7) H H'->H' l=↑(.lst [.ref x,.ref y])->H' x=↑(.tup [.int n,.int f])->H' y=↑(.tup [.int n',.int f'])->wV n f->wV n' f'->H l=none->Q (.ref l) H')
def jn:Sp:=λvs H Q _=>LQ vs H Q
end
section
variable{K:ι}{C:Δ}{H0 H H':Hp}{b:Δ}{c:Nat}{pl:Δ}{xs:β}{S:Η}{z:Δ}
theorem Pw.fresh(p:Pw K C H0 H b c pl xs)(h:H z=none):H0 z=none:=by
 cases q:H0 z with
 |none=>rfl
 |some o=>
  by_cases w:z=b
  ·subst w;obtain⟨_,_,_,a,_⟩:=p.bx;rw[h]at a;cases a
  ·have:=p.s z o (qV w) q;rw[h]at this;cases this
theorem Pw.out(p:Pw K C H0 H b c pl xs)(m:Mv S H H')(nt:NT S H)(hb:b∉S)(hp:pl∉S)(he:∀(i:Nat) (x:En),xs[i]? =↑x->∀z∈eS x.1,z∉S)(d:∀z∈S,H0 z=none):Pw K C H0 H' b c pl xs:=
 #[λc o a e=>m c o (λz=>by rw[d c z]at e;cases e) (p.s c o a e),p.bx.mv m hb,p.b0,λi x hi=>(p.en i x hi).mv m nt (he i x hi),p.dj,p.fr,m _ _ hp p.pe,p.np,p.fp]
end
theorem Lg.two{H:Hp}{tl:Δ}{v d:V}{o o':Option (Int×Int)}(e:H tl=↑(.lst [v,d]))(h:Nl H v o)(h':Nl H d o'):Lg H tl [o,o']:=#[[v,d],e,Z,λi u w a c=>by
 match i,a,c with
 |0,a,c=>cases a;cases c;exact h
 |1,a,c=>cases a;cases c;exact h'
 |i+2,a,c=>cases a]
theorem vg{a:Α}{nm:Str}{j:Nat}(d:a.Nodup)(e:a[j]? =↑nm):nm∉a.take j:=λz=>by
 obtain⟨k,hk,c⟩:=List.mem_iff_getElem.mp z;rw[List.getElem_take]at c;rw[EX]at hk
 exact(List.pairwise_iff_getElem.mp d) k j (by lia) (Js.mp e).1 (by lia) (c.trans (Js.mp e).2.symm)
structure Le(t:Β)(kss:List Β)(base:Int)(nms:Α)(D:Dr):Prop where
 dp:IG t kss base D
 sub:∀z∈D.kn.map (·.1),z∈nms
 few:D.kn.length<=nms.length
theorem Le.hear{t:Β}{kss:List Β}{base:Int}{d:Α}{D:Dr}{nm:Str}{age c:Int}(h:Le t kss base d D)(f:0<=c)(i:c<4096)(g:c<=base+23):Le t kss base d {D with kn:=Hj D nm age c}:=by
 obtain⟨a,b⟩:=h.dp.hear (nm:=nm) (age:=age) f i g
 have l:(Hj D nm age c).length=D.kn.length:=by have:=JH List.length b;simpa using this
 exact#[a,λz e=>h.sub z (by have e:z∈(Hj D nm age c).map (·.1):=e;rw[b]at e;exact e),by show(Hj D nm age c).length<=_;rw[l];exact h.few]
theorem Le.close{t:Β}{kss:List Β}{base:Int}{c:Α}{D:Dr}{a:Int}(h:Le t kss base c D)(d:a<kss.length):Le t kss base c {D with least:=if a>D.least then a else D.least}:=#[h.dp.close d,h.sub,h.few]
inductive Md (vs:Ε) (H:Hp) (Q:VK):Prop
 |mk (b:Δ) (c:Nat) (h1:vs=[.ref b]) (h2:Ip H b c) (h3:c<100000000) (h4:∀q nl nms many base H',IQ b (c+20) H H'->H' q=↑(.tup [.ref nl,.int ((many:Nat):Int),.int base])->H' nl=↑(.lst (nms.map V.str))->H nl=none->Ng nms many base->(∀z∈nms,z∈Hu)->Q (.ref q) H')
def lQ:Sp:=λvs H Q _=>Md vs H Q
inductive ML (K:ι) (C:Δ) (vs:Ε) (H:Hp) (Q:VK):Prop
 |mk (b dr nl:Δ) (c:Nat) (nms:Α) (many:Nat) (base:Int) (h1:vs=[.ref b,.ref dr]) (h2:Ip H b c) (h3:c<1000000) (h4:H dr=↑(.tup [.ref nl,.int (many:Int),.int base])) (h5:H nl=↑(.lst (nms.map V.str))) (h6:nl≠b) (h7:Ng nms many base) (h8:∀q cd tb kt pl t kss xs H',Pw K C H H' b (c+300) pl xs->xs.length=2->H' q=↑(.tup [.ref cd,.ref pl])->Io H' cd tb kt t kss->kss.length=many->(∀(i:Nat) (x:En),xs[i]? =↑x->Le t kss base nms x.2.1/\x.2.2.length<=100)->Q (.ref q) H')
def pI(K:ι)(C:Δ):Sp:=λvs H Q _=>ML K C vs H Q
theorem sR(D:Dr)(nm:Str)(age c:Int):(Hj D nm age c).map (·.1)=D.kn.map (·.1):=by
 rcases bT (D:=D) (nm:=nm) (age:=age) (c:=c)with e|⟨e,a,f,d⟩
 ·rw[e]
 ·rw[d];exact gy a
theorem gI{D:Dr}{nm:Str}{age c:Int}{e:Kb}(d:(D.kn.map (·.1)).Nodup)(he:D.kn.lookup nm=↑e):(Hj D nm age c).lookup nm=some (zh D e age c).2:=by
 unfold Hj zk zh;rw[he];simp only
 by_cases a:qR D e age=true
 ·rw[Jc a,Jc a]
  split
  ·exact mS d
  ·exact mS d
 ·rw[Jb a,Jb a];exact he
theorem Ik.hearK{D:Dr}(h:Ik D)(nm:Str)(age c:Int):Ik {D with kn:=L3.Hj D nm age c}:=by
 have k:=sR D nm age c;have l:(L3.Hj D nm age c).length=D.kn.length:=by have:=JH List.length k;simpa using this
 exact#[h.tp,h.l0,h.kl,by show(L3.Hj D nm age c).length<=60;rw[l];exact h.nl,by show((L3.Hj D nm age c).map (·.1)).Nodup;rw[k];exact h.nd]
theorem uP(D:Dr)(kd a:Δ):L2.HL (ZT D kd) (Sum.inr "known":qJ) (.ref a)=ZT D a:=by
 unfold L2.HL ZT;rw[Jc (by simp [ES])]
 have h1:¬((Sum.inr ("near":Str):Sum Int Str)=Sum.inr ("known":Str)):=by decide +kernel
 have d:¬((Sum.inr ("far":Str):Sum Int Str)=Sum.inr ("known":Str)):=by decide +kernel
 have c:¬((Sum.inr ("keys":Str):Sum Int Str)=Sum.inr ("known":Str)):=by decide +kernel
 have e:¬((Sum.inr ("closed":Str):Sum Int Str)=Sum.inr ("known":Str)):=by decide +kernel
 simp only[JS,FS,Jb h1,Jb d,Jb c,Jb e,Fc]
inductive Me (vs:Ε) (H:Hp) (Q:VK):Prop
 |mk (m kd:Δ) (D:Dr) (h1:vs=[.ref m]) (h2:Ht H m kd D) (h3:∀m' kd' H',GS H H'->H m'=none->H kd'=none->Ht H' m' kd' D->Q (.ref m') H')
def mW:Sp:=λvs H Q _=>Me vs H Q
def je{a:Type}(lo:Int)(n:Nat)(f:Int->Option a):Option a:=((List.range n).map λi:Nat=>lo+(i:Int)).findSome? f
theorem iE{a d:Type}{l:List a}{f:a->Option d}(h:∀x∈l,f x=none):l.findSome? f=none:=by
 induction l with
 |nil=>rfl
 |cons x r ih=>rw[List.findSome?_cons,h x JB];exact ih λy c=>h y (JM _ c)
theorem iu{c d:Type}{l:List c}{f:c->Option d}{i:Nat}{x:c}{y:d}(hx:l[i]? =↑x)(g:f x=↑y)(h:∀j z,j<i->l[j]? =↑z->f z=none):l.findSome? f=↑y:=by
 induction l generalizing i with
 |nil=>cases hx
 |cons a r ih=>
  rw[List.findSome?_cons];cases i with
  |zero=>cases hx;rw[g]
  |succ i=>
   rw[h 0 a (Nat.succ_pos _) Z];exact ih hx λj z m e=>h (j+1) z (by lia) e
theorem iJ{lo x:Int}{n:Nat}(h:x∈(List.range n).map λi:Nat=>lo+(i:Int)):lo<=x/\x<lo+n:=by
 obtain⟨i,hi,rfl⟩:=Jt.mp h
 have:=J1.mp hi
 lia
theorem lO{c:Type}{lo:Int}{n:Nat}{f:Int->Option c}(h:∀x,lo<=x->x<lo+n->f x=none):je lo n f=none:=iE λx a=>h x (iJ a).1 (iJ a).2
theorem lL{c:Type}{lo:Int}{n i:Nat}{f:Int->Option c}{y:c}(hi:i<n)(d:f (lo+(i:Int))=↑y)(h:∀x,lo<=x->x<lo+i->f x=none):je lo n f=↑y:=by
 refine iu (i:=i) (x:=lo+(i:Int)) (by rw[Jn,Gu hi];rfl) d λj z e a=>?_
 rw[Jn,Gu (by lia)]at a
 cases a;exact h _ (show lo<=lo+(j:Int) by lia) (show lo+(j:Int)<lo+(i:Int) by lia)
def qL(S:List (Int×Int)):Β:=S.flatMap λp=>(List.range (p.2+1-p.1).toNat).map λi:Nat=>p.1+(i:Int)
theorem kM(S:List (Int×Int))(n:Int):n∈qL S↔aO n S=true:=by
 unfold qL aO;rw[List.mem_flatMap,Gq];refine exists_congr λp=>and_congr_right λ_=>?_
 rw[JC,decide_eq_true_eq,decide_eq_true_eq,Jt];constructor
 ·rintro⟨i,hi,rfl⟩
  have:=J1.mp hi
  lia
 ·rintro⟨h1,a⟩
  exact#[(n-p.1).toNat,J1.mpr (by lia),by lia]
structure IH(S:List (Int×Int)):Prop where
 two:NY S
 bd:∀p∈S,0<=p.1/\p.1<=p.2/\p.2<=4095/\p.2-p.1<=63
 cnt:(qL S).length<=66
theorem IH.nil:IH []:=#[.nil,(λp h=>nomatch h),Jy _]
theorem mF{x y:Int}(h:y-x<=63):(qL [(x,y)]).length<=64:=by
 unfold qL;rw[List.flatMap_cons,List.flatMap_nil,E3,Je,List.length_range]
 show(y+1-x).toNat<=64
 lia
theorem xm{x y z:Int}(h:y-x<=63):(qL [(x,y),(z,z)]).length<=66:=by
 have e:qL [(x,y),(z,z)]=qL [(x,y)]++qL [(z,z)]:=by unfold qL;rw[<- List.flatMap_append];rfl
 have h1:=mF h;have a:(qL [(z,z)]).length<=1:=by
  unfold qL;rw[List.flatMap_cons,List.flatMap_nil,E3,Je,List.length_range]
  show(z+1-z).toNat<=1
  lia
 rw[e,Jv];lia
theorem IH.out{S:List (Int×Int)}(h:IH S){n:Int}(hn:n<0\/4096<=n):aO n S=false:=by
 unfold aO;rw[List.any_eq_false];intro p a z;rw[JC,decide_eq_true_eq,decide_eq_true_eq]at z
 have:=h.bd p a
 lia
def MM(S c:List (Int×Int)):Prop:=∀a:Β,a.Nodup->(∀k,k∈a↔¬(k∈qL S↔k∈qL c))->a.length<64
theorem MM.few{S c:List (Int×Int)}(h:(qL S).length+(qL c).length<64):MM S c:=λd e a=>by
 have:d.length<=(qL S++qL c).length:=lJ e λk hk=>by
  have hk:=(a k).mp hk;rw[JL]
  by_cases z:k∈qL S
  ·exact .inl z
  ·exact .inr (Decidable.byContradiction λy=>hk #[λq=>absurd q z,λq=>absurd q y])
 rw[Jv]at this;lia
theorem DS{S c:List (Int×Int)}(h:IH S)(h':IH c)(he:∀n,aO n S=aO n c):S=c:=by
 have d:∀k:Nat,ZB (k:Int) S=ZB (k:Int) c:=λk=>by
  induction k with
  |zero=>
   show ZB 0 S=ZB 0 c
   rw[jH λp a=>(h.bd p a).1,jH λp a=>(h'.bd p a).1]
  |succ k ih=>
   have e:((k+1:Nat):Int)=(k:Int)+1:=by lia
   rw[e,jr h.two,jr h'.two,he,ih]
 have:=d 4096
 rw[kB λp a=>#[(h.bd p a).2.1,by have:=(h.bd p a).2.2.1;lia],kB λp a=>#[(h'.bd p a).2.1,by have:=(h'.bd p a).2.2.1;lia]]at this
 exact this
def cS(S a:List (Int×Int))(n:Int):Bool:=decide (aO n S≠aO n a)
def QY(S a:List (Int×Int)):Int:=(bB 0 4096 (cS S a)).getD 0
theorem gG{S a:List (Int×Int)}(h:IH S)(h':IH a)(f:S≠a):bB 0 4096 (cS S a)=↑(QY S a):=by
 cases e:bB 0 4096 (cS S a)with
 |some c=>unfold QY;rw[e];rfl
 |none=>
  refine absurd (DS h h' λn=>?_) f
  by_cases d:n<0\/4096<=n
  ·rw[h.out d,h'.out d]
  ·have:=of_decide_eq_false (rW e n (by lia) (by lia))
   exact Decidable.not_not.mp this
theorem rJ{S a:List (Int×Int)}{ms:Β}(h:IH S)(h':IH a)(hm:∀k,k∈ms↔¬(k∈qL S↔k∈qL a))(hp:ms.Pairwise (· <= ·))(m:S≠a):ms[0]? =↑(QY S a):=by
 obtain⟨p,o,f,n⟩:=gs (gG h h' m)
 have c:∀k,k∈ms↔cS S a k=true:=λk=>by
  rw[hm,kM,kM];unfold cS;rw[decide_eq_true_eq];exact not_congr Fb.symm
 cases ms with
 |nil=>exact absurd ((c _).mpr f) JE
 |cons x r=>
  have d:=(c x).mp JB;have l:QY S a∈x::r:=(c _).mpr f
  have i:x<=QY S a:=by
   rcases Jm.mp l with e|e
   ·rw[e];exact F3 _
   ·exact(List.pairwise_cons.mp hp).1 _ e
  have j:¬x<QY S a:=λz=>by
   have g:0<=x:=by
    refine Int.not_lt.mp λy=>?_
    have:=Jx d
    rw[h.out (.inl y),h'.out (.inl y)]at this;exact this Z
   rw[n x g z]at d;cases d
  show ↑x=_
  congr 1
  lia
def zX(D:Dr)(age:Int)(o:Ρ):List (Int×Int):=match o with
 |none=>[]
 |some e=>Zd D e age
def aG(D:Dr)(o:Ρ)(D':Dr)(o':Ρ):Option (Int×Int):=je 0 D.kss.length λa=>if zX D a o=zX D' a o' then none else ↑(a,QY (zX D a o) (zX D' a o'))
theorem CF{D D':Dr}{o o':Ρ}(h:aG D o D' o'=none){a:Int}(c:0<=a)(d:a<D.kss.length):zX D a o=zX D' a o':=by
 unfold aG je at h
 have:=List.findSome?_eq_none_iff.mp h a (Jt.mpr #[a.toNat,J1.mpr (by lia),by lia])
 by_cases z:zX D a o=zX D' a o'
 ·exact z
 ·rw[Jb z]at this;cases this
structure IK(D:Dr):Prop where
 n0:1<=D.near
 n1:D.near<=64
 nf:D.near<=D.far
 f1:D.far<=1024
 l0:0<=D.least
 lk:D.least<D.kss.length
def eQ(D:Dr):Ρ->Prop
 |none=>True
 |some e=>Iq D e
theorem Bq{D:Dr}{e:Kb}(d:IK D)(k:Iq D e)(age:Int):IH (Zd D e age):=by
 have m:=d.n0;have j:=d.n1;have l:=k.l0;have n:=k.l1;unfold Zd
 by_cases f:qR D e age=true
 case neg=>rw[Jb f];exact IH.nil
 rw[Jc f]
 by_cases h1:e.last+1<4096
 ·rw[Jc h1]
  have g:(if 4095<e.last+D.near then 4095 else e.last+D.near)-(e.last+1)<=63:=by split<;>lia
  have one:IH [(e.last+1,if 4095<e.last+D.near then 4095 else e.last+D.near)]:=#[.one _ _ (by split<;>lia),λp a=>by rw[Jh.mp a];simp only;split<;>lia,JG (mF g) ⋯]
  cases ew:e.wt with
  |none=>exact one
  |some xw=>
   obtain⟨x,w⟩:=xw;have i:=k.w x w ew;simp only
   by_cases c:x=age/\w+1<=(if 4095<e.last+D.far then 4095 else e.last+D.far)
   ·rw[Jc c]
    have h:=c.2;refine#[.two _ _ _ (by split<;>lia) (by split<;>lia),λp a=>?_,xm g]
    rcases Jm.mp a with rfl|a
    ·exact one.bd _ JB
    ·rw[Jh.mp a];simp only;split at h<;>lia
   ·rw[Jb c,E3];exact one
 ·rw[Jb h1]
  cases ew:e.wt with
  |none=>exact IH.nil
  |some xw=>
   obtain⟨x,w⟩:=xw;have i:=k.w x w ew;simp only
   rw[Jb (λz=>by have:=z.2;split at this<;>lia)]
   exact IH.nil
theorem ft{D:Dr}{o:Ρ}(d:IK D)(k:eQ D o)(age:Int):IH (zX D age o):=by
 cases o with
 |none=>exact IH.nil
 |some e=>exact Bq d k age
theorem cf{D:Dr}{e:Kb}{age c:Int}(d:IK D)(k:Iq D e)(g:0<=c)(f:c<4096):Iq D (zh D e age c).2:=by
 unfold zh
 by_cases a:qR D e age=true
 ·rw[Jc a];exact mB k (gA a) (aK a d.l0).2 g f
 ·rw[Jb a];exact k
theorem yf{D:Dr}{e:Kb}(d:D.near<=13)(age:Int):(qL (Zd D e age)).length<=28:=by
 have one:∀{x y:Int},y-x<=13->((List.range (y+1-x).toNat).map λi:Nat=>x+(i:Int)).length<=14:=λ{x y} h=>by
  rw[Je,List.length_range];lia
 have a:∀A B:List (Int×Int),qL (A++B)=qL A++qL B:=λA B=>by unfold qL;rw[List.flatMap_append]
 unfold Zd;split
 ·rw[a,Jv]
  have h1:(qL (if e.last+1<4096 then [(e.last+1,if 4095<e.last+D.near then 4095 else e.last+D.near)]else [])).length<=14:=by
   split
   ·unfold qL
    rw[List.flatMap_cons,List.flatMap_nil,E3];exact one (by split<;>lia)
   ·exact Jy _
  have c:∀(p:Prop) [Decidable p] (z:Int),(qL (if p then [(z,z)]else [])).length<=14:=λp _ z=>by
   split
   ·unfold qL
    rw[List.flatMap_cons,List.flatMap_nil,E3];exact one (by lia)
   ·exact Jy _
  cases e.wt with
  |none=>exact JG h1 ⋯
  |some xw=>exact JG (Nat.add_le_add h1 (c _ _)) (by decide:14+14<=28)
 ·exact Jy _
def NA(D:Dr)(o:Ρ)(D':Dr)(o':Ρ):Prop:=∀a,MM (zX D a o) (zX D' a o')
theorem NA.narrow{D D':Dr}{o o':Ρ}(h:D.near<=13)(h':D'.near<=13):NA D o D' o':=λa=>MM.few (by
 have c:∀{D:Dr} {o:Ρ},D.near<=13->(qL (zX D a o)).length<=28:=λ{D o} h=>by
  cases o with
  |none=>exact Jy _
  |some e=>exact yf h a
 have:=c (o:=o) h
 have:=c (o:=o') h'
 lia)
def bX(D:Dr)(o:Ρ)(D':Dr)(o':Ρ):Option ((Int×Int)×Int×Int):=match o,o' with
 |some e,↑e'=>je (cx D e D' e') (Zz (cx D e D' e'+2) 4096-cx D e D' e').toNat λc=>(aG D (some (zh D e (zD e.age D.least) c).2) D' (some (zh D' e' (zD e.age D.least) c).2)).map λp=>((zD e.age D.least,c),p)
 |_,_=>none
theorem xf{D:Dr}{e:Kb}(d:IK D)(k:Iq D e)(h1:¬e.last+1<4096)(a:Int):Zd D e a=[]:=by
 have f:=d.n0;unfold Zd
 by_cases c:qR D e a=true
 ·rw[Jc c,Jb h1]
  cases ew:e.wt with
  |none=>rfl
  |some xw=>
   obtain⟨x,w⟩:=xw;have g:=k.w x w ew;simp only
   rw[Jb (λz=>by have:=z.2;split at this<;>lia)];rfl
 ·rw[Jb c]
def D8(D:Dr)(o:Ρ)(D':Dr)(o':Ρ):Prop:=NA D o D' o'/\∀e a,o=↑e->o'=↑a->∀c,cx D e D' a<=c->c<4096->NA D (some (zh D e (zD e.age D.least) c).2) D' (some (zh D' a (zD e.age D.least) c).2)
def N4(D D':Dr):Prop:=∀nm,D8 D (D.kn.lookup nm) D' (D'.kn.lookup nm)
theorem N4.narrow{D D':Dr}(h:D.near<=13)(h':D'.near<=13):N4 D D':=λnm=>#[NA.narrow h h',λ_ _ _ _ _ _ _=>NA.narrow h h']
abbrev qZ:=List (Str×Int×Int)
def br(D D':Dr)(nm:Str):Option qZ:=(aG D (D.kn.lookup nm) D' (D'.kn.lookup nm)).map λp=>[(nm,p.1,p.2)]
def bm(D D':Dr)(nm:Str):Option qZ:=(bX D (D.kn.lookup nm) D' (D'.kn.lookup nm)).map λp=>[(nm,p.1.1,p.1.2),(nm,p.2.1,p.2.2)]
def ZN(D D':Dr)(ns:Α):Option qZ:=match ns.findSome? (br D D')with
 |some r=>↑r
 |none=>ns.findSome? (bm D D')
def wB(D:Dr):Prop:=∀nm,eQ D (D.kn.lookup nm)
def zK(D:Dr)(nm:Str)(a c:Int):Bool:=decide (zv D nm a c="open")
theorem M0.same{H H':Hp}{v:V}{o:Ρ}(h:M0 H v o)(s:GS H H'):M0 H' v o:=by
 cases o with
 |none=>exact h
 |some e=>obtain⟨a,c,h1⟩:=h;exact#[a,c,h1.same s]
theorem N7{D:Dr}{nm:Str}{H:Hp}{Q:VK}(h:∀v,M0 H v (D.kn.lookup nm)->Q v H):(D.kn.lookup nm=none->Q .non H)/\(∀e a,D.kn.lookup nm=↑e->HS H a e->Q (.ref a) H):=
 #[λe=>h _ (by rw[e];rfl),λe a c h1=>h _ (by rw[c];exact#[a,Z,h1])]
theorem jz{S:List (Int×Int)}{i:Nat}{z:Int×Int}(h:S[i]? =↑z):qL (S.take (i+1))=qL (S.take i)++(List.range (z.2+1-z.1).toNat).map λk:Nat=>z.1+(k:Int):=by
 unfold qL;rw[J9,h,List.flatMap_append]
 show _++List.flatMap _ [z]=_
 rw[List.flatMap_cons,List.flatMap_nil,E3]
def Ls(H:Hp)(v:V):Option qZ->Prop
 |none=>v= .non
 |some r=>∃(t:Δ) (as:Η),v= .ref t/\H t=↑(.tup (as.map V.ref))/\as.length=r.length/\∀(i:Nat) (a:Δ) (z:Str×Int×Int),as[i]? =↑a->r[i]? =↑z->H a=↑(.tup [.str z.1,.int z.2.1,.int z.2.2])
theorem Ls.same{H H':Hp}{v:V}{o:Option qZ}(h:Ls H v o)(s:GS H H'):Ls H' v o:=by
 cases o with
 |none=>exact h
 |some r=>
  obtain⟨t,j,e,h1,g,f⟩:=h
  exact#[t,j,e,s _ _ h1,g,λi a z d c=>s _ _ (f i a z d c)]
theorem Ls.one{H:Hp}{t a:Δ}{z:Str×Int×Int}(h:H t=↑(.tup [.ref a]))(h1:H a=↑(.tup [.str z.1,.int z.2.1,.int z.2.2])):Ls H (.ref t) (some [z]):=by
 refine#[t,[a],Z,h,Z,λi b y c d=>?_]
 cases i with
 |zero=>cases c;cases d;exact h1
 |succ i=>cases c
def EI(H:Hp)(v:V):Option ((Int×Int)×Int×Int)->Prop
 |none=>v= .non
 |some p=>∃(t x y:Δ),v= .ref t/\H t=↑(.tup [.ref x,.ref y])/\H x=↑(.tup [.int p.1.1,.int p.1.2])/\H y=↑(.tup [.int p.2.1,.int p.2.2])
section
variable(K:ι)(C:Δ)
inductive Mj (vs:Ε) (H:Hp) (Q:VK):Prop
 |mk (t:Δ) (S:List (Int×Int)) (h1:vs=[.ref t]) (h2:Lz H t S) (h3:IH S) (h4:∀l H',GS H H'->H' l=↑(.lst ((qL S).map V.int))->Q (.ref l) H')
def mU:Sp:=λvs H Q _=>Mj vs H Q
inductive MN (vs:Ε) (H:Hp) (Q:VK):Prop
 |mk (t t':Δ) (S S':List (Int×Int)) (h1:vs=[.ref t,.ref t']) (h2:Lz H t S) (h3:Lz H t' S') (h4:IH S) (h5:IH S') (h6:S≠S') (h7:MM S S') (h8:∀H',GS H H'->Q (.int (QY S S')) H')
def pF:Sp:=λvs H Q _=>MN vs H Q
inductive NZ (vs:Ε) (H:Hp) (Q:VK):Prop
 |mk (p ta hk bd lg:Δ) (n:Nat) (D:Dr) (v:V) (o:Ρ) (p' ta' hk' bd' lg':Δ) (n':Nat) (D':Dr) (v':V) (o':Ρ) (h1:vs=[.ref p,v,.ref p',v']) (h2:GV K C H p ta hk bd lg n D) (h3:M0 H v o) (h4:GV K C H p' ta' hk' bd' lg' n' D') (h5:M0 H v' o') (h6:IK D) (h7:IK D') (h8:eQ D o) (h9:eQ D' o') (h10:D.kss.length<=8) (h11:NA D o D' o') (h12:∀u H',GS H H'->Nl H' u (aG D o D' o')->Q u H')
def yg:Sp:=λvs H Q _=>NZ K C vs H Q
inductive Nh (vs:Ε) (H:Hp) (Q:VK):Prop
 |mk (p ta hk bd lg:Δ) (n:Nat) (D:Dr) (v:V) (o:Ρ) (p' ta' hk' bd' lg':Δ) (n':Nat) (D':Dr) (v':V) (o':Ρ) (h1:vs=[.ref p,v,.ref p',v']) (h2:GV K C H p ta hk bd lg n D) (h3:M0 H v o) (h4:GV K C H p' ta' hk' bd' lg' n' D') (h5:M0 H v' o') (h6:IK D) (h7:IK D') (h8:eQ D o) (h9:eQ D' o') (h10:D.kss.length<=8) (h11:D8 D o D' o') (h12:∀u H',GS H H'->EI H' u (bX D o D' o')->Q u H')
def vo:Sp:=λvs H Q _=>Nh K C vs H Q
structure Ni(D:Dr):Prop where
 ok:Ik D
 dn:IK D
 kn:wB D
 few:D.kn.length<=30
inductive Nj (vs:Ε) (H:Hp) (Q:VK):Prop
 |mk (p ta hk bd lg:Δ) (n:Nat) (D:Dr) (p' ta' hk' bd' lg':Δ) (n':Nat) (D':Dr) (h1:vs=[.ref p,.ref p']) (h2:GV K C H p ta hk bd lg n D) (h3:GV K C H p' ta' hk' bd' lg' n' D') (h4:Ni D) (h5:Ni D') (h6:N4 D D') (h7:∀u ns H',GS H H'->ns.Nodup->(∀k,k∈ns↔k∈D.kn.map (·.1)\/k∈D'.kn.map (·.1))->sortedS ns=true->Ls H' u (ZN D D' ns)->Q u H')
def ux:Sp:=λvs H Q _=>Nj K C vs H Q
end
inductive Nk (K:ι) (C:Δ) (vs:Ε) (H:Hp) (Q:VK):Prop
 |mk (p ta hk bd lg:Δ) (n:Nat) (D:Dr) (nm:Str) (h1:vs=[.ref p,.str nm]) (h2:GV K C H p ta hk bd lg n D) (h3:∀v,M0 H v (D.kn.lookup nm)->Q v H)
def Ds(K:ι)(C:Δ):Sp:=λvs H Q _=>Nk K C vs H Q
theorem Mf.ofO{P:Ξ}{w:Ω}{K:ι}{mg:GQ}{base:Ψ}{C:Δ}(a:Mf P w K mg base C "button_of" W8 1 (hV K C)):Mf P w K mg base C "button_of" W8 1 (Ds K C):=
 a.weak λvs H Q E ⟨p,ta,hk,bd,lg,n,D,nm,e,b,q⟩=>#[p,ta,hk,bd,lg,n,D,nm,e,b,(L3.N7 q).1,(L3.N7 q).2]
theorem IG.td{t:Β}{kss:List Β}{base:Int}{D:Dr}(h:IG t kss base D)(hl:D.kn.length<=30):Ni D:=by
 refine#[h.ok,#[h.n0,by have:=h.n1;lia,h.f0,by have:=h.f1;lia,h.ok.l0,by rw[h.ks];exact h.lk],λnm=>?_,hl]
 cases e:D.kn.lookup nm with
 |none=>exact trivial
 |some b=>exact(h.kb _ (QF e)).1
end L3
namespace Lw
open PySem L2 L3
section
variable{P:Ξ}{w:Ω}{K:ι}{mg:GQ}{base:Ψ}{tk:Nat->Tok}{C:Δ}
theorem gZ(a:At K mg "stretches_of" ZF ["door","button","age"])(T:HN K mg tk)(U:Iz K C)(dB:Mf P w K mg base C "takes_from" W1 2 (bC K C))(dE:Mf P w K mg base C "bounds_told" W6 1 (dv K C)):Df P w K mg base "stretches_of" ["door","button","age"] 3 (yy K C):=by
 refine a.dq Hi λf _ A _ s H vs Q E hr h=>?_
 ·obtain⟨p,ta,hk,bd,lg,n,D,v,o,age,rfl,b,Y,q⟩:=h
  refine#[_,(qe (qK (QW.pt (Zt (qE Zp (qv 1) zd (qB _)) (QX (Qc (Ql (zf dB U.cl hr.mo (qv 0) (qd (qv 1) (qd (qv 2) qb)))))))) (qg (qr (qy qb))) qF)
   (qe (q9 (Qi dE U.cl hr.mo (qv 0)) (ze Z (ql (qh (i:=3) Hi.nd Z (Or.inl Z)) (ql (qh (i:=4) Hi.nd Z (Or.inl Z)) (ql (qh (i:=5) Hi.nd Z (Or.inl Z)) qM)))))
   (qe (q9 (qv 1) (ze Z (ql (qh (i:=6) Hi.nd Z (Or.inl Z)) (ql (qh (i:=7) Hi.nd Z (Or.inl Z)) (ql (qh (i:=8) Hi.nd Z (Or.inl Z)) qM)))))
   (qe (qw (i:=9) Hi.nd Z (Or.inl Z) (zo qb))
   (qe (qK (qE ff (qu qI (qv 7) qf) (zj (v:= .int 4096) Z T.g_COUNTS #[_,Z]) (qB _)) (qg (zm (QZ EZ Fx Fy zT (qv 9) (qd (qy (qd (qu qI (qv 7) qf) (qd (qx (zW Z) T.b_min PyProof.Rows.boot_min (qd (qu qI (qv 7) (qv 3)) (qd (qu zO (zj (v:= .int 4096) Z T.g_COUNTS #[_,Z]) qf) qb))) qb))) qb)))) qF)
   (qe (qK (QW.pt (gz (qE aa (qv 8) zd (qB _)) (fj (qE zE (qC qO (qv 8) qf) (qv 2) (qB _))))) (qe (qw (i:=10) Hi.nd Z (Or.inl Z) (qu qI (qC qO (qv 8) qf) qf))
   (qg (qK (qE ZK (qv 10) (qx (zW Z) T.b_min PyProof.Rows.boot_min (qd (qu qI (qv 7) (qv 4)) (qd (qu zO (zj (v:= .int 4096) Z T.g_COUNTS #[_,Z]) qf) qb))) (qB _)) (qg (zm (QZ EZ Fx Fy zT (qv 9) (qd (qy (qd (qv 10) (qd (qv 10) qb))) qb)))) qF))) qF)
   (qg (qr (qH qX T.b_tuple J0 (qd (qv 9) qb)))))))))),?_]
  have j:(∀t H',GS H H'->Lz H' t []->Q (.ref t) H')->∀t,H t=none->Q (.ref t) (GW H t (.tup [])):=λq t G=>q t _ (GS.upd G) #[[],qc,Z,λi a z h=>by cases h]
  cases o with
  |none=>
   have Y:v= .non:=Y
   subst Y
   exact#[_,Z,Z,_,Z,zP (Ji Z) (zx #[GH,j q])]
  |some e=>
  obtain⟨x,rfl,S,hx,hw⟩:=Y;refine#[_,Z,Z,_,Z,qW (λy=>nomatch (Jx y)) (λ_=>?_)]
  refine#[_,Z,p,Z,b.no,_,Z,_,Z,p,ta,hk,bd,lg,x,n,D,e,age,Z,b,#[S,hx,hw],_,Z,?_]
  have q:∀t H',GS H H'->Lz H' t (Zd D e age)->Q (.ref t) H':=q
  unfold Zd at q;cases G:qR D e age with
  |false=>
   rw[Jb (by rw[G];intro z;cases z)]at q
   exact zx #[GH,j q]
  |true=>
  rw[Jc G]at q;obtain⟨M,X⟩:∃M:List (Int×Int),(if e.last+1<4096 then [(e.last+1,if 4095<e.last+D.near then 4095 else e.last+D.near)]else [])=M:=#[_,Z]
  rw[X]at q;have hA:M.length<=1:=by rw[<- X];split<;>simp
  refine zw ?_
  refine#[_,Z,p,Z,b.no,p,ta,hk,bd,lg,n,D,Z,b,λt1 H1 R a0=>#[t1,_,Z,.tup a0,Z,_,_,Z,_,_,Z,_,_,Z,Z,?_]]
  refine#[_,Z,x,_,Z,.tup (R _ _ hx),Z,_,_,Z,_,_,Z,_,_,Z,Z,?_]
  refine#[GH,λI L=>?_]
  have u2:=GS.upd (o:= .lst []) L
  have u:=QU L R;refine ZE (λF H'=>GS H H'/\ND H' I M/\F=[↑(.ref p),↑(.ref x),↑(.int age),↑(.int D.near),↑(.int D.far),↑(.int D.most),↑(.int e.age),↑(.int e.last),↑S,↑(.ref I),none]) (λD' a1 d=>?_) ?_
  ·refine#[_,Z,_,_,Z,Z,_,_,Z,Z,_,Z,?_]
   by_cases h1:e.last+1<4096
   ·refine zP (Ji h1) ?_
    refine#[_,Z,.inl #[Z,_,G0.of qc],_,Z,_,_,Z,Z,_,Z,_,Z,_,_,Z,Z,_,_,Z,Z,_,_,Z,GJ,λy B=>#[I,_,_,Z,Z,(GS.upd B) _ _ qc,by show 0<ζ;decide,d _ _ #[?_,?_,Z]]]
    ·exactλc o e=>by rw[qm (qo e u)];exact GS.upd B _ _ (u2 _ _ (R _ _ e))
    ·rw[<- X,Jc h1]
     exact ND.add (as:=[]) (zs:=[]) ((GS.upd B) _ _ qc) Z (λi a z h=>by cases h) qc
   ·refine Qe (Jo h1) (d _ _ #[R.trans u2,?_,Z])
    rw[<- X,Jb h1]
    exact#[[],qc,Z,λi a z h=>by cases h]
  rintro _ H3 ⟨N,m,rfl⟩
  refine Z9 (λF H'=>GS H H'/\ND H' I (M++(match e.wt with
   |none=>[]
   |some (x,w)=>if x=age/\w+1<=(if 4095<e.last+D.far then 4095 else e.last+D.far)then [(w+1,w+1)]else []))/\∃o,F=[↑(.ref p),↑(.ref x),↑(.int age),↑(.int D.near),↑(.int D.far),↑(.int D.most),↑(.int e.age),↑(.int e.last),↑S,↑(.ref I),o]) (λD' a1 d=>?_) ?_
  ·have l:=hw.same N
   cases ew:e.wt with
   |none=>
    rw[ew]at l;have a2:S= .non:=l
    subst a2;simp only
    exact#[_,Z,Z,_,Z,Qe Z (zw (d _ _ #[N,by rw[ew];simp only;rw[E3];exact m,_,Z]))]
   |some xw=>
   obtain⟨x',w'⟩:=xw;rw[ew]at l;obtain⟨wa,rfl,J⟩:=l;simp only
   refine#[_,Z,Z,_,Z,zP Z ?_]
   refine#[_,Z,wa,_,_,_,Z,Z,G9.of J,Z,_,Z,Z,_,Z,?_]
   by_cases O:x'=age
   case neg=>
    refine Qe (Jo (by intro z;injection z with z;exact O z)) (d _ _ #[N,?_,_,Z])
    rw[ew];simp only
    rw[Jb (λz=>O z.1),E3];exact m
   refine zP (Ji (by rw[O])) ?_
   refine#[_,Z,wa,_,_,_,Z,Z,G9.of J,Z,_,_,Z,Z,?_]
   refine#[_,Z,_,Z,_,Z,_,_,Z,Z,_,_,Z,Z,_,_,Z,_,_,Z,Z,_,Z,?_]
   by_cases W:w'+1<=(if 4095<e.last+D.far then 4095 else e.last+D.far)
   ·refine zP (Ji W) ?_
    obtain⟨as,g,r,has⟩:=m;refine#[_,Z,.inl #[Z,_,G0.of g],_,Z,_,Z,GJ,λy B=>#[I,_,_,Z,Z,(GS.upd B) _ _ g,by rw[Je,r,Ju];omega,d _ _ #[?_,?_,_,Z]]]
    ·exactλc o e=>by rw[qm (qo e u)];exact GS.upd B _ _ (N _ _ e)
    ·rw[ew];simp only
     rw[Jc #[O,W]];exact ND.add ((GS.upd B) _ _ g) r (λi a z e1 e2=>GS.upd B _ _ (has i a z e1 e2)) qc
   ·refine Qe (Jo W) (d _ _ #[N,?_,_,Z])
    rw[ew];simp only
    rw[Jb (λz=>W z.2),E3];exact m
  rintro _ H4 ⟨s4,⟨as,g,r,has⟩,o,rfl⟩
  exact#[_,Z,I,_,Z,.inl #[G0.of g,λt G=>q t _ (s4.trans (GS.upd G)) #[as,qc,r,λi a z e1 e2=>GS.upd G _ _ (has i a z e1 e2)]]]
theorem cJ(a:Lm K C "plain_step" "Door.plain_step" zZ ["self","button","age","count"])(T:HN K mg tk)(U:Iz K C)(l:Mf P w K mg base C "takes_from" W1 2 (bC K C))(m:Df P w K mg base "step_by" W0 2 iy):Mf P w K mg base C "plain_step" X3 3 (fO K C):=by
 refine a.mq ZU λf _ A _ s H vs Q E i h=>?_
 ·obtain⟨p,ta,hk,bd,lg,x,n,D,e,age,c,rfl,b,g,q⟩:=h
  refine#[_,(qe (qK (Qc (Ql (zf l U.cl i.mo (qv 0) (qd (qv 1) (qd (qv 2) qb))))) (qg (qr (qy (qd qA (qd (qv 1) qb))))) qF)
   (qg (qr (qp m i.mo (qd (qv 1) (qd (qv 2) (qd (qv 3) (qd (za (qv 0)) (qd (za (qv 0)) qb))))))))),?_]
  refine#[_,Z,p,Z,b.no,_,Z,_,Z,p,ta,hk,bd,lg,x,n,D,e,age,Z,b,g,_,Z,?_]
  unfold zh at q;cases ht:qR D e age with
  |false=>
   rw[ht,Jb (by intro z;cases z)]at q
   refine zx #[_,Z,GJ,λj d=>?_]
   exact q j x _ (GS.upd d) qc (g.same (GS.upd d))
  |true=>
  rw[ht,Jc Z]at q;refine zw ?_
  exact#[_,Z,_,Z,_,Z,_,Z,p,_,Z,b.h_near U,_,Z,p,_,Z,b.h_far U,x,e,age,c,D.near,D.far,Z,g,q]
theorem ir(a:At K mg "names_known" ZX ["door"])(T:HN K mg tk)(U:Iz K C)(I:Mf P w K mg base C "known_now" W6 1 (gb K C)):Df P w K mg base "names_known" ["door"] 2 (fP K C):=by
 refine a.dq io λf _ A _ s H vs Q E F h=>?_
 ·obtain⟨p,ta,hk,bd,lg,n,D,rfl,b,ok,q⟩:=h
  refine#[_,(qg (qr (zA (own:=["row"]) (fr:=[]) (js:=[]) Z (Zv (Qi I U.cl F.mo (qv 0))) Z (λ_ _ h=>nomatch h) Z (Zr Z nofun nofun nofun) (λ_ _ _ _=>qh (i:=0) (show List.Nodup (["row"]:Α)from by decide +kernel) Z (Or.inl Z) (.inr Z)) (λ_ _ _ _=>(qC (BD (K:=K) Z) (qv 0) qf))))),?_]
  refine#[_,Z,p,Z,b.no,p,ta,hk,bd,lg,n,D,Z,b,ok,λB c H1 y pm M G=>?_]
  obtain⟨J,r,m,has⟩:=G;have N:c.length<=60:=by rw[pm.length_eq,Je];exact ok.nl
  refine#[B,Z,#[_,G9.of r],Q5 (K:=K) (xs:=J.map V.ref) (by rw[Je,m,Ju];omega) (λi ys j=>ys=(c.take i).map V.str/\GS H1 j) #[by simp,GS.refl _] (λi ys j ⟨_,d⟩=>G9.of (d _ _ r)) ?_ ?_]
  ·rintro i ys j x u o ⟨rfl,d⟩
   rw[Jn]at u;obtain⟨t,g,rfl⟩:=JZ.mp u;have hi:i<c.length:=by rw[<- m];exact(Js.mp g).1
   have es:c[i]? =some c[i]:=Jg hi
   obtain⟨e,z⟩:=Q3 (pm.mem_iff.mp (Fi hi))
   obtain⟨v,h1,_⟩:=has i t c[i] e g es z
   refine#[_,Z,t,_,_,_,Z,Z,G9.of (d _ _ h1),Z,?_,d]
   rw[J9,es,JK];rfl
  ·rintro ys j o ⟨rfl,d⟩ l L
   refine q l c _ ((y.trans d).trans (GS.upd L)) pm ?_
   rw[qc,Je,m,E5]
theorem jR(a:At K mg "lesser_end" am ["one","first","other","second"])(T:HN K mg tk)(U:Iz K C)(y:Mf P w K mg base C "bounds_told" W6 1 (dv K C)):Df P w K mg base "lesser_end" X1 2 (oQ K C):=by
 refine a.dq jY λf _ A _ s H vs Q E u h=>?_
 ·obtain⟨p,ta,hk,bd,lg,x,n,D,e,r,l,j,m,c,J,I,D',O,rfl,b,⟨v,G,_⟩,B,⟨M,o,_⟩,q⟩:=h
  refine#[_,(qg (qr (qx (zW Z) T.b_min PyProof.Rows.boot_min (qd (qu qI (qC qO (qv 1) qf) (qC qO (Qi y U.cl u.mo (qv 0)) qf)) (qd (qu qI (qC qO (qv 3) qf) (qC qO (Qi y U.cl u.mo (qv 2)) qf)) qb))))),?_]
  refine#[_,Z,x,_,_,_,Z,Z,G9.of G,Z,_,Z,p,Z,b.no,p,ta,hk,bd,lg,n,D,Z,b,λF H1 d i=>#[F,_,_,_,Z,Z,G9.of i,Z,_,_,Z,Z,?_]]
  have t:=B.same d
  exact#[_,Z,J,_,_,_,Z,Z,G9.of (d _ _ o),Z,_,Z,r,Z,t.no,r,l,j,m,c,I,D',Z,t,λL N z g=>#[L,_,_,_,Z,Z,G9.of g,Z,_,_,Z,Z,_,_,Z,q _ (d.trans z)]]
end
section
variable{P:Ξ}{w:Ω}{K:ι}{mg:GQ}{base:Ψ}{tk:Nat->Tok}{C:Δ}
theorem ma(a:At K mg "counts_in" bj ["stretches"])(T:HN K mg tk):Df P w K mg base "counts_in" ["stretches"] 1 mU:=by
 refine a.dq me λf _ A _ s H vs Q E hr h=>?_
 ·obtain⟨t,S,rfl,Y,ok,q⟩:=h
  refine#[_,(qg (qr (wq (own:=["first","last","count"]) (fr:=[]) (js:=[]) Z (Zv (qv 0)) Z (λ_ _ h=>nomatch h) Z (Zr Z nofun nofun nofun) (λ_ _ _ _=>Bi (K:=K) Z 2 Z (ql (qh (i:=0) (show List.Nodup (["first","last","count"]:Α)from by decide +kernel) Z (Or.inl Z) (.inr Z)) (ql (qh (i:=1) (show List.Nodup (["first","last","count"]:Α)from by decide +kernel) Z (Or.inl Z) (.inr Z)) qM))) (λ_ _ _ _=>(jF Z T.b_range (qd (qv 0) (qd (qu qI (qv 1) qf) qb)))) (λ_ _ _ _=>qh (i:=2) (show List.Nodup (["first","last","count"]:Α)from by decide +kernel) Z (Or.inl Z) (.inr Z)) (λ_ _ _ _=>(qv 2))))),?_]
  obtain⟨C,r,F,has⟩:=id Y;have cl:∀i,(qL (S.take i)).length<=66:=λi=>by
   refine JG ?_ ok.cnt
   have e:qL S=qL (S.take i)++qL (S.drop i):=by unfold qL;rw[<- List.flatMap_append,List.take_append_drop]
   rw[e,Jv];exact Nat.le_add_right _ _
  refine#[_,Z,t,Z,#[_,G9.of r],?_]
  refine#[λi m ys j Hx=>m=S.length-i/\i<=S.length/\Hx=H/\ys=(qL (S.take i)).map V.int/\∃G I u,j=[G,I,u],#[S.length,by simp,Jy _,Z,Z,_,_,_,Z],?_]
  rintro i m ys j Hx ⟨rfl,hi,rfl,rfl,G,I,u,rfl⟩
  by_cases d:i<S.length
  ·have l:S[i]? =some S[i]:=Jg d
   obtain⟨z,ez⟩:∃z,z=S[i]:=#[_,Z]
   rw[<- ez]at l;have g:i<C.length:=by rw[F];exact d
   have M:(C.map V.ref)[i]? =↑(.ref C[i]):=by rw[Jn,Jg g];rfl
   refine .inr #[#[_,_,G9.of r,M],λx H' y=>?_]
   obtain⟨eH,L⟩:H'=Hx/\(C.map V.ref)[i]? =↑x:=#[y.1,y.2 _ (G9.of r)]
   subst eH;rw[M]at L;cases L;have hb:=ok.bd z (JP l);refine#[_,_,Z,G9.of (has i _ z (Jg g) l),Z,_,_,Z,_,_,Z,Z,?_]
   refine#[_,Z,_,Z,_,_,Z,Z,_,_,Z,#[by lia,by lia,by lia,by lia],?_]
   obtain⟨n,B⟩:∃n,n=(z.2+1-z.1).toNat:=#[_,Z]
   have ln:=cl (i+1);rw[jz l,<- B,Jv,Je,List.length_range]at ln;refine#[λc N zs j Hx=>N=n-c/\c<=n/\Hx=H'/\zs=(qL (S.take i)).map V.int++(List.range c).map (λk:Nat=>V.int (z.1+(k:Int)))/\∃u,j=[↑(.int z.1),↑(.int z.2),u],#[n,by simp,Jy _,Z,by simp,_,Z],?_]
   rintro c N zs j Hy ⟨rfl,W,rfl,rfl,U,rfl⟩
   by_cases o:c<n
   ·refine .inr #[by rw[<- B];exact o,by rw[Jv,Je,Je,List.length_range,Ju];lia,λx2 O y2=>?_]
    obtain⟨D,rfl⟩:O=Hy/\x2= .int (z.1+(c:Int)):=y2
    subst D;refine#[λv J=>v= .int (z.1+(c:Int))/\J=O,λv J R=>#[n-(c+1),by lia,Z,o,R.2,?_,_,Z],#[_,Z,Z,Z]]
    rw[R.1,List.range_succ,JK,Fh];rfl
   ·obtain rfl:c=n:=by lia
    refine .inl #[by rw[<- B];exact Jf _,S.length-(i+1),by lia,Z,d,Z,?_,_,_,_,Z]
    rw[jz l,<- B,JK,ET];rfl
  ·obtain rfl:i=S.length:=by lia
   refine .inl #[#[_,G9.of r,by rw[Je,F];exact Jf _],λp X=>q p _ (GS.upd X) ?_]
   rw[qc,E5]
theorem hW(a:At K mg "least_apart" ZZ ["these","those"])(T:HN K mg tk)(z:Df P w K mg base "counts_in" ["stretches"] 1 mU):Df P w K mg base "least_apart" ["these","those"] 2 pF:=by
 refine a.dq iN λf _ A _ s H vs Q E B h=>?_
 ·obtain⟨t,O,S,m,rfl,N,p,ok,c,R,xs,q⟩:=h
  refine#[_,(qg (qr (qC qG (qx (jV Z) T.b_sorted PyProof.Rows.boot_sorted (qd (qu AJ (qH (gr Z) T.b_set PyProof.Rows.boot_set (qd (qp z B.mo (qd (qv 0) qb)) qb)) (qH (gr Z) T.b_set PyProof.Rows.boot_set (qd (qp z B.mo (qd (qv 1) qb)) qb))) qb)) qf))),?_]
  have c1:=ok.cnt;have c2:=c.cnt;have sb:PySem.scanBound=4096:=Z
  refine#[_,Z,t,S,Z,N,ok,λU H1 y F=>#[U,qL S,Z,G0.of F,by lia,λi u=>?_]]
  have C:=GS.upd (o:=au P w i (S0.ddL (qL S))) u
  refine#[_,Z,O,m,Z,(p.same y).same C,c,λI H2 x W=>#[I,qL m,Z,G0.of W,by lia,λD d=>?_]]
  have v:=GS.upd (o:=au P w D (S0.ddL (qL m))) d
  have e:=x _ _ (qc (H:=H1) (a:=i) (o:=au P w i (S0.ddL (qL S))))
  have d1:=eZ (qL S);have d2:=eZ (qL m);refine#[i,D,_,_,Z,Z,qo e d,v _ _ e,qc,aQ _,aQ _,by lia,by lia,λz3 n r L len g=>?_]
  have X:=GS.upd (o:=au P w z3 n) r
  refine#[z3,n,Z,qc,xs n L (λk=>by rw[g,Zh,Zh]),λl ms Y pm M=>?_]
  have G:=GS.upd (o:= .lst (ms.map V.int)) Y
  have J:=rJ (ms:=ms) ok c (λk=>by rw[pm.mem_iff,g,Zh,Zh]) M R
  exact#[l,_,_,_,Z,Z,G0.of qc,Qo (j:=0) (by rw[Jn,J];rfl),q _ (((((y.trans C).trans x).trans v).trans X).trans G)]
theorem iI(a:At K mg "press_apart" ZW ["one","first","other","second"])(T:HN K mg tk)(U:Iz K C)(d7:Mf P w K mg base C "keys_now" W6 1 (ox K C))(dW:Df P w K mg base "stretches_of" ["door","button","age"] 3 (yy K C))(xG:Df P w K mg base "least_apart" ["these","those"] 2 pF):Df P w K mg base "press_apart" X1 4 (yg K C):=by
 refine a.dq HV λf _ A _ s H vs Q E j h=>?_
 ·obtain⟨p,ta,hk,bd,lg,n,D,v,o,X,L,G,N,u,n',D',Y,o',rfl,b,hv,b',F,dn,R,k,k',k8,xs,q⟩:=h
  refine#[_,(qe (zn JQ Z (zC Z T.b_range (qd (qx qY T.b_len J6 (qd (Qi d7 U.cl j.mo (qv 0)) qb)) qb)) (qh (i:=4) HV.nd Z (Or.inl Z))
   (qe (qw (i:=5) HV.nd Z (Or.inl Z) (qp dW j.mo (qd (qv 0) (qd (qv 1) (qd (qv 4) qb)))))
   (qe (qw (i:=6) HV.nd Z (Or.inl Z) (qp dW j.mo (qd (qv 2) (qd (qv 3) (qd (qv 4) qb)))))
   (qg (qK (qE (CS j) (qv 5) (qv 6) (qB _)) (qg (qr (qy (qd (qv 4) (qd (qp xG j.mo (qd (qv 5) (qd (qv 6) qb))) qb))))) qF)))))
   (qg (qr zd))),?_]
  refine#[_,Z,p,Z,b.no,p,ta,hk,bd,lg,n,D,Z,b,λt0 as H0 s0 sq S _=>#[t0,_,Z,.inr sq,_,Z,by lia,by rw[Je,S];lia,?_]]
  rw[Je,S,Fe];refine Qf (n:=D.kss.length) (Pv:=λi σ Hx=>GS H Hx/\(∀x:Int,0<=x->x<0+(i:Int)->zX D x o=zX D' x o')/\∃m t r,σ=[↑(.ref p),↑v,↑(.ref X),↑Y,m,t,r]) #[s0,λx h1 h2=>by lia,_,_,_,Z] ?_ ?_
  ·rintro i σ H1 hi ⟨e,no,m,t,r,rfl⟩
   obtain⟨A,eA⟩:∃A:Int,A=0+(i:Int):=#[_,Z]
   rw[<- eA]at no⊢;refine#[_,Z,_,Z,_,Z,p,ta,hk,bd,lg,n,D,v,o,A,Z,b.same e,hv.same e,λM H2 s2 d=>?_]
   have I:=e.trans s2;refine#[_,Z,_,Z,_,Z,X,L,G,N,u,n',D',Y,o',A,Z,b'.same I,F.same I,λO H3 s3 c=>?_]
   have d:Lz H3 M (zX D A o):=Lz.same s3 d
   have c:Lz H3 O (zX D' A o'):=c
   have S3:=I.trans s3;refine#[_,Z,_,Z,M,O,_,_,Z,Z,d,c,_,Z,qW (λy=>?_) (λy=>?_)]
   ·have ne:=Jx y
    refine#[_,Z,_,Z,_,Z,M,O,_,_,Z,d,c,ft dn k A,ft R k' A,ne,xs A,λH4 s4=>#[GJ,λW B=>?_]]
    have l:aG D o D' o'=↑(A,QY (zX D A o) (zX D' A o')):=by
     unfold aG;refine lL hi (by rw[<- eA];exact Jb ne) λx g J=>Jc (no x g (by lia))
    have:=q (.ref W) _ ((S3.trans s4).trans (GS.upd (o:= .tup [.int A,.int (QY (zX D A o) (zX D' A o'))]) B))
    rw[l]at this;exact this #[W,Z,qc]
   ·have eq:=Decidable.not_not.mp (λz=>y (Ji z))
    refine#[S3,λx g J=>?_,_,_,_,Z]
    by_cases hx:x<A
    ·exact no x g hx
    ·obtain rfl:x=A:=by lia
     exact eq
  ·rintro σ H1 ⟨e,no,m,t,r,rfl⟩
   have l:aG D o D' o'=none:=lO λx g J=>Jc (no x g J)
   have:=q .non _ e
   rw[l]at this;exact this Z
theorem jO(a:At K mg "pair_apart" ax ["one","first","other","second"])(T:HN K mg tk)(U:Iz K C)(dY:Mf P w K mg base C "closed_now" W6 1 (jl K C))(dD:Mf P w K mg base C "plain_step" X3 3 (fO K C))(xN:Df P w K mg base "lesser_end" X1 2 (oQ K C))(dL:Df P w K mg base "press_apart" X1 4 (yg K C)):Df P w K mg base "pair_apart" X1 5 (vo K C):=by
 refine a.dq Ho λf _ A _ s H vs Q E N h=>?_
 ·obtain⟨p,ta,hk,bd,lg,n,D,v,o,G,r,m,t,l,n',D',v',o',rfl,b,X,Y,g,W,d,k,J,k8,xs,q⟩:=h
  refine#[_,(qe (qK (QW.pt (Zt (qE Zp (qv 1) zd (qB _)) (QX (qE Zp (qv 3) zd (qB _))))) (qg (qr zd)) qF)
   (qe (qw (i:=4) Ho.nd Z (Or.inl Z) (qx (Zg Z) T.b_max F4 (qd (qC qO (qv 1) qf) (qd (Qi dY U.cl N.mo (qv 0)) qb))))
   (qe (qw (i:=5) Ho.nd Z (Or.inl Z) (qp xN N.mo (qd (qv 0) (qd (qv 1) (qd (qv 2) (qd (qv 3) qb))))))
   (qe (zn JQ Z (jF Z T.b_range (qd (qv 5) (qd (qx (zW Z) T.b_min PyProof.Rows.boot_min (qd (qu qI (qv 5) qf) (qd (zj (v:= .int 4096) Z T.g_COUNTS #[_,Z]) qb))) qb))) (qh (i:=6) Ho.nd Z (Or.inl Z))
   (qe (q9 (zf dD U.cl N.mo (qv 0) (qd (qv 1) (qd (qv 4) (qd (qv 6) qb)))) (ze Z (ql (qh (i:=7) Ho.nd Z (Or.inl Z)) (ql (qh (i:=8) Ho.nd Z (Or.inl Z)) qM))))
   (qe (q9 (zf dD U.cl N.mo (qv 2) (qd (qv 3) (qd (qv 4) (qd (qv 6) qb)))) (ze Z (ql (qh (i:=7) Ho.nd Z (Or.inl Z)) (ql (qh (i:=9) Ho.nd Z (Or.inl Z)) qM))))
   (qe (qw (i:=10) Ho.nd Z (Or.inl Z) (qp dL N.mo (qd (qv 0) (qd (qv 8) (qd (qv 2) (qd (qv 9) qb))))))
   (qg (qK (qE aa (qv 10) zd (qB _)) (qg (qr (qy (qd (qy (qd (qv 4) (qd (qv 6) qb))) (qd (qv 10) qb))))) qF))))))
   (qg (qr zd)))))),?_]
  cases o with
  |none=>
   have X:v= .non:=X
   subst X
   exact#[_,Z,Z,_,Z,zP (Ji Z) (zx (q .non H (GS.refl _) Z))]
  |some e=>
  obtain⟨x,rfl,hx⟩:=X;refine#[_,Z,Z,_,Z,qW (λy=>nomatch (Jx y)) (λ_=>?_)]
  cases o' with
  |none=>
   have g:v'= .non:=g
   subst g
   exact#[_,Z,Z,_,Z,zx (q .non H (GS.refl _) Z)]
  |some e'=>
  obtain⟨x',rfl,R⟩:=g;refine#[_,Z,Z,_,Z,zw ?_]
  have k:Iq D e:=k
  have J:Iq D' e':=J
  obtain⟨w1,h1,b0⟩:=id hx;refine#[_,Z,x,_,_,_,Z,Z,G9.of h1,Z,_,Z,p,Z,b.no,p,ta,hk,bd,lg,n,D,Z,b,_,_,Z,?_]
  refine#[_,Z,_,Z,_,Z,_,Z,p,ta,hk,bd,lg,x,n,D,e,G,r,m,t,l,x',n',D',e',Z,b,hx,Y,R,λH1 s1=>?_]
  obtain⟨A,eA⟩:∃A,A=zD e.age D.least:=#[_,Z]
  obtain⟨L,j⟩:∃L,L=cx D e D' e':=#[_,Z]
  have Lb:0<=L/\L<=6000:=by
   have:=k.l0
   have:=k.l1
   have:=J.l0
   have:=J.l1
   have:=W.n0
   have:=W.nf
   have:=W.f1
   have:=d.n0
   have:=d.nf
   have:=d.f1
   rw[j];unfold cx Zz;split<;>lia
  refine#[_,Z,_,Z,_,_,Z,Z,_,_,Z,_,_,Z,#[by rw[<- j];lia,by rw[<- j];lia,by rw[<- j];split<;>lia,by rw[<- j];split<;>lia],?_]
  have S:bX D ↑e D' ↑e'=je L (Zz (L+2) 4096-L).toNat λc=>(aG D (some (zh D e A c).2) D' (some (zh D' e' A c).2)).map λp=>((A,c),p):=by rw[j,eA];rfl
  refine Qf (lo:=cx D e D' e') (Pv:=λi σ Hx=>GS H Hx/\(∀y:Int,L<=y->y<L+(i:Int)->aG D (some (zh D e A y).2) D' (some (zh D' e' A y).2)=none)/\∃o6 o7 o8 o9 oa,σ=[↑(.ref p),↑(.ref x),↑(.ref G),↑(.ref x'),↑(.int A),↑(.int L),o6,o7,o8,o9,oa]) #[s1,λy h1 h2=>by lia,_,_,_,_,_,by rw[j,eA];rfl] ?_ ?_
  ·rintro i σ H2 hi ⟨z,no,o6,o7,o8,o9,oa,rfl⟩
   rw[<- j]at hi⊢;have hi:i<(Zz (L+2) 4096-L).toNat:=hi
   have F:(i:Int)<Zz (L+2) 4096-L:=by lia
   have I:0<=L+(i:Int)/\L+(i:Int)<4096:=by unfold Zz at F;split at F<;>lia
   refine#[_,Z,p,Z,(b.same z).no,_,Z,_,Z,_,Z,p,ta,hk,bd,lg,x,n,D,e,A,_,Z,b.same z,hx.same z,λq1 a1 H3 s3 a8 a0=>#[q1,_,Z,.tup a8,Z,_,_,Z,_,_,Z,Z,?_]]
   have S3:=z.trans s3;refine#[_,Z,G,Z,(Y.same S3).no,_,Z,_,Z,_,Z,G,r,m,t,l,x',n',D',e',A,_,Z,Y.same S3,R.same S3,λq2 a2 H4 s4 a5 a6=>#[q2,_,Z,.tup a5,Z,_,_,Z,_,_,Z,Z,?_]]
   have S4:=S3.trans s4;refine#[_,Z,_,Z,_,Z,_,Z,p,ta,hk,bd,lg,n,D,.ref a1,some (zh D e A (L+(i:Int))).2,G,r,m,t,l,n',D',.ref a2,some (zh D' e' A (L+(i:Int))).2,Z,b.same S4,#[a1,Z,a0.same s4],Y.same S4,#[a2,Z,a6],W,d,cf W k I.1 I.2,cf d J I.1 I.2,k8,(by rw[eA];exact xs.2 e e' Z Z _ (by lia) I.2),λu H5 s5 B=>?_]
   have S5:=S4.trans s5;cases ep:aG D (some (zh D e A (L+(i:Int))).2) D' (some (zh D' e' A (L+(i:Int))).2)with
   |none=>
    rw[ep]at B;have B:u= .non:=B
    subst B;refine#[_,Z,Z,_,Z,zw #[S5,λy M O=>?_,_,_,_,_,_,Z]]
    by_cases hy:y<L+(i:Int)
    ·exact no y M hy
    ·obtain rfl:y=L+(i:Int):=by lia
     exact ep
   |some pr=>
    rw[ep]at B;obtain⟨tt,rfl,a3⟩:=B;refine#[_,Z,Z,_,Z,zx ?_]
    refine#[_,Z,_,Z,GJ,λr1 a7=>#[_,Z,GJ,λr2 a4=>?_]]
    have u1:=GS.upd (o:= .tup [.int A,.int (L+(i:Int))]) a7
    have u2:=GS.upd (o:= .tup [.ref r1,.ref tt]) a4
    have e1:bX D ↑e D' ↑e'=↑((A,L+(i:Int)),pr):=by
     rw[S];exact lL hi (by rw[ep];rfl) λy M O=>by rw[no y M O];rfl
    have:=q (.ref r2) _ ((S5.trans u1).trans u2)
    rw[e1]at this;exact this #[r2,r1,tt,Z,qc,u2 _ _ qc,u2 _ _ (u1 _ _ a3)]
  ·rintro σ H2 ⟨z,no,o6,o7,o8,o9,oa,rfl⟩
   have e1:bX D ↑e D' ↑e'=none:=by
    rw[S];refine lO λy M O=>?_
    rw[no y M (by rw[j]at O⊢;exact O)];rfl
   have:=q .non _ z
   rw[e1]at this;exact this Z
end
section
variable{P:Ξ}{w:Ω}{K:ι}{mg:GQ}{base:Ψ}{tk:Nat->Tok}{C:Δ}
theorem sY(a:At K mg "telling" dy ["one","other"])(T:HN K mg tk)(U:Iz K C)(yK:Mf P w K mg base C "button_of" W8 1 (hV K C))(dJ:Df P w K mg base "names_known" ["door"] 2 (fP K C))(dL:Df P w K mg base "press_apart" X1 4 (yg K C))(xP:Df P w K mg base "pair_apart" X1 5 (vo K C)):Df P w K mg base "telling" ["one","other"] 6 (ux K C):=by
 have dC:=yK.ofO;refine a.dq Ib λf _ A _ s H vs Q E hr h=>?_
 ·obtain⟨p,ta,hk,bd,lg,n,D,Y,O,N,L,G,n',D',rfl,b,b',td,B,xs,q⟩:=h
  refine#[_,(qe (qw (i:=2) Ib.nd Z (Or.inl Z) (qx (jJ Z) T.b_sorted PyProof.Rows.boot_sorted (qd (qu Cg (qH (gB Z) T.b_set PyProof.Rows.boot_set (qd (qp dJ hr.mo (qd (qv 0) qb)) qb)) (qH (gB Z) T.b_set PyProof.Rows.boot_set (qd (qp dJ hr.mo (qd (qv 1) qb)) qb))) qb)))
   (qe (zn JQ Z (zN (qv 2)) (qh (i:=3) Ib.nd Z (Or.inr Z))
   (qe (qw (i:=4) Ib.nd Z (Or.inl Z) (qp dL hr.mo (qd (qv 0) (qd (zf dC U.cl hr.mo (qv 0) (qd (qv 3) qb)) (qd (qv 1) (qd (zf dC U.cl hr.mo (qv 1) (qd (qv 3) qb)) qb))))))
   (qg (qK (qE aa (qv 4) zd (qB _)) (qg (qr (qy (qd (qu Z7 (qy (qd (qv 3) qb)) (qv 4)) qb)))) qF))))
   (qe (zn JQ Z (zN (qv 2)) (qh (i:=3) Ib.nd Z (Or.inr Z))
   (qe (qw (i:=5) Ib.nd Z (Or.inl Z) (qp xP hr.mo (qd (qv 0) (qd (zf dC U.cl hr.mo (qv 0) (qd (qv 3) qb)) (qd (qv 1) (qd (zf dC U.cl hr.mo (qv 1) (qd (qv 3) qb)) qb))))))
   (qg (qK (qE aa (qv 5) zd (qB _)) (qg (qr (qH qX T.b_tuple J0 (qd (zA (own:=["press"]) (fr:=["name"]) (js:=[3]) Z (Zv (qv 5)) Z (gf Z) Z (iD Z nofun nofun nofun Z Z Z) (λ_ _ _ _=>qh (i:=0) (show List.Nodup (["press","name"]:Α)from by decide +kernel) Z (Or.inl Z) (.inr Z)) (λ_ _ _ _=>(qu Z7 (qy (qd (qv 1) qb)) (qv 0)))) qb)))) qF))))
   (qg (qr zd))))),?_]
  have b7:∀{D:Dr} {ss:Α},Ni D->ss.Perm (D.kn.map (·.1))->ss.length<=30:=λtd pm=>by rw[pm.length_eq,Je];exact td.few
  refine#[_,Z,p,ta,hk,bd,lg,n,D,Z,b,td.ok,λn1 v H1 s1 a6 e1=>?_]
  have c1:=b7 td a6;have sb:PySem.scanBound=4096:=Z
  refine#[n1,v,Z,G0.of e1,by lia,λz1 b6=>?_]
  have u1:=GS.upd (o:=aE P w z1 (S0.ddL v)) b6
  refine#[_,Z,Y,O,N,L,G,n',D',Z,(b'.same s1).same u1,B.ok,λn2 I H2 s2 b3 e2=>?_]
  have c2:=b7 B b3;have d1:=eZ v;have d2:=eZ I;refine#[n2,I,Z,G0.of e2,by lia,λz2 c=>?_]
  have u2:=GS.upd (o:=aE P w z2 (S0.ddL I)) c
  have b1:=s2 _ _ (qc (H:=H1) (a:=z1) (o:=aE P w z1 (S0.ddL v)))
  refine#[z1,z2,_,_,Z,Z,qo b1 c,u2 _ _ b1,qc,aQ _,aQ _,by lia,λz3 ks b5 nd a2=>?_]
  have u3:=GS.upd (o:=aE P w z3 ks) b5
  have kl:ks.length<=60:=by
   have:=lJ (m:=v++I) nd λk hk=>JL.mpr (((a2 k).mp hk).imp (Zh v k).mp (Zh I k).mp)
   rw[Jv]at this;lia
  refine#[z3,ks,Z,qc,by lia,λX e b8 a1 c3=>?_]
  have u5:=GS.upd (o:= .lst (e.map V.str)) b8
  have S5:=((((s1.trans u1).trans s2).trans u2).trans u3).trans u5;have b4:∀k,k∈e↔k∈D.kn.map (·.1)\/k∈D'.kn.map (·.1):=λk=>by
   rw[a1.mem_iff,a2,Zh,Zh,a6.mem_iff,b3.mem_iff]
  have d5:e.Nodup:=a1.nodup_iff.mpr nd
  have nl:e.length<=60:=by rw[a1.length_eq];exact kl
  have q:∀u H',GS H H'->Ls H' u (ZN D D' e)->Q u H':=λu H' s t=>q u e H' s d5 b4 c3 t
  have k8:=td.ok.kl;clear u1 u2 u3 u5 b1 a2 a1 a6 b3 d1 d2 c1 c2 kl nd b6 c b5 b8 e1 e2 s1 s2;refine ZE (λd7 H'=>GS H H'/\H' X=↑(.lst (e.map V.str))/\e.findSome? (br D D')=none/\∃S W R,d7=[↑(.ref p),↑(.ref Y),↑(.ref X),S,W,R]) (λD0 c0 d6=>?_) ?_
  ·refine#[_,Z,X,Z,#[_,G0.of qc],?_]
   refine Qj (K:=K) (a:=X) (xs:=e.map V.str) (λi σ Hx=>GS H Hx/\Hx X=↑(.lst (e.map V.str))/\(∀j z,j<i->e[j]? =↑z->br D D' z=none)/\∃S W R,σ=[↑(.ref p),↑(.ref Y),↑(.ref X),S,W,R]) #[S5,qc,λj z g _=>absurd g (Nat.not_lt_zero _),_,_,_,Z] (λi σ Hx _ h=>G0.of h.2.1) ?_ ?_
   ·rintro i z σ H6 hz ⟨d,e6,no,S,W,R,rfl⟩
    rw[Jn]at hz;obtain⟨nm,J,rfl⟩:=JZ.mp hz;refine#[_,Z,_,Z,p,Z,(b.same d).no,_,Z,p,ta,hk,bd,lg,n,D,nm,Z,b.same d,λv1 a7=>?_]
    refine#[_,Z,_,Z,Y,Z,(b'.same d).no,_,Z,Y,O,N,L,G,n',D',nm,Z,b'.same d,λv2 a5=>?_]
    refine#[p,ta,hk,bd,lg,n,D,v1,_,Y,O,N,L,G,n',D',v2,_,Z,b.same d,a7,b'.same d,a5,td.dn,B.dn,td.kn nm,B.kn nm,k8,(xs nm).1,λu H7 s7 l=>?_]
    have S7:=d.trans s7;cases ep:aG D (D.kn.lookup nm) D' (D'.kn.lookup nm)with
    |none=>
     rw[ep]at l;have l:u= .non:=l
     subst l;refine#[_,Z,Z,_,Z,zw #[S7,s7 _ _ e6,λj z g c=>?_,_,_,_,Z]]
     by_cases b0:j<i
     ·exact no j z b0 c
     ·obtain rfl:j=i:=by lia
      have ez:z=nm:=JA (c.symm.trans J)
      rw[ez];unfold br;rw[ep];rfl
    |some pr=>
     rw[ep]at l;obtain⟨tt,rfl,a0⟩:=l;refine#[_,Z,Z,_,Z,zx ?_]
     refine#[_,Z,GI,λt0 F=>#[_,Z,t0,tt,_,_,Z,Z,qc,(GS.upd F) _ _ a0,GK,λpp H9 s9 a4=>#[GI,λr b2=>?_]]]
     have u9:=GS.upd (o:= .tup [.ref pp]) b2
     have e1:ZN D D' e=some [(nm,pr.1,pr.2)]:=by
      unfold ZN;rw[iu (f:=br D D') J (show br D D' nm=some [(nm,pr.1,pr.2)] by unfold br;rw[ep];rfl) no]
     have:=q (.ref r) _ (((S7.trans (GS.upd F)).trans s9).trans u9)
     rw[e1]at this;rw[c0];exact this (Ls.one qc (u9 _ _ a4))
   ·rintro σ H6 ⟨d,e6,no,S,W,R,rfl⟩
    refine d6 _ _ #[d,e6,iE λx hx=>?_,_,_,_,Z]
    obtain⟨j,g,rfl⟩:=List.mem_iff_getElem.mp hx;exact no j _ (by rw[Je];exact g) (Jg g)
  clear S5
  rintro σ H5 ⟨s5,e5,a8,S,W,R,rfl⟩
  have et:ZN D D' e=e.findSome? (bm D D'):=by unfold ZN;rw[a8]
  rw[et]at q;refine#[_,Z,X,Z,#[_,G0.of e5],?_]
  refine Qj (K:=K) (a:=X) (xs:=e.map V.str) (λi σ Hx=>GS H Hx/\Hx X=↑(.lst (e.map V.str))/\(∀j z,j<i->e[j]? =↑z->bm D D' z=none)/\∃S W R,σ=[↑(.ref p),↑(.ref Y),↑(.ref X),S,W,R]) #[s5,e5,λj z g _=>absurd g (Nat.not_lt_zero _),_,_,_,Z] (λi σ Hx _ h=>G0.of h.2.1) ?_ ?_
  ·rintro i z σ H6 hz ⟨d,e6,no,S,W,R,rfl⟩
   rw[Jn]at hz;obtain⟨nm,J,rfl⟩:=JZ.mp hz;refine#[_,Z,_,Z,p,Z,(b.same d).no,_,Z,p,ta,hk,bd,lg,n,D,nm,Z,b.same d,λv1 a7=>?_]
   refine#[_,Z,_,Z,Y,Z,(b'.same d).no,_,Z,Y,O,N,L,G,n',D',nm,Z,b'.same d,λv2 a5=>?_]
   refine#[p,ta,hk,bd,lg,n,D,v1,_,Y,O,N,L,G,n',D',v2,_,Z,b.same d,a7,b'.same d,a5,td.dn,B.dn,td.kn nm,B.kn nm,k8,xs nm,λu H7 s7 l=>?_]
   have S7:=d.trans s7;cases ep:bX D (D.kn.lookup nm) D' (D'.kn.lookup nm)with
   |none=>
    rw[ep]at l;have l:u= .non:=l
    subst l;refine#[_,Z,Z,_,Z,zw #[S7,s7 _ _ e6,λj z g c=>?_,_,_,_,Z]]
    by_cases b0:j<i
    ·exact no j z b0 c
    ·obtain rfl:j=i:=by lia
     have ez:z=nm:=JA (c.symm.trans J)
     rw[ez];unfold bm;rw[ep];rfl
   |some pr=>
    rw[ep]at l;obtain⟨tt,x1,x2,rfl,a0,d3,c4⟩:=l;refine#[_,Z,Z,_,Z,zx ?_]
    refine#[_,Z,tt,Z,#[_,G9.of a0],?_]
    obtain⟨zs,a3⟩:∃zs:qZ,zs=[(nm,pr.1.1,pr.1.2),(nm,pr.2.1,pr.2.2)]:=#[_,Z]
    refine Q5 (K:=K) (a:=tt) (xs:=[.ref x1,.ref x2]) (GJ) (λi ys Hx=>GS H7 Hx/\∃M:Η,ys=M.map V.ref/\M.length=i/\∀(j:Nat) (a:Δ) (z:Str×Int×Int),M[j]? =↑a->zs[j]? =↑z->Hx a=↑(.tup [.str z.1,.int z.2.1,.int z.2.2])) #[GS.refl _,[],Z,Z,λj a z h=>by cases h] (λi ys Hx h=>G9.of (h.1 _ _ a0)) ?_ ?_
    ·rintro i2 ys H8 x hx d9 ⟨s8,M,rfl,la,has⟩
     obtain⟨xa,y,rfl,d0,d4⟩:∃(xa:Δ) (y:Int×Int),x= .ref xa/\H7 xa=↑(.tup [.int y.1,.int y.2])/\∀z,zs[i2]? =↑z->z=(nm,y.1,y.2):=by
      rw[a3]
      match i2,hx with
      |0,hx=>cases hx;exact#[x1,pr.1,Z,d3,λz h=>by cases h;rfl]
      |1,hx=>cases hx;exact#[x2,pr.2,Z,c4,λz h=>by cases h;rfl]
     refine#[_,Z,GI,λt0 F=>#[_,Z,t0,xa,_,_,Z,Z,qc,(GS.upd F) _ _ (s8 _ _ d0),GK,λpp H9 s9 a4=>?_]]
     have S9:=(GS.upd (o:= .tup [.str nm]) F).trans s9
     refine#[s8.trans S9,M++[pp],by simp,by simp [la],λj a z h1 h2=>?_]
     by_cases g:j<M.length
     ·rw[JT g]at h1
      exact S9 _ _ (has j a z h1 h2)
     ·rw[JY (by lia)]at h1
      cases ej:j-M.length with
      |succ k=>rw[ej]at h1;cases h1
      |zero=>
       rw[ej]at h1;cases h1
       obtain rfl:j=i2:=by lia
       rw[d4 z h2];exact a4
    ·rintro ys H8 d9 ⟨s8,M,rfl,la,has⟩ l8 d8
     have u8:=GS.upd (o:= .lst (M.map V.ref)) d8
     refine#[l8,_,Z,.inl #[G0.of qc,λr b2=>?_]]
     have u9:=GS.upd (o:= .tup (M.map V.ref)) b2
     have e1:e.findSome? (bm D D')=↑zs:=iu (f:=bm D D') J (show bm D D' nm=↑zs by rw[a3];unfold bm;rw[ep];rfl) no
     have:=q (.ref r) _ (((S7.trans s8).trans u8).trans u9)
     rw[e1]at this;exact this #[r,M,Z,qc,by rw[a3];exact la,λj a z h1 h2=>u9 _ _ (u8 _ _ (has j a z h1 h2))]
  ·rintro σ H6 ⟨d,e6,no,S,W,R,rfl⟩
   have e1:e.findSome? (bm D D')=none:=iE λx hx=>by
    obtain⟨j,g,rfl⟩:=List.mem_iff_getElem.mp hx;exact no j _ (by rw[Je];exact g) (Jg g)
   have:=q .non _ d
   rw[e1]at this;exact this Z
end
end Lw
namespace L3
open PySem PySem.Spec PyProof.Rows L2
def tO(k:Nat)(js:Κ)(g:TG)(tk tv:TE)(σ:L2.St)(Q:VK)(J:It)(H1:Hp):Prop:=∃W:Nat->Nat->List (qJ×V)->L2.St->Hp->Prop,(∃m,W 0 m [] (σ0 k js σ) H1)/\∀i m ys e H,W i m ys e H->
 (J.stop i H/\∀p,H p=none->Q (.ref p) (GW H p (.dK ys)))\/(J.go i H/\ys.length<ζ/\∀x H',J.yld i H x H'->g x e H' λa h=>∃N:qJ->V->Hp->Prop,(∀k v c,N k v c->∃d,d<m/\W (i+1) d (HL ys k v) a c)/\tk a h λx c=>∃k,x=kV k/\tv a c λv f=>N k v f)
def kI(k:Nat)(js:Κ)(a:TI)(g:TG)(tk tv:TE):TE:=λσ H Q=>a σ H (tO k js g tk tv σ Q)
section
variable{prog:Ξ}{w:Ω}{A:Around}{R:Result->Θ->Prop}{s:Θ}
theorem jU{kx C a l:Φ}{e:Scope}{pos:Pos}{it:Γ}{D:Δ}{c:Env}(I:Nat->Θ->Prop)
  (q:∀n s,I n s->ε (model prog w) A (pyNext it) (λr f=>match r with
   |none=>R (.ok .next) f
   | some v=>ε (model prog w) A (letOwnedTupleGo a it v) (λ_ d=>ε (model prog w) A (assign a c v) (λ_ g=>ε (model prog w) A (eval kx c) (λG B=>ε (model prog w) A (eval C c) (λF i=>
     ε (model prog w) A (dictSet D G F) (λ_ o=>∃m,m<n/\I m o) (λ_ _=>False) i) (λ_ _=>False) B)
     (λ_ _=>False) g) (λ_ _=>False) d) (λ_ _=>False) f) (λ_ _=>False) s)
  (n:Nat)(h:I n s):
  codeAny (model prog w) A (.compLoop (.DictComp kx C [#[a,l,[],0]] e pos) 0 it (.ref D) c) R s:=by
 refine codeAny_loop Z I (λn s H=>?_) n h
 show ε _ _ ((compTurn (.DictComp kx C [#[a,l,[],0]] e pos) 0 it (.ref D) c).onRaise (λx=>do noteFrame x c;theTreesLotGoes x)) _ _ s
 refine wpAny_noted ?_
 rw[compTurn_dict];refine Ja (E1 (Ja (Jw (q n s H) (λr f j=>?_) λ_ _ h'=>h'.elim)))
 cases r with
 |none=>exact Jd j
 |some v=>
  refine Ja (Jw j (λ_ d p=>?_) λ_ _ h'=>h'.elim)
  refine Ja (Jw p (λ_ g y=>?_) λ_ _ h'=>h'.elim)
  exact Ja (Jd (Ja (Ja (Jw y (λG i t=>Ja (JI (Jw t (λF o u=>Ja (E1 (JI (Jw u (λ_ E z=>Jd #[Z,z]) λ_ _ h'=>h'.elim)))) λ_ _ h'=>h'.elim))) λ_ _ h'=>h'.elim))))
end
variable{X:Cx}
theorem fL{P:Ξ}{w:Ω}{h:Ψ}{a:Δ}{vs:List (qJ×Γ)}{o:Obj}(d:h.DictOf (qN P w) a vs)(e:h.get? a=↑o)(v:Ν):o.data≠ .cell v:=by
 obtain⟨o',es,ep,h1,f,c,_⟩:=d;rw[h1]at e;cases e
 rw[c];intro z;cases z
theorem uN{kx vx tg q:Φ}{a:Scope}{cl:List (Str×Δ)}{pos c2:Pos}{fr own:Α}{js:Κ}{wi:TI}{g:TG}{tk tv:TE}{use:Option (Γ->Sem Unit)}{Post:GP}
  {Oa:GR}{s:Θ}{σ:L2.St}{H:Hp}{Q:VK}
  (hc:X.calm=true)(hi:PI X tg q wi)(a5:closureFor a X.env=pure cl)(d5:∀y c,cl.lookup y=↑c->X.env.cells.lookup y=↑c)(e1:cl.map (·.1)=fr)
  (S:HP X a fr js)
  (hg:∀C s H fp,PG (zb X (own++fr) a cl C s H fp) tg g)(hk:∀C s H fp,PE (zb X (own++fr) a cl C s H fp) kx tk)(hv:∀C s H fp,PE (zb X (own++fr) a cl C s H fp) vx tv)
  (hs:∀x,foldedSetIterable q X.env x=pure x)
  (I:L2.GX X Oa σ H s)(h:kI own.length js wi g tk tv σ H Q)
  (c3:∀(b2 C:Δ) (s5:Θ) (H':Hp) (m:GQ),L2.GX X Oa σ H' s5->s5.heap.Ns C m->Mm X Oa H' C->Q (.ref b2) H'->compPost (model X.prog X.w) X.A X.xe use Post (.ref b2) C (.ok .next) s5):
  ε (model X.prog X.w) X.A (comprehension (.DictComp kx vx [#[tg,q,[],0]] a pos) a X.env c2 newDict false (eval q X.env) use) Post X.xe s:=by
 refine wpAny_comprehension_free (use:=use) Z hs a5 S.kind S.names (qz (hi Oa s σ H _ I h) λv s1 h1=>qz h1 λe3 d h2=>?_)
 obtain⟨it,fp,tn,J,H2,e,I2,T,c0,f2,W,⟨m0,w0⟩,c1⟩:=h2;subst e;refine J3 (wpAny_newFunctionEnv S.nocell (by intro y hy;simp at hy) (λA j f=>?_) S.kind)
 dsimp only at j f⊢
 have U:(d.heap.push {cls:= .type "dict",dict:=none,data:= .dict (List.toArray [])}).DictOf (qN X.prog X.w) d.heap.objs.size []:=Ψ.DictOf.new d.heap
 generalize hH2:d.heap.push {cls:= .type "dict",dict:=none,data:= .dict (List.toArray [])}=G at j f U⊢
 have hC:G.objs.size=d.heap.objs.size+1:=by rw[<- hH2,JX]
 have P:d.heap.objs.size≠G.objs.size:=by rw[hC];exact Jk (E2 _)
 have F:∀b,b<d.heap.objs.size->b≠G.objs.size/\b≠d.heap.objs.size:=λb t=>#[by rw[hC];exact Jk (EY t),Jk t]
 have c4:∀b o,d.heap.get? b=↑o->A.get? b=↑o:=λb o e=>f.extBut b o (F b (Jj e)).1 (Jl _ (hH2▸Jl _ e))
 have a1:A.DictOf (qN X.prog X.w) d.heap.objs.size []:=U.at λo e=>f.extBut _ _ P (Jl _ e)
 let Y:Cx:=zb X (own++fr) a cl G.objs.size d H2 fp
 obtain⟨b3,IY,K,E,a4⟩:=ga (own:=own) (js:=js) d5 e1 S I2 T c0 f2 hC c4 j
 have R:∀l:Θ,GX Y [] (σ0 own.length js σ) H2 l->tn 0 l.heap->l.heap.DictOf (qN X.prog X.w) d.heap.objs.size []->
   codeAny (model X.prog X.w) X.A (.compLoop (.DictComp kx vx [#[tg,q,[],0]] a pos) 0 (.ref it) (.ref d.heap.objs.size) (compEnvC a cl G.objs.size X.env))
    (compPost (model X.prog X.w) X.A X.xe use Post (.ref d.heap.objs.size) G.objs.size) l:=by
  intro l I3 d8 a6;refine jU (λn s'=>∃i ys τ H' w ob,GX Y [(d.heap.objs.size,ob)] τ H' s'/\tn i s'.heap/\(∀b∈fp,H' b=none)/\KV ys w/\s'.heap.DictOf (qN X.prog X.w) d.heap.objs.size w/\ys.length<=ζ/\W i n ys τ H') ?_ m0 ?_
  ·rintro n s4 ⟨i,ys,τ,H4,w,ob,I4,b1,b8,vl,dd,hz,w4⟩
   have a3:=I4.pin (d.heap.objs.size,ob) (by simp [Y,zb])
   rcases c1 i n ys τ H4 w4 with⟨b7,qn⟩|⟨go,e4,step⟩
   ·refine qz (T.done Y Z Z Z hc i _ s4 τ H4 _ I4 (a4 b8 (by simp)) b1 b7) λr s5 D=>?_
    obtain⟨hr,I5⟩:=D;subst hr
    show compPost _ _ _ _ _ _ _ _ _
    obtain⟨m5,d3,_⟩:=I5.loc;have a0:=I5.pin (d.heap.objs.size,ob) (by simp [Y,zb])
    have a2:H4 d.heap.objs.size=none:=a0.2.1
    have B:=I5.base;have nC:H4 G.objs.size=none:=I5.free
    have d7:s5.heap.DictOf (qN X.prog X.w) d.heap.objs.size w:=dd.at λo e=>by rw[a3.1]at e;cases e;exact a0.1
    obtain⟨z1,z2⟩:=b9 (ob:= .dK ys) I2 f2 hC I5 a2 #[hz,FL (EV (JO (Nat.lt_trans ⋯ ((I2.mod.glob.keeps I2.bk).lt)) (Jf _))),w,vl,d7]
    exact c3 d.heap.objs.size G.objs.size s5 (GW H4 d.heap.objs.size (.dK ys)) m5 z1 d3 z2 (qn _ a2)
   ·refine qz (T.item Y Z Z Z hc i _ s4 τ H4 _ I4 (a4 b8 (by simp)) b1 go) λr s5 D=>?_
    obtain⟨u,hr,h5⟩:=D;subst hr;refine qz h5 λ_ s6 D=>?_
    obtain⟨x,H6,I6,r6,y6,a7,d6⟩:=D;have d9:=I6.pinned (a4 d6 (by simp)) (T.obj _ _ a7)
    refine qz (hg _ _ _ _ _ s6 τ H6 x u _ d9 r6 (step x H6 y6)) λ_ s7 D=>?_
    obtain⟨O,H7,I7,N,hN,q7⟩:=D;refine qz (hk _ _ _ _ _ s7 O H7 _ I7 q7) λk' d1 D=>?_
    obtain⟨yk,d4,e2,rk,kk,ek,d2⟩:=D;subst ek;refine qz (hv _ _ _ _ _ d1 O d4 _ e2 d2) λv' s8 D=>?_
    obtain⟨y,H8,I8,r8,n8⟩:=D;obtain⟨m',d0,w8⟩:=hN _ _ _ n8;have L:=I8.pin (d.heap.objs.size,ob) (by simp [zb])
    have e0:s8.heap.DictOf (qN X.prog X.w) d.heap.objs.size w:=dd.at λo e=>by rw[a3.1]at e;cases e;exact L.1
    have M:∀b∈fp,∀o,s6.heap.get? b=↑o->s8.heap.get? b=↑o/\H8 b=none:=λb t o e=>by
     have:=I8.pin (b,o) (JV _ (JV _ (Qk t e)))
     exact#[this.1,this.2.1]
    refine wpAny_dictSet_pairs (bH rk) e0 (λh' a8 b6=>?_) (by have:=vl.length;omega)
    have I9:GX Y [] O H8 {s8 with heap:=h',toks:=s8.toks+1}:=by
     refine(I8.pins_of (pins':=[]) (by simp)).turned (t':=s8.toks+1) (it:=d.heap.objs.size) (λb o t e=>(b6.2 b t).trans e) L.2.1 ?_ (.inr (Jf _)) (λx c e=>E x c e) (λp hp=>absurd (show p∈([]:GR)from by simpa [Y,zb]using hp) (by simp))
     exact P
    obtain⟨o9,b5,_⟩:=Ψ.dictOf_iff.mp a8;refine#[m',d0,i+1,HL ys kk y,O,H8,_,o9,I9.pins_of ?_,T.keep _ _ _ a7 λb t o e=>(b6.2 b (F b (b3 b t)).2).trans (M b t o e).1,λb t=>?_,vl.put kk r8,a8,?_,w8]
    ·intro p hp
     rw[Jh.mp hp]
     exact#[b5,L.2.1,P,K,λv z=>fL a8 b5 v z]
    ·obtain⟨o,e,_⟩:=T.obj _ _ a7 b t
     exact(M b t o e).2
    ·have:=ZM ys kk y;omega
  ·obtain⟨o3,b4,_⟩:=Ψ.dictOf_iff.mp a6
   refine#[0,[],σ0 own.length js σ,H2,[],o3,I3.pins_of ?_,d8,λb t=>(f2 b t).1,.nil,a6,Jy _,w0]
   intro p hp;rw[Jh.mp hp]
   exact#[b4,I2.hok.fresh (Jf _),P,K,λv z=>fL a6 b4 v z]
 have b0:tn 0 A:=T.keep _ _ _ c0 λb _ o e=>c4 b o e
 exact codeAny_compStart_dict (R _ IY b0 a1) (T.self _ 0 _ _ _ b0 (R _ IY b0 a1))
theorem yj{kx u tg f:Φ}{d:Scope}{p:List (Str×Δ)}{pos j t:Pos}{fr own:Α}{js:Κ}{K:TI}{g:TG}{tk tv:TE}{i:Nat}{y:Str}
  (hN:X.N.Nodup)(A:X.N[i]? =↑y)(hx:cH X.env.scope y)
  (hc:X.calm=true)(hi:PI X tg f K)(n:closureFor d X.env=pure p)(w:∀y c,p.lookup y=↑c->X.env.cells.lookup y=↑c)(B:p.map (·.1)=fr)
  (S:HP X d fr js)
  (hg:∀C s H fp,PG (zb X (own++fr) d p C s H fp) tg g)(hk:∀C s H fp,PE (zb X (own++fr) d p C s H fp) kx tk)(hv:∀C s H fp,PE (zb X (own++fr) d p C s H fp) u tv)
  (hs:∀x,foldedSetIterable f X.env x=pure x:=by intro _;rfl)(G:swapsWith (.DictComp kx u [#[tg,f,[],0]] d pos) ↑(.Name y t) j.line X.env=pure true:=by rfl)
  (hf:X.fn y=true\/X.env.scope.names.lookup y=some .local:=by first|exact .inl Z|exact .inr Z|assumption):
  PS X (.Assign [.Name y t] (.DictComp kx u [#[tg,f,[],0]] d pos) j) (bb (kI own.length js K g tk tv) (Qa i)):=by
 intro Oa s σ H D I h;rw[exec_Assign_Name_used _ _ _ _ G];refine Ja (E1 (Ja ?_))
 show ε _ X.A (do let _ <- comprehension (.DictComp kx u [#[tg,f,[],0]] d pos) d X.env _ newDict false (eval f X.env) ↑(assign (.Name y t) X.env)) _ _ s
 refine Ja (Jw (uN (use:=↑(assign (.Name y t) X.env)) (Post:=λ_ s'=>SP X Oa D .next s') hc hi n w B S hg hk hv hs I h ?_) (λ_ s' R=>Jd (Jd R)) λ_ _ e=>e)
 intro r C U H' m P Q l q
 show ε _ X.A (assign (.Name y t) X.env (.ref r)) _ _ _
 refine wpAny_assign_Name (aT (v:= .ref r) P hN A hx Z (λL N O=>?_) hf)
 obtain⟨a,J,M⟩:=O;have F:C≠a:=by
  rcases M with z|z
  ·rw[z];exact l.loc
  ·exact Ne.symm (l.cell _ _ z)
 refine#[m,Q.sameBut J F,λh' E=>?_]
 exact#[_,H',N.turned (t':=L.toks) (λb o T e=>(E.2 b T).trans e) l.free l.loc (.inr l.new) l.cell l.pin,q]
end L3
namespace L3
open PySem PySem.Spec PyProof.Rows L2
def cX(x:Int):Int:=if 4095<x then 4095 else x
def gS(D:Dr)(e:Kb)(a:Int):Λ:=match e.wt with
 |none=>none
 |some (x,w)=>if x=a/\w+1<=cX (e.last+D.far)then ↑(w+1)else none
theorem Bu{D:Dr}{e:Kb}{a:Int}(h1:e.last+1<4096)(c:qR D e a=true):Zd D e a=(e.last+1,cX (e.last+D.near))::(gS D e a).toList.map λx=>(x,x):=by
 unfold Zd gS cX;rw[Jc c,Jc h1];cases e.wt with
 |none=>rfl
 |some p=>
  obtain⟨x,w⟩:=p;simp only
  by_cases h:x=a/\w+1<=(if 4095<e.last+D.far then 4095 else e.last+D.far)
  ·rw[Jc h,Jc h];rfl
  ·rw[Jb h,Jb h];rfl
def pL(D:Dr)(e:Kb)(a c:Int):Prop:=e.last<c/\(c<=e.last+D.near\/(c<=e.last+D.far/\e.wt=↑(a,c-1)))
theorem nZ{D:Dr}{e:Kb}(d:IK D)(k:Iq D e){a c:Int}(j:c<=4095)(hn:¬c<=e.last+D.near)(h:e.last<c):pL D e a c↔gS D e a=↑c:=by
 unfold pL gS;cases ew:e.wt with
 |none=>exact#[λz=>absurd z.2 (λy=>y.elim hn λy=>by cases y.2),λz=>by cases z]
 |some p=>
  obtain⟨x,w⟩:=p;simp only
  constructor
  ·rintro⟨_,z|⟨i,f⟩⟩
   ·exact absurd z hn
   ·injection f with f
    injection f with f z3
    subst f;rw[Jc #[Z,by unfold cX;split<;>lia]]
    congr 1;lia
  ·intro z
   split at z
   ·rename_i y
    injection z with z
    obtain⟨rfl,g⟩:=y;refine#[h,.inr #[by unfold cX at g;split at g<;>lia,by congr 2;lia]]
   ·cases z
section
theorem B6(x:Int):cX x<=x/\cX x<=4095:=by unfold cX;split<;>lia
theorem Ci{x y:Int}(h:y<=x)(h2:y<=4095):y<=cX x:=by unfold cX;split<;>lia
end
section
variable{D:Dr}{e:Kb}{nm:Str}{a c:Int}
theorem oy(i:D.near<=D.far)(he:D.kn.lookup nm=↑e):zv D nm a c="open"↔qR D e a=true/\pL D e a c:=by
 have d:¬(("":Str)="open"):=by decide
 have h:¬(("wait":Str)="open"):=by decide
 unfold zv pL;rw[he];simp only
 by_cases f:qR D e a=true
 ·rw[Jc f]
  by_cases h1:c-e.last<1\/c-e.last>D.far
  ·rw[Jc h1]
   exact#[λz=>absurd z d,λz=>absurd z.2 λy=>by rcases y.2 with q|q<;>lia]
  ·rw[Jb h1]
   by_cases g:c-e.last<=D.near\/e.wt=↑(a,c-1)
   ·rw[Jc g]
    exact#[λ_=>#[f,by lia,g.imp (λ_=>by lia) λq=>#[by lia,q]],λ_=>rfl]
   ·rw[Jb g]
    exact#[λz=>absurd z h,λz=>absurd (z.2.2.imp (λq=>by lia) λq=>q.2) g]
 ·rw[Jb f]
  exact#[λz=>absurd z d,λz=>absurd z.1 f]
theorem Dq(d:IK D)(k:Iq D e)(i:c<=4095):aO c (Zd D e a)=true↔qR D e a=true/\pL D e a c:=by
 have o:=d.n0;have n:=d.nf;have q:=k.l1
 by_cases f:qR D e a=true
 ·by_cases h1:e.last+1<4096
  ·rw[Bu h1 f]
   unfold aO;rw[ES,Bool.or_eq_true,JC,decide_eq_true_eq,decide_eq_true_eq];have l:(((gS D e a).toList.map λx=>(x,x)).any λp=>decide (p.1<=c)&&decide (c<=p.2))=true↔gS D e a=↑c:=by
    cases gS D e a with
    |none=>exact#[(λz=>by cases z),λz=>by cases z]
    |some x=>
     show((decide (x<=c)&&decide (c<=x))||false)=true↔_
     rw[Bool.or_false,JC,decide_eq_true_eq,decide_eq_true_eq,Option.some.injEq];lia
   rw[l];simp only
   by_cases g:c<=e.last+D.near
   ·constructor
    ·rintro(z|z)
     ·exact#[f,by lia,.inl g]
     ·have:=ow_gt d k z
      lia
    ·rintro⟨_,z,_⟩
     exact .inl #[by lia,Ci g i]
   ·have m:¬(e.last+1<=c/\c<=cX (e.last+D.near)):=λz=>by
     have:=B6 (e.last+D.near)
     lia
    constructor
    ·rintro(z|z)
     ·exact absurd z m
     ·have j:e.last<c:=by lia
      exact#[f,(nZ d k i g j).mpr z]
    ·rintro⟨_,z⟩
     exact .inr ((nZ d k i g z.1).mp z)
  ·rw[xf d k h1]
   exact#[(λz=>by cases z),λz=>by have:=z.2.1;lia]
 ·have:Zd D e a=[]:=by unfold Zd;rw[Jb f]
  rw[this]
  exact#[(λz=>by cases z),λz=>absurd z.1 f]
where
 ow_gt {D:Dr} {e:Kb} {a x:Int} (d:IK D) (k:Iq D e) (h:gS D e a=↑x):e.last+D.near<x:=by
  unfold gS at h;cases ew:e.wt with
  |none=>rw[ew]at h;cases h
  |some p=>
   obtain⟨y,w⟩:=p;rw[ew]at h
   have:=k.w y w ew
   simp only at h
   split at h
   ·injection h with h;lia
   ·cases h
theorem gX(d:IK D)(k:eQ D (D.kn.lookup nm))(f:c<=4095):zK D nm a c=aO c (zX D a (D.kn.lookup nm)):=by
 unfold zK;rw[Fb,decide_eq_true_eq];cases he:D.kn.lookup nm with
 |none=>
  have:zv D nm a c="":=by unfold zv;rw[he]
  rw[this]
  exact#[λz=>absurd z ⋯,λz=>by cases z]
 |some e=>
  rw[he]at k;rw[oy d.nf he]
  exact(Dq d k f).symm
end
end L3
namespace L3
open PySem PySem.Spec PyProof.Rows L2 SeqAt
section
variable{X:Cx}
theorem we{kx m tg d:Φ}{a:Scope}{h:List (Str×Δ)}{pos e p:Pos}{fr own:Α}{js:Κ}{q:TI}{g:TG}{tk tv:TE}{i:Nat}{y:Str}
  (hN:X.N.Nodup)(o:X.N[i]? =↑y)(hx:cH X.env.scope y)
  (hc:X.calm=true)(hi:QI X tg d q)(f:closureFor a X.env=pure h)(j:∀y c,h.lookup y=↑c->X.env.cells.lookup y=↑c)(n:h.map (·.1)=fr)
  (S:HP X a fr js)
  (hg:∀C s H fp,QG (zb X (own++fr) a h C s H fp) tg g)(hk:∀C s H fp,QE (zb X (own++fr) a h C s H fp) kx tk)(hv:∀C s H fp,QE (zb X (own++fr) a h C s H fp) m tv)
  (hs:∀x,foldedSetIterable d X.env x=pure x:=by intro _;rfl)(l:swapsWith (.DictComp kx m [#[tg,d,[],0]] a pos) ↑(.Name y p) e.line X.env=pure true:=by rfl)
  (hf:X.fn y=true\/X.env.scope.names.lookup y=some .local:=by first|exact .inl Z|exact .inr Z|assumption):
  QS X (.Assign [.Name y p] (.DictComp kx m [#[tg,d,[],0]] a pos) e) (bb (kI own.length js q g tk tv) (Qa i)):=
 #[yj hN o hx hc hi.h f j n S (λC s H fp=>(hg C s H fp).h) (λC s H fp=>(hk C s H fp).h) (λC s H fp=>(hv C s H fp).h) hs l hf]
theorem sO{K:ι}{js:Κ}{tk tv:TE}{σ:L2.St}{H:Hp}{Q:VK}{a:Δ}{xs:Ε}(hn:xs.length<=ζ)(Pv:Nat->List (qJ×V)->Hp->Prop)(l:Pv 0 [] H)(hl:∀i ys H,Pv i ys H->G0 K H a xs)
  (hs:∀i ys H x,xs[i]? =↑x->ys.length=i->Pv i ys H->tk (↑x::Qt js σ) H λu d=>∃k,u=kV k/\tv (↑x::Qt js σ) d λv j=>Pv (i+1) (HL ys k v) j/\(HL ys k v).length=i+1)
  (hd:∀ys H,Pv xs.length ys H->∀p,H p=none->Q (.ref p) (GW H p (.dK ys))):tO 1 js (Qa 0) tk tv σ Q (cB K a) H:=by
 refine#[λi m ys h H=>m=xs.length-i/\i<=xs.length/\ys.length=i/\Pv i ys H/\∃o,h=o::Qt js σ,#[xs.length,by simp,Jy _,Z,l,none,Z],?_]
 rintro i m ys h H ⟨rfl,hi,f,p,o,rfl⟩
 by_cases c:i<xs.length
 ·refine .inr #[#[xs,xs[i],hl _ _ _ p,by simp [c]],by lia,λx H' y=>?_]
  obtain⟨e,n⟩:H'=H/\xs[i]? =↑x:=#[y.1,y.2 xs (hl _ _ _ p)]
  subst e
  exact#[λk v d=>Pv (i+1) (HL ys k v) d/\(HL ys k v).length=i+1,λk v d g=>#[xs.length-(i+1),by lia,Z,c,g.2,g.1,_,Z],hs i ys _ x n f p]
 ·obtain rfl:i=xs.length:=by lia
  exact .inl #[#[xs,hl _ _ _ p,Jf _],hd ys H p]
inductive NB (x:V) (y:V) (H:Hp) (Q:VK):Prop
 |mk (a b:Δ) (bs cs:Υ) (h1:x= .ref a) (h2:y= .ref b) (h3:H a=↑(.lst (bs.map V.bl))) (h4:H b=↑(.lst (cs.map V.bl))) (h5:bs.length=cs.length) (h6:Q (.bl (decide (bs=cs))) H)
def DQ:R2:=λx y H Q=>NB x y H Q
theorem Aj{k:Nat}(hr:HB k X.A):zt X (compareOp .Eq) DQ:=by
 intro Oa s σ H x y v u Q I M F h;obtain⟨a,b,bs,c,rfl,rfl,B,R,S,q⟩:=h;cases M;cases F;obtain⟨d,o,N,_⟩:=I.list (G0.of (K:=X.K) B)
 obtain⟨g,n,p2,_⟩:=I.list (G0.of (K:=X.K) R)
 have t:=o.length;have J:=n.length;rw[Je]at t J;have T:X.A.units+2<cLine:=by have:=hr.un;lia
 have f:∀{zs:Υ} {i:Ζ},GZ (zs.map V.bl) i->∀j (h:j<i.length),i[j]= .bool (zs.getD j false):=λ{zs i} r j h=>by
  obtain⟨z,p,L⟩:=zR r (j:=j) h
  rw[Jn]at p;obtain⟨w,P,rfl⟩:=JZ.mp p;rw[Jz,P];exact L
 have e:=RcAt.lists (A:=X.A) (e:=λj=>bs.getD j false==c.getD j false) N.isList p2.isList (by simp;lia) (by lia) (λj h1 C=>by
  have m:j<d.length:=by simpa using h1
  have l:j<g.length:=by simpa using C
  simp only[List.getElem_toArray];rw[f o j m,f n j l]
  have:=Cn (A:=X.A.in1) (s:=s) (y:= .bl (bs.getD j false)) (x:= .bl (c.getD j false)) Z Z Z Z
  have O:Ea (.bl (bs.getD j false)) (.bl (c.getD j false))=(bs.getD j false==c.getD j false):=by
   cases bs.getD j false<;>cases c.getD j false<;>rfl
  rw[O]at this;exact this)
 have G:((List.range d.toArray.size).all λj=>bs.getD j false==c.getD j false)=decide (bs=c):=by
  rw[Jr,<- t];rw[Fb,decide_eq_true_eq,FC];refine#[λh1=>?_,λh=>?_]
  ·refine List.ext_getElem S λj E D=>?_
   have:=eq_of_beq (h1 j (J1.mpr (by lia)))
   rw[Jz,Jz,Jg E,Jg D]at this;exact this
  ·subst h
   exactλj _=>Fu _
 rw[G]at e;exact e _ _ _ _ #[.bl _,H,I,Z,q]
end
def Qu:Dr->qZ->Dr
 |D,[]=>D
 |D,z::r=>Qu {D with kn:=Hj D z.1 z.2.1 z.2.2} r
def qQ:Dr->qZ->Υ
 |_,[]=>[]
 |D,z::r=>zK D z.1 z.2.1 z.2.2::qQ {D with kn:=Hj D z.1 z.2.1 z.2.2} r
section
variable{D:Dr}
theorem il(zs:qZ)(z:Str×Int×Int):Qu D (zs++[z])={Qu D zs with kn:=Hj (Qu D zs) z.1 z.2.1 z.2.2}:=by
 induction zs generalizing D with
 |nil=>rfl
 |cons y r ih=>exact ih
theorem Q9(zs:qZ)(z:Str×Int×Int):qQ D (zs++[z])=qQ D zs++[zK (Qu D zs) z.1 z.2.1 z.2.2]:=by
 induction zs generalizing D with
 |nil=>rfl
 |cons y r ih=>show _::qQ _ (r++[z])=_;rw[ih];rfl
theorem lF(zs:qZ):Qu D zs={D with kn:=(Qu D zs).kn}:=by
 induction zs generalizing D with
 |nil=>rfl
 |cons y r ih=>show Qu _ r=_;rw[ih];rfl
theorem ZH(zs:qZ):(qQ D zs).length=zs.length:=by
 induction zs generalizing D with
 |nil=>rfl
 |cons y r ih=>show(_::qQ _ r).length=_;rw[JN,ih];rfl
theorem kC(ok:Ik D)(zs:qZ):Ik (Qu D zs):=by
 induction zs generalizing D with
 |nil=>exact ok
 |cons y r ih=>exact ih (ok.hearK y.1 y.2.1 y.2.2)
theorem xz{e:Kb}{nm:Str}{a c:Int}(i:D.near<=D.far)(he:D.kn.lookup nm=↑e):decide ((zh D e a c).1="near")=zK D nm a c:=by
 unfold zK;have w:=oy (a:=a) (c:=c) i he
 refine decide_eq_decide.mpr ?_
 rw[w];unfold zh zr pL
 by_cases d:qR D e a=true
 ·rw[Jc d]
  by_cases h1:c<=e.last
  ·rw[Jc h1]
   exact#[λz=>absurd z (show¬(("old":Str)="near") by decide),λz=>absurd z.2.1 (by lia)]
  ·rw[Jb h1]
   by_cases f:c<=e.last+D.near
   ·rw[Jc f]
    exact#[λ_=>#[d,by lia,.inl f],λ_=>rfl]
   ·rw[Jb f]
    by_cases h:c<=e.last+D.far
    ·rw[Jc h]
     by_cases g:e.wt=↑(a,c-1)
     ·rw[Jc g]
      exact#[λ_=>#[d,by lia,.inr #[h,g]],λ_=>rfl]
     ·rw[Jb g]
      exact#[λz=>absurd z (show¬(("far":Str)="near") by decide),λz=>by rcases z.2.2 with y|y;exact absurd y f;exact absurd y.2 g]
    ·rw[Jb h]
     exact#[λz=>absurd z (show¬(("beyond":Str)="near") by decide),λz=>by rcases z.2.2 with y|y;exact absurd y f;exact absurd y.1 h]
 ·rw[Jb d]
  exact#[λz=>absurd z (show¬(("age":Str)="near") by decide),λz=>absurd z.1 d]
theorem CY{nm:Str}{a c:Int}(he:D.kn.lookup nm=none):zK D nm a c=false:=by
 unfold zK zv;rw[he];exact Jo (show¬(("":Str)="open") by decide)
theorem tH{e:Kb}{nm:Str}{a c:Int}(f:(D.kn.map (·.1)).Nodup)(he:D.kn.lookup nm=↑e):Hj D nm a c=zc D.kn nm (zh D e a c).2:=by
 unfold Hj zk zh;rw[he];simp only
 by_cases d:qR D e a=true
 ·rw[Jc d,Jc d]
  split<;>rfl
 ·rw[Jb d,Jb d]
  exact(ji f he).symm
theorem kQ(bs:Υ):Qd (bs.map V.bl) none ↑(-1)=bs.dropLast.map V.bl:=by
 unfold Qd;have e:HT.sIx (bs.map V.bl).length (bs.map V.bl).length ↑(-1)=bs.length-1:=by
  rw[Je]
  show(if(-1:Int)<0 then(-1+(bs.length:Int)).toNat else min (-1:Int).toNat bs.length)=_
  rw[Jc ⋯]
  lia
 rw[e]
 show((bs.map V.bl).drop 0).take (bs.length-1-0)=_
 rw[List.drop_zero,Nat.sub_zero,List.dropLast_eq_take,List.map_take]
theorem n9{bs:Υ}(h:0<bs.length):∃x:Bool,bs.getLast? =↑x/\zY (bs.map V.bl) (-1)=↑(.bl x):=by
 have a:bs[bs.length-1]? =some bs[bs.length-1]:=Jg (by lia)
 refine#[bs[bs.length-1],by rw[List.getLast?_eq_getElem?,a],?_]
 unfold zY Z1;rw[Je,Jb ⋯,Jc (by lia)]
 show(bs.map V.bl)[(-1+(bs.length:Int)).toNat]? =_
 rw[show(-1+(bs.length:Int)).toNat=bs.length-1 by lia,Jn,a];rfl
theorem AI{H:Hp}{d:Δ}{c:Α}{g:Str->Δ}(h:(D.kn.map (·.1)).Nodup)(pm:c.Perm (D.kn.map (·.1)))(hd:H d=↑(.dK (c.map λnm=>(Sum.inr nm,V.ref (g nm)))))(hg:∀nm∈c,∀e,D.kn.lookup nm=↑e->HS H (g nm) e):II H d D.kn:=by
 have look:∀e∈D.kn,D.kn.lookup e.1=↑e.2:=λe a=>by
  obtain⟨b,f⟩:=Gg.mp (Hg.mpr (Jt.mpr #[e,a,Z]))
  rw[f,QV h f e a Z]
 refine#[(c.map λnm=>(nm,(D.kn.lookup nm).getD #[0,0,none]),g),?_,λe a=>hg e.1 (pm.mem_iff.mpr (Jt.mpr #[e,a,Z])) e.2 (look e a),?_,h]
 ·rw[hd]
  unfold cU;rw[ET];rfl
 ·refine(pm.map _).trans ?_
  rw[ET]
  have:D.kn.map ((λnm=>(nm,(D.kn.lookup nm).getD #[0,0,none]))∘λx=>x.1)=D.kn:=by
   conv=>rhs;rw[<- List.map_id D.kn]
   refine FJ λe a=>?_
   show(e.1,(D.kn.lookup e.1).getD #[0,0,none])=e
   rw[look e a];rfl
  rw[this]
end
def Qn(D D':Dr)(zs:qZ):Bool:=decide ((qQ D zs).dropLast=(qQ D' zs).dropLast)&& ! decide ((qQ D zs).getLast? =(qQ D' zs).getLast?)
end L3
namespace L3
open PySem PySem.Spec PyProof.Rows L2
theorem Bd{X:Cx}{K:ι}(a:X.K=K){pos:Pos}{es:Ι}{k:Nat}{t:Zw}(n:Nat)(hc:X.calm=true)(h:Nv X es t)(hn:(assignEach es X.env).length=n:=by rfl)(hst:(assignEach es X.env).findIdx? (·.1)=none:=by rfl):QG X (.Tuple es k pos) (sX K n t):=by
 subst a
 exact#[uM (hc:=hc) (h:=h.h) (hn:=hn) (hst:=hst)]
theorem rT{K:ι}{js:Κ}{te:TE}{σ:L2.St}{H:Hp}{Q:VK}{a:Δ}{xs:Ε}(hn:xs.length<=ζ)(Pv:Nat->Ε->Hp->Prop)(r:Pv 0 [] H)(hl:∀i ys H,Pv i ys H->G0 K H a xs)
  (hs:∀i ys H x,xs[i]? =↑x->ys.length=i->Pv i ys H->∃p h g,x= .ref p/\Sq K H p [h,g]/\te (↑h::↑g::Qt js σ) H λv f=>Pv (i+1) (ys++[v]) f)
  (hd:∀ys H,ys.length=xs.length->Pv xs.length ys H->∀p,H p=none->Q (.ref p) (GW H p (.lst ys))):
  sS 2 js (sX K 2 (jZ (Qa 0) (jZ (Qa 1) vP))) te σ Q (cB K a) H:=by
 refine#[λi m zs j H=>m=xs.length-i/\i<=xs.length/\zs.length=i/\Pv i zs H/\∃o o',j=o::o'::Qt js σ,#[xs.length,by simp,Jy _,Z,r,none,none,Z],?_]
 rintro i m zs j H ⟨rfl,hi,c,p,o,o',rfl⟩
 by_cases d:i<xs.length
 ·refine .inr #[#[xs,xs[i],hl _ _ _ p,by simp [d]],by lia,λx H' y=>?_]
  obtain⟨e,t⟩:H'=H/\xs[i]? =↑x:=#[y.1,y.2 xs (hl _ _ _ p)]
  subst e;obtain⟨q,h,g,rfl,s,l⟩:=hs i zs _ x t c p;refine#[q,_,Z,s,Z,_,_,Z,_,_,Z,Z,?_]
  exact#[λv f=>Pv (i+1) (zs++[v]) f,λv f n=>#[xs.length-(i+1),by lia,Z,d,by simp [c],n,_,_,Z],l]
 ·have e:i=xs.length:=by lia
  subst e;exact .inl #[#[xs,hl _ _ _ p,Jf _],hd zs H c p]
section
variable{X:Cx}
inductive MO (x:V) (vs:Ε) (H:Hp) (Q:VK):Prop
 |mk (l:Δ) (xs:Ε) (i:Int) (y:V) (h1:x= .ref l) (h2:vs=[.int i,y]) (h3:H l=↑(.lst xs)) (h4:0<=i) (h5:i<=xs.length) (h6:xs.length<ζ) (h7:Q .non (GW H l (.lst (xs.take i.toNat++y::xs.drop i.toNat))))
def AK:V->Ε->Hp->VK->Prop:=λx vs H Q=>MO x vs H Q
theorem iP:gw X "list.insert" AK:=by
 intro Oa s σ H x vs v E Q I j w h;obtain⟨l,xs,i,y,rfl,rfl,f,A,hk,B,q⟩:=h;cases j;obtain⟨C,u,rfl,d,p⟩:=w.two;obtain⟨t,rfl⟩:=d;obtain⟨z,a,n,r,D,e⟩:=I.lstM f;have c:a.length<ζ:=by lia
 have o:i<2 ^ 63:=by have:a.length<ζ:=c;rw[Ju]at this;lia
 have m:¬(!γ.List.listFitsIndex i)=true:=by rw[fitsIndex_both (by lia) o];decide
 refine FG F.slot_list_insert #[_,e,Z] F.entry_list_insert (F.args_list_insert_3 _ _ _) (PySem.AutoSeq1.list_insert_list_int_val_1 l a.toArray n i t u m (by rw[Jr];lia)) #[e,?_]
 refine#[.non,_,I.lset (its':=a.take i.toNat++u::a.drop i.toNat) f e ?_ ((r.take i.toNat).append (.cons p (r.drop i.toNat))) ?_,Z,q]
 ·simp only[Jr]
  have g:min i.toNat a.length=i.toNat:=by lia
  rw[Jb (by lia),g]
  apply Array.ext'
  simp [Gn]
 ·rw[Jv,JN,EX,FF]
  lia
end
section
variable{H:Hp}
theorem ub{p q:Δ}{h:Α}{kn:Kw}(h1:Lv H p h kn)(h2:Lv H q h kn)(hs:∀nm∈h,nm∈kn.map (·.1))(hl:h.length<=60):LF H 3 (.ref p) (.ref q):=by
 obtain⟨B,n,l,t⟩:=h1;obtain⟨bs,w,s,A⟩:=h2;refine .tup (.inl n) (.inl w) (by simp [l,s]) (by rw[Je,l,Ju];lia) λi x y ex c=>?_
 rw[Jn]at ex c;cases q1:B[i]? with
 |none=>rw[q1]at ex;cases ex
 |some a=>
  cases q2:bs[i]? with
  |none=>rw[q2]at c;cases c
  |some b=>
   rw[q1]at ex;rw[q2]at c;cases ex;cases c
   have hi:i<h.length:=by rw[<- l];exact(Js.mp q1).1
   have m:=Jg hi;obtain⟨e,g⟩:=Q3 (hs _ (Fi hi))
   obtain⟨r,u,d⟩:=t i a _ e q1 m g;obtain⟨C,z,f⟩:=A i b _ e q2 m g;refine .tup (.inl u) (.inl z) Z (by show 4<=ζ;decide) λj x y ex c=>?_
   match j,ex,c with
   |0,ex,c=>cases ex;cases c;exact .str _ _
   |1,ex,c=>cases ex;cases c;exact .int _ _
   |2,ex,c=>cases ex;cases c;exact .int _ _
   |3,ex,c=>
    cases ex;cases c
    cases hw:e.wt with
    |none=>
     rw[hw]at d f;have d:r= .non:=d
     have f:C= .non:=f
     rw[d,f];exact .non _
    |some xc=>
     rw[hw]at d f;obtain⟨D,rfl,v⟩:=d;obtain⟨E,rfl,o⟩:=f;exact LF.ints (ns:=[xc.1,xc.2]) (.inl v) (.inl o) (by show 2<=ζ;decide)
   |j+4,ex,c=>cases ex
end
theorem y9{a:Η}{H H':Hp}{p:Δ}{xs:Ε}(h:Sq [] H p xs)(m:Mv a H H')(nt:NT a H)(hp:p∉a):Sq [] H' p xs:=by
 rcases h with h|h
 ·rcases h with h|h
  ·rcases h with h|⟨o,h⟩
   ·exact .inl (.inl (.inl (m _ _ hp h)))
   ·exact .inl (.inl (.inr #[o,m _ _ hp h]))
  ·exact .inl (.inr h)
 ·exact .inr (m.sqt nt h)
section
variable{K:ι}{H H':Hp}{a:Δ}{xs:Ε}
def LA(H:Hp)(a:Δ)(H':Hp):Prop:=∃c,Mv c H H'/\NT c H/\a∉c
theorem LA.refl:LA H a H:=#[[],λ_ _ _ e=>e,cI,λh=>nomatch h]
theorem LA.sql(s:LA H a H')(h:G0 [] H a xs):G0 K H' a xs:=by
 obtain⟨c,m,nt,d⟩:=s;rcases h with(h|⟨o,h⟩)|⟨o,e,n,h,_⟩
 ·exact .inl (.inl (m _ _ d h))
 ·exact .inl (.inr #[o,m _ _ d h])
 ·cases h
theorem LA.sqt(s:LA H a H')(h:G9 [] H a xs):G9 K H' a xs:=by
 obtain⟨c,m,nt,e⟩:=s;rcases h with h|⟨o,d,n,h,_⟩
 ·exact .inl (m.rd nt h)
 ·cases h
end
def Qy(X:Cx)(N:Α)(a:Scope)(x0:Str)(c:List (Str×Δ))(C:Δ)(s:Θ)(H:Hp)(fp:Η):Cx:=
 {X with N:=N,s₀:=s,H₀:=H,env:=compEnvC a c C X.env,outer:=X.stack,ex:=fp,fn:=λy=>y==x0,pn:=[],xe:=λ_ _=>False}
structure Lf(X:Cx)(scope:Scope)(x0:Str)(fr:Α)(js:Κ):Prop where
 kind:scope.kind= .function
 names:∀x∈scope.names,x.2= .local->scope.names.lookup x.1=some .local
 cells:∀n acc,cellsFrom n scope.names acc=(x0,n)::acc
 push:∀h,pushCells h scope.names=h.push {cls:= .type "cell",data:= .cell none}
 cell1:∀x∈scope.names,x.2= .cell->x.1=x0
 free:∀x∈scope.names,x.2= .free->x.1∈fr
 nx:x0∉fr
 len:js.length=fr.length
 at_:∀(i j:Nat) (y:Str),js[i]? =↑j->fr[i]? =↑y->X.N[j]? =↑y/\X.env.kindOf y=some .cell/\(relabel scope X.env).names.lookup y=some .cell
theorem Dy{X:Cx}{N:Α}{a:Scope}{x0:Str}{f:List (Str×Δ)}{C:Δ}{s s':Θ}{H H':Hp}{fp:Η}{pl:GR}{d:L2.St}(I:L2.GX (Qy X N a x0 f C s H fp) pl d H' s'):L2.GX (zb X N a f C s H fp) pl d H' s':=
 #[#[I.ok.mod,I.ok.kind,I.ok.glob,I.ok.blt,I.ok.above,I.ok.inj,I.ok.has,λx c e=>(nomatch e),I.ok.hd,I.ok.frames,I.ok.stk,I.ok.exf,I.ok.bs,I.ok.bsz,I.ok.noex,I.ok.exfs,I.ok.funs,I.ok.frf],I.os,I.bare,I.base,I.loc,I.cell,I.free,I.freeC,I.pin,I.hok,I.len]
theorem Ch{M:Model}{A:Around}{E:GP}{s:Θ}{a:Scope}{m:List (Str×Δ)}{Ob:Str}{c:Δ}{d:Env}{x0:Str}{Q:Env->Θ->Prop}
  (e:∀n g,cellsFrom n a.names g=(x0,n)::g)(f:∀h,pushCells h a.names=h.push {cls:= .type "cell",data:= .cell none})
  (l:Q (newEnv a s.heap.objs.size c ((x0,s.heap.objs.size+1)::m) Ob none .none ↑d builtinsNs) {s with heap:=(s.heap.push {cls:= .type "dict",data:= .dict (List.toArray [])}).push {cls:= .type "cell",data:= .cell none}}):
  ε M A (newFunctionEnv a c m [] Ob none .none ↑d) Q E s:=by
 simp only[newFunctionEnv,Option.isSome_some,Fc];simp only[newEnv]at l;refine Ja (wpAny_alloc ?_)
 refine Ja (wpAny_layCells _ (λname i j=>by cases hkc:i==NameKind.cell<;>simp [hkc]) _ _ _ _ ?_)
 rw[e,f];rw[show({s with heap:=s.heap.push {cls:= .type "dict",data:= .dict (List.toArray [])}}:Θ).heap.objs.size=s.heap.objs.size+1 from JX ..]
 refine Ja ?_
 rw[List.forIn_nil];exact Jd (Jd l)
section
variable{X:Cx}
theorem uU{a:Scope}{B:List (Str×Δ)}{x0:Str}{C:Δ}{fr own:Α}{js:Κ}{Oa:GR}{d:Θ}{σ:L2.St}{M:Hp}{tg:Φ}{J:It}{fp:Η}{it:Δ}{tn:Nat->Ψ->Prop}{w:Ψ}{g:Nat}{m:GQ}
  (t:∀y c,B.lookup y=↑c->X.env.cells.lookup y=↑c)(O:B.map (·.1)=fr)(S:Lf X a x0 fr js)(b3:@Eq Nat C (d.heap.objs.size+2))(a8:w.IsCell C none)(b4:own.length=1)(b2:own[0]? =↑x0)(f:L2.GX X Oa σ M d)(T:Lh X.prog X.w X.K tg J fp it tn)(a3:tn 0 d.heap)(U:∀b∈fp,Qq X Oa M b)
  (hC:g=d.heap.objs.size+1)(I:∀b o,d.heap.get? b=↑o->w.get? b=↑o)(H:w.Ns g m):
  (∀b∈fp,b<d.heap.objs.size)/\L2.GX (Qy X (own++fr) a x0 ((x0,C)::B) g d M fp) [] (σ0 own.length js σ) M {d with heap:=w,toks:=d.toks+([]:List (Str×Γ)).length}/\d.heap.objs.size∉ar X.stack/\(∀x c,((x0,C)::B).lookup x=↑c->c≠d.heap.objs.size)/\
  ∀{H':Hp} {pl:GR},(∀b∈fp,H' b=none)->(∀p∈pl,p.1=d.heap.objs.size)->∀b∈fp,Qq (Qy X (own++fr) a x0 ((x0,C)::B) g d M fp) pl H' b:=by
 have A:∀b,b<d.heap.objs.size->b≠g/\b≠d.heap.objs.size:=λb h=>#[by rw[hC];exact Jk (EY h),Jk h]
 let Y:Cx:=Qy X (own++fr) a x0 ((x0,C)::B) g d M fp
 have r:∀b∈fp,b<d.heap.objs.size:=λb h=>by obtain⟨o,e,_⟩:=T.obj _ _ a3 b h;exact Jj e
 have look:∀x c,((x0,C)::B).lookup x=↑c->(x=x0/\c=C)\/(B.lookup x=↑c/\c<d.heap.objs.size):=λx c e=>by
  rw[J7]at e;cases h:x==x0 with
  |true=>rw[h]at e;cases e;exact .inl #[JW.mp h,Z]
  |false=>
   rw[h]at e;obtain⟨v,oc,D,_⟩:=f.cell x c (t x c e)
   exact .inr #[e,Jj D]
 have W:(Qy X (own++fr) a x0 ((x0,C)::B) g d M fp).Ok:=by
  refine#[f.ok.mod,S.kind,f.ok.glob,f.ok.blt,by show d.heap.objs.size<=g;lia,?_,?_,?_,f.ok.hd,f.ok.frames,.inl Z,?_,f.bs,JG f.ok.bsz f.sz,?_,?_,f.stack,f.stkFree]
  ·intro x y c e1 e2
   rcases look x c e1 with⟨rfl,rfl⟩|⟨q1,g1⟩<;>rcases look y _ e2 with⟨rfl,h2⟩|⟨q2,g2⟩
   ·rfl
   ·exact absurd g2 (Nat.not_lt.mpr (by lia))
   ·subst h2;exact absurd g1 (Nat.not_lt.mpr (by lia))
   ·exact f.ok.inj x y c (t x c q1) (t y c q2)
  ·intro x hx
   have b0:(relabel a X.env).names.lookup x=some .cell\/(relabel a X.env).names.lookup x=some .free:=hx
   have a0:∀kk:NameKind,(kk= .cell\/kk= .free)->(relabel a X.env).names.lookup x=↑kk->x=x0\/∃k,(x,k)∈a.names/\k= .free:=by
    intro kk hk el;obtain⟨⟨n,k⟩,s,e⟩:=Jt.mp (FA el)
    dsimp only at e
    split at e
    ·rename_i F
     cases e;refine .inr #[k,s,?_]
     simp only[JC,JW]at F;exact F.1.1
    ·cases e
     rcases hk with z|z
     ·subst z;exact .inl (S.cell1 _ s Z)
     ·exact .inr #[_,s,z]
   have hm:x=x0\/∃k,(x,k)∈a.names/\k= .free:=by
    rcases b0 with z|z
    ·exact a0 _ (.inl Z) z
    ·exact a0 _ (.inr Z) z
   show∃c,((x0,C)::B).lookup x=↑c
   rcases hm with rfl|⟨k,s,hk⟩
   ·exact#[C,by rw[J7,Fu]]
   ·obtain⟨c,hc⟩:=zL (l:=B) (by rw[O];exact S.free _ s hk)
    refine#[c,?_]
    rw[J7]
    have:(x==x0)=false:=E9.mpr λz=>S.nx (z▸S.free _ s hk)
    rw[this];exact hc
  ·intro x c e1 e2
   show d.heap.objs.size<=c
   rcases look x c e2 with⟨_,rfl⟩|⟨q,_⟩
   ·lia
   ·exact absurd (Jt.mpr #[_,FA q,JW.mp e1]) (by rw[O];exact S.nx)
  ·refineλb h=>#[?_,λx c e=>by
    rcases look x c e with⟨_,rfl⟩|⟨q,_⟩
    ·exactλz=>absurd (r b h) (Nat.not_lt.mpr (by have z:@Eq Nat c b:=z;lia))
    ·exact(U b h).2.2.2.2.1 x c (t x c q)]
   show b≠g
   exact(A b (r b h)).1
  ·intro b o e h
   rcases(U b h).2.2.2.1 with z|z
   ·exact f.ok.noex b o e z
   ·exact absurd (JO (Jj e) (JG f.ok.bsz z)) (EU _)
  ·intro b h hf
   rcases Jm.mp (f.stkSub b hf)with z|z
   ·exact(U b h).2.1 z
   ·exact(U b h).2.2.1 z
 have Q:(σ0 own.length js σ).length=(own++fr).length:=by unfold σ0;simp [S.len]
 have IY:GX Y [] (σ0 own.length js σ) M {d with heap:=w,toks:=d.toks+([]:List (Str×Γ)).length}:=by
  refine#[W,Z,f.bare,Un.kept I,#[_,H,?_],?_,?_,?_,λp hp=>absurd (show p∈([]:GR)from hp) (by simp),f.hok.kept I,Q]
  ·intro i x v hN L _
   have K:(own++fr)[i]? =↑x:=hN
   unfold σ0 at L
   by_cases P:i<own.length
   ·rw[JT (by simpa using P),List.getElem?_replicate]at L
    split at L<;>cases L
   ·rw[JY (by simpa using F7 P),Gw,Jn]at L
    rw[JY (F7 P)]at K;cases ej:js[i-own.length]? with
    |none=>rw[ej]at L;cases L
    |some j=>
     rw[ej]at L;have a6:σ[j]? =↑(↑v):=by
      have G:(σ[j]?).join=↑v:=JA L
      cases q:σ[j]? with
      |none=>rw[q]at G;cases G
      |some o=>rw[q]at G;have:o=↑v:=G;rw[this]
     obtain⟨a5,hk,a4⟩:=S.at_ _ j x ej K;obtain⟨m,hn,hl⟩:=f.loc;obtain⟨u,ru,lk⟩:=hl j x v a5 a6 (.inr (.inl hk))
     refine#[u,ru,.inr ?_]
     rcases lk with⟨k1,_⟩|⟨_,c,ec,ic⟩
     ·rw[hk]at k1;cases k1
     ·obtain⟨c',a1⟩:=zL (y:=x) (l:=B) (by rw[O];exact JP K)
      have:c'=c:=by have:=t x c' a1;rw[ec]at this;exact(JA this).symm
      subst this;have b1:(x==x0)=false:=E9.mpr λz=>S.nx (z▸JP K)
      refine#[?_,c',(by show((x0,C)::B).lookup x=↑c';rw[J7,b1];exact a1),?_]
      ·show(relabel a X.env).names.lookup x=some .cell\/(relabel a X.env).names.lookup x=some .free
       exact .inl a4
      ·obtain⟨oc,D,hd⟩:=ic
       exact#[oc,I _ _ D,hd]
  ·intro x c e
   rcases look x c e with⟨_,rfl⟩|⟨q,_⟩
   ·exact#[none,a8]
   ·obtain⟨v,oc,D,hd⟩:=f.cell x c (t x c q)
    exact#[v,oc,I _ _ D,hd]
  ·exact f.hok.fresh (by show d.heap.objs.size<=g;lia)
  ·intro x c e
   rcases look x c e with⟨_,rfl⟩|⟨q,_⟩
   ·exact f.hok.fresh (by lia)
   ·exact f.freeC x c (t x c q)
 have N:d.heap.objs.size∉ar X.stack:=λhf=>by
  rcases Jm.mp (f.stkSub _ hf)with z|z
  ·exact absurd (by rw[<- z];exact Jf _:d.heap.objs.size<=X.env.locals) (Nat.not_le.mpr f.lt)
  ·exact f.nofs (Jf _) z
 have E:∀x c,((x0,C)::B).lookup x=↑c->c≠d.heap.objs.size:=λx c e=>by
  rcases look x c e with⟨_,rfl⟩|⟨q,l⟩
  ·exactλz=>absurd (show @Eq Nat c d.heap.objs.size from z) (by lia)
  ·exact Jk l
 have a2:∀{H':Hp} {pl:GR},(∀b∈fp,H' b=none)->(∀p∈pl,p.1=d.heap.objs.size)->∀b∈fp,Qq Y pl H' b:=λ{H' pl} hn hp b h=>
  #[hn b h,(A b (r b h)).1,W.exfs b h,.inl h,λx c e=>by
   rcases look x c e with⟨_,rfl⟩|⟨q,_⟩
   ·exactλz=>absurd (r b h) (Nat.not_lt.mpr (by have z:@Eq Nat c b:=z;lia))
   ·exact(U b h).2.2.2.2.1 x c (t x c q),λp a7=>by
   have R:p∈pl:=by simpa [Y,Qy]using a7
   rw[hp p R];exact Ne.symm (A b (r b h)).2]
 exact#[r,IY,N,E,a2]
theorem tW{a4 tg l:Φ}{a:Scope}{cl:List (Str×Δ)}{x0:Str}{pos b7:Pos}{fr own:Α}{js:Κ}{wi:TI}{g:TG}{te:TE}{use:Option (Γ->Sem Unit)}{Post:GP}
  {Oa:GR}{s:Θ}{σ:L2.St}{H:Hp}{Q:VK}
  (hc:X.calm=true)(hi:PI X tg l wi)(a1:closureFor a X.env=pure cl)(d1:∀y c,cl.lookup y=↑c->X.env.cells.lookup y=↑c)(d7:cl.map (·.1)=fr)
  (S:Lf X a x0 fr js)(d6:own.length=1)(c4:own[0]? =↑x0)
  (hg:∀C c0 s H fp,PG (Qy X (own++fr) a x0 ((x0,c0)::cl) C s H fp) tg g)(he:∀C c0 s H fp,PE (Qy X (own++fr) a x0 ((x0,c0)::cl) C s H fp) a4 te)
  (hs:∀x,foldedSetIterable l X.env x=pure x)
  (I:L2.GX X Oa σ H s)(h:aR own.length js wi g te σ H Q)
  (b8:∀(b0 C:Δ) (s5:Θ) (H':Hp) (m:GQ),L2.GX X Oa σ H' s5->s5.heap.Ns C m->Mm X Oa H' C->Q (.ref b0) H'->compPost (model X.prog X.w) X.A X.xe use Post (.ref b0) C (.ok .next) s5):
  ε (model X.prog X.w) X.A (comprehension (.ListComp a4 [#[tg,l,[],0]] a pos) a X.env b7 (newList []) false (eval l X.env) use) Post X.xe s:=by
 refine wpAny_comprehension_free (use:=use) Z hs a1 S.kind S.names (qz (hi Oa s σ H _ I h) λv s1 h1=>qz h1 λd9 f h2=>?_)
 obtain⟨it,fp,tn,J,H2,e,I2,T,b5,f2,W,⟨m0,w0⟩,b6⟩:=h2;subst e;refine J3 (Ch S.cells S.push ?_)
 dsimp only
 generalize hH2:f.heap.push {cls:= .type "list",dict:=none,data:= .seq ([]:Ζ).toArray}=G
 have q:((G.push {cls:= .type "dict",data:= .dict (List.toArray [])}).push {cls:= .type "cell",data:= .cell none}).Ns G.objs.size (λ_=>none):=(Ψ.Ns.new G (.type "dict")).keeps λb o e=>Jl _ e
 have D:∀b o,G.get? b=↑o->((G.push {cls:= .type "dict",data:= .dict (List.toArray [])}).push {cls:= .type "cell",data:= .cell none}).get? b=↑o:=λb o e=>Jl _ (Jl _ e)
 have c2:((G.push {cls:= .type "dict",data:= .dict (List.toArray [])}).push {cls:= .type "cell",data:= .cell none}).IsCell (G.objs.size+1) none:=#[_,by
  have:((G.push {cls:= .type "dict",data:= .dict (List.toArray [])}).push {cls:= .type "cell",data:= .cell none}).get? (G.push {cls:= .type "dict",data:= .dict (List.toArray [])}).objs.size=some {cls:= .type "cell",data:= .cell none}:=Jq _ Z
  rwa [JX]at this,Z]
 generalize ((G.push {cls:= .type "dict",data:= .dict (List.toArray [])}).push {cls:= .type "cell",data:= .cell none})=w at q D c2⊢
 have hC:G.objs.size=f.heap.objs.size+1:=by rw[<- hH2,JX]
 have a5:f.heap.objs.size≠G.objs.size:=by rw[hC];exact Jk (E2 _)
 have a6:∀b,b<f.heap.objs.size->b≠G.objs.size/\b≠f.heap.objs.size:=λb t=>#[by rw[hC];exact Jk (EY t),Jk t]
 have c1:∀b o,f.heap.get? b=↑o->w.get? b=↑o:=λb o e=>D b o (hH2▸Jl _ e)
 have R:w.get? f.heap.objs.size=some {cls:= .type "list",data:= .seq ([]:Ζ).toArray 0}:=D _ _ (hH2▸Jq _ Z)
 let Y:Cx:=Qy X (own++fr) a x0 ((x0,G.objs.size+1)::cl) G.objs.size f H2 fp
 obtain⟨b1,IY,E,A,a0⟩:=uU (own:=own) (js:=js) d1 d7 S (by rw[hC]) c2 d6 c4 I2 T b5 f2 hC c1 q
 have O:∀j:Θ,GX Y [] (σ0 own.length js σ) H2 j->tn 0 j.heap->j.heap.get? f.heap.objs.size=some {cls:= .type "list",data:= .seq ([]:Ζ).toArray 0}->
   codeAny (model X.prog X.w) X.A (.compLoop (.ListComp a4 [#[tg,l,[],0]] a pos) 0 (.ref it) (.ref f.heap.objs.size) (compEnvC a ((x0,G.objs.size+1)::cl) G.objs.size X.env))
    (compPost (model X.prog X.w) X.A X.xe use Post (.ref f.heap.objs.size) G.objs.size) j:=by
  intro j I3 d4 d2;refine cR (λn s'=>∃i ys τ H' d k,GX Y [(f.heap.objs.size,{cls:= .type "list",data:= .seq d.toArray k})] τ H' s'/\tn i s'.heap/\(∀b∈fp,H' b=none)/\GZ ys d/\ys.length<=ζ/\W i n ys τ H') ?_ m0 ?_
  ·rintro n s4 ⟨i,ys,τ,H4,d,k,I4,a8,b4,vl,hz,w4⟩
   have d8:=I4.pin (f.heap.objs.size,{cls:= .type "list",data:= .seq d.toArray k}) (by simp [Y,Qy])
   rcases b6 i n ys τ H4 w4 with⟨b3,qn⟩|⟨go,e0,step⟩
   ·refine qz (T.done Y Z Z Z hc i _ s4 τ H4 _ I4 (a0 b4 (by simp)) a8 b3) λr s5 L=>?_
    obtain⟨hr,I5⟩:=L;subst hr
    show compPost _ _ _ _ _ _ _ _ _
    obtain⟨m5,d0,_⟩:=I5.loc;have P:=I5.pin (f.heap.objs.size,{cls:= .type "list",data:= .seq d.toArray k}) (by simp [Y,Qy])
    have U:H4 f.heap.objs.size=none:=P.2.1
    have B:=I5.base;have nC:H4 G.objs.size=none:=I5.free
    obtain⟨z1,z2⟩:=b9 (ob:= .lst ys) I2 f2 hC (Dy I5) U #[hz,d,k,vl,P.1]
    exact b8 f.heap.objs.size G.objs.size s5 (GW H4 f.heap.objs.size (.lst ys)) m5 z1 d0 z2 (qn _ U)
   ·refine qz (T.item Y Z Z Z hc i _ s4 τ H4 _ I4 (a0 b4 (by simp)) a8 go) λr s5 L=>?_
    obtain⟨u,hr,h5⟩:=L;subst hr;refine qz h5 λ_ s6 L=>?_
    obtain⟨x,H6,I6,r6,y6,a2,d3⟩:=L;have d5:=I6.pinned (a0 d3 (by simp)) (T.obj _ _ a2)
    refine qz (hg _ _ _ _ _ _ s6 τ H6 x u _ d5 r6 (step x H6 y6)) λ_ s7 L=>?_
    obtain⟨a3,H7,I7,N,hN,q7⟩:=L;refine qz (he _ _ _ _ _ _ s7 a3 H7 _ I7 q7) λv' s8 L=>?_
    obtain⟨y,H8,I8,r8,n8⟩:=L;obtain⟨m',c3,w8⟩:=hN _ _ n8;have F:=I8.pin (f.heap.objs.size,{cls:= .type "list",data:= .seq d.toArray k}) (by simp [Qy])
    have K:∀b∈fp,∀o,s6.heap.get? b=↑o->s8.heap.get? b=↑o/\H8 b=none:=λb t o e=>by
     have:=I8.pin (b,o) (JV _ (JV _ (Qk t e)))
     exact#[this.1,this.2.1]
    refine wpAny_list_append_plain (items:=d.toArray) #[k,F.1] (λh' M b2=>?_) (by have:=vl.length;simp;lia)
    obtain⟨k',M⟩:=M;have I9:GX Y [] a3 H8 {s8 with heap:=h'}:=by
     refine(I8.pins_of (pins':=[]) (by simp)).turned (t':=s8.toks) (it:=f.heap.objs.size) (λb o t e=>(b2.2 b t).trans e) F.2.1 ?_ (.inr (Jf _)) (λx c e=>A x c e) (λp hp=>absurd (show p∈([]:GR)from by simpa [Y,Qy]using hp) (by simp))
     exact a5
    have ea:(d.toArray.push v')=(d++[v']).toArray:=by simp
    rw[ea]at M;refine#[m',c3,i+1,ys++[y],a3,H8,d++[v'],k',I9.pins_of ?_,T.keep _ _ _ a2 λb t o e=>(b2.2 b (a6 b (b1 b t)).2).trans (K b t o e).1,λb t=>?_,vl.append (.cons r8 .nil),?_,w8]
    ·intro p hp
     rw[Jh.mp hp]
     exact#[M,F.2.1,a5,E,λv z=>by cases z]
    ·obtain⟨o,e,_⟩:=T.obj _ _ a2 b t
     exact(K b t o e).2
    ·rw[Jv,Fd];lia
  ·refine#[0,[],σ0 own.length js σ,H2,[],0,I3.pins_of ?_,d4,λb t=>(f2 b t).1,.nil,Jy _,w0]
   intro p hp;rw[Jh.mp hp]
   exact#[d2,I2.hok.fresh (Jf _),a5,E,λv z=>by cases z]
 have a7:tn 0 w:=T.keep _ _ _ b5 λb _ o e=>c1 b o e
 exact codeAny_compStart_list (O _ IY a7 R) (T.self _ 0 _ _ _ a7 (O _ IY a7 R))
theorem wY{j tg f:Φ}{d:Scope}{t:List (Str×Δ)}{x0:Str}{pos l u:Pos}{fr own:Α}{js:Κ}{N:TI}{g:TG}{te:TE}{i:Nat}{y:Str}
  (hN:X.N.Nodup)(A:X.N[i]? =↑y)(hx:cH X.env.scope y)
  (hc:X.calm=true)(hi:PI X tg f N)(p:closureFor d X.env=pure t)(w:∀y c,t.lookup y=↑c->X.env.cells.lookup y=↑c)(E:t.map (·.1)=fr)
  (S:Lf X d x0 fr js)(M:own.length=1)(B:own[0]? =↑x0)
  (hg:∀C K s H fp,PG (Qy X (own++fr) d x0 ((x0,K)::t) C s H fp) tg g)(he:∀C K s H fp,PE (Qy X (own++fr) d x0 ((x0,K)::t) C s H fp) j te)
  (hs:∀x,foldedSetIterable f X.env x=pure x:=by intro _;rfl)(J:swapsWith (.ListComp j [#[tg,f,[],0]] d pos) ↑(.Name y u) l.line X.env=pure true:=by rfl)
  (hf:X.fn y=true\/X.env.scope.names.lookup y=some .local:=by first|exact .inl Z|exact .inr Z|assumption):
  PS X (.Assign [.Name y u] (.ListComp j [#[tg,f,[],0]] d pos) l) (bb (aR own.length js N g te) (Qa i)):=by
 intro Oa s σ H D I h;rw[exec_Assign_Name_used _ _ _ _ J];refine Ja (E1 (Ja ?_))
 show ε _ X.A (do let _ <- comprehension (.ListComp j [#[tg,f,[],0]] d pos) d X.env _ (newList []) false (eval f X.env) ↑(assign (.Name y u) X.env)) _ _ s
 refine Ja (Jw (tW (use:=↑(assign (.Name y u) X.env)) (Post:=λ_ s'=>SP X Oa D .next s') hc hi p w E S M B hg he hs I h ?_) (λ_ s' W=>Jd (Jd W)) λ_ _ e=>e)
 intro r C s5 H' m T U n q
 show ε _ X.A (assign (.Name y u) X.env (.ref r)) _ _ _
 refine wpAny_assign_Name (aT (v:= .ref r) T hN A hx Z (λO Q R=>?_) hf)
 obtain⟨a,L,P⟩:=R;have G:C≠a:=by
  rcases P with z|z
  ·rw[z];exact n.loc
  ·exact Ne.symm (n.cell _ _ z)
 refine#[m,U.sameBut L G,λh' F=>?_]
 exact#[_,H',Q.turned (t':=O.toks) (λb o Y e=>(F.2 b Y).trans e) n.free n.loc (.inr n.new) n.cell n.pin,q]
theorem ww{f tg d:Φ}{a:Scope}{l:List (Str×Δ)}{x0:Str}{pos e q:Pos}{fr:Α}{js:Κ}{r:TI}{g:TG}{te:TE}{i:Nat}{y:Str}
  (hN:X.N.Nodup)(p:X.N[i]? =↑y)(hx:cH X.env.scope y)
  (hc:X.calm=true)(hi:QI X tg d r)(j:closureFor a X.env=pure l)(m:∀y c,l.lookup y=↑c->X.env.cells.lookup y=↑c)(o:l.map (·.1)=fr)
  (S:Lf X a x0 fr js)
  (hg:∀C h s H fp,QG (Qy X ([x0]++fr) a x0 ((x0,h)::l) C s H fp) tg g)(he:∀C h s H fp,QE (Qy X ([x0]++fr) a x0 ((x0,h)::l) C s H fp) f te)
  (hs:∀x,foldedSetIterable d X.env x=pure x:=by intro _;rfl)(n:swapsWith (.ListComp f [#[tg,d,[],0]] a pos) ↑(.Name y q) e.line X.env=pure true:=by rfl)
  (hf:X.fn y=true\/X.env.scope.names.lookup y=some .local:=by first|exact .inl Z|exact .inr Z|assumption):
  QS X (.Assign [.Name y q] (.ListComp f [#[tg,d,[],0]] a pos) e) (bb (aR 1 js r g te) (Qa i)):=#[wY (own:=[x0]) hN p hx hc hi.h j m o S Z Z (λC h s H fp=>(hg C h s H fp).h) (λC h s H fp=>(he C h s H fp).h) hs n hf]
end
theorem BT{a:Type}{xs:List a}(h:xs.length=2):∃x y,xs=[x,y]:=by
 cases xs with
 |nil=>cases h
 |cons x r=>cases r with
  |nil=>cases h
  |cons y r=>cases r with
   |nil=>exact#[x,y,Z]
   |cons z r=>cases h
def cA(D:Dr)(z:Str×Int×Int):Dr:={D with kn:=Hj D z.1 z.2.1 z.2.2}
def cG(D:Dr)(z:Str×Int×Int):Bool:=zK D z.1 z.2.1 z.2.2
theorem Z0{t u:TS}{D:HY}{σ:L2.St}{H:Hp}(h:∀D':HY,(∀a H',u D a H'->D'.nx a H')->t D' σ H):dc t u D σ H:=h {D with nx:=u D} λ_ _ h=>h
theorem Cd{i:Nat}{v:V}{σ:L2.St}{H:Hp}{t u:TS}{D:HY}(h:∀D':HY,(∀a H',u D a H'->D'.nx a H')->t D' (σ.set i ↑v) H):Qa i v σ H (λc d=>dc t u D c d):=h {D with nx:=u D} λ_ _ h=>h
theorem bq{c:Nat}(k:Nat)(h:c<100000000)(hk:k<900000000:=by decide):c+k<1000000000:=Nat.add_lt_add h hk
section
variable{D D':Dr}
theorem tI(z:Str×Int×Int):Qn D D' [z]= ! decide (cG D z=cG D' z):=by
 unfold Qn
 show(decide (([]:Υ)=[])&& ! decide (↑(cG D z)=↑(cG D' z)))=_
 rw[Ji Z,E6];congr 1
 exact decide_eq_decide.mpr #[λh=>JA h,λh=>JH some h]
theorem ui(z y:Str×Int×Int):Qn D D' [z,y]=(decide (cG D z=cG D' z)&& ! decide (cG (cA D z) y=cG (cA D' z) y)):=by
 unfold Qn
 show(decide ([cG D z]=[cG D' z])&& ! decide (↑(cG (cA D z) y)=↑(cG (cA D' z) y)))=_
 congr 1
 ·exact decide_eq_decide.mpr #[λh=>(List.cons.inj h).1,λh=>by rw[h]]
 ·congr 1
  exact decide_eq_decide.mpr #[λh=>JA h,λh=>JH some h]
end
theorem Df.weak{P:Ξ}{w:Ω}{K:ι}{mg:GQ}{base:Ψ}{m:Str}{ps:Α}{k:Nat}{sp a:Sp}(M:Df P w K mg base m ps k sp)(h:∀vs H Q E,a vs H Q E->sp vs H Q E):Df P w K mg base m ps k a:=by
 obtain⟨f,fd,F,r⟩:=M.ex
 exact#[f,fd,F.imp h,r]
theorem Sq.k{K:ι}{H:Hp}{a:Δ}{xs:Ε}(h:Sq [] H a xs):Sq K H a xs:=h.elim (λh=> .inl (LA.refl.sql h)) λh=> .inr (LA.refl.sqt h)
def z3(z:Str×Int×Int):Ε:=[.str z.1,.int z.2.1,.int z.2.2]
def MP(H:Hp)(v:V)(zs:qZ):Prop:=∃(t:Δ) (c:Η),v= .ref t/\Sq [] H t (c.map V.ref)/\c.length=zs.length/\∀(i:Nat) (a:Δ) (z:Str×Int×Int),c[i]? =↑a->zs[i]? =↑z->Sq [] H a (z3 z)
theorem MP.same{H H':Hp}{v:V}{zs:qZ}(h:MP H v zs)(s:GS H H'):MP H' v zs:=by
 obtain⟨t,g,e,h1,l,f⟩:=h
 exact#[t,g,e,h1.same s,l,λi a z c d=>(f i a z c d).same s]
theorem MP.of{H:Hp}{v:V}{zs:qZ}(h:Ls H v ↑zs):MP H v zs:=by
 obtain⟨t,g,e,h1,l,f⟩:=h
 exact#[t,g,e,.tup h1,l,λi a z c d=> .tup (f i a z c d)]
theorem BG{K:ι}{H0 H:Hp}{a:Δ}{xs:Ε}{g:TG}{tb:TS}{D:HY}{σ:L2.St}(c:Sq [] H0 a xs)(Pv:Nat->L2.St->Hp->Prop)(d:Pv 0 σ H)(ps:∀i σ H',Pv i σ H'->GS H0 H')
  (hs:∀i x σ H,xs[i]? =↑x->Pv i σ H->g x σ H λe h=>tb {D with nx:=Pv (i+1),ct:=Pv (i+1),bk:=D.nx} e h)(hd:∀σ H,Pv xs.length σ H->D.nx σ H){f:TI}(hw:f=vV K (λ_ H Q=>Q (.ref a) H)):vK f g tb D σ H:=by
 subst hw;refine#[a,Z,?_]
 rcases c with c|c
 ·exact .inl #[#[_,LA.refl.sql (GS.seq (ps 0 σ H d) c)],Qj Pv d (λi σ H' _ p=>LA.refl.sql (GS.seq (ps i σ H' p) c)) hs hd]
 ·exact .inr #[#[_,LA.refl.sqt (GS.sqt (ps 0 σ H d) c)],ia Pv d (λi σ H' _ p=>LA.refl.sqt (GS.sqt (ps i σ H' p) c)) hs hd]
theorem kU{K:ι}{H0 H:Hp}{a:Δ}{xs:Ε}{js:Κ}{te:TE}{σ:L2.St}{Q:VK}(c:Sq [] H0 a xs)(hn:xs.length<=ζ)(Pv:Nat->Ε->Hp->Prop)(d:Pv 0 [] H)(ps:∀i ys H',Pv i ys H'->GS H0 H')
  (hs:∀i ys H' x,xs[i]? =↑x->ys.length=i->Pv i ys H'->te (↑x::Qt js σ) H' λv e=>Pv (i+1) (ys++[v]) e)
  (hd:∀ys H',ys.length=xs.length->Pv xs.length ys H'->∀p,H' p=none->Q (.ref p) (GW H' p (.lst ys))):((∃xs,G0 K H a xs)/\ZI (cB K a) js te σ H Q)\/((∃xs,G9 K H a xs)/\ZI (dz K a) js te σ H Q):=by
 rcases c with c|c
 ·exact .inl #[#[_,LA.refl.sql (GS.seq (ps 0 [] H d) c)],Ze hn Pv d (λi ys H' p=>LA.refl.sql (GS.seq (ps i ys H' p) c)) hs hd]
 ·exact .inr #[#[_,LA.refl.sqt (GS.sqt (ps 0 [] H d) c)],Q5 hn Pv d (λi ys H' p=>LA.refl.sqt (GS.sqt (ps i ys H' p) c)) hs hd]
section
variable(K:ι)(C:Δ)
inductive MQ (vs:Ε) (H:Hp) (Q:VK):Prop
 |mk (p ta hk bd lg:Δ) (n:Nat) (D:Dr) (v:V) (zs:qZ) (h1:vs=[.ref p,v]) (h2:GV K C H p ta hk bd lg n D) (h3:Ik D) (h4:D.near<=D.far) (h5:MP H v zs) (h6:zs.length<=100) (h7:∀l H',GS H H'->H' l=↑(.lst ((qQ D zs).map V.bl))->Q (.ref l) H')
def oN:Sp:=λvs H Q _=>MQ K C vs H Q
inductive MR (vs:Ε) (H:Hp) (Q:VK):Prop
 |mk (p ta hk bd lg:Δ) (n:Nat) (D:Dr) (p' ta' hk' bd' lg':Δ) (n':Nat) (D':Dr) (v:V) (zs:qZ) (h1:vs=[.ref p,.ref p',v]) (h2:GV K C H p ta hk bd lg n D) (h3:GV K C H p' ta' hk' bd' lg' n' D') (h4:Ik D) (h5:Ik D') (h6:D.near<=D.far) (h7:D'.near<=D'.far) (h8:MP H v zs) (h9:zs.length<=100) (h10:zs≠[]) (h11:∀H',GS H H'->Q (.bl (Qn D D' zs)) H')
def oY:Sp:=λvs H Q _=>MR K C vs H Q
end
inductive MS (vs:Ε) (H:Hp) (Q:VK):Prop
 |mk (m kd p:Δ) (D:Dr) (nm:Str) (age c:Int) (h1:vs=[.ref m,.ref p]) (h2:Ht H m kd D) (h3:Sq [] H p [.str nm,.int age,.int c]) (h4:∀H',GS H H'->Q (.str (zv D nm age c)) H')
def oP:Sp:=λvs H Q _=>MS vs H Q
inductive MT (vs:Ε) (H:Hp) (Q:VK):Prop
 |mk (m kd p:Δ) (D:Dr) (nm:Str) (age c:Int) (h1:vs=[.ref m,.ref p]) (h2:Ht H m kd D) (h3:Sq [] H p [.str nm,.int age,.int c]) (h4:Ik D) (h5:D.near<=D.far) (h6:∀H',Mv [m,kd] H H'->Ht H' m kd {D with kn:=Hj D nm age c}->Q (.bl (decide (zv D nm age c="open"))) H')
def fq:Sp:=λvs H Q _=>MT vs H Q
theorem Bs{vs:Ε}{H:Hp}{Q:VK}{E:XK}(h:ie vs H Q E):fq vs H Q E:=by
 obtain⟨m,kd,p,D,nm,age,c,e,f,a,d,i,g⟩:=h
 exact#[m,kd,p,D,nm,age,c,e,f,.tup a,d,i,g]
theorem wK{X:Cx}{K:ι}(a:X.K=K){tg e:Φ}{te:TE}(he:QE X e te):QI X tg e (ra K te):=by
 subst a;exact zN he
theorem DN{X:Cx}{a:Scope}{x0 y:Str}{j:Nat}(l:a.kind= .function)(e:∀x∈a.names,x.2= .local->a.names.lookup x.1=some .local)(d:∀n f,cellsFrom n a.names f=(x0,n)::f)(push:∀h,pushCells h a.names=h.push {cls:= .type "cell",data:= .cell none})
  (c:∀x∈a.names,x.2= .cell->x.1=x0)(g:∀x∈a.names,x.2= .free->x.1∈([y]:Α))(q:x0∉([y]:Α))(h1:X.N[j]? =↑y)(h2:X.env.kindOf y=some .cell)(o:(relabel a X.env).names.lookup y=some .cell):Lf X a x0 [y] [j]:=
 #[l,e,d,push,c,g,q,Z,λi s r m p=>by
  cases i with
  |zero=>cases m;cases p;exact#[h1,h2,o]
  |succ i=>cases m]
theorem jD{a c:Type}(f:a->c):∀(l:List a) (i:Nat),(l.map f).eraseIdx i=(l.eraseIdx i).map f
 | [],_=>rfl
 |x::r,0=>rfl
 |x::r,i+1=>JH (f x:: ·) (jD f r i)
def Lu(H:Hp)(a:List (Δ×Str×Int×Int)):Prop:=∀w∈a,H w.1=↑(.tup (z3 w.2))
theorem Lu.same{H H':Hp}{a:List (Δ×Str×Int×Int)}(h:Lu H a)(s:GS H H'):Lu H' a:=λw c=>s _ _ (h w c)
theorem Lu.grc{H H':Hp}{a:List (Δ×Str×Int×Int)}{b:Δ}{c c':Nat}(h:Lu H a)(hb:Ip H b c)(g:IQ b c' H H'):Lu H' a:=λw d=>g.mv.tup (zg hb) (h w d)
theorem Lu.mv{H H':Hp}{a:List (Δ×Str×Int×Int)}{l:Δ}{xs:Ε}(h:Lu H a)(e:H l=↑(.lst xs))(m:Mv [l] H H'):Lu H' a:=λw c=>m.tup (NT.one e trivial) (h w c)
theorem Lu.of{H:Hp}{v:V}{r:qZ}(h:Ls H v ↑r):∃(t:Δ) (c:List (Δ×Str×Int×Int)),v= .ref t/\H t=↑(.tup (c.map λw=>V.ref w.1))/\c.length=r.length/\Lu H c:=by
 obtain⟨t,a,e,h1,l,f⟩:=h;refine#[t,a.zip r,e,?_,by rw[List.length_zip];lia,λw j=>?_]
 ·rw[h1]
  have:(a.zip r).map (λw=>V.ref w.1)=a.map V.ref:=by
   conv=>rhs;rw[<- List.map_fst_zip (l₁:=a) (l₂:=r) (by lia)]
   rw[ET];rfl
  rw[this]
 ·obtain⟨i,hi,rfl⟩:=List.getElem_of_mem j
  have:=Jg hi
  obtain⟨d,g⟩:=List.getElem?_zip_eq_some.mp this
  exact f i _ _ d g
section
variable(K:ι)(C:Δ)
inductive MU (vs:Ε) (H:Hp) (Q:VK):Prop
 |mk (a:Da) (D:Dr) (L:Ο) (h1:vs=[.ref a.p]) (h2:HX K C H a D L) (h3:Ik D) (h4:∀q k t ss H',GS H H'->H' q=↑(.tup [.ref k,.ref t])->ss.Perm (D.kn.map (·.1))->sortedS ss=true->Lv H' k ss D.kn->Li H' t L->Q (.ref q) H')
def oq:Sp:=λvs H Q _=>MU K C vs H Q
end
inductive LS (vs:Ε) (H:Hp) (Q:VK):Prop
 |mk (b dr nl:Δ) (c:Nat) (nms:Α) (many:Nat) (base:Int) (h1:vs=[.ref b,.ref dr]) (h2:Ip H b c) (h3:c<2000000) (h4:H dr=↑(.tup [.ref nl,.int (many:Int),.int base])) (h5:H nl=↑(.lst (nms.map V.str))) (h6:nl≠b) (h7:Ng nms many base) (h8:∀p z H',IQ b (c+3) H H'->H' p=↑(.tup (z3 z))->Q (.ref p) H')
def jg:Sp:=λvs H Q _=>LS vs H Q
inductive MV (vs:Ε) (H:Hp) (Q:VK):Prop
 |mk (b dr nl:Δ) (c:Nat) (nms:Α) (many:Nat) (base:Int) (v:V) (o:Option qZ) (h1:vs=[.ref b,.ref dr,v]) (h2:Ip H b c) (h3:c<1000000) (h4:H dr=↑(.tup [.ref nl,.int (many:Int),.int base])) (h5:H nl=↑(.lst (nms.map V.str))) (h6:nl≠b) (h7:Ng nms many base) (h8:Ls H v o) (h9:∀r,o=↑r->r≠[]/\r.length<=2) (h10:∀lr ws H',IQ b (c+40) H H'->lr≠b->H' lr=↑(.lst (ws.map λw:Δ×Str×Int×Int=>V.ref w.1))->ws≠[]->ws.length<=10->Lu H' ws->Q (.ref lr) H')
def pE:Sp:=λvs H Q _=>MV vs H Q
inductive MW (vs:Ε) (H:Hp) (Q:VK):Prop
 |mk (ol m kd m' kd':Δ) (D D':Dr) (v:V) (zs:qZ) (h1:vs=[.ref ol,v]) (h2:H ol=↑(.lst [.ref m,.ref m'])) (h3:Ht H m kd D) (h4:Ht H m' kd' D') (h5:Ik D) (h6:Ik D') (h7:D.near<=D.far) (h8:D'.near<=D'.far) (h9:MP H v zs) (h10:zs.length<=100) (h11:zs≠[]) (h12:∀H',GS H H'->Q (.bl (Qn D D' zs)) H')
def oS:Sp:=λvs H Q _=>MW vs H Q
theorem pC{a:Type}{l:List a}(h:l≠[]):∃xs x,l=xs++[x]:=#[l.dropLast,l.getLast h,(List.dropLast_concat_getLast h).symm]
theorem rq(D D':Dr)(zs:qZ)(z:Str×Int×Int):Qn D D' (zs++[z])=(decide (qQ D zs=qQ D' zs)&& ! decide (zK (Qu D zs) z.1 z.2.1 z.2.2=zK (Qu D' zs) z.1 z.2.1 z.2.2)):=by
 unfold Qn;rw[Q9,Q9,List.dropLast_concat,List.dropLast_concat,List.getLast?_concat,List.getLast?_concat];congr 2
 exact decide_eq_decide.mpr #[λh=>by injection h,λh=>by rw[h]]
theorem oA:∀{a b:Υ},a.length=b.length->((a.zip b).map λp=>decide (p.1=p.2)).all id=decide (a=b)
 | [],[],_=>rfl
 |x::a,y::b,h=>by
  rw[List.zip_cons_cons,JS,List.all_cons,oA (Nat.succ.inj h)]
  by_cases e:x=y
  ·by_cases c:a=b
   ·simp [e,c]
   ·simp [e,c]
  ·simp [e]
theorem t7(xs:Ε):Qd xs none ↑(-1)=xs.dropLast:=by
 unfold Qd;have e:HT.sIx xs.length xs.length ↑(-1)=xs.length-1:=by
  show(if(-1:Int)<0 then(-1+(xs.length:Int)).toNat else min (-1:Int).toNat xs.length)=_
  rw[Jc ⋯]
  lia
 rw[e]
 show(xs.drop 0).take (xs.length-1-0)=_
 rw[List.drop_zero,Nat.sub_zero,List.dropLast_eq_take]
theorem wN(xs:Ε)(x:V):zY (xs++[x]) (-1)=↑x:=by
 unfold zY Z1;rw[Jv,Jb ⋯,Jc (by simp;lia)]
 show(xs++[x])[(-1+((xs.length+1:Nat):Int)).toNat]? =_
 rw[show(-1+((xs.length+1:Nat):Int)).toNat=xs.length by lia,JY (Jf _),Nat.sub_self];rfl
structure LU(H Hx:Hp)(l x kx y ky:Δ)(D D':Dr):Prop where
 s:GS H Hx
 el:Hx l=↑(.lst [.ref x,.ref y])
 mx:Ht Hx x kx D
 my:Ht Hx y ky D'
 fx:H x=none
 fkx:H kx=none
 fy:H y=none
 fky:H ky=none
 n1:x≠y
 n2:x≠ky
 n3:kx≠y
 n4:kx≠ky
theorem rV{z a w:Δ}(h1:w≠z)(h2:w≠a):w∉[z,a]:=λh=>by
 rcases Jm.mp h with h|h
 ·exact h1 h
 ·exact h2 (Jh.mp h)
theorem Ht.nt2{z a:Δ}{D:Dr}{H:Hp}(c:Ht H z a D):NT [z,a] H:=λw e=>by
 rcases Jm.mp e with h|h
 ·rw[h];exact#[_,c.di,trivial]
 ·rw[Jh.mp h];obtain⟨_,d,_⟩:=c.kn;exact#[_,d,trivial]
theorem Ht.nin{z a p:Δ}{D:Dr}{H:Hp}{xs:Ε}(c:Ht H z a D)(hp:H p=↑(.lst xs)):p∉[z,a]:=by
 obtain⟨_,d,_⟩:=id c.kn;exact rV (zG hp c.di (by intro q;cases q)) (zG hp d (by intro q;cases q))
section
variable{H Hx Hy:Hp}{l x kx y ky:Δ}{D D' D2:Dr}
theorem LU.same(c:LU H Hx l x kx y ky D D')(s:GS Hx Hy):LU H Hy l x kx y ky D D':=#[c.s.trans s,s _ _ c.el,c.mx.same s,c.my.same s,c.fx,c.fkx,c.fy,c.fky,c.n1,c.n2,c.n3,c.n4]
theorem LU.left(c:LU H Hx l x kx y ky D D')(mv:Mv [x,kx] Hx Hy)(d:Ht Hy x kx D2):LU H Hy l x kx y ky D2 D':=
 #[λw o a=>mv _ _ (rV (qo a c.fx) (qo a c.fkx)) (c.s _ _ a),mv _ _ (c.mx.nin c.el) c.el,d,c.my.mv mv c.mx.nt2 (rh c.n1.symm c.n3.symm) (rh c.n2.symm c.n4.symm),c.fx,c.fkx,c.fy,c.fky,c.n1,c.n2,c.n3,c.n4]
theorem LU.right(c:LU H Hx l x kx y ky D D')(mv:Mv [y,ky] Hx Hy)(d:Ht Hy y ky D2):LU H Hy l x kx y ky D D2:=
 #[λw o a=>mv _ _ (rV (qo a c.fy) (qo a c.fky)) (c.s _ _ a),mv _ _ (c.my.nin c.el) c.el,c.mx.mv mv c.my.nt2 (rh c.n1 c.n2) (rh c.n3 c.n4),d,c.fx,c.fkx,c.fy,c.fky,c.n1,c.n2,c.n3,c.n4]
end
def MX(H:Hp)(ps:Η)(bs a:Υ):Prop:=ps.length=bs.length/\ps.length=a.length/\∀(j:Nat) (p:Δ) (b c:Bool),ps[j]? =↑p->bs[j]? =↑b->a[j]? =↑c->H p=↑(.lst [.bl b,.bl c])
theorem MX.same{H H':Hp}{ps:Η}{bs a:Υ}(h:MX H ps bs a)(s:GS H H'):MX H' ps bs a:=#[h.1,h.2.1,λj p b f d c e=>s _ _ (h.2.2 j p b f d c e)]
theorem MX.keep{H H':Hp}{a:Η}{ps:Η}{bs c:Υ}(h:MX H ps bs c)(mv:Mv a H H')(hz:∀p xs,H p=↑(.lst xs)->p∉a):MX H' ps bs c:=#[h.1,h.2.1,λj p b g e d f=>mv _ _ (hz _ _ (h.2.2 j p b g e d f)) (h.2.2 j p b g e d f)]
theorem MX.snoc{H:Hp}{ps:Η}{bs d:Υ}{p:Δ}{b g:Bool}(h:MX H ps bs d)(hp:H p=↑(.lst [.bl b,.bl g])):MX H (ps++[p]) (bs++[b]) (d++[g]):=by
 obtain⟨m,i,h⟩:=h;refine#[by simp [m],by simp [<- i],λj q c c' a e f=>?_]
 by_cases l:j<ps.length
 ·rw[JT l]at a
  rw[JT (by lia)]at e
  rw[JT (by lia)]at f
  exact h j q c c' a e f
 ·rw[JY (by lia)]at a
  rw[JY (by lia)]at e
  rw[JY (by lia)]at f
  cases ej:j-ps.length with
  |zero=>rw[ej]at a;rw[show j-bs.length=0 by lia]at e;rw[show j-d.length=0 by lia]at f;cases a;cases e;cases f;exact hp
  |succ k=>rw[ej]at a;cases a
theorem vC{D D':Dr}{nm:Str}{p:Int×Int}(d:IK D)(d':IK D')(k:eQ D (D.kn.lookup nm))(c:eQ D' (D'.kn.lookup nm))(h:aG D (D.kn.lookup nm) D' (D'.kn.lookup nm)=↑p):zK D nm p.1 p.2≠zK D' nm p.1 p.2:=by
 unfold aG je at h;obtain⟨a,l,e⟩:=List.exists_of_findSome?_eq_some h
 split at e
 ·cases e
 ·rename_i g
  cases e;have i:=gG (ft d k a) (ft d' c a) g;obtain⟨j,h1,f,_⟩:=gs i;rw[gX d k (by lia),gX d' c (by lia)]
  exact Jx f
theorem pQ{D D':Dr}{ns:Α}{r:qZ}(ok:Ik D)(o:Ik D')(d:IK D)(d':IK D')(k:wB D)(m:wB D')(h:ZN D D' ns=↑r):Qn D D' r=true/\r≠[]/\r.length<=2:=by
 unfold ZN at h;cases e:ns.findSome? (br D D')with
 |some q=>
  rw[e]at h;cases h;obtain⟨nm,_,e⟩:=List.exists_of_findSome?_eq_some e
  unfold br at e;obtain⟨p,i,rfl⟩:=JZ.mp e;refine#[?_,by simp,by simp]
  rw[tI]
  have:=vC d d' (k nm) (m nm) i
  show(! decide (zK D nm p.1 p.2=zK D' nm p.1 p.2))=true
  rw[Jo this];rfl
 |none=>
  rw[e]at h;obtain⟨nm,z,v⟩:=List.exists_of_findSome?_eq_some h
  have no:aG D (D.kn.lookup nm) D' (D'.kn.lookup nm)=none:=by
   have:=List.findSome?_eq_none_iff.mp e nm z
   unfold br at this;exact Option.map_eq_none_iff.mp this
  unfold bm at v;obtain⟨p,i,rfl⟩:=JZ.mp v;refine#[?_,by simp,by simp]
  rw[ui];cases e1:D.kn.lookup nm with
  |none=>rw[e1]at i;cases i
  |some x=>
  cases e3:D'.kn.lookup nm with
  |none=>rw[e1,e3]at i;cases i
  |some x'=>
  rw[e1,e3]at i no;unfold bX je at i;obtain⟨c,A,E⟩:=List.exists_of_findSome?_eq_some i
  obtain⟨q,C,rfl⟩:=JZ.mp E;have kx:=k nm;have g:=m nm;rw[e1]at kx;rw[e3]at g;have kx:Iq D x:=kx
  have g:Iq D' x':=g
  obtain⟨w,u⟩:=iJ A;have G:=d.n0;have J:=d'.n0;have H:=d.nf;have K:=d'.nf;have I:=kx.l0;have L:=g.l0;have j:0<=c:=by
   unfold cx Zz at w;split at w<;>lia
  have t:c<4096:=by
   unfold Zz at u;split at u<;>lia
  have F:0<=zD x.age D.least:=by unfold zD;have:=kx.a0;have:=d.l0;split<;>lia
  have y:zD x.age D.least<D.kss.length:=by unfold zD;have:=kx.a1;have:=d.lk;split<;>lia
  have same:zK D nm (zD x.age D.least) c=zK D' nm (zD x.age D.least) c:=by
   rw[gX d (k nm) (by lia),gX d' (m nm) (by lia),e1,e3,CF no F y]
  show(decide (zK D nm _ c=zK D' nm _ c)&& ! decide (zK (cA D (nm,_,c)) nm q.1 q.2=zK (cA D' (nm,_,c)) nm q.1 q.2))=true
  rw[Ji same,E6];have s:(cA D (nm,zD x.age D.least,c)).kn.lookup nm=some (zh D x (zD x.age D.least) c).2:=gI ok.nd e1
  have l:(cA D' (nm,zD x.age D.least,c)).kn.lookup nm=some (zh D' x' (zD x.age D.least) c).2:=gI o.nd e3
  have f:Iq D (zh D x (zD x.age D.least) c).2:=cf d kx j t
  have a:Iq D' (zh D' x' (zD x.age D.least) c).2:=cf d' g j t
  have f:eQ (cA D (nm,zD x.age D.least,c)) (some (zh D x (zD x.age D.least) c).2):=(show Iq _ _ from#[f.a0,f.a1,f.l0,f.l1,f.w])
  have a:eQ (cA D' (nm,zD x.age D.least,c)) (some (zh D' x' (zD x.age D.least) c).2):=(show Iq _ _ from#[a.a0,a.a1,a.l0,a.l1,a.w])
  have B:IK (cA D (nm,zD x.age D.least,c)):=#[d.n0,d.n1,d.nf,d.f1,d.l0,d.lk]
  have n:IK (cA D' (nm,zD x.age D.least,c)):=#[d'.n0,d'.n1,d'.nf,d'.f1,d'.l0,d'.lk]
  have:=vC (nm:=nm) (p:=q) B n (by rw[s];exact f) (by rw[l];exact a) (by rw[s,l];exact C)
  rw[Jo this];rfl
def MY(H:Hp)(b:Δ)(v:V)(zs:qZ):Prop:=∃(t:Δ) (c:Η),v= .ref t/\Sq [] H t (c.map V.ref)/\c.length=zs.length/\t≠b/\(∀a∈c,a≠b)/\∀(i:Nat) (a:Δ) (z:Str×Int×Int),c[i]? =↑a->zs[i]? =↑z->Sq [] H a (z3 z)
theorem MY.rw{H:Hp}{b:Δ}{v:V}{zs:qZ}(h:MY H b v zs):MP H v zs:=by
 obtain⟨t,a,e,h1,l,_,_,c⟩:=h
 exact#[t,a,e,h1,l,c]
theorem MY.same{H H':Hp}{b:Δ}{v:V}{zs:qZ}(h:MY H b v zs)(s:GS H H'):MY H' b v zs:=by
 obtain⟨t,m,e,h1,l,f,j,d⟩:=h
 exact#[t,m,e,h1.same s,l,f,j,λi a z c g=>(d i a z c g).same s]
theorem MY.grc{H H':Hp}{b:Δ}{c c':Nat}{v:V}{zs:qZ}(h:MY H b v zs)(hb:Ip H b c)(g:IQ b c' H H'):MY H' b v zs:=by
 obtain⟨t,o,e,h1,l,f,j,m⟩:=h
 exact#[t,o,e,y9 h1 g.mv (zg hb) (qV f),l,f,j,λi a z d n=>y9 (m i a z d n) g.mv (zg hb) (qV (j a (JP d)))]
theorem Ls.grc{H H':Hp}{b:Δ}{c c':Nat}{v:V}{o:Option qZ}(h:Ls H v o)(hb:Ip H b c)(g:IQ b c' H H'):Ls H' v o:=by
 cases o with
 |none=>exact h
 |some r=>
  obtain⟨t,d,e,h1,l,f⟩:=h
  exact#[t,d,e,g.mv.tup (zg hb) h1,l,λi a z j m=>g.mv.tup (zg hb) (f i a z j m)]
def NC(H:Hp)(l:Δ)(zs:qZ):Prop:=∃c:Η,H l=↑(.lst (c.map V.ref))/\c.length=zs.length/\∀(i:Nat) (a:Δ) (z:Str×Int×Int),c[i]? =↑a->zs[i]? =↑z->H a=↑(.lst (z3 z))
theorem NC.same{H H':Hp}{l:Δ}{zs:qZ}(h:NC H l zs)(s:GS H H'):NC H' l zs:=by
 obtain⟨f,h1,g,d⟩:=h
 exact#[f,s _ _ h1,g,λi a z c e=>s _ _ (d i a z c e)]
theorem NC.eqd{H:Hp}{l e:Δ}{zs:qZ}(h:NC H l zs)(h':NC H e zs):Lo H 2 (.ref l) (.ref e):=by
 obtain⟨t,h1,n,p⟩:=h;obtain⟨bs,o,r,q⟩:=h';refine .lst h1 o (by rw[Je,Je,n,r]) λi x y ex d=>?_
 rw[Jn]at ex d;obtain⟨a,g,rfl⟩:=JZ.mp ex;obtain⟨b,s,rfl⟩:=JZ.mp d;have f:=Jg (show i<zs.length by rw[<- n];exact(Js.mp g).1)
 refine .lst (p i a _ g f) (q i b _ s f) Z λj u w c m=>?_
 rw[c]at m;cases m
 match j,c with
 |0,c=>cases c;exact .str _ _
 |1,c=>cases c;exact .int _ _
 |2,c=>cases c;exact .int _ _
 |j+3,c=>cases c
theorem bO{K:ι}{H:Hp}{v:V}{zs:qZ}{js:Κ}{te:TE}{σ:L2.St}{Q:VK}(h:MP H v zs)(hz:zs.length<=100)(A:∀(a:Δ) (z:Str×Int×Int) (Hx:Hp) (G:VK),Sq K Hx a (z3 z)->(∀l,Hx l=none->G (.ref l) (GW Hx l (.lst (z3 z))))->te (↑(.ref a)::Qt js σ) Hx G)
  (I:∀l Hx,GS H Hx->H l=none->NC Hx l zs->(∀B:Η,Hx l=↑(.lst (B.map V.ref))->∀a∈B,H a=none)->Q (.ref l) Hx):∃a,v= .ref a/\(((∃xs,G0 K H a xs)/\ZI (cB K a) js te σ H Q)\/((∃xs,G9 K H a xs)/\ZI (dz K a) js te σ H Q)):=by
 obtain⟨t,B,rfl,J,n,has⟩:=h;refine#[t,Z,kU (K:=K) J (by rw[Je,n,Ju];lia) (λi ys Hx=>GS H Hx/\∃bs:Η,ys=bs.map V.ref/\bs.length=i/\(∀a∈bs,H a=none)/\∀(j:Nat) (a:Δ) (z:Str×Int×Int),bs[j]? =↑a->zs[j]? =↑z->Hx a=↑(.lst (z3 z))) #[GS.refl _,[],Z,Z,(λa h=>nomatch h),λj a z h=>by cases h] (λi ys Hx h=>h.1) ?_ ?_]
 ·rintro i ys Hx x E w ⟨s,bs,rfl,r,p,y⟩
  rw[Jn]at E;obtain⟨C,f,rfl⟩:=JZ.mp E;have hi:i<zs.length:=by rw[<- n];exact(Js.mp f).1
  have D:=Jg hi;refine A C zs[i] Hx _ ((has i C _ f D).same s).k λl m=>?_
  have u:=GS.upd (o:= .lst (z3 zs[i])) m
  refine#[s.trans u,bs++[l],by simp,by simp [r],λa d=>?_,λj a z c g=>?_]
  ·rcases JL.mp d with d|d
   ·exact p a d
   ·rw[Jh.mp d];exact QU m s
  ·by_cases L:j<bs.length
   ·rw[JT L]at c
    exact u _ _ (y j a z c g)
   ·rw[JY (by lia)]at c
    cases ej:j-bs.length with
    |zero=>
     rw[ej]at c;cases c;rw[show j=i by lia,D]at g
     cases g;exact qc
    |succ k=>rw[ej]at c;cases c
 ·rintro ys Hx w ⟨s,bs,rfl,r,p,y⟩ l m
  have u:=GS.upd (o:= .lst (bs.map V.ref)) m
  refine I l _ (s.trans u) (QU m s) #[bs,qc,by rw[r,Je,n],λj a z c g=>u _ _ (y j a z c g)] λq h a d=>?_
  rw[qc]at h;injection h with h
  injection h with h
  have:q=bs:=by
   have e:=JH (List.map λv:V=>match v with| .ref a=>a|_=>0) h
   rw[ET,ET]at e;have F:(λv:V=>match v with| .ref a=>a|_=>0)∘V.ref=(id:Δ->Δ):=Z
   rw[F,List.map_id,List.map_id]at e;exact e.symm
  exact p a (this▸d)
theorem Lo.up{H:Hp}{n:Nat}{x y:V}(h:Lo H n x y):Lo H (n+1) x y:=by
 induction h with
 |int n i=>exact .int _ i
 |str n x=>exact .str _ x
 |non n=>exact .non _
 |bl n b=>exact .bl _ b
 |tup h1 h2 hl _ ih=>exact .tup h1 h2 hl ih
 |lst h1 h2 hl _ ih=>exact .lst h1 h2 hl ih
def IL(H:Hp)(q:Δ)(a:Α)(D:Dr)(L:Ο):Prop:=∃k t,H q=↑(.tup [.ref k,.ref t])/\Lv H k a D.kn/\Li H t L
theorem IL.same{H H':Hp}{q:Δ}{a:Α}{D:Dr}{L:Ο}(h:IL H q a D L)(s:GS H H'):IL H' q a D L:=by
 obtain⟨k,t,e,h1,c⟩:=h
 exact#[k,t,s _ _ e,h1.same s,c.same s]
theorem IL.eqd{H:Hp}{q d:Δ}{c:Α}{D:Dr}{L:Ο}(h:IL H q c D L)(h':IL H d c D L)(hs:∀nm∈c,nm∈D.kn.map (·.1))(hl:c.length<=60)(o:L.length<=100):Lo H 5 (.ref q) (.ref d):=by
 obtain⟨k,t,e,h1,g⟩:=h;obtain⟨n,m,l,f,j⟩:=h';refine .tup (.inl e) (.inl l) Z λi x y ex a=>?_
 match i,ex,a with
 |0,ex,a=>cases ex;cases a;exact(ub h1 f hs hl).eqd.up
 |1,ex,a=>cases ex;cases a;exact(g.eqv j (by lia)).eqd
 |i+2,ex,a=>cases ex
end L3
namespace Lw
open PySem L2 L3
section
variable{P:Ξ}{w:Ω}{K:ι}{mg:GQ}{base:Ψ}{tk:Nat->Tok}
theorem lf(a:At K mg "_law_model" aV ["_law_near","_law_far","_law_keys"])(T:HN K mg tk):Df P w K mg base "_law_model" W9 1 oo:=by
 refine a.dq km λf _ A _ s H vs Q E n h=>?_
 ·obtain⟨D,rfl,l,hk,q⟩:=h
  refine#[_,(qg (qr (An (aA qA (qv 0) (aA qA (qv 1) (aA qA (qv 2) (aA qA qf (aA qA fT As)))))))),?_]
  refineλm j=>#[_,Z,_,Z,_,Z,λkd d=>#[?_,?_]]
  ·rw[qm (qo qc d)];exact qc
  refine#[ZT D kd,by unfold ZT;rw[l];rfl,by show 5<=15;decide,?_]
  rw[vN];have i:kd≠m:=(qo qc d).symm
  refine q m kd _ (λc o e=>?_) j ?_ #[qc,#[([],λ_=>0),?_,?_,?_,?_],i.symm]
  ·have nm:c≠m:=qo e j
   have g:c≠kd:=qo (by rw[qm nm];exact e) d
   rw[qm nm,qm g,qm nm];exact e
  ·rw[qm i]at d;exact d
  ·rw[qm i];exact qc
  ·rw[hk];exactλe h=>nomatch h
  ·rw[hk]
  ·rw[hk];exact Gb
theorem nz(a:At K mg "_law_word" ca ["_law_own","_law_plain_here"])(T:HN K mg tk):Df P w K mg base "_law_word" X2 1 oP:=by
 refine a.dq HQ λf _ A _ s H vs Q E j h=>?_
 ·obtain⟨m,kd,p,D,nm,age,c,rfl,d,N,q⟩:=h
  refine#[_,(qe (q9 (qv 1) (ze Z (ql (qh (i:=2) HQ.nd Z (Or.inl Z)) (ql (qh (i:=3) HQ.nd Z (Or.inl Z)) (ql (qh (i:=4) HQ.nd Z (Or.inl Z)) qM)))))
   (qe (qw (i:=5) HQ.nd Z (Or.inl Z) (lW j (zJ j (qv 0) qA) (qv 2)))
   (qe (qK (QW.pt (Zt (qE Zp (qv 5) zd (qB _)) (QX (Qc (mV ZK ff (qx (Zg Z) T.b_max F4 (qd (zJ j (qv 0) qA) (qd (qC qO (qv 5) qf) qb))) (qv 3) (zJ j (qv 0) qA)))))) (qg (qr qA)) qF)
   (qe (qw (i:=6) HQ.nd Z (Or.inl Z) (qu zO (qv 4) (qC qO (qv 5) qf)))
   (qe (qK (QW.pt (Zt (qE ff (qv 6) qf (qB _)) (QX (qE rY (qv 6) (zJ j (qv 0) qA) (qB _))))) (qg (qr qA)) qF)
   (qg (qr (wS (QW.pt (Zt (qE ZK (qv 6) (zJ j (qv 0) qA) (qB _)) (QX (qE (uj j) (qC qO (qv 5) qf) (qy (qd (qv 3) (qd (qu zO (qv 4) qf) qb))) (qB _))))) qA qA)))))))),?_]
  refine#[_,Z,p,_,Z,N.k,Z,_,_,Z,_,_,Z,_,_,Z,Z,?_]
  obtain⟨R,I,_⟩:=id d.kn;unfold zv at q;rcases d.kn.get nm with⟨F,g⟩|⟨e,x,F,g,v,G,O⟩
  ·rw[F]at q
   refine#[_,Z,m,_,Z,d.g_known,kd,Z,.inl #[_,.inl I],_,Z,_,g,?_]
   exact#[_,Z,Z,_,Z,zP (Ji Z) (zx (q _ (GS.refl H)))]
  ·rw[F]at q
   simp only at q
   refine#[_,Z,m,_,Z,d.g_known,kd,Z,.inl #[_,.inl I],_,Z,_,g,?_]
   refine#[_,Z,Z,_,Z,qW (λy=>nomatch (Jx y)) (λ_=>?_)]
   refine#[_,Z,m,_,Z,d.g_closed,_,Z,x,_,_,_,Z,Z,G9.of G,Z,_,_,Z,_,Z,_,_,Z,Z,_,Z,?_]
   have L:qR D e age=(decide ((if D.least<e.age then e.age else D.least)<=age)&&decide (age<(D.kss.length:Int))):=by
    have M:((if D.least<e.age then e.age else D.least)<=age)↔(D.least<=age/\e.age<=age):=by split<;>omega
    unfold qR ZP;rw[show decide ((if D.least<e.age then e.age else D.least)<=age)=(decide (D.least<=age)&&decide (e.age<=age))from by rw[<- Bool.decide_and];exact decide_eq_decide.mpr M]
    cases decide (D.least<=age)<;>cases decide (e.age<=age)<;>cases decide (age<(D.kss.length:Int))<;>rfl
   rw[L]at q
   by_cases h1:(if D.least<e.age then e.age else D.least)<=age
   case neg=>
    rw[Jo h1,EW,Jb (by intro z;cases z)]at q
    exact Qe (Jo h1) #[_,Z,zx (q _ (GS.refl H))]
   rw[Ji h1,E6]at q;refine zP (Ji h1) ?_
   refine#[_,Z,m,_,Z,d.g_keys,_,_,Z,Z,_,Z,?_]
   by_cases r:age<(D.kss.length:Int)
   case neg=>
    rw[Jo r,Jb (by intro z;cases z)]at q
    rw[Jo r];exact zx (q _ (GS.refl H))
   rw[Ji r,Jc Z]at q;rw[Ji r];refine zw ?_
   refine#[_,Z,_,Z,x,_,_,_,Z,Z,G9.of G,Z,_,_,Z,Z,?_]
   refine#[_,Z,_,_,Z,Z,_,Z,?_]
   by_cases n:c-e.last<1
   ·rw[Jc (.inl n)]at q
    exact zP (Ji n) (zx (q _ (GS.refl H)))
   refine Qe (Jo n) ?_
   refine#[_,Z,_,Z,m,_,Z,d.g_far,_,_,Z,Z,_,Z,?_]
   by_cases l:c-e.last>D.far
   ·rw[Jc (.inr l)]at q
    exact zP (Ji l) (q _ (GS.refl H))
   refine Qe (Jo l) ?_
   rw[Jb (show¬(c-e.last<1\/c-e.last>D.far)fromλz=>z.elim n l)]at q
   refine#[_,Z,_,Z,m,_,Z,d.g_near,_,_,Z,Z,_,Z,?_]
   by_cases C:c-e.last<=D.near
   ·rw[Jc (.inl C)]at q
    exact zP (Ji C) (zx (q _ (GS.refl H)))
   refine Qe (Jo C) ?_
   refine#[_,Z,x,_,_,_,Z,Z,G9.of G,Z,_,Z,_,Z,_,_,Z,Z,GJ,λt J=>?_]
   have u:=GS.upd (o:= .tup [.int age,.int (c-1)]) J
   refine#[e.wt,t,age,c-1,O.same u,Z,.inl qc,_,Z,?_]
   by_cases B:e.wt=↑(age,c-1)
   ·rw[Jc (.inr B)]at q
    exact zP (Ji B) (q _ u)
   ·rw[Jb (λz=>z.elim C B)]at q
    exact Qe (Jo B) (q _ u)
theorem nh(a:At K mg "_law_hear" cp ["_law_own","_law_plain_here"])(T:HN K mg tk)(xW:Df P w K mg base "_law_word" X2 1 oP):Df P w K mg base "_law_hear" X2 2 fq:=by
 refine a.dq Ij λf _ A _ s H vs Q E r h=>?_
 ·obtain⟨m,kd,p,D,nm,age,c,rfl,md,hp,ok,nf,q⟩:=h
  refine#[_,(qe (q9 (qy (qd (qp xW r.mo (qd (qv 0) (qd (qv 1) qb))) (qd (qv 1) qb))) (ze Z (ql (qh (i:=2) Ij.nd Z (Or.inl Z)) (ql (ze Z (ql (qh (i:=3) Ij.nd Z (Or.inl Z)) (ql (qh (i:=4) Ij.nd Z (Or.inl Z)) (ql (qh (i:=5) Ij.nd Z (Or.inl Z)) qM)))) qM))))
   (qe (qK (qE zE (qv 2) qA (qB _)) (qg (Qw r (zJ r (qv 0) qA) (qv 3) (qy (qd (qv 4) (qd (qv 5) (qd zd qb)))))) qF)
   (qe (qK (qE zE (qv 2) qA (qB _)) (qg (Qw r (zJ r (qv 0) qA) (qv 3) (qu Z7 (Qh fu (zJ r (zJ r (qv 0) qA) (qv 3)) QK (QH qf)) (qy (qd (qy (qd (qv 4) (qd (qv 5) qb))) qb))))) qF)
   (qg (qr (zS zE (qv 2) qA (qB _))))))),?_]
  refine#[_,Z,_,Z,m,kd,p,D,nm,age,c,Z,md,hp,λH1 s1=>#[_,Z,GJ,λt ht=>?_]]
  have u:=GS.upd (o:= .tup [.str (zv D nm age c),.ref p]) ht
  have L:=s1.trans u;have d:=md.same L;have N:=hp.same L;refine#[t,_,Z,.tup qc,Z,_,_,Z,_,_,Z,p,_,Z,N.k,Z,_,_,Z,_,_,Z,_,_,Z,Z,Z,?_]
  have j:=rj (age:=age) (c:=c) (nm:=nm) ok.nd nf
  generalize GW H1 t (.tup [.str (zv D nm age c),.ref p])=H2 at *
  refine#[_,Z,Z,_,Z,?_]
  obtain⟨f0,hd,_⟩:=id d.kn
  by_cases h1:zv D nm age c="open"
  ·refine zP (Ji (by rw[h1])) ?_
   cases G:D.kn.lookup nm with
   |none=>unfold zv at h1;rw[G]at h1;exact absurd h1 (show¬(("":Str)="open") by decide)
   |some e=>
   rw[G]at j;simp only at j
   rw[Jc h1]at j;refine#[_,Z,_,Z,GK,λt3 X=>?_]
   have u3:=GS.upd (o:= .tup [.int age,.int c,.non]) X
   have n:=d.same u3;obtain⟨H4,O,m4,a0⟩:=n.kn.put nm (a:=t3) (e:=#[age,c,none]) (by have:=ok.nl;omega) #[.non,qc,Z]
   refine#[_,Z,m,_,Z,n.g_known,_,Z,kd,H4,Z,O,?_]
   have M:=n.putK m4 a0;refine#[_,Z,Z,_,Z,Qe (Jo (by rw[h1];intro z;injection z with z;exact absurd z ⋯)) ?_]
   refine#[_,Z,Z,?_]
   rw[<- j]at M
   have:=q H4 ((L.trans u3).mv.trans (m4.mono λc h z=>h (by rw[Jh.mp z];simp))) M
   rw[Ji (show V.str (zv D nm age c)=V.str "open" by rw[h1])]
   rw[Ji h1]at this;exact this
  ·refine Qe (Jo (by intro z;injection z with z;exact h1 z)) ?_
   refine#[_,Z,Z,_,Z,?_]
   have I:∀H',Mv [m,kd] H H'->Ht H' m kd {D with kn:=Hj D nm age c}->Q (.bl (decide (V.str (zv D nm age c)=V.str "open"))) H':=λH' m' d'=>by
    have:=q H' m' d'
    rw[Jo h1]at this;rw[Jo (show¬V.str (zv D nm age c)=V.str "open" by intro z;injection z with z;exact h1 z)]
    exact this
   by_cases l:zv D nm age c="wait"
   ·refine zP (Ji (by rw[l])) ?_
    rcases d.kn.get nm with⟨G,g⟩|⟨e,x,G,g,v,hx,hw⟩
    ·unfold zv at l;rw[G]at l;exact absurd l (show¬(("":Str)="wait") by decide)
    rw[G]at j;simp only at j
    rw[Jb h1,Jc l]at j;refine#[_,Z,m,_,Z,d.g_known,_,Z,kd,_,Z,g,_,Z,x,_,Z,hx,λy H3 s3 U _=>?_]
    have U:H3 y=↑(.tup [.int e.age,.int e.last]):=U
    refine#[_,Z,_,Z,GJ,λB S=>#[GI,λt5 W=>?_]]
    have u4:=GS.upd (o:= .tup [.int age,.int c]) S
    have R:=GS.upd (o:= .tup [.ref B]) W
    have e4:(GW (GW H3 B (.tup [.int age,.int c])) t5 (.tup [.ref B])) B=↑(.tup [.int age,.int c]):=R _ _ qc
    refine#[y,t5,_,_,Z,Z,R _ _ (u4 _ _ U),qc,GK,λt6 H6 s6 C=>?_]
    have C:H6 t6=↑(.tup [.int e.age,.int e.last,.ref B]):=C
    have S6:=((s3.trans u4).trans R).trans s6;have F:=d.same S6;obtain⟨H7,O,m7,Y⟩:=F.kn.put nm (a:=t6) (e:=#[e.age,e.last,↑(age,c)]) (by have:=ok.nl;omega) #[.ref B,C,B,Z,s6 _ _ e4]
    refine#[_,Z,m,_,Z,F.g_known,_,Z,kd,H7,Z,O,?_]
    have J:=F.putK m7 Y;rw[<- j]at J
    exact#[_,Z,Z,I H7 ((L.trans S6).mv.trans (m7.mono λc h z=>h (by rw[Jh.mp z];simp))) J]
   ·refine Qe (Jo (by intro z;injection z with z;exact l z)) ?_
    refine#[_,Z,Z,I H2 L.mv ?_]
    have:Hj D nm age c=D.kn:=by
     rw[j];cases D.kn.lookup nm with
     |none=>rfl
     |some e=>simp only;rw[Jb h1,Jb l]
    rw[this];exact d
theorem mP(h:Df P w K mg base "_law_hear" X2 2 fq):Df P w K mg base "_law_hear" X2 2 ie:=h.weak λvs H Q E h=>Bs h
theorem l6(a:At K mg "_law_press" aY ["_law_code","_law_plain_here","_law_deed"])(T:HN K mg tk)(B:Df P w K mg base "press_of" W7 3 (pD K)):Df P w K mg base "_law_press" X6 4 gj:=by
 refine a.dq Ir λf _ A _ s H vs Q E x h=>?_
 ·obtain⟨cd,tb,kt,p,t,kss,nm,age,c,d,rfl,e,z,C,u,M,F,J,I,r,q⟩:=h
  refine#[_,(qe (q9 (qv 1) (ze Z (ql (qh (i:=3) Ir.nd Z (Or.inl Z)) (ql (qh (i:=4) Ir.nd Z (Or.inl Z)) (ql (qh (i:=5) Ir.nd Z (Or.inl Z)) qM)))))
   (qg (qr (qp B x.mo (qd (qC qO (qv 0) qf) (qd (qC qO (qC qO (qv 0) qf) (qv 4)) (qd (qv 3) (qd (qv 4) (qd (qv 5) (qd (qv 2) qb)))))))))),?_]
  refine#[_,Z,p,_,Z,.tup z,Z,_,_,Z,_,_,Z,_,_,Z,Z,?_]
  obtain⟨N,n,L,l⟩:=id e.ks;obtain⟨v,g,j⟩:=BN (D:=#[t,kss,0,0,0,0,[]]) L l M F
  refine#[_,Z,cd,_,_,_,Z,Z,G9.of e.e,Z,_,Z,cd,_,_,_,Z,Z,G9.of e.e,Z,_,Z,kt,_,_,_,Z,Z,n.up,g,_,Z,_,Z,_,Z,_,Z,tb,v,nm,age,c,d,t,_,Z,.inr (.inl e.tb),.inr j.up,u,by rw[C.length_eq];rfl,J,I,r,λy G H1 o h1 m=>q y H1 o #[G,h1,m]]
theorem jN(a:At K mg "_law_copied" af ["_law_own"])(T:HN K mg tk):Df P w K mg base "_law_copied" ["_law_own"] 1 mW:=by
 refine a.dq IU λf _ A _ s H vs Q E C h=>?_
 ·obtain⟨m,kd,D,rfl,G,q⟩:=h
  refine#[_,(qe (qw (i:=1) IU.nd Z (Or.inl Z) (qH gC T.b_dict PyProof.Rows.boot_dict (qd (qv 0) qb)))
   (qe (Qw C (qv 1) qA (qH gC T.b_dict PyProof.Rows.boot_dict (qd (zJ C (qv 0) qA) qb)))
   (qg (qr (qv 1))))),?_]
  refine#[_,Z,m,_,Z,G.di,λj g=>?_]
  have x:=GS.upd (o:= .dK (ZT D kd)) g
  have p:=G.same x;obtain⟨v,I,u,y,t⟩:=id p.kn;refine#[_,Z,m,_,Z,p.g_known,kd,_,Z,I,λn d=>?_]
  have r:=GS.upd (o:= .dK (cU v.1 v.2)) d
  have B:=r _ _ (qc (H:=H) (a:=j) (o:= .dK (ZT D kd)))
  have l:n≠j:=(qo (qc (H:=H) (a:=j) (o:= .dK (ZT D kd))) d).symm
  refine#[_,Z,j,_,Z,Lq.k (k:=Sum.inr "known") B (sN _ (by show 5<=100;decide)),#[_,Z,?_]]
  refine q j n _ (λc o F=>?_) g (QU d x) #[by rw[qc,uP],#[v,?_,λe J=>?_,y,t],l.symm]
  ·rw[qm (qo F g)];exact r _ _ (x _ _ F)
  ·rw[qm l];exact qc
  ·have z:=u e J
   exact(z.same r).mv (S:=[j]) Mv.upd1 (NT.one B trivial)
end
section
variable{P:Ξ}{w:Ω}{K:ι}{mg:GQ}{base:Ψ}{tk:Nat->Tok}{C:Δ}
theorem kL(a:At K mg "_law_heard" bi ["_law_code","_law_pair_here","_law_plain_here","_law_places"])(T:HN K mg tk)(U:Iz K C)(xR:Mf P w K mg base C "hear" V3 6 (oX K C))(dP:Df P w K mg base "_law_press" X6 4 gj)(dI:Df P w K mg base "_law_hear" X2 2 ie):Df P w K mg base "_law_heard" X8 7 (lj K C):=by
 refine a.dq Ld λf _ A _ s H vs Q E hr h=>?_
 ·obtain⟨cd,tb,kt,pl,p,ps,b,c,H0,t,kss,xs,nm,age,n,m,ba,rfl,pw,lx,hc,hn,a0,a1,n0,n1,hp,N,R,O,hx,q⟩:=h
  refine#[_,(qg (zn JQ Z (Zv (qv 3)) (qh (i:=4) Ld.nd Z (Or.inl Z))
   (qe (zm (zf xR U.cl hr.mo (qC qO (qC qG (qv 1) (qv 4)) qf) (qd (qp dP hr.mo (qd (qv 0) (qd (qv 2) (qd qf qb)))) qb)))
   (qg (zm (qp dI hr.mo (qd (qC qO (qC qG (qv 1) (qv 4)) qf) (qd (qv 2) qb)))))))),?_]
  refine#[_,Z,ps,Z,#[_,.inl N],?_]
  have Y:m.length<=2:=by
   match m,R,O with
   | [],_,_=>exact Jy _
   | [_],_,_=>exact(by decide:1<=2)
   | [_,_],_,_=>exact Jf 2
   |x::y::z::r,nd,h=>
    have h1:=h x (by simp)
    have h2:=h y (by simp)
    have h3:=h z (by simp)
    simp only[Fg,Jm,not_or]at nd;lia
  refine ia (K:=K) (a:=ps) (xs:=m.map λi:Nat=>V.int (i:Int)) (λj σ Hx=>∃e,Pw K C H0 Hx b c pl e/\Io Hx cd tb kt t kss/\Hx p=↑(.tup [.str nm,.int age,.int n])/\Rd Hx ps (.tup (m.map λi:Nat=>V.int (i:Int)))/\Ll (λi D=>if i∈m.take j then{D with kn:=Hj D nm age n}else D) j xs e/\∃o4,σ=[↑(.ref cd),↑(.ref pl),↑(.ref p),↑(.ref ps),o4]) #[xs,pw,hc,hp,N,(Ll.refl xs).ext (λi x hi=>by simp),_,Z] (λj σ Hx _ h=>let⟨_,_,_,_,r,_⟩:=h;.inl r) ?_ ?_
  ·rintro j z σ Hx W ⟨e,o,v,u,B,st,o4,rfl⟩
   rw[Jn]at W;cases ei:m[j]? with
   |none=>rw[ei]at W;cases W
   |some i=>
   rw[ei]at W;cases W;have a2:=JP ei;have hi:=O i a2;have hj:j<m.length:=(Js.mp ei).1
   have b2:i<xs.length:=by rw[lx];exact hi
   have ex:=Jg b2;obtain⟨x,rx⟩:∃x,x=xs[i]:=#[_,Z]
   rw[<- rx]at ex;have nin:i∉m.take j:=λz=>by
    obtain⟨k,hk,ek⟩:=List.mem_iff_getElem.mp z;rw[List.getElem_take]at ek;rw[EX]at hk
    exact(List.pairwise_iff_getElem.mp R) k j (by lia) hj (by lia) (ek.trans (Js.mp ei).2.symm)
   obtain⟨S,g,ll⟩:=st.2 i x ex;have g:e[i]? =↑(x.1,x.2.1,S):=by rw[g];show ↑(x.1,(if i∈m.take j then _ else x.2.1),S)=_;rw[Jb nin]
   obtain⟨M,b4⟩:=hx i x ex;have tp:t.Perm HW:=M.t▸M.ok.tp
   have en:=o.en i _ g;simp only at en
   have X:zY (e.map λx=>V.ref x.1.e) (i:Int)=↑(.ref x.1.e):=o.at (x:=(x.1,x.2.1,S)) g
   refine#[_,Z,_,Z,pl,_,_,_,Z,Z,G0.of o.pe,X,x.1.e,_,_,_,Z,Z,G9.of en.tu,Z,x.1.a.p,Z,en.dl.dr.no,_,Z,_,Z,cd,tb,kt,p,t,kss,nm,age,n,3,Z,v,u,tp,hn,a0,a1,n0,n1,#[⋯,⋯],λpr H2 L b1=>?_]
   have F:=o.same L;have I:=en.same L;have a8:=eI (kss:=kss) (age:=age) tp hn n0 n1 (d:=3) #[⋯,⋯]
   refine#[x.1.a,x.2.1,S,.ref pr,↑(Qm t kss nm age n 3),Z,I.dl,by lia,M.ok,#[pr,Z,b1,a8],(λz=>by cases z),λPP hP b5 q' H3 b3 m3 _ _ d3=>?_]
   cases hP;rw[mK M n0 n1 #[⋯,⋯],vp]at d3
   have a3:=tD m3;have G:=I.door a3 d3;have J:Mv (eS x.1) H2 H3:=iq a3
   have a5:=F.np i _ g;have a6:H3 pl=↑(.lst (e.map λx=> .ref x.1.e)):=J _ _ a5 F.pe
   have N2:NT (eS x.1) H2:=I.nt
   have a4:=J.tup N2 (L _ _ u);refine#[_,Z,_,Z,pl,_,_,_,Z,Z,G0.of a6,X,x.1.e,_,_,_,Z,Z,G9.of G.tu,Z,_,Z,x.1.m,x.1.kd,p,x.2.1,nm,age,n,Z,G.md,a4,M.ok,M.f0,λH4 m4 a7=>?_]
   have b0:=G.model m4 a7;have l:Mv (eS x.1) H2 H4:=J.trans (iB m4)
   refine#[_,F.step g l b0,(v.same L).mv l N2,l.tup N2 (L _ _ u),l.rd N2 (Rd.same L B),?_,_,Z]
   refine Ll.set (x:=x) st ex (by show _=↑(x.1,(if i∈m.take j then _ else x.2.1),S);rw[Jb nin];exact g) (by simp) ?_ (λk hk=>?_)
   ·show(if i∈m.take (j+1)then _ else _)=_
    rw[Jc (by rw[J9,ei];simp)]
   ·funext D
    have:k∈m.take (j+1)↔k∈m.take j:=by rw[J9,ei];simp;exactλz=>absurd z hk
    by_cases z:k∈m.take j
    ·rw[Jc z,Jc (this.mpr z)]
    ·rw[Jb z,Jb (λw=>z (this.mp w))]
  ·rintro σ Hx ⟨e,o,v,u,B,st,o4,rfl⟩
   refine q Hx e o v ?_
   rw[Je,E5]at st;exact st.mono Y
theorem iM(a:At K mg "_law_learnt" aH ["_law_code","_law_pair_here","_law_name","_law_told"])(T:HN K mg tk)(U:Iz K C)(xL:Mf P w K mg base C "learn" ["self","one","other"] 7 (iZ K C))(dP:Df P w K mg base "_law_press" X6 4 gj):Df P w K mg base "_law_learnt" W3 8 (jB K C):=by
  refine a.dq HM λf _ A _ s H vs Q E hr h=>?_
  · obtain⟨cd,tb,kt,pl,tl,b,c,H0,t,kss,xs,nm,I,rfl,pw,lx,hc,hn,ho,lo,d5,hx,f2,q⟩:=h
    refine#[_,(qg (zn JQ Z (zC Z T.b_range (qd qf qb)) (qh (i:=4) HM.nd Z (Or.inl Z))
      (qg (qK (qE aa (qC qG (qv 3) (qv 4)) zd (qB _)) (qe (q9 (qC qG (qv 3) (qv 4)) (ze Z (ql (qh (i:=5) HM.nd Z (Or.inr Z)) (ql (qh (i:=6) HM.nd Z (Or.inl Z)) qM))))
      (qe (Z8 (i:=7) HM.nd Z (Or.inl Z) (own:=["_law_count"]) (fr:=["_law_name","_law_code","_law_age"]) (js:=[2,0,5]) Z (Zv (qy (qd (qu zO (qv 6) qf) (qd (qv 6) qb)))) Z (Ev Z Z Z) Z (ED Z nofun nofun nofun Z Z Z Z Z Z Z Z Z) (λ_ _ _ _=>qh (i:=0) (show List.Nodup (["_law_count","_law_name","_law_code","_law_age"]:Α)from by decide +kernel) Z (Or.inl Z) (.inr Z)) (λ_ _ _ _=>(qp dP hr.mo (qd (qv 2) (qd (qy (qd (qv 1) (qd (qv 3) (qd (qv 0) qb)))) (qd qf qb))))))
      (qe (zm (zf xL U.cl hr.mo (qC qO (qC qG (qv 1) (qv 4)) qf) (qd (qC qG (qv 7) qf) (qd (qC qG (qv 7) qf) qb))))
      (qg (Qw hr (zJ hr (qC qO (qC qG (qv 1) (qv 4)) qf) qA) (qv 2) (qy (qd (qv 5) (qd (qv 6) (qd zd qb))))))))) qF)))),?_]
    refine#[_,Z,⋯,⋯,?_]
    refine Qf (n:=2) (Pv:=λj σ Hx=>∃r,Pw K C H0 Hx b c pl r/\Io Hx cd tb kt t kss/\Lg Hx tl I/\(∀c ys,H c=↑(.tup ys)->Hx c=↑(.tup ys))/\Ll (λi D=>if i<j then c6 nm D (I.getD i none)else D) j xs r/\∃o4 o5 o6 o7,σ=[↑(.ref cd),↑(.ref pl),↑(.str nm),↑(.ref tl),o4,o5,o6,o7]) #[xs,pw,hc,ho,(λ_ _ h=>h),(Ll.refl xs).ext (λi x hi=>by simp),_,_,_,_,Z] ?_ ?_
    · rintro j σ Hx hj ⟨r,J,W,S,R,st,o4,o5,o6,o7,rfl⟩
      have f5:j<xs.length:=by rw[lx];exact hj
      have ex:=Jg f5;obtain⟨x,rx⟩:∃x,x=xs[j]:=#[_,Z]
      rw[<- rx]at ex;obtain⟨L1,u,ll⟩:=st.2 j x ex;simp only[EU,JD]at u;obtain⟨Y,l0,f9,g3,g5⟩:=hx j x ex;have en:=J.en j _ u;simp only at en
      obtain⟨vs,b5,e5,d2⟩:=id S;have hv:j<vs.length:=by rw[e5,lo];exact hj
      have a5:j<I.length:=by rw[lo];exact hj
      have a8:zY vs (0+(j:Int))=some vs[j]:=by rw[Int.zero_add];exact Qo (Jg hv)
      have F:=d2 j vs[j] I[j] (Jg hv) (Jg a5);have a7:I.getD j none=I[j]:=by rw[Jz,Jg a5];rfl
      have b2:∀{f:Nat->Dr->Dr} {a3:β},Ll f (j+1) xs a3->f j x.2.1=c6 nm x.2.1 I[j]->(∀i,i≠j->f i=λD=>if i<j then c6 nm D (I.getD i none)else D)->Ll (λi D=>if i<j+1 then c6 nm D (I.getD i none)else D) (j+1) xs a3:=λh e1 e2=>h.ext λi y hi=>by
        by_cases z:i=j
        · subst z
          rw[ex]at hi;cases hi
          rw[e1,Jc (by lia),a7]
        · rw[e2 i z]
          simp only
          by_cases w:i<j
          · rw[Jc w,Jc (by lia)]
          · rw[Jb w,Jb (by lia)]
      refine#[_,Z,_,Z,tl,vs,_,_,Z,Z,G0.of b5,a8,Z,_,Z,?_]
      cases eo:I[j]with
      | none=>
        rw[eo]at F;have F:vs[j]= .non:=F
        refine Qe (by rw[F];rfl) #[r,J,W,S,R,?_,_,_,_,_,Z]
        exact b2 (st.mono (by lia)) (by rw[eo];simp [c6]) (λi hi=>rfl)
      |some al=>
      obtain⟨B,l⟩:=al;rw[eo]at F;obtain⟨tt,b0,d0⟩:=F;obtain⟨a0,a1,g2,g6⟩:=f2 B l (eo▸Fi a5)
      refine zP (by rw[b0];rfl) ?_
      refine#[_,Z,_,Z,tl,vs,_,_,Z,Z,G0.of b5,a8,tt,_,b0,.tup d0,Z,_,_,Z,_,_,Z,Z,?_]
      refine#[_,Z,_,_,Z,Z,_,Z,GJ,λtq f0=>#[tq,Z,#[_,G9.of qc],?_]]
      have uq:=GS.upd (o:= .tup [.int (l-1),.int l]) f0
      have c1:=W.same uq;have e9:(GW Hx tq (.tup [.int (l-1),.int l])) tq=↑(.tup [.int (l-1),.int l]):=qc
      have f3:=J.same uq;have d7:=S.same uq;generalize GW Hx tq (.tup [.int (l-1),.int l])=Hq at *
      refine Q5 (K:=K) (a:=tq) (xs:=[.int (l-1),.int l]) (GJ) (λi ys Hy=>GS Hq Hy/\∃N:Η,ys=N.map V.ref/\N.length=i/\∀(k:Nat) (p:Δ),N[k]? =↑p->IW Hy p (Qm t kss nm B (l-1+(k:Int)) 0)) #[GS.refl _,[],Z,Z,λk p h=>by cases h] (λi ys Hy h=>G9.of (h.1 _ _ e9)) ?_ ?_
      · rintro i ys Hy z hz f4 ⟨sy,N,rfl,a4,X⟩
        have c4:i<2:=(Js.mp hz).1
        have ez:z= .int (l-1+(i:Int)):=by
          match i,c4,hz with
          |0,_,hz=>cases hz;show V.int (l-1)=V.int (l-1+0);rw[Int.add_zero]
          |1,_,hz=>cases hz;show V.int l=V.int (l-1+1);rw[Int.sub_add_cancel]
        subst ez;refine#[_,Z,_,Z,_,Z,_,Z,GK,λp hp=>?_]
        have up:=GS.upd (o:= .tup [.str nm,.int B,.int (l-1+(i:Int))]) hp
        refine#[cd,tb,kt,p,t,kss,nm,B,l-1+(i:Int),0,Z,(c1.same sy).same up,qc,(Y.t▸Y.ok.tp),hn,a0,a1,by lia,by lia,#[⋯,⋯],λpr Hz sz f1=>#[(sy.trans up).trans sz,N++[pr],by simp,by simp [a4],λk p' hk=>?_]]
        by_cases c0:k<N.length
        · rw[JT c0]at hk
          exact HU.same (up.trans sz) (X k p' hk)
        · rw[JY (by lia)]at hk
          cases ek:k-N.length with
          | zero => rw[ek]at hk;cases hk;obtain rfl:k=i:=by lia
                    exact f1
          |succ m=>rw[ek]at hk;cases hk
      rintro ys Hy f4 ⟨sy,N,rfl,a4,X⟩ L b3
      obtain⟨O,M,rfl⟩:∃O M,N=[O,M]:=by
        match N,a4 with
        | [O,M],_=>exact#[O,M,Z]
      have ur:=GS.upd (o:= .lst (([O,M]:Η).map V.ref)) b3
      have Sr:=sy.trans ur;have a2:(GW Hy L (.lst (([O,M]:Η).map V.ref))) L=↑(.lst [.ref O,.ref M]):=qc
      have b8:=HU.same ur (X 0 O Z);have c3:=HU.same ur (X 1 M Z);have G:=f3.same Sr;have c2:=d7.same Sr;have d9:=c1.same Sr;generalize GW Hy L (.lst (([O,M]:Η).map V.ref))=Hr at *
      have er:=G.en j _ u;simp only at er
      have b4:zY (r.map λx=>V.ref x.1.e) (0+(j:Int))=↑(.ref x.1.e):=by rw[Int.zero_add];exact G.at (x:=(x.1,x.2.1,L1)) u
      refine#[_,Z,_,Z,pl,_,_,_,Z,Z,G0.of G.pe,b4,x.1.e,_,_,_,Z,Z,G9.of er.tu,Z,x.1.a.p,Z,er.dl.dr.no,_,Z,L,_,_,_,Z,Z,G0.of a2,Z,_,Z,L,_,_,_,Z,Z,G0.of a2,Z,?_]
      have g4:l-1+((1:Nat):Int)=l-1+1:=Z
      have d6:l-1+((0:Nat):Int)=l-1:=Int.add_zero _
      rw[d6]at b8;have g1:=gD (nm:=nm) (d:=0) Y (l0 B l (a7.trans eo)) a1 (show 0<=l-1 by lia) (by lia) #[⋯,⋯]
      have e6:=gD (nm:=nm) (c:=l-1+1) (d:=0) Y (l0 B l (a7.trans eo)) a1 (by lia) (by lia) #[⋯,⋯]
      have tp:t.Perm HW:=Y.t▸Y.ok.tp
      refine#[x.1.a,x.2.1,L1,O,M,Qm t kss nm B (l-1) 0,Qm t kss nm B (l-1+1) 0,l-1,0,0,Z,er.dl,by lia,Y.ok,b8,c3,eI tp hn (by lia) (by lia) #[⋯,⋯],eI tp hn (by lia) (by lia) #[⋯,⋯],g1,e6,Z,Z,f9,Y.rm,λHs ms ds=>?_]
      have b7:=tD ms;have es:=er.door b7 ds;have b1:Mv (eS x.1) Hr Hs:=iq b7
      have d3:=G.np j _ u;have e8:Hs pl=↑(.lst (r.map λx=> .ref x.1.e)):=b1 _ _ d3 G.pe
      have Nr:NT (eS x.1) Hr:=er.nt
      refine#[_,Z,_,Z,GK,λt3 d1=>?_]
      have u3:=GS.upd (o:= .tup [.int B,.int l,.non]) d1
      have e3:=es.same u3;have a6:=e3.md;obtain⟨H4,d4,m4,g0⟩:=a6.kn.put nm (a:=t3) (e:=#[B,l,none]) (by lia) #[.non,qc,Z]
      refine#[_,Z,_,Z,pl,_,_,_,Z,Z,G0.of (u3 _ _ e8),b4,x.1.e,_,_,_,Z,Z,G9.of e3.tu,Z,x.1.m,_,Z,a6.g_known,_,Z,x.1.kd,H4,Z,d4,?_]
      have e7:=a6.putK m4 g0;have b6:Mv [x.1.m,x.1.kd] _ H4:=m4.mono (λc h z=>h (by rw[Jh.mp z];simp))
      have e4:=e3.model b6 e7;have v:Mv (eS x.1) Hr H4:=(b1.trans u3.mv).trans (iB b6)
      have d8:l-1+1=l:=by lia
      rw[d8]at e4;have e0:Lj K C H4 x.1 {x.2.1 with kn:=zc x.2.1.kn nm #[B,l,none]} (L1++[.learn (Qm t kss nm B (l-1) 0) (Qm t kss nm B l 0)]) {x.2.1 with kn:=zc x.2.1.kn nm #[B,l,none]}:=e4
      refine#[_,G.step u v e0,d9.mv v Nr,c2.mv v Nr (d5 j x ex),(λc ys h=>v.tup Nr (Sr _ _ (uq _ _ (R c ys h)))),?_,_,_,_,_,Z]
      exact b2 (Ll.set (x:=x) (g:=λi D=>if i=j then c6 nm D I[j]else if i<j then c6 nm D (I.getD i none)else D) st ex (by simp only[EU,JD];exact u) (by simp) (by simp only[Fc];rw[eo];rfl) (λi hi=>by funext D;rw[Jb hi])) (by simp) (λi hi=>by funext D;rw[Jb hi])
    · rintro σ Hx ⟨r,J,W,S,R,st,o4,o5,o6,o7,rfl⟩
      exact q Hx r J W (st.ext λi x hi=>by
        have:i<2:=by rw[<- lx];exact(Js.mp hi).1
        rw[Jc this]) R
end
section
variable{P:Ξ}{w:Ω}{K:ι}{mg:GQ}{base:Ψ}{tk:Nat->Tok}
theorem jI(a:At K mg "_law_bounds" ay ["_law_box_here"])(T:HN K mg tk)(j:Df P w K mg base "_law_take" X0 1 QL):Df P w K mg base "_law_bounds" X7 2 jn:=by
 refine a.dq Ih λf _ A _ s H vs Q E g h=>?_
 ·obtain⟨b,c,rfl,hb,e,q⟩:=h
  refine#[_,(qe (qw (i:=1) Ih.nd Z (Or.inl Z) (qu qI qf (qp j g.mo (qd (qv 0) (qd qf qb)))))
   (qe (qw (i:=2) Ih.nd Z (Or.inl Z) (qu qI (qv 1) (qC qG (zo (qd qf (qd qf (qd qf (qd (qp j g.mo (qd (qv 0) (qd qf qb))) qb))))) (qp j g.mo (qd (qv 0) (qd qf qb))))))
   (qe (qw (i:=3) Ih.nd Z (Or.inl Z) (qC qG (zo (qd (qv 1) (qd (qv 1) (qd (qu qI qf (qp j g.mo (qd (qv 0) (qd qf qb)))) qb)))) (qp j g.mo (qd (qv 0) (qd qf qb)))))
   (qg (qr (zo (qd (qy (qd (qv 1) (qd (qv 2) qb))) (qd (qy (qd (qv 3) (qd (qu qI (qv 3) (qC qG (zo (qd (qu zO (qv 2) (qv 1)) (qd qf (qd qf (qd (qp j g.mo (qd (qv 0) (qd qf qb))) qb))))) (qp j g.mo (qd (qv 0) (qd qf qb))))) qb))) qb)))))))),?_]
  refine Z0 λD1 y1=>?_
  refine#[_,Z,b,4,c,Z,hb,bq 0 e,⋯,⋯,λd H1 a8 a7 g1=>#[_,_,Z,Z,y1 _ _ (Z0 λD2 y2=>?_)]]
  refine#[_,Z,_,Z,b,9,c+1,Z,g1.bx,bq 1 e,⋯,⋯,λr2 H2 S a3 g2=>#[GL,λl1 I=>?_]]
  have u2:=GS.upd (o:= .lst [.int 0,.int 1,.int 2,.int r2]) I
  have t:=(g1.trans g2).same u2;have n1:=qS g2.bx I;refine#[_,Z,b,4,c+1+1,Z,t.bx,bq 2 e,⋯,⋯,λr3 H3 N R g3=>?_]
  obtain⟨x,hx,hm⟩:=QJ (xs:=[V.int 0,.int 1,.int 2,.int r2]) N R
  obtain⟨z,rfl,z0,z1⟩:∃z:Int,x= .int z/\0<=z/\z<=8:=by
   simp only[Jm,JE,JF]at hm;rcases hm with rfl|rfl|rfl|rfl
   ·exact#[_,Z,⋯,⋯]
   ·exact#[_,Z,⋯,⋯]
   ·exact#[_,Z,⋯,⋯]
   ·exact#[_,Z,S,Int.le_of_lt_add_one a3]
  have D:=t.trans g3;refine#[l1,_,_,_,Z,Z,G0.of (g3.kp _ _ n1 qc),hx,_,_,Z,Z,?_]
  refine y2 _ _ (Z0 λD3 y3=>?_)
  refine#[_,Z,_,Z,_,Z,b,4,c+1+1+1,Z,D.bx,bq 3 e,⋯,⋯,λr4 H4 b1 b0 g4=>#[_,_,Z,Z,GK,λl2 C=>?_]]
  have u4:=GS.upd (o:= .lst [.int (1+d),.int (1+d),.int (1+r4)]) C
  have v:=(D.trans g4).same u4;have n2:=qS g4.bx C;refine#[_,Z,b,3,c+1+1+1+1,Z,v.bx,bq 4 e,⋯,⋯,λr5 H5 U a2 g5=>?_]
  obtain⟨x2,Y,n⟩:=QJ (xs:=[V.int (1+d),.int (1+d),.int (1+r4)]) U a2
  obtain⟨o,rfl,o0,o1⟩:∃o:Int,x2= .int o/\1<=o/\o<=4:=by
   simp only[Jm,JE,JF]at n;rcases n with rfl|rfl|rfl
   ·exact#[_,Z,by lia,by lia]
   ·exact#[_,Z,by lia,by lia]
   ·exact#[_,Z,by lia,by lia]
  have J:=v.trans g5;refine#[l2,_,_,_,Z,Z,G0.of (g5.kp _ _ n2 qc),Y,?_]
  refine y3 _ _ ?_
  refine#[_,Z,_,Z,GJ,λr L=>?_]
  have u6:=GS.upd (o:= .tup [.int (1+d),.int (1+d+z)]) L
  have M:=J.same u6;have F:=qS J.bx L;have a6:(GW H5 r (.tup [.int (1+d),.int (1+d+z)])) r=↑(.tup [.int (1+d),.int (1+d+z)]):=qc
  generalize GW H5 r (.tup [.int (1+d),.int (1+d+z)])=H6 at *
  refine#[_,Z,_,Z,_,Z,_,Z,_,_,Z,Z,_,Z,b,9,c+1+1+1+1+1,Z,M.bx,bq 5 e,⋯,⋯,λr6 H7 a4 W X=>#[GL,λl3 p=>?_]]
  have u7:=GS.upd (o:= .lst [.int (1+d+z-(1+d)),.int 0,.int 1,.int r6]) p
  have m:=(M.trans X).same u7;have n3:=qS X.bx p;refine#[_,Z,b,4,c+1+1+1+1+1+1,Z,m.bx,bq 6 e,⋯,⋯,λr7 H8 O a1 g8=>?_]
  obtain⟨x3,a0,B⟩:=QJ (xs:=[V.int (1+d+z-(1+d)),.int 0,.int 1,.int r6]) O a1
  obtain⟨y,rfl,y0,y1⟩:∃y:Int,x3= .int y/\0<=y/\y<=8:=by
   simp only[Jm,JE,JF]at B;rcases B with rfl|rfl|rfl|rfl
   ·exact#[_,Z,by lia,by lia]
   ·exact#[_,Z,⋯,⋯]
   ·exact#[_,Z,⋯,⋯]
   ·exact#[_,Z,a4,Int.le_of_lt_add_one W]
  have u:=m.trans g8;refine#[l3,_,_,_,Z,Z,G0.of (g8.kp _ _ n3 qc),a0,_,_,Z,Z,GJ,λt2 a5=>#[GJ,λl hl=>?_]]
  have v1:=GS.upd (o:= .tup [.int o,.int (o+y)]) a5
  have v2:=GS.upd (o:= .lst [.ref r,.ref t2]) hl
  have G:=(u.same v1).same v2;have e1:=v2 _ _ (v1 _ _ (g8.kp _ _ F (u7 _ _ (X.kp _ _ F a6))));exact q l r t2 (1+d) (1+d+z) o (o+y) _ G qc e1 (v2 _ _ qc) #[by lia,by lia,by lia,by lia] #[by lia,by lia,by lia,by lia] ((u.same v1).fresh (hb.mono (by lia)) hl)
theorem lR(a:At K mg "_law_drawn" aU ["_law_box_here"])(T:HN K mg tk)(B:Df P w K mg base "_law_take" X0 1 QL):Df P w K mg base "_law_drawn" X7 2 lQ:=by
 refine a.dq Iu λf _ A _ s H vs Q E y h=>?_
 ·obtain⟨b,c,rfl,hb,W,q⟩:=h
  refine#[_,(qe (qw (i:=1) Iu.nd Z (Or.inr Z) (zo (qd qA (qd qA (qd qA (qd qA (qd qA (qd qA (qd qA (qd qA (qd qA qb)))))))))))
   (qe (qw (i:=2) Iu.nd Z (Or.inl Z) (qC qG (zo (qd (qu qI qf (qp B y.mo (qd (qv 0) (qd qf qb)))) (qd (qu qI qf (qp B y.mo (qd (qv 0) (qd qf qb)))) qb))) (qH jG T.b_int GD (qd (zS zE (qp B y.mo (qd (qv 0) (qd qf qb))) qf (qB _)) qb))))
   (qe (Z8 (i:=3) Iu.nd Z (Or.inl Z) (own:=["_law_k"]) (fr:=["_law_some","_law_box_here"]) (js:=[1,0]) Z (zC Z T.b_range (qd (qv 2) qb)) Z (vM Z Z) Z (vY Z nofun nofun nofun Z Z Z Z Z Z) (λ_ _ _ _=>qh (i:=0) (show List.Nodup (["_law_k","_law_some","_law_box_here"]:Α)from by decide +kernel) Z (Or.inl Z) (.inr Z)) (λ_ _ _ _=>(kg (K:=K) Z EZ PySem.F.slot_list_pop PySem.F.type_list_pop gc (qv 1) (qd (qp B y.mo (qd (qv 2) (qd (qx (cF (K:=K) Z) T.b_len J6 (qd (qv 1) qb)) qb))) qb))))
   (qg (qr (qy (qd (qv 3) (qd (qC qG (zo (qd qf (qd qf (qd qf (qd qf (qd qf qb)))))) (qp B y.mo (qd (qv 0) (qd qf qb)))) (qd (qC qG (zo (qd qf (qd qf (qd qf (qd qf qb))))) (qp B y.mo (qd (qv 0) (qd qf qb)))) qb))))))))),?_]
  refine Z0 λD1 y1=>?_
  refine#[GN,λl hl=>?_]
  have u1:=GS.upd (o:= .lst (Hu.map V.str)) hl
  have d:l≠b:=qS hb hl
  have g1:=u1.grc hb;have el:(GW H l (.lst (Hu.map V.str))) l=↑(.lst (Hu.map V.str)):=qc
  have c4:∀x,H x=none->x≠l->(GW H l (.lst (Hu.map V.str))) x=none:=λx Y n=>by rw[qm n];exact Y
  have fr:H l=none:=hl
  have sm:GS H (GW H l (.lst (Hu.map V.str))):=u1
  have X:(GW H l (HO.lst [.str "a",.str "b",.str "ab",.str "ba",.str "aaaaaaaa",.str "aaaaaaab",.str "door",.str "gate",.str "x"]))=GW H l (.lst (Hu.map V.str)):=Z
  rw[X];generalize GW H l (.lst (Hu.map V.str))=Ha at *
  refine y1 _ _ (Z0 λD2 y2=>?_)
  refine#[_,Z,b,3,c,Z,g1.bx,bq 0 W,⋯,⋯,λR H1 c1 c0 g2=>#[_,_,Z,Z,?_]]
  refine#[_,Z,b,3,c+1,Z,g2.bx,bq 1 W,⋯,⋯,λO H2 b8 c3 g3=>#[_,_,Z,Z,GJ,λl2 L=>?_]]
  have u3:=GS.upd (o:= .lst [.int (1+R),.int (7+O)]) L
  have n2:=qS g3.bx L;have M:=(((g1.trans g2).trans g3).same u3);refine#[_,Z,b,8,c+1+1,Z,M.bx,bq 2 W,⋯,⋯,λr3 H3 b6 b7 g4=>#[Z,.inr #[_,Z,?_]]]
  have a7:H3 l=↑(.lst (Hu.map V.str)):=g4.kp _ _ d (u3 _ _ (g3.kp _ _ d (g2.kp _ _ d el)))
  have b3:H3 l2=↑(.lst [.int (1+R),.int (7+O)]):=g4.kp _ _ n2 qc
  have a2:=M.trans g4;generalize decide (V.int r3=V.int 5)=gg
  obtain⟨u,S,m1,m9⟩:∃u:Nat,zY [V.int (1+R),.int (7+O)] (if gg=true then 1 else 0)=↑(.int (u:Int))/\1<=u/\u<=9:=by
   cases gg with
   |true=>exact#[(7+O).toNat,by rw[Int.toNat_of_nonneg (by lia)];rfl,by lia,by lia]
   |false=>exact#[(1+R).toNat,by rw[Int.toNat_of_nonneg (by lia)];rfl,by lia,by lia]
  refine#[l2,_,_,_,Z,Z,G0.of b3,S,y2 _ _ (Z0 λD3 y3=>?_)]
  refine#[_,Z,_,Z,by lia,by lia,?_]
  rw[Fe];refine Zj (n:=u) (JG m9 ⋯) (λi ys Hx=>IQ b (c+3+i) H Hx/\∃g zs:Α,Hx l=↑(.lst (g.map V.str))/\ys=zs.map V.str/\g.length+i=9/\(zs++g).Perm Hu) #[a2,Hu,[],a7,Z,Z,.refl _] ?_ ?_
  ·rintro i ys Hx hi b5 ⟨C,g,zs,j,rfl,a5,pm⟩
   refine#[_,Z,.inl #[Z,_,G0.of j],?_]
   refine#[_,Z,_,Z,l,_,Z,.inl (G0.of j),b,_,_,Z,C.bx,by lia,by rw[Je];lia,by rw[Je];lia,λx Hy x0 x1 U=>?_]
   rw[Je]at x1;obtain⟨k,rfl⟩:∃k:Nat,x=(k:Int):=#[x.toNat,by lia]
   have hk:k<g.length:=by lia
   have a8:=U.kp _ _ d j;refine#[l,_,_,k,.str g[k],Z,Z,a8,by lia,by lia,?_,?_,?_]
   ·rw[Je];exact cY hk
   ·rw[Jn,Jg hk];rfl
   ·refine#[#[λc o G e=>?_,?_],g.eraseIdx k,zs++[g[k]],?_,by simp,?_,?_]
    ·have z:c≠l:=λz=>by rw[z,fr]at e;cases e
     rw[qm z];exact U.kp _ _ G (C.kp _ _ G e)
    ·obtain⟨n,m,k',e,r⟩:=U.bx
     exact#[n,m,k',by rw[qm d.symm];exact e,r]
    ·rw[qc,p6]
    ·rw[List.length_eraseIdx_of_lt hk];lia
    ·exact(t8 hk).trans pm
  rintro ys Hx b4 ⟨C,g,zs,j,rfl,a5,pm⟩ p hp
  rw[Je]at b4;have nd:(zs++g).Nodup:=pm.nodup_iff.mpr nofun
  have up:=GS.upd (o:= .lst (zs.map V.str)) hp
  have G3:=C.same up;have np:=qS C.bx hp;have ep:(GW Hx p (.lst (zs.map V.str))) p=↑(.lst (zs.map V.str)):=qc
  have fp:=C.fresh (hb.mono (by lia)) hp
  generalize GW Hx p (.lst (zs.map V.str))=c2 at *
  refine y3 _ _ ?_
  refine#[_,Z,GM,λl3 I=>?_]
  have u5:=GS.upd (o:= .lst [.int 1,.int 2,.int 2,.int 3,.int 8]) I
  have n3:=qS G3.bx I;have G4:=G3.same u5;refine#[_,Z,b,5,c+3+u,Z,G4.bx,by lia,⋯,⋯,λr5 H5 a0 a6 g6=>?_]
  obtain⟨x,Y,hm⟩:=QJ (xs:=[V.int 1,.int 2,.int 2,.int 3,.int 8]) a0 a6
  obtain⟨D,rfl,k1,k8⟩:∃D:Nat,x= .int (D:Int)/\1<=D/\D<=8:=by
   simp only[Jm,JE,JF]at hm;rcases hm with rfl|rfl|rfl|rfl|rfl
   ·exact#[1,Z,⋯,⋯]
   ·exact#[2,Z,⋯,⋯]
   ·exact#[2,Z,⋯,⋯]
   ·exact#[3,Z,⋯,⋯]
   ·exact#[8,Z,⋯,⋯]
  have G5:=G4.trans g6;have a4:=g6.kp _ _ np (u5 _ _ ep);refine#[l3,_,_,_,Z,Z,G0.of (g6.kp _ _ n3 qc),Y,GL,λl4 J=>?_]
  have u6:=GS.upd (o:= .lst [.int 0,.int 0,.int 4076,.int 100]) J
  have n4:=qS G5.bx J;have G6:=G5.same u6;refine#[_,Z,b,4,c+3+u+1,Z,G6.bx,by lia,⋯,⋯,λr6 H6 b2 a1 g7=>?_]
  obtain⟨x2,a3,F⟩:=QJ (xs:=[V.int 0,.int 0,.int 4076,.int 100]) b2 a1
  obtain⟨v,rfl,b0,b1⟩:∃v:Int,x2= .int v/\0<=v/\v<=4076:=by
   simp only[Jm,JE,JF]at F;rcases F with rfl|rfl|rfl|rfl
   ·exact#[_,Z,⋯,⋯]
   ·exact#[_,Z,⋯,⋯]
   ·exact#[_,Z,⋯,⋯]
   ·exact#[_,Z,⋯,⋯]
  have G7:=G6.trans g7;refine#[l4,_,_,_,Z,Z,G0.of (g7.kp _ _ n4 qc),a3,GK,λt ht=>?_]
  have ut:=GS.upd (o:= .tup [.ref p,.int (D:Int),.int v]) ht
  refine q t p zs D v _ ((G7.same ut).mono (by lia)) qc (ut _ _ (g7.kp _ _ np (u6 _ _ a4))) fp #[(Fv.mp nd).1,λz hz=>?_,by lia,by lia,k1,k8,b0,b1] (λz hz=>pm.mem_iff.mp (FN _ hz))
  have N:=pm.mem_iff.mp (FN _ hz);simp only[Hu,Jm,JE,JF]at N;rcases N with rfl|rfl|rfl|rfl|rfl|rfl|rfl|rfl|rfl
  all_goals exact#[nofun,nofun,nofun]
end
section
variable{P:Ξ}{w:Ω}{K:ι}{mg:GQ}{base:Ψ}{tk:Nat->Tok}{C:Δ}
theorem nP(a:At K mg "_law_pair" cg ["_law_box_here","_law_drawn_here"])(T:HN K mg tk)(U:Iz K C)(yI:Mi P w K mg base C "Door" X4 1 (kj K C))(dU:Mf P w K mg base C "close_below" V1 1 (kW K C))(dA:Df P w K mg base "_law_take" X0 1 QL)(xS:Df P w K mg base "_law_table" X7 2 mJ)(yF:Df P w K mg base "_law_key" X7 2 pH)(xO:Df P w K mg base "_law_bounds" X7 2 jn)(xQ:Df P w K mg base "_law_model" W9 1 oo)(yL:Df P w K mg base "_law_learnt" W3 8 (jB K C))(xV:Df P w K mg base "_law_heard" X8 7 (lj K C)):Df P w K mg base "_law_pair" X5 9 (pI K C):=by
 refine a.dq GY λf _ A _ s H vs Q E Y h=>?_
 ·obtain⟨b,dr,nl,c,g,b2,F,rfl,hb,hc,hdr,e3,e5,ok,q⟩:=h
  have m1:=ok.m1;have m8:=ok.m8;have b0:=ok.b0;have b1:=ok.b1;refine#[_,(qe (q9 (qv 1) (ze Z (ql (qh (i:=2) GY.nd Z (Or.inl Z)) (ql (qh (i:=3) GY.nd Z (Or.inl Z)) (ql (qh (i:=4) GY.nd Z (Or.inl Z)) qM)))))
   (qe (qw (i:=5) GY.nd Z (Or.inl Z) (qy (qd (qp xS Y.mo (qd (qv 0) qb)) (qd (qH qX T.b_tuple J0 (qd (zA (own:=["_law_k"]) (fr:=["_law_box_here"]) (js:=[0]) Z (zC Z T.b_range (qd (qv 3) qb)) Z (gf Z) Z (iD Z nofun nofun nofun Z Z Z) (λ_ _ _ _=>qh (i:=0) (show List.Nodup (["_law_k","_law_box_here"]:Α)from by decide +kernel) Z (Or.inl Z) (.inr Z)) (λ_ _ _ _=>(Qh fu (qp yF Y.mo (qd (qv 1) qb)) QK (QH qf)))) qb)) qb))))
   (qe (qw (i:=6) GY.nd Z (Or.inl Z) (zo qb))
   (qe (zn JQ Z (zN (qp xO Y.mo (qd (qv 0) qb))) (ze Z (ql (qh (i:=7) GY.nd Z (Or.inl Z)) (ql (qh (i:=8) GY.nd Z (Or.inl Z)) qM)))
   (qg (zm (QZ EZ Fx Fy zT (qv 6) (qd (qy (qd (Ao yI Y.mo (qd (qC qO (qv 5) qf) (qd (qC qO (qv 5) qf) (qd (qv 7) (qd (qv 8) (qd qf qb)))))) (qd (qp xQ Y.mo (qd (qv 7) (qd (qv 8) (qd (qv 3) qb)))) qb))) qb)))))
   (qe (zn JQ Z (zN (qv 2)) (qh (i:=9) GY.nd Z (Or.inl Z))
   (qe (qw (i:=10) GY.nd Z (Or.inl Z) (qp dA Y.mo (qd (qv 0) (qd (qv 3) qb))))
   (qe (qw (i:=11) GY.nd Z (Or.inl Z) (qx (zW Z) T.b_min PyProof.Rows.boot_min (qd qf (qd (qu qI (qu qI (qv 4) qf) (qp dA Y.mo (qd (qv 0) (qd qf qb)))) qb))))
   (qe (qw (i:=12) GY.nd Z (Or.inl Z) (qy (qd (qp dA Y.mo (qd (qv 0) (qd (qv 3) qb))) (qd (qx (zW Z) T.b_min PyProof.Rows.boot_min (qd qf (qd (qu qI (qu qI (qv 4) qf) (qp dA Y.mo (qd (qv 0) (qd qf qb)))) qb))) qb))))
   (qe (qw (i:=13) GY.nd Z (Or.inl Z) (qp dA Y.mo (qd (qv 0) (qd qf qb))))
   (qe (qw (i:=14) GY.nd Z (Or.inl Z) (zo (qd (qy (qd (qv 10) (qd (qv 11) qb))) (qd (qy (qd (qv 10) (qd (qC qO (qv 12) qf) qb))) (qd (qy (qd (qC qO (qv 12) qf) (qd (qv 11) qb))) (qd zd qb))))))
   (qe (qw (i:=15) GY.nd Z (Or.inl Z) (zo (qd (qy (qd (qv 10) (qd (qv 11) qb))) (qd (qC qG (qv 14) (qx (Zg Z) T.b_max F4 (qd qf (qd (qu zO (qv 13) qf) qb)))) qb))))
   (qe (qK (qE zE (qp dA Y.mo (qd (qv 0) (qd qf qb))) qf (qB _)) (qg (zm (BI EZ PySem.F.slot_list_reverse PySem.F.type_list_reverse rR (qv 15)))) qF)
   (qg (zm (qp yL Y.mo (qd (qv 5) (qd (qv 6) (qd (qv 9) (qd (qv 15) qb)))))))))))))))
   (qe (zn JQ Z (zC Z T.b_range (qd (qp dA Y.mo (qd (qv 0) (qd qf qb))) qb)) (qh (i:=16) GY.nd Z (Or.inl Z))
   (qe (qw (i:=9) GY.nd Z (Or.inl Z) (qC qG (qv 2) (qp dA Y.mo (qd (qv 0) (qd (qx qY T.b_len J6 (qd (qv 2) qb)) qb)))))
   (qe (qw (i:=10) GY.nd Z (Or.inl Z) (qp dA Y.mo (qd (qv 0) (qd (qv 3) qb))))
   (qe (qw (i:=17) GY.nd Z (Or.inl Z) (qy (qd (qv 9) (qd (qv 10) (qd (qx (zW Z) T.b_min PyProof.Rows.boot_min (qd qf (qd (qu qI (qv 4) (qp dA Y.mo (qd (qv 0) (qd qf qb)))) qb))) qb)))))
   (qg (zm (qp xV Y.mo (qd (qv 5) (qd (qv 6) (qd (qv 17) (qd (qC qG (zo (qd (qy (qd qf (qd qf qb))) (qd (qy (qd qf (qd qf qb))) (qd (qy (qd qf qb)) (qd (qy (qd qf qb)) qb))))) (qp dA Y.mo (qd (qv 0) (qd qf qb)))) qb)))))))))))
   (qe (zn JQ Z (zN (qv 6)) (ze Z (ql (qh (i:=18) GY.nd Z (Or.inl Z)) (ql (qh (i:=19) GY.nd Z (Or.inl Z)) qM)))
   (qg (qK (qE zE (qp dA Y.mo (qd (qv 0) (qd qf qb))) qf (qB _)) (qe (qw (i:=10) GY.nd Z (Or.inl Z) (qp dA Y.mo (qd (qv 0) (qd (qv 3) qb))))
   (qe (zm (zf dU U.cl Y.mo (qv 18) (qd (qv 10) qb)))
   (qg (Qw Y (qv 19) qA (qx (Zg Z) T.b_max F4 (qd (zJ Y (qv 19) qA) (qd (qv 10) qb))))))) qF)))
   (qg (qr (qy (qd (qv 5) (qd (qv 6) qb)))))))))))),?_]
  have f9:(0:Int)<(b2:Int):=by lia
  have h7:(b2:Int)<1073741824:=by lia
  refine Z0 λDa ya=>?_
  refine#[_,Z,dr,_,Z,.tup hdr,Z,_,_,Z,_,_,Z,_,_,Z,Z,ya _ _ (Z0 λDb yb=>?_)]
  refine#[_,Z,b,c,Z,hb,by lia,λtb t H1 g1 p2 z9 tp=>?_]
  refine#[_,Z,_,Z,by lia,by lia,?_]
  rw[Fe];have ntb:tb≠b:=λz=>by obtain⟨_,_,_,e,_⟩:=hb;rw[z,e]at p2;cases p2
  refine Zj (n:=b2) (JG m8 ⋯) (λi ys Hx=>IQ b (c+16+9*i) H Hx/\Hx tb=↑(.tup (t.map V.int))/\∃(as:Η) (kss:List Β),ys=as.map V.ref/\as.length=i/\kss.length=i/\∀(j:Nat) (x:Δ) (z:Β),as[j]? =↑x->kss[j]? =↑z->Hx x=↑(.tup (z.map V.int))) #[g1,z9,[],[],Z,Z,Z,λj x z e=>by cases e] ?_ ?_
  ·rintro i ys Hx hi v7 ⟨G,et,as,kss,rfl,lA,lK,e4⟩
   refine#[_,Z,b,c+16+9*i,Z,G.bx,by lia,λp ks H2 g2 fp ep dk l1 l8=>#[_,Z,p,_,Z,ep,λy H3 s3 hy _=>?_]]
   rw[ci]at hy;have kp:∀{x:Δ} {xs:Ε},Hx x=↑(.tup xs)->H3 x=↑(.tup xs):=λ{x xs} e=>s3 _ _ (g2.kp _ _ (λz=>by obtain⟨_,_,_,eb,_⟩:=G.bx;rw[z,eb]at e;cases e) e)
   refine#[((G.trans g2).same s3).mono (by lia),kp et,as++[y],kss++[aD ks none ↑3],by simp,by simp [lA],by simp [lK],λj x z e1 e2=>?_]
   by_cases hj:j<as.length
   ·rw[JT hj]at e1
    rw[JT (by lia)]at e2
    exact kp (e4 j x z e1 e2)
   ·rw[JY (by lia)]at e1
    rw[JY (by lia)]at e2
    cases ej:j-as.length with
    |zero=>rw[ej]at e1;rw[show j-kss.length=0 by lia]at e2;cases e1;cases e2;exact hy
    |succ k=>rw[ej]at e1;cases e1
  rintro ys Hx v7 ⟨G,et,as,kss,rfl,lA,lK,e4⟩ l0 p0
  obtain rfl:kss.length=b2:=lK
  refine#[l0,_,Z,.inl #[G0.of qc,λkt r8=>#[GJ,λcd m6=>?_]]]
  have u1:=GS.upd (o:= .lst (as.map V.ref)) p0
  have u2:=GS.upd (o:= .tup (as.map V.ref)) r8
  have u3:=GS.upd (o:= .tup [.ref tb,.ref kt]) m6
  have S3:=(u1.trans u2).trans u3;have hC:Io (GW (GW (GW Hx l0 (.lst (as.map V.ref))) kt (.tup (as.map V.ref))) cd (.tup [.ref tb,.ref kt])) cd tb kt t kss:=#[qc,.inl (S3 _ _ et),as,.inl (.inl (u3 _ _ qc)),lA,λj x z e1 e2=> .inl (.inl (S3 _ _ (e4 j x z e1 e2)))]
  have G3:=G.same S3;generalize GW (GW (GW Hx l0 (.lst (as.map V.ref))) kt (.tup (as.map V.ref))) cd (.tup [.ref tb,.ref kt])=H3 at *
  clear e4 et u1 u2 u3 p0 r8 m6;refine yb _ _ (Z0 λDc yc=>?_)
  refine#[GH,λpl m2=>?_]
  have u4:=GS.upd (o:= .lst []) m2
  have G4:=G3.same u4;have e9:=hC.same u4;have z7:H b≠none:=λz=>by obtain⟨_,_,_,e,_⟩:=hb;rw[z]at e;cases e
  have c1:Pw K C H (GW H3 pl (.lst [])) b (c+16+9*kss.length) pl []:=#[λc o h e=>G4.kp c o (λz=>h (Jh.mpr z)) e,G4.bx,z7,(λi x h=>by cases h),(λi j x y _ h=>by cases h),(λi x h=>by cases h),qc,(λi x h=>by cases h),G3.fresh (hb.mono (by lia)) m2]
  generalize GW H3 pl (.lst [])=H4 at *
  have hk8:kss.length<=8:=m8
  refine yc _ _ (Z9 (λa5 H'=>∃xs o7 o8,Pw K C H H' b (c+95) pl xs/\xs.length=2/\(∀(i:Nat) (x:En),xs[i]? =↑x->IG t kss F x.2.1/\x.2.1.least=0/\x.2.1.kn=[]/\x.2.2=[])/\Io H' cd tb kt t kss/\a5=[↑(.ref b),↑(.ref dr),↑(.ref nl),↑(.int (kss.length:Int)),↑(.int F),↑(.ref cd),↑(.ref pl),o7,o8,none,none,none,none,none,none,none,none,none,none,none]) (λD' m0 a4=>?_) ?_)
  refine#[_,Z,b,c+16+9*kss.length,Z,c1.bx,by lia,λbl bx d7 n1 f1 n2 f2 H5 g5 o1 x8 s9 s7 bd2 x2=>#[bl,Z,#[_,G0.of o1],?_]]
  have g6:=(c1.grc g5);have x7:=e9.mv (S:=[b]) (λc o h e=>g5.kp c o (λz=>h (Jh.mpr z)) e) (zg c1.bx)
  have nbl:bl≠pl:=qo c1.pe x2 |>.symm
  refine Qj (K:=K) (a:=bl) (xs:=[.ref bx,.ref d7]) (λj σ Hy=>∃xs,Pw K C H Hy b (c+16+9*kss.length+7) pl xs/\xs.length=j/\(∀(i:Nat) (x:En),xs[i]? =↑x->IG t kss F x.2.1/\x.2.1.least=0/\x.2.1.kn=[]/\x.2.2=[])/\Io Hy cd tb kt t kss/\Hy bl=↑(.lst [.ref bx,.ref d7])/\Hy bx=↑(.tup [.int n1,.int f1])/\Hy d7=↑(.tup [.int n2,.int f2])/\∃o7 o8,σ=[↑(.ref b),↑(.ref dr),↑(.ref nl),↑(.int (kss.length:Int)),↑(.int F),↑(.ref cd),↑(.ref pl),o7,o8,none,none,none,none,none,none,none,none,none,none,none]) #[[],g6,Z,(λi x h=>by cases h),x7,o1,x8,s9,_,_,Z] (λj σ Hy _ h=>let⟨_,_,_,_,_,e,_⟩:=h;G0.of e) ?_ ?_
  ·rintro j z σ Hy B ⟨xs,I,N,d,J,el,ex,ey,o7,o8,rfl⟩
   obtain⟨be,n,f,rfl,ebe,bd⟩:∃be n f,z= .ref be/\Hy be=↑(.tup [.int n,.int f])/\wV n f:=by
    match j,B with
    |0,B=>cases B;exact#[bx,n1,f1,Z,ex,s7]
    |1,B=>cases B;exact#[d7,n2,f2,Z,ey,bd2]
   obtain⟨bn0,bn1,bf0,bf1⟩:=bd;refine#[be,_,Z,.tup ebe,Z,_,_,Z,_,_,Z,Z,?_]
   refine#[_,Z,.inl #[Z,_,G0.of I.pe],?_]
   refine#[_,Z,cd,_,_,_,Z,Z,G9.of J.e,Z,_,Z,cd,_,_,_,Z,Z,G9.of J.e,Z,_,Z,_,Z,λx dx nx ndx x4=>?_]
   have sJ:GS Hy (GW (GW Hy dx (.own x)) x (.ins C dx [])):=(GS.upd ndx).trans (GS.upd (by rw[qm x4.symm];exact nx))
   refine#[x,tb,kt,dx,n,f,12,t,kss,Z,qc,.inr (.inl (Rd.same sJ J.tb)),J.ks.same sJ,m8,λta hk c3 lg H2 h1 X h3 mv dr' kr=>#[Z,?_]]
   have sK:GS Hy H2:=λc o e=>mv c o (qV (qo e nx)) (sJ c o e)
   have dl:HX K C H2 #[x,ta,hk,c3,lg] #[t,kss,n,f,12,0,[]] []:=GV.dl dr' kr
   have fz:∀z∈dS #[x,ta,hk,c3,lg],Hy z=none:=λz B=>by
    rcases B7 B with rfl|rfl|rfl|rfl
    ·exact nx
    ·exact QU h1 sJ
    ·exact QU X sJ
    ·exact QU h3 sJ
   refine#[_,Z,_,Z,_,Z,#[t,kss,n,f,12,0,[]],Z,Z,Z,λm kd H6 s6 fm m7 md=>#[GJ,λe he=>?_]]
   have u7:=GS.upd (o:= .tup [.ref x,.ref m]) he
   have S7:=(sK.trans s6).trans u7;obtain⟨f0,r3,_⟩:=id dl.dr.kb;have s4:Lj K C (GW H6 e (.tup [.ref x,.ref m])) #[e,#[x,ta,hk,c3,lg],m,kd] #[t,kss,n,f,12,0,[]] [] #[t,kss,n,f,12,0,[]]:=#[qc,(dl.same s6).same u7,md.same u7,(qo r3 fm).symm,(qo r3 m7).symm]
   have fe:∀z∈eS #[e,#[x,ta,hk,c3,lg],m,kd],Hy z=none:=λz B=>by
    rcases uA B with B|rfl|rfl
    ·exact fz z B
    ·exact QU fm sK
    ·exact QU m7 sK
   refine#[pl,_,_,Z,Z,S7 _ _ I.pe,by rw[Je,N,Ju];have:j<2:=(Js.mp B).1;lia,?_]
   have mp:Mv [pl] (GW H6 e (.tup [.ref x,.ref m])) (GW (GW H6 e (.tup [.ref x,.ref m])) pl (.lst ((xs.map λx=>V.ref x.1.e)++[.ref e]))):=Mv.upd1
   have np:NT [pl] (GW H6 e (.tup [.ref x,.ref m])):=NT.one (S7 _ _ I.pe) trivial
   refine#[xs++[(#[e,#[x,ta,hk,c3,lg],m,kd],#[t,kss,n,f,12,0,[]],[])],I.add S7 s4 fe,by simp [N],λi y hy=>?_,(J.same S7).mv mp np,by rw[qm nbl];exact S7 _ _ el,mp.tup np (S7 _ _ ex),mp.tup np (S7 _ _ ey),_,_,Z]
   by_cases hi:i<xs.length
   ·rw[JT hi]at hy;exact d i y hy
   ·rw[JY (by lia)]at hy
    cases ei:i-xs.length with
    |succ k=>rw[ei]at hy;cases hy
    |zero=>
     rw[ei]at hy;cases hy
     exact#[#[#[tp,F3 _,m8,Jy _,Gb],Z,Z,m1,bn0,bn1,bf0,bf1,Z,(by show(0:Int)<(kss.length:Int);lia),(λe h=>nomatch h),(λe h=>nomatch h)],Z,Z,Z]
  ·rintro σ Hy ⟨xs,I,N,d,J,el,ex,ey,o7,o8,rfl⟩
   exact a4 _ _ #[xs,_,_,I.mono (by lia),N,d,J,Z]
  clear c1 e9 G4 G3 hC u4 m2
  rintro σ Hy ⟨xs,o7,o8,I,o5,d,J,rfl⟩
  refine Z9 (λa5 H'=>∃xs o9 oa ob oc od oe og,Pw K C H H' b (c+160) pl xs/\xs.length=2/\(∀(i:Nat) (x:En),xs[i]? =↑x->Le t kss F g x.2.1/\x.2.2.length<=18)/\Io H' cd tb kt t kss/\a5=[↑(.ref b),↑(.ref dr),↑(.ref nl),↑(.int (kss.length:Int)),↑(.int F),↑(.ref cd),↑(.ref pl),o7,o8,o9,oa,ob,oc,od,oe,og,none,none,none,none]) (λD' m0 a4=>?_) ?_
  refine#[_,Z,nl,Z,#[_,G0.of (I.s _ _ (qV e5) e3)],?_]
  refine Qj (K:=K) (a:=nl) (xs:=g.map V.str) (λj σ Hz=>∃xs,Pw K C H Hz b (c+95+7*j) pl xs/\xs.length=2/\(∀(i:Nat) (x:En),xs[i]? =↑x->(IG t kss F x.2.1/\x.2.1.least=0/\(∀z∈x.2.1.kn.map (·.1),z∈g.take j)/\x.2.1.kn.length<=j)/\x.2.2.length<=2*j)/\Io Hz cd tb kt t kss/\∃o9 oa ob oc od oe og,σ=[↑(.ref b),↑(.ref dr),↑(.ref nl),↑(.int (kss.length:Int)),↑(.int F),↑(.ref cd),↑(.ref pl),o7,o8,o9,oa,ob,oc,od,oe,og,none,none,none,none]) #[xs,I,o5,λi x W=>?_,J,_,_,_,_,_,_,_,Z] (λj σ Hz _ h=>let⟨_,p,_⟩:=h;G0.of (p.s _ _ (qV e5) e3)) ?_ ?_
  ·obtain⟨h1,X,h3,h4⟩:=d i x W
   rw[h3,h4]
   exact#[#[h1,X,(λz h=>nomatch h),Jf _],Jf _]
  ·rintro j z σ Hz B ⟨xs,I,N,d,a2,o9,oa,ob,oc,od,oe,og,rfl⟩
   rw[Jn]at B;cases en:g[j]? with
   |none=>rw[en]at B;cases B
   |some nm=>
   rw[en]at B;cases B;have hj:j<g.length:=(Js.mp en).1
   have j9:j<9:=JO hj ok.l9
   have d8:=ok.nm nm (JP en);have b4:c+95+7*j<100000000:=by lia
   refine Cd λD1 y1=>?_
   refine#[_,Z,_,Z,b,_,_,Z,I.bx,bq 0 b4,f9,h7,λM H1' b3 a7 e8=>y1 _ _ (Z0 λD2 y2=>?_)]
   have n7:=I.grc e8;refine#[_,Z,_,_,Z,Z,_,Z,b,9,_,Z,n7.bx,bq 1 b4,⋯,⋯,λr2 H2' r20 r21 f4=>#[_,_,Z,Z,_,_,Z,?_]]
   have o3:=n7.grc f4;obtain⟨O,q7⟩:∃O,O=(if F+1+r2<4095 then F+1+r2 else 4095):=#[_,Z]
   have m3:1<=O/\O<4096/\F<O/\O<=F+23:=by rw[q7];split<;>lia
   rw[<- q7];refine y2 _ _ (Z0 λD3 y3=>?_)
   refine#[_,Z,_,Z,b,_,_,Z,o3.bx,bq 2 b4,f9,h7,λa1 b6 p4 p1 h0=>?_]
   have n3:=o3.grc h0;refine#[_,Z,_,_,Z,Z,_,Z,b,9,_,Z,n3.bx,bq 3 b4,⋯,⋯,λr4 a0 x6 r41 e7=>#[_,_,Z,Z,_,_,Z,GJ,λt0 ht0=>?_]]
   obtain⟨L,h9⟩:∃L,L=(if F+1+r4<4095 then F+1+r4 else 4095):=#[_,Z]
   have q8:1<=L/\L<4096/\F<L/\L<=F+23:=by rw[h9];split<;>lia
   rw[<- h9];have v0:=GS.upd (o:= .tup [.int a1,.int L]) ht0
   have j1:=(n3.grc e7).same v0;have e0:(GW a0 t0 (.tup [.int a1,.int L])) t0=↑(.tup [.int a1,.int L]):=qc
   generalize GW a0 t0 (.tup [.int a1,.int L])=a6 at *
   refine y3 _ _ (Z0 λD4 y4=>?_)
   refine#[_,Z,b,8,_,Z,j1.bx,bq 4 b4,⋯,⋯,λwy R wy0 wy1 b8=>y4 _ _ (Z0 λD5 y5=>?_)]
   have w6:=j1.grc b8;have e0:=b8.kp _ _ (λz=>by obtain⟨_,_,_,eb,_⟩:=j1.bx;rw[z,eb]at e0;cases e0) e0
   refine#[_,Z,_,Z,GJ,λt1 l3=>?_]
   have v1:=GS.upd (o:= .tup [.int M,.int O]) l3
   refine#[_,Z,_,Z,t0,_,_,_,Z,Z,G9.of (v1 _ _ e0),Z,GJ,λt2 ht2=>?_]
   have v2:=GS.upd (o:= .tup [.int M,.int L]) ht2
   refine#[_,Z,t0,_,_,_,Z,Z,G9.of (v2 _ _ (v1 _ _ e0)),Z,_,Z,GJ,λt3 s8=>#[GL,λl4 t6=>?_]]
   have v3:=GS.upd (o:= .tup [.int a1,.int O]) s8
   have v4:=GS.upd (o:= .lst [.ref t1,.ref t2,.ref t3,.non]) t6
   have d1:=v4 _ _ (v3 _ _ (v2 _ _ (show(GW R t1 (.tup [.int M,.int O])) t1=↑(.tup [.int M,.int O])from qc)))
   have d2:=v4 _ _ (v3 _ _ (show(GW (GW R t1 (.tup [.int M,.int O])) t2 (.tup [.int M,.int L])) t2=↑(.tup [.int M,.int L])from qc))
   have d3:=v4 _ _ (show(GW (GW (GW R t1 (.tup [.int M,.int O])) t2 (.tup [.int M,.int L])) t3 (.tup [.int a1,.int O])) t3=↑(.tup [.int a1,.int O])from qc)
   have d4:(GW (GW (GW (GW R t1 (.tup [.int M,.int O])) t2 (.tup [.int M,.int L])) t3 (.tup [.int a1,.int O])) l4 (.lst [.ref t1,.ref t2,.ref t3,.non])) l4=↑(.lst [.ref t1,.ref t2,.ref t3,.non]):=qc
   have S4:=((v1.trans v2).trans v3).trans v4;have c2:=w6.same S4;have kp4:∀{x:Δ} {xs:Ε},Hz x=↑(.tup xs)->R x=↑(.tup xs):=λ{x xs} e=>by
    have nb:x≠b:=λz=>by obtain⟨_,_,_,eb,_⟩:=I.bx;rw[z,eb]at e;cases e
    exact b8.kp _ _ nb (v0 _ _ (e7.kp _ _ nb (h0.kp _ _ nb (f4.kp _ _ nb (e8.kp _ _ nb e)))))
   have s5:Io _ cd tb kt t kss:=Io.same (H:=R) #[kp4 a2.e,?_,?_] S4
   rotate_left
   ·exact(λh=>by exact h) (by
     have:Mv [b] Hz R:=λx o h e=>by
      have nb:x≠b:=λz=>h (Jh.mpr z)
      exact b8.kp _ _ nb (v0 _ _ (e7.kp _ _ nb (h0.kp _ _ nb (f4.kp _ _ nb (e8.kp _ _ nb e)))))
     exact(a2.mv this (zg I.bx)).tb)
   ·exact(by
     have:Mv [b] Hz R:=λx o h e=>by
      have nb:x≠b:=λz=>h (Jh.mpr z)
      exact b8.kp _ _ nb (v0 _ _ (e7.kp _ _ nb (h0.kp _ _ nb (f4.kp _ _ nb (e8.kp _ _ nb e)))))
     exact(a2.mv this (zg I.bx)).ks)
   generalize GW (GW (GW (GW R t1 (.tup [.int M,.int O])) t2 (.tup [.int M,.int L])) t3 (.tup [.int a1,.int O])) l4 (.lst [.ref t1,.ref t2,.ref t3,.non])=b5 at *
   have u5:0<=(if 0<wy-4 then wy-4 else 0):=by split<;>lia
   have ix1:(if 0<wy-4 then wy-4 else 0)<(([V.ref t1,.ref t2,.ref t3,.non]:Ε).length:Int):=by show _<(4:Int);split<;>lia
   obtain⟨v,hv,d0⟩:=QJ u5 ix1;obtain⟨o,ho,u6⟩:∃o:Option (Int×Int),Nl b5 v o/\∀a l,o=↑(a,l)->0<=a/\a<(kss.length:Int)/\1<=l/\l<4096/\F<l/\l<=F+23:=by
    simp only[Jm,JE,JF]at d0;rcases d0 with rfl|rfl|rfl|rfl
    ·exact#[↑(M,O),#[t1,Z,d1],λa l e=>by cases e;exact#[b3,a7,m3]]
    ·exact#[↑(M,L),#[t2,Z,d2],λa l e=>by cases e;exact#[b3,a7,q8]]
    ·exact#[↑(a1,O),#[t3,Z,d3],λa l e=>by cases e;exact#[p4,p1,m3]]
    ·exact#[none,Z,λa l e=>by cases e]
   refine y5 _ _ (Z0 λD6 y6=>?_)
   refine#[_,Z,_,Z,GJ,λt5 x0=>?_]
   have v5:=GS.upd (o:= .tup [.int M,.int O]) x0
   have d5:(GW b5 t5 (.tup [.int M,.int O])) t5=↑(.tup [.int M,.int O]):=qc
   have ho5:=ho.mv (S:=[]) v5.mv cI
   refine#[_,Z,_,Z,_,_,Z,Z,_,_,Z,l4,_,_,_,Z,Z,G0.of (v5 _ _ d4),hv,GJ,λtl c0=>?_]
   have v6:=GS.upd (o:= .lst [.ref t5,v]) c0
   have c4:=(c2.same v5).same v6;have hCg:=(s5.same v5).same v6;have etl:(GW (GW b5 t5 (.tup [.int M,.int O])) tl (.lst [.ref t5,v])) tl=↑(.lst [.ref t5,v]):=qc
   have u9:=ho5.mv (S:=[]) v6.mv cI
   have d6:=v6 _ _ d5;have r6:∀(i:Nat) (x:En),xs[i]? =↑x->tl∉eS x.1:=λi x W z=>((c2.same v5).en i x W).some z c0
   have i2:tl≠b:=qS (c2.same v5).bx c0
   have w8:tl≠pl:=(qo (c2.same v5).pe c0).symm
   generalize GW (GW b5 t5 (.tup [.int M,.int O])) tl (.lst [.ref t5,v])=H8' at *
   refine y6 _ _ (Z9 (λa5 H'=>∃(os:List (Option (Int×Int))),Pw K C H H' b (c+95+7*j+6) pl xs/\Io H' cd tb kt t kss/\Lg H' tl os/\os.length=2/\(∀a l,↑(a,l)∈os->0<=a/\a<(kss.length:Int)/\1<=l/\l<4096/\F<l/\l<=F+23)/\∃oa ob oc od oe,a5=[↑(.ref b),↑(.ref dr),↑(.ref nl),↑(.int (kss.length:Int)),↑(.int F),↑(.ref cd),↑(.ref pl),o7,o8,↑(.str nm),oa,ob,oc,od,oe,↑(.ref tl),none,none,none,none]) (λD' m0 a4=>?_) ?_)
   ·refine#[_,Z,b,2,_,Z,c4.bx,bq 5 b4,⋯,⋯,λr9 H9 r90 r91 g9=>#[Z,_,Z,?_]]
    have f5:=(c4.grc g9).mono (c':=c+95+7*j+6) (Jf _)
    have m9:Mv [b] H8' H9:=λc o h e=>g9.kp c o (λz=>h (Jh.mpr z)) e
    have g8:=hCg.mv m9 (zg c4.bx);have a8:=g9.kp _ _ i2 etl;have d9:=m9.tup (zg c4.bx) d6;have o2:=u9.mv m9 (zg c4.bx);have o4:∀a l,↑(a,l)∈[↑(M,O),o]->0<=a/\a<(kss.length:Int)/\1<=l/\l<4096/\F<l/\l<=F+23:=λa l h=>by
     simp only[Jm,JE,JF]at h;rcases h with h|h
     ·injection h with h;injection h with h1 X;subst h1;subst X;exact#[b3,a7,m3]
     ·exact u6 a l h.symm
    refine qW (λ_=>?_) (λ_=>a4 _ _ #[[↑(M,O),o],f5,g8,Lg.two a8 #[t5,Z,d9] o2,Z,o4,_,_,_,_,_,Z])
    refine#[_,Z,.inl #[Z,_,G0.of a8],tl,_,Z,Z,a8,?_]
    have mr:Mv [tl] H9 (GW H9 tl (.lst [v,.ref t5])):=Mv.upd1
    have nr:NT [tl] H9:=NT.one a8 trivial
    have fl0:H tl=none:=(c2.same v5).fresh c0
    refine a4 _ _ #[[o,↑(M,O)],f5.out mr nr (qV i2.symm) (qV w8.symm) (λi x W z B w=>r6 i x W (Jh.mp w▸B)) (λz B=>by rw[Jh.mp B];exact fl0),g8.mv mr nr,Lg.two qc (o2.mv mr nr) #[t5,Z,mr.tup nr d9],Z,λa l h=>o4 a l (by
     simp only[Jm,JE,JF]at h⊢;exact h.symm),_,_,_,_,_,Z]
   rintro _ H9 ⟨os,f5,g8,x5,z6,k0,oa,ob,oc,od,oe,rfl⟩
   have q0:∀(i:Nat) (x:En),xs[i]? =↑x->(IG t kss F x.2.1/\x.2.1.least=0/\(∀z∈x.2.1.kn.map (·.1),z∈g.take j)/\x.2.1.kn.length<=j/\x.2.1.kn.lookup nm=none)/\x.2.2.length<=2*j:=λi x W=>by
    obtain⟨⟨h1,X,h3,h4⟩,h5⟩:=d i x W
    exact#[#[h1,X,h3,h4,rH λz=>vg ok.nd en (h3 nm z)],h5]
   refine#[_,Z,_,Z,_,Z,_,Z,cd,tb,kt,pl,tl,b,_,H,t,kss,xs,nm,os,Z,f5,N,g8,d8,x5,z6,r6,λi x W=>?_,λa l h=>?_,λHn k3 k5 k2 st _=>?_]
   ·obtain⟨⟨h1,X,h3,h4,h6⟩,h5⟩:=q0 i x W
    refine#[#[h1.ok,h1.t,h1.ks,by rw[h1.ms];lia],λa l e=>?_,h6,by lia,by lia]
    rw[X];rw[Jz]at e;cases q:os[i]? with
    |none=>rw[q]at e;cases e
    |some y=>rw[q]at e;have:y=↑(a,l):=e;rw[this]at q;exact(k0 a l (JP q)).1
   ·obtain⟨h1,X,h3,h4,_⟩:=k0 a l h
    exact#[h1,X,h3,h4]
   ·refine#[k3,k5.mono (by lia),st.1.trans N,?_,k2,_,_,_,_,_,_,_,Z]
    have:=st.all (p:=λD=>IG t kss F D/\D.least=0/\(∀z∈D.kn.map (·.1),z∈g.take j)/\D.kn.length<=j/\D.kn.lookup nm=none) (q:=λD=>IG t kss F D/\D.least=0/\(∀z∈D.kn.map (·.1),z∈g.take (j+1))/\D.kn.length<=j+1) q0 (λi D hD=>?_)
    ·intro i x W
     obtain⟨h1,X⟩:=this i x W
     exact#[h1,by lia]
    ·obtain⟨h1,X,h3,h4,h6⟩:=hD
     have k1:∀z∈g.take j,z∈g.take (j+1):=λz B=>List.take_subset_take_left g (Fk j) B
     cases eo:os.getD i none with
     |none=>exact#[h1,X,λz B=>k1 z (h3 z B),by show D.kn.length<=j+1;lia]
     |some al=>
      obtain⟨a,l⟩:=al;have hm:↑(a,l)∈os:=by
       rw[Jz]at eo;cases q:os[i]? with
       |none=>rw[q]at eo;cases eo
       |some y=>rw[q]at eo;have:y=↑(a,l):=eo;rw[this]at q;exact JP q
      obtain⟨q1,q2,q3,q4,q5,q6⟩:=k0 a l hm;refine#[h1.learn d8 (by lia) q1 q2 q3 q4 q5 q6,X,λz B=>?_,JG (mG _ _ _) (by lia)]
      have B:z∈(zc D.kn nm #[a,l,none]).map (·.1):=B
      rw[aN]at B;split at B
      ·exact k1 z (h3 z B)
      ·rcases JL.mp B with B|B
       ·exact k1 z (h3 z B)
       ·rw[Jh.mp B,J9,en];simp
  ·rintro σ Hz ⟨xs,I,N,d,a2,o9,oa,ob,oc,od,oe,og,rfl⟩
   have l9:(g.map V.str).length<=9:=by rw[Je];exact ok.l9
   have k8:(g.map V.str).length=g.length:=Je _
   refine a4 _ _ #[xs,_,_,_,_,_,_,_,I.mono (by lia),N,λi x W=>?_,a2,Z]
   obtain⟨⟨h1,_,h3,h4⟩,X⟩:=d i x W;rw[k8]at h3 h4;rw[E5]at h3
   exact#[#[h1,h3,h4],by lia]
  clear I o5 d J
  rintro σ Hz ⟨xs,o9,oa,ob,oc,od,oe,og,I,N,h8,a2,rfl⟩
  obtain⟨C0,p3⟩:∃C0,C0=c+160:=#[_,Z]
  have C0b:C0<=c+170:=by lia
  rw[<- p3]at I;clear p3;have l9:(g.map V.str).length<=9:=by rw[Je];exact ok.l9
  have k8:(g.map V.str).length=g.length:=Je _
  refine Z9 (λa5 H'=>∃xs p9 pa pg ph pi,Pw K C H H' b (C0+13) pl xs/\xs.length=2/\(∀(i:Nat) (x:En),xs[i]? =↑x->Le t kss F g x.2.1/\x.2.2.length<=24)/\Io H' cd tb kt t kss/\a5=[↑(.ref b),↑(.ref dr),↑(.ref nl),↑(.int (kss.length:Int)),↑(.int F),↑(.ref cd),↑(.ref pl),o7,o8,p9,pa,ob,oc,od,oe,pg,ph,pi,none,none]) (λD' m0 a4=>?_) ?_
  refine#[_,Z,b,4,_,Z,I.bx,by lia,⋯,⋯,λrn Hh rn0 rn1 gh=>#[_,Z,by lia,by lia,?_]]
  have pwx:=I.grc gh;have mh:Mv [b] Hz Hh:=λc o h e=>gh.kp c o (λz=>h (Jh.mpr z)) e
  have w0:=a2.mv mh (zg I.bx);refine Qf (n:=rn.toNat) (Pv:=λj σ Hx=>∃xs,Pw K C H Hx b (C0+1+4*j) pl xs/\xs.length=2/\(∀(i:Nat) (x:En),xs[i]? =↑x->Le t kss F g x.2.1/\x.2.2.length<=18+2*j)/\Io Hx cd tb kt t kss/\∃o9 oa og oh,σ=[↑(.ref b),↑(.ref dr),↑(.ref nl),↑(.int (kss.length:Int)),↑(.int F),↑(.ref cd),↑(.ref pl),o7,o8,o9,oa,ob,oc,od,oe,og,oh,none,none,none]\/∃oi,σ=[↑(.ref b),↑(.ref dr),↑(.ref nl),↑(.int (kss.length:Int)),↑(.int F),↑(.ref cd),↑(.ref pl),o7,o8,o9,oa,ob,oc,od,oe,og,oh,oi,none,none]) #[xs,pwx,N,h8,w0,_,_,_,_,.inl Z] ?_ ?_
  ·rintro j σ Hx hj ⟨xs,I,N,d,J,p9,pa,pg,ph,k4⟩
   obtain⟨pi,rfl⟩:∃pi,σ=[↑(.ref b),↑(.ref dr),↑(.ref nl),↑(.int (kss.length:Int)),↑(.int F),↑(.ref cd),↑(.ref pl),o7,o8,p9,pa,ob,oc,od,oe,pg,ph,pi,none,none]:=by
    rcases k4 with rfl|⟨oi,rfl⟩
    ·exact#[none,Z]
    ·exact#[oi,Z]
   have j3:j<3:=by lia
   have enl:=I.s _ _ (qV e5) e3;have g0:C0+1+4*j<100000000:=by lia
   refine Cd λD1 y1=>?_
   refine#[_,Z,_,Z,_,Z,nl,_,Z,.inl (G0.of enl),b,_,_,Z,I.bx,bq 0 g0,by have:=ok.l1;lia,by lia,λr H2 r0 r1 g2=>?_]
   have a3:=I.grc g2;obtain⟨nm,w7,d8⟩:=Bz r0 r1 ok.nm;refine#[nl,_,_,_,Z,Z,G0.of (a3.s _ _ (qV e5) e3),w7,y1 _ _ (Z0 λD2 y2=>?_)]
   refine#[_,Z,_,Z,b,_,_,Z,a3.bx,bq 1 g0,f9,h7,λM b6 b3 a7 g3=>y2 _ _ (Z0 λD3 y3=>?_)]
   have b7:=a3.grc g3;refine#[_,Z,_,Z,_,Z,_,Z,b,24,_,Z,b7.bx,bq 2 g0,⋯,⋯,λr4 a0 x6 r41 g4=>#[_,_,Z,Z,_,_,Z,GK,λp hp=>?_]]
   obtain⟨n,en⟩:∃n,n=(if F+r4<4095 then F+r4 else 4095):=#[_,Z]
   have n0:0<=n/\n<4096/\n<=F+23:=by rw[en];split<;>lia
   rw[<- en];have t9:=b7.grc g4;have v0:=GS.upd (o:= .tup [.str nm,.int M,.int n]) hp
   have M4:Mv [b] Hx a0:=λc o h e=>by
    have nb:c≠b:=λz=>h (Jh.mpr z)
    exact g4.kp _ _ nb (g3.kp _ _ nb (g2.kp _ _ nb e))
   have e9:=(J.mv M4 (zg I.bx)).same v0;have g6:=t9.same v0;have ep:(GW a0 p (.tup [.str nm,.int M,.int n])) p=↑(.tup [.str nm,.int M,.int n]):=qc
   generalize GW a0 p (.tup [.str nm,.int M,.int n])=a6 at *
   refine y3 _ _ ?_
   refine#[_,Z,_,Z,_,Z,GJ,λq1 x9=>#[GJ,λq2 x3=>#[GI,λq3 u8=>#[GI,λq4 y0=>#[GL,λl5 s1=>?_]]]]]
   have w1:=GS.upd (o:= .tup [.int 0,.int 1]) x9
   have w2:=GS.upd (o:= .tup [.int 0,.int 1]) x3
   have w3:=GS.upd (o:= .tup [.int 0]) u8
   have w4:=GS.upd (o:= .tup [.int 1]) y0
   have w5:=GS.upd (o:= .lst [.ref q1,.ref q2,.ref q3,.ref q4]) s1
   have z1:=w5 _ _ (w4 _ _ (w3 _ _ (w2 _ _ (show(GW a6 q1 (.tup [.int 0,.int 1])) q1=↑(.tup [.int 0,.int 1])from qc))))
   have z2:=w5 _ _ (w4 _ _ (w3 _ _ (show(GW (GW a6 q1 (.tup [.int 0,.int 1])) q2 (.tup [.int 0,.int 1])) q2=↑(.tup [.int 0,.int 1])from qc)))
   have z3:=w5 _ _ (w4 _ _ (show(GW (GW (GW a6 q1 (.tup [.int 0,.int 1])) q2 (.tup [.int 0,.int 1])) q3 (.tup [.int 0])) q3=↑(.tup [.int 0])from qc))
   have z4:=w5 _ _ (show(GW (GW (GW (GW a6 q1 (.tup [.int 0,.int 1])) q2 (.tup [.int 0,.int 1])) q3 (.tup [.int 0])) q4 (.tup [.int 1])) q4=↑(.tup [.int 1])from qc)
   have z5:(GW (GW (GW (GW (GW a6 q1 (.tup [.int 0,.int 1])) q2 (.tup [.int 0,.int 1])) q3 (.tup [.int 0])) q4 (.tup [.int 1])) l5 (.lst [.ref q1,.ref q2,.ref q3,.ref q4])) l5=↑(.lst [.ref q1,.ref q2,.ref q3,.ref q4]):=qc
   have SW:=(((w1.trans w2).trans w3).trans w4).trans w5;have m5:=g6.same SW;have hC6:=e9.same SW;have ep6:=SW _ _ ep;have nl5:=qS ((g6.same (((w1.trans w2).trans w3).trans w4)).bx) s1;generalize GW (GW (GW (GW (GW a6 q1 (.tup [.int 0,.int 1])) q2 (.tup [.int 0,.int 1])) q3 (.tup [.int 0])) q4 (.tup [.int 1])) l5 (.lst [.ref q1,.ref q2,.ref q3,.ref q4])=R at *
   refine#[_,Z,b,4,_,Z,m5.bx,bq 3 g0,⋯,⋯,λr7 b5 s2 t4 g7=>?_]
   have pw7:=m5.grc g7;have M7:Mv [b] R b5:=λc o h e=>g7.kp c o (λz=>h (Jh.mpr z)) e
   have N6:=zg m5.bx;obtain⟨v,hv,d0⟩:=QJ (xs:=[V.ref q1,.ref q2,.ref q3,.ref q4]) s2 t4
   obtain⟨ps,is,rfl,z8,u0,z0⟩:∃(ps:Δ) (is:Κ),v= .ref ps/\R ps=↑(.tup (is.map λi:Nat=>V.int (i:Int)))/\is.Nodup/\∀i∈is,i<2:=by
    simp only[Jm,JE,JF]at d0;rcases d0 with rfl|rfl|rfl|rfl
    ·exact#[q1,[0,1],Z,z1,⋯,⋯]
    ·exact#[q2,[0,1],Z,z2,⋯,⋯]
    ·exact#[q3,[0],Z,z3,⋯,⋯]
    ·exact#[q4,[1],Z,z4,⋯,⋯]
   refine#[l5,_,_,_,Z,Z,G0.of (g7.kp _ _ nl5 z5),hv,?_]
   refine#[cd,tb,kt,pl,p,ps,b,_,H,t,kss,xs,nm,M,n,is,F,Z,pw7,N,hC6.mv M7 N6,d8,b3,a7,n0.1,n0.2.1,M7.tup N6 ep6,.inl (M7.tup N6 z8),u0,z0,λi x W=>?_,λHn k3 k5 k2 st=>?_]
   ·obtain⟨h1,X⟩:=d i x W
    exact#[h1.1,by lia]
   ·refine#[k3,k5.mono (by lia),st.1.trans N,?_,k2,_,_,_,_,.inr #[_,Z]]
    have:=st.all (p:=Le t kss F g) (q:=Le t kss F g) d (λi D hD=>?_)
    ·intro i x W
     obtain⟨h1,X⟩:=this i x W
     exact#[h1,by lia]
    ·show Le t kss F g (if i∈is then _ else _)
     split
     ·exact hD.hear n0.1 n0.2.1 n0.2.2
     ·exact hD
  ·rintro σ Hx ⟨xs,I,N,d,J,p9,pa,pg,ph,k4⟩
   obtain⟨pi,rfl⟩:∃pi,σ=[↑(.ref b),↑(.ref dr),↑(.ref nl),↑(.int (kss.length:Int)),↑(.int F),↑(.ref cd),↑(.ref pl),o7,o8,p9,pa,ob,oc,od,oe,pg,ph,pi,none,none]:=by
    rcases k4 with rfl|⟨oi,rfl⟩
    ·exact#[none,Z]
    ·exact#[oi,Z]
   have rn3:rn.toNat<=3:=by lia
   exact a4 _ _ #[xs,_,_,_,_,_,I.mono (by lia),N,λi x W=>#[(d i x W).1,by have X:=(d i x W).2;lia],J,Z]
  clear I N h8 a2 l9 k8
  rintro σ Hx ⟨xs,p9,pa,pg,ph,pi,I,N,d,J,rfl⟩
  obtain⟨es,o0⟩:∃es:Ε,es=xs.map λx=>V.ref x.1.e:=#[_,Z]
  have l2:es.length=2:=by rw[o0,Je];exact N
  refine#[_,Z,pl,Z,#[_,G0.of I.pe],?_]
  refine Qj (K:=K) (a:=pl) (xs:=es) (λj σ Hx=>∃xs,Pw K C H Hx b (C0+13+2*j) pl xs/\(xs.map λx=>V.ref x.1.e)=es/\xs.length=2/\(∀(i:Nat) (x:En),xs[i]? =↑x->Le t kss F g x.2.1/\x.2.2.length<=24+j)/\Io Hx cd tb kt t kss/\∃oa oj ok',σ=[↑(.ref b),↑(.ref dr),↑(.ref nl),↑(.int (kss.length:Int)),↑(.int F),↑(.ref cd),↑(.ref pl),o7,o8,p9,oa,ob,oc,od,oe,pg,ph,pi,oj,ok']) #[xs,I,o0.symm,N,λi x W=>?_,J,_,_,_,Z] (λj σ Hx _ h=>let⟨_,p,e,_⟩:=h;G0.of (by rw[<- e];exact p.pe)) ?_ ?_
  ·obtain⟨h1,X⟩:=d i x W
   exact#[h1,by lia]
  ·rintro j z σ n4 B ⟨xs,I,e6,N,d,J,qa,qj,qk,rfl⟩
   have j2:j<2:=by rw[<- l2];exact(Js.mp B).1
   have ex:=Jg (show j<xs.length by rw[N];exact j2)
   obtain⟨x,rx⟩:∃x,x=xs[j]:=#[_,Z]
   rw[<- rx]at ex
   obtain rfl:z= .ref x.1.e:=by
    rw[<- e6,Jn,ex]at B;injection B with B;exact B.symm
   have en:=I.en j x ex;obtain⟨dp,hl⟩:=d j x ex;refine#[x.1.e,_,Z,.tup en.tu,Z,_,_,Z,_,_,Z,Z,?_]
   refine#[_,Z,b,5,_,Z,I.bx,by lia,⋯,⋯,λr H2 r0 r1 g2=>#[Z,_,Z,?_]]
   have a3:=I.grc g2;have M2:Mv [b] n4 H2:=λc o h e=>g2.kp c o (λz=>h (Jh.mpr z)) e
   have r5:=J.mv M2 (zg I.bx);refine qW (λ_=>?_) (λ_=>#[xs,a3.mono (by lia),e6,N,λi y hy=>?_,r5,_,_,_,Z])
   case refine_2=>obtain⟨h1,X⟩:=d i y hy;exact#[h1,by lia]
   refine#[_,Z,_,Z,b,_,_,Z,a3.bx,by lia,f9,h7,λM b6 b3 a7 g3=>?_]
   have b7:=a3.grc g3;have M3:Mv [b] H2 b6:=λc o h e=>g3.kp c o (λz=>h (Jh.mpr z)) e
   have hC3:=r5.mv M3 (zg a3.bx);have f3:=b7.en j x ex;refine#[_,Z,x.1.a.p,Z,f3.dl.dr.no,_,Z,x.1.a,x.2.1,x.2.2,M,Z,f3.dl,by lia,λD' rw' hd Hs ms ds=>?_]
   cases hd;have s0:=EQ ms;have n8:=f3.door s0 ds;have x1:Mv (eS x.1) b6 Hs:=iq s0
   have o6:=n8.md;obtain⟨a0,dp4,m4,md4⟩:=o6.close (if M>x.2.1.least then M else x.2.1.least)
   refine#[_,Z,x.1.m,_,Z,o6.g_closed,_,Z,_,_,Z,_,Z,x.1.m,a0,Z,dp4,?_]
   have p5:Mv [x.1.m,x.1.kd] Hs a0:=m4.mono (λc h z=>h (by rw[Jh.mp z];simp))
   have en4:=n8.model p5 md4;have i1:Mv (eS x.1) b6 a0:=x1.trans (iB p5)
   have N3:=f3.nt;refine#[_,(b7.step ex i1 en4).mono (by lia),?_,by rw[Fl];exact N,λi y hy=>?_,hC3.mv i1 N3,_,_,_,Z]
   ·rw[<- e6]
    refine List.ext_getElem? λk=>?_
    rw[Jn,Jn,List.getElem?_set];split
    ·rename_i z
     subst z;rw[Jc (by rw[N];exact j2),ex];rfl
    ·rfl
   ·rw[List.getElem?_set]at hy
    split at hy
    ·rename_i z
     subst z;rw[Jc (by rw[N];exact j2)]at hy
     cases hy;refine#[dp.close a7,?_]
     show(x.2.2++[_]).length<=24+(j+1)
     rw[Jv];simp;lia
    ·obtain⟨h1,X⟩:=d i y hy
     exact#[h1,by lia]
  rintro σ n4 ⟨xs,I,e6,N,d,J,qa,qj,qk,rfl⟩
  refine#[_,Z,_,Z,GJ,λt1 l3=>?_]
  have u:=GS.upd (o:= .tup [.ref cd,.ref pl]) l3
  refine q t1 cd tb kt pl t kss xs _ ((I.same u).mono (by rw[l2];lia)) N qc (J.same u) Z λi x W=>?_
  obtain⟨h1,X⟩:=d i x W
  exact#[h1,by rw[l2]at X;lia]
end
section
variable{P:Ξ}{w:Ω}{K:ι}{mg:GQ}{base:Ψ}{tk:Nat->Tok}{C:Δ}
theorem nN(a:At K mg "openings" cu ["door","row"])(T:HN K mg tk)(U:Iz K C)(dC:Mf P w K mg base C "button_of" W8 1 (hV K C))(dD:Mf P w K mg base C "plain_step" X3 3 (fO K C))(dJ:Df P w K mg base "names_known" ["door"] 2 (fP K C)):Df P w K mg base "openings" ["door","row"] 4 (oN K C):=by
 refine a.dq Hw λf _ A _ s H vs Q E hr h=>?_
 ·obtain⟨p,ta,hk,bd,lg,n,D,v,zs,rfl,b,ok,nf,tl,zl,q⟩:=h
  refine#[_,(qe (we (i:=2) Hw.nd Z (Or.inl Z) (own:=["name"]) (fr:=["door"]) (js:=[0]) Z (zN (qp dJ hr.mo (qd (qv 0) qb))) Z (gf Z) Z (iD Z nofun nofun nofun Z Z Z) (λ_ _ _ _=>qh (i:=0) (show List.Nodup (["name","door"]:Α)from by decide +kernel) Z (Or.inl Z) (.inr Z)) (λ_ _ _ _=>(qv 0)) (λ_ _ _ _=>(zf dC U.cl hr.mo (qv 1) (qd (qv 0) qb))))
   (qe (qw (i:=3) Hw.nd Z (Or.inl Z) (zo qb))
   (qe (zn JQ Z (bv (qv 1)) (ze Z (ql (qh (i:=4) Hw.nd Z (Or.inl Z)) (ql (qh (i:=5) Hw.nd Z (Or.inl Z)) (ql (qh (i:=6) Hw.nd Z (Or.inl Z)) qM))))
   (qe (qw (i:=7) Hw.nd Z (Or.inl Z) qA)
   (qe (qK (vy hr (qv 4) (qv 2)) (qe (q9 (zf dD U.cl hr.mo (qv 0) (qd (zJ hr (qv 2) (qv 4)) (qd (qv 5) (qd (qv 6) qb)))) (ze Z (ql (qh (i:=7) Hw.nd Z (Or.inl Z)) (ql (qh (i:=8) Hw.nd Z (Or.inl Z)) qM))))
   (qg (Qw hr (qv 2) (qv 4) (qv 8)))) qF)
   (qg (zm (QZ EZ Fx Fy zT (qv 3) (qd (zS zE (qv 7) qA (qB _)) qb)))))))
   (qg (qr (qv 3)))))),?_]
  obtain⟨t,as,rfl,ht,la,has⟩:=tl;refine#[_,Z,p,ta,hk,bd,lg,n,D,Z,b,ok,λl m H1 s1 pm B=>#[l,Z,#[_,G0.of B],?_]]
  have sl:m.length<=60:=by rw[pm.length_eq,Je];exact ok.nl
  have Y:m.Nodup:=pm.nodup_iff.mpr ok.nd
  have b1:=b.same s1;refine sO (K:=K) (a:=l) (xs:=m.map V.str) (by rw[Je,Ju];lia) (λi ys Hx=>Hx=H1/\∃g:Str->Δ,ys=(m.take i).map (λnm=>(Sum.inr nm,V.ref (g nm)))/\∀nm∈m.take i,∀e,D.kn.lookup nm=↑e->HS H1 (g nm) e) #[Z,λ_=>0,Z,λnm h=>by simp at h] (λi ys Hx h=>by rw[h.1];exact G0.of B) ?_ ?_
  ·rintro i ys Hx x hx c0 ⟨rfl,g,rfl,hg⟩
   rw[Jn]at hx;obtain⟨nm,u,rfl⟩:=JZ.mp hx;have hi:i<m.length:=(Js.mp u).1
   have r:m.take (i+1)=m.take i++[nm]:=by rw[J9,u];rfl
   have nin:nm∉m.take i:=λz=>by
    rw[<- List.take_append_drop (i+1) m,r]at Y
    exact(Fv.mp (Fv.mp Y).1).2.2 nm z nm JB Z
   refine#[_,Z,.inr nm,Z,?_]
   refine#[_,Z,p,Z,b1.no,_,Z,p,ta,hk,bd,lg,n,D,nm,Z,b1,λe=>?_,λe x e2 hx=>?_]
   ·have:=Hg.mpr (pm.mem_iff.mp (JP u))
    rw[e]at this;cases this
   ·have pk:HL ((m.take i).map (λnm=>((Sum.inr nm:qJ),V.ref (g nm)))) (Sum.inr nm) (.ref x)=(m.take (i+1)).map (λz=>((Sum.inr z:qJ),V.ref (if z=nm then x else g z))):=by
     unfold HL;rw[Jb (by
      rw[Gq]
      rintro⟨kv,a4,z⟩
      obtain⟨y,hy,rfl⟩:=Jt.mp a4;have z:=Jx z;injection z with z
      exact nin (z▸hy)),r,JK]
     congr 1
     ·refine FJ λy hy=>?_
      rw[Jb (λz:y=nm=>nin (z▸hy))]
     ·show _=[((Sum.inr nm:qJ),V.ref (if nm=nm then x else g nm))];rw[Jc Z]
    refine#[#[Z,λz=>if z=nm then x else g z,pk,λz I e3 h3=>?_],?_]
    ·rw[r]at I
     by_cases J:z=nm
     ·show HS _ (if z=nm then x else g z) e3
      rw[Jc J];rw[J,e2]at h3;cases h3;exact hx
     ·show HS _ (if z=nm then x else g z) e3
      rw[Jb J];rcases JL.mp I with I|I
      ·exact hg z I e3 h3
      ·exact absurd (Jh.mp I) J
    ·rw[pk,Je,EX];lia
  rintro ys Hx ⟨rfl,g,rfl,hg⟩ d hd
  have u1:=GS.upd (o:= .dK ((m.take (m.map V.str).length).map λnm=>((Sum.inr nm:qJ),V.ref (g nm)))) hd
  have a7:II (GW Hx d (.dK ((m.take (m.map V.str).length).map λnm=>((Sum.inr nm:qJ),V.ref (g nm))))) d D.kn:=by
   have e:m.take (m.map V.str).length=m:=by rw[Je,E5]
   refine AI (g:=g) ok.nd pm (by rw[qc,e]) λnm u e2 h2=>?_
   obtain⟨v2,h3,h4⟩:=hg nm (by rw[e];exact u) e2 h2
   exact#[v2,u1 _ _ h3,h4.same u1]
  have a5:=QU hd s1;have S1:=s1.trans u1;generalize GW Hx d (.dK ((m.take (m.map V.str).length).map λnm=>((Sum.inr nm:qJ),V.ref (g nm))))=H2 at *
  clear u1 hg B b1 hd pm Y sl;refine#[GH,λto a2=>?_]
  have u2:=GS.upd (o:= .lst []) a2
  have b3:=QU a2 S1;refine ZE (λG H'=>GS H H'/\H' to=↑(.lst ((qQ D zs).map V.bl))/\∃o2 o4 o5 o6 o7 O,G=[↑(.ref p),↑(.ref t),o2,↑(.ref to),o4,o5,o6,o7,O]) (λD0 b7 b2=>?_) ?_
  ·refine#[_,Z,?_]
   refine BG (K:=K) ht (λj σ Hx=>GS H Hx/\II Hx d (Qu D (zs.take j)).kn/\Hx to=↑(.lst ((qQ D (zs.take j)).map V.bl))/\∃o4 o5 o6 o7 O,σ=[↑(.ref p),↑(.ref t),↑(.ref d),↑(.ref to),o4,o5,o6,o7,O]) #[S1.trans u2,a7.same u2,qc,_,_,_,_,_,Z] (λj σ Hx h=>h.1) ?_ ?_ Z
   ·rintro j z σ Hx I ⟨L,kx,N,o4,o5,o6,o7,O,rfl⟩
    rw[Jn]at I;obtain⟨aj,a0,rfl⟩:=JZ.mp I;have hj:j<zs.length:=by rw[<- la];exact(Js.mp a0).1
    obtain⟨⟨nm,age,c⟩,ez⟩:∃z,zs[j]? =↑z:=#[_,Jg hj]
    have a1:=(has j aj _ a0 ez).same L;have r:zs.take (j+1)=zs.take j++[(nm,age,c)]:=by rw[J9,ez];rfl
    have X:=kC ok (zs.take j);have S:=lF (D:=D) (zs.take j)
    obtain⟨R,W⟩:∃F,F=Qu D (zs.take j):=#[_,Z]
    rw[<- W]at X S kx;have b5:(Qu D (zs.take (j+1))).kn=Hj R nm age c:=by rw[r,il,<- W]
    have a6:qQ D (zs.take (j+1))=qQ D (zs.take j)++[zK R nm age c]:=by rw[r,Q9,<- W]
    have b0:R.near<=R.far:=by rw[S];exact nf
    refine#[aj,_,Z,a1.k,Z,_,_,Z,_,_,Z,_,_,Z,Z,?_]
    refine ZE (λG H'=>∃(wd:Str) (O:Μ),GS H H'/\II H' d (Hj R nm age c)/\H' to=↑(.lst ((qQ D (zs.take j)).map V.bl))/\decide (V.str wd=V.str "near")=zK R nm age c/\G=[↑(.ref p),↑(.ref t),↑(.ref d),↑(.ref to),↑(.str nm),↑(.int age),↑(.int c),↑(.str wd),O]) (λD' b6 M=>?_) ?_
    ·rcases kx.get nm with⟨B,g1⟩|⟨e,x,B,g1,hx⟩
     ·refine#[_,Z,_,Z,d,_,Z,g1,_,Z,zw (M _ _ #["unknown",_,L,?_,N,?_,Z])]
      ·rcases bT (D:=R) (nm:=nm) (age:=age) (c:=c)with h|⟨e,h,_⟩
       ·rw[h];exact kx
       ·rw[B]at h;cases h
      ·rw[CY B]
       exact Jo (by intro z;injection z with z;exact absurd z ⋯)
     ·refine#[_,Z,_,Z,d,_,Z,g1,_,Z,zx ?_]
      have bx:=b.same L;refine#[_,Z,p,Z,bx.no,_,Z,_,Z,d,_,Z,g1,_,Z,_,Z,p,ta,hk,bd,lg,x,n,D,e,age,c,Z,bx,hx,λq' a' H3 s3 b4 a3=>#[q',_,Z,.tup b4,Z,_,_,Z,_,_,Z,Z,?_]]
      have st:zh D e age c=zh R e age c:=by rw[S];rfl
      rw[st]at a3;obtain⟨H4,dp,m4,k4⟩:=(kx.same s3).put nm (by have:=X.nl;lia) a3
      refine#[_,Z,_,Z,_,Z,d,H4,Z,dp,M _ _ #[_,_,λc o e=>m4 c o (qV (qo e a5)) (s3 _ _ (L _ _ e)),?_,m4 _ _ (qV ?_) (s3 _ _ N),?_,Z]]
      ·rw[tH X.nd B];exact k4
      ·obtain⟨f0,e0,_⟩:=id kx
       exact zG N e0 (by intro z;cases z)
      ·rw[<- xz b0 B,st]
       exact decide_eq_decide.mpr #[λz=>by injection z,λz=>by rw[z]]
    rintro G H5 ⟨wd,b8,s5,k5,t5,ew,rfl⟩
    refine#[_,Z,.inl #[Z,_,G0.of t5],_,Z,Z,to,_,_,Z,Z,t5,by rw[Je,ZH,EX,Ju];lia,?_]
    have mt:Mv [to] H5 (GW H5 to (.lst ((qQ D (zs.take j)).map V.bl++[.bl (decide (V.str wd=V.str "near"))]))):=Mv.upd1
    have a8:NT [to] H5:=NT.one t5 trivial
    refine#[λc o e=>mt c o (qV (qo e b3)) (s5 _ _ e),?_,?_,_,_,_,_,_,Z]
    ·rw[b5]
     refine k5.mv mt a8 (qV ?_)
     obtain⟨f0,e0,_⟩:=id k5
     exact(zG t5 e0 (by intro z;cases z)).symm
    ·rw[a6,qc,ew,JK];rfl
   ·rintro σ Hx ⟨L,kx,N,o4,o5,o6,o7,O,rfl⟩
    refine b2 _ _ #[L,?_,_,_,_,_,_,_,Z]
    rw[Je,la,E5]at N;exact N
  rintro σ Hx ⟨L,N,o2,o4,o5,o6,o7,O,rfl⟩
  exact#[_,Z,q to Hx L N]
theorem gl(a:At K mg "shows_telling" Zm ["one","other","row"])(T:HN K mg tk)(U:Df P w K mg base "openings" ["door","row"] 4 (oN K C)):Df P w K mg base "shows_telling" ["one","other","row"] 5 (oY K C):=by
 refine a.dq Ic λf _ A _ s H vs Q E r h=>?_
 ·obtain⟨p,ta,hk,bd,lg,n,D,p',F,u,G,j,n',D',v,zs,rfl,b,b',ok,L,nf,M,tl,R,z0,q⟩:=h
  refine#[_,(qe (qw (i:=3) Ic.nd Z (Or.inl Z) (qp U r.mo (qd (qv 0) (qd (qv 2) qb))))
   (qe (qw (i:=4) Ic.nd Z (Or.inl Z) (qp U r.mo (qd (qv 1) (qd (qv 2) qb))))
   (qg (qr (Zl (zS (Aj r) (Qh bD (qv 3) QK (QH (cz ao qf))) (Qh bD (qv 4) QK (QH (cz ao qf))) (qB _)) (ZO (zS gx (qC qG (qv 3) (cz ao qf)) (qC qG (qv 4) (cz ao qf)) (qB _)))))))),?_]
  refine#[_,Z,_,Z,p,ta,hk,bd,lg,n,D,v,zs,Z,b,ok,nf,tl,R,λW H1 g e1=>?_]
  refine#[_,Z,_,Z,p',F,u,G,j,n',D',v,zs,Z,b'.same g,L,M,tl.same g,R,λO H2 N X=>?_]
  have c:=N _ _ e1;have Y:0<zs.length:=List.length_pos_iff.mpr z0
  obtain⟨x,t,m⟩:=n9 (bs:=qQ D zs) (by rw[ZH];exact Y)
  obtain⟨y,B,I⟩:=n9 (bs:=qQ D' zs) (by rw[ZH];exact Y)
  refine#[_,Z,_,Z,_,Z,W,_,Z,G0.of c,λm1 J=>?_]
  have d:=GS.upd (o:= .lst (Qd ((qQ D zs).map V.bl) none ↑(-1))) J
  refine#[_,Z,_,Z,_,Z,O,_,Z,G0.of (d _ _ X),λm2 l=>?_]
  have e:=GS.upd (o:= .lst (Qd ((qQ D' zs).map V.bl) none ↑(-1))) l
  have S:=((g.trans N).trans d).trans e;refine#[m1,m2,(qQ D zs).dropLast,(qQ D' zs).dropLast,Z,Z,by rw[<- kQ];exact e _ _ qc,by rw[<- kQ];exact qc,by rw[List.length_dropLast,List.length_dropLast,ZH,ZH],_,Z,qW (λh=>?_) (λh=>?_)]
  ·have h:=Jx h
   refine#[_,Z,_,Z,W,_,_,_,Z,Z,G0.of (e _ _ (d _ _ c)),m,_,Z,_,Z,O,_,_,_,Z,Z,G0.of (e _ _ (d _ _ X)),I,Z,?_]
   have:=q _ S
   unfold Qn at this;rw[Ji h,t,B,E6]at this;rw[show decide (V.bl x=V.bl y)=decide (↑x=↑y)from decide_eq_decide.mpr #[λz=>by injection z with z;rw[z],λz=>by injection z with z;rw[z]]]
   exact this
  ·have:=q _ S
   unfold Qn at this;rw[Jo (λz=>h (Ji z)),EW]at this
   exact this
end
section
variable{P:Ξ}{w:Ω}{K:ι}{mg:GQ}{base:Ψ}{tk:Nat->Tok}
theorem rX(a:At K mg "_law_due" eM ["_law_owns","_law_row_here"])(T:HN K mg tk)(dI:Df P w K mg base "_law_hear" X2 2 fq)(xJ:Df P w K mg base "_law_copied" ["_law_own"] 1 mW):Df P w K mg base "_law_due" ["_law_owns","_law_row_here"] 3 oS:=by
 refine a.dq IX λf _ A _ s H vs Q E hr h=>?_
 ·obtain⟨ol,m1,d0,m2,c0,g,D2,v,zs,rfl,a8,b5,d2,c4,d4,d5,b8,d1,zl,z0,q⟩:=h
  refine#[_,(qe (qw (i:=2) IX.nd Z (Or.inr Z) (zA (own:=["_law_own"]) (fr:=[]) (js:=[]) Z (zN (qv 0)) Z (λ_ _ h=>nomatch h) Z (Zr Z nofun nofun nofun) (λ_ _ _ _=>qh (i:=0) (show List.Nodup (["_law_own"]:Α)from by decide +kernel) Z (Or.inl Z) (.inr Z)) (λ_ _ _ _=>(qp xJ hr.mo (qd (qv 0) qb)))))
   (qe (ww (i:=3) (x0:="_law_plain_here") IX.nd Z (Or.inl Z) (fr:=["_law_made"]) (js:=[2]) Z (bv (qv 1)) Z (gf Z) Z (DN Z nofun (λ_ _=>rfl) (λ_=>rfl) nofun nofun nofun Z Z Z) (λ_ _ _ _ _=>qh (i:=0) (show List.Nodup (["_law_plain_here","_law_made"]:Α)from by decide +kernel) Z (Or.inr Z) (.inl Z)) (λ_ _ _ _ _=>(zA (own:=["_law_own"]) (fr:=["_law_plain_here"]) (js:=[0]) Z (wK (K:=K) Z (qv 1)) Z (gf Z) Z (iD Z nofun nofun nofun Z Z Z) (λ_ _ _ _=>qh (i:=0) (show List.Nodup (["_law_own","_law_plain_here"]:Α)from by decide +kernel) Z (Or.inl Z) (.inr Z)) (λ_ _ _ _=>(qp dI hr.mo (qd (qv 0) (qd (qv 1) qb)))))))
   (qg (qr (Zl (qx (c9 Z) T.b_all GF (qd (zA (own:=["_law_one","_law_other"]) (fr:=[]) (js:=[]) Z (zN (Qh bD (qv 3) QK (QH (cz ao qf)))) Z (λ_ _ h=>nomatch h) Z (Zr Z nofun nofun nofun) (λ_ _ _ _=>Bd (K:=K) Z 2 Z (ql (qh (i:=0) (show List.Nodup (["_law_one","_law_other"]:Α)from by decide +kernel) Z (Or.inl Z) (.inr Z)) (ql (qh (i:=1) (show List.Nodup (["_law_one","_law_other"]:Α)from by decide +kernel) Z (Or.inl Z) (.inr Z)) qM))) (λ_ _ _ _=>(zS zE (qv 0) (qv 1) (qB _)))) qb)) (ZO (zS gx (qC qG (qC qG (qv 3) (cz ao qf)) qf) (qC qG (qC qG (qv 3) (cz ao qf)) qf) (qB _)))))))),?_]
  refine#[_,Z,ol,Z,#[_,G0.of a8],Ze (K:=K) (xs:=[.ref m1,.ref m2]) (GJ) (λi ys Hx=>GS H Hx/\((i=0/\ys=[])\/(i=1/\∃x kx,ys=[.ref x]/\H x=none/\H kx=none/\Ht Hx x kx g)\/(i=2/\∃x kx y ky,ys=[.ref x,.ref y]/\H x=none/\H kx=none/\Ht Hx x kx g/\H y=none/\H ky=none/\Ht Hx y ky D2/\x≠y/\x≠ky/\kx≠y/\kx≠ky))) #[GS.refl _,.inl #[Z,Z]] (λi ys Hx h=>G0.of (h.1 _ _ a8)) ?_ ?_]
  ·rintro i ys Hx z N n ⟨C,⟨rfl,rfl⟩|⟨rfl,x,kx,rfl,fx,Y,W⟩|⟨rfl,_⟩⟩
   ·cases N
    refine#[_,Z,m1,d0,g,Z,b5.same C,λm' a1 Hy sy f1 f2 X=>#[C.trans sy,.inr (.inl #[Z,m',a1,Z,QU f1 C,QU f2 C,X])]]
   ·cases N
    refine#[_,Z,m2,c0,D2,Z,d2.same C,λm' a1 Hy sy f1 f2 X=>#[C.trans sy,.inr (.inr #[Z,x,kx,m',a1,Z,fx,Y,W.same sy,QU f1 C,QU f2 C,X,?_,?_,?_,?_])]]
    ·exact qo W.di f1
    ·exact qo W.di f2
    ·obtain⟨_,hd,_⟩:=W.kn;exact qo hd f1
    ·obtain⟨_,hd,_⟩:=W.kn;exact qo hd f2
   ·cases N
  rintro ys Hx n ⟨C,⟨h0,_⟩|⟨h0,_⟩|⟨_,x,kx,y,ky,rfl,fx,Y,W,fy,b7,my,n1,n2,n3,n4⟩⟩ l hl
  ·cases h0
  ·cases h0
  have u:=GS.upd (o:= .lst [.ref x,.ref y]) hl
  have c1:LU H (GW Hx l (.lst [.ref x,.ref y])) l x kx y ky g D2:=#[C.trans u,qc,W.same u,my.same u,fx,Y,fy,b7,n1,n2,n3,n4]
  generalize GW Hx l (.lst [.ref x,.ref y])=H1 at c1⊢
  clear u W my C hl;obtain⟨t,as,rfl,ht,la,has⟩:=id d1;refine#[_,Z,t,Z,?_]
  refine kU (K:=K) ht (by rw[Je,la,Ju];lia) (λi ys Hx=>∃ps:Η,ys=ps.map V.ref/\LU H Hx l x kx y ky (Qu g (zs.take i)) (Qu D2 (zs.take i))/\MX Hx ps (qQ g (zs.take i)) (qQ D2 (zs.take i))) #[[],Z,c1,Z,Z,λj p b M h=>by cases h] (λi ys Hx h=>by obtain⟨_,_,c,_⟩:=h;exact c.s) ?_ ?_
  ·rintro i ys Hx z N n ⟨ps,rfl,c,R⟩
   rw[Jn]at N;obtain⟨ai,O,rfl⟩:=JZ.mp N;have hi:i<zs.length:=by rw[<- la];exact(Js.mp O).1
   obtain⟨⟨nm,age,J⟩,ez⟩:∃z,zs[i]? =↑z:=#[_,Jg hi]
   have d9:=(has i ai _ O ez).same c.s;have d6:zs.take (i+1)=zs.take i++[(nm,age,J)]:=by rw[J9,ez];rfl
   have a6:=kC c4 (zs.take i);have a2:=lF (D:=g) (zs.take i)
   have a3:=kC d4 (zs.take i);have b0:=lF (D:=D2) (zs.take i)
   rw[d6,Q9,Q9,il,il];obtain⟨B,d8⟩:∃F,F=Qu g (zs.take i):=#[_,Z]
   obtain⟨U,c3⟩:∃F,F=Qu D2 (zs.take i):=#[_,Z]
   rw[<- d8]at a6 a2 c⊢;rw[<- c3]at a3 b0 c⊢;have g1:B.near<=B.far:=by rw[a2];exact d5
   have g2:U.near<=U.far:=by rw[b0];exact b8
   refine#[_,Z,l,Z,#[_,G0.of c.el],Ze (K:=K) (a:=l) (xs:=[.ref x,.ref y]) (GJ) (λj ys Hy=>MX Hy ps (qQ g (zs.take i)) (qQ D2 (zs.take i))/\Hy l=↑(.lst [.ref x,.ref y])/\((j=0/\ys=[]/\LU H Hy l x kx y ky B U)\/(j=1/\ys=[.bl (zK B nm age J)]/\LU H Hy l x kx y ky {B with kn:=Hj B nm age J} U)\/(j=2/\ys=[.bl (zK B nm age J),.bl (zK U nm age J)]/\LU H Hy l x kx y ky {B with kn:=Hj B nm age J} {U with kn:=Hj U nm age J}))) #[R,c.el,.inl #[Z,Z,c]] (λj ys Hy h=>G0.of h.2.1) ?_ ?_]
   ·rintro j ys Hy z N n ⟨S,G,⟨rfl,rfl,r⟩|⟨rfl,rfl,r⟩|⟨rfl,_⟩⟩
    ·cases N
     refine#[_,Z,_,Z,x,kx,ai,B,nm,age,J,Z,r.mx,(has i ai _ O ez).same r.s,a6,g1,λH4 mv md=>#[S.keep mv λp xs h=>r.mx.nin h,mv _ _ (r.mx.nin G) G,.inr (.inl #[Z,Z,r.left mv md])]]
    ·cases N
     refine#[_,Z,_,Z,y,ky,ai,U,nm,age,J,Z,r.my,(has i ai _ O ez).same r.s,a3,g2,λH4 mv md=>#[S.keep mv λp xs h=>r.my.nin h,mv _ _ (r.my.nin G) G,.inr (.inr #[Z,Z,r.right mv md])]]
    ·cases N
   ·rintro ys Hy n ⟨S,G,⟨h0,_⟩|⟨h0,_⟩|⟨_,rfl,r⟩⟩ lp b4
    ·cases h0
    ·cases h0
    have u:=GS.upd (o:= .lst [.bl (zK B nm age J),.bl (zK U nm age J)]) b4
    exact#[ps++[lp],by simp,r.same u,(S.same u).snoc qc]
  rintro ys Hy n ⟨ps,rfl,c,R⟩ lo b6
  have u:=GS.upd (o:= .lst (ps.map V.ref)) b6
  have S2:=c.s.trans u;have R:=R.same u;have eo:(GW Hy lo (.lst (ps.map V.ref))) lo=↑(.lst (ps.map V.ref)):=qc
  rw[Je,la,E5]at R;generalize GW Hy lo (.lst (ps.map V.ref))=H2 at S2 R eo⊢
  obtain⟨e,z,ew⟩:=pC z0;have q:=λHz s=>q Hz s
  rw[ew,rq]at q;rw[ew,Q9,Q9]at R;obtain⟨d,pz,rfl⟩:=pC (l:=ps) (λh=>by subst h;have:=R.1;simp at this)
  obtain⟨l1,l2,hp⟩:=R;have l1:d.length=(qQ g e).length:=by simpa using l1
  have l2:d.length=(qQ D2 e).length:=by simpa using l2
  have b3:H2 pz=↑(.lst [.bl (zK (Qu g e) z.1 z.2.1 z.2.2),.bl (zK (Qu D2 e) z.1 z.2.1 z.2.2)]):=hp d.length pz _ _ (by simp) (by rw[l1];simp) (by rw[l2];simp)
  have d7:∀(j:Nat) (p:Δ) (b M:Bool),d[j]? =↑p->(qQ g e)[j]? =↑b->(qQ D2 e)[j]? =↑M->H2 p=↑(.lst [.bl b,.bl M]):=λj p b M e1 e2 e3=>hp j p b M (by rw[JT (Js.mp e1).1];exact e1) (by rw[JT (Js.mp e2).1];exact e2) (by rw[JT (Js.mp e3).1];exact e3)
  have a7:Qd ((d++[pz]).map V.ref) none ↑(-1)=d.map V.ref:=by rw[t7,JK];exact List.dropLast_concat
  have L:zY ((d++[pz]).map V.ref) (-1)=↑(.ref pz):=by rw[JK];exact wN _ _
  have lz:d.length<=100:=by
   have:=JH List.length ew
   rw[Jv,Fd]at this;rw[l1,ZH];lia
  refine#[_,Z,_,Z,_,Z,lo,_,Z,G0.of eo,λm hm=>?_]
  rw[a7];have um:=GS.upd (o:= .lst (d.map V.ref)) hm
  refine#[m,Z,#[_,G0.of qc],?_]
  have em:(GW H2 m (.lst (d.map V.ref))) m=↑(.lst (d.map V.ref)):=qc
  have S3:=S2.trans um;have a0:=um _ _ eo;have I:=um _ _ b3;have a5:∀(j:Nat) (p:Δ) (b M:Bool),d[j]? =↑p->(qQ g e)[j]? =↑b->(qQ D2 e)[j]? =↑M->(GW H2 m (.lst (d.map V.ref))) p=↑(.lst [.bl b,.bl M]):=λj p b M e1 e2 e3=>um _ _ (d7 j p b M e1 e2 e3)
  generalize GW H2 m (.lst (d.map V.ref))=H3 at em S3 a0 I a5⊢
  refine rT (K:=K) (a:=m) (xs:=d.map V.ref) (by rw[Je,Ju];lia) (λi ys Hx=>Hx=H3/\ys=((((qQ g e).zip (qQ D2 e)).map λp=>decide (p.1=p.2)).take i).map V.bl) #[Z,Z] (λi ys Hx h=>by rw[h.1];exact G0.of em) ?_ ?_
  ·rintro i ys Hx v hv n ⟨rfl,rfl⟩
   rw[Jn]at hv;obtain⟨p,a4,rfl⟩:=JZ.mp hv;have hi:i<d.length:=(Js.mp a4).1
   have b1:=Jg (show i<(qQ g e).length by lia)
   have b2:=Jg (show i<(qQ D2 e).length by lia)
   refine#[p,_,_,Z,.inl (G0.of (a5 i p _ _ a4 b1 b2)),?_]
   refine#[_,Z,_,Z,Z,Z,?_]
   rw[J9,JK];congr 1
   rw[Jn,(List.getElem?_zip_eq_some (i:=i) (z:=((qQ g e)[i],(qQ D2 e)[i]))).mpr #[b1,b2]]
   show [V.bl _]=[V.bl _]
   congr 2
   exact decide_eq_decide.mpr #[λh=>by injection h,λh=>JH V.bl h]
  ·rintro ys Hx n ⟨rfl,rfl⟩ lq d3
   have uq:=GS.upd (o:= .lst (((((qQ g e).zip (qQ D2 e)).map λp=>decide (p.1=p.2)).take (d.map V.ref).length).map V.bl)) d3
   refine#[lq,_,Z,G0.of qc,_,Z,?_]
   have ea:(((((qQ g e).zip (qQ D2 e)).map λp=>decide (p.1=p.2)).take (d.map V.ref).length)).all id=decide (qQ g e=qQ D2 e):=by
    rw[Gn (by rw[Je,Je,List.length_zip];lia),oA (by lia)]
   rw[ea];have q:=q _ (S3.trans uq);refine qW (λy=>?_) (λy=>?_)
   ·rw[y,E6]at q
    refine#[_,Z,_,Z,lo,_,_,_,Z,Z,G0.of (uq _ _ a0),L,pz,_,_,_,Z,Z,G0.of (uq _ _ I),Z,_,Z,_,Z,lo,_,_,_,Z,Z,G0.of (uq _ _ a0),L,pz,_,_,_,Z,Z,G0.of (uq _ _ I),Z,Z,?_]
    rw[show decide (V.bl (zK (Qu g e) z.1 z.2.1 z.2.2)=V.bl (zK (Qu D2 e) z.1 z.2.1 z.2.2))=decide (zK (Qu g e) z.1 z.2.1 z.2.2=zK (Qu D2 e) z.1 z.2.1 z.2.2)from decide_eq_decide.mpr #[λh=>by injection h,λh=>by rw[h]]]
    exact q
   ·rw[show decide (qQ g e=qQ D2 e)=false from Gc.mpr y,EW]at q
    exact q
end
section
variable{P:Ξ}{w:Ω}{K:ι}{mg:GQ}{base:Ψ}{tk:Nat->Tok}{C:Δ}
theorem lE(a:At K mg "_law_state" bu ["_law_door"])(T:HN K mg tk)(U:Iz K C)(m:Mf P w K mg base C "known_now" W6 1 (gb K C))(i:Mf P w K mg base C "log_now" W6 1 (uW K C)):Df P w K mg base "_law_state" ["_law_door"] 2 (oq K C):=by
 refine a.dq kH λf _ A _ s H vs Q E g h=>?_
 ·obtain⟨x,D,L,rfl,dl,ok,q⟩:=h
  refine#[_,(qg (qr (qy (qd (Qi m U.cl g.mo (qv 0)) (qd (Qi i U.cl g.mo (qv 0)) qb))))),?_]
  refine#[_,Z,x.p,Z,dl.dr.no,x.p,x.ta,x.hk,x.bd,x.lg,L.length,D,Z,dl.dr,ok,λk p H1 e pm j l=>?_]
  have c:=dl.same e;refine#[_,Z,x.p,Z,c.dr.no,x,D,L,Z,c,λt v d lt=>#[GJ,λn r=>?_]]
  have u:=GS.upd (o:= .tup [.ref k,.ref t]) r
  exact q n k t p _ ((e.trans d).trans u) qc pm j (l.same (d.trans u)) (lt.same u)
theorem kX(a:At K mg "_law_plain" a9 ["_law_box_here","_law_drawn_here"])(T:HN K mg tk)(M:Df P w K mg base "_law_take" X0 1 QL):Df P w K mg base "_law_plain" X5 2 jg:=by
 refine a.dq IJ λf _ A _ s H vs Q E C h=>?_
 ·obtain⟨b,B,nl,c,d,R,ba,rfl,F,hc,v,N,a0,ok,q⟩:=h
  refine#[_,(qe (qw (i:=2) IJ.nd Z (Or.inl Z) (qu CT (qC qO (qv 1) qf) (zo (qd qA qb))))
   (qe (CP (i:=3) (j:=4) Z IJ.nd Z Z ⋯ Z Z (qd (qC qG (qv 2) (qp M C.mo (qd (qv 0) (qd (qx qY T.b_len J6 (qd (qv 2) qb)) qb)))) (qd (qp M C.mo (qd (qv 0) (qd (qC qO (qv 1) qf) qb))) qb)))
   (qg (qr (qy (qd (qv 3) (qd (qv 4) (qd (qx (zW Z) T.b_min PyProof.Rows.boot_min (qd qf (qd (qu qI (qC qO (qv 1) qf) (qp M C.mo (qd (qv 0) (qd qf qb)))) qb))) qb)))))))),?_]
  have l9:=ok.l9;have m1:=ok.m1;have m8:=ok.m8;refine#[_,Z,B,_,_,_,Z,Z,G9.of v,Z,GI,λJ l=>#[nl,J,_,_,Z,Z,(GS.upd l) _ _ N,qc,by rw[Je,Ju];show d.length+1<=_;lia,λn u=>?_]]
  have D:=(GS.upd (o:= .lst [.str "none"]) l).trans (GS.upd (o:= .lst (d.map V.str++[.str "none"])) u)
  have L:(GW (GW H J (.lst [.str "none"])) n (.lst (d.map V.str++[.str "none"]))) n=↑(.lst ((d++(["none"]:Α)).map V.str)):=by rw[qc,JK];rfl
  have m:=(D.grc F).bx;have g:=D _ _ v;have O:=D.grc F;have I:n≠b:=qS ((GS.upd (o:= .lst [.str "none"]) l).grc F).bx u
  generalize GW (GW H J (.lst [.str "none"])) n (.lst (d.map V.str++[.str "none"]))=H2 at L m g O⊢
  have S:(((d++(["none"]:Α)).map V.str).length:Int)=d.length+1:=by simp
  refine#[_,Z,_,Z,_,Z,n,_,Z,.inl (G0.of L),b,_,_,Z,m,by lia,by rw[S];lia,by rw[S];lia,λr H3 r0 U t=>?_]
  obtain⟨x,hx,z⟩:=QJ (xs:=(d++(["none"]:Α)).map V.str) r0 U
  obtain⟨nm,_,rfl⟩:=Jt.mp z;refine#[n,_,_,_,Z,Z,G0.of (t.kp _ _ I L),hx,?_]
  have e:=t.mv.tup (zg m) g;refine#[_,Z,_,Z,B,_,_,_,Z,Z,G9.of e,Z,b,_,_,Z,t.bx,by lia,by lia,by lia,λY H4 X W G=>#[_,_,Z,?_]]
  have y:=G.mv.tup (zg t.bx) e;refine#[_,Z,_,Z,_,Z,B,_,_,_,Z,Z,G9.of y,Z,_,Z,b,_,_,Z,G.bx,by lia,⋯,⋯,λr5 H5 a2 a1 g5=>#[_,_,Z,Z,_,_,Z,GK,λp hp=>?_]]
  exact q p (nm,Y,_) _ (((((O.trans t).trans G).trans g5).same (GS.upd hp)).mono (by lia)) qc
theorem rA(a:At K mg "_law_row" db ["_law_box_here","_law_drawn_here","_law_told"])(T:HN K mg tk)(dA:Df P w K mg base "_law_take" X0 1 QL)(xT:Df P w K mg base "_law_plain" X5 2 jg):Df P w K mg base "_law_row" W4 3 pE:=by
 refine a.dq HJ λf _ A _ s H vs Q E hr h=>?_
 ·obtain⟨b,dr,nl,c,d7,b0,ba,v,o,rfl,hb,hc,e1,d2,b5,ok,c2,ho,q⟩:=h
  refine#[_,(qe (Z8 (i:=3) HJ.nd Z (Or.inl Z) (own:=["_law_turn"]) (fr:=["_law_drawn_here","_law_box_here"]) (js:=[1,0]) Z (zC Z T.b_range (qd (qu qI qf (qp dA hr.mo (qd (qv 0) (qd qf qb)))) qb)) Z (vM Z Z) Z (vY Z nofun nofun nofun Z Z Z Z Z Z) (λ_ _ _ _=>qh (i:=0) (show List.Nodup (["_law_turn","_law_drawn_here","_law_box_here"]:Α)from by decide +kernel) Z (Or.inl Z) (.inr Z)) (λ_ _ _ _=>(qp xT hr.mo (qd (qv 2) (qd (qv 1) qb)))))
   (qe (qw (i:=4) HJ.nd Z (Or.inl Z) (qp dA hr.mo (qd (qv 0) (qd qf qb))))
   (qe (qK (QW.pt (Zt (qE Zp (qv 2) zd (qB _)) (QX (qE zE (qv 4) qf (qB _))))) (qg (qr (qv 3))) qF)
   (qe (qw (i:=5) HJ.nd Z (Or.inl Z) (qH Zo T.b_list FM (qd (qv 2) qb)))
   (qe (qw (i:=6) HJ.nd Z (Or.inl Z) (qp dA hr.mo (qd (qv 0) (qd (qx qY T.b_len J6 (qd (qv 5) qb)) qb))))
   (qe (q9 (qC qG (qv 5) (qv 6)) (ze Z (ql (qh (i:=7) HJ.nd Z (Or.inl Z)) (ql (qh (i:=8) HJ.nd Z (Or.inl Z)) (ql (qh (i:=9) HJ.nd Z (Or.inl Z)) qM)))))
   (qe (qK (qE zE (qv 4) qf (qB _)) (qg (zm (QZ EZ PySem.F.slot_list_insert PySem.F.type_list_insert iP (qv 5) (qd (qp dA hr.mo (qd (qv 0) (qd (qu qI (qx qY T.b_len J6 (qd (qv 5) qb)) qf) qb))) (qd (qC qG (qv 3) qf) qb))))) (qg (qK (QW.pt (gz (qE zE (qv 4) qf (qB _)) (fj (qE rY (qx qY T.b_len J6 (qd (qv 5) qb)) qf (qB _))))) (qg (zm (kg (K:=K) Z EZ PySem.F.slot_list_pop PySem.F.type_list_pop gc (qv 5) (qd (qv 6) qb)))) (qg (qK (qE zE (qv 4) qf (qB _)) (qg (zm (QZ EZ PySem.F.slot_list_insert PySem.F.type_list_insert iP (qv 5) (qd (qv 6) (qd (qC qG (qv 5) (qv 6)) qb))))) (qg (qK (qE zE (qv 4) qf (qB _)) (qg (q9 (qy (qd (qv 7) (qd (qv 8) (qd (qx (Zg Z) T.b_max F4 (qd qf (qd (qx (zW Z) T.b_min PyProof.Rows.boot_min (qd qf (qd (qu zO (qu qI (qv 9) (qu QR qf (qp dA hr.mo (qd (qv 0) (qd qf qb))))) qf) qb))) qb))) qb)))) (bG (qv 5) (qv 6) Zc))) qF)))))))
   (qg (qr (qv 5)))))))))),?_]
  refine#[_,Z,b,_,c,Z,hb,by lia,⋯,⋯,λr1 H1 e8 e7 g1=>#[_,_,Z,Z,_,Z,by lia,by lia,?_]]
  obtain⟨n,hn⟩:∃n:Nat,(1+r1).toNat=n:=#[_,Z]
  rw[hn];have n1:1<=n:=by lia
  have n4:n<=4:=by lia
  refine Zj (n:=n) (by rw[Ju];lia) (λi ys Hx=>IQ b (c+1+3*i) H Hx/\∃I:List (Δ×Str×Int×Int),ys=I.map (λw=>V.ref w.1)/\I.length=i/\Lu Hx I) #[g1,[],Z,Z,λw h=>nomatch h] ?_ ?_
  ·rintro i ys Hx hi e0 ⟨G,I,rfl,lw,hw⟩
   refine#[_,Z,_,Z,b,dr,nl,_,d7,b0,ba,Z,G.bx,by lia,G.mv.tup (zg hb) e1,G.kp _ _ b5 d2,b5,ok,λp z H2 g2 ep=>#[(G.trans g2).mono (by lia),I++[(p,z)],by simp,by simp [lw],λw B=>?_]]
   rcases JL.mp B with B|B
   ·exact(hw.grc G.bx g2) w B
   ·rw[Jh.mp B];exact ep
  rintro ys Hx e0 ⟨G,I,rfl,lw,hw⟩ M a6
  have u3:=GS.upd (o:= .lst (I.map λw=>V.ref w.1)) a6
  have J:M≠b:=qS G.bx a6
  have G3:=G.same u3;have b4:=hw.same u3;have e3:(GW Hx M (.lst (I.map λw=>V.ref w.1))) M=↑(.lst (I.map λw=>V.ref w.1)):=qc
  generalize GW Hx M (.lst (I.map λw=>V.ref w.1))=H3 at G3 b4 e3⊢
  have a8:I≠[]:=λh=>by rw[h]at lw;simp at lw;lia
  refine#[_,Z,b,_,_,Z,G3.bx,by lia,⋯,⋯,λa2 H4 w0 w1 g4=>?_]
  have G4:=G3.trans g4;have c1:=b4.grc G3.bx g4;have e4:=g4.kp _ _ J e3;have L:Q (.ref M) H4:=q M I H4 (G4.mono (by lia)) J e4 a8 (by lia) c1
  have U:Ls H4 v o:=by
   cases o with
   |none=>exact c2
   |some r=>
    obtain⟨t,as,e,h1,l,h2⟩:=c2
    exact#[t,as,e,G4.mv.tup (zg hb) h1,l,λi a z k1 k2=>G4.mv.tup (zg hb) (h2 i a z k1 k2)]
  cases o with
  |none=>
   have U:v= .non:=U
   subst U
   exact#[_,Z,Z,_,Z,zx (zx #[_,Z,L])]
  |some r=>
  obtain⟨d9,r2⟩:=ho r Z;obtain⟨t,j,rfl,et,l0,d1⟩:=Lu.of U;have d3:0<j.length:=by have:=List.length_pos_iff.mpr d9;lia
  refine#[_,Z,Z,_,Z,zw #[_,Z,Z,_,Z,qW (λ_=>?_) (λ_=>?_)]]
  ·exact#[_,Z,L]
  refine#[_,Z,t,_,Z,.inr (G9.of et),λu W=>?_]
  have u5:=GS.upd (o:= .lst (j.map λw=>V.ref w.1)) W
  have D:u≠b:=qS G4.bx W
  have e9:M≠u:=qo e4 W
  have G5:=G4.same u5;have b3:=c1.same u5;have a7:=d1.same u5;have e5:=u5 _ _ e4;have a3:(GW H4 u (.lst (j.map λw=>V.ref w.1))) u=↑(.lst (j.map λw=>V.ref w.1)):=qc
  generalize GW H4 u (.lst (j.map λw=>V.ref w.1))=H5 at G5 b3 a7 e5 a3⊢
  refine#[_,Z,_,Z,u,_,Z,.inl (G0.of a3),b,_,_,Z,G5.bx,by lia,by rw[Je];lia,by rw[Je];lia,λb1 H6 a0 a1 N=>?_]
  rw[Je]at a1;obtain⟨i,rfl⟩:∃i:Nat,b1=(i:Int):=#[b1.toNat,by lia]
  have hi:i<j.length:=by lia
  have G6:=G5.trans N;have c3:=b3.grc G5.bx N;have F:=a7.grc G5.bx N;have e6:=N.kp _ _ J e5;have m:=N.kp _ _ D a3;have gi:=Jg hi;obtain⟨C,d4⟩:∃x,x=j[i]:=#[_,Z]
  rw[<- d4]at gi;have d6:=F C (JP gi);have c0:zY (j.map λw=>V.ref w.1) (i:Int)=↑(.ref C.1):=Qo (by rw[Jn,gi];rfl)
  refine#[_,Z,_,Z,u,_,_,_,Z,Z,G0.of m,c0,C.1,_,Z,.tup d6,Z,_,_,Z,_,_,Z,_,_,Z,Z,?_]
  have hn:H u=none:=by
   cases e:H u with
   |none=>rfl
   |some o'=>have:=G4.kp u o' D e;rw[W]at this;cases this
  have put:∀(Hy:Hp) (d:List (Δ×Str×Int×Int)) (Y:Nat),IQ b Y H Hy->Y<=c+40->Hy u=↑(.lst (j.map λw=>V.ref w.1))->Lu Hy d->IQ b (c+40) H (GW Hy u (.lst (d.map λw=>V.ref w.1)))/\Lu (GW Hy u (.lst (d.map λw=>V.ref w.1))) d:=λHy d Y g lc e h=>by
   refine#[#[λp o hp ho=>?_,?_],h.mv e Mv.upd1]
   ·rw[qm (qo ho hn)];exact g.kp p o hp ho
   ·obtain⟨x,y,z,eb,r⟩:=(g.bx).mono lc
    exact#[x,y,z,by rw[qm D.symm];exact eb,r]
  refine BO (λb8 H'=>∃d:List (Δ×Str×Int×Int),IQ b (c+40) H H'/\H' u=↑(.lst (d.map λw=>V.ref w.1))/\d≠[]/\d.length<=10/\Lu H' d/\b8=[↑(.ref b),↑(.ref dr),↑(.ref t),↑(.ref M),↑(.int a2),↑(.ref u),↑(.int (i:Int)),↑(.str C.2.1),↑(.int C.2.2.1),↑(.int C.2.2.2)]) (λD' e2 a4=>?_) ?_
  rotate_left
  ·rintro b8 H' ⟨d,g,e,ne,le,h,rfl⟩
   exact#[_,Z,q u d H' g D e ne le h]
  have same:D'.nx [↑(.ref b),↑(.ref dr),↑(.ref t),↑(.ref M),↑(.int a2),↑(.ref u),↑(.int (i:Int)),↑(.str C.2.1),↑(.int C.2.2.1),↑(.int C.2.2.2)] H6:=a4 _ _ #[j,G6.mono (by lia),m,List.length_pos_iff.mp d3,by lia,F,Z]
  have S:∀(Hy:Hp) (d:List (Δ×Str×Int×Int)) (Y:Nat),IQ b Y H Hy->Y<=c+40->Hy u=↑(.lst (j.map λw=>V.ref w.1))->Lu Hy d->d≠[]->d.length<=10->∀xs,xs=(d.map λw=>V.ref w.1)->D'.nx [↑(.ref b),↑(.ref dr),↑(.ref t),↑(.ref M),↑(.int a2),↑(.ref u),↑(.int (i:Int)),↑(.str C.2.1),↑(.int C.2.2.1),↑(.int C.2.2.2)] (GW Hy u (.lst xs)):=λHy d Y g lc e h ne le xs d5=>by
   subst d5;obtain⟨p1,p2⟩:=put Hy d Y g lc e h;exact a4 _ _ #[d,p1,qc,ne,le,p2,Z]
  clear a4;refine#[_,Z,Z,_,Z,qW (λ_=>?_) (λ_=>?_)]
  ·obtain⟨wh,wt,rfl⟩:∃wh wt,I=wh::wt:=by
    cases I with
    |nil=>exact absurd Z a8
    |cons x r=>exact#[x,r,Z]
   refine#[_,Z,.inl #[Z,_,G0.of m],_,Z,_,Z,u,_,Z,.inl (G0.of m),_,_,Z,Z,b,_,_,Z,N.bx,by lia,by rw[Je];lia,by rw[Je];lia,λX H7 a5 b2 O=>?_]
   rw[Je]at b2;have b7:=O.kp _ _ D m;refine#[_,Z,M,_,_,_,Z,Z,G0.of (O.kp _ _ J e6),(show zY (V.ref wh.1::wt.map λw=>V.ref w.1) ((0:Nat):Int)=↑(.ref wh.1)from Qo Z),u,_,X,_,Z,Z,b7,a5,by rw[Je];lia,by rw[Je,Ju];lia,?_]
   refine S H7 (j.take X.toNat++wh::j.drop X.toNat) _ (G6.trans O) (by lia) b7 ?_ (by simp) (by simp only[Jv,EX,JN,FF];lia) _ (by simp [List.map_take,List.map_drop])
   have R:=F.grc N.bx O;have c4:=c3.grc N.bx O;intro w B;rcases JL.mp B with B|B
   ·exact R w (List.mem_of_mem_take B)
   ·rcases Jm.mp B with rfl|B
    ·exact c4 _ JB
    ·exact R w (List.mem_of_mem_drop B)
  refine#[_,Z,Z,_,Z,qW (λ_=>#[_,Z,u,_,Z,.inl (G0.of m),_,_,Z,Z,_,Z,qW (λy=>?_) (λ_=>?_)]) (λ_=>?_)]
  ·rw[Je]at y
   have y:=Jx y;refine#[_,Z,.inl #[Z,_,G0.of m],_,Z,u,_,(i:Int),i,.ref C.1,Z,Z,m,Int.le_trans ⋯ (Int.natCast_nonneg i),by lia,?_,by rw[Jn,gi];rfl,?_]
   ·exact(iw (by unfold Z1;simp [Je];lia)).1
   ·refine S H6 (j.eraseIdx i) _ G6 (by lia) m (λw B=>F w (List.mem_of_mem_eraseIdx B)) ?_ ?_ _ (jD _ _ _)
    ·intro h
     have:=JH List.length h
     rw[List.length_eraseIdx,Jc hi]at this;simp at this;lia
    ·rw[List.length_eraseIdx];split<;>lia
  all_goals
   refine#[_,Z,Z,_,Z,qW (λ_=>?_) (λ_=>?_)]
   ·refine#[_,Z,.inl #[Z,_,G0.of m],_,Z,_,Z,_,Z,u,_,_,_,Z,Z,G0.of m,c0,u,_,(i:Int),_,Z,Z,m,by lia,by rw[Je];lia,by rw[Je,Ju];lia,?_]
    refine S H6 (j.take i++C::j.drop i) _ G6 (by lia) m ?_ (by simp) (by simp only[Jv,EX,JN,FF];lia) _ (by simp [List.map_take,List.map_drop])
    intro w B;rcases JL.mp B with B|B
    ·exact F w (List.mem_of_mem_take B)
    ·rcases Jm.mp B with rfl|B
     ·exact F _ (JP gi)
     ·exact F w (List.mem_of_mem_drop B)
   refine#[_,Z,Z,_,Z,qW (λ_=>?_) (λ_=>same)]
   refine#[_,Z,_,Z,_,Z,_,Z,b,_,_,Z,N.bx,by lia,⋯,⋯,λX H7 a5 b2 O=>?_]
   refine#[_,_,Z,Z,.inl #[⋯,⋯],_,_,Z,Z,_,_,Z,Z,_,_,Z,_,_,Z,GK,λp hp=>?_]
   have R:=F.grc N.bx O;have u8:=GS.upd (o:= .tup (z3 (C.2.1,C.2.2.1,zD 0 (Zz 4095 (C.2.2.2+2*X-1))))) hp
   have b6:=u8 _ _ (O.kp _ _ D m);have d8:=R.same u8;have d0:(GW H7 p (.tup (z3 (C.2.1,C.2.2.1,zD 0 (Zz 4095 (C.2.2.2+2*X-1)))))) p=↑(.tup (z3 (C.2.1,C.2.2.1,zD 0 (Zz 4095 (C.2.2.2+2*X-1))))):=qc
   refine#[_,Z,_,Z,u,_,(i:Int),i,Z,Z,b6,?_,?_]
   ·unfold Z1
    simp [Je];lia
   ·refine S _ (j.set i (p,C.2.1,C.2.2.1,zD 0 (Zz 4095 (C.2.2.2+2*X-1)))) _ ((G6.trans O).same u8) (by lia) b6 (λw B=>?_) ?_ (by rw[Fl];lia) _ (by rw[List.map_set])
    ·rcases List.mem_or_eq_of_mem_set B with B|rfl
     ·exact d8 w B
     ·exact d0
    ·intro h
     have:=JH List.length h
     rw[Fl]at this;exact absurd this (show¬j.length=0 by lia)
end
section
variable{P:Ξ}{w:Ω}{K:ι}{mg:GQ}{base:Ψ}{tk:Nat->Tok}{C:Δ}
def tY:Sp:=λvs H Q _=>∃x:Bool,vs=[.bl x,.bl x]/\Q (.bl true) H
theorem vF(a:At K mg "_law_is" fY ["_law_found","_law_due_here"])(T:HN K mg tk):Df P w K mg base "_law_is" ["_law_found","_law_due_here"] 1 tY:=by
 refine a.dq ue λf _ A _ s H vs Q E c h=>?_
 ·obtain⟨x,rfl,q⟩:=h
  refine#[_,(qg (qr (Zl (qx fS T.b_isinstance F0 (qd (qv 0) (qd (ab (v:= .ty "bool") Z T.b_bool PyProof.Rows.boot_bool Z) qb))) (ZO (zS zE (qv 0) (qv 1) (qB _)))))),?_]
  refine#[_,Z,.bl x,"bool","bool",Z,.bl x,by simp [iH],by simp [lB],?_]
  rw[show aC "bool" "bool"=true from by decide]
  refine#[_,Z,zx #[_,Z,_,Z,Z,?_]]
  rw[Ji Z];exact q
theorem Ck{f:Δ}{fd:FuncData}(F:LX K "law" "law" Z6 f fd)(T:HN K mg tk)(yA:Df P w K mg base "_law_box" ["_law_script","_law_k"] 1 (vB K))(dA:Df P w K mg base "_law_take" X0 1 QL)(xU:Df P w K mg base "_law_drawn" X7 2 lQ)(xZ:Df P w K mg base "_law_pair" X5 9 (pI K C))(yE:Df P w K mg base "telling" ["one","other"] 6 (ux K C))(dR:Df P w K mg base "shows_telling" ["one","other","row"] 5 (oY K C))(yG:Df P w K mg base "_law_row" W4 3 pE)(xE:Df P w K mg base "_law_state" ["_law_door"] 2 (oq K C))(x6:Df P w K mg base "_law_due" ["_law_owns","_law_row_here"] 3 oS)(yH:Df P w K mg base "_law_is" ["_law_found","_law_due_here"] 1 tY):IP P w K mg base aJ 10 f fd ["_law_script"] (j0 K):=by
 refine F.dq HG (λvs H Q E h=>?_) (λcdv A m2 s H vs Q E O h=>?_)
 ·obtain⟨x,ns,rfl,_⟩:=h
  rfl
 ·obtain⟨sc,ns,rfl,hS,o0,q⟩:=h
  refine#[_,(qe (zn JQ Z (zC Z T.b_range (qd (qu qI qf (qx qY T.b_len J6 (qd (Qh bD (qv 0) QK (QH qf)) qb))) qb)) (qh (i:=1) HG.nd Z (Or.inl Z))
   (qe (qw (i:=2) HG.nd Z (Or.inl Z) (qp yA O.mo (qd (qv 0) (qd (qv 1) qb))))
   (qe (qw (i:=3) HG.nd Z (Or.inl Z) (qp xU O.mo (qd (qv 2) qb)))
   (qe (q9 (qp xZ O.mo (qd (qv 2) (qd (qv 3) qb))) (ze Z (ql (qh (i:=4) HG.nd Z (Or.inl Z)) (ql (qh (i:=5) HG.nd Z (Or.inl Z)) qM))))
   (qe (q9 (qv 5) (ze Z (ql (ze Z (ql (qh (i:=6) HG.nd Z (Or.inl Z)) (ql (qh (i:=7) HG.nd Z (Or.inl Z)) qM))) (ql (ze Z (ql (qh (i:=8) HG.nd Z (Or.inl Z)) (ql (qh (i:=9) HG.nd Z (Or.inl Z)) qM))) qM))))
   (qe (qw (i:=10) HG.nd Z (Or.inl Z) (qp yE O.mo (qd (qv 6) (qd (qv 8) qb))))
   (qe (qK (QW.pt (gz (qE aa (qv 10) zd (qB _)) (fj (qE nA (qp dR O.mo (qd (qv 6) (qd (qv 8) (qd (qv 10) qb)))) Z5 (qB _))))) (qg (qr Z5)) qF)
   (qg (zn JQ Z (zC Z T.b_range (qd qf qb)) (qh (i:=11) HG.nd Z (Or.inl Z))
   (qe (qw (i:=12) HG.nd Z (Or.inl Z) (qp yG O.mo (qd (qv 2) (qd (qv 3) (qd (qv 10) qb)))))
   (qe (qK (qE zE (qp dA O.mo (qd (qv 2) (qd qf qb))) qf (qB _)) (qg (Z8 (i:=12) HG.nd Z (Or.inl Z) (own:=["_law_plain_here"]) (fr:=[]) (js:=[]) Z (bv (qv 12)) Z (λ_ _ h=>nomatch h) Z (Zr Z nofun nofun nofun) (λ_ _ _ _=>qh (i:=0) (show List.Nodup (["_law_plain_here"]:Α)from by decide +kernel) Z (Or.inl Z) (.inr Z)) (λ_ _ _ _=>(qH (ZV (K:=K) Z) T.b_list FM (qd (qv 0) qb))))) qF)
   (qe (qK (qE zE (qp dA O.mo (qd (qv 2) (qd qf qb))) qf (qB _)) (qg (qw (i:=12) HG.nd Z (Or.inl Z) (qH qX T.b_tuple J0 (qd (qv 12) qb)))) qF)
   (qe (Z8 (i:=13) HG.nd Z (Or.inl Z) (own:=["_law_plain_here"]) (fr:=[]) (js:=[]) Z (bv (qv 12)) Z (λ_ _ h=>nomatch h) Z (Zr Z nofun nofun nofun) (λ_ _ _ _=>qh (i:=0) (show List.Nodup (["_law_plain_here"]:Α)from by decide +kernel) Z (Or.inl Z) (.inr Z)) (λ_ _ _ _=>(qH (ZV (K:=K) Z) T.b_list FM (qd (qv 0) qb))))
   (qe (Z8 (i:=14) HG.nd Z (Or.inl Z) (own:=["_law_door"]) (fr:=[]) (js:=[]) Z (Zv (qy (qd (qv 6) (qd (qv 8) qb)))) Z (λ_ _ h=>nomatch h) Z (Zr Z nofun nofun nofun) (λ_ _ _ _=>qh (i:=0) (show List.Nodup (["_law_door"]:Α)from by decide +kernel) Z (Or.inl Z) (.inr Z)) (λ_ _ _ _=>(qp xE O.mo (qd (qv 0) qb))))
   (qe (qw (i:=15) HG.nd Z (Or.inl Z) (qp dR O.mo (qd (qv 6) (qd (qv 8) (qd (qv 12) qb)))))
   (qe (qK (Qc (Ql (qp yH O.mo (qd (qv 15) (qd (qp x6 O.mo (qd (zo (qd (qv 7) (qd (qv 9) qb))) (qd (qv 12) qb))) qb))))) (qg (qr Z5)) qF)
   (qe (qK (qE (li O) (zA (own:=["_law_plain_here"]) (fr:=[]) (js:=[]) Z (bv (qv 12)) Z (λ_ _ h=>nomatch h) Z (Zr Z nofun nofun nofun) (λ_ _ _ _=>qh (i:=0) (show List.Nodup (["_law_plain_here"]:Α)from by decide +kernel) Z (Or.inl Z) (.inr Z)) (λ_ _ _ _=>(qH (ZV (K:=K) Z) T.b_list FM (qd (qv 0) qb)))) (qv 13) (qB _)) (qg (qr Z5)) qF)
   (qg (qK (qE (li O) (zA (own:=["_law_door"]) (fr:=[]) (js:=[]) Z (Zv (qy (qd (qv 6) (qd (qv 8) qb)))) Z (λ_ _ h=>nomatch h) Z (Zr Z nofun nofun nofun) (λ_ _ _ _=>qh (i:=0) (show List.Nodup (["_law_door"]:Α)from by decide +kernel) Z (Or.inl Z) (.inr Z)) (λ_ _ _ _=>(qp xE O.mo (qd (qv 0) qb)))) (qv 14) (qB _)) (qg (qr Z5)) qF)))))))))))))))))))
   (qg (qr Z5))),?_]
  refine#[_,Z,_,Z,sc,_,Z,hS,λl0 k3=>#[l0,_,Z,.inl (G0.of qc),_,_,Z,Z,_,Z,?_,?_,?_]]
  ·lia
  ·rw[ci,Je]
   have:(aD ns none ↑2).length<=ns.length:=by unfold aD;rw[EX,FF];lia
   lia
  have u0:=GS.upd (o:= .lst (Qd (ns.map V.int) none ↑2)) k3
  have k8:=u0.seq hS;generalize GW H l0 (.lst (Qd (ns.map V.int) none ↑2))=Ha at *
  refine Qf (Pv:=λk σ Hx=>GS Ha Hx/\∃(o1 o2 o3 o4 o5 o6 o7 o8 o9 oa ob oc od oe b4:Μ),σ=[↑(.ref sc),o1,o2,o3,o4,o5,o6,o7,o8,o9,oa,ob,oc,od,oe,b4]) #[GS.refl _,none,none,none,none,none,none,none,none,none,none,none,none,none,none,none,Z] ?_ ?_
  ·rintro k σ H1 hk ⟨s1,o1,o2,o3,o4,o5,o6,o7,o8,o9,oa,ob,oc,od,oe,b4,rfl⟩
   refine#[_,Z,_,Z,sc,ns,k,by simp,s1.seq k8,λb H2 fb s2 h3=>?_]
   refine#[_,Z,b,0,Z,h3,⋯,λdr nl h6 d0 ba H3 g3 b8 g4 h7 ok _=>?_]
   have e3:nl≠b:=λz=>by obtain⟨_,_,_,e,_⟩:=h3;rw[z,e]at h7;cases h7
   have m8:dr≠b:=λz=>by obtain⟨_,_,_,e,_⟩:=g3.bx;rw[z,e]at b8;cases b8
   refine#[_,Z,_,Z,b,dr,nl,_,h6,d0,ba,Z,g3.bx,⋯,b8,g4,e3,ok,λqt cd tb kt pl t kss xs H4 U lx h8 hC q4 a7=>#[qt,_,Z,.tup h8,Z,_,_,Z,_,_,Z,Z,?_]]
   obtain⟨d,g,rfl⟩:=BT lx;have d8:=U.en 0 d Z;have d5:=U.en 1 g Z;have b0:=(a7 0 d Z).1;have a6:=(a7 1 g Z).1;have k2:=(a7 0 d Z).2;have j1:=(a7 1 g Z).2;have l9:=ok.l9;have I:=b0.dp.td (JG b0.few (by lia))
   have B:=a6.dp.td (JG a6.few (by lia))
   have e2:∀{Hx:Hp} {c:Nat},Pw K C H3 Hx b c pl [d,g]->GS Ha Hx:=λU c o e=>by
    have nb:c≠b:=λz=>by rw[z]at e;rw[s1 _ _ e]at fb;cases fb
    exact U.s c o (qV nb) (g3.kp c o nb (s2 _ _ (s1 _ _ e)))
   refine#[_,Z,pl,_,Z,.lst U.pe,Z,_,_,Z,?_]
   refine#[d.1.e,_,Z,.tup d8.tu,Z,_,_,Z,_,_,Z,Z,?_]
   refine#[_,_,Z,g.1.e,_,Z,.tup d5.tu,Z,_,_,Z,_,_,Z,Z,Z,?_]
   clear a7 lx hC h8;have n0:=b0.dp.n1;have n1:=a6.dp.n1;refine#[_,Z,_,Z,d.1.a.p,d.1.a.ta,d.1.a.hk,d.1.a.bd,d.1.a.lg,_,d.2.1,g.1.a.p,g.1.a.ta,g.1.a.hk,g.1.a.bd,g.1.a.lg,_,g.2.1,Z,d8.dl.dr,d5.dl.dr,I,B,N4.narrow (by lia) (by lia),λv mn H5 s5 nd q2 sn tv=>?_]
   have d6:=U.same s5;have sh:∀r,ZN d.2.1 g.2.1 mn=↑r->Qn d.2.1 g.2.1 r=true/\r≠[]/\r.length<=2:=λr h=>pQ I.ok B.ok I.dn B.dn I.kn B.kn h
   clear U d8 d5 s5;generalize ZN d.2.1 g.2.1 mn=o at tv sh
   refine ZE (λb2 H'=>GS H5 H'/\b2=[↑(.ref sc),↑(.int (0+(k:Int))),↑(.ref b),↑(.ref dr),↑(.ref cd),↑(.ref pl),↑(.ref d.1.a.p),↑(.ref d.1.m),↑(.ref g.1.a.p),↑(.ref g.1.m),↑v,ob,oc,od,oe,b4]) (λD0 f0 N=>?_) ?_
   ·cases o with
    |none=>
     have tv:v= .non:=tv
     subst tv
     exact#[_,Z,Z,_,Z,Qe Z (zw (N _ _ #[GS.refl _,Z]))]
    |some r=>
     obtain⟨sr,m9,r2⟩:=sh r Z;have rv:=MP.of tv;obtain⟨t0,p9,rfl,_⟩:=id tv;have e0:=d6.en 0 d Z;have e1:=d6.en 1 g Z;refine#[_,Z,Z,_,Z,zP Z ?_]
     refine#[_,Z,_,Z,_,Z,d.1.a.p,d.1.a.ta,d.1.a.hk,d.1.a.bd,d.1.a.lg,_,d.2.1,g.1.a.p,g.1.a.ta,g.1.a.hk,g.1.a.bd,g.1.a.lg,_,g.2.1,_,r,Z,e0.dl.dr,e1.dl.dr,I.ok,B.ok,I.dn.nf,B.dn.nf,rv,by lia,m9,λH6 s6=>?_]
     rw[sr]
     exact#[_,_,Z,Z,_,Z,Qe Z (N _ _ #[s6,Z])]
   rintro σ H6 ⟨s6,rfl⟩
   have n4:=d6.same s6;have m4:=tv.same s6;refine#[_,Z,⋯,⋯,?_]
   refine Qf (Pv:=λj σ Hx=>∃(c:Nat) (p1 p2 p3 p4 p5:Μ),Pw K C H3 Hx b c pl [d,g]/\c<=1000+50*j/\Ls Hx v o/\σ=[↑(.ref sc),↑(.int (0+(k:Int))),↑(.ref b),↑(.ref dr),↑(.ref cd),↑(.ref pl),↑(.ref d.1.a.p),↑(.ref d.1.m),↑(.ref g.1.a.p),↑(.ref g.1.m),↑v,p1,p2,p3,p4,p5]) #[_,ob,oc,od,oe,b4,n4,by lia,m4,Z] ?_ ?_
   ·rintro j σ Hx hj ⟨c,p1,p2,p3,p4,p5,U,hc,tl,rfl⟩
    have hj:j<8:=hj
    have i1:=U.s _ _ (qV m8) b8;have g5:=U.s _ _ (qV e3) g4;refine#[_,Z,_,Z,_,Z,b,dr,nl,c,h6,d0,ba,v,o,Z,U.bx,by lia,i1,g5,e3,ok,tl,λr h=>(sh r h).2,λlr ws H7 g7 d1 er f4 wl hw=>?_]
    have M:=U.grc g7;have e6:=tl.grc U.bx g7;obtain⟨zs,b6⟩:∃zs,zs=ws.map (·.2):=#[_,Z]
    have zl:zs.length<=10:=by rw[b6,Je];exact wl
    have g6:zs≠[]:=λh=>f4 (List.map_eq_nil_iff.mp (b6▸h))
    have e5:MY H7 b (.ref lr) zs:=by
     subst b6;refine#[lr,ws.map (·.1),Z,by rw[ET];exact .lst er,by simp,d1,λa ha e=>?_,λi a z h1 h2=>?_]
     ·obtain⟨w,c3,rfl⟩:=Jt.mp ha
      have:=hw w c3
      obtain⟨_,_,_,eb,_⟩:=M.bx;rw[e,eb]at this;cases this
     ·rw[Jn]at h1 h2
      obtain⟨w,c3,rfl⟩:=JZ.mp h1;rw[c3]at h2;cases h2;exact .tup (hw w (JP c3))
    clear er hw b6 wl f4 d1 i1 g5;refine ZE (λb2 H'=>∃(c':Nat) (u:V),Pw K C H3 H' b c' pl [d,g]/\c'<=c+41/\Ls H' v o/\MY H' b u zs/\b2=[↑(.ref sc),↑(.int (0+(k:Int))),↑(.ref b),↑(.ref dr),↑(.ref cd),↑(.ref pl),↑(.ref d.1.a.p),↑(.ref d.1.m),↑(.ref g.1.a.p),↑(.ref g.1.m),↑v,↑(.int (0+(j:Int))),↑u,p3,p4,p5]) (λD0 f0 N=>?_) ?_
    ·refine#[_,Z,b,3,_,Z,M.bx,by lia,⋯,⋯,λr8 H8 r5 r3 g8=>#[Z,_,Z,qW (λ_=>?_) (λ_=>N _ _ #[_,_,M.grc g8,by lia,e6.grc M.bx g8,e5.grc M.bx g8,Z])]]
     have n:=M.grc g8;have a3:=e6.grc M.bx g8;have b1:=e5.grc M.bx g8;refine#[_,Z,bO (K:=K) b1.rw (by lia) (λa z Hy G hs hg=>#[_,Z,a,_,Z,hs,hg]) λl Hy sy fl ls m5=>?_]
     refine N _ _ #[_,_,n.same sy,by lia,a3.same sy,?_,Z]
     obtain⟨as,e1,l1,h1⟩:=id ls
     exact#[l,as,Z,.lst e1,l1,qS n.bx fl,λa ha=>qS n.bx (m5 as e1 a ha),λi a z g1 g2=> .lst (h1 i a z g1 g2)]
    clear M e6 e5 g7
    rintro σ H8 ⟨c',u,n,q5,a3,b1,rfl⟩
    refine Z9 (λb2 H'=>∃(c':Nat) (u:V),Pw K C H3 H' b c' pl [d,g]/\c'<=c+42/\Ls H' v o/\MY H' b u zs/\b2=[↑(.ref sc),↑(.int (0+(k:Int))),↑(.ref b),↑(.ref dr),↑(.ref cd),↑(.ref pl),↑(.ref d.1.a.p),↑(.ref d.1.m),↑(.ref g.1.a.p),↑(.ref g.1.m),↑v,↑(.int (0+(j:Int))),↑u,p3,p4,p5]) (λD0 f0 N=>?_) ?_
    ·refine#[_,Z,b,3,_,Z,n.bx,by lia,⋯,⋯,λr9 H9 r6 r4 g9=>#[Z,_,Z,qW (λ_=>?_) (λ_=>N _ _ #[_,_,n.grc g9,by lia,a3.grc n.bx g9,b1.grc n.bx g9,Z])]]
     have a2:=n.grc g9;have b7:=a3.grc n.bx g9;have a5:=b1.grc n.bx g9;obtain⟨t9,as,rfl,ht,la,p0,n7,has⟩:=id a5;refine#[_,Z,t9,as.map V.ref,Z,?_]
     rcases ht.k (K:=K)with hs|hs
     ·refine .inl #[hs,λl hl=>?_]
      have uu:=GS.upd (o:= .tup (as.map V.ref)) hl
      exact N _ _ #[_,_,a2.same uu,by lia,b7.same uu,#[l,as,Z,.tup qc,la,qS a2.bx hl,n7,λi a z g1 g2=>(has i a z g1 g2).same uu],Z]
     ·exact .inr #[hs,N _ _ #[_,_,a2,by lia,b7,a5,Z]]
    clear n a3 b1
    rintro σ H9 ⟨q7,u,a2,q3,b7,a5,rfl⟩
    refine#[_,Z,bO (K:=K) a5.rw (by lia) (λa z Hy G hs hg=>#[_,Z,a,_,Z,hs,hg]) λlk h4 sa _ j9 _=>?_]
    have e9:=a2.same sa;have m0:=a5.same sa;have a0:=e9.en 0 d Z;have a1:=e9.en 1 g Z;refine#[_,Z,_,Z,GJ,λtp j3=>#[tp,Z,#[_,G9.of qc],?_]]
    have i2:=GS.upd (o:= .tup [.ref d.1.a.p,.ref g.1.a.p]) j3
    have n8:(GW h4 tp (.tup [.ref d.1.a.p,.ref g.1.a.p])) tp=↑(.tup [.ref d.1.a.p,.ref g.1.a.p]):=qc
    have X:∀{Hy:Hp} {tq:Δ} {js:Κ} {e7:L2.St} {G:VK} {te:TE},GS h4 Hy->Hy tq=↑(.tup [.ref d.1.a.p,.ref g.1.a.p])->(∀(a:Da) (D:Dr) (L:Ο) (J:Hp) (G':VK),HX K C J a D L->Ik D->(∀q ss H',GS J H'->ss.Perm (D.kn.map (·.1))->PyProof.Rows.sortedS ss=true->IL H' q ss D L->G' (.ref q) H')->te (↑(.ref a.p)::Qt js e7) J G')->
      (∀l W q1 m p J,GS Hy J->J l=↑(.lst [.ref W,.ref q1])->m.Perm (d.2.1.kn.map (·.1))->PyProof.Rows.sortedS m=true->IL J W m d.2.1 d.2.2->p.Perm (g.2.1.kn.map (·.1))->PyProof.Rows.sortedS p=true->IL J q1 p g.2.1 g.2.2->G (.ref l) J)->ZI (dz K tq) js te e7 Hy G:=by
     intro Hy tq js e7 G te sy et h5 hG;refine Q5 (K:=K) (a:=tq) (xs:=[.ref d.1.a.p,.ref g.1.a.p]) (GJ) (λi ys J=>GS Hy J/\((i=0/\ys=[])\/(i=1/\∃W m,ys=[.ref W]/\m.Perm (d.2.1.kn.map (·.1))/\PyProof.Rows.sortedS m=true/\IL J W m d.2.1 d.2.2)\/(i=2/\∃W m q1 p,ys=[.ref W,.ref q1]/\m.Perm (d.2.1.kn.map (·.1))/\PyProof.Rows.sortedS m=true/\IL J W m d.2.1 d.2.2/\p.Perm (g.2.1.kn.map (·.1))/\PyProof.Rows.sortedS p=true/\IL J q1 p g.2.1 g.2.2))) #[GS.refl _,.inl #[Z,Z]] (λi ys J h=>G9.of (h.1 _ _ et)) ?_ ?_
     ·rintro i ys J z hz n3 ⟨sz,⟨rfl,rfl⟩|⟨rfl,W,m,rfl,R,b3,a8⟩|⟨rfl,_⟩⟩
      ·cases hz
       exact h5 d.1.a d.2.1 d.2.2 J _ ((a0.dl.same sy).same sz) b0.dp.ok λq ss H' s' pm so st=>#[sz.trans s',.inr (.inl #[Z,q,ss,Z,pm,so,st])]
      ·cases hz
       exact h5 g.1.a g.2.1 g.2.2 J _ ((a1.dl.same sy).same sz) a6.dp.ok λq ss H' s' pm so st=>#[sz.trans s',.inr (.inr #[Z,W,m,q,ss,Z,R,b3,a8.same s',pm,so,st])]
      ·cases hz
     ·rintro ys J n3 ⟨sz,⟨h0,_⟩|⟨h0,_⟩|⟨_,W,m,q1,p,rfl,R,b3,a8,a4,d4,e8⟩⟩ l hl
      ·cases h0
      ·cases h0
      have uu:=GS.upd (o:= .lst [.ref W,.ref q1]) hl
      exact hG l W q1 m p _ (sz.trans uu) qc R b3 (a8.same uu) a4 d4 (e8.same uu)
    refine X i2 n8 (λa D L J G' dl d7 h=>#[_,Z,a,D,L,Z,dl,d7,λq kk tt ss H' s' eq pm so d2 lg=>h q ss H' s' pm so #[kk,tt,eq,d2,lg]]) λlh W q1 m p r7 sb m6 R b3 a8 a4 d4 e8=>?_
    have S:=i2.trans sb;have h9:=j9.same S;have f3:=a0.same S;have g0:=a1.same S;have d3:=m0.same S;have l4:=e9.same S;refine#[_,Z,_,Z,_,Z,d.1.a.p,d.1.a.ta,d.1.a.hk,d.1.a.bd,d.1.a.lg,_,d.2.1,g.1.a.p,g.1.a.ta,g.1.a.hk,g.1.a.bd,g.1.a.lg,_,g.2.1,u,zs,Z,f3.dl.dr,g0.dl.dr,I.ok,B.ok,I.dn.nf,B.dn.nf,d3.rw,by lia,g6,λHc c2=>?_]
    have c0:=f3.same c2;have c1:=g0.same c2;have k4:=d3.same c2;refine#[_,Z,_,Z,_,Z,GJ,λol m3=>?_]
    have b5:=GS.upd (o:= .lst [.ref d.1.m,.ref g.1.m]) m3
    refine#[_,Z,ol,d.1.m,d.1.kd,g.1.m,g.1.kd,d.2.1,g.2.1,u,zs,Z,qc,(c0.same b5).md,(c1.same b5).md,I.ok,B.ok,I.dn.nf,B.dn.nf,(k4.same b5).rw,by lia,g6,λHd sd=>#[_,Z,_,Z,zw ?_]]
    have e4:=(c2.trans b5).trans sd;refine#[_,Z,bO (K:=K) (d3.same e4).rw (by lia) (λa z Hy G hs hg=>#[_,Z,a,_,Z,hs,hg]) λq6 He se _ f2 _=>?_]
    refine#[_,Z,2,⋯,f2.eqd ((h9.same e4).same se),_,Z,zw ?_]
    have c4:=e4.trans se;refine#[_,Z,_,Z,GJ,λj2 f1=>#[j2,Z,#[_,G9.of qc],?_]]
    have Y:=GS.upd (o:= .tup [.ref d.1.a.p,.ref g.1.a.p]) f1
    have f5:=(S.trans c4).trans Y;refine X f5 qc (λa D L J G' dl d7 h=>#[_,Z,a,D,L,Z,dl,d7,λq kk tt ss H' s' eq pm so d2 lg=>h q ss H' s' pm so #[kk,tt,eq,d2,lg]]) λq8 r0 r1 l5 k5 Hf sf f9 l8 m1 n2 l2 m7 l3=>?_
    have d9:=(c4.trans Y).trans sf
    obtain rfl:m=l5:=fI R b3 l8 m1
    obtain rfl:p=k5:=fI a4 d4 l2 m7
    have k0:=b0.dp.ok.nl;have k1:=a6.dp.ok.nl;refine#[_,Z,6,⋯,.lst f9 (d9 _ _ m6) Z (λi y z ey ez=>?_),_,Z,zw #[_,_,_,_,_,_,((l4.same c4).same Y).same sf,by lia,((((b7.same sa).same S).same c4).same Y).same sf,Z]]
    match i,ey,ez with
    |0,ey,ez=>cases ey;cases ez;exact n2.eqd (a8.same d9) (λnm h=>R.mem_iff.mp h) (by rw[R.length_eq,Je];exact k0) k2
    |1,ey,ez=>cases ey;cases ez;exact l3.eqd (e8.same d9) (λnm h=>a4.mem_iff.mp h) (by rw[a4.length_eq,Je];exact k1) j1
    |i+2,ey,ez=>cases ey
   rintro σ Hx ⟨c,p1,p2,p3,p4,p5,U,hc,tl,rfl⟩
   exact#[e2 U,_,_,_,_,_,_,_,_,_,_,_,_,_,_,_,Z]
  rintro σ Hx ⟨_,o1,o2,o3,o4,o5,o6,o7,o8,o9,oa,ob,oc,od,oe,b4,rfl⟩
  exact q _
end
theorem BY{l:W.OpenLaw}{w:Ω}{K:ι}{h:Ψ}{mg:GQ}{fa:Δ}(X:K.In h)(G:h.Ns η mg)(h3:mg "law"=↑(.ref fa))
  {C:Δ}
  (z:W.nsIn K η "Door"=↑(↑(.ref C)))
  (a4:W.plainGet K C Str.empty=true)
  (c2:W.hasDictIn K C=true)
  (O:W.plainOver K C=true)
  (e2:W.findIn K (.ref C) "__setattr__"=↑(↑(.builtin "object.__setattr__")))
  (y:W.makesIn K C=true)
  (B:W.keepIn K (.ref C)=true)
  (Fr:W.findIn K (.ref C) "table"=↑none)
  (Fa:W.findIn K (.ref C) "house_keys"=↑none)
  (Fs:W.findIn K (.ref C) "near"=↑none)
  (Go:W.findIn K (.ref C) "far"=↑none)
  (Fz:W.findIn K (.ref C) "most"=↑none)
  (Fm:W.findIn K (.ref C) "least_age"=↑none)
  (Fq:W.findIn K (.ref C) "buttons"=↑none)
  (Gr:W.findIn K (.ref C) "log"=↑none)
  (A0:Ac K mg "is_number" aZ)
  (A1:Ac K mg "is_digit" bM)
  (A2:Ac K mg "are_digits" av)
  (A3:Ac K mg "back_table" aI)
  (A4:Ac K mg "coded" ij)
  (A5:Ac K mg "decoded" du)
  (A6:Ac K mg "is_name" cW)
  (A7:Ac K mg "is_code" eG)
  (A8:Ac K mg "is_press" bI)
  (A9:Ac K mg "letter_digits" Zk)
  (L:Ac K mg "key_of" fU)
  (N:Ac K mg "count_digits" ZA)
  (a8:Ac K mg "press_of" bY)
  (f0:Ac K mg "read_press" aB)
  (b6:Ac K mg "word_of" eU)
  (g1:Ac K mg "step_by" eD)
  (j:Lr K C "__init__" "Door.__init__" Q1)
  (b7:Lr K C "is_full" "Door.is_full" ZC)
  (e1:Lr K C "button_of" "Door.button_of" Zb)
  (d4:Lr K C "takes_age" "Door.takes_age" Q7)
  (d5:Lr K C "takes_from" "Door.takes_from" QN)
  (g:Lr K C "plain_step" "Door.plain_step" zZ)
  (b3:Lr K C "answer_to" "Door.answer_to" Q8)
  (g0:Lr K C "hear" "Door.hear" aX)
  (e4:Lr K C "read_right" "Door.read_right" QP)
  (c1:Lr K C "learn" "Door.learn" az)
  (b4:Lr K C "close_below" "Door.close_below" QC)
  (f9:Lr K C "known_now" "Door.known_now" Za)
  (b5:Lr K C "keys_now" "Door.keys_now" Zu)
  (g2:Lr K C "closed_now" "Door.closed_now" QQ)
  (d9:Lr K C "bounds_told" "Door.bounds_told" Qz)
  (a6:Lr K C "log_now" "Door.log_now" ZG)
  (a0:Ac K mg "stretches_of" ZF)
  (g5:Ac K mg "names_known" ZX)
  (e6:Ac K mg "lesser_end" am)
  (g4:Ac K mg "counts_in" bj)
  (F:Ac K mg "least_apart" ZZ)
  (e3:Ac K mg "press_apart" ZW)
  (d2:Ac K mg "pair_apart" ax)
  (S:Ac K mg "telling" dy)
  (a1:Ac K mg "openings" cu)
  (g6:Ac K mg "shows_telling" Zm)
  (f3:Ac K mg "_law_box" eF)
  (I:Ac K mg "_law_take" bZ)
  (f1:Ac K mg "_law_table" aW)
  (f2:Ac K mg "_law_key" eP)
  (b8:Ac K mg "_law_model" aV)
  (g3:Ac K mg "_law_word" ca)
  (a5:Ac K mg "_law_hear" cp)
  (b1:Ac K mg "_law_press" aY)
  (e7:Ac K mg "_law_learnt" aH)
  (h1:Ac K mg "_law_heard" bi)
  (Y:Ac K mg "_law_bounds" ay)
  (g7:Ac K mg "_law_pair" cg)
  (f5:Ac K mg "_law_drawn" aU)
  (e0:Ac K mg "_law_copied" af)
  (c0:Ac K mg "_law_due" eM)
  (e5:Ac K mg "_law_state" bu)
  (c4:Ac K mg "_law_plain" a9)
  (R:Ac K mg "_law_row" db)
  (d6:Ac K mg "_law_is" fY)
  {t:Δ}{u m:μ}{x:Array Ν}{A o q r f n:Γ}
  (f4:W.nsIn K η "law"=↑(↑(.ref t)))
  (H:K.lookup t=some #[A,u,.func (W.fnOf "law" "law" (Qp Z6) (zF Z6) (qi Z6) .none o q r m f n),x])
  (a2:W.codeIn K f "law"=true)
  (h0:W.keepIn K (.ref t)=true)
  {t0:Tok}
  (h4:W.nsIn K η "DIGITS"=↑(↑(.int 16 t0)))
  {t1:Tok}
  (c3:W.nsIn K η "KEY_PLACES"=↑(↑(.int 4 t1)))
  {t2:Tok}
  (a7:W.nsIn K η "LONGEST_NAME"=↑(↑(.int 8 t2)))
  {t3:Tok}
  (d3:W.nsIn K η "CODE_DIGITS"=↑(↑(.int 5 t3)))
  {t4:Tok}
  (E:W.nsIn K η "COUNTS"=↑(↑(.int 4096 t4)))
  (z0:W.nsIn K η "isinstance"=↑none)
  (z1:W.nsIn K η "bool"=↑none)
  (z2:W.nsIn K η "int"=↑none)
  (z3:W.nsIn K η "tuple"=↑none)
  (z4:W.nsIn K η "all"=↑none)
  (z5:W.nsIn K η "any"=↑none)
  (z6:W.nsIn K η "len"=↑none)
  (z7:W.nsIn K η "abs"=↑none)
  (z8:W.nsIn K η "list"=↑none)
  (z9:W.nsIn K η "enumerate"=↑none)
  (e8:W.nsIn K η "range"=↑none)
  (a3:W.nsIn K η "max"=↑none)
  (b0:W.nsIn K η "min"=↑none)
  (h2:W.nsIn K η "str"=↑none)
  (g8:W.nsIn K η "zip"=↑none)
  (d1:W.nsIn K η "ord"=↑none)
  (b2:W.nsIn K η "sum"=↑none)
  (J:W.nsIn K η "reversed"=↑none)
  (e9:W.nsIn K η "sorted"=↑none)
  (M:W.nsIn K η "dict"=↑none)
  (g9:W.nsIn K η "set"=↑none):
  ∃fd:FuncData,(∀(s:Θ) (v:Γ),BindsTo s fd #[[v],[]] [("_law_script",v)])/\∀base:Ψ,K.In base->base.Ns η mg->IP l.prog w K mg base aJ 10 fa fd ["_law_script"] (j0 K):=by
 have e:=h3.symm.trans (Fw X G f4);cases e;have T:HN K mg (λi=>if i=0 then t0 else if i=1 then t1 else if i=2 then t2 else if i=3 then t3 else if i=4 then t4 else 0):=#[Fw X G h4,Fw X G c3,Fw X G a7,Fw X G d3,Fw X G E,JU X G z0,JU X G z1,JU X G z2,JU X G z3,JU X G z4,JU X G z5,JU X G z6,JU X G z7,JU X G z8,JU X G z9,JU X G e8,JU X G a3,JU X G b0,JU X G h2,JU X G g8,JU X G d1,JU X G b2,JU X G J,JU X G e9,JU X G M,JU X G g9]
 refine#[W.fnOf "law" "law" (Qp Z6) (zF Z6) (qi Z6) .none o q r m f n,λs v=> .of_eq Z,λbase _ _=>?_]
 have U:Iz K C:=#[#[a4,c2,O,e2],Fr,Fa,Fs,Go,Fz,Fm,Fq,Gr]
 have dQ:=lN (P:=l.prog) (w:=w) (base:=base) A0.at T
 have xX:=nQ A1.at T dQ
 have xM:=jS A2.at T xX
 have xK:=jK (P:=l.prog) (w:=w) (base:=base) A3.at T
 have xI:=wD (P:=l.prog) (w:=w) (base:=base) A4.at T
 have x8:=sg A5.at T xK
 have yD:=pR (P:=l.prog) (w:=w) (base:=base) A6.at T
 have yB:=rQ A7.at T xM
 have dX:=nv A8.at T yD dQ yB
 have d8:=gp (P:=l.prog) (w:=w) (base:=base) A9.at T
 have xB:=tP L.at T d8 xI
 have xA:=gL (P:=l.prog) (w:=w) (base:=base) N.at T
 have xY:=nn a8.at T xA xB xI
 have dO:=jQ f0.at T xB x8
 have x9:=p7 (P:=l.prog) (w:=w) (base:=base) b6.at T
 have d0:=pX g1.at T x9
 have j:=j.at (ps:=X4)
 have yJ:=iK (P:=l.prog) (w:=w) (base:=base) j T U
 have yI:=yJ.mi y B (Fw X G z);have yM:=(gq (P:=l.prog) (w:=w) (base:=base) j T U).mi y B (Fw X G z)
 have xC:=gM (P:=l.prog) (w:=w) (base:=base) b7.at T U
 have Q:=fD (P:=l.prog) (w:=w) (base:=base) e1.at T U
 have dG:=fE (P:=l.prog) (w:=w) (base:=base) d4.at T U
 have D:=dw d5.at T U dG
 have g:=g.at (ps:=X3)
 have dD:=eN g T U D d0;have a:=cJ g T U D d0;have dZ:=fC b3.at T U Q D dD dO
 have xR:=mN g0.at T U dX dZ
 have dM:=eR e4.at T U dX dG dO
 have xL:=jX c1.at T U dM xC
 have dU:=cN (P:=l.prog) (w:=w) (base:=base) b4.at T U
 have dH:=fw (P:=l.prog) (w:=w) (base:=base) f9.at T U
 have d7:=gm (P:=l.prog) (w:=w) (base:=base) b5.at T U
 have dY:=cT (P:=l.prog) (w:=w) (base:=base) g2.at T U
 have dE:=cK (P:=l.prog) (w:=w) (base:=base) d9.at T U
 have xD:=gH (P:=l.prog) (w:=w) (base:=base) a6.at T U
 have dW:=gZ a0.at T U D dE
 have dJ:=ir g5.at T U dH
 have xN:=jR e6.at T U dE
 have xF:=ma (P:=l.prog) (w:=w) (base:=base) g4.at T
 have xG:=hW F.at T xF
 have dL:=iI e3.at T U d7 dW xG
 have xP:=jO d2.at T U dY a xN dL
 have yE:=sY S.at T U Q dJ dL xP
 have xH:=nN a1.at T U Q a dJ
 have dR:=gl g6.at T xH
 have yA:=p8 (P:=l.prog) (w:=w) (base:=base) f3.at T
 have p:=nF (P:=l.prog) (w:=w) (base:=base) I.at T
 have xS:=lT f1.at T p
 have yF:=re f2.at T p
 have xQ:=lf (P:=l.prog) (w:=w) (base:=base) b8.at T
 have xW:=nz (P:=l.prog) (w:=w) (base:=base) g3.at T
 have dI:=nh a5.at T xW
 have d:=mP dI;have dP:=l6 b1.at T xY
 have c:=iM e7.at T U xL dP
 have xV:=kL h1.at T U xR dP d
 have xO:=jI Y.at T p
 have xZ:=nP g7.at T U yM dU p xS yF xO xQ c xV
 have xU:=lR f5.at T p
 have xJ:=jN (P:=l.prog) (w:=w) (base:=base) e0.at T
 have x6:=rX c0.at T dI xJ
 have xE:=lE e5.at T U dH xD
 have xT:=kX c4.at T p
 have yG:=rA R.at T p xT
 have yH:=vF (P:=l.prog) (w:=w) (base:=base) d6.at T
 exact Ck (mz (st:=Z6) H a2 h0) T yA p xU xZ yE dR yG xE x6 yH
theorem wf{l:W.OpenLaw}{q:Ξ}{c:Α}{j:(Str->Ν)->Ψ->Prop}{i:Ω->Ψ->Prop}{d:DefRec}{K:Params->ι}(hn:l.most=↑63)(e:d.params.defaults=[])
  (o:∀(w:Ω) (h:Ψ),i w h->(K w.params).In h)
  (F:∀(w:Ω) (mg:GQ) (g:Δ) (h:Ψ),(K w.params).In h->h.Ns η mg->mg d.name=↑(.ref g)->
   ∃fd:FuncData,(∀(s:Θ) (u:Γ),BindsTo s fd #[[u],[]] [("_law_script",u)])/\∀base:Ψ,(K w.params).In base->base.Ns η mg->IP l.prog w (K w.params) mg base aJ 10 g fd ["_law_script"] (j0 (K w.params))):
  W.WalkO q c j i l.row.toRowW d [] (λf vs=>PySem.call f vs):=
 L2.AB (n:=63) (k:=10) (x:="_law_script") (CX:=λ_=>aJ) (sp:=λw=>j0 (K w.params)) hn ⋯ e #[Z,⋯,⋯] o F (λ_ _ a p r _ m=>#[a,p,Z,m,r,λ_=>rfl]) λ_ _ _ _ _ z=>z
end Lw
structure PySem.W.Fast:Prop where(tw17384632710935508918 tw7890789023471292972 tw11898262842312480376 tw10660638444989900497 tw10751436338623814723 tw11957537566826720321 tw14546187989702659436 tw1522363897590632721 tw13770783071528052603 tw16423626756431789113 tw16400741602717165998 tw2736418310348900747 tw5667953483159746286 tw1896230674166791766 tw15775079768869649993 tw10529940437414475679 tw5689984123705572526 tw4536219103258066541 tw16664732168531042584 tw5680618698364790862 tw3449494430711375223 tw15387832800501766119 tw3134897443889026138 tw3154906420341169309 tw1731382053643216491 tw13835662414437669966 tw9634687108445686712 tw17732321931475992768 tw12470940255789555100 tw10093290405138300565 tw14183158292109777421 tw3341022053589243167 tw6898117963244389577 tw11634121929133735864 tw9193085840476118008 tw16853388223001719536 tw15983378312787571368 tw16527408417573236780 tw14482154590388800537 tw12424548297428185740 tw7171373838466424505 tw10694305041893696373 tw7029920580195593914 tw15847476489641941810 tw2568854519276011074 tw14588102302687651234 tw6739267535546411807 tw17422972584480789795 tw1148619780944390953 tw13509062143578430962 tw8177719638527112779 tw4375247718232832380 tw10987009168925642096 tw5403010162956623070 tw3303679018282566646 tw4038397335455645770 tw8412328993297825443 tw7922679851225878024 tw9533646228490005843 tw10212412662902757001 tw3108520615116794577 tw3308495964186201524 tw13654042231824359528 tw4304602699233083207 tw13668581848688788358 tw18327100118020001249 tw5977645015459491033 tw2005050199488859024 tw2821921832332875380 tw18123578864510558817 tw3017078566122831635 tw16419583525917809951 tw4809024968257610190 tw11502539093651293876 tw14417951519307935310 tw6061617880940252080 tw14449800057818146853 tw3289399982421226727 tw8225517248100823172 tw14499869955034657153 tw15005478824991192886 tw3010403525964759310 tw543750481149187743 tw1155185815938601459 tw5827372799887601316 tw6927528218817730278 tw11748149708398475024 tw11256913980431906648 tw4007237345765259923 tw2412548561796707809 tw9369929247466770461 tw17395272832221804882 tw191679416080973507 tw13827486540646960909 tw15313109195872482425 tw1081923796290435560 tw9004734776673562376 tw1380086413215820876 tw12523809957671717318 tw18245805152624335744 tw17041586613129007926 tw16444054614704046007 tw16962066480463831448 tw7697640290644017564 tw10528034909375488435 tw2775134310109465213 tw14011985922383964837 tw13300238785932588905 tw16936928086332329305 tw3417177705894488297 tw7814324869865740359 tw2998134211931755185 tw8200790319748827961 tw12025155572042014497 tw15144982438416789042 tw6985206359952851757 tw9987714112558764388 tw8964407341594178386 tw10041192163030007943 tw778929323414149577 tw13646629166341256813 tw10340327112192447580 tw10763971339806020466 tw14257572375049206410 tw4437110058577995181 tw14437241252937293811 tw4606348596768813376 tw12227487347035208079 tw17466628281298828647 tw4060640642851216414 tw2750834454377499539 tw12952440663624545589 tw2090524130622786724 tw14144499588654038312 tw5803286552057997888 tw1088272608847471389 tw2912086088827970496 tw17435877385433143312 tw13626926377551505873 tw12286853461272693478 tw4984532663336814180 tw7080552713853913313 tw10065441079972975477 tw827020437155056638 tw15023865551641336553 tw13864251245987520903 tw1544664624941904336 tw974273834889595844 tw9684102140881074183 tw3052389717857668436 tw4123727607644990639 tw10779482206034474276 tw7598704756810286997 tw16798108865111085517 tw2191939182585537100 tw12407936438730906222 tw5251440246874463378 tw3486757825666012539 tw9852678891256679697 tw987105160294808769 tw10147832796965579284 tw12637106445852264171 tw8840300074424075317 tw5816605973985858165 tw2729563610284236408 tw5142552087937482958 tw8499213541712244809 tw9312252524233571778 tw7733133928437416675 tw17876948170539653746 tw15964375424313102414 tw4909619947641012362 tw12768911350754709093 tw4556600692126694072 tw10757753227369737660 tw12494523699980235948 tw10854127555231225183 tw10657351646102021633 tw11629999804718516422 tw10177656877532175506 tw17180786506640131274 tw9023628995744726593 tw9149377426916048958 tw7520477194506599810 tw15906597657017090702 tw13565507474232006629 tw11566245358650805368 tw13054145167103316472 tw10745299463786941969 tw4291685275656068129 tw15171845918032959404 tw1521202823251697593 tw13761238270498935162 tw11866832905134827634 tw11434935205411335846 tw18182787919643330740 tw9431321998001569627 tw930571724708201505 tw7175485578026773250 tw6766934872899238893 tw14657533371841854969 tw7289492207627669438 tw9278333884449925948 tw2595625862170802968 tw7786068561015765438 tw15765624727857577761 tw10928025351878400243 tw10293085042420000346 tw13502603013286709015 tw12081278024024038305 tw16661945810371949057 tw16676415168798141136 tw18056162695331048459 tw14094794233540520989 tw1313760050354798713 tw5714318082749127714 tw17490871733288603958 tw8933486060751578560 tw17933510221669641191 tw4761570164685528941 tw9553080615759457409 tw6015536133564559533 tw7280019041240144233 tw9795093913952441097 tw9480641069348982662 tw14858099605897190707 tw14919666876331746121 tw17431224118253804691 tw6325280859987885132 tw14901836530642886932 tw12247357172667800147 tw3581054489104576585 tw16829457736348289233 tw4570806287291136084 tw7541814798450148991 tw634333616542466993 tw8147185752844338034 tw3372714054283382405 tw2363912877410612088 tw5555195259441017976 tw5608276722316023407 tw10966867190692858003 tw8477572726522953076 tw11949431940521891117 tw17904612413494952079 tw11359100226501774936 tw16105435108684746612 tw16124174413545311890 tw4541346357827736873 tw5386006600768630479 tw11770130527458602952 tw2638390735004560825 tw17613675033328141489 tw18263703985811254208 tw17709040136072700385 tw15852223284660851511 tw18231827283836178074 tw14269553572215274549 tw17748568683187266312 tw7943811639398575867 tw6366994703521841513 tw17505442673099007713 tw7810969115089282181 tw9280048387967587597 tw10503366336147230830 tw11460961566296892230 tw17815201798447494597 tw4360822118550231524 tw476938023734680747 tw4530302353815976771 tw943015296046772283 tw5882740264494424495 tw10848391731318473691 tw424051459531061786 tw10075434101733896503 tw17375954660835903054 tw8504850909332314359 tw10311520820836944289 tw15912998495849102291 tw4655610824398388207 tw4186597451451548172 tw5501653645856545980 tw2897653113050126948 tw15135450427935212896 tw1842837816759409415 tw15465091144781641185 tw15169115266156186927 tw4117018475935890940 tw5457849296698730800 tw17533722140648970415 tw5903971913808505776 tw16482086129168089783 tw10977776745385777080 tw18318870378072540537 tw11952580784476782486 tw7671349196302357004 tw1042655743985125189 tw14928142424603104026 tw11055720037883718946 tw130559886971264310 tw2701240352014923207 tw7963754005775977905 tw11515190071306844553 tw5334112227895774391 tw14455738718732909634 tw5363345444016420087 tw2873983837276036020 tw3524597611981177043 tw9441854958874901222 tw6770214615239206919 tw14212737181614158099 tw6304597981901542611 tw18075366910983795759 tw7535859321107778119 tw13935989530269629670 tw10581438152055033373 tw8160478424530295932 tw9649091871357374950 tw16340801713009676554 tw16696452326984751240:True)
open PySem PySem.W PyProof.Rows
set_option maxRecDepth 100000 in
set_option maxHeartbeats 0 in
theorem PySem.Challenge.cw_rollcode_k35_rows_that_tell_holds : PySem.Challenge.rw_rollcode_k35_rows_that_tell.Holds := by
 w_on;o_law;k_head;(case hw=>w_witness2)
 k_fill
 refine Lw.wf (l:=PySem.Challenge.rw_rollcode_k35_rows_that_tell) rfl rfl (fun w h Y=>PySem.W.kIn_of Y) ?F
 case F=>
  intro w mg fa h KX G hmg;refine' Lw.BY KX G hmg ..
  all_goals first|k_is|(refine' L3.DT KX G ..<;>first|k_is|skip)|(refine' L3.Dx ..<;>first|k_is|skip)|kernel_rfl|(refine' #[?_,#[?_,?_,?_,?_,?_,?_],L3.all_kits ?_ ?_ ?_ ?_ ?_ ?_ ?_ ?_,?_]<;>kernel_rfl)|decide|skip