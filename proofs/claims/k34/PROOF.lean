import PyProof.Rows.All
import Wide.All
import OpenK.AllK
import Wide.FinOn
import Lean
import PyProof.EqAt
import PyProof.EqKinds
import PyProof.TupleCall
import PySem.Challenge.RW_rollcode_k34_doors_that_agree
import PyProof.StationsW
import PyProof.ExcClass2
import OpenK.KOwn
import PyProof.ExcBaseAll.ValueError
import PyProof.RulesAs
import PyProof.NsDelKeeps
import PyProof.Rows.Catch
import KE.KIsAll
import PyProof.ExcArgsOwn
import PyProof.Rows.CatchOwn
import PyProof.ExcAttrAll.ValueError
import PyProof.AttrMissHeap
import PyProof.Rows.SetFrom
import KE.KDictOf
import PyProof.DictWalks
import PyProof.Rows.DictUnroll
import PyProof.ExcInit
import PyProof.InstStoreFacts
import PyProof.FString
import OpenK.KCls
import PyProof.ListMulRoad
import PyProof.FactsAll.tuple_2
import PyProof.FactsAll.set
import PyProof.CollectWalk
import KE.KDictList
import PyProof.FactsAll.set_1
import PyProof.FactsAll.set_2
import PyProof.SetNew
import PyProof.MeetsSeq2
set_option Elab.async false
set_option maxRecDepth 100000
set_option maxHeartbeats 4000000
set_option linter.unusedVariables false
set_option linter.all false
open PySem.W (Frag)
set_option compiler.extract_closed false
open PySem renaming wpAny_bind->Ja,wpAny_pure->Jd,wpAny_mono->JF,sizeLine_eq->JK,wpAny_holding->JM,wpAny_field->JR,wpAny_call_entry->JZ,wpAny_newObj_type->DQ,wpAny_rule->DR,boot_len->DW,wpAny_of_eq->DY,wpAny_setField->D5,wpAny_standAt->D7,wpAny_truthy_bool->Ec,wpAny_seqItems->Eh,codeAny_builtin->Ek,wpAny_pyIter_tuple->Ex,wpAny_attempt->EC,wpAny_isInstance->ED,isSubtype_type->EE,codeAny_mono->EI,mem_of_lookup->EJ,wpAny_specialOf->EM,wpAny_pyIter_list->EO,wpAny_typeOf->ER,wpAny_loadPart'->EV,typeLookup_type->EX,builtinLookup_eq_fast->EY,wpAny_passesOwn->Fb,wpAny_pyIter_enum->Fe,wpAny_setField_rec->Fg,wpAny_Call_Name_kw->Fn,isSubtype_stop->Fw,tupleKind_room_in1->Fx,wpAny_pyIter_rangeiter->FB,Value->Γ,Addr->Δ,Shared->Θ,Program->Ξ,Expr->Φ,Heap->Ψ,World->Ω,Builtin->γ,Stmt->δ,wpAny->ε,sizeLine->ζ,mainGlobals->η,starEach->θ
open List renaming length_map->Je,mem_singleton->Jj,getElem?_eq_getElem->Jk,mem_cons->Jl,getElem?_map->Jq,size_toArray->Js,mem_map->Ju,length_append->Jw,not_mem_nil->Jx,mem_cons_self->Jy,mem_append->JC,mem_cons_of_mem->JE,getElem?_eq_some_iff->JH,getD_eq_getElem?_getD->JI,filterMap_cons->JP,length_cons->JQ,any_cons->JS,map_cons->JU,map_append->JW,getElem?_append_right->JY,getElem?_append_left->J5,mem_range->J6,mem_append_right->J8,nodup_cons->DT,mem_of_getElem?->DU,append_nil->DV,lookup_cons->DX,take_add_one->D6,map_map->Eb,length_take->Ed,append_assoc->Ee,length_singleton->Ef,take_length->Ej,nodup_nil->Er,getElem_mem->EB,all_eq_true->EK,length_set->ET,replicate_succ->EU,find?_cons->E2,nodup_append->E3,mem_append_left->E9,map_nil->Fc,map_congr_left->Fh,getElem?_set_self->Fl,getElem?_set_ne->Fm,length_drop->Fo,flatten_cons->Ft,getElem?_range->Fy,length_replicate->FD,getElem?_eq_none->FH,getElem?_append->FK
open Nat renaming le_refl->Jf,ne_of_lt->Jo,zero_le->Jz,lt_of_lt_of_le->JL,le_trans->JO,lt_irrefl->J1,ne_of_gt->J3,lt_succ_self->D3,lt_succ_of_lt->D9,le_succ->Ey,succ_le_succ->EA,le_of_lt->E8,le_of_not_lt->Fd,le_add_right->Fk
open PySem.Heap renaming get?_push_of_some->Jh,lt_size->Ji,get?_push_size->Jp,size_push->JV,get?_update_self->Ez,get?_update_other->ES
open Int renaming le_refl->Jr,toNat_natCast->Ei,emod_nonneg->El,emod_lt_of_pos->Eo
open Bool renaming and_eq_true->Jt,false_ne_true->JG,false_and->DS,eq_iff_iff->D8,true_and->Es,eq_false_iff->E4
open PyProof.Rows renaming boot_isinstance->JJ,boot_tuple->JN,boot_list->Eu,callWith_type1->EH,boot_int->E5,boot_bool->E6,boot_max->E7,boot_str->Fj,slot_tuple_getitem->Fp,boot_all->FJ
open PySem.W renaming mg_none_of->JT,kia_one->J7,mg_of->Ep,kia_tup->EW,Frag->ι
open Option renaming map_eq_some_iff->DZ,getD_some->Eg,isSome_iff_exists->FC
open PySem.F renaming plainAttrs_list->Et,slot_list_append->EF,type_list_append->EG,slot_tuple_iterator_next->Fu,slot_zip_next->FA,slot_tuple_add->FE,entry_tuple_add->FF,args_tuple_add_2->FG,slot_dict_get->FI
open PySem.Obj renaming data_mapFields->EL,isFreed_of_fields->Fv
namespace L0
abbrev Jb:=@if_neg
abbrev Jc:=@if_pos
abbrev Jg:=@decide_eq_true
abbrev Jm:=@decide_eq_false
abbrev Jv:=@of_decide_eq_true
abbrev JA:=@or_false
abbrev JD:=@if_false
abbrev JX:=@congrArg
abbrev J4:=@beq_iff_eq
abbrev D4:=@if_true
abbrev Ew:=@beq_eq_false_iff_ne
abbrev EN:=@beq_self_eq_true
abbrev EZ:=@beq_false_of_ne
abbrev Ff:=@decide_eq_true_iff
abbrev Jn:=@Array.length_toList
abbrev JB:=@Option.some.inj
abbrev J0:=@PySem.PassesOwn.never
abbrev J9:=@PySem.Heap.SameBut.update
abbrev Fi:=@PySem.Around.in1_units
end L0
open L0
namespace L0
open PySem
abbrev FS:=Γ->Θ->Prop
abbrev FT:=Str->Option Γ
abbrev FU:=List (Δ×Obj)
end L0
open L0
namespace L2
open PySem PySem.Spec PyProof.Rows
abbrev qJ:=Sum Int Str
def eT:qJ->Γ->Bool
 | .inl k,v=>Γ.isInt k v
 | .inr x,v=>Γ.isStrOf x v
def Dv(w:Ω):qJ->Int
 | .inl k=>hashInt k
 | .inr x=>hashStr w x
theorem zI:∀{k:qJ} {v:Γ},eT k v=true->(∃i t,k=Sum.inl i/\v=Γ.int i t)\/(∃x t,k=Sum.inr x/\v=Γ.str x t)
 | .inl i,v,h=>by
  obtain⟨t,e⟩:=Γ.isInt_shape (k:=i) (v:=v) h
  exact .inl ⟨i,t,rfl,e⟩
 | .inr x,v,h=>by
  obtain⟨t,e⟩:=Γ.isStrOf_shape (x:=x) (v:=v) h
  exact .inr ⟨x,t,rfl,e⟩
theorem uj(i:Int)(t:Tok):eT (.inl i) (.int i t)=true:=by simp [eT,Γ.isInt]
theorem uC(x:Str)(t:Tok):eT (.inr x) (.str x t)=true:=by simp [eT,Γ.isStrOf]
theorem Cn(a b:Int):decide ((Sum.inl a:qJ)=Sum.inl b)=(a==b):=by
 by_cases e:a=b
 ·subst e;simp
 ·have h:¬(Sum.inl a:qJ)=Sum.inl b:=fun q=>e (Sum.inl.inj q)
  rw[Jm h]
  exact(Ew.mpr e).symm
theorem B8(a b:Str):decide ((Sum.inr a:qJ)=Sum.inr b)=decide (a=b):=by
 by_cases e:a=b
 ·subst e;simp
 ·have h:¬(Sum.inr a:qJ)=Sum.inr b:=fun q=>e (Sum.inr.inj q)
  rw[Jm h,Jm e]
theorem AS(a:Int)(b:Str):decide ((Sum.inl a:qJ)=Sum.inr b)=false:=Jm (fun q=>nomatch q)
theorem Cy(a:Str)(b:Int):decide ((Sum.inr a:qJ)=Sum.inl b)=false:=Jm (fun q=>nomatch q)
def zd(prog:Ξ)(w:Ω):PySem.KeyKind prog w qJ where
 is:=eT
 hash:=Dv w
 inj:=fun v a b ha hb=>by
  rcases zI ha with⟨i,t,rfl,rfl⟩|⟨x,t,rfl,rfl⟩
  ·rcases zI hb with⟨j,u,rfl,e⟩|⟨y,u,rfl,e⟩
   ·injection e with e1 _;rw[e1]
   ·exact nomatch e
  ·rcases zI hb with⟨j,u,rfl,e⟩|⟨y,u,rfl,e⟩
   ·exact nomatch e
   ·injection e with e1 _;rw[e1]
 byValue:=fun k v h=>by
  rcases zI h with⟨i,t,rfl,rfl⟩|⟨x,t,rfl,rfl⟩<;>rfl
 pyHash:=fun hv h=>by
  rcases zI hv with⟨i,t,rfl,rfl⟩|⟨x,t,rfl,rfl⟩
  ·exact wpAny_pyHash_int h
  ·exact wpAny_pyHash_str h
 eqBool:=fun hu hv h=>by
  rcases zI hu with⟨i,t,rfl,rfl⟩|⟨x,t,rfl,rfl⟩
  ·rcases zI hv with⟨j,u,rfl,rfl⟩|⟨y,u,rfl,rfl⟩
   ·rw[Cn]at h;exact wpAny_eqBool_int h
   ·rw[AS]at h;exact SeqAt.EqAt.int_str i t y u _ _ _ _ h
  ·rcases zI hv with⟨j,u,rfl,rfl⟩|⟨y,u,rfl,rfl⟩
   ·rw[Cy]at h;exact SeqAt.EqAt.str_int x t j u _ _ _ _ h
   ·rw[B8]at h;exact wpAny_eqBool_str h
 «strs»:=fun k x t v h=>by
  rcases zI h with⟨i,u,rfl,e⟩|⟨y,u,rfl,e⟩
  ·exact nomatch e
  ·injection e with e1 _
   subst e1;cases v<;>rfl
theorem nG(prog:Ξ)(w:Ω)(i:Int)(t:Tok):(zd prog w).is (.inl i) (.int i t)=true:=uj i t
theorem mZ(prog:Ξ)(w:Ω)(x:Str)(t:Tok):(zd prog w).is (.inr x) (.str x t)=true:=uC x t
inductive V where
 |non|bl (b:Bool)|int (i:Int)|str (x:Str)|byt (b:Array UInt8)|flt (b:UInt64)|ref (a:Δ)|ty (n:String)
 deriving DecidableEq
def F5:V->Γ->Prop
 | .non,u=>u=Γ.none
 | .bl b,u=>u=Γ.bool b
 | .int i,u=>∃t,u=Γ.int i t
 | .str x,u=>∃t,u=Γ.str x t
 | .byt b,u=>∃t,u=Γ.bytes b t
 | .flt b,u=>∃t,u=Γ.float b t
 | .ref a,u=>u=Γ.ref a
 | .ty n,u=>u=Γ.type n
abbrev F3:List V->List Γ->Prop:=Paired F5
theorem F3.length{xs:List V}{us:List Γ}(r:F3 xs us):xs.length=us.length:=Paired.length r
theorem F3.get:∀{xs:List V} {us:List Γ} {i:Nat} {x:V},F3 xs us->xs[i]? =some x->∃u,us[i]? =some u/\F5 x u
 |_,_,_,_,.nil,e=>by simp at e
 |_,_,0,_,.cons r _,e=>by simp at e;subst e;exact⟨_,rfl,r⟩
 |_,_,i+1,x,.cons _ t,e=>by
  obtain⟨u,h1,h2⟩:=F3.get (i:=i) (x:=x) t (by simpa using e)
  exact⟨u,by simpa using h1,h2⟩
theorem F3.set{x:V}{u:Γ}(r:F5 x u):∀{xs:List V} {us:List Γ} (i:Nat),F3 xs us->F3 (xs.set i x) (us.set i u)
 |_,_,_,.nil=> .nil
 |_,_,0,.cons _ t=> .cons r t
 |_,_,i+1,.cons q t=> .cons q (F3.set r i t)
theorem F3.append:∀{xs ys:List V} {us ws:List Γ},F3 xs us->F3 ys ws->F3 (xs++ys) (us++ws)
 |_,_,_,_,.nil,s=>s
 |_,_,_,_,.cons r t,s=> .cons r (F3.append t s)
theorem F3.take:∀{xs:List V} {us:List Γ} (n:Nat),F3 xs us->F3 (xs.take n) (us.take n)
 |_,_,0,_=> .nil
 |_,_,_+1,.nil=> .nil
 |_,_,n+1,.cons r t=> .cons r (F3.take n t)
theorem F3.drop:∀{xs:List V} {us:List Γ} (n:Nat),F3 xs us->F3 (xs.drop n) (us.drop n)
 |_,_,0,r=>r
 |_,_,_+1,.nil=> .nil
 |_,_,n+1,.cons _ t=>F3.drop n t
def G0:Option V->Option Γ->Prop
 |some v,some u=>F5 v u
 |none,none=>True
 |_,_=>False
def KV{κ:Type}:List (κ×V)->List (κ×Γ)->Prop:=Paired fun(p:κ×V) (q:κ×Γ)=>p.1=q.1/\F5 p.2 q.2
def kV:qJ->V
 | .inl i=> .int i
 | .inr x=> .str x
inductive HO where
 |lst (xs:List V)
 |tup (xs:List V)
 |dK (kvs:List (qJ×V))|dT (kvs:List (List qJ×V))
 |set (S:Int->Bool) (n:Nat)
 |ins (C dx:Δ) (fs:List (Str×V))
 |own (x:Δ)
 |xd (fs:List (Str×V))
 |met (f x:Δ)
 |rng (lo hi:Int)
 |frz (o:Obj) (u:HO)
 |tbl (ps:Array Γ)
 |ext (φ:Ψ->Prop)
abbrev Hp:=Δ->Option HO
def F2(H:Hp)(a:Δ)(o:HO):Hp:=fun b=>if b=a then some o else H b
theorem qb{H:Hp}{a:Δ}{o:HO}:F2 H a o a=some o:=by unfold F2;rw[Jc rfl]
theorem qi{H:Hp}{a b:Δ}{o:HO}(h:b≠a):F2 H a o b=H b:=by unfold F2;rw[Jb h]
theorem Qe{H:Hp}{a b:Δ}{o u:HO}(h:H a=some o)(h':H b=some u)(d:o≠u):a≠b:=by
 intro e;subst e;rw[h]at h';exact d (JB h')
theorem qj{H:Hp}{a b:Δ}{o:HO}(h:H a=some o)(h':H b=none):a≠b:=by
 intro e;subst e;rw[h]at h';cases h'
section
variable(P:Ξ)(w:Ω)
def Ge(H:Hp)(h:Ψ)(a:Δ):HO->Prop
 | .lst xs=>xs.length<=ζ/\∃(its:List Γ) (n:Nat),F3 xs its/\h.get? a=some {cls:= .type "list",data:= .seq its.toArray n}
 | .tup xs=>xs.length<=ζ/\∃its:List Γ,F3 xs its/\IsTup h a its.toArray
 | .dK kvs=>kvs.length<=ζ/\(a==sysModules)=false/\∃vs,KV kvs vs/\h.DictOf (zd P w) a vs
 | .dT kvs=>kvs.length<=ζ/\(a==sysModules)=false/\∃xs:List (List qJ×Δ×Γ),
   Paired (fun(p:List qJ×V) (q:List qJ×Δ×Γ)=>p.1=q.1/\H q.2.1=some (.tup (p.1.map kV))/\F5 p.2 q.2.2) kvs xs/\
   ∃o es ep,h.get? a=some o/\o.ExactDict/\o.data= .dict es ep/\es.toList=xs.map (entryOfKey (tupleKind (zd P w)))/\(xs.map (·.1)).Nodup
 | .set S n=>h.SetOf (intKind P w) a S n
 | .ins C dx fs=>H dx=some (.own a)/\fs.length<=1000/\dx≠a/\h.get? a=some (PySem.W.instObj C dx)/\
   ∃mA,h.Ns1 dx mA/\(∀f,G0 (fs.lookup f) (mA f))/\PySem.Within mA (fs.map (·.1))
 | .own _=>∃o,h.get? a=some o
 | .xd fs=>∃mA,h.Ns1 a mA/\∀f,G0 (fs.lookup f) (mA f)
 | .rng lo hi=>∃t u v,h.get? a=some {cls:= .type "range",data:= .fields #[.int lo t,.int hi u,.int 1 v]}
 | .frz o u=>h.get? a=some o/\Ge H h a u
 | .tbl ps=>h.get? a=some {cls:= .none,data:= .fields ps}
 | .met f x=>h.get? a=some (PySem.W.methodObj (.ref f) (.ref x))
 | .ext φ=>φ h/\(∃o,h.get? a=some o)/\∀h1 h2:Ψ,φ h1->(∀o,h1.get? a=some o->h2.get? a=some o)->φ h2
def Hv(H:Hp)(h:Ψ):Prop:=∀a o,H a=some o->Ge P w H h a o
end
section
variable{P:Ξ}{w:Ω}{H H':Hp}{h h':Ψ}{a:Δ}{o:HO}
theorem Ge.lt(x:Ge P w H h a o):a<h.objs.size:=by
 cases o with
 |lst xs=>obtain⟨_,_,_,_,e⟩:=x;exact Ji e
 |tup xs=>obtain⟨_,_,_,p⟩:=x;exact p.lt
 |dK kvs=>obtain⟨_,_,_,_,o,_,_,e,_⟩:=x;exact Ji e
 |dT kvs=>obtain⟨_,_,_,_,o,_,_,e,_⟩:=x;exact Ji e
 |set S n=>obtain⟨o,_,_,_,e,_⟩:=x;exact Ji e
 |ins C dx fs=>obtain⟨_,_,_,e,_⟩:=x;exact Ji e
 |own y=>obtain⟨_,e⟩:=x;exact Ji e
 |xd fs=>obtain⟨_,⟨_,_,_,e,_⟩,_⟩:=x;exact Ji e
 |rng lo hi=>obtain⟨_,_,_,e⟩:=x;exact Ji e
 |frz ob u=>obtain⟨e,_⟩:=x;exact Ji e
 |tbl ps=>exact Ji (show h.get? a=some _ from x)
 |met f y=>exact Ji (show h.get? a=some _ from x)
 |ext φ=>obtain⟨_,⟨_,e⟩,_⟩:=x;exact Ji e
theorem Paired.mapP{α β:Type}{F G:α->β->Prop}:∀{l₁:List α} {l₂:List β},Paired F l₁ l₂->(∀a b,F a b->G a b)->Paired G l₁ l₂
 |_,_,.nil,_=> .nil
 |_,_,.cons r t,f=> .cons (f _ _ r) (Paired.mapP t f)
theorem Ge.stay(x:Ge P w H h a o)(k:∀b u,(b=a\/H b=some (.own a))->h.get? b=some u->h'.get? b=some u)
  (ho:∀b,H b=some (.own a)->H' b=some (.own a))(ht:∀b xs,H b=some (.tup xs)->H' b=some (.tup xs)):Ge P w H' h' a o:=by
 induction o with
 |lst xs=>obtain⟨z,its,n,r,e⟩:=x;exact⟨z,its,n,r,k _ _ (.inl rfl) e⟩
 |tup xs=>obtain⟨z,its,r,ob,e,c⟩:=x;exact⟨z,its,r,ob,k _ _ (.inl rfl) e,c⟩
 |dK kvs=>obtain⟨z,y,vs,r,ob,es,ep,e,c⟩:=x;exact⟨z,y,vs,r,ob,es,ep,k _ _ (.inl rfl) e,c⟩
 |dT kvs=>
  obtain⟨z,y,xs,r,ob,es,ep,e,c⟩:=x
  exact⟨z,y,xs,Paired.mapP r fun p q z=>⟨z.1,ht _ _ z.2.1,z.2.2⟩,ob,es,ep,k _ _ (.inl rfl) e,c⟩
 |set S n=>obtain⟨ob,es,ep,t,e,c⟩:=x;exact⟨ob,es,ep,t,k _ _ (.inl rfl) e,c⟩
 |ins C dx fs=>
  obtain⟨d,z,ne,e,mA,⟨od,es,ep,e2,c⟩,r⟩:=x
  exact⟨ho _ d,z,ne,k _ _ (.inl rfl) e,mA,⟨od,es,ep,k _ _ (.inr d) e2,c⟩,r⟩
 |own y=>obtain⟨ob,e⟩:=x;exact⟨ob,k _ _ (.inl rfl) e⟩
 |xd fs=>obtain⟨mA,⟨od,es,ep,e,c⟩,r⟩:=x;exact⟨mA,⟨od,es,ep,k _ _ (.inl rfl) e,c⟩,r⟩
 |rng lo hi=>obtain⟨t,u,v,e⟩:=x;exact⟨t,u,v,k _ _ (.inl rfl) e⟩
 |frz ob u ih=>obtain⟨e,q⟩:=x;exact⟨k _ _ (.inl rfl) e,ih q⟩
 |tbl ps=>
  have e:h.get? a=some {cls:= .none,data:= .fields ps}:=x
  show h'.get? a=some {cls:= .none,data:= .fields ps}
  exact k a _ (.inl rfl) e
 |met f y=>
  have e:h.get? a=some (W.methodObj (.ref f) (.ref y)):=x
  show h'.get? a=some (W.methodObj (.ref f) (.ref y))
  exact k a _ (.inl rfl) e
 |ext φ=>obtain⟨p,⟨o,e⟩,st⟩:=x;exact⟨st _ _ p fun o q=>k _ _ (.inl rfl) q,⟨o,k _ _ (.inl rfl) e⟩,st⟩
theorem Hv.lt(x:Hv P w H h)(e:H a=some o):a<h.objs.size:=(x a o e).lt
theorem Hv.fresh(x:Hv P w H h)(e:h.objs.size<=a):H a=none:=by
 cases q:H a with
 |none=>rfl
 |some u=>exact absurd (JL (x.lt q) e) (J1 _)
theorem Hv.kept(x:Hv P w H h)(k:∀b u,h.get? b=some u->h'.get? b=some u):Hv P w H h':=fun a o e=>
 (x a o e).stay (fun b u _ q=>k b u q) (fun _ q=>q) fun _ _ q=>q
theorem Hv.laid(x:Hv P w H h)(k:∀b u,h.get? b=some u->h'.get? b=some u)(hp:h.objs.size<=a)(new:Ge P w (F2 H a o) h' a o):Hv P w (F2 H a o) h':=fun b u e=>by
 have hn:=x.fresh hp
 by_cases hb:b=a
 ·subst hb;rw[qb]at e;cases e;exact new
 ·rw[qi hb]at e
  exact(x b u e).stay (fun c v _ q=>k c v q) (fun c q=>by rw[qi (qj q hn)];exact q) fun c xs q=>by rw[qi (qj q hn)];exact q
end
def Rd(H:Hp)(a:Δ)(u:HO):Prop:=H a=some u\/∃o,H a=some (.frz o u)
theorem Rd.of{H:Hp}{a:Δ}{u:HO}(h:H a=some u):Rd H a u:= .inl h
theorem Rd.ok{P:Ξ}{w:Ω}{H:Hp}{h:Ψ}{a:Δ}{u:HO}(r:Rd H a u)(x:Hv P w H h):Ge P w H h a u:=by
 rcases r with r|⟨o,r⟩
 ·exact x a u r
 ·obtain⟨_,q⟩:=x a _ r
  exact q
def sw:Option HO->Prop
 |some (.lst _)=>True
 |some (.dK _)=>True
 |some (.dT _)=>True
 |some (.set _ _)=>True
 |some (.ins _ _ _)=>True
 |some (.ext _)=>True
 |_=>False
section
variable{P:Ξ}{w:Ω}{H:Hp}{h h':Ψ}{x e:Δ}{o':HO}
theorem Hv.write(ok:Hv P w H h)(mu:sw (H x))(he:e=x\/H e=some (.own x))(k:∀b u,b≠e->h.get? b=some u->h'.get? b=some u)(heo:∃u,h'.get? e=some u)
  (new:Ge P w (F2 H x o') h' x o'):Hv P w (F2 H x o') h':=fun b u q=>by
 have nown:∀c y,H c=some (.own y)->c≠x:=fun c y r z=>by subst z;rw[r]at mu;exact mu
 have ntup:∀c xs,H c=some (.tup xs)->c≠x:=fun c xs r z=>by subst z;rw[r]at mu;exact mu
 by_cases hb:b=x
 ·subst hb;rw[qb]at q;cases q;exact new
 ·rw[qi hb]at q
  by_cases hbe:b=e
  ·have q':H b=some (.own x):=by
    rcases he with z|z
    ·exact absurd (hbe.trans z) hb
    ·rw[hbe];exact z
   rw[q]at q';cases q'
   obtain⟨v,hv⟩:=heo
   exact⟨v,by rw[hbe];exact hv⟩
  ·refine(ok b u q).stay (fun c v hc r=>k c v ?_ r) (fun c r=>by rw[qi (nown c b r)];exact r) fun c xs r=>by rw[qi (ntup c xs r)];exact r
   rcases hc with rfl|hc
   ·exact hbe
   ·rintro rfl
    rcases he with z|z
    ·exact nown c b hc z
    ·rw[hc]at z;cases z;exact hb rfl
end
structure Un(fs ex:List Δ)(H H':Hp)(h h':Ψ):Prop where
 keep:∀b o,h.get? b=some o->H b=none->b∉fs->b∉ex->h'.get? b=some o
 slot:∀b o,h.get? b=some o->H b=none->b∈fs->b∉ex->∃sl,h'.get? b=some {o with slots:=sl}
 free:∀b o,h.get? b=some o->H b=none->b∉ex->H' b=none
 there:∀b o,h.get? b=some o->b∉ex->∃o',h'.get? b=some o'
 tups:∀b xs,H b=some (.tup xs)->H' b=some (.tup xs)
 frzs:∀b o u,H b=some (.frz o u)->H' b=some (.frz o u)
 tbls:∀b ps,H b=some (.tbl ps)->∃more,H' b=some (.tbl (ps++more))
section
variable{fs ex:List Δ}{H H1:Hp}{h h1 h':Ψ}{a x e:Δ}{o:HO}
theorem Un.any(u:Un fs ex H H1 h h1){b:Δ}{ob:Obj}(q:h.get? b=some ob)(n:H b=none)(hx:b∉ex):∃sl,h1.get? b=some {ob with slots:=sl}:=by
 by_cases hb:b∈fs
 ·exact u.slot b ob q n hb hx
 ·exact⟨ob.slots,u.keep b ob q n hb hx⟩
theorem Un.kept(k:∀b u,h.get? b=some u->h'.get? b=some u):Un fs ex H H h h':=
 ⟨fun b ob q _ _ _=>k b ob q,fun b ob q _ _ _=>⟨ob.slots,k b ob q⟩,fun _ _ _ n _=>n,fun b ob q _=>⟨ob,k b ob q⟩,fun _ _ q=>q,fun _ _ _ q=>q,fun _ ps q=>⟨#[],by rw[q];simp⟩⟩
theorem Un.refl:Un fs ex H H h h:=Un.kept fun _ _ q=>q
theorem Un.laid(k:∀b u,h.get? b=some u->h'.get? b=some u)(hp:h.objs.size<=a)(hn:H a=none):Un fs ex H (F2 H a o) h h' where
 keep:=fun b u q _ _ _=>k b u q
 slot:=fun b u q _ _ _=>⟨u.slots,k b u q⟩
 free:=fun b u q n _=>by rw[qi (Jo (JL (Ji q) hp))];exact n
 there:=fun b u q _=>⟨u,k b u q⟩
 tups:=fun b xs q=>by rw[qi (qj q hn)];exact q
 frzs:=fun b u xs q=>by rw[qi (qj q hn)];exact q
 tbls:=fun b ps q=>⟨#[],by rw[qi (qj q hn),q];simp⟩
theorem Un.write(mu:sw (H x))(he:e=x\/H e=some (.own x))(k:∀b u,b≠e->h.get? b=some u->h'.get? b=some u)(heo:∃u,h'.get? e=some u):Un fs ex H (F2 H x o) h h':=by
 have hx:∀b,H b=none->b≠x:=fun b n z=>by subst z;rw[n]at mu;exact mu
 have hb:∀b,H b=none->b≠e:=fun b n z=>by
  subst z;rcases he with r|r
  ·exact hx b n r
  ·rw[n]at r;cases r
 have hm:∀b u,H b=some u->¬sw (some u)->b≠x:=fun b u q nm z=>by subst z;rw[q]at mu;exact nm mu
 refine⟨fun b u q n _ _=>k b u (hb b n) q,fun b u q n _ _=>⟨u.slots,k b u (hb b n) q⟩,fun b u q n _=>by rw[qi (hx b n)];exact n,fun b u q _=>?_,
  fun b xs q=>by rw[qi (hm b _ q fun z=>z)];exact q,fun b u xs q=>by rw[qi (hm b _ q fun z=>z)];exact q,fun b ps q=>⟨#[],by rw[qi (hm b _ q fun z=>z),q];simp⟩⟩
 by_cases hbe:b=e
 ·subst hbe;exact heo
 ·exact⟨u,k b u hbe q⟩
end
def wR(h:Ψ)(H:Hp):List Δ:=(List.range h.objs.size).filter fun a=>(H a).isSome
def ci(h:Ψ)(H:Hp):Ψ:=PySem.W.hideAll h (wR h H)
theorem tP(h:Ψ)(H:Hp):(ci h H).objs.size=h.objs.size:=W.hideAll_size _ _
theorem ve{h:Ψ}{H:Hp}{b:Δ}{o:Obj}(e:h.get? b=some o)(n:H b=none):(ci h H).get? b=some o:=
 W.hideAll_get _ e fun hm=>by
  have q:(H b).isSome=true:=(List.mem_filter.mp hm).2
  rw[n]at q;simp at q
theorem Ae{h:Ψ}{H:Hp}{b:Δ}{o:Obj}(e:(ci h H).get? b=some o):h.get? b=some o/\H b=none:=by
 have e':h.get? b=some o:=W.of_hideAll (wR h H) e
 refine⟨e',?_⟩
 cases q:H b with
 |none=>rfl
 |some x=>
  have hm:b∈wR h H:=List.mem_filter.mpr ⟨J6.mpr (Ji e'),by simp [q]⟩
  have z:(ci h H).get? b=none:=W.hideAll_none (wR h H) hm
  rw[z]at e;cases e
structure IW(K:ι)(mg:FT)(base:Ψ):Prop where
 kin:K.In base
 glob:base.Ns η mg
 blt:∃mb,base.Ns builtinsNs mb/\∀x:Str,x≠"__name__"->mb x=bootBuiltins x
 nolimit:base.NoLimit
structure Cx where
 prog:Ξ
 w:Ω
 K:ι
 mg:Str->Option Γ
 base:Ψ
 A:Around
 N:List Str
 s₀:Θ
 H₀:Hp
 env:Env
 outer:List Env
 stack:List Env
 ex:List Δ
 fn:Str->Bool
 calm:Bool
 pn:List (Δ×Obj)
 xe:Γ->Θ->Prop
def bG(l:List Env):List Δ:=l.filterMap (·.frame)
abbrev Cx.fs(X:Cx):List Δ:=bG X.outer
def Ba(sc:Scope)(x:Str):Prop:=sc.names.lookup x=some .local\/sc.names.lookup x=some .cell\/sc.names.lookup x=some .free
def je(sc:Scope)(x:Str):Prop:=sc.names.lookup x=some .local\/sc.names.lookup x=some .cell
def Dk(env:Env)(h:Ψ)(m:FT)(x:Str)(u:Γ):Prop:=
 (env.kindOf x=some .local/\m x=some u)\/((env.kindOf x=some .cell\/env.kindOf x=some .free)/\∃c,env.cells.lookup x=some c/\h.IsCell c (some u))
structure Cx.Ok(X:Cx):Prop where
 mod:IW X.K X.mg X.base
 kind:X.env.scope.kind= .function
 glob:X.env.globals=η
 blt:X.env.builtins=builtinsNs
 above:X.s₀.heap.objs.size<=X.env.locals
 inj:∀x y c,X.env.cells.lookup x=some c->X.env.cells.lookup y=some c->x=y
 has:∀x,(X.env.kindOf x=some .cell\/X.env.kindOf x=some .free)->∃c,X.env.cells.lookup x=some c
 cab:∀x c,X.fn x=true->X.env.cells.lookup x=some c->X.s₀.heap.objs.size<=c
 hd:X.calm=true->X.A.handled=none
 frames:X.A.frames=some X.stack
 stk:X.stack=X.outer\/(X.stack=X.env::X.outer/\X.env.frame=some X.env.locals)
 exf:∀b∈X.ex,b≠X.env.locals/\∀x c,X.env.cells.lookup x=some c->c≠b
 bs:∀b o,X.base.get? b=some o->X.s₀.heap.get? b=some o/\X.H₀ b=none
 bsz:X.base.objs.size<=X.s₀.heap.objs.size
 noex:∀b o,X.base.get? b=some o->b∉X.ex
 exfs:∀b∈X.ex,b∉X.fs
 funs:X.s₀.heap.FunFrames X.base X.outer
 frf:∀b∈X.fs,X.H₀ b=none
structure FY(X:Cx)(tx:FU)(σ:List (Option V))(H:Hp)(s:Θ):Prop where
 ok:X.Ok
 os:s.os=X.s₀.os
 bare:AllBare s.gens
 base:Un X.fs X.ex X.H₀ H X.s₀.heap s.heap
 loc:∃m,s.heap.Ns X.env.locals m/\∀(i:Nat) (x:Str) (v:V),X.N[i]? =some x->σ[i]? =some (some v)->Ba X.env.scope x->∃u,F5 v u/\Dk X.env s.heap m x u
 cell:∀x c,X.env.cells.lookup x=some c->∃v,s.heap.IsCell c v
 free:H X.env.locals=none
 freeC:∀x c,X.env.cells.lookup x=some c->H c=none
 pin:∀p∈X.pn++tx,s.heap.get? p.1=some p.2/\H p.1=none/\p.1≠X.env.locals/\p.1∉X.fs/\∀v,p.2.data≠ .cell v
 hok:Hv X.prog X.w H s.heap
 len:σ.length=X.N.length
section
variable{X:Cx}{tx:FU}{σ:List (Option V)}{H H':Hp}{s:Θ}{h':Ψ}
theorem Cx.Ok.nofr(ok:X.Ok){b:Δ}{o:Obj}(e:X.base.get? b=some o):b∉X.fs:=fun hb=>by
 have:=(ok.funs.mem hb).1
 rw[e]at this;cases this
theorem FY.bs(I:FY X tx σ H s):∀b o,X.base.get? b=some o->s.heap.get? b=some o/\H b=none:=fun b o e=>
 ⟨I.base.keep b o (I.ok.bs b o e).1 (I.ok.bs b o e).2 (I.ok.nofr e) (I.ok.noex b o e),I.base.free b o (I.ok.bs b o e).1 (I.ok.bs b o e).2 (I.ok.noex b o e)⟩
theorem FY.bk(I:FY X tx σ H s):∀b o,X.base.get? b=some o->s.heap.get? b=some o:=fun b o e=>(I.bs b o e).1
theorem FY.mod(I:FY X tx σ H s):IW X.K X.mg X.base:=I.ok.mod
theorem FY.kIn(I:FY X tx σ H s):X.K.In s.heap:=I.ok.mod.kin.keeps I.bk
theorem FY.lt(I:FY X tx σ H s):X.env.locals<s.heap.objs.size:=let⟨_,hn,_⟩:=I.loc;hn.lt
theorem FY.sz(I:FY X tx σ H s):X.s₀.heap.objs.size<=s.heap.objs.size:=JO I.ok.above (E8 I.lt)
theorem FY.nofs(I:FY X tx σ H s){a:Δ}(h:s.heap.objs.size<=a):a∉X.fs:=fun hb=>by
 obtain⟨_,o,ho,_⟩:=I.ok.funs.mem hb;exact absurd (JL (Ji ho) (JO I.sz h)) (J1 _)
theorem FY.cne(I:FY X tx σ H s):∀x c,X.env.cells.lookup x=some c->c≠X.env.locals:=fun x c e z=>by
 obtain⟨v,o,ho,hd⟩:=I.cell x c e;obtain⟨m,⟨o',es,ep,ho',hd',_⟩,_⟩:=I.loc;rw[z,ho']at ho;cases ho;rw[hd']at hd;cases hd
theorem FY.funs(I:FY X tx σ H s):s.heap.FunFrames X.base X.outer:=by
 have all:∀(l:List Env),(∀b∈bG l,b∈X.fs)->X.s₀.heap.FunFrames X.base l->s.heap.FunFrames X.base l:=by
  intro l
  induction l with
  |nil=>intro _ _;trivial
  |cons env r ih=>
   intro hs hl;obtain⟨hk,⟨L,o,hf,hn,ho,hd⟩,hr⟩:=hl;have hL:L∈X.fs:=hs L (by unfold bG;rw[JP,hf];exact Jy)
   obtain⟨sl,e⟩:=I.base.slot L o ho (I.ok.frf L hL) hL fun z=>I.ok.exfs L z hL
   exact⟨hk,⟨L,_,hf,hn,e,hd⟩,ih (fun b hb=>hs b (by unfold bG;rw[JP,hf];exact JE _ hb)) hr⟩
 exact all X.outer (fun _ hb=>hb) I.ok.funs
theorem FY.stack(I:FY X tx σ H s):s.heap.FunFrames X.base X.stack:=by
 rcases I.ok.stk with e|⟨e,hf⟩
 ·rw[e];exact I.funs
 ·rw[e]
  obtain⟨m,hn,_⟩:=I.loc;refine .cons (by rw[I.ok.kind];decide) hf hn ?_ I.funs
  exact Ψ.get?_none_of_le (JO I.ok.bsz I.ok.above)
theorem FY.stkSub(I:FY X tx σ H s):∀b∈bG X.stack,b∈X.env.locals::X.fs:=fun b hb=>by
 rcases I.ok.stk with e|⟨e,hf⟩
 ·rw[e]at hb;exact JE _ hb
 ·rw[e]at hb
  unfold bG at hb;rw[JP,hf]at hb;exact hb
theorem FY.stkFree(I:FY X tx σ H s):∀b∈bG X.stack,H b=none:=fun b hb=>by
 rcases Jl.mp (I.stkSub b hb)with e|hb
 ·rw[e];exact I.free
 ·obtain⟨_,o,ho,_⟩:=I.ok.funs.mem hb
  exact I.base.free b o ho (I.ok.frf b hb) fun z=>I.ok.exfs b z hb
theorem FY.step{g':Array GenState}{t':Nat}{d':Drawn}{ch:List Δ}(I:FY X tx σ H s)
  (hch:∀b∈ch,(b∈X.ex\/X.s₀.heap.objs.size<=b)/\b≠X.env.locals/\(∀x c,X.env.cells.lookup x=some c->c≠b)/\∀p∈X.pn++tx,p.1≠b)
  (keep:∀b o,b≠X.env.locals->b∉X.fs->b∉ch->s.heap.get? b=some o->H b=none->h'.get? b=some o)
  (slot:∀b o,b≠X.env.locals->b∈X.fs->b∉ch->s.heap.get? b=some o->H b=none->∃sl,h'.get? b=some {o with slots:=sl})(free:∀b o,b∉ch->s.heap.get? b=some o->H b=none->H' b=none)
  (there:∀b o,b∉ch->s.heap.get? b=some o->∃o',h'.get? b=some o')
  (tups:∀b xs,H b=some (.tup xs)->H' b=some (.tup xs))(frzs:∀b o u,H b=some (.frz o u)->H' b=some (.frz o u))(tbls:∀b ps,H b=some (.tbl ps)->∃more,H' b=some (.tbl (ps++more)))
  (ns:∀m,s.heap.Ns X.env.locals m->h'.Ns X.env.locals m)(hok:Hv X.prog X.w H' h')(hg:AllBare g'):
  FY X tx σ H' {s with heap:=h',gens:=g',drawn:=d',toks:=t'}:=by
 have neL:∀b o,X.s₀.heap.get? b=some o->b≠X.env.locals:=fun b o e=>Jo (JL (Ji e) I.ok.above)
 have neC:∀b o,X.s₀.heap.get? b=some o->b∉X.ex->b∉ch:=fun b o e hx hb=>by
  rcases(hch b hb).1 with z|z
  ·exact hx z
  ·exact absurd (JL (Ji e) z) (J1 _)
 have cellK:∀x c,X.env.cells.lookup x=some c->∀v,s.heap.IsCell c v->h'.IsCell c v:=fun x c e v ⟨o,ho,hd⟩=>by
  have nch:c∉ch:=fun z=>(hch c z).2.2.1 x c e rfl
  by_cases hc:c∈X.fs
  ·obtain⟨sl,q⟩:=slot c o (I.cne x c e) hc nch ho (I.freeC x c e)
   exact⟨_,q,hd⟩
  ·exact⟨o,keep c o (I.cne x c e) hc nch ho (I.freeC x c e),hd⟩
 refine⟨I.ok,I.os,hg,⟨fun b o e n hb hx=>?_,fun b o e n hb hx=>?_,fun b o e n hx=>?_,fun b o e hx=>?_,fun b xs e=>tups b xs (I.base.tups b xs e),fun b o xs e=>frzs b o xs (I.base.frzs b o xs e),fun b ps e=>?_⟩,?_,fun x c e=>?_,?_,fun x c e=>?_,fun p hp=>?_,hok,I.len⟩
 ·exact keep b o (neL b o e) hb (neC b o e hx) (I.base.keep b o e n hb hx) (I.base.free b o e n hx)
 ·obtain⟨sl,e1⟩:=I.base.slot b o e n hb hx
  obtain⟨sl',e2⟩:=slot b _ (neL b o e) hb (neC b o e hx) e1 (I.base.free b o e n hx)
  exact⟨sl',e2⟩
 ·obtain⟨o',e1⟩:=I.base.there b o e hx
  exact free b o' (neC b o e hx) e1 (I.base.free b o e n hx)
 ·obtain⟨o',e1⟩:=I.base.there b o e hx
  exact there b o' (neC b o e hx) e1
 ·obtain⟨m1,e1⟩:=I.base.tbls b ps e
  obtain⟨m2,e2⟩:=tbls b _ e1
  exact⟨m1++m2,by rw[e2,Array.append_assoc]⟩
 ·obtain⟨m,hn,hl⟩:=I.loc
  refine⟨m,ns m hn,fun i x v e1 e2 e3=>?_⟩
  obtain⟨u,r,l⟩:=hl i x v e1 e2 e3;refine⟨u,r,?_⟩
  rcases l with l|⟨k,c,e,z⟩
  ·exact .inl l
  ·exact .inr ⟨k,c,e,cellK x c e _ z⟩
 ·obtain⟨v,z⟩:=I.cell x c e
  exact⟨v,cellK x c e v z⟩
 ·obtain⟨m,⟨o,_,_,ho,_⟩,_⟩:=I.loc
  exact free _ o (fun z=>(hch _ z).2.1 rfl) ho I.free
 ·obtain⟨v,o,ho,hd⟩:=I.cell x c e
  exact free c o (fun z=>(hch c z).2.2.1 x c e rfl) ho (I.freeC x c e)
 ·obtain⟨e,n,ne,nf,d⟩:=I.pin p hp
  have nch:p.1∉ch:=fun z=>(hch p.1 z).2.2.2 p hp rfl
  exact⟨keep p.1 p.2 ne nf nch e n,free p.1 p.2 nch e n,ne,nf,d⟩
theorem FY.un{t':Nat}(I:FY X tx σ H s)(u:Un X.fs [] H H' s.heap h')(hok:Hv X.prog X.w H' h'):FY X tx σ H' {s with heap:=h',toks:=t'}:=by
 obtain⟨m,⟨o,es,ep,ho,r⟩,_⟩:=id I.loc;obtain⟨sl,hL⟩:=u.any ho I.free (by simp)
 exact I.step (g':=s.gens) (d':=s.drawn) (ch:=[]) (fun _ z=>nomatch z) (fun b o _ hb _ e n=>u.keep b o e n hb (by simp)) (fun b o _ hb _ e n=>u.slot b o e n hb (by simp)) (fun b o _ e n=>u.free b o e n (by simp)) (fun b o _ e=>u.there b o e (by simp)) u.tups u.frzs u.tbls (fun m' hm=>by
  obtain⟨o',es',ep',ho',r'⟩:=hm;rw[ho]at ho';cases ho'
  exact⟨_,es',ep',hL,r'⟩) hok I.bare
theorem FY.call{g':Array GenState}{t':Nat}{d':Drawn}{ch:List Δ}(I:FY X tx σ H s)(u:Un (bG X.stack) ch H H' s.heap h')(hok:Hv X.prog X.w H' h')(hg:AllBare g')
  (hch:∀b∈ch,(b∈X.ex\/X.s₀.heap.objs.size<=b)/\b≠X.env.locals/\(∀x c,X.env.cells.lookup x=some c->c≠b)/\∀p∈X.pn++tx,p.1≠b):
  FY X tx σ H' {s with heap:=h',gens:=g',drawn:=d',toks:=t'}:=by
 obtain⟨m,⟨o,es,ep,ho,r⟩,_⟩:=id I.loc;obtain⟨sl,hL⟩:=u.any ho I.free fun z=>(hch _ z).2.1 rfl
 exact I.step (ch:=ch) hch (fun b o hL hb hc e n=>u.keep b o e n (fun z=>(Jl.mp (I.stkSub b z)).elim hL hb) hc) (fun b o _ _ hc e n=>u.any e n hc) (fun b o hc e n=>u.free b o e n hc) (fun b o hc e=>u.there b o e hc) u.tups u.frzs u.tbls (fun m' hm=>by
  obtain⟨o',es',ep',ho',r'⟩:=hm;rw[ho]at ho';cases ho'
  exact⟨_,es',ep',hL,r'⟩) hok hg
theorem FY.turned{t':Nat}{it:Δ}(I:FY X tx σ H s)(k:∀b o,b≠it->s.heap.get? b=some o->h'.get? b=some o)(hn:H it=none)(hL:it≠X.env.locals)
  (h1:it∈X.ex\/X.s₀.heap.objs.size<=it)(h2:∀x c,X.env.cells.lookup x=some c->c≠it)(h3:∀p∈X.pn++tx,p.1≠it):FY X tx σ H {s with heap:=h',toks:=t'}:=by
 have nit:∀b u,H b=some u->b≠it:=fun b u e z=>by rw[z,hn]at e;cases e
 refine I.step (g':=s.gens) (d':=s.drawn) (ch:=[it]) (fun b hb=>?_) (fun b o _ _ hc e _=>k b o (fun z=>hc (by simp [z])) e) (fun b o _ _ hc e _=>⟨o.slots,k b o (fun z=>hc (by simp [z])) e⟩) (fun _ _ _ _ n=>n)
  (fun b o hc e=>⟨o,k b o (fun z=>hc (by simp [z])) e⟩) (fun _ _ e=>e) (fun _ _ _ e=>e) (fun b ps e=>⟨#[],by rw[e];simp⟩) (fun m hm=>?_) (fun b u e=>?_) I.bare
 ·have e:b=it:=by simpa using hb
  subst e
  exact⟨h1,hL,h2,h3⟩
 ·obtain⟨o,es,ep,ho,r⟩:=hm
  exact⟨o,es,ep,k _ o (Ne.symm hL) ho,r⟩
 ·refine(I.hok b u e).stay (fun c v hc q=>k c v ?_ q) (fun _ q=>q) fun _ _ q=>q
  rcases hc with z|z
  ·rw[z];exact nit b u e
  ·exact nit c _ z
theorem FY.tok(I:FY X tx σ H s)(t:Nat):FY X tx σ H {s with toks:=t}:=I.un (h':=s.heap) (t':=t) Un.refl I.hok
theorem FY.kept{t':Nat}(I:FY X tx σ H s)(k:∀b u,s.heap.get? b=some u->h'.get? b=some u):FY X tx σ H {s with heap:=h',toks:=t'}:=I.un (Un.kept k) (I.hok.kept k)
theorem FY.laid{a:Δ}{o:HO}{t':Nat}(I:FY X tx σ H s)(k:∀b u,s.heap.get? b=some u->h'.get? b=some u)(hp:s.heap.objs.size<=a)(new:Ge X.prog X.w (F2 H a o) h' a o):
  FY X tx σ (F2 H a o) {s with heap:=h',toks:=t'}:=I.un (Un.laid k hp (I.hok.fresh hp)) (I.hok.laid k hp new)
theorem FY.write{x e:Δ}{o:HO}{t':Nat}(I:FY X tx σ H s)(mu:sw (H x))(he:e=x\/H e=some (.own x))(k:∀b u,b≠e->s.heap.get? b=some u->h'.get? b=some u)(heo:∃u,h'.get? e=some u)
  (new:Ge X.prog X.w (F2 H x o) h' x o):FY X tx σ (F2 H x o) {s with heap:=h',toks:=t'}:=I.un (Un.write mu he k heo) (I.hok.write mu he k heo new)
theorem FY.pins_of{pins':FU}(I:FY X tx σ H s)(h:∀p∈pins',s.heap.get? p.1=some p.2/\H p.1=none/\p.1≠X.env.locals/\p.1∉X.fs/\∀v,p.2.data≠ .cell v):FY X pins' σ H s:=
 ⟨I.ok,I.os,I.bare,I.base,I.loc,I.cell,I.free,I.freeC,fun p hp=>(JC.mp hp).elim (fun z=>I.pin p (E9 _ z)) (h p),I.hok,I.len⟩
theorem kS{N:List Str}(hN:N.Nodup){i j:Nat}{x:Str}(a:N[i]? =some x)(b:N[j]? =some x):i=j:=by
 obtain⟨h1,e1⟩:=JH.mp a;obtain⟨h2,e2⟩:=JH.mp b
 exact(List.getElem_inj hN).mp (e1.trans e2.symm)
theorem jj{M:Model}{A:Around}{E:FS}{i:Nat}{x:Str}{v:V}{u:Γ}{Q:Unit->Θ->Prop}(I:FY X tx σ H s)(hN:X.N.Nodup)(hi:X.N[i]? =some x)(hx:je X.env.scope x)(r:F5 v u)
  (h:∀s',FY X tx (σ.set i (some v)) H s'->(∃a,Ψ.SameBut a s.heap s'.heap/\(a=X.env.locals\/X.env.cells.lookup x=some a))->Q () s')(hf:X.fn x=true\/X.env.scope.names.lookup x=some .local:=by first|exact .inl rfl|exact .inr rfl|assumption):ε M A (storeName X.env x u) Q E s:=by
 obtain⟨m,hn,hl⟩:=id I.loc;have hcls:(X.env.scope.kind== .class||(X.env.scope.kind== .module&&X.env.locals != X.env.globals))=false:=by rw[I.ok.kind];rfl
 have hiσ:i<σ.length:=by rw[I.len];exact(JH.mp hi).1
 have cne:=I.cne;have tracked:∀{a:Δ} {h':Ψ},(∃o,s.heap.get? a=some o/\H a=none)->Ψ.SameBut a s.heap h'->Hv X.prog X.w H h':=fun{a h'} ha hs b ob e=>by
  obtain⟨_,_,hfree⟩:=ha;refine(I.hok b ob e).stay (fun c w' hc q=>(hs.2 c ?_).trans q) (fun _ q=>q) fun _ _ q=>q
  rintro rfl
  rcases hc with rfl|hc
  ·rw[hfree]at e;cases e
  ·rw[hfree]at hc;cases hc
 rcases hx with hk|hk
 ·refine wpAny_storeName_local hk hn (fun h' hn' hs=>?_) hcls
  obtain⟨oL,_,_,hoL,_⟩:=id hn;refine h _ ⟨I.ok,I.os,I.bare,⟨fun b o e n hb hx=>?_,fun b o e n hb hx=>?_,I.base.free,fun b o e hx=>?_,I.base.tups,I.base.frzs,I.base.tbls⟩,⟨_,hn',fun j y v' e1 e2 e3=>?_⟩,fun y c e=>?_,I.free,I.freeC,fun p hp=>?_,tracked ⟨oL,hoL,I.free⟩ hs,by simpa using I.len⟩ ⟨_,hs,.inl rfl⟩
  ·exact(hs.2 b (Jo (JL (Ji e) I.ok.above))).trans (I.base.keep b o e n hb hx)
  ·obtain⟨sl,e1⟩:=I.base.slot b o e n hb hx
   exact⟨sl,(hs.2 b (Jo (JL (Ji e) I.ok.above))).trans e1⟩
  ·obtain⟨o',e1⟩:=I.base.there b o e hx
   exact⟨o',(hs.2 b (Jo (JL (Ji e) I.ok.above))).trans e1⟩
  ·by_cases hj:j=i
   ·subst hj
    rw[hi]at e1;cases e1
    rw[Fl hiσ]at e2;cases e2
    exact⟨u,r,.inl ⟨hk,by simp⟩⟩
   ·rw[Fm (Ne.symm hj)]at e2
    obtain⟨u',r',q⟩:=hl j y v' e1 e2 e3;refine⟨u',r',?_⟩
    rcases q with⟨k,e⟩|⟨k,c,e,z⟩
    ·refine .inl ⟨k,?_⟩
     have:y≠x:=fun e=>hj (kS hN e1 (e▸hi))
     simp [this,e]
    ·exact .inr ⟨k,c,e,z.sameBut hs (cne y c e)⟩
  ·obtain⟨w',z⟩:=I.cell y c e
   exact⟨w',z.sameBut hs (cne y c e)⟩
  ·obtain⟨e,n,ne,nf,d⟩:=I.pin p hp
   exact⟨(hs.2 p.1 ne).trans e,n,ne,nf,d⟩
 ·have hfn:X.fn x=true:=by
   rcases hf with z|z
   ·exact z
   ·rw[z]at hk;cases hk
  obtain⟨c,hc⟩:=I.ok.has x (.inl hk)
  obtain⟨w',z⟩:=I.cell x c hc;refine wpAny_storeName_cell I.ok.kind hk hc z (fun h' hc' hs=>?_)
  obtain⟨oc,hoc,hocd⟩:=id z;refine h {s with heap:=h'} ⟨I.ok,I.os,I.bare,⟨fun b o e n hb hx=>?_,fun b o e n hb hx=>?_,I.base.free,fun b o e hx=>?_,I.base.tups,I.base.frzs,I.base.tbls⟩,⟨m,hn.sameBut hs (Ne.symm (cne x c hc)),fun j y v' e1 e2 e3=>?_⟩,fun y c' e=>?_,I.free,I.freeC,fun p hp=>?_,tracked ⟨oc,hoc,I.freeC x c hc⟩ hs,by simpa using I.len⟩ ⟨c,hs,.inr hc⟩
  ·exact(hs.2 b (Jo (JL (Ji e) (I.ok.cab x c hfn hc)))).trans (I.base.keep b o e n hb hx)
  ·obtain⟨sl,e1⟩:=I.base.slot b o e n hb hx
   exact⟨sl,(hs.2 b (Jo (JL (Ji e) (I.ok.cab x c hfn hc)))).trans e1⟩
  ·obtain⟨o',e1⟩:=I.base.there b o e hx
   exact⟨o',(hs.2 b (Jo (JL (Ji e) (I.ok.cab x c hfn hc)))).trans e1⟩
  ·by_cases hj:j=i
   ·subst hj
    rw[hi]at e1;cases e1
    rw[Fl hiσ]at e2;cases e2
    exact⟨u,r,.inr ⟨.inl hk,c,hc,hc'⟩⟩
   ·rw[Fm (Ne.symm hj)]at e2
    obtain⟨u',r',q⟩:=hl j y v' e1 e2 e3;refine⟨u',r',?_⟩
    rcases q with q|⟨k,c',e,z'⟩
    ·exact .inl q
    ·refine .inr ⟨k,c',e,z'.sameBut hs ?_⟩
     rintro rfl
     exact hj (kS hN e1 (I.ok.inj _ _ _ e hc▸hi))
  ·by_cases hcc:c'=c
   ·subst hcc;exact⟨_,hc'⟩
   ·obtain⟨w2,z2⟩:=I.cell y c' e
    exact⟨w2,z2.sameBut hs hcc⟩
  ·obtain⟨e,n,ne,nf,d⟩:=I.pin p hp
   refine⟨(hs.2 p.1 ?_).trans e,n,ne,nf,d⟩
   intro q;rw[q,hoc]at e;have q':oc=p.2:=JB e
   exact d w' (by rw[<- q'];exact hocd)
theorem bS{M:Model}{A:Around}{E:FS}{i:Nat}{x:Str}{v:V}{u:Γ}{Q:Unit->Θ->Prop}(I:FY X tx σ H s)(hN:X.N.Nodup)(hi:X.N[i]? =some x)(hx:je X.env.scope x)(r:F5 v u)
  (h:∀s',FY X tx (σ.set i (some v)) H s'->Q () s')(hf:X.fn x=true\/X.env.scope.names.lookup x=some .local:=by first|exact .inl rfl|exact .inr rfl|assumption):ε M A (storeName X.env x u) Q E s:=
 jj I hN hi hx r (fun s' I' _=>h s' I') hf
theorem FY.call'{s':Θ}{ch:List Δ}(I:FY X tx σ H s)(ho:s'.os=s.os)(u:Un (bG X.stack) ch H H' s.heap s'.heap)(hok:Hv X.prog X.w H' s'.heap)(hg:AllBare s'.gens)
  (hch:∀b∈ch,(b∈X.ex\/X.s₀.heap.objs.size<=b)/\b≠X.env.locals/\(∀x c,X.env.cells.lookup x=some c->c≠b)/\∀p∈X.pn++tx,p.1≠b):FY X tx σ H' s':=by
 obtain⟨h',g',d',t',o'⟩:=s';have e:o'=s.os:=ho
 subst e;exact I.call (g':=g') (t':=t') (d':=d') u hok hg hch
end
abbrev XK:=Γ->Option Δ->Hp->Prop
abbrev St:=List (Option V)
abbrev VK:=V->Hp->Prop
abbrev TE:=St->Hp->VK->Prop
abbrev TT:=St->Hp->(Bool->Hp->Prop)->Prop
abbrev TA:=St->Hp->(List V->Hp->Prop)->Prop
structure GP where
 nx:St->Hp->Prop
 rt:VK
 bk:St->Hp->Prop:=fun _ _=>False
 ct:St->Hp->Prop:=fun _ _=>False
abbrev TS:=GP->St->Hp->Prop
def EP(X:Cx)(tx:FU)(σ:St)(Q:VK)(u:Γ)(s':Θ):Prop:=∃v H',FY X tx σ H' s'/\F5 v u/\Q v H'
def TP(X:Cx)(tx:FU)(σ:St)(Q:Bool->Hp->Prop)(b:Bool)(s':Θ):Prop:=∃H',FY X tx σ H' s'/\Q b H'
def AP(X:Cx)(tx:FU)(σ:St)(Q:List V->Hp->Prop)(us:List Γ)(s':Θ):Prop:=∃vs H',FY X tx σ H' s'/\F3 vs us/\Q vs H'
def SP(X:Cx)(tx:FU)(D:GP)(f:Flow)(s':Θ):Prop:=
 match f with
 | .next=>∃σ' H',FY X tx σ' H' s'/\D.nx σ' H'
 | .brk=>∃σ' H',FY X tx σ' H' s'/\D.bk σ' H'
 | .cont=>∃σ' H',FY X tx σ' H' s'/\D.ct σ' H'
 | .ret u=>∃v σ' H',FY X tx σ' H' s'/\F5 v u/\D.rt v H'
def PE(X:Cx)(e:Φ)(t:TE):Prop:=
 ∀(tx:FU) (s:Θ) (σ:St) (H:Hp) (Q:VK),FY X tx σ H s->t σ H Q->ε (model X.prog X.w) X.A (eval e X.env) (EP X tx σ Q) X.xe s
def PT(X:Cx)(e:Φ)(t:TT):Prop:=
 ∀(tx:FU) (s:Θ) (σ:St) (H:Hp) (Q:Bool->Hp->Prop),FY X tx σ H s->t σ H Q->ε (model X.prog X.w) X.A (isTrue e X.env (eval e X.env)) (TP X tx σ Q) X.xe s
def PW(X:Cx)(e:Φ)(t:TT):Prop:=
 ∀(whole:Sem Γ) (tx:FU) (s:Θ) (σ:St) (H:Hp) (Q:Bool->Hp->Prop),FY X tx σ H s->t σ H Q->ε (model X.prog X.w) X.A (isTrue e X.env whole) (TP X tx σ Q) X.xe s
theorem PW.pt{X:Cx}{e:Φ}{t:TT}(h:PW X e t):PT X e t:=h _
def PA(X:Cx)(es:List Φ)(t:TA):Prop:=
 ∀(pos:Pos) (tx:FU) (s:Θ) (σ:St) (H:Hp) (Q:List V->Hp->Prop),FY X tx σ H s->t σ H Q->ε (model X.prog X.w) X.A (spliced (backTo pos (θ es X.env))) (AP X tx σ Q) X.xe s
def PS(X:Cx)(st:δ)(t:TS):Prop:=
 ∀(tx:FU) (s:Θ) (σ:St) (H:Hp) (D:GP),FY X tx σ H s->t D σ H->ε (model X.prog X.w) X.A (exec st X.env) (SP X tx D) X.xe s
def HY(X:Cx)(st:List δ)(t:TS):Prop:=
 ∀(tx:FU) (s:Θ) (σ:St) (H:Hp) (D:GP),FY X tx σ H s->t D σ H->ε (model X.prog X.w) X.A (execs st X.env) (SP X tx D) X.xe s
theorem qB{α:Type}{t:Sem α}{Q Q':α->Θ->Prop}{M:Model}{A:Around}{E:FS}{s:Θ}(h:ε M A t Q E s)(hQ:∀a s,Q a s->Q' a s):ε M A t Q' E s:=JF h hQ fun _ _ x=>x
section
variable{X:Cx}
def Bb(i:Nat):TE:=fun σ H Q=>∃v,σ[i]? =some (some v)/\Q v H
def tC(v:V):TE:=fun _ H Q=>Q v H
theorem Cm{i:Nat}{x:Str}{pos:Pos}(hN:X.N[i]? =some x)(hv:Ba X.env.scope x)(hd:(x==("__debug__":Str))=false:=by decide)(hcd:(x==("__classdict__":Str))=false:=by decide):PE X (.Name x pos) (Bb i):=by
 intro tx s σ H Q I h;obtain⟨v,e,h⟩:=h;obtain⟨m,hn,hl⟩:=I.loc;obtain⟨u,r,l⟩:=hl i x v hN e hv;have fin:EP X tx σ Q u s:=⟨v,H,I,r,h⟩
 rcases l with⟨hk,hm⟩|⟨hk,c,hc,hcell⟩
 ·exact wpAny_Name (wpAny_loadName_local I.ok.kind hk hn hm fin) hd
 ·rcases hk with hk|hk
  ·exact wpAny_Name (wpAny_loadName_cell I.ok.kind hk hc hcell fin) hd
  ·exact wpAny_Name (wpAny_loadName_free I.ok.kind hk hc hcell fin hcd) hd
theorem B1{i j pos}:PE X (.Constant (.int i) j pos) (tC (.int i)):=fun _ _ _ H _ I h=>wpAny_Constant_int ⟨.int i,H,I.tok _,⟨_,rfl⟩,h⟩
theorem Cz{b j pos}:PE X (.Constant (.bool b) j pos) (tC (.bl b)):=fun _ _ _ H _ I h=>Constant_bool ⟨.bl b,H,I,rfl,h⟩
theorem Ch{j pos}:PE X (.Constant .none j pos) (tC .non):=fun _ _ _ H _ I h=>Constant_none ⟨.non,H,I,rfl,h⟩
theorem BD{x j pos}:PE X (.Constant (.str x) j pos) (tC (.str x)):=fun _ _ _ H _ I h=>Calls.Constant_str ⟨.str x,H,I.tok _,⟨_,rfl⟩,h⟩
def Gl(X:Cx)(x:Str):Prop:=X.env.kindOf x=some .globalImplicit
theorem ik{E:FS}{tx:FU}{s:Θ}{σ:St}{H:Hp}{x:Str}{u:Γ}{pos:Pos}{Q:FS}(I:FY X tx σ H s)(hg:Gl X x)(hm:X.mg x=some u)(h:Q u s)
  (hd:(x==("__debug__":Str))=false:=by decide):ε (model X.prog X.w) X.A (eval (.Name x pos) X.env) Q E s:=
 Calls.Name_function_global I.ok.kind hg (Calls.loadGlobal_global (by rw[I.ok.glob];exact I.mod.glob.keeps I.bk) hm h) hd
theorem Zo{E:FS}{tx:FU}{s:Θ}{σ:St}{H:Hp}{x:Str}{u:Γ}{pos:Pos}{Q:FS}(I:FY X tx σ H s)(hg:Gl X x)(hm:X.mg x=none)(hv:bootBuiltins x=some u)(h:Q u s)
  (hn:x≠"__name__":=by decide)(hd:(x==("__debug__":Str))=false:=by decide):ε (model X.prog X.w) X.A (eval (.Name x pos) X.env) Q E s:=by
 obtain⟨mb,h1,h2⟩:=I.mod.blt;exact Calls.Name_function_global I.ok.kind hg (Calls.loadGlobal_builtin (by rw[I.ok.glob];exact I.mod.glob.keeps I.bk) hm (by rw[I.ok.blt];exact h1.keeps I.bk) ((h2 x hn).trans hv) h) hd
theorem AH{x:Str}{v:V}{u:Γ}{pos:Pos}(hg:Gl X x)(hm:X.mg x=some u)(r:F5 v u)(hd:(x==("__debug__":Str))=false:=by decide):PE X (.Name x pos) (tC v):=
 fun _ _ _ H _ I h=>ik I hg hm ⟨v,H,I,r,h⟩ hd
theorem yX{x:Str}{v:V}{u:Γ}{pos:Pos}(hg:Gl X x)(hm:X.mg x=none)(hv:bootBuiltins x=some u)(r:F5 v u)(hn:x≠"__name__":=by decide)(hd:(x==("__debug__":Str))=false:=by decide):PE X (.Name x pos) (tC v):=
 fun _ _ _ H _ I h=>Zo I hg hm hv ⟨v,H,I,r,h⟩ hn hd
variable{a b:Φ}{ta tb:TE}{pos:Pos}
def PC(X:Cx)(op:CmpOp)(a b:Φ)(t:TE):Prop:=
 ∀(tx:FU) (s:Θ) (σ:St) (H:Hp) (Q:VK),FY X tx σ H s->t σ H Q->
  ε (model X.prog X.w) X.A (eval a X.env) (fun v s₁=>ε (model X.prog X.w) X.A (eval b X.env) (fun u s₂=>ε (model X.prog X.w) X.A (compareOp op v u) (EP X tx σ Q) X.xe s₂) X.xe s₁) X.xe s
def tB(t:TE):TT:=fun σ H Q=>t σ H fun x H1=>∃c,x= .bl c/\Q c H1
theorem BT{op:CmpOp}{t:TE}(h:PC X op a b t)(h1:behindInMarks op b=false:=by first|exact nobehind _ (by decide) (by decide)|rfl):PT X (.Compare a [op] [b] pos) (tB t):=by
 intro tx s σ H Q I hw;refine wpAny_isTrue_Compare1 (qB (h tx s σ H _ I hw) fun v s1 h1=>qB h1 fun u s2 h2=>qB h2 fun c s3 zq=>?_) h1
 obtain⟨x,H1,I1,r1,q1⟩:=zq;obtain⟨d,rfl,q⟩:=q1;cases r1;exact Ec ⟨H1,I1,q⟩
theorem BV{e:Φ}{t:TE}(h:PE X e t)(he:∀whole,isTrue e X.env whole=(do let v <- whole;standAt e.pos;holding [v] (truthy v)):=by intro _;rfl):PT X e (tB t):=by
 intro tx s σ H Q I hw;refine isTrue_plain (qB (h tx s σ H _ I hw) fun v s1 zq=>?_) (he _)
 obtain⟨x,H1,I1,r1,q1⟩:=zq;obtain⟨d,rfl,q⟩:=q1;cases r1;exact Ec ⟨H1,I1,q⟩
variable{tA tB':TT}{rest:List Φ}
def Cv(t u:TT):TT:=fun σ H Q=>t σ H fun c H1=>if c=true then u σ H1 Q else Q false H1
def C7(t u:TT):TT:=fun σ H Q=>t σ H fun c H1=>if c=true then Q true H1 else u σ H1 Q
def Cb(t:TT):TT:=fun σ H Q=>t σ H fun c H1=>Q (!c) H1
theorem yy(ha:PT X a tA):PW X (.BoolOp .And [a] pos) tA:=by
 intro wh tx s σ H Q I h;refine isTrue_and (qB (ha tx s σ H Q I h) fun c s1 e=>?_)
 cases c with
 |true=>exact isTrue_and_nil e
 |false=>exact e
theorem BB(ha:PT X a tA):PW X (.BoolOp .Or [a] pos) tA:=by
 intro wh tx s σ H Q I h;refine isTrue_or (qB (ha tx s σ H Q I h) fun c s1 e=>?_)
 cases c with
 |false=>exact isTrue_or_nil e
 |true=>exact e
theorem Bc(ha:PT X a tA)(hb:PW X (.BoolOp .And (b::rest) pos) tB'):PW X (.BoolOp .And (a::b::rest) pos) (Cv tA tB'):=by
 intro wh tx s σ H Q I h;refine isTrue_and (qB (ha tx s σ H _ I h) fun c s1 zq=>?_)
 obtain⟨H1,I1,q1⟩:=zq;cases c with
 |true=>exact hb wh tx s1 σ H1 Q I1 q1
 |false=>exact⟨H1,I1,q1⟩
theorem CW(ha:PT X a tA)(hb:PW X (.BoolOp .Or (b::rest) pos) tB'):PW X (.BoolOp .Or (a::b::rest) pos) (C7 tA tB'):=by
 intro wh tx s σ H Q I h;refine isTrue_or (qB (ha tx s σ H _ I h) fun c s1 zq=>?_)
 obtain⟨H1,I1,q1⟩:=zq;cases c with
 |true=>exact⟨H1,I1,q1⟩
 |false=>exact hb wh tx s1 σ H1 Q I1 q1
theorem Ca(ha:PT X a tA):PT X (.UnaryOp .Not a pos) (Cb tA):=by
 intro tx s σ H Q I h;exact isTrue_not (ha tx s σ H (fun c H1=>Q (!c) H1) I h)
def xk(ta tb:TE):TE:=fun σ H Q=>ta σ H fun x H1=>∃c,x= .bl c/\if c=true then tb σ H1 Q else Q (.bl false) H1
def wT(ta:TE):TE:=fun σ H Q=>ta σ H fun x H1=>∃c,x= .bl c/\Q (.bl (!c)) H1
theorem BA{op}{t:TE}(h:PE X a t):PE X (.BoolOp op [a] pos) t:=fun tx s σ H Q I hw=>BoolOp_one (h tx s σ H Q I hw)
theorem AT(ha:PE X a ta)(hb:PE X (.BoolOp .And (b::rest) pos) tb):PE X (.BoolOp .And (a::b::rest) pos) (xk ta tb):=by
 intro tx s σ H Q I h;refine BoolOp_and (qB (ha tx s σ H _ I h) fun v s1 zq=>?_)
 obtain⟨x,H1,I1,r1,q1⟩:=zq;obtain⟨c,rfl,q1⟩:=q1;cases r1;refine Ec ?_
 cases c with
 |true=>exact hb tx s1 σ H1 Q I1 q1
 |false=>exact⟨.bl false,H1,I1,rfl,q1⟩
theorem BR(ha:PE X a ta):PE X (.UnaryOp .Not a pos) (wT ta):=by
 intro tx s σ H Q I h;refine UnaryOp_ (qB (ha tx s σ H _ I h) fun v s1 zq=>?_)
 obtain⟨x,H1,I1,r1,q1⟩:=zq;obtain⟨c,rfl,q1⟩:=q1;cases r1;exact not_of (Ec ⟨.bl (!c),H1,I1,rfl,q1⟩)
def De(t:TT)(ta tb:TE):TE:=fun σ H Q=>t σ H fun c H1=>if c=true then ta σ H1 Q else tb σ H1 Q
theorem vJ{c:Φ}(hc:PT X c tA)(ha:PE X a ta)(hb:PE X b tb):PE X (.IfExp c a b pos) (De tA ta tb):=by
 intro tx s σ H Q I h;refine wpAny_IfExp (qB (hc tx s σ H _ I h) fun d s1 zq=>?_)
 obtain⟨H1,I1,q1⟩:=zq;cases d with
 |true=>exact ha tx s1 σ H1 Q I1 q1
 |false=>exact hb tx s1 σ H1 Q I1 q1
end
def F6(K:ι)(H:Hp)(a:Δ)(xs:List V):Prop:=
 Rd H a (.lst xs)\/
  ∃(o:Obj) (its:Array Γ) (n:Nat),K.lookup a=some o/\o.cls= .type "list"/\o.dict=none/\o.data= .seq its n/\its.size<=ζ/\F3 xs its.toList
def F7(K:ι)(H:Hp)(a:Δ)(xs:List V):Prop:=
 Rd H a (.tup xs)\/
  ∃(o:Obj) (its:Array Γ) (n:Nat),K.lookup a=some o/\o.cls= .type "tuple"/\o.data= .seq its n/\its.size<=ζ/\F3 xs its.toList
def DA:Γ->Option V
 | .none=>some .non
 | .bool b=>some (.bl b)
 | .int i _=>some (.int i)
 | .str x _=>some (.str x)
 | .bytes b _=>some (.byt b)
 | .float b _=>some (.flt b)
 | .ref a=>some (.ref a)
 | .type n=>some (.ty n)
 |_=>none
theorem F5.abs{x:V}{u:Γ}(r:F5 x u):DA u=some x:=by
 cases x with
 |non=>cases r;rfl
 |bl _=>cases r;rfl
 |int _=>obtain⟨t,rfl⟩:=r;rfl
 |str _=>obtain⟨t,rfl⟩:=r;rfl
 |byt _=>obtain⟨t,rfl⟩:=r;rfl
 |flt _=>obtain⟨t,rfl⟩:=r;rfl
 |ref _=>cases r;rfl
 |ty _=>cases r;rfl
theorem F5.inj{x y:V}{u:Γ}(r:F5 x u)(q:F5 y u):x=y:=JB (r.abs.symm.trans q.abs)
theorem F3.inj:∀{xs ys:List V} {us:List Γ},F3 xs us->F3 ys us->xs=ys
 :=by
 intro xs ys us h
 induction h generalizing ys with
 |nil=>intro g;cases g;rfl
 |cons r t ih=>intro g;cases g with
  |cons r' t'=>rw[r.inj r',ih t']
section
variable{X:Cx}{tx:FU}{σ:St}{H:Hp}{s:Θ}{a:Δ}{xs ys:List V}
theorem F6.of{K:ι}(h:H a=some (.lst xs)):F6 K H a xs:= .inl (.inl h)
theorem F7.of{K:ι}(h:H a=some (.tup xs)):F7 K H a xs:= .inl (.inl h)
theorem FY.list(I:FY X tx σ H s)(h:F6 X.K H a xs):∃its:List Γ,F3 xs its/\PlainL s.heap a its.toArray/\xs.length<=ζ:=by
 rcases h with h|⟨o,its,n,hk,hc,hd,hs,hz,r⟩
 ·obtain⟨z,its,n,r,e⟩:=h.ok I.hok
  exact⟨its,r,⟨_,n,e,rfl,rfl,rfl⟩,z⟩
 ·refine⟨its.toList,r,⟨o,n,I.kIn a o hk,hc,hd,by simpa using hs⟩,?_⟩
  have e:=r.length;simp only[Jn]at e;lia
theorem FY.tuple(I:FY X tx σ H s)(h:F7 X.K H a xs):∃its:List Γ,F3 xs its/\IsTup s.heap a its.toArray/\xs.length<=ζ:=by
 rcases h with h|⟨o,its,n,hk,hc,hs,hz,r⟩
 ·obtain⟨z,its,r,p⟩:=h.ok I.hok
  exact⟨its,r,p,z⟩
 ·refine⟨its.toList,r,⟨o,I.kIn a o hk,hc,n,by simpa using hs⟩,?_⟩
  have e:=r.length;simp only[Jn]at e;lia
theorem FY.list_inj(I:FY X tx σ H s)(h:F6 X.K H a xs)(h':F6 X.K H a ys):xs=ys:=by
 obtain⟨its,r,⟨o,n,e,_,_,d⟩,_⟩:=I.list h;obtain⟨its',r',⟨o',n',e',_,_,d'⟩,_⟩:=I.list h';rw[e]at e';cases e'
 rw[d]at d';injection d' with d1 _
 have:its=its':=by simpa using JX Array.toList d1
 subst this;exact r.inj r'
theorem FY.tuple_inj(I:FY X tx σ H s)(h:F7 X.K H a xs)(h':F7 X.K H a ys):xs=ys:=by
 obtain⟨its,r,⟨o,e,_,n,d⟩,_⟩:=I.tuple h;obtain⟨its',r',⟨o',e',_,n',d'⟩,_⟩:=I.tuple h';rw[e]at e';cases e'
 rw[d]at d';injection d' with d1 _
 have:its=its':=by simpa using JX Array.toList d1
 subst this;exact r.inj r'
end
abbrev Cx.wish(X:Cx)(E:FS):Cx:={X with xe:=E}
abbrev Cx.nox(X:Cx):Cx:=X.wish fun _ _=>False
theorem Cx.Ok.wish{X:Cx}(ok:X.Ok)(E:FS):(X.wish E).Ok:=
 ⟨ok.mod,ok.kind,ok.glob,ok.blt,ok.above,ok.inj,ok.has,ok.cab,ok.hd,ok.frames,ok.stk,ok.exf,ok.bs,ok.bsz,ok.noex,ok.exfs,ok.funs,ok.frf⟩
theorem Cx.Ok.unwish{X:Cx}{E:FS}(ok:(X.wish E).Ok):X.Ok:=
 ⟨ok.mod,ok.kind,ok.glob,ok.blt,ok.above,ok.inj,ok.has,ok.cab,ok.hd,ok.frames,ok.stk,ok.exf,ok.bs,ok.bsz,ok.noex,ok.exfs,ok.funs,ok.frf⟩
section
variable{X:Cx}{tx:FU}{σ:St}{H:Hp}{s:Θ}{E:FS}
theorem FY.wish(I:FY X tx σ H s)(E:FS):FY (X.wish E) tx σ H s:=⟨I.ok.wish E,I.os,I.bare,I.base,I.loc,I.cell,I.free,I.freeC,I.pin,I.hok,I.len⟩
theorem FY.unwish(I:FY (X.wish E) tx σ H s):FY X tx σ H s:=⟨I.ok.unwish,I.os,I.bare,I.base,I.loc,I.cell,I.free,I.freeC,I.pin,I.hok,I.len⟩
theorem SP.unwish{D:GP}{f:Flow}{s':Θ}(h:SP (X.wish E) tx D f s'):SP X tx D f s':=by
 cases f with
 |next=>obtain⟨σ',H',I,q⟩:=h;exact⟨σ',H',I.unwish,q⟩
 |brk=>obtain⟨σ',H',I,q⟩:=h;exact⟨σ',H',I.unwish,q⟩
 |cont=>obtain⟨σ',H',I,q⟩:=h;exact⟨σ',H',I.unwish,q⟩
 |ret u=>obtain⟨v,σ',H',I,r,q⟩:=h;exact⟨v,σ',H',I.unwish,r,q⟩
theorem HY.nox{st:List δ}{t:TS}(h:HY X.nox st t):HY X st t:=fun tx s σ H D I hw=>
 JF (h tx s σ H D (I.wish _) hw) (fun _ _ q=>q.unwish) fun _ _ z=>False.elim z
end
section
variable{X:Cx}{st:δ}{rest:List δ}{t u:TS}{e:Φ}{te:TE}{pos:Pos}
def xy:TS:=fun D σ H=>D.nx σ H
def io(t u:TS):TS:=fun D σ H=>t {D with nx:=u D} σ H
theorem Ag:HY X [] xy:=fun _ _ σ H _ I h=>wpAny_execs_nil ⟨σ,H,I,h⟩
theorem uU(h1:PS X st t)(h2:HY X rest u):HY X (st::rest) (io t u):=by
 intro tx s σ H D I h;refine wpAny_execs_cons (qB (h1 tx s σ H {D with nx:=u D} I h) fun f s1 q=>?_)
 cases f with
 |next=>
  obtain⟨σ',H',I',q⟩:=q;exact h2 tx s1 σ' H' D I' q
 |ret v=>exact q
 |brk=>exact q
 |cont=>exact q
theorem Aw(h1:PS X st t):HY X [st] t:=by
 intro tx s σ H D I h;refine wpAny_execs_cons (qB (h1 tx s σ H D I h) fun f s1 q=>?_)
 cases f with
 |next=>exact wpAny_execs_nil q
 |ret v=>exact q
 |brk=>exact q
 |cont=>exact q
def xc:TS:=fun D σ H=>D.ct σ H
theorem ng:PS X (.Continue pos) xc:=fun _ _ σ H _ I h=>wpAny_Continue ⟨σ,H,I,h⟩
theorem FY.quiet{tx:FU}{σ:St}{H:Hp}{s:Θ}(I:FY X tx σ H s):interactive X.env=false:=by simp [interactive,I.ok.kind]
def xz(te:TE):TS:=fun D σ H=>te σ H fun _ H1=>D.nx σ H1
theorem Ai(he:PE X e te)(hs:swapsWith e none pos.line X.env=pure false:=by rfl):PS X (.Expr e pos) (xz te):=by
 intro tx s σ H D I h;exact wpAny_Expr_any (qB (he tx s σ H _ I h) fun v s1 ⟨x,H1,I1,r1,q1⟩=>⟨σ,H1,I1,q1⟩) I.quiet hs
def Bl(te:TE):TS:=fun D σ H=>te σ H D.rt
theorem BC(he:PE X e te):PS X (.Return (some e) pos) (Bl te):=by
 intro tx s σ H D I h;exact wpAny_Return_some (qB (he tx s σ H _ I h) fun v s1 ⟨x,H1,I1,r1,q1⟩=>⟨x,σ,H1,I1,r1,q1⟩)
def Cp(c:TT)(t u:TS):TS:=fun D σ H=>c σ H fun b H1=>if b=true then t D σ H1 else u D σ H1
theorem CD{c:Φ}{a b:List δ}{tc:TT}(hc:PT X c tc)(ha:HY X a t)(hb:HY X b u):PS X (.If c a b pos) (Cp tc t u):=by
 intro tx s σ H D I h;refine wpAny_If (qB (hc tx s σ H _ I h) fun d s1 zq=>?_)
 obtain⟨H1,I1,q1⟩:=zq;cases d with
 |true=>exact ha tx s1 σ H1 D I1 q1
 |false=>exact hb tx s1 σ H1 D I1 q1
def sI:TS:=fun _ _ _=>False
theorem uz{sts:List δ}:HY X sts sI:=fun _ _ _ _ _ _ h=>h.elim
end
abbrev TG:=V->St->Hp->(St->Hp->Prop)->Prop
abbrev aX:=List V->St->Hp->(St->Hp->Prop)->Prop
def PG(X:Cx)(target:Φ)(t:TG):Prop:=
 ∀(tx:FU) (s:Θ) (σ:St) (H:Hp) (v:V) (u:Γ) (Q:St->Hp->Prop),FY X tx σ H s->F5 v u->t v σ H Q->
  ε (model X.prog X.w) X.A (assign target X.env u) (fun _ s'=>∃σ' H',FY X tx σ' H' s'/\Q σ' H') X.xe s
def oR(X:Cx)(ts:List Φ)(t:aX):Prop:=
 ∀(tx:FU) (s:Θ) (σ:St) (H:Hp) (vs:List V) (us:List Γ) (Q:St->Hp->Prop),FY X tx σ H s->F3 vs us->t vs σ H Q->
  ε (model X.prog X.w) X.A (assignInOrder ((assignEach ts X.env).map (·.2)) us) (fun _ s'=>∃σ' H',FY X tx σ' H' s'/\Q σ' H') X.xe s
abbrev gg:=V->V->V->Hp->(Hp->Prop)->Prop
def l6(X:Cx)(t:gg):Prop:=
 ∀(tx:FU) (s:Θ) (σ:St) (H:Hp) (o i v:V) (ov iv u:Γ) (Q:Hp->Prop),FY X tx σ H s->F5 o ov->F5 i iv->F5 v u->t o i v H Q->
  ε (model X.prog X.w) X.A (setItem ov iv u) (fun _ s'=>∃H',FY X tx σ H' s'/\Q H') X.xe s
abbrev uy:=V->V->Hp->VK->Prop
def BU(X:Cx)(op:Operator)(t:uy):Prop:=
 ∀(tx:FU) (s:Θ) (σ:St) (H:Hp) (x y:V) (v u:Γ) (Q:VK),FY X tx σ H s->F5 x v->F5 y u->t x y H Q->
  ε (model X.prog X.w) X.A (inplaceOp op v u) (EP X tx σ Q) X.xe s
section
variable{X:Cx}{pos:Pos}
def Zk(i:Nat):TG:=fun v σ H Q=>Q (σ.set i (some v)) H
theorem yZ{i:Nat}{x:Str}(hN:X.N.Nodup)(hi:X.N[i]? =some x)(hx:je X.env.scope x)(hf:X.fn x=true\/X.env.scope.names.lookup x=some .local:=by first|exact .inl rfl|exact .inr rfl|assumption):PG X (.Name x pos) (Zk i):=by
 intro tx s σ H v u Q I r h;exact wpAny_assign_Name (bS I hN hi hx r (fun s' I'=>⟨_,H,I',h⟩) hf)
def vC:aX:=fun vs σ H Q=>vs=[]/\Q σ H
def ke(t:TG)(u:aX):aX:=fun vs σ H Q=>∃v r,vs=v::r/\t v σ H fun σ' H'=>u r σ' H' Q
theorem Ap:oR X [] vC:=by
 intro tx s σ H vs us Q I r h;obtain⟨e,h⟩:=h;subst e;cases r;exact assignInOrder_nil ⟨σ,H,I,h⟩
theorem vm{e:Φ}{es:List Φ}{t:TG}{u:aX}(h1:PG X e t)(h2:oR X es u)
  (hs:(assignEach (e::es) X.env).map (·.2)=assign e X.env::(assignEach es X.env).map (·.2):=by rfl):oR X (e::es) (ke t u):=by
 intro tx s σ H vs us Q I r h;obtain⟨v,vr,e1,h⟩:=h;subst e1;cases r with
 |cons r rr=>
  rw[hs];refine assignInOrder_cons (qB (h1 tx s σ H _ _ _ I r h) fun _ s1 zq=>?_)
  obtain⟨σ1,H1,I1,q1⟩:=zq;exact h2 tx s1 σ1 H1 _ _ Q I1 rr q1
def rN(K:ι)(n:Nat)(t:aX):TG:=fun v σ H Q=>∃a xs,v= .ref a/\F7 K H a xs/\xs.length=n/\t xs σ H Q
theorem kQ{es:List Φ}{k:Nat}{t:aX}{n:Nat}(hc:X.calm=true)(h:oR X es t)
  (hn:(assignEach es X.env).length=n:=by rfl)(hst:(assignEach es X.env).findIdx? (·.1)=none:=by rfl):PG X (.Tuple es k pos) (rN X.K n t):=by
 intro tx s σ H v u Q I r hw;obtain⟨a,xs,e1,hq,hl,hw⟩:=hw;subst e1;cases r;obtain⟨its,rv,ht,hz⟩:=I.tuple hq;refine assign_Tuple_tuple (I.ok.hd hc) ht (by simp [hn,<- hl,rv.length]) hst fun h' hx=>?_
 have I1:FY X tx σ H {s with heap:=h'}:=I.kept (t':=s.toks) fun b o e=>hx b o (Jo (Ji e)) e
 exact h tx _ σ H xs _ Q I1 (by simpa using rv) hw
def AL(to ti:TE)(t:gg):TG:=fun v σ H Q=>to σ H fun o H1=>ti σ H1 fun i H2=>t o i v H2 fun H3=>Q σ H3
theorem BM{o i:Φ}{to ti:TE}{t:gg}(ho:PE X o to)(hi:PE X i ti)(hs:l6 X t)
  (ha:∀v,assign (.Subscript o i pos) X.env v=(do
   let ov <- holding [v] (eval o X.env)
   let iv <- holding [v,ov] (eval i X.env)
   standAt pos
   holding [v,ov,iv] (setItem ov iv v)
   release [v,ov,iv] []):=by intro _;rfl):PG X (.Subscript o i pos) (AL to ti t):=by
 intro tx s σ H v u Q I r h;rw[ha];refine Ja (JM (qB (ho tx s σ H _ I h) fun ov s1 zq=>?_))
 obtain⟨x,H1,I1,r1,q1⟩:=zq;refine Ja (JM (qB (hi tx s1 σ H1 _ I1 q1) fun iv s2 zq=>?_))
 obtain⟨y,H2,I2,r2,q2⟩:=zq;refine Ja (D7 (Ja (JM (qB (hs tx s2 σ H2 x y v ov iv u _ I2 r1 r2 r q2) fun _ s3 zq=>?_))))
 obtain⟨H3,I3,q3⟩:=zq;exact wpAny_release ⟨σ,H3,I3,q3⟩
def iK(te:TE)(g:TG):TS:=fun D σ H=>te σ H fun x H1=>g x σ H1 D.nx
theorem Cu{tg e:Φ}{te:TE}{g:TG}(he:PE X e te)(hg:PG X tg g)(hs:swapsWithSole [tg] e pos.line X.env=pure false:=by rfl)(hw:swappedStores [tg] e X.env=pure none:=by rfl)
  (h1:(assignEach [tg] X.env).map (·.2)=[assign tg X.env]:=by rfl):PS X (.Assign [tg] e pos) (iK te g):=by
 intro tx s σ H D I h;refine wpAny_Assign_stores (qB (he tx s σ H _ I h) fun v s1 zq=>?_) hs hw
 obtain⟨x,H1,I1,r1,q1⟩:=zq;rw[h1];exact qB (hg tx s1 σ H1 x v _ I1 r1 q1) fun _ s2 q=>q
theorem Bq{i:Nat}{x:Str}{e:Φ}{te:TE}{pos':Pos}(hN:X.N.Nodup)(hi:X.N[i]? =some x)(hx:je X.env.scope x)(he:PE X e te)(hs:swapsWith e (some (.Name x pos')) pos.line X.env=pure false:=by rfl)(hf:X.fn x=true\/X.env.scope.names.lookup x=some .local:=by first|exact .inl rfl|exact .inr rfl|assumption):
  PS X (.Assign [.Name x pos'] e pos) (iK te (Zk i)):=by
 intro tx s σ H D I h;refine wpAny_Assign_Name (qB (he tx s σ H _ I h) fun v s1 zq=>?_) hs
 obtain⟨y,H1,I1,r1,q1⟩:=zq;exact bS I1 hN hi hx r1 (fun s2 I2=>⟨_,H1,I2,q1⟩) hf
def Co(i j:Nat)(ta:TA):TS:=fun D σ H=>ta σ H fun vs H1=>∃v w,vs=[v,w]/\D.nx ((σ.set i (some v)).set j (some w)) H1
theorem B9{i j:Nat}{x y:Str}{a b:Φ}{ta:TA}{px py pt:Pos}{kt k2 pt2}(hc:X.calm=true)(hN:X.N.Nodup)(hi:X.N[i]? =some x)(hj:X.N[j]? =some y)(hij:i≠j)
  (hx:X.env.scope.names.lookup x=some .local)(hy:X.env.scope.names.lookup y=some .local)(ha:PA X [a,b] ta)
  (hw:swappedStores [.Tuple [.Name x px,.Name y py] kt pt] (.Tuple [a,b] k2 pt2) X.env=pure (some [x,y]))
  (hs:swapsWithSole [.Tuple [.Name x px,.Name y py] kt pt] (.Tuple [a,b] k2 pt2) pos.line X.env=pure false:=by rfl):
  PS X (.Assign [.Tuple [.Name x px,.Name y py] kt pt] (.Tuple [a,b] k2 pt2) pos) (Co i j ta):=by
 intro tx s σ H D I h;rw[exec_Assign_arm];refine Ja (D7 ?_)
 rw[hs];refine Ja (Jd ?_)
 rw[Jb (by decide)]
 refine Ja (Tuple_ (qB (ha _ tx s σ H _ I h) fun us s1 zq=>?_))
 obtain⟨vs,H1,I1,r1,q1⟩:=zq;obtain⟨v,w,e1,q1⟩:=q1;subst e1;obtain⟨u1,u2,rfl,rv,rw'⟩:∃u1 u2,us=[u1,u2]/\F5 v u1/\F5 w u2:=by
  cases r1 with
  |cons p q=>
   cases q with
   |cons p' q'=>
    cases q'
    exact⟨_,_,rfl,p,p'⟩
 refine DQ ?_ (by show 2<=ζ;decide)
 have I2:FY X tx σ H1 {s1 with heap:=s1.heap.push {cls:= .type "tuple",data:= .seq [u1,u2].toArray}}:=I1.kept (t':=s1.toks) fun b o e=>Jh _ e
 rw[hw];refine Ja (Jd ?_)
 show ε (model X.prog X.w) X.A (do rule "assign.swapped-stores";let items <- unpackItems (.ref s1.heap.objs.size) 2 none;assignInOrder [fun v=>bindName X.env y v,fun v=>bindName X.env x v] items.reverse;pure Flow.next) _ _ _
 refine Ja (DR (Ja (unpackItems_tuple (items:= #[u1,u2]) (I.ok.hd hc) (IsTup.new s1.heap _) fun h' hx'=>?_)))
 have I3:=I2.kept (h':=h') (t':=s1.toks) fun b o e=>hx' b o (Jo (Ji e)) e
 show ε _ _ (assignInOrder [fun v=>bindName X.env y v,fun v=>bindName X.env x v] [u2,u1] >>= fun _=>pure Flow.next) _ _ _
 refine Ja (assignInOrder_cons (wpAny_bindName (bS I3 hN hj (.inl hy) rw' (fun s2 I4=>?_) (.inr hy))))
 refine assignInOrder_cons (wpAny_bindName (bS I4 hN hi (.inl hx) rv (fun s3 I5=>assignInOrder_nil (Jd ?_)) (.inr hx)))
 rw[List.set_comm _ _ (Ne.symm hij)]at I5
 exact⟨_,H1,I5,q1⟩
def xu(to ti te:TE)(tget:V->V->Hp->VK->Prop)(tip:uy)(tset:gg):TS:=fun D σ H=>to σ H fun o H1=>ti σ H1 fun i H2=>tget o i H2 fun x H3=>te σ H3 fun y H4=>tip x y H4 fun z H5=>tset o i z H5 fun H6=>D.nx σ H6
def uY(X:Cx)(t:V->V->Hp->VK->Prop):Prop:=
 ∀(tx:FU) (s:Θ) (σ:St) (H:Hp) (o i:V) (ov iv:Γ) (Q:VK),FY X tx σ H s->F5 o ov->F5 i iv->t o i H Q->
  ε (model X.prog X.w) X.A (getItem ov iv) (EP X tx σ Q) X.xe s
theorem yt{o i e:Φ}{to ti te:TE}{tget:V->V->Hp->VK->Prop}{tip:uy}{tset:gg}{op:Operator}{tpos:Pos}(ho:PE X o to)(hi:PE X i ti)(hg:uY X tget)(he:PE X e te)(hp:BU X op tip)(hs:l6 X tset)
  (ha:∀ov iv new,augStore i ov iv new=(do holding [new,ov,iv] (setItem ov iv new);release [new,ov,iv] [];pure .next):=by intros;rfl):PS X (.AugAssign (.Subscript o i tpos) op e pos) (xu to ti te tget tip tset):=by
 intro tx s σ H D I h;refine wpAny_AugAssign_SubscriptAny (qB (ho tx s σ H _ I h) fun ov s1 zq=>?_) ha
 obtain⟨x1,H1,I1,r1,q1⟩:=zq;refine qB (hi tx s1 σ H1 _ I1 q1) fun iv s2 zq=>?_
 obtain⟨x2,H2,I2,r2,q2⟩:=zq;refine qB (hg tx s2 σ H2 x1 x2 ov iv _ I2 r1 r2 q2) fun old s3 zq=>?_
 obtain⟨x3,H3,I3,r3,q3⟩:=zq;refine qB (he tx s3 σ H3 _ I3 q3) fun v s4 zq=>?_
 obtain⟨x4,H4,I4,r4,q4⟩:=zq;refine qB (hp tx s4 σ H4 x3 x4 old v _ I4 r3 r4 q4) fun new s5 zq=>?_
 obtain⟨x5,H5,I5,r5,q5⟩:=zq;exact qB (hs tx s5 σ H5 x1 x2 x5 ov iv new _ I5 r1 r2 r5 q5) fun _ s6 ⟨H6,I6,q6⟩=>⟨σ,H6,I6,q6⟩
def DP(f:Int->Int->Int):uy:=fun x y H Q=>∃i j,x= .int i/\y= .int j/\Q (.int (f i j)) H
theorem Bi:BU X .Add (DP fun i j=>i+j):=by
 intro tx s σ H x y v u Q I r1 r2 h;obtain⟨i,j,e1,e2,q⟩:=h;subst e1;subst e2
 obtain⟨t,rfl⟩:=r1;obtain⟨t',rfl⟩:=r2;exact iadd_int ⟨.int _,H,I.tok _,⟨_,rfl⟩,q⟩
end
structure It where
 go:Nat->Hp->Prop
 yld:Nat->Hp->V->Hp->Prop
 stop:Nat->Hp->Prop
def Zx(X:Cx)(tx:FU)(H:Hp)(b:Δ):Prop:=
 H b=none/\b≠X.env.locals/\b∉X.fs/\(b∈X.ex\/X.s₀.heap.objs.size<=b)/\(∀x c,X.env.cells.lookup x=some c->c≠b)/\∀p∈X.pn++tx,p.1≠b
theorem FY.fpOk{X:Cx}{tx:FU}{σ:St}{H H':Hp}{s:Θ}{b:Δ}(I:FY X tx σ H s)(hb:s.heap.objs.size<=b)(hn:H' b=none):Zx X tx H' b:=by
 refine⟨hn,J3 (JL I.lt hb),I.nofs hb,.inr (JO I.sz hb),fun x c e z=>?_,fun p hp z=>?_⟩
 ·obtain⟨v,q⟩:=I.cell x c e
  exact absurd (JL q.lt (by rw[z];exact hb)) (J1 _)
 ·exact absurd (JL (Ji (I.pin p hp).1) (by rw[z];exact hb)) (J1 _)
structure HL(P:Ξ)(w:Ω)(K:ι)(tg:Φ)(J:It)(fp:List Δ)(it:Δ)(tn:Nat->Ψ->Prop):Prop where
 mem:it∈fp
 obj:∀i h,tn i h->∀b∈fp,∃o,h.get? b=some o/\∀v,o.data≠ .cell v
 keep:∀i h h',tn i h->(∀b∈fp,∀o,h.get? b=some o->h'.get? b=some o)->tn i h'
 item:∀(X:Cx),X.prog=P->X.w=w->X.K=K->X.calm=true->∀(i:Nat) (tx:FU) (s:Θ) (σ:St) (H:Hp) (E:FS),FY X tx σ H s->(∀b∈fp,Zx X tx H b)->tn i s.heap->J.go i H->
  ε (model P w) X.A (pyNext (.ref it)) (fun r s1=>∃u,r=some u/\
   ε (model P w) X.A (letOwnedTupleGo tg (.ref it) u) (fun _ s2=>∃x H',FY X tx σ H' s2/\F5 x u/\J.yld i H x H'/\tn (i+1) s2.heap/\∀b∈fp,H' b=none) E s1) E s
 done:∀(X:Cx),X.prog=P->X.w=w->X.K=K->X.calm=true->∀(i:Nat) (tx:FU) (s:Θ) (σ:St) (H:Hp) (E:FS),FY X tx σ H s->(∀b∈fp,Zx X tx H b)->tn i s.heap->J.stop i H->
  ε (model P w) X.A (pyNext (.ref it)) (fun r s1=>r=none/\FY X tx σ H s1) E s
 self:∀(A:Around) (i:Nat) (s:Θ) (Q:FS) (E:FS),tn i s.heap->Q (.ref it) s->ε (model P w) A (pyIter (.ref it)) Q E s
abbrev TI:=St->Hp->(It->Hp->Prop)->Prop
def C6(X:Cx)(tx:FU)(σ:St)(tg:Φ)(R:It->Hp->Prop)(itv:Γ)(s2:Θ):Prop:=
 ∃(it:Δ) (fp:List Δ) (tn:Nat->Ψ->Prop) (J:It) (H':Hp),itv= .ref it/\FY X tx σ H' s2/\HL X.prog X.w X.K tg J fp it tn/\tn 0 s2.heap/\(∀b∈fp,Zx X tx H' b)/\R J H'
def PI(X:Cx)(tg iter:Φ)(wi:TI):Prop:=
 ∀(tx:FU) (s:Θ) (σ:St) (H:Hp) (R:It->Hp->Prop),FY X tx σ H s->wi σ H R->
  ε (model X.prog X.w) X.A (eval iter X.env) (fun v s1=>ε (model X.prog X.w) X.A (pyIter v) (C6 X tx σ tg R) X.xe s1) X.xe s
theorem bX{M:Model}{A:Around}{E:FS}{s:Θ}{tg:Φ}{it:Δ}{u:Γ}{o:Obj}{n:String}{vs:Array Γ}{Q:Unit->Θ->Prop}(ho:s.heap.get? it=some o)(hc:o.cls= .type n)(hd:o.data= .fields vs)
    (hn:["enumerate","zip","dict_itemiterator","dict_reverseitemiterator","odict_iterator","itertools.zip_longest","itertools.pairwise"].contains n=false)(hQ:Q () s):ε M A (letOwnedTupleGo tg (.ref it) u) Q E s:=by
  unfold letOwnedTupleGo;cases tg<;>first
    |exact Jd hQ
    |(cases u<;>first
        |exact Jd hQ
        | (refine Ja (wpAny_load ho ?_)
           rw[hc,hd]
           show ε M A (if(["enumerate","zip","dict_itemiterator","dict_reverseitemiterator","odict_iterator","itertools.zip_longest","itertools.pairwise"].contains n&&vs[0]? ==some (rawInt _))=true then _ else _) Q E s
           rw[Jb (by intro h;rw[hn,DS]at h;cases h)]
           exact Jd hQ))
def jM(K:ι)(a:Δ):It:=
 ⟨fun i H=>∃xs x,F6 K H a xs/\xs[i]? =some x,fun i H x H'=>H'=H/\∀xs,F6 K H a xs->xs[i]? =some x,fun i H=>∃xs,F6 K H a xs/\xs.length<=i⟩
def jg(K:ι)(a:Δ):It:=
 ⟨fun i H=>∃xs x,F7 K H a xs/\xs[i]? =some x,fun i H x H'=>H'=H/\∀xs,F7 K H a xs->xs[i]? =some x,fun i H=>∃xs,F7 K H a xs/\xs.length<=i⟩
def jE(lo:Int)(n:Nat):It:=⟨fun i _=>i<n,fun i H x H'=>H'=H/\x= .int (lo+i),fun i _=>n<=i⟩
theorem iX{P:Ξ}{w:Ω}{K:ι}{tg:Φ}(a it:Δ):HL P w K tg (jM K a) [it] it (fun i h=>h.IsListIter it a i) where
 mem:=by simp
 obj:=fun i h st b hb=>by
  have e:b=it:=by simpa using hb
  subst e;obtain⟨o,e,c,d⟩:=st
  exact⟨o,e,fun v z=>by rw[d]at z;cases z⟩
 keep:=fun i h h' st k=>st.at fun o e=>k it (by simp) o e
 item:=by
  intro X hP hw hK hc i tx s σ H E I hf st hg;subst hP hw hK;obtain⟨xs,x,hq,hx⟩:=hg;obtain⟨its,rv,p,hz⟩:=I.list hq;obtain⟨u,hu,ru⟩:=rv.get hx;obtain⟨f0,f1,f2,f3,f4,f5⟩:=hf it (by simp)
  refine wpAny_pyNext_list_item st p.isList (x:=u) (by simpa using hu) fun h' st' sb=>?_
  have I1:FY X tx σ H {s with heap:=h'}:=I.turned (t':=s.toks) (fun b o hb e=>(sb.2 b hb).trans e) f0 f1 f3 f4 f5
  obtain⟨o,e,c,d⟩:=id st'
  exact⟨u,rfl,bX (s:={s with heap:=h'}) e c d (by decide) ⟨x,H,I1,ru,⟨rfl,fun ys hy=>by rw[I.list_inj hy hq];exact hx⟩,st',fun b hb=>(hf b hb).1⟩⟩
 done:=by
  intro X hP hw hK hc i tx s σ H E I hf st hg;subst hP hw hK;obtain⟨xs,hq,hx⟩:=hg;obtain⟨its,rv,p,hz⟩:=I.list hq;obtain⟨f0,f1,f2,f3,f4,f5⟩:=hf it (by simp)
  have hl:=rv.length;exact wpAny_pyNext_list_end (I.ok.hd hc) st p.isList (by simp;lia) fun h' eb=>⟨rfl,I.turned (t':=s.toks) (fun b o hb e=>eb b o hb e) f0 f1 f3 f4 f5⟩
 self:=fun _ _ _ _ _ st h=>wpAny_pyIter_listiter st h
theorem gP{P:Ξ}{w:Ω}{K:ι}{tg:Φ}(a it:Δ):HL P w K tg (jg K a) [it] it (fun i h=>h.IsTupleIter it a i) where
 mem:=by simp
 obj:=fun i h st b hb=>by
  have e:b=it:=by simpa using hb
  subst e;obtain⟨o,e,c,d⟩:=st
  exact⟨o,e,fun v z=>by rw[d]at z;cases z⟩
 keep:=fun i h h' st k=>st.at fun o e=>k it (by simp) o e
 item:=by
  intro X hP hw hK hc i tx s σ H E I hf st hg;subst hP hw hK;obtain⟨xs,x,hq,hx⟩:=hg;obtain⟨its,rv,p,hz⟩:=I.tuple hq;obtain⟨u,hu,ru⟩:=rv.get hx;obtain⟨f0,f1,f2,f3,f4,f5⟩:=hf it (by simp)
  refine wpAny_pyNext_tuple_item st (show s.heap.IsTuple a its.toArray from p) (x:=u) (by simpa using hu) fun h' st' sb=>?_
  have I1:FY X tx σ H {s with heap:=h'}:=I.turned (t':=s.toks) (fun b o hb e=>(sb.2 b hb).trans e) f0 f1 f3 f4 f5
  obtain⟨o,e,c,d⟩:=id st'
  exact⟨u,rfl,bX (s:={s with heap:=h'}) e c d (by decide) ⟨x,H,I1,ru,⟨rfl,fun ys hy=>by rw[I.tuple_inj hy hq];exact hx⟩,st',fun b hb=>(hf b hb).1⟩⟩
 done:=by
  intro X hP hw hK hc i tx s σ H E I hf st hg;subst hP hw hK;obtain⟨xs,hq,hx⟩:=hg;obtain⟨its,rv,p,hz⟩:=I.tuple hq;obtain⟨f0,f1,f2,f3,f4,f5⟩:=hf it (by simp)
  have hl:=rv.length;exact wpAny_pyNext_tuple_end (I.ok.hd hc) st (show s.heap.IsTuple a its.toArray from p) (by simp;lia) fun h' eb=>⟨rfl,I.turned (t':=s.toks) (fun b o hb e=>eb b o hb e) f0 f1 f3 f4 f5⟩
 self:=fun _ _ _ _ _ st h=>wpAny_pyIter_tupleiter st h
theorem rH{P:Ξ}{w:Ω}{K:ι}{tg:Φ}(it:Δ)(lo:Int)(n:Nat):HL P w K tg (jE lo n) [it] it (fun i h=>IsRangeIter h it (lo+(i:Nat)*1) ((n:Int)-(i:Nat)) 1) where
 mem:=by simp
 obj:=fun i h st b hb=>by
  have e:b=it:=by simpa using hb
  subst e
  exact⟨_,st,fun v z=>by
   have z':Data.fields _=Data.cell v:=z
   cases z'⟩
 keep:=fun i h h' st k=>k it (by simp) _ st
 item:=by
  intro X hP hw hK hc i tx s σ H E I hf st hg;subst hP hw hK;obtain⟨f0,f1,f2,f3,f4,f5⟩:=hf it (by simp)
  have W:=Walks.range (prog:=X.prog) (w:=X.w) (I.ok.hd hc) it lo 1 n
  refine W.item i s _ _ hg st fun v h' tk hv st' kk=>?_
  obtain⟨t,rfl⟩:=hv;have I1:FY X tx σ H {s with heap:=h',toks:=tk}:=I.turned (fun b o hb e=>kk b o (by simpa using hb) e) f0 f1 f3 f4 f5
  refine⟨_,rfl,bX (s:={s with heap:=h',toks:=tk}) (n:="range_iterator") st' rfl rfl (by decide) ⟨.int (lo+i),H,I1,⟨t,?_⟩,⟨rfl,rfl⟩,st',fun b hb=>(hf b hb).1⟩⟩
  rw[Int.mul_one]
 done:=by
  intro X hP hw hK hc i tx s σ H E I hf st hg;subst hP hw hK;obtain⟨f0,f1,f2,f3,f4,f5⟩:=hf it (by simp)
  exact wpAny_pyNext_range_end (I.ok.hd hc) st (by have:n<=i:=hg;lia) fun h' eb=>⟨rfl,I.turned (t':=s.toks) (fun b o hb e=>eb b o hb e) f0 f1 f3 f4 f5⟩
 self:=fun _ _ _ _ _ st h=>FB st h
section
variable{X:Cx}{tg:Φ}
def wM(K:ι)(tl:TE):TI:=fun σ H R=>tl σ H fun x H1=>∃a,x= .ref a/\(∃xs,F6 K H1 a xs)/\R (jM K a) H1
def Bw(K:ι)(tl:TE):TI:=fun σ H R=>tl σ H fun x H1=>∃a,x= .ref a/\(∃xs,F7 K H1 a xs)/\R (jg K a) H1
theorem AK{l:Φ}{tl:TE}(hl:PE X l tl):PI X tg l (wM X.K tl):=by
 intro tx s σ H R I h;refine qB (hl tx s σ H _ I h) fun v s1 zq=>?_
 obtain⟨x,H1,I1,r1,q1⟩:=zq;obtain⟨a,e,⟨xs,hq⟩,q⟩:=q1;subst e;cases r1;obtain⟨its,rv,p,hz⟩:=I1.list hq;refine EO p.isList ?_
 refine⟨s1.heap.objs.size,[s1.heap.objs.size],_,_,H1,rfl,I1.kept (t':=s1.toks) fun b o e=>Jh _ e,iX a _,⟨_,Jp _ rfl,rfl,rfl⟩,fun b hb=>?_,q⟩
 have e:b=s1.heap.objs.size:=by simpa using hb
 subst e;exact I1.fpOk (Jf _) (I1.hok.fresh (Jf _))
theorem Ct{l:Φ}{tl:TE}(hl:PE X l tl):PI X tg l (Bw X.K tl):=by
 intro tx s σ H R I h;refine qB (hl tx s σ H _ I h) fun v s1 zq=>?_
 obtain⟨x,H1,I1,r1,q1⟩:=zq;obtain⟨a,e,⟨xs,hq⟩,q⟩:=q1;subst e;cases r1;obtain⟨its,rv,p,hz⟩:=I1.tuple hq;refine Ex (show s1.heap.IsTuple a its.toArray from p) ?_
 refine⟨s1.heap.objs.size,[s1.heap.objs.size],_,_,H1,rfl,I1.kept (t':=s1.toks) fun b o e=>Jh _ e,gP a _,⟨_,Jp _ rfl,rfl,rfl⟩,fun b hb=>?_,q⟩
 have e:b=s1.heap.objs.size:=by simpa using hb
 subst e;exact I1.fpOk (Jf _) (I1.hok.fresh (Jf _))
theorem mn{tx:FU}{σ:St}{H:Hp}{s:Θ}{R:It->Hp->Prop}{E:FS}{lo hi:Int}{t u v:Tok}{tk:Nat}(I:FY X tx σ H s)(h1: -(2 ^ 62)<=lo)(h2:lo<2 ^ 62)(h3: -(2 ^ 62)<=hi)(h4:hi<2 ^ 62)
  (q:R (jE lo (hi-lo).toNat) H):ε (model X.prog X.w) X.A (pyIter (.ref s.heap.objs.size)) (C6 X tx σ tg R) E {s with heap:=s.heap.push {cls:= .type "range",data:= .fields #[.int lo t,.int hi u,.int 1 v]},toks:=tk}:=by
 refine wpAny_pyIter_range (IsRange.new ..) (small_one h1 h2 h3 h4) ?_
 have I1:FY X tx σ H {s with heap:=s.heap.push {cls:= .type "range",data:= .fields #[.int lo t,.int hi u,.int 1 v]},toks:=tk}:=I.kept fun b o e=>Jh _ e
 refine⟨(s.heap.push {cls:= .type "range",data:= .fields #[.int lo t,.int hi u,.int 1 v]}).objs.size,[(s.heap.push {cls:= .type "range",data:= .fields #[.int lo t,.int hi u,.int 1 v]}).objs.size],_,_,H,rfl,
  I1.kept (t':=tk) fun b o e=>Jh _ e,rH _ lo (hi-lo).toNat,?_,fun b hb=>?_,q⟩
 ·have e1:lo+((0:Nat):Int)*1=lo:=by simp
  have e2:(((hi-lo).toNat:Nat):Int)-((0:Nat):Int)=γ.Range.rangeSize lo hi 1:=by rw[rangeSize_one];split<;>lia
  show IsRangeIter _ _ (lo+((0:Nat):Int)*1) ((((hi-lo).toNat:Nat):Int)-((0:Nat):Int)) 1
  rw[e1,e2];exact Jp _ rfl
 ·have e:b=(s.heap.push {cls:= .type "range",data:= .fields #[.int lo t,.int hi u,.int 1 v]}).objs.size:=by simpa using hb
  subst e;exact I1.fpOk (Jf _) (I1.hok.fresh (Jf _))
def xt(ta:TA):TI:=fun σ H R=>ta σ H fun vs H1=>∃j:Int,vs=[.int j]/\ -(2 ^ 62)<=j/\j<2 ^ 62/\R (jE 0 j.toNat) H1
def wF(ta:TA):TI:=fun σ H R=>ta σ H fun vs H1=>∃i j:Int,vs=[.int i,.int j]/\(-(2 ^ 62)<=i/\i<2 ^ 62/\ -(2 ^ 62)<=j/\j<2 ^ 62)/\R (jE i (j-i).toNat) H1
theorem tY{a:Φ}{ta:TA}{p pos:Pos}(hg:Gl X "range")(hm:X.mg "range"=none)(ha:PA X [a] ta)(hs:θ [a] X.env=[(false,eval a X.env)]:=by rfl):PI X tg (.Call (.Name "range" p) [a] [] pos) (xt ta):=by
 intro tx s σ H R I h;refine Call_ (Zo I hg hm boot_range (EH (qB (ha pos tx s σ H _ I h) fun us s1 zq=>?_) hs rfl))
 obtain⟨vs,H1,I1,r1,q1⟩:=zq;obtain⟨j,e,q1,q2,q⟩:=q1;subst e;cases r1 with
 |cons r rr=>
  cases rr;obtain⟨t,rfl⟩:=r;exact call_range_1 (mn I1 (by lia) (by lia) q1 q2 (by simpa using q))
theorem tR{a b:Φ}{ta:TA}{p pos:Pos}(hg:Gl X "range")(hm:X.mg "range"=none)(ha:PA X [a,b] ta)(hs:θ [a,b] X.env=[(false,eval a X.env),(false,eval b X.env)]:=by rfl)(hs2:θ [b] X.env=[(false,eval b X.env)]:=by rfl):
  PI X tg (.Call (.Name "range" p) [a,b] [] pos) (wF ta):=by
 intro tx s σ H R I h;refine Call_ (Zo I hg hm boot_range (EH (qB (ha pos tx s σ H _ I h) fun us s1 zq=>?_) (by rw[hs,hs2]) (by rw[hs2];rfl)))
 obtain⟨vs,H1,I1,r1,q1⟩:=zq;obtain⟨i,j,e,⟨q1,q2,q3,q4⟩,q⟩:=q1;subst e;cases r1 with
 |cons r rr=>
  cases rr with
  |cons r' rr=>
   cases rr;obtain⟨t,rfl⟩:=r;obtain⟨t',rfl⟩:=r';exact call_range_2 (mn I1 q1 q2 q3 q4 q)
def BX(wi:TI)(g:TG)(tb:TS):TS:=fun D σ H=>wi σ H fun J H1=>∃W:Nat->Nat->St->Hp->Prop,(∃m,W 0 m σ H1)/\∀i m σ H,W i m σ H->
 (J.stop i H/\D.nx σ H)\/(J.go i H/\∃N:St->Hp->Prop,(∀σ' H',N σ' H'->∃m',m'<m/\W (i+1) m' σ' H')/\∀x H',J.yld i H x H'->g x σ H' fun σ2 H2=>tb {D with nx:=N,ct:=N,bk:=D.nx} σ2 H2)
def ZX(fp:List Δ)(h:Ψ):List (Δ×Obj):=fp.filterMap fun b=>(h.get? b).map fun o=>(b,o)
theorem Zp{fp:List Δ}{h:Ψ}{b:Δ}{o:Obj}(hb:b∈fp)(e:h.get? b=some o):(b,o)∈ZX fp h:=List.mem_filterMap.mpr ⟨b,hb,by rw[e];rfl⟩
theorem i3{fp:List Δ}{h:Ψ}{p:Δ×Obj}(hp:p∈ZX fp h):p.1∈fp/\h.get? p.1=some p.2:=by
 obtain⟨b,hb,e⟩:=List.mem_filterMap.mp hp;cases q:h.get? b with
 |none=>rw[q]at e;cases e
 |some o=>
  rw[q]at e;have e':(b,o)=p:=JB e
  subst e'
  exact⟨hb,q⟩
theorem FY.pinned{tx:FU}{σ:St}{H:Hp}{s:Θ}{fp:List Δ}(I:FY X tx σ H s)(hf:∀b∈fp,Zx X tx H b)(ho:∀b∈fp,∃o,s.heap.get? b=some o/\∀v,o.data≠ .cell v):FY X (tx++ZX fp s.heap) σ H s:=
 I.pins_of fun p hp=>(JC.mp hp).elim (fun z=>I.pin p (J8 _ z)) fun z=>by
  obtain⟨hb,e⟩:=i3 z;obtain⟨f0,f1,f2,_⟩:=hf p.1 hb;obtain⟨o,e',d⟩:=ho p.1 hb;rw[e]at e';cases e'
  exact⟨e,f0,f1,f2,d⟩
theorem FY.unpinned{tx pl:FU}{σ:St}{H:Hp}{s:Θ}(I:FY X (tx++pl) σ H s):FY X tx σ H s:=I.pins_of fun p hp=>I.pin p (J8 _ (E9 _ hp))
theorem BE{iter:Φ}{body:List δ}{wi:TI}{g:TG}{tb:TS}{pos:Pos}(hp:PassesOwn (model X.prog X.w) X.A X.env X.xe)(hc:X.calm=true)(hi:PI X tg iter wi)(hg:PG X tg g)(hb:HY X body tb)
  (hs:∀x,foldedSetIterable iter X.env x=pure x:=by intro _;rfl):PS X (.For tg iter body [] pos) (BX wi g tb):=by
 intro tx s σ H D I h;refine wpAny_For (qB (hi tx s σ H _ I h) fun v s1 h1=>qB h1 fun itv s2 h2=>?_) hs
 obtain⟨it,fp,tn,J,H2,e,I2,T,st2,f2,W,⟨m0,w0⟩,turn⟩:=h2;subst e;have stat:∀{H':Hp},(∀b∈fp,H' b=none)->∀b∈fp,Zx X tx H' b:=fun hn b hb=>⟨hn b hb,(f2 b hb).2⟩
 refine codeAny_forLoop_any (fun n s'=>∃i σ' H',FY X tx σ' H' s'/\tn i s'.heap/\(∀b∈fp,H' b=none)/\W i n σ' H') ?_ m0 ⟨0,σ,H2,I2,st2,fun b hb=>(f2 b hb).1,w0⟩
 rintro n s3 ⟨i,σ3,H3,I3,st3,fr3,w3⟩
 rcases turn i n σ3 H3 w3 with⟨stop,qn⟩|⟨go,N,hN,step⟩
 ·refine Fb hp (qB (T.done X rfl rfl rfl hc i tx s3 σ3 H3 X.xe I3 (stat fr3) st3 stop) fun r s4 zq=>?_)
  obtain⟨hr,I4⟩:=zq;subst hr;exact wpAny_execs_nil ⟨σ3,H3,I4,qn⟩
 ·refine Fb hp (qB (T.item X rfl rfl rfl hc i tx s3 σ3 H3 X.xe I3 (stat fr3) st3 go) fun r s4 zq=>?_)
  obtain⟨u,hr,h4⟩:=zq;subst hr;refine Fb hp (qB h4 fun _ s5 zq=>?_)
  obtain⟨x,H5,I5,r5,y5,st5,fr5⟩:=zq;have I5':=I5.pinned (stat fr5) (T.obj _ _ st5);refine Fb hp (qB (hg _ s5 σ3 H5 x u _ I5' r5 (step x H5 y5)) fun _ s6 zq=>?_)
  obtain⟨σ6,H6,I6,q6⟩:=zq;refine Fb hp (qB (hb _ s6 σ6 H6 _ I6 q6) fun f s7 q7=>?_)
  have again:∀{σ7:St} {H7:Hp},FY X (tx++ZX fp s5.heap) σ7 H7 s7->N σ7 H7->∃m,m<n/\∃i σ' H',FY X tx σ' H' s7/\tn i s7.heap/\(∀b∈fp,H' b=none)/\W i m σ' H':=fun{σ7 H7} I7 n7=>by
   obtain⟨m',hm,w7⟩:=hN σ7 H7 n7;refine⟨m',hm,i+1,σ7,H7,I7.unpinned,T.keep _ _ _ st5 fun b hb o e=>(I7.pin (b,o) (J8 _ (J8 _ (Zp hb e)))).1,fun b hb=>?_,w7⟩
   obtain⟨o,e,d⟩:=T.obj _ _ st5 b hb
   exact(I7.pin (b,o) (J8 _ (J8 _ (Zp hb e)))).2.1
  cases f with
  |next=>obtain⟨σ7,H7,I7,n7⟩:=q7;exact again I7 n7
  |cont=>obtain⟨σ7,H7,I7,n7⟩:=q7;exact again I7 n7
  |brk=>obtain⟨σ7,H7,I7,q7⟩:=q7;exact⟨σ7,H7,I7.unpinned,q7⟩
  |ret v=>obtain⟨x7,σ7,H7,I7,r7,q7⟩:=q7;exact⟨x7,σ7,H7,I7.unpinned,r7,q7⟩
end
theorem ZE{K:ι}{a:Δ}{xs:List V}{g:TG}{tb:TS}{D:GP}{σ:St}{H:Hp}(Pv:Nat->St->Hp->Prop)(h0:Pv 0 σ H)(hl:∀i σ H,i<=xs.length->Pv i σ H->F6 K H a xs)
  (hs:∀i x σ H,xs[i]? =some x->Pv i σ H->g x σ H fun σ2 H2=>tb {D with nx:=Pv (i+1),ct:=Pv (i+1),bk:=D.nx} σ2 H2)(hd:∀σ H,Pv xs.length σ H->D.nx σ H):
  ∃W:Nat->Nat->St->Hp->Prop,(∃m,W 0 m σ H)/\∀i m σ H,W i m σ H->
   ((jM K a).stop i H/\D.nx σ H)\/((jM K a).go i H/\∃N:St->Hp->Prop,(∀σ' H',N σ' H'->∃m',m'<m/\W (i+1) m' σ' H')/\∀x H',(jM K a).yld i H x H'->g x σ H' fun σ2 H2=>tb {D with nx:=N,ct:=N,bk:=D.nx} σ2 H2):=by
 refine⟨fun i m σ H=>m=xs.length-i/\i<=xs.length/\Pv i σ H,⟨xs.length,by simp,Jz _,h0⟩,?_⟩
 rintro i m σ H ⟨rfl,hi,p⟩
 have q:=hl i σ H hi p
 by_cases hlt:i<xs.length
 ·refine .inr ⟨⟨xs,xs[i],q,by simp [hlt]⟩,Pv (i+1),fun σ' H' p'=>⟨xs.length-(i+1),by lia,rfl,hlt,p'⟩,fun x H' y=>?_⟩
  obtain⟨e,y⟩:=y;subst e;exact hs i x σ _ (y xs q) p
 ·have e:i=xs.length:=by lia
  subst e;exact .inl ⟨⟨xs,q,Jf _⟩,hd σ H p⟩
theorem oh{K:ι}{a:Δ}{xs:List V}{g:TG}{tb:TS}{D:GP}{σ:St}{H:Hp}(Pv:Nat->St->Hp->Prop)(h0:Pv 0 σ H)(hl:∀i σ H,i<=xs.length->Pv i σ H->F7 K H a xs)
  (hs:∀i x σ H,xs[i]? =some x->Pv i σ H->g x σ H fun σ2 H2=>tb {D with nx:=Pv (i+1),ct:=Pv (i+1),bk:=D.nx} σ2 H2)(hd:∀σ H,Pv xs.length σ H->D.nx σ H):
  ∃W:Nat->Nat->St->Hp->Prop,(∃m,W 0 m σ H)/\∀i m σ H,W i m σ H->
   ((jg K a).stop i H/\D.nx σ H)\/((jg K a).go i H/\∃N:St->Hp->Prop,(∀σ' H',N σ' H'->∃m',m'<m/\W (i+1) m' σ' H')/\∀x H',(jg K a).yld i H x H'->g x σ H' fun σ2 H2=>tb {D with nx:=N,ct:=N,bk:=D.nx} σ2 H2):=by
 refine⟨fun i m σ H=>m=xs.length-i/\i<=xs.length/\Pv i σ H,⟨xs.length,by simp,Jz _,h0⟩,?_⟩
 rintro i m σ H ⟨rfl,hi,p⟩
 have q:=hl i σ H hi p
 by_cases hlt:i<xs.length
 ·refine .inr ⟨⟨xs,xs[i],q,by simp [hlt]⟩,Pv (i+1),fun σ' H' p'=>⟨xs.length-(i+1),by lia,rfl,hlt,p'⟩,fun x H' y=>?_⟩
  obtain⟨e,y⟩:=y;subst e;exact hs i x σ _ (y xs q) p
 ·have e:i=xs.length:=by lia
  subst e;exact .inl ⟨⟨xs,q,Jf _⟩,hd σ H p⟩
theorem Qn{lo:Int}{n:Nat}{g:TG}{tb:TS}{D:GP}{σ:St}{H:Hp}(Pv:Nat->St->Hp->Prop)(h0:Pv 0 σ H)
  (hs:∀i σ H,i<n->Pv i σ H->g (.int (lo+i)) σ H fun σ2 H2=>tb {D with nx:=Pv (i+1),ct:=Pv (i+1),bk:=D.nx} σ2 H2)(hd:∀σ H,Pv n σ H->D.nx σ H):
  ∃W:Nat->Nat->St->Hp->Prop,(∃m,W 0 m σ H)/\∀i m σ H,W i m σ H->
   ((jE lo n).stop i H/\D.nx σ H)\/((jE lo n).go i H/\∃N:St->Hp->Prop,(∀σ' H',N σ' H'->∃m',m'<m/\W (i+1) m' σ' H')/\∀x H',(jE lo n).yld i H x H'->g x σ H' fun σ2 H2=>tb {D with nx:=N,ct:=N,bk:=D.nx} σ2 H2):=by
 refine⟨fun i m σ H=>m=n-i/\i<=n/\Pv i σ H,⟨n,by simp,Jz _,h0⟩,?_⟩
 rintro i m σ H ⟨rfl,hi,p⟩
 by_cases hlt:i<n
 ·refine .inr ⟨hlt,Pv (i+1),fun σ' H' p'=>⟨n-(i+1),by lia,rfl,hlt,p'⟩,fun x H' y=>?_⟩
  obtain⟨e,y⟩:=y;subst e y;exact hs i σ _ hlt p
 ·have e:i=n:=by lia
  subst e;exact .inl ⟨Jf _,hd σ H p⟩
abbrev R2:=V->V->Hp->VK->Prop
def zw(X:Cx)(f:Γ->Γ->Sem Γ)(r:R2):Prop:=
 ∀(tx:FU) (s:Θ) (σ:St) (H:Hp) (x y:V) (v u:Γ) (Q:VK),FY X tx σ H s->F5 x v->F5 y u->r x y H Q->
  ε (model X.prog X.w) X.A (f v u) (EP X tx σ Q) X.xe s
def ze(X:Cx)(f:Γ)(r:List V->Hp->VK->Prop):Prop:=
 ∀(tx:FU) (s:Θ) (σ:St) (H:Hp) (xs:List V) (us:List Γ) (Q:VK),FY X tx σ H s->F3 xs us->r xs H Q->
  ε (model X.prog X.w) X.A (call f us) (EP X tx σ Q) X.xe s
def jG(r:R2)(ta tb:TE):TE:=fun σ H Q=>ta σ H fun x H1=>tb σ H1 fun y H2=>r x y H2 Q
def rI(C:Int->Int->Prop)(g:Int->Int->V):R2:=fun x y H Q=>∃i j,x= .int i/\y= .int j/\C i j/\Q (g i j) H
def jb(g:Int->Int->V):R2:=fun x y H Q=>∃i j,x= .int i/\y= .int j/\Q (g i j) H
section
variable{X:Cx}{a b:Φ}{ta tb:TE}{pos:Pos}
theorem wv(ha:PE X a ta)(hb:PE X b tb){tx:FU}{s:Θ}{σ:St}{H:Hp}{R:V->V->Hp->Prop}(I:FY X tx σ H s)
  (h:ta σ H fun x H1=>tb σ H1 fun y H2=>R x y H2){Q:FS}{f:Γ->Γ->Sem Γ}
  (hf:∀v u s2 x y H2,FY X tx σ H2 s2->F5 x v->F5 y u->R x y H2->ε (model X.prog X.w) X.A (f v u) Q X.xe s2):
  ε (model X.prog X.w) X.A (eval a X.env) (fun v s₁=>ε (model X.prog X.w) X.A (eval b X.env) (fun u s₂=>ε (model X.prog X.w) X.A (f v u) Q X.xe s₂) X.xe s₁) X.xe s:=by
 refine qB (ha tx s σ H _ I h) fun v s1 zq=>?_
 obtain⟨x,H1,I1,r1,q1⟩:=zq;refine qB (hb tx s1 σ H1 _ I1 q1) fun u s2 zq=>?_
 obtain⟨y,H2,I2,r2,q2⟩:=zq;exact hf v u s2 x y H2 I2 r1 r2 q2
theorem CO{op:Operator}{r:R2}(ho:zw X (binaryOp op) r)(ha:PE X a ta)(hb:PE X b tb):PE X (.BinOp a op b pos) (jG r ta tb):=by
 intro tx s σ H Q I h;exact wpAny_BinOp (wv ha hb I h fun v u s2 x y H2 I2 rx ry q=>ho tx s2 σ H2 x y v u Q I2 rx ry q)
theorem wO{f:Γ->Γ->Sem Γ}{C:Int->Int->Prop}{g:Int->Int->Int}
  (rule:∀(i j:Int) (t u:Tok) (s:Θ) (Q:FS) (E:FS),C i j->Q (.int (g i j) s.toks) {s with toks:=s.toks+1}->ε (model X.prog X.w) X.A (f (.int i t) (.int j u)) Q E s):
  zw X f (rI C fun i j=> .int (g i j)):=by
 intro tx s σ H x y v u Q I rx ry h;obtain⟨i,j,rfl,rfl,hc,q⟩:=h;obtain⟨t,rfl⟩:=rx;obtain⟨t',rfl⟩:=ry;exact rule i j t t' s _ _ hc ⟨.int (g i j),H,I.tok _,⟨_,rfl⟩,q⟩
theorem BI{f:Γ->Γ->Sem Γ}{g:Int->Int->Int}
  (rule:∀(i j:Int) (t u:Tok) (s:Θ) (Q:FS) (E:FS),Q (.int (g i j) s.toks) {s with toks:=s.toks+1}->ε (model X.prog X.w) X.A (f (.int i t) (.int j u)) Q E s):
  zw X f (jb fun i j=> .int (g i j)):=by
 intro tx s σ H x y v u Q I rx ry h;obtain⟨i,j,rfl,rfl,q⟩:=h;obtain⟨t,rfl⟩:=rx;obtain⟨t',rfl⟩:=ry;exact rule i j t t' s _ _ ⟨.int (g i j),H,I.tok _,⟨_,rfl⟩,q⟩
theorem pN{f:Γ->Γ->Sem Γ}{g:Int->Int->Bool}
  (rule:∀(i j:Int) (t u:Tok) (s:Θ) (Q:FS) (E:FS),Q (.bool (g i j)) s->ε (model X.prog X.w) X.A (f (.int i t) (.int j u)) Q E s):
  zw X f (jb fun i j=> .bl (g i j)):=by
 intro tx s σ H x y v u Q I rx ry h;obtain⟨i,j,rfl,rfl,q⟩:=h;obtain⟨t,rfl⟩:=rx;obtain⟨t',rfl⟩:=ry;exact rule i j t t' s _ _ ⟨.bl (g i j),H,I,rfl,q⟩
def Du(i j:Int):Prop:=0<j/\j<1073741824
def DF(i j:Int):Prop:=0<=j/\j<=1000000/\i.natAbs<2 ^ 64
def II(i j:Int):Prop:=(-(2 ^ 64)<i/\i<2 ^ 64)\/(-(2 ^ 64)<j/\j<2 ^ 64)
theorem II.ok{i j:Int}(h:II i j):IntMulOk i j:=by
 rcases h with⟨h1,h2⟩|⟨h1,h2⟩
 ·exact .of_left (intBits_le_64 h1 h2)
 ·exact .of_right (intBits_le_64 h1 h2)
theorem qC:zw X (binaryOp .Add) (jb fun i j=> .int (i+j)):=BI fun _ _ _ _ _ _ _ q=>add_int q
theorem zT:zw X (binaryOp .Sub) (jb fun i j=> .int (i-j)):=BI fun _ _ _ _ _ _ _ q=>sub_int q
theorem Zs:zw X (binaryOp .Mult) (rI II fun i j=> .int (i*j)):=wO fun _ _ _ _ _ _ _ hc q=>mul_int q hc.ok
theorem bD:zw X (binaryOp .FloorDiv) (rI Du fun i j=> .int (i/j)):=wO fun i j _ _ _ _ _ hc q=>by
 have h1:(0:Int)<j:=hc.1
 have h2:j<1073741824:=hc.2
 exact floordiv_int (by lia) (by rw[Int.fdiv_eq_ediv_of_nonneg i (by lia)];exact q) (.inl (PyProof.noPylong_small (by lia)))
theorem zR:zw X (binaryOp .Mod) (rI (fun _ j=>0<j) fun i j=> .int (i%j)):=wO fun i j _ _ _ _ _ hc q=>by
 have h1:(0:Int)<j:=hc
 exact mod_int' (by lia) (by rw[Int.fmod_eq_emod_of_nonneg i (by lia)];exact q)
theorem AZ:zw X (binaryOp .Pow) (rI DF fun i j=> .int (i ^ j.toNat)):=wO fun _ _ _ _ _ _ _ hc q=>pow_int_small hc.1 hc.2.1 hc.2.2 q
end
def BF:V->V->Bool
 | .non,.non=>true| .non,.int _=>true| .int _,.non=>true| .non,.bl _=>true| .bl _,.non=>true| .non,.str _=>true| .str _,.non=>true
 | .int _,.int _=>true| .bl _,.bl _=>true| .str _,.str _=>true| .byt _,.byt _=>true
 | .int _,.str _=>true| .str _,.int _=>true| .bl _,.str _=>true| .str _,.bl _=>true
 |_,_=>false
def DJ:R2:=fun x y H Q=>BF x y=true/\Q (.bl (decide (x=y))) H
def DM:R2:=fun x y H Q=>BF x y=true/\Q (.bl (!decide (x=y))) H
theorem oX{i j:Int}:decide (V.int i=V.int j)=(i==j):=by
 rw[D8];simp
theorem tV{i j:Bool}:decide (V.bl i=V.bl j)=(i==j):=by
 rw[D8];simp
theorem oU{i j:Str}:decide (V.str i=V.str j)=(i==j):=by
 rw[D8];simp
theorem nO{i j:Array UInt8}:decide (V.byt i=V.byt j)=(i.toList==j.toList):=by
 rw[D8];cases i;cases j;simp
section
variable{X:Cx}{a b c:Φ}{ta tb tc:TE}{pos:Pos}
theorem qO{tx:FU}{σ:St}{H:Hp}{s:Θ}{Q:VK}{k k':Bool}(I:FY X tx σ H s)(q:Q (.bl k) H)(e:k=k'):EP X tx σ Q (.bool k') s:=by
 subst e
 exact⟨.bl k,H,I,rfl,q⟩
theorem zx:zw X (compareOp .Eq) DJ:=by
 intro tx s σ H x y v u Q I rx ry h;obtain⟨hs,q⟩:=h;cases x with
 |non=>
  cases rx;cases y with
  |non=>cases ry;exact PySem.EqNone.eq_none_none (qO I q (by simp))
  |bl j=>cases ry;exact PySem.EqNone.eq_none_bool (qO I q (by simp))
  |int j=>obtain⟨t',rfl⟩:=ry;exact PySem.EqNone.eq_none_int (qO I q (by simp))
  |str j=>obtain⟨t',rfl⟩:=ry;exact PySem.EqNone.eq_none_str (qO I q (by simp))
  |_=>exact absurd (show false=true from hs) JG
 |bl i=>
  cases rx;cases y with
  |non=>cases ry;exact PySem.EqNone.eq_bool_none (qO I q (by simp))
  |bl j=>cases ry;exact eq_bool (qO I q tV)
  |str j=>obtain⟨t',rfl⟩:=ry;exact PySem.EqMixed.eq_bool_str (qO I q (by simp))
  |_=>exact absurd (show false=true from hs) JG
 |int i=>
  obtain⟨t,rfl⟩:=rx;cases y with
  |non=>cases ry;exact PySem.EqNone.eq_int_none (qO I q (by simp))
  |int j=>obtain⟨t',rfl⟩:=ry;exact eq_int (qO I q oX)
  |str j=>obtain⟨t',rfl⟩:=ry;exact PySem.EqMixed.eq_int_str (qO I q (by simp))
  |_=>exact absurd (show false=true from hs) JG
 |str i=>
  obtain⟨t,rfl⟩:=rx;cases y with
  |non=>cases ry;exact PySem.EqNone.eq_str_none (qO I q (by simp))
  |bl j=>cases ry;exact PySem.EqMixed.eq_str_bool (qO I q (by simp))
  |int j=>obtain⟨t',rfl⟩:=ry;exact PySem.EqMixed.eq_str_int (qO I q (by simp))
  |str j=>obtain⟨t',rfl⟩:=ry;exact eq_str (qO I q oU)
  |_=>exact absurd (show false=true from hs) JG
 |byt i=>
  obtain⟨t,rfl⟩:=rx;cases y with
  |byt j=>obtain⟨t',rfl⟩:=ry;exact W.eq_bytes (qO I q nO)
  |_=>exact absurd (show false=true from hs) JG
 |_=>cases y<;>exact absurd (show false=true from hs) JG
theorem Z9:zw X (compareOp .NotEq) DM:=by
 intro tx s σ H x y v u Q I rx ry h;obtain⟨hs,q⟩:=h;cases x with
 |non=>
  cases rx;cases y with
  |non=>cases ry;exact PySem.EqNone.ne_none_none (qO I q (by simp))
  |bl j=>cases ry;exact PySem.EqNone.ne_none_bool (qO I q (by simp))
  |int j=>obtain⟨t',rfl⟩:=ry;exact PySem.EqNone.ne_none_int (qO I q (by simp))
  |str j=>obtain⟨t',rfl⟩:=ry;exact PySem.EqNone.ne_none_str (qO I q (by simp))
  |_=>exact absurd (show false=true from hs) JG
 |bl i=>
  cases rx;cases y with
  |non=>cases ry;exact PySem.EqNone.ne_bool_none (qO I q (by simp))
  |bl j=>cases ry;exact ne_bool (qO I q (JX not tV))
  |str j=>obtain⟨t',rfl⟩:=ry;exact PySem.EqMixed.ne_bool_str (qO I q (by simp))
  |_=>exact absurd (show false=true from hs) JG
 |int i=>
  obtain⟨t,rfl⟩:=rx;cases y with
  |non=>cases ry;exact PySem.EqNone.ne_int_none (qO I q (by simp))
  |int j=>obtain⟨t',rfl⟩:=ry;exact ne_int (qO I q (JX not oX))
  |str j=>obtain⟨t',rfl⟩:=ry;exact PySem.EqMixed.ne_int_str (qO I q (by simp))
  |_=>exact absurd (show false=true from hs) JG
 |str i=>
  obtain⟨t,rfl⟩:=rx;cases y with
  |non=>cases ry;exact PySem.EqNone.ne_str_none (qO I q (by simp))
  |bl j=>cases ry;exact PySem.EqMixed.ne_str_bool (qO I q (by simp))
  |int j=>obtain⟨t',rfl⟩:=ry;exact PySem.EqMixed.ne_str_int (qO I q (by simp))
  |str j=>obtain⟨t',rfl⟩:=ry;exact ne_str (qO I q (JX not oU))
  |_=>exact absurd (show false=true from hs) JG
 |byt i=>
  obtain⟨t,rfl⟩:=rx;cases y with
  |byt j=>obtain⟨t',rfl⟩:=ry;exact W.ne_bytes (qO I q (JX not nO))
  |_=>exact absurd (show false=true from hs) JG
 |_=>cases y<;>exact absurd (show false=true from hs) JG
theorem aT:zw X (compareOp .Lt) (jb fun i j=> .bl (decide (i<j))):=pN fun _ _ _ _ _ _ _ q=>lt_int q
theorem ZT:zw X (compareOp .LtE) (jb fun i j=> .bl (decide (i<=j))):=pN fun _ _ _ _ _ _ _ q=>le_int q
theorem wQ:zw X (compareOp .Gt) (jb fun i j=> .bl (decide (j<i))):=pN fun _ _ _ _ _ _ _ q=>gt_int q
theorem rj:zw X (compareOp .GtE) (jb fun i j=> .bl (decide (j<=i))):=pN fun _ _ _ _ _ _ _ q=>ge_int q
theorem zX:zw X (compareOp .Is) (fun x y H Q=>y= .non/\Q (.bl (decide (x= .non))) H):=by
 intro tx s σ H x y v u Q I rx ry h;obtain⟨rfl,q⟩:=h;cases ry;refine is_none_gen (qO I q ?_)
 cases x<;>first
  |(cases rx;rfl)
  |(obtain⟨t,rfl⟩:=rx;rfl)
theorem ZI:zw X (compareOp .IsNot) (fun x y H Q=>y= .non/\Q (.bl (!decide (x= .non))) H):=by
 intro tx s σ H x y v u Q I rx ry h;obtain⟨rfl,q⟩:=h;cases ry;refine isnot_none_gen (qO I q ?_)
 cases x<;>first
  |(cases rx;rfl)
  |(obtain⟨t,rfl⟩:=rx;rfl)
theorem qr(b:Φ){op:CmpOp}(h:op≠ .In:=by decide)(h2:op≠ .NotIn:=by decide):behindInMarks op b=false:=by
 have e1:(op==CmpOp.In)=false:=by cases op<;>first|rfl|exact absurd rfl h
 have e2:(op==CmpOp.NotIn)=false:=by cases op<;>first|rfl|exact absurd rfl h2
 cases b<;>simp [behindInMarks,e1,e2]
theorem yn{op:CmpOp}{r:R2}(ho:zw X (compareOp op) r)(ha:PE X a ta)(hb:PE X b tb)(hm:behindInMarks op b=false):PE X (.Compare a [op] [b] pos) (jG r ta tb):=by
 intro tx s σ H Q I h;exact wpAny_Compare1 (wv ha hb I h fun v u s2 x y H2 I2 rx ry q=>ho tx s2 σ H2 x y v u Q I2 rx ry q) hm
def gE(t:TE):TT:=fun σ H Q=>t σ H fun x H'=>∃k,x= .bl k/\Q k H'
theorem yr{op:CmpOp}{r:R2}(ho:zw X (compareOp op) r)(ha:PE X a ta)(hb:PE X b tb)(hm:behindInMarks op b=false):PT X (.Compare a [op] [b] pos) (gE (jG r ta tb)):=by
 intro tx s σ H Q I h;refine wpAny_isTrue_Compare1 (qB (ha tx s σ H _ I h) fun v s1 ⟨x,H1,I1,r1,q1⟩=>qB (hb tx s1 σ H1 _ I1 q1) fun u s2 ⟨y,H2,I2,r2,q2⟩=>
  qB (ho tx s2 σ H2 x y v u _ I2 r1 r2 q2) fun c s3 ⟨z,H3,I3,r3,k,e,q3⟩=>?_) hm
 subst e;cases r3;exact Ec ⟨H3,I3,q3⟩
def gH(r r':R2)(ta tb tc:TE):TE:=fun σ H Q=>ta σ H fun x H1=>tb σ H1 fun y H2=>r x y H2 fun z H3=>∃k,z= .bl k/\
 (if k=true then tc σ H3 fun w' H4=>r' y w' H4 Q else Q (.bl false) H3)
theorem vw{op op':CmpOp}{r r':R2}(ho:zw X (compareOp op) r)(ho':zw X (compareOp op') r')(ha:PE X a ta)(hb:PE X b tb)(hc:PE X c tc)
  (hm:lastMarks [op,op'] [b,c]=false:=by with_unfolding_all rfl):PE X (.Compare a [op,op'] [b,c] pos) (gH r r' ta tb tc):=by
 intro tx s σ H Q I h;refine Compare_chain (qB (ha tx s σ H _ I h) fun v s1 ⟨x,H1,I1,r1,q1⟩=>chain_link (qB (hb tx s1 σ H1 _ I1 q1) fun u s2 ⟨y,H2,I2,r2,q2⟩=>
  qB (ho tx s2 σ H2 x y v u _ I2 r1 r2 q2) fun d s3 ⟨z,H3,I3,r3,k,e,q3⟩=>?_)) hm
 subst e;cases r3;refine Ec ?_
 cases k with
 |false=>exact ite_ff ⟨.bl false,H3,I3,rfl,q3⟩
 |true=>exact ite_tt (chain_last (qB (hc tx s3 σ H3 _ I3 q3) fun w' s4 ⟨z',H4,I4,r4,q4⟩=>ho' tx s4 σ H4 y z' u w' Q I4 r2 r4 q4))
theorem uT{op op':CmpOp}{r r':R2}(ho:zw X (compareOp op) r)(ho':zw X (compareOp op') r')(ha:PE X a ta)(hb:PE X b tb)(hc:PE X c tc)
  (hm:lastMarks [op,op'] [b,c]=false:=by with_unfolding_all rfl):PT X (.Compare a [op,op'] [b,c] pos) (gE (gH r r' ta tb tc)):=by
 intro tx s σ H Q I h;refine isTrue_chain (qB (ha tx s σ H _ I h) fun v s1 ⟨x,H1,I1,r1,q1⟩=>test_link (qB (hb tx s1 σ H1 _ I1 q1) fun u s2 ⟨y,H2,I2,r2,q2⟩=>
  qB (ho tx s2 σ H2 x y v u _ I2 r1 r2 q2) fun d s3 ⟨z,H3,I3,r3,k,e,q3⟩=>?_)) hm
 subst e;cases r3;refine Ec ?_
 cases k with
 |false=>
  obtain⟨k',e',q'⟩:=q3;cases e';exact ite_ff ⟨H3,I3,q'⟩
 |true=>
  refine ite_tt (test_last (qB (hc tx s3 σ H3 _ I3 q3) fun w' s4 ⟨z',H4,I4,r4,q4⟩=>qB (ho' tx s4 σ H4 y z' u w' _ I4 r2 r4 q4) fun d' s5 zq=>?_))
  obtain⟨z2,H5,I5,r5,k2,e2,q5⟩:=zq;subst e2;cases r5;exact Ec ⟨H5,I5,q5⟩
theorem ZY:(ζ:Nat)<2 ^ 63:=by rw[JK];decide
theorem zN{x:V}{us:List Γ}(r:F3 [x] us):∃u,us=[u]/\F5 x u:=by
 cases r with
 |cons r1 r2=>cases r2;exact⟨_,rfl,r1⟩
theorem gx{x y:V}{us:List Γ}(r:F3 [x,y] us):∃u w',us=[u,w']/\F5 x u/\F5 y w':=by
 cases r with
 |cons r1 r2=>
  cases r2 with
  |cons r3 r4=>cases r4;exact⟨_,_,rfl,r1,r3⟩
theorem lD:ze X (.builtin "abs") (fun xs H Q=>∃i,xs=[.int i]/\Q (.int (if i<0 then -i else i)) H):=by
 intro tx s σ H xs us Q I r h;obtain⟨i,rfl,q⟩:=h;obtain⟨u,rfl,t,rfl⟩:=zN r;exact call_abs_int fun u tk=>⟨.int (if i<0 then -i else i),H,I.tok _,⟨_,rfl⟩,q⟩
theorem ZW(hc:X.calm=true):ze X (.builtin "max") (fun xs H Q=>∃i j,xs=[.int i,.int j]/\Q (.int (if j>i then j else i)) H):=by
 intro tx s σ H xs us Q I r h;obtain⟨i,j,rfl,q⟩:=h;obtain⟨u,w',rfl,⟨t,rfl⟩,⟨t',rfl⟩⟩:=gx r;refine max_two_ints (I.ok.hd hc) fun h' tk k=>⟨_,H,I.kept k,?_,q⟩
 by_cases hj:j>i
 ·rw[Jc hj,Jc hj];exact⟨_,rfl⟩
 ·rw[Jb hj,Jb hj];exact⟨_,rfl⟩
theorem Zd(hc:X.calm=true):ze X (.builtin "min") (fun xs H Q=>∃i j,xs=[.int i,.int j]/\Q (.int (if j<i then j else i)) H):=by
 intro tx s σ H xs us Q I r h;obtain⟨i,j,rfl,q⟩:=h;obtain⟨u,w',rfl,⟨t,rfl⟩,⟨t',rfl⟩⟩:=gx r;refine min_two_ints (I.ok.hd hc) fun h' tk k=>⟨_,H,I.kept k,?_,q⟩
 by_cases hj:j<i
 ·rw[Jc hj,Jc hj];exact⟨_,rfl⟩
 ·rw[Jb hj,Jb hj];exact⟨_,rfl⟩
theorem sn:ze X (.type "int") (fun xs H Q=>(∃i,xs=[.int i]/\Q (.int i) H)\/∃k,xs=[.bl k]/\Q (.int (if k then 1 else 0)) H):=by
 intro tx s σ H xs us Q I r h;rcases h with⟨i,rfl,q⟩|⟨k,rfl,q⟩
 ·obtain⟨u,rfl,t,rfl⟩:=zN r
  exact call_int_int ⟨.int i,H,I,⟨_,rfl⟩,q⟩
 ·obtain⟨u,rfl,r1⟩:=zN r
  cases r1;exact call_int_bool ⟨.int (if k then 1 else 0),H,I.tok _,⟨_,rfl⟩,q⟩
theorem ku:ze X (.builtin "ord") (fun xs H Q=>∃x,xs=[.str x]/\x.length=1/\Q (.int (x.cps.getD 0 0:Nat)) H):=by
 intro tx s σ H xs us Q I r h;obtain⟨x,rfl,hz,q⟩:=h;obtain⟨u,rfl,t,rfl⟩:=zN r;exact ord_of_one hz ⟨.int _,H,I.tok _,⟨_,rfl⟩,q⟩
end
structure HZ(h:Ψ)(x dx C:Δ)(mA:FT):Prop where
 obj:h.get? x=some (PySem.W.instObj C dx)
 ns:h.Ns1 dx mA
 ne:dx≠x
theorem uc{h:Ψ}{dx:Δ}{mA:FT}(n:h.Ns1 dx mA):∃od,h.get? dx=some od/\∀name,W.lookIn name od=some (mA name):=by
 obtain⟨o,es,ep,ho,hd,hk,_,hm⟩:=n;refine⟨o,ho,fun name=>?_⟩
 have e:=hm name;unfold nsFind findBy at e;rw[<- Array.find?_toList]at e;unfold W.lookIn;rw[hd]
 dsimp only
 split
 ·rename_i y q
  rw[q]at e;exact JX some e
 ·rename_i q
  rw[q]at e;have a:es.toList.any (·.refKey)=false:=by
   rw[List.any_eq_false];intro y hy;obtain⟨z,t,hkey⟩:=hk y (Array.mem_toList_iff.mp hy)
   simp [DictEntry.refKey,hkey]
  have a':¬es.toList.any (·.refKey)=true:=by rw[a];exact JG
  rw[Jb a'];exact JX some e
theorem HZ.look{h:Ψ}{x dx C:Δ}{mA:FT}(I:HZ h x dx C mA):∃od,W.InstAt h x (W.instObj C dx) C (some od)/\∀name,W.lookIn name od=some (mA name):=
 let⟨od,ho,hl⟩:=uc I.ns
 ⟨od,⟨I.obj,rfl,rfl,ho⟩,hl⟩
section
variable{prog:Ξ}{w:Ω}{A:Around}{E:FS}{s:Θ}{K:ι}{x dx C f:Δ}{mA:FT}{name:Str}{v:Γ}
theorem yj{expr:Bool}{Q:FS}(X:K.In s.heap)(I:HZ s.heap x dx C mA)(hg:W.plainGet K C name=true)(hh:W.hasDictIn K C=true)
  (ha:W.findIn K (.ref C) name=some none)(hv:mA name=some v)(hv':W.handedIn v=true)(h:Q v {s with toks:=s.toks+1}):
  ε (model prog w) A (getAttr (.ref x) name expr) Q E s:=by
 obtain⟨od,J,hl⟩:=I.look;exact W.get_value X J (W.plainGet_of hg).1 (W.findObj_own hh ha rfl (by rw[hl,hv])) hv' h
theorem vf{pl:Sem Bool}{Q:Γ×List Γ->Θ->Prop}(X:K.In s.heap)(I:HZ s.heap x dx C mA)(hg:W.plainGet K C name=true)
  (hf:W.findIn K (.ref C) name=some (some (.ref f)))(ht:W.isFn K (.ref f)=true)(hv:mA name=none)(h:Q (.ref f,[.ref x]) s):
  ε (model prog w) A (getMethod (.ref x) name pl) Q E s:=by
 obtain⟨od,J,hl⟩:=I.look;exact W.method_fn X J (W.plainGet_of hg).1 (W.plainGet_of hg).2 hf (J4.mp ht) (by show(W.lookIn name od).map (·.isSome)=some false;rw[hl,hv];rfl) h
theorem yv{ns:List Str}{Q:Unit->Θ->Prop}(X:K.In s.heap)(I:HZ s.heap x dx C mA)
  (hs:W.findIn K (.ref C) "__setattr__"=some (some (.builtin "object.__setattr__")))(hp:W.plainOver K C=true)(ht:W.takerIn K C name=some none)(hh:W.hasDictIn K C=true)
  (hw:PySem.Within mA ns)(hsz:ns.length<=ζ)
  (h:∀h',HZ h' x dx C (fun y=>if y=name then some v else mA y)->Ψ.SameBut dx s.heap h'->Q () {s with heap:=h',toks:=s.toks+2}):
  ε (model prog w) A (setAttr (.ref x) name v) Q E s:=by
 obtain⟨od,J,hl⟩:=I.look;refine W.set_plain X J hs (W.osa_open (s:={s with toks:=s.toks+1}) (r:=none) X J hp ht fun b=>?_)
 obtain⟨cd,hc,hd'⟩:=W.any_some hh;have hx:s.heap.get? x=some ⟨.ref C,some dx,.plain,#[]⟩:=I.obj
 refine Ja (Jd (Ja (Ja (wpAny_loadPart hx (Ja (W.Looks.here (s:={s with toks:=s.toks+1}) (W.looks_clsIn X hc) ?_))))))
 rw[hd'];refine Jd (a:=some dx) (Ja (Jd (Ja ?_)))
 refine wpAny_nsSet1 (s:={s with toks:=s.toks+1}) I.ns fun h' hn2 hs2=>?_
 obtain⟨oD,esD,epD,hoD,hdD,hcD⟩:=hn2.count (PySem.Within.cons name v hw)
 refine Ja (wpAny_lookBehind hoD (by rw[hdD];exact pastItsLine_dict (JO hcD (by rw[JQ];lia))) ?_)
 exact Jd (h _ ⟨(hs2.2 _ (Ne.symm I.ne)).trans I.obj,hn2,I.ne⟩ hs2)
theorem vS{R:Result->Θ->Prop}{vs:List Γ}{kw:List (Str×Γ)}(X:K.In s.heap)(hm:W.makesIn K C=true)
  (hi:W.findIn K (.ref C) "__init__"=some (some (.ref f)))(hf:W.typeIn K (.ref f)=some (.type "function"))
  (h:codeAny (model prog w) (A.under (.builtin "type.__call__" ⟨.ref C::vs,kw⟩)) (.call (.ref f) ⟨.ref (s.heap.objs.size+1)::vs,kw⟩) (W.InitBack (s.heap.objs.size+1) R)
   {s with heap:=(s.heap.push W.emptyDict).push (W.instObj C s.heap.objs.size)}):
  codeAny (model prog w) A (.call (.ref C) ⟨vs,kw⟩) R s:=by
 obtain⟨hh,g,d,t,os⟩:=s;exact W.make_core (W.makes_of X hm) (W.looks_findIn X hi) (fun self=>W.bind_fn X self hf) (.inl rfl) h
end
def Qj(f:Str)(v:V):List (Str×V)->List (Str×V)
 | []=>[(f,v)]
 |(g,x)::r=>if g=f then(g,v)::r else(g,x)::Qj f v r
theorem fI(f g:Str)(v:V):∀fs:List (Str×V),(Qj f v fs).lookup g=if g=f then some v else fs.lookup g
 | []=>by
  show List.lookup g [(f,v)]=_
  by_cases h:g=f
  ·have hb:(g==f)=true:=J4.mpr h
   simp only[List.lookup,hb,Jc h]
  ·have hb:(g==f)=false:=Ew.mpr h
   simp only[List.lookup,hb,Jb h]
 |(k,x)::r=>by
  have ih:=fI f g v r;rw[show Qj f v ((k,x)::r)=(if k=f then(k,v)::r else(k,x)::Qj f v r)from rfl]
  by_cases hk:k=f
  ·rw[Jc hk]
   by_cases h:g=k
   ·have hb:(g==k)=true:=J4.mpr h
    simp only[List.lookup,hb,Jc (h.trans hk)]
   ·have hb:(g==k)=false:=Ew.mpr h
    simp only[List.lookup,hb,Jb (fun e:g=f=>h (e.trans hk.symm))]
  ·rw[Jb hk]
   by_cases h:g=k
   ·have hb:(g==k)=true:=J4.mpr h
    simp only[List.lookup,hb,Jb (fun e:g=f=>hk (h.symm.trans e))]
   ·have hb:(g==k)=false:=Ew.mpr h
    simp only[List.lookup,hb];exact ih
theorem c8(f:Str)(v:V):∀fs:List (Str×V),f∈(Qj f v fs).map (·.1)/\∀g,g∈fs.map (·.1)->g∈(Qj f v fs).map (·.1)
 | []=>⟨by simp [Qj],fun g h=>by simp at h⟩
 |(k,x)::r=>by
  obtain⟨i1,i2⟩:=c8 f v r;rw[show Qj f v ((k,x)::r)=(if k=f then(k,v)::r else(k,x)::Qj f v r)from rfl]
  by_cases hk:k=f
  ·rw[Jc hk]
   subst hk
   exact⟨by simp,fun g h=>by simpa using h⟩
  ·rw[Jb hk]
   refine⟨?_,fun g h=>?_⟩
   ·rw[JU]
    exact JE _ i1
   ·rw[JU]at h⊢
    rcases Jl.mp h with e|e
    ·exact Jl.mpr (.inl e)
    ·exact JE _ (i2 g e)
theorem fG(f:Str)(v:V):∀fs:List (Str×V),(Qj f v fs).length<=fs.length+1
 | []=>by simp [Qj]
 |(k,x)::r=>by
  have ih:=fG f v r;rw[show Qj f v ((k,x)::r)=(if k=f then(k,v)::r else(k,x)::Qj f v r)from rfl]
  by_cases hk:k=f
  ·rw[Jc hk,JQ,JQ];lia
  ·rw[Jb hk,JQ,JQ];lia
theorem G0.some_of{v:V}{o:Option Γ}(r:G0 (some v) o):∃u,o=some u/\F5 v u:=by
 cases o with
 |none=>exact(show False from r).elim
 |some u=>exact⟨u,rfl,r⟩
theorem G0.none_of{o:Option Γ}(r:G0 none o):o=none:=by
 cases o with
 |none=>rfl
 |some u=>exact(show False from r).elim
theorem tI{v:V}{u:Γ}(r:F5 v u):W.handedIn u=true:=by
 cases v with
 |non=>cases(show u=Γ.none from r);rfl
 |bl b=>cases(show u=Γ.bool b from r);rfl
 |int i=>obtain⟨t,e⟩:=(show∃t,u=Γ.int i t from r);cases e;rfl
 |str x=>obtain⟨t,e⟩:=(show∃t,u=Γ.str x t from r);cases e;rfl
 |byt b=>obtain⟨t,e⟩:=(show∃t,u=Γ.bytes b t from r);cases e;rfl
 |flt b=>obtain⟨t,e⟩:=(show∃t,u=Γ.float b t from r);cases e;rfl
 |ref a=>cases(show u=Γ.ref a from r);rfl
 |ty n=>cases(show u=Γ.type n from r);rfl
section
variable{P:Ξ}{w:Ω}{H:Hp}{h:Ψ}{a C dx:Δ}{fs:List (Str×V)}
theorem fk(hok:Hv P w H h)(e:H a=some (.ins C dx fs)):∃mA,HZ h a dx C mA/\(∀f,G0 (fs.lookup f) (mA f))/\PySem.Within mA (fs.map (·.1))/\fs.length<=1000/\H dx=some (.own a):=by
 obtain⟨d,z,ne,ob,mA,n,r,q⟩:=(show Ge P w H h a (.ins C dx fs)from hok a _ e)
 exact⟨mA,⟨ob,n,ne⟩,r,q,z,d⟩
end
structure Ih(K:ι)(C:Δ):Prop where
 pg:PySem.W.plainGet K C Str.empty=true
 hd:PySem.W.hasDictIn K C=true
 po:PySem.W.plainOver K C=true
 sa:PySem.W.findIn K (.ref C) "__setattr__"=some (some (.builtin "object.__setattr__"))
theorem Ih.get{K:ι}{C:Δ}(c:Ih K C)(f:Str):W.plainGet K C f=true:=c.pg
def Gk(K:ι)(C:Δ)(f:Str):Prop:=PySem.W.findIn K (.ref C) f=some none
theorem Gk.taker{K:ι}{C:Δ}{f:Str}(n:Gk K C f):W.takerIn K C f=some none:=by
 unfold W.takerIn;rw[show W.findIn K (.ref C) f=some none from n]
 rfl
structure Iz(K:ι)(C:Δ)(m:Str)(f:Δ):Prop where
 at_:PySem.W.findIn K (.ref C) m=some (some (.ref f))
 fn:PySem.W.isFn K (.ref f)=true
 kp:PySem.W.keepIn K (.ref f)=true
section
variable{X:Cx}{tx:FU}{σ:St}{H:Hp}{s:Θ}{a C dx:Δ}{fs:List (Str×V)}{f:Str}{v:V}{A:Around}{E:FS}
theorem rG{b:Bool}{Q:FS}(I:FY X tx σ H s)(e:H a=some (.ins C dx fs))(c:Ih X.K C)(n:Gk X.K C f)(l:fs.lookup f=some v)
  (h:∀u s',FY X tx σ H s'->F5 v u->Q u s'):ε (model X.prog X.w) A (getAttr (.ref a) f b) Q E s:=by
 obtain⟨mA,O,r,_,_,_⟩:=fk I.hok e;obtain⟨u,hu,ru⟩:=G0.some_of (v:=v) (o:=mA f) (by rw[<- l];exact r f)
 exact yj I.kIn O (c.get f) c.hd n hu (tI ru) (h u _ (I.tok _) ru)
theorem gq{m:Str}{g:Δ}{pl:Sem Bool}{Q:Γ×List Γ->Θ->Prop}(I:FY X tx σ H s)(e:H a=some (.ins C dx fs))(c:Ih X.K C)(k:Iz X.K C m g)(l:fs.lookup m=none)
  (h:Q (.ref g,[.ref a]) s):ε (model X.prog X.w) A (getMethod (.ref a) m pl) Q E s:=by
 obtain⟨mA,O,r,_,_,_⟩:=fk I.hok e;have hn:mA m=none:=G0.none_of (by rw[<- l];exact r m)
 exact vf I.kIn O (c.get m) k.at_ k.fn hn h
theorem rf{y:V}{u:Γ}{Q:Unit->Θ->Prop}(I:FY X tx σ H s)(e:H a=some (.ins C dx fs))(c:Ih X.K C)(n:Gk X.K C f)(hl:fs.length<1000)(ry:F5 y u)
  (h:∀s',FY X tx σ (F2 H a (.ins C dx (Qj f y fs))) s'->Q () s'):ε (model X.prog X.w) A (setAttr (.ref a) f u) Q E s:=by
 obtain⟨mA,O,r,wi,_,ho⟩:=fk I.hok e;have hz:(fs.map (·.1)).length<=ζ:=by rw[Je,JK];lia
 refine yv I.kIn O c.sa c.po n.taker c.hd wi hz fun h' O' sb=>h _ ?_
 have hd:∃o,h'.get? dx=some o:=let⟨o,_,_,e',_⟩:=O'.ns;⟨o,e'⟩
 refine I.write (x:=a) (e:=dx) (by rw[e];exact True.intro) (.inr ho) (fun b q hb z=>(sb.2 b hb).trans z) hd ?_
 refine⟨by rw[qi O.ne];exact ho,?_,O.ne,O'.obj,_,O'.ns,fun g=>?_,fun g hg=>?_⟩
 ·have:=fG f y fs;lia
 ·show G0 ((Qj f y fs).lookup g) (if g=f then some u else mA g)
  rw[fI]
  by_cases q:g=f
  ·rw[Jc q,Jc q];exact ry
  ·rw[Jb q,Jb q];exact r g
 ·by_cases q:g=f
  ·rw[q];exact(c8 f y fs).1
  ·refine(c8 f y fs).2 g (wi g fun z=>hg ?_)
   show(if g=f then some u else mA g)=none
   rw[Jb q];exact z
theorem FY.made(I:FY X tx σ H s):FY X tx σ (F2 (F2 H s.heap.objs.size (.own (s.heap.objs.size+1))) (s.heap.objs.size+1) (.ins C s.heap.objs.size []))
  {s with heap:=(s.heap.push W.emptyDict).push (W.instObj C s.heap.objs.size)}:=by
 have e1:(s.heap.push W.emptyDict).get? s.heap.objs.size=some W.emptyDict:=Jp s.heap rfl
 have e2:((s.heap.push W.emptyDict).push (W.instObj C s.heap.objs.size)).get? (s.heap.objs.size+1)=some (W.instObj C s.heap.objs.size):=by
  have:=Jp (s.heap.push W.emptyDict) (o:=W.instObj C s.heap.objs.size) rfl
  rwa [JV]at this
 have e3:(s.heap.push W.emptyDict).Ns s.heap.objs.size (fun _=>none):=⟨W.emptyDict,#[],_,e1,rfl,(fun e he=>absurd he (by simp)),fun _=>rfl⟩
 have I1:=I.laid (a:=s.heap.objs.size) (o:= .own (s.heap.objs.size+1)) (h':=s.heap.push W.emptyDict) (t':=s.toks) (fun b u q=>Jh _ q) (Jf _) ⟨_,e1⟩
 refine I1.laid (a:=s.heap.objs.size+1) (o:= .ins C s.heap.objs.size []) (t':=s.toks) (fun b u q=>Jh _ q) (Nat.le_of_eq (JV _ _)) ?_
 have ne:s.heap.objs.size≠s.heap.objs.size+1:=Jo (D3 _)
 refine⟨by rw[qi ne,qb],Jz _,ne,e2,fun _=>none,(Ψ.Ns1.of_empty e3).at fun o q=>Jh _ q,fun _=>True.intro,fun y hy=>absurd rfl hy⟩
theorem Am{prog:Ξ}{w:Ω}{env:Env}{e:Φ}{f:Str}{pos:Pos}{s:Θ}{Q:FS}(hb:attributeBase e f env (eval e env)=eval e env)
  (h:ε (model prog w) A (eval e env) (fun o s₁=>ε (model prog w) A (getAttr o f true) Q E s₁) E s):ε (model prog w) A (eval (.Attribute e f pos) env) Q E s:=
 Attribute_any_ h (by rw[arm_eval_Attribute,hb])
end
section
variable{X:Cx}{tx:FU}{σ:St}{H:Hp}{s:Θ}{A:Around}{E:FS}{Q:FS}{c:Γ}{b:Bool}
inductive HB (K:ι) (H:Hp):V->Γ->Prop where
 |non:HB K H .non (.type "NoneType")
 |bl (x:Bool):HB K H (.bl x) (.type "bool")
 |int (i:Int):HB K H (.int i) (.type "int")
 |str (x:Str):HB K H (.str x) (.type "str")
 |flt (x:UInt64):HB K H (.flt x) (.type "float")
 |lst {a:Δ} {xs:List V} (e:H a=some (.lst xs)):HB K H (.ref a) (.type "list")
 |frz {a:Δ} {o:Obj} {xs:List V} (e:H a=some (.frz o (.lst xs))):HB K H (.ref a) (.type "list")
 |tup {a:Δ} {xs:List V} (e:H a=some (.tup xs)):HB K H (.ref a) (.type "tuple")
 |dK {a:Δ} {kvs:List (qJ×V)} (e:H a=some (.dK kvs)):HB K H (.ref a) (.type "dict")
 |dT {a:Δ} {kvs:List (List qJ×V)} (e:H a=some (.dT kvs)):HB K H (.ref a) (.type "dict")
 | ins {a C dx:Δ} {fs:List (Str×V)} (e:H a=some (.ins C dx fs)) (cl:Ih K C) (ha:PySem.W.findIn K (.ref C) "__class__"=some (some (.builtin "object.__class__")))
   (hn:PySem.W.specialIn K (.builtin "object.__class__") "__get__"=some (some (.builtin "getset_descriptor.__get__"))) (htk:PySem.W.takesIn K (.builtin "object.__class__")=some true)
   (hm:PySem.W.mroIn K C (.type "object")=some true):HB K H (.ref a) (.ref C)
theorem tO{x:V}{u t:Γ}(I:FY X tx σ H s)(rx:F5 x u)(ty:HB X.K H x t)(e:W.kitOne X.K t c=some b)(h:∀tk,Q (.bool b) {s with toks:=tk}):
  ε (model X.prog X.w) A (call (.builtin "isinstance") [u,c]) Q E s:=by
 cases ty with
 |non=>cases(show u=Γ.none from rx);exact J7 W.kitx_none I.kIn True.intro e (fun z=>nomatch z) h
 |bl y=>cases(show u=Γ.bool y from rx);exact J7 W.kitx_bool I.kIn True.intro e (fun z=>nomatch z) h
 |int i=>obtain⟨t,q⟩:=(show∃t,u=Γ.int i t from rx);cases q;exact J7 W.kitx_int I.kIn True.intro e (fun z=>nomatch z) h
 |str y=>obtain⟨t,q⟩:=(show∃t,u=Γ.str y t from rx);cases q;exact J7 W.kitx_str I.kIn True.intro e (fun z=>nomatch z) h
 |flt y=>obtain⟨t,q⟩:=(show∃t,u=Γ.float y t from rx);cases q;exact J7 W.kitx_float I.kIn True.intro e (fun z=>nomatch z) h
 | @lst a xs ea=>
  cases(show u=Γ.ref a from rx)
  obtain⟨_,_,n,_,h1⟩:=(show Ge X.prog X.w H s.heap a (.lst xs)from I.hok a _ ea)
  exact J7 W.kitx_list I.kIn ⟨_,h1,rfl⟩ e (fun z=>nomatch z) h
 | @frz a ob xs ea=>
  cases(show u=Γ.ref a from rx)
  obtain⟨_,_,_,n,_,h1⟩:=(show Ge X.prog X.w H s.heap a (.frz ob (.lst xs))from I.hok a _ ea)
  exact J7 W.kitx_list I.kIn ⟨_,h1,rfl⟩ e (fun z=>nomatch z) h
 | @tup a xs ea=>
  cases(show u=Γ.ref a from rx)
  obtain⟨_,_,_,p⟩:=(show Ge X.prog X.w H s.heap a (.tup xs)from I.hok a _ ea)
  obtain⟨o,h1,h2,_⟩:=p;exact J7 W.kitx_tuple I.kIn ⟨o,h1,h2⟩ e (fun z=>nomatch z) h
 | @dK a kvs ea=>
  cases(show u=Γ.ref a from rx)
  obtain⟨_,_,vs,_,p⟩:=(show Ge X.prog X.w H s.heap a (.dK kvs)from I.hok a _ ea)
  obtain⟨o,es,ep,h1,h2,_⟩:=p;exact J7 W.kitx_dict I.kIn ⟨o,h1,h2.1⟩ e (fun z=>nomatch z) h
 | @dT a kvs ea=>
  cases(show u=Γ.ref a from rx)
  obtain⟨_,_,xs,_,o,es,ep,h1,h2,_⟩:=(show Ge X.prog X.w H s.heap a (.dT kvs)from I.hok a _ ea)
  exact J7 W.kitx_dict I.kIn ⟨o,h1,h2.1⟩ e (fun z=>nomatch z) h
 | @ins a C dx fs ea cl ha hn htk hm=>
  cases(show u=Γ.ref a from rx)
  obtain⟨mA,O,_⟩:=fk I.hok ea;obtain⟨od,J,_⟩:=O.look;exact J7 (W.kitx_own (cl.get _) cl.hd ha hn htk hm) I.kIn J e (fun z=>nomatch z) h
end
structure Gg(k:Nat)(A:Around):Prop where
 hd:A.handled=none
 dp:A.depth+3*k+5<recursionLimit
 un:A.units+16*k+200<cLine
theorem Gg.mono{j k:Nat}{A:Around}(r:Gg k A)(h:j<=k):Gg j A:=⟨r.hd,by have:=r.dp;lia,by have:=r.un;lia⟩
theorem Gg.mo{j k:Nat}{A:Around}(r:Gg k A)(h:j<=k:=by first|decide|omega):Gg j A:=r.mono h
theorem Gg.deeper{k:Nat}{A:Around}(r:Gg (k+1) A)(env:Env):Gg k (A.deeper env):=
 ⟨r.hd,by have:=r.dp;show A.depth+1+3*k+5<_;lia,by have:=r.un;show A.units+3+16*k+200<_;lia⟩
theorem rO{A:Around}{C:Δ}{us:List Γ}{kw:List (Str×Γ)}:(A.under (.builtin "type.__call__" ⟨.ref C::us,kw⟩)).depth=A.depth+1:=by
 first|rfl|simp [Around.under,Code.weight,Code.isCreation,Code.isGuard,Code.isCaller,Code.frames,Code.isFrame,guardIds]
theorem rn{A:Around}{C:Δ}{us:List Γ}{kw:List (Str×Γ)}:(A.under (.builtin "type.__call__" ⟨.ref C::us,kw⟩)).units=A.units+1:=by
 first|rfl|simp [Around.under,Code.cUnits,Code.frames,Code.isFrame]
theorem Gg.make{k:Nat}{A:Around}(r:Gg (k+1) A)(C:Δ)(us:List Γ)(kw:List (Str×Γ)):Gg k (A.under (.builtin "type.__call__" ⟨.ref C::us,kw⟩)):=
 ⟨r.hd,by have:=r.dp;rw[rO];lia,by have:=r.un;rw[rn];lia⟩
theorem Gg.depth{k:Nat}{A:Around}(r:Gg k A):A.depth<recursionLimit:=by have:=r.dp;lia
def uO:TA:=fun _ H Q=>Q [] H
def pv(ta:TE)(tr:TA):TA:=fun σ H Q=>ta σ H fun x H1=>tr σ H1 fun xs H2=>Q (x::xs) H2
section
variable{X:Cx}{e:Φ}{es:List Φ}{te:TE}{t:TA}{pos:Pos}
theorem Cg:PA X [] uO:=fun _ _ _ _ H Q I h=>Calls.spliced_nil ⟨[],H,I,.nil,h⟩
theorem As(ha:PE X e te)(hr:PA X es t)(hs:θ (e::es) X.env=(false,eval e X.env)::θ es X.env:=by rfl):PA X (e::es) (pv te t):=by
 intro pos tx s σ H Q I h;rw[hs]
 show ε _ _ (spliced ((false,eval e X.env)::backTo pos (θ es X.env))) _ _ s
 refine Calls.spliced_cons (qB (ha tx s σ H _ I h) fun u s1 zq=>?_)
 obtain⟨x,H1,I1,r1,q1⟩:=zq;exact qB (hr pos tx s1 σ H1 _ I1 q1) fun us s2 ⟨xs,H2,I2,r2,q2⟩=>⟨x::xs,H2,I2,.cons r1 r2,q2⟩
def Bo(t:TA):TE:=fun σ H Q=>t σ H fun xs H1=>xs.length<=ζ/\∀p,H1 p=none->Q (.ref p) (F2 H1 p (.tup xs))
def Bd(t:TA):TE:=fun σ H Q=>t σ H fun xs H1=>xs.length<=ζ/\∀p,H1 p=none->Q (.ref p) (F2 H1 p (.lst xs))
theorem Bs{x1}(h:PA X es t):PE X (.Tuple es x1 pos) (Bo t):=by
 intro tx s σ H Q I hq;refine wpAny_Tuple_spliced (qB (h pos tx s σ H _ I hq) fun us s1 ⟨xs,H1,I1,r,z,q⟩=>⟨by rw[<- r.length];exact z,?_⟩)
 have hf:H1 s1.heap.objs.size=none:=I1.hok.fresh (Jf _)
 refine⟨.ref s1.heap.objs.size,F2 H1 s1.heap.objs.size (.tup xs),I1.laid (t':=s1.toks) (fun b u e=>Jh _ e) (Jf _) ?_,rfl,q _ hf⟩
 exact⟨z,us,r,⟨_,Jp _ rfl,rfl,_,rfl⟩⟩
theorem Bp(h:PA X es t):PE X (.List es pos) (Bd t):=by
 intro tx s σ H Q I hq;refine wpAny_List_spliced (qB (h pos tx s σ H _ I hq) fun us s1 ⟨xs,H1,I1,r,z,q⟩=>⟨by rw[<- r.length];exact z,?_⟩)
 have hf:H1 s1.heap.objs.size=none:=I1.hok.fresh (Jf _)
 refine⟨.ref s1.heap.objs.size,F2 H1 s1.heap.objs.size (.lst xs),I1.laid (t':=s1.toks) (fun b u e=>Jh _ e) (Jf _) ?_,rfl,q _ hf⟩
 exact⟨z,us,0,r,Jp _ rfl⟩
end
abbrev Sp:=List V->Hp->VK->XK->Prop
abbrev fD:=List Env->Hp->Θ->XK->Γ->Θ->Prop
structure Ia(P:Ξ)(w:Ω)(K:ι)(mg:FT)(base:Ψ)(A:Around)(outer:List Env)(s:Θ)(H:Hp):Prop where
 frames:A.frames=some outer
 mod:IW K mg base
 bs:∀b o,base.get? b=some o->s.heap.get? b=some o/\H b=none
 bsz:base.objs.size<=s.heap.objs.size
 funs:s.heap.FunFrames base outer
 frf:∀b∈bG outer,H b=none
 hok:Hv P w H s.heap
 bare:AllBare s.gens
def CE(outer:List Env)(P:Ξ)(w:Ω)(H:Hp)(s:Θ)(Q:VK)(u:Γ)(s':Θ):Prop:=
 ∃v H',s'.os=s.os/\AllBare s'.gens/\Un (bG outer) [] H H' s.heap s'.heap/\Hv P w H' s'.heap/\F5 v u/\Q v H'
def CR(CX:fD)(outer:List Env)(P:Ξ)(w:Ω)(H:Hp)(s:Θ)(Q:VK)(E:XK)(r:Result)(s':Θ):Prop:=
 match r with
 | .ok (.ret u)=>CE outer P w H s Q u s'
 | .ok _=>False
 | .error e=>CX outer H s E e s'
structure Ht(P:Ξ)(w:Ω)(K:ι)(mg:FT)(base:Ψ)(CX:fD)(k:Nat)(f:Δ)(fd:FuncData)(ps:List Str)(sp:Sp):Prop where
 len:∀vs H Q E,sp vs H Q E->vs.length=ps.length
 run:∀(A:Around) (outer:List Env) (s:Θ) (H:Hp) (args:Args) (us:List Γ) (vs:List V) (Q:VK) (E:XK),Gg k A->Ia P w K mg base A outer s H->BindsTo s fd args (ps.zip us)->F3 vs us->sp vs H Q E->
  codeAny (model P w) A (.call (.ref f) args) (CR CX outer P w H s Q E) s
theorem Ia.make{P:Ξ}{w:Ω}{K:ι}{mg:FT}{base:Ψ}{A:Around}{outer:List Env}{s:Θ}{H:Hp}(e:Ia P w K mg base A outer s H)(C:Δ)(us:List Γ)(kw:List (Str×Γ)):
  Ia P w K mg base (A.under (.builtin "type.__call__" ⟨.ref C::us,kw⟩)) outer s H:=⟨by first|exact e.frames|(simpa [Around.under,Code.envs,Code.isFrame,pushEnvs]using e.frames),e.mod,e.bs,e.bsz,e.funs,e.frf,e.hok,e.bare⟩
section
variable{X:Cx}{tx:FU}{σ:St}{H:Hp}{s s':Θ}
theorem FY.env0(I:FY X tx σ H s):Ia X.prog X.w X.K X.mg X.base X.A X.stack s H:=
 ⟨I.ok.frames,I.ok.mod,I.bs,JO I.ok.bsz I.sz,I.stack,I.stkFree,I.hok,I.bare⟩
theorem FY.after{Q:VK}{u:Γ}(I:FY X tx σ H s)(h:CE X.stack X.prog X.w H s Q u s'):EP X tx σ Q u s':=by
 obtain⟨v,H',os,bare,un,hok,r,q⟩:=h;obtain⟨hh,g,d,t,os'⟩:=s'
 obtain rfl:os'=s.os:=os
 exact⟨v,H',I.call (h':=hh) (g':=g) (d':=d) (t':=t) (ch:=[]) un hok bare (fun b z=>absurd z (by simp)),r,q⟩
end
def rL(sp:Sp)(dvs:List V)(E:XK)(t:TA):TE:=fun σ H Q=>t σ H fun vs H1=>sp (vs++dvs) H1 Q E
def xx(C:Δ)(sp:Sp)(dvs:List V)(E:XK)(t:TA):TE:=fun σ H Q=>t σ H fun vs H1=>∀x dx,H1 x=none->H1 dx=none->dx≠x->
 sp (.ref x::(vs++dvs)) (F2 (F2 H1 dx (.own x)) x (.ins C dx [])) (fun v H2=>v= .non/\Q (.ref x) H2) E
def GU(K:ι)(fd:FuncData)(ps:List Str)(ds:List Γ):Prop:=
 ∀(s:Θ) (us:List Γ),K.In s.heap->(us++ds).length=ps.length->BindsTo s fd ⟨us,[]⟩ (ps.zip (us++ds))
theorem GU.all{K:ι}{fd:FuncData}{ps:List Str}(h:∀us:List Γ,us.length=ps.length->bindArgs fd ⟨us,[]⟩=pure (ps.zip us)):GU K fd ps []:=fun s us _ hl=>by
 rw[DV]at hl⊢;exact .of_eq (h us hl)
def cO(CX:fD)(X:Cx)(E:XK):Prop:=∀(tx:FU) (σ:St) (H:Hp) (s:Θ) (e:Γ) (s':Θ),FY X tx σ H s->CX X.stack H s E e s'->X.xe e s'
section
variable{X:Cx}{CX:fD}{k:Nat}{f C:Δ}{fd:FuncData}{ps:List Str}{sp:Sp}{dvs:List V}{ds:List Γ}{E:XK}{x:Str}{p pos:Pos}{e:Φ}{es:List Φ}{t:TA}
theorem kD{tx:FU}{σ:St}{H:Hp}{s:Θ}{Q:VK}{us:List Γ}{vs:List V}(F:Ht X.prog X.w X.K X.mg X.base CX k f fd ps sp)(hr:Gg k X.A)(hb:GU X.K fd ps ds)(hd:F3 dvs ds)(hx:cO CX X E)
  (I:FY X tx σ H s)(r:F3 vs us)(h:sp (vs++dvs) H Q E):ε (model X.prog X.w) X.A (call (.ref f) us) (EP X tx σ Q) X.xe s:=by
 have r2:F3 (vs++dvs) (us++ds):=r.append hd
 have hl:(us++ds).length=ps.length:=by rw[<- r2.length];exact F.len _ _ _ _ h
 refine wpAny_call (EI (F.run X.A X.stack s H ⟨us,[]⟩ (us++ds) (vs++dvs) Q E hr I.env0 (hb s us I.kIn hl) r2 h) fun r s' hq=>?_)
 cases r with
 |error e=>exact hx tx σ H s e s' I hq
 |ok fl=>
  cases fl with
  |ret u=>exact I.after hq
  |next=>exact False.elim hq
  |brk=>exact False.elim hq
  |cont=>exact False.elim hq
theorem Ax(F:Ht X.prog X.w X.K X.mg X.base CX k f fd ps sp)(hr:Gg k X.A)(hg:Gl X x)(hm:X.mg x=some (.ref f))(hk:W.keepIn X.K (.ref f)=true)(hb:GU X.K fd ps ds)(hd:F3 dvs ds)(hx:cO CX X E)
  (ha:PA X (e::es) t)(hdb:(x==("__debug__":Str))=false:=by decide)(he:θ (e::es) X.env=(false,eval e X.env)::θ es X.env:=by rfl)(hpl:(backTo pos (θ es X.env)).any (·.1)=false:=by rfl):
  PE X (.Call (.Name x p) (e::es) [] pos) (rL sp dvs E t):=by
 intro tx s σ H Q I h;refine Fn (ik I hg hm ?_ hdb)
 refine W.callWith_K (h₀:=X.base) I.ok.mod.kin hk (qB (ha pos tx s σ H _ I h) fun us s1 ⟨vs,H1,I1,r,q⟩=>⟨I1.kIn,?_⟩) he hpl
 exact kD F hr hb hd hx I1 r q
structure Mk(K:ι)(C f:Δ):Prop where
 makes:PySem.W.makesIn K C=true
 init:PySem.W.findIn K (.ref C) "__init__"=some (some (.ref f))
 fn:PySem.W.isFn K (.ref f)=true
 kp:PySem.W.keepIn K (.ref C)=true
theorem vq{tx:FU}{σ:St}{H:Hp}{s:Θ}{Q:VK}{us:List Γ}{vs:List V}(M:Mk X.K C f)(F:Ht X.prog X.w X.K X.mg X.base CX k f fd ps sp)(hr:Gg (k+1) X.A)(hb:GU X.K fd ps ds)(hd:F3 dvs ds)
  (hx:cO CX X E)(I:FY X tx σ H s)(r:F3 vs us)
  (h:∀x dx,H x=none->H dx=none->dx≠x->sp (.ref x::(vs++dvs)) (F2 (F2 H dx (.own x)) x (.ins C dx [])) (fun v H2=>v= .non/\Q (.ref x) H2) E):
  ε (model X.prog X.w) X.A (call (.ref C) us) (EP X tx σ Q) X.xe s:=by
 have hq:=h (s.heap.objs.size+1) s.heap.objs.size (I.hok.fresh (Ey _)) (I.hok.fresh (Jf _)) (Jo (D3 _));have I2:=FY.made (C:=C) I
 have r2:F3 (V.ref (s.heap.objs.size+1)::(vs++dvs)) (Γ.ref (s.heap.objs.size+1)::(us++ds)):= .cons rfl (r.append hd)
 have hl:(Γ.ref (s.heap.objs.size+1)::us++ds).length=ps.length:=by
  have e:=r2.length;rw[F.len _ _ _ _ hq]at e;exact e.symm
 refine wpAny_call (vS (f:=f) I.kIn M.makes M.init (J4.mp M.fn) (EI (F.run _ X.stack _ _ ⟨Γ.ref (s.heap.objs.size+1)::us,[]⟩ (Γ.ref (s.heap.objs.size+1)::(us++ds)) _ _ E (hr.make C us [])
  (I2.env0.make C us []) (hb _ (Γ.ref (s.heap.objs.size+1)::us) I2.kIn hl) r2 hq) fun r s' hq'=>?_))
 cases r with
 |error e=>exact hx tx σ _ _ e s' I2 hq'
 |ok fl=>
  cases fl with
  |ret u=>
   obtain⟨v,H',I3,rv,ev,q3⟩:=I2.after hq';subst ev
   exact⟨rv,⟨V.ref (s.heap.objs.size+1),H',I3,rfl,q3⟩⟩
  |next=>exact False.elim hq'
  |brk=>exact False.elim hq'
  |cont=>exact False.elim hq'
theorem yT(M:Mk X.K C f)(F:Ht X.prog X.w X.K X.mg X.base CX k f fd ps sp)(hr:Gg (k+1) X.A)(hg:Gl X x)(hm:X.mg x=some (.ref C))(hb:GU X.K fd ps ds)(hd:F3 dvs ds)(hx:cO CX X E)
  (ha:PA X (e::es) t)(hdb:(x==("__debug__":Str))=false:=by decide)(he:θ (e::es) X.env=(false,eval e X.env)::θ es X.env:=by rfl)(hpl:(backTo pos (θ es X.env)).any (·.1)=false:=by rfl):
  PE X (.Call (.Name x p) (e::es) [] pos) (xx C sp dvs E t):=by
 intro tx s σ H Q I h;refine Fn (ik I hg hm ?_ hdb)
 refine W.callWith_K (h₀:=X.base) I.ok.mod.kin M.kp (qB (ha pos tx s σ H _ I h) fun us s1 ⟨vs,H1,I1,r,q⟩=>⟨I1.kIn,?_⟩) he hpl
 exact vq M F hr hb hd hx I1 r q
end
structure FW(N P:List Str)(sc:Scope):Prop where
 kind:sc.kind= .function
 co:sc.isCoroutine=false
 gen:sc.isGenerator=false
 nd:N.Nodup
 pre:N.take P.length=P
 par:∀x∈P,sc.names.lookup x=some .local\/sc.names.lookup x=some .cell
 nofree:∀y∈sc.names,y.2≠ .free
theorem i0{kindOf:Str->Option NameKind}{x:Str}:∀{binds:List (Str×Γ)} {m:FT},(∀v,(x,v)∉binds)->bindL kindOf binds m x=m x
 | [],_,_=>rfl
 |(n,v)::r,m,h=>by
  unfold bindL;rw[i0 fun w hw=>h w (JE _ hw)]
  split
  ·have:x≠n:=by rintro rfl;exact h v Jy
   simp [this]
  ·rfl
theorem jq{kindOf:Str->Option NameKind}{x:Str}:∀{binds:List (Str×Γ)} {m:FT},(∀v,(x,v)∉binds)->bindC kindOf binds m x=m x
 | [],_,_=>rfl
 |(n,v)::r,m,h=>by
  unfold bindC;rw[jq fun w hw=>h w (JE _ hw)]
  split
  ·rfl
  ·have:x≠n:=by rintro rfl;exact h v Jy
   simp [this]
theorem jx{kindOf:Str->Option NameKind}{x:Str}{v:Γ}:∀{P:List Str} {vs:List Γ} {i:Nat} {m:FT},P.Nodup->P[i]? =some x->vs[i]? =some v->kindOf x=some .local->
  bindL kindOf (P.zip vs) m x=some v
 | [],_,_,_,_,h,_,_=>by simp at h
 |_::_,[],_,_,_,_,h,_=>by simp at h
 |p::P,w::vs,0,m,nd,h1,h2,hk=>by
  simp at h1 h2;subst h1;subst h2
  show bindL kindOf ((p,w)::P.zip vs) m p=_
  unfold bindL;rw[i0 fun v hv=>(DT.mp nd).1 (List.of_mem_zip hv).1,Jc hk]
  simp
 |p::P,w::vs,i+1,m,nd,h1,h2,hk=>by
  show bindL kindOf ((p,w)::P.zip vs) m x=_
  unfold bindL;exact jx (i:=i) (DT.mp nd).2 (by simpa using h1) (by simpa using h2) hk
theorem iZ{kindOf:Str->Option NameKind}{x:Str}{v:Γ}:∀{P:List Str} {vs:List Γ} {i:Nat} {m:FT},P.Nodup->P[i]? =some x->vs[i]? =some v->kindOf x≠some .local->
  bindC kindOf (P.zip vs) m x=some v
 | [],_,_,_,_,h,_,_=>by simp at h
 |_::_,[],_,_,_,_,h,_=>by simp at h
 |p::P,w::vs,0,m,nd,h1,h2,hk=>by
  simp at h1 h2;subst h1;subst h2
  show bindC kindOf ((p,w)::P.zip vs) m p=_
  unfold bindC;rw[jq fun v hv=>(DT.mp nd).1 (List.of_mem_zip hv).1,Jb hk]
  simp
 |p::P,w::vs,i+1,m,nd,h1,h2,hk=>by
  show bindC kindOf ((p,w)::P.zip vs) m x=_
  unfold bindC;exact iZ (i:=i) (DT.mp nd).2 (by simpa using h1) (by simpa using h2) hk
def QZ(N:List Str)(vs:List V):St:=vs.map some++List.replicate (N.length-vs.length) none
def bg(CX:fD)(P:Ξ)(w:Ω)(K:ι)(mg:FT)(base:Ψ)(N:List Str)(Ld:Str)(scope:Scope)(f:Δ)(cd:Γ)(A:Around)(outer:List Env)(s:Θ)(H:Hp)(E:XK):Cx where
 prog:=P
 w:=w
 K:=K
 mg:=mg
 base:=base
 A:=A.deeper (envOfC Ld scope s.heap.objs.size f cd)
 N:=N
 s₀:=s
 H₀:=H
 env:=envOfC Ld scope s.heap.objs.size f cd
 outer:=outer
 stack:=envOfC Ld scope s.heap.objs.size f cd::outer
 ex:=[]
 calm:=true
 fn:=fun _=>true
 pn:=[]
 xe:=fun e s'=>ε (model P w) (A.deeper (envOfC Ld scope s.heap.objs.size f cd)) (leaving (envOfC Ld scope s.heap.objs.size f cd) e) (fun _ s''=>CX outer H s E e s'') (fun e' s''=>CX outer H s E e' s'') s'
theorem lj{sc:Scope}{n:Nat}{x:Str}(h:sc.names.lookup x=some .cell):∃c,(cellsFrom n sc.names []).lookup x=some c:=by
 have q:=W.cellsFrom_some sc.names n [] (.inl h);exact FC.mp q
theorem ut{CX:fD}{P:Ξ}{w:Ω}{K:ι}{mg:FT}{base:Ψ}{N ps:List Str}{Ld:Str}{scope:Scope}{f:Δ}{cd:Γ}{A:Around}{outer:List Env}{s s1:Θ}{H:Hp}{E:XK}{us:List Γ}{vs:List V}
  (S:FW N ps scope)(hd:A.handled=none)(e0:Ia P w K mg base A outer s H)(hl:vs.length=ps.length)(r:F3 vs us)
  (x:InCallC s s.heap.objs.size (bindL (envOfC Ld scope s.heap.objs.size f cd).kindOf (ps.zip us) fun _=>none) (cellsFrom (s.heap.objs.size+1) scope.names []) (bindC (envOfC Ld scope s.heap.objs.size f cd).kindOf (ps.zip us) fun _=>none) s1):
  FY (bg CX P w K mg base N Ld scope f cd A outer s H E) [] (QZ N vs) H s1:=by
 have hpl:ps.length<=N.length:=by have:=JX List.length S.pre;rw[Ed]at this;lia
 obtain⟨h1,tk,rfl,hk⟩:=x.done;have noA:∀b:Δ,b∉(bg CX P w K mg base N Ld scope f cd A outer s H E).ex:=fun b z=>absurd (show b∈([]:List Δ)from z) (by simp)
 refine⟨⟨e0.mod,S.kind,rfl,rfl,Jf _,fun y z c h1 h2=>?_,fun y hy=>?_,fun y c _ h=>?_,fun _=>hd,Around.frames_deeper e0.frames,.inr ⟨rfl,rfl⟩,fun b z=>absurd z (noA b),e0.bs,e0.bsz,fun b _ _=>noA b,fun b z=>absurd z (noA b),e0.funs,e0.frf⟩,
  rfl,e0.bare,Un.kept hk,⟨_,x.toInCall.ns,fun i y v h1 h2 h3=>?_⟩,fun y c h=>⟨_,x.cell y c h⟩,e0.hok.fresh (Jf _),fun y c h=>?_,fun p hp=>absurd (show p∈([]:FU)from hp) (by simp),e0.hok.kept hk,?_⟩
 ·exact name_of_addr x.apart (EJ h1) (EJ h2)
 ·have hy:scope.names.lookup y=some .cell\/scope.names.lookup y=some .free:=hy
  rcases hy with hy|hy
  ·exact lj hy
  ·exact absurd rfl (S.nofree _ (EJ hy))
 ·exact E8 (x.above y c (EJ h))
 ·have hi:i<vs.length:=by
   unfold QZ at h2
   by_cases hi:i<vs.length
   ·exact hi
   ·rw[JY (by simpa using hi)]at h2
    rw[List.getElem?_replicate]at h2;split at h2<;>cases h2
  have ha:vs[i]? =some v:=by
   unfold QZ at h2;rw[J5 (by simpa using hi),Jq]at h2
   cases e:vs[i]? with
   |none=>rw[e]at h2;cases h2
   |some a=>rw[e]at h2;cases h2;rfl
  obtain⟨u,hu,rv⟩:=r.get ha;have hp:ps[i]? =some y:=by
   rw[<- S.pre,List.getElem?_take_of_lt (by lia)];exact h1
  have ndP:ps.Nodup:=by rw[<- S.pre];exact S.nd.sublist (List.take_sublist _ _)
  refine⟨u,rv,?_⟩
  rcases S.par y (DU hp)with k|k
  ·exact .inl ⟨k,jx ndP hp hu k⟩
  ·obtain⟨c,e⟩:=lj (n:=s.heap.objs.size+1) k
   refine .inr ⟨.inl k,c,e,?_⟩
   have q:=x.cell y c e;rw[iZ ndP hp hu (by show scope.names.lookup y≠_;rw[k];decide)]at q
   exact q
 ·exact e0.hok.fresh (E8 (x.above y c (EJ h)))
 ·unfold QZ
  show _=N.length
  rw[Jw,Je,FD];lia
theorem CY{CX:fD}{P:Ξ}{w:Ω}{K:ι}{mg:FT}{base:Ψ}{k:Nat}{f:Δ}{name Ld:Str}{params:Arguments}{body:List δ}{scope:Scope}{dV kV doc pm cdv ct oc:Γ}{an od:Option Δ}
  {osl:Array (Option Γ)}{N ps:List Str}{sp:Sp}(lk:K.lookup f=some ⟨oc,od,.func (W.fnOf name Ld params body scope dV kV doc pm an cdv ct),osl⟩)(hcd:W.codeIn K cdv Ld=true)(S:FW N ps scope)
  (len:∀vs H Q E,sp vs H Q E->vs.length=ps.length)
  (hbody:∀(A:Around) (outer:List Env) (s:Θ) (H:Hp) (vs:List V) (Q:VK) (E:XK),Gg k (A.deeper (envOfC Ld scope s.heap.objs.size f cdv))->sp vs H Q E->
   ∃t,HY (bg CX P w K mg base N Ld scope f cdv A outer s H E) body t/\t {nx:=fun _ H'=>Q .non H',rt:=Q} (QZ N vs) H):
  Ht P w K mg base CX (k+1) f (W.fnOf name Ld params body scope dV kV doc pm an cdv ct) ps sp:=by
 refine⟨len,fun A outer s H args us vs Q E hr e0 hb r hsp=>?_⟩
 have hl:=len _ _ _ _ hsp;have KX:K.In s.heap:=e0.mod.kin.keeps fun b o e=>(e0.bs b o e).1
 have lim:s.heap.NoLimit:=e0.mod.nolimit.keeps fun b o e=>(e0.bs b o e).1
 have hkind:∀y∈ps.zip us,scope.names.lookup y.1=some .local\/(scope.names.lookup y.1=some .cell/\((cellsFrom (s.heap.objs.size+1) scope.names []).lookup y.1).isSome=true):=fun⟨n,v⟩ hy=>by
  rcases S.par n (List.of_mem_zip hy).1 with q|q
  ·exact .inl q
  ·exact .inr ⟨q,W.cellsFrom_some _ _ _ (.inl q)⟩
 refine codeAny_call_function hr.depth (KX _ _ lk) rfl S.co S.gen rfl (W.codeRec_of KX hcd) (hb _ _ _ _ ?_)
 refine wpAny_newFunctionEnv_cells S.kind hkind fun env he s1 x=>?_
 subst he;refine⟨lim.keeps x.toInCall.keep,codeAny_func ?_⟩
 obtain⟨t,ht,hq⟩:=hbody A outer s H vs Q E (hr.deeper _) hsp
 have I:FY (bg CX P w K mg base N Ld scope f cdv A outer s H E) [] (QZ N vs) H s1:=ut S hr.hd e0 hl r x
 refine JF (ht [] s1 (QZ N vs) H _ I hq) (fun fl s' hs=>?_) fun e s' hs=>hs
 have fin:∀{σ':St} {H':Hp} {v:V} {u:Γ},FY (bg CX P w K mg base N Ld scope f cdv A outer s H E) [] σ' H' s'->F5 v u->Q v H'->CE outer P w H s Q u s':=
  fun{σ' H' v u} J rv q=>⟨v,H',J.os,J.bare,J.base,J.hok,rv,q⟩
 cases fl with
 |ret u=>
  obtain⟨v,σ',H',J,rv,q⟩:=hs;exact fin J rv q
 |next=>
  obtain⟨σ',H',J,q⟩:=hs;exact fin (v:=V.non) (u:=Γ.none) J rfl q
 |brk=>
  obtain⟨_,_,_,q⟩:=hs;exact False.elim q
 |cont=>
  obtain⟨_,_,_,q⟩:=hs;exact False.elim q
section
variable{X:Cx}{x:Str}{p pos:Pos}{e:Φ}{es:List Φ}{t:TA}{id T:String}{r:List V->Hp->VK->Prop}
def wV(r:List V->Hp->VK->Prop)(t:TA):TE:=fun σ H Q=>t σ H fun vs H1=>r vs H1 Q
theorem vD(hc:ze X (.builtin id) r)(hg:Gl X x)(hm:X.mg x=none)(hv:bootBuiltins x=some (.builtin id))(ha:PA X (e::es) t)(hn:x≠"__name__":=by decide)(hdb:(x==("__debug__":Str))=false:=by decide)
  (he:θ (e::es) X.env=(false,eval e X.env)::θ es X.env:=by rfl)(hpl:(backTo pos (θ es X.env)).any (·.1)=false:=by rfl):PE X (.Call (.Name x p) (e::es) [] pos) (wV r t):=by
 intro tx s σ H Q I h;refine Fn (Zo I hg hm hv ?_ hn hdb)
 exact PyProof.Rows.callWith_builtin1 (qB (ha pos tx s σ H _ I h) fun us s1 ⟨vs,H1,I1,r1,q1⟩=>hc tx s1 σ H1 vs us Q I1 r1 q1) he hpl
theorem sP(hc:ze X (.type T) r)(hg:Gl X x)(hm:X.mg x=none)(hv:bootBuiltins x=some (.type T))(ha:PA X (e::es) t)(hn:x≠"__name__":=by decide)(hdb:(x==("__debug__":Str))=false:=by decide)
  (he:θ (e::es) X.env=(false,eval e X.env)::θ es X.env:=by rfl)(hpl:(backTo pos (θ es X.env)).any (·.1)=false:=by rfl):PE X (.Call (.Name x p) (e::es) [] pos) (wV r t):=by
 intro tx s σ H Q I h;refine Fn (Zo I hg hm hv ?_ hn hdb)
 exact EH (qB (ha pos tx s σ H _ I h) fun us s1 ⟨vs,H1,I1,r1,q1⟩=>hc tx s1 σ H1 vs us Q I1 r1 q1) he hpl
end
end L2
namespace HT
open PySem PyProof.Rows
section
variable{prog:Ξ}{w:Ω}{A:Around}{E:FS}{s:Θ}
theorem cat_tup{t b:Δ}{vs ws:List Γ}{Q:FS}(ht:IsTup s.heap t vs.toArray)(hb:IsTup s.heap b ws.toArray)(hv:vs≠[])
  (h1:ws=[]->Q (.ref t) s)(h2:ws≠[]->Q (.ref s.heap.objs.size) {s with heap:=s.heap.push {cls:= .type "tuple",data:= .seq (vs++ws).toArray}})
  (hsz:vs.length+ws.length<=ζ):ε (model prog w) A (binaryOp .Add (.ref t) (.ref b)) Q E s:=by
 obtain⟨⟨cls,dd,data,sl⟩,ho,hc,n,hd⟩:=id ht;obtain⟨⟨cls2,dd2,data2,sl2⟩,ho2,hc2,n2,hd2⟩:=id hb;simp only at hc hd hc2 hd2
 subst hc hd hc2 hd2;have e:vs.toArray++ws.toArray=(vs++ws).toArray:=by simp
 by_cases hw:ws=[]
 ·exact concat_meets ⟨_,ho,rfl⟩ ⟨_,ho2,rfl⟩ noFill_tuple_add seq_tuple_add FE FF (FG _ _)
   (tuple_addW1 t b vs.toArray ws.toArray n n2 dd dd2 sl sl2 (by simpa using hv) (by simp [hw])) ⟨ho,ho2,h1 hw⟩
 ·refine concat_meets ⟨_,ho,rfl⟩ ⟨_,ho2,rfl⟩ noFill_tuple_add seq_tuple_add FE FF (FG _ _)
   (tuple_addW2 t b vs.toArray ws.toArray n n2 dd dd2 sl sl2 (by simpa using hv) (by simpa using hw) (by rw[Js,Js];exact hsz)) ⟨ho,ho2,?_⟩
  rw[e];exact h2 hw
def sIx(n d:Nat):Option Int->Nat
 |none=>d
 |some v=>if v<0 then(v+(n:Int)).toNat else min v.toNat n
theorem BS(n d:Nat)(hd:d<=n)(o:Option Int):sIx n d o<=n:=by
 cases o with
 |none=>exact hd
 |some v=>
  show(if v<0 then(v+(n:Int)).toNat else min v.toNat n)<=n
  by_cases hv:v<0
  ·rw[Jc hv];lia
  ·rw[Jb hv];exact Nat.min_le_right _ _
theorem oJ(v:Int)(n d:Nat):(if v<0 then max (v+(n:Int)) 0 else min v (n:Int))=((sIx n d (some v):Nat):Int):=by
 show(if v<0 then max (v+(n:Int)) 0 else min v (n:Int))=(((if v<0 then(v+(n:Int)).toNat else min v.toNat n):Nat):Int)
 by_cases hv:v<0
 ·simp only[Jc hv];lia
 ·simp only[Jb hv];lia
theorem rh(lo hi:Option Int)(n:Nat):γ.Slice.sliceAdjust lo hi 1 (n:Int)=(((sIx n 0 lo:Nat):Int),((sIx n n hi:Nat):Int)):=by
 have h1:¬((1:Int)<0):=by lia
 unfold γ.Slice.sliceAdjust;simp only[h1,JD];refine Prod.ext ?_ ?_
 ·cases lo with
  |none=>rfl
  |some v=>exact oJ v n 0
 ·cases hi with
  |none=>rfl
  |some v=>exact oJ v n n
theorem pJ(i j:Nat):γ.Slice.slicePlaces (i:Int) (j:Int) 1=j-i:=by
 unfold γ.Slice.slicePlaces;have h1:(1:Int)>0:=by lia
 simp only[h1,D4,Int.ediv_one];split<;>lia
theorem gw{v:Γ}{o:Option Int}{Q:Option Int->Θ->Prop}(p:IsPart v o)(h:Q o s):ε (model prog w) A (γ.Slice.slicePartIndex v) Q E s:=by
 cases p with
 |none=>exact slicePart_none h
 |int i t=>exact slicePart_int h
theorem sliceApplied_gen{sl:Δ}{vl vu:Γ}{lo hi:Option Int}{n:Nat}{Q:Int×Int×Nat->Θ->Prop}(hs:s.heap.IsSliceOf sl vl vu .none)(pl:IsPart vl lo)(pu:IsPart vu hi)
  (h:Q (((sIx n 0 lo:Nat):Int),1,sIx n n hi-sIx n 0 lo) s):ε (model prog w) A (γ.Slice.sliceApplied (.ref sl) (pure (n:Int))) Q E s:=by
 obtain⟨os,hos,hcs,hds⟩:=id hs;unfold γ.Slice.sliceApplied γ.Slice.sliceFields;refine Ja (Ja (JR hos hds (x:=vl) rfl (Ja (JR hos hds (x:=vu) rfl (Ja (JR hos hds (x:= .none) rfl (Jd ?_)))))))
 refine Ja (slicePart_none ?_)
 show ε _ _ (if((1:Int)==0)=true then _ else _) _ _ s
 rw[Jb (by decide)]
 refine Ja (gw pl (Ja (gw pu (Ja (Jd ?_)))))
 show ε _ _ (match γ.Slice.sliceAdjust lo hi 1 (n:Int)with|(lo,hi)=>pure (lo,(1:Int),γ.Slice.slicePlaces lo hi 1)) _ _ s
 rw[rh lo hi n]
 show ε _ _ (pure (((sIx n 0 lo:Nat):Int),(1:Int),γ.Slice.slicePlaces ((sIx n 0 lo:Nat):Int) ((sIx n n hi:Nat):Int) 1)) _ _ s
 rw[pJ];exact Jd h
theorem vV(xs:Array Γ)(i k:Nat):((List.range k).filterMap fun(m:Nat)=>xs[((i:Int)+(m:Int)*1).toNat]?).toArray=((xs.toList.drop i).take k).toArray:=by
 have e:(fun(m:Nat)=>xs[((i:Int)+(m:Int)*1).toNat]?)=fun m=>xs[i+m]? :=by
  funext m
  have:((i:Int)+(m:Int)*1).toNat=i+m:=by lia
  rw[this]
 rw[e]
 have:=pick_run xs i k
 rw[List.filterMap_map]at this;have e2:((fun x=>xs[x]?)∘fun x=>i+x)=fun m=>xs[i+m]? :=rfl
 rw[e2]at this;rw[this]
theorem getItem_tuple_cut{t sl:Δ}{items:Array Γ}{vl vu:Γ}{lo hi:Option Int}{Q:FS}(ht:IsTup s.heap t items)(hs:s.heap.IsSliceOf sl vl vu .none)(pl:IsPart vl lo)(pu:IsPart vu hi)
  (hw:¬(sIx items.size 0 lo=0/\sIx items.size items.size hi=items.size))
  (h:Q (.ref s.heap.objs.size) {s with heap:=s.heap.push {cls:= .type "tuple",data:= .seq ((items.toList.drop (sIx items.size 0 lo)).take (sIx items.size items.size hi-sIx items.size 0 lo)).toArray}})
  (hsz:items.size<=ζ):ε (model prog w) A (getItem (.ref t) (.ref sl)) Q E s:=by
 have htake:sizeOk (.seq ((items.toList.drop (sIx items.size 0 lo)).take (sIx items.size items.size hi-sIx items.size 0 lo)).toArray):=by
  show((items.toList.drop (sIx items.size 0 lo)).take (sIx items.size items.size hi-sIx items.size 0 lo)).toArray.size<=ζ
  rw[Js,Ed,Fo,Jn];lia
 have hj:sIx items.size items.size hi<=items.size:=BS _ _ (Jf _) hi
 obtain⟨os,hos,hcs,hds⟩:=id hs;have hTs:s.TypeIs (.ref sl) "slice":=⟨os,hos,hcs⟩
 unfold getItem
 try with_reducible refine JM ?_
 first|refine Ja (Jd ?_)|skip
 refine Ja (wpAny_sequenceKey ht.typeIs (by decide) ?_)
 refine Ja (wpAny_callSpecial?_slot (name:=Str.ofString "__getitem__") ht.typeIs Fp
  (JZ Fp ht.typeIs entry_tuple_getitem ?_ (args_tuple_getitem _ _)))
 show ε _ _ (γ.Tuple.tupleItemsOf (.ref t) >>= _) _ _ s
 refine Ja (tupleItemsOf_ ht ?_)
 refine Ja (ER hTs ?_)
 rw[Jc (by decide)]
 refine Ja (sliceApplied_gen hs pl pu ?_)
 have hno:¬((((sIx items.size 0 lo:Nat):Int)==0&&(1:Int)==1&&(sIx items.size items.size hi-sIx items.size 0 lo)==items.size)=true):=by
  intro q;rw[Jt,Jt]at q;have q1:((sIx items.size 0 lo:Nat):Int)=0:=eq_of_beq q.1.1
  have q2:sIx items.size items.size hi-sIx items.size 0 lo=items.size:=eq_of_beq q.2
  exact hw ⟨by lia,by lia⟩
 show ε _ _ (if(((sIx items.size 0 lo:Nat):Int)==0&&(1:Int)==1&&(sIx items.size items.size hi-sIx items.size 0 lo)==items.size)=true then _ else _) _ _ s
 rw[Jb hno,vV]
 first
  |exact Ja (m:=γ.Tuple.tupleExact _) (DQ (Jd ⟨_,rfl,Jd h⟩) htake)
  |exact Ja (m:=γ.Tuple.tupleExact _) (DQ (Ja (Jd (Jd ⟨_,rfl,Jd h⟩))) htake)
  |exact Ja (Ja (m:=γ.Tuple.tupleExact _) (DQ (Jd (Jd ⟨_,rfl,Jd h⟩)) htake))
  |exact Ja (Ja (m:=γ.Tuple.tupleExact _) (DQ (Jd ⟨_,rfl,Jd h⟩) htake))
end
end HT
namespace L2
open PySem PySem.Spec PyProof.Rows
abbrev TO:=St->Hp->(Option Int->Hp->Prop)->Prop
def PO(X:Cx)(e:Option Φ)(t:TO):Prop:=
 ∀(tx:FU) (s:Θ) (σ:St) (H:Hp) (Q:Option Int->Hp->Prop),FY X tx σ H s->t σ H Q->
  ε (model X.prog X.w) X.A (evalPart e X.env) (fun u s'=>∃o H',FY X tx σ H' s'/\IsPart u o/\Q o H') X.xe s
def oO:TO:=fun _ H Q=>Q none H
def wX(t:TE):TO:=fun σ H Q=>t σ H fun x H1=>∃i,x= .int i/\Q (some i) H1
theorem bM{ns:List Int}:∀{us:List Γ},F3 (ns.map V.int) us->IntsAre us ns:=by
 induction ns with
 |nil=>intro us r;rw[Fc]at r;cases r;exact .nil
 |cons n ns ih=>
  intro us r;rw[JU]at r;cases r with
  |cons r1 r2=>
   obtain⟨t,e⟩:=r1;subst e;exact .cons n t (ih r2)
section
variable{X:Cx}{e:Φ}{te:TE}{lo hi:Option Φ}{tl th:TO}{pos p2:Pos}
theorem yp:PO X none oO:=by
 intro tx s σ H Q I h;rw[evalPart_none];exact Jd ⟨none,H,I,.none,h⟩
theorem AD(h:PE X e te):PO X (some e) (wX te):=by
 intro tx s σ H Q I hw;rw[evalPart_some];refine qB (h tx s σ H _ I hw) fun u s1 zq=>?_
 obtain⟨x,H1,I1,r1,q1⟩:=zq;obtain⟨i,rfl,q⟩:=q1;obtain⟨t,rfl⟩:=r1
 exact⟨some i,H1,I1,.int i t,q⟩
def uL(X:Cx)(r:V->Option Int->Option Int->Hp->VK->Prop):Prop:=
 ∀(tx:FU) (s:Θ) (σ:St) (H:Hp) (x:V) (v vl vu:Γ) (lo hi:Option Int) (sl:Δ) (Q:VK),FY X tx σ H s->F5 x v->s.heap.IsSliceOf sl vl vu .none->IsPart vl lo->IsPart vu hi->r x lo hi H Q->
  ∃T id,typeLookup (.type T) "__getitem__"=pure (some (.builtin id))/\s.TypeIs v T/\ε (model X.prog X.w) X.A (getItem v (.ref sl)) (EP X tx σ Q) X.xe s
def Dg(r:V->Option Int->Option Int->Hp->VK->Prop)(te:TE)(tl th:TO):TE:=fun σ H Q=>te σ H fun x H1=>tl σ H1 fun l H2=>th σ H2 fun u H3=>r x l u H3 Q
theorem vU{r:V->Option Int->Option Int->Hp->VK->Prop}(hr:uL X r)(he:PE X e te)(hl:PO X lo tl)(hu:PO X hi th):PE X (.Subscript e (.Slice lo hi none p2) pos) (Dg r te tl th):=by
 intro tx s σ H Q I h;refine Subscript_ (qB (he tx s σ H _ I h) fun v s1 zq=>?_)
 obtain⟨x,H1,I1,r1,q1⟩:=zq;refine wpAny_Slice (qB (hl tx s1 σ H1 _ I1 q1) fun vl s2 ⟨l,H2,I2,pl,q2⟩=>qB (hu tx s2 σ H2 _ I2 q2) fun vu s3 zq=>?_)
 obtain⟨u,H3,I3,pu,q3⟩:=zq;rw[evalPart_none];refine Jd ?_
 have I4:FY X tx σ H3 {s3 with heap:=s3.heap.push {cls:= .type "slice",data:= .fields #[vl,vu,.none]}}:=I3.kept (t':=s3.toks) fun b ob q=>Jh _ q
 obtain⟨T,id,hT,ht,hg⟩:=hr tx {s3 with heap:=s3.heap.push {cls:= .type "slice",data:= .fields #[vl,vu,.none]}} σ H3 x v vl vu l u s3.heap.objs.size Q I4 r1 (Ψ.IsSliceOf.new ..) pl pu q3
 show ε (model X.prog X.w) X.A (subscriptTail e (.Slice lo hi none p2) v (.ref s3.heap.objs.size)) (EP X tx σ Q) X.xe {s3 with heap:=s3.heap.push {cls:= .type "slice",data:= .fields #[vl,vu,.none]}}
 exact tail_any (ops:=[.ref s3.heap.objs.size,v]) ht hT hg (by with_unfolding_all rfl)
def ZN(xs:List V)(lo hi:Option Int):List V:=(xs.drop (HT.sIx xs.length 0 lo)).take (HT.sIx xs.length xs.length hi-HT.sIx xs.length 0 lo)
theorem fE(xs:List V)(lo hi:Option Int):(ZN xs lo hi).length<=xs.length:=by
 unfold ZN;rw[Ed,Fo];lia
def Dt(K:ι):V->Option Int->Option Int->Hp->VK->Prop:=fun x lo hi H Q=>∃a xs,x= .ref a/\F7 K H a xs/\
 ¬(HT.sIx xs.length 0 lo=0/\HT.sIx xs.length xs.length hi=xs.length)/\∀p,H p=none->Q (.ref p) (F2 H p (.tup (ZN xs lo hi)))
theorem BH:uL X (Dt X.K):=by
 intro tx s σ H x v vl vu lo hi sl Q I rx hs pl pu h;obtain⟨a,xs,rfl,hx,hw,q⟩:=h;cases rx;obtain⟨its,r,ht,hz⟩:=I.tuple hx;have hlen:its.toArray.size=xs.length:=by rw[Js];exact r.length.symm
 refine⟨"tuple",_,PyProof.Rows.slot_tuple_getitem.lookup,ht.typeIs,?_⟩
 refine HT.getItem_tuple_cut ht hs pl pu (by rw[hlen];exact hw) ?_ (by rw[hlen];exact hz)
 rw[hlen];refine⟨.ref s.heap.objs.size,_,I.laid (t':=s.toks) (o:= .tup (ZN xs lo hi)) (fun b ob q=>Jh _ q) (Jf _) ?_,rfl,q _ (I.hok.fresh (Jf _))⟩
 exact⟨JO (fE xs lo hi) hz,_,(r.drop (HT.sIx xs.length 0 lo)).take (HT.sIx xs.length xs.length hi-HT.sIx xs.length 0 lo),IsTup.new _ _⟩
def CU(K:ι):R2:=fun x y H Q=>∃a b xs ys,x= .ref a/\y= .ref b/\F7 K H a xs/\F7 K H b ys/\xs≠[]/\xs.length+ys.length<=ζ/\
 (ys=[]->Q (.ref a) H)/\(ys≠[]->∀p,H p=none->Q (.ref p) (F2 H p (.tup (xs++ys))))
theorem F3.nil_iff{xs:List V}{us:List Γ}(r:F3 xs us):us=[]↔xs=[]:=by
 cases r with
 |nil=>simp
 |cons _ _=>simp
theorem AF:zw X (binaryOp .Add) (CU X.K):=by
 intro tx s σ H x y v u Q I rx ry h;obtain⟨a,b,xs,ys,rfl,rfl,ha,hb,hx,hz,q1,q2⟩:=h;cases rx;cases ry;obtain⟨its,r1,p1,_⟩:=I.tuple ha;obtain⟨its2,r2,p2,_⟩:=I.tuple hb;refine HT.cat_tup p1 p2 (fun z=>hx (r1.nil_iff.mp z)) (fun z=>⟨.ref a,H,I,rfl,q1 (r2.nil_iff.mp z)⟩) (fun z=>?_) (by rw[<- r1.length,<- r2.length];exact hz)
 refine⟨.ref s.heap.objs.size,_,I.laid (t':=s.toks) (o:= .tup (xs++ys)) (fun b ob q=>Jh _ q) (Jf _) ?_,rfl,q2 (fun w=>z (r2.nil_iff.mpr w)) _ (I.hok.fresh (Jf _))⟩
 exact⟨by rw[Jw];exact hz,_,r1.append r2,IsTup.new _ _⟩
end
def cC(n:Nat)(i:Int):Option Nat:=if 0<=i then(if i<n then some i.toNat else none)else if -(n:Int)<=i then some (i+n).toNat else none
def Ql{α:Type}(xs:List α)(i:Int):Option α:=(cC xs.length i).bind fun j=>xs[j]?
theorem nQ{n:Nat}{i:Int}{j:Nat}(h:cC n i=some j):seqIndex? i n=some j/\j<n/\ -(n:Int)<=i/\i<n:=by
 unfold cC at h
 by_cases h0:0<=i
 ·rw[Jc h0]at h
  by_cases h1:i<n
  ·rw[Jc h1]at h
   have e:i.toNat=j:=JB h
   exact⟨by rw[seqIndex_of h0 h1,e],by lia,by lia,h1⟩
  ·rw[Jb h1]at h;cases h
 ·rw[Jb h0]at h
  by_cases h1: -(n:Int)<=i
  ·rw[Jc h1]at h
   have e:(i+n).toNat=j:=JB h
   exact⟨by rw[seqIndex_neg (by lia) h1,e],by lia,h1,by lia⟩
  ·rw[Jb h1]at h;cases h
theorem oz{α:Type}{xs:List α}{i:Int}{v:α}(h:Ql xs i=some v):∃j,seqIndex? i xs.length=some j/\xs[j]? =some v/\j<xs.length/\ -(xs.length:Int)<=i/\i<xs.length:=by
 unfold Ql at h;cases e:cC xs.length i with
 |none=>rw[e]at h;cases h
 |some j=>
  rw[e]at h;obtain⟨h1,h2,h3,h4⟩:=nQ e
  exact⟨j,h1,h,h2,h3,h4⟩
theorem Qk{α:Type}{xs:List α}{j:Nat}{v:α}(h:xs[j]? =some v):Ql xs (j:Int)=some v:=by
 have hj:j<xs.length:=(JH.mp h).1
 have e:cC xs.length (j:Int)=some j:=by
  unfold cC;rw[Jc (by lia),Jc (by lia)];simp
 unfold Ql;rw[e];exact h
def oS(b:Φ):Prop:=∀o i,subscripted b false o i=operate [o,i] (getItem o i)
def Iv(X:Cx)(r:R2):Prop:=
 ∀(value slice:Φ) (tx:FU) (s:Θ) (σ:St) (H:Hp) (x y:V) (v u:Γ) (Q:VK),FY X tx σ H s->F5 x v->F5 y u->r x y H Q->
  subscripted slice false v u=operate [v,u] (getItem v u)->ε (model X.prog X.w) X.A (subscriptTail value slice v u) (EP X tx σ Q) X.xe s
def tN(X:Cx)(id:String)(r:V->List V->Hp->VK->Prop):Prop:=
 ∀(tx:FU) (s:Θ) (σ:St) (H:Hp) (x:V) (xs:List V) (v:Γ) (us:List Γ) (Q:VK),FY X tx σ H s->F5 x v->F3 xs us->r x xs H Q->
  ε (model X.prog X.w) X.A (call (.builtin id) (v::us)) (EP X tx σ Q) X.xe s
section
variable{X:Cx}{a b:Φ}{ta tb:TE}{pos:Pos}
theorem Iv.or{r r':R2}(h:Iv X r)(h':Iv X r'):Iv X (fun x y H Q=>r x y H Q\/r' x y H Q):=by
 intro value slice tx s σ H x y v u Q I rx ry q hs;rcases q with q|q
 ·exact h value slice tx s σ H x y v u Q I rx ry q hs
 ·exact h' value slice tx s σ H x y v u Q I rx ry q hs
theorem CV{r:R2}(hr:Iv X r)(ha:PE X a ta)(hb:PE X b tb)(hs:oS b):PE X (.Subscript a b pos) (jG r ta tb):=by
 intro tx s σ H Q I h;exact Subscript_ (wv ha hb I h fun v u s2 x y H2 I2 rx ry q=>hr a b tx s2 σ H2 x y v u Q I2 rx ry q (hs _ _))
def Cf(K:ι):R2:=fun x y H Q=>∃p xs i v,x= .ref p/\y= .int i/\F6 K H p xs/\Ql xs i=some v/\Q v H
def wm(K:ι):R2:=fun x y H Q=>∃p xs i v,x= .ref p/\y= .int i/\F7 K H p xs/\Ql xs i=some v/\Q v H
theorem qF:Iv X (Cf X.K):=by
 intro value slice tx s σ H x y v u Q I rx ry h hs;obtain⟨p,xs,i,z,rfl,rfl,hq,he,q⟩:=h;cases rx;obtain⟨t,rfl⟩:=ry;obtain⟨its,r,pl,hz⟩:=I.list hq;obtain⟨j,h1,h2,h3,h4,h5⟩:=oz he;obtain⟨w,ew,rw'⟩:=r.get h2;have hl:=r.length;have hn:=ZY;have fin:EP X tx σ Q w s:=⟨z,H,I,rw',q⟩
 by_cases h0:0<=i
 ·have hj:i.toNat=j:=by
   rw[seqIndex_of h0 h5]at h1;exact JB h1
  exact item_listR pl.isList h0 (by lia) (by rw[hj];simpa using ew) fin hs
 ·have hj:(i+(its.toArray.size:Int)).toNat=j:=by
   rw[seqIndex_neg (by lia) h4]at h1
   rw[Js,<- hl];exact JB h1
  exact subscriptTail_builtinR (x:=w) pl.isList.typeIs slot_list_getitem.lookup
   (wpAny_getItem_list_neg (Q:=fun r s'=>r=w/\EP X tx σ Q r s') pl.isList (by lia) (by rw[Js]<;>lia) (by lia) (by rw[hj];simpa using ew) ⟨rfl,fin⟩) hs
theorem qK:Iv X (wm X.K):=by
 intro value slice tx s σ H x y v u Q I rx ry h hs;obtain⟨p,xs,i,z,rfl,rfl,hq,he,q⟩:=h;cases rx;obtain⟨t,rfl⟩:=ry;obtain⟨its,r,pl,hz⟩:=I.tuple hq;obtain⟨j,h1,h2,h3,h4,h5⟩:=oz he;obtain⟨w,ew,rw'⟩:=r.get h2;have hl:=r.length;have hn:=ZY;have fin:EP X tx σ Q w s:=⟨z,H,I,rw',q⟩
 exact subscriptTail_builtinR (x:=w) pl.typeIs slot_tuple_getitem.lookup
  (getItem_tuple (j:=j) (Q:=fun r s'=>r=w/\EP X tx σ Q r s') pl (by lia) (by lia) (by rw[Js,<- hl];exact h1) (by simpa using ew) ⟨rfl,fin⟩) hs
theorem pQ(its:List Γ)(n j:Nat)(u:Γ):Obj.mapSeq (·.setIfInBounds j u) {cls:= .type "list",data:= .seq its.toArray n}={cls:= .type "list",data:= .seq (its.set j u).toArray n}:=by
 simp [Obj.mapSeq]
theorem FY.lst{tx:FU}{σ:St}{H:Hp}{s:Θ}{p:Δ}{xs:List V}(I:FY X tx σ H s)(h:H p=some (.lst xs)):
  ∃(its:List Γ) (n:Nat),F3 xs its/\s.heap.get? p=some {cls:= .type "list",data:= .seq its.toArray n}/\xs.length<=ζ:=by
 obtain⟨z,its,n,r,e⟩:=I.hok p _ h
 exact⟨its,n,r,e,z⟩
theorem FY.lstUpd{tx:FU}{σ:St}{H:Hp}{s:Θ}{p:Δ}{xs ys:List V}{its its':List Γ}{n n':Nat}{f:Obj->Obj}(I:FY X tx σ H s)(h:H p=some (.lst xs))
  (ho:s.heap.get? p=some {cls:= .type "list",data:= .seq its.toArray n})(hf:f {cls:= .type "list",data:= .seq its.toArray n}={cls:= .type "list",data:= .seq its'.toArray n'})(r:F3 ys its')(hz:ys.length<=ζ)(t:Nat):
  FY X tx σ (F2 H p (.lst ys)) {s with heap:=s.heap.update p f,toks:=t}:=by
 have e:(s.heap.update p f).get? p=some {cls:= .type "list",data:= .seq its'.toArray n'}:=by
  rw[Ez f ho (by rw[hf]<;>rfl),hf]
 refine I.write (x:=p) (e:=p) (by rw[h];trivial) (.inl rfl) (fun b u hb q=>(ES _ _ (Ne.symm hb)).trans q) ⟨_,e⟩ ?_
 exact⟨hz,its',n',r,e⟩
def CB:V->V->V->Hp->(Hp->Prop)->Prop:=fun o i v H Q=>∃p xs k j,o= .ref p/\i= .int k/\H p=some (.lst xs)/\cC xs.length k=some j/\Q (F2 H p (.lst (xs.set j v)))
theorem ZK:l6 X CB:=by
 intro tx s σ H o i v ov iv u Q I ro ri rv h;obtain⟨p,xs,k,j,rfl,rfl,hp,hj,q⟩:=h;cases ro;obtain⟨t,rfl⟩:=ri;obtain⟨its,n,r,ho,hz⟩:=I.lst hp;obtain⟨h1,h2,h3,h4⟩:=nQ hj;have hl:=r.length;have hn:=ZY;have I':FY X tx σ (F2 H p (.lst (xs.set j v))) {s with heap:=s.heap.update p (Obj.mapSeq (·.setIfInBounds j u))}:=
  I.lstUpd hp ho (pQ its n j u) (r.set rv j) (by rw[ET];exact hz) s.toks
 by_cases h0:0<=k
 ·have hk:k.toNat=j:=by
   rw[seqIndex_of h0 h4]at h1;exact JB h1
  exact W.ki_setAt ho h0 (by lia) (by rw[Js,<- hl];exact h4) (by rw[hk];exact⟨_,I',q⟩)
 ·have hk:(k+(its.toArray.size:Int)).toNat=j:=by
   rw[seqIndex_neg (by lia) h3]at h1
   rw[Js,<- hl];exact JB h1
  exact W.ki_setBack ho (by lia) (by rw[Js,<- hl];exact h3) (by lia) (by rw[hk];exact⟨_,I',q⟩)
theorem kP(lo hi:Option Int)(n:Nat):(sliceBounds lo hi none n).1=((HT.sIx n 0 lo:Nat):Int)/\(sliceBounds lo hi none n).2.1=((HT.sIx n n hi:Nat):Int)/\(sliceBounds lo hi none n).2.2=1:=by
 refine⟨?_,?_,rfl⟩
 ·cases lo with
  |none=>simp [sliceBounds,HT.sIx]
  |some i=>
   simp only[sliceBounds,HT.sIx,Option.getD_none,show(1:Int)>0 by decide,D4]
   by_cases h:i<0
   ·simp only[h,D4]<;>lia
   ·simp only[h,JD]<;>lia
 ·cases hi with
  |none=>simp [sliceBounds,HT.sIx]
  |some i=>
   simp only[sliceBounds,HT.sIx,Option.getD_none,show(1:Int)>0 by decide,D4]
   by_cases h:i<0
   ·simp only[h,D4]<;>lia
   ·simp only[h,JD]<;>lia
theorem j8(its:List Γ)(lo hi:Option Int):slicePick its.toArray lo hi none=((its.drop (HT.sIx its.length 0 lo)).take (HT.sIx its.length its.length hi-HT.sIx its.length 0 lo)).toArray:=by
 obtain⟨h1,h2,h3⟩:=kP lo hi its.toArray.size;unfold slicePick;rw[h1,h2,h3];simp only[sliceRange_one,pick_run,Js]<;>rfl
def Ds(K:ι):V->Option Int->Option Int->Hp->VK->Prop:=fun x lo hi H Q=>∃a xs,x= .ref a/\F6 K H a xs/\∀p,H p=none->Q (.ref p) (F2 H p (.lst (ZN xs lo hi)))
theorem nY:uL X (Ds X.K):=by
 intro tx s σ H x v vl vu lo hi sl Q I rx hs pl pu h;obtain⟨a,xs,rfl,hx,q⟩:=h;cases rx;obtain⟨its,r,ht,hz⟩:=I.list hx;have hlen:=r.length;refine⟨"list",_,slot_list_getitem.lookup,ht.isList.typeIs,?_⟩
 refine wpAny_getItem_list_slice ht.isList hs pl pu .none (by simp) ?_ (by rw[Js]<;>lia)
 rw[j8,<- hlen];refine⟨.ref s.heap.objs.size,_,I.laid (t':=s.toks) (o:= .lst (ZN xs lo hi)) (fun b ob q=>Jh _ q) (Jf _) ?_,rfl,q _ (I.hok.fresh (Jf _))⟩
 exact⟨JO (fE xs lo hi) hz,_,0,(r.drop (HT.sIx xs.length 0 lo)).take (HT.sIx xs.length xs.length hi-HT.sIx xs.length 0 lo),Jp _ rfl⟩
def aO:V->Bool
 | .non=>true
 | .bl _=>true
 | .int _=>true
 | .str _=>true
 |_=>false
def i7:V->V->Bool
 | .non,.non=>true
 | .bl a,.bl b=>a==b
 | .bl a,.int b=>(if a then 1 else 0)==b
 | .int a,.bl b=>a==(if b then 1 else 0)
 | .int a,.int b=>a==b
 | .str a,.str b=>a==b
 |_,_=>false
theorem Bm{A:Around}{s:Θ}{y x:V}{u v:Γ}(ry:F5 y u)(rx:F5 x v)(fy:aO y=true)(fx:aO x=true):SeqAt.EqAt A s u v (i7 y x):=by
 cases y with
 |non=>
  cases ry;cases x with
  |non=>cases rx;exact SeqAt.EqAt.same _
  |bl b=>cases rx;exact SeqAt.EqAt.none_bool b
  |int b=>obtain⟨t,rfl⟩:=rx;exact SeqAt.EqAt.none_int b t
  |str b=>obtain⟨t,rfl⟩:=rx;exact SeqAt.EqAt.none_str b t
  |_=>exact absurd (show false=true from fx) JG
 |bl a=>
  cases ry;cases x with
  |non=>cases rx;exact SeqAt.EqAt.bool_none a
  |bl b=>cases rx;exact SeqAt.EqAt.bool_bool a b
  |int b=>obtain⟨t,rfl⟩:=rx;exact SeqAt.EqAt.bool_int a b t
  |str b=>obtain⟨t,rfl⟩:=rx;exact SeqAt.EqAt.bool_str a b t
  |_=>exact absurd (show false=true from fx) JG
 |int a=>
  obtain⟨t',rfl⟩:=ry;cases x with
  |non=>cases rx;exact SeqAt.EqAt.int_none a t'
  |bl b=>cases rx;exact SeqAt.EqAt.int_bool a t' b
  |int b=>obtain⟨t,rfl⟩:=rx;exact SeqAt.EqAt.int_int a t' b t
  |str b=>obtain⟨t,rfl⟩:=rx;exact SeqAt.EqAt.int_str a t' b t
  |_=>exact absurd (show false=true from fx) JG
 |str a=>
  obtain⟨t',rfl⟩:=ry;cases x with
  |non=>cases rx;exact SeqAt.EqAt.str_none a t'
  |bl b=>cases rx;exact SeqAt.EqAt.str_bool a t' b
  |int b=>obtain⟨t,rfl⟩:=rx;exact SeqAt.EqAt.str_int a t' b t
  |str b=>obtain⟨t,rfl⟩:=rx;exact SeqAt.EqAt.str_str a t' b t
  |_=>exact absurd (show false=true from fx) JG
 |_=>exact absurd (show false=true from fy) JG
def gF(x:V)(u:Γ):Bool:=match u with
 | .none=>i7 .non x
 | .bool b=>i7 (.bl b) x
 | .int i _=>i7 (.int i) x
 | .str z _=>i7 (.str z) x
 |_=>false
theorem tQ{x y:V}{u:Γ}(r:F5 y u)(f:aO y=true):gF x u=i7 y x:=by
 cases y with
 |non=>cases r;rfl
 |bl b=>cases r;rfl
 |int i=>obtain⟨t,rfl⟩:=r;rfl
 |str z=>obtain⟨t,rfl⟩:=r;rfl
 |_=>exact absurd (show false=true from f) JG
theorem ig{x:V}:∀{xs:List V} {us:List Γ},F3 xs us->xs.all aO=true->us.any (gF x)=xs.any fun y=>i7 y x
 |_,_,.nil,_=>rfl
 |y::xs,u::us,.cons r t,f=>by
  rw[List.all_cons,Jt]at f;rw[JS,JS,tQ r f.1,ig t f.2]
theorem fZ{A:Around}{s:Θ}{x:V}{v:Γ}(rx:F5 x v)(fx:aO x=true):∀{xs:List V} {us:List Γ},F3 xs us->xs.all aO=true->∀u∈us,SeqAt.EqAt A s u v (gF x u)
 |_,_,.nil,_=>fun u hu=>by cases hu
 |y::xs,u::us,.cons r t,f=>fun u' hu=>by
  rw[List.all_cons,Jt]at f;rcases Jl.mp hu with rfl|hu
  ·rw[tQ r f.1];exact Bm r rx f.1 fx
  ·exact fZ rx fx t f.2 u' hu
def Dc(x:V)(xs:List V):Bool:=xs.any fun y=>i7 y x
def DO(K:ι)(neg:Bool):R2:=fun x y H Q=>∃p xs,y= .ref p/\(F6 K H p xs\/F7 K H p xs)/\aO x=true/\xs.all aO=true/\Q (.bl (if neg then !Dc x xs else Dc x xs)) H
theorem kO:zw X (compareOp .NotIn) (DO X.K true):=by
 intro tx s σ H x y v u Q I rx ry h;obtain⟨p,xs,rfl,hq,fx,fs,q⟩:=h;cases ry;rcases hq with hq|hq
 ·obtain⟨its,r,pl,hz⟩:=I.list hq
  refine SeqAt.notIn_listAt (gF x) pl.isList (fun w hw=>fZ rx fx r fs w (by simpa using hw)) ⟨.bl _,H,I,rfl,?_⟩
  rw[show its.toArray.any (gF x)=its.any (gF x) by simp,ig r fs]
  exact q
 ·obtain⟨its,r,pl,hz⟩:=I.tuple hq
  refine SeqAt.notIn_tupleAt (gF x) pl (fun w hw=>fZ rx fx r fs w (by simpa using hw)) ⟨.bl _,H,I,rfl,?_⟩
  rw[show its.toArray.any (gF x)=its.any (gF x) by simp,ig r fs]
  exact q
theorem zm:ze X (.builtin "len") (fun xs H Q=>∃p ys,xs=[.ref p]/\(F6 X.K H p ys\/F7 X.K H p ys)/\Q (.int ys.length) H):=by
 intro tx s σ H xs us Q I r h;obtain⟨p,ys,rfl,hq,q⟩:=h;obtain⟨u,rfl,rx⟩:=zN r;cases rx;have hn:=ZY;rcases hq with hq|hq
 ·obtain⟨its,r',pl,hz⟩:=I.list hq
  have hlen:=r'.length;exact Calls.call_len_list pl.isList (by simp only[Js]<;>lia) ⟨.int ys.length,H,I.tok _,⟨s.toks+1,by rw[Js,hlen]⟩,q⟩
 ·obtain⟨its,r',pl,hz⟩:=I.tuple hq
  have hlen:=r'.length;exact len_tuple pl (by simp only[Js]<;>lia) ⟨.int ys.length,H,I.tok _,⟨s.toks+1,by rw[Js,hlen]⟩,q⟩
theorem lB:ze X (.builtin "len") (fun xs H Q=>∃z,xs=[.str z]/\z.length<=ζ/\Q (.int z.length) H):=by
 intro tx s σ H xs us Q I r h;obtain⟨z,rfl,hz,q⟩:=h;obtain⟨u,rfl,t,rfl⟩:=zN r;have hn:=ZY;exact len_str (by lia) ⟨.int z.length,H,I.tok _,⟨_,rfl⟩,q⟩
theorem c7:ze X (.type "list") (fun xs H Q=>∃p ys,xs=[.ref p]/\(F6 X.K H p ys\/F7 X.K H p ys)/\∀l,H l=none->Q (.ref l) (F2 H l (.lst ys))):=by
 intro tx s σ H xs us Q I r h;obtain⟨p,ys,rfl,hq,q⟩:=h;obtain⟨u,rfl,rx⟩:=zN r;cases rx;have fin:∀(its:List Γ),F3 ys its->ys.length<=ζ->∀(h':Ψ) (c':Nat),(∀b o',s.heap.get? b=some o'->h'.get? b=some o')->
   h'.get? s.heap.objs.size=some {cls:= .type "list",dict:=none,data:= .seq its.toArray c',slots:= #[]}->EP X tx σ Q (.ref s.heap.objs.size) {s with heap:=h'}:=fun its r' hz h' c' kp e=>
  ⟨.ref s.heap.objs.size,_,I.laid (t':=s.toks) kp (Jf _) (show Ge X.prog X.w _ h' _ (.lst ys)from⟨hz,its,c',r',e⟩),rfl,q _ (I.hok.fresh (Jf _))⟩
 rcases hq with hq|hq
 ·obtain⟨its,r',pl,hz⟩:=I.list hq
  have hlen:=r'.length;obtain⟨o,ho,hc,n,hd⟩:=pl.isList;exact call_list_seq p (.inl rfl) ho hc hd (fun h' c' kp e=>fin its r' hz h' c' kp e) (by simp only[Js]<;>lia)
 ·obtain⟨its,r',pl,hz⟩:=I.tuple hq
  have hlen:=r'.length;obtain⟨o,ho,hc,n,hd⟩:=pl;exact call_list_seq p (.inr rfl) ho hc hd (fun h' c' kp e=>fin its r' hz h' c' kp e) (by simp only[Js]<;>lia)
theorem qX:ze X (.type "tuple") (fun xs H Q=>∃p ys,xs=[.ref p]/\((F6 X.K H p ys/\∀l,H l=none->Q (.ref l) (F2 H l (.tup ys)))\/(F7 X.K H p ys/\Q (.ref p) H))):=by
 intro tx s σ H xs us Q I r h;obtain⟨p,ys,rfl,h⟩:=h;obtain⟨u,rfl,rx⟩:=zN r;cases rx;rcases h with⟨hq,q⟩|⟨hq,q⟩
 ·obtain⟨its,r',pl,hz⟩:=I.list hq
  have hlen:=r'.length;refine call_tuple_list pl.isList (fun h' kp=>?_) (by simp only[Js]<;>lia)
  have I1:FY X tx σ H {s with heap:=h'}:=I.kept (t':=s.toks) kp
  have I2:FY X tx σ (F2 H h'.objs.size (.tup ys)) {s with heap:=h'.push {cls:= .type "tuple",data:= .seq its.toArray}}:=
   I1.laid (t':=s.toks) (fun b o e=>Jh _ e) (Jf _) (show Ge X.prog X.w _ _ _ (.tup ys)from⟨hz,its,r',IsTup.new _ _⟩)
  exact⟨.ref h'.objs.size,_,I2,rfl,q _ (I1.hok.fresh (Jf _))⟩
 ·obtain⟨its,r',pl,hz⟩:=I.tuple hq
  exact call_tuple_same pl ⟨.ref p,H,I,rfl,q⟩
def C9(K:ι)(T:String)(x:V)(H:Hp):Prop:=match x with
 | .str _=>T="str"
 | .int _=>T="int"
 | .ref p=>(T="list"/\∃xs,F6 K H p xs)\/(T="tuple"/\∃o,K.lookup p=some o/\o.cls= .type "tuple"/\o.dict=none)\/
   (T="dict"/\((∃kvs,H p=some (.dK kvs))\/∃kvs,H p=some (.dT kvs)))\/(T="set"/\∃S n,H p=some (.set S n))
 |_=>False
theorem Cs{tx:FU}{σ:St}{H:Hp}{s:Θ}{T:String}{x:V}{v:Γ}(I:FY X tx σ H s)(r:F5 x v)(ty:C9 X.K T x H):
  s.TypeIs v T/\∀a,v= .ref a->∃ob,s.heap.get? a=some ob/\ob.dict=none:=by
 cases x with
 |str z=>
  obtain⟨t,rfl⟩:=r
  cases(show T="str" from ty)
  exact⟨typeIs_str s z t,fun _ e=>nomatch e⟩
 |int i=>
  obtain⟨t,rfl⟩:=r
  cases(show T="int" from ty)
  exact⟨typeIs_int s i t,fun _ e=>nomatch e⟩
 |ref p=>
  cases r;rcases ty with⟨rfl,xs,hq⟩|⟨rfl,o,hk,hc,hd⟩|⟨rfl,hk⟩|⟨rfl,S,n,hk⟩
  ·obtain⟨its,_,pl,_⟩:=I.list hq
   refine⟨pl.isList.typeIs,fun a e=>?_⟩
   cases e;obtain⟨o,n,e,c,hd,_⟩:=pl
   exact⟨o,e,hd⟩
  ·refine⟨⟨o,I.kIn p o hk,hc⟩,fun a e=>?_⟩
   cases e
   exact⟨o,I.kIn _ o hk,hd⟩
  ·have z:∃o,s.heap.get? p=some o/\o.ExactDict:=by
    rcases hk with⟨kvs,hk⟩|⟨kvs,hk⟩
    ·obtain⟨_,_,_,_,o,_,_,e,ex,_⟩:=I.hok p _ hk
     exact⟨o,e,ex⟩
    ·obtain⟨_,_,_,_,o,_,_,e,ex,_⟩:=I.hok p _ hk
     exact⟨o,e,ex⟩
   obtain⟨o,e,ex⟩:=z;refine⟨⟨o,e,ex.1⟩,fun a e2=>?_⟩
   cases e2
   exact⟨o,e,ex.2.1⟩
  ·obtain⟨o,_,_,_,e,ex,_⟩:=I.hok p _ hk
   refine⟨⟨o,e,ex.1⟩,fun a e2=>?_⟩
   cases e2
   exact⟨o,e,ex.2.1⟩
 |_=>exact False.elim ty
def Bf(K:ι)(T:String)(r:V->List V->Hp->VK->Prop)(to:TE)(t:TA):TE:=fun σ H Q=>to σ H fun x H1=>C9 K T x H1/\t σ H1 fun xs H2=>r x xs H2 Q
variable{o e:Φ}{es:List Φ}{to:TE}{t:TA}{name:Str}{apos cpos:Pos}{T id:String}{r:V->List V->Hp->VK->Prop}
theorem CJ(pa:PlainAttrs T)(slot:Slot T name id)(hty:typeOf (.builtin id)=pure (.type "method_descriptor"))(hm:tN X id r)(ho:PE X o to)(ha:PA X (e::es) t)
  (hbase:attributeBase o name X.env (eval o X.env)=eval o X.env:=by rfl)
  (hfew:((backTo cpos (θ (e::es) X.env)).all (fun x=> !x.1)&&(backToKw cpos (keywordEach [] X.env)).all (fun x=>x.1.isSome)
   &&decide ((e::es).length+([]:List Keyword).length+(if([]:List Keyword).isEmpty then 0 else 1)<30))=true:=by rfl)
  (hline:(apos.endLine==cpos.line)=true:=by rfl)(hs:θ (e::es) X.env=(false,eval e X.env)::θ es X.env:=by rfl)(hplain:(backTo cpos (θ es X.env)).any (·.1)=false:=by rfl):
  PE X (.Call (.Attribute o name apos) (e::es) [] cpos) (Bf X.K T r to t):=by
 intro tx s σ H Q I h;refine wpAny_Call_method_late hbase hfew hline rfl (qB (ho tx s σ H _ I h) fun v s1 zq=>?_)
 obtain⟨x,H1,I1,r1,ty,q1⟩:=zq;obtain⟨h1,h2⟩:=Cs I1 r1 ty;refine⟨T,id,pa,slot,hty,h1,h2,?_⟩
 have hA:=ha cpos tx s1 σ H1 _ I1 q1;rw[hs]at hA⊢;refine Calls.callWith_builtin (by show(false||(backTo cpos (θ es X.env)).any (·.1))=false;rw[hplain]<;>rfl) (Calls.evalArgs_plain ?_)
 exact qB hA fun us s2 ⟨vs,H2,I2,r2,q2⟩=>hm tx s2 σ H2 x vs v us Q I2 r1 r2 q2
end
def C5(X:Cx)(id:String)(r:V->List V->Hp->VK->Prop):Prop:=
 ∀(tx:FU) (s:Θ) (σ:St) (H:Hp) (x:V) (xs:List V) (v:Γ) (us:List Γ) (Q:VK),FY X tx σ H s->F5 x v->F3 xs us->r x xs H Q->
  ε (model X.prog X.w) X.A (call (.builtin id) (v::us)) (EP X tx σ Q) X.xe s
theorem F3.one:∀{x:V} {us:List Γ},F3 [x] us->∃u,us=[u]/\F5 x u
 :=by
 intro x us h;cases h with
 |cons r q=>cases q;exact⟨_,rfl,r⟩
theorem F3.two:∀{x y:V} {us:List Γ},F3 [x,y] us->∃u v,us=[u,v]/\F5 x u/\F5 y v
 :=by
 intro x y us h;cases h with
 |cons r q=>cases q with
  |cons q z=>cases z;exact⟨_,_,rfl,r,q⟩
theorem F3.eraseIdx:∀{xs:List V} {us:List Γ} (i:Nat),F3 xs us->F3 (xs.eraseIdx i) (us.eraseIdx i)
 |_,_,_,.nil=> .nil
 |_,_,0,.cons _ t=>t
 |_,_,i+1,.cons r t=> .cons r (F3.eraseIdx i t)
theorem F3.rep{xs:List V}{us:List Γ}(h:F3 xs us):∀k:Nat,F3 (List.replicate k xs).flatten (List.replicate k us).flatten
 |0=> .nil
 |k+1=>by
  rw[EU,EU,Ft,Ft];exact F3.append h (F3.rep h k)
theorem jC{α:Type}:∀(l:List α) (i:Nat),(l.eraseIdx i).length<=l.length
 | [],_=>Jf _
 |_::_,0=>Ey _
 |_::r,i+1=>EA (jC r i)
theorem i5(its:List Γ):∀(k:Nat) (acc:List Γ),
  List.foldl (fun x1 x2=>x1++x2) acc.toArray (List.replicate k its.toArray)=(acc++(List.replicate k its).flatten).toArray
 |0,acc=>by simp
 |k+1,acc=>by
  have e:acc.toArray++its.toArray=(acc++its).toArray:=by simp
  have e2:(acc++its)++(List.replicate k its).flatten=acc++(List.replicate (k+1) its).flatten:=by
   rw[EU,Ft,Ee]
  rw[<- e2,<- i5 its k (acc++its),<- e,EU,List.foldl_cons]
section
variable{X:Cx}{tx:FU}{σ:St}{H:Hp}{s:Θ}{l:Δ}{xs ys:List V}
theorem FY.lset{its its':List Γ}{n:Nat}{f:Array Γ->Array Γ}{t':Nat}(I:FY X tx σ H s)(hH:H l=some (.lst xs))
  (e:s.heap.get? l=some {cls:= .type "list",data:= .seq its.toArray n})(hf:f its.toArray=its'.toArray)(hv:F3 ys its')(hz:ys.length<=ζ):
  FY X tx σ (F2 H l (.lst ys)) {s with heap:=s.heap.update l (Obj.mapSeq f),toks:=t'}:=by
 have q:=PySem.IsL.update e f;rw[hf]at q;refine I.write (x:=l) (e:=l) (by rw[hH];exact trivial) (.inl rfl) (fun b' u hb hu=>(ES s.heap (Obj.mapSeq f) (Ne.symm hb)).trans hu) ⟨_,q⟩ ?_
 exact⟨hz,its',_,hv,q⟩
theorem FY.lnew{its:List Γ}{t':Nat}(I:FY X tx σ H s)(hv:F3 ys its)(hz:ys.length<=ζ):
  FY X tx σ (F2 H s.heap.objs.size (.lst ys)) {s with heap:=s.heap.push {cls:= .type "list",data:= .seq its.toArray},toks:=t'}:=
 I.laid (fun _ _ q=>Jh _ q) (Jf _) ⟨hz,its,0,hv,Jp _ rfl⟩
theorem FY.fresh(I:FY X tx σ H s):H s.heap.objs.size=none:=I.hok.fresh (Jf _)
theorem FY.lstM(I:FY X tx σ H s)(hH:H l=some (.lst xs)):xs.length<=ζ/\∃(its:List Γ) (n:Nat),F3 xs its/\xs.length=its.length/\s.heap.get? l=some {cls:= .type "list",data:= .seq its.toArray n}:=by
 obtain⟨z,its,n,r,e⟩:=I.hok l _ hH
 exact⟨z,its,n,r,r.length,e⟩
theorem vk{n:Nat}(h:n<=ζ):γ.List.listTooLong n=false:=by
 unfold γ.List.listTooLong;exact Jm (by lia)
end
section
variable{X:Cx}
def og:V->List V->Hp->VK->Prop:=fun x vs H Q=>∃l xs y,x= .ref l/\vs=[y]/\H l=some (.lst xs)/\xs.length<ζ/\Q .non (F2 H l (.lst (xs++[y])))
theorem uh:C5 X "list.append" og:=by
 intro tx s σ H x vs v us Q I rx rv h;obtain⟨l,xs,y,rfl,rfl,hH,hz,q⟩:=h;cases rx;obtain⟨u,rfl,ru⟩:=rv.one;obtain⟨z,its,n,r,hl,e⟩:=I.lstM hH;refine call_meets F.slot_list_append ⟨_,e,rfl⟩ F.entry_list_append (F.args_list_append_2 _ _) (PySem.list_append l its.toArray n u (by rw[Js];lia)) ⟨e,?_⟩
 refine⟨.non,_,I.lset (its':=its++[u]) hH e (by simp) (r.append (.cons ru .nil)) ?_,rfl,q⟩
 rw[Jw,Ef];lia
def tK:V->List V->Hp->VK->Prop:=fun x vs H Q=>∃l xs i k y,x= .ref l/\vs=[.int i]/\H l=some (.lst xs)/\ -(2 ^ 63)<=i/\i<2 ^ 63/\seqIndex? i xs.length=some k/\xs[k]? =some y/\Q y (F2 H l (.lst (xs.eraseIdx k)))
theorem vx:C5 X "list.pop" tK:=by
 intro tx s σ H x vs v us Q I rx rv h;obtain⟨l,xs,i,k,y,rfl,rfl,hH,h1,h2,hk,hy,q⟩:=h;cases rx;obtain⟨u,rfl,ru⟩:=rv.one;obtain⟨t,rfl⟩:=ru;obtain⟨z,its,n,r,hl,e⟩:=I.lstM hH;obtain⟨w,hw,rw'⟩:=r.get hy;refine call_meets F.slot_list_pop ⟨_,e,rfl⟩ F.entry_list_pop (F.args_list_pop_2 _ _)
  (MeetsSeq.list_pop_at l its.toArray n i t k w (fitsIndex_both h1 h2) (by rw[Js,<- hl];exact hk) (by rw[<- Array.getElem?_toList];exact hw) (by rw[Js];lia)) ⟨e,?_⟩
 refine⟨y,_,I.lset (its':=its.eraseIdx k) hH e ?_ (r.eraseIdx k) ?_,rw',q⟩
 ·show its.toArray.eraseIdxIfInBounds k=(its.eraseIdx k).toArray
  rw[List.eraseIdxIfInBounds_toArray]
 ·have:=jC xs k
  lia
def Dx:R2:=fun x y H Q=>∃l k xs,x= .ref l/\y= .int k/\H l=some (.lst xs)/\ -(2 ^ 63)<=k/\k<2 ^ 63/\xs.length*k.toNat<=ζ/\
 ∀p,H p=none->Q (.ref p) (F2 H p (.lst (List.replicate k.toNat xs).flatten))
theorem yf{α:Type}(xs:List α)(k:Nat):(List.replicate k xs).flatten.length=k*xs.length:=by
 induction k with
 |zero=>simp
 |succ k ih=>rw[EU,Ft,Jw,ih,Nat.succ_mul,Nat.add_comm]
theorem tH:zw X (binaryOp .Mult) Dx:=by
 intro tx s σ H x y v u Q I rx ry h;obtain⟨l,k,xs,rfl,rfl,hH,h1,h2,hz,q⟩:=h;cases rx;obtain⟨t,rfl⟩:=ry;obtain⟨z,its,n,r,hl,e⟩:=I.lstM hH;have hlen:its.toArray.size*k.toNat<=ζ:=by rw[Js,<- hl];exact hz
 have hcap:¬its.toArray.size*k.toNat>(2 ^ 63-1)/8:=by
  have:(ζ:Nat)<=(2 ^ 63-1)/8:=by decide
  lia
 have hfit:¬(!γ.List.listFitsIndex k)=true:=by
  rw[fitsIndex_both h1 h2];exact JG
 have hlong:¬γ.List.listTooLong (its.toArray.size*k.toNat)=true:=by
  rw[vk hlen];exact JG
 have hnew:List.foldl (fun x1 x2=>x1++x2) #[] (List.replicate (if its.toArray.isEmpty=true then 0 else k.toNat) its.toArray)=(List.replicate k.toNat its).flatten.toArray:=by
  have f0:∀m:Nat,List.foldl (fun x1 x2=>x1++x2) #[] (List.replicate m its.toArray)=(List.replicate m its).flatten.toArray:=fun m=>by
   have:=i5 its m []
   rw[List.nil_append]at this;exact this
  rw[f0];cases its with
  |nil=>simp
  |cons a r'=>rw[Jb (by simp)]
 refine wpAny_binaryOp_repeat_ref (T:="list") (U:="int") (by decide) ⟨_,e,rfl⟩ (fun s'=>typeIs_int s' k t) noFill_list_mul F.fills_int_mul F.slot_int_rmul repeat_list F.slot_int_index.lookup
  (call_meets F.slot_int_rmul (typeIs_int s k t) F.entry_int_rmul (F.args_int_rmul_2 _ _) (int___rmul___int_list k t l its.toArray n)
   ⟨e,rfl,⟨_,e,rfl⟩,call_meets F.slot_list_mul ⟨_,e,rfl⟩ F.entry_list_mul (F.args_list_mul_2 _ _) (AutoListH.list___mul___list_int_3 l its.toArray n k t hfit hcap hlong) ⟨e,?_⟩⟩)
 rw[hnew]
 exact⟨.ref _,_,I.lnew (t':=s.toks) (r.rep k.toNat) (by rw[yf,Nat.mul_comm];exact hz),rfl,q _ I.fresh⟩
end
end L2
namespace Att
open PySem PySem.W PySem.Calls PyProof.Rows
theorem hJ{P:Params}{h:Ψ}:∀(ns:List Int) (vs:List Γ),WellAll P h vs (ns.map WData.int)->IntsAre vs ns:=by
 intro ns
 induction ns with
 |nil=>
  intro vs w;rw[Fc]at w;cases w;exact .nil
 |cons n ns ih=>
  intro vs w;rw[JU]at w;cases w with
  |cons a b=>
   cases a;exact .cons _ _ (ih _ b)
theorem rU{l:OpenLaw}{n:Nat}(hn:l.most=some n){P:Params}{h:Ψ}{args:List WData}{vals:List Γ}
  (hpre:l.row.toRowW.claim.pre args=true)(hwl:WellAll P h vals args):
  ∃a vs ns,vals=[Γ.ref a]/\args=[WData.list (ns.map WData.int)]/\h.get? a=some {cls:= .type "list",data:= .seq vs.toArray}/\IntsAre vs ns/\ns.length<=n:=by
 have hsh:WShape.hasAll [] args [.list .int]=true:=(pre_splitW hpre).1
 have hc:l.pre.holds [] {args:=args}=true:=(pre_splitW hpre).2
 obtain⟨d,r,rfl,h1,h2⟩:=hasAllW_cons hsh
 obtain rfl:=hasAllW_nil h2
 obtain⟨xs,rfl,h3⟩:=hasW_list h1;obtain⟨ns,rfl⟩:=items_int h3;have hlen:ns.length<=n:=by
  unfold OpenLaw.pre at hc;have h4:(WTm.not (.lt (.lit (.int (n:Int))) (.len (.arg 0)))).holds [] {args:=[.list (ns.map .int)]}=true:=by
   have h4:=(holds_andW hc).1;rw[hn]at h4;exact h4
  have h5:=condW_of h4 (w_not (w_lt w_lit (w_len_list (w_arg rfl))));rw[Je]at h5;refine Fd fun q=>?_
  have q':(n:Int)<((ns.length:Nat):Int):=by lia
  first
   |(rw[Jg q']at h5;exact absurd h5 (by decide))
   |(simp at h5;lia)
 cases hwl with
 |cons w1 w2=>
  cases w2;cases w1 with
  |list ho hall=>exact⟨_,_,ns,rfl,rfl,ho,hJ ns _ hall,hlen⟩
theorem uE(l:OpenLaw)(args:List WData):l.row.toRowW.claim.post args (.bool true) args=true:=
 postW_of (r:=l.row.toRowW) (X:=(true==true))
  (show WShape.has [] (.bool true) .bool=true by first|rfl|decide|simp [WShape.has,WShape.arms,WShape.armsAll])
  (show(WTm.eq .res (.lit (.bool true))).value [] {args:=args,res:=some (.bool true),after:=args}=some (.bool (true==true))from w_eq_bool (w_res rfl) w_lit) rfl
theorem attach_call{l:OpenLaw}{n:Nat}{q:Ξ}{loose:List Str}{XP:(Str->Option Γ)->Ψ->Prop}{YP:Ω->Ψ->Prop}{d:DefRec}
  (hn:l.most=some n)(hdf:d.params.defaults=[])
  (call:∀(w:Ω) (s₀ s₁:Θ) (mg mb:FT) (fa:Δ) (o:Obj) (pm cd doc:Γ) (a:Δ) (vs:List Γ) (ns:List Int),
   Ground q loose [] XP w s₀ mg mb s₁.heap->YP w s₁.heap->
   s₁.heap.get? fa=some o->o.data= .func (docDef d.name d.params d.body d.scope pm cd doc)->s₁.heap.CodeRec cd d.name->mg d.name=some (.ref fa)->
   s₁.heap.get? a=some {cls:= .type "list",data:= .seq vs.toArray}->IntsAre vs ns->ns.length<=n->s₁.gens= #[]->
   codeAny (model l.prog w) callerA (.call (.ref fa) ⟨[.ref a],[]⟩) (fun r s'=>r= .ok (.ret (.bool true))/\OldK s₁.heap s'.heap/\s'.os=s₁.os/\AllBare s'.gens) s₁):
  WalkO q loose XP YP l.row.toRowW d [] (fun f vs=>PySem.call f vs):=by
 intro w s₀ s₁ mg mb G Y fa o pm cd doc dV kV ho hd hcd hD hmg hg args vals as hpre hlay hrd hwl hlo
 obtain rfl:dV= .none:=Dflts.none hD hdf
 obtain rfl:kV= .none:=Dflts.noKw hD
 obtain⟨a,vs,ns,rfl,rfl,hobj,hints,hlen⟩:=rU hn hpre hwl;refine enter_call (EI (call w s₀ s₁ mg mb fa o pm cd doc a vs ns G Y ho (fd_plain hd) hcd hmg hobj hints hlen hg) fun r s' hq=>?_)
 obtain⟨rfl,h2,h3,h4⟩:=hq
 exact⟨.inl ⟨.bool true,.bool true,[],rfl,fun _=>rfl,.bool true,uE l _,fun _=>⟨List.Pairwise.nil,fun _ hm=>(nomatch hm)⟩⟩,h2,h3,h4⟩
end Att
namespace L2
open PySem PySem.Spec PyProof.Rows
theorem eF:∀{vs:List Γ} {ns:List Int},IntsAre vs ns->F3 (ns.map V.int) vs
 |_,_,.nil=> .nil
 |_,_,.cons n t h=> .cons ⟨t,rfl⟩ (eF h)
def vQ(H:Hp):Prop:=∀b,H b=none\/∃o xs,H b=some (.frz o (.lst xs))
theorem vK{P:Ξ}{w:Ω}{K:ι}{mg mb:FT}{CX:fD}{k:Nat}{fa a:Δ}{fd:FuncData}{x:Str}{sp:Sp}{s₁:Θ}{vs:List Γ}{ns:List Int}
  (KX:K.In s₁.heap)(hns:s₁.heap.Ns η mg)(hb:s₁.heap.Ns builtinsNs mb)(hbb:∀x:Str,x≠"__name__"->mb x=bootBuiltins x)(hlim:s₁.heap.NoLimit)(hg:s₁.gens= #[])
  (ha:s₁.heap.get? a=some {cls:= .type "list",data:= .seq vs.toArray})(hi:IntsAre vs ns)(hl:ns.length<=ζ)(hr:Gg k callerA)
  (F:∀base:Ψ,K.In base->base.Ns η mg->Ht P w K mg base CX k fa fd [x] sp)(hbind:∀(s:Θ) (u:Γ),BindsTo s fd ⟨[u],[]⟩ [(x,u)])
  (hsp:∀H:Hp,vQ H->F6 K H a (ns.map V.int)->sp [.ref a] H (fun v _=>v= .bl true) fun _ _ _=>False)
  (hCX:∀H e s',CX [] H s₁ (fun _ _ _=>False) e s'->False):
  codeAny (model P w) callerA (.call (.ref fa) ⟨[.ref a],[]⟩) (fun r s'=>r= .ok (.ret (.bool true))/\OldK s₁.heap s'.heap/\s'.os=s₁.os/\AllBare s'.gens) s₁:=by
 have rv:=eF hi;have lenV:=hi.length;have core:∀H:Hp,vQ H->F6 K H a (ns.map V.int)->Hv P w H s₁.heap->(∀b,H b≠none->b=a)->(H a≠none->K.lookup a=none)->
   codeAny (model P w) callerA (.call (.ref fa) ⟨[.ref a],[]⟩) (fun r s'=>r= .ok (.ret (.bool true))/\OldK s₁.heap s'.heap/\s'.os=s₁.os/\AllBare s'.gens) s₁:=by
  intro H hO hS hok hA hK;have base_of:∀{b:Δ} {o:Obj},s₁.heap.get? b=some o->H b=none->(ci s₁.heap H).get? b=some o:=fun e n=>ve e n
  have noA:∀{b:Δ} {o:Obj} {es:Array DictEntry} {ep:Nat},s₁.heap.get? b=some o->o.data= .dict es ep->H b=none:=fun{b o es ep} e d=>by
   cases q:H b with
   |none=>rfl
   |some u=>
    have e':b=a:=hA b (by rw[q];simp)
    subst e';rw[ha]at e;cases e
    have d':Data.seq vs.toArray _=Data.dict es ep:=d
    cases d'
  have nsK:∀{b:Δ} {m:FT},s₁.heap.Ns b m->(ci s₁.heap H).Ns b m:=fun{b m} ⟨o,es,ep,e,d,r⟩=>⟨o,es,ep,base_of e (noA e d),d,r⟩
  have hKb:K.In (ci s₁.heap H):=fun b o e=>base_of (KX b o e) (by
   cases q:H b with
   |none=>rfl
   |some u=>
    have e':b=a:=hA b (by rw[q];simp)
    subst e';rw[hK (by rw[q];simp)]at e;cases e)
  have hM:IW K mg (ci s₁.heap H):=⟨hKb,nsK hns,⟨mb,nsK hb,hbb⟩,let⟨mc,h1,h2⟩:=hlim;⟨mc,nsK h1,h2⟩⟩
  have e0:Ia P w K mg (ci s₁.heap H) callerA [] s₁ H:=⟨rfl,hM,fun b o e=>Ae e,Nat.le_of_eq (tP _ _),trivial,fun b hb=>absurd (show b∈([]:List Δ)from hb) (by simp),hok,.of_eq hg⟩
  refine EI ((F _ hKb (nsK hns)).run callerA [] s₁ H ⟨[.ref a],[]⟩ [.ref a] [.ref a] _ _ hr e0 (hbind s₁ (.ref a)) (.cons rfl .nil) (hsp H hO hS)) fun r s' h=>?_
  cases r with
  |error e=>exact(hCX H e s' h).elim
  |ok fl=>
   cases fl with
   |next=>exact False.elim h
   |brk=>exact False.elim h
   |cont=>exact False.elim h
   |ret u=>
    obtain⟨v,H',os,bare,un,hok',r',q⟩:=h;have q':v= .bl true:=q
    subst q'
    obtain rfl:u=Γ.bool true:=r'
    refine⟨rfl,OldK.of_keep fun b o e=>?_,os,bare⟩
    cases q:H b with
    |none=>exact un.keep b o e q (by intro z;exact absurd (show b∈([]:List Δ)from z) (by simp)) (by simp)
    |some u=>
     rcases hO b with z|⟨ob,xs,z⟩
     ·rw[q]at z;cases z
     ·have z2:=un.frzs b ob _ z
      obtain⟨e1,_⟩:=hok b _ z;obtain⟨e2,_⟩:=hok' b _ z2;rw[e]at e1;cases e1
      exact e2
 cases hk:K.lookup a with
 |some o=>
  have e:=KX a o hk;rw[ha]at e;cases e;refine core (fun _=>none) (fun _=> .inl rfl) (.inr ⟨_,vs.toArray,_,hk,rfl,rfl,rfl,by rw[Js,lenV];exact hl,by simpa using rv⟩) (fun b u z=>by have z':(none:Option HO)=some u:=z;cases z') (fun b z=>absurd rfl z) fun z=>absurd rfl z
 |none=>
  refine core (fun b=>if b=a then some (.frz {cls:= .type "list",data:= .seq vs.toArray} (.lst (ns.map V.int)))else none) (fun b=>?_) (.inl (.inr ⟨{cls:= .type "list",data:= .seq vs.toArray},Jc rfl⟩)) (fun b u z=>?_) (fun b z=>?_) fun _=>hk
  ·by_cases hb:b=a
   ·exact .inr ⟨_,_,Jc hb⟩
   ·exact .inl (Jb hb)
  ·by_cases hb:b=a
   ·have z':=(Jc hb).symm.trans z
    cases z';subst hb
    exact⟨ha,by rw[Je];exact hl,vs,_,rv,ha⟩
   ·have z':=(Jb hb).symm.trans z
    cases z'
  ·by_cases hb:b=a
   ·exact hb
   ·exact absurd (Jb hb) z
theorem Ab{l:W.OpenLaw}{n k:Nat}{q:Ξ}{loose:List Str}{XP:(Str->Option Γ)->Ψ->Prop}{YP:Ω->Ψ->Prop}{d:DefRec}{K:Params->ι}{CX:Ω->fD}{sp:Ω->Sp}{x:Str}
  (hn:l.most=some n)(hn2:n<=ζ)(hdf:d.params.defaults=[])(hr:Gg k callerA)
  (hY:∀(w:Ω) (h:Ψ),YP w h->(K w.params).In h)
  (F:∀(w:Ω) (mg:FT) (fa:Δ) (h:Ψ),(K w.params).In h->h.Ns η mg->mg d.name=some (.ref fa)->
   ∃fd:FuncData,(∀(s:Θ) (u:Γ),BindsTo s fd ⟨[u],[]⟩ [(x,u)])/\
    ∀base:Ψ,(K w.params).In base->base.Ns η mg->Ht l.prog w (K w.params) mg base (CX w) k fa fd [x] (sp w))
  (hsp:∀(w:Ω) (H:Hp) (a:Δ) (ns:List Int),ns.length<=n->vQ H->F6 (K w.params) H a (ns.map V.int)->sp w [.ref a] H (fun v _=>v= .bl true) fun _ _ _=>False)
  (hCX:∀(w:Ω) (H:Hp) (s:Θ) (e:Γ) (s':Θ),CX w [] H s (fun _ _ _=>False) e s'->False):
  W.WalkO q loose XP YP l.row.toRowW d [] (fun f vs=>PySem.call f vs):=by
 refine Att.attach_call hn hdf fun w s₀ s₁ mg mb fa o pm cd doc a vs ns G Y ho hd hcd hmg hobj hints hlen hg=>?_
 have KX:=hY w _ Y;obtain⟨fd,hb,hF⟩:=F w mg fa _ KX G.T.g hmg;exact vK KX G.T.g G.T.b G.T.builtins G.T.nolimit hg hobj hints (JO hlen hn2) hr hF hb (fun H hO hS=>hsp w H a ns hlen hO hS) fun H e s'=>hCX w H s₁ e s'
def zG(s:δ)(j:Nat):δ:=match s with
 | .ClassDef _ _ _ body _ _ _ _ _ _ _=>body.getD j (.Pass ⟨0,0,0,0⟩)
 |_=> .Pass ⟨0,0,0,0⟩
def Qq(s:δ):Arguments:=match s with
 | .FunctionDef _ a _ _ _ _ _ _ _ _=>a
 |_=>{posonlyargs:=[],args:=[],vararg:=none,kwonlyargs:=[],kw_defaults:=[],kwarg:=none,defaults:=[]}
def zF(s:δ):List δ:=match s with
 | .FunctionDef _ _ b _ _ _ _ _ _ _=>b
 |_=>[]
def qh(s:δ):Scope:=match s with
 | .FunctionDef _ _ _ _ _ _ sc _ _ _=>sc
 |_=>{kind:= .function,names:=[],isGenerator:=false,isCoroutine:=false}
abbrev aF:fD:=fun _ _ _ _ _ _=>False
abbrev E0:XK:=fun _ _ _=>False
theorem kg{X:Cx}:cO aF X E0:=fun _ _ _ _ _ _ _ h=>h.elim
structure Ii(K:ι)(x Ld:Str)(st:δ)(f:Δ)(fd:FuncData):Prop where
 ex:∃(oc:Γ) (od:Option Δ) (kV doc pm:Γ) (an:Option Δ) (cdv ct:Γ) (osl:Array (Option Γ)),
  fd=PySem.W.fnOf x Ld (Qq st) (zF st) (qh st) .none kV doc pm an cdv ct/\K.lookup f=some ⟨oc,od,.func fd,osl⟩/\PySem.W.codeIn K cdv Ld=true
 kp:PySem.W.keepIn K (.ref f)=true
section
variable{P:Ξ}{w:Ω}{K:ι}{mg:FT}{base:Ψ}
theorem Ii.ok{x Ld:Str}{st:δ}{f:Δ}{fd:FuncData}{N ps:List Str}{k:Nat}{sp:Sp}(F:Ii K x Ld st f fd)(S:FW N ps (qh st))(len:∀vs H Q E,sp vs H Q E->vs.length=ps.length)
  (hbody:∀(cdv:Γ) (A:Around) (outer:List Env) (s:Θ) (H:Hp) (vs:List V) (Q:VK) (E:XK),Gg k (A.deeper (envOfC Ld (qh st) s.heap.objs.size f cdv))->sp vs H Q E->
   ∃t,HY (bg aF P w K mg base N Ld (qh st) f cdv A outer s H E).nox (zF st) t/\t {nx:=fun _ H'=>Q .non H',rt:=Q} (QZ N vs) H):Ht P w K mg base aF (k+1) f fd ps sp:=by
 obtain⟨oc,od,kV,doc,pm,an,cdv,ct,osl,rfl,lk,hcd⟩:=F.ex;refine CY lk hcd S len fun A outer s H vs Q E hr hsp=>?_
 obtain⟨t,h,q⟩:=hbody cdv A outer s H vs Q E hr hsp
 exact⟨t,h.nox,q⟩
theorem Ii.binds{x Ld:Str}{st:δ}{f:Δ}{fd:FuncData}{ps:List Str}(F:Ii K x Ld st f fd)
  (h:∀(kV doc pm:Γ) (an:Option Δ) (cdv ct:Γ) (us:List Γ),us.length=ps.length->bindArgs (W.fnOf x Ld (Qq st) (zF st) (qh st) .none kV doc pm an cdv ct) ⟨us,[]⟩=pure (ps.zip us)):GU K fd ps []:=by
 obtain⟨oc,od,kV,doc,pm,an,cdv,ct,osl,rfl,lk,hcd⟩:=F.ex;exact .all (h kV doc pm an cdv ct)
theorem lY{x Ld:Str}{st:δ}{f:Δ}{oc:Γ}{od an:Option Δ}{osl:Array (Option Γ)}{kV doc pm cdv ct:Γ}(l:K.lookup f=some ⟨oc,od,.func (W.fnOf x Ld (Qq st) (zF st) (qh st) .none kV doc pm an cdv ct),osl⟩)
  (c:W.codeIn K cdv Ld=true)(k:W.keepIn K (.ref f)=true):Ii K x Ld st f (W.fnOf x Ld (Qq st) (zF st) (qh st) .none kV doc pm an cdv ct):=⟨⟨oc,od,kV,doc,pm,an,cdv,ct,osl,rfl,l,c⟩,k⟩
end
theorem zk{A B:Prop}(h:B):if false=true then A else B:=by
 rw[Jb JG];exact h
theorem zj{A B:Prop}(h:A):if true=true then A else B:=by
 rw[Jc rfl];exact h
theorem qQ{c A B:Prop} [Decidable c](h1:c->A)(h2:¬c->B):if c then A else B:=by
 by_cases h:c
 ·rw[Jc h]
  exact h1 h
 ·rw[Jb h]
  exact h2 h
theorem eQ{c A B:Prop} [Decidable c](hc:c)(h:B):if(!decide c)=true then A else B:=by
 rw[Jg hc];exact zk h
def FV(H H':Hp):Prop:=∀b o,H b=some o->H' b=some o
theorem FV.refl(H:Hp):FV H H:=fun _ _ h=>h
theorem FV.trans{H H1 H2:Hp}(a:FV H H1)(b:FV H1 H2):FV H H2:=fun c o h=>b c o (a c o h)
theorem FV.seq{K:ι}{H H':Hp}{a:Δ}{xs:List V}(e:FV H H')(h:F6 K H a xs):F6 K H' a xs:=by
 rcases h with(h|⟨o,h⟩)|h
 ·exact .inl (.inl (e _ _ h))
 ·exact .inl (.inr ⟨o,e _ _ h⟩)
 ·exact .inr h
end L2
namespace L3
open PySem PySem.Spec PyProof.Rows L2
def zH(X:Cx)(N:List Str)(scope:Scope)(cl:List (Str×Δ))(C:Δ)(s:Θ)(H:Hp)(fp:List Δ):Cx:=
 {X with N:=N,s₀:=s,H₀:=H,env:=compEnvC scope cl C X.env,outer:=X.stack,ex:=fp,fn:=fun _=>false,pn:=[],xe:=fun _ _=>False}
structure GN(X:Cx)(scope:Scope)(fr:List Str)(js:List Nat):Prop where
 kind:scope.kind= .function
 names:∀x∈scope.names,x.2= .local->scope.names.lookup x.1=some .local
 nocell:∀x∈scope.names,x.2≠ .cell
 free:∀x∈scope.names,x.2= .free->x.1∈fr
 len:js.length=fr.length
 at_:∀(i j:Nat) (y:Str),js[i]? =some j->fr[i]? =some y->X.N[j]? =some y/\X.env.kindOf y=some .cell/\(relabel scope X.env).names.lookup y=some .cell
theorem zP{α:Type}{y:Str}:∀{l:List (Str×α)},y∈l.map (·.1)->∃c,l.lookup y=some c
 | [],h=>by simp at h
 |(n,a)::r,h=>by
  cases e:y==n with
  |true=>exact⟨a,by simp [DX,e]⟩
  |false=>
   have hr:y∈r.map (·.1):=by
    rcases Jl.mp h with z|z
    ·exact absurd z (by simpa using e)
    ·exact z
   obtain⟨c,hc⟩:=zP hr
   exact⟨c,by simp [DX,e,hc]⟩
def σ0(k:Nat)(js:List Nat)(σ:L2.St):L2.St:=List.replicate k none++js.map fun j=>(σ[j]?).join
def rD(k:Nat)(js:List Nat)(g:TG)(te:TE)(σ:L2.St)(Q:VK)(J:It)(H1:Hp):Prop:=∃W:Nat->Nat->List V->L2.St->Hp->Prop,(∃m,W 0 m [] (σ0 k js σ) H1)/\∀i m ys τ H,W i m ys τ H->
 (J.stop i H/\∀p,H p=none->Q (.ref p) (F2 H p (.lst ys)))\/(J.go i H/\ys.length<ζ/\∀x H',J.yld i H x H'->g x τ H' fun τ2 H2=>∃N:V->Hp->Prop,(∀v H3,N v H3->∃m',m'<m/\W (i+1) m' (ys++[v]) τ2 H3)/\te τ2 H2 N)
def gW(k:Nat)(js:List Nat)(wi:TI)(g:TG)(te:TE):TE:=fun σ H Q=>wi σ H (rD k js g te σ Q)
section
variable{prog:Ξ}{w:Ω}{A:Around}{R:Result->Θ->Prop}{s:Θ}
theorem li{elt target iter:Φ}{scope:Scope}{pos:Pos}{it acc:Γ}{env:Env}(I:Nat->Θ->Prop)
  (turn:∀n s,I n s->ε (model prog w) A (pyNext it) (fun r s₁=>match r with
   |none=>R (.ok .next) s₁
   | some v=>ε (model prog w) A (letOwnedTupleGo target it v) (fun _ s₁'=>ε (model prog w) A (assign target env v) (fun _ s₂=>ε (model prog w) A (eval elt env) (fun x s₃=>
     ε (model prog w) A (call (.builtin "list.append") [acc,x]) (fun _ s₄=>∃m,m<n/\I m s₄) (fun _ _=>False) s₃)
     (fun _ _=>False) s₂) (fun _ _=>False) s₁') (fun _ _=>False) s₁) (fun _ _=>False) s)
  (n:Nat)(h:I n s):
  codeAny (model prog w) A (.compLoop (.ListComp elt [⟨target,iter,[],0⟩] scope pos) 0 it acc env) R s:=by
 refine codeAny_loop rfl I (fun n s hI=>?_) n h
 show ε _ _ ((compTurn (.ListComp elt [⟨target,iter,[],0⟩] scope pos) 0 it acc env).onRaise (fun x=>do noteFrame x env;theTreesLotGoes x)) _ _ s
 refine wpAny_noted ?_
 rw[compTurn_list1];refine Ja (D7 (Ja (JF (turn n s hI) (fun r s₁ h₁=>?_) fun _ _ h'=>h'.elim)))
 cases r with
 |none=>exact Jd h₁
 |some v=>
  refine Ja (JF h₁ (fun _ s₁' h₁'=>?_) fun _ _ h'=>h'.elim)
  exact Ja (JF h₁' (fun _ s₂ h₂=>Ja (Ja (JF h₂ (fun x s₃ h₃=>Ja (JF h₃
   (fun _ s₄ h₄=>Jd (Jd ⟨rfl,h₄⟩)) fun _ _ h'=>h'.elim)) fun _ _ h'=>h'.elim))) fun _ _ h'=>h'.elim)
end
variable{X:Cx}
structure IR(X:Cx)(tx:FU)(H:Hp)(C:Δ):Prop where
 free:H C=none
 loc:C≠X.env.locals
 new:X.s₀.heap.objs.size<=C
 cell:∀x c,X.env.cells.lookup x=some c->c≠C
 pin:∀p∈X.pn++tx,p.1≠C
theorem kH{elt tg iter:Φ}{scope:Scope}{cl:List (Str×Δ)}{pos fpos:Pos}{fr own:List Str}{js:List Nat}{wi:TI}{g:TG}{te:TE}{use:Option (Γ->Sem Unit)}{Post:FS}
  {tx:FU}{s:Θ}{σ:L2.St}{H:Hp}{Q:VK}
  (hc:X.calm=true)(hi:PI X tg iter wi)(hclos:closureFor scope X.env=pure cl)(hcl:∀y c,cl.lookup y=some c->X.env.cells.lookup y=some c)(hfr:cl.map (·.1)=fr)
  (S:GN X scope fr js)
  (hg:∀C s H fp,PG (zH X (own++fr) scope cl C s H fp) tg g)(he:∀C s H fp,PE (zH X (own++fr) scope cl C s H fp) elt te)
  (hs:∀x,foldedSetIterable iter X.env x=pure x)
  (I:L2.FY X tx σ H s)(h:gW own.length js wi g te σ H Q)
  (hfin:∀(acc C:Δ) (s5:Θ) (H':Hp) (m:FT),L2.FY X tx σ H' s5->s5.heap.Ns C m->IR X tx H' C->Q (.ref acc) H'->compPost (model X.prog X.w) X.A X.xe use Post (.ref acc) C (.ok .next) s5):
  ε (model X.prog X.w) X.A (comprehension (.ListComp elt [⟨tg,iter,[],0⟩] scope pos) scope X.env fpos (newList []) false (eval iter X.env) use) Post X.xe s:=by
 refine wpAny_comprehension_free (use:=use) rfl hs hclos S.kind S.names (qB (hi tx s σ H _ I h) fun v s1 h1=>qB h1 fun itv s2 h2=>?_)
 obtain⟨it,fp,tn,J,H2,e,I2,T,st2,f2,W,⟨m0,w0⟩,turn⟩:=h2;subst e;refine DQ (wpAny_newFunctionEnv S.nocell (by intro y hy;simp at hy) (fun h₁ hns₁ hsb₁=>?_) S.kind)
 dsimp only at hns₁ hsb₁⊢
 generalize hH2:s2.heap.push {cls:= .type "list",dict:=none,data:= .seq ([]:List Γ).toArray}=G at hns₁ hsb₁⊢
 have hC:G.objs.size=s2.heap.objs.size+1:=by rw[<- hH2,JV]
 have hDC:s2.heap.objs.size≠G.objs.size:=by rw[hC];exact Jo (D3 _)
 have below:∀b,b<s2.heap.objs.size->b≠G.objs.size/\b≠s2.heap.objs.size:=fun b hb=>⟨by rw[hC];exact Jo (D9 hb),Jo hb⟩
 have old:∀b o,s2.heap.get? b=some o->h₁.get? b=some o:=fun b o e=>hsb₁.extBut b o (below b (Ji e)).1 (Jh _ (hH2▸Jh _ e))
 have hacc:h₁.get? s2.heap.objs.size=some {cls:= .type "list",data:= .seq ([]:List Γ).toArray 0}:=hsb₁.extBut _ _ hDC (Jh _ (hH2▸Jp _ rfl))
 let Y:Cx:=zH X (own++fr) scope cl G.objs.size s2 H2 fp
 have fplt:∀b∈fp,b<s2.heap.objs.size:=fun b hb=>by obtain⟨o,e,_⟩:=T.obj _ _ st2 b hb;exact Ji e
 have okY:Y.Ok:=by
  refine⟨I2.ok.mod,S.kind,I2.ok.glob,I2.ok.blt,by show s2.heap.objs.size<=G.objs.size;lia,?_,?_,?_,I2.ok.hd,I2.ok.frames,.inl rfl,?_,I2.bs,JO I2.ok.bsz I2.sz,?_,?_,I2.stack,I2.stkFree⟩
  ·exact fun x y c e1 e2=>I2.ok.inj x y c (hcl x c e1) (hcl y c e2)
  ·intro x hx
   have hx':(relabel scope X.env).names.lookup x=some .cell\/(relabel scope X.env).names.lookup x=some .free:=hx
   have hm:∃k,(x,k)∈scope.names/\k= .free:=by
    have aux:∀kk:NameKind,(kk= .cell\/kk= .free)->(relabel scope X.env).names.lookup x=some kk->∃k,(x,k)∈scope.names/\k= .free:=by
     intro kk hk el;obtain⟨⟨n,k⟩,hmem,e⟩:=Ju.mp (EJ el)
     dsimp only at e
     split at e
     ·rename_i hcond
      cases e;refine⟨k,hmem,?_⟩
      simp only[Jt,J4]at hcond;exact hcond.1.1
     ·cases e
      rcases hk with z|z
      ·subst z;exact absurd rfl (S.nocell _ hmem)
      ·exact⟨_,hmem,z⟩
    rcases hx' with z|z
    ·exact aux _ (.inl rfl) z
    ·exact aux _ (.inr rfl) z
   obtain⟨k,hmem,hk⟩:=hm;exact zP (l:=cl) (by rw[hfr];exact S.free _ hmem hk)
  ·exact fun x c e _=>nomatch e
  ·refine fun b hb=>⟨?_,fun x c e=>(f2 b hb).2.2.2.2.1 x c (hcl x c e)⟩
   show b≠G.objs.size
   exact(below b (fplt b hb)).1
  ·intro b o e hb
   rcases(f2 b hb).2.2.2.1 with z|z
   ·exact I2.ok.noex b o e z
   ·exact absurd (JL (Ji e) (JO I2.ok.bsz z)) (J1 _)
  ·intro b hb hf
   rcases Jl.mp (I2.stkSub b hf)with z|z
   ·exact(f2 b hb).2.1 z
   ·exact(f2 b hb).2.2.1 z
 have lenσ:(σ0 own.length js σ).length=(own++fr).length:=by unfold σ0;simp [S.len]
 have IY:FY Y [] (σ0 own.length js σ) H2 {s2 with heap:=h₁,toks:=s2.toks+([]:List (Str×Γ)).length}:=by
  refine⟨okY,rfl,I2.bare,Un.kept old,⟨_,hns₁,?_⟩,?_,?_,?_,fun p hp=>absurd (show p∈([]:FU)from hp) (by simp),I2.hok.kept old,lenσ⟩
  ·intro i x v hN hv _
   have hN':(own++fr)[i]? =some x:=hN
   unfold σ0 at hv
   by_cases hlt:i<own.length
   ·rw[J5 (by simpa using hlt),List.getElem?_replicate]at hv
    split at hv<;>cases hv
   ·rw[JY (by simpa using Fd hlt),FD,Jq]at hv
    rw[JY (Fd hlt)]at hN';cases ej:js[i-own.length]? with
    |none=>rw[ej]at hv;cases hv
    |some j=>
     rw[ej]at hv;have hσ:σ[j]? =some (some v):=by
      have hv':(σ[j]?).join=some v:=JB hv
      cases q:σ[j]? with
      |none=>rw[q]at hv';cases hv'
      |some o=>rw[q]at hv';have:o=some v:=hv';rw[this]
     obtain⟨hNj,hk,hkr⟩:=S.at_ _ j x ej hN';obtain⟨m,hn,hl⟩:=I2.loc;obtain⟨u,ru,lk⟩:=hl j x v hNj hσ (.inr (.inl hk))
     refine⟨u,ru,.inr ?_⟩
     rcases lk with⟨k1,_⟩|⟨_,c,ec,ic⟩
     ·rw[hk]at k1;cases k1
     ·obtain⟨c',hc'⟩:=zP (y:=x) (l:=cl) (by rw[hfr];exact DU hN')
      have:c'=c:=by have:=hcl x c' hc';rw[ec]at this;exact(JB this).symm
      subst this;refine⟨?_,c',hc',?_⟩
      ·show(relabel scope X.env).names.lookup x=some .cell\/(relabel scope X.env).names.lookup x=some .free
       exact .inl hkr
      ·obtain⟨oc,hoc,hd⟩:=ic
       exact⟨oc,old _ _ hoc,hd⟩
  ·intro x c e
   obtain⟨v,oc,hoc,hd⟩:=I2.cell x c (hcl x c e)
   exact⟨v,oc,old _ _ hoc,hd⟩
  ·exact I2.hok.fresh (by show s2.heap.objs.size<=G.objs.size;lia)
  ·exact fun x c e=>I2.freeC x c (hcl x c e)
 have accfs:s2.heap.objs.size∉bG X.stack:=fun hf=>by
  rcases Jl.mp (I2.stkSub _ hf)with z|z
  ·exact absurd (by rw[<- z];exact Jf _:s2.heap.objs.size<=X.env.locals) (Nat.not_le.mpr I2.lt)
  ·exact I2.nofs (Jf _) z
 have acccell:∀x c,cl.lookup x=some c->c≠s2.heap.objs.size:=fun x c e z=>by
  obtain⟨v,oc,hoc,_⟩:=I2.cell x c (hcl x c e)
  exact absurd (Ji hoc) (by rw[z];exact J1 _)
 have fpY:∀{H':Hp} {pl:FU},(∀b∈fp,H' b=none)->(∀p∈pl,p.1=s2.heap.objs.size)->∀b∈fp,Zx Y pl H' b:=fun{H' pl} hn hp b hb=>
  ⟨hn b hb,(below b (fplt b hb)).1,okY.exfs b hb,.inl hb,fun x c e=>(f2 b hb).2.2.2.2.1 x c (hcl x c e),fun p hpp=>by
   have hpp':p∈pl:=by simpa [Y,zH]using hpp
   rw[hp p hpp'];exact Ne.symm (below b (fplt b hb)).2⟩
 have loop:∀s₃:Θ,FY Y [] (σ0 own.length js σ) H2 s₃->tn 0 s₃.heap->s₃.heap.get? s2.heap.objs.size=some {cls:= .type "list",data:= .seq ([]:List Γ).toArray 0}->
   codeAny (model X.prog X.w) X.A (.compLoop (.ListComp elt [⟨tg,iter,[],0⟩] scope pos) 0 (.ref it) (.ref s2.heap.objs.size) (compEnvC scope cl G.objs.size X.env))
    (compPost (model X.prog X.w) X.A X.xe use Post (.ref s2.heap.objs.size) G.objs.size) s₃:=by
  intro s₃ I3 st3 ha3;refine li (fun n s'=>∃i ys τ H' its k,FY Y [(s2.heap.objs.size,{cls:= .type "list",data:= .seq its.toArray k})] τ H' s'/\tn i s'.heap/\(∀b∈fp,H' b=none)/\F3 ys its/\ys.length<=ζ/\W i n ys τ H') ?_ m0 ?_
  ·rintro n s4 ⟨i,ys,τ,H4,its,k,I4,st4,fr4,vl,hz,w4⟩
   have pin4:=I4.pin (s2.heap.objs.size,{cls:= .type "list",data:= .seq its.toArray k}) (by simp [Y,zH])
   rcases turn i n ys τ H4 w4 with⟨stop,qn⟩|⟨go,hlt,step⟩
   ·refine qB (T.done Y rfl rfl rfl hc i _ s4 τ H4 _ I4 (fpY fr4 (by simp)) st4 stop) fun r s5 zq=>?_
    obtain⟨hr,I5⟩:=zq;subst hr
    show compPost _ _ _ _ _ _ _ _ _
    obtain⟨m5,hn5,_⟩:=I5.loc;have pin5:=I5.pin (s2.heap.objs.size,{cls:= .type "list",data:= .seq its.toArray k}) (by simp [Y,zH])
    have nacc:H4 s2.heap.objs.size=none:=pin5.2.1
    have B:=I5.base;have nC:H4 G.objs.size=none:=I5.free
    refine hfin s2.heap.objs.size G.objs.size s5 (F2 H4 s2.heap.objs.size (.lst ys)) m5 ?_ hn5 ?_ (qn _ nacc)
    ·refine I2.call' (s':=s5) (ch:=fp) I5.os ⟨B.keep,B.slot,fun b o e n hx=>?_,B.there,fun b xs e=>?_,fun b o u e=>?_,fun b ps e=>?_⟩ ?_ I5.bare ?_
     ·rw[qi (below b (Ji e)).2];exact B.free b o e n hx
     ·have e1:=B.tups b xs e
      rw[qi (qj e1 nacc)];exact e1
     ·have e1:=B.frzs b o u e
      rw[qi (qj e1 nacc)];exact e1
     ·obtain⟨more,e1⟩:=B.tbls b ps e
      exact⟨more,by rw[qi (qj e1 nacc)];exact e1⟩
     ·intro b u e
      by_cases hb:b=s2.heap.objs.size
      ·subst hb
       rw[qb]at e;cases e
       exact⟨hz,its,k,vl,pin5.1⟩
      ·rw[qi hb]at e
       exact(I5.hok b u e).stay (fun c v _ q=>q) (fun c q=>by rw[qi (qj q nacc)];exact q) fun c xs q=>by rw[qi (qj q nacc)];exact q
     ·exact fun b hb=>⟨(f2 b hb).2.2.2.1,(f2 b hb).2.1,(f2 b hb).2.2.2.2.1,(f2 b hb).2.2.2.2.2⟩
    ·have hge:s2.heap.objs.size<=G.objs.size:=by lia
     refine⟨by rw[qi (Ne.symm hDC)];exact nC,?_,JO I2.sz hge,fun x c e z=>?_,fun p hp z=>?_⟩
     ·exact J3 (JL I2.lt hge)
     ·obtain⟨v,oc,hoc,_⟩:=I2.cell x c e
      exact absurd (JL (Ji hoc) hge) (by rw[z];exact J1 _)
     ·exact absurd (JL (Ji (I2.pin p hp).1) hge) (by rw[z];exact J1 _)
   ·refine qB (T.item Y rfl rfl rfl hc i _ s4 τ H4 _ I4 (fpY fr4 (by simp)) st4 go) fun r s5 zq=>?_
    obtain⟨u,hr,h5⟩:=zq;subst hr;refine qB h5 fun _ s6 zq=>?_
    obtain⟨x,H6,I6,r6,y6,st6,fr6⟩:=zq;have I6':=I6.pinned (fpY fr6 (by simp)) (T.obj _ _ st6)
    refine qB (hg _ _ _ _ _ s6 τ H6 x u _ I6' r6 (step x H6 y6)) fun _ s7 zq=>?_
    obtain⟨τ7,H7,I7,N,hN,q7⟩:=zq;refine qB (he _ _ _ _ _ s7 τ7 H7 _ I7 q7) fun v' s8 zq=>?_
    obtain⟨y,H8,I8,r8,n8⟩:=zq;obtain⟨m',hm',w8⟩:=hN _ _ n8;have pin8:=I8.pin (s2.heap.objs.size,{cls:= .type "list",data:= .seq its.toArray k}) (by simp [zH])
    have pinfp:∀b∈fp,∀o,s6.heap.get? b=some o->s8.heap.get? b=some o/\H8 b=none:=fun b hb o e=>by
     have:=I8.pin (b,o) (J8 _ (J8 _ (Zp hb e)))
     exact⟨this.1,this.2.1⟩
    refine wpAny_list_append_plain (items:=its.toArray) ⟨k,pin8.1⟩ (fun h' ha' hs'=>?_) (by have:=vl.length;simp;lia)
    obtain⟨k',ha'⟩:=ha';have I9:FY Y [] τ7 H8 {s8 with heap:=h'}:=by
     refine(I8.pins_of (pins':=[]) (by simp)).turned (t':=s8.toks) (it:=s2.heap.objs.size) (fun b o hb e=>(hs'.2 b hb).trans e) pin8.2.1 ?_ (.inr (Jf _)) (fun x c e=>acccell x c e) (fun p hp=>absurd (show p∈([]:FU)from by simpa [Y,zH]using hp) (by simp))
     exact hDC
    have ea:(its.toArray.push v')=(its++[v']).toArray:=by simp
    rw[ea]at ha';refine⟨m',hm',i+1,ys++[y],τ7,H8,its++[v'],k',I9.pins_of ?_,T.keep _ _ _ st6 fun b hb o e=>(hs'.2 b (below b (fplt b hb)).2).trans (pinfp b hb o e).1,fun b hb=>?_,vl.append (.cons r8 .nil),?_,w8⟩
    ·intro p hp
     rw[Jj.mp hp]
     exact⟨ha',pin8.2.1,hDC,accfs,fun v z=>by cases z⟩
    ·obtain⟨o,e,_⟩:=T.obj _ _ st6 b hb
     exact(pinfp b hb o e).2
    ·rw[Jw,Ef];lia
  ·refine⟨0,[],σ0 own.length js σ,H2,[],0,I3.pins_of ?_,st3,fun b hb=>(f2 b hb).1,.nil,Jz _,w0⟩
   intro p hp;rw[Jj.mp hp]
   exact⟨ha3,I2.hok.fresh (Jf _),hDC,accfs,fun v z=>by cases z⟩
 have st1:tn 0 h₁:=T.keep _ _ _ st2 fun b _ o e=>old b o e
 exact codeAny_compStart_list (loop _ IY st1 hacc) (T.self _ 0 _ _ _ st1 (loop _ IY st1 hacc))
theorem yW{elt tg iter:Φ}{scope:Scope}{cl:List (Str×Δ)}{pos:Pos}{fr own:List Str}{js:List Nat}{wi:TI}{g:TG}{te:TE}
  (hc:X.calm=true)(hi:PI X tg iter wi)(hclos:closureFor scope X.env=pure cl)(hcl:∀y c,cl.lookup y=some c->X.env.cells.lookup y=some c)(hfr:cl.map (·.1)=fr)
  (S:GN X scope fr js)
  (hg:∀C s H fp,PG (zH X (own++fr) scope cl C s H fp) tg g)(he:∀C s H fp,PE (zH X (own++fr) scope cl C s H fp) elt te)
  (hs:∀x,foldedSetIterable iter X.env x=pure x:=by intro _;rfl):
  PE X (.ListComp elt [⟨tg,iter,[],0⟩] scope pos) (gW own.length js wi g te):=by
 intro tx s σ H Q I h;rw[eval_ListComp];refine kH (use:=none) hc hi hclos hcl hfr S hg he hs I h fun acc C s5 H' m I5 hn aw q=>?_
 exact⟨m,hn,fun h' hs'=>⟨.ref acc,H',I5.turned (t':=s5.toks) (fun b o hb e=>(hs'.2 b hb).trans e) aw.free aw.loc (.inr aw.new) aw.cell aw.pin,rfl,q⟩⟩
theorem Ay{elt tg iter:Φ}{scope:Scope}{cl:List (Str×Δ)}{pos spos py:Pos}{fr own:List Str}{js:List Nat}{wi:TI}{g:TG}{te:TE}{i:Nat}{y:Str}
  (hN:X.N.Nodup)(hi':X.N[i]? =some y)(hx:je X.env.scope y)
  (hc:X.calm=true)(hi:PI X tg iter wi)(hclos:closureFor scope X.env=pure cl)(hcl:∀y c,cl.lookup y=some c->X.env.cells.lookup y=some c)(hfr:cl.map (·.1)=fr)
  (S:GN X scope fr js)
  (hg:∀C s H fp,PG (zH X (own++fr) scope cl C s H fp) tg g)(he:∀C s H fp,PE (zH X (own++fr) scope cl C s H fp) elt te)
  (hs:∀x,foldedSetIterable iter X.env x=pure x:=by intro _;rfl)(hsw:swapsWith (.ListComp elt [⟨tg,iter,[],0⟩] scope pos) (some (.Name y py)) spos.line X.env=pure true:=by rfl)
  (hf:X.fn y=true\/X.env.scope.names.lookup y=some .local:=by first|exact .inl rfl|exact .inr rfl|assumption):
  PS X (.Assign [.Name y py] (.ListComp elt [⟨tg,iter,[],0⟩] scope pos) spos) (iK (gW own.length js wi g te) (Zk i)):=by
 intro tx s σ H D I h;rw[exec_Assign_Name_used _ _ _ _ hsw];refine Ja (D7 (Ja ?_))
 show ε _ X.A (do let _ <- comprehension (.ListComp elt [⟨tg,iter,[],0⟩] scope pos) scope X.env _ (newList []) false (eval iter X.env) (some (assign (.Name y py) X.env))) _ _ s
 refine Ja (JF (kH (use:=some (assign (.Name y py) X.env)) (Post:=fun _ s'=>SP X tx D .next s') hc hi hclos hcl hfr S hg he hs I h ?_) (fun _ s' hq=>Jd (Jd hq)) fun _ _ e=>e)
 intro acc C s5 H' m I5 hn aw q
 show ε _ X.A (assign (.Name y py) X.env (.ref acc)) _ _ _
 refine wpAny_assign_Name (jj (v:= .ref acc) I5 hN hi' hx rfl (fun s6 I6 zq=>?_) hf)
 obtain⟨a,hs6,ha⟩:=zq;have hCa:C≠a:=by
  rcases ha with z|z
  ·rw[z];exact aw.loc
  ·exact Ne.symm (aw.cell _ _ z)
 refine⟨m,hn.sameBut hs6 hCa,fun h' hs'=>?_⟩
 exact⟨_,H',I6.turned (t':=s6.toks) (fun b o hb e=>(hs'.2 b hb).trans e) aw.free aw.loc (.inr aw.new) aw.cell aw.pin,q⟩
section
variable{js:List Nat}{te:TE}{σ:L2.St}{H:Hp}{Q:VK}{K:ι}
abbrev aS(js:List Nat)(σ:L2.St):L2.St:=js.map fun j=>(σ[j]?).join
abbrev gQ(J:It)(js:List Nat)(te:TE)(σ:L2.St)(H1:Hp)(Q:VK):Prop:=rD 1 js (Zk 0) te σ Q J H1
theorem bO{J:It}{n:Nat}(hn:n<=ζ)(item:Nat->V->Prop)(Pv:Nat->List V->Hp->Prop)(h0:Pv 0 [] H)(hgo:∀i ys H,i<n->Pv i ys H->J.go i H)(hst:∀ys H,Pv n ys H->J.stop n H)
  (hy:∀i ys H x H',i<n->Pv i ys H->J.yld i H x H'->H'=H/\item i x)
  (hs:∀i ys H x,i<n->ys.length=i->Pv i ys H->item i x->te (some x::aS js σ) H fun v H3=>Pv (i+1) (ys++[v]) H3)
  (hd:∀ys H,ys.length=n->Pv n ys H->∀p,H p=none->Q (.ref p) (F2 H p (.lst ys))):gQ J js te σ H Q:=by
 refine⟨fun i m ys τ H=>m=n-i/\i<=n/\ys.length=i/\Pv i ys H/\∃o,τ=o::aS js σ,⟨n,by simp,Jz _,rfl,h0,none,rfl⟩,?_⟩
 rintro i m ys τ H ⟨rfl,hi,hl,p,o,rfl⟩
 by_cases hlt:i<n
 ·refine .inr ⟨hgo i ys H hlt p,by lia,fun x H' y=>?_⟩
  obtain⟨e,hx⟩:=hy i ys H x H' hlt p y;subst e
  exact⟨fun v H3=>Pv (i+1) (ys++[v]) H3,fun v H3 p3=>⟨n-(i+1),by lia,rfl,hlt,by simp [hl],p3,_,rfl⟩,hs i ys _ x hlt hl p hx⟩
 ·have e:i=n:=by lia
  subst e;exact .inl ⟨hst ys H p,hd ys H hl p⟩
theorem aQ{a:Δ}{xs:List V}(hn:xs.length<=ζ)(Pv:Nat->List V->Hp->Prop)(h0:Pv 0 [] H)(hl:∀i ys H,Pv i ys H->F6 K H a xs)
  (hs:∀i ys H x,xs[i]? =some x->ys.length=i->Pv i ys H->te (some x::aS js σ) H fun v H3=>Pv (i+1) (ys++[v]) H3)
  (hd:∀ys H,ys.length=xs.length->Pv xs.length ys H->∀p,H p=none->Q (.ref p) (F2 H p (.lst ys))):gQ (jM K a) js te σ H Q:=
 bO hn (fun i x=>xs[i]? =some x) Pv h0 (fun i ys H hi p=>⟨xs,xs[i],hl _ _ _ p,by simp [hi]⟩) (fun ys H p=>⟨xs,hl _ _ _ p,Jf _⟩) (fun i ys H x H' _ p y=>⟨y.1,y.2 xs (hl _ _ _ p)⟩) (fun i ys H x _ hl p hx=>hs i ys H x hx hl p) hd
theorem ZB{a:Δ}{xs:List V}(hn:xs.length<=ζ)(Pv:Nat->List V->Hp->Prop)(h0:Pv 0 [] H)(hl:∀i ys H,Pv i ys H->F7 K H a xs)
  (hs:∀i ys H x,xs[i]? =some x->ys.length=i->Pv i ys H->te (some x::aS js σ) H fun v H3=>Pv (i+1) (ys++[v]) H3)
  (hd:∀ys H,ys.length=xs.length->Pv xs.length ys H->∀p,H p=none->Q (.ref p) (F2 H p (.lst ys))):gQ (jg K a) js te σ H Q:=
 bO hn (fun i x=>xs[i]? =some x) Pv h0 (fun i ys H hi p=>⟨xs,xs[i],hl _ _ _ p,by simp [hi]⟩) (fun ys H p=>⟨xs,hl _ _ _ p,Jf _⟩) (fun i ys H x H' _ p y=>⟨y.1,y.2 xs (hl _ _ _ p)⟩) (fun i ys H x _ hl p hx=>hs i ys H x hx hl p) hd
theorem Z8{lo:Int}{n:Nat}(hn:n<=ζ)(Pv:Nat->List V->Hp->Prop)(h0:Pv 0 [] H)
  (hs:∀i ys H,i<n->ys.length=i->Pv i ys H->te (some (.int (lo+i))::aS js σ) H fun v H3=>Pv (i+1) (ys++[v]) H3)
  (hd:∀ys H,ys.length=n->Pv n ys H->∀p,H p=none->Q (.ref p) (F2 H p (.lst ys))):gQ (jE lo n) js te σ H Q:=
 bO hn (fun i x=>x= .int (lo+i)) Pv h0 (fun i ys H hi p=>hi) (fun ys H p=>Jf _) (fun i ys H x H' _ p y=>y) (fun i ys H x hi hl p hx=>by subst hx;exact hs i ys H hi hl p) hd
end
end L3
namespace L3
open PySem PySem.Spec PyProof.Rows L2
section
variable{X:Cx}{tx:FU}{σ:L2.St}{H:Hp}{s:Θ}
theorem iL{h':Ψ}{t':Nat}{ch:List Δ}{a:Δ}{xs:List V}{its:List Γ}(I:L2.FY X tx σ H s)(k:∀b o,b∉ch->s.heap.get? b=some o->h'.get? b=some o)(hch:∀b∈ch,Zx X tx H b)
  (ho:∀b∈ch,∃o,h'.get? b=some o)(ha:s.heap.objs.size<=a)(hz:xs.length<=ζ)(hv:F3 xs its)(ht:IsTup h' a its.toArray):L2.FY X tx σ (F2 H a (.tup xs)) {s with heap:=h',toks:=t'}:=by
 have na:H a=none:=I.hok.fresh ha
 have nlt:∀b o,s.heap.get? b=some o->b≠a:=fun b o e=>Jo (JL (Ji e) ha)
 have nch:∀b u,H b=some u->b∉ch:=fun b u e z=>by rw[(hch b z).1]at e;cases e
 refine I.step (g':=s.gens) (d':=s.drawn) (ch:=ch) (fun b hb=>⟨(hch b hb).2.2.2.1,(hch b hb).2.1,(hch b hb).2.2.2.2.1,(hch b hb).2.2.2.2.2⟩) (fun b o _ _ hc e _=>k b o hc e) (fun b o _ _ hc e _=>⟨o.slots,k b o hc e⟩)
  (fun b o _ e n=>by rw[qi (nlt b o e)];exact n) (fun b o hc e=>⟨o,k b o hc e⟩) (fun b ys e=>by rw[qi (qj e na)];exact e) (fun b o u e=>by rw[qi (qj e na)];exact e)
  (fun b ps e=>⟨#[],by rw[qi (qj e na),e];simp⟩) (fun m hm=>?_) (fun b u e=>?_) I.bare
 ·obtain⟨o,es,ep,ho,r⟩:=hm
  exact⟨o,es,ep,k _ o (fun z=>(hch _ z).2.1 rfl) ho,r⟩
 ·by_cases hb:b=a
  ·subst hb
   rw[qb]at e;cases e
   exact⟨hz,its,hv,ht⟩
  ·rw[qi hb]at e
   refine(I.hok b u e).stay (fun c v hc q=>k c v ?_ q) (fun c q=>by rw[qi (qj q na)];exact q) fun c ys q=>by rw[qi (qj q na)];exact q
   rcases hc with z|z
   ·rw[z];exact nch b u e
   ·exact nch c _ z
def n4(K:ι)(a:Δ):It:=
 ⟨fun i H=>∃xs x,F6 K H a xs/\xs[i]? =some x,fun i H x H'=>∃p v,H p=none/\x= .ref p/\(∀xs,F6 K H a xs->xs[i]? =some v)/\H'=F2 H p (.tup [.int i,v]),fun i H=>∃xs,F6 K H a xs/\xs.length<=i⟩
theorem ji{P:Ξ}{w:Ω}{K:ι}{elts:List Φ}{x1}{pos:Pos}(a e it:Δ)(hei:e≠it):
  HL P w K (.Tuple elts x1 pos) (n4 K a) [e,it] e (fun i h=>(∃old,IsEnum h e it i old)/\h.IsListIter it a i) where
 mem:=by simp
 obj:=fun i h st b hb=>by
  obtain⟨⟨old,he⟩,⟨o,ho,hc,hd⟩⟩:=st;rcases Jl.mp hb with z|z
  ·subst z
   refine⟨_,he,fun v z=>?_⟩
   have z':Data.fields _=Data.cell v:=z
   cases z'
  ·rw[Jj.mp z]
   exact⟨o,ho,fun v z=>by rw[hd]at z;cases z⟩
 keep:=fun i h h' st k=>⟨let⟨old,he⟩:=st.1;⟨old,k e (by simp) _ he⟩,st.2.at fun o q=>k it (by simp) o q⟩
 item:=by
  intro X hP hw hK hc i tx s σ H E I hf st hg;subst hP hw hK;obtain⟨xs,x,hq,hx⟩:=hg;obtain⟨its,rv,p,hz⟩:=I.list hq;obtain⟨u,hu,ru⟩:=rv.get hx;obtain⟨⟨old,he⟩,hit⟩:=st;refine wpAny_pyNext_enum_item he hit p.isList (x:=u) (by simpa using hu) hei fun h' ho hit' ht hsz hk=>⟨_,rfl,?_⟩
  refine wpAny_letOwnedTupleGo_enum ho fun h'' he'' hs''=>?_
  have helt:e<s.heap.objs.size:=Ji he
  have hilt:it<s.heap.objs.size:=by obtain⟨_,y,_⟩:=hit;exact Ji y
  refine⟨.ref s.heap.objs.size,F2 H s.heap.objs.size (.tup [.int i,x]),?_,rfl,⟨_,x,I.hok.fresh (Jf _),rfl,fun ys hy=>by rw[I.list_inj hy hq];exact hx,rfl⟩,⟨⟨_,by simpa using he''⟩,?_⟩,?_⟩
  ·show L2.FY X tx σ _ {s with heap:=h'',toks:=s.toks+1}
   refine iL (s:=s) (its:=[.int i s.toks,u]) I (ch:=[e,it]) (fun b o hb q=>?_) hf (fun b hb=>?_) (Jf _) (by show 2<=ζ;decide) (.cons ⟨_,rfl⟩ (.cons ru .nil)) ?_
   ·have hb1:b≠e:=fun z=>hb (by simp [z])
    have hb2:b≠it:=fun z=>hb (by simp [z])
    exact(hs''.2 b hb1).trans (hk b o hb1 hb2 q)
   ·rcases Jl.mp hb with z|z
    ·subst z;exact⟨_,he''⟩
    ·rw[Jj.mp z]
     obtain⟨o,y,_⟩:=hit'
     exact⟨o,(hs''.2 it (Ne.symm hei)).trans y⟩
   ·exact⟨_,(hs''.2 _ (J3 helt)).trans ht,rfl,_,rfl⟩
  ·exact hit'.extBut hs''.extBut (Ne.symm hei)
  ·intro b hb
   rw[qi]
   ·exact(hf b hb).1
   ·rcases Jl.mp hb with z|z
    ·subst z;exact Jo helt
    ·rw[Jj.mp z];exact Jo hilt
 done:=by
  intro X hP hw hK hc i tx s σ H E I hf st hg;subst hP hw hK;obtain⟨xs,hq,hx⟩:=hg;obtain⟨its,rv,p,hz⟩:=I.list hq;obtain⟨⟨old,he⟩,hit⟩:=st;obtain⟨f0,f1,f2,f3,f4,f5⟩:=hf it (by simp)
  have hl:=rv.length;exact wpAny_pyNext_enum_end (I.ok.hd hc) he hit p.isList (by simp;lia) fun h' eb=>⟨rfl,I.turned (t':=s.toks) (fun b o hb e=>eb b o hb e) f0 f1 f3 f4 f5⟩
 self:=fun _ _ _ _ _ st h=>by
  obtain⟨⟨old,he⟩,_⟩:=st;exact Fe he h
def wP(K:ι)(ta:TA):TI:=fun σ H R=>ta σ H fun vs H1=>∃a,vs=[.ref a]/\(∃xs,F6 K H1 a xs)/\R (n4 K a) H1
theorem Ad{a:Φ}{ta:TA}{p pos:Pos}{elts:List Φ}{x1}{tpos:Pos}(hg:Gl X "enumerate")(hm:X.mg "enumerate"=none)(ha:PA X [a] ta)(hs:θ [a] X.env=[(false,eval a X.env)]:=by rfl):
  PI X (.Tuple elts x1 tpos) (.Call (.Name "enumerate" p) [a] [] pos) (wP X.K ta):=by
 intro tx s σ H R I h;refine Call_ (Zo I hg hm boot_enumerate (EH (qB (ha pos tx s σ H _ I h) fun us s1 zq=>?_) hs rfl))
 obtain⟨vs,H1,I1,r1,q1⟩:=zq;obtain⟨l,e,⟨xs,hq⟩,q⟩:=q1;subst e;obtain⟨u,rfl,ru⟩:=r1.one;cases ru;obtain⟨its,rv,pl,hz⟩:=I1.list hq;refine call_enumerate_list pl.isList fun h' he hit hsz hk=>Fe he ?_
 have I2:L2.FY X tx σ H1 {s1 with heap:=h'}:=I1.kept (t':=s1.toks) hk
 refine⟨s1.heap.objs.size+1,[s1.heap.objs.size+1,s1.heap.objs.size],_,_,H1,rfl,I2,ji l _ _ (J3 (D3 _)),⟨⟨_,he⟩,hit⟩,fun b hb=>?_,q⟩
 have hb':s1.heap.objs.size<=b:=by
  rcases Jl.mp hb with z|z
  ·rw[z];exact Ey _
  ·rw[Jj.mp z];exact Jf _
 exact I1.fpOk hb' (I1.hok.fresh hb')
theorem k7{K:ι}{a:Δ}{xs:List V}{g:TG}{tb:TS}{D:GP}{σ:L2.St}{H:Hp}(Pv:Nat->L2.St->Hp->Prop)(h0:Pv 0 σ H)(hl:∀i σ H,i<=xs.length->Pv i σ H->F6 K H a xs)
  (hs:∀i x σ H p,xs[i]? =some x->Pv i σ H->H p=none->g (.ref p) σ (F2 H p (.tup [.int i,x])) fun σ2 H2=>tb {D with nx:=Pv (i+1),ct:=Pv (i+1),bk:=D.nx} σ2 H2)(hd:∀σ H,Pv xs.length σ H->D.nx σ H):
  ∃W:Nat->Nat->L2.St->Hp->Prop,(∃m,W 0 m σ H)/\∀i m σ H,W i m σ H->
   ((n4 K a).stop i H/\D.nx σ H)\/((n4 K a).go i H/\∃N:L2.St->Hp->Prop,(∀σ' H',N σ' H'->∃m',m'<m/\W (i+1) m' σ' H')/\∀x H',(n4 K a).yld i H x H'->g x σ H' fun σ2 H2=>tb {D with nx:=N,ct:=N,bk:=D.nx} σ2 H2):=by
 refine⟨fun i m σ H=>m=xs.length-i/\i<=xs.length/\Pv i σ H,⟨xs.length,by simp,Jz _,h0⟩,?_⟩
 rintro i m σ H ⟨rfl,hi,p⟩
 have q:=hl i σ H hi p
 by_cases hlt:i<xs.length
 ·refine .inr ⟨⟨xs,xs[i],q,by simp [hlt]⟩,Pv (i+1),fun σ' H' p'=>⟨xs.length-(i+1),by lia,rfl,hlt,p'⟩,fun x H' y=>?_⟩
  obtain⟨pp,v,hp,rfl,hv,rfl⟩:=y;exact hs i v σ H pp (hv xs q) p hp
 ·have e:i=xs.length:=by lia
  subst e;exact .inl ⟨⟨xs,q,Jf _⟩,hd σ H p⟩
end
def zE(t c:String):Bool:=t==c||(t=="bool"&&c=="int")
abbrev fV:List String:=["NoneType","bool","int","str","list","tuple"]
abbrev f7:List String:=["bool","int","str","list","tuple"]
theorem iT(K:ι):∀t∈fV,∀c∈f7,W.kitOne K (.type t) (.type c)=some (zE t c):=by
 intro t ht c hc;simp only[fV,f7,Jl,Jx,JA]at ht hc;rcases ht with rfl|rfl|rfl|rfl|rfl|rfl<;>rcases hc with rfl|rfl|rfl|rfl|rfl<;>kernel_rfl
section
variable{X:Cx}
theorem gi:ze X (.builtin "isinstance") (fun xs H Q=>∃x c t,xs=[x,.ty c]/\HB X.K H x (.type t)/\t∈fV/\c∈f7/\Q (.bl (zE t c)) H):=by
 intro tx s σ H xs us Q I r h;obtain⟨x,c,t,rfl,ty,ht,hc,q⟩:=h;obtain⟨u,v,rfl,ru,rv⟩:=gx r
 cases(show v=Γ.type c from rv)
 exact tO I ru ty (iT X.K t ht c hc) fun tk=>⟨.bl _,H,I.tok tk,rfl,q⟩
theorem kB:∀{bs:List Bool} {us:List Γ},F3 (bs.map V.bl) us->us=bs.map Γ.bool
 | [],_,.nil=>rfl
 |b::bs,_,.cons r t=>by
  cases(show _=Γ.bool b from r)
  rw[kB t];rfl
theorem pj(bs:List Bool):((List.range bs.length).all fun i=>(bs[i]?).getD true)=bs.all id:=by
 rw[D8,EK,EK];constructor
 ·intro h b hb
  obtain⟨i,hi,e⟩:=List.mem_iff_getElem.mp hb
  have:=h i (J6.mpr hi)
  rw[Jk hi,Eg,e]at this;exact this
 ·intro h i hi
  have hi':=J6.mp hi;rw[Jk hi',Eg];exact h _ (EB hi')
theorem dy(hc:X.calm=true):ze X (.builtin "all") (fun xs H Q=>∃(p:Δ) (bs:List Bool),xs=[.ref p]/\F6 X.K H p (bs.map V.bl)/\Q (.bl (bs.all id)) H):=by
 intro tx s σ H xs us Q I r h;obtain⟨p,bs,rfl,hq,q⟩:=h;obtain⟨u,rfl,ru⟩:=zN r;cases ru;obtain⟨its,rv,pl,hz⟩:=I.list hq;have e:=kB rv;have hl:=pl.isList;have hlt:p<s.heap.objs.size:=by obtain⟨_,e,_⟩:=hl;exact Ji e
 refine call_all_walk (EO hl ?_)
 refine⟨s.heap.objs.size,[s.heap.objs.size,p],[s.heap.objs.size],its.toArray.size,_,_,fun i=>(bs[i]?).getD true,rfl,Walks.list (A:=X.A.in1) (I.ok.hd hc) _ p (Jo hlt) its.toArray,
  ⟨⟨_,Jp _ rfl,rfl,rfl⟩,hl.push _⟩,fun i v s' Q' E' hP hQ=>?_,fun h' tk hk=>?_⟩
 ·have hP':its[i]? =some v:=by simpa using hP
  rw[e,Jq]at hP';cases eb:bs[i]? with
  |none=>rw[eb]at hP';cases hP'
  |some b=>
   rw[eb]at hP'
   cases(JB hP':Γ.bool b=v)
   simp only[eb,Eg]at hQ;exact Ec hQ
 ·have e2:((List.range its.toArray.size).all fun i=>(bs[i]?).getD true)=bs.all id:=by
   rw[Js,e,Je];exact pj bs
  rw[e2];refine⟨.bl _,H,I.kept (h':=h') (t':=tk) fun b o q=>hk b o (fun hm=>?_) (Jh _ q),rfl,q⟩
  rw[Jj.mp hm]at q;exact J1 _ (Ji q)
theorem mW:zw X (compareOp .IsNot) (fun x y H Q=>∃a b,x= .bl a/\y= .bl b/\Q (.bl (!decide (a=b))) H):=by
 intro tx s σ H x y v u Q I rx ry h;obtain⟨a,b,rfl,rfl,q⟩:=h
 cases(show v=Γ.bool a from rx)
 cases(show u=Γ.bool b from ry)
 refine wpAny_isNot_plain rfl ⟨.bl _,H,I,?_,q⟩
 cases a<;>cases b<;>rfl
theorem jn:ze X (.type "range") (fun xs H Q=>∃j:Int,xs=[.int j]/\∀p,H p=none->Q (.ref p) (F2 H p (.rng 0 j))):=by
 intro tx s σ H xs us Q I r h;obtain⟨j,rfl,q⟩:=h;obtain⟨u,rfl,ru⟩:=zN r;obtain⟨t,rfl⟩:=ru;refine call_range_1 ⟨.ref s.heap.objs.size,_,I.laid (o:= .rng 0 j) (fun b o e=>Jh _ e) (Jf _) ⟨_,_,_,Jp _ rfl⟩,rfl,q _ (I.hok.fresh (Jf _))⟩
theorem rJ(hc:X.calm=true):ze X (.type "list") (fun xs H Q=>∃(p:Δ) (j:Nat),xs=[.ref p]/\H p=some (.rng 0 (j:Int))/\j<=2 ^ 24/\∀l,H l=none->Q (.ref l) (F2 H l (.lst ((List.range j).map fun i=>V.int (i:Nat))))):=by
 intro tx s σ H xs us Q I r h;obtain⟨p,j,rfl,hp,hj,q⟩:=h;obtain⟨u,rfl,ru⟩:=zN r;cases ru;obtain⟨t,u,v,e⟩:=I.hok p _ hp;refine call_list_range (n:=j) (I.ok.hd hc) (show IsRange s.heap p 0 (j:Int) 1 t u v from e) (small_one (by lia) (by lia) (by lia) (by lia)) (by rw[rangeSize_one];split<;>lia) hj fun h' tk acc' c' hk hS' hacc=>?_
 refine⟨.ref s.heap.objs.size,_,I.laid (h':=h') (t':=tk) hk (Jf _) ?_,rfl,q _ (I.hok.fresh (Jf _))⟩
 have aux:∀(us:List Γ) (n k:Nat),us.length=n->(∀i v,us[i]? =some v->∃t,v=Γ.int ((k+i:Nat):Int) t)->F3 ((List.range' k n).map fun i=>V.int (i:Nat)) us:=by
  intro us
  induction us with
  |nil=>intro n k hn _;cases hn;exact .nil
  |cons u us ih=>
   intro n k hn hv;cases n with
   |zero=>cases hn
   |succ n=>
    rw[List.range'_succ,JU];obtain⟨t,ht⟩:=hv 0 u rfl;refine .cons ⟨t,by simpa using ht⟩ (ih n (k+1) (by simpa using hn) fun i v hi=>?_)
    obtain⟨t,ht⟩:=hv (i+1) v hi
    exact⟨t,by rw[ht];congr 1;lia⟩
 have vals:F3 ((List.range j).map fun i=>V.int (i:Nat)) acc'.toList:=by
  rw[List.range_eq_range'];refine aux _ _ 0 (by rw[Jn];exact hacc.1) fun i v hi=>?_
  obtain⟨t,ht⟩:=hacc.2 i v (by rw[<- Array.getElem?_toList];exact hi)
  exact⟨t,by rw[ht];congr 1;lia⟩
 exact⟨by simp only[Je,List.length_range];exact JO hj (by rw[JK];decide),acc'.toList,c',vals,hS'⟩
def DC:V->Option Int->Option Int->Hp->VK->Prop:=fun x lo hi H Q=>∃a xs,x= .ref a/\H a=some (.tup xs)/\∀p H',FV H H'->H' p=some (.tup (ZN xs lo hi))->(p=a\/H p=none)->Q (.ref p) H'
theorem cF{prog:Ξ}{w:Ω}{A:Around}{E:FS}{s:Θ}{t sl:Δ}{items:Array Γ}{vl vu:Γ}{lo hi:Option Int}{Q:FS}(ht:IsTup s.heap t items)(hs:s.heap.IsSliceOf sl vl vu .none)(pl:IsPart vl lo)(pu:IsPart vu hi)
  (hw:HT.sIx items.size 0 lo=0/\HT.sIx items.size items.size hi=items.size)(h:Q (.ref t) s):ε (model prog w) A (getItem (.ref t) (.ref sl)) Q E s:=by
 obtain⟨os,hos,hcs,hds⟩:=id hs;have hTs:s.TypeIs (.ref sl) "slice":=⟨os,hos,hcs⟩
 unfold getItem
 try with_reducible refine JM ?_
 first|refine Ja (Jd ?_)|skip
 refine Ja (wpAny_sequenceKey ht.typeIs (by decide) ?_)
 refine Ja (wpAny_callSpecial?_slot (name:=Str.ofString "__getitem__") ht.typeIs Fp
  (JZ Fp ht.typeIs entry_tuple_getitem ?_ (args_tuple_getitem _ _)))
 show ε _ _ (γ.Tuple.tupleItemsOf (.ref t) >>= _) _ _ s
 refine Ja (tupleItemsOf_ ht ?_)
 refine Ja (ER hTs ?_)
 rw[Jc (by decide)]
 refine Ja (HT.sliceApplied_gen hs pl pu ?_)
 show ε _ _ (if(((HT.sIx items.size 0 lo:Nat):Int)==0&&(1:Int)==1&&(HT.sIx items.size items.size hi-HT.sIx items.size 0 lo)==items.size)=true then _ else _) _ _ s
 rw[hw.1,hw.2,Jc (by simp)]
 refine Ja (m:=γ.Tuple.tupleIsExact _) ?_
 unfold γ.Tuple.tupleIsExact;refine Ja (ER ht.typeIs (Jd ?_))
 rw[Jc (by rfl)]
 exact Ja (DR (Jd ⟨_,rfl,Jd h⟩))
theorem bE:uL X DC:=by
 intro tx s σ H x v vl vu lo hi sl Q I rx hs pl pu h;obtain⟨a,xs,rfl,hx,q⟩:=h
 by_cases hw:HT.sIx xs.length 0 lo=0/\HT.sIx xs.length xs.length hi=xs.length
 ·cases rx
  obtain⟨its,r,ht,hz⟩:=I.tuple (F7.of hx)
  have hlen:its.toArray.size=xs.length:=by rw[Js];exact r.length.symm
  refine⟨"tuple",_,PyProof.Rows.slot_tuple_getitem.lookup,ht.typeIs,?_⟩
  refine cF ht hs pl pu (by rw[hlen];exact hw) ⟨.ref a,H,I,rfl,q a H (FV.refl H) ?_ (.inl rfl)⟩
  have:ZN xs lo hi=xs:=by unfold ZN;rw[hw.1,hw.2];simp
  rw[this];exact hx
 ·exact BH tx s σ H _ v vl vu lo hi sl Q I rx hs pl pu ⟨a,xs,rfl,F7.of hx,hw,fun p hp=>q p _ (fun b o e=>by rw[qi (qj e hp)];exact e) qb (.inr hp)⟩
def C0:R2:=fun x y H Q=>∃a b xs ys,x= .ref a/\y= .ref b/\H a=some (.tup xs)/\H b=some (.tup ys)/\xs.length+ys.length<=ζ/\∀p H',FV H H'->H' p=some (.tup (xs++ys))->Q (.ref p) H'
theorem ZF:zw X (binaryOp .Add) C0:=by
 intro tx s σ H x y v u Q I rx ry h;obtain⟨a,b,xs,ys,rfl,rfl,ha,hb,hz,q⟩:=h
 by_cases hx:xs=[]
 ·subst hx
  cases rx;cases ry;obtain⟨its,r1,p1,_⟩:=I.tuple (F7.of ha)
  obtain⟨its2,r2,p2,_⟩:=I.tuple (F7.of hb)
  cases r1;obtain⟨⟨cls,dd,data,sl⟩,ho,hc,n,hd⟩:=id p1;obtain⟨⟨cls2,dd2,data2,sl2⟩,ho2,hc2,n2,hd2⟩:=id p2;simp only at hc hd hc2 hd2
  subst hc hd hc2 hd2;exact concat_meets ⟨_,ho,rfl⟩ ⟨_,ho2,rfl⟩ noFill_tuple_add seq_tuple_add FE FF (FG _ _)
   (tuple_addW0 a b _ its2.toArray n n2 dd dd2 sl sl2 (by simp)) ⟨ho,ho2,⟨.ref b,H,I,rfl,q b H (FV.refl H) hb⟩⟩
 ·refine AF tx s σ H _ _ v u Q I rx ry ⟨a,b,xs,ys,rfl,rfl,F7.of ha,F7.of hb,hx,hz,fun e=>q a H (FV.refl H) (by subst e;simpa using ha),fun _ p hp=>q p _ (fun b o e=>by rw[qi (qj e hp)];exact e) qb⟩
theorem fj{ns:List Int}{us:List Γ}(r:F3 (ns.map V.int) us)(j:Nat)(h:j<us.length)(h':j<ns.length):∃t,us[j]=Γ.int ns[j] t:=by
 obtain⟨u,hu,ru⟩:=r.get (i:=j) (x:=V.int ns[j]) (by rw[Jq,Jk h'];rfl)
 rw[Jk h]at hu;cases hu;exact ru
theorem uQ(ns ms:List Int)(h:ns.length=ms.length):((List.range ns.length).all fun j=>(ns.getD j 0==ms.getD j 0))=decide (ns=ms):=by
 rw[D8,EK,Ff];constructor
 ·intro q
  refine List.ext_getElem h fun i h1 h2=>?_
  have:=q i (J6.mpr h1)
  simp only[JI,Jk h1,Jk h2,Eg,J4]at this;exact this
 ·rintro rfl i _
  simp
end
def QK:Φ->Bool
 | .Starred .. =>false
 |_=>true
theorem aP{e:Φ}{es:List Φ}{env:Env}(h:QK e=true):θ (e::es) env=(false,eval e env)::θ es env:=by
 cases e<;>first|rfl|cases h
theorem DG{X:Cx}{e:Φ}{es:List Φ}{te:TE}{t:TA}(ha:PE X e te)(hr:PA X es t)(h:QK e=true:=by rfl):PA X (e::es) (pv te t):=As ha hr (aP h)
structure Df(P:Ξ)(w:Ω)(K:ι)(mg:FT)(base:Ψ)(x:Str)(ps:List Str)(k:Nat)(sp:Sp):Prop where
 ex:∃(f:Δ) (fd:FuncData),Ht P w K mg base aF k f fd ps sp/\mg x=some (.ref f)/\PySem.W.keepIn K (.ref f)=true/\GU K fd ps []
structure At(K:ι)(mg:FT)(x:Str)(st:δ)(ps:List Str):Prop where
 ex:∃(f:Δ) (fd:FuncData),Ii K x x st f fd/\mg x=some (.ref f)/\PySem.W.keepIn K (.ref f)=true/\GU K fd ps []
section
variable{P:Ξ}{w:Ω}{K:ι}{mg:FT}{base:Ψ}
theorem At.df{x:Str}{st:δ}{ps N:List Str}{k:Nat}{sp:Sp}(a:At K mg x st ps)(S:FW N ps (qh st))(len:∀vs H Q E,sp vs H Q E->vs.length=ps.length)
  (hbody:∀(f:Δ) (cdv:Γ) (A:Around) (outer:List Env) (s:Θ) (H:Hp) (vs:List V) (Q:VK) (E:XK),Gg k (A.deeper (envOfC x (qh st) s.heap.objs.size f cdv))->sp vs H Q E->
   ∃t,HY (bg aF P w K mg base N x (qh st) f cdv A outer s H E).nox (zF st) t/\t {nx:=fun _ H'=>Q .non H',rt:=Q} (QZ N vs) H):Df P w K mg base x ps (k+1) sp:=by
 obtain⟨f,fd,F,m,kp,bd⟩:=a.ex
 exact⟨f,fd,F.ok S len (fun cdv A outer s H vs Q E hr h=>hbody f cdv A outer s H vs Q E hr h),m,kp,bd⟩
end
section
variable{X:Cx}{x:Str}{ps:List Str}{k:Nat}{sp:Sp}{e:Φ}{es:List Φ}{p pos:Pos}{t:TA}
theorem AR(D:Df X.prog X.w X.K X.mg X.base x ps k sp)(hr:Gg k X.A)(ha:PA X (e::es) t)(hg:Gl X x:=by rfl)(hdb:(x==("__debug__":Str))=false:=by decide)(he:θ (e::es) X.env=(false,eval e X.env)::θ es X.env:=by rfl)(hpl:(backTo pos (θ es X.env)).any (·.1)=false:=by rfl):
  PE X (.Call (.Name x p) (e::es) [] pos) (rL sp [] E0 t):=by
 obtain⟨f,fd,ok,m,kp,bd⟩:=D.ex;exact Ax ok hr hg m kp bd .nil kg ha hdb he hpl
end
theorem eB{X:Cx}{scope:Scope}(kind:scope.kind= .function)(names:∀x∈scope.names,x.2= .local->scope.names.lookup x.1=some .local)(nocell:∀x∈scope.names,x.2≠ .cell)
  (free:∀x∈scope.names,x.2= .free->x.1∈([]:List Str)):GN X scope [] []:=⟨kind,names,nocell,free,rfl,fun i j y h=>by simp at h⟩
theorem lq{X:Cx}{scope:Scope}{y:Str}{j:Nat}(kind:scope.kind= .function)(names:∀x∈scope.names,x.2= .local->scope.names.lookup x.1=some .local)(nocell:∀x∈scope.names,x.2≠ .cell)
  (free:∀x∈scope.names,x.2= .free->x.1∈([y]:List Str))(h1:X.N[j]? =some y)(h2:X.env.kindOf y=some .cell)(h3:(relabel scope X.env).names.lookup y=some .cell):GN X scope [y] [j]:=
 ⟨kind,names,nocell,free,rfl,fun i j' y' e1 e2=>by
  cases i with
  |zero=>cases e1;cases e2;exact⟨h1,h2,h3⟩
  |succ i=>simp at e1⟩
theorem kE{X:Cx}{y:Str}{c:Δ}(h:X.env.cells.lookup y=some c):∀z d,([(y,c)]:List (Str×Δ)).lookup z=some d->X.env.cells.lookup z=some d:=fun z d e=>by
 by_cases hz:z=y
 ·subst hz
  simp at e
  rw[<- e];exact h
 ·simp [DX,show(z==y)=false from by simpa using hz]at e
theorem eO{X:Cx}{K:ι}(h:X.K=K):Iv X (wm K):=by subst h;exact qK
abbrev p9(n m k:Int):HO:= .lst [.int n,.int m,.int k]
theorem _root_.L2.FV.upd{H:Hp}{p:Δ}{o:HO}(h:H p=none):FV H (F2 H p o):=fun b u e=>by rw[qi (qj e h)];exact e
theorem sG(c:Bool): -(2 ^ 64:Int)<(if c=true then(1:Int)else 0):=by cases c<;>decide
theorem sj(c:Bool):(if c=true then(1:Int)else 0)<(2 ^ 64:Int):=by cases c<;>decide
theorem oP{n j:Nat}(h:j<n):cC n (j:Int)=some j:=by unfold cC;rw[Jc (by lia),Jc (by lia)];simp
def Z3(ns:List Int)(lo hi:Option Int):List Int:=(ns.drop (HT.sIx ns.length 0 lo)).take (HT.sIx ns.length ns.length hi-HT.sIx ns.length 0 lo)
theorem aE(ns:List Int)(lo hi:Option Int):ZN (ns.map V.int) lo hi=(Z3 ns lo hi).map V.int:=by unfold ZN Z3;rw[Je,List.map_take,List.map_drop]
theorem Qz{ns:List Int}{i:Nat}{x:V}(h:(ns.map V.int)[i]? =some x):∃z,x= .int z/\ns[i]? =some z:=by
 rw[Jq]at h;cases e:ns[i]? with
 |none=>rw[e]at h;cases h
 |some z=>rw[e]at h;exact⟨z,(JB h).symm,rfl⟩
theorem iQ{ns:List Int}{i:Nat}(h:i<ns.length):(ns.map V.int)[i]? =some (.int ns[i]):=by rw[Jq,Jk h];rfl
theorem cg(ns:List Int)(i:Nat)(z:Int):(ns.map V.int).set i (.int z)=(ns.set i z).map V.int:=by rw[List.map_set]
def xn:Option HO->Option String
 |some (.lst _)=>some "list"
 |some (.tup _)=>some "tuple"
 |_=>none
def kd(H:Hp):V->Option String
 | .non=>some "NoneType"
 | .bl _=>some "bool"
 | .int _=>some "int"
 | .str _=>some "str"
 | .ref a=>xn (H a)
 |_=>none
theorem ub{o:Option HO}{t:String}(h:xn o=some t):(∃xs,o=some (.lst xs)/\t="list")\/(∃xs,o=some (.tup xs)/\t="tuple"):=by
 cases o with
 |none=>cases h
 |some u=>
  cases u with
  |lst xs=>cases h;exact .inl ⟨xs,rfl,rfl⟩
  |tup xs=>cases h;exact .inr ⟨xs,rfl,rfl⟩
  |_=>cases h
theorem gJ{H:Hp}{a:Δ}{t:String}(h:kd H (.ref a)=some t):(∃xs,H a=some (.lst xs)/\t="list")\/(∃xs,H a=some (.tup xs)/\t="tuple"):=ub h
theorem CZ{K:ι}{H:Hp}{x:V}{t:String}(h:kd H x=some t):HB K H x (.type t)/\t∈fV:=by
 cases x with
 |non=>cases h;exact⟨.non,by simp⟩
 |bl b=>cases h;exact⟨.bl b,by simp⟩
 |int i=>cases h;exact⟨.int i,by simp⟩
 |str x=>cases h;exact⟨.str x,by simp⟩
 |byt b=>cases h
 |flt b=>cases h
 |ty b=>cases h
 |ref a=>
  rcases gJ h with⟨xs,e,rfl⟩|⟨xs,e,rfl⟩
  ·exact⟨.lst e,by simp⟩
  ·exact⟨.tup e,by simp⟩
theorem eP{H H':Hp}{x:V}{t:String}(s:FV H H')(h:kd H x=some t):kd H' x=some t:=by
 cases x with
 |ref a=>
  rcases gJ h with⟨xs,e,rfl⟩|⟨xs,e,rfl⟩
  ·show xn (H' a)=_;rw[s _ _ e];rfl
  ·show xn (H' a)=_;rw[s _ _ e];rfl
 |_=>exact h
def cf:V->Bool
 | .int i=>decide (0<=i)&&decide (i<16)
 |_=>false
def j9(K:ι):Sp:=fun vs H Q _=>∃(a:Δ) (ns:List Int),vs=[.ref a]/\F6 K H a (ns.map V.int)/\ns.length<=63/\∀H',Q (.bl true) H'
def nK:Sp:=fun vs H Q _=>∃x t,vs=[x]/\kd H x=some t/\Q (.bl (cf x)) H
def mC:Sp:=fun vs H Q _=>∃p xs,vs=[.ref p]/\H p=some (.tup xs)/\xs.length<=ζ/\(∀x∈xs,∃t,kd H x=some t)/\∀H',FV H H'->Q (.bl (xs.all cf)) H'
end L3
namespace L3
open PySem PySem.Spec L2
structure QE(X:Cx)(e:Φ)(t:TE):Prop where
 h:PE X e t
structure QT(X:Cx)(e:Φ)(t:TT):Prop where
 h:PT X e t
structure QW(X:Cx)(e:Φ)(t:TT):Prop where
 h:PW X e t
structure QA(X:Cx)(e:List Φ)(t:TA):Prop where
 h:PA X e t
structure QS(X:Cx)(e:δ)(t:TS):Prop where
 h:PS X e t
structure Io(X:Cx)(e:List δ)(t:TS):Prop where
 h:HY X e t
structure QG(X:Cx)(e:Φ)(t:TG):Prop where
 h:PG X e t
structure IP(X:Cx)(e:List Φ)(t:aX):Prop where
 h:oR X e t
structure QO(X:Cx)(e:Option Φ)(t:TO):Prop where
 h:PO X e t
structure QI(X:Cx)(tg e:Φ)(t:TI):Prop where
 h:PI X tg e t
variable{X:Cx}
theorem qe{i j pos}:QE X (.Constant (.int i) j pos) (tC (.int i)):=⟨B1⟩
theorem Qo{b j pos}:QE X (.Constant (.bool b) j pos) (tC (.bl b)):=⟨Cz⟩
theorem qM{j pos}:QE X (.Constant .none j pos) (tC .non):=⟨Ch⟩
theorem qz{x j pos}:QE X (.Constant (.str x) j pos) (tC (.str x)):=⟨BD⟩
theorem zg{x:Str}{v:V}{u:Γ}{pos:Pos}(hg:Gl X x)(hm:X.mg x=some u)(r:F5 v u)(hd:(x==("__debug__":Str))=false:=by decide):QE X (.Name x pos) (tC v):=⟨AH (hg:=hg) (hm:=hm) (r:=r) (hd:=hd)⟩
theorem qL{x:Str}{v:V}{u:Γ}{pos:Pos}(hg:Gl X x)(hm:X.mg x=none)(hv:bootBuiltins x=some u)(r:F5 v u)(hn:x≠"__name__":=by decide)(hd:(x==("__debug__":Str))=false:=by decide):QE X (.Name x pos) (tC v):=⟨yX (hg:=hg) (hm:=hm) (hv:=hv) (r:=r) (hn:=hn) (hd:=hd)⟩
theorem ql{a b:Φ}{ta tb:TE}{pos:Pos}{op:Operator}{r:R2}(ho:zw X (binaryOp op) r)(ha:QE X a ta)(hb:QE X b tb):QE X (.BinOp a op b pos) (jG r ta tb):=⟨CO (ho:=ho) (ha:=ha.h) (hb:=hb.h)⟩
theorem zp{a b:Φ}{ta tb:TE}{pos:Pos}{op:CmpOp}{r:R2}(ho:zw X (compareOp op) r)(ha:QE X a ta)(hb:QE X b tb)(hm:behindInMarks op b=false):QE X (.Compare a [op] [b] pos) (jG r ta tb):=⟨yn (ho:=ho) (ha:=ha.h) (hb:=hb.h) (hm:=hm)⟩
theorem qx{a b:Φ}{ta tb:TE}{pos:Pos}{op:CmpOp}{r:R2}(ho:zw X (compareOp op) r)(ha:QE X a ta)(hb:QE X b tb)(hm:behindInMarks op b=false):QT X (.Compare a [op] [b] pos) (gE (jG r ta tb)):=⟨yr (ho:=ho) (ha:=ha.h) (hb:=hb.h) (hm:=hm)⟩
theorem ge{a b c:Φ}{ta tb tc:TE}{pos:Pos}{op op':CmpOp}{r r':R2}(ho:zw X (compareOp op) r)(ho':zw X (compareOp op') r')(ha:QE X a ta)(hb:QE X b tb)(hc:QE X c tc)(hm:lastMarks [op,op'] [b,c]=false:=by with_unfolding_all rfl):QE X (.Compare a [op,op'] [b,c] pos) (gH r r' ta tb tc):=⟨vw (ho:=ho) (ho':=ho') (ha:=ha.h) (hb:=hb.h) (hc:=hc.h) (hm:=hm)⟩
theorem mz{a b c:Φ}{ta tb tc:TE}{pos:Pos}{op op':CmpOp}{r r':R2}(ho:zw X (compareOp op) r)(ho':zw X (compareOp op') r')(ha:QE X a ta)(hb:QE X b tb)(hc:QE X c tc)(hm:lastMarks [op,op'] [b,c]=false:=by with_unfolding_all rfl):QT X (.Compare a [op,op'] [b,c] pos) (gE (gH r r' ta tb tc)):=⟨uT (ho:=ho) (ho':=ho') (ha:=ha.h) (hb:=hb.h) (hc:=hc.h) (hm:=hm)⟩
theorem zY{a b:Φ}{rest:List Φ}{ta tb:TE}{pos:Pos}(ha:QE X a ta)(hb:QE X (.BoolOp .And (b::rest) pos) tb):QE X (.BoolOp .And (a::b::rest) pos) (xk ta tb):=⟨AT (ha:=ha.h) (hb:=hb.h)⟩
theorem QR{a:Φ}{pos:Pos}{op}{t:TE}(h:QE X a t):QE X (.BoolOp op [a] pos) t:=⟨BA (h:=h.h)⟩
theorem cR{a:Φ}{ta:TE}{pos:Pos}(ha:QE X a ta):QE X (.UnaryOp .Not a pos) (wT ta):=⟨BR (ha:=ha.h)⟩
theorem mH{a b:Φ}{rest:List Φ}{tA tB':TT}{pos:Pos}(ha:QT X a tA)(hb:QW X (.BoolOp .And (b::rest) pos) tB'):QW X (.BoolOp .And (a::b::rest) pos) (Cv tA tB'):=⟨Bc (ha:=ha.h) (hb:=hb.h)⟩
theorem zZ{a b:Φ}{rest:List Φ}{tA tB':TT}{pos:Pos}(ha:QT X a tA)(hb:QW X (.BoolOp .Or (b::rest) pos) tB'):QW X (.BoolOp .Or (a::b::rest) pos) (C7 tA tB'):=⟨CW (ha:=ha.h) (hb:=hb.h)⟩
theorem il{a:Φ}{tA:TT}{pos:Pos}(ha:QT X a tA):QW X (.BoolOp .And [a] pos) tA:=⟨yy (ha:=ha.h)⟩
theorem zS{a:Φ}{tA:TT}{pos:Pos}(ha:QT X a tA):QW X (.BoolOp .Or [a] pos) tA:=⟨BB (ha:=ha.h)⟩
theorem zL{a:Φ}{tA:TT}{pos:Pos}(ha:QT X a tA):QT X (.UnaryOp .Not a pos) (Cb tA):=⟨Ca (ha:=ha.h)⟩
theorem zh{e:Φ}{t:TE}(h:QE X e t)(he:∀whole,isTrue e X.env whole=(do let v <- whole;standAt e.pos;holding [v] (truthy v)):=by intro _;rfl):QT X e (tB t):=⟨BV (h:=h.h) (he:=he)⟩
theorem uP{a b:Φ}{ta tb:TE}{tA:TT}{pos:Pos}{c:Φ}(hc:QT X c tA)(ha:QE X a ta)(hb:QE X b tb):QE X (.IfExp c a b pos) (De tA ta tb):=⟨vJ (hc:=hc.h) (ha:=ha.h) (hb:=hb.h)⟩
theorem qc{e:Φ}{es:List Φ}{te:TE}{t:TA}(ha:QE X e te)(hr:QA X es t)(h:QK e=true:=by rfl):QA X (e::es) (pv te t):=⟨DG (ha:=ha.h) (hr:=hr.h) (h:=h)⟩
theorem qa:QA X [] uO:=⟨Cg⟩
theorem qu{es:List Φ}{t:TA}{pos:Pos}{x1}(h:QA X es t):QE X (.Tuple es x1 pos) (Bo t):=⟨Bs (h:=h.h)⟩
theorem zc{es:List Φ}{t:TA}{pos:Pos}(h:QA X es t):QE X (.List es pos) (Bd t):=⟨Bp (h:=h.h)⟩
theorem qw{a b:Φ}{ta tb:TE}{pos:Pos}{r:R2}(hr:Iv X r)(ha:QE X a ta)(hb:QE X b tb)(hs:oS b:=by exact fun _ _=>rfl):QE X (.Subscript a b pos) (jG r ta tb):=⟨CV (hr:=hr) (ha:=ha.h) (hb:=hb.h) (hs:=hs)⟩
theorem Q4{e:Φ}{te:TE}{lo hi:Option Φ}{tl th:TO}{pos p2:Pos}{r:V->Option Int->Option Int->Hp->VK->Prop}(hr:uL X r)(he:QE X e te)(hl:QO X lo tl)(hu:QO X hi th):QE X (.Subscript e (.Slice lo hi none p2) pos) (Dg r te tl th):=⟨vU (hr:=hr) (he:=he.h) (hl:=hl.h) (hu:=hu.h)⟩
theorem ZM:QO X none oO:=⟨yp⟩
theorem ZC{e:Φ}{te:TE}(h:QE X e te):QO X (some e) (wX te):=⟨AD (h:=h.h)⟩
theorem qp{x:Str}{p pos:Pos}{e:Φ}{es:List Φ}{t:TA}{id:String}{r:List V->Hp->VK->Prop}(hc:ze X (.builtin id) r)(hm:X.mg x=none)(hv:bootBuiltins x=some (.builtin id))(ha:QA X (e::es) t)(hg:Gl X x:=by rfl)(hn:x≠"__name__":=by decide)(hdb:(x==("__debug__":Str))=false:=by decide)(he:θ (e::es) X.env=(false,eval e X.env)::θ es X.env:=by rfl)(hpl:(backTo pos (θ es X.env)).any (·.1)=false:=by rfl):QE X (.Call (.Name x p) (e::es) [] pos) (wV r t):=⟨vD (hc:=hc) (hg:=hg) (hm:=hm) (hv:=hv) (ha:=ha.h) (hn:=hn) (hdb:=hdb) (he:=he) (hpl:=hpl)⟩
theorem qI{x:Str}{p pos:Pos}{e:Φ}{es:List Φ}{t:TA}{T:String}{r:List V->Hp->VK->Prop}(hc:ze X (.type T) r)(hm:X.mg x=none)(hv:bootBuiltins x=some (.type T))(ha:QA X (e::es) t)(hg:Gl X x:=by rfl)(hn:x≠"__name__":=by decide)(hdb:(x==("__debug__":Str))=false:=by decide)(he:θ (e::es) X.env=(false,eval e X.env)::θ es X.env:=by rfl)(hpl:(backTo pos (θ es X.env)).any (·.1)=false:=by rfl):QE X (.Call (.Name x p) (e::es) [] pos) (wV r t):=⟨sP (hc:=hc) (hg:=hg) (hm:=hm) (hv:=hv) (ha:=ha.h) (hn:=hn) (hdb:=hdb) (he:=he) (hpl:=hpl)⟩
theorem qo{x:Str}{ps:List Str}{k:Nat}{sp:Sp}{e:Φ}{es:List Φ}{p pos:Pos}{t:TA}(D:Df X.prog X.w X.K X.mg X.base x ps k sp)(hr:Gg k X.A)(ha:QA X (e::es) t)(hg:Gl X x:=by rfl)(hdb:(x==("__debug__":Str))=false:=by decide)(he:θ (e::es) X.env=(false,eval e X.env)::θ es X.env:=by rfl)(hpl:(backTo pos (θ es X.env)).any (·.1)=false:=by rfl):QE X (.Call (.Name x p) (e::es) [] pos) (rL sp [] E0 t):=⟨AR (D:=D) (hr:=hr) (ha:=ha.h) (hg:=hg) (hdb:=hdb) (he:=he) (hpl:=hpl)⟩
theorem qt:Io X [] xy:=⟨Ag⟩
theorem qd{st:δ}{rest:List δ}{t u:TS}(h1:QS X st t)(h2:Io X rest u):Io X (st::rest) (io t u):=⟨uU (h1:=h1.h) (h2:=h2.h)⟩
theorem qf{st:δ}{t:TS}(h1:QS X st t):Io X [st] t:=⟨Aw (h1:=h1.h)⟩
theorem qA{pos:Pos}{i:Nat}{x:Str}{e:Φ}{te:TE}{pos':Pos}(hN:X.N.Nodup)(hi:X.N[i]? =some x)(hx:je X.env.scope x)(he:QE X e te)(hs:swapsWith e (some (.Name x pos')) pos.line X.env=pure false:=by rfl)(hf:X.fn x=true\/X.env.scope.names.lookup x=some .local:=by first|exact .inl rfl|exact .inr rfl|assumption):QS X (.Assign [.Name x pos'] e pos) (iK te (Zk i)):=⟨Bq (hN:=hN) (hi:=hi) (hx:=hx) (he:=he.h) (hs:=hs) (hf:=hf)⟩
theorem zi{pos:Pos}{tg e:Φ}{te:TE}{g:TG}(he:QE X e te)(hg:QG X tg g)(hs:swapsWithSole [tg] e pos.line X.env=pure false:=by rfl)(hw:swappedStores [tg] e X.env=pure none:=by rfl)(h1:(assignEach [tg] X.env).map (·.2)=[assign tg X.env]:=by rfl):QS X (.Assign [tg] e pos) (iK te g):=⟨Cu (he:=he.h) (hg:=hg.h) (hs:=hs) (hw:=hw) (h1:=h1)⟩
theorem qk{e:Φ}{te:TE}{pos:Pos}(he:QE X e te):QS X (.Return (some e) pos) (Bl te):=⟨BC (he:=he.h)⟩
theorem qE{t u:TS}{pos:Pos}{c:Φ}{a b:List δ}{tc:TT}(hc:QT X c tc)(ha:Io X a t)(hb:Io X b u):QS X (.If c a b pos) (Cp tc t u):=⟨CD (hc:=hc.h) (ha:=ha.h) (hb:=hb.h)⟩
theorem zz{tg:Φ}{iter:Φ}{body:List δ}{wi:TI}{g:TG}{tb:TS}{pos:Pos}(hp:PassesOwn (model X.prog X.w) X.A X.env X.xe)(hc:X.calm=true)(hi:QI X tg iter wi)(hg:QG X tg g)(hb:Io X body tb)(hs:∀x,foldedSetIterable iter X.env x=pure x:=by intro _;rfl):QS X (.For tg iter body [] pos) (BX wi g tb):=⟨BE (hp:=hp) (hc:=hc) (hi:=hi.h) (hg:=hg.h) (hb:=hb.h) (hs:=hs)⟩
theorem zr{e:Φ}{te:TE}{pos:Pos}(he:QE X e te)(hs:swapsWith e none pos.line X.env=pure false:=by rfl):QS X (.Expr e pos) (xz te):=⟨Ai (he:=he.h) (hs:=hs)⟩
theorem y7{pos:Pos}{o i e:Φ}{to ti te:TE}{tget:V->V->Hp->VK->Prop}{tip:uy}{tset:gg}{op:Operator}{tpos:Pos}(ho:QE X o to)(hi:QE X i ti)(hg:uY X tget)(he:QE X e te)(hp:BU X op tip)(hs:l6 X tset)(ha:∀ov iv new,augStore i ov iv new=(do holding [new,ov,iv] (setItem ov iv new);release [new,ov,iv] [];pure .next):=by intros;rfl):QS X (.AugAssign (.Subscript o i tpos) op e pos) (xu to ti te tget tip tset):=⟨yt (ho:=ho.h) (hi:=hi.h) (hg:=hg) (he:=he.h) (hp:=hp) (hs:=hs) (ha:=ha)⟩
theorem Zh{tg:Φ}{l:Φ}{tl:TE}(hl:QE X l tl):QI X tg l (wM X.K tl):=⟨AK (hl:=hl.h)⟩
theorem ZU{tg:Φ}{l:Φ}{tl:TE}(hl:QE X l tl):QI X tg l (Bw X.K tl):=⟨Ct (hl:=hl.h)⟩
theorem zK{tg:Φ}{a:Φ}{ta:TA}{p pos:Pos}(hg:Gl X "range")(hm:X.mg "range"=none)(ha:QA X [a] ta)(hs:θ [a] X.env=[(false,eval a X.env)]:=by rfl):QI X tg (.Call (.Name "range" p) [a] [] pos) (xt ta):=⟨tY (hg:=hg) (hm:=hm) (ha:=ha.h) (hs:=hs)⟩
theorem jF{tg:Φ}{a b:Φ}{ta:TA}{p pos:Pos}(hg:Gl X "range")(hm:X.mg "range"=none)(ha:QA X [a,b] ta)(hs:θ [a,b] X.env=[(false,eval a X.env),(false,eval b X.env)]:=by rfl)(hs2:θ [b] X.env=[(false,eval b X.env)]:=by rfl):QI X tg (.Call (.Name "range" p) [a,b] [] pos) (wF ta):=⟨tR (hg:=hg) (hm:=hm) (ha:=ha.h) (hs:=hs) (hs2:=hs2)⟩
theorem ye{a:Φ}{ta:TA}{p pos:Pos}{elts:List Φ}{x1}{tpos:Pos}(hg:Gl X "enumerate")(hm:X.mg "enumerate"=none)(ha:QA X [a] ta)(hs:θ [a] X.env=[(false,eval a X.env)]:=by rfl):QI X (.Tuple elts x1 tpos) (.Call (.Name "enumerate" p) [a] [] pos) (wP X.K ta):=⟨Ad (hg:=hg) (hm:=hm) (ha:=ha.h) (hs:=hs)⟩
theorem qg{pos:Pos}{i:Nat}{x:Str}(hN:X.N.Nodup)(hi:X.N[i]? =some x)(hx:je X.env.scope x)(hf:X.fn x=true\/X.env.scope.names.lookup x=some .local:=by first|exact .inl rfl|exact .inr rfl|assumption):QG X (.Name x pos) (Zk i):=⟨yZ (hN:=hN) (hi:=hi) (hx:=hx) (hf:=hf)⟩
theorem gs{pos:Pos}{es:List Φ}{k:Nat}{t:aX}{n:Nat}(hc:X.calm=true)(h:IP X es t)(hn:(assignEach es X.env).length=n:=by rfl)(hst:(assignEach es X.env).findIdx? (·.1)=none:=by rfl):QG X (.Tuple es k pos) (rN X.K n t):=⟨kQ (hc:=hc) (h:=h.h) (hn:=hn) (hst:=hst)⟩
theorem ef{pos:Pos}{o i:Φ}{to ti:TE}{t:gg}(ho:QE X o to)(hi:QE X i ti)(hs:l6 X t)(ha:∀v,assign (.Subscript o i pos) X.env v=(do
      let ov <- holding [v] (eval o X.env)
      let iv <- holding [v,ov] (eval i X.env)
      standAt pos
      holding [v,ov,iv] (setItem ov iv v)
      release [v,ov,iv] []):=by intro _;rfl):QG X (.Subscript o i pos) (AL to ti t):=⟨BM (ho:=ho.h) (hi:=hi.h) (hs:=hs) (ha:=ha)⟩
theorem qP:IP X [] vC:=⟨Ap⟩
theorem qm{e:Φ}{es:List Φ}{t:TG}{u:aX}(h1:QG X e t)(h2:IP X es u)(hs:(assignEach (e::es) X.env).map (·.2)=assign e X.env::(assignEach es X.env).map (·.2):=by rfl):IP X (e::es) (ke t u):=⟨vm (h1:=h1.h) (h2:=h2.h) (hs:=hs)⟩
theorem QW.pt{e:Φ}{t:TT}(h:QW X e t):QT X e t:=⟨PW.pt h.h⟩
theorem qv(i:Nat){x:Str}{pos:Pos}(hN:X.N[i]? =some x:=by rfl)(hv:Ba X.env.scope x:=by first|exact Or.inl rfl|exact Or.inr (Or.inl rfl)|exact Or.inr (Or.inr rfl))(hd:(x==("__debug__":Str))=false:=by decide)
  (hcd:(x==("__classdict__":Str))=false:=by decide):QE X (.Name x pos) (Bb i):=⟨Cm hN hv hd hcd⟩
theorem zW{elt tg iter:Φ}{scope:Scope}{cl:List (Str×Δ)}{pos:Pos}{fr own:List Str}{js:List Nat}{wi:TI}{g:TG}{te:TE}
  (hc:X.calm=true)(hi:QI X tg iter wi)(hclos:closureFor scope X.env=pure cl)(hcl:∀y c,cl.lookup y=some c->X.env.cells.lookup y=some c)(hfr:cl.map (·.1)=fr)
  (S:GN X scope fr js)
  (hg:∀C s H fp,QG (zH X (own++fr) scope cl C s H fp) tg g)(he:∀C s H fp,QE (zH X (own++fr) scope cl C s H fp) elt te)
  (hs:∀x,foldedSetIterable iter X.env x=pure x:=by intro _;rfl):
  QE X (.ListComp elt [⟨tg,iter,[],0⟩] scope pos) (gW own.length js wi g te):=⟨yW hc hi.h hclos hcl hfr S (fun C s H fp=>(hg C s H fp).h) (fun C s H fp=>(he C s H fp).h) hs⟩
theorem iE{elt tg iter:Φ}{scope:Scope}{cl:List (Str×Δ)}{pos spos py:Pos}{fr own:List Str}{js:List Nat}{wi:TI}{g:TG}{te:TE}{i:Nat}{y:Str}
  (hN:X.N.Nodup)(hi':X.N[i]? =some y)(hx:je X.env.scope y)
  (hc:X.calm=true)(hi:QI X tg iter wi)(hclos:closureFor scope X.env=pure cl)(hcl:∀y c,cl.lookup y=some c->X.env.cells.lookup y=some c)(hfr:cl.map (·.1)=fr)
  (S:GN X scope fr js)
  (hg:∀C s H fp,QG (zH X (own++fr) scope cl C s H fp) tg g)(he:∀C s H fp,QE (zH X (own++fr) scope cl C s H fp) elt te)
  (hs:∀x,foldedSetIterable iter X.env x=pure x:=by intro _;rfl)(hsw:swapsWith (.ListComp elt [⟨tg,iter,[],0⟩] scope pos) (some (.Name y py)) spos.line X.env=pure true:=by rfl)
  (hf:X.fn y=true\/X.env.scope.names.lookup y=some .local:=by first|exact .inl rfl|exact .inr rfl|assumption):
  QS X (.Assign [.Name y py] (.ListComp elt [⟨tg,iter,[],0⟩] scope pos) spos) (iK (gW own.length js wi g te) (Zk i)):=⟨Ay hN hi' hx hc hi.h hclos hcl hfr S (fun C s H fp=>(hg C s H fp).h) (fun C s H fp=>(he C s H fp).h) hs hsw hf⟩
section
variable{P:Ξ}{w:Ω}{K:ι}{mg:FT}{base:Ψ}
theorem At.dq{x:Str}{st:δ}{ps N:List Str}{k:Nat}{sp:Sp}(a:At K mg x st ps)(S:FW N ps (qh st))
  (hbody:∀(f:Δ) (cdv:Γ) (A:Around) (outer:List Env) (s:Θ) (H:Hp) (vs:List V) (Q:VK) (E:XK),Gg k (A.deeper (PyProof.Rows.envOfC x (qh st) s.heap.objs.size f cdv))->sp vs H Q E->
   ∃t,Io (bg aF P w K mg base N x (qh st) f cdv A outer s H E).nox (zF st) t/\t {nx:=fun _ H'=>Q .non H',rt:=Q} (QZ N vs) H)(len:∀vs H Q E,sp vs H Q E->vs.length=ps.length:=by intro vs H Q E h;(repeat first|obtain⟨rfl,h⟩:=h|obtain⟨_,h⟩:=h);all_goals rfl):Df P w K mg base x ps (k+1) sp:=
 a.df S len fun f cdv A outer s H vs Q E hr h=>let⟨t,q1,q2⟩:=hbody f cdv A outer s H vs Q E hr h;⟨t,q1.h,q2⟩
theorem _root_.L2.Ii.dq{x Ld:Str}{st:δ}{f:Δ}{fd:FuncData}{N ps:List Str}{k:Nat}{sp:Sp}(F:Ii K x Ld st f fd)(S:FW N ps (qh st))(len:∀vs H Q E,sp vs H Q E->vs.length=ps.length)
  (hbody:∀(cdv:Γ) (A:Around) (outer:List Env) (s:Θ) (H:Hp) (vs:List V) (Q:VK) (E:XK),Gg k (A.deeper (PyProof.Rows.envOfC Ld (qh st) s.heap.objs.size f cdv))->sp vs H Q E->
   ∃t,Io (bg aF P w K mg base N Ld (qh st) f cdv A outer s H E).nox (zF st) t/\t {nx:=fun _ H'=>Q .non H',rt:=Q} (QZ N vs) H):Ht P w K mg base aF (k+1) f fd ps sp:=
 F.ok S len fun cdv A outer s H vs Q E hr h=>let⟨t,q1,q2⟩:=hbody cdv A outer s H vs Q E hr h;⟨t,q1.h,q2⟩
theorem CN{x:Str}{st:δ}{ps:List Str}{f:Δ}{fd:FuncData}(F:Ii K x x st f fd)(m:mg x=some (.ref f))(b:GU K fd ps []):At K mg x st ps:=⟨f,fd,F,m,F.kp,b⟩
end
end L3
namespace L3
open PySem PySem.Spec PyProof.Rows L2
def Gx:List Int:=(List.range 16).map fun i=>((i:Nat):Int)
theorem mK:Gx.length=16:=by decide
theorem Cq:((List.range 16).map fun i=>V.int ((i:Nat):Int))=Gx.map V.int:=by decide +kernel
theorem yd{α:Type}{xs:List α}{z:Int}{j:Nat}{v:α}(e:z=(j:Int))(h:xs[j]? =some v):Ql xs z=some v:=by rw[e];exact Qk h
theorem ip{n j:Nat}{z:Int}(e:z=(j:Int))(h:j<n):cC n z=some j:=by rw[e];exact oP h
theorem lv{z:Int}(h:z∈Gx):0<=z/\z<16:=by
 obtain⟨i,hi,e⟩:=Ju.mp h
 have:=J6.mp hi
 lia
end L3
namespace L3
open PySem PySem.Spec PyProof.Rows L2
open Sem (wp)
section
variable{prog:Ξ}{w:Ω}{A:Around}{E:FS}{s:Θ}
theorem rA{it t:Δ}{i:Nat}{its:Array Γ}{x:Γ}{Q:FS}(hit:s.heap.IsTupleIter it t i)(ht:s.heap.IsTuple t its)(hx:its[i]? =some x)
  (hQ:∀h',h'.IsTupleIter it t (i+1)->Ψ.SameBut it s.heap h'->Q x {s with heap:=h'}):ε (model prog w) A (γ.SmallTypes.nextOf (.ref it)) Q E s:=by
 obtain⟨o,ho,hc,hd⟩:=id hit;obtain⟨ol,hol,_,nl,hdl⟩:=ht;unfold γ.SmallTypes.nextOf;refine Ja (wpAny_callSpecial?_slot (name:=Str.ofString "__next__") hit.typeIs Fu
  (JZ Fu hit.typeIs F.entry_tuple_iterator_next ?_ (F.args_tuple_iterator_next_1 _)))
 show ε _ _ (field (.ref it) 0 >>= _) _ _ s
 refine Ja (JR ho hd (x:= .ref t) rfl ?_)
 show ε _ _ (if(Γ.ref t==Γ.none)=true then _ else _) _ _ s
 rw[Jb (show¬((Γ.ref t==Γ.none)=true)from JG)]
 show ε _ _ (field (.ref it) 1 >>= _) _ _ s
 refine Ja (JR ho hd (x:= .int i 0) rfl ?_)
 show ε _ _ (seqItems? (.ref t) >>= _) _ _ s
 refine Ja (Eh hol hdl ?_)
 simp only[Ei,hx];refine Ja (D5 ho hd (by simp) (Jd ⟨x,rfl,Jd (hQ _ ?_ (J9 ..))⟩))
 exact⟨_,Ez _ ho (Fv (EL hd _)),(Obj.cls_mapFields ..).trans hc,by
  rw[EL hd];simp [rawInt]⟩
theorem jH{it t:Δ}{i:Nat}{its:Array Γ}{Q:FS}(hh:A.handled=none)(hit:s.heap.IsTupleIter it t i)(ht:s.heap.IsTuple t its)(hx:its[i]? =none)
  (hE:∀h' e,Ψ.ExtBut it s.heap h'->(∃o,h'.get? e=some o/\o.cls= .type "StopIteration")->E (.ref e) {s with heap:=h'}):
  ε (model prog w) A (γ.SmallTypes.nextOf (.ref it)) Q E s:=by
 obtain⟨o,ho,hc,hd⟩:=id hit;obtain⟨ol,hol,_,nl,hdl⟩:=ht;unfold γ.SmallTypes.nextOf;refine Ja (wpAny_callSpecial?_slot (name:=Str.ofString "__next__") hit.typeIs Fu
  (JZ Fu hit.typeIs F.entry_tuple_iterator_next ?_ (F.args_tuple_iterator_next_1 _)))
 show ε _ _ (field (.ref it) 0 >>= _) _ _ s
 refine Ja (JR ho hd (x:= .ref t) rfl ?_)
 show ε _ _ (if(Γ.ref t==Γ.none)=true then _ else _) _ _ s
 rw[Jb (show¬((Γ.ref t==Γ.none)=true)from JG)]
 show ε _ _ (field (.ref it) 1 >>= _) _ _ s
 refine Ja (JR ho hd (x:= .int i 0) rfl ?_)
 show ε _ _ (seqItems? (.ref t) >>= _) _ _ s
 refine Ja (Eh hol hdl ?_)
 simp only[Ei,hx];refine Ja (DR (Ja (D5 ho hd (by simp) ?_)))
 show ε _ _ (newExc (.type "StopIteration") [] >>= _) _ _ _
 refine Ja ?_
 simp only[newExc,newTuple];refine Ja (DQ ?_ (by size_fits))
 refine Ja (m:=firstArgMember _ _) (DY (a:=Γ.none) (by first|rfl|(simp only[firstArgMember];rfl)) ?_)
 refine DQ ?_ (by size_fits)
 simp only[raiseNew];refine Ja (wpAny_handled ?_)
 first|rw[show A.in1.handled=none from hh]|rw[hh]
 refine Ja (Jd (wpAny_throw ?_))
 exact hE _ _ (((J9 ..).extBut.push _).push _) ⟨_,Jp _ rfl,rfl⟩
end
theorem sV{prog:Ξ}{w:Ω}{A:Around}(hh:A.handled=none)(it t:Δ)(hne:t≠it)(its:Array Γ):
  Draws prog w A it [it,t] its.size (fun i v=>its[i]? =some v) (fun i h=>h.IsTupleIter it t i/\h.IsTuple t its) where
 live:=fun _ _ st=>let⟨o,ho,_⟩:=st.1;⟨o,ho⟩
 frame:=fun _ _ _ st hk=>⟨st.1.at fun o e=>hk it (by simp) o e,let⟨o,e,r⟩:=st.2;⟨o,hk t (by simp) o e,r⟩⟩
 item:=fun i s Q E hi st hQ=>by
  refine rA st.1 st.2 (x:=its[i]) (by simp [hi]) fun h' hit' hs'=>?_
  exact hQ _ h' s.toks (by simp [hi]) ⟨hit',let⟨o,e,r⟩:=st.2;⟨o,hs'.extBut _ _ hne e,r⟩⟩ hs'
 done:=fun s Q E st hE=>jH hh st.1 st.2 (by simp) hE
open AutoSeq1 (wpAny_loadPart')in
theorem nr(l:Δ)(items:Array Γ)(n:Nat)(dct:Option Δ)(sl:Array (Option Γ)):
  Meets (γ.«enumerate.__new__» ⟨[.type "enumerate",.ref l],[]⟩) (fun _ R s=>s.heap.get? l=some {cls:= .type "tuple",dict:=dct,data:= .seq items n,slots:=sl}/\
   R (.ok (.ret (.ref (s.heap.push {cls:= .type "tuple_iterator",data:= .fields #[.ref l,.int 0 0]}).objs.size)))
    {s with heap:=(s.heap.push {cls:= .type "tuple_iterator",data:= .fields #[.ref l,.int 0 0]}).push {cls:= .type "enumerate",data:= .fields #[.none,.bool false,.ref s.heap.objs.size,rawInt 0,.none,.none]}}):=
 .of_wp fun prog w A R s h=>by
  obtain⟨hp,g,d,tk,os⟩:=s;obtain⟨hl,h⟩:=h
  have hsub:=sub_enumerate;have hL:Ψ.IsTuple (Θ.heap ⟨hp,g,d,tk,os⟩) l items:=⟨_,hl,rfl,n,rfl⟩
  wp_walk using EV hl
  refine wpAny_stack_any fun st=>Jd ?_
  split
  ·rename_i c _ _ _ _ _
   cases(c==Γ.type "enumerate")
   ·wp_walk using EV hl,Ex hL
    exact⟨_,rfl,h⟩
   ·wp_walk using EV hl,Ex hL
    exact⟨_,rfl,h⟩
  ·wp_walk using EV hl,Ex hL
   exact⟨_,rfl,h⟩
section
variable{prog:Ξ}{w:Ω}{A:Around}{E:FS}{s:Θ}
theorem ra{l:Δ}{items:Array Γ}{Q:FS}(hL:s.heap.IsTuple l items)
  (h:∀h',IsEnum h' (s.heap.objs.size+1) s.heap.objs.size 0 .none->h'.IsTupleIter s.heap.objs.size l 0->(∀b o,s.heap.get? b=some o->h'.get? b=some o)->Q (.ref (s.heap.objs.size+1)) {s with heap:=h'}):
  ε (model prog w) A (call (.type "enumerate") [.ref l]) Q E s:=by
 obtain⟨⟨c,dct,dt,sl⟩,hl,hc,n,hd⟩:=hL
 replace hc:c= .type "tuple":=hc
 replace hd:dt= .seq items n:=hd
 subst hc hd;refine callType_new F.called_enumerate (by decide) (F.typeCall_enumerate_1 _) (F.newCall_enumerate_1 _) (fun obj=>F.args_object_init_2 obj _) F.entry_enumerate_new
  (nr l items n dct sl) ⟨hl,?_⟩
 have hz:(s.heap.push {cls:= .type "tuple_iterator",data:= .fields #[.ref l,.int 0 0]}).objs.size=s.heap.objs.size+1:=JV ..
 show _/\_
 rw[hz];have he:IsEnum ((s.heap.push {cls:= .type "tuple_iterator",data:= .fields #[.ref l,.int 0 0]}).push
   {cls:= .type "enumerate",data:= .fields #[.none,.bool false,.ref s.heap.objs.size,rawInt 0,.none,.none]}) (s.heap.objs.size+1) s.heap.objs.size 0 .none:=by
  have:=Jp (s.heap.push {cls:= .type "tuple_iterator",data:= .fields #[.ref l,.int 0 0]})
   (o:={cls:= .type "enumerate",data:= .fields #[.none,.bool false,.ref s.heap.objs.size,rawInt 0,.none,.none]}) rfl
  rw[hz]at this;exact this
 exact⟨⟨_,he,rfl⟩,h _ he ⟨_,Jh _ (Jp _ rfl),rfl,rfl⟩ fun b o x=>Jh _ (Jh _ x)⟩
end
def mj(K:ι)(a:Δ):It:=
 ⟨fun i H=>∃xs x,F7 K H a xs/\xs[i]? =some x,fun i H x H'=>∃p v,H p=none/\x= .ref p/\(∀xs,F7 K H a xs->xs[i]? =some v)/\H'=F2 H p (.tup [.int i,v]),fun i H=>∃xs,F7 K H a xs/\xs.length<=i⟩
theorem rM{P:Ξ}{w:Ω}{K:ι}{elts:List Φ}{x1}{pos:Pos}(a e it:Δ)(hei:e≠it):
  HL P w K (.Tuple elts x1 pos) (mj K a) [e,it] e (fun i h=>(∃old,IsEnum h e it i old)/\h.IsTupleIter it a i) where
 mem:=by simp
 obj:=fun i h st b hb=>by
  obtain⟨⟨old,he⟩,⟨o,ho,hc,hd⟩⟩:=st;rcases Jl.mp hb with z|z
  ·subst z
   refine⟨_,he,fun v z=>?_⟩
   have z':Data.fields _=Data.cell v:=z
   cases z'
  ·rw[Jj.mp z]
   exact⟨o,ho,fun v z=>by rw[hd]at z;cases z⟩
 keep:=fun i h h' st k=>⟨let⟨old,he⟩:=st.1;⟨old,k e (by simp) _ he⟩,st.2.at fun o q=>k it (by simp) o q⟩
 item:=by
  intro X hP hw hK hc i tx s σ H E I hf st hg;subst hP hw hK;obtain⟨xs,x,hq,hx⟩:=hg;obtain⟨its,rv,p,hz⟩:=I.tuple hq;obtain⟨u,hu,ru⟩:=rv.get hx;obtain⟨⟨old,he⟩,hit⟩:=st;have nae:a≠e:=fun z=>by
   subst z;obtain⟨o,ho,hcl,_⟩:=p;rw[he]at ho;cases ho;exact absurd (show Γ.type "enumerate"=Γ.type "tuple" from hcl) (by decide)
  have nai:a≠it:=fun z=>by
   subst z;obtain⟨o,ho,hcl,_⟩:=p;obtain⟨o',ho',hc',_⟩:=hit;rw[ho]at ho';cases ho';rw[hcl]at hc';exact absurd hc' (by decide)
  have hil:i<its.toArray.size:=by
   have:=(JH.mp hu).1
   simpa using this
  refine wpAny_pyNext_enum_itemD (sV (A:=X.A.in1) (I.ok.hd hc) it a nai its.toArray) he ⟨hit,p⟩ hil hei (by simp [hei,Ne.symm nae]) fun v h' tk hv ho ⟨hit',_⟩ ht hsz hk=>⟨_,rfl,?_⟩
  have ev:v=u:=by
   have hv':its[i]? =some v:=by simpa using hv
   rw[hu]at hv';exact(JB hv').symm
  subst ev;refine wpAny_letOwnedTupleGo_enum ho fun h'' he'' hs''=>?_
  have helt:e<s.heap.objs.size:=Ji he
  have hilt:it<s.heap.objs.size:=by obtain⟨_,y,_⟩:=hit;exact Ji y
  refine⟨.ref s.heap.objs.size,F2 H s.heap.objs.size (.tup [.int i,x]),?_,rfl,⟨_,x,I.hok.fresh (Jf _),rfl,fun ys hy=>by rw[I.tuple_inj hy hq];exact hx,rfl⟩,⟨⟨_,by simpa using he''⟩,?_⟩,?_⟩
  ·show L2.FY X tx σ _ {s with heap:=h'',toks:=tk+1}
   refine iL (s:=s) (its:=[.int i tk,v]) I (ch:=[e,it]) (fun b o hb q=>?_) hf (fun b hb=>?_) (Jf _) (by show 2<=ζ;decide) (.cons ⟨_,rfl⟩ (.cons ru .nil)) ?_
   ·have hb1:b≠e:=fun z=>hb (by simp [z])
    have hb2:b≠it:=fun z=>hb (by simp [z])
    exact(hs''.2 b hb1).trans (hk b o hb1 hb2 q)
   ·rcases Jl.mp hb with z|z
    ·subst z;exact⟨_,he''⟩
    ·rw[Jj.mp z]
     obtain⟨o,y,_⟩:=hit'
     exact⟨o,(hs''.2 it (Ne.symm hei)).trans y⟩
   ·exact⟨_,(hs''.2 _ (J3 helt)).trans ht,rfl,_,rfl⟩
  ·exact hit'.extBut hs''.extBut (Ne.symm hei)
  ·intro b hb
   rw[qi]
   ·exact(hf b hb).1
   ·rcases Jl.mp hb with z|z
    ·subst z;exact Jo helt
    ·rw[Jj.mp z];exact Jo hilt
 done:=by
  intro X hP hw hK hc i tx s σ H E I hf st hg;subst hP hw hK;obtain⟨xs,hq,hx⟩:=hg;obtain⟨its,rv,p,hz⟩:=I.tuple hq;obtain⟨⟨old,he⟩,hit⟩:=st;obtain⟨f0,f1,f2,f3,f4,f5⟩:=hf it (by simp)
  have hl:=rv.length;have nai:a≠it:=fun z=>by
   subst z;obtain⟨o,ho,hcl,_⟩:=p;obtain⟨o',ho',hc',_⟩:=hit;rw[ho]at ho';cases ho';rw[hcl]at hc';exact absurd hc' (by decide)
  unfold pyNext;have hT:s.TypeIs (.ref e) "enumerate":=⟨_,he,rfl⟩
  refine Ja (EC (wpAny_callSpecial?_slot (name:=Str.ofString "__next__") hT F.slot_enumerate_next
   (JZ F.slot_enumerate_next hT F.entry_enumerate_next ?_ (F.args_enumerate_next_1 _))))
  show ε _ _ (field (.ref e) 2 >>= _) _ _ _
  refine Ja (JR he rfl (x:= .ref it) rfl ?_)
  refine Ja (jH (I.ok.hd hc) hit p (by simp;lia) fun h' ex eb hx'=>?_)
  obtain⟨o,ho,hcl⟩:=hx';refine Ja (ED (T:="StopIteration") (b:=true) ⟨o,ho,hcl⟩ Fw ?_)
  exact Jd ⟨rfl,I.turned (t':=s.toks) (fun b o hb e=>eb b o hb e) f0 f1 f3 f4 f5⟩
 self:=fun _ _ _ _ _ st h=>by
  obtain⟨⟨old,he⟩,_⟩:=st;exact Fe he h
section
variable{X:Cx}
def ul(K:ι)(ta:TA):TI:=fun σ H R=>ta σ H fun vs H1=>∃a,vs=[.ref a]/\((∃xs,F6 K H1 a xs)/\R (n4 K a) H1\/(∃xs,F7 K H1 a xs)/\R (mj K a) H1)
theorem vF{a:Φ}{ta:TA}{p pos:Pos}{elts:List Φ}{x1}{tpos:Pos}(hg:Gl X "enumerate")(hm:X.mg "enumerate"=none)(ha:PA X [a] ta)(hs:θ [a] X.env=[(false,eval a X.env)]:=by rfl):
  PI X (.Tuple elts x1 tpos) (.Call (.Name "enumerate" p) [a] [] pos) (ul X.K ta):=by
 intro tx s σ H R I h;refine Call_ (Zo I hg hm boot_enumerate (EH (qB (ha pos tx s σ H _ I h) fun us s1 zq=>?_) hs rfl))
 obtain⟨vs,H1,I1,r1,q1⟩:=zq;obtain⟨l,e,q1⟩:=q1;subst e;obtain⟨u,rfl,ru⟩:=r1.one;cases ru;have fpk:∀b∈[s1.heap.objs.size+1,s1.heap.objs.size],Zx X tx H1 b:=fun b hb=>by
  have hb':s1.heap.objs.size<=b:=by
   rcases Jl.mp hb with z|z
   ·rw[z];exact Ey _
   ·rw[Jj.mp z];exact Jf _
  exact I1.fpOk hb' (I1.hok.fresh hb')
 rcases q1 with⟨⟨xs,hq⟩,q⟩|⟨⟨xs,hq⟩,q⟩
 ·obtain⟨its,rv,pl,hz⟩:=I1.list hq
  refine call_enumerate_list pl.isList fun h' he hit hsz hk=>Fe he ?_
  exact⟨s1.heap.objs.size+1,[s1.heap.objs.size+1,s1.heap.objs.size],_,_,H1,rfl,I1.kept (t':=s1.toks) hk,ji l _ _ (J3 (D3 _)),⟨⟨_,he⟩,hit⟩,fpk,q⟩
 ·obtain⟨its,rv,pl,hz⟩:=I1.tuple hq
  refine ra (show s1.heap.IsTuple l its.toArray from pl) fun h' he hit hk=>Fe he ?_
  exact⟨s1.heap.objs.size+1,[s1.heap.objs.size+1,s1.heap.objs.size],_,_,H1,rfl,I1.kept (t':=s1.toks) hk,rM l _ _ (J3 (D3 _)),⟨⟨_,he⟩,hit⟩,fpk,q⟩
theorem uM{K:ι}{a:Δ}{xs:List V}{g:TG}{tb:TS}{D:GP}{σ:L2.St}{H:Hp}(Pv:Nat->L2.St->Hp->Prop)(h0:Pv 0 σ H)(hl:∀i σ H,i<=xs.length->Pv i σ H->F7 K H a xs)
  (hs:∀i x σ H p,xs[i]? =some x->Pv i σ H->H p=none->g (.ref p) σ (F2 H p (.tup [.int i,x])) fun σ2 H2=>tb {D with nx:=Pv (i+1),ct:=Pv (i+1),bk:=D.nx} σ2 H2)(hd:∀σ H,Pv xs.length σ H->D.nx σ H):
  ∃W:Nat->Nat->L2.St->Hp->Prop,(∃m,W 0 m σ H)/\∀i m σ H,W i m σ H->
   ((mj K a).stop i H/\D.nx σ H)\/((mj K a).go i H/\∃N:L2.St->Hp->Prop,(∀σ' H',N σ' H'->∃m',m'<m/\W (i+1) m' σ' H')/\∀x H',(mj K a).yld i H x H'->g x σ H' fun σ2 H2=>tb {D with nx:=N,ct:=N,bk:=D.nx} σ2 H2):=by
 refine⟨fun i m σ H=>m=xs.length-i/\i<=xs.length/\Pv i σ H,⟨xs.length,by simp,Jz _,h0⟩,?_⟩
 rintro i m σ H ⟨rfl,hi,p⟩
 have q:=hl i σ H hi p
 by_cases hlt:i<xs.length
 ·refine .inr ⟨⟨xs,xs[i],q,by simp [hlt]⟩,Pv (i+1),fun σ' H' p'=>⟨xs.length-(i+1),by lia,rfl,hlt,p'⟩,fun x H' y=>?_⟩
  obtain⟨pp,v,hp,rfl,hv,rfl⟩:=y;exact hs i v σ H pp (hv xs q) p hp
 ·have e:i=xs.length:=by lia
  subst e;exact .inl ⟨⟨xs,q,Jf _⟩,hd σ H p⟩
end
structure HS(z TI TO i1 i2:Δ)(f1 f2:List Δ):Prop where
 TIz:TI≠z
 TOz:TO≠z
 i1z:i1≠z
 i2z:i2≠z
 TITO:TI≠TO
 TIi1:TI≠i1
 TIi2:TI≠i2
 TOi1:TO≠i1
 TOi2:TO≠i2
 i12:i1≠i2
 z1:z∉f1
 z2:z∉f2
 t1:TO∉f1
 t2:TO∉f2
 x1:i2∉f1
 x2:i1∉f2
section
variable{prog:Ξ}{w:Ω}{A:Around}{E:FS}{s:Θ}{z TI TO i1 i2:Δ}{f1 f2:List Δ}{n1 n2 k:Nat}{P1 P2:Nat->Γ->Prop}{S1 S2:Nat->Ψ->Prop}{a b:Γ}
theorem uJ{Q:FS}(D1:Draws prog w A i1 f1 n1 P1 S1)(D2:Draws prog w A i2 f2 n2 P2 S2)(Z:HS z TI TO i1 i2 f1 f2)
  (hz:IsZip s.heap z TI TO .none)(hTI:IsPair s.heap TI (.ref i1) (.ref i2))(hTO:IsPair s.heap TO a b)(q1:S1 k s.heap)(q2:S2 k s.heap)(k1:k<n1)(k2:k<n2)
  (hQ:∀x y h' tk,P1 k x->P2 k y->IsZip h' z TI TO (rawInt s.heap.objs.size)->IsPair h' TO x y->S1 (k+1) h'->S2 (k+1) h'->IsPair h' s.heap.objs.size x y->
   (∀c o,c≠z->c≠TO->c≠i1->c≠i2->s.heap.get? c=some o->h'.get? c=some o)->Q (.ref s.heap.objs.size) {s with heap:=h',toks:=tk}):
  ε (model prog w) A (γ.«zip.__next__» ⟨[.ref z],[]⟩) (fun fin s'=>∃v,fin= .done (.ret v)/\Q v s') E s:=by
 obtain⟨hp,g,d,t0,os⟩:=s
 show ε _ _ (field (.ref z) 2 >>= _) _ _ _
 refine Ja (JR hz rfl (x:= .bool false) rfl ?_)
 show ε _ _ (field (.ref z) 3 >>= _) _ _ _
 refine Ja (JR hz rfl (x:= .ref TI) rfl ?_)
 refine Ja (Eh hTI rfl ?_)
 show ε _ _ (γ.SmallTypes.ownedTupleIsFree (.ref z) >>= _) _ _ _
 refine Ja ?_
 unfold γ.SmallTypes.ownedTupleIsFree;refine Ja (JR hz rfl (x:= .none) rfl (Jd ?_))
 simp only[D4];refine Ja (DR ?_)
 refine Ja (JR hz rfl (x:= .ref TO) rfl ?_)
 refine Ja (Fg hz (by simp) fun h₁ hz₁ hs₁=>?_)
 replace hz₁:IsZip h₁ z TI TO .ellipsis:=hz₁
 replace hs₁:Ψ.SameBut z hp h₁:=hs₁
 refine Ja ?_
 simp only[List.zipIdx_cons,List.zipIdx_nil,List.forIn_cons,List.forIn_nil];refine Ja (Ja (wpAny_onRaise ?_))
 show ε _ _ (γ.SmallTypes.nextOf (.ref i1) >>= _) _ _ _
 have q1a:S1 k h₁:=D1.frame _ _ _ q1 fun c hc o e=>hs₁.extBut c o (fun y=>Z.z1 (y▸hc)) e
 refine Ja (D1.item k ⟨h₁,g,d,t0,os⟩ _ _ k1 q1a fun x h₂ tk₂ p1 q1b hs₂=>Jd ?_)
 replace hs₂:Ψ.SameBut i1 h₁ h₂:=hs₂
 have hTO₂:IsPair h₂ TO a b:=hs₂.extBut _ _ Z.TOi1 (hs₁.extBut _ _ Z.TOz hTO)
 refine Ja (Eh hTO₂ rfl ?_)
 refine Ja (wpAny_updateSeq_pair hTO₂ fun h₃ hTO₃ hs₃=>?_)
 replace hTO₃:IsPair h₃ TO x b:=hTO₃
 replace hs₃:Ψ.SameBut TO h₂ h₃:=hs₃
 refine Ja (wpAny_letGo (Jd ?_))
 refine Ja (Ja (wpAny_onRaise ?_))
 show ε _ _ (γ.SmallTypes.nextOf (.ref i2) >>= _) _ _ _
 have q2a:S2 k h₃:=D2.frame _ _ _ q2 fun c hc o e=>hs₃.extBut c o (fun y=>Z.t2 (y▸hc)) (hs₂.extBut c o (fun y=>Z.x2 (y▸hc)) (hs₁.extBut c o (fun y=>Z.z2 (y▸hc)) e))
 refine Ja (D2.item k ⟨h₃,g,d,tk₂,os⟩ _ _ k2 q2a fun y h₄ tk₄ p2 q2b hs₄=>Jd ?_)
 replace hs₄:Ψ.SameBut i2 h₃ h₄:=hs₄
 have hTO₄:IsPair h₄ TO x b:=hs₄.extBut _ _ Z.TOi2 hTO₃
 refine Ja (Eh hTO₄ rfl ?_)
 refine Ja (wpAny_updateSeq_pair hTO₄ fun h₅ hTO₅ hs₅=>?_)
 replace hTO₅:IsPair h₅ TO x y:=hTO₅
 replace hs₅:Ψ.SameBut TO h₄ h₅:=hs₅
 refine Ja (wpAny_letGo (Jd (Jd ?_)))
 refine Ja (Eh hTO₅ rfl ?_)
 refine Ja (wpAny_newTuple ?_)
 have hsz:h₅.objs.size=hp.objs.size:=by rw[hs₅.1,hs₄.1,hs₃.1,hs₂.1,hs₁.1]
 have hz₅:IsZip h₅ z TI TO .ellipsis:=hs₅.extBut _ _ Z.TOz.symm (hs₄.extBut _ _ Z.i2z.symm (hs₃.extBut _ _ Z.TOz.symm (hs₂.extBut _ _ Z.i1z.symm hz₁)))
 have hk₅:∀c o,c≠z->c≠TO->c≠i1->c≠i2->hp.get? c=some o->h₅.get? c=some o:=fun c o c1 c2 c3 c4 e=>
  hs₅.extBut _ _ c2 (hs₄.extBut _ _ c4 (hs₃.extBut _ _ c2 (hs₂.extBut _ _ c3 (hs₁.extBut _ _ c1 e))))
 have q1c:S1 (k+1) h₅:=D1.frame _ _ _ q1b fun c hc o e=>hs₅.extBut c o (fun y=>Z.t1 (y▸hc)) (hs₄.extBut c o (fun y=>Z.x1 (y▸hc)) (hs₃.extBut c o (fun y=>Z.t1 (y▸hc)) e))
 have q2c:S2 (k+1) h₅:=D2.frame _ _ _ q2b fun c hc o e=>hs₅.extBut c o (fun y=>Z.t2 (y▸hc)) e
 have hzlt:z<h₅.objs.size:=Ji hz₅
 show ε _ _ (γ.SmallTypes.ownedTupleHandOut (.ref z) (.ref h₅.objs.size) >>= _) _ _ _
 refine Ja ?_
 unfold γ.SmallTypes.ownedTupleHandOut;have hz₆:IsZip (h₅.push {cls:= .type "tuple",data:= .seq #[x,y]}) z TI TO .ellipsis:=Jh _ hz₅
 refine Ja (Fg hz₆ (by simp) fun h₇ hz₇ hs₇=>?_)
 replace hz₇:IsZip h₇ z TI TO (rawInt h₅.objs.size):=hz₇
 refine Fg hz₇ (by simp) fun h₈ hz₈ hs₈=>?_
 replace hz₈:IsZip h₈ z TI TO (rawInt h₅.objs.size):=hz₈
 have up:∀c o,c≠z->h₅.get? c=some o->h₈.get? c=some o:=fun c o c1 e=>hs₈.extBut _ _ c1 (hs₇.extBut _ _ c1 (Jh _ e))
 have hT₈:IsPair h₈ h₅.objs.size x y:=hs₈.extBut _ _ (J3 hzlt) (hs₇.extBut _ _ (J3 hzlt) (Jp _ rfl))
 rw[hsz]at hz₈ hT₈;refine Jd ⟨_,rfl,?_⟩
 show Q (.ref h₅.objs.size) _
 rw[hsz];exact hQ x y h₈ tk₄ p1 p2 hz₈ (up _ _ Z.TOz hTO₅) (D1.frame _ _ _ q1c fun c hc o e=>up c o (fun y=>Z.z1 (y▸hc)) e) (D2.frame _ _ _ q2c fun c hc o e=>up c o (fun y=>Z.z2 (y▸hc)) e) hT₈ fun c o c1 c2 c3 c4 e=>up c o c1 (hk₅ c o c1 c2 c3 c4 e)
theorem va{Q:Fin->Θ->Prop}(D1:Draws prog w A i1 f1 n1 P1 S1)(Z:HS z TI TO i1 i2 f1 f2)
  (hz:IsZip s.heap z TI TO .none)(hTI:IsPair s.heap TI (.ref i1) (.ref i2))(q1:S1 n1 s.heap)
  (hE:∀h' e,(∀c o,c≠z->c≠i1->s.heap.get? c=some o->h'.get? c=some o)->(∃o,h'.get? e=some o/\o.cls= .type "StopIteration")->E (.ref e) {s with heap:=h'}):
  ε (model prog w) A (γ.«zip.__next__» ⟨[.ref z],[]⟩) Q E s:=by
 obtain⟨hp,g,d,t0,os⟩:=s
 show ε _ _ (field (.ref z) 2 >>= _) _ _ _
 refine Ja (JR hz rfl (x:= .bool false) rfl ?_)
 show ε _ _ (field (.ref z) 3 >>= _) _ _ _
 refine Ja (JR hz rfl (x:= .ref TI) rfl ?_)
 refine Ja (Eh hTI rfl ?_)
 show ε _ _ (γ.SmallTypes.ownedTupleIsFree (.ref z) >>= _) _ _ _
 refine Ja ?_
 unfold γ.SmallTypes.ownedTupleIsFree;refine Ja (JR hz rfl (x:= .none) rfl (Jd ?_))
 simp only[D4];refine Ja (DR ?_)
 refine Ja (JR hz rfl (x:= .ref TO) rfl ?_)
 refine Ja (Fg hz (by simp) fun h₁ hz₁ hs₁=>?_)
 replace hz₁:IsZip h₁ z TI TO .ellipsis:=hz₁
 replace hs₁:Ψ.SameBut z hp h₁:=hs₁
 refine Ja ?_
 simp only[List.zipIdx_cons,List.zipIdx_nil,List.forIn_cons,List.forIn_nil];refine Ja (Ja (wpAny_onRaise ?_))
 show ε _ _ (γ.SmallTypes.nextOf (.ref i1) >>= _) _ _ _
 have q1a:S1 n1 h₁:=D1.frame _ _ _ q1 fun c hc o e=>hs₁.extBut c o (fun y=>Z.z1 (y▸hc)) e
 refine Ja (D1.done ⟨h₁,g,d,t0,os⟩ _ _ q1a fun h₂ e hs₂ he=>?_)
 obtain⟨oe,hoe,hce⟩:=he
 replace hs₂:Ψ.ExtBut i1 h₁ h₂:=hs₂
 have hz₂:IsZip h₂ z TI TO .ellipsis:=hs₂ _ _ Z.i1z.symm hz₁
 have hez:e≠z:=fun x=>by subst x;rw[hz₂]at hoe;cases hoe;simp at hce
 refine Fg hz₂ (by simp) fun h₃ _ hs₃=>hE h₃ e (fun c o c1 c3 x=>hs₃.extBut _ _ c1 (hs₂ _ _ c3 (hs₁.extBut _ _ c1 x))) ⟨oe,hs₃.extBut _ _ hez hoe,hce⟩
end
abbrev wI(h:Ψ)(l1:Δ):Ψ:=h.push {cls:= .type "tuple_iterator",data:= .fields #[.ref l1,.int 0 0]}
abbrev xq(h:Ψ)(l1 l2:Δ):Ψ:=(wI h l1).push {cls:= .type "tuple_iterator",data:= .fields #[.ref l2,.int 0 0]}
abbrev wZ(h:Ψ)(l1 l2:Δ):Ψ:=(xq h l1 l2).push {cls:= .type "tuple",data:= .seq #[.ref h.objs.size,.ref (wI h l1).objs.size]}
abbrev xl(h:Ψ)(l1 l2:Δ):Ψ:=(wZ h l1 l2).push {cls:= .type "tuple",data:= .seq #[.none,.none]}
abbrev nU(h:Ψ)(l1 l2:Δ):Ψ:=(xl h l1 l2).push {cls:= .type "zip",data:= .fields #[.none,.bool false,.bool false,.ref (xq h l1 l2).objs.size,.ref (wZ h l1 l2).objs.size]}
theorem pV(l1 l2:Δ)(xs ys:Array Γ):
  Meets (γ.«zip.__new__» ⟨[.type "zip",.ref l1,.ref l2],[]⟩) (fun _ R s=>s.heap.IsTuple l1 xs/\s.heap.IsTuple l2 ys/\
   R (.ok (.ret (.ref (xl s.heap l1 l2).objs.size))) {s with heap:=nU s.heap l1 l2}):=
 .of_wp fun prog w A R s h=>by
  obtain⟨hp,g,d,tk,os⟩:=s;obtain⟨hl1,hl2,h⟩:=h
  have hsub:=sub_zip;have hL1:Ψ.IsTuple (Θ.heap ⟨hp,g,d,tk,os⟩) l1 xs:=hl1
  have hL2:Ψ.IsTuple (Θ.heap ⟨hp.push {cls:= .type "tuple_iterator",data:= .fields #[.ref l1,.int 0 0]},g,d,tk,os⟩) l2 ys:=let⟨o,e,r⟩:=hl2;⟨o,Jh _ e,r⟩
  wp_walk using Ex hL1,Ex hL2
  exact⟨_,rfl,h⟩
section
variable{prog:Ξ}{w:Ω}{A:Around}{E:FS}{s:Θ}
theorem uo{l1 l2:Δ}{xs ys:Array Γ}{Q:FS}(hl1:s.heap.IsTuple l1 xs)(hl2:s.heap.IsTuple l2 ys)
  (h:∀h',IsZip h' (s.heap.objs.size+4) (s.heap.objs.size+2) (s.heap.objs.size+3) .none->IsPair h' (s.heap.objs.size+2) (.ref s.heap.objs.size) (.ref (s.heap.objs.size+1))->
   IsPair h' (s.heap.objs.size+3) .none .none->h'.IsTupleIter s.heap.objs.size l1 0->h'.IsTupleIter (s.heap.objs.size+1) l2 0->
   (∀c o,s.heap.get? c=some o->h'.get? c=some o)->Q (.ref (s.heap.objs.size+4)) {s with heap:=h'}):
  ε (model prog w) A (call (.type "zip") [.ref l1,.ref l2]) Q E s:=by
 refine callType_new F.called_zip (by decide) (F.typeCall_zip_2 _ _) (F.newCall_zip_2 _ _) (fun obj=>F.args_object_init_3 obj _ _) F.entry_zip_new
  (pV l1 l2 xs ys) ⟨hl1,hl2,?_⟩
 have z1:(wI s.heap l1).objs.size=s.heap.objs.size+1:=JV ..
 have z2:(xq s.heap l1 l2).objs.size=s.heap.objs.size+2:=by rw[JV,z1]
 have z3:(wZ s.heap l1 l2).objs.size=s.heap.objs.size+3:=by rw[JV,z2]
 have z4:(xl s.heap l1 l2).objs.size=s.heap.objs.size+4:=by rw[JV,z3]
 have g5:(nU s.heap l1 l2).get? (xl s.heap l1 l2).objs.size=some _:=Jp _ rfl
 have g4:(nU s.heap l1 l2).get? (wZ s.heap l1 l2).objs.size=some _:=Jh _ (Jp _ rfl)
 have g3:(nU s.heap l1 l2).get? (xq s.heap l1 l2).objs.size=some _:=Jh _ (Jh _ (Jp _ rfl))
 have g2:(nU s.heap l1 l2).get? (wI s.heap l1).objs.size=some _:=Jh _ (Jh _ (Jh _ (Jp _ rfl)))
 have g1:(nU s.heap l1 l2).get? s.heap.objs.size=some _:=Jh _ (Jh _ (Jh _ (Jh _ (Jp _ rfl))))
 show _/\_
 rw[z2,z3,z4]at g5;rw[z1,z2]at g3;rw[z3]at g4;rw[z1]at g2;rw[z4]
 exact⟨⟨_,g5,rfl⟩,h _ g5 g3 g4 ⟨_,g1,rfl,rfl⟩ ⟨_,g2,rfl,rfl⟩ fun c o x=>
  Jh _ (Jh _ (Jh _ (Jh _ (Jh _ x))))⟩
end
section
variable{X:Cx}{tx:FU}{σ:L2.St}{H:Hp}{s:Θ}
theorem y9{h':Ψ}{t':Nat}{ch:List Δ}(I:L2.FY X tx σ H s)(k:∀b o,b∉ch->s.heap.get? b=some o->h'.get? b=some o)(hch:∀b∈ch,Zx X tx H b):L2.FY X tx σ H {s with heap:=h',toks:=t'}:=by
 have nch:∀b u,H b=some u->b∉ch:=fun b u e z=>by rw[(hch b z).1]at e;cases e
 refine I.step (g':=s.gens) (d':=s.drawn) (ch:=ch) (fun b hb=>⟨(hch b hb).2.2.2.1,(hch b hb).2.1,(hch b hb).2.2.2.2.1,(hch b hb).2.2.2.2.2⟩) (fun b o _ _ hc e _=>k b o hc e) (fun b o _ _ hc e _=>⟨o.slots,k b o hc e⟩)
  (fun _ _ _ _ n=>n) (fun b o hc e=>⟨o,k b o hc e⟩) (fun _ _ e=>e) (fun _ _ _ e=>e) (fun b ps e=>⟨#[],by rw[e];simp⟩) (fun m hm=>?_) (fun b u e=>?_) I.bare
 ·obtain⟨o,es,ep,ho,r⟩:=hm
  exact⟨o,es,ep,k _ o (fun z=>(hch _ z).2.1 rfl) ho,r⟩
 ·refine(I.hok b u e).stay (fun c v hc q=>k c v ?_ q) (fun _ q=>q) fun _ _ q=>q
  rcases hc with z|z
  ·rw[z];exact nch b u e
  ·exact nch c _ z
theorem oY{H:Hp}{a b:Δ}{u:HO}(h:Rd H a u)(h':H b=none):a≠b:=by
 rcases h with h|⟨o,h⟩
 ·exact qj h h'
 ·exact qj h h'
end
end L3
namespace L3
open PySem PySem.Spec PyProof.Rows L2 PySem.SeqAt
open Sem (wp)
open AutoSeq1 (wpAny_loadPart')
section
variable{X:Cx}
theorem Rd.same{H H':Hp}{a:Δ}{u:HO}(s:FV H H')(h:Rd H a u):Rd H' a u:=by
 rcases h with h|⟨o,h⟩
 ·exact .inl (s _ _ h)
 ·exact .inr ⟨o,s _ _ h⟩
inductive Iw (H:Hp):V->String->Prop where
 |int (i:Int):Iw H (.int i) "int"
 |bl (b:Bool):Iw H (.bl b) "bool"
 |tup {a:Δ} {xs:List V} (h:Rd H a (.tup xs)):Iw H (.ref a) "tuple"
 |str (x:Str):Iw H (.str x) "str"
 |non:Iw H .non "NoneType"
 |lst {a:Δ} {xs:List V} (h:H a=some (.lst xs)):Iw H (.ref a) "list"
theorem oN{H:Hp}{x:V}{t:String}(h:Iw H x t):t∈fV:=by cases h<;>simp
theorem n9(K:ι){t:String}(ht:t∈fV):∀cs:List String,(∀c∈cs,c∈f7)->W.kitAny K (.type t) (cs.map Γ.type)=some (cs.any (zE t))
 | [],_=>rfl
 |c::r,h=>by
  have e:=iT K t ht c (h c Jy);have ih:=n9 K ht r fun d hd=>h d (JE _ hd)
  simp only[JU,W.kitAny,e,JS];cases zE t c with
  |true=>rfl
  |false=>simpa using ih
theorem qS:ze X (.builtin "isinstance") (fun xs H Q=>∃x c t,xs=[x,.ty c]/\Iw H x t/\c∈f7/\Q (.bl (zE t c)) H):=by
 intro tx s σ H xs us Q I r h;obtain⟨x,c,t,rfl,ty,hc,q⟩:=h;obtain⟨u,v,rfl,ru,rv⟩:=gx r
 cases(show v=Γ.type c from rv)
 have e:=iT X.K t (oN ty) c hc;have fin:∀tk,EP X tx σ Q (.bool (zE t c)) {s with toks:=tk}:=fun tk=>⟨.bl _,H,I.tok tk,rfl,q⟩
 cases ty with
 |int i=>obtain⟨t,q⟩:=(show∃t,u=Γ.int i t from ru);cases q;exact J7 W.kitx_int I.kIn True.intro e (fun z=>nomatch z) fin
 |bl b=>cases(show u=Γ.bool b from ru);exact J7 W.kitx_bool I.kIn True.intro e (fun z=>nomatch z) fin
 | @tup a ys hr=>
  cases(show u=Γ.ref a from ru)
  obtain⟨its,_,⟨o,h1,h2,_⟩,_⟩:=I.tuple (.inl hr)
  exact J7 W.kitx_tuple I.kIn ⟨o,h1,h2⟩ e (fun z=>nomatch z) fin
 |str x=>obtain⟨t,q⟩:=(show∃t,u=Γ.str x t from ru);cases q;exact J7 W.kitx_str I.kIn True.intro e (fun z=>nomatch z) fin
 |non=>cases(show u=Γ.none from ru);exact J7 W.kitx_none I.kIn True.intro e (fun z=>nomatch z) fin
 | @lst a ys ea=>
  cases(show u=Γ.ref a from ru)
  obtain⟨_,_,n,_,h1⟩:=(show Ge X.prog X.w H s.heap a (.lst ys)from I.hok a _ ea)
  exact J7 W.kitx_list I.kIn ⟨_,h1,rfl⟩ e (fun z=>nomatch z) fin
theorem kU:∀{cs:List String} {us:List Γ},F3 (cs.map V.ty) us->us=cs.map Γ.type
 | [],_,.nil=>rfl
 |c::cs,_,.cons r t=>by
  cases(show _=Γ.type c from r)
  rw[kU t];rfl
theorem aY:ze X (.builtin "isinstance") (fun xs H Q=>∃(x:V) (p:Δ) (cs:List String) (t:String),xs=[x,.ref p]/\H p=some (.tup (cs.map V.ty))/\Iw H x t/\(∀c∈cs,c∈f7)/\Q (.bl (cs.any (zE t))) H):=by
 intro tx s σ H xs us Q I r h;obtain⟨x,p,cs,t,rfl,hp,ty,hc,q⟩:=h;obtain⟨u,v,rfl,ru,rv⟩:=gx r
 cases(show v=Γ.ref p from rv)
 obtain⟨its,rvs,⟨⟨cl,dd,dt,sl⟩,ho,hcl,n,hdt⟩,_⟩:=I.tuple (F7.of hp)
 replace hcl:cl= .type "tuple":=hcl
 replace hdt:dt= .seq its.toArray n:=hdt
 subst hcl hdt;have e:=n9 X.K (oN ty) cs hc;rw[<- kU rvs]at e;have fin:∀tk,EP X tx σ Q (.bool (cs.any (zE t))) {s with toks:=tk}:=fun tk=>⟨.bl _,H,I.tok tk,rfl,q⟩
 cases ty with
 |int i=>obtain⟨t,q⟩:=(show∃t,u=Γ.int i t from ru);cases q;exact EW W.kitx_int I.kIn True.intro ho e (fun z=>nomatch z) fin
 |bl b=>cases(show u=Γ.bool b from ru);exact EW W.kitx_bool I.kIn True.intro ho e (fun z=>nomatch z) fin
 | @tup a ys hr=>
  cases(show u=Γ.ref a from ru)
  obtain⟨its',_,⟨o,h1,h2,_⟩,_⟩:=I.tuple (.inl hr)
  exact EW W.kitx_tuple I.kIn ⟨o,h1,h2⟩ ho e (fun z=>nomatch z) fin
 |str x=>obtain⟨t,q⟩:=(show∃t,u=Γ.str x t from ru);cases q;exact EW W.kitx_str I.kIn True.intro ho e (fun z=>nomatch z) fin
 |non=>cases(show u=Γ.none from ru);exact EW W.kitx_none I.kIn True.intro ho e (fun z=>nomatch z) fin
 | @lst a ys ea=>
  cases(show u=Γ.ref a from ru)
  obtain⟨_,_,n,_,h1⟩:=(show Ge X.prog X.w H s.heap a (.lst ys)from I.hok a _ ea)
  exact EW W.kitx_list I.kIn ⟨_,h1,rfl⟩ ho e (fun z=>nomatch z) fin
end
def zA(t:List Int):List Int:=(List.range 16).map fun d=>((t.idxOf ((d:Nat):Int):Nat):Int)
theorem aW(t:List Int):(zA t).length=16:=by simp [zA]
section
variable{t:List Int}(p:t.Perm Gx)
include p
theorem uG:t.Nodup:=p.nodup_iff.mpr (by decide)
theorem om:t.length=16:=by rw[p.length_eq,mK]
theorem An{d:Nat}(h:d<16):((d:Nat):Int)∈t:=p.mem_iff.mpr (Ju.mpr ⟨d,J6.mpr h,rfl⟩)
theorem lL{i:Nat}(h:i<t.length):0<=t[i]/\t[i]<16:=lv (p.mem_iff.mp (EB h))
theorem uk{i:Nat}(h:i<t.length):t.idxOf t[i]=i:=(uG p).idxOf_getElem i h
theorem yq{d:Nat}(h:d<16):(zA t)[d]'(by rw[aW];exact h)=((t.idxOf ((d:Nat):Int):Nat):Int):=by simp [zA]
end
end L3
namespace L3
open PySem PySem.Spec L2
variable{X:Cx}
theorem nB{pos:Pos}:QS X (.Continue pos) xc:=⟨ng⟩
theorem Qx{sts:List δ}:Io X sts sI:=⟨uz⟩
theorem uZ{a:Φ}{ta:TA}{p pos:Pos}{elts:List Φ}{x1}{tpos:Pos}(hg:Gl X "enumerate")(hm:X.mg "enumerate"=none)(ha:QA X [a] ta)(hs:θ [a] X.env=[(false,eval a X.env)]:=by rfl):QI X (.Tuple elts x1 tpos) (.Call (.Name "enumerate" p) [a] [] pos) (ul X.K ta):=⟨vF (hg:=hg) (hm:=hm) (ha:=ha.h) (hs:=hs)⟩
def GS(H:Hp)(b:Δ)(c:Nat):Prop:=∃n m k:Int,H b=some (p9 n m k)/\0<=m/\m<4611686018427387904/\0<=k/\k<=c
structure HI(b:Δ)(c:Nat)(H H':Hp):Prop where
 kp:∀a o,a≠b->H a=some o->H' a=some o
 bx:GS H' b c
theorem GS.mono{H:Hp}{b:Δ}{c d:Nat}(h:GS H b c)(l:c<=d):GS H b d:=by
 obtain⟨n,m,k,e,a1,a2,a3,a4⟩:=h
 exact⟨n,m,k,e,a1,a2,a3,by lia⟩
theorem HI.mono{b:Δ}{c d:Nat}{H H':Hp}(h:HI b c H H')(l:c<=d):HI b d H H':=⟨h.kp,h.bx.mono l⟩
theorem HI.trans{b:Δ}{c d:Nat}{H H1 H2:Hp}(x:HI b c H H1)(y:HI b d H1 H2):HI b d H H2:=⟨fun c o n e=>y.kp c o n (x.kp c o n e),y.bx⟩
theorem _root_.L2.FV.grc{b:Δ}{c:Nat}{H H':Hp}(x:FV H H')(h:GS H b c):HI b c H H':=⟨fun c o _ e=>x c o e,let⟨n,m,k,e,r⟩:=h;⟨n,m,k,x _ _ e,r⟩⟩
theorem HI.same{b:Δ}{c:Nat}{H H1 H2:Hp}(x:HI b c H H1)(y:FV H1 H2):HI b c H H2:=x.trans (y.grc x.bx)
theorem ac{H:Hp}{b l:Δ}{c:Nat}(hb:GS H b c)(h:H l=none):l≠b:=fun z=>by
 obtain⟨_,_,_,e,_⟩:=hb;subst z;rw[e]at h;cases h
def rW(K:ι):Sp:=fun vs H Q _=>∃(a:Δ) (ns:List Int) (k:Nat),vs=[.ref a,.int k]/\F6 K H a (ns.map V.int)/\∀b H',H b=none->FV H H'->GS H' b 0->Q (.ref b) H'
def ai:Sp:=fun vs H Q _=>∃(b:Δ) (many:Int) (c:Nat),vs=[.ref b,.int many]/\GS H b c/\c<1000000000/\0<many/\many<1073741824/\∀r H',0<=r->r<many->HI b (c+1) H H'->Q (.int r) H'
theorem Zw{H H':Hp}{p:Δ}(h:H' p=none)(s:FV H H'):H p=none:=by
 cases e:H p with
 |none=>rfl
 |some o=>rw[s _ _ e]at h;cases h
def fY:V->Bool
 | .int _=>true
 |_=>false
theorem yg{H:Hp}{x:V}{t:String}(h:kd H x=some t):fY x=(zE t "int"&& !zE t "bool"):=by
 cases x with
 |non=>cases h;decide
 |bl b=>cases h;show false=_;decide
 |int i=>cases h;show true=_;decide
 |str x=>cases h;show false=_;decide
 |byt b=>cases h
 |flt b=>cases h
 |ty b=>cases h
 |ref a=>
  rcases gJ h with⟨xs,e,rfl⟩|⟨xs,e,rfl⟩
  ·show false=_;decide
  ·show false=_;decide
theorem vn{x:V}(h:fY x=true):∃i,x= .int i:=by
 cases x<;>first|exact⟨_,rfl⟩|cases h
theorem um{x:V}(h:fY x=false):cf x=false:=by
 cases x<;>first|rfl|cases h
def gh:Sp:=fun vs H Q _=>∃x t,vs=[x]/\kd H x=some t/\Q (.bl (fY x)) H
theorem FV.sqt{K:ι}{H H':Hp}{a:Δ}{xs:List V}(e:FV H H')(h:F7 K H a xs):F7 K H' a xs:=by
 rcases h with h|h
 ·exact .inl (Rd.same e h)
 ·exact .inr h
def QL(t:List Int)(i:Nat):List Int:=(List.range 16).map fun d=>if((d:Nat):Int)∈t.take i then((t.idxOf ((d:Nat):Int):Nat):Int)else 0
theorem bA(t:List Int)(i:Nat):(QL t i).length=16:=by simp [QL]
theorem vT(t:List Int):QL t 0=List.replicate 16 0:=by simp only[QL,List.take_zero,Jx,JD];rfl
theorem tm{t:List Int}{i d:Nat}(h:d<16):(QL t i)[d]'(by rw[bA];exact h)=if((d:Nat):Int)∈t.take i then((t.idxOf ((d:Nat):Int):Nat):Int)else 0:=by simp [QL]
theorem yh{t:List Int}(p:t.Perm Gx):QL t t.length=zA t:=by
 unfold QL zA;refine Fh fun d hd=>?_
 rw[Ej,Jc (An p (J6.mp hd))]
theorem v9{t:List Int}(p:t.Perm Gx){i:Nat}(hi:i<t.length):(QL t i).set t[i].toNat (i:Int)=QL t (i+1):=by
 have b:=lL p hi;refine List.ext_getElem (by rw[ET,bA,bA]) fun d h1 h2=>?_
 have hd:d<16:=by rw[bA]at h2;exact h2
 rw[List.getElem_set,tm hd,tm hd,D6,Jk hi,Option.toList_some]
 by_cases e:t[i].toNat=d
 ·have e':((d:Nat):Int)=t[i]:=by lia
  rw[Jc e,Jc (by rw[e'];exact J8 _ (Jj.mpr rfl)),e',uk p hi]
 ·have e':((d:Nat):Int)≠t[i]:=by lia
  rw[Jb e];simp only[JC,Jj,e',JA]
def tE(K:ι):Sp:=fun vs H Q _=>∃(a:Δ) (t:List Int),vs=[.ref a]/\(F6 K H a (t.map V.int)\/F7 K H a (t.map V.int))/\t.Perm Gx/\∀p H',FV H H'->H' p=some (.tup ((zA t).map V.int))->Q (.ref p) H'
theorem oV{X:Cx}{K:ι}(hK:X.K=K){pos:Pos}{es:List Φ}{k:Nat}{t:aX}(n:Nat)(hc:X.calm=true)(h:IP X es t)(hn:(assignEach es X.env).length=n:=by rfl)(hst:(assignEach es X.env).findIdx? (·.1)=none:=by rfl):QG X (.Tuple es k pos) (rN K n t):=by
 subst hK
 exact⟨kQ (hc:=hc) (h:=h.h) (hn:=hn) (hst:=hst)⟩
end L3
namespace L3
open PySem PySem.Spec PyProof.Rows L2
open Sem (wp)
namespace RV
theorem tZ:Slot "reversed" "__init__" "object.__init__":=
  .of (owner := "object") (n := "__init__") (by rw[EX,EY]
                                                kernel_rfl) (by decide +kernel) (by decide +kernel) (by decide +kernel)
    (by first | exact .inl (by decide +kernel) | exact .inr (by decide +kernel)) (by rw[EE]
                                                                                     kernel_rfl)
theorem called:TypeCalled "reversed" "reversed.__new__" "object.__init__":=
 ⟨by decide +kernel,by decide +kernel,⟨_,_,F.mro_reversed⟩,F.made_reversed,by decide +kernel,F.sub_reversed_self,tZ⟩
theorem slot_next:Slot "reversed" "__next__" "reversed.__next__":=
  .of (owner := "reversed") (n := "__next__") (by rw[EX,EY]
                                                  kernel_rfl) (by decide +kernel) (by decide +kernel) (by decide +kernel)
    (by first | exact .inl (by decide +kernel) | exact .inr (by decide +kernel)) (by rw[EE]
                                                                                     kernel_rfl)
theorem entry_next:entryFor table "reversed.__next__"=some γ.«reversed.__next__»:=entryFor_of_tree (by kernel_rfl)
theorem jf:Manifest.owners.lookup (String.ofList ['d', 'e', 's', 'r', 'e', 'v', 'e', 'r'].reverse)=some Manifest.sig_reversed:=by kernel_rfl
theorem args_next(a:Γ):argsOk "reversed.__next__" ⟨[a],[]⟩:=by
 unfold argsOk;rw[signature?_of (id:="reversed.__next__") (n:=['_', '_', 't', 'x', 'e', 'n', '_', '_']) (o:=['d', 'e', 's', 'r', 'e', 'v', 'e', 'r']) (by kernel_rfl) jf]
 kernel_rfl
theorem slot_iter:Slot "reversed" "__iter__" "reversed.__iter__":=
  .of (owner := "reversed") (n := "__iter__") (by rw[EX,EY]
                                                  kernel_rfl) (by decide +kernel) (by decide +kernel) (by decide +kernel)
    (by first | exact .inl (by decide +kernel) | exact .inr (by decide +kernel)) (by rw[EE]
                                                                                     kernel_rfl)
theorem args_iter(a:Γ):argsOk "reversed.__iter__" ⟨[a],[]⟩:=by
 unfold argsOk;rw[signature?_of (id:="reversed.__iter__") (n:=['_', '_', 'r', 'e', 't', 'i', '_', '_']) (o:=['d', 'e', 's', 'r', 'e', 'v', 'e', 'r']) (by kernel_rfl) jf]
 kernel_rfl
theorem entry_iter:entryFor table "reversed.__iter__"=some γ.«dict_keyiterator.__iter__»:=
  entryFor_alias (id':="dict_keyiterator.__iter__") (by kernel_rfl)
    (by first | rfl | decide +kernel | (unfold String.splitOn
                                        simp +decide [String.splitOnAux])) (by decide +kernel) (by kernel_rfl)
theorem no_tuple:typeLookup (.type "tuple") "__reversed__"=pure none:=by
 rw[EX,EY]
 kernel_rfl
theorem tup_dict:isSubtype (.type "tuple") (.type "dict")=pure false:=by
 rw[EE]
 kernel_rfl
theorem ri_rev:isSubtype (.type "range_iterator") (.type "reversed")=pure false:=by
 rw[EE]
 kernel_rfl
theorem tc1(a:Γ):checkTypeCall "reversed" ⟨[a],[]⟩=pure ():=by kernel_rfl
end RV
def Hu(h:Ψ)(it t:Δ)(i:Int):Prop:=∃o,h.get? it=some o/\o.cls= .type "reversed"/\o.data= .fields #[.ref t,rawInt i]
theorem rF(l:Δ)(items:Array Γ)(hz:items.size<=ζ):
  Meets (γ.«reversed.__new__» ⟨[.type "reversed",.ref l],[]⟩) (fun A R s=>s.heap.IsTuple l items/\
   R (.ok (.ret (.ref s.heap.objs.size))) {s with heap:=s.heap.push {cls:= .type "reversed",data:= .fields #[.ref l,rawInt ((items.size:Int)-1)]},toks:=s.toks+2}):=
 .of_wp fun prog w A R s h=>by
  obtain⟨hp,g,d,tk,os⟩:=s;obtain⟨hl,h⟩:=h
  have hsub:=F.sub_reversed_self;have hT:Θ.TypeIs ⟨hp,g,d,tk,os⟩ (.ref l) "tuple":=let⟨o,e,c,_⟩:=hl;⟨o,e,c⟩
  have hL:Ψ.IsTuple (Θ.heap ⟨hp,g,d,tk,os⟩) l items:=hl
  have hd:=RV.tup_dict;have hI:IsTup (Θ.heap ⟨hp,g,d,tk,os⟩) l items:=hl
  have hn:=ZY
  wp_walk using EM hT RV.no_tuple,DY hd,EM hT F.slot_tuple_getitem.lookup,len_tuple hI (by omega)
  exact⟨_,rfl,h⟩
end L3
namespace L3
open PySem PySem.Spec PyProof.Rows L2
open Sem (wp)
abbrev xm(a b c:Int):Bool:=γ.Range.rangeFitsLong a&&γ.Range.rangeFitsLong b&&γ.Range.rangeFitsLong c&&γ.Range.rangeFitsLong (-c)&&γ.Range.rangeFitsLong (a-c)&&γ.Range.rangeFitsLong (γ.Range.rangeSize a b c)
theorem nH(r:Δ)(a b c:Int)(t u v:Tok)(hc0:¬(!xm a b c)=true):
  Meets (γ.«range.__reversed__» ⟨[.ref r],[]⟩) (fun _ R s=>s.heap.get? r=some {cls:= .type "range",dict:=none,data:= .fields #[.int a t,.int b u,.int c v],slots:= #[]}/\
   R (.ok (.ret (.ref s.heap.objs.size))) {s with heap:=s.heap.push {cls:= .type (if xm a b c then "range_iterator" else "longrange_iterator"),data:= .fields #[rawInt (a+(γ.Range.rangeSize a b c-1)*c),rawInt (γ.Range.rangeSize a b c),rawInt (-c)]}}):=
 .of_wp fun prog w A R s h=>by obtain⟨hp,g,d,tk,os⟩:=s;obtain⟨hl,h⟩:=h;wp_walk;exact⟨_,rfl,h⟩
theorem sU(n:Nat):γ.Range.rangeSize 0 n 1=n:=by
 unfold γ.Range.rangeSize;rw[Jc (by decide)]
 split<;>lia
theorem ui{n:Nat}(hn:(n:Int)<2 ^ 62):xm 0 n 1=true:=by
 unfold xm;rw[sU];simp only[γ.Range.rangeFitsLong,Jt,decide_eq_true_eq];lia
theorem pY(r:Δ)(n:Nat)(t u v:Tok)(hn:(n:Int)<2 ^ 62):
  Meets (γ.«range.__reversed__» ⟨[.ref r],[]⟩) (fun _ R s=>s.heap.get? r=some {cls:= .type "range",data:= .fields #[.int 0 t,.int n u,.int 1 v]}/\
   R (.ok (.ret (.ref s.heap.objs.size))) {s with heap:=s.heap.push {cls:= .type "range_iterator",data:= .fields #[rawInt ((n:Int)-1),rawInt n,rawInt (-1)]}}):=by
 have g:=nH r 0 n 1 t u v (by rw[ui hn];decide)
 rw[ui hn,sU,Jc rfl,Int.mul_one,Int.zero_add]at g;exact g
section
variable{prog:Ξ}{w:Ω}{A:Around}{E:FS}{s:Θ}
theorem Hu.typeIs{it t:Δ}{i:Int}(x:Hu s.heap it t i):s.TypeIs (.ref it) "reversed":=by
 obtain⟨o,ho,hc,_⟩:=x
 exact⟨o,ho,hc⟩
theorem mX{it t:Δ}{i:Nat}{items:Array Γ}{x:Γ}{Q:Option Γ->Θ->Prop}(hit:Hu s.heap it t (i:Int))(hl:IsTup s.heap t items)(hx:items[i]? =some x)(hz:items.size<=ζ)
  (hQ:∀h' tk,Hu h' it t ((i:Int)-1)->Ψ.SameBut it s.heap h'->Q (some x) {s with heap:=h',toks:=tk}):ε (model prog w) A (pyNext (.ref it)) Q E s:=by
 obtain⟨o,ho,hc,hd⟩:=id hit;have hT:s.TypeIs (.ref t) "tuple":=let⟨o,e,c,_⟩:=hl;⟨o,e,c⟩
 have hn:=ZY;have hlt:i<items.size:=(Array.getElem?_eq_some_iff.mp hx).1
 unfold pyNext;refine Ja (EC (wpAny_callSpecial?_slot (name:=Str.ofString "__next__") (Hu.typeIs hit) RV.slot_next
  (JZ RV.slot_next (Hu.typeIs hit) RV.entry_next ?_ (RV.args_next _))))
 unfold γ.«reversed.__next__»
 refine Ja (DY (a:=(Γ.ref it,[])) rfl ?_)
 try dsimp only
 refine Ja (JR ho hd (x:= .ref t) rfl ?_)
 refine Ja (JR ho hd (x:=rawInt (i:Int)) rfl ?_)
 show ε _ _ (if(i:Int)<0 then _ else _) _ _ s
 rw[Jb (by lia)]
 try dsimp only
 refine Ja (EM hT F.slot_tuple_getitem.lookup ?_)
 rw[Jb (show¬((some (Γ.builtin "tuple.__getitem__")).isNone=true)from JG)]
 refine Ja (wpAny_mkInt ?_)
 have hI:IsTup (Θ.heap {s with toks:=s.toks+1}) t items:=hl
 refine Ja (EC (getItem_tuple hI (by lia) (by lia) (by unfold seqIndex?;rw[Jb (show¬((i:Int)<0) by lia)];simp [hlt]) hx ?_))
 try dsimp only
 refine Ja (JR (s:={s with toks:=s.toks+1}) ho hd (x:=rawInt (i:Int)) rfl ?_)
 show ε _ _ (setField (.ref it) 1 (rawInt ((i:Int)-1)) >>= _) _ _ _
 refine Ja (D5 (s:={s with toks:=s.toks+1}) ho hd (by simp) ?_)
 refine Jd ⟨x,rfl,Jd (hQ _ _ ?_ (J9 ..))⟩
 exact⟨_,Ez _ ho (Fv (EL hd _)),(Obj.cls_mapFields ..).trans hc,by
  rw[EL hd];simp⟩
theorem pZ{it t:Δ}{Q:Option Γ->Θ->Prop}(hh:A.handled=none)(hit:Hu s.heap it t (-1))
  (hQ:∀h',Ψ.ExtBut it s.heap h'->Q none {s with heap:=h'}):ε (model prog w) A (pyNext (.ref it)) Q E s:=by
 obtain⟨o,ho,hc,hd⟩:=id hit;unfold pyNext;refine Ja (EC (wpAny_callSpecial?_slot (name:=Str.ofString "__next__") (Hu.typeIs hit) RV.slot_next
  (JZ RV.slot_next (Hu.typeIs hit) RV.entry_next ?_ (RV.args_next _))))
 unfold γ.«reversed.__next__»
 refine Ja (DY (a:=(Γ.ref it,[])) rfl ?_)
 try dsimp only
 refine Ja (JR ho hd (x:= .ref t) rfl ?_)
 refine Ja (JR ho hd (x:=rawInt (-1)) rfl ?_)
 show ε _ _ (if(-1:Int)<0 then _ else _) _ _ s
 rw[Jc (by decide)]
 refine Ja (DR ?_)
 refine Ja ?_
 show ε _ _ (setField (.ref it) 1 (rawInt (-1)) >>= _) _ _ _
 refine Ja (D5 ho hd (by simp) ?_)
 have hg1:=Ez (Obj.mapFields (·.setIfInBounds 1 (rawInt (-1)))) ho (Fv (EL hd _))
 refine D5 hg1 (EL hd _) (by simp) ?_
 refine Ja ?_
 show ε _ _ (newExc (.type "StopIteration") [] >>= _) _ _ _
 refine Ja ?_
 simp only[newExc,newTuple];refine Ja (DQ ?_ (by size_fits))
 refine Ja (m:=firstArgMember _ _) (DY (a:=Γ.none) (by first|rfl|(simp only[firstArgMember];rfl)) ?_)
 refine DQ ?_ (by size_fits)
 simp only[raiseNew];refine Ja (wpAny_handled ?_)
 first|rw[show A.in1.handled=none from hh]|rw[hh]
 refine Ja (Jd (wpAny_throw ?_))
 refine Ja (ED (T:="StopIteration") (b:=true) ⟨_,Jp _ rfl,rfl⟩ Fw ?_)
 exact Jd (hQ _ (((((J9 ..).trans (J9 ..)).extBut).push _).push _))
theorem t7{it t:Δ}{i:Int}{Q:FS}(hit:Hu s.heap it t i)(h:Q (.ref it) s):ε (model prog w) A (pyIter (.ref it)) Q E s:=by
 refine wpAny_pyIter_slot (Hu.typeIs hit) RV.slot_iter (JZ RV.slot_iter (Hu.typeIs hit) RV.entry_iter ?_ (RV.args_iter _))
 show ε _ _ (ret (.ref it)) _ _ s
 exact Jd ⟨_,rfl,"reversed",_,Hu.typeIs hit,RV.slot_next.lookup,h⟩
theorem BZ{l:Δ}{items:Array Γ}{Q:FS}(hl:s.heap.IsTuple l items)(hz:items.size<=ζ)
  (h:∀h' tk,Hu h' s.heap.objs.size l ((items.size:Int)-1)->(∀b o,s.heap.get? b=some o->h'.get? b=some o)->Q (.ref s.heap.objs.size) {s with heap:=h',toks:=tk}):
  ε (model prog w) A (call (.type "reversed") [.ref l]) Q E s:=by
 refine callType_new RV.called (by decide) (RV.tc1 _) (F.newCall_reversed_1 _) (fun obj=>F.args_object_init_2 obj _) F.entry_reversed_new (rF l items hz) ⟨hl,?_⟩
 exact⟨⟨_,Jp _ rfl,rfl⟩,h _ _ ⟨_,Jp _ rfl,rfl,rfl⟩ fun b o e=>Jh _ e⟩
theorem Bz{r:Δ}{n:Nat}{t u v:Tok}{Q:FS}(hr:s.heap.get? r=some {cls:= .type "range",data:= .fields #[.int 0 t,.int n u,.int 1 v]})(hn:(n:Int)<2 ^ 62)
    (h:∀h',IsRangeIter h' s.heap.objs.size ((n:Int)-1) n (-1)->(∀b o,s.heap.get? b=some o->h'.get? b=some o)->Q (.ref s.heap.objs.size) {s with heap:=h'}):
    ε (model prog w) A (call (.type "reversed") [.ref r]) Q E s:=by
  have hT:s.TypeIs (.ref r) "range":=⟨_,hr,rfl⟩
  refine callType_other (U:="range_iterator") (Q₁:=fun obj s₁=>obj= .ref s.heap.objs.size/\∃h',s₁={s with heap:=h'}/\IsRangeIter h' s.heap.objs.size ((n:Int)-1) n (-1)/\∀b o,s.heap.get? b=some o->h'.get? b=some o) (by decide +kernel) F.create_reversed ⟨_,_,F.mro_reversed⟩ F.made_reversed RV.ri_rev (RV.tc1 _) ?_ ?_
  · refine codeAny_of_tree ?_
    show ε _ A.in1.in1 (do checkBuiltinCall "reversed.__new__" ⟨[.type "reversed",.ref r],[]⟩;again (.builtin "reversed.__new__" ⟨[.type "reversed",.ref r],[]⟩)) _ _ s
    refine Ja (DY (F.newCall_reversed_1 _) (Jd ⟨plainId_quiet F.plain_reversed_new _,Ek F.entry_reversed_new ?_⟩))
    rw[Around.under_plainId F.plain_reversed_new _];unfold γ.«reversed.__new__»
    refine Ja (DY (newClass_reversed _) ?_)
    try dsimp only
    refine Ja (DY (a:=()) (by first|rfl|kernel_rfl) ?_)
    refine Ja (DY (a:=()) (by first|rfl|kernel_rfl) ?_)
    try dsimp only
    refine Ja (EM hT F.slot_range_reversed.lookup ?_)
    try dsimp only
    refine Ja (DY (F.slot_range_reversed.bind _) ?_)
    try dsimp only
    first
    |rw[Jb (show¬((Γ.builtin "range.__reversed__"==Γ.none)=true)from JG)]
    | (show ε _ _ (if(Γ.builtin "range.__reversed__"==Γ.none)=true then _ else _) _ _ _
       rw[Jb (show¬((Γ.builtin "range.__reversed__"==Γ.none)=true)from JG)])
    refine Ja (DR ?_)
    refine Ja (m:=runValue (.call (.builtin "range.__reversed__") ⟨[.ref r],[]⟩)) (show ε _ _ (call (.builtin "range.__reversed__") [.ref r]) _ _ _ from
      call_meets F.slot_range_reversed hT F.entry_range_reversed (F.args_range_reversed_1 _) (pY r n t u v hn) ⟨hr,?_⟩)
    first
    |exact Jd ⟨rfl,_,rfl,Jp _ rfl,fun b o e=>Jh _ e⟩
    |exact Ja (Jd (Jd ⟨rfl,_,rfl,Jp _ rfl,fun b o e=>Jh _ e⟩))
  · rintro obj s₁ ⟨rfl,h',rfl,hi,hk⟩
    exact⟨⟨_,hi,rfl⟩,h h' hi hk⟩
end
def pF(K:ι)(a:Δ)(n:Nat):It:=
 ⟨fun i H=>i<n/\∃xs,F6 K H a xs/\xs.length=n,fun i H x H'=>H'=H/\∀xs,F6 K H a xs->xs[n-1-i]? =some x,fun i _=>n<=i⟩
def pP(K:ι)(a:Δ)(n:Nat):It:=
 ⟨fun i H=>i<n/\∃xs,F7 K H a xs/\xs.length=n,fun i H x H'=>H'=H/\∀xs,F7 K H a xs->xs[n-1-i]? =some x,fun i _=>n<=i⟩
def pO(n:Nat):It:=⟨fun i _=>i<n,fun i H x H'=>H'=H/\x= .int ((n:Int)-1-i),fun i _=>n<=i⟩
theorem rz{P:Ξ}{w:Ω}{K:ι}{tg:Φ}(a it:Δ)(n:Nat):HL P w K tg (pF K a n) [it] it (fun i h=>i<=n/\h.IsRevIter it a ((n:Int)-1-i)) where
 mem:=by simp
 obj:=fun i h st b hb=>by
  have e:b=it:=by simpa using hb
  subst e;obtain⟨_,o,e,c,d⟩:=st
  exact⟨o,e,fun v z=>by rw[d]at z;cases z⟩
 keep:=fun i h h' st k=>⟨st.1,st.2.at fun o e=>k it (by simp) o e⟩
 item:=by
  intro X hP hw hK hc i tx s σ H E I hf st hg;subst hP hw hK;obtain⟨hi,xs,hq,hn⟩:=hg;obtain⟨its,rv,p,hz⟩:=I.list hq;have hlt:n-1-i<xs.length:=by lia
  obtain⟨u,hu,ru⟩:=rv.get (Jk hlt)
  obtain⟨f0,f1,f2,f3,f4,f5⟩:=hf it (by simp)
  have e1:(n:Int)-1-i=((n-1-i:Nat):Int):=by lia
  have st2:=st.2;rw[e1]at st2;refine wpAny_pyNext_rev_item st2 p.isList (x:=u) (by simpa using hu) fun h' st' sb=>?_
  have I1:L2.FY X tx σ H {s with heap:=h'}:=I.turned (t':=s.toks) (fun b o hb e=>(sb.2 b hb).trans e) f0 f1 f3 f4 f5
  obtain⟨o,e,c,d⟩:=id st';refine⟨u,rfl,bX (s:={s with heap:=h'}) e c d (by decide) ⟨_,H,I1,ru,⟨rfl,fun ys hy=>by rw[I.list_inj hy hq];exact Jk hlt⟩,⟨by lia,?_⟩,fun b hb=>(hf b hb).1⟩⟩
  have e2:((n-1-i:Nat):Int)-1=(n:Int)-1-((i+1:Nat):Int):=by lia
  rw[<- e2];exact st'
 done:=by
  intro X hP hw hK hc i tx s σ H E I hf st hg;subst hP hw hK;obtain⟨f0,f1,f2,f3,f4,f5⟩:=hf it (by simp)
  have hi:i=n:=Nat.le_antisymm st.1 hg
  have st2:=st.2;rw[show(n:Int)-1-i= -1 by lia]at st2
  exact wpAny_pyNext_rev_end (I.ok.hd hc) st2 fun h' eb=>⟨rfl,I.turned (t':=s.toks) (fun b o hb e=>eb b o hb e) f0 f1 f3 f4 f5⟩
 self:=fun _ _ _ _ _ st h=>wpAny_pyIter_revIter st.2 h
theorem uD{P:Ξ}{w:Ω}{K:ι}{tg:Φ}(a it:Δ)(n:Nat):HL P w K tg (pP K a n) [it] it (fun i h=>i<=n/\Hu h it a ((n:Int)-1-i)) where
 mem:=by simp
 obj:=fun i h st b hb=>by
  have e:b=it:=by simpa using hb
  subst e;obtain⟨_,o,e,c,d⟩:=st
  exact⟨o,e,fun v z=>by rw[d]at z;cases z⟩
 keep:=fun i h h' st k=>⟨st.1,let⟨o,e,r⟩:=st.2;⟨o,k it (by simp) o e,r⟩⟩
 item:=by
  intro X hP hw hK hc i tx s σ H E I hf st hg;subst hP hw hK;obtain⟨hi,xs,hq,hn⟩:=hg;obtain⟨its,rv,p,hz⟩:=I.tuple hq;have hlen:=rv.length;have hlt:n-1-i<xs.length:=by lia
  obtain⟨u,hu,ru⟩:=rv.get (Jk hlt)
  obtain⟨f0,f1,f2,f3,f4,f5⟩:=hf it (by simp)
  have e1:(n:Int)-1-i=((n-1-i:Nat):Int):=by lia
  have st2:=st.2;rw[e1]at st2;refine mX st2 p (x:=u) (by simpa using hu) (by simp;lia) fun h' tk st' sb=>?_
  have I1:L2.FY X tx σ H {s with heap:=h',toks:=tk}:=I.turned (t':=tk) (fun b o hb e=>(sb.2 b hb).trans e) f0 f1 f3 f4 f5
  obtain⟨o,e,c,d⟩:=id st';refine⟨u,rfl,bX (s:={s with heap:=h',toks:=tk}) e c d (by decide) ⟨_,H,I1,ru,⟨rfl,fun ys hy=>by rw[I.tuple_inj hy hq];exact Jk hlt⟩,⟨by lia,?_⟩,fun b hb=>(hf b hb).1⟩⟩
  have e2:((n-1-i:Nat):Int)-1=(n:Int)-1-((i+1:Nat):Int):=by lia
  rw[<- e2];exact st'
 done:=by
  intro X hP hw hK hc i tx s σ H E I hf st hg;subst hP hw hK;obtain⟨f0,f1,f2,f3,f4,f5⟩:=hf it (by simp)
  have hi:i=n:=Nat.le_antisymm st.1 hg
  have st2:=st.2;rw[show(n:Int)-1-i= -1 by lia]at st2
  exact pZ (I.ok.hd hc) st2 fun h' eb=>⟨rfl,I.turned (t':=s.toks) (fun b o hb e=>eb b o hb e) f0 f1 f3 f4 f5⟩
 self:=fun _ _ _ _ _ st h=>t7 st.2 h
theorem uv{P:Ξ}{w:Ω}{K:ι}{tg:Φ}(it:Δ)(n:Nat):HL P w K tg (pO n) [it] it (fun i h=>IsRangeIter h it ((n:Int)-1+(i:Nat)*(-1)) ((n:Int)-(i:Nat)) (-1)) where
 mem:=by simp
 obj:=fun i h st b hb=>by
  have e:b=it:=by simpa using hb
  subst e
  exact⟨_,st,fun v z=>by
   have z':Data.fields _=Data.cell v:=z
   cases z'⟩
 keep:=fun i h h' st k=>k it (by simp) _ st
 item:=by
  intro X hP hw hK hc i tx s σ H E I hf st hg;subst hP hw hK;obtain⟨f0,f1,f2,f3,f4,f5⟩:=hf it (by simp)
  have W:=Walks.range (prog:=X.prog) (w:=X.w) (I.ok.hd hc) it ((n:Int)-1) (-1) n
  refine W.item i s _ _ hg st fun v h' tk hv st' kk=>?_
  obtain⟨t,rfl⟩:=hv;have I1:L2.FY X tx σ H {s with heap:=h',toks:=tk}:=I.turned (fun b o hb e=>kk b o (by simpa using hb) e) f0 f1 f3 f4 f5
  refine⟨_,rfl,bX (s:={s with heap:=h',toks:=tk}) (n:="range_iterator") st' rfl rfl (by decide) ⟨.int ((n:Int)-1-i),H,I1,⟨t,?_⟩,⟨rfl,rfl⟩,st',fun b hb=>(hf b hb).1⟩⟩
  rw[show(n:Int)-1+(i:Nat)*(-1)=(n:Int)-1-i by lia]
 done:=by
  intro X hP hw hK hc i tx s σ H E I hf st hg;subst hP hw hK;obtain⟨f0,f1,f2,f3,f4,f5⟩:=hf it (by simp)
  exact wpAny_pyNext_range_end (I.ok.hd hc) st (by have:n<=i:=hg;lia) fun h' eb=>⟨rfl,I.turned (t':=s.toks) (fun b o hb e=>eb b o hb e) f0 f1 f3 f4 f5⟩
 self:=fun _ _ _ _ _ st h=>FB st h
section
variable{X:Cx}{tg:Φ}
theorem uX:bootBuiltins "reversed"=some (.type "reversed"):=by kernel_rfl
def Be(K:ι)(ta:TA):TI:=fun σ H R=>ta σ H fun vs H1=>∃a,vs=[.ref a]/\((∃xs,F6 K H1 a xs/\R (pF K a xs.length) H1)\/(∃xs,F7 K H1 a xs/\R (pP K a xs.length) H1)\/∃n:Nat,H1 a=some (.rng 0 n)/\(n:Int)<2 ^ 62/\R (pO n) H1)
theorem BY{a:Φ}{ta:TA}{p pos:Pos}(hg:Gl X "reversed")(hm:X.mg "reversed"=none)(ha:PA X [a] ta)(hn:QK a=true:=by rfl):
  PI X tg (.Call (.Name "reversed" p) [a] [] pos) (Be X.K ta):=by
 intro tx s σ H R I h;refine Call_ (Zo I hg hm uX (EH (qB (ha pos tx s σ H _ I h) fun us s1 zq=>?_) (aP hn) rfl))
 obtain⟨vs,H1,I1,r1,q1⟩:=zq;obtain⟨l,e,q1⟩:=q1;subst e;obtain⟨u,rfl,ru⟩:=r1.one;cases ru;have fpk:∀b∈[s1.heap.objs.size],Zx X tx H1 b:=fun b hb=>by
  rw[Jj.mp hb];exact I1.fpOk (Jf _) (I1.hok.fresh (Jf _))
 rcases q1 with⟨xs,hq,q⟩|⟨xs,hq,q⟩|⟨n,hq,hn62,q⟩
 ·obtain⟨its,rv,pl,hz⟩:=I1.list hq
  have hlen:=rv.length;refine call_reversed_list pl.isList ?_
  have hi:(s1.heap.push (revObj l ((its.toArray.size:Int)-1))).IsRevIter s1.heap.objs.size l ((its.toArray.size:Int)-1):=⟨_,Jp _ rfl,rfl,rfl⟩
  refine wpAny_pyIter_revIter hi ?_
  refine⟨s1.heap.objs.size,[s1.heap.objs.size],_,_,H1,rfl,I1.kept (t':=s1.toks) fun b o e=>Jh _ e,rz l _ xs.length,⟨Jz _,?_⟩,fpk,q⟩
  rw[show(xs.length:Int)-1-((0:Nat):Int)=(its.toArray.size:Int)-1 by simp [hlen]]
  exact hi
 ·obtain⟨its,rv,pl,hz⟩:=I1.tuple hq
  have hlen:=rv.length;refine BZ (show s1.heap.IsTuple l its.toArray from pl) (by simp;lia) fun h' tk hi hk=>t7 hi ?_
  refine⟨s1.heap.objs.size,[s1.heap.objs.size],_,_,H1,rfl,I1.kept (t':=tk) hk,uD l _ xs.length,⟨Jz _,?_⟩,fpk,q⟩
  rw[show(xs.length:Int)-1-((0:Nat):Int)=(its.toArray.size:Int)-1 by simp [hlen]]
  exact hi
 ·obtain⟨t,u,v,hr⟩:=I1.hok l _ hq
  refine Bz hr hn62 fun h' hi hk=>FB hi ?_
  refine⟨s1.heap.objs.size,[s1.heap.objs.size],_,_,H1,rfl,I1.kept (t':=s1.toks) hk,uv _ n,?_,fpk,q⟩
  show IsRangeIter _ _ _ _ _
  rw[show(n:Int)-1+((0:Nat):Int)*(-1)=(n:Int)-1 by lia,show(n:Int)-((0:Nat):Int)=n by lia]
  exact hi
def Ce(K:ι)(tl:TE):TI:=fun σ H R=>tl σ H fun x H1=>∃a,x= .ref a/\((∃xs,F6 K H1 a xs)/\R (jM K a) H1\/(∃xs,F7 K H1 a xs)/\R (jg K a) H1)
theorem Cc{l:Φ}{tl:TE}(hl:PE X l tl):PI X tg l (Ce X.K tl):=by
 intro tx s σ H R I h;refine qB (hl tx s σ H _ I h) fun v s1 zq=>?_
 obtain⟨x,H1,I1,r1,q1⟩:=zq;obtain⟨a,e,q1⟩:=q1;subst e;cases r1;have fpk:∀b∈[s1.heap.objs.size],Zx X tx H1 b:=fun b hb=>by
  rw[Jj.mp hb];exact I1.fpOk (Jf _) (I1.hok.fresh (Jf _))
 rcases q1 with⟨⟨xs,hq⟩,q⟩|⟨⟨xs,hq⟩,q⟩
 ·obtain⟨its,rv,p,hz⟩:=I1.list hq
  refine EO p.isList ?_
  exact⟨s1.heap.objs.size,[s1.heap.objs.size],_,_,H1,rfl,I1.kept (t':=s1.toks) fun b o e=>Jh _ e,iX a _,⟨_,Jp _ rfl,rfl,rfl⟩,fpk,q⟩
 ·obtain⟨its,rv,p,hz⟩:=I1.tuple hq
  refine Ex (show s1.heap.IsTuple a its.toArray from p) ?_
  exact⟨s1.heap.objs.size,[s1.heap.objs.size],_,_,H1,rfl,I1.kept (t':=s1.toks) fun b o e=>Jh _ e,gP a _,⟨_,Jp _ rfl,rfl,rfl⟩,fpk,q⟩
end
section
variable{K:ι}{a:Δ}{xs:List V}{g:TG}{tb:TS}{D:GP}{σ:L2.St}{H:Hp}
abbrev ZS(J:It)(g:TG)(tb:TS)(D:GP)(σ:L2.St)(H:Hp):Prop:=∃W:Nat->Nat->L2.St->Hp->Prop,(∃m,W 0 m σ H)/\∀i m σ H,W i m σ H->
      (J.stop i H/\D.nx σ H)\/(J.go i H/\∃N:L2.St->Hp->Prop,(∀σ' H',N σ' H'->∃m',m'<m/\W (i+1) m' σ' H')/\∀x H',J.yld i H x H'->g x σ H' fun σ2 H2=>tb {D with nx:=N,ct:=N,bk:=D.nx} σ2 H2)
theorem fo{J:It}{n:Nat}(Pv:Nat->L2.St->Hp->Prop)(h0:Pv 0 σ H)(hgo:∀i σ H,i<n->Pv i σ H->J.go i H)(hst:∀H,J.stop n H)
  (hs:∀i x σ H H',i<n->Pv i σ H->J.yld i H x H'->g x σ H' fun σ2 H2=>tb {D with nx:=Pv (i+1),ct:=Pv (i+1),bk:=D.nx} σ2 H2)(hd:∀σ H,Pv n σ H->D.nx σ H):ZS J g tb D σ H:=by
 refine⟨fun i m σ H=>m=n-i/\i<=n/\Pv i σ H,⟨n,by simp,Jz _,h0⟩,?_⟩
 rintro i m σ H ⟨rfl,hi,p⟩
 by_cases hlt:i<n
 ·exact .inr ⟨hgo i σ H hlt p,Pv (i+1),fun σ' H' p'=>⟨n-(i+1),by lia,rfl,hlt,p'⟩,fun x H' y=>hs i x σ H H' hlt p y⟩
 ·have e:i=n:=by lia
  subst e;exact .inl ⟨hst H,hd σ H p⟩
theorem vG(Pv:Nat->L2.St->Hp->Prop)(h0:Pv 0 σ H)(hl:∀i σ H,Pv i σ H->F6 K H a xs)
  (hs:∀i x σ H,i<xs.length->xs[xs.length-1-i]? =some x->Pv i σ H->g x σ H fun σ2 H2=>tb {D with nx:=Pv (i+1),ct:=Pv (i+1),bk:=D.nx} σ2 H2)(hd:∀σ H,Pv xs.length σ H->D.nx σ H):ZS (pF K a xs.length) g tb D σ H:=
 fo Pv h0 (fun i σ H hi p=>⟨hi,xs,hl i σ H p,rfl⟩) (fun _=>Jf _) (fun i x σ H H' hi p y=>by
  obtain⟨rfl,y⟩:=y;exact hs i x σ H' hi (y xs (hl i σ H' p)) p) hd
theorem wc(Pv:Nat->L2.St->Hp->Prop)(h0:Pv 0 σ H)(hl:∀i σ H,Pv i σ H->F7 K H a xs)
  (hs:∀i x σ H,i<xs.length->xs[xs.length-1-i]? =some x->Pv i σ H->g x σ H fun σ2 H2=>tb {D with nx:=Pv (i+1),ct:=Pv (i+1),bk:=D.nx} σ2 H2)(hd:∀σ H,Pv xs.length σ H->D.nx σ H):ZS (pP K a xs.length) g tb D σ H:=
 fo Pv h0 (fun i σ H hi p=>⟨hi,xs,hl i σ H p,rfl⟩) (fun _=>Jf _) (fun i x σ H H' hi p y=>by
  obtain⟨rfl,y⟩:=y;exact hs i x σ H' hi (y xs (hl i σ H' p)) p) hd
theorem wk{n:Nat}(Pv:Nat->L2.St->Hp->Prop)(h0:Pv 0 σ H)
  (hs:∀i σ H,i<n->Pv i σ H->g (.int ((n:Int)-1-i)) σ H fun σ2 H2=>tb {D with nx:=Pv (i+1),ct:=Pv (i+1),bk:=D.nx} σ2 H2)(hd:∀σ H,Pv n σ H->D.nx σ H):ZS (pO n) g tb D σ H:=
 fo Pv h0 (fun i σ H hi p=>hi) (fun _=>Jf _) (fun i x σ H H' hi p y=>by
  obtain⟨rfl,rfl⟩:=y;exact hs i σ H' hi p) hd
end
end L3
namespace L3
open PySem PySem.Spec L2
variable{X:Cx}
theorem tJ{tg:Φ}{a:Φ}{ta:TA}{p pos:Pos}(hg:Gl X "reversed")(hm:X.mg "reversed"=none)(ha:QA X [a] ta)(hn:QK a=true:=by rfl):QI X tg (.Call (.Name "reversed" p) [a] [] pos) (Be X.K ta):=⟨BY (hg:=hg) (hm:=hm) (ha:=ha.h) (hn:=hn)⟩
theorem AY{tg:Φ}{l:Φ}{tl:TE}(hl:QE X l tl):QI X tg l (Ce X.K tl):=⟨Cc (hl:=hl.h)⟩
def aU(x:Int):Prop:=0<=x/\x<16
def zy(r:List Int):Prop:=∀x∈r,aU x
def wU(n i:Nat):Nat:=if i=0 then n-1 else i-1
def ah(r:List Int)(i:Nat):Int:=r.getD (wU r.length i) 0
def iG(t:List Int)(s:Int)(r:List Int)(i:Nat):List Int:=r.set i (t.getD ((r.getD i 0+s+i+ah r i)%16).toNat 0)
def fS(b:List Int)(s:Int)(r:List Int)(i:Nat):List Int:=r.set i ((b.getD (r.getD i 0).toNat 0-s-i-ah r i)%16)
def ZZ(t:List Int)(s:Int)(r:List Int):Nat->List Int
 |0=>r
 |n+1=>iG t s (ZZ t s r n) n
def au(b:List Int)(s:Int)(r:List Int):Nat->List Int
 |0=>r
 |n+1=>au b s (fS b s r n) n
def QB(t:List Int):List Int->List Int->List Int
 | [],r=>r
 |s::ks,r=>QB t ks (ZZ t s r r.length)
def Q5(b:List Int):List Int->List Int->List Int
 | [],r=>r
 |s::ks,r=>au b s (Q5 b ks r) r.length
theorem vz{t:List Int}{s:Int}{r:List Int}{i:Nat}:(iG t s r i).length=r.length:=ET ..
theorem mw{b:List Int}{s:Int}{r:List Int}{i:Nat}:(fS b s r i).length=r.length:=ET ..
theorem QC{t:List Int}{s:Int}{r:List Int}:∀{n:Nat},(ZZ t s r n).length=r.length
 |0=>rfl
 |n+1=>by rw[ZZ,vz,QC]
theorem lF{b:List Int}{s:Int}:∀{n:Nat} {r:List Int},(au b s r n).length=r.length
 |0,_=>rfl
 |n+1,r=>by rw[au,lF,mw]
theorem bY{t:List Int}:∀{ks r:List Int},(QB t ks r).length=r.length
 | [],_=>rfl
 |s::ks,r=>by rw[QB,bY,QC]
theorem fJ{b:List Int}:∀{ks r:List Int},(Q5 b ks r).length=r.length
 | [],_=>rfl
 |s::ks,r=>by rw[Q5,lF,fJ]
theorem lz{r:List Int}{i:Nat}{x:Int}(h:zy r)(hx:aU x):zy (r.set i x):=fun y hy=>by
 rcases List.mem_or_eq_of_mem_set hy with z|z
 ·exact h y z
 ·rw[z];exact hx
theorem am(x:Int):aU (x%16):=⟨El _ (by decide),Eo _ (by decide)⟩
theorem ir{r:List Int}(h:zy r)(i:Nat):aU (r.getD i 0):=by
 rw[JI]
 by_cases hi:i<r.length
 ·rw[Jk hi];exact h _ (EB hi)
 ·rw[FH (by lia)];exact⟨by decide,by decide⟩
theorem v8{t:List Int}(p:t.Perm Gx):zy t:=fun x hx=>lv (p.mem_iff.mp hx)
theorem vi{t:List Int}(p:t.Perm Gx){s:Int}{r:List Int}{i:Nat}(h:zy r):zy (iG t s r i):=lz h (ir (v8 p) _)
theorem lV{b:List Int}{s:Int}{r:List Int}{i:Nat}(h:zy r):zy (fS b s r i):=lz h (am _)
theorem bJ{t:List Int}(p:t.Perm Gx){s:Int}{r:List Int}(h:zy r):∀{n:Nat},zy (ZZ t s r n)
 |0=>h
 |n+1=>vi p (bJ p h)
theorem kj{b:List Int}{s:Int}:∀{n:Nat} {r:List Int},zy r->zy (au b s r n)
 |0,_,h=>h
 |n+1,_,h=>kj (n:=n) (lV h)
theorem lm{t:List Int}(p:t.Perm Gx):∀{ks r:List Int},zy r->zy (QB t ks r)
 | [],_,h=>h
 |s::ks,_,h=>lm (ks:=ks) p (bJ p h)
theorem ma{b:List Int}:∀{ks r:List Int},zy r->zy (Q5 b ks r)
 | [],_,h=>h
 |s::ks,_,h=>kj (ma (ks:=ks) h)
theorem j6{r:List Int}{i:Nat}{x:Int}(h:i<r.length):(r.set i x).getD i 0=x:=by
 rw[JI,Fl h];rfl
theorem ny{r:List Int}{i j:Nat}{x:Int}(h:i≠j):(r.set i x).getD j 0=r.getD j 0:=by
 rw[JI,Fm h,<- JI]
theorem CA{n i:Nat}(h2:2<=n)(hi:i<n):i≠wU n i:=by unfold wU;split<;>lia
theorem Ci{r:List Int}{i:Nat}{x:Int}(h2:2<=r.length)(hi:i<r.length):ah (r.set i x) i=ah r i:=by
 unfold ah;rw[ET,ny (CA h2 hi)]
theorem vM{r:List Int}{i:Nat}(hi:i<r.length):r.set i (r.getD i 0)=r:=by
 rw[JI,Jk hi];exact List.set_getElem_self hi
theorem vc{t:List Int}(p:t.Perm Gx){z:Int}(h:aU z):(zA t).getD (t.getD z.toNat 0).toNat 0=z:=by
 have hz:z.toNat<t.length:=by rw[om p];have:=h.1;have:=h.2;lia
 have e:t.getD z.toNat 0=t[z.toNat]:=by rw[JI,Jk hz];rfl
 have bd:=lL p hz;have hb:t[z.toNat].toNat<(zA t).length:=by rw[aW];lia
 rw[e,JI,Jk hb,Eg,yq p (by rw[aW]at hb;exact hb)]
 have e2:((t[z.toNat].toNat:Nat):Int)=t[z.toNat]:=by lia
 rw[e2,uk p hz]
 have:=h.1
 lia
theorem vI{t:List Int}(p:t.Perm Gx){s:Int}{r:List Int}{i:Nat}(hr:zy r)(h2:2<=r.length)(hi:i<r.length):fS (zA t) s (iG t s r i) i=r:=by
 unfold fS iG;rw[j6 hi,Ci h2 hi,List.set_set,vc p (am _)];have hd:=ir hr i;have e:((r.getD i 0+s+i+ah r i)%16-s-i-ah r i)%16=r.getD i 0:=by
  have:=hd.1
  have:=hd.2
  lia
 rw[e,vM hi]
theorem mh{t:List Int}(p:t.Perm Gx){s:Int}{r:List Int}(hr:zy r)(h2:2<=r.length):∀{n:Nat},n<=r.length->au (zA t) s (ZZ t s r n) n=r
 |0,_=>rfl
 |n+1,hn=>by
  rw[ZZ,au,vI p (bJ p hr) (by rw[QC];exact h2) (by rw[QC];lia)]
  exact mh p hr h2 (by lia)
theorem mF{t:List Int}(p:t.Perm Gx):∀{ks r:List Int},zy r->2<=r.length->Q5 (zA t) ks (QB t ks r)=r
 | [],_,_,_=>rfl
 |s::ks,r,hr,h2=>by
  rw[Q5,QB,mF p (bJ p hr) (by rw[QC];exact h2),bY,QC,mh p hr h2 (Jf _)]
theorem lZ(t:List Int):∀(ks:List Int) (s:Int) (r:List Int),QB t (ks++[s]) r=ZZ t s (QB t ks r) r.length
 | [],_,_=>rfl
 |a::ks,s,r=>by rw[List.cons_append,QB,lZ t ks s,QB,QC]
def Sq(K:ι)(H:Hp)(a:Δ)(xs:List V):Prop:=F6 K H a xs\/F7 K H a xs
theorem Sq.same{K:ι}{H H':Hp}{a:Δ}{xs:List V}(e:FV H H')(h:Sq K H a xs):Sq K H' a xs:=h.elim (fun h=> .inl (e.seq h)) fun h=> .inr (FV.sqt e h)
theorem Sq.lst{K:ι}{H:Hp}{a:Δ}{xs:List V}(h:H a=some (.lst xs)):Sq K H a xs:= .inl (F6.of h)
theorem Sq.tup{K:ι}{H:Hp}{a:Δ}{xs:List V}(h:H a=some (.tup xs)):Sq K H a xs:= .inr (F7.of h)
def iU(K:ι):Sp:=fun vs H Q _=>∃(a b c:Δ) (t ks ds:List Int),vs=[.ref a,.ref b,.ref c]/\Sq K H a (t.map V.int)/\Sq K H b (ks.map V.int)/\Sq K H c (ds.map V.int)/\t.length=16/\1<=ds.length/\ds.length<64/\
 ∀p H',FV H H'->H p=none->H' p=some (.tup ((QB t ks ds).map V.int))->Q (.ref p) H'
def jz(K:ι):Sp:=fun vs H Q _=>∃(a b c:Δ) (t ks ds:List Int),vs=[.ref a,.ref b,.ref c]/\Sq K H a (t.map V.int)/\Sq K H b (ks.map V.int)/\Sq K H c (ds.map V.int)/\t.Perm Gx/\zy ds/\1<=ds.length/\ds.length<64/\
 ∀p H',FV H H'->H p=none->H' p=some (.tup ((Q5 (zA t) ks ds).map V.int))->Q (.ref p) H'
theorem ay{r:List Int}{i:Nat}{z:Int}(e:z=(i:Int))(h:i<r.length):Ql (r.map V.int) z=some (.int (r.getD i 0)):=by
 rw[yd e (iQ h),JI,Jk h];rfl
theorem rX{r:List Int}{i:Nat}{z:Int}(e:z=(i:Int)-1)(h:i<r.length):Ql (r.map V.int) z=some (.int (ah r i)):=by
 subst e;unfold ah wU
 by_cases h0:i=0
 ·subst h0
  rw[Jc rfl];have hl:r.length-1<r.length:=by lia
  unfold Ql cC;rw[Je,Jb (by lia),Jc (by lia)]
  have e2:((((0:Nat):Int)-1)+(r.length:Int)).toNat=r.length-1:=by lia
  show(r.map V.int)[((((0:Nat):Int)-1)+(r.length:Int)).toNat]? =_
  rw[e2,iQ hl,JI,Jk hl];rfl
 ·rw[Jb h0]
  exact ay (by lia) (by lia)
theorem Sq.ix{K:ι}{H:Hp}{a:Δ}{xs:List V}{i:Int}{v:V}{Q:VK}(h:Sq K H a xs)(e:Ql xs i=some v)(q:Q v H):Cf K (.ref a) (.int i) H Q\/wm K (.ref a) (.int i) H Q:=
 h.elim (fun h=> .inl ⟨a,xs,i,v,rfl,rfl,h,e,q⟩) fun h=> .inr ⟨a,xs,i,v,rfl,rfl,h,e,q⟩
section
variable{K:ι}{a:Δ}{xs:List V}{g:TG}{tb:TS}{D:GP}{σ:L2.St}{H H0:Hp}
theorem AE(hq:Sq K H0 a xs)(Pv:Nat->L2.St->Hp->Prop)(h0:Pv 0 σ H)(hk:∀i σ' H',Pv i σ' H'->FV H0 H')
  (hs:∀i x σ H,xs[i]? =some x->Pv i σ H->g x σ H fun σ2 H2=>tb {D with nx:=Pv (i+1),ct:=Pv (i+1),bk:=D.nx} σ2 H2)(hd:∀σ H,Pv xs.length σ H->D.nx σ H):
  ((∃xs,F6 K H a xs)/\ZS (jM K a) g tb D σ H)\/((∃xs,F7 K H a xs)/\ZS (jg K a) g tb D σ H):=by
 rcases hq with hq|hq
 ·exact .inl ⟨⟨xs,(hk _ _ _ h0).seq hq⟩,ZE Pv h0 (fun i σ H _ p=>(hk i σ H p).seq hq) hs hd⟩
 ·exact .inr ⟨⟨xs,FV.sqt (hk _ _ _ h0) hq⟩,oh Pv h0 (fun i σ H _ p=>FV.sqt (hk i σ H p) hq) hs hd⟩
theorem uV(hq:Sq K H0 a xs)(Pv:Nat->L2.St->Hp->Prop)(h0:Pv 0 σ H)(hk:∀i σ' H',Pv i σ' H'->FV H0 H')
  (hs:∀i x σ H,i<xs.length->xs[xs.length-1-i]? =some x->Pv i σ H->g x σ H fun σ2 H2=>tb {D with nx:=Pv (i+1),ct:=Pv (i+1),bk:=D.nx} σ2 H2)(hd:∀σ H,Pv xs.length σ H->D.nx σ H):
  (∃xs,F6 K H a xs/\ZS (pF K a xs.length) g tb D σ H)\/(∃xs,F7 K H a xs/\ZS (pP K a xs.length) g tb D σ H)\/(∃n:Nat,H a=some (.rng 0 n)/\(n:Int)<2 ^ 62/\ZS (pO n) g tb D σ H):=by
 rcases hq with hq|hq
 ·exact .inl ⟨xs,(hk _ _ _ h0).seq hq,vG Pv h0 (fun i σ H p=>(hk i σ H p).seq hq) hs hd⟩
 ·exact .inr (.inl ⟨xs,FV.sqt (hk _ _ _ h0) hq,wc Pv h0 (fun i σ H p=>FV.sqt (hk i σ H p) hq) hs hd⟩)
end
theorem Zy{H H2:Hp}{l:Δ}{o:HO}(s:FV H H2)(h:H l=none):FV H (F2 H2 l o):=fun d u e=>by
 rw[qi (qj e h)];exact s _ _ e
theorem iF{ks:List Int}{j:Nat}{s:Int}(h:ks[j]? =some s):ks.take (j+1)=ks.take j++[s]:=by rw[D6,h];rfl
theorem tf{ks:List Int}{j:Nat}{s:Int}(h:ks[j]? =some s):ks.drop j=s::ks.drop (j+1):=by
 obtain⟨hj,e⟩:=JH.mp h;rw[List.drop_eq_getElem_cons hj,e]
inductive Ig (H:Hp):Nat->V->V->Prop where
 |int (n:Nat) (i:Int):Ig H n (.int i) (.int i)
 |str (n:Nat) (x:Str):Ig H n (.str x) (.str x)
 |non (n:Nat):Ig H n .non .non
 |bl (n:Nat) (b:Bool):Ig H n (.bl b) (.bl b)
 | tup {n:Nat} {a b:Δ} {xs ys:List V} (h1:Rd H a (.tup xs)) (h2:Rd H b (.tup ys)) (hl:xs.length=ys.length)
   (hi:∀(i:Nat) (x y:V),xs[i]? =some x->ys[i]? =some y->Ig H n x y):Ig H (n+1) (.ref a) (.ref b)
 | lst {n:Nat} {a b:Δ} {xs ys:List V} (h1:H a=some (.lst xs)) (h2:H b=some (.lst ys)) (hl:xs.length=ys.length)
   (hi:∀(i:Nat) (x y:V),xs[i]? =some x->ys[i]? =some y->Ig H n x y):Ig H (n+1) (.ref a) (.ref b)
theorem gD(n:Nat):((List.range n).all fun _=>true)=true:=by simp
section
open SeqAt
variable{tx:FU}{σ:L2.St}{H:Hp}{s:Θ}
theorem Qi{xs:List V}{us:List Γ}(r:F3 xs us){j:Nat}(h:j<us.length):∃x,xs[j]? =some x/\F5 x us[j]:=by
 have hl:=r.length;have hj:j<xs.length:=by lia
 obtain⟨u,hu,ru⟩:=r.get (Jk hj)
 rw[Jk h]at hu;cases hu
 exact⟨_,Jk hj,ru⟩
theorem sM(I:L2.FY X tx σ H s){n:Nat}{x y:V}(h:Ig H n x y):∀{v u:Γ} {A:Around},F5 x v->F5 y u->A.units+n<cLine->EqAt A s v u true:=by
 induction h with
 |int n i=>rintro v u A ⟨t,rfl⟩ ⟨t',rfl⟩ _;have:=EqAt.int_int (A:=A) (s:=s) i t i t';rwa [EN]at this
 |str n z=>rintro v u A ⟨t,rfl⟩ ⟨t',rfl⟩ _;have:=EqAt.str_str (A:=A) (s:=s) z t z t';rwa [EN]at this
 |non n=>
  intro v u A r1 r2 _
  cases(show v=Γ.none from r1)
  cases(show u=Γ.none from r2)
  exact EqAt.same _
 |bl n b=>
  intro v u A r1 r2 _
  cases(show v=Γ.bool b from r1)
  cases(show u=Γ.bool b from r2)
  exact EqAt.same _
 | @tup n a b xs ys h1 h2 hl _ ih=>
  intro v u A r1 r2 hu
  cases(show v=Γ.ref a from r1)
  cases(show u=Γ.ref b from r2)
  by_cases hab:a=b
  ·rw[hab];exact EqAt.same _
  ·obtain⟨its,q1,p1,_⟩:=I.tuple (.inl h1)
   obtain⟨its2,q2,p2,_⟩:=I.tuple (.inl h2)
   have l1:=q1.length;have l2:=q2.length;have e:=RcAt.tuples (A:=A) (e:=fun _=>true) (show s.heap.IsTuple a its.toArray from p1) (show s.heap.IsTuple b its2.toArray from p2) (by lia) (fun j z1 z2=>by
    obtain⟨x,ex,rx⟩:=Qi q1 (j:=j) (by simpa using z1)
    obtain⟨y,ey,ry⟩:=Qi q2 (j:=j) (by simpa using z2)
    exact ih j x y ex ey rx ry (by rw[Fi];lia))
   rw[gD,show(its.toArray.size==its2.toArray.size)=true by simp;lia]at e
   exact EqAt.of_refs hab e
 | @lst n a b xs ys h1 h2 hl _ ih=>
  intro v u A r1 r2 hu
  cases(show v=Γ.ref a from r1)
  cases(show u=Γ.ref b from r2)
  by_cases hab:a=b
  ·rw[hab];exact EqAt.same _
  ·obtain⟨its,q1,p1,_⟩:=I.list (F6.of h1)
   obtain⟨its2,q2,p2,_⟩:=I.list (F6.of h2)
   have l1:=q1.length;have l2:=q2.length;have e:=RcAt.lists (A:=A) (e:=fun _=>true) p1.isList p2.isList (by simp;lia) (by lia) (fun j z1 z2=>by
    obtain⟨x,ex,rx⟩:=Qi q1 (j:=j) (by simpa using z1)
    obtain⟨y,ey,ry⟩:=Qi q2 (j:=j) (by simpa using z2)
    exact ih j x y ex ey rx ry (by rw[Fi];lia))
   rw[gD]at e;exact EqAt.of_refs hab e
theorem Bt(I:L2.FY X tx σ H s){n:Nat}{x y:V}{v u:Γ}{A:Around}(h:Ig H n x y)(r1:F5 x v)(r2:F5 y u)(hu:A.units+n<cLine):RcAt A s v u true/\RcNeAt A s v u false:=by
 cases h with
 |int n i=>
  obtain⟨t,rfl⟩:=r1;obtain⟨t',rfl⟩:=r2;have e1:=RcAt.int_int (A:=A) (s:=s) i t i t'
  have e2:=RcNeAt.int_int (A:=A) (s:=s) i t i t'
  rw[EN]at e1 e2
  exact⟨e1,e2⟩
 |str n z=>
  obtain⟨t,rfl⟩:=r1;obtain⟨t',rfl⟩:=r2;have e1:=RcAt.str_str (A:=A) (s:=s) z t z t'
  have e2:=RcNeAt.str_str (A:=A) (s:=s) z t z t'
  rw[EN]at e1 e2
  exact⟨e1,e2⟩
 |non n=>
  cases(show v=Γ.none from r1)
  cases(show u=Γ.none from r2)
  exact⟨RcAt.none_none,RcNeAt.none_none⟩
 |bl n b=>
  cases(show v=Γ.bool b from r1)
  cases(show u=Γ.bool b from r2)
  have e1:=RcAt.bool_bool (A:=A) (s:=s) b b
  have e2:=RcNeAt.bool_bool (A:=A) (s:=s) b b
  rw[EN]at e1 e2
  exact⟨e1,e2⟩
 | @tup n a b xs ys h1 h2 hl ih=>
  cases(show v=Γ.ref a from r1)
  cases(show u=Γ.ref b from r2)
  obtain⟨its,q1,p1,_⟩:=I.tuple (.inl h1)
  obtain⟨its2,q2,p2,_⟩:=I.tuple (.inl h2)
  have l1:=q1.length;have l2:=q2.length;have he:∀j (z1:j<its.toArray.size) (z2:j<its2.toArray.size),EqAt A.in1 s its.toArray[j] its2.toArray[j] ((fun _=>true) j):=fun j z1 z2=>by
   obtain⟨x,ex,rx⟩:=Qi q1 (j:=j) (by simpa using z1)
   obtain⟨y,ey,ry⟩:=Qi q2 (j:=j) (by simpa using z2)
   exact sM I (ih j x y ex ey) rx ry (by rw[Fi];lia)
  have e1:=RcAt.tuples (A:=A) (e:=fun _=>true) (show s.heap.IsTuple a its.toArray from p1) (show s.heap.IsTuple b its2.toArray from p2) (by lia) he
  have e2:=RcNeAt.tuples (A:=A) (e:=fun _=>true) (show s.heap.IsTuple a its.toArray from p1) (show s.heap.IsTuple b its2.toArray from p2) (by lia) he
  rw[gD,show(its.toArray.size==its2.toArray.size)=true by simp;lia]at e1 e2
  exact⟨e1,e2⟩
 | @lst n a b xs ys h1 h2 hl ih=>
  cases(show v=Γ.ref a from r1)
  cases(show u=Γ.ref b from r2)
  obtain⟨its,q1,p1,_⟩:=I.list (F6.of h1)
  obtain⟨its2,q2,p2,_⟩:=I.list (F6.of h2)
  have l1:=q1.length;have l2:=q2.length;have he:∀j (z1:j<its.toArray.size) (z2:j<its2.toArray.size),EqAt A.in1 s its.toArray[j] its2.toArray[j] ((fun _=>true) j):=fun j z1 z2=>by
   obtain⟨x,ex,rx⟩:=Qi q1 (j:=j) (by simpa using z1)
   obtain⟨y,ey,ry⟩:=Qi q2 (j:=j) (by simpa using z2)
   exact sM I (ih j x y ex ey) rx ry (by rw[Fi];lia)
  have e1:=RcAt.lists (A:=A) (e:=fun _=>true) p1.isList p2.isList (by simp;lia) (by lia) he
  have e2:=RcNeAt.lists (A:=A) (e:=fun _=>true) p1.isList p2.isList (by simp;lia) (by lia) he
  rw[gD]at e1 e2
  exact⟨e1,e2⟩
def DE(b:Bool):R2:=fun x y H Q=>∃n,n<=32/\Ig H n x y/\Q (.bl b) H
theorem AO{k:Nat}(hr:Gg k X.A):zw X (compareOp .NotEq) (DE false):=by
 intro tx s σ H x y v u Q I rx ry h;obtain⟨n,hn,e,q⟩:=h
 exact(Bt I e rx ry (by have:=hr.un;lia)).2 _ _ _ _ ⟨.bl _,H,I,rfl,q⟩
end
end L3
namespace L3
open PySem PySem.Spec PyProof.Rows L2
open Sem (wp)
def xh(x:Str):It:=⟨fun i _=>i<x.cps.size,fun i H v H'=>H'=H/\∃c,x.cps[i]? =some c/\v= .str ⟨#[c]⟩,fun i _=>x.cps.size<=i⟩
theorem wy{P:Ξ}{w:Ω}{K:ι}{tg:Φ}(it:Δ)(x:Str)(t:Tok):HL P w K tg (xh x) [it] it (fun i h=>h.IsStrIter it "str_ascii_iterator" x t i) where
 mem:=by simp
 obj:=fun i h st b hb=>by
  have e:b=it:=by simpa using hb
  subst e;obtain⟨o,e,c,d⟩:=st
  exact⟨o,e,fun v z=>by rw[d]at z;cases z⟩
 keep:=fun i h h' st k=>let⟨o,e,r⟩:=st;⟨o,k it (by simp) o e,r⟩
 item:=by
  intro X hP hw hK hc i tx s σ H E I hf st hg;subst hP hw hK;obtain⟨f0,f1,f2,f3,f4,f5⟩:=hf it (by simp)
  have W:=Walks.strAscii (prog:=X.prog) (w:=X.w) (I.ok.hd hc) it x t
  refine W.item i s _ _ hg st fun v h' tk hv st' kk=>?_
  obtain⟨c,u,hc',rfl⟩:=hv;have I1:L2.FY X tx σ H {s with heap:=h',toks:=tk}:=I.turned (fun b o hb e=>kk b o (by simpa using hb) e) f0 f1 f3 f4 f5
  obtain⟨o,e,cc,d⟩:=id st'
  exact⟨_,rfl,bX (s:={s with heap:=h',toks:=tk}) e cc d (by decide) ⟨.str ⟨#[c]⟩,H,I1,⟨u,rfl⟩,⟨rfl,c,hc',rfl⟩,st',fun b hb=>(hf b hb).1⟩⟩
 done:=by
  intro X hP hw hK hc i tx s σ H E I hf st hg;subst hP hw hK;obtain⟨f0,f1,f2,f3,f4,f5⟩:=hf it (by simp)
  have hg':x.cps.size<=i:=hg
  exact wpAny_pyNext_ascii_end (I.ok.hd hc) st (by simp [hg']) fun h' eb=>⟨rfl,I.turned (t':=s.toks) (fun b o hb e=>eb b o hb e) f0 f1 f3 f4 f5⟩
 self:=fun _ _ _ _ _ st h=>wpAny_pyIter_striter_ascii st h
section
variable{X:Cx}{tg:Φ}
def Bh(tl:TE):TI:=fun σ H R=>tl σ H fun v H1=>∃x,v= .str x/\x.cps.all (· <128)=true/\R (xh x) H1
theorem Bj{l:Φ}{tl:TE}(hl:PE X l tl):PI X tg l (Bh tl):=by
 intro tx s σ H R I h;refine qB (hl tx s σ H _ I h) fun v s1 zq=>?_
 obtain⟨x,H1,I1,r1,q1⟩:=zq;obtain⟨z,rfl,ha,q⟩:=q1;obtain⟨t,rfl⟩:=r1;refine wpAny_pyIter_ascii ha ?_
 refine⟨s1.heap.objs.size,[s1.heap.objs.size],_,_,H1,rfl,I1.kept (t':=s1.toks) fun b o e=>Jh _ e,wy _ z t,⟨_,Jp _ rfl,rfl,rfl⟩,fun b hb=>?_,q⟩
 rw[Jj.mp hb];exact I1.fpOk (Jf _) (I1.hok.fresh (Jf _))
theorem rT{l:Φ}{tl:TE}(hl:QE X l tl):QI X tg l (Bh tl):=⟨Bj hl.h⟩
end
theorem yL{x:Str}{g:TG}{tb:TS}{D:GP}{σ:L2.St}{H:Hp}(Pv:Nat->L2.St->Hp->Prop)(h0:Pv 0 σ H)
  (hs:∀i c σ H,x.cps[i]? =some c->Pv i σ H->g (.str ⟨#[c]⟩) σ H fun σ2 H2=>tb {D with nx:=Pv (i+1),ct:=Pv (i+1),bk:=D.nx} σ2 H2)(hd:∀σ H,Pv x.cps.size σ H->D.nx σ H):ZS (xh x) g tb D σ H:=
 fo Pv h0 (fun i σ H hi p=>hi) (fun _=>Jf _) (fun i v σ H H' hi p y=>by
  obtain⟨rfl,c,hc,rfl⟩:=y;exact hs i c σ H' hc p) hd
section
variable{X:Cx}{o e:Φ}{es:List Φ}{to:TE}{t:TA}{name:Str}{apos cpos:Pos}{T id:String}{r:V->List V->Hp->VK->Prop}
theorem aa(pa:PlainAttrs T)(slot:Slot T name id)(hty:typeOf (.builtin id)=pure (.type "method_descriptor"))(hm:tN X id r)(ho:QE X o to)(ha:QA X (e::es) t)
  (hbase:attributeBase o name X.env (eval o X.env)=eval o X.env:=by rfl)
  (hfew:((backTo cpos (θ (e::es) X.env)).all (fun x=> !x.1)&&(backToKw cpos (keywordEach [] X.env)).all (fun x=>x.1.isSome)
   &&decide ((e::es).length+([]:List Keyword).length+(if([]:List Keyword).isEmpty then 0 else 1)<30))=true:=by rfl)
  (hline:(apos.endLine==cpos.line)=true:=by rfl)(hs:θ (e::es) X.env=(false,eval e X.env)::θ es X.env:=by rfl)(hplain:(backTo cpos (θ es X.env)).any (·.1)=false:=by rfl):
  QE X (.Call (.Attribute o name apos) (e::es) [] cpos) (Bf X.K T r to t):=⟨CJ pa slot hty hm ho.h ha.h hbase hfew hline hs hplain⟩
theorem Qm:tN X "list.append" og:=uh
theorem oW:∀{ys:List Str} {us:List Γ},F3 (ys.map V.str) us->StrsAre us ys
 | [],_,.nil=> .nil
 |y::ys,_,.cons r t=>by
  obtain⟨u,rfl⟩:=(show∃u,_=Γ.str y u from r)
  exact .cons _ _ (oW t)
end
theorem be(ns:List Int):∀n,n<=ns.length->preSum (fun i=>ns.getD i 0) n=(ns.take n).sum
 |0,_=>by simp [preSum]
 |n+1,h=>by
  have hn:n<ns.length:=by lia
  rw[preSum,be ns n (by lia),D6,Jk hn,Option.toList_some,List.sum_append,JI,Jk hn]
  simp
theorem uf{B:Int}:∀{ns:List Int},(∀z∈ns,0<=z/\z<=B)->0<=ns.sum/\ns.sum<=ns.length*B
 | [],_=>⟨by simp,by simp⟩
 |n::r,h=>by
  have h1:=h n Jy;have h2:=uf (ns:=r) fun z hz=>h z (JE _ hz)
  rw[List.sum_cons,JQ];refine⟨by lia,?_⟩
  have:(((r.length+1:Nat):Int))*B=r.length*B+B:=by rw[Int.natCast_add,Int.add_mul];simp
  lia
section
variable{X:Cx}
theorem tX(hc:X.calm=true):ze X (.builtin "sum") (fun xs H Q=>∃(p:Δ) (ns:List Int),xs=[.ref p]/\Sq X.K H p (ns.map V.int)/\ns.length<=1000/\(∀z∈ns,0<=z/\z<=1000000)/\Q (.int ns.sum) H):=by
 intro tx s σ H xs us Q I r h;obtain⟨p,ns,rfl,hq,hl,hb,q⟩:=h;obtain⟨u,rfl,ru⟩:=zN r;cases ru;have bd:∀n,n<=ns.length->0<=preSum (fun i=>ns.getD i 0) n/\preSum (fun i=>ns.getD i 0) n<=1000000000:=fun n hn=>by
  rw[be ns n hn];have h1:=uf (B:=1000000) (ns:=ns.take n) fun z hz=>hb z (List.mem_of_mem_take hz)
  have h2:(ns.take n).length<=1000:=by rw[Ed];lia
  lia
 have fit:∀j,j<ns.length->InLong ((fun i=>ns.getD i 0) j)/\InLong (preSum (fun i=>ns.getD i 0) (j+1)):=fun j hj=>by
  have b1:=bd (j+1) (by lia)
  have b2:0<=ns.getD j 0/\ns.getD j 0<=1000000:=by
   rw[JI,Jk hj];exact hb _ (EB hj)
  unfold InLong;simp only
  lia
 have eS:preSum (fun i=>ns.getD i 0) ns.length=ns.sum:=by rw[be ns _ (Jf _),Ej]
 have val:∀{its:List Γ},F3 (ns.map V.int) its->∀(i:Nat) (v:Γ),its.toArray[i]? =some v->∃t,v= .int ((fun i=>ns.getD i 0) i) t:=fun{its} rv i v hv=>by
  have hv':its[i]? =some v:=by simpa using hv
  have hi:i<its.length:=(JH.mp hv').1
  obtain⟨x,ex,rx⟩:=Qi rv hi;obtain⟨z,rfl,hz⟩:=Qz ex;obtain⟨t,ht⟩:=rx;refine⟨t,?_⟩
  rw[(JH.mp hv').2]at ht;rw[ht]
  show Γ.int z t=Γ.int (ns.getD i 0) t
  rw[JI,hz];rfl
 rcases hq with hq|hq
 ·obtain⟨its,rv,pl,hz⟩:=I.list hq
  have hlen:ns.length=its.length:=by have:=rv.length;rwa [Je]at this
  have hlt:p<s.heap.objs.size:=by obtain⟨_,e,_⟩:=pl.isList;exact Ji e
  refine call_sum_walk (EO pl.isList ?_)
  refine⟨s.heap.objs.size,[s.heap.objs.size,p],[s.heap.objs.size],its.toArray.size,_,_,fun i=>ns.getD i 0,rfl,Walks.list (A:=X.A.in1) (I.ok.hd hc) _ p (Jo hlt) its.toArray,
   ⟨⟨_,Jp _ rfl,rfl,rfl⟩,pl.isList.push _⟩,fun b hb'=>?_,val rv,fun j hj=>fit j (by simp at hj;lia),fun h' tk t' hk=>?_⟩
  ·have sz:(s.heap.push {cls:= .type "list_iterator",data:= .fields #[.ref p,.int 0 0]}).objs.size=s.heap.objs.size+1:=JV ..
   simp only[Jl,Jx,JA]at hb'
   show b<(Ψ.push s.heap _).objs.size
   rw[JV];rcases hb' with rfl|rfl
   ·exact D3 _
   ·exact D9 hlt
  ·have e2:preSum (fun i=>ns.getD i 0) its.toArray.size=ns.sum:=by rw[Js,<- hlen];exact eS
   rw[e2];refine⟨.int _,H,I.kept (h':=h') (t':=tk) fun b o q=>hk b o (fun hm=>?_) (Jh _ q),⟨_,rfl⟩,q⟩
   rw[Jj.mp hm]at q;exact J1 _ (Ji q)
 ·obtain⟨its,rv,pl,hz⟩:=I.tuple hq
  have hlen:ns.length=its.length:=by have:=rv.length;rwa [Je]at this
  have hT:s.heap.IsTuple p its.toArray:=pl
  have hlt:p<s.heap.objs.size:=by obtain⟨_,e,_⟩:=hT;exact Ji e
  refine call_sum_walk (Ex hT ?_)
  refine⟨s.heap.objs.size,[s.heap.objs.size,p],[s.heap.objs.size],its.toArray.size,_,_,fun i=>ns.getD i 0,rfl,Walks.tuple (A:=X.A.in1) (I.ok.hd hc) _ p (Jo hlt) its.toArray,
   ⟨⟨_,Jp _ rfl,rfl,rfl⟩,let⟨o,e,r⟩:=hT;⟨o,Jh _ e,r⟩⟩,fun b hb'=>?_,val rv,fun j hj=>fit j (by simp at hj;lia),fun h' tk t' hk=>?_⟩
  ·simp only[Jl,Jx,JA]at hb'
   show b<(Ψ.push s.heap _).objs.size
   rw[JV];rcases hb' with rfl|rfl
   ·exact D3 _
   ·exact D9 hlt
  ·have e2:preSum (fun i=>ns.getD i 0) its.toArray.size=ns.sum:=by rw[Js,<- hlen];exact eS
   rw[e2];refine⟨.int _,H,I.kept (h':=h') (t':=tk) fun b o q=>hk b o (fun hm=>?_) (Jh _ q),⟨_,rfl⟩,q⟩
   rw[Jj.mp hm]at q;exact J1 _ (Ji q)
end
end L3
namespace L3
open PySem PySem.Spec PyProof.Rows L2
section
variable{X:Cx}
theorem ww:uY X (fun x y H Q=>∃(p:Δ) (xs:List V) (i:Nat) (v:V),x= .ref p/\y= .int (i:Int)/\H p=some (.lst xs)/\xs[i]? =some v/\Q v H):=by
 intro tx s σ H o i ov iv Q I r1 r2 h;obtain⟨p,xs,j,v,rfl,rfl,hH,hv,q⟩:=h;cases r1;obtain⟨t,rfl⟩:=r2;obtain⟨its,r,pl,hz⟩:=I.list (F6.of hH)
 obtain⟨u,hu,ru⟩:=r.get hv;have hl:=r.length;have hn:=ZY;have hj:j<xs.length:=(JH.mp hv).1
 exact wpAny_getItem_list pl.isList (by lia) (by lia) (by simpa using hu) ⟨v,H,I,ru,q⟩
end
def QQ(z:Str):Prop:=(∀c∈z.cps.toList,97<=c/\c<=122)/\1<=z.cps.toList.length/\z.cps.toList.length<=8
theorem lf{z:Str}(h:QQ z):z.cps.all (· <128)=true:=by
 rw[Array.all_eq_true'];intro c hc
 have:=h.1 c (by simpa using hc)
 simp;lia
def vj(c:Nat):List Int:=[((c:Int)-97)%16,((c:Int)-97)/16]
def Q0(cs:List Nat):List Int:=cs.flatMap vj
theorem uF(cs:List Nat)(c:Nat):Q0 (cs++[c])=Q0 cs++vj c:=by simp [Q0]
theorem jP(cs:List Nat):(Q0 cs).length=2*cs.length:=by
 induction cs with
 |nil=>rfl
 |cons c r ih=>simp only[Q0,List.flatMap_cons,Jw,JQ]at ih⊢;rw[ih];simp [vj];lia
def iD(ds:List Int)(j:Nat):Nat->Int
 |0=>0
 |n+1=>iD ds j n+if n%4=j then ds.getD n 0 else 0
def ZR(ds:List Int)(n:Nat):List Int:=[iD ds 0 n,iD ds 1 n,iD ds 2 n,iD ds 3 n]
theorem tS(ds:List Int)(n:Nat):(ZR ds n).set (n%4) ((ZR ds n).getD (n%4) 0+ds.getD n 0)=ZR ds (n+1):=by
 have h:n%4=0\/n%4=1\/n%4=2\/n%4=3:=by lia
 rcases h with h|h|h|h<;>simp [ZR,iD,h]
def bf(ds:List Int):List Int:=(ZR ds ds.length).map (· %16)
theorem lX(ds:List Int):(bf ds).length=4:=rfl
def jK:Sp:=fun vs H Q _=>∃z,vs=[.str z]/\QQ z/\∀l H',FV H H'->H l=none->H' l=some (.lst ((Q0 z.cps.toList).map V.int))->Q (.ref l) H'
def iA(K:ι):Sp:=fun vs H Q _=>∃(a b:Δ) (z:Str) (t ks:List Int),vs=[.ref a,.ref b,.str z]/\Sq K H a (t.map V.int)/\Sq K H b (ks.map V.int)/\QQ z/\t.length=16/\
 ∀p H',FV H H'->H p=none->H' p=some (.tup ((QB t ks (bf (Q0 z.cps.toList))).map V.int))->Q (.ref p) H'
theorem AG{cs:List Nat}{i c:Nat}(h:cs[i]? =some c):cs.take (i+1)=cs.take i++[c]:=by rw[D6,h];rfl
theorem oo{z:Str}{i c:Nat}(h:z.cps[i]? =some c):z.cps.toList[i]? =some c:=by simpa using h
theorem vd{X:Cx}{scope:Scope}{y z:Str}{j k:Nat}(kind:scope.kind= .function)(names:∀x∈scope.names,x.2= .local->scope.names.lookup x.1=some .local)(nocell:∀x∈scope.names,x.2≠ .cell)
  (free:∀x∈scope.names,x.2= .free->x.1∈([y,z]:List Str))(h1:X.N[j]? =some y)(h2:X.env.kindOf y=some .cell)(h3:(relabel scope X.env).names.lookup y=some .cell)
  (g1:X.N[k]? =some z)(g2:X.env.kindOf z=some .cell)(g3:(relabel scope X.env).names.lookup z=some .cell):GN X scope [y,z] [j,k]:=
 ⟨kind,names,nocell,free,rfl,fun i j' y' e1 e2=>by
  match i with
  |0=>cases e1;cases e2;exact⟨h1,h2,h3⟩
  |1=>cases e1;cases e2;exact⟨g1,g2,g3⟩
  |i+2=>simp at e1⟩
theorem vX{X:Cx}{y z:Str}{c d:Δ}(h:X.env.cells.lookup y=some c)(g:X.env.cells.lookup z=some d):∀u e,([(y,c),(z,d)]:List (Str×Δ)).lookup u=some e->X.env.cells.lookup u=some e:=fun u e he=>by
 by_cases hu:u=y
 ·subst hu
  simp at he
  rw[<- he];exact h
 ·by_cases hv:u=z
  ·subst hv
   simp [DX,show(u==y)=false from by simpa using hu]at he
   rw[<- he];exact g
  ·simp [DX,show(u==y)=false from by simpa using hu,show(u==z)=false from by simpa using hv]at he
end L3
namespace L3
open PySem PySem.Spec PyProof.Rows L2
open Sem (wp)
section
variable{prog:Ξ}{w:Ω}{A:Around}{E:FS}{s:Θ}
theorem gY{it t:Δ}{items:Array Γ}(hne:t≠it):∀(n i:Nat) (s:Θ) (Q:List Γ->Θ->Prop),s.heap.IsListIter it t i->s.heap.IsList t items->i+n<=items.size->
  (∀h',h'.IsListIter it t (i+n)->Ψ.SameBut it s.heap h'->Q ((items.toList.drop i).take n) {s with heap:=h'})->ε (model prog w) A (draw (.ref it) n) Q E s
 |0,i,s,Q,hit,_,_,hQ=>by
  show ε _ _ (pure []) Q E s
  refine Jd ?_
  have:=hQ s.heap hit (Ψ.SameBut.refl ..)
  simpa using this
 |n+1,i,s,Q,hit,ht,hle,hQ=>by
  have hlt:i<items.size:=by lia
  show ε _ _ (pyNext (.ref it) >>= _) Q E s
  refine Ja (wpAny_pyNext_list_item hit ht (x:=items[i]) (by simp [hlt]) fun h₁ hit₁ hs₁=>?_)
  have ht1:(Θ.heap {s with heap:=h₁}).IsList t items:=let⟨o,e,r⟩:=ht;⟨o,hs₁.extBut _ _ hne e,r⟩
  refine Ja (JM (gY hne n (i+1) _ _ hit₁ ht1 (by lia) fun h₂ hit₂ hs₂=>Jd ?_))
  have hd:items.toList.drop i=items[i]::items.toList.drop (i+1):=by simp [List.drop_eq_getElem_cons,hlt]
  have z:=hQ h₂ (by rw[show i+(n+1)=i+1+n by lia];exact hit₂) (hs₁.trans hs₂)
  rw[hd,List.take_succ_cons]at z;exact z
theorem kK{t:Δ}{items:Array Γ}{targets:List (Bool×(Γ->Sem Unit))}{Q:Unit->Θ->Prop}(hh:A.handled=none)(ht:s.heap.IsList t items)
  (hn:targets.length=items.size)(hstar:targets.findIdx? (·.1)=none)
  (h:∀h',Ψ.ExtBut s.heap.objs.size s.heap h'->ε (model prog w) A (assignInOrder (targets.map (·.2)) items.toList) Q E {s with heap:=h'}):
  ε (model prog w) A (unpack (.ref t) targets) Q E s:=by
 have hlt:t≠s.heap.objs.size:=by obtain⟨o,ho,_⟩:=ht;exact Jo (Ji ho)
 unfold unpack;rw[hn,hstar];refine Ja (JM ?_)
 unfold unpackItems;refine Ja ?_
 unfold notIterableAtAll;refine Ja (EM ht.typeIs F.slot_list_iter.lookup ?_)
 refine Jd ?_
 simp only[Bool.false_eq_true,JD];refine Ja (JM (EO ht ?_))
 refine Ja (JM (gY hlt items.size 0 _ _ ⟨_,Jp _ rfl,rfl,rfl⟩ (ht.push _) (by lia) fun h₁ hit₁ hs₁=>?_))
 have hall:List.take items.size (List.drop 0 items.toList)=items.toList:=by
  rw[List.drop_zero];exact List.take_of_length_le (by simp)
 rw[hall];rw[Jb (by simp)]
 have ht₁:h₁.IsList t items:=let⟨o,e,r⟩:=ht.push _;⟨o,hs₁.extBut _ _ hlt e,r⟩
 refine Ja (JM (wpAny_pyNext_list_end hh hit₁ ht₁ (by simp) fun h₂ he₂=>?_))
 simp only[Option.isSome_none,Bool.false_eq_true,JD];exact Jd (h h₂ fun b o hb e=>he₂ b o hb (hs₁.extBut b o hb (Jh _ e)))
end
section
variable{X:Cx}{pos:Pos}
def AM(K:ι)(n:Nat)(t:aX):TG:=fun v σ H Q=>∃a xs,v= .ref a/\Sq K H a xs/\xs.length=n/\t xs σ H Q
theorem AX{es:List Φ}{k:Nat}{t:aX}{n:Nat}(hc:X.calm=true)(h:oR X es t)
  (hn:(assignEach es X.env).length=n:=by rfl)(hst:(assignEach es X.env).findIdx? (·.1)=none:=by rfl):PG X (.Tuple es k pos) (AM X.K n t):=by
 intro tx s σ H v u Q I r hw;obtain⟨a,xs,e1,hq,hl,hw⟩:=hw;rcases hq with hq|hq
 ·subst e1
  cases r;obtain⟨its,rv,ht,hz⟩:=I.list hq;rw[assign_Tuple];refine Ja (D7 (kK (I.ok.hd hc) ht.isList (by simp [hn,<- hl,rv.length]) hst fun h' hx=>?_))
  have I1:L2.FY X tx σ H {s with heap:=h'}:=I.kept (t':=s.toks) fun b o e=>hx b o (Jo (Ji e)) e
  exact h tx _ σ H xs _ Q I1 (by simpa using rv) hw
 ·exact kQ hc h hn hst tx s σ H v u Q I r ⟨a,xs,e1,hq,hl,hw⟩
theorem zu{es:List Φ}{k:Nat}{t:aX}{n:Nat}(hc:X.calm=true)(h:IP X es t)
  (hn:(assignEach es X.env).length=n:=by rfl)(hst:(assignEach es X.env).findIdx? (·.1)=none:=by rfl):QG X (.Tuple es k pos) (AM X.K n t):=⟨AX hc h.h hn hst⟩
end
end L3
namespace L3
open PySem PySem.Spec PyProof.Rows L2
def Z6(c d:Int):List Int:=[c%16,c/16%16,c/256,d]
def ab(c d:Int):List Int:=Z6 c d++[(Z6 c d).sum%16]
def hX(t ks:List Int)(z:Str):List Int:=QB t ks (bf (Q0 z.cps.toList))
def cq(t ks:List Int)(z:Str)(c d:Int):List Int:=QB t (hX t ks z) (ab c d)
def kh(r:List Int):Option (Int×Int):=if r.getD 4 0=(r.getD 0 0+r.getD 1 0+r.getD 2 0+r.getD 3 0)%16 then some (r.getD 0 0+r.getD 1 0*16+r.getD 2 0*256,r.getD 3 0)else none
def Zl(t ks:List Int)(z:Str)(ds:List Int):Option (Int×Int):=kh (Q5 (zA t) (hX t ks z) ds)
theorem b9(c d:Int):(ab c d).length=5:=rfl
theorem vO(c d:Int):(Z6 c d).sum=c%16+c/16%16+c/256+d:=by simp [Z6];lia
theorem fN{c d:Int}(h0:0<=c)(h1:c<4096)(hd:aU d):zy (ab c d):=fun x hx=>by
 simp only[ab,Z6,List.cons_append,List.nil_append,Jl,Jx,JA]at hx;rcases hx with rfl|rfl|rfl|rfl|rfl
 ·exact am _
 ·exact am _
 ·exact⟨by lia,by lia⟩
 ·exact hd
 ·exact am _
theorem sY{c d:Int}(h0:0<=c)(h1:c<4096):kh (ab c d)=some (c,d):=by
 have e:(ab c d)=[c%16,c/16%16,c/256,d,(c%16+c/16%16+c/256+d)%16]:=by unfold ab;rw[vO];rfl
 unfold kh;rw[e]
 show(if(c%16+c/16%16+c/256+d)%16=(c%16+c/16%16+c/256+d)%16 then some (c%16+c/16%16*16+c/256*256,d)else none)=_
 rw[Jc rfl,show c%16+c/16%16*16+c/256*256=c by lia]
theorem yQ{r:List Int}(hl:r.length=5):∃a b c d e:Int,r=[a,b,c,d,e]:=by
 match r,hl with
 | [a,b,c,d,e],_=>exact⟨a,b,c,d,e,rfl⟩
theorem sO(t ks:List Int)(z:Str)(c d:Int):(cq t ks z c d).length=5:=by unfold cq;rw[bY,b9]
theorem vE{t ks:List Int}(p:t.Perm Gx){z:Str}{c d:Int}(h0:0<=c)(h1:c<4096)(hd:aU d):zy (cq t ks z c d):=lm p (fN h0 h1 hd)
theorem jt{t ks:List Int}(p:t.Perm Gx){z:Str}{c d:Int}(h0:0<=c)(h1:c<4096)(hd:aU d):Zl t ks z (cq t ks z c d)=some (c,d):=by
 unfold Zl cq;rw[mF p (fN h0 h1 hd) (by rw[b9];decide),sY h0 h1]
def c9(H:Hp)(x:V):Option (Int×Int)->Prop
 |none=>x= .non
 |some (c,d)=>∃p,x= .ref p/\H p=some (.tup [.int c,.int d])
def Cw:Sp:=fun vs H Q _=>∃c:Int,vs=[.int c]/\∀p H',FV H H'->H' p=some (.tup [.int (c%16),.int (c/16%16),.int (c/256)])->Q (.ref p) H'
def n6(K:ι):Sp:=fun vs H Q _=>∃(a b:Δ) (z:Str) (age c d:Int) (t ks:List Int),vs=[.ref a,.ref b,.str z,.int age,.int c,.int d]/\Sq K H a (t.map V.int)/\Sq K H b (ks.map V.int)/\QQ z/\t.length=16/\0<=c/\c<4096/\aU d/\
 ∀p pc H',FV H H'->H' p=some (.tup [.str z,.int age,.ref pc])->H' pc=some (.tup ((cq t ks z c d).map V.int))->Q (.ref p) H'
def kq(K:ι):Sp:=fun vs H Q _=>∃(a b pr pc:Δ) (z:Str) (age:Int) (t ks ds:List Int),vs=[.ref a,.ref b,.ref pr]/\Sq K H a (t.map V.int)/\Sq K H b (ks.map V.int)/\Sq K H pr [.str z,.int age,.ref pc]/\Sq K H pc (ds.map V.int)/\QQ z/\t.Perm Gx/\ds.length=5/\zy ds/\
 ∀x H',FV H H'->c9 H' x (Zl t ks z ds)->Q x H'
theorem sW{X:Cx}{pos:Pos}{i j:Nat}{x y:Str}{a b:Φ}{ta:TA}{px py pt:Pos}{kt k2 pt2}(hc:X.calm=true)(hN:X.N.Nodup)(hi:X.N[i]? =some x)(hj:X.N[j]? =some y)(hij:i≠j)
  (hx:X.env.scope.names.lookup x=some .local)(hy:X.env.scope.names.lookup y=some .local)(ha:QA X [a,b] ta)
  (hw:swappedStores [.Tuple [.Name x px,.Name y py] kt pt] (.Tuple [a,b] k2 pt2) X.env=pure (some [x,y]):=by rfl)
  (hs:swapsWithSole [.Tuple [.Name x px,.Name y py] kt pt] (.Tuple [a,b] k2 pt2) pos.line X.env=pure false:=by rfl):
  QS X (.Assign [.Tuple [.Name x px,.Name y py] kt pt] (.Tuple [a,b] k2 pt2) pos) (Co i j ta):=⟨B9 hc hN hi hj hij hx hy ha.h hw hs⟩
def bq(K:ι)(H:Hp)(a:Δ)(f:Str)(v:V):Prop:=∃C dx fs,H a=some (.ins C dx fs)/\Ih K C/\Gk K C f/\fs.lookup f=some v
def ko(K:ι)(H:Hp)(a:Δ)(f:Str)(v:V)(H':Hp):Prop:=∃C dx fs,H a=some (.ins C dx fs)/\Ih K C/\Gk K C f/\fs.length<1000/\H'=F2 H a (.ins C dx (Qj f v fs))
def C2(C:Δ)(H:Hp)(a:Δ)(m:Str):Prop:=∃dx fs,H a=some (.ins C dx fs)/\fs.lookup m=none
def xb(K:ι)(ta:TE)(f:Str):TE:=fun σ H Q=>ta σ H fun x H1=>∃a v,x= .ref a/\bq K H1 a f v/\Q v H1
def CT(K:ι)(ta tv:TE)(f:Str):TS:=fun D σ H=>tv σ H fun y H1=>ta σ H1 fun x H2=>∃a H3,x= .ref a/\ko K H2 a f y H3/\D.nx σ H3
def tz(C:Δ)(m:Str)(sp:Sp)(ta:TE)(t:TA):TE:=fun σ H Q=>ta σ H fun x H1=>∃a,x= .ref a/\C2 C H1 a m/\t σ H1 fun vs H2=>sp (x::(vs++[])) H2 Q E0
section
variable{X:Cx}{o e value:Φ}{f:Str}{pos pos':Pos}{ta tv:TE}
theorem qY(he:QE X e ta)(hb:attributeBase e f X.env (eval e X.env)=eval e X.env:=by rfl):QE X (.Attribute e f pos) (xb X.K ta f):=⟨by
 intro tx s σ H Q I h;refine Am hb (qB (he.h tx s σ H _ I h) fun u s1 zq=>?_)
 obtain⟨x,H1,I1,rx,a,v,ex,⟨C,dx,fs,ea,c,n,l⟩,q⟩:=zq;subst ex
 obtain rfl:u=Γ.ref a:=rx
 exact rG I1 ea c n l fun u' s2 I2 ru=>⟨v,H1,I2,ru,q⟩⟩
theorem zM(ha:QE X o ta)(hv:QE X value tv)(hs:swapsWith value (some (.Attribute o f pos')) pos.line X.env=pure false:=by rfl):QS X (.Assign [.Attribute o f pos'] value pos) (CT X.K ta tv f):=⟨by
 intro tx s σ H D I h;refine plainObj_wpAny_Assign_Attribute (qB (hv.h tx s σ H _ I h) fun u s1 ⟨y,H1,I1,ry,q⟩=>qB (ha.h tx s1 σ H1 _ I1 q) fun ov s2 zq=>?_) hs
 obtain⟨x,H2,I2,rx,a,H3,ex,⟨C,dx,fs,ea,c,n,l,e3⟩,q2⟩:=zq;subst ex e3
 obtain rfl:ov=Γ.ref a:=rx
 exact rf I2 ea c n l ry fun s3 I3=>⟨σ,_,I3,q2⟩⟩
end
structure Mf(P:Ξ)(w:Ω)(K:ι)(mg:FT)(base:Ψ)(C:Δ)(m:Str)(ps:List Str)(k:Nat)(sp:Sp):Prop where
 ex:∃(f:Δ) (fd:FuncData),Ht P w K mg base aF k f fd ps sp/\Iz K C m f/\GU K fd ps []
structure HQ(K:ι)(C:Δ)(m Ld:Str)(st:δ)(ps:List Str):Prop where
 ex:∃(f:Δ) (fd:FuncData),Ii K m Ld st f fd/\Iz K C m f/\GU K fd ps []
structure Mi(P:Ξ)(w:Ω)(K:ι)(mg:FT)(base:Ψ)(C:Δ)(x:Str)(ps:List Str)(k:Nat)(sp:Sp):Prop where
 ex:∃(f:Δ) (fd:FuncData),Ht P w K mg base aF k f fd ps sp/\Mk K C f/\mg x=some (.ref C)/\GU K fd ps []
section
variable{P:Ξ}{w:Ω}{K:ι}{mg:FT}{base:Ψ}{C:Δ}
theorem HQ.mq{m Ld:Str}{st:δ}{ps N:List Str}{k:Nat}{sp:Sp}(a:HQ K C m Ld st ps)(S:FW N ps (qh st))
  (hbody:∀(f:Δ) (cdv:Γ) (A:Around) (outer:List Env) (s:Θ) (H:Hp) (vs:List V) (Q:VK) (E:XK),Gg k (A.deeper (envOfC Ld (qh st) s.heap.objs.size f cdv))->sp vs H Q E->
   ∃t,Io (bg aF P w K mg base N Ld (qh st) f cdv A outer s H E).nox (zF st) t/\t {nx:=fun _ H'=>Q .non H',rt:=Q} (QZ N vs) H)(len:∀vs H Q E,sp vs H Q E->vs.length=ps.length:=by intro vs H Q E h;(repeat first|obtain⟨rfl,h⟩:=h|obtain⟨_,h⟩:=h);all_goals rfl):Mf P w K mg base C m ps (k+1) sp:=by
 obtain⟨f,fd,F,m,bd⟩:=a.ex
 exact⟨f,fd,F.ok S len (fun cdv A outer s H vs Q E hr h=>let⟨t,q1,q2⟩:=hbody f cdv A outer s H vs Q E hr h;⟨t,q1.h,q2⟩),m,bd⟩
theorem Mf.mi{x:Str}{ps:List Str}{k:Nat}{sp:Sp}(a:Mf P w K mg base C "__init__" ps k sp)(mk:W.makesIn K C=true)(kc:W.keepIn K (.ref C)=true)(hx:mg x=some (.ref C)):Mi P w K mg base C x ps k sp:=
 let⟨f,fd,F,m,bd⟩:=a.ex;⟨f,fd,F,⟨mk,m.at_,m.fn,kc⟩,hx,bd⟩
end
section
variable{X:Cx}{C:Δ}{x m:Str}{ps:List Str}{k:Nat}{sp:Sp}{o e:Φ}{es:List Φ}{p pos apos:Pos}{ta:TE}{t:TA}
theorem qZ{pl:Sem Bool}(M:Mf X.prog X.w X.K X.mg X.base C m ps k sp)(c:Ih X.K C)(hr:Gg k X.A)(he:QE X o ta)(ha:QA X (e::es) t)
  (hst:θ (e::es) X.env=(false,eval e X.env)::θ es X.env:=by rfl)(hpl:(backTo pos (θ es X.env)).any (·.1)=false:=by rfl)
  (ht:eval (.Call (.Attribute o m apos) (e::es) [] pos) X.env=(do
   let ov <- eval o X.env
   standAt apos.atName
   let(f,first) <- holding [ov] (getMethod ov m pl)
   callWith pos f first (backTo pos (θ (e::es) X.env)) (backToKw pos (keywordEach [] X.env))):=by rfl):
  QE X (.Call (.Attribute o m apos) (e::es) [] pos) (tz C m sp ta t):=⟨by
 obtain⟨f,fd,F,hm,hb⟩:=M.ex;intro tx s σ H Q I h;refine W.methodCall_KW (pl:=pl) (qB (he.h tx s σ H _ I h) fun u s1 zq=>?_) ht
 obtain⟨x,H1,I1,rx,a,ex,⟨dx,fs,ea,l⟩,q⟩:=zq;subst ex
 obtain rfl:u=Γ.ref a:=rx
 refine gq I1 ea c hm l ?_
 refine W.callWith_K (first:=[.ref a]) (h₀:=X.base) I.ok.mod.kin hm.kp (qB (ha.h pos tx s1 σ H1 _ I1 q) fun us s2 ⟨vs,H2,I2,r,q2⟩=>⟨I2.kIn,?_⟩) hst hpl
 exact kD (us:= .ref a::us) (vs:= .ref a::vs) F hr hb .nil kg I2 (.cons rfl r) q2⟩
theorem Q7{pl:Sem Bool}(M:Mf X.prog X.w X.K X.mg X.base C m ps k sp)(c:Ih X.K C)(hr:Gg k X.A)(he:QE X o ta)
  (ht:eval (.Call (.Attribute o m apos) [] [] pos) X.env=(do
   let ov <- eval o X.env
   standAt apos.atName
   let(f,first) <- holding [ov] (getMethod ov m pl)
   callWith pos f first (backTo pos (θ [] X.env)) (backToKw pos (keywordEach [] X.env))):=by rfl):
  QE X (.Call (.Attribute o m apos) [] [] pos) (tz C m sp ta uO):=⟨by
 obtain⟨f,fd,F,hm,hb⟩:=M.ex;intro tx s σ H Q I h;refine W.methodCall_KW (pl:=pl) (qB (he.h tx s σ H _ I h) fun u s1 zq=>?_) ht
 obtain⟨x,H1,I1,rx,a,ex,⟨dx,fs,ea,l⟩,q⟩:=zq;subst ex
 obtain rfl:u=Γ.ref a:=rx
 refine gq I1 ea c hm l ?_
 exact W.callWith_K0 (first:=[.ref a]) I1.kIn hm.kp (kD (us:=[.ref a]) (vs:=[.ref a]) F hr hb .nil kg I1 (.cons rfl .nil) q)⟩
theorem oI(M:Mi X.prog X.w X.K X.mg X.base C x ps k sp)(hr:Gg (k+1) X.A)(ha:QA X (e::es) t)(hg:Gl X x:=by rfl)(hdb:(x==("__debug__":Str))=false:=by decide)
  (he:θ (e::es) X.env=(false,eval e X.env)::θ es X.env:=by rfl)(hpl:(backTo pos (θ es X.env)).any (·.1)=false:=by rfl):
  QE X (.Call (.Name x p) (e::es) [] pos) (xx C sp [] E0 t):=⟨by
 obtain⟨f,fd,F,mk,hx,hb⟩:=M.ex;exact yT mk F hr hg hx hb .nil kg ha.h hdb he hpl⟩
end
section
variable{X:Cx}{o e:Φ}{es:List Φ}{to:TE}{t:TA}{name:Str}{apos cpos:Pos}{T id:String}{r:V->List V->Hp->VK->Prop}{K:ι}
theorem Bx(hK:X.K=K)(pa:PlainAttrs T)(slot:Slot T name id)(hty:typeOf (.builtin id)=pure (.type "method_descriptor"))(hm:tN X id r)(ho:QE X o to)(ha:QA X (e::es) t)
  (hbase:attributeBase o name X.env (eval o X.env)=eval o X.env:=by rfl)
  (hfew:((backTo cpos (θ (e::es) X.env)).all (fun x=> !x.1)&&(backToKw cpos (keywordEach [] X.env)).all (fun x=>x.1.isSome)
   &&decide ((e::es).length+([]:List Keyword).length+(if([]:List Keyword).isEmpty then 0 else 1)<30))=true:=by rfl)
  (hline:(apos.endLine==cpos.line)=true:=by rfl)(hs:θ (e::es) X.env=(false,eval e X.env)::θ es X.env:=by rfl)(hplain:(backTo cpos (θ es X.env)).any (·.1)=false:=by rfl):
  QE X (.Call (.Attribute o name apos) (e::es) [] cpos) (Bf K T r to t):=by
 subst hK;exact aa pa slot hty hm ho ha hbase hfew hline hs hplain
theorem vR:tN X "list.pop" tK:=vx
end
theorem ja{f:Str}{v:V}:∀{fs:List (Str×V)} (i:Nat),fs[i]? =some (f,v)->(fs.map (·.1)).Nodup->fs.lookup f=some v
 | [],i,h,_=>by cases h
 |(g,x)::r,0,h,_=>by
  cases JB h
  exact List.lookup_cons_self
 |(g,x)::r,i+1,h,nd=>by
  have h':r[i]? =some (f,v):=h
  have nd':g∉r.map (·.1)/\(r.map (·.1)).Nodup:=DT.mp nd
  have hm:f∈r.map (·.1):=Ju.mpr ⟨(f,v),DU h',rfl⟩
  have ne:f≠g:=fun z=>nd'.1 (z▸hm)
  rw[DX,EZ ne];exact ja i h' nd'.2
theorem jQ{f:Str}:∀{fs:List (Str×V)},f∉fs.map (·.1)->fs.lookup f=none
 | [],_=>rfl
 |(g,x)::r,h=>by
  have ne:f≠g:=fun z=>h (z▸Jy ..)
  rw[DX,EZ ne];exact jQ fun z=>h (JE _ z)
theorem nW{f:Str}{v u:V}:∀{fs:List (Str×V)} (i:Nat),fs[i]? =some (f,u)->(fs.map (·.1)).Nodup->Qj f v fs=fs.set i (f,v)
 | [],i,h,_=>by cases h
 |(g,x)::r,0,h,_=>by
  cases JB h
  show(if f=f then _ else _)=_
  rw[Jc rfl];rfl
 |(g,x)::r,i+1,h,nd=>by
  have h':r[i]? =some (f,u):=h
  have nd':g∉r.map (·.1)/\(r.map (·.1)).Nodup:=DT.mp nd
  have hm:f∈r.map (·.1):=Ju.mpr ⟨(f,u),DU h',rfl⟩
  have ne:¬g=f:=fun z=>nd'.1 (z▸hm)
  show(if g=f then _ else(g,x)::Qj f v r)=_
  rw[Jb ne,nW i h' nd'.2];rfl
theorem lS{f:Str}{v:V}:∀{fs:List (Str×V)},f∉fs.map (·.1)->Qj f v fs=fs++[(f,v)]
 | [],_=>rfl
 |(g,x)::r,h=>by
  have ne:¬g=f:=fun z=>h (z▸Jy ..)
  show(if g=f then _ else(g,x)::Qj f v r)=_
  rw[Jb ne,lS fun z=>h (JE _ z)];rfl
def Mv(S:List Δ)(H H':Hp):Prop:=∀c o,c∉S->H c=some o->H' c=some o
theorem Mv.trans{S:List Δ}{H H1 H2:Hp}(a:Mv S H H1)(b:Mv S H1 H2):Mv S H H2:=fun c o n e=>b c o n (a c o n e)
theorem Mv.mono{S S':List Δ}{H H':Hp}(a:Mv S H H')(h:∀c,c∉S'->c∉S):Mv S' H H':=fun c o n e=>a c o (h c n) e
theorem _root_.L2.FV.mv{S:List Δ}{H H':Hp}(a:FV H H'):Mv S H H':=fun c o _ e=>a c o e
theorem Mv.upd1{a:Δ}{H:Hp}{o:HO}:Mv [a] H (F2 H a o):=fun c u n e=>by
 rw[qi (fun z=>n (Jj.mpr z))];exact e
theorem HI.mv{b:Δ}{n:Nat}{H H':Hp}(g:HI b n H H'):Mv [b] H H':=fun c o h e=>g.kp c o (fun z=>h (Jj.mpr z)) e
def wL:HO->Prop
 | .tup _=>False
 | .frz _ (.dK _)=>True
 | .frz _ _=>False
 |_=>True
def NT(S:List Δ)(H:Hp):Prop:=∀c,c∈S->∃o,H c=some o/\wL o
theorem Mv.rd{S:List Δ}{H H':Hp}{a:Δ}{xs:List V}(m:Mv S H H')(n:NT S H)(h:Rd H a (.tup xs)):Rd H' a (.tup xs):=by
 have hn:a∉S:=fun z=>by
  obtain⟨o,e,no⟩:=n a z;rcases h with h|⟨o',h⟩
  ·rw[e]at h;cases h;exact no
  ·rw[e]at h;cases h;exact no
 rcases h with h|⟨o',h⟩
 ·exact .inl (m _ _ hn h)
 ·exact .inr ⟨o',m _ _ hn h⟩
theorem Mv.sqt{K:ι}{S:List Δ}{H H':Hp}{a:Δ}{xs:List V}(m:Mv S H H')(n:NT S H)(h:F7 K H a xs):F7 K H' a xs:=by
 rcases h with h|h
 ·exact .inl (m.rd n h)
 ·exact .inr h
def fQ:Sp:=fun vs H Q _=>∃(b:Δ) (c:Nat),vs=[.ref b]/\GS H b c/\c<100000000/\∀p (t:List Int) H',HI b (c+16) H H'->H p=none->H' p=some (.tup (t.map V.int))->t.Perm Gx->Q (.ref p) H'
def ia:Sp:=fun vs H Q _=>∃(b:Δ) (c:Nat),vs=[.ref b]/\GS H b c/\c<100000000/\∀p (ks:List Int) H',HI b (c+9) H H'->H p=none->H' p=some (.tup (ks.map V.int))->zy ks->1<=ks.length->ks.length<=8->Q (.ref p) H'
theorem HI.fresh{b c:Δ}{n:Nat}{H H':Hp}(g:HI b n H H')(hb:GS H b n)(h:H' c=Option.none):H c=Option.none:=by
 cases e:H c with
 |none=>rfl
 |some o=>
  by_cases z:c=b
  ·subst z
   obtain⟨_,_,_,e',_⟩:=g.bx;rw[e']at h;cases h
  ·rw[g.kp c o z e]at h;cases h
theorem vp{K:ι}{H:Hp}{a:Δ}{xs:List V}{Q:VK}(h:Sq K H a xs)(q:∀l H',FV H H'->F7 K H' l xs->Q (.ref l) H'):(F6 K H a xs/\∀l,H l=none->Q (.ref l) (F2 H l (.tup xs)))\/(F7 K H a xs/\Q (.ref a) H):=
 h.elim (fun h=> .inl ⟨h,fun l hl=>q l _ (FV.upd hl) (F7.of qb)⟩) fun h=> .inr ⟨h,q a H (FV.refl _) h⟩
theorem eM{K:ι}{C p dx a:Δ}{H:Hp}{fs:List (Str×V)}{xs:List V}{o:HO}(e:H p=some (.ins C dx fs))(h:F7 K H a xs):F7 K (F2 H p o) a xs:=by
 rcases h with(h|⟨u,h⟩)|h
 ·exact .inl (.inl (by rw[qi (Qe h e (by intro z;cases z))];exact h))
 ·exact .inl (.inr ⟨u,by rw[qi (Qe h e (by intro z;cases z))];exact h⟩)
 ·exact .inr h
theorem jY{X:Cx}{K:ι}(hK:X.K=K):ze X (.builtin "len") (fun xs H Q=>∃p ys,xs=[.ref p]/\(F6 K H p ys\/F7 K H p ys)/\Q (.int (ys.length:Nat)) H):=by
 subst hK;exact zm
theorem lw{k n:Nat}(h:k<n):seqIndex? (k:Int) n=some k:=by
 unfold seqIndex?
 simp
 omega
theorem wj{ms zs:List Int}{k:Nat}(h:k<ms.length):(zs++[ms[k]]++ms.eraseIdx k).Perm (zs++ms):=by
 rw[Ee];refine List.Perm.append_left zs ?_
 rw[List.eraseIdx_eq_take_drop_succ];have e:ms=ms.take k++ms[k]::ms.drop (k+1):=by rw[<- List.drop_eq_getElem_cons h,List.take_append_drop]
 refine List.Perm.trans (List.perm_middle (a:=ms[k]) (l₁:=ms.take k) (l₂:=ms.drop (k+1))).symm ?_
 rw[<- e]
theorem rc(ms:List Int)(k:Nat):(ms.map V.int).eraseIdx k=(ms.eraseIdx k).map V.int:=by
 rw[List.eraseIdx_eq_take_drop_succ,List.eraseIdx_eq_take_drop_succ,JW,List.map_take,List.map_drop]
theorem bm{X:Cx}:ze X (.type "tuple") (fun xs H Q=>∃p ys,xs=[.ref p]/\Sq X.K H p ys/\∀l H',FV H H'->F7 X.K H' l ys->Q (.ref l) H'):=by
 intro tx s σ H xs us Q I r h;obtain⟨p,ys,e,hs,q⟩:=h;exact qX tx s σ H xs us Q I r ⟨p,ys,e,vp hs q⟩
section
variable{H:Hp}{b:Δ}{n:Nat}
theorem zf{a x:Δ}(h:a≠x):a∉[x]:=fun z=>h (Jj.mp z)
theorem zV(hb:GS H b n):NT [b] H:=fun c hc=>by
 obtain⟨_,_,_,e,_⟩:=hb;rw[Jj.mp hc]
 exact⟨_,e,trivial⟩
end
theorem GS.mv{H H':Hp}{S:List Δ}{b:Δ}{n:Nat}(h:GS H b n)(m:Mv S H H')(ne:b∉S):GS H' b n:=by
 obtain⟨a1,a2,a3,e,r⟩:=h
 exact⟨a1,a2,a3,m _ _ ne e,r⟩
theorem xi(n:Nat)(h:n<=100:=by omega):n<ζ:=Nat.lt_of_le_of_lt h (by decide)
theorem NT.one{H:Hp}{a:Δ}{o:HO}(e:H a=some o)(n:wL o):NT [a] H:=fun c hc=>⟨o,by rw[Jj.mp hc];exact e,n⟩
end L3
namespace L2
open PySem PySem.Spec PyProof.Rows
section
variable{κ:Type} [DecidableEq κ]
def Zr(kvs:List (κ×V))(k:κ):Option V:=(kvs.find? fun kv=>decide (kv.1=k)).map (·.2)
def GQ(kvs:List (κ×V))(k:κ)(v:V):List (κ×V):=
 if(kvs.any fun kv=>decide (kv.1=k))=true then kvs.map (fun kv=>if kv.1=k then(kv.1,v)else kv)else kvs++[(k,v)]
theorem aG{p:κ×V}{r:List (κ×V)}{k:κ}(e:p.1=k):Zr (p::r) k=some p.2:=by simp [Zr,E2,e]
theorem aH{p:κ×V}{r:List (κ×V)}{k:κ}(e:¬p.1=k):Zr (p::r) k=Zr r k:=by simp [Zr,E2,e]
theorem lO(k:κ):∀kvs:List (κ×V),(kvs.any fun kv=>decide (kv.1=k))=(Zr kvs k).isSome
 | []=>rfl
 |p::r=>by
  rw[JS]
  by_cases e:p.1=k
  ·simp only[aG e,Jg e,Bool.true_or,Option.isSome_some]
  ·rw[aH e,Jm e,Bool.false_or];exact lO k r
theorem bj(kvs:List (κ×V))(k:κ)(v:V):(GQ kvs k v).length<=kvs.length+1:=by
 unfold GQ;split
 ·rw[Je];lia
 ·rw[Jw,JQ,List.length_nil];lia
theorem G0.isSome_eq{o:Option V}{u:Option Γ}(r:G0 o u):o.isSome=u.isSome:=by
 cases o with
 |none=>cases u with
  |none=>rfl
  |some _=>exact(show False from r).elim
 |some _=>cases u with
  |none=>exact(show False from r).elim
  |some _=>rfl
theorem G0.getD{o:Option V}{u:Option Γ}{d:V}{d':Γ}(r:G0 o u)(rd:F5 d d'):F5 (o.getD d) (u.getD d'):=by
 cases o with
 |none=>cases u with
  |none=>exact rd
  |some _=>exact(show False from r).elim
 |some _=>cases u with
  |none=>exact(show False from r).elim
  |some _=>exact r
theorem KV.val{kvs:List (κ×V)}{vs:List (κ×Γ)}(r:KV kvs vs)(k:κ):G0 (Zr kvs k) (valueAt vs k):=by
 unfold KV at r
 induction r with
 |nil=>exact True.intro
 | @cons p q ps qs h t ih=>
  obtain⟨h1,h2⟩:=h
  by_cases e:p.1=k
  ·have e':q.1=k:=h1.symm.trans e
   have b:valueAt (q::qs) k=some q.2:=by simp [valueAt,E2,e']
   rw[aG e,b];exact h2
  ·have e':¬q.1=k:=fun z=>e (h1.trans z)
   have b:valueAt (q::qs) k=valueAt qs k:=by simp [valueAt,E2,e']
   rw[aH e,b];exact ih
theorem KV.any{kvs:List (κ×V)}{vs:List (κ×Γ)}(r:KV kvs vs)(k:κ):(kvs.any fun kv=>decide (kv.1=k))=vs.any fun kv=>decide (kv.1=k):=by
 unfold KV at r
 induction r with
 |nil=>rfl
 |cons h t ih=>rw[JS,JS,ih,h.1]
theorem KV.repl{kvs:List (κ×V)}{vs:List (κ×Γ)}(r:KV kvs vs)(k:κ){y:V}{u:Γ}(ry:F5 y u):
  KV (kvs.map fun kv=>if kv.1=k then(kv.1,y)else kv) (vs.map fun kv=>if kv.1=k then(kv.1,u)else kv):=by
 unfold KV at r⊢
 induction r with
 |nil=>exact .nil
 | @cons p q ps qs h t ih=>
  rw[JU,JU];refine .cons ?_ ih
  obtain⟨h1,h2⟩:=h
  by_cases e:p.1=k
  ·rw[Jc e,Jc (h1.symm.trans e)];exact⟨h1,ry⟩
  ·rw[Jb e,Jb (fun z=>e (h1.trans z))];exact⟨h1,h2⟩
theorem KV.put{kvs:List (κ×V)}{vs:List (κ×Γ)}(r:KV kvs vs)(k:κ){y:V}{u:Γ}(ry:F5 y u):KV (GQ kvs k y) (stored vs k u):=by
 unfold GQ stored;rw[r.any k]
 by_cases e:(vs.any fun kv=>decide (kv.1=k))=true
 ·rw[Jc e,Jc e];exact r.repl k ry
 ·rw[Jb e,Jb e];exact Paired.snoc r ⟨rfl,ry⟩
theorem KV.keys{kvs:List (κ×V)}{vs:List (κ×Γ)}(r:KV kvs vs):kvs.map (·.1)=vs.map (·.1):=by
 unfold KV at r
 induction r with
 |nil=>rfl
 |cons h t ih=>rw[JU,JU,ih,h.1]
theorem KV.length{kvs:List (κ×V)}{vs:List (κ×Γ)}(r:KV kvs vs):kvs.length=vs.length:=Paired.length r
end
theorem fi{P:Ξ}{w:Ω}{k:qJ}{u:Γ}(r:F5 (kV k) u):(zd P w).is k u=true:=by
 cases k with
 |inl i=>obtain⟨t,e⟩:=(show∃t,u=Γ.int i t from r);subst e;exact nG P w i t
 |inr x=>obtain⟨t,e⟩:=(show∃t,u=Γ.str x t from r);subst e;exact mZ P w x t
theorem jD{P:Ξ}{w:Ω}:∀{ks:List qJ} {us:List Γ},F3 (ks.map kV) us->ItemsAre (zd P w) ks us
 | [],_,r=>by rw[Fc]at r;cases r;exact .nil
 |k::ks,_,r=>by
  rw[JU]at r;cases r with
  |cons h t=>exact .cons (fi h) (jD t)
abbrev KT(H:Hp):List (List qJ×V)->List (List qJ×Δ×Γ)->Prop:=Paired fun p q=>p.1=q.1/\H q.2.1=some (.tup (p.1.map kV))/\F5 p.2 q.2.2
theorem KT.val{H:Hp}{kvs:List (List qJ×V)}{xs:List (List qJ×Δ×Γ)}(r:KT H kvs xs)(k:List qJ):G0 (Zr kvs k) ((atKey xs k).map (·.2)):=by
 induction r with
 |nil=>exact True.intro
 | @cons p q ps qs h t ih=>
  obtain⟨h1,_,h2⟩:=h
  by_cases e:p.1=k
  ·have e':q.1=k:=h1.symm.trans e
   have b:atKey (q::qs) k=some q.2:=by simp [atKey,E2,e']
   rw[aG e,b];exact h2
  ·have e':¬q.1=k:=fun z=>e (h1.trans z)
   have b:atKey (q::qs) k=atKey qs k:=by simp [atKey,E2,e']
   rw[aH e,b];exact ih
theorem KT.repl{H:Hp}{kvs:List (List qJ×V)}{xs:List (List qJ×Δ×Γ)}(r:KT H kvs xs)(k:List qJ){y:V}{u:Γ}(ry:F5 y u):
  KT H (kvs.map fun kv=>if kv.1=k then(kv.1,y)else kv) (xs.map (putAt k u)):=by
 induction r with
 |nil=>exact .nil
 | @cons p q ps qs h t ih=>
  rw[JU,JU];refine .cons ?_ ih
  obtain⟨h1,h2,h3⟩:=h;unfold putAt
  by_cases e:p.1=k
  ·rw[Jc e,Jc (h1.symm.trans e)];exact⟨h1,h2,ry⟩
  ·rw[Jb e,Jb (fun z=>e (h1.trans z))];exact⟨h1,h2,h3⟩
theorem KT.put{H:Hp}{kvs:List (List qJ×V)}{xs:List (List qJ×Δ×Γ)}(r:KT H kvs xs)(k:List qJ){b:Δ}{y:V}{u:Γ}(hb:H b=some (.tup (k.map kV)))(ry:F5 y u):
  KT H (GQ kvs k y) (storedH xs k b u):=by
 have e:(kvs.any fun kv=>decide (kv.1=k))=(atKey xs k).isSome:=by
  rw[lO,(r.val k).isSome_eq,Option.isSome_map]
 unfold GQ storedH;rw[e]
 by_cases q:(atKey xs k).isSome=true
 ·rw[Jc q,Jc q];exact r.repl k ry
 ·rw[Jb q,Jb q];exact Paired.snoc r ⟨rfl,hb,ry⟩
theorem KT.keeps{H H':Hp}{kvs:List (List qJ×V)}{xs:List (List qJ×Δ×Γ)}(r:KT H kvs xs)(ht:∀b ys,H b=some (.tup ys)->H' b=some (.tup ys)):KT H' kvs xs:=
 Paired.mapP r fun _ _ z=>⟨z.1,ht _ _ z.2.1,z.2.2⟩
section
variable{P:Ξ}{w:Ω}{H:Hp}{h:Ψ}{a:Δ}
theorem wH{u:HO}(ok:Hv P w H h)(e:Rd H a u):Ge P w H h a u:=e.ok ok
theorem bU{kvs:List (qJ×V)}(ok:Hv P w H h)(e:Rd H a (.dK kvs)):kvs.length<=ζ/\(a==sysModules)=false/\∃vs,KV kvs vs/\h.DictOf (zd P w) a vs:=
 show Ge P w H h a (.dK kvs)from wH ok e
theorem rl{kvs:List (qJ×V)}(ok:Hv P w H h)(e:H a=some (.dK kvs)):kvs.length<=ζ/\(a==sysModules)=false/\∃vs,KV kvs vs/\h.DictOf (zd P w) a vs:=bU ok (.inl e)
theorem da{ks:List qJ}(ok:Hv P w H h)(e:H a=some (.tup (ks.map kV))):(tupleKind (zd P w)).is h ks a:=by
 obtain⟨_,its,r,o,h1,h2,n,h3⟩:=(show Ge P w H h a (.tup (ks.map kV))from ok a _ e)
 exact⟨o,its.toArray,n,h1,h2,h3,by simpa using jD r⟩
theorem eR{kvs:List (List qJ×V)}(ok:Hv P w H h)(e:Rd H a (.dT kvs)):kvs.length<=ζ/\(a==sysModules)=false/\
  ∃xs,KT H kvs xs/\h.DictOfH (tupleKind (zd P w)) a xs:=by
 obtain⟨z,y,xs,r,o,es,ep,h1,h2,h3,h4,h5⟩:=(show Ge P w H h a (.dT kvs)from wH ok e)
 refine⟨z,y,xs,r,o,es,ep,h1,h2,h3,h4,fun x hx=>?_,h5⟩
 have all:∀{l:List (List qJ×V)} {m:List (List qJ×Δ×Γ)},KT H l m->∀x∈m,(tupleKind (zd P w)).is h x.1 x.2.1:=by
  intro l m q
  induction q with
  |nil=>intro x hx;exact nomatch hx
  | @cons p q ps qs hq t ih=>
   intro x hx;rcases Jl.mp hx with e|hx
   ·subst e
    exact da ok (by rw[<- hq.1];exact hq.2.1)
   ·exact ih x hx
 exact all r x hx
theorem CM{kvs:List (List qJ×V)}(ok:Hv P w H h)(e:H a=some (.dT kvs)):kvs.length<=ζ/\(a==sysModules)=false/\
  ∃xs,KT H kvs xs/\h.DictOfH (tupleKind (zd P w)) a xs:=eR ok (.inl e)
end
def GV(H:Hp)(a:Δ)(y:V)(r:Option V):Prop:=
 (∃kvs k,Rd H a (.dK kvs)/\y=kV k/\r=Zr kvs k)\/∃kvs k b,Rd H a (.dT kvs)/\y= .ref b/\H b=some (.tup (k.map kV))/\r=Zr kvs k
def HX(H:Hp)(a:Δ)(y v:V)(H':Hp):Prop:=
 (∃kvs k,H a=some (.dK kvs)/\y=kV k/\kvs.length<ζ/\H'=F2 H a (.dK (GQ kvs k v)))\/
 ∃kvs k b,H a=some (.dT kvs)/\y= .ref b/\H b=some (.tup (k.map kV))/\kvs.length<ζ/\H'=F2 H a (.dT (GQ kvs k v))
theorem GV.k{H:Hp}{a:Δ}{kvs:List (qJ×V)}{k:qJ}(e:H a=some (.dK kvs)):GV H a (kV k) (Zr kvs k):= .inl ⟨kvs,k,.inl e,rfl,rfl⟩
theorem HX.k{H:Hp}{a:Δ}{kvs:List (qJ×V)}{k:qJ}{v:V}(e:H a=some (.dK kvs))(hl:kvs.length<ζ):HX H a (kV k) v (F2 H a (.dK (GQ kvs k v))):= .inl ⟨kvs,k,e,rfl,hl,rfl⟩
section
variable{X:Cx}{tx:FU}{σ:St}{H:Hp}{s:Θ}{a:Δ}{y v:V}{u r:Γ}{o:Option V}{A:Around}{E:FS}
theorem FY.big(I:FY X tx σ H s):sysModules<s.heap.objs.size:=by
 have h:η<s.heap.objs.size:=(I.mod.glob.keeps I.bk).lt
 exact Nat.lt_trans (by decide) h
theorem rY{Q:FS}(hu:A.units+1<cLine)(I:FY X tx σ H s)(g:GV H a y (some v))(ry:F5 y u)(h:∀w' s',FY X tx σ H s'->F5 v w'->Q w' s'):
  ε (model X.prog X.w) A (getItem (.ref a) u) Q E s:=by
 rcases g with⟨kvs,k,e,ey,l⟩|⟨kvs,k,b,e,ey,eb,l⟩
 ·subst ey
  obtain⟨z,hd,vs,rel,dd⟩:=bU I.hok e;obtain⟨w',hw,rw'⟩:=G0.some_of (v:=v) (o:=valueAt vs k) (by rw[l];exact rel.val k)
  exact wpAny_getItem_of (fi ry) dd.mapOf hw (h w' _ (I.tok _) rw')
 ·subst ey
  cases(show u=Γ.ref b from ry)
  obtain⟨z,hd,xs,rel,dd⟩:=eR I.hok e;obtain⟨w',hw,rw'⟩:=G0.some_of (v:=v) (o:=(atKey xs k).map (·.2)) (by rw[l];exact rel.val k)
  obtain⟨p,hp,hp2⟩:=DZ.mp hw;refine wpAny_getItem_heap (Fx hu) (da I.hok eb) dd hp ?_
  rw[hp2];exact h w' _ (I.tok _) rw'
theorem Dz{Q:FS}(hu:A.units+1<cLine)(I:FY X tx σ H s)(g:GV H a y o)(ry:F5 y u)(h:∀s',FY X tx σ H s'->Q (.bool o.isSome) s'):
  ε (model X.prog X.w) A (compareOp .In u (.ref a)) Q E s:=by
 rcases g with⟨kvs,k,e,ey,l⟩|⟨kvs,k,b,e,ey,eb,l⟩
 ·subst ey
  obtain⟨z,hd,vs,rel,dd⟩:=bU I.hok e;refine wpAny_in_of (fi ry) hd dd.mapOf ?_
  rw[<- (rel.val k).isSome_eq,<- l];exact h _ (I.tok _)
 ·subst ey
  cases(show u=Γ.ref b from ry)
  obtain⟨z,hd,xs,rel,dd⟩:=eR I.hok e;refine wpAny_in_heap (Fx hu) (da I.hok eb) hd dd ?_
  have q:=(rel.val k).isSome_eq;rw[Option.isSome_map]at q;rw[<- q,<- l];exact h _ (I.tok _)
theorem iR{h':Ψ}{t':Nat}{ob:HO}(I:FY X tx σ H s)(mu:sw (H a))(hs:Ψ.SameBut a s.heap h')(he:∃q,h'.get? a=some q)(new:Ge X.prog X.w (F2 H a ob) h' a ob):
  FY X tx σ (F2 H a ob) {s with heap:=h',toks:=t'}:=
 I.write (x:=a) (e:=a) mu (.inl rfl) (fun b q hb z=>(hs.2 b hb).trans z) he new
theorem sN{P:Ξ}{w:Ω}{H':Hp}{h':Ψ}{kvs:List (qJ×V)}{vs:List (qJ×Γ)}(z:kvs.length<=ζ)(hd:(a==sysModules)=false)(rel:KV kvs vs)(dd:h'.DictOf (zd P w) a vs):
  Ge P w H' h' a (.dK kvs):=⟨z,hd,vs,rel,dd⟩
theorem uw{H':Hp}{Q:Unit->Θ->Prop}(hu:A.units+1<cLine)(I:FY X tx σ H s)(g:HX H a y v H')(ry:F5 y u)(rv:F5 v r)(h:∀s',FY X tx σ H' s'->Q () s'):
  ε (model X.prog X.w) A (setItem (.ref a) u r) Q E s:=by
 rcases g with⟨kvs,k,e,ey,l,eH⟩|⟨kvs,k,b,e,ey,eb,l,eH⟩
 ·subst ey eH
  obtain⟨z,hd,vs,rel,dd⟩:=rl I.hok e;have hz:vs.length<=ζ:=by rw[<- rel.length];exact z
  have hl:(GQ kvs k v).length<=ζ:=by have:=bj kvs k v;lia
  refine wpAny_setItem_pairs (hsz:=hz) (fi ry) dd fun h' dd' hs=>h _ ?_
  have he:∃q,h'.get? a=some q:=let⟨q,_,_,hq,_⟩:=dd';⟨q,hq⟩
  exact iR I (by rw[e];exact True.intro) hs he (sN hl hd (rel.put k rv) dd')
 ·subst ey eH
  cases(show u=Γ.ref b from ry)
  obtain⟨z,hd,xs,rel,dd⟩:=CM I.hok e;have hz:xs.length<=ζ:=by rw[<- Paired.length rel];exact z
  have hl:(GQ kvs k v).length<=ζ:=by have:=bj kvs k v;lia
  refine wpAny_setItem_heap (hsz:=hz) (Fx hu) (da I.hok eb) dd fun h' dd' hs=>h _ ?_
  obtain⟨q,es,ep,hq,h2,h3,h4,_,h5⟩:=dd';refine iR I (by rw[e];exact True.intro) hs ⟨q,hq⟩ ⟨hl,hd,_,(rel.put k eb rv).keeps fun c ys ec=>?_,q,es,ep,hq,h2,h3,h4,h5⟩
  rw[qi (Qe ec e (fun z=>nomatch z))]
  exact ec
end
section
variable{X:Cx}{tx:FU}{σ:St}{H:Hp}{s:Θ}{a:Δ}{kvs:List (qJ×V)}{A:Around}{E:FS}
theorem CS{Q:FS}(I:FY X tx σ H s)(e:Rd H a (.dK kvs))(h:∀t s',FY X tx σ H s'->Q (.int kvs.length t) s'):ε (model X.prog X.w) A (call (.builtin "len") [.ref a]) Q E s:=by
 obtain⟨z,hd,vs,rel,dd⟩:=bU I.hok e;refine call_len_dict hd dd (by rw[<- rel.length];rw[JK]at z;lia) ?_
 rw[<- rel.length];exact h _ _ (I.tok _)
end
def vy(i:Φ):Prop:=∀ov iv,subscripted i false ov iv=operate [ov,iv] (getItem ov iv)
theorem Av{prog:Ξ}{w:Ω}{A:Around}{E:FS}{s:Θ}{env:Env}{value slice:Φ}{pos:Pos}{T id:String}{Q:FS}
  (hl:typeLookup (.type T) "__getitem__"=pure (some (.builtin id)))(hs:vy slice)
  (h:ε (model prog w) A (eval value env) (fun o s₁=>ε (model prog w) A (eval slice env) (fun i s₂=>s₂.TypeIs o T/\ε (model prog w) A (getItem o i) Q E s₂) E s₁) E s):
  ε (model prog w) A (eval (.Subscript value slice pos) env) Q E s:=by
 refine Subscript_ (JF h (fun o s₁ h₁=>JF h₁ (fun i s₂ h₂=>?_) fun _ _ x=>x) fun _ _ x=>x)
 obtain⟨hT,h₂⟩:=h₂;unfold subscriptTail;refine Ja ?_
 rw[getitemInPython_of_ne hT.not_modules];refine Ja (EM hT hl ?_)
 have fin:ε (model prog w) A (subscripted slice false o i) (fun r s₃=>ε (model prog w) A (letTemporaryGo value o r >>= fun _=>pure r) Q E s₃) E s₂:=by
  rw[hs o i];exact wpAny_operating (JF h₂ (fun r s₃ h₃=>Ja (wpAny_letTemporaryGo (Jd h₃))) fun _ _ x=>x)
 first
  |exact Jd (Ja fin)
  |exact Ja (Jd (Ja fin))
  |exact Ja fin
theorem mO{X:Cx}{tx:FU}{σ:St}{H:Hp}{s:Θ}{a:Δ}{y:V}{o:Option V}(I:FY X tx σ H s)(g:GV H a y o):s.TypeIs (.ref a) "dict":=by
 rcases g with⟨kvs,k,e,_,_⟩|⟨kvs,k,b,e,_,_,_⟩
 ·obtain⟨_,_,vs,_,dd⟩:=bU I.hok e
  exact dd.typeIs
 ·obtain⟨_,_,xs,_,dd⟩:=eR I.hok e
  exact dd.typeIs
def xf(td ty:TE):TE:=fun σ H Q=>td σ H fun x H1=>ty σ H1 fun y H2=>∃a v,x= .ref a/\GV H2 a y (some v)/\Q v H2
def Bg(ty td:TE):TE:=fun σ H Q=>ty σ H fun y H1=>td σ H1 fun x H2=>∃a o,x= .ref a/\GV H2 a y o/\Q (.bl o.isSome) H2
def xp(td ty tv:TE):TS:=fun D σ H=>tv σ H fun v H1=>td σ H1 fun x H2=>ty σ H2 fun y H3=>∃a H4,x= .ref a/\HX H3 a y v H4/\D.nx σ H4
section
variable{X:Cx}{o i value:Φ}{pos pos':Pos}{td ty tv:TE}
theorem y4(hu:X.A.units+1<cLine)(ho:PE X o td)(hi:PE X i ty)(hs:vy i):PE X (.Subscript o i pos) (xf td ty):=by
 intro tx s σ H Q I h;refine Av PySem.F.slot_dict_getitem.lookup hs (qB (ho tx s σ H _ I h) fun u s1 ⟨x,H1,I1,rx,q1⟩=>qB (hi tx s1 σ H1 _ I1 q1) fun iv s2 zq=>?_)
 obtain⟨y,H2,I2,ry,a,v,ex,g,q2⟩:=zq;subst ex
 obtain rfl:u=Γ.ref a:=rx
 exact⟨mO I2 g,rY hu I2 g ry fun w' s3 I3 rw'=>⟨v,H2,I3,rw',q2⟩⟩
theorem BJ(hu:X.A.units+1<cLine)(hi:PE X i ty)(ho:PE X o td):PC X .In i o (Bg ty td):=by
 intro tx s σ H Q I h;refine qB (hi tx s σ H _ I h) fun iv s1 ⟨y,H1,I1,ry,q1⟩=>qB (ho tx s1 σ H1 _ I1 q1) fun u s2 zq=>?_
 obtain⟨x,H2,I2,rx,a,ov,ex,g,q2⟩:=zq;subst ex
 obtain rfl:u=Γ.ref a:=rx
 exact Dz hu I2 g ry fun s3 I3=>⟨.bl ov.isSome,H2,I3,rfl,q2⟩
theorem AC(hu:X.A.units+1<cLine)(ho:PE X o td)(hi:PE X i ty)(hv:PE X value tv)(hs:swapsWith value (some (.Subscript o i pos')) pos.line X.env=pure false):
  PS X (.Assign [.Subscript o i pos'] value pos) (xp td ty tv):=by
 intro tx s σ H D I h;refine wpAny_Assign_Subscript (qB (hv tx s σ H _ I h) fun r s1 ⟨v,H1,I1,rv,q1⟩=>qB (ho tx s1 σ H1 _ I1 q1) fun u s2 ⟨x,H2,I2,rx,q2⟩=>qB (hi tx s2 σ H2 _ I2 q2) fun iv s3 zq=>?_) hs
 obtain⟨y,H3,I3,ry,a,H4,ex,g,q3⟩:=zq;subst ex
 obtain rfl:u=Γ.ref a:=rx
 exact uw hu I3 g ry rv fun s4 I4=>⟨σ,H4,I4,q3⟩
end
theorem me{P:Ξ}{w:Ω}{H:Hp}(h:Ψ)(hb:sysModules<h.objs.size):Ge P w H (h.push {cls:= .type "dict",data:= .dict #[]}) h.objs.size (.dK []):=
 ⟨Jz _,Ew.mpr (Ne.symm (Jo hb)),[],.nil,Ψ.DictOf.new h⟩
def uI:TE:=fun _ H Q=>∀p,H p=none->Q (.ref p) (F2 H p (.dK []))
section
variable{X:Cx}{pos:Pos}
theorem wx:PE X (.Dict [] [] pos) uI:=fun tx s σ H Q I h=>
 wpAny_Dict_empty ⟨.ref s.heap.objs.size,_,I.laid (a:=s.heap.objs.size) (o:= .dK []) (t':=s.toks) (fun _ _ q=>Jh _ q) (Jf _) (me s.heap I.big),rfl,h _ (I.hok.fresh (Jf _))⟩
end
def lu:List (TE×TE)->St->Hp->(List (V×V)->Hp->Prop)->Prop
 | [],_,H,Q=>Q [] H
 |(tk,tv)::r,σ,H,Q=>tk σ H fun x H1=>tv σ H1 fun y H2=>lu r σ H2 fun ps H3=>Q ((x,y)::ps) H3
abbrev VV:List (V×V)->List (Γ×Γ)->Prop:=Paired fun p q=>F5 p.1 q.1/\F5 p.2 q.2
def tD(X:Cx)(pos:Pos)(keys:List (Option Φ))(values:List Φ)(trs:List (TE×TE)):Prop:=
 ∀(tx:FU) (s:Θ) (σ:St) (H:Hp) (Q:List (V×V)->Hp->Prop),FY X tx σ H s->lu trs σ H Q->
  ε (model X.prog X.w) X.A (evalPairs (pairTrees keys values X.env pos)) (fun vs s'=>∃ps H',FY X tx σ H' s'/\VV ps vs/\Q ps H') X.xe s
theorem yR{X:Cx}{pos:Pos}:tD X pos [] [] []:=fun tx s σ H Q I h=>pairTrees_nil_walk ⟨[],H,I,.nil,h⟩
theorem wo{X:Cx}{pos:Pos}{k v:Φ}{ks:List (Option Φ)}{vs:List Φ}{tk tv:TE}{trs:List (TE×TE)}(hk:PE X k tk)(hv:PE X v tv)(hr:tD X pos ks vs trs):
  tD X pos (some k::ks) (v::vs) ((tk,tv)::trs):=fun tx s σ H Q I h=>
 pairTrees_cons_walk (qB (hk tx s σ H _ I h) fun u s1 ⟨x,H1,I1,rx,q1⟩=>qB (hv tx s1 σ H1 _ I1 q1) fun w2 s2 ⟨y,H2,I2,ry,q2⟩=>
  qB (hr tx s2 σ H2 _ I2 q2) fun ws s3 ⟨ps,H3,I3,rel,q3⟩=>⟨(x,y)::ps,H3,I3,.cons ⟨rx,ry⟩ rel,q3⟩)
def Zu(kvs more:List (qJ×V)):List (qJ×V):=more.foldl (fun acc kv=>GQ acc kv.1 kv.2) kvs
theorem KV.merge:∀{more:List (qJ×V)} {rs:List (qJ×Γ)} {kvs:List (qJ×V)} {vs:List (qJ×Γ)},KV more rs->KV kvs vs->KV (Zu kvs more) (merged vs rs):=by
 intro more rs kvs vs r;unfold KV at r
 induction r generalizing kvs vs with
 |nil=>intro q;exact q
 | @cons p q ps qs h t ih=>
  intro r0;have e:KV (GQ kvs p.1 p.2) (stored vs q.1 q.2):=by
   have:=r0.put p.1 h.2
   rw[<- h.1];exact this
  exact ih e
theorem cA:∀(more kvs:List (qJ×V)),(Zu kvs more).length<=kvs.length+more.length
 | [],kvs=>by show kvs.length<=kvs.length+0;lia
 |p::r,kvs=>by
  have h1:=cA r (GQ kvs p.1 p.2);have h2:=bj kvs p.1 p.2
  show(Zu (GQ kvs p.1 p.2) r).length<=_
  rw[JQ];lia
theorem gT{P:Ξ}{w:Ω}:∀{kvs:List (qJ×V)} {ws:List (Γ×Γ)},VV (kvs.map fun kv=>(kV kv.1,kv.2)) ws->∃rs,Carries (zd P w) ws rs/\KV kvs rs
 | [],_,r=>by rw[Fc]at r;cases r;exact⟨[],True.intro,.nil⟩
 |p::kvs,_,r=>by
  rw[JU]at r;cases r with
  | @cons a b as bs h t=>
   obtain⟨rs,c,q⟩:=gT (P:=P) (w:=w) t
   obtain⟨b1,b2⟩:=b
   exact⟨(p.1,b2)::rs,⟨fi h.1,rfl,c⟩,.cons ⟨rfl,h.2⟩ q⟩
def wJ(trs:List (TE×TE)):TE:=fun σ H Q=>∀p,H p=none->lu trs σ (F2 H p (.dK [])) fun ps H2=>H2 p=some (.dK [])/\∃kvs:List (qJ×V),ps=kvs.map (fun kv=>(kV kv.1,kv.2))/\kvs.length<=15/\Q (.ref p) (F2 H2 p (.dK (Zu [] kvs)))
theorem yU{X:Cx}{pos:Pos}{keys:List (Option Φ)}{values:List Φ}{trs:List (TE×TE)}(h:tD X pos keys values trs)(hall:keys.all (·.isSome)=true)(hl:keys.length=values.length)(h0:keys≠[])
  (h15:keys.length<=15):PE X (.Dict keys values pos) (wJ trs):=by
 intro tx s σ H Q I q;have hn:=I.hok.fresh (Jf s.heap.objs.size);have I1:=I.laid (a:=s.heap.objs.size) (o:= .dK []) (h':=s.heap.push {cls:= .type "dict",data:= .dict #[]}) (t':=s.toks) (fun _ _ q=>Jh _ q) (Jf _) (me s.heap I.big)
 refine wpAny_Dict_walk (knd:=zd X.prog X.w) hall hl h0 h15 (qB (h tx _ σ _ _ I1 (q _ hn)) fun ws s2 zq=>?_)
 obtain⟨ps,H2,I2,rel,e,kvs,ep,lk,q2⟩:=zq;subst ep;obtain⟨rs,c,rk⟩:=gT (P:=X.prog) (w:=X.w) rel
 obtain⟨z,hd,vs0,r0,dd⟩:=rl I2.hok e;cases r0;refine⟨rs,c,dd,fun h' dd' hs=>⟨.ref s.heap.objs.size,_,?_,rfl,q2⟩⟩
 have hz:(Zu [] kvs).length<=ζ:=by
  have h1:=cA kvs [];rw[List.length_nil]at h1;rw[JK];lia
 have he:∃q,h'.get? s.heap.objs.size=some q:=let⟨q,_,_,hq,_⟩:=dd';⟨q,hq⟩
 exact iR I2 (by rw[e];exact True.intro) hs he (sN hz hd (rk.merge .nil) dd')
structure M1(X:Cx)(o:Φ)(m:Str)(apos:Pos)(e:Φ)(cpos:Pos):Prop where
 base:attributeBase o m X.env (eval o X.env)=eval o X.env
 few:((backTo cpos (θ [e] X.env)).all (fun x=> !x.1)&&(backToKw cpos (keywordEach [] X.env)).all (fun x=>x.1.isSome)
  &&decide (([e]:List Φ).length+([]:List Keyword).length+(if([]:List Keyword).isEmpty then 0 else 1)<30))=true
 line:(apos.endLine==cpos.line)=true
 trees:backTo cpos (θ [e] X.env)=[(false,eval e X.env)]
def C3(H:Hp)(a:Δ):Prop:=(∃kvs,Rd H a (.dK kvs))\/∃kvs,Rd H a (.dT kvs)
theorem AW{X:Cx}{tx:FU}{σ:St}{H:Hp}{s:Θ}{a:Δ}(I:FY X tx σ H s)(d:C3 H a):
  s.TypeIs (.ref a) "dict"/\(∀b,Γ.ref a= .ref b->∃ob,s.heap.get? b=some ob/\ob.dict=none)/\(a==sysModules)=false:=by
 rcases d with⟨kvs,e⟩|⟨kvs,e⟩
 ·obtain⟨_,hd,vs,_,dd⟩:=bU I.hok e
  refine⟨dd.typeIs,fun b q=>?_,hd⟩
  cases q;obtain⟨ob,_,_,h1,h2,_⟩:=dd
  exact⟨ob,h1,h2.2.1⟩
 ·obtain⟨_,hd,xs,_,dd⟩:=eR I.hok e
  refine⟨dd.typeIs,fun b q=>?_,hd⟩
  cases q;obtain⟨ob,_,_,h1,h2,_⟩:=dd
  exact⟨ob,h1,h2.2.1⟩
section
variable{X:Cx}{tx:FU}{σ:St}{H:Hp}{s:Θ}{a:Δ}{y:V}{u:Γ}{o:Option V}{A:Around}{E:FS}
theorem Cd{Q:FS}(hu:A.units+1<cLine)(I:FY X tx σ H s)(g:GV H a y o)(ry:F5 y u)(h:∀w' s',FY X tx σ H s'->F5 (o.getD .non) w'->Q w' s'):
  ε (model X.prog X.w) A (call (.builtin "dict.get") [.ref a,u]) Q E s:=by
 rcases g with⟨kvs,k,e,ey,l⟩|⟨kvs,k,b,e,ey,eb,l⟩
 ·subst ey
  obtain⟨z,hd,vs,rel,dd⟩:=bU I.hok e;refine call_meetsIn FI dd.typeIs PySem.F.entry_dict_get (PySem.F.args_dict_get_2 _ _) (meets_dict_get (zd X.prog X.w) a (fi ry) hd) ⟨_,dd.mapOf,h _ _ (I.tok _) ?_⟩
  rw[l]
  exact(rel.val k).getD rfl
 ·subst ey
  cases(show u=Γ.ref b from ry)
  obtain⟨z,hd,xs,rel,dd⟩:=eR I.hok e;refine call_meetsIn FI dd.typeIs PySem.F.entry_dict_get (PySem.F.args_dict_get_2 _ _) (meetsH_dict_get (tupleKind (zd X.prog X.w)) a b hd) ⟨Fx hu,k,xs,da I.hok eb,dd,h _ _ (I.tok _) ?_⟩
  rw[l]
  exact(rel.val k).getD rfl
end
def rZ(td ty:TE):TE:=fun σ H Q=>td σ H fun x H1=>∃a,x= .ref a/\C3 H1 a/\ty σ H1 fun y H2=>∃o,GV H2 a y o/\Q (o.getD .non) H2
section
variable{X:Cx}{o e:Φ}{apos cpos:Pos}{td ty:TE}
theorem vY(hu:X.A.units+1<cLine)(ho:PE X o td)(he:PE X e ty)(m:M1 X o "get" apos e cpos):PE X (.Call (.Attribute o "get" apos) [e] [] cpos) (rZ td ty):=by
 intro tx s σ H Q I h;refine wpAny_Call_method m.base m.few m.line PySem.F.plainAttrs_dict FI PySem.F.type_dict_get (qB (ho tx s σ H _ I h) fun u s1 zq=>?_)
 obtain⟨x,H1,I1,rx,a,ex,d,q1⟩:=zq;subst ex
 obtain rfl:u=Γ.ref a:=rx
 obtain⟨t1,t2,_⟩:=AW I1 d;refine⟨t1,t2,?_⟩
 rw[m.trees];refine Calls.callWith_builtin rfl (Calls.evalArgs_plain (Calls.spliced_cons (qB (he tx s1 σ H1 _ I1 q1) fun iv s2 ⟨y,H2,I2,ry,ov,g,q2⟩=>Calls.spliced_nil ?_)))
 exact Cd hu I2 g ry fun w' s3 I3 rw'=>⟨_,H2,I3,rw',q2⟩
end
section
variable{X:Cx}
theorem tU:ze X (.builtin "len") (fun xs H Q=>∃a kvs,xs=[V.ref a]/\H a=some (.dK kvs)/\Q (.int kvs.length) H):=by
 intro tx s σ H xs us Q I r h;obtain⟨a,kvs,rfl,ha,q⟩:=h;obtain⟨u,rfl,ru⟩:=zN r;cases ru;exact CS I (.inl ha) fun t s' I'=>⟨.int kvs.length,H,I',⟨t,rfl⟩,q⟩
end
end L2
namespace L3
open PySem PySem.Spec PyProof.Rows L2
open PySem.W (kdl_dict kdl_extend)
section
variable{prog:Ξ}{w:Ω}{A:Around}{E:FS}{s:Θ}
theorem mf{d:Δ}{kvs:List (qJ×Γ)}{ep:Nat}{Q:List Γ->Θ->Prop}(hh:A.handled=none)(hm:s.heap.DictAt (zd prog w) d kvs ep)(lo:(d==sysModules)=false)(hn:kvs.length<=ζ)
  (h:∀(vs:List Γ) (h':Ψ) (tk:Nat),s.heap.objs.size<h'.objs.size->(∀b o,s.heap.get? b=some o->h'.get? b=some o)->vs.length=kvs.length->(∀(j:Nat) (v:Γ),vs[j]? =some v->∃k x,kvs[j]? =some (k,x)/\(zd prog w).is k v=true)->Q vs {s with heap:=h',toks:=tk}):
  ε (model prog w) A (collect (.ref d)) Q E s:=by
 unfold collect;refine Ja (wpAny_runValue (Ek entry_proto_collect' ?_))
 show ε _ _ (do again (.builtin "list.__iadd__" ⟨[<- newList [],.ref d],[]⟩)) _ _ s
 refine Ja (wpAny_newList (Jd ⟨Code.quiet_builtin _ (by decide +kernel),Ek entry_list_iadd' ?_⟩))
 rw[Around.under_plainId PySem.F.plain_list_iadd _];have hlt:d<s.heap.objs.size:=hm.lt_size
 refine kdl_extend (s:={s with heap:=s.heap.push (seqObj "list" #[] 0)}) (R:=fun r s'=>match r with
   | .ok (.ret v)=>ε (model prog w) A (match v with
    | .ref a=>(do
     let o <- load a
     match o.data with
     | .seq xs _=>pure xs.toList
     |_=>unsupported "internal:collect")
    |_=>unsupported "internal:collect") Q E s'
   | .ok _=>False
   | .error e=>E e s') (kdl_dict (knd:=zd prog w) (ep:=ep) (kvs:=kvs) lo) hh (hm.push _) s.heap.objs.size (J3 hlt) (J3 hlt) _ 0 (Jp _ rfl) (fun h' tk acc' c' hk hS hI=>?_) hn
 show ε (model prog w) A (do
   let o <- load s.heap.objs.size
   match o.data with
   | .seq xs _=>pure xs.toList
   |_=>unsupported "internal:collect") Q E {s with heap:=h',toks:=tk}
 refine Ja (wpAny_load hS ?_)
 refine Jd (h acc'.toList h' tk (Ji hS) (fun b o e=>hk b o (Jo (Ji e)) (Jh _ e)) (by rw[Jn];exact hI.1) fun j v e=>hI.2 j v (by rw[<- Array.getElem?_toList];exact e))
theorem iM:∀{us:List Γ} {ss:List Str},us.length=ss.length->(∀(j:Nat) (v:Γ),us[j]? =some v->∃x t,ss[j]? =some x/\v= .str x t)->StrsAre us ss
 | [],[],_,_=> .nil
 |u::us,x::ss,hl,h=>by
  obtain⟨y,t,e1,e2⟩:=h 0 u rfl;cases e1;subst e2;exact .cons _ _ (iM (Nat.succ.inj hl) fun j v e=>h (j+1) v e)
 | [],_::_,hl,_=>by cases hl
 |_::_,[],hl,_=>by cases hl
theorem mP{d:Δ}{kvs:List (qJ×Γ)}{ep:Nat}{ss:List Str}{Q:FS}(hh:A.handled=none)(hm:s.heap.DictAt (zd prog w) d kvs ep)(lo:(d==sysModules)=false)(hks:kvs.map (·.1)=ss.map Sum.inr)(h64:ss.length<64)
  (h:∀(h':Ψ) (tk:Nat) (l:Δ) (its:List Γ) (n:Nat) (ss':List Str),s.heap.objs.size<=l->(∀b o,s.heap.get? b=some o->h'.get? b=some o)->h'.get? l=some (seqObj "list" its.toArray n)->StrsAre its ss'->ss'.Perm ss->sortedS ss'=true->Q (.ref l) {s with heap:=h',toks:=tk}):
  ε (model prog w) A (call (.builtin "sorted") [.ref d]) Q E s:=by
 have hlen:kvs.length=ss.length:=by have:=JX List.length hks;rwa [Je,Je]at this
 refine Calls.call_function_entry kind_sorted plain_sorted entry_sorted (args_sorted1 _) ?_
 unfold γ.«sorted»
 refine Ja (m:=checkCount "sorted" 1 1 _) (Jd ?_)
 refine Ja (mf (ep:=ep) (kvs:=kvs) hh hm lo (by rw[JK];lia) fun us h' tk hlt hk hl hv=>?_)
 have hS:StrsAre us ss:=iM (hl.trans hlen) fun j v e=>by
  obtain⟨k,x,e1,e2⟩:=hv j v e;have e3:(kvs.map (·.1))[j]? =some k:=by rw[Jq,e1];rfl
  rw[hks,Jq]at e3;cases e4:ss[j]? with
  |none=>rw[e4]at e3;cases e3
  |some y=>
   rw[e4]at e3;have e5:Sum.inr y=k:=JB e3
   subst e5;have e6:Γ.isStrOf y v=true:=e2
   cases v<;>simp [Γ.isStrOf]at e6
   subst e6
   exact⟨_,_,rfl,rfl⟩
 refine Ja (wpAny_newList ?_)
 have hoL:(h'.push (seqObj "list" us.toArray 0)).get? h'.objs.size=some (seqObj "list" us.toArray 0):=Jp _ rfl
 show ε _ _ _ _ _ {s with heap:=h'.push (seqObj "list" us.toArray 0),toks:=tk}
 refine Ja (JM (JZ slot_list_sort ⟨_,hoL,rfl⟩ entry_list_sort (list_sort_treeK (κ:=PyProof.Rows.strKind) strKind_oneLt hoL hS.keysOf (fun v₁ v₂ rest e=>keyKind_strs (by rw[<- e];exact hS)) (by rw[hl,hlen];exact h64) fun st' a1 a2=>⟨_,rfl,?_⟩) (args_list_sort _)))
 obtain⟨ss',b1,b2,b3⟩:=sorted_out_str hS a1 a2;obtain⟨n',hn'⟩:∃n',(sortedHeap (h'.push (seqObj "list" us.toArray 0)) h'.objs.size us ((arrOf st').map (·.2))).get? h'.objs.size=some (seqObj "list" ((arrOf st').map (·.2)) n'):=sortedHeap_at hoL
 refine Jd ⟨_,rfl,h _ tk h'.objs.size ((arrOf st').map (·.2)).toList n' ss' (E8 hlt) (fun b o e=>?_) (by rw[hn']) b1 b2 b3⟩
 have e':=hk b o e;have hb:b<h'.objs.size:=Ji e'
 rw[sortedHeap_old (Jo hb) (by rw[JV];exact D9 hb)]
 exact Jh _ e'
end
theorem dc:∀{us:List Γ} {ss:List Str},StrsAre us ss->F3 (ss.map V.str) us
 | [],[],.nil=> .nil
 |_,_::_,.cons _ _ t=> .cons ⟨_,rfl⟩ (dc t)
theorem k9{X:Cx}(hc:X.calm=true):ze X (.builtin "sorted") (fun xs H Q=>∃(d:Δ) (kvs:List (qJ×V)) (ss:List Str),xs=[.ref d]/\H d=some (.dK kvs)/\kvs.map (·.1)=ss.map Sum.inr/\ss.length<64/\
  ∀l ss',H l=none->ss'.Perm ss->sortedS ss'=true->Q (.ref l) (F2 H l (.lst (ss'.map V.str)))):=by
 intro tx s σ H xs us Q I r h;obtain⟨d,kvs,ss,rfl,hH,hks,h64,q⟩:=h;obtain⟨u,rfl,ru⟩:=zN r;cases ru;obtain⟨z,lo,vs,rel,o,es,ep,d1,d2,d3,d4,d5,d6⟩:=rl I.hok hH;have hks':vs.map (·.1)=ss.map Sum.inr:=by rw[<- hks,rel.keys]
 refine mP (I.ok.hd hc) (⟨o,es,d1,d2,d3,d4,d5,d6⟩:s.heap.DictAt (zd X.prog X.w) d vs ep) lo hks' h64 fun h' tk l its n ss' hl hk hL b1 b2 b3=>?_
 refine⟨.ref l,_,I.laid (a:=l) (o:= .lst (ss'.map V.str)) (t':=tk) hk hl ?_,rfl,q l ss' (I.hok.fresh hl) b2 b3⟩
 have vl:=dc b1;refine⟨?_,its,n,vl,hL⟩
 have:=b2.length_eq
 rw[Je,JK];lia
end L3
namespace L3
open PySem PySem.Spec PyProof.Rows L2
open Sem (wp)
variable{X:Cx}
theorem uH(hc:X.calm=true):ze X (.builtin "max") (fun xs H Q=>∃(p:Δ) (ns:List Int),xs=[.ref p]/\H p=some (.lst (ns.map V.int))/\0<ns.length/\∀M,M∈ns->(∀a∈ns,a<=M)->Q (.int M) H):=by
 intro tx s σ H xs us Q I r h;obtain⟨p,ns,rfl,hH,hne,q⟩:=h;obtain⟨u,rfl,ru⟩:=zN r;cases ru;obtain⟨z,its,n,rv,hl,e⟩:=I.lstM hH;have hi:IntsAre its ns:=bM rv
 obtain⟨ys,ey⟩:=hi.allInts.items;have hns:ns=ys.toList.map (·.1):=by rw[<- hi.numsOf,<- nums_intItems,<- ey]
 have hsz:0<ys.size:=by
  have h3:=hne;rw[hns,Je,Jn]at h3;exact h3
 have hL:s.heap.IsList p (intItems ys):=by
  rw[<- ey]
  exact⟨_,e,rfl,⟨n,rfl⟩⟩
 refine max_intList (I.ok.hd hc) hL hsz fun v h' tk hv hk=>?_
 obtain⟨t,rfl⟩:=intItems_at hv;obtain⟨h1,h2⟩:=argBest_gt (numAt ys) (ys.size-1)
 refine⟨.int (numAt ys (argBest (fun i j=>decide (numAt ys i>numAt ys j)) (ys.size-1))),H,I.kept (t':=tk) hk,⟨_,rfl⟩,q _ ?_ fun a ha=>?_⟩
 ·rw[hns,numAt_eq];exact PySem.getD_mem (by rw[Je,Jn];lia)
 ·rw[hns]at ha
  obtain⟨j,hj,rfl⟩:=mem_getD ha;rw[Je,Jn]at hj;rw[<- numAt_eq];exact h2 j (by lia)
section
variable{o i value:Φ}{pos pos':Pos}{td ty tv:TE}
theorem Qd{k:Nat}(hr:Gg k X.A)(ho:QE X o td)(hi:QE X i ty)(hs:vy i:=by exact fun _ _=>rfl):QE X (.Subscript o i pos) (xf td ty):=⟨y4 (by have:=hr.un;lia) ho.h hi.h hs⟩
theorem Q8{k:Nat}(hr:Gg k X.A)(ho:QE X o td)(hi:QE X i ty)(hv:QE X value tv)(hs:swapsWith value (some (.Subscript o i pos')) pos.line X.env=pure false:=by rfl):
  QS X (.Assign [.Subscript o i pos'] value pos) (xp td ty tv):=⟨AC (by have:=hr.un;lia) ho.h hi.h hv.h hs⟩
structure IX(X:Cx)(pos:Pos)(keys:List (Option Φ))(values:List Φ)(trs:List (TE×TE)):Prop where
 h:tD X pos keys values trs
theorem yO:IX X pos [] [] []:=⟨yR⟩
theorem aB{k v:Φ}{ks:List (Option Φ)}{vs:List Φ}{tk tv:TE}{trs:List (TE×TE)}(hk:QE X k tk)(hv:QE X v tv)(hr:IX X pos ks vs trs):IX X pos (some k::ks) (v::vs) ((tk,tv)::trs):=⟨wo hk.h hv.h hr.h⟩
theorem Af{keys:List (Option Φ)}{values:List Φ}{trs:List (TE×TE)}(h:IX X pos keys values trs)(hall:keys.all (·.isSome)=true:=by rfl)(hl:keys.length=values.length:=by rfl)(h0:keys≠[]:=by(intro z;cases z))
  (h15:keys.length<=15:=by decide):QE X (.Dict keys values pos) (wJ trs):=⟨yU h.h hall hl h0 h15⟩
end
theorem oq{k:qJ}{v:V}:∀{kvs:List (qJ×V)} (i:Nat),kvs[i]? =some (k,v)->(kvs.map (·.1)).Nodup->Zr kvs k=some v
 | [],i,h,_=>by cases h
 |p::r,0,h,_=>by
  cases JB h
  exact aG rfl
 |p::r,i+1,h,nd=>by
  have h':r[i]? =some (k,v):=h
  have nd':p.1∉r.map (·.1)/\(r.map (·.1)).Nodup:=DT.mp nd
  have hm:k∈r.map (·.1):=Ju.mpr ⟨(k,v),DU h',rfl⟩
  have ne:p.1≠k:=fun z=>nd'.1 (z▸hm)
  rw[aH ne];exact oq i h' nd'.2
theorem Aa{k:qJ}{v:V}{kvs:List (qJ×V)}(h:k∉kvs.map (·.1)):GQ kvs k v=kvs++[(k,v)]:=by
 unfold GQ;rw[Jb];intro z;obtain⟨p,hp,e⟩:=List.any_eq_true.mp z;exact h (Ju.mpr ⟨p,hp,Jv e⟩)
end L3
namespace L3
open PySem PySem.Spec PyProof.Rows L2
section
variable{X:Cx}{o e:Φ}{apos cpos pos:Pos}{td ty:TE}
theorem lT{k:Nat}(hr:Gg k X.A)(ho:QE X o td)(ha:QE X e ty)(m:M1 X o "get" apos e cpos:=by exact⟨rfl,rfl,rfl,rfl⟩):QE X (.Call (.Attribute o "get" apos) [e] [] cpos) (rZ td ty):=⟨vY (by have:=hr.un;lia) ho.h ha.h m⟩
theorem gf:QE X (.Dict [] [] pos) uI:=⟨wx⟩
theorem Br{k:Nat}(hr:Gg k X.A)(hi:QE X e ty)(ho:QE X o td)(h1:behindInMarks CmpOp.In o=false:=by rfl):QT X (.Compare e [.In] [o] pos) (gE (Bg ty td)):=⟨BT (BJ (by have:=hr.un;lia) hi.h ho.h) (h1:=h1)⟩
end
structure Kb where
 age:Int
 last:Int
 wt:Option (Int×Int)
abbrev Kw:=List (Str×Kb)
def Wt(H:Hp)(v:V):Option (Int×Int)->Prop
 |none=>v= .non
 |some (x,c)=>∃w,v= .ref w/\H w=some (.tup [.int x,.int c])
def GH(H:Hp)(a:Δ)(e:Kb):Prop:=∃v,H a=some (.tup [.int e.age,.int e.last,v])/\Wt H v e.wt
def gU(kn:Kw)(f:Str->Δ):List (qJ×V):=kn.map fun e=>(Sum.inr e.1,V.ref (f e.1))
def HJ(H:Hp)(d:Δ)(kn:Kw):Prop:=∃f:Kw×(Str->Δ),H d=some (.dK (gU f.1 f.2))/\(∀e∈kn,GH H (f.2 e.1) e.2)/\f.1.Perm kn/\(kn.map (·.1)).Nodup
def zb(kn:Kw)(nm:Str)(e:Kb):Kw:=if nm∈kn.map (·.1)then kn.map (fun p=>if p.1=nm then(nm,e)else p)else kn++[(nm,e)]
theorem Mv.tup{S:List Δ}{H H':Hp}{a:Δ}{xs:List V}(m:Mv S H H')(n:NT S H)(h:H a=some (.tup xs)):H' a=some (.tup xs):=m _ _ (fun z=>by
 obtain⟨o,e,no⟩:=n a z;rw[e]at h;cases h;exact no) h
theorem Wt.mv{S:List Δ}{H H':Hp}{v:V}{o:Option (Int×Int)}(m:Mv S H H')(n:NT S H)(h:Wt H v o):Wt H' v o:=by
 cases o with
 |none=>exact h
 |some p=>obtain⟨w,e,r⟩:=h;exact⟨w,e,m.tup n r⟩
theorem GH.mv{S:List Δ}{H H':Hp}{a:Δ}{e:Kb}(m:Mv S H H')(n:NT S H)(h:GH H a e):GH H' a e:=by
 obtain⟨v,r,w⟩:=h
 exact⟨v,m.tup n r,w.mv m n⟩
theorem GH.same{H H':Hp}{a:Δ}{e:Kb}(s:FV H H')(h:GH H a e):GH H' a e:=h.mv (S:=[]) s.mv (fun c h=>nomatch h)
theorem HJ.mv{S:List Δ}{H H':Hp}{d:Δ}{kn:Kw}(m:Mv S H H')(n:NT S H)(hd:d∉S)(h:HJ H d kn):HJ H' d kn:=by
 obtain⟨f,r,w,p⟩:=h
 exact⟨f,m _ _ hd r,fun e he=>(w e he).mv m n,p⟩
theorem oy(f:Str->Δ)(nm:Str):∀kn:Kw,Zr (gU kn f) (Sum.inr nm:qJ)=(kn.lookup nm).map fun _=>V.ref (f nm)
 | []=>rfl
 |(m,e)::r=>by
  show Zr ((Sum.inr m,V.ref (f m))::gU r f) (Sum.inr nm)=_
  by_cases q:m=nm
  ·subst q
   rw[aG rfl,List.lookup_cons_self];rfl
  ·rw[aH (by intro z;injection z with z;exact q z),DX,EZ (fun z=>q z.symm)]
   exact oy f nm r
theorem zC{nm:Str}{e:Kb}:∀{kn:Kw},kn.lookup nm=some e->(nm,e)∈kn
 |(m,x)::r,h=>by
  rw[DX]at h
  by_cases q:nm=m
  ·subst q
   rw[EN]at h;cases h;exact Jy ..
  ·rw[EZ q]at h
   exact JE _ (zC h)
theorem Ga{nm:Str}:∀{kn:Kw},(kn.lookup nm).isSome=true↔nm∈kn.map (·.1)
 | []=>by simp
 |(m,x)::r=>by
  rw[DX,JU,Jl]
  by_cases q:nm=m
  ·subst q;simp
  ·rw[EZ q]
   simp only[q,false_or];exact Ga
theorem jh(kn:Kw)(nm:Str)(e:Kb):(zb kn nm e).map (·.1)=if nm∈kn.map (·.1)then kn.map (·.1)else kn.map (·.1)++[nm]:=by
 unfold zb;split
 ·rw[Eb]
  refine Fh fun p hp=>?_
  simp only[Function.comp]
  by_cases y:p.1=nm
  ·rw[Jc y,y]
  ·rw[Jb y]
 ·rw[JW];rfl
theorem nR{kn:Kw}(nd:(kn.map (·.1)).Nodup)(nm:Str)(e:Kb):((zb kn nm e).map (·.1)).Nodup:=by
 rw[jh];split
 ·exact nd
 ·rename_i z
  exact E3.mpr ⟨nd,by simp,fun a ha b hb=>by rw[Jj.mp hb];exact fun w=>z (w▸ha)⟩
theorem QU{nm:Str}{e:Kb}:∀{kn:Kw},(kn.map (·.1)).Nodup->kn.lookup nm=some e->∀p∈kn,p.1=nm->p=(nm,e)
 | [],_,h,_,hp,_=>by cases hp
 |(m,x)::r,nd,h,p,hp,hn=>by
  have nd':m∉r.map (·.1)/\(r.map (·.1)).Nodup:=DT.mp nd
  rw[DX]at h
  by_cases q:nm=m
  ·subst q
   rw[EN]at h;cases h;rcases Jl.mp hp with rfl|hp
   ·rfl
   ·exact absurd (Ju.mpr ⟨p,hp,hn⟩) nd'.1
  ·rw[EZ q]at h
   rcases Jl.mp hp with rfl|hp
   ·exact absurd hn.symm q
   ·exact QU nd'.2 h p hp hn
theorem nJ{k0 kn:Kw}(pm:k0.Perm kn)(nd:(kn.map (·.1)).Nodup)(nm:Str):k0.lookup nm=kn.lookup nm:=by
 cases e:k0.lookup nm with
 |none=>
  cases e':kn.lookup nm with
  |none=>rfl
  |some x=>
   have:(k0.lookup nm).isSome=true:=Ga.mpr ((pm.map (·.1)).mem_iff.mpr (Ga.mp (by rw[e'];rfl)))
   rw[e]at this;cases this
 |some x=>
  obtain⟨y,hy⟩:∃y,kn.lookup nm=some y:=FC.mp (Ga.mpr (Ju.mpr ⟨_,pm.mem_iff.mp (zC e),rfl⟩))
  rw[hy]
  have:=QU nd hy _ (pm.mem_iff.mp (zC e)) rfl
  cases this;rfl
theorem HJ.get{H:Hp}{d:Δ}{kn:Kw}(h:HJ H d kn)(nm:Str):(kn.lookup nm=none/\GV H d (.str nm) none)\/∃e a,kn.lookup nm=some e/\GV H d (.str nm) (some (.ref a))/\GH H a e:=by
 obtain⟨⟨k0,f⟩,hd,hb,pm,nd⟩:=h;have g:=GV.k (k:=Sum.inr nm) hd
 rw[oy,nJ pm nd]at g;cases q:kn.lookup nm with
 |none=>rw[q]at g;exact .inl ⟨rfl,g⟩
 |some e=>rw[q]at g;exact .inr ⟨e,f nm,rfl,g,hb _ (zC q)⟩
theorem iW{k0 kn:Kw}(pm:k0.Perm kn)(nm:Str)(e:Kb):(zb k0 nm e).Perm (zb kn nm e):=by
 unfold zb
 by_cases z:nm∈kn.map (·.1)
 ·rw[Jc ((pm.map (·.1)).mem_iff.mpr z),Jc z];exact pm.map _
 ·rw[Jb (fun w=>z ((pm.map (·.1)).mem_iff.mp w)),Jb z];exact pm.append_right _
theorem HJ.put{H:Hp}{d a:Δ}{kn:Kw}{e:Kb}(h:HJ H d kn)(nm:Str)(hl:kn.length<=100)(hb:GH H a e):∃H',HX H d (.str nm) (.ref a) H'/\Mv [d] H H'/\HJ H' d (zb kn nm e):=by
 obtain⟨⟨k0,f⟩,hd,hk0,pm,nd⟩:=h;have hlen:(gU k0 f).length=kn.length:=(Je _).trans pm.length_eq
 have hk:∀e∈k0,GH H (f e.1) e.2:=fun e he=>hk0 e (pm.mem_iff.mp he)
 refine⟨_,HX.k (k:=Sum.inr nm) hd (by rw[hlen];exact xi _),Mv.upd1,(zb k0 nm e,fun n=>if n=nm then a else f n),?_,?_,iW pm nm e,nR nd nm e⟩
 ·rw[qb]
  congr 2
  unfold GQ zb gU;have ea:((k0.map fun e=>((Sum.inr e.1:qJ),V.ref (f e.1))).any fun kv=>decide (kv.1=(Sum.inr nm:qJ)))=true↔nm∈k0.map (·.1):=by
   rw[List.any_eq_true];constructor
   ·rintro⟨p,hp,z⟩
    obtain⟨q,hq,rfl⟩:=Ju.mp hp;have z':(Sum.inr q.1:qJ)=Sum.inr nm:=Jv z
    injection z' with z'
    exact Ju.mpr ⟨q,hq,z'⟩
   ·intro z
    obtain⟨q,hq,e⟩:=Ju.mp z
    exact⟨_,Ju.mpr ⟨q,hq,rfl⟩,Jg (by rw[e])⟩
  by_cases z:nm∈k0.map (·.1)
  ·rw[Jc (ea.mpr z),Jc z,Eb,Eb]
   refine Fh fun p hp=>?_
   simp only[Function.comp]
   by_cases y:p.1=nm
   ·rw[Jc (by rw[y]),Jc y]
    simp [y]
   ·rw[Jb (by intro w;injection w with w;exact y w),Jb y]
    simp [y]
  ·rw[Jb (fun w=>z (ea.mp w)),Jb z,JW]
   congr 1
   ·refine Fh fun p hp=>?_
    have y:¬p.1=nm:=fun w=>z (Ju.mpr ⟨p,hp,w⟩)
    simp [y]
   ·simp
 ·have nt:NT [d] H:=NT.one hd trivial
  intro p hp;have hp:=(iW pm nm e).mem_iff.mpr hp;have hb':=hb.mv (Mv.upd1 (o:= .dK (GQ (gU k0 f) (Sum.inr nm) (.ref a)))) nt
  unfold zb at hp;split at hp
  ·obtain⟨q,hq,rfl⟩:=Ju.mp hp
   by_cases y:q.1=nm
   ·rw[Jc y];simp only[D4];exact hb'
   ·rw[Jb y]
    show GH _ (if q.1=nm then a else f q.1) q.2
    rw[Jb y]
    exact(hk q hq).mv Mv.upd1 nt
  ·rename_i z
   rcases JC.mp hp with hq|hq
   ·have y:¬p.1=nm:=fun w=>z (Ju.mpr ⟨p,hq,w⟩)
    show GH _ (if p.1=nm then a else f p.1) p.2
    rw[Jb y]
    exact(hk p hq).mv Mv.upd1 nt
   ·rw[Jj.mp hq];simp only[D4];exact hb'
def Gm(K:ι)(H:Hp)(hk:Δ)(kss:List (List Int)):Prop:=∃as:List Δ,H hk=some (.lst (as.map V.ref))/\as.length=kss.length/\∀(i:Nat) (a:Δ) (ks:List Int),as[i]? =some a->kss[i]? =some ks->F7 K H a (ks.map V.int)
theorem Gm.mv{K:ι}{S:List Δ}{H H':Hp}{hk:Δ}{kss:List (List Int)}(m:Mv S H H')(n:NT S H)(hd:hk∉S)(h:Gm K H hk kss):Gm K H' hk kss:=by
 obtain⟨as,e,l,r⟩:=h
 exact⟨as,m _ _ hd e,l,fun i a ks e1 e2=>m.sqt n (r i a ks e1 e2)⟩
structure Dr where
 t:List Int
 kss:List (List Int)
 near:Int
 far:Int
 most:Int
 least:Int
 kn:Kw
def dF(D:Dr)(ta hk bd lg:Δ):List (Str×V):=
 [("table",.ref ta),("house_keys",.ref hk),("near",.int D.near),("far",.int D.far),("most",.int D.most),("least_age",.int D.least),("buttons",.ref bd),("log",.ref lg)]
def dN:List Str:=["table","house_keys","near","far","most","least_age","buttons","log"]
theorem CP:dN.Nodup:=by decide +kernel
theorem xo(D:Dr)(ta hk bd lg:Δ):((dF D ta hk bd lg).map (·.1)).Nodup:=CP
structure GW(K:ι)(C:Δ):Prop where
 cl:Ih K C
 n_table:Gk K C "table"
 n_house_keys:Gk K C "house_keys"
 n_near:Gk K C "near"
 n_far:Gk K C "far"
 n_most:Gk K C "most"
 n_least_age:Gk K C "least_age"
 n_buttons:Gk K C "buttons"
 n_log:Gk K C "log"
structure FX(K:ι)(C:Δ)(H:Hp)(p ta hk bd lg:Δ)(n:Nat)(D:Dr):Prop where
 ob:∃dx,H p=some (.ins C dx (dF D ta hk bd lg))
 tb:F7 K H ta (D.t.map V.int)
 ks:Gm K H hk D.kss
 kb:HJ H bd D.kn
 lo:∃rs:List Δ,H lg=some (.lst (rs.map V.ref))/\rs.length<=n
 ne:lg≠hk
section
variable{K:ι}{C:Δ}{H H':Hp}{p ta hk bd lg dx:Δ}{n:Nat}{D:Dr}
theorem FX.has(b:FX K C H p ta hk bd lg n D)(U:GW K C)(i:Nat){f:Str}{v:V}(h:(dF D ta hk bd lg)[i]? =some (f,v))(na:Gk K C f):bq K H p f v:=by
 obtain⟨dx,e⟩:=b.ob
 exact⟨C,dx,_,e,U.cl,na,ja i h (xo ..)⟩
theorem FX.h_table(b:FX K C H p ta hk bd lg n D)(U:GW K C):bq K H p "table" (.ref ta):=b.has U 0 rfl U.n_table
theorem FX.h_house_keys(b:FX K C H p ta hk bd lg n D)(U:GW K C):bq K H p "house_keys" (.ref hk):=b.has U 1 rfl U.n_house_keys
theorem FX.h_near(b:FX K C H p ta hk bd lg n D)(U:GW K C):bq K H p "near" (.int D.near):=b.has U 2 rfl U.n_near
theorem FX.h_far(b:FX K C H p ta hk bd lg n D)(U:GW K C):bq K H p "far" (.int D.far):=b.has U 3 rfl U.n_far
theorem FX.h_most(b:FX K C H p ta hk bd lg n D)(U:GW K C):bq K H p "most" (.int D.most):=b.has U 4 rfl U.n_most
theorem FX.h_least_age(b:FX K C H p ta hk bd lg n D)(U:GW K C):bq K H p "least_age" (.int D.least):=b.has U 5 rfl U.n_least_age
theorem FX.h_buttons(b:FX K C H p ta hk bd lg n D)(U:GW K C):bq K H p "buttons" (.ref bd):=b.has U 6 rfl U.n_buttons
theorem FX.h_log(b:FX K C H p ta hk bd lg n D)(U:GW K C):bq K H p "log" (.ref lg):=b.has U 7 rfl U.n_log
theorem FX.no(b:FX K C H p ta hk bd lg n D){m:Str}(h:m∉dN:=by decide +kernel):C2 C H p m:=by
 obtain⟨dx,e⟩:=b.ob
 exact⟨dx,_,e,jQ h⟩
theorem FX.mv{S:List Δ}(b:FX K C H p ta hk bd lg n D)(m:Mv S H H')(nt:NT S H)(hp:p∉S)(hh:hk∉S)(hb:bd∉S)(hl:lg∉S):FX K C H' p ta hk bd lg n D:=by
 obtain⟨dx,e⟩:=b.ob;obtain⟨rs,el,l⟩:=b.lo
 exact⟨⟨dx,m _ _ hp e⟩,m.sqt nt b.tb,b.ks.mv m nt hh,b.kb.mv m nt hb,⟨rs,m _ _ hl el,l⟩,b.ne⟩
theorem FX.same(b:FX K C H p ta hk bd lg n D)(s:FV H H'):FX K C H' p ta hk bd lg n D:=b.mv (S:=[]) s.mv (fun c h=>nomatch h) (fun h=>nomatch h) (fun h=>nomatch h) (fun h=>nomatch h) (fun h=>nomatch h)
end
def Dm:R2:=fun x y H Q=>∃(o:Option (Int×Int)) (b:Δ) (a c:Int),Wt H x o/\y= .ref b/\Rd H b (.tup [.int a,.int c])/\Q (.bl (decide (o=some (a,c)))) H
theorem sS{X:Cx}{k:Nat}(hr:Gg k X.A):zw X (compareOp .Eq) Dm:=by
 intro tx s σ H x y v u Q I rx ry h;obtain⟨o,b,a,c,hw,rfl,hb,q⟩:=h;cases ry;obtain⟨its2,r2,p2,_⟩:=I.tuple (.inl hb)
 have hu:X.A.units<cLine:=by have:=hr.un;lia
 cases o with
 |none=>
  have hw':x= .non:=hw
  subst hw';cases rx;rw[Jm (by intro z;cases z)]at q
  exact SeqAt.RcAt.none_tuple p2 hu _ _ _ _ ⟨.bl false,H,I,rfl,q⟩
 |some pr=>
  obtain⟨x1,x2⟩:=pr;obtain⟨w,rfl,hw'⟩:=hw;cases rx;obtain⟨its,r1,p1,_⟩:=I.tuple (.inl (.inl hw'))
  have l1:=r1.length;have l2:=r2.length;have e1:=SeqAt.RcAt.tuples (A:=X.A) (e:=fun j=>[x1,x2].getD j 0==[a,c].getD j 0) (show s.heap.IsTuple w its.toArray from p1) (show s.heap.IsTuple b its2.toArray from p2) hu (fun j h1 h2=>by
   have h1':j<its.length:=by simpa using h1
   have h2':j<its2.length:=by simpa using h2
   obtain⟨t,e⟩:=fj (ns:=[x1,x2]) r1 j h1' (by rw[<- l1]at h1';exact h1')
   obtain⟨t',e'⟩:=fj (ns:=[a,c]) r2 j h2' (by rw[<- l2]at h2';exact h2')
   simp only[List.getElem_toArray,e,e',JI,Jk (show j<[x1,x2].length by rw[<- l1]at h1';exact h1'),Jk (show j<[a,c].length by rw[<- l2]at h2';exact h2'),Eg]
   exact SeqAt.EqAt.int_int _ _ _ _)
  have z1:its.toArray.size=2:=by rw[Js,<- l1];rfl
  have z2:its2.toArray.size=2:=by rw[Js,<- l2];rfl
  refine e1 _ _ _ _ ⟨.bl _,H,I,?_,q⟩
  show Γ.bool _=Γ.bool _
  congr 1
  rw[z1,z2,show min 2 2=([x1,x2]:List Int).length from rfl,uQ [x1,x2] [a,c] rfl]
  simp
def rK(c l n f:Int):Str:=if c<=l then "old" else if c<=l+n then "near" else if c<=l+f then "far" else "beyond"
def oM:Sp:=fun vs H Q _=>∃c l n f:Int,vs=[.int c,.int l,.int n,.int f]/\Q (.str (rK c l n f)) H
def zv(near far:Int)(e:Kb)(age c:Int):Str×Kb:=
 if c<=e.last then("old",e)else if c<=e.last+near then("near",⟨age,c,none⟩)
 else if c<=e.last+far then(if e.wt=some (age,c-1)then("near",⟨age,c,none⟩)else("far",⟨e.age,e.last,some (age,c)⟩))else("beyond",e)
def iH:Sp:=fun vs H Q _=>∃(a:Δ) (e:Kb) (age c near far:Int),vs=[.ref a,.int age,.int c,.int near,.int far]/\GH H a e/\
 ∀q a' H',FV H H'->H' q=some (.tup [.str (zv near far e age c).1,.ref a'])->GH H' a' (zv near far e age c).2->Q (.ref q) H'
def QH(D:Dr)(age:Int):Bool:=decide (D.least<=age)&&decide (age<D.kss.length)
def qH(D:Dr)(e:Kb)(age:Int):Bool:=QH D age&&decide (e.age<=age)
def qT(D:Dr)(nm:Str)(age:Int)(r:Option (Int×Int)):List V×Kw:=
 match D.kn.lookup nm with
 |none=>([.str "held",.str "unknown"],D.kn)
 |some e=>if qH D e age=true then(match r with
   |none=>([.str "held",.str "false"],D.kn)
   |some (c,d)=>if(zv D.near D.far e age c).1="near" then([.str "open",.str nm,.int d],zb D.kn nm (zv D.near D.far e age c).2)else([.str "held",.str (zv D.near D.far e age c).1],zb D.kn nm (zv D.near D.far e age c).2))
  else([.str "held",.str "age"],D.kn)
structure GZ(D:Dr):Prop where
 tp:D.t.Perm Gx
 l0:0<=D.least
 kl:D.kss.length<=8
 nl:D.kn.length<=60
 nd:(D.kn.map (·.1)).Nodup
section
variable(K:ι)(C:Δ)
def ox:Sp:=fun vs H Q _=>∃(p ta hk bd lg:Δ) (n:Nat) (D:Dr),vs=[.ref p]/\FX K C H p ta hk bd lg n D/\Q (.bl (decide (D.most<=(D.kn.length:Int)))) H
def fK:Sp:=fun vs H Q _=>∃(p ta hk bd lg:Δ) (n:Nat) (D:Dr) (age:Int),vs=[.ref p,.int age]/\FX K C H p ta hk bd lg n D/\Q (.bl (QH D age)) H
def bF:Sp:=fun vs H Q _=>∃(p ta hk bd lg a:Δ) (n:Nat) (D:Dr) (e:Kb) (age:Int),vs=[.ref p,.ref a,.int age]/\FX K C H p ta hk bd lg n D/\GH H a e/\Q (.bl (qH D e age)) H
def gX:Sp:=fun vs H Q _=>∃(p ta hk bd lg:Δ) (n:Nat) (D:Dr) (nm:Str),vs=[.ref p,.str nm]/\FX K C H p ta hk bd lg n D/\
 (D.kn.lookup nm=none->Q .non H)/\(∀e a,D.kn.lookup nm=some e->GH H a e->Q (.ref a) H)
def nN:Sp:=fun vs H Q _=>∃(p ta hk bd lg a:Δ) (n:Nat) (D:Dr) (e:Kb) (age c:Int),vs=[.ref p,.ref a,.int age,.int c]/\FX K C H p ta hk bd lg n D/\GH H a e/\qH D e age=true/\
 ∀q a' H',FV H H'->H' q=some (.tup [.str (zv D.near D.far e age c).1,.ref a'])->GH H' a' (zv D.near D.far e age c).2->Q (.ref q) H'
def Gy(H:Hp)(pr:Δ)(nm:Str)(age:Int)(ds:List Int):Prop:=∃pc,H pr=some (.tup [.str nm,.int age,.ref pc])/\H pc=some (.tup (ds.map V.int))
def Qs(D:Dr)(age:Int):List Int:=D.kss.getD age.toNat []
def i8:Sp:=fun vs H Q _=>∃(p ta hk bd lg pr:Δ) (n:Nat) (D:Dr) (nm:Str) (age:Int) (ds:List Int),vs=[.ref p,.ref pr]/\FX K C H p ta hk bd lg n D/\GZ D/\Gy H pr nm age ds/\QQ nm/\ds.length=5/\zy ds/\
 ∀q H',Mv [bd] H H'->H' q=some (.tup (qT D nm age (Zl D.t (Qs D age) nm ds)).1)->FX K C H' p ta hk bd lg n {D with kn:=(qT D nm age (Zl D.t (Qs D age) nm ds)).2}->Q (.ref q) H'
end
theorem Gy.mv{S:List Δ}{H H':Hp}{pr:Δ}{nm:Str}{age:Int}{ds:List Int}(m:Mv S H H')(n:NT S H)(h:Gy H pr nm age ds):Gy H' pr nm age ds:=by
 obtain⟨pc,e1,e2⟩:=h
 exact⟨pc,m.tup n e1,m.tup n e2⟩
theorem Gy.same{H H':Hp}{pr:Δ}{nm:Str}{age:Int}{ds:List Int}(s:FV H H')(h:Gy H pr nm age ds):Gy H' pr nm age ds:=by
 obtain⟨pc,e1,e2⟩:=h
 exact⟨pc,s _ _ e1,s _ _ e2⟩
theorem jI{X:Cx}:zw X (compareOp .LtE) (fun x y H Q=>∃i j,x= .str i/\y= .str j/\Q (.bl (!decide (j.cps.toList<i.cps.toList))) H):=by
 intro tx s σ H x y v u Q I rx ry h;obtain⟨i,j,rfl,rfl,q⟩:=h;obtain⟨t,rfl⟩:=rx;obtain⟨t',rfl⟩:=ry;exact PySem.P.le_str (qO I q rfl)
theorem vB{js:List Nat}{te:TE}{σ:L2.St}{H:Hp}{Q:VK}{x:Str}(hn:x.cps.size<=ζ)(Pv:Nat->List V->Hp->Prop)(h0:Pv 0 [] H)
  (hs:∀i ys H c,x.cps[i]? =some c->ys.length=i->Pv i ys H->te (some (.str ⟨#[c]⟩)::aS js σ) H fun v H3=>Pv (i+1) (ys++[v]) H3)
  (hd:∀ys H,ys.length=x.cps.size->Pv x.cps.size ys H->∀p,H p=none->Q (.ref p) (F2 H p (.lst ys))):gQ (xh x) js te σ H Q:=
 bO hn (fun i v=>∃c,x.cps[i]? =some c/\v= .str ⟨#[c]⟩) Pv h0 (fun i ys H hi p=>hi) (fun ys H p=>Jf _) (fun i ys H v H' _ p y=>y) (fun i ys H v hi hl p hx=>by
  obtain⟨c,hc,rfl⟩:=hx;exact hs i ys H c hc hl p) hd
theorem vh{ds:List Int}(h:zy ds):(ds.map V.int).all cf=true:=by
 rw[EK];intro x hx;obtain⟨i,hi,rfl⟩:=Ju.mp hx
 have:=h i hi
 show(decide (0<=i)&&decide (i<16))=true
 rw[Jg this.1,Jg this.2];rfl
theorem Qb{c:Bool}{a b:Prop}(h:c=true)(x:a):if c=true then a else b:=by rw[Jc h];exact x
theorem Qa{c:Bool}{a b:Prop}(h:c=false)(x:b):if c=true then a else b:=by rw[Jb (by rw[h];intro z;cases z)];exact x
theorem zo{K:ι}{C p dx:Δ}{H:Hp}{fs:List (Str×V)}{f:Str}{v:V}(c:Ih K C)(e:H p=some (.ins C dx fs))(n:Gk K C f)(i:Nat)(hns:fs.map (·.1)=dN.take i:=by rfl)(hn:f∉dN.take i:=by decide +kernel):
  ko K H p f v (F2 H p (.ins C dx (fs++[(f,v)]))):=⟨C,dx,fs,e,c,n,by
  have h1:fs.length=(dN.take i).length:=by rw[<- hns,Je]
  have h2:(dN.take i).length<=8:=by rw[Ed];exact Nat.min_le_right _ _
  lia,by rw[lS (by rw[hns];exact hn)]⟩
theorem Gm.upd{K:ι}{C p dx b:Δ}{H:Hp}{fs:List (Str×V)}{kss:List (List Int)}{o:HO}(e:H p=some (.ins C dx fs))(h:Gm K H b kss):Gm K (F2 H p o) b kss:=by
 obtain⟨as,e1,l,r⟩:=id h;exact h.mv Mv.upd1 (NT.one e trivial) (zf (Qe e1 e (by intro z;cases z)))
theorem Gm.same{K:ι}{H H':Hp}{b:Δ}{kss:List (List Int)}(s:FV H H')(h:Gm K H b kss):Gm K H' b kss:=h.mv (S:=[]) s.mv (fun c h=>nomatch h) (fun h=>nomatch h)
theorem Mv.nfree{S:List Δ}{H H':Hp}{x:Δ}(m:Mv S H H')(hn:x∉S)(h:H' x=none):H x=none:=by
 cases e:H x with
 |none=>rfl
 |some o=>rw[m x o hn e]at h;cases h
theorem Gm.at{K:ι}{H:Hp}{hk:Δ}{D:Dr}{age:Int}(h:Gm K H hk D.kss)(h0:0<=age)(h1:age<D.kss.length):∃(xs:List V) (ak:Δ),H hk=some (.lst xs)/\Ql xs age=some (.ref ak)/\F7 K H ak ((Qs D age).map V.int):=by
 obtain⟨as,e,l,r⟩:=h;obtain⟨i,rfl⟩:∃i:Nat,age=(i:Int):=⟨age.toNat,by lia⟩
 have hi:i<D.kss.length:=by lia
 have hi':i<as.length:=by lia
 refine⟨_,as[i],e,Qk (by rw[Jq,Jk hi'];rfl),?_⟩
 have:=r i as[i] D.kss[i] (Jk hi') (Jk hi)
 unfold Qs;rw[Ei,JI,Jk hi];exact this
theorem aV{D:Dr}{e:Kb}{age:Int}(h:qH D e age=true)(h0:0<=D.least):0<=age/\age<D.kss.length:=by
 unfold qH QH at h;rw[Jt,Jt]at h;have h1:=Jv h.1.1;have h2:=Jv h.1.2;lia
theorem FX.putK{K:ι}{C:Δ}{H H':Hp}{p ta hk bd lg:Δ}{n:Nat}{D:Dr}{kn':Kw}(b:FX K C H p ta hk bd lg n D)(m:Mv [bd] H H')(kb:HJ H' bd kn'):FX K C H' p ta hk bd lg n {D with kn:=kn'}:=by
 obtain⟨dx,e⟩:=b.ob;obtain⟨f,hd,_⟩:=b.kb;obtain⟨rs,el,l⟩:=b.lo;obtain⟨as,eh,_⟩:=id b.ks;have nt:NT [bd] H:=NT.one hd trivial
 exact⟨⟨dx,m _ _ (zf (Qe e hd (by intro z;cases z))) e⟩,m.sqt nt b.tb,b.ks.mv m nt (zf (Qe eh hd (by intro z;cases z))),kb,⟨rs,m _ _ (zf (Qe el hd (by intro z;cases z))) el,l⟩,b.ne⟩
theorem FX.putL{K:ι}{C:Δ}{H:Hp}{p ta hk bd lg r:Δ}{n:Nat}{D:Dr}{rs:List Δ}(b:FX K C H p ta hk bd lg n D)(el:H lg=some (.lst (rs.map V.ref)))(hl:rs.length<=n):FX K C (F2 H lg (.lst (rs.map V.ref++[.ref r]))) p ta hk bd lg (n+1) D:=by
 obtain⟨dx,e⟩:=b.ob;obtain⟨f,hd,_⟩:=id b.kb;have nt:NT [lg] H:=NT.one el trivial
 have m:Mv [lg] H (F2 H lg (.lst (rs.map V.ref++[.ref r]))):=Mv.upd1
 exact⟨⟨dx,m _ _ (zf (Qe e el (by intro z;cases z))) e⟩,m.sqt nt b.tb,b.ks.mv m nt (zf b.ne.symm),b.kb.mv m nt (zf (Qe hd el (by intro z;cases z))),⟨rs++[r],by rw[qb,JW];rfl,by rw[Jw];exact EA hl⟩,b.ne⟩
theorem Ig.pair{H:Hp}{a b:Δ}{z:Str}{i:Int}(h1:H a=some (.tup [.str z,.int i]))(h2:H b=some (.tup [.str z,.int i])):Ig H 1 (.ref a) (.ref b):=
 .tup (n:=0) (.inl h1) (.inl h2) rfl fun j x y ex ey=>by
  match j,ex,ey with
  |0,ex,ey=>cases ex;cases ey;exact .str _ _
  |1,ex,ey=>cases ex;cases ey;exact .int _ _
  |j+2,ex,ey=>cases ex
abbrev yb(a b:Str):Prop:=a.cps.toList<=b.cps.toList
theorem BK{a b:Str}(h:ltCps b.cps.toList a.cps.toList=false):yb a b:=by
 rw[ltCps_eq]at h;exact List.not_lt.mp (of_decide_eq_false h)
theorem jk:∀{l:List Str} {p:Str},risingS p l=true->(p::l).Pairwise yb
 | [],p,_=>by simp
 |x::r,p,h=>by
  have h':(!ltCps x.cps.toList p.cps.toList&&risingS x r)=true:=h
  rw[Jt,Bool.not_eq_true']at h';have ih:=jk h'.2;have hpx:=BK h'.1;refine List.pairwise_cons.mpr ⟨fun y hy=>?_,ih⟩
  rcases Jl.mp hy with rfl|hy
  ·exact hpx
  ·exact List.le_trans hpx ((List.pairwise_cons.mp ih).1 y hy)
theorem gS{l:List Str}(h:sortedS l=true):l.Pairwise yb:=by
 cases l with
 |nil=>exact .nil
 |cons x r=>exact jk h
theorem nz{l a b:List Str}(pa:a.Perm l)(sa:sortedS a=true)(pb:b.Perm l)(sb:sortedS b=true):a=b:=by
 refine List.Perm.eq_of_pairwise (le:=yb) (fun x y _ _ h1 h2=>?_) (gS sa) (gS sb) (pa.trans pb.symm)
 have e:x.cps.toList=y.cps.toList:=List.le_antisymm h1 h2
 cases x with
 |mk u=>cases y with
  |mk v=>
   have:u=v:=Array.toList_inj.mp e
   rw[this]
def Di(H:Hp)(q:Δ)(ss:List Str)(kn:Kw):Prop:=∃as:List Δ,H q=some (.tup (as.map V.ref))/\as.length=ss.length/\∀(i:Nat) (a:Δ) (nm:Str) (e:Kb),as[i]? =some a->ss[i]? =some nm->kn.lookup nm=some e->∃v,H a=some (.tup [.str nm,.int e.age,.int e.last,v])/\Wt H v e.wt
def mr(K:ι)(C:Δ):Sp:=fun vs H Q _=>∃(p ta hk bd lg:Δ) (n:Nat) (D:Dr),vs=[.ref p]/\FX K C H p ta hk bd lg n D/\GZ D/\
 ∀q ss H',FV H H'->ss.Perm (D.kn.map (·.1))->sortedS ss=true->Di H' q ss D.kn->Q (.ref q) H'
theorem AJ{X:Cx}{K:ι}{e:Φ}{f:Str}{pos:Pos}{ta:TE}(hK:X.K=K)(he:QE X e ta)(hb:attributeBase e f X.env (eval e X.env)=eval e X.env:=by rfl):QE X (.Attribute e f pos) (xb K ta f):=by
 subst hK;exact qY he hb
theorem yM(kn:Kw)(f:Str->Δ):(gU kn f).map (·.1)=(kn.map (·.1)).map Sum.inr:=by
 unfold gU;rw[Eb,Eb];rfl
theorem Q1{kn:Kw}{nm:Str}(h:nm∈kn.map (·.1)):∃e,kn.lookup nm=some e:=FC.mp (Ga.mpr h)
theorem lR:∀(more kvs:List (qJ×V)),((kvs++more).map (·.1)).Nodup->Zu kvs more=kvs++more
 | [],kvs,_=>by simp [Zu]
 |p::r,kvs,nd=>by
  have hn:p.1∉kvs.map (·.1):=fun z=>by
   rw[JW,JU]at nd
   exact(E3.mp nd).2.2 _ z _ (Jy ..) rfl
  show Zu (GQ kvs p.1 p.2) r=_
  rw[Aa hn,lR r (kvs++[(p.1,p.2)]) (by rw[Ee];exact nd),Ee]
  rfl
theorem uW{kn:Kw}{nm:Str}{x:Kb}{e:Str×Kb}(h:e∈zb kn nm x):e∈kn\/e=(nm,x):=by
 unfold zb at h;split at h
 ·obtain⟨p,hp,rfl⟩:=Ju.mp h
  by_cases y:p.1=nm
  ·rw[Jc y];exact .inr rfl
  ·rw[Jb y];exact .inl hp
 ·rcases JC.mp h with h|h
  ·exact .inl h
  ·exact .inr (Jj.mp h)
theorem kz{kn:Kw}{nm:Str}{e:Kb}:∀{l:Kw},(∀p∈l,p.1=nm->p=(nm,e))->l.map (fun p=>if p.1=nm then(nm,e)else p)=l
 | [],_=>rfl
 |p::r,h=>by
  rw[JU,kz (kn:=kn) fun q hq=>h q (JE _ hq)]
  by_cases y:p.1=nm
  ·rw[Jc y,h p (Jy ..) y]
  ·rw[Jb y]
theorem tG{kn:Kw}{nm:Str}{e:Kb}(nd:(kn.map (·.1)).Nodup)(h:kn.lookup nm=some e):zb kn nm e=kn:=by
 unfold zb;rw[Jc (Ga.mp (by rw[h];rfl))]
 exact kz (kn:=kn) (QU nd h)
theorem pT{kn:Kw}{nm:Str}{e x:Kb}(h:kn.lookup nm=some e):(zb kn nm x).map (·.1)=kn.map (·.1):=by
 rw[jh,Jc (Ga.mp (by rw[h];rfl))]
theorem yz{X:Cx}:∀u e,([]:List (Str×Δ)).lookup u=some e->X.env.cells.lookup u=some e:=fun u e h=>by cases h
theorem fU{X:Cx}{y:Str}{c:Δ}{l:List (Str×Δ)}(h:X.env.cells.lookup y=some c)(r:∀u e,l.lookup u=some e->X.env.cells.lookup u=some e):∀u e,((y,c)::l).lookup u=some e->X.env.cells.lookup u=some e:=fun u e he=>by
 by_cases hu:u=y
 ·subst hu
  simp at he
  rw[<- he];exact h
 ·rw[DX,show(u==y)=false from by simpa using hu]at he
  exact r u e he
theorem kF(nm:Str)(e:Kb):List.lookup nm [(nm,e)]=some e:=by simp
theorem FX.setF{K:ι}{C:Δ}{H:Hp}{p dx:Δ}{fs:List (Str×V)}{f:Str}{u v:V}(i:Nat)(c:Ih K C)(na:Gk K C f)(e:H p=some (.ins C dx fs))(hf:fs[i]? =some (f,u))(nd:(fs.map (·.1)).Nodup)(hl:fs.length<1000):
  ko K H p f v (F2 H p (.ins C dx (fs.set i (f,v)))):=⟨C,dx,fs,e,c,na,hl,by rw[nW i hf nd]⟩
section
variable{K:ι}{C:Δ}{H:Hp}{p ta hk bd lg dx:Δ}{D:Dr}
theorem se(U:GW K C)(e:H p=some (.ins C dx (dF D ta hk bd lg)))(z:Int):ko K H p "least_age" (.int z) (F2 H p (.ins C dx (dF {D with least:=z} ta hk bd lg))):=FX.setF 5 U.cl U.n_least_age e rfl (xo ..) (by show 8<1000;decide)
end
theorem lM{kn:Kw}{nm:Str}{x:Kb}(nd:(kn.map (·.1)).Nodup):(zb kn nm x).lookup nm=some x:=by
 have hm:(nm,x)∈zb kn nm x:=by
  unfold zb;split
  ·rename_i h
   obtain⟨p,hp,e⟩:=Ju.mp h;exact Ju.mpr ⟨p,hp,Jc e⟩
  ·exact J8 _ (Jj.mpr rfl)
 obtain⟨y,hy⟩:=Q1 (Ju.mpr ⟨_,hm,rfl⟩)
 have:=QU (nR nd nm x) hy _ hm rfl
 cases this;exact hy
theorem nu{kn:Kw}{nm z:Str}{x:Kb}(nd:(kn.map (·.1)).Nodup)(h:z≠nm):(zb kn nm x).lookup z=kn.lookup z:=by
 have back:∀{e:Kb},(z,e)∈zb kn nm x->(z,e)∈kn:=fun{e} hm=>(uW hm).resolve_right (fun q=>h (JX Prod.fst q))
 have forth:∀{e:Kb},(z,e)∈kn->(z,e)∈zb kn nm x:=fun{e} hm=>by
  unfold zb;split
  ·exact Ju.mpr ⟨_,hm,Jb h⟩
  ·exact E9 _ hm
 cases e1:kn.lookup z with
 |some e=>
  obtain⟨e',he'⟩:=Q1 (Ju.mpr ⟨_,forth (zC e1),rfl⟩)
  have:=QU nd e1 _ (back (zC he')) rfl
  cases this;exact he'
 |none=>
  cases e2:(zb kn nm x).lookup z with
  |none=>rfl
  |some e=>
   have:(kn.lookup z).isSome=true:=Ga.mpr (Ju.mpr ⟨_,back (zC e2),rfl⟩)
   rw[e1]at this;cases this
theorem FX.putLeast{K:ι}{C:Δ}{H:Hp}{p ta hk bd lg:Δ}{n:Nat}{D:Dr}(b:FX K C H p ta hk bd lg n D)(U:GW K C)(z:Int):∃dx,ko K H p "least_age" (.int z) (F2 H p (.ins C dx (dF {D with least:=z} ta hk bd lg)))/\Mv [p] H (F2 H p (.ins C dx (dF {D with least:=z} ta hk bd lg)))/\FX K C (F2 H p (.ins C dx (dF {D with least:=z} ta hk bd lg))) p ta hk bd lg n {D with least:=z}:=by
 obtain⟨dx,e⟩:=b.ob;obtain⟨f,hd,_⟩:=id b.kb;obtain⟨rs,el,l⟩:=b.lo;obtain⟨as,eh,_⟩:=id b.ks;have nt:NT [p] H:=NT.one e trivial
 have m:Mv [p] H (F2 H p (.ins C dx (dF {D with least:=z} ta hk bd lg))):=Mv.upd1
 exact⟨dx,se U e z,m,⟨dx,qb⟩,m.sqt nt b.tb,b.ks.mv m nt (zf (Qe eh e (by intro z;cases z))),b.kb.mv m nt (zf (Qe hd e (by intro z;cases z))),⟨rs,m _ _ (zf (Qe el e (by intro z;cases z))) el,l⟩,b.ne⟩
def qN(D:Dr)(e:Kb)(age c:Int):Str×Kb:=if qH D e age=true then zv D.near D.far e age c else("age",e)
def lJ(K:ι)(C:Δ):Sp:=fun vs H Q _=>∃(p ta hk bd lg a:Δ) (n:Nat) (D:Dr) (e:Kb) (age c:Int),vs=[.ref p,.ref a,.int age,.int c]/\FX K C H p ta hk bd lg n D/\GH H a e/\
 ∀q a' H',FV H H'->H' q=some (.tup [.str (qN D e age c).1,.ref a'])->GH H' a' (qN D e age c).2->Q (.ref q) H'
section
variable(K:ι)(C:Δ)
def nX:Sp:=fun vs H Q _=>∃(p ta hk bd lg:Δ) (n:Nat) (D:Dr),vs=[.ref p]/\FX K C H p ta hk bd lg n D/\
 ∀t (as:List Δ) H',FV H H'->F7 K H' t (as.map V.ref)->as.length=D.kss.length->(∀(i:Nat) (a:Δ) (ks:List Int),as[i]? =some a->D.kss[i]? =some ks->F7 K H' a (ks.map V.int))->Q (.ref t) H'
def iY:Sp:=fun vs H Q _=>∃(p ta hk bd lg:Δ) (n:Nat) (D:Dr),vs=[.ref p]/\FX K C H p ta hk bd lg n D/\Q (.int D.least) H
def cT:Sp:=fun vs H Q _=>∃(p ta hk bd lg:Δ) (n:Nat) (D:Dr),vs=[.ref p]/\FX K C H p ta hk bd lg n D/\∀t H',FV H H'->H' t=some (.tup [.int D.near,.int D.far,.int D.most])->Q (.ref t) H'
end
structure Ac(K:ι)(mg:FT)(x:Str)(st:δ):Prop where
 ex:∃(f:Δ) (fd:FuncData),Ii K x x st f fd/\mg x=some (.ref f)
structure HW(K:ι)(C:Δ)(m Ld:Str)(st:δ):Prop where
 ex:∃(f:Δ) (fd:FuncData),Ii K m Ld st f fd/\Iz K C m f
section
variable{K:ι}{mg:FT}{h:Ψ}{x m Ld:Str}{st:δ}{C f:Δ}{oc:Γ}{od an:Option Δ}{osl:Array (Option Γ)}{kV doc pm cdv ct:Γ}{ps:List Str}
theorem wG(X:K.In h)(G:h.Ns η mg)(a:W.nsIn K η x=some (some (.ref f)))(l:K.lookup f=some ⟨oc,od,.func (W.fnOf x x (Qq st) (zF st) (qh st) .none kV doc pm an cdv ct),osl⟩)(c:W.codeIn K cdv x=true)(k:W.keepIn K (.ref f)=true):Ac K mg x st:=⟨f,_,lY l c k,Ep X G a⟩
theorem B2(a:W.findIn K (.ref C) m=some (some (.ref f)))(i:W.isFn K (.ref f)=true)(l:K.lookup f=some ⟨oc,od,.func (W.fnOf m Ld (Qq st) (zF st) (qh st) .none kV doc pm an cdv ct),osl⟩)(c:W.codeIn K cdv Ld=true)(k:W.keepIn K (.ref f)=true):HW K C m Ld st:=⟨f,_,lY l c k,a,i,k⟩
theorem DK{p:List Γ->Prop}(h:p []):∀us:List Γ,us.length=0->p us:=by
 intro us hl;rw[List.eq_nil_of_length_eq_zero hl];exact h
theorem oG{n:Nat}{p:List Γ->Prop}(h:∀a us,us.length=n->p (a::us)):∀us:List Γ,us.length=n+1->p us:=by
 intro us hl;cases us with
 |nil=>cases hl
 |cons a r=>exact h a r (Nat.succ.inj hl)
theorem Zg{p:List Γ->Prop}(h:∀a0,p [a0]):∀us:List Γ,us.length=1->p us:=oG fun a=>DK (p:=fun r=>p (a::r)) (h a)
theorem Z5{p:List Γ->Prop}(h:∀a0 a1,p [a0,a1]):∀us:List Γ,us.length=2->p us:=oG fun a=>Zg (p:=fun r=>p (a::r)) (h a)
theorem cy{p:List Γ->Prop}(h:∀a0 a1 a2,p [a0,a1,a2]):∀us:List Γ,us.length=3->p us:=oG fun a=>Z5 (p:=fun r=>p (a::r)) (h a)
theorem jA{p:List Γ->Prop}(h:∀a0 a1 a2 a3,p [a0,a1,a2,a3]):∀us:List Γ,us.length=4->p us:=oG fun a=>cy (p:=fun r=>p (a::r)) (h a)
theorem Dh{p:List Γ->Prop}(h:∀a0 a1 a2 a3 a4,p [a0,a1,a2,a3,a4]):∀us:List Γ,us.length=5->p us:=oG fun a=>jA (p:=fun r=>p (a::r)) (h a)
theorem C1{p:List Γ->Prop}(h:∀a0 a1 a2 a3 a4 a5,p [a0,a1,a2,a3,a4,a5]):∀us:List Γ,us.length=6->p us:=oG fun a=>Dh (p:=fun r=>p (a::r)) (h a)
theorem Ac.at(a:Ac K mg x st)(b:∀(kV doc pm:Γ) (an:Option Δ) (cdv ct:Γ) (us:List Γ),us.length=ps.length->bindArgs (W.fnOf x x (Qq st) (zF st) (qh st) .none kV doc pm an cdv ct) ⟨us,[]⟩=pure (ps.zip us):=by intro _ _ _ _ _ _;first|exact Zg fun _=>rfl|exact Z5 fun _ _=>rfl|exact cy fun _ _ _=>rfl|exact jA fun _ _ _ _=>rfl|exact Dh fun _ _ _ _ _=>rfl|exact C1 fun _ _ _ _ _ _=>rfl):At K mg x st ps:=by
 obtain⟨_,_,F,m⟩:=a.ex;exact CN F m (F.binds b)
theorem HW.at(a:HW K C m Ld st)(b:∀(kV doc pm:Γ) (an:Option Δ) (cdv ct:Γ) (us:List Γ),us.length=ps.length->bindArgs (W.fnOf m Ld (Qq st) (zF st) (qh st) .none kV doc pm an cdv ct) ⟨us,[]⟩=pure (ps.zip us):=by intro _ _ _ _ _ _;first|exact Zg fun _=>rfl|exact Z5 fun _ _=>rfl|exact cy fun _ _ _=>rfl|exact jA fun _ _ _ _=>rfl|exact Dh fun _ _ _ _ _=>rfl|exact C1 fun _ _ _ _ _ _=>rfl):HQ K C m Ld st ps:=by
 obtain⟨_,_,F,m⟩:=a.ex
 exact⟨_,_,F,m,F.binds b⟩
end
structure Ps where
 nm:Str
 age:Int
 ds:List Int
def bK(H:Hp)(p:Δ)(P:Ps):Prop:=Gy H p P.nm P.age P.ds
structure Ib(P:Ps):Prop where
 nm:QQ P.nm
 l:P.ds.length=5
 dg:zy P.ds
def cV(D:Dr)(P:Ps):Option (Int×Int):=if QH D P.age=true then Zl D.t (Qs D P.age) P.nm P.ds else none
def uu(D:Dr)(P R:Ps):Str×Int×Kw:=match cV D P with
 |none=>("press",0,D.kn)
 |some (c,_)=>match cV D R with
  |none=>("press",1,D.kn)
  |some (c',_)=>if R.nm=P.nm/\R.age=P.age/\c'=c+1 then(match D.kn.lookup P.nm with
    |some _=>("known",0,D.kn)
    |none=>if(D.kn.length:Int)<D.most then("",0,zb D.kn P.nm ⟨P.age,c',none⟩)else("full",0,D.kn))
   else("press",1,D.kn)
def lI(c:Nat):Bool:=decide (97<=c)&&decide (c<=122)
def BQ(z:Str):Bool:=z.cps.toList.all lI
def wY(z:Str):Bool:=decide (1<=z.length)&&decide (z.length<=8)&&BQ z
theorem IG{z:Str}:wY z=true↔QQ z:=by
 unfold wY BQ QQ;rw[Jt,Jt,Ff,Ff,EK];have zl:z.length=z.cps.toList.length:=rfl
 rw[zl];constructor
 ·rintro⟨⟨h1,h2⟩,h3⟩
  refine⟨fun c hc=>?_,h1,h2⟩
  have:=h3 c hc
  unfold lI at this;rw[Jt,Ff,Ff]at this;exact this
 ·rintro⟨h3,h1,h2⟩
  refine⟨⟨h1,h2⟩,fun c hc=>?_⟩
  unfold lI;rw[Jg (h3 c hc).1,Jg (h3 c hc).2];rfl
theorem gz{a b:Nat}:([a]:List Nat)<[b]↔a<b:=by
 rw[List.cons_lt_cons_iff];constructor
 ·rintro(h|⟨_,h⟩)
  ·exact h
  ·exact absurd h (List.not_lt_nil _)
 ·exact .inl
theorem oZ(c:Nat):(!decide ((⟨#[c]⟩:Str).cps.toList<("a":Str).cps.toList))=decide (97<=c)/\(!decide (("z":Str).cps.toList<(⟨#[c]⟩:Str).cps.toList))=decide (c<=122):=by
 have e1:("a":Str).cps.toList=[97]:=by decide +kernel
 have e2:("z":Str).cps.toList=[122]:=by decide +kernel
 rw[e1,e2]
 show(!decide ([c]<[97]))=_/\(!decide ([122]<[c]))=_
 constructor
 ·by_cases h:97<=c
  ·rw[Jg h,Jm (by rw[gz];lia)];rfl
  ·rw[Jm h,Jg (by rw[gz];lia)];rfl
 ·by_cases h:c<=122
  ·rw[Jg h,Jm (by rw[gz];lia)];rfl
  ·rw[Jm h,Jg (by rw[gz];lia)];rfl
theorem kY{H:Hp}{x:V}{t:String}(h:kd H x=some t):Iw H x t:=by
 cases x with
 |non=>cases h;exact .non
 |bl b=>cases h;exact .bl b
 |int i=>cases h;exact .int i
 |str x=>cases h;exact .str x
 |byt b=>cases h
 |flt b=>cases h
 |ty b=>cases h
 |ref a=>
  rcases gJ h with⟨xs,e,rfl⟩|⟨xs,e,rfl⟩
  ·exact .lst e
  ·exact .tup (.inl e)
def Db(H:Hp)(x:V)(b:Bool):Prop:=(∃z,x= .str z/\z.cps.all (· <128)=true/\z.length<=100/\b=wY z)\/(∃t,kd H x=some t/\zE t "str"=false/\b=false)
def IU(H:Hp)(x:V)(b:Bool):Prop:=(∃(p:Δ) (ds:List V),x= .ref p/\H p=some (.tup ds)/\ds.length<=100/\(∀v∈ds,∃t,kd H v=some t)/\b=(decide (ds.length=5)&&ds.all cf))\/(∃t,kd H x=some t/\zE t "tuple"=false/\b=false)
inductive IJ (H:Hp) (x:V):Bool->Prop where
 |kd {t:String} (h:kd H x=some t) (n:zE t "tuple"=false):IJ H x false
 |len {a:Δ} {xs:List V} (e:x= .ref a) (h:H a=some (.tup xs)) (l:xs.length<=100) (n:xs.length≠3):IJ H x false
 |tup {a:Δ} {n y c:V} {bn bc:Bool} {ty:String} (e:x= .ref a) (h:H a=some (.tup [n,y,c])) (hn:Db H n bn) (hy:L3.kd H y=some ty) (hc:IU H c bc):IJ H x (bn&&fY y&&bc)
theorem IU.same{H H':Hp}{x:V}{b:Bool}(s:FV H H')(h:IU H x b):IU H' x b:=h.elim (fun⟨p,ds,e,h1,h2,h3,h4⟩=> .inl ⟨p,ds,e,s _ _ h1,h2,(fun v hv=>let⟨t,ht⟩:=h3 v hv;⟨t,eP s ht⟩),h4⟩) (fun⟨t,h1,h2⟩=> .inr ⟨t,eP s h1,h2⟩)
def Tg(H:Hp)(x:V)(o:Option Ps):Prop:=match o with
 |none=>IJ H x false
 |some P=>∃pr,x= .ref pr/\bK H pr P/\Ib P
theorem Tg.b{H:Hp}{x:V}{o:Option Ps}(h:Tg H x o):IJ H x o.isSome:=by
 cases o with
 |none=>exact h
 |some P=>
  obtain⟨pr,e,⟨pc,h1,h2⟩,ok⟩:=h;have t:=IJ.tup (bn:=true) (bc:=true) e h1 (.inl ⟨P.nm,rfl,lf ok.nm,by have:=ok.nm.2.2;show P.nm.cps.toList.length<=100;lia,(IG.mpr ok.nm).symm⟩) (ty:="int") rfl (.inl ⟨pc,_,rfl,h2,by rw[Je,ok.l];decide,(fun v hv=>by obtain⟨i,_,rfl⟩:=Ju.mp hv;exact⟨_,rfl⟩),by rw[Je,ok.l,vh ok.dg];rfl⟩)
  exact t
def jJ:Sp:=fun vs H Q _=>∃x b,vs=[x]/\Db H x b/\∀H',FV H H'->Q (.bl b) H'
def jd:Sp:=fun vs H Q _=>∃x b,vs=[x]/\IU H x b/\∀H',FV H H'->Q (.bl b) H'
def cr:Sp:=fun vs H Q _=>∃x b,vs=[x]/\IJ H x b/\∀H',FV H H'->Q (.bl b) H'
section
variable(K:ι)(C:Δ)
def jo:Sp:=fun vs H Q _=>∃(p ta hk bd lg:Δ) (n:Nat) (D:Dr) (x:V) (o:Option Ps),vs=[.ref p,x]/\FX K C H p ta hk bd lg n D/\GZ D/\Tg H x o/\∀y H',FV H H'->c9 H' y (o.bind (cV D))->Q y H'
end
theorem Mf.weak{P:Ξ}{w:Ω}{K:ι}{mg:FT}{base:Ψ}{C:Δ}{m:Str}{ps:List Str}{k:Nat}{sp sp':Sp}(M:Mf P w K mg base C m ps k sp)(h:∀vs H Q E,sp' vs H Q E->sp vs H Q E):Mf P w K mg base C m ps k sp':=by
 obtain⟨f,fd,F,hm,hb⟩:=M.ex
 exact⟨f,fd,⟨fun vs H Q E q=>F.len vs H Q E (h vs H Q E q),fun A outer s H args us vs Q E hr e0 hb hv hs=>F.run A outer s H args us vs Q E hr e0 hb hv (h _ _ _ _ hs)⟩,hm,hb⟩
def Ip(K:ι)(H:Hp)(b:Δ)(kss:List (List Int)):Prop:=∃as:List Δ,F7 K H b (as.map V.ref)/\as.length=kss.length/\∀(i:Nat) (a:Δ) (ks:List Int),as[i]? =some a->kss[i]? =some ks->F7 K H a (ks.map V.int)
theorem Ip.same{K:ι}{H H':Hp}{b:Δ}{kss:List (List Int)}(h:Ip K H b kss)(s:FV H H'):Ip K H' b kss:=by
 obtain⟨as,e,l,r⟩:=h
 exact⟨as,FV.sqt s e,l,fun i a ks e1 e2=>FV.sqt s (r i a ks e1 e2)⟩
theorem Ip.upd{K:ι}{C p dx:Δ}{H:Hp}{b:Δ}{kss:List (List Int)}{fs:List (Str×V)}{o:HO}(h:Ip K H b kss)(e:H p=some (.ins C dx fs)):Ip K (F2 H p o) b kss:=by
 obtain⟨as,eb,l,r⟩:=h
 exact⟨as,eM e eb,l,fun i a ks e1 e2=>eM e (r i a ks e1 e2)⟩
theorem Dq{X:Cx}{y1 y2 y3:Str}{c1 c2 c3:Δ}(h1:X.env.cells.lookup y1=some c1)(h2:X.env.cells.lookup y2=some c2)(h3:X.env.cells.lookup y3=some c3):
  ∀u e,([(y1,c1),(y2,c2),(y3,c3)]:List (Str×Δ)).lookup u=some e->X.env.cells.lookup u=some e:=fU h1 (fU h2 (fU h3 yz))
theorem Dj{X:Cx}{scope:Scope}{y1 y2 y3:Str}{j1 j2 j3:Nat}(kind:scope.kind= .function)(names:∀x∈scope.names,x.2= .local->scope.names.lookup x.1=some .local)(nocell:∀x∈scope.names,x.2≠ .cell)
  (free:∀x∈scope.names,x.2= .free->x.1∈([y1,y2,y3]:List Str))(a1:X.N[j1]? =some y1)(a2:X.env.kindOf y1=some .cell)(a3:(relabel scope X.env).names.lookup y1=some .cell)
  (b1:X.N[j2]? =some y2)(b2:X.env.kindOf y2=some .cell)(b3:(relabel scope X.env).names.lookup y2=some .cell)(c1:X.N[j3]? =some y3)(c2:X.env.kindOf y3=some .cell)(c3:(relabel scope X.env).names.lookup y3=some .cell):GN X scope [y1,y2,y3] [j1,j2,j3]:=
 ⟨kind,names,nocell,free,rfl,fun i j' y' e1 e2=>by
  match i with
  |0=>cases e1;cases e2;exact⟨a1,a2,a3⟩
  |1=>cases e1;cases e2;exact⟨b1,b2,b3⟩
  |2=>cases e1;cases e2;exact⟨c1,c2,c3⟩
  |i+3=>simp at e1⟩
inductive Rw where
 |learn (P R:Ps)
 |forget (nm:Str)
 |turn (ks:List Int)
 |close (age:Int)
 |hear (P:Ps) (ans:List V)
def t9:V->Prop
 | .int _=>True
 | .str _=>True
 |_=>False
def Ic(H:Hp)(a:Δ):Rw->Prop
 | .learn P R=>∃p1 p2,Rd H a (.tup [.str "learn",.ref p1,.ref p2])/\bK H p1 P/\bK H p2 R/\Ib P/\Ib R
 | .forget nm=>Rd H a (.tup [.str "forget",.str nm])
 | .turn ks=>∃k,Rd H a (.tup [.str "turn",.ref k])/\Rd H k (.tup (ks.map V.int))/\ks.length<=8
 | .close age=>Rd H a (.tup [.str "close",.int age])
 | .hear P ans=>∃p q,Rd H a (.tup [.str "hear",.ref p,.ref q])/\bK H p P/\Ib P/\H q=some (.tup ans)/\ans.length<=3/\∀v∈ans,t9 v
def GO(H:Hp)(rs:List Δ)(L:List Rw):Prop:=rs.length=L.length/\∀(i:Nat) (a:Δ) (r:Rw),rs[i]? =some a->L[i]? =some r->Ic H a r
def HM(H:Hp)(lg:Δ)(L:List Rw):Prop:=∃rs:List Δ,H lg=some (.lst (rs.map V.ref))/\GO H rs L
section
variable{S:List Δ}{H H':Hp}{a lg:Δ}{r:Rw}{rs:List Δ}{L:List Rw}
theorem Ic.mv(m:Mv S H H')(n:NT S H)(h:Ic H a r):Ic H' a r:=by
 cases r with
 |learn P R=>obtain⟨p1,p2,h1,h2,h3,h4⟩:=h;exact⟨p1,p2,m.rd n h1,Gy.mv m n h2,Gy.mv m n h3,h4⟩
 |forget nm=>exact m.rd n h
 |turn ks=>obtain⟨k,h1,h2,h3⟩:=h;exact⟨k,m.rd n h1,m.rd n h2,h3⟩
 |close age=>exact m.rd n h
 |hear P ans=>obtain⟨p,q,h1,h2,h3,h4,h5⟩:=h;exact⟨p,q,m.rd n h1,Gy.mv m n h2,h3,m.tup n h4,h5⟩
theorem GO.mv(m:Mv S H H')(n:NT S H)(h:GO H rs L):GO H' rs L:=⟨h.1,fun i a r e1 e2=>(h.2 i a r e1 e2).mv m n⟩
theorem HM.mv(m:Mv S H H')(n:NT S H)(hl:lg∉S)(h:HM H lg L):HM H' lg L:=by
 obtain⟨rs,e,r⟩:=h
 exact⟨rs,m _ _ hl e,r.mv m n⟩
theorem i4:NT [] H:=fun c h=>nomatch h
theorem GO.same(s:FV H H')(h:GO H rs L):GO H' rs L:=h.mv (S:=[]) s.mv i4
theorem HM.same(s:FV H H')(h:HM H lg L):HM H' lg L:=h.mv (S:=[]) s.mv i4 (fun z=>nomatch z)
theorem GO.add(h:GO H rs L)(hr:Ic H a r):GO H (rs++[a]) (L++[r]):=by
 refine⟨by simp [h.1],fun i b q e1 e2=>?_⟩
 by_cases hi:i<rs.length
 ·rw[J5 hi]at e1
  rw[J5 (by rw[<- h.1];exact hi)]at e2
  exact h.2 i b q e1 e2
 ·rw[JY (by lia)]at e1
  rw[JY (by rw[<- h.1];lia),<- h.1]at e2
  cases e:i-rs.length with
  |zero=>rw[e]at e1 e2;cases e1;cases e2;exact hr
  |succ k=>rw[e]at e1;cases e1
end
theorem _root_.L2.F7.up{K:ι}{H:Hp}{a:Δ}{xs:List V}(h:F7 [] H a xs):F7 K H a xs:=h.elim .inl fun⟨_,_,_,z,_⟩=>nomatch z
theorem _root_.L2.F7.rd{H:Hp}{a:Δ}{xs:List V}(h:F7 [] H a xs):Rd H a (.tup xs):=h.elim id fun⟨_,_,_,z,_⟩=>nomatch z
theorem Gm.up{K:ι}{H:Hp}{a:Δ}{kss:List (List Int)}(h:Gm [] H a kss):Gm K H a kss:=by
 obtain⟨as,e,l,r⟩:=h
 exact⟨as,e,l,fun i a ks e1 e2=>(r i a ks e1 e2).up⟩
def Ao(K:ι)(C:Δ):Sp:=fun vs H Q _=>∃(p a b dx:Δ) (near far most:Int) (t:List Int) (kss:List (List Int)),vs=[.ref p,.ref a,.ref b,.int near,.int far,.int most]/\H p=some (.ins C dx [])/\Sq K H a (t.map V.int)/\Gm [] H b kss/\kss.length<=8/\
 ∀ta hk bd lg H',H hk=none->H bd=none->H lg=none->Mv [p] H H'->FX K C H' p ta hk bd lg 0 ⟨t,kss,near,far,most,0,[]⟩->Gm [] H' hk kss->Q .non H'
def fO(K:ι)(C:Δ):Sp:=fun vs H Q _=>∃(p a b dx:Δ) (near far most:Int) (t:List Int) (kss:List (List Int)),vs=[.ref p,.ref a,.ref b,.int near,.int far,.int most]/\H p=some (.ins C dx [])/\Sq K H a (t.map V.int)/\Ip [] H b kss/\kss.length<=8/\
 ∀ta hk bd lg H',H hk=none->H bd=none->H lg=none->Mv [p] H H'->FX K C H' p ta hk bd lg 0 ⟨t,kss,near,far,most,0,[]⟩->Gm [] H' hk kss->Q .non H'
structure Da where
 p:Δ
 ta:Δ
 hk:Δ
 bd:Δ
 lg:Δ
structure GI(K:ι)(C:Δ)(H:Hp)(a:Da)(D:Dr)(L:List Rw):Prop where
 dr:FX K C H a.p a.ta a.hk a.bd a.lg L.length D
 lo:HM H a.lg L
 kr:Gm [] H a.hk D.kss
section
variable{K:ι}{C:Δ}{S:List Δ}{H H':Hp}{a:Da}{D:Dr}{L:List Rw}{r:Δ}{rw:Rw}{rs:List Δ}
theorem GI.mv(b:GI K C H a D L)(m:Mv S H H')(nt:NT S H)(hp:a.p∉S)(hh:a.hk∉S)(hb:a.bd∉S)(hl:a.lg∉S):GI K C H' a D L:=⟨b.dr.mv m nt hp hh hb hl,b.lo.mv m nt hl,Gm.mv m nt hh b.kr⟩
theorem GI.same(b:GI K C H a D L)(s:FV H H'):GI K C H' a D L:=⟨b.dr.same s,b.lo.same s,Gm.same s b.kr⟩
theorem GI.push(b:FX K C H a.p a.ta a.hk a.bd a.lg L.length D)(el:H a.lg=some (.lst (rs.map V.ref)))(ro:GO H rs L)(kr:Gm [] H a.hk D.kss)(hr:Ic H r rw):GI K C (F2 H a.lg (.lst (rs.map V.ref++[.ref r]))) a D (L++[rw]):=by
 have nt:NT [a.lg] H:=NT.one el trivial
 have e:=b.putL (r:=r) el (Nat.le_of_eq ro.1)
 rw[show L.length+1=(L++[rw]).length by simp]at e
 exact⟨e,⟨rs++[r],by rw[qb,JW];rfl,(ro.add hr).mv Mv.upd1 nt⟩,Gm.mv Mv.upd1 nt (zf b.ne.symm) kr⟩
theorem xr{p ta hk bd lg:Δ}{n:Nat}{f0:List (qJ×V)}(e:H bd=some (.dK f0))(b:FX K C H p ta hk bd lg n D):hk≠bd:=by
 obtain⟨as,eh,_⟩:=b.ks;exact Qe eh e (by intro z;cases z)
theorem Cj{p ta hk bd lg dx:Δ}{n:Nat}{f0:List (Str×V)}(e:H p=some (.ins C dx f0))(b:FX K C H p ta hk bd lg n D):hk≠p:=by
 obtain⟨as,eh,_⟩:=b.ks;exact Qe eh e (by intro z;cases z)
theorem FX.dl{p ta hk bd lg:Δ}(b:FX K C H p ta hk bd lg 0 D)(kr:Gm [] H hk D.kss):GI K C H ⟨p,ta,hk,bd,lg⟩ D []:=by
 obtain⟨rs,e,l⟩:=id b.lo
 obtain rfl:rs=[]:=List.length_eq_zero_iff.mp (Nat.le_zero.mp l)
 exact⟨b,⟨[],e,rfl,fun i a r h=>by cases h⟩,kr⟩
end
inductive Dd where
 |learn (o1 o2:Option Ps)
 |forget (nm:Str)
 |turn (ks:List Int)
 |close (age:Int)
 |hear (o:Option Ps)
def af(D:Dr)(P:Ps):List V×Kw:=qT D P.nm P.age (Zl D.t (Qs D P.age) P.nm P.ds)
def DH(D:Dr):Dd->Option (Dr×Rw)
 | .learn (some P) (some R)=>if(uu D P R).1="" then some ({D with kn:=(uu D P R).2.2},.learn P R)else none
 | .learn _ _=>none
 | .forget nm=>if D.kn.lookup nm=none then none else some ({D with kn:=D.kn.filter fun p=>decide (p.1≠nm)},.forget nm)
 | .turn ks=>if D.kss.length<8 then some ({D with kss:=D.kss++[ks]},.turn ks)else none
 | .close age=>some ({D with least:=if age>D.least then age else D.least},.close age)
 | .hear (some P)=>some ({D with kn:=(af D P).2},.hear P (af D P).1)
 | .hear none=>none
section
variable(K:ι)(C:Δ)(x:Xa)
def iO:Sp:=fun vs H Q _=>∃(a:Da) (D:Dr) (L:List Rw) (x:V) (o:Option Ps),vs=[.ref a.p,x]/\GI K C H a D L/\L.length<=1000/\GZ D/\Tg H x o/\
 (o=none->∀q H',FV H H'->H' q=some (.tup [.str "held",.str "bad"])->Q (.ref q) H')/\
 ∀P,o=some P->∀pr q H',x= .ref pr->Mv [a.bd,a.lg] H H'->bK H' pr P->H' q=some (.tup (af D P).1)->GI K C H' a {D with kn:=(af D P).2} (L++[.hear P (af D P).1])->Q (.ref q) H'
def DN(H:Hp)(k:Δ)(ks:List Int):Prop:=H k=some (.lst (ks.map V.int))\/Rd H k (.tup (ks.map V.int))
def mI:Sp:=fun vs H Q _=>∃(a:Da) (D:Dr) (L:List Rw) (age:Int),vs=[.ref a.p,.int age]/\GI K C H a D L/\L.length<=1000/\
 ∀D' r,DH D (.close age)=some (D',r)->∀H',Mv [a.p,a.lg] H H'->GI K C H' a D' (L++[r])->Q .non H'
end
theorem fH{X:Cx}:ze X (.type "tuple") (fun xs H Q=>∃kt ks,xs=[.ref kt]/\DN H kt ks/\∀t H2,FV H H2->Rd H2 t (.tup (ks.map V.int))->Q (.ref t) H2):=by
 intro tx s σ H xs us Q I r h;obtain⟨kt,ks,e,h,q⟩:=h;refine qX tx s σ H xs us Q I r ⟨kt,ks.map V.int,e,?_⟩
 rcases h with h|h
 ·exact .inl ⟨F6.of h,fun t ht=>q t _ (FV.upd ht) (.inl qb)⟩
 ·exact .inr ⟨.inl h,q kt _ (FV.refl _) h⟩
section
variable{D:Dr}{P:Ps}
theorem jL(D:Dr)(nm:Str)(age:Int)(r:Option (Int×Int)):(qT D nm age r).1.length<=3/\∀v∈(qT D nm age r).1,t9 v:=by
 have two:∀a b:Str,([V.str a,.str b]:List V).length<=3/\∀v∈([V.str a,.str b]:List V),t9 v:=fun a b=>⟨by show 2<=3;decide,fun v hv=>by simp at hv;rcases hv with rfl|rfl<;>trivial⟩
 have three:∀(a b:Str) (i:Int),([V.str a,.str b,.int i]:List V).length<=3/\∀v∈([V.str a,.str b,.int i]:List V),t9 v:=fun a b i=>⟨by show 3<=3;decide,fun v hv=>by simp at hv;rcases hv with rfl|rfl|rfl<;>trivial⟩
 unfold qT;split
 ·exact two _ _
 ·split
  ·split
   ·exact two _ _
   ·split
    ·exact three _ _ _
    ·exact two _ _
  ·exact two _ _
theorem sF(D:Dr)(P:Ps):(af D P).1.length<=3:=(jL ..).1
theorem wl(D:Dr)(P:Ps):∀v∈(af D P).1,t9 v:=(jL ..).2
end
theorem eI{t u:TS}{D:GP}{σ:L2.St}{H:Hp}(G:L2.St->Hp->Prop)(h:∀D':GP,D'.rt=D.rt->(∀σ' H',G σ' H'->D'.nx σ' H')->t D' σ H)(hG:∀σ' H',G σ' H'->u D σ' H'):io t u D σ H:=h {D with nx:=u D} rfl hG
section
variable{K:ι}{S:List Δ}{H H':Hp}
theorem Ip.mv{b:Δ}{kss:List (List Int)}(h:Ip K H b kss)(m:Mv S H H')(n:NT S H):Ip K H' b kss:=by
 obtain⟨as,e,l,r⟩:=h
 exact⟨as,m.sqt n e,l,fun i a ks e1 e2=>m.sqt n (r i a ks e1 e2)⟩
end
structure Gi(D:Dr)(e:Kb):Prop where
 a0:0<=e.age
 a1:e.age<D.kss.length
 l0:1<=e.last
 l1:e.last<4096
 w:∀x c,e.wt=some (x,c)->e.age<=x/\x<D.kss.length/\e.last+D.near<c/\c<=e.last+D.far/\0<=c/\c<4096
section
variable{K:ι}{C:Δ}{H:Hp}{a:Da}{D:Dr}{L:List Rw}
def dS(a:Da):List Δ:=[a.p,a.hk,a.bd,a.lg]
theorem GI.nt(d:GI K C H a D L):NT (dS a) H:=fun c hc=>by
 obtain⟨dx,ep⟩:=id d.dr.ob;obtain⟨f0,hd,_⟩:=id d.dr.kb;obtain⟨as,eh,_⟩:=id d.dr.ks;obtain⟨rs,el,_⟩:=id d.lo;simp only[dS,Jl,Jx,JA]at hc;rcases hc with rfl|rfl|rfl|rfl
 ·exact⟨_,ep,trivial⟩
 ·exact⟨_,eh,trivial⟩
 ·exact⟨_,hd,trivial⟩
 ·exact⟨_,el,trivial⟩
theorem GI.outD{x:Δ}{xs:List (qJ×V)}(d:GI K C H a D L)(hx:H x=some (.dK xs))(n1:x≠a.bd):x∉dS a:=fun hc=>by
 obtain⟨dx,ep⟩:=id d.dr.ob;obtain⟨as,eh,_⟩:=id d.dr.ks;obtain⟨rs,el,_⟩:=id d.lo;simp only[dS,Jl,Jx,JA]at hc;rcases hc with z|z|z|z
 ·rw[z,ep]at hx;cases hx
 ·rw[z,eh]at hx;cases hx
 ·exact n1 z
 ·rw[z,el]at hx;cases hx
end
theorem Gi.mono{D D':Dr}{e:Kb}(k:Gi D e)(h:D.kss.length<=D'.kss.length)(hn:D'.near=D.near:=by rfl)(hf:D'.far=D.far:=by rfl):Gi D' e:=⟨k.a0,by have:=k.a1;lia,k.l0,k.l1,fun x c z=>by have:=k.w x c z;rw[hn,hf];lia⟩
theorem vg{D:Dr}{e:Kb}{age c:Int}(k:Gi D e)(a0:e.age<=age)(a1:age<D.kss.length)(c0:0<=c)(c1:c<4096):Gi D (zv D.near D.far e age c).2:=by
 have e0:=k.a0;have l0:=k.l0;have new:e.last<c->Gi D ⟨age,c,none⟩:=fun h=>⟨by show 0<=age;lia,a1,by show 1<=c;lia,c1,fun x y z=>by cases z⟩
 unfold zv;split
 ·exact k
 ·split
  ·exact new (by lia)
  ·split
   ·split
    ·exact new (by lia)
    ·exact⟨k.a0,k.a1,k.l0,k.l1,fun x y z=>by cases z;exact⟨a0,a1,by show e.last+D.near<c;lia,by show c<=e.last+D.far;lia,c0,c1⟩⟩
   ·exact k
theorem gy{D:Dr}{e:Kb}{age:Int}(h:qH D e age=true):e.age<=age:=by
 unfold qH at h;rw[Jt]at h;exact Jv h.2
theorem Za{i:Nat}{v:V}{σ:L2.St}{H:Hp}{t u:TS}{D:GP}{rt:VK}{bk ct:L2.St->Hp->Prop}(G:L2.St->Hp->Prop)(h:∀D':GP,D'.rt=D.rt->(∀σ' H',G σ' H'->D'.nx σ' H')->t D' (σ.set i (some v)) H)(hG:∀σ' H',G σ' H'->u D σ' H'):Zk i v σ H (GP.nx {nx:=io t u D,rt:=rt,bk:=bk,ct:=ct}):=h {D with nx:=u D} rfl hG
theorem Bu{σ:L2.St}{H:Hp}{t u:TS}{D:GP}{rt:VK}{bk ct:L2.St->Hp->Prop}(G:L2.St->Hp->Prop)(h:∀D':GP,D'.rt=D.rt->(∀σ' H',G σ' H'->D'.nx σ' H')->t D' σ H)(hG:∀σ' H',G σ' H'->u D σ' H'):GP.nx {nx:=io t u D,rt:=rt,bk:=bk,ct:=ct} σ H:=h {D with nx:=u D} rfl hG
theorem BN{K:ι}{H:Hp}{D:Dr}{age:Int}{as:List Δ}(la:as.length=D.kss.length)(hks:∀(i:Nat) (a:Δ) (ks:List Int),as[i]? =some a->D.kss[i]? =some ks->F7 K H a (ks.map V.int))(h0:0<=age)(h1:age<D.kss.length):∃ak,Ql (as.map V.ref) age=some (.ref ak)/\F7 K H ak ((Qs D age).map V.int):=by
 obtain⟨i,rfl⟩:∃i:Nat,age=(i:Int):=⟨age.toNat,by lia⟩
 have hi:i<D.kss.length:=by lia
 have hi':i<as.length:=by lia
 refine⟨as[i],Qk (by rw[Jq,Jk hi'];rfl),?_⟩
 have:=hks i as[i] D.kss[i] (Jk hi') (Jk hi)
 unfold Qs;rw[Ei,JI,Jk hi];exact this
theorem xj{a:Da}{H H':Hp}(m:Mv [a.p,a.lg] H H'):Mv (dS a) H H':=m.mono fun c h z=>h (by simp only[dS,Jl,Jx,JA]at z⊢;rcases z with z|z<;>simp [z])
theorem Wt.same{H H':Hp}{v:V}{o:Option (Int×Int)}(s:FV H H')(h:Wt H v o):Wt H' v o:=h.mv (S:=[]) s.mv i4
theorem sL{a:Da}{x:Δ}(h:x∈dS a):x=a.p\/x=a.hk\/x=a.bd\/x=a.lg:=by
 simpa only[dS,Jl,Jx,JA]using h
theorem Cl(a:Da):a.p∈dS a:=by simp [dS]
theorem wK(a:Da):a.hk∈dS a:=by simp [dS]
theorem wN(a:Da):a.bd∈dS a:=by simp [dS]
theorem wW(a:Da):a.lg∈dS a:=by simp [dS]
theorem gt{a:Da}{H H':Hp}(m:Mv [a.bd,a.lg] H H'):Mv (dS a) H H':=m.mono (fun c h z=>h (by simp [dS]at z⊢;rcases z with z|z<;>simp [z]))
def cK(D:Dr)(kd:Δ):List (qJ×V):=[(.inr "near",.int D.near),(.inr "far",.int D.far),(.inr "keys",.int (D.kss.length:Int)),(.inr "closed",.int D.least),(.inr "known",.ref kd)]
theorem tM(D:Dr)(kd:Δ):((cK D kd).map (·.1)).Nodup:=by
 have:([.inr "near",.inr "far",.inr "keys",.inr "closed",.inr "known"]:List qJ).Nodup:=by decide +kernel
 exact this
theorem vv(D:Dr)(kd:Δ):Zu [] (cK D kd)=cK D kd:=by
 have:=lR (cK D kd) [] (tM D kd)
 rwa [List.nil_append]at this
structure Gv(H:Hp)(m kd:Δ)(D:Dr):Prop where
 di:H m=some (.dK (cK D kd))
 kn:HJ H kd D.kn
 ne:m≠kd
section
variable{S:List Δ}{H H':Hp}{m kd:Δ}{D:Dr}
theorem Gv.get(a:Gv H m kd D)(i:Nat){k:qJ}{x:V}(h:(cK D kd)[i]? =some (k,x)):GV H m (kV k) (some x):=by
 have:=GV.k (k:=k) a.di
 rw[oq i h (tM ..)]at this;exact this
theorem Gv.g_near(a:Gv H m kd D):GV H m (.str "near") (some (.int D.near)):=a.get (k:= .inr "near") 0 rfl
theorem Gv.g_far(a:Gv H m kd D):GV H m (.str "far") (some (.int D.far)):=a.get (k:= .inr "far") 1 rfl
theorem Gv.g_keys(a:Gv H m kd D):GV H m (.str "keys") (some (.int (D.kss.length:Int))):=a.get (k:= .inr "keys") 2 rfl
theorem Gv.g_closed(a:Gv H m kd D):GV H m (.str "closed") (some (.int D.least)):=a.get (k:= .inr "closed") 3 rfl
theorem Gv.g_known(a:Gv H m kd D):GV H m (.str "known") (some (.ref kd)):=a.get (k:= .inr "known") 4 rfl
theorem Gv.mv(a:Gv H m kd D)(v:Mv S H H')(n:NT S H)(h1:m∉S)(h2:kd∉S):Gv H' m kd D:=⟨v _ _ h1 a.di,a.kn.mv v n h2,a.ne⟩
theorem Gv.same(a:Gv H m kd D)(s:FV H H'):Gv H' m kd D:=a.mv (S:=[]) s.mv i4 (fun h=>nomatch h) (fun h=>nomatch h)
theorem Gv.putK{kn':Kw}(a:Gv H m kd D)(v:Mv [kd] H H')(kb:HJ H' kd kn'):Gv H' m kd {D with kn:=kn'}:=⟨v _ _ (zf a.ne) a.di,kb,a.ne⟩
theorem pA(D:Dr)(kd:Δ)(z:Int):L2.GQ (cK D kd) (Sum.inr "closed":qJ) (.int z)=cK {D with least:=z} kd:=by
 unfold L2.GQ cK;rw[Jc (by simp [JS])]
 have h1:¬((Sum.inr ("near":Str):Sum Int Str)=Sum.inr ("closed":Str)):=by decide +kernel
 have h2:¬((Sum.inr ("far":Str):Sum Int Str)=Sum.inr ("closed":Str)):=by decide +kernel
 have h3:¬((Sum.inr ("keys":Str):Sum Int Str)=Sum.inr ("closed":Str)):=by decide +kernel
 have h5:¬((Sum.inr ("known":Str):Sum Int Str)=Sum.inr ("closed":Str)):=by decide +kernel
 simp only[JU,Fc,Jb h1,Jb h2,Jb h3,Jb h5,D4]
theorem Gv.close(a:Gv H m kd D)(z:Int):∃H',HX H m (.str "closed") (.int z) H'/\Mv [m] H H'/\Gv H' m kd {D with least:=z}:=by
 refine⟨_,HX.k (k:=Sum.inr "closed") a.di (xi _ (by show 5<=100;decide)),Mv.upd1,by rw[qb,pA],a.kn.mv Mv.upd1 (NT.one a.di trivial) (zf a.ne.symm),a.ne⟩
end
structure Em where
 e:Δ
 a:Da
 m:Δ
 kd:Δ
def eS(x:Em):List Δ:=dS x.a++[x.m,x.kd]
structure GX(K:ι)(C:Δ)(H:Hp)(x:Em)(D:Dr)(L:List Rw)(E:Dr):Prop where
 tu:H x.e=some (.tup [.ref x.a.p,.ref x.m])
 dl:GI K C H x.a D L
 md:Gv H x.m x.kd E
 n1:x.m≠x.a.bd
 n2:x.kd≠x.a.bd
section
variable{K:ι}{C:Δ}{S:List Δ}{H H':Hp}{x:Em}{D D' E E':Dr}{L L':List Rw}{z:Δ}
theorem km(h:z∈eS x):z∈dS x.a\/z=x.m\/z=x.kd:=by
 rcases JC.mp h with h|h
 ·exact .inl h
 ·simp only[Jl,Jx,JA]at h;exact .inr h
theorem ky(h:z∈dS x.a):z∈eS x:=JC.mpr (.inl h)
theorem Dy:x.m∈eS x:=JC.mpr (.inr (by simp))
theorem Dp:x.kd∈eS x:=JC.mpr (.inr (by simp))
theorem GX.nt(b:GX K C H x D L E):NT (eS x) H:=fun z hz=>by
 rcases km hz with h|rfl|rfl
 ·exact b.dl.nt z h
 ·exact⟨_,b.md.di,trivial⟩
 ·obtain⟨f,e,_⟩:=b.md.kn;exact⟨_,e,trivial⟩
theorem GX.some(b:GX K C H x D L E)(h:z∈eS x):H z≠none:=fun w=>by
 obtain⟨o,e,_⟩:=b.nt z h;rw[w]at e;cases e
theorem GX.mv(b:GX K C H x D L E)(m:Mv S H H')(nt:NT S H)(h:∀z∈eS x,z∉S):GX K C H' x D L E:=⟨m.tup nt b.tu,b.dl.mv m nt (h _ (ky (Cl _))) (h _ (ky (wK _))) (h _ (ky (wN _))) (h _ (ky (wW _))),b.md.mv m nt (h _ Dy) (h _ Dp),b.n1,b.n2⟩
theorem GX.same(b:GX K C H x D L E)(s:FV H H'):GX K C H' x D L E:=b.mv (S:=[]) s.mv i4 (fun z _ h=>nomatch h)
theorem GX.m_out(b:GX K C H x D L E):x.m∉dS x.a:=b.dl.outD b.md.di b.n1
theorem GX.k_out(b:GX K C H x D L E):x.kd∉dS x.a:=by
 obtain⟨f,e,_⟩:=b.md.kn;exact b.dl.outD e b.n2
theorem GX.door(b:GX K C H x D L E)(m:Mv (dS x.a) H H')(d:GI K C H' x.a D' L'):GX K C H' x D' L' E:=⟨m.tup b.dl.nt b.tu,d,b.md.mv m b.dl.nt b.m_out b.k_out,b.n1,b.n2⟩
theorem GX.model(b:GX K C H x D L E)(m:Mv [x.m,x.kd] H H')(md:Gv H' x.m x.kd E'):GX K C H' x D L E':=by
 have nt:NT [x.m,x.kd] H:=fun z hz=>b.nt z (JC.mpr (.inr hz))
 have o:∀z∈dS x.a,z∉[x.m,x.kd]:=fun z hz w=>by
  simp only[Jl,Jx,JA]at w;rcases w with rfl|rfl
  ·exact b.m_out hz
  ·exact b.k_out hz
 exact⟨m.tup nt b.tu,b.dl.mv m nt (o _ (Cl _)) (o _ (wK _)) (o _ (wN _)) (o _ (wW _)),md,b.n1,b.n2⟩
theorem Zj(m:Mv (dS x.a) H H'):Mv (eS x) H H':=m.mono fun c h z=>h (ky z)
theorem Zc(m:Mv [x.m,x.kd] H H'):Mv (eS x) H H':=m.mono fun c h z=>h (JC.mpr (.inr z))
end
abbrev En:=Em×Dr×List Rw
structure Pw(K:ι)(C:Δ)(H0 H:Hp)(b:Δ)(c:Nat)(pl:Δ)(xs:List En):Prop where
 s:Mv [b] H0 H
 bx:GS H b c
 b0:H0 b≠none
 en:∀(i:Nat) (x:En),xs[i]? =some x->GX K C H x.1 x.2.1 x.2.2 x.2.1
 dj:∀(i j:Nat) (x y:En),i≠j->xs[i]? =some x->xs[j]? =some y->∀z∈eS x.1,z∉eS y.1
 fr:∀(i:Nat) (x:En),xs[i]? =some x->∀z∈eS x.1,H0 z=none
 pe:H pl=some (.lst (xs.map fun x=> .ref x.1.e))
 np:∀(i:Nat) (x:En),xs[i]? =some x->pl∉eS x.1
 fp:H0 pl=none
section
variable{K:ι}{C:Δ}{H0 H H':Hp}{b:Δ}{c c':Nat}{pl:Δ}{xs:List En}{i:Nat}{x:En}{D':Dr}{L':List Rw}
theorem Pw.nb(p:Pw K C H0 H b c pl xs)(hi:xs[i]? =some x):b∉eS x.1:=fun z=>p.b0 (p.fr i x hi b z)
theorem Pw.npb(p:Pw K C H0 H b c pl xs):pl≠b:=fun z=>p.b0 (z▸p.fp)
theorem Pw.grc(p:Pw K C H0 H b c pl xs)(g:HI b c' H H'):Pw K C H0 H' b c' pl xs:=by
 have m:Mv [b] H H':=fun c o h e=>g.kp c o (fun z=>h (Jj.mpr z)) e
 exact⟨p.s.trans m,g.bx,p.b0,fun i x hi=>(p.en i x hi).mv m (zV p.bx) (fun z hz w=>p.nb hi (Jj.mp w▸hz)),p.dj,p.fr,g.kp _ _ p.npb p.pe,p.np,p.fp⟩
theorem Pw.same(p:Pw K C H0 H b c pl xs)(s:FV H H'):Pw K C H0 H' b c pl xs:=p.grc (s.grc p.bx)
theorem Pw.mono(p:Pw K C H0 H b c pl xs)(h:c<=c'):Pw K C H0 H b c' pl xs:=⟨p.s,p.bx.mono h,p.b0,p.en,p.dj,p.fr,p.pe,p.np,p.fp⟩
theorem Pw.step(p:Pw K C H0 H b c pl xs)(hi:xs[i]? =some x)(m:Mv (eS x.1) H H')(e:GX K C H' x.1 D' L' D'):Pw K C H0 H' b c pl (xs.set i (x.1,D',L')):=by
 have hl:i<xs.length:=(JH.mp hi).1
 have nt:=(p.en i x hi).nt;have key:∀{j:Nat} {y:En},(xs.set i (x.1,D',L'))[j]? =some y->(j=i/\y=(x.1,D',L'))\/(j≠i/\xs[j]? =some y):=fun{j y} h=>by
  rw[List.getElem?_set]at h;split at h
  ·rename_i z
   subst z;injection h with h
   exact .inl ⟨rfl,h.symm⟩
  ·rename_i z
   exact .inr ⟨fun w=>z w.symm,h⟩
 have same:∀{j:Nat} {y:En},(xs.set i (x.1,D',L'))[j]? =some y->∃y',xs[j]? =some y'/\y'.1=y.1:=fun h=>by
  rcases key h with⟨rfl,rfl⟩|⟨_,h⟩
  ·exact⟨x,hi,rfl⟩
  ·exact⟨_,h,rfl⟩
 refine⟨fun c o hc e=>m c o (fun z=>?_) (p.s c o hc e),p.bx.mv m (p.nb hi),p.b0,fun j y hj=>?_,fun j k y z hjk hj hk=>?_,fun j y hj=>?_,?_,fun j y hj=>?_,p.fp⟩
 ·rw[p.fr i x hi c z]at e;cases e
 ·rcases key hj with⟨rfl,rfl⟩|⟨n,hj⟩
  ·exact e
  ·exact(p.en j y hj).mv m nt (fun z hz w=>p.dj j i y x n hj hi z hz w)
 ·obtain⟨y',hy,ey⟩:=same hj
  obtain⟨z',hz,ez⟩:=same hk;rw[<- ey,<- ez];exact p.dj j k y' z' hjk hy hz
 ·obtain⟨y',hy,ey⟩:=same hj
  rw[<- ey];exact p.fr j y' hy
 ·have:(xs.set i (x.1,D',L')).map (fun x=>V.ref x.1.e)=xs.map fun x=>V.ref x.1.e:=by
   refine List.ext_getElem? fun j=>?_
   rw[Jq,Jq,List.getElem?_set];split
   ·rename_i z
    subst z;rw[hi];rfl
   ·rfl
  rw[this];exact m _ _ (p.np i x hi) p.pe
 ·obtain⟨y',hy,ey⟩:=same hj
  rw[<- ey];exact p.np j y' hy
theorem Pw.at(p:Pw K C H0 H b c pl xs)(hi:xs[i]? =some x):Ql (xs.map fun x=>V.ref x.1.e) (i:Int)=some (.ref x.1.e):=Qk (by rw[Jq,hi];rfl)
theorem Pw.add{Ha:Hp}{y:Em}{D:Dr}(p:Pw K C H0 H b c pl xs)(s:FV H Ha)(e:GX K C Ha y D [] D)(f:∀z∈eS y,H z=none):Pw K C H0 (F2 Ha pl (.lst ((xs.map fun x=>V.ref x.1.e)++[.ref y.e]))) b c pl (xs++[(y,D,[])]):=by
 have pa:=p.same s;have m:Mv [pl] Ha (F2 Ha pl (.lst ((xs.map fun x=>V.ref x.1.e)++[.ref y.e]))):=Mv.upd1
 have nt:NT [pl] Ha:=NT.one pa.pe trivial
 have npy:pl∉eS y:=fun z=>by have:=p.pe;rw[f pl z]at this;cases this
 have key:∀{j:Nat} {w:En},(xs++[(y,D,[])])[j]? =some w->xs[j]? =some w\/(j=xs.length/\w=(y,D,[])):=fun{j w} h=>by
  by_cases hj:j<xs.length
  ·rw[J5 hj]at h;exact .inl h
  ·rw[JY (by lia)]at h
   cases q:j-xs.length with
   |zero=>rw[q]at h;cases h;exact .inr ⟨by lia,rfl⟩
   |succ k=>rw[q]at h;cases h
 have fz:∀z∈eS y,H0 z=none:=fun z hz=>by
  cases q:H0 z with
  |none=>rfl
  |some o=>
   by_cases w:z=b
   ·subst w;obtain⟨_,_,_,e1,_⟩:=p.bx;rw[f z hz]at e1;cases e1
   ·have:=p.s z o (zf w) q;rw[f z hz]at this;cases this
 refine⟨fun c o hc e1=>?_,pa.bx.mv m (zf p.npb.symm),p.b0,fun j w hj=>?_,fun j k w u hjk hj hk=>?_,fun j w hj=>?_,?_,fun j w hj=>?_,p.fp⟩
 ·rw[qi (fun z=>by rw[z,p.fp]at e1;cases e1)]
  exact s _ _ (p.s c o hc e1)
 ·rcases key hj with hj|⟨_,rfl⟩
  ·exact(pa.en j w hj).mv m nt (fun z hz u=>p.np j w hj (Jj.mp u▸hz))
  ·exact e.mv m nt (fun z hz u=>npy (Jj.mp u▸hz))
 ·rcases key hj with hj'|⟨ej,rfl⟩
  ·rcases key hk with hk'|⟨_,rfl⟩
   ·exact p.dj j k w u hjk hj' hk'
   ·exact fun z hz v=>(p.en j w hj').some hz (f z v)
  ·rcases key hk with hk'|⟨ek,rfl⟩
   ·exact fun z hz v=>(p.en k u hk').some v (f z hz)
   ·lia
 ·rcases key hj with hj'|⟨_,rfl⟩
  ·exact p.fr j w hj'
  ·exact fz
 ·rw[qb,JW];rfl
 ·rcases key hj with hj'|⟨_,rfl⟩
  ·exact p.np j w hj'
  ·exact npy
end
def qR(D:Dr)(nm:Str)(age c:Int):Str:=match D.kn.lookup nm with
 |none=>""
 |some e=>if qH D e age=true then(if c-e.last<1\/c-e.last>D.far then "" else if c-e.last<=D.near\/e.wt=some (age,c-1)then "open" else "wait")else ""
def F8(D:Dr)(nm:Str)(age c:Int):Kw:=(qT D nm age (some (c,0))).2
theorem db(D:Dr)(nm:Str)(age c d:Int):(qT D nm age (some (c,d))).2=F8 D nm age c:=by
 unfold F8 qT;split
 ·rfl
 ·split
  ·simp only
   split
   ·rfl
   ·rfl
  ·rfl
theorem rp{D:Dr}{nm:Str}{age c:Int}(nd:(D.kn.map (·.1)).Nodup)(nf:D.near<=D.far):F8 D nm age c=match D.kn.lookup nm with
  |none=>D.kn
  |some e=>if qR D nm age c="open" then zb D.kn nm ⟨age,c,none⟩else if qR D nm age c="wait" then zb D.kn nm ⟨e.age,e.last,some (age,c)⟩else D.kn:=by
 unfold F8;cases e1:D.kn.lookup nm with
 |none=>unfold qT;rw[e1]
 |some e=>
  simp only
  have no1:¬(("":Str)="open"):=by decide
  have no2:¬(("":Str)="wait"):=by decide
  have no3:¬(("wait":Str)="open"):=by decide
  have self:=tG nd e1
  by_cases ht:qH D e age=true
  ·have eh:(qT D nm age (some (c,0))).2=zb D.kn nm (zv D.near D.far e age c).2:=by
    unfold qT;rw[e1];simp only
    rw[Jc ht];split<;>rfl
   have ew:qR D nm age c=(if c-e.last<1\/c-e.last>D.far then("":Str)else if c-e.last<=D.near\/e.wt=some (age,c-1)then("open":Str)else("wait":Str)):=by
    unfold qR;rw[e1];simp only
    rw[Jc ht]
   rw[eh];unfold zv
   by_cases h1:c<=e.last
   ·rw[Jc (show c-e.last<1\/c-e.last>D.far from .inl (by lia))]at ew
    rw[Jc h1,ew,Jb no1,Jb no2];exact self
   ·rw[Jb h1]
    by_cases h2:c<=e.last+D.near
    ·rw[Jb (show¬(c-e.last<1\/c-e.last>D.far) by lia),Jc (show c-e.last<=D.near\/_ from .inl (by lia))]at ew
     rw[Jc h2,ew,Jc rfl]
    ·rw[Jb h2]
     by_cases h3:c<=e.last+D.far
     ·rw[Jb (show¬(c-e.last<1\/c-e.last>D.far) by lia)]at ew
      rw[Jc h3]
      by_cases h4:e.wt=some (age,c-1)
      ·rw[Jc (show c-e.last<=D.near\/_ from .inr h4)]at ew
       rw[Jc h4,ew,Jc rfl]
      ·rw[Jb (show¬(c-e.last<=D.near\/e.wt=some (age,c-1))from fun z=>z.elim (fun z=>by lia) h4)]at ew
       rw[Jb h4,ew,Jb no3,Jc rfl]
     ·rw[Jc (show c-e.last<1\/c-e.last>D.far from .inr (by lia))]at ew
      rw[Jb h3,ew,Jb no1,Jb no2];exact self
  ·have eh:(qT D nm age (some (c,0))).2=D.kn:=by
    unfold qT;rw[e1];simp only
    rw[Jb ht]
   have ew:qR D nm age c="":=by
    unfold qR;rw[e1];simp only
    rw[Jb ht]
   rw[eh,ew,Jb no1,Jb no2]
section
variable(K:ι)(C:Δ)
def jc:Sp:=fun vs H Q _=>∃(a:Da) (D:Dr) (L:List Rw) (p1 p2:Δ) (P R:Ps) (c d d':Int),vs=[.ref a.p,.ref p1,.ref p2]/\GI K C H a D L/\L.length<=1000/\GZ D/\bK H p1 P/\bK H p2 R/\Ib P/\Ib R/\cV D P=some (c,d)/\cV D R=some (c+1,d')/\R.nm=P.nm/\R.age=P.age/\D.kn.lookup R.nm=none/\(D.kn.length:Int)<D.most/\
 ∀H',Mv [a.bd,a.lg] H H'->GI K C H' a {D with kn:=zb D.kn R.nm ⟨R.age,c+1,none⟩} (L++[.learn P R])->Q .non H'
end
def za(D:Dr)(e:Kb)(age:Int):List (Int×Int):=if qH D e age=true then
  (if e.last+1<4096 then [(e.last+1,if 4095<e.last+D.near then 4095 else e.last+D.near)]else [])++
  (match e.wt with
   |none=>[]
   |some (x,w)=>if x=age/\w+1<=(if 4095<e.last+D.far then 4095 else e.last+D.far)then [(w+1,w+1)]else [])
 else []
def iI(D:Dr)(nm:Str)(age:Int):List (Int×Int):=match D.kn.lookup nm with
 |none=>[]
 |some e=>za D e age
def HN(H:Hp)(t:Δ)(zs:List (Int×Int)):Prop:=∃as:List Δ,H t=some (.tup (as.map V.ref))/\as.length=zs.length/\∀(i:Nat) (a:Δ) (z:Int×Int),as[i]? =some a->zs[i]? =some z->H a=some (.tup [.int z.1,.int z.2])
def IQ(H:Hp)(t:Δ)(zs:List (Int×Int)):Prop:=∃as:List Δ,H t=some (.lst (as.map V.ref))/\as.length=zs.length/\∀(i:Nat) (a:Δ) (z:Int×Int),as[i]? =some a->zs[i]? =some z->H a=some (.tup [.int z.1,.int z.2])
section
variable{S:List Δ}{H H':Hp}{t x:Δ}{zs:List (Int×Int)}{z:Int×Int}
theorem HN.mv(m:Mv S H H')(n:NT S H)(h:HN H t zs):HN H' t zs:=by
 obtain⟨as,e,l,r⟩:=h
 exact⟨as,m.tup n e,l,fun i a z e1 e2=>m.tup n (r i a z e1 e2)⟩
theorem HN.same(s:FV H H')(h:HN H t zs):HN H' t zs:=h.mv (S:=[]) s.mv i4
theorem IQ.add{as:List Δ}(e:H t=some (.lst (as.map V.ref)))(l:as.length=zs.length)(r:∀(i:Nat) (a:Δ) (z:Int×Int),as[i]? =some a->zs[i]? =some z->H a=some (.tup [.int z.1,.int z.2]))(hx:H x=some (.tup [.int z.1,.int z.2])):IQ (F2 H t (.lst (as.map V.ref++[.ref x]))) t (zs++[z]):=by
 have nt:NT [t] H:=NT.one e trivial
 refine⟨as++[x],by rw[qb,JW];rfl,by simp [l],fun i a y e1 e2=>(Mv.upd1 (a:=t)).tup nt ?_⟩
 by_cases hi:i<as.length
 ·rw[J5 hi]at e1
  rw[J5 (by rw[<- l];exact hi)]at e2
  exact r i a y e1 e2
 ·rw[JY (by lia)]at e1
  rw[JY (by rw[<- l];lia),<- l]at e2
  cases q:i-as.length with
  |zero=>rw[q]at e1 e2;cases e1;cases e2;exact hx
  |succ k=>rw[q]at e1;cases e1
end
section
variable(K:ι)(C:Δ)
def Iy(H:Hp)(v:V):Option Kb->Prop
 |none=>v= .non
 |some e=>∃a,v= .ref a/\GH H a e
def pH:Sp:=fun vs H Q _=>∃(p ta hk bd lg:Δ) (n:Nat) (D:Dr) (v:V) (o:Option Kb) (age:Int),vs=[.ref p,v,.int age]/\FX K C H p ta hk bd lg n D/\Iy H v o/\∀t H',FV H H'->HN H' t (match o with
 |none=>[]
 |some e=>za D e age)->Q (.ref t) H'
def oA:Sp:=fun vs H Q _=>∃(p ta hk bd lg:Δ) (n:Nat) (D:Dr) (nm:Str) (age:Int),vs=[.ref p,.str nm,.int age]/\FX K C H p ta hk bd lg n D/\∀t H',FV H H'->HN H' t (iI D nm age)->Q (.ref t) H'
def ib:Sp:=fun vs H Q _=>∃(D:Dr),vs=[.int D.near,.int D.far,.int (D.kss.length:Int)]/\D.least=0/\D.kn=[]/\∀m kd H',FV H H'->H m=none->H kd=none->Gv H' m kd D->Q (.ref m) H'
def ou:Sp:=fun vs H Q _=>∃(m kd p:Δ) (D:Dr) (nm:Str) (age c:Int),vs=[.ref m,.ref p]/\Gv H m kd D/\H p=some (.tup [.str nm,.int age,.int c])/\∀H',FV H H'->Q (.str (qR D nm age c)) H'
def ij:Sp:=fun vs H Q _=>∃(m kd p:Δ) (D:Dr) (nm:Str) (age c:Int),vs=[.ref m,.ref p]/\Gv H m kd D/\H p=some (.tup [.str nm,.int age,.int c])/\GZ D/\D.near<=D.far/\∀H',Mv [m,kd] H H'->Gv H' m kd {D with kn:=F8 D nm age c}->Q (.bl (decide (qR D nm age c="open"))) H'
structure GL(H:Hp)(cd tb kt:Δ)(t:List Int)(kss:List (List Int)):Prop where
 e:H cd=some (.tup [.ref tb,.ref kt])
 tb:Rd H tb (.tup (t.map V.int))
 ks:Ip [] H kt kss
def Qg(t:List Int)(kss:List (List Int))(nm:Str)(age c d:Int):Ps:=⟨nm,age,cq t (kss.getD age.toNat []) nm c d⟩
def cw:Sp:=fun vs H Q _=>∃(cd tb kt p:Δ) (t:List Int) (kss:List (List Int)) (nm:Str) (age c d:Int),vs=[.ref cd,.ref p,.int d]/\GL H cd tb kt t kss/\H p=some (.tup [.str nm,.int age,.int c])/\t.Perm Gx/\QQ nm/\0<=age/\age<kss.length/\0<=c/\c<4096/\aU d/\∀pr H',FV H H'->bK H' pr (Qg t kss nm age c d)->Q (.ref pr) H'
end
section
variable{S:List Δ}{H H':Hp}{cd tb kt:Δ}{t:List Int}{kss:List (List Int)}
theorem GL.mv(h:GL H cd tb kt t kss)(m:Mv S H H')(n:NT S H):GL H' cd tb kt t kss:=⟨m.tup n h.e,m.rd n h.tb,h.ks.mv m n⟩
theorem GL.same(h:GL H cd tb kt t kss)(s:FV H H'):GL H' cd tb kt t kss:=h.mv (S:=[]) s.mv i4
end
end L3
namespace S0
open PySem PyProof.Rows
def Rs(xs:Array Nat):Prop:=xs.toList.Pairwise (· < ·)
theorem Rs.at{xs:Array Nat}(h:Rs xs){i j:Nat}(hi:i<xs.size)(hj:j<xs.size)(hij:i<j):xs[i]<xs[j]:=by
 have:=List.pairwise_iff_getElem.mp h i j (by simpa using hi) (by simpa using hj) hij
 simpa using this
theorem iP{xs:Array Nat}(h:Rs xs)(j:Nat):∀(f lo hi:Nat),lo<=hi->hi<=xs.size->hi-lo<=f->(∀i (hx:i<xs.size),i<lo->xs[i]<j)->(∀i (hx:i<xs.size),hi<=i->j<=xs[i])->
  SetTable.below.go xs j f lo hi<=xs.size/\(∀i (hx:i<xs.size),i<SetTable.below.go xs j f lo hi->xs[i]<j)/\(∀i (hx:i<xs.size),SetTable.below.go xs j f lo hi<=i->j<=xs[i])
 |0,lo,hi,h1,h2,h3,h4,h5=>by
  have e:lo=hi:=by lia
  subst e
  exact⟨h2,h4,h5⟩
 |f+1,lo,hi,h1,h2,h3,h4,h5=>by
  unfold SetTable.below.go
  by_cases hlt:lo<hi
  ·rw[Jc hlt]
   have hm:(lo+hi)/2<xs.size:=by lia
   dsimp only
   have eg:xs.getD ((lo+hi)/2) j=xs[(lo+hi)/2]:=by simp [Array.getD,hm]
   rw[eg]
   by_cases hc:xs[(lo+hi)/2]<j
   ·rw[Jc hc]
    refine iP h j f _ _ (by lia) h2 (by lia) (fun i hi' hi2=>?_) h5
    by_cases e:i=(lo+hi)/2
    ·subst e;exact hc
    ·exact Nat.lt_trans (h.at hi' hm (by lia)) hc
   ·rw[Jb hc]
    refine iP h j f _ _ (by lia) (by lia) (by lia) h4 fun i hi' hi2=>?_
    by_cases e:i=(lo+hi)/2
    ·subst e;lia
    ·have:=h.at hm hi' (by lia)
     lia
  ·rw[Jb hlt]
   exact⟨by lia,h4,fun i hx hi2=>h5 i hx (by lia)⟩
theorem cx{xs:Array Nat}(h:Rs xs)(j:Nat):SetTable.below xs j<=xs.size/\(∀i (hi:i<xs.size),i<SetTable.below xs j->xs[i]<j)/\(∀i (hx:i<xs.size),SetTable.below xs j<=i->j<=xs[i]):=
 iP h j xs.size 0 xs.size (Jz _) (Jf _) (by lia) (fun i _ h=>absurd h (Nat.not_lt_zero _)) fun i hx hi=>absurd hx (by lia)
theorem Rs.put{xs:Array Nat}(h:Rs xs){j:Nat}(hj:(xs[SetTable.below xs j]? ==some j)=false):Rs (SetTable.insertAt xs (SetTable.below xs j) j):=by
 obtain⟨h1,h2,h3⟩:=cx h j;generalize SetTable.below xs j=p at *
 unfold Rs;rw[SetTable.toList_insertAt,List.pairwise_append];have hs:(xs.toList.take p++xs.toList.drop p).Pairwise (· < ·):=by rw[List.take_append_drop];exact h
 obtain⟨a1,a2,a3⟩:=List.pairwise_append.mp hs;have lo:∀x∈xs.toList.take p,x<j:=by
  intro x hx;obtain⟨m,hm,rfl⟩:=List.mem_iff_getElem.mp hx;simp at hm
  simpa using h2 m (by lia) (by lia)
 have hi:∀x∈xs.toList.drop p,j<x:=by
  intro x hx;obtain⟨m,hm,rfl⟩:=List.mem_iff_getElem.mp hx;simp at hm
  have hpm:p+m<xs.size:=by lia
  have hp:p<xs.size:=by lia
  have e0:j<=xs[p]:=h3 p hp (Jf _)
  have e1:xs[p]≠j:=by
   intro e;rw[getElem?_pos xs p hp,e]at hj;simp at hj
  simp only[List.getElem_drop,Array.getElem_toList]
  by_cases em:m=0
  ·subst em;simp only[Nat.add_zero];lia
  ·have:=h.at hp hpm (by lia)
   lia
 refine⟨a1,List.pairwise_cons.mpr ⟨hi,a2⟩,fun x hx y hy=>?_⟩
 rcases Jl.mp hy with rfl|hy
 ·exact lo x hx
 ·exact a3 x hx y hy
theorem bT{t:SetTable}{h:Int}:∀(f:Nat) (p:SetTable.Probe) {j:Nat} {d:Option Nat},(∀j',p.dummy=some j'->t.slot j'= .dummy)->
  SetTable.probe.go t (fun _=>h+1) h f p=some (.empty j d)->t.slot j= .empty/\∀j',d=some j'->t.slot j'= .dummy
 |0,p,j,d,hp,e=>nomatch e
 |f+1,p,j,d,hp,e=>by
  unfold SetTable.probe.go at e;have ha:∀q:SetTable.Probe,(t.advance q).dummy=q.dummy:=fun q=>by
   unfold SetTable.advance;split
   ·rfl
   ·rfl
  cases hs:t.slot p.j with
  |empty=>
   rw[hs]at e;simp only[Option.some.injEq,SetTable.Met.empty.injEq]at e;obtain⟨rfl,rfl⟩:=e
   exact⟨hs,hp⟩
  |dummy=>
   rw[hs]at e;refine bT f _ (fun j' h'=>?_) e
   rw[ha]at h';have h':some p.j=some j':=h'
   injection h' with h'
   rw[<- h'];exact hs
  |live i=>
   rw[hs]at e;have hne:((h+1:Int)==h)=false:=by simp;lia
   simp only[hne,Bool.false_eq_true,JD]at e;exact bT f _ (fun j' h'=>hp j' (by rw[<- ha p];exact h')) e
theorem t8{t:SetTable}{h:Int}{j:Nat}{b:Bool}(e:t.freeSlot h=some (j,b)):∀i,t.slot j≠ .live i:=by
 unfold SetTable.freeSlot at e;split at e
 ·rename_i j' d he
  obtain⟨a1,a2⟩:=bT _ _ (fun j' h'=>by cases h') he
  simp only[Option.some.injEq,Prod.mk.injEq]at e;obtain⟨e1,_⟩:=e;intro i z;cases d with
  |none=>
   have e1:j'=j:=e1
   rw[<- e1,a1]at z;cases z
  |some k=>
   have e1:k=j:=e1
   rw[<- e1,a2 k rfl]at z;cases z
 ·cases e
def TOk(t:SetTable):Prop:=t.plain=true->Rs t.place
theorem TOk.standIn(t:SetTable)(n:Nat):TOk (t.standIn n):=fun h=>nomatch h
theorem B4{t:SetTable}{j:Nat}(h:TOk t)(h3:∀i,t.slot j≠ .live i):TOk (t.put j).1:=by
 intro hp;have h1:=h hp;unfold SetTable.put
 dsimp only
 refine h1.put ?_
 cases e:(t.place[SetTable.below t.place j]? ==some j)with
 |false=>rfl
 |true=>
  refine absurd ?_ (h3 (SetTable.below t.place j))
  unfold SetTable.slot
  dsimp only
  rw[e];rfl
theorem ux{t:SetTable}(h:TOk t)(es:Array (Int×Γ))(hh:Int)(x:Γ):TOk (layNew t es hh x).2.1/\(layNew t es hh x).2.1.led=t.led:=by
 unfold layNew;split
 ·rename_i slot wd he
  dsimp only
  have hk:=B4 (j:=slot) h (t8 he)
  unfold SetTable.orStandIn;split
  ·exact⟨hk,rfl⟩
  ·exact⟨TOk.standIn _ _,rfl⟩
 ·exact⟨TOk.standIn _ _,rfl⟩
theorem fP(f:Nat->Option Nat):∀l:List Nat,(l.filterMap fun j=>(f j).map (j,·)).map (·.1)=l.filter fun j=>(f j).isSome
 | []=>rfl
 |j::l=>by
  rw[JP,List.filter_cons];cases e:f j with
  |none=>simpa using fP f l
  |some k=>simpa using fP f l
theorem nM{mask fg mv:Nat}{led plain:Bool}{hs:Array Int}{t:SetTable}{o:Array Nat}(e:SetTable.laid mask fg mv led plain hs=some (t,o)):Rs t.place/\t.dummies= #[]/\t.led=led:=by
 unfold SetTable.laid at e;cases hl:SetTable.layClean mask hs with
 |none=>rw[hl]at e;exact nomatch e
 |some ow=>
  rw[hl]at e;have e':some (({mask,place:=(((List.range (mask+1)).filterMap fun j=>(ow.getD j none).map (j,·)).map (·.1)).toArray,dummies:= #[],finger:=fg,led,moves:=mv,plain}:SetTable),(((List.range (mask+1)).filterMap fun j=>(ow.getD j none).map (j,·)).map (·.2)).toArray)=some (t,o):=e
  injection e' with e'
  injection e' with e1 e2
  subst e1;refine⟨?_,rfl,rfl⟩
  unfold Rs
  dsimp only
  rw[fP];exact List.Pairwise.filter _ List.pairwise_lt_range
theorem vZ(t:SetTable)(es:Array (Int×Γ))(wn:Nat):TOk (relayAll t es wn).2.1/\(relayAll t es wn).2.1.led=t.led:=by
 unfold relayAll;split
 ·rename_i t' order he
  dsimp only
  obtain⟨a1,a2,a3⟩:=nM he;split
  ·exact⟨fun _=>a1,a3⟩
  ·exact⟨TOk.standIn _ _,rfl⟩
 ·exact⟨TOk.standIn _ _,rfl⟩
end S0
namespace S0
open PySem PySem.Spec PyProof.Rows
def zt(w:Ω):Bool:=w.params.followText "set-order"
def TW(w:Ω)(t:SetTable):Prop:=zt w=true\/(t.led=true/\TOk t)
section
variable{prog:Ξ}{w:Ω}{K:Type} [DecidableEq K](knd:PySem.KeyKind prog w K)(kf:Γ->K)
def SetK(h:Ψ)(a:Δ)(ks:List K):Prop:=∃o es ep t,h.get? a=some o/\o.ExactSet/\o.data= .set es ep t/\t.fits es.size=true/\es.size<scanBound/\
 ElemsOf knd es.toList/\(es.toList.map fun e=>kf e.2).Perm ks/\TW w t
variable{knd kf}
theorem SetK.at{h h':Ψ}{a:Δ}{ks:List K}(x:SetK knd kf h a ks)(e:∀o,h.get? a=some o->h'.get? a=some o):SetK knd kf h' a ks:=by
 obtain⟨o,es,ep,t,h1,r⟩:=x
 exact⟨o,es,ep,t,e _ h1,r⟩
theorem SetK.lt{h:Ψ}{a:Δ}{ks:List K}(x:SetK knd kf h a ks):a<h.objs.size:=by
 obtain⟨o,es,ep,t,h1,r⟩:=x;exact Ji h1
theorem SetK.len{h:Ψ}{a:Δ}{ks:List K}(x:SetK knd kf h a ks):ks.length<scanBound:=by
 obtain⟨o,es,ep,t,h1,h2,h3,h4,h5,h6,h7,h8⟩:=x;rw[<- h7.length_eq,Je,Jn];exact h5
theorem kM(hkf:∀k v,knd.is k v=true->kf v=k){es:Array (Int×Γ)}(hel:ElemsOf knd es.toList)(k:K):
  k∈(es.toList.map fun e=>kf e.2)↔∃e∈es.toList,knd.is k e.2=true:=by
 rw[Ju];constructor
 ·rintro⟨e,he,rfl⟩
  obtain⟨⟨k',hk',_⟩,_⟩:=hel e he
  exact⟨e,he,by rw[hkf k' _ hk'];exact hk'⟩
 ·rintro⟨e,he,hk⟩
  exact⟨e,he,hkf k _ hk⟩
theorem Zf{h:Ψ}{a:Δ}{o:Obj}{es:Array (Int×Γ)}{ep:Nat}{t:SetTable}(ho:h.get? a=some o)(hd:o.data= .set es ep t)(es':Array (Int×Γ))(t':SetTable):
  (h.update a (Obj.putSet es' t')).get? a=some {o with data:= .set es' (ep+1) t'}:=by
 have:=Ez (Obj.putSet es' t') ho (by rw[putSet_of es' t' hd];rfl)
 rw[putSet_of es' t' hd]at this;exact this
variable{A:Around}{E:FS}{s:Θ}
theorem pB(hkf:∀k v,knd.is k v=true->kf v=k){a:Δ}{ks:List K}{k:K}{x:Γ}{Q:Bool->Θ->Prop}(hkey:knd.is k x=true)(hsc:x.scannable=true)
  (hS:SetK knd kf s.heap a ks)(hroom:ks.length+1<scanBound)
  (h:∀h',Ψ.SameBut a s.heap h'->SetK knd kf h' a (if k∈ks then ks else ks++[k])->Q (decide (k∉ks)) {s with heap:=h'}):
  ε (model prog w) A (setAddHashed a x (knd.hash k)) Q E s:=by
 obtain⟨o,es,ep,t,ho,hex,hd,hf,hb,hel,hpm,htw⟩:=hS;have hmem:k∈ks↔∃e∈es.toList,knd.is k e.2=true:=by rw[<- hpm.mem_iff];exact kM hkf hel k
 have hsz:es.size=ks.length:=by rw[<- hpm.length_eq,Je,Jn]
 unfold setAddHashed setAddHashedIn;refine JM (Ja (wpAny_setState_of ho hd hf ?_))
 dsimp only
 rw[byScan_of hsc hb hel];simp only[↓reduceIte];unfold setAddByScan;refine Ja (Ja (DR (Ja (wpAny_setScan_of hkey ho hd hf hel ?_))))
 cases hr:List.findIdx? (fun e=>knd.is k e.2) es.toList with
 |some j=>
  obtain⟨hj,hpj,_⟩:=List.findIdx?_eq_some_iff_getElem.mp hr
  have hk:k∈ks:=hmem.mpr ⟨es.toList[j],EB hj,hpj⟩
  refine Jd (Jd ?_)
  have:=h s.heap (Ψ.SameBut.refl a s.heap) (by rw[Jc hk];exact⟨o,es,ep,t,ho,hex,hd,hf,hb,hel,hpm,htw⟩)
  rw[Jm (by simpa using hk)]at this
  exact this
 |none=>
  have hk:k∉ks:=fun z=>by
   obtain⟨e,he,hp⟩:=hmem.mp z
   have:=List.findIdx?_eq_none_iff.mp hr e he
   rw[hp]at this;cases this
  have hgw:∀(b:Bool) {s₁:Θ} {Q':Unit->Θ->Prop},Q' () s₁->ε (model prog w) A (match b with|true=>rule "set.scan.the-table-gave-way"|false=>pure ()) Q' E s₁:=
   fun b s₁ Q' hq=>by cases b<;>first|exact Jd hq|exact DR hq
  have hperm:=layNew_perm t es (knd.hash k) x;have hfits:=layNew_fits t es (knd.hash k) x;have htk:TW w (layNew t es (knd.hash k) x).2.1:=by
   rcases htw with z|⟨z1,z2⟩
   ·exact .inl z
   ·obtain⟨b1,b2⟩:=ux z2 es (knd.hash k) x
    exact .inr ⟨b2.trans z1,b1⟩
  dsimp only
  generalize hL:layNew t es (knd.hash k) x=L at hperm hfits htk⊢
  obtain⟨es1,t1,wd,gave⟩:=L
  dsimp only at hperm hfits htk⊢
  rw[Array.toList_push]at hperm;have hel1:ElemsOf knd es1.toList:=(hel.push hkey hsc).perm hperm
  have hpm1:(es1.toList.map fun e=>kf e.2).Perm (ks++[k]):=by
   refine(hperm.map _).trans ?_
   rw[JW];refine hpm.append ?_
   show [kf x].Perm [k]
   rw[hkf k x hkey]
  have hsz1:es1.size=ks.length+1:=by rw[<- Jn,hperm.length_eq,Jw,Jn,hsz];rfl
  have hb1:es1.size<scanBound:=by rw[hsz1];exact hroom
  have key:∀t2:SetTable,t2.fits es1.size=true->TW w t2->∀(Z:Option Bool->Θ->Prop),(∀h',Ψ.SameBut a s.heap h'->SetK knd kf h' a (ks++[k])->Z (some true) {s with heap:=h'})->
    ε (model prog w) A (do
     storeSet a es1 t2
     if(!wd&&t2.tooFull)=true then do
       (match(relayAll t2 es1 (SetTable.grown es1.size)).2.2 with|true=>rule "set.scan.the-table-gave-way"|false=>pure ())
       storeSet a (relayAll t2 es1 (SetTable.grown es1.size)).1 (relayAll t2 es1 (SetTable.grown es1.size)).2.1
       pure (some true)
      else pure (some true)) Z E s:=by
   intro t2 f2 w2 Z hZ;refine Ja (wpAny_storeSet_of ho hd ?_ (fits_of_scanBound hb1))
   have ho1:=Zf ho hd es1 t2;have sb1:=J9 s.heap a (Obj.putSet es1 t2);split
   ·have hp:=relayAll_perm t2 es1 (SetTable.grown es1.size)
    have hfr:=relayAll_fits t2 es1 (SetTable.grown es1.size);obtain⟨k1,k2⟩:=vZ t2 es1 (SetTable.grown es1.size)
    have wr:TW w (relayAll t2 es1 (SetTable.grown es1.size)).2.1:=by
     rcases w2 with z|⟨z1,z2⟩
     ·exact .inl z
     ·exact .inr ⟨k2.trans z1,k1⟩
    generalize relayAll t2 es1 (SetTable.grown es1.size)=Rl at hp hfr wr⊢
    obtain⟨es2,t3,g2⟩:=Rl
    dsimp only at hp hfr wr⊢
    have hb2:es2.size<scanBound:=by rw[<- Jn,hp.length_eq,Jn];exact hb1
    refine Ja (hgw _ (Ja (wpAny_storeSet_of ho1 rfl ?_ (fits_of_scanBound hb2))))
    exact Jd (hZ _ (sb1.trans (J9 _ a _)) ⟨_,es2,_,t3,Zf ho1 rfl es2 t3,hex,rfl,hfr,hb2,hel1.perm hp,(hp.map _).trans hpm1,wr⟩)
   ·exact Jd (hZ _ sb1 ⟨_,es1,_,t2,ho1,hex,rfl,f2,hb1,hel1,hpm1,w2⟩)
  have fin:∀h',Ψ.SameBut a s.heap h'->SetK knd kf h' a (ks++[k])->Q true {s with heap:=h'}:=fun h' b1 b2=>by
   have:=h h' b1 (by rw[Jb hk];exact b2)
   rw[Jg (by simpa using hk)]at this
   exact this
  refine Ja (hgw _ ?_)
  split
  ·refine Ja ?_
   rw[hashByValue_scannable 8 hsc];refine Jd ?_
   refine key _ ?_ ?_ _ fun h' b1 b2=>Jd (fin h' b1 b2)
   ·split
    ·exact hfits
    ·exact SetTable.fits_plain_off hfits
   ·split
    ·exact htk
    ·rcases htk with z|⟨z1,z2⟩
     ·exact .inl z
     ·exact .inr ⟨z1,fun z=>nomatch z⟩
  ·refine Ja (Jd ?_)
   simp only[↓reduceIte];exact key _ hfits htk _ fun h' b1 b2=>Jd (fin h' b1 b2)
end
def QY{K:Type} [DecidableEq K](acc:List K)(k:K):List K:=if k∈acc then acc else acc++[k]
def bB{K:Type} [DecidableEq K](val:Nat->K)(i:Nat):List K:=((List.range i).map val).foldl QY []
theorem lU{K:Type} [DecidableEq K](val:Nat->K)(i:Nat):bB val (i+1)=QY (bB val i) (val i):=by
 unfold bB;rw[List.range_succ,JW,List.foldl_append];rfl
theorem oQ{K:Type} [DecidableEq K](val:Nat->K):∀i,(bB val i).length<=i
 |0=>Jf _
 |i+1=>by
  rw[lU];unfold QY
  have:=oQ val i
  split
  ·lia
  ·rw[Jw,Ef];lia
def ddL{K:Type} [DecidableEq K](l:List K):List K:=l.foldl QY []
theorem sQ{K:Type} [DecidableEq K] [Inhabited K](l:List K):bB (fun i=>l.getD i default) l.length=ddL l:=by
 unfold bB ddL;congr 1
 apply List.ext_getElem
 ·simp
 ·intro i h1 h2
  simp [JI,h2]
abbrev Qf(led:Bool):Obj:={cls:= .type "set",dict:=none,data:= .set #[] 0 (.fresh 0 0 led)}
section
variable{prog:Ξ}{w:Ω}{K:Type} [DecidableEq K]{knd:PySem.KeyKind prog w K}{kf:Γ->K}
theorem Ak{h:Ψ}{a:Δ}(hg:h.get? a=some (Qf (!zt w))):SetK knd kf h a []:=by
 refine⟨_,#[],0,_,hg,⟨rfl,rfl,rfl⟩,rfl,rfl,by unfold scanBound;simp,(fun e he=>nomatch he),List.Perm.nil,?_⟩
 cases e:zt w with
 |true=>exact .inl e
 |false=>exact .inr ⟨rfl,fun _=>List.Pairwise.nil⟩
section
variable{A:Around}{R:Result->Θ->Prop}{I:Δ}{fp wr:List Δ}{G:Array GenState->Array GenState->Prop}{n:Nat}{P:Nat->Γ->Prop}{St:Nat->Θ->Prop}
theorem AV(hkf:∀k v,knd.is k v=true->kf v=k)(W:WalksS prog w A.in1 I fp wr G n P St)(S:Δ)(hSf:S∉fp)
  (val:Nat->K)(hval:∀i v,P i v->knd.is (val i) v=true/\v.scannable=true)(hb:n+1<scanBound):
  ∀(k i:Nat) (s:Θ),n-i=k->i<=n->St i s->SetK knd kf s.heap S (bB val i)->
   (∀s',Moved (S::wr) G s s'->SetK knd kf s'.heap S (bB val n)->R (.ok (.ret .none)) s')->
   codeAny (model prog w) A (.builtin "set.update.loop" ⟨[.ref S,.ref I],[]⟩) R s:=by
 have hSw:S∉wr:=fun h=>hSf (W.sub _ h)
 have hsub:∀b∈wr,b∈S::wr:=fun b hb=>JE _ hb
 intro k
 induction k with
 |zero=>
  intro i s hk hi hst hS hR;have hin:i=n:=by lia
  subst hin;refine Ek PyProof.Rows.F.entry_set_update_loop ?_
  rw[Around.under_plainId PyProof.Rows.F.plain_set_update_loop _]
  show ε _ A.in1 (pyNext (.ref I) >>= _) _ _ s
  refine Ja (W.done s _ _ hst fun s' hm=>?_)
  show ε _ A.in1 (ret Γ.none) _ _ s'
  exact Jd (hR s' (hm.mono hsub) (hS.at fun o e=>hm.heap S _ hSw e))
 |succ k ih=>
  intro i s hk hi hst hS hR;have hlt:i<n:=by lia
  refine Ek PyProof.Rows.F.entry_set_update_loop ?_
  rw[Around.under_plainId PyProof.Rows.F.plain_set_update_loop _]
  show ε _ A.in1 (pyNext (.ref I) >>= _) _ _ s
  refine Ja (W.item i s _ _ hlt hst fun v s' hP hst' hm=>?_)
  obtain⟨hv1,hv2⟩:=hval i v hP;have hS':SetK knd kf s'.heap S (bB val i):=hS.at fun o e=>hm.heap S _ hSw e
  show ε _ A.in1 (holding [v] (setAdd S v) >>= _) _ _ s'
  refine Ja (JM ?_)
  unfold setAdd;refine JM (Ja (knd.pyHash (k:=val i) hv1 ?_))
  have:=oQ val i
  refine pB (s:={s' with toks:=s'.toks+1}) hkf hv1 hv2 hS' (by lia) fun h' hsb hS2=>?_
  have hSi:SetK knd kf h' S (bB val (i+1)):=by rw[lU];exact hS2
  refine Jd ⟨plainId_quiet PyProof.Rows.F.plain_set_update_loop _,ih (i+1) _ (by lia) hlt (W.frame _ s' _ _ hst' (Ey _) fun b hb o e=>?_) hSi fun s'' hm'' hS''=>?_⟩
  ·rw[hsb.2 b (fun h:b=S=>hSf (by rw[<- h];exact hb))];exact e
  ·refine hR s'' (Moved.trans W.gtrans ((hm.mono hsub).then_heap (Ey _) fun b o hb e=>?_) hm'') hS''
   rw[hsb.2 b (fun h:b=S=>hb (by rw[h];exact Jy))];exact e
end
variable{A:Around}{E:FS}{s:Θ}
theorem CL(a:Γ){Q₁:FS}(h:Q₁ (.ref s.heap.objs.size) {s with heap:=s.heap.push (Qf (!zt w))}):
  codeAny (model prog w) A (.call (.builtin "set.__new__") ⟨[.type "set",a],[]⟩) (wants Q₁ E) s:=by
 refine codeAny_of_tree ?_
 show ε _ A.in1 (do checkBuiltinCall "set.__new__" ⟨[.type "set",a],[]⟩;again (.builtin "set.__new__" ⟨[.type "set",a],[]⟩)) _ _ s
 refine Ja (DY (PySem.F.newCall_set_1 a) (Jd ⟨plainId_quiet PySem.F.plain_set_new _,Ek PySem.F.entry_set_new ?_⟩))
 rw[Around.under_plainId PySem.F.plain_set_new _];unfold γ.«set.__new__» γ.Frozenset.newClass
 have hsub:=sub_set_self;obtain⟨hp,g,d,tk,os⟩:=s
 dsimp only
 wp_walk
 refine wpAny_askSetting (Jd ?_)
 dsimp only
 simp only[newObj];refine Ja (wpAny_alloc (Jd ?_))
 exact Jd h
def wS(knd:PySem.KeyKind prog w K)(kf:Γ->K)(s:Θ)(ks:List K)(r:Γ)(s₂:Θ):Prop:=
 r= .none/\∃h' tk,s₂={s with heap:=h',toks:=tk}/\SetK knd kf h' s.heap.objs.size ks/\∀b o,b<s.heap.objs.size->s.heap.get? b=some o->h'.get? b=some o
theorem Bn(hkf:∀k v,knd.is k v=true->kf v=k){t:Δ}{items:Array Γ}{val:Nat->K}(hh:A.handled=none)(ht:s.heap.IsList t items)
  (hv:∀i v,items[i]? =some v->knd.is (val i) v=true/\v.scannable=true)(hb:items.size+1<scanBound):
  ε (model prog w) A.in1.in1 (γ.«set.__init__» ⟨[.ref s.heap.objs.size,.ref t],[]⟩) (fun fin s'=>∃v,fin= .done (.ret v)/\wS knd kf s (bB val items.size) v s') E {s with heap:=s.heap.push (Qf (!zt w))}:=by
 obtain⟨⟨oc,od,ot,os⟩,e1,e2,n,e3⟩:=ht;simp only at e2 e3
 subst e2 e3;have e1':(s.heap.push (Qf (!zt w))).get? t=some ⟨.type "list",od,.seq items n,os⟩:=Jh _ e1
 have f1:=PySem.F.sub_list_set;have f2:=PySem.F.sub_list_frozenset;have f3:(Γ.type "list"==Γ.type "dict")=false:=by decide
 have t1:(s.heap.push (Qf (!zt w))).IsList t items:=⟨_,e1',rfl,n,rfl⟩
 have hS:(s.heap.push (Qf (!zt w))).get? s.heap.objs.size=some (Qf (!zt w)):=Jp _ rfl
 unfold γ.«set.__init__» noKeywords γ.Frozenset.updateFrom
 generalize hPI:pyIter=PI
 wp_walk
 subst hPI;refine EO t1 (Ja (wpAny_runValue ?_))
 have lt:t<s.heap.objs.size:=Ji e1
 have sz:(s.heap.push (Qf (!zt w))).objs.size=s.heap.objs.size+1:=JV ..
 have h3:A.in1.in1.in1.handled=none:=by simp [hh]
 have ni:t≠(s.heap.push (Qf (!zt w))).objs.size:=by rw[sz];exact Jo (D9 lt)
 have nS:s.heap.objs.size∉[(s.heap.push (Qf (!zt w))).objs.size,t]:=by
  rw[sz];simp only[Jl,Jx,JA,not_or]
  exact⟨Jo (D3 _),J3 lt⟩
 refine AV hkf ((Walks.list h3 _ t ni items).toS) s.heap.objs.size nS val hv hb items.size 0 _ (by lia) (Jz _) ⟨⟨_,Jp _ rfl,rfl,rfl⟩,t1.push _⟩ (Ak (Jh _ hS)) fun s' mv hS'=>?_
 obtain⟨h',g',d',tk',os'⟩:=s'
 obtain rfl:g'=s.gens:=mv.gens
 obtain rfl:d'=s.drawn:=mv.drawn
 obtain rfl:os'=s.os:=mv.os
 show ε _ _ _ _ _ _
 refine Jd ?_
 show ε _ _ (ret Γ.none) _ _ _
 refine Jd ⟨_,rfl,rfl,h',tk',rfl,hS',fun b o hb' e=>mv.heap b o ?_ (Jh _ (Jh _ e))⟩
 rw[sz];simp only[Jl,Jx,JA,not_or]
 exact⟨Jo hb',Jo (D9 hb')⟩
theorem sT(hkf:∀k v,knd.is k v=true->kf v=k){t:Δ}{items:Array Γ}{val:Nat->K}{Q:FS}(hh:A.handled=none)(ht:s.heap.IsList t items)
  (hv:∀i v,items[i]? =some v->knd.is (val i) v=true/\v.scannable=true)(hb:items.size+1<scanBound)
  (h:∀(h':Ψ) (tk:Nat),SetK knd kf h' s.heap.objs.size (bB val items.size)->(∀b o,s.heap.get? b=some o->h'.get? b=some o)->Q (.ref s.heap.objs.size) {s with heap:=h',toks:=tk}):
  ε (model prog w) A (call (.type "set") [.ref t]) Q E s:=by
 obtain⟨c,tl,hmro⟩:=PySem.F.called_set.mro;have m1:=PySem.F.called_set.made;have m2:=PySem.F.called_set.sub;have m3:=PySem.F.called_set.notType;have m4:=PySem.F.called_set.canCreate;have m5:=PySem.F.typeCall_set_1 (.ref t);refine wpAny_call (codeAny_of_tree ?_)
 show ε _ _ (callAny (.type "set") _) _ _ _
 refine Jd ⟨Code.quiet_builtin _ (by decide +kernel),Ek PySem.F.entry_type_call ?_⟩
 rw[Around.under_plain (weight_type_call_type "set" [.ref t] []) rfl]
 repeat (any_goals (first|assumption|wp_step))
 refine EI (CL (.ref t) (E:=E) (Q₁:=fun obj s₁=>obj= .ref s.heap.objs.size/\s₁={s with heap:=s.heap.push (Qf (!zt w))}) ⟨rfl,rfl⟩) fun r s₁ hr=>?_
 cases r with
 |error e=>exact hr
 |ok fl=>
  cases fl with
  |ret obj=>
   obtain⟨rfl,rfl⟩:=hr;have hT:Θ.TypeIs {s with heap:=s.heap.push (Qf (!zt w))} (.ref s.heap.objs.size) "set":=⟨_,Jp _ rfl,rfl⟩
   have n1:=PySem.F.called_set.init.lookup;have n2:=PySem.F.called_set.init.bind (.ref s.heap.objs.size)
   repeat (any_goals (first|assumption|wp_step))
   refine EI (codeAny_call_builtin (R:=wants (wS knd kf s (bB val items.size)) E) PySem.F.called_set.init.plain PySem.F.entry_set_init (check_set_init_1 hT (JF (Bn hkf hh ht hv hb) (fun fin s' ⟨v,e,d⟩=>by subst e;exact d) fun _ _ z=>z))) fun r₂ s₂ hr₂=>?_
   cases r₂ with
   |error e=>exact hr₂
   |ok fl₂=>
    cases fl₂ with
    |ret r=>
     obtain⟨rfl,h',tk,rfl,hS',hk'⟩:=hr₂
     repeat (any_goals (first|assumption|wp_step))
     exact h _ _ hS' fun b o e=>hk' b o (Ji e) e
    |_=>exact hr₂.elim
  |_=>exact hr.elim
end
theorem bQ{α:Type}:∀(l:List α) (i:Nat) (x:α),l[i]? =some x->(x::l.eraseIdx i).Perm l
 | [],i,x,h=>by simp at h
 |y::l,0,x,h=>by simp at h;subst h;exact List.Perm.refl _
 |y::l,i+1,x,h=>by
  have ih:=bQ l i x (by simpa using h)
  rw[List.eraseIdx_cons_succ]
  exact(List.Perm.swap y x _).trans (ih.cons y)
theorem oH{α:Type}(next:Nat->Nat):∀(f k:Nat) (l:List α) (out:Array α),l.length=f->(pickOrder.go next f k l out).toList.Perm (out.toList++l)
 |0,k,l,out,h=>by
  have e:l=[]:=List.length_eq_zero_iff.mp h
  subst e;unfold pickOrder.go;simp
 |f+1,k,l,out,h=>by
  unfold pickOrder.go;have hm:next k%l.length<l.length:=Nat.mod_lt _ (by lia)
  have hg:=Jk hm;rw[hg]
  dsimp only
  have hp:=bQ l _ _ hg;refine(oH next f (k+1) _ _ (by rw[List.length_eraseIdx,Jc hm];lia)).trans ?_
  rw[Array.toList_push,Ee];exact List.Perm.append_left _ hp
theorem jp{α:Type}(next:Nat->Nat)(xs:Array α):(pickOrder next xs).toList.Perm xs.toList:=by
 have:=oH next xs.size 0 xs.toList #[] (by simp)
 simpa [pickOrder]using this
section
variable{M:Model}{A:Around}{E:FS}
theorem lQ{s:Θ}{src:Source}{n:Nat}{Q:Nat->Θ->Prop}(hn:n≠0)(h:∀i,i<n->Q i {s with drawn:=s.drawn.bump src}):ε M A (choose src n) Q E s:=
 fun _ _ _=>⟨hn,h _ (Nat.mod_lt _ (Nat.pos_of_ne_zero hn))⟩
theorem gr{α:Type}:∀(n:Nat) (xs:List α) {s:Θ} {Q:List α->Θ->Prop},xs.length<=n->(∀ys d,ys.Perm xs->Q ys {s with drawn:=d})->ε M A (drawOrder n xs) Q E s
 |0,xs,s,Q,hl,h=>by
  have e:xs=[]:=List.length_eq_zero_iff.mp (by lia)
  subst e;exact Jd (h [] s.drawn (List.Perm.refl _))
 |n+1,[],s,Q,hl,h=>Jd (h [] s.drawn (List.Perm.refl _))
 |n+1,x::xs,s,Q,hl,h=>by
  show ε M A (do
   let i <- choose .order (x::xs).length
   match(x::xs)[i]? with
   |some y=>return y::(<- drawOrder n ((x::xs).eraseIdx i))
   |none=>unsupported "internal:drawOrder") Q E s
  refine Ja (lQ (by simp) fun i hi=>?_)
  have hg:=Jk hi;rw[hg]
  dsimp only
  refine Ja (gr n _ (by rw[List.length_eraseIdx,Jc hi];simp at hl⊢;lia) fun ys d hp=>Jd (h _ d ?_))
  exact(hp.cons _).trans (bQ _ _ _ hg)
end
abbrev mE(f:Γ)(i:Nat)(a:Δ)(n ep:Nat):Obj:={cls:= .type "set_iterator",data:= .fields #[f,.int i 0,.ref a,.int n 0,.int ep 0]}
def Way(w:Ω)(a T:Δ)(es:Array (Int×Γ))(ep:Nat)(t:SetTable)(vs:List Γ)(i:Nat)(f:Γ)(h:Ψ):Prop:=
 (zt w=true/\(∃z:Nat,f= .int z 0)/\vs=(pickOrder (w.params.setOrder a ep) es).toList.map (·.2))\/
 (zt w=false/\(!t.plain&&decide (es.size>1))=false/\t.led=true/\Rs t.place/\(∃z:Nat,f= .int z 0/\SetTable.below t.place z=i)/\vs=es.toList.map (·.2))\/
 (∃ps:List Nat,f= .ref T/\h.IsTuple T (ps.map fun p:Nat=>Γ.int (p:Int) 0).toArray/\vs.map some=ps.map fun p=>es[p]?.map (·.2))
theorem Way.keep{w:Ω}{a T:Δ}{es:Array (Int×Γ)}{ep:Nat}{t:SetTable}{vs:List Γ}{i:Nat}{f:Γ}{h h':Ψ}(x:Way w a T es ep t vs i f h)
  (e:∀o,h.get? T=some o->h'.get? T=some o):Way w a T es ep t vs i f h':=by
 rcases x with x|x|⟨ps,x1,⟨o,x2,x3⟩,x4⟩
 ·exact .inl x
 ·exact .inr (.inl x)
 ·exact .inr (.inr ⟨ps,x1,⟨o,e _ x2,x3⟩,x4⟩)
theorem pX(a:Δ)(sl gv ep:Nat):setNext a sl gv ep=(do
 let(es,ec,t) <- setState a
 if <- setsByText then
  if ec != ep then unsupported "set_iterator.__next__:elements-changed"
  return ((<- setWalk a)[gv]?).map fun e=>(e.2,sl)
 if !t.plain&&es.size>1 then unsupported "set_iterator.__next__:the-table-is-plain-no-more"
 (do if !t.led&& !es.isEmpty then unsupported "set:maker-not-led":Sem Unit)
 let i:=SetTable.below t.place sl
 return match es[i]?,t.place[i]? with
  |some (_,x),some j=>some (x,j+1)
  |_,_=>none):=rfl
section
variable{prog:Ξ}{w:Ω}{A:Around}{E:FS}{s:Θ}
theorem QF{Q:Bool->Θ->Prop}(h:Q (zt w) s):ε (model prog w) A setsByText Q E s:=
 Ja (wpAny_askSetting (Jd h))
variable{a T:Δ}{o:Obj}{es:Array (Int×Γ)}{ep:Nat}{t:SetTable}{vs:List Γ}{i:Nat}
theorem oK{Q:Option (Γ×Nat)->Θ->Prop}(ho:s.heap.get? a=some o)(hd:o.data= .set es ep t)(hf:t.fits es.size=true){z:Nat}(W:Way w a T es ep t vs i (.int z 0) s.heap)
  (h:∀r,r.map (·.1)=vs[i]? ->(∀z':Nat,r.map (·.2)=some z'->Way w a T es ep t vs (i+1) (.int z' 0) s.heap)->Q r s):ε (model prog w) A (setNext a z i ep) Q E s:=by
 rw[pX];refine Ja (wpAny_setState_of ho hd hf ?_)
 dsimp only
 refine Ja (QF ?_)
 rcases W with⟨w1,⟨z1,w2⟩,w3⟩|⟨w1,w2,w3,w4,⟨z1,w5,w6⟩,w7⟩|⟨ps,w1,_⟩
 ·rw[w1,Jc rfl]
  simp only[bne_self_eq_false,Bool.false_eq_true,JD];refine Ja ?_
  unfold setWalk;refine Ja (wpAny_setState_of ho hd hf ?_)
  dsimp only
  refine Ja (QF ?_)
  rw[w1,Jc rfl];refine Ja (wpAny_askSetting (Jd (Jd (h _ ?_ fun z' _=> .inl ⟨w1,⟨z',rfl⟩,w3⟩))))
  rw[w3,Jq,Option.map_map,Array.getElem?_toList];rfl
 ·rw[w1,Jb (by decide),w2]
  simp only[Bool.false_eq_true,JD,w3,Bool.not_true,DS];refine Ja (Jd ?_)
  have ez:z=z1:=by injection w5 with w5;lia
  subst ez;rw[w6];have hps:t.place.size=es.size:=by
   simp only[SetTable.fits,Jt,J4]at hf;exact hf.1
  refine Jd (h _ ?_ fun z' hz=> .inr (.inl ⟨w1,w2,w3,w4,⟨z',rfl,?_⟩,w7⟩))
  ·rw[w7,Jq,Array.getElem?_toList]
   by_cases hi:i<es.size
   ·rw[getElem?_pos es i hi,getElem?_pos t.place i (by lia)];rfl
   ·rw[Array.getElem?_eq_none (by lia)];rfl
  ·by_cases hi:i<es.size
   ·have hi':i<t.place.size:=by lia
    rw[getElem?_pos es i hi,getElem?_pos t.place i hi']at hz;simp only[Option.map_some,Option.some.injEq]at hz;subst hz;obtain⟨b1,b2,b3⟩:=cx w4 (t.place[i]+1)
    generalize SetTable.below t.place (t.place[i]+1)=p at *
    have c1:¬p<=i:=fun c=>by have:=b3 i hi' c;lia
    have c2:¬i+2<=p:=fun c=>by
     have hj:i+1<t.place.size:=by lia
     have d1:=b2 (i+1) hj (by lia)
     have d2:=w4.at hi' hj (by lia)
     lia
    lia
   ·rw[Array.getElem?_eq_none (by lia)]at hz;simp at hz
 ·cases w1
end
theorem slot_si_next:Slot "set_iterator" "__next__" "set_iterator.__next__":=
 .of (owner:="set_iterator") (n:="__next__") (by rw[EX,EY];kernel_rfl) (by decide +kernel) (by decide +kernel) (by decide +kernel)
  (by first|exact .inl (by decide +kernel)|exact .inr (by decide +kernel)) (by rw[EE];kernel_rfl)
theorem cB:entryFor table "set_iterator.__next__"=some γ.«set_iterator.__next__»:=entryFor_of_tree (by kernel_rfl)
theorem c5(a:Γ):argsOk "set_iterator.__next__" ⟨[a],[]⟩:=by unfold argsOk;kernel_rfl
theorem cS:Slot "set_iterator" "__iter__" "set_iterator.__iter__":=
 .of (owner:="set_iterator") (n:="__iter__") (by rw[EX,EY];kernel_rfl) (by decide +kernel) (by decide +kernel) (by decide +kernel)
  (by first|exact .inl (by decide +kernel)|exact .inr (by decide +kernel)) (by rw[EE];kernel_rfl)
theorem j7:entryFor table "set_iterator.__iter__"=some γ.«dict_keyiterator.__iter__»:=
 entryFor_alias (id':="dict_keyiterator.__iter__") (by kernel_rfl) rfl (by decide +kernel) (by kernel_rfl)
theorem kT(a:Γ):argsOk "set_iterator.__iter__" ⟨[a],[]⟩:=by unfold argsOk;kernel_rfl
theorem iu:entryFor table "set.__iter__"=some γ.«frozenset.__iter__»:=
 entryFor_alias (id':="frozenset.__iter__") (by kernel_rfl) rfl (by decide +kernel) (by kernel_rfl)
section
variable{prog:Ξ}{w:Ω}{A:Around}{E:FS}{s:Θ}
variable{a T:Δ}{o:Obj}{es:Array (Int×Γ)}{ep:Nat}{t:SetTable}{vs:List Γ}{i:Nat}{f:Γ}
theorem eU{h:Ψ}{I:Δ}{o:Obj}{xs:Array Γ}(ho:h.get? I=some o)(hd:o.data= .fields xs)(k:Nat)(x:Γ):
  (h.update I (Obj.mapFields (·.setIfInBounds k x))).get? I=some {o with data:= .fields (xs.setIfInBounds k x)}:=by
 rw[Ez _ ho (Fv (EL hd _))];obtain⟨c,d,dt,sl⟩:=o
 dsimp only at hd
 subst hd;rfl
theorem yx{I:Δ}{v:Γ}{Q:Option Γ->Θ->Prop}(hI:s.heap.get? I=some (mE f i a es.size ep))(ho:s.heap.get? a=some o)(hd:o.data= .set es ep t)(hf:t.fits es.size=true)
  (W:Way w a T es ep t vs i f s.heap)(nT:T≠I)(hv:vs[i]? =some v)
  (hQ:∀f' h',Ψ.SameBut I s.heap h'->h'.get? I=some (mE f' (i+1) a es.size ep)->Way w a T es ep t vs (i+1) f' h'->Q (some v) {s with heap:=h'}):
  ε (model prog w) A (pyNext (.ref I)) Q E s:=by
 have hT:s.TypeIs (.ref I) "set_iterator":=⟨_,hI,rfl⟩
 unfold pyNext;refine Ja (EC (wpAny_callSpecial?_slot (name:=Str.ofString "__next__") hT slot_si_next (JZ slot_si_next hT cB ?_ (c5 _))))
 unfold γ.«set_iterator.__next__»
 refine Ja (Jd (Ja (wpAny_fieldsOf hI rfl ?_)))
 dsimp only
 refine Ja ?_
 unfold setEntries;refine Ja (wpAny_setState_of ho hd hf (Jd ?_))
 dsimp only
 simp only[bne_self_eq_false,Bool.false_eq_true,JD];have keep:∀(k:Nat) (x:Γ),∀(h:Ψ),∀o,h.get? T=some o->(h.update I (Obj.mapFields (·.setIfInBounds k x))).get? T=some o:=fun k x h o e=>by
  rw[ES _ _ (Ne.symm nT)];exact e
 have fin:∀(E':FS) (z:Nat),f= .int z 0->ε (model prog w) A.in1 (do
   match <- setNext a z i ep with
   |some (x,next)=>
    setField (.ref I) 0 (rawInt next)
    setField (.ref I) 1 (rawInt ((i:Int)+1))
    ret x
   |none=>setField (.ref I) 2 .none;raiseNew (<- newExc (.type "StopIteration") [])) (fun fin s'=>∃v,fin= .done (.ret v)/\(ε (model prog w) A (pure (some v)) Q E s')) E' s:=by
  intro E' z hz;subst hz;refine Ja (oK ho hd hf W fun r h1 h2=>?_)
  rw[hv]at h1;cases r with
  |none=>cases h1
  |some p=>
   obtain⟨x,j⟩:=p;simp only[Option.map_some,Option.some.injEq]at h1;subst h1
   dsimp only
   refine Ja (D5 hI rfl (by simp) ?_)
   have g1:=eU hI rfl 0 (rawInt (j:Int))
   refine Ja (D5 g1 rfl (by simp) ?_)
   have g2:=eU g1 rfl 1 (rawInt ((i:Int)+1))
   refine Jd ⟨_,rfl,Jd (hQ (.int j 0) _ ((J9 ..).trans (J9 ..)) ?_ ((h2 j rfl).keep fun o e=>keep _ _ _ _ (keep _ _ _ _ e)))⟩
   rw[g2];simp [rawInt]
 rcases id W with⟨_,⟨z,rfl⟩,_⟩|⟨_,_,_,_,⟨z,rfl,_⟩,_⟩|⟨ps,rfl,⟨oT,k1,k2,n,k3⟩,k4⟩
 ·exact fin _ z rfl
 ·exact fin _ z rfl
 ·dsimp only
  refine Ja (Eh k1 k3 ?_)
  dsimp only
  have h1:(vs.map some)[i]? =some (some v):=by rw[Jq,hv];rfl
  rw[k4,Jq]at h1;obtain⟨p,hp,h2⟩:=DZ.mp h1;obtain⟨e,he,h3⟩:=DZ.mp h2;have h4:((ps.map fun p:Nat=>Γ.int (p:Int) 0).toArray)[((i:Nat):Int).toNat]? =some (.int (p:Int) 0):=by
   rw[Ei,List.getElem?_toArray,Jq,hp];rfl
  rw[h4]
  dsimp only
  refine Ja ?_
  unfold setNextDrawn;refine Ja (wpAny_setState_of ho hd hf ?_)
  dsimp only
  rw[Ei,Ei,he];simp only[bne_self_eq_false,Bool.false_eq_true,JD];refine Jd (Ja (D5 hI rfl (by simp) ?_))
  have g1:=eU hI rfl 1 (rawInt ((i:Int)+1))
  refine Jd ⟨_,rfl,Jd ?_⟩
  rw[h3];refine hQ (.ref T) _ (J9 ..) ?_ (.inr (.inr ⟨ps,rfl,⟨oT,keep _ _ _ _ k1,k2,n,k3⟩,k4⟩))
  rw[g1];simp [rawInt]
theorem ud{B:Around}{s:Θ}{Q:Option Γ->Θ->Prop}(hh:B.handled=none)(h:∀h',(∀b o,s.heap.get? b=some o->h'.get? b=some o)->Q none {s with heap:=h'}):
  ε (model prog w) B.in1 (newExc (.type "StopIteration") [] >>= raiseNew) (fun(fin:Fin) s'=>∃v,fin= .done (.ret v)/\ε (model prog w) B (pure (some v)) Q E s')
   (fun e s'=>ε (model prog w) B (do
     let __do_lift <- isInstance e (Γ.type "StopIteration")
     if __do_lift=true then pure none else throw e) Q E s') s:=by
 refine Ja ?_
 simp only[newExc,newTuple];refine Ja (DQ ?_ (by size_fits))
 refine Ja (m:=firstArgMember _ _) (DY (a:=Γ.none) (by first|rfl|(simp only[firstArgMember];rfl)) ?_)
 refine DQ ?_ (by size_fits)
 simp only[raiseNew];refine Ja (wpAny_handled ?_)
 rw[show B.in1.handled=none from hh]
 refine Ja (Jd (wpAny_throw ?_))
 refine Ja (ED (T:="StopIteration") (b:=true) ⟨_,Jp _ rfl,rfl⟩ Fw ?_)
 exact Jd (h _ fun b o e=>Jh _ (Jh _ e))
theorem BW{I:Δ}{Q:Option Γ->Θ->Prop}(hh:A.handled=none)(hI:s.heap.get? I=some (mE f i a es.size ep))(ho:s.heap.get? a=some o)(hd:o.data= .set es ep t)(hf:t.fits es.size=true)
  (W:Way w a T es ep t vs i f s.heap)(hv:vs[i]? =none)
  (hQ:∀h',(∀b o,b≠I->s.heap.get? b=some o->h'.get? b=some o)->Q none {s with heap:=h'}):
  ε (model prog w) A (pyNext (.ref I)) Q E s:=by
 have hT:s.TypeIs (.ref I) "set_iterator":=⟨_,hI,rfl⟩
 unfold pyNext;refine Ja (EC (wpAny_callSpecial?_slot (name:=Str.ofString "__next__") hT slot_si_next (JZ slot_si_next hT cB ?_ (c5 _))))
 unfold γ.«set_iterator.__next__»
 refine Ja (Jd (Ja (wpAny_fieldsOf hI rfl ?_)))
 dsimp only
 refine Ja ?_
 unfold setEntries;refine Ja (wpAny_setState_of ho hd hf (Jd ?_))
 dsimp only
 simp only[bne_self_eq_false,Bool.false_eq_true,JD];have oth:∀(k:Nat) (x:Γ) (h:Ψ) (b:Δ) (o:Obj),b≠I->h.get? b=some o->(h.update I (Obj.mapFields (·.setIfInBounds k x))).get? b=some o:=fun k x h b o n e=>by
  rw[ES _ _ (Ne.symm n)];exact e
 have fin:∀(z:Nat),f= .int z 0->ε (model prog w) A.in1 (do
   match <- setNext a z i ep with
   |some (x,next)=>
    setField (.ref I) 0 (rawInt next)
    setField (.ref I) 1 (rawInt ((i:Int)+1))
    ret x
   | none=>setField (.ref I) 2 .none;raiseNew (<- newExc (.type "StopIteration") [])) (fun fin s'=>∃v,fin= .done (.ret v)/\(ε (model prog w) A (pure (some v)) Q E s')) (fun e s'=>ε (model prog w) A (do
     let __do_lift <- isInstance e (Γ.type "StopIteration")
     if __do_lift=true then pure none else throw e) Q E s') s:=by
  intro z hz;subst hz;refine Ja (oK ho hd hf W fun r h1 h2=>?_)
  rw[hv]at h1;cases r with
  |some p=>cases h1
  |none=>
   dsimp only
   refine Ja (D5 hI rfl (by simp) ?_)
   exact ud hh fun h' hk=>hQ h' fun b o n e=>hk b o (oth _ _ _ _ _ n e)
 rcases id W with⟨_,⟨z,rfl⟩,_⟩|⟨_,_,_,_,⟨z,rfl,_⟩,_⟩|⟨ps,rfl,⟨oT,k1,k2,n,k3⟩,k4⟩
 ·exact fin z rfl
 ·exact fin z rfl
 ·dsimp only
  refine Ja (Eh k1 k3 ?_)
  dsimp only
  have h1:(vs.map some)[i]? =none:=by rw[Jq,hv];rfl
  rw[k4,Jq]at h1;have h4:((ps.map fun p:Nat=>Γ.int (p:Int) 0).toArray)[((i:Nat):Int).toNat]? =none:=by
   rw[Ei,List.getElem?_toArray,Jq];cases hp:ps[i]? with
   |none=>rfl
   |some p=>rw[hp]at h1;cases h1
  rw[h4]
  dsimp only
  refine Ja (D5 hI rfl (by simp) ?_)
  have g1:=eU hI rfl 0 (rawInt 0);refine Ja (D5 g1 rfl (by simp) ?_)
  exact ud hh fun h' hk=>hQ h' fun b o n e=>hk b o (oth _ _ _ _ _ n (oth _ _ _ _ _ n e))
theorem uN{I:Δ}(hh:A.handled=none)(nT:T≠I)(na:a≠I)(hl:vs.length=es.size):Walks prog w A I [I,a,T] [I] es.size (fun i v=>vs[i]? =some v)
  (fun i h=>(∃o,h.get? a=some o/\o.data= .set es ep t/\t.fits es.size=true)/\∃f,h.get? I=some (mE f i a es.size ep)/\Way w a T es ep t vs i f h) where
 sub:=fun b hb=>by simp at hb;simp [hb]
 frame:=fun i h h' ⟨⟨o,x1,x2⟩,f,x3,x4⟩ hk=>⟨⟨o,hk a (by simp) o x1,x2⟩,f,hk I (by simp) _ x3,x4.keep fun o e=>hk T (by simp) o e⟩
 item:=fun i s Q E hi ⟨⟨o,x1,x2,x2'⟩,f,x3,x4⟩ hQ=>by
  have hv:vs[i]? =some vs[i]:=Jk (by omega)
  refine yx x3 x1 x2 x2' x4 nT hv fun f' h' hs h1 h2=>hQ _ h' s.toks hv ⟨⟨o,by rw[hs.2 a na];exact x1,x2,x2'⟩,f',h1,h2⟩ fun b o hb e=>?_
  rw[hs.2 b (fun h=>hb (by simp [h]))];exact e
 done:=fun s Q E ⟨⟨o,x1,x2,x2'⟩,f,x3,x4⟩ hQ=>BW hh x3 x1 x2 x2' x4 (FH (by omega)) fun h' hk=>hQ h' s.toks fun b o hb e=>hk b o (fun h=>hb (by simp [h])) e
 self:=fun i s Q E ⟨_,f,x3,_⟩ hQ=>by
  have hT:s.TypeIs (.ref I) "set_iterator":=⟨_,x3,rfl⟩
  refine wpAny_pyIter_slot hT cS (JZ cS hT j7 ?_ (kT _))
  show ε _ _ (ret (.ref I)) _ _ s
  exact Jd ⟨_,rfl,"set_iterator",_,hT,slot_si_next.lookup,hQ⟩
end
section
variable{prog:Ξ}{w:Ω}{A:Around}{E:FS}{s:Θ}
variable{a:Δ}{o:Obj}{es:Array (Int×Γ)}{ep:Nat}{t:SetTable}
theorem pG{xs:Array Nat}(h:Rs xs):SetTable.below xs 0=0:=by
 obtain⟨h1,h2,h3⟩:=cx h 0;generalize SetTable.below xs 0=p at *
 cases p with
 |zero=>rfl
 |succ p=>exact absurd (h2 0 (by lia) (by lia)) (Nat.not_lt_zero _)
theorem Rs.few{xs:Array Nat}(h:xs.size<=1):Rs xs:=by
 unfold Rs;rw[List.pairwise_iff_getElem];intro i j hi hj hij;simp at hi hj
 lia
theorem ph{ps:List Nat}(hp:ps.Perm (List.range es.size)):∃vs:List Γ,vs.map some=(ps.map fun p=>es[p]?.map (·.2))/\vs.Perm (es.toList.map (·.2)):=by
 refine⟨ps.map fun p=>(es[p]?.map (·.2)).getD .none,?_,?_⟩
 ·rw[Eb]
  refine Fh fun p h=>?_
  have hlt:p<es.size:=J6.mp (hp.mem_iff.mp h)
  show some ((es[p]?.map (·.2)).getD .none)=_
  rw[getElem?_pos es p hlt];rfl
 ·refine(hp.map _).trans (List.Perm.of_eq ?_)
  apply List.ext_getElem
  ·simp
  ·intro i h1 h2
   simp at h1
   simp [h1]
theorem Bk{Q:FS}(ho:s.heap.get? a=some o)(hex:o.ExactSet)(hd:o.data= .set es ep t)(hf:t.fits es.size=true)(hb:es.size<scanBound)(tw:TW w t)
  (hQ:∀(h':Ψ) (d:Drawn) (I T:Δ) (vs:List Γ) (f:Γ),s.heap.objs.size<=I->T≠I->a≠I->(T=a\/s.heap.objs.size<=T)->(∀b o,s.heap.get? b=some o->h'.get? b=some o)->vs.Perm (es.toList.map (·.2))->
   h'.get? I=some (mE f 0 a es.size ep)->Way w a T es ep t vs 0 f h'->Q (.ref I) {s with heap:=h',drawn:=d}):
  ε (model prog w) A (pyIter (.ref a)) Q E s:=by
 have hT:s.TypeIs (.ref a) "set":=⟨o,ho,hex.1⟩
 have hlt:a<s.heap.objs.size:=Ji ho
 refine wpAny_pyIter_slot hT PySem.F.slot_set_iter (JZ PySem.F.slot_set_iter hT iu ?_ (PySem.F.args_set_iter_1 _))
 unfold γ.«frozenset.__iter__»
 refine Ja ?_
 show ε _ _ (pure a) _ _ _
 refine Jd (Ja ?_)
 unfold γ.Frozenset.sizeOf setEntries;refine Ja (Ja (wpAny_setState_of ho hd hf (Jd (Jd ?_))))
 refine Ja ?_
 unfold setDrawn;refine Ja (wpAny_setState_of ho hd hf ?_)
 dsimp only
 refine Ja (QF (Jd ?_))
 show ε _ _ (if(!zt w&&(!t.plain&&decide (es.size>1)))=true then _ else _) _ _ _
 by_cases hdr:(!zt w&&(!t.plain&&decide (es.size>1)))=true
 ·rw[Jc hdr]
  refine Ja (gr _ _ (by simp) fun ps d hp=>?_)
  obtain⟨vs,v1,v2⟩:=ph hp;refine Ja (wpAny_newTuple (items:=ps.map fun i:Nat=>rawInt (i:Int)) ?_ (by rw[Je,hp.length_eq,List.length_range];exact fits_of_scanBound hb))
  have hT1:(s.heap.push {cls:= .type "tuple",data:= .seq (ps.map fun i:Nat=>rawInt (i:Int)).toArray}).get? s.heap.objs.size=some {cls:= .type "tuple",data:= .seq (ps.map fun i:Nat=>rawInt (i:Int)).toArray}:=Jp _ rfl
  have ho1:=Jh {cls:= .type "tuple",data:= .seq (ps.map fun i:Nat=>rawInt (i:Int)).toArray} ho
  unfold setEpoch;refine Ja (Ja (wpAny_setState_of (s:={s with heap:=s.heap.push {cls:= .type "tuple",data:= .seq (ps.map fun i:Nat=>rawInt (i:Int)).toArray},drawn:=d}) ho1 hd hf (Jd ?_)))
  unfold newFields;refine Ja (DQ (Jd ⟨_,rfl,"set_iterator",_,⟨_,Jp _ rfl,rfl⟩,slot_si_next.lookup,?_⟩))
  refine hQ _ d _ s.heap.objs.size vs (.ref s.heap.objs.size) (by rw[JV];exact Ey _) (by rw[JV];exact Jo (D3 _)) (by rw[JV];exact Jo (D9 hlt)) (.inr (Jf _))
   (fun b o e=>Jh _ (Jh _ e)) v2 (Jp _ rfl) (.inr (.inr ⟨ps,rfl,?_,v1⟩))
  exact⟨_,Jh _ hT1,rfl,0,rfl⟩
 ·rw[Jb hdr]
  refine Ja (Jd ?_)
  unfold setEpoch;refine Ja (Ja (wpAny_setState_of ho hd hf (Jd ?_)))
  unfold newFields;refine Ja (DQ (Jd ⟨_,rfl,"set_iterator",_,⟨_,Jp _ rfl,rfl⟩,slot_si_next.lookup,?_⟩))
  have go:∀vs:List Γ,vs.Perm (es.toList.map (·.2))->Way w a a es ep t vs 0 (.int (0:Nat) 0) (s.heap.push (mE (.int (0:Nat) 0) 0 a es.size ep))->Q (.ref s.heap.objs.size) {s with heap:=s.heap.push (mE (.int (0:Nat) 0) 0 a es.size ep)}:=fun vs b1 b2=>
   hQ _ s.drawn _ a vs (.int (0:Nat) 0) (Jf _) (Jo hlt) (Jo hlt) (.inl rfl) (fun b o e=>Jh _ e) b1 (Jp _ rfl) b2
  cases hbt:zt w with
  |true=>exact go _ ((jp _ es).map _) (.inl ⟨hbt,⟨0,rfl⟩,rfl⟩)
  |false=>
   rw[hbt]at hdr;have hdr':(!t.plain&&decide (es.size>1))=false:=by simpa using hdr
   rcases tw with z|⟨z1,z2⟩
   ·rw[hbt]at z;cases z
   ·have hRs:Rs t.place:=by
     cases hp:t.plain with
     |true=>exact z2 hp
     |false=>
      rw[hp]at hdr';refine Rs.few ?_
      simp only[SetTable.fits,Jt,J4]at hf;simp at hdr'
      lia
    exact go _ (List.Perm.refl _) (.inr (.inl ⟨hbt,hdr',z1,hRs,⟨0,rfl,pG hRs⟩,rfl⟩))
theorem wg{Q:Bool->Θ->Prop}(hT:s.TypeIs (.ref a) "set")(h:Q false s):ε (model prog w) A (γ.List.listLengthHint (.ref a)) Q E s:=by
 unfold γ.List.listLengthHint;refine Ja (EM hT PySem.F.slot_set_len.lookup ?_)
 generalize hid:("set.__len__":String)=id0
 wp_delta
 rw[show splitId id0=some ("set","__len__")from by subst hid;decide +kernel]
 subst hid;refine Ja (ED (T:="set") (b:=true) hT (by rw[EE];kernel_rfl) ?_)
 refine wpAny_ite_split (fun hab=>absurd hab (by decide)) (fun _=>?_)
 refine wpAny_ite_split (fun _=>?_) (fun hab=>absurd (by decide +kernel) hab)
 exact Ja (ER hT (Jd h))
theorem jl{Q:List Γ->Θ->Prop}(hh:A.handled=none)(ho:s.heap.get? a=some o)(hex:o.ExactSet)(hd:o.data= .set es ep t)(hf:t.fits es.size=true)(hb:es.size<scanBound)(tw:TW w t)
  (h:∀(vs:List Γ) (h':Ψ) (tk:Nat) (d:Drawn),(∀b o,s.heap.get? b=some o->h'.get? b=some o)->s.heap.objs.size<=h'.objs.size->vs.Perm (es.toList.map (·.2))->Q vs {s with heap:=h',toks:=tk,drawn:=d}):
  ε (model prog w) A (collect (.ref a)) Q E s:=by
 unfold collect;refine Ja (wpAny_runValue (Ek entry_proto_collect' ?_))
 show ε _ _ (do again (.builtin "list.__iadd__" ⟨[<- newList [],.ref a],[]⟩)) _ _ s
 refine Ja (wpAny_newList (Jd ⟨Code.quiet_builtin _ (by decide +kernel),Ek entry_list_iadd' ?_⟩))
 rw[Around.under_plainId PySem.F.plain_list_iadd _];have hlt:a<s.heap.objs.size:=Ji ho
 have hLs:(s.heap.push (seqObj "list" #[] 0)).get? s.heap.objs.size=some (seqObj "list" #[] 0):=Jp _ rfl
 have ho1:=Jh (seqObj "list" #[] 0) ho
 show ε _ _ (γ.List.listExtendWith (.ref s.heap.objs.size) (.ref a) (.ref s.heap.objs.size)) _ _ {s with heap:=s.heap.push (seqObj "list" #[] 0)}
 unfold γ.List.listExtendWith;have hT1:Θ.TypeIs {s with heap:=s.heap.push (seqObj "list" #[] 0)} (.ref a) "set":=⟨o,ho1,hex.1⟩
 refine Ja (ER hT1 ?_)
 have e1:γ.List.listSameRef (.ref s.heap.objs.size) (.ref a)=false:=by
  simp [γ.List.listSameRef,J3 hlt]
 have e2:(Γ.type "set"==Γ.type "list")=false:=by decide
 have e3:(Γ.type "set"==Γ.type "tuple")=false:=by decide
 simp only[e1,e2,e3,Bool.or_false,Bool.false_eq_true,JD];refine Ja (Bk ho1 hex hd hf hb tw fun h1 d I T vs f b1 b2 b3 b4 b5 b6 b7 b8=>?_)
 have sz:(s.heap.push (seqObj "list" #[] 0)).objs.size=s.heap.objs.size+1:=JV ..
 dsimp only at b1 b4
 rw[sz]at b1 b4;have hT2:Θ.TypeIs {s with heap:=h1,drawn:=d} (.ref a) "set":=⟨o,b5 _ _ ho1,hex.1⟩
 refine Ja (JM (wg hT2 ?_))
 have hL1:=b5 _ _ hLs;have hvl:vs.length=es.size:=by rw[b6.length_eq,Je,Jn]
 have W:=uN (prog:=prog) (w:=w) (A:=A.in1) (ep:=ep) (t:=t) (by simp [hh]) b2 b3 hvl
 have nL:s.heap.objs.size∉[I,a,T]:=by
  simp only[Jl,Jx,JA,not_or];refine⟨by lia,J3 hlt,?_⟩
  rcases b4 with z|z
  ·rw[z];exact J3 hlt
  ·lia
 have key:∀(h:Ψ) (c₁:Nat),(∀b o,b≠s.heap.objs.size->h1.get? b=some o->h.get? b=some o)->h.get? s.heap.objs.size=some {cls:= .type "list",data:= .seq #[] c₁}->
   ∀R:Result->Θ->Prop,(∀(vs':Array Γ) (h':Ψ) (tk c':Nat),vs'.toList=vs->(∀b o,s.heap.get? b=some o->h'.get? b=some o)->h'.get? s.heap.objs.size=some {cls:= .type "list",dict:=none,data:= .seq vs' c',slots:= #[]}->
    R (.ok (.ret (.ref s.heap.objs.size))) {s with heap:=h',toks:=tk,drawn:=d})->
   codeAny (model prog w) A (.builtin "list.extend.loop" ⟨[.ref s.heap.objs.size,.ref I,.ref s.heap.objs.size],[]⟩) R {s with heap:=h,drawn:=d}:=by
  intro h c₁ hk hS₁ R hR;have nI:I≠s.heap.objs.size:=J3 b1
  refine codeAny_extend_loopS W.toS (fits_of_scanBound hb) s.heap.objs.size nL _ es.size 0 _ #[] c₁ (by lia) (Jz _) ⟨⟨o,hk _ _ (Jo hlt) (b5 _ _ ho1),hd,hf⟩,f,hk _ _ nI b7,b8.keep fun o e=>hk _ _ ?_ e⟩ hS₁ (ItemsOf.nil _) fun s' acc' c' hm hS' hacc=>?_
  ·rcases b4 with z|z
   ·rw[z];exact Jo hlt
   ·lia
  ·rw[Moved.eq_with hm]
   refine hR acc' s'.heap s'.toks c' ?_ (fun b o e=>hm.heap b o (fun hmem=>?_) (hk b o (Jo (Ji e)) (b5 _ _ (Jh _ e)))) hS'
   ·apply List.ext_getElem?
    intro j;rw[Array.getElem?_toList]
    by_cases hj:j<es.size
    ·have hj':j<acc'.size:=by rw[hacc.1];exact hj
     have:=hacc.2 j acc'[j] (getElem?_pos acc' j hj')
     rw[getElem?_pos acc' j hj',this]
    ·rw[Array.getElem?_eq_none (by rw[hacc.1];lia),FH (by lia)]
   ·have hb':=Ji e
    rcases Jl.mp hmem with z|z
    ·exact absurd z (Jo hb')
    ·exact absurd (Jj.mp z) (Jo (Nat.lt_trans hb' b1))
 have fin:∀(vs':Array Γ) (h':Ψ) (tk c':Nat),vs'.toList=vs->(∀b o,s.heap.get? b=some o->h'.get? b=some o)->h'.get? s.heap.objs.size=some {cls:= .type "list",dict:=none,data:= .seq vs' c',slots:= #[]}->
   ε (model prog w) A (do
    let o <- load s.heap.objs.size
    match o.data with
    | .seq xs _=>pure xs.toList
    |_=>unsupported "internal:collect") Q E {s with heap:=h',toks:=tk,drawn:=d}:=by
  intro vs' h' tk c' c1 c2 c3;refine Ja (wpAny_load c3 (Jd (h _ h' tk d c2 (E8 (Ji c3)) ?_)))
  rw[c1];exact b6
 refine wpAny_ite_split (fun _=>?_) (fun _=>Jd ⟨plainId_quiet PySem.F.plain_extend_loop _,key h1 0 (fun _ _ _ e=>e) hL1 _ fin⟩)
 refine Ja (DR (Ja ?_))
 show ε _ _ (updateSeq s.heap.objs.size (·.push .none) >>= fun _=>updateSeq s.heap.objs.size (·.pop)) _ _ _
 refine Ja (wpAny_updateSeq hL1 rfl ?_)
 have hL2:=Ez (Obj.mapSeq (·.push Γ.none)) hL1 rfl
 refine wpAny_updateSeq (hz:=by seq_fits) hL2 rfl ?_
 have hL3:=Ez (Obj.mapSeq (·.pop)) hL2 rfl
 refine Jd ⟨plainId_quiet PySem.F.plain_extend_loop _,key _ _ (fun b o hb e=>?_) hL3 _ fin⟩
 exact(ES _ _ (Ne.symm hb)).trans ((ES _ _ (Ne.symm hb)).trans e)
end
end S0
namespace L3
open PySem PySem.Spec PyProof.Rows L2 S0
def ar(prog:Ξ)(w:Ω)(a:Δ)(ks:List Int):HO:= .ext fun h=>SetK (PySem.intKind prog w) numOf h a ks
theorem sH(prog:Ξ)(w:Ω):∀k v,(PySem.intKind prog w).is k v=true->numOf v=k:=fun k v h=>by
 obtain⟨t,rfl⟩:=Γ.isInt_shape h;rfl
theorem _root_.L2.FY.drw{X:Cx}{tx:FU}{σ:List (Option V)}{H:Hp}{s:Θ}(I:FY X tx σ H s)(d:Drawn):FY X tx σ H {s with drawn:=d}:=
 ⟨I.ok,I.os,I.bare,I.base,I.loc,I.cell,I.free,I.freeC,I.pin,I.hok,I.len⟩
section
variable{X:Cx}
theorem gI(hc:X.calm=true):ze X (.type "set") (fun xs H Q=>∃(p:Δ) (ns:List Int),xs=[.ref p]/\F6 X.K H p (ns.map V.int)/\ns.length+1<scanBound/\∀l,H l=none->Q (.ref l) (F2 H l (ar X.prog X.w l (ddL ns)))):=by
 intro tx s σ H xs us Q I r h;obtain⟨p,ns,rfl,hp,hb,q⟩:=h;obtain⟨u,rfl,ru⟩:=zN r;cases ru;obtain⟨its,rv,pt,_⟩:=I.list hp;have hl:=rv.length;rw[Je]at hl;have hI:IntsAre its ns:=bM rv
 refine sT (knd:=PySem.intKind X.prog X.w) (kf:=numOf) (val:=fun i=>ns.getD i default) (sH _ _) (I.ok.hd hc) pt.isList (fun i v hv=>?_) (by rw[Js];omega) fun h' tk hS kp=>?_
 ·obtain⟨t,rfl⟩:=IntsAre.int_at hI i v (by rw[List.getElem?_toArray]at hv;exact hv)
  exact⟨intKind_is _ _ _ _,rfl⟩
 ·have e:its.toArray.size=ns.length:=by rw[Js];exact hl.symm
  rw[e,sQ]at hS;refine⟨.ref s.heap.objs.size,_,I.laid (t':=tk) (o:=ar X.prog X.w s.heap.objs.size (ddL ns)) kp (Jf _) ⟨hS,?_,fun h1 h2 z1 z2=>z1.at z2⟩,rfl,q _ (I.hok.fresh (Jf _))⟩
  obtain⟨o,_,_,_,e,_⟩:=hS
  exact⟨o,e⟩
end
end L3
namespace S0
open PySem PySem.Spec PyProof.Rows
theorem rQ(a:Δ):setWalk a=(do
 let(es,epoch,t) <- setState a
 if <- setsByText then return pickOrder ((<- ask).params.setOrder a epoch) es
 if !t.plain&&es.size>1 then return (<- drawOrder es.size es.toList).toArray
 (do if !t.led&&es.size>1 then unsupported "set:maker-not-led":Sem Unit)
 return es):=rfl
section
variable{prog:Ξ}{w:Ω}{K:Type} [DecidableEq K]{knd:PySem.KeyKind prog w K}{kf:Γ->K}
variable{A:Around}{E:FS}{s:Θ}
theorem Ah{Q:Bool->Θ->Prop}{bs:List Δ}(hS:∀b∈bs,∃ks,SetK knd kf s.heap b ks)(h:Q true s):ε (model prog w) A (setsQuiet bs) Q E s:=by
 unfold setsQuiet;refine Ja (wpAny_forIn_list _ (fun rest b s'=>b.1=none/\s'=s/\∀x∈rest,∃ks,SetK knd kf s.heap x ks) _ ?_ ?_ bs _ ⟨rfl,rfl,hS⟩)
 ·rintro x rest b s' ⟨hb,rfl,hr⟩
  obtain⟨ks,o,es,ep,t,ho,hex,hd,hf,_,hel,_,_⟩:=hr x Jy;unfold setEntries;refine Ja (Ja (wpAny_setState_of ho hd hf (Jd ?_)))
  refine Ja (PySem.MeetsSeq2.wpAny_forIn_array _ (fun rest2 b2 s2=>b2.1=none/\s2=s'/\∀e∈rest2,e.2.scannable=true) _ ?_ ?_ es _ ⟨rfl,rfl,fun e he=>(hel e he).2⟩)
  ·rintro⟨h1,y⟩ r2 b2 s2 ⟨hb2,rfl,hr2⟩
   have hy:=hr2 _ Jy;have hrest:∀e∈r2,e.2.scannable=true:=fun e he=>hr2 e (JE _ he)
   cases y<;>first|(cases hy;done)|exact Jd ⟨rfl,rfl,hrest⟩
  ·rintro⟨b21,b22⟩ s2 ⟨hb2,rfl,_⟩
   simp only at hb2
   subst hb2;exact Jd ⟨rfl,rfl,fun y hy=>hr y (JE _ hy)⟩
 ·rintro⟨b1,b2⟩ s' ⟨hb,rfl,_⟩
  simp only at hb
  subst hb;exact Jd h
theorem ZA{a:Δ}{Q:Bool->Θ->Prop}(hT:s.TypeIs (.ref a) "set")(h:Q true s):ε (model prog w) A (γ.Frozenset.isAnySet (.ref a)) Q E s:=by
 unfold γ.Frozenset.isAnySet;refine Ja (ED hT sub_set_self ?_)
 exact Jd h
theorem SetK.type{h:Ψ}{a:Δ}{ks:List K}{s:Θ}(x:SetK knd kf s.heap a ks):s.TypeIs (.ref a) "set":=by
 obtain⟨o,es,ep,t,h1,h2,_⟩:=x
 exact⟨o,h1,h2.1⟩
theorem k5{K:Type} [DecidableEq K]:∀(l acc:List K),acc.Nodup->(l.foldl QY acc).Nodup
 | [],acc,h=>h
 |k::l,acc,h=>by
  refine k5 l _ ?_
  unfold QY;split
  ·exact h
  ·rw[E3]
   exact⟨h,by simp,fun x hx y hy=>by rw[Jj.mp hy];rintro rfl;contradiction⟩
theorem tT{K:Type} [DecidableEq K]:∀(l acc:List K) (k:K),k∈l.foldl QY acc↔k∈acc\/k∈l
 | [],acc,k=>by simp
 |x::l,acc,k=>by
  rw[List.foldl_cons,tT l _ k];unfold QY;split
  ·rename_i hx
   constructor
   ·rintro(h|h)
    ·exact .inl h
    ·exact .inr (JE _ h)
   ·rintro(h|h)
    ·exact .inl h
    ·rcases Jl.mp h with rfl|h
     ·exact .inl hx
     ·exact .inr h
  ·rw[JC,Jj,Jl]
   constructor
   ·rintro((h|h)|h)
    ·exact .inl h
    ·exact .inr (.inl h)
    ·exact .inr (.inr h)
   ·rintro(h|h|h)
    ·exact .inl (.inl h)
    ·exact .inl (.inr h)
    ·exact .inr h
theorem uA{K:Type} [DecidableEq K]:∀(l acc:List K),(l.foldl QY acc).length<=acc.length+l.length
 | [],acc=>by simp
 |x::l,acc=>by
  have:=uA l (QY acc x)
  rw[List.foldl_cons,JQ];have h2:(QY acc x).length<=acc.length+1:=by
   unfold QY;split
   ·lia
   ·rw[Jw,Ef];lia
  lia
theorem ki{Q:FS}(h:Q (.ref s.heap.objs.size) {s with heap:=s.heap.push (Qf (!zt w))}):ε (model prog w) A (newSet (.type "set")) Q E s:=by
 unfold newSet;obtain⟨hp,g,d,tk,os⟩:=s
 wp_walk
 refine wpAny_askSetting (Jd ?_)
 dsimp only
 simp only[newObj];exact Ja (wpAny_alloc (Jd h))
end
end S0
namespace L3
open PySem PySem.Spec PyProof.Rows L2 S0
def bZ:Γ->Str
 | .str x _=>x
 |_=>Str.empty
def aL(prog:Ξ)(w:Ω)(a:Δ)(ks:List Str):HO:= .ext fun h=>SetK (PySem.strKind prog w) bZ h a ks
theorem sk(prog:Ξ)(w:Ω):∀k v,(PySem.strKind prog w).is k v=true->bZ v=k:=fun k v h=>by
 obtain⟨t,rfl⟩:=Γ.isStrOf_shape h;rfl
section
variable{prog:Ξ}{w:Ω}{A:Around}{E:FS}{s:Θ}
theorem tF{a:Δ}{ks:List Str}{Q:FS}(hh:A.handled=none)(hS:SetK (PySem.strKind prog w) bZ s.heap a ks)(h64:ks.length<64)
  (h:∀(h':Ψ) (tk:Nat) (d:Drawn) (l:Δ) (its:List Γ) (n:Nat) (ss:List Str),s.heap.objs.size<=l->(∀b o,s.heap.get? b=some o->h'.get? b=some o)->h'.get? l=some (seqObj "list" its.toArray n)->
   StrsAre its ss->ss.Perm ks->sortedS ss=true->Q (.ref l) {s with heap:=h',toks:=tk,drawn:=d}):
  ε (model prog w) A (call (.builtin "sorted") [.ref a]) Q E s:=by
 obtain⟨o,es,ep,t,ho,hex,hd,hf,hb,hel,hpm,htw⟩:=hS;refine Calls.call_function_entry kind_sorted plain_sorted entry_sorted (args_sorted1 _) ?_
 unfold γ.«sorted»
 refine Ja (m:=checkCount "sorted" 1 1 _) (Jd ?_)
 refine Ja (jl hh ho hex hd hf hb htw fun vs h' tk d hk hz hp=>?_)
 have hI:StrsAre vs (vs.map bZ):=by
  refine iM (by rw[Je]) fun j v e=>?_
  obtain⟨e1,he,rfl⟩:=Ju.mp (hp.mem_iff.mp (DU e))
  obtain⟨⟨k,h1,_⟩,_⟩:=hel e1 he;obtain⟨tt,h2⟩:=Γ.isStrOf_shape h1;refine⟨k,tt,by rw[Jq,e,h2];rfl,h2⟩
 have hvk:(vs.map bZ).Perm ks:=by
  refine(hp.map bZ).trans ?_
  rw[Eb];exact hpm
 have hvl:vs.length<=ζ:=by
  rw[hp.length_eq,Je,Jn];exact fits_of_scanBound hb
 have hl64:vs.length<64:=by
  have:=hvk.length_eq
  rw[Je]at this;lia
 refine Ja (wpAny_newList ?_ hvl)
 have hoL:(h'.push (seqObj "list" vs.toArray 0)).get? h'.objs.size=some (seqObj "list" vs.toArray 0):=Jp _ rfl
 show ε _ _ _ _ _ {s with heap:=h'.push (seqObj "list" vs.toArray 0),toks:=tk,drawn:=d}
 refine Ja (JM (JZ slot_list_sort ⟨_,hoL,rfl⟩ entry_list_sort (list_sort_treeK (κ:=PyProof.Rows.strKind) strKind_oneLt hoL hI.keysOf (fun v₁ v₂ rest e=>keyKind_strs (by rw[<- e];exact hI)) hl64 fun st' a1 a2=>⟨_,rfl,?_⟩) (args_list_sort _)))
 obtain⟨ss',b1,b2,b3⟩:=sorted_out_str hI a1 a2;obtain⟨n',hn'⟩:∃n',(sortedHeap (h'.push (seqObj "list" vs.toArray 0)) h'.objs.size vs ((arrOf st').map (·.2))).get? h'.objs.size=some (seqObj "list" ((arrOf st').map (·.2)) n'):=sortedHeap_at hoL
 refine Jd ⟨_,rfl,h _ tk d h'.objs.size ((arrOf st').map (·.2)).toList n' ss' hz (fun b o e=>?_) (by rw[hn']) b1 (b2.trans hvk) b3⟩
 have e':=hk b o e;have hb':b<h'.objs.size:=Ji e'
 rw[sortedHeap_old (Jo hb') (by rw[JV];exact D9 hb')]
 exact Jh _ e'
end
theorem kR:∀{us:List Γ} {ss:List Str},StrsAre us ss->∀(i:Nat) (v:Γ),us[i]? =some v->∃t,v= .str (ss.getD i default) t
 |_,_,.nil,i,v,e=>by simp at e
 |_,_,.cons x t r,0,v,e=>by
  simp at e;subst e;exact⟨t,rfl⟩
 |_,_,.cons x t r,i+1,v,e=>by
  have e':=kR r i v (by simpa using e)
  simpa [JI]using e'
section
variable{X:Cx}
theorem gB(hc:X.calm=true):ze X (.type "set") (fun xs H Q=>∃(p:Δ) (ss:List Str),xs=[.ref p]/\F6 X.K H p (ss.map V.str)/\ss.length+1<scanBound/\∀l,H l=none->Q (.ref l) (F2 H l (aL X.prog X.w l (ddL ss)))):=by
 intro tx s σ H xs us Q I r h;obtain⟨p,ss,rfl,hp,hb,q⟩:=h;obtain⟨u,rfl,ru⟩:=zN r;cases ru;obtain⟨its,rv,pt,_⟩:=I.list hp;have hl:=rv.length;rw[Je]at hl;refine sT (knd:=PySem.strKind X.prog X.w) (kf:=bZ) (val:=fun i=>ss.getD i default) (sk _ _) (I.ok.hd hc) pt.isList (fun i v hv=>?_) (by rw[Js];lia) fun h' tk hS kp=>?_
 ·have hv':its[i]? =some v:=by rw[List.getElem?_toArray]at hv;exact hv
  have hi:i<ss.length:=by rw[hl];exact(JH.mp hv').1
  obtain⟨t,rfl⟩:=kR (oW rv) i v hv'
  exact⟨strKind_is _ _ _ _,rfl⟩
 ·have e:its.toArray.size=ss.length:=by rw[Js];exact hl.symm
  rw[e,sQ]at hS;refine⟨.ref s.heap.objs.size,_,I.laid (t':=tk) (o:=aL X.prog X.w s.heap.objs.size (ddL ss)) kp (Jf _) ⟨hS,?_,fun h1 h2 z1 z2=>z1.at z2⟩,rfl,q _ (I.hok.fresh (Jf _))⟩
  obtain⟨o,_,_,_,e,_⟩:=hS
  exact⟨o,e⟩
theorem j5(hc:X.calm=true):ze X (.builtin "sorted") (fun xs H Q=>∃(p:Δ) (ks:List Str),xs=[.ref p]/\H p=some (aL X.prog X.w p ks)/\ks.length<64/\
  ∀l (ss:List Str),H l=none->ss.Perm ks->sortedS ss=true->Q (.ref l) (F2 H l (.lst (ss.map V.str)))):=by
 intro tx s σ H xs us Q I r h;obtain⟨p,ks,rfl,hp,h64,q⟩:=h;obtain⟨u,rfl,ru⟩:=zN r;cases ru;obtain⟨hS,_⟩:=I.hok p _ hp;refine tF (I.ok.hd hc) hS h64 fun h' tk d l its n ss hl hk hL b1 b2 b3=>?_
 refine⟨.ref l,_,(I.laid (a:=l) (o:= .lst (ss.map V.str)) (t':=tk) hk hl ?_).drw d,rfl,q l ss (I.hok.fresh hl) b2 b3⟩
 refine⟨?_,its,n,dc b1,hL⟩
 have:=b2.length_eq
 rw[Je,JK];lia
end
theorem aN{K:Type} [DecidableEq K](l:List K):(ddL l).Nodup:=k5 l [] Er
theorem Zi{K:Type} [DecidableEq K](l:List K)(k:K):k∈ddL l↔k∈l:=by unfold ddL;rw[tT];simp
theorem eZ{K:Type} [DecidableEq K](l:List K):(ddL l).length<=l.length:=by have:=uA l ([]:List K);simpa [ddL]using this
end L3
namespace L3
open PySem PySem.Spec PyProof.Rows L2
def Bv(k:Nat)(js:List Nat)(g:TG)(wi2:TI)(g2:TG)(te:TE)(σ:L2.St)(Q:VK)(J:It)(H1:Hp):Prop:=∃W:Nat->Nat->List V->L2.St->Hp->Prop,(∃m,W 0 m [] (σ0 k js σ) H1)/\∀i m ys τ H,W i m ys τ H->
 (J.stop i H/\∀p,H p=none->Q (.ref p) (F2 H p (.lst ys)))\/(J.go i H/\∀x H',J.yld i H x H'->g x τ H' fun τ2 H2=>wi2 τ2 H2 fun J2 H3=>∃W2:Nat->Nat->List V->L2.St->Hp->Prop,(∃m2,W2 0 m2 ys τ2 H3)/\∀i2 m2 zs τ3 H4,W2 i2 m2 zs τ3 H4->
  (J2.stop i2 H4/\∃m',m'<m/\W (i+1) m' zs τ3 H4)\/(J2.go i2 H4/\zs.length<ζ/\∀x2 H5,J2.yld i2 H4 x2 H5->g2 x2 τ3 H5 fun τ4 H6=>∃N:V->Hp->Prop,(∀v H7,N v H7->∃m2',m2'<m2/\W2 (i2+1) m2' (zs++[v]) τ4 H7)/\te τ4 H6 N))
def sR(k:Nat)(js:List Nat)(wi:TI)(g:TG)(wi2:TI)(g2:TG)(te:TE):TE:=fun σ H Q=>wi σ H (Bv k js g wi2 g2 te σ Q)
section
variable{prog:Ξ}{w:Ω}{A:Around}{R:Result->Θ->Prop}{s:Θ}
theorem lN(elt tg iter tg2 iter2:Φ)(scope:Scope)(pos:Pos)(it acc:Γ)(env:Env):
  compTurn (.ListComp elt [⟨tg,iter,[],0⟩,⟨tg2,iter2,[],0⟩] scope pos) 0 it acc env=(standAt iter.pos >>= fun _=>pyNext it >>= fun r=>match r with
   |none=>pure (.done .next)
   |some v=>letOwnedTupleGo tg it v >>= fun _=>assign tg env v >>= fun _=>
    eval iter2 env >>= fun x=>standAt iter2.pos >>= fun _=>foldedSetIterable iter2 env x >>= fun x=>holding [x] (pyIter x) >>= fun i2=>runOwn (.compStart (.ListComp elt [⟨tg,iter,[],0⟩,⟨tg2,iter2,[],0⟩] scope pos) 1 i2 acc env) env >>= fun _=>
     again (.compLoop (.ListComp elt [⟨tg,iter,[],0⟩,⟨tg2,iter2,[],0⟩] scope pos) 0 it acc env)):=by rfl
theorem mV(elt tg iter tg2 iter2:Φ)(scope:Scope)(pos:Pos)(it acc:Γ)(env:Env):
  compTurn (.ListComp elt [⟨tg,iter,[],0⟩,⟨tg2,iter2,[],0⟩] scope pos) 1 it acc env=(standAt iter2.pos >>= fun _=>pyNext it >>= fun r=>match r with
   |none=>pure (.done .next)
   |some v=>letOwnedTupleGo tg2 it v >>= fun _=>assign tg2 env v >>= fun _=>
    (eval elt env >>= fun x=>call (.builtin "list.append") [acc,x] >>= fun _=>pure ()) >>= fun _=>
     again (.compLoop (.ListComp elt [⟨tg,iter,[],0⟩,⟨tg2,iter2,[],0⟩] scope pos) 1 it acc env)):=by rfl
theorem nF{elt tg iter tg2 iter2:Φ}{scope:Scope}{pos:Pos}{it acc:Γ}{env:Env}(I:Nat->Θ->Prop)
  (turn:∀n s,I n s->ε (model prog w) A (pyNext it) (fun r s₁=>match r with
   |none=>R (.ok .next) s₁
   | some v=>ε (model prog w) A (letOwnedTupleGo tg2 it v) (fun _ s₁'=>ε (model prog w) A (assign tg2 env v) (fun _ s₂=>ε (model prog w) A (eval elt env) (fun x s₃=>
     ε (model prog w) A (call (.builtin "list.append") [acc,x]) (fun _ s₄=>∃m,m<n/\I m s₄) (fun _ _=>False) s₃)
     (fun _ _=>False) s₂) (fun _ _=>False) s₁') (fun _ _=>False) s₁) (fun _ _=>False) s)
  (n:Nat)(h:I n s):
  codeAny (model prog w) A (.compLoop (.ListComp elt [⟨tg,iter,[],0⟩,⟨tg2,iter2,[],0⟩] scope pos) 1 it acc env) R s:=by
 refine codeAny_loop rfl I (fun n s hI=>?_) n h
 show ε _ _ ((compTurn (.ListComp elt [⟨tg,iter,[],0⟩,⟨tg2,iter2,[],0⟩] scope pos) 1 it acc env).onRaise (fun x=>do noteFrame x env;theTreesLotGoes x)) _ _ s
 refine wpAny_noted ?_
 rw[mV];refine Ja (D7 (Ja (JF (turn n s hI) (fun r s₁ h₁=>?_) fun _ _ h'=>h'.elim)))
 cases r with
 |none=>exact Jd h₁
 |some v=>
  refine Ja (JF h₁ (fun _ s₁' h₁'=>?_) fun _ _ h'=>h'.elim)
  exact Ja (JF h₁' (fun _ s₂ h₂=>Ja (Ja (JF h₂ (fun x s₃ h₃=>Ja (JF h₃
   (fun _ s₄ h₄=>Jd (Jd ⟨rfl,h₄⟩)) fun _ _ h'=>h'.elim)) fun _ _ h'=>h'.elim))) fun _ _ h'=>h'.elim)
theorem kC{elt tg iter tg2 iter2:Φ}{scope:Scope}{pos:Pos}{it acc:Γ}{env:Env}(hs2:∀x,foldedSetIterable iter2 env x=pure x)(I:Nat->Θ->Prop)
  (turn:∀n s,I n s->ε (model prog w) A (pyNext it) (fun r s₁=>match r with
   |none=>R (.ok .next) s₁
   | some v=>ε (model prog w) A (letOwnedTupleGo tg it v) (fun _ s₁'=>ε (model prog w) A (assign tg env v) (fun _ s₂=>ε (model prog w) A (eval iter2 env) (fun x s₃=>
     ε (model prog w) A (pyIter x) (fun i2 s₄=>codeAny (model prog w) A (.compStart (.ListComp elt [⟨tg,iter,[],0⟩,⟨tg2,iter2,[],0⟩] scope pos) 1 i2 acc env) (fun r s₅=>match r with| .ok _=>∃m,m<n/\I m s₅| .error _=>False) s₄) (fun _ _=>False) s₃)
     (fun _ _=>False) s₂) (fun _ _=>False) s₁') (fun _ _=>False) s₁) (fun _ _=>False) s)
  (n:Nat)(h:I n s):
  codeAny (model prog w) A (.compLoop (.ListComp elt [⟨tg,iter,[],0⟩,⟨tg2,iter2,[],0⟩] scope pos) 0 it acc env) R s:=by
 refine codeAny_loop rfl I (fun n s hI=>?_) n h
 show ε _ _ ((compTurn (.ListComp elt [⟨tg,iter,[],0⟩,⟨tg2,iter2,[],0⟩] scope pos) 0 it acc env).onRaise (fun x=>do noteFrame x env;theTreesLotGoes x)) _ _ s
 refine wpAny_noted ?_
 rw[lN];refine Ja (D7 (Ja (JF (turn n s hI) (fun r s₁ h₁=>?_) fun _ _ h'=>h'.elim)))
 cases r with
 |none=>exact Jd h₁
 |some v=>
  refine Ja (JF h₁ (fun _ s₁' h₁'=>?_) fun _ _ h'=>h'.elim)
  refine Ja (JF h₁' (fun _ s₂ h₂=>Ja (JF h₂ (fun x s₃ h₃=>?_) fun _ _ h'=>h'.elim)) fun _ _ h'=>h'.elim)
  refine Ja (D7 (Ja ?_))
  rw[hs2];refine Jd (Ja (JM (JF h₃ (fun i2 s₄ h₄=>?_) fun _ _ h'=>h'.elim)))
  refine Ja (wpAny_runOwn (EI h₄ fun r s₅ h₅=>?_))
  cases r with
  |ok f=>exact Jd ⟨rfl,h₅⟩
  |error x=>exact h₅.elim
theorem lc{elt tg iter tg2 iter2 scope pos it acc env}
  (h0:codeAny (model prog w) A (.compLoop (.ListComp elt [⟨tg,iter,[],0⟩,⟨tg2,iter2,[],0⟩] scope pos) 1 it acc env) R s)
  (h:ε (model prog w) A (pyIter it) (fun it' s'=>codeAny (model prog w) A (.compLoop (.ListComp elt [⟨tg,iter,[],0⟩,⟨tg2,iter2,[],0⟩] scope pos) 1 it' acc env) R s')
   (notedBy (model prog w) A env fun x s'=>R (.error x) s') s):
  codeAny (model prog w) A (.compStart (.ListComp elt [⟨tg,iter,[],0⟩,⟨tg2,iter2,[],0⟩] scope pos) 1 it acc env) R s:=by
 refine codeAny_of_tree ?_
 show ε _ _ ((compStart (.ListComp elt [⟨tg,iter,[],0⟩,⟨tg2,iter2,[],0⟩] scope pos) 1 it acc env).onRaise (fun x=>do noteFrame x env;standAt theWindowsPlace)) _ _ s
 refine wpAny_notedAt ?_
 unfold compStart
 show ε _ _ (ask >>= _) _ _ s
 refine Ja (wpAny_askSetting (wpAny_ite ?_))
 split
 ·first
   |exact Ja (Jd (Jd (And.intro rfl h0)))
   |exact Jd (And.intro rfl h0)
 ·first
   |exact Ja (DR (Ja (D7 (Ja (JF h (fun it' s' h'=>Jd (And.intro rfl h')) fun _ _ x=>x)))))
   |(refine Ja (DR ?_);show ε _ _ (standAt iter2.pos >>= _) _ _ s;exact Ja (D7 (Ja (JF h (fun it' s' h'=>Jd (And.intro rfl h')) fun _ _ x=>x))))
end
variable{X:Cx}
theorem tj{elt tg iter tg2 iter2:Φ}{scope:Scope}{cl:List (Str×Δ)}{pos fpos:Pos}{fr own:List Str}{js:List Nat}{wi wi2:TI}{g g2:TG}{te:TE}{use:Option (Γ->Sem Unit)}{Post:FS}
  {tx:FU}{s:Θ}{σ:L2.St}{H:Hp}{Q:VK}
  (hc:X.calm=true)(hi:PI X tg iter wi)(hclos:closureFor scope X.env=pure cl)(hcl:∀y c,cl.lookup y=some c->X.env.cells.lookup y=some c)(hfr:cl.map (·.1)=fr)
  (S:GN X scope fr js)
  (hg:∀C s H fp,PG (zH X (own++fr) scope cl C s H fp) tg g)(hi2:∀C s H fp,PI (zH X (own++fr) scope cl C s H fp) tg2 iter2 wi2)(hg2:∀C s H fp,PG (zH X (own++fr) scope cl C s H fp) tg2 g2)(he:∀C s H fp,PE (zH X (own++fr) scope cl C s H fp) elt te)
  (hs:∀x,foldedSetIterable iter X.env x=pure x)(hs2:∀C x,foldedSetIterable iter2 (compEnvC scope cl C X.env) x=pure x)
  (I:L2.FY X tx σ H s)(h:sR own.length js wi g wi2 g2 te σ H Q)
  (hfin:∀(acc C:Δ) (s5:Θ) (H':Hp) (m:FT),L2.FY X tx σ H' s5->s5.heap.Ns C m->IR X tx H' C->Q (.ref acc) H'->compPost (model X.prog X.w) X.A X.xe use Post (.ref acc) C (.ok .next) s5):
  ε (model X.prog X.w) X.A (comprehension (.ListComp elt [⟨tg,iter,[],0⟩,⟨tg2,iter2,[],0⟩] scope pos) scope X.env fpos (newList []) false (eval iter X.env) use) Post X.xe s:=by
 refine wpAny_comprehension_free (use:=use) rfl hs hclos S.kind S.names (qB (hi tx s σ H _ I h) fun v s1 h1=>qB h1 fun itv s2 h2=>?_)
 obtain⟨it,fp,tn,J,H2,e,I2,T,st2,f2,W,⟨m0,w0⟩,turn⟩:=h2;subst e;refine DQ (wpAny_newFunctionEnv S.nocell (by intro y hy;simp at hy) (fun h₁ hns₁ hsb₁=>?_) S.kind)
 dsimp only at hns₁ hsb₁⊢
 generalize hH2:s2.heap.push {cls:= .type "list",dict:=none,data:= .seq ([]:List Γ).toArray}=G at hns₁ hsb₁⊢
 have hC:G.objs.size=s2.heap.objs.size+1:=by rw[<- hH2,JV]
 have hDC:s2.heap.objs.size≠G.objs.size:=by rw[hC];exact Jo (D3 _)
 have below:∀b,b<s2.heap.objs.size->b≠G.objs.size/\b≠s2.heap.objs.size:=fun b hb=>⟨by rw[hC];exact Jo (D9 hb),Jo hb⟩
 have old:∀b o,s2.heap.get? b=some o->h₁.get? b=some o:=fun b o e=>hsb₁.extBut b o (below b (Ji e)).1 (Jh _ (hH2▸Jh _ e))
 have hacc:h₁.get? s2.heap.objs.size=some {cls:= .type "list",data:= .seq ([]:List Γ).toArray 0}:=hsb₁.extBut _ _ hDC (Jh _ (hH2▸Jp _ rfl))
 let Y:Cx:=zH X (own++fr) scope cl G.objs.size s2 H2 fp
 have fplt:∀b∈fp,b<s2.heap.objs.size:=fun b hb=>by obtain⟨o,e,_⟩:=T.obj _ _ st2 b hb;exact Ji e
 have okY:Y.Ok:=by
  refine⟨I2.ok.mod,S.kind,I2.ok.glob,I2.ok.blt,by show s2.heap.objs.size<=G.objs.size;lia,?_,?_,?_,I2.ok.hd,I2.ok.frames,.inl rfl,?_,I2.bs,JO I2.ok.bsz I2.sz,?_,?_,I2.stack,I2.stkFree⟩
  ·exact fun x y c e1 e2=>I2.ok.inj x y c (hcl x c e1) (hcl y c e2)
  ·intro x hx
   have hx':(relabel scope X.env).names.lookup x=some .cell\/(relabel scope X.env).names.lookup x=some .free:=hx
   have hm:∃k,(x,k)∈scope.names/\k= .free:=by
    have aux:∀kk:NameKind,(kk= .cell\/kk= .free)->(relabel scope X.env).names.lookup x=some kk->∃k,(x,k)∈scope.names/\k= .free:=by
     intro kk hk el;obtain⟨⟨n,k⟩,hmem,e⟩:=Ju.mp (EJ el)
     dsimp only at e
     split at e
     ·rename_i hcond
      cases e;refine⟨k,hmem,?_⟩
      simp only[Jt,J4]at hcond;exact hcond.1.1
     ·cases e
      rcases hk with z|z
      ·subst z;exact absurd rfl (S.nocell _ hmem)
      ·exact⟨_,hmem,z⟩
    rcases hx' with z|z
    ·exact aux _ (.inl rfl) z
    ·exact aux _ (.inr rfl) z
   obtain⟨k,hmem,hk⟩:=hm;exact zP (l:=cl) (by rw[hfr];exact S.free _ hmem hk)
  ·exact fun x c e _=>nomatch e
  ·refine fun b hb=>⟨?_,fun x c e=>(f2 b hb).2.2.2.2.1 x c (hcl x c e)⟩
   show b≠G.objs.size
   exact(below b (fplt b hb)).1
  ·intro b o e hb
   rcases(f2 b hb).2.2.2.1 with z|z
   ·exact I2.ok.noex b o e z
   ·exact absurd (JL (Ji e) (JO I2.ok.bsz z)) (J1 _)
  ·intro b hb hf
   rcases Jl.mp (I2.stkSub b hf)with z|z
   ·exact(f2 b hb).2.1 z
   ·exact(f2 b hb).2.2.1 z
 have lenσ:(σ0 own.length js σ).length=(own++fr).length:=by unfold σ0;simp [S.len]
 have IY:FY Y [] (σ0 own.length js σ) H2 {s2 with heap:=h₁,toks:=s2.toks+([]:List (Str×Γ)).length}:=by
  refine⟨okY,rfl,I2.bare,Un.kept old,⟨_,hns₁,?_⟩,?_,?_,?_,fun p hp=>absurd (show p∈([]:FU)from hp) (by simp),I2.hok.kept old,lenσ⟩
  ·intro i x v hN hv _
   have hN':(own++fr)[i]? =some x:=hN
   unfold σ0 at hv
   by_cases hlt:i<own.length
   ·rw[J5 (by simpa using hlt),List.getElem?_replicate]at hv
    split at hv<;>cases hv
   ·rw[JY (by simpa using Fd hlt),FD,Jq]at hv
    rw[JY (Fd hlt)]at hN';cases ej:js[i-own.length]? with
    |none=>rw[ej]at hv;cases hv
    |some j=>
     rw[ej]at hv;have hσ:σ[j]? =some (some v):=by
      have hv':(σ[j]?).join=some v:=JB hv
      cases q:σ[j]? with
      |none=>rw[q]at hv';cases hv'
      |some o=>rw[q]at hv';have:o=some v:=hv';rw[this]
     obtain⟨hNj,hk,hkr⟩:=S.at_ _ j x ej hN';obtain⟨m,hn,hl⟩:=I2.loc;obtain⟨u,ru,lk⟩:=hl j x v hNj hσ (.inr (.inl hk))
     refine⟨u,ru,.inr ?_⟩
     rcases lk with⟨k1,_⟩|⟨_,c,ec,ic⟩
     ·rw[hk]at k1;cases k1
     ·obtain⟨c',hc'⟩:=zP (y:=x) (l:=cl) (by rw[hfr];exact DU hN')
      have:c'=c:=by have:=hcl x c' hc';rw[ec]at this;exact(JB this).symm
      subst this;refine⟨?_,c',hc',?_⟩
      ·show(relabel scope X.env).names.lookup x=some .cell\/(relabel scope X.env).names.lookup x=some .free
       exact .inl hkr
      ·obtain⟨oc,hoc,hd⟩:=ic
       exact⟨oc,old _ _ hoc,hd⟩
  ·intro x c e
   obtain⟨v,oc,hoc,hd⟩:=I2.cell x c (hcl x c e)
   exact⟨v,oc,old _ _ hoc,hd⟩
  ·exact I2.hok.fresh (by show s2.heap.objs.size<=G.objs.size;lia)
  ·exact fun x c e=>I2.freeC x c (hcl x c e)
 have accfs:s2.heap.objs.size∉bG X.stack:=fun hf=>by
  rcases Jl.mp (I2.stkSub _ hf)with z|z
  ·exact absurd (by rw[<- z];exact Jf _:s2.heap.objs.size<=X.env.locals) (Nat.not_le.mpr I2.lt)
  ·exact I2.nofs (Jf _) z
 have acccell:∀x c,cl.lookup x=some c->c≠s2.heap.objs.size:=fun x c e z=>by
  obtain⟨v,oc,hoc,_⟩:=I2.cell x c (hcl x c e)
  exact absurd (Ji hoc) (by rw[z];exact J1 _)
 have fpY:∀{H':Hp} {pl:FU},(∀b∈fp,H' b=none)->(∀p∈pl,p.1=s2.heap.objs.size)->∀b∈fp,Zx Y pl H' b:=fun{H' pl} hn hp b hb=>
  ⟨hn b hb,(below b (fplt b hb)).1,okY.exfs b hb,.inl hb,fun x c e=>(f2 b hb).2.2.2.2.1 x c (hcl x c e),fun p hpp=>by
   have hpp':p∈pl:=by simpa [Y,zH]using hpp
   rw[hp p hpp'];exact Ne.symm (below b (fplt b hb)).2⟩
 have loop:∀s₃:Θ,FY Y [] (σ0 own.length js σ) H2 s₃->tn 0 s₃.heap->s₃.heap.get? s2.heap.objs.size=some {cls:= .type "list",data:= .seq ([]:List Γ).toArray 0}->
   codeAny (model X.prog X.w) X.A (.compLoop (.ListComp elt [⟨tg,iter,[],0⟩,⟨tg2,iter2,[],0⟩] scope pos) 0 (.ref it) (.ref s2.heap.objs.size) (compEnvC scope cl G.objs.size X.env))
    (compPost (model X.prog X.w) X.A X.xe use Post (.ref s2.heap.objs.size) G.objs.size) s₃:=by
  intro s₃ I3 st3 ha3;refine kC (hs2 _) (fun n s'=>∃i ys τ H' its k,FY Y [(s2.heap.objs.size,{cls:= .type "list",data:= .seq its.toArray k})] τ H' s'/\tn i s'.heap/\(∀b∈fp,H' b=none)/\F3 ys its/\ys.length<=ζ/\W i n ys τ H') ?_ m0 ?_
  ·rintro n s4 ⟨i,ys,τ,H4,its,k,I4,st4,fr4,vl,hz,w4⟩
   have pin4:=I4.pin (s2.heap.objs.size,{cls:= .type "list",data:= .seq its.toArray k}) (by simp [Y,zH])
   rcases turn i n ys τ H4 w4 with⟨stop,qn⟩|⟨go,step⟩
   ·refine qB (T.done Y rfl rfl rfl hc i _ s4 τ H4 _ I4 (fpY fr4 (by simp)) st4 stop) fun r s5 zq=>?_
    obtain⟨hr,I5⟩:=zq;subst hr
    show compPost _ _ _ _ _ _ _ _ _
    obtain⟨m5,hn5,_⟩:=I5.loc;have pin5:=I5.pin (s2.heap.objs.size,{cls:= .type "list",data:= .seq its.toArray k}) (by simp [Y,zH])
    have nacc:H4 s2.heap.objs.size=none:=pin5.2.1
    have B:=I5.base;have nC:H4 G.objs.size=none:=I5.free
    refine hfin s2.heap.objs.size G.objs.size s5 (F2 H4 s2.heap.objs.size (.lst ys)) m5 ?_ hn5 ?_ (qn _ nacc)
    ·refine I2.call' (s':=s5) (ch:=fp) I5.os ⟨B.keep,B.slot,fun b o e n hx=>?_,B.there,fun b xs e=>?_,fun b o u e=>?_,fun b ps e=>?_⟩ ?_ I5.bare ?_
     ·rw[qi (below b (Ji e)).2];exact B.free b o e n hx
     ·have e1:=B.tups b xs e
      rw[qi (qj e1 nacc)];exact e1
     ·have e1:=B.frzs b o u e
      rw[qi (qj e1 nacc)];exact e1
     ·obtain⟨more,e1⟩:=B.tbls b ps e
      exact⟨more,by rw[qi (qj e1 nacc)];exact e1⟩
     ·intro b u e
      by_cases hb:b=s2.heap.objs.size
      ·subst hb
       rw[qb]at e;cases e
       exact⟨hz,its,k,vl,pin5.1⟩
      ·rw[qi hb]at e
       exact(I5.hok b u e).stay (fun c v _ q=>q) (fun c q=>by rw[qi (qj q nacc)];exact q) fun c xs q=>by rw[qi (qj q nacc)];exact q
     ·exact fun b hb=>⟨(f2 b hb).2.2.2.1,(f2 b hb).2.1,(f2 b hb).2.2.2.2.1,(f2 b hb).2.2.2.2.2⟩
    ·have hge:s2.heap.objs.size<=G.objs.size:=by lia
     refine⟨by rw[qi (Ne.symm hDC)];exact nC,?_,JO I2.sz hge,fun x c e z=>?_,fun p hp z=>?_⟩
     ·exact J3 (JL I2.lt hge)
     ·obtain⟨v,oc,hoc,_⟩:=I2.cell x c e
      exact absurd (JL (Ji hoc) hge) (by rw[z];exact J1 _)
     ·exact absurd (JL (Ji (I2.pin p hp).1) hge) (by rw[z];exact J1 _)
   ·refine qB (T.item Y rfl rfl rfl hc i _ s4 τ H4 _ I4 (fpY fr4 (by simp)) st4 go) fun r s5 zq=>?_
    obtain⟨u,hr,h5⟩:=zq;subst hr;refine qB h5 fun _ s6 zq=>?_
    obtain⟨x,H6,I6,r6,y6,st6,fr6⟩:=zq;have I6':=I6.pinned (fpY fr6 (by simp)) (T.obj _ _ st6)
    refine qB (hg _ _ _ _ _ s6 τ H6 x u _ I6' r6 (step x H6 y6)) fun _ s7 zq=>?_
    obtain⟨τ7,H7,I7,q7⟩:=zq;refine qB (hi2 _ _ _ _ _ s7 τ7 H7 _ I7 q7) fun v7 s8 h8=>qB h8 fun itv2 s9 h9=>?_
    obtain⟨it2,fp2,tn2,J2,H9,e9,I9,T2,st9,f9,W2,⟨m2,w2⟩,turn2⟩:=h9;subst e9;have fpI:∀{H':Hp} {its':List Γ} {k':Nat},(∀b∈fp2,H' b=none)->∀b∈fp2,Zx Y ((s2.heap.objs.size,{cls:= .type "list",data:= .seq its'.toArray k'})::ZX fp s6.heap) H' b:=fun{H' its' k'} hn b hb=>
     ⟨hn b hb,(f9 b hb).2.1,(f9 b hb).2.2.1,(f9 b hb).2.2.2.1,(f9 b hb).2.2.2.2.1,fun p hp=>by
      have hp':p∈(s2.heap.objs.size,{cls:= .type "list",data:= .seq its'.toArray k'})::ZX fp s6.heap:=by simpa [Y,zH]using hp
      rcases Jl.mp hp' with z|z
      ·rw[z]
       exact(f9 b hb).2.2.2.2.2 (s2.heap.objs.size,{cls:= .type "list",data:= .seq its.toArray k}) (by simp [zH])
      ·exact(f9 b hb).2.2.2.2.2 p (by simp [zH,z])⟩
    have L2:codeAny (model X.prog X.w) X.A (.compLoop (.ListComp elt [⟨tg,iter,[],0⟩,⟨tg2,iter2,[],0⟩] scope pos) 1 (.ref it2) (.ref s2.heap.objs.size) (compEnvC scope cl G.objs.size X.env)) (fun r s₅=>match r with
      | .ok _=>∃m,m<n/\∃i ys τ H' its k,FY Y [(s2.heap.objs.size,{cls:= .type "list",data:= .seq its.toArray k})] τ H' s₅/\tn i s₅.heap/\(∀b∈fp,H' b=none)/\F3 ys its/\ys.length<=ζ/\W i m ys τ H'
      | .error _=>False) s9:=by
     refine nF (fun n2 s'=>∃(i2:Nat) (zs:List V) (τ':L2.St) (H':Hp) (its':List Γ) (k':Nat),FY Y ((s2.heap.objs.size,{cls:= .type "list",data:= .seq its'.toArray k'})::ZX fp s6.heap) τ' H' s'/\tn2 i2 s'.heap/\(∀b∈fp2,H' b=none)/\F3 zs its'/\zs.length<=ζ/\W2 i2 n2 zs τ' H') ?_ m2 ⟨0,ys,τ7,H9,its,k,I9,st9,fun b hb=>(f9 b hb).1,vl,hz,w2⟩
     rintro n2 sA ⟨i2,zs,τA,HA,itsA,kA,IA,stA,frA,vlA,hzA,wA⟩
     have pinA:=IA.pin (s2.heap.objs.size,{cls:= .type "list",data:= .seq itsA.toArray kA}) (by simp [Y,zH])
     rcases turn2 i2 n2 zs τA HA wA with⟨stop2,m',hm',w'⟩|⟨go2,hlt2,step2⟩
     ·refine qB (T2.done Y rfl rfl rfl hc i2 _ sA τA HA _ IA (fpI frA) stA stop2) fun r sB zq=>?_
      obtain⟨hr2,IB⟩:=zq;subst hr2;have pinB:=IB.pin (s2.heap.objs.size,{cls:= .type "list",data:= .seq itsA.toArray kA}) (by simp [Y,zH])
      have pinO:∀b∈fp,∀o,s6.heap.get? b=some o->sB.heap.get? b=some o/\HA b=none:=fun b hb o e=>by
       have:=IB.pin (b,o) (J8 _ (JE _ (Zp hb e)))
       exact⟨this.1,this.2.1⟩
      refine⟨m',hm',i+1,zs,τA,HA,itsA,kA,IB.pins_of ?_,T.keep _ _ _ st6 fun b hb o e=>(pinO b hb o e).1,fun b hb=>?_,vlA,hzA,w'⟩
      ·intro p hp
       rw[Jj.mp hp]
       exact⟨pinB.1,pinB.2.1,hDC,accfs,fun v z=>by cases z⟩
      ·obtain⟨o,e,_⟩:=T.obj _ _ st6 b hb
       exact(pinO b hb o e).2
     ·refine qB (T2.item Y rfl rfl rfl hc i2 _ sA τA HA _ IA (fpI frA) stA go2) fun r sB zq=>?_
      obtain⟨u2,hr2,hB⟩:=zq;subst hr2;refine qB hB fun _ sC zq=>?_
      obtain⟨x2,HC,IC,rC,yC,stC,frC⟩:=zq;have IC':=IC.pinned (fpI frC) (T2.obj _ _ stC);refine qB (hg2 _ _ _ _ _ sC τA HC x2 u2 _ IC' rC (step2 x2 HC yC)) fun _ sD zq=>?_
      obtain⟨τD,HD,ID,N,hN,qD⟩:=zq;refine qB (he _ _ _ _ _ sD τD HD _ ID qD) fun v' sE zq=>?_
      obtain⟨y,HE,IE,rE,nE⟩:=zq;obtain⟨m2',hm2',wE⟩:=hN _ _ nE;have pinE:=IE.pin (s2.heap.objs.size,{cls:= .type "list",data:= .seq itsA.toArray kA}) (by simp [zH])
      have pinO:∀p∈ZX fp s6.heap,sE.heap.get? p.1=some p.2/\HE p.1=none/\p.1≠Y.env.locals/\p.1∉Y.fs/\∀v,p.2.data≠ .cell v:=fun p hp=>
       IE.pin p (J8 _ (E9 _ (JE _ hp)))
      have pin2:∀b∈fp2,∀o,sC.heap.get? b=some o->sE.heap.get? b=some o/\HE b=none:=fun b hb o e=>by
       have:=IE.pin (b,o) (J8 _ (J8 _ (Zp hb e)))
       exact⟨this.1,this.2.1⟩
      refine wpAny_list_append_plain (items:=itsA.toArray) ⟨kA,pinE.1⟩ (fun h' ha' hs'=>?_) (by have:=vlA.length;simp;lia)
      obtain⟨k',ha'⟩:=ha';have IF:FY Y [] τD HE {sE with heap:=h'}:=by
       refine(IE.pins_of (pins':=[]) (by simp)).turned (t':=sE.toks) (it:=s2.heap.objs.size) (fun b o hb e=>(hs'.2 b hb).trans e) pinE.2.1 ?_ (.inr (Jf _)) (fun x c e=>acccell x c e) (fun p hp=>absurd (show p∈([]:FU)from by simpa [Y,zH]using hp) (by simp))
       exact hDC
      have ea:(itsA.toArray.push v')=(itsA++[v']).toArray:=by simp
      rw[ea]at ha';refine⟨m2',hm2',i2+1,zs++[y],τD,HE,itsA++[v'],k',IF.pins_of ?_,T2.keep _ _ _ stC fun b hb o e=>?_,fun b hb=>?_,vlA.append (.cons rE .nil),?_,wE⟩
      ·intro p hp
       rcases Jl.mp hp with z|z
       ·rw[z]
        exact⟨ha',pinE.2.1,hDC,accfs,fun v z=>by cases z⟩
       ·obtain⟨p1,p2⟩:=pinO p z
        exact⟨(hs'.2 p.1 (below p.1 (fplt p.1 (i3 z).1)).2).trans p1,p2⟩
      ·refine(hs'.2 b fun z=>?_).trans (pin2 b hb o e).1
       exact(f9 b hb).2.2.2.2.2 (s2.heap.objs.size,{cls:= .type "list",data:= .seq its.toArray k}) (by simp [zH]) z.symm
      ·obtain⟨o,e,_⟩:=T2.obj _ _ stC b hb
       exact(pin2 b hb o e).2
      ·rw[Jw,Ef];lia
    exact lc L2 (T2.self _ 0 _ _ _ st9 L2)
  ·refine⟨0,[],σ0 own.length js σ,H2,[],0,I3.pins_of ?_,st3,fun b hb=>(f2 b hb).1,.nil,Jz _,w0⟩
   intro p hp;rw[Jj.mp hp]
   exact⟨ha3,I2.hok.fresh (Jf _),hDC,accfs,fun v z=>by cases z⟩
 have st1:tn 0 h₁:=T.keep _ _ _ st2 fun b _ o e=>old b o e
 exact codeAny_compStart_list (loop _ IY st1 hacc) (T.self _ 0 _ _ _ st1 (loop _ IY st1 hacc))
theorem wu{elt tg iter tg2 iter2:Φ}{scope:Scope}{cl:List (Str×Δ)}{pos:Pos}{fr own:List Str}{js:List Nat}{wi wi2:TI}{g g2:TG}{te:TE}
  (hc:X.calm=true)(hi:QI X tg iter wi)(hclos:closureFor scope X.env=pure cl)(hcl:∀y c,cl.lookup y=some c->X.env.cells.lookup y=some c)(hfr:cl.map (·.1)=fr)
  (S:GN X scope fr js)
  (hg:∀C s H fp,QG (zH X (own++fr) scope cl C s H fp) tg g)(hi2:∀C s H fp,QI (zH X (own++fr) scope cl C s H fp) tg2 iter2 wi2)(hg2:∀C s H fp,QG (zH X (own++fr) scope cl C s H fp) tg2 g2)(he:∀C s H fp,QE (zH X (own++fr) scope cl C s H fp) elt te)
  (hs:∀x,foldedSetIterable iter X.env x=pure x:=by intro _;rfl)(hs2:∀C x,foldedSetIterable iter2 (compEnvC scope cl C X.env) x=pure x:=by intro _ _;rfl):
  QE X (.ListComp elt [⟨tg,iter,[],0⟩,⟨tg2,iter2,[],0⟩] scope pos) (sR own.length js wi g wi2 g2 te):=by
 refine⟨fun tx s σ H Q I h=>?_⟩
 rw[eval_ListComp];refine tj (use:=none) hc hi.h hclos hcl hfr S (fun C s H fp=>(hg C s H fp).h) (fun C s H fp=>(hi2 C s H fp).h) (fun C s H fp=>(hg2 C s H fp).h) (fun C s H fp=>(he C s H fp).h) hs hs2 I h fun acc C s5 H' m I5 hn aw q=>?_
 exact⟨m,hn,fun h' hs'=>⟨.ref acc,H',I5.turned (t':=s5.toks) (fun b o hb e=>(hs'.2 b hb).trans e) aw.free aw.loc (.inr aw.new) aw.cell aw.pin,rfl,q⟩⟩
end L3
namespace S0
open PySem PySem.Spec PyProof.Rows
def oB(M x:Nat):Nat:=(x*5+1)%M
def bp(M:Nat):Nat->Nat->Nat
 |0,x=>x
 |n+1,x=>bp M n (oB M x)
theorem bL(M:Nat):∀(a b x:Nat),bp M (a+b) x=bp M b (bp M a x)
 |0,b,x=>by rw[Nat.zero_add];rfl
 |a+1,b,x=>by rw[Nat.add_right_comm];exact bL M a b (oB M x)
def BL(M:Nat):Nat->Nat->List Nat
 |0,_=>[]
 |n+1,x=>x::BL M n (oB M x)
theorem sv(M:Nat):∀(n x j:Nat),j∈BL M n x->∃m,m<n/\bp M m x=j
 |0,x,j,h=>nomatch h
 |n+1,x,j,h=>by
  rcases Jl.mp h with rfl|h
  ·exact⟨0,Nat.succ_pos _,rfl⟩
  ·obtain⟨m,hm,e⟩:=sv M n _ j h
   exact⟨m+1,by lia,e⟩
def xg(M:Nat):Bool:=(bp M M 0==0)&&(List.range M).all fun j=>(BL M M 0).contains j
def Qc(M:Nat):Prop:=xg M=true
theorem tL:Qc 8:=by unfold Qc;decide +kernel
theorem Aq:Qc 16:=by unfold Qc;decide +kernel
theorem yu:Qc 32:=by unfold Qc;decide +kernel
theorem yP:Qc 64:=by unfold Qc;decide +kernel
theorem vb:Qc 128:=by unfold Qc;decide +kernel
theorem wf:Qc 256:=by unfold Qc;decide +kernel
theorem vN{n:Nat}(h:n<256):Qc (SetTable.sizeAbove n)/\n<SetTable.sizeAbove n/\SetTable.sizeAbove n<=256:=by
 have key:∀n<256,(SetTable.sizeAbove n=8\/SetTable.sizeAbove n=16\/SetTable.sizeAbove n=32\/SetTable.sizeAbove n=64\/SetTable.sizeAbove n=128\/SetTable.sizeAbove n=256)/\n<SetTable.sizeAbove n:=by decide +kernel
 obtain⟨h1,h2⟩:=key n h;rcases h1 with e|e|e|e|e|e<;>(rw[e]at h2⊢;refine⟨?_,h2,by decide⟩)
 ·exact tL
 ·exact Aq
 ·exact yu
 ·exact yP
 ·exact vb
 ·exact wf
theorem reach{M i j:Nat}(h:Qc M)(hi:i<M)(hj:j<M):∃m,m<M/\bp M m i=j:=by
 unfold Qc xg at h;rw[Jt,J4,EK]at h;obtain⟨h0,h1⟩:=h;have get:∀x,x<M->∃m,m<M/\bp M m 0=x:=fun x hx=>sv M M 0 x (by have:=h1 x (J6.mpr hx);simpa using this)
 obtain⟨a,ha,ea⟩:=get i hi;obtain⟨b,hb,eb⟩:=get j hj
 by_cases hab:a<=b
 ·refine⟨b-a,by lia,?_⟩
  rw[<- ea,<- bL,show a+(b-a)=b by lia,eb]
 ·refine⟨M-a+b,by lia,?_⟩
  rw[<- ea,<- bL,show a+(M-a+b)=M+b by lia,bL,h0,eb]
def ZL(mask:Nat):Nat->Nat×Nat->Nat×Nat
 |0,p=>p
 |n+1,p=>ZL mask n (SetTable.leap mask p.1 p.2)
theorem f6(mask:Nat):∀(a b:Nat) (p:Nat×Nat),ZL mask (a+b) p=ZL mask b (ZL mask a p)
 |0,b,p=>by rw[Nat.zero_add];rfl
 |a+1,b,p=>by rw[Nat.add_right_comm];exact f6 mask a b _
theorem kX(mask:Nat):∀(n:Nat) (p:Nat×Nat),(ZL mask n p).2=p.2/32 ^ n
 |0,p=>by show p.2=_;rw[Nat.pow_zero,Nat.div_one]
 |n+1,p=>by
  show(ZL mask n (SetTable.leap mask p.1 p.2)).2=_
  rw[kX mask n]
  show p.2/32/32 ^ n=_
  rw[Nat.div_div_eq_div_mul,Nat.pow_succ,Nat.mul_comm]
theorem jO(mask:Nat):∀(n i p:Nat),p/32=0->(ZL mask n (i,p)).1=bp (mask+1) n i
 |0,i,p,h=>rfl
 |n+1,i,p,h=>by
  have e:SetTable.leap mask i p=(oB (mask+1) i,0):=by
   unfold SetTable.leap oB;rw[h,Nat.add_zero]
  show(ZL mask n (SetTable.leap mask i p)).1=bp (mask+1) n (oB (mask+1) i)
  rw[e];exact jO mask n _ 0 rfl
theorem Ar(h:Int):SetTable.bits h<2 ^ 64:=by
 unfold SetTable.bits;have h1:=Eo h (show(0:Int)<2 ^ 64 by decide)
 have h2:=El h (show(2 ^ 64:Int)≠0 by decide)
 lia
theorem By{mask j:Nat}(hm:Qc (mask+1))(hj:j<=mask)(h:Int)(i:Nat):∃n,n<SetTable.turns mask/\(ZL mask n (i,SetTable.bits h)).1=j:=by
 have hb:=Ar h;have e12:(ZL mask 12 (i,SetTable.bits h)).2/32=0:=by
  rw[kX]
  show SetTable.bits h/32 ^ 12/32=0
  rw[Nat.div_div_eq_div_mul];exact Nat.div_eq_of_lt (JL hb (by decide))
 have l12:(ZL mask 12 (i,SetTable.bits h)).1<mask+1:=by
  rw[show(12:Nat)=11+1 from rfl,f6 mask 11 1]
  exact Nat.mod_lt _ (Nat.succ_pos _)
 obtain⟨m,hm1,hm2⟩:=reach hm l12 (Nat.lt_succ_of_le hj)
 refine⟨12+m,by unfold SetTable.turns;lia,?_⟩
 rw[f6];generalize ZL mask 12 (i,SetTable.bits h)=p at *
 obtain⟨a,b⟩:=p;rw[jO mask m a b e12];exact hm2
theorem ju{mask:Nat}{ow:Array (Option Nat)}:∀(fuel i p:Nat),SetTable.layClean.free mask ow fuel i p=none->∀n,n<fuel->(ow.getD (ZL mask n (i,p)).1 (some 0)).isNone=false
 |0,i,p,h,n,hn=>absurd hn (Nat.not_lt_zero _)
 |fuel+1,i,p,h,n,hn=>by
  unfold SetTable.layClean.free at h;split at h
  ·cases h
  ·rename_i hf
   cases n with
   |zero=>
    have:=List.find?_eq_none.mp hf 0 (J6.mpr (by unfold SetTable.runEnd;split<;>lia))
    exact E4.mpr this
   |succ n=>exact ju fuel _ _ h n (by lia)
theorem jy{mask:Nat}{ow:Array (Option Nat)}{j:Nat}:∀(fuel i p:Nat),SetTable.layClean.free mask ow fuel i p=some j->(ow.getD j (some 0)).isNone=true
 |0,i,p,h=>nomatch h
 |fuel+1,i,p,h=>by
  unfold SetTable.layClean.free at h;split at h
  ·rename_i k hf
   cases h
   have:=List.find?_some hf
   exact this
  ·exact jy fuel _ _ h
def OwOk(mask:Nat)(ow:Array (Option Nat))(k:Nat):Prop:=ow.size=mask+1/\(ow.toList.filterMap id).Perm (List.range k)
theorem l9:∀l:List (Option Nat),(∀x∈l,x.isNone=false)->(l.filterMap id).length=l.length
 | [],_=>rfl
 |x::l,h=>by
  have hx:=h x Jy;cases x with
  |none=>cases hx
  |some y=>
   rw[JP]
   show(y::l.filterMap id).length=_
   rw[JQ,JQ,l9 l fun z hz=>h z (JE _ hz)]
theorem OwOk.step{mask k:Nat}{ow:Array (Option Nat)}(hm:Qc (mask+1))(o:OwOk mask ow k)(hk:k<=mask)(h:Int):
  ∃j,SetTable.layClean.free mask ow (SetTable.turns mask) (SetTable.bits h%(mask+1)) (SetTable.bits h)=some j/\OwOk mask (ow.setIfInBounds j (some k)) (k+1):=by
 obtain⟨hs,hp⟩:=o;cases e:SetTable.layClean.free mask ow (SetTable.turns mask) (SetTable.bits h%(mask+1)) (SetTable.bits h)with
 |none=>
  exfalso
  have all:∀x∈ow.toList,x.isNone=false:=fun x hx=>by
   obtain⟨j,hj,rfl⟩:=List.mem_iff_getElem.mp hx;have hj':j<ow.size:=by rw[<- Jn];exact hj
   obtain⟨n,hn,en⟩:=By hm (show j<=mask by lia) h (SetTable.bits h%(mask+1))
   have:=ju _ _ _ e n hn
   rw[en]at this
   simpa [Array.getD,hj']using this
  have h1:(ow.toList.filterMap id).length=ow.toList.length:=l9 _ all
  have h2:(ow.toList.filterMap id).length=(List.range k).length:=hp.length_eq
  rw[List.length_range]at h2;rw[h2,Jn]at h1;lia
 |some j=>
  refine⟨j,rfl,by rw[Array.size_setIfInBounds];exact hs,?_⟩
  have hf:=jy _ _ _ e;have hj:j<ow.size:=by
   refine Nat.lt_of_not_le fun z=>?_
   rw[Array.getD,dif_neg (by lia)]at hf
   cases hf
  have hn:ow[j]=none:=by
   rw[Array.getD,dif_pos hj]at hf;exact Option.isNone_iff_eq_none.mp hf
  have hl:j<ow.toList.length:=by rw[Jn];exact hj
  have hn':ow.toList[j]=none:=by rw[Array.getElem_toList];exact hn
  rw[Array.toList_setIfInBounds];have e1:ow.toList=ow.toList.take j++none::ow.toList.drop (j+1):=by
   rw[<- hn',List.getElem_cons_drop,List.take_append_drop]
  have e2:ow.toList.set j (some k)=ow.toList.take j++some k::ow.toList.drop (j+1):=by rw[List.set_eq_take_append_cons_drop,Jc hl]
  rw[e2,List.filterMap_append,JP]
  show((ow.toList.take j).filterMap id++k::(ow.toList.drop (j+1)).filterMap id).Perm _
  rw[e1,List.filterMap_append,JP]at hp;have hp:((ow.toList.take j).filterMap id++(ow.toList.drop (j+1)).filterMap id).Perm (List.range k):=hp
  rw[List.range_succ];refine List.perm_middle.trans ?_
  exact(List.Perm.cons k hp).trans (List.perm_append_singleton k _).symm
theorem oC{mask:Nat}(hm:Qc (mask+1)):∀(hs:List Int) (ow:Array (Option Nat)) (k:Nat),OwOk mask ow k->k+hs.length<=mask+1->
  ∃ow',hs.foldl (fun(acc:Option (Array (Option Nat)×Nat)) (h:Int)=>do
   let(owner,k) <- acc
   let j <- SetTable.layClean.free mask owner (SetTable.turns mask) (SetTable.bits h%(mask+1)) (SetTable.bits h)
   pure (owner.setIfInBounds j (some k),k+1)) (some (ow,k))=some (ow',k+hs.length)/\OwOk mask ow' (k+hs.length)
 | [],ow,k,o,_=>⟨ow,rfl,o⟩
 |h::hs,ow,k,o,hl=>by
  rw[JQ]at hl;obtain⟨j,ej,oj⟩:=o.step hm (by lia) h
  obtain⟨ow',e',o'⟩:=oC hm hs _ _ oj (by lia)
  refine⟨ow',?_,by rw[JQ,show k+(hs.length+1)=k+1+hs.length by lia];exact o'⟩
  rw[List.foldl_cons,JQ,show k+(hs.length+1)=k+1+hs.length by lia,<- e']
  congr 1
  show(do
   let j <- SetTable.layClean.free mask ow (SetTable.turns mask) (SetTable.bits h%(mask+1)) (SetTable.bits h)
   pure (ow.setIfInBounds j (some k),k+1))=some (ow.setIfInBounds j (some k),k+1)
  rw[ej];rfl
theorem mY(n:Nat):((List.replicate n (none:Option Nat)).filterMap id)=[]:=by
 induction n with
 |zero=>rfl
 |succ n ih=>rw[EU,JP];exact ih
theorem mU{mask:Nat}(hm:Qc (mask+1)){hs:Array Int}(hn:hs.size<=mask+1):∃ow,SetTable.layClean mask hs=some ow/\OwOk mask ow hs.size:=by
 have o0:OwOk mask (Array.replicate (mask+1) none) 0:=⟨Array.size_replicate,by rw[Array.toList_replicate,mY];exact List.Perm.refl _⟩
 obtain⟨ow,e,o⟩:=oC hm hs.toList _ 0 o0 (by rw[Jn];lia)
 rw[Nat.zero_add,Jn]at e o;refine⟨ow,?_,o⟩
 unfold SetTable.layClean;rw[<- Array.foldl_toList];exact JX (Option.map (·.1)) e
theorem fM(f:Nat->Option Nat):∀l:List Nat,(l.filterMap fun j=>(f j).map (j,·)).map (·.2)=l.filterMap f
 | []=>rfl
 |j::l=>by
  rw[JP,JP];cases e:f j with
  |none=>simpa using fM f l
  |some k=>simpa using fM f l
theorem pE(ow:Array (Option Nat)):(List.range ow.size).filterMap (fun j=>ow.getD j none)=ow.toList.filterMap id:=by
 have e:(List.range ow.size).map (fun j=>ow.getD j none)=ow.toList:=by
  refine List.ext_getElem (by rw[Je,List.length_range,Jn]) fun i h1 h2=>?_
  have hi:i<ow.size:=by rw[Jn]at h2;exact h2
  simp [Array.getD,hi]
 rw[<- e,List.filterMap_map];rfl
theorem jB{mask fg mv:Nat}{led plain:Bool}{hs:Array Int}(hm:Qc (mask+1))(hn:hs.size<=mask):
  ∃t o,SetTable.laid mask fg mv led plain hs=some (t,o)/\t.fits hs.size=true/\o.toList.Perm (List.range hs.size)/\Rs t.place/\t.dummies= #[]/\t.led=led/\t.plain=plain/\t.mask=mask:=by
 obtain⟨ow,e,hs1,hp⟩:=mU (hs:=hs) hm (by lia)
 have el:SetTable.laid mask fg mv led plain hs=some ({mask,place:=(((List.range (mask+1)).filterMap fun j=>(ow.getD j none).map (j,·)).map (·.1)).toArray,dummies:= #[],finger:=fg,led,moves:=mv,plain},(((List.range (mask+1)).filterMap fun j=>(ow.getD j none).map (j,·)).map (·.2)).toArray):=by
  unfold SetTable.laid;rw[e];rfl
 obtain⟨h1,h2,h3⟩:=nM el;have e2:((List.range (mask+1)).filterMap fun j=>(ow.getD j none).map (j,·)).map (·.2)=ow.toList.filterMap id:=by
  rw[fM,<- hs1];exact pE ow
 have len:((List.range (mask+1)).filterMap fun j=>(ow.getD j none).map (j,·)).length=hs.size:=by
  have:=JX List.length e2
  rw[Je,hp.length_eq,List.length_range]at this;exact this
 refine⟨_,_,el,?_,?_,h1,h2,h3,rfl,rfl⟩
 ·unfold SetTable.fits SetTable.fill
  dsimp only
  rw[Js,Je,len];simp [hn]
 ·dsimp only
  rw[e2];exact hp
theorem nq(a:Δ)(wanted:Nat):setRelay a wanted=(do
 let(es,_,t) <- setState a
 if SetTable.sizeAbove wanted>ζ then unsupported "set:memory"
 let(es,t) <- (do
  let some (t,order):=t.relaid (es.map (·.1)) wanted|unsupported "internal:set-table-without-room"
  let es':=order.filterMap (es[·]?)
  if es'.size != es.size then unsupported "internal:set-table-lost-an-element"
  pure (es',t):Sem (Array (Int×Γ)×SetTable))
 storeSet a es t):=rfl
theorem fF(s o:Δ)(each:Sem Unit):setMerge s o each=(do
 if s==o then return
 let(eo,epoch,to) <- setState o
 if eo.isEmpty then return
 setRoomFor s eo.size
 let(_,_,ts) <- setState s
 match ts.road to with
 | .slotForSlot=>storeSet s eo {to with finger:=ts.finger,led:=ts.led&&to.led,moves:=ts.moves,plain:=ts.plain&&to.plain}
 | .clean=>
  let(es,t) <- (do
   let some (t,order):=SetTable.laid ts.mask ts.finger ts.moves (led:=ts.led&&to.led) (plain:=ts.plain&&to.plain) (eo.map (·.1))|unsupported "internal:set-table-without-room"
   let es':=order.filterMap (eo[·]?)
   if es'.size != eo.size then unsupported "internal:set-table-lost-an-element"
   pure (es',t):Sem (Array (Int×Γ)×SetTable))
  storeSet s es t
 | .oneByOne=>
  for (h,x)in <- setWalkUnseen o [s] (some s) do
   let _ <- holding [x] (setAddHashed s x h)
   each
   if(<- setState o).2.1 != epoch then unsupported "set.changed-during-merge"):=rfl
theorem gG{α:Type}{es:Array α}{o:Array Nat}(h:o.toList.Perm (List.range es.size)):(o.filterMap (es[·]?)).toList.Perm es.toList:=by
 rw[Array.toList_filterMap];refine(h.filterMap _).trans ?_
 have e:(List.range es.size).filterMap (es[·]?)=es.toList:=by
  have e1:(List.range es.size).map (es[·]?)=es.toList.map some:=by
   refine List.ext_getElem (by simp) fun i h1 h2=>?_
   have hi:i<es.size:=by simpa using h2
   simp [hi]
  have:(List.range es.size).filterMap (es[·]?)=((List.range es.size).map (es[·]?)).filterMap id:=by rw[List.filterMap_map];rfl
  rw[this,e1,List.filterMap_map];exact List.filterMap_some
 rw[e]
section
variable{prog:Ξ}{w:Ω}{K:Type} [DecidableEq K]{knd:PySem.KeyKind prog w K}{kf:Γ->K}
variable{A:Around}{E:FS}{s:Θ}
theorem nZ{a:Δ}{o:Obj}{es:Array (Int×Γ)}{ep:Nat}{t:SetTable}{wn:Nat}{Q:Unit->Θ->Prop}(ho:s.heap.get? a=some o)(hd:o.data= .set es ep t)(hf:t.fits es.size=true)(hw:wn<256)(hn:es.size<=wn)
  (h:∀es' t',es'.toList.Perm es.toList->t'.fits es'.size=true->Rs t'.place->t'.dummies= #[]->t'.led=t.led->t'.plain=t.plain->Qc (t'.mask+1)->wn<=t'.mask->Q () {s with heap:=s.heap.update a (Obj.putSet es' t')}):
  ε (model prog w) A (setRelay a wn) Q E s:=by
 obtain⟨p1,p2,p3⟩:=vN hw;rw[nq];refine Ja (wpAny_setState_of ho hd hf ?_)
 dsimp only
 have hsl:¬SetTable.sizeAbove wn>ζ:=by rw[JK];lia
 rw[Jb hsl];have hm:SetTable.sizeAbove wn-1+1=SetTable.sizeAbove wn:=by lia
 obtain⟨t',or,el,q1,q2,q3,q4,q5,q6,q7⟩:=jB (mask:=SetTable.sizeAbove wn-1) (fg:=t.finger) (mv:=t.movedTo (SetTable.sizeAbove wn-1)) (led:=t.led) (plain:=t.plain) (hs:=es.map (·.1)) (by rw[hm];exact p1) (by rw[Array.size_map];lia)
 have el:t.relaid (es.map (·.1)) wn=some (t',or):=el
 rw[Array.size_map]at q1 q2;have hp:=gG (es:=es) q2
 have hsz:(or.filterMap (es[·]?)).size=es.size:=by rw[<- Jn,hp.length_eq,Jn]
 have hbn:es.size<=ζ:=by rw[JK];lia
 refine Ja ?_
 rw[el]
 dsimp only
 rw[hsz];simp only[bne_self_eq_false,Bool.false_eq_true,JD];exact Jd (wpAny_storeSet_of ho hd (h _ _ hp (by rw[hsz];exact q1) q3 q4 q5 q6 (by rw[q7,hm];exact p1) (by rw[q7];lia)) (by rw[hsz];exact hbn))
def FrK(w:Ω)(h:Ψ)(a:Δ)(n:Nat):Prop:=∃o ep t,h.get? a=some o/\o.ExactSet/\o.data= .set #[] ep t/\t.fits 0=true/\t.dummies= #[]/\Qc (t.mask+1)/\n<=t.mask/\TW w t
theorem FrK.k{h:Ψ}{a:Δ}{n:Nat}(x:FrK w h a n):SetK knd kf h a []:=by
 obtain⟨o,ep,t,h1,h2,h3,h4,h5,h6,h7,h8⟩:=x
 exact⟨o,#[],ep,t,h1,h2,h3,h4,by decide,(fun e he=>nomatch he),List.Perm.refl _,h8⟩
theorem yS{a:Δ}{n:Nat}{Q:Unit->Θ->Prop}(hF:FrK w s.heap a 0)(hn:n<=100)(h:∀h',Ψ.SameBut a s.heap h'->FrK w h' a n->Q () {s with heap:=h'}):ε (model prog w) A (setRoomFor a n) Q E s:=by
 obtain⟨o,ep,t,h1,h2,h3,h4,h5,h6,h7,h8⟩:=hF;unfold setRoomFor;refine Ja (wpAny_setState_of h1 h3 h4 ?_)
 dsimp only
 have hp0:t.place.size=0:=by
  unfold SetTable.fits at h4;rw[Jt,J4]at h4;exact h4.1
 have hfill:t.fill=0:=by unfold SetTable.fill;rw[hp0,h5];rfl
 unfold SetTable.roomFor;rw[hfill,hp0]
 by_cases c:(0+n)*5 ≥ t.mask*3
 ·rw[Jc c]
  dsimp only
  refine nZ h1 h3 h4 (by lia) (Jz _) fun es' t' e1 e2 e3 e4 e5 e6 e7 e8=>?_
  have e0:es'= #[]:=by
   have:=e1.length_eq
   rw[Jn]at this;exact Array.eq_empty_of_size_eq_zero this
  subst e0;refine h _ (J9 s.heap a _) ⟨_,_,t',Zf h1 h3 #[] t',h2,rfl,e2,e4,e7,by lia,?_⟩
  rcases h8 with z|⟨z1,z2⟩
  ·exact .inl z
  ·exact .inr ⟨e5.trans z1,fun _=>e3⟩
 ·rw[Jb c]
  exact Jd (h s.heap (Ψ.SameBut.refl a s.heap) ⟨o,ep,t,h1,h2,h3,h4,h5,h6,by lia,h8⟩)
theorem TW.both{t u:SetTable}{fg mv:Nat}(a:TW w t)(b:TW w u)(hp:u.dummies= #[]):TW w {u with finger:=fg,led:=t.led&&u.led,moves:=mv,plain:=t.plain&&u.plain}:=by
 rcases a with z|⟨z1,z2⟩
 ·exact .inl z
 ·rcases b with y|⟨y1,y2⟩
  ·exact .inl y
  ·refine .inr ⟨by show(t.led&&u.led)=true;rw[z1,y1];rfl,fun h=>?_⟩
   have h:(t.plain&&u.plain)=true:=h
   rw[Jt]at h;exact y2 h.2
theorem gk{a b:Δ}{kb:List K}{each:Sem Unit}{Q:Unit->Θ->Prop}(nab:a≠b)(hF:FrK w s.heap a 0)(hB:SetK knd kf s.heap b kb)(lb:kb.length<=100)
  (h:∀h',Ψ.SameBut a s.heap h'->SetK knd kf h' a kb->(kb=[]->FrK w h' a 0)->Q () {s with heap:=h'}):ε (model prog w) A (setMerge a b each) Q E s:=by
 obtain⟨ob,eb,epb,tb,b1,b2,b3,b4,b5,b6,b7,b8⟩:=id hB;have esz:eb.size=kb.length:=by rw[<- b7.length_eq,Je,Jn]
 rw[fF];have hne:(a==b)=false:=by rw[Ew];exact nab
 rw[hne];simp only[Bool.false_eq_true,JD];refine Ja (wpAny_setState_of b1 b3 b4 ?_)
 dsimp only
 by_cases c:eb.isEmpty=true
 ·rw[Jc c]
  have e0:kb=[]:=by
   rw[Array.isEmpty_iff_size_eq_zero,esz]at c;exact List.eq_nil_of_length_eq_zero c
  subst e0;exact Jd (h s.heap (Ψ.SameBut.refl a s.heap) hF.k fun _=>hF)
 ·rw[Jb c]
  refine Ja (yS hF (by lia) fun h1 sb1 hF1=>?_)
  obtain⟨o,ep,t,q1,q2,q3,q4,q5,q6,q7,q8⟩:=id hF1;refine Ja (wpAny_setState_of (s:={s with heap:=h1}) q1 q3 q4 ?_)
  dsimp only
  have hp0:t.place.size=0:=by
   unfold SetTable.fits at q4;rw[Jt,J4]at q4;exact q4.1
  have hfill:t.fill=0:=by unfold SetTable.fill;rw[hp0,q5];rfl
  have kne:kb≠[]:=fun z=>c (by rw[Array.isEmpty_iff_size_eq_zero,esz,z];rfl)
  have hbs:eb.size<=ζ:=fits_of_scanBound b5
  have er:t.road tb=if t.mask==tb.mask&&tb.dummies.isEmpty then .slotForSlot else .clean:=by
   unfold SetTable.road;rw[hfill];rfl
  rw[er]
  by_cases c2:(t.mask==tb.mask&&tb.dummies.isEmpty)=true
  ·rw[Jc c2]
   rw[Jt,Array.isEmpty_iff]at c2;refine wpAny_storeSet_of (s:={s with heap:=h1}) q1 q3 ?_ hbs
   refine h _ (sb1.trans (J9 h1 a _)) ⟨_,eb,_,_,Zf q1 q3 eb _,q2,rfl,?_,b5,b6,b7,TW.both q8 b8 c2.2⟩ fun z=>absurd z kne
   exact b4
  ·rw[Jb c2]
   obtain⟨t',or,el,r1,r2,r3,r4,r5,r6,r7⟩:=jB (mask:=t.mask) (fg:=t.finger) (mv:=t.moves) (led:=t.led&&tb.led) (plain:=t.plain&&tb.plain) (hs:=eb.map (·.1)) q6 (by rw[Array.size_map];exact q7)
   rw[Array.size_map]at r1 r2;have hp:=gG (es:=eb) r2
   have hsz:(or.filterMap (eb[·]?)).size=eb.size:=by rw[<- Jn,hp.length_eq,Jn]
   dsimp only
   refine Ja ?_
   rw[el]
   dsimp only
   rw[hsz];simp only[bne_self_eq_false,Bool.false_eq_true,JD];refine Jd (wpAny_storeSet_of (s:={s with heap:=h1}) q1 q3 ?_ (by rw[hsz];exact hbs))
   refine h _ (sb1.trans (J9 h1 a _)) ⟨_,_,_,t',Zf q1 q3 _ t',q2,rfl,by rw[hsz];exact r1,by rw[hsz];exact b5,b6.perm hp,(hp.map _).trans b7,?_⟩ fun z=>absurd z kne
   rcases q8 with z|⟨z1,z2⟩
   ·exact .inl z
   ·rcases b8 with y|⟨y1,y2⟩
    ·exact .inl y
    ·exact .inr ⟨by rw[r5,z1,y1];rfl,fun _=>r3⟩
end
section
variable{prog:Ξ}{w:Ω}{K:Type} [DecidableEq K]{knd:PySem.KeyKind prog w K}{kf:Γ->K}
variable{A:Around}{E:FS}{s:Θ}
theorem B0{a:Δ}{n:Nat}{ks:List K}{Q:Unit->Θ->Prop}(hS:SetK knd kf s.heap a ks)(hn:ks.length+n<=100)(h:∀h',Ψ.SameBut a s.heap h'->SetK knd kf h' a ks->Q () {s with heap:=h'}):ε (model prog w) A (setRoomFor a n) Q E s:=by
 obtain⟨o,es,ep,t,h1,h2,h3,h4,h5,h6,h7,h8⟩:=id hS;have esz:es.size=ks.length:=by rw[<- h7.length_eq,Je,Jn]
 unfold setRoomFor;refine Ja (wpAny_setState_of h1 h3 h4 ?_)
 dsimp only
 have hp0:t.place.size=es.size:=by
  unfold SetTable.fits at h4;rw[Jt,J4]at h4;exact h4.1
 unfold SetTable.roomFor;rw[hp0]
 by_cases c:(t.fill+n)*5 ≥ t.mask*3
 ·rw[Jc c]
  dsimp only
  refine nZ h1 h3 h4 (by lia) (by lia) fun es' t' e1 e2 e3 e4 e5 e6 e7 e8=>?_
  have sz:es'.size=es.size:=by rw[<- Jn,e1.length_eq,Jn]
  refine h _ (J9 s.heap a _) ⟨_,es',_,t',Zf h1 h3 es' t',h2,rfl,e2,by rw[sz];exact h5,h6.perm e1,(e1.map _).trans h7,?_⟩
  rcases h8 with z|⟨z1,z2⟩
  ·exact .inl z
  ·exact .inr ⟨e5.trans z1,fun _=>e3⟩
 ·rw[Jb c]
  exact Jd (h s.heap (Ψ.SameBut.refl a s.heap) hS)
theorem n3{a r:Δ}{o:Obj}{es:Array (Int×Γ)}{ep:Nat}{t:SetTable}{kr:List K}{Q:Array (Int×Γ)->Θ->Prop}(ho:s.heap.get? a=some o)(hex:o.ExactSet)(hd:o.data= .set es ep t)(hf:t.fits es.size=true)(hb:es.size<scanBound)(hel:ElemsOf knd es.toList)(tw:TW w t)
  (hR:SetK knd kf s.heap r kr)
  (h:∀arr h',arr.toList.Perm es.toList->Ψ.SameBut r s.heap h'->SetK knd kf h' r kr->Q arr {s with heap:=h'}):ε (model prog w) A (setWalkUnseen a [r] (some r)) Q E s:=by
 have same:∀arr,arr.toList.Perm es.toList->Q arr s:=fun arr p=>h arr s.heap p (Ψ.SameBut.refl r s.heap) hR
 have vt:(zt w||(t.led&&t.plain)||decide (es.size<=1))=true->ε (model prog w) A (setWalk a) Q E s:=fun c=>by
  rw[rQ];refine Ja (wpAny_setState_of ho hd hf ?_)
  dsimp only
  refine Ja (QF ?_)
  cases hbt:zt w with
  |true=>
   rw[Jc rfl];exact Ja (wpAny_askSetting (Jd (same _ (jp _ es))))
  |false=>
   rw[Jb (by decide)]
   rw[hbt]at c;have hl:t.led=true:=by
    rcases tw with z|⟨z1,_⟩
    ·rw[hbt]at z;cases z
    ·exact z1
   have hdr:(!t.plain&&decide (es.size>1))=false:=by
    rw[hl]at c;cases hp:t.plain with
    |true=>rfl
    |false=>rw[hp]at c;simp at c;simp;lia
   rw[hdr];simp only[Bool.false_eq_true,JD,hl,Bool.not_true,DS];exact Ja (Jd (Jd (same _ (List.Perm.refl _))))
 unfold setWalkUnseen;refine Ja (wpAny_setState_of ho hd hf ?_)
 dsimp only
 refine Ja (QF ?_)
 by_cases c:(zt w||(t.led&&t.plain)||decide (es.size<=1))=true
 ·rw[Jc c]
  exact vt c
 ·rw[Jb c]
  have hbt:zt w=false:=by
   cases e:zt w with
   |true=>rw[e]at c;simp at c
   |false=>rfl
  have hl:t.led=true:=by
   rcases tw with z|⟨z1,_⟩
   ·rw[hbt]at z;cases z
   ·exact z1
  refine Ja (Ah (knd:=knd) (kf:=kf) (fun x hx=>?_) ?_)
  ·simp only[Jl,Jx,JA]at hx
   rcases hx with rfl|rfl
   ·exact⟨_,o,es,ep,t,ho,hex,hd,hf,hb,hel,List.Perm.refl _,tw⟩
   ·exact⟨_,hR⟩
  ·simp only[Bool.not_true,Bool.false_eq_true,JD]
   refine Ja (DR ?_)
   obtain⟨o2,es2,ep2,t2,ho2,hex2,hd2,hf2,hb2,hel2,hpm2,tw2⟩:=hR;refine Ja (wpAny_setState_of ho2 hd2 hf2 ?_)
   dsimp only
   by_cases c2:((t2.led&& !t.led)||(t2.plain&& !t.plain))=true
   ·rw[Jc c2]
    refine Ja (wpAny_storeSet_of ho2 hd2 (Jd ?_) (fits_of_scanBound hb2))
    refine h _ _ (List.Perm.refl _) (J9 s.heap r _) ⟨_,es2,_,_,Zf ho2 hd2 es2 _,hex2,rfl,hf2,hb2,hel2,hpm2,?_⟩
    rcases tw2 with z|⟨z1,z2⟩
    ·exact .inl z
    ·refine .inr ⟨by show(t2.led&&t.led)=true;rw[z1,hl];rfl,fun z=>?_⟩
     have z:(t2.plain&&t.plain)=true:=z
     rw[Jt]at z;exact z2 z.1
   ·rw[Jb c2]
    exact Jd (same _ (List.Perm.refl _))
theorem wb(hkf:∀k v,knd.is k v=true->kf v=k){a b:Δ}(nab:b≠a){o:Obj}{es:Array (Int×Γ)}{ep:Nat}{t:SetTable}{ka:List K}{each:Sem Unit}{Q:PUnit->Θ->Prop}(hd:o.data= .set es ep t)(hf:t.fits es.size=true)(arr:Array (Int×Γ))(harr:ElemsOf knd arr.toList)(hn:ka.length+arr.size+1<scanBound)
  (heach:∀(s':Θ) (Q':Unit->Θ->Prop),s'.heap.get? b=some o->Q' () s'->ε (model prog w) A each Q' E s')
  (ho:s.heap.get? b=some o)(hS:SetK knd kf s.heap a ka)(nd:ka.Nodup)
  (h:∀h' ks,Ψ.SameBut a s.heap h'->SetK knd kf h' a ks->ks.Nodup->(∀k,k∈ks↔k∈ka\/k∈(arr.toList.map fun e=>kf e.2))->Q ⟨⟩ {s with heap:=h'}):
  ε (model prog w) A (forIn arr PUnit.unit fun x _=>do
   let _ <- holding [x.2] (setAddHashed a x.2 x.1)
   each
   if(<- setState b).2.1 != ep then do
    unsupported "set.changed-during-merge"
    pure (ForInStep.yield PUnit.unit)
   else pure (ForInStep.yield PUnit.unit)) Q E s:=by
 obtain⟨hp,g,dr,tk,os⟩:=s;refine PySem.MeetsSeq2.wpAny_forIn_array _ (fun rest _ s'=>∃h' done ks,s'=⟨h',g,dr,tk,os⟩/\arr.toList=done++rest/\Ψ.SameBut a hp h'/\SetK knd kf h' a ks/\ks.Nodup/\(∀k,k∈ks↔k∈ka\/k∈(done.map fun e=>kf e.2))/\ks.length<=ka.length+done.length) _ ?_ ?_ arr _ ⟨hp,[],ka,rfl,rfl,Ψ.SameBut.refl a hp,hS,nd,fun k=>by simp,Jf _⟩
 ·rintro⟨hh,x⟩ rest _ s' ⟨h',done,ks,rfl,e,sb,hR',nd,mem,len⟩
  have hx:(hh,x)∈arr.toList:=by rw[e];exact J8 _ Jy
  obtain⟨⟨k,hk,hhash⟩,hsc⟩:=harr _ hx
  dsimp only at hk hhash hsc⊢
  subst hhash;have hdl:done.length+1<=arr.size:=by
   have:=JX List.length e
   rw[Jn,Jw,JQ]at this;lia
  have kx:kf x=k:=hkf k x hk
  refine Ja (JM (pB (s:=⟨h',g,dr,tk,os⟩) hkf hk hsc hR' (by lia) fun h2 sb2 hR2=>?_))
  have ho2:h2.get? b=some o:=by rw[sb2.2 b nab,sb.2 b nab];exact ho
  refine Ja (heach _ _ ho2 (Ja (wpAny_setState_of (s:=⟨h2,g,dr,tk,os⟩) ho2 hd hf ?_)))
  simp only[bne_self_eq_false,Bool.false_eq_true,JD];refine Jd ⟨h2,done++[(knd.hash k,x)],_,rfl,by rw[e,Ee];rfl,sb.trans sb2,hR2,?_,fun k'=>?_,?_⟩
  ·split
   ·exact nd
   ·rename_i hnk
    rw[E3]
    exact⟨nd,by simp,fun x1 hx1 y1 hy1 e1=>hnk (by rw[Jj.mp hy1]at e1;rw[<- e1];exact hx1)⟩
  ·rw[JW,JC]
   show _↔_\/_\/k'∈[kf x]
   rw[kx,Jj];split
   ·rename_i hik
    rw[mem];constructor
    ·rintro(h1|h1)
     ·exact .inl h1
     ·exact .inr (.inl h1)
    ·rintro(h1|h1|rfl)
     ·exact .inl h1
     ·exact .inr h1
     ·exact(mem k').mp hik
   ·rw[JC,mem,Jj,or_assoc]
  ·rw[Jw,Ef]
   split
   ·lia
   ·rw[Jw,Ef];lia
 ·rintro _ s' ⟨h',done,ks,rfl,e,sb,hR',nd,mem,len⟩
  rw[DV]at e;refine h h' ks sb hR' nd (by rw[e];exact mem)
theorem yN(hkf:∀k v,knd.is k v=true->kf v=k){a b:Δ}{ka kb:List K}{each:Sem Unit}{Q:Unit->Θ->Prop}(nab:a≠b)(hA:SetK knd kf s.heap a ka)(hB:SetK knd kf s.heap b kb)(ne:ka≠[])(nd:ka.Nodup)(la:ka.length+kb.length<=100)
  (heach:∀(s':Θ) (Q':Unit->Θ->Prop),(∀o,s.heap.get? b=some o->s'.heap.get? b=some o)->Q' () s'->ε (model prog w) A each Q' E s')
  (h:∀h' ks,Ψ.SameBut a s.heap h'->SetK knd kf h' a ks->ks.Nodup->(∀k,k∈ks↔k∈ka\/k∈kb)->Q () {s with heap:=h'}):ε (model prog w) A (setMerge a b each) Q E s:=by
 obtain⟨ob,eb,epb,tb,b1,b2,b3,b4,b5,b6,b7,b8⟩:=id hB;have esz:eb.size=kb.length:=by rw[<- b7.length_eq,Je,Jn]
 rw[fF];have hne:(a==b)=false:=by rw[Ew];exact nab
 rw[hne];simp only[Bool.false_eq_true,JD];refine Ja (wpAny_setState_of b1 b3 b4 ?_)
 dsimp only
 by_cases c:eb.isEmpty=true
 ·rw[Jc c]
  have e0:kb=[]:=by
   rw[Array.isEmpty_iff_size_eq_zero,esz]at c;exact List.eq_nil_of_length_eq_zero c
  subst e0;exact Jd (h s.heap ka (Ψ.SameBut.refl a s.heap) hA nd fun k=>by simp)
 ·rw[Jb c]
  refine Ja (B0 hA (by lia) fun h1 sb1 hA1=>?_)
  obtain⟨o,ea,ep,t,q1,q2,q3,q4,q5,q6,q7,q8⟩:=id hA1;refine Ja (wpAny_setState_of (s:={s with heap:=h1}) q1 q3 q4 ?_)
  dsimp only
  have hp0:t.place.size=ea.size:=by
   unfold SetTable.fits at q4;rw[Jt,J4]at q4;exact q4.1
  have hea:ea.size=ka.length:=by rw[<- q7.length_eq,Je,Jn]
  have hka:ka.length≠0:=fun z=>ne (List.eq_nil_of_length_eq_zero z)
  have er:t.road tb= .oneByOne:=by
   unfold SetTable.road SetTable.fill;rw[Jc];rw[bne_iff_ne];lia
  rw[er]
  dsimp only
  have ho1:h1.get? b=some ob:=by rw[sb1.2 b nab.symm];exact b1
  refine Ja (n3 (s:={s with heap:=h1}) (a:=b) (r:=a) ho1 b2 b3 b4 b5 b6 b8 hA1 fun arr h2 hp sb2 hA2=>?_)
  have asz:arr.size=eb.size:=by rw[<- Jn,hp.length_eq,Jn]
  have ho2:h2.get? b=some ob:=by rw[sb2.2 b nab.symm];exact ho1
  have e4:scanBound=4096:=rfl
  refine Ja (wb (s:={s with heap:=h2}) hkf nab.symm b3 b4 arr (b6.perm hp) (by lia) (fun s' Q' z hq=>heach s' Q' (fun o z2=>?_) hq) ho2 hA2 nd fun h3 ks sb3 hA3 nd3 mem3=>Jd ?_)
  ·rw[b1]at z2;cases z2;exact z
  ·refine h h3 ks ((sb1.trans sb2).trans sb3) hA3 nd3 fun k=>?_
   rw[mem3,(hp.map fun e=>kf e.2).mem_iff,b7.mem_iff]
theorem kZ:entryFor table "set.__or__"=some γ.«frozenset.__or__»:=
 entryFor_alias (id':="frozenset.__or__") (by kernel_rfl) rfl (by decide +kernel) (by kernel_rfl)
theorem CQ(x y:Γ):γ.«frozenset.__or__» ⟨[x,y],[]⟩=(do
 if !(<- γ.Frozenset.isAnySet x <&&> γ.Frozenset.isAnySet y)then
  rule s!"frozenset.{"__or__"}.declined"
  return <- ret .notImplemented
 ret (<- (fun(id:String) (l:Δ) (r:Γ)=>(do
  let result <- γ.Frozenset.copyOf l
  if r != .ref l then holding [result] (γ.Frozenset.updateFrom id (<- γ.Frozenset.addrOf result) r)
  return result:Sem Γ)) s!"frozenset.{"__or__"}" (<- γ.Frozenset.addrOf x) y)):=rfl
theorem rV{h:Ψ}{a:Δ}(ha:h.get? a=some (Qf (!zt w))):FrK w h a 0:=by
 refine⟨_,0,_,ha,⟨rfl,rfl,rfl⟩,rfl,rfl,rfl,tL,Jz _,?_⟩
 cases hb:zt w with
 |true=>exact .inl hb
 |false=>exact .inr ⟨rfl,fun _=>List.Pairwise.nil⟩
theorem Dl(hkf:∀k v,knd.is k v=true->kf v=k){a b:Δ}{ka kb:List K}{Q:FS}(nab:a≠b)(hA:SetK knd kf s.heap a ka)(hB:SetK knd kf s.heap b kb)(na:ka.Nodup)(nb:kb.Nodup)(la:ka.length+kb.length<=100)
  (h:∀h' ks,(∀c o,s.heap.get? c=some o->h'.get? c=some o)->SetK knd kf h' s.heap.objs.size ks->ks.Nodup->(∀k,k∈ks↔k∈ka\/k∈kb)->Q (.ref s.heap.objs.size) {s with heap:=h'}):
  ε (model prog w) A (binaryOp .BitOr (.ref a) (.ref b)) Q E s:=by
 have hTa:=hA.type (h:=s.heap)
 have hTb:=hB.type (h:=s.heap)
 refine wpAny_binaryOp_same (op:= .BitOr) (T:="set") hTa hTb PySem.F.fills_set_or PySem.F.slot_set_or (JZ PySem.F.slot_set_or hTa kZ ?_ (PySem.F.args_set_or_2 _ _))
 rw[CQ];refine Ja (Ja (ZA hTa ?_))
 show ε _ _ (γ.Frozenset.isAnySet (Γ.ref b)) _ _ _
 refine ZA hTb ?_
 simp only[Bool.not_true,Bool.false_eq_true,JD];refine Ja (Jd (Ja ?_))
 unfold γ.Frozenset.copyOf γ.Frozenset.baseOf;refine Ja (Ja (Ja (ED hTa sub_set_self (Jd ?_))))
 rw[Jc rfl];refine Ja (ki ?_)
 refine Ja (Jd ?_)
 have hr:(s.heap.push (Qf (!zt w))).get? s.heap.objs.size=some (Qf (!zt w)):=Jp _ rfl
 have old:∀c o,s.heap.get? c=some o->(s.heap.push (Qf (!zt w))).get? c=some o:=fun c o e=>Jh _ e
 have hA1:SetK knd kf (s.heap.push (Qf (!zt w))) a ka:=hA.at (old a)
 have hB1:SetK knd kf (s.heap.push (Qf (!zt w))) b kb:=hB.at (old b)
 have lta:=hA.lt;have ltb:=hB.lt;have na':s.heap.objs.size≠a:=(Jo lta).symm
 have nb':s.heap.objs.size≠b:=(Jo ltb).symm
 refine Ja (gk (s:={s with heap:=s.heap.push (Qf (!zt w))}) na' (rV hr) hA1 (by lia) fun h1 sb1 hR1 hfr=>Jd ?_)
 have hne:((Γ.ref b:Γ) != Γ.ref a)=true:=by
  rw[bne_iff_ne];intro e;cases e;exact nab rfl
 rw[Jc hne];have hB2:SetK knd kf h1 b kb:=hB1.at fun o1 e1=>by rw[sb1.2 b nb'.symm];exact e1
 have hTb2:Θ.TypeIs {s with heap:=h1} (.ref b) "set":=hB2.type (s:={s with heap:=h1}) (h:=s.heap)
 refine Ja (Jd (Ja (JM ?_)))
 unfold γ.Frozenset.updateFrom;refine Ja (ZA hTb2 ?_)
 rw[Jc rfl];refine Ja (Ja (Jd (Jd ?_)))
 unfold γ.Frozenset.merge;obtain⟨ob,eb,epb,tb,b1,b2,b3,b4,_⟩:=id hB2;refine Ja (wpAny_setEpoch_of (s:={s with heap:=h1}) b1 b3 b4 ?_)
 have fin:∀h2 ks,Ψ.SameBut s.heap.objs.size h1 h2->SetK knd kf h2 s.heap.objs.size ks->ks.Nodup->(∀k,k∈ks↔k∈ka\/k∈kb)->Q (.ref s.heap.objs.size) {s with heap:=h2}:=fun h2 ks sb2 hk nd mem=>by
  refine h h2 ks (fun c o e=>?_) hk nd mem
  have nc:c≠s.heap.objs.size:=Jo (Ji e)
  rw[sb2.2 c nc,sb1.2 c nc];exact old c o e
 by_cases ce:ka=[]
 ·subst ce
  refine gk (s:={s with heap:=h1}) nb' (hfr rfl) hB2 (by lia) fun h2 sb2 hR2 _=>?_
  exact Jd (Jd ⟨_,rfl,(fun e=>nomatch e),fin h2 kb sb2 hR2 nb fun k=>by simp⟩)
 ·refine yN (s:={s with heap:=h1}) hkf nb' hR1 hB2 ce na la (fun s' Q' z hq=>?_) fun h2 ks sb2 hR2 nd mem=>?_
  ·unfold γ.Frozenset.unchanged
   refine Ja (wpAny_setEpoch_of (s:=s') (z _ b1) b3 b4 ?_)
   simp only[bne_self_eq_false,Bool.false_eq_true,JD];exact Jd hq
  ·exact Jd (Jd ⟨_,rfl,(fun e=>nomatch e),fin h2 ks sb2 hR2 nd mem⟩)
end
theorem cn{α:Type}(xs:Array α)(i:Nat):(SetTable.eraseAt xs i).toList=xs.toList.eraseIdx i:=by
 unfold SetTable.eraseAt;rw[Array.toList_append,Array.toList_extract,Array.toList_extract,List.eraseIdx_eq_take_drop_succ];congr 1
 simp
 exact List.take_of_length_le (by simp)
theorem mN{α:Type}{l:List α}{j:Nat}(hj:j<l.length):(l[j]::l.eraseIdx j).Perm l:=by
 rw[List.eraseIdx_eq_take_drop_succ];refine List.perm_middle.symm.trans ?_
 rw[List.getElem_cons_drop,List.take_append_drop]
theorem Rs.erase{xs:Array Nat}(h:Rs xs)(i:Nat):Rs (SetTable.eraseAt xs i):=by
 unfold Rs;rw[cn];exact List.Pairwise.sublist (List.eraseIdx_sublist _ _) h
theorem Aj{t:SetTable}{n i:Nat}(hf:t.fits n=true)(hi:i<n):(t.drop i).fits (n-1)=true/\(TOk t->TOk (t.drop i))/\(t.drop i).led=t.led:=by
 unfold SetTable.fits at hf;rw[Jt,J4,decide_eq_true_eq]at hf;have hp:i<t.place.size:=by lia
 have e:t.place[i]? =some t.place[i]:=getElem?_pos t.place i hp
 unfold SetTable.drop;rw[e]
 dsimp only
 have s1:(SetTable.eraseAt t.place i).size=n-1:=by rw[<- Jn,cn,List.length_eraseIdx_of_lt (by rw[Jn];exact hp),Jn];lia
 have s2:(SetTable.insertAt t.dummies (SetTable.below t.dummies t.place[i]) t.place[i]).size=t.dummies.size+1:=by
  rw[<- Jn,SetTable.toList_insertAt,Jw,JQ,Ed,Fo,Jn];lia
 refine⟨?_,fun h hpl=>(h hpl).erase i,rfl⟩
 unfold SetTable.fits SetTable.fill
 dsimp only
 rw[s1,s2];unfold SetTable.fill at hf;rw[Jt,J4,decide_eq_true_eq]
 exact⟨rfl,by lia⟩
section
variable{prog:Ξ}{w:Ω}{K:Type} [DecidableEq K]{knd:PySem.KeyKind prog w K}{kf:Γ->K}
variable{A:Around}{E:FS}{s:Θ}
theorem ue(hkf:∀k v,knd.is k v=true->kf v=k){a:Δ}{ks:List K}{k:K}{x:Γ}{Q:Bool->Θ->Prop}(hkey:knd.is k x=true)(hsc:x.scannable=true)
  (hS:SetK knd kf s.heap a ks)
  (h:∀h',Ψ.SameBut a s.heap h'->SetK knd kf h' a (ks.erase k)->Q (decide (k∈ks)) {s with heap:=h'}):
  ε (model prog w) A (setDiscardHashed a x (knd.hash k)) Q E s:=by
 obtain⟨o,es,ep,t,ho,hex,hd,hf,hb,hel,hpm,htw⟩:=id hS;have hmem:k∈ks↔∃e∈es.toList,knd.is k e.2=true:=by rw[<- hpm.mem_iff];exact kM hkf hel k
 unfold setDiscardHashed setFind setFindIn;refine Ja (Ja (wpAny_setState_of ho hd hf ?_))
 dsimp only
 rw[byScan_of hsc hb hel];simp only[↓reduceIte];refine Ja (DR (Ja (wpAny_setScan_of hkey ho hd hf hel ?_)))
 cases hr:List.findIdx? (fun e=>knd.is k e.2) es.toList with
 |none=>
  have hk:k∉ks:=fun z=>by
   obtain⟨e,he,hp⟩:=hmem.mp z
   have:=List.findIdx?_eq_none_iff.mp hr e he
   rw[hp]at this;cases this
  dsimp only
  refine Jd (Jd ?_)
  have:=h s.heap (Ψ.SameBut.refl a s.heap) (by rw[List.erase_of_not_mem hk];exact hS)
  rw[Jm hk]at this;exact this
 |some j=>
  obtain⟨hj,hpj,_⟩:=List.findIdx?_eq_some_iff_getElem.mp hr
  have hk:k∈ks:=hmem.mpr ⟨es.toList[j],EB hj,hpj⟩
  have hj':j<es.size:=by rw[<- Jn];exact hj
  dsimp only
  refine Jd ?_
  dsimp only
  rw[Nat.zero_add];refine Ja (wpAny_setState_of ho hd hf ?_)
  dsimp only
  obtain⟨d1,d2,d3⟩:=Aj hf hj';have el:=cn es j;have sz:(SetTable.eraseAt es j).size=es.size-1:=by rw[<- Jn,el,List.length_eraseIdx_of_lt hj,Jn]
  have hb':(SetTable.eraseAt es j).size<scanBound:=by lia
  refine Ja (wpAny_storeSet_of ho hd (Ja (wpAny_point (Jd ?_))) (fits_of_scanBound hb'))
  have hp:(es.toList[j]::es.toList.eraseIdx j).Perm es.toList:=mN hj
  have hkj:kf es.toList[j].2=k:=hkf k _ hpj
  have:=h _ (J9 s.heap a (Obj.putSet (SetTable.eraseAt es j) (t.drop j))) ⟨_,_,_,_,Zf ho hd _ _,hex,rfl,by rw[sz];exact d1,hb',?_,?_,?_⟩
  ·rw[Jg hk]at this;exact this
  ·intro e he
   rw[el]at he;exact hel e ((List.eraseIdx_sublist _ _).subset he)
  ·rw[el]
   have hq:=(hp.map fun e=>kf e.2).trans hpm
   rw[JU,hkj]at hq
   exact(List.cons_perm_iff_perm_erase.mp hq).2
  ·rcases htw with z|⟨z1,z2⟩
   ·exact .inl z
   ·exact .inr ⟨d3.trans z1,d2 z2⟩
theorem uK(hkf:∀k v,knd.is k v=true->kf v=k){a b:Δ}(id:String)(nab:b≠a){o:Obj}{es:Array (Int×Γ)}{ep:Nat}{t:SetTable}{ka:List K}{Q:PUnit->Θ->Prop}(hd:o.data= .set es ep t)(hf:t.fits es.size=true)(arr:Array (Int×Γ))(harr:ElemsOf knd arr.toList)(ndr:(arr.toList.map fun e=>kf e.2).Nodup)(hn:ka.length+arr.size+1<scanBound)
  (ho:s.heap.get? b=some o)(hS:SetK knd kf s.heap a ka)(nd:ka.Nodup)
  (h:∀h' ks,Ψ.SameBut a s.heap h'->SetK knd kf h' a ks->ks.Nodup->ks.length<=ka.length+arr.size->(∀k,k∈ks↔¬(k∈ka↔k∈(arr.toList.map fun e=>kf e.2)))->Q ⟨⟩ {s with heap:=h'}):
  ε (model prog w) A (forIn arr PUnit.unit fun x _=>do
   holding [x.2] (do
    let d <- setDiscardHashed a x.2 x.1
    if(!d)=true then do
     let _ <- setAddHashed a x.2 x.1
     pure PUnit.unit
    else pure PUnit.unit)
   γ.Frozenset.unchanged id b ep
   pure (ForInStep.yield PUnit.unit)) Q E s:=by
 obtain⟨hp,g,dr,tk,os⟩:=s;refine PySem.MeetsSeq2.wpAny_forIn_array _ (fun rest _ s'=>∃h' done ks,s'=⟨h',g,dr,tk,os⟩/\arr.toList=done++rest/\Ψ.SameBut a hp h'/\SetK knd kf h' a ks/\ks.Nodup/\(∀k,k∈ks↔¬(k∈ka↔k∈(done.map fun e=>kf e.2)))/\ks.length<=ka.length+done.length) _ ?_ ?_ arr _ ⟨hp,[],ka,rfl,rfl,Ψ.SameBut.refl a hp,hS,nd,fun k=>by simp,Jf _⟩
 ·rintro⟨hh,x⟩ rest _ s' ⟨h',done,ks,rfl,e,sb,hR',nd,mem,len⟩
  have hx:(hh,x)∈arr.toList:=by rw[e];exact J8 _ Jy
  obtain⟨⟨k,hk,hhash⟩,hsc⟩:=harr _ hx
  dsimp only at hk hhash hsc⊢
  subst hhash;have kx:kf x=k:=hkf k x hk
  have hdl:done.length+1<=arr.size:=by
   have:=JX List.length e
   rw[Jn,Jw,JQ]at this;lia
  have knew:k∉(done.map fun e=>kf e.2):=fun z=>by
   rw[e,JW,E3]at ndr;exact ndr.2.2 k z k (by rw[JU];show k∈kf x::_;rw[kx];exact Jy) rfl
  have mk:k∈ks↔k∈ka:=by
   rw[mem k];constructor
   ·intro z
    refine Decidable.byContradiction fun y=>z ⟨fun u=>absurd u y,fun u=>absurd u knew⟩
   ·intro z y
    exact knew (y.mp z)
  have fin:∀h2 ks2,Ψ.SameBut a h' h2->SetK knd kf h2 a ks2->ks2.Nodup->(∀k',k'∈ks2↔(if k'=k then k∉ks else k'∈ks))->ks2.length<=ks.length+1->∀(Z:Θ->Prop),(∀s',(∃h' done ks,s'=(⟨h',g,dr,tk,os⟩:Θ)/\arr.toList=done++rest/\Ψ.SameBut a hp h'/\SetK knd kf h' a ks/\ks.Nodup/\(∀k,k∈ks↔¬(k∈ka↔k∈(done.map fun e=>kf e.2)))/\ks.length<=ka.length+done.length)->Z s')->ε (model prog w) A (do
    γ.Frozenset.unchanged id b ep
    pure (ForInStep.yield PUnit.unit)) (fun rr s'=>match rr with| .yield _=>Z s'| .done b'=>Q b' s') E ⟨h2,g,dr,tk,os⟩:=by
   intro h2 ks2 sb2 hR2 nd2 mem2 len2 Z hZ;unfold γ.Frozenset.unchanged;have ho2:h2.get? b=some o:=by rw[sb2.2 b nab,sb.2 b nab];exact ho
   refine Ja (Ja (wpAny_setEpoch_of (s:=⟨h2,g,dr,tk,os⟩) ho2 hd hf ?_))
   simp only[bne_self_eq_false,Bool.false_eq_true,JD];refine Jd (Jd (hZ _ ⟨h2,done++[(knd.hash k,x)],ks2,rfl,by rw[e,Ee];rfl,sb.trans sb2,hR2,nd2,fun k'=>?_,by rw[Jw,Ef];lia⟩))
   rw[mem2,JW,JC]
   show _↔¬(_↔_\/k'∈[kf x])
   rw[kx,Jj]
   by_cases c:k'=k
   ·subst c
    rw[Jc rfl,mk];constructor
    ·intro z y;exact z (y.mpr (.inr rfl))
    ·intro z y;exact z ⟨fun _=> .inr rfl,fun _=>y⟩
   ·rw[Jb c,mem k']
    simp only[c,JA]
  refine Ja (JM (Ja (ue (s:=⟨h',g,dr,tk,os⟩) hkf hk hsc hR' fun h2 sb2 hR2=>?_)))
  by_cases hm:k∈ks
  ·rw[Jg hm,Jb (by decide)]
   refine Jd ?_
   refine JF (fin h2 _ sb2 hR2 (nd.erase k) (fun k'=>?_) (JO (List.length_erase_le ..) (Ey _)) _ fun s' z=>z) (fun rr s' z=>by cases rr<;>exact z) fun _ _ z=>z
   by_cases c:k'=k
   ·subst c
    rw[Jc rfl]
    exact⟨fun z=>absurd z (List.Nodup.not_mem_erase nd),fun z=>absurd hm z⟩
   ·rw[Jb c];exact List.mem_erase_of_ne c
  ·rw[Jm hm,Jc (show(!false)=true from rfl)]
   rw[List.erase_of_not_mem hm]at hR2;refine Ja (pB (s:=⟨h2,g,dr,tk,os⟩) hkf hk hsc hR2 (by lia) fun h3 sb3 hR3=>Jd ?_)
   rw[Jb hm]at hR3;refine JF (fin h3 _ (sb2.trans sb3) hR3 ?_ (fun k'=>?_) (by rw[Jw];exact Jf _) _ fun s' z=>z) (fun rr s' z=>by cases rr<;>exact z) fun _ _ z=>z
   ·rw[E3]
    exact⟨nd,by simp,fun x1 hx1 y1 hy1 e1=>hm (by rw[Jj.mp hy1]at e1;rw[<- e1];exact hx1)⟩
   ·rw[JC,Jj]
    by_cases c:k'=k
    ·rw[Jc c];exact⟨fun _=>hm,fun _=> .inr c⟩
    ·rw[Jb c];exact⟨fun z=>z.resolve_right c,.inl⟩
 ·rintro _ s' ⟨h',done,ks,rfl,e,sb,hR',nd,mem,len⟩
  rw[DV]at e;refine h h' ks sb hR' nd (by rw[<- Jn,e];exact len) (by rw[e];exact mem)
theorem j0:entryFor table "set.__xor__"=some γ.«frozenset.__xor__»:=
 entryFor_alias (id':="frozenset.__xor__") (by kernel_rfl) rfl (by decide +kernel) (by kernel_rfl)
theorem B7(x y:Γ):γ.«frozenset.__xor__» ⟨[x,y],[]⟩=(do
 if !(<- γ.Frozenset.isAnySet x <&&> γ.Frozenset.isAnySet y)then
  rule s!"frozenset.{"__xor__"}.declined"
  return <- ret .notImplemented
 ret (<- (fun(id:String) (l:Δ) (r:Γ)=>(do
  let result <- γ.Frozenset.newFrom id (<- γ.Frozenset.baseOf l) r
  holding [result] (γ.Frozenset.symmetricDifferenceUpdate id (<- γ.Frozenset.addrOf result) (.ref l))
  return result:Sem Γ)) s!"frozenset.{"__xor__"}" (<- γ.Frozenset.addrOf x) y)):=rfl
theorem CC(hkf:∀k v,knd.is k v=true->kf v=k){a b:Δ}{ka kb:List K}{Q:FS}(nab:a≠b)(hA:SetK knd kf s.heap a ka)(hB:SetK knd kf s.heap b kb)(na:ka.Nodup)(nb:kb.Nodup)(la:ka.length+kb.length<=1000)(lb:kb.length<=100)
  (h:∀h' ks,(∀c o,s.heap.get? c=some o->h'.get? c=some o)->SetK knd kf h' s.heap.objs.size ks->ks.Nodup->ks.length<=ka.length+kb.length->(∀k,k∈ks↔¬(k∈ka↔k∈kb))->Q (.ref s.heap.objs.size) {s with heap:=h'}):
  ε (model prog w) A (binaryOp .BitXor (.ref a) (.ref b)) Q E s:=by
 have hTa:=hA.type (h:=s.heap)
 have hTb:=hB.type (h:=s.heap)
 refine wpAny_binaryOp_same (op:= .BitXor) (T:="set") hTa hTb PySem.F.fills_set_xor PySem.F.slot_set_xor (JZ PySem.F.slot_set_xor hTa j0 ?_ (PySem.F.args_set_xor_2 _ _))
 rw[B7];refine Ja (Ja (ZA hTa ?_))
 show ε _ _ (γ.Frozenset.isAnySet (Γ.ref b)) _ _ _
 refine ZA hTb ?_
 simp only[Bool.not_true,Bool.false_eq_true,JD];refine Ja (Jd (Ja ?_))
 unfold γ.Frozenset.newFrom γ.Frozenset.baseOf;refine Ja (Ja (ED hTa sub_set_self (Jd ?_)))
 rw[Jc rfl];refine Ja (Ja (ki ?_))
 have hr:(s.heap.push (Qf (!zt w))).get? s.heap.objs.size=some (Qf (!zt w)):=Jp _ rfl
 have old:∀c o,s.heap.get? c=some o->(s.heap.push (Qf (!zt w))).get? c=some o:=fun c o e=>Jh _ e
 have hA1:SetK knd kf (s.heap.push (Qf (!zt w))) a ka:=hA.at (old a)
 have hB1:SetK knd kf (s.heap.push (Qf (!zt w))) b kb:=hB.at (old b)
 have lta:=hA.lt;have ltb:=hB.lt;have na':s.heap.objs.size≠a:=(Jo lta).symm
 have nb':s.heap.objs.size≠b:=(Jo ltb).symm
 refine Ja (Jd (Ja (JM ?_)))
 unfold γ.Frozenset.updateFrom;have hTb1:Θ.TypeIs {s with heap:=s.heap.push (Qf (!zt w))} (.ref b) "set":=hB1.type (s:={s with heap:=s.heap.push (Qf (!zt w))}) (h:=s.heap)
 refine Ja (ZA hTb1 ?_)
 rw[Jc rfl];refine Ja (Ja (Jd (Jd ?_)))
 unfold γ.Frozenset.merge;obtain⟨ob,eb,epb,tb,b1,b2,b3,b4,_⟩:=id hB1;refine Ja (wpAny_setEpoch_of (s:={s with heap:=s.heap.push (Qf (!zt w))}) b1 b3 b4 ?_)
 refine gk (s:={s with heap:=s.heap.push (Qf (!zt w))}) nb' (rV hr) hB1 lb fun h1 sb1 hR1 _=>Jd ?_
 have hA2:SetK knd kf h1 a ka:=hA1.at fun o1 e1=>by rw[sb1.2 a na'.symm];exact e1
 have hTa2:Θ.TypeIs {s with heap:=h1} (.ref a) "set":=hA2.type (s:={s with heap:=h1}) (h:=s.heap)
 refine Ja (Jd (Ja (JM ?_)))
 unfold γ.Frozenset.symmetricDifferenceUpdate;have hne:((Γ.ref a:Γ)==Γ.ref s.heap.objs.size)=false:=by
  rw[Ew];intro e;cases e;exact na' rfl
 rw[hne];simp only[Bool.false_eq_true,JD];refine Ja (ER hTa2 ?_)
 have hnd:((Γ.type "set":Γ)==Γ.type "dict")=false:=by decide
 rw[hnd];simp only[Bool.false_eq_true,JD];refine Ja (ZA hTa2 ?_)
 rw[Jc rfl];refine Ja (Jd (Ja (Jd ?_)))
 obtain⟨oa,ea,epa,ta,a1,a2,a3,a4,a5,a6,a7,a8⟩:=id hA2;refine Ja (wpAny_setEpoch_of (s:={s with heap:=h1}) a1 a3 a4 ?_)
 refine JM (Ja (n3 (s:={s with heap:=h1}) a1 a2 a3 a4 a5 a6 a8 hR1 fun arr h2 hp sb2 hR2=>?_))
 have asz:arr.size=ka.length:=by rw[<- Jn,hp.length_eq,Jn,<- a7.length_eq,Je,Jn]
 have ho2:h2.get? a=some oa:=by rw[sb2.2 a na'.symm];exact a1
 have e4:scanBound=4096:=rfl
 have hmm:(arr.toList.map fun e=>kf e.2).Perm ka:=(hp.map fun e=>kf e.2).trans a7
 refine Ja (uK (s:={s with heap:=h2}) hkf (toString "frozenset."++toString "__xor__") na'.symm a3 a4 arr (a6.perm hp) (hmm.nodup_iff.mpr na) (by lia) ho2 hR2 nb fun h3 ks sb3 hR3 nd3 len3 mem3=>Jd (Jd (Jd ⟨_,rfl,(fun e=>nomatch e),?_⟩)))
 refine h h3 ks (fun c o e=>?_) hR3 nd3 (by lia) fun k=>?_
 ·have nc:c≠s.heap.objs.size:=Jo (Ji e)
  rw[sb3.2 c nc,sb2.2 c nc,sb1.2 c nc];exact old c o e
 ·rw[mem3,hmm.mem_iff]
  exact not_congr ⟨Iff.symm,Iff.symm⟩
end
end S0
namespace L3
open PySem PySem.Spec PyProof.Rows L2 S0
section
variable{prog:Ξ}{w:Ω}{A:Around}{E:FS}{s:Θ}
theorem p8{a:Δ}{ks:List Int}{Q:FS}(hh:A.handled=none)(hS:SetK (PySem.intKind prog w) numOf s.heap a ks)(h64:ks.length<64)
  (h:∀(h':Ψ) (tk:Nat) (d:Drawn) (l:Δ) (its:List Γ) (n:Nat) (ns:List Int),s.heap.objs.size<=l->(∀b o,s.heap.get? b=some o->h'.get? b=some o)->h'.get? l=some (seqObj "list" its.toArray n)->
   IntsAre its ns->ns.Perm ks->ns.Pairwise (· <= ·)->Q (.ref l) {s with heap:=h',toks:=tk,drawn:=d}):
  ε (model prog w) A (call (.builtin "sorted") [.ref a]) Q E s:=by
 obtain⟨o,es,ep,t,ho,hex,hd,hf,hb,hel,hpm,htw⟩:=hS;refine Calls.call_function_entry kind_sorted plain_sorted entry_sorted (args_sorted1 _) ?_
 unfold γ.«sorted»
 refine Ja (m:=checkCount "sorted" 1 1 _) (Jd ?_)
 refine Ja (jl hh ho hex hd hf hb htw fun vs h' tk d hk hz hp=>?_)
 have hI:IntsAre vs (vs.map numOf):=by
  refine intsAre_map vs fun v hv=>?_
  obtain⟨e,he,rfl⟩:=Ju.mp (hp.mem_iff.mp hv)
  obtain⟨⟨k,h1,_⟩,_⟩:=hel e he;obtain⟨tt,h2⟩:=Γ.isInt_shape h1
  exact⟨k,tt,h2⟩
 have hvk:(vs.map numOf).Perm ks:=by
  refine(hp.map numOf).trans ?_
  rw[Eb];exact hpm
 have hvl:vs.length<=ζ:=by
  rw[hp.length_eq,Je,Jn];exact fits_of_scanBound hb
 have hl64:vs.length<64:=by
  have:=hvk.length_eq
  rw[Je]at this;omega
 refine Ja (wpAny_newList ?_ hvl)
 have hoL:(h'.push (seqObj "list" vs.toArray 0)).get? h'.objs.size=some (seqObj "list" vs.toArray 0):=Jp _ rfl
 show ε _ _ _ _ _ {s with heap:=h'.push (seqObj "list" vs.toArray 0),toks:=tk,drawn:=d}
 refine Ja (JM (JZ slot_list_sort ⟨_,hoL,rfl⟩ entry_list_sort (list_sort_tree hoL hI hl64 fun out ns d1 d2 d3=>⟨_,rfl,?_⟩) (args_list_sort _)))
 obtain⟨n',hn'⟩:∃n',(sortedHeap (h'.push (seqObj "list" vs.toArray 0)) h'.objs.size vs out).get? h'.objs.size=some (seqObj "list" out n'):=sortedHeap_at hoL
 refine Jd ⟨_,rfl,h _ tk d h'.objs.size out.toList n' ns hz (fun b o e=>?_) (by rw[hn']) d1 (d2.trans hvk) d3⟩
 have e':=hk b o e;have hb':b<h'.objs.size:=Ji e'
 rw[sortedHeap_old (Jo hb') (by rw[JV];exact D9 hb')]
 exact Jh _ e'
end
section
variable{X:Cx}
theorem jT(hc:X.calm=true):ze X (.builtin "sorted") (fun xs H Q=>∃(p:Δ) (ks:List Int),xs=[.ref p]/\H p=some (ar X.prog X.w p ks)/\ks.length<64/\
  ∀l (ms:List Int),H l=none->ms.Perm ks->ms.Pairwise (· <= ·)->Q (.ref l) (F2 H l (.lst (ms.map V.int)))):=by
 intro tx s σ H xs us Q I r h;obtain⟨p,ks,rfl,hp,h64,q⟩:=h;obtain⟨u,rfl,ru⟩:=zN r;cases ru;obtain⟨hS,_⟩:=I.hok p _ hp;have hkl:=SetK.len hS;refine p8 (I.ok.hd hc) hS h64 fun h' tk d l its n ns hl hk hL b1 b2 b3=>?_
 refine⟨.ref l,_,(I.laid (a:=l) (o:= .lst (ns.map V.int)) (t':=tk) hk hl ?_).drw d,rfl,q l ns (I.hok.fresh hl) b2 b3⟩
 refine⟨?_,its,n,eF b1,hL⟩
 rw[Je,b2.length_eq];exact fits_of_scanBound hkl
def Dw(X:Cx):R2:=fun x y H Q=>∃(a b:Δ) (ka kb:List Str),x= .ref a/\y= .ref b/\a≠b/\H a=some (aL X.prog X.w a ka)/\H b=some (aL X.prog X.w b kb)/\ka.Nodup/\kb.Nodup/\ka.length+kb.length<=100/\
 ∀l ks,H l=none->ks.Nodup->(∀k,k∈ks↔k∈ka\/k∈kb)->Q (.ref l) (F2 H l (aL X.prog X.w l ks))
theorem BO:zw X (binaryOp .BitOr) (Dw X):=by
 intro tx s σ H x y v u Q I rx ry h;obtain⟨a,b,ka,kb,rfl,rfl,nab,ha,hb,na,nb,la,q⟩:=h;cases rx;cases ry;obtain⟨hA,_⟩:=I.hok a _ ha;obtain⟨hB,_⟩:=I.hok b _ hb;refine Dl (sk _ _) nab hA hB na nb la fun h' ks kp hS nd mem=>?_
 refine⟨.ref s.heap.objs.size,_,I.laid (t':=s.toks) (o:=aL X.prog X.w s.heap.objs.size ks) kp (Jf _) ⟨hS,?_,fun h1 h2 z1 z2=>z1.at z2⟩,rfl,q _ _ (I.hok.fresh (Jf _)) nd mem⟩
 obtain⟨o,_,_,_,e,_⟩:=hS
 exact⟨o,e⟩
def CK(X:Cx):R2:=fun x y H Q=>∃(a b:Δ) (ka kb:List Int),x= .ref a/\y= .ref b/\a≠b/\H a=some (ar X.prog X.w a ka)/\H b=some (ar X.prog X.w b kb)/\ka.Nodup/\kb.Nodup/\ka.length+kb.length<=1000/\kb.length<=100/\
 ∀l ks,H l=none->ks.Nodup->ks.length<=ka.length+kb.length->(∀k,k∈ks↔¬(k∈ka↔k∈kb))->Q (.ref l) (F2 H l (ar X.prog X.w l ks))
theorem yw:zw X (binaryOp .BitXor) (CK X):=by
 intro tx s σ H x y v u Q I rx ry h;obtain⟨a,b,ka,kb,rfl,rfl,nab,ha,hb,na,nb,la,lb,q⟩:=h;cases rx;cases ry;obtain⟨hA,_⟩:=I.hok a _ ha;obtain⟨hB,_⟩:=I.hok b _ hb;refine CC (sH _ _) nab hA hB na nb la lb fun h' ks kp hS nd len mem=>?_
 refine⟨.ref s.heap.objs.size,_,I.laid (t':=s.toks) (o:=ar X.prog X.w s.heap.objs.size ks) kp (Jf _) ⟨hS,?_,fun h1 h2 z1 z2=>z1.at z2⟩,rfl,q _ _ (I.hok.fresh (Jf _)) nd len mem⟩
 obtain⟨o,_,_,_,e,_⟩:=hS
 exact⟨o,e⟩
end
end L3
namespace L3
open PySem PySem.Spec PyProof.Rows L2 SeqAt
section
variable{X:Cx}
theorem Au{tx:FU}{σ:L2.St}{H:Hp}{s:Θ}{A:Around}(I:L2.FY X tx σ H s){a b:Δ}{z z':Int×Int}(h1:H a=some (.tup [.int z.1,.int z.2]))(h2:H b=some (.tup [.int z'.1,.int z'.2]))(hu:A.units<cLine):EqAt A s (.ref a) (.ref b) (decide (z=z')):=by
 by_cases hab:a=b
 ·subst hab
  rw[h1]at h2;injection h2 with h2
  injection h2 with h2
  have e:z=z':=by
   simp only[List.cons.injEq,V.int.injEq,and_true]at h2;exact Prod.ext h2.1 h2.2
  rw[Jg e];exact EqAt.same _
 ·obtain⟨its,q1,p1,_⟩:=I.tuple (F7.of (K:=X.K) h1)
  obtain⟨its2,q2,p2,_⟩:=I.tuple (F7.of (K:=X.K) h2)
  have l1:=q1.length;have l2:=q2.length;have e:=RcAt.tuples (A:=A) (e:=fun j=>[z.1,z.2].getD j 0==[z'.1,z'.2].getD j 0) (show s.heap.IsTuple a its.toArray from p1) (show s.heap.IsTuple b its2.toArray from p2) hu (fun j h1 h2=>by
   have h1':j<its.length:=by simpa using h1
   have h2':j<its2.length:=by simpa using h2
   obtain⟨t,e⟩:=fj (ns:=[z.1,z.2]) q1 j h1' (by rw[<- l1]at h1';exact h1')
   obtain⟨t',e'⟩:=fj (ns:=[z'.1,z'.2]) q2 j h2' (by rw[<- l2]at h2';exact h2')
   simp only[List.getElem_toArray,e,e',JI,Jk (show j<[z.1,z.2].length by rw[<- l1]at h1';exact h1'),Jk (show j<[z'.1,z'.2].length by rw[<- l2]at h2';exact h2'),Eg]
   exact EqAt.int_int _ _ _ _)
  have es:its.toArray.size=2:=by rw[Js];exact l1.symm
  have es2:its2.toArray.size=2:=by rw[Js];exact l2.symm
  rw[es,es2]at e;have e:RcAt A s (.ref a) (.ref b) ((z.1==z'.1&&(z.2==z'.2&&true))&&true):=e
  have ed:((z.1==z'.1&&(z.2==z'.2&&true))&&true)=decide (z=z'):=by
   rw[D8];simp [Prod.ext_iff]
  rw[ed]at e;exact EqAt.of_refs hab e
def Do:R2:=fun x y H Q=>∃(a b:Δ) (zs ws:List (Int×Int)),x= .ref a/\y= .ref b/\HN H a zs/\HN H b ws/\Q (.bl (decide (zs≠ws))) H
theorem B6{k:Nat}(hr:Gg k X.A):zw X (compareOp .NotEq) Do:=by
 intro tx s σ H x y v u Q I rx ry h;obtain⟨a,b,zs,ws,rfl,rfl,⟨as,e1,l1,r1⟩,⟨bs,e2,l2,r2⟩,q⟩:=h;cases rx;cases ry;obtain⟨its,q1,p1,_⟩:=I.tuple (F7.of (K:=X.K) e1)
 obtain⟨its2,q2,p2,_⟩:=I.tuple (F7.of (K:=X.K) e2)
 have k1:=q1.length;have k2:=q2.length;rw[Je]at k1 k2;have hu:X.A.units+2<cLine:=by have:=hr.un;lia
 have e:=RcNeAt.tuples (A:=X.A) (e:=fun j=>decide (zs.getD j (0,0)=ws.getD j (0,0))) (show s.heap.IsTuple a its.toArray from p1) (show s.heap.IsTuple b its2.toArray from p2) (by lia) (fun j h1 h2=>by
  have h1':j<its.length:=by simpa using h1
  have h2':j<its2.length:=by simpa using h2
  obtain⟨x,ex,rx⟩:=Qi q1 h1';obtain⟨y,ey,ry⟩:=Qi q2 h2';rw[Jq]at ex ey;obtain⟨x',hx',rfl⟩:=DZ.mp ex;obtain⟨y',hy',rfl⟩:=DZ.mp ey;have hz:j<zs.length:=by lia
  have hw:j<ws.length:=by lia
  simp only[List.getElem_toArray];rw[show its[j]=Γ.ref x' from rx,show its2[j]=Γ.ref y' from ry,JI,JI,Jk hz,Jk hw,Eg,Eg]
  exact Au I (r1 j x' _ hx' (Jk hz)) (r2 j y' _ hy' (Jk hw)) (by rw[Fi];lia))
 have ed:(!((List.range (min its.toArray.size its2.toArray.size)).all (fun j=>decide (zs.getD j (0,0)=ws.getD j (0,0)))&&its.toArray.size==its2.toArray.size))=decide (zs≠ws):=by
  rw[Js,Js,<- k1,<- k2,l1,l2];rw[D8,Bool.not_eq_true',decide_eq_true_eq,<- Bool.not_eq_true,Jt,EK,J4];refine not_congr ⟨fun⟨h1,h2⟩=>?_,fun h=>?_⟩
  ·refine List.ext_getElem h2 fun j j1 j2=>?_
   have:=Jv (h1 j (J6.mpr (by lia)))
   rw[JI,JI,Jk j1,Jk j2]at this;exact this
  ·subst h
   exact⟨fun j _=>Jg rfl,rfl⟩
 rw[ed]at e;exact e _ _ _ _ ⟨.bl _,H,I,rfl,q⟩
end
end L3
namespace Lw
open PySem L2 L3
theorem FL:0<=ζ:=by decide
theorem FM:1<=ζ:=by decide
theorem FN:2<=ζ:=by decide
theorem FO:3<=ζ:=by decide
theorem FP:4<=ζ:=by decide
theorem FQ:5<=ζ:=by decide
theorem FR:16<=ζ:=by decide
def qV(i:Nat):δ:=PySem.Challenge.pw_rollcode_k34_doors_that_agree.main.body.getD i (.Pass ⟨0,0,0,0⟩)
abbrev br:δ:=qV 3
abbrev ca:δ:=qV 4
abbrev aI:δ:=qV 5
abbrev aD:δ:=qV 6
abbrev iN:δ:=qV 7
abbrev cZ:δ:=qV 8
abbrev cX:δ:=qV 14
abbrev c6:δ:=qV 15
abbrev bR:δ:=qV 16
abbrev Zt:δ:=qV 17
abbrev gc:δ:=qV 18
abbrev ZG:δ:=qV 19
abbrev bN:δ:=qV 20
abbrev az:δ:=qV 21
abbrev cJ:δ:=qV 39
abbrev eE:δ:=qV 40
abbrev QX:δ:=zG (qV 42) 0
abbrev ZO:δ:=zG (qV 42) 2
abbrev Q6:δ:=zG (qV 42) 8
abbrev Q3:δ:=zG (qV 42) 11
abbrev QP:δ:=zG (qV 42) 10
abbrev Qh:δ:=zG (qV 42) 9
abbrev Q2:δ:=zG (qV 42) 7
abbrev bo:δ:=zG (qV 42) 6
abbrev QN:δ:=zG (qV 42) 12
abbrev aJ:δ:=zG (qV 42) 1
abbrev QD:δ:=zG (qV 42) 5
abbrev Q9:δ:=zG (qV 42) 13
abbrev Zn:δ:=zG (qV 42) 14
abbrev QM:δ:=zG (qV 42) 15
abbrev Qw:δ:=zG (qV 42) 16
abbrev ZP:δ:=qV 24
abbrev cp:δ:=qV 23
abbrev Z2:δ:=qV 26
abbrev aK:δ:=qV 31
abbrev bi:δ:=qV 29
abbrev Z4:δ:=qV 28
abbrev Z1:δ:=qV 27
abbrev aC:δ:=qV 30
abbrev cW:δ:=qV 25
abbrev ie:δ:=qV 32
abbrev eC:δ:=qV 44
abbrev cu:δ:=qV 45
abbrev bt:δ:=qV 46
abbrev dh:δ:=qV 47
abbrev bv:δ:=qV 48
abbrev bP:δ:=qV 50
abbrev cv:δ:=qV 51
abbrev bu:δ:=qV 52
abbrev ax:δ:=qV 53
abbrev bb:δ:=qV 54
abbrev bh:δ:=qV 58
abbrev bW:δ:=qV 59
abbrev gl:δ:=qV 60
abbrev Zq:δ:=qV 61
abbrev Z7:δ:=qV 62
theorem qW{N P:List Str}{c:Scope}(h1:c.kind= .function:=by rfl)(h2:c.isCoroutine=false:=by rfl)(h3:c.isGenerator=false:=by rfl)(h4:N.Nodup:=by decide +kernel)(h5:N.take P.length=P:=by rfl)(h6:∀x∈P,c.names.lookup x=some .local\/c.names.lookup x=some .cell:=by decide +kernel)(h7:∀y∈c.names,y.2≠ .free:=by decide +kernel):FW N P c:=⟨h1,h2,h3,h4,h5,h6,h7⟩
theorem l7:FW (["thing"]:List Str) (["thing"]:List Str) (qh br):=qW
theorem nA:FW (["thing"]:List Str) (["thing"]:List Str) (qh ca):=qW
theorem jS:FW (["things"]:List Str) (["things"]:List Str) (qh aI):=qW
theorem GG:FW (["table","back","place","digit"]:List Str) (["table"]:List Str) (qh aD):=qW
theorem Hh:FW (["table","key","digits","row","shift","place","ahead"]:List Str) (["table","key","digits"]:List Str) (qh iN):=qW
theorem GB:FW (["table","key","digits","back","row","shift","place","ahead"]:List Str) (["table","key","digits"]:List Str) (qh cZ):=qW
theorem pz:FW (["thing"]:List Str) (["thing"]:List Str) (qh cX):=qW
theorem pR:FW (["thing"]:List Str) (["thing"]:List Str) (qh c6):=qW
theorem GR:FW (["thing","name","age","code"]:List Str) (["thing"]:List Str) (qh bR):=qW
theorem Gq:FW (["name","digits","letter","place"]:List Str) (["name"]:List Str) (qh Zt):=qW
theorem Ho:FW (["table","key","name","sums","place","digit"]:List Str) (["table","key","name"]:List Str) (qh gc):=qW
theorem gL:FW (["count"]:List Str) (["count"]:List Str) (qh ZG):=qW
theorem Hl:FW (["table","key","name","age","count","deed","four","five"]:List Str) (["table","key","name","age","count","deed"]:List Str) (qh bN):=qW
theorem Gc:FW (["table","key","press","name","age","code","low","middle","high","deed","check"]:List Str) (["table","key","press"]:List Str) (qh az):=qW
theorem pC:FW (["count","last","near","far"]:List Str) (["count","last","near","far"]:List Str) (qh cJ):=qW
theorem GC:FW (["button","age","count","near","far","own_age","last","waiting","word"]:List Str) (["button","age","count","near","far"]:List Str) (qh eE):=qW
theorem bz:FW (["self","table","keys","near","far","most"]:List Str) (["self","table","keys","near","far","most"]:List Str) (qh QX):=qW
theorem gZ:FW (["self"]:List Str) (["self"]:List Str) (qh ZO):=qW
theorem fw:FW (["self","name"]:List Str) (["self","name"]:List Str) (qh Q6):=qW
theorem fu:FW (["self","age"]:List Str) (["self","age"]:List Str) (qh Q3):=qW
theorem cN:FW (["self","button","age"]:List Str) (["self","button","age"]:List Str) (qh QP):=qW
theorem ZV:FW (["self","button","age","count"]:List Str) (["self","button","age","count"]:List Str) (qh Qh):=qW
theorem F4:FW (["self","press","name","age","code","button","pair","count","deed","word","behind"]:List Str) (["self","press"]:List Str) (qh Q2):=qW
theorem HF:FW (["self","thing","answer"]:List Str) (["self","thing"]:List Str) (qh bo):=qW
theorem cQ:FW (["self","thing"]:List Str) (["self","thing"]:List Str) (qh QN):=qW
theorem Gh:FW (["self","one","other","first","second","name","age","code"]:List Str) (["self","one","other"]:List Str) (qh aJ):=qW
theorem cH:FW (["self","age"]:List Str) (["self","age"]:List Str) (qh QD):=qW
theorem fv:FW (["self"]:List Str) (["self"]:List Str) (qh Q9):=qW
theorem fR:FW (["self"]:List Str) (["self"]:List Str) (qh Zn):=qW
theorem dv:FW (["self"]:List Str) (["self"]:List Str) (qh QM):=qW
theorem cE:FW (["self"]:List Str) (["self"]:List Str) (qh Qw):=qW
theorem F9:FW (["door","button","age","near","far","most","own_age","last","waiting","stretches","after"]:List Str) (["door","button","age"]:List Str) (qh ZP):=qW
theorem mQ:FW (["door","name","age"]:List Str) (["door","name","age"]:List Str) (qh cp):=qW
theorem iJ:FW (["door"]:List Str) (["door"]:List Str) (qh Z2):=qW
theorem jX:FW (["one","first","other","second"]:List Str) (["one","first","other","second"]:List Str) (qh aK):=qW
theorem kI:FW (["stretches"]:List Str) (["stretches"]:List Str) (qh bi):=qW
theorem hW:FW (["these","those"]:List Str) (["these","those"]:List Str) (qh Z4):=qW
theorem Gz:FW (["one","first","other","second","age","these","those"]:List Str) (["one","first","other","second"]:List Str) (qh Z1):=qW
theorem Gd:FW (["one","first","other","second","age","end","count","word","here","there","press"]:List Str) (["one","first","other","second"]:List Str) (qh aC):=qW
theorem GD:FW (["one","other","names","name","press","pair"]:List Str) (["one","other"]:List Str) (qh cW):=qW
theorem vW:FW (["one","other"]:List Str) (["one","other"]:List Str) (qh ie):=qW
theorem GF:FW (["_law_script","_law_k","_law_cell","_law_fold","_law_one"]:List Str) (["_law_script","_law_k"]:List Str) (qh eC):=qW
theorem GJ:FW (["_law_box_here","_law_many","_law_digit","_law_m","_law_turn"]:List Str) (["_law_box_here","_law_many"]:List Str) (qh cu):=qW
theorem HG:FW (["_law_box_here","_law_rest"]:List Str) (["_law_box_here"]:List Str) (qh bt):=qW
theorem rB:FW (["_law_box_here"]:List Str) (["_law_box_here"]:List Str) (qh dh):=qW
theorem k6:FW (["_law_near","_law_far","_law_keys"]:List Str) (["_law_near","_law_far","_law_keys"]:List Str) (qh bv):=qW
theorem Gw:FW (["_law_own","_law_plain","_law_name","_law_age","_law_count","_law_row","_law_gone"]:List Str) (["_law_own","_law_plain"]:List Str) (qh bP):=qW
theorem GK:FW (["_law_own","_law_plain","_law_word_here","_law_name","_law_age","_law_count"]:List Str) (["_law_own","_law_plain"]:List Str) (qh cv):=qW
theorem GM:FW (["_law_code","_law_plain","_law_deed","_law_name","_law_age","_law_count"]:List Str) (["_law_code","_law_plain","_law_deed"]:List Str) (qh bu):=qW
theorem Gu:FW (["_law_code","_law_pair_here","_law_name","_law_told","_law_place","_law_age","_law_last","_law_presses"]:List Str) (["_law_code","_law_pair_here","_law_name","_law_told"]:List Str) (qh ax):=qW
theorem HH:FW (["_law_code","_law_pair_here","_law_plain","_law_places","_law_place"]:List Str) (["_law_code","_law_pair_here","_law_plain","_law_places"]:List Str) (qh bb):=qW
theorem dw:FW (["_law_found","_law_due"]:List Str) (["_law_found","_law_due"]:List Str) (qh bh):=qW
theorem Gn:FW (["_law_box_here","_law_way","_law_last","_law_code","_law_near","_law_fars","_law_pair_here","_law_place"]:List Str) (["_law_box_here","_law_way","_law_last"]:List Str) (qh bW):=qW
theorem rS:FW (["_law_found","_law_due"]:List Str) (["_law_found","_law_due"]:List Str) (qh gl):=qW
theorem FZ:FW (["_law_box_here","_law_code","_law_fars","_law_near","_law_last","_law_age","_law_pair_here","_law_count","_law_due","_law_told","_law_door","_law_own"]:List Str) (["_law_box_here"]:List Str) (qh Zq):=qW
theorem Gp:FW (["_law_script","_law_k","_law_box_here","_law_way","_law_last","_law_code","_law_pair_here","_law_one","_law_here","_law_other","_law_there","_law_told","_law_turn","_law_name","_law_age","_law_plain","_law_opened"]:List Str) (["_law_script"]:List Str) (qh Z7):=qW
structure GA(K:ι)(mg:FT)(tk:Nat->Tok):Prop where
 g_DIGITS:mg "DIGITS"=some (.int 16 (tk 0))
 g_KEY_PLACES:mg "KEY_PLACES"=some (.int 4 (tk 1))
 g_LONGEST_NAME:mg "LONGEST_NAME"=some (.int 8 (tk 2))
 g_CODE_DIGITS:mg "CODE_DIGITS"=some (.int 5 (tk 3))
 g_COUNTS:mg "COUNTS"=some (.int 4096 (tk 4))
 b_isinstance:mg "isinstance"=none
 b_bool:mg "bool"=none
 b_int:mg "int"=none
 b_tuple:mg "tuple"=none
 b_all:mg "all"=none
 b_any:mg "any"=none
 b_len:mg "len"=none
 b_abs:mg "abs"=none
 b_list:mg "list"=none
 b_enumerate:mg "enumerate"=none
 b_range:mg "range"=none
 b_max:mg "max"=none
 b_min:mg "min"=none
 b_str:mg "str"=none
 b_zip:mg "zip"=none
 b_ord:mg "ord"=none
 b_sum:mg "sum"=none
 b_reversed:mg "reversed"=none
 b_sorted:mg "sorted"=none
 b_dict:mg "dict"=none
 b_set:mg "set"=none
section
variable{P:Ξ}{w:Ω}{K:ι}{mg:FT}{base:Ψ}{tk:Nat->Tok}
theorem mt(a:At K mg "is_number" br ["thing"])(T:GA K mg tk):Df P w K mg base "is_number" ["thing"] 1 gh:=by
 refine a.dq l7 fun f _ A _ s H vs Q E hr h=>?_
 ·obtain⟨x,t,rfl,hk,q⟩:=h
  obtain⟨ty,ht⟩:=CZ (K:=K) hk
  refine⟨_,(qf (qk (zY (qp gi T.b_isinstance JJ (qc (qv 0) (qc (qL (v:= .ty "int") rfl T.b_int E5 rfl) qa))) (QR (cR (qp gi T.b_isinstance JJ (qc (qv 0) (qc (qL (v:= .ty "bool") rfl T.b_bool E6 rfl) qa)))))))),?_⟩
  rw[yg hk]at q;refine⟨_,rfl,x,"int",t,rfl,ty,ht,by simp,_,rfl,?_⟩
  cases hi:zE t "int" with
  |false=>
   refine zk ?_
   rw[hi,DS]at q;exact q
  |true=>
   refine zj ?_
   rw[hi,Es]at q
   exact⟨_,rfl,x,"bool",t,rfl,ty,ht,by simp,_,rfl,q⟩
theorem mR(a:At K mg "is_digit" ca ["thing"])(T:GA K mg tk)(dZ:Df P w K mg base "is_number" ["thing"] 1 gh):Df P w K mg base "is_digit" ["thing"] 2 nK:=by
 refine a.dq nA fun f _ A _ s H vs Q E hr h=>?_
 ·obtain⟨x,t,rfl,hk,q⟩:=h
  refine⟨_,(qf (qk (zY (qo dZ hr.mo (qc (qv 0) qa)) (QR (ge ZT aT qe (qv 0) (zg (v:= .int 16) rfl T.g_DIGITS ⟨_,rfl⟩)))))),?_⟩
  refine⟨_,rfl,x,t,rfl,hk,_,rfl,?_⟩
  cases hn:fY x with
  |false=>
   refine zk ?_
   rw[um hn]at q;exact q
  |true=>
   refine zj ?_
   obtain⟨i,rfl⟩:=vn hn;refine⟨_,rfl,_,_,rfl,rfl,_,rfl,?_⟩
   have q':Q (.bl (decide (0<=i)&&decide (i<16))) H:=q
   refine qQ (fun h0=>?_) (fun h0=>?_)
   ·refine⟨_,_,rfl,rfl,?_⟩
    rw[h0,Es]at q';exact q'
   ·rw[E4.mpr h0,DS]at q'
    exact q'
theorem jV(a:At K mg "are_digits" aI ["things"])(T:GA K mg tk)(x8:Df P w K mg base "is_digit" ["thing"] 2 nK):Df P w K mg base "are_digits" ["things"] 3 mC:=by
 refine a.dq jS fun f _ A _ s H vs Q E hr h=>?_
 ·obtain⟨p,xs,rfl,hp,hz,hk,q⟩:=h
  refine⟨_,(qf (qk (qp (dy rfl) T.b_all FJ (qc (zW (own:=["thing"]) (fr:=[]) (js:=[]) rfl (ZU (qv 0)) rfl (fun _ _ h=>nomatch h) rfl (eB rfl (by decide +kernel) (by decide +kernel) (by decide +kernel)) (fun _ _ _ _=>qg (i:=0) (show List.Nodup (["thing"]:List Str)from by decide +kernel) rfl (Or.inl rfl) (.inr rfl)) (fun _ _ _ _=>(qo x8 hr.mo (qc (qv 0) qa)))) qa)))),?_⟩
  refine⟨_,rfl,p,rfl,⟨xs,F7.of hp⟩,ZB (xs:=xs) hz (fun i ys H2=>ys=(xs.take i).map (fun x=>V.bl (cf x))/\FV H H2) ⟨by simp,FV.refl H⟩ (fun i ys H2 ⟨_,s2⟩=>F7.of (s2 _ _ hp)) ?_ ?_⟩
  ·rintro i ys H2 x hx _ ⟨rfl,s2⟩
   obtain⟨t,ht⟩:=hk x (DU hx)
   refine⟨_,rfl,x,t,rfl,eP s2 ht,?_,s2⟩
   rw[D6,hx];simp
  ·rintro ys H2 _ ⟨rfl,s2⟩ l hl
   rw[Ej];refine⟨l,xs.map cf,rfl,F6.of (by rw[Eb];exact qb),?_⟩
   rw[List.all_map];exact q _ (s2.trans (FV.upd hl))
theorem pI(a:At K mg "is_name" cX ["thing"])(T:GA K mg tk):Df P w K mg base "is_name" ["thing"] 1 jJ:=by
 refine a.dq pz fun f _ A _ s H vs Q E hr h=>?_
 ·obtain⟨x,b,rfl,hx,q⟩:=h
  refine⟨_,(qd (qE (QW.pt (zZ (zL (zh (qp qS T.b_isinstance JJ (qc (qv 0) (qc (qL (v:= .ty "str") rfl T.b_str Fj rfl) qa))))) (zS (zL (mz ZT ZT qe (qp lB T.b_len DW (qc (qv 0) qa)) (zg (v:= .int 8) rfl T.g_LONGEST_NAME ⟨_,rfl⟩)))))) (qf (qk Qo)) qt)
   (qf (qk (qp (dy rfl) T.b_all FJ (qc (zW (own:=["letter"]) (fr:=[]) (js:=[]) rfl (rT (qv 0)) rfl (fun _ _ h=>nomatch h) rfl (eB rfl (by decide +kernel) (by decide +kernel) (by decide +kernel)) (fun _ _ _ _=>qg (i:=0) (show List.Nodup (["letter"]:List Str)from by decide +kernel) rfl (Or.inl rfl) (.inr rfl)) (fun _ _ _ _=>(ge jI jI qz (qv 0) qz))) qa))))),?_⟩
  rcases hx with⟨z,rfl,hz,hl,rfl⟩|⟨t,hk,hs,rfl⟩
  case inr=>
   refine⟨_,rfl,x,"str",t,rfl,kY hk,by simp,_,rfl,?_⟩
   rw[hs];exact zj (q _ (FV.refl _))
  have zl:z.length=z.cps.toList.length:=rfl
  refine⟨_,rfl,_,"str","str",rfl,.str z,by simp,_,rfl,?_⟩
  refine zk ?_
  refine⟨_,rfl,z,rfl,by rw[JK];lia,_,_,rfl,rfl,_,rfl,?_⟩
  unfold wY at q
  by_cases h1:1<=z.length
  case neg=>
   refine Qa (Jm (by lia)) ⟨_,rfl,zj ?_⟩
   rw[Jm h1,DS,DS]at q;exact q _ (FV.refl _)
  refine Qb (Jg (by lia)) ?_
  refine⟨_,_,rfl,rfl,_,rfl,?_⟩
  rw[Jg h1,Es]at q
  by_cases h8:z.length<=8
  case neg=>
   refine Qb (by rw[Jm (by lia:¬((z.length:Nat):Int)<=8)];rfl) ?_
   rw[Jm h8,DS]at q;exact q _ (FV.refl _)
  refine Qa (by rw[Jg (by lia:((z.length:Nat):Int)<=8)];rfl) ?_
  rw[Jg h8,Es]at q;refine⟨_,rfl,z,rfl,hz,vB (by show z.cps.toList.length<=_;rw[JK];lia) (fun i ys H2=>H2=H/\ys=((z.cps.toList.take i).map lI).map V.bl) ⟨rfl,rfl⟩ ?_ ?_⟩
  ·rintro i ys H2 c hc _ ⟨rfl,rfl⟩
   have hc':=oo hc;obtain⟨l1,l2⟩:=oZ c;refine⟨_,rfl,_,_,rfl,rfl,_,rfl,?_⟩
   rw[D6,hc',JW,JW]
   by_cases h97:97<=c
   ·refine Qb (by rw[l1,Jg h97]) ⟨_,_,rfl,rfl,rfl,?_⟩
    rw[l2]
    show _=_++[V.bl (decide (97<=c)&&decide (c<=122))]
    rw[Jg h97,Es]
   ·refine Qa (by rw[l1,Jm h97]) ⟨rfl,?_⟩
    show _=_++[V.bl (decide (97<=c)&&decide (c<=122))]
    rw[Jm h97,DS]
  ·rintro ys H2 hl ⟨rfl,rfl⟩ l hl'
   refine⟨l,z.cps.toList.map lI,rfl,F6.of (by rw[show z.cps.size=z.cps.toList.length from rfl,Ej];exact qb),?_⟩
   rw[List.all_map];exact q _ (FV.upd hl')
theorem pL(a:At K mg "is_code" c6 ["thing"])(T:GA K mg tk)(xU:Df P w K mg base "are_digits" ["things"] 3 mC):Df P w K mg base "is_code" ["thing"] 4 jd:=by
 refine a.dq pR fun f _ A _ s H vs Q E hr h=>?_
 ·obtain⟨x,b,rfl,hx,q⟩:=h
  refine⟨_,(qd (qE (zL (zh (qp qS T.b_isinstance JJ (qc (qv 0) (qc (qL (v:= .ty "tuple") rfl T.b_tuple JN rfl) qa))))) (qf (qk Qo)) qt)
   (qf (qk (zY (zp zx (qp zm T.b_len DW (qc (qv 0) qa)) (zg (v:= .int 5) rfl T.g_CODE_DIGITS ⟨_,rfl⟩) (qr _)) (QR (qo xU hr.mo (qc (qv 0) qa))))))),?_⟩
  rcases hx with⟨pc,ds,rfl,hp,hl,hk,rfl⟩|⟨t,hk,hs,rfl⟩
  case inr=>
   refine⟨_,rfl,x,"tuple",t,rfl,kY hk,by simp,_,rfl,?_⟩
   rw[hs];exact zj (q _ (FV.refl _))
  refine⟨_,rfl,_,"tuple","tuple",rfl,.tup (.inl hp),by simp,_,rfl,?_⟩
  refine zk ?_
  refine⟨_,rfl,pc,_,rfl,.inr (F7.of hp),rfl,_,rfl,?_⟩
  by_cases h5:ds.length=5
  ·refine Qb (Jg (by rw[h5];rfl)) ?_
   refine⟨_,rfl,pc,_,rfl,hp,by rw[JK];lia,hk,fun H' s'=>?_⟩
   rw[Jg h5,Es]at q;exact q _ s'
  ·rw[Jm h5,DS]at q
   refine Qa (Jm (by intro z;injection z with z;lia)) ?_
   exact q _ (FV.refl _)
theorem nD(a:At K mg "is_press" bR ["thing"])(T:GA K mg tk)(yD:Df P w K mg base "is_name" ["thing"] 1 jJ)(dZ:Df P w K mg base "is_number" ["thing"] 1 gh)(yE:Df P w K mg base "is_code" ["thing"] 4 jd):Df P w K mg base "is_press" ["thing"] 5 cr:=by
 refine a.dq GR fun f _ A _ s H vs Q E hr h=>?_
 ·obtain⟨x,b,rfl,hx,q⟩:=h
  refine⟨_,(qd (qE (QW.pt (zZ (zL (zh (qp qS T.b_isinstance JJ (qc (qv 0) (qc (qL (v:= .ty "tuple") rfl T.b_tuple JN rfl) qa))))) (zS (qx Z9 (qp zm T.b_len DW (qc (qv 0) qa)) qe (qr _))))) (qf (qk Qo)) qt)
   (qd (zi (qv 0) (zu rfl (qm (qg (i:=1) GR.nd rfl (Or.inl rfl)) (qm (qg (i:=2) GR.nd rfl (Or.inl rfl)) (qm (qg (i:=3) GR.nd rfl (Or.inl rfl)) qP)))))
   (qf (qk (zY (qo yD hr.mo (qc (qv 1) qa)) (zY (qo dZ hr.mo (qc (qv 2) qa)) (QR (qo yE hr.mo (qc (qv 3) qa))))))))),?_⟩
  cases hx with
  | @kd t hk hs=>
   refine⟨_,rfl,x,"tuple",t,rfl,kY hk,by simp,_,rfl,?_⟩
   rw[hs];exact zj (q _ (FV.refl _))
  | @len a xs e h l n=>
   subst e;refine⟨_,rfl,_,"tuple","tuple",rfl,.tup (.inl h),by simp,_,rfl,?_⟩
   refine zk ?_
   refine⟨_,rfl,a,_,rfl,.inr (F7.of h),rfl,_,rfl,?_⟩
   refine Qb (by rw[Jm (by intro z;injection z with z;lia)];rfl) ?_
   exact q _ (FV.refl _)
  | @tup a n y c bn bc ty e h hn hy hc=>
   subst e;refine⟨_,rfl,_,"tuple","tuple",rfl,.tup (.inl h),by simp,_,rfl,?_⟩
   refine zk ?_
   refine⟨_,rfl,a,_,rfl,.inr (F7.of h),rfl,_,rfl,?_⟩
   refine eQ rfl ?_
   refine⟨_,rfl,a,_,rfl,.tup h,rfl,_,_,rfl,_,_,rfl,_,_,rfl,rfl,?_⟩
   refine⟨_,rfl,n,bn,rfl,hn,fun H1 s1=>⟨_,rfl,?_⟩⟩
   cases bn with
   |false=>exact zk (q _ s1)
   |true=>
    refine zj ?_
    refine⟨_,rfl,y,ty,rfl,eP s1 hy,_,rfl,?_⟩
    cases hnum:fY y with
    |false=>
     rw[hnum]at q;exact zk (q _ s1)
    |true=>
     rw[hnum]at q;refine zj ?_
     exact⟨_,rfl,c,bc,rfl,hc.same s1,fun H2 s2=>q _ (s1.trans s2)⟩
theorem rR(a:At K mg "word_of" cJ ["count","last","near","far"])(T:GA K mg tk):Df P w K mg base "word_of" ["count","last","near","far"] 1 oM:=by
 refine a.dq pC fun f _ A _ s H vs Q E hr h=>?_
 ·obtain⟨c,l,n,f,rfl,q⟩:=h
  unfold rK at q;refine⟨_,(qd (qE (qx ZT (qv 0) (qv 1) (qr _)) (qf (qk qz)) qt)
   (qd (qE (qx ZT (qv 0) (ql qC (qv 1) (qv 2)) (qr _)) (qf (qk qz)) qt)
   (qd (qE (qx ZT (qv 0) (ql qC (qv 1) (qv 3)) (qr _)) (qf (qk qz)) qt)
   (qf (qk qz))))),?_⟩
  refine⟨_,rfl,_,rfl,_,_,rfl,rfl,_,rfl,?_⟩
  refine qQ (fun z=>?_) (fun z=>?_)
  ·rw[Jc (Jv z)]at q;exact q
  ·rw[Jb (fun y=>z (Jg y))]at q
   refine⟨_,rfl,_,rfl,_,rfl,_,_,rfl,rfl,_,_,rfl,rfl,_,rfl,?_⟩
   refine qQ (fun z=>?_) (fun z=>?_)
   ·rw[Jc (Jv z)]at q;exact q
   ·rw[Jb (fun y=>z (Jg y))]at q
    refine⟨_,rfl,_,rfl,_,rfl,_,_,rfl,rfl,_,_,rfl,rfl,_,rfl,?_⟩
    refine qQ (fun z=>?_) (fun z=>?_)
    ·rw[Jc (Jv z)]at q;exact q
    ·rw[Jb (fun y=>z (Jg y))]at q;exact q
theorem pD(a:At K mg "step_by" eE ["button","age","count","near","far"])(T:GA K mg tk)(yG:Df P w K mg base "word_of" ["count","last","near","far"] 1 oM):Df P w K mg base "step_by" ["button","age","count","near","far"] 2 iH:=by
 refine a.dq GC fun f _ A _ s H vs Q E hr h=>?_
 ·obtain⟨a,e,age,c,near,far,rfl,⟨v,hb,hw⟩,q⟩:=h
  refine⟨_,(qd (zi (qv 0) (zu rfl (qm (qg (i:=5) GC.nd rfl (Or.inl rfl)) (qm (qg (i:=6) GC.nd rfl (Or.inl rfl)) (qm (qg (i:=7) GC.nd rfl (Or.inl rfl)) qP)))))
   (qd (qA (i:=8) GC.nd rfl (Or.inl rfl) (qo yG hr.mo (qc (qv 2) (qc (qv 6) (qc (qv 3) (qc (qv 4) qa))))))
   (qd (qE (QW.pt (mH (qx zx (qv 8) qz (qr _)) (il (qx (sS hr) (qv 7) (qu (qc (qv 1) (qc (ql zT (qv 2) qe) qa))) (qr _))))) (qf (qA (i:=8) GC.nd rfl (Or.inl rfl) qz)) qt)
   (qd (qE (qx zx (qv 8) qz (qr _)) (qf (qk (qu (qc (qv 8) (qc (qu (qc (qv 1) (qc (qv 2) (qc qM qa)))) qa))))) qt)
   (qd (qE (qx zx (qv 8) qz (qr _)) (qf (qk (qu (qc (qv 8) (qc (qu (qc (qv 5) (qc (qv 6) (qc (qu (qc (qv 1) (qc (qv 2) qa))) qa)))) qa))))) qt)
   (qf (qk (qu (qc (qv 8) (qc (qv 0) qa)))))))))),?_⟩
  refine⟨_,rfl,a,_,rfl,.tup hb,rfl,_,_,rfl,_,_,rfl,_,_,rfl,rfl,?_⟩
  refine⟨_,rfl,_,rfl,_,rfl,_,rfl,c,e.last,near,far,rfl,?_⟩
  unfold zv at q;unfold rK
  by_cases h1:c<=e.last
  ·rw[Jc h1]
   rw[Jc h1]at q;refine⟨_,rfl,rfl,_,rfl,?_⟩
   refine qQ (fun y=>absurd (Jv y) (by decide +kernel)) (fun _=>?_)
   refine⟨_,rfl,rfl,_,rfl,?_⟩
   refine qQ (fun y=>absurd (Jv y) (by decide +kernel)) (fun _=>?_)
   refine⟨_,rfl,rfl,_,rfl,?_⟩
   refine qQ (fun y=>absurd (Jv y) (by decide +kernel)) (fun _=>?_)
   refine⟨_,rfl,_,rfl,FN,fun q1 hq1=>?_⟩
   exact q q1 a _ (FV.upd hq1) qb (GH.same (FV.upd hq1) ⟨v,hb,hw⟩)
  ·rw[Jb h1]
   rw[Jb h1]at q
   by_cases h2:c<=e.last+near
   ·rw[Jc h2]
    rw[Jc h2]at q;refine⟨_,rfl,rfl,_,rfl,?_⟩
    refine qQ (fun y=>absurd (Jv y) (by decide +kernel)) (fun _=>?_)
    refine⟨_,rfl,rfl,_,rfl,?_⟩
    refine qQ (fun _=>?_) (fun y=>absurd (Jg rfl) y)
    refine⟨_,rfl,_,rfl,_,rfl,FO,fun t ht=>⟨FN,fun q1 hq1=>?_⟩⟩
    have u1:=FV.upd (o:= .tup [.int age,.int c,.non]) ht
    have u2:=FV.upd (o:= .tup [.str "near",.ref t]) hq1
    exact q q1 t _ (u1.trans u2) qb ⟨.non,u2 _ _ qb,rfl⟩
   ·rw[Jb h2]
    rw[Jb h2]at q
    by_cases h3:c<=e.last+far
    ·rw[Jc h3]
     rw[Jc h3]at q;refine⟨_,rfl,rfl,_,rfl,?_⟩
     refine qQ (fun _=>?_) (fun y=>absurd (Jg rfl) y)
     refine⟨_,rfl,_,rfl,_,rfl,_,_,rfl,rfl,FN,fun t0 ht0=>?_⟩
     have u0:=FV.upd (o:= .tup [.int age,.int (c-1)]) ht0
     have hw0:=hw.mv (S:=[]) u0.mv (fun c h=>nomatch h)
     refine⟨e.wt,t0,age,c-1,hw0,rfl,.inl qb,_,rfl,?_⟩
     by_cases h4:e.wt=some (age,c-1)
     ·rw[Jc h4]at q
      refine Qb (Jg h4) ?_
      refine⟨_,rfl,rfl,_,rfl,?_⟩
      refine qQ (fun _=>?_) (fun y=>absurd (Jg rfl) y)
      refine⟨_,rfl,_,rfl,_,rfl,FO,fun t ht=>⟨FN,fun q1 hq1=>?_⟩⟩
      have u1:=FV.upd (o:= .tup [.int age,.int c,.non]) ht
      have u2:=FV.upd (o:= .tup [.str "near",.ref t]) hq1
      exact q q1 t _ ((u0.trans u1).trans u2) qb ⟨.non,u2 _ _ qb,rfl⟩
     ·rw[Jb h4]at q
      refine Qa (Jm h4) ?_
      refine⟨_,rfl,rfl,_,rfl,?_⟩
      refine qQ (fun y=>absurd (Jv y) (by decide +kernel)) (fun _=>?_)
      refine⟨_,rfl,rfl,_,rfl,?_⟩
      refine qQ (fun _=>?_) (fun y=>absurd (Jg rfl) y)
      refine⟨_,rfl,_,rfl,_,rfl,_,rfl,_,rfl,FN,fun t1 ht1=>⟨FO,fun t ht=>⟨FN,fun q1 hq1=>?_⟩⟩⟩
      have u1:=FV.upd (o:= .tup [.int age,.int c]) ht1
      have u2:=FV.upd (o:= .tup [.int e.age,.int e.last,.ref t1]) ht
      have u3:=FV.upd (o:= .tup [.str "far",.ref t]) hq1
      exact q q1 t _ (((u0.trans u1).trans u2).trans u3) qb ⟨.ref t1,u3 _ _ qb,t1,rfl,u3 _ _ (u2 _ _ qb)⟩
    ·rw[Jb h3]
     rw[Jb h3]at q;refine⟨_,rfl,rfl,_,rfl,?_⟩
     refine qQ (fun y=>absurd (Jv y) (by decide +kernel)) (fun _=>?_)
     refine⟨_,rfl,rfl,_,rfl,?_⟩
     refine qQ (fun y=>absurd (Jv y) (by decide +kernel)) (fun _=>?_)
     refine⟨_,rfl,rfl,_,rfl,?_⟩
     refine qQ (fun y=>absurd (Jv y) (by decide +kernel)) (fun _=>?_)
     refine⟨_,rfl,_,rfl,FN,fun q1 hq1=>?_⟩
     exact q q1 a _ (FV.upd hq1) qb (GH.same (FV.upd hq1) ⟨v,hb,hw⟩)
end
section
variable{P:Ξ}{w:Ω}{K:ι}{mg:FT}{base:Ψ}{tk:Nat->Tok}{C:Δ}
theorem ii(a:HQ K C "__init__" "Door.__init__" QX ["self","table","keys","near","far","most"])(T:GA K mg tk)(U:GW K C):Mf P w K mg base C "__init__" ["self","table","keys","near","far","most"] 1 (Ao K C):=by
 refine a.mq bz fun f _ A _ s H vs Q E hr h=>?_
 ·obtain⟨p,a,b,dx,near,far,most,t,kss,rfl,hp,ha,hb,hl,q⟩:=h
  refine⟨_,(qd (zM (qv 0) (qI bm T.b_tuple JN (qc (qv 1) qa)))
   (qd (zM (qv 0) (zW (own:=["key"]) (fr:=[]) (js:=[]) rfl (Zh (qv 2)) rfl (fun _ _ h=>nomatch h) rfl (eB rfl (by decide +kernel) (by decide +kernel) (by decide +kernel)) (fun _ _ _ _=>qg (i:=0) (show List.Nodup (["key"]:List Str)from by decide +kernel) rfl (Or.inl rfl) (.inr rfl)) (fun _ _ _ _=>(qI fH T.b_tuple JN (qc (qv 0) qa)))))
   (qd (zM (qv 0) (qv 3))
   (qd (zM (qv 0) (qv 4))
   (qd (zM (qv 0) (qv 5))
   (qd (zM (qv 0) qe)
   (qd (zM (qv 0) gf)
   (qf (zM (qv 0) (zc qa)))))))))),?_⟩
  refine⟨_,rfl,a,_,rfl,ha,fun ta H2 s2 ht=>⟨_,rfl,p,_,rfl,zo U.cl (s2 _ _ hp) U.n_table 0,?_⟩⟩
  have e2:=s2 _ _ hp;have hb2:=(hb.same s2).upd (o:= .ins C dx [("table",.ref ta)]) e2
  obtain⟨as,eb,la,hks⟩:=hb2;have ht2:=eM (o:= .ins C dx [("table",.ref ta)]) e2 ht
  refine⟨_,rfl,b,rfl,⟨_,F6.of eb⟩,aQ (K:=K) (xs:=as.map V.ref) (by rw[Je,la,JK];lia) (fun i ys H3=>FV (F2 H2 p (.ins C dx [("table",.ref ta)])) H3/\∃bs:List Δ,ys=bs.map V.ref/\bs.length=i/\∀(j:Nat) (x:Δ) (ks:List Int),bs[j]? =some x->kss[j]? =some ks->F7 [] H3 x (ks.map V.int)) ⟨FV.refl _,[],rfl,rfl,fun j x ks e=>by(cases e)⟩ (fun i ys H3 ⟨s3,_⟩=>s3.seq (F6.of eb)) ?_ ?_⟩
  ·rintro i ys H3 x hx hyl ⟨s3,bs,rfl,hbl,hbs⟩
   rw[Jq]at hx;cases ea:as[i]? with
   |none=>rw[ea]at hx;cases hx
   |some x0=>
    rw[ea]at hx
    obtain rfl:V.ref x0=x:=JB hx
    have hi:i<kss.length:=by rw[<- la];exact(JH.mp ea).1
    have hk0:=hks i x0 kss[i] ea (Jk hi);refine⟨_,rfl,x0,_,rfl,.inr (FV.sqt s3 hk0).rd,fun l H4 s4 hl4=>⟨s3.trans s4,bs++[l],by simp,by simp [hbl],fun j y ks e1 e2'=>?_⟩⟩
    rw[FK]at e1;split at e1
    ·exact FV.sqt s4 (hbs j y ks e1 e2')
    ·have hj:j-bs.length=0:=by
      cases hj:j-bs.length with
      |zero=>rfl
      |succ k=>rw[hj]at e1;cases e1
     rw[hj]at e1;cases e1
     have:j=i:=by lia
     subst this;rw[Jk hi]at e2';cases e2';exact .inl hl4
  ·rintro ys H3 hyl ⟨s3,bs,rfl,hbl,hbs⟩ hk hhk
   have u3:=FV.upd (o:= .lst (bs.map V.ref)) hhk
   have e3:=u3 _ _ (s3 _ _ qb);refine⟨_,rfl,p,_,rfl,zo U.cl e3 U.n_house_keys 1,?_⟩
   refine⟨_,rfl,_,rfl,p,_,rfl,zo U.cl qb U.n_near 2,?_⟩
   refine⟨_,rfl,_,rfl,p,_,rfl,zo U.cl qb U.n_far 3,?_⟩
   refine⟨_,rfl,_,rfl,p,_,rfl,zo U.cl qb U.n_most 4,?_⟩
   refine⟨_,rfl,p,_,rfl,zo U.cl qb U.n_least_age 5,?_⟩
   refine fun bd hbd=>⟨_,rfl,p,_,rfl,zo U.cl (by rw[qi (qj qb hbd)];exact qb) U.n_buttons 6,?_⟩
   have nbd:=qj qb hbd;refine⟨FL,fun lg hlg=>⟨_,rfl,p,_,rfl,zo U.cl (by rw[qi (qj qb hlg)];exact qb) U.n_log 7,?_⟩⟩
   have nlg:=qj qb hlg;have m3:Mv [p] H H3:=((s2.mv (S:=[p])).trans Mv.upd1).trans s3.mv
   have nhk:hk≠p:=(qj (s3 _ _ qb) hhk).symm
   have m4:Mv [p] H (F2 H3 hk (.lst (bs.map V.ref))):=m3.trans u3.mv
   have M:∀o1 o2 o3 o4 o5,Mv [p] (F2 H3 hk (.lst (bs.map V.ref))) (F2 (F2 (F2 (F2 (F2 (F2 H3 hk (.lst (bs.map V.ref))) p o1) p o2) p o3) p o4) p o5):=fun o1 o2 o3 o4 o5=>(((Mv.upd1.trans Mv.upd1).trans Mv.upd1).trans Mv.upd1).trans Mv.upd1
   have M6:Mv [p] (F2 H3 hk (.lst (bs.map V.ref))) _:=(((M _ _ _ _ _).trans (FV.upd hbd).mv).trans Mv.upd1).trans (FV.upd (o:= .lst []) hlg).mv
   have M7:=M6.trans (Mv.upd1 (o:= .ins C dx (dF ⟨t,kss,near,far,most,0,[]⟩ ta hk bd lg)))
   have nt:NT [p] (F2 H3 hk (.lst (bs.map V.ref))):=NT.one e3 trivial
   have hbdlg:bd≠lg:=qj (by rw[qi nbd.symm];exact qb) hlg
   have KR:=Gm.mv M7 nt (zf nhk) (show Gm [] _ hk kss from⟨bs,qb,by rw[hbl,Je,la],fun j x ks e1 e2'=>FV.sqt u3 (hbs j x ks e1 e2')⟩)
   refine q ta hk bd lg _ (m3.nfree (zf nhk) hhk) ((m4.trans (M _ _ _ _ _)).nfree (zf nbd.symm) hbd) ((m4.trans ((((M _ _ _ _ _).trans (FV.upd hbd).mv).trans Mv.upd1))).nfree (zf nlg.symm) hlg) (m4.trans M7) ⟨⟨dx,qb⟩,?_,Gm.up KR,?_,?_,?_⟩ KR
   ·exact M7.sqt nt (FV.sqt u3 (FV.sqt s3 ht2))
   ·exact⟨([],fun _=>0),by rw[qi nbd.symm,qi hbdlg,qi nbd.symm];exact qb,fun e he=>by(cases he),.refl _,Er⟩
   ·exact⟨[],by rw[qi nlg.symm];exact qb,Jf _⟩
   ·refine(qj (o:= .lst (bs.map V.ref)) ?_ hlg).symm
    rw[qi nhk];rw[qi (qj (o:= .lst (bs.map V.ref)) (by rw[qi nhk,qi nhk,qi nhk,qi nhk,qi nhk];exact qb) hbd)]
    rw[qi nhk,qi nhk,qi nhk,qi nhk,qi nhk];exact qb
theorem gC(a:HQ K C "is_full" "Door.is_full" ZO ["self"])(T:GA K mg tk)(U:GW K C):Mf P w K mg base C "is_full" ["self"] 1 (ox K C):=by
 refine a.mq gZ fun f _ A _ s H vs Q E hr h=>?_
 ·obtain⟨p,ta,hk,bd,lg,n,D,rfl,b,q⟩:=h
  obtain⟨fn,hd,_,hpm,_⟩:=b.kb;refine⟨_,(qf (qk (zp rj (qp tU T.b_len DW (qc (qY (qv 0)) qa)) (qY (qv 0)) (qr _)))),?_⟩
  refine⟨_,rfl,p,_,rfl,b.h_buttons U,bd,_,rfl,hd,_,rfl,p,_,rfl,b.h_most U,_,_,rfl,rfl,?_⟩
  rw[show(gU fn.1 fn.2).length=D.kn.length from(Je _).trans hpm.length_eq]
  exact q
theorem ft(a:HQ K C "button_of" "Door.button_of" Q6 ["self","name"])(T:GA K mg tk)(U:GW K C):Mf P w K mg base C "button_of" ["self","name"] 1 (gX K C):=by
 refine a.mq fw fun f _ A _ s H vs Q E hr h=>?_
 ·obtain⟨p,ta,hk,bd,lg,n,D,nm,rfl,b,q1,q2⟩:=h
  refine⟨_,(qf (qk (lT hr (qY (qv 0)) (qv 1)))),?_⟩
  obtain⟨fn,hd,_⟩:=id b.kb;refine⟨_,rfl,p,_,rfl,b.h_buttons U,bd,rfl,.inl ⟨_,.inl hd⟩,_,rfl,?_⟩
  rcases b.kb.get nm with⟨e1,g⟩|⟨e,x,e1,g,hx⟩
  ·exact⟨_,g,q1 e1⟩
  ·exact⟨_,g,q2 e x e1 hx⟩
theorem fA(a:HQ K C "takes_age" "Door.takes_age" Q3 ["self","age"])(T:GA K mg tk)(U:GW K C):Mf P w K mg base C "takes_age" ["self","age"] 1 (fK K C):=by
 refine a.mq fu fun f _ A _ s H vs Q E hr h=>?_
 ·obtain⟨p,ta,hk,bd,lg,n,D,age,rfl,b,q⟩:=h
  obtain⟨as,eh,la,_⟩:=b.ks;refine⟨_,(qf (qk (ge ZT aT (qY (qv 0)) (qv 1) (qp zm T.b_len DW (qc (qY (qv 0)) qa))))),?_⟩
  unfold QH at q;refine⟨_,rfl,p,_,rfl,b.h_least_age U,_,rfl,_,_,rfl,rfl,_,rfl,?_⟩
  refine qQ (fun z=>?_) (fun z=>?_)
  ·rw[z,Es]at q
   refine⟨_,rfl,p,_,rfl,b.h_house_keys U,hk,_,rfl,.inl (F6.of eh),_,_,rfl,rfl,?_⟩
   rw[Je,la];exact q
  ·rw[E4.mpr z,DS]at q
   exact q
theorem cP(a:HQ K C "takes_from" "Door.takes_from" QP ["self","button","age"])(T:GA K mg tk)(U:GW K C)(dI:Mf P w K mg base C "takes_age" ["self","age"] 1 (fK K C)):Mf P w K mg base C "takes_from" ["self","button","age"] 2 (bF K C):=by
 refine a.mq cN fun f _ A _ s H vs Q E hr h=>?_
 ·obtain⟨p,ta,hk,bd,lg,x,n,D,e,age,rfl,b,⟨v,hx,hw⟩,q⟩:=h
  refine⟨_,(qf (qk (zY (qZ dI U.cl hr.mo (qv 0) (qc (qv 2) qa)) (QR (zp rj (qv 2) (qw qK (qv 1) qe) (qr _)))))),?_⟩
  unfold qH at q;refine⟨_,rfl,p,rfl,b.no,_,rfl,p,ta,hk,bd,lg,n,D,age,rfl,b,_,rfl,?_⟩
  refine qQ (fun z=>?_) (fun z=>?_)
  ·rw[z,Es]at q
   exact⟨_,rfl,_,rfl,x,_,_,_,rfl,rfl,F7.of hx,rfl,_,_,rfl,rfl,q⟩
  ·rw[E4.mpr z,DS]at q
   exact q
theorem dz(a:HQ K C "plain_step" "Door.plain_step" Qh ["self","button","age","count"])(T:GA K mg tk)(U:GW K C)(dB:Mf P w K mg base C "takes_from" ["self","button","age"] 2 (bF K C))(xG:Df P w K mg base "step_by" ["button","age","count","near","far"] 2 iH):Mf P w K mg base C "plain_step" ["self","button","age","count"] 3 (nN K C):=by
 refine a.mq ZV fun f _ A _ s H vs Q E hr h=>?_
 ·obtain⟨p,ta,hk,bd,lg,x,n,D,e,age,c,rfl,b,hx,ht,q⟩:=h
  refine⟨_,(qd (qE (zL (zh (qZ dB U.cl hr.mo (qv 0) (qc (qv 1) (qc (qv 2) qa))))) (qf (qk (qu (qc qz (qc (qv 1) qa))))) qt)
   (qf (qk (qo xG hr.mo (qc (qv 1) (qc (qv 2) (qc (qv 3) (qc (qY (qv 0)) (qc (qY (qv 0)) qa))))))))),?_⟩
  refine⟨_,rfl,p,rfl,b.no,_,rfl,_,rfl,p,ta,hk,bd,lg,x,n,D,e,age,rfl,b,hx,_,rfl,?_⟩
  rw[ht];refine zk ?_
  exact⟨_,rfl,_,rfl,_,rfl,_,rfl,p,_,rfl,b.h_near U,_,rfl,p,_,rfl,b.h_far U,x,e,age,c,D.near,D.far,rfl,hx,q⟩
theorem fB(a:HQ K C "answer_to" "Door.answer_to" Q2 ["self","press"])(T:GA K mg tk)(U:GW K C)(dC:Mf P w K mg base C "button_of" ["self","name"] 1 (gX K C))(dB:Mf P w K mg base C "takes_from" ["self","button","age"] 2 (bF K C))(dG:Mf P w K mg base C "plain_step" ["self","button","age","count"] 3 (nN K C))
  (dQ:Df P w K mg base "read_press" ["table","key","press"] 3 (kq K)):Mf P w K mg base C "answer_to" ["self","press"] 4 (i8 K C):=by
 refine a.mq F4 fun f _ A _ s H vs Q E hr h=>?_
 ·obtain⟨p,ta,hk,bd,lg,pr,n,D,nm,age,ds,rfl,b,ok,⟨pc,hp,hpc⟩,hn,l5,hdd,q⟩:=h
  refine⟨_,(qd (zi (qv 1) (zu rfl (qm (qg (i:=2) F4.nd rfl (Or.inl rfl)) (qm (qg (i:=3) F4.nd rfl (Or.inl rfl)) (qm (qg (i:=4) F4.nd rfl (Or.inl rfl)) qP)))))
   (qd (qA (i:=5) F4.nd rfl (Or.inl rfl) (qZ dC U.cl hr.mo (qv 0) (qc (qv 2) qa)))
   (qd (qE (qx zX (qv 5) qM (qr _)) (qf (qk (qu (qc qz (qc qz qa))))) qt)
   (qd (qE (zL (zh (qZ dB U.cl hr.mo (qv 0) (qc (qv 5) (qc (qv 3) qa))))) (qf (qk (qu (qc qz (qc qz qa))))) qt)
   (qd (qA (i:=6) F4.nd rfl (Or.inl rfl) (qo dQ hr.mo (qc (qY (qv 0)) (qc (qw qF (qY (qv 0)) (qv 3)) (qc (qv 1) qa)))))
   (qd (qE (qx zX (qv 6) qM (qr _)) (qf (qk (qu (qc qz (qc qz qa))))) qt)
   (qd (zi (qv 6) (zu rfl (qm (qg (i:=7) F4.nd rfl (Or.inl rfl)) (qm (qg (i:=8) F4.nd rfl (Or.inl rfl)) qP))))
   (qd (zi (qZ dG U.cl hr.mo (qv 0) (qc (qv 5) (qc (qv 3) (qc (qv 7) qa)))) (zu rfl (qm (qg (i:=9) F4.nd rfl (Or.inl rfl)) (qm (qg (i:=10) F4.nd rfl (Or.inl rfl)) qP))))
   (qd (Q8 hr (qY (qv 0)) (qv 2) (qv 10))
   (qd (qE (qx zx (qv 9) qz (qr _)) (qf (qk (qu (qc qz (qc (qv 2) (qc (qv 8) qa)))))) qt)
   (qf (qk (qu (qc qz (qc (qv 9) qa))))))))))))))),?_⟩
  refine⟨_,rfl,pr,_,rfl,.tup hp,rfl,_,_,rfl,_,_,rfl,_,_,rfl,rfl,?_⟩
  refine⟨_,rfl,p,rfl,b.no,_,rfl,p,ta,hk,bd,lg,n,D,nm,rfl,b,fun e1=>?_,fun e x e1 hx=>?_⟩
  ·have eJ:qT D nm age (Zl D.t (Qs D age) nm ds)=([.str "held",.str "unknown"],D.kn):=by unfold qT;rw[e1]
   rw[eJ]at q;refine⟨_,rfl,rfl,_,rfl,?_⟩
   refine qQ (fun _=>?_) (fun y=>absurd (Jg rfl) y)
   refine⟨FN,fun q1 hq1=>?_⟩
   exact q q1 _ (FV.upd hq1).mv qb (b.same (FV.upd hq1))
  ·refine⟨_,rfl,rfl,_,rfl,?_⟩
   refine qQ (fun y=>nomatch (Jv y)) (fun _=>?_)
   refine⟨_,rfl,p,rfl,b.no,_,rfl,_,rfl,p,ta,hk,bd,lg,x,n,D,e,age,rfl,b,hx,_,rfl,?_⟩
   cases ht:qH D e age with
   |false=>
    have eJ:qT D nm age (Zl D.t (Qs D age) nm ds)=([.str "held",.str "age"],D.kn):=by unfold qT;rw[e1];simp only;rw[ht];rfl
    rw[eJ]at q;refine zj ?_
    refine⟨FN,fun q1 hq1=>?_⟩
    exact q q1 _ (FV.upd hq1).mv qb (b.same (FV.upd hq1))
   |true=>
    refine zk ?_
    obtain⟨a0,a1⟩:=aV ht ok.l0;obtain⟨xs,ak,eh,hat,hak⟩:=b.ks.at a0 a1;refine⟨_,rfl,p,_,rfl,b.h_table U,_,rfl,p,_,rfl,b.h_house_keys U,_,rfl,hk,_,_,_,rfl,rfl,F6.of eh,hat,_,rfl,ta,ak,pr,pc,nm,age,D.t,Qs D age,ds,rfl,.inr b.tb,.inr hak,.tup hp,.tup hpc,hn,ok.tp,l5,hdd,fun y H1 s1 told=>?_⟩
    have b1:=b.same s1;have hx1:=hx.same s1;have told':c9 H1 y (Zl D.t (Qs D age) nm ds):=told
    cases er:Zl D.t (Qs D age) nm ds with
    |none=>
     rw[er]at told' q;have ey:y= .non:=told'
     subst ey;have eJ:qT D nm age none=([.str "held",.str "false"],D.kn):=by unfold qT;rw[e1];simp only;rw[ht];rfl
     rw[eJ]at q;refine⟨_,rfl,rfl,_,rfl,?_⟩
     refine qQ (fun _=>?_) (fun y=>absurd (Jg rfl) y)
     refine⟨FN,fun q1 hq1=>?_⟩
     exact q q1 _ (s1.trans (FV.upd hq1)).mv qb (b1.same (FV.upd hq1))
    |some cd=>
     obtain⟨c,d⟩:=cd;rw[er]at told' q;obtain⟨pp,ey,hpp⟩:=told';subst ey;refine⟨_,rfl,rfl,_,rfl,?_⟩
     refine qQ (fun y=>nomatch (Jv y)) (fun _=>?_)
     refine⟨_,rfl,pp,_,rfl,.tup hpp,rfl,_,_,rfl,_,_,rfl,rfl,?_⟩
     refine⟨_,rfl,p,rfl,b1.no,_,rfl,_,rfl,_,rfl,p,ta,hk,bd,lg,x,n,D,e,age,c,rfl,b1,hx1,ht,fun q1 a' H2 s2 hq1 hb'=>⟨q1,_,rfl,.tup hq1,rfl,_,_,rfl,_,_,rfl,rfl,?_⟩⟩
     have b2:=b1.same s2;obtain⟨H3,dp,m3,kb3⟩:=b2.kb.put nm (by have:=ok.nl;lia) hb'
     refine⟨_,rfl,_,rfl,p,_,rfl,b2.h_buttons U,_,rfl,bd,H3,rfl,dp,?_⟩
     have b3:=b2.putK m3 kb3;have mm:Mv [bd] H H3:=(s1.trans s2).mv.trans m3
     refine⟨_,rfl,rfl,_,rfl,?_⟩
     by_cases hw:(zv D.near D.far e age c).1="near"
     ·have eJ:qT D nm age (some (c,d))=([.str "open",.str nm,.int d],zb D.kn nm (zv D.near D.far e age c).2):=by unfold qT;rw[e1];simp only;rw[Jc ht,Jc hw]
      rw[eJ]at q;refine qQ (fun _=>?_) (fun y=>absurd (Jg (by rw[hw])) y)
      refine⟨_,rfl,_,rfl,FO,fun q2 hq2=>?_⟩
      exact q q2 _ (mm.trans (FV.upd hq2).mv) qb (b3.same (FV.upd hq2))
     ·have eJ:qT D nm age (some (c,d))=([.str "held",.str (zv D.near D.far e age c).1],zb D.kn nm (zv D.near D.far e age c).2):=by unfold qT;rw[e1];simp only;rw[Jc ht,Jb hw]
      rw[eJ]at q;refine qQ (fun y=>absurd (Jv y) (by intro z;injection z with z;exact hw z)) (fun _=>?_)
      refine⟨_,rfl,FN,fun q2 hq2=>?_⟩
      exact q q2 _ (mm.trans (FV.upd hq2).mv) qb (b3.same (FV.upd hq2))
theorem eG(a:HQ K C "read_right" "Door.read_right" QN ["self","thing"])(T:GA K mg tk)(U:GW K C)(xA:Df P w K mg base "is_press" ["thing"] 5 cr)(dI:Mf P w K mg base C "takes_age" ["self","age"] 1 (fK K C))(dQ:Df P w K mg base "read_press" ["table","key","press"] 3 (kq K)):Mf P w K mg base C "read_right" ["self","thing"] 6 (jo K C):=by
 refine a.mq cQ fun f _ A _ s H vs Q E hr h=>?_
 ·obtain⟨p,ta,hk,bd,lg,n,D,x,o,rfl,b,ok,tg,q⟩:=h
  refine⟨_,(qd (qE (QW.pt (zZ (zL (zh (qo xA hr.mo (qc (qv 1) qa)))) (zS (zL (zh (qZ dI U.cl hr.mo (qv 0) (qc (qw qK (qv 1) qe) qa))))))) (qf (qk qM)) qt)
   (qf (qk (qo dQ hr.mo (qc (qY (qv 0)) (qc (qw qF (qY (qv 0)) (qw qK (qv 1) qe)) (qc (qv 1) qa))))))),?_⟩
  refine⟨_,rfl,x,_,rfl,tg.b,fun H1 s1=>⟨_,rfl,?_⟩⟩
  cases o with
  |none=>exact zj (zj (q .non _ s1 rfl))
  |some PP=>
  obtain⟨pr,rfl,hp,hn,l5,hdd⟩:=tg;have q:∀y H',FV H H'->c9 H' y (cV D PP)->Q y H':=q
  obtain⟨nm,age,ds⟩:=PP;simp only at hn l5 hdd
  refine zk ?_
  have b1:=b.same s1;obtain⟨pc,hp1,hpc1⟩:=Gy.same s1 hp;refine⟨_,rfl,p,rfl,b1.no,_,rfl,pr,_,_,_,rfl,rfl,F7.of hp1,rfl,p,ta,hk,bd,lg,n,D,age,rfl,b1,_,rfl,?_⟩
  unfold cV at q;cases ht:QH D age with
  |false=>
   rw[Jb (by rw[ht];intro z;cases z)]at q
   exact zj (q _ _ s1 rfl)
  |true=>
  rw[Jc ht]at q;refine zk ?_
  have ht':qH D ⟨age,0,none⟩ age=true:=by unfold qH;rw[ht,Jg (Jr _)];rfl
  obtain⟨a0,a1⟩:=aV ht' ok.l0;obtain⟨xs,ak,eh,hat,hak⟩:=b1.ks.at a0 a1
  exact⟨_,rfl,p,_,rfl,b1.h_table U,_,rfl,p,_,rfl,b1.h_house_keys U,_,rfl,pr,_,_,_,rfl,rfl,F7.of hp1,rfl,hk,_,_,_,rfl,rfl,F6.of eh,hat,_,rfl,ta,ak,pr,pc,nm,age,D.t,Qs D age,ds,rfl,.inr b1.tb,.inr hak,.tup hp1,.tup hpc1,hn,ok.tp,l5,hdd,fun y H2 s2 told=>q y H2 (s1.trans s2) told⟩
theorem fC(a:HQ K C "known_now" "Door.known_now" Q9 ["self"])(T:GA K mg tk)(U:GW K C):Mf P w K mg base C "known_now" ["self"] 1 (mr K C):=by
 refine a.mq fv fun f _ A _ s H vs Q E hr h=>?_
 ·obtain⟨p,ta,hk,bd,lg,n,D,rfl,b,ok,q⟩:=h
  obtain⟨fn,hd,hbu,hpm,_⟩:=id b.kb;refine⟨_,(qf (qk (qI qX T.b_tuple JN (qc (zW (own:=["name"]) (fr:=["self"]) (js:=[0]) rfl (Zh (qp (k9 rfl) T.b_sorted PyProof.Rows.boot_sorted (qc (qY (qv 0)) qa))) rfl (kE rfl) rfl (lq rfl (by decide +kernel) (by decide +kernel) (by decide +kernel) rfl rfl rfl) (fun _ _ _ _=>qg (i:=0) (show List.Nodup (["name","self"]:List Str)from by decide +kernel) rfl (Or.inl rfl) (.inr rfl)) (fun _ _ _ _=>(ql ZF (qu (qc (qv 0) qa)) (Qd hr (AJ (K:=K) rfl (qv 1)) (qv 0))))) qa)))),?_⟩
  refine⟨_,rfl,p,_,rfl,b.h_buttons U,bd,_,fn.1.map (·.1),rfl,hd,yM _ _,by rw[Je,hpm.length_eq];have:=ok.nl;lia,fun l ss hl pm0 so=>⟨l,rfl,⟨_,F6.of qb⟩,?_⟩⟩
  have pm:=pm0.trans (hpm.map (·.1))
  have u1:=FV.upd (o:= .lst (ss.map V.str)) hl
  have ls:ss.length<=60:=by rw[pm.length_eq,Je];exact ok.nl
  refine aQ (K:=K) (xs:=ss.map V.str) (by rw[Je,JK];lia) (fun i ys H3=>FV (F2 H l (.lst (ss.map V.str))) H3/\∃as:List Δ,ys=as.map V.ref/\as.length=i/\∀(j:Nat) (x:Δ) (nm:Str) (e:Kb),as[j]? =some x->ss[j]? =some nm->D.kn.lookup nm=some e->∃v,H3 x=some (.tup [.str nm,.int e.age,.int e.last,v])/\Wt H3 v e.wt) ⟨FV.refl _,[],rfl,rfl,fun j x nm e h=>by(cases h)⟩ (fun i ys H3 ⟨s3,_⟩=>s3.seq (F6.of qb)) ?_ ?_
  ·rintro i ys H3 x hx hyl ⟨s3,as,rfl,hal,has⟩
   rw[Jq]at hx;cases es:ss[i]? with
   |none=>rw[es]at hx;cases hx
   |some nm=>
    rw[es]at hx
    obtain rfl:V.str nm=x:=JB hx
    have hmem:nm∈D.kn.map (·.1):=pm.mem_iff.mp (DU es)
    obtain⟨e,he⟩:=Q1 hmem;have b3:=b.same (u1.trans s3);obtain⟨e',x0,he',g,v0,hx0,hw0⟩:=(b3.kb.get nm).resolve_left (fun z=>by rw[he]at z;cases z.1)
    rw[he]at he';cases he';refine⟨_,rfl,FM,fun t ht=>?_⟩
    have u4:=FV.upd (o:= .tup [.str nm]) ht
    have b4:=b3.same u4;obtain⟨e',x0,he',g,v0,hx0,hw0⟩:=(b4.kb.get nm).resolve_left (fun z=>by rw[he]at z;cases z.1)
    rw[he]at he';cases he';refine⟨_,rfl,p,_,rfl,b4.h_buttons U,_,rfl,bd,_,rfl,g,t,x0,_,_,rfl,rfl,qb,hx0,FP,fun q1 H5 s5 hq1=>?_⟩
    refine⟨(s3.trans u4).trans s5,as++[q1],by simp,by simp [hal],fun j y m2 e2 h1 h2 h3=>?_⟩
    rw[FK]at h1;split at h1
    ·obtain⟨v,a1,a2⟩:=has j y m2 e2 h1 h2 h3
     exact⟨v,s5 _ _ (u4 _ _ a1),a2.mv (S:=[]) (u4.trans s5).mv (fun c h=>nomatch h)⟩
    ·have hj:j-as.length=0:=by
      cases hj:j-as.length with
      |zero=>rfl
      |succ k=>rw[hj]at h1;cases h1
     rw[hj]at h1;cases h1
     obtain rfl:j=i:=by lia
     rw[es]at h2;cases h2;rw[he]at h3;cases h3
     exact⟨v0,hq1,hw0.mv (S:=[]) s5.mv (fun c h=>nomatch h)⟩
  ·rintro ys H3 hyl ⟨s3,as,rfl,hal,has⟩ l2 hl2
   have u4:=FV.upd (o:= .lst (as.map V.ref)) hl2
   refine⟨l2,_,rfl,.inl ⟨F6.of qb,fun q1 hq1=>?_⟩⟩
   have u5:=FV.upd (o:= .tup (as.map V.ref)) hq1
   have S:=u4.trans u5;refine q q1 ss _ ((u1.trans s3).trans S) pm so ⟨as,qb,by rw[hal,Je],fun j x nm e h1 h2 h3=>?_⟩
   obtain⟨v,a1,a2⟩:=has j x nm e h1 h2 h3
   exact⟨v,S _ _ a1,a2.mv (S:=[]) S.mv (fun c h=>nomatch h)⟩
end
section
variable{P:Ξ}{w:Ω}{K:ι}{mg:FT}{base:Ψ}{tk:Nat->Tok}{C:Δ}
theorem mJ(a:HQ K C "hear" "Door.hear" bo ["self","thing"])(T:GA K mg tk)(U:GW K C)(xA:Df P w K mg base "is_press" ["thing"] 5 cr)(xD:Mf P w K mg base C "answer_to" ["self","press"] 4 (i8 K C)):Mf P w K mg base C "hear" ["self","thing"] 6 (iO K C):=by
 refine a.mq HF fun f _ A _ s H vs Q E hr h=>?_
 ·obtain⟨⟨p,ta,hk,bd,lg⟩,D,L,x,o,rfl,⟨b,⟨rs,el,ro⟩,kr⟩,n1,ok,tg,qn,qs⟩:=h
  simp only at b el kr qs
  refine⟨_,(qd (qE (zL (zh (qo xA hr.mo (qc (qv 1) qa)))) (qf (qk (qu (qc qz (qc qz qa))))) qt)
   (qd (qA (i:=2) HF.nd rfl (Or.inl rfl) (qZ xD U.cl hr.mo (qv 0) (qc (qv 1) qa)))
   (qd (zr (aa Et EF EG Qm (qY (qv 0)) (qc (qu (qc qz (qc (qv 1) (qc (qv 2) qa)))) qa)))
   (qf (qk (qv 2)))))),?_⟩
  refine⟨_,rfl,x,_,rfl,tg.b,fun H1 s1=>⟨_,rfl,?_⟩⟩
  cases o with
  |none=>exact zj ⟨FN,fun q hq=>qn rfl q _ (s1.trans (FV.upd hq)) qb⟩
  |some PP=>
  obtain⟨pr,rfl,hp,okP⟩:=tg;have q:=qs PP rfl;refine zk ?_
  have b1:=b.same s1;obtain⟨f0,hd,_⟩:=id b1.kb;have ntb:NT [bd] H1:=NT.one hd trivial
  refine⟨_,rfl,p,rfl,b1.no,_,rfl,p,ta,hk,bd,lg,pr,L.length,D,PP.nm,PP.age,PP.ds,rfl,b1,ok,Gy.same s1 hp,okP.nm,okP.l,okP.dg,fun q1 H2 m2 hq1 b2=>?_⟩
  have el2:=m2 _ _ (zf (Qe (s1 _ _ el) hd (by intro z;cases z))) (s1 _ _ el)
  have ro2:=(ro.same s1).mv m2 ntb;refine⟨_,rfl,p,_,rfl,b2.h_log U,.inl ⟨rfl,_,F6.of el2⟩,_,rfl,_,rfl,FO,fun r hr'=>?_⟩
  have u3:=FV.upd (o:= .tup [.str "hear",.ref pr,.ref q1]) hr'
  have b3:=b2.same u3;have pr3:=Gy.same u3 (Gy.mv m2 ntb (Gy.same s1 hp));have ntl:NT [lg] _:=NT.one (u3 _ _ el2) trivial
  refine⟨lg,_,_,rfl,rfl,u3 _ _ el2,by rw[Je,ro.1,JK];lia,⟨_,rfl,?_⟩⟩
  exact q pr q1 _ rfl (((s1.mv.trans (m2.mono (fun c h z=>h (by rw[Jj.mp z];exact Jy ..)))).trans u3.mv).trans (Mv.upd1.mono (fun c h z=>h (by rw[Jj.mp z];exact JE _ (Jy ..))))) (Gy.mv Mv.upd1 ntl pr3) (Mv.upd1.tup ntl (u3 _ _ hq1)) (GI.push (a:=⟨p,ta,hk,bd,lg⟩) b3 (u3 _ _ el2) (ro2.same u3) ((Gm.mv m2 ntb (zf (xr hd b1)) (Gm.same s1 kr)).same u3) ⟨pr,q1,.inl qb,pr3,okP,u3 _ _ hq1,sF D PP,wl D PP⟩)
theorem cG(a:HQ K C "close_below" "Door.close_below" QD ["self","age"])(T:GA K mg tk)(U:GW K C):Mf P w K mg base C "close_below" ["self","age"] 1 (mI K C):=by
 refine a.mq cH fun f _ A _ s H vs Q E hr h=>?_
 ·obtain⟨⟨p,ta,hk,bd,lg⟩,D,L,age,rfl,⟨b,⟨rs,el,ro⟩,kr⟩,n1,q⟩:=h
  simp only at b el kr q
  refine⟨_,(qd (zM (qv 0) (qp (ZW rfl) T.b_max E7 (qc (qY (qv 0)) (qc (qv 1) qa))))
   (qf (zr (aa Et EF EG Qm (qY (qv 0)) (qc (qu (qc qz (qc (qv 1) qa))) qa))))),?_⟩
  have q:=q _ _ rfl;obtain⟨z,hz⟩:∃z:Int,z=if age>D.least then age else D.least:=⟨_,rfl⟩
  rw[<- hz]at q;obtain⟨dx0,ep⟩:=id b.ob;obtain⟨dx,pf,m,b3⟩:=b.putLeast U z;have el3:=m _ _ (zf (Qe el ep (by intro z;cases z))) el
  have ro3:=ro.mv m (NT.one ep trivial);refine⟨_,rfl,p,_,rfl,b.h_least_age U,_,rfl,_,_,rfl,_,rfl,p,_,rfl,by rw[<- hz];exact pf,?_⟩
  refine⟨_,rfl,p,_,rfl,b3.h_log U,.inl ⟨rfl,_,F6.of el3⟩,_,rfl,FN,fun r hr'=>?_⟩
  have u7:=FV.upd (o:= .tup [.str "close",.int age]) hr'
  have b7:=b3.same u7;refine⟨lg,_,_,rfl,rfl,u7 _ _ el3,by rw[Je,ro.1,JK];lia,?_⟩
  exact q _ (((m.mono (fun c h z=>h (by rw[Jj.mp z];exact Jy ..))).trans u7.mv).trans (Mv.upd1.mono (fun c h z=>h (by rw[Jj.mp z];exact JE _ (Jy ..))))) (GI.push (a:=⟨p,ta,hk,bd,lg⟩) b7 (u7 _ _ el3) (ro3.same u7) ((Gm.mv m (NT.one ep trivial) (zf (Cj ep b)) kr).same u7) (show Ic _ r (.close age)from .inl qb))
theorem jW(a:HQ K C "learn" "Door.learn" aJ ["self","one","other"])(T:GA K mg tk)(U:GW K C)(dP:Mf P w K mg base C "read_right" ["self","thing"] 6 (jo K C))(xM:Mf P w K mg base C "is_full" ["self"] 1 (ox K C)):Mf P w K mg base C "learn" ["self","one","other"] 7 (jc K C):=by
 refine a.mq Gh fun f _ A _ s H vs Q E hr h=>?_
 ·obtain⟨⟨p,ta,hk,bd,lg⟩,D,L,p1,p2,⟨nm,age,ds1⟩,⟨nm2,age2,ds2⟩,c,d1,d2,rfl,⟨b,⟨rs,el,ro⟩,kr⟩,n1,ok,hp1,hp2,ok1,ok2,r1,r2,en,ea,hno,hmo,q⟩:=h
  simp only at b el kr q en ea hno
  subst en;subst ea
  refine⟨_,(qd (qA (i:=3) Gh.nd rfl (Or.inl rfl) (qZ dP U.cl hr.mo (qv 0) (qc (qv 1) qa)))
   (qd (qE (qx zX (qv 3) qM (qr _)) Qx qt)
   (qd (qA (i:=4) Gh.nd rfl (Or.inl rfl) (qZ dP U.cl hr.mo (qv 0) (qc (qv 2) qa)))
   (qd (qE (QW.pt (zZ (qx zX (qv 4) qM (qr _)) (zZ (qx (AO hr) (Q4 bE (qv 2) ZM (ZC qe)) (Q4 bE (qv 1) ZM (ZC qe)) (qr _)) (zS (qx Z9 (qw qK (qv 4) qe) (ql qC (qw qK (qv 3) qe) qe) (qr _)))))) Qx qt)
   (qd (zi (qv 1) (zu rfl (qm (qg (i:=5) Gh.nd rfl (Or.inl rfl)) (qm (qg (i:=6) Gh.nd rfl (Or.inl rfl)) (qm (qg (i:=7) Gh.nd rfl (Or.inl rfl)) qP)))))
   (qd (qE (Br hr (qv 5) (qY (qv 0))) Qx qt)
   (qd (qE (zh (Q7 xM U.cl hr.mo (qv 0))) Qx qt)
   (qd (Q8 hr (qY (qv 0)) (qv 5) (qu (qc (qv 6) (qc (qw qK (qv 4) qe) (qc qM qa)))))
   (qf (zr (aa Et EF EG Qm (qY (qv 0)) (qc (qu (qc qz (qc (qv 1) (qc (qv 2) qa)))) qa)))))))))))),?_⟩
  refine⟨_,rfl,p,rfl,b.no,_,rfl,p,ta,hk,bd,lg,L.length,D,.ref p1,some _,rfl,b,ok,⟨p1,rfl,hp1,ok1⟩,fun y1 H1 s1 t1=>?_⟩
  have t1:c9 H1 y1 (cV D _):=t1
  rw[r1]at t1;obtain⟨f1,rfl,hf1⟩:=t1;refine⟨_,rfl,rfl,_,rfl,qQ (fun y=>nomatch (Jv y)) (fun _=>?_)⟩
  have b1:=b.same s1;refine⟨_,rfl,p,rfl,b1.no,_,rfl,p,ta,hk,bd,lg,L.length,D,.ref p2,some _,rfl,b1,ok,⟨p2,rfl,Gy.same s1 hp2,ok2⟩,fun y2 H2 s2 t2=>?_⟩
  have t2:c9 H2 y2 (cV D _):=t2
  rw[r2]at t2;obtain⟨f2,rfl,hf2⟩:=t2;have b2:=b1.same s2;have hp1':=Gy.same (s1.trans s2) hp1;have hp2':=Gy.same (s1.trans s2) hp2;obtain⟨c1,e1,_⟩:=id hp1';obtain⟨c2,e2,_⟩:=id hp2';simp only at e1 e2
  refine⟨_,rfl,rfl,_,rfl,?_⟩
  refine qQ (fun y=>nomatch (Jv y)) (fun _=>?_)
  refine⟨_,rfl,_,rfl,p2,_,rfl,e2,fun t3 H3 s3 h3 _=>⟨_,rfl,_,rfl,p1,_,rfl,s3 _ _ e1,fun t4 H4 s4 h4 _=>?_⟩⟩
  have h3':H4 t3=some (.tup [.str nm2,.int age2]):=s4 _ _ h3
  have h4':H4 t4=some (.tup [.str nm2,.int age2]):=h4
  have S4:=(s3.trans s4);have SS:=(s1.trans s2).trans S4;refine⟨1,by decide,Ig.pair h3' h4',_,rfl,zk ?_⟩
  refine⟨_,rfl,f2,_,_,_,rfl,rfl,F7.of (S4 _ _ hf2),rfl,_,rfl,f1,_,_,_,rfl,rfl,F7.of (S4 _ _ (s2 _ _ hf1)),rfl,_,_,rfl,rfl,rfl,_,rfl,?_⟩
  refine eQ rfl ?_
  have b4:=b2.same S4;refine⟨_,rfl,p1,_,rfl,.tup (S4 _ _ e1),rfl,_,_,rfl,_,_,rfl,_,_,rfl,rfl,?_⟩
  have g4:GV H4 bd (.str nm2) none:=by
   rcases b4.kb.get nm2 with⟨_,g⟩|⟨e,x,e5,_⟩
   ·exact g
   ·rw[hno]at e5;cases e5
  refine⟨_,rfl,_,rfl,p,_,rfl,b4.h_buttons U,bd,_,rfl,g4,_,rfl,?_⟩
  refine zk ?_
  refine⟨_,rfl,p,rfl,b4.no,p,ta,hk,bd,lg,L.length,D,rfl,b4,_,rfl,?_⟩
  refine qQ (fun y=>absurd (Jv y) (by lia)) (fun _=>?_)
  refine⟨_,rfl,_,rfl,f2,_,_,_,rfl,rfl,F7.of (S4 _ _ hf2),rfl,FO,fun t5 ht5=>?_⟩
  have u5:=FV.upd (o:= .tup [.int age2,.int (c+1),.non]) ht5
  have b5:=b4.same u5;obtain⟨f0,hd,_⟩:=id b5.kb;have SQ:=SS.trans u5;obtain⟨H6,dp,m6,kb6⟩:=b5.kb.put nm2 (a:=t5) (e:=⟨age2,c+1,none⟩) (by have:=ok.nl;lia) ⟨.non,qb,rfl⟩
  refine⟨_,rfl,p,_,rfl,b5.h_buttons U,_,rfl,bd,H6,rfl,dp,?_⟩
  have b6:=b5.putK m6 kb6;have el6:=m6 _ _ (zf (Qe (SQ _ _ el) hd (by intro z;cases z))) (SQ _ _ el)
  have nt5:NT [bd] _:=NT.one hd trivial
  have ro6:=(ro.same SQ).mv m6 nt5;refine⟨_,rfl,p,_,rfl,b6.h_log U,.inl ⟨rfl,_,F6.of el6⟩,_,rfl,_,rfl,FO,fun r hr'=>?_⟩
  have u7:=FV.upd (o:= .tup [.str "learn",.ref p1,.ref p2]) hr'
  have b7:=b6.same u7;refine⟨lg,_,_,rfl,rfl,u7 _ _ el6,by rw[Je,ro.1,JK];lia,?_⟩
  exact q _ (((SQ.mv.trans (m6.mono (fun c h z=>h (by rw[Jj.mp z];exact Jy ..)))).trans u7.mv).trans (Mv.upd1.mono (fun c h z=>h (by rw[Jj.mp z];exact JE _ (Jy ..))))) (GI.push (a:=⟨p,ta,hk,bd,lg⟩) b7 (u7 _ _ el6) (ro6.same u7) ((Gm.mv m6 nt5 (zf (xr hd b5)) (Gm.same SQ kr)).same u7) ⟨p1,p2,.inl qb,Gy.same u7 (Gy.mv m6 nt5 (Gy.same SQ hp1)),Gy.same u7 (Gy.mv m6 nt5 (Gy.same SQ hp2)),ok1,ok2⟩)
theorem gK(a:HQ K C "__init__" "Door.__init__" QX ["self","table","keys","near","far","most"])(T:GA K mg tk)(U:GW K C):Mf P w K mg base C "__init__" ["self","table","keys","near","far","most"] 1 (fO K C):=by
 refine a.mq bz fun f _ A _ s H vs Q E hr h=>?_
 ·obtain⟨p,a,b,dx,near,far,most,t,kss,rfl,hp,ha,hb,hl,q⟩:=h
  refine⟨_,(qd (zM (qv 0) (qI bm T.b_tuple JN (qc (qv 1) qa)))
   (qd (zM (qv 0) (zW (own:=["key"]) (fr:=[]) (js:=[]) rfl (ZU (qv 2)) rfl (fun _ _ h=>nomatch h) rfl (eB rfl (by decide +kernel) (by decide +kernel) (by decide +kernel)) (fun _ _ _ _=>qg (i:=0) (show List.Nodup (["key"]:List Str)from by decide +kernel) rfl (Or.inl rfl) (.inr rfl)) (fun _ _ _ _=>(qI fH T.b_tuple JN (qc (qv 0) qa)))))
   (qd (zM (qv 0) (qv 3))
   (qd (zM (qv 0) (qv 4))
   (qd (zM (qv 0) (qv 5))
   (qd (zM (qv 0) qe)
   (qd (zM (qv 0) gf)
   (qf (zM (qv 0) (zc qa)))))))))),?_⟩
  refine⟨_,rfl,a,_,rfl,ha,fun ta H2 s2 ht=>⟨_,rfl,p,_,rfl,zo U.cl (s2 _ _ hp) U.n_table 0,?_⟩⟩
  have e2:=s2 _ _ hp;have hb2:=(hb.same s2).upd (o:= .ins C dx [("table",.ref ta)]) e2
  obtain⟨as,eb,la,hks⟩:=hb2;have ht2:=eM (o:= .ins C dx [("table",.ref ta)]) e2 ht
  refine⟨_,rfl,b,rfl,⟨_,eb.up⟩,ZB (K:=K) (xs:=as.map V.ref) (by rw[Je,la,JK];lia) (fun i ys H3=>FV (F2 H2 p (.ins C dx [("table",.ref ta)])) H3/\∃bs:List Δ,ys=bs.map V.ref/\bs.length=i/\∀(j:Nat) (x:Δ) (ks:List Int),bs[j]? =some x->kss[j]? =some ks->F7 [] H3 x (ks.map V.int)) ⟨FV.refl _,[],rfl,rfl,fun j x ks e=>by(cases e)⟩ (fun i ys H3 ⟨s3,_⟩=>(FV.sqt s3 eb).up) ?_ ?_⟩
  ·rintro i ys H3 x hx hyl ⟨s3,bs,rfl,hbl,hbs⟩
   rw[Jq]at hx;cases ea:as[i]? with
   |none=>rw[ea]at hx;cases hx
   |some x0=>
    rw[ea]at hx
    obtain rfl:V.ref x0=x:=JB hx
    have hi:i<kss.length:=by rw[<- la];exact(JH.mp ea).1
    have hk0:=hks i x0 kss[i] ea (Jk hi);refine⟨_,rfl,x0,_,rfl,.inr (FV.sqt s3 hk0).rd,fun l H4 s4 hl4=>⟨s3.trans s4,bs++[l],by simp,by simp [hbl],fun j y ks e1 e2'=>?_⟩⟩
    rw[FK]at e1;split at e1
    ·exact FV.sqt s4 (hbs j y ks e1 e2')
    ·have hj:j-bs.length=0:=by
      cases hj:j-bs.length with
      |zero=>rfl
      |succ k=>rw[hj]at e1;cases e1
     rw[hj]at e1;cases e1
     have:j=i:=by lia
     subst this;rw[Jk hi]at e2';cases e2';exact .inl hl4
  ·rintro ys H3 hyl ⟨s3,bs,rfl,hbl,hbs⟩ hk hhk
   have u3:=FV.upd (o:= .lst (bs.map V.ref)) hhk
   have e3:=u3 _ _ (s3 _ _ qb);refine⟨_,rfl,p,_,rfl,zo U.cl e3 U.n_house_keys 1,?_⟩
   refine⟨_,rfl,_,rfl,p,_,rfl,zo U.cl qb U.n_near 2,?_⟩
   refine⟨_,rfl,_,rfl,p,_,rfl,zo U.cl qb U.n_far 3,?_⟩
   refine⟨_,rfl,_,rfl,p,_,rfl,zo U.cl qb U.n_most 4,?_⟩
   refine⟨_,rfl,p,_,rfl,zo U.cl qb U.n_least_age 5,?_⟩
   refine fun bd hbd=>⟨_,rfl,p,_,rfl,zo U.cl (by rw[qi (qj qb hbd)];exact qb) U.n_buttons 6,?_⟩
   have nbd:=qj qb hbd;refine⟨FL,fun lg hlg=>⟨_,rfl,p,_,rfl,zo U.cl (by rw[qi (qj qb hlg)];exact qb) U.n_log 7,?_⟩⟩
   have nlg:=qj qb hlg;have m3:Mv [p] H H3:=((s2.mv (S:=[p])).trans Mv.upd1).trans s3.mv
   have nhk:hk≠p:=(qj (s3 _ _ qb) hhk).symm
   have m4:Mv [p] H (F2 H3 hk (.lst (bs.map V.ref))):=m3.trans u3.mv
   have M:∀o1 o2 o3 o4 o5,Mv [p] (F2 H3 hk (.lst (bs.map V.ref))) (F2 (F2 (F2 (F2 (F2 (F2 H3 hk (.lst (bs.map V.ref))) p o1) p o2) p o3) p o4) p o5):=fun o1 o2 o3 o4 o5=>(((Mv.upd1.trans Mv.upd1).trans Mv.upd1).trans Mv.upd1).trans Mv.upd1
   have M6:Mv [p] (F2 H3 hk (.lst (bs.map V.ref))) _:=(((M _ _ _ _ _).trans (FV.upd hbd).mv).trans Mv.upd1).trans (FV.upd (o:= .lst []) hlg).mv
   have M7:=M6.trans (Mv.upd1 (o:= .ins C dx (dF ⟨t,kss,near,far,most,0,[]⟩ ta hk bd lg)))
   have nt:NT [p] (F2 H3 hk (.lst (bs.map V.ref))):=NT.one e3 trivial
   have hbdlg:bd≠lg:=qj (by rw[qi nbd.symm];exact qb) hlg
   have KR:=Gm.mv M7 nt (zf nhk) (show Gm [] _ hk kss from⟨bs,qb,by rw[hbl,Je,la],fun j x ks e1 e2'=>FV.sqt u3 (hbs j x ks e1 e2')⟩)
   refine q ta hk bd lg _ (m3.nfree (zf nhk) hhk) ((m4.trans (M _ _ _ _ _)).nfree (zf nbd.symm) hbd) ((m4.trans ((((M _ _ _ _ _).trans (FV.upd hbd).mv).trans Mv.upd1))).nfree (zf nlg.symm) hlg) (m4.trans M7) ⟨⟨dx,qb⟩,?_,Gm.up KR,?_,?_,?_⟩ KR
   ·exact M7.sqt nt (FV.sqt u3 (FV.sqt s3 ht2))
   ·exact⟨([],fun _=>0),by rw[qi nbd.symm,qi hbdlg,qi nbd.symm];exact qb,fun e he=>by(cases he),.refl _,Er⟩
   ·exact⟨[],by rw[qi nlg.symm];exact qb,Jf _⟩
   ·refine(qj (o:= .lst (bs.map V.ref)) ?_ hlg).symm
    rw[qi nhk];rw[qi (qj (o:= .lst (bs.map V.ref)) (by rw[qi nhk,qi nhk,qi nhk,qi nhk,qi nhk];exact qb) hbd)]
    rw[qi nhk,qi nhk,qi nhk,qi nhk,qi nhk];exact qb
theorem cI(a:HQ K C "bounds_told" "Door.bounds_told" Qw ["self"])(T:GA K mg tk)(U:GW K C):Mf P w K mg base C "bounds_told" ["self"] 1 (cT K C):=by
 refine a.mq cE fun f _ A _ s H vs Q E hr h=>?_
 ·obtain⟨p,ta,hk,bd,lg,n,D,rfl,b,q⟩:=h
  refine⟨_,(qf (qk (qu (qc (qY (qv 0)) (qc (qY (qv 0)) (qc (qY (qv 0)) qa)))))),?_⟩
  exact⟨_,rfl,p,_,rfl,b.h_near U,_,rfl,p,_,rfl,b.h_far U,_,rfl,p,_,rfl,b.h_most U,FO,fun t ht=>q t _ (FV.upd ht) qb⟩
theorem fL(a:HQ K C "keys_now" "Door.keys_now" Zn ["self"])(T:GA K mg tk)(U:GW K C):Mf P w K mg base C "keys_now" ["self"] 1 (nX K C):=by
 refine a.mq fR fun f _ A _ s H vs Q E hr h=>?_
 ·obtain⟨p,ta,hk,bd,lg,n,D,rfl,b,q⟩:=h
  refine⟨_,(qf (qk (qI bm T.b_tuple JN (qc (qY (qv 0)) qa)))),?_⟩
  obtain⟨as,eh,la,hks⟩:=id b.ks;refine⟨_,rfl,p,_,rfl,b.h_house_keys U,hk,_,rfl,.inl (F6.of eh),fun t H2 s2 ht=>?_⟩
  exact q t as H2 s2 ht la fun i a ks e1 e2=>FV.sqt s2 (hks i a ks e1 e2)
end
section
variable{P:Ξ}{w:Ω}{K:ι}{mg:FT}{base:Ψ}{tk:Nat->Tok}{C:Δ}
theorem cM(a:HQ K C "closed_now" "Door.closed_now" QM ["self"])(T:GA K mg tk)(U:GW K C):Mf P w K mg base C "closed_now" ["self"] 1 (iY K C):=by
 refine a.mq dv fun f _ A _ s H vs Q E hr h=>?_
 ·obtain⟨p,ta,hk,bd,lg,n,D,rfl,b,q⟩:=h
  refine⟨_,(qf (qk (qY (qv 0)))),?_⟩
  exact⟨_,rfl,p,_,rfl,b.h_least_age U,q⟩
end
section
variable{P:Ξ}{w:Ω}{K:ι}{mg:FT}{base:Ψ}{tk:Nat->Tok}
theorem nv(a:At K mg "_law_take" cu ["_law_box_here","_law_many"])(T:GA K mg tk):Df P w K mg base "_law_take" ["_law_box_here","_law_many"] 1 ai:=by
 refine a.dq GJ fun f _ A _ s H vs Q E hr h=>?_
 ·obtain⟨b,many,c,rfl,⟨n,m,k,hb,m0,m1,k0,k1⟩,hc,h0,h1,q⟩:=h
  refine⟨_,(qd (qE (qx wQ (qw qF (qv 0) qe) qe (qr _)) (qd (qA (i:=2) GJ.nd rfl (Or.inl rfl) (ql zR (qw qF (qv 0) qe) (qv 1)))
   (qd (zi (ql bD (qw qF (qv 0) qe) (qv 1)) (ef (qv 0) qe ZK))
   (qf (qk (qv 2))))) qt)
   (qd (zi (ql qC (qw qF (qv 0) qe) qe) (ef (qv 0) qe ZK))
   (qd (qA (i:=3) GJ.nd rfl (Or.inl rfl) (ql qC (qw qF (qv 0) qe) (ql Zs qe (qw qF (qv 0) qe))))
   (qd (zz J0 rfl (zK rfl T.b_range (qc qe qa)) (qg (i:=4) GJ.nd rfl (Or.inl rfl))
   (qf (qA (i:=3) GJ.nd rfl (Or.inl rfl) (ql zR (ql qC (ql qC (ql Zs (qv 3) (qv 3)) (ql Zs qe (qw qF (qv 0) qe))) qe) qe))))
   (qf (qk (ql zR (ql bD (qv 3) qe) (qv 1)))))))),?_⟩
  refine⟨_,rfl,b,_,_,_,rfl,rfl,F6.of hb,rfl,_,_,rfl,rfl,_,rfl,?_⟩
  refine qQ (fun _=>?_) (fun _=>?_)
  ·refine⟨_,rfl,b,_,_,_,rfl,rfl,F6.of hb,rfl,_,rfl,_,_,rfl,rfl,h0,?_⟩
   refine⟨_,rfl,b,_,_,_,rfl,rfl,F6.of hb,rfl,_,rfl,_,_,rfl,rfl,⟨h0,h1⟩,_,rfl,b,_,_,0,rfl,rfl,hb,rfl,?_⟩
   refine⟨_,rfl,?_⟩
   refine q _ _ (El _ (by lia)) (Eo _ h0) ⟨fun c o hc e=>?_,_,_,_,qb,m0,m1,k0,by lia⟩
   rw[qi hc];exact e
  ·refine⟨_,rfl,b,_,_,_,rfl,rfl,F6.of hb,rfl,_,_,rfl,rfl,_,rfl,b,_,_,2,rfl,rfl,hb,rfl,?_⟩
   have hb2:(F2 H b (p9 n m (k+1))) b=some (p9 n m (k+1)):=qb
   refine⟨_,rfl,b,_,_,_,rfl,rfl,F6.of hb2,rfl,_,rfl,b,_,_,_,rfl,rfl,F6.of hb2,rfl,_,_,rfl,rfl,.inl ⟨by decide,by decide⟩,_,_,rfl,rfl,?_⟩
   refine⟨3,rfl,by decide,by decide,Qn (n:=3) (Pv:=fun i σ H2=>H2=F2 H b (p9 n m (k+1))/\∃(z:Int) (o:Option V),σ=[some (.ref b),some (.int many),none,some (.int z),o]/\0<=z/\z<2 ^ 64) ⟨rfl,_,_,rfl,by lia,by lia⟩ ?_ ?_⟩
   ·rintro i σ H2 hi ⟨rfl,z,o,rfl,z0,z1⟩
    refine⟨_,rfl,_,rfl,_,_,rfl,rfl,.inl ⟨by lia,by lia⟩,_,rfl,b,_,_,_,rfl,rfl,F6.of hb2,rfl,_,_,rfl,rfl,.inl ⟨by decide,by decide⟩,_,_,rfl,rfl,_,_,rfl,rfl,_,_,rfl,rfl,(by decide:(0:Int)<2305843009213693951),rfl,_,_,rfl,?_,?_⟩
    ·exact El _ (by decide)
    ·exact Int.lt_trans (Eo _ (by decide)) (by decide)
   ·rintro σ H2 ⟨rfl,z,o,rfl,z0,z1⟩
    refine⟨_,rfl,_,_,rfl,rfl,⟨by decide,by decide⟩,_,rfl,_,_,rfl,rfl,h0,?_⟩
    refine q _ _ (El _ (by lia)) (Eo _ h0) ⟨fun c o hc e=>?_,_,_,_,qb,m0,m1,by lia,by lia⟩
    rw[qi hc];exact e
theorem pU(a:At K mg "_law_box" eC ["_law_script","_law_k"])(T:GA K mg tk):Df P w K mg base "_law_box" ["_law_script","_law_k"] 1 (rW K):=by
 refine a.dq GF fun f _ A _ s H vs Q E hr h=>?_
 ·obtain⟨b,ns,k,rfl,hS,q⟩:=h
  refine⟨_,(qd (zi (qu (qc qe (qc qe qa))) (gs rfl (qm (qg (i:=2) GF.nd rfl (Or.inl rfl)) (qm (qg (i:=3) GF.nd rfl (Or.inl rfl)) qP))))
   (qd (qE (qx aT (qv 1) (qp zm T.b_len DW (qc (qv 0) qa)) (qr _)) (qf (qA (i:=2) GF.nd rfl (Or.inl rfl) (qw qF (qv 0) (qv 1)))) qt)
   (qd (zz J0 rfl (Zh (Q4 nY (qv 0) ZM (ZC qe))) (qg (i:=4) GF.nd rfl (Or.inl rfl))
   (qf (qA (i:=3) GF.nd rfl (Or.inl rfl) (ql zR (ql qC (ql Zs (qv 3) qe) (qv 4)) qe))))
   (qf (qk (zc (qc (ql Zs (qp lD T.b_abs PyProof.Rows.boot_abs (qc (qv 2) qa)) (qI sn T.b_int E5 (qc (zp rj (qp lD T.b_abs PyProof.Rows.boot_abs (qc (qv 2) qa)) (ql AZ qe qe) (qr _)) qa))) (qc (ql zR (ql qC (ql qC (ql Zs (qv 3) qe) (qv 2)) (ql Zs qe (qv 1))) qe) (qc qe qa))))))))),?_⟩
  refine⟨FN,fun tp htp=>⟨tp,_,rfl,F7.of qb,rfl,_,_,rfl,_,_,rfl,rfl,?_⟩⟩
  have s1:=FV.upd (o:= .tup [.int 0,.int 7]) htp
  refine⟨_,rfl,_,rfl,b,_,rfl,.inl (s1.seq hS),_,_,rfl,rfl,_,rfl,?_⟩
  refine qQ (fun hk=>?_) (fun _=>?_)
  ·have hk':k<ns.length:=by have:=Jv hk;rw[Je]at this;lia
   refine⟨_,rfl,_,rfl,b,_,_,.int ns[k],rfl,rfl,s1.seq hS,Qk (by rw[Jq,Jk hk'];rfl),?_⟩
   refine⟨_,rfl,_,rfl,b,_,rfl,s1.seq hS,fun l hl=>⟨l,rfl,⟨_,F6.of qb⟩,?_⟩⟩
   rw[aE];have s2:=s1.trans (FV.upd (o:= .lst ((Z3 ns none (some 63)).map V.int)) hl)
   refine ZE (K:=K) (a:=l) (xs:=(Z3 ns none (some 63)).map V.int) (fun i σ H2=>H2=F2 (F2 H tp (.tup [.int 0,.int 7])) l (.lst ((Z3 ns none (some 63)).map V.int))/\∃(z:Int) (o:Option V),σ=[some (.ref b),some (.int (k:Int)),some (.int ns[k]),some (.int z),o]/\0<=z/\z<2147483647) ⟨rfl,_,_,rfl,by decide,by decide⟩ (fun i σ H2 _ ⟨e,_⟩=>by subst e;exact F6.of qb) ?_ ?_
   ·rintro i x σ H2 hx ⟨rfl,z,o,rfl,z0,z1⟩
    obtain⟨y,rfl,hy⟩:=Qz hx;refine⟨_,rfl,_,_,rfl,rfl,.inr ⟨by decide,by decide⟩,_,rfl,_,_,rfl,rfl,_,_,rfl,rfl,(by decide:(0:Int)<2147483647),rfl,_,_,rfl,El _ (by decide),Eo _ (by decide)⟩
   ·rintro σ H2 ⟨rfl,z,o,rfl,z0,z1⟩
    refine⟨_,rfl,_,rfl,_,rfl,_,rfl,_,_,rfl,rfl,⟨by decide,by decide,by decide⟩,_,_,rfl,rfl,.inr ⟨_,rfl,?_⟩⟩
    refine⟨_,_,rfl,rfl,.inr ⟨sG _,sj _⟩,_,rfl,_,_,rfl,rfl,.inr ⟨by decide,by decide⟩,_,rfl,_,_,rfl,rfl,_,rfl,_,_,rfl,rfl,.inl ⟨by decide,by decide⟩,_,_,rfl,rfl,_,_,rfl,rfl,(by decide:(0:Int)<2305843009213693951),?_⟩
    exact⟨FO,fun p hp=>q _ _ (Zw hp s2) (s2.trans (FV.upd hp)) ⟨_,_,_,qb,El _ (by decide),Int.lt_trans (Eo _ (by decide)) (by decide),by decide,by decide⟩⟩
  ·refine⟨_,rfl,_,rfl,b,_,rfl,s1.seq hS,fun l hl=>⟨l,rfl,⟨_,F6.of qb⟩,?_⟩⟩
   rw[aE];have s2:=s1.trans (FV.upd (o:= .lst ((Z3 ns none (some 63)).map V.int)) hl)
   refine ZE (K:=K) (a:=l) (xs:=(Z3 ns none (some 63)).map V.int) (fun i σ H2=>H2=F2 (F2 H tp (.tup [.int 0,.int 7])) l (.lst ((Z3 ns none (some 63)).map V.int))/\∃(z:Int) (o:Option V),σ=[some (.ref b),some (.int (k:Int)),some (.int 0),some (.int z),o]/\0<=z/\z<2147483647) ⟨rfl,_,_,rfl,by decide,by decide⟩ (fun i σ H2 _ ⟨e,_⟩=>by subst e;exact F6.of qb) ?_ ?_
   ·rintro i x σ H2 hx ⟨rfl,z,o,rfl,z0,z1⟩
    obtain⟨y,rfl,hy⟩:=Qz hx;refine⟨_,rfl,_,_,rfl,rfl,.inr ⟨by decide,by decide⟩,_,rfl,_,_,rfl,rfl,_,_,rfl,rfl,(by decide:(0:Int)<2147483647),rfl,_,_,rfl,El _ (by decide),Eo _ (by decide)⟩
   ·rintro σ H2 ⟨rfl,z,o,rfl,z0,z1⟩
    refine⟨_,rfl,_,rfl,_,rfl,_,rfl,_,_,rfl,rfl,⟨by decide,by decide,by decide⟩,_,_,rfl,rfl,.inr ⟨_,rfl,?_⟩⟩
    refine⟨_,_,rfl,rfl,.inr ⟨sG _,sj _⟩,_,rfl,_,_,rfl,rfl,.inr ⟨by decide,by decide⟩,_,rfl,_,_,rfl,rfl,_,rfl,_,_,rfl,rfl,.inl ⟨by decide,by decide⟩,_,_,rfl,rfl,_,_,rfl,rfl,(by decide:(0:Int)<2305843009213693951),?_⟩
    exact⟨FO,fun p hp=>q _ _ (Zw hp s2) (s2.trans (FV.upd hp)) ⟨_,_,_,qb,El _ (by decide),Int.lt_trans (Eo _ (by decide)) (by decide),by decide,by decide⟩⟩
theorem lh(a:At K mg "_law_table" bt ["_law_box_here"])(T:GA K mg tk)(dA:Df P w K mg base "_law_take" ["_law_box_here","_law_many"] 1 ai):Df P w K mg base "_law_table" ["_law_box_here"] 2 fQ:=by
 refine a.dq HG fun f _ A _ s H vs Q E hr h=>?_
 ·obtain⟨b,c,rfl,hb,hc,q⟩:=h
  refine⟨_,(qd (qA (i:=1) HG.nd rfl (Or.inr rfl) (qI (rJ rfl) T.b_list Eu (qc (qI jn T.b_range PyProof.Rows.boot_range (qc qe qa)) qa)))
   (qf (qk (qI qX T.b_tuple JN (qc (zW (own:=["_law_k"]) (fr:=["_law_rest","_law_box_here"]) (js:=[1,0]) rfl (zK rfl T.b_range (qc qe qa)) rfl (vX rfl rfl) rfl (vd rfl (by decide +kernel) (by decide +kernel) (by decide +kernel) rfl rfl rfl rfl rfl rfl) (fun _ _ _ _=>qg (i:=0) (show List.Nodup (["_law_k","_law_rest","_law_box_here"]:List Str)from by decide +kernel) rfl (Or.inl rfl) (.inr rfl)) (fun _ _ _ _=>(Bx (K:=K) rfl Et PySem.F.slot_list_pop PySem.F.type_list_pop vR (qv 1) (qc (qo dA hr.mo (qc (qv 2) (qc (qp (jY (K:=K) rfl) T.b_len DW (qc (qv 1) qa)) qa))) qa)))) qa))))),?_⟩
  refine⟨_,rfl,fun r hr0=>⟨r,16,rfl,qb,by decide,fun l hl=>?_⟩⟩
  rw[Cq];have s1:=(FV.upd (o:= .rng 0 16) hr0).trans (FV.upd (o:= .lst (Gx.map V.int)) hl)
  have nlb:l≠b:=ac ((FV.upd hr0).grc hb).bx hl
  refine⟨_,rfl,by decide,by decide,Z8 (n:=16) (by decide) (fun i ys H2=>HI b (c+i) H H2/\∃ms zs:List Int,H2 l=some (.lst (ms.map V.int))/\ys=zs.map V.int/\ms.length+i=16/\(zs++ms).Perm Gx) ⟨s1.grc hb,Gx,[],qb,rfl,by rw[mK],.refl _⟩ ?_ ?_⟩
  ·rintro i ys H2 hi hl2 ⟨G2,ms,zs,hm,rfl,hml,pm⟩
   refine⟨_,rfl,.inl ⟨rfl,_,F6.of hm⟩,?_⟩
   refine⟨_,rfl,_,rfl,l,_,rfl,.inl (F6.of hm),b,_,_,rfl,G2.bx,by lia,by rw[Je];lia,by rw[Je];lia,fun x H3 x0 x1 g3=>?_⟩
   rw[Je]at x1;obtain⟨k,rfl⟩:∃k:Nat,x=(k:Int):=⟨x.toNat,by lia⟩
   have hk:k<ms.length:=by lia
   have hm3:=g3.kp _ _ nlb hm;refine⟨l,_,_,k,.int ms[k],rfl,rfl,hm3,by lia,by lia,?_,?_,?_⟩
   ·rw[Je];exact lw hk
   ·rw[Jq,Jk hk];rfl
   ·refine⟨⟨fun c o hcb e=>?_,?_⟩,ms.eraseIdx k,zs++[ms[k]],?_,by simp,?_,?_⟩
    ·by_cases z:c=l
     ·subst z
      rw[FV.upd hr0 _ _ e]at hl;cases hl
     ·rw[qi z];exact g3.kp _ _ hcb (G2.kp _ _ hcb e)
    ·obtain⟨n,m,k',e,r⟩:=g3.bx
     exact⟨n,m,k',by rw[qi nlb.symm];exact e,r⟩
    ·rw[qb,rc]
    ·rw[List.length_eraseIdx_of_lt hk];lia
    ·exact(wj hk).trans pm
  ·rintro ys H2 hyl ⟨G2,ms,zs,hm,rfl,hml,pm⟩ p hp
   have e0:ms=[]:=List.eq_nil_of_length_eq_zero (by lia)
   subst e0;rw[DV]at pm;refine⟨p,_,rfl,.inl ⟨F6.of qb,fun t ht=>?_⟩⟩
   have G3:=G2.same (FV.upd (o:= .lst (zs.map V.int)) hp)
   exact q t zs _ (G3.same (FV.upd ht)) (G3.fresh (hb.mono (by lia)) ht) qb pm
theorem rq(a:At K mg "_law_key" dh ["_law_box_here"])(T:GA K mg tk)(dA:Df P w K mg base "_law_take" ["_law_box_here","_law_many"] 1 ai):Df P w K mg base "_law_key" ["_law_box_here"] 2 ia:=by
 refine a.dq rB fun f _ A _ s H vs Q E hr h=>?_
 ·obtain⟨b,c,rfl,hb,hc,q⟩:=h
  refine⟨_,(qf (qk (qI qX T.b_tuple JN (qc (zW (own:=["_law_k"]) (fr:=["_law_box_here"]) (js:=[0]) rfl (zK rfl T.b_range (qc (ql qC qe (qo dA hr.mo (qc (qv 0) (qc qe qa)))) qa)) rfl (kE rfl) rfl (lq rfl (by decide +kernel) (by decide +kernel) (by decide +kernel) rfl rfl rfl) (fun _ _ _ _=>qg (i:=0) (show List.Nodup (["_law_k","_law_box_here"]:List Str)from by decide +kernel) rfl (Or.inl rfl) (.inr rfl)) (fun _ _ _ _=>(qo dA hr.mo (qc (qv 1) (qc qe qa))))) qa)))),?_⟩
  refine⟨_,rfl,b,_,_,rfl,hb,by lia,by decide,by decide,fun r H1 r0 r1 g1=>⟨_,_,rfl,rfl,_,rfl,by lia,by lia,?_⟩⟩
  obtain⟨n,rfl,n8⟩:∃n:Nat,r=(n:Int)/\n<8:=⟨r.toNat,by lia,by lia⟩
  have en:(1+(n:Int)).toNat=n+1:=by lia
  rw[en];refine Z8 (n:=n+1) (JO (by lia:n+1<=8) (by decide)) (fun i ys H2=>HI b (c+1+i) H H2/\∃ks:List Int,ys=ks.map V.int/\zy ks) ⟨g1,[],rfl,fun _ h=>nomatch h⟩ ?_ ?_
  ·rintro i ys H2 hi hl2 ⟨G2,ks,rfl,hk⟩
   refine⟨_,rfl,b,_,_,rfl,G2.bx,by lia,by decide,by decide,fun x H3 x0 x1 g3=>⟨G2.trans g3,ks++[x],by simp,fun z hz=>?_⟩⟩
   rcases JC.mp hz with y|y
   ·exact hk z y
   ·rw[Jj.mp y];exact⟨x0,x1⟩
  ·rintro ys H2 hyl ⟨G2,ks,rfl,hk⟩ p hp
   rw[Je]at hyl;refine⟨p,_,rfl,.inl ⟨F6.of qb,fun t ht=>?_⟩⟩
   have G3:=G2.same (FV.upd (o:= .lst (ks.map V.int)) hp)
   exact q t ks _ ((G3.same (FV.upd ht)).mono (by lia)) (G3.fresh (hb.mono (by lia)) ht) qb hk (by lia) (by lia)
end
section
variable{P:Ξ}{w:Ω}{K:ι}{mg:FT}{base:Ψ}{tk:Nat->Tok}
theorem jU(a:At K mg "back_table" aD ["table"])(T:GA K mg tk):Df P w K mg base "back_table" ["table"] 1 (tE K):=by
 refine a.dq GG fun f _ A _ s H vs Q E hr h=>?_
 ·obtain⟨c,t,rfl,hS,pm,q⟩:=h
  refine⟨_,(qd (qA (i:=1) GG.nd rfl (Or.inl rfl) (ql tH (zc (qc qe qa)) (zg (v:= .int 16) rfl T.g_DIGITS ⟨_,rfl⟩)))
   (qd (zz J0 rfl (uZ rfl T.b_enumerate (qc (qv 0) qa)) (gs rfl (qm (qg (i:=2) GG.nd rfl (Or.inl rfl)) (qm (qg (i:=3) GG.nd rfl (Or.inl rfl)) qP)))
   (qf (zi (qv 2) (ef (qv 1) (qv 3) ZK))))
   (qf (qk (qI qX T.b_tuple JN (qc (qv 1) qa)))))),?_⟩
  refine⟨FM,fun p hp=>⟨p,16,_,rfl,rfl,qb,by decide,by decide,FR,fun l hl=>?_⟩⟩
  have e0:(List.replicate (16:Int).toNat [V.int 0]).flatten=(QL t 0).map V.int:=by rw[vT];rfl
  rw[e0];have s1:=(FV.upd (o:= .lst [V.int 0]) hp)
  have s2:=s1.trans (FV.upd (o:= .lst ((QL t 0).map V.int)) hl)
  have step:∀(i:Nat) (x:V) (H2:Hp) (pp:Δ),(t.map V.int)[i]? =some x->H2 l=some (.lst ((QL t i).map V.int))->FV H H2->H2 pp=none->
    ∃j:Nat,∃z:Int,x= .int z/\cC ((QL t i).map V.int).length z=some j/\(F2 H2 pp (.tup [.int i,x])) l=some (.lst ((QL t i).map V.int))/\
     (F2 (F2 H2 pp (.tup [.int i,x])) l (.lst (((QL t i).map V.int).set j (.int i)))) l=some (.lst ((QL t (i+1)).map V.int))/\FV H (F2 (F2 H2 pp (.tup [.int i,x])) l (.lst (((QL t i).map V.int).set j (.int i)))):=by
   intro i x H2 pp hx hm sm hpp;obtain⟨z,rfl,hz⟩:=Qz hx;have hi:i<t.length:=(JH.mp hz).1
   have ez:t[i]=z:=(JH.mp hz).2
   have bd:=lL pm hi;have sp:=FV.upd (o:= .tup [.int i,.int z]) hpp
   refine⟨z.toNat,z,rfl,ip (by lia) (by rw[Je,bA];lia),sp _ _ hm,?_,fun d o e=>?_⟩
   ·rw[qb,cg,<- ez,v9 pm hi]
   ·have ndl:d≠l:=fun y=>by
     rw[y]at e;rw[s1 _ _ e]at hl;cases hl
    rw[qi ndl];exact sp _ _ (sm _ _ e)
  have fin:∀(o:Option V) (o':Option V) (H2:Hp),H2 l=some (.lst ((QL t t.length).map V.int))->FV H H2->∀p',H2 p'=none->Q (.ref p') (F2 H2 p' (.tup ((QL t t.length).map V.int))):=fun _ _ H2 hm sm p' hp'=>
   q _ _ (sm.trans (FV.upd hp')) (by rw[qb,yh pm])
  rcases hS with hS|hS
  ·refine⟨_,rfl,c,rfl,.inl ⟨⟨_,s2.seq hS⟩,?_⟩⟩
   refine k7 (K:=K) (a:=c) (xs:=t.map V.int) (fun i σ H2=>∃(o2 o3:Option V),σ=[some (.ref c),some (.ref l),o2,o3]/\H2 l=some (.lst ((QL t i).map V.int))/\FV H H2) ⟨none,none,rfl,qb,s2⟩ (fun i σ H2 _ ⟨_,_,_,_,sm⟩=>sm.seq hS) ?_ ?_
   ·rintro i x σ H2 pp hx ⟨o2,o3,rfl,hm,sm⟩ hpp
    obtain⟨j,z,rfl,hj,e1,e2,s3⟩:=step i x H2 pp hx hm sm hpp;refine⟨pp,_,rfl,F7.of qb,rfl,_,_,rfl,_,_,rfl,rfl,?_⟩
    exact⟨_,rfl,_,rfl,_,rfl,l,_,_,j,rfl,rfl,e1,hj,_,_,rfl,e2,s3⟩
   ·rintro σ H2 ⟨o2,o3,rfl,hm,sm⟩
    rw[Je]at hm
    exact⟨_,rfl,l,_,rfl,.inl ⟨F6.of hm,fin o2 o3 H2 hm sm⟩⟩
  ·refine⟨_,rfl,c,rfl,.inr ⟨⟨_,FV.sqt s2 hS⟩,?_⟩⟩
   refine uM (K:=K) (a:=c) (xs:=t.map V.int) (fun i σ H2=>∃(o2 o3:Option V),σ=[some (.ref c),some (.ref l),o2,o3]/\H2 l=some (.lst ((QL t i).map V.int))/\FV H H2) ⟨none,none,rfl,qb,s2⟩ (fun i σ H2 _ ⟨_,_,_,_,sm⟩=>FV.sqt sm hS) ?_ ?_
   ·rintro i x σ H2 pp hx ⟨o2,o3,rfl,hm,sm⟩ hpp
    obtain⟨j,z,rfl,hj,e1,e2,s3⟩:=step i x H2 pp hx hm sm hpp;refine⟨pp,_,rfl,F7.of qb,rfl,_,_,rfl,_,_,rfl,rfl,?_⟩
    exact⟨_,rfl,_,rfl,_,rfl,l,_,_,j,rfl,rfl,e1,hj,_,_,rfl,e2,s3⟩
   ·rintro σ H2 ⟨o2,o3,rfl,hm,sm⟩
    rw[Je]at hm
    exact⟨_,rfl,l,_,rfl,.inl ⟨F6.of hm,fin o2 o3 H2 hm sm⟩⟩
theorem wC(a:At K mg "coded" iN ["table","key","digits"])(T:GA K mg tk):Df P w K mg base "coded" ["table","key","digits"] 1 (iU K):=by
 refine a.dq Hh fun f _ A _ s H vs Q E hr h=>?_
 ·obtain⟨a,b,c,t,ks,ds,rfl,ha,hb,hc,lt,l1,l64,q⟩:=h
  refine⟨_,(qd (qA (i:=3) Hh.nd rfl (Or.inl rfl) (qI c7 T.b_list Eu (qc (qv 2) qa)))
   (qd (zz J0 rfl (AY (qv 1)) (qg (i:=4) Hh.nd rfl (Or.inl rfl))
   (qf (zz J0 rfl (zK rfl T.b_range (qc (qp zm T.b_len DW (qc (qv 2) qa)) qa)) (qg (i:=5) Hh.nd rfl (Or.inl rfl))
   (qd (qA (i:=6) Hh.nd rfl (Or.inl rfl) (qw qF (qv 3) (ql zT (qv 5) qe)))
   (qf (zi (qw (Iv.or qF qK) (qv 0) (ql zR (ql qC (ql qC (ql qC (qw qF (qv 3) (qv 5)) (qv 4)) (qv 5)) (qv 6)) (zg (v:= .int 16) rfl T.g_DIGITS ⟨_,rfl⟩))) (ef (qv 3) (qv 5) ZK)))))))
   (qf (qk (qI qX T.b_tuple JN (qc (qv 3) qa)))))),?_⟩
  refine⟨_,rfl,c,_,rfl,hc,fun l hl=>?_⟩
  have s1:FV H _:=FV.upd (o:= .lst (ds.map V.int)) hl
  refine⟨_,rfl,b,rfl,AE (K:=K) (H0:=H) hb (fun j σ H2=>FV H H2/\∃o4 o5 o6,σ=[some (.ref a),some (.ref b),some (.ref c),some (.ref l),o4,o5,o6]/\H2 l=some (.lst ((QB t (ks.take j) ds).map V.int))) ⟨s1,_,_,_,rfl,qb⟩ (fun j σ' H' h=>h.1) ?_ ?_⟩
  ·rintro j x σ H2 hx ⟨s2,o4,o5,o6,rfl,hm⟩
   obtain⟨shift,rfl,hks⟩:=Qz hx;rw[iF hks,lZ];have hrl:(QB t (ks.take j) ds).length=ds.length:=bY
   generalize QB t (ks.take j) ds=r at hm hrl
   refine⟨_,rfl,c,_,rfl,hc.same s2,_,rfl,?_,?_,?_⟩
   ·lia
   ·rw[Je];lia
   rw[show((((ds.map V.int).length:Nat):Int)).toNat=ds.length by rw[Je];rfl]
   refine Qn (n:=ds.length) (Pv:=fun i σ H3=>FV H H3/\∃o5 o6,σ=[some (.ref a),some (.ref b),some (.ref c),some (.ref l),some (.int shift),o5,o6]/\H3 l=some (.lst ((ZZ t shift r i).map V.int))) ⟨s2,_,_,rfl,hm⟩ ?_ ?_
   ·rintro i σ H3 hi ⟨s3,o5,o6,rfl,hm3⟩
    have hrl3:(ZZ t shift r i).length=ds.length:=by rw[QC,hrl]
    generalize hr':ZZ t shift r i=r' at hm3 hrl3
    have hi':i<r'.length:=by lia
    refine⟨_,rfl,_,rfl,_,_,rfl,rfl,l,_,_,_,rfl,rfl,F6.of hm3,rX (i:=i) (by lia) hi',?_⟩
    refine⟨_,rfl,_,rfl,_,rfl,l,_,_,_,rfl,rfl,F6.of hm3,ay (i:=i) (by lia) hi',_,rfl,_,_,rfl,rfl,_,rfl,_,_,rfl,rfl,_,rfl,_,_,rfl,rfl,_,_,rfl,rfl,(by decide:(0:Int)<16),?_⟩
    have dm:=am (r'.getD i 0+shift+(0+(i:Int))+ah r' i)
    refine(ha.same s3).ix (ay (i:=((r'.getD i 0+shift+(0+(i:Int))+ah r' i)%16).toNat) (by have:=dm.1;lia) (by rw[lt];have:=dm.1;have:=dm.2;lia)) ?_
    refine⟨_,rfl,_,rfl,l,_,_,i,rfl,rfl,hm3,ip (by lia) (by rw[Je];exact hi'),Zy s3 hl,_,_,rfl,?_⟩
    rw[qb,cg,ZZ,hr',iG,Int.zero_add]
   ·rintro σ H3 ⟨s3,o5,o6,rfl,hm3⟩
    exact⟨s3,_,_,_,rfl,hm3⟩
  ·rintro σ H2 ⟨s2,o4,o5,o6,rfl,hm⟩
   rw[Je,Ej]at hm
   exact⟨_,rfl,l,_,rfl,.inl ⟨F6.of hm,fun p hp=>q p _ (s2.trans (FV.upd hp)) (Zw hp s2) qb⟩⟩
theorem pS(a:At K mg "decoded" cZ ["table","key","digits"])(T:GA K mg tk)(xX:Df P w K mg base "back_table" ["table"] 1 (tE K)):Df P w K mg base "decoded" ["table","key","digits"] 2 (jz K):=by
 refine a.dq GB fun f _ A _ s H vs Q E hr h=>?_
 ·obtain⟨a,b,c,t,ks,ds,rfl,ha,hb,hc,pm,hdd,l1,l64,q⟩:=h
  refine⟨_,(qd (qA (i:=3) GB.nd rfl (Or.inl rfl) (qo xX hr.mo (qc (qv 0) qa)))
   (qd (qA (i:=4) GB.nd rfl (Or.inl rfl) (qI c7 T.b_list Eu (qc (qv 2) qa)))
   (qd (zz J0 rfl (tJ rfl T.b_reversed (qc (qv 1) qa)) (qg (i:=5) GB.nd rfl (Or.inl rfl))
   (qf (zz J0 rfl (tJ rfl T.b_reversed (qc (qI jn T.b_range PyProof.Rows.boot_range (qc (qp zm T.b_len DW (qc (qv 2) qa)) qa)) qa)) (qg (i:=6) GB.nd rfl (Or.inl rfl))
   (qd (qA (i:=7) GB.nd rfl (Or.inl rfl) (qw qF (qv 4) (ql zT (qv 6) qe)))
   (qf (zi (ql zR (ql zT (ql zT (ql zT (qw qK (qv 3) (qw qF (qv 4) (qv 6))) (qv 5)) (qv 6)) (qv 7)) (zg (v:= .int 16) rfl T.g_DIGITS ⟨_,rfl⟩)) (ef (qv 4) (qv 6) ZK)))))))
   (qf (qk (qI qX T.b_tuple JN (qc (qv 4) qa))))))),?_⟩
  refine⟨_,rfl,a,t,rfl,ha,pm,fun pb H1 s1 hpb=>?_⟩
  refine⟨_,rfl,c,_,rfl,hc.same s1,fun l hl=>?_⟩
  have s2:FV H1 _:=FV.upd (o:= .lst (ds.map V.int)) hl
  refine⟨_,rfl,b,rfl,uV (K:=K) (H0:=H1) (hb.same s1) (fun j σ H2=>FV H1 H2/\∃o4 o5 o6,σ=[some (.ref a),some (.ref b),some (.ref c),some (.ref pb),some (.ref l),o4,o5,o6]/\H2 l=some (.lst ((Q5 (zA t) (ks.drop (ks.length-j)) ds).map V.int))) ⟨s2,_,_,_,rfl,by rw[Nat.sub_zero,List.drop_length];exact qb⟩ (fun j σ' H' h=>h.1) ?_ ?_⟩
  ·rintro j x σ H2 hj hx ⟨s2,o4,o5,o6,rfl,hm⟩
   obtain⟨shift,rfl,hks⟩:=Qz hx;rw[Je]at hj hks;have ed:ks.drop (ks.length-(j+1))=shift::ks.drop (ks.length-j):=by
    have:=tf hks
    rw[show ks.length-1-j+1=ks.length-j by lia]at this
    rw[show ks.length-(j+1)=ks.length-1-j by lia]
    exact this
   rw[ed,Q5];have hrl:(Q5 (zA t) (ks.drop (ks.length-j)) ds).length=ds.length:=fJ
   have hrd:zy (Q5 (zA t) (ks.drop (ks.length-j)) ds):=ma hdd
   generalize Q5 (zA t) (ks.drop (ks.length-j)) ds=r at hm hrl hrd
   refine⟨_,rfl,c,_,rfl,(hc.same s1).same s2,_,rfl,fun pr hpr=>⟨pr,rfl,.inr (.inr ⟨ds.length,?_,by lia,?_⟩)⟩⟩
   ·rw[qb,Je]
   have s2':=s2.trans (FV.upd (o:= .rng 0 ((ds.map V.int).length:Nat)) hpr)
   have hm':=FV.upd (o:= .rng 0 ((ds.map V.int).length:Nat)) hpr _ _ hm
   refine wk (n:=ds.length) (Pv:=fun i σ H3=>FV H1 H3/\∃o5 o6 r',σ=[some (.ref a),some (.ref b),some (.ref c),some (.ref pb),some (.ref l),some (.int shift),o5,o6]/\H3 l=some (.lst (r'.map V.int))/\r'.length=ds.length/\zy r'/\au (zA t) shift r' (ds.length-i)=au (zA t) shift r ds.length) ⟨s2',_,_,r,rfl,hm',hrl,hrd,rfl⟩ ?_ ?_
   ·rintro i σ H3 hi ⟨s3,o5,o6,r',rfl,hm3,hrl3,hrd3,er⟩
    have hi':ds.length-1-i<r'.length:=by lia
    have ep:(ds.length:Int)-1-i=((ds.length-1-i:Nat):Int):=by lia
    rw[ep];generalize hpl:ds.length-1-i=pl at hi'
    rw[show ds.length-i=pl+1 by lia,au]at er
    refine⟨_,rfl,_,rfl,_,_,rfl,rfl,l,_,_,_,rfl,rfl,F6.of hm3,rX (i:=pl) rfl hi',?_⟩
    have dr:=ir hrd3 pl;refine⟨_,rfl,_,rfl,_,rfl,l,_,_,_,rfl,rfl,F6.of hm3,ay (i:=pl) rfl hi',pb,_,_,_,rfl,rfl,F7.of (s3 _ _ hpb),ay (i:=(r'.getD pl 0).toNat) (by have:=dr.1;lia) (by rw[aW];have:=dr.1;have:=dr.2;lia),?_⟩
    refine⟨_,rfl,_,_,rfl,rfl,_,rfl,_,_,rfl,rfl,_,rfl,_,_,rfl,rfl,_,_,rfl,rfl,(by decide:(0:Int)<16),?_⟩
    refine⟨_,rfl,_,rfl,l,_,_,pl,rfl,rfl,hm3,oP (by rw[Je];exact hi'),Zy s3 hl,_,_,fS (zA t) shift r' pl,rfl,?_,by rw[mw];exact hrl3,lV hrd3,?_⟩
    ·rw[qb,cg,fS]
    ·rw[show ds.length-(i+1)=pl by lia];exact er
   ·rintro σ H3 ⟨s3,o5,o6,r',rfl,hm3,hrl3,hrd3,er⟩
    rw[Nat.sub_self,au]at er;rw[er]at hm3
    exact⟨s3,_,_,_,rfl,hm3⟩
  ·rintro σ H2 ⟨s2,o4,o5,o6,rfl,hm⟩
   rw[Je,Nat.sub_self,List.drop_zero]at hm
   exact⟨_,rfl,l,_,rfl,.inl ⟨F6.of hm,fun p hp=>q p _ ((s1.trans s2).trans (FV.upd hp)) (Zw hp (s1.trans s2)) qb⟩⟩
theorem f8(a:At K mg "letter_digits" Zt ["name"])(T:GA K mg tk):Df P w K mg base "letter_digits" ["name"] 1 jK:=by
 refine a.dq Gq fun f _ A _ s H vs Q E hr h=>?_
 ·obtain⟨z,rfl,hz,q⟩:=h
  refine⟨_,(qd (qA (i:=1) Gq.nd rfl (Or.inl rfl) (zc qa))
   (qd (zz J0 rfl (rT (qv 0)) (qg (i:=2) Gq.nd rfl (Or.inl rfl))
   (qd (qA (i:=3) Gq.nd rfl (Or.inl rfl) (ql zT (qp ku T.b_ord PyProof.Rows.boot_ord (qc (qv 2) qa)) (qp ku T.b_ord PyProof.Rows.boot_ord (qc qz qa))))
   (qd (zr (aa Et EF EG Qm (qv 1) (qc (ql zR (qv 3) (zg (v:= .int 16) rfl T.g_DIGITS ⟨_,rfl⟩)) qa)))
   (qf (zr (aa Et EF EG Qm (qv 1) (qc (ql bD (qv 3) (zg (v:= .int 16) rfl T.g_DIGITS ⟨_,rfl⟩)) qa)))))))
   (qf (qk (qv 1))))),?_⟩
  refine⟨FL,fun l hl=>?_⟩
  refine⟨_,rfl,z,rfl,lf hz,yL (fun i σ H2=>FV H H2/\∃o2 o3,σ=[some (.str z),some (.ref l),o2,o3]/\H2 l=some (.lst ((Q0 (z.cps.toList.take i)).map V.int))) ⟨FV.upd hl,_,_,rfl,qb⟩ ?_ ?_⟩
  ·rintro i c σ H2 hc ⟨s2,o2,o3,rfl,hm⟩
   have hc':=oo hc;rw[AG hc',uF];have hln:(Q0 (z.cps.toList.take i)).length<=16:=by rw[jP,Ed];have:=hz.2.2;lia
   generalize Q0 (z.cps.toList.take i)=ds at hm hln
   have eX:((((⟨#[c]⟩:Str).cps.getD 0 0:Nat):Int)-((("a":Str).cps.getD 0 0:Nat):Int))=(c:Int)-97:=rfl
   have big:(100:Nat)<ζ:=by decide
   refine⟨_,rfl,_,rfl,rfl,_,rfl,rfl,_,_,rfl,rfl,?_⟩
   show io _ _ _ [some (V.str z),some (V.ref l),some (V.str ⟨#[c]⟩),some (V.int ((c:Int)-97))] H2
   refine⟨_,rfl,.inl ⟨rfl,_,F6.of hm⟩,_,rfl,_,_,rfl,rfl,(by decide:(0:Int)<16),l,_,_,rfl,rfl,hm,by rw[Je];lia,?_⟩
   have w1:FV H (F2 H2 l (.lst (ds.map V.int++[V.int (((c:Int)-97)%16)]))):=Zy s2 hl
   refine⟨_,rfl,.inl ⟨rfl,_,F6.of qb⟩,_,rfl,_,_,rfl,rfl,⟨by decide,by decide⟩,l,_,_,rfl,rfl,qb,by rw[Jw,Je,Ef];lia,Zy w1 hl,_,_,rfl,?_⟩
   rw[qb,JW,Ee];rfl
  ·rintro σ H2 ⟨s2,o2,o3,rfl,hm⟩
   rw[show z.cps.size=z.cps.toList.length from rfl,Ej]at hm
   exact⟨_,rfl,q l H2 s2 hl hm⟩
theorem sr(a:At K mg "key_of" gc ["table","key","name"])(T:GA K mg tk)(xI:Df P w K mg base "letter_digits" ["name"] 1 jK)(xS:Df P w K mg base "coded" ["table","key","digits"] 1 (iU K)):Df P w K mg base "key_of" ["table","key","name"] 2 (iA K):=by
 refine a.dq Ho fun f _ A _ s H vs Q E hr h=>?_
 ·obtain⟨a,b,z,t,ks,rfl,ha,hb,hz,lt,q⟩:=h
  refine⟨_,(qd (qA (i:=3) Ho.nd rfl (Or.inl rfl) (ql tH (zc (qc qe qa)) (zg (v:= .int 4) rfl T.g_KEY_PLACES ⟨_,rfl⟩)))
   (qd (zz J0 rfl (ye rfl T.b_enumerate (qc (qo xI hr.mo (qc (qv 2) qa)) qa)) (gs rfl (qm (qg (i:=4) Ho.nd rfl (Or.inl rfl)) (qm (qg (i:=5) Ho.nd rfl (Or.inl rfl)) qP)))
   (qf (y7 (qv 3) (ql zR (qv 4) (zg (v:= .int 4) rfl T.g_KEY_PLACES ⟨_,rfl⟩)) ww (qv 5) Bi ZK)))
   (qf (qk (qo xS hr.mo (qc (qv 0) (qc (qv 1) (qc (zW (own:=["total"]) (fr:=[]) (js:=[]) rfl (Zh (qv 3)) rfl (fun _ _ h=>nomatch h) rfl (eB rfl (by decide +kernel) (by decide +kernel) (by decide +kernel)) (fun _ _ _ _=>qg (i:=0) (show List.Nodup (["total"]:List Str)from by decide +kernel) rfl (Or.inl rfl) (.inr rfl)) (fun _ _ _ _=>(ql zR (qv 0) (zg (v:= .int 16) rfl T.g_DIGITS ⟨_,rfl⟩)))) qa)))))))),?_⟩
  refine⟨FM,fun p0 hp0=>⟨p0,4,_,rfl,rfl,qb,by decide,by decide,FP,fun l hl=>?_⟩⟩
  have s1:=(FV.upd (o:= .lst [V.int 0]) hp0)
  have s2:=s1.trans (FV.upd (o:= .lst (List.replicate (4:Int).toNat [V.int 0]).flatten) hl)
  have hlH:H l=none:=Zw hl s1
  refine⟨_,rfl,z,rfl,hz,fun ld H1 s3 hldn hld=>?_⟩
  have hm1:=s3 _ _ (qb (H:=F2 H p0 (.lst [V.int 0])) (a:=l) (o:= .lst (List.replicate (4:Int).toNat [V.int 0]).flatten))
  have ndl:ld≠l:=fun y=>by rw[y,qb]at hldn;cases hldn
  generalize hds:Q0 z.cps.toList=ds at hld q
  have hdl:ds.length<=16:=by rw[<- hds,jP];have:=hz.2.2;lia
  refine⟨ld,rfl,⟨_,F6.of hld⟩,k7 (K:=K) (a:=ld) (xs:=ds.map V.int) (fun i σ H2=>∃(o4 o5:Option V),σ=[some (.ref a),some (.ref b),some (.str z),some (.ref l),o4,o5]/\H2 l=some (.lst ((ZR ds i).map V.int))/\H2 ld=some (.lst (ds.map V.int))/\FV H H2)
   ⟨none,none,rfl,hm1,hld,s2.trans s3⟩ (fun i σ H2 _ ⟨_,_,_,_,hd,_⟩=>F6.of hd) ?_ ?_⟩
  ·rintro i x σ H2 pp hx ⟨o4,o5,rfl,hm,hd2,sm⟩ hpp
   obtain⟨dg,rfl,hz'⟩:=Qz hx;have hi:i<ds.length:=(JH.mp hz').1
   have eg:ds.getD i 0=dg:=by rw[JI,hz'];rfl
   have sp2:=FV.upd (o:= .tup [.int i,.int dg]) hpp
   have hm':=sp2 _ _ hm;have h4:i%4<(ZR ds i).length:=Nat.mod_lt i (by decide)
   have e4:(i:Int)%4=((i%4:Nat):Int):=by lia
   refine⟨pp,_,rfl,F7.of qb,rfl,_,_,rfl,_,_,rfl,rfl,?_⟩
   refine⟨_,rfl,_,rfl,_,_,rfl,rfl,(by decide:(0:Int)<4),l,_,i%4,.int ((ZR ds i).getD (i%4) 0),rfl,(by show V.int ((i:Int)%4)=_;rw[e4]),hm',?_,_,rfl,_,_,rfl,rfl,l,_,_,i%4,rfl,rfl,hm',ip e4 (by rw[Je];exact h4),_,_,rfl,?_,?_,?_⟩
   ·rw[iQ h4,JI,Jk h4];rfl
   ·rw[qb,cg,<- eg,tS]
   ·rw[qi ndl];exact sp2 _ _ hd2
   ·exact Zy (sm.trans sp2) hlH
  ·rintro σ H2 ⟨o4,o5,rfl,hm,hd2,sm⟩
   rw[Je]at hm;refine⟨_,rfl,_,rfl,_,rfl,l,rfl,⟨_,F6.of hm⟩,aQ (xs:=(ZR ds ds.length).map V.int) (FP) (fun i ys H3=>ys=((bf ds).take i).map V.int/\H3=H2) ⟨by simp,rfl⟩ (fun i ys H3 ⟨_,e⟩=>by rw[e];exact F6.of hm) ?_ ?_⟩
   ·rintro i ys H3 x hx _ ⟨rfl,rfl⟩
    obtain⟨y,rfl,hy⟩:=Qz hx;refine⟨_,rfl,_,_,rfl,rfl,(by decide:(0:Int)<16),?_,rfl⟩
    have:(bf ds)[i]? =some (y%16):=by unfold bf;rw[Jq,hy];rfl
    rw[D6,this];simp
   ·rintro ys H3 hyl ⟨rfl,rfl⟩ p hp
    rw[show(bf ds).take ((ZR ds ds.length).map V.int).length=bf ds from rfl]
    have su:=FV.upd (o:= .lst ((bf ds).map V.int)) hp
    exact⟨a,b,p,t,ks,bf ds,rfl,(ha.same sm).same su,(hb.same sm).same su,.lst qb,lt,by rw[lX];decide,by rw[lX];decide,fun p' H' s' hn' hp'=>q p' H' ((sm.trans su).trans s') (Zw hn' (sm.trans su)) hp'⟩
theorem gm(a:At K mg "count_digits" ZG ["count"])(T:GA K mg tk):Df P w K mg base "count_digits" ["count"] 1 Cw:=by
 refine a.dq gL fun f _ A _ s H vs Q E hr h=>?_
 ·obtain⟨c,rfl,q⟩:=h
  refine⟨_,(qf (qk (qu (qc (ql zR (qv 0) (zg (v:= .int 16) rfl T.g_DIGITS ⟨_,rfl⟩)) (qc (ql zR (ql bD (qv 0) (zg (v:= .int 16) rfl T.g_DIGITS ⟨_,rfl⟩)) (zg (v:= .int 16) rfl T.g_DIGITS ⟨_,rfl⟩)) (qc (ql bD (qv 0) qe) qa)))))),?_⟩
  exact⟨_,rfl,_,_,rfl,rfl,(by decide:(0:Int)<16),_,rfl,_,_,rfl,rfl,⟨by decide,by decide⟩,_,_,rfl,rfl,(by decide:(0:Int)<16),_,rfl,_,_,rfl,rfl,⟨by decide,by decide⟩,FO,fun p hp=>q p _ (FV.upd hp) qb⟩
theorem ym{c d:Int}(h0:0<=c)(h1:c<4096)(hd:aU d):∀z∈Z6 c d,0<=z/\z<=1000000:=fun z hz=>by
 have:=fN h0 h1 hd z (E9 _ hz)
 exact⟨this.1,Int.le_trans (Int.le_of_lt this.2) (by decide)⟩
theorem nj(a:At K mg "press_of" bN ["table","key","name","age","count","deed"])(T:GA K mg tk)(xO:Df P w K mg base "count_digits" ["count"] 1 Cw)(xP:Df P w K mg base "key_of" ["table","key","name"] 2 (iA K))(xS:Df P w K mg base "coded" ["table","key","digits"] 1 (iU K)):Df P w K mg base "press_of" ["table","key","name","age","count","deed"] 3 (n6 K):=by
 refine a.dq Hl fun f _ A _ s H vs Q E hr h=>?_
 ·obtain⟨a,b,z,age,c,d,t,ks,rfl,ha,hb,hz,lt,c0,c1,hd,q⟩:=h
  refine⟨_,(qd (qA (i:=6) Hl.nd rfl (Or.inl rfl) (ql ZF (qo xO hr.mo (qc (qv 4) qa)) (qu (qc (qv 5) qa))))
   (qd (qA (i:=7) Hl.nd rfl (Or.inl rfl) (ql ZF (qv 6) (qu (qc (ql zR (qp (tX rfl) T.b_sum PyProof.Rows.boot_sum (qc (qv 6) qa)) (zg (v:= .int 16) rfl T.g_DIGITS ⟨_,rfl⟩)) qa))))
   (qf (qk (qu (qc (qv 2) (qc (qv 3) (qc (qo xS hr.mo (qc (qv 0) (qc (qo xP hr.mo (qc (qv 0) (qc (qv 1) (qc (qv 2) qa)))) (qc (qv 7) qa)))) qa)))))))),?_⟩
  refine⟨_,rfl,c,rfl,fun p1 H1 s1 hp1=>?_⟩
  refine⟨_,rfl,FM,fun p2 hp2=>?_⟩
  have u2:=FV.upd (o:= .tup [V.int d]) hp2
  refine⟨p1,p2,_,_,rfl,rfl,u2 _ _ hp1,qb,FP,fun p3 H3 s3 hp3=>?_⟩
  have hp3':H3 p3=some (.tup ((Z6 c d).map V.int)):=hp3
  have S3:=(s1.trans u2).trans s3;refine⟨_,rfl,_,rfl,p3,Z6 c d,rfl,.tup hp3',by show 4<=1000;decide,ym c0 c1 hd,_,_,rfl,rfl,(by decide:(0:Int)<16),FM,fun p4 hp4=>?_⟩
  have u4:=FV.upd (o:= .tup [V.int ((Z6 c d).sum%16)]) hp4
  refine⟨p3,p4,_,_,rfl,rfl,u4 _ _ hp3',qb,FQ,fun p5 H5 s5 hp5=>?_⟩
  have hp5':H5 p5=some (.tup ((ab c d).map V.int)):=hp5
  have S5:=(S3.trans u4).trans s5;refine⟨_,rfl,_,rfl,_,rfl,_,rfl,_,rfl,_,rfl,a,b,z,t,ks,rfl,ha.same S5,hb.same S5,hz,lt,fun pk H6 s6 _ hpk=>?_⟩
  refine⟨_,rfl,a,pk,p5,t,hX t ks z,ab c d,rfl,(ha.same S5).same s6,.tup hpk,.tup (s6 _ _ hp5'),lt,by rw[b9];decide,by rw[b9];decide,fun pc H7 s7 _ hpc=>?_⟩
  refine⟨FO,fun p hp=>?_⟩
  have u8:=FV.upd (o:= .tup [V.str z,.int age,.ref pc]) hp
  exact q p pc _ (((S5.trans s6).trans s7).trans u8) qb (u8 _ _ hpc)
theorem j4(a:At K mg "read_press" az ["table","key","press"])(T:GA K mg tk)(xP:Df P w K mg base "key_of" ["table","key","name"] 2 (iA K))(yF:Df P w K mg base "decoded" ["table","key","digits"] 2 (jz K)):Df P w K mg base "read_press" ["table","key","press"] 3 (kq K):=by
 refine a.dq Gc fun f _ A _ s H vs Q E hr h=>?_
 ·obtain⟨a,b,pr,pc,z,age,t,ks,ds,rfl,ha,hb,hpr,hpc,hz,pm,l5,hdd,q⟩:=h
  refine⟨_,(qd (zi (qv 2) (zu rfl (qm (qg (i:=3) Gc.nd rfl (Or.inl rfl)) (qm (qg (i:=4) Gc.nd rfl (Or.inl rfl)) (qm (qg (i:=5) Gc.nd rfl (Or.inl rfl)) qP)))))
   (qd (zi (qo yF hr.mo (qc (qv 0) (qc (qo xP hr.mo (qc (qv 0) (qc (qv 1) (qc (qv 3) qa)))) (qc (qv 5) qa)))) (gs rfl (qm (qg (i:=6) Gc.nd rfl (Or.inl rfl)) (qm (qg (i:=7) Gc.nd rfl (Or.inl rfl)) (qm (qg (i:=8) Gc.nd rfl (Or.inl rfl)) (qm (qg (i:=9) Gc.nd rfl (Or.inl rfl)) (qm (qg (i:=10) Gc.nd rfl (Or.inl rfl)) qP)))))))
   (qd (qE (qx Z9 (qv 10) (ql zR (ql qC (ql qC (ql qC (qv 6) (qv 7)) (qv 8)) (qv 9)) (zg (v:= .int 16) rfl T.g_DIGITS ⟨_,rfl⟩)) (qr _)) (qf (qk qM)) qt)
   (qf (qk (qu (qc (ql qC (ql qC (qv 6) (ql Zs (qv 7) (zg (v:= .int 16) rfl T.g_DIGITS ⟨_,rfl⟩))) (ql Zs (qv 8) qe)) (qc (qv 9) qa)))))))),?_⟩
  refine⟨_,rfl,pr,_,rfl,hpr,rfl,_,_,rfl,_,_,rfl,_,_,rfl,rfl,?_⟩
  refine⟨_,rfl,_,rfl,_,rfl,_,rfl,a,b,z,t,ks,rfl,ha,hb,hz,om pm,fun pk H1 s1 _ hpk=>?_⟩
  refine⟨_,rfl,a,pk,pc,t,hX t ks z,ds,rfl,ha.same s1,.tup hpk,hpc.same s1,pm,hdd,by lia,by lia,fun pd H2 s2 _ hpd=>?_⟩
  have q':∀x H',FV H2 H'->c9 H' x (kh (Q5 (zA t) (hX t ks z) ds))->Q x H':=fun x H' s' ht=>q x H' ((s1.trans s2).trans s') ht
  have hl:(Q5 (zA t) (hX t ks z) ds).length=5:=by rw[fJ,l5]
  obtain⟨lo,mi,hi,de,ck,er⟩:=yQ hl;rw[er]at hpd q';refine⟨pd,_,rfl,F7.of hpd,rfl,_,_,rfl,_,_,rfl,_,_,rfl,_,_,rfl,_,_,rfl,rfl,?_⟩
  refine⟨_,rfl,_,rfl,_,rfl,_,_,rfl,rfl,_,rfl,_,_,rfl,rfl,_,rfl,_,_,rfl,rfl,_,_,rfl,rfl,(by decide:(0:Int)<16),rfl,_,rfl,?_⟩
  have q2:∀x H',FV H2 H'->c9 H' x (if ck=(lo+mi+hi+de)%16 then some (lo+mi*16+hi*256,de)else none)->Q x H':=q'
  by_cases e:ck=(lo+mi+hi+de)%16
  ·rw[Jc e]at q2
   refine eQ (c:=V.int ck=V.int ((lo+mi+hi+de)%16)) (by rw[e]) ?_
   refine⟨_,rfl,_,rfl,_,_,rfl,rfl,.inr ⟨by decide,by decide⟩,_,_,rfl,rfl,_,rfl,_,_,rfl,rfl,.inr ⟨by decide,by decide⟩,_,_,rfl,rfl,_,rfl,FN,fun p hp=>?_⟩
   exact q2 _ _ (FV.upd hp) ⟨p,rfl,qb⟩
  ·rw[Jb e]at q2
   refine qQ (fun _=>q2 _ _ (FV.refl _) rfl) (fun y=>absurd ?_ y)
   have:¬V.int ck=V.int ((lo+mi+hi+de)%16):=fun w'=>e (by injection w')
   show(!decide (V.int ck=V.int ((lo+mi+hi+de)%16)))=true
   rw[Jm this];rfl
end
end Lw
namespace L3
open PySem PySem.Spec PyProof.Rows L2
section
variable{t:List Int}{kss:List (List Int)}{D:Dr}{nm:Str}{age c:Int}
theorem cm{D:Dr}{nm:Str}{age c:Int}:F8 D nm age c=D.kn\/∃e,D.kn.lookup nm=some e/\qH D e age=true/\F8 D nm age c=zb D.kn nm (zv D.near D.far e age c).2:=by
 unfold F8 qT;cases e1:D.kn.lookup nm with
 |none=>exact .inl rfl
 |some e=>
  simp only
  by_cases ht:qH D e age=true
  ·rw[Jc ht]
   exact .inr ⟨e,rfl,ht,by split<;>rfl⟩
  ·rw[Jb ht];exact .inl rfl
theorem aR{d:Int}(tp:t.Perm Gx)(hn:QQ nm)(c0:0<=c)(c1:c<4096)(hd:aU d):Ib (Qg t kss nm age c d):=⟨hn,sO ..,vE tp c0 c1 hd⟩
end
def HP(f:Nat->Dr->Dr)(k:Nat)(xs xs':List En):Prop:=xs'.length=xs.length/\∀(i:Nat) (x:En),xs[i]? =some x->∃L',xs'[i]? =some (x.1,f i x.2.1,L')/\L'.length<=x.2.2.length+k
theorem HP.refl(xs:List En):HP (fun _ D=>D) 0 xs xs:=⟨rfl,fun i x hx=>⟨x.2.2,hx,Jf _⟩⟩
theorem HP.set{f g:Nat->Dr->Dr}{k i:Nat}{xs xs':List En}{x:En}{L' L'':List Rw}(h:HP f k xs xs')(hx:xs[i]? =some x)(hx':xs'[i]? =some (x.1,f i x.2.1,L'))(hl:L''.length<=L'.length+1)(hg:g i x.2.1=D')(ho:∀j,j≠i->g j=f j):HP g (k+1) xs (xs'.set i (x.1,D',L'')):=by
 refine⟨by rw[ET];exact h.1,fun j y hy=>?_⟩
 obtain⟨M,hM,hMl⟩:=h.2 j y hy
 by_cases z:j=i
 ·subst z
  rw[hx]at hy;cases hy
  rw[hx']at hM
  have:L'=M:=by injection hM with hM;injection hM with _ hM;injection hM
  subst this
  exact⟨L'',by rw[Fl (by rw[h.1];exact(JH.mp hx).1),hg],by lia⟩
 ·exact⟨M,by rw[Fm (fun w=>z w.symm),ho j z];exact hM,by lia⟩
theorem HP.mono{f:Nat->Dr->Dr}{k k':Nat}{xs xs':List En}(h:HP f k xs xs')(l:k<=k'):HP f k' xs xs':=⟨h.1,fun i x hx=>let⟨L',e,q⟩:=h.2 i x hx;⟨L',e,by lia⟩⟩
theorem HP.ext{f g:Nat->Dr->Dr}{k:Nat}{xs xs':List En}(h:HP f k xs xs')(e:∀i x,xs[i]? =some x->f i x.2.1=g i x.2.1):HP g k xs xs':=⟨h.1,fun i x hx=>let⟨L',q,r⟩:=h.2 i x hx;⟨L',by rw[q,e i x hx],r⟩⟩
def IK(H:Hp)(v:V):Option (Int×Int)->Prop
 |none=>v= .non
 |some (a,l)=>∃t,v= .ref t/\H t=some (.tup [.int a,.int l])
def Hm(H:Hp)(tl:Δ)(os:List (Option (Int×Int))):Prop:=∃vs:List V,H tl=some (.lst vs)/\vs.length=os.length/\∀(i:Nat) (v:V) (o:Option (Int×Int)),vs[i]? =some v->os[i]? =some o->IK H v o
theorem IK.mv{S:List Δ}{H H':Hp}{v:V}{o:Option (Int×Int)}(m:Mv S H H')(n:NT S H)(h:IK H v o):IK H' v o:=by
 cases o with
 |none=>exact h
 |some p=>obtain⟨t,e,r⟩:=h;exact⟨t,e,m.tup n r⟩
theorem Hm.mv{S:List Δ}{H H':Hp}{tl:Δ}{os:List (Option (Int×Int))}(h:Hm H tl os)(m:Mv S H H')(n:NT S H)(hs:tl∉S):Hm H' tl os:=by
 obtain⟨vs,e,l,r⟩:=h
 exact⟨vs,m _ _ hs e,l,fun i v o e1 e2=>(r i v o e1 e2).mv m n⟩
theorem Hm.same{H H':Hp}{tl:Δ}{os:List (Option (Int×Int))}(h:Hm H tl os)(s:FV H H'):Hm H' tl os:=h.mv (S:=[]) s.mv i4 (fun h=>nomatch h)
def Qt(nm:Str)(D:Dr):Option (Int×Int)->Dr
 |none=>D
 |some (a,l)=>{D with kn:=zb D.kn nm ⟨a,l,none⟩}
def qy(a b:Int):Int:=if a<b then b else a
def zn(a b:Int):Int:=if b<a then b else a
def zB(D:Dr)(e:Kb)(D':Dr)(e':Kb):Int:=zn (e.last+D.far) (e'.last+D'.far)
def Zm(lo hi:Int)(p:Int->Bool):Option Int:=((List.range (hi-lo).toNat).map fun i:Nat=>lo+(i:Int)).find? p
theorem ZQ{D:Dr}{e:Kb}{age c:Int}(h:c<=e.last):(qN D e age c).2=e:=by
 unfold qN zv;rw[Jc h];split<;>rfl
theorem gV{lo hi:Int}{p:Int->Bool}{c:Int}(h:Zm lo hi p=some c):lo<=c/\c<hi/\p c=true/\∀x,lo<=x->x<c->p x=false:=by
 unfold Zm at h;obtain⟨h1,as,bs,e,h2⟩:=List.find?_eq_some_iff_append.mp h
 have len:=JX List.length e;rw[Je,List.length_range,Jw,JQ]at len;have ec:c=lo+(as.length:Int):=by
  have z:((List.range (hi-lo).toNat).map fun i:Nat=>lo+(i:Int))[as.length]? =some c:=by rw[e];simp
  rw[Jq,Fy (by lia)]at z
  exact(JB z).symm
 refine⟨by lia,by lia,h1,fun x hx1 hx2=>?_⟩
 have hm:x∈as:=by
  have hj:(x-lo).toNat<as.length:=by lia
  have z:((List.range (hi-lo).toNat).map fun i:Nat=>lo+(i:Int))[(x-lo).toNat]? =some x:=by
   rw[Jq,Fy (by lia)]
   show some (lo+((x-lo).toNat:Int))=some x
   congr 1;lia
  rw[e,J5 hj]at z;exact DU z
 have:=h2 x hm
 simpa using this
theorem hV{lo hi:Int}{p:Int->Bool}(h:Zm lo hi p=none):∀x,lo<=x->x<hi->p x=false:=by
 intro x h1 h2
 have:=List.find?_eq_none.mp h x (Ju.mpr ⟨(x-lo).toNat,J6.mpr (by lia),by lia⟩)
 simpa using this
theorem vH{lo hi:Int}{p:Int->Bool}{c:Int}(h1:lo<=c)(h2:c<hi)(h3:p c=true)(h4:∀x,lo<=x->x<c->p x=false):Zm lo hi p=some c:=by
 cases e:Zm lo hi p with
 |none=>rw[hV e c h1 h2]at h3;cases h3
 |some d=>
  obtain⟨d1,d2,d3,d4⟩:=gV e;rcases Int.lt_trichotomy c d with z|z|z
  ·rw[d4 c h1 z]at h3;cases h3
  ·rw[z]
  ·rw[h4 d d1 z]at d3;cases d3
section
variable(K:ι)(C:Δ)
def kG:Sp:=fun vs H Q _=>∃(p ta hk bd lg:Δ) (n:Nat) (D:Dr),vs=[.ref p]/\FX K C H p ta hk bd lg n D/\GZ D/\∀l (ss:List Str) H',FV H H'->ss.Perm (D.kn.map (·.1))->H' l=some (.lst (ss.map V.str))->Q (.ref l) H'
def nP:Sp:=fun vs H Q _=>∃(p ta hk bd lg a:Δ) (n:Nat) (D:Dr) (e:Kb) (p' ta' hk' bd' lg' a':Δ) (n':Nat) (D':Dr) (e':Kb),vs=[.ref p,.ref a,.ref p',.ref a']/\FX K C H p ta hk bd lg n D/\GH H a e/\FX K C H p' ta' hk' bd' lg' n' D'/\GH H a' e'/\
 ∀H',FV H H'->Q (.int (zB D e D' e')) H'
end
theorem gO{α:Type} [DecidableEq α]:∀{l m:List α},l.Nodup->(∀x∈l,x∈m)->l.length<=m.length
 | [],m,_,_=>Jz _
 |x::l,m,hn,hs=>by
  obtain⟨n1,n2⟩:=DT.mp hn;have hx:=hs x (Jy ..);have ih:=gO (l:=l) (m:=m.erase x) n2 (fun y hy=>(List.mem_erase_of_ne (fun e:y=x=>n1 (by rw[<- e];exact hy))).mpr (hs y (JE _ hy)))
  have h1:=List.length_erase_of_mem hx;have h2:=List.length_pos_of_mem hx;rw[JQ];omega
structure Iq(t:List Int)(kss:List (List Int))(D:Dr):Prop where
 ok:GZ D
 t:D.t=t
 ks:D.kss=kss
 rm:(D.kn.length:Int)<D.most
theorem hU{t:List Int}{kss:List (List Int)}{D:Dr}{nm:Str}{age c d:Int}(h:Iq t kss D)(l0:D.least<=age)(a1:age<kss.length)(c0:0<=c)(c1:c<4096)(hd:aU d):cV D (Qg t kss nm age c d)=some (c,d):=by
 unfold cV QH Qg;simp only
 rw[Jg l0,h.ks,Jg a1,Jc (show(true&&true)=true from rfl),h.t,show Qs D age=kss.getD age.toNat [] by unfold Qs;rw[h.ks]]
 exact jt (h.t▸h.ok.tp) c0 c1 hd
def cU(K:ι)(C:Δ):Sp:=fun vs H Q _=>∃(cd tb kt pl tl b:Δ) (c:Nat) (H0:Hp) (t:List Int) (kss:List (List Int)) (xs:List En) (nm:Str) (os:List (Option (Int×Int))),vs=[.ref cd,.ref pl,.str nm,.ref tl]/\Pw K C H0 H b c pl xs/\xs.length=2/\GL H cd tb kt t kss/\QQ nm/\Hm H tl os/\os.length=2/\(∀(i:Nat) (x:En),xs[i]? =some x->tl∉eS x.1)/\
 (∀(i:Nat) (x:En),xs[i]? =some x->Iq t kss x.2.1/\(∀a l,os.getD i none=some (a,l)->x.2.1.least<=a)/\x.2.1.kn.lookup nm=none/\x.2.1.kn.length<=11/\x.2.2.length<=900)/\(∀a l,some (a,l)∈os->0<=a/\a<kss.length/\1<=l/\l<4096)/\
 ∀H' xs',Pw K C H0 H' b c pl xs'->GL H' cd tb kt t kss->HP (fun i D=>Qt nm D (os.getD i none)) 2 xs xs'->(∀c ys,H c=some (.tup ys)->H' c=some (.tup ys))->Q .non H'
def ZD(n:Int)(S:List (Int×Int)):List (Int×Int):=S.filterMap fun p=>if p.1<n then some (p.1,if p.2<n-1 then p.2 else n-1)else none
def Ze(n:Int)(S:List (Int×Int)):Bool:=S.any fun p=>decide (p.1<=n)&&decide (n<=p.2)
inductive IV:List (Int×Int)->Prop where
 |nil:IV []
 |one (f l:Int) (h:f<=l):IV [(f,l)]
 |two (f l g:Int) (h:f<=l) (h2:l+1<g):IV [(f,l),(g,g)]
def uR(F:List (Int×Int))(n:Int):List (Int×Int):=match F.getLast? with
 |some (f,l)=>if l=n-1 then F.dropLast++[(f,n)]else F++[(n,n)]
 |none=>[(n,n)]
theorem i6{S:List (Int×Int)}(h:IV S)(n:Int):ZD (n+1) S=if Ze n S=true then uR (ZD n S) n else ZD n S:=by
 cases h with
 |nil=>rfl
 |one f l h=>
  unfold ZD Ze uR
  by_cases h1:f<n
  ·by_cases h2:n<=l
   ·have e1:(if f<n+1 then some (f,if l<n+1-1 then l else n+1-1)else none)=some (f,n):=by rw[Jc (by lia),Jb (by lia)];congr 2;lia
    have e2:(if f<n then some (f,if l<n-1 then l else n-1)else none)=some (f,n-1):=by rw[Jc h1,Jb (by lia)]
    simp only[JP,List.filterMap_nil,e1,e2,JS,List.any_nil];rw[Jg (by lia:f<=n),Jg h2]
    simp
   ·have e1:(if f<n+1 then some (f,if l<n+1-1 then l else n+1-1)else none)=some (f,l):=by rw[Jc (by lia),Jc (by lia)]
    have e2:(if f<n then some (f,if l<n-1 then l else n-1)else none)=some (f,l):=by rw[Jc h1];congr 2;split<;>lia
    simp only[JP,List.filterMap_nil,e1,e2,JS,List.any_nil];rw[Jm h2];simp
  ·by_cases h2:f=n
   ·subst h2
    have e1:(if f<f+1 then some (f,if l<f+1-1 then l else f+1-1)else none)=some (f,f):=by rw[Jc (by lia),Jb (by lia)];congr 2;lia
    have e2:(if f<f then some (f,if l<f-1 then l else f-1)else none)=none:=by rw[Jb (by lia)]
    simp only[JP,List.filterMap_nil,e1,e2,JS,List.any_nil];rw[Jg (Jr f),Jg h];simp
   ·have e1:(if f<n+1 then some (f,if l<n+1-1 then l else n+1-1)else none)=none:=by rw[Jb (by lia)]
    have e2:(if f<n then some (f,if l<n-1 then l else n-1)else none)=none:=by rw[Jb h1]
    simp only[JP,List.filterMap_nil,e1,e2,JS,List.any_nil];rw[Jm (by lia:¬f<=n)]
    simp
 |two f l g h hg=>
  unfold ZD Ze uR
  by_cases h1:f<n
  ·by_cases h2:n<=l
   ·have e1:(if f<n+1 then some (f,if l<n+1-1 then l else n+1-1)else none)=some (f,n):=by rw[Jc (by lia),Jb (by lia)];congr 2;lia
    have e2:(if f<n then some (f,if l<n-1 then l else n-1)else none)=some (f,n-1):=by rw[Jc h1,Jb (by lia)]
    have e3:(if g<n+1 then some (g,if g<n+1-1 then g else n+1-1)else none)=none:=by rw[Jb (by lia)]
    have e4:(if g<n then some (g,if g<n-1 then g else n-1)else none)=none:=by rw[Jb (by lia)]
    simp only[JP,List.filterMap_nil,e1,e2,e3,e4,JS,List.any_nil];rw[Jg (by lia:f<=n),Jg h2]
    simp
   ·have e1:(if f<n+1 then some (f,if l<n+1-1 then l else n+1-1)else none)=some (f,l):=by rw[Jc (by lia),Jc (by lia)]
    have e2:(if f<n then some (f,if l<n-1 then l else n-1)else none)=some (f,l):=by rw[Jc h1];congr 2;split<;>lia
    by_cases h3:g<n
    ·have e3:(if g<n+1 then some (g,if g<n+1-1 then g else n+1-1)else none)=some (g,g):=by rw[Jc (by lia),Jc (by lia)]
     have e4:(if g<n then some (g,if g<n-1 then g else n-1)else none)=some (g,g):=by rw[Jc h3];congr 2;split<;>lia
     simp only[JP,List.filterMap_nil,e1,e2,e3,e4,JS,List.any_nil];rw[Jm h2,Jm (by lia:¬n<=g)]
     simp
    ·by_cases h4:g=n
     ·subst h4
      have e3:(if g<g+1 then some (g,if g<g+1-1 then g else g+1-1)else none)=some (g,g):=by rw[Jc (by lia),Jb (by lia)];congr 2;lia
      have e4:(if g<g then some (g,if g<g-1 then g else g-1)else none)=none:=by rw[Jb (by lia)]
      simp only[JP,List.filterMap_nil,e1,e2,e3,e4,JS,List.any_nil];rw[Jg (Jr g)];simp
      lia
     ·have e3:(if g<n+1 then some (g,if g<n+1-1 then g else n+1-1)else none)=none:=by rw[Jb (by lia)]
      have e4:(if g<n then some (g,if g<n-1 then g else n-1)else none)=none:=by rw[Jb h3]
      simp only[JP,List.filterMap_nil,e1,e2,e3,e4,JS,List.any_nil];rw[Jm h2,Jm (by lia:¬g<=n)]
      simp
  ·have e3:(if g<n+1 then some (g,if g<n+1-1 then g else n+1-1)else none)=none:=by rw[Jb (by lia)]
   have e4:(if g<n then some (g,if g<n-1 then g else n-1)else none)=none:=by rw[Jb (by lia)]
   by_cases h2:f=n
   ·subst h2
    have e1:(if f<f+1 then some (f,if l<f+1-1 then l else f+1-1)else none)=some (f,f):=by rw[Jc (by lia),Jb (by lia)];congr 2;lia
    have e2:(if f<f then some (f,if l<f-1 then l else f-1)else none)=none:=by rw[Jb (by lia)]
    simp only[JP,List.filterMap_nil,e1,e2,e3,e4,JS,List.any_nil];rw[Jg (Jr f),Jg h];simp
   ·have e1:(if f<n+1 then some (f,if l<n+1-1 then l else n+1-1)else none)=none:=by rw[Jb (by lia)]
    have e2:(if f<n then some (f,if l<n-1 then l else n-1)else none)=none:=by rw[Jb h1]
    simp only[JP,List.filterMap_nil,e1,e2,e3,e4,JS,List.any_nil];rw[Jm (by lia:¬f<=n),Jm (by lia:¬g<=n)]
    simp
theorem jv{S:List (Int×Int)}{n:Int}(h:∀p∈S,n<=p.1):ZD n S=[]:=by
 unfold ZD;rw[List.filterMap_eq_nil_iff];intro p hp;rw[Jb (by have:=h p hp;lia)]
theorem mL{S:List (Int×Int)}{n:Int}(h:∀p∈S,p.1<=p.2/\p.2<n):ZD n S=S:=by
 unfold ZD
 induction S with
 |nil=>rfl
 |cons p r ih=>
  have:=h p (Jy ..)
  rw[JP,Jc (by lia)]
  simp only
  rw[ih (fun q hq=>h q (JE _ hq))]
  congr 1
  obtain⟨a,b⟩:=p;simp only at this⊢
  congr 1
  split<;>lia
theorem Hm.two{H:Hp}{tl:Δ}{v v':V}{o o':Option (Int×Int)}(e:H tl=some (.lst [v,v']))(h:IK H v o)(h':IK H v' o'):Hm H tl [o,o']:=⟨[v,v'],e,rfl,fun i u w e1 e2=>by
 match i,e1,e2 with
 |0,e1,e2=>cases e1;cases e2;exact h
 |1,e1,e2=>cases e1;cases e2;exact h'
 |i+2,e1,e2=>cases e1⟩
theorem gR(D:Dr)(nm:Str)(age c:Int):(F8 D nm age c).map (·.1)=D.kn.map (·.1):=by
 rcases cm (D:=D) (nm:=nm) (age:=age) (c:=c)with e|⟨e,he,ht,ek⟩
 ·rw[e]
 ·rw[ek];exact pT he
theorem rP{D:Dr}{nm:Str}{age c:Int}{e:Kb}(nd:(D.kn.map (·.1)).Nodup)(he:D.kn.lookup nm=some e):(F8 D nm age c).lookup nm=some (qN D e age c).2:=by
 unfold F8 qT qN;rw[he];simp only
 by_cases ht:qH D e age=true
 ·rw[Jc ht,Jc ht]
  split
  ·exact lM nd
  ·exact lM nd
 ·rw[Jb ht,Jb ht];exact he
theorem GZ.hearK{D:Dr}(h:GZ D)(nm:Str)(age c:Int):GZ {D with kn:=L3.F8 D nm age c}:=by
 have k:=gR D nm age c;have l:(L3.F8 D nm age c).length=D.kn.length:=by have:=JX List.length k;simpa using this
 exact⟨h.tp,h.l0,h.kl,by show(L3.F8 D nm age c).length<=60;rw[l];exact h.nl,by show((L3.F8 D nm age c).map (·.1)).Nodup;rw[k];exact h.nd⟩
section
variable{D:Dr}{nm:Str}{age:Int}
theorem jm(D:Dr)(nm:Str)(age c d:Int)(nf:D.near<=D.far):(qR D nm age c="open"->(qT D nm age (some (c,d))).1[0]? =some (.str "open"))/\(¬qR D nm age c="open"->(qT D nm age (some (c,d))).1[0]? =some (.str "held")):=by
 have no1:¬(("":Str)="open"):=by decide
 have no3:¬(("wait":Str)="open"):=by decide
 cases e1:D.kn.lookup nm with
 |none=>
  have:qR D nm age c="":=by unfold qR;rw[e1]
  rw[this]
  exact⟨fun z=>absurd z no1,fun _=>by unfold qT;rw[e1];rfl⟩
 |some e=>
  by_cases ht:qH D e age=true
  case neg=>
   have:qR D nm age c="":=by unfold qR;rw[e1];simp only;rw[Jb ht]
   rw[this]
   exact⟨fun z=>absurd z no1,fun _=>by unfold qT;rw[e1];simp only;rw[Jb ht];rfl⟩
  have ew:qR D nm age c=(if c-e.last<1\/c-e.last>D.far then("":Str)else if c-e.last<=D.near\/e.wt=some (age,c-1)then("open":Str)else("wait":Str)):=by unfold qR;rw[e1];simp only;rw[Jc ht]
  have eh:(qT D nm age (some (c,d))).1[0]? =if(zv D.near D.far e age c).1="near" then some (.str "open")else some (.str "held"):=by
   unfold qT;rw[e1];simp only;rw[Jc ht];split<;>rfl
  rw[eh,ew];unfold zv
  by_cases h1:c<=e.last
  ·rw[Jc h1,Jc (show c-e.last<1\/c-e.last>D.far from .inl (by omega))]
   exact⟨fun z=>absurd z no1,fun _=>Jb (show¬(("old":Str)="near") by decide)⟩
  rw[Jb h1]
  by_cases h2:c<=e.last+D.near
  ·rw[Jc h2,Jb (show¬(c-e.last<1\/c-e.last>D.far) by omega),Jc (show c-e.last<=D.near\/_ from .inl (by omega))]
   exact⟨fun _=>Jc rfl,fun z=>absurd rfl z⟩
  rw[Jb h2]
  by_cases h3:c<=e.last+D.far
  ·rw[Jc h3,Jb (show¬(c-e.last<1\/c-e.last>D.far) by omega)]
   by_cases h4:e.wt=some (age,c-1)
   ·rw[Jc h4,Jc (show c-e.last<=D.near\/_ from .inr h4)]
    exact⟨fun _=>Jc rfl,fun z=>absurd rfl z⟩
   ·rw[Jb h4,Jb (show¬(c-e.last<=D.near\/e.wt=some (age,c-1))from fun z=>z.elim (fun z=>by omega) h4)]
    exact⟨fun z=>absurd z no3,fun _=>Jb (show¬(("far":Str)="near") by decide)⟩
  ·rw[Jb h3,Jc (show c-e.last<1\/c-e.last>D.far from .inr (by omega))]
   exact⟨fun z=>absurd z no1,fun _=>Jb (show¬(("beyond":Str)="near") by decide)⟩
end
def cz{α:Type}(lo:Int)(n:Nat)(f:Int->Option α):Option α:=((List.range n).map fun i:Nat=>lo+(i:Int)).findSome? f
theorem ao{α β:Type}{l:List α}{f:α->Option β}(h:∀x∈l,f x=none):l.findSome? f=none:=by
 induction l with
 |nil=>rfl
 |cons x r ih=>rw[List.findSome?_cons,h x Jy];exact ih fun y hy=>h y (JE _ hy)
theorem iB{α β:Type}{l:List α}{f:α->Option β}{i:Nat}{x:α}{y:β}(hx:l[i]? =some x)(hy:f x=some y)(h:∀j z,j<i->l[j]? =some z->f z=none):l.findSome? f=some y:=by
 induction l generalizing i with
 |nil=>cases hx
 |cons a r ih=>
  rw[List.findSome?_cons];cases i with
  |zero=>cases hx;rw[hy]
  |succ i=>
   rw[h 0 a (Nat.succ_pos _) rfl];exact ih hx fun j z hj hz=>h (j+1) z (by lia) hz
theorem lP{α β:Type}{l:List α}{f g:α->Option β}(h:∀x∈l,f x=g x):l.findSome? f=l.findSome? g:=by
 induction l with
 |nil=>rfl
 |cons x r ih=>rw[List.findSome?_cons,List.findSome?_cons,h x Jy,ih fun y hy=>h y (JE _ hy)]
theorem eW{lo x:Int}{n:Nat}(h:x∈(List.range n).map fun i:Nat=>lo+(i:Int)):lo<=x/\x<lo+n:=by
 obtain⟨i,hi,rfl⟩:=Ju.mp h
 have:=J6.mp hi
 lia
theorem ZJ{α:Type}{lo:Int}{n:Nat}{f:Int->Option α}(h:∀x,lo<=x->x<lo+n->f x=none):cz lo n f=none:=ao fun x hx=>h x (eW hx).1 (eW hx).2
theorem bV{α:Type}{lo:Int}{n i:Nat}{f:Int->Option α}{y:α}(hi:i<n)(hy:f (lo+(i:Int))=some y)(h:∀x,lo<=x->x<lo+i->f x=none):cz lo n f=some y:=by
 refine iB (i:=i) (x:=lo+(i:Int)) (by rw[Jq,Fy hi];rfl) hy fun j z hj hz=>?_
 rw[Jq,Fy (by lia)]at hz
 cases hz;exact h _ (show lo<=lo+(j:Int) by lia) (show lo+(j:Int)<lo+(i:Int) by lia)
theorem i9{α:Type}{lo:Int}{n:Nat}{f g:Int->Option α}(h:∀x,lo<=x->x<lo+n->f x=g x):cz lo n f=cz lo n g:=lP fun x hx=>h x (eW hx).1 (eW hx).2
def qG(S:List (Int×Int)):List Int:=S.flatMap fun p=>(List.range (p.2+1-p.1).toNat).map fun i:Nat=>p.1+(i:Int)
theorem fT(S:List (Int×Int))(n:Int):n∈qG S↔Ze n S=true:=by
 unfold qG Ze;rw[List.mem_flatMap,List.any_eq_true];refine exists_congr fun p=>and_congr_right fun _=>?_
 rw[Jt,decide_eq_true_eq,decide_eq_true_eq,Ju];constructor
 ·rintro⟨i,hi,rfl⟩
  have:=J6.mp hi
  lia
 ·rintro⟨h1,h2⟩
  exact⟨(n-p.1).toNat,J6.mpr (by lia),by lia⟩
structure GY(S:List (Int×Int)):Prop where
 two:IV S
 bd:∀p∈S,0<=p.1/\p.1<=p.2/\p.2<=4095/\p.2-p.1<=63
 cnt:(qG S).length<=66
theorem GY.nil:GY []:=⟨.nil,(fun p h=>nomatch h),Jz _⟩
theorem kN{x y:Int}(h:y-x<=63):(qG [(x,y)]).length<=64:=by
 unfold qG;rw[List.flatMap_cons,List.flatMap_nil,DV,Je,List.length_range]
 show(y+1-x).toNat<=64
 lia
theorem wz{x y z:Int}(h:y-x<=63):(qG [(x,y),(z,z)]).length<=66:=by
 have e:qG [(x,y),(z,z)]=qG [(x,y)]++qG [(z,z)]:=by unfold qG;rw[<- List.flatMap_append];rfl
 have h1:=kN h;have h2:(qG [(z,z)]).length<=1:=by
  unfold qG;rw[List.flatMap_cons,List.flatMap_nil,DV,Je,List.length_range]
  show(z+1-z).toNat<=1
  lia
 rw[e,Jw];lia
theorem GY.out{S:List (Int×Int)}(h:GY S){n:Int}(hn:n<0\/4096<=n):Ze n S=false:=by
 unfold Ze;rw[List.any_eq_false];intro p hp z;rw[Jt,decide_eq_true_eq,decide_eq_true_eq]at z
 have:=h.bd p hp
 lia
def Ir(S S':List (Int×Int)):Prop:=∀ks:List Int,ks.Nodup->(∀k,k∈ks↔¬(k∈qG S↔k∈qG S'))->ks.length<64
theorem Ir.few{S S':List (Int×Int)}(h:(qG S).length+(qG S').length<64):Ir S S':=fun ks nd mem=>by
 have:ks.length<=(qG S++qG S').length:=gO nd fun k hk=>by
  have hk:=(mem k).mp hk;rw[JC]
  by_cases z:k∈qG S
  ·exact .inl z
  ·exact .inr (Decidable.byContradiction fun y=>hk ⟨fun q=>absurd q z,fun q=>absurd q y⟩)
 rw[Jw]at this;lia
theorem CF{S S':List (Int×Int)}(h:GY S)(h':GY S')(he:∀n,Ze n S=Ze n S'):S=S':=by
 have key:∀k:Nat,ZD (k:Int) S=ZD (k:Int) S':=fun k=>by
  induction k with
  |zero=>
   show ZD 0 S=ZD 0 S'
   rw[jv fun p hp=>(h.bd p hp).1,jv fun p hp=>(h'.bd p hp).1]
  |succ k ih=>
   have e:((k+1:Nat):Int)=(k:Int)+1:=by lia
   rw[e,i6 h.two,i6 h'.two,he,ih]
 have:=key 4096
 rw[mL fun p hp=>⟨(h.bd p hp).2.1,by have:=(h.bd p hp).2.2.1;lia⟩,mL fun p hp=>⟨(h'.bd p hp).2.1,by have:=(h'.bd p hp).2.2.1;lia⟩]at this
 exact this
def QV(S S':List (Int×Int))(n:Int):Bool:=decide (Ze n S≠Ze n S')
def zQ(S S':List (Int×Int)):Int:=(Zm 0 4096 (QV S S')).getD 0
theorem pK(S S':List (Int×Int)):QV S S'=QV S' S:=by
 funext n
 exact decide_eq_decide.mpr ⟨Ne.symm,Ne.symm⟩
theorem pW(S S':List (Int×Int)):zQ S S'=zQ S' S:=by unfold zQ;rw[pK]
theorem pM{S S':List (Int×Int)}(h:GY S)(h':GY S')(ne:S≠S'):Zm 0 4096 (QV S S')=some (zQ S S'):=by
 cases e:Zm 0 4096 (QV S S')with
 |some c=>unfold zQ;rw[e];rfl
 |none=>
  refine absurd (CF h h' fun n=>?_) ne
  by_cases hn:n<0\/4096<=n
  ·rw[h.out hn,h'.out hn]
  ·have:=of_decide_eq_false (hV e n (by lia) (by lia))
   exact Decidable.not_not.mp this
theorem rg{S S':List (Int×Int)}{ms:List Int}(h:GY S)(h':GY S')(hm:∀k,k∈ms↔¬(k∈qG S↔k∈qG S'))(hp:ms.Pairwise (· <= ·))(ne:S≠S'):ms[0]? =some (zQ S S'):=by
 obtain⟨l1,l2,l3,l4⟩:=gV (pM h h' ne)
 have mem:∀k,k∈ms↔QV S S' k=true:=fun k=>by
  rw[hm,fT,fT];unfold QV;rw[decide_eq_true_eq];exact not_congr D8.symm
 cases ms with
 |nil=>exact absurd ((mem _).mpr l3) Jx
 |cons x r=>
  have hx:=(mem x).mp Jy;have hl:zQ S S'∈x::r:=(mem _).mpr l3
  have le1:x<=zQ S S':=by
   rcases Jl.mp hl with e|e
   ·rw[e];exact Jr _
   ·exact(List.pairwise_cons.mp hp).1 _ e
  have le2:¬x<zQ S S':=fun z=>by
   have x0:0<=x:=by
    refine Int.not_lt.mp fun y=>?_
    have:=Jv hx
    rw[h.out (.inl y),h'.out (.inl y)]at this;exact this rfl
   rw[l4 x x0 z]at hx;cases hx
  show some x=_
  congr 1
  lia
def zU(D:Dr)(age:Int)(o:Option Kb):List (Int×Int):=match o with
 |none=>[]
 |some e=>za D e age
def Qv(D:Dr)(o:Option Kb)(D':Dr)(o':Option Kb):Option (Int×Int):=cz 0 D.kss.length fun a=>if zU D a o=zU D' a o' then none else some (a,zQ (zU D a o) (zU D' a o'))
theorem bI{D D':Dr}(hk:D.kss.length=D'.kss.length)(o o':Option Kb):Qv D o D' o'=Qv D' o' D o:=by
 unfold Qv;rw[hk];refine i9 fun a _ _=>?_
 by_cases z:zU D a o=zU D' a o'
 ·rw[Jc z,Jc z.symm]
 ·rw[Jb z,Jb (Ne.symm z),pW]
theorem aA{D D':Dr}{o o':Option Kb}(h:Qv D o D' o'=none){a:Int}(a0:0<=a)(a1:a<D.kss.length):zU D a o=zU D' a o':=by
 unfold Qv cz at h
 have:=List.findSome?_eq_none_iff.mp h a (Ju.mpr ⟨a.toNat,J6.mpr (by lia),by lia⟩)
 by_cases z:zU D a o=zU D' a o'
 ·exact z
 ·rw[Jb z]at this;cases this
structure Gf(D:Dr):Prop where
 n0:1<=D.near
 n1:D.near<=64
 nf:D.near<=D.far
 f1:D.far<=1024
 l0:0<=D.least
 lk:D.least<D.kss.length
def Zb(D:Dr):Option Kb->Prop
 |none=>True
 |some e=>Gi D e
theorem yV{D:Dr}{e:Kb}(d:Gf D)(k:Gi D e)(age:Int):GY (za D e age):=by
 have n0:=d.n0;have n1:=d.n1;have l0:=k.l0;have l1:=k.l1;unfold za
 by_cases ht:qH D e age=true
 case neg=>rw[Jb ht];exact GY.nil
 rw[Jc ht]
 by_cases h1:e.last+1<4096
 ·rw[Jc h1]
  have wd:(if 4095<e.last+D.near then 4095 else e.last+D.near)-(e.last+1)<=63:=by split<;>lia
  have one:GY [(e.last+1,if 4095<e.last+D.near then 4095 else e.last+D.near)]:=⟨.one _ _ (by split<;>lia),fun p hp=>by rw[Jj.mp hp];simp only;split<;>lia,JO (kN wd) (by decide)⟩
  cases ew:e.wt with
  |none=>exact one
  |some xw=>
   obtain⟨x,w⟩:=xw;have hw:=k.w x w ew;simp only
   by_cases h2:x=age/\w+1<=(if 4095<e.last+D.far then 4095 else e.last+D.far)
   ·rw[Jc h2]
    have h3:=h2.2;refine⟨.two _ _ _ (by split<;>lia) (by split<;>lia),fun p hp=>?_,wz wd⟩
    rcases Jl.mp hp with rfl|hp
    ·exact one.bd _ Jy
    ·rw[Jj.mp hp];simp only;split at h3<;>lia
   ·rw[Jb h2,DV];exact one
 ·rw[Jb h1]
  cases ew:e.wt with
  |none=>exact GY.nil
  |some xw=>
   obtain⟨x,w⟩:=xw;have hw:=k.w x w ew;simp only
   rw[Jb (fun z=>by have:=z.2;split at this<;>lia)]
   exact GY.nil
theorem oE{D:Dr}{o:Option Kb}(d:Gf D)(k:Zb D o)(age:Int):GY (zU D age o):=by
 cases o with
 |none=>exact GY.nil
 |some e=>exact yV d k age
theorem aM{D:Dr}{e:Kb}{age c:Int}(d:Gf D)(k:Gi D e)(c0:0<=c)(c1:c<4096):Gi D (qN D e age c).2:=by
 unfold qN
 by_cases ht:qH D e age=true
 ·rw[Jc ht];exact vg k (gy ht) (aV ht d.l0).2 c0 c1
 ·rw[Jb ht];exact k
theorem vL{D:Dr}{e:Kb}(n1:D.near<=13)(age:Int):(qG (za D e age)).length<=28:=by
 have one:∀{x y:Int},y-x<=13->((List.range (y+1-x).toNat).map fun i:Nat=>x+(i:Int)).length<=14:=fun{x y} h=>by
  rw[Je,List.length_range];lia
 have ap:∀A B:List (Int×Int),qG (A++B)=qG A++qG B:=fun A B=>by unfold qG;rw[List.flatMap_append]
 unfold za;split
 ·rw[ap,Jw]
  have h1:(qG (if e.last+1<4096 then [(e.last+1,if 4095<e.last+D.near then 4095 else e.last+D.near)]else [])).length<=14:=by
   split
   ·unfold qG
    rw[List.flatMap_cons,List.flatMap_nil,DV];exact one (by split<;>lia)
   ·exact Jz _
  have h2:∀(p:Prop) [Decidable p] (z:Int),(qG (if p then [(z,z)]else [])).length<=14:=fun p _ z=>by
   split
   ·unfold qG
    rw[List.flatMap_cons,List.flatMap_nil,DV];exact one (by lia)
   ·exact Jz _
  cases e.wt with
  |none=>exact JO h1 (by decide)
  |some xw=>exact JO (Nat.add_le_add h1 (h2 _ _)) (by decide:14+14<=28)
 ·exact Jz _
def IH(D:Dr)(o:Option Kb)(D':Dr)(o':Option Kb):Prop:=∀a,Ir (zU D a o) (zU D' a o')
theorem IH.narrow{D D':Dr}{o o':Option Kb}(h:D.near<=13)(h':D'.near<=13):IH D o D' o':=fun a=>Ir.few (by
 have key:∀{D:Dr} {o:Option Kb},D.near<=13->(qG (zU D a o)).length<=28:=fun{D o} h=>by
  cases o with
  |none=>exact Jz _
  |some e=>exact vL h a
 have:=key (o:=o) h
 have:=key (o:=o') h'
 lia)
def Qu(D:Dr)(o:Option Kb)(D':Dr)(o':Option Kb):Option ((Int×Int)×Int×Int):=match o,o' with
 |some e,some e'=>cz (zB D e D' e') (zn (zB D e D' e'+2) 4096-zB D e D' e').toNat fun c=>(Qv D (some (qN D e (qy e.age D.least) c).2) D' (some (qN D' e' (qy e.age D.least) c).2)).map fun p=>((qy e.age D.least,c),p)
 |_,_=>none
theorem we(D D':Dr)(e e':Kb):zB D e D' e'=zB D' e' D e:=by unfold zB zn;split<;>split<;>lia
theorem zO{D:Dr}{e:Kb}(d:Gf D)(k:Gi D e)(h1:e.last+1<4096){a:Int}:za D e a≠[]↔qy e.age D.least<=a/\a<D.kss.length:=by
 unfold za
 by_cases ht:qH D e a=true
 ·rw[Jc ht,Jc h1]
  refine⟨fun _=>?_,fun _ z=>by cases z⟩
  have h2:=gy ht;have h3:=(aV ht d.l0).2;unfold qH QH at ht;rw[Jt,Jt]at ht;have h4:=Jv ht.1.1;unfold qy;split<;>lia
 ·rw[Jb ht]
  refine⟨fun z=>absurd rfl z,fun⟨z1,z2⟩=>absurd ?_ ht⟩
  unfold qH QH
  have:e.age<=a/\D.least<=a:=by unfold qy at z1;split at z1<;>lia
  rw[Jg this.2,Jg z2,Jg this.1];rfl
theorem ZH{D:Dr}{e:Kb}(d:Gf D)(k:Gi D e)(h1:¬e.last+1<4096)(a:Int):za D e a=[]:=by
 have n0:=d.n0;unfold za
 by_cases ht:qH D e a=true
 ·rw[Jc ht,Jb h1]
  cases ew:e.wt with
  |none=>rfl
  |some xw=>
   obtain⟨x,w⟩:=xw;have hw:=k.w x w ew;simp only
   rw[Jb (fun z=>by have:=z.2;split at this<;>lia)];rfl
 ·rw[Jb ht]
theorem ua{D D':Dr}{o o':Option Kb}(d:Gf D)(d':Gf D')(k:Zb D o)(k':Zb D' o')(hk:D.kss.length=D'.kss.length)(no:Qv D o D' o'=none):Qu D o D' o'=Qu D' o' D o:=by
 cases o with
 |none=>cases o'<;>rfl
 |some e=>
  cases o' with
  |none=>rfl
  |some e'=>
   have k:Gi D e:=k
   have k':Gi D' e':=k'
   have a0:=k.a0;have a0':=k'.a0;have a1:=k.a1;have a1':=k'.a1;have lk:=d.lk;have lk':=d'.lk;have ll:=d.l0;have ll':=d'.l0;have b1:0<=qy e.age D.least/\qy e.age D.least<D.kss.length:=by unfold qy;split<;>lia
   have b2:0<=qy e'.age D'.least/\qy e'.age D'.least<D'.kss.length:=by unfold qy;split<;>lia
   have all:∀a:Int,0<=a->a<D.kss.length->za D e a=za D' e' a:=fun a h0 h1=>aA no h0 h1
   have cut:∀{D D':Dr} {e e':Kb},Gf D->Gf D'->¬e.last+1<4096->¬e'.last+1<4096->∀f:Int->Option ((Int×Int)×Int×Int),cz (zB D e D' e') (zn (zB D e D' e'+2) 4096-zB D e D' e').toNat f=none:=fun{D D' e e'} d d' h h' f=>ZJ fun x x1 x2=>by
    have n0:=d.n0;have nf:=d.nf;have n0':=d'.n0;have nf':=d'.nf
    have:4096<=zB D e D' e':=by unfold zB zn;split<;>lia
    unfold zn at x2;split at x2<;>lia
   by_cases h1:e.last+1<4096
   ·by_cases h2:e'.last+1<4096
    ·have e1:qy e.age D.least=qy e'.age D'.least:=by
      have p1:=(zO d k h1 (a:=qy e.age D.least)).mpr ⟨Jr _,b1.2⟩
      rw[all _ b1.1 b1.2]at p1;have q1:=(zO d' k' h2).mp p1;have p2:=(zO d' k' h2 (a:=qy e'.age D'.least)).mpr ⟨Jr _,b2.2⟩
      rw[<- all _ b2.1 (by rw[hk];exact b2.2)]at p2
      have q2:=(zO d k h1).mp p2;lia
     unfold Qu;simp only
     rw[<- we D D' e e',<- e1];exact i9 fun c _ _=>by rw[bI hk]
    ·have p1:=(zO d k h1 (a:=qy e.age D.least)).mpr ⟨Jr _,b1.2⟩
     rw[all _ b1.1 b1.2,ZH d' k' h2]at p1;exact absurd rfl p1
   ·by_cases h2:e'.last+1<4096
    ·have p2:=(zO d' k' h2 (a:=qy e'.age D'.least)).mpr ⟨Jr _,b2.2⟩
     rw[<- all _ b2.1 (by rw[hk];exact b2.2),ZH d k h1]at p2
     exact absurd rfl p2
    ·unfold Qu
     simp only
     rw[cut d d' h1 h2,cut d' d h2 h1]
def C8(D:Dr)(o:Option Kb)(D':Dr)(o':Option Kb):Prop:=IH D o D' o'/\∀e e',o=some e->o'=some e'->∀c,zB D e D' e'<=c->c<4096->IH D (some (qN D e (qy e.age D.least) c).2) D' (some (qN D' e' (qy e.age D.least) c).2)
def IL(D D':Dr):Prop:=∀nm,C8 D (D.kn.lookup nm) D' (D'.kn.lookup nm)
theorem IL.narrow{D D':Dr}(h:D.near<=13)(h':D'.near<=13):IL D D':=fun nm=>⟨IH.narrow h h',fun _ _ _ _ _ _ _=>IH.narrow h h'⟩
abbrev a9:=List (Str×Int×Int)
def Qr(D D':Dr)(nm:Str):Option a9:=(Qv D (D.kn.lookup nm) D' (D'.kn.lookup nm)).map fun p=>[(nm,p.1,p.2)]
def Zv(D D':Dr)(nm:Str):Option a9:=(Qu D (D.kn.lookup nm) D' (D'.kn.lookup nm)).map fun p=>[(nm,p.1.1,p.1.2),(nm,p.2.1,p.2.2)]
def zJ(D D':Dr)(ns:List Str):Option a9:=match ns.findSome? (Qr D D')with
 |some r=>some r
 |none=>ns.findSome? (Zv D D')
def uS(D:Dr):Prop:=∀nm,Zb D (D.kn.lookup nm)
theorem tW{D D':Dr}(d:Gf D)(d':Gf D')(k:uS D)(k':uS D')(hk:D.kss.length=D'.kss.length)(ns:List Str):zJ D D' ns=zJ D' D ns:=by
 have e1:Qr D D'=Qr D' D:=by
  funext nm
  unfold Qr;rw[bI hk]
 unfold zJ;rw[e1];cases e:ns.findSome? (Qr D' D)with
 |some r=>rfl
 |none=>
  refine lP fun nm hn=>?_
  unfold Zv;rw[ua d d' (k nm) (k' nm) hk]
  have:=List.findSome?_eq_none_iff.mp e nm hn
  unfold Qr at this;rw[Option.map_eq_none_iff]at this;rw[bI hk];exact this
theorem rb{ns ms:List Str}(h1:ns.Nodup)(h2:ms.Nodup)(s1:sortedS ns=true)(s2:sortedS ms=true)(h:∀k,k∈ns↔k∈ms):ns=ms:=
 nz ((List.perm_ext_iff_of_nodup h1 h2).mpr h) s1 (List.Perm.refl _) s2
def IZ(D:Dr)(nm:Str)(a c:Int):Bool:=decide (qR D nm a c="open")
theorem Iy.same{H H':Hp}{v:V}{o:Option Kb}(h:Iy H v o)(s:FV H H'):Iy H' v o:=by
 cases o with
 |none=>exact h
 |some e=>obtain⟨a,e1,h1⟩:=h;exact⟨a,e1,h1.same s⟩
theorem Lc{D:Dr}{nm:Str}{H:Hp}{Q:VK}(h:∀v,Iy H v (D.kn.lookup nm)->Q v H):(D.kn.lookup nm=none->Q .non H)/\(∀e a,D.kn.lookup nm=some e->GH H a e->Q (.ref a) H):=
 ⟨fun e=>h _ (by rw[e];rfl),fun e a e1 h1=>h _ (by rw[e1];exact⟨a,rfl,h1⟩)⟩
theorem jN{S:List (Int×Int)}{i:Nat}{z:Int×Int}(h:S[i]? =some z):qG (S.take (i+1))=qG (S.take i)++(List.range (z.2+1-z.1).toNat).map fun k:Nat=>z.1+(k:Int):=by
 unfold qG;rw[D6,h,List.flatMap_append]
 show _++List.flatMap _ [z]=_
 rw[List.flatMap_cons,List.flatMap_nil,DV]
def Ij(H:Hp)(v:V):Option a9->Prop
 |none=>v= .non
 |some r=>∃(t:Δ) (as:List Δ),v= .ref t/\H t=some (.tup (as.map V.ref))/\as.length=r.length/\∀(i:Nat) (a:Δ) (z:Str×Int×Int),as[i]? =some a->r[i]? =some z->H a=some (.tup [.str z.1,.int z.2.1,.int z.2.2])
theorem Ij.same{H H':Hp}{v:V}{o:Option a9}(h:Ij H v o)(s:FV H H'):Ij H' v o:=by
 cases o with
 |none=>exact h
 |some r=>
  obtain⟨t,as,e,h1,h2,h3⟩:=h
  exact⟨t,as,e,s _ _ h1,h2,fun i a z e1 e2=>s _ _ (h3 i a z e1 e2)⟩
theorem Ij.one{H:Hp}{t a:Δ}{z:Str×Int×Int}(h:H t=some (.tup [.ref a]))(h1:H a=some (.tup [.str z.1,.int z.2.1,.int z.2.2])):Ij H (.ref t) (some [z]):=by
 refine⟨t,[a],rfl,h,rfl,fun i b y e1 e2=>?_⟩
 cases i with
 |zero=>cases e1;cases e2;exact h1
 |succ i=>cases e1
def DL(H:Hp)(v:V):Option ((Int×Int)×Int×Int)->Prop
 |none=>v= .non
 |some p=>∃(t x y:Δ),v= .ref t/\H t=some (.tup [.ref x,.ref y])/\H x=some (.tup [.int p.1.1,.int p.1.2])/\H y=some (.tup [.int p.2.1,.int p.2.2])
section
variable(K:ι)(C:Δ)
def lW:Sp:=fun vs H Q _=>∃(t:Δ) (S:List (Int×Int)),vs=[.ref t]/\HN H t S/\GY S/\∀l H',FV H H'->H' l=some (.lst ((qG S).map V.int))->Q (.ref l) H'
def nV:Sp:=fun vs H Q _=>∃(t t':Δ) (S S':List (Int×Int)),vs=[.ref t,.ref t']/\HN H t S/\HN H t' S'/\GY S/\GY S'/\S≠S'/\Ir S S'/\∀H',FV H H'->Q (.int (zQ S S')) H'
def u6:Sp:=fun vs H Q _=>∃(p ta hk bd lg:Δ) (n:Nat) (D:Dr) (v:V) (o:Option Kb) (p' ta' hk' bd' lg':Δ) (n':Nat) (D':Dr) (v':V) (o':Option Kb),vs=[.ref p,v,.ref p',v']/\FX K C H p ta hk bd lg n D/\Iy H v o/\FX K C H p' ta' hk' bd' lg' n' D'/\Iy H v' o'/\Gf D/\Gf D'/\Zb D o/\Zb D' o'/\D.kss.length<=8/\IH D o D' o'/\
 ∀u H',FV H H'->IK H' u (Qv D o D' o')->Q u H'
def uB:Sp:=fun vs H Q _=>∃(p ta hk bd lg:Δ) (n:Nat) (D:Dr) (v:V) (o:Option Kb) (p' ta' hk' bd' lg':Δ) (n':Nat) (D':Dr) (v':V) (o':Option Kb),vs=[.ref p,v,.ref p',v']/\FX K C H p ta hk bd lg n D/\Iy H v o/\FX K C H p' ta' hk' bd' lg' n' D'/\Iy H v' o'/\Gf D/\Gf D'/\Zb D o/\Zb D' o'/\D.kss.length<=8/\C8 D o D' o'/\
 ∀u H',FV H H'->DL H' u (Qu D o D' o')->Q u H'
structure G1(D:Dr):Prop where
 ok:GZ D
 dn:Gf D
 kn:uS D
 few:D.kn.length<=30
def gA:Sp:=fun vs H Q _=>∃(p ta hk bd lg:Δ) (n:Nat) (D:Dr) (p' ta' hk' bd' lg':Δ) (n':Nat) (D':Dr),vs=[.ref p,.ref p']/\FX K C H p ta hk bd lg n D/\FX K C H p' ta' hk' bd' lg' n' D'/\G1 D/\G1 D'/\IL D D'/\
 ∀u ns H',FV H H'->ns.Nodup->(∀k,k∈ns↔k∈D.kn.map (·.1)\/k∈D'.kn.map (·.1))->sortedS ns=true->Ij H' u (zJ D D' ns)->Q u H'
def iz:Sp:=fun vs H Q _=>∃(p ta hk bd lg:Δ) (n:Nat) (D:Dr) (p' ta' hk' bd' lg':Δ) (n':Nat) (D':Dr),vs=[.ref p,.ref p']/\FX K C H p ta hk bd lg n D/\FX K C H p' ta' hk' bd' lg' n' D'/\G1 D/\G1 D'/\IL D D'/\
 ∀ns H',FV H H'->ns.Nodup->(∀k,k∈ns↔k∈D.kn.map (·.1)\/k∈D'.kn.map (·.1))->sortedS ns=true->Q (.bl (zJ D D' ns).isNone) H'
end
def Cr(K:ι)(C:Δ):Sp:=fun vs H Q _=>∃(p ta hk bd lg:Δ) (n:Nat) (D:Dr) (nm:Str),vs=[.ref p,.str nm]/\FX K C H p ta hk bd lg n D/\∀v,Iy H v (D.kn.lookup nm)->Q v H
theorem Mf.ofO{P:Ξ}{w:Ω}{K:ι}{mg:FT}{base:Ψ}{C:Δ}(a:Mf P w K mg base C "button_of" ["self","name"] 1 (gX K C)):Mf P w K mg base C "button_of" ["self","name"] 1 (Cr K C):=
 a.weak fun vs H Q E ⟨p,ta,hk,bd,lg,n,D,nm,e,b,q⟩=>⟨p,ta,hk,bd,lg,n,D,nm,e,b,L3.Lc q⟩
end L3
namespace Lw
open PySem L2 L3
section
variable{P:Ξ}{w:Ω}{K:ι}{mg:FT}{base:Ψ}{tk:Nat->Tok}{C:Δ}
theorem gM(a:At K mg "stretches_of" ZP ["door","button","age"])(T:GA K mg tk)(U:GW K C)(dB:Mf P w K mg base C "takes_from" ["self","button","age"] 2 (bF K C))(dE:Mf P w K mg base C "bounds_told" ["self"] 1 (cT K C)):Df P w K mg base "stretches_of" ["door","button","age"] 3 (pH K C):=by
 refine a.dq F9 fun f _ A _ s H vs Q E hr h=>?_
 ·obtain⟨p,ta,hk,bd,lg,n,D,v,o,age,rfl,b,hv,q⟩:=h
  refine⟨_,(qd (qE (QW.pt (zZ (qx zX (qv 1) qM (qr _)) (zS (zL (zh (qZ dB U.cl hr.mo (qv 0) (qc (qv 1) (qc (qv 2) qa)))))))) (qf (qk (qu qa))) qt)
   (qd (zi (Q7 dE U.cl hr.mo (qv 0)) (zu rfl (qm (qg (i:=3) F9.nd rfl (Or.inl rfl)) (qm (qg (i:=4) F9.nd rfl (Or.inl rfl)) (qm (qg (i:=5) F9.nd rfl (Or.inl rfl)) qP)))))
   (qd (zi (qv 1) (zu rfl (qm (qg (i:=6) F9.nd rfl (Or.inl rfl)) (qm (qg (i:=7) F9.nd rfl (Or.inl rfl)) (qm (qg (i:=8) F9.nd rfl (Or.inl rfl)) qP)))))
   (qd (qA (i:=9) F9.nd rfl (Or.inl rfl) (zc qa))
   (qd (qE (qx aT (ql qC (qv 7) qe) (zg (v:= .int 4096) rfl T.g_COUNTS ⟨_,rfl⟩) (qr _)) (qf (zr (aa Et EF EG Qm (qv 9) (qc (qu (qc (ql qC (qv 7) qe) (qc (qp (Zd rfl) T.b_min PyProof.Rows.boot_min (qc (ql qC (qv 7) (qv 3)) (qc (ql zT (zg (v:= .int 4096) rfl T.g_COUNTS ⟨_,rfl⟩) qe) qa))) qa))) qa)))) qt)
   (qd (qE (QW.pt (mH (qx ZI (qv 8) qM (qr _)) (il (qx zx (qw qK (qv 8) qe) (qv 2) (qr _))))) (qd (qA (i:=10) F9.nd rfl (Or.inl rfl) (ql qC (qw qK (qv 8) qe) qe))
   (qf (qE (qx ZT (qv 10) (qp (Zd rfl) T.b_min PyProof.Rows.boot_min (qc (ql qC (qv 7) (qv 4)) (qc (ql zT (zg (v:= .int 4096) rfl T.g_COUNTS ⟨_,rfl⟩) qe) qa))) (qr _)) (qf (zr (aa Et EF EG Qm (qv 9) (qc (qu (qc (qv 10) (qc (qv 10) qa))) qa)))) qt))) qt)
   (qf (qk (qI qX T.b_tuple JN (qc (qv 9) qa)))))))))),?_⟩
  have none':(∀t H',FV H H'->HN H' t []->Q (.ref t) H')->∀t,H t=none->Q (.ref t) (F2 H t (.tup [])):=fun q t ht=>q t _ (FV.upd ht) ⟨[],qb,rfl,fun i a z h=>by cases h⟩
  cases o with
  |none=>
   have hv:v= .non:=hv
   subst hv
   exact⟨_,rfl,rfl,_,rfl,Qb (Jg rfl) (zj ⟨FL,none' q⟩)⟩
  |some e=>
  obtain⟨x,rfl,v',hx,hw⟩:=hv;refine⟨_,rfl,rfl,_,rfl,qQ (fun y=>nomatch (Jv y)) (fun _=>?_)⟩
  refine⟨_,rfl,p,rfl,b.no,_,rfl,_,rfl,p,ta,hk,bd,lg,x,n,D,e,age,rfl,b,⟨v',hx,hw⟩,_,rfl,?_⟩
  have q:∀t H',FV H H'->HN H' t (za D e age)->Q (.ref t) H':=q
  unfold za at q;cases ht:qH D e age with
  |false=>
   rw[Jb (by rw[ht];intro z;cases z)]at q
   exact zj ⟨FL,none' q⟩
  |true=>
  rw[Jc ht]at q;obtain⟨AA,eA⟩:∃AA:List (Int×Int),(if e.last+1<4096 then [(e.last+1,if 4095<e.last+D.near then 4095 else e.last+D.near)]else [])=AA:=⟨_,rfl⟩
  rw[eA]at q;have hA:AA.length<=1:=by rw[<- eA];split<;>simp
  refine zk ?_
  refine⟨_,rfl,p,rfl,b.no,p,ta,hk,bd,lg,n,D,rfl,b,fun t1 H1 s1 ht1=>⟨t1,_,rfl,.tup ht1,rfl,_,_,rfl,_,_,rfl,_,_,rfl,rfl,?_⟩⟩
  refine⟨_,rfl,x,_,rfl,.tup (s1 _ _ hx),rfl,_,_,rfl,_,_,rfl,_,_,rfl,rfl,?_⟩
  refine⟨FL,fun sl hsl=>?_⟩
  have u2:=FV.upd (o:= .lst []) hsl
  have hsl0:=Zw hsl s1;refine Za (fun σ' H'=>FV H H'/\IQ H' sl AA/\σ'=[some (.ref p),some (.ref x),some (.int age),some (.int D.near),some (.int D.far),some (.int D.most),some (.int e.age),some (.int e.last),some v',some (.ref sl),none]) (fun D' hrt hnx=>?_) ?_
  ·refine⟨_,rfl,_,_,rfl,rfl,_,_,rfl,rfl,_,rfl,?_⟩
   by_cases h1:e.last+1<4096
   ·refine Qb (Jg h1) ?_
    refine⟨_,rfl,.inl ⟨rfl,_,F6.of qb⟩,_,rfl,_,_,rfl,rfl,_,rfl,_,rfl,_,_,rfl,rfl,_,_,rfl,rfl,_,_,rfl,FN,fun y hy=>⟨sl,_,_,rfl,rfl,(FV.upd hy) _ _ qb,by show 0<ζ;decide,hnx _ _ ⟨?_,?_,rfl⟩⟩⟩
    ·exact fun c o e=>by rw[qi (qj e hsl0)];exact FV.upd hy _ _ (u2 _ _ (s1 _ _ e))
    ·rw[<- eA,Jc h1]
     exact IQ.add (as:=[]) (zs:=[]) ((FV.upd hy) _ _ qb) rfl (fun i a z h=>by cases h) qb
   ·refine Qa (Jm h1) (hnx _ _ ⟨s1.trans u2,?_,rfl⟩)
    rw[<- eA,Jb h1]
    exact⟨[],qb,rfl,fun i a z h=>by cases h⟩
  rintro _ H3 ⟨s3,pr3,rfl⟩
  refine eI (fun σ' H'=>FV H H'/\IQ H' sl (AA++(match e.wt with
   |none=>[]
   |some (x,w)=>if x=age/\w+1<=(if 4095<e.last+D.far then 4095 else e.last+D.far)then [(w+1,w+1)]else []))/\∃o,σ'=[some (.ref p),some (.ref x),some (.int age),some (.int D.near),some (.int D.far),some (.int D.most),some (.int e.age),some (.int e.last),some v',some (.ref sl),o]) (fun D' hrt hnx=>?_) ?_
  ·have hw3:=hw.same s3
   cases ew:e.wt with
   |none=>
    rw[ew]at hw3;have hv':v'= .non:=hw3
    subst hv';simp only
    exact⟨_,rfl,rfl,_,rfl,Qa rfl (zk (hnx _ _ ⟨s3,by rw[ew];simp only;rw[DV];exact pr3,_,rfl⟩))⟩
   |some xw=>
   obtain⟨x',w'⟩:=xw;rw[ew]at hw3;obtain⟨wa,rfl,hwa⟩:=hw3;simp only
   refine⟨_,rfl,rfl,_,rfl,Qb rfl ?_⟩
   refine⟨_,rfl,wa,_,_,_,rfl,rfl,F7.of hwa,rfl,_,rfl,rfl,_,rfl,?_⟩
   by_cases h2:x'=age
   case neg=>
    refine Qa (Jm (by intro z;injection z with z;exact h2 z)) (hnx _ _ ⟨s3,?_,_,rfl⟩)
    rw[ew];simp only
    rw[Jb (fun z=>h2 z.1),DV];exact pr3
   refine Qb (Jg (by rw[h2])) ?_
   refine⟨_,rfl,wa,_,_,_,rfl,rfl,F7.of hwa,rfl,_,_,rfl,rfl,?_⟩
   refine⟨_,rfl,_,rfl,_,rfl,_,_,rfl,rfl,_,_,rfl,rfl,_,_,rfl,_,_,rfl,rfl,_,rfl,?_⟩
   by_cases h3:w'+1<=(if 4095<e.last+D.far then 4095 else e.last+D.far)
   ·refine Qb (Jg h3) ?_
    obtain⟨as,eas,las,has⟩:=pr3;refine⟨_,rfl,.inl ⟨rfl,_,F6.of eas⟩,_,rfl,_,rfl,FN,fun y hy=>⟨sl,_,_,rfl,rfl,(FV.upd hy) _ _ eas,by rw[Je,las,JK];omega,hnx _ _ ⟨?_,?_,_,rfl⟩⟩⟩
    ·exact fun c o e=>by rw[qi (qj e hsl0)];exact FV.upd hy _ _ (s3 _ _ e)
    ·rw[ew];simp only
     rw[Jc ⟨h2,h3⟩];exact IQ.add ((FV.upd hy) _ _ eas) las (fun i a z e1 e2=>FV.upd hy _ _ (has i a z e1 e2)) qb
   ·refine Qa (Jm h3) (hnx _ _ ⟨s3,?_,_,rfl⟩)
    rw[ew];simp only
    rw[Jb (fun z=>h3 z.2),DV];exact pr3
  rintro _ H4 ⟨s4,⟨as,eas,las,has⟩,o,rfl⟩
  exact⟨_,rfl,sl,_,rfl,.inl ⟨F6.of eas,fun t ht=>q t _ (s4.trans (FV.upd ht)) ⟨as,qb,las,fun i a z e1 e2=>FV.upd ht _ _ (has i a z e1 e2)⟩⟩⟩
theorem nh(a:At K mg "opens_at" cp ["door","name","age"])(T:GA K mg tk)(U:GW K C)(dC:Mf P w K mg base C "button_of" ["self","name"] 1 (gX K C))(dH:Df P w K mg base "stretches_of" ["door","button","age"] 3 (pH K C)):Df P w K mg base "opens_at" ["door","name","age"] 4 (oA K C):=by
 refine a.dq mQ fun f _ A _ s H vs Q E hr h=>?_
 ·obtain⟨p,ta,hk,bd,lg,n,D,nm,age,rfl,b,q⟩:=h
  refine⟨_,(qf (qk (qo dH hr.mo (qc (qv 0) (qc (qZ dC U.cl hr.mo (qv 0) (qc (qv 1) qa)) (qc (qv 2) qa)))))),?_⟩
  unfold iI at q;refine⟨_,rfl,_,rfl,p,rfl,b.no,_,rfl,p,ta,hk,bd,lg,n,D,nm,rfl,b,fun e1=>?_,fun e x e1 hx=>?_⟩
  ·rw[e1]at q
   exact⟨_,rfl,p,ta,hk,bd,lg,n,D,.non,none,age,rfl,b,rfl,q⟩
  ·rw[e1]at q
   exact⟨_,rfl,p,ta,hk,bd,lg,n,D,.ref x,some e,age,rfl,b,⟨x,rfl,hx⟩,q⟩
theorem cD(a:HQ K C "plain_step" "Door.plain_step" Qh ["self","button","age","count"])(T:GA K mg tk)(U:GW K C)(dB:Mf P w K mg base C "takes_from" ["self","button","age"] 2 (bF K C))(xG:Df P w K mg base "step_by" ["button","age","count","near","far"] 2 iH):Mf P w K mg base C "plain_step" ["self","button","age","count"] 3 (lJ K C):=by
 refine a.mq ZV fun f _ A _ s H vs Q E hr h=>?_
 ·obtain⟨p,ta,hk,bd,lg,x,n,D,e,age,c,rfl,b,hx,q⟩:=h
  refine⟨_,(qd (qE (zL (zh (qZ dB U.cl hr.mo (qv 0) (qc (qv 1) (qc (qv 2) qa))))) (qf (qk (qu (qc qz (qc (qv 1) qa))))) qt)
   (qf (qk (qo xG hr.mo (qc (qv 1) (qc (qv 2) (qc (qv 3) (qc (qY (qv 0)) (qc (qY (qv 0)) qa))))))))),?_⟩
  refine⟨_,rfl,p,rfl,b.no,_,rfl,_,rfl,p,ta,hk,bd,lg,x,n,D,e,age,rfl,b,hx,_,rfl,?_⟩
  unfold qN at q;cases ht:qH D e age with
  |false=>
   rw[ht,Jb (by intro z;cases z)]at q
   refine zj ⟨_,rfl,FN,fun q1 hq1=>?_⟩
   exact q q1 x _ (FV.upd hq1) qb (hx.same (FV.upd hq1))
  |true=>
  rw[ht,Jc rfl]at q;refine zk ?_
  exact⟨_,rfl,_,rfl,_,rfl,_,rfl,p,_,rfl,b.h_near U,_,rfl,p,_,rfl,b.h_far U,x,e,age,c,D.near,D.far,rfl,hx,q⟩
theorem im(a:At K mg "names_known" Z2 ["door"])(T:GA K mg tk)(U:GW K C)(xE:Mf P w K mg base C "known_now" ["self"] 1 (mr K C)):Df P w K mg base "names_known" ["door"] 2 (kG K C):=by
 refine a.dq iJ fun f _ A _ s H vs Q E hr h=>?_
 ·obtain⟨p,ta,hk,bd,lg,n,D,rfl,b,ok,q⟩:=h
  refine⟨_,(qf (qk (zW (own:=["row"]) (fr:=[]) (js:=[]) rfl (ZU (Q7 xE U.cl hr.mo (qv 0))) rfl (fun _ _ h=>nomatch h) rfl (eB rfl (by decide +kernel) (by decide +kernel) (by decide +kernel)) (fun _ _ _ _=>qg (i:=0) (show List.Nodup (["row"]:List Str)from by decide +kernel) rfl (Or.inl rfl) (.inr rfl)) (fun _ _ _ _=>(qw (eO (K:=K) rfl) (qv 0) qe))))),?_⟩
  refine⟨_,rfl,p,rfl,b.no,p,ta,hk,bd,lg,n,D,rfl,b,ok,fun q1 ss H1 s1 pm so sh=>?_⟩
  obtain⟨as,e1,la,has⟩:=sh;have ls:ss.length<=60:=by rw[pm.length_eq,Je];exact ok.nl
  refine⟨q1,rfl,⟨_,F7.of e1⟩,ZB (K:=K) (xs:=as.map V.ref) (by rw[Je,la,JK];omega) (fun i ys H2=>ys=(ss.take i).map V.str/\FV H1 H2) ⟨by simp,FV.refl _⟩ (fun i ys H2 ⟨_,s2⟩=>F7.of (s2 _ _ e1)) ?_ ?_⟩
  ·rintro i ys H2 x hx hyl ⟨rfl,s2⟩
   rw[Jq]at hx;obtain⟨a1,ha1,rfl⟩:=DZ.mp hx;have hi:i<ss.length:=by rw[<- la];exact(JH.mp ha1).1
   have es:ss[i]? =some ss[i]:=Jk hi
   obtain⟨e,he⟩:=Q1 (pm.mem_iff.mp (EB hi))
   obtain⟨v,h1,_⟩:=has i a1 ss[i] e ha1 es he
   refine⟨_,rfl,a1,_,_,_,rfl,rfl,F7.of (s2 _ _ h1),rfl,?_,s2⟩
   rw[D6,es,JW];rfl
  ·rintro ys H2 hyl ⟨rfl,s2⟩ l hl
   refine q l ss _ ((s1.trans s2).trans (FV.upd hl)) pm ?_
   rw[qb,Je,la,Ej]
theorem jR(a:At K mg "lesser_end" aK ["one","first","other","second"])(T:GA K mg tk)(U:GW K C)(dE:Mf P w K mg base C "bounds_told" ["self"] 1 (cT K C)):Df P w K mg base "lesser_end" ["one","first","other","second"] 2 (nP K C):=by
 refine a.dq jX fun f _ A _ s H vs Q E hr h=>?_
 ·obtain⟨p,ta,hk,bd,lg,x,n,D,e,p',ta',hk',bd',lg',x',n',D',e',rfl,b,⟨v,hx,_⟩,b',⟨v',hx',_⟩,q⟩:=h
  refine⟨_,(qf (qk (qp (Zd rfl) T.b_min PyProof.Rows.boot_min (qc (ql qC (qw qK (qv 1) qe) (qw qK (Q7 dE U.cl hr.mo (qv 0)) qe)) (qc (ql qC (qw qK (qv 3) qe) (qw qK (Q7 dE U.cl hr.mo (qv 2)) qe)) qa))))),?_⟩
  refine⟨_,rfl,x,_,_,_,rfl,rfl,F7.of hx,rfl,_,rfl,p,rfl,b.no,p,ta,hk,bd,lg,n,D,rfl,b,fun t1 H1 s1 ht1=>⟨t1,_,_,_,rfl,rfl,F7.of ht1,rfl,_,_,rfl,rfl,?_⟩⟩
  have b1:=b'.same s1
  exact⟨_,rfl,x',_,_,_,rfl,rfl,F7.of (s1 _ _ hx'),rfl,_,rfl,p',rfl,b1.no,p',ta',hk',bd',lg',n',D',rfl,b1,fun t2 H2 s2 ht2=>⟨t2,_,_,_,rfl,rfl,F7.of ht2,rfl,_,_,rfl,rfl,_,_,rfl,q _ (s1.trans s2)⟩⟩
end
section
variable{P:Ξ}{w:Ω}{K:ι}{mg:FT}{base:Ψ}{tk:Nat->Tok}{C:Δ}
theorem mB(a:At K mg "counts_in" bi ["stretches"])(T:GA K mg tk):Df P w K mg base "counts_in" ["stretches"] 1 lW:=by
 refine a.dq kI fun f _ A _ s H vs Q E hr h=>?_
 ·obtain⟨t,S,rfl,pr,ok,q⟩:=h
  refine⟨_,(qf (qk (wu (own:=["first","last","count"]) (fr:=[]) (js:=[]) rfl (ZU (qv 0)) rfl (fun _ _ h=>nomatch h) rfl (eB rfl (by decide +kernel) (by decide +kernel) (by decide +kernel)) (fun _ _ _ _=>oV (K:=K) rfl 2 rfl (qm (qg (i:=0) (show List.Nodup (["first","last","count"]:List Str)from by decide +kernel) rfl (Or.inl rfl) (.inr rfl)) (qm (qg (i:=1) (show List.Nodup (["first","last","count"]:List Str)from by decide +kernel) rfl (Or.inl rfl) (.inr rfl)) qP))) (fun _ _ _ _=>(jF rfl T.b_range (qc (qv 0) (qc (ql qC (qv 1) qe) qa)))) (fun _ _ _ _=>qg (i:=2) (show List.Nodup (["first","last","count"]:List Str)from by decide +kernel) rfl (Or.inl rfl) (.inr rfl)) (fun _ _ _ _=>(qv 2))))),?_⟩
  obtain⟨as,e1,la,has⟩:=id pr;have cl:∀i,(qG (S.take i)).length<=66:=fun i=>by
   refine JO ?_ ok.cnt
   have e:qG S=qG (S.take i)++qG (S.drop i):=by unfold qG;rw[<- List.flatMap_append,List.take_append_drop]
   rw[e,Jw];exact Fk _ _
  refine⟨_,rfl,t,rfl,⟨_,F7.of e1⟩,?_⟩
  refine⟨fun i m ys τ Hx=>m=S.length-i/\i<=S.length/\Hx=H/\ys=(qG (S.take i)).map V.int/\∃o0 o1 o2,τ=[o0,o1,o2],⟨S.length,by simp,Jz _,rfl,rfl,_,_,_,rfl⟩,?_⟩
  rintro i m ys τ Hx ⟨rfl,hi,rfl,rfl,o0,o1,o2,rfl⟩
  by_cases hlt:i<S.length
  ·have hz:S[i]? =some S[i]:=Jk hlt
   obtain⟨z,ez⟩:∃z,z=S[i]:=⟨_,rfl⟩
   rw[<- ez]at hz;have hia:i<as.length:=by rw[la];exact hlt
   have hA:(as.map V.ref)[i]? =some (.ref as[i]):=by rw[Jq,Jk hia];rfl
   refine .inr ⟨⟨_,_,F7.of e1,hA⟩,fun x H' y=>?_⟩
   obtain⟨eH,hx⟩:H'=Hx/\(as.map V.ref)[i]? =some x:=⟨y.1,y.2 _ (F7.of e1)⟩
   subst eH;rw[hA]at hx;cases hx;have hb:=ok.bd z (DU hz);refine⟨_,_,rfl,F7.of (has i _ z (Jk hia) hz),rfl,_,_,rfl,_,_,rfl,rfl,?_⟩
   refine⟨_,rfl,_,rfl,_,_,rfl,rfl,_,_,rfl,⟨by lia,by lia,by lia,by lia⟩,?_⟩
   obtain⟨n,en⟩:∃n,n=(z.2+1-z.1).toNat:=⟨_,rfl⟩
   have ln:=cl (i+1);rw[jN hz,<- en,Jw,Je,List.length_range]at ln;refine⟨fun i2 m2 zs τ Hx=>m2=n-i2/\i2<=n/\Hx=H'/\zs=(qG (S.take i)).map V.int++(List.range i2).map (fun k:Nat=>V.int (z.1+(k:Int)))/\∃o2,τ=[some (.int z.1),some (.int z.2),o2],⟨n,by simp,Jz _,rfl,by simp,_,rfl⟩,?_⟩
   rintro i2 m2 zs τ Hy ⟨rfl,hi2,rfl,rfl,o2',rfl⟩
   by_cases hl2:i2<n
   ·refine .inr ⟨by rw[<- en];exact hl2,by rw[Jw,Je,Je,List.length_range,JK];lia,fun x2 H5 y2=>?_⟩
    obtain⟨eH5,rfl⟩:H5=Hy/\x2= .int (z.1+(i2:Int)):=y2
    subst eH5;refine⟨fun v H7=>v= .int (z.1+(i2:Int))/\H7=H5,fun v H7 hv=>⟨n-(i2+1),by lia,rfl,hl2,hv.2,?_,_,rfl⟩,⟨_,rfl,rfl,rfl⟩⟩
    rw[hv.1,List.range_succ,JW,Ee];rfl
   ·obtain rfl:i2=n:=by lia
    refine .inl ⟨by rw[<- en];exact Jf _,S.length-(i+1),by lia,rfl,hlt,rfl,?_,_,_,_,rfl⟩
    rw[jN hz,<- en,JW,Eb];rfl
  ·obtain rfl:i=S.length:=by lia
   refine .inl ⟨⟨_,F7.of e1,by rw[Je,la];exact Jf _⟩,fun p hp=>q p _ (FV.upd hp) ?_⟩
   rw[qb,Ej]
theorem iw(a:At K mg "least_apart" Z4 ["these","those"])(T:GA K mg tk)(xQ:Df P w K mg base "counts_in" ["stretches"] 1 lW):Df P w K mg base "least_apart" ["these","those"] 2 nV:=by
 refine a.dq hW fun f _ A _ s H vs Q E hr h=>?_
 ·obtain⟨t,t',S,S',rfl,pr,pr',ok,ok',ne,xs,q⟩:=h
  refine⟨_,(qf (qk (qw qF (qp (jT rfl) T.b_sorted PyProof.Rows.boot_sorted (qc (ql yw (qI (gI rfl) T.b_set PyProof.Rows.boot_set (qc (qo xQ hr.mo (qc (qv 0) qa)) qa)) (qI (gI rfl) T.b_set PyProof.Rows.boot_set (qc (qo xQ hr.mo (qc (qv 1) qa)) qa))) qa)) qe))),?_⟩
  have c1:=ok.cnt;have c2:=ok'.cnt;have sb:PySem.scanBound=4096:=rfl
  refine⟨_,rfl,t,S,rfl,pr,ok,fun l1 H1 s1 e1=>⟨l1,qG S,rfl,F6.of e1,by lia,fun z1 hz1=>?_⟩⟩
  have u1:=FV.upd (o:=ar P w z1 (S0.ddL (qG S))) hz1
  refine⟨_,rfl,t',S',rfl,(pr'.same s1).same u1,ok',fun l2 H2 s2 e2=>⟨l2,qG S',rfl,F6.of e2,by lia,fun z2 hz2=>?_⟩⟩
  have u2:=FV.upd (o:=ar P w z2 (S0.ddL (qG S'))) hz2
  have ez1:=s2 _ _ (qb (H:=H1) (a:=z1) (o:=ar P w z1 (S0.ddL (qG S))))
  have d1:=eZ (qG S);have d2:=eZ (qG S');refine⟨z1,z2,_,_,rfl,rfl,qj ez1 hz2,u2 _ _ ez1,qb,aN _,aN _,by lia,by lia,fun z3 ks hz3 nd len mem=>?_⟩
  have u3:=FV.upd (o:=ar P w z3 ks) hz3
  refine⟨z3,ks,rfl,qb,xs ks nd (fun k=>by rw[mem,Zi,Zi]),fun l ms hl pm pw=>?_⟩
  have u4:=FV.upd (o:= .lst (ms.map V.int)) hl
  have hd:=rg (ms:=ms) ok ok' (fun k=>by rw[pm.mem_iff,mem,Zi,Zi]) pw ne
  exact⟨l,_,_,_,rfl,rfl,F6.of qb,Qk (j:=0) (by rw[Jq,hd];rfl),q _ (((((s1.trans u1).trans s2).trans u2).trans u3).trans u4)⟩
theorem iy(a:At K mg "press_apart" Z1 ["one","first","other","second"])(T:GA K mg tk)(U:GW K C)(xH:Mf P w K mg base C "keys_now" ["self"] 1 (nX K C))(dH:Df P w K mg base "stretches_of" ["door","button","age"] 3 (pH K C))(xR:Df P w K mg base "least_apart" ["these","those"] 2 nV):Df P w K mg base "press_apart" ["one","first","other","second"] 4 (u6 K C):=by
 refine a.dq Gz fun f _ A _ s H vs Q E hr h=>?_
 ·obtain⟨p,ta,hk,bd,lg,n,D,v,o,p',ta',hk',bd',lg',n',D',v',o',rfl,b,hv,b',hv',dn,dn',k,k',k8,xs,q⟩:=h
  refine⟨_,(qd (zz J0 rfl (zK rfl T.b_range (qc (qp zm T.b_len DW (qc (Q7 xH U.cl hr.mo (qv 0)) qa)) qa)) (qg (i:=4) Gz.nd rfl (Or.inl rfl))
   (qd (qA (i:=5) Gz.nd rfl (Or.inl rfl) (qo dH hr.mo (qc (qv 0) (qc (qv 1) (qc (qv 4) qa)))))
   (qd (qA (i:=6) Gz.nd rfl (Or.inl rfl) (qo dH hr.mo (qc (qv 2) (qc (qv 3) (qc (qv 4) qa)))))
   (qf (qE (qx (B6 hr) (qv 5) (qv 6) (qr _)) (qf (qk (qu (qc (qv 4) (qc (qo xR hr.mo (qc (qv 5) (qc (qv 6) qa))) qa))))) qt)))))
   (qf (qk qM))),?_⟩
  refine⟨_,rfl,p,rfl,b.no,p,ta,hk,bd,lg,n,D,rfl,b,fun t0 as H0 s0 sq la _=>⟨t0,_,rfl,.inr sq,_,rfl,by lia,by rw[Je,la];lia,?_⟩⟩
  rw[Je,la,Ei];refine Qn (n:=D.kss.length) (Pv:=fun i σ Hx=>FV H Hx/\(∀x:Int,0<=x->x<0+(i:Int)->zU D x o=zU D' x o')/\∃o4 o5 o6,σ=[some (.ref p),some v,some (.ref p'),some v',o4,o5,o6]) ⟨s0,fun x h1 h2=>by lia,_,_,_,rfl⟩ ?_ ?_
  ·rintro i σ H1 hi ⟨s1,no,o4,o5,o6,rfl⟩
   obtain⟨A,eA⟩:∃A:Int,A=0+(i:Int):=⟨_,rfl⟩
   rw[<- eA]at no⊢;refine⟨_,rfl,_,rfl,_,rfl,p,ta,hk,bd,lg,n,D,v,o,A,rfl,b.same s1,hv.same s1,fun t1 H2 s2 pr1=>?_⟩
   have S2:=s1.trans s2;refine⟨_,rfl,_,rfl,_,rfl,p',ta',hk',bd',lg',n',D',v',o',A,rfl,b'.same S2,hv'.same S2,fun t2 H3 s3 pr2=>?_⟩
   have pr1:HN H3 t1 (zU D A o):=HN.same s3 pr1
   have pr2:HN H3 t2 (zU D' A o'):=pr2
   have S3:=S2.trans s3;refine⟨_,rfl,_,rfl,t1,t2,_,_,rfl,rfl,pr1,pr2,_,rfl,qQ (fun y=>?_) (fun y=>?_)⟩
   ·have ne:=Jv y
    refine⟨_,rfl,_,rfl,_,rfl,t1,t2,_,_,rfl,pr1,pr2,oE dn k A,oE dn' k' A,ne,xs A,fun H4 s4=>⟨FN,fun tt htt=>?_⟩⟩
    have e1:Qv D o D' o'=some (A,zQ (zU D A o) (zU D' A o')):=by
     unfold Qv;refine bV hi (by rw[<- eA];exact Jb ne) fun x x0 x1=>Jc (no x x0 (by lia))
    have:=q (.ref tt) _ ((S3.trans s4).trans (FV.upd (o:= .tup [.int A,.int (zQ (zU D A o) (zU D' A o'))]) htt))
    rw[e1]at this;exact this ⟨tt,rfl,qb⟩
   ·have eq:=Decidable.not_not.mp (fun z=>y (Jg z))
    refine⟨S3,fun x x0 x1=>?_,_,_,_,rfl⟩
    by_cases hx:x<A
    ·exact no x x0 hx
    ·obtain rfl:x=A:=by lia
     exact eq
  ·rintro σ H1 ⟨s1,no,o4,o5,o6,rfl⟩
   have e1:Qv D o D' o'=none:=ZJ fun x x0 x1=>Jc (no x x0 x1)
   have:=q .non _ s1
   rw[e1]at this;exact this rfl
theorem jZ(a:At K mg "pair_apart" aC ["one","first","other","second"])(T:GA K mg tk)(U:GW K C)(xB:Mf P w K mg base C "closed_now" ["self"] 1 (iY K C))(dG:Mf P w K mg base C "plain_step" ["self","button","age","count"] 3 (lJ K C))(xY:Df P w K mg base "lesser_end" ["one","first","other","second"] 2 (nP K C))(dL:Df P w K mg base "press_apart" ["one","first","other","second"] 4 (u6 K C)):Df P w K mg base "pair_apart" ["one","first","other","second"] 5 (uB K C):=by
 refine a.dq Gd fun f _ A _ s H vs Q E hr h=>?_
 ·obtain⟨p,ta,hk,bd,lg,n,D,v,o,p',ta',hk',bd',lg',n',D',v',o',rfl,b,hv,b',hv',dn,dn',k,k',k8,xs,q⟩:=h
  refine⟨_,(qd (qE (QW.pt (zZ (qx zX (qv 1) qM (qr _)) (zS (qx zX (qv 3) qM (qr _))))) (qf (qk qM)) qt)
   (qd (qA (i:=4) Gd.nd rfl (Or.inl rfl) (qp (ZW rfl) T.b_max E7 (qc (qw qK (qv 1) qe) (qc (Q7 xB U.cl hr.mo (qv 0)) qa))))
   (qd (qA (i:=5) Gd.nd rfl (Or.inl rfl) (qo xY hr.mo (qc (qv 0) (qc (qv 1) (qc (qv 2) (qc (qv 3) qa))))))
   (qd (zz J0 rfl (jF rfl T.b_range (qc (qv 5) (qc (qp (Zd rfl) T.b_min PyProof.Rows.boot_min (qc (ql qC (qv 5) qe) (qc (zg (v:= .int 4096) rfl T.g_COUNTS ⟨_,rfl⟩) qa))) qa))) (qg (i:=6) Gd.nd rfl (Or.inl rfl))
   (qd (zi (qZ dG U.cl hr.mo (qv 0) (qc (qv 1) (qc (qv 4) (qc (qv 6) qa)))) (zu rfl (qm (qg (i:=7) Gd.nd rfl (Or.inl rfl)) (qm (qg (i:=8) Gd.nd rfl (Or.inl rfl)) qP))))
   (qd (zi (qZ dG U.cl hr.mo (qv 2) (qc (qv 3) (qc (qv 4) (qc (qv 6) qa)))) (zu rfl (qm (qg (i:=7) Gd.nd rfl (Or.inl rfl)) (qm (qg (i:=9) Gd.nd rfl (Or.inl rfl)) qP))))
   (qd (qA (i:=10) Gd.nd rfl (Or.inl rfl) (qo dL hr.mo (qc (qv 0) (qc (qv 8) (qc (qv 2) (qc (qv 9) qa))))))
   (qf (qE (qx ZI (qv 10) qM (qr _)) (qf (qk (qu (qc (qu (qc (qv 4) (qc (qv 6) qa))) (qc (qv 10) qa))))) qt))))))
   (qf (qk qM)))))),?_⟩
  cases o with
  |none=>
   have hv:v= .non:=hv
   subst hv
   exact⟨_,rfl,rfl,_,rfl,Qb (Jg rfl) (zj (q .non H (FV.refl _) rfl))⟩
  |some e=>
  obtain⟨x,rfl,hx⟩:=hv;refine⟨_,rfl,rfl,_,rfl,qQ (fun y=>nomatch (Jv y)) (fun _=>?_)⟩
  cases o' with
  |none=>
   have hv':v'= .non:=hv'
   subst hv'
   exact⟨_,rfl,rfl,_,rfl,zj (q .non H (FV.refl _) rfl)⟩
  |some e'=>
  obtain⟨x',rfl,hx'⟩:=hv';refine⟨_,rfl,rfl,_,rfl,zk ?_⟩
  have k:Gi D e:=k
  have k':Gi D' e':=k'
  obtain⟨w1,h1,hw1⟩:=id hx;refine⟨_,rfl,x,_,_,_,rfl,rfl,F7.of h1,rfl,_,rfl,p,rfl,b.no,p,ta,hk,bd,lg,n,D,rfl,b,_,_,rfl,?_⟩
  refine⟨_,rfl,_,rfl,_,rfl,_,rfl,p,ta,hk,bd,lg,x,n,D,e,p',ta',hk',bd',lg',x',n',D',e',rfl,b,hx,b',hx',fun H1 s1=>?_⟩
  obtain⟨A,eA⟩:∃A,A=qy e.age D.least:=⟨_,rfl⟩
  obtain⟨L,eL⟩:∃L,L=zB D e D' e':=⟨_,rfl⟩
  have Lb:0<=L/\L<=6000:=by
   have:=k.l0
   have:=k.l1
   have:=k'.l0
   have:=k'.l1
   have:=dn.n0
   have:=dn.nf
   have:=dn.f1
   have:=dn'.n0
   have:=dn'.nf
   have:=dn'.f1
   rw[eL];unfold zB zn;split<;>lia
  refine⟨_,rfl,_,rfl,_,_,rfl,rfl,_,_,rfl,_,_,rfl,⟨by rw[<- eL];lia,by rw[<- eL];lia,by rw[<- eL];split<;>lia,by rw[<- eL];split<;>lia⟩,?_⟩
  have eq0:Qu D (some e) D' (some e')=cz L (zn (L+2) 4096-L).toNat fun c=>(Qv D (some (qN D e A c).2) D' (some (qN D' e' A c).2)).map fun p=>((A,c),p):=by rw[eL,eA];rfl
  refine Qn (lo:=zB D e D' e') (Pv:=fun i σ Hx=>FV H Hx/\(∀y:Int,L<=y->y<L+(i:Int)->Qv D (some (qN D e A y).2) D' (some (qN D' e' A y).2)=none)/\∃o6 o7 o8 o9 oa,σ=[some (.ref p),some (.ref x),some (.ref p'),some (.ref x'),some (.int A),some (.int L),o6,o7,o8,o9,oa]) ⟨s1,fun y h1 h2=>by lia,_,_,_,_,_,by rw[eL,eA];rfl⟩ ?_ ?_
  ·rintro i σ H2 hi ⟨s2,no,o6,o7,o8,o9,oa,rfl⟩
   rw[<- eL]at hi⊢;have hi:i<(zn (L+2) 4096-L).toNat:=hi
   have hi':(i:Int)<zn (L+2) 4096-L:=by lia
   have cb:0<=L+(i:Int)/\L+(i:Int)<4096:=by unfold zn at hi';split at hi'<;>lia
   refine⟨_,rfl,p,rfl,(b.same s2).no,_,rfl,_,rfl,_,rfl,p,ta,hk,bd,lg,x,n,D,e,A,_,rfl,b.same s2,hx.same s2,fun q1 a1 H3 s3 hq1 ha1=>⟨q1,_,rfl,.tup hq1,rfl,_,_,rfl,_,_,rfl,rfl,?_⟩⟩
   have S3:=s2.trans s3;refine⟨_,rfl,p',rfl,(b'.same S3).no,_,rfl,_,rfl,_,rfl,p',ta',hk',bd',lg',x',n',D',e',A,_,rfl,b'.same S3,hx'.same S3,fun q2 a2 H4 s4 hq2 ha2=>⟨q2,_,rfl,.tup hq2,rfl,_,_,rfl,_,_,rfl,rfl,?_⟩⟩
   have S4:=S3.trans s4;refine⟨_,rfl,_,rfl,_,rfl,_,rfl,p,ta,hk,bd,lg,n,D,.ref a1,some (qN D e A (L+(i:Int))).2,p',ta',hk',bd',lg',n',D',.ref a2,some (qN D' e' A (L+(i:Int))).2,rfl,b.same S4,⟨a1,rfl,ha1.same s4⟩,b'.same S4,⟨a2,rfl,ha2⟩,dn,dn',aM dn k cb.1 cb.2,aM dn' k' cb.1 cb.2,k8,(by rw[eA];exact xs.2 e e' rfl rfl _ (by lia) cb.2),fun u H5 s5 ol=>?_⟩
   have S5:=S4.trans s5;cases ep:Qv D (some (qN D e A (L+(i:Int))).2) D' (some (qN D' e' A (L+(i:Int))).2)with
   |none=>
    rw[ep]at ol;have ol:u= .non:=ol
    subst ol;refine⟨_,rfl,rfl,_,rfl,zk ⟨S5,fun y y1 y2=>?_,_,_,_,_,_,rfl⟩⟩
    by_cases hy:y<L+(i:Int)
    ·exact no y y1 hy
    ·obtain rfl:y=L+(i:Int):=by lia
     exact ep
   |some pr=>
    rw[ep]at ol;obtain⟨tt,rfl,htt⟩:=ol;refine⟨_,rfl,rfl,_,rfl,zj ?_⟩
    refine⟨_,rfl,_,rfl,FN,fun r1 hr1=>⟨_,rfl,FN,fun r2 hr2=>?_⟩⟩
    have u1:=FV.upd (o:= .tup [.int A,.int (L+(i:Int))]) hr1
    have u2:=FV.upd (o:= .tup [.ref r1,.ref tt]) hr2
    have e1:Qu D (some e) D' (some e')=some ((A,L+(i:Int)),pr):=by
     rw[eq0];exact bV hi (by rw[ep];rfl) fun y y1 y2=>by rw[no y y1 y2];rfl
    have:=q (.ref r2) _ ((S5.trans u1).trans u2)
    rw[e1]at this;exact this ⟨r2,r1,tt,rfl,qb,u2 _ _ qb,u2 _ _ (u1 _ _ htt)⟩
  ·rintro σ H2 ⟨s2,no,o6,o7,o8,o9,oa,rfl⟩
   have e1:Qu D (some e) D' (some e')=none:=by
    rw[eq0];refine ZJ fun y y1 y2=>?_
    rw[no y y1 (by rw[eL]at y2⊢;exact y2)];rfl
   have:=q .non _ s2
   rw[e1]at this;exact this rfl
end
section
variable{P:Ξ}{w:Ω}{K:ι}{mg:FT}{base:Ψ}{tk:Nat->Tok}{C:Δ}
theorem re(a:At K mg "telling" cW ["one","other"])(T:GA K mg tk)(U:GW K C)(yH:Mf P w K mg base C "button_of" ["self","name"] 1 (gX K C))(xC:Df P w K mg base "names_known" ["door"] 2 (kG K C))(dL:Df P w K mg base "press_apart" ["one","first","other","second"] 4 (u6 K C))(xW:Df P w K mg base "pair_apart" ["one","first","other","second"] 5 (uB K C)):Df P w K mg base "telling" ["one","other"] 6 (gA K C):=by
 have dC:=yH.ofO;refine a.dq GD fun f _ A _ s H vs Q E hr h=>?_
 ·obtain⟨p,ta,hk,bd,lg,n,D,p',ta',hk',bd',lg',n',D',rfl,b,b',td,td',xs,q⟩:=h
  refine⟨_,(qd (qA (i:=2) GD.nd rfl (Or.inl rfl) (qp (j5 rfl) T.b_sorted PyProof.Rows.boot_sorted (qc (ql BO (qI (gB rfl) T.b_set PyProof.Rows.boot_set (qc (qo xC hr.mo (qc (qv 0) qa)) qa)) (qI (gB rfl) T.b_set PyProof.Rows.boot_set (qc (qo xC hr.mo (qc (qv 1) qa)) qa))) qa)))
   (qd (zz J0 rfl (Zh (qv 2)) (qg (i:=3) GD.nd rfl (Or.inr rfl))
   (qd (qA (i:=4) GD.nd rfl (Or.inl rfl) (qo dL hr.mo (qc (qv 0) (qc (qZ dC U.cl hr.mo (qv 0) (qc (qv 3) qa)) (qc (qv 1) (qc (qZ dC U.cl hr.mo (qv 1) (qc (qv 3) qa)) qa))))))
   (qf (qE (qx ZI (qv 4) qM (qr _)) (qf (qk (qu (qc (ql ZF (qu (qc (qv 3) qa)) (qv 4)) qa)))) qt))))
   (qd (zz J0 rfl (Zh (qv 2)) (qg (i:=3) GD.nd rfl (Or.inr rfl))
   (qd (qA (i:=5) GD.nd rfl (Or.inl rfl) (qo xW hr.mo (qc (qv 0) (qc (qZ dC U.cl hr.mo (qv 0) (qc (qv 3) qa)) (qc (qv 1) (qc (qZ dC U.cl hr.mo (qv 1) (qc (qv 3) qa)) qa))))))
   (qf (qE (qx ZI (qv 5) qM (qr _)) (qf (qk (qI qX T.b_tuple JN (qc (zW (own:=["press"]) (fr:=["name"]) (js:=[3]) rfl (ZU (qv 5)) rfl (kE rfl) rfl (lq rfl (by decide +kernel) (by decide +kernel) (by decide +kernel) rfl rfl rfl) (fun _ _ _ _=>qg (i:=0) (show List.Nodup (["press","name"]:List Str)from by decide +kernel) rfl (Or.inl rfl) (.inr rfl)) (fun _ _ _ _=>(ql ZF (qu (qc (qv 1) qa)) (qv 0)))) qa)))) qt))))
   (qf (qk qM))))),?_⟩
  have l30:∀{D:Dr} {ss:List Str},G1 D->ss.Perm (D.kn.map (·.1))->ss.length<=30:=fun td pm=>by rw[pm.length_eq,Je];exact td.few
  refine⟨_,rfl,p,ta,hk,bd,lg,n,D,rfl,b,td.ok,fun n1 ss1 H1 s1 pm1 e1=>?_⟩
  have ls1:=l30 td pm1;have sb:PySem.scanBound=4096:=rfl
  refine⟨n1,ss1,rfl,F6.of e1,by lia,fun z1 hz1=>?_⟩
  have u1:=FV.upd (o:=aL P w z1 (S0.ddL ss1)) hz1
  refine⟨_,rfl,p',ta',hk',bd',lg',n',D',rfl,(b'.same s1).same u1,td'.ok,fun n2 ss2 H2 s2 pm2 e2=>?_⟩
  have ls2:=l30 td' pm2;have d1:=eZ ss1;have d2:=eZ ss2;refine⟨n2,ss2,rfl,F6.of e2,by lia,fun z2 hz2=>?_⟩
  have u2:=FV.upd (o:=aL P w z2 (S0.ddL ss2)) hz2
  have ez1:=s2 _ _ (qb (H:=H1) (a:=z1) (o:=aL P w z1 (S0.ddL ss1)))
  refine⟨z1,z2,_,_,rfl,rfl,qj ez1 hz2,u2 _ _ ez1,qb,aN _,aN _,by lia,fun z3 ks hz3 nd mem=>?_⟩
  have u3:=FV.upd (o:=aL P w z3 ks) hz3
  have kl:ks.length<=60:=by
   have:=gO (m:=ss1++ss2) nd fun k hk=>JC.mpr (((mem k).mp hk).imp (Zi ss1 k).mp (Zi ss2 k).mp)
   rw[Jw]at this;lia
  refine⟨z3,ks,rfl,qb,by lia,fun l5 ns hl5 pm5 so5=>?_⟩
  have u5:=FV.upd (o:= .lst (ns.map V.str)) hl5
  have S5:=((((s1.trans u1).trans s2).trans u2).trans u3).trans u5;have hmem:∀k,k∈ns↔k∈D.kn.map (·.1)\/k∈D'.kn.map (·.1):=fun k=>by
   rw[pm5.mem_iff,mem,Zi,Zi,pm1.mem_iff,pm2.mem_iff]
  have ndn:ns.Nodup:=pm5.nodup_iff.mpr nd
  have nl:ns.length<=60:=by rw[pm5.length_eq];exact kl
  have q:∀u H',FV H H'->Ij H' u (zJ D D' ns)->Q u H':=fun u H' s t=>q u ns H' s ndn hmem so5 t
  have k8:=td.ok.kl;clear u1 u2 u3 u5 ez1 mem pm5 pm1 pm2 d1 d2 ls1 ls2 kl nd hz1 hz2 hz3 hl5 e1 e2 s1 s2;refine Za (fun σ' H'=>FV H H'/\H' l5=some (.lst (ns.map V.str))/\ns.findSome? (Qr D D')=none/\∃o3 o4 o5,σ'=[some (.ref p),some (.ref p'),some (.ref l5),o3,o4,o5]) (fun D0 hrt hnx=>?_) ?_
  ·refine⟨_,rfl,l5,rfl,⟨_,F6.of qb⟩,?_⟩
   refine ZE (K:=K) (a:=l5) (xs:=ns.map V.str) (fun i σ Hx=>FV H Hx/\Hx l5=some (.lst (ns.map V.str))/\(∀j z,j<i->ns[j]? =some z->Qr D D' z=none)/\∃o3 o4 o5,σ=[some (.ref p),some (.ref p'),some (.ref l5),o3,o4,o5]) ⟨S5,qb,fun j z hj _=>absurd hj (Nat.not_lt_zero _),_,_,_,rfl⟩ (fun i σ Hx _ h=>F6.of h.2.1) ?_ ?_
   ·rintro i z σ H6 hz ⟨s6,e6,no,o3,o4,o5,rfl⟩
    rw[Jq]at hz;obtain⟨nm,hnm,rfl⟩:=DZ.mp hz;refine⟨_,rfl,_,rfl,p,rfl,(b.same s6).no,_,rfl,p,ta,hk,bd,lg,n,D,nm,rfl,b.same s6,fun v1 hv1=>?_⟩
    refine⟨_,rfl,_,rfl,p',rfl,(b'.same s6).no,_,rfl,p',ta',hk',bd',lg',n',D',nm,rfl,b'.same s6,fun v2 hv2=>?_⟩
    refine⟨p,ta,hk,bd,lg,n,D,v1,_,p',ta',hk',bd',lg',n',D',v2,_,rfl,b.same s6,hv1,b'.same s6,hv2,td.dn,td'.dn,td.kn nm,td'.kn nm,k8,(xs nm).1,fun u H7 s7 ol=>?_⟩
    have S7:=s6.trans s7;cases ep:Qv D (D.kn.lookup nm) D' (D'.kn.lookup nm)with
    |none=>
     rw[ep]at ol;have ol:u= .non:=ol
     subst ol;refine⟨_,rfl,rfl,_,rfl,zk ⟨S7,s7 _ _ e6,fun j z hj hz2=>?_,_,_,_,rfl⟩⟩
     by_cases hji:j<i
     ·exact no j z hji hz2
     ·obtain rfl:j=i:=by lia
      have ez:z=nm:=JB (hz2.symm.trans hnm)
      rw[ez];unfold Qr;rw[ep];rfl
    |some pr=>
     rw[ep]at ol;obtain⟨tt,rfl,htt⟩:=ol;refine⟨_,rfl,rfl,_,rfl,zj ?_⟩
     refine⟨_,rfl,FM,fun t0 ht0=>⟨_,rfl,t0,tt,_,_,rfl,rfl,qb,(FV.upd ht0) _ _ htt,FO,fun pp H9 s9 hpp=>⟨FM,fun r hr9=>?_⟩⟩⟩
     have u9:=FV.upd (o:= .tup [.ref pp]) hr9
     have e1:zJ D D' ns=some [(nm,pr.1,pr.2)]:=by
      unfold zJ;rw[iB (f:=Qr D D') hnm (show Qr D D' nm=some [(nm,pr.1,pr.2)] by unfold Qr;rw[ep];rfl) no]
     have:=q (.ref r) _ (((S7.trans (FV.upd ht0)).trans s9).trans u9)
     rw[e1]at this;rw[hrt];exact this (Ij.one qb (u9 _ _ hpp))
   ·rintro σ H6 ⟨s6,e6,no,o3,o4,o5,rfl⟩
    refine hnx _ _ ⟨s6,e6,ao fun x hx=>?_,_,_,_,rfl⟩
    obtain⟨j,hj,rfl⟩:=List.mem_iff_getElem.mp hx;exact no j _ (by rw[Je];exact hj) (Jk hj)
  clear S5
  rintro σ H5 ⟨s5,e5,none1,o3,o4,o5,rfl⟩
  have et:zJ D D' ns=ns.findSome? (Zv D D'):=by unfold zJ;rw[none1]
  rw[et]at q;refine⟨_,rfl,l5,rfl,⟨_,F6.of e5⟩,?_⟩
  refine ZE (K:=K) (a:=l5) (xs:=ns.map V.str) (fun i σ Hx=>FV H Hx/\Hx l5=some (.lst (ns.map V.str))/\(∀j z,j<i->ns[j]? =some z->Zv D D' z=none)/\∃o3 o4 o5,σ=[some (.ref p),some (.ref p'),some (.ref l5),o3,o4,o5]) ⟨s5,e5,fun j z hj _=>absurd hj (Nat.not_lt_zero _),_,_,_,rfl⟩ (fun i σ Hx _ h=>F6.of h.2.1) ?_ ?_
  ·rintro i z σ H6 hz ⟨s6,e6,no,o3,o4,o5,rfl⟩
   rw[Jq]at hz;obtain⟨nm,hnm,rfl⟩:=DZ.mp hz;refine⟨_,rfl,_,rfl,p,rfl,(b.same s6).no,_,rfl,p,ta,hk,bd,lg,n,D,nm,rfl,b.same s6,fun v1 hv1=>?_⟩
   refine⟨_,rfl,_,rfl,p',rfl,(b'.same s6).no,_,rfl,p',ta',hk',bd',lg',n',D',nm,rfl,b'.same s6,fun v2 hv2=>?_⟩
   refine⟨p,ta,hk,bd,lg,n,D,v1,_,p',ta',hk',bd',lg',n',D',v2,_,rfl,b.same s6,hv1,b'.same s6,hv2,td.dn,td'.dn,td.kn nm,td'.kn nm,k8,xs nm,fun u H7 s7 ol=>?_⟩
   have S7:=s6.trans s7;cases ep:Qu D (D.kn.lookup nm) D' (D'.kn.lookup nm)with
   |none=>
    rw[ep]at ol;have ol:u= .non:=ol
    subst ol;refine⟨_,rfl,rfl,_,rfl,zk ⟨S7,s7 _ _ e6,fun j z hj hz2=>?_,_,_,_,rfl⟩⟩
    by_cases hji:j<i
    ·exact no j z hji hz2
    ·obtain rfl:j=i:=by lia
     have ez:z=nm:=JB (hz2.symm.trans hnm)
     rw[ez];unfold Zv;rw[ep];rfl
   |some pr=>
    rw[ep]at ol;obtain⟨tt,x1,x2,rfl,htt,hx1,hx2⟩:=ol;refine⟨_,rfl,rfl,_,rfl,zj ?_⟩
    refine⟨_,rfl,tt,rfl,⟨_,F7.of htt⟩,?_⟩
    obtain⟨zs,ezs⟩:∃zs:a9,zs=[(nm,pr.1.1,pr.1.2),(nm,pr.2.1,pr.2.2)]:=⟨_,rfl⟩
    refine ZB (K:=K) (a:=tt) (xs:=[.ref x1,.ref x2]) (FN) (fun i ys Hx=>FV H7 Hx/\∃as:List Δ,ys=as.map V.ref/\as.length=i/\∀(j:Nat) (a:Δ) (z:Str×Int×Int),as[j]? =some a->zs[j]? =some z->Hx a=some (.tup [.str z.1,.int z.2.1,.int z.2.2])) ⟨FV.refl _,[],rfl,rfl,fun j a z h=>by cases h⟩ (fun i ys Hx h=>F7.of (h.1 _ _ htt)) ?_ ?_
    ·rintro i2 ys H8 x hx hyl ⟨s8,as,rfl,la,has⟩
     obtain⟨xa,y,rfl,hxa,hzy⟩:∃(xa:Δ) (y:Int×Int),x= .ref xa/\H7 xa=some (.tup [.int y.1,.int y.2])/\∀z,zs[i2]? =some z->z=(nm,y.1,y.2):=by
      rw[ezs]
      match i2,hx with
      |0,hx=>cases hx;exact⟨x1,pr.1,rfl,hx1,fun z h=>by cases h;rfl⟩
      |1,hx=>cases hx;exact⟨x2,pr.2,rfl,hx2,fun z h=>by cases h;rfl⟩
     refine⟨_,rfl,FM,fun t0 ht0=>⟨_,rfl,t0,xa,_,_,rfl,rfl,qb,(FV.upd ht0) _ _ (s8 _ _ hxa),FO,fun pp H9 s9 hpp=>?_⟩⟩
     have S9:=(FV.upd (o:= .tup [.str nm]) ht0).trans s9
     refine⟨s8.trans S9,as++[pp],by simp,by simp [la],fun j a z h1 h2=>?_⟩
     by_cases hj:j<as.length
     ·rw[J5 hj]at h1
      exact S9 _ _ (has j a z h1 h2)
     ·rw[JY (by lia)]at h1
      cases ej:j-as.length with
      |succ k=>rw[ej]at h1;cases h1
      |zero=>
       rw[ej]at h1;cases h1
       obtain rfl:j=i2:=by lia
       rw[hzy z h2];exact hpp
    ·rintro ys H8 hyl ⟨s8,as,rfl,la,has⟩ l8 hl8
     have u8:=FV.upd (o:= .lst (as.map V.ref)) hl8
     refine⟨l8,_,rfl,.inl ⟨F6.of qb,fun r hr9=>?_⟩⟩
     have u9:=FV.upd (o:= .tup (as.map V.ref)) hr9
     have e1:ns.findSome? (Zv D D')=some zs:=iB (f:=Zv D D') hnm (show Zv D D' nm=some zs by rw[ezs];unfold Zv;rw[ep];rfl) no
     have:=q (.ref r) _ (((S7.trans s8).trans u8).trans u9)
     rw[e1]at this;exact this ⟨r,as,rfl,qb,by rw[ezs];exact la,fun j a z h1 h2=>u9 _ _ (u8 _ _ (has j a z h1 h2))⟩
  ·rintro σ H6 ⟨s6,e6,no,o3,o4,o5,rfl⟩
   have e1:ns.findSome? (Zv D D')=none:=ao fun x hx=>by
    obtain⟨j,hj,rfl⟩:=List.mem_iff_getElem.mp hx;exact no j _ (by rw[Je];exact hj) (Jk hj)
   have:=q .non _ s6
   rw[e1]at this;exact this rfl
theorem wq(a:At K mg "agree" ie ["one","other"])(T:GA K mg tk)(dM:Df P w K mg base "telling" ["one","other"] 6 (gA K C)):Df P w K mg base "agree" ["one","other"] 7 (iz K C):=by
 refine a.dq vW fun f _ A _ s H vs Q E hr h=>?_
 ·obtain⟨p,ta,hk,bd,lg,n,D,p',ta',hk',bd',lg',n',D',rfl,b,b',td,td',xs,q⟩:=h
  refine⟨_,(qf (qk (zp zX (qo dM hr.mo (qc (qv 0) (qc (qv 1) qa))) qM (qr _)))),?_⟩
  refine⟨_,rfl,_,rfl,p,ta,hk,bd,lg,n,D,p',ta',hk',bd',lg',n',D',rfl,b,b',td,td',xs,fun u ns H1 s1 nd mem so tl=>⟨rfl,?_⟩⟩
  have:=q ns H1 s1 nd mem so
  cases e:zJ D D' ns with
  |none=>
   rw[e]at this tl;have tl:u= .non:=tl
   subst tl;exact this
  |some r=>
   rw[e]at this tl;obtain⟨t,as,rfl,_⟩:=tl;exact this
end
section
variable{P:Ξ}{w:Ω}{K:ι}{mg:FT}{base:Ψ}{tk:Nat->Tok}
theorem mG(a:At K mg "_law_model" bv ["_law_near","_law_far","_law_keys"])(T:GA K mg tk):Df P w K mg base "_law_model" ["_law_near","_law_far","_law_keys"] 1 ib:=by
 refine a.dq k6 fun f _ A _ s H vs Q E hr h=>?_
 ·obtain⟨D,rfl,hl,hk,q⟩:=h
  refine⟨_,(qf (qk (Af (aB qz (qv 0) (aB qz (qv 1) (aB qz (qv 2) (aB qz qe (aB qz gf yO)))))))),?_⟩
  refine fun m hm=>⟨_,rfl,_,rfl,_,rfl,fun kd hkd=>⟨?_,?_⟩⟩
  ·rw[qi (qj qb hkd)];exact qb
  refine⟨cK D kd,by unfold cK;rw[hl];rfl,by show 5<=15;decide,?_⟩
  rw[vv];have nk:kd≠m:=(qj qb hkd).symm
  refine q m kd _ (fun c o e=>?_) hm ?_ ⟨qb,⟨([],fun _=>0),?_,?_,?_,?_⟩,nk.symm⟩
  ·have nm:c≠m:=qj e hm
   have nkd:c≠kd:=qj (by rw[qi nm];exact e) hkd
   rw[qi nm,qi nkd,qi nm];exact e
  ·rw[qi nk]at hkd;exact hkd
  ·rw[qi nk];exact qb
  ·rw[hk];exact fun e h=>nomatch h
  ·rw[hk]
  ·rw[hk];exact Er
theorem mT(a:At K mg "_law_word" bP ["_law_own","_law_plain"])(T:GA K mg tk):Df P w K mg base "_law_word" ["_law_own","_law_plain"] 1 ou:=by
 refine a.dq Gw fun f _ A _ s H vs Q E hr h=>?_
 ·obtain⟨m,kd,p,D,nm,age,c,rfl,md,hp,q⟩:=h
  refine⟨_,(qd (zi (qv 1) (zu rfl (qm (qg (i:=2) Gw.nd rfl (Or.inl rfl)) (qm (qg (i:=3) Gw.nd rfl (Or.inl rfl)) (qm (qg (i:=4) Gw.nd rfl (Or.inl rfl)) qP)))))
   (qd (qA (i:=5) Gw.nd rfl (Or.inl rfl) (lT hr (Qd hr (qv 0) qz) (qv 2)))
   (qd (qE (QW.pt (zZ (qx zX (qv 5) qM (qr _)) (zS (zL (mz ZT aT (qp (ZW rfl) T.b_max E7 (qc (Qd hr (qv 0) qz) (qc (qw qK (qv 5) qe) qa))) (qv 3) (Qd hr (qv 0) qz)))))) (qf (qk qz)) qt)
   (qd (qA (i:=6) Gw.nd rfl (Or.inl rfl) (ql zT (qv 4) (qw qK (qv 5) qe)))
   (qd (qE (QW.pt (zZ (qx aT (qv 6) qe (qr _)) (zS (qx wQ (qv 6) (Qd hr (qv 0) qz) (qr _))))) (qf (qk qz)) qt)
   (qf (qk (uP (QW.pt (zZ (qx ZT (qv 6) (Qd hr (qv 0) qz) (qr _)) (zS (qx (sS hr) (qw qK (qv 5) qe) (qu (qc (qv 3) (qc (ql zT (qv 4) qe) qa))) (qr _))))) qz qz)))))))),?_⟩
  refine⟨_,rfl,p,_,rfl,.tup hp,rfl,_,_,rfl,_,_,rfl,_,_,rfl,rfl,?_⟩
  obtain⟨f0,hd,_⟩:=id md.kn;unfold qR at q;rcases md.kn.get nm with⟨e1,g⟩|⟨e,x,e1,g,v,hx,hw⟩
  ·rw[e1]at q
   refine⟨_,rfl,m,_,rfl,md.g_known,kd,rfl,.inl ⟨_,.inl hd⟩,_,rfl,_,g,?_⟩
   exact⟨_,rfl,rfl,_,rfl,Qb (Jg rfl) (zj (q _ (FV.refl H)))⟩
  ·rw[e1]at q
   simp only at q
   refine⟨_,rfl,m,_,rfl,md.g_known,kd,rfl,.inl ⟨_,.inl hd⟩,_,rfl,_,g,?_⟩
   refine⟨_,rfl,rfl,_,rfl,qQ (fun y=>nomatch (Jv y)) (fun _=>?_)⟩
   refine⟨_,rfl,m,_,rfl,md.g_closed,_,rfl,x,_,_,_,rfl,rfl,F7.of hx,rfl,_,_,rfl,_,rfl,_,_,rfl,rfl,_,rfl,?_⟩
   have et:qH D e age=(decide ((if D.least<e.age then e.age else D.least)<=age)&&decide (age<(D.kss.length:Int))):=by
    have hm:((if D.least<e.age then e.age else D.least)<=age)↔(D.least<=age/\e.age<=age):=by split<;>omega
    unfold qH QH;rw[show decide ((if D.least<e.age then e.age else D.least)<=age)=(decide (D.least<=age)&&decide (e.age<=age))from by rw[<- Bool.decide_and];exact decide_eq_decide.mpr hm]
    cases decide (D.least<=age)<;>cases decide (e.age<=age)<;>cases decide (age<(D.kss.length:Int))<;>rfl
   rw[et]at q
   by_cases h1:(if D.least<e.age then e.age else D.least)<=age
   case neg=>
    rw[Jm h1,DS,Jb (by intro z;cases z)]at q
    exact Qa (Jm h1) ⟨_,rfl,zj (q _ (FV.refl H))⟩
   rw[Jg h1,Es]at q;refine Qb (Jg h1) ?_
   refine⟨_,rfl,m,_,rfl,md.g_keys,_,_,rfl,rfl,_,rfl,?_⟩
   by_cases h2:age<(D.kss.length:Int)
   case neg=>
    rw[Jm h2,Jb (by intro z;cases z)]at q
    rw[Jm h2];exact zj (q _ (FV.refl H))
   rw[Jg h2,Jc rfl]at q;rw[Jg h2];refine zk ?_
   refine⟨_,rfl,_,rfl,x,_,_,_,rfl,rfl,F7.of hx,rfl,_,_,rfl,rfl,?_⟩
   refine⟨_,rfl,_,_,rfl,rfl,_,rfl,?_⟩
   by_cases h3:c-e.last<1
   ·rw[Jc (.inl h3)]at q
    exact Qb (Jg h3) (zj (q _ (FV.refl H)))
   refine Qa (Jm h3) ?_
   refine⟨_,rfl,_,rfl,m,_,rfl,md.g_far,_,_,rfl,rfl,_,rfl,?_⟩
   by_cases h4:c-e.last>D.far
   ·rw[Jc (.inr h4)]at q
    exact Qb (Jg h4) (q _ (FV.refl H))
   refine Qa (Jm h4) ?_
   rw[Jb (show¬(c-e.last<1\/c-e.last>D.far)from fun z=>z.elim h3 h4)]at q
   refine⟨_,rfl,_,rfl,m,_,rfl,md.g_near,_,_,rfl,rfl,_,rfl,?_⟩
   by_cases h5:c-e.last<=D.near
   ·rw[Jc (.inl h5)]at q
    exact Qb (Jg h5) (zj (q _ (FV.refl H)))
   refine Qa (Jm h5) ?_
   refine⟨_,rfl,x,_,_,_,rfl,rfl,F7.of hx,rfl,_,rfl,_,rfl,_,_,rfl,rfl,FN,fun t ht=>?_⟩
   have u:=FV.upd (o:= .tup [.int age,.int (c-1)]) ht
   refine⟨e.wt,t,age,c-1,hw.same u,rfl,.inl qb,_,rfl,?_⟩
   by_cases h6:e.wt=some (age,c-1)
   ·rw[Jc (.inr h6)]at q
    exact Qb (Jg h6) (q _ u)
   ·rw[Jb (fun z=>z.elim h5 h6)]at q
    exact Qa (Jm h6) (q _ u)
theorem mS(a:At K mg "_law_hear" cv ["_law_own","_law_plain"])(T:GA K mg tk)(x9:Df P w K mg base "_law_word" ["_law_own","_law_plain"] 1 ou):Df P w K mg base "_law_hear" ["_law_own","_law_plain"] 2 ij:=by
 refine a.dq GK fun f _ A _ s H vs Q E hr h=>?_
 ·obtain⟨m,kd,p,D,nm,age,c,rfl,md,hp,ok,nf,q⟩:=h
  refine⟨_,(qd (zi (qu (qc (qo x9 hr.mo (qc (qv 0) (qc (qv 1) qa))) (qc (qv 1) qa))) (zu rfl (qm (qg (i:=2) GK.nd rfl (Or.inl rfl)) (qm (zu rfl (qm (qg (i:=3) GK.nd rfl (Or.inl rfl)) (qm (qg (i:=4) GK.nd rfl (Or.inl rfl)) (qm (qg (i:=5) GK.nd rfl (Or.inl rfl)) qP)))) qP))))
   (qd (qE (qx zx (qv 2) qz (qr _)) (qf (Q8 hr (Qd hr (qv 0) qz) (qv 3) (qu (qc (qv 4) (qc (qv 5) (qc qM qa)))))) qt)
   (qd (qE (qx zx (qv 2) qz (qr _)) (qf (Q8 hr (Qd hr (qv 0) qz) (qv 3) (ql ZF (Q4 bE (Qd hr (Qd hr (qv 0) qz) (qv 3)) ZM (ZC qe)) (qu (qc (qu (qc (qv 4) (qc (qv 5) qa))) qa))))) qt)
   (qf (qk (zp zx (qv 2) qz (qr _))))))),?_⟩
  refine⟨_,rfl,_,rfl,m,kd,p,D,nm,age,c,rfl,md,hp,fun H1 s1=>⟨_,rfl,FN,fun t ht=>?_⟩⟩
  have u:=FV.upd (o:= .tup [.str (qR D nm age c),.ref p]) ht
  have S2:=s1.trans u;have md2:=md.same S2;have hp2:=S2 _ _ hp;refine⟨t,_,rfl,.tup qb,rfl,_,_,rfl,_,_,rfl,p,_,rfl,.tup hp2,rfl,_,_,rfl,_,_,rfl,_,_,rfl,rfl,rfl,?_⟩
  have eK:=rp (age:=age) (c:=c) (nm:=nm) ok.nd nf
  generalize F2 H1 t (.tup [.str (qR D nm age c),.ref p])=H2 at *
  refine⟨_,rfl,rfl,_,rfl,?_⟩
  obtain⟨f0,hd,_⟩:=id md2.kn
  by_cases h1:qR D nm age c="open"
  ·refine Qb (Jg (by rw[h1])) ?_
   cases e1:D.kn.lookup nm with
   |none=>unfold qR at h1;rw[e1]at h1;exact absurd h1 (show¬(("":Str)="open") by decide)
   |some e=>
   rw[e1]at eK;simp only at eK
   rw[Jc h1]at eK;refine⟨_,rfl,_,rfl,FO,fun t3 ht3=>?_⟩
   have u3:=FV.upd (o:= .tup [.int age,.int c,.non]) ht3
   have md3:=md2.same u3;obtain⟨H4,dp,m4,kb4⟩:=md3.kn.put nm (a:=t3) (e:=⟨age,c,none⟩) (by have:=ok.nl;omega) ⟨.non,qb,rfl⟩
   refine⟨_,rfl,m,_,rfl,md3.g_known,_,rfl,kd,H4,rfl,dp,?_⟩
   have md4:=md3.putK m4 kb4;refine⟨_,rfl,rfl,_,rfl,Qa (Jm (by rw[h1];intro z;injection z with z;exact absurd z (by decide))) ?_⟩
   refine⟨_,rfl,rfl,?_⟩
   rw[<- eK]at md4
   have:=q H4 ((S2.trans u3).mv.trans (m4.mono fun c h z=>h (by rw[Jj.mp z];simp))) md4
   rw[Jg (show V.str (qR D nm age c)=V.str "open" by rw[h1])]
   rw[Jg h1]at this;exact this
  ·refine Qa (Jm (by intro z;injection z with z;exact h1 z)) ?_
   refine⟨_,rfl,rfl,_,rfl,?_⟩
   have fin:∀H',Mv [m,kd] H H'->Gv H' m kd {D with kn:=F8 D nm age c}->Q (.bl (decide (V.str (qR D nm age c)=V.str "open"))) H':=fun H' m' d'=>by
    have:=q H' m' d'
    rw[Jm h1]at this;rw[Jm (show¬V.str (qR D nm age c)=V.str "open" by intro z;injection z with z;exact h1 z)]
    exact this
   by_cases h2:qR D nm age c="wait"
   ·refine Qb (Jg (by rw[h2])) ?_
    rcases md2.kn.get nm with⟨e1,g⟩|⟨e,x,e1,g,v,hx,hw⟩
    ·unfold qR at h2;rw[e1]at h2;exact absurd h2 (show¬(("":Str)="wait") by decide)
    rw[e1]at eK;simp only at eK
    rw[Jb h1,Jc h2]at eK;refine⟨_,rfl,m,_,rfl,md2.g_known,_,rfl,kd,_,rfl,g,_,rfl,x,_,rfl,hx,fun y H3 s3 hy _=>?_⟩
    have hy:H3 y=some (.tup [.int e.age,.int e.last]):=hy
    refine⟨_,rfl,_,rfl,FN,fun t4 ht4=>⟨FM,fun t5 ht5=>?_⟩⟩
    have u4:=FV.upd (o:= .tup [.int age,.int c]) ht4
    have u5:=FV.upd (o:= .tup [.ref t4]) ht5
    have e4:(F2 (F2 H3 t4 (.tup [.int age,.int c])) t5 (.tup [.ref t4])) t4=some (.tup [.int age,.int c]):=u5 _ _ qb
    refine⟨y,t5,_,_,rfl,rfl,u5 _ _ (u4 _ _ hy),qb,FO,fun t6 H6 s6 ht6=>?_⟩
    have ht6:H6 t6=some (.tup [.int e.age,.int e.last,.ref t4]):=ht6
    have S6:=((s3.trans u4).trans u5).trans s6;have md6:=md2.same S6;obtain⟨H7,dp,m7,kb7⟩:=md6.kn.put nm (a:=t6) (e:=⟨e.age,e.last,some (age,c)⟩) (by have:=ok.nl;omega) ⟨.ref t4,ht6,t4,rfl,s6 _ _ e4⟩
    refine⟨_,rfl,m,_,rfl,md6.g_known,_,rfl,kd,H7,rfl,dp,?_⟩
    have md7:=md6.putK m7 kb7;rw[<- eK]at md7
    exact⟨_,rfl,rfl,fin H7 ((S2.trans S6).mv.trans (m7.mono fun c h z=>h (by rw[Jj.mp z];simp))) md7⟩
   ·refine Qa (Jm (by intro z;injection z with z;exact h2 z)) ?_
    refine⟨_,rfl,rfl,fin H2 S2.mv ?_⟩
    have:F8 D nm age c=D.kn:=by
     rw[eK];cases D.kn.lookup nm with
     |none=>rfl
     |some e=>simp only;rw[Jb h1,Jb h2]
    rw[this];exact md2
theorem lp(a:At K mg "_law_press" bu ["_law_code","_law_plain","_law_deed"])(T:GA K mg tk)(x6:Df P w K mg base "press_of" ["table","key","name","age","count","deed"] 3 (n6 K)):Df P w K mg base "_law_press" ["_law_code","_law_plain","_law_deed"] 4 cw:=by
 refine a.dq GM fun f _ A _ s H vs Q E hr h=>?_
 ·obtain⟨cd,tb,kt,p,t,kss,nm,age,c,d,rfl,hc,hp,tp,hn,a0,a1,c0,c1,hd,q⟩:=h
  refine⟨_,(qd (zi (qv 1) (zu rfl (qm (qg (i:=3) GM.nd rfl (Or.inl rfl)) (qm (qg (i:=4) GM.nd rfl (Or.inl rfl)) (qm (qg (i:=5) GM.nd rfl (Or.inl rfl)) qP)))))
   (qf (qk (qo x6 hr.mo (qc (qw qK (qv 0) qe) (qc (qw qK (qw qK (qv 0) qe) (qv 4)) (qc (qv 3) (qc (qv 4) (qc (qv 5) (qc (qv 2) qa)))))))))),?_⟩
  refine⟨_,rfl,p,_,rfl,.tup hp,rfl,_,_,rfl,_,_,rfl,_,_,rfl,rfl,?_⟩
  obtain⟨as,eK,lK,hks⟩:=id hc.ks;obtain⟨ak,hat,hak⟩:=BN (D:=⟨t,kss,0,0,0,0,[]⟩) lK hks a0 a1
  refine⟨_,rfl,cd,_,_,_,rfl,rfl,F7.of hc.e,rfl,_,rfl,cd,_,_,_,rfl,rfl,F7.of hc.e,rfl,_,rfl,kt,_,_,_,rfl,rfl,eK.up,hat,_,rfl,_,rfl,_,rfl,_,rfl,tb,ak,nm,age,c,d,t,_,rfl,.inr (.inl hc.tb),.inr hak.up,hn,by rw[tp.length_eq];rfl,c0,c1,hd,fun pr pc H1 s1 h1 h2=>q pr H1 s1 ⟨pc,h1,h2⟩⟩
end
end Lw
namespace L3
open PySem PySem.Spec PyProof.Rows L2
def qU(x:Int):Int:=if 4095<x then 4095 else x
def zD(D:Dr)(e:Kb)(a:Int):Option Int:=match e.wt with
 |none=>none
 |some (x,w)=>if x=a/\w+1<=qU (e.last+D.far)then some (w+1)else none
theorem Qp{D:Dr}{e:Kb}{a:Int}(h1:e.last+1<4096)(ht:qH D e a=true):za D e a=(e.last+1,qU (e.last+D.near))::(zD D e a).toList.map fun x=>(x,x):=by
 unfold za zD qU;rw[Jc ht,Jc h1];cases e.wt with
 |none=>rfl
 |some p=>
  obtain⟨x,w⟩:=p;simp only
  by_cases h:x=a/\w+1<=(if 4095<e.last+D.far then 4095 else e.last+D.far)
  ·rw[Jc h,Jc h];rfl
  ·rw[Jb h,Jb h];rfl
theorem Gj{D:Dr}{e:Kb}{a:Int}:qH D e a=true↔qy e.age D.least<=a/\a<D.kss.length:=by
 unfold qH QH qy;rw[Jt,Jt,decide_eq_true_eq,decide_eq_true_eq,decide_eq_true_eq];constructor
 ·rintro⟨⟨h1,h2⟩,h3⟩
  split<;>lia
 ·rintro⟨h1,h2⟩
  split at h1<;>lia
theorem bw{D:Dr}{e:Kb}{a:Int}(ht:¬(qy e.age D.least<=a/\a<D.kss.length)):za D e a=[]:=by
 unfold za;rw[Jb fun z=>ht (Gj.mp z)]
theorem Az{o o':Option Int}(h:(o.toList.map fun x:Int=>(x,x))=o'.toList.map fun x=>(x,x)):o=o':=by
 cases o with
 |none=>cases o' with
  |none=>rfl
  |some y=>cases h
 |some x=>cases o' with
  |none=>cases h
  |some y=>simp at h;rw[h]
structure HU(D:Dr)(e:Kb)(D':Dr)(e':Kb):Prop where
 h1:e.last+1<4096
 l:e'.last=e.last
 A:qy e'.age D'.least=qy e.age D.least
 K:D'.kss.length=D.kss.length
 n:qU (e.last+D'.near)=qU (e.last+D.near)
theorem HU.symm{D D':Dr}{e e':Kb}(s:HU D e D' e'):HU D' e' D e:=⟨by rw[s.l];exact s.h1,s.l.symm,s.A.symm,s.K.symm,by rw[s.l];exact s.n.symm⟩
theorem HU.str{D D':Dr}{e e':Kb}(s:HU D e D' e')(a:Int):za D e a=za D' e' a↔(qy e.age D.least<=a->a<D.kss.length->zD D e a=zD D' e' a):=by
 by_cases h:qy e.age D.least<=a/\a<D.kss.length
 ·have h':qy e'.age D'.least<=a/\a<D'.kss.length:=by rw[s.A,s.K];exact h
  rw[Qp s.h1 (Gj.mpr h),Qp (by rw[s.l];exact s.h1) (Gj.mpr h'),s.l,s.n]
  constructor
  ·intro z _ _
   injection z with _ z
   exact Az z
  ·intro z
   rw[z h.1 h.2]
 ·have h':¬(qy e'.age D'.least<=a/\a<D'.kss.length):=by rw[s.A,s.K];exact h
  rw[bw h,bw h']
  exact⟨fun _ h1 h2=>absurd ⟨h1,h2⟩ h,fun _=>rfl⟩
theorem HU.pa{D D':Dr}{e e':Kb}(s:HU D e D' e')(l0:0<=qy e.age D.least):Qv D (some e) D' (some e')=none↔∀a,qy e.age D.least<=a->a<D.kss.length->zD D e a=zD D' e' a:=by
 constructor
 ·intro h a h1 h2
  exact(s.str a).mp (aA h (by lia) h2) h1 h2
 ·intro h
  exact ZJ fun a _ _=>Jc ((s.str a).mpr (h a))
theorem CG{D D':Dr}{e e':Kb}(d:Gf D)(d':Gf D')(k:Gi D e)(k':Gi D' e')(hk:D.kss.length=D'.kss.length)(no:Qv D (some e) D' (some e')=none)(h1:e.last+1<4096):HU D e D' e':=by
 have a0:=k.a0;have a0':=k'.a0;have a1:=k.a1;have a1':=k'.a1;have lk:=d.lk;have lk':=d'.lk;have ll:=d.l0;have ll':=d'.l0;have b1:0<=qy e.age D.least/\qy e.age D.least<D.kss.length:=by unfold qy;split<;>lia
 have b2:0<=qy e'.age D'.least/\qy e'.age D'.least<D'.kss.length:=by unfold qy;split<;>lia
 have all:∀a:Int,0<=a->a<D.kss.length->za D e a=za D' e' a:=fun a h0 h1=>aA no h0 h1
 have h2:e'.last+1<4096:=Decidable.byContradiction fun h2=>by
  have p1:=(zO d k h1 (a:=qy e.age D.least)).mpr ⟨Jr _,b1.2⟩
  rw[all _ b1.1 b1.2,ZH d' k' h2]at p1;exact p1 rfl
 have e1:qy e.age D.least=qy e'.age D'.least:=by
  have p1:=(zO d k h1 (a:=qy e.age D.least)).mpr ⟨Jr _,b1.2⟩
  rw[all _ b1.1 b1.2]at p1;have q1:=(zO d' k' h2).mp p1;have p2:=(zO d' k' h2 (a:=qy e'.age D'.least)).mpr ⟨Jr _,b2.2⟩
  rw[<- all _ b2.1 (by rw[hk];exact b2.2)]at p2
  have q2:=(zO d k h1).mp p2;lia
 have:=all _ b1.1 b1.2
 rw[Qp h1 (Gj.mpr ⟨Jr _,b1.2⟩),Qp h2 (Gj.mpr ⟨by rw[<- e1];exact Jr _,by rw[<- hk];exact b1.2⟩)]at this
 injection this with z _
 injection z with z1 z2
 have el:e'.last=e.last:=by lia
 rw[el]at z2
 exact⟨h1,el,e1.symm,hk.symm,z2.symm⟩
def Zz(D:Dr)(e:Kb)(a c:Int):Prop:=e.last<c/\(c<=e.last+D.near\/(c<=e.last+D.far/\e.wt=some (a,c-1)))
theorem gN{D:Dr}{e:Kb}{a c:Int}(ht:qH D e a=true)(h:Zz D e a c):(qN D e a c).2=⟨a,c,none⟩:=by
 unfold qN zv;rw[Jc ht,Jb (by have:=h.1;lia)]
 by_cases h2:c<=e.last+D.near
 ·rw[Jc h2]
 ·obtain⟨h3,h4⟩:=h.2.resolve_left h2
  rw[Jb h2,Jc h3,Jc h4]
theorem ba{D:Dr}{e:Kb}{a c:Int}(ht:qH D e a=true)(h:¬Zz D e a c)(h1:e.last<c)(h2:c<=e.last+D.far):(qN D e a c).2=⟨e.age,e.last,some (a,c)⟩:=by
 unfold qN zv;rw[Jc ht,Jb (by lia),Jb fun z=>h ⟨h1,.inl z⟩,Jc h2,Jb fun z=>h ⟨h1,.inr ⟨h2,z⟩⟩]
theorem bH{D:Dr}{e:Kb}{a c:Int}(nf:D.near<=D.far)(h:qH D e a=false\/c<=e.last\/e.last+D.far<c):(qN D e a c).2=e:=by
 rcases h with h|h|h
 ·unfold qN;rw[Jb (by rw[h];decide)]
 ·exact ZQ h
 ·by_cases h0:c<=e.last
  ·exact ZQ h0
  ·unfold qN zv
   split
   ·rw[Jb (by lia),Jb (by lia)]
   ·rfl
theorem aq{D:Dr}{e:Kb}(d:Gf D)(k:Gi D e){a c:Int}(c1:c<=4095)(hn:¬c<=e.last+D.near)(h0:e.last<c):Zz D e a c↔zD D e a=some c:=by
 unfold Zz zD;cases ew:e.wt with
 |none=>exact⟨fun z=>absurd z.2 (fun y=>y.elim hn fun y=>by cases y.2),fun z=>by cases z⟩
 |some p=>
  obtain⟨x,w⟩:=p;simp only
  constructor
  ·rintro⟨_,z|⟨z1,z2⟩⟩
   ·exact absurd z hn
   ·injection z2 with z2
    injection z2 with z2 z3
    subst z2;rw[Jc ⟨rfl,by unfold qU;split<;>lia⟩]
    congr 1;lia
  ·intro z
   split at z
   ·rename_i y
    injection z with z
    obtain⟨rfl,y2⟩:=y;refine⟨h0,.inr ⟨by unfold qU at y2;split at y2<;>lia,by congr 2;lia⟩⟩
   ·cases z
section
variable{D D':Dr}{e e':Kb}{a c:Int}
theorem HU.open_iff(s:HU D e D' e')(d:Gf D)(d':Gf D')(k:Gi D e)(k':Gi D' e')(ow:zD D e a=zD D' e' a)(c1:c<=4095):Zz D e a c↔Zz D' e' a c:=by
 have key:∀{D D':Dr} {e e':Kb},HU D e D' e'->Gf D->Gf D'->Gi D e->Gi D' e'->zD D e a=zD D' e' a->Zz D e a c->Zz D' e' a c:=fun{D D' e e'} s d d' k k' ow h=>by
  have hl:=s.l;have hn:=s.n;have h0:=h.1
  by_cases hc:c<=e.last+D.near
  ·refine⟨by lia,.inl ?_⟩
   unfold qU at hn;rw[hl];split at hn<;>split at hn<;>lia
  ·have hc':¬c<=e'.last+D'.near:=by
    rw[hl];unfold qU at hn;split at hn<;>split at hn<;>lia
   have:=(aq d k c1 hc h0).mp h
   rw[ow]at this
   exact(aq d' k' c1 hc' (by lia)).mpr this
 exact⟨key s d d' k k' ow,key s.symm d' d k' k ow.symm⟩
theorem QJ{D:Dr}{ea l a c x:Int}:zD D ⟨ea,l,some (a,c)⟩ x=if a=x/\c+1<=qU (l+D.far)then some (c+1)else none:=rfl
def fW(D:Dr)(e:Kb)(a c:Int):Kb:=if c<=e.last+D.far then⟨e.age,e.last,some (a,c)⟩else e
theorem aj(nf:D.near<=D.far)(ht:qH D e a=true)(h:¬Zz D e a c)(h1:e.last<c):(qN D e a c).2=fW D e a c:=by
 unfold fW;split
 ·rename_i z;exact ba ht h h1 z
 ·rename_i z;exact bH nf (.inr (.inr (by lia)))
theorem fh:(fW D e a c).last=e.last/\(fW D e a c).age=e.age:=by unfold fW;split<;>exact⟨rfl,rfl⟩
theorem HU.fW(s:HU D e D' e'):HU D (fW D e a c) D' (L3.fW D' e' a c):=by
 have f1:=fh (D:=D) (e:=e) (a:=a) (c:=c)
 have f2:=fh (D:=D') (e:=e') (a:=a) (c:=c)
 exact⟨by rw[f1.1];exact s.h1,by rw[f1.1,f2.1];exact s.l,by rw[f1.2,f2.2];exact s.A,s.K,by rw[f1.1];exact s.n⟩
end
section
variable{D D':Dr}{e e':Kb}
def iV(D:Dr)(e:Kb)(D':Dr)(e':Kb)(a c:Int):Option (Int×Int):=Qv D (some (qN D e a c).2) D' (some (qN D' e' a c).2)
structure Il(D:Dr)(e:Kb)(D':Dr)(e':Kb):Prop where
 s:HU D e D' e'
 d:Gf D
 d':Gf D'
 k:Gi D e
 k':Gi D' e'
 no:Qv D (some e) D' (some e')=none
theorem Il.a0(t:Il D e D' e'):0<=qy e.age D.least/\qy e.age D.least<D.kss.length:=by
 have:=t.k.a0
 have:=t.k.a1
 have:=t.d.l0
 have:=t.d.lk
 unfold qy;split<;>lia
theorem Il.symm(t:Il D e D' e'):Il D' e' D e:=⟨t.s.symm,t.d',t.d,t.k',t.k,by rw[bI t.s.K];exact t.no⟩
theorem Il.ow(t:Il D e D' e'){a:Int}(h1:qy e.age D.least<=a)(h2:a<D.kss.length):zD D e a=zD D' e' a:=(t.s.pa t.a0.1).mp t.no a h1 h2
theorem oF(h:D.kss.length=D'.kss.length)(a c:Int):iV D e D' e' a c=iV D' e' D e a c:=bI h _ _
theorem CH{a x:Int}(h:zD D e a=some x):x<=qU (e.last+D.far):=by
 unfold zD at h;cases ew:e.wt with
 |none=>rw[ew]at h;cases h
 |some p=>
  rw[ew]at h;obtain⟨y,w⟩:=p;simp only at h
  split at h
  ·rename_i z;injection h with h;lia
  ·cases h
theorem bC(x:Int):qU x<=x/\qU x<=4095:=by unfold qU;split<;>lia
theorem lC{x y:Int}(h:y<=x)(h2:y<=4095):y<=qU x:=by unfold qU;split<;>lia
theorem Il.is(t:Il D e D' e'){a c:Int}(c1:c<=4095)(h1:qy e.age D.least<=a/\a<D.kss.length)(h2:e.last<c)(h3:¬Zz D e a c):iV D e D' e' a c=none↔∀x,qy e.age D.least<=x->x<D.kss.length->zD D (fW D e a c) x=zD D' (fW D' e' a c) x:=by
 have h3':¬Zz D' e' a c:=fun z=>h3 ((t.s.open_iff t.d t.d' t.k t.k' (t.ow h1.1 h1.2) c1).mpr z)
 unfold iV;rw[aj t.d.nf (Gj.mpr h1) h3 h2,aj t.d'.nf (Gj.mpr (by rw[t.s.A,t.s.K];exact h1)) h3' (by rw[t.s.l];exact h2)]
 have f1:=fh (D:=D) (e:=e) (a:=a) (c:=c)
 have:=(t.s.fW (a:=a) (c:=c)).pa (by rw[f1.2];exact t.a0.1)
 rw[f1.2]at this;exact this
theorem cj{a c:Int}(h:c<=e.last+D.far):fW D e a c=⟨e.age,e.last,some (a,c)⟩:=Jc h
theorem cY{a c:Int}(h:e.last+D.far<c):fW D e a c=e:=Jb (by lia)
end
section
variable{D:Dr}{e:Kb}{nm:Str}{a c:Int}
theorem AB(nf:D.near<=D.far)(he:D.kn.lookup nm=some e):qR D nm a c="open"↔qH D e a=true/\Zz D e a c:=by
 have no1:¬(("":Str)="open"):=by decide
 have no3:¬(("wait":Str)="open"):=by decide
 unfold qR Zz;rw[he];simp only
 by_cases ht:qH D e a=true
 ·rw[Jc ht]
  by_cases h1:c-e.last<1\/c-e.last>D.far
  ·rw[Jc h1]
   exact⟨fun z=>absurd z no1,fun z=>absurd z.2 fun y=>by rcases y.2 with q|q<;>lia⟩
  ·rw[Jb h1]
   by_cases h2:c-e.last<=D.near\/e.wt=some (a,c-1)
   ·rw[Jc h2]
    exact⟨fun _=>⟨ht,by lia,h2.imp (fun _=>by lia) fun q=>⟨by lia,q⟩⟩,fun _=>rfl⟩
   ·rw[Jb h2]
    exact⟨fun z=>absurd z no3,fun z=>absurd (z.2.2.imp (fun q=>by lia) fun q=>q.2) h2⟩
 ·rw[Jb ht]
  exact⟨fun z=>absurd z no1,fun z=>absurd z.1 ht⟩
theorem BG(d:Gf D)(k:Gi D e)(c1:c<=4095):Ze c (za D e a)=true↔qH D e a=true/\Zz D e a c:=by
 have n0:=d.n0;have nf:=d.nf;have l1:=k.l1
 by_cases ht:qH D e a=true
 ·by_cases h1:e.last+1<4096
  ·rw[Qp h1 ht]
   unfold Ze;rw[JS,Bool.or_eq_true,Jt,decide_eq_true_eq,decide_eq_true_eq];have ow:(((zD D e a).toList.map fun x=>(x,x)).any fun p=>decide (p.1<=c)&&decide (c<=p.2))=true↔zD D e a=some c:=by
    cases zD D e a with
    |none=>exact⟨(fun z=>by cases z),fun z=>by cases z⟩
    |some x=>
     show((decide (x<=c)&&decide (c<=x))||false)=true↔_
     rw[Bool.or_false,Jt,decide_eq_true_eq,decide_eq_true_eq,Option.some.injEq];lia
   rw[ow];simp only
   by_cases hn:c<=e.last+D.near
   ·constructor
    ·rintro(z|z)
     ·exact⟨ht,by lia,.inl hn⟩
     ·have:=ow_gt d k z
      lia
    ·rintro⟨_,z,_⟩
     exact .inl ⟨by lia,lC hn c1⟩
   ·have hc:¬(e.last+1<=c/\c<=qU (e.last+D.near)):=fun z=>by
     have:=bC (e.last+D.near)
     lia
    constructor
    ·rintro(z|z)
     ·exact absurd z hc
     ·have h0:e.last<c:=by lia
      exact⟨ht,(aq d k c1 hn h0).mpr z⟩
    ·rintro⟨_,z⟩
     exact .inr ((aq d k c1 hn z.1).mp z)
  ·rw[ZH d k h1]
   exact⟨(fun z=>by cases z),fun z=>by have:=z.2.1;lia⟩
 ·have:za D e a=[]:=by unfold za;rw[Jb ht]
  rw[this]
  exact⟨(fun z=>by cases z),fun z=>absurd z.1 ht⟩
where
 ow_gt {D:Dr} {e:Kb} {a x:Int} (d:Gf D) (k:Gi D e) (h:zD D e a=some x):e.last+D.near<x:=by
  unfold zD at h;cases ew:e.wt with
  |none=>rw[ew]at h;cases h
  |some p=>
   obtain⟨y,w⟩:=p;rw[ew]at h
   have:=k.w y w ew
   simp only at h
   split at h
   ·injection h with h;lia
   ·cases h
theorem sZ(d:Gf D)(k:Zb D (D.kn.lookup nm))(c1:c<=4095):IZ D nm a c=Ze c (zU D a (D.kn.lookup nm)):=by
 unfold IZ;rw[D8,decide_eq_true_eq];cases he:D.kn.lookup nm with
 |none=>
  have:qR D nm a c="":=by unfold qR;rw[he]
  rw[this]
  exact⟨fun z=>absurd z (by decide),fun z=>by cases z⟩
 |some e=>
  rw[he]at k;rw[AB d.nf he]
  exact(BG d k c1).symm
end
section
variable{D:Dr}{e:Kb}
theorem iq(d:Gf D)(k:Gi D e)(h:∀a:Int,0<=a->a<D.kss.length->za D e a=[]):¬e.last+1<4096:=fun h1=>by
 have:=k.a0
 have:=k.a1
 have:=d.l0
 have:=d.lk
 have b1:0<=qy e.age D.least/\qy e.age D.least<D.kss.length:=by unfold qy;split<;>lia
 exact(zO d k h1 (a:=qy e.age D.least)).mpr ⟨Jr _,b1.2⟩ (h _ b1.1 b1.2)
end
end L3
namespace L3
open PySem PySem.Spec PyProof.Rows L2 SeqAt
structure Iu(t:List Int)(kss:List (List Int))(D:Dr):Prop where
 ok:GZ D
 t:D.t=t
 ks:D.kss=kss
 f0:D.near<=D.far
theorem av{t:List Int}{kss:List (List Int)}{D:Dr}{nm:Str}{age c d:Int}(h:Iu t kss D)(c0:0<=c)(c1:c<4096)(hd:aU d):af D (Qg t kss nm age c d)=qT D nm age (some (c,d)):=by
 unfold af Qg;simp only
 rw[h.t,show Qs D age=kss.getD age.toNat [] by unfold Qs;rw[h.ks],jt (h.t▸h.ok.tp) c0 c1 hd]
def fX(K:ι)(C:Δ):Sp:=fun vs H Q _=>∃(cd tb kt pl p ps b:Δ) (c:Nat) (H0:Hp) (t:List Int) (kss:List (List Int)) (xs:List En) (nm:Str) (age n:Int) (is:List Nat),vs=[.ref cd,.ref pl,.ref p,.ref ps]/\Pw K C H0 H b c pl xs/\xs.length=2/\GL H cd tb kt t kss/\QQ nm/\0<=age/\age<kss.length/\0<=n/\n<4096/\H p=some (.tup [.str nm,.int age,.int n])/\Rd H ps (.tup (is.map fun i:Nat=>V.int (i:Int)))/\is.Nodup/\(∀i∈is,i<2)/\
 (∀(i:Nat) (x:En),xs[i]? =some x->Iu t kss x.2.1/\x.2.2.length<=900)/\
 ∀H' xs',Pw K C H0 H' b c pl xs'->GL H' cd tb kt t kss->HP (fun i D=>if i∈is then{D with kn:=F8 D nm age n}else D) 2 xs xs'->Q .non H'
end L3
namespace Lw
open PySem L2 L3
section
variable{P:Ξ}{w:Ω}{K:ι}{mg:FT}{base:Ψ}{tk:Nat->Tok}{C:Δ}
theorem iC(a:At K mg "_law_learnt" ax ["_law_code","_law_pair_here","_law_name","_law_told"])(T:GA K mg tk)(U:GW K C)(xT:Mf P w K mg base C "learn" ["self","one","other"] 7 (jc K C))(dJ:Df P w K mg base "_law_press" ["_law_code","_law_plain","_law_deed"] 4 cw):Df P w K mg base "_law_learnt" ["_law_code","_law_pair_here","_law_name","_law_told"] 8 (cU K C):=by
  refine a.dq Gu fun f _ A _ s H vs Q E hr h=>?_
  · obtain⟨cd,tb,kt,pl,tl,b,c,H0,t,kss,xs,nm,os,rfl,pw,lx,hc,hn,ho,lo,ntl,hx,hos,q⟩:=h
    refine⟨_,(qf (zz J0 rfl (zK rfl T.b_range (qc qe qa)) (qg (i:=4) Gu.nd rfl (Or.inl rfl))
      (qf (qE (qx ZI (qw qF (qv 3) (qv 4)) qM (qr _)) (qd (zi (qw qF (qv 3) (qv 4)) (zu rfl (qm (qg (i:=5) Gu.nd rfl (Or.inr rfl)) (qm (qg (i:=6) Gu.nd rfl (Or.inl rfl)) qP))))
      (qd (iE (i:=7) Gu.nd rfl (Or.inl rfl) (own:=["_law_count"]) (fr:=["_law_name","_law_code","_law_age"]) (js:=[2,0,5]) rfl (ZU (qu (qc (ql zT (qv 6) qe) (qc (qv 6) qa)))) rfl (Dq rfl rfl rfl) rfl (Dj rfl (by decide +kernel) (by decide +kernel) (by decide +kernel) rfl rfl rfl rfl rfl rfl rfl rfl rfl) (fun _ _ _ _=>qg (i:=0) (show List.Nodup (["_law_count","_law_name","_law_code","_law_age"]:List Str)from by decide +kernel) rfl (Or.inl rfl) (.inr rfl)) (fun _ _ _ _=>(qo dJ hr.mo (qc (qv 2) (qc (qu (qc (qv 1) (qc (qv 3) (qc (qv 0) qa)))) (qc qe qa))))))
      (qd (zr (qZ xT U.cl hr.mo (qw qK (qw qF (qv 1) (qv 4)) qe) (qc (qw qF (qv 7) qe) (qc (qw qF (qv 7) qe) qa))))
      (qf (Q8 hr (Qd hr (qw qK (qw qF (qv 1) (qv 4)) qe) qz) (qv 2) (qu (qc (qv 5) (qc (qv 6) (qc qM qa))))))))) qt)))),?_⟩
    refine⟨_,rfl,by decide,by decide,?_⟩
    refine Qn (n:=2) (Pv:=fun j σ Hx=>∃xs',Pw K C H0 Hx b c pl xs'/\GL Hx cd tb kt t kss/\Hm Hx tl os/\(∀c ys,H c=some (.tup ys)->Hx c=some (.tup ys))/\HP (fun i D=>if i<j then Qt nm D (os.getD i none)else D) j xs xs'/\∃o4 o5 o6 o7,σ=[some (.ref cd),some (.ref pl),some (.str nm),some (.ref tl),o4,o5,o6,o7]) ⟨xs,pw,hc,ho,(fun _ _ h=>h),(HP.refl xs).ext (fun i x hi=>by simp),_,_,_,_,rfl⟩ ?_ ?_
    · rintro j σ Hx hj ⟨xs',pw1,hc1,ho1,tps,st,o4,o5,o6,o7,rfl⟩
      have hj2:j<xs.length:=by rw[lx];exact hj
      have ex:=Jk hj2;obtain⟨x,rx⟩:∃x,x=xs[j]:=⟨_,rfl⟩
      rw[<- rx]at ex;obtain⟨L1,ex1,ll⟩:=st.2 j x ex;simp only[J1,JD]at ex1;obtain⟨dp,l0,hno,hkl,hLl⟩:=hx j x ex;have en:=pw1.en j _ ex1;simp only at en
      obtain⟨vs,evs,lvs,rvs⟩:=id ho1;have hv:j<vs.length:=by rw[lvs,lo];exact hj
      have hoj:j<os.length:=by rw[lo];exact hj
      have hat:Ql vs (0+(j:Int))=some vs[j]:=by rw[Int.zero_add];exact Qk (Jk hv)
      have hol:=rvs j vs[j] os[j] (Jk hv) (Jk hoj);have eoj:os.getD j none=os[j]:=by rw[JI,Jk hoj];rfl
      have nxt:∀{f:Nat->Dr->Dr} {xs'':List En},HP f (j+1) xs xs''->f j x.2.1=Qt nm x.2.1 os[j]->(∀i,i≠j->f i=fun D=>if i<j then Qt nm D (os.getD i none)else D)->HP (fun i D=>if i<j+1 then Qt nm D (os.getD i none)else D) (j+1) xs xs'':=fun h e1 e2=>h.ext fun i y hi=>by
        by_cases z:i=j
        · subst z
          rw[ex]at hi;cases hi
          rw[e1,Jc (by lia),eoj]
        · rw[e2 i z]
          simp only
          by_cases w:i<j
          · rw[Jc w,Jc (by lia)]
          · rw[Jb w,Jb (by lia)]
      refine⟨_,rfl,_,rfl,tl,vs,_,_,rfl,rfl,F6.of evs,hat,rfl,_,rfl,?_⟩
      cases eo:os[j]with
      | none=>
        rw[eo]at hol;have hol:vs[j]= .non:=hol
        refine Qa (by rw[hol];rfl) ⟨xs',pw1,hc1,ho1,tps,?_,_,_,_,_,rfl⟩
        exact nxt (st.mono (by lia)) (by rw[eo];simp [Qt]) (fun i hi=>rfl)
      |some al=>
      obtain⟨ag,la⟩:=al;rw[eo]at hol;obtain⟨tt,ett,htt⟩:=hol;obtain⟨a0,a1,la1,la2⟩:=hos ag la (eo▸EB hoj)
      refine Qb (by rw[ett];rfl) ?_
      refine⟨_,rfl,_,rfl,tl,vs,_,_,rfl,rfl,F6.of evs,hat,tt,_,ett,.tup htt,rfl,_,_,rfl,_,_,rfl,rfl,?_⟩
      refine⟨_,rfl,_,_,rfl,rfl,_,rfl,FN,fun tq htq=>⟨tq,rfl,⟨_,F7.of qb⟩,?_⟩⟩
      have uq:=FV.upd (o:= .tup [.int (la-1),.int la]) htq
      have hcq:=hc1.same uq;have etq:(F2 Hx tq (.tup [.int (la-1),.int la])) tq=some (.tup [.int (la-1),.int la]):=qb
      have pwq:=pw1.same uq;have hoq:=ho1.same uq;generalize F2 Hx tq (.tup [.int (la-1),.int la])=Hq at *
      refine ZB (K:=K) (a:=tq) (xs:=[.int (la-1),.int la]) (FN) (fun i ys Hy=>FV Hq Hy/\∃qs:List Δ,ys=qs.map V.ref/\qs.length=i/\∀(k:Nat) (p:Δ),qs[k]? =some p->bK Hy p (Qg t kss nm ag (la-1+(k:Int)) 0)) ⟨FV.refl _,[],rfl,rfl,fun k p h=>by cases h⟩ (fun i ys Hy h=>F7.of (h.1 _ _ etq)) ?_ ?_
      · rintro i ys Hy z hz hyl ⟨sy,qs,rfl,hql,hqs⟩
        have hi2:i<2:=(JH.mp hz).1
        have ez:z= .int (la-1+(i:Int)):=by
          match i,hi2,hz with
          |0,_,hz=>cases hz;show V.int (la-1)=V.int (la-1+0);rw[Int.add_zero]
          |1,_,hz=>cases hz;show V.int la=V.int (la-1+1);rw[Int.sub_add_cancel]
        subst ez;refine⟨_,rfl,_,rfl,_,rfl,_,rfl,FO,fun p hp=>?_⟩
        have up:=FV.upd (o:= .tup [.str nm,.int ag,.int (la-1+(i:Int))]) hp
        refine⟨cd,tb,kt,p,t,kss,nm,ag,la-1+(i:Int),0,rfl,(hcq.same sy).same up,qb,(dp.t▸dp.ok.tp),hn,a0,a1,by lia,by lia,⟨by decide,by decide⟩,fun pr Hz sz hps=>⟨(sy.trans up).trans sz,qs++[pr],by simp,by simp [hql],fun k p' hk=>?_⟩⟩
        by_cases hkl':k<qs.length
        · rw[J5 hkl']at hk
          exact Gy.same (up.trans sz) (hqs k p' hk)
        · rw[JY (by lia)]at hk
          cases ek:k-qs.length with
          | zero => rw[ek]at hk;cases hk;obtain rfl:k=i:=by lia
                    exact hps
          |succ m=>rw[ek]at hk;cases hk
      rintro ys Hy hyl ⟨sy,qs,rfl,hql,hqs⟩ prl hprl
      obtain⟨q0,q1,rfl⟩:∃q0 q1,qs=[q0,q1]:=by
        match qs,hql with
        | [q0,q1],_=>exact⟨q0,q1,rfl⟩
      have ur:=FV.upd (o:= .lst (([q0,q1]:List Δ).map V.ref)) hprl
      have Sr:=sy.trans ur;have eprl:(F2 Hy prl (.lst (([q0,q1]:List Δ).map V.ref))) prl=some (.lst [.ref q0,.ref q1]):=qb
      have hp0:=Gy.same ur (hqs 0 q0 rfl);have hp1:=Gy.same ur (hqs 1 q1 rfl);have pwr:=pwq.same Sr;have hor:=hoq.same Sr;have hcr:=hcq.same Sr;generalize F2 Hy prl (.lst (([q0,q1]:List Δ).map V.ref))=Hr at *
      have er:=pwr.en j _ ex1;simp only at er
      have atp:Ql (xs'.map fun x=>V.ref x.1.e) (0+(j:Int))=some (.ref x.1.e):=by rw[Int.zero_add];exact pwr.at (x:=(x.1,x.2.1,L1)) ex1
      refine⟨_,rfl,_,rfl,pl,_,_,_,rfl,rfl,F6.of pwr.pe,atp,x.1.e,_,_,_,rfl,rfl,F7.of er.tu,rfl,x.1.a.p,rfl,er.dl.dr.no,_,rfl,prl,_,_,_,rfl,rfl,F6.of eprl,rfl,_,rfl,prl,_,_,_,rfl,rfl,F6.of eprl,rfl,?_⟩
      have e10:la-1+((1:Nat):Int)=la-1+1:=rfl
      have e00:la-1+((0:Nat):Int)=la-1:=Int.add_zero _
      rw[e00]at hp0;have rd0:=hU (nm:=nm) (d:=0) dp (l0 ag la (eoj.trans eo)) a1 (show 0<=la-1 by lia) (by lia) ⟨by decide,by decide⟩
      have rd1:=hU (nm:=nm) (c:=la-1+1) (d:=0) dp (l0 ag la (eoj.trans eo)) a1 (by lia) (by lia) ⟨by decide,by decide⟩
      have tp:t.Perm Gx:=dp.t▸dp.ok.tp
      refine⟨x.1.a,x.2.1,L1,q0,q1,Qg t kss nm ag (la-1) 0,Qg t kss nm ag (la-1+1) 0,la-1,0,0,rfl,er.dl,by lia,dp.ok,hp0,hp1,aR tp hn (by lia) (by lia) ⟨by decide,by decide⟩,aR tp hn (by lia) (by lia) ⟨by decide,by decide⟩,rd0,rd1,rfl,rfl,hno,dp.rm,fun Hs ms ds=>?_⟩
      have ms':=gt ms;have es:=er.door ms' ds;have pes:Mv (eS x.1) Hr Hs:=Zj ms'
      have npl:=pwr.np j _ ex1;have pls:Hs pl=some (.lst (xs'.map fun x=> .ref x.1.e)):=pes _ _ npl pwr.pe
      have Nr:NT (eS x.1) Hr:=er.nt
      refine⟨_,rfl,_,rfl,FO,fun t3 ht3=>?_⟩
      have u3:=FV.upd (o:= .tup [.int ag,.int la,.non]) ht3
      have e3:=es.same u3;have md3:=e3.md;obtain⟨H4,dp4,m4,kb4⟩:=md3.kn.put nm (a:=t3) (e:=⟨ag,la,none⟩) (by lia) ⟨.non,qb,rfl⟩
      refine⟨_,rfl,_,rfl,pl,_,_,_,rfl,rfl,F6.of (u3 _ _ pls),atp,x.1.e,_,_,_,rfl,rfl,F7.of e3.tu,rfl,x.1.m,_,rfl,md3.g_known,_,rfl,x.1.kd,H4,rfl,dp4,?_⟩
      have md4:=md3.putK m4 kb4;have m4':Mv [x.1.m,x.1.kd] _ H4:=m4.mono (fun c h z=>h (by rw[Jj.mp z];simp))
      have e4:=e3.model m4' md4;have Mall:Mv (eS x.1) Hr H4:=(pes.trans u3.mv).trans (Zc m4')
      have lae:la-1+1=la:=by lia
      rw[lae]at e4;have e4':GX K C H4 x.1 {x.2.1 with kn:=zb x.2.1.kn nm ⟨ag,la,none⟩} (L1++[.learn (Qg t kss nm ag (la-1) 0) (Qg t kss nm ag la 0)]) {x.2.1 with kn:=zb x.2.1.kn nm ⟨ag,la,none⟩}:=e4
      refine⟨_,pwr.step ex1 Mall e4',hcr.mv Mall Nr,hor.mv Mall Nr (ntl j x ex),(fun c ys h=>Mall.tup Nr (Sr _ _ (uq _ _ (tps c ys h)))),?_,_,_,_,_,rfl⟩
      exact nxt (HP.set (x:=x) (g:=fun i D=>if i=j then Qt nm D os[j]else if i<j then Qt nm D (os.getD i none)else D) st ex (by simp only[J1,JD];exact ex1) (by simp) (by simp only[D4];rw[eo];rfl) (fun i hi=>by funext D;rw[Jb hi])) (by simp) (fun i hi=>by funext D;rw[Jb hi])
    · rintro σ Hx ⟨xs',pw1,hc1,ho1,tps,st,o4,o5,o6,o7,rfl⟩
      exact q Hx xs' pw1 hc1 (st.ext fun i x hi=>by
        have:i<2:=by rw[<- lx];exact(JH.mp hi).1
        rw[Jc this]) tps
theorem lG(a:At K mg "_law_heard" bb ["_law_code","_law_pair_here","_law_plain","_law_places"])(T:GA K mg tk)(U:GW K C)(dX:Mf P w K mg base C "hear" ["self","thing"] 6 (iO K C))(dJ:Df P w K mg base "_law_press" ["_law_code","_law_plain","_law_deed"] 4 cw)(dD:Df P w K mg base "_law_hear" ["_law_own","_law_plain"] 2 ij):Df P w K mg base "_law_heard" ["_law_code","_law_pair_here","_law_plain","_law_places"] 7 (fX K C):=by
 refine a.dq HH fun f _ A _ s H vs Q E hr h=>?_
 ·obtain⟨cd,tb,kt,pl,p,ps,b,c,H0,t,kss,xs,nm,age,n,is,rfl,pw,lx,hc,hn,a0,a1,n0,n1,hp,hps,ndi,hi2,hx,q⟩:=h
  refine⟨_,(qf (zz J0 rfl (ZU (qv 3)) (qg (i:=4) HH.nd rfl (Or.inl rfl))
   (qd (zr (qZ dX U.cl hr.mo (qw qK (qw qF (qv 1) (qv 4)) qe) (qc (qo dJ hr.mo (qc (qv 0) (qc (qv 2) (qc qe qa)))) qa)))
   (qf (zr (qo dD hr.mo (qc (qw qK (qw qF (qv 1) (qv 4)) qe) (qc (qv 2) qa)))))))),?_⟩
  refine⟨_,rfl,ps,rfl,⟨_,.inl hps⟩,?_⟩
  have hlen:is.length<=2:=by
   match is,ndi,hi2 with
   | [],_,_=>exact Jz _
   | [_],_,_=>exact(by decide:1<=2)
   | [_,_],_,_=>exact Jf 2
   |x::y::z::r,nd,h=>
    have h1:=h x (by simp)
    have h2:=h y (by simp)
    have h3:=h z (by simp)
    simp only[DT,Jl,not_or]at nd;lia
  refine oh (K:=K) (a:=ps) (xs:=is.map fun i:Nat=>V.int (i:Int)) (fun j σ Hx=>∃xs',Pw K C H0 Hx b c pl xs'/\GL Hx cd tb kt t kss/\Hx p=some (.tup [.str nm,.int age,.int n])/\Rd Hx ps (.tup (is.map fun i:Nat=>V.int (i:Int)))/\HP (fun i D=>if i∈is.take j then{D with kn:=F8 D nm age n}else D) j xs xs'/\∃o4,σ=[some (.ref cd),some (.ref pl),some (.ref p),some (.ref ps),o4]) ⟨xs,pw,hc,hp,hps,(HP.refl xs).ext (fun i x hi=>by simp),_,rfl⟩ (fun j σ Hx _ h=>let⟨_,_,_,_,r,_⟩:=h;.inl r) ?_ ?_
  ·rintro j z σ Hx hz ⟨xs',pw1,hc1,hp1,hps1,st,o4,rfl⟩
   rw[Jq]at hz;cases ei:is[j]? with
   |none=>rw[ei]at hz;cases hz
   |some i=>
   rw[ei]at hz;cases hz;have hmem:=DU ei;have hi:=hi2 i hmem;have hj:j<is.length:=(JH.mp ei).1
   have hix:i<xs.length:=by rw[lx];exact hi
   have ex:=Jk hix;obtain⟨x,rx⟩:∃x,x=xs[i]:=⟨_,rfl⟩
   rw[<- rx]at ex;have nin:i∉is.take j:=fun z=>by
    obtain⟨k,hk,ek⟩:=List.mem_iff_getElem.mp z;rw[List.getElem_take]at ek;rw[Ed]at hk
    exact(List.pairwise_iff_getElem.mp ndi) k j (by lia) hj (by lia) (ek.trans (JH.mp ei).2.symm)
   obtain⟨L1,ex1,ll⟩:=st.2 i x ex;have ex1:xs'[i]? =some (x.1,x.2.1,L1):=by rw[ex1];show some (x.1,(if i∈is.take j then _ else x.2.1),L1)=_;rw[Jb nin]
   obtain⟨dp,hLl⟩:=hx i x ex;have tp:t.Perm Gx:=dp.t▸dp.ok.tp
   have en:=pw1.en i _ ex1;simp only at en
   have atp:Ql (xs'.map fun x=>V.ref x.1.e) (i:Int)=some (.ref x.1.e):=pw1.at (x:=(x.1,x.2.1,L1)) ex1
   refine⟨_,rfl,_,rfl,pl,_,_,_,rfl,rfl,F6.of pw1.pe,atp,x.1.e,_,_,_,rfl,rfl,F7.of en.tu,rfl,x.1.a.p,rfl,en.dl.dr.no,_,rfl,_,rfl,cd,tb,kt,p,t,kss,nm,age,n,3,rfl,hc1,hp1,tp,hn,a0,a1,n0,n1,⟨by decide,by decide⟩,fun pr H2 s2 hpr=>?_⟩
   have pw2:=pw1.same s2;have en2:=en.same s2;have okP:=aR (kss:=kss) (age:=age) tp hn n0 n1 (d:=3) ⟨by decide,by decide⟩
   refine⟨x.1.a,x.2.1,L1,.ref pr,some (Qg t kss nm age n 3),rfl,en2.dl,by lia,dp.ok,⟨pr,rfl,hpr,okP⟩,(fun z=>by cases z),fun PP hP pr' q' H3 hpr' m3 _ _ d3=>?_⟩
   cases hP;rw[av dp n0 n1 ⟨by decide,by decide⟩,db]at d3
   have m3':=gt m3;have en3:=en2.door m3' d3;have pes:Mv (eS x.1) H2 H3:=Zj m3'
   have npl:=pw2.np i _ ex1;have pl3:H3 pl=some (.lst (xs'.map fun x=> .ref x.1.e)):=pes _ _ npl pw2.pe
   have N2:NT (eS x.1) H2:=en2.nt
   have hp3:=pes.tup N2 (s2 _ _ hp1);refine⟨_,rfl,_,rfl,pl,_,_,_,rfl,rfl,F6.of pl3,atp,x.1.e,_,_,_,rfl,rfl,F7.of en3.tu,rfl,_,rfl,x.1.m,x.1.kd,p,x.2.1,nm,age,n,rfl,en3.md,hp3,dp.ok,dp.f0,fun H4 m4 md4=>?_⟩
   have en4:=en3.model m4 md4;have Mall:Mv (eS x.1) H2 H4:=pes.trans (Zc m4)
   refine⟨_,pw2.step ex1 Mall en4,(hc1.same s2).mv Mall N2,Mall.tup N2 (s2 _ _ hp1),Mall.rd N2 (Rd.same s2 hps1),?_,_,rfl⟩
   refine HP.set (x:=x) st ex (by show _=some (x.1,(if i∈is.take j then _ else x.2.1),L1);rw[Jb nin];exact ex1) (by simp) ?_ (fun k hk=>?_)
   ·show(if i∈is.take (j+1)then _ else _)=_
    rw[Jc (by rw[D6,ei];simp)]
   ·funext D
    have:k∈is.take (j+1)↔k∈is.take j:=by rw[D6,ei];simp;exact fun z=>absurd z hk
    by_cases z:k∈is.take j
    ·rw[Jc z,Jc (this.mpr z)]
    ·rw[Jb z,Jb (fun w=>z (this.mp w))]
  ·rintro σ Hx ⟨xs',pw1,hc1,hp1,hps1,st,o4,rfl⟩
   refine q Hx xs' pw1 hc1 ?_
   rw[Je,Ej]at st;exact st.mono hlen
end
end Lw
namespace L3
open PySem PySem.Spec PyProof.Rows L2
structure I0(O:List V->HO)(IT:Ψ->Δ->Δ->Nat->Prop)(IS:Ψ->Δ->Array Γ->Prop):Prop where
 seq:∀{X:Cx} {tx:FU} {σ:L2.St} {H:Hp} {s:Θ} {a:Δ} {xs:List V},L2.FY X tx σ H s->Rd H a (O xs)->∃its:List Γ,F3 xs its/\IS s.heap a its.toArray
 inj:∀{X:Cx} {tx:FU} {σ:L2.St} {H:Hp} {s:Θ} {a:Δ} {xs ys:List V},L2.FY X tx σ H s->Rd H a (O xs)->Rd H a (O ys)->xs=ys
 obj:∀{h:Ψ} {i a:Δ} {n:Nat},IT h i a n->∃o,h.get? i=some o/\∀v,o.data≠ .cell v
 at_:∀{h h':Ψ} {i a:Δ} {n:Nat},IT h i a n->(∀o,h.get? i=some o->h'.get? i=some o)->IT h' i a n
 dr:∀{prog:Ξ} {w:Ω} {A:Around},A.handled=none->∀(it t:Δ),t≠it->∀its:Array Γ,Draws prog w A it [it,t] its.size (fun i v=>its[i]? =some v) (fun i h=>IT h it t i/\IS h t its)
 call:∀{prog:Ξ} {w:Ω} {A:Around} {E:FS} {s:Θ} {l1 l2:Δ} {xs ys:Array Γ} {Q:FS},IS s.heap l1 xs->IS s.heap l2 ys->
  (∀h',IsZip h' (s.heap.objs.size+4) (s.heap.objs.size+2) (s.heap.objs.size+3) .none->IsPair h' (s.heap.objs.size+2) (.ref s.heap.objs.size) (.ref (s.heap.objs.size+1))->
   IsPair h' (s.heap.objs.size+3) .none .none->IT h' s.heap.objs.size l1 0->IT h' (s.heap.objs.size+1) l2 0->
   (∀c o,s.heap.get? c=some o->h'.get? c=some o)->Q (.ref (s.heap.objs.size+4)) {s with heap:=h'})->ε (model prog w) A (call (.type "zip") [.ref l1,.ref l2]) Q E s
theorem DI:I0 .tup Ψ.IsTupleIter Ψ.IsTuple:=⟨fun I h=>by obtain⟨its,r,p,_⟩:=I.tuple (.inl h);exact⟨its,r,p⟩,fun I h h'=>I.tuple_inj (.inl h) (.inl h'),fun h=>by obtain⟨o,e,_,d⟩:=h;exact⟨o,e,fun v y=>by rw[d]at y;cases y⟩,fun h k=>h.at k,sV,uo⟩
section
variable{X:Cx}{O:List V->HO}{IT:Ψ->Δ->Δ->Nat->Prop}{IS:Ψ->Δ->Array Γ->Prop}
def vP(O:List V->HO)(a1 a2:Δ):It:=
  ⟨fun i H=>∃xs ys x y,Rd H a1 (O xs)/\Rd H a2 (O ys)/\xs[i]? =some x/\ys[i]? =some y,
   fun i H v H'=>∃p x y,H p=none/\v= .ref p/\(∀xs,Rd H a1 (O xs)->xs[i]? =some x)/\(∀ys,Rd H a2 (O ys)->ys[i]? =some y)/\H'=F2 H p (.tup [x,y]),
   fun i H=>∃xs,Rd H a1 (O xs)/\xs.length=i⟩
theorem r9(Z0:I0 O IT IS){P:Ξ}{w:Ω}{K:ι}{elts:List Φ}{x1}{pos:Pos}(a1 a2 z TI TO i1 i2:Δ)(d1:TI≠z)(d2:TO≠z)(d3:i1≠z)(d4:i2≠z)(d5:TI≠TO)(d6:TI≠i1)(d7:TI≠i2)(d8:TO≠i1)(d9:TO≠i2)(d10:i1≠i2):
  HL P w K (.Tuple elts x1 pos) (vP O a1 a2) [z,TI,TO,i1,i2] z (fun i h=>IsZip h z TI TO .none/\IsPair h TI (.ref i1) (.ref i2)/\(∃a b,IsPair h TO a b)/\IT h i1 a1 i/\IT h i2 a2 i) where
 mem:=by simp
 obj:=fun i h st b hb=>by
  obtain⟨hz,hTI,⟨a,b',hTO⟩,hi1,hi2⟩:=st;obtain⟨o1,ho1,hd1⟩:=Z0.obj hi1;obtain⟨o2,ho2,hd2⟩:=Z0.obj hi2;simp only[Jl,Jx,JA]at hb;rcases hb with rfl|rfl|rfl|rfl|rfl
  ·exact⟨_,hz,fun v y=>by have y':Data.fields _=Data.cell v:=y;cases y'⟩
  ·exact⟨_,hTI,fun v y=>by have y':Data.seq _ _=Data.cell v:=y;cases y'⟩
  ·exact⟨_,hTO,fun v y=>by have y':Data.seq _ _=Data.cell v:=y;cases y'⟩
  ·exact⟨_,ho1,hd1⟩
  ·exact⟨_,ho2,hd2⟩
 keep:=fun i h h' st k=>by
  obtain⟨hz,hTI,⟨a,b',hTO⟩,h1,h2⟩:=st
  exact⟨k z (by simp) _ hz,k TI (by simp) _ hTI,⟨a,b',k TO (by simp) _ hTO⟩,Z0.at_ h1 fun o e=>k i1 (by simp) o e,Z0.at_ h2 fun o e=>k i2 (by simp) o e⟩
 item:=by
  intro X hP hw hK hc i tx s σ H E I hf st hg;subst hP hw hK;obtain⟨xs,ys,x,y,ha1,ha2,hx,hy⟩:=hg;obtain⟨its,rv,p⟩:=Z0.seq I ha1;obtain⟨its2,rv2,p2⟩:=Z0.seq I ha2;obtain⟨u,hu,ru⟩:=rv.get hx;obtain⟨u2,hu2,ru2⟩:=rv2.get hy;obtain⟨hz,hTI,⟨a,b',hTO⟩,h1,h2⟩:=st;have n1:∀c∈[z,TI,TO,i1,i2],a1≠c:=fun c hc=>oY ha1 (hf c hc).1
  have n2:∀c∈[z,TI,TO,i1,i2],a2≠c:=fun c hc=>oY ha2 (hf c hc).1
  have Z:HS z TI TO i1 i2 [i1,a1] [i2,a2]:=⟨d1,d2,d3,d4,d5,d6,d7,d8,d9,d10,by simp [Ne.symm d3,Ne.symm (n1 z (by simp))],by simp [Ne.symm d4,Ne.symm (n2 z (by simp))],by simp [d8,Ne.symm (n1 TO (by simp))],by simp [d9,Ne.symm (n2 TO (by simp))],by simp [Ne.symm d10,Ne.symm (n1 i2 (by simp))],by simp [d10,Ne.symm (n2 i1 (by simp))]⟩
  have hil:i<its.toArray.size:=by have:=(JH.mp hu).1;simpa using this
  have hil2:i<its2.toArray.size:=by have:=(JH.mp hu2).1;simpa using this
  have hT:s.TypeIs (.ref z) "zip":=⟨_,hz,rfl⟩
  unfold pyNext;refine Ja (EC (wpAny_callSpecial?_slot (name:=Str.ofString "__next__") hT FA
   (JZ FA hT F.entry_zip_next
    (uJ (Z0.dr (A:=X.A.in1) (I.ok.hd hc) i1 a1 (n1 i1 (by simp)) its.toArray) (Z0.dr (A:=X.A.in1) (I.ok.hd hc) i2 a2 (n2 i2 (by simp)) its2.toArray) Z hz hTI hTO ⟨h1,p⟩ ⟨h2,p2⟩ hil hil2
     fun v v2 h' tk hv hv2 ho hTO' q1 q2 ht hk=>Jd ⟨_,rfl,?_⟩) (F.args_zip_next_1 _))))
  have ev:v=u:=by
   have hv':its[i]? =some v:=by simpa using hv
   rw[hu]at hv';exact(JB hv').symm
  have ev2:v2=u2:=by
   have hv':its2[i]? =some v2:=by simpa using hv2
   rw[hu2]at hv';exact(JB hv').symm
  subst ev ev2;refine wpAny_letOwnedTupleGo_zip ho fun h'' hz'' hs''=>?_
  have lt:∀c∈[z,TI,TO,i1,i2],c<s.heap.objs.size:=fun c hc=>by
   simp only[Jl,Jx,JA]at hc;rcases hc with rfl|rfl|rfl|rfl|rfl
   ·exact Ji hz
   ·exact Ji hTI
   ·exact Ji hTO
   ·obtain⟨_,e,_⟩:=Z0.obj h1;exact Ji e
   ·obtain⟨_,e,_⟩:=Z0.obj h2;exact Ji e
  have hTI':IsPair h'' TI (.ref i1) (.ref i2):=hs''.extBut _ _ d1 (hk _ _ d1 d5 d6 d7 hTI)
  have hTO'':IsPair h'' TO v v2:=hs''.extBut _ _ d2 hTO'
  have h1':IT h'' i1 a1 (i+1):=Z0.at_ q1.1 fun o e=>hs''.extBut _ _ d3 e
  have h2':IT h'' i2 a2 (i+1):=Z0.at_ q2.1 fun o e=>hs''.extBut _ _ d4 e
  refine⟨.ref s.heap.objs.size,F2 H s.heap.objs.size (.tup [x,y]),?_,rfl,⟨_,x,y,I.hok.fresh (Jf _),rfl,fun zs hy'=>by rw[Z0.inj I hy' ha1];exact hx,fun zs hy'=>by rw[Z0.inj I hy' ha2];exact hy,rfl⟩,⟨hz'',hTI',⟨_,_,hTO''⟩,h1',h2'⟩,?_⟩
  ·show L2.FY X tx σ _ {s with heap:=h'',toks:=tk}
   refine iL (s:=s) (its:=[v,v2]) I (ch:=[z,TI,TO,i1,i2]) (fun b o hb q=>?_) hf (fun b hb=>?_) (Jf _) (by show 2<=ζ;decide) (.cons ru (.cons ru2 .nil)) ?_
   ·simp only[Jl,Jx,JA,not_or]at hb
    exact hs''.extBut b o hb.1 (hk b o hb.1 hb.2.2.1 hb.2.2.2.1 hb.2.2.2.2 q)
   ·simp only[Jl,Jx,JA]at hb
    rcases hb with rfl|rfl|rfl|rfl|rfl
    ·exact⟨_,hz''⟩
    ·exact⟨_,hTI'⟩
    ·exact⟨_,hTO''⟩
    ·obtain⟨o,e,_⟩:=Z0.obj h1';exact⟨o,e⟩
    ·obtain⟨o,e,_⟩:=Z0.obj h2';exact⟨o,e⟩
   ·exact⟨_,hs''.extBut _ _ (J3 (lt z (by simp))) ht,rfl,_,rfl⟩
  ·intro b hb
   rw[qi (Jo (lt b hb))]
   exact(hf b hb).1
 done:=by
  intro X hP hw hK hc i tx s σ H E I hf st hg;subst hP hw hK;obtain⟨xs,ha1,hx⟩:=hg;obtain⟨its,rv,p⟩:=Z0.seq I ha1;obtain⟨hz,hTI,⟨a,b',hTO⟩,h1,h2⟩:=st;have n1:∀c∈[z,TI,TO,i1,i2],a1≠c:=fun c hc=>oY ha1 (hf c hc).1
  have Z:HS z TI TO i1 i2 [i1,a1] [i2]:=⟨d1,d2,d3,d4,d5,d6,d7,d8,d9,d10,by simp [Ne.symm d3,Ne.symm (n1 z (by simp))],by simp [Ne.symm d4],by simp [d8,Ne.symm (n1 TO (by simp))],by simp [d9],by simp [Ne.symm d10,Ne.symm (n1 i2 (by simp))],by simp [d10]⟩
  have hl:its.toArray.size=i:=by rw[Js,<- rv.length];exact hx
  have hT:s.TypeIs (.ref z) "zip":=⟨_,hz,rfl⟩
  unfold pyNext;refine Ja (EC (wpAny_callSpecial?_slot (name:=Str.ofString "__next__") hT FA
   (JZ FA hT F.entry_zip_next
    (va (Z0.dr (A:=X.A.in1) (I.ok.hd hc) i1 a1 (n1 i1 (by simp)) its.toArray) Z hz hTI ⟨by rw[hl];exact h1,p⟩ fun h' e hk he=>?_) (F.args_zip_next_1 _))))
  obtain⟨o,ho,hcl⟩:=he;refine Ja (ED (T:="StopIteration") (b:=true) ⟨o,ho,hcl⟩ Fw ?_)
  refine Jd ⟨rfl,y9 (t':=s.toks) I (ch:=[z,i1]) (fun b o hb e=>?_) (fun b hb=>hf b ?_)⟩
  ·simp only[Jl,Jx,JA,not_or]at hb
   exact hk b o hb.1 hb.2 e
  ·simp only[Jl,Jx,JA]at hb
   rcases hb with rfl|rfl<;>simp
 self:=fun _ _ _ _ _ st h=>wpAny_pyIter_zip st.1 h
def wD(O:List V->HO)(ta:TA):TI:=fun σ H R=>ta σ H fun vs H1=>∃a1 a2 xs ys,vs=[.ref a1,.ref a2]/\Rd H1 a1 (O xs)/\Rd H1 a2 (O ys)/\R (vP O a1 a2) H1
theorem yo(Z0:I0 O IT IS){a b:Φ}{ta:TA}{p pos:Pos}{elts:List Φ}{x1}{tpos:Pos}(hg:Gl X "zip")(hm:X.mg "zip"=none)(ha:PA X [a,b] ta)(h1:QK a=true:=by rfl)(h2:QK b=true:=by rfl):
  PI X (.Tuple elts x1 tpos) (.Call (.Name "zip" p) [a,b] [] pos) (wD O ta):=by
 intro tx s σ H R I h;have hs2:θ [b] X.env=[(false,eval b X.env)]:=aP h2
 refine Call_ (Zo I hg hm PyProof.Rows.boot_zip (EH (qB (ha pos tx s σ H _ I h) fun us s1 zq=>?_) (by rw[aP h1,hs2]) (by rw[hs2];rfl)))
 obtain⟨vs,H1,I1,r1,q1⟩:=zq;obtain⟨a1,a2,xs,ys,e,e1,e2,q⟩:=q1;subst e;obtain⟨u,v,rfl,ru,rv⟩:=r1.two;cases ru;cases rv;obtain⟨its,r1',p1⟩:=Z0.seq I1 e1;obtain⟨its2,r2',p2⟩:=Z0.seq I1 e2;have ad:∀(n i j:Nat),i≠j->n+i≠n+j:=fun n i j h=>by lia
 refine Z0.call p1 p2 fun h' hz hTI hTO h1 h2 hk=>wpAny_pyIter_zip hz ?_
 refine⟨s1.heap.objs.size+4,[s1.heap.objs.size+4,s1.heap.objs.size+2,s1.heap.objs.size+3,s1.heap.objs.size,s1.heap.objs.size+1],_,_,H1,rfl,I1.kept (t':=s1.toks) hk,
  r9 Z0 a1 a2 (s1.heap.objs.size+4) (s1.heap.objs.size+2) (s1.heap.objs.size+3) s1.heap.objs.size (s1.heap.objs.size+1) (ad _ 2 4 (by decide)) (ad _ 3 4 (by decide)) (ad _ 0 4 (by decide)) (ad _ 1 4 (by decide)) (ad _ 2 3 (by decide)) (ad _ 2 0 (by decide)) (ad _ 2 1 (by decide)) (ad _ 3 0 (by decide)) (ad _ 3 1 (by decide)) (ad _ 0 1 (by decide)),⟨hz,hTI,⟨_,_,hTO⟩,h1,h2⟩,fun b hb=>?_,q⟩
 have hb':s1.heap.objs.size<=b:=by
  simp only[Jl,Jx,JA]at hb;rcases hb with rfl|rfl|rfl|rfl|rfl
  ·exact Fk _ 4
  ·exact Fk _ 2
  ·exact Fk _ 3
  ·exact Jf _
  ·exact Fk _ 1
 exact I1.fpOk hb' (I1.hok.fresh hb')
theorem y8(Z0:I0 O IT IS){a b:Φ}{ta:TA}{p pos:Pos}{elts:List Φ}{x1}{tpos:Pos}(hg:Gl X "zip")(hm:X.mg "zip"=none)(ha:QA X [a,b] ta)(h1:QK a=true:=by rfl)(h2:QK b=true:=by rfl):
  QI X (.Tuple elts x1 tpos) (.Call (.Name "zip" p) [a,b] [] pos) (wD O ta):=⟨yo Z0 hg hm ha.h h1 h2⟩
end
theorem ug{O:List V->HO}{K:ι}{js:List Nat}{te:TE}{σ:L2.St}{H:Hp}{Q:VK}{a1 a2:Δ}{xs ys:List V}(hl:xs.length=ys.length)(hn:xs.length<=ζ)(Pv:Nat->List V->Hp->Prop)(h0:Pv 0 [] H)
  (hk:∀i zs H,Pv i zs H->Rd H a1 (O xs)/\Rd H a2 (O ys))
  (hs:∀i zs H p x y,xs[i]? =some x->ys[i]? =some y->zs.length=i->Pv i zs H->H p=none->te (some x::some y::aS js σ) (F2 H p (.tup [x,y])) fun v H3=>Pv (i+1) (zs++[v]) H3)
  (hd:∀zs H,zs.length=xs.length->Pv xs.length zs H->∀p,H p=none->Q (.ref p) (F2 H p (.lst zs))):
  rD 2 js (rN K 2 (ke (Zk 0) (ke (Zk 1) vC))) te σ Q (vP O a1 a2) H:=by
 refine⟨fun i m zs τ H=>m=xs.length-i/\i<=xs.length/\zs.length=i/\Pv i zs H/\∃o o',τ=o::o'::aS js σ,⟨xs.length,by simp,Jz _,rfl,h0,none,none,rfl⟩,?_⟩
 rintro i m zs τ H ⟨rfl,hi,hzl,p,o,o',rfl⟩
 obtain⟨e1,e2⟩:=hk i zs H p
 by_cases hlt:i<xs.length
 ·have hlt2:i<ys.length:=by lia
  refine .inr ⟨⟨xs,ys,xs[i],ys[i],e1,e2,by simp [hlt],by simp [hlt2]⟩,by lia,fun v H' y=>?_⟩
  obtain⟨pp,x,y,hp,rfl,hx,hy,rfl⟩:=y;refine⟨pp,_,rfl,F7.of qb,rfl,_,_,rfl,_,_,rfl,rfl,?_⟩
  exact⟨fun v H3=>Pv (i+1) (zs++[v]) H3,fun v H3 p3=>⟨xs.length-(i+1),by lia,rfl,hlt,by simp [hzl],p3,_,_,rfl⟩,hs i zs _ pp x y (hx xs e1) (hy ys e2) hzl p hp⟩
 ·have e:i=xs.length:=by lia
  subst e;exact .inl ⟨⟨xs,e1,rfl⟩,hd zs H hzl p⟩
inductive Ie (H:Hp):Nat->V->V->Prop where
 |int (n:Nat) (i:Int):Ie H n (.int i) (.int i)
 |str (n:Nat) (x:Str):Ie H n (.str x) (.str x)
 | tup {n:Nat} {a b:Δ} {xs ys:List V} (h1:Rd H a (.tup xs)) (h2:Rd H b (.tup ys)) (hl:xs.length=ys.length) (hz:xs.length<=ζ)
   (hi:∀(i:Nat) (x y:V),xs[i]? =some x->ys[i]? =some y->Ie H n x y):Ie H (n+1) (.ref a) (.ref b)
theorem Ie.same{H H':Hp}(s:FV H H'):∀{n:Nat} {x y:V},Ie H n x y->Ie H' n x y:=fun h=>by
 induction h with
 |int n i=>exact .int n i
 |str n x=>exact .str n x
 |tup h1 h2 hl hz _ ih=>exact .tup (Rd.same s h1) (Rd.same s h2) hl hz ih
def AU(n:Nat):Sp:=fun vs H Q _=>∃x y,vs=[x,y]/\Ie H n x y/\∀H',FV H H'->Q (.bl true) H'
theorem Ie.rows{H:Hp}{p q:Δ}{as bs:List Δ}{rs:List (List V)}(h1:H p=some (.tup (as.map V.ref)))(h2:H q=some (.tup (bs.map V.ref)))(l1:as.length=rs.length)(l2:bs.length=rs.length)(hl:rs.length<=100)
  (g1:∀(i:Nat) (a:Δ) (z:List V),as[i]? =some a->rs[i]? =some z->H a=some (.tup z))(g2:∀(i:Nat) (a:Δ) (z:List V),bs[i]? =some a->rs[i]? =some z->H a=some (.tup z))
  (hr:∀z∈rs,z.length<=3/\∀x∈z,Ie H 0 x x):Ie H 2 (.ref p) (.ref q):=by
 refine .tup (.inl h1) (.inl h2) (by rw[Je,Je,l1,l2]) (by rw[Je,l1,JK];lia) fun i x y ex ey=>?_
 rw[Jq]at ex ey;obtain⟨a,ha,rfl⟩:=DZ.mp ex;obtain⟨b,hb,rfl⟩:=DZ.mp ey;have hi:i<rs.length:=by rw[<- l1];exact(JH.mp ha).1
 have hz:=Jk hi;obtain⟨q1,q2⟩:=hr _ (DU hz)
 refine .tup (n:=0) (.inl (g1 i a _ ha hz)) (.inl (g2 i b _ hb hz)) rfl (by rw[JK];lia) fun j x y ex ey=>?_
 rw[ex]at ey;cases ey;exact q2 x (DU ex)
theorem Ij.eqt{H:Hp}{v u:V}{r:a9}(h:Ij H v (some r))(g:Ij H u (some r))(hl:r.length<=2):Ie H 2 v u:=by
 obtain⟨t,as,rfl,h1,h2,h3⟩:=h;obtain⟨t',bs,rfl,g1,g2,g3⟩:=g;have key:∀{cs:List Δ},(∀(i:Nat) (a:Δ) (z:Str×Int×Int),cs[i]? =some a->r[i]? =some z->H a=some (.tup [.str z.1,.int z.2.1,.int z.2.2]))->∀(i:Nat) (a:Δ) (z:List V),cs[i]? =some a->(r.map fun z=>[V.str z.1,.int z.2.1,.int z.2.2])[i]? =some z->H a=some (.tup z):=fun{cs} f i a z e1 e2=>by
  rw[Jq]at e2;obtain⟨w,hw,rfl⟩:=DZ.mp e2;exact f i a w e1 hw
 refine Ie.rows (rs:=r.map fun z=>[V.str z.1,.int z.2.1,.int z.2.2]) h1 g1 (by rw[Je,h2]) (by rw[Je,g2]) (by rw[Je];lia) (key h3) (key g3) fun z hz=>?_
 obtain⟨w,_,rfl⟩:=Ju.mp hz;refine⟨Jf 3,fun x hx=>?_⟩
 simp only[Jl,Jx,JA]at hx;rcases hx with rfl|rfl|rfl
 ·exact .str _ _
 ·exact .int _ _
 ·exact .int _ _
theorem HN.eqt{H:Hp}{p q:Δ}{zs:List (Int×Int)}(h:HN H p zs)(g:HN H q zs)(hl:zs.length<=100):Ie H 2 (.ref p) (.ref q):=by
 obtain⟨as,h1,h2,h3⟩:=h;obtain⟨bs,g1,g2,g3⟩:=g;have key:∀{cs:List Δ},(∀(i:Nat) (a:Δ) (z:Int×Int),cs[i]? =some a->zs[i]? =some z->H a=some (.tup [.int z.1,.int z.2]))->∀(i:Nat) (a:Δ) (z:List V),cs[i]? =some a->(zs.map fun z=>[V.int z.1,.int z.2])[i]? =some z->H a=some (.tup z):=fun{cs} f i a z e1 e2=>by
  rw[Jq]at e2;obtain⟨w,hw,rfl⟩:=DZ.mp e2;exact f i a w e1 hw
 refine Ie.rows (rs:=zs.map fun z=>[V.int z.1,.int z.2]) h1 g1 (by rw[Je,h2]) (by rw[Je,g2]) (by rw[Je];lia) (key h3) (key g3) fun z hz=>?_
 obtain⟨w,_,rfl⟩:=Ju.mp hz;refine⟨(by decide:2<=3),fun x hx=>?_⟩
 simp only[Jl,Jx,JA]at hx;rcases hx with rfl|rfl
 ·exact .int _ _
 ·exact .int _ _
end L3
namespace Lw
open PySem L2 L3
section
variable{P:Ξ}{w:Ω}{K:ι}{mg:FT}{base:Ψ}{tk:Nat->Tok}
theorem cL(a:At K mg "_law_alike" bh ["_law_found","_law_due"])(T:GA K mg tk):∀n:Nat,n<=8->Df P w K mg base "_law_alike" ["_law_found","_law_due"] (n+1) (AU n)
 |0,_=>by
  refine a.dq dw fun f _ A _ s H vs Q E hr h=>?_
  ·obtain⟨x,y,rfl,e,q⟩:=h
   refine⟨_,(qd (qE (zh (qp aY T.b_isinstance JJ (qc (qv 1) (qc (qu (qc (qL (v:= .ty "list") rfl T.b_list Eu rfl) (qc (qL (v:= .ty "tuple") rfl T.b_tuple JN rfl) qa))) qa)))) Qx qt)
   (qd (qE (QW.pt (zZ (zh (qp qS T.b_isinstance JJ (qc (qv 1) (qc (qL (v:= .ty "str") rfl T.b_str Fj rfl) qa)))) (zS (qx zX (qv 1) qM (qr _))))) (qf (qk (zp zx (qv 0) (qv 1) (qr _)))) qt)
   (qf (qk (zY (qp qS T.b_isinstance JJ (qc (qv 0) (qc (qL (v:= .ty "int") rfl T.b_int E5 rfl) qa))) (zY (cR (qp qS T.b_isinstance JJ (qc (qv 0) (qc (qL (v:= .ty "bool") rfl T.b_bool E6 rfl) qa)))) (QR (zp zx (qv 0) (qv 1) (qr _))))))))),?_⟩
   cases e with
   |int _ i=>
    refine⟨_,rfl,FN,fun p hp=>⟨_,p,["list","tuple"],"int",rfl,qb,.int i,by simp,_,rfl,?_⟩⟩
    rw[show(["list","tuple"].any (zE "int"))=false from by decide]
    refine zk ⟨_,rfl,_,"str","int",rfl,.int i,by simp,_,rfl,?_⟩
    rw[show zE "int" "str"=false from by decide]
    refine zk ⟨_,rfl,rfl,_,rfl,?_⟩
    refine qQ (fun z=>nomatch (Jv z)) (fun _=>⟨_,rfl,_,"int","int",rfl,.int i,by simp,_,rfl,?_⟩)
    rw[show zE "int" "int"=true from by decide]
    refine zj ⟨_,rfl,_,"bool","int",rfl,.int i,by simp,_,rfl,?_⟩
    rw[show zE "int" "bool"=false from by decide]
    refine⟨_,rfl,zj ⟨_,rfl,_,rfl,rfl,?_⟩⟩
    rw[Jg rfl];exact q _ (FV.upd hp)
   |str _ z=>
    refine⟨_,rfl,FN,fun p hp=>⟨_,p,["list","tuple"],"str",rfl,qb,.str z,by simp,_,rfl,?_⟩⟩
    rw[show(["list","tuple"].any (zE "str"))=false from by decide]
    refine zk ⟨_,rfl,_,"str","str",rfl,.str z,by simp,_,rfl,?_⟩
    rw[show zE "str" "str"=true from by decide]
    refine zj (zj ⟨_,rfl,_,rfl,rfl,?_⟩)
    rw[Jg rfl];exact q _ (FV.upd hp)
 |n+1,hn=>by
  have dR:=cL a T n (by lia)
  refine a.dq dw fun f _ A _ s H vs Q E hr h=>?_
  ·obtain⟨x,y,rfl,e,q⟩:=h
   cases e with
   |int _ i=>
    refine⟨_,(qd (qE (zh (qp aY T.b_isinstance JJ (qc (qv 1) (qc (qu (qc (qL (v:= .ty "list") rfl T.b_list Eu rfl) (qc (qL (v:= .ty "tuple") rfl T.b_tuple JN rfl) qa))) qa)))) Qx qt)
   (qd (qE (QW.pt (zZ (zh (qp qS T.b_isinstance JJ (qc (qv 1) (qc (qL (v:= .ty "str") rfl T.b_str Fj rfl) qa)))) (zS (qx zX (qv 1) qM (qr _))))) (qf (qk (zp zx (qv 0) (qv 1) (qr _)))) qt)
   (qf (qk (zY (qp qS T.b_isinstance JJ (qc (qv 0) (qc (qL (v:= .ty "int") rfl T.b_int E5 rfl) qa))) (zY (cR (qp qS T.b_isinstance JJ (qc (qv 0) (qc (qL (v:= .ty "bool") rfl T.b_bool E6 rfl) qa)))) (QR (zp zx (qv 0) (qv 1) (qr _))))))))),?_⟩
    refine⟨_,rfl,FN,fun p hp=>⟨_,p,["list","tuple"],"int",rfl,qb,.int i,by simp,_,rfl,?_⟩⟩
    rw[show(["list","tuple"].any (zE "int"))=false from by decide]
    refine zk ⟨_,rfl,_,"str","int",rfl,.int i,by simp,_,rfl,?_⟩
    rw[show zE "int" "str"=false from by decide]
    refine zk ⟨_,rfl,rfl,_,rfl,?_⟩
    refine qQ (fun z=>nomatch (Jv z)) (fun _=>⟨_,rfl,_,"int","int",rfl,.int i,by simp,_,rfl,?_⟩)
    rw[show zE "int" "int"=true from by decide]
    refine zj ⟨_,rfl,_,"bool","int",rfl,.int i,by simp,_,rfl,?_⟩
    rw[show zE "int" "bool"=false from by decide]
    refine⟨_,rfl,zj ⟨_,rfl,_,rfl,rfl,?_⟩⟩
    rw[Jg rfl];exact q _ (FV.upd hp)
   |str _ z=>
    refine⟨_,(qd (qE (zh (qp aY T.b_isinstance JJ (qc (qv 1) (qc (qu (qc (qL (v:= .ty "list") rfl T.b_list Eu rfl) (qc (qL (v:= .ty "tuple") rfl T.b_tuple JN rfl) qa))) qa)))) Qx qt)
   (qd (qE (QW.pt (zZ (zh (qp qS T.b_isinstance JJ (qc (qv 1) (qc (qL (v:= .ty "str") rfl T.b_str Fj rfl) qa)))) (zS (qx zX (qv 1) qM (qr _))))) (qf (qk (zp zx (qv 0) (qv 1) (qr _)))) qt)
   (qf (qk (zY (qp qS T.b_isinstance JJ (qc (qv 0) (qc (qL (v:= .ty "int") rfl T.b_int E5 rfl) qa))) (zY (cR (qp qS T.b_isinstance JJ (qc (qv 0) (qc (qL (v:= .ty "bool") rfl T.b_bool E6 rfl) qa)))) (QR (zp zx (qv 0) (qv 1) (qr _))))))))),?_⟩
    refine⟨_,rfl,FN,fun p hp=>⟨_,p,["list","tuple"],"str",rfl,qb,.str z,by simp,_,rfl,?_⟩⟩
    rw[show(["list","tuple"].any (zE "str"))=false from by decide]
    refine zk ⟨_,rfl,_,"str","str",rfl,.str z,by simp,_,rfl,?_⟩
    rw[show zE "str" "str"=true from by decide]
    refine zj (zj ⟨_,rfl,_,rfl,rfl,?_⟩)
    rw[Jg rfl];exact q _ (FV.upd hp)
   | @tup _ c d xs ys h1 h2 hl hz hi=>
    refine⟨_,(qd (qE (zh (qp aY T.b_isinstance JJ (qc (qv 1) (qc (qu (qc (qL (v:= .ty "list") rfl T.b_list Eu rfl) (qc (qL (v:= .ty "tuple") rfl T.b_tuple JN rfl) qa))) qa)))) (qd (qE (QW.pt (zZ (qx Z9 (qp qS T.b_isinstance JJ (qc (qv 0) (qc (qL (v:= .ty "list") rfl T.b_list Eu rfl) qa))) (qp qS T.b_isinstance JJ (qc (qv 1) (qc (qL (v:= .ty "list") rfl T.b_list Eu rfl) qa))) (qr _)) (zS (qx Z9 (qp qS T.b_isinstance JJ (qc (qv 0) (qc (qL (v:= .ty "tuple") rfl T.b_tuple JN rfl) qa))) (qp qS T.b_isinstance JJ (qc (qv 1) (qc (qL (v:= .ty "tuple") rfl T.b_tuple JN rfl) qa))) (qr _))))) (qf (qk Qo)) qt)
   (qd (qE (qx Z9 (qp zm T.b_len DW (qc (qv 0) qa)) (qp zm T.b_len DW (qc (qv 1) qa)) (qr _)) (qf (qk Qo)) qt)
   (qf (qk (qp (dy rfl) T.b_all FJ (qc (zW (own:=["_law_part","_law_more"]) (fr:=[]) (js:=[]) rfl (y8 DI rfl T.b_zip (qc (qv 0) (qc (qv 1) qa))) rfl (fun _ _ h=>nomatch h) rfl (eB rfl (by decide +kernel) (by decide +kernel) (by decide +kernel)) (fun _ _ _ _=>oV (K:=K) rfl 2 rfl (qm (qg (i:=0) (show List.Nodup (["_law_part","_law_more"]:List Str)from by decide +kernel) rfl (Or.inl rfl) (.inr rfl)) (qm (qg (i:=1) (show List.Nodup (["_law_part","_law_more"]:List Str)from by decide +kernel) rfl (Or.inl rfl) (.inr rfl)) qP))) (fun _ _ _ _=>(qo dR hr.mo (qc (qv 0) (qc (qv 1) qa))))) qa)))))) qt)
   (qd (qE (QW.pt (zZ (zh (qp qS T.b_isinstance JJ (qc (qv 1) (qc (qL (v:= .ty "str") rfl T.b_str Fj rfl) qa)))) (zS (qx zX (qv 1) qM (qr _))))) (qf (qk (zp zx (qv 0) (qv 1) (qr _)))) qt)
   (qf (qk (zY (qp qS T.b_isinstance JJ (qc (qv 0) (qc (qL (v:= .ty "int") rfl T.b_int E5 rfl) qa))) (zY (cR (qp qS T.b_isinstance JJ (qc (qv 0) (qc (qL (v:= .ty "bool") rfl T.b_bool E6 rfl) qa)))) (QR (zp zx (qv 0) (qv 1) (qr _))))))))),?_⟩
    refine⟨_,rfl,FN,fun p hp=>⟨_,p,["list","tuple"],"tuple",rfl,qb,.tup (Rd.same (FV.upd hp) h2),by simp,_,rfl,?_⟩⟩
    rw[show(["list","tuple"].any (zE "tuple"))=true from by decide]
    have s1:FV H _:=FV.upd (o:= .tup (["list","tuple"].map V.ty)) hp
    have k1:=Rd.same s1 h1;have k2:=Rd.same s1 h2;refine zj ⟨_,rfl,_,"list","tuple",rfl,.tup k1,by simp,_,rfl,_,"list","tuple",rfl,.tup k2,by simp,rfl,_,rfl,?_⟩
    refine eQ rfl ⟨_,rfl,_,"tuple","tuple",rfl,.tup k1,by simp,_,rfl,_,"tuple","tuple",rfl,.tup k2,by simp,rfl,_,rfl,?_⟩
    refine eQ rfl ?_
    refine⟨_,rfl,c,_,rfl,.inr (.inl k1),_,rfl,d,_,rfl,.inr (.inl k2),rfl,_,rfl,?_⟩
    refine eQ (by rw[hl]) ?_
    refine⟨_,rfl,_,rfl,c,d,xs,ys,rfl,k1,k2,ug (O:= .tup) hl hz (fun i zs H2=>zs=(List.replicate i true).map V.bl/\FV H H2) ⟨rfl,s1⟩ (fun i zs H2 ⟨_,s2⟩=>⟨Rd.same s2 h1,Rd.same s2 h2⟩) ?_ ?_⟩
    ·rintro i zs H2 pp x y hx hy hzl ⟨rfl,s2⟩ hpp
     have s3:=s2.trans (FV.upd (o:= .tup [x,y]) hpp)
     refine⟨_,rfl,_,rfl,x,y,rfl,(hi i x y hx hy).same s3,fun H4 s4=>⟨?_,s3.trans s4⟩⟩
     rw[List.replicate_succ',JW];rfl
    ·rintro zs H2 hzl ⟨rfl,s2⟩ p2 hp2
     refine⟨p2,_,rfl,F6.of qb,?_⟩
     rw[show(List.replicate xs.length true).all id=true from by simp]
     exact q _ (s2.trans (FV.upd hp2))
end
section
variable{P:Ξ}{w:Ω}{K:ι}{mg:FT}{base:Ψ}{tk:Nat->Tok}
def kJ:Sp:=fun vs H Q _=>∃x:Bool,vs=[.bl x,.bl x]/\Q (.bl true) H
theorem sX(a:At K mg "_law_is" gl ["_law_found","_law_due"])(T:GA K mg tk):Df P w K mg base "_law_is" ["_law_found","_law_due"] 1 kJ:=by
 refine a.dq rS fun f _ A _ s H vs Q E hr h=>?_
 ·obtain⟨x,rfl,q⟩:=h
  refine⟨_,(qf (qk (zY (qp gi T.b_isinstance JJ (qc (qv 0) (qc (qL (v:= .ty "bool") rfl T.b_bool E6 rfl) qa))) (QR (zp zx (qv 0) (qv 1) (qr _)))))),?_⟩
  refine⟨_,rfl,.bl x,"bool","bool",rfl,.bl x,by simp [fV],by simp [f7],?_⟩
  rw[show zE "bool" "bool"=true from by decide]
  refine⟨_,rfl,zj ⟨_,rfl,_,rfl,rfl,?_⟩⟩
  rw[Jg rfl];exact q
end
end Lw
namespace L3
open PySem PySem.Spec PyProof.Rows L2
section
variable{D D':Dr}{e e':Kb}{a c:Int}{o o':Option Kb}
def DB(D D':Dr)(e:Kb):Prop:=qU (e.last+D.far)=qU (e.last+D'.far)\/((∀x,qy e.age D.least<=x->x<D.kss.length->zD D e x=none)/\qU (e.last+D.far)<=e.last+D.near+1/\qU (e.last+D'.far)<=e.last+D'.near+1)
structure IM(D:Dr)(e:Kb)(D':Dr)(e':Kb):Prop where
 s:HU D e D' e'
 ow:∀x,qy e.age D.least<=x->x<D.kss.length->zD D e x=zD D' e' x
 f:DB D D' e
def ae:Option Kb->Prop
 |none=>True
 |some e=>¬e.last+1<4096
def Ik(D:Dr)(o:Option Kb)(D':Dr)(o':Option Kb):Prop:=(ae o/\ae o')\/∃e e',o=some e/\o'=some e'/\IM D e D' e'
theorem lH(d:Gf D)(k:Zb D o)(h:ae o)(a:Int):zU D a o=[]:=by
 cases o with
 |none=>rfl
 |some e=>exact ZH d k h a
theorem AQ(d:Gf D)(k:Gi D e):0<=qy e.age D.least:=by
 have:=k.a0
 have:=d.l0
 unfold qy;split<;>lia
theorem Ik.pa(g:Ik D o D' o')(d:Gf D)(d':Gf D')(k:Zb D o)(k':Zb D' o'):Qv D o D' o'=none:=by
 rcases g with⟨h,h'⟩|⟨e,e',rfl,rfl,g⟩
 ·exact ZJ fun x _ _=>Jc (by rw[lH d k h,lH d' k' h'])
 ·exact(g.s.pa (AQ d k)).mpr g.ow
theorem IM.opened(g:IM D e D' e')(hA:qy e.age D.least<=a)(hc:e.last<c)(h:c+1<4096):IM D ⟨a,c,none⟩ D' ⟨a,c,none⟩:=by
 have hA':qy e'.age D'.least<=a:=by rw[g.s.A];exact hA
 have m1:qy a D.least=a:=by unfold qy at hA⊢;split at hA<;>split<;>lia
 have m2:qy a D'.least=a:=by unfold qy at hA'⊢;split at hA'<;>split<;>lia
 refine⟨⟨h,rfl,by show qy a D'.least=qy a D.least;rw[m1,m2],g.s.K,?_⟩,fun _ _ _=>rfl,?_⟩
 ·have hn:=g.s.n
  show qU (c+D'.near)=qU (c+D.near)
  unfold qU at hn⊢;split at hn<;>split at hn<;>split<;>split<;>lia
 ·rcases g.f with f|⟨_,f1,f2⟩
  ·left
   show qU (c+D.far)=qU (c+D'.far)
   unfold qU at f⊢;split at f<;>split at f<;>split<;>split<;>lia
  ·refine .inr ⟨fun _ _ _=>rfl,?_,?_⟩
   ·show qU (c+D.far)<=c+D.near+1
    unfold qU at f1⊢;split at f1<;>split<;>lia
   ·show qU (c+D'.far)<=c+D'.near+1
    unfold qU at f2⊢;split at f2<;>split<;>lia
theorem IM.waits(g:IM D e D' e')(hn:¬c<=e.last+D.near)(c1:c<=4095):IM D (fW D e a c) D' (fW D' e' a c):=by
 have el:=g.s.l;have w1:=fh (D:=D) (e:=e) (a:=a) (c:=c)
 have s2:=g.s.fW (a:=a) (c:=c)
 have hn':¬c<=e.last+D'.near:=by
  have hn2:=g.s.n;unfold qU at hn2;split at hn2<;>split at hn2<;>lia
 rcases g.f with f|⟨n,f1,f2⟩
 ·by_cases hc:c<=e.last+D.far
  ·have hc':c<=e'.last+D'.far:=by
    rw[el];unfold qU at f;split at f<;>split at f<;>lia
   rw[cj hc,cj hc']at s2⊢;refine⟨s2,fun x _ _=>?_,.inl f⟩
   rw[QJ,QJ,el,<- f]
  ·have hc':¬c<=e'.last+D'.far:=by
    rw[el];unfold qU at f;split at f<;>split at f<;>lia
   rw[cY (by lia),cY (by lia)]
   exact g
 ·have n1:∀x,qy e.age D.least<=x->x<D.kss.length->zD D (fW D e a c) x=none:=fun x x1 x2=>by
   by_cases hc:c<=e.last+D.far
   ·rw[cj hc,QJ,Jb (fun z=>by have:=z.2;lia)]
   ·rw[cY (by lia)];exact n x x1 x2
  have n2:∀x,qy e.age D.least<=x->x<D.kss.length->zD D' (fW D' e' a c) x=none:=fun x x1 x2=>by
   by_cases hc:c<=e'.last+D'.far
   ·rw[cj hc,QJ,Jb (fun z=>by have:=z.2;rw[el]at this;lia)]
   ·rw[cY (by lia),<- g.ow x x1 x2];exact n x x1 x2
  refine⟨s2,fun x x1 x2=>?_,.inr ⟨fun x x1 x2=>?_,?_,?_⟩⟩
  ·rw[w1.2]at x1
   rw[n1 x x1 x2,n2 x x1 x2]
  ·rw[w1.2]at x1
   exact n1 x x1 x2
  ·rw[w1.1];exact f1
  ·rw[w1.1];exact f2
theorem Ik.step(g:Ik D (some e) D' (some e'))(d:Gf D)(d':Gf D')(k:Gi D e)(k':Gi D' e')(a:Int)(c1:c<=4095):Ik D (some (qN D e a c).2) D' (some (qN D' e' a c).2):=by
 rcases g with⟨h,h'⟩|⟨_,_,q1,q2,g⟩
 ·have h:¬e.last+1<4096:=h
  have h':¬e'.last+1<4096:=h'
  rw[ZQ (by lia),ZQ (by lia)]
  exact .inl ⟨h,h'⟩
 cases q1;cases q2
 by_cases h1:qy e.age D.least<=a/\a<D.kss.length
 case neg=>
  have z1:qH D e a=false:=E4.mpr fun y=>h1 (Gj.mp y)
  have z2:qH D' e' a=false:=E4.mpr fun y=>h1 (by have:=Gj.mp y;rw[g.s.A,g.s.K]at this;exact this)
  rw[bH d.nf (.inl z1),bH d'.nf (.inl z2)];exact .inr ⟨e,e',rfl,rfl,g⟩
 by_cases h2:e.last<c
 case neg=>
  rw[bH d.nf (.inr (.inl (by lia))),bH d'.nf (.inr (.inl (by rw[g.s.l];lia)))]
  exact .inr ⟨e,e',rfl,rfl,g⟩
 have t1:=Gj.mpr h1;have t2:qH D' e' a=true:=Gj.mpr (by rw[g.s.A,g.s.K];exact h1)
 have oi:=g.s.open_iff d d' k k' (g.ow a h1.1 h1.2) c1
 by_cases ho:Zz D e a c
 ·rw[gN t1 ho,gN t2 (oi.mp ho)]
  by_cases h3:c+1<4096
  ·exact .inr ⟨_,_,rfl,rfl,g.opened h1.1 h2 h3⟩
  ·exact .inl ⟨h3,h3⟩
 ·rw[aj d.nf t1 ho h2,aj d'.nf t2 (fun z=>ho (oi.mpr z)) (by rw[g.s.l];exact h2)]
  exact .inr ⟨_,_,rfl,rfl,g.waits (fun z=>ho ⟨h2,.inl z⟩) c1⟩
theorem Ik.pair(g:Ik D o D' o')(d:Gf D)(d':Gf D')(k:Zb D o)(k':Zb D' o'):Qu D o D' o'=none:=by
 cases o with
 |none=>cases o'<;>rfl
 |some e=>cases o' with
  |none=>rfl
  |some e'=>
   have k:Gi D e:=k
   have k':Gi D' e':=k'
   have l0:=k.l0;have l0':=k'.l0;have n0:=d.n0;have n0':=d'.n0;have nf:=d.nf;have nf':=d'.nf;refine ZJ fun x x1 x2=>?_
   have x0:0<=x:=by unfold zB zn at x1;split at x1<;>lia
   have x4:x<=4095:=by
    have:zn (zB D e D' e'+2) 4096<=4096:=by unfold zn;split<;>lia
    lia
   rw[(g.step d d' k k' (qy e.age D.least) x4).pa d d' (aM d k x0 (by lia)) (aM d' k' x0 (by lia))]
   rfl
theorem Il.reach(t:Il D e D' e')(hf:D'.far<D.far)(hL:e.last+D'.far<4095)(p0:iV D e D' e' (qy e.age D.least) (e.last+D'.far)=none)(p1:iV D e D' e' (qy e.age D.least) (e.last+D'.far+1)=none):
  (∀x,qy e.age D.least<=x->x<D.kss.length->zD D e x=none)/\qU (e.last+D.far)<=e.last+D.near+1/\qU (e.last+D'.far)<=e.last+D'.near+1:=by
 have el:=t.s.l;have n0:=t.d.n0;have nf:=t.d.nf;have n0':=t.d'.n0;have nf':=t.d'.nf;have A0:=t.a0;have en:D'.near=D.near:=by
  have hn:=t.s.n;unfold qU at hn;split at hn<;>split at hn<;>lia
 obtain⟨A,eA⟩:∃A,A=qy e.age D.least:=⟨_,rfl⟩
 rw[<- eA]at p0 p1 A0⊢;have hA:qy e.age D.least<=A/\A<D.kss.length:=by rw[<- eA];exact⟨Jr _,A0.2⟩
 have ow'le:∀{x a:Int},zD D' e' a=some x->x<=e.last+D'.far:=fun{x a} z=>by
  have z1:=CH z;have z2:=(bC (e'.last+D'.far)).1;rw[el]at z2 z1;lia
 have owA:=t.ow hA.1 hA.2;have no1:¬Zz D e A (e.last+D'.far+1):=fun y=>by
  have:=(aq t.d t.k (by lia) (by lia) (by lia)).mp y
  rw[owA]at this
  have:=ow'le this
  lia
 have all:=(t.is (by lia) hA (by lia) no1).mp p1
 rw[cj (D:=D) (e:=e) (by lia),cY (D:=D') (e:=e') (by rw[el];lia)]at all
 have n2:¬e.last+D'.far+1+1<=qU (e.last+D.far):=fun y=>by
  have:=all A hA.1 hA.2
  rw[QJ,Jc ⟨rfl,y⟩]at this
  have:=ow'le this.symm
  lia
 have nw:∀x,A<=x->x<D.kss.length->zD D e x=none:=fun x x1 x2=>by
  have x1':qy e.age D.least<=x:=by rw[<- eA];exact x1
  have:=all x x1' x2
  rw[QJ,Jb (fun q=>n2 q.2)]at this
  rw[t.ow x1' x2];exact this.symm
 have op:Zz D e A (e.last+D'.far):=Classical.byContradiction fun ho=>by
  have:=(t.is (by lia) hA (by lia) ho).mp p0 A hA.1 hA.2
  rw[cj (D:=D) (e:=e) (by lia),cj (D:=D') (e:=e') (by rw[el];exact Jr _),QJ,QJ,Jc ⟨rfl,lC (by lia) (by lia)⟩,Jb (fun q=>by have q:=q.2;have:=(bC (e'.last+D'.far)).1;rw[el]at this q;lia)]at this
  cases this
 have hLn:e.last+D'.far<=e.last+D.near:=Decidable.byContradiction fun z=>by
  have:=(aq t.d t.k (by lia) z (by lia)).mp op
  rw[nw A (Jr _) hA.2]at this;cases this
 have c1:=(bC (e.last+D'.far)).1
 exact⟨nw,by lia,by lia⟩
theorem Al{α:Type}{lo:Int}{n:Nat}{f:Int->Option α}(h:cz lo n f=none){x:Int}(h1:lo<=x)(h2:x<lo+n):f x=none:=by
 unfold cz at h;exact List.findSome?_eq_none_iff.mp h x (Ju.mpr ⟨(x-lo).toNat,J6.mpr (by lia),by lia⟩)
theorem CI(d:Gf D)(d':Gf D')(k:Zb D o)(k':Zb D' o')(hk:D.kss.length=D'.kss.length)(no:Qv D o D' o'=none)(np:Qu D o D' o'=none):Ik D o D' o':=by
 cases o with
 |none=>
  cases o' with
  |none=>exact .inl ⟨trivial,trivial⟩
  |some e'=>exact .inl ⟨trivial,iq d' k' fun a h0 h1=>(aA no h0 (by rw[hk];exact h1)).symm⟩
 |some e=>
  cases o' with
  |none=>exact .inl ⟨iq d k fun a h0 h1=>aA no h0 h1,trivial⟩
  |some e'=>
   have k:Gi D e:=k
   have k':Gi D' e':=k'
   by_cases h1:e.last+1<4096
   case neg=>
    refine .inl ⟨h1,iq d' k' fun a h0 h2=>?_⟩
    have:=aA no h0 (by rw[hk];exact h2)
    exact this.symm.trans (ZH d k h1 a)
   have s:=CG d d' k k' hk no h1;have t:Il D e D' e':=⟨s,d,d',k,k',no⟩
   refine .inr ⟨e,e',rfl,rfl,s,fun x x1 x2=>t.ow x1 x2,?_⟩
   by_cases hc:qU (e.last+D.far)=qU (e.last+D'.far)
   ·exact .inl hc
   right
   have el:=s.l;have pr:∀x,zB D e D' e'<=x->x<=zB D e D' e'+1->x<=4095->iV D e D' e' (qy e.age D.least) x=none:=fun x x1 x2 x3=>by
    have:=Al (show cz (zB D e D' e') (zn (zB D e D' e'+2) 4096-zB D e D' e').toNat (fun c=>(iV D e D' e' (qy e.age D.least) c).map fun p=>((qy e.age D.least,c),p))=none from np) x1 (by unfold zn;split<;>lia)
    exact Option.map_eq_none_iff.mp this
   rcases Int.lt_trichotomy D'.far D.far with h|h|h
   ·have ee:zB D e D' e'=e.last+D'.far:=by unfold zB zn;rw[el];split<;>lia
    have hL:e.last+D'.far<4095:=by unfold qU at hc;split at hc<;>split at hc<;>lia
    rw[ee]at pr;exact t.reach h hL (pr _ (Jr _) (by lia) (by lia)) (pr _ (by lia) (Jr _) (by lia))
   ·rw[h]at hc;exact absurd rfl hc
   ·have ee:zB D e D' e'=e'.last+D.far:=by unfold zB zn;rw[el];split<;>lia
    have hL:e'.last+D.far<4095:=by rw[el];unfold qU at hc;split at hc<;>split at hc<;>lia
    rw[ee]at pr;have A:=s.A;obtain⟨r1,r2,r3⟩:=t.symm.reach h hL (by rw[A,oF s.K];exact pr _ (Jr _) (by lia) (by lia)) (by rw[A,oF s.K];exact pr _ (by lia) (Jr _) (by lia))
    rw[el]at r2 r3;refine⟨fun x x1 x2=>?_,r3,r2⟩
    rw[t.ow x1 x2];exact r1 x (by rw[A];exact x1) (by rw[s.K];exact x2)
end
structure HV(D D':Dr):Prop where
 hk:D.kss.length=D'.kss.length
 all:∀nm,Ik D (D.kn.lookup nm) D' (D'.kn.lookup nm)
section
variable{D D':Dr}{nm z:Str}{a c:Int}{ns:List Str}
theorem iS(h:z∉D.kn.map (·.1)):D.kn.lookup z=none:=by
 cases e:D.kn.lookup z with
 |none=>rfl
 |some b=>exact absurd (Ga.mp (by rw[e];rfl)) h
theorem AI(td:G1 D)(td':G1 D')(hk:D.kss.length=D'.kss.length)(mem:∀k,k∈ns↔k∈D.kn.map (·.1)\/k∈D'.kn.map (·.1))(h:zJ D D' ns=none):HV D D':=by
 refine⟨hk,fun nm=>?_⟩
 by_cases hn:nm∈ns
 ·unfold zJ at h
  cases e:ns.findSome? (Qr D D')with
  |some r=>rw[e]at h;cases h
  |none=>
   rw[e]at h;have h1:=List.findSome?_eq_none_iff.mp e nm hn;have h2:=List.findSome?_eq_none_iff.mp h nm hn;unfold Qr at h1;unfold Zv at h2;exact CI td.dn td'.dn (td.kn nm) (td'.kn nm) hk (Option.map_eq_none_iff.mp h1) (Option.map_eq_none_iff.mp h2)
 ·have z1:=iS (D:=D) fun y=>hn ((mem nm).mpr (.inl y))
  have z2:=iS (D:=D') fun y=>hn ((mem nm).mpr (.inr y))
  rw[z1,z2];exact .inl ⟨trivial,trivial⟩
theorem HV.tell(g:HV D D')(td:G1 D)(td':G1 D')(ns:List Str):zJ D D' ns=none:=by
 have e1:ns.findSome? (Qr D D')=none:=ao fun nm _=>by unfold Qr;rw[(g.all nm).pa td.dn td'.dn (td.kn nm) (td'.kn nm)];rfl
 unfold zJ;rw[e1];exact ao fun nm _=>by unfold Zv;rw[(g.all nm).pair td.dn td'.dn (td.kn nm) (td'.kn nm)];rfl
theorem aZ(nd:(D.kn.map (·.1)).Nodup):(F8 D nm a c).lookup z=if z=nm then(D.kn.lookup nm).map (fun e=>(qN D e a c).2)else D.kn.lookup z:=by
 by_cases hz:z=nm
 ·subst hz
  rw[Jc rfl];cases e:D.kn.lookup z with
  |some b=>exact rP nd e
  |none=>
   rcases cm (D:=D) (nm:=z) (age:=a) (c:=c)with e1|⟨b,hb,_⟩
   ·rw[e1,e];rfl
   ·rw[e]at hb;cases hb
 ·rw[Jb hz]
  rcases cm (D:=D) (nm:=nm) (age:=a) (c:=c)with e1|⟨b,hb,_,ek⟩
  ·rw[e1]
  ·rw[ek,nu nd hz]
theorem G1.hear(td:G1 D)(c0:0<=c)(c1:c<4096):G1 {D with kn:=F8 D nm a c}:=by
 refine⟨td.ok.hearK nm a c,⟨td.dn.n0,td.dn.n1,td.dn.nf,td.dn.f1,td.dn.l0,td.dn.lk⟩,fun z=>?_,?_⟩
 ·show Zb _ ((F8 D nm a c).lookup z)
  rw[aZ td.ok.nd];have key:∀o:Option Kb,Zb D o->Zb {D with kn:=F8 D nm a c} o:=fun o h=>by
   cases o with
   |none=>exact trivial
   |some e=>exact Gi.mono h (Jf _)
  split
  ·have k:=td.kn nm
   cases e:D.kn.lookup nm with
   |none=>exact trivial
   |some b=>rw[e]at k;exact key _ (aM td.dn k c0 c1)
  ·exact key _ (td.kn z)
 ·have:=JX List.length (gR D nm a c)
  rw[Je,Je]at this
  show(F8 D nm a c).length<=30
  rw[this];exact td.few
theorem HV.hear(g:HV D D')(td:G1 D)(td':G1 D')(c1:c<=4095):HV {D with kn:=F8 D nm a c} {D' with kn:=F8 D' nm a c}:=by
 refine⟨g.hk,fun z=>?_⟩
 show Ik _ ((F8 D nm a c).lookup z) _ ((F8 D' nm a c).lookup z)
 rw[aZ td.ok.nd,aZ td'.ok.nd];have key:∀o o':Option Kb,Ik D o D' o'->Ik {D with kn:=F8 D nm a c} o {D' with kn:=F8 D' nm a c} o':=fun o o' h=>by
  rcases h with h|⟨e,e',e1,e2,h⟩
  ·exact .inl h
  ·exact .inr ⟨e,e',e1,e2,⟨h.s.h1,h.s.l,h.s.A,h.s.K,h.s.n⟩,h.ow,h.f⟩
 by_cases hz:z=nm
 ·rw[Jc hz,Jc hz]
  have gn:=g.all nm;have k:=td.kn nm;have k':=td'.kn nm;cases e:D.kn.lookup nm with
  |none=>
   rw[e]at gn;cases e':D'.kn.lookup nm with
   |none=>exact .inl ⟨trivial,trivial⟩
   |some b'=>
    rw[e']at gn;rcases gn with⟨_,h⟩|⟨_,_,q,_⟩
    ·refine .inl ⟨trivial,?_⟩
     show ae (some (qN D' b' a c).2)
     have h:¬b'.last+1<4096:=h
     rw[ZQ (by lia)];exact h
    ·cases q
  |some b=>
   rw[e]at gn k;cases e':D'.kn.lookup nm with
   |none=>
    rw[e']at gn;rcases gn with⟨h,_⟩|⟨_,_,_,q,_⟩
    ·refine .inl ⟨?_,trivial⟩
     show ae (some (qN D b a c).2)
     have h:¬b.last+1<4096:=h
     rw[ZQ (by lia)];exact h
    ·cases q
   |some b'=>
    rw[e']at gn k';exact key _ _ (gn.step td.dn td'.dn k k' a c1)
 ·rw[Jb hz,Jb hz]
  exact key _ _ (g.all z)
theorem HV.opn(g:HV D D')(td:G1 D)(td':G1 D')(a0:0<=a)(a1:a<D.kss.length)(c1:c<=4095):L3.IZ D nm a c=L3.IZ D' nm a c:=by
 rw[sZ td.dn (td.kn nm) c1,sZ td'.dn (td'.kn nm) c1,aA ((g.all nm).pa td.dn td'.dn (td.kn nm) (td'.kn nm)) a0 a1]
end
section
variable{D D':Dr}{e e':Kb}{a c:Int}
theorem jr(p:Int×Int)(r:List (Int×Int))(k:Int):k∈qG (p::r)↔k∈qG [p]\/k∈qG r:=by
 have:qG (p::r)=qG [p]++qG r:=by unfold qG;rw[<- List.flatMap_append];rfl
 rw[this,JC]
theorem HU.xs(s:HU D e D' e'):IH D (some e) D' (some e'):=fun a ks nd mem=>by
 show ks.length<64
 have hm:∀k,k∈ks↔¬(k∈qG (za D e a)↔k∈qG (za D' e' a)):=mem
 by_cases h:qy e.age D.least<=a/\a<D.kss.length
 ·have h':qy e'.age D'.least<=a/\a<D'.kss.length:=by rw[s.A,s.K];exact h
  rw[Qp s.h1 (Gj.mpr h),Qp (by rw[s.l];exact s.h1) (Gj.mpr h'),s.l,s.n]at hm
  have one:∀(o:Option Int) (k:Int),k∈qG (o.toList.map fun x=>(x,x))->k∈o.toList:=fun o k hk=>by
   cases o with
   |none=>cases hk
   |some x=>
    have hk:=(fT [(x,x)] k).mp hk;unfold Ze at hk;simp only[JS,List.any_nil,Bool.or_false,Jt,decide_eq_true_eq]at hk;rw[show k=x by lia]
    exact Jj.mpr rfl
  have:ks.length<=((zD D e a).toList++(zD D' e' a).toList).length:=gO nd fun k hk=>by
   have hk:=(hm k).mp hk;rw[jr,jr (r:=(zD D' e' a).toList.map fun x=>(x,x))]at hk
   rw[JC]
   by_cases z1:k∈qG ((zD D e a).toList.map fun x=>(x,x))
   ·exact .inl (one _ k z1)
   ·by_cases z2:k∈qG ((zD D' e' a).toList.map fun x=>(x,x))
    ·exact .inr (one _ k z2)
    ·exact absurd ⟨fun q=>q.elim .inl fun y=>absurd y z1,fun q=>q.elim .inl fun y=>absurd y z2⟩ hk
  have l1:∀o:Option Int,o.toList.length<=1:=fun o=>by cases o<;>simp
  have:=l1 (zD D e a)
  have:=l1 (zD D' e' a)
  rw[Jw]at *
  lia
 ·have h':¬(qy e'.age D'.least<=a/\a<D'.kss.length):=by rw[s.A,s.K];exact h
  rw[bw h,bw h']at hm;cases ks with
  |nil=>exact(by decide:0<64)
  |cons x r=>exact absurd Iff.rfl ((hm x).mp Jy)
structure Fq(nm:Str)(age last:Int)(D D':Dr):Prop where
 n0:1<=D.near
 n1:D.near<=64
 n:D'.near=D.near
 f0:65<=D.far
 f1:D.far<=1024
 f0':65<=D'.far
 f1':D'.far<=1024
 le:D.least=0
 le':D'.least=0
 k:D.kss.length=2
 k':D'.kss.length=2
 a0:0<=age
 a1:age<2
 l0:1<=last
 l1:last<=3000
 kn:D.kn=[(nm,⟨age,last,none⟩)]
 kn':D'.kn=[(nm,⟨age,last,none⟩)]
variable{nm:Str}{age last:Int}
theorem Fq.symm(h:Fq nm age last D D'):Fq nm age last D' D:=⟨by rw[h.n];exact h.n0,by rw[h.n];exact h.n1,h.n.symm,h.f0',h.f1',h.f0,h.f1,h.le',h.le,h.k',h.k,h.a0,h.a1,h.l0,h.l1,h.kn',h.kn⟩
theorem Fq.ml(h:Fq nm age last D D'):qy age D.least=age:=by
 have:=h.a0
 rw[h.le];unfold qy;split<;>lia
theorem Fq.sq(h:Fq nm age last D D'):HU D ⟨age,last,none⟩ D' ⟨age,last,none⟩:=⟨by have:=h.l1;show last+1<4096;lia,rfl,by show qy age D'.least=qy age D.least;rw[h.ml,h.symm.ml],by rw[h.k,h.k'],by rw[h.n]⟩
theorem Fq.dn(h:Fq nm age last D D'):Gf D:=⟨h.n0,h.n1,by have:=h.n1;have:=h.f0;lia,h.f1,by rw[h.le];decide,by rw[h.le,h.k];decide⟩
theorem Fq.kl(h:Fq nm age last D D'):Gi D ⟨age,last,none⟩:=⟨h.a0,by rw[h.k];exact h.a1,h.l0,by have:=h.l1;show last<4096;lia,fun x y z=>by cases z⟩
theorem Fq.lk(h:Fq nm age last D D'):D.kn.lookup nm=some ⟨age,last,none⟩:=by rw[h.kn];exact kF _ _
theorem Fq.no(h:Fq nm age last D D'){z:Str}(hz:z≠nm):D.kn.lookup z=none:=iS (by rw[h.kn];simpa using hz)
theorem Fq.td(h:Fq nm age last D D')(ok:GZ D):G1 D:=⟨ok,h.dn,fun z=>by
 by_cases hz:z=nm
 ·rw[hz,h.lk];exact h.kl
 ·rw[h.no hz];exact trivial,by rw[h.kn];exact(by decide:1<=30)⟩
theorem Fq.noop(h:Fq nm age last D D')(hc:last+D.near<c):¬Zz D ⟨age,last,none⟩ a c:=fun z=>by
 rcases z.2 with y|⟨_,y⟩
 ·have y:c<=last+D.near:=y
  lia
 ·cases y
theorem Fq.xs(h:Fq nm age last D D'):IL D D':=fun z=>by
 by_cases hz:z=nm
 case neg=>
  rw[h.no hz,h.symm.no hz]
  exact⟨fun a ks nd mem=>by
   cases ks with
   |nil=>exact(by decide:0<64)
   |cons x r=>exact absurd Iff.rfl ((mem x).mp Jy),fun e e' q=>by cases q⟩
 subst hz;rw[h.lk,h.symm.lk];refine⟨h.sq.xs,fun e e' q q' c c1 c2=>?_⟩
 cases q;cases q';have hL:last+D.near<c:=by
  have:last+65<=zB D ⟨age,last,none⟩ D' ⟨age,last,none⟩:=by
   show last+65<=zn (last+D.far) (last+D'.far)
   have:=h.f0
   have:=h.f0'
   unfold zn;split<;>lia
  have:=h.n1
  lia
 have t1:qH D ⟨age,last,none⟩ (qy age D.least)=true:=Gj.mpr ⟨Jr _,by rw[h.ml,h.k];exact h.a1⟩
 have t2:qH D' ⟨age,last,none⟩ (qy age D.least)=true:=Gj.mpr ⟨by show qy age D'.least<=_;rw[h.ml,h.symm.ml];exact Jr _,by rw[h.ml,h.k'];exact h.a1⟩
 have n0:=h.n0
 show IH D (some (qN D ⟨age,last,none⟩ (qy age D.least) c).2) D' (some (qN D' ⟨age,last,none⟩ (qy age D.least) c).2)
 rw[aj h.dn.nf t1 (h.noop hL) (by show last<c;lia),aj h.symm.dn.nf t2 (h.symm.noop (by rw[h.n];exact hL)) (by show last<c;lia)]
 exact h.sq.fW.xs
theorem Fq.pair(h:Fq nm age last D D')(hf:D'.far<D.far):Qu D (some ⟨age,last,none⟩) D' (some ⟨age,last,none⟩)=some ((age,last+D'.far),(age,last+D'.far+1)):=by
 have n0:=h.n0;have n1:=h.n1;have f0:=h.f0;have f1:=h.f1;have f0':=h.f0';have f1':=h.f1';have l0:=h.l0;have l1:=h.l1;have a0:=h.a0;have a1:=h.a1;have ee:zB D ⟨age,last,none⟩ D' ⟨age,last,none⟩=last+D'.far:=by
  show zn (last+D.far) (last+D'.far)=_
  unfold zn;split<;>lia
 obtain⟨L,eL⟩:∃L,L=last+D'.far:=⟨_,rfl⟩
 have t1:qH D ⟨age,last,none⟩ age=true:=Gj.mpr ⟨by show qy age D.least<=age;rw[h.ml];exact Jr _,by rw[h.k];exact h.a1⟩
 have t2:qH D' ⟨age,last,none⟩ age=true:=Gj.mpr ⟨by show qy age D'.least<=age;rw[h.symm.ml];exact Jr _,by rw[h.k'];exact h.a1⟩
 have e1:(qN D ⟨age,last,none⟩ age L).2=⟨age,last,some (age,L)⟩:=ba t1 (h.noop (by lia)) (by show last<L;lia) (by show L<=last+D.far;lia)
 have e2:(qN D' ⟨age,last,none⟩ age L).2=⟨age,last,some (age,L)⟩:=ba t2 (h.symm.noop (by rw[h.n];lia)) (by show last<L;lia) (by show L<=last+D'.far;lia)
 have s1:za D ⟨age,last,some (age,L)⟩ age=[(last+1,last+D.near),(L+1,L+1)]:=by
  rw[Qp (e:=⟨age,last,some (age,L)⟩) (by show last+1<4096;lia) t1]
  show(last+1,qU (last+D.near))::_=_
  rw[show qU (last+D.near)=last+D.near by unfold qU;rw[Jb (by lia)],QJ,Jc ⟨rfl,lC (by lia) (by lia)⟩]
  rfl
 have s2:za D' ⟨age,last,some (age,L)⟩ age=[(last+1,last+D.near)]:=by
  rw[Qp (e:=⟨age,last,some (age,L)⟩) (by show last+1<4096;lia) t2]
  show(last+1,qU (last+D'.near))::_=_
  rw[h.n,show qU (last+D.near)=last+D.near by unfold qU;rw[Jb (by lia)],QJ,Jb (fun z=>by have:=z.2;have:=(bC (last+D'.far)).1;lia)]
  rfl
 have in1:∀x,Ze x [(last+1,last+D.near),(L+1,L+1)]=(Ze x [(last+1,last+D.near)]||(decide (L+1<=x)&&decide (x<=L+1))):=fun x=>by
  unfold Ze;simp only[JS,List.any_nil,Bool.or_false]
 have out:Ze (L+1) [(last+1,last+D.near)]=false:=by
  unfold Ze;simp only[JS,List.any_nil,Bool.or_false];rw[Jm (show¬L+1<=last+D.near by lia),Bool.and_false]
 have la:zQ [(last+1,last+D.near),(L+1,L+1)] [(last+1,last+D.near)]=L+1:=by
  have:Zm 0 4096 (QV [(last+1,last+D.near),(L+1,L+1)] [(last+1,last+D.near)])=some (L+1):=by
   refine vH (by lia) (by lia) ?_ fun x x0 x1=>?_
   ·unfold QV
    rw[in1,out];exact Jg (by rw[Jg (Jr _)];decide)
   ·unfold QV
    rw[in1,Jm (show¬L+1<=x by lia),DS,Bool.or_false]
    exact Jm fun z=>z rfl
  unfold zQ;rw[this];rfl
 have pa:Qv D (some ⟨age,last,some (age,L)⟩) D' (some ⟨age,last,some (age,L)⟩)=some (age,L+1):=by
  unfold Qv;refine bV (i:=age.toNat) (by rw[h.k];lia) ?_ fun x x0 x1=>Jc ?_
  ·rw[show(0:Int)+(age.toNat:Int)=age by lia]
   show(if za D ⟨age,last,some (age,L)⟩ age=za D' ⟨age,last,some (age,L)⟩ age then none else some (age,zQ (za D ⟨age,last,some (age,L)⟩ age) (za D' ⟨age,last,some (age,L)⟩ age)))=_
   rw[s1,s2,la,Jb (by intro z;cases z)]
  ·show za D _ x=za D' _ x
   rw[bw (D:=D) (fun z=>by have:=z.1;rw[show qy age D.least=age from h.ml]at this;lia),bw (D:=D') (fun z=>by have:=z.1;rw[show qy age D'.least=age from h.symm.ml]at this;lia)]
 unfold Qu;simp only
 rw[ee,h.ml,<- eL];refine bV (i:=0) (by unfold zn;split<;>lia) ?_ fun x x0 x1=>by lia
 rw[show L+((0:Nat):Int)=L by lia,e1,e2,pa];rfl
theorem Fq.tell(h:Fq nm age last D D')(ok:GZ D)(ok':GZ D')(hf:D.far≠D'.far):zJ D D' [nm]=some [(nm,age,last+zn D.far D'.far),(nm,age,last+zn D.far D'.far+1)]:=by
 have key:∀{D D':Dr},Fq nm age last D D'->D'.far<D.far->zJ D D' [nm]=some [(nm,age,last+D'.far),(nm,age,last+D'.far+1)]:=fun{D D'} h hf=>by
  have e1:[nm].findSome? (Qr D D')=none:=ao fun z hz=>by
   rw[Jj.mp hz];unfold Qr;rw[h.lk,h.symm.lk,(h.sq.pa (by show 0<=qy age D.least;rw[h.ml];exact h.a0)).mpr fun _ _ _=>rfl];rfl
  unfold zJ;rw[e1,List.findSome?_cons];have e2:Zv D D' nm=some [(nm,age,last+D'.far),(nm,age,last+D'.far+1)]:=by
   unfold Zv;rw[h.lk,h.symm.lk,h.pair hf];rfl
  rw[e2]
 rcases Int.lt_trichotomy D'.far D.far with z|z|z
 ·rw[key h z,show zn D.far D'.far=D'.far by unfold zn;rw[Jc z]]
 ·exact absurd z.symm hf
 ·have c:=tW h.dn h.symm.dn (h.td ok).kn (h.symm.td ok').kn (by rw[h.k,h.k']) [nm]
  rw[c,key h.symm z,show zn D.far D'.far=D.far by unfold zn;rw[Jb (by lia)]]
theorem Fq.str(h:Fq nm age last D D'){n:Int}(h1:last+D.near<n)(h2:n<=last+D.far):iI {D with kn:=F8 D nm age n} nm age=(last+1,last+D.near)::(if n<last+D.far then [(n+1,n+1)]else []):=by
 have n0:=h.n0;have n1:=h.n1;have l1:=h.l1;have f1:=h.f1;have t1:qH D ⟨age,last,none⟩ age=true:=Gj.mpr ⟨by show qy age D.least<=age;rw[h.ml];exact Jr _,by rw[h.k];exact h.a1⟩
 have e1:(qN D ⟨age,last,none⟩ age n).2=⟨age,last,some (age,n)⟩:=ba t1 (h.noop h1) (by show last<n;lia) h2
 have nd:(D.kn.map (·.1)).Nodup:=by rw[h.kn];exact DT.mpr ⟨Jx,Er⟩
 unfold iI
 show(match(F8 D nm age n).lookup nm with
  |none=>[]
  |some e=>za {D with kn:=F8 D nm age n} e age)=_
 rw[aZ nd,Jc rfl,h.lk]
 show za {D with kn:=F8 D nm age n} (qN D ⟨age,last,none⟩ age n).2 age=_
 rw[e1]
 show za D ⟨age,last,some (age,n)⟩ age=_
 rw[Qp (e:=⟨age,last,some (age,n)⟩) (by show last+1<4096;lia) t1]
 show(last+1,qU (last+D.near))::_=_
 rw[show qU (last+D.near)=last+D.near by unfold qU;rw[Jb (by lia)],QJ,show qU (last+D.far)=last+D.far by unfold qU;rw[Jb (by lia)]]
 by_cases z:n<last+D.far
 ·rw[Jc ⟨rfl,by lia⟩,Jc z];rfl
 ·rw[Jb (fun y=>z (by have:=y.2;lia)),Jb z];rfl
end
theorem mM{α:Type}{xs:List α}(h:xs.length=2):∃x y,xs=[x,y]:=by
 cases xs with
 |nil=>cases h
 |cons x r=>cases r with
  |nil=>cases h
  |cons y r=>cases r with
   |nil=>exact⟨x,y,rfl⟩
   |cons z r=>cases h
theorem vA{cs:List Str}{nm:Str}(nd:cs.Nodup)(h:∀k,k∈cs↔k=nm):cs=[nm]:=by
 cases cs with
 |nil=>exact absurd ((h nm).mpr rfl) (Jx)
 |cons x r=>
  have hx:x=nm:=(h x).mp Jy
  cases r with
  |nil=>rw[hx]
  |cons y r=>
   have hy:y=nm:=(h y).mp (JE _ Jy)
   rw[DT]at nd;exact absurd (by rw[hx,hy];exact Jy) nd.1
def gu:Sp:=fun vs H Q _=>∃(b:Δ) (c:Nat),vs=[.ref b]/\GS H b c/\c<1000000/\∀H',Mv [b] H H'->Q (.bl true) H'
structure Pq(K:ι)(C:Δ)(H0 H:Hp)(b:Δ)(c:Nat)(xs:List En):Prop where
 s:Mv [b] H0 H
 bx:GS H b c
 b0:H0 b≠none
 en:∀(i:Nat) (x:En),xs[i]? =some x->GX K C H x.1 x.2.1 x.2.2 x.2.1
 dj:∀(i j:Nat) (x y:En),i≠j->xs[i]? =some x->xs[j]? =some y->∀z∈eS x.1,z∉eS y.1
 fr:∀(i:Nat) (x:En),xs[i]? =some x->∀z∈eS x.1,H0 z=none
section
variable{K:ι}{C:Δ}{H0 H H':Hp}{b:Δ}{c c':Nat}{pl:Δ}{xs:List En}{i:Nat}{x:En}
theorem Pq.nb(p:Pq K C H0 H b c xs)(hi:xs[i]? =some x):b∉eS x.1:=fun z=>p.b0 (p.fr i x hi b z)
theorem Pq.grc(p:Pq K C H0 H b c xs)(g:HI b c' H H'):Pq K C H0 H' b c' xs:=by
 have m:Mv [b] H H':=fun c o h e=>g.kp c o (fun z=>h (Jj.mpr z)) e
 exact⟨p.s.trans m,g.bx,p.b0,fun i x hi=>(p.en i x hi).mv m (zV p.bx) (fun z hz w=>p.nb hi (Jj.mp w▸hz)),p.dj,p.fr⟩
theorem Pq.same(p:Pq K C H0 H b c xs)(s:FV H H'):Pq K C H0 H' b c xs:=p.grc (s.grc p.bx)
theorem Pq.add{Ha:Hp}{y:Em}{D:Dr}(p:Pq K C H0 H b c xs)(s:FV H Ha)(e:GX K C Ha y D [] D)(f:∀z∈eS y,H z=none):Pq K C H0 Ha b c (xs++[(y,D,[])]):=by
 have pa:=p.same s;have key:∀{j:Nat} {w:En},(xs++[(y,D,[])])[j]? =some w->xs[j]? =some w\/(j=xs.length/\w=(y,D,[])):=fun{j w} h=>by
  by_cases hj:j<xs.length
  ·rw[J5 hj]at h;exact .inl h
  ·rw[JY (by lia)]at h
   cases q:j-xs.length with
   |zero=>rw[q]at h;cases h;exact .inr ⟨by lia,rfl⟩
   |succ k=>rw[q]at h;cases h
 have fz:∀z∈eS y,H0 z=none:=fun z hz=>by
  cases q:H0 z with
  |none=>rfl
  |some o=>
   by_cases w:z=b
   ·subst w;obtain⟨_,_,_,e1,_⟩:=p.bx;rw[f z hz]at e1;cases e1
   ·have:=p.s z o (zf w) q;rw[f z hz]at this;cases this
 refine⟨pa.s,pa.bx,p.b0,fun j w hj=>?_,fun j k w u hjk hj hk=>?_,fun j w hj=>?_⟩
 ·rcases key hj with hj|⟨_,rfl⟩
  ·exact pa.en j w hj
  ·exact e
 ·rcases key hj with hj'|⟨ej,rfl⟩
  ·rcases key hk with hk'|⟨_,rfl⟩
   ·exact p.dj j k w u hjk hj' hk'
   ·exact fun z hz v=>(p.en j w hj').some hz (f z v)
  ·rcases key hk with hk'|⟨ek,rfl⟩
   ·exact fun z hz v=>(p.en k u hk').some v (f z hz)
   ·lia
 ·rcases key hj with hj'|⟨_,rfl⟩
  ·exact p.fr j w hj'
  ·exact fz
theorem Pq.pw(p:Pq K C H0 H b c xs)(hpl:H pl=none):Pw K C H0 (F2 H pl (.lst (xs.map fun x=> .ref x.1.e))) b c pl xs:=by
 have u:=FV.upd (o:= .lst (xs.map fun x=>V.ref x.1.e)) hpl
 have q:=p.same u;have nb:pl≠b:=fun z=>by obtain⟨_,_,_,e,_⟩:=p.bx;rw[z,e]at hpl;cases hpl
 refine⟨q.s,q.bx,q.b0,q.en,q.dj,q.fr,qb,fun i x hi z=>?_,?_⟩
 ·exact(p.en i x hi).some z hpl
 ·cases e:H0 pl with
  |none=>rfl
  |some o=>have:=p.s pl o (zf nb) e;rw[hpl]at this;cases this
end
theorem eV{D:Dr}{nm:Str}{a l:Int}(h:D.kn=[]):Qt nm D (some (a,l))={D with kn:=[(nm,⟨a,l,none⟩)]}:=by
 show({D with kn:=zb D.kn nm ⟨a,l,none⟩}:Dr)=_
 rw[h];rfl
end L3
namespace L3
open PySem PySem.Spec PyProof.Rows L2 PyProof
section
variable{X:Cx}
theorem jw(hc:X.calm=true):ze X (.builtin "min") (fun xs H Q=>∃(p:Δ) (ns:List Int),xs=[.ref p]/\H p=some (.lst (ns.map V.int))/\0<ns.length/\∀M,M∈ns->(∀a∈ns,M<=a)->Q (.int M) H):=by
 intro tx s σ H xs us Q I r h;obtain⟨p,ns,rfl,hH,hne,q⟩:=h;obtain⟨u,rfl,ru⟩:=zN r;cases ru;obtain⟨z,its,n,rv,hl,e⟩:=I.lstM hH;have hi:IntsAre its ns:=bM rv
 obtain⟨ys,ey⟩:=hi.allInts.items;have hns:ns=ys.toList.map (·.1):=by rw[<- hi.numsOf,<- nums_intItems,<- ey]
 have hsz:0<ys.size:=by
  have h3:=hne;rw[hns,Je,Jn]at h3;exact h3
 have hL:s.heap.IsList p (intItems ys):=by
  rw[<- ey]
  exact⟨_,e,rfl,⟨n,rfl⟩⟩
 refine min_intList (I.ok.hd hc) hL hsz fun v h' tk hv hk=>?_
 obtain⟨t,rfl⟩:=intItems_at hv;obtain⟨h1,h2⟩:=argBest_lt (numAt ys) (ys.size-1)
 refine⟨.int (numAt ys (argBest (fun i j=>decide (numAt ys i<numAt ys j)) (ys.size-1))),H,I.kept (t':=tk) hk,⟨_,rfl⟩,q _ ?_ fun a ha=>?_⟩
 ·rw[hns,numAt_eq];exact PySem.getD_mem (by rw[Je,Jn];lia)
 ·rw[hns]at ha
  obtain⟨j,hj,rfl⟩:=mem_getD ha;rw[Je,Jn]at hj;rw[<- numAt_eq];exact h2 j (by lia)
end
section
variable{K:ι}{C:Δ}{H0 H H':Hp}{b:Δ}{c:Nat}{pl:Δ}{x y:En}{D D':Dr}{L L':List Rw}
theorem Pw.step2(p:Pw K C H0 H b c pl [x,y])(m:Mv (eS x.1++eS y.1) H H')(e:GX K C H' x.1 D L D)(e':GX K C H' y.1 D' L' D'):Pw K C H0 H' b c pl [(x.1,D,L),(y.1,D',L')]:=by
 have same:∀{j:Nat} {w:En},[(x.1,D,L),(y.1,D',L')][j]? =some w->∃u,[x,y][j]? =some u/\u.1=w.1/\(w=(x.1,D,L)\/w=(y.1,D',L')):=fun{j w} h=>by
  match j,h with
  |0,h=>cases h;exact⟨x,rfl,rfl,.inl rfl⟩
  |1,h=>cases h;exact⟨y,rfl,rfl,.inr rfl⟩
  |j+2,h=>cases h
 refine⟨fun a o ha e=>m a o (fun z=>?_) (p.s a o ha e),p.bx.mv m (fun z=>?_),p.b0,fun j w hj=>?_,fun j k w u hjk hj hk=>?_,fun j w hj=>?_,m _ _ (fun z=>?_) p.pe,fun j w hj=>?_,p.fp⟩
 ·rcases JC.mp z with z|z
  ·rw[p.fr 0 x rfl a z]at e;cases e
  ·rw[p.fr 1 y rfl a z]at e;cases e
 ·rcases JC.mp z with z|z
  ·exact p.nb (i:=0) rfl z
  ·exact p.nb (i:=1) rfl z
 ·obtain⟨_,_,_,rfl|rfl⟩:=same hj
  ·exact e
  ·exact e'
 ·obtain⟨w',hw,ew,_⟩:=same hj
  obtain⟨u',hu,eu,_⟩:=same hk;rw[<- ew,<- eu];exact p.dj j k w' u' hjk hw hu
 ·obtain⟨w',hw,ew,_⟩:=same hj
  rw[<- ew];exact p.fr j w' hw
 ·rcases JC.mp z with z|z
  ·exact p.np 0 x rfl z
  ·exact p.np 1 y rfl z
 ·obtain⟨w',hw,ew,_⟩:=same hj
  rw[<- ew];exact p.np j w' hw
end
structure HK(t:List Int)(kss:List (List Int))(D:Dr):Prop where
 hr:Iu t kss D
 td:G1 D
 n:D.near<=13
section
variable{t:List Int}{kss:List (List Int)}{D D':Dr}{nm:Str}{a c:Int}
theorem HK.xs(h:HK t kss D)(h':HK t kss D'):IL D D':=IL.narrow h.n h'.n
theorem HK.hear(h:HK t kss D)(c0:0<=c)(c1:c<4096):HK t kss {D with kn:=F8 D nm a c}:=⟨⟨h.hr.ok.hearK nm a c,h.hr.t,h.hr.ks,h.hr.f0⟩,h.td.hear c0 c1,h.n⟩
theorem C4{n f m l:Int}{kn:Kw}(tp:t.Perm Gx)(k3:kss.length=3)(n2:2<=n)(n5:n<=5)(nf:n<=f)(f60:f<=60)(l0:0<=l)(l2:l<=2)(nd:(kn.map (·.1)).Nodup)(len:kn.length<=2)(kl:∀e∈kn,0<=e.2.age/\e.2.age<3/\1<=e.2.last/\e.2.last<4096/\e.2.wt=none):HK t kss ⟨t,kss,n,f,m,l,kn⟩:=by
 have ok:GZ ⟨t,kss,n,f,m,l,kn⟩:=⟨tp,l0,by show kss.length<=8;lia,by show kn.length<=60;lia,nd⟩
 refine⟨⟨ok,rfl,rfl,nf⟩,⟨ok,⟨by show 1<=n;lia,by show n<=64;lia,nf,by show f<=1024;lia,l0,by show l<(kss.length:Int);lia⟩,fun z=>?_,by show kn.length<=30;lia⟩,by show n<=13;lia⟩
 show Zb _ (kn.lookup z)
 cases e:kn.lookup z with
 |none=>exact trivial
 |some b=>
  obtain⟨q1,q2,q3,q4,q5⟩:=kl _ (zC e)
  exact⟨q1,by show b.age<(kss.length:Int);simp only at q2;lia,q3,q4,fun x y z=>by rw[show b.wt=none from q5]at z;cases z⟩
def Ck(last n f f':Int):Prop:=qU (last+f)=qU (last+f')\/(qU (last+f)<=last+n+1/\qU (last+f')<=last+n+1)
theorem lE{n f f' m m' l l' last:Int}{kn kn':Kw}(l0:0<=l)(l1:l<=1)(l0':0<=l')(l1':l'<=1)(fc:Ck last n f f')(h:kn.lookup nm=some ⟨1,last,none⟩)(h':kn'.lookup nm=some ⟨1,last,none⟩)(ho:∀z,z≠nm->ae (kn.lookup z))(ho':∀z,z≠nm->ae (kn'.lookup z)):HV ⟨t,kss,n,f,m,l,kn⟩ ⟨t,kss,n,f',m',l',kn'⟩:=by
 refine⟨rfl,fun z=>?_⟩
 show Ik _ (kn.lookup z) _ (kn'.lookup z)
 by_cases hz:z=nm
 case neg=>exact .inl ⟨ho z hz,ho' z hz⟩
 rw[hz,h,h']
 by_cases h1:last+1<4096
 case neg=>exact .inl ⟨h1,h1⟩
 have e1:qy 1 l=1:=by unfold qy;split<;>lia
 have e2:qy 1 l'=1:=by unfold qy;split<;>lia
 refine .inr ⟨_,_,rfl,rfl,⟨h1,rfl,by show qy 1 l'=qy 1 l;rw[e1,e2],rfl,rfl⟩,fun _ _ _=>rfl,?_⟩
 rcases fc with fc|⟨f1,f2⟩
 ·exact .inl fc
 ·exact .inr ⟨fun _ _ _=>rfl,f1,f2⟩
theorem Qy{e:Kb}{z:Str}(h:z≠nm):ae (List.lookup z [(nm,e)]):=by
 have:List.lookup z [(nm,e)]=none:=by
  cases q:List.lookup z [(nm,e)]with
  |none=>rfl
  |some b=>have:=zC q;rw[Jj]at this;injection this with this;exact absurd this h
 rw[this];exact trivial
theorem kW{e e2:Kb}{z nm2:Str}(h:z≠nm)(h2:¬e2.last+1<4096):ae (List.lookup z [(nm,e),(nm2,e2)]):=by
 cases q:List.lookup z [(nm,e),(nm2,e2)]with
 |none=>exact trivial
 |some b=>
  have:=zC q
  simp only[Jl,Jx,JA,Prod.mk.injEq]at this;rcases this with⟨z1,_⟩|⟨_,rfl⟩
  ·exact absurd z1 h
  ·exact h2
end
theorem yY{nm nm2:Str}{e e2:Kb}(h:nm2≠nm):zb [(nm,e)] nm2 e2=[(nm,e),(nm2,e2)]:=by
 unfold zb;rw[Jb (by simpa using h)]
 rfl
theorem eY:QQ "ab":=⟨by decide +kernel,by decide +kernel,by decide +kernel⟩
theorem AN:QQ "a":=⟨by decide +kernel,by decide +kernel,by decide +kernel⟩
theorem B3:("a":Str)≠"ab":=by decide +kernel
theorem HP.two{f:Nat->Dr->Dr}{k:Nat}{x y:En}{xs':List En}(h:HP f k [x,y] xs'):∃L L',xs'=[(x.1,f 0 x.2.1,L),(y.1,f 1 y.2.1,L')]/\L.length<=x.2.2.length+k/\L'.length<=y.2.2.length+k:=by
 obtain⟨u,v,rfl⟩:=mM h.1;obtain⟨L,e,l⟩:=h.2 0 x rfl;obtain⟨L',e',l'⟩:=h.2 1 y rfl;cases e;cases e'
 exact⟨L,L',rfl,l,l'⟩
def kL(K:ι)(C:Δ):Sp:=fun vs H Q _=>∃(b:Δ) (c:Nat) (way last:Int),vs=[.ref b,.int way,.int last]/\GS H b c/\c<1000000/\0<=way/\way<10/\10<=last/\last<=4095/\(way%5=2->4060<=last)/\
 ∀q cd tb kt pl t kss x y H',Pw K C H H' b (c+100) pl [x,y]->H' q=some (.tup [.ref cd,.ref pl])->GL H' cd tb kt t kss->kss.length=3->HK t kss x.2.1->HK t kss y.2.1->x.2.2.length<=10->y.2.2.length<=10->x.2.1.kss.length=y.2.1.kss.length->(way≠4->way≠9->HV x.2.1 y.2.1)->Q (.ref q) H'
end L3
namespace Lw
open PySem L2 L3
section
variable{P:Ξ}{w:Ω}{K:ι}{mg:FT}{base:Ψ}{tk:Nat->Tok}{C:Δ}
theorem nn(a:At K mg "_law_made" bW ["_law_box_here","_law_way","_law_last"])(T:GA K mg tk)(U:GW K C)(xV:Mi P w K mg base C "Door" ["self","table","keys","near","far","most"] 1 (fO K C))(dO:Mf P w K mg base C "close_below" ["self","age"] 1 (mI K C))(dA:Df P w K mg base "_law_take" ["_law_box_here","_law_many"] 1 ai)(dY:Df P w K mg base "_law_table" ["_law_box_here"] 2 fQ)(xF:Df P w K mg base "_law_key" ["_law_box_here"] 2 ia)(dU:Df P w K mg base "_law_model" ["_law_near","_law_far","_law_keys"] 1 ib)(xK:Df P w K mg base "_law_learnt" ["_law_code","_law_pair_here","_law_name","_law_told"] 8 (cU K C))(dW:Df P w K mg base "_law_heard" ["_law_code","_law_pair_here","_law_plain","_law_places"] 7 (fX K C)):Df P w K mg base "_law_made" ["_law_box_here","_law_way","_law_last"] 9 (kL K C):=by
 refine a.dq Gn fun f _ A _ s H vs Q E hr h=>?_
 ·obtain⟨b,c,way,last,rfl,hb,hc,w0,w9,la0,la1,l60,q⟩:=h
  refine⟨_,(qd (qA (i:=3) Gn.nd rfl (Or.inl rfl) (qu (qc (qo dY hr.mo (qc (qv 0) qa)) (qc (qI qX T.b_tuple JN (qc (zW (own:=["_law_k"]) (fr:=["_law_box_here"]) (js:=[0]) rfl (zK rfl T.b_range (qc qe qa)) rfl (kE rfl) rfl (lq rfl (by decide +kernel) (by decide +kernel) (by decide +kernel) rfl rfl rfl) (fun _ _ _ _=>qg (i:=0) (show List.Nodup (["_law_k","_law_box_here"]:List Str)from by decide +kernel) rfl (Or.inl rfl) (.inr rfl)) (fun _ _ _ _=>(Q4 bE (qo xF hr.mo (qc (qv 1) qa)) ZM (ZC qe)))) qa)) qa))))
   (qd (qA (i:=4) Gn.nd rfl (Or.inl rfl) (ql qC qe (qo dA hr.mo (qc (qv 0) (qc qe qa)))))
   (qd (qA (i:=5) Gn.nd rfl (Or.inl rfl) (qw qF (zc (qc (zc (qc (qv 4) (qc (ql qC (qv 4) qe) qa))) (qc (zc (qc (ql qC (qv 4) qe) (qc (qv 4) qa))) (qc (zc (qc qe (qc qe qa))) (qc (zc (qc (ql qC (qv 4) qe) (qc (ql qC (qv 4) qe) qa))) (qc (zc (qc (ql qC (qv 4) qe) (qc (ql qC (qv 4) qe) qa))) qa)))))) (ql zR (qv 1) qe)))
   (qd (qA (i:=6) Gn.nd rfl (Or.inl rfl) (zc qa))
   (qd (zz J0 rfl (zK rfl T.b_range (qc qe qa)) (qg (i:=7) Gn.nd rfl (Or.inl rfl))
   (qf (zr (aa Et EF EG Qm (qv 6) (qc (qu (qc (oI xV hr.mo (qc (qw qK (qv 3) qe) (qc (qw qK (qv 3) qe) (qc (qv 4) (qc (qw qF (qv 5) (qv 7)) (qc (ql qC qe (qv 7)) qa)))))) (qc (qo dU hr.mo (qc (qv 4) (qc (qw qF (qv 5) (qv 7)) (qc qe qa)))) qa))) qa)))))
   (qd (zr (qo xK hr.mo (qc (qv 3) (qc (qv 6) (qc qz (qc (zc (qc (qu (qc qe (qc (qv 2) qa))) (qc (qu (qc qe (qc (qv 2) qa))) qa))) qa))))))
   (qd (qA (i:=7) Gn.nd rfl (Or.inl rfl) (qo dA hr.mo (qc (qv 0) (qc qe qa))))
   (qd (qE (qx zx (qv 1) qe (qr _)) (qf (zr (qo xK hr.mo (qc (qv 3) (qc (qv 6) (qc qz (qc (qw qF (zc (qc (zc (qc (qu (qc qe (qc qe qa))) (qc qM qa))) (qc (zc (qc qM (qc (qu (qc qe (qc qe qa))) qa))) qa))) (qv 7)) qa))))))) qt)
   (qd (qE (qx zx (qv 1) qe (qr _)) (qd (zr (qZ dO U.cl hr.mo (qw qK (qw qF (qv 6) (qv 7)) qe) (qc qe qa)))
   (qf (Q8 hr (qw qK (qw qF (qv 6) (qv 7)) qe) qz qe))) qt)
   (qd (qE (qx zx (qv 1) qe (qr _)) (qd (zr (qZ dO U.cl hr.mo (qw qK (qw qF (qv 6) (qv 7)) qe) (qc qe qa)))
   (qf (Q8 hr (qw qK (qw qF (qv 6) (qv 7)) qe) qz qe))) qt)
   (qd (qE (qx zx (qv 1) qe (qr _)) (qf (zr (qo dW hr.mo (qc (qv 3) (qc (qv 6) (qc (qu (qc qz (qc qe (qc (qp (Zd rfl) T.b_min PyProof.Rows.boot_min (qc qe (qc (ql qC (ql qC (qv 2) (qv 4)) qe) qa))) qa)))) (qc (qu (qc qe (qc qe qa))) qa))))))) qt)
   (qf (qk (qu (qc (qv 3) (qc (qv 6) qa)))))))))))))))),?_⟩
  refine⟨_,rfl,b,c,rfl,hb,by lia,fun tb t H1 g1 ftb etb tp=>?_⟩
  have ntb:tb≠b:=fun z=>by obtain⟨_,_,_,e,_⟩:=hb;rw[z,e]at ftb;cases ftb
  refine⟨_,rfl,by decide,by decide,?_⟩
  refine Z8 (n:=3) (by decide) (fun i ys Hx=>HI b (c+16+9*i) H Hx/\Hx tb=some (.tup (t.map V.int))/\∃(as:List Δ) (kss:List (List Int)),ys=as.map V.ref/\as.length=i/\kss.length=i/\∀(j:Nat) (x:Δ) (z:List Int),as[j]? =some x->kss[j]? =some z->Hx x=some (.tup (z.map V.int))) ⟨g1,etb,[],[],rfl,rfl,rfl,fun j x z e=>by cases e⟩ ?_ ?_
  ·rintro i ys Hx hi hyl ⟨G,et,as,kss,rfl,lA,lK,hks⟩
   refine⟨_,rfl,b,c+16+9*i,rfl,G.bx,by lia,fun p ks H2 g2 fp ep dk l1 l8=>⟨_,rfl,p,_,rfl,ep,fun y H3 s3 hy _=>?_⟩⟩
   rw[aE]at hy;have kp:∀{x:Δ} {xs:List V},Hx x=some (.tup xs)->H3 x=some (.tup xs):=fun{x xs} e=>s3 _ _ (g2.kp _ _ (fun z=>by obtain⟨_,_,_,eb,_⟩:=G.bx;rw[z,eb]at e;cases e) e)
   refine⟨((G.trans g2).same s3).mono (by lia),kp et,as++[y],kss++[Z3 ks none (some 2)],by simp,by simp [lA],by simp [lK],fun j x z e1 e2=>?_⟩
   by_cases hj:j<as.length
   ·rw[J5 hj]at e1
    rw[J5 (by lia)]at e2
    exact kp (hks j x z e1 e2)
   ·rw[JY (by lia)]at e1
    rw[JY (by lia)]at e2
    cases ej:j-as.length with
    |zero=>rw[ej]at e1;rw[show j-kss.length=0 by lia]at e2;cases e1;cases e2;exact hy
    |succ k=>rw[ej]at e1;cases e1
  rintro ys Hx hyl ⟨G,et,as,kss,rfl,lA,lK,hks⟩ l0 hl0
  refine⟨l0,_,rfl,.inl ⟨F6.of qb,fun kt hkt=>⟨FN,fun cd hcd=>?_⟩⟩⟩
  have u1:=FV.upd (o:= .lst (as.map V.ref)) hl0
  have u2:=FV.upd (o:= .tup (as.map V.ref)) hkt
  have u3:=FV.upd (o:= .tup [.ref tb,.ref kt]) hcd
  have S3:=(u1.trans u2).trans u3;have lAK:as.length=kss.length:=by rw[lA,lK]
  have hC:GL (F2 (F2 (F2 Hx l0 (.lst (as.map V.ref))) kt (.tup (as.map V.ref))) cd (.tup [.ref tb,.ref kt])) cd tb kt t kss:=⟨qb,.inl (S3 _ _ et),as,.inl (.inl (u3 _ _ qb)),lAK,fun j x z e1 e2=> .inl (.inl (S3 _ _ (hks j x z e1 e2)))⟩
  have G3:=G.same S3;generalize F2 (F2 (F2 Hx l0 (.lst (as.map V.ref))) kt (.tup (as.map V.ref))) cd (.tup [.ref tb,.ref kt])=H3 at *
  clear hks et u1 u2 u3 hl0 hkt hcd S3;have k3:kss.length=3:=lK
  refine⟨_,rfl,b,4,_,rfl,G3.bx,by lia,by decide,by decide,fun r1 Hn r10 r11 gn=>⟨_,_,rfl,rfl,?_⟩⟩
  have G3':=G3.trans gn;have hCn:=hC.mv (S:=[b]) (fun c o h e=>gn.kp c o (fun z=>h (Jj.mpr z)) e) (zV G3.bx)
  refine(show∀n:Int,n=2+r1->Zk 4 (.int n) _ _ _ from fun n en=>?_) _ rfl
  have n2:2<=n/\n<=5:=by lia
  clear gn G3 hC;refine⟨_,rfl,_,rfl,_,_,rfl,rfl,FN,fun q0 hq0=>?_⟩
  have v0:=FV.upd (o:= .lst [.int n,.int (n+1)]) hq0
  refine⟨_,rfl,_,_,rfl,rfl,_,rfl,FN,fun q1 hq1=>?_⟩
  have v1:=FV.upd (o:= .lst [.int (n+1),.int n]) hq1
  refine⟨FN,fun q2 hq2=>?_⟩
  have v2:=FV.upd (o:= .lst [.int 40,.int 60]) hq2
  refine⟨_,rfl,_,_,rfl,rfl,_,rfl,_,_,rfl,rfl,FN,fun q3 hq3=>?_⟩
  have v3:=FV.upd (o:= .lst [.int (n+9),.int (n+9)]) hq3
  refine⟨_,rfl,_,_,rfl,rfl,_,rfl,_,_,rfl,rfl,FN,fun q4 hq4=>?_⟩
  have v4:=FV.upd (o:= .lst [.int (n+4),.int (n+5)]) hq4
  refine⟨FQ,fun q5 hq5=>?_⟩
  have v5:=FV.upd (o:= .lst [.ref q0,.ref q1,.ref q2,.ref q3,.ref q4]) hq5
  have V5:=((((v0.trans v1).trans v2).trans v3).trans v4).trans v5;obtain⟨fl,f0,f1,hat,hfl,b0,b1,b2,b3,fc⟩:∃(fl:Δ) (f0 f1:Int),Ql [V.ref q0,.ref q1,.ref q2,.ref q3,.ref q4] (way%5)=some (.ref fl)/\(F2 (F2 (F2 (F2 (F2 (F2 Hn q0 (.lst [.int n,.int (n+1)])) q1 (.lst [.int (n+1),.int n])) q2 (.lst [.int 40,.int 60])) q3 (.lst [.int (n+9),.int (n+9)])) q4 (.lst [.int (n+4),.int (n+5)])) q5 (.lst [.ref q0,.ref q1,.ref q2,.ref q3,.ref q4])) fl=some (.lst [.int f0,.int f1])/\n<=f0/\f0<=60/\n<=f1/\f1<=60/\(way≠4->way≠9->Ck last n f0 f1):=by
   have near:∀f:Int,f<=n+1->qU (last+f)<=last+n+1:=fun f h=>by have:=(bC (last+f)).1;lia
   have hw:way%5=0\/way%5=1\/way%5=2\/way%5=3\/way%5=4:=by lia
   rcases hw with z|z|z|z|z
   ·exact⟨q0,n,n+1,by rw[z];rfl,v5 _ _ (v4 _ _ (v3 _ _ (v2 _ _ (v1 _ _ qb)))),by lia,by lia,by lia,by lia,fun _ _=> .inr ⟨near _ (by lia),near _ (by lia)⟩⟩
   ·exact⟨q1,n+1,n,by rw[z];rfl,v5 _ _ (v4 _ _ (v3 _ _ (v2 _ _ qb))),by lia,by lia,by lia,by lia,fun _ _=> .inr ⟨near _ (by lia),near _ (by lia)⟩⟩
   ·have:=l60 z
    exact⟨q2,40,60,by rw[z];rfl,v5 _ _ (v4 _ _ (v3 _ _ qb)),by lia,by lia,by lia,by lia,fun _ _=> .inl (by unfold qU;rw[Jc (by lia),Jc (by lia)])⟩
   ·exact⟨q3,n+9,n+9,by rw[z];rfl,v5 _ _ (v4 _ _ qb),by lia,by lia,by lia,by lia,fun _ _=> .inl rfl⟩
   ·exact⟨q4,n+4,n+5,by rw[z];rfl,v5 _ _ qb,by lia,by lia,by lia,by lia,fun z1 z2=>by lia⟩
  refine⟨_,rfl,_,_,rfl,rfl,(by decide:(0:Int)<5),q5,_,_,_,rfl,rfl,F6.of qb,hat,?_⟩
  have G5:=G3'.same V5;have hC5:=hCn.same V5;generalize F2 (F2 (F2 (F2 (F2 (F2 Hn q0 (.lst [.int n,.int (n+1)])) q1 (.lst [.int (n+1),.int n])) q2 (.lst [.int 40,.int 60])) q3 (.lst [.int (n+9),.int (n+9)])) q4 (.lst [.int (n+4),.int (n+5)])) q5 (.lst [.ref q0,.ref q1,.ref q2,.ref q3,.ref q4])=H5 at *
  clear v0 v1 v2 v3 v4 v5 V5 hq0 hq1 hq2 hq3 hq4 hq5 hat G3' hCn;refine⟨FL,fun pl hpl=>?_⟩
  have u4:=FV.upd (o:= .lst []) hpl
  have G4:=G5.same u4;have hC4:=hC5.same u4;have hfl4:=u4 _ _ hfl;have b0':H b≠none:=fun z=>by obtain⟨_,_,_,e,_⟩:=hb;rw[z]at e;cases e
  have pw0:Pw K C H (F2 H5 pl (.lst [])) b (c+44) pl []:=⟨fun c o h e=>G4.kp c o (fun z=>h (Jj.mpr z)) e,G4.bx.mono (by lia),b0',(fun i x h=>by cases h),(fun i j x y _ h=>by cases h),(fun i x h=>by cases h),qb,(fun i x h=>by cases h),G5.fresh (hb.mono (by lia)) hpl⟩
  have nfl:fl≠pl:=fun z=>by rw[z,hpl]at hfl;cases hfl
  generalize F2 H5 pl (.lst [])=H4 at *
  clear G4 u4 hpl G5 hC5 hfl;obtain⟨ff,eff⟩:∃ff:Nat->Int,ff=fun i=>if i=0 then f0 else f1:=⟨_,rfl⟩
  have ffb:∀i,n<=ff i/\ff i<=60:=fun i=>by rw[eff];simp only;split<;>lia
  refine Za (fun σ' H'=>∃xs o7,Pw K C H H' b (c+44) pl xs/\xs.length=2/\(∀(i:Nat) (x:En),xs[i]? =some x->x.2.1=⟨t,kss,n,ff i,3+(i:Int),0,[]⟩/\x.2.2=[])/\GL H' cd tb kt t kss/\σ'=[some (.ref b),some (.int way),some (.int last),some (.ref cd),some (.int n),some (.ref fl),some (.ref pl),o7]) (fun D' hrt hnx=>?_) ?_
  ·refine⟨_,rfl,by decide,by decide,?_⟩
   refine Qn (n:=2) (Pv:=fun j σ Hy=>∃xs,Pw K C H Hy b (c+44) pl xs/\xs.length=j/\(∀(i:Nat) (x:En),xs[i]? =some x->x.2.1=⟨t,kss,n,ff i,3+(i:Int),0,[]⟩/\x.2.2=[])/\GL Hy cd tb kt t kss/\Hy fl=some (.lst [.int f0,.int f1])/\∃o7,σ=[some (.ref b),some (.int way),some (.int last),some (.ref cd),some (.int n),some (.ref fl),some (.ref pl),o7]) ⟨[],pw0,rfl,(fun i x h=>by cases h),hC4,hfl4,_,rfl⟩ ?_ ?_
   ·rintro j σ Hy hj ⟨xs,pw,lx,hxs,hCy,hfy,o7,rfl⟩
    have j2:j<2:=hj
    have atf:Ql [V.int f0,.int f1] (0+(j:Int))=some (.int (ff j)):=by
     rw[eff]
     match j,j2 with
     |0,_=>rfl
     |1,_=>rfl
    refine⟨_,rfl,.inl ⟨rfl,_,F6.of pw.pe⟩,?_⟩
    refine⟨_,rfl,cd,_,_,_,rfl,rfl,F7.of hCy.e,rfl,_,rfl,cd,_,_,_,rfl,rfl,F7.of hCy.e,rfl,_,rfl,_,rfl,_,rfl,fl,_,_,_,rfl,rfl,F6.of hfy,atf,_,rfl,_,_,rfl,rfl,fun x dx nx ndx nex=>?_⟩
    have sJ:FV Hy (F2 (F2 Hy dx (.own x)) x (.ins C dx [])):=(FV.upd ndx).trans (FV.upd (by rw[qi nex.symm];exact nx))
    obtain⟨D,eD⟩:∃D:Dr,D=⟨t,kss,n,ff j,3+(0+(j:Int)),0,[]⟩:=⟨_,rfl⟩
    refine⟨x,tb,kt,dx,n,ff j,3+(0+(j:Int)),t,kss,rfl,qb,.inr (.inl (Rd.same sJ hCy.tb)),hCy.ks.same sJ,by lia,fun ta hk bd' lg Hi h1 h2 h3 mv dr' kr=>⟨rfl,?_⟩⟩
    have sK:FV Hy Hi:=fun c o e=>mv c o (zf (qj e nx)) (sJ c o e)
    have dl:GI K C Hi ⟨x,ta,hk,bd',lg⟩ D []:=by rw[eD];exact FX.dl dr' kr
    have fz:∀z∈dS ⟨x,ta,hk,bd',lg⟩,Hy z=none:=fun z hz=>by
     rcases sL hz with rfl|rfl|rfl|rfl
     ·exact nx
     ·exact Zw h1 sJ
     ·exact Zw h2 sJ
     ·exact Zw h3 sJ
    refine⟨_,rfl,_,rfl,_,rfl,fl,_,_,_,rfl,rfl,F6.of (sK _ _ hfy),atf,D,by rw[eD];show _=[V.int n,V.int (ff j),V.int (kss.length:Int)];rw[k3];rfl,by rw[eD],by rw[eD],fun m kd H6 s6 fm fkd md=>⟨FN,fun e he=>?_⟩⟩
    have u7:=FV.upd (o:= .tup [.ref x,.ref m]) he
    have S7:=(sK.trans s6).trans u7;obtain⟨g0,ebd,_⟩:=id dl.dr.kb;have ent:GX K C (F2 H6 e (.tup [.ref x,.ref m])) ⟨e,⟨x,ta,hk,bd',lg⟩,m,kd⟩ D [] D:=⟨qb,(dl.same s6).same u7,md.same u7,(qj ebd fm).symm,(qj ebd fkd).symm⟩
    have fe:∀z∈eS ⟨e,⟨x,ta,hk,bd',lg⟩,m,kd⟩,Hy z=none:=fun z hz=>by
     rcases km hz with hz|rfl|rfl
     ·exact fz z hz
     ·exact Zw fm sK
     ·exact Zw fkd sK
    refine⟨pl,_,_,rfl,rfl,S7 _ _ pw.pe,by rw[Je,lx,JK];lia,?_⟩
    have mp:Mv [pl] (F2 H6 e (.tup [.ref x,.ref m])) (F2 (F2 H6 e (.tup [.ref x,.ref m])) pl (.lst ((xs.map fun x=>V.ref x.1.e)++[.ref e]))):=Mv.upd1
    have np:NT [pl] (F2 H6 e (.tup [.ref x,.ref m])):=NT.one (S7 _ _ pw.pe) trivial
    refine⟨xs++[(⟨e,⟨x,ta,hk,bd',lg⟩,m,kd⟩,D,[])],pw.add S7 ent fe,by simp [lx],fun i y hy=>?_,(hCy.same S7).mv mp np,mp _ _ (zf nfl) (S7 _ _ hfy),_,rfl⟩
    by_cases hi:i<xs.length
    ·rw[J5 hi]at hy;exact hxs i y hy
    ·rw[JY (by lia)]at hy
     cases ei:i-xs.length with
     |succ k=>rw[ei]at hy;cases hy
     |zero=>
      rw[ei]at hy;cases hy
      obtain rfl:i=j:=by lia
      rw[eD]
      exact⟨by show Dr.mk t kss n (ff i) (3+(0+(i:Int))) 0 []=_;rw[Int.zero_add],rfl⟩
   ·rintro σ Hy ⟨xs,pw,lx,hxs,hCy,_,o7,rfl⟩
    exact hnx _ _ ⟨xs,_,pw,lx,hxs,hCy,rfl⟩
  clear pw0 hC4 hfl4
  rintro σ Hy ⟨xs,o7,pw,lx2,hxs,hCy,rfl⟩
  obtain⟨x0,x1,rfl⟩:=mM lx2;obtain⟨d0,L0⟩:=hxs 0 x0 rfl;obtain⟨d1,L1⟩:=hxs 1 x1 rfl;have ef0:ff 0=f0:=by rw[eff];rfl
  have ef1:ff 1=f1:=by rw[eff];rfl
  rw[ef0]at d0;rw[ef1]at d1;refine⟨_,rfl,_,rfl,_,rfl,FN,fun t1 ht1=>⟨_,rfl,FN,fun t2 ht2=>⟨FN,fun tl htl=>?_⟩⟩⟩
  have v1:=FV.upd (o:= .tup [.int 1,.int last]) ht1
  have v2:=FV.upd (o:= .tup [.int 1,.int last]) ht2
  have v3:=FV.upd (o:= .lst [.ref t1,.ref t2]) htl
  have V3:=(v1.trans v2).trans v3;have ol:Hm (F2 (F2 (F2 Hy t1 (.tup [.int 1,.int last])) t2 (.tup [.int 1,.int last])) tl (.lst [.ref t1,.ref t2])) tl [some (1,last),some (1,last)]:=Hm.two qb ⟨t1,rfl,v3 _ _ (v2 _ _ qb)⟩ ⟨t2,rfl,v3 _ _ qb⟩
  have pwV:=pw.same V3;have hCV:=hCy.same V3;have pw12:=pw.same (v1.trans v2);have ntl:∀(i:Nat) (x:En),[x0,x1][i]? =some x->tl∉eS x.1:=fun i x hx z=>(pw12.en i x hx).some z htl
  generalize F2 (F2 (F2 Hy t1 (.tup [.int 1,.int last])) t2 (.tup [.int 1,.int last])) tl (.lst [.ref t1,.ref t2])=H6 at *
  clear v1 v2 v3 V3 ht1 ht2 htl pw12 pw hCy;have lr:∀(i:Nat) (x:En),[x0,x1][i]? =some x->Iq t kss x.2.1/\x.2.1.kn=[]/\x.2.1.least=0/\x.2.2.length=0:=fun i x hx=>by
   obtain⟨q1,q2⟩:=hxs i x hx;rw[q1,q2]
   exact⟨⟨⟨tp,Jr _,by show kss.length<=8;lia,Jz _,Er⟩,rfl,rfl,by show(0:Int)<3+(i:Int);lia⟩,rfl,rfl,rfl⟩
  refine⟨cd,tb,kt,pl,tl,b,_,H,t,kss,[x0,x1],"ab",[some (1,last),some (1,last)],rfl,pwV,rfl,hCV,eY,ol,rfl,ntl,fun i x hx=>?_,fun a l hm=>?_,fun He xs' pwe hCe st tps=>?_⟩
  ·obtain⟨q1,q2,q3,q4⟩:=lr i x hx
   refine⟨q1,fun a l e=>?_,by rw[q2];rfl,by rw[q2];exact Jz _,by lia⟩
   rw[q3]
   match i,e with
   |0,e=>cases e;decide
   |1,e=>cases e;decide
   |i+2,e=>cases e
  ·simp only[Jl,Jx,JA,or_self,Option.some.injEq,Prod.mk.injEq]at hm
   obtain⟨rfl,rfl⟩:=hm;refine⟨by decide,?_,?_,?_⟩<;>lia
  obtain⟨M0,M1,rfl,l0',l1'⟩:=st.two;rw[L0]at l0';rw[L1]at l1';have l0':M0.length<=2:=l0'
  have l1':M1.length<=2:=l1'
  have pwe:Pw K C H He b (c+44) pl [(x0.1,⟨t,kss,n,f0,3,0,[("ab",⟨1,last,none⟩)]⟩,M0),(x1.1,⟨t,kss,n,f1,4,0,[("ab",⟨1,last,none⟩)]⟩,M1)]:=by
   have e0:Qt "ab" x0.2.1 (some (1,last))=⟨t,kss,n,f0,3,0,[("ab",⟨1,last,none⟩)]⟩:=by rw[eV (by rw[d0]),d0];rfl
   have e1:Qt "ab" x1.2.1 (some (1,last))=⟨t,kss,n,f1,4,0,[("ab",⟨1,last,none⟩)]⟩:=by rw[eV (by rw[d1]),d1];rfl
   rw[<- e0,<- e1];exact pwe
  obtain⟨y0,ey0⟩:∃y:Em,y=x0.1:=⟨_,rfl⟩
  obtain⟨y1,ey1⟩:∃y:Em,y=x1.1:=⟨_,rfl⟩
  rw[<- ey0,<- ey1]at pwe;clear st tps lr ol ntl pwV hCV hxs lx2 d0 d1 L0 L1 ey0 ey1;have hab:∀{f m l:Int} {z:Dr},z=⟨t,kss,n,f,m,l,[("ab",⟨1,last,none⟩)]⟩->n<=f->f<=60->0<=l->l<=2->HK t kss z:=fun{f m l z} e h1 h2 h3 h4=>by
   rw[e];refine C4 tp k3 n2.1 n2.2 h1 h2 h3 h4 (by show [("ab":Str)].Nodup;exact DT.mpr ⟨Jx,Er⟩) (by show 1<=2;decide) fun e he=>?_
   rw[Jj.mp he];refine⟨by show(0:Int)<=1;decide,by show(1:Int)<3;decide,?_,?_,rfl⟩
   ·show 1<=last;lia
   ·show last<4096;lia
  refine⟨_,rfl,b,2,_,rfl,pwe.bx,by lia,by decide,by decide,fun pr Hp p0 p1 gp=>?_⟩
  have pwp:=pwe.grc gp;have hCp:=hCe.mv (S:=[b]) (fun c o h e=>gp.kp c o (fun z=>h (Jj.mpr z)) e) (zV pwe.bx)
  clear gp pwe hCe;obtain⟨E0,eE0⟩:∃E:Dr,E=⟨t,kss,n,f0,3,0,[("ab",⟨1,last,none⟩)]⟩:=⟨_,rfl⟩
  obtain⟨E1,eE1⟩:∃E:Dr,E=⟨t,kss,n,f1,4,0,[("ab",⟨1,last,none⟩)]⟩:=⟨_,rfl⟩
  rw[<- eE0,<- eE1]at pwp;have mm0:=hab eE0 b0 b1 (Jr _) (by decide)
  have mm1:=hab eE1 b2 b3 (Jr _) (by decide)
  have lk1:List.lookup ("ab":Str) [(("ab":Str),(⟨1,last,none⟩:Kb))]=some ⟨1,last,none⟩:=kF _ _
  have ag0:way≠4->way≠9->HV E0 E1:=fun z1 z2=>by
   rw[eE0,eE1];exact lE (Jr _) (by decide) (Jr _) (by decide) (fc z1 z2) lk1 lk1 (fun z hz=>Qy hz) (fun z hz=>Qy hz)
  refine Za (fun σ' H'=>∃D D' L L',Pw K C H H' b (c+45) pl [(y0,D,L),(y1,D',L')]/\GL H' cd tb kt t kss/\HK t kss D/\HK t kss D'/\L.length<=4/\L'.length<=4/\(way≠4->way≠9->HV D D')/\(way≠3->D=E0/\D'=E1)/\σ'=[some (.ref b),some (.int way),some (.int last),some (.ref cd),some (.int n),some (.ref fl),some (.ref pl),some (.int pr)]) (fun D' hrt hnx=>?_) ?_
  ·refine⟨_,rfl,rfl,_,rfl,qQ (fun y=>?_) (fun y=>hnx _ _ ⟨E0,E1,M0,M1,pwp,hCp,mm0,mm1,by lia,by lia,ag0,fun _=>⟨rfl,rfl⟩,rfl⟩)⟩
   have ew:way=3:=by have:=Jv y;injection this
   refine⟨_,rfl,_,rfl,FN,fun t1 ht1=>⟨FN,fun m1 hm1=>⟨FN,fun t2 ht2=>⟨FN,fun m2 hm2=>⟨FN,fun ml hml=>?_⟩⟩⟩⟩⟩
   have v1:=FV.upd (o:= .tup [.int 0,.int 4095]) ht1
   have v2:=FV.upd (o:= .lst [.ref t1,.non]) hm1
   have v3:=FV.upd (o:= .tup [.int 0,.int 4095]) ht2
   have v4:=FV.upd (o:= .lst [.non,.ref t2]) hm2
   have v5:=FV.upd (o:= .lst [.ref m1,.ref m2]) hml
   have V5:=(((v1.trans v2).trans v3).trans v4).trans v5;obtain⟨tl,os,hat,ol,nt,hos⟩:∃(tl:Δ) (os:List (Option (Int×Int))),Ql [V.ref m1,.ref m2] pr=some (.ref tl)/\Hm (F2 (F2 (F2 (F2 (F2 Hp t1 (.tup [.int 0,.int 4095])) m1 (.lst [.ref t1,.non])) t2 (.tup [.int 0,.int 4095])) m2 (.lst [.non,.ref t2])) ml (.lst [.ref m1,.ref m2])) tl os/\Hp tl=none/\(os=[some (0,4095),none]\/os=[none,some (0,4095)]):=by
    have hp:pr=0\/pr=1:=by lia
    rcases hp with rfl|rfl
    ·exact⟨m1,[some (0,4095),none],rfl,Hm.two (v5 _ _ (v4 _ _ (v3 _ _ qb))) ⟨t1,rfl,v5 _ _ (v4 _ _ (v3 _ _ (v2 _ _ qb)))⟩ rfl,Zw hm1 v1,.inl rfl⟩
    ·exact⟨m2,[none,some (0,4095)],rfl,Hm.two (v5 _ _ qb) rfl ⟨t2,rfl,v5 _ _ (v4 _ _ qb)⟩,Zw hm2 ((v1.trans v2).trans v3),.inr rfl⟩
   have pwV:=pwp.same V5;have hCV:=hCp.same V5;refine⟨_,rfl,ml,_,_,_,rfl,rfl,F6.of qb,hat,?_⟩
   generalize F2 (F2 (F2 (F2 (F2 Hp t1 (.tup [.int 0,.int 4095])) m1 (.lst [.ref t1,.non])) t2 (.tup [.int 0,.int 4095])) m2 (.lst [.non,.ref t2])) ml (.lst [.ref m1,.ref m2])=H7 at *
   clear v1 v2 v3 v4 v5 V5 ht1 hm1 ht2 hm2 hml hat;refine⟨cd,tb,kt,pl,tl,b,_,H,t,kss,_,"a",os,rfl,pwV,rfl,hCV,AN,ol,by rcases hos with rfl|rfl<;>rfl,fun i x hx z=>(pwp.en i x hx).some z nt,fun i x hx=>?_,fun a l hm=>?_,fun He xs' pwe hCe st tps=>?_⟩
   ·have key:∀{D:Dr} {L:List Rw},L.length<=2->(D=E0\/D=E1)->Iq t kss D/\(∀a l,os.getD i none=some (a,l)->D.least<=a)/\D.kn.lookup ("a":Str)=none/\D.kn.length<=11/\L.length<=900:=fun{D L} hl hD=>by
     have lo:∀a l,os.getD i none=some (a,l)->0<=a:=fun a l e=>by
      rcases hos with rfl|rfl
      ·match i,e with
       |0,e=>cases e;decide
       |1,e=>cases e
       |i+2,e=>cases e
      ·match i,e with
       |0,e=>cases e
       |1,e=>cases e;decide
       |i+2,e=>cases e
     have na:List.lookup ("a":Str) [(("ab":Str),(⟨1,last,none⟩:Kb))]=none:=by
      cases q:List.lookup ("a":Str) [(("ab":Str),(⟨1,last,none⟩:Kb))]with
      |none=>rfl
      |some b=>have:=zC q;rw[Jj]at this;injection this with this;exact absurd this B3
     rcases hD with rfl|rfl
     ·refine⟨⟨mm0.hr.ok,mm0.hr.t,mm0.hr.ks,?_⟩,?_,?_,?_,by lia⟩
      ·rw[eE0];show(1:Int)<3;decide
      ·rw[eE0];exact lo
      ·rw[eE0];exact na
      ·rw[eE0];show 1<=11;decide
     ·refine⟨⟨mm1.hr.ok,mm1.hr.t,mm1.hr.ks,?_⟩,?_,?_,?_,by lia⟩
      ·rw[eE1];show(1:Int)<4;decide
      ·rw[eE1];exact lo
      ·rw[eE1];exact na
      ·rw[eE1];show 1<=11;decide
    match i,hx with
    |0,hx=>cases hx;exact key (by lia) (.inl rfl)
    |1,hx=>cases hx;exact key (by lia) (.inr rfl)
   ·have:(a,l)=(0,4095):=by
     rcases hos with rfl|rfl<;>simp only[Jl,Jx,JA,reduceCtorEq,false_or,Option.some.injEq]at hm<;>exact hm
    cases this;refine⟨by decide,?_,by decide,by decide⟩
    lia
   obtain⟨N0,N1,rfl,h0,h1⟩:=st.two;have h0:N0.length<=M0.length+2:=h0
   have h1:N1.length<=M1.length+2:=h1
   have hput:∀{D:Dr} {f m:Int},D=⟨t,kss,n,f,m,0,[("ab",⟨1,last,none⟩)]⟩->Qt "a" D (some (0,4095))=⟨t,kss,n,f,m,0,[("ab",⟨1,last,none⟩),("a",⟨0,4095,none⟩)]⟩:=fun{D f m} e=>by
    rw[e]
    show Dr.mk t kss n f m 0 (zb [("ab",⟨1,last,none⟩)] "a" ⟨0,4095,none⟩)=_
    rw[yY B3]
   have hm2:∀{f m:Int},n<=f->f<=60->HK t kss ⟨t,kss,n,f,m,0,[("ab",⟨1,last,none⟩),("a",⟨0,4095,none⟩)]⟩:=fun{f m} h1 h2=>by
    refine C4 tp k3 n2.1 n2.2 h1 h2 (Jr _) (by decide) (by show [("ab":Str),"a"].Nodup;decide +kernel) (by show 2<=2;decide) fun e he=>?_
    simp only[Jl,Jx,JA]at he;rcases he with rfl|rfl
    ·refine⟨by show(0:Int)<=1;decide,by show(1:Int)<3;decide,?_,?_,rfl⟩
     ·show 1<=last;lia
     ·show last<4096;lia
    ·exact⟨by show(0:Int)<=0;decide,by show(0:Int)<3;decide,by show(1:Int)<=4095;decide,by show(4095:Int)<4096;decide,rfl⟩
   have lk2:List.lookup ("ab":Str) [(("ab":Str),(⟨1,last,none⟩:Kb)),("a",⟨0,4095,none⟩)]=some ⟨1,last,none⟩:=by simp
   have wn:¬((⟨0,4095,none⟩:Kb).last+1<4096):=by decide
   refine hnx _ _ ?_
   rcases hos with rfl|rfl
   ·refine⟨_,_,N0,N1,pwe,hCe,?_,mm1,by lia,by lia,fun z1 z2=>?_,fun z=>absurd ew z,rfl⟩
    ·show HK t kss (Qt "a" E0 (some (0,4095)))
     rw[hput eE0];exact hm2 b0 b1
    ·show HV (Qt "a" E0 (some (0,4095))) E1
     rw[hput eE0,eE1];exact lE (Jr _) (by decide) (Jr _) (by decide) (fc z1 z2) lk2 lk1 (fun z hz=>kW hz wn) (fun z hz=>Qy hz)
   ·refine⟨_,_,N0,N1,pwe,hCe,mm0,?_,by lia,by lia,fun z1 z2=>?_,fun z=>absurd ew z,rfl⟩
    ·show HK t kss (Qt "a" E1 (some (0,4095)))
     rw[hput eE1];exact hm2 b2 b3
    ·show HV E0 (Qt "a" E1 (some (0,4095)))
     rw[hput eE1,eE0];exact lE (Jr _) (by decide) (Jr _) (by decide) (fc z1 z2) lk1 lk2 (fun z hz=>Qy hz) (fun z hz=>kW hz wn)
  clear pwp hCp ag0
  rintro σ Hz ⟨D,D',L,L',pwz,hCz,mD,mD',hL,hL',agz,exz,rfl⟩
  refine eI (fun σ' H'=>∃D D' L L',Pw K C H H' b (c+45) pl [(y0,D,L),(y1,D',L')]/\GL H' cd tb kt t kss/\HK t kss D/\HK t kss D'/\L.length<=5/\L'.length<=5/\(way≠4->way≠9->HV D D')/\(way≠3->way≠8->D=E0/\D'=E1)/\σ'=[some (.ref b),some (.int way),some (.int last),some (.ref cd),some (.int n),some (.ref fl),some (.ref pl),some (.int pr)]) (fun D0 hrt hnx=>?_) ?_
  ·refine⟨_,rfl,rfl,_,rfl,qQ (fun y=>?_) (fun y=>hnx _ _ ⟨D,D',L,L',pwz,hCz,mD,mD',by lia,by lia,agz,fun z _=>exz z,rfl⟩)⟩
   have ew:way=8:=by have:=Jv y;injection this
   obtain⟨eD,eD'⟩:=exz (by lia)
   have hp:pr=0\/pr=1:=by lia
   rcases hp with rfl|rfl
   ·skip
    have en:=pwz.en 0 _ rfl;simp only at en
    refine⟨_,rfl,_,rfl,pl,_,_,_,rfl,rfl,F6.of pwz.pe,rfl,y0.e,_,_,_,rfl,rfl,F7.of en.tu,rfl,y0.a.p,rfl,en.dl.dr.no,y0.a,D,L,1,rfl,en.dl,by lia,fun Dn rw' hd Hs ms ds=>?_⟩
    cases hd;rw[show(if(1:Int)>D.least then 1 else D.least)=1 by rw[eD,eE0];rfl]at ds
    have ms':=xj ms;have es':=en.door ms' ds;have pes:Mv (eS y0) Hz Hs:=Zj ms'
    have plS:=pes _ _ (pwz.np 0 _ rfl) pwz.pe;obtain⟨H4',dp4,m4,md4⟩:=es'.md.close 1;refine⟨_,rfl,_,rfl,pl,_,_,_,rfl,rfl,F6.of plS,rfl,y0.e,_,_,_,rfl,rfl,F7.of es'.tu,rfl,y0.m,H4',rfl,dp4,?_⟩
    have m4':Mv [y0.m,y0.kd] Hs H4':=m4.mono (fun c h z=>h (by rw[Jj.mp z];simp))
    have en4:=es'.model m4' md4;have Mall:Mv (eS y0) Hz H4':=pes.trans (Zc m4')
    have pw4:=pwz.step (i:=0) rfl Mall en4
    have edD:({D with least:=1}:Dr)={E0 with least:=1}:=by rw[eD]
    have ll:∀r:Rw,(L++[r]).length<=5:=fun r=>by rw[Jw];exact EA hL
    exact hnx _ _ ⟨_,_,_,_,pw4,hCz.mv Mall (pwz.en 0 _ rfl).nt,hab (l:=1) (f:=f0) (m:=3) (by rw[edD,eE0]) b0 b1 (by decide) (by decide),mD',ll _,by lia,fun z1 z2=>by rw[edD,eE0,eD',eE1];exact lE (by decide) (by decide) (Jr _) (by decide) (fc z1 z2) lk1 lk1 (fun z hz=>Qy hz) (fun z hz=>Qy hz),fun _ z=>absurd ew z,rfl⟩
   ·skip
    have en:=pwz.en 1 _ rfl;simp only at en
    refine⟨_,rfl,_,rfl,pl,_,_,_,rfl,rfl,F6.of pwz.pe,rfl,y1.e,_,_,_,rfl,rfl,F7.of en.tu,rfl,y1.a.p,rfl,en.dl.dr.no,y1.a,D',L',1,rfl,en.dl,by lia,fun Dn rw' hd Hs ms ds=>?_⟩
    cases hd;rw[show(if(1:Int)>D'.least then 1 else D'.least)=1 by rw[eD',eE1];rfl]at ds
    have ms':=xj ms;have es':=en.door ms' ds;have pes:Mv (eS y1) Hz Hs:=Zj ms'
    have plS:=pes _ _ (pwz.np 1 _ rfl) pwz.pe;obtain⟨H4',dp4,m4,md4⟩:=es'.md.close 1;refine⟨_,rfl,_,rfl,pl,_,_,_,rfl,rfl,F6.of plS,rfl,y1.e,_,_,_,rfl,rfl,F7.of es'.tu,rfl,y1.m,H4',rfl,dp4,?_⟩
    have m4':Mv [y1.m,y1.kd] Hs H4':=m4.mono (fun c h z=>h (by rw[Jj.mp z];simp))
    have en4:=es'.model m4' md4;have Mall:Mv (eS y1) Hz H4':=pes.trans (Zc m4')
    have pw4:=pwz.step (i:=1) rfl Mall en4
    have edD:({D' with least:=1}:Dr)={E1 with least:=1}:=by rw[eD']
    have ll:∀r:Rw,(L'++[r]).length<=5:=fun r=>by rw[Jw];exact EA hL'
    exact hnx _ _ ⟨_,_,_,_,pw4,hCz.mv Mall (pwz.en 1 _ rfl).nt,mD,hab (l:=1) (f:=f1) (m:=4) (by rw[edD,eE1]) b2 b3 (by decide) (by decide),by lia,ll _,fun z1 z2=>by rw[edD,eE1,eD,eE0];exact lE (Jr _) (by decide) (by decide) (by decide) (fc z1 z2) lk1 lk1 (fun z hz=>Qy hz) (fun z hz=>Qy hz),fun _ z=>absurd ew z,rfl⟩
  clear pwz hCz mD mD' agz exz
  rintro σ Hz ⟨D,D',L,L',pwz,hCz,mD,mD',hL,hL',agz,exz,rfl⟩
  refine eI (fun σ' H'=>∃D D' L L',Pw K C H H' b (c+45) pl [(y0,D,L),(y1,D',L')]/\GL H' cd tb kt t kss/\HK t kss D/\HK t kss D'/\L.length<=6/\L'.length<=6/\(way≠4->way≠9->HV D D')/\(way≠3->way≠8->way≠9->D=E0/\D'=E1)/\σ'=[some (.ref b),some (.int way),some (.int last),some (.ref cd),some (.int n),some (.ref fl),some (.ref pl),some (.int pr)]) (fun D0 hrt hnx=>?_) ?_
  ·refine⟨_,rfl,rfl,_,rfl,qQ (fun y=>?_) (fun y=>hnx _ _ ⟨D,D',L,L',pwz,hCz,mD,mD',by lia,by lia,agz,fun z z2 _=>exz z z2,rfl⟩)⟩
   have ew:way=9:=by have:=Jv y;injection this
   obtain⟨eD,eD'⟩:=exz (by lia) (by lia)
   have hp:pr=0\/pr=1:=by lia
   rcases hp with rfl|rfl
   ·skip
    have en:=pwz.en 0 _ rfl;simp only at en
    refine⟨_,rfl,_,rfl,pl,_,_,_,rfl,rfl,F6.of pwz.pe,rfl,y0.e,_,_,_,rfl,rfl,F7.of en.tu,rfl,y0.a.p,rfl,en.dl.dr.no,y0.a,D,L,2,rfl,en.dl,by lia,fun Dn rw' hd Hs ms ds=>?_⟩
    cases hd;rw[show(if(2:Int)>D.least then 2 else D.least)=2 by rw[eD,eE0];rfl]at ds
    have ms':=xj ms;have es':=en.door ms' ds;have pes:Mv (eS y0) Hz Hs:=Zj ms'
    have plS:=pes _ _ (pwz.np 0 _ rfl) pwz.pe;obtain⟨H4',dp4,m4,md4⟩:=es'.md.close 2;refine⟨_,rfl,_,rfl,pl,_,_,_,rfl,rfl,F6.of plS,rfl,y0.e,_,_,_,rfl,rfl,F7.of es'.tu,rfl,y0.m,H4',rfl,dp4,?_⟩
    have m4':Mv [y0.m,y0.kd] Hs H4':=m4.mono (fun c h z=>h (by rw[Jj.mp z];simp))
    have en4:=es'.model m4' md4;have Mall:Mv (eS y0) Hz H4':=pes.trans (Zc m4')
    have pw4:=pwz.step (i:=0) rfl Mall en4
    have edD:({D with least:=2}:Dr)={E0 with least:=2}:=by rw[eD]
    have ll:∀r:Rw,(L++[r]).length<=6:=fun r=>by rw[Jw];exact EA hL
    exact hnx _ _ ⟨_,_,_,_,pw4,hCz.mv Mall (pwz.en 0 _ rfl).nt,hab (l:=2) (f:=f0) (m:=3) (by rw[edD,eE0]) b0 b1 (by decide) (by decide),mD',ll _,by lia,fun _ z2=>absurd ew z2,fun _ _ z=>absurd ew z,rfl⟩
   ·skip
    have en:=pwz.en 1 _ rfl;simp only at en
    refine⟨_,rfl,_,rfl,pl,_,_,_,rfl,rfl,F6.of pwz.pe,rfl,y1.e,_,_,_,rfl,rfl,F7.of en.tu,rfl,y1.a.p,rfl,en.dl.dr.no,y1.a,D',L',2,rfl,en.dl,by lia,fun Dn rw' hd Hs ms ds=>?_⟩
    cases hd;rw[show(if(2:Int)>D'.least then 2 else D'.least)=2 by rw[eD',eE1];rfl]at ds
    have ms':=xj ms;have es':=en.door ms' ds;have pes:Mv (eS y1) Hz Hs:=Zj ms'
    have plS:=pes _ _ (pwz.np 1 _ rfl) pwz.pe;obtain⟨H4',dp4,m4,md4⟩:=es'.md.close 2;refine⟨_,rfl,_,rfl,pl,_,_,_,rfl,rfl,F6.of plS,rfl,y1.e,_,_,_,rfl,rfl,F7.of es'.tu,rfl,y1.m,H4',rfl,dp4,?_⟩
    have m4':Mv [y1.m,y1.kd] Hs H4':=m4.mono (fun c h z=>h (by rw[Jj.mp z];simp))
    have en4:=es'.model m4' md4;have Mall:Mv (eS y1) Hz H4':=pes.trans (Zc m4')
    have pw4:=pwz.step (i:=1) rfl Mall en4
    have edD:({D' with least:=2}:Dr)={E1 with least:=2}:=by rw[eD']
    have ll:∀r:Rw,(L'++[r]).length<=6:=fun r=>by rw[Jw];exact EA hL'
    exact hnx _ _ ⟨_,_,_,_,pw4,hCz.mv Mall (pwz.en 1 _ rfl).nt,mD,hab (l:=2) (f:=f1) (m:=4) (by rw[edD,eE1]) b2 b3 (by decide) (by decide),by lia,ll _,fun _ z2=>absurd ew z2,fun _ _ z=>absurd ew z,rfl⟩
  clear pwz hCz mD mD' agz exz
  rintro σ Hz ⟨D,D',L,L',pwz,hCz,mD,mD',hL,hL',agz,exz,rfl⟩
  refine eI (fun σ' H'=>∃D D' L L',Pw K C H H' b (c+45) pl [(y0,D,L),(y1,D',L')]/\GL H' cd tb kt t kss/\HK t kss D/\HK t kss D'/\L.length<=8/\L'.length<=8/\(way≠4->way≠9->HV D D')/\σ'=[some (.ref b),some (.int way),some (.int last),some (.ref cd),some (.int n),some (.ref fl),some (.ref pl),some (.int pr)]) (fun D0 hrt hnx=>?_) ?_
  ·refine⟨_,rfl,rfl,_,rfl,qQ (fun y=>?_) (fun y=>hnx _ _ ⟨D,D',L,L',pwz,hCz,mD,mD',by lia,by lia,agz,rfl⟩)⟩
   refine⟨_,rfl,_,rfl,_,rfl,_,rfl,_,_,rfl,rfl,_,_,rfl,rfl,_,_,rfl,FO,fun pt hpt=>⟨FN,fun ps hps=>?_⟩⟩
   have hN:0<=(if last+n+1<4095 then last+n+1 else 4095)/\(if last+n+1<4095 then last+n+1 else 4095)<4096:=by split<;>lia
   have v1:=FV.upd (o:= .tup [.str "ab",.int 2,.int (if last+n+1<4095 then last+n+1 else 4095)]) hpt
   have v2:=FV.upd (o:= .tup [.int 0,.int 1]) hps
   have V:=v1.trans v2;refine⟨cd,tb,kt,pl,pt,ps,b,_,H,t,kss,_,"ab",2,(if last+n+1<4095 then last+n+1 else 4095),[0,1],rfl,pwz.same V,rfl,hCz.same V,eY,by decide,by lia,hN.1,hN.2,v2 _ _ qb,Rd.of qb,by decide,by decide,fun i x hx=>?_,fun Hw xs' pww hCw st=>?_⟩
   ·match i,hx with
    |0,hx=>cases hx;exact⟨mD.hr,by show L.length<=900;lia⟩
    |1,hx=>cases hx;exact⟨mD'.hr,by show L'.length<=900;lia⟩
   obtain⟨N0,N1,rfl,h0,h1⟩:=st.two;have h0:N0.length<=L.length+2:=h0
   have h1:N1.length<=L'.length+2:=h1
   have pww:Pw K C H Hw b (c+45) pl [(y0,{D with kn:=F8 D "ab" 2 (if last+n+1<4095 then last+n+1 else 4095)},N0),(y1,{D' with kn:=F8 D' "ab" 2 (if last+n+1<4095 then last+n+1 else 4095)},N1)]:=pww
   exact hnx _ _ ⟨_,_,_,_,pww,hCw,mD.hear hN.1 hN.2,mD'.hear hN.1 hN.2,by lia,by lia,fun z1 z2=>(agz z1 z2).hear mD.td mD'.td (by lia),rfl⟩
  clear pwz hCz mD mD' agz exz
  rintro σ Hz ⟨D,D',L,L',pwz,hCz,mD,mD',hL,hL',agz,rfl⟩
  refine⟨_,rfl,_,rfl,FN,fun qq hqq=>?_⟩
  have u:=FV.upd (o:= .tup [.ref cd,.ref pl]) hqq
  exact q qq cd tb kt pl t kss _ _ _ ((pwz.same u).mono (by lia)) qb (hCz.same u) k3 mD mD' (by show L.length<=10;lia) (by show L'.length<=10;lia) (by show D.kss.length=D'.kss.length;rw[mD.hr.ks,mD'.hr.ks]) agz
end
section
variable{P:Ξ}{w:Ω}{K:ι}{mg:FT}{base:Ψ}{tk:Nat->Tok}{C:Δ}
theorem gd(a:At K mg "_law_far_right" Zq ["_law_box_here"])(T:GA K mg tk)(U:GW K C)(xV:Mi P w K mg base C "Door" ["self","table","keys","near","far","most"] 1 (fO K C))(dA:Df P w K mg base "_law_take" ["_law_box_here","_law_many"] 1 ai)(dY:Df P w K mg base "_law_table" ["_law_box_here"] 2 fQ)(xF:Df P w K mg base "_law_key" ["_law_box_here"] 2 ia)(dU:Df P w K mg base "_law_model" ["_law_near","_law_far","_law_keys"] 1 ib)(xK:Df P w K mg base "_law_learnt" ["_law_code","_law_pair_here","_law_name","_law_told"] 8 (cU K C))(dW:Df P w K mg base "_law_heard" ["_law_code","_law_pair_here","_law_plain","_law_places"] 7 (fX K C))(dM:Df P w K mg base "telling" ["one","other"] 6 (gA K C))(xL:Df P w K mg base "agree" ["one","other"] 7 (iz K C))(yB:Df P w K mg base "opens_at" ["door","name","age"] 4 (oA K C))(yK:∀n:Nat,n<=8->Df P w K mg base "_law_alike" ["_law_found","_law_due"] (n+1) (AU n))(xN:Df P w K mg base "_law_is" ["_law_found","_law_due"] 1 kJ):Df P w K mg base "_law_far_right" ["_law_box_here"] 9 gu:=by
 have dR:=yK 2 (by decide)
 refine a.dq FZ fun f _ A _ s H vs Q E hr h=>?_
 ·obtain⟨b,c,rfl,hb,hc,q⟩:=h
  refine⟨_,(qd (qA (i:=1) FZ.nd rfl (Or.inr rfl) (qu (qc (qo dY hr.mo (qc (qv 0) qa)) (qc (qI qX T.b_tuple JN (qc (zW (own:=["_law_k"]) (fr:=["_law_box_here"]) (js:=[0]) rfl (zK rfl T.b_range (qc qe qa)) rfl (kE rfl) rfl (lq rfl (by decide +kernel) (by decide +kernel) (by decide +kernel) rfl rfl rfl) (fun _ _ _ _=>qg (i:=0) (show List.Nodup (["_law_k","_law_box_here"]:List Str)from by decide +kernel) rfl (Or.inl rfl) (.inr rfl)) (fun _ _ _ _=>(Q4 bE (qo xF hr.mo (qc (qv 1) qa)) ZM (ZC qe)))) qa)) qa))))
   (qd (qA (i:=2) FZ.nd rfl (Or.inl rfl) (qw qF (zc (qc (zc (qc qe (qc qe qa))) (qc (zc (qc qe (qc (ql qC qe (qo dA hr.mo (qc (qv 0) (qc qe qa)))) qa))) (qc (zc (qc qe (qc qe qa))) qa)))) (qo dA hr.mo (qc (qv 0) (qc qe qa)))))
   (qd (qA (i:=3) FZ.nd rfl (Or.inr rfl) (qw qF (zc (qc qe (qc (ql qC qe (qo dA hr.mo (qc (qv 0) (qc qe qa)))) qa))) (qo dA hr.mo (qc (qv 0) (qc qe qa)))))
   (qd (sW (i:=4) (j:=5) rfl FZ.nd rfl rfl (by decide) rfl rfl (qc (ql qC qe (qo dA hr.mo (qc (qv 0) (qc qe qa)))) (qc (qo dA hr.mo (qc (qv 0) (qc qe qa))) qa)))
   (qd (iE (i:=6) FZ.nd rfl (Or.inl rfl) (own:=["_law_far"]) (fr:=["_law_near","_law_code"]) (js:=[3,1]) rfl (Zh (qv 2)) rfl (vX rfl rfl) rfl (vd rfl (by decide +kernel) (by decide +kernel) (by decide +kernel) rfl rfl rfl rfl rfl rfl) (fun _ _ _ _=>qg (i:=0) (show List.Nodup (["_law_far","_law_near","_law_code"]:List Str)from by decide +kernel) rfl (Or.inl rfl) (.inr rfl)) (fun _ _ _ _=>(qu (qc (oI xV hr.mo (qc (qw (eO (K:=K) rfl) (qv 2) qe) (qc (qw (eO (K:=K) rfl) (qv 2) qe) (qc (qv 1) (qc (qv 0) (qc qe qa)))))) (qc (qo dU hr.mo (qc (qv 1) (qc (qv 0) (qc qe qa)))) qa)))))
   (qd (zr (qo xK hr.mo (qc (qv 1) (qc (qv 6) (qc qz (qc (zc (qc (qu (qc (qv 5) (qc (qv 4) qa))) (qc (qu (qc (qv 5) (qc (qv 4) qa))) qa))) qa))))))
   (qd (qA (i:=7) FZ.nd rfl (Or.inl rfl) (ql qC (qv 4) (qp (ZW rfl) T.b_max E7 (qc (ql qC (qv 3) qe) (qc (qp (jw rfl) T.b_min PyProof.Rows.boot_min (qc (qv 2) qa)) qa)))))
   (qd (qA (i:=8) FZ.nd rfl (Or.inl rfl) qM)
   (qd (qE (qx aT (qv 7) (ql qC (qv 4) (qp (uH rfl) T.b_max E7 (qc (qv 2) qa))) (qr _)) (qf (qA (i:=8) FZ.nd rfl (Or.inl rfl) (qu (qc (qu (qc qz (qc (qv 5) (qc (qv 7) qa)))) (qc (qu (qc qz (qc (qv 5) (qc (ql qC (qv 7) qe) qa)))) qa))))) qt)
   (qd (qA (i:=9) FZ.nd rfl (Or.inl rfl) (qo dM hr.mo (qc (qw qK (qw qF (qv 6) qe) qe) (qc (qw qK (qw qF (qv 6) qe) qe) qa))))
   (qd (qE (QW.pt (zZ (zL (zh (qo dR hr.mo (qc (qv 9) (qc (qv 8) qa))))) (zS (zL (zh (qo xN hr.mo (qc (qo xL hr.mo (qc (qw qK (qw qF (qv 6) qe) qe) (qc (qw qK (qw qF (qv 6) qe) qe) qa))) (qc (zp zX (qv 8) qM (qr _)) qa)))))))) (qf (qk Qo)) qt)
   (qd (qA (i:=7) FZ.nd rfl (Or.inl rfl) (ql qC (ql qC (ql qC (qv 4) (qv 3)) qe) (qo dA hr.mo (qc (qv 0) (qc (qp (ZW rfl) T.b_max E7 (qc qe (qc (ql zT (ql zT (qp (jw rfl) T.b_min PyProof.Rows.boot_min (qc (qv 2) qa)) (qv 3)) qe) qa))) qa)))))
   (qd (zr (qo dW hr.mo (qc (qv 1) (qc (qv 6) (qc (qu (qc qz (qc (qv 5) (qc (qv 7) qa)))) (qc (qu (qc qe (qc qe qa))) qa))))))
   (qd (zz J0 rfl (Zh (qv 6)) (zu rfl (qm (qg (i:=10) FZ.nd rfl (Or.inl rfl)) (qm (qg (i:=11) FZ.nd rfl (Or.inl rfl)) qP)))
   (qd (qA (i:=8) FZ.nd rfl (Or.inl rfl) (qu (qc (qu (qc (ql qC (qv 4) qe) (qc (ql qC (qv 4) (qv 3)) qa))) qa)))
   (qd (qE (qx aT (qv 7) (ql qC (qv 4) (Qd hr (qv 11) qz)) (qr _)) (qf (qA (i:=8) FZ.nd rfl (Or.inl rfl) (ql ZF (qv 8) (qu (qc (qu (qc (ql qC (qv 7) qe) (qc (ql qC (qv 7) qe) qa))) qa))))) qt)
   (qf (qE (zL (zh (qo dR hr.mo (qc (qo yB hr.mo (qc (qv 10) (qc qz (qc (qv 5) qa)))) (qc (qv 8) qa))))) (qf (qk Qo)) qt)))))
   (qf (qk Qo)))))))))))))))),?_⟩
  refine⟨_,rfl,b,c,rfl,hb,by lia,fun tb t H1 g1 ftb etb tp=>?_⟩
  have ntb:tb≠b:=fun z=>by obtain⟨_,_,_,e,_⟩:=hb;rw[z,e]at ftb;cases ftb
  refine⟨_,rfl,by decide,by decide,?_⟩
  refine Z8 (n:=2) (by decide) (fun i ys Hx=>HI b (c+16+9*i) H Hx/\Hx tb=some (.tup (t.map V.int))/\∃(as:List Δ) (kss:List (List Int)),ys=as.map V.ref/\as.length=i/\kss.length=i/\∀(j:Nat) (x:Δ) (z:List Int),as[j]? =some x->kss[j]? =some z->Hx x=some (.tup (z.map V.int))) ⟨g1,etb,[],[],rfl,rfl,rfl,fun j x z e=>by cases e⟩ ?_ ?_
  ·rintro i ys Hx hi hyl ⟨G,et,as,kss,rfl,lA,lK,hks⟩
   refine⟨_,rfl,b,c+16+9*i,rfl,G.bx,by lia,fun p ks H2 g2 fp ep dk l1 l8=>⟨_,rfl,p,_,rfl,ep,fun y H3 s3 hy _=>?_⟩⟩
   rw[aE]at hy;have kp:∀{x:Δ} {xs:List V},Hx x=some (.tup xs)->H3 x=some (.tup xs):=fun{x xs} e=>s3 _ _ (g2.kp _ _ (fun z=>by obtain⟨_,_,_,eb,_⟩:=G.bx;rw[z,eb]at e;cases e) e)
   refine⟨((G.trans g2).same s3).mono (by lia),kp et,as++[y],kss++[Z3 ks none (some 2)],by simp,by simp [lA],by simp [lK],fun j x z e1 e2=>?_⟩
   by_cases hj:j<as.length
   ·rw[J5 hj]at e1
    rw[J5 (by lia)]at e2
    exact kp (hks j x z e1 e2)
   ·rw[JY (by lia)]at e1
    rw[JY (by lia)]at e2
    cases ej:j-as.length with
    |zero=>rw[ej]at e1;rw[show j-kss.length=0 by lia]at e2;cases e1;cases e2;exact hy
    |succ k=>rw[ej]at e1;cases e1
  rintro ys Hx hyl ⟨G,et,as,kss,rfl,lA,lK,hks⟩ l0 hl0
  refine⟨l0,_,rfl,.inl ⟨F6.of qb,fun kt hkt=>⟨FN,fun cd hcd=>?_⟩⟩⟩
  have u1:=FV.upd (o:= .lst (as.map V.ref)) hl0
  have u2:=FV.upd (o:= .tup (as.map V.ref)) hkt
  have u3:=FV.upd (o:= .tup [.ref tb,.ref kt]) hcd
  have S3:=(u1.trans u2).trans u3;have lAK:as.length=kss.length:=by rw[lA,lK]
  have hC:GL (F2 (F2 (F2 Hx l0 (.lst (as.map V.ref))) kt (.tup (as.map V.ref))) cd (.tup [.ref tb,.ref kt])) cd tb kt t kss:=⟨qb,.inl (S3 _ _ et),as,.inl (.inl (u3 _ _ qb)),lAK,fun j x z e1 e2=> .inl (.inl (S3 _ _ (hks j x z e1 e2)))⟩
  have G3:=G.same S3;generalize F2 (F2 (F2 Hx l0 (.lst (as.map V.ref))) kt (.tup (as.map V.ref))) cd (.tup [.ref tb,.ref kt])=H3 at *
  clear hks et u1 u2 u3 hl0 hkt hcd S3;have kk:(kss.length:Int)=2:=by rw[lK];rfl
  have nbf:∀{Hx:Hp} {n:Nat} {l:Δ},GS Hx b n->Hx l=none->l≠b:=fun h e=>ac h e
  refine⟨FN,fun q0 hq0=>?_⟩
  have v0:=FV.upd (o:= .lst [.int 1000,.int 1024]) hq0
  have n0':=nbf G3.bx hq0;have G4:=G3.same v0;refine⟨_,rfl,b,900,_,rfl,G4.bx,by lia,by decide,by decide,fun r1 H5 r10 r11 g5=>⟨_,_,rfl,rfl,FN,fun q1 hq1=>⟨FN,fun q2 hq2=>⟨FO,fun q3 hq3=>?_⟩⟩⟩⟩
  have v1:=FV.upd (o:= .lst [.int 1024,.int (70+r1)]) hq1
  have v2:=FV.upd (o:= .lst [.int 65,.int 66]) hq2
  have v3:=FV.upd (o:= .lst [.ref q0,.ref q1,.ref q2]) hq3
  have V3:=(v1.trans v2).trans v3;have G5:=(G4.trans g5).same V3;have e0:=V3 _ _ (g5.kp _ _ n0' (qb (H:=H3) (a:=q0) (o:= .lst [.int 1000,.int 1024])))
  have e1:=v3 _ _ (v2 _ _ (qb (H:=H5) (a:=q1) (o:= .lst [.int 1024,.int (70+r1)])))
  have e2:=v3 _ _ (qb (H:=F2 H5 q1 (.lst [.int 1024,.int (70+r1)])) (a:=q2) (o:= .lst [.int 65,.int 66]))
  have e3:=qb (H:=F2 (F2 H5 q1 (.lst [.int 1024,.int (70+r1)])) q2 (.lst [.int 65,.int 66])) (a:=q3) (o:= .lst [.ref q0,.ref q1,.ref q2])
  have m1:=nbf g5.bx hq1;have m2:=nbf (g5.same v1).bx hq2;have m3:=nbf (g5.same (v1.trans v2)).bx hq3;have hC5:=((hC.same v0).mv g5.mv (zV G4.bx)).same V3;generalize F2 (F2 (F2 H5 q1 (.lst [.int 1024,.int (70+r1)])) q2 (.lst [.int 65,.int 66])) q3 (.lst [.ref q0,.ref q1,.ref q2])=H6 at *
  clear v0 v1 v2 v3 V3 hq0 hq1 hq2 hq3 g5 G4 G3 hC;refine⟨_,rfl,b,3,_,rfl,G5.bx,by lia,by decide,by decide,fun r2 H7 r20 r21 g7=>?_⟩
  obtain⟨fl,f0,f1,hat,hfl,nfl,b0,b1,b2,b3,fne⟩:∃(fl:Δ) (f0 f1:Int),Ql [V.ref q0,.ref q1,.ref q2] r2=some (.ref fl)/\H6 fl=some (.lst [.int f0,.int f1])/\fl≠b/\65<=f0/\f0<=1024/\65<=f1/\f1<=1024/\f0≠f1:=by
   have hr:r2=0\/r2=1\/r2=2:=by lia
   rcases hr with rfl|rfl|rfl
   ·exact⟨q0,1000,1024,rfl,e0,n0',by decide,by decide,by decide,by decide,by decide⟩
   ·exact⟨q1,1024,70+r1,rfl,e1,m1,by decide,by decide,by lia,by lia,by lia⟩
   ·exact⟨q2,65,66,rfl,e2,m2,by decide,by decide,by decide,by decide,by decide⟩
  refine⟨q3,_,_,_,rfl,rfl,F6.of (g7.kp _ _ m3 e3),hat,?_⟩
  have G7:=G5.trans g7;have hC7:=hC5.mv g7.mv (zV G5.bx);have hfl7:=g7.kp _ _ nfl hfl;clear e0 e1 e2 e3 hat g7 G5 hC5 hfl;refine⟨_,rfl,b,64,_,rfl,G7.bx,by lia,by decide,by decide,fun r3 H8 r30 r31 g8=>⟨_,_,rfl,rfl,FN,fun q4 hq4=>?_⟩⟩
  have v4:=FV.upd (o:= .lst [.int 64,.int (1+r3)]) hq4
  have m4:=nbf g8.bx hq4;have G8:=(G7.trans g8).same v4;have hC8:=(hC7.mv g8.mv (zV G7.bx)).same v4;have hfl8:=v4 _ _ (g8.kp _ _ nfl hfl7);refine⟨_,rfl,b,2,_,rfl,G8.bx,by lia,by decide,by decide,fun r4 H9 r40 r41 g9=>?_⟩
  obtain⟨n,hat,n1,n64⟩:∃n:Int,Ql [V.int 64,.int (1+r3)] r4=some (.int n)/\1<=n/\n<=64:=by
   have hr:r4=0\/r4=1:=by lia
   rcases hr with rfl|rfl
   ·exact⟨64,rfl,by decide,by decide⟩
   ·exact⟨1+r3,rfl,by lia,by lia⟩
  refine⟨q4,_,_,_,rfl,rfl,F6.of (g9.kp _ _ m4 qb),hat,?_⟩
  have G9:=G8.trans g9;have hC9:=hC8.mv g9.mv (zV G8.bx);have hfl9:=g9.kp _ _ nfl hfl8;clear hat g9 G8 hC8 hfl8 v4 hq4 g8 G7 hC7 hfl7;refine⟨_,rfl,b,3000,_,rfl,G9.bx,by lia,by decide,by decide,fun r5 Ha r50 r51 ga=>⟨_,_,rfl,rfl,_,rfl,b,2,_,rfl,ga.bx,by lia,by decide,by decide,fun age Hb ag0 ag1 gb=>⟨_,_,rfl,?_⟩⟩⟩
  have lb:1<=(1+r5)/\(1+r5)<=3000:=by lia
  have gab:=ga.trans gb;have Gb:=G9.trans gab;have hCb:=hC9.mv gab.mv (zV G9.bx);have hflb:=gab.kp _ _ nfl hfl9;have M0:Mv [b] H Hb:=Gb.mv
  have bxb:GS Hb b (c+40):=Gb.bx.mono (by lia)
  clear ga gb gab G9 hC9 hfl9 Gb;have b0':Hb b≠none:=fun z=>by obtain⟨_,_,_,e,_⟩:=bxb;rw[z]at e;cases e
  obtain⟨ff,eff⟩:∃ff:Nat->Int,ff=fun i=>if i=0 then f0 else f1:=⟨_,rfl⟩
  have pq0:Pq K C Hb Hb b (c+40) []:=⟨fun c o h e=>e,bxb,b0',(fun i x h=>by cases h),(fun i j x y _ h=>by cases h),(fun i x h=>by cases h)⟩
  refine⟨_,rfl,fl,rfl,⟨_,F6.of hflb⟩,?_⟩
  refine aQ (K:=K) (a:=fl) (xs:=[.int f0,.int f1]) (FN) (fun i ys Hy=>∃xs,Pq K C Hb Hy b (c+40) xs/\xs.length=i/\ys=(xs.map fun x=>V.ref x.1.e)/\(∀(j:Nat) (x:En),xs[j]? =some x->x.2.1=⟨t,kss,n,ff j,2,0,[]⟩/\x.2.2=[])/\GL Hy cd tb kt t kss/\FV Hb Hy) ⟨[],pq0,rfl,rfl,(fun i x h=>by cases h),hCb,FV.refl _⟩ (fun i ys Hy h=>let⟨_,_,_,_,_,_,s⟩:=h;F6.of (s _ _ hflb)) ?_ ?_
  ·rintro i ys Hy xv hxv hyl ⟨xs,pq,lx,rfl,hxs,hCy,sy⟩
   obtain⟨hi,rfl⟩:i<2/\xv= .int (ff i):=by
    rw[eff]
    match i,hxv with
    |0,h=>cases h;exact⟨by decide,rfl⟩
    |1,h=>cases h;exact⟨by decide,rfl⟩
   refine⟨_,rfl,cd,_,_,_,rfl,rfl,F7.of hCy.e,rfl,_,rfl,cd,_,_,_,rfl,rfl,F7.of hCy.e,rfl,_,rfl,_,rfl,fun x dx nx ndx nex=>?_⟩
   have sJ:FV Hy (F2 (F2 Hy dx (.own x)) x (.ins C dx [])):=(FV.upd ndx).trans (FV.upd (by rw[qi nex.symm];exact nx))
   refine⟨x,tb,kt,dx,n,ff i,2,t,kss,rfl,qb,.inr (.inl (Rd.same sJ hCy.tb)),hCy.ks.same sJ,by lia,fun ta hk bd' lg H2 h1 h2 h3 mv dr' kr=>⟨rfl,?_⟩⟩
   have sK:FV Hy H2:=fun c o e=>mv c o (zf (qj e nx)) (sJ c o e)
   have dl:GI K C H2 ⟨x,ta,hk,bd',lg⟩ ⟨t,kss,n,ff i,2,0,[]⟩ []:=FX.dl dr' kr
   have fz:∀z∈dS ⟨x,ta,hk,bd',lg⟩,Hy z=none:=fun z hz=>by
    rcases sL hz with rfl|rfl|rfl|rfl
    ·exact nx
    ·exact Zw h1 sJ
    ·exact Zw h2 sJ
    ·exact Zw h3 sJ
   refine⟨_,rfl,_,rfl,⟨t,kss,n,ff i,2,0,[]⟩,by show _=[V.int n,V.int (ff i),V.int (kss.length:Int)];rw[kk];rfl,rfl,rfl,fun m kd H6 s6 fm fkd md=>⟨FN,fun e he=>?_⟩⟩
   have u7:=FV.upd (o:= .tup [.ref x,.ref m]) he
   have S7:=(sK.trans s6).trans u7;obtain⟨g0,ebd,_⟩:=id dl.dr.kb;have ent:GX K C (F2 H6 e (.tup [.ref x,.ref m])) ⟨e,⟨x,ta,hk,bd',lg⟩,m,kd⟩ ⟨t,kss,n,ff i,2,0,[]⟩ [] ⟨t,kss,n,ff i,2,0,[]⟩:=⟨qb,(dl.same s6).same u7,md.same u7,(qj ebd fm).symm,(qj ebd fkd).symm⟩
   have fe:∀z∈eS ⟨e,⟨x,ta,hk,bd',lg⟩,m,kd⟩,Hy z=none:=fun z hz=>by
    rcases km hz with hz|rfl|rfl
    ·exact fz z hz
    ·exact Zw fm sK
    ·exact Zw fkd sK
   refine⟨xs++[(⟨e,⟨x,ta,hk,bd',lg⟩,m,kd⟩,⟨t,kss,n,ff i,2,0,[]⟩,[])],pq.add S7 ent fe,by simp [lx],by simp,fun j y hy=>?_,hCy.same S7,sy.trans S7⟩
   by_cases hj:j<xs.length
   ·rw[J5 hj]at hy;exact hxs j y hy
   ·rw[JY (by lia)]at hy
    cases ej:j-xs.length with
    |succ k=>rw[ej]at hy;cases hy
    |zero=>
     rw[ej]at hy;cases hy
     obtain rfl:j=i:=by lia
     exact⟨rfl,rfl⟩
  rintro ys Hy hyl ⟨xs,pq,lx,rfl,hxs,hCy,sy⟩ pl hpl
  have pw:=pq.pw hpl;have hC5:=hCy.same (FV.upd (o:= .lst (xs.map fun x=>V.ref x.1.e)) hpl)
  generalize F2 Hy pl (.lst (xs.map fun x=>V.ref x.1.e))=H5 at *
  clear pq hCy hpl sy pq0 hyl;obtain⟨x0,x1,rfl⟩:=mM lx;obtain⟨d0,L0⟩:=hxs 0 x0 rfl;obtain⟨d1,L1⟩:=hxs 1 x1 rfl;have ef0:ff 0=f0:=by rw[eff];rfl
  have ef1:ff 1=f1:=by rw[eff];rfl
  rw[ef0]at d0;rw[ef1]at d1;refine⟨_,rfl,_,rfl,_,rfl,_,rfl,FN,fun t1 ht1=>⟨_,rfl,_,rfl,FN,fun t2 ht2=>⟨FN,fun tl htl=>?_⟩⟩⟩
  have v1:=FV.upd (o:= .tup [.int age,.int (1+r5)]) ht1
  have v2:=FV.upd (o:= .tup [.int age,.int (1+r5)]) ht2
  have v3:=FV.upd (o:= .lst [.ref t1,.ref t2]) htl
  have V3:=(v1.trans v2).trans v3;have ol:Hm (F2 (F2 (F2 H5 t1 (.tup [.int age,.int (1+r5)])) t2 (.tup [.int age,.int (1+r5)])) tl (.lst [.ref t1,.ref t2])) tl [some (age,(1+r5)),some (age,(1+r5))]:=Hm.two qb ⟨t1,rfl,v3 _ _ (v2 _ _ qb)⟩ ⟨t2,rfl,v3 _ _ qb⟩
  have pwV:=pw.same V3;have hCV:=hC5.same V3;have pw12:=pw.same (v1.trans v2);have ntl:∀(i:Nat) (x:En),[x0,x1][i]? =some x->tl∉eS x.1:=fun i x hx z=>(pw12.en i x hx).some z htl
  generalize F2 (F2 (F2 H5 t1 (.tup [.int age,.int (1+r5)])) t2 (.tup [.int age,.int (1+r5)])) tl (.lst [.ref t1,.ref t2])=H6 at *
  clear v1 v2 v3 V3 ht1 ht2 htl pw12 pw hC5;have lr:∀(i:Nat) (x:En),[x0,x1][i]? =some x->Iq t kss x.2.1/\x.2.1.kn=[]/\x.2.1.least=0/\x.2.2.length=0:=fun i x hx=>by
   obtain⟨q1,q2⟩:=hxs i x hx;rw[q1,q2]
   exact⟨⟨⟨tp,Jr _,by show kss.length<=8;lia,Jz _,Er⟩,rfl,rfl,by show(0:Int)<2;decide⟩,rfl,rfl,rfl⟩
  refine⟨cd,tb,kt,pl,tl,b,_,Hb,t,kss,[x0,x1],"ab",[some (age,(1+r5)),some (age,(1+r5))],rfl,pwV,rfl,hCV,eY,ol,rfl,ntl,fun i x hx=>?_,fun a l hm=>?_,fun He xs' pwe hCe st tps=>?_⟩
  ·obtain⟨q1,q2,q3,q4⟩:=lr i x hx
   refine⟨q1,fun a l e=>?_,by rw[q2];rfl,by rw[q2];exact Jz _,by lia⟩
   rw[q3]
   match i,e with
   |0,e=>cases e;exact ag0
   |1,e=>cases e;exact ag0
   |i+2,e=>cases e
  ·simp only[Jl,Jx,JA,or_self,Option.some.injEq,Prod.mk.injEq]at hm
   obtain⟨rfl,rfl⟩:=hm;refine⟨ag0,?_,?_,?_⟩<;>lia
  obtain⟨M1,M2,rfl,l0',l1'⟩:=st.two;rw[L0]at l0';rw[L1]at l1';have l0':M1.length<=2:=l0'
  have l1':M2.length<=2:=l1'
  obtain⟨E0,eE0⟩:∃E:Dr,E=⟨t,kss,n,f0,2,0,[("ab",⟨age,(1+r5),none⟩)]⟩:=⟨_,rfl⟩
  obtain⟨E1,eE1⟩:∃E:Dr,E=⟨t,kss,n,f1,2,0,[("ab",⟨age,(1+r5),none⟩)]⟩:=⟨_,rfl⟩
  obtain⟨y0,ey0⟩:∃y:Em,y=x0.1:=⟨_,rfl⟩
  obtain⟨y1,ey1⟩:∃y:Em,y=x1.1:=⟨_,rfl⟩
  have pwe:Pw K C Hb He b (c+40) pl [(y0,E0,M1),(y1,E1,M2)]:=by
   have e0:Qt "ab" x0.2.1 (some (age,(1+r5)))=E0:=by rw[eV (by rw[d0]),d0,eE0]
   have e1:Qt "ab" x1.2.1 (some (age,(1+r5)))=E1:=by rw[eV (by rw[d1]),d1,eE1]
   rw[<- e0,<- e1,ey0,ey1];exact pwe
  clear st tps lr ol ntl pwV hCV hxs lx d0 d1 L0 L1 ey0 ey1 eff ef0 ef1;have fq:Fq "ab" age (1+r5) E0 E1:=by
   rw[eE0,eE1]
   exact⟨n1,n64,rfl,b0,b1,b2,b3,rfl,rfl,lK,lK,ag0,ag1,lb.1,lb.2,rfl,rfl⟩
  have nd1:(([(("ab":Str),(⟨age,(1+r5),none⟩:Kb))]:Kw).map (·.1)).Nodup:=DT.mpr ⟨Jx,Er⟩
  have ok0:GZ E0:=by rw[eE0];exact⟨tp,Jr _,by show kss.length<=8;lia,by show 1<=60;decide,nd1⟩
  have ok1:GZ E1:=by rw[eE1];exact⟨tp,Jr _,by show kss.length<=8;lia,by show 1<=60;decide,nd1⟩
  have tell:=fq.tell ok0 ok1 (by rw[eE0,eE1];exact fne)
  have fm:zn E0.far E1.far=zn f0 f1:=by rw[eE0,eE1]
  rw[fm]at tell;obtain⟨m,em⟩:∃m,m=zn f0 f1:=⟨_,rfl⟩
  rw[<- em]at tell;have mb:65<=m/\m<=f0/\m<=f1/\(m=f0\/m=f1):=by rw[em];unfold zn;split<;>lia
  have hmin:∀M,M∈[f0,f1]->(∀a∈[f0,f1],M<=a)->M=m:=fun M h1 h2=>by
   have q1:=h2 f0 (by simp)
   have q2:=h2 f1 (by simp)
   simp only[Jl,Jx,JA]at h1;lia
  have hfle:=pwe.s _ _ (zf nfl) hflb;refine⟨_,rfl,_,rfl,_,_,rfl,rfl,_,rfl,fl,[f0,f1],rfl,hfle,Nat.succ_pos _,fun M hM1 hM2=>⟨_,_,rfl,?_⟩⟩
  obtain rfl:=hmin M hM1 hM2
  have mx:(if M>n+1 then M else n+1)=M:=by split<;>lia
  refine⟨_,_,rfl,rfl,?_⟩
  refine Za (fun σ' H'=>H'=He/\∃oa ob oc,σ'=[some (.ref b),some (.ref cd),some (.ref fl),some (.int n),some (.int (1+r5)),some (.int age),some (.ref pl),some (.int ((1+r5)+M)),some .non,oa,ob,oc]) (fun D' hrt hnx=>hnx _ _ ⟨rfl,none,none,none,JX (fun z:Int=>[some (V.ref b),some (.ref cd),some (.ref fl),some (.int n),some (.int (1+r5)),some (.int age),some (.ref pl),some (.int ((1+r5)+z)),some V.non,none,none,none]) mx⟩) ?_
  rintro σ1 H1 ⟨rfl,oa,ob,oc,rfl⟩
  have en0:=pwe.en 0 _ rfl;have en1:=pwe.en 1 _ rfl;simp only at en0 en1
  have td0:=fq.td ok0;have td1:=fq.symm.td ok1;have xs:=fq.xs;refine⟨_,rfl,_,rfl,_,rfl,fl,[f0,f1],rfl,hfle,Nat.succ_pos _,fun X hX1 hX2=>?_⟩
  have hlt:(1+r5)+M<(1+r5)+X:=by
   have q1:=hX2 f0 (by simp)
   have q2:=hX2 f1 (by simp)
   lia
  refine⟨_,_,rfl,rfl,_,_,rfl,rfl,_,rfl,Qb (Jg hlt) ?_⟩
  refine⟨_,rfl,_,rfl,FO,fun a1 ha1=>⟨_,rfl,_,rfl,_,_,rfl,rfl,FO,fun a2 ha2=>⟨FN,fun du hdu=>?_⟩⟩⟩
  have w1:=FV.upd (o:= .tup [.str "ab",.int age,.int ((1+r5)+M)]) ha1
  have w2:=FV.upd (o:= .tup [.str "ab",.int age,.int ((1+r5)+M+1)]) ha2
  have w3:=FV.upd (o:= .tup [.ref a1,.ref a2]) hdu
  have W:=(w1.trans w2).trans w3;have tl:Ij (F2 (F2 (F2 H1 a1 (.tup [.str "ab",.int age,.int ((1+r5)+M)])) a2 (.tup [.str "ab",.int age,.int ((1+r5)+M+1)])) du (.tup [.ref a1,.ref a2])) (.ref du) (some [("ab",age,(1+r5)+M),("ab",age,(1+r5)+M+1)]):=⟨du,[a1,a2],rfl,qb,rfl,fun i a z h1 h2=>by
   match i,h1,h2 with
   |0,h1,h2=>cases h1;cases h2;exact w3 _ _ (w2 _ _ qb)
   |1,h1,h2=>cases h1;cases h2;exact w3 _ _ qb⟩
  have pw2:=pwe.same W;have hC2:=hCe.same W;have e0:=en0.same W;have e1:=en1.same W;generalize F2 (F2 (F2 H1 a1 (.tup [.str "ab",.int age,.int ((1+r5)+M)])) a2 (.tup [.str "ab",.int age,.int ((1+r5)+M+1)])) du (.tup [.ref a1,.ref a2])=H2 at *
  clear w1 w2 w3 W ha1 ha2 hdu en0 en1 hfle;have names:∀{cs:List Str},cs.Nodup->(∀k,k∈cs↔k∈E0.kn.map (·.1)\/k∈E1.kn.map (·.1))->cs=[("ab":Str)]:=fun{cs} nd mem=>vA nd fun k=>by
   rw[mem,fq.kn,fq.kn']
   show(k∈[("ab":Str)]\/k∈[("ab":Str)])↔k="ab"
   rw[Jj,or_self]
  refine⟨_,rfl,pl,_,_,_,rfl,rfl,F6.of pw2.pe,rfl,y0.e,_,_,_,rfl,rfl,F7.of e0.tu,rfl,_,rfl,pl,_,_,_,rfl,rfl,F6.of pw2.pe,rfl,y1.e,_,_,_,rfl,rfl,F7.of e1.tu,rfl,y0.a.p,y0.a.ta,y0.a.hk,y0.a.bd,y0.a.lg,_,E0,y1.a.p,y1.a.ta,y1.a.hk,y1.a.bd,y1.a.lg,_,E1,rfl,e0.dl.dr,e1.dl.dr,td0,td1,xs,fun u ns1 Hf sf nd1 mem1 sn1 tv=>?_⟩
  rw[names nd1 mem1,tell]at tv;have e0f:=e0.same sf;have e1f:=e1.same sf;have pwf:=pw2.same sf;refine⟨_,rfl,_,rfl,_,_,rfl,tv.eqt (tl.same sf) (Jf 2),fun Hg sg=>⟨_,rfl,zk ?_⟩⟩
  have e0g:=e0f.same sg;have e1g:=e1f.same sg;have pwg:=pwf.same sg;refine⟨_,rfl,pl,_,_,_,rfl,rfl,F6.of pwg.pe,rfl,y0.e,_,_,_,rfl,rfl,F7.of e0g.tu,rfl,_,rfl,pl,_,_,_,rfl,rfl,F6.of pwg.pe,rfl,y1.e,_,_,_,rfl,rfl,F7.of e1g.tu,rfl,y0.a.p,y0.a.ta,y0.a.hk,y0.a.bd,y0.a.lg,_,E0,y1.a.p,y1.a.ta,y1.a.hk,y1.a.bd,y1.a.lg,_,E1,rfl,e0g.dl.dr,e1g.dl.dr,td0,td1,xs,fun ns2 Hi si nd2 mem2 sn2=>⟨_,rfl,rfl,false,?_,⟨_,rfl,zk ?_⟩⟩⟩
  ·rw[names nd2 mem2,tell];rfl
  have pwi:=pwg.same si;have hCi:=((hC2.same sf).same sg).same si;have hfi:=pwi.s _ _ (zf nfl) hflb;clear tv tl e0 e1 e0f e1f e0g e1g pw2 pwf pwg pwe hC2 hCe;refine⟨_,rfl,_,rfl,_,_,rfl,rfl,_,_,rfl,rfl,_,rfl,_,rfl,fl,[f0,f1],rfl,hfi,Nat.succ_pos _,fun M' h1 h2=>?_⟩
  obtain rfl:=(hmin M' h1 h2).symm
  refine⟨_,rfl,_,_,rfl,rfl,_,_,rfl,rfl,_,_,rfl,b,_,_,rfl,pwi.bx,by lia,by split<;>lia,by split<;>lia,fun r Hj r0 r1' gj=>⟨_,_,rfl,rfl,?_⟩⟩
  have hN:(1+r5)+n<((1+r5)+n+1+r)/\((1+r5)+n+1+r)<=(1+r5)+M:=by
   split at r1'<;>lia
  have pwj:=pwi.grc gj;have hCj:=hCi.mv gj.mv (zV pwi.bx);refine⟨_,rfl,_,rfl,_,rfl,_,rfl,FO,fun pt hpt=>⟨FN,fun ps hps=>?_⟩⟩
  have v1:=FV.upd (o:= .tup [.str "ab",.int age,.int ((1+r5)+n+1+r)]) hpt
  have v2:=FV.upd (o:= .tup [.int 0,.int 1]) hps
  have V:=v1.trans v2;have hr0:Iu t kss E0:=⟨ok0,by rw[eE0],by rw[eE0],fq.dn.nf⟩
  have hr1:Iu t kss E1:=⟨ok1,by rw[eE1],by rw[eE1],fq.symm.dn.nf⟩
  refine⟨cd,tb,kt,pl,pt,ps,b,_,Hb,t,kss,_,"ab",age,((1+r5)+n+1+r),[0,1],rfl,pwj.same V,rfl,hCj.same V,eY,ag0,by lia,by lia,by lia,v2 _ _ qb,Rd.of qb,by decide,by decide,fun i x hx=>?_,fun Hw xs' pww hCw st=>?_⟩
  ·match i,hx with
   |0,hx=>cases hx;exact⟨hr0,by show M1.length<=900;lia⟩
   |1,hx=>cases hx;exact⟨hr1,by show M2.length<=900;lia⟩
  obtain⟨N0,N1,rfl,h0,h1⟩:=st.two;have pww:Pw K C Hb Hw b (c+41) pl [(y0,{E0 with kn:=F8 E0 "ab" age ((1+r5)+n+1+r)},N0),(y1,{E1 with kn:=F8 E1 "ab" age ((1+r5)+n+1+r)},N1)]:=pww
  clear st v1 v2 V hpt hps pwj hCj pwi hCi;have st0:=fq.str (n:=(1+r5)+n+1+r) (by rw[eE0];exact hN.1) (by rw[eE0];show((1+r5)+n+1+r)<=(1+r5)+f0;lia)
  have st1:=fq.symm.str (n:=(1+r5)+n+1+r) (by rw[eE1];exact hN.1) (by rw[eE1];show((1+r5)+n+1+r)<=(1+r5)+f1;lia)
  obtain⟨F0,eF0⟩:∃F:Dr,F={E0 with kn:=F8 E0 "ab" age ((1+r5)+n+1+r)}:=⟨_,rfl⟩
  obtain⟨F1,eF1⟩:∃F:Dr,F={E1 with kn:=F8 E1 "ab" age ((1+r5)+n+1+r)}:=⟨_,rfl⟩
  rw[<- eF0]at st0;rw[<- eF1]at st1;rw[<- eF0,<- eF1]at pww;have nn0:E0.near=n/\E0.far=F0.far:=by rw[eF0,eE0];exact⟨rfl,rfl⟩
  have nn1:E1.near=n/\E1.far=F1.far:=by rw[eF1,eE1];exact⟨rfl,rfl⟩
  rw[nn0.1,nn0.2]at st0;rw[nn1.1,nn1.2]at st1;refine⟨_,rfl,pl,rfl,⟨_,F6.of pww.pe⟩,?_⟩
  refine ZE (K:=K) (a:=pl) (xs:=[.ref y0.e,.ref y1.e]) (fun j σ Hx=>FV Hw Hx/\∃o8 o9 oa ob,σ=[some (.ref b),some (.ref cd),some (.ref fl),some (.int n),some (.int (1+r5)),some (.int age),some (.ref pl),some (.int ((1+r5)+n+1+r)),o8,o9,oa,ob]) ⟨FV.refl _,_,_,_,_,rfl⟩ (fun j σ Hx _ h=>F6.of (h.1 _ _ pww.pe)) ?_ ?_
  ·rintro j z σ Hx hz ⟨sx,o8,o9,pa,pb,rfl⟩
   obtain⟨y,F,L,hy,rfl,stF⟩:∃(y:Em) (F:Dr) (L:List Rw),GX K C Hw y F L F/\z= .ref y.e/\iI F "ab" age=((1+r5)+1,(1+r5)+n)::(if((1+r5)+n+1+r)<(1+r5)+F.far then [(((1+r5)+n+1+r)+1,((1+r5)+n+1+r)+1)]else []):=by
    match j,hz with
    |0,h=>cases h;exact⟨y0,F0,N0,pww.en 0 _ rfl,rfl,st0⟩
    |1,h=>cases h;exact⟨y1,F1,N1,pww.en 1 _ rfl,rfl,st1⟩
   have en:=hy.same sx;refine⟨y.e,_,rfl,.tup en.tu,rfl,_,_,rfl,_,_,rfl,rfl,?_⟩
   refine⟨_,rfl,_,_,rfl,rfl,_,rfl,_,rfl,_,_,rfl,rfl,FN,fun a1 ha1=>⟨FM,fun du hdu=>?_⟩⟩
   have w1:=FV.upd (o:= .tup [.int ((1+r5)+1),.int ((1+r5)+n)]) ha1
   have w2:=FV.upd (o:= .tup [.ref a1]) hdu
   have W:=w1.trans w2;have z1:=w2 _ _ (qb (H:=Hx) (a:=a1) (o:= .tup [.int ((1+r5)+1),.int ((1+r5)+n)]))
   have z2:=qb (H:=F2 Hx a1 (.tup [.int ((1+r5)+1),.int ((1+r5)+n)])) (a:=du) (o:= .tup [.ref a1])
   generalize F2 (F2 Hx a1 (.tup [.int ((1+r5)+1),.int ((1+r5)+n)])) du (.tup [.ref a1])=H2 at *
   have en2:=en.same W;refine Za (fun σ' H'=>∃q,FV H2 H'/\HN H' q (iI F "ab" age)/\σ'=[some (.ref b),some (.ref cd),some (.ref fl),some (.int n),some (.int (1+r5)),some (.int age),some (.ref pl),some (.int ((1+r5)+n+1+r)),some (.ref q),o9,some (.ref y.a.p),some (.ref y.m)]) (fun D' hrt hnx=>?_) ?_
   ·refine⟨_,rfl,_,rfl,_,rfl,y.m,_,rfl,en2.md.g_far,_,_,rfl,rfl,_,_,rfl,rfl,_,rfl,qQ (fun h=>?_) (fun h=>?_)⟩
    ·have h:=Jv h
     rw[Jc h]at stF;refine⟨_,rfl,_,rfl,_,_,rfl,rfl,_,rfl,_,_,rfl,rfl,FN,fun a2 ha2=>⟨FM,fun d2 hd2=>?_⟩⟩
     have x1:=FV.upd (o:= .tup [.int (((1+r5)+n+1+r)+1),.int (((1+r5)+n+1+r)+1)]) ha2
     have x2:=FV.upd (o:= .tup [.ref a2]) hd2
     refine⟨du,d2,_,_,rfl,rfl,x2 _ _ (x1 _ _ z2),qb,FN,fun pp H9 s9 hpp=>hnx _ _ ⟨pp,(x1.trans x2).trans s9,?_,rfl⟩⟩
     rw[stF];refine⟨[a1,a2],hpp,rfl,fun i a w h1 h2=>?_⟩
     match i,h1,h2 with
     |0,h1,h2=>cases h1;cases h2;exact s9 _ _ (x2 _ _ (x1 _ _ z1))
     |1,h1,h2=>cases h1;cases h2;exact s9 _ _ (x2 _ _ qb)
    ·have h:=fun z=>h (Jg z)
     rw[Jb h]at stF;refine hnx _ _ ⟨du,FV.refl _,?_,rfl⟩
     rw[stF];refine⟨[a1],z2,rfl,fun i a w h1 h2=>?_⟩
     match i,h1,h2 with
     |0,h1,h2=>cases h1;cases h2;exact z1
   rintro σ' H9 ⟨q9,s9,pr9,rfl⟩
   have en9:=en2.same s9;refine⟨_,rfl,_,rfl,y.a.p,y.a.ta,y.a.hk,y.a.bd,y.a.lg,_,F,"ab",age,rfl,en9.dl.dr,fun t1 Ha sa pra=>⟨_,rfl,_,_,rfl,pra.eqt (HN.same sa pr9) ?_,fun Hz sz=>⟨_,rfl,zk ⟨(((sx.trans W).trans s9).trans sa).trans sz,_,_,_,_,rfl⟩⟩⟩⟩
   rw[stF,JQ];split<;>simp
  rintro σ Hx ⟨sx,o8,o9,pa,pb,rfl⟩
  exact q Hx (M0.trans (fun c o h e=>sx _ _ (pww.s c o h e)))
end
section
variable{P:Ξ}{w:Ω}{K:ι}{mg:FT}{base:Ψ}{tk:Nat->Tok}{C:Δ}
theorem wB{H:Hp}{v:V}{o:Option a9}(h:Ij H v o):decide (v= .non)=o.isNone:=by
 cases o with
 |none=>rw[show v= .non from h];exact Jg rfl
 |some r=>obtain⟨t,as,rfl,_⟩:=h;exact Jm (fun z=>nomatch z)
theorem B5{f:Δ}{fd:FuncData}(F:Ii K "law" "law" Z7 f fd)(T:GA K mg tk)(U:GW K C)(dX:Mf P w K mg base C "hear" ["self","thing"] 6 (iO K C))(xZ:Df P w K mg base "_law_box" ["_law_script","_law_k"] 1 (rW K))(dA:Df P w K mg base "_law_take" ["_law_box_here","_law_many"] 1 ai)(dJ:Df P w K mg base "_law_press" ["_law_code","_law_plain","_law_deed"] 4 cw)(dD:Df P w K mg base "_law_hear" ["_law_own","_law_plain"] 2 ij)(yA:Df P w K mg base "_law_made" ["_law_box_here","_law_way","_law_last"] 9 (kL K C))(xJ:Df P w K mg base "_law_far_right" ["_law_box_here"] 9 gu)(dM:Df P w K mg base "telling" ["one","other"] 6 (gA K C))(xL:Df P w K mg base "agree" ["one","other"] 7 (iz K C))(xN:Df P w K mg base "_law_is" ["_law_found","_law_due"] 1 kJ):Ht P w K mg base aF 10 f fd ["_law_script"] (j9 K):=by
 refine F.dq Gp (fun vs H Q E h=>?_) (fun cdv A outer s H vs Q E hr h=>?_)
 ·obtain⟨x,ns,rfl,_⟩:=h
  rfl
 ·obtain⟨sc,ns,rfl,hS,hlen,q⟩:=h
  refine⟨_,(qd (qE (zL (zh (qo xJ hr.mo (qc (qo xZ hr.mo (qc (qv 0) (qc qe qa))) qa)))) (qf (qk Qo)) qt)
   (qd (zz J0 rfl (zK rfl T.b_range (qc (ql qC qe (qp zm T.b_len DW (qc (Q4 nY (qv 0) ZM (ZC qe)) qa))) qa)) (qg (i:=1) Gp.nd rfl (Or.inl rfl))
   (qd (qA (i:=2) Gp.nd rfl (Or.inl rfl) (qo xZ hr.mo (qc (qv 0) (qc (qv 1) qa))))
   (qd (qA (i:=3) Gp.nd rfl (Or.inl rfl) (qo dA hr.mo (qc (qv 2) (qc qe qa))))
   (qd (qA (i:=4) Gp.nd rfl (Or.inl rfl) (qw qF (zc (qc qe (qc qe (qc (ql zT qe (qo dA hr.mo (qc (qv 2) (qc qe qa)))) (qc qe qa))))) (qo dA hr.mo (qc (qv 2) (qc qe qa)))))
   (qd (qE (qx zx (ql zR (qv 3) qe) qe (qr _)) (qf (qA (i:=4) Gp.nd rfl (Or.inl rfl) (ql qC qe (qo dA hr.mo (qc (qv 2) (qc qe qa)))))) qt)
   (qd (zi (qo yA hr.mo (qc (qv 2) (qc (qv 3) (qc (qv 4) qa)))) (zu rfl (qm (qg (i:=5) Gp.nd rfl (Or.inr rfl)) (qm (qg (i:=6) Gp.nd rfl (Or.inl rfl)) qP))))
   (qd (zi (qv 6) (zu rfl (qm (zu rfl (qm (qg (i:=7) Gp.nd rfl (Or.inl rfl)) (qm (qg (i:=8) Gp.nd rfl (Or.inl rfl)) qP))) (qm (zu rfl (qm (qg (i:=9) Gp.nd rfl (Or.inl rfl)) (qm (qg (i:=10) Gp.nd rfl (Or.inl rfl)) qP))) qP))))
   (qd (qA (i:=11) Gp.nd rfl (Or.inl rfl) (qo dM hr.mo (qc (qv 7) (qc (qv 9) qa))))
   (qd (qE (zL (zh (qo xN hr.mo (qc (qo xL hr.mo (qc (qv 7) (qc (qv 9) qa))) (qc (zp zX (qv 11) qM (qr _)) qa))))) (qf (qk Qo)) qt)
   (qd (qE (QW.pt (mH (qx kO (qv 3) (qu (qc qe (qc qe qa))) (by rfl)) (il (qx ZI (qv 11) qM (qr _))))) (qf (qk Qo)) qt)
   (qd (qE (qx ZI (qv 11) qM (qr _)) (qf nB) qt)
   (qf (zz J0 rfl (zK rfl T.b_range (qc qe qa)) (qg (i:=12) Gp.nd rfl (Or.inl rfl))
   (qd (sW (i:=13) (j:=14) rfl Gp.nd rfl rfl (by decide) rfl rfl (qc (qw qF (zc (qc qz (qc qz (qc qz qa)))) (qo dA hr.mo (qc (qv 2) (qc qe qa)))) (qc (qo dA hr.mo (qc (qv 2) (qc qe qa))) qa)))
   (qd (qA (i:=15) Gp.nd rfl (Or.inr rfl) (qu (qc (qv 13) (qc (qv 14) (qc (qp (Zd rfl) T.b_min PyProof.Rows.boot_min (qc qe (qc (ql qC (ql zT (qv 4) qe) (qo dA hr.mo (qc (qv 2) (qc qe qa)))) qa))) qa)))))
   (qd (iE (i:=16) Gp.nd rfl (Or.inl rfl) (own:=["_law_door"]) (fr:=["_law_plain","_law_code"]) (js:=[15,5]) rfl (ZU (qu (qc (qv 7) (qc (qv 9) qa)))) rfl (vX rfl rfl) rfl (vd rfl (by decide +kernel) (by decide +kernel) (by decide +kernel) rfl rfl rfl rfl rfl rfl) (fun _ _ _ _=>qg (i:=0) (show List.Nodup (["_law_door","_law_plain","_law_code"]:List Str)from by decide +kernel) rfl (Or.inl rfl) (.inr rfl)) (fun _ _ _ _=>(zp zx (qw (eO (K:=K) rfl) (qZ dX U.cl hr.mo (qv 0) (qc (qo dJ hr.mo (qc (qv 2) (qc (qv 1) (qc qe qa)))) qa)) qe) qz (qr _))))
   (qd (qE (QW.pt (zZ (qx Z9 (qw qF (qv 16) qe) (qw qF (qv 16) qe) (qr _)) (zZ (qx Z9 (qo dD hr.mo (qc (qv 8) (qc (qv 15) qa))) (qw qF (qv 16) qe) (qr _)) (zS (qx Z9 (qo dD hr.mo (qc (qv 10) (qc (qv 15) qa))) (qw qF (qv 16) qe) (qr _)))))) (qf (qk Qo)) qt)
   (qf (qE (qx mW (qo xL hr.mo (qc (qv 7) (qc (qv 9) qa))) Qo (qr _)) (qf (qk Qo)) qt)))))))))))))))))))
   (qf (qk Qo)))),?_⟩
  refine⟨_,rfl,sc,ns,9,rfl,hS,fun b0 Hb0 fb0 sb0 bx0=>⟨b0,0,rfl,bx0,by decide,fun Hc mc=>⟨_,rfl,zk ?_⟩⟩⟩
  have SC:FV H Hc:=fun c o e=>mc c o (zf (qj e fb0)) (sb0 c o e)
  have hSc:=SC.seq hS;clear mc bx0 sb0;refine⟨_,rfl,_,rfl,sc,_,rfl,hSc,fun l0 hl0=>⟨l0,_,rfl,.inl (F6.of qb),_,_,rfl,rfl,_,rfl,?_,?_,?_⟩⟩
  ·lia
  ·rw[aE,Je]
   have:(Z3 ns none (some 2)).length<=ns.length:=by unfold Z3;rw[Ed,Fo];lia
   lia
  have u0:=FV.upd (o:= .lst (ZN (ns.map V.int) none (some 2))) hl0
  have hS0:=u0.seq hSc;generalize F2 Hc l0 (.lst (ZN (ns.map V.int) none (some 2)))=Ha at *
  refine Qn (Pv:=fun k σ Hx=>FV Ha Hx/\∃(o1 o2 o3 o4 o5 o6 o7 o8 o9 p1 p2 p3 p4 p5 p6 p7:Option V),σ=[some (.ref sc),o1,o2,o3,o4,o5,o6,o7,o8,o9,p1,p2,p3,p4,p5,p6,p7]) ⟨FV.refl _,none,none,none,none,none,none,none,none,none,none,none,none,none,none,none,none,rfl⟩ ?_ ?_
  ·rintro k σ H1 hk ⟨s1,o1,o2,o3,o4,o5,o6,o7,o8,o9,p1,p2,p3,p4,p5,p6,p7,rfl⟩
   refine⟨_,rfl,_,rfl,sc,ns,k,by simp,s1.seq hS0,fun b H2 fb s2 bx2=>?_⟩
   refine⟨_,rfl,b,10,0,rfl,bx2,by decide,by decide,by decide,fun way H3 w0 w9 g3=>?_⟩
   refine⟨_,rfl,b,30,_,rfl,g3.bx,by decide,by decide,by decide,fun r1 H4 r10 r11 g4=>⟨_,_,rfl,rfl,FP,fun l1 hl1=>?_⟩⟩
   have v1:=FV.upd (o:= .lst [.int 10,.int 4094,.int (4095-r1),.int 4085]) hl1
   have n1:=ac g4.bx hl1;have g4':=(g3.trans g4).same v1;refine⟨_,rfl,b,4,_,rfl,g4'.bx,by decide,by decide,by decide,fun r2 H5 r20 r21 g5=>?_⟩
   obtain⟨last0,hat,la0,la1⟩:∃l:Int,Ql [V.int 10,.int 4094,.int (4095-r1),.int 4085] r2=some (.int l)/\10<=l/\l<=4095:=by
    have hr:r2=0\/r2=1\/r2=2\/r2=3:=by lia
    rcases hr with rfl|rfl|rfl|rfl
    ·exact⟨10,rfl,by decide,by decide⟩
    ·exact⟨4094,rfl,by decide,by decide⟩
    ·exact⟨4095-r1,rfl,by lia,by lia⟩
    ·exact⟨4085,rfl,by decide,by decide⟩
   refine⟨l1,_,_,_,rfl,rfl,F6.of (g5.kp _ _ n1 qb),hat,?_⟩
   have G5:=g4'.trans g5;clear v1 n1 g4' g5 g4 g3 hat hl1;refine Za (fun σ' H'=>∃last:Int,HI b 10 H2 H'/\10<=last/\last<=4095/\(way%5=2->4060<=last)/\σ'=[some (.ref sc),some (.int (0+(k:Int))),some (.ref b),some (.int way),some (.int last),o5,o6,o7,o8,o9,p1,p2,p3,p4,p5,p6,p7]) (fun D0 hrt hnx=>?_) ?_
   ·refine⟨_,rfl,_,_,rfl,rfl,(by decide:(0:Int)<5),rfl,_,rfl,qQ (fun y=>?_) (fun y=>hnx _ _ ⟨last0,G5.mono (by decide),la0,la1,fun z=>absurd (Jg (show V.int (way%5)=V.int 2 by rw[z])) y,rfl⟩)⟩
    refine⟨_,rfl,b,36,_,rfl,G5.bx,by decide,by decide,by decide,fun r3 H6 r30 r31 g6=>⟨_,_,rfl,rfl,hnx _ _ ⟨4060+r3,(G5.trans g6).mono (by decide),by lia,by lia,fun _=>by lia,rfl⟩⟩⟩
   clear G5
   rintro σ H6 ⟨last,G6,l10,l95,l60,rfl⟩
   refine⟨_,rfl,_,rfl,_,rfl,b,10,way,last,rfl,G6.bx,by decide,w0,w9,l10,l95,l60,fun qq cd tb kt pl t kss x y H7 pw eqq hC k3 mx my lx ly hkk ag=>?_⟩
   refine⟨qq,_,rfl,.tup eqq,rfl,_,_,rfl,_,_,rfl,rfl,?_⟩
   have en0:=pw.en 0 x rfl;have en1:=pw.en 1 y rfl;refine⟨_,rfl,pl,_,rfl,.lst pw.pe,rfl,_,_,rfl,?_⟩
   refine⟨x.1.e,_,rfl,.tup en0.tu,rfl,_,_,rfl,_,_,rfl,rfl,?_⟩
   refine⟨_,_,rfl,y.1.e,_,rfl,.tup en1.tu,rfl,_,_,rfl,_,_,rfl,rfl,rfl,?_⟩
   have base7:∀c o,Ha c=some o->H6 c=some o:=fun c o e=>by
    have nb:c≠b:=fun z=>by rw[z]at e;rw[s1 _ _ e]at fb;cases fb
    exact G6.kp c o nb (s2 _ _ (s1 _ _ e))
   have nbA:∀c o,Ha c=some o->c≠b:=fun c o e z=>by rw[z]at e;rw[s1 _ _ e]at fb;cases fb
   have bd:∀{Hz:Hp} {cc:Nat} {xs:List En},Pw K C H6 Hz b cc pl xs->FV Ha Hz:=fun p c o e=>p.s c o (zf (nbA c o e)) (base7 c o e)
   clear G6 s2 bx2 fb s1;obtain⟨⟨y0,D,L⟩,ex⟩:∃z:En,z=x:=⟨_,rfl⟩
   obtain⟨⟨y1,D',L'⟩,ey⟩:∃z:En,z=y:=⟨_,rfl⟩
   subst ex;subst ey;simp only at en0 en1 mx my lx ly hkk ag
   have tp:t.Perm Gx:=mx.hr.t▸mx.hr.ok.tp
   refine⟨_,rfl,_,rfl,y0.a.p,y0.a.ta,y0.a.hk,y0.a.bd,y0.a.lg,_,D,y1.a.p,y1.a.ta,y1.a.hk,y1.a.bd,y1.a.lg,_,D',rfl,en0.dl.dr,en1.dl.dr,mx.td,my.td,mx.xs my,fun u ns1 H8 s8 nd1 mem1 sn1 tv=>?_⟩
   have pw8:=pw.same s8;have hC8:=hC.same s8;have e0:=en0.same s8;have e1:=en1.same s8;refine⟨_,rfl,_,rfl,y0.a.p,y0.a.ta,y0.a.hk,y0.a.bd,y0.a.lg,_,D,y1.a.p,y1.a.ta,y1.a.hk,y1.a.bd,y1.a.lg,_,D',rfl,e0.dl.dr,e1.dl.dr,mx.td,my.td,mx.xs my,fun ns2 H9 s9 nd2 mem2 sn2=>⟨_,rfl,rfl,(zJ D D' ns1).isNone,?_,⟨_,rfl,zk ?_⟩⟩⟩
   ·rw[rb nd2 nd1 sn2 sn1 fun k=>(mem2 k).trans (mem1 k).symm,wB tv];rfl
   have pw9:=pw8.same s9;have hC9:=hC8.same s9;clear pw pw8 hC hC8 e0 e1 en0 en1 s8 s9;refine Bu (fun σ' H'=>FV H9 H'/\σ'=[some (.ref sc),some (.int (0+(k:Int))),some (.ref b),some (.int way),some (.int last),some (.ref cd),some (.ref pl),some (.ref y0.a.p),some (.ref y0.m),some (.ref y1.a.p),some (.ref y1.m),some u,p3,p4,p5,p6,p7]) (fun D0 hrt hnx=>?_) ?_
   ·refine⟨_,rfl,FN,fun tt htt=>⟨tt,_,rfl,.inr (F7.of qb),rfl,rfl,_,rfl,qQ (fun h=>?_) (fun h=>hnx _ _ ⟨FV.upd htt,rfl⟩)⟩⟩
    refine⟨_,rfl,rfl,_,rfl,qQ (fun h2=>?_) (fun h2=>hnx _ _ ⟨FV.upd htt,rfl⟩)⟩
    exfalso
    have nw:way≠4/\way≠9:=⟨fun z=>by rw[z]at h;revert h;decide,fun z=>by rw[z]at h;revert h;decide⟩
    have tn:=(ag nw.1 nw.2).tell mx.td my.td ns1;rw[tn]at tv;have tv:u= .non:=tv
    rw[tv]at h2;revert h2;decide
   rintro σ Hd ⟨sd,rfl⟩
   have pwd:=pw9.same sd;have hCd:=hC9.same sd;refine⟨_,rfl,rfl,_,rfl,qQ (fun h2=>?_) (fun h2=>?_)⟩
   ·exact⟨bd pwd,_,_,_,_,_,_,_,_,_,_,_,_,_,_,_,_,rfl⟩
   have tn:zJ D D' ns1=none:=by
    cases e:zJ D D' ns1 with
    |none=>rfl
    |some r=>
     rw[e]at tv;obtain⟨t,as,rfl,_⟩:=tv;exact absurd rfl h2
   have g0:=AI mx.td my.td hkk mem1 tn;clear tv tn ag mem1 nd1 sn1 pw9 hC9 sd h2;refine⟨_,rfl,by decide,by decide,?_⟩
   have lk3:(kss.length:Int)=3:=by rw[k3];rfl
   refine Qn (n:=14) (Pv:=fun j σ Hx=>∃D D' L L',Pw K C H6 Hx b (110+4*j) pl [(y0,D,L),(y1,D',L')]/\GL Hx cd tb kt t kss/\HK t kss D/\HK t kss D'/\HV D D'/\L.length<=10+2*j/\L'.length<=10+2*j/\∃p3 p4 p5 p6 p7,σ=[some (.ref sc),some (.int (0+(k:Int))),some (.ref b),some (.int way),some (.int last),some (.ref cd),some (.ref pl),some (.ref y0.a.p),some (.ref y0.m),some (.ref y1.a.p),some (.ref y1.m),some u,p3,p4,p5,p6,p7]) ⟨D,D',L,L',pwd,hCd,mx,my,g0,lx,ly,_,_,_,_,_,rfl⟩ ?_ ?_
   ·clear pwd hCd mx my g0 lx ly hkk
    rintro j σ Hx hj ⟨D,D',L,L',pw,hC,mx,my,g,lx,ly,p3,p4,p5,p6,p7,rfl⟩
    have j14:j<14:=hj
    refine⟨FO,fun ln hln=>?_⟩
    have v1:=FV.upd (o:= .lst [.str "ab",.str "ab",.str "a"]) hln
    have n1:=ac pw.bx hln;have pw1:=pw.same v1;have hC1:=hC.same v1;refine⟨_,rfl,b,3,_,rfl,pw1.bx,by lia,by decide,by decide,fun r1 H2 r10 r11 g2=>?_⟩
    obtain⟨nm,hat,hnm⟩:∃nm:Str,Ql [V.str "ab",.str "ab",.str "a"] r1=some (.str nm)/\QQ nm:=by
     have hr:r1=0\/r1=1\/r1=2:=by lia
     rcases hr with rfl|rfl|rfl
     ·exact⟨"ab",rfl,eY⟩
     ·exact⟨"ab",rfl,eY⟩
     ·exact⟨"a",rfl,AN⟩
    have pw2:=pw1.grc g2;have hC2:=hC1.mv g2.mv (zV pw1.bx);refine⟨ln,_,_,_,rfl,rfl,F6.of (g2.kp _ _ n1 qb),hat,_,rfl,b,3,_,rfl,pw2.bx,by lia,by decide,by decide,fun age H3 a0 a1 g3=>⟨_,_,rfl,?_⟩⟩
    have pw3:=pw2.grc g3;have hC3:=hC2.mv g3.mv (zV pw2.bx);clear v1 n1 pw1 hC1 g2 pw2 hC2 g3 hat pw hC hln;refine⟨_,rfl,_,rfl,_,rfl,_,_,rfl,rfl,_,rfl,b,22,_,rfl,pw3.bx,by lia,by decide,by decide,fun r2 H4 r20 r21 g4=>⟨_,_,rfl,rfl,_,_,rfl,FO,fun pt hpt=>?_⟩⟩
    have pw4:=pw3.grc g4;have hC4:=hC3.mv g4.mv (zV pw3.bx);clear g4 pw3 hC3;have hN:0<=(if last-3+r2<4095 then last-3+r2 else 4095)/\(if last-3+r2<4095 then last-3+r2 else 4095)<4096:=by split<;>lia
    have v4:=FV.upd (o:= .tup [.str nm,.int age,.int (if last-3+r2<4095 then last-3+r2 else 4095)]) hpt
    have pw5:=pw4.same v4;have hC5:=hC4.same v4;have ept:=qb (H:=H4) (a:=pt) (o:= .tup [.str nm,.int age,.int (if last-3+r2<4095 then last-3+r2 else 4095)])
    obtain⟨N,eN⟩:∃N:Int,N=if last-3+r2<4095 then last-3+r2 else 4095:=⟨_,rfl⟩
    rw[<- eN]at hN;generalize F2 H4 pt (.tup [.str nm,.int age,.int (if last-3+r2<4095 then last-3+r2 else 4095)])=H5 at *
    rw[<- eN]at ept;clear v4 hpt pw4 hC4;refine⟨_,rfl,_,rfl,FN,fun tq htq=>⟨tq,rfl,⟨_,F7.of qb⟩,?_⟩⟩
    have v6:=FV.upd (o:= .tup [.ref y0.a.p,.ref y1.a.p]) htq
    have etq:=qb (H:=H5) (a:=tq) (o:= .tup [.ref y0.a.p,.ref y1.a.p])
    have pw6:=pw5.same v6;have hC6:=hC5.same v6;have ept6:=v6 _ _ ept;generalize F2 H5 tq (.tup [.ref y0.a.p,.ref y1.a.p])=Hq at *
    clear v6 htq pw5 hC5 ept;have en0:=pw6.en 0 _ rfl;have en1:=pw6.en 1 _ rfl;simp only at en0 en1
    have dj:∀z∈eS y0,z∉eS y1:=pw6.dj 0 1 _ _ (by decide) rfl rfl
    have dj':∀z∈eS y1,z∉eS y0:=pw6.dj 1 0 _ _ (by decide) rfl rfl
    have N6:NT (eS y0++eS y1) Hq:=fun z hz=>by
     rcases JC.mp hz with hz|hz
     ·exact en0.nt z hz
     ·exact en1.nt z hz
    obtain⟨DD,eDD⟩:∃F:Dr,F={D with kn:=F8 D nm age N}:=⟨_,rfl⟩
    obtain⟨DD',eDD'⟩:∃F:Dr,F={D' with kn:=F8 D' nm age N}:=⟨_,rfl⟩
    obtain⟨w0',ew0⟩:∃x:Bool,x=decide (qR D nm age N="open"):=⟨_,rfl⟩
    obtain⟨w1',ew1⟩:∃x:Bool,x=decide (qR D' nm age N="open"):=⟨_,rfl⟩
    refine ZB (K:=K) (a:=tq) (xs:=[.ref y0.a.p,.ref y1.a.p]) (FN) (fun i ys Hy=>Mv (eS y0++eS y1) Hq Hy/\(∃La,La.length<=L.length+i/\GX K C Hy y0 (if i=0 then D else DD) La D)/\(∃Lb,Lb.length<=L'.length+i/\GX K C Hy y1 (if i<=1 then D' else DD') Lb D')/\ys=[V.bl w0',.bl w1'].take i) ⟨fun _ _ _ e=>e,⟨L,Jf _,en0⟩,⟨L',Jf _,en1⟩,rfl⟩ (fun i ys Hy h=>F7.of (h.1.tup N6 etq)) ?_ ?_
    ·rintro i ys Hy xv hxv hyl ⟨m1,⟨La,la,ea⟩,⟨Lb,lb,eb⟩,rfl⟩
     have hCy:=hC6.mv m1 N6;have epy:=m1.tup N6 ept6;have okP:=aR (kss:=kss) (age:=age) tp hnm hN.1 hN.2 (d:=5) ⟨by decide,by decide⟩
     have hi:i=0\/i=1:=by have:=(JH.mp hxv).1;have:i<2:=this;lia
     rcases hi with rfl|rfl
     ·cases hxv
      have ea:GX K C Hy y0 D La D:=ea
      have eb:GX K C Hy y1 D' Lb D':=eb
      refine⟨_,rfl,y0.a.p,rfl,ea.dl.dr.no,_,rfl,_,rfl,cd,tb,kt,pt,t,kss,nm,age,N,5,rfl,hCy,epy,tp,hnm,a0,by lia,hN.1,hN.2,⟨by decide,by decide⟩,fun pr H2 s2 hpr=>?_⟩
      have ea2:=ea.same s2;refine⟨y0.a,D,La,.ref pr,some (Qg t kss nm age N 5),rfl,ea2.dl,by lia,mx.hr.ok,⟨pr,rfl,hpr,okP⟩,(fun z=>by cases z),fun PP hP pr' q' H3 hpr' m3 _ hq' d3=>?_⟩
      cases hP;rw[av mx.hr hN.1 hN.2 ⟨by decide,by decide⟩]at d3 hq'
      rw[db]at d3;have m3':=gt m3;have ea3:=ea2.door m3' d3;rw[<- eDD]at ea3;have pes:Mv (eS y0) H2 H3:=Zj m3'
      obtain⟨hw1,hw2⟩:=jm D nm age N 5 mx.hr.f0;obtain⟨z,hz,hg⟩:∃z:Str,Ql (qT D nm age (some (N,5))).1 0=some (.str z)/\decide (V.str z=V.str "open")=w0':=by
       rw[ew0]
       by_cases ho:qR D nm age N="open"
       ·exact⟨"open",Qk (j:=0) (hw1 ho),by rw[Jg rfl,Jg ho]⟩
       ·exact⟨"held",Qk (j:=0) (hw2 ho),by rw[Jm ho];exact Jm (by intro z;injection z with z;exact absurd z (by decide))⟩
      refine⟨q',_,_,_,rfl,rfl,F7.of hq',hz,rfl,m1.trans (s2.mv.trans (pes.mono (fun c h z=>h (JC.mpr (.inl z))))),⟨_,by rw[Jw];exact EA la,ea3⟩,⟨Lb,Nat.le_succ_of_le lb,by show GX K C H3 y1 D' _ D';exact(eb.same s2).mv pes ea2.nt dj'⟩,?_⟩
      rw[hg];rfl
     ·cases hxv
      have ea:GX K C Hy y0 DD La D:=ea
      have eb:GX K C Hy y1 D' Lb D':=eb
      refine⟨_,rfl,y1.a.p,rfl,eb.dl.dr.no,_,rfl,_,rfl,cd,tb,kt,pt,t,kss,nm,age,N,5,rfl,hCy,epy,tp,hnm,a0,by lia,hN.1,hN.2,⟨by decide,by decide⟩,fun pr H2 s2 hpr=>?_⟩
      have eb2:=eb.same s2;refine⟨y1.a,D',Lb,.ref pr,some (Qg t kss nm age N 5),rfl,eb2.dl,by lia,my.hr.ok,⟨pr,rfl,hpr,okP⟩,(fun z=>by cases z),fun PP hP pr' q' H3 hpr' m3 _ hq' d3=>?_⟩
      cases hP;rw[av my.hr hN.1 hN.2 ⟨by decide,by decide⟩]at d3 hq'
      rw[db]at d3;have m3':=gt m3;have eb3:=eb2.door m3' d3;rw[<- eDD']at eb3;have pes:Mv (eS y1) H2 H3:=Zj m3'
      obtain⟨hw1,hw2⟩:=jm D' nm age N 5 my.hr.f0;obtain⟨z,hz,hg⟩:∃z:Str,Ql (qT D' nm age (some (N,5))).1 0=some (.str z)/\decide (V.str z=V.str "open")=w1':=by
       rw[ew1]
       by_cases ho:qR D' nm age N="open"
       ·exact⟨"open",Qk (j:=0) (hw1 ho),by rw[Jg rfl,Jg ho]⟩
       ·exact⟨"held",Qk (j:=0) (hw2 ho),by rw[Jm ho];exact Jm (by intro z;injection z with z;exact absurd z (by decide))⟩
      refine⟨q',_,_,_,rfl,rfl,F7.of hq',hz,rfl,m1.trans (s2.mv.trans (pes.mono (fun c h z=>h (JC.mpr (.inr z))))),⟨La,Nat.le_succ_of_le la,by show GX K C H3 y0 DD _ D;exact(ea.same s2).mv pes eb2.nt dj⟩,⟨_,by rw[Jw];exact EA lb,eb3⟩,?_⟩
      rw[hg];rfl
    rintro ys Hy hyl ⟨m1,⟨La,la,ea⟩,⟨Lb,lb,eb⟩,hys⟩ lo hlo
    obtain rfl:ys=[.bl w0',.bl w1']:=hys
    have ea:GX K C Hy y0 DD La D:=ea
    have eb:GX K C Hy y1 DD' Lb D':=eb
    have la:La.length<=L.length+2:=la
    have lb:Lb.length<=L'.length+2:=lb
    have nlo:lo∉eS y0/\lo∉eS y1:=⟨fun z=>ea.some z hlo,fun z=>eb.some z hlo⟩
    have hww:w0'=w1':=by
     rw[ew0,ew1];exact g.opn mx.td my.td (nm:=nm) a0 (by rw[mx.hr.ks];lia) (by lia)
    have vo:=FV.upd (o:= .lst [.bl w0',.bl w1']) hlo
    have elo:=qb (H:=Hy) (a:=lo) (o:= .lst [.bl w0',.bl w1'])
    have m2:=m1.trans vo.mv;have ea:=ea.same vo;have eb:=eb.same vo;generalize F2 Hy lo (.lst [.bl w0',.bl w1'])=H7 at *
    clear vo hlo m1;subst hww;have nb:∀x:Bool,(!decide (V.bl x=V.bl x))=false:=fun x=>by rw[Jg rfl];rfl
    refine⟨_,rfl,lo,_,_,_,rfl,rfl,F6.of elo,rfl,_,rfl,lo,_,_,_,rfl,rfl,F6.of elo,rfl,rfl,_,rfl,Qa (nb _) ?_⟩
    refine⟨_,rfl,_,rfl,y0.m,y0.kd,pt,D,nm,age,N,rfl,ea.md,m2.tup N6 ept6,mx.hr.ok,mx.hr.f0,fun H8 m8 md8=>?_⟩
    rw[<- ew0];have ea8:=ea.model m8 md8;have pe8:Mv (eS y0) H7 H8:=Zc m8
    have eb8:=eb.mv pe8 ea.nt dj';have elo8:=pe8 _ _ nlo.1 elo;have m28:=m2.trans (pe8.mono (fun c h z=>h (JC.mpr (.inl z))))
    refine⟨_,rfl,lo,_,_,_,rfl,rfl,F6.of elo8,rfl,rfl,_,rfl,Qa (nb _) ?_⟩
    refine⟨_,rfl,_,rfl,y1.m,y1.kd,pt,D',nm,age,N,rfl,eb8.md,m28.tup N6 ept6,my.hr.ok,my.hr.f0,fun H9 m9 md9=>?_⟩
    rw[<- ew1];have eb9:=eb8.model m9 md9;have pe9:Mv (eS y1) H8 H9:=Zc m9
    have ea9:=ea8.mv pe9 eb8.nt dj;have elo9:=pe9 _ _ nlo.2 elo8;have m29:=m28.trans (pe9.mono (fun c h z=>h (JC.mpr (.inr z))))
    refine⟨_,rfl,lo,_,_,_,rfl,rfl,F6.of elo9,rfl,rfl,_,rfl,Qa (nb _) ?_⟩
    rw[<- eDD]at ea9;rw[<- eDD']at eb9;have pwz:=pw6.step2 m29 ea9 eb9;have mx2:HK t kss DD:=by rw[eDD];exact mx.hear hN.1 hN.2
    have my2:HK t kss DD':=by rw[eDD'];exact my.hear hN.1 hN.2
    have g2:HV DD DD':=by rw[eDD,eDD'];exact g.hear mx.td my.td (by lia)
    refine⟨_,rfl,_,rfl,y0.a.p,y0.a.ta,y0.a.hk,y0.a.bd,y0.a.lg,_,DD,y1.a.p,y1.a.ta,y1.a.hk,y1.a.bd,y1.a.lg,_,DD',rfl,ea9.dl.dr,eb9.dl.dr,mx2.td,my2.td,mx2.xs my2,fun ns2 Hz sz nd2 mem2 sn2=>⟨_,true,rfl,rfl,_,rfl,Qa ?_ ⟨DD,DD',La,Lb,(pwz.same sz).mono (by lia),(hC6.mv m29 N6).same sz,mx2,my2,g2,by lia,by lia,_,_,_,_,_,rfl⟩⟩⟩
    rw[g2.tell mx2.td my2.td];rfl
   ·rintro σ Hx ⟨D,D',L,L',pw,_,_,_,_,_,_,p3,p4,p5,p6,p7,rfl⟩
    exact⟨bd pw,_,_,_,_,_,_,_,_,_,_,_,_,_,_,_,_,rfl⟩
  rintro σ Hx ⟨_,o1,o2,o3,o4,o5,o6,o7,o8,o9,p1,p2,p3,p4,p5,p6,p7,rfl⟩
  exact q _
end
theorem BP{l:W.OpenLaw}{w:Ω}{K:ι}{h:Ψ}{mg:FT}{fa:Δ}(X:K.In h)(G:h.Ns η mg)(hfa:mg "law"=some (.ref fa))
  {C:Δ}
  (aCD:W.nsIn K η "Door"=some (some (.ref C)))
  (pgD:W.plainGet K C Str.empty=true)
  (hdD:W.hasDictIn K C=true)
  (poD:W.plainOver K C=true)
  (saD:W.findIn K (.ref C) "__setattr__"=some (some (.builtin "object.__setattr__")))
  (mkD:W.makesIn K C=true)
  (kcD:W.keepIn K (.ref C)=true)
  (Fs:W.findIn K (.ref C) "table"=some none)
  (pi:W.findIn K (.ref C) "house_keys"=some none)
  (Go:W.findIn K (.ref C) "near"=some none)
  (Gs:W.findIn K (.ref C) "far"=some none)
  (Fz:W.findIn K (.ref C) "most"=some none)
  (Fa:W.findIn K (.ref C) "least_age"=some none)
  (Fr:W.findIn K (.ref C) "buttons"=some none)
  (Gr:W.findIn K (.ref C) "log"=some none)
  (A0:Ac K mg "is_number" br)
  (A1:Ac K mg "is_digit" ca)
  (A2:Ac K mg "are_digits" aI)
  (A3:Ac K mg "back_table" aD)
  (A4:Ac K mg "coded" iN)
  (A5:Ac K mg "decoded" cZ)
  (A6:Ac K mg "is_name" cX)
  (A7:Ac K mg "is_code" c6)
  (A8:Ac K mg "is_press" bR)
  (A9:Ac K mg "letter_digits" Zt)
  (A10:Ac K mg "key_of" gc)
  (A11:Ac K mg "count_digits" ZG)
  (A12:Ac K mg "press_of" bN)
  (A13:Ac K mg "read_press" az)
  (A14:Ac K mg "word_of" cJ)
  (A15:Ac K mg "step_by" eE)
  (A16:HW K C "__init__" "Door.__init__" QX)
  (A17:HW K C "is_full" "Door.is_full" ZO)
  (A18:HW K C "button_of" "Door.button_of" Q6)
  (A19:HW K C "takes_age" "Door.takes_age" Q3)
  (A20:HW K C "takes_from" "Door.takes_from" QP)
  (A21:HW K C "plain_step" "Door.plain_step" Qh)
  (A22:HW K C "answer_to" "Door.answer_to" Q2)
  (A23:HW K C "hear" "Door.hear" bo)
  (A24:HW K C "read_right" "Door.read_right" QN)
  (A25:HW K C "learn" "Door.learn" aJ)
  (A26:HW K C "close_below" "Door.close_below" QD)
  (A27:HW K C "known_now" "Door.known_now" Q9)
  (A28:HW K C "keys_now" "Door.keys_now" Zn)
  (A29:HW K C "closed_now" "Door.closed_now" QM)
  (A30:HW K C "bounds_told" "Door.bounds_told" Qw)
  (A31:Ac K mg "stretches_of" ZP)
  (A32:Ac K mg "opens_at" cp)
  (A33:Ac K mg "names_known" Z2)
  (A34:Ac K mg "lesser_end" aK)
  (A35:Ac K mg "counts_in" bi)
  (A36:Ac K mg "least_apart" Z4)
  (A37:Ac K mg "press_apart" Z1)
  (A38:Ac K mg "pair_apart" aC)
  (A39:Ac K mg "telling" cW)
  (A40:Ac K mg "agree" ie)
  (A41:Ac K mg "_law_box" eC)
  (A42:Ac K mg "_law_take" cu)
  (A43:Ac K mg "_law_table" bt)
  (A44:Ac K mg "_law_key" dh)
  (A45:Ac K mg "_law_model" bv)
  (A46:Ac K mg "_law_word" bP)
  (A47:Ac K mg "_law_hear" cv)
  (A48:Ac K mg "_law_press" bu)
  (A49:Ac K mg "_law_learnt" ax)
  (A50:Ac K mg "_law_heard" bb)
  (A51:Ac K mg "_law_alike" bh)
  (A52:Ac K mg "_law_made" bW)
  (A53:Ac K mg "_law_is" gl)
  (A54:Ac K mg "_law_far_right" Zq)
  {f55:Δ}{od55 an55:Option Δ}{sl55:Array (Option Γ)}{oc55 kV55 dc55 pm55 cd55 ct55:Γ}
  (a55:W.nsIn K η "law"=some (some (.ref f55)))
  (l55:K.lookup f55=some ⟨oc55,od55,.func (W.fnOf "law" "law" (Qq Z7) (zF Z7) (qh Z7) .none kV55 dc55 pm55 an55 cd55 ct55),sl55⟩)
  (c55:W.codeIn K cd55 "law"=true)
  (k55:W.keepIn K (.ref f55)=true)
  {t0:Tok}
  (yg0:W.nsIn K η "DIGITS"=some (some (.int 16 t0)))
  {t1:Tok}
  (yg1:W.nsIn K η "KEY_PLACES"=some (some (.int 4 t1)))
  {t2:Tok}
  (yg2:W.nsIn K η "LONGEST_NAME"=some (some (.int 8 t2)))
  {t3:Tok}
  (yg3:W.nsIn K η "CODE_DIGITS"=some (some (.int 5 t3)))
  {t4:Tok}
  (yg4:W.nsIn K η "COUNTS"=some (some (.int 4096 t4)))
  (z0:W.nsIn K η "isinstance"=some none)
  (z1:W.nsIn K η "bool"=some none)
  (z2:W.nsIn K η "int"=some none)
  (z3:W.nsIn K η "tuple"=some none)
  (z4:W.nsIn K η "all"=some none)
  (z5:W.nsIn K η "any"=some none)
  (z6:W.nsIn K η "len"=some none)
  (z7:W.nsIn K η "abs"=some none)
  (z8:W.nsIn K η "list"=some none)
  (z9:W.nsIn K η "enumerate"=some none)
  (z10:W.nsIn K η "range"=some none)
  (z11:W.nsIn K η "max"=some none)
  (z12:W.nsIn K η "min"=some none)
  (z13:W.nsIn K η "str"=some none)
  (z14:W.nsIn K η "zip"=some none)
  (z15:W.nsIn K η "ord"=some none)
  (z16:W.nsIn K η "sum"=some none)
  (z17:W.nsIn K η "reversed"=some none)
  (z18:W.nsIn K η "sorted"=some none)
  (z19:W.nsIn K η "dict"=some none)
  (z20:W.nsIn K η "set"=some none):
  ∃fd:FuncData,(∀(s:Θ) (v:Γ),BindsTo s fd ⟨[v],[]⟩ [("_law_script",v)])/\∀base:Ψ,K.In base->base.Ns η mg->Ht l.prog w K mg base aF 10 fa fd ["_law_script"] (j9 K):=by
 have e:=hfa.symm.trans (Ep X G a55);cases e;have T:GA K mg (fun i=>if i=0 then t0 else if i=1 then t1 else if i=2 then t2 else if i=3 then t3 else if i=4 then t4 else 0):=⟨Ep X G yg0,Ep X G yg1,Ep X G yg2,Ep X G yg3,Ep X G yg4,JT X G z0,JT X G z1,JT X G z2,JT X G z3,JT X G z4,JT X G z5,JT X G z6,JT X G z7,JT X G z8,JT X G z9,JT X G z10,JT X G z11,JT X G z12,JT X G z13,JT X G z14,JT X G z15,JT X G z16,JT X G z17,JT X G z18,JT X G z19,JT X G z20⟩
 refine⟨W.fnOf "law" "law" (Qq Z7) (zF Z7) (qh Z7) .none kV55 dc55 pm55 an55 cd55 ct55,fun s v=> .of_eq rfl,fun base _ _=>?_⟩
 have U:GW K C:=⟨⟨pgD,hdD,poD,saD⟩,Fs,pi,Go,Gs,Fz,Fa,Fr,Gr⟩
 have dZ:=mt (P:=l.prog) (w:=w) (base:=base) A0.at T
 have x8:=mR A1.at T dZ
 have xU:=jV A2.at T x8
 have xX:=jU (P:=l.prog) (w:=w) (base:=base) A3.at T
 have xS:=wC (P:=l.prog) (w:=w) (base:=base) A4.at T
 have yF:=pS A5.at T xX
 have yD:=pI (P:=l.prog) (w:=w) (base:=base) A6.at T
 have yE:=pL A7.at T xU
 have xA:=nD A8.at T yD dZ yE
 have xI:=f8 (P:=l.prog) (w:=w) (base:=base) A9.at T
 have xP:=sr A10.at T xI xS
 have xO:=gm (P:=l.prog) (w:=w) (base:=base) A11.at T
 have x6:=nj A12.at T xO xP xS
 have dQ:=j4 A13.at T xP yF
 have yG:=rR (P:=l.prog) (w:=w) (base:=base) A14.at T
 have xG:=pD A15.at T yG
 have A16:=A16.at (ps:=["self","table","keys","near","far","most"])
 have yI:=ii (P:=l.prog) (w:=w) (base:=base) A16 T U
 have xV:=yI.mi mkD kcD (Ep X G aCD);have yJ:=(gK (P:=l.prog) (w:=w) (base:=base) A16 T U).mi mkD kcD (Ep X G aCD)
 have xM:=gC (P:=l.prog) (w:=w) (base:=base) A17.at T U
 have dC:=ft (P:=l.prog) (w:=w) (base:=base) A18.at T U
 have dI:=fA (P:=l.prog) (w:=w) (base:=base) A19.at T U
 have dB:=cP A20.at T U dI
 have A21:=A21.at (ps:=["self","button","age","count"])
 have dG:=dz A21 T U dB xG;have G_Door_plain_step:=cD A21 T U dB xG;have xD:=fB A22.at T U dC dB dG dQ
 have dX:=mJ A23.at T U xA xD
 have dP:=eG A24.at T U xA dI dQ
 have xT:=jW A25.at T U dP xM
 have dO:=cG (P:=l.prog) (w:=w) (base:=base) A26.at T U
 have xE:=fC (P:=l.prog) (w:=w) (base:=base) A27.at T U
 have xH:=fL (P:=l.prog) (w:=w) (base:=base) A28.at T U
 have xB:=cM (P:=l.prog) (w:=w) (base:=base) A29.at T U
 have dE:=cI (P:=l.prog) (w:=w) (base:=base) A30.at T U
 have dH:=gM A31.at T U dB dE
 have yB:=nh A32.at T U dC dH
 have xC:=im A33.at T U xE
 have xY:=jR A34.at T U dE
 have xQ:=mB (P:=l.prog) (w:=w) (base:=base) A35.at T
 have xR:=iw A36.at T xQ
 have dL:=iy A37.at T U xH dH xR
 have xW:=jZ A38.at T U xB G_Door_plain_step xY dL
 have dM:=re A39.at T U dC xC dL xW
 have xL:=wq A40.at T dM
 have xZ:=pU (P:=l.prog) (w:=w) (base:=base) A41.at T
 have dA:=nv (P:=l.prog) (w:=w) (base:=base) A42.at T
 have dY:=lh A43.at T dA
 have xF:=rq A44.at T dA
 have dU:=mG (P:=l.prog) (w:=w) (base:=base) A45.at T
 have x9:=mT (P:=l.prog) (w:=w) (base:=base) A46.at T
 have dD:=mS A47.at T x9
 have dJ:=lp A48.at T x6
 have N_law_learnt:=iC A49.at T U xT dJ
 have dW:=lG A50.at T U dX dJ dD
 have dR:=cL (P:=l.prog) (w:=w) (base:=base) A51.at T
 have yA:=nn A52.at T U yJ dO dA dY xF dU N_law_learnt dW
 have xN:=sX (P:=l.prog) (w:=w) (base:=base) A53.at T
 have xJ:=gd A54.at T U yJ dA dY xF dU N_law_learnt dW dM xL yB dR xN
 exact B5 (lY (st:=Z7) l55 c55 k55) T U dX xZ dA dJ dD yA xJ dM xL xN
theorem vt{l:W.OpenLaw}{q:Ξ}{loose:List Str}{XP:(Str->Option Γ)->Ψ->Prop}{YP:Ω->Ψ->Prop}{d:DefRec}{K:Params->ι}(hn:l.most=some 63)(hdf:d.params.defaults=[])
  (hY:∀(w:Ω) (h:Ψ),YP w h->(K w.params).In h)
  (F:∀(w:Ω) (mg:FT) (fa:Δ) (h:Ψ),(K w.params).In h->h.Ns η mg->mg d.name=some (.ref fa)->
   ∃fd:FuncData,(∀(s:Θ) (u:Γ),BindsTo s fd ⟨[u],[]⟩ [("_law_script",u)])/\∀base:Ψ,(K w.params).In base->base.Ns η mg->Ht l.prog w (K w.params) mg base aF 10 fa fd ["_law_script"] (j9 (K w.params))):
  W.WalkO q loose XP YP l.row.toRowW d [] (fun f vs=>PySem.call f vs):=
 L2.Ab (n:=63) (k:=10) (x:="_law_script") (CX:=fun _=>aF) (sp:=fun w=>j9 (K w.params)) hn (by decide) hdf ⟨rfl,by decide,by decide⟩ hY F (fun _ _ a ns hl _ hS=>⟨a,ns,rfl,hS,hl,fun _=>rfl⟩) fun _ _ _ _ _ z=>z
end Lw
structure PySem.W.Fast:Prop where(tw13932967579104385175 tw1349908876145329974 tw16827002896109664309 tw3363139081000434971 tw14107714698912681478 tw14734379531109080624 tw12409981636898294733 tw2629248425869410065 tw5826655495096610561 tw6132254086712519072 tw3392277085046637717 tw11283028511541624730 tw4149655983503807037 tw2832383307940898060 tw13424307952696650292 tw5713938546022201738 tw9310055730125497188 tw7224920664161307511 tw9864048654388725074 tw5941045456364709046 tw11682062857485481796 tw12192612719460518783 tw11035527320790279390 tw14618633360936588511 tw10113259868149156517 tw9950420567082974933 tw4096715648653173698 tw6521668122359018228 tw15483170048787556136 tw12116087955592646891 tw4126067276240685082 tw2509743752004733450 tw9798782197984759832 tw12844344356759346007 tw13525450439454434771 tw4118868647937660760 tw1836572379401712000 tw13071605740974523264 tw13386671103780831226 tw16676185324910034162 tw3496361266847540947 tw10311406140456972756 tw17494849291782160353 tw740262116016805750 tw15510184686150914908 tw7386543847691927710 tw14580929351906317038 tw5560689585988390576 tw11570084277480812671 tw12017604099590214659 tw1762656006430874536 tw2276752064251849150 tw2341899161466992308 tw17155521744303848117 tw6789929821106880909 tw10944029328442859647 tw12978391235712194113 tw6132713167659139782 tw16816317485744018962 tw9710961359140835424 tw10831366427748491155 tw957808291534870811 tw3385316364819946929 tw17135010062818070013 tw9048416762786688629 tw2994430380801812171 tw8566911954785249429 tw18334886495946143358 tw7506964914236293035 tw1122723928822593289 tw15764152281323525163 tw16390017159451114948 tw13784925200597444067 tw6653365451983294938 tw10767510238372784058 tw15216039436268011387 tw9422865794098079444 tw17558582489321535886 tw1948690987979848331 tw8185266482281102959 tw6626485511279476673 tw8301281814761051892 tw5758855874052499254 tw17363412869981635901 tw3833468984217156698 tw2950309748459981060 tw10969900276289029513 tw5643536466511371587 tw11393533866031295746 tw1916881768058433774 tw2699050550662445532 tw499529693076607063 tw10304022050549751048 tw8617929335464050738 tw15279501155004930352 tw16545102439010499329 tw4091075260140707111 tw420760095100154499 tw15206699688264985141 tw5837108074586464173 tw16447888539303606116 tw4790985393657807510 tw1365312989592144658 tw3987940738217426627 tw16311421925781906370 tw4660500430506108106 tw18090598990223738412 tw13330911959887485287 tw3554166148865641586 tw7004567462971892296 tw1853440051238039535 tw264754695293963627 tw11279797122102055126 tw17991097113359427144 tw15710881098405767842 tw17593130034888334319 tw5805494448807214467 tw818672407643547158 tw16403923525864272698 tw6455031867942126688 tw12219642182515398451 tw2005274881401306877 tw8918824578331093673 tw6684265488795018232 tw3116783515082232695 tw330934608141523821 tw2030780188008098792 tw4229557428916944447 tw9734646237314886789 tw5269671604011083304 tw1281590821047098470 tw11168470082194150439 tw14971259676779248906 tw13544798245243239019 tw2980480494906976488 tw10315775042018761631 tw5262625028772962719 tw6901236557350268068 tw15495627055098877917 tw9791194536680945833 tw6333601054462557239 tw18017812942089610547 tw9331886509663554365 tw14911427164397225306 tw18445877778412154907 tw3136238824153773427 tw11227548366587698557 tw8178331316910504074 tw1862576955304195543 tw12227537572493949773 tw12102515002504783324 tw9209104528641208756 tw2174709884808762574 tw12339441674468558202 tw9590899148918124835 tw5950055685618657590 tw7364533550416084309 tw17063556889432955339 tw6882922505202254686 tw15284649324144769982 tw16773444020231185326 tw3450177180836920485 tw11433641346528736452 tw8328202814790536235 tw6145592460120046551 tw2075262724664386680 tw5869628195146285475 tw14452723087275391222 tw11941393995599652919 tw2722318213401212092 tw750362528941198013 tw17527771888294739870 tw4832505798317002597 tw3265275920829934190 tw1842654134875237526 tw10779739451985774800 tw9250388149368985301 tw13960844772721392512 tw14771259080815172937 tw7443806898792474123 tw16390353181358967844 tw5651501723936932548 tw14676130274786512979 tw2264818914578791702 tw4851529576471588919 tw1287871019550732354 tw11570554418188999316 tw2338350379733433193 tw16749001832689505885 tw8647717073612581123 tw548135512108789688 tw5832468897292205834 tw14188564641085827285 tw1230436361944259736 tw9084176566604146137 tw3405907779486946600 tw2050176507342297007 tw7236904874884360768 tw9187144734699107840 tw14157309214828430726 tw12222858990509541154 tw14137688671612308503 tw867465367041117161 tw14384469498338820652 tw16703374606661332853 tw4220933869106867886 tw5969555756933613868 tw11023463992387145528 tw5134671486653858251 tw5087334251086208186 tw17474115915358572107 tw4878351500670220084 tw8729723406392427921 tw16202181471089752977 tw17990833665374121796 tw15983446631899151225 tw1185553432241517259 tw15658703117931224188 tw12204097329027255495 tw4650916664521981794 tw3416645456246055699 tw1129197347301918961 tw4678029518830487385 tw14277331076619748186 tw918961961218848308 tw4198946101186890493 tw3813366731085767437 tw1960175564360967580 tw4249946723861234626 tw1819283750415032043 tw10200584872423684103 tw12502438631636250100 tw247384113841728672 tw10978897811356302858 tw12333202127918349728 tw9961527554179442637 tw8458885707573702191 tw14045005436593139306 tw17855121534720105933 tw5287596716527541279 tw8650228905577962276 tw518134589846112554 tw13308555601859297202 tw4194635178830782491 tw899237153507899333 tw9518404033537572262 tw4657931886093001935 tw2670810548726303805 tw18335257313711248026 tw14242273027244671947 tw9056958186281604591 tw12846322650651325637 tw7839883750658464005 tw18306759660809401465 tw16236258098061647539 tw15724453126967050530 tw7357323988826490155 tw5157414918051611663 tw1684366313186296552 tw13068855236505884434 tw2426998971302041852 tw16420947729568609760 tw3523253236237232301 tw4058728855402947810 tw16151979184495295706 tw14713777914549108529 tw11746558971012920329 tw10661422069537277145 tw10943634658210281680 tw7686704947310499217 tw12009029839391299789 tw10165763084462510317 tw5228956751158895339 tw11589697078982919299 tw1286354947740209930 tw7483589519354648572 tw3161305599592794630 tw15768919129679603050 tw8935216853772538301 tw13513225494338047019 tw6384375813576105996 tw13567001905163392071 tw6459322263615262753 tw10140830602053192279 tw4730458964615696302 tw16738083163278432975 tw18001845688706254835 tw16344746192954981312 tw4839719700161567308 tw8252461204561639363 tw3312060826698343269 tw10164739650976857935 tw5709586879321213344 tw7584276986542650832 tw1031047169224045930 tw6928377143748540740 tw14890147655472027517 tw11774421524353993513 tw5090674188461549747 tw1790110646845769059 tw9480464190576698872 tw13309513915190395984 tw1542478268381454281 tw194032780799359677 tw7726845337724856508 tw363648376578596906 tw17783047434264644553 tw4505744649010885093 tw12247858999284925789 tw12448402922419215569 tw8210349360675792427 tw3397856176516688439 tw11524378678504666416 tw145221141254088494 tw15684971035001161952 tw1981145582662314633 tw11639474460593611342 tw7961766074859730025 tw6101838447170288294 tw18406194544573192215 tw18358048371533062623 tw10451274882437588260 tw8287587219880333822 tw7060221855919121727 tw2756525216363661460 tw11445515434606325002 tw9724547971588302007 tw3069088204101541332 tw11982681936693060157 tw7658862371212228378 tw15182065466940984169 tw4820369232432206962 tw11190556995023324342 tw10353960157441168405 tw8594619167483625283 tw14982040467019761588 tw16731909620560424299 tw13791013223114992386 tw1300891103378265538 tw2658001412133166516 tw7508706638310961576 tw9375592475220335574 tw13966683067274239641 tw16544697443017093746 tw9708293719107576248 tw12869963245370146954 tw9512026941088854635 tw5604683022990005198 tw14909163314689314698 tw2612080553680277090:True)
open PySem PySem.W PyProof.Rows
set_option maxRecDepth 100000 in
set_option maxHeartbeats 0 in
theorem PySem.Challenge.cw_rollcode_k34_doors_that_agree_holds : PySem.Challenge.rw_rollcode_k34_doors_that_agree.Holds := by
 w_on;o_law;k_head;(case hw=>w_witness2)
 k_fill
 refine Lw.vt (l:=PySem.Challenge.rw_rollcode_k34_doors_that_agree) rfl rfl (fun w h Y=>PySem.W.kIn_of Y) ?F
 case F=>
  intro w mg fa h KX G hmg;refine' Lw.BP KX G hmg ?aCD ?pgD ?hdD ?poD ?saD ?mkD ?kcD ?Fs ?pi ?Go ?Gs ?Fz ?Fa ?Fr ?Gr ?A0 ?A1 ?A2 ?A3 ?A4 ?A5 ?A6 ?A7 ?A8 ?A9 ?A10 ?A11 ?A12 ?A13 ?A14 ?A15 ?A16 ?A17 ?A18 ?A19 ?A20 ?A21 ?A22 ?A23 ?A24 ?A25 ?A26 ?A27 ?A28 ?A29 ?A30 ?A31 ?A32 ?A33 ?A34 ?A35 ?A36 ?A37 ?A38 ?A39 ?A40 ?A41 ?A42 ?A43 ?A44 ?A45 ?A46 ?A47 ?A48 ?A49 ?A50 ?A51 ?A52 ?A53 ?A54 ?a55 ?l55 ?c55 ?k55 ?yg0 ?yg1 ?yg2 ?yg3 ?yg4 ?z0 ?z1 ?z2 ?z3 ?z4 ?z5 ?z6 ?z7 ?z8 ?z9 ?z10 ?z11 ?z12 ?z13 ?z14 ?z15 ?z16 ?z17 ?z18 ?z19 ?z20
  (case aCD|pgD|hdD|poD|saD|mkD|kcD|Fs|pi|Go|Gs|Fz|Fa|Fr|Gr=>k_is)
  (case A0|A1|A2|A3|A4|A5|A6|A7|A8|A9|A10|A11|A12|A13|A14|A15=>refine' L3.wG KX G ?ya ?yl ?yc ?yk;case ya|yl|yc|yk=>k_is)
  (case A16|A17|A18|A19|A20|A21|A22|A23|A24|A25|A26|A27|A28|A29|A30=>refine' L3.B2 ?ya ?yi ?yl ?yc ?yk;case ya|yi|yl|yc|yk=>k_is)
  (case A31|A32|A33|A34|A35|A36|A37|A38|A39|A40|A41|A42|A43|A44|A45|A46|A47|A48|A49|A50|A51|A52|A53|A54=>refine' L3.wG KX G ?ya ?yl ?yc ?yk;case ya|yl|yc|yk=>k_is)
  (case a55|l55|c55|k55|yg0|yg1|yg2|yg3|yg4|z0|z1|z2|z3|z4|z5|z6|z7|z8|z9|z10|z11|z12|z13|z14|z15|z16|z17|z18|z19|z20=>k_is)